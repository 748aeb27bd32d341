import PyProof.Rows.All
import Wide.All
import OpenK.AllK
import Wide.FinOn
import Lean
import PyProof.EqAt
import PyProof.EqKinds
import PyProof.TupleCall
import PyProof.DictUpdate
import KE.KDictOf
import PyProof.AttrMissHeap
import KE.KSortTup
import KE.KItemsList
import PyProof.DictWalks
import PyProof.Rows.TupDisplay
import KE.KEqDict
import PyProof.NeKinds
import PySem.Challenge.RW_viewwood_k31_whole_trees_of_drawings
set_option Elab.async false
set_option linter.all false
set_option maxRecDepth 100000
set_option maxHeartbeats 4000000
namespace PySem
open Sem (wp)
section
variable {prog:Program}{w:World}{K:Type} [DecidableEq K] (knd:KeyKind prog w K)
inductive ItemsTup (h:Heap):List (List K)→List Value→Prop
 | nil:ItemsTup h [] []
 | cons {k:List K} {b:Addr} {kss:List (List K)} {vs:List Value}:IsTupleKey knd h k b→ItemsTup h kss vs→ItemsTup h (k::kss) (.ref b::vs)
def IsPathKey (h:Heap) (kss:List (List K)) (a:Addr):Prop:=∃ o items n,h.get? a=some o∧o.cls=.type "tuple" ∧ o.data=.seq items n∧ItemsTup knd h kss items.toList
variable {knd}
theorem ItemsTup.inj {h:Heap}{x y:List (List K)}{vs:List Value}(hx:ItemsTup knd h x vs) (hy:ItemsTup knd h y vs):x=y:=by
 induction hx generalizing y with
 | nil=>(cases hy; rfl)
 | cons h1 _ ih=>cases hy with | cons h2 t2=>rw [h1.inj h2,ih t2]
theorem ItemsTup.keeps {h h':Heap}{d:Addr}{o:Obj}{es:Array DictEntry}{ep:Nat}{x:List (List K)}{vs:List Value}(hx:ItemsTup knd h x vs) (ho:h.get? d=some o) (hd:o.data=.dict es ep) (hs:Heap.SameBut d h h'):ItemsTup knd h' x vs:=by
 induction hx with
 | nil=>exact .nil
 | cons h1 _ ih=>exact .cons (h1.keeps ho hd hs) ih
theorem IsPathKey.typeIs {s:Shared}{kss:List (List K)}{a:Addr}(x:IsPathKey knd s.heap kss a):s.TypeIs (.ref a) "tuple" := by
 obtain ⟨o,_,_,e,c,_⟩:=x;exact ⟨o,e,c⟩
theorem IsPathKey.inj {h:Heap}{a:Addr}{x y:List (List K)}(hx:IsPathKey knd h x a) (hy:IsPathKey knd h y a):x=y:=by
 obtain ⟨o,its,n,e1,_,e2,e3⟩:=hx;obtain ⟨o',its',n',f1,_,f2,f3⟩:=hy;cases e1.symm.trans f1;cases e2.symm.trans f2;exact e3.inj f3
theorem IsPathKey.keeps {h h':Heap}{kss:List (List K)}{a d:Addr}{o:Obj}{es:Array DictEntry}{ep:Nat}(x:IsPathKey knd h kss a) (ho:h.get? d=some o) (hd:o.data=.dict es ep) (hs:Heap.SameBut d h h'):IsPathKey knd h' kss a:=by
 obtain ⟨o',its,n,e1,e2,e3,e4⟩:=x
 have hne:a≠d:=by
  intro z;rw [z,ho] at e1;cases e1;rw [hd] at e3;cases e3
 exact ⟨o',its,n,(hs.2 a hne).trans e1,e2,e3,e4.keeps ho hd hs⟩
def zT (knd:KeyKind prog w K) (kss:List (List K)):Int:=reduceHash (Builtin.Tuple.tupleHashOf (kss.map (tupleKeyHash knd)))
def jH (kss:List (List K)):Nat:=(kss.map fun k=>k.length+1).sum+1
variable {A:Around}{E:Value→Shared→Prop}{s:Shared}
theorem jL {kss:List (List K)}{a:Addr}{Q:Int→Shared→Prop}(hu:A.units+1 < cLine) (hk:IsPathKey knd s.heap kss a) (h:Q (zT knd kss) { s with toks:=s.toks+jH kss }) :
  wpAny (model prog w) A (pyHash (.ref a)) Q E s:=by
 have hT:=hk.typeIs;obtain ⟨o,items,n,ho,_,hd,hi⟩:=hk
 (unfold pyHash; first | unfold pyHashByItsType | skip)
 (first | refine wpAny_bind (wpAny_cRoomFor_or (.inr (Nat.lt_of_succ_lt hu)) ?_) | skip)
 refine wpAny_bind (wpAny_specialOf (by exact hT) F.slot_tuple_hash.lookup (?_));show wpAny _ _ (if (some (Value.builtin "tuple.__hash__")==some Value.none)=true then (_) else _) Q E s;rw [if_neg (by intro z; rw [beq_builtin_none] at z; exact Bool.false_ne_true z)];refine wpAny_bind (wpAny_specialOf (by exact hT) F.slot_tuple_hash.lookup (?_));show wpAny _ _ (callSpecialIfBoundUnlessNone? (.ref a) "__hash__" (_) >>= _) Q E s
 refine wpAny_bind (wpAny_callSpecialIfBoundUnlessNone?_slot (by exact hT) F.slot_tuple_hash (wpAny_call_entry F.slot_tuple_hash (by exact hT) F.entry_tuple_hash (?_) (F.args_tuple_hash_1 _)));show wpAny _ _ (Builtin.Tuple.tupleItemsOf (.ref a) >>= (_)) _ _ s
 (refine wpAny_bind (wpAny_tupleItemsOf ho hd (?_)); refine wpAny_bind ?_; rw [← Array.forIn_toList])
 refine wpAny_forIn_list _ (fun rest (b:Array Int) s'=>∃ done left,kss=done++left∧ItemsTup knd s.heap left rest∧b.toList=done.map (tupleKeyHash knd)∧s'={ s with toks:=s.toks+(done.map fun k=>k.length+1).sum }) _ ?_ ?_ _ _ ⟨[],kss,rfl,hi,rfl,rfl⟩
 ·rintro x rest b s' ⟨done,left,rfl,hl,hb,rfl⟩
  cases hl with
  | @cons k b' ks' _ h1 hl' =>
   refine wpAny_bind (wpAny_pyHash_tuple (A:=A.in1) hu h1 ?_)
   first
    | exact wpAny_pure ⟨done++[k],ks',by simp,hl',by simp [hb],by simp [Nat.add_assoc]⟩
    | exact wpAny_bind (wpAny_pure (wpAny_pure ⟨done++[k],ks',by simp,hl',by simp [hb],by simp [Nat.add_assoc]⟩))
 ·rintro b s' ⟨done,left,rfl,hl,hb,rfl⟩
  cases hl;rw [List.append_nil] at h
  (show wpAny _ _ (retInt (Builtin.Tuple.tupleHashOf b.toList)) _ _ _; rw [hb]; refine wpAny_ret_mkInt ?_)
  unfold zT reduceHash jH at h;generalize Builtin.Tuple.tupleHashOf (done.map (tupleKeyHash knd))=hh at h ⊢;show wpAny _ _ (if (decide (-(2:Int) ^ 63≤hh)&&decide (hh < 2 ^ 63))=true then _ else _) Q E _
  by_cases hr:(decide (-(2:Int) ^ 63≤hh)&&decide (hh < 2 ^ 63))=true
  ·(rw [if_pos hr]; rw [if_pos hr] at h)
   exact wpAny_pure (by simpa [Nat.add_assoc] using h)
  ·(rw [if_neg hr]; rw [if_neg hr] at h)
   exact wpAny_bind (wpAny_rule (wpAny_pure (by simpa [Nat.add_assoc] using h)))
theorem Qb {x y:List (List K)}{a b:Addr}{P:Fin→Shared→Prop}(hu:A.units < cLine) (hx:IsPathKey knd s.heap x a) (hy:IsPathKey knd s.heap y b) (h:P (.done (.ret (.bool (decide (x=y))))) s) :
  wpAny (model prog w) A (Builtin.«tuple.__eq__» ⟨[.ref a,.ref b],[]⟩) P E s:=by
 have hTb:=hy.typeIs;obtain ⟨oa,xs,na,hoa,_,hda,hia⟩:=hx;obtain ⟨ob,ys,nb,hob,_,hdb,hib⟩:=hy
 (show wpAny _ _ (isInstance (.ref b) (.type "tuple") >>= _) _ _ s; refine wpAny_bind (wpAny_isInstance hTb isSubtype_tuple_tuple ?_))
 (simp only [Bool.not_true,Bool.false_eq_true,if_false]; refine wpAny_bind (wpAny_tupleItemsOf hoa hda ?_); refine wpAny_bind (wpAny_tupleItemsOf hob hdb ?_); refine wpAny_bind ?_)
 refine wpAny_forIn_list _ (fun rest r s'=>r.1=none∧s'=s∧∃ x' y' xs' ys',rest=List.zip xs' ys'∧ItemsTup knd s.heap x' xs'∧ItemsTup knd s.heap y' ys'∧decide (x'=y')=decide (x=y)∧(xs'.length==ys'.length)=(xs.size==ys.size)) _ ?_ ?_ _ _ ⟨rfl,rfl,x,y,xs.toList,ys.toList,rfl,hia,hib,rfl,by simp⟩
 ·rintro ⟨u,v⟩ rest r s' ⟨hr,rfl,x',y',xs',ys',hz,hx',hy',hdec,hlen⟩
  cases hx' with
  | nil=>simp at hz
  | @cons k1 b1 x'' xs'' h1 hx'' =>
   cases hy' with
   | nil=>simp at hz
   | @cons k2 b2 y'' ys'' h2 hy'' =>
    (simp only [List.zip_cons_cons,List.cons.injEq,Prod.mk.injEq] at hz; obtain ⟨⟨rfl,rfl⟩,rfl⟩:=hz)
    refine wpAny_bind (wpAny_eqBool_tuple hu h1 h2 ?_)
    by_cases hk:k1=k2
    ·subst hk
     (rw [decide_eq_true rfl]; simp only [Bool.not_true,Bool.false_eq_true,if_false])
     refine wpAny_pure ⟨rfl,rfl,x'',y'',xs'',ys'',rfl,hx'',hy'',?_,by simpa using hlen⟩;rw [← hdec]
     (by_cases hxy:x''=y''<;>simp [hxy])
    ·(rw [decide_eq_false hk]; simp only [Bool.not_false,if_true])
     have hf:decide (x=y)=false:=by (rw [← hdec]; simp [hk])
     rw [hf] at h;exact wpAny_bind (wpAny_pure (wpAny_pure (wpAny_pure h)))
 ·rintro ⟨r1,r2⟩ s' ⟨hr,rfl,x',y',xs',ys',hz,hx',hy',hdec,hlen⟩
  (simp only at hr; subst hr; refine wpAny_pure ?_)
  have hfin:(xs.size==ys.size)=decide (x=y):=by
   rw [← hdec,← hlen]
   cases hx' with
   | nil=>(cases hy' with | nil=>simp | cons _ _=>simp)
   | cons _ _=>(cases hy' with | nil=>simp | cons _ _=>simp at hz)
  (show P (.done (.ret (.bool (xs.size==ys.size)))) s'; rw [hfin]; exact h)
theorem xL {x y:List (List K)}{a b:Addr}{Q:Bool→Shared→Prop}(hu:A.units+1 < cLine) (hx:IsPathKey knd s.heap x a) (hy:IsPathKey knd s.heap y b) (h:Q (decide (x=y)) s) :
  wpAny (model prog w) A (eqBool (.ref a) (.ref b)) Q E s:=by
 (unfold eqBool; try with_reducible refine wpAny_holding ?_)
 show wpAny _ _ (if (Value.ref a==Value.ref b)=true then (_) else _) Q E s
 by_cases hab:(Value.ref a==Value.ref b)=true
 ·rw [if_pos hab]
  have e:a=b:=by (have:=eq_of_beq hab; injection this)
  subst e;obtain rfl:=hx.inj hy;exact wpAny_bind (wpAny_rule (wpAny_pure (by simpa using h)))
 ·rw [if_neg hab]
  exact wpAny_bind (wpAny_richCompare_same_room (op:=.Eq) hx.typeIs hy.typeIs F.slot_tuple_eq (wpAny_call_entry F.slot_tuple_eq hx.typeIs F.entry_tuple_eq (Qb (A:=A.in1) hu hx hy ⟨_,rfl,(fun e=>nomatch e),wpAny_truthy_bool h⟩) (F.args_tuple_eq_2 _ _)) (Nat.lt_of_succ_lt hu))
theorem Q9 (n:Nat) {ks:List K}{a:Addr}{Q:Bool→Shared→Prop}(hk:IsTupleKey knd s.heap ks a) (h:Q true s):wpAny (model prog w) A (eqIsQuiet (n+1) (.ref a)) Q E s:=by
 have hT:=hk.typeIs;obtain ⟨o,items,m,ho,_,hd,hi⟩:=hk
 (unfold eqIsQuiet; refine wpAny_bind (wpAny_specialOf hT F.slot_tuple_eq.lookup ?_))
 (show wpAny _ _ (isInstance (.ref a) (.type "tuple") >>= _) _ _ s; refine wpAny_bind (wpAny_isInstance hT isSubtype_tuple_tuple ?_))
 (simp only [Bool.not_true,Bool.false_eq_true,if_false]; refine wpAny_bind (wpAny_seqItems ho hd ?_); refine wpAny_bind ?_)
 (show wpAny _ _ (forIn items _ _) _ _ s; rw [← Array.forIn_toList])
 refine wpAny_forIn_list _ (fun rest r s'=>r.1=none∧s'=s∧∀ v∈rest,carriedByValue v=true) _ ?_ ?_ _ _ ⟨rfl,rfl,hi.byValue⟩
 ·rintro v rest r s' ⟨hr,rfl,hall⟩
  (rw [eqIsQuiet_byValue _ (hall v List.mem_cons_self)]; refine wpAny_bind (wpAny_pure ?_))
  (simp only [Bool.not_true,Bool.false_eq_true,if_false]; exact wpAny_pure ⟨rfl,rfl,fun u hu'=>hall u (List.mem_cons_of_mem _ hu')⟩)
 ·rintro ⟨r1,r2⟩ s' ⟨hr,rfl,_⟩
  (simp only at hr; subst hr; exact wpAny_pure h)
theorem Zn {kss:List (List K)}{a:Addr}{Q:Bool→Shared→Prop}(hk:IsPathKey knd s.heap kss a) (h:Q true s):wpAny (model prog w) A (eqIsQuiet 8 (.ref a)) Q E s:=by
 have hT:=hk.typeIs;obtain ⟨o,items,m,ho,_,hd,hi⟩:=hk
 (unfold eqIsQuiet; refine wpAny_bind (wpAny_specialOf hT F.slot_tuple_eq.lookup ?_))
 (show wpAny _ _ (isInstance (.ref a) (.type "tuple") >>= _) _ _ s; refine wpAny_bind (wpAny_isInstance hT isSubtype_tuple_tuple ?_))
 (simp only [Bool.not_true,Bool.false_eq_true,if_false]; refine wpAny_bind (wpAny_seqItems ho hd ?_); refine wpAny_bind ?_)
 (show wpAny _ _ (forIn items _ _) _ _ s; rw [← Array.forIn_toList])
 refine wpAny_forIn_list _ (fun rest r s'=>r.1=none∧s'=s∧∃ x',ItemsTup knd s.heap x' rest) _ ?_ ?_ _ _ ⟨rfl,rfl,_,hi⟩
 ·rintro v rest r s' ⟨hr,rfl,x',hall⟩
  cases hall with
  | cons h1 h2 =>
   refine wpAny_bind (Q9 6 h1 ?_)
   (simp only [Bool.not_true,Bool.false_eq_true,if_false]; exact wpAny_pure ⟨rfl,rfl,_,h2⟩)
 ·rintro ⟨r1,r2⟩ s' ⟨hr,rfl,_⟩
  (simp only at hr; subst hr; exact wpAny_pure h)
end
def lM {prog:Program}{w:World}{K:Type} [DecidableEq K] (knd:KeyKind prog w K):HeapKind prog w (List (List K)) where
 is:=IsPathKey knd
 hash:=zT knd
 draws:=jH
 room:=fun A=>A.units+1 < cLine
 inj:=fun hx hy=>hx.inj hy
 keeps:=fun x ho hd hs=>x.keeps ho hd hs
 pyHash:=fun hu hk h=>jL hu hk h
 eqBool:=fun hu hx hy h=>xL hu hx hy h
 quiet:=fun hk h=>Zn hk h
theorem vW {prog:Program}{w:World}{K:Type} [DecidableEq K] {knd:KeyKind prog w K}{A:Around}(hu:A.units+2 < cLine):(lM knd).room A.in1:=hu
end PySem
namespace L2
open PySem PySem.Spec PyProof.Rows
abbrev Key:=Sum (Option Int) Str
def Jp:Value→Bool
 | .none=>true
 | _=>false
def zI:Key→Value→Bool
 | .inl (some k),v=>Value.isInt k v
 | .inl none,v=>Jp v
 | .inr x,v=>Value.isStrOf x v
def keyH (w:World):Key→Int
 | .inl (some k)=>hashInt k
 | .inl none=>4238894112
 | .inr x=>hashStr w x
theorem nE {v:Value}(h:Jp v=true):v=.none:=by
 cases v<;>first | rfl | cases h
theorem rJ:∀ {k:Key}{v:Value},zI k v=true→(∃ i t,k=Sum.inl (some i)∧v=Value.int i t)∨(∃ x t,k=Sum.inr x∧v=Value.str x t)∨(k=Sum.inl none∧v=Value.none)
 | .inl (some i),v,h=>by
  obtain ⟨t,e⟩:=Value.isInt_shape (k:=i) (v:=v) h;exact .inl ⟨i,t,rfl,e⟩
 | .inl none,v,h=>.inr (.inr ⟨rfl,nE h⟩)
 | .inr x,v,h=>by
  obtain ⟨t,e⟩:=Value.isStrOf_shape (x:=x) (v:=v) h;exact .inr (.inl ⟨x,t,rfl,e⟩)
theorem KG (i:Int) (t:Tok):zI (.inl (some i)) (.int i t)=true:=by simp [zI,Value.isInt]
theorem KF (x:Str) (t:Tok):zI (.inr x) (.str x t)=true:=by simp [zI,Value.isStrOf]
theorem WB {a b:Key}(h:a≠b):decide (a=b)=false:=decide_eq_false h
theorem key_ii (a b:Int):decide ((Sum.inl (some a):Key)=Sum.inl (some b))=(a==b):=by
 by_cases e:a=b
 ·subst e; simp
 ·rw [WB fun q=>e (Option.some.inj (Sum.inl.inj q))]
  exact (beq_eq_false_iff_ne.mpr e).symm
theorem key_ss (a b:Str):decide ((Sum.inr a:Key)=Sum.inr b)=decide (a=b):=by
 by_cases e:a=b
 ·subst e; simp
 ·rw [WB fun q=>e (Sum.inr.inj q),decide_eq_false e]
theorem key_is (i:Int) (y:Str):decide ((Sum.inl (some i):Key)=Sum.inr y)=false:=decide_eq_false nofun
theorem key_in (i:Int):decide ((Sum.inl (some i):Key)=Sum.inl none)=false:=decide_eq_false nofun
theorem key_si (x:Str) (j:Int):decide ((Sum.inr x:Key)=Sum.inl (some j))=false:=decide_eq_false nofun
theorem key_sn (x:Str):decide ((Sum.inr x:Key)=Sum.inl none)=false:=decide_eq_false nofun
theorem key_ni (j:Int):decide ((Sum.inl none:Key)=Sum.inl (some j))=false:=decide_eq_false nofun
theorem key_ns (y:Str):decide ((Sum.inl none:Key)=Sum.inr y)=false:=decide_eq_false nofun
theorem KM {prog:Program}{w:World}{A:Around}{E:Value→Shared→Prop}{s:Shared}{Q:Int→Shared→Prop}(h:Q 4238894112 { s with toks:=s.toks+1 }):wpAny (model prog w) A (pyHash .none) Q E s:=by
 unfold pyHash;refine wpAny_bind ?_;rw [cRoomFor,if_neg (by rw [show [Value.none].any Value.onHeap=false from rfl]; exact Bool.false_ne_true)]; refine wpAny_pure ?_
 have ty:s.TypeIs .none "NoneType" := rfl;refine wpAny_bind (wpAny_specialOf ty PySem.F.slot_NoneType_hash.lookup ?_);rw [if_neg (by rw [beq_builtin_none]; exact Bool.false_ne_true)];refine wpAny_bind (wpAny_specialOf ty PySem.F.slot_NoneType_hash.lookup ?_)
 refine wpAny_bind (wpAny_callSpecialIfBoundUnlessNone?_slot ty PySem.F.slot_NoneType_hash
  (wpAny_call_entry PySem.F.slot_NoneType_hash ty PySem.F.entry_NoneType_hash
   (show wpAny _ _ (do ret (← mkInt 4238894112)) _ _ s from wpAny_ret_mkInt ?_) (PySem.F.args_NoneType_hash_1 _)))
 show wpAny _ _ (if (decide (-(2:Int) ^ 63≤4238894112)&&decide ((4238894112:Int) < 2 ^ 63))=true then _ else _) Q E _;rw [if_pos (by decide)];exact wpAny_pure h
theorem W2 {prog:Program}{w:World}{A:Around}{E:Value→Shared→Prop}{s:Shared}{Q:Bool→Shared→Prop}(h:Q true s):wpAny (model prog w) A (eqBool .none .none) Q E s:=by
 unfold eqBool;refine wpAny_holding ?_;refine wpAny_ite_split (fun _ => ?_) (fun hab=>absurd rfl hab);exact wpAny_bind (wpAny_rule (wpAny_pure h))
def lX (prog:Program) (w:World):PySem.KeyKind prog w Key where
 is:=zI
 hash:=keyH w
 inj:=fun v a b ha hb=>by
  rcases rJ ha with ⟨i,t,rfl,rfl⟩ | ⟨x,t,rfl,rfl⟩ | ⟨rfl,rfl⟩<;>rcases rJ hb with ⟨j,u,rfl,e⟩ | ⟨y,u,rfl,e⟩ | ⟨rfl,e⟩<;>cases e<;>rfl
 byValue:=fun k v h=>by
  rcases rJ h with ⟨i,t,rfl,rfl⟩ | ⟨x,t,rfl,rfl⟩ | ⟨rfl,rfl⟩<;>rfl
 pyHash:=fun hv h=>by
  rcases rJ hv with ⟨i,t,rfl,rfl⟩ | ⟨x,t,rfl,rfl⟩ | ⟨rfl,rfl⟩
  ·exact wpAny_pyHash_int h
  ·exact wpAny_pyHash_str h
  ·exact KM h
 eqBool:=fun hu hv h=>by
  rcases rJ hu with ⟨i,t,rfl,rfl⟩ | ⟨x,t,rfl,rfl⟩ | ⟨rfl,rfl⟩<;>rcases rJ hv with ⟨j,u,rfl,rfl⟩ | ⟨y,u,rfl,rfl⟩ | ⟨rfl,rfl⟩
  ·rw [key_ii] at h; exact wpAny_eqBool_int h
  ·rw [key_is] at h; exact SeqAt.EqAt.int_str i t y u _ _ _ _ h
  ·rw [key_in] at h; exact SeqAt.EqAt.int_none i t _ _ _ _ h
  ·rw [key_si] at h; exact SeqAt.EqAt.str_int x t j u _ _ _ _ h
  ·rw [key_ss] at h; exact wpAny_eqBool_str h
  ·rw [key_sn] at h; exact SeqAt.EqAt.str_none x t _ _ _ _ h
  ·rw [key_ni] at h; exact SeqAt.EqAt.none_int j u _ _ _ _ h
  ·rw [key_ns] at h; exact SeqAt.EqAt.none_str y u _ _ _ _ h
  ·rw [decide_eq_true (rfl:(Sum.inl none:Key)=Sum.inl none)] at h; exact W2 h
 «strs» := fun k x t v h=>by
  rcases rJ h with ⟨i,u,rfl,e⟩ | ⟨y,u,rfl,e⟩ | ⟨rfl,e⟩
  ·exact nomatch e
  ·injection e with e1 _
   subst e1;cases v<;>rfl
  ·exact nomatch e
theorem Xq (prog:Program) (w:World) (i:Int) (t:Tok):(lX prog w).is (.inl (some i)) (.int i t)=true:=KG i t
theorem Qg (prog:Program) (w:World):(lX prog w).is (.inl none) .none=true:=rfl
theorem Xp (prog:Program) (w:World) (x:Str) (t:Tok):(lX prog w).is (.inr x) (.str x t)=true:=KF x t
inductive V where
 | non | bl (b:Bool) | int (i:Int) | str (x:Str) | byt (b:Array UInt8) | flt (b:UInt64) | ref (a:Addr) | ty (n:String)
 deriving DecidableEq
def RelV:V→Value→Prop
 | .non,u=>u=Value.none
 | .bl b,u=>u=Value.bool b
 | .int i,u=>∃ t,u=Value.int i t
 | .str x,u=>∃ t,u=Value.str x t
 | .byt b,u=>∃ t,u=Value.bytes b t
 | .flt b,u=>∃ t,u=Value.float b t
 | .ref a,u=>u=Value.ref a
 | .ty n,u=>u=Value.type n
abbrev Vals:List V→List Value→Prop:=Paired RelV
theorem Vals.length {xs:List V}{us:List Value}(r:Vals xs us):xs.length=us.length:=Paired.length r
theorem Vals.get:∀ {xs:List V}{us:List Value}{i:Nat}{x:V},Vals xs us→xs[i]?=some x→∃ u,us[i]?=some u∧RelV x u
 | _,_,_,_,.nil,e=>by simp at e
 | _,_,0,_,.cons r _,e=>by simp at e; subst e; exact ⟨_,rfl,r⟩
 | _,_,i+1,x,.cons _ t,e=>by
  obtain ⟨u,h1,h2⟩:=Vals.get (i:=i) (x:=x) t (by simpa using e);exact ⟨u,by simpa using h1,h2⟩
theorem Vals.set {x:V}{u:Value}(r:RelV x u):∀ {xs:List V}{us:List Value}(i:Nat),Vals xs us→Vals (xs.set i x) (us.set i u)
 | _,_,_,.nil=>.nil
 | _,_,0,.cons _ t=>.cons r t
 | _,_,i+1,.cons q t=>.cons q (Vals.set r i t)
theorem Vals.append:∀ {xs ys:List V}{us ws:List Value},Vals xs us→Vals ys ws→Vals (xs++ys) (us++ws)
 | _,_,_,_,.nil,s=>s
 | _,_,_,_,.cons r t,s=>.cons r (Vals.append t s)
theorem Vals.take:∀ {xs:List V}{us:List Value}(n:Nat),Vals xs us→Vals (xs.take n) (us.take n)
 | _,_,0,_=>.nil
 | _,_,_+1,.nil=>.nil
 | _,_,n+1,.cons r t=>.cons r (Vals.take n t)
theorem Vals.drop:∀ {xs:List V}{us:List Value}(n:Nat),Vals xs us→Vals (xs.drop n) (us.drop n)
 | _,_,0,r=>r
 | _,_,_+1,.nil=>.nil
 | _,_,n+1,.cons _ t=>Vals.drop n t
def RelO:Option V→Option Value→Prop
 | some v,some u=>RelV v u
 | none,none=>True
 | _,_=>False
def KV {κ:Type}:List (κ×V)→List (κ×Value)→Prop:=Paired fun (p:κ×V) (q:κ×Value)=>p.1=q.1∧RelV p.2 q.2
def kV:Key→V
 | .inl none=>.non
 | .inl (some i)=>.int i
 | .inr x=>.str x
inductive HO where
 | lst (xs:List V)
 | tup (xs:List V)
 | dK (kvs:List (Key×V)) | dT (kvs:List (List Key×V)) | dP (kvs:List (List (List Key)×V))
 | set (S:Int→Bool) (n:Nat)
 | ins (C dx:Addr) (fs:List (Str×V))
 | own (x:Addr)
 | xd (fs:List (Str×V))
 | met (f x:Addr)
 | rng (lo hi:Int)
 | frz (o:Obj) (u:HO)
 | tbl (ps:Array Value)
 | ext (φ:Heap→Prop)
abbrev Hp:=Addr→Option HO
def upd (H:Hp) (a:Addr) (o:HO):Hp:=fun b=>if b=a then some o else H b
theorem eQ {H:Hp}{a:Addr}{o:HO}:upd H a o a=some o:=by unfold upd; rw [if_pos rfl]
theorem aQ {H:Hp}{a b:Addr}{o:HO}(h:b≠a):upd H a o b=H b:=by unfold upd; rw [if_neg h]
theorem ne_of {H:Hp}{a b:Addr}{o u:HO}(h:H a=some o) (h':H b=some u) (d:o≠u):a≠b:=by
 intro e; subst e; rw [h] at h'; exact d (Option.some.inj h')
theorem gK {H:Hp}{a b:Addr}{o:HO}(h:H a=some o) (h':H b=none):a≠b:=by
 intro e; subst e; rw [h] at h'; cases h'
def IsTupN (h:Heap) (a:Addr) (items:Array Value):Prop:=∃ o,h.get? a=some o∧o.cls=.type "tuple" ∧ (∃ n,o.data=.seq items n)∧o.dict=none
theorem IsTupN.is {h:Heap}{a:Addr}{items:Array Value}(x:IsTupN h a items):IsTup h a items:=let ⟨o,e,c,d,_⟩:=x; ⟨o,e,c,d⟩
theorem IsTupN.new (h:Heap) (items:Array Value):IsTupN (h.push { cls:=.type "tuple",data:=.seq items }) h.objs.size items:=⟨_,Heap.get?_push_size _ rfl,rfl,⟨_,rfl⟩,rfl⟩
def PKey (H:Hp) (kss:List (List Key)) (b:Addr):Prop:=∃ bs:List Addr,H b=some (.tup (bs.map V.ref))∧Paired (fun (ks:List Key) (c:Addr)=>H c=some (.tup (ks.map kV))) kss bs
section
variable (P:Program) (w:World)
def ObjOk (H:Hp) (h:Heap) (a:Addr):HO→Prop
 | .lst xs=>xs.length≤sizeLine∧∃ (its:List Value) (n:Nat),Vals xs its∧h.get? a=some { cls:=.type "list",data:=.seq its.toArray n }
 | .tup xs=>xs.length≤sizeLine∧∃ its:List Value,Vals xs its∧IsTupN h a its.toArray
 | .dK kvs=>kvs.length≤sizeLine∧(a==sysModules)=false∧∃ vs,KV kvs vs∧h.DictOf (lX P w) a vs
 | .dT kvs=>kvs.length≤sizeLine∧(a==sysModules)=false∧∃ xs:List (List Key×Addr×Value),
   Paired (fun (p:List Key×V) (q:List Key×Addr×Value)=>p.1=q.1∧H q.2.1=some (.tup (p.1.map kV))∧RelV p.2 q.2.2) kvs xs ∧
   ∃ o es ep,h.get? a=some o∧o.ExactDict∧o.data=.dict es ep∧es.toList=xs.map (entryOfKey (tupleKind (lX P w)))∧(xs.map (·.1)).Nodup
 | .dP kvs=>kvs.length≤sizeLine∧(a==sysModules)=false∧∃ xs:List (List (List Key)×Addr×Value),
   Paired (fun (p:List (List Key)×V) (q:List (List Key)×Addr×Value)=>p.1=q.1∧PKey H p.1 q.2.1∧RelV p.2 q.2.2) kvs xs ∧
   ∃ o es ep,h.get? a=some o∧o.ExactDict∧o.data=.dict es ep∧es.toList=xs.map (entryOfKey (lM (lX P w)))∧(xs.map (·.1)).Nodup
 | .set S n=>h.SetOf (intKind P w) a S n
 | .ins C dx fs=>H dx=some (.own a)∧fs.length≤1000∧dx≠a∧h.get? a=some (PySem.W.instObj C dx) ∧
   ∃ mA,h.Ns1 dx mA∧(∀ f,RelO (fs.lookup f) (mA f))∧PySem.Within mA (fs.map (·.1))
 | .own _=>∃ o,h.get? a=some o
 | .xd fs=>∃ mA,h.Ns1 a mA∧∀ f,RelO (fs.lookup f) (mA f)
 | .rng lo hi=>∃ t u v,h.get? a=some { cls:=.type "range",data:=.fields #[.int lo t,.int hi u,.int 1 v] }
 | .frz o u=>h.get? a=some o∧ObjOk H h a u
 | .tbl ps=>h.get? a=some { cls:=.none,data:=.fields ps }
 | .met f x=>h.get? a=some (PySem.W.methodObj (.ref f) (.ref x))
 | .ext φ=>φ h∧(∃ o,h.get? a=some o)∧∀ h1 h2:Heap,φ h1→(∀ o,h1.get? a=some o→h2.get? a=some o)→φ h2
def HOk (H:Hp) (h:Heap):Prop:=∀ a o,H a=some o→ObjOk P w H h a o
end
section
variable {P:Program}{w:World}{H H':Hp}{h h':Heap}{a:Addr}{o:HO}
theorem ObjOk.lt (x:ObjOk P w H h a o):a < h.objs.size:=by
 cases o with
 | lst xs=>obtain ⟨_,_,_,_,e⟩:=x; exact Heap.lt_size e
 | tup xs=>obtain ⟨_,_,_,o,e,_⟩:=x; exact Heap.lt_size e
 | dK kvs=>obtain ⟨_,_,_,_,o,_,_,e,_⟩:=x; exact Heap.lt_size e
 | dT kvs=>obtain ⟨_,_,_,_,o,_,_,e,_⟩:=x; exact Heap.lt_size e
 | dP kvs=>obtain ⟨_,_,_,_,o,_,_,e,_⟩:=x; exact Heap.lt_size e
 | set S n=>obtain ⟨o,_,_,_,e,_⟩:=x; exact Heap.lt_size e
 | ins C dx fs=>obtain ⟨_,_,_,e,_⟩:=x; exact Heap.lt_size e
 | own y=>obtain ⟨_,e⟩:=x; exact Heap.lt_size e
 | xd fs=>obtain ⟨_,⟨_,_,_,e,_⟩,_⟩:=x; exact Heap.lt_size e
 | rng lo hi=>obtain ⟨_,_,_,e⟩:=x; exact Heap.lt_size e
 | frz ob u=>obtain ⟨e,_⟩:=x; exact Heap.lt_size e
 | tbl ps=>exact Heap.lt_size (show h.get? a=some _ from x)
 | met f y=>exact Heap.lt_size (show h.get? a=some _ from x)
 | ext φ=>obtain ⟨_,⟨_,e⟩,_⟩:=x; exact Heap.lt_size e
theorem Paired.mapP {α β:Type}{F G:α→β→Prop}:∀ {l₁:List α}{l₂:List β},Paired F l₁ l₂→(∀ a b,F a b→G a b)→Paired G l₁ l₂
 | _,_,.nil,_=>.nil
 | _,_,.cons r t,f=>.cons (f _ _ r) (Paired.mapP t f)
theorem PKey.mono {kss:List (List Key)}{b:Addr}(x:PKey H kss b) (ht:∀ b xs,H b=some (.tup xs)→H' b=some (.tup xs)):PKey H' kss b :=
 let ⟨bs,e,r⟩:=x; ⟨bs,ht _ _ e,Paired.mapP r fun _ _ z=>ht _ _ z⟩
theorem ObjOk.stay (x:ObjOk P w H h a o) (k:∀ b u,(b=a∨H b=some (.own a))→h.get? b=some u→h'.get? b=some u)
  (ho:∀ b,H b=some (.own a)→H' b=some (.own a)) (ht:∀ b xs,H b=some (.tup xs)→H' b=some (.tup xs)):ObjOk P w H' h' a o:=by
 induction o with
 | lst xs=>obtain ⟨z,its,n,r,e⟩:=x; exact ⟨z,its,n,r,k _ _ (.inl rfl) e⟩
 | tup xs=>obtain ⟨z,its,r,ob,e,c⟩:=x; exact ⟨z,its,r,ob,k _ _ (.inl rfl) e,c⟩
 | dK kvs=>obtain ⟨z,y,vs,r,ob,es,ep,e,c⟩:=x; exact ⟨z,y,vs,r,ob,es,ep,k _ _ (.inl rfl) e,c⟩
 | dT kvs =>
  obtain ⟨z,y,xs,r,ob,es,ep,e,c⟩:=x;exact ⟨z,y,xs,Paired.mapP r fun p q z=>⟨z.1,ht _ _ z.2.1,z.2.2⟩,ob,es,ep,k _ _ (.inl rfl) e,c⟩
 | dP kvs =>
  obtain ⟨z,y,xs,r,ob,es,ep,e,c⟩:=x;exact ⟨z,y,xs,Paired.mapP r fun p q z=>⟨z.1,z.2.1.mono ht,z.2.2⟩,ob,es,ep,k _ _ (.inl rfl) e,c⟩
 | set S n=>obtain ⟨ob,es,ep,t,e,c⟩:=x; exact ⟨ob,es,ep,t,k _ _ (.inl rfl) e,c⟩
 | ins C dx fs =>
  obtain ⟨d,z,ne,e,mA,⟨od,es,ep,e2,c⟩,r⟩:=x;exact ⟨ho _ d,z,ne,k _ _ (.inl rfl) e,mA,⟨od,es,ep,k _ _ (.inr d) e2,c⟩,r⟩
 | own y=>obtain ⟨ob,e⟩:=x; exact ⟨ob,k _ _ (.inl rfl) e⟩
 | xd fs=>obtain ⟨mA,⟨od,es,ep,e,c⟩,r⟩:=x; exact ⟨mA,⟨od,es,ep,k _ _ (.inl rfl) e,c⟩,r⟩
 | rng lo hi=>obtain ⟨t,u,v,e⟩:=x; exact ⟨t,u,v,k _ _ (.inl rfl) e⟩
 | frz ob u ih=>obtain ⟨e,q⟩:=x; exact ⟨k _ _ (.inl rfl) e,ih q⟩
 | tbl ps =>
  have e:h.get? a=some { cls:=.none,data:=.fields ps }:=x;show h'.get? a=some { cls:=.none,data:=.fields ps };exact k a _ (.inl rfl) e
 | met f y =>
  have e:h.get? a=some (PySem.W.methodObj (.ref f) (.ref y)):=x;show h'.get? a=some (PySem.W.methodObj (.ref f) (.ref y));exact k a _ (.inl rfl) e
 | ext φ=>obtain ⟨p,⟨o,e⟩,st⟩:=x; exact ⟨st _ _ p fun o q=>k _ _ (.inl rfl) q,⟨o,k _ _ (.inl rfl) e⟩,st⟩
theorem HOk.lt (x:HOk P w H h) (e:H a=some o):a < h.objs.size:=(x a o e).lt
theorem HOk.fresh (x:HOk P w H h) (e:h.objs.size≤a):H a=none:=by
 cases q:H a with
 | none=>rfl
 | some u=>exact absurd (Nat.lt_of_lt_of_le (x.lt q) e) (Nat.lt_irrefl _)
theorem HOk.kept (x:HOk P w H h) (k:∀ b u,h.get? b=some u→h'.get? b=some u):HOk P w H h':=fun a o e =>
 (x a o e).stay (fun b u _ q=>k b u q) (fun _ q=>q) fun _ _ q=>q
theorem HOk.laid (x:HOk P w H h) (k:∀ b u,h.get? b=some u→h'.get? b=some u) (hp:h.objs.size≤a) (new:ObjOk P w (upd H a o) h' a o):HOk P w (upd H a o) h':=fun b u e=>by
 have hn:=x.fresh hp
 by_cases hb:b=a
 ·subst hb; rw [eQ] at e; cases e; exact new
 ·rw [aQ hb] at e
  exact (x b u e).stay (fun c v _ q=>k c v q) (fun c q=>by rw [aQ (gK q hn)]; exact q) fun c xs q=>by rw [aQ (gK q hn)]; exact q
end
def Rd (H:Hp) (a:Addr) (u:HO):Prop:=H a=some u∨∃ o,H a=some (.frz o u)
theorem Rd.ok {P:Program}{w:World}{H:Hp}{h:Heap}{a:Addr}{u:HO}(r:Rd H a u) (x:HOk P w H h):ObjOk P w H h a u:=by
 rcases r with r | ⟨o,r⟩
 ·exact x a u r
 ·obtain ⟨_,q⟩:=x a _ r
  exact q
def Mut:Option HO→Prop
 | some (.lst _)=>True
 | some (.dK _)=>True
 | some (.dT _)=>True
 | some (.dP _)=>True
 | some (.set _ _)=>True
 | some (.ins _ _ _)=>True
 | some (.ext _)=>True
 | _=>False
section
variable {P:Program}{w:World}{H:Hp}{h h':Heap}{x e:Addr}{o':HO}
theorem HOk.write (ok:HOk P w H h) (mu:Mut (H x)) (he:e=x∨H e=some (.own x)) (k:∀ b u,b≠e→h.get? b=some u→h'.get? b=some u) (heo:∃ u,h'.get? e=some u)
  (new:ObjOk P w (upd H x o') h' x o'):HOk P w (upd H x o') h':=fun b u q=>by
 have nown:∀ c y,H c=some (.own y)→c≠x:=fun c y r z=>by subst z; rw [r] at mu; exact mu
 have ntup:∀ c xs,H c=some (.tup xs)→c≠x:=fun c xs r z=>by subst z; rw [r] at mu; exact mu
 by_cases hb:b=x
 ·subst hb; rw [eQ] at q; cases q; exact new
 ·rw [aQ hb] at q
  by_cases hbe:b=e
  ·have q':H b=some (.own x):=by
    rcases he with z | z
    ·exact absurd (hbe.trans z) hb
    ·rw [hbe]; exact z
   rw [q] at q'; cases q'
   obtain ⟨v,hv⟩:=heo;exact ⟨v,by rw [hbe]; exact hv⟩
  ·refine (ok b u q).stay (fun c v hc r=>k c v ?_ r) (fun c r=>by rw [aQ (nown c b r)]; exact r) fun c xs r=>by rw [aQ (ntup c xs r)]; exact r
   rcases hc with rfl | hc
   ·exact hbe
   ·rintro rfl
    rcases he with z | z
    ·exact nown c b hc z
    ·rw [hc] at z; cases z; exact hb rfl
end
structure Un (fs ex:List Addr) (H H':Hp) (h h':Heap):Prop where
 keep:∀ b o,h.get? b=some o→H b=none→b∉fs→b∉ex→h'.get? b=some o
 slot:∀ b o,h.get? b=some o→H b=none→b∈fs→b∉ex→∃ sl,h'.get? b=some { o with slots:=sl }
 free:∀ b o,h.get? b=some o→H b=none→b∉ex→H' b=none
 there:∀ b o,h.get? b=some o→b∉ex→∃ o',h'.get? b=some o'
 tups:∀ b xs,H b=some (.tup xs)→H' b=some (.tup xs)
 frzs:∀ b o u,H b=some (.frz o u)→H' b=some (.frz o u)
 tbls:∀ b ps,H b=some (.tbl ps)→∃ more,H' b=some (.tbl (ps++more))
section
variable {fs fs' ex ex':List Addr}{H H1 H2:Hp}{h h1 h2 h':Heap}{a x e:Addr}{o:HO}
theorem Un.any (u:Un fs ex H H1 h h1) {b:Addr}{ob:Obj}(q:h.get? b=some ob) (n:H b=none) (hx:b∉ex):∃ sl,h1.get? b=some { ob with slots:=sl }:=by
 by_cases hb:b∈fs
 ·exact u.slot b ob q n hb hx
 ·exact ⟨ob.slots,u.keep b ob q n hb hx⟩
theorem Un.kept (k:∀ b u,h.get? b=some u→h'.get? b=some u):Un fs ex H H h h' :=
 ⟨fun b ob q _ _ _=>k b ob q,fun b ob q _ _ _=>⟨ob.slots,k b ob q⟩,fun _ _ _ n _=>n,fun b ob q _=>⟨ob,k b ob q⟩,fun _ _ q=>q,fun _ _ _ q=>q,fun _ ps q=>⟨#[],by rw [q]; simp⟩⟩
theorem Un.refl:Un fs ex H H h h:=Un.kept fun _ _ q=>q
theorem Un.laid (k:∀ b u,h.get? b=some u→h'.get? b=some u) (hp:h.objs.size≤a) (hn:H a=none):Un fs ex H (upd H a o) h h' where
 keep:=fun b u q _ _ _=>k b u q
 slot:=fun b u q _ _ _=>⟨u.slots,k b u q⟩
 free:=fun b u q n _=>by rw [aQ (Nat.ne_of_lt (Nat.lt_of_lt_of_le (Heap.lt_size q) hp))]; exact n
 there:=fun b u q _=>⟨u,k b u q⟩
 tups:=fun b xs q=>by rw [aQ (gK q hn)]; exact q
 frzs:=fun b u xs q=>by rw [aQ (gK q hn)]; exact q
 tbls:=fun b ps q=>⟨#[],by rw [aQ (gK q hn),q]; simp⟩
theorem Un.write (mu:Mut (H x)) (he:e=x∨H e=some (.own x)) (k:∀ b u,b≠e→h.get? b=some u→h'.get? b=some u) (heo:∃ u,h'.get? e=some u):Un fs ex H (upd H x o) h h':=by
 have hx:∀ b,H b=none→b≠x:=fun b n z=>by subst z; rw [n] at mu; exact mu
 have hb:∀ b,H b=none→b≠e:=fun b n z=>by
  subst z
  rcases he with r | r
  ·exact hx b n r
  ·rw [n] at r; cases r
 have hm:∀ b u,H b=some u→¬ Mut (some u)→b≠x:=fun b u q nm z=>by subst z; rw [q] at mu; exact nm mu
 refine ⟨fun b u q n _ _=>k b u (hb b n) q,fun b u q n _ _=>⟨u.slots,k b u (hb b n) q⟩,fun b u q n _=>by rw [aQ (hx b n)]; exact n,fun b u q _ => ?_,
  fun b xs q=>by rw [aQ (hm b _ q fun z=>z)]; exact q,fun b u xs q=>by rw [aQ (hm b _ q fun z=>z)]; exact q,fun b ps q=>⟨#[],by rw [aQ (hm b _ q fun z=>z),q]; simp⟩⟩
 by_cases hbe:b=e
 ·subst hbe; exact heo
 ·exact ⟨u,k b u hbe q⟩
end
def trk (h:Heap) (H:Hp):List Addr:=(List.range h.objs.size).filter fun a=>(H a).isSome
def Qu (h:Heap) (H:Hp):Heap:=PySem.W.hideAll h (trk h H)
theorem KL (h:Heap) (H:Hp):(Qu h H).objs.size=h.objs.size:=PySem.W.hideAll_size _ _
theorem WW {h:Heap}{H:Hp}{b:Addr}{o:Obj}(e:h.get? b=some o) (n:H b=none):(Qu h H).get? b=some o :=
 PySem.W.hideAll_get _ e fun hm=>by
  have q:(H b).isSome=true:=(List.mem_filter.mp hm).2;rw [n] at q; simp at q
theorem of_hidT {h:Heap}{H:Hp}{b:Addr}{o:Obj}(e:(Qu h H).get? b=some o):h.get? b=some o∧H b=none:=by
 have e':h.get? b=some o:=PySem.W.of_hideAll (trk h H) e;refine ⟨e',?_⟩
 cases q:H b with
 | none=>rfl
 | some x =>
  have hm:b∈trk h H:=List.mem_filter.mpr ⟨List.mem_range.mpr (Heap.lt_size e'),by simp [q]⟩;have z:(Qu h H).get? b=none:=PySem.W.hideAll_none (trk h H) hm;rw [z] at e; cases e
def allNews (g h:Heap) (L:Addr):List (Addr×Obj):=(List.range h.objs.size).filterMap fun a=>if a=L∨(g.get? a).isSome=true then none else (h.get? a).map fun o=>(a,o)
def rest (g h:Heap) (L d:Addr):List (Addr×Obj):=(allNews g h L).filter fun p=>decide (p.1≠d)
structure Mod (K:PySem.W.Frag) (mg:Str→Option Value) (base:Heap):Prop where
 kin:K.In base
 glob:base.Ns mainGlobals mg
 blt:∃ mb,base.Ns builtinsNs mb∧∀ x:Str,x ≠ "__name__" → mb x=bootBuiltins x
 nolimit:base.NoLimit
structure Cx where
 prog:Program
 w:World
 K:PySem.W.Frag
 mg:Str→Option Value
 base:Heap
 A:Around
 N:List Str
 s₀:Shared
 H₀:Hp
 env:Env
 outer:List Env
 stack:List Env
 ex:List Addr
 fn:Str→Bool
 calm:Bool
 pn:List (Addr×Obj)
 xe:Value→Shared→Prop
def frs (l:List Env):List Addr:=l.filterMap (·.frame)
abbrev Cx.fs (X:Cx):List Addr:=frs X.outer
def Vis (sc:Scope) (x:Str):Prop:=sc.names.lookup x=some .local∨sc.names.lookup x=some .cell∨sc.names.lookup x=some .free
def Loc (sc:Scope) (x:Str):Prop:=sc.names.lookup x=some .local∨sc.names.lookup x=some .cell
def Look (env:Env) (h:Heap) (m:Str→Option Value) (x:Str) (u:Value):Prop :=
 (env.kindOf x=some .local∧m x=some u)∨((env.kindOf x=some .cell∨env.kindOf x=some .free)∧∃ c,env.cells.lookup x=some c∧h.IsCell c (some u))
structure Cx.Ok (X:Cx):Prop where
 mod:Mod X.K X.mg X.base
 kind:X.env.scope.kind=.function
 glob:X.env.globals=mainGlobals
 blt:X.env.builtins=builtinsNs
 above:X.s₀.heap.objs.size≤X.env.locals
 inj:∀ x y c,X.env.cells.lookup x=some c→X.env.cells.lookup y=some c→x=y
 has:∀ x,(X.env.kindOf x=some .cell∨X.env.kindOf x=some .free)→∃ c,X.env.cells.lookup x=some c
 cab:∀ x c,X.fn x=true→X.env.cells.lookup x=some c→X.s₀.heap.objs.size≤c
 hd:X.calm=true→X.A.handled=none
 frames:X.A.frames=some X.stack
 stk:X.stack=X.outer∨(X.stack=X.env::X.outer∧X.env.frame=some X.env.locals)
 exf:∀ b∈X.ex,b≠X.env.locals∧∀ x c,X.env.cells.lookup x=some c→c≠b
 bs:∀ b o,X.base.get? b=some o→X.s₀.heap.get? b=some o∧X.H₀ b=none
 bsz:X.base.objs.size≤X.s₀.heap.objs.size
 noex:∀ b o,X.base.get? b=some o→b∉X.ex
 exfs:∀ b∈X.ex,b∉X.fs
 funs:X.s₀.heap.FunFrames X.base X.outer
 frf:∀ b∈X.fs,X.H₀ b=none
structure Inv (X:Cx) (pins:List (Addr×Obj)) (σ:List (Option V)) (H:Hp) (s:Shared):Prop where
 ok:X.Ok
 os:s.os=X.s₀.os
 bare:AllBare s.gens
 base:Un X.fs X.ex X.H₀ H X.s₀.heap s.heap
 loc:∃ m,s.heap.Ns X.env.locals m∧∀ (i:Nat) (x:Str) (v:V),X.N[i]?=some x→σ[i]?=some (some v)→Vis X.env.scope x→∃ u,RelV v u∧Look X.env s.heap m x u
 cell:∀ x c,X.env.cells.lookup x=some c→∃ v,s.heap.IsCell c v
 free:H X.env.locals=none
 freeC:∀ x c,X.env.cells.lookup x=some c→H c=none
 pin:∀ p∈X.pn++pins,s.heap.get? p.1=some p.2∧H p.1=none∧p.1≠X.env.locals∧p.1∉X.fs∧∀ v,p.2.data≠.cell v
 hok:HOk X.prog X.w H s.heap
 len:σ.length=X.N.length
section
variable {X:Cx}{pins:List (Addr×Obj)}{σ:List (Option V)}{H H':Hp}{s:Shared}{h':Heap}
theorem Cx.Ok.nofr (ok:X.Ok) {b:Addr}{o:Obj}(e:X.base.get? b=some o):b∉X.fs:=fun hb=>by
 have:=(ok.funs.mem hb).1;rw [e] at this; cases this
theorem Inv.bs (I:Inv X pins σ H s):∀ b o,X.base.get? b=some o→s.heap.get? b=some o∧H b=none:=fun b o e =>
 ⟨I.base.keep b o (I.ok.bs b o e).1 (I.ok.bs b o e).2 (I.ok.nofr e) (I.ok.noex b o e),I.base.free b o (I.ok.bs b o e).1 (I.ok.bs b o e).2 (I.ok.noex b o e)⟩
theorem Inv.bk (I:Inv X pins σ H s):∀ b o,X.base.get? b=some o→s.heap.get? b=some o:=fun b o e=>(I.bs b o e).1
theorem Inv.mod (I:Inv X pins σ H s):Mod X.K X.mg X.base:=I.ok.mod
theorem Inv.kIn (I:Inv X pins σ H s):X.K.In s.heap:=I.ok.mod.kin.keeps I.bk
theorem Inv.fr (I:Inv X pins σ H s):∃ m,Fr X.base X.env.locals s.heap m :=
 let ⟨m,hn,_⟩:=I.loc
 ⟨m,hn,I.bk,Nat.le_trans I.ok.bsz I.ok.above⟩
theorem Inv.lt (I:Inv X pins σ H s):X.env.locals < s.heap.objs.size:=let ⟨_,hn,_⟩:=I.loc; hn.lt
theorem Inv.sz (I:Inv X pins σ H s):X.s₀.heap.objs.size≤s.heap.objs.size:=Nat.le_trans I.ok.above (Nat.le_of_lt I.lt)
theorem Inv.nofs (I:Inv X pins σ H s) {a:Addr}(h:s.heap.objs.size≤a):a∉X.fs:=fun hb=>by
 obtain ⟨_,o,ho,_⟩:=I.ok.funs.mem hb;exact absurd (Nat.lt_of_lt_of_le (Heap.lt_size ho) (Nat.le_trans I.sz h)) (Nat.lt_irrefl _)
theorem Inv.cne (I:Inv X pins σ H s):∀ x c,X.env.cells.lookup x=some c→c≠X.env.locals:=fun x c e z=>by
 obtain ⟨v,o,ho,hd⟩:=I.cell x c e;obtain ⟨m,⟨o',es,ep,ho',hd',_⟩,_⟩:=I.loc;rw [z,ho'] at ho; cases ho; rw [hd'] at hd; cases hd
theorem Inv.funs (I:Inv X pins σ H s):s.heap.FunFrames X.base X.outer:=by
 have all:∀ (l:List Env),(∀ b∈frs l,b∈X.fs)→X.s₀.heap.FunFrames X.base l→s.heap.FunFrames X.base l:=by
  intro l
  induction l with
  | nil=>intro _ _; trivial
  | cons env r ih =>
   intro hs hl;obtain ⟨hk,⟨L,o,hf,hn,ho,hd⟩,hr⟩:=hl;have hL:L∈X.fs:=hs L (by unfold frs; rw [List.filterMap_cons,hf]; exact List.mem_cons_self);obtain ⟨sl,e⟩:=I.base.slot L o ho (I.ok.frf L hL) hL fun z=>I.ok.exfs L z hL;exact ⟨hk,⟨L,_,hf,hn,e,hd⟩,ih (fun b hb=>hs b (by unfold frs; rw [List.filterMap_cons,hf]; exact List.mem_cons_of_mem _ hb)) hr⟩
 exact all X.outer (fun _ hb=>hb) I.ok.funs
theorem Inv.stack (I:Inv X pins σ H s):s.heap.FunFrames X.base X.stack:=by
 rcases I.ok.stk with e | ⟨e,hf⟩
 ·rw [e]; exact I.funs
 ·rw [e]
  obtain ⟨m,hn,_⟩:=I.loc;refine .cons (by rw [I.ok.kind]; decide) hf hn ?_ I.funs;exact Heap.get?_none_of_le (Nat.le_trans I.ok.bsz I.ok.above)
theorem Inv.stkSub (I:Inv X pins σ H s):∀ b∈frs X.stack,b∈X.env.locals::X.fs:=fun b hb=>by
 rcases I.ok.stk with e | ⟨e,hf⟩
 ·rw [e] at hb; exact List.mem_cons_of_mem _ hb
 ·rw [e] at hb
  unfold frs at hb;rw [List.filterMap_cons,hf] at hb;exact hb
theorem Inv.stkFree (I:Inv X pins σ H s):∀ b∈frs X.stack,H b=none:=fun b hb=>by
 rcases List.mem_cons.mp (I.stkSub b hb) with e | hb
 ·rw [e]; exact I.free
 ·obtain ⟨_,o,ho,_⟩:=I.ok.funs.mem hb
  exact I.base.free b o ho (I.ok.frf b hb) fun z=>I.ok.exfs b z hb
theorem Inv.step {g':Array GenState}{t':Nat}{d':Drawn}{ch:List Addr}(I:Inv X pins σ H s)
  (hch:∀ b∈ch,(b∈X.ex∨X.s₀.heap.objs.size≤b)∧b≠X.env.locals∧(∀ x c,X.env.cells.lookup x=some c→c≠b)∧∀ p∈X.pn++pins,p.1≠b)
  (keep:∀ b o,b≠X.env.locals→b∉X.fs→b∉ch→s.heap.get? b=some o→H b=none→h'.get? b=some o)
  (slot:∀ b o,b≠X.env.locals→b∈X.fs→b∉ch→s.heap.get? b=some o→H b=none→∃ sl,h'.get? b=some { o with slots:=sl }) (free:∀ b o,b∉ch→s.heap.get? b=some o→H b=none→H' b=none)
  (there:∀ b o,b∉ch→s.heap.get? b=some o→∃ o',h'.get? b=some o')
  (tups:∀ b xs,H b=some (.tup xs)→H' b=some (.tup xs)) (frzs:∀ b o u,H b=some (.frz o u)→H' b=some (.frz o u)) (tbls:∀ b ps,H b=some (.tbl ps)→∃ more,H' b=some (.tbl (ps++more)))
  (ns:∀ m,s.heap.Ns X.env.locals m→h'.Ns X.env.locals m) (hok:HOk X.prog X.w H' h') (hg:AllBare g') :
  Inv X pins σ H' { s with heap:=h',gens:=g',drawn:=d',toks:=t' }:=by
 have neL:∀ b o,X.s₀.heap.get? b=some o→b≠X.env.locals:=fun b o e=>Nat.ne_of_lt (Nat.lt_of_lt_of_le (Heap.lt_size e) I.ok.above)
 have neC:∀ b o,X.s₀.heap.get? b=some o→b∉X.ex→b∉ch:=fun b o e hx hb=>by
  rcases (hch b hb).1 with z | z
  ·exact hx z
  ·exact absurd (Nat.lt_of_lt_of_le (Heap.lt_size e) z) (Nat.lt_irrefl _)
 have cellK:∀ x c,X.env.cells.lookup x=some c→∀ v,s.heap.IsCell c v→h'.IsCell c v:=fun x c e v ⟨o,ho,hd⟩=>by
  have nch:c∉ch:=fun z=>(hch c z).2.2.1 x c e rfl
  by_cases hc:c∈X.fs
  ·obtain ⟨sl,q⟩:=slot c o (I.cne x c e) hc nch ho (I.freeC x c e)
   exact ⟨_,q,hd⟩
  ·exact ⟨o,keep c o (I.cne x c e) hc nch ho (I.freeC x c e),hd⟩
 refine ⟨I.ok,I.os,hg,⟨fun b o e n hb hx => ?_,fun b o e n hb hx => ?_,fun b o e n hx => ?_,fun b o e hx => ?_,fun b xs e=>tups b xs (I.base.tups b xs e),fun b o xs e=>frzs b o xs (I.base.frzs b o xs e),fun b ps e => ?_⟩,?_,fun x c e => ?_,?_,fun x c e => ?_,fun p hp => ?_,hok,I.len⟩
 ·exact keep b o (neL b o e) hb (neC b o e hx) (I.base.keep b o e n hb hx) (I.base.free b o e n hx)
 ·obtain ⟨sl,e1⟩:=I.base.slot b o e n hb hx
  obtain ⟨sl',e2⟩:=slot b _ (neL b o e) hb (neC b o e hx) e1 (I.base.free b o e n hx);exact ⟨sl',e2⟩
 ·obtain ⟨o',e1⟩:=I.base.there b o e hx
  exact free b o' (neC b o e hx) e1 (I.base.free b o e n hx)
 ·obtain ⟨o',e1⟩:=I.base.there b o e hx
  exact there b o' (neC b o e hx) e1
 ·obtain ⟨m1,e1⟩:=I.base.tbls b ps e
  obtain ⟨m2,e2⟩:=tbls b _ e1;exact ⟨m1++m2,by rw [e2,Array.append_assoc]⟩
 ·obtain ⟨m,hn,hl⟩:=I.loc
  refine ⟨m,ns m hn,fun i x v e1 e2 e3 => ?_⟩;obtain ⟨u,r,l⟩:=hl i x v e1 e2 e3;refine ⟨u,r,?_⟩
  rcases l with l | ⟨k,c,e,z⟩
  ·exact .inl l
  ·exact .inr ⟨k,c,e,cellK x c e _ z⟩
 ·obtain ⟨v,z⟩:=I.cell x c e
  exact ⟨v,cellK x c e v z⟩
 ·obtain ⟨m,⟨o,_,_,ho,_⟩,_⟩:=I.loc
  exact free _ o (fun z=>(hch _ z).2.1 rfl) ho I.free
 ·obtain ⟨v,o,ho,hd⟩:=I.cell x c e
  exact free c o (fun z=>(hch c z).2.2.1 x c e rfl) ho (I.freeC x c e)
 ·obtain ⟨e,n,ne,nf,d⟩:=I.pin p hp
  have nch:p.1∉ch:=fun z=>(hch p.1 z).2.2.2 p hp rfl;exact ⟨keep p.1 p.2 ne nf nch e n,free p.1 p.2 nch e n,ne,nf,d⟩
theorem Inv.un {t':Nat}(I:Inv X pins σ H s) (u:Un X.fs [] H H' s.heap h') (hok:HOk X.prog X.w H' h'):Inv X pins σ H' { s with heap:=h',toks:=t' }:=by
 obtain ⟨m,⟨o,es,ep,ho,r⟩,_⟩:=id I.loc;obtain ⟨sl,hL⟩:=u.any ho I.free (by simp)
 exact I.step (g':=s.gens) (d':=s.drawn) (ch:=[]) (fun _ z=>nomatch z) (fun b o _ hb _ e n=>u.keep b o e n hb (by simp)) (fun b o _ hb _ e n=>u.slot b o e n hb (by simp)) (fun b o _ e n=>u.free b o e n (by simp)) (fun b o _ e=>u.there b o e (by simp)) u.tups u.frzs u.tbls (fun m' hm=>by
  obtain ⟨o',es',ep',ho',r'⟩:=hm;rw [ho] at ho'; cases ho'
  exact ⟨_,es',ep',hL,r'⟩) hok I.bare
theorem Inv.call {g':Array GenState}{t':Nat}{d':Drawn}{ch:List Addr}(I:Inv X pins σ H s) (u:Un (frs X.stack) ch H H' s.heap h') (hok:HOk X.prog X.w H' h') (hg:AllBare g')
  (hch:∀ b∈ch,(b∈X.ex∨X.s₀.heap.objs.size≤b)∧b≠X.env.locals∧(∀ x c,X.env.cells.lookup x=some c→c≠b)∧∀ p∈X.pn++pins,p.1≠b) :
  Inv X pins σ H' { s with heap:=h',gens:=g',drawn:=d',toks:=t' }:=by
 obtain ⟨m,⟨o,es,ep,ho,r⟩,_⟩:=id I.loc;obtain ⟨sl,hL⟩:=u.any ho I.free fun z=>(hch _ z).2.1 rfl
 exact I.step (ch:=ch) hch (fun b o hL hb hc e n=>u.keep b o e n (fun z=>(List.mem_cons.mp (I.stkSub b z)).elim hL hb) hc) (fun b o _ _ hc e n=>u.any e n hc) (fun b o hc e n=>u.free b o e n hc) (fun b o hc e=>u.there b o e hc) u.tups u.frzs u.tbls (fun m' hm=>by
  obtain ⟨o',es',ep',ho',r'⟩:=hm;rw [ho] at ho'; cases ho'
  exact ⟨_,es',ep',hL,r'⟩) hok hg
theorem Inv.turned {t':Nat}{it:Addr}(I:Inv X pins σ H s) (k:∀ b o,b≠it→s.heap.get? b=some o→h'.get? b=some o) (hn:H it=none) (hL:it≠X.env.locals)
  (h1:it∈X.ex∨X.s₀.heap.objs.size≤it) (h2:∀ x c,X.env.cells.lookup x=some c→c≠it) (h3:∀ p∈X.pn++pins,p.1≠it):Inv X pins σ H { s with heap:=h',toks:=t' }:=by
 have nit:∀ b u,H b=some u→b≠it:=fun b u e z=>by rw [z,hn] at e; cases e
 refine I.step (g':=s.gens) (d':=s.drawn) (ch:=[it]) (fun b hb => ?_) (fun b o _ _ hc e _=>k b o (fun z=>hc (by simp [z])) e) (fun b o _ _ hc e _=>⟨o.slots,k b o (fun z=>hc (by simp [z])) e⟩) (fun _ _ _ _ n=>n)
  (fun b o hc e=>⟨o,k b o (fun z=>hc (by simp [z])) e⟩) (fun _ _ e=>e) (fun _ _ _ e=>e) (fun b ps e=>⟨#[],by rw [e]; simp⟩) (fun m hm => ?_) (fun b u e => ?_) I.bare
 ·have e:b=it:=by simpa using hb
  subst e;exact ⟨h1,hL,h2,h3⟩
 ·obtain ⟨o,es,ep,ho,r⟩:=hm
  exact ⟨o,es,ep,k _ o (Ne.symm hL) ho,r⟩
 ·refine (I.hok b u e).stay (fun c v hc q=>k c v ?_ q) (fun _ q=>q) fun _ _ q=>q
  rcases hc with z | z
  ·rw [z]; exact nit b u e
  ·exact nit c _ z
theorem Inv.tok (I:Inv X pins σ H s) (t:Nat):Inv X pins σ H { s with toks:=t }:=I.un (h':=s.heap) (t':=t) Un.refl I.hok
theorem Inv.kept {t':Nat}(I:Inv X pins σ H s) (k:∀ b u,s.heap.get? b=some u→h'.get? b=some u):Inv X pins σ H { s with heap:=h',toks:=t' }:=I.un (Un.kept k) (I.hok.kept k)
theorem Inv.laid {a:Addr}{o:HO}{t':Nat}(I:Inv X pins σ H s) (k:∀ b u,s.heap.get? b=some u→h'.get? b=some u) (hp:s.heap.objs.size≤a) (new:ObjOk X.prog X.w (upd H a o) h' a o) :
  Inv X pins σ (upd H a o) { s with heap:=h',toks:=t' }:=I.un (Un.laid k hp (I.hok.fresh hp)) (I.hok.laid k hp new)
theorem Inv.write {x e:Addr}{o:HO}{t':Nat}(I:Inv X pins σ H s) (mu:Mut (H x)) (he:e=x∨H e=some (.own x)) (k:∀ b u,b≠e→s.heap.get? b=some u→h'.get? b=some u) (heo:∃ u,h'.get? e=some u)
  (new:ObjOk X.prog X.w (upd H x o) h' x o):Inv X pins σ (upd H x o) { s with heap:=h',toks:=t' }:=I.un (Un.write mu he k heo) (I.hok.write mu he k heo new)
theorem Inv.weak {σ':List (Option V)}(I:Inv X pins σ H s) (hl:σ'.length=σ.length) (w:∀ (i:Nat) v,σ'[i]?=some (some v)→σ[i]?=some (some v)):Inv X pins σ' H s :=
 ⟨I.ok,I.os,I.bare,I.base,let ⟨m,hn,hl'⟩:=I.loc; ⟨m,hn,fun i x v e1 e2 e3=>hl' i x v e1 (w i v e2) e3⟩,I.cell,I.free,I.freeC,I.pin,I.hok,hl.trans I.len⟩
theorem Inv.pins_of {pins':List (Addr×Obj)}(I:Inv X pins σ H s) (h:∀ p∈pins',s.heap.get? p.1=some p.2∧H p.1=none∧p.1≠X.env.locals∧p.1∉X.fs∧∀ v,p.2.data≠.cell v):Inv X pins' σ H s :=
 ⟨I.ok,I.os,I.bare,I.base,I.loc,I.cell,I.free,I.freeC,fun p hp=>(List.mem_append.mp hp).elim (fun z=>I.pin p (List.mem_append_left _ z)) (h p),I.hok,I.len⟩
theorem Xn {N:List Str}(hN:N.Nodup) {i j:Nat}{x:Str}(a:N[i]?=some x) (b:N[j]?=some x):i=j:=by
 obtain ⟨h1,e1⟩:=List.getElem?_eq_some_iff.mp a;obtain ⟨h2,e2⟩:=List.getElem?_eq_some_iff.mp b;exact (List.getElem_inj hN).mp (e1.trans e2.symm)
theorem jA {M:Model}{A:Around}{E:Value→Shared→Prop}{i:Nat}{x:Str}{v:V}{u:Value}{Q:Unit→Shared→Prop}(I:Inv X pins σ H s) (hN:X.N.Nodup) (hi:X.N[i]?=some x) (hx:Loc X.env.scope x) (r:RelV v u)
  (h:∀ s',Inv X pins (σ.set i (some v)) H s'→(∃ a,Heap.SameBut a s.heap s'.heap∧(a=X.env.locals∨X.env.cells.lookup x=some a))→Q () s') (hf:X.fn x=true∨X.env.scope.names.lookup x=some .local:=by first | exact .inl rfl | exact .inr rfl | assumption):wpAny M A (storeName X.env x u) Q E s:=by
 obtain ⟨m,hn,hl⟩:=id I.loc;have hcls:(X.env.scope.kind==.class || (X.env.scope.kind==.module&&X.env.locals != X.env.globals))=false:=by rw [I.ok.kind]; rfl
 have hiσ:i < σ.length:=by rw [I.len]; exact (List.getElem?_eq_some_iff.mp hi).1
 have cne:=I.cne
 have tracked:∀ {a:Addr} {h':Heap},(∃ o,s.heap.get? a=some o∧H a=none)→Heap.SameBut a s.heap h'→HOk X.prog X.w H h':=fun {a h'} ha hs b ob e=>by
  obtain ⟨_,_,hfree⟩:=ha;refine (I.hok b ob e).stay (fun c w' hc q=>(hs.2 c ?_).trans q) (fun _ q=>q) fun _ _ q=>q;rintro rfl
  rcases hc with rfl | hc
  ·rw [hfree] at e; cases e
  ·rw [hfree] at hc; cases hc
 rcases hx with hk | hk
 ·refine wpAny_storeName_local hk hn (fun h' hn' hs => ?_) hcls
  obtain ⟨oL,_,_,hoL,_⟩:=id hn;refine h _ ⟨I.ok,I.os,I.bare,⟨fun b o e n hb hx => ?_,fun b o e n hb hx => ?_,I.base.free,fun b o e hx => ?_,I.base.tups,I.base.frzs,I.base.tbls⟩,⟨_,hn',fun j y v' e1 e2 e3 => ?_⟩,fun y c e => ?_,I.free,I.freeC,fun p hp => ?_,tracked ⟨oL,hoL,I.free⟩ hs,by simpa using I.len⟩ ⟨_,hs,.inl rfl⟩
  ·exact (hs.2 b (Nat.ne_of_lt (Nat.lt_of_lt_of_le (Heap.lt_size e) I.ok.above))).trans (I.base.keep b o e n hb hx)
  ·obtain ⟨sl,e1⟩:=I.base.slot b o e n hb hx
   exact ⟨sl,(hs.2 b (Nat.ne_of_lt (Nat.lt_of_lt_of_le (Heap.lt_size e) I.ok.above))).trans e1⟩
  ·obtain ⟨o',e1⟩:=I.base.there b o e hx
   exact ⟨o',(hs.2 b (Nat.ne_of_lt (Nat.lt_of_lt_of_le (Heap.lt_size e) I.ok.above))).trans e1⟩
  ·by_cases hj:j=i
   ·subst hj
    rw [hi] at e1; cases e1
    rw [List.getElem?_set_self hiσ] at e2;cases e2;exact ⟨u,r,.inl ⟨hk,by simp⟩⟩
   ·rw [List.getElem?_set_ne (Ne.symm hj)] at e2
    obtain ⟨u',r',q⟩:=hl j y v' e1 e2 e3;refine ⟨u',r',?_⟩
    rcases q with ⟨k,e⟩ | ⟨k,c,e,z⟩
    ·refine .inl ⟨k,?_⟩
     have:y≠x:=fun e=>hj (Xn hN e1 (e▸hi))
     simp [this,e]
    ·exact .inr ⟨k,c,e,z.sameBut hs (cne y c e)⟩
  ·obtain ⟨w',z⟩:=I.cell y c e
   exact ⟨w',z.sameBut hs (cne y c e)⟩
  ·obtain ⟨e,n,ne,nf,d⟩:=I.pin p hp
   exact ⟨(hs.2 p.1 ne).trans e,n,ne,nf,d⟩
 ·have hfn:X.fn x=true:=by
   rcases hf with z | z
   ·exact z
   ·rw [z] at hk; cases hk
  obtain ⟨c,hc⟩:=I.ok.has x (.inl hk);obtain ⟨w',z⟩:=I.cell x c hc;refine wpAny_storeName_cell I.ok.kind hk hc z (fun h' hc' hs => ?_);obtain ⟨oc,hoc,hocd⟩:=id z;refine h { s with heap:=h' } ⟨I.ok,I.os,I.bare,⟨fun b o e n hb hx => ?_,fun b o e n hb hx => ?_,I.base.free,fun b o e hx => ?_,I.base.tups,I.base.frzs,I.base.tbls⟩,⟨m,hn.sameBut hs (Ne.symm (cne x c hc)),fun j y v' e1 e2 e3 => ?_⟩,fun y c' e => ?_,I.free,I.freeC,fun p hp => ?_,tracked ⟨oc,hoc,I.freeC x c hc⟩ hs,by simpa using I.len⟩ ⟨c,hs,.inr hc⟩
  ·exact (hs.2 b (Nat.ne_of_lt (Nat.lt_of_lt_of_le (Heap.lt_size e) (I.ok.cab x c hfn hc)))).trans (I.base.keep b o e n hb hx)
  ·obtain ⟨sl,e1⟩:=I.base.slot b o e n hb hx
   exact ⟨sl,(hs.2 b (Nat.ne_of_lt (Nat.lt_of_lt_of_le (Heap.lt_size e) (I.ok.cab x c hfn hc)))).trans e1⟩
  ·obtain ⟨o',e1⟩:=I.base.there b o e hx
   exact ⟨o',(hs.2 b (Nat.ne_of_lt (Nat.lt_of_lt_of_le (Heap.lt_size e) (I.ok.cab x c hfn hc)))).trans e1⟩
  ·by_cases hj:j=i
   ·subst hj
    rw [hi] at e1; cases e1
    rw [List.getElem?_set_self hiσ] at e2;cases e2;exact ⟨u,r,.inr ⟨.inl hk,c,hc,hc'⟩⟩
   ·rw [List.getElem?_set_ne (Ne.symm hj)] at e2
    obtain ⟨u',r',q⟩:=hl j y v' e1 e2 e3;refine ⟨u',r',?_⟩
    rcases q with q | ⟨k,c',e,z'⟩
    ·exact .inl q
    ·refine .inr ⟨k,c',e,z'.sameBut hs ?_⟩
     rintro rfl;exact hj (Xn hN e1 (I.ok.inj _ _ _ e hc▸hi))
  ·by_cases hcc:c'=c
   ·subst hcc; exact ⟨_,hc'⟩
   ·obtain ⟨w2,z2⟩:=I.cell y c' e
    exact ⟨w2,z2.sameBut hs hcc⟩
  ·obtain ⟨e,n,ne,nf,d⟩:=I.pin p hp
   refine ⟨(hs.2 p.1 ?_).trans e,n,ne,nf,d⟩;intro q;rw [q,hoc] at e;have q':oc=p.2:=Option.some.inj e;exact d w' (by rw [← q']; exact hocd)
theorem QY {M:Model}{A:Around}{E:Value→Shared→Prop}{i:Nat}{x:Str}{v:V}{u:Value}{Q:Unit→Shared→Prop}(I:Inv X pins σ H s) (hN:X.N.Nodup) (hi:X.N[i]?=some x) (hx:Loc X.env.scope x) (r:RelV v u)
  (h:∀ s',Inv X pins (σ.set i (some v)) H s'→Q () s') (hf:X.fn x=true∨X.env.scope.names.lookup x=some .local:=by first | exact .inl rfl | exact .inr rfl | assumption):wpAny M A (storeName X.env x u) Q E s :=
 jA I hN hi hx r (fun s' I' _=>h s' I') hf
end
abbrev XK:=Value→Option Addr→Hp→Prop
abbrev St:=List (Option V)
abbrev VK:=V→Hp→Prop
abbrev TE:=St→Hp→VK→Prop
abbrev TT:=St→Hp→(Bool→Hp→Prop)→Prop
abbrev TA:=St→Hp→(List V→Hp→Prop)→Prop
structure Zd where
 nx:St→Hp→Prop
 rt:VK
 bk:St→Hp→Prop:=fun _ _=>False
 ct:St→Hp→Prop:=fun _ _=>False
abbrev TS:=Zd→St→Hp→Prop
def EP (X:Cx) (pins:List (Addr×Obj)) (σ:St) (Q:VK) (u:Value) (s':Shared):Prop:=∃ v H',Inv X pins σ H' s'∧RelV v u∧Q v H'
def TP (X:Cx) (pins:List (Addr×Obj)) (σ:St) (Q:Bool→Hp→Prop) (b:Bool) (s':Shared):Prop:=∃ H',Inv X pins σ H' s'∧Q b H'
def AP (X:Cx) (pins:List (Addr×Obj)) (σ:St) (Q:List V→Hp→Prop) (us:List Value) (s':Shared):Prop:=∃ vs H',Inv X pins σ H' s'∧Vals vs us∧Q vs H'
def SP (X:Cx) (pins:List (Addr×Obj)) (D:Zd) (f:Flow) (s':Shared):Prop :=
 match f with
 | .next=>∃ σ' H',Inv X pins σ' H' s'∧D.nx σ' H'
 | .brk=>∃ σ' H',Inv X pins σ' H' s'∧D.bk σ' H'
 | .cont=>∃ σ' H',Inv X pins σ' H' s'∧D.ct σ' H'
 | .ret u=>∃ v σ' H',Inv X pins σ' H' s'∧RelV v u∧D.rt v H'
def PE (X:Cx) (e:Expr) (t:TE):Prop :=
 ∀ (pins:List (Addr×Obj)) (s:Shared) (σ:St) (H:Hp) (Q:VK),Inv X pins σ H s→t σ H Q→wpAny (model X.prog X.w) X.A (eval e X.env) (EP X pins σ Q) X.xe s
def PT (X:Cx) (e:Expr) (t:TT):Prop :=
 ∀ (pins:List (Addr×Obj)) (s:Shared) (σ:St) (H:Hp) (Q:Bool→Hp→Prop),Inv X pins σ H s→t σ H Q→wpAny (model X.prog X.w) X.A (isTrue e X.env (eval e X.env)) (TP X pins σ Q) X.xe s
def PW (X:Cx) (e:Expr) (t:TT):Prop :=
 ∀ (whole:Sem Value) (pins:List (Addr×Obj)) (s:Shared) (σ:St) (H:Hp) (Q:Bool→Hp→Prop),Inv X pins σ H s→t σ H Q→wpAny (model X.prog X.w) X.A (isTrue e X.env whole) (TP X pins σ Q) X.xe s
theorem PW.pt {X:Cx}{e:Expr}{t:TT}(h:PW X e t):PT X e t:=h _
def PA (X:Cx) (es:List Expr) (t:TA):Prop :=
 ∀ (pos:Pos) (pins:List (Addr×Obj)) (s:Shared) (σ:St) (H:Hp) (Q:List V→Hp→Prop),Inv X pins σ H s→t σ H Q→wpAny (model X.prog X.w) X.A (spliced (backTo pos (starEach es X.env))) (AP X pins σ Q) X.xe s
def PS (X:Cx) (st:Stmt) (t:TS):Prop :=
 ∀ (pins:List (Addr×Obj)) (s:Shared) (σ:St) (H:Hp) (D:Zd),Inv X pins σ H s→t D σ H→wpAny (model X.prog X.w) X.A (exec st X.env) (SP X pins D) X.xe s
def PSs (X:Cx) (st:List Stmt) (t:TS):Prop :=
 ∀ (pins:List (Addr×Obj)) (s:Shared) (σ:St) (H:Hp) (D:Zd),Inv X pins σ H s→t D σ H→wpAny (model X.prog X.w) X.A (execs st X.env) (SP X pins D) X.xe s
theorem thn {α:Type}{t:Sem α}{Q Q':α→Shared→Prop}{M:Model}{A:Around}{E:Value→Shared→Prop}{s:Shared}(h:wpAny M A t Q E s) (hQ:∀ a s,Q a s→Q' a s):wpAny M A t Q' E s:=wpAny_mono h hQ fun _ _ x=>x
section
variable {X:Cx}
theorem bin {a b:Expr}{ta tb:TE}(ha:PE X a ta) (hb:PE X b tb) {pins:List (Addr×Obj)}{s:Shared}{σ:St}{H:Hp}{R:V→V→Hp→Prop}(I:Inv X pins σ H s) (h:ta σ H fun x H1=>tb σ H1 fun y H2=>R x y H2)
  {α:Type} {Q:α→Shared→Prop} {f:Value→Value→Sem α}
  (hf:∀ v u s2 x y H2,Inv X pins σ H2 s2→RelV x v→RelV y u→R x y H2→wpAny (model X.prog X.w) X.A (f v u) Q X.xe s2) :
  wpAny (model X.prog X.w) X.A (eval a X.env) (fun v s₁=>wpAny (model X.prog X.w) X.A (eval b X.env) (fun u s₂=>wpAny (model X.prog X.w) X.A (f v u) Q X.xe s₂) X.xe s₁) X.xe s:=by
 refine thn (ha pins s σ H _ I h) fun v s1 ⟨x,H1,I1,r1,q1⟩ => ?_;refine thn (hb pins s1 σ H1 _ I1 q1) fun u s2 ⟨y,H2,I2,r2,q2⟩ => ?_;exact hf v u s2 x y H2 I2 r1 r2 q2
inductive IVar (i:Nat) (σ:St) (H:Hp) (Q:VK):Prop
 | mk (v:V) (h:σ[i]?=some (some v)) (q:Q v H):IVar i σ H Q
def tVar (i:Nat):TE:=fun σ H Q=>IVar i σ H Q
def tC (v:V):TE:=fun _ H Q=>Q v H
theorem VW {i:Nat}{x:Str}{pos:Pos}(hN:X.N[i]?=some x) (hv:Vis X.env.scope x) (hd:(x==("__debug__" : Str))=false:=by decide) (hcd:(x==("__classdict__" : Str))=false:=by decide):PE X (.Name x pos) (tVar i):=by
 intro pins s σ H Q I h;obtain ⟨v,e,h⟩:=h;obtain ⟨m,hn,hl⟩:=I.loc;obtain ⟨u,r,l⟩:=hl i x v hN e hv;have fin:EP X pins σ Q u s:=⟨v,H,I,r,h⟩
 rcases l with ⟨hk,hm⟩ | ⟨hk,c,hc,hcell⟩
 ·exact wpAny_Name (wpAny_loadName_local I.ok.kind hk hn hm fin) hd
 ·rcases hk with hk | hk
  ·exact wpAny_Name (wpAny_loadName_cell I.ok.kind hk hc hcell fin) hd
  ·exact wpAny_Name (wpAny_loadName_free I.ok.kind hk hc hcell fin hcd) hd
theorem pe_int {i j pos}:PE X (.Constant (.int i) j pos) (tC (.int i)):=fun _ _ _ H _ I h=>wpAny_Constant_int ⟨.int i,H,I.tok _,⟨_,rfl⟩,h⟩
theorem pe_bl {b j pos}:PE X (.Constant (.bool b) j pos) (tC (.bl b)):=fun _ _ _ H _ I h=>Constant_bool ⟨.bl b,H,I,rfl,h⟩
theorem pe_non {j pos}:PE X (.Constant .none j pos) (tC .non):=fun _ _ _ H _ I h=>Constant_none ⟨.non,H,I,rfl,h⟩
theorem pe_str {x j pos}:PE X (.Constant (.str x) j pos) (tC (.str x)):=fun _ _ _ H _ I h=>Calls.Constant_str ⟨.str x,H,I.tok _,⟨_,rfl⟩,h⟩
def Gl (X:Cx) (x:Str):Prop:=X.env.kindOf x=some .globalImplicit
theorem ld_glob {E:Value→Shared→Prop}{pins:List (Addr×Obj)}{s:Shared}{σ:St}{H:Hp}{x:Str}{u:Value}{pos:Pos}{Q:Value→Shared→Prop}(I:Inv X pins σ H s) (hg:Gl X x) (hm:X.mg x=some u) (h:Q u s)
  (hd:(x==("__debug__" : Str))=false:=by decide):wpAny (model X.prog X.w) X.A (eval (.Name x pos) X.env) Q E s :=
 Calls.Name_function_global I.ok.kind hg (Calls.loadGlobal_global (by rw [I.ok.glob]; exact I.mod.glob.keeps I.bk) hm h) hd
theorem Qj {E:Value→Shared→Prop}{pins:List (Addr×Obj)}{s:Shared}{σ:St}{H:Hp}{x:Str}{u:Value}{pos:Pos}{Q:Value→Shared→Prop}(I:Inv X pins σ H s) (hg:Gl X x) (hm:X.mg x=none) (hv:bootBuiltins x=some u) (h:Q u s)
  (hn:x ≠ "__name__" := by decide) (hd:(x==("__debug__" : Str))=false:=by decide):wpAny (model X.prog X.w) X.A (eval (.Name x pos) X.env) Q E s:=by
 obtain ⟨mb,h1,h2⟩:=I.mod.blt;exact Calls.Name_function_global I.ok.kind hg (Calls.loadGlobal_builtin (by rw [I.ok.glob]; exact I.mod.glob.keeps I.bk) hm (by rw [I.ok.blt]; exact h1.keeps I.bk) ((h2 x hn).trans hv) h) hd
theorem pe_bltn {x:Str}{v:V}{u:Value}{pos:Pos}(hg:Gl X x) (hm:X.mg x=none) (hv:bootBuiltins x=some u) (r:RelV v u) (hn:x ≠ "__name__" := by decide) (hd:(x==("__debug__" : Str))=false:=by decide):PE X (.Name x pos) (tC v) :=
 fun _ _ _ H _ I h=>Qj I hg hm hv ⟨v,H,I,r,h⟩ hn hd
variable {a b:Expr}{ta tb:TE}{pos:Pos}
inductive IBl (Q:Bool→Hp→Prop) (x:V) (H:Hp):Prop
 | mk (c:Bool) (h:x=.bl c) (q:Q c H):IBl Q x H
def tB (t:TE):TT:=fun σ H Q=>t σ H (IBl Q)
theorem pt_val {e:Expr}{t:TE}(h:PE X e t) (he:∀ whole,isTrue e X.env whole=(do let v ← whole; standAt e.pos; holding [v] (truthy v)):=by intro _; rfl):PT X e (tB t):=by
 intro pins s σ H Q I hw;refine isTrue_plain (thn (h pins s σ H _ I hw) fun v s1 ⟨x,H1,I1,r1,q1⟩ => ?_) (he _);obtain ⟨d,rfl,q⟩:=q1;cases r1;exact wpAny_truthy_bool ⟨H1,I1,q⟩
variable {tA tB':TT}{rest:List Expr}
def tAnd (t u:TT):TT:=fun σ H Q=>t σ H fun c H1=>if c=true then u σ H1 Q else Q false H1
def tOr (t u:TT):TT:=fun σ H Q=>t σ H fun c H1=>if c=true then Q true H1 else u σ H1 Q
def tNot (t:TT):TT:=fun σ H Q=>t σ H fun c H1=>Q (!c) H1
theorem pw_and1 (ha:PT X a tA):PW X (.BoolOp .And [a] pos) tA:=by
 intro wh pins s σ H Q I h;refine isTrue_and (thn (ha pins s σ H Q I h) fun c s1 e => ?_)
 cases c with
 | true=>exact isTrue_and_nil e
 | false=>exact e
theorem pw_or1 (ha:PT X a tA):PW X (.BoolOp .Or [a] pos) tA:=by
 intro wh pins s σ H Q I h;refine isTrue_or (thn (ha pins s σ H Q I h) fun c s1 e => ?_)
 cases c with
 | false=>exact isTrue_or_nil e
 | true=>exact e
theorem pw_and (ha:PT X a tA) (hb:PW X (.BoolOp .And (b::rest) pos) tB'):PW X (.BoolOp .And (a::b::rest) pos) (tAnd tA tB'):=by
 intro wh pins s σ H Q I h;refine isTrue_and (thn (ha pins s σ H _ I h) fun c s1 ⟨H1,I1,q1⟩ => ?_)
 cases c with
 | true=>exact hb wh pins s1 σ H1 Q I1 q1
 | false=>exact ⟨H1,I1,q1⟩
theorem pw_or (ha:PT X a tA) (hb:PW X (.BoolOp .Or (b::rest) pos) tB'):PW X (.BoolOp .Or (a::b::rest) pos) (tOr tA tB'):=by
 intro wh pins s σ H Q I h;refine isTrue_or (thn (ha pins s σ H _ I h) fun c s1 ⟨H1,I1,q1⟩ => ?_)
 cases c with
 | true=>exact ⟨H1,I1,q1⟩
 | false=>exact hb wh pins s1 σ H1 Q I1 q1
theorem pt_not (ha:PT X a tA):PT X (.UnaryOp .Not a pos) (tNot tA):=by
 intro pins s σ H Q I h;exact isTrue_not (ha pins s σ H (fun c H1=>Q (!c) H1) I h)
def tAndV (ta tb:TE):TE:=fun σ H Q=>ta σ H fun x H1=>∃ c,x=.bl c∧if c=true then tb σ H1 Q else Q (.bl false) H1
theorem pe_one {op}{t:TE}(h:PE X a t):PE X (.BoolOp op [a] pos) t:=fun pins s σ H Q I hw=>BoolOp_one (h pins s σ H Q I hw)
theorem pe_and (ha:PE X a ta) (hb:PE X (.BoolOp .And (b::rest) pos) tb):PE X (.BoolOp .And (a::b::rest) pos) (tAndV ta tb):=by
 intro pins s σ H Q I h;refine BoolOp_and (thn (ha pins s σ H _ I h) fun v s1 ⟨x,H1,I1,r1,q1⟩ => ?_);obtain ⟨c,rfl,q1⟩:=q1;cases r1;refine wpAny_truthy_bool ?_
 cases c with
 | true=>exact hb pins s1 σ H1 Q I1 q1
 | false=>exact ⟨.bl false,H1,I1,rfl,q1⟩
end
def SqL (K:PySem.W.Frag) (H:Hp) (a:Addr) (xs:List V):Prop :=
 Rd H a (.lst xs) ∨
  ∃ (o:Obj) (its:Array Value) (n:Nat),K.lookup a=some o∧o.cls=.type "list" ∧ o.dict=none∧o.data=.seq its n∧its.size≤sizeLine∧Vals xs its.toList
def SqT (K:PySem.W.Frag) (H:Hp) (a:Addr) (xs:List V):Prop :=
 Rd H a (.tup xs) ∨
  ∃ (o:Obj) (its:Array Value) (n:Nat),K.lookup a=some o∧o.cls=.type "tuple" ∧ o.data=.seq its n∧its.size≤sizeLine∧Vals xs its.toList
def absV:Value→Option V
 | .none=>some .non
 | .bool b=>some (.bl b)
 | .int i _=>some (.int i)
 | .str x _=>some (.str x)
 | .bytes b _=>some (.byt b)
 | .float b _=>some (.flt b)
 | .ref a=>some (.ref a)
 | .type n=>some (.ty n)
 | _=>none
theorem RelV.abs {x:V}{u:Value}(r:RelV x u):absV u=some x:=by
 cases x with
 | non=>cases r; rfl
 | bl _=>cases r; rfl
 | int _=>obtain ⟨t,rfl⟩:=r; rfl
 | str _=>obtain ⟨t,rfl⟩:=r; rfl
 | byt _=>obtain ⟨t,rfl⟩:=r; rfl
 | flt _=>obtain ⟨t,rfl⟩:=r; rfl
 | ref _=>cases r; rfl
 | ty _=>cases r; rfl
theorem RelV.inj {x y:V}{u:Value}(r:RelV x u) (q:RelV y u):x=y:=Option.some.inj (r.abs.symm.trans q.abs)
theorem Vals.inj:∀ {xs ys:List V}{us:List Value},Vals xs us→Vals ys us→xs=ys
 | _,_,_,.nil,.nil=>rfl
 | _,_,_,.cons r t,.cons r' t'=>by rw [r.inj r',Vals.inj t t']
section
variable {X:Cx}{pins:List (Addr×Obj)}{σ:St}{H:Hp}{s:Shared}{a:Addr}{xs ys:List V}
theorem SqL.of {K:PySem.W.Frag}(h:H a=some (.lst xs)):SqL K H a xs:=.inl (.inl h)
theorem SqT.of {K:PySem.W.Frag}(h:H a=some (.tup xs)):SqT K H a xs:=.inl (.inl h)
theorem Inv.list (I:Inv X pins σ H s) (h:SqL X.K H a xs):∃ its:List Value,Vals xs its∧PlainL s.heap a its.toArray∧xs.length≤sizeLine:=by
 rcases h with h | ⟨o,its,n,hk,hc,hd,hs,hz,r⟩
 ·obtain ⟨z,its,n,r,e⟩:=h.ok I.hok
  exact ⟨its,r,⟨_,n,e,rfl,rfl,rfl⟩,z⟩
 ·refine ⟨its.toList,r,⟨o,n,I.kIn a o hk,hc,hd,by simpa using hs⟩,?_⟩
  have e:=r.length
  simp only [Array.length_toList] at e
  omega
theorem Inv.tuple (I:Inv X pins σ H s) (h:SqT X.K H a xs):∃ its:List Value,Vals xs its∧IsTup s.heap a its.toArray∧xs.length≤sizeLine:=by
 rcases h with h | ⟨o,its,n,hk,hc,hs,hz,r⟩
 ·obtain ⟨z,its,r,p⟩:=h.ok I.hok
  exact ⟨its,r,IsTupN.is p,z⟩
 ·refine ⟨its.toList,r,⟨o,I.kIn a o hk,hc,n,by simpa using hs⟩,?_⟩
  have e:=r.length
  simp only [Array.length_toList] at e
  omega
theorem Inv.list_inj (I:Inv X pins σ H s) (h:SqL X.K H a xs) (h':SqL X.K H a ys):xs=ys:=by
 obtain ⟨its,r,⟨o,n,e,_,_,d⟩,_⟩:=I.list h;obtain ⟨its',r',⟨o',n',e',_,_,d'⟩,_⟩:=I.list h';rw [e] at e'; cases e'
 rw [d] at d';injection d' with d1 _
 have:its=its':=by simpa using congrArg Array.toList d1
 subst this;exact r.inj r'
theorem Inv.tuple_inj (I:Inv X pins σ H s) (h:SqT X.K H a xs) (h':SqT X.K H a ys):xs=ys:=by
 obtain ⟨its,r,⟨o,e,_,n,d⟩,_⟩:=I.tuple h;obtain ⟨its',r',⟨o',e',_,n',d'⟩,_⟩:=I.tuple h';rw [e] at e'; cases e'
 rw [d] at d';injection d' with d1 _
 have:its=its':=by simpa using congrArg Array.toList d1
 subst this;exact r.inj r'
end
abbrev Cx.wish (X:Cx) (E:Value→Shared→Prop):Cx:={ X with xe:=E }
abbrev Cx.nox (X:Cx):Cx:=X.wish fun _ _=>False
theorem Cx.Ok.wish {X:Cx}(ok:X.Ok) (E:Value→Shared→Prop):(X.wish E).Ok :=
 ⟨ok.mod,ok.kind,ok.glob,ok.blt,ok.above,ok.inj,ok.has,ok.cab,ok.hd,ok.frames,ok.stk,ok.exf,ok.bs,ok.bsz,ok.noex,ok.exfs,ok.funs,ok.frf⟩
theorem Cx.Ok.unwish {X:Cx}{E:Value→Shared→Prop}(ok:(X.wish E).Ok):X.Ok :=
 ⟨ok.mod,ok.kind,ok.glob,ok.blt,ok.above,ok.inj,ok.has,ok.cab,ok.hd,ok.frames,ok.stk,ok.exf,ok.bs,ok.bsz,ok.noex,ok.exfs,ok.funs,ok.frf⟩
section
variable {X:Cx}{pins:List (Addr×Obj)}{σ:St}{H:Hp}{s:Shared}{E:Value→Shared→Prop}
theorem Inv.wish (I:Inv X pins σ H s) (E:Value→Shared→Prop):Inv (X.wish E) pins σ H s:=⟨I.ok.wish E,I.os,I.bare,I.base,I.loc,I.cell,I.free,I.freeC,I.pin,I.hok,I.len⟩
theorem Inv.unwish (I:Inv (X.wish E) pins σ H s):Inv X pins σ H s:=⟨I.ok.unwish,I.os,I.bare,I.base,I.loc,I.cell,I.free,I.freeC,I.pin,I.hok,I.len⟩
theorem SP.unwish {D:Zd}{f:Flow}{s':Shared}(h:SP (X.wish E) pins D f s'):SP X pins D f s':=by
 cases f with
 | next=>obtain ⟨σ',H',I,q⟩:=h; exact ⟨σ',H',I.unwish,q⟩
 | brk=>obtain ⟨σ',H',I,q⟩:=h; exact ⟨σ',H',I.unwish,q⟩
 | cont=>obtain ⟨σ',H',I,q⟩:=h; exact ⟨σ',H',I.unwish,q⟩
 | ret u=>obtain ⟨v,σ',H',I,r,q⟩:=h; exact ⟨v,σ',H',I.unwish,r,q⟩
theorem PSs.nox {st:List Stmt}{t:TS}(h:PSs X.nox st t):PSs X st t:=fun pins s σ H D I hw =>
 wpAny_mono (h pins s σ H D (I.wish _) hw) (fun _ _ q=>q.unwish) fun _ _ z=>False.elim z
end
section
variable {X:Cx}{st:Stmt}{rest:List Stmt}{t u:TS}{e:Expr}{te:TE}{pos:Pos}
def tNext:TS:=fun D σ H=>D.nx σ H
def tSeq (t u:TS):TS:=fun D σ H=>t { D with nx:=u D } σ H
theorem pss_nil:PSs X [] tNext:=fun _ _ σ H _ I h=>wpAny_execs_nil ⟨σ,H,I,h⟩
theorem VP (h1:PS X st t) (h2:PSs X rest u):PSs X (st::rest) (tSeq t u):=by
 intro pins s σ H D I h;refine wpAny_execs_cons (thn (h1 pins s σ H { D with nx:=u D } I h) fun f s1 q => ?_)
 cases f with
 | next =>
  obtain ⟨σ',H',I',q⟩:=q;exact h2 pins s1 σ' H' D I' q
 | ret v=>exact q
 | brk=>exact q
 | cont=>exact q
theorem pss_one (h1:PS X st t):PSs X [st] t:=by
 intro pins s σ H D I h;refine wpAny_execs_cons (thn (h1 pins s σ H D I h) fun f s1 q => ?_)
 cases f with
 | next=>exact wpAny_execs_nil q
 | ret v=>exact q
 | brk=>exact q
 | cont=>exact q
theorem Inv.quiet {pins:List (Addr×Obj)}{σ:St}{H:Hp}{s:Shared}(I:Inv X pins σ H s):interactive X.env=false:=by simp [interactive,I.ok.kind]
def tDrop (te:TE):TS:=fun D σ H=>te σ H fun _ H1=>D.nx σ H1
theorem ps_expr (he:PE X e te) (hs:swapsWith e none pos.line X.env=pure false:=by rfl):PS X (.Expr e pos) (tDrop te):=by
 intro pins s σ H D I h;exact wpAny_Expr_any (thn (he pins s σ H _ I h) fun v s1 ⟨x,H1,I1,r1,q1⟩=>⟨σ,H1,I1,q1⟩) I.quiet hs
def tRet (te:TE):TS:=fun D σ H=>te σ H D.rt
theorem ps_ret (he:PE X e te):PS X (.Return (some e) pos) (tRet te):=by
 intro pins s σ H D I h;exact wpAny_Return_some (thn (he pins s σ H _ I h) fun v s1 ⟨x,H1,I1,r1,q1⟩=>⟨x,σ,H1,I1,r1,q1⟩)
def tIfS (c:TT) (t u:TS):TS:=fun D σ H=>c σ H fun b H1=>if b=true then t D σ H1 else u D σ H1
theorem ps_if {c:Expr}{a b:List Stmt}{tc:TT}(hc:PT X c tc) (ha:PSs X a t) (hb:PSs X b u):PS X (.If c a b pos) (tIfS tc t u):=by
 intro pins s σ H D I h;refine wpAny_If (thn (hc pins s σ H _ I h) fun d s1 ⟨H1,I1,q1⟩ => ?_)
 cases d with
 | true=>exact ha pins s1 σ H1 D I1 q1
 | false=>exact hb pins s1 σ H1 D I1 q1
end
abbrev TG:=V→St→Hp→(St→Hp→Prop)→Prop
abbrev TGs:=List V→St→Hp→(St→Hp→Prop)→Prop
def PG (X:Cx) (target:Expr) (t:TG):Prop :=
 ∀ (pins:List (Addr×Obj)) (s:Shared) (σ:St) (H:Hp) (v:V) (u:Value) (Q:St→Hp→Prop),Inv X pins σ H s→RelV v u→t v σ H Q →
  wpAny (model X.prog X.w) X.A (assign target X.env u) (fun _ s'=>∃ σ' H',Inv X pins σ' H' s'∧Q σ' H') X.xe s
def PGs (X:Cx) (ts:List Expr) (t:TGs):Prop :=
 ∀ (pins:List (Addr×Obj)) (s:Shared) (σ:St) (H:Hp) (vs:List V) (us:List Value) (Q:St→Hp→Prop),Inv X pins σ H s→Vals vs us→t vs σ H Q →
  wpAny (model X.prog X.w) X.A (assignInOrder ((assignEach ts X.env).map (·.2)) us) (fun _ s'=>∃ σ' H',Inv X pins σ' H' s'∧Q σ' H') X.xe s
abbrev TSet:=V→V→V→Hp→(Hp→Prop)→Prop
def PSet (X:Cx) (t:TSet):Prop :=
 ∀ (pins:List (Addr×Obj)) (s:Shared) (σ:St) (H:Hp) (o i v:V) (ov iv u:Value) (Q:Hp→Prop),Inv X pins σ H s→RelV o ov→RelV i iv→RelV v u→t o i v H Q →
  wpAny (model X.prog X.w) X.A (setItem ov iv u) (fun _ s'=>∃ H',Inv X pins σ H' s'∧Q H') X.xe s
section
variable {X:Cx}{pos:Pos}
def uM (i:Nat):TG:=fun v σ H Q=>Q (σ.set i (some v)) H
theorem wB {i:Nat}{x:Str}(hN:X.N.Nodup) (hi:X.N[i]?=some x) (hx:Loc X.env.scope x) (hf:X.fn x=true∨X.env.scope.names.lookup x=some .local:=by first | exact .inl rfl | exact .inr rfl | assumption):PG X (.Name x pos) (uM i):=by
 intro pins s σ H v u Q I r h;exact wpAny_assign_Name (QY I hN hi hx r (fun s' I'=>⟨_,H,I',h⟩) hf)
def gNil:TGs:=fun vs σ H Q=>vs=[]∧Q σ H
def qO (t:TG) (u:TGs):TGs:=fun vs σ H Q=>∃ v r,vs=v::r∧t v σ H fun σ' H'=>u r σ' H' Q
theorem Qa:PGs X [] gNil:=by
 intro pins s σ H vs us Q I r h;obtain ⟨e,h⟩:=h;subst e;cases r;exact assignInOrder_nil ⟨σ,H,I,h⟩
theorem hU {e:Expr}{es:List Expr}{t:TG}{u:TGs}(h1:PG X e t) (h2:PGs X es u)
  (hs:(assignEach (e::es) X.env).map (·.2)=assign e X.env::(assignEach es X.env).map (·.2):=by rfl):PGs X (e::es) (qO t u):=by
 intro pins s σ H vs us Q I r h;obtain ⟨v,vr,e1,h⟩:=h;subst e1
 cases r with
 | cons r rr =>
  rw [hs];refine assignInOrder_cons (thn (h1 pins s σ H _ _ _ I r h) fun _ s1 ⟨σ1,H1,I1,q1⟩ => ?_);exact h2 pins s1 σ1 H1 _ _ Q I1 rr q1
def gTup (K:PySem.W.Frag) (n:Nat) (t:TGs):TG:=fun v σ H Q=>∃ a xs,v=.ref a∧SqT K H a xs∧xs.length=n∧t xs σ H Q
theorem Zr {es:List Expr}{k:Nat}{t:TGs}{n:Nat}(hc:X.calm=true) (h:PGs X es t)
  (hn:(assignEach es X.env).length=n:=by rfl) (hst:(assignEach es X.env).findIdx? (·.1)=none:=by rfl):PG X (.Tuple es k pos) (gTup X.K n t):=by
 intro pins s σ H v u Q I r hw;obtain ⟨a,xs,e1,hq,hl,hw⟩:=hw;subst e1;cases r;obtain ⟨its,rv,ht,hz⟩:=I.tuple hq;refine assign_Tuple_tuple (I.ok.hd hc) ht (by simp [hn,← hl,rv.length]) hst fun h' hx => ?_;have I1:Inv X pins σ H { s with heap:=h' }:=I.kept (t':=s.toks) fun b o e=>hx b o (Nat.ne_of_lt (Heap.lt_size e)) e;exact h pins _ σ H xs _ Q I1 (by simpa using rv) hw
def gSub (to ti:TE) (t:TSet):TG:=fun v σ H Q=>to σ H fun o H1=>ti σ H1 fun i H2=>t o i v H2 fun H3=>Q σ H3
theorem pg_sub {o i:Expr}{to ti:TE}{t:TSet}(ho:PE X o to) (hi:PE X i ti) (hs:PSet X t)
  (ha:∀ v,assign (.Subscript o i pos) X.env v=(do
   let ov ← holding [v] (eval o X.env)
   let iv ← holding [v,ov] (eval i X.env)
   standAt pos
   holding [v,ov,iv] (setItem ov iv v)
   release [v,ov,iv] []):=by intro _; rfl):PG X (.Subscript o i pos) (gSub to ti t):=by
 intro pins s σ H v u Q I r h;rw [ha];refine wpAny_bind (wpAny_holding (thn (ho pins s σ H _ I h) fun ov s1 ⟨x,H1,I1,r1,q1⟩ => ?_));refine wpAny_bind (wpAny_holding (thn (hi pins s1 σ H1 _ I1 q1) fun iv s2 ⟨y,H2,I2,r2,q2⟩ => ?_));refine wpAny_bind (wpAny_standAt (wpAny_bind (wpAny_holding (thn (hs pins s2 σ H2 x y v ov iv u _ I2 r1 r2 r q2) fun _ s3 ⟨H3,I3,q3⟩ => ?_))));exact wpAny_release ⟨σ,H3,I3,q3⟩
def Vw (te:TE) (g:TG):TS:=fun D σ H=>te σ H fun x H1=>g x σ H1 D.nx
theorem ps_asg {tg e:Expr}{te:TE}{g:TG}(he:PE X e te) (hg:PG X tg g) (hs:swapsWithSole [tg] e pos.line X.env=pure false:=by rfl) (hw:swappedStores [tg] e X.env=pure none:=by rfl)
  (h1:(assignEach [tg] X.env).map (·.2)=[assign tg X.env]:=by rfl):PS X (.Assign [tg] e pos) (Vw te g):=by
 intro pins s σ H D I h;refine wpAny_Assign_stores (thn (he pins s σ H _ I h) fun v s1 ⟨x,H1,I1,r1,q1⟩ => ?_) hs hw;rw [h1];exact thn (hg pins s1 σ H1 x v _ I1 r1 q1) fun _ s2 q=>q
theorem ps_set {i:Nat}{x:Str}{e:Expr}{te:TE}{pos':Pos}(hN:X.N.Nodup) (hi:X.N[i]?=some x) (hx:Loc X.env.scope x) (he:PE X e te) (hs:swapsWith e (some (.Name x pos')) pos.line X.env=pure false:=by rfl) (hf:X.fn x=true∨X.env.scope.names.lookup x=some .local:=by first | exact .inl rfl | exact .inr rfl | assumption) :
  PS X (.Assign [.Name x pos'] e pos) (Vw te (uM i)):=by
 intro pins s σ H D I h;refine wpAny_Assign_Name (thn (he pins s σ H _ I h) fun v s1 ⟨y,H1,I1,r1,q1⟩ => ?_) hs;exact QY I1 hN hi hx r1 (fun s2 I2=>⟨_,H1,I2,q1⟩) hf
end
structure It where
 go:Nat→Hp→Prop
 yld:Nat→Hp→V→Hp→Prop
 stop:Nat→Hp→Prop
def tE (X:Cx) (pins:List (Addr×Obj)) (H:Hp) (b:Addr):Prop :=
 H b=none∧b≠X.env.locals∧b∉X.fs∧(b∈X.ex∨X.s₀.heap.objs.size≤b)∧(∀ x c,X.env.cells.lookup x=some c→c≠b)∧∀ p∈X.pn++pins,p.1≠b
theorem Inv.fpOk {X:Cx}{pins:List (Addr×Obj)}{σ:St}{H H':Hp}{s:Shared}{b:Addr}(I:Inv X pins σ H s) (hb:s.heap.objs.size≤b) (hn:H' b=none):tE X pins H' b:=by
 refine ⟨hn,Nat.ne_of_gt (Nat.lt_of_lt_of_le I.lt hb),I.nofs hb,.inr (Nat.le_trans I.sz hb),fun x c e z => ?_,fun p hp z => ?_⟩
 ·obtain ⟨v,q⟩:=I.cell x c e
  exact absurd (Nat.lt_of_lt_of_le q.lt (by rw [z]; exact hb)) (Nat.lt_irrefl _)
 ·exact absurd (Nat.lt_of_lt_of_le (Heap.lt_size (I.pin p hp).1) (by rw [z]; exact hb)) (Nat.lt_irrefl _)
structure X8 (P:Program) (w:World) (K:PySem.W.Frag) (tg:Expr) (J:It) (fp:List Addr) (it:Addr) (tn:Nat→Heap→Prop):Prop where
 mem:it∈fp
 obj:∀ i h,tn i h→∀ b∈fp,∃ o,h.get? b=some o∧∀ v,o.data≠.cell v
 keep:∀ i h h',tn i h→(∀ b∈fp,∀ o,h.get? b=some o→h'.get? b=some o)→tn i h'
 item:∀ (X:Cx),X.prog=P→X.w=w→X.K=K→X.calm=true→∀ (i:Nat) (pins:List (Addr×Obj)) (s:Shared) (σ:St) (H:Hp) (E:Value→Shared→Prop),Inv X pins σ H s→(∀ b∈fp,tE X pins H b)→tn i s.heap→J.go i H →
  wpAny (model P w) X.A (pyNext (.ref it)) (fun r s1=>∃ u,r=some u ∧
   wpAny (model P w) X.A (letOwnedTupleGo tg (.ref it) u) (fun _ s2=>∃ x H',Inv X pins σ H' s2∧RelV x u∧J.yld i H x H'∧tn (i+1) s2.heap∧∀ b∈fp,H' b=none) E s1) E s
 done:∀ (X:Cx),X.prog=P→X.w=w→X.K=K→X.calm=true→∀ (i:Nat) (pins:List (Addr×Obj)) (s:Shared) (σ:St) (H:Hp) (E:Value→Shared→Prop),Inv X pins σ H s→(∀ b∈fp,tE X pins H b)→tn i s.heap→J.stop i H →
  wpAny (model P w) X.A (pyNext (.ref it)) (fun r s1=>r=none∧Inv X pins σ H s1) E s
 self:∀ (A:Around) (i:Nat) (s:Shared) (Q:Value→Shared→Prop) (E:Value→Shared→Prop),tn i s.heap→Q (.ref it) s→wpAny (model P w) A (pyIter (.ref it)) Q E s
abbrev TI:=St→Hp→(It→Hp→Prop)→Prop
def PIE (X:Cx) (pins:List (Addr×Obj)) (σ:St) (tg:Expr) (R:It→Hp→Prop) (itv:Value) (s2:Shared):Prop :=
 ∃ (it:Addr) (fp:List Addr) (tn:Nat→Heap→Prop) (J:It) (H':Hp),itv=.ref it∧Inv X pins σ H' s2∧X8 X.prog X.w X.K tg J fp it tn∧tn 0 s2.heap∧(∀ b∈fp,tE X pins H' b)∧R J H'
def PI (X:Cx) (tg iter:Expr) (wi:TI):Prop :=
 ∀ (pins:List (Addr×Obj)) (s:Shared) (σ:St) (H:Hp) (R:It→Hp→Prop),Inv X pins σ H s→wi σ H R →
  wpAny (model X.prog X.w) X.A (eval iter X.env) (fun v s1=>wpAny (model X.prog X.w) X.A (pyIter v) (PIE X pins σ tg R) X.xe s1) X.xe s
theorem XJ {M:Model}{A:Around}{E:Value→Shared→Prop}{s:Shared}{tg:Expr}{it:Addr}{u:Value}{o:Obj}{n:String}{vs:Array Value}{Q:Unit→Shared→Prop}(ho:s.heap.get? it=some o) (hc:o.cls=.type n) (hd:o.data=.fields vs)
  (hn:["enumerate","zip","dict_itemiterator","dict_reverseitemiterator","odict_iterator","itertools.zip_longest","itertools.pairwise"].contains n=false) (hQ:Q () s):wpAny M A (letOwnedTupleGo tg (.ref it) u) Q E s:=by
 unfold letOwnedTupleGo
 cases tg<;>first
  | exact wpAny_pure hQ
  | (cases u<;>first
    | exact wpAny_pure hQ
    | (refine wpAny_bind (wpAny_load ho ?_)
       rw [hc,hd];show wpAny M A (if (["enumerate","zip","dict_itemiterator","dict_reverseitemiterator","odict_iterator","itertools.zip_longest","itertools.pairwise"].contains n&&vs[0]?==some (rawInt _))=true then _ else _) Q E s;rw [if_neg (by intro h; rw [hn,Bool.false_and] at h; cases h)]
       exact wpAny_pure hQ))
def Itl (K:PySem.W.Frag) (a:Addr):It :=
 ⟨fun i H=>∃ xs x,SqL K H a xs∧xs[i]?=some x,fun i H x H'=>H'=H∧∀ xs,SqL K H a xs→xs[i]?=some x,fun i H=>∃ xs,SqL K H a xs∧xs.length≤i⟩
def Itt (K:PySem.W.Frag) (a:Addr):It :=
 ⟨fun i H=>∃ xs x,SqT K H a xs∧xs[i]?=some x,fun i H x H'=>H'=H∧∀ xs,SqT K H a xs→xs[i]?=some x,fun i H=>∃ xs,SqT K H a xs∧xs.length≤i⟩
def Itr (lo:Int) (n:Nat):It:=⟨fun i _=>i < n,fun i H x H'=>H'=H∧x=.int (lo+i),fun i _=>n≤i⟩
theorem J2 {P:Program}{w:World}{K:PySem.W.Frag}{tg:Expr}(a it:Addr):X8 P w K tg (Itl K a) [it] it (fun i h=>h.IsListIter it a i) where
 mem:=by simp
 obj:=fun i h st b hb=>by
  have e:b=it:=by simpa using hb
  subst e;obtain ⟨o,e,c,d⟩:=st;exact ⟨o,e,fun v z=>by rw [d] at z; cases z⟩
 keep:=fun i h h' st k=>st.at fun o e=>k it (by simp) o e
 item:=by
  intro X hP hw hK hc i pins s σ H E I hf st hg;subst hP hw hK;obtain ⟨xs,x,hq,hx⟩:=hg;obtain ⟨its,rv,p,hz⟩:=I.list hq;obtain ⟨u,hu,ru⟩:=rv.get hx;obtain ⟨f0,f1,f2,f3,f4,f5⟩:=hf it (by simp);refine wpAny_pyNext_list_item st p.isList (x:=u) (by simpa using hu) fun h' st' sb => ?_;have I1:Inv X pins σ H { s with heap:=h' }:=I.turned (t':=s.toks) (fun b o hb e=>(sb.2 b hb).trans e) f0 f1 f3 f4 f5;obtain ⟨o,e,c,d⟩:=id st'
  exact ⟨u,rfl,XJ (s:={ s with heap:=h' }) e c d (by decide) ⟨x,H,I1,ru,⟨rfl,fun ys hy=>by rw [I.list_inj hy hq]; exact hx⟩,st',fun b hb=>(hf b hb).1⟩⟩
 done:=by
  intro X hP hw hK hc i pins s σ H E I hf st hg;subst hP hw hK;obtain ⟨xs,hq,hx⟩:=hg;obtain ⟨its,rv,p,hz⟩:=I.list hq;obtain ⟨f0,f1,f2,f3,f4,f5⟩:=hf it (by simp);have hl:=rv.length;exact wpAny_pyNext_list_end (I.ok.hd hc) st p.isList (by simp; omega) fun h' eb=>⟨rfl,I.turned (t':=s.toks) (fun b o hb e=>eb b o hb e) f0 f1 f3 f4 f5⟩
 self:=fun _ _ _ _ _ st h=>wpAny_pyIter_listiter st h
theorem Zf {P:Program}{w:World}{K:PySem.W.Frag}{tg:Expr}(a it:Addr):X8 P w K tg (Itt K a) [it] it (fun i h=>h.IsTupleIter it a i) where
 mem:=by simp
 obj:=fun i h st b hb=>by
  have e:b=it:=by simpa using hb
  subst e;obtain ⟨o,e,c,d⟩:=st;exact ⟨o,e,fun v z=>by rw [d] at z; cases z⟩
 keep:=fun i h h' st k=>st.at fun o e=>k it (by simp) o e
 item:=by
  intro X hP hw hK hc i pins s σ H E I hf st hg;subst hP hw hK;obtain ⟨xs,x,hq,hx⟩:=hg;obtain ⟨its,rv,p,hz⟩:=I.tuple hq;obtain ⟨u,hu,ru⟩:=rv.get hx;obtain ⟨f0,f1,f2,f3,f4,f5⟩:=hf it (by simp);refine wpAny_pyNext_tuple_item st (show s.heap.IsTuple a its.toArray from p) (x:=u) (by simpa using hu) fun h' st' sb => ?_;have I1:Inv X pins σ H { s with heap:=h' }:=I.turned (t':=s.toks) (fun b o hb e=>(sb.2 b hb).trans e) f0 f1 f3 f4 f5
  obtain ⟨o,e,c,d⟩:=id st';exact ⟨u,rfl,XJ (s:={ s with heap:=h' }) e c d (by decide) ⟨x,H,I1,ru,⟨rfl,fun ys hy=>by rw [I.tuple_inj hy hq]; exact hx⟩,st',fun b hb=>(hf b hb).1⟩⟩
 done:=by
  intro X hP hw hK hc i pins s σ H E I hf st hg;subst hP hw hK;obtain ⟨xs,hq,hx⟩:=hg;obtain ⟨its,rv,p,hz⟩:=I.tuple hq;obtain ⟨f0,f1,f2,f3,f4,f5⟩:=hf it (by simp);have hl:=rv.length;exact wpAny_pyNext_tuple_end (I.ok.hd hc) st (show s.heap.IsTuple a its.toArray from p) (by simp; omega) fun h' eb=>⟨rfl,I.turned (t':=s.toks) (fun b o hb e=>eb b o hb e) f0 f1 f3 f4 f5⟩
 self:=fun _ _ _ _ _ st h=>wpAny_pyIter_tupleiter st h
theorem Zg {P:Program}{w:World}{K:PySem.W.Frag}{tg:Expr}(it:Addr) (lo:Int) (n:Nat):X8 P w K tg (Itr lo n) [it] it (fun i h=>IsRangeIter h it (lo+(i:Nat) * 1) ((n:Int) - (i:Nat)) 1) where
 mem:=by simp
 obj:=fun i h st b hb=>by
  have e:b=it:=by simpa using hb
  subst e
  exact ⟨_,st,fun v z=>by
   have z':Data.fields _=Data.cell v:=z
   cases z'⟩
 keep:=fun i h h' st k=>k it (by simp) _ st
 item:=by
  intro X hP hw hK hc i pins s σ H E I hf st hg;subst hP hw hK;obtain ⟨f0,f1,f2,f3,f4,f5⟩:=hf it (by simp);have W:=Walks.range (prog:=X.prog) (w:=X.w) (I.ok.hd hc) it lo 1 n;refine W.item i s _ _ hg st fun v h' tk hv st' kk => ?_;obtain ⟨t,rfl⟩:=hv;have I1:Inv X pins σ H { s with heap:=h',toks:=tk }:=I.turned (fun b o hb e=>kk b o (by simpa using hb) e) f0 f1 f3 f4 f5;refine ⟨_,rfl,XJ (s:={ s with heap:=h',toks:=tk }) (n := "range_iterator") st' rfl rfl (by decide) ⟨.int (lo+i),H,I1,⟨t,?_⟩,⟨rfl,rfl⟩,st',fun b hb=>(hf b hb).1⟩⟩
  rw [Int.mul_one]
 done:=by
  intro X hP hw hK hc i pins s σ H E I hf st hg;subst hP hw hK;obtain ⟨f0,f1,f2,f3,f4,f5⟩:=hf it (by simp);exact wpAny_pyNext_range_end (I.ok.hd hc) st (by have:n≤i:=hg; omega) fun h' eb=>⟨rfl,I.turned (t':=s.toks) (fun b o hb e=>eb b o hb e) f0 f1 f3 f4 f5⟩
 self:=fun _ _ _ _ _ st h=>wpAny_pyIter_rangeiter st h
section
variable {X:Cx}{tg:Expr}
def iList (K:PySem.W.Frag) (tl:TE):TI:=fun σ H R=>tl σ H fun x H1=>∃ a,x=.ref a∧(∃ xs,SqL K H1 a xs)∧R (Itl K a) H1
def iTup (K:PySem.W.Frag) (tl:TE):TI:=fun σ H R=>tl σ H fun x H1=>∃ a,x=.ref a∧(∃ xs,SqT K H1 a xs)∧R (Itt K a) H1
theorem pi_list {l:Expr}{tl:TE}(hl:PE X l tl):PI X tg l (iList X.K tl):=by
 intro pins s σ H R I h;refine thn (hl pins s σ H _ I h) fun v s1 ⟨x,H1,I1,r1,q1⟩ => ?_;obtain ⟨a,e,⟨xs,hq⟩,q⟩:=q1;subst e;cases r1;obtain ⟨its,rv,p,hz⟩:=I1.list hq;refine wpAny_pyIter_list p.isList ?_;refine ⟨s1.heap.objs.size,[s1.heap.objs.size],_,_,H1,rfl,I1.kept (t':=s1.toks) fun b o e=>Heap.get?_push_of_some _ e,J2 a _,⟨_,Heap.get?_push_size _ rfl,rfl,rfl⟩,fun b hb => ?_,q⟩;have e:b=s1.heap.objs.size:=by simpa using hb
 subst e;exact I1.fpOk (Nat.le_refl _) (I1.hok.fresh (Nat.le_refl _))
theorem pi_tup {l:Expr}{tl:TE}(hl:PE X l tl):PI X tg l (iTup X.K tl):=by
 intro pins s σ H R I h;refine thn (hl pins s σ H _ I h) fun v s1 ⟨x,H1,I1,r1,q1⟩ => ?_;obtain ⟨a,e,⟨xs,hq⟩,q⟩:=q1;subst e;cases r1;obtain ⟨its,rv,p,hz⟩:=I1.tuple hq;refine wpAny_pyIter_tuple (show s1.heap.IsTuple a its.toArray from p) ?_;refine ⟨s1.heap.objs.size,[s1.heap.objs.size],_,_,H1,rfl,I1.kept (t':=s1.toks) fun b o e=>Heap.get?_push_of_some _ e,Zf a _,⟨_,Heap.get?_push_size _ rfl,rfl,rfl⟩,fun b hb => ?_,q⟩
 have e:b=s1.heap.objs.size:=by simpa using hb
 subst e;exact I1.fpOk (Nat.le_refl _) (I1.hok.fresh (Nat.le_refl _))
theorem VG {pins:List (Addr×Obj)}{σ:St}{H:Hp}{s:Shared}{R:It→Hp→Prop}{E:Value→Shared→Prop}{lo hi:Int}{t u v:Tok}{tk:Nat}(I:Inv X pins σ H s) (h1 : -(2 ^ 62)≤lo) (h2:lo < 2 ^ 62) (h3 : -(2 ^ 62)≤hi) (h4:hi < 2 ^ 62)
  (q:R (Itr lo (hi - lo).toNat) H):wpAny (model X.prog X.w) X.A (pyIter (.ref s.heap.objs.size)) (PIE X pins σ tg R) E { s with heap:=s.heap.push { cls:=.type "range",data:=.fields #[.int lo t,.int hi u,.int 1 v] },toks:=tk }:=by
 refine wpAny_pyIter_range (IsRange.new ..) (small_one h1 h2 h3 h4) ?_;have I1:Inv X pins σ H { s with heap:=s.heap.push { cls:=.type "range",data:=.fields #[.int lo t,.int hi u,.int 1 v] },toks:=tk }:=I.kept fun b o e=>Heap.get?_push_of_some _ e
 refine ⟨(s.heap.push { cls:=.type "range",data:=.fields #[.int lo t,.int hi u,.int 1 v] }).objs.size,[(s.heap.push { cls:=.type "range",data:=.fields #[.int lo t,.int hi u,.int 1 v] }).objs.size],_,_,H,rfl,
  I1.kept (t':=tk) fun b o e=>Heap.get?_push_of_some _ e,Zg _ lo (hi - lo).toNat,?_,fun b hb => ?_,q⟩
 ·have e1:lo+((0:Nat):Int) * 1=lo:=by simp
  have e2:(((hi - lo).toNat:Nat):Int) - ((0:Nat):Int)=Builtin.Range.rangeSize lo hi 1:=by rw [rangeSize_one]; split<;>omega
  show IsRangeIter _ _ (lo+((0:Nat):Int) * 1) ((((hi - lo).toNat:Nat):Int) - ((0:Nat):Int)) 1;rw [e1,e2];exact Heap.get?_push_size _ rfl
 ·have e:b=(s.heap.push { cls:=.type "range",data:=.fields #[.int lo t,.int hi u,.int 1 v] }).objs.size:=by simpa using hb
  subst e;exact I1.fpOk (Nat.le_refl _) (I1.hok.fresh (Nat.le_refl _))
def WV (ta:TA):TI:=fun σ H R=>ta σ H fun vs H1=>∃ j:Int,vs=[.int j] ∧ -(2 ^ 62)≤j∧j < 2 ^ 62∧R (Itr 0 j.toNat) H1
theorem Kf {a:Expr}{ta:TA}{p pos:Pos}(hg:Gl X "range") (hm:X.mg "range" = none) (ha:PA X [a] ta) (hs:starEach [a] X.env=[(false,eval a X.env)]:=by rfl):PI X tg (.Call (.Name "range" p) [a] [] pos) (WV ta):=by
 intro pins s σ H R I h;refine Call_ (Qj I hg hm boot_range (PyProof.Rows.callWith_type1 (thn (ha pos pins s σ H _ I h) fun us s1 ⟨vs,H1,I1,r1,q1⟩ => ?_) hs rfl));obtain ⟨j,e,q1,q2,q⟩:=q1;subst e
 cases r1 with
 | cons r rr =>
  cases rr;obtain ⟨t,rfl⟩:=r;exact call_range_1 (VG I1 (by omega) (by omega) q1 q2 (by simpa using q))
def tFor (wi:TI) (g:TG) (tb:TS):TS:=fun D σ H=>wi σ H fun J H1=>∃ W:Nat→Nat→St→Hp→Prop,(∃ m,W 0 m σ H1)∧∀ i m σ H,W i m σ H →
 (J.stop i H∧D.nx σ H)∨(J.go i H∧∃ N:St→Hp→Prop,(∀ σ' H',N σ' H'→∃ m',m' < m∧W (i+1) m' σ' H')∧∀ x H',J.yld i H x H'→g x σ H' fun σ2 H2=>tb { D with nx:=N,ct:=N,bk:=D.nx } σ2 H2)
def zH (fp:List Addr) (h:Heap):List (Addr×Obj):=fp.filterMap fun b=>(h.get? b).map fun o=>(b,o)
theorem lW {fp:List Addr}{h:Heap}{b:Addr}{o:Obj}(hb:b∈fp) (e:h.get? b=some o):(b,o)∈zH fp h:=List.mem_filterMap.mpr ⟨b,hb,by rw [e]; rfl⟩
theorem Kp {fp:List Addr}{h:Heap}{p:Addr×Obj}(hp:p∈zH fp h):p.1∈fp∧h.get? p.1=some p.2:=by
 obtain ⟨b,hb,e⟩:=List.mem_filterMap.mp hp
 cases q:h.get? b with
 | none=>rw [q] at e; cases e
 | some o =>
  rw [q] at e;have e':(b,o)=p:=Option.some.inj e;subst e';exact ⟨hb,q⟩
theorem Inv.pinned {pins:List (Addr×Obj)}{σ:St}{H:Hp}{s:Shared}{fp:List Addr}(I:Inv X pins σ H s) (hf:∀ b∈fp,tE X pins H b) (ho:∀ b∈fp,∃ o,s.heap.get? b=some o∧∀ v,o.data≠.cell v):Inv X (pins++zH fp s.heap) σ H s :=
 I.pins_of fun p hp=>(List.mem_append.mp hp).elim (fun z=>I.pin p (List.mem_append_right _ z)) fun z=>by
  obtain ⟨hb,e⟩:=Kp z;obtain ⟨f0,f1,f2,_⟩:=hf p.1 hb;obtain ⟨o,e',d⟩:=ho p.1 hb;rw [e] at e'; cases e'
  exact ⟨e,f0,f1,f2,d⟩
theorem Inv.unpinned {pins pl:List (Addr×Obj)}{σ:St}{H:Hp}{s:Shared}(I:Inv X (pins++pl) σ H s):Inv X pins σ H s:=I.pins_of fun p hp=>I.pin p (List.mem_append_right _ (List.mem_append_left _ hp))
theorem ps_for {iter:Expr}{body:List Stmt}{wi:TI}{g:TG}{tb:TS}{pos:Pos}(hp:PassesOwn (model X.prog X.w) X.A X.env X.xe) (hc:X.calm=true) (hi:PI X tg iter wi) (hg:PG X tg g) (hb:PSs X body tb)
  (hs:∀ x,foldedSetIterable iter X.env x=pure x:=by intro _; rfl):PS X (.For tg iter body [] pos) (tFor wi g tb):=by
 intro pins s σ H D I h;refine wpAny_For (thn (hi pins s σ H _ I h) fun v s1 h1=>thn h1 fun itv s2 h2 => ?_) hs;obtain ⟨it,fp,tn,J,H2,e,I2,T,st2,f2,W,⟨m0,w0⟩,turn⟩:=h2;subst e;have stat:∀ {H':Hp},(∀ b∈fp,H' b=none)→∀ b∈fp,tE X pins H' b:=fun hn b hb=>⟨hn b hb,(f2 b hb).2⟩;refine codeAny_forLoop_any (fun n s'=>∃ i σ' H',Inv X pins σ' H' s'∧tn i s'.heap∧(∀ b∈fp,H' b=none)∧W i n σ' H') ?_ m0 ⟨0,σ,H2,I2,st2,fun b hb=>(f2 b hb).1,w0⟩
 rintro n s3 ⟨i,σ3,H3,I3,st3,fr3,w3⟩
 rcases turn i n σ3 H3 w3 with ⟨stop,qn⟩ | ⟨go,N,hN,step⟩
 ·refine wpAny_passesOwn hp (thn (T.done X rfl rfl rfl hc i pins s3 σ3 H3 X.xe I3 (stat fr3) st3 stop) fun r s4 ⟨hr,I4⟩ => ?_)
  subst hr;exact wpAny_execs_nil ⟨σ3,H3,I4,qn⟩
 ·refine wpAny_passesOwn hp (thn (T.item X rfl rfl rfl hc i pins s3 σ3 H3 X.xe I3 (stat fr3) st3 go) fun r s4 ⟨u,hr,h4⟩ => ?_)
  subst hr;refine wpAny_passesOwn hp (thn h4 fun _ s5 ⟨x,H5,I5,r5,y5,st5,fr5⟩ => ?_);have I5':=I5.pinned (stat fr5) (T.obj _ _ st5);refine wpAny_passesOwn hp (thn (hg _ s5 σ3 H5 x u _ I5' r5 (step x H5 y5)) fun _ s6 ⟨σ6,H6,I6,q6⟩ => ?_);refine wpAny_passesOwn hp (thn (hb _ s6 σ6 H6 _ I6 q6) fun f s7 q7 => ?_)
  have again:∀ {σ7:St} {H7:Hp},Inv X (pins++zH fp s5.heap) σ7 H7 s7→N σ7 H7→∃ m,m < n∧∃ i σ' H',Inv X pins σ' H' s7∧tn i s7.heap∧(∀ b∈fp,H' b=none)∧W i m σ' H':=fun {σ7 H7} I7 n7=>by
   obtain ⟨m',hm,w7⟩:=hN σ7 H7 n7;refine ⟨m',hm,i+1,σ7,H7,I7.unpinned,T.keep _ _ _ st5 fun b hb o e=>(I7.pin (b,o) (List.mem_append_right _ (List.mem_append_right _ (lW hb e)))).1,fun b hb => ?_,w7⟩;obtain ⟨o,e,d⟩:=T.obj _ _ st5 b hb;exact (I7.pin (b,o) (List.mem_append_right _ (List.mem_append_right _ (lW hb e)))).2.1
  cases f with
  | next=>obtain ⟨σ7,H7,I7,n7⟩:=q7; exact again I7 n7
  | cont=>obtain ⟨σ7,H7,I7,n7⟩:=q7; exact again I7 n7
  | brk=>obtain ⟨σ7,H7,I7,q7⟩:=q7; exact ⟨σ7,H7,I7.unpinned,q7⟩
  | ret v=>obtain ⟨x7,σ7,H7,I7,r7,q7⟩:=q7; exact ⟨x7,σ7,H7,I7.unpinned,r7,q7⟩
end
abbrev R2:=V→V→Hp→VK→Prop
def OpR (X:Cx) (f:Value→Value→Sem Value) (r:R2):Prop :=
 ∀ (pins:List (Addr×Obj)) (s:Shared) (σ:St) (H:Hp) (x y:V) (v u:Value) (Q:VK),Inv X pins σ H s→RelV x v→RelV y u→r x y H Q →
  wpAny (model X.prog X.w) X.A (f v u) (EP X pins σ Q) X.xe s
def UnR (X:Cx) (f:Value→Sem Value) (r:V→Hp→VK→Prop):Prop :=
 ∀ (pins:List (Addr×Obj)) (s:Shared) (σ:St) (H:Hp) (x:V) (v:Value) (Q:VK),Inv X pins σ H s→RelV x v→r x H Q →
  wpAny (model X.prog X.w) X.A (f v) (EP X pins σ Q) X.xe s
def CallR (X:Cx) (f:Value) (r:List V→Hp→VK→Prop):Prop :=
 ∀ (pins:List (Addr×Obj)) (s:Shared) (σ:St) (H:Hp) (xs:List V) (us:List Value) (Q:VK),Inv X pins σ H s→Vals xs us→r xs H Q →
  wpAny (model X.prog X.w) X.A (call f us) (EP X pins σ Q) X.xe s
def tOp (r:R2) (ta tb:TE):TE:=fun σ H Q=>ta σ H fun x H1=>tb σ H1 fun y H2=>r x y H2 Q
def tUn (r:V→Hp→VK→Prop) (ta:TE):TE:=fun σ H Q=>ta σ H fun x H1=>r x H1 Q
inductive II (C:Int→Int→Prop) (g:Int→Int→V) (x y:V) (H:Hp) (Q:VK):Prop
 | mk (i j:Int) (h:x=.int i) (h':y=.int j) (c:C i j) (q:Q (g i j) H):II C g x y H Q
def rI (C:Int→Int→Prop) (g:Int→Int→V):R2:=II C g
inductive II0 (g:Int→Int→V) (x y:V) (H:Hp) (Q:VK):Prop
 | mk (i j:Int) (h:x=.int i) (h':y=.int j) (q:Q (g i j) H):II0 g x y H Q
def rI0 (g:Int→Int→V):R2:=II0 g
def rU (g:Int→V):V→Hp→VK→Prop:=fun x H Q=>∃ i,x=.int i∧Q (g i) H
section
variable {X:Cx}{a b c:Expr}{ta tb tc:TE}{pos:Pos}
theorem binT (ha:PE X a ta) (hb:PE X b tb) {pins:List (Addr×Obj)}{s:Shared}{σ:St}{H:Hp}{R:V→V→Hp→Prop}(I:Inv X pins σ H s)
  (h:ta σ H fun x H1=>tb σ H1 fun y H2=>R x y H2) {Q:Value→Shared→Prop} {f:Value→Value→Sem Value}
  (hf:∀ v u s2 x y H2,Inv X pins σ H2 s2→RelV x v→RelV y u→R x y H2→wpAny (model X.prog X.w) X.A (f v u) Q X.xe s2) :
  wpAny (model X.prog X.w) X.A (eval a X.env) (fun v s₁=>wpAny (model X.prog X.w) X.A (eval b X.env) (fun u s₂=>wpAny (model X.prog X.w) X.A (f v u) Q X.xe s₂) X.xe s₁) X.xe s:=by
 refine thn (ha pins s σ H _ I h) fun v s1 ⟨x,H1,I1,r1,q1⟩ => ?_;refine thn (hb pins s1 σ H1 _ I1 q1) fun u s2 ⟨y,H2,I2,r2,q2⟩ => ?_;exact hf v u s2 x y H2 I2 r1 r2 q2
theorem pe_op {op:Operator}{r:R2}(ho:OpR X (binaryOp op) r) (ha:PE X a ta) (hb:PE X b tb):PE X (.BinOp a op b pos) (tOp r ta tb):=by
 intro pins s σ H Q I h;exact wpAny_BinOp (binT ha hb I h fun v u s2 x y H2 I2 rx ry q=>ho pins s2 σ H2 x y v u Q I2 rx ry q)
theorem pe_un {op:UnaryOp}{r:V→Hp→VK→Prop}(ho:UnR X (unaryOp op) r) (ha:PE X a ta):PE X (.UnaryOp op a pos) (tUn r ta):=by
 intro pins s σ H Q I h;exact UnaryOp_ (thn (ha pins s σ H _ I h) fun v s1 ⟨x,H1,I1,r1,q1⟩=>ho pins s1 σ H1 x v Q I1 r1 q1)
theorem opI {f:Value→Value→Sem Value}{C:Int→Int→Prop}{g:Int→Int→Int}
  (rule:∀ (i j:Int) (t u:Tok) (s:Shared) (Q:Value→Shared→Prop) (E:Value→Shared→Prop),C i j→Q (.int (g i j) s.toks) { s with toks:=s.toks+1 }→wpAny (model X.prog X.w) X.A (f (.int i t) (.int j u)) Q E s) :
  OpR X f (rI C fun i j=>.int (g i j)):=by
 intro pins s σ H x y v u Q I rx ry h;obtain ⟨i,j,rfl,rfl,hc,q⟩:=h;obtain ⟨t,rfl⟩:=rx;obtain ⟨t',rfl⟩:=ry;exact rule i j t t' s _ _ hc ⟨.int (g i j),H,I.tok _,⟨_,rfl⟩,q⟩
theorem opI0 {f:Value→Value→Sem Value}{g:Int→Int→Int}
  (rule:∀ (i j:Int) (t u:Tok) (s:Shared) (Q:Value→Shared→Prop) (E:Value→Shared→Prop),Q (.int (g i j) s.toks) { s with toks:=s.toks+1 }→wpAny (model X.prog X.w) X.A (f (.int i t) (.int j u)) Q E s) :
  OpR X f (rI0 fun i j=>.int (g i j)):=by
 intro pins s σ H x y v u Q I rx ry h;obtain ⟨i,j,rfl,rfl,q⟩:=h;obtain ⟨t,rfl⟩:=rx;obtain ⟨t',rfl⟩:=ry;exact rule i j t t' s _ _ ⟨.int (g i j),H,I.tok _,⟨_,rfl⟩,q⟩
theorem opB0 {f:Value→Value→Sem Value}{g:Int→Int→Bool}
  (rule:∀ (i j:Int) (t u:Tok) (s:Shared) (Q:Value→Shared→Prop) (E:Value→Shared→Prop),Q (.bool (g i j)) s→wpAny (model X.prog X.w) X.A (f (.int i t) (.int j u)) Q E s) :
  OpR X f (rI0 fun i j=>.bl (g i j)):=by
 intro pins s σ H x y v u Q I rx ry h;obtain ⟨i,j,rfl,rfl,q⟩:=h;obtain ⟨t,rfl⟩:=rx;obtain ⟨t',rfl⟩:=ry;exact rule i j t t' s _ _ ⟨.bl (g i j),H,I,rfl,q⟩
def CPow (i j:Int):Prop:=0≤j∧j≤1000000∧i.natAbs < 2 ^ 64
def CMul (i j:Int):Prop:=(-(2 ^ 64) < i∧i < 2 ^ 64)∨(-(2 ^ 64) < j∧j < 2 ^ 64)
theorem CMul.ok {i j:Int}(h:CMul i j):IntMulOk i j:=by
 rcases h with ⟨h1,h2⟩ | ⟨h1,h2⟩
 ·exact .of_left (intBits_le_64 h1 h2)
 ·exact .of_right (intBits_le_64 h1 h2)
theorem op_add:OpR X (binaryOp .Add) (rI0 fun i j=>.int (i+j)):=opI0 fun _ _ _ _ _ _ _ q=>add_int q
theorem xV:OpR X (binaryOp .Sub) (rI0 fun i j=>.int (i - j)):=opI0 fun _ _ _ _ _ _ _ q=>sub_int q
theorem kH:OpR X (binaryOp .Mult) (rI CMul fun i j=>.int (i * j)):=opI fun _ _ _ _ _ _ _ hc q=>mul_int q hc.ok
theorem rM:OpR X (binaryOp .Mod) (rI (fun _ j=>0 < j) fun i j=>.int (i % j)):=opI fun i j _ _ _ _ _ hc q=>by
 have h1:(0:Int) < j:=hc;exact mod_int' (by omega) (by rw [Int.fmod_eq_emod_of_nonneg i (by omega)]; exact q)
theorem vT:OpR X (binaryOp .Pow) (rI CPow fun i j=>.int (i ^ j.toNat)):=opI fun _ _ _ _ _ _ _ hc q=>pow_int_small hc.1 hc.2.1 hc.2.2 q
theorem unI {f:Value→Sem Value}{g:Int→Int}
  (rule:∀ (i:Int) (t:Tok) (s:Shared) (Q:Value→Shared→Prop) (E:Value→Shared→Prop),Q (.int (g i) s.toks) { s with toks:=s.toks+1 }→wpAny (model X.prog X.w) X.A (f (.int i t)) Q E s) :
  UnR X f (rU fun i=>.int (g i)):=by
 intro pins s σ H x v Q I rx h;obtain ⟨i,rfl,q⟩:=h;obtain ⟨t,rfl⟩:=rx;exact rule i t s _ _ ⟨.int (g i),H,I.tok _,⟨_,rfl⟩,q⟩
theorem oI:UnR X (unaryOp .USub) (rU fun i=>.int (-i)):=unI fun _ _ _ _ _ q=>neg_int q
end
def scal:V→V→Bool
 | .non,.non=>true | .non,.int _=>true | .int _,.non=>true | .non,.bl _=>true | .bl _,.non=>true | .non,.str _=>true | .str _,.non=>true
 | .int _,.int _=>true | .bl _,.bl _=>true | .str _,.str _=>true | .byt _,.byt _=>true
 | .int _,.str _=>true | .str _,.int _=>true | .bl _,.str _=>true | .str _,.bl _=>true
 | _,_=>false
def rEq:R2:=fun x y H Q=>scal x y=true∧Q (.bl (decide (x=y))) H
def rNe:R2:=fun x y H Q=>scal x y=true∧Q (.bl (!decide (x=y))) H
theorem Jz {i j:Int}:decide (V.int i=V.int j)=(i==j):=by
 rw [Bool.eq_iff_iff]
 simp
theorem W8 {i j:Bool}:decide (V.bl i=V.bl j)=(i==j):=by
 rw [Bool.eq_iff_iff]
 simp
theorem Jy {i j:Str}:decide (V.str i=V.str j)=(i==j):=by
 rw [Bool.eq_iff_iff]
 simp
theorem JC {i j:Array UInt8}:decide (V.byt i=V.byt j)=(i.toList==j.toList):=by
 rw [Bool.eq_iff_iff];cases i;cases j
 simp
section
variable {X:Cx}{a b c:Expr}{ta tb tc:TE}{pos:Pos}
theorem wZ {pins:List (Addr×Obj)}{σ:St}{H:Hp}{s:Shared}{Q:VK}{k k':Bool}(I:Inv X pins σ H s) (q:Q (.bl k) H) (e:k=k'):EP X pins σ Q (.bool k') s:=by
 subst e;exact ⟨.bl k,H,I,rfl,q⟩
theorem uZ:OpR X (compareOp .Eq) rEq:=by
 intro pins s σ H x y v u Q I rx ry h;obtain ⟨hs,q⟩:=h
 cases x with
 | non =>
  cases rx
  cases y with
  | non=>cases ry; exact PySem.EqNone.eq_none_none (wZ I q (by simp))
  | bl j=>cases ry; exact PySem.EqNone.eq_none_bool (wZ I q (by simp))
  | int j=>obtain ⟨t',rfl⟩:=ry; exact PySem.EqNone.eq_none_int (wZ I q (by simp))
  | str j=>obtain ⟨t',rfl⟩:=ry; exact PySem.EqNone.eq_none_str (wZ I q (by simp))
  | _=>exact absurd (show false=true from hs) Bool.false_ne_true
 | bl i =>
  cases rx
  cases y with
  | non=>cases ry; exact PySem.EqNone.eq_bool_none (wZ I q (by simp))
  | bl j=>cases ry; exact eq_bool (wZ I q W8)
  | str j=>obtain ⟨t',rfl⟩:=ry; exact PySem.EqMixed.eq_bool_str (wZ I q (by simp))
  | _=>exact absurd (show false=true from hs) Bool.false_ne_true
 | int i =>
  obtain ⟨t,rfl⟩:=rx
  cases y with
  | non=>cases ry; exact PySem.EqNone.eq_int_none (wZ I q (by simp))
  | int j=>obtain ⟨t',rfl⟩:=ry; exact eq_int (wZ I q Jz)
  | str j=>obtain ⟨t',rfl⟩:=ry; exact PySem.EqMixed.eq_int_str (wZ I q (by simp))
  | _=>exact absurd (show false=true from hs) Bool.false_ne_true
 | str i =>
  obtain ⟨t,rfl⟩:=rx
  cases y with
  | non=>cases ry; exact PySem.EqNone.eq_str_none (wZ I q (by simp))
  | bl j=>cases ry; exact PySem.EqMixed.eq_str_bool (wZ I q (by simp))
  | int j=>obtain ⟨t',rfl⟩:=ry; exact PySem.EqMixed.eq_str_int (wZ I q (by simp))
  | str j=>obtain ⟨t',rfl⟩:=ry; exact eq_str (wZ I q Jy)
  | _=>exact absurd (show false=true from hs) Bool.false_ne_true
 | byt i =>
  obtain ⟨t,rfl⟩:=rx
  cases y with
  | byt j=>obtain ⟨t',rfl⟩:=ry; exact PySem.W.eq_bytes (wZ I q JC)
  | _=>exact absurd (show false=true from hs) Bool.false_ne_true
 | _=>cases y<;>exact absurd (show false=true from hs) Bool.false_ne_true
theorem op_ne:OpR X (compareOp .NotEq) rNe:=by
 intro pins s σ H x y v u Q I rx ry h;obtain ⟨hs,q⟩:=h
 cases x with
 | non =>
  cases rx
  cases y with
  | non=>cases ry; exact PySem.EqNone.ne_none_none (wZ I q (by simp))
  | bl j=>cases ry; exact PySem.EqNone.ne_none_bool (wZ I q (by simp))
  | int j=>obtain ⟨t',rfl⟩:=ry; exact PySem.EqNone.ne_none_int (wZ I q (by simp))
  | str j=>obtain ⟨t',rfl⟩:=ry; exact PySem.EqNone.ne_none_str (wZ I q (by simp))
  | _=>exact absurd (show false=true from hs) Bool.false_ne_true
 | bl i =>
  cases rx
  cases y with
  | non=>cases ry; exact PySem.EqNone.ne_bool_none (wZ I q (by simp))
  | bl j=>cases ry; exact ne_bool (wZ I q (congrArg not W8))
  | str j=>obtain ⟨t',rfl⟩:=ry; exact PySem.EqMixed.ne_bool_str (wZ I q (by simp))
  | _=>exact absurd (show false=true from hs) Bool.false_ne_true
 | int i =>
  obtain ⟨t,rfl⟩:=rx
  cases y with
  | non=>cases ry; exact PySem.EqNone.ne_int_none (wZ I q (by simp))
  | int j=>obtain ⟨t',rfl⟩:=ry; exact ne_int (wZ I q (congrArg not Jz))
  | str j=>obtain ⟨t',rfl⟩:=ry; exact PySem.EqMixed.ne_int_str (wZ I q (by simp))
  | _=>exact absurd (show false=true from hs) Bool.false_ne_true
 | str i =>
  obtain ⟨t,rfl⟩:=rx
  cases y with
  | non=>cases ry; exact PySem.EqNone.ne_str_none (wZ I q (by simp))
  | bl j=>cases ry; exact PySem.EqMixed.ne_str_bool (wZ I q (by simp))
  | int j=>obtain ⟨t',rfl⟩:=ry; exact PySem.EqMixed.ne_str_int (wZ I q (by simp))
  | str j=>obtain ⟨t',rfl⟩:=ry; exact ne_str (wZ I q (congrArg not Jy))
  | _=>exact absurd (show false=true from hs) Bool.false_ne_true
 | byt i =>
  obtain ⟨t,rfl⟩:=rx
  cases y with
  | byt j=>obtain ⟨t',rfl⟩:=ry; exact PySem.W.ne_bytes (wZ I q (congrArg not JC))
  | _=>exact absurd (show false=true from hs) Bool.false_ne_true
 | _=>cases y<;>exact absurd (show false=true from hs) Bool.false_ne_true
theorem rL:OpR X (compareOp .Lt) (rI0 fun i j=>.bl (decide (i < j))):=opB0 fun _ _ _ _ _ _ _ q=>lt_int q
theorem yW:OpR X (compareOp .Gt) (rI0 fun i j=>.bl (decide (j < i))):=opB0 fun _ _ _ _ _ _ _ q=>gt_int q
theorem op_isN:OpR X (compareOp .Is) (fun x y H Q=>y=.non∧Q (.bl (decide (x=.non))) H):=by
 intro pins s σ H x y v u Q I rx ry h;obtain ⟨rfl,q⟩:=h;cases ry;refine is_none_gen (wZ I q ?_)
 cases x<;>first
  | (cases rx; rfl)
  | (obtain ⟨t,rfl⟩:=rx; rfl)
theorem Qe:OpR X (compareOp .IsNot) (fun x y H Q=>y=.non∧Q (.bl (!decide (x=.non))) H):=by
 intro pins s σ H x y v u Q I rx ry h;obtain ⟨rfl,q⟩:=h;cases ry;refine isnot_none_gen (wZ I q ?_)
 cases x<;>first
  | (cases rx; rfl)
  | (obtain ⟨t,rfl⟩:=rx; rfl)
theorem OpR.or {f:Value→Value→Sem Value}{r r':R2}(h:OpR X f r) (h':OpR X f r'):OpR X f (fun x y H Q=>r x y H Q∨r' x y H Q):=by
 intro pins s σ H x y v u Q I rx ry q
 rcases q with q | q
 ·exact h pins s σ H x y v u Q I rx ry q
 ·exact h' pins s σ H x y v u Q I rx ry q
theorem oQ (b:Expr) {op:CmpOp}(h:op≠.In:=by decide) (h2:op≠.NotIn:=by decide):behindInMarks op b=false:=by
 have e1:(op==CmpOp.In)=false:=by cases op<;>first | rfl | exact absurd rfl h
 have e2:(op==CmpOp.NotIn)=false:=by cases op<;>first | rfl | exact absurd rfl h2
 cases b<;>simp [behindInMarks,e1,e2]
theorem pe_cmpR {op:CmpOp}{r:R2}(ho:OpR X (compareOp op) r) (ha:PE X a ta) (hb:PE X b tb) (hm:behindInMarks op b=false):PE X (.Compare a [op] [b] pos) (tOp r ta tb):=by
 intro pins s σ H Q I h;exact wpAny_Compare1 (binT ha hb I h fun v u s2 x y H2 I2 rx ry q=>ho pins s2 σ H2 x y v u Q I2 rx ry q) hm
def Vq (t:TE):TT:=fun σ H Q=>t σ H (IBl Q)
theorem pt_cmpR {op:CmpOp}{r:R2}(ho:OpR X (compareOp op) r) (ha:PE X a ta) (hb:PE X b tb) (hm:behindInMarks op b=false):PT X (.Compare a [op] [b] pos) (Vq (tOp r ta tb)):=by
 intro pins s σ H Q I h
 refine wpAny_isTrue_Compare1 (thn (ha pins s σ H _ I h) fun v s1 ⟨x,H1,I1,r1,q1⟩=>thn (hb pins s1 σ H1 _ I1 q1) fun u s2 ⟨y,H2,I2,r2,q2⟩ =>
  thn (ho pins s2 σ H2 x y v u _ I2 r1 r2 q2) fun c s3 ⟨z,H3,I3,r3,k,e,q3⟩ => ?_) hm
 subst e;cases r3;exact wpAny_truthy_bool ⟨H3,I3,q3⟩
theorem gH:(sizeLine:Nat) < 2 ^ 63:=by rw [sizeLine_eq]; decide
theorem Zs:OpR X (binaryOp .Add) (fun x y H Q=>∃ i j,x=.str i∧y=.str j∧i.length+j.length≤sizeLine∧Q (.str (i++j)) H):=by
 intro pins s σ H x y v u Q I rx ry h;obtain ⟨i,j,rfl,rfl,hz,q⟩:=h;obtain ⟨t,rfl⟩:=rx;obtain ⟨t',rfl⟩:=ry;exact add_str (fun t' tk=>⟨.str (i++j),H,I.tok _,⟨_,rfl⟩,q⟩) hz
theorem kL {x:V}{us:List Value}(r:Vals [x] us):∃ u,us=[u]∧RelV x u:=by
 cases r with
 | cons r1 r2=>cases r2; exact ⟨_,rfl,r1⟩
theorem QU {x y:V}{us:List Value}(r:Vals [x,y] us):∃ u w',us=[u,w']∧RelV x u∧RelV y w':=by
 cases r with
 | cons r1 r2 =>
  cases r2 with
  | cons r3 r4=>cases r4; exact ⟨_,_,rfl,r1,r3⟩
theorem Yr:CallR X (.builtin "abs") (fun xs H Q=>∃ i,xs=[.int i]∧Q (.int (if i < 0 then -i else i)) H):=by
 intro pins s σ H xs us Q I r h;obtain ⟨i,rfl,q⟩:=h;obtain ⟨u,rfl,t,rfl⟩:=kL r;exact call_abs_int fun u tk=>⟨.int (if i < 0 then -i else i),H,I.tok _,⟨_,rfl⟩,q⟩
theorem fI (hc:X.calm=true):CallR X (.builtin "max") (fun xs H Q=>∃ i j,xs=[.int i,.int j]∧Q (.int (if j > i then j else i)) H):=by
 intro pins s σ H xs us Q I r h;obtain ⟨i,j,rfl,q⟩:=h;obtain ⟨u,w',rfl,⟨t,rfl⟩,⟨t',rfl⟩⟩:=QU r;refine max_two_ints (I.ok.hd hc) fun h' tk k=>⟨_,H,I.kept k,?_,q⟩
 by_cases hj:j > i
 ·rw [if_pos hj,if_pos hj]; exact ⟨_,rfl⟩
 ·rw [if_neg hj,if_neg hj]; exact ⟨_,rfl⟩
theorem mI (hc:X.calm=true):CallR X (.builtin "min") (fun xs H Q=>∃ i j,xs=[.int i,.int j]∧Q (.int (if j < i then j else i)) H):=by
 intro pins s σ H xs us Q I r h;obtain ⟨i,j,rfl,q⟩:=h;obtain ⟨u,w',rfl,⟨t,rfl⟩,⟨t',rfl⟩⟩:=QU r;refine min_two_ints (I.ok.hd hc) fun h' tk k=>⟨_,H,I.kept k,?_,q⟩
 by_cases hj:j < i
 ·rw [if_pos hj,if_pos hj]; exact ⟨_,rfl⟩
 ·rw [if_neg hj,if_neg hj]; exact ⟨_,rfl⟩
theorem aV:CallR X (.type "int") (fun xs H Q=>(∃ i,xs=[.int i]∧Q (.int i) H)∨∃ k,xs=[.bl k]∧Q (.int (if k then 1 else 0)) H):=by
 intro pins s σ H xs us Q I r h
 rcases h with ⟨i,rfl,q⟩ | ⟨k,rfl,q⟩
 ·obtain ⟨u,rfl,t,rfl⟩:=kL r
  exact call_int_int ⟨.int i,H,I,⟨_,rfl⟩,q⟩
 ·obtain ⟨u,rfl,r1⟩:=kL r
  cases r1;exact call_int_bool ⟨.int (if k then 1 else 0),H,I.tok _,⟨_,rfl⟩,q⟩
end
structure ObjM (h:Heap) (x dx C:Addr) (mA:Str→Option Value):Prop where
 obj:h.get? x=some (PySem.W.instObj C dx)
 ns:h.Ns1 dx mA
 ne:dx≠x
theorem KA {h:Heap}{dx:Addr}{mA:Str→Option Value}(n:h.Ns1 dx mA):∃ od,h.get? dx=some od∧∀ name,PySem.W.lookIn name od=some (mA name):=by
 obtain ⟨o,es,ep,ho,hd,hk,_,hm⟩:=n;refine ⟨o,ho,fun name => ?_⟩;have e:=hm name;unfold nsFind findBy at e;rw [← Array.find?_toList] at e;unfold PySem.W.lookIn;rw [hd];dsimp only
 split
 ·rename_i y q
  rw [q] at e;exact congrArg some e
 ·rename_i q
  rw [q] at e
  have a:es.toList.any (·.refKey)=false:=by
   rw [List.any_eq_false];intro y hy;obtain ⟨z,t,hkey⟩:=hk y (Array.mem_toList_iff.mp hy)
   simp [DictEntry.refKey,hkey]
  have a':¬ es.toList.any (·.refKey)=true:=by rw [a]; exact Bool.false_ne_true
  rw [if_neg a'];exact congrArg some e
theorem ObjM.look {h:Heap}{x dx C:Addr}{mA:Str→Option Value}(I:ObjM h x dx C mA):∃ od,PySem.W.InstAt h x (PySem.W.instObj C dx) C (some od)∧∀ name,PySem.W.lookIn name od=some (mA name) :=
 let ⟨od,ho,hl⟩:=KA I.ns
 ⟨od,⟨I.obj,rfl,rfl,ho⟩,hl⟩
theorem RelO.some_of {v:V}{o:Option Value}(r:RelO (some v) o):∃ u,o=some u∧RelV v u:=by
 cases o with
 | none=>exact (show False from r).elim
 | some u=>exact ⟨u,rfl,r⟩
section
variable {P:Program}{w:World}{H H':Hp}{h h':Heap}{a C dx:Addr}{fs fs':List (Str×V)}
theorem ins_get (hok:HOk P w H h) (e:H a=some (.ins C dx fs)):∃ mA,ObjM h a dx C mA∧(∀ f,RelO (fs.lookup f) (mA f))∧PySem.Within mA (fs.map (·.1))∧fs.length≤1000∧H dx=some (.own a):=by
 obtain ⟨d,z,ne,ob,mA,n,r,q⟩:=(show ObjOk P w H h a (.ins C dx fs) from hok a _ e);exact ⟨mA,⟨ob,n,ne⟩,r,q,z,d⟩
end
structure Cls (K:PySem.W.Frag) (C:Addr):Prop where
 pg:PySem.W.plainGet K C Str.empty=true
 hd:PySem.W.hasDictIn K C=true
 po:PySem.W.plainOver K C=true
 sa:PySem.W.findIn K (.ref C) "__setattr__" = some (some (.builtin "object.__setattr__"))
theorem Cls.get {K:PySem.W.Frag}{C:Addr}(c:Cls K C) (f:Str):PySem.W.plainGet K C f=true:=c.pg
section
variable {X:Cx}{pins:List (Addr×Obj)}{σ:St}{H:Hp}{s:Shared}{A:Around}{E:Value→Shared→Prop}{Q:Value→Shared→Prop}{c:Value}{b:Bool}
inductive kN (K:PySem.W.Frag) (H:Hp):V→Value→Prop where
 | non:kN K H .non (.type "NoneType")
 | bl (x:Bool):kN K H (.bl x) (.type "bool")
 | int (i:Int):kN K H (.int i) (.type "int")
 | str (x:Str):kN K H (.str x) (.type "str")
 | flt (x:UInt64):kN K H (.flt x) (.type "float")
 | lst {a:Addr} {xs:List V} (e:H a=some (.lst xs)):kN K H (.ref a) (.type "list")
 | frz {a:Addr} {o:Obj} {xs:List V} (e:H a=some (.frz o (.lst xs))):kN K H (.ref a) (.type "list")
 | tup {a:Addr} {xs:List V} (e:H a=some (.tup xs)):kN K H (.ref a) (.type "tuple")
 | dK {a:Addr} {kvs:List (Key×V)} (e:H a=some (.dK kvs)):kN K H (.ref a) (.type "dict")
 | dT {a:Addr} {kvs:List (List Key×V)} (e:H a=some (.dT kvs)):kN K H (.ref a) (.type "dict")
 | ins {a C dx:Addr} {fs:List (Str×V)} (e:H a=some (.ins C dx fs)) (cl:Cls K C) (ha:PySem.W.findIn K (.ref C) "__class__" = some (some (.builtin "object.__class__")))
   (hn:PySem.W.specialIn K (.builtin "object.__class__") "__get__" = some (some (.builtin "getset_descriptor.__get__"))) (htk:PySem.W.takesIn K (.builtin "object.__class__")=some true)
   (hm:PySem.W.mroIn K C (.type "object")=some true):kN K H (.ref a) (.ref C)
theorem KI {x:V}{u t:Value}(I:Inv X pins σ H s) (rx:RelV x u) (ty:kN X.K H x t) (e:PySem.W.kitOne X.K t c=some b) (h:∀ tk,Q (.bool b) { s with toks:=tk }) :
  wpAny (model X.prog X.w) A (call (.builtin "isinstance") [u,c]) Q E s:=by
 cases ty with
 | non=>cases (show u=Value.none from rx); exact PySem.W.kia_one PySem.W.kitx_none I.kIn True.intro e (fun z=>nomatch z) h
 | bl y=>cases (show u=Value.bool y from rx); exact PySem.W.kia_one PySem.W.kitx_bool I.kIn True.intro e (fun z=>nomatch z) h
 | int i=>obtain ⟨t,q⟩:=(show ∃ t,u=Value.int i t from rx); cases q; exact PySem.W.kia_one PySem.W.kitx_int I.kIn True.intro e (fun z=>nomatch z) h
 | str y=>obtain ⟨t,q⟩:=(show ∃ t,u=Value.str y t from rx); cases q; exact PySem.W.kia_one PySem.W.kitx_str I.kIn True.intro e (fun z=>nomatch z) h
 | flt y=>obtain ⟨t,q⟩:=(show ∃ t,u=Value.float y t from rx); cases q; exact PySem.W.kia_one PySem.W.kitx_float I.kIn True.intro e (fun z=>nomatch z) h
 | @lst a xs ea =>
  cases (show u=Value.ref a from rx);obtain ⟨_,_,n,_,h1⟩:=(show ObjOk X.prog X.w H s.heap a (.lst xs) from I.hok a _ ea);exact PySem.W.kia_one PySem.W.kitx_list I.kIn ⟨_,h1,rfl⟩ e (fun z=>nomatch z) h
 | @frz a ob xs ea =>
  cases (show u=Value.ref a from rx);obtain ⟨_,_,_,n,_,h1⟩:=(show ObjOk X.prog X.w H s.heap a (.frz ob (.lst xs)) from I.hok a _ ea);exact PySem.W.kia_one PySem.W.kitx_list I.kIn ⟨_,h1,rfl⟩ e (fun z=>nomatch z) h
 | @tup a xs ea =>
  cases (show u=Value.ref a from rx);obtain ⟨_,_,_,p⟩:=(show ObjOk X.prog X.w H s.heap a (.tup xs) from I.hok a _ ea);obtain ⟨o,h1,h2,_⟩:=p;exact PySem.W.kia_one PySem.W.kitx_tuple I.kIn ⟨o,h1,h2⟩ e (fun z=>nomatch z) h
 | @dK a kvs ea =>
  cases (show u=Value.ref a from rx);obtain ⟨_,_,vs,_,p⟩:=(show ObjOk X.prog X.w H s.heap a (.dK kvs) from I.hok a _ ea);obtain ⟨o,es,ep,h1,h2,_⟩:=p;exact PySem.W.kia_one PySem.W.kitx_dict I.kIn ⟨o,h1,h2.1⟩ e (fun z=>nomatch z) h
 | @dT a kvs ea =>
  cases (show u=Value.ref a from rx);obtain ⟨_,_,xs,_,o,es,ep,h1,h2,_⟩:=(show ObjOk X.prog X.w H s.heap a (.dT kvs) from I.hok a _ ea);exact PySem.W.kia_one PySem.W.kitx_dict I.kIn ⟨o,h1,h2.1⟩ e (fun z=>nomatch z) h
 | @ins a C dx fs ea cl ha hn htk hm =>
  cases (show u=Value.ref a from rx);obtain ⟨mA,O,_⟩:=ins_get I.hok ea;obtain ⟨od,J,_⟩:=O.look;exact PySem.W.kia_one (PySem.W.kitx_own (cl.get _) cl.hd ha hn htk hm) I.kIn J e (fun z=>nomatch z) h
end
structure Room (k:Nat) (A:Around):Prop where
 hd:A.handled=none
 dp:A.depth+3 * k+5 < recursionLimit
 un:A.units+16 * k+200 < cLine
theorem Room.mono {j k:Nat}{A:Around}(r:Room k A) (h:j≤k):Room j A:=⟨r.hd,by have:=r.dp; omega,by have:=r.un; omega⟩
theorem Room.deeper {k:Nat}{A:Around}(r:Room (k+1) A) (env:Env):Room k (A.deeper env) :=
 ⟨r.hd,by have:=r.dp; show A.depth+1+3 * k+5 < _; omega,by have:=r.un; show A.units+3+16 * k+200 < _; omega⟩
theorem Room.depth {k:Nat}{A:Around}(r:Room k A):A.depth < recursionLimit:=by have:=r.dp; omega
theorem Room.units {k:Nat}{A:Around}(r:Room k A):A.units+64 < cLine:=by have:=r.un; omega
def tNil:TA:=fun _ H Q=>Q [] H
def Vu (ta:TE) (tr:TA):TA:=fun σ H Q=>ta σ H fun x H1=>tr σ H1 fun xs H2=>Q (x::xs) H2
section
variable {X:Cx}{e:Expr}{es:List Expr}{te:TE}{t:TA}{pos:Pos}
theorem pa_nil:PA X [] tNil:=fun _ _ _ _ H Q I h=>Calls.spliced_nil ⟨[],H,I,.nil,h⟩
theorem pa_cons (ha:PE X e te) (hr:PA X es t) (hs:starEach (e::es) X.env=(false,eval e X.env)::starEach es X.env:=by rfl):PA X (e::es) (Vu te t):=by
 intro pos pins s σ H Q I h;rw [hs];show wpAny _ _ (spliced ((false,eval e X.env)::backTo pos (starEach es X.env))) _ _ s;refine Calls.spliced_cons (thn (ha pins s σ H _ I h) fun u s1 ⟨x,H1,I1,r1,q1⟩ => ?_);exact thn (hr pos pins s1 σ H1 _ I1 q1) fun us s2 ⟨xs,H2,I2,r2,q2⟩=>⟨x::xs,H2,I2,.cons r1 r2,q2⟩
inductive INew (o:List V→HO) (Q:VK) (xs:List V) (H:Hp):Prop
 | mk (h:xs.length≤sizeLine) (q:∀ p,H p=none→Q (.ref p) (upd H p (o xs))):INew o Q xs H
def tTup (t:TA):TE:=fun σ H Q=>t σ H (INew .tup Q)
def tLst (t:TA):TE:=fun σ H Q=>t σ H (INew .lst Q)
theorem pe_tup {x1}(h:PA X es t):PE X (.Tuple es x1 pos) (tTup t):=by
 intro pins s σ H Q I hq;refine wpAny_Tuple_spliced (thn (h pos pins s σ H _ I hq) fun us s1 ⟨xs,H1,I1,r,z,q⟩=>⟨by rw [← r.length]; exact z,?_⟩);have hf:H1 s1.heap.objs.size=none:=I1.hok.fresh (Nat.le_refl _);refine ⟨.ref s1.heap.objs.size,upd H1 s1.heap.objs.size (.tup xs),I1.laid (t':=s1.toks) (fun b u e=>Heap.get?_push_of_some _ e) (Nat.le_refl _) ?_,rfl,q _ hf⟩;exact ⟨z,us,r,⟨_,Heap.get?_push_size _ rfl,rfl,⟨_,rfl⟩,rfl⟩⟩
theorem pe_lst (h:PA X es t):PE X (.List es pos) (tLst t):=by
 intro pins s σ H Q I hq;refine wpAny_List_spliced (thn (h pos pins s σ H _ I hq) fun us s1 ⟨xs,H1,I1,r,z,q⟩=>⟨by rw [← r.length]; exact z,?_⟩);have hf:H1 s1.heap.objs.size=none:=I1.hok.fresh (Nat.le_refl _);refine ⟨.ref s1.heap.objs.size,upd H1 s1.heap.objs.size (.lst xs),I1.laid (t':=s1.toks) (fun b u e=>Heap.get?_push_of_some _ e) (Nat.le_refl _) ?_,rfl,q _ hf⟩;exact ⟨z,us,0,r,Heap.get?_push_size _ rfl⟩
end
abbrev Sp:=List V→Hp→VK→XK→Prop
abbrev CXT:=List Env→Hp→Shared→XK→Value→Shared→Prop
structure Env0 (P:Program) (w:World) (K:PySem.W.Frag) (mg:Str→Option Value) (base:Heap) (A:Around) (outer:List Env) (s:Shared) (H:Hp):Prop where
 frames:A.frames=some outer
 mod:Mod K mg base
 bs:∀ b o,base.get? b=some o→s.heap.get? b=some o∧H b=none
 bsz:base.objs.size≤s.heap.objs.size
 funs:s.heap.FunFrames base outer
 frf:∀ b∈frs outer,H b=none
 hok:HOk P w H s.heap
 bare:AllBare s.gens
def CE (outer:List Env) (P:Program) (w:World) (H:Hp) (s:Shared) (Q:VK) (u:Value) (s':Shared):Prop :=
 ∃ v H',s'.os=s.os∧AllBare s'.gens∧Un (frs outer) [] H H' s.heap s'.heap∧HOk P w H' s'.heap∧RelV v u∧Q v H'
def CR (CX:CXT) (outer:List Env) (P:Program) (w:World) (H:Hp) (s:Shared) (Q:VK) (E:XK) (r:Result) (s':Shared):Prop :=
 match r with
 | .ok (.ret u)=>CE outer P w H s Q u s'
 | .ok _=>False
 | .error e=>CX outer H s E e s'
structure FnOk (P:Program) (w:World) (K:PySem.W.Frag) (mg:Str→Option Value) (base:Heap) (CX:CXT) (k:Nat) (f:Addr) (fd:FuncData) (ps:List Str) (sp:Sp):Prop where
 len:∀ vs H Q E,sp vs H Q E→vs.length=ps.length
 run:∀ (A:Around) (outer:List Env) (s:Shared) (H:Hp) (args:Args) (us:List Value) (vs:List V) (Q:VK) (E:XK),Room k A→Env0 P w K mg base A outer s H→BindsTo s fd args (ps.zip us)→Vals vs us→sp vs H Q E →
  codeAny (model P w) A (.call (.ref f) args) (CR CX outer P w H s Q E) s
theorem FnOk.mono {P:Program}{w:World}{K:PySem.W.Frag}{mg:Str→Option Value}{base:Heap}{CX:CXT}{j k:Nat}{f:Addr}{fd:FuncData}{ps:List Str}{sp:Sp}(F:FnOk P w K mg base CX j f fd ps sp) (h:j≤k) :
  FnOk P w K mg base CX k f fd ps sp:=⟨F.len,fun A outer s H args us vs Q E hr=>F.run A outer s H args us vs Q E (hr.mono h)⟩
section
variable {X:Cx}{pins:List (Addr×Obj)}{σ:St}{H:Hp}{s s':Shared}
theorem Inv.env0 (I:Inv X pins σ H s):Env0 X.prog X.w X.K X.mg X.base X.A X.stack s H :=
 ⟨I.ok.frames,I.ok.mod,I.bs,Nat.le_trans I.ok.bsz I.sz,I.stack,I.stkFree,I.hok,I.bare⟩
theorem Inv.after {Q:VK}{u:Value}(I:Inv X pins σ H s) (h:CE X.stack X.prog X.w H s Q u s'):EP X pins σ Q u s':=by
 obtain ⟨v,H',os,bare,un,hok,r,q⟩:=h;obtain ⟨hh,g,d,t,os'⟩:=s';obtain rfl:os'=s.os:=os;exact ⟨v,H',I.call (h':=hh) (g':=g) (d':=d) (t':=t) (ch:=[]) un hok bare (fun b z=>absurd z (by simp)),r,q⟩
end
def Vv (sp:Sp) (dvs:List V) (E:XK) (t:TA):TE:=fun σ H Q=>t σ H fun vs H1=>sp (vs++dvs) H1 Q E
def Binds (K:PySem.W.Frag) (fd:FuncData) (ps:List Str) (ds:List Value):Prop :=
 ∀ (s:Shared) (us:List Value),K.In s.heap→(us++ds).length=ps.length→BindsTo s fd ⟨us,[]⟩ (ps.zip (us++ds))
theorem Binds.all {K:PySem.W.Frag}{fd:FuncData}{ps:List Str}(h:∀ us:List Value,us.length=ps.length→bindArgs fd ⟨us,[]⟩=pure (ps.zip us)):Binds K fd ps []:=fun s us _ hl=>by
 rw [List.append_nil] at hl ⊢;exact .of_eq (h us hl)
def wN (CX:CXT) (X:Cx) (E:XK):Prop:=∀ (pins:List (Addr×Obj)) (σ:St) (H:Hp) (s:Shared) (e:Value) (s':Shared),Inv X pins σ H s→CX X.stack H s E e s'→X.xe e s'
section
variable {X:Cx}{CX:CXT}{k:Nat}{f C:Addr}{fd:FuncData}{ps:List Str}{sp:Sp}{dvs:List V}{ds:List Value}{E:XK}{x m:Str}{p pos apos:Pos}{e o:Expr}{es:List Expr}{ta:TE}{t:TA}
theorem run_fn {pins:List (Addr×Obj)}{σ:St}{H:Hp}{s:Shared}{Q:VK}{us:List Value}{vs:List V}(F:FnOk X.prog X.w X.K X.mg X.base CX k f fd ps sp) (hr:Room k X.A) (hb:Binds X.K fd ps ds) (hd:Vals dvs ds) (hx:wN CX X E)
  (I:Inv X pins σ H s) (r:Vals vs us) (h:sp (vs++dvs) H Q E):wpAny (model X.prog X.w) X.A (call (.ref f) us) (EP X pins σ Q) X.xe s:=by
 have r2:Vals (vs++dvs) (us++ds):=r.append hd;have hl:(us++ds).length=ps.length:=by rw [← r2.length]; exact F.len _ _ _ _ h
 refine wpAny_call (codeAny_mono (F.run X.A X.stack s H ⟨us,[]⟩ (us++ds) (vs++dvs) Q E hr I.env0 (hb s us I.kIn hl) r2 h) fun r s' hq => ?_)
 cases r with
 | error e=>exact hx pins σ H s e s' I hq
 | ok fl =>
  cases fl with
  | ret u=>exact I.after hq
  | next=>exact False.elim hq
  | brk=>exact False.elim hq
  | cont=>exact False.elim hq
theorem pe_call (F:FnOk X.prog X.w X.K X.mg X.base CX k f fd ps sp) (hr:Room k X.A) (hg:Gl X x) (hm:X.mg x=some (.ref f)) (hk:PySem.W.keepIn X.K (.ref f)=true) (hb:Binds X.K fd ps ds) (hd:Vals dvs ds) (hx:wN CX X E)
  (ha:PA X (e::es) t) (hdb:(x==("__debug__" : Str))=false:=by decide) (he:starEach (e::es) X.env=(false,eval e X.env)::starEach es X.env:=by rfl) (hpl:(backTo pos (starEach es X.env)).any (·.1)=false:=by rfl) :
  PE X (.Call (.Name x p) (e::es) [] pos) (Vv sp dvs E t):=by
 intro pins s σ H Q I h;refine wpAny_Call_Name_kw (ld_glob I hg hm ?_ hdb);refine PySem.W.callWith_K (h₀:=X.base) I.ok.mod.kin hk (thn (ha pos pins s σ H _ I h) fun us s1 ⟨vs,H1,I1,r,q⟩=>⟨I1.kIn,?_⟩) he hpl;exact run_fn F hr hb hd hx I1 r q
end
structure yX (N P:List Str) (sc:Scope):Prop where
 kind:sc.kind=.function
 co:sc.isCoroutine=false
 gen:sc.isGenerator=false
 nd:N.Nodup
 pre:N.take P.length=P
 par:∀ x∈P,sc.names.lookup x=some .local∨sc.names.lookup x=some .cell
 nofree:∀ y∈sc.names,y.2≠.free
theorem dI {kindOf:Str→Option NameKind}{x:Str}:∀ {binds:List (Str×Value)}{m:Str→Option Value},(∀ v,(x,v)∉binds)→bindL kindOf binds m x=m x
 | [],_,_=>rfl
 | (n,v)::r,m,h=>by
  unfold bindL;rw [dI fun w hw=>h w (List.mem_cons_of_mem _ hw)]
  split
  ·have:x≠n:=by rintro rfl; exact h v List.mem_cons_self
   simp [this]
  ·rfl
theorem nI {kindOf:Str→Option NameKind}{x:Str}:∀ {binds:List (Str×Value)}{m:Str→Option Value},(∀ v,(x,v)∉binds)→bindC kindOf binds m x=m x
 | [],_,_=>rfl
 | (n,v)::r,m,h=>by
  unfold bindC;rw [nI fun w hw=>h w (List.mem_cons_of_mem _ hw)]
  split
  ·rfl
  ·have:x≠n:=by rintro rfl; exact h v List.mem_cons_self
   simp [this]
theorem lI {kindOf:Str→Option NameKind}{x:Str}{v:Value}:∀ {P:List Str}{vs:List Value}{i:Nat}{m:Str→Option Value},P.Nodup→P[i]?=some x→vs[i]?=some v→kindOf x=some .local →
  bindL kindOf (P.zip vs) m x=some v
 | [],_,_,_,_,h,_,_=>by simp at h
 | _::_,[],_,_,_,_,h,_=>by simp at h
 | p::P,w::vs,0,m,nd,h1,h2,hk=>by
  simp at h1 h2; subst h1; subst h2
  show bindL kindOf ((p,w)::P.zip vs) m p=_;unfold bindL;rw [dI fun v hv=>(List.nodup_cons.mp nd).1 (List.of_mem_zip hv).1,if_pos hk]
  simp
 | p::P,w::vs,i+1,m,nd,h1,h2,hk=>by
  show bindL kindOf ((p,w)::P.zip vs) m x=_;unfold bindL;exact lI (i:=i) (List.nodup_cons.mp nd).2 (by simpa using h1) (by simpa using h2) hk
theorem sI {kindOf:Str→Option NameKind}{x:Str}{v:Value}:∀ {P:List Str}{vs:List Value}{i:Nat}{m:Str→Option Value},P.Nodup→P[i]?=some x→vs[i]?=some v→kindOf x≠some .local →
  bindC kindOf (P.zip vs) m x=some v
 | [],_,_,_,_,h,_,_=>by simp at h
 | _::_,[],_,_,_,_,h,_=>by simp at h
 | p::P,w::vs,0,m,nd,h1,h2,hk=>by
  simp at h1 h2; subst h1; subst h2
  show bindC kindOf ((p,w)::P.zip vs) m p=_;unfold bindC;rw [nI fun v hv=>(List.nodup_cons.mp nd).1 (List.of_mem_zip hv).1,if_neg hk]
  simp
 | p::P,w::vs,i+1,m,nd,h1,h2,hk=>by
  show bindC kindOf ((p,w)::P.zip vs) m x=_;unfold bindC;exact sI (i:=i) (List.nodup_cons.mp nd).2 (by simpa using h1) (by simpa using h2) hk
def start (N:List Str) (vs:List V):St:=vs.map some++List.replicate (N.length - vs.length) none
def XT (CX:CXT) (P:Program) (w:World) (K:PySem.W.Frag) (mg:Str→Option Value) (base:Heap) (N:List Str) (qual:Str) (scope:Scope) (f:Addr) (cd:Value) (A:Around) (outer:List Env) (s:Shared) (H:Hp) (E:XK):Cx where
 prog:=P
 w:=w
 K:=K
 mg:=mg
 base:=base
 A:=A.deeper (envOfC qual scope s.heap.objs.size f cd)
 N:=N
 s₀:=s
 H₀:=H
 env:=envOfC qual scope s.heap.objs.size f cd
 outer:=outer
 stack:=envOfC qual scope s.heap.objs.size f cd::outer
 ex:=[]
 calm:=true
 fn:=fun _=>true
 pn:=[]
 xe:=fun e s'=>wpAny (model P w) (A.deeper (envOfC qual scope s.heap.objs.size f cd)) (leaving (envOfC qual scope s.heap.objs.size f cd) e) (fun _ s''=>CX outer H s E e s'') (fun e' s''=>CX outer H s E e' s'') s'
theorem mP {sc:Scope}{n:Nat}{x:Str}(h:sc.names.lookup x=some .cell):∃ c,(cellsFrom n sc.names []).lookup x=some c:=by
 have q:=PySem.W.cellsFrom_some sc.names n [] (.inl h);exact Option.isSome_iff_exists.mp q
theorem KJ {CX:CXT}{P:Program}{w:World}{K:PySem.W.Frag}{mg:Str→Option Value}{base:Heap}{N ps:List Str}{qual:Str}{scope:Scope}{f:Addr}{cd:Value}{A:Around}{outer:List Env}{s s1:Shared}{H:Hp}{E:XK}{us:List Value}{vs:List V}
  (S:yX N ps scope) (hd:A.handled=none) (e0:Env0 P w K mg base A outer s H) (hl:vs.length=ps.length) (r:Vals vs us)
  (x:InCallC s s.heap.objs.size (bindL (envOfC qual scope s.heap.objs.size f cd).kindOf (ps.zip us) fun _=>none) (cellsFrom (s.heap.objs.size+1) scope.names []) (bindC (envOfC qual scope s.heap.objs.size f cd).kindOf (ps.zip us) fun _=>none) s1) :
  Inv (XT CX P w K mg base N qual scope f cd A outer s H E) [] (start N vs) H s1:=by
 have hpl:ps.length≤N.length:=by have:=congrArg List.length S.pre; rw [List.length_take] at this; omega
 obtain ⟨h1,tk,rfl,hk⟩:=x.done;have noA:∀ b:Addr,b∉(XT CX P w K mg base N qual scope f cd A outer s H E).ex:=fun b z=>absurd (show b∈([]:List Addr) from z) (by simp)
 refine ⟨⟨e0.mod,S.kind,rfl,rfl,Nat.le_refl _,fun y z c h1 h2 => ?_,fun y hy => ?_,fun y c _ h => ?_,fun _=>hd,Around.frames_deeper e0.frames,.inr ⟨rfl,rfl⟩,fun b z=>absurd z (noA b),e0.bs,e0.bsz,fun b _ _=>noA b,fun b z=>absurd z (noA b),e0.funs,e0.frf⟩,
  rfl,e0.bare,Un.kept hk,⟨_,x.toInCall.ns,fun i y v h1 h2 h3 => ?_⟩,fun y c h=>⟨_,x.cell y c h⟩,e0.hok.fresh (Nat.le_refl _),fun y c h => ?_,fun p hp=>absurd (show p∈([]:List (Addr×Obj)) from hp) (by simp),e0.hok.kept hk,?_⟩
 ·exact name_of_addr x.apart (PySem.mem_of_lookup h1) (PySem.mem_of_lookup h2)
 ·have hy:scope.names.lookup y=some .cell∨scope.names.lookup y=some .free:=hy
  rcases hy with hy | hy
  ·exact mP hy
  ·exact absurd rfl (S.nofree _ (PySem.mem_of_lookup hy))
 ·exact Nat.le_of_lt (x.above y c (PySem.mem_of_lookup h))
 ·have hi:i < vs.length:=by
   unfold start at h2
   by_cases hi:i < vs.length
   ·exact hi
   ·rw [List.getElem?_append_right (by simpa using hi)] at h2
    rw [List.getElem?_replicate] at h2
    split at h2<;>cases h2
  have ha:vs[i]?=some v:=by
   unfold start at h2;rw [List.getElem?_append_left (by simpa using hi),List.getElem?_map] at h2
   cases e:vs[i]? with
   | none=>rw [e] at h2; cases h2
   | some a=>rw [e] at h2; cases h2; rfl
  obtain ⟨u,hu,rv⟩:=r.get ha
  have hp:ps[i]?=some y:=by
   rw [← S.pre,List.getElem?_take_of_lt (by omega)]; exact h1
  have ndP:ps.Nodup:=by rw [← S.pre]; exact S.nd.sublist (List.take_sublist _ _)
  refine ⟨u,rv,?_⟩
  rcases S.par y (List.mem_of_getElem? hp) with k | k
  ·exact .inl ⟨k,lI ndP hp hu k⟩
  ·obtain ⟨c,e⟩:=mP (n:=s.heap.objs.size+1) k
   refine .inr ⟨.inl k,c,e,?_⟩;have q:=x.cell y c e;rw [sI ndP hp hu (by show scope.names.lookup y≠_; rw [k]; decide)] at q;exact q
 ·exact e0.hok.fresh (Nat.le_of_lt (x.above y c (PySem.mem_of_lookup h)))
 ·unfold start
  show _=N.length;rw [List.length_append,List.length_map,List.length_replicate];omega
theorem fn_of {CX:CXT}{P:Program}{w:World}{K:PySem.W.Frag}{mg:Str→Option Value}{base:Heap}{k:Nat}{f:Addr}{name qual:Str}{params:Arguments}{body:List Stmt}{scope:Scope}{dV kV doc pm cdv ct oc:Value}{an od:Option Addr}
  {osl:Array (Option Value)} {N ps:List Str} {sp:Sp} (lk:K.lookup f=some ⟨oc,od,.func (PySem.W.fnOf name qual params body scope dV kV doc pm an cdv ct),osl⟩) (hcd:PySem.W.codeIn K cdv qual=true) (S:yX N ps scope)
  (len:∀ vs H Q E,sp vs H Q E→vs.length=ps.length)
  (hbody:∀ (A:Around) (outer:List Env) (s:Shared) (H:Hp) (vs:List V) (Q:VK) (E:XK),Room k (A.deeper (envOfC qual scope s.heap.objs.size f cdv))→sp vs H Q E →
   ∃ t,PSs (XT CX P w K mg base N qual scope f cdv A outer s H E) body t∧t { nx:=fun _ H'=>Q .non H',rt:=Q } (start N vs) H) :
  FnOk P w K mg base CX (k+1) f (PySem.W.fnOf name qual params body scope dV kV doc pm an cdv ct) ps sp:=by
 refine ⟨len,fun A outer s H args us vs Q E hr e0 hb r hsp => ?_⟩;have hl:=len _ _ _ _ hsp;have KX:K.In s.heap:=e0.mod.kin.keeps fun b o e=>(e0.bs b o e).1;have lim:s.heap.NoLimit:=e0.mod.nolimit.keeps fun b o e=>(e0.bs b o e).1
 have hkind:∀ y∈ps.zip us,scope.names.lookup y.1=some .local∨(scope.names.lookup y.1=some .cell∧((cellsFrom (s.heap.objs.size+1) scope.names []).lookup y.1).isSome=true):=fun ⟨n,v⟩ hy=>by
  rcases S.par n (List.of_mem_zip hy).1 with q | q
  ·exact .inl q
  ·exact .inr ⟨q,PySem.W.cellsFrom_some _ _ _ (.inl q)⟩
 refine codeAny_call_function hr.depth (KX _ _ lk) rfl S.co S.gen rfl (PySem.W.codeRec_of KX hcd) (hb _ _ _ _ ?_);refine wpAny_newFunctionEnv_cells S.kind hkind fun env he s1 x => ?_;subst he;refine ⟨lim.keeps x.toInCall.keep,codeAny_func ?_⟩;obtain ⟨t,ht,hq⟩:=hbody A outer s H vs Q E (hr.deeper _) hsp;have I:Inv (XT CX P w K mg base N qual scope f cdv A outer s H E) [] (start N vs) H s1:=KJ S hr.hd e0 hl r x
 refine wpAny_mono (ht [] s1 (start N vs) H _ I hq) (fun fl s' hs => ?_) fun e s' hs=>hs
 have fin:∀ {σ':St} {H':Hp} {v:V} {u:Value},Inv (XT CX P w K mg base N qual scope f cdv A outer s H E) [] σ' H' s'→RelV v u→Q v H'→CE outer P w H s Q u s' :=
  fun {σ' H' v u} J rv q=>⟨v,H',J.os,J.bare,J.base,J.hok,rv,q⟩
 cases fl with
 | ret u =>
  obtain ⟨v,σ',H',J,rv,q⟩:=hs;exact fin J rv q
 | next =>
  obtain ⟨σ',H',J,q⟩:=hs;exact fin (v:=V.non) (u:=Value.none) J rfl q
 | brk =>
  obtain ⟨_,_,_,q⟩:=hs;exact False.elim q
 | cont =>
  obtain ⟨_,_,_,q⟩:=hs;exact False.elim q
section
variable {X:Cx}{x:Str}{p pos:Pos}{e:Expr}{es:List Expr}{t:TA}{id T:String}{r:List V→Hp→VK→Prop}
def tCB (r:List V→Hp→VK→Prop) (t:TA):TE:=fun σ H Q=>t σ H fun vs H1=>r vs H1 Q
theorem V2 (hc:CallR X (.builtin id) r) (hg:Gl X x) (hm:X.mg x=none) (hv:bootBuiltins x=some (.builtin id)) (ha:PA X (e::es) t) (hn:x ≠ "__name__" := by decide) (hdb:(x==("__debug__" : Str))=false:=by decide)
  (he:starEach (e::es) X.env=(false,eval e X.env)::starEach es X.env:=by rfl) (hpl:(backTo pos (starEach es X.env)).any (·.1)=false:=by rfl):PE X (.Call (.Name x p) (e::es) [] pos) (tCB r t):=by
 intro pins s σ H Q I h;refine wpAny_Call_Name_kw (Qj I hg hm hv ?_ hn hdb);exact PyProof.Rows.callWith_builtin1 (thn (ha pos pins s σ H _ I h) fun us s1 ⟨vs,H1,I1,r1,q1⟩=>hc pins s1 σ H1 vs us Q I1 r1 q1) he hpl
theorem Kg (hc:CallR X (.type T) r) (hg:Gl X x) (hm:X.mg x=none) (hv:bootBuiltins x=some (.type T)) (ha:PA X (e::es) t) (hn:x ≠ "__name__" := by decide) (hdb:(x==("__debug__" : Str))=false:=by decide)
  (he:starEach (e::es) X.env=(false,eval e X.env)::starEach es X.env:=by rfl) (hpl:(backTo pos (starEach es X.env)).any (·.1)=false:=by rfl):PE X (.Call (.Name x p) (e::es) [] pos) (tCB r t):=by
 intro pins s σ H Q I h;refine wpAny_Call_Name_kw (Qj I hg hm hv ?_ hn hdb);exact PyProof.Rows.callWith_type1 (thn (ha pos pins s σ H _ I h) fun us s1 ⟨vs,H1,I1,r1,q1⟩=>hc pins s1 σ H1 vs us Q I1 r1 q1) he hpl
end
end L2
namespace HT
open PySem PyProof.Rows
section
variable {prog:Program}{w:World}{A:Around}{E:Value→Shared→Prop}{s:Shared}
theorem cat_tup {t b:Addr}{vs ws:List Value}{Q:Value→Shared→Prop}(ht:IsTup s.heap t vs.toArray) (hb:IsTup s.heap b ws.toArray) (hv:vs≠[])
  (h1:ws=[]→Q (.ref t) s) (h2:ws≠[]→Q (.ref s.heap.objs.size) { s with heap:=s.heap.push { cls:=.type "tuple",data:=.seq (vs++ws).toArray } })
  (hsz:vs.length+ws.length≤sizeLine):wpAny (model prog w) A (binaryOp .Add (.ref t) (.ref b)) Q E s:=by
 obtain ⟨⟨cls,dd,data,sl⟩,ho,hc,n,hd⟩:=id ht;obtain ⟨⟨cls2,dd2,data2,sl2⟩,ho2,hc2,n2,hd2⟩:=id hb
 simp only at hc hd hc2 hd2
 subst hc hd hc2 hd2;have e:vs.toArray++ws.toArray=(vs++ws).toArray:=by simp
 by_cases hw:ws=[]
 ·exact concat_meets ⟨_,ho,rfl⟩ ⟨_,ho2,rfl⟩ noFill_tuple_add seq_tuple_add PySem.F.slot_tuple_add PySem.F.entry_tuple_add (PySem.F.args_tuple_add_2 _ _)
   (tuple_addW1 t b vs.toArray ws.toArray n n2 dd dd2 sl sl2 (by simpa using hv) (by simp [hw])) ⟨ho,ho2,h1 hw⟩
 ·refine concat_meets ⟨_,ho,rfl⟩ ⟨_,ho2,rfl⟩ noFill_tuple_add seq_tuple_add PySem.F.slot_tuple_add PySem.F.entry_tuple_add (PySem.F.args_tuple_add_2 _ _)
   (tuple_addW2 t b vs.toArray ws.toArray n n2 dd dd2 sl sl2 (by simpa using hv) (by simpa using hw) (by rw [List.size_toArray,List.size_toArray]; exact hsz)) ⟨ho,ho2,?_⟩
  rw [e];exact h2 hw
def sIx (n d:Nat):Option Int→Nat
 | none=>d
 | some v=>if v < 0 then (v+(n:Int)).toNat else min v.toNat n
theorem sIx_none (n d:Nat):sIx n d none=d:=rfl
theorem sIx_nat (n d k:Nat):sIx n d (some (k:Int))=min k n:=by
 show (if (k:Int) < 0 then ((k:Int)+(n:Int)).toNat else min (k:Int).toNat n)=min k n;rw [if_neg (by omega),Int.toNat_natCast]
theorem sIx_le (n d:Nat) (hd:d≤n) (o:Option Int):sIx n d o≤n:=by
 cases o with
 | none=>exact hd
 | some v =>
  show (if v < 0 then (v+(n:Int)).toNat else min v.toNat n)≤n
  by_cases hv:v < 0
  ·rw [if_pos hv]; omega
  ·rw [if_neg hv]; exact Nat.min_le_right _ _
theorem JJ (v:Int) (n d:Nat):(if v < 0 then max (v+(n:Int)) 0 else min v (n:Int))=((sIx n d (some v):Nat):Int):=by
 show (if v < 0 then max (v+(n:Int)) 0 else min v (n:Int))=(((if v < 0 then (v+(n:Int)).toNat else min v.toNat n):Nat):Int)
 by_cases hv:v < 0
 ·simp only [if_pos hv]; omega
 ·simp only [if_neg hv]; omega
theorem ZW (lo hi:Option Int) (n:Nat):Builtin.Slice.sliceAdjust lo hi 1 (n:Int)=(((sIx n 0 lo:Nat):Int),((sIx n n hi:Nat):Int)):=by
 have h1:¬ ((1:Int) < 0):=by omega
 unfold Builtin.Slice.sliceAdjust
 simp only [h1,if_false]
 refine Prod.ext ?_ ?_
 ·cases lo with
  | none=>rfl
  | some v=>exact JJ v n 0
 ·cases hi with
  | none=>rfl
  | some v=>exact JJ v n n
theorem Zq (i j:Nat):Builtin.Slice.slicePlaces (i:Int) (j:Int) 1=j - i:=by
 unfold Builtin.Slice.slicePlaces;have h1:(1:Int) > 0:=by omega
 simp only [h1,if_true,Int.ediv_one]
 split<;>omega
theorem yS {v:Value}{o:Option Int}{Q:Option Int→Shared→Prop}(p:IsPart v o) (h:Q o s):wpAny (model prog w) A (Builtin.Slice.slicePartIndex v) Q E s:=by
 cases p with
 | none=>exact slicePart_none h
 | int i t=>exact slicePart_int h
theorem aP {sl:Addr}{vl vu:Value}{lo hi:Option Int}{n:Nat}{Q:Int×Int×Nat→Shared→Prop}(hs:s.heap.IsSliceOf sl vl vu .none) (pl:IsPart vl lo) (pu:IsPart vu hi)
  (h:Q (((sIx n 0 lo:Nat):Int),1,sIx n n hi - sIx n 0 lo) s):wpAny (model prog w) A (Builtin.Slice.sliceApplied (.ref sl) (pure (n:Int))) Q E s:=by
 obtain ⟨os,hos,hcs,hds⟩:=id hs;unfold Builtin.Slice.sliceApplied Builtin.Slice.sliceFields;refine wpAny_bind (wpAny_bind (wpAny_field hos hds (x:=vl) rfl (wpAny_bind (wpAny_field hos hds (x:=vu) rfl (wpAny_bind (wpAny_field hos hds (x:=.none) rfl (wpAny_pure ?_)))))));refine wpAny_bind (slicePart_none ?_);show wpAny _ _ (if ((1:Int)==0)=true then _ else _) _ _ s;rw [if_neg (by decide)];refine wpAny_bind (yS pl (wpAny_bind (yS pu (wpAny_bind (wpAny_pure ?_)))))
 show wpAny _ _ (match Builtin.Slice.sliceAdjust lo hi 1 (n:Int) with | (lo,hi)=>pure (lo,(1:Int),Builtin.Slice.slicePlaces lo hi 1)) _ _ s;rw [ZW lo hi n];show wpAny _ _ (pure (((sIx n 0 lo:Nat):Int),(1:Int),Builtin.Slice.slicePlaces ((sIx n 0 lo:Nat):Int) ((sIx n n hi:Nat):Int) 1)) _ _ s;rw [Zq];exact wpAny_pure h
theorem VU (xs:Array Value) (i k:Nat):((List.range k).filterMap fun (m:Nat)=>xs[((i:Int)+(m:Int) * 1).toNat]?).toArray=((xs.toList.drop i).take k).toArray:=by
 have e:(fun (m:Nat)=>xs[((i:Int)+(m:Int) * 1).toNat]?)=fun m=>xs[i+m]?:=by
  funext m
  have:((i:Int)+(m:Int) * 1).toNat=i+m:=by omega
  rw [this]
 rw [e];have:=pick_run xs i k;rw [List.filterMap_map] at this;have e2:((fun x=>xs[x]?) ∘ fun x=>i+x)=fun m=>xs[i+m]?:=rfl;rw [e2] at this;rw [this]
theorem getItem_tuple_cut {t sl:Addr}{items:Array Value}{vl vu:Value}{lo hi:Option Int}{Q:Value→Shared→Prop}(ht:IsTup s.heap t items) (hs:s.heap.IsSliceOf sl vl vu .none) (pl:IsPart vl lo) (pu:IsPart vu hi)
  (hw:¬ (sIx items.size 0 lo=0∧sIx items.size items.size hi=items.size))
  (h:Q (.ref s.heap.objs.size) { s with heap:=s.heap.push { cls:=.type "tuple",data:=.seq ((items.toList.drop (sIx items.size 0 lo)).take (sIx items.size items.size hi - sIx items.size 0 lo)).toArray } })
  (hsz:items.size≤sizeLine):wpAny (model prog w) A (getItem (.ref t) (.ref sl)) Q E s:=by
 have htake:sizeOk (.seq ((items.toList.drop (sIx items.size 0 lo)).take (sIx items.size items.size hi - sIx items.size 0 lo)).toArray):=by
  show ((items.toList.drop (sIx items.size 0 lo)).take (sIx items.size items.size hi - sIx items.size 0 lo)).toArray.size≤sizeLine;rw [List.size_toArray,List.length_take,List.length_drop,Array.length_toList];omega
 have hj:sIx items.size items.size hi≤items.size:=sIx_le _ _ (Nat.le_refl _) hi;obtain ⟨os,hos,hcs,hds⟩:=id hs;have hTs:s.TypeIs (.ref sl) "slice" := ⟨os,hos,hcs⟩;unfold getItem
 try with_reducible refine wpAny_holding ?_
 first | refine wpAny_bind (wpAny_pure ?_) | skip
 refine wpAny_bind (wpAny_sequenceKey ht.typeIs (by decide) ?_)
 refine wpAny_bind (wpAny_callSpecial?_slot (name:=Str.ofString "__getitem__") ht.typeIs PyProof.Rows.slot_tuple_getitem
  (wpAny_call_entry PyProof.Rows.slot_tuple_getitem ht.typeIs entry_tuple_getitem ?_ (args_tuple_getitem _ _)))
 show wpAny _ _ (Builtin.Tuple.tupleItemsOf (.ref t) >>= _) _ _ s;refine wpAny_bind (tupleItemsOf_ ht ?_);refine wpAny_bind (wpAny_typeOf hTs ?_);rw [if_pos (by decide)];refine wpAny_bind (aP hs pl pu ?_)
 have hno:¬ ((((sIx items.size 0 lo:Nat):Int)==0&&(1:Int)==1&&(sIx items.size items.size hi - sIx items.size 0 lo)==items.size)=true):=by
  intro q;rw [Bool.and_eq_true,Bool.and_eq_true] at q;have q1:((sIx items.size 0 lo:Nat):Int)=0:=eq_of_beq q.1.1;have q2:sIx items.size items.size hi - sIx items.size 0 lo=items.size:=eq_of_beq q.2;exact hw ⟨by omega,by omega⟩
 show wpAny _ _ (if (((sIx items.size 0 lo:Nat):Int)==0&&(1:Int)==1&&(sIx items.size items.size hi - sIx items.size 0 lo)==items.size)=true then _ else _) _ _ s;rw [if_neg hno,VU]
 first
  | exact wpAny_bind (m:=Builtin.Tuple.tupleExact _) (wpAny_newObj_type (wpAny_pure ⟨_,rfl,wpAny_pure h⟩) htake)
  | exact wpAny_bind (m:=Builtin.Tuple.tupleExact _) (wpAny_newObj_type (wpAny_bind (wpAny_pure (wpAny_pure ⟨_,rfl,wpAny_pure h⟩))) htake)
  | exact wpAny_bind (wpAny_bind (m:=Builtin.Tuple.tupleExact _) (wpAny_newObj_type (wpAny_pure (wpAny_pure ⟨_,rfl,wpAny_pure h⟩)) htake))
  | exact wpAny_bind (wpAny_bind (m:=Builtin.Tuple.tupleExact _) (wpAny_newObj_type (wpAny_pure ⟨_,rfl,wpAny_pure h⟩) htake))
end
end HT
namespace L2
open PySem PySem.Spec PyProof.Rows
abbrev TO:=St→Hp→(Option Int→Hp→Prop)→Prop
def PO (X:Cx) (e:Option Expr) (t:TO):Prop :=
 ∀ (pins:List (Addr×Obj)) (s:Shared) (σ:St) (H:Hp) (Q:Option Int→Hp→Prop),Inv X pins σ H s→t σ H Q →
  wpAny (model X.prog X.w) X.A (evalPart e X.env) (fun u s'=>∃ o H',Inv X pins σ H' s'∧IsPart u o∧Q o H') X.xe s
def Z5:TO:=fun _ H Q=>Q none H
def tPart (t:TE):TO:=fun σ H Q=>t σ H fun x H1=>∃ i,x=.int i∧Q (some i) H1
section
variable {X:Cx}{e:Expr}{te:TE}{lo hi:Option Expr}{tl th:TO}{pos p2:Pos}
theorem po_none:PO X none Z5:=by
 intro pins s σ H Q I h;rw [evalPart_none];exact wpAny_pure ⟨none,H,I,.none,h⟩
theorem po_some (h:PE X e te):PO X (some e) (tPart te):=by
 intro pins s σ H Q I hw;rw [evalPart_some];refine thn (h pins s σ H _ I hw) fun u s1 ⟨x,H1,I1,r1,q1⟩ => ?_;obtain ⟨i,rfl,q⟩:=q1;obtain ⟨t,rfl⟩:=r1;exact ⟨some i,H1,I1,.int i t,q⟩
def SlR (X:Cx) (r:V→Option Int→Option Int→Hp→VK→Prop):Prop :=
 ∀ (pins:List (Addr×Obj)) (s:Shared) (σ:St) (H:Hp) (x:V) (v vl vu:Value) (lo hi:Option Int) (sl:Addr) (Q:VK),Inv X pins σ H s→RelV x v→s.heap.IsSliceOf sl vl vu .none→IsPart vl lo→IsPart vu hi→r x lo hi H Q →
  ∃ T id,typeLookup (.type T) "__getitem__" = pure (some (.builtin id))∧s.TypeIs v T∧wpAny (model X.prog X.w) X.A (getItem v (.ref sl)) (EP X pins σ Q) X.xe s
def tSl (r:V→Option Int→Option Int→Hp→VK→Prop) (te:TE) (tl th:TO):TE:=fun σ H Q=>te σ H fun x H1=>tl σ H1 fun l H2=>th σ H2 fun u H3=>r x l u H3 Q
theorem VX {r:V→Option Int→Option Int→Hp→VK→Prop}(hr:SlR X r) (he:PE X e te) (hl:PO X lo tl) (hu:PO X hi th):PE X (.Subscript e (.Slice lo hi none p2) pos) (tSl r te tl th):=by
 intro pins s σ H Q I h;refine Subscript_ (thn (he pins s σ H _ I h) fun v s1 ⟨x,H1,I1,r1,q1⟩ => ?_);refine wpAny_Slice (thn (hl pins s1 σ H1 _ I1 q1) fun vl s2 ⟨l,H2,I2,pl,q2⟩=>thn (hu pins s2 σ H2 _ I2 q2) fun vu s3 ⟨u,H3,I3,pu,q3⟩ => ?_);rw [evalPart_none];refine wpAny_pure ?_;have I4:Inv X pins σ H3 { s3 with heap:=s3.heap.push { cls:=.type "slice",data:=.fields #[vl,vu,.none] } }:=I3.kept (t':=s3.toks) fun b ob q=>Heap.get?_push_of_some _ q
 obtain ⟨T,id,hT,ht,hg⟩:=hr pins { s3 with heap:=s3.heap.push { cls:=.type "slice",data:=.fields #[vl,vu,.none] } } σ H3 x v vl vu l u s3.heap.objs.size Q I4 r1 (Heap.IsSliceOf.new ..) pl pu q3;show wpAny (model X.prog X.w) X.A (subscriptTail e (.Slice lo hi none p2) v (.ref s3.heap.objs.size)) (EP X pins σ Q) X.xe { s3 with heap:=s3.heap.push { cls:=.type "slice",data:=.fields #[vl,vu,.none] } };exact tail_any (ops:=[.ref s3.heap.objs.size,v]) ht hT hg (by with_unfolding_all rfl)
def XW (xs:List V) (lo hi:Option Int):List V:=(xs.drop (HT.sIx xs.length 0 lo)).take (HT.sIx xs.length xs.length hi - HT.sIx xs.length 0 lo)
theorem gC (xs:List V) (lo hi:Option Int):(XW xs lo hi).length≤xs.length:=by
 unfold XW;rw [List.length_take,List.length_drop];omega
def rSlT (K:PySem.W.Frag):V→Option Int→Option Int→Hp→VK→Prop:=fun x lo hi H Q=>∃ a xs,x=.ref a∧SqT K H a xs ∧
 ¬ (HT.sIx xs.length 0 lo=0∧HT.sIx xs.length xs.length hi=xs.length)∧∀ p,H p=none→Q (.ref p) (upd H p (.tup (XW xs lo hi)))
theorem sl_tup:SlR X (rSlT X.K):=by
 intro pins s σ H x v vl vu lo hi sl Q I rx hs pl pu h;obtain ⟨a,xs,rfl,hx,hw,q⟩:=h;cases rx;obtain ⟨its,r,ht,hz⟩:=I.tuple hx;have hlen:its.toArray.size=xs.length:=by rw [List.size_toArray]; exact r.length.symm
 refine ⟨"tuple",_,PyProof.Rows.slot_tuple_getitem.lookup,ht.typeIs,?_⟩;refine HT.getItem_tuple_cut ht hs pl pu (by rw [hlen]; exact hw) ?_ (by rw [hlen]; exact hz);rw [hlen];refine ⟨.ref s.heap.objs.size,_,I.laid (t':=s.toks) (o:=.tup (XW xs lo hi)) (fun b ob q=>Heap.get?_push_of_some _ q) (Nat.le_refl _) ?_,rfl,q _ (I.hok.fresh (Nat.le_refl _))⟩;exact ⟨Nat.le_trans (gC xs lo hi) hz,_,(r.drop (HT.sIx xs.length 0 lo)).take (HT.sIx xs.length xs.length hi - HT.sIx xs.length 0 lo),IsTupN.new _ _⟩
def rCatT (K:PySem.W.Frag):R2:=fun x y H Q=>∃ a b xs ys,x=.ref a∧y=.ref b∧SqT K H a xs∧SqT K H b ys∧xs≠[]∧xs.length+ys.length≤sizeLine ∧
 (ys=[]→Q (.ref a) H)∧(ys≠[]→∀ p,H p=none→Q (.ref p) (upd H p (.tup (xs++ys))))
theorem Vals.nil_iff {xs:List V}{us:List Value}(r:Vals xs us):us=[]↔xs=[]:=by
 cases r with
 | nil=>simp
 | cons _ _=>simp
theorem op_catT:OpR X (binaryOp .Add) (rCatT X.K):=by
 intro pins s σ H x y v u Q I rx ry h;obtain ⟨a,b,xs,ys,rfl,rfl,ha,hb,hx,hz,q1,q2⟩:=h;cases rx;cases ry;obtain ⟨its,r1,p1,_⟩:=I.tuple ha;obtain ⟨its2,r2,p2,_⟩:=I.tuple hb;refine HT.cat_tup p1 p2 (fun z=>hx (r1.nil_iff.mp z)) (fun z=>⟨.ref a,H,I,rfl,q1 (r2.nil_iff.mp z)⟩) (fun z => ?_) (by rw [← r1.length,← r2.length]; exact hz);refine ⟨.ref s.heap.objs.size,_,I.laid (t':=s.toks) (o:=.tup (xs++ys)) (fun b ob q=>Heap.get?_push_of_some _ q) (Nat.le_refl _) ?_,rfl,q2 (fun w=>z (r2.nil_iff.mpr w)) _ (I.hok.fresh (Nat.le_refl _))⟩
 exact ⟨by rw [List.length_append]; exact hz,_,r1.append r2,IsTupN.new _ _⟩
end
def ixN (n:Nat) (i:Int):Option Nat:=if 0≤i then (if i < n then some i.toNat else none) else if -(n:Int)≤i then some (i+n).toNat else none
def atI {α:Type}(xs:List α) (i:Int):Option α:=(ixN xs.length i).bind fun j=>xs[j]?
theorem Jo {n:Nat}{i:Int}{j:Nat}(h:ixN n i=some j):seqIndex? i n=some j∧j < n ∧ -(n:Int)≤i∧i < n:=by
 unfold ixN at h
 by_cases h0:0≤i
 ·rw [if_pos h0] at h
  by_cases h1:i < n
  ·rw [if_pos h1] at h
   have e:i.toNat=j:=Option.some.inj h;exact ⟨by rw [seqIndex_of h0 h1,e],by omega,by omega,h1⟩
  ·rw [if_neg h1] at h; cases h
 ·rw [if_neg h0] at h
  by_cases h1 : -(n:Int)≤i
  ·rw [if_pos h1] at h
   have e:(i+n).toNat=j:=Option.some.inj h;exact ⟨by rw [seqIndex_neg (by omega) h1,e],by omega,h1,by omega⟩
  ·rw [if_neg h1] at h; cases h
theorem QM {α:Type}{xs:List α}{i:Int}{v:α}(h:atI xs i=some v):∃ j,seqIndex? i xs.length=some j∧xs[j]?=some v∧j < xs.length ∧ -(xs.length:Int)≤i∧i < xs.length:=by
 unfold atI at h
 cases e:ixN xs.length i with
 | none=>rw [e] at h; cases h
 | some j =>
  rw [e] at h;obtain ⟨h1,h2,h3,h4⟩:=Jo e;exact ⟨j,h1,h,h2,h3,h4⟩
def QQ (b:Expr):Prop:=∀ o i,subscripted b false o i=operate [o,i] (getItem o i)
def IxR (X:Cx) (r:R2):Prop :=
 ∀ (value slice:Expr) (pins:List (Addr×Obj)) (s:Shared) (σ:St) (H:Hp) (x y:V) (v u:Value) (Q:VK),Inv X pins σ H s→RelV x v→RelV y u→r x y H Q →
  subscripted slice false v u=operate [v,u] (getItem v u)→wpAny (model X.prog X.w) X.A (subscriptTail value slice v u) (EP X pins σ Q) X.xe s
def MtR (X:Cx) (id:String) (r:V→List V→Hp→VK→Prop):Prop :=
 ∀ (pins:List (Addr×Obj)) (s:Shared) (σ:St) (H:Hp) (x:V) (xs:List V) (v:Value) (us:List Value) (Q:VK),Inv X pins σ H s→RelV x v→Vals xs us→r x xs H Q →
  wpAny (model X.prog X.w) X.A (call (.builtin id) (v::us)) (EP X pins σ Q) X.xe s
section
variable {X:Cx}{a b:Expr}{ta tb:TE}{pos:Pos}
theorem IxR.or {r r':R2}(h:IxR X r) (h':IxR X r'):IxR X (fun x y H Q=>r x y H Q∨r' x y H Q):=by
 intro value slice pins s σ H x y v u Q I rx ry q hs
 rcases q with q | q
 ·exact h value slice pins s σ H x y v u Q I rx ry q hs
 ·exact h' value slice pins s σ H x y v u Q I rx ry q hs
theorem pe_ix {r:R2}(hr:IxR X r) (ha:PE X a ta) (hb:PE X b tb) (hs:QQ b):PE X (.Subscript a b pos) (tOp r ta tb):=by
 intro pins s σ H Q I h;exact Subscript_ (binT ha hb I h fun v u s2 x y H2 I2 rx ry q=>hr a b pins s2 σ H2 x y v u Q I2 rx ry q (hs _ _))
inductive IIx (S:Hp→Addr→List V→Prop) (x y:V) (H:Hp) (Q:VK):Prop
 | mk (p:Addr) (xs:List V) (i:Int) (v:V) (h:x=.ref p) (h':y=.int i) (s:S H p xs) (a:atI xs i=some v) (q:Q v H):IIx S x y H Q
def rIxL (K:PySem.W.Frag):R2:=IIx (SqL K)
def rIxT (K:PySem.W.Frag):R2:=IIx (SqT K)
def rIxS:R2:=fun x y H Q=>∃ z i c,x=.str z∧y=.int i∧z.length≤sizeLine∧atI z.cps.toList i=some c∧Q (.str ⟨#[c]⟩) H
theorem ix_list:IxR X (rIxL X.K):=by
 intro value slice pins s σ H x y v u Q I rx ry h hs;obtain ⟨p,xs,i,z,rfl,rfl,hq,he,q⟩:=h;cases rx;obtain ⟨t,rfl⟩:=ry;obtain ⟨its,r,pl,hz⟩:=I.list hq;obtain ⟨j,h1,h2,h3,h4,h5⟩:=QM he;obtain ⟨w,ew,rw'⟩:=r.get h2;have hl:=r.length;have hn:=gH;have fin:EP X pins σ Q w s:=⟨z,H,I,rw',q⟩
 by_cases h0:0≤i
 ·have hj:i.toNat=j:=by
   rw [seqIndex_of h0 h5] at h1;exact Option.some.inj h1
  exact item_listR pl.isList h0 (by omega) (by rw [hj]; simpa using ew) fin hs
 ·have hj:(i+(its.toArray.size:Int)).toNat=j:=by
   rw [seqIndex_neg (by omega) h4] at h1;rw [List.size_toArray,← hl];exact Option.some.inj h1
  exact subscriptTail_builtinR (x:=w) pl.isList.typeIs slot_list_getitem.lookup
   (wpAny_getItem_list_neg (Q:=fun r s'=>r=w∧EP X pins σ Q r s') pl.isList (by omega) (by rw [List.size_toArray]<;>omega) (by omega) (by rw [hj]; simpa using ew) ⟨rfl,fin⟩) hs
theorem ix_tup:IxR X (rIxT X.K):=by
 intro value slice pins s σ H x y v u Q I rx ry h hs;obtain ⟨p,xs,i,z,rfl,rfl,hq,he,q⟩:=h;cases rx;obtain ⟨t,rfl⟩:=ry;obtain ⟨its,r,pl,hz⟩:=I.tuple hq;obtain ⟨j,h1,h2,h3,h4,h5⟩:=QM he;obtain ⟨w,ew,rw'⟩:=r.get h2;have hl:=r.length;have hn:=gH;have fin:EP X pins σ Q w s:=⟨z,H,I,rw',q⟩
 exact subscriptTail_builtinR (x:=w) pl.typeIs slot_tuple_getitem.lookup
  (getItem_tuple (j:=j) (Q:=fun r s'=>r=w∧EP X pins σ Q r s') pl (by omega) (by omega) (by rw [List.size_toArray,← hl]; exact h1) (by simpa using ew) ⟨rfl,fin⟩) hs
theorem ix_str:IxR X rIxS:=by
 intro value slice pins s σ H x y v u Q I rx ry h hs;obtain ⟨z,i,c,rfl,rfl,hz,he,q⟩:=h;obtain ⟨t,rfl⟩:=rx;obtain ⟨t',rfl⟩:=ry;obtain ⟨j,h1,h2,h3,h4,h5⟩:=QM he;have hl:z.cps.toList.length=z.length:=by simp [Str.length]
 rw [hl] at h1 h4 h5;have hn:=gH
 exact tail_any (typeIs_str s z t) slot_str_getitem.lookup (getItem_str (c:=c) (by
  have e1:decide (i < -(2 ^ 63:Int))=false:=decide_eq_false (by omega);have e2:decide (i ≥ 2 ^ 63)=false:=decide_eq_false (by omega)
  rw [e1,e2,Bool.or_false]) (by rw [h1]; simpa using h2) ⟨.str ⟨#[c]⟩,H,I.tok _,⟨_,rfl⟩,q⟩) hs
def rIx (K:PySem.W.Frag):R2:=fun x y H Q=>rIxL K x y H Q∨rIxT K x y H Q∨rIxS x y H Q
theorem ix_seq:IxR X (rIx X.K):=ix_list.or (ix_tup.or ix_str)
theorem ZA (its:List Value) (n j:Nat) (u:Value):Obj.mapSeq (·.setIfInBounds j u) { cls:=.type "list",data:=.seq its.toArray n }={ cls:=.type "list",data:=.seq (its.set j u).toArray n }:=by
 simp [Obj.mapSeq]
theorem Inv.lst {pins:List (Addr×Obj)}{σ:St}{H:Hp}{s:Shared}{p:Addr}{xs:List V}(I:Inv X pins σ H s) (h:H p=some (.lst xs)) :
  ∃ (its:List Value) (n:Nat),Vals xs its∧s.heap.get? p=some { cls:=.type "list",data:=.seq its.toArray n }∧xs.length≤sizeLine:=by
 obtain ⟨z,its,n,r,e⟩:=I.hok p _ h;exact ⟨its,n,r,e,z⟩
theorem Inv.lstUpd {pins:List (Addr×Obj)}{σ:St}{H:Hp}{s:Shared}{p:Addr}{xs ys:List V}{its its':List Value}{n n':Nat}{f:Obj→Obj}(I:Inv X pins σ H s) (h:H p=some (.lst xs))
  (ho:s.heap.get? p=some { cls:=.type "list",data:=.seq its.toArray n }) (hf:f { cls:=.type "list",data:=.seq its.toArray n }={ cls:=.type "list",data:=.seq its'.toArray n' }) (r:Vals ys its') (hz:ys.length≤sizeLine) (t:Nat) :
  Inv X pins σ (upd H p (.lst ys)) { s with heap:=s.heap.update p f,toks:=t }:=by
 have e:(s.heap.update p f).get? p=some { cls:=.type "list",data:=.seq its'.toArray n' }:=by
  rw [Heap.get?_update_self f ho (by rw [hf]<;>rfl),hf]
 refine I.write (x:=p) (e:=p) (by rw [h]; trivial) (.inl rfl) (fun b u hb q=>(Heap.get?_update_other _ _ (Ne.symm hb)).trans q) ⟨_,e⟩ ?_;exact ⟨hz,its',n',r,e⟩
def rSetL:V→V→V→Hp→(Hp→Prop)→Prop:=fun o i v H Q=>∃ p xs k j,o=.ref p∧i=.int k∧H p=some (.lst xs)∧ixN xs.length k=some j∧Q (upd H p (.lst (xs.set j v)))
theorem VB:PSet X rSetL:=by
 intro pins s σ H o i v ov iv u Q I ro ri rv h;obtain ⟨p,xs,k,j,rfl,rfl,hp,hj,q⟩:=h;cases ro;obtain ⟨t,rfl⟩:=ri;obtain ⟨its,n,r,ho,hz⟩:=I.lst hp;obtain ⟨h1,h2,h3,h4⟩:=Jo hj;have hl:=r.length;have hn:=gH
 have I':Inv X pins σ (upd H p (.lst (xs.set j v))) { s with heap:=s.heap.update p (Obj.mapSeq (·.setIfInBounds j u)) } :=
  I.lstUpd hp ho (ZA its n j u) (r.set rv j) (by rw [List.length_set]; exact hz) s.toks
 by_cases h0:0≤k
 ·have hk:k.toNat=j:=by
   rw [seqIndex_of h0 h4] at h1;exact Option.some.inj h1
  exact PySem.W.ki_setAt ho h0 (by omega) (by rw [List.size_toArray,← hl]; exact h4) (by rw [hk]; exact ⟨_,I',q⟩)
 ·have hk:(k+(its.toArray.size:Int)).toNat=j:=by
   rw [seqIndex_neg (by omega) h3] at h1;rw [List.size_toArray,← hl];exact Option.some.inj h1
  exact PySem.W.ki_setBack ho (by omega) (by rw [List.size_toArray,← hl]; exact h3) (by omega) (by rw [hk]; exact ⟨_,I',q⟩)
theorem iI (lo hi:Option Int) (n:Nat):(sliceBounds lo hi none n).1=((HT.sIx n 0 lo:Nat):Int)∧(sliceBounds lo hi none n).2.1=((HT.sIx n n hi:Nat):Int)∧(sliceBounds lo hi none n).2.2=1:=by
 refine ⟨?_,?_,rfl⟩
 ·cases lo with
  | none=>simp [sliceBounds,HT.sIx]
  | some i =>
   simp only [sliceBounds,HT.sIx,Option.getD_none,show (1:Int) > 0 by decide,if_true]
   by_cases h:i < 0
   ·simp only [h,if_true]<;>omega
   ·simp only [h,if_false]<;>omega
 ·cases hi with
  | none=>simp [sliceBounds,HT.sIx]
  | some i =>
   simp only [sliceBounds,HT.sIx,Option.getD_none,show (1:Int) > 0 by decide,if_true]
   by_cases h:i < 0
   ·simp only [h,if_true]<;>omega
   ·simp only [h,if_false]<;>omega
theorem lE (its:List Value) (lo hi:Option Int):slicePick its.toArray lo hi none=((its.drop (HT.sIx its.length 0 lo)).take (HT.sIx its.length its.length hi - HT.sIx its.length 0 lo)).toArray:=by
 obtain ⟨h1,h2,h3⟩:=iI lo hi its.toArray.size;unfold slicePick;rw [h1,h2,h3]
 simp only [sliceRange_one,pick_run,List.size_toArray]<;>rfl
def rSlL (K:PySem.W.Frag):V→Option Int→Option Int→Hp→VK→Prop:=fun x lo hi H Q=>∃ a xs,x=.ref a∧SqL K H a xs∧∀ p,H p=none→Q (.ref p) (upd H p (.lst (XW xs lo hi)))
theorem sl_list:SlR X (rSlL X.K):=by
 intro pins s σ H x v vl vu lo hi sl Q I rx hs pl pu h;obtain ⟨a,xs,rfl,hx,q⟩:=h;cases rx;obtain ⟨its,r,ht,hz⟩:=I.list hx;have hlen:=r.length;refine ⟨"list",_,slot_list_getitem.lookup,ht.isList.typeIs,?_⟩;refine wpAny_getItem_list_slice ht.isList hs pl pu .none (by simp) ?_ (by rw [List.size_toArray]<;>omega);rw [lE,← hlen];refine ⟨.ref s.heap.objs.size,_,I.laid (t':=s.toks) (o:=.lst (XW xs lo hi)) (fun b ob q=>Heap.get?_push_of_some _ q) (Nat.le_refl _) ?_,rfl,q _ (I.hok.fresh (Nat.le_refl _))⟩
 exact ⟨Nat.le_trans (gC xs lo hi) hz,_,0,(r.drop (HT.sIx xs.length 0 lo)).take (HT.sIx xs.length xs.length hi - HT.sIx xs.length 0 lo),Heap.get?_push_size _ rfl⟩
def gD:V→Bool
 | .non=>true
 | .bl _=>true
 | .int _=>true
 | .str _=>true
 | _=>false
def eqV:V→V→Bool
 | .non,.non=>true
 | .bl a,.bl b=>a==b
 | .bl a,.int b=>(if a then 1 else 0)==b
 | .int a,.bl b=>a==(if b then 1 else 0)
 | .int a,.int b=>a==b
 | .str a,.str b=>a==b
 | _,_=>false
theorem eqAt_V {A:Around}{s:Shared}{y x:V}{u v:Value}(ry:RelV y u) (rx:RelV x v) (fy:gD y=true) (fx:gD x=true):SeqAt.EqAt A s u v (eqV y x):=by
 cases y with
 | non =>
  cases ry
  cases x with
  | non=>cases rx; exact SeqAt.EqAt.same _
  | bl b=>cases rx; exact SeqAt.EqAt.none_bool b
  | int b=>obtain ⟨t,rfl⟩:=rx; exact SeqAt.EqAt.none_int b t
  | str b=>obtain ⟨t,rfl⟩:=rx; exact SeqAt.EqAt.none_str b t
  | _=>exact absurd (show false=true from fx) Bool.false_ne_true
 | bl a =>
  cases ry
  cases x with
  | non=>cases rx; exact SeqAt.EqAt.bool_none a
  | bl b=>cases rx; exact SeqAt.EqAt.bool_bool a b
  | int b=>obtain ⟨t,rfl⟩:=rx; exact SeqAt.EqAt.bool_int a b t
  | str b=>obtain ⟨t,rfl⟩:=rx; exact SeqAt.EqAt.bool_str a b t
  | _=>exact absurd (show false=true from fx) Bool.false_ne_true
 | int a =>
  obtain ⟨t',rfl⟩:=ry
  cases x with
  | non=>cases rx; exact SeqAt.EqAt.int_none a t'
  | bl b=>cases rx; exact SeqAt.EqAt.int_bool a t' b
  | int b=>obtain ⟨t,rfl⟩:=rx; exact SeqAt.EqAt.int_int a t' b t
  | str b=>obtain ⟨t,rfl⟩:=rx; exact SeqAt.EqAt.int_str a t' b t
  | _=>exact absurd (show false=true from fx) Bool.false_ne_true
 | str a =>
  obtain ⟨t',rfl⟩:=ry
  cases x with
  | non=>cases rx; exact SeqAt.EqAt.str_none a t'
  | bl b=>cases rx; exact SeqAt.EqAt.str_bool a t' b
  | int b=>obtain ⟨t,rfl⟩:=rx; exact SeqAt.EqAt.str_int a t' b t
  | str b=>obtain ⟨t,rfl⟩:=rx; exact SeqAt.EqAt.str_str a t' b t
  | _=>exact absurd (show false=true from fx) Bool.false_ne_true
 | _=>exact absurd (show false=true from fy) Bool.false_ne_true
def eqU (x:V) (u:Value):Bool:=match u with
 | .none=>eqV .non x
 | .bool b=>eqV (.bl b) x
 | .int i _=>eqV (.int i) x
 | .str z _=>eqV (.str z) x
 | _=>false
theorem W3 {x y:V}{u:Value}(r:RelV y u) (f:gD y=true):eqU x u=eqV y x:=by
 cases y with
 | non=>cases r; rfl
 | bl b=>cases r; rfl
 | int i=>obtain ⟨t,rfl⟩:=r; rfl
 | str z=>obtain ⟨t,rfl⟩:=r; rfl
 | _=>exact absurd (show false=true from f) Bool.false_ne_true
theorem QO {x:V}:∀ {xs:List V}{us:List Value},Vals xs us→xs.all gD=true→us.any (eqU x)=xs.any fun y=>eqV y x
 | _,_,.nil,_=>rfl
 | y::xs,u::us,.cons r t,f=>by
  rw [List.all_cons,Bool.and_eq_true] at f;rw [List.any_cons,List.any_cons,W3 r f.1,QO t f.2]
theorem mT {A:Around}{s:Shared}{x:V}{v:Value}(rx:RelV x v) (fx:gD x=true):∀ {xs:List V}{us:List Value},Vals xs us→xs.all gD=true→∀ u∈us,SeqAt.EqAt A s u v (eqU x u)
 | _,_,.nil,_=>fun u hu=>by cases hu
 | y::xs,u::us,.cons r t,f=>fun u' hu=>by
  rw [List.all_cons,Bool.and_eq_true] at f
  rcases List.mem_cons.mp hu with rfl | hu
  ·rw [W3 r f.1]; exact eqAt_V r rx f.1 fx
  ·exact mT rx fx t f.2 u' hu
def inV (x:V) (xs:List V):Bool:=xs.any fun y=>eqV y x
def rIn (K:PySem.W.Frag) (neg:Bool):R2:=fun x y H Q=>∃ p xs,y=.ref p∧(SqL K H p xs∨SqT K H p xs)∧gD x=true∧xs.all gD=true∧Q (.bl (if neg then !inV x xs else inV x xs)) H
theorem Kj:OpR X (compareOp .In) (rIn X.K false):=by
 intro pins s σ H x y v u Q I rx ry h;obtain ⟨p,xs,rfl,hq,fx,fs,q⟩:=h;cases ry
 rcases hq with hq | hq
 ·obtain ⟨its,r,pl,hz⟩:=I.list hq
  refine SeqAt.in_listAt (eqU x) pl.isList (fun w hw=>mT rx fx r fs w (by simpa using hw)) ⟨.bl _,H,I,rfl,?_⟩;rw [show its.toArray.any (eqU x)=its.any (eqU x) by simp,QO r fs];exact q
 ·obtain ⟨its,r,pl,hz⟩:=I.tuple hq
  refine SeqAt.in_tupleAt (eqU x) pl (fun w hw=>mT rx fx r fs w (by simpa using hw)) ⟨.bl _,H,I,rfl,?_⟩;rw [show its.toArray.any (eqU x)=its.any (eqU x) by simp,QO r fs];exact q
theorem QE:CallR X (.builtin "len") (fun xs H Q=>∃ p ys,xs=[.ref p]∧(SqL X.K H p ys∨SqT X.K H p ys)∧Q (.int ys.length) H):=by
 intro pins s σ H xs us Q I r h;obtain ⟨p,ys,rfl,hq,q⟩:=h;obtain ⟨u,rfl,rx⟩:=kL r;cases rx;have hn:=gH
 rcases hq with hq | hq
 ·obtain ⟨its,r',pl,hz⟩:=I.list hq
  have hlen:=r'.length;exact Calls.call_len_list pl.isList (by simp only [List.size_toArray]<;>omega) ⟨.int ys.length,H,I.tok _,⟨s.toks+1,by rw [List.size_toArray,hlen]⟩,q⟩
 ·obtain ⟨its,r',pl,hz⟩:=I.tuple hq
  have hlen:=r'.length;exact len_tuple pl (by simp only [List.size_toArray]<;>omega) ⟨.int ys.length,H,I.tok _,⟨s.toks+1,by rw [List.size_toArray,hlen]⟩,q⟩
theorem QD:CallR X (.builtin "len") (fun xs H Q=>∃ z,xs=[.str z]∧z.length≤sizeLine∧Q (.int z.length) H):=by
 intro pins s σ H xs us Q I r h;obtain ⟨z,rfl,hz,q⟩:=h;obtain ⟨u,rfl,t,rfl⟩:=kL r;have hn:=gH;exact len_str (by omega) ⟨.int z.length,H,I.tok _,⟨_,rfl⟩,q⟩
theorem CallR.or {f:Value}{r r':List V→Hp→VK→Prop}(h:CallR X f r) (h':CallR X f r'):CallR X f (fun xs H Q=>r xs H Q∨r' xs H Q):=by
 intro pins s σ H xs us Q I rs q
 rcases q with q | q
 ·exact h pins s σ H xs us Q I rs q
 ·exact h' pins s σ H xs us Q I rs q
theorem QC:CallR X (.type "list") (fun xs H Q=>∃ p ys,xs=[.ref p]∧(SqL X.K H p ys∨SqT X.K H p ys)∧∀ l,H l=none→Q (.ref l) (upd H l (.lst ys))):=by
 intro pins s σ H xs us Q I r h;obtain ⟨p,ys,rfl,hq,q⟩:=h;obtain ⟨u,rfl,rx⟩:=kL r;cases rx
 have fin:∀ (its:List Value),Vals ys its→ys.length≤sizeLine→∀ (h':Heap) (c':Nat),(∀ b o',s.heap.get? b=some o'→h'.get? b=some o') →
   h'.get? s.heap.objs.size=some { cls:=.type "list",dict:=none,data:=.seq its.toArray c',slots := #[] }→EP X pins σ Q (.ref s.heap.objs.size) { s with heap:=h' }:=fun its r' hz h' c' kp e =>
  ⟨.ref s.heap.objs.size,_,I.laid (t':=s.toks) kp (Nat.le_refl _) (show ObjOk X.prog X.w _ h' _ (.lst ys) from ⟨hz,its,c',r',e⟩),rfl,q _ (I.hok.fresh (Nat.le_refl _))⟩
 rcases hq with hq | hq
 ·obtain ⟨its,r',pl,hz⟩:=I.list hq
  have hlen:=r'.length;obtain ⟨o,ho,hc,n,hd⟩:=pl.isList;exact call_list_seq p (.inl rfl) ho hc hd (fun h' c' kp e=>fin its r' hz h' c' kp e) (by simp only [List.size_toArray]<;>omega)
 ·obtain ⟨its,r',pl,hz⟩:=I.tuple hq
  have hlen:=r'.length;obtain ⟨o,ho,hc,n,hd⟩:=pl;exact call_list_seq p (.inr rfl) ho hc hd (fun h' c' kp e=>fin its r' hz h' c' kp e) (by simp only [List.size_toArray]<;>omega)
theorem zX:CallR X (.type "tuple") (fun xs H Q=>∃ p ys,xs=[.ref p]∧((SqL X.K H p ys∧∀ l,H l=none→Q (.ref l) (upd H l (.tup ys)))∨(SqT X.K H p ys∧Q (.ref p) H))):=by
 intro pins s σ H xs us Q I r h;obtain ⟨p,ys,rfl,h⟩:=h;obtain ⟨u,rfl,rx⟩:=kL r;cases rx
 rcases h with ⟨hq,q⟩ | ⟨hq,q⟩
 ·obtain ⟨its,r',pl,hz⟩:=I.list hq
  have hlen:=r'.length;refine call_tuple_list pl.isList (fun h' kp => ?_) (by simp only [List.size_toArray]<;>omega);have I1:Inv X pins σ H { s with heap:=h' }:=I.kept (t':=s.toks) kp
  have I2:Inv X pins σ (upd H h'.objs.size (.tup ys)) { s with heap:=h'.push { cls:=.type "tuple",data:=.seq its.toArray } } :=
   I1.laid (t':=s.toks) (fun b o e=>Heap.get?_push_of_some _ e) (Nat.le_refl _) (show ObjOk X.prog X.w _ _ _ (.tup ys) from ⟨hz,its,r',IsTupN.new _ _⟩)
  exact ⟨.ref h'.objs.size,_,I2,rfl,q _ (I1.hok.fresh (Nat.le_refl _))⟩
 ·obtain ⟨its,r',pl,hz⟩:=I.tuple hq
  exact call_tuple_same pl ⟨.ref p,H,I,rfl,q⟩
def tyV (K:PySem.W.Frag) (T:String) (x:V) (H:Hp):Prop:=match x with
 | .str _=>T = "str"
 | .int _=>T = "int"
 | .ref p=>(T = "list" ∧ ∃ xs,SqL K H p xs)∨(T = "tuple" ∧ ∃ o,K.lookup p=some o∧o.cls=.type "tuple" ∧ o.dict=none) ∨
   (T = "dict" ∧ ((∃ kvs,H p=some (.dK kvs))∨∃ kvs,H p=some (.dT kvs)))∨(T = "set" ∧ ∃ S n,H p=some (.set S n))
 | _=>False
theorem Vn {pins:List (Addr×Obj)}{σ:St}{H:Hp}{s:Shared}{T:String}{x:V}{v:Value}(I:Inv X pins σ H s) (r:RelV x v) (ty:tyV X.K T x H) :
  s.TypeIs v T∧∀ a,v=.ref a→∃ ob,s.heap.get? a=some ob∧ob.dict=none:=by
 cases x with
 | str z =>
  obtain ⟨t,rfl⟩:=r;cases (show T = "str" from ty);exact ⟨typeIs_str s z t,fun _ e=>nomatch e⟩
 | int i =>
  obtain ⟨t,rfl⟩:=r;cases (show T = "int" from ty);exact ⟨typeIs_int s i t,fun _ e=>nomatch e⟩
 | ref p =>
  cases r
  rcases ty with ⟨rfl,xs,hq⟩ | ⟨rfl,o,hk,hc,hd⟩ | ⟨rfl,hk⟩ | ⟨rfl,S,n,hk⟩
  ·obtain ⟨its,_,pl,_⟩:=I.list hq
   refine ⟨pl.isList.typeIs,fun a e => ?_⟩;cases e;obtain ⟨o,n,e,c,hd,_⟩:=pl;exact ⟨o,e,hd⟩
  ·refine ⟨⟨o,I.kIn p o hk,hc⟩,fun a e => ?_⟩
   cases e;exact ⟨o,I.kIn _ o hk,hd⟩
  ·have z:∃ o,s.heap.get? p=some o∧o.ExactDict:=by
    rcases hk with ⟨kvs,hk⟩ | ⟨kvs,hk⟩
    ·obtain ⟨_,_,_,_,o,_,_,e,ex,_⟩:=I.hok p _ hk
     exact ⟨o,e,ex⟩
    ·obtain ⟨_,_,_,_,o,_,_,e,ex,_⟩:=I.hok p _ hk
     exact ⟨o,e,ex⟩
   obtain ⟨o,e,ex⟩:=z;refine ⟨⟨o,e,ex.1⟩,fun a e2 => ?_⟩;cases e2;exact ⟨o,e,ex.2.1⟩
  ·obtain ⟨o,_,_,_,e,ex,_⟩:=I.hok p _ hk
   refine ⟨⟨o,e,ex.1⟩,fun a e2 => ?_⟩;cases e2;exact ⟨o,e,ex.2.1⟩
 | _=>exact False.elim ty
def tBM0 (K:PySem.W.Frag) (T:String) (r:V→List V→Hp→VK→Prop) (to:TE):TE:=fun σ H Q=>to σ H fun x H1=>tyV K T x H1∧r x [] H1 Q
def tBM (K:PySem.W.Frag) (T:String) (r:V→List V→Hp→VK→Prop) (to:TE) (t:TA):TE:=fun σ H Q=>to σ H fun x H1=>tyV K T x H1∧t σ H1 fun xs H2=>r x xs H2 Q
variable {o e:Expr}{es:List Expr}{to:TE}{t:TA}{name:Str}{apos cpos:Pos}{T id:String}{r:V→List V→Hp→VK→Prop}
theorem pe_bm0 (pa:PlainAttrs T) (slot:Slot T name id) (hty:typeOf (.builtin id)=pure (.type "method_descriptor")) (hm:MtR X id r) (ho:PE X o to)
  (hbase:attributeBase o name X.env (eval o X.env)=eval o X.env:=by rfl) (hline:(apos.endLine==cpos.line)=true:=by rfl):PE X (.Call (.Attribute o name apos) [] [] cpos) (tBM0 X.K T r to):=by
 intro pins s σ H Q I h;refine wpAny_Call_method0_late hbase hline (thn (ho pins s σ H _ I h) fun v s1 ⟨x,H1,I1,r1,ty,q1⟩ => ?_);obtain ⟨h1,h2⟩:=Vn I1 r1 ty;exact ⟨T,id,pa,slot,hty,h1,h2,Calls.callWith_builtin rfl (PySem.evalArgs_none (hm pins s1 σ H1 x [] v [] Q I1 r1 .nil q1))⟩
theorem pe_bm (pa:PlainAttrs T) (slot:Slot T name id) (hty:typeOf (.builtin id)=pure (.type "method_descriptor")) (hm:MtR X id r) (ho:PE X o to) (ha:PA X (e::es) t)
  (hbase:attributeBase o name X.env (eval o X.env)=eval o X.env:=by rfl)
  (hfew:((backTo cpos (starEach (e::es) X.env)).all (fun x => !x.1)&&(backToKw cpos (keywordEach [] X.env)).all (fun x=>x.1.isSome)
   && decide ((e::es).length+([]:List Keyword).length+(if ([]:List Keyword).isEmpty then 0 else 1) < 30))=true:=by rfl)
  (hline:(apos.endLine==cpos.line)=true:=by rfl) (hs:starEach (e::es) X.env=(false,eval e X.env)::starEach es X.env:=by rfl) (hplain:(backTo cpos (starEach es X.env)).any (·.1)=false:=by rfl) :
  PE X (.Call (.Attribute o name apos) (e::es) [] cpos) (tBM X.K T r to t):=by
 intro pins s σ H Q I h;refine wpAny_Call_method_late hbase hfew hline rfl (thn (ho pins s σ H _ I h) fun v s1 ⟨x,H1,I1,r1,ty,q1⟩ => ?_);obtain ⟨h1,h2⟩:=Vn I1 r1 ty;refine ⟨T,id,pa,slot,hty,h1,h2,?_⟩;have hA:=ha cpos pins s1 σ H1 _ I1 q1;rw [hs] at hA ⊢;refine Calls.callWith_builtin (by show (false || (backTo cpos (starEach es X.env)).any (·.1))=false; rw [hplain]<;>rfl) (Calls.evalArgs_plain ?_);exact thn hA fun us s2 ⟨vs,H2,I2,r2,q2⟩=>hm pins s2 σ H2 x vs v us Q I2 r1 r2 q2
end
def MtM (X:Cx) (id:String) (r:V→List V→Hp→VK→Prop):Prop :=
 ∀ (pins:List (Addr×Obj)) (s:Shared) (σ:St) (H:Hp) (x:V) (xs:List V) (v:Value) (us:List Value) (Q:VK),Inv X pins σ H s→RelV x v→Vals xs us→r x xs H Q →
  wpAny (model X.prog X.w) X.A (call (.builtin id) (v::us)) (EP X pins σ Q) X.xe s
theorem Vals.one:∀ {x:V}{us:List Value},Vals [x] us→∃ u,us=[u]∧RelV x u
 | _,_,.cons r .nil=>⟨_,rfl,r⟩
theorem Vals.zero:∀ {us:List Value},Vals [] us→us=[]
 | _,.nil=>rfl
theorem Vals.reverse {xs:List V}{us:List Value}(h:Vals xs us):Vals xs.reverse us.reverse:=by
 induction h with
 | nil=>exact .nil
 | cons r t ih=>rw [List.reverse_cons,List.reverse_cons]; exact Vals.append ih (.cons r .nil)
section
variable {X:Cx}{pins:List (Addr×Obj)}{σ:St}{H:Hp}{s:Shared}{l b:Addr}{xs ys zs:List V}
theorem Inv.lset {its its':List Value}{n:Nat}{f:Array Value→Array Value}{t':Nat}(I:Inv X pins σ H s) (hH:H l=some (.lst xs))
  (e:s.heap.get? l=some { cls:=.type "list",data:=.seq its.toArray n }) (hf:f its.toArray=its'.toArray) (hv:Vals ys its') (hz:ys.length≤sizeLine) :
  Inv X pins σ (upd H l (.lst ys)) { s with heap:=s.heap.update l (Obj.mapSeq f),toks:=t' }:=by
 have q:=PySem.IsL.update e f;rw [hf] at q;refine I.write (x:=l) (e:=l) (by rw [hH]; exact trivial) (.inl rfl) (fun b' u hb hu=>(Heap.get?_update_other s.heap (Obj.mapSeq f) (Ne.symm hb)).trans hu) ⟨_,q⟩ ?_;exact ⟨hz,its',_,hv,q⟩
theorem Inv.lnew {its:List Value}{t':Nat}(I:Inv X pins σ H s) (hv:Vals ys its) (hz:ys.length≤sizeLine) :
  Inv X pins σ (upd H s.heap.objs.size (.lst ys)) { s with heap:=s.heap.push { cls:=.type "list",data:=.seq its.toArray },toks:=t' } :=
 I.laid (fun _ _ q=>Heap.get?_push_of_some _ q) (Nat.le_refl _) ⟨hz,its,0,hv,Heap.get?_push_size _ rfl⟩
theorem Inv.fresh (I:Inv X pins σ H s):H s.heap.objs.size=none:=I.hok.fresh (Nat.le_refl _)
theorem Inv.lstM (I:Inv X pins σ H s) (hH:H l=some (.lst xs)):xs.length≤sizeLine∧∃ (its:List Value) (n:Nat),Vals xs its∧xs.length=its.length∧s.heap.get? l=some { cls:=.type "list",data:=.seq its.toArray n }:=by
 obtain ⟨z,its,n,r,e⟩:=I.hok l _ hH;exact ⟨z,its,n,r,r.length,e⟩
theorem Wi {n:Nat}(h:n≤sizeLine):Builtin.List.listTooLong n=false:=by
 unfold Builtin.List.listTooLong;exact decide_eq_false (by omega)
end
section
variable {X:Cx}
def Jc:V→List V→Hp→VK→Prop:=fun x vs H Q=>∃ l xs y,x=.ref l∧vs=[y]∧H l=some (.lst xs)∧xs.length < sizeLine∧Q .non (upd H l (.lst (xs++[y])))
theorem pJ:MtM X "list.append" Jc:=by
 intro pins s σ H x vs v us Q I rx rv h;obtain ⟨l,xs,y,rfl,rfl,hH,hz,q⟩:=h;cases rx;obtain ⟨u,rfl,ru⟩:=rv.one;obtain ⟨z,its,n,r,hl,e⟩:=I.lstM hH;refine call_meets F.slot_list_append ⟨_,e,rfl⟩ F.entry_list_append (F.args_list_append_2 _ _) (PySem.list_append l its.toArray n u (by rw [List.size_toArray]; omega)) ⟨e,?_⟩;refine ⟨.non,_,I.lset (its':=its++[u]) hH e (by simp) (r.append (.cons ru .nil)) ?_,rfl,q⟩
 rw [List.length_append,List.length_singleton];omega
def Jb:V→List V→Hp→VK→Prop:=fun x vs H Q=>∃ l b xs zs,x=.ref l∧vs=[.ref b]∧H l=some (.lst xs)∧H b=some (.lst zs)∧xs.length+zs.length≤sizeLine∧Q .non (upd H l (.lst (xs++zs)))
theorem aA:MtM X "list.extend" Jb:=by
 intro pins s σ H x vs v us Q I rx rv h;obtain ⟨l,b,xs,zs,rfl,rfl,hH,hB,hz,q⟩:=h;cases rx;obtain ⟨u,rfl,ru⟩:=rv.one;cases ru;obtain ⟨z,its,n,r,hl,e⟩:=I.lstM hH;obtain ⟨z2,its2,n2,r2,hl2,e2⟩:=I.lstM hB;have hsz:its.toArray.size+its2.toArray.size≤sizeLine:=by rw [List.size_toArray,List.size_toArray]; omega
 have hlong:¬ (!its.toArray.isEmpty&&Builtin.List.listTooLong (its.toArray.size+its2.toArray.size))=true:=by
  rw [Wi hsz,Bool.and_false];exact Bool.false_ne_true
 refine call_meets F.slot_list_extend ⟨_,e,rfl⟩ F.entry_list_extend (F.args_list_extend_2 _ _)
  (AutoSeq1.list_extend_list_list_0 l its.toArray n b its2.toArray n2 hlong (by rw [List.size_toArray]; omega) (by omega)) ⟨e,e2,?_⟩
 refine ⟨.non,_,I.lset (its':=its++its2) hH e (by simp) (r.append r2) ?_,rfl,q⟩;rw [List.length_append];omega
def Q8:V→List V→Hp→VK→Prop:=fun x vs H Q=>∃ l xs,x=.ref l∧vs=[]∧H l=some (.lst xs)∧Q .non (upd H l (.lst xs.reverse))
theorem Zy:MtM X "list.reverse" Q8:=by
 intro pins s σ H x vs v us Q I rx rv h;obtain ⟨l,xs,rfl,rfl,hH,q⟩:=h;cases rx;have hus:=rv.zero;subst hus;obtain ⟨z,its,n,r,hl,e⟩:=I.lstM hH;refine call_meets F.slot_list_reverse ⟨_,e,rfl⟩ F.entry_list_reverse (F.args_list_reverse_1 _) (AutoSeq1.list_reverse_list_0 l its.toArray n (by rw [List.size_toArray]; omega)) ⟨e,?_⟩;refine ⟨.non,_,I.lset (its':=its.reverse) hH e (by simp) r.reverse ?_,rfl,q⟩
 rw [List.length_reverse];omega
def VH:V→List V→Hp→VK→Prop:=fun x vs H Q=>∃ l xs,x=.ref l∧vs=[]∧H l=some (.lst xs)∧Q .non (upd H l (.lst []))
theorem Wl:MtM X "list.clear" VH:=by
 intro pins s σ H x vs v us Q I rx rv h;obtain ⟨l,xs,rfl,rfl,hH,q⟩:=h;cases rx;have hus:=rv.zero;subst hus;obtain ⟨z,its,n,r,hl,e⟩:=I.lstM hH;refine call_meets F.slot_list_clear ⟨_,e,rfl⟩ F.entry_list_clear (F.args_list_clear_1 _) (AutoSeq1.list_clear_list_0 l its.toArray n (by rw [List.size_toArray]; omega)) ⟨e,?_⟩;exact ⟨.non,_,I.lset (its':=[]) (ys:=[]) hH e rfl .nil (Nat.zero_le _),rfl,q⟩
def rCat:R2:=fun x y H Q=>∃ l b xs zs,x=.ref l∧y=.ref b∧H l=some (.lst xs)∧H b=some (.lst zs)∧xs.length+zs.length≤sizeLine∧∀ p,H p=none→Q (.ref p) (upd H p (.lst (xs++zs)))
theorem op_cat:OpR X (binaryOp .Add) rCat:=by
 intro pins s σ H x y v u Q I rx ry h;obtain ⟨l,b,xs,zs,rfl,rfl,hH,hB,hz,q⟩:=h;cases rx;cases ry;obtain ⟨z,its,n,r,hl,e⟩:=I.lstM hH;obtain ⟨z2,its2,n2,r2,hl2,e2⟩:=I.lstM hB;refine PySem.P.add_list e e2 ?_ (by rw [List.size_toArray,List.size_toArray]; omega);have ea:its.toArray++its2.toArray=(its++its2).toArray:=by simp
 rw [ea];exact ⟨.ref _,_,I.lnew (t':=s.toks) (r.append r2) (by rw [List.length_append]; omega),rfl,q _ I.fresh⟩
end
section
variable {κ:Type} [DecidableEq κ]
def cU (kvs:List (κ×V)) (k:κ):Option V:=(kvs.find? fun kv=>decide (kv.1=k)).map (·.2)
def mW (kvs:List (κ×V)) (k:κ) (v:V):List (κ×V) :=
 if (kvs.any fun kv=>decide (kv.1=k))=true then kvs.map (fun kv=>if kv.1=k then (kv.1,v) else kv) else kvs++[(k,v)]
theorem vL {p:κ×V}{r:List (κ×V)}{k:κ}(e:p.1=k):cU (p::r) k=some p.2:=by simp [cU,List.find?_cons,e]
theorem wL {p:κ×V}{r:List (κ×V)}{k:κ}(e:¬ p.1=k):cU (p::r) k=cU r k:=by simp [cU,List.find?_cons,e]
theorem vS (k:κ):∀ kvs:List (κ×V),(kvs.any fun kv=>decide (kv.1=k))=(cU kvs k).isSome
 | []=>rfl
 | p::r=>by
  rw [List.any_cons]
  by_cases e:p.1=k
  ·simp only [vL e,decide_eq_true e,Bool.true_or,Option.isSome_some]
  ·rw [wL e,decide_eq_false e,Bool.false_or]; exact vS k r
theorem aG (kvs:List (κ×V)) (k:κ) (v:V):(mW kvs k v).length≤kvs.length+1:=by
 unfold mW
 split
 ·rw [List.length_map]; omega
 ·rw [List.length_append,List.length_cons,List.length_nil]; omega
theorem RelO.isSome_eq {o:Option V}{u:Option Value}(r:RelO o u):o.isSome=u.isSome:=by
 cases o with
 | none=>cases u with
  | none=>rfl
  | some _=>exact (show False from r).elim
 | some _=>cases u with
  | none=>exact (show False from r).elim
  | some _=>rfl
theorem RelO.getD {o:Option V}{u:Option Value}{d:V}{d':Value}(r:RelO o u) (rd:RelV d d'):RelV (o.getD d) (u.getD d'):=by
 cases o with
 | none=>cases u with
  | none=>exact rd
  | some _=>exact (show False from r).elim
 | some _=>cases u with
  | none=>exact (show False from r).elim
  | some _=>exact r
theorem KV.val {kvs:List (κ×V)}{vs:List (κ×Value)}(r:KV kvs vs) (k:κ):RelO (cU kvs k) (valueAt vs k):=by
 unfold KV at r
 induction r with
 | nil=>exact True.intro
 | @cons p q ps qs h t ih =>
  obtain ⟨h1,h2⟩:=h
  by_cases e:p.1=k
  ·have e':q.1=k:=h1.symm.trans e
   have b:valueAt (q::qs) k=some q.2:=by simp [valueAt,List.find?_cons,e']
   rw [vL e,b]; exact h2
  ·have e':¬ q.1=k:=fun z=>e (h1.trans z)
   have b:valueAt (q::qs) k=valueAt qs k:=by simp [valueAt,List.find?_cons,e']
   rw [wL e,b]; exact ih
theorem KV.any {kvs:List (κ×V)}{vs:List (κ×Value)}(r:KV kvs vs) (k:κ):(kvs.any fun kv=>decide (kv.1=k))=vs.any fun kv=>decide (kv.1=k):=by
 unfold KV at r
 induction r with
 | nil=>rfl
 | cons h t ih=>rw [List.any_cons,List.any_cons,ih,h.1]
theorem KV.repl {kvs:List (κ×V)}{vs:List (κ×Value)}(r:KV kvs vs) (k:κ) {y:V}{u:Value}(ry:RelV y u) :
  KV (kvs.map fun kv=>if kv.1=k then (kv.1,y) else kv) (vs.map fun kv=>if kv.1=k then (kv.1,u) else kv):=by
 unfold KV at r ⊢
 induction r with
 | nil=>exact .nil
 | @cons p q ps qs h t ih =>
  rw [List.map_cons,List.map_cons];refine .cons ?_ ih;obtain ⟨h1,h2⟩:=h
  by_cases e:p.1=k
  ·rw [if_pos e,if_pos (h1.symm.trans e)]; exact ⟨h1,ry⟩
  ·rw [if_neg e,if_neg (fun z=>e (h1.trans z))]; exact ⟨h1,h2⟩
theorem KV.put {kvs:List (κ×V)}{vs:List (κ×Value)}(r:KV kvs vs) (k:κ) {y:V}{u:Value}(ry:RelV y u):KV (mW kvs k y) (stored vs k u):=by
 unfold mW stored;rw [r.any k]
 by_cases e:(vs.any fun kv=>decide (kv.1=k))=true
 ·rw [if_pos e,if_pos e]; exact r.repl k ry
 ·rw [if_neg e,if_neg e]; exact Paired.snoc r ⟨rfl,ry⟩
theorem KV.length {kvs:List (κ×V)}{vs:List (κ×Value)}(r:KV kvs vs):kvs.length=vs.length:=Paired.length r
end
theorem jI {P:Program}{w:World}{k:Key}{u:Value}(r:RelV (kV k) u):(lX P w).is k u=true:=by
 rcases k with (_ | i) | x
 ·cases (show u=Value.none from r); exact Qg P w
 ·obtain ⟨t,e⟩:=(show ∃ t,u=Value.int i t from r); subst e; exact Xq P w i t
 ·obtain ⟨t,e⟩:=(show ∃ t,u=Value.str x t from r); subst e; exact Xp P w x t
theorem kI {P:Program}{w:World}:∀ {ks:List Key}{us:List Value},Vals (ks.map kV) us→ItemsAre (lX P w) ks us
 | [],_,r=>by rw [List.map_nil] at r; cases r; exact .nil
 | k::ks,_,r=>by
  rw [List.map_cons] at r
  cases r with
  | cons h t=>exact .cons (jI h) (kI t)
abbrev KT (H:Hp):List (List Key×V)→List (List Key×Addr×Value)→Prop:=Paired fun p q=>p.1=q.1∧H q.2.1=some (.tup (p.1.map kV))∧RelV p.2 q.2.2
theorem KT.val {H:Hp}{kvs:List (List Key×V)}{xs:List (List Key×Addr×Value)}(r:KT H kvs xs) (k:List Key):RelO (cU kvs k) ((atKey xs k).map (·.2)):=by
 induction r with
 | nil=>exact True.intro
 | @cons p q ps qs h t ih =>
  obtain ⟨h1,_,h2⟩:=h
  by_cases e:p.1=k
  ·have e':q.1=k:=h1.symm.trans e
   have b:atKey (q::qs) k=some q.2:=by simp [atKey,List.find?_cons,e']
   rw [vL e,b]; exact h2
  ·have e':¬ q.1=k:=fun z=>e (h1.trans z)
   have b:atKey (q::qs) k=atKey qs k:=by simp [atKey,List.find?_cons,e']
   rw [wL e,b]; exact ih
theorem KT.repl {H:Hp}{kvs:List (List Key×V)}{xs:List (List Key×Addr×Value)}(r:KT H kvs xs) (k:List Key) {y:V}{u:Value}(ry:RelV y u) :
  KT H (kvs.map fun kv=>if kv.1=k then (kv.1,y) else kv) (xs.map (putAt k u)):=by
 induction r with
 | nil=>exact .nil
 | @cons p q ps qs h t ih =>
  rw [List.map_cons,List.map_cons];refine .cons ?_ ih;obtain ⟨h1,h2,h3⟩:=h;unfold putAt
  by_cases e:p.1=k
  ·rw [if_pos e,if_pos (h1.symm.trans e)]; exact ⟨h1,h2,ry⟩
  ·rw [if_neg e,if_neg (fun z=>e (h1.trans z))]; exact ⟨h1,h2,h3⟩
theorem KT.put {H:Hp}{kvs:List (List Key×V)}{xs:List (List Key×Addr×Value)}(r:KT H kvs xs) (k:List Key) {b:Addr}{y:V}{u:Value}(hb:H b=some (.tup (k.map kV))) (ry:RelV y u) :
  KT H (mW kvs k y) (storedH xs k b u):=by
 have e:(kvs.any fun kv=>decide (kv.1=k))=(atKey xs k).isSome:=by
  rw [vS,(r.val k).isSome_eq,Option.isSome_map]
 unfold mW storedH;rw [e]
 by_cases q:(atKey xs k).isSome=true
 ·rw [if_pos q,if_pos q]; exact r.repl k ry
 ·rw [if_neg q,if_neg q]; exact Paired.snoc r ⟨rfl,hb,ry⟩
theorem KT.keeps {H H':Hp}{kvs:List (List Key×V)}{xs:List (List Key×Addr×Value)}(r:KT H kvs xs) (ht:∀ b ys,H b=some (.tup ys)→H' b=some (.tup ys)):KT H' kvs xs :=
 Paired.mapP r fun _ _ z=>⟨z.1,ht _ _ z.2.1,z.2.2⟩
section
variable {P:Program}{w:World}{H:Hp}{h:Heap}{a:Addr}
theorem rd_of {u:HO}(ok:HOk P w H h) (e:Rd H a u):ObjOk P w H h a u:=e.ok ok
theorem gI {kvs:List (Key×V)}(ok:HOk P w H h) (e:Rd H a (.dK kvs)):kvs.length≤sizeLine∧(a==sysModules)=false∧∃ vs,KV kvs vs∧h.DictOf (lX P w) a vs :=
 show ObjOk P w H h a (.dK kvs) from rd_of ok e
theorem XO {kvs:List (Key×V)}(ok:HOk P w H h) (e:H a=some (.dK kvs)):kvs.length≤sizeLine∧(a==sysModules)=false∧∃ vs,KV kvs vs∧h.DictOf (lX P w) a vs:=gI ok (.inl e)
theorem pB {ks:List Key}(ok:HOk P w H h) (e:H a=some (.tup (ks.map kV))):(tupleKind (lX P w)).is h ks a:=by
 obtain ⟨_,its,r,o,h1,h2,⟨n,h3⟩,_⟩:=(show ObjOk P w H h a (.tup (ks.map kV)) from ok a _ e);exact ⟨o,its.toArray,n,h1,h2,h3,by simpa using kI r⟩
theorem XL {kvs:List (List Key×V)}(ok:HOk P w H h) (e:Rd H a (.dT kvs)):kvs.length≤sizeLine∧(a==sysModules)=false ∧
  ∃ xs,KT H kvs xs∧h.DictOfH (tupleKind (lX P w)) a xs:=by
 obtain ⟨z,y,xs,r,o,es,ep,h1,h2,h3,h4,h5⟩:=(show ObjOk P w H h a (.dT kvs) from rd_of ok e);refine ⟨z,y,xs,r,o,es,ep,h1,h2,h3,h4,fun x hx => ?_,h5⟩
 have all:∀ {l:List (List Key×V)} {m:List (List Key×Addr×Value)},KT H l m→∀ x∈m,(tupleKind (lX P w)).is h x.1 x.2.1:=by
  intro l m q
  induction q with
  | nil=>intro x hx; exact nomatch hx
  | @cons p q ps qs hq t ih =>
   intro x hx
   rcases List.mem_cons.mp hx with e | hx
   ·subst e
    exact pB ok (by rw [← hq.1]; exact hq.2.1)
   ·exact ih x hx
 exact all r x hx
theorem dt_of {kvs:List (List Key×V)}(ok:HOk P w H h) (e:H a=some (.dT kvs)):kvs.length≤sizeLine∧(a==sysModules)=false ∧
  ∃ xs,KT H kvs xs∧h.DictOfH (tupleKind (lX P w)) a xs:=XL ok (.inl e)
end
def DGet (H:Hp) (a:Addr) (y:V) (r:Option V):Prop :=
 (∃ kvs k,Rd H a (.dK kvs)∧y=kV k∧r=cU kvs k)∨∃ kvs k b,Rd H a (.dT kvs)∧y=.ref b∧H b=some (.tup (k.map kV))∧r=cU kvs k
def DPut (H:Hp) (a:Addr) (y v:V) (H':Hp):Prop :=
 (∃ kvs k,H a=some (.dK kvs)∧y=kV k∧kvs.length < sizeLine∧H'=upd H a (.dK (mW kvs k v))) ∨
 ∃ kvs k b,H a=some (.dT kvs)∧y=.ref b∧H b=some (.tup (k.map kV))∧kvs.length < sizeLine∧H'=upd H a (.dT (mW kvs k v))
theorem DGet.t {H:Hp}{a b:Addr}{kvs:List (List Key×V)}{k:List Key}(e:H a=some (.dT kvs)) (eb:H b=some (.tup (k.map kV))):DGet H a (.ref b) (cU kvs k):=.inr ⟨kvs,k,b,.inl e,rfl,eb,rfl⟩
theorem DPut.k {H:Hp}{a:Addr}{kvs:List (Key×V)}{k:Key}{v:V}(e:H a=some (.dK kvs)) (hl:kvs.length < sizeLine):DPut H a (kV k) v (upd H a (.dK (mW kvs k v))):=.inl ⟨kvs,k,e,rfl,hl,rfl⟩
theorem DPut.t {H:Hp}{a b:Addr}{kvs:List (List Key×V)}{k:List Key}{v:V}(e:H a=some (.dT kvs)) (eb:H b=some (.tup (k.map kV))) (hl:kvs.length < sizeLine) :
  DPut H a (.ref b) v (upd H a (.dT (mW kvs k v))):=.inr ⟨kvs,k,b,e,rfl,eb,hl,rfl⟩
section
variable {X:Cx}{pins:List (Addr×Obj)}{σ:St}{H:Hp}{s:Shared}{a:Addr}{y v:V}{u r:Value}{o:Option V}{A:Around}{E:Value→Shared→Prop}
theorem Inv.big (I:Inv X pins σ H s):sysModules < s.heap.objs.size:=by
 have h:mainGlobals < s.heap.objs.size:=(I.mod.glob.keeps I.bk).lt;exact Nat.lt_trans (by decide) h
theorem KQ {Q:Value→Shared→Prop}(hu:A.units+1 < cLine) (I:Inv X pins σ H s) (g:DGet H a y (some v)) (ry:RelV y u) (h:∀ w' s',Inv X pins σ H s'→RelV v w'→Q w' s') :
  wpAny (model X.prog X.w) A (getItem (.ref a) u) Q E s:=by
 rcases g with ⟨kvs,k,e,ey,l⟩ | ⟨kvs,k,b,e,ey,eb,l⟩
 ·subst ey
  obtain ⟨z,hd,vs,rel,dd⟩:=gI I.hok e;obtain ⟨w',hw,rw'⟩:=RelO.some_of (v:=v) (o:=valueAt vs k) (by rw [l]; exact rel.val k);exact wpAny_getItem_of (jI ry) dd.mapOf hw (h w' _ (I.tok _) rw')
 ·subst ey
  cases (show u=Value.ref b from ry);obtain ⟨z,hd,xs,rel,dd⟩:=XL I.hok e;obtain ⟨w',hw,rw'⟩:=RelO.some_of (v:=v) (o:=(atKey xs k).map (·.2)) (by rw [l]; exact rel.val k);obtain ⟨p,hp,hp2⟩:=Option.map_eq_some_iff.mp hw;refine wpAny_getItem_heap (tupleKind_room_in1 hu) (pB I.hok eb) dd hp ?_;rw [hp2];exact h w' _ (I.tok _) rw'
theorem dR {h':Heap}{t':Nat}{ob:HO}(I:Inv X pins σ H s) (mu:Mut (H a)) (hs:Heap.SameBut a s.heap h') (he:∃ q,h'.get? a=some q) (new:ObjOk X.prog X.w (upd H a ob) h' a ob) :
  Inv X pins σ (upd H a ob) { s with heap:=h',toks:=t' } :=
 I.write (x:=a) (e:=a) mu (.inl rfl) (fun b q hb z=>(hs.2 b hb).trans z) he new
theorem ZN {P:Program}{w:World}{H':Hp}{h':Heap}{kvs:List (Key×V)}{vs:List (Key×Value)}(z:kvs.length≤sizeLine) (hd:(a==sysModules)=false) (rel:KV kvs vs) (dd:h'.DictOf (lX P w) a vs) :
  ObjOk P w H' h' a (.dK kvs):=⟨z,hd,vs,rel,dd⟩
theorem KO {H':Hp}{Q:Unit→Shared→Prop}(hu:A.units+1 < cLine) (I:Inv X pins σ H s) (g:DPut H a y v H') (ry:RelV y u) (rv:RelV v r) (h:∀ s',Inv X pins σ H' s'→Q () s') :
  wpAny (model X.prog X.w) A (setItem (.ref a) u r) Q E s:=by
 rcases g with ⟨kvs,k,e,ey,l,eH⟩ | ⟨kvs,k,b,e,ey,eb,l,eH⟩
 ·subst ey eH
  obtain ⟨z,hd,vs,rel,dd⟩:=XO I.hok e;have hz:vs.length≤sizeLine:=by rw [← rel.length]; exact z
  have hl:(mW kvs k v).length≤sizeLine:=by have:=aG kvs k v; omega
  refine wpAny_setItem_pairs (hsz:=hz) (jI ry) dd fun h' dd' hs=>h _ ?_;have he:∃ q,h'.get? a=some q:=let ⟨q,_,_,hq,_⟩:=dd'; ⟨q,hq⟩
  exact dR I (by rw [e]; exact True.intro) hs he (ZN hl hd (rel.put k rv) dd')
 ·subst ey eH
  cases (show u=Value.ref b from ry);obtain ⟨z,hd,xs,rel,dd⟩:=dt_of I.hok e;have hz:xs.length≤sizeLine:=by rw [← Paired.length rel]; exact z
  have hl:(mW kvs k v).length≤sizeLine:=by have:=aG kvs k v; omega
  refine wpAny_setItem_heap (hsz:=hz) (tupleKind_room_in1 hu) (pB I.hok eb) dd fun h' dd' hs=>h _ ?_;obtain ⟨q,es,ep,hq,h2,h3,h4,_,h5⟩:=dd';refine dR I (by rw [e]; exact True.intro) hs ⟨q,hq⟩ ⟨hl,hd,_,(rel.put k eb rv).keeps fun c ys ec => ?_,q,es,ep,hq,h2,h3,h4,h5⟩;rw [aQ (ne_of ec e (fun z=>nomatch z))];exact ec
end
section
variable {X:Cx}{pins:List (Addr×Obj)}{σ:St}{H:Hp}{s:Shared}{a:Addr}{kvs:List (Key×V)}{k:Key}{u:Value}{A:Around}{E:Value→Shared→Prop}
theorem d_len {Q:Value→Shared→Prop}(I:Inv X pins σ H s) (e:Rd H a (.dK kvs)) (h:∀ t s',Inv X pins σ H s'→Q (.int kvs.length t) s'):wpAny (model X.prog X.w) A (call (.builtin "len") [.ref a]) Q E s:=by
 obtain ⟨z,hd,vs,rel,dd⟩:=gI I.hok e;refine call_len_dict hd dd (by rw [← rel.length]; rw [sizeLine_eq] at z; omega) ?_;rw [← rel.length];exact h _ _ (I.tok _)
end
def Za (i:Expr):Prop:=∀ ov iv,subscripted i false ov iv=operate [ov,iv] (getItem ov iv)
theorem Z8 {prog:Program}{w:World}{A:Around}{E:Value→Shared→Prop}{s:Shared}{env:Env}{value slice:Expr}{pos:Pos}{T id:String}{Q:Value→Shared→Prop}
  (hl:typeLookup (.type T) "__getitem__" = pure (some (.builtin id))) (hs:Za slice)
  (h:wpAny (model prog w) A (eval value env) (fun o s₁=>wpAny (model prog w) A (eval slice env) (fun i s₂=>s₂.TypeIs o T∧wpAny (model prog w) A (getItem o i) Q E s₂) E s₁) E s) :
  wpAny (model prog w) A (eval (.Subscript value slice pos) env) Q E s:=by
 refine Subscript_ (wpAny_mono h (fun o s₁ h₁=>wpAny_mono h₁ (fun i s₂ h₂ => ?_) fun _ _ x=>x) fun _ _ x=>x);obtain ⟨hT,h₂⟩:=h₂;unfold subscriptTail;refine wpAny_bind ?_;rw [getitemInPython_of_ne hT.not_modules];refine wpAny_bind (wpAny_specialOf hT hl ?_)
 have fin:wpAny (model prog w) A (subscripted slice false o i) (fun r s₃=>wpAny (model prog w) A (letTemporaryGo value o r >>= fun _=>pure r) Q E s₃) E s₂:=by
  rw [hs o i];exact wpAny_operating (wpAny_mono h₂ (fun r s₃ h₃=>wpAny_bind (wpAny_letTemporaryGo (wpAny_pure h₃))) fun _ _ x=>x)
 first
  | exact wpAny_pure (wpAny_bind fin)
  | exact wpAny_bind (wpAny_pure (wpAny_bind fin))
  | exact wpAny_bind fin
theorem XR {X:Cx}{pins:List (Addr×Obj)}{σ:St}{H:Hp}{s:Shared}{a:Addr}{y:V}{o:Option V}(I:Inv X pins σ H s) (g:DGet H a y o):s.TypeIs (.ref a) "dict" := by
 rcases g with ⟨kvs,k,e,_,_⟩ | ⟨kvs,k,b,e,_,_,_⟩
 ·obtain ⟨_,_,vs,_,dd⟩:=gI I.hok e
  exact dd.typeIs
 ·obtain ⟨_,_,xs,_,dd⟩:=XL I.hok e
  exact dd.typeIs
def tDGet (td ty:TE):TE:=fun σ H Q=>td σ H fun x H1=>ty σ H1 fun y H2=>∃ a v,x=.ref a∧DGet H2 a y (some v)∧Q v H2
def sDPut (td ty tv:TE):TS:=fun D σ H=>tv σ H fun v H1=>td σ H1 fun x H2=>ty σ H2 fun y H3=>∃ a H4,x=.ref a∧DPut H3 a y v H4∧D.nx σ H4
section
variable {X:Cx}{o i e value:Expr}{pos pos' tpos:Pos}{td ty tv:TE}
theorem pe_dget (hu:X.A.units+1 < cLine) (ho:PE X o td) (hi:PE X i ty) (hs:Za i):PE X (.Subscript o i pos) (tDGet td ty):=by
 intro pins s σ H Q I h;refine Z8 PySem.F.slot_dict_getitem.lookup hs (thn (ho pins s σ H _ I h) fun u s1 ⟨x,H1,I1,rx,q1⟩=>thn (hi pins s1 σ H1 _ I1 q1) fun iv s2 ⟨y,H2,I2,ry,a,v,ex,g,q2⟩ => ?_);subst ex;obtain rfl:u=Value.ref a:=rx;exact ⟨XR I2 g,KQ hu I2 g ry fun w' s3 I3 rw'=>⟨v,H2,I3,rw',q2⟩⟩
theorem ps_dput (hu:X.A.units+1 < cLine) (ho:PE X o td) (hi:PE X i ty) (hv:PE X value tv) (hs:swapsWith value (some (.Subscript o i pos')) pos.line X.env=pure false) :
  PS X (.Assign [.Subscript o i pos'] value pos) (sDPut td ty tv):=by
 intro pins s σ H D I h;refine wpAny_Assign_Subscript (thn (hv pins s σ H _ I h) fun r s1 ⟨v,H1,I1,rv,q1⟩=>thn (ho pins s1 σ H1 _ I1 q1) fun u s2 ⟨x,H2,I2,rx,q2⟩=>thn (hi pins s2 σ H2 _ I2 q2) fun iv s3 ⟨y,H3,I3,ry,a,H4,ex,g,q3⟩ => ?_) hs;subst ex;obtain rfl:u=Value.ref a:=rx;exact KO hu I3 g ry rv fun s4 I4=>⟨σ,H4,I4,q3⟩
end
theorem XQ {P:Program}{w:World}{H:Hp}(h:Heap) (hb:sysModules < h.objs.size):ObjOk P w H (h.push { cls:=.type "dict",data:=.dict #[] }) h.objs.size (.dK []) :=
 ⟨Nat.zero_le _,beq_eq_false_iff_ne.mpr (Ne.symm (Nat.ne_of_lt hb)),[],.nil,Heap.DictOf.new h⟩
theorem XM {P:Program}{w:World}{H:Hp}(h:Heap) (hb:sysModules < h.objs.size):ObjOk P w H (h.push { cls:=.type "dict",data:=.dict #[] }) h.objs.size (.dT []) :=
 ⟨Nat.zero_le _,beq_eq_false_iff_ne.mpr (Ne.symm (Nat.ne_of_lt hb)),[],.nil,_,#[],0,Heap.get?_push_size _ rfl,⟨rfl,rfl,rfl⟩,rfl,rfl,List.nodup_nil⟩
def Vs:TE:=fun _ H Q=>∀ p,H p=none→Q (.ref p) (upd H p (.dK []))
def Vr:TE:=fun _ H Q=>∀ p,H p=none→Q (.ref p) (upd H p (.dT []))
section
variable {X:Cx}{pos:Pos}
theorem VZ:PE X (.Dict [] [] pos) Vs:=fun pins s σ H Q I h =>
 wpAny_Dict_empty ⟨.ref s.heap.objs.size,_,I.laid (a:=s.heap.objs.size) (o:=.dK []) (t':=s.toks) (fun _ _ q=>Heap.get?_push_of_some _ q) (Nat.le_refl _) (XQ s.heap I.big),rfl,h _ (I.hok.fresh (Nat.le_refl _))⟩
theorem VY:PE X (.Dict [] [] pos) Vr:=fun pins s σ H Q I h =>
 wpAny_Dict_empty ⟨.ref s.heap.objs.size,_,I.laid (a:=s.heap.objs.size) (o:=.dT []) (t':=s.toks) (fun _ _ q=>Heap.get?_push_of_some _ q) (Nat.le_refl _) (XM s.heap I.big),rfl,h _ (I.hok.fresh (Nat.le_refl _))⟩
end
def tI:List (TE×TE)→St→Hp→(List (V×V)→Hp→Prop)→Prop
 | [],_,H,Q=>Q [] H
 | (tk,tv)::r,σ,H,Q=>tk σ H fun x H1=>tv σ H1 fun y H2=>tI r σ H2 fun ps H3=>Q ((x,y)::ps) H3
abbrev VV:List (V×V)→List (Value×Value)→Prop:=Paired fun p q=>RelV p.1 q.1∧RelV p.2 q.2
def PPs (X:Cx) (pos:Pos) (keys:List (Option Expr)) (values:List Expr) (trs:List (TE×TE)):Prop :=
 ∀ (pins:List (Addr×Obj)) (s:Shared) (σ:St) (H:Hp) (Q:List (V×V)→Hp→Prop),Inv X pins σ H s→tI trs σ H Q →
  wpAny (model X.prog X.w) X.A (evalPairs (pairTrees keys values X.env pos)) (fun vs s'=>∃ ps H',Inv X pins σ H' s'∧VV ps vs∧Q ps H') X.xe s
theorem pps_nil {X:Cx}{pos:Pos}:PPs X pos [] [] []:=fun pins s σ H Q I h=>pairTrees_nil_walk ⟨[],H,I,.nil,h⟩
theorem VR {X:Cx}{pos:Pos}{k v:Expr}{ks:List (Option Expr)}{vs:List Expr}{tk tv:TE}{trs:List (TE×TE)}(hk:PE X k tk) (hv:PE X v tv) (hr:PPs X pos ks vs trs) :
  PPs X pos (some k::ks) (v::vs) ((tk,tv)::trs):=fun pins s σ H Q I h =>
 pairTrees_cons_walk (thn (hk pins s σ H _ I h) fun u s1 ⟨x,H1,I1,rx,q1⟩=>thn (hv pins s1 σ H1 _ I1 q1) fun w2 s2 ⟨y,H2,I2,ry,q2⟩ =>
  thn (hr pins s2 σ H2 _ I2 q2) fun ws s3 ⟨ps,H3,I3,rel,q3⟩=>⟨(x,y)::ps,H3,I3,.cons ⟨rx,ry⟩ rel,q3⟩)
def vG (kvs more:List (Key×V)):List (Key×V):=more.foldl (fun acc kv=>mW acc kv.1 kv.2) kvs
theorem KV.merge:∀ {more:List (Key×V)}{rs:List (Key×Value)}{kvs:List (Key×V)}{vs:List (Key×Value)},KV more rs→KV kvs vs→KV (vG kvs more) (merged vs rs):=by
 intro more rs kvs vs r;unfold KV at r
 induction r generalizing kvs vs with
 | nil=>intro q; exact q
 | @cons p q ps qs h t ih =>
  intro r0
  have e:KV (mW kvs p.1 p.2) (stored vs q.1 q.2):=by
   have:=r0.put p.1 h.2;rw [← h.1]; exact this
  exact ih e
theorem bU:∀ (more kvs:List (Key×V)),(vG kvs more).length≤kvs.length+more.length
 | [],kvs=>by show kvs.length≤kvs.length+0; omega
 | p::r,kvs=>by
  have h1:=bU r (mW kvs p.1 p.2);have h2:=aG kvs p.1 p.2;show (vG (mW kvs p.1 p.2) r).length≤_;rw [List.length_cons]; omega
theorem nO {P:Program}{w:World}:∀ {kvs:List (Key×V)}{ws:List (Value×Value)},VV (kvs.map fun kv=>(kV kv.1,kv.2)) ws→∃ rs,Carries (lX P w) ws rs∧KV kvs rs
 | [],_,r=>by rw [List.map_nil] at r; cases r; exact ⟨[],True.intro,.nil⟩
 | p::kvs,_,r=>by
  rw [List.map_cons] at r
  cases r with
  | @cons a b as bs h t =>
   obtain ⟨rs,c,q⟩:=nO (P:=P) (w:=w) t;obtain ⟨b1,b2⟩:=b;exact ⟨(p.1,b2)::rs,⟨jI h.1,rfl,c⟩,.cons ⟨rfl,h.2⟩ q⟩
def tDisp (trs:List (TE×TE)):TE:=fun σ H Q=>∀ p,H p=none→tI trs σ (upd H p (.dK [])) fun ps H2=>H2 p=some (.dK [])∧∃ kvs:List (Key×V),ps=kvs.map (fun kv=>(kV kv.1,kv.2))∧kvs.length≤15∧Q (.ref p) (upd H2 p (.dK (vG [] kvs)))
theorem pe_disp {X:Cx}{pos:Pos}{keys:List (Option Expr)}{values:List Expr}{trs:List (TE×TE)}(h:PPs X pos keys values trs) (hall:keys.all (·.isSome)=true) (hl:keys.length=values.length) (h0:keys≠[])
  (h15:keys.length≤15):PE X (.Dict keys values pos) (tDisp trs):=by
 intro pins s σ H Q I q;have hn:=I.hok.fresh (Nat.le_refl s.heap.objs.size);have I1:=I.laid (a:=s.heap.objs.size) (o:=.dK []) (h':=s.heap.push { cls:=.type "dict",data:=.dict #[] }) (t':=s.toks) (fun _ _ q=>Heap.get?_push_of_some _ q) (Nat.le_refl _) (XQ s.heap I.big);refine wpAny_Dict_walk (knd:=lX X.prog X.w) hall hl h0 h15 (thn (h pins _ σ _ _ I1 (q _ hn)) fun ws s2 ⟨ps,H2,I2,rel,e,kvs,ep,lk,q2⟩ => ?_)
 subst ep;obtain ⟨rs,c,rk⟩:=nO (P:=X.prog) (w:=X.w) rel;obtain ⟨z,hd,vs0,r0,dd⟩:=XO I2.hok e;cases r0;refine ⟨rs,c,dd,fun h' dd' hs=>⟨.ref s.heap.objs.size,_,?_,rfl,q2⟩⟩
 have hz:(vG [] kvs).length≤sizeLine:=by
  have h1:=bU kvs [];rw [List.length_nil] at h1;rw [sizeLine_eq]; omega
 have he:∃ q,h'.get? s.heap.objs.size=some q:=let ⟨q,_,_,hq,_⟩:=dd'; ⟨q,hq⟩
 exact dR I2 (by rw [e]; exact True.intro) hs he (ZN hz hd (rk.merge .nil) dd')
structure M2 (X:Cx) (o:Expr) (m:Str) (apos:Pos) (e f:Expr) (cpos:Pos):Prop where
 base:attributeBase o m X.env (eval o X.env)=eval o X.env
 few:((backTo cpos (starEach [e,f] X.env)).all (fun x => !x.1)&&(backToKw cpos (keywordEach [] X.env)).all (fun x=>x.1.isSome)
  && decide (([e,f]:List Expr).length+([]:List Keyword).length+(if ([]:List Keyword).isEmpty then 0 else 1) < 30))=true
 line:(apos.endLine==cpos.line)=true
 trees:backTo cpos (starEach [e,f] X.env)=[(false,eval e X.env),(false,eval f X.env)]
def IsD (H:Hp) (a:Addr):Prop:=(∃ kvs,Rd H a (.dK kvs))∨∃ kvs,Rd H a (.dT kvs)
theorem isD_at {X:Cx}{pins:List (Addr×Obj)}{σ:St}{H:Hp}{s:Shared}{a:Addr}(I:Inv X pins σ H s) (d:IsD H a) :
  s.TypeIs (.ref a) "dict" ∧ (∀ b,Value.ref a=.ref b→∃ ob,s.heap.get? b=some ob∧ob.dict=none)∧(a==sysModules)=false:=by
 rcases d with ⟨kvs,e⟩ | ⟨kvs,e⟩
 ·obtain ⟨_,hd,vs,_,dd⟩:=gI I.hok e
  refine ⟨dd.typeIs,fun b q => ?_,hd⟩;cases q;obtain ⟨ob,_,_,h1,h2,_⟩:=dd;exact ⟨ob,h1,h2.2.1⟩
 ·obtain ⟨_,hd,xs,_,dd⟩:=XL I.hok e
  refine ⟨dd.typeIs,fun b q => ?_,hd⟩;cases q;obtain ⟨ob,_,_,h1,h2,_⟩:=dd;exact ⟨ob,h1,h2.2.1⟩
section
variable {X:Cx}{pins:List (Addr×Obj)}{σ:St}{H:Hp}{s:Shared}{a:Addr}{y d:V}{u r:Value}{o:Option V}{A:Around}{E:Value→Shared→Prop}
theorem d_get2 {Q:Value→Shared→Prop}(hu:A.units+1 < cLine) (I:Inv X pins σ H s) (g:DGet H a y o) (ry:RelV y u) (rd:RelV d r) (h:∀ w' s',Inv X pins σ H s'→RelV (o.getD d) w'→Q w' s') :
  wpAny (model X.prog X.w) A (call (.builtin "dict.get") [.ref a,u,r]) Q E s:=by
 rcases g with ⟨kvs,k,e,ey,l⟩ | ⟨kvs,k,b,e,ey,eb,l⟩
 ·subst ey
  obtain ⟨z,hd,vs,rel,dd⟩:=gI I.hok e;refine call_meetsIn PySem.F.slot_dict_get dd.typeIs PySem.F.entry_dict_get (PySem.F.args_dict_get_3 _ _ _) (meets_dict_get_default (lX X.prog X.w) a (jI ry) hd r) ⟨_,dd.mapOf,h _ _ (I.tok _) ?_⟩;rw [l];exact (rel.val k).getD rd
 ·subst ey
  cases (show u=Value.ref b from ry);obtain ⟨z,hd,xs,rel,dd⟩:=XL I.hok e;refine call_meetsIn PySem.F.slot_dict_get dd.typeIs PySem.F.entry_dict_get (PySem.F.args_dict_get_3 _ _ _) (meetsH_dict_get_default (tupleKind (lX X.prog X.w)) a b hd r) ⟨tupleKind_room_in1 hu,k,xs,pB I.hok eb,dd,h _ _ (I.tok _) ?_⟩;rw [l];exact (rel.val k).getD rd
end
def Vt (td ty tx:TE):TE:=fun σ H Q=>td σ H fun x H1=>∃ a,x=.ref a∧IsD H1 a∧ty σ H1 fun y H2=>tx σ H2 fun z H3=>∃ o,DGet H3 a y o∧Q (o.getD z) H3
section
variable {X:Cx}{o e f:Expr}{apos cpos:Pos}{td ty tx:TE}
theorem V0 (hu:X.A.units+1 < cLine) (ho:PE X o td) (he:PE X e ty) (hf:PE X f tx) (m:M2 X o "get" apos e f cpos):PE X (.Call (.Attribute o "get" apos) [e,f] [] cpos) (Vt td ty tx):=by
 intro pins s σ H Q I h;refine wpAny_Call_method m.base m.few m.line PySem.F.plainAttrs_dict PySem.F.slot_dict_get PySem.F.type_dict_get (thn (ho pins s σ H _ I h) fun u s1 ⟨x,H1,I1,rx,a,ex,d,q1⟩ => ?_);subst ex;obtain rfl:u=Value.ref a:=rx;obtain ⟨t1,t2,_⟩:=isD_at I1 d;refine ⟨t1,t2,?_⟩;rw [m.trees]
 refine Calls.callWith_builtin rfl (Calls.evalArgs_plain (Calls.spliced_cons (thn (he pins s1 σ H1 _ I1 q1) fun iv s2 ⟨y,H2,I2,ry,q2⟩ =>
  Calls.spliced_cons (thn (hf pins s2 σ H2 _ I2 q2) fun fv s3 ⟨z,H3,I3,rz,ov,g,q3⟩=>Calls.spliced_nil ?_))))
 exact d_get2 hu I3 g ry rz fun w' s4 I4 rw'=>⟨_,H3,I4,rw',q3⟩
end
end L2
namespace Att
open PySem PySem.W PySem.Calls PyProof.Rows
theorem sC {P:Params}{h:Heap}:∀ (ns:List Int) (vs:List Value),WellAll P h vs (ns.map WData.int)→IntsAre vs ns:=by
 intro ns
 induction ns with
 | nil =>
  intro vs w;rw [List.map_nil] at w;cases w;exact .nil
 | cons n ns ih =>
  intro vs w;rw [List.map_cons] at w
  cases w with
  | cons a b =>
   cases a;exact .cons _ _ (ih _ b)
theorem J8 {l:OpenLaw}{n:Nat}(hn:l.most=some n) {P:Params}{h:Heap}{args:List WData}{vals:List Value}
  (hpre:l.row.toRowW.claim.pre args=true) (hwl:WellAll P h vals args) :
  ∃ a vs ns,vals=[Value.ref a]∧args=[WData.list (ns.map WData.int)]∧h.get? a=some { cls:=.type "list",data:=.seq vs.toArray }∧IntsAre vs ns∧ns.length≤n:=by
 have hsh:WShape.hasAll [] args [.list .int]=true:=(pre_splitW hpre).1;have hc:l.pre.holds [] { args:=args }=true:=(pre_splitW hpre).2;obtain ⟨d,r,rfl,h1,h2⟩:=hasAllW_cons hsh;obtain rfl:=hasAllW_nil h2;obtain ⟨xs,rfl,h3⟩:=hasW_list h1;obtain ⟨ns,rfl⟩:=items_int h3
 have hlen:ns.length≤n:=by
  unfold OpenLaw.pre at hc
  have h4:(WTm.not (.lt (.lit (.int (n:Int))) (.len (.arg 0)))).holds [] { args:=[.list (ns.map .int)] }=true:=by
   have h4:=(holds_andW hc).1;rw [hn] at h4;exact h4
  have h5:=condW_of h4 (w_not (w_lt w_lit (w_len_list (w_arg rfl))));rw [List.length_map] at h5;refine Nat.le_of_not_lt fun q => ?_;have q':(n:Int) < ((ns.length:Nat):Int):=by omega
  first
   | (rw [decide_eq_true q'] at h5; exact absurd h5 (by decide))
   | (simp at h5; omega)
 cases hwl with
 | cons w1 w2 =>
  cases w2
  cases w1 with
  | list ho hall=>exact ⟨_,_,ns,rfl,rfl,ho,sC ns _ hall,hlen⟩
theorem Kd (l:OpenLaw) (args:List WData):l.row.toRowW.claim.post args (.bool true) args=true :=
 postW_of (r:=l.row.toRowW) (X:=(true==true))
  (show WShape.has [] (.bool true) .bool=true by first | rfl | decide | simp [WShape.has,WShape.arms,WShape.armsAll])
  (show (WTm.eq .res (.lit (.bool true))).value [] { args:=args,res:=some (.bool true),after:=args }=some (.bool (true==true)) from w_eq_bool (w_res rfl) w_lit) rfl
theorem attach_call {l:OpenLaw}{n:Nat}{q:Program}{loose:List Str}{XP:(Str→Option Value)→Heap→Prop}{YP:World→Heap→Prop}{d:DefRec}
  (hn:l.most=some n) (hdf:d.params.defaults=[])
  (call:∀ (w:World) (s₀ s₁:Shared) (mg mb:Str→Option Value) (fa:Addr) (o:Obj) (pm cd doc:Value) (a:Addr) (vs:List Value) (ns:List Int),
   Ground q loose [] XP w s₀ mg mb s₁.heap→YP w s₁.heap →
   s₁.heap.get? fa=some o→o.data=.func (docDef d.name d.params d.body d.scope pm cd doc)→s₁.heap.CodeRec cd d.name→mg d.name=some (.ref fa) →
   s₁.heap.get? a=some { cls:=.type "list",data:=.seq vs.toArray }→IntsAre vs ns→ns.length≤n→s₁.gens = #[] →
   codeAny (model l.prog w) callerA (.call (.ref fa) ⟨[.ref a],[]⟩) (fun r s'=>r=.ok (.ret (.bool true))∧OldK s₁.heap s'.heap∧s'.os=s₁.os∧AllBare s'.gens) s₁) :
  WalkO q loose XP YP l.row.toRowW d [] (fun f vs=>PySem.call f vs):=by
 intro w s₀ s₁ mg mb G Y fa o pm cd doc dV kV ho hd hcd hD hmg hg args vals as hpre hlay hrd hwl hlo;obtain rfl:dV=.none:=Dflts.none hD hdf;obtain rfl:kV=.none:=Dflts.noKw hD;obtain ⟨a,vs,ns,rfl,rfl,hobj,hints,hlen⟩:=J8 hn hpre hwl;refine enter_call (codeAny_mono (call w s₀ s₁ mg mb fa o pm cd doc a vs ns G Y ho (fd_plain hd) hcd hmg hobj hints hlen hg) fun r s' hq => ?_);obtain ⟨rfl,h2,h3,h4⟩:=hq
 exact ⟨.inl ⟨.bool true,.bool true,[],rfl,fun _=>rfl,.bool true,Kd l _,fun _=>⟨List.Pairwise.nil,fun _ hm=>(nomatch hm)⟩⟩,h2,h3,h4⟩
end Att
namespace L2
open PySem PySem.Spec PyProof.Rows
theorem aE:∀ {vs:List Value}{ns:List Int},IntsAre vs ns→Vals (ns.map V.int) vs
 | _,_,.nil=>.nil
 | _,_,.cons n t h=>.cons ⟨t,rfl⟩ (aE h)
def Only (H:Hp):Prop:=∀ b,H b=none∨∃ o xs,H b=some (.frz o (.lst xs))
theorem Ww {P:Program}{w:World}{K:PySem.W.Frag}{mg mb:Str→Option Value}{CX:CXT}{k:Nat}{fa a:Addr}{fd:FuncData}{x:Str}{sp:Sp}{s₁:Shared}{vs:List Value}{ns:List Int}
  (KX:K.In s₁.heap) (hns:s₁.heap.Ns mainGlobals mg) (hb:s₁.heap.Ns builtinsNs mb) (hbb:∀ x:Str,x ≠ "__name__" → mb x=bootBuiltins x) (hlim:s₁.heap.NoLimit) (hg:s₁.gens = #[])
  (ha:s₁.heap.get? a=some { cls:=.type "list",data:=.seq vs.toArray }) (hi:IntsAre vs ns) (hl:ns.length≤sizeLine) (hr:Room k callerA)
  (F:∀ base:Heap,K.In base→base.Ns mainGlobals mg→FnOk P w K mg base CX k fa fd [x] sp) (hbind:∀ (s:Shared) (u:Value),BindsTo s fd ⟨[u],[]⟩ [(x,u)])
  (hsp:∀ H:Hp,Only H→SqL K H a (ns.map V.int)→sp [.ref a] H (fun v _=>v=.bl true) fun _ _ _=>False)
  (hCX:∀ H e s',CX [] H s₁ (fun _ _ _=>False) e s'→False) :
  codeAny (model P w) callerA (.call (.ref fa) ⟨[.ref a],[]⟩) (fun r s'=>r=.ok (.ret (.bool true))∧OldK s₁.heap s'.heap∧s'.os=s₁.os∧AllBare s'.gens) s₁:=by
 have rv:=aE hi;have lenV:=hi.length
 have core:∀ H:Hp,Only H→SqL K H a (ns.map V.int)→HOk P w H s₁.heap→(∀ b,H b≠none→b=a)→(H a≠none→K.lookup a=none) →
   codeAny (model P w) callerA (.call (.ref fa) ⟨[.ref a],[]⟩) (fun r s'=>r=.ok (.ret (.bool true))∧OldK s₁.heap s'.heap∧s'.os=s₁.os∧AllBare s'.gens) s₁:=by
  intro H hO hS hok hA hK;have base_of:∀ {b:Addr} {o:Obj},s₁.heap.get? b=some o→H b=none→(Qu s₁.heap H).get? b=some o:=fun e n=>WW e n
  have noA:∀ {b:Addr} {o:Obj} {es:Array DictEntry} {ep:Nat},s₁.heap.get? b=some o→o.data=.dict es ep→H b=none:=fun {b o es ep} e d=>by
   cases q:H b with
   | none=>rfl
   | some u =>
    have e':b=a:=hA b (by rw [q]; simp);subst e';rw [ha] at e; cases e
    have d':Data.seq vs.toArray _=Data.dict es ep:=d;cases d'
  have nsK:∀ {b:Addr} {m:Str→Option Value},s₁.heap.Ns b m→(Qu s₁.heap H).Ns b m:=fun {b m} ⟨o,es,ep,e,d,r⟩=>⟨o,es,ep,base_of e (noA e d),d,r⟩
  have hKb:K.In (Qu s₁.heap H):=fun b o e=>base_of (KX b o e) (by
   cases q:H b with
   | none=>rfl
   | some u =>
    have e':b=a:=hA b (by rw [q]; simp);subst e'
    rw [hK (by rw [q]; simp)] at e; cases e)
  have hM:Mod K mg (Qu s₁.heap H):=⟨hKb,nsK hns,⟨mb,nsK hb,hbb⟩,let ⟨mc,h1,h2⟩:=hlim; ⟨mc,nsK h1,h2⟩⟩;have e0:Env0 P w K mg (Qu s₁.heap H) callerA [] s₁ H:=⟨rfl,hM,fun b o e=>of_hidT e,Nat.le_of_eq (KL _ _),trivial,fun b hb=>absurd (show b∈([]:List Addr) from hb) (by simp),hok,.of_eq hg⟩;refine codeAny_mono ((F _ hKb (nsK hns)).run callerA [] s₁ H ⟨[.ref a],[]⟩ [.ref a] [.ref a] _ _ hr e0 (hbind s₁ (.ref a)) (.cons rfl .nil) (hsp H hO hS)) fun r s' h => ?_
  cases r with
  | error e=>exact (hCX H e s' h).elim
  | ok fl =>
   cases fl with
   | next=>exact False.elim h
   | brk=>exact False.elim h
   | cont=>exact False.elim h
   | ret u =>
    obtain ⟨v,H',os,bare,un,hok',r',q⟩:=h;have q':v=.bl true:=q;subst q';obtain rfl:u=Value.bool true:=r';refine ⟨rfl,OldK.of_keep fun b o e => ?_,os,bare⟩
    cases q:H b with
    | none=>exact un.keep b o e q (by intro z; exact absurd (show b∈([]:List Addr) from z) (by simp)) (by simp)
    | some u =>
     rcases hO b with z | ⟨ob,xs,z⟩
     ·rw [q] at z; cases z
     ·have z2:=un.frzs b ob _ z
      obtain ⟨e1,_⟩:=hok b _ z;obtain ⟨e2,_⟩:=hok' b _ z2;rw [e] at e1; cases e1
      exact e2
 cases hk:K.lookup a with
 | some o =>
  have e:=KX a o hk;rw [ha] at e;cases e;refine core (fun _=>none) (fun _=>.inl rfl) (.inr ⟨_,vs.toArray,_,hk,rfl,rfl,rfl,by rw [List.size_toArray,lenV]; exact hl,by simpa using rv⟩) (fun b u z=>by have z':(none:Option HO)=some u:=z; cases z') (fun b z=>absurd rfl z) fun z=>absurd rfl z
 | none =>
  refine core (fun b=>if b=a then some (.frz { cls:=.type "list",data:=.seq vs.toArray } (.lst (ns.map V.int))) else none) (fun b => ?_) (.inl (.inr ⟨{ cls:=.type "list",data:=.seq vs.toArray },if_pos rfl⟩)) (fun b u z => ?_) (fun b z => ?_) fun _=>hk
  ·by_cases hb:b=a
   ·exact .inr ⟨_,_,if_pos hb⟩
   ·exact .inl (if_neg hb)
  ·by_cases hb:b=a
   ·have z':=(if_pos hb).symm.trans z
    cases z';subst hb;exact ⟨ha,by rw [List.length_map]; exact hl,vs,_,rv,ha⟩
   ·have z':=(if_neg hb).symm.trans z
    cases z'
  ·by_cases hb:b=a
   ·exact hb
   ·exact absurd (if_neg hb) z
theorem walk_of {l:PySem.W.OpenLaw}{n k:Nat}{q:Program}{loose:List Str}{XP:(Str→Option Value)→Heap→Prop}{YP:World→Heap→Prop}{d:DefRec}{K:Params→PySem.W.Frag}{CX:World→CXT}{sp:World→Sp}{x:Str}
  (hn:l.most=some n) (hn2:n≤sizeLine) (hdf:d.params.defaults=[]) (hr:Room k callerA)
  (hY:∀ (w:World) (h:Heap),YP w h→(K w.params).In h)
  (F:∀ (w:World) (mg:Str→Option Value) (fa:Addr) (h:Heap),(K w.params).In h→h.Ns mainGlobals mg→mg d.name=some (.ref fa) →
   ∃ fd:FuncData,(∀ (s:Shared) (u:Value),BindsTo s fd ⟨[u],[]⟩ [(x,u)]) ∧
    ∀ base:Heap,(K w.params).In base→base.Ns mainGlobals mg→FnOk l.prog w (K w.params) mg base (CX w) k fa fd [x] (sp w))
  (hsp:∀ (w:World) (H:Hp) (a:Addr) (ns:List Int),ns.length≤n→Only H→SqL (K w.params) H a (ns.map V.int)→sp w [.ref a] H (fun v _=>v=.bl true) fun _ _ _=>False)
  (hCX:∀ (w:World) (H:Hp) (s:Shared) (e:Value) (s':Shared),CX w [] H s (fun _ _ _=>False) e s'→False) :
  PySem.W.WalkO q loose XP YP l.row.toRowW d [] (fun f vs=>PySem.call f vs):=by
 refine Att.attach_call hn hdf fun w s₀ s₁ mg mb fa o pm cd doc a vs ns G Y ho hd hcd hmg hobj hints hlen hg => ?_;have KX:=hY w _ Y;obtain ⟨fd,hb,hF⟩:=F w mg fa _ KX G.T.g hmg;exact Ww KX G.T.g G.T.b G.T.builtins G.T.nolimit hg hobj hints (Nat.le_trans hlen hn2) hr hF hb (fun H hO hS=>hsp w H a ns hlen hO hS) fun H e s'=>hCX w H s₁ e s'
def pQ (s:Stmt):Arguments:=match s with
 | .FunctionDef _ a _ _ _ _ _ _ _ _=>a
 | _=>{ posonlyargs:=[],args:=[],vararg:=none,kwonlyargs:=[],kw_defaults:=[],kwarg:=none,defaults:=[] }
def fQ (s:Stmt):List Stmt:=match s with
 | .FunctionDef _ _ b _ _ _ _ _ _ _=>b
 | _=>[]
def kQ (s:Stmt):Scope:=match s with
 | .FunctionDef _ _ _ _ _ _ sc _ _ _=>sc
 | _=>{ kind:=.function,names:=[],isGenerator:=false,isCoroutine:=false }
abbrev CX0:CXT:=fun _ _ _ _ _ _=>False
abbrev E0:XK:=fun _ _ _=>False
theorem lQ {X:Cx}:wN CX0 X E0:=fun _ _ _ _ _ _ _ h=>h.elim
structure Fun (K:PySem.W.Frag) (x qual:Str) (st:Stmt) (f:Addr) (fd:FuncData):Prop where
 ex:∃ (oc:Value) (od:Option Addr) (kV doc pm:Value) (an:Option Addr) (cdv ct:Value) (osl:Array (Option Value)),
  fd=PySem.W.fnOf x qual (pQ st) (fQ st) (kQ st) .none kV doc pm an cdv ct∧K.lookup f=some ⟨oc,od,.func fd,osl⟩∧PySem.W.codeIn K cdv qual=true
 kp:PySem.W.keepIn K (.ref f)=true
section
variable {P:Program}{w:World}{K:PySem.W.Frag}{mg:Str→Option Value}{base:Heap}
theorem Fun.ok {x qual:Str}{st:Stmt}{f:Addr}{fd:FuncData}{N ps:List Str}{k:Nat}{sp:Sp}(F:Fun K x qual st f fd) (S:yX N ps (kQ st)) (len:∀ vs H Q E,sp vs H Q E→vs.length=ps.length)
  (hbody:∀ (cdv:Value) (A:Around) (outer:List Env) (s:Shared) (H:Hp) (vs:List V) (Q:VK) (E:XK),Room k (A.deeper (envOfC qual (kQ st) s.heap.objs.size f cdv))→sp vs H Q E →
   ∃ t,PSs (XT CX0 P w K mg base N qual (kQ st) f cdv A outer s H E).nox (fQ st) t∧t { nx:=fun _ H'=>Q .non H',rt:=Q } (start N vs) H):FnOk P w K mg base CX0 (k+1) f fd ps sp:=by
 obtain ⟨oc,od,kV,doc,pm,an,cdv,ct,osl,rfl,lk,hcd⟩:=F.ex;refine fn_of lk hcd S len fun A outer s H vs Q E hr hsp => ?_;obtain ⟨t,h,q⟩:=hbody cdv A outer s H vs Q E hr hsp;exact ⟨t,h.nox,q⟩
theorem Fun.binds {x qual:Str}{st:Stmt}{f:Addr}{fd:FuncData}{ps:List Str}(F:Fun K x qual st f fd)
  (h:∀ (kV doc pm:Value) (an:Option Addr) (cdv ct:Value) (us:List Value),us.length=ps.length→bindArgs (PySem.W.fnOf x qual (pQ st) (fQ st) (kQ st) .none kV doc pm an cdv ct) ⟨us,[]⟩=pure (ps.zip us)):Binds K fd ps []:=by
 obtain ⟨oc,od,kV,doc,pm,an,cdv,ct,osl,rfl,lk,hcd⟩:=F.ex;exact .all (h kV doc pm an cdv ct)
theorem eX {x qual:Str}{st:Stmt}{f:Addr}{oc:Value}{od an:Option Addr}{osl:Array (Option Value)}{kV doc pm cdv ct:Value}(l:K.lookup f=some ⟨oc,od,.func (PySem.W.fnOf x qual (pQ st) (fQ st) (kQ st) .none kV doc pm an cdv ct),osl⟩)
  (c:PySem.W.codeIn K cdv qual=true) (k:PySem.W.keepIn K (.ref f)=true):Fun K x qual st f (PySem.W.fnOf x qual (pQ st) (fQ st) (kQ st) .none kV doc pm an cdv ct):=⟨⟨oc,od,kV,doc,pm,an,cdv,ct,osl,rfl,l,c⟩,k⟩
end
theorem vZ {A:Around}{k:Nat}(hr:Room k A):A.units+1 < cLine:=Nat.lt_of_le_of_lt (Nat.add_le_add_left (by decide:1≤64) _) hr.units
section
variable {X:Cx}
theorem pv (i:Nat) {x:Str}{pos:Pos}(hN:X.N[i]?=some x:=by rfl) (hv:Vis X.env.scope x:=by first | exact Or.inl rfl | exact Or.inr (Or.inl rfl) | exact Or.inr (Or.inr rfl)) (hd:(x==("__debug__" : Str))=false:=by decide)
  (hcd:(x==("__classdict__" : Str))=false:=by decide):PE X (.Name x pos) (tVar i):=VW hN hv hd hcd
end
def Same (H H':Hp):Prop:=∀ b o,H b=some o→H' b=some o
theorem Same.refl (H:Hp):Same H H:=fun _ _ h=>h
section
variable {X:Cx}
theorem K2:CallR X (.builtin "len") (fun xs H Q=>∃ a kvs,xs=[V.ref a]∧H a=some (.dK kvs)∧Q (.int kvs.length) H):=by
 intro pins s σ H xs us Q I r h;obtain ⟨a,kvs,rfl,ha,q⟩:=h;obtain ⟨u,rfl,ru⟩:=kL r;cases ru;exact d_len I (.inl ha) fun t s' I'=>⟨.int kvs.length,H,I',⟨t,rfl⟩,q⟩
end
def tX:Expr→Bool
 | .Starred _ _=>false
 | _=>true
theorem pK {e:Expr}{es:List Expr}{env:Env}(h:tX e=true):starEach (e::es) env=(false,eval e env)::starEach es env:=by
 cases e<;>first | rfl | exact absurd h Bool.false_ne_true
theorem dM {pos:Pos}{env:Env}:∀ {es:List Expr},es.all tX=true→(backTo pos (starEach es env)).any (·.1)=false
 | [],_=>rfl
 | e::es,h=>by
  rw [List.all_cons,Bool.and_eq_true] at h;rw [pK h.1];show (false || (backTo pos (starEach es env)).any (·.1))=false;rw [dM h.2]
  rfl
section
variable {X:Cx}{e:Expr}{es:List Expr}{te:TE}{t:TA}{x:Str}{p pos:Pos}
theorem qa_cons (ha:PE X e te) (hr:PA X es t) (hs:tX e=true:=by rfl):PA X (e::es) (Vu te t):=pa_cons ha hr (pK hs)
theorem qe_call {CX:CXT}{k:Nat}{f:Addr}{fd:FuncData}{ps:List Str}{sp:Sp}{dvs:List V}{ds:List Value}{E:XK}(F:FnOk X.prog X.w X.K X.mg X.base CX k f fd ps sp) (hr:Room k X.A) (hg:Gl X x) (hm:X.mg x=some (.ref f)) (hk:PySem.W.keepIn X.K (.ref f)=true) (hb:Binds X.K fd ps ds) (hd:Vals dvs ds) (hx:wN CX X E)
  (ha:PA X (e::es) t) (hdb:(x==("__debug__" : Str))=false:=by decide) (hs:tX e=true:=by rfl) (hall:es.all tX=true:=by rfl):PE X (.Call (.Name x p) (e::es) [] pos) (Vv sp dvs E t) :=
 pe_call F hr hg hm hk hb hd hx ha hdb (pK hs) (dM hall)
theorem VI {id:String}{r:List V→Hp→VK→Prop}(hc:CallR X (.builtin id) r) (hg:Gl X x) (hm:X.mg x=none) (hv:bootBuiltins x=some (.builtin id)) (ha:PA X (e::es) t) (hn:x ≠ "__name__" := by decide) (hdb:(x==("__debug__" : Str))=false:=by decide)
  (hs:tX e=true:=by rfl) (hall:es.all tX=true:=by rfl):PE X (.Call (.Name x p) (e::es) [] pos) (tCB r t):=V2 hc hg hm hv ha hn hdb (pK hs) (dM hall)
theorem Kb {T:String}{r:List V→Hp→VK→Prop}(hc:CallR X (.type T) r) (hg:Gl X x) (hm:X.mg x=none) (hv:bootBuiltins x=some (.type T)) (ha:PA X (e::es) t) (hn:x ≠ "__name__" := by decide) (hdb:(x==("__debug__" : Str))=false:=by decide)
  (hs:tX e=true:=by rfl) (hall:es.all tX=true:=by rfl):PE X (.Call (.Name x p) (e::es) [] pos) (tCB r t):=Kg hc hg hm hv ha hn hdb (pK hs) (dM hall)
end
section
variable {prog:Program}{w:World}{A:Around}{R:Result→Shared→Prop}{s:Shared}
theorem uP {elt target iter:Expr}{ifs:List Expr}{scope:Scope}{pos:Pos}{it acc:Value}{env:Env}(I:Nat→Shared→Prop)
  (turn:∀ n s,I n s→wpAny (model prog w) A (pyNext it) (fun r s₁=>match r with
   | none=>R (.ok .next) s₁
   | some v=>wpAny (model prog w) A (letOwnedTupleGo target it v) (fun _ s₁=>wpAny (model prog w) A (assign target env v) (fun _ s₂ =>
     wpAny (model prog w) A (forIn ifs true fun c r=>if r=true then do let ok ← isTrue c env (eval c env); pure (ForInStep.yield ok) else pure (ForInStep.yield r)) (fun ok s₃ =>
      if ok=true then wpAny (model prog w) A (eval elt env) (fun x s₄ =>
       wpAny (model prog w) A (call (.builtin "list.append") [acc,x]) (fun _ s₅=>∃ m,m < n∧I m s₅) (fun _ _=>False) s₄) (fun _ _=>False) s₃
      else ∃ m,m < n∧I m s₃) (fun _ _=>False) s₂) (fun _ _=>False) s₁) (fun _ _=>False) s₁) (fun _ _=>False) s)
  (n:Nat) (h:I n s) :
  codeAny (model prog w) A (.compLoop (.ListComp elt [⟨target,iter,ifs,0⟩] scope pos) 0 it acc env) R s:=by
 refine codeAny_loop rfl I (fun n s hI => ?_) n h;show wpAny _ A ((compTurn (.ListComp elt [⟨target,iter,ifs,0⟩] scope pos) 0 it acc env).onRaise (fun x=>do noteFrame x env; theTreesLotGoes x)) _ _ s;refine wpAny_noted ?_;rw [compTurn_list];refine wpAny_bind (wpAny_standAt (wpAny_bind (wpAny_mono (turn n s hI) (fun r s₁ h₁ => ?_) fun _ _ h'=>False.elim h')))
 cases r with
 | none=>exact wpAny_pure h₁
 | some v =>
  refine wpAny_bind (wpAny_mono h₁ (fun _ s₁' h₁' => ?_) fun _ _ h'=>False.elim h');refine wpAny_bind (wpAny_mono h₁' (fun _ s₂ h₂=>wpAny_bind (wpAny_mono h₂ (fun ok s₃ h₃ => ?_) fun _ _ h'=>False.elim h')) fun _ _ h'=>False.elim h')
  cases ok with
  | false=>exact wpAny_pure ⟨rfl,h₃⟩
  | true =>
   exact wpAny_bind (wpAny_bind (wpAny_mono h₃ (fun x s₄ h₄=>wpAny_bind (wpAny_mono h₄ (fun _ s₅ h₅=>wpAny_pure (wpAny_pure ⟨rfl,h₅⟩)) fun _ _ h'=>False.elim h')) fun _ _ h'=>False.elim h'))
end
theorem rZ {env:Env}:∀ {names:List (Str×NameKind)}{y:Str}{k:NameKind},
  (names.map fun (n,k)=>if (k==NameKind.free&&env.scope.kind==.function&&env.kindOf n==some .cell) then (n,NameKind.cell) else (n,k)).lookup y=some k →
   ∃ k0,(y,k0)∈names∧(k=k0∨(k0=.free∧k=.cell))
 | [],_,_,h=>by simp at h
 | (n,k1)::r,y,k,h=>by
  have ih:=@rZ env r y k;have h:List.lookup y ((if (k1==NameKind.free&&env.scope.kind==.function&&env.kindOf n==some .cell)=true then (n,NameKind.cell) else (n,k1))::_)=some k:=h
  cases hx:y==n with
  | true =>
   have e:y=n:=by simpa using hx
   subst e
   by_cases hc:(k1==NameKind.free&&env.scope.kind==.function&&env.kindOf y==some .cell)=true
   ·rw [if_pos hc] at h
    simp only [List.lookup_cons,beq_self_eq_true] at h
    have hk:k1=.free:=by
     rw [Bool.and_eq_true,Bool.and_eq_true] at hc;exact beq_iff_eq.mp hc.1.1
    exact ⟨k1,List.mem_cons_self,.inr ⟨hk,(Option.some.inj h).symm⟩⟩
   ·rw [if_neg hc] at h
    simp only [List.lookup_cons,beq_self_eq_true] at h
    exact ⟨k1,List.mem_cons_self,.inl (Option.some.inj h).symm⟩
  | false =>
   have h2:(r.map fun (n,k)=>if (k==NameKind.free&&env.scope.kind==.function&&env.kindOf n==some .cell) then (n,NameKind.cell) else (n,k)).lookup y=some k:=by
    by_cases hc:(k1==NameKind.free&&env.scope.kind==.function&&env.kindOf n==some .cell)=true
    ·rw [if_pos hc] at h; simp only [List.lookup_cons,hx] at h; exact h
    ·rw [if_neg hc] at h; simp only [List.lookup_cons,hx] at h; exact h
   obtain ⟨k0,m,q⟩:=ih h2;exact ⟨k0,List.mem_cons_of_mem _ m,q⟩
def ZX (X:Cx) (ifs:List Expr) (t:TT):Prop :=
 ∀ (pins:List (Addr×Obj)) (s:Shared) (σ:St) (H:Hp) (Q:Bool→Hp→Prop),Inv X pins σ H s→t σ H Q →
  wpAny (model X.prog X.w) X.A (forIn ifs true fun c r=>if r=true then do let ok ← isTrue c X.env (eval c X.env); pure (ForInStep.yield ok) else pure (ForInStep.yield r)) (TP X pins σ Q) X.xe s
def tYes:TT:=fun _ H Q=>Q true H
theorem VT {X:Cx}:ZX X [] tYes:=fun _ _ _ H _ I h=>wpAny_tests_nil ⟨H,I,h⟩
theorem VS {X:Cx}{c:Expr}{t:TT}(h:PT X c t):ZX X [c] t:=fun pins s σ H Q I hw=>wpAny_tests_one (h pins s σ H Q I hw)
def pZ (X:Cx) (x:Str) (scope:Scope) (cl:List (Str×Addr)) (fp:List Addr) (C:Addr) (s₂:Shared) (H₂:Hp):Cx where
 prog:=X.prog
 w:=X.w
 K:=X.K
 mg:=X.mg
 base:=X.base
 A:=X.A
 N:=x::X.N
 s₀:=s₂
 H₀:=H₂
 env:=compEnvC scope cl C X.env
 outer:=X.stack
 stack:=X.stack
 ex:=fp
 fn:=fun _=>false
 calm:=X.calm
 pn:=[]
 xe:=fun _ _=>False
def Z6 (wi:TI) (tc:TT) (te:TE):TE:=fun σ H Q=>wi σ H fun J H1=>∀ D,H1 D=none→∃ W:Nat→Nat→List V→Hp→Prop,(∃ m,W 0 m [] (upd H1 D (.lst [])))∧∀ i m ys H,W i m ys H →
 (J.stop i H∧Q (.ref D) H)∨(J.go i H∧∀ x H',J.yld i H x H'→tc (some x::σ) H' fun b H2 =>
  if b=true then te (some x::σ) H2 fun y H3=>H3 D=some (.lst ys)∧ys.length < sizeLine∧∃ m',m' < m∧W (i+1) m' (ys++[y]) (upd H3 D (.lst (ys++[y])))
  else ∃ m',m' < m∧W (i+1) m' ys H2)
section
variable {X:Cx}
structure yM (X:Cx) (x:Str) (scope:Scope) (cl:List (Str×Addr)):Prop where
 clos:closureFor scope X.env=pure cl
 cell:∀ y∈scope.names,y.2≠.cell
 kind:scope.kind=.function
 names:∀ y∈scope.names,y.2=.local→scope.names.lookup y.1=some .local
 hx:scope.names.lookup x=some .local
 loc:∀ y∈scope.names,y.2=.local→y.1∉X.N
 free:∀ y∈scope.names,y.2=.free→X.env.kindOf y.1≠some .local∧(X.env.kindOf y.1=some .cell∨X.env.kindOf y.1=some .free)∧∃ c,cl.lookup y.1=some c
 cl:∀ y c,cl.lookup y=some c→X.env.cells.lookup y=some c
theorem ZO {elt iter:Expr}{x:Str}{px pos:Pos}{ifs:List Expr}{scope:Scope}{cl:List (Str×Addr)}{tc:TT}{te:TE}{RR:Value→Addr→Result→Shared→Prop}{EE:Value→Shared→Prop}
  (hc:X.calm=true) (hN:(x::X.N).Nodup) (K:yM X x scope cl)
  (ht:∀ fp C s₂ H₂,ZX (pZ X x scope cl fp C s₂ H₂) ifs tc) (he:∀ fp C s₂ H₂,PE (pZ X x scope cl fp C s₂ H₂) elt te)
  {pins:List (Addr×Obj)} {σ:St} {s₂:Shared} {H₂:Hp} {it:Addr} {fp:List Addr} {tn:Nat→Heap→Prop} {J:It} {Q:VK}
  (I₂:Inv X pins σ H₂ s₂) (T:X8 X.prog X.w X.K (.Name x px) J fp it tn) (st₂:tn 0 s₂.heap) (f₂:∀ b∈fp,tE X pins H₂ b)
  (R:∀ D,H₂ D=none→∃ W:Nat→Nat→List V→Hp→Prop,(∃ m,W 0 m [] (upd H₂ D (.lst [])))∧∀ i m ys H,W i m ys H →
   (J.stop i H∧Q (.ref D) H)∨(J.go i H∧∀ x H',J.yld i H x H'→tc (some x::σ) H' fun b H2 =>
    if b=true then te (some x::σ) H2 fun y H3=>H3 D=some (.lst ys)∧ys.length < sizeLine∧∃ m',m' < m∧W (i+1) m' (ys++[y]) (upd H3 D (.lst (ys++[y])))
    else ∃ m',m' < m∧W (i+1) m' ys H2))
  (hRR:∀ (D C:Addr) (H:Hp) (s4:Shared) (m:Str→Option Value),s4.heap.Ns C m→C≠X.env.locals→H C=none→(∀ x c,X.env.cells.lookup x=some c→c≠C)→s₂.heap.objs.size≤C→Inv X pins σ H s4 →
   Q (.ref D) H→RR (.ref D) C (.ok .next) s4) :
  wpAny (model X.prog X.w) X.A (newList []) (fun acc s₃=>wpAny (model X.prog X.w) X.A (newFunctionEnv scope X.env.globals cl [] X.env.qual none .none (some X.env)) (fun cenv s₄ =>
   codeAny (model X.prog X.w) X.A (.compStart (.ListComp elt [⟨.Name x px,iter,ifs,0⟩] scope pos) 0 (.ref it) acc { cenv with scope:=relabel scope X.env }) (RR acc cenv.locals) s₄) EE s₃) EE s₂:=by
 refine wpAny_newObj_type (wpAny_newFunctionEnv K.cell (by intro y hy; simp at hy) (fun h₁ hns₁ hsb₁ => ?_) K.kind);dsimp only at hns₁ hsb₁ ⊢;generalize hH2:s₂.heap.push { cls:=.type "list",dict:=none,data:=.seq ([]:List Value).toArray }=H2 at hns₁ hsb₁ ⊢;have hC:H2.objs.size=s₂.heap.objs.size+1:=by rw [← hH2,Heap.size_push]
 have hDC:s₂.heap.objs.size≠H2.objs.size:=by rw [hC]; exact Nat.ne_of_lt (Nat.lt_succ_self _)
 have below:∀ b,b < s₂.heap.objs.size→b≠H2.objs.size∧b≠s₂.heap.objs.size:=fun b hb=>⟨by rw [hC]; exact Nat.ne_of_lt (Nat.lt_succ_of_lt hb),Nat.ne_of_lt hb⟩;have old:∀ b o,s₂.heap.get? b=some o→h₁.get? b=some o:=fun b o e=>hsb₁.extBut b o (below b (Heap.lt_size e)).1 (Heap.get?_push_of_some _ (hH2▸Heap.get?_push_of_some _ e));have hacc:h₁.get? s₂.heap.objs.size=some { cls:=.type "list",dict:=none,data:=.seq ([]:List Value).toArray }:=hsb₁.extBut _ _ hDC (Heap.get?_push_of_some _ (hH2▸Heap.get?_push_size _ rfl))
 have fD:H₂ s₂.heap.objs.size=none:=I₂.hok.fresh (Nat.le_refl _);have fC:H₂ H2.objs.size=none:=I₂.hok.fresh (by rw [hC]; exact Nat.le_succ _);have fpLt:∀ b∈fp,b < s₂.heap.objs.size:=fun b hb=>let ⟨o,e,_⟩:=T.obj _ _ st₂ b hb; Heap.lt_size e
 obtain ⟨W,⟨m0,w0⟩,turn⟩:=R s₂.heap.objs.size fD
 have okX:(pZ X x scope cl fp H2.objs.size s₂ H₂).Ok:=by
  refine ⟨I₂.ok.mod,K.kind,I₂.ok.glob,I₂.ok.blt,?_,fun y z c h1 h2=>I₂.ok.inj y z c (K.cl y c h1) (K.cl z c h2),fun y hy => ?_,fun y c h _ => ?_,I₂.ok.hd,I₂.ok.frames,.inl rfl,fun b hb=>⟨(below b (fpLt b hb)).1,fun y c h=>(f₂ b hb).2.2.2.2.1 y c (K.cl y c h)⟩,I₂.bs,
   Nat.le_trans I₂.ok.bsz I₂.sz,fun b o e hb => ?_,fun b hb z => ?_,I₂.stack,I₂.stkFree⟩
  ·show s₂.heap.objs.size≤H2.objs.size
   rw [hC]; exact Nat.le_succ _
  ·have hy':(scope.names.map fun (n,k)=>if (k==NameKind.free&&X.env.scope.kind==.function&&X.env.kindOf n==some .cell) then (n,NameKind.cell) else (n,k)).lookup y=some .cell ∨
     (scope.names.map fun (n,k)=>if (k==NameKind.free&&X.env.scope.kind==.function&&X.env.kindOf n==some .cell) then (n,NameKind.cell) else (n,k)).lookup y=some .free:=hy
   have fr:(y,NameKind.free)∈scope.names:=by
    rcases hy' with q | q
    ·obtain ⟨k0,hm,z | ⟨z,_⟩⟩:=rZ q
     ·subst z; exact absurd rfl (K.cell _ hm)
     ·subst z; exact hm
    ·obtain ⟨k0,hm,z | ⟨z,w⟩⟩:=rZ q
     ·subst z; exact hm
     ·cases w
   exact (K.free _ fr rfl).2.2
  ·exact absurd (show false=true from h) Bool.false_ne_true
  ·obtain ⟨_,_,_,f3,_⟩:=f₂ b hb
   rcases f3 with z | z
   ·exact I₂.ok.noex b o e z
   ·exact absurd (Nat.lt_of_lt_of_le (Heap.lt_size (I₂.ok.bs b o e).1) z) (Nat.lt_irrefl _)
  ·obtain ⟨_,f1,f2',_⟩:=f₂ b hb
   rcases List.mem_cons.mp (I₂.stkSub b z) with q | q
   ·exact f1 q
   ·exact f2' q
 have hDne:∀ b,H₂ b≠none→b≠s₂.heap.objs.size:=fun b hb z=>hb (z▸fD);have ldD:HOk X.prog X.w (upd H₂ s₂.heap.objs.size (.lst [])) h₁:=I₂.hok.laid old (Nat.le_refl _) ⟨Nat.zero_le _,[],_,.nil,hacc⟩
 have visFree:∀ y,Vis (relabel scope X.env) y→y∈X.N→(y,NameKind.free)∈scope.names∧((relabel scope X.env).names.lookup y=some .cell∨(relabel scope X.env).names.lookup y=some .free):=by
  intro y hv hne
  rcases hv with q | q | q
  ·obtain ⟨k0,hm,z | ⟨z,w⟩⟩:=rZ (env:=X.env) (show (scope.names.map _).lookup y=_ from q)
   ·subst z; exact absurd hne (K.loc _ hm rfl)
   ·cases w
  ·obtain ⟨k0,hm,z | ⟨z,w⟩⟩:=rZ (env:=X.env) (show (scope.names.map _).lookup y=_ from q)
   ·subst z; exact absurd rfl (K.cell _ hm)
   ·subst z; exact ⟨hm,.inl q⟩
  ·obtain ⟨k0,hm,z | ⟨z,w⟩⟩:=rZ (env:=X.env) (show (scope.names.map _).lookup y=_ from q)
   ·subst z; exact ⟨hm,.inr q⟩
   ·cases w
 have I':∀ tk,Inv (pZ X x scope cl fp H2.objs.size s₂ H₂) [] (none::σ) (upd H₂ s₂.heap.objs.size (.lst [])) { s₂ with heap:=h₁,toks:=tk }:=by
  intro tk;refine ⟨okX,rfl,I₂.bare,Un.laid old (Nat.le_refl _) fD,⟨_,hns₁,fun i y v h1 h2 h3 => ?_⟩,fun y c h => ?_,?_,fun y c h => ?_,fun p hp=>absurd hp (by simp [pZ]),ldD,?_⟩
  ·cases i with
   | zero=>simp at h2
   | succ i =>
    have h1':X.N[i]?=some y:=by simpa [pZ] using h1
    have h2':σ[i]?=some (some v):=by simpa using h2
    have hne:y∈X.N:=List.mem_of_getElem? h1';obtain ⟨fm,kk⟩:=visFree y h3 hne;obtain ⟨nl,vz,c,hcl⟩:=K.free _ fm rfl;obtain ⟨mm,hn,hl⟩:=I₂.loc;obtain ⟨u,ru,l⟩:=hl i y v h1' h2' (vz.elim (fun z=>.inr (.inl z)) fun z=>.inr (.inr z))
    rcases l with ⟨z,_⟩ | ⟨_,c',hc',hcell⟩
    ·exact absurd z nl
    ·have ec:c'=c:=Option.some.inj (hc'.symm.trans (K.cl _ _ hcl))
     subst ec;obtain ⟨o,ho,hd⟩:=hcell;exact ⟨u,ru,.inr ⟨kk,c',hcl,o,old _ _ ho,hd⟩⟩
  ·obtain ⟨v,o,ho,hd⟩:=I₂.cell y c (K.cl y c h)
   exact ⟨v,o,old _ _ ho,hd⟩
  ·show upd H₂ _ _ H2.objs.size=none
   rw [aQ (Ne.symm hDC)]; exact fC
  ·show upd H₂ _ _ c=none
   obtain ⟨v,o,ho,hd⟩:=I₂.cell y c (K.cl y c h);rw [aQ (below c (Heap.lt_size ho)).2]; exact I₂.freeC y c (K.cl y c h)
  ·show (none::σ).length=(x::X.N).length
   rw [List.length_cons,List.length_cons,I₂.len]
 have stat:∀ {H':Hp},(∀ b∈fp,H' b=none)→∀ b∈fp,tE (pZ X x scope cl fp H2.objs.size s₂ H₂) [] H' b:=fun hn b hb =>
  ⟨hn b hb,(okX.exf b hb).1,okX.exfs b hb,.inl hb,(okX.exf b hb).2,fun p hp=>absurd hp (by simp [pZ])⟩
 have tn₁:tn 0 h₁:=T.keep _ _ _ st₂ fun b _ o e=>old b o e;have fp₁:∀ b∈fp,upd H₂ s₂.heap.objs.size (.lst []) b=none:=fun b hb=>by rw [aQ (below b (fpLt b hb)).2]; exact (f₂ b hb).1
 have loop:∀ s₃:Shared,(∃ tk,s₃={ s₂ with heap:=h₁,toks:=tk }) →
   codeAny (model X.prog X.w) X.A (.compLoop (.ListComp elt [⟨.Name x px,iter,ifs,0⟩] scope pos) 0 (.ref it) (.ref s₂.heap.objs.size) (compEnvC scope cl H2.objs.size X.env))
    (RR (.ref s₂.heap.objs.size) H2.objs.size) s₃:=by
  rintro s₃ ⟨tk,rfl⟩
  refine uP (fun n s'=>∃ i ys H' v0,Inv (pZ X x scope cl fp H2.objs.size s₂ H₂) [] (v0::σ) H' s'∧tn i s'.heap∧(∀ b∈fp,H' b=none)∧W i n ys H') ?_ m0
   ⟨0,[],_,none,I' tk,tn₁,fp₁,w0⟩
  rintro n s3 ⟨i,ys,H3,v0,I3,st3,fr3,w3⟩
  rcases turn i n ys H3 w3 with ⟨stop,qn⟩ | ⟨go,step⟩
  ·refine thn (T.done (pZ X x scope cl fp H2.objs.size s₂ H₂) rfl rfl rfl hc i [] s3 (v0::σ) H3 (fun _ _=>False) I3 (stat fr3) st3 stop) fun r s4 ⟨hr,I4⟩ => ?_
   subst hr;show RR _ _ (.ok .next) s4;obtain ⟨m,hn,_⟩:=I4.loc;have un:=I4.base;have os4:s4.os=s₂.os:=I4.os;refine hRR _ _ H3 s4 m hn ?_ I4.free (fun y c h z => ?_) (by rw [hC]; exact Nat.le_succ _) ?_ qn
   ·exact Ne.symm (below _ I₂.lt).1
   ·obtain ⟨v,o,ho,hd⟩:=I₂.cell y c h
    exact (below c (Heap.lt_size ho)).1 z
   ·obtain ⟨hh,g,d,t,os'⟩:=s4
    obtain rfl:os'=s₂.os:=os4;exact I₂.call (h':=hh) (g':=g) (d':=d) (t':=t) (ch:=fp) un I4.hok I4.bare fun b hb=>⟨(f₂ b hb).2.2.2.1,(f₂ b hb).2.1,(f₂ b hb).2.2.2.2.1,(f₂ b hb).2.2.2.2.2⟩
  ·refine thn (T.item (pZ X x scope cl fp H2.objs.size s₂ H₂) rfl rfl rfl hc i [] s3 (v0::σ) H3 (fun _ _=>False) I3 (stat fr3) st3 go) fun r s4 ⟨u,hr,h4⟩ => ?_
   subst hr;refine thn h4 fun _ s5 ⟨x5,H5,I5,r5,y5,st5,fr5⟩ => ?_;have I5':=I5.pinned (stat fr5) (T.obj _ _ st5);have hg:PG (pZ X x scope cl fp H2.objs.size s₂ H₂) (.Name x px) (uM 0):=wB (i:=0) (x:=x) hN rfl (.inl (lookup_relabel_local K.hx)) (.inr (lookup_relabel_local K.hx))
   have again:∀ {H':Hp} {s':Shared} {v:Option V},Inv (pZ X x scope cl fp H2.objs.size s₂ H₂) ([]++zH fp s5.heap) (v::σ) H' s'→tn (i+1) s'.heap∧∀ b∈fp,H' b=none:=fun I7 =>
    ⟨T.keep _ _ _ st5 fun b hb o e=>(I7.pin (b,o) (List.mem_append_right _ (List.mem_append_right _ (lW hb e)))).1,fun b hb=>by
     obtain ⟨o,e,d⟩:=T.obj _ _ st5 b hb
     exact (I7.pin (b,o) (List.mem_append_right _ (List.mem_append_right _ (lW hb e)))).2.1⟩
   refine thn (hg _ s5 (v0::σ) H5 x5 u (fun σ' H'=>σ'=some x5::σ∧H'=H5) I5' r5 ⟨rfl,rfl⟩) fun _ s6 ⟨σ6,H6,I6,e6,e6'⟩ => ?_;subst e6 e6';refine thn (ht fp _ s₂ H₂ _ s6 (some x5::σ) H6 _ I6 (step x5 H6 y5)) fun ok s7 ⟨H7,I7,q7⟩ => ?_
   cases ok with
   | false =>
    rw [if_neg Bool.false_ne_true] at q7;rw [if_neg Bool.false_ne_true];obtain ⟨m',hm,w7⟩:=q7;obtain ⟨k1,k2⟩:=again I7;exact ⟨m',hm,i+1,ys,H7,some x5,I7.unpinned,k1,k2,w7⟩
   | true =>
    rw [if_pos rfl] at q7;rw [if_pos rfl];refine thn (he fp _ s₂ H₂ _ s7 (some x5::σ) H7 _ I7 q7) fun y s8 ⟨y8,H8,I8,r8,hD8,hl8,m',hm,w8⟩ => ?_;refine thn (pJ (X:=pZ X x scope cl fp H2.objs.size s₂ H₂) _ s8 _ H8 (.ref s₂.heap.objs.size) [y8] (.ref s₂.heap.objs.size) [y] (fun _ H9=>H9=upd H8 s₂.heap.objs.size (.lst (ys++[y8]))) I8 rfl (.cons r8 .nil) ⟨_,ys,y8,rfl,rfl,hD8,hl8,rfl⟩) fun _ s9 ⟨_,H9,I9,_,e9⟩ => ?_
    subst e9;obtain ⟨k1,k2⟩:=again I9;exact ⟨m',hm,i+1,ys++[y8],_,some x5,I9.unpinned,k1,k2,w8⟩
 exact codeAny_compStart_list (loop _ ⟨_,rfl⟩) (T.self _ 0 _ _ _ tn₁ (loop _ ⟨_,rfl⟩))
theorem pe_comp {elt iter:Expr}{x:Str}{px pos:Pos}{ifs:List Expr}{scope:Scope}{cl:List (Str×Addr)}{wi:TI}{tc:TT}{te:TE}
  (hc:X.calm=true) (hN:(x::X.N).Nodup) (K:yM X x scope cl) (hi:PI X (.Name x px) iter wi)
  (ht:∀ fp C s₂ H₂,ZX (pZ X x scope cl fp C s₂ H₂) ifs tc) (he:∀ fp C s₂ H₂,PE (pZ X x scope cl fp C s₂ H₂) elt te)
  (hs:∀ v,foldedSetIterable iter X.env v=pure v:=by intro _; rfl):PE X (.ListComp elt [⟨.Name x px,iter,ifs,0⟩] scope pos) (Z6 wi tc te):=by
 intro pins s σ H Q I h;rw [eval_ListComp];refine wpAny_comprehension_free (use:=none) rfl hs K.clos K.kind K.names (thn (hi pins s σ H _ I h) fun xv s₁ h₁=>thn h₁ fun itv s₂ h₂ => ?_);obtain ⟨it,fp,tn,J,H₂,e,I₂,T,st₂,f₂,R⟩:=h₂;subst e;refine ZO hc hN K ht he I₂ T st₂ f₂ R ?_;intro D C H s4 m hn hCL hC0 hCc hCsz I4 q;refine ⟨m,hn,fun h' hsb=>⟨.ref D,H,?_,rfl,q⟩⟩;refine I4.turned (it:=C) (t':=s4.toks) (fun b o hb e=>(hsb.2 b hb).trans e) hC0 hCL (.inr (Nat.le_trans I₂.sz hCsz)) hCc fun p hp z => ?_
 exact absurd (Nat.lt_of_lt_of_le (Heap.lt_size (I₂.pin p hp).1) (by rw [z]; exact hCsz)) (Nat.lt_irrefl _)
end
theorem K6 (ys:List Bool):((List.range ys.length).all fun i=>(ys[i]?).getD false)=ys.all id:=by
 rw [Bool.eq_iff_iff,List.all_eq_true,List.all_eq_true]
 constructor
 ·intro h b hb
  obtain ⟨i,hi⟩:=List.mem_iff_getElem?.mp hb;have hl:i < ys.length:=(List.getElem?_eq_some_iff.mp hi).1;have:=h i (List.mem_range.mpr hl);rw [hi] at this;exact this
 ·intro h i hi
  have hl:i < ys.length:=List.mem_range.mp hi;rw [List.getElem?_eq_getElem hl];exact h _ (List.getElem_mem hl)
section
variable {X:Cx}
theorem Yq (hc:X.calm=true):CallR X (.builtin "all") (fun xs H Q=>∃ p ys,xs=[.ref p]∧SqL X.K H p (List.map V.bl ys)∧Q (.bl (ys.all id)) H):=by
 intro pins s σ H xs us Q I r h;obtain ⟨p,ys,rfl,hq,q⟩:=h;obtain ⟨u,rfl,rx⟩:=kL r;cases rx;obtain ⟨its,rv,pl,hz⟩:=I.list hq;have hlen:its.length=ys.length:=by rw [← rv.length,List.length_map]
 obtain ⟨o,n,ho,_⟩:=id pl;have hlt:p < s.heap.objs.size:=Heap.lt_size ho;refine call_all_walk (wpAny_pyIter_list pl.isList ?_);refine ⟨s.heap.objs.size,_,_,_,_,_,fun i=>(ys[i]?).getD false,rfl,Walks.list (A:=X.A.in1) (I.ok.hd hc) s.heap.objs.size p (Nat.ne_of_lt hlt) its.toArray,⟨⟨_,Heap.get?_push_size _ rfl,rfl,rfl⟩,pl.isList.push _⟩,fun i v s' Q' E' hP hQ => ?_,fun h' tk kk => ?_⟩
 ·have hv:its[i]?=some v:=by simpa using hP
  have hi:i < ys.length:=by rw [← hlen]; exact (List.getElem?_eq_some_iff.mp hv).1
  have hy:(List.map V.bl ys)[i]?=some (.bl ys[i]):=by rw [List.getElem?_map,List.getElem?_eq_getElem hi]; rfl
  obtain ⟨u,hu,ru⟩:=rv.get hy;rw [hv] at hu;cases hu;cases (show v=Value.bool ys[i] from ru);have hQ:Q' ((ys[i]?).getD false) s':=hQ;rw [List.getElem?_eq_getElem hi] at hQ;exact wpAny_truthy_bool hQ
 ·have I1:Inv X pins σ H { s with heap:=h',toks:=tk }:=I.kept fun b o e=>kk b o (by intro z; exact absurd (Heap.lt_size e) (by rw [List.mem_singleton.mp z]; exact Nat.lt_irrefl _)) (Heap.get?_push_of_some _ e)
  have e:((List.range its.toArray.size).all fun i=>(ys[i]?).getD false)=ys.all id:=by rw [List.size_toArray,hlen,K6]
  rw [e];exact ⟨.bl (ys.all id),H,I1,rfl,q⟩
inductive Ty where
 | non | bl | int | str | lst | tup | dct
 deriving DecidableEq
def pM:Ty→String
 | .non => "NoneType" | .bl => "bool" | .int => "int" | .str => "str" | .lst => "list" | .tup => "tuple" | .dct => "dict"
def tyH:HO→Option Ty
 | .lst _=>some .lst
 | .frz _ (.lst _)=>some .lst
 | .tup _=>some .tup
 | .dK _=>some .dct
 | .dT _=>some .dct
 | _=>none
def tyN (H:Hp):V→Option Ty
 | .non=>some .non
 | .bl _=>some .bl
 | .int _=>some .int
 | .str _=>some .str
 | .ref a=>(H a).bind tyH
 | _=>none
theorem tyOf_of {K:PySem.W.Frag}{H:Hp}{x:V}{n:Ty}(h:tyN H x=some n):kN K H x (.type (pM n)):=by
 cases x with
 | non=>cases h; exact .non
 | bl b=>cases h; exact .bl b
 | int i=>cases h; exact .int i
 | str z=>cases h; exact .str z
 | ref a =>
  have h:(H a).bind tyH=some n:=h
  cases e:H a with
  | none=>rw [e] at h; cases h
  | some o =>
   rw [e] at h;have h:tyH o=some n:=h
   cases o with
   | lst xs=>cases h; exact .lst e
   | tup xs=>cases h; exact .tup e
   | dK kvs=>cases h; exact .dK e
   | dT kvs=>cases h; exact .dT e
   | frz ob u =>
    cases u with
    | lst xs=>cases h; exact .frz e
    | _=>cases h
   | _=>cases h
 | byt b=>cases h
 | flt b=>cases h
 | ty n=>cases h
def yG:Ty→Ty→Bool
 | .bl,.int=>true
 | a,b=>decide (a=b)
theorem kit_all (K:PySem.W.Frag) (n T:Ty):PySem.W.kitOne K (.type (pM n)) (.type (pM T))=some (yG n T):=by
 cases n<;>cases T<;>with_unfolding_all rfl
theorem xY:CallR X (.builtin "isinstance") (fun xs H Q=>∃ x T n,xs=[x,.ty (pM T)]∧tyN H x=some n∧Q (.bl (yG n T)) H):=by
 intro pins s σ H xs us Q I r h;obtain ⟨x,T,n,rfl,hn,q⟩:=h;obtain ⟨u,w',rfl,rx,rT⟩:=QU r;cases (show w'=Value.type (pM T) from rT);exact KI I rx (tyOf_of hn) (kit_all X.K n T) fun tk=>⟨.bl (yG n T),H,I.tok tk,rfl,q⟩
theorem Xh:OpR X (binaryOp .FloorDiv) (rI (fun _ j=>0 < j∧j < 18446744073709551616) fun i j=>.int (i / j)):=opI fun i j _ _ _ _ _ hc q=>by
 have h1:(0:Int) < j:=hc.1;have h2:j < 18446744073709551616:=hc.2;refine floordiv_int (by omega) (by rw [Int.fdiv_eq_ediv_of_nonneg i (by omega)]; exact q) (.inl (PyProof.noPylong_of_log2 ?_))
 have h3:j.natAbs < 2 ^ 64:=by
  have:(2:Nat) ^ 64=18446744073709551616:=by decide
  omega
 exact Nat.lt_of_lt_of_le ((Nat.log2_lt (by omega)).mpr h3) (by decide)
end
structure JE (X:Cx) (e:Expr) (t:TE):Prop where
 h:PE X e t
structure JT (X:Cx) (e:Expr) (t:TT):Prop where
 h:PT X e t
structure JW (X:Cx) (e:Expr) (t:TT):Prop where
 h:PW X e t
structure JA (X:Cx) (es:List Expr) (t:TA):Prop where
 h:PA X es t
structure JS (X:Cx) (st:Stmt) (t:TS):Prop where
 h:PS X st t
structure JB (X:Cx) (st:List Stmt) (t:TS):Prop where
 h:PSs X st t
structure JG (X:Cx) (e:Expr) (t:TG):Prop where
 h:PG X e t
structure JGs (X:Cx) (es:List Expr) (t:TGs):Prop where
 h:PGs X es t
structure JI (X:Cx) (tg e:Expr) (t:TI):Prop where
 h:PI X tg e t
structure JF (X:Cx) (ifs:List Expr) (t:TT):Prop where
 h:ZX X ifs t
structure JO (X:Cx) (e:Option Expr) (t:TO):Prop where
 h:PO X e t
section
variable {X:Cx}{a b c e o i:Expr}{es:List Expr}{ta tb tc te:TE}{tA tB':TT}{t:TA}{pos:Pos}{rest:List Expr}
theorem jv (i:Nat) {x:Str}{pos:Pos}(hN:X.N[i]?=some x:=by rfl) (hv:Vis X.env.scope x:=by first | exact Or.inl rfl | exact Or.inr (Or.inl rfl) | exact Or.inr (Or.inr rfl)) (hd:(x==("__debug__" : Str))=false:=by decide)
  (hcd:(x==("__classdict__" : Str))=false:=by decide):JE X (.Name x pos) (tVar i):=⟨VW hN hv hd hcd⟩
theorem je_int {i j pos}:JE X (.Constant (.int i) j pos) (tC (.int i)):=⟨pe_int⟩
theorem je_bl {b j pos}:JE X (.Constant (.bool b) j pos) (tC (.bl b)):=⟨pe_bl⟩
theorem je_non {j pos}:JE X (.Constant .none j pos) (tC .non):=⟨pe_non⟩
theorem je_str {x j pos}:JE X (.Constant (.str x) j pos) (tC (.str x)):=⟨pe_str⟩
theorem je_bltn {x:Str}{v:V}{u:Value}(hg:Gl X x) (hm:X.mg x=none) (hv:bootBuiltins x=some u) (r:RelV v u) (hn:x ≠ "__name__" := by decide) (hd:(x==("__debug__" : Str))=false:=by decide):JE X (.Name x pos) (tC v):=⟨pe_bltn hg hm hv r hn hd⟩
theorem je_op {op:Operator}{r:R2}(ho:OpR X (binaryOp op) r) (ha:JE X a ta) (hb:JE X b tb):JE X (.BinOp a op b pos) (tOp r ta tb):=⟨pe_op ho ha.h hb.h⟩
theorem je_un {op:UnaryOp}{r:V→Hp→VK→Prop}(ho:UnR X (unaryOp op) r) (ha:JE X a ta):JE X (.UnaryOp op a pos) (tUn r ta):=⟨pe_un ho ha.h⟩
theorem je_cmp {op:CmpOp}{r:R2}(ho:OpR X (compareOp op) r) (ha:JE X a ta) (hb:JE X b tb) (hm:behindInMarks op b=false):JE X (.Compare a [op] [b] pos) (tOp r ta tb):=⟨pe_cmpR ho ha.h hb.h hm⟩
theorem jt_cmp {op:CmpOp}{r:R2}(ho:OpR X (compareOp op) r) (ha:JE X a ta) (hb:JE X b tb) (hm:behindInMarks op b=false):JT X (.Compare a [op] [b] pos) (Vq (tOp r ta tb)):=⟨pt_cmpR ho ha.h hb.h hm⟩
theorem je_one {op}{t:TE}(h:JE X a t):JE X (.BoolOp op [a] pos) t:=⟨pe_one h.h⟩
theorem je_and (ha:JE X a ta) (hb:JE X (.BoolOp .And (b::rest) pos) tb):JE X (.BoolOp .And (a::b::rest) pos) (tAndV ta tb):=⟨pe_and ha.h hb.h⟩
theorem jw_pt {t:TT}(h:JW X e t):JT X e t:=⟨h.h.pt⟩
theorem jw_and1 (ha:JT X a tA):JW X (.BoolOp .And [a] pos) tA:=⟨pw_and1 ha.h⟩
theorem jw_or1 (ha:JT X a tA):JW X (.BoolOp .Or [a] pos) tA:=⟨pw_or1 ha.h⟩
theorem jw_and (ha:JT X a tA) (hb:JW X (.BoolOp .And (b::rest) pos) tB'):JW X (.BoolOp .And (a::b::rest) pos) (tAnd tA tB'):=⟨pw_and ha.h hb.h⟩
theorem jw_or (ha:JT X a tA) (hb:JW X (.BoolOp .Or (b::rest) pos) tB'):JW X (.BoolOp .Or (a::b::rest) pos) (tOr tA tB'):=⟨pw_or ha.h hb.h⟩
theorem jt_not (ha:JT X a tA):JT X (.UnaryOp .Not a pos) (tNot tA):=⟨pt_not ha.h⟩
def iP:Expr→Bool
 | .Name _ _=>true | .Call _ _ _ _=>true | .Subscript _ _ _=>true | .Attribute _ _ _=>true | .IfExp _ _ _ _=>false | _=>false
theorem Zp {env:Env}(h:iP e=true):∀ whole,isTrue e env whole=(do let v ← whole; standAt e.pos; holding [v] (truthy v)):=by
 cases e<;>first | (intro _; rfl) | exact absurd h Bool.false_ne_true
theorem jt_val {t:TE}(h:JE X e t) (he:iP e=true:=by rfl):JT X e (tB t):=⟨pt_val h.h (Zp he)⟩
theorem ja_nil:JA X [] tNil:=⟨pa_nil⟩
theorem ja_cons (ha:JE X e te) (hr:JA X es t) (hs:tX e=true:=by rfl):JA X (e::es) (Vu te t):=⟨qa_cons ha.h hr.h hs⟩
theorem je_tup {x1}(h:JA X es t):JE X (.Tuple es x1 pos) (tTup t):=⟨pe_tup h.h⟩
theorem je_lst (h:JA X es t):JE X (.List es pos) (tLst t):=⟨pe_lst h.h⟩
theorem WK:JE X (.Dict [] [] pos) Vs:=⟨VZ⟩
theorem WJ:JE X (.Dict [] [] pos) Vr:=⟨VY⟩
theorem je_call {CX:CXT}{k:Nat}{f:Addr}{fd:FuncData}{ps:List Str}{sp:Sp}{dvs:List V}{ds:List Value}{E:XK}{x:Str}{p:Pos}(F:FnOk X.prog X.w X.K X.mg X.base CX k f fd ps sp) (hr:Room k X.A) (hg:Gl X x) (hm:X.mg x=some (.ref f)) (hk:PySem.W.keepIn X.K (.ref f)=true) (hb:Binds X.K fd ps ds) (hd:Vals dvs ds) (hx:wN CX X E)
  (ha:JA X (e::es) t) (hdb:(x==("__debug__" : Str))=false:=by decide) (hs:tX e=true:=by rfl) (hall:es.all tX=true:=by rfl):JE X (.Call (.Name x p) (e::es) [] pos) (Vv sp dvs E t):=⟨qe_call F hr hg hm hk hb hd hx ha.h hdb hs hall⟩
theorem WL {id:String}{r:List V→Hp→VK→Prop}{x:Str}{p:Pos}(hc:CallR X (.builtin id) r) (hg:Gl X x) (hm:X.mg x=none) (hv:bootBuiltins x=some (.builtin id)) (ha:JA X (e::es) t) (hn:x ≠ "__name__" := by decide) (hdb:(x==("__debug__" : Str))=false:=by decide)
  (hs:tX e=true:=by rfl) (hall:es.all tX=true:=by rfl):JE X (.Call (.Name x p) (e::es) [] pos) (tCB r t):=⟨VI hc hg hm hv ha.h hn hdb hs hall⟩
theorem KH {T:String}{r:List V→Hp→VK→Prop}{x:Str}{p:Pos}(hc:CallR X (.type T) r) (hg:Gl X x) (hm:X.mg x=none) (hv:bootBuiltins x=some (.type T)) (ha:JA X (e::es) t) (hn:x ≠ "__name__" := by decide) (hdb:(x==("__debug__" : Str))=false:=by decide)
  (hs:tX e=true:=by rfl) (hall:es.all tX=true:=by rfl):JE X (.Call (.Name x p) (e::es) [] pos) (tCB r t):=⟨Kb hc hg hm hv ha.h hn hdb hs hall⟩
theorem je_ix {r:R2}(hr:IxR X r) (ha:JE X a ta) (hb:JE X b tb) (hs:QQ b):JE X (.Subscript a b pos) (tOp r ta tb):=⟨pe_ix hr ha.h hb.h hs⟩
theorem jo_none:JO X none Z5:=⟨po_none⟩
theorem jo_some (h:JE X e te):JO X (some e) (tPart te):=⟨po_some h.h⟩
theorem XC {lo hi:Option Expr}{tl th:TO}{p2:Pos}{r:V→Option Int→Option Int→Hp→VK→Prop}(hr:SlR X r) (he:JE X e te) (hl:JO X lo tl) (hu:JO X hi th):JE X (.Subscript e (.Slice lo hi none p2) pos) (tSl r te tl th):=⟨VX hr he.h hl.h hu.h⟩
theorem jf_nil:JF X [] tYes:=⟨VT⟩
theorem jf_one {t:TT}(h:JT X c t):JF X [c] t:=⟨VS h.h⟩
theorem je_comp {elt iter:Expr}{x:Str}{px:Pos}{ifs:List Expr}{scope:Scope}{cl:List (Str×Addr)}{wi:TI}{tc:TT}
  (hc:X.calm=true) (hN:(x::X.N).Nodup) (K:yM X x scope cl) (hi:JI X (.Name x px) iter wi)
  (ht:∀ fp C s₂ H₂,JF (pZ X x scope cl fp C s₂ H₂) ifs tc) (he:∀ fp C s₂ H₂,JE (pZ X x scope cl fp C s₂ H₂) elt te)
  (hs:∀ v,foldedSetIterable iter X.env v=pure v:=by intro _; rfl):JE X (.ListComp elt [⟨.Name x px,iter,ifs,0⟩] scope pos) (Z6 wi tc te) :=
 ⟨pe_comp hc hN K hi.h (fun fp C s₂ H₂=>(ht fp C s₂ H₂).h) (fun fp C s₂ H₂=>(he fp C s₂ H₂).h) hs⟩
variable {tg:Expr}
theorem Jn (h:JE X e te):JI X tg e (iList X.K te):=⟨pi_list h.h⟩
theorem WF (h:JE X e te):JI X tg e (iTup X.K te):=⟨pi_tup h.h⟩
theorem xI {p:Pos}(hg:Gl X "range") (hm:X.mg "range" = none) (ha:JA X [a] t) (hs:tX a=true:=by rfl):JI X tg (.Call (.Name "range" p) [a] [] pos) (WV t):=⟨Kf hg hm ha.h (pK hs)⟩
theorem jg_name {i:Nat}{x:Str}(hN:X.N.Nodup) (hi:X.N[i]?=some x) (hx:Loc X.env.scope x) (hf:X.fn x=true∨X.env.scope.names.lookup x=some .local:=by first | exact .inl rfl | exact .inr rfl | assumption):JG X (.Name x pos) (uM i):=⟨wB hN hi hx hf⟩
theorem jgs_nil:JGs X [] gNil:=⟨Qa⟩
theorem WH {t:TG}{u:TGs}(h1:JG X e t) (h2:JGs X es u)
  (hs:(assignEach (e::es) X.env).map (·.2)=assign e X.env::(assignEach es X.env).map (·.2):=by rfl):JGs X (e::es) (qO t u):=⟨hU h1.h h2.h hs⟩
theorem jg_tup {k:Nat}{t:TGs}{n:Nat}(hc:X.calm=true) (h:JGs X es t)
  (hn:(assignEach es X.env).length=n:=by rfl) (hst:(assignEach es X.env).findIdx? (·.1)=none:=by rfl):JG X (.Tuple es k pos) (gTup X.K n t):=⟨Zr hc h.h hn hst⟩
theorem jg_sub {t:TSet}{to ti:TE}(ho:JE X o to) (hi:JE X i ti) (hs:PSet X t)
  (ha:∀ v,assign (.Subscript o i pos) X.env v=(do
   let ov ← holding [v] (eval o X.env)
   let iv ← holding [v,ov] (eval i X.env)
   standAt pos
   holding [v,ov,iv] (setItem ov iv v)
   release [v,ov,iv] []):=by intro _; rfl):JG X (.Subscript o i pos) (gSub to ti t):=⟨pg_sub ho.h hi.h hs ha⟩
end
section
variable {X:Cx}{st:Stmt}{sts:List Stmt}{t u:TS}{e c:Expr}{te:TE}{tc:TT}{pos:Pos}
theorem jb_nil:JB X [] tNext:=⟨pss_nil⟩
theorem jb_cons (h1:JS X st t) (h2:JB X sts u):JB X (st::sts) (tSeq t u):=⟨VP h1.h h2.h⟩
theorem jb_one (h1:JS X st t):JB X [st] t:=⟨pss_one h1.h⟩
theorem js_expr (he:JE X e te) (hs:swapsWith e none pos.line X.env=pure false:=by rfl):JS X (.Expr e pos) (tDrop te):=⟨ps_expr he.h hs⟩
theorem WE (he:JE X e te):JS X (.Return (some e) pos) (tRet te):=⟨ps_ret he.h⟩
theorem js_if {a b:List Stmt}(hc:JT X c tc) (ha:JB X a t) (hb:JB X b u):JS X (.If c a b pos) (tIfS tc t u):=⟨ps_if hc.h ha.h hb.h⟩
theorem js_set {i:Nat}{x:Str}{pos':Pos}(hN:X.N.Nodup) (hi:X.N[i]?=some x) (hx:Loc X.env.scope x) (he:JE X e te) (hs:swapsWith e (some (.Name x pos')) pos.line X.env=pure false:=by rfl) (hf:X.fn x=true∨X.env.scope.names.lookup x=some .local:=by first | exact .inl rfl | exact .inr rfl | assumption) :
  JS X (.Assign [.Name x pos'] e pos) (Vw te (uM i)):=⟨ps_set hN hi hx he.h hs hf⟩
theorem js_asg {tg:Expr}{g:TG}(he:JE X e te) (hg:JG X tg g) (hs:swapsWithSole [tg] e pos.line X.env=pure false:=by rfl) (hw:swappedStores [tg] e X.env=pure none:=by rfl)
  (h1:(assignEach [tg] X.env).map (·.2)=[assign tg X.env]:=by rfl):JS X (.Assign [tg] e pos) (Vw te g):=⟨ps_asg he.h hg.h hs hw h1⟩
theorem ZG {tg iter:Expr}{body:List Stmt}{wi:TI}{g:TG}{tb:TS}(hp:PassesOwn (model X.prog X.w) X.A X.env X.xe) (hc:X.calm=true) (hi:JI X tg iter wi) (hg:JG X tg g) (hb:JB X body tb)
  (hs:∀ x,foldedSetIterable iter X.env x=pure x:=by intro _; rfl):JS X (.For tg iter body [] pos) (tFor wi g tb):=⟨ps_for hp hc hi.h hg.h hb.h hs⟩
end
section
variable {P:Program}{w:World}{K:PySem.W.Frag}{mg:Str→Option Value}{base:Heap}
theorem Fun.okJ {x qual:Str}{st:Stmt}{f:Addr}{fd:FuncData}{N ps:List Str}{k:Nat}{sp:Sp}(F:Fun K x qual st f fd) (S:yX N ps (kQ st)) (len:∀ vs H Q E,sp vs H Q E→vs.length=ps.length)
  (hbody:∀ (cdv:Value) (A:Around) (outer:List Env) (s:Shared) (H:Hp) (vs:List V) (Q:VK) (E:XK),Room k (A.deeper (envOfC qual (kQ st) s.heap.objs.size f cdv))→sp vs H Q E →
   ∃ t,JB (XT CX0 P w K mg base N qual (kQ st) f cdv A outer s H E).nox (fQ st) t∧t { nx:=fun _ H'=>Q .non H',rt:=Q } (start N vs) H):FnOk P w K mg base CX0 (k+1) f fd ps sp :=
 F.ok S len fun cdv A outer s H vs Q E hr h=>let ⟨t,ht,q⟩:=hbody cdv A outer s H vs Q E hr h; ⟨t,ht.h,q⟩
end
theorem zM {env:Env}:∀ (names:List (Str×NameKind)) (acc:List (Str×Addr)),(∀ y∈names,y.2=.free→∃ c,env.cells.lookup y.1=some c)→(∀ y c,acc.lookup y=some c→env.cells.lookup y=some c) →
  ∃ cl,(forIn names acc fun x r=>(do
    if x.2==NameKind.free then do
     let c ← cellOf env x.1
     pure (ForInStep.yield ((x.1,c)::r))
    else pure (ForInStep.yield r):Sem (ForInStep (List (Str×Addr)))))=pure cl∧(∀ y c,cl.lookup y=some c→env.cells.lookup y=some c)∧(∀ y∈names,y.2=.free→∃ c,cl.lookup y.1=some c)∧∀ y c,acc.lookup y=some c→∃ c',cl.lookup y=some c'
 | [],acc,_,ha=>⟨acc,rfl,ha,fun y hy=>absurd hy (by simp),fun y c h=>⟨c,h⟩⟩
 | (n,k)::r,acc,hf,ha=>by
  cases hk:(k==NameKind.free) with
  | false =>
   obtain ⟨cl,e,h1,h2,h3⟩:=zM r acc (fun y hy=>hf y (List.mem_cons_of_mem _ hy)) ha;refine ⟨cl,?_,h1,fun y hy hy2 => ?_,h3⟩
   ·rw [List.forIn_cons]
    simp only [hk,Bool.false_eq_true,if_false]
    exact e
   ·rcases List.mem_cons.mp hy with rfl | hy
    ·have:k=.free:=hy2
     rw [this] at hk;exact absurd hk (by decide)
    ·exact h2 y hy hy2
  | true =>
   have ek:k=.free:=by simpa using hk
   obtain ⟨c,hc⟩:=hf (n,k) List.mem_cons_self ek;have hc:env.cells.lookup n=some c:=hc
   have ha':∀ y c',((n,c)::acc).lookup y=some c'→env.cells.lookup y=some c':=fun y c' h=>by
    rw [List.lookup_cons] at h
    cases hy:y==n with
    | true =>
     rw [hy] at h;have:y=n:=by simpa using hy
     subst this;rw [hc]; exact h
    | false =>
     rw [hy] at h;exact ha y c' h
   obtain ⟨cl,e,h1,h2,h3⟩:=zM r ((n,c)::acc) (fun y hy=>hf y (List.mem_cons_of_mem _ hy)) ha';have hco:cellOf env n=pure c:=by unfold cellOf; rw [hc]
   refine ⟨cl,?_,h1,fun y hy hy2 => ?_,fun y c' h => ?_⟩
   ·rw [List.forIn_cons]
    simp only [hk,if_true,hco]
    exact e
   ·rcases List.mem_cons.mp hy with rfl | hy
    ·exact h3 n c (by simp [List.lookup_cons])
    ·exact h2 y hy hy2
   ·cases hy:y==n with
    | true=>exact h3 y c (by simp [List.lookup_cons,hy])
    | false=>exact h3 y c' (by simp [List.lookup_cons,hy,h])
def X0 (x:Str) (scope:Scope) (N:List Str) (sc:Scope):Bool :=
 scope.names.all (fun y=>decide (y.2≠.cell)&&(decide (y.2≠.free) || decide (sc.names.lookup y.1=some .cell))&&(decide (y.2≠.local) || (decide (scope.names.lookup y.1=some .local)&&decide (y.1∉N))))&&decide (scope.kind=.function)&&decide (scope.names.lookup x=some .local)
theorem yJ {X:Cx}{x:Str}{scope sc:Scope}{N:List Str}{L:Nat}(hN:X.N=N) (hsc:X.env.scope=sc) (hce:X.env.cells=cellsFrom L sc.names []) (h:X0 x scope N sc=true):∃ cl,yM X x scope cl:=by
 subst hN hsc;unfold X0 at h;rw [Bool.and_eq_true,Bool.and_eq_true,List.all_eq_true] at h;obtain ⟨⟨h1,h2⟩,h3⟩:=h
 have get:∀ y∈scope.names,y.2≠.cell∧(y.2=.free→X.env.scope.names.lookup y.1=some .cell)∧(y.2=.local→scope.names.lookup y.1=some .local∧y.1∉X.N):=fun y hy=>by
  have q:=h1 y hy;rw [Bool.and_eq_true,Bool.and_eq_true,Bool.or_eq_true,Bool.or_eq_true,Bool.and_eq_true] at q;obtain ⟨⟨q1,q2⟩,q3⟩:=q;refine ⟨of_decide_eq_true q1,fun e => ?_,fun e => ?_⟩
  ·rcases q2 with q2 | q2
   ·exact absurd e (of_decide_eq_true q2)
   ·exact of_decide_eq_true q2
  ·rcases q3 with q3 | ⟨q3,q4⟩
   ·exact absurd e (of_decide_eq_true q3)
   ·exact ⟨of_decide_eq_true q3,of_decide_eq_true q4⟩
 obtain ⟨cl,e,k1,k2,_⟩:=zM (env:=X.env) scope.names [] (fun y hy hf=>by rw [hce]; exact mP ((get y hy).2.1 hf)) (fun y c z=>by simp at z);refine ⟨cl,⟨?_,fun y hy=>(get y hy).1,of_decide_eq_true h2,fun y hy q=>((get y hy).2.2 q).1,of_decide_eq_true h3,fun y hy q=>((get y hy).2.2 q).2,fun y hy q=>⟨?_,.inl ((get y hy).2.1 q),k2 y hy q⟩,k1⟩⟩
 ·unfold closureFor
  have e':=congrArg (fun m:Sem (List (Str×Addr))=>m >>= fun cs=>(pure cs:Sem (List (Str×Addr)))) e
  simp only [pure_bind] at e'
  exact e'
 ·show X.env.scope.names.lookup y.1≠some .local
  rw [(get y hy).2.1 q]
  decide
theorem zP {X:Cx}{elt iter:Expr}{x:Str}{px pos:Pos}{ifs:List Expr}{scope:Scope}{wi:TI}{tc:TT}{te:TE}
  (hc:X.calm=true) (hN:(x::X.N).Nodup) (K:∃ cl,yM X x scope cl) (hi:JI X (.Name x px) iter wi)
  (ht:∀ cl fp C s₂ H₂,JF (pZ X x scope cl fp C s₂ H₂) ifs tc) (he:∀ cl fp C s₂ H₂,JE (pZ X x scope cl fp C s₂ H₂) elt te)
  (hs:∀ v,foldedSetIterable iter X.env v=pure v:=by intro _; rfl):JE X (.ListComp elt [⟨.Name x px,iter,ifs,0⟩] scope pos) (Z6 wi tc te) :=
 let ⟨cl,K⟩:=K
 je_comp hc hN K hi (ht cl) (he cl) hs
section
variable {X:Cx}{o e:Expr}{es:List Expr}{to:TE}{t:TA}{name:Str}{apos cpos:Pos}{T id:String}{r:V→List V→Hp→VK→Prop}
theorem je_bm0 (pa:PlainAttrs T) (slot:Slot T name id) (hty:typeOf (.builtin id)=pure (.type "method_descriptor")) (hm:MtR X id r) (ho:JE X o to)
  (hbase:attributeBase o name X.env (eval o X.env)=eval o X.env:=by rfl) (hline:(apos.endLine==cpos.line)=true:=by rfl):JE X (.Call (.Attribute o name apos) [] [] cpos) (tBM0 X.K T r to):=⟨pe_bm0 pa slot hty hm ho.h hbase hline⟩
theorem je_bm (pa:PlainAttrs T) (slot:Slot T name id) (hty:typeOf (.builtin id)=pure (.type "method_descriptor")) (hm:MtR X id r) (ho:JE X o to) (ha:JA X (e::es) t)
  (hbase:attributeBase o name X.env (eval o X.env)=eval o X.env:=by rfl)
  (hfew:((backTo cpos (starEach (e::es) X.env)).all (fun x => !x.1)&&(backToKw cpos (keywordEach [] X.env)).all (fun x=>x.1.isSome)
   && decide ((e::es).length+([]:List Keyword).length+(if ([]:List Keyword).isEmpty then 0 else 1) < 30))=true:=by rfl)
  (hline:(apos.endLine==cpos.line)=true:=by rfl) (hs:tX e=true:=by rfl) (hall:es.all tX=true:=by rfl) :
  JE X (.Call (.Attribute o name apos) (e::es) [] cpos) (tBM X.K T r to t):=⟨pe_bm pa slot hty hm ho.h ha.h hbase hfew hline (pK hs) (dM hall)⟩
end
section
variable {X:Cx}{pos:Pos}
theorem Qs {o i:Expr}{td ty:TE}(hu:X.A.units+1 < cLine) (ho:JE X o td) (hi:JE X i ty) (hs:Za i):JE X (.Subscript o i pos) (tDGet td ty):=⟨pe_dget hu ho.h hi.h hs⟩
theorem m2_of {o e f:Expr}{m:Str}{apos cpos:Pos}(hb:attributeBase o m X.env (eval o X.env)=eval o X.env) (hl:(apos.endLine==cpos.line)=true) (he:tX e=true) (hf:tX f=true):M2 X o m apos e f cpos:=by
 have e1:starEach [e,f] X.env=[(false,eval e X.env),(false,eval f X.env)]:=by
  rw [pK he,pK hf]
  rfl
 refine ⟨hb,?_,hl,?_⟩
 ·rw [e1]; rfl
 ·rw [e1]; rfl
theorem XD {o e f:Expr}{td ty tx:TE}{apos cpos:Pos}(hu:X.A.units+1 < cLine) (ho:JE X o td) (he:JE X e ty) (hf:JE X f tx) (hb:attributeBase o "get" X.env (eval o X.env)=eval o X.env:=by rfl) (hl:(apos.endLine==cpos.line)=true:=by rfl)
  (h1:tX e=true:=by rfl) (h2:tX f=true:=by rfl):JE X (.Call (.Attribute o "get" apos) [e,f] [] cpos) (Vt td ty tx):=⟨V0 hu ho.h he.h hf.h (m2_of hb hl h1 h2)⟩
end
section
variable {X:Cx}{o i value:Expr}{td ty tv:TE}{pos pos':Pos}
theorem Jm (hu:X.A.units+1 < cLine) (ho:JE X o td) (hi:JE X i ty) (hv:JE X value tv) (hs:swapsWith value (some (.Subscript o i pos')) pos.line X.env=pure false:=by rfl) :
  JS X (.Assign [.Subscript o i pos'] value pos) (sDPut td ty tv):=⟨ps_dput hu ho.h hi.h hv.h hs⟩
end
section
variable {X:Cx}
def rCatTA (K:PySem.W.Frag):R2:=fun x y H Q=>∃ a b xs ys,x=.ref a∧y=.ref b∧SqT K H a xs∧SqT K H b ys∧xs.length+ys.length≤sizeLine ∧
 (xs=[]→Q (.ref b) H)∧(xs≠[]→ys=[]→Q (.ref a) H)∧(xs≠[]→ys≠[]→∀ p,H p=none→Q (.ref p) (upd H p (.tup (xs++ys))))
theorem V4:OpR X (binaryOp .Add) (rCatTA X.K):=by
 intro pins s σ H x y v u Q I rx ry h;obtain ⟨a,b,xs,ys,rfl,rfl,ha,hb,hz,q0,q1,q2⟩:=h
 by_cases hx:xs=[]
 ·cases rx
  cases ry;obtain ⟨its,r1,p1,_⟩:=I.tuple ha;obtain ⟨its2,r2,p2,_⟩:=I.tuple hb;have e:=r1.nil_iff.mpr hx;subst e;obtain ⟨⟨cls,dd,data,sl⟩,ho,hc,n,hd⟩:=id p1;obtain ⟨⟨cls2,dd2,data2,sl2⟩,ho2,hc2,n2,hd2⟩:=id p2
  simp only at hc hd hc2 hd2
  subst hc hd hc2 hd2
  exact concat_meets ⟨_,ho,rfl⟩ ⟨_,ho2,rfl⟩ noFill_tuple_add seq_tuple_add PySem.F.slot_tuple_add PySem.F.entry_tuple_add (PySem.F.args_tuple_add_2 _ _)
   (tuple_addW0 a b _ its2.toArray n n2 dd dd2 sl sl2 rfl) ⟨ho,ho2,⟨.ref b,H,I,rfl,q0 hx⟩⟩
 ·exact op_catT pins s σ H (.ref a) (.ref b) v u Q I rx ry ⟨a,b,xs,ys,rfl,rfl,ha,hb,hx,hz,q1 hx,q2 hx⟩
end
abbrev Cx.at_ (X:Cx) (k:Nat):Cx:={ X with N:=X.N.set k "?" }
def NoAt (k:Nat) (σ:St):Prop:=∀ v,σ[k]?≠some (some v)
section
variable {X:Cx}{pins:List (Addr×Obj)}{σ:St}{H:Hp}{s:Shared}{k:Nat}{e:Expr}{te:TE}{st:Stmt}{t:TS}
theorem ok_at (ok:X.Ok):(X.at_ k).Ok:=by
 obtain ⟨h1,h2,h3,h4,h5,h6,h7,h8,h9,h10,h11,h12,h13,h14,h15,h16,h17,h18⟩:=ok;exact ⟨h1,h2,h3,h4,h5,h6,h7,h8,h9,h10,h11,h12,h13,h14,h15,h16,h17,h18⟩
theorem Wa (ok:(X.at_ k).Ok):X.Ok:=by
 obtain ⟨h1,h2,h3,h4,h5,h6,h7,h8,h9,h10,h11,h12,h13,h14,h15,h16,h17,h18⟩:=ok;exact ⟨h1,h2,h3,h4,h5,h6,h7,h8,h9,h10,h11,h12,h13,h14,h15,h16,h17,h18⟩
theorem inv_at (n:NoAt k σ) (I:Inv X pins σ H s):Inv (X.at_ k) pins σ H s:=by
 obtain ⟨m,hm,hl⟩:=I.loc;refine ⟨ok_at I.ok,I.os,I.bare,I.base,⟨m,hm,fun i x v e1 e2 e3 => ?_⟩,I.cell,I.free,I.freeC,I.pin,I.hok,?_⟩
 ·by_cases hi:k=i
  ·subst hi; exact absurd e2 (n v)
  ·have e1:(X.N.set k "?")[i]?=some x:=e1
   rw [List.getElem?_set_ne hi] at e1;exact hl i x v e1 e2 e3
 ·show σ.length=(X.N.set k "?").length
  rw [List.length_set];exact I.len
theorem KK (n:NoAt k σ) (I:Inv (X.at_ k) pins σ H s):Inv X pins σ H s:=by
 obtain ⟨m,hm,hl⟩:=I.loc;refine ⟨Wa I.ok,I.os,I.bare,I.base,⟨m,hm,fun i x v e1 e2 e3 => ?_⟩,I.cell,I.free,I.freeC,I.pin,I.hok,?_⟩
 ·by_cases hi:k=i
  ·subst hi; exact absurd e2 (n v)
  ·refine hl i x v ?_ e2 e3
   show (X.N.set k "?")[i]?=some x;rw [List.getElem?_set_ne hi];exact e1
 ·have:=I.len
  rw [this];show (X.N.set k "?").length=_;rw [List.length_set]
theorem je_drop (k:Nat) (he:JE (X.at_ k) e te):JE X e (fun σ H Q=>NoAt k σ∧te σ H Q) :=
 ⟨fun pins s σ H Q I h=>thn (he.h pins s σ H Q (inv_at h.1 I) h.2) fun v s1 ⟨x,H1,I1,r1,q1⟩=>⟨x,H1,KK h.1 I1,r1,q1⟩⟩
theorem js_fg (k:Nat) (h:JS X st t):JS X st (fun D σ H=>t D (σ.set k none) H) :=
 ⟨fun pins s σ H D I q=>h.h pins s (σ.set k none) H D (I.weak (by rw [List.length_set]) fun i v e=>by
  by_cases hi:k=i
  ·subst hi
   rw [List.getElem?_set_self'] at e
   cases hk:σ[k]? with
   | none=>rw [hk] at e; cases e
   | some x=>rw [hk] at e; cases e
  ·rw [List.getElem?_set_ne hi] at e
   exact e) q⟩
end
theorem sameNew {H:Hp}{p:Addr}(h:H p=none) (o:HO):Same H (upd H p o):=fun b u q=>by rw [aQ (gK q h)]; exact q
section
variable {X:Cx}
def rCatU:R2:=fun x y H Q=>∃ a b xs ys,x=.ref a∧y=.ref b∧H a=some (.tup xs)∧H b=some (.tup ys)∧xs.length+ys.length≤sizeLine∧∀ r H',Same H H'→H' r=some (.tup (xs++ys))→(H r=none∨r=a∨r=b)→Q (.ref r) H'
theorem op_catU:OpR X (binaryOp .Add) rCatU:=by
 intro pins s σ H x y v u Q I rx ry h;obtain ⟨a,b,xs,ys,e1,e2,ha,hb,hz,q⟩:=h;refine V4 pins s σ H x y v u Q I rx ry ⟨a,b,xs,ys,e1,e2,SqT.of ha,SqT.of hb,hz,fun h=>q b H (Same.refl H) (by rw [h]; exact hb) (.inr (.inr rfl)),fun _ h=>q a H (Same.refl H) (by rw [h,List.append_nil]; exact ha) (.inr (.inl rfl)),fun _ _ p hp=>q p _ (sameNew hp _) eQ (.inl hp)⟩
end
end L2
namespace PySem
open PySem.Spec PyProof.Rows PyProof.Rows.F
theorem uI:entryFor table "dict.update.loop" = some Builtin.«dict.update.loop» := entryFor_of_tree (by kernel_rfl)
theorem dF:plainId "dict.update.loop" = true:=by decide +kernel
section
variable {prog:Program}{w:World}{κ:Type} [DecidableEq κ] {knd:KeyKind prog w κ}{A:Around}{d it t:Addr}{items:Array Value}{ps:List (κ×Value)}{res:Value}
theorem wG {h h':Heap}{p:Addr}{xs:Array Value}(x:h.IsTuple p xs) (e:∀ o,h.get? p=some o→h'.get? p=some o):h'.IsTuple p xs:=let ⟨o,q,r⟩:=x; ⟨o,e o q,r⟩
theorem ZH {h h':Heap}{p:Addr}{i:Nat}(x:h.IsTupleIter it p i) (e:∀ o,h.get? it=some o→h'.get? it=some o):h'.IsTupleIter it p i:=let ⟨o,q,r⟩:=x; ⟨o,e o q,r⟩
theorem fH {h h':Heap}{kvs:List (κ×Value)}(x:h.DictOf knd d kvs) (e:∀ o,h.get? d=some o→h'.get? d=some o):h'.DictOf knd d kvs:=let ⟨o,es,ep,q,r⟩:=x; ⟨o,es,ep,e o q,r⟩
theorem Xe {R:Result→Shared→Prop}(calm:A.in1.handled=none) (ndi:d≠it) (ndt:d≠t) (nti:t≠it) (stop:items[ps.length]?=none):∀ (r i:Nat) (s:Shared) (acc:List (κ×Value)),i+r=ps.length →
   s.heap.IsTupleIter it t i→s.heap.IsTuple t items→s.heap.DictOf knd d acc→acc.length+r≤sizeLine →
   (∀ j (h:j < ps.length),∃ p kv,items[j]?=some (.ref p)∧p≠d∧p≠it∧s.heap.IsTuple p #[kv,ps[j].2]∧knd.is ps[j].1 kv=true) →
   (∀ (h:Heap) (tk:Nat),(∀ b o,b≠d→b≠it→s.heap.get? b=some o→h.get? b=some o)→h.DictOf knd d (merged acc (ps.drop i))→R (.ok (.ret res)) { s with heap:=h,toks:=tk }) →
   codeAny (model prog w) A (.builtin "dict.update.loop" ⟨[.ref d,.ref it,rawInt i,res],[]⟩) R s:=by
 intro r
 induction r with
 | zero =>
  intro i s acc e iti tt dd hz key fin;have ei:i=ps.length:=by omega
  subst ei;rw [List.drop_length] at fin;refine codeAny_builtin uI ?_;rw [Around.under_plainId dF _];exact wpAny_bind (wpAny_pyNext_tuple_end calm iti tt stop fun h x=>wpAny_bind (wpAny_pure (wpAny_pure (fin h s.toks (fun b o _ nb q=>x b o nb q) (fH dd fun o q=>x d o ndi q)))))
 | succ r ih =>
  intro i s acc e iti tt dd hz key fin;have hi:i < ps.length:=by omega
  obtain ⟨p,kv,hp,npd,npi,tp,kk⟩:=key i hi;refine codeAny_builtin uI ?_;rw [Around.under_plainId dF _];refine wpAny_bind (wpAny_pyNext_tuple_item iti tt hp fun h1 it1 b1 => ?_);have dd1:=fH dd fun o q=>b1.extBut d o ndi q;have tp1:=wG tp fun o q=>b1.extBut p o npi q;refine wpAny_bind (m:=holding [.ref p] _) (wpAny_holding ?_);refine wpAny_bind (wpAny_tryCatch ?_);unfold Builtin.Dict.pairItems;refine wpAny_bind (wpAny_typeOf tp1.typeIs ?_)
  rw [if_pos (by decide)];obtain ⟨op,e1,e2,n,e3⟩:=id tp1;refine wpAny_bind (wpAny_seqItems e1 e3 (wpAny_pure ?_));show wpAny _ _ (holding [kv,ps[i].2] (dictSet d kv ps[i].2)) _ _ _;refine wpAny_holding (wpAny_dictSet_pairs kk dd1 (fun h2 dd2 b2 => ?_) (by omega))
  have em:merged acc (ps.drop i)=merged (stored acc ps[i].1 ps[i].2) (ps.drop (i+1)):=by
   rw [List.drop_eq_getElem_cons hi]; rfl
  refine wpAny_pure ⟨plainId_quiet dF _,?_⟩;have ek:rawInt ((i:Int)+1)=rawInt ((i+1:Nat):Int):=by rw [Int.natCast_add]; rfl
  rw [ek];refine ih (i+1) _ (stored acc ps[i].1 ps[i].2) (by omega) (ZH it1 fun o q=>(b2.2 it (Ne.symm ndi)).trans q) (wG (wG tt fun o q=>b1.extBut t o nti q) fun o q=>(b2.2 t (Ne.symm ndt)).trans q) dd2 ?_ (fun j hj => ?_) fun h tk keep dd3 => ?_
  ·have:=stored_length_le acc ps[i].1 ps[i].2
   omega
  ·obtain ⟨p',kv',a1,a2,a3,a4,a5⟩:=key j hj
   exact ⟨p',kv',a1,a2,a3,wG (wG a4 fun o q=>b1.extBut p' o a3 q) fun o q=>(b2.2 p' a2).trans q,a5⟩
  ·rw [← em] at dd3
   exact fin h tk (fun b o n1 n2 q=>keep b o n1 n2 ((b2.2 b n1).trans (b1.extBut b o n2 q))) dd3
end
theorem dE:typeLookup (.type "tuple") "keys" = pure none:=by rw [typeLookup_type,builtinLookup_eq_fast]; kernel_rfl
theorem rE {prog:Program}{w:World}{A:Around}{E:Value→Shared→Prop}{s:Shared}{a:Addr}{o:Obj}{xs:Array Value}{k:Nat}{Q:Option Value→Shared→Prop}
  (hx:s.heap.get? a=some o) (hc:o.cls=.type "tuple") (hdat:o.data=.seq xs k) (hd:o.dict=none) (hA:A.handled=none)
  (h:∀ (h':Heap) (tk:Nat),(∀ b u,s.heap.get? b=some u→h'.get? b=some u)→Q none { s with heap:=h',toks:=tk }):wpAny (model prog w) A (getAttr? (.ref a) "keys") Q E s:=by
 obtain ⟨c,dct,dat,sl⟩:=o
 simp only at hc hdat hd
 subst hc hdat hd;obtain ⟨hp,g,d,tk,os⟩:=s;have hT:∀ tk',(⟨hp,g,d,tk',os⟩:Shared).TypeIs (.ref a) "tuple" := fun _=>⟨_,hx,rfl⟩;have f1:=sub_AttributeError;have f3:=F.slot_tuple_getattribute.lookup;have f4:=F.slot_tuple_getattribute.bind (.ref a);have f5:=am_tuple_getattr_none;unfold getAttr? getAttrBy? getAttrBy
 repeat (any_goals (first | assumption | exact hT _ | ((with_reducible show wpAny _ _ (call (Value.builtin "tuple.__getattribute__") _ _) _ _ _); refine call_meets F.slot_tuple_getattribute (hT _) am_entry_tuple_getattribute (F.args_tuple_getattribute_2 _ _) (meets_getattribute_miss_tuple a xs k sl "keys" _ dE (by decide) (by decide)) ⟨hx,hA,fun h' tk' e hx' => ?_⟩) | wp_step))
 obtain ⟨t',u',he⟩:=hx'.there;show wpAny _ _ (getattributeRaised _ _ _ _ _ _ _) _ _ _;unfold getattributeRaised
 repeat (any_goals (first | assumption | wp_step))
 exact h h' tk' hx'.of.keeps
section
variable {prog:Program}{w:World}{κ:Type} [DecidableEq κ] {knd:KeyKind prog w κ}{A:Around}{E:Value→Shared→Prop}{s:Shared}{d t:Addr}{items:Array Value}{ps acc:List (κ×Value)}{res:Value}
theorem ZK {id:String}{A₀:Around}{R:Result→Shared→Prop}{o:Obj}{n:Nat}(calm:A.handled=none) (calm0:A₀.in1.handled=none) (ndt:d≠t) (ho:s.heap.get? t=some o) (hc:o.cls=.type "tuple") (hdat:o.data=.seq items n) (hno:o.dict=none) (dd:s.heap.DictOf knd d acc)
  (hz:acc.length+ps.length≤sizeLine) (stop:items[ps.length]?=none) (key:∀ j (h:j < ps.length),∃ p kv,items[j]?=some (.ref p)∧p≠d∧s.heap.IsTuple p #[kv,ps[j].2]∧knd.is ps[j].1 kv=true)
  (fin:∀ (h:Heap) (tk:Nat),(∀ b o,b≠d→s.heap.get? b=some o→h.get? b=some o)→h.DictOf knd d (merged acc ps)→R (.ok (.ret res)) { s with heap:=h,toks:=tk }) :
  wpAny (model prog w) A (Builtin.Dict.updateFrom id d (.ref t) [] res) (fun fin s'=>match fin with | .done f=>R (.ok f) s' | .again c'=>c'.quiet=true∧codeAny (model prog w) A₀ c' R s') E s:=by
 have tt:s.heap.IsTuple t items:=⟨o,ho,hc,n,hdat⟩;unfold Builtin.Dict.updateFrom;refine wpAny_bind (wpAny_typeOf tt.typeIs ?_);rw [if_pos (by decide)];refine wpAny_bind (rE ho hc hdat hno calm fun h1 tk1 k1 => ?_);rw [if_pos (show (none:Option Value).isNone=true from rfl)];refine wpAny_bind (wpAny_rule ?_);have tt1:h1.IsTuple t items:=wG tt fun o q=>k1 t o q;refine wpAny_bind (wpAny_pyIter_tuple tt1 ?_)
 have hd1:d < h1.objs.size:=by
  obtain ⟨od,es,ep,q,_⟩:=dd;exact Heap.lt_size (k1 d od q)
 have ht1:t < h1.objs.size:=Heap.lt_size (k1 t o ho);refine wpAny_pure ⟨plainId_quiet dF _,Xe (knd:=knd) (ps:=ps) calm0 (Nat.ne_of_lt hd1) ndt (Nat.ne_of_lt ht1) stop ps.length 0 _ acc (Nat.zero_add _) ⟨_,Heap.get?_push_size _ rfl,rfl,rfl⟩ (tt1.push _) ?_ hz (fun j hj => ?_) fun h tk keep dd' => ?_⟩
 ·exact fH dd fun o q=>Heap.get?_push_of_some _ (k1 d o q)
 ·obtain ⟨p,kv,a1,a2,a3,a4⟩:=key j hj
  have hp:p < h1.objs.size:=by
   obtain ⟨op,q,_⟩:=a3;exact Heap.lt_size (k1 p op q)
  exact ⟨p,kv,a1,a2,Nat.ne_of_lt hp,wG a3 fun o q=>Heap.get?_push_of_some _ (k1 p o q),a4⟩
 ·rw [List.drop_zero] at dd'
  exact fin h tk (fun b o nb q=>keep b o nb (Nat.ne_of_lt (Heap.lt_size (k1 b o q))) (Heap.get?_push_of_some _ (k1 b o q))) dd'
end
end PySem
namespace L2
open PySem PySem.Spec PyProof.Rows
abbrev kM (H:Hp):List Addr→List (Key×V)→Prop:=Paired fun a p=>H a=some (.tup [kV p.1,p.2])
theorem eE:∀ {pa:List Addr}{its:List Value},Vals (pa.map V.ref) its→its=pa.map Value.ref
 | [],_,.nil=>rfl
 | _::_,_,.cons h r=>by
  cases (show _=Value.ref _ from h);rw [eE r]; rfl
theorem xT {P:Program}{w:World}{H:Hp}{h:Heap}(ok:HOk P w H h):∀ {pa:List Addr}{ps:List (Key×V)},kM H pa ps→∃ rs:List (Key×Value),KV ps rs∧pa.length=rs.length ∧
  ∀ j (hj:j < rs.length),∃ p kv,pa[j]?=some p∧h.IsTuple p #[kv,rs[j].2]∧(lX P w).is rs[j].1 kv=true
 | _,_,.nil=>⟨[],.nil,rfl,fun j hj=>absurd hj (Nat.not_lt_zero j)⟩
 | _,_,@Paired.cons _ _ _ a p l1 l2 e r=>by
  obtain ⟨rs,q1,q2,q3⟩:=xT ok r;obtain ⟨_,its,rv,tp⟩:=(show ObjOk P w H h a (.tup [kV p.1,p.2]) from ok a _ e)
  cases rv with
  | @cons _ ku _ its' rk rv =>
   cases rv with
   | @cons _ vu _ its'' rvv rv =>
    cases rv;refine ⟨(p.1,vu)::rs,.cons ⟨rfl,rvv⟩ q1,by rw [List.length_cons,List.length_cons,q2],fun j hj => ?_⟩
    cases j with
    | zero=>exact ⟨a,ku,rfl,tp.is,jI rk⟩
    | succ j=>exact q3 j (Nat.lt_of_succ_lt_succ hj)
section
variable {X:Cx}
theorem ZQ (hc:X.calm=true):CallR X (.type "dict") (fun xs H Q=>∃ t pa ps,xs=[.ref t]∧H t=some (.tup (List.map V.ref pa))∧kM H pa ps∧ps.length≤sizeLine∧∀ d,H d=none→Q (.ref d) (upd H d (.dK (vG [] ps)))):=by
 intro pins s σ H xs us Q I r h;obtain ⟨t,pa,ps,rfl,ht,hp,hz,q⟩:=h;obtain ⟨u,rfl,ru⟩:=r.one;cases (show u=Value.ref t from ru);obtain ⟨_,its,rv,o,h1,h2,⟨n,h3⟩,h4⟩:=(show ObjOk X.prog X.w H s.heap t (.tup _) from I.hok t _ ht);have ei:=eE rv;subst ei;obtain ⟨rs,q1,q2,q3⟩:=xT I.hok hp;have hl:ps.length=rs.length:=KV.length q1;refine callType_codes (Q₁:=fun obj s₁=>obj=.ref s.heap.objs.size∧s₁={ s with heap:=s.heap.push { cls:=.type "dict",data:=.dict #[] } }) F.kt_called_dict (F.kt_typeCall_dict_1 _) F.entry_dict_init (kt_code_dict_new _ ⟨rfl,rfl⟩) ?_
 rintro obj s₁ ⟨rfl,rfl⟩;have hnew:(s.heap.push { cls:=.type "dict",data:=.dict #[] }).DictOf (lX X.prog X.w) s.heap.objs.size []:=Heap.DictOf.new s.heap;refine ⟨hnew.typeIs,F.args_dict_init_2 _ _,?_⟩;unfold Builtin.«dict.__init__»;refine wpAny_bind ?_;unfold Builtin.Dict.selfAndRest;refine wpAny_bind (wpAny_notOrdered_dict hnew.typeIs ?_);show wpAny _ _ (pure (s.heap.objs.size,[Value.ref t])) _ _ _
 refine wpAny_pure ?_;show wpAny _ _ (Builtin.Dict.updateFrom "dict.__init__" s.heap.objs.size (.ref t) [] .none) _ _ _;have calm:=I.ok.hd hc;refine ZK (s:={ s with heap:=s.heap.push { cls:=.type "dict",data:=.dict #[] } }) (A₀:=X.A.in1) (knd:=lX X.prog X.w) (ps:=rs) (acc:=[]) (by simp [calm]) (by simp [calm]) (Nat.ne_of_gt (Heap.lt_size h1)) (Heap.get?_push_of_some _ h1) h2 h3 h4 hnew ?_ ?_ (fun j hj => ?_) fun h' tk keep dd => ?_
 ·rw [← hl]; simpa using hz
 ·rw [← q2]; simp
 ·obtain ⟨p,kv,e1,e2,e3⟩:=q3 j hj
  have hps:p < s.heap.objs.size:=by obtain ⟨op,z,_⟩:=e2; exact Heap.lt_size z
  refine ⟨p,kv,?_,Nat.ne_of_lt hps,e2.push _,e3⟩;rw [List.getElem?_toArray,List.getElem?_map,e1]; rfl
 ·refine ⟨rfl,.ref s.heap.objs.size,_,I.laid (t':=tk) (o:=.dK (vG [] ps)) (fun b ob e=>keep b ob (Nat.ne_of_lt (Heap.lt_size e)) (Heap.get?_push_of_some _ e)) (Nat.le_refl _) ?_,rfl,q _ (I.hok.fresh (Nat.le_refl _))⟩
  refine ZN ?_ (beq_false_of_ne (Nat.ne_of_gt I.big)) (KV.merge q1 .nil) dd;have:=bU ps []
  simp at this
  omega
end
end L2
namespace L2
open PySem PySem.W PyProof.Rows
def pD {α:Type}(n:Nat) (P:α→Prop):KasT α→Prop
 | .ret a=>P a
 | .ask i j k=>i < n∧j < n∧∀ b,pD n P (k b)
def aM {α:Type}(lt:Nat→Nat→Bool):KasT α→α
 | .ret a=>a
 | .ask i j k=>aM lt (k (lt i j))
theorem oY {α β:Type}{n:Nat}{P:α→Prop}{R:β→Prop}{f:α→KasT β}:∀ (t:KasT α),pD n P t→(∀ a,P a→pD n R (f a))→pD n R (t.bind f)
 | .ret a,h,hf=>hf a h
 | .ask i j k,h,hf=>⟨h.1,h.2.1,fun b=>oY (k b) (h.2.2 b) hf⟩
theorem XB {α:Type}{n:Nat}{P:α→Prop}{lt:Nat→Nat→Bool}:∀ (t:KasT α),pD n P t→P (aM lt t)
 | .ret a,h=>h
 | .ask i j k,h=>XB (k (lt i j)) (h.2.2 _)
theorem kWp {α:Type}{n:Nat}{P:α→Prop}{lt:Nat→Nat→Bool}{cmp:Nat→Nat→(Bool→Shared→Prop)→Shared→Prop}{J:Shared→Prop}(hc:∀ i j C s,i < n→j < n→J s→(∀ s',J s'→C (lt i j) s')→cmp i j C s) :
  ∀ (t:KasT α) {Q:α→Shared→Prop} {s:Shared},pD n P t→J s→(∀ s',J s'→P (aM lt t)→Q (aM lt t) s')→t.kasWp cmp Q s
 | .ret a,Q,s,h,hj,hq=>hq s hj h
 | .ask i j k,Q,s,h,hj,hq=>hc i j _ s h.1 h.2.1 hj fun s' hj'=>kWp hc (k (lt i j)) (h.2.2 _) hj' hq
def Ord (n:Nat) (p:Array Nat):Prop:=p.toList.Perm (List.range n)
theorem Ord.lt {n:Nat}{p:Array Nat}(h:Ord n p) (h0:0 < n) (i:Nat):p.getD i 0 < n:=by
 by_cases hi:i < p.size
 ·have e:p.getD i 0=p[i]:=by simp [Array.getD,hi]
  rw [e];have hm:p[i]∈p.toList:=by simp
  exact List.mem_range.mp (h.mem_iff.mp hm)
 ·have e:p.getD i 0=0:=by simp [Array.getD,hi]
  rw [e];exact h0
theorem Ord.size {n:Nat}{p:Array Nat}(h:Ord n p):p.size=n:=by
 have:=h.length_eq;rw [List.length_range,Array.length_toList] at this;exact this
theorem Ord.rev {n:Nat}{p:Array Nat}(h:Ord n p) (i j:Nat):Ord n (kas_rev p i j):=(Array.Perm.toList (mirror_perm p i j _)).trans h
theorem Ord.bubble {n:Nat}{p:Array Nat}(h:Ord n p) (i j:Nat):Ord n (bubble p i j):=(Array.Perm.toList (bubble_perm p i j)).trans h
section
variable {n:Nat}(h0:0 < n)
include h0
theorem QN {p:Array Nat}(h:Ord n p):∀ f m,pD n (fun _=>True) (kas_asc p f m)
 | 0,m=>trivial
 | f+1,m=>⟨h.lt h0 _,h.lt h0 _,fun b=>by
  cases b with
  | true=>exact trivial
  | false=>exact QN h f (m+1)⟩
theorem kP:∀ f (p:Array Nat) m q,Ord n p→pD n (fun r=>Ord n r.1) (kas_desc f p m q)
 | 0,p,m,q,h=>h
 | f+1,p,m,q,h=>⟨h.lt h0 _,h.lt h0 _,fun b=>by
  cases b with
  | true =>
   show pD n _ (if q > 0 then _ else _)
   split
   ·exact kP f _ _ _ (h.rev _ _)
   ·exact kP f _ _ _ h
  | false =>
   refine ⟨h.lt h0 _,h.lt h0 _,fun b => ?_⟩
   cases b with
   | true=>exact h
   | false=>exact kP f _ _ _ h⟩
theorem qA {p:Array Nat}(m r:Nat) (h:Ord n p):pD n (fun r=>Ord n r.2) (kas_tail3 m r p) :=
 oY _ (QN h0 (h.rev 0 m) _ _) fun _ _=>h.rev 0 m
theorem vP {p:Array Nat}(m r:Nat) (h:Ord n p):pD n (fun r=>Ord n r.2) (kas_descPart m r p) :=
 oY _ (kP h0 _ _ _ _ h) fun x hx=>by
  split
  ·exact qA h0 _ _ (hx.rev _ _)
  ·exact qA h0 _ _ hx
theorem KU {p:Array Nat}(r:Nat) (h:Ord n p):pD n (fun r=>Ord n r.2) (kas_count r p) :=
 oY _ (QN h0 h _ _) fun x _=>by
  split
  ·exact h
  ·split
   ·refine ⟨h.lt h0 _,h.lt h0 _,fun b => ?_⟩
    cases b with
    | true=>exact h
    | false=>exact vP h0 _ _ (h.rev _ _)
   ·exact vP h0 _ _ h
theorem qH {p:Array Nat}(k:Nat) (h:Ord n p):∀ f l r,pD n (fun _=>True) (kas_place p k f l r)
 | 0,l,r=>trivial
 | f+1,l,r=>by
  unfold kas_place
  split
  ·exact trivial
  ·refine ⟨h.lt h0 _,h.lt h0 _,fun b => ?_⟩
   cases b with
   | true=>exact qH k h f _ _
   | false=>exact qH k h f _ _
theorem JY:∀ f (p:Array Nat) k,Ord n p→pD n (Ord n) (kas_bin f p k)
 | 0,p,k,h=>h
 | f+1,p,k,h=>oY _ (qH h0 k h _ _ _) fun l _=>JY f _ _ (h.bubble _ _)
theorem Q2:pD n (Ord n) (kas_sort n) :=
 oY _ (KU h0 n (show Ord n (List.toArray (List.range n)) from List.Perm.refl _)) fun r hr=>by
  split
  ·exact JY h0 _ _ _ hr
  ·exact hr
end
def wW (lt:Nat→Nat→Bool) (vs:List Value):List Value:=(aM lt (kas_sort vs.length)).toList.map fun i=>vs.getD i Value.none
def xD (lt:Nat→Nat→Bool) (ys:List V):List V:=(aM lt (kas_sort ys.length)).toList.map fun i=>ys.getD i .non
theorem run0 (lt:Nat→Nat→Bool):(aM lt (kas_sort 0)).toList=[]:=rfl
theorem xC {lt:Nat→Nat→Bool}{vs:List Value}(h:vs.length < 2):wW lt vs=vs:=by
 match vs,h with
 | [],_=>rfl
 | [v],_=>rfl
theorem eU (lt:Nat→Nat→Bool) (n:Nat) (h:0 < n):Ord n (aM lt (kas_sort n)):=XB _ (Q2 h)
theorem Qc (lt:Nat→Nat→Bool) (vs:List Value):(wW lt vs).length=vs.length:=by
 by_cases h:vs.length < 2
 ·rw [xC h]
 ·unfold wW
  rw [List.length_map,Array.length_toList,(eU lt vs.length (by omega)).size]
def xK (h:Heap) (a:Addr) (vs:List Value):Heap:=((h.update a (Obj.mapSeq fun _=>(#[]:Array Value))).push (seqObj "tuple" vs.toArray 0)).push (seqObj "list" #[] 0)
theorem Zz {h:Heap}{a:Addr}{vs us:List Value}{n:Nat}(e:h.get? a=some (seqObj "list" us.toArray n)):∃ k,(h.update a (Obj.mapSeq fun _=>(#[]:Array Value))).get? a=some (seqObj "list" #[] k)∧(xK h a vs).get? a=some (seqObj "list" #[] k) :=
 ⟨_,get?_update_seq e fun _ => #[],Heap.get?_push_of_some _ (Heap.get?_push_of_some _ (get?_update_seq e fun _ => #[]))⟩
theorem Xr {h:Heap}{a b:Addr}{vs:List Value}{o:Obj}(e:h.get? b=some o) (n:b≠a):(xK h a vs).get? b=some o :=
 Heap.get?_push_of_some _ (Heap.get?_push_of_some _ ((Heap.get?_update_ne _ _ _ _ n).trans e))
theorem uD {P':Program}{w:World}{A:Around}{E:Value→Shared→Prop}{s:Shared}{a:Addr}{vs:List Value}{n:Nat}{κ:SortKind}{lt:Nat→Nat→Bool}{R:PySem.Fin→Shared→Prop}(ea:s.heap.get? a=some (seqObj "list" vs.toArray n)) (few:vs.length < 64)
  (hk:2≤vs.length→∀ Q:SortKind→Shared→Prop,Q κ { s with heap:=xK s.heap a vs }→wpAny (model P' w) A (keyKind' vs.toArray) Q (fun _ _=>False) { s with heap:=xK s.heap a vs })
  (hc:∀ i j,i < vs.length→j < vs.length→∀ Q:Bool→Shared→Prop,Q (lt i j) { s with heap:=xK s.heap a vs }→wpAny (model P' w) A (keyLt' κ (vs.getD i Value.none) (vs.getD j Value.none)) Q (fun _ _=>False) { s with heap:=xK s.heap a vs })
  (done:R (.done (.ret .none)) { s with heap:=sortedHeap s.heap a vs (wW lt vs).toArray }):wpAny (model P' w) A (Builtin.«list.sort» ⟨[.ref a],[]⟩) R E s:=by
 obtain ⟨k0,e1,e2⟩:=Zz (vs:=vs) ea;have zl:vs.length≤sizeLine:=by rw [sizeLine_eq]; omega
 have zo:(wW lt vs).toArray.size≤sizeLine:=by rw [List.size_toArray,Qc]; exact zl
 rw [list_sort_plain];refine wpAny_bind (listItems_at ea rfl (wpAny_bind (listUpdate_at ea rfl (wpAny_bind (seqEpoch_at e1 rfl (wpAny_bind (wpAny_newTuple (wpAny_bind (wpAny_newList (wpAny_holding ?_) (Nat.zero_le _))) zl)))) (by rw [List.size_toArray]; exact zl) (Nat.zero_le _))));show wpAny (model P' w) A _ R E { s with heap:=xK s.heap a vs };dsimp only
 have rest:∀ st':SortSt,(arrOf st').map (·.2)=(wW lt vs).toArray→failedOf st'=none→wpAny (model P' w) A (do
   let after ← seqEpoch a
   Builtin.List.listUpdate (.ref a) fun _=>(arrOf st').map (·.2)
   if let some e:=failedOf st' then rule "list.sort.comparison-raised"; throw e
   if (after != k0)=true then rule "list.sort.modified"; raiseError "ValueError" "list modified during sort"
   ret .none) R E { s with heap:=xK s.heap a vs }:=fun st' q1 q2=>by
  rw [q1,q2];refine wpAny_bind (seqEpoch_at e2 rfl (wpAny_bind (listUpdate_at e2 rfl ?_ (Nat.zero_le _) (Nat.le_succ_of_le zo))));rw [show (k0 != k0)=false by simp];exact wpAny_pure done
 have sz:vs.toArray.size=vs.length:=List.size_toArray
 by_cases h2:vs.length < 2
 ·rw [sz,if_pos h2,if_pos h2]
  refine wpAny_bind (wpAny_pure (wpAny_bind (wpAny_pure (rest _ ?_ rfl))));rw [xC h2];show (vs.toArray.zip vs.toArray).map (·.2)=vs.toArray
  apply Array.toList_inj.mp
  simp
  exact List.map_snd_zip (Nat.le_refl _)
 ·rw [sz,if_neg h2,if_neg h2]
  refine wpAny_bind (wpAny_mono (hk (by omega) (fun c s'=>c=κ∧s'={ s with heap:=xK s.heap a vs }) ⟨rfl,rfl⟩) (fun c s0 hs => ?_) fun _ _ x=>x.elim);obtain ⟨rfl,rfl⟩:=hs
  refine wpAny_bind (wpAny_mono (kat_run (Q:=fun st' s'=>s'={ s with heap:=xK s.heap a vs }∧(arrOf st').map (·.2)=(wW lt vs).toArray∧failedOf st'=none)
   (G:=fun p s'=>s'={ s with heap:=xK s.heap a vs }∧p=aM lt (kas_sort vs.length)) rfl (by omega) few (fun p' st' s' a1 a2 a3 a4=>⟨a4.1,?_,a3⟩)
   (kWp (n:=vs.length) (P:=Ord vs.length) (lt:=lt) (J:=fun s'=>s'={ s with heap:=xK s.heap a vs }) (fun i j C s' hi hj e hC => ?_) _ (Q2 (by omega)) rfl fun s' e _=>⟨e,rfl⟩)) ?_ fun _ _ e=>e)
  ·rw [kat_snds rfl a2,a4.2]
   rfl
  ·subst e
   exact hc i j hi hj _ (hC _ rfl)
  ·rintro ⟨⟨⟩,st'⟩ s' ⟨rfl,q3,q4⟩
   exact rest st' q3 q4
def cB (h:Heap) (vs:List Value):Heap:=((h.push (seqObj "list" #[] 0)).update h.objs.size (Obj.mapSeq (· ++ vs.toArray))).push (seqObj "list" vs.toArray 0)
theorem XI (h:Heap) (vs:List Value):((h.push (seqObj "list" #[] 0)).update h.objs.size (Obj.mapSeq (· ++ vs.toArray))).objs.size=h.objs.size+1:=(Heap.size_update ..).trans (size_push' ..)
theorem ZI (h:Heap) (vs:List Value):(cB h vs).get? (h.objs.size+1)=some (seqObj "list" vs.toArray 0):=by
 have q:=Heap.get?_push_size ((h.push (seqObj "list" #[] 0)).update h.objs.size (Obj.mapSeq (· ++ vs.toArray))) (o:=seqObj "list" vs.toArray 0) rfl;rw [XI] at q;exact q
theorem WX {h:Heap}{vs:List Value}{b:Addr}{o:Obj}(e:h.get? b=some o):(cB h vs).get? b=some o :=
 Heap.get?_push_of_some _ ((Heap.get?_update_ne _ _ _ _ (Nat.ne_of_lt (Heap.lt_size e))).trans (Heap.get?_push_of_some _ e))
section
variable {X:Cx}
def Srt (X:Cx) (H:Hp) (ys:List V) (lt:Nat→Nat→Bool):Prop:=∀ (pins:List (Addr×Obj)) (σ:St) (s:Shared) (its:List Value) (A:Around),A.units≤X.A.units+2→Inv X pins σ H s→Vals ys its →
 ∃ κ:SortKind,(2≤ys.length→∀ Q:SortKind→Shared→Prop,Q κ s→wpAny (model X.prog X.w) A (keyKind' its.toArray) Q (fun _ _=>False) s) ∧
  ∀ i j,i < ys.length→j < ys.length→∀ Q:Bool→Shared→Prop,Q (lt i j) s→wpAny (model X.prog X.w) A (keyLt' κ (its.getD i Value.none) (its.getD j Value.none)) Q (fun _ _=>False) s
theorem dU {ys:List V}{its:List Value}(r:Vals ys its) (i:Nat):RelV (ys.getD i .non) (its.getD i Value.none):=by
 induction r generalizing i with
 | nil=>exact rfl
 | cons a b ih =>
  cases i with
  | zero=>exact a
  | succ i=>exact ih i
theorem qS {ys:List V}{its:List Value}(r:Vals ys its):∀ l:List Nat,Vals (l.map fun i=>ys.getD i .non) (l.map fun i=>its.getD i Value.none)
 | []=>.nil
 | i::l=>.cons (dU r i) (qS r l)
theorem kC (lt:Nat→Nat→Bool) (ys:List V):(xD lt ys).length=ys.length:=by
 unfold xD;rw [List.length_map,Array.length_toList]
 by_cases h:0 < ys.length
 ·exact (eU lt ys.length h).size
 ·have e:ys.length=0:=by omega
  rw [e]
  rfl
theorem pC:CallR X (.builtin "sorted") (fun xs H Q=>∃ l ys lt,xs=[.ref l]∧SqL X.K H l ys∧ys.length < 64∧Srt X H ys lt∧∀ p,H p=none→Q (.ref p) (upd H p (.lst (xD lt ys)))):=by
 intro pins s σ H xs us Q I r h;obtain ⟨l,ys,lt,rfl,hl,h64,hs,q⟩:=h;obtain ⟨u,rfl,ru⟩:=r.one;cases ru;obtain ⟨vs,rv,pl,_⟩:=I.list hl;have hlen:=rv.length;have h64':vs.length < 64:=by omega
 have zl:vs.length≤sizeLine:=by rw [sizeLine_eq]; omega
 have up:∀ {b:Addr} {o:Obj},s.heap.get? b=some o→b≠s.heap.objs.size+1:=fun e=>Nat.ne_of_lt (Nat.lt_succ_of_lt (Heap.lt_size e));have k1:∀ b o,s.heap.get? b=some o→(xK (cB s.heap vs) (s.heap.objs.size+1) vs).get? b=some o:=fun b o e=>Xr (WX e) (up e);obtain ⟨κ,hk,hc⟩:=hs pins σ _ vs X.A.in1.in1 (Nat.le_refl _) (I.kept (t':=s.toks) k1) rv;obtain ⟨k0,_,e2⟩:=Zz (vs:=vs) (ZI s.heap vs);have e3:∃ c,(sortedHeap (cB s.heap vs) (s.heap.objs.size+1) vs (wW lt vs).toArray).get? (s.heap.objs.size+1)=some (seqObj "list" (wW lt vs).toArray c):=⟨_,get?_update_seq e2 fun _=>(wW lt vs).toArray⟩
 obtain ⟨c,e3⟩:=e3;have k2:∀ b o,s.heap.get? b=some o→(sortedHeap (cB s.heap vs) (s.heap.objs.size+1) vs (wW lt vs).toArray).get? b=some o:=fun b o e=>(Heap.get?_update_ne _ _ _ _ (up e)).trans (k1 b o e);refine Calls.call_function_entry kind_sorted plain_sorted entry_sorted (args_sorted1 _) (?_:wpAny _ _ (Builtin.«sorted» _) _ _ _);unfold Builtin.«sorted»;refine wpAny_bind (m:=checkCount "sorted" 1 1 _) (wpAny_pure (wpAny_bind (collect_list pl.isList (wpAny_bind (wpAny_newList ?_ zl)) zl)))
 show wpAny _ _ _ _ _ { s with heap:=cB s.heap vs };rw [XI];refine wpAny_bind (wpAny_holding (wpAny_call_entry slot_list_sort ⟨_,ZI s.heap vs,rfl⟩ entry_list_sort ?inner (args_list_sort _)));refine uD (s:={ s with heap:=cB s.heap vs }) (κ:=κ) (lt:=lt) (ZI s.heap vs) h64' (fun h2 Q' hq=>hk (by omega) Q' hq) (fun i j hi hj Q' hq=>hc i j (by omega) (by omega) Q' hq) ⟨_,rfl,wpAny_pure ⟨_,rfl,?_⟩⟩;refine ⟨.ref (s.heap.objs.size+1),_,I.laid (t':=s.toks) (o:=.lst (xD lt ys)) k2 (Nat.le_succ _) ?_,rfl,q _ (I.hok.fresh (Nat.le_succ _))⟩
 refine ⟨by rw [kC,sizeLine_eq]; omega,wW lt vs,c,?_,e3⟩;unfold xD wW;rw [hlen];exact qS rv _
end
end L2
namespace HT
open PySem PyProof.Rows
inductive TxtsAre:List Value→List Str→Prop
 | nil:TxtsAre [] []
 | cons (z:Str) (t:Tok) {vs:List Value} {zs:List Str}:TxtsAre vs zs→TxtsAre (.str z t::vs) (z::zs)
theorem TxtsAre.length {vs:List Value}{zs:List Str}(h:TxtsAre vs zs):vs.length=zs.length:=by
 induction h with
 | nil=>rfl
 | cons z t h ih=>rw [List.length_cons,List.length_cons,ih]
def lexS:List Str→List Str→Bool
 | [],[]=>false
 | [],_::_=>true
 | _::_,[]=>false
 | x::xs,y::ys=>if x=y then lexS xs ys else decide (x.cps.toList < y.cps.toList)
theorem KD (x y:Str) (xs ys:List Str):lexS (x::xs) (y::ys)=if x=y then lexS xs ys else decide (x.cps.toList < y.cps.toList):=rfl
section
open PySem.SeqAt
open PySem.AutoSeq1 (wpAny_loadPart')
open PySem.MeetsSeq PySem.MeetsSeq2 PySem.MeetsSeq3
theorem cE (l b:Addr) (items items2:Array Value) (n n2:Nat) (dd dd2:Option Addr) (sl sl2:Array (Option Value)) (ns ms:List Str) (hi:TxtsAre items.toList ns) (hj:TxtsAre items2.toList ms) :
  Meets (Builtin.«tuple.__lt__» ⟨[.ref l,.ref b],[]⟩)
   (fun _ R s=>s.heap.get? l=some { cls:=.type "tuple",dict:=dd,data:=.seq items n,slots:=sl }∧s.heap.get? b=some { cls:=.type "tuple",dict:=dd2,data:=.seq items2 n2,slots:=sl2 } ∧
    R (.ok (.ret (.bool (lexS ns ms)))) s) :=
 .of_wp fun prog w A R s hh=>by
  obtain ⟨hp,g,d,tk,os⟩:=s;obtain ⟨hl,hb,h⟩:=hh;have sub:=AutoSeq1.sub_tuple_tuple;have z1:items.size=ns.length:=by rw [← hi.length]; simp
  have z2:items2.size=ms.length:=by rw [← hj.length]; simp
  wp_walk using wpAny_loadPart' hl,wpAny_loadPart' hb,wpAny_forIn_list _ (fun rest b s'=>b.1=none∧s'=⟨hp,g,d,tk,os⟩∧∃ (vs ws:List Value) (ns' ms':List Str),rest=vs.zip ws ∧
   TxtsAre vs ns'∧TxtsAre ws ms'∧ns'.length+items2.size=ms'.length+items.size∧R (.ok (.ret (.bool (lexS ns' ms')))) ⟨hp,g,d,tk,os⟩) _
  case turn =>
   rintro ⟨y,x⟩ rest b s' ⟨hb',rfl,vs,ws,ns',ms',hz,hvi,hwi,hlen,hR⟩
   cases hvi with
   | nil=>rw [List.zip_nil_left] at hz; cases hz
   | cons a t hvi' =>
    cases hwi with
    | nil=>rw [List.zip_nil_right] at hz; cases hz
    | cons c u hwi' =>
     rw [List.zip_cons_cons] at hz;injection hz with hyx hrest
     injection hyx with hy hx
     subst hy hx;rw [KD] at hR
     simp only [List.length_cons] at hlen
     have he:∀ (E:Value→Shared→Prop) (Q:Bool→Shared→Prop),Q (decide (a=c)) ⟨hp,g,d,tk,os⟩→wpAny (model prog w) A.in1 (eqBool (.str a t) (.str c u)) Q E ⟨hp,g,d,tk,os⟩:=fun E Q hq=>wpAny_eqBool_str hq;refine wpAny_bind (he _ _ ?_)
     by_cases hac:a=c
     ·rw [decide_eq_true hac]
      rw [if_pos hac] at hR
      wp_walk
      exact ⟨rfl,rfl,_,_,_,_,hrest,hvi',hwi',by omega,hR⟩
     ·rw [decide_eq_false hac]
      rw [if_neg hac] at hR
      have hri:∀ (E:Value→Shared→Prop) (Q:Value→Shared→Prop),Q (.bool (decide (a.cps.toList < c.cps.toList))) ⟨hp,g,d,tk,os⟩→wpAny (model prog w) A.in1 (richCompare .Lt (.str a t) (.str c u)) Q E ⟨hp,g,d,tk,os⟩ :=
       fun E Q hq=>(PyProof.Rows.lt_str hq:wpAny (model prog w) A.in1 (compareOp .Lt (.str a t) (.str c u)) Q E ⟨hp,g,d,tk,os⟩)
      wp_walk using hri
      exact ⟨_,rfl,(by simpa using hR)⟩
  case fin =>
   rintro ⟨b1,b2⟩ s' ⟨hb',rfl,vs,ws,ns',ms',hz,hvi,hwi,hlen,hR⟩
   simp only at hb'
   subst hb'
   have hv:lexS ns' ms'=decide (items.size < items2.size):=by
    cases hvi with
    | nil =>
     cases hwi with
     | nil =>
      simp only [List.length_nil] at hlen
      exact (decide_eq_false (by omega)).symm
     | cons c u hw =>
      simp only [List.length_nil,List.length_cons] at hlen
      exact (decide_eq_true (by omega)).symm
    | cons a t hv =>
     cases hwi with
     | nil =>
      simp only [List.length_nil,List.length_cons] at hlen
      exact (decide_eq_false (by omega)).symm
     | cons c u hw =>
      rw [List.zip_cons_cons] at hz;cases hz
   rw [hv] at hR
   wp_walk
   exact ⟨_,rfl,(by simpa [Builtin.Tuple.tupleCompareSizes] using hR)⟩
  case h =>
   exact ⟨rfl,rfl,items.toList,items2.toList,ns,ms,rfl,hi,hj,by omega,h⟩
end
section
theorem lt_tupStrs {prog:Program}{w:World}{A:Around}{E:Value→Shared→Prop}{s:Shared}{l b:Addr}{items items2:Array Value}{ns ms:List Str}{Q:Value→Shared→Prop}(hl:IsTup s.heap l items) (hb:IsTup s.heap b items2) (hi:TxtsAre items.toList ns) (hj:TxtsAre items2.toList ms)
  (hu:A.units < cLine) (h:Q (.bool (lexS ns ms)) s):wpAny (model prog w) A (compareOp .Lt (.ref l) (.ref b)) Q E s:=by
 obtain ⟨⟨c1,dd,d1,sl⟩,ho,q1,n,q2⟩:=hl;obtain ⟨⟨c2,dd2,d2,sl2⟩,ho2,q3,n2,q4⟩:=hb
 simp only at q1 q2 q3 q4
 subst q1 q2 q3 q4
 exact richCompare_meets_room (op:=.Lt) ⟨_,ho,rfl⟩ ⟨_,ho2,rfl⟩ PySem.F.slot_tuple_lt PySem.F.entry_tuple_lt (PySem.F.args_tuple_lt_2 _ _) (cE l b items items2 n n2 dd dd2 sl sl2 ns ms hi hj)
  ⟨ho,ho2,show Value.bool (lexS ns ms)≠Value.notImplemented∧Q (.bool (lexS ns ms)) s from ⟨(fun x=>nomatch x),h⟩⟩ hu
end
end HT
namespace L2
open PySem PySem.W PyProof.Rows
theorem Z1 {zs:List Str}{its:List Value}(r:Vals (zs.map V.str) its):HT.TxtsAre its zs:=by
 induction zs generalizing its with
 | nil=>cases r; exact .nil
 | cons z zs ih =>
  rw [List.map_cons] at r
  cases r with
  | cons a b =>
   obtain ⟨t,rfl⟩:=a;exact .cons z t (ih b)
def ltP (x y:List Str×Int):Bool:=if x.1=y.1 then decide (x.2 < y.2) else HT.lexS x.1 y.1
def qE (H:Hp) (v:V) (c:List Str×Int):Prop:=∃ a kb,v=.ref a∧H a=some (.tup [.ref kb,.int c.2])∧H kb=some (.tup (c.1.map V.str))
theorem WC (k:List Str):(k.map (Sum.inr:Str→Key)).map kV=k.map V.str:=by
 rw [List.map_map]
 rfl
theorem Jl {k k':List Str}:(k.map (Sum.inr:Str→Key)=k'.map Sum.inr)↔k=k':=by
 constructor
 ·intro h
  induction k generalizing k' with
  | nil=>cases k' with
   | nil=>rfl
   | cons _ _=>cases h
  | cons x k ih=>cases k' with
   | nil=>cases h
   | cons y k' =>
    rw [List.map_cons,List.map_cons] at h;injection h with h1 h2
    rw [ih h2,Sum.inr.inj h1]
 ·rintro rfl; rfl
theorem kT {X:Cx}{pins:List (Addr×Obj)}{σ:St}{H:Hp}{s:Shared}{v:V}{u:Value}{c:List Str×Int}(I:Inv X pins σ H s) (h:qE H v c) (r:RelV v u) :
  ∃ a kb o n t,u=.ref a∧s.heap.get? a=some o∧o.cls=.type "tuple" ∧ o.data=.seq #[.ref kb,.int c.2 t] n∧H kb=some (.tup (c.1.map V.str)):=by
 obtain ⟨a,kb,rfl,h1,h2⟩:=h;cases (show u=Value.ref a from r);obtain ⟨_,its,rv,o,e1,e2,⟨n,e3⟩,_⟩:=(show ObjOk X.prog X.w H s.heap a (.tup [.ref kb,.int c.2]) from I.hok a _ h1);obtain ⟨u1,u2,rfl,r1,r2⟩:=QU rv;cases (show u1=Value.ref kb from r1);obtain ⟨t,rfl⟩:=r2;exact ⟨a,kb,o,n,t,rfl,e1,e2,e3,h2⟩
theorem J6 {X:Cx}{H:Hp}{ys:List V}(hu:X.A.units+2 < cLine) (cs:Nat→List Str×Int) (hy:∀ i,i < ys.length→qE H (ys.getD i .non) (cs i)):Srt X H ys (fun i j=>ltP (cs i) (cs j)):=by
 intro pins σ s its A hA I r;have hu':A.units < cLine:=by omega
 have all:∀ v∈ys,∃ c,qE H v c:=fun v hv=>by
  obtain ⟨i,hi,e⟩:=List.getElem_of_mem hv;have q:=hy i hi;have eg:ys.getD i .non=v:=by simp [List.getD,hi,e]
  rw [eg] at q;exact ⟨_,q⟩
 have tups:∀ {ys:List V} {its:List Value},Vals ys its→(∀ v∈ys,∃ c,qE H v c)→∃ fs,KatTups s.heap its fs∧fs.length=its.length∧∀ f∈fs,Looks (model X.prog X.w) s.heap (typeOf f) (.type "tuple"):=by
  intro ys its r
  induction r with
  | nil=>exact fun _=>⟨[],.nil,rfl,fun f hf=>nomatch hf⟩
  | @cons y u ys its ry _ ih =>
   intro hall;obtain ⟨fs,k1,k2,k3⟩:=ih fun v hv=>hall v (List.mem_cons_of_mem _ hv);obtain ⟨c,hc⟩:=hall y List.mem_cons_self;obtain ⟨a,kb,o,n,t,rfl,e1,e2,e3,e4⟩:=kT I hc ry;obtain ⟨_,its2,_,o2,f1,f2,_,_⟩:=(show ObjOk X.prog X.w H s.heap kb (.tup (c.1.map V.str)) from I.hok kb _ e4);refine ⟨.ref kb::fs,.cons e1 e2 e3 rfl k1,by rw [List.length_cons,List.length_cons,k2],fun f hf => ?_⟩
   rcases List.mem_cons.mp hf with rfl | hf
   ·rw [← f2]
    exact (show Looks (model X.prog X.w) s.heap (typeOf (.ref kb)) o2.cls from (Looks.ld f1).andThen .now)
   ·exact k3 f hf
 have hlen:=r.length;refine ⟨tuples' false,fun h2 Q hq => ?_,fun i j hi hj Q hq => ?_⟩
 ·obtain ⟨fs,k1,k2,k3⟩:=tups r all
  exact kat_kind (T:=.type "tuple") k1 (by omega) k3 rfl hq
 ·have hq:Q (ltP (cs i) (cs j)) s:=hq
  obtain ⟨a,ka,oa,na,ta,ea,a1,a2,a3,a4⟩:=kT I (hy i hi) (dU r i);obtain ⟨b,kb,ob,nb,tb,eb,b1,b2,b3,b4⟩:=kT I (hy j hj) (dU r j);rw [ea,eb];refine kat_lt a1 a3 b1 b3 ?_;have ka1:=pB I.hok (ks:=(cs i).1.map Sum.inr) (by rw [WC]; exact a4);have kb1:=pB I.hok (ks:=(cs j).1.map Sum.inr) (by rw [WC]; exact b4);refine kat_cons (wpAny_eqBool_tuple (knd:=lX X.prog X.w) hu' ka1 kb1 ?_)
  by_cases hk:(cs i).1=(cs j).1
  ·rw [decide_eq_true (Jl.mpr hk)]
   refine kat_yes (kat_cons (wpAny_eqBool_int ?_));have hl:ltP (cs i) (cs j)=decide ((cs i).2 < (cs j).2):=if_pos hk;rw [hl] at hq
   by_cases hn:(cs i).2=(cs j).2
   ·rw [show ((cs i).2==(cs j).2)=true by simpa using hn]
    refine kat_yes (kat_nil ?_);rw [hn,decide_eq_false (Int.lt_irrefl _)] at hq;exact hq
   ·rw [show ((cs i).2==(cs j).2)=false by simpa using hn]
    refine kat_no (kat_one _ _ (PyProof.Rows.lt_int ?_));exact hq
  ·rw [decide_eq_false (fun e=>hk (Jl.mp e))]
   have hl:ltP (cs i) (cs j)=HT.lexS (cs i).1 (cs j).1:=if_neg hk;rw [hl] at hq;obtain ⟨_,ia,ra,pa⟩:=(show ObjOk X.prog X.w H s.heap ka (.tup ((cs i).1.map V.str)) from I.hok ka _ a4);obtain ⟨_,ib,rb,pb⟩:=(show ObjOk X.prog X.w H s.heap kb (.tup ((cs j).1.map V.str)) from I.hok kb _ b4);refine kat_no (kat_one _ _ (HT.lt_tupStrs pa.is pb.is (Z1 ra) (Z1 rb) hu' ?_));exact hq
def Wr (x y:Str×Int):Bool:=if x.1=y.1 then decide (x.2 < y.2) else decide (x.1.cps.toList < y.1.cps.toList)
def YA (H:Hp) (v:V) (c:Str×Int):Prop:=∃ a,v=.ref a∧H a=some (.tup [.str c.1,.int c.2])
theorem Zk {X:Cx}{pins:List (Addr×Obj)}{σ:St}{H:Hp}{s:Shared}{v:V}{u:Value}{c:Str×Int}(I:Inv X pins σ H s) (h:YA H v c) (r:RelV v u) :
  ∃ a o n t t',u=.ref a∧s.heap.get? a=some o∧o.cls=.type "tuple" ∧ o.data=.seq #[.str c.1 t',.int c.2 t] n:=by
 obtain ⟨a,rfl,h1⟩:=h;cases (show u=Value.ref a from r);obtain ⟨_,its,rv,o,e1,e2,⟨n,e3⟩,_⟩:=(show ObjOk X.prog X.w H s.heap a (.tup [.str c.1,.int c.2]) from I.hok a _ h1);obtain ⟨u1,u2,rfl,r1,r2⟩:=QU rv;obtain ⟨t',rfl⟩:=r1;obtain ⟨t,rfl⟩:=r2;exact ⟨a,o,n,t,t',rfl,e1,e2,e3⟩
theorem Vz {X:Cx}{H:Hp}{ys:List V}(cs:Nat→Str×Int) (hy:∀ i,i < ys.length→YA H (ys.getD i .non) (cs i)):Srt X H ys (fun i j=>Wr (cs i) (cs j)):=by
 intro pins σ s its A hA I r
 have all:∀ v∈ys,∃ c,YA H v c:=fun v hv=>by
  obtain ⟨i,hi,e⟩:=List.getElem_of_mem hv;have q:=hy i hi;have eg:ys.getD i .non=v:=by simp [List.getD,hi,e]
  rw [eg] at q;exact ⟨_,q⟩
 have tups:∀ {ys:List V} {its:List Value},Vals ys its→(∀ v∈ys,∃ c,YA H v c)→∃ fs,KatTups s.heap its fs∧fs.length=its.length∧∀ f∈fs,Looks (model X.prog X.w) s.heap (typeOf f) (.type "str"):=by
  intro ys its r
  induction r with
  | nil=>exact fun _=>⟨[],.nil,rfl,fun f hf=>nomatch hf⟩
  | @cons y u ys its ry _ ih =>
   intro hall;obtain ⟨fs,k1,k2,k3⟩:=ih fun v hv=>hall v (List.mem_cons_of_mem _ hv);obtain ⟨c,hc⟩:=hall y List.mem_cons_self;obtain ⟨a,o,n,t,t',rfl,e1,e2,e3⟩:=Zk I hc ry;refine ⟨.str c.1 t'::fs,.cons e1 e2 e3 rfl k1,by rw [List.length_cons,List.length_cons,k2],fun f hf => ?_⟩
   rcases List.mem_cons.mp hf with rfl | hf
   ·exact .now
   ·exact k3 f hf
 have hlen:=r.length;refine ⟨tuples' true,fun h2 Q hq => ?_,fun i j hi hj Q hq => ?_⟩
 ·obtain ⟨fs,k1,k2,k3⟩:=tups r all
  exact kat_kind (T:=.type "str") k1 (by omega) k3 rfl hq
 ·have hq:Q (Wr (cs i) (cs j)) s:=hq
  obtain ⟨a,oa,na,ta,ta',ea,a1,a2,a3⟩:=Zk I (hy i hi) (dU r i);obtain ⟨b,ob,nb,tb,tb',eb,b1,b2,b3⟩:=Zk I (hy j hj) (dU r j);rw [ea,eb];refine kat_lt a1 a3 b1 b3 ?_;refine kat_cons (wpAny_eqBool_str ?_)
  by_cases hk:(cs i).1=(cs j).1
  ·rw [decide_eq_true hk]
   refine kat_yes (kat_cons (wpAny_eqBool_int ?_));have hl:Wr (cs i) (cs j)=decide ((cs i).2 < (cs j).2):=if_pos hk;rw [hl] at hq
   by_cases hn:(cs i).2=(cs j).2
   ·rw [show ((cs i).2==(cs j).2)=true by simpa using hn]
    refine kat_yes (kat_nil ?_);rw [hn,decide_eq_false (Int.lt_irrefl _)] at hq;exact hq
   ·rw [show ((cs i).2==(cs j).2)=false by simpa using hn]
    refine kat_no (kat_one _ _ (PyProof.Rows.lt_int ?_));exact hq
  ·rw [decide_eq_false hk]
   have hl:Wr (cs i) (cs j)=decide ((cs i).1.cps.toList < (cs j).1.cps.toList):=if_neg hk;rw [hl] at hq;exact kat_no (kas_lt_str hq)
def Xy (H:Hp) (f:Addr→Option (List V)):Hp:=fun b=>match f b with
 | some xs=>some (.tup xs)
 | none=>H b
theorem qI {H:Hp}{f:Addr→Option (List V)}{b:Addr}{xs:List V}(e:f b=some xs):Xy H f b=some (.tup xs):=by unfold Xy; rw [e]
theorem cF {H:Hp}{f:Addr→Option (List V)}{b:Addr}(e:f b=none):Xy H f b=H b:=by unfold Xy; rw [e]
theorem sY {H:Hp}{f:Addr→Option (List V)}(hf:∀ b xs,f b=some xs→H b=none) {b:Addr}{o:HO}(e:H b=some o):Xy H f b=some o:=by
 cases z:f b with
 | none=>rw [cF z]; exact e
 | some xs=>rw [hf b xs z] at e; cases e
section
variable {X:Cx}{pins:List (Addr×Obj)}{σ:St}{H:Hp}{s:Shared}{h':Heap}
theorem Inv.tups {f:Addr→Option (List V)}{t':Nat}(I:Inv X pins σ H s) (k:∀ b u,s.heap.get? b=some u→h'.get? b=some u)
  (hf:∀ b xs,f b=some xs→s.heap.objs.size≤b∧xs.length≤sizeLine∧∃ its:List Value,Vals xs its∧IsTupN h' b its.toArray):Inv X pins σ (Xy H f) { s with heap:=h',toks:=t' }:=by
 have fr:∀ b xs,f b=some xs→H b=none:=fun b xs e=>I.hok.fresh (hf b xs e).1
 have nf:∀ {b:Addr} {o:Obj},s.heap.get? b=some o→f b=none:=fun {b o} e=>by
  cases z:f b with
  | none=>rfl
  | some xs=>exact absurd (Heap.lt_size e) (Nat.not_lt.mpr (hf b xs z).1)
 refine I.un ⟨fun b o q _ _ _=>k b o q,fun b o q _ _ _=>⟨o.slots,k b o q⟩,fun b o q n _=>by rw [cF (nf q)]; exact n,fun b o q _=>⟨o,k b o q⟩,fun b xs q=>sY fr q,fun b o u q=>sY fr q,fun b ps q=>⟨#[],by rw [sY fr q]; simp⟩⟩ fun b u e => ?_
 cases z:f b with
 | some xs =>
  rw [qI z] at e;cases e;obtain ⟨_,h2,its,h3,h4⟩:=hf b xs z;exact ⟨h2,its,h3,h4⟩
 | none =>
  rw [cF z] at e;exact (I.hok b u e).stay (fun c v _ q=>k c v q) (fun c q=>sY fr q) fun c xs q=>sY fr q
end
section
variable {X:Cx}
theorem Q0 {pins:List (Addr×Obj)}{σ:St}{H:Hp}{s:Shared}{A:Around}{ys:List V}{vs:List Value}{lt:Nat→Nat→Bool}{Z:PySem.Fin→Shared→Prop}{E:Value→Shared→Prop}(hA:A.in1.units≤X.A.units+2) (I:Inv X pins σ H s) (rv:Vals ys vs) (h64:ys.length < 64) (hs:Srt X H ys lt)
  (fin:∀ p s',H p=none→Inv X pins σ (upd H p (.lst (xD lt ys))) s'→Z (.done (.ret (.ref p))) s') :
  wpAny (model X.prog X.w) A (newList vs >>= fun l=>holding [l] (call (.builtin "list.sort") [l] []) >>= fun _=>ret l) Z E s:=by
 have hlen:=rv.length;have h64':vs.length < 64:=by omega
 have zl:vs.length≤sizeLine:=by rw [sizeLine_eq]; omega
 refine wpAny_bind (wpAny_newList ?_ zl);have ga:(s.heap.push (seqObj "list" vs.toArray 0)).get? s.heap.objs.size=some (seqObj "list" vs.toArray 0):=Heap.get?_push_size _ rfl;have up:∀ {b:Addr} {o:Obj},s.heap.get? b=some o→b≠s.heap.objs.size:=fun e=>Nat.ne_of_lt (Heap.lt_size e);have k1:∀ b o,s.heap.get? b=some o→(xK (s.heap.push (seqObj "list" vs.toArray 0)) s.heap.objs.size vs).get? b=some o:=fun b o e=>Xr (Heap.get?_push_of_some _ e) (up e)
 obtain ⟨κ,hk,hc⟩:=hs pins σ _ vs A.in1 hA (I.kept (t':=s.toks) k1) rv;obtain ⟨k0,_,e2⟩:=Zz (vs:=vs) ga;have e3:∃ c,(sortedHeap (s.heap.push (seqObj "list" vs.toArray 0)) s.heap.objs.size vs (wW lt vs).toArray).get? s.heap.objs.size=some (seqObj "list" (wW lt vs).toArray c):=⟨_,get?_update_seq e2 fun _=>(wW lt vs).toArray⟩;obtain ⟨c,e3⟩:=e3;have k2:∀ b o,s.heap.get? b=some o→(sortedHeap (s.heap.push (seqObj "list" vs.toArray 0)) s.heap.objs.size vs (wW lt vs).toArray).get? b=some o:=fun b o e=>(Heap.get?_update_ne _ _ _ _ (up e)).trans (k1 b o e)
 refine wpAny_bind (wpAny_holding (wpAny_call_entry slot_list_sort ⟨_,ga,rfl⟩ entry_list_sort ?inner (args_list_sort _)));refine uD (s:={ s with heap:=s.heap.push (seqObj "list" vs.toArray 0) }) (κ:=κ) (lt:=lt) ga h64' (fun h2 Q' hq=>hk (by omega) Q' hq) (fun i j hi hj Q' hq=>hc i j (by omega) (by omega) Q' hq) ⟨_,rfl,wpAny_pure ?_⟩;refine fin _ _ (I.hok.fresh (Nat.le_refl _)) (I.laid (t':=s.toks) (o:=.lst (xD lt ys)) k2 (Nat.le_refl _) ?_)
 refine ⟨by rw [kC,sizeLine_eq]; omega,wW lt vs,c,?_,e3⟩;unfold xD wW;rw [hlen];exact qS rv _
abbrev pR (v d:Addr):Heap→Prop:=fun h=>h.IsItemsView v d
def mkF (as:List Addr) (kvs:List (Key×V)):Addr→Option (List V):=fun b=>((as.zip kvs).find? fun p=>p.1==b).map fun p=>[kV p.2.1,p.2.2]
theorem W1 {as:List Addr}{kvs:List (Key×V)}(nd:as.Nodup) {j:Nat}{a:Addr}{p:Key×V}(ha:as[j]?=some a) (hp:kvs[j]?=some p):(as.zip kvs).find? (fun q=>q.1==a)=some (a,p):=by
 induction as generalizing kvs j with
 | nil=>cases ha
 | cons x as ih =>
  cases kvs with
  | nil=>cases hp
  | cons y kvs =>
   rw [List.nodup_cons] at nd;rw [List.zip_cons_cons,List.find?_cons]
   cases j with
   | zero=>cases ha; cases hp; simp
   | succ j =>
    have ha:as[j]?=some a:=ha;have ne:(x==a)=false:=beq_false_of_ne fun e=>nd.1 (e▸List.mem_of_getElem? ha);rw [ne];exact ih nd.2 ha hp
theorem nB {as:List Addr}{kvs:List (Key×V)}{b:Addr}{q:Addr×(Key×V)}(h:(as.zip kvs).find? (fun q=>q.1==b)=some q):q.1=b∧∃ j:Nat,as[j]?=some b∧kvs[j]?=some q.2:=by
 have h1:=List.find?_some h;have h1:q.1=b:=eq_of_beq h1;have h2:=List.mem_of_find?_eq_some h;obtain ⟨j,hj⟩:=List.mem_iff_getElem?.mp h2;rw [List.getElem?_zip_eq_some] at hj;exact ⟨h1,j,by rw [← h1]; exact hj.1,hj.2⟩
theorem oA {H:Hp}:∀ {as:List Addr}{kvs:List (Key×V)},as.length=kvs.length→(∀ (j:Nat) (a:Addr) (p:Key×V),as[j]?=some a→kvs[j]?=some p→H a=some (.tup [kV p.1,p.2]))→kM H as kvs
 | [],[],_,_=>.nil
 | [],_::_,h,_=>nomatch h
 | _::_,[],h,_=>nomatch h
 | a::as,p::kvs,h,k=>.cons (k 0 a p rfl rfl) (oA (Nat.succ.inj h) fun j a' p' h1 h2=>k (j+1) a' p' h1 h2)
theorem Q7 {P:Program}{w:World}{k:Key}{u:Value}(h:(lX P w).is k u=true):RelV (kV k) u:=by
 rcases rJ h with ⟨i,t,rfl,rfl⟩ | ⟨x,t,rfl,rfl⟩ | ⟨rfl,rfl⟩
 ·exact ⟨t,rfl⟩
 ·exact ⟨t,rfl⟩
 ·exact rfl
theorem Wy {kvs:List (Key×V)}{vs:List (Key×Value)}(r:KV kvs vs):∀ {j:Nat}{p:Key×V}{q:Key×Value},kvs[j]?=some p→vs[j]?=some q→p.1=q.1∧RelV p.2 q.2:=by
 induction r with
 | nil=>intro j p q h; cases h
 | cons h _ ih =>
  intro j p q h1 h2
  cases j with
  | zero=>cases h1; cases h2; exact h
  | succ j=>exact ih (j:=j) h1 h2
theorem QB (hc:X.calm=true):CallR X (.builtin "sorted") (fun xs H Q=>∃ v d kvs lt,xs=[.ref v]∧H v=some (.ext (pR v d))∧H d=some (.dK kvs)∧kvs.length < 64 ∧
  ∀ as H1,Same H H1→kM H1 as kvs→(∀ a∈as,H a=none)→(∀ a,H a=none→H1 a≠none→a∈as)→Srt X H1 (List.map V.ref as) lt∧∀ p,H1 p=none→Q (.ref p) (upd H1 p (.lst (xD lt (List.map V.ref as))))):=by
 intro pins s σ H xs us Q I r h;obtain ⟨v,d,kvs,lt,rfl,hv,hd,h64,hq⟩:=h;obtain ⟨u,rfl,ru⟩:=r.one;cases ru;obtain ⟨z,hS,vs,rel,dd⟩:=XO I.hok hd;obtain ⟨hview,_,_⟩:=(show ObjOk X.prog X.w H s.heap v (.ext (pR v d)) from I.hok v _ hv);obtain ⟨ep,da⟩:=dd.dictAt;have hl:kvs.length=vs.length:=rel.length;refine Calls.call_function_entry kind_sorted plain_sorted entry_sorted (args_sorted1 _) (?_:wpAny _ _ (Builtin.«sorted» _) _ _ _)
 unfold Builtin.«sorted»;refine wpAny_bind (m:=checkCount "sorted" 1 1 _) (wpAny_pure (wpAny_bind (kdx_collect (knd:=lX X.prog X.w) (by simp [I.ok.hd hc]) hview da (by rw [← hl]; exact z) fun h' tk as keep hlen G => ?_)));have nd:as.Nodup:=G.rise.imp fun h=>Nat.ne_of_lt h;have hlen':as.length=kvs.length:=hlen.trans hl.symm;have up:∀ a∈as,s.heap.objs.size≤a:=fun a ha=>Nat.le_of_lt (G.above a ha)
 have I1:Inv X pins σ (Xy H (mkF as kvs)) { s with heap:=h',toks:=tk }:=I.tups keep fun b xs e=>by
  unfold mkF at e
  cases z:(as.zip kvs).find? fun p=>p.1==b with
  | none=>rw [z] at e; cases e
  | some q =>
   rw [z] at e;cases e;obtain ⟨e1,j,e2,e3⟩:=nB z;obtain ⟨key,k,x,g1,g2,g3⟩:=G.pairs j b e2;obtain ⟨r1,r2⟩:=Wy rel e3 g1;have r1:q.2.1=k:=r1;refine ⟨up b (List.mem_of_getElem? e2),by show 2≤sizeLine; decide,[key,x],.cons (by rw [r1]; exact Q7 g2) (.cons r2 .nil),⟨_,g3,rfl,⟨_,rfl⟩,rfl⟩⟩
 have fr:∀ b xs,mkF as kvs b=some xs→H b=none:=fun b xs e=>by
  unfold mkF at e
  cases z:(as.zip kvs).find? fun p=>p.1==b with
  | none=>rw [z] at e; cases e
  | some q =>
   obtain ⟨_,j,e2,_⟩:=nB z;exact I.hok.fresh (up b (List.mem_of_getElem? e2))
 obtain ⟨hs,q⟩:=hq as (Xy H (mkF as kvs)) (fun b o e=>sY fr e) (oA hlen' fun j a p h1 h2=>qI (by unfold mkF; rw [W1 nd h1 h2]; rfl)) (fun a ha=>I.hok.fresh (up a ha)) fun a n1 n2=>by
  cases z:mkF as kvs a with
  | none=>rw [cF z] at n2; exact absurd n1 n2
  | some xs =>
   unfold mkF at z
   cases y:(as.zip kvs).find? fun p=>p.1==a with
   | none=>rw [y] at z; cases z
   | some q =>
    obtain ⟨_,j,e2,_⟩:=nB y;exact List.mem_of_getElem? e2
 have rv:Vals (as.map V.ref) (as.map Value.ref):=by
  clear nd hlen' up I1 fr hs q hlen G hq
  induction as with
  | nil=>exact .nil
  | cons a as ih=>exact .cons rfl ih
 exact Q0 (Nat.le_refl _) I1 rv (by rw [List.length_map]; omega) hs fun p s' hp I'=>⟨_,rfl,.ref p,_,I',rfl,q p hp⟩
end
end L2
namespace L2
open PySem PySem.Spec PyProof.Rows
section
variable {X:Cx}{pins:List (Addr×Obj)}{σ:St}{H:Hp}{s:Shared}{d:Addr}{o:Obj}{kvs:List (Key×V)}
theorem Inv.freeze {t':Nat}(I:Inv X pins σ H s) (hd:H d=some (.dK kvs)) (ho:s.heap.get? d=some o):Inv X pins σ (upd H d (.frz o (.dK kvs))) { s with toks:=t' }:=by
 have ne:∀ {b:Addr} {u:HO},H b=some u→u≠.dK kvs→b≠d:=fun e n z=>by subst z; rw [hd] at e; cases e; exact n rfl
 refine I.un (h':=s.heap) ⟨fun b u q _ _ _=>q,fun b u q _ _ _=>⟨u.slots,q⟩,fun b u q n _=>by rw [aQ (fun z=>by subst z; rw [hd] at n; cases n)]; exact n,fun b u q _=>⟨u,q⟩,
  fun b xs q=>by rw [aQ (ne q nofun)]; exact q,fun b u v q=>by rw [aQ (ne q nofun)]; exact q,fun b ps q=>⟨#[],by rw [aQ (ne q nofun),q]; simp⟩⟩ fun b u e => ?_
 have st:∀ {b:Addr} {u:HO},H b=some u→ObjOk X.prog X.w (upd H d (.frz o (.dK kvs))) s.heap b u:=fun {b u} e=>(I.hok b u e).stay (fun c v _ q=>q) (fun c q=>by rw [aQ (ne q nofun)]; exact q) fun c xs q=>by rw [aQ (ne q nofun)]; exact q
 by_cases hb:b=d
 ·subst hb
  rw [eQ] at e;cases e;exact ⟨ho,st hd⟩
 ·rw [aQ hb] at e
  exact st e
def NF (X:Cx) (d:Addr):Prop:=∀ ob u,X.H₀ d≠some (.frz ob u)
theorem Inv.nf (I:Inv X pins σ H s) (hd:H d=some (.dK kvs)):NF X d:=fun ob u e=>by
 have:=I.base.frzs d ob u e;rw [hd] at this; cases this
theorem Inv.thaw (I:Inv X pins σ H s) (hd:H d=some (.frz o (.dK kvs))) (nf:NF X d):Inv X pins σ (upd H d (.dK kvs)) s:=by
 have ne:∀ {b:Addr} {u:HO},H b=some u→u≠.frz o (.dK kvs)→b≠d:=fun e n z=>by subst z; rw [hd] at e; cases e; exact n rfl
 have nn:∀ {b:Addr},H b=none→b≠d:=fun e z=>by subst z; rw [hd] at e; cases e
 obtain ⟨m,hm,hl⟩:=I.loc;have B:=I.base;have st:∀ {b:Addr} {u:HO},H b=some u→ObjOk X.prog X.w (upd H d (.dK kvs)) s.heap b u:=fun {b u} e=>(I.hok b u e).stay (fun c v _ q=>q) (fun c q=>by rw [aQ (ne q nofun)]; exact q) fun c xs q=>by rw [aQ (ne q nofun)]; exact q
 refine ⟨I.ok,I.os,I.bare,⟨B.keep,B.slot,fun b u q n x=>by rw [aQ (nn (B.free b u q n x))]; exact B.free b u q n x,B.there,fun b xs q => ?_,fun b ob u q => ?_,fun b ps q => ?_⟩,⟨m,hm,hl⟩,I.cell,by rw [aQ (nn I.free)]; exact I.free,fun x c e=>by rw [aQ (nn (I.freeC x c e))]; exact I.freeC x c e,fun p hp => ?_,fun b u e => ?_,I.len⟩
 ·have:=B.tups b xs q
  rw [aQ (ne this nofun)]; exact this
 ·have:=B.frzs b ob u q
  have hb:b≠d:=fun z=>by subst z; exact nf ob u q
  rw [aQ hb]; exact this
 ·obtain ⟨more,e⟩:=B.tbls b ps q
  exact ⟨more,by rw [aQ (ne e nofun)]; exact e⟩
 ·obtain ⟨a1,a2,a3⟩:=I.pin p hp
  exact ⟨a1,by rw [aQ (nn a2)]; exact a2,a3⟩
 ·by_cases hb:b=d
  ·subst hb
   rw [eQ] at e;cases e;exact (show ObjOk X.prog X.w _ s.heap b (.frz o (.dK kvs)) from st hd).2
  ·rw [aQ hb] at e
   exact st e
theorem je_thaw {e:Expr}{t:TE}(h:JE X e t):JE X e (fun σ H Q=>t σ H fun v H'=>∃ d o kvs,H' d=some (.frz o (.dK kvs))∧NF X d∧Q v (upd H' d (.dK kvs))) :=
 ⟨fun pins s σ H Q I q=>thn (h.h pins s σ H _ I q) fun u s1 ⟨v,H1,I1,r1,d,o,kvs,q1,q2,q3⟩=>⟨v,_,I1.thaw q1 q2,r1,q3⟩⟩
end
def Itd (o:Obj) (d:Addr) (kvs:List (Key×V)):It :=
 ⟨fun i H=>i < kvs.length∧H d=some (.frz o (.dK kvs)),fun i H x H'=>H'=H∧∃ p,kvs[i]?=some p∧x=kV p.1,fun i H=>kvs.length≤i∧H d=some (.frz o (.dK kvs))⟩
theorem W0 {X:Cx}{pins:List (Addr×Obj)}{σ:St}{H:Hp}{s:Shared}{d:Addr}{o:Obj}{kvs:List (Key×V)}{es:Array DictEntry}{ep:Nat}(I:Inv X pins σ H s) (hd:H d=some (.frz o (.dK kvs))) (ho:o.data=.dict es ep) :
  ∃ vs,KV kvs vs∧s.heap.DictAt (lX X.prog X.w) d vs ep∧(d==sysModules)=false:=by
 obtain ⟨e,_,hS,vs,rel,o',es',ep',q1,q2,q3,q4⟩:=(show ObjOk X.prog X.w H s.heap d (.frz o (.dK kvs)) from I.hok d _ hd);rw [e] at q1;cases q1;rw [ho] at q3;cases q3;exact ⟨vs,rel,⟨o,es,e,q2,ho,q4⟩,hS⟩
theorem J3 {P:Program}{w:World}{K:PySem.W.Frag}{tg:Expr}(o:Obj) (d it:Addr) (kvs:List (Key×V)) (es:Array DictEntry) (ep:Nat) (ho:o.data=.dict es ep):X8 P w K tg (Itd o d kvs) [it] it (fun i h=>h.IsKeyIter it d i kvs.length ep) where
 mem:=by simp
 obj:=fun i h st b hb=>by
  have e:b=it:=by simpa using hb
  subst e;obtain ⟨o,e,c,d⟩:=st;exact ⟨o,e,fun v z=>by rw [d] at z; cases z⟩
 keep:=fun i h h' st k=>let ⟨ob,e,r⟩:=st; ⟨ob,k it (by simp) ob e,r⟩
 item:=by
  intro X hP hw hK hc i pins s σ H E I hf st hg;subst hP hw hK;obtain ⟨hi,hd⟩:=hg;obtain ⟨vs,rel,da,_⟩:=W0 I hd ho;have hl:kvs.length=vs.length:=rel.length;obtain ⟨f0,f1,f2,f3,f4,f5⟩:=hf it (by simp);have hv:vs[i]?=some (vs[i]'(by omega)):=List.getElem?_eq_getElem _;have hk:kvs[i]?=some kvs[i]:=List.getElem?_eq_getElem _;obtain ⟨r1,_⟩:=Wy rel hk hv;rw [hl] at st;refine wpAny_pyNext_dict_item (knd:=lX X.prog X.w) st da hv fun key h' ik st' sb => ?_
  have I1:Inv X pins σ H { s with heap:=h' }:=I.turned (t':=s.toks) (fun b o hb e=>(sb.2 b hb).trans e) f0 f1 f3 f4 f5;obtain ⟨ob,e,c,dt⟩:=id st';exact ⟨key,rfl,XJ (s:={ s with heap:=h' }) e c dt (by decide) ⟨kV kvs[i].1,H,I1,by rw [r1]; exact Q7 ik,⟨rfl,_,hk,rfl⟩,by rw [hl]; exact st',fun b hb=>(hf b hb).1⟩⟩
 done:=by
  intro X hP hw hK hc i pins s σ H E I hf st hg;subst hP hw hK;obtain ⟨hi,hd⟩:=hg;obtain ⟨vs,rel,da,_⟩:=W0 I hd ho;have hl:kvs.length=vs.length:=rel.length;obtain ⟨f0,f1,f2,f3,f4,f5⟩:=hf it (by simp);rw [hl] at st;exact wpAny_pyNext_dict_end (knd:=lX X.prog X.w) (I.ok.hd hc) st da (List.getElem?_eq_none_iff.mpr (by omega)) fun h' eb=>⟨rfl,I.turned (t':=s.toks) (fun b o hb e=>eb b o hb e) f0 f1 f3 f4 f5⟩
 self:=fun _ _ _ _ _ st h=>wpAny_pyIter_keyiter st h
section
variable {X:Cx}{tg:Expr}
def iDict (X:Cx) (td:TE):TI:=fun σ H R=>td σ H fun x H1=>∃ d kvs,x=.ref d∧H1 d=some (.dK kvs)∧∀ o,NF X d→R (Itd o d kvs) (upd H1 d (.frz o (.dK kvs)))
theorem ji_dict {e:Expr}{td:TE}(he:JE X e td):JI X tg e (iDict X td):=by
 refine ⟨fun pins s σ H R I h => ?_⟩;refine thn (he.h pins s σ H _ I h) fun v s1 ⟨x,H1,I1,r1,q1⟩ => ?_;obtain ⟨d,kvs,rfl,hd,q⟩:=q1;cases (show v=Value.ref d from r1);obtain ⟨z,hS,vs,rel,dd⟩:=XO I1.hok hd;obtain ⟨ep,da⟩:=dd.dictAt;obtain ⟨o,es,g1,g2,g3,g4⟩:=id da;have hl:kvs.length=vs.length:=rel.length;have I2:=I1.freeze (t':=s1.toks) hd g1;refine wpAny_pyIter_dict (knd:=lX X.prog X.w) hS da ?_;refine ⟨s1.heap.objs.size,[s1.heap.objs.size],_,_,_,rfl,I2.kept (t':=s1.toks) fun b o e=>Heap.get?_push_of_some _ e,J3 o d _ kvs es ep g3,⟨_,Heap.get?_push_size _ rfl,rfl,by rw [hl]; rfl⟩,fun b hb => ?_,q o (I1.nf hd)⟩
 have e:b=s1.heap.objs.size:=by simpa using hb
 subst e;exact I2.fpOk (Nat.le_refl _) (I2.hok.fresh (Nat.le_refl _))
end
end L2
namespace PySem.W
open PySem PySem.Calls PyProof.Rows PyProof.V PySem.Spec
def RawD (h:Heap) (d:Addr) (es:Array DictEntry) (ep:Nat):Prop:=∃ o,h.get? d=some o∧o.ExactDict∧o.data=.dict es ep
end PySem.W
namespace L2
open PySem PySem.W PySem.Spec PyProof.Rows
section
variable {X:Cx}
theorem op_eqTK (hu:X.A.units < cLine):OpR X (compareOp .Eq) (fun x y H Q=>∃ (a b:Addr) (ks js:List Key),x=.ref a∧y=.ref b∧H a=some (.tup (ks.map kV))∧H b=some (.tup (js.map kV))∧Q (.bl (decide (ks=js))) H):=by
 intro pins s σ H x y v u Q I rx ry h;obtain ⟨a,b,ks,js,rfl,rfl,ha,hb,q⟩:=h;cases (show v=Value.ref a from rx);cases (show u=Value.ref b from ry);have ka:=pB I.hok ha;have kb:=pB I.hok hb;exact wpAny_richCompare_same_room (op:=.Eq) (IsTupleKey.typeIs ka) (IsTupleKey.typeIs kb) F.slot_tuple_eq (wpAny_call_entry F.slot_tuple_eq (IsTupleKey.typeIs ka) F.entry_tuple_eq (tuple_eq_tree ka kb ⟨_,rfl,(fun e=>nomatch e),⟨.bl (decide (ks=js)),H,I,rfl,q⟩⟩) (F.args_tuple_eq_2 _ _)) hu
def cntK (k:Key) (ks:List Key):Nat:=ks.countP fun j=>decide (j=k)
end
end L2
namespace CL
open PySem PySem.Spec L2
open PyProof.Rows hiding St
inductive PV where
 | non | bl (b:Bool) | int (i:Int) | str (x:Str) | ty (n:String) | tup (xs:List PV) | kt (xs:List PV) | fz (xs:List PV) | vw (d:Addr) | ref (a:Addr)
def imm:HO→Bool
 | .tup _=>true
 | .frz _ (.dK _)=>false
 | .frz _ (.dT _)=>false
 | .frz _ _=>true
 | .ext _=>true
 | _=>false
def Imm (H H':Hp):Prop:=∀ a o,imm o=true→H a=some o→H' a=some o
theorem Imm.new {H:Hp}{p:Addr}(hp:H p=none) (o:HO):Imm H (upd H p o):=fun a u _ e=>by
 rw [aQ (gK e hp)]; exact e
theorem Imm.mut {H:Hp}{p:Addr}{u:HO}(hp:H p=some u) (hu:imm u=false) (o:HO):Imm H (upd H p o):=fun a v i e=>by
 have:a≠p:=by
  intro z; subst z; rw [hp] at e; cases e; rw [hu] at i; cases i
 rw [aQ this]; exact e
def Fz (K:PySem.W.Frag) (H:Hp) (a:Addr) (xs:List V):Prop :=
 (∃ o,H a=some (.frz o (.lst xs))) ∨
  ∃ (o:Obj) (its:Array Value) (n:Nat),K.lookup a=some o∧o.cls=.type "list" ∧ o.dict=none∧o.data=.seq its n∧its.size≤sizeLine∧Vals xs its.toList
theorem Fz.sq {K:PySem.W.Frag}{H:Hp}{a:Addr}{xs:List V}(h:Fz K H a xs):SqL K H a xs:=by
 rcases h with ⟨o,h⟩ | h
 ·exact .inl (.inr ⟨o,h⟩)
 ·exact .inr h
theorem Fz.imm {K:PySem.W.Frag}{H H':Hp}{a:Addr}{xs:List V}(h:Fz K H a xs) (k:Imm H H'):Fz K H' a xs:=by
 rcases h with ⟨o,h⟩ | h
 ·exact .inl ⟨o,k _ _ rfl h⟩
 ·exact .inr h
theorem SqT.imm {K:PySem.W.Frag}{H H':Hp}{a:Addr}{xs:List V}(h:SqT K H a xs) (k:Imm H H'):SqT K H' a xs:=by
 rcases h with (h | ⟨o,h⟩) | h
 ·exact .inl (.inl (k _ _ rfl h))
 ·exact .inl (.inr ⟨o,k _ _ rfl h⟩)
 ·exact .inr h
mutual
inductive Rep (K:PySem.W.Frag) (H:Hp):V→PV→Prop
 | non:Rep K H .non .non
 | bl (b:Bool):Rep K H (.bl b) (.bl b)
 | int (i:Int):Rep K H (.int i) (.int i)
 | str (x:Str):Rep K H (.str x) (.str x)
 | ty (n:String):Rep K H (.ty n) (.ty n)
 | ref (a:Addr):Rep K H (.ref a) (.ref a)
 | tup {a:Addr} {vs:List V} {ts:List PV} (h:H a=some (.tup vs)) (r:Reps K H vs ts):Rep K H (.ref a) (.tup ts)
 | kt {a:Addr} {vs:List V} {ts:List PV} (h:SqT K H a vs) (r:Reps K H vs ts):Rep K H (.ref a) (.kt ts)
 | fz {a:Addr} {vs:List V} {ts:List PV} (h:Fz K H a vs) (r:Reps K H vs ts):Rep K H (.ref a) (.fz ts)
 | vw {a d:Addr} (h:H a=some (.ext (pR a d))):Rep K H (.ref a) (.vw d)
inductive Reps (K:PySem.W.Frag) (H:Hp):List V→List PV→Prop
 | nil:Reps K H [] []
 | cons {v:V} {t:PV} {vs:List V} {ts:List PV} (h:Rep K H v t) (r:Reps K H vs ts):Reps K H (v::vs) (t::ts)
end
section
variable {K:PySem.W.Frag}{H H' H1 H2:Hp}
mutual
theorem Rep.imm {v:V}{t:PV}(k:Imm H H'):Rep K H v t→Rep K H' v t
 | .non=>.non
 | .bl b=>.bl b
 | .int i=>.int i
 | .str x=>.str x
 | .ty n=>.ty n
 | .ref a=>.ref a
 | .tup h r=>.tup (k _ _ rfl h) (Reps.imm k r)
 | .kt h r=>.kt (SqT.imm h k) (Reps.imm k r)
 | .fz h r=>.fz (Fz.imm h k) (Reps.imm k r)
 | .vw h=>.vw (k _ _ rfl h)
theorem Reps.imm {vs:List V}{ts:List PV}(k:Imm H H'):Reps K H vs ts→Reps K H' vs ts
 | .nil=>.nil
 | .cons h r=>.cons (Rep.imm k h) (Reps.imm k r)
end
theorem Reps.len {vs:List V}{ts:List PV}:Reps K H vs ts→vs.length=ts.length
 | .nil=>rfl
 | .cons _ r=>congrArg (· + 1) r.len
theorem Reps.get {vs:List V}{ts:List PV}{i:Nat}{t:PV}:Reps K H vs ts→ts[i]?=some t→∃ v,vs[i]?=some v∧Rep K H v t
 | .nil,e=>by cases e
 | .cons h r,e=>by
  cases i with
  | zero=>cases e; exact ⟨_,rfl,h⟩
  | succ i=>exact r.get (i:=i) e
theorem Reps.append {vs us:List V}{ts ss:List PV}:Reps K H vs ts→Reps K H us ss→Reps K H (vs++us) (ts++ss)
 | .nil,r=>r
 | .cons h t,r=>.cons h (t.append r)
theorem Reps.take {vs:List V}{ts:List PV}:∀ (n:Nat),Reps K H vs ts→Reps K H (vs.take n) (ts.take n)
 | 0,_=>.nil
 | _+1,.nil=>.nil
 | n+1,.cons h r=>.cons h (r.take n)
theorem Reps.drop {vs:List V}{ts:List PV}:∀ (n:Nat),Reps K H vs ts→Reps K H (vs.drop n) (ts.drop n)
 | 0,r=>r
 | _+1,.nil=>.nil
 | n+1,.cons _ r=>r.drop n
theorem Reps.set {vs:List V}{ts:List PV}{v:V}{t:PV}(h:Rep K H v t):∀ (n:Nat),Reps K H vs ts→Reps K H (vs.set n v) (ts.set n t)
 | _,.nil=>.nil
 | 0,.cons _ r=>.cons h r
 | n+1,.cons g r=>.cons g (r.set h n)
theorem Reps.reverse {vs:List V}{ts:List PV}(r:Reps K H vs ts):Reps K H vs.reverse ts.reverse:=by
 induction vs generalizing ts with
 | nil=>cases r; exact .nil
 | cons v vs ih =>
  cases r with
  | cons h r=>rw [List.reverse_cons,List.reverse_cons]; exact (ih r).append (.cons h .nil)
end
inductive CO where
 | lst (xs:List PV)
 | dK (kvs:List (Key×PV))
 | fK (kvs:List (Key×PV))
 | dT (kvs:List (List Key×PV))
 | fT (kvs:List (List Key×PV))
 | dP (kvs:List (List (List Key)×PV))
 | ins (c dx:Addr) (fs:List (Str×PV))
abbrev CH:=Addr→Option CO
def nQ (C:CH) (a:Addr) (o:CO):CH:=fun b=>if b=a then some o else C b
theorem xQ {C:CH}{a:Addr}{o:CO}:nQ C a o a=some o:=if_pos rfl
theorem bQ {C:CH}{a b:Addr}{o:CO}(h:b≠a):nQ C a o b=C b:=if_neg h
abbrev FP {κ:Type}(K:PySem.W.Frag) (H:Hp):List (κ×V)→List (κ×PV)→Prop:=Paired fun p q=>p.1=q.1∧Rep K H p.2 q.2
abbrev KP (K:PySem.W.Frag) (H:Hp):List (Key×V)→List (Key×PV)→Prop:=Paired fun p q=>p.1=q.1∧Rep K H p.2 q.2
def ORel (K:PySem.W.Frag) (H:Hp) (a:Addr):CO→Prop
 | .lst ts=>∃ vs,H a=some (.lst vs)∧Reps K H vs ts
 | .dK kvs=>∃ vs,H a=some (.dK vs)∧KP K H vs kvs
 | .fK kvs=>∃ o vs,H a=some (.frz o (.dK vs))∧KP K H vs kvs
 | .dT kvs=>∃ vs,H a=some (.dT vs)∧FP K H vs kvs
 | .fT kvs=>∃ o vs,H a=some (.frz o (.dT vs))∧FP K H vs kvs
 | .dP kvs=>∃ vs,H a=some (.dP vs)∧FP K H vs kvs
 | .ins c dx fs=>∃ gs,H a=some (.ins c dx gs)∧FP K H gs fs
def HRel (K:PySem.W.Frag) (H:Hp) (C:CH):Prop:=∀ a o,C a=some o→ORel K H a o
def still:Option CO→Bool
 | none=>true
 | some (.fK _)=>true
 | some (.fT _)=>true
 | _=>false
def Fw (H:Hp) (C:CH) (H':Hp) (C':CH):Prop:=∀ a,still (C a)=true→H a≠none→C' a=C a∧H' a=H a
section
variable {K:PySem.W.Frag}{H H' H1 H2:Hp}{C C' C1 C2:CH}
theorem Fw.refl:Fw H C H C:=fun _ _ _=>⟨rfl,rfl⟩
theorem Fw.trans (f:Fw H C H1 C1) (g:Fw H1 C1 H2 C2):Fw H C H2 C2:=fun a h n=>by
 obtain ⟨c,e⟩:=f a h n;obtain ⟨c',e'⟩:=g a (by rw [c]; exact h) (by rw [e]; exact n);exact ⟨c'.trans c,e'.trans e⟩
theorem ORel.mut {a:Addr}{o:CO}(h:ORel K H a o):∃ u,H a=some u∧imm u=false:=by
 cases o with
 | lst ts=>obtain ⟨vs,e,_⟩:=h; exact ⟨_,e,rfl⟩
 | dK ts=>obtain ⟨vs,e,_⟩:=h; exact ⟨_,e,rfl⟩
 | fK ts=>obtain ⟨o,vs,e,_⟩:=h; exact ⟨_,e,rfl⟩
 | dT ts=>obtain ⟨vs,e,_⟩:=h; exact ⟨_,e,rfl⟩
 | fT ts=>obtain ⟨o,vs,e,_⟩:=h; exact ⟨_,e,rfl⟩
 | dP ts=>obtain ⟨vs,e,_⟩:=h; exact ⟨_,e,rfl⟩
 | ins c dx fs=>obtain ⟨vs,e,_⟩:=h; exact ⟨_,e,rfl⟩
theorem HRel.hid (h:HRel K H C) {a:Addr}{o:HO}(i:imm o=true) (e:H a=some o):C a=none:=by
 cases c:C a with
 | none=>rfl
 | some u =>
  obtain ⟨v,e',i'⟩:=(h a u c).mut;rw [e] at e'; cases e'; rw [i] at i'; cases i'
theorem HRel.fresh (h:HRel K H C) {a:Addr}(e:H a=none):C a=none:=by
 cases c:C a with
 | none=>rfl
 | some u =>
  obtain ⟨v,e',i'⟩:=(h a u c).mut;rw [e] at e'; cases e'
theorem Fw.imm (f:Fw H C H' C') (h:HRel K H C):Imm H H':=fun a o i e=>by
 rw [(f a (by rw [h.hid i e]; rfl) (by rw [e]; exact fun z=>nomatch z)).2]; exact e
theorem ORel.imm {a:Addr}{o:CO}(h:ORel K H a o) (k:Imm H H') (e:H' a=H a):ORel K H' a o:=by
 cases o with
 | lst ts=>obtain ⟨vs,q,r⟩:=h; exact ⟨vs,e.trans q,r.imm k⟩
 | dK ts=>obtain ⟨vs,q,r⟩:=h; exact ⟨vs,e.trans q,Paired.mapP r fun _ _ z=>⟨z.1,z.2.imm k⟩⟩
 | fK ts=>obtain ⟨o,vs,q,r⟩:=h; exact ⟨o,vs,e.trans q,Paired.mapP r fun _ _ z=>⟨z.1,z.2.imm k⟩⟩
 | dT ts=>obtain ⟨vs,q,r⟩:=h; exact ⟨vs,e.trans q,Paired.mapP r fun _ _ z=>⟨z.1,z.2.imm k⟩⟩
 | fT ts=>obtain ⟨o,vs,q,r⟩:=h; exact ⟨o,vs,e.trans q,Paired.mapP r fun _ _ z=>⟨z.1,z.2.imm k⟩⟩
 | dP ts=>obtain ⟨vs,q,r⟩:=h; exact ⟨vs,e.trans q,Paired.mapP r fun _ _ z=>⟨z.1,z.2.imm k⟩⟩
 | ins c dx fs=>obtain ⟨vs,q,r⟩:=h; exact ⟨vs,e.trans q,Paired.mapP r fun _ _ z=>⟨z.1,z.2.imm k⟩⟩
theorem HRel.new (h:HRel K H C) {p:Addr}(hp:H p=none) (o:HO):HRel K (upd H p o) C:=fun a u c=>by
 obtain ⟨v,e,_⟩:=(h a u c).mut;exact (h a u c).imm (Imm.new hp o) (aQ (gK e hp))
theorem Fw.new {p:Addr}(hp:H p=none) (o:HO):Fw H C (upd H p o) C:=fun a c n=>⟨rfl,aQ fun z=>n (z▸hp)⟩
theorem HRel.lay (h:HRel K H C) {p:Addr}(hp:H p=none) {o:HO}{u:CO}(r:ORel K (upd H p o) p u):HRel K (upd H p o) (nQ C p u):=fun a v c=>by
 by_cases e:a=p
 ·subst e; rw [xQ] at c; cases c; exact r
 ·rw [bQ e] at c; exact h.new hp o a v c
theorem Fw.lay {p:Addr}(hp:H p=none) (o:HO) (u:CO):Fw H C (upd H p o) (nQ C p u):=fun a c n=>by
 have e:a≠p:=fun z=>n (z▸hp);exact ⟨bQ e,aQ e⟩
theorem HRel.put (h:HRel K H C) {p:Addr}{o₀:HO}(hp:H p=some o₀) (hi:imm o₀=false) {o:HO}{u:CO}(r:ORel K (upd H p o) p u):HRel K (upd H p o) (nQ C p u):=fun a v c=>by
 by_cases e:a=p
 ·subst e; rw [xQ] at c; cases c; exact r
 ·rw [bQ e] at c; exact (h a v c).imm (Imm.mut hp hi o) (aQ e)
theorem Fw.put {p:Addr}{u₀:CO}(hp:C p=some u₀) (o:HO) (u:CO) (hs:still (some u₀)=false:=by rfl):Fw H C (upd H p o) (nQ C p u):=fun a c n=>by
 have e:a≠p:=fun z=>by subst z; rw [hp,hs] at c; cases c
 exact ⟨bQ e,aQ e⟩
end
abbrev CSt:=List (Option PV)
abbrev K1:=PV→CH→Prop
def RepO (K:PySem.W.Frag) (H:Hp):Option V→Option PV→Prop
 | _,none=>True
 | some v,some t=>Rep K H v t
 | none,some _=>False
def SRel (K:PySem.W.Frag) (H:Hp):St→CSt→Prop:=Paired (RepO K H)
section
variable {K:PySem.W.Frag}{H H':Hp}{C C':CH}
theorem RepO.imm {v:Option V}{t:Option PV}(k:Imm H H') (h:RepO K H v t):RepO K H' v t:=by
 cases t with
 | none=>cases v<;>trivial
 | some t=>cases v with
  | none=>exact h
  | some v=>exact Rep.imm k h
theorem SRel.imm {σ:St}{ρ:CSt}(s:SRel K H σ ρ) (k:Imm H H'):SRel K H' σ ρ:=Paired.mapP s fun _ _=>RepO.imm k
theorem SRel.get {σ:St}{ρ:CSt}{i:Nat}{t:PV}(s:SRel K H σ ρ) (e:ρ[i]?=some (some t)):∃ v,σ[i]?=some (some v)∧Rep K H v t:=by
 induction s generalizing i with
 | nil=>cases e
 | @cons a b l₁ l₂ h r ih =>
  cases i with
  | zero =>
   cases e
   cases a with
   | none=>exact h.elim
   | some v=>exact ⟨v,rfl,h⟩
  | succ i=>exact ih (i:=i) e
theorem SRel.set {σ:St}{ρ:CSt}{v:V}{t:PV}(s:SRel K H σ ρ) (h:Rep K H v t) (i:Nat):SRel K H (σ.set i (some v)) (ρ.set i (some t)):=by
 induction s generalizing i with
 | nil=>exact .nil
 | cons h' r ih =>
  cases i with
  | zero=>exact .cons h r
  | succ i=>exact .cons h' (ih i)
end
def jK {α β:Type}(K:PySem.W.Frag) (rel:Hp→α→β→Prop) (c:CSt→CH→(β→CH→Prop)→Prop):St→Hp→(α→Hp→Prop)→Prop:=fun σ H Q =>
 ∃ ρ C R,SRel K H σ ρ∧HRel K H C∧c ρ C R∧∀ v H' t C',R t C'→rel H' v t→HRel K H' C'→Fw H C H' C'→Q v H'
abbrev TCE:=CSt→CH→K1→Prop
abbrev TCT:=CSt→CH→(Bool→CH→Prop)→Prop
abbrev TCA:=CSt→CH→(List PV→CH→Prop)→Prop
abbrev mL:Hp→Bool→Bool→Prop:=fun _ a b=>a=b
structure gU where
 nx:CSt→CH→Prop
 rt:K1
 bk:CSt→CH→Prop:=fun _ _=>False
 ct:CSt→CH→Prop:=fun _ _=>False
abbrev TCS:=gU→CSt→CH→Prop
structure ERel (K:PySem.W.Frag) (H:Hp) (C:CH) (E:gU) (D:Zd):Prop where
 nx:∀ σ' H' ρ' C',E.nx ρ' C'→SRel K H' σ' ρ'→HRel K H' C'→Fw H C H' C'→D.nx σ' H'
 rt:∀ v H' t C',E.rt t C'→Rep K H' v t→HRel K H' C'→Fw H C H' C'→D.rt v H'
 bk:∀ σ' H' ρ' C',E.bk ρ' C'→SRel K H' σ' ρ'→HRel K H' C'→Fw H C H' C'→D.bk σ' H'
 ct:∀ σ' H' ρ' C',E.ct ρ' C'→SRel K H' σ' ρ'→HRel K H' C'→Fw H C H' C'→D.ct σ' H'
theorem ERel.fw {K:PySem.W.Frag}{H H1:Hp}{C C1:CH}{E:gU}{D:Zd}(e:ERel K H C E D) (f:Fw H C H1 C1):ERel K H1 C1 E D :=
 ⟨fun σ' H' ρ' C' h s r g=>e.nx σ' H' ρ' C' h s r (f.trans g),fun v H' t C' h s r g=>e.rt v H' t C' h s r (f.trans g),fun σ' H' ρ' C' h s r g=>e.bk σ' H' ρ' C' h s r (f.trans g),fun σ' H' ρ' C' h s r g=>e.ct σ' H' ρ' C' h s r (f.trans g)⟩
def Ws (K:PySem.W.Frag) (c:TCS):TS:=fun D σ H=>∃ ρ C E,SRel K H σ ρ∧HRel K H C∧c E ρ C∧ERel K H C E D
structure CE (X:Cx) (e:Expr) (c:TCE):Prop where
 h:JE X e (jK X.K (Rep X.K) c)
structure CT (X:Cx) (e:Expr) (c:TCT):Prop where
 h:JT X e (jK X.K mL c)
structure CW (X:Cx) (e:Expr) (c:TCT):Prop where
 h:JW X e (jK X.K mL c)
structure CA (X:Cx) (es:List Expr) (c:TCA):Prop where
 h:JA X es (jK X.K (Reps X.K) c)
structure CS (X:Cx) (st:Stmt) (c:TCS):Prop where
 h:JS X st (Ws X.K c)
structure CB (X:Cx) (st:List Stmt) (c:TCS):Prop where
 h:JB X st (Ws X.K c)
section
variable {X:Cx}{a b c e o i:Expr}{es:List Expr}{pos:Pos}{rest:List Expr}{st:Stmt}{sts:List Stmt}
theorem JE.weak {t t':TE}(h:JE X e t) (w:∀ σ H Q,t' σ H Q→t σ H Q):JE X e t':=⟨fun pins s σ H Q I q=>h.h pins s σ H Q I (w σ H Q q)⟩
theorem JT.weak {t t':TT}(h:JT X e t) (w:∀ σ H Q,t' σ H Q→t σ H Q):JT X e t':=⟨fun pins s σ H Q I q=>h.h pins s σ H Q I (w σ H Q q)⟩
theorem JW.weak {t t':TT}(h:JW X e t) (w:∀ σ H Q,t' σ H Q→t σ H Q):JW X e t':=⟨fun wh pins s σ H Q I q=>h.h wh pins s σ H Q I (w σ H Q q)⟩
theorem JA.weak {t t':TA}(h:JA X es t) (w:∀ σ H Q,t' σ H Q→t σ H Q):JA X es t':=⟨fun p pins s σ H Q I q=>h.h p pins s σ H Q I (w σ H Q q)⟩
theorem JS.weak {t t':TS}(h:JS X st t) (w:∀ D σ H,t' D σ H→t D σ H):JS X st t':=⟨fun pins s σ H D I q=>h.h pins s σ H D I (w D σ H q)⟩
theorem JB.weak {t t':TS}(h:JB X sts t) (w:∀ D σ H,t' D σ H→t D σ H):JB X sts t':=⟨fun pins s σ H D I q=>h.h pins s σ H D I (w D σ H q)⟩
def qW (i:Nat):TCE:=fun ρ C Q=>match ρ[i]? with
 | some (some t)=>Q t C
 | _=>False
def cC (t:PV):TCE:=fun _ C Q=>Q t C
theorem cv (i:Nat) {x:Str}{pos:Pos}(hN:X.N[i]?=some x:=by rfl) (hv:Vis X.env.scope x:=by first | exact Or.inl rfl | exact Or.inr (Or.inl rfl) | exact Or.inr (Or.inr rfl)) (hd:(x==("__debug__" : Str))=false:=by decide)
  (hcd:(x==("__classdict__" : Str))=false:=by decide):CE X (.Name x pos) (qW i):=⟨JE.weak (jv i hN hv hd hcd) fun σ H Q ⟨ρ,C,R,s,h,q,f⟩=>by
 unfold qW at q
 split at q
 ·next t e =>
  obtain ⟨v,ev,r⟩:=s.get e;exact ⟨v,ev,f v H t C q r h Fw.refl⟩
 ·exact q.elim⟩
theorem Yn {v:V}{t:PV}(h:JE X e (tC v)) (r:∀ H,Rep X.K H v t):CE X e (cC t):=⟨JE.weak h fun σ H Q ⟨ρ,C,R,s,h,q,f⟩=>f v H t C q (r H) h Fw.refl⟩
theorem jQ {i j pos}:CE X (.Constant (.int i) j pos) (cC (.int i)):=Yn je_int fun _=>.int i
theorem JM {b j pos}:CE X (.Constant (.bool b) j pos) (cC (.bl b)):=Yn je_bl fun _=>.bl b
theorem nD {j pos}:CE X (.Constant .none j pos) (cC .non):=Yn je_non fun _=>.non
theorem gQ {x j pos}:CE X (.Constant (.str x) j pos) (cC (.str x)):=Yn je_str fun _=>.str x
theorem X2 {x:Str}{n:String}(hg:Gl X x) (hm:X.mg x=none) (hv:bootBuiltins x=some (.type n)) (hn:x ≠ "__name__" := by decide) (hd:(x==("__debug__" : Str))=false:=by decide):CE X (.Name x pos) (cC (.ty n)):=Yn (je_bltn (v:=.ty n) hg hm hv rfl hn hd) fun _=>.ty n
abbrev R2C:=PV→PV→CH→K1→Prop
def Cop (K:PySem.W.Frag) (r:R2) (cr:R2C):Prop:=∀ x y px py H C Q R,Rep K H x px→Rep K H y py→HRel K H C→cr px py C R→(∀ v H' t C',R t C'→Rep K H' v t→HRel K H' C'→Fw H C H' C'→Q v H')→r x y H Q
def cOp (cr:R2C) (ca cb:TCE):TCE:=fun ρ C Q=>ca ρ C fun x C1=>cb ρ C1 fun y C2=>cr x y C2 Q
theorem jR {K:PySem.W.Frag}{r:R2}{cr:R2C}{ca cb:TCE}(hr:Cop K r cr) {σ:St}{H:Hp}{Q:VK}(h:jK K (Rep K) (cOp cr ca cb) σ H Q):tOp r (jK K (Rep K) ca) (jK K (Rep K) cb) σ H Q:=by
 obtain ⟨ρ,C,R,s,h,q,f⟩:=h
 exact ⟨ρ,C,_,s,h,q,fun x H1 px C1 q1 rx h1 f1=>⟨ρ,C1,_,s.imm (f1.imm h),h1,q1,fun y H2 py C2 q2 ry h2 f2 =>
  hr x y px py H2 C2 Q R (rx.imm (f2.imm h1)) ry h2 q2 fun v H' t C' q' r' h' f'=>f v H' t C' q' r' h' (f1.trans (f2.trans f'))⟩⟩
theorem uX {op:Operator}{r:R2}{cr:R2C}{ca cb:TCE}(ho:OpR X (binaryOp op) r) (hr:Cop X.K r cr) (ha:CE X a ca) (hb:CE X b cb):CE X (.BinOp a op b pos) (cOp cr ca cb):=⟨JE.weak (je_op ho ha.h hb.h) fun _ _ _ h=>jR hr h⟩
theorem uY {op:CmpOp}{r:R2}{cr:R2C}{ca cb:TCE}(ho:OpR X (compareOp op) r) (hr:Cop X.K r cr) (ha:CE X a ca) (hb:CE X b cb) (hm:behindInMarks op b=false):CE X (.Compare a [op] [b] pos) (cOp cr ca cb):=⟨JE.weak (je_cmp ho ha.h hb.h hm) fun _ _ _ h=>jR hr h⟩
def Zt (k:Bool→CH→Prop):PV→CH→Prop
 | .bl b,C=>k b C
 | _,_=>False
def Ys (c:TCE):TCT:=fun ρ C Q=>c ρ C (Zt Q)
theorem Yw {K:PySem.W.Frag}{H:Hp}{C:CH}{v:V}{t:PV}{Q:Bool→CH→Prop}(q:Zt Q t C) (r:Rep K H v t):∃ b,t=.bl b∧v=.bl b∧Q b C:=by
 cases t with
 | bl b=>cases r; exact ⟨b,rfl,rfl,q⟩
 | _=>exact q.elim
theorem KB {K:PySem.W.Frag}{c:TCE}{σ:St}{H:Hp}{Q:Bool→Hp→Prop}(h:jK K mL (Ys c) σ H Q):Vq (jK K (Rep K) c) σ H Q:=by
 obtain ⟨ρ,C,R,s,h,q,f⟩:=h
 exact ⟨ρ,C,_,s,h,q,fun x H1 px C1 q1 rx h1 f1=>by
  obtain ⟨b,rfl,rfl,q2⟩:=Yw q1 rx
  exact ⟨b,rfl,f b H1 b C1 q2 rfl h1 f1⟩⟩
theorem iQ {op:CmpOp}{r:R2}{cr:R2C}{ca cb:TCE}(ho:OpR X (compareOp op) r) (hr:Cop X.K r cr) (ha:CE X a ca) (hb:CE X b cb) (hm:behindInMarks op b=false):CT X (.Compare a [op] [b] pos) (Ys (cOp cr ca cb)) :=
 ⟨JT.weak (jt_cmp ho ha.h hb.h hm) fun σ H Q h=>by
  obtain ⟨ρ,C,R,s,h,q,f⟩:=h;refine jR hr (Q:=fun x H'=>IBl Q x H') ⟨ρ,C,_,s,h,q,fun x H1 px C1 q1 rx h1 f1 => ?_⟩;obtain ⟨b,rfl,rfl,q2⟩:=Yw q1 rx
  exact ⟨b,rfl,f b H1 b C1 q2 rfl h1 f1⟩⟩
theorem mO {c:TCE}(h:CE X e c) (he:iP e=true:=by rfl):CT X e (Ys c):=⟨JT.weak (jt_val h.h he) fun _ _ _ h=>KB h⟩
def cUn (cr:PV→CH→K1→Prop) (ca:TCE):TCE:=fun ρ C Q=>ca ρ C fun x C1=>cr x C1 Q
def Cun (K:PySem.W.Frag) (r:V→Hp→VK→Prop) (cr:PV→CH→K1→Prop):Prop:=∀ x px H C Q R,Rep K H x px→HRel K H C→cr px C R→(∀ v H' t C',R t C'→Rep K H' v t→HRel K H' C'→Fw H C H' C'→Q v H')→r x H Q
theorem JK {op:UnaryOp}{r:V→Hp→VK→Prop}{cr:PV→CH→K1→Prop}{ca:TCE}(ho:UnR X (unaryOp op) r) (hr:Cun X.K r cr) (ha:CE X a ca):CE X (.UnaryOp op a pos) (cUn cr ca):=⟨JE.weak (je_un ho ha.h) fun σ H Q ⟨ρ,C,R,s,h,q,f⟩ =>
 ⟨ρ,C,_,s,h,q,fun x H1 px C1 q1 rx h1 f1=>hr x px H1 C1 Q R rx h1 q1 fun v H' t C' q' r' h' f'=>f v H' t C' q' r' h' (f1.trans f')⟩⟩
def cAnd (t u:TCT):TCT:=fun ρ C Q=>t ρ C fun b C1=>if b=true then u ρ C1 Q else Q false C1
def cOr (t u:TCT):TCT:=fun ρ C Q=>t ρ C fun b C1=>if b=true then Q true C1 else u ρ C1 Q
def cNot (t:TCT):TCT:=fun ρ C Q=>t ρ C fun b C1=>Q (!b) C1
theorem cw_pt {t:TCT}(h:CW X e t):CT X e t:=⟨jw_pt h.h⟩
theorem cw_and1 {t:TCT}(h:CT X a t):CW X (.BoolOp .And [a] pos) t:=⟨jw_and1 h.h⟩
theorem cw_or1 {t:TCT}(h:CT X a t):CW X (.BoolOp .Or [a] pos) t:=⟨jw_or1 h.h⟩
theorem cw_and {t u:TCT}(ha:CT X a t) (hb:CW X (.BoolOp .And (b::rest) pos) u):CW X (.BoolOp .And (a::b::rest) pos) (cAnd t u):=⟨JW.weak (jw_and ha.h hb.h) fun σ H Q ⟨ρ,C,R,s,h,q,f⟩ =>
 ⟨ρ,C,_,s,h,q,fun x H1 y C1 q1 e h1 f1=>by
  cases e
  cases x with
  | true=>exact ⟨ρ,C1,R,s.imm (f1.imm h),h1,q1,fun v H' t C' q' r' h' f'=>f v H' t C' q' r' h' (f1.trans f')⟩
  | false=>exact f false H1 false C1 q1 rfl h1 f1⟩⟩
theorem cw_or {t u:TCT}(ha:CT X a t) (hb:CW X (.BoolOp .Or (b::rest) pos) u):CW X (.BoolOp .Or (a::b::rest) pos) (cOr t u):=⟨JW.weak (jw_or ha.h hb.h) fun σ H Q ⟨ρ,C,R,s,h,q,f⟩ =>
 ⟨ρ,C,_,s,h,q,fun x H1 y C1 q1 e h1 f1=>by
  cases e
  cases x with
  | true=>exact f true H1 true C1 q1 rfl h1 f1
  | false=>exact ⟨ρ,C1,R,s.imm (f1.imm h),h1,q1,fun v H' t C' q' r' h' f'=>f v H' t C' q' r' h' (f1.trans f')⟩⟩⟩
theorem ct_not {t:TCT}(ha:CT X a t):CT X (.UnaryOp .Not a pos) (cNot t):=⟨JT.weak (jt_not ha.h) fun σ H Q ⟨ρ,C,R,s,h,q,f⟩ =>
 ⟨ρ,C,_,s,h,q,fun x H1 y C1 q1 e h1 f1=>by cases e; exact f _ H1 _ C1 q1 rfl h1 f1⟩⟩
def cAndV (ca cb:TCE):TCE:=fun ρ C Q=>ca ρ C (Zt fun b C1=>if b=true then cb ρ C1 Q else Q (.bl false) C1)
theorem ce_one {op}{c:TCE}(h:CE X a c):CE X (.BoolOp op [a] pos) c:=⟨je_one h.h⟩
theorem ce_and {ca cb:TCE}(ha:CE X a ca) (hb:CE X (.BoolOp .And (b::rest) pos) cb):CE X (.BoolOp .And (a::b::rest) pos) (cAndV ca cb):=⟨JE.weak (je_and ha.h hb.h) fun σ H Q ⟨ρ,C,R,s,h,q,f⟩ =>
 ⟨ρ,C,_,s,h,q,fun x H1 px C1 q1 rx h1 f1=>by
  obtain ⟨b,rfl,rfl,q2⟩:=Yw q1 rx;refine ⟨b,rfl,?_⟩
  cases b with
  | true=>exact ⟨ρ,C1,R,s.imm (f1.imm h),h1,q2,fun v H' t C' q' r' h' f'=>f v H' t C' q' r' h' (f1.trans f')⟩
  | false=>exact f _ H1 _ C1 q2 (.bl false) h1 f1⟩⟩
def X4:TCA:=fun _ C Q=>Q [] C
def wU (ca:TCE) (cr:TCA):TCA:=fun ρ C Q=>ca ρ C fun x C1=>cr ρ C1 fun xs C2=>Q (x::xs) C2
theorem zQ:CA X [] X4:=⟨JA.weak ja_nil fun σ H Q ⟨ρ,C,R,s,h,q,f⟩=>f [] H [] C q .nil h Fw.refl⟩
theorem qQ {ca:TCE}{cr:TCA}(ha:CE X e ca) (hr:CA X es cr) (hs:tX e=true:=by rfl):CA X (e::es) (wU ca cr):=⟨JA.weak (ja_cons ha.h hr.h hs) fun σ H Q ⟨ρ,C,R,s,h,q,f⟩ =>
 ⟨ρ,C,_,s,h,q,fun x H1 px C1 q1 rx h1 f1=>⟨ρ,C1,_,s.imm (f1.imm h),h1,q1,fun xs H2 ps C2 q2 rs h2 f2=>f (x::xs) H2 (px::ps) C2 q2 (.cons (rx.imm (f2.imm h1)) rs) h2 (f1.trans f2)⟩⟩⟩
def K3 (ca:TCA):TCE:=fun ρ C Q=>ca ρ C fun xs C1=>xs.length≤sizeLine∧Q (.tup xs) C1
def cLst (ca:TCA):TCE:=fun ρ C Q=>ca ρ C fun xs C1=>xs.length≤sizeLine∧∀ p,C1 p=none→Q (.ref p) (nQ C1 p (.lst xs))
theorem sQ {x1}{ca:TCA}(h:CA X es ca):CE X (.Tuple es x1 pos) (K3 ca):=⟨JE.weak (je_tup h.h) fun σ H Q ⟨ρ,C,R,s,h,q,f⟩ =>
 ⟨ρ,C,_,s,h,q,fun xs H1 ps C1 q1 rs h1 f1=>⟨by rw [rs.len]; exact q1.1,fun p hp=>f (.ref p) _ (.tup ps) C1 q1.2 (.tup eQ (rs.imm (Imm.new hp _))) (h1.new hp _) (f1.trans (Fw.new hp _))⟩⟩⟩
theorem mZ {ca:TCA}(h:CA X es ca):CE X (.List es pos) (cLst ca):=⟨JE.weak (je_lst h.h) fun σ H Q ⟨ρ,C,R,s,h,q,f⟩ =>
 ⟨ρ,C,_,s,h,q,fun xs H1 ps C1 q1 rs h1 f1=>⟨by rw [rs.len]; exact q1.1,fun p hp=>f (.ref p) _ (.ref p) _ (q1.2 p (h1.fresh hp)) (.ref p) (h1.lay hp ⟨xs,eQ,rs.imm (Imm.new hp _)⟩) (f1.trans (Fw.lay hp _ _))⟩⟩⟩
def cDNew:TCE:=fun _ C Q=>∀ p,C p=none→Q (.ref p) (nQ C p (.dK []))
theorem QA:CE X (.Dict [] [] pos) cDNew:=⟨JE.weak WK fun σ H Q ⟨ρ,C,R,s,h,q,f⟩=>fun p hp=>f (.ref p) _ (.ref p) _ (q p (h.fresh hp)) (.ref p) (h.lay hp ⟨[],eQ,.nil⟩) (Fw.lay hp _ _)⟩
abbrev GC:=List PV→CH→K1→Prop
def spC (K:PySem.W.Frag) (G:GC):Sp:=fun vs H Q _=>∃ ts C R,Reps K H vs ts∧HRel K H C∧G ts C R∧∀ v H' t C',R t C'→Rep K H' v t→HRel K H' C'→Fw H C H' C'→Q v H'
def X5 (G:GC) (ca:TCA):TCE:=fun ρ C Q=>ca ρ C fun xs C1=>G xs C1 Q
theorem wQ {CX:CXT}{k:Nat}{f:Addr}{fd:FuncData}{ps:List Str}{G:GC}{E:XK}{x:Str}{p:Pos}{ca:TCA}(F:FnOk X.prog X.w X.K X.mg X.base CX k f fd ps (spC X.K G)) (hr:Room k X.A) (hg:Gl X x) (hm:X.mg x=some (.ref f)) (hk:PySem.W.keepIn X.K (.ref f)=true) (hb:Binds X.K fd ps []) (hx:wN CX X E)
  (ha:CA X (e::es) ca) (hdb:(x==("__debug__" : Str))=false:=by decide) (hs:tX e=true:=by rfl) (hall:es.all tX=true:=by rfl):CE X (.Call (.Name x p) (e::es) [] pos) (X5 G ca) :=
 ⟨JE.weak (je_call (dvs:=[]) (E:=E) F hr hg hm hk hb .nil hx ha.h hdb hs hall) fun σ H Q ⟨ρ,C,R,s,h,q,f⟩ =>
  ⟨ρ,C,_,s,h,q,fun xs H1 ts C1 q1 rs h1 f1=>⟨ts,C1,R,by rw [List.append_nil]; exact rs,h1,q1,fun v H' t C' q' r' h' f'=>f v H' t C' q' r' h' (f1.trans f')⟩⟩⟩
def Cbi (K:PySem.W.Frag) (r:List V→Hp→VK→Prop) (cr:GC):Prop:=∀ xs ps H C Q R,Reps K H xs ps→HRel K H C→cr ps C R→(∀ v H' t C',R t C'→Rep K H' v t→HRel K H' C'→Fw H C H' C'→Q v H')→r xs H Q
theorem mX {id:String}{r:List V→Hp→VK→Prop}{cr:GC}{x:Str}{p:Pos}{ca:TCA}(hc:CallR X (.builtin id) r) (hr:Cbi X.K r cr) (hg:Gl X x) (hm:X.mg x=none) (hv:bootBuiltins x=some (.builtin id)) (ha:CA X (e::es) ca) (hn:x ≠ "__name__" := by decide) (hdb:(x==("__debug__" : Str))=false:=by decide)
  (hs:tX e=true:=by rfl) (hall:es.all tX=true:=by rfl):CE X (.Call (.Name x p) (e::es) [] pos) (X5 cr ca):=⟨JE.weak (WL hc hg hm hv ha.h hn hdb hs hall) fun σ H Q ⟨ρ,C,R,s,h,q,f⟩ =>
  ⟨ρ,C,_,s,h,q,fun xs H1 ts C1 q1 rs h1 f1=>hr xs ts H1 C1 Q R rs h1 q1 fun v H' t C' q' r' h' f'=>f v H' t C' q' r' h' (f1.trans f')⟩⟩
theorem xX {T:String}{r:List V→Hp→VK→Prop}{cr:GC}{x:Str}{p:Pos}{ca:TCA}(hc:CallR X (.type T) r) (hr:Cbi X.K r cr) (hg:Gl X x) (hm:X.mg x=none) (hv:bootBuiltins x=some (.type T)) (ha:CA X (e::es) ca) (hn:x ≠ "__name__" := by decide) (hdb:(x==("__debug__" : Str))=false:=by decide)
  (hs:tX e=true:=by rfl) (hall:es.all tX=true:=by rfl):CE X (.Call (.Name x p) (e::es) [] pos) (X5 cr ca):=⟨JE.weak (KH hc hg hm hv ha.h hn hdb hs hall) fun σ H Q ⟨ρ,C,R,s,h,q,f⟩ =>
  ⟨ρ,C,_,s,h,q,fun xs H1 ts C1 q1 rs h1 f1=>hr xs ts H1 C1 Q R rs h1 q1 fun v H' t C' q' r' h' f'=>f v H' t C' q' r' h' (f1.trans f')⟩⟩
theorem rQ {r:R2}{cr:R2C}{ca cb:TCE}(ho:IxR X r) (hr:Cop X.K r cr) (ha:CE X a ca) (hb:CE X b cb) (hs:QQ b):CE X (.Subscript a b pos) (cOp cr ca cb):=⟨JE.weak (je_ix ho ha.h hb.h hs) fun _ _ _ h=>jR hr h⟩
end
section
variable {X:Cx}{a b c e o i:Expr}{es:List Expr}{pos:Pos}{rest:List Expr}{st:Stmt}{sts:List Stmt}
def cNext:TCS:=fun E ρ C=>E.nx ρ C
def K4 (t u:TCS):TCS:=fun E ρ C=>t { E with nx:=u E } ρ C
theorem dX:CB X [] cNext:=⟨JB.weak jb_nil fun D σ H ⟨ρ,C,E,s,h,q,f⟩=>f.nx σ H ρ C q s h Fw.refl⟩
theorem mQ {t:TCS}(h:CS X st t):CB X [st] t:=⟨jb_one h.h⟩
theorem vQ {t u:TCS}(h1:CS X st t) (h2:CB X sts u):CB X (st::sts) (K4 t u):=⟨JB.weak (jb_cons h1.h h2.h) fun D σ H ⟨ρ,C,E,s,h,q,f⟩ =>
 ⟨ρ,C,_,s,h,q,⟨fun σ' H' ρ' C' n s' h' f'=>⟨ρ',C',E,s',h',n,f.fw f'⟩,f.rt,f.bk,f.ct⟩⟩⟩
def cDrop (ce:TCE):TCS:=fun E ρ C=>ce ρ C fun _ C1=>E.nx ρ C1
theorem mJ {ce:TCE}(he:CE X e ce) (hs:swapsWith e none pos.line X.env=pure false:=by rfl):CS X (.Expr e pos) (cDrop ce):=⟨JS.weak (js_expr he.h hs) fun D σ H ⟨ρ,C,E,s,h,q,f⟩ =>
 ⟨ρ,C,_,s,h,q,fun x H1 px C1 q1 rx h1 f1=>f.nx σ H1 ρ C1 q1 (s.imm (f1.imm h)) h1 f1⟩⟩
def cRet (ce:TCE):TCS:=fun E ρ C=>ce ρ C E.rt
theorem jX {ce:TCE}(he:CE X e ce):CS X (.Return (some e) pos) (cRet ce):=⟨JS.weak (WE he.h) fun D σ H ⟨ρ,C,E,s,h,q,f⟩ =>
 ⟨ρ,C,_,s,h,q,fun x H1 px C1 q1 rx h1 f1=>f.rt x H1 px C1 q1 rx h1 f1⟩⟩
def cIfS (t:TCT) (u v:TCS):TCS:=fun E ρ C=>t ρ C fun b C1=>if b=true then u E ρ C1 else v E ρ C1
theorem sX {x y:List Stmt}{t:TCT}{u v:TCS}(hc:CT X c t) (ha:CB X x u) (hb:CB X y v):CS X (.If c x y pos) (cIfS t u v):=⟨JS.weak (js_if hc.h ha.h hb.h) fun D σ H ⟨ρ,C,E,s,h,q,f⟩ =>
 ⟨ρ,C,_,s,h,q,fun x H1 y C1 q1 e h1 f1=>by
  cases e
  cases x with
  | true=>exact ⟨ρ,C1,E,s.imm (f1.imm h),h1,q1,f.fw f1⟩
  | false=>exact ⟨ρ,C1,E,s.imm (f1.imm h),h1,q1,f.fw f1⟩⟩⟩
def cSet (i:Nat) (ce:TCE):TCS:=fun E ρ C=>ce ρ C fun t C1=>E.nx (ρ.set i (some t)) C1
theorem dQ {i:Nat}{x:Str}{pos':Pos}{ce:TCE}(hN:X.N.Nodup) (hi:X.N[i]?=some x) (hx:Loc X.env.scope x) (he:CE X e ce) (hs:swapsWith e (some (.Name x pos')) pos.line X.env=pure false:=by rfl) (hf:X.fn x=true∨X.env.scope.names.lookup x=some .local:=by first | exact .inl rfl | exact .inr rfl | assumption) :
  CS X (.Assign [.Name x pos'] e pos) (cSet i ce):=⟨JS.weak (js_set hN hi hx he.h hs hf) fun D σ H ⟨ρ,C,E,s,h,q,f⟩ =>
 ⟨ρ,C,_,s,h,q,fun x H1 px C1 q1 rx h1 f1=>f.nx _ H1 _ C1 q1 ((s.imm (f1.imm h)).set rx i) h1 f1⟩⟩
abbrev TCG:=PV→CSt→CH→(CSt→CH→Prop)→Prop
abbrev QP:=List PV→CSt→CH→(CSt→CH→Prop)→Prop
def Wu (K:PySem.W.Frag) (c:TCG):TG:=fun v σ H Q=>∃ t ρ C R,Rep K H v t∧SRel K H σ ρ∧HRel K H C∧c t ρ C R∧∀ σ' H' ρ' C',R ρ' C'→SRel K H' σ' ρ'→HRel K H' C'→Fw H C H' C'→Q σ' H'
def liftGs (K:PySem.W.Frag) (c:QP):TGs:=fun v σ H Q=>∃ t ρ C R,Reps K H v t∧SRel K H σ ρ∧HRel K H C∧c t ρ C R∧∀ σ' H' ρ' C',R ρ' C'→SRel K H' σ' ρ'→HRel K H' C'→Fw H C H' C'→Q σ' H'
structure CG (X:Cx) (e:Expr) (c:TCG):Prop where
 h:JG X e (Wu X.K c)
structure CGs (X:Cx) (es:List Expr) (c:QP):Prop where
 h:JGs X es (liftGs X.K c)
theorem JG.weak {t t':TG}(h:JG X e t) (w:∀ v σ H Q,t' v σ H Q→t v σ H Q):JG X e t':=⟨fun pins s σ H v u Q I r q=>h.h pins s σ H v u Q I r (w v σ H Q q)⟩
theorem JGs.weak {t t':TGs}(h:JGs X es t) (w:∀ v σ H Q,t' v σ H Q→t v σ H Q):JGs X es t':=⟨fun pins s σ H v u Q I r q=>h.h pins s σ H v u Q I r (w v σ H Q q)⟩
def dName (i:Nat):TCG:=fun t ρ C Q=>Q (ρ.set i (some t)) C
def dNil:QP:=fun ts ρ C Q=>match ts with
 | []=>Q ρ C
 | _=>False
def dCons (g:TCG) (u:QP):QP:=fun ts ρ C Q=>match ts with
 | t::r=>g t ρ C fun ρ' C'=>u r ρ' C' Q
 | []=>False
def dTup (n:Nat) (u:QP):TCG:=fun t ρ C Q=>match t with
 | .tup ts=>ts.length=n∧u ts ρ C Q
 | _=>False
theorem pX {i:Nat}{x:Str}(hN:X.N.Nodup) (hi:X.N[i]?=some x) (hx:Loc X.env.scope x) (hf:X.fn x=true∨X.env.scope.names.lookup x=some .local:=by first | exact .inl rfl | exact .inr rfl | assumption):CG X (.Name x pos) (dName i) :=
 ⟨JG.weak (jg_name hN hi hx hf) fun v σ H Q ⟨t,ρ,C,R,r,s,h,q,f⟩=>f _ H _ C q (s.set r i) h Fw.refl⟩
theorem jU:CGs X [] dNil:=⟨JGs.weak jgs_nil fun vs σ H Q ⟨ts,ρ,C,R,r,s,h,q,f⟩=>by
 cases r with
 | nil=>exact ⟨rfl,f σ H ρ C q s h Fw.refl⟩
 | cons _ _=>exact q.elim⟩
theorem aX {g:TCG}{u:QP}(h1:CG X e g) (h2:CGs X es u)
  (hs:(assignEach (e::es) X.env).map (·.2)=assign e X.env::(assignEach es X.env).map (·.2):=by rfl):CGs X (e::es) (dCons g u):=⟨JGs.weak (WH h1.h h2.h hs) fun vs σ H Q ⟨ts,ρ,C,R,r,s,h,q,f⟩=>by
 cases r with
 | nil=>exact q.elim
 | @cons v t vs ts r0 r =>
  exact ⟨v,vs,rfl,t,ρ,C,_,r0,s,h,q,fun σ' H' ρ' C' q' s' h' f'=>⟨ts,ρ',C',R,r.imm (f'.imm h),s',h',q',fun σ2 H2 ρ2 C2 q2 s2 h2 f2=>f σ2 H2 ρ2 C2 q2 s2 h2 (f'.trans f2)⟩⟩⟩
theorem vF {k:Nat}{u:QP}{n:Nat}(hc:X.calm=true) (h:CGs X es u)
  (hn:(assignEach es X.env).length=n:=by rfl) (hst:(assignEach es X.env).findIdx? (·.1)=none:=by rfl):CG X (.Tuple es k pos) (dTup n u):=⟨JG.weak (jg_tup hc h.h hn hst) fun v σ H Q ⟨t,ρ,C,R,r,s,h,q,f⟩=>by
 cases r with
 | @tup a vs ts e r =>
  obtain ⟨q1,q2⟩:=q;exact ⟨a,vs,rfl,SqT.of e,by rw [r.len]; exact q1,ts,ρ,C,R,r,s,h,q2,f⟩
 | _=>exact q.elim⟩
def cAsg (ce:TCE) (g:TCG):TCS:=fun E ρ C=>ce ρ C fun t C1=>g t ρ C1 E.nx
theorem iH {tg:Expr}{ce:TCE}{g:TCG}(he:CE X e ce) (hg:CG X tg g) (hs:swapsWithSole [tg] e pos.line X.env=pure false:=by rfl) (hw:swappedStores [tg] e X.env=pure none:=by rfl)
  (h1:(assignEach [tg] X.env).map (·.2)=[assign tg X.env]:=by rfl):CS X (.Assign [tg] e pos) (cAsg ce g):=⟨JS.weak (js_asg he.h hg.h hs hw h1) fun D σ H ⟨ρ,C,E,s,h,q,f⟩ =>
 ⟨ρ,C,_,s,h,q,fun x H1 px C1 q1 rx h1 f1=>⟨px,ρ,C1,E.nx,rx,s.imm (f1.imm h),h1,q1,fun σ' H' ρ' C' q' s' h' f'=>f.nx σ' H' ρ' C' q' s' h' (f1.trans f')⟩⟩⟩
@[irreducible] def JR:PV→PV→PV→CH→(CH→Prop)→Prop:=fun o i v C Q=>match o,i with
 | .ref p,.int k=>match C p with
  | some (.lst xs)=>match ixN xs.length k with
   | some j=>Q (nQ C p (.lst (xs.set j v)))
   | none=>False
  | _=>False
 | _,_=>False
def dSub (co ci:TCE) (u:PV→PV→PV→CH→(CH→Prop)→Prop):TCG:=fun t ρ C Q=>co ρ C fun o C1=>ci ρ C1 fun i C2=>u o i t C2 fun C3=>Q ρ C3
theorem nR {co ci:TCE}(ho:CE X o co) (hi:CE X i ci)
  (ha:∀ v,assign (.Subscript o i pos) X.env v=(do
   let ov ← holding [v] (eval o X.env)
   let iv ← holding [v,ov] (eval i X.env)
   standAt pos
   holding [v,ov,iv] (setItem ov iv v)
   release [v,ov,iv] []):=by intro _; rfl):CG X (.Subscript o i pos) (dSub co ci JR):=⟨JG.weak (jg_sub ho.h hi.h VB ha) fun v σ H Q ⟨t,ρ,C,R,r,s,h,q,f⟩ =>
 ⟨ρ,C,_,s,h,q,fun x H1 px C1 q1 rx h1 f1=>⟨ρ,C1,_,s.imm (f1.imm h),h1,q1,fun y H2 py C2 q2 ry h2 f2=>by
  have r2:=r.imm ((f1.trans f2).imm h);have s2:=s.imm ((f1.trans f2).imm h);unfold JR at q2
  split at q2
  ·next p k =>
   split at q2
   ·next xs e =>
    split at q2
    ·next j ej =>
     obtain ⟨vs,ev,rv⟩:=h2 p _ e;have rx2:=rx.imm (f2.imm h1);cases rx2;cases ry;refine ⟨p,vs,k,j,rfl,rfl,ev,by rw [rv.len]; exact ej,?_⟩;exact f σ _ ρ _ q2 (s2.imm (Imm.mut ev rfl _)) (h2.put ev rfl ⟨_,eQ,(rv.set r2 j).imm (Imm.mut ev rfl _)⟩) (f1.trans (f2.trans (Fw.put e _ _)))
    ·exact q2.elim
   ·exact q2.elim
  ·exact q2.elim⟩⟩⟩
def vU (g:TCG) (u:TCS) (E:gU):List PV→CSt→CH→Prop
 | [],ρ,C=>E.nx ρ C
 | x::r,ρ,C=>g x ρ C fun ρ1 C1=>u { nx:=vU g u E r,ct:=vU g u E r,bk:=E.nx,rt:=E.rt } ρ1 C1
structure ZY (K:PySem.W.Frag) (H:Hp) (J:It) (ps:List PV):Prop where
 go:∀ i H',i < ps.length→Imm H H'→J.go i H'
 yl:∀ i H' x H'',Imm H H'→J.yld i H' x H''→H''=H'∧∀ t,ps[i]?=some t→Rep K H' x t
 st:∀ H',Imm H H'→J.stop ps.length H'
theorem aC {K:PySem.W.Frag}{H:Hp}{C:CH}{σ:St}{ρ:CSt}{J:It}{ps:List PV}{g:TCG}{u:TCS}{E:gU}{D:Zd}(j:ZY K H J ps) (s:SRel K H σ ρ) (h:HRel K H C) (q:vU g u E ps ρ C) (f:ERel K H C E D) :
  ∃ W:Nat→Nat→St→Hp→Prop,(∃ m,W 0 m σ H)∧∀ i m σ H,W i m σ H →
   (J.stop i H∧D.nx σ H)∨(J.go i H∧∃ N:St→Hp→Prop,(∀ σ' H',N σ' H'→∃ m',m' < m∧W (i+1) m' σ' H')∧∀ x H',J.yld i H x H'→Wu K g x σ H' fun σ2 H2=>Ws K u { D with nx:=N,ct:=N,bk:=D.nx } σ2 H2):=by
 refine ⟨fun i m σ' H'=>m=ps.length - i∧i≤ps.length∧∃ ρ' C',SRel K H' σ' ρ'∧HRel K H' C'∧Fw H C H' C'∧vU g u E (ps.drop i) ρ' C',⟨ps.length,rfl,Nat.zero_le _,ρ,C,s,h,Fw.refl,q⟩,?_⟩;rintro i m σ1 H1 ⟨rfl,hi,ρ1,C1,s1,h1,f1,q1⟩;have k1:=f1.imm h
 by_cases hlt:i < ps.length
 ·refine .inr ⟨j.go i H1 hlt k1,fun σ' H'=>∃ ρ' C',SRel K H' σ' ρ'∧HRel K H' C'∧Fw H C H' C'∧vU g u E (ps.drop (i+1)) ρ' C',fun σ' H' z=>⟨ps.length - (i+1),by omega,rfl,hlt,z⟩,fun x H2 y => ?_⟩
  obtain ⟨rfl,y⟩:=j.yl i H1 x H2 k1 y;rw [List.drop_eq_getElem_cons hlt] at q1
  exact ⟨ps[i],ρ1,C1,_,y _ (List.getElem?_eq_getElem hlt),s1,h1,q1,fun σ' H' ρ' C' q' s' h' f'=>⟨ρ',C',_,s',h',q',⟨fun σ3 H3 ρ3 C3 q3 s3 h3 f3=>⟨ρ3,C3,s3,h3,f1.trans (f'.trans f3),q3⟩,fun v H3 t C3 q3 r3 h3 f3=>f.rt v H3 t C3 q3 r3 h3 (f1.trans (f'.trans f3)),
   fun σ3 H3 ρ3 C3 q3 s3 h3 f3=>f.nx σ3 H3 ρ3 C3 q3 s3 h3 (f1.trans (f'.trans f3)),fun σ3 H3 ρ3 C3 q3 s3 h3 f3=>⟨ρ3,C3,s3,h3,f1.trans (f'.trans f3),q3⟩⟩⟩⟩
 ·have e:i=ps.length:=by omega
  subst e;rw [List.drop_length] at q1;exact .inl ⟨j.st H1 k1,f.nx σ1 H1 ρ1 C1 q1 s1 h1 f1⟩
theorem Qt {K:PySem.W.Frag}{H:Hp}{a:Addr}{vs:List V}{ts:List PV}(h:SqT K H a vs) (r:Reps K H vs ts):ZY K H (Itt K a) ts where
 go:=fun i H' l k=>⟨vs,vs[i]'(by rw [r.len]; exact l),SqT.imm h k,List.getElem?_eq_getElem _⟩
 yl:=fun i H' x H'' k y=>⟨y.1,fun t e=>by
  obtain ⟨v,ev,rv⟩:=(r.imm k).get e;have:=y.2 vs (SqT.imm h k)
  rw [ev] at this; cases this; exact rv⟩
 st:=fun H' k=>⟨vs,SqT.imm h k,by rw [r.len]; exact Nat.le_refl _⟩
theorem it_fz {K:PySem.W.Frag}{H:Hp}{a:Addr}{vs:List V}{ts:List PV}(h:Fz K H a vs) (r:Reps K H vs ts):ZY K H (Itl K a) ts where
 go:=fun i H' l k=>⟨vs,vs[i]'(by rw [r.len]; exact l),(h.imm k).sq,List.getElem?_eq_getElem _⟩
 yl:=fun i H' x H'' k y=>⟨y.1,fun t e=>by
  obtain ⟨v,ev,rv⟩:=(r.imm k).get e;have:=y.2 vs (h.imm k).sq
  rw [ev] at this; cases this; exact rv⟩
 st:=fun H' k=>⟨vs,(h.imm k).sq,by rw [r.len]; exact Nat.le_refl _⟩
theorem WM {K:PySem.W.Frag}{H:Hp}{n:Nat}:ZY K H (Itr 0 n) ((List.range n).map fun k=>PV.int (k:Nat)) where
 go:=fun i H' l k=>by rw [List.length_map,List.length_range] at l; exact l
 yl:=fun i H' x H'' k y=>⟨y.1,fun t e=>by
  rw [y.2];rw [List.getElem?_map] at e
  cases z:(List.range n)[i]? with
  | none=>rw [z] at e; cases e
  | some w =>
   rw [z] at e;cases e;have:=List.getElem?_eq_some_iff.mp z;obtain ⟨l,e⟩:=this;rw [List.getElem_range] at e;subst e;rw [Int.zero_add]
   exact .int _⟩
 st:=fun H' k=>by rw [List.length_map,List.length_range]; exact Nat.le_refl _
@[irreducible] def pI (ce:TCE) (g:TCG) (u:TCS):TCS:=fun E ρ C=>ce ρ C fun t C1=>match t with
 | .tup xs=>vU g u E xs ρ C1
 | .kt xs=>vU g u E xs ρ C1
 | _=>False
theorem eB {tg iter:Expr}{body:List Stmt}{ce:TCE}{g:TCG}{u:TCS}(hp:PassesOwn (model X.prog X.w) X.A X.env X.xe) (hc:X.calm=true) (hi:CE X iter ce) (hg:CG X tg g) (hb:CB X body u)
  (hs:∀ x,foldedSetIterable iter X.env x=pure x:=by intro _; rfl):CS X (.For tg iter body [] pos) (pI ce g u):=⟨JS.weak (ZG hp hc (WF hi.h) hg.h hb.h hs) fun D σ H ⟨ρ,C,E,s,h,q,f⟩=>by
 unfold pI at q
 exact ⟨ρ,C,_,s,h,q,fun x H1 px C1 q1 rx h1 f1=>by
  cases rx with
  | @tup a vs ts e r=>exact ⟨a,rfl,⟨vs,SqT.of e⟩,aC (Qt (SqT.of e) r) (s.imm (f1.imm h)) h1 q1 (f.fw f1)⟩
  | @kt a vs ts e r=>exact ⟨a,rfl,⟨vs,e⟩,aC (Qt e r) (s.imm (f1.imm h)) h1 q1 (f.fw f1)⟩
  | _=>exact q1.elim⟩⟩
def cForR (ca:TCA) (g:TCG) (u:TCS):TCS:=fun E ρ C=>ca ρ C fun ts C1=>match ts with
 | [.int j] => -(2 ^ 62)≤j∧j < 2 ^ 62∧vU g u E ((List.range j.toNat).map fun k=>PV.int (k:Nat)) ρ C1
 | _=>False
theorem rR {tg:Expr}{body:List Stmt}{ca:TCA}{g:TCG}{u:TCS}{p pos2:Pos}(hp:PassesOwn (model X.prog X.w) X.A X.env X.xe) (hc:X.calm=true) (hgl:Gl X "range") (hm:X.mg "range" = none) (ha:CA X [a] ca) (hg:CG X tg g) (hb:CB X body u)
  (hst:tX a=true:=by rfl) (hs:∀ x,foldedSetIterable (.Call (.Name "range" p) [a] [] pos2) X.env x=pure x:=by intro _; rfl):CS X (.For tg (.Call (.Name "range" p) [a] [] pos2) body [] pos) (cForR ca g u):=⟨JS.weak (ZG hp hc (xI hgl hm ha.h hst) hg.h hb.h hs) fun D σ H ⟨ρ,C,E,s,h,q,f⟩ =>
 ⟨ρ,C,_,s,h,q,fun xs H1 ts C1 q1 rs h1 f1=>by
  split at q1
  ·next j =>
   cases rs with
   | cons r0 r =>
    cases r;cases r0;exact ⟨j,rfl,q1.1,q1.2.1,aC WM (s.imm (f1.imm h)) h1 q1.2.2 (f.fw f1)⟩
  ·exact q1.elim⟩⟩
def jM (a:Addr) (g:TCG) (u:TCS) (E:gU):Nat→Nat→CSt→CH→Prop
 | 0,_,_,_=>False
 | n+1,i,ρ,C=>match C a with
  | some (.lst xs)=>match xs[i]? with
   | some x=>g x ρ C fun ρ1 C1=>u { nx:=jM a g u E n (i+1),ct:=jM a g u E n (i+1),bk:=E.nx,rt:=E.rt } ρ1 C1
   | none=>E.nx ρ C
  | _=>False
def cForL (ce:TCE) (g:TCG) (u:TCS):TCS:=fun E ρ C=>ce ρ C fun t C1=>match t with
 | .ref a=>∃ n,jM a g u E n 0 ρ C1
 | .fz xs=>vU g u E xs ρ C1
 | _=>False
theorem aB {tg iter:Expr}{body:List Stmt}{ce:TCE}{g:TCG}{u:TCS}(hp:PassesOwn (model X.prog X.w) X.A X.env X.xe) (hc:X.calm=true) (hi:CE X iter ce) (hg:CG X tg g) (hb:CB X body u)
  (hs:∀ x,foldedSetIterable iter X.env x=pure x:=by intro _; rfl):CS X (.For tg iter body [] pos) (cForL ce g u):=⟨JS.weak (ZG hp hc (Jn hi.h) hg.h hb.h hs) fun D σ H ⟨ρ,C,E,s,h,q,f⟩ =>
 ⟨ρ,C,_,s,h,q,fun x H1 px C1 q1 rx h1 f1=>by
  cases rx with
  | @fz a vs ts e r=>exact ⟨a,rfl,⟨vs,e.sq⟩,aC (it_fz e r) (s.imm (f1.imm h)) h1 q1 (f.fw f1)⟩
  | ref a =>
   obtain ⟨n,q1⟩:=q1
   have ex:∃ ys,SqL X.K H1 a ys:=by
    cases n with
    | zero=>exact q1.elim
    | succ n =>
     unfold jM at q1
     split at q1
     ·next xs e=>obtain ⟨vs,ev,_⟩:=h1 a _ e; exact ⟨vs,SqL.of ev⟩
     ·exact q1.elim
   refine ⟨a,rfl,ex,fun i m σ' H'=>∃ ρ' C',SRel X.K H' σ' ρ'∧HRel X.K H' C'∧Fw H1 C1 H' C'∧jM a g u E m i ρ' C',⟨n,ρ,C1,s.imm (f1.imm h),h1,Fw.refl,q1⟩,?_⟩;rintro i m σ2 H2 ⟨ρ2,C2,s2,h2,f2,q2⟩
   cases m with
   | zero=>exact q2.elim
   | succ m =>
    unfold jM at q2
    split at q2
    ·next xs e =>
     obtain ⟨vs,ev,rv⟩:=h2 a _ e
     split at q2
     ·next x ex =>
      obtain ⟨v,ev',rx⟩:=rv.get ex;refine .inr ⟨⟨vs,v,SqL.of ev,ev'⟩,fun σ' H'=>∃ ρ' C',SRel X.K H' σ' ρ'∧HRel X.K H' C'∧Fw H1 C1 H' C'∧jM a g u E m (i+1) ρ' C',fun σ' H' z=>⟨m,Nat.lt_succ_self m,z⟩,fun y H3 hy => ?_⟩;obtain ⟨rfl,hy⟩:=hy;have:=hy vs (SqL.of ev);rw [ev'] at this; cases this
      exact ⟨x,ρ2,C2,_,rx,s2,h2,q2,fun σ' H' ρ' C' q' s' h' f'=>⟨ρ',C',_,s',h',q',⟨fun σ3 H3 ρ3 C3 q3 s3 h3 f3=>⟨ρ3,C3,s3,h3,f2.trans (f'.trans f3),q3⟩,fun v H3 t C3 q3 r3 h3 f3=>f.rt v H3 t C3 q3 r3 h3 (f1.trans (f2.trans (f'.trans f3))),
       fun σ3 H3 ρ3 C3 q3 s3 h3 f3=>f.nx σ3 H3 ρ3 C3 q3 s3 h3 (f1.trans (f2.trans (f'.trans f3))),fun σ3 H3 ρ3 C3 q3 s3 h3 f3=>⟨ρ3,C3,s3,h3,f2.trans (f'.trans f3),q3⟩⟩⟩⟩
     ·next ex =>
      refine .inl ⟨⟨vs,SqL.of ev,?_⟩,f.nx σ2 H2 ρ2 C2 q2 s2 h2 (f1.trans f2)⟩;rw [rv.len];exact List.getElem?_eq_none_iff.mp ex
    ·exact q2.elim
  | _=>exact q1.elim⟩⟩
def zJ (t:TCT) (c:TCE) (ρ:CSt) (Q:K1):List PV→List PV→CH→Prop
 | [],acc,C=>∀ p,C p=none→Q (.ref p) (nQ C p (.lst acc))
 | x::r,acc,C=>t (some x::ρ) C fun b C1=>if b=true then c (some x::ρ) C1 fun y C2=>acc.length < sizeLine∧zJ t c ρ Q r (acc++[y]) C2 else zJ t c ρ Q r acc C1
structure CF (X:Cx) (ifs:List Expr) (c:TCT):Prop where
 h:JF X ifs (jK X.K mL c)
def sD:TCT:=fun _ C Q=>Q true C
theorem JF.weak {ifs:List Expr}{t t':TT}(h:JF X ifs t) (w:∀ σ H Q,t' σ H Q→t σ H Q):JF X ifs t':=⟨fun pins s σ H Q I q=>h.h pins s σ H Q I (w σ H Q q)⟩
theorem vV:CF X [] sD:=⟨JF.weak jf_nil fun σ H Q ⟨ρ,C,R,s,h,q,f⟩=>f true H true C q rfl h Fw.refl⟩
theorem Yg {t:TCT}(h:CT X c t):CF X [c] t:=⟨jf_one h.h⟩
theorem comp_it {K:PySem.W.Frag}{H H0:Hp}{C C0:CH}{σ:St}{ρ:CSt}{J:It}{ps:List PV}{t:TCT}{c:TCE}{R:K1}{Q:VK}(j:ZY K H J ps) (s:SRel K H σ ρ) (h:HRel K H C) (q:zJ t c ρ R ps [] C)
  (h0:HRel K H0 C0) (f0:Fw H0 C0 H C) (f:∀ v H' p C',R p C'→Rep K H' v p→HRel K H' C'→Fw H0 C0 H' C'→Q v H') {D:Addr} (hD:H D=none) :
  ∃ W:Nat→Nat→List V→Hp→Prop,(∃ m,W 0 m [] (upd H D (.lst [])))∧∀ i m ys H,W i m ys H →
   (J.stop i H∧Q (.ref D) H)∨(J.go i H∧∀ x H',J.yld i H x H'→jK K mL t (some x::σ) H' fun b H2 =>
    if b=true then jK K (Rep K) c (some x::σ) H2 fun y H3=>H3 D=some (.lst ys)∧ys.length < sizeLine∧∃ m',m' < m∧W (i+1) m' (ys++[y]) (upd H3 D (.lst (ys++[y])))
    else ∃ m',m' < m∧W (i+1) m' ys H2):=by
 have fD:∀ {H':Hp} {C':CH},Fw H C H' C'→True:=fun _=>trivial
 refine ⟨fun i m ys H'=>m=ps.length - i∧i≤ps.length∧∃ acc C',H' D=some (.lst ys)∧C' D=none∧Reps K H' ys acc∧HRel K H' C'∧Fw H C H' C'∧zJ t c ρ R (ps.drop i) acc C',
  ⟨ps.length,rfl,Nat.zero_le _,[],C,eQ,h.fresh hD,.nil,h.new hD _,Fw.new hD _,q⟩,?_⟩
 rintro i m ys H1 ⟨rfl,hi,acc,C1,e1,n1,r1,h1,f1,q1⟩;have k1:Imm H H1:=f1.imm h
 by_cases hlt:i < ps.length
 ·refine .inr ⟨j.go i H1 hlt k1,fun x H2 y => ?_⟩
  obtain ⟨rfl,y⟩:=j.yl i H1 x H2 k1 y;have rx:=y _ (List.getElem?_eq_getElem hlt);rw [List.drop_eq_getElem_cons hlt] at q1;refine ⟨some ps[i]::ρ,C1,_,.cons rx (s.imm k1),h1,q1,fun b H3 b' C3 q3 e h3 f3 => ?_⟩;cases e;obtain ⟨n3,e3⟩:=f3 D (by rw [n1]; rfl) (by rw [e1]; exact fun z=>nomatch z);rw [e1] at e3;rw [n1] at n3;have k3:=f3.imm h1
  cases b with
  | true =>
   rw [if_pos rfl] at q3 ⊢;refine ⟨some ps[i]::ρ,C3,_,.cons (rx.imm k3) ((s.imm k1).imm k3),h3,q3,fun v H4 p C4 q4 r4 h4 f4 => ?_⟩;obtain ⟨n4,e4⟩:=f4 D (by rw [n3]; rfl) (by rw [e3]; exact fun z=>nomatch z);rw [e3] at e4;rw [n3] at n4;have k4:=f4.imm h3;have m4:Imm H4 (upd H4 D (.lst (ys++[v]))):=Imm.mut e4 rfl _;refine ⟨e4,by rw [r1.len]; exact q4.1,ps.length - (i+1),by omega,rfl,hlt,acc++[p],C4,eQ,n4,?_,?_,?_,q4.2⟩
   ·exact (((r1.imm k3).imm k4).append (.cons r4 .nil)).imm m4
   ·intro a o ca
    have ne:a≠D:=fun z=>by subst z; rw [n4] at ca; cases ca
    exact (h4 a o ca).imm m4 (aQ ne)
   ·intro a ca na
    have ne:a≠D:=fun z=>na (z▸hD);obtain ⟨x1,x2⟩:=(f1.trans (f3.trans f4)) a ca na;exact ⟨x1,(aQ ne).trans x2⟩
  | false =>
   rw [if_neg Bool.false_ne_true] at q3 ⊢;exact ⟨ps.length - (i+1),by omega,rfl,hlt,acc,C3,e3,n3,r1.imm k3,h3,f1.trans f3,q3⟩
 ·have e:i=ps.length:=by omega
  subst e;rw [List.drop_length] at q1;refine .inl ⟨j.st H1 k1,f (.ref D) H1 (.ref D) _ (q1 D n1) (.ref D) ?_ ?_⟩
  ·intro a o ca
   by_cases z:a=D
   ·subst z; rw [xQ] at ca; cases ca; exact ⟨ys,e1,r1⟩
   ·rw [bQ z] at ca; exact h1 a o ca
  ·intro a ca na
   obtain ⟨x1,x2⟩:=f0 a ca na;have na':H a≠none:=by rw [x2]; exact na
   have ne:a≠D:=fun z=>na' (z▸hD);obtain ⟨y1,y2⟩:=f1 a (by rw [x1]; exact ca) na';exact ⟨(bQ ne).trans (y1.trans x1),y2.trans x2⟩
structure CI (X:Cx) (tg it:Expr) (wi:TI) (c:CSt→CH→(List PV→CH→Prop)→Prop):Prop where
 j:JI X tg it wi
 w:∀ σ H ρ C R Q,SRel X.K H σ ρ→HRel X.K H C→c ρ C R→(∀ J H' ps C',R ps C'→ZY X.K H' J ps→HRel X.K H' C'→Fw H C H' C'→Q J H')→wi σ H Q
def cItT (ce:TCE):CSt→CH→(List PV→CH→Prop)→Prop:=fun ρ C Q=>ce ρ C fun t C1=>match t with
 | .tup xs=>Q xs C1
 | .kt xs=>Q xs C1
 | _=>False
theorem rD {tg:Expr}{ce:TCE}(h:CE X e ce):CI X tg e (iTup X.K (jK X.K (Rep X.K) ce)) (cItT ce):=⟨WF h.h,fun σ H ρ C R Q s h q f=>⟨ρ,C,_,s,h,q,fun x H1 px C1 q1 rx h1 f1=>by
  cases rx with
  | @tup a vs ts e r=>exact ⟨a,rfl,⟨vs,SqT.of e⟩,f _ H1 ts C1 q1 (Qt (SqT.of e) r) h1 f1⟩
  | @kt a vs ts e r=>exact ⟨a,rfl,⟨vs,e⟩,f _ H1 ts C1 q1 (Qt e r) h1 f1⟩
  | _=>exact q1.elim⟩⟩
def cItR (ca:TCA):CSt→CH→(List PV→CH→Prop)→Prop:=fun ρ C Q=>ca ρ C fun ts C1=>match ts with
 | [.int j] => -(2 ^ 62)≤j∧j < 2 ^ 62∧Q ((List.range j.toNat).map fun k=>PV.int (k:Nat)) C1
 | _=>False
theorem cO {tg:Expr}{ca:TCA}{p pos2:Pos}(hgl:Gl X "range") (hm:X.mg "range" = none) (ha:CA X [a] ca) (hst:tX a=true:=by rfl):CI X tg (.Call (.Name "range" p) [a] [] pos2) (WV (jK X.K (Reps X.K) ca)) (cItR ca):=⟨xI hgl hm ha.h hst,fun σ H ρ C R Q s h q f=>⟨ρ,C,_,s,h,q,fun xs H1 ts C1 q1 rs h1 f1=>by
  split at q1
  ·next j =>
   cases rs with
   | cons r0 r =>
    cases r;cases r0;exact ⟨j,rfl,q1.1,q1.2.1,f _ H1 _ C1 q1.2.2 WM h1 f1⟩
  ·exact q1.elim⟩⟩
def cComp (ci:CSt→CH→(List PV→CH→Prop)→Prop) (t:TCT) (c:TCE):TCE:=fun ρ C Q=>ci ρ C fun ps C1=>zJ t c ρ Q ps [] C1
theorem KC {wi:TI}{tg it:Expr}{ci:CSt→CH→(List PV→CH→Prop)→Prop}{t:TCT}{c:TCE}(hi:CI X tg it wi ci) {σ:St}{H:Hp}{Q:VK}(h:jK X.K (Rep X.K) (cComp ci t c) σ H Q):Z6 wi (jK X.K mL t) (jK X.K (Rep X.K) c) σ H Q:=by
 obtain ⟨ρ,C,R,s,h,q,f⟩:=h;exact hi.w σ H ρ C _ _ s h q fun J H' ps C' q' j h' f' D hD=>comp_it j (s.imm (f'.imm h)) h' q' h f' f hD
theorem xU {elt iter:Expr}{x:Str}{px:Pos}{ifs:List Expr}{scope:Scope}{wi:TI}{ci:CSt→CH→(List PV→CH→Prop)→Prop}{t:TCT}{c:TCE}
  (hc:X.calm=true) (hN:(x::X.N).Nodup) (K:∃ cl,yM X x scope cl) (hi:CI X (.Name x px) iter wi ci)
  (ht:∀ cl fp C s₂ H₂,CF (pZ X x scope cl fp C s₂ H₂) ifs t) (he:∀ cl fp C s₂ H₂,CE (pZ X x scope cl fp C s₂ H₂) elt c)
  (hs:∀ v,foldedSetIterable iter X.env v=pure v:=by intro _; rfl):CE X (.ListComp elt [⟨.Name x px,iter,ifs,0⟩] scope pos) (cComp ci t c) :=
 ⟨JE.weak (zP hc hN K hi.j (fun cl fp C s₂ H₂=>(ht cl fp C s₂ H₂).h) (fun cl fp C s₂ H₂=>(he cl fp C s₂ H₂).h) hs) fun _ _ _ h=>KC hi h⟩
end
def eI (N:List Str) (ts:List PV):CSt:=ts.map some++List.replicate (N.length - ts.length) none
theorem xA {K:PySem.W.Frag}{H:Hp}:∀ n,SRel K H (List.replicate n none) (List.replicate n none)
 | 0=>.nil
 | n+1=>.cons trivial (xA n)
theorem QZ {K:PySem.W.Frag}{H:Hp}{σ:St}{ρ:CSt}(s:SRel K H σ ρ):∀ {vs:List V}{ts:List PV},Reps K H vs ts→SRel K H (vs.map some++σ) (ts.map some++ρ)
 | _,_,.nil=>s
 | _,_,.cons h r=>.cons h (QZ s r)
theorem Zj {K:PySem.W.Frag}{H:Hp}{N:List Str}{vs:List V}{ts:List PV}(r:Reps K H vs ts):SRel K H (L2.start N vs) (eI N ts):=by
 unfold L2.start eI;rw [r.len];exact QZ (xA _) r
section
variable {P:Program}{w:World}{K:PySem.W.Frag}{mg:Str→Option Value}{base:Heap}
theorem Fun.okC {x qual:Str}{st:Stmt}{f:Addr}{fd:FuncData}{N ps:List Str}{k:Nat}{G:GC}(F:Fun K x qual st f fd) (S:yX N ps (kQ st)) (len:∀ ts C R,G ts C R→ts.length=ps.length)
  (hbody:∀ (cdv:Value) (A:Around) (outer:List Env) (s:Shared) (H:Hp) (E:XK),Room k (A.deeper (envOfC qual (kQ st) s.heap.objs.size f cdv)) →
   ∃ c,CB (XT CX0 P w K mg base N qual (kQ st) f cdv A outer s H E).nox (fQ st) c∧∀ ts C R,G ts C R→c { nx:=fun _ C'=>R .non C',rt:=R } (eI N ts) C):FnOk P w K mg base CX0 (k+1) f fd ps (spC K G):=by
 refine F.okJ S ?_ ?_
 ·rintro vs H Q E ⟨ts,C,R,r,h,g,f⟩
  rw [r.len]; exact len ts C R g
 ·rintro cdv A outer s H vs Q E hr ⟨ts,C,R,r,h,g,f⟩
  obtain ⟨c,hc,q⟩:=hbody cdv A outer s H E hr;refine ⟨_,hc.h,eI N ts,C,_,Zj r,h,q ts C R g,⟨fun σ' H' ρ' C' q' s' h' f'=>f .non H' .non C' q' .non h' f',f,fun _ _ _ _ q' _ _ _=>q'.elim,fun _ _ _ _ q' _ _ _=>q'.elim⟩⟩
end
section
variable {X:Cx}{a b c e o i:Expr}{es:List Expr}{pos:Pos}
@[irreducible] def cI (g:Int→Int→PV):R2C:=fun x y C Q=>match x,y with
 | .int i,.int j=>Q (g i j) C
 | _,_=>False
def cIc (P:Int→Int→Prop) (g:Int→Int→PV):R2C:=fun x y C Q=>match x,y with
 | .int i,.int j=>P i j∧Q (g i j) C
 | _,_=>False
theorem Yc {K:PySem.W.Frag}{g:Int→Int→V}{g':Int→Int→PV}(hg:∀ i j H,Rep K H (g i j) (g' i j)):Cop K (rI0 g) (cI g'):=fun x y px py H C Q R rx ry h q f=>by
 unfold cI at q
 split at q
 ·cases rx; cases ry
  exact ⟨_,_,rfl,rfl,f _ H _ C q (hg _ _ _) h Fw.refl⟩
 ·exact q.elim
theorem Qy {K:PySem.W.Frag}{P:Int→Int→Prop}{g:Int→Int→V}{g':Int→Int→PV}(hg:∀ i j H,Rep K H (g i j) (g' i j)):Cop K (rI P g) (cIc P g'):=fun x y px py H C Q R rx ry h q f=>by
 unfold cIc at q
 split at q
 ·cases rx; cases ry
  exact ⟨_,_,rfl,rfl,q.1,f _ H _ C q.2 (hg _ _ _) h Fw.refl⟩
 ·exact q.elim
theorem fJ {K:PySem.W.Frag}:Cop K (rI0 fun i j=>.int (i - j)) (cI fun i j=>.int (i - j)):=Yc fun _ _ _=>.int _
theorem eF {K:PySem.W.Frag}:Cop K (rI CMul fun i j=>.int (i * j)) (cIc CMul fun i j=>.int (i * j)):=Qy fun _ _ _=>.int _
theorem XX {K:PySem.W.Frag}:Cop K (rI (fun _ j=>0 < j∧j < 18446744073709551616) fun i j=>.int (i / j)) (cIc (fun _ j=>0 < j∧j < 18446744073709551616) fun i j=>.int (i / j)):=Qy fun _ _ _=>.int _
theorem zU {K:PySem.W.Frag}:Cop K (rI (fun _ j=>0 < j) fun i j=>.int (i % j)) (cIc (fun _ j=>0 < j) fun i j=>.int (i % j)):=Qy fun _ _ _=>.int _
theorem wP {K:PySem.W.Frag}:Cop K (rI CPow fun i j=>.int (i ^ j.toNat)) (cIc CPow fun i j=>.int (i ^ j.toNat)):=Qy fun _ _ _=>.int _
theorem iB {K:PySem.W.Frag}:Cop K (rI0 fun i j=>.bl (decide (i < j))) (cI fun i j=>.bl (decide (i < j))):=Yc fun _ _ _=>.bl _
theorem oJ {K:PySem.W.Frag}:Cop K (rI0 fun i j=>.bl (decide (j < i))) (cI fun i j=>.bl (decide (j < i))):=Yc fun _ _ _=>.bl _
def cNeg:PV→CH→K1→Prop:=fun x C Q=>match x with
 | .int i=>Q (.int (-i)) C
 | _=>False
theorem lR {K:PySem.W.Frag}:Cun K (rU fun i=>.int (-i)) cNeg:=fun x px H C Q R rx h q f=>by
 unfold cNeg at q
 split at q
 ·cases rx; exact ⟨_,rfl,f _ H _ C q (.int _) h Fw.refl⟩
 ·exact q.elim
theorem Jr {H H':Hp}{C:CH}(s:Same H H'):Fw H C H' C:=fun a c n=>⟨rfl,by
 cases e:H a with
 | none=>exact absurd e n
 | some o=>exact s a o e⟩
theorem vI {K:PySem.W.Frag}{H H':Hp}{C:CH}(h:HRel K H C) (s:Same H H'):HRel K H' C:=fun a o c=>by
 obtain ⟨u,e,_⟩:=(h a o c).mut;exact (h a o c).imm (fun b v _ e=>s b v e) ((s a u e).trans e.symm)
@[irreducible] def X6:R2C:=fun x y C Q=>match x,y with
 | .int i,.int j=>Q (.int (i+j)) C
 | .str i,.str j=>i.length+j.length≤sizeLine∧Q (.str (i++j)) C
 | .tup xs,.tup ys=>xs.length+ys.length≤sizeLine∧Q (.tup (xs++ys)) C
 | .ref a,.ref b=>match C a,C b with
  | some (.lst xs),some (.lst ys)=>xs.length+ys.length≤sizeLine∧∀ p,C p=none→Q (.ref p) (nQ C p (.lst (xs++ys)))
  | _,_=>False
 | _,_=>False
abbrev rAddC:R2:=fun x y H Q=>rI0 (fun i j=>.int (i+j)) x y H Q∨((∃ i j,x=.str i∧y=.str j∧i.length+j.length≤sizeLine∧Q (.str (i++j)) H)∨(rCatU x y H Q∨rCat x y H Q))
theorem hX:OpR X (binaryOp .Add) rAddC:=OpR.or op_add (OpR.or Zs (OpR.or op_catU op_cat))
theorem rX {K:PySem.W.Frag}:Cop K rAddC X6:=fun x y px py H C Q R rx ry h q f=>by
 unfold X6 at q
 split at q
 ·cases rx; cases ry
  exact .inl ⟨_,_,rfl,rfl,f _ H _ C q (.int _) h Fw.refl⟩
 ·cases rx; cases ry
  exact .inr (.inl ⟨_,_,rfl,rfl,q.1,f _ H _ C q.2 (.str _) h Fw.refl⟩)
 ·cases rx with
  | tup e r=>cases ry with
   | tup e' r' =>
    refine .inr (.inr (.inl ⟨_,_,_,_,rfl,rfl,e,e',by rw [r.len,r'.len]; exact q.1,fun z H' s hz _ => ?_⟩));exact f _ H' _ C q.2 (.tup hz ((r.append r').imm fun b v _ e=>s b v e)) (vI h s) (Jr s)
 ·split at q
  ·next xs ys e1 e2 =>
   obtain ⟨vs,ev,rv⟩:=h _ _ e1;obtain ⟨us,eu,ru⟩:=h _ _ e2;cases rx; cases ry
   refine .inr (.inr (.inr ⟨_,_,_,_,rfl,rfl,ev,eu,by rw [rv.len,ru.len]; exact q.1,fun p hp => ?_⟩));exact f _ _ _ _ (q.2 p (h.fresh hp)) (.ref p) (h.lay hp ⟨_,eQ,(rv.append ru).imm (Imm.new hp _)⟩) (Fw.lay hp _ _)
  ·exact q.elim
 ·exact q.elim
def sEq:PV→PV→Option Bool
 | .non,.non=>some true | .non,.int _=>some false | .int _,.non=>some false | .non,.bl _=>some false | .bl _,.non=>some false | .non,.str _=>some false | .str _,.non=>some false
 | .int i,.int j=>some (decide (i=j)) | .bl b,.bl c=>some (decide (b=c)) | .str x,.str y=>some (decide (x=y))
 | .int _,.str _=>some false | .str _,.int _=>some false | .bl _,.str _=>some false | .str _,.bl _=>some false
 | _,_=>none
@[irreducible] def cEq (k:Bool→Bool):R2C:=fun x y C Q=>match sEq x y with
 | some b=>Q (.bl (k b)) C
 | none=>False
theorem Z9 {K:PySem.W.Frag}{H:Hp}{x y:V}{px py:PV}{b:Bool}(rx:Rep K H x px) (ry:Rep K H y py) (e:sEq px py=some b):scal x y=true∧decide (x=y)=b:=by
 cases rx<;>cases ry<;>cases e<;>exact ⟨rfl,by simp⟩
theorem nX {K:PySem.W.Frag}:Cop K rEq (cEq id):=fun x y px py H C Q R rx ry h q f=>by
 unfold cEq at q
 split at q
 ·next b e =>
  obtain ⟨h1,h2⟩:=Z9 rx ry e;refine ⟨h1,?_⟩;rw [h2];exact f _ H _ C q (.bl _) h Fw.refl
 ·exact q.elim
theorem cop_ne {K:PySem.W.Frag}:Cop K rNe (cEq not):=fun x y px py H C Q R rx ry h q f=>by
 unfold cEq at q
 split at q
 ·next b e =>
  obtain ⟨h1,h2⟩:=Z9 rx ry e;refine ⟨h1,?_⟩;rw [h2];exact f _ H _ C q (.bl _) h Fw.refl
 ·exact q.elim
def nC:PV→Bool
 | .non=>true
 | _=>false
def cIs (k:Bool→Bool):R2C:=fun x y C Q=>match y with
 | .non=>Q (.bl (k (nC x))) C
 | _=>False
theorem XG {K:PySem.W.Frag}{H:Hp}{x:V}{px:PV}(r:Rep K H x px):decide (x=.non)=nC px:=by
 cases r<;>simp [nC]
theorem cop_isN {K:PySem.W.Frag}:Cop K (fun x y H Q=>y=.non∧Q (.bl (decide (x=.non))) H) (cIs id):=fun x y px py H C Q R rx ry h q f=>by
 cases ry with
 | non=>exact ⟨rfl,by rw [XG rx]; exact f _ H _ C q (.bl _) h Fw.refl⟩
 | _=>exact q.elim
theorem fO {K:PySem.W.Frag}:Cop K (fun x y H Q=>y=.non∧Q (.bl (!decide (x=.non))) H) (cIs not):=fun x y px py H C Q R rx ry h q f=>by
 cases ry with
 | non=>exact ⟨rfl,by rw [XG rx]; exact f _ H _ C q (.bl _) h Fw.refl⟩
 | _=>exact q.elim
def cAt (xs:List PV) (i:Int) (C:CH) (Q:K1):Prop:=match atI xs i with
 | some v=>Q v C
 | none=>False
@[irreducible] def cIx:R2C:=fun x y C Q=>match x,y with
 | .tup xs,.int i=>cAt xs i C Q
 | .kt xs,.int i=>cAt xs i C Q
 | .fz xs,.int i=>cAt xs i C Q
 | .ref a,.int i=>match C a with
  | some (.lst xs)=>cAt xs i C Q
  | _=>False
 | .str z,.int i=>z.length≤sizeLine∧match atI z.cps.toList i with
  | some c=>Q (.str ⟨#[c]⟩) C
  | none=>False
 | _,_=>False
theorem Reps.at {K:PySem.W.Frag}{H:Hp}{vs:List V}{ts:List PV}{i:Int}{t:PV}(r:Reps K H vs ts) (e:atI ts i=some t):∃ v,atI vs i=some v∧Rep K H v t:=by
 unfold atI at e ⊢;rw [r.len]
 cases z:ixN ts.length i with
 | none=>rw [z] at e; cases e
 | some j =>
  rw [z] at e;exact r.get e
theorem QL {K:PySem.W.Frag}{H:Hp}{C:CH}{vs:List V}{ts:List PV}{i:Int}{R:K1}(r:Reps K H vs ts) (q:cAt ts i C R):∃ v t,atI vs i=some v∧Rep K H v t∧R t C:=by
 unfold cAt at q
 split at q
 ·next t e =>
  obtain ⟨v,e',r'⟩:=r.at e;exact ⟨v,t,e',r',q⟩
 ·exact q.elim
theorem uQ {K:PySem.W.Frag}:Cop K (rIx K) cIx:=fun x y px py H C Q R rx ry h q f=>by
 unfold cIx at q
 split at q
 ·cases ry
  cases rx with
  | tup e r =>
   obtain ⟨v,t,e',r',q⟩:=QL r q;exact .inr (.inl ⟨_,_,_,v,rfl,rfl,SqT.of e,e',f _ H _ C q r' h Fw.refl⟩)
 ·cases ry
  cases rx with
  | kt e r =>
   obtain ⟨v,t,e',r',q⟩:=QL r q;exact .inr (.inl ⟨_,_,_,v,rfl,rfl,e,e',f _ H _ C q r' h Fw.refl⟩)
 ·cases ry
  cases rx with
  | fz e r =>
   obtain ⟨v,t,e',r',q⟩:=QL r q;exact .inl ⟨_,_,_,v,rfl,rfl,e.sq,e',f _ H _ C q r' h Fw.refl⟩
 ·cases ry
  split at q
  ·next xs e =>
   obtain ⟨vs,ev,rv⟩:=h _ _ e;cases rx;obtain ⟨v,t,e',r',q⟩:=QL rv q;exact .inl ⟨_,_,_,v,rfl,rfl,SqL.of ev,e',f _ H _ C q r' h Fw.refl⟩
  ·exact q.elim
 ·cases ry; cases rx
  obtain ⟨q1,q2⟩:=q
  split at q2
  ·next c e=>exact .inr (.inr ⟨_,_,c,rfl,rfl,q1,e,f _ H _ C q2 (.str _) h Fw.refl⟩)
  ·exact q2.elim
 ·exact q.elim
theorem yQ:IxR X (rIx X.K):=ix_seq
@[irreducible] def QF:GC:=fun ts C Q=>match ts with
 | [.tup xs]=>Q (.int xs.length) C
 | [.kt xs]=>Q (.int xs.length) C
 | [.fz xs]=>Q (.int xs.length) C
 | [.ref a]=>match C a with
  | some (.lst xs)=>Q (.int xs.length) C
  | some (.dK kvs)=>Q (.int kvs.length) C
  | _=>False
 | [.str z]=>z.length≤sizeLine∧Q (.int z.length) C
 | _=>False
abbrev rLenC (K:PySem.W.Frag):List V→Hp→VK→Prop:=fun xs H Q=>(∃ p ys,xs=[.ref p]∧(SqL K H p ys∨SqT K H p ys)∧Q (.int ys.length) H)∨((∃ a kvs,xs=[V.ref a]∧H a=some (.dK kvs)∧Q (.int kvs.length) H)∨∃ z,xs=[.str z]∧z.length≤sizeLine∧Q (.int z.length) H)
theorem zZ:CallR X (.builtin "len") (rLenC X.K):=CallR.or QE (CallR.or K2 QD)
theorem lZ {K:PySem.W.Frag}{H:Hp}{xs:List V}{t:PV}(r:Reps K H xs [t]):∃ v,xs=[v]∧Rep K H v t:=by
 cases r with
 | cons h r=>cases r; exact ⟨_,rfl,h⟩
theorem fF {K:PySem.W.Frag}{H:Hp}{xs:List V}{t u:PV}(r:Reps K H xs [t,u]):∃ v w,xs=[v,w]∧Rep K H v t∧Rep K H w u:=by
 cases r with
 | cons h r=>obtain ⟨w,rfl,h'⟩:=lZ r; exact ⟨_,w,rfl,h,h'⟩
theorem tZ {K:PySem.W.Frag}:Cbi K (rLenC K) QF:=fun xs ps H C Q R rs h q f=>by
 unfold QF at q
 split at q
 ·obtain ⟨v,rfl,r⟩:=lZ rs
  cases r with
  | tup e r=>exact .inl ⟨_,_,rfl,.inr (SqT.of e),f _ H _ C (by rw [r.len]; exact q) (.int _) h Fw.refl⟩
 ·obtain ⟨v,rfl,r⟩:=lZ rs
  cases r with
  | kt e r=>exact .inl ⟨_,_,rfl,.inr e,f _ H _ C (by rw [r.len]; exact q) (.int _) h Fw.refl⟩
 ·obtain ⟨v,rfl,r⟩:=lZ rs
  cases r with
  | fz e r=>exact .inl ⟨_,_,rfl,.inl e.sq,f _ H _ C (by rw [r.len]; exact q) (.int _) h Fw.refl⟩
 ·obtain ⟨v,rfl,r⟩:=lZ rs
  split at q
  ·next xs e =>
   obtain ⟨vs,ev,rv⟩:=h _ _ e;cases r;exact .inl ⟨_,_,rfl,.inl (SqL.of ev),f _ H _ C (by rw [rv.len]; exact q) (.int _) h Fw.refl⟩
  ·next kvs e =>
   obtain ⟨vs,ev,rv⟩:=h _ _ e;cases r;exact .inr (.inl ⟨_,_,rfl,ev,f _ H _ C (by rw [Paired.length rv]; exact q) (.int _) h Fw.refl⟩)
  ·exact q.elim
 ·obtain ⟨v,rfl,r⟩:=lZ rs
  cases r;exact .inr (.inr ⟨_,rfl,q.1,f _ H _ C q.2 (.int _) h Fw.refl⟩)
 ·exact q.elim
def tyP (C:CH):PV→Option Ty
 | .non=>some .non
 | .bl _=>some .bl
 | .int _=>some .int
 | .str _=>some .str
 | .tup _=>some .tup
 | .ref a=>match C a with
  | some (.lst _)=>some .lst
  | some (.dK _)=>some .dct
  | _=>none
 | _=>none
theorem tyP_rep {K:PySem.W.Frag}{H:Hp}{C:CH}{x:V}{t:PV}{n:Ty}(r:Rep K H x t) (h:HRel K H C) (e:tyP C t=some n):tyN H x=some n:=by
 cases r with
 | tup e' _=>cases e; show (H _).bind tyH=_; rw [e']; rfl
 | ref a =>
  unfold tyP at e;dsimp only at e
  split at e
  ·next xs c=>cases e; obtain ⟨vs,ev,_⟩:=h _ _ c; show (H _).bind tyH=_; rw [ev]; rfl
  ·next xs c=>cases e; obtain ⟨vs,ev,_⟩:=h _ _ c; show (H _).bind tyH=_; rw [ev]; rfl
  ·cases e
 | kt _ _=>cases e
 | fz _ _=>cases e
 | ty _=>cases e
 | vw _=>cases e
 | _=>cases e; rfl
def yL (n:String):Option Ty:=[Ty.non,.bl,.int,.str,.lst,.tup,.dct].find? fun t=>pM t==n
theorem QW {n:String}{t:Ty}(h:yL n=some t):n=pM t:=by
 have:=List.find?_some h;exact (eq_of_beq this).symm
@[irreducible] def cIsi:GC:=fun ts C Q=>match ts with
 | [x,.ty n]=>match yL n,tyP C x with
  | some T,some k=>Q (.bl (yG k T)) C
  | _,_=>False
 | _=>False
theorem cP {K:PySem.W.Frag}:Cbi K (fun xs H Q=>∃ x T n,xs=[x,.ty (pM T)]∧tyN H x=some n∧Q (.bl (yG n T)) H) cIsi:=fun xs ps H C Q R rs h q f=>by
 unfold cIsi at q
 split at q
 ·split at q
  ·next T k e1 e2 =>
   obtain ⟨v,w,rfl,r1,r2⟩:=fF rs;cases r2;rw [QW e1];exact ⟨v,T,k,rfl,tyP_rep r1 h e2,f _ H _ C q (.bl _) h Fw.refl⟩
  ·exact q.elim
 ·exact q.elim
def cAbs:GC:=fun ts C Q=>match ts with
 | [.int i]=>Q (.int (if i < 0 then -i else i)) C
 | _=>False
theorem cbi_abs {K:PySem.W.Frag}:Cbi K (fun xs H Q=>∃ i,xs=[.int i]∧Q (.int (if i < 0 then -i else i)) H) cAbs:=fun xs ps H C Q R rs h q f=>by
 unfold cAbs at q
 split at q
 ·obtain ⟨v,rfl,r⟩:=lZ rs
  cases r;exact ⟨_,rfl,f _ H _ C q (.int _) h Fw.refl⟩
 ·exact q.elim
@[irreducible] def sO:GC:=fun ts C Q=>match ts with
 | [.tup xs]=>Q (.tup xs) C
 | [.ref a]=>match C a with
  | some (.lst xs)=>Q (.tup xs) C
  | _=>False
 | _=>False
theorem dZ {K:PySem.W.Frag}:Cbi K (fun xs H Q=>∃ p ys,xs=[.ref p]∧((SqL K H p ys∧∀ l,H l=none→Q (.ref l) (upd H l (.tup ys)))∨(SqT K H p ys∧Q (.ref p) H))) sO:=fun xs ps H C Q R rs h q f=>by
 unfold sO at q
 split at q
 ·obtain ⟨v,rfl,r⟩:=lZ rs
  cases r with
  | tup e r=>exact ⟨_,_,rfl,.inr ⟨SqT.of e,f _ H _ C q (.tup e r) h Fw.refl⟩⟩
 ·obtain ⟨v,rfl,r⟩:=lZ rs
  split at q
  ·next xs e =>
   obtain ⟨vs,ev,rv⟩:=h _ _ e;cases r;exact ⟨_,_,rfl,.inl ⟨SqL.of ev,fun l hl=>f _ _ _ C q (.tup eQ (rv.imm (Imm.new hl _))) (h.new hl _) (Fw.new hl _)⟩⟩
  ·exact q.elim
 ·exact q.elim
def zN:GC:=fun ts C Q=>match ts with
 | [.tup xs]=>∀ p,C p=none→Q (.ref p) (nQ C p (.lst xs))
 | [.ref a]=>match C a with
  | some (.lst xs)=>∀ p,C p=none→Q (.ref p) (nQ C p (.lst xs))
  | _=>False
 | _=>False
theorem cbi_lst {K:PySem.W.Frag}:Cbi K (fun xs H Q=>∃ p ys,xs=[.ref p]∧(SqL K H p ys∨SqT K H p ys)∧∀ l,H l=none→Q (.ref l) (upd H l (.lst ys))) zN:=fun xs ps H C Q R rs h q f=>by
 unfold zN at q
 split at q
 ·obtain ⟨v,rfl,r⟩:=lZ rs
  cases r with
  | tup e r=>exact ⟨_,_,rfl,.inr (SqT.of e),fun l hl=>f _ _ _ _ (q l (h.fresh hl)) (.ref l) (h.lay hl ⟨_,eQ,r.imm (Imm.new hl _)⟩) (Fw.lay hl _ _)⟩
 ·obtain ⟨v,rfl,r⟩:=lZ rs
  split at q
  ·next xs e =>
   obtain ⟨vs,ev,rv⟩:=h _ _ e;cases r;exact ⟨_,_,rfl,.inl (SqL.of ev),fun l hl=>f _ _ _ _ (q l (h.fresh hl)) (.ref l) (h.lay hl ⟨_,eQ,rv.imm (Imm.new hl _)⟩) (Fw.lay hl _ _)⟩
  ·exact q.elim
 ·exact q.elim
def dC:List PV→Option (List Bool)
 | []=>some []
 | .bl b::r=>(dC r).map (b :: ·)
 | _=>none
@[irreducible] def cAll:GC:=fun ts C Q=>match ts with
 | [.ref a]=>match C a with
  | some (.lst xs)=>match dC xs with
   | some bs=>Q (.bl (bs.all id)) C
   | none=>False
  | _=>False
 | _=>False
theorem K5 {K:PySem.W.Frag}{H:Hp}{vs:List V}{ts:List PV}{bs:List Bool}(r:Reps K H vs ts) (e:dC ts=some bs):vs=bs.map V.bl:=by
 induction ts generalizing vs bs with
 | nil=>cases r; cases e; rfl
 | cons t ts ih =>
  cases r with
  | @cons v _ vs _ h r =>
   cases t with
   | bl b =>
    unfold dC at e
    cases z:dC ts with
    | none=>rw [z] at e; cases e
    | some cs =>
     rw [z] at e;injection e with e
     subst e;cases h;rw [ih r z]; rfl
   | _=>cases e
theorem cbi_all {K:PySem.W.Frag}:Cbi K (fun xs H Q=>∃ p ys,xs=[.ref p]∧SqL K H p (List.map V.bl ys)∧Q (.bl (ys.all id)) H) cAll:=fun xs ps H C Q R rs h q f=>by
 unfold cAll at q
 split at q
 ·obtain ⟨v,rfl,r⟩:=lZ rs
  split at q
  ·next xs e =>
   split at q
   ·next bs eb =>
    obtain ⟨vs,ev,rv⟩:=h _ _ e;cases r;have:=K5 rv eb;subst this;exact ⟨_,bs,rfl,SqL.of ev,f _ H _ C q (.bl _) h Fw.refl⟩
   ·exact q.elim
  ·exact q.elim
 ·exact q.elim
def isL (x:PV) (C:CH):Prop:=match x with
 | .ref a=>match C a with
  | some (.lst _)=>True
  | _=>False
 | _=>False
def cBM (cr:PV→List PV→CH→K1→Prop) (co:TCE) (ca:TCA):TCE:=fun ρ C Q=>co ρ C fun x C1=>isL x C1∧ca ρ C1 fun xs C2=>cr x xs C2 Q
def Cmt (K:PySem.W.Frag) (r:V→List V→Hp→VK→Prop) (cr:PV→List PV→CH→K1→Prop):Prop:=∀ x px xs ps H C Q R,Rep K H x px→Reps K H xs ps→HRel K H C→cr px ps C R→(∀ v H' t C',R t C'→Rep K H' v t→HRel K H' C'→Fw H C H' C'→Q v H')→r x xs H Q
theorem WR {K:PySem.W.Frag}{H:Hp}{C:CH}{x:V}{t:PV}(l:isL t C) (r:Rep K H x t) (h:HRel K H C):tyV K "list" x H:=by
 unfold isL at l
 split at l
 ·split at l
  ·next e=>obtain ⟨vs,ev,_⟩:=h _ _ e; cases r; exact .inl ⟨rfl,vs,SqL.of ev⟩
  ·exact l.elim
 ·exact l.elim
theorem wF {name:Str}{id:String}{apos cpos:Pos}{r:V→List V→Hp→VK→Prop}{cr:PV→List PV→CH→K1→Prop}{co:TCE}{ca:TCA}(pa:PlainAttrs "list") (slot:Slot "list" name id) (hty:typeOf (.builtin id)=pure (.type "method_descriptor")) (hm:MtR X id r) (hr:Cmt X.K r cr) (ho:CE X o co) (ha:CA X (e::es) ca)
  (hbase:attributeBase o name X.env (eval o X.env)=eval o X.env:=by rfl)
  (hfew:((backTo cpos (starEach (e::es) X.env)).all (fun x => !x.1)&&(backToKw cpos (keywordEach [] X.env)).all (fun x=>x.1.isSome)
   && decide ((e::es).length+([]:List Keyword).length+(if ([]:List Keyword).isEmpty then 0 else 1) < 30))=true:=by rfl)
  (hline:(apos.endLine==cpos.line)=true:=by rfl) (hs:tX e=true:=by rfl) (hall:es.all tX=true:=by rfl) :
  CE X (.Call (.Attribute o name apos) (e::es) [] cpos) (cBM cr co ca):=⟨JE.weak (je_bm pa slot hty hm ho.h ha.h hbase hfew hline hs hall) fun σ H Q ⟨ρ,C,R,s,h,q,f⟩ =>
 ⟨ρ,C,_,s,h,q,fun x H1 px C1 q1 rx h1 f1=>⟨WR q1.1 rx h1,ρ,C1,_,s.imm (f1.imm h),h1,q1.2,fun xs H2 ps C2 q2 rs h2 f2 =>
  hr x px xs ps H2 C2 Q R (rx.imm (f2.imm h1)) rs h2 q2 fun v H' t C' q' r' h' f'=>f v H' t C' q' r' h' (f1.trans (f2.trans f'))⟩⟩⟩
@[irreducible] def qD:PV→List PV→CH→K1→Prop:=fun x ts C Q=>match x,ts with
 | .ref a,[y]=>match C a with
  | some (.lst xs)=>xs.length < sizeLine∧Q .non (nQ C a (.lst (xs++[y])))
  | _=>False
 | _,_=>False
theorem tJ {K:PySem.W.Frag}:Cmt K Jc qD:=fun x px xs ps H C Q R rx rs h q f=>by
 unfold qD at q
 split at q
 ·split at q
  ·next ys e =>
   obtain ⟨vs,ev,rv⟩:=h _ _ e;obtain ⟨v,rfl,r⟩:=lZ rs;cases rx;exact ⟨_,vs,v,rfl,rfl,ev,by rw [rv.len]; exact q.1,f _ _ _ _ q.2 .non (h.put ev rfl ⟨_,eQ,(rv.append (.cons r .nil)).imm (Imm.mut ev rfl _)⟩) (Fw.put e _ _)⟩
  ·exact q.elim
 ·exact q.elim
end
def oV:PV→Option Key
 | .non=>some (.inl none)
 | .int i=>some (.inl (some i))
 | .str x=>some (.inr x)
 | _=>none
def bY:Key→PV
 | .inl none=>.non
 | .inl (some i)=>.int i
 | .inr x=>.str x
theorem keyOf_keyPV (k:Key):oV (bY k)=some k:=by rcases k with (_ | i) | x<;>rfl
theorem lA {K:PySem.W.Frag}{H:Hp}(k:Key):Rep K H (kV k) (bY k):=by
 rcases k with (_ | i) | x
 ·exact .non
 ·exact .int i
 ·exact .str x
theorem tU {K:PySem.W.Frag}{H:Hp}{v:V}{t:PV}{k:Key}(r:Rep K H v t) (e:oV t=some k):v=kV k:=by
 cases r<;>cases e<;>rfl
def dJ (kvs:List (Key×PV)) (k:Key):Option PV:=(kvs.find? fun kv=>decide (kv.1=k)).map (·.2)
def gJ (kvs:List (Key×PV)) (k:Key) (v:PV):List (Key×PV):=if (kvs.any fun kv=>decide (kv.1=k))=true then kvs.map fun kv=>if kv.1=k then (kv.1,v) else kv else kvs++[(k,v)]
def kG (kvs more:List (Key×PV)):List (Key×PV):=more.foldl (fun acc kv=>gJ acc kv.1 kv.2) kvs
section
variable {K:PySem.W.Frag}{H:Hp}{vs:List (Key×V)}{kvs:List (Key×PV)}
theorem KP.val (r:KP K H vs kvs) (k:Key):(∃ v t,cU vs k=some v∧dJ kvs k=some t∧Rep K H v t)∨(cU vs k=none∧dJ kvs k=none):=by
 induction r with
 | nil=>exact .inr ⟨rfl,rfl⟩
 | @cons p q l1 l2 h r ih =>
  unfold cU dJ;rw [List.find?_cons,List.find?_cons,h.1]
  by_cases e:q.1=k
  ·rw [decide_eq_true e]
   exact .inl ⟨p.2,q.2,rfl,rfl,h.2⟩
  ·rw [decide_eq_false e]
   exact ih
theorem KP.any (r:KP K H vs kvs) (k:Key):(vs.any fun kv=>decide (kv.1=k))=(kvs.any fun kv=>decide (kv.1=k)):=by
 induction r with
 | nil=>rfl
 | @cons p q l1 l2 h r ih=>rw [List.any_cons,List.any_cons,h.1,ih]
theorem KP.put (r:KP K H vs kvs) (k:Key) {v:V}{t:PV}(h:Rep K H v t):KP K H (mW vs k v) (gJ kvs k t):=by
 unfold mW gJ;rw [r.any k]
 have upd:KP K H (vs.map fun kv=>if kv.1=k then (kv.1,v) else kv) (kvs.map fun kv=>if kv.1=k then (kv.1,t) else kv):=by
  induction r with
  | nil=>exact .nil
  | @cons p q l1 l2 h' r ih =>
   refine .cons ?_ ih;dsimp only
   by_cases e:q.1=k
   ·rw [if_pos (h'.1.trans e),if_pos e]; exact ⟨h'.1,h⟩
   ·rw [if_neg (fun z=>e (h'.1.symm.trans z)),if_neg e]; exact h'
 split
 ·exact upd
 ·exact Paired.snoc r ⟨rfl,h⟩
theorem KP.merge {ws:List (Key×V)}{more:List (Key×PV)}(r:KP K H vs kvs) (m:KP K H ws more):KP K H (vG vs ws) (kG kvs more):=by
 induction m generalizing vs kvs with
 | nil=>exact r
 | @cons p q l1 l2 h _ ih =>
  have e:p.1=q.1:=h.1;show KP K H (vG (mW vs p.1 p.2) l1) (kG (gJ kvs q.1 q.2) l2);rw [e];exact ih (r.put q.1 h.2)
end
def dOf:Option CO→Option (List (Key×PV))
 | some (.dK kvs)=>some kvs
 | some (.fK kvs)=>some kvs
 | _=>none
theorem dOf_rd {K:PySem.W.Frag}{H:Hp}{C:CH}{a:Addr}{kvs:List (Key×PV)}(h:HRel K H C) (e:dOf (C a)=some kvs):∃ vs,Rd H a (.dK vs)∧KP K H vs kvs:=by
 cases c:C a with
 | none=>rw [c] at e; cases e
 | some o =>
  rw [c] at e
  cases o with
  | lst xs=>cases e
  | dT l=>cases e
  | fT l=>cases e
  | dP l=>cases e
  | ins c dx fs=>cases e
  | dK l=>cases e; obtain ⟨vs,q,r⟩:=h a _ c; exact ⟨vs,.inl q,r⟩
  | fK l=>cases e; obtain ⟨o,vs,q,r⟩:=h a _ c; exact ⟨vs,.inr ⟨o,q⟩,r⟩
section
variable {X:Cx}{a b c e o i f:Expr}{es:List Expr}{pos:Pos}{value:Expr}
@[irreducible] def sE:R2C:=fun x y C Q=>match x with
 | .ref a=>match dOf (C a),oV y with
  | some kvs,some k=>match dJ kvs k with
   | some v=>Q v C
   | none=>False
  | _,_=>False
 | _=>False
theorem Jx {K:PySem.W.Frag}{H:Hp}{C:CH}{a:Addr}{y:V}{py:PV}{kvs:List (Key×PV)}{k:Key}(h:HRel K H C) (e1:dOf (C a)=some kvs) (ry:Rep K H y py) (e2:oV py=some k) :
  (∃ v t,DGet H a y (some v)∧dJ kvs k=some t∧Rep K H v t)∨(DGet H a y none∧dJ kvs k=none):=by
 obtain ⟨vs,q,r⟩:=dOf_rd h e1;have ey:=tU ry e2;subst ey
 rcases r.val k with ⟨v,t,h1,h2,h3⟩ | ⟨h1,h2⟩
 ·exact .inl ⟨v,t,.inl ⟨vs,k,q,rfl,h1.symm⟩,h2,h3⟩
 ·exact .inr ⟨.inl ⟨vs,k,q,rfl,h1.symm⟩,h2⟩
theorem nZ {co ci:TCE}(hu:X.A.units+1 < cLine) (ho:CE X o co) (hi:CE X i ci) (hs:Za i):CE X (.Subscript o i pos) (cOp sE co ci):=⟨JE.weak (Qs hu ho.h hi.h hs) fun σ H Q ⟨ρ,C,R,s,h,q,f⟩ =>
 ⟨ρ,C,_,s,h,q,fun x H1 px C1 q1 rx h1 f1=>⟨ρ,C1,_,s.imm (f1.imm h),h1,q1,fun y H2 py C2 q2 ry h2 f2=>by
  unfold sE at q2
  split at q2
  ·next a =>
   split at q2
   ·next kvs k e1 e2 =>
    split at q2
    ·next t e3 =>
     have rx2:=rx.imm (f2.imm h1);cases rx2
     rcases Jx h2 e1 ry e2 with ⟨v,t',g,e4,r⟩ | ⟨_,e4⟩
     ·rw [e3] at e4
      cases e4;exact ⟨a,v,rfl,g,f v H2 t C2 q2 r h2 (f1.trans f2)⟩
     ·rw [e3] at e4; cases e4
    ·exact q2.elim
   ·exact q2.elim
  ·exact q2.elim⟩⟩⟩
def WS (x:PV) (C:CH):Prop:=match x with
 | .ref a=>match C a with
  | some (.dK _)=>True
  | _=>False
 | _=>False
@[irreducible] def JX:PV→PV→PV→CH→K1→Prop:=fun x y z C Q=>match x with
 | .ref a=>match dOf (C a),oV y with
  | some kvs,some k=>Q ((dJ kvs k).getD z) C
  | _,_=>False
 | _=>False
def cDGet2 (co ck cz:TCE):TCE:=fun ρ C Q=>co ρ C fun x C1=>WS x C1∧ck ρ C1 fun y C2=>cz ρ C2 fun z C3=>JX x y z C3 Q
theorem isDk_of {K:PySem.W.Frag}{H:Hp}{C:CH}{x:V}{t:PV}(d:WS t C) (r:Rep K H x t) (h:HRel K H C):∃ a kvs,x=.ref a∧t=.ref a∧H a=some (.dK kvs):=by
 unfold WS at d
 split at d
 ·split at d
  ·next e=>obtain ⟨vs,ev,_⟩:=h _ _ e; cases r; exact ⟨_,vs,rfl,rfl,ev⟩
  ·exact d.elim
 ·exact d.elim
theorem Yj {co ck cz:TCE}{apos cpos:Pos}(hu:X.A.units+1 < cLine) (ho:CE X o co) (he:CE X e ck) (hf:CE X f cz) (hb:attributeBase o "get" X.env (eval o X.env)=eval o X.env:=by rfl) (hl:(apos.endLine==cpos.line)=true:=by rfl)
  (h1:tX e=true:=by rfl) (h2:tX f=true:=by rfl):CE X (.Call (.Attribute o "get" apos) [e,f] [] cpos) (cDGet2 co ck cz):=⟨JE.weak (XD hu ho.h he.h hf.h hb hl h1 h2) fun σ H Q ⟨ρ,C,R,s,h,q,f⟩ =>
 ⟨ρ,C,_,s,h,q,fun x H1 px C1 q1 rx h1 f1=>by
  obtain ⟨a,kvs,rfl,rfl,e1⟩:=isDk_of q1.1 rx h1;refine ⟨a,rfl,.inl ⟨kvs,.inl e1⟩,ρ,C1,_,s.imm (f1.imm h),h1,q1.2,fun y H2 py C2 q2 ry h2 f2=>⟨ρ,C2,_,(s.imm (f1.imm h)).imm (f2.imm h1),h2,q2,fun z H3 pz C3 q3 rz h3 f3 => ?_⟩⟩;unfold JX at q3;dsimp only at q3
  split at q3
  ·next kvs' k d1 d2 =>
   rcases Jx h3 d1 (ry.imm (f3.imm h2)) d2 with ⟨v,t',g,e4,r⟩ | ⟨g,e4⟩
   ·rw [e4] at q3
    exact ⟨some v,g,f v H3 t' C3 q3 r h3 (f1.trans (f2.trans f3))⟩
   ·rw [e4] at q3
    exact ⟨none,g,f z H3 pz C3 q3 rz h3 (f1.trans (f2.trans f3))⟩
  ·exact q3.elim⟩⟩
@[irreducible] def oO:PV→PV→PV→CH→(CH→Prop)→Prop:=fun x y v C Q=>match x with
 | .ref a=>match C a,oV y with
  | some (.dK kvs),some k=>kvs.length < sizeLine∧Q (nQ C a (.dK (gJ kvs k v)))
  | _,_=>False
 | _=>False
def cDPut (co ck cv:TCE):TCS:=fun E ρ C=>cv ρ C fun v C1=>co ρ C1 fun x C2=>ck ρ C2 fun y C3=>oO x y v C3 fun C4=>E.nx ρ C4
theorem iK {pos':Pos}{co ck cv:TCE}(hu:X.A.units+1 < cLine) (ho:CE X o co) (hi:CE X i ck) (hv:CE X value cv) (hs:swapsWith value (some (.Subscript o i pos')) pos.line X.env=pure false:=by rfl) :
  CS X (.Assign [.Subscript o i pos'] value pos) (cDPut co ck cv):=⟨JS.weak (Jm hu ho.h hi.h hv.h hs) fun D σ H ⟨ρ,C,E,s,h,q,f⟩ =>
 ⟨ρ,C,_,s,h,q,fun v H1 pv C1 q1 rv h1 f1=>⟨ρ,C1,_,s.imm (f1.imm h),h1,q1,fun x H2 px C2 q2 rx h2 f2=>⟨ρ,C2,_,(s.imm (f1.imm h)).imm (f2.imm h1),h2,q2,fun y H3 py C3 q3 ry h3 f3=>by
  have s3:=((s.imm (f1.imm h)).imm (f2.imm h1)).imm (f3.imm h2);have rv3:=rv.imm ((f2.trans f3).imm h1);unfold oO at q3
  split at q3
  ·next a =>
   split at q3
   ·next kvs k e1 e2 =>
    have rx3:=rx.imm (f3.imm h2);cases rx3;obtain ⟨vs,ev,r⟩:=h3 a _ e1;have ey:=tU ry e2;subst ey;have hl:vs.length=kvs.length:=Paired.length r;have m:Imm H3 (upd H3 a (.dK (mW vs k v))):=Imm.mut ev rfl _;refine ⟨a,_,rfl,DPut.k ev (by rw [hl]; exact q3.1),f.nx σ _ ρ _ q3.2 (s3.imm m) (h3.put ev rfl ⟨_,eQ,Paired.mapP (r.put k rv3) fun _ _ z=>⟨z.1,z.2.imm m⟩⟩) (f1.trans (f2.trans (f3.trans (Fw.put e1 _ _))))⟩
   ·exact q3.elim
  ·exact q3.elim⟩⟩⟩⟩
def oG:List PV→Option (List (Key×PV))
 | []=>some []
 | .tup [k,v]::r=>match oV k,oG r with
  | some k,some ps=>some ((k,v)::ps)
  | _,_=>none
 | _=>none
theorem Xf {K:PySem.W.Frag}{H:Hp}{vs:List V}{ts:List PV}{ps:List (Key×PV)}(r:Reps K H vs ts) (e:oG ts=some ps):∃ pa ws,vs=List.map V.ref pa∧kM H pa ws∧KP K H ws ps:=by
 induction ts generalizing vs ps with
 | nil=>cases r; cases e; exact ⟨[],[],rfl,.nil,.nil⟩
 | cons t ts ih =>
  cases r with
  | @cons v _ vs _ h r =>
   cases h with
   | @tup a ws xs e1 r1 =>
    rcases xs with _ | ⟨k,_ | ⟨u,_ | ⟨z,xs⟩⟩⟩
    ·cases e
    ·cases e
    ·unfold oG at e
     split at e
     ·next k' ps' k1 k2 =>
      cases e;obtain ⟨pa,ws',rfl,p1,p2⟩:=ih r k2;obtain ⟨v1,v2,rfl,r2,r3⟩:=fF r1;have ek:=tU r2 k1;subst ek;exact ⟨a::pa,(k',v2)::ws',rfl,.cons e1 p1,.cons ⟨rfl,r3⟩ p2⟩
     ·cases e
    ·cases e
   | _=>cases e
@[irreducible] def eR:GC:=fun ts C Q=>match ts with
 | [.tup xs]=>match oG xs with
  | some ps=>ps.length≤sizeLine∧∀ p,C p=none→Q (.ref p) (nQ C p (.dK (kG [] ps)))
  | none=>False
 | _=>False
theorem Yp {K:PySem.W.Frag}:Cbi K (fun xs H Q=>∃ t pa ps,xs=[.ref t]∧H t=some (.tup (List.map V.ref pa))∧kM H pa ps∧ps.length≤sizeLine∧∀ d,H d=none→Q (.ref d) (upd H d (.dK (vG [] ps)))) eR:=fun xs ts H C Q R rs h q f=>by
 unfold eR at q
 split at q
 ·split at q
  ·next ps e =>
   obtain ⟨v,rfl,r⟩:=lZ rs
   cases r with
   | @tup a vs xs e1 r1 =>
    obtain ⟨pa,ws,rfl,p1,p2⟩:=Xf r1 e;refine ⟨a,pa,ws,rfl,e1,p1,by rw [Paired.length p2]; exact q.1,fun d hd => ?_⟩;exact f _ _ _ _ (q.2 d (h.fresh hd)) (.ref d) (h.lay hd ⟨_,eQ,Paired.mapP (KP.merge .nil p2) fun _ _ z=>⟨z.1,z.2.imm (Imm.new hd _)⟩⟩) (Fw.lay hd _ _)
  ·exact q.elim
 ·exact q.elim
@[irreducible] def cUpdP:PV→List PV→CH→K1→Prop:=fun x ts C Q=>match x,ts with
 | .ref a,[.tup xs]=>match C a,oG xs with
  | some (.dK kvs),some ps=>kvs.length+ps.length≤sizeLine∧Q .non (nQ C a (.dK (kG kvs ps)))
  | _,_=>False
 | _,_=>False
@[irreducible] def cItems (co:TCE):TCE:=fun ρ C Q=>co ρ C fun x C1=>match x with
 | .ref a=>match C1 a with
  | some (.dK _)=>Q (.vw a) C1
  | _=>False
 | _=>False
end
end CL
namespace CL
open PySem PySem.Spec L2 PySem.W
open PyProof.Rows hiding St
def kX (c:Str×Int):PV:=.tup [.str c.1,.int c.2]
def Zl:List PV→Option (List (Str×Int))
 | []=>some []
 | .tup [.str x,.int i]::r=>(Zl r).map ((x,i) :: ·)
 | _=>none
def siK:List (Key×PV)→Option (List (Str×Int))
 | []=>some []
 | (.inr x,.int i)::r=>(siK r).map ((x,i) :: ·)
 | _=>none
def Zm (cs:List (Str×Int)):Nat→Nat→Bool:=fun i j=>Wr (cs.getD i ("",0)) (cs.getD j ("",0))
def lL (cs:List (Str×Int)):List (Str×Int):=(aM (Zm cs) (kas_sort cs.length)).toList.map fun i=>cs.getD i ("",0)
theorem Q3:∀ cs:List (Str×Int),Zl (cs.map kX)=some cs
 | []=>rfl
 | c::cs=>by
  show (Zl (cs.map kX)).map _=_;rw [Q3 cs]; rfl
theorem siOf_eq {ts:List PV}{cs:List (Str×Int)}(e:Zl ts=some cs):ts=cs.map kX:=by
 induction ts generalizing cs with
 | nil=>cases e; rfl
 | cons t ts ih =>
  unfold Zl at e
  split at e
  ·rename_i h; cases h
  ·rename_i x i r h
   cases h
   cases z:Zl ts with
   | none=>rw [z] at e; cases e
   | some ds =>
    rw [z] at e;cases e;rw [ih z]; rfl
  ·cases e
theorem siK_eq {ts:List (Key×PV)}{cs:List (Str×Int)}(e:siK ts=some cs):ts=cs.map fun c=>(Sum.inr c.1,PV.int c.2):=by
 induction ts generalizing cs with
 | nil=>cases e; rfl
 | cons t ts ih =>
  unfold siK at e
  split at e
  ·rename_i h; cases h
  ·rename_i x i r h
   cases h
   cases z:siK ts with
   | none=>rw [z] at e; cases e
   | some ds =>
    rw [z] at e;cases e;rw [ih z]; rfl
  ·cases e
section
variable {K:PySem.W.Frag}{H:Hp}{X:Cx}
theorem si_at {ys:List V}{cs:List (Str×Int)}(r:Reps K H ys (cs.map kX)):∀ i,i < ys.length→YA H (ys.getD i .non) (cs.getD i ("",0)):=by
 induction cs generalizing ys with
 | nil=>cases r; intro i hi; exact absurd hi (Nat.not_lt_zero i)
 | cons c cs ih =>
  cases r with
  | @cons v _ vs _ h r =>
   intro i hi
   cases i with
   | zero =>
    cases h with
    | tup e r1 =>
     obtain ⟨v1,v2,rfl,r2,r3⟩:=fF r1;cases r2; cases r3
     exact ⟨_,rfl,e⟩
   | succ i=>exact ih r i (Nat.lt_of_succ_lt_succ hi)
theorem Reps.getD {ys:List V}{ts:List PV}(r:Reps K H ys ts) {d:PV}:∀ i,i < ys.length→Rep K H (ys.getD i .non) (ts.getD i d):=by
 induction ts generalizing ys with
 | nil=>cases r; intro i hi; exact absurd hi (Nat.not_lt_zero i)
 | cons c cs ih =>
  cases r with
  | @cons v _ vs _ h r =>
   intro i hi
   cases i with
   | zero=>exact h
   | succ i=>exact ih r i (Nat.lt_of_succ_lt_succ hi)
theorem Jg {ys:List V}{cs:List (Str×Int)}(lt:Nat→Nat→Bool) (r:Reps K H ys (cs.map kX)):Reps K H (xD lt ys) (((aM lt (kas_sort cs.length)).toList.map fun i=>cs.getD i ("",0)).map kX):=by
 have hl:ys.length=cs.length:=by rw [r.len,List.length_map]
 unfold xD;rw [hl]
 have mem:∀ i∈(aM lt (kas_sort cs.length)).toList,i < ys.length:=by
  intro i hi
  by_cases h:0 < cs.length
  ·have:=(eU lt cs.length h).mem_iff.mp hi
   rw [hl]; exact List.mem_range.mp this
  ·have e:cs.length=0:=by omega
   rw [e] at hi;rw [run0] at hi;cases hi
 generalize (aM lt (kas_sort cs.length)).toList=l at mem ⊢
 induction l with
 | nil=>exact .nil
 | cons i l ih =>
  refine .cons ?_ (ih fun j hj=>mem j (List.mem_cons_of_mem _ hj));have h1:=r.getD (d:=kX ("",0)) i (mem i List.mem_cons_self)
  have h2:(cs.map kX).getD i (kX ("",0))=kX (cs.getD i ("",0)):=by
   rw [List.getD_eq_getElem?_getD,List.getElem?_map,List.getD_eq_getElem?_getD];cases cs[i]?<;>rfl
  rw [h2] at h1;exact h1
@[irreducible] def sR:GC:=fun ts C Q=>match ts with
 | [.ref a]=>match C a with
  | some (.lst xs)=>match Zl xs with
   | some cs=>cs.length < 64∧∀ p,C p=none→Q (.ref p) (nQ C p (.lst ((lL cs).map kX)))
   | none=>False
  | _=>False
 | [.vw a]=>match C a with
  | some (.dK kvs)=>match siK kvs with
   | some cs=>cs.length < 64∧∀ p,C p=none→Q (.ref p) (nQ C p (.lst ((lL cs).map kX)))
   | none=>False
  | _=>False
 | _=>False
abbrev Ja (X:Cx):List V→Hp→VK→Prop:=fun xs H Q=>(∃ l ys lt,xs=[.ref l]∧SqL X.K H l ys∧ys.length < 64∧Srt X H ys lt∧∀ p,H p=none→Q (.ref p) (upd H p (.lst (xD lt ys)))) ∨
 (∃ v d kvs lt,xs=[.ref v]∧H v=some (.ext (pR v d))∧H d=some (.dK kvs)∧kvs.length < 64 ∧
  ∀ as H1,Same H H1→kM H1 as kvs→(∀ a∈as,H a=none)→(∀ a,H a=none→H1 a≠none→a∈as)→Srt X H1 (List.map V.ref as) lt∧∀ p,H1 p=none→Q (.ref p) (upd H1 p (.lst (xD lt (List.map V.ref as)))))
theorem rP (hc:X.calm=true):CallR X (.builtin "sorted") (Ja X):=CallR.or pC (QB hc)
theorem rO:Cbi X.K (Ja X) sR:=fun xs ts H C Q R rs h q f=>by
 unfold sR at q
 split at q
 ·obtain ⟨v,rfl,r⟩:=lZ rs
  split at q
  ·next xs e =>
   split at q
   ·next cs e2 =>
    have ex:=siOf_eq e2;subst ex;obtain ⟨vs,ev,rv⟩:=h _ _ e;cases r;have hl:vs.length=cs.length:=by rw [rv.len,List.length_map]
    refine .inl ⟨_,vs,Zm cs,rfl,SqL.of ev,by rw [hl]; exact q.1,Vz _ (si_at rv),fun p hp => ?_⟩;exact f _ _ _ _ (q.2 p (h.fresh hp)) (.ref p) (h.lay hp ⟨_,eQ,(Jg (Zm cs) rv).imm (Imm.new hp _)⟩) (Fw.lay hp _ _)
   ·exact q.elim
  ·exact q.elim
 ·obtain ⟨v,rfl,r⟩:=lZ rs
  split at q
  ·next kvs e =>
   split at q
   ·next cs e2 =>
    have ex:=siK_eq e2;subst ex;obtain ⟨vs,ev,rv⟩:=h _ _ e
    cases r with
    | vw hv =>
     have hl:vs.length=cs.length:=by rw [Paired.length rv,List.length_map]
     refine .inr ⟨_,_,vs,Zm cs,rfl,hv,ev,by rw [hl]; exact q.1,fun as H1 sm pa fr on => ?_⟩
     have rr:Reps X.K H1 (List.map V.ref as) (cs.map kX):=by
      clear hl fr on q e ev e2
      induction cs generalizing vs as with
      | nil=>cases rv; cases pa; exact .nil
      | cons c cs ih =>
       cases rv with
       | @cons p q l1 l2 h' rv =>
        cases pa with
        | @cons a _ l _ e1 pa =>
         obtain ⟨k,v'⟩:=p;obtain ⟨e3,e4⟩:=h';cases e3;cases e4;exact .cons (.tup e1 (.cons (.str _) (.cons (.int _) .nil))) (ih (vs:=l1) rv l pa)
     refine ⟨Vz _ (si_at rr),fun p hp => ?_⟩;have h1:=vI h sm;exact f _ _ _ _ (q.2 p (h1.fresh hp)) (.ref p) (h1.lay hp ⟨_,eQ,(Jg (Zm cs) rr).imm (Imm.new hp _)⟩) ((Jr sm).trans (Fw.lay hp _ _))
   ·exact q.elim
  ·exact q.elim
 ·exact q.elim
end
section
variable {X:Cx}{pos:Pos}
@[irreducible] def QJ (ce:TCE) (t:TCT) (c:TCE):TCE:=fun ρ C Q=>ce ρ C fun x C1=>match x with
 | .ref d=>match C1 d with
  | some (.dK kvs)=>zJ t c ρ (fun v C2=>C2 d=some (.fK kvs)∧Q v (nQ C2 d (.dK kvs))) (kvs.map fun p=>bY p.1) [] (nQ C1 d (.fK kvs))
  | _=>False
 | _=>False
structure ItOn (K:PySem.W.Frag) (S:Hp→Prop) (J:It) (ps:List PV):Prop where
 go:∀ i H',i < ps.length→S H'→J.go i H'
 yl:∀ i H' x H'',S H'→J.yld i H' x H''→H''=H'∧∀ t,ps[i]?=some t→Rep K H' x t
 st:∀ H',S H'→J.stop ps.length H'
theorem JH {K:PySem.W.Frag}{H H0:Hp}{C C0:CH}{σ:St}{ρ:CSt}{J:It}{ps:List PV}{t:TCT}{c:TCE}{R:K1}{Q:VK}{S:Hp→Prop}(j:ItOn K S J ps) (hS:∀ H' C',HRel K H' C'→Fw H C H' C'→S H') (s:SRel K H σ ρ) (h:HRel K H C) (q:zJ t c ρ R ps [] C)
  (h0:HRel K H0 C0) (f0:Fw H0 C0 H C) (f:∀ v H' p C',R p C'→Rep K H' v p→HRel K H' C'→Fw H0 C0 H' C'→Q v H') {D:Addr} (hD:H D=none) :
  ∃ W:Nat→Nat→List V→Hp→Prop,(∃ m,W 0 m [] (upd H D (.lst [])))∧∀ i m ys H,W i m ys H →
   (J.stop i H∧Q (.ref D) H)∨(J.go i H∧∀ x H',J.yld i H x H'→jK K mL t (some x::σ) H' fun b H2 =>
    if b=true then jK K (Rep K) c (some x::σ) H2 fun y H3=>H3 D=some (.lst ys)∧ys.length < sizeLine∧∃ m',m' < m∧W (i+1) m' (ys++[y]) (upd H3 D (.lst (ys++[y])))
    else ∃ m',m' < m∧W (i+1) m' ys H2):=by
 have fD:∀ {H':Hp} {C':CH},Fw H C H' C'→True:=fun _=>trivial
 refine ⟨fun i m ys H'=>m=ps.length - i∧i≤ps.length∧∃ acc C',H' D=some (.lst ys)∧C' D=none∧Reps K H' ys acc∧HRel K H' C'∧Fw H C H' C'∧zJ t c ρ R (ps.drop i) acc C',
  ⟨ps.length,rfl,Nat.zero_le _,[],C,eQ,h.fresh hD,.nil,h.new hD _,Fw.new hD _,q⟩,?_⟩
 rintro i m ys H1 ⟨rfl,hi,acc,C1,e1,n1,r1,h1,f1,q1⟩;have k1:Imm H H1:=f1.imm h
 by_cases hlt:i < ps.length
 ·refine .inr ⟨j.go i H1 hlt (hS H1 C1 h1 f1),fun x H2 y => ?_⟩
  obtain ⟨rfl,y⟩:=j.yl i H1 x H2 (hS H1 C1 h1 f1) y;have rx:=y _ (List.getElem?_eq_getElem hlt);rw [List.drop_eq_getElem_cons hlt] at q1;refine ⟨some ps[i]::ρ,C1,_,.cons rx (s.imm k1),h1,q1,fun b H3 b' C3 q3 e h3 f3 => ?_⟩;cases e;obtain ⟨n3,e3⟩:=f3 D (by rw [n1]; rfl) (by rw [e1]; exact fun z=>nomatch z);rw [e1] at e3;rw [n1] at n3;have k3:=f3.imm h1
  cases b with
  | true =>
   rw [if_pos rfl] at q3 ⊢;refine ⟨some ps[i]::ρ,C3,_,.cons (rx.imm k3) ((s.imm k1).imm k3),h3,q3,fun v H4 p C4 q4 r4 h4 f4 => ?_⟩;obtain ⟨n4,e4⟩:=f4 D (by rw [n3]; rfl) (by rw [e3]; exact fun z=>nomatch z);rw [e3] at e4;rw [n3] at n4;have k4:=f4.imm h3;have m4:Imm H4 (upd H4 D (.lst (ys++[v]))):=Imm.mut e4 rfl _;refine ⟨e4,by rw [r1.len]; exact q4.1,ps.length - (i+1),by omega,rfl,hlt,acc++[p],C4,eQ,n4,?_,?_,?_,q4.2⟩
   ·exact (((r1.imm k3).imm k4).append (.cons r4 .nil)).imm m4
   ·intro a o ca
    have ne:a≠D:=fun z=>by subst z; rw [n4] at ca; cases ca
    exact (h4 a o ca).imm m4 (aQ ne)
   ·intro a ca na
    have ne:a≠D:=fun z=>na (z▸hD);obtain ⟨x1,x2⟩:=(f1.trans (f3.trans f4)) a ca na;exact ⟨x1,(aQ ne).trans x2⟩
  | false =>
   rw [if_neg Bool.false_ne_true] at q3 ⊢;exact ⟨ps.length - (i+1),by omega,rfl,hlt,acc,C3,e3,n3,r1.imm k3,h3,f1.trans f3,q3⟩
 ·have e:i=ps.length:=by omega
  subst e;rw [List.drop_length] at q1;refine .inl ⟨j.st H1 (hS H1 C1 h1 f1),f (.ref D) H1 (.ref D) _ (q1 D n1) (.ref D) ?_ ?_⟩
  ·intro a o ca
   by_cases z:a=D
   ·subst z; rw [xQ] at ca; cases ca; exact ⟨ys,e1,r1⟩
   ·rw [bQ z] at ca; exact h1 a o ca
  ·intro a ca na
   obtain ⟨x1,x2⟩:=f0 a ca na;have na':H a≠none:=by rw [x2]; exact na
   have ne:a≠D:=fun z=>na' (z▸hD);obtain ⟨y1,y2⟩:=f1 a (by rw [x1]; exact ca) na';exact ⟨(bQ ne).trans (y1.trans x1),y2.trans x2⟩
theorem it_dict {K:PySem.W.Frag}{o:Obj}{d:Addr}{vs:List (Key×V)}{kvs:List (Key×PV)}(e:vs.map (·.1)=kvs.map (·.1)):ItOn K (fun H'=>H' d=some (.frz o (.dK vs))) (Itd o d vs) (kvs.map fun p=>bY p.1) where
 go:=fun i H' l s=>⟨by
  have:(vs.map (·.1)).length=(kvs.map (·.1)).length:=by rw [e]
  rw [List.length_map,List.length_map] at this;rw [List.length_map] at l
  omega,s⟩
 yl:=fun i H' x H'' s y=>⟨y.1,fun t et=>by
  obtain ⟨p,hp,rfl⟩:=y.2;have h1:(vs.map (·.1))[i]?=some p.1:=by rw [List.getElem?_map,hp]; rfl
  rw [e,List.getElem?_map] at h1;rw [List.getElem?_map] at et
  cases z:kvs[i]? with
  | none=>rw [z] at et; cases et
  | some q =>
   rw [z] at et h1;cases et;have h1:q.1=p.1:=Option.some.inj h1;show Rep K H' (kV p.1) (bY q.1);rw [h1]
   exact lA p.1⟩
 st:=fun H' s=>⟨by
  have:(vs.map (·.1)).length=(kvs.map (·.1)).length:=by rw [e]
  rw [List.length_map,List.length_map] at this;rw [List.length_map]
  omega,s⟩
theorem KP.keys {K:PySem.W.Frag}{H:Hp}{vs:List (Key×V)}{kvs:List (Key×PV)}(r:KP K H vs kvs):vs.map (·.1)=kvs.map (·.1):=by
 induction r with
 | nil=>rfl
 | cons h _ ih=>rw [List.map_cons,List.map_cons,h.1,ih]
theorem Ym {elt iter:Expr}{x:Str}{px:Pos}{ifs:List Expr}{scope:Scope}{ce:TCE}{t:TCT}{c:TCE}
  (hc:X.calm=true) (hN:(x::X.N).Nodup) (K:∃ cl,yM X x scope cl) (hi:CE X iter ce)
  (ht:∀ cl fp C s₂ H₂,CF (pZ X x scope cl fp C s₂ H₂) ifs t) (he:∀ cl fp C s₂ H₂,CE (pZ X x scope cl fp C s₂ H₂) elt c)
  (hs:∀ v,foldedSetIterable iter X.env v=pure v:=by intro _; rfl):CE X (.ListComp elt [⟨.Name x px,iter,ifs,0⟩] scope pos) (QJ ce t c) :=
 ⟨JE.weak (je_thaw (zP (te:=jK X.K (Rep X.K) c) (tc:=jK X.K mL t) hc hN K (ji_dict hi.h) (fun cl fp C s₂ H₂=>(ht cl fp C s₂ H₂).h) (fun cl fp C s₂ H₂=>(he cl fp C s₂ H₂).h) hs)) fun σ H Q ⟨ρ,C,R,s,h,q,f⟩=>by
  unfold QJ at q
  exact ⟨ρ,C,_,s,h,q,fun xv H1 px C1 q1 rx h1 f1=>by
   split at q1
   ·next d =>
    split at q1
    ·next kvs e =>
     obtain ⟨vs,ev,r⟩:=h1 d _ e;cases rx;refine ⟨d,vs,rfl,ev,fun o nf D hD => ?_⟩;have m:Imm H1 (upd H1 d (.frz o (.dK vs))):=Imm.mut ev rfl _;have h2:HRel X.K (upd H1 d (.frz o (.dK vs))) (nQ C1 d (.fK kvs)):=h1.put ev rfl ⟨o,vs,eQ,Paired.mapP r fun _ _ z=>⟨z.1,z.2.imm m⟩⟩;have f2:Fw H1 C1 (upd H1 d (.frz o (.dK vs))) (nQ C1 d (.fK kvs)):=Fw.put e _ _
     have stays:∀ H' C',Fw (upd H1 d (.frz o (.dK vs))) (nQ C1 d (.fK kvs)) H' C'→H' d=some (.frz o (.dK vs)):=fun H' C' g=>by
      have:=(g d (by rw [xQ]; rfl) (by rw [eQ]; exact fun z=>nomatch z)).2;rw [this,eQ]
     refine JH (Q:=fun v H'=>∃ d o kvs,H' d=some (.frz o (.dK kvs))∧NF X d∧Q v (upd H' d (.dK kvs))) (H0:=upd H1 d (.frz o (.dK vs))) (C0:=nQ C1 d (.fK kvs)) (it_dict r.keys) (fun H' C' _ g=>stays H' C' g) ((s.imm (f1.imm h)).imm m) h2 q1 h2 Fw.refl (fun v H' p C' q' r' h' f' => ?_) hD;obtain ⟨e1,q2⟩:=q';have e2:=stays H' C' f';refine ⟨d,o,vs,e2,nf,?_⟩;have m':Imm H' (upd H' d (.dK vs)):=Imm.mut e2 rfl _
     obtain ⟨o',vs',e3,r3⟩:=h' d _ e1;rw [e2] at e3;cases e3;refine f v _ p _ q2 (r'.imm m') (h'.put e2 rfl ⟨vs,eQ,Paired.mapP r3 fun _ _ z=>⟨z.1,z.2.imm m'⟩⟩) ?_;intro a ca na;obtain ⟨x1,x2⟩:=(f1.trans (f2.trans f')) a ca na
     have ne:a≠d:=fun z=>by
      subst z;obtain ⟨y1,y2⟩:=f1 a ca na;rw [← y1,e] at ca;cases ca
     exact ⟨(bQ ne).trans x1,(aQ ne).trans x2⟩
    ·exact q1.elim
   ·exact q1.elim⟩⟩
end
section
variable {X:Cx}{a b c e o i f:Expr}{es:List Expr}{pos:Pos}{value:Expr}
abbrev relO:Hp→Option Int→Option Int→Prop:=fun _ a b=>a=b
abbrev TCO:=CSt→CH→(Option Int→CH→Prop)→Prop
structure CPt (X:Cx) (e:Option Expr) (c:TCO):Prop where
 h:JO X e (jK X.K relO c)
theorem JO.weak {e:Option Expr}{t t':TO}(h:JO X e t) (w:∀ σ H Q,t' σ H Q→t σ H Q):JO X e t':=⟨fun pins s σ H Q I q=>h.h pins s σ H Q I (w σ H Q q)⟩
def cNoPart:TCO:=fun _ C Q=>Q none C
def cPart (ce:TCE):TCO:=fun ρ C Q=>ce ρ C fun t C1=>match t with
 | .int i=>Q (some i) C1
 | _=>False
theorem bP:CPt X none cNoPart:=⟨JO.weak jo_none fun σ H Q ⟨ρ,C,R,s,h,q,f⟩=>f none H none C q rfl h Fw.refl⟩
theorem gP {ce:TCE}(h:CE X e ce):CPt X (some e) (cPart ce):=⟨JO.weak (jo_some h.h) fun σ H Q ⟨ρ,C,R,s,h,q,f⟩=>⟨ρ,C,_,s,h,q,fun x H1 px C1 q1 rx h1 f1=>by
 split at q1
 ·cases rx; exact ⟨_,rfl,f _ H1 _ C1 q1 rfl h1 f1⟩
 ·exact q1.elim⟩⟩
def oC (xs:List PV) (lo hi:Option Int):List PV:=(xs.drop (HT.sIx xs.length 0 lo)).take (HT.sIx xs.length xs.length hi - HT.sIx xs.length 0 lo)
theorem Reps.cut {K:PySem.W.Frag}{H:Hp}{vs:List V}{ts:List PV}(r:Reps K H vs ts) (lo hi:Option Int):Reps K H (XW vs lo hi) (oC ts lo hi):=by
 unfold XW oC;rw [r.len];exact (r.drop _).take _
@[irreducible] def cSlL:PV→Option Int→Option Int→CH→K1→Prop:=fun x lo hi C Q=>match x with
 | .ref a=>match C a with
  | some (.lst xs)=>∀ p,C p=none→Q (.ref p) (nQ C p (.lst (oC xs lo hi)))
  | _=>False
 | _=>False
def cSl (cr:PV→Option Int→Option Int→CH→K1→Prop) (ce:TCE) (cl ch:TCO):TCE:=fun ρ C Q=>ce ρ C fun x C1=>cl ρ C1 fun l C2=>ch ρ C2 fun u C3=>cr x l u C3 Q
theorem ZP {lo hi:Option Expr}{ce:TCE}{cl ch:TCO}{p2:Pos}(he:CE X e ce) (hl:CPt X lo cl) (hu:CPt X hi ch):CE X (.Subscript e (.Slice lo hi none p2) pos) (cSl cSlL ce cl ch):=⟨JE.weak (XC sl_list he.h hl.h hu.h) fun σ H Q ⟨ρ,C,R,s,h,q,f⟩ =>
 ⟨ρ,C,_,s,h,q,fun x H1 px C1 q1 rx h1 f1=>⟨ρ,C1,_,s.imm (f1.imm h),h1,q1,fun l H2 l' C2 q2 e2 h2 f2=>⟨ρ,C2,_,(s.imm (f1.imm h)).imm (f2.imm h1),h2,q2,fun u H3 u' C3 q3 e3 h3 f3=>by
  cases e2; cases e3
  unfold cSlL at q3
  split at q3
  ·split at q3
   ·next xs e =>
    obtain ⟨vs,ev,r⟩:=h3 _ _ e;have rx3:=rx.imm ((f2.trans f3).imm h1);cases rx3;exact ⟨_,vs,rfl,SqL.of ev,fun p hp=>f _ _ _ _ (q3 p (h3.fresh hp)) (.ref p) (h3.lay hp ⟨_,eQ,(r.cut l u).imm (Imm.new hp _)⟩) (f1.trans (f2.trans (f3.trans (Fw.lay hp _ _))))⟩
   ·exact q3.elim
  ·exact q3.elim⟩⟩⟩⟩
theorem Wj (k:Nat) (σ:St):NoAt k (σ.set k none):=fun v e=>by
 rw [List.getElem?_set_self'] at e
 cases hk:σ[k]? with
 | none=>rw [hk] at e; cases e
 | some x=>rw [hk] at e; cases e
theorem SRel.unset {K:PySem.W.Frag}{H:Hp}{σ:St}{ρ:CSt}(s:SRel K H σ ρ) (k:Nat):SRel K H (σ.set k none) (ρ.set k none):=by
 induction s generalizing k with
 | nil=>exact .nil
 | cons h' r ih =>
  cases k with
  | zero=>exact .cons trivial r
  | succ k=>exact .cons h' (ih k)
def cRetAt (k:Nat) (ce:TCE):TCS:=fun E ρ C=>ce (ρ.set k none) C E.rt
theorem Yb (k:Nat) {ce:TCE}(he:CE (X.at_ k) e ce):CS X (.Return (some e) pos) (cRetAt k ce):=⟨JS.weak (js_fg k (WE (je_drop k he.h))) fun D σ H ⟨ρ,C,E,s,h,q,f⟩ =>
 ⟨Wj k σ,ρ.set k none,C,_,s.unset k,h,q,fun x H1 px C1 q1 rx h1 f1=>f.rt x H1 px C1 q1 rx h1 f1⟩⟩
def yF (S:CH→Prop) (t:TCT) (c:TCE) (ρ:CSt) (Q:K1):List PV→List PV→CH→Prop
 | [],acc,C=>S C∧∀ p,C p=none→Q (.ref p) (nQ C p (.lst acc))
 | x::r,acc,C=>S C∧t (some x::ρ) C fun b C1=>if b=true then c (some x::ρ) C1 fun y C2=>acc.length < sizeLine∧yF S t c ρ Q r (acc++[y]) C2 else yF S t c ρ Q r acc C1
structure ItS (K:PySem.W.Frag) (S:CH→Prop) (J:It) (ps:List PV):Prop where
 go:∀ i H' C',i < ps.length→HRel K H' C'→S C'→J.go i H'
 yl:∀ i H' C' x H'',HRel K H' C'→S C'→J.yld i H' x H''→H''=H'∧∀ t,ps[i]?=some t→Rep K H' x t
 st:∀ H' C',HRel K H' C'→S C'→J.stop ps.length H'
theorem comp_S {K:PySem.W.Frag}{H H0:Hp}{C C0:CH}{σ:St}{ρ:CSt}{J:It}{ps:List PV}{t:TCT}{c:TCE}{R:K1}{Q:VK}{S:CH→Prop}(j:ItS K S J ps) (s:SRel K H σ ρ) (h:HRel K H C) (q:yF S t c ρ R ps [] C)
  (h0:HRel K H0 C0) (f0:Fw H0 C0 H C) (f:∀ v H' p C',R p C'→Rep K H' v p→HRel K H' C'→Fw H0 C0 H' C'→Q v H') {D:Addr} (hD:H D=none) :
  ∃ W:Nat→Nat→List V→Hp→Prop,(∃ m,W 0 m [] (upd H D (.lst [])))∧∀ i m ys H,W i m ys H →
   (J.stop i H∧Q (.ref D) H)∨(J.go i H∧∀ x H',J.yld i H x H'→jK K mL t (some x::σ) H' fun b H2 =>
    if b=true then jK K (Rep K) c (some x::σ) H2 fun y H3=>H3 D=some (.lst ys)∧ys.length < sizeLine∧∃ m',m' < m∧W (i+1) m' (ys++[y]) (upd H3 D (.lst (ys++[y])))
    else ∃ m',m' < m∧W (i+1) m' ys H2):=by
 have fD:∀ {H':Hp} {C':CH},Fw H C H' C'→True:=fun _=>trivial
 refine ⟨fun i m ys H'=>m=ps.length - i∧i≤ps.length∧∃ acc C',H' D=some (.lst ys)∧C' D=none∧Reps K H' ys acc∧HRel K H' C'∧Fw H C H' C'∧yF S t c ρ R (ps.drop i) acc C',
  ⟨ps.length,rfl,Nat.zero_le _,[],C,eQ,h.fresh hD,.nil,h.new hD _,Fw.new hD _,q⟩,?_⟩
 rintro i m ys H1 ⟨rfl,hi,acc,C1,e1,n1,r1,h1,f1,q1⟩;have k1:Imm H H1:=f1.imm h
 have q0:S C1:=by
  cases z:ps.drop i with
  | nil=>rw [z] at q1; exact q1.1
  | cons x r=>rw [z] at q1; exact q1.1
 by_cases hlt:i < ps.length
 ·refine .inr ⟨j.go i H1 C1 hlt h1 q0,fun x H2 y => ?_⟩
  obtain ⟨rfl,y⟩:=j.yl i H1 C1 x H2 h1 q0 y;have rx:=y _ (List.getElem?_eq_getElem hlt);rw [List.drop_eq_getElem_cons hlt] at q1
  replace q1:=q1.2
  refine ⟨some ps[i]::ρ,C1,_,.cons rx (s.imm k1),h1,q1,fun b H3 b' C3 q3 e h3 f3 => ?_⟩;cases e;obtain ⟨n3,e3⟩:=f3 D (by rw [n1]; rfl) (by rw [e1]; exact fun z=>nomatch z);rw [e1] at e3;rw [n1] at n3;have k3:=f3.imm h1
  cases b with
  | true =>
   rw [if_pos rfl] at q3 ⊢;refine ⟨some ps[i]::ρ,C3,_,.cons (rx.imm k3) ((s.imm k1).imm k3),h3,q3,fun v H4 p C4 q4 r4 h4 f4 => ?_⟩;obtain ⟨n4,e4⟩:=f4 D (by rw [n3]; rfl) (by rw [e3]; exact fun z=>nomatch z);rw [e3] at e4;rw [n3] at n4;have k4:=f4.imm h3;have m4:Imm H4 (upd H4 D (.lst (ys++[v]))):=Imm.mut e4 rfl _;refine ⟨e4,by rw [r1.len]; exact q4.1,ps.length - (i+1),by omega,rfl,hlt,acc++[p],C4,eQ,n4,?_,?_,?_,q4.2⟩
   ·exact (((r1.imm k3).imm k4).append (.cons r4 .nil)).imm m4
   ·intro a o ca
    have ne:a≠D:=fun z=>by subst z; rw [n4] at ca; cases ca
    exact (h4 a o ca).imm m4 (aQ ne)
   ·intro a ca na
    have ne:a≠D:=fun z=>na (z▸hD);obtain ⟨x1,x2⟩:=(f1.trans (f3.trans f4)) a ca na;exact ⟨x1,(aQ ne).trans x2⟩
  | false =>
   rw [if_neg Bool.false_ne_true] at q3 ⊢;exact ⟨ps.length - (i+1),by omega,rfl,hlt,acc,C3,e3,n3,r1.imm k3,h3,f1.trans f3,q3⟩
 ·have e:i=ps.length:=by omega
  subst e;rw [List.drop_length] at q1
  replace q1:=q1.2
  refine .inl ⟨j.st H1 C1 h1 q0,f (.ref D) H1 (.ref D) _ (q1 D n1) (.ref D) ?_ ?_⟩
  ·intro a o ca
   by_cases z:a=D
   ·subst z; rw [xQ] at ca; cases ca; exact ⟨ys,e1,r1⟩
   ·rw [bQ z] at ca; exact h1 a o ca
  ·intro a ca na
   obtain ⟨x1,x2⟩:=f0 a ca na;have na':H a≠none:=by rw [x2]; exact na
   have ne:a≠D:=fun z=>na' (z▸hD);obtain ⟨y1,y2⟩:=f1 a (by rw [x1]; exact ca) na';exact ⟨(bQ ne).trans (y1.trans x1),y2.trans x2⟩
theorem it_lst {K:PySem.W.Frag}{a:Addr}{xs:List PV}:ItS K (fun C=>C a=some (.lst xs)) (Itl K a) xs where
 go:=fun i H' C' l h s=>by
  obtain ⟨vs,e,r⟩:=h a _ s;obtain ⟨v,ev,_⟩:=r.get (List.getElem?_eq_getElem l);exact ⟨vs,v,SqL.of e,ev⟩
 yl:=fun i H' C' x H'' h s y=>⟨y.1,fun t et=>by
  obtain ⟨vs,e,r⟩:=h a _ s;obtain ⟨v,ev,rv⟩:=r.get et;have:=y.2 vs (SqL.of e)
  rw [ev] at this; cases this; exact rv⟩
 st:=fun H' C' h s=>by
  obtain ⟨vs,e,r⟩:=h a _ s;exact ⟨vs,SqL.of e,by rw [r.len]; exact Nat.le_refl _⟩
@[irreducible] def tO (ce:TCE) (t:TCT) (c:TCE):TCE:=fun ρ C Q=>ce ρ C fun x C1=>match x with
 | .ref a=>match C1 a with
  | some (.lst xs)=>yF (fun C=>C a=some (.lst xs)) t c ρ Q xs [] C1
  | _=>False
 | _=>False
theorem pP {elt iter:Expr}{x:Str}{px:Pos}{ifs:List Expr}{scope:Scope}{ce:TCE}{t:TCT}{c:TCE}
  (hc:X.calm=true) (hN:(x::X.N).Nodup) (K:∃ cl,yM X x scope cl) (hi:CE X iter ce)
  (ht:∀ cl fp C s₂ H₂,CF (pZ X x scope cl fp C s₂ H₂) ifs t) (he:∀ cl fp C s₂ H₂,CE (pZ X x scope cl fp C s₂ H₂) elt c)
  (hs:∀ v,foldedSetIterable iter X.env v=pure v:=by intro _; rfl):CE X (.ListComp elt [⟨.Name x px,iter,ifs,0⟩] scope pos) (tO ce t c) :=
 ⟨JE.weak (zP (te:=jK X.K (Rep X.K) c) (tc:=jK X.K mL t) hc hN K (Jn hi.h) (fun cl fp C s₂ H₂=>(ht cl fp C s₂ H₂).h) (fun cl fp C s₂ H₂=>(he cl fp C s₂ H₂).h) hs) fun σ H Q ⟨ρ,C,R,s,h,q,f⟩=>by
  unfold tO at q
  exact ⟨ρ,C,_,s,h,q,fun xv H1 px C1 q1 rx h1 f1=>by
   split at q1
   ·next a =>
    split at q1
    ·next xs e =>
     obtain ⟨vs,ev,r⟩:=h1 a _ e;cases rx;exact ⟨a,rfl,⟨vs,SqL.of ev⟩,fun D hD=>comp_S (Q:=Q) it_lst (s.imm (f1.imm h)) h1 q1 h f1 f hD⟩
    ·exact q1.elim
   ·exact q1.elim⟩⟩
end
section
variable {C:CH}{a p:Addr}{xs ys:List PV}{i:Int}{v:PV}{Q:K1}
theorem fZ (h:C a=some (.lst xs)) (e:atI xs i=some v) (q:Q v C):cIx (.ref a) (.int i) C Q:=by
 unfold cIx;show (match C a with | some (.lst xs)=>cAt xs i C Q | _=>False);rw [h];show cAt xs i C Q;unfold cAt;rw [e];exact q
theorem ix_f (e:atI xs i=some v) (q:Q v C):cIx (.fz xs) (.int i) C Q:=by
 unfold cIx;show cAt xs i C Q;unfold cAt;rw [e];exact q
theorem wJ (e:atI xs i=some v) (q:Q v C):cIx (.tup xs) (.int i) C Q:=by
 unfold cIx;show cAt xs i C Q;unfold cAt;rw [e];exact q
theorem setL {k:Int}{j:Nat}{Q:CH→Prop}(h:C p=some (.lst xs)) (e:ixN xs.length k=some j) (q:Q (nQ C p (.lst (xs.set j v)))):JR (.ref p) (.int k) v C Q:=by
 unfold JR;dsimp only;rw [h];dsimp only;rw [e];exact q
theorem oM (h:C a=some (.lst xs)) (q:Q (.int xs.length) C):QF [.ref a] C Q:=by
 unfold QF;show (match C a with | some (.lst xs)=>Q (.int xs.length) C | some (.dK kvs)=>Q (.int kvs.length) C | _=>False);rw [h];exact q
theorem Wv (q:Q (.int xs.length) C):QF [.fz xs] C Q:=by
 unfold QF;exact q
theorem Xx (q:Q (.int xs.length) C):QF [.tup xs] C Q:=by
 unfold QF;exact q
theorem lC (h:C a=some (.lst xs)) (z:xs.length < sizeLine) (q:Q .non (nQ C a (.lst (xs++[v])))):qD (.ref a) [v] C Q:=by
 unfold qD;show (match C a with | some (.lst xs)=>xs.length < sizeLine∧Q .non (nQ C a (.lst (xs++[v]))) | _=>False);rw [h];exact ⟨z,q⟩
theorem qU (h:C a=some (.lst xs)):isL (.ref a) C:=by
 show (match C a with | some (.lst _)=>True | _=>False);rw [h]
 trivial
end
theorem i_i {g:Int→Int→PV}{i j:Int}{C:CH}{Q:K1}(q:Q (g i j) C):cI g (.int i) (.int j) C Q:=by
 unfold cI;exact q
theorem dW {i j:Int}{C:CH}{Q:K1}(q:Q (.int (i+j)) C):X6 (.int i) (.int j) C Q:=by
 unfold X6;exact q
theorem xB {xs ys:List PV}{C:CH}{Q:K1}(h:xs.length+ys.length≤sizeLine) (q:Q (.tup (xs++ys)) C):X6 (.tup xs) (.tup ys) C Q:=by
 unfold X6;exact ⟨h,q⟩
theorem WU {b:Bool}{p q:Prop}(h1:b=true→p) (h2:b=false→q):if b=true then p else q:=by
 cases b with
 | true=>exact h1 rfl
 | false=>exact h2 rfl
theorem if_y {b:Bool}{p q:Prop}(e:b=true) (h:p):if b=true then p else q:=by rw [if_pos e]; exact h
theorem jP {b:Bool}{p q:Prop}(e:b=false) (h:q):if b=true then p else q:=by rw [if_neg (by rw [e]; exact Bool.false_ne_true)]; exact h
theorem cW {b:Bool}{p q:CH→Prop}{C:CH}(e:b=true) (h:p C):Zt (fun b C1=>if b=true then p C1 else q C1) (.bl b) C:=by cases e; exact h
theorem eZ {b:Bool}{p q:CH→Prop}{C:CH}(e:b=false) (h:q C):Zt (fun b C1=>if b=true then p C1 else q C1) (.bl b) C:=by cases e; exact h
theorem bJ {b:Bool}{p q:CH→Prop}{C:CH}(h1:b=true→p C) (h2:b=false→q C):Zt (fun b C1=>if b=true then p C1 else q C1) (.bl b) C:=by
 cases b with
 | true=>exact h1 rfl
 | false=>exact h2 rfl
theorem onot {p q:CH→Prop}{C:CH}(h:q C):Zt (fun b C1=>if (!b)=true then p C1 else q C1) (.bl true) C:=by
 show if (!true)=true then p C else q C
 rw [if_neg (by decide)];exact h
theorem iX {k:Bool→Bool}{x y:PV}{C:CH}{Q:K1}{b:Bool}(e:sEq x y=some b) (q:Q (.bl (k b)) C):cEq k x y C Q:=by
 unfold cEq;rw [e];exact q
theorem qX (x y:Str):sEq (.str x) (.str y)=some (decide (x=y)):=rfl
theorem iZ (x y:Int):sEq (.int x) (.int y)=some (decide (x=y)):=rfl
theorem xZ {t:TCT}{c:TCE}{ρ:CSt}{Q:K1}{x:PV}{r acc:List PV}{C:CH}(h:t (some x::ρ) C fun b C1=>if b=true then c (some x::ρ) C1 fun y C2=>acc.length < sizeLine∧zJ t c ρ Q r (acc++[y]) C2 else zJ t c ρ Q r acc C1):zJ t c ρ Q (x::r) acc C:=h
theorem fG {t:TCT}{c:TCE}{ρ:CSt}{Q:K1}{acc:List PV}{C:CH}(h:∀ p,C p=none→Q (.ref p) (nQ C p (.lst acc))):zJ t c ρ Q [] acc C:=h
theorem XF {n:String}{T k:Ty}{x:PV}{C:CH}{Q:K1}(e1:yL n=some T) (e2:tyP C x=some k) (q:Q (.bl (yG k T)) C):cIsi [x,.ty n] C Q:=by
 unfold cIsi;show (match yL n,tyP C x with | some T,some k=>Q (.bl (yG k T)) C | _,_=>False);rw [e1,e2];exact q
theorem iO {a b:Addr}{xs ys:List PV}{C:CH}{Q:K1}(h1:C a=some (.lst xs)) (h2:C b=some (.lst ys)) (z:xs.length+ys.length≤sizeLine) (q:∀ p,C p=none→Q (.ref p) (nQ C p (.lst (xs++ys)))):X6 (.ref a) (.ref b) C Q:=by
 unfold X6;show (match C a,C b with | some (.lst xs),some (.lst ys)=>xs.length+ys.length≤sizeLine∧∀ p,C p=none→Q (.ref p) (nQ C p (.lst (xs++ys))) | _,_=>False);rw [h1,h2];exact ⟨z,q⟩
theorem qV {xs:List PV}{p:Addr}{C:CH}{Q:K1}(m:C p=some (.lst xs)) (q:Q (.tup xs) C):sO [.ref p] C Q:=by
 unfold sO;show (match C p with | some (.lst xs)=>Q (.tup xs) C | _=>False);rw [m];exact q
def Gr (C C':CH):Prop:=∀ b o,C b=some o→C' b=some o
theorem Gr.refl {C:CH}:Gr C C:=fun _ _ h=>h
theorem Gr.trans {C C1 C2:CH}(h:Gr C C1) (h':Gr C1 C2):Gr C C2:=fun b o e=>h' b o (h b o e)
theorem Gr.new {C:CH}{p:Addr}(hp:C p=none) (o:CO):Gr C (nQ C p o):=fun b u e=>by
 rw [bQ (fun z=>by subst z; rw [hp] at e; cases e)]; exact e
theorem jZ {E:gU}{ρ:CSt}{C:CH}(h:E.nx ρ C):cNext E ρ C:=h
theorem cQ {i:Nat}{ce:TCE}{u:TCS}{E:gU}{ρ:CSt}{C:CH}(h:ce ρ C fun v C1=>u E (ρ.set i (some v)) C1):K4 (cSet i ce) u E ρ C:=h
theorem oZ {t u:TCS}{E:gU}{ρ:CSt}{C:CH}(h:t { E with nx:=u E } ρ C):K4 t u E ρ C:=h
theorem c_i {v:PV}{ρ:CSt}{C:CH}{Q:K1}(h:Q v C):cC v ρ C Q:=h
theorem oX {t u:TCS}{E:gU}{ρ:CSt}{C:CH}(P:CSt→CH→Prop) (h1:∀ K:CSt→CH→Prop,(∀ ρ' C',P ρ' C'→K ρ' C')→t { E with nx:=K } ρ C) (h2:∀ ρ' C',P ρ' C'→u E ρ' C'):K4 t u E ρ C:=h1 _ h2
section
variable {X:Cx}{o e value i f:Expr}{es:List Expr}{pos pos':Pos}
def putFP (f:Str) (v:PV):List (Str×PV)→List (Str×PV)
 | []=>[(f,v)]
 | (g,x)::r=>if g=f then (g,v)::r else (g,x)::putFP f v r
@[irreducible] def cFld (c:Addr) (f:Str):PV→CH→K1→Prop:=fun x C Q=>match x with
 | .ref p=>match C p with
  | some (.ins c' _ fs)=>c'=c∧match fs.lookup f with
   | some v=>Q v C
   | none=>False
  | _=>False
 | _=>False
@[irreducible] def cPutF (c:Addr) (f:Str):PV→PV→CH→(CH→Prop)→Prop:=fun x v C Q=>match x with
 | .ref p=>match C p with
  | some (.ins c' dx fs)=>c'=c∧fs.length < 1000∧Q (nQ C p (.ins c' dx (putFP f v fs)))
  | _=>False
 | _=>False
end
end CL
namespace L2
open PySem PySem.Spec PyProof.Rows PySem.W
section
variable {X:Cx}
theorem ZR:CallR X (.type "dict") (fun xs H Q=>∃ a kvs,xs=[.ref a]∧H a=some (.dK kvs)∧∀ p,H p=none→Q (.ref p) (upd H p (.dK kvs))):=by
 intro pins s σ H xs us Q I r h;obtain ⟨a,kvs,rfl,ha,q⟩:=h;obtain ⟨u,rfl,ru⟩:=r.one;cases (show u=Value.ref a from ru);obtain ⟨z,hd,vs,rel,dd⟩:=XO I.hok ha;refine kt_call_dict hd dd (by rw [← rel.length]; exact z) fun h' hm hs => ?_;refine ⟨.ref s.heap.objs.size,_,I.laid (t':=s.toks) (o:=.dK kvs) (fun b o e=>hs.extBut b o (Nat.ne_of_lt (Heap.lt_size e)) (Heap.get?_push_of_some _ e)) (Nat.le_refl _) ?_,rfl,q _ (I.hok.fresh (Nat.le_refl _))⟩
 exact ⟨z,beq_false_of_ne (Nat.ne_of_gt I.big),vs,rel,hm⟩
end
end L2
namespace CL
open PySem PySem.Spec L2 PySem.W
open PyProof.Rows hiding St
def fB:List PV→Option (List Key)
 | []=>some []
 | t::r=>match oV t,fB r with
  | some k,some ks=>some (k::ks)
  | _,_=>none
def bM:PV→Option (List Key)
 | .tup ts=>fB ts
 | _=>none
theorem ZF {K:PySem.W.Frag}{H:Hp}{vs:List V}{ts:List PV}{ks:List Key}(r:Reps K H vs ts) (e:fB ts=some ks):vs=ks.map kV:=by
 induction ts generalizing vs ks with
 | nil=>cases r; cases e; rfl
 | cons t ts ih =>
  cases r with
  | cons h r =>
   unfold fB at e
   split at e
   ·next k ks' e1 e2=>cases e; rw [tU h e1,ih r e2]; rfl
   ·cases e
theorem iY {K:PySem.W.Frag}{H:Hp}{v:V}{t:PV}{ks:List Key}(r:Rep K H v t) (e:bM t=some ks):∃ b,v=.ref b∧H b=some (.tup (ks.map kV)):=by
 cases r<;>try (cases e)
 next a vs ts h r=>exact ⟨a,rfl,by rw [h,ZF r e]⟩
section
variable {κ:Type} [DecidableEq κ]
def iV (kvs:List (κ×PV)) (k:κ):Option PV:=(kvs.find? fun kv=>decide (kv.1=k)).map (·.2)
def putG (kvs:List (κ×PV)) (k:κ) (v:PV):List (κ×PV):=if (kvs.any fun kv=>decide (kv.1=k))=true then kvs.map fun kv=>if kv.1=k then (kv.1,v) else kv else kvs++[(k,v)]
def mergeG (kvs more:List (κ×PV)):List (κ×PV):=more.foldl (fun acc kv=>putG acc kv.1 kv.2) kvs
theorem FP.val {K:PySem.W.Frag}{H:Hp}{vs:List (κ×V)}{kvs:List (κ×PV)}(r:FP K H vs kvs) (k:κ):(∃ v t,cU vs k=some v∧iV kvs k=some t∧Rep K H v t)∨(cU vs k=none∧iV kvs k=none):=by
 induction r with
 | nil=>exact .inr ⟨rfl,rfl⟩
 | @cons p q l1 l2 h r ih =>
  unfold cU iV;rw [List.find?_cons,List.find?_cons,h.1]
  by_cases e:q.1=k
  ·rw [decide_eq_true e]
   exact .inl ⟨p.2,q.2,rfl,rfl,h.2⟩
  ·rw [decide_eq_false e]
   exact ih
theorem FP.anyG {K:PySem.W.Frag}{H:Hp}{vs:List (κ×V)}{kvs:List (κ×PV)}(r:FP K H vs kvs) (k:κ):(vs.any fun kv=>decide (kv.1=k))=(kvs.any fun kv=>decide (kv.1=k)):=by
 induction r with
 | nil=>rfl
 | @cons p q l1 l2 h r ih=>rw [List.any_cons,List.any_cons,h.1,ih]
theorem FP.putG {K:PySem.W.Frag}{H:Hp}{vs:List (κ×V)}{kvs:List (κ×PV)}(r:FP K H vs kvs) (k:κ) {v:V}{t:PV}(h:Rep K H v t):FP K H (mW vs k v) (CL.putG kvs k t):=by
 unfold mW CL.putG;rw [FP.anyG r k]
 have upd:FP K H (vs.map fun kv=>if kv.1=k then (kv.1,v) else kv) (kvs.map fun kv=>if kv.1=k then (kv.1,t) else kv):=by
  induction r with
  | nil=>exact .nil
  | @cons p q l1 l2 h' r ih =>
   refine .cons ?_ ih;dsimp only
   by_cases e:q.1=k
   ·rw [if_pos (h'.1.trans e),if_pos e]; exact ⟨h'.1,h⟩
   ·rw [if_neg (fun z=>e (h'.1.symm.trans z)),if_neg e]; exact h'
 split
 ·exact upd
 ·exact Paired.snoc r ⟨rfl,h⟩
end
section
variable {X:Cx}{a b c e o i f value:Expr}{es:List Expr}{pos pos':Pos}
def cTNew:TCE:=fun _ C Q=>∀ p,C p=none→Q (.ref p) (nQ C p (.dT []))
theorem JL:CE X (.Dict [] [] pos) cTNew:=⟨JE.weak WJ fun σ H Q ⟨ρ,C,R,s,h,q,f⟩=>fun p hp=>f (.ref p) _ (.ref p) _ (q p (h.fresh hp)) (.ref p) (h.lay hp ⟨[],eQ,.nil⟩) (Fw.lay hp _ _)⟩
@[irreducible] def cTIx:R2C:=fun x y C Q=>match x with
 | .ref a=>match C a,bM y with
  | some (.dT kvs),some k=>match iV kvs k with
   | some v=>Q v C
   | none=>False
  | _,_=>False
 | _=>False
theorem ce_tix {co ci:TCE}(hu:X.A.units+1 < cLine) (ho:CE X o co) (hi:CE X i ci) (hs:Za i):CE X (.Subscript o i pos) (cOp cTIx co ci):=⟨JE.weak (Qs hu ho.h hi.h hs) fun σ H Q ⟨ρ,C,R,s,h,q,f⟩ =>
 ⟨ρ,C,_,s,h,q,fun x H1 px C1 q1 rx h1 f1=>⟨ρ,C1,_,s.imm (f1.imm h),h1,q1,fun y H2 py C2 q2 ry h2 f2=>by
  unfold cTIx at q2
  split at q2
  ·next a =>
   split at q2
   ·next kvs k e1 e2 =>
    split at q2
    ·next t e3 =>
     have rx2:=rx.imm (f2.imm h1);cases rx2;obtain ⟨vs,ev,r⟩:=h2 a _ e1;obtain ⟨b,rfl,eb⟩:=iY ry e2
     rcases FP.val r k with ⟨v,t',l1,l2,rv⟩ | ⟨_,l2⟩
     ·rw [e3] at l2
      cases l2;exact ⟨a,v,rfl,by rw [← l1]; exact DGet.t ev eb,f v H2 t C2 q2 rv h2 (f1.trans f2)⟩
     ·rw [e3] at l2; cases l2
    ·exact q2.elim
   ·exact q2.elim
  ·exact q2.elim⟩⟩⟩
def WP (x:PV) (C:CH):Prop:=match x with
 | .ref a=>match C a with
  | some (.dT _)=>True
  | _=>False
 | _=>False
theorem isTd_of {K:PySem.W.Frag}{H:Hp}{C:CH}{x:V}{t:PV}(d:WP t C) (r:Rep K H x t) (h:HRel K H C):∃ a kvs,x=.ref a∧t=.ref a∧H a=some (.dT kvs):=by
 unfold WP at d
 split at d
 ·split at d
  ·next e=>obtain ⟨vs,ev,_⟩:=h _ _ e; cases r; exact ⟨_,vs,rfl,rfl,ev⟩
  ·exact d.elim
 ·exact d.elim
@[irreducible] def JQ:PV→PV→PV→CH→K1→Prop:=fun x y z C Q=>match x with
 | .ref a=>match C a,bM y with
  | some (.dT kvs),some k=>Q ((iV kvs k).getD z) C
  | _,_=>False
 | _=>False
def cTGet2 (co ck cz:TCE):TCE:=fun ρ C Q=>co ρ C fun x C1=>WP x C1∧ck ρ C1 fun y C2=>cz ρ C2 fun z C3=>JQ x y z C3 Q
theorem Yh {co ck cz:TCE}{apos cpos:Pos}(hu:X.A.units+1 < cLine) (ho:CE X o co) (he:CE X e ck) (hf:CE X f cz) (hb:attributeBase o "get" X.env (eval o X.env)=eval o X.env:=by rfl) (hl:(apos.endLine==cpos.line)=true:=by rfl)
  (h1:tX e=true:=by rfl) (h2:tX f=true:=by rfl):CE X (.Call (.Attribute o "get" apos) [e,f] [] cpos) (cTGet2 co ck cz):=⟨JE.weak (XD hu ho.h he.h hf.h hb hl h1 h2) fun σ H Q ⟨ρ,C,R,s,h,q,f⟩ =>
 ⟨ρ,C,_,s,h,q,fun x H1 px C1 q1 rx h1 f1=>by
  obtain ⟨a,kvs,rfl,rfl,e1⟩:=isTd_of q1.1 rx h1;refine ⟨a,rfl,.inr ⟨kvs,.inl e1⟩,ρ,C1,_,s.imm (f1.imm h),h1,q1.2,fun y H2 py C2 q2 ry h2 f2=>⟨ρ,C2,_,(s.imm (f1.imm h)).imm (f2.imm h1),h2,q2,fun z H3 pz C3 q3 rz h3 f3 => ?_⟩⟩;unfold JQ at q3;dsimp only at q3
  split at q3
  ·next kvs' k d1 d2 =>
   obtain ⟨vs,ev,r⟩:=h3 a _ d1;obtain ⟨b,rfl,eb⟩:=iY (ry.imm (f3.imm h2)) d2
   rcases FP.val r k with ⟨v,t',l1,l2,rv⟩ | ⟨l1,l2⟩
   ·rw [l2] at q3
    exact ⟨some v,by rw [← l1]; exact DGet.t ev eb,f v H3 t' C3 q3 rv h3 (f1.trans (f2.trans f3))⟩
   ·rw [l2] at q3
    exact ⟨none,by rw [← l1]; exact DGet.t ev eb,f z H3 pz C3 q3 rz h3 (f1.trans (f2.trans f3))⟩
  ·exact q3.elim⟩⟩
@[irreducible] def JU:PV→PV→PV→CH→(CH→Prop)→Prop:=fun x y v C Q=>match x with
 | .ref a=>match C a,bM y with
  | some (.dT kvs),some k=>kvs.length < sizeLine∧Q (nQ C a (.dT (putG kvs k v)))
  | _,_=>False
 | _=>False
def cTPut (co ck cv:TCE):TCS:=fun E ρ C=>cv ρ C fun v C1=>co ρ C1 fun x C2=>ck ρ C2 fun y C3=>JU x y v C3 fun C4=>E.nx ρ C4
theorem JD {co ck cv:TCE}(hu:X.A.units+1 < cLine) (ho:CE X o co) (hi:CE X i ck) (hv:CE X value cv) (hs:swapsWith value (some (.Subscript o i pos')) pos.line X.env=pure false:=by rfl) :
  CS X (.Assign [.Subscript o i pos'] value pos) (cTPut co ck cv):=⟨JS.weak (Jm hu ho.h hi.h hv.h hs) fun D σ H ⟨ρ,C,E,s,h,q,f⟩ =>
 ⟨ρ,C,_,s,h,q,fun v H1 pv C1 q1 rv h1 f1=>⟨ρ,C1,_,s.imm (f1.imm h),h1,q1,fun x H2 px C2 q2 rx h2 f2=>⟨ρ,C2,_,(s.imm (f1.imm h)).imm (f2.imm h1),h2,q2,fun y H3 py C3 q3 ry h3 f3=>by
  have s3:=((s.imm (f1.imm h)).imm (f2.imm h1)).imm (f3.imm h2);have rv3:=rv.imm ((f2.trans f3).imm h1);unfold JU at q3
  split at q3
  ·next a =>
   split at q3
   ·next kvs k e1 e2 =>
    have rx3:=rx.imm (f3.imm h2);cases rx3;obtain ⟨vs,ev,r⟩:=h3 a _ e1;obtain ⟨b,rfl,eb⟩:=iY ry e2;have hl:vs.length=kvs.length:=Paired.length r;have m:Imm H3 (upd H3 a (.dT (mW vs k v))):=Imm.mut ev rfl _;refine ⟨a,_,rfl,DPut.t ev eb (by rw [hl]; exact q3.1),f.nx σ _ ρ _ q3.2 (s3.imm m) (h3.put ev rfl ⟨_,eQ,Paired.mapP (FP.putG r k rv3) fun _ _ z=>⟨z.1,z.2.imm m⟩⟩) (f1.trans (f2.trans (f3.trans (Fw.put e1 _ _))))⟩
   ·exact q3.elim
  ·exact q3.elim⟩⟩⟩⟩
end
section
variable {X:Cx}{a b c e o i f value:Expr}{es:List Expr}{pos pos':Pos}
@[irreducible] def Yv:GC:=fun ts C Q=>match ts with
 | [.int i,.int j]=>Q (.int (if j > i then j else i)) C
 | _=>False
@[irreducible] def Yu:GC:=fun ts C Q=>match ts with
 | [.int i,.int j]=>Q (.int (if j < i then j else i)) C
 | _=>False
theorem JP {K:PySem.W.Frag}:Cbi K (fun xs H Q=>∃ i j,xs=[.int i,.int j]∧Q (.int (if j > i then j else i)) H) Yv:=fun xs ts H C Q R rs h q f=>by
 unfold Yv at q
 split at q
 ·obtain ⟨v1,v2,rfl,r1,r2⟩:=fF rs
  cases r1; cases r2
  exact ⟨_,_,rfl,f _ H _ C q (.int _) h Fw.refl⟩
 ·exact q.elim
theorem JN {K:PySem.W.Frag}:Cbi K (fun xs H Q=>∃ i j,xs=[.int i,.int j]∧Q (.int (if j < i then j else i)) H) Yu:=fun xs ts H C Q R rs h q f=>by
 unfold Yu at q
 split at q
 ·obtain ⟨v1,v2,rfl,r1,r2⟩:=fF rs
  cases r1; cases r2
  exact ⟨_,_,rfl,f _ H _ C q (.int _) h Fw.refl⟩
 ·exact q.elim
@[irreducible] def QG:GC:=fun ts C Q=>match ts with
 | [.ref a]=>match C a with
  | some (.dK kvs)=>∀ p,C p=none→Q (.ref p) (nQ C p (.dK kvs))
  | _=>False
 | _=>False
theorem K0 {K:PySem.W.Frag}:Cbi K (fun xs H Q=>∃ a kvs,xs=[.ref a]∧H a=some (.dK kvs)∧∀ p,H p=none→Q (.ref p) (upd H p (.dK kvs))) QG:=fun xs ts H C Q R rs h q f=>by
 unfold QG at q
 split at q
 ·split at q
  ·next kvs e =>
   obtain ⟨v,rfl,r⟩:=lZ rs;obtain ⟨vs,ev,rv⟩:=h _ _ e;cases r;exact ⟨_,vs,rfl,ev,fun p hp=>f _ _ _ _ (q p (h.fresh hp)) (.ref p) (h.lay hp ⟨vs,eQ,Paired.mapP rv fun _ _ z=>⟨z.1,z.2.imm (Imm.new hp _)⟩⟩) (Fw.lay hp _ _)⟩
  ·exact q.elim
 ·exact q.elim
@[irreducible] def cCount:PV→List PV→CH→K1→Prop:=fun x ts C Q=>match x,ts with
 | .ref a,[y]=>match C a,oV y with
  | some (.lst xs),some k=>match fB xs with
   | some ks=>Q (.int (cntK k ks:Nat)) C
   | none=>False
  | _,_=>False
 | _,_=>False
@[irreducible] def cIndexT:PV→List PV→CH→K1→Prop:=fun x ts C Q=>match x,ts with
 | .ref a,[.bl true]=>match C a with
  | some (.lst xs)=>∃ (bs:List Bool) (j:Nat),xs=bs.map PV.bl∧bs[j]?=some true∧(∀ m,m < j→bs[m]?=some false)∧Q (.int (j:Nat)) C
  | _=>False
 | _,_=>False
@[irreducible] def cEqT (k:Bool→Bool):R2C:=fun x y C Q=>match bM x,bM y with
 | some ks,some js=>Q (.bl (k (decide (ks=js)))) C
 | _,_=>False
theorem cop_eqT {K:PySem.W.Frag}:Cop K (fun x y H Q=>∃ (a b:Addr) (ks js:List Key),x=.ref a∧y=.ref b∧H a=some (.tup (ks.map kV))∧H b=some (.tup (js.map kV))∧Q (.bl (decide (ks=js))) H) (cEqT id):=fun x y px py H C Q R rx ry h q f=>by
 unfold cEqT at q
 split at q
 ·next ks js e1 e2 =>
  obtain ⟨a,rfl,ha⟩:=iY rx e1;obtain ⟨b,rfl,hb⟩:=iY ry e2;exact ⟨a,b,ks,js,rfl,rfl,ha,hb,f _ H _ C q (.bl _) h Fw.refl⟩
 ·exact q.elim
def Jv:PV→Option V
 | .non=>some .non
 | .bl b=>some (.bl b)
 | .int i=>some (.int i)
 | .str x=>some (.str x)
 | _=>none
theorem wI {K:PySem.W.Frag}{H:Hp}{v w:V}{t:PV}(r:Rep K H v t) (e:Jv t=some w):v=w∧gD w=true:=by
 cases r<;>cases e<;>exact ⟨rfl,rfl⟩
def zO:List PV→Option (List V)
 | []=>some []
 | t::r=>match Jv t,zO r with
  | some v,some vs=>some (v::vs)
  | _,_=>none
theorem ZL {K:PySem.W.Frag}{H:Hp}{ts:List PV}{vs ws:List V}(r:Reps K H vs ts) (e:zO ts=some ws):vs=ws∧ws.all gD=true:=by
 induction ts generalizing vs ws with
 | nil=>cases r; cases e; exact ⟨rfl,rfl⟩
 | cons t ts ih =>
  cases r with
  | cons h r =>
   unfold zO at e
   split at e
   ·next v us e1 e2 =>
    cases e;obtain ⟨rfl,f1⟩:=wI h e1;obtain ⟨rfl,f2⟩:=ih r e2;exact ⟨rfl,by rw [List.all_cons,f1,f2]; rfl⟩
   ·cases e
def seqP (C:CH):PV→Option (List PV)
 | .tup xs=>some xs
 | .kt xs=>some xs
 | .ref a=>match C a with
  | some (.lst xs)=>some xs
  | _=>none
 | _=>none
@[irreducible] def cInS (neg:Bool):R2C:=fun x y C Q=>match seqP C y,Jv x with
 | some ts,some v=>match zO ts with
  | some vs=>Q (.bl (if neg then !inV v vs else inV v vs)) C
  | none=>False
 | _,_=>False
theorem cop_inS {K:PySem.W.Frag}{neg:Bool}:Cop K (rIn K neg) (cInS neg):=fun x y px py H C Q R rx ry h q f=>by
 unfold cInS at q
 split at q
 ·next ts v e1 e2 =>
  split at q
  ·next vs e3 =>
   obtain ⟨rfl,fx⟩:=wI rx e2
   have key:∃ p ws,y=.ref p∧(SqL K H p ws∨SqT K H p ws)∧Reps K H ws ts:=by
    cases ry<;>try (cases e1)
    ·next a =>
     unfold seqP at e1;dsimp only at e1
     split at e1
     ·next xs e =>
      cases e1;obtain ⟨us,eu,ru⟩:=h _ _ e;exact ⟨a,us,rfl,.inl (SqL.of eu),ru⟩
     ·cases e1
    ·next p us hp r=>exact ⟨p,us,rfl,.inr (SqT.of hp),r⟩
    ·next p us hp r=>exact ⟨p,us,rfl,.inr hp,r⟩
   obtain ⟨p,ws,rfl,hs,rs⟩:=key;obtain ⟨rfl,fs⟩:=ZL rs e3;exact ⟨p,ws,rfl,hs,fx,fs,f _ H _ C q (.bl _) h Fw.refl⟩
  ·exact q.elim
 ·exact q.elim
@[irreducible] def cRepL:R2C:=fun x y C Q=>match x,y with
 | .ref a,.int k=>match C a with
  | some (.lst xs) => -(2 ^ 63)≤k∧k < 2 ^ 63∧xs.length * k.toNat≤sizeLine∧∀ p,C p=none→Q (.ref p) (nQ C p (.lst (List.replicate k.toNat xs).flatten))
  | _=>False
 | .tup [z],.int k=>0≤k∧k < 64∧Q (.tup (List.replicate k.toNat z)) C
 | _,_=>False
end
def Vy:List Key→Option (List Str)
 | []=>some []
 | .inr x::r=>(Vy r).map (x :: ·)
 | _=>none
def tiK:List (List Key×PV)→Option (List (List Str×Int))
 | []=>some []
 | (k,.int i)::r=>match Vy k,tiK r with
  | some zs,some cs=>some ((zs,i)::cs)
  | _,_=>none
 | _=>none
def kY (c:List Str×Int):PV:=.tup [.tup (c.1.map PV.str),.int c.2]
def tiLt (cs:List (List Str×Int)):Nat→Nat→Bool:=fun i j=>ltP (cs.getD i ([],0)) (cs.getD j ([],0))
def ordT (cs:List (List Str×Int)):List (List Str×Int):=(aM (tiLt cs) (kas_sort cs.length)).toList.map fun i=>cs.getD i ([],0)
section
variable {K:PySem.W.Frag}{H:Hp}{X:Cx}
theorem V3 {ys:List V}{ts:List PV}(d:PV) (lt:Nat→Nat→Bool) (r:Reps K H ys ts):Reps K H (xD lt ys) ((aM lt (kas_sort ts.length)).toList.map fun i=>ts.getD i d):=by
 have hl:ys.length=ts.length:=r.len;unfold xD;rw [hl]
 have mem:∀ i∈(aM lt (kas_sort ts.length)).toList,i < ys.length:=by
  intro i hi
  by_cases h:0 < ts.length
  ·rw [hl]; exact List.mem_range.mp ((eU lt ts.length h).mem_iff.mp hi)
  ·have e:ts.length=0:=by omega
   rw [e,run0] at hi;cases hi
 generalize (aM lt (kas_sort ts.length)).toList=l at mem ⊢
 induction l with
 | nil=>exact .nil
 | cons i l ih=>exact .cons (r.getD (d:=d) i (mem i List.mem_cons_self)) (ih fun j hj=>mem j (List.mem_cons_of_mem _ hj))
theorem ti_ord (cs:List (List Str×Int)) (l:List Nat):(l.map fun i=>(cs.map kY).getD i (kY ([],0)))=(l.map fun i=>cs.getD i ([],0)).map kY:=by
 rw [List.map_map]
 congr 1
 funext i
 show (cs.map kY).getD i (kY ([],0))=kY (cs.getD i ([],0));rw [List.getD_eq_getElem?_getD,List.getElem?_map,List.getD_eq_getElem?_getD];cases cs[i]?<;>rfl
@[irreducible] def cItemsT (co:TCE):TCE:=fun ρ C Q=>co ρ C fun x C1=>match x with
 | .ref a=>match C1 a with
  | some (.dT _)=>Q (.vw a) C1
  | _=>False
 | _=>False
@[irreducible] def cSortedT:GC:=fun ts C Q=>match ts with
 | [.vw a]=>match C a with
  | some (.dT kvs)=>match tiK kvs with
   | some cs=>cs.length < 64∧∀ p,C p=none→Q (.ref p) (nQ C p (.lst ((ordT cs).map kY)))
   | none=>False
  | _=>False
 | _=>False
end
def ZS:List (TCE×TCE)→CSt→CH→(List (PV×PV)→CH→Prop)→Prop
 | [],_,C,Q=>Q [] C
 | (ck,cv)::r,ρ,C,Q=>ck ρ C fun x C1=>cv ρ C1 fun y C2=>ZS r ρ C2 fun ps C3=>Q ((x,y)::ps) C3
abbrev RPs (K:PySem.W.Frag) (H:Hp):List (V×V)→List (PV×PV)→Prop:=Paired fun p q=>Rep K H p.1 q.1∧Rep K H p.2 q.2
def liftP (K:PySem.W.Frag) (cs:List (TCE×TCE)):List (TE×TE):=cs.map fun p=>(jK K (Rep K) p.1,jK K (Rep K) p.2)
structure CPs (X:Cx) (pos:Pos) (keys:List (Option Expr)) (values:List Expr) (cs:List (TCE×TCE)):Prop where
 h:PPs X pos keys values (liftP X.K cs)
theorem cps_nil {X:Cx}{pos:Pos}:CPs X pos [] [] []:=⟨pps_nil⟩
theorem iU {X:Cx}{pos:Pos}{k v:Expr}{ks:List (Option Expr)}{vs:List Expr}{ck cv:TCE}{cs:List (TCE×TCE)}(hk:CE X k ck) (hv:CE X v cv) (hr:CPs X pos ks vs cs):CPs X pos (some k::ks) (v::vs) ((ck,cv)::cs):=⟨VR hk.h.h hv.h.h hr.h⟩
theorem ZC {K:PySem.W.Frag}{σ:St}{ρ:CSt}:∀ {cs:List (TCE×TCE)}{H:Hp}{C:CH}{R:List (PV×PV)→CH→Prop}{Q:List (V×V)→Hp→Prop},SRel K H σ ρ→HRel K H C→ZS cs ρ C R →
  (∀ vs H' ts C',R ts C'→RPs K H' vs ts→HRel K H' C'→Fw H C H' C'→Q vs H')→tI (liftP K cs) σ H Q:=by
 intro cs
 induction cs with
 | nil=>intro H C R Q s h q f; exact f [] H [] C q .nil h Fw.refl
 | cons p cs ih =>
  obtain ⟨ck,cv⟩:=p;intro H C R Q s h q f;refine ⟨ρ,C,_,s,h,q,fun x H1 px C1 q1 rx h1 f1=>⟨ρ,C1,_,s.imm (f1.imm h),h1,q1,fun y H2 py C2 q2 ry h2 f2 => ?_⟩⟩;refine ih ((s.imm (f1.imm h)).imm (f2.imm h1)) h2 q2 fun vs H3 ts C3 q3 r3 h3 f3 => ?_;exact f _ H3 _ C3 q3 (.cons ⟨(rx.imm (f2.imm h1)).imm (f3.imm h2),ry.imm (f3.imm h2)⟩ r3) h3 (f1.trans (f2.trans f3))
def prK:List (PV×PV)→Option (List (Key×PV))
 | []=>some []
 | (x,y)::r=>match oV x,prK r with
  | some k,some ps=>some ((k,y)::ps)
  | _,_=>none
theorem prK_rep {K:PySem.W.Frag}{H:Hp}{vs:List (V×V)}{ts:List (PV×PV)}{ps:List (Key×PV)}(r:RPs K H vs ts) (e:prK ts=some ps):∃ kvs:List (Key×V),vs=kvs.map (fun kv=>(kV kv.1,kv.2))∧KP K H kvs ps:=by
 induction r generalizing ps with
 | nil=>cases e; exact ⟨[],rfl,.nil⟩
 | @cons p q l1 l2 h r ih =>
  obtain ⟨x,y⟩:=q;unfold prK at e
  split at e
  ·next k ps' e1 e2 =>
   cases e;obtain ⟨kvs,rfl,r2⟩:=ih e2;obtain ⟨v1,v2⟩:=p;have ek:v1=kV k:=tU h.1 e1;subst ek;exact ⟨(k,v2)::kvs,rfl,.cons ⟨rfl,h.2⟩ r2⟩
  ·cases e
def prT:List (PV×PV)→Option (List (List Key×PV))
 | []=>some []
 | (x,y)::r=>match bM x,prT r with
  | some k,some ps=>some ((k,y)::ps)
  | _,_=>none
section
variable {X:Cx}{pos:Pos}{keys:List (Option Expr)}{values:List Expr}{cs:List (TCE×TCE)}
@[irreducible] def oR (p:Addr):List (PV×PV)→CH→K1→Prop:=fun ts C Q=>C p=some (.dK [])∧match prK ts with
 | some ps=>ps.length≤15∧Q (.ref p) (nQ C p (.dK (kG [] ps)))
 | none=>False
def cDisp (cs:List (TCE×TCE)):TCE:=fun ρ C Q=>∀ p,C p=none→ZS cs ρ (nQ C p (.dK [])) fun ts C2=>oR p ts C2 Q
theorem ce_disp (h:CPs X pos keys values cs) (hall:keys.all (·.isSome)=true:=by rfl) (hl:keys.length=values.length:=by rfl) (h0:keys≠[]:=by exact fun z=>nomatch z) (h15:keys.length≤15:=by decide):CE X (.Dict keys values pos) (cDisp cs) :=
 ⟨JE.weak ⟨pe_disp h.h hall hl h0 h15⟩ fun σ H Q ⟨ρ,C,R,s,hh,q,f⟩=>fun p hp=>by
  have k0:Imm H (upd H p (.dK [])):=Imm.new hp _;refine ZC (C:=nQ C p (.dK [])) (s.imm k0) (hh.lay hp ⟨[],eQ,.nil⟩) (q p (hh.fresh hp)) fun vs H2 ts C2 q2 r2 h2 f2 => ?_;unfold oR at q2;obtain ⟨e1,q2⟩:=q2
  split at q2
  ·next ps e2 =>
   obtain ⟨kvs,rfl,rk⟩:=prK_rep r2 e2;obtain ⟨us,eu,ru⟩:=h2 p _ e1;have z:us=[]:=by cases ru; rfl
   subst z;have m:Imm H2 (upd H2 p (.dK (vG [] kvs))):=Imm.mut eu rfl _;refine ⟨eu,kvs,rfl,by rw [Paired.length rk]; exact q2.1,?_⟩;exact f _ _ _ _ q2.2 (.ref p) (h2.put eu rfl ⟨_,eQ,Paired.mapP (KP.merge .nil rk) fun _ _ z=>⟨z.1,z.2.imm m⟩⟩) ((Fw.lay hp _ _).trans (f2.trans (Fw.put e1 _ _)))
  ·exact q2.elim⟩
@[irreducible] def cPutAllT (p:Addr):List (PV×PV)→CH→K1→Prop:=fun ts C Q=>C p=some (.dT [])∧match prT ts with
 | some ps=>ps.length≤15∧Q (.ref p) (nQ C p (.dT (mergeG [] ps)))
 | none=>False
end
theorem uG {A:Around}{k:Nat}(hr:Room k A):A.units+2 < cLine:=by have:=hr.un; omega
theorem hu0_of {A:Around}{k:Nat}(hr:Room k A):A.units < cLine:=by have:=hr.un; omega
section
variable {C:CH}{p:Addr}{Q:K1}{x y v z:PV}
theorem isTd_s {kvs:List (List Key×PV)}(m:C p=some (.dT kvs)):WP (.ref p) C:=by
 unfold WP;dsimp only;rw [m]
 trivial
theorem tix_s {kvs:List (List Key×PV)}{k:List Key}(m:C p=some (.dT kvs)) (hk:bM y=some k) (hv:iV kvs k=some v) (q:Q v C):cTIx (.ref p) y C Q:=by
 unfold cTIx;dsimp only;rw [m,hk];dsimp only;rw [hv];exact q
theorem tget_s {kvs:List (List Key×PV)}{k:List Key}(m:C p=some (.dT kvs)) (hk:bM y=some k) (hv:(iV kvs k).getD z=v) (q:Q v C):JQ (.ref p) y z C Q:=by
 unfold JQ;dsimp only;rw [m,hk];dsimp only;rw [hv];exact q
theorem Vp {kvs:List (List Key×PV)}{k:List Key}{Q:CH→Prop}(m:C p=some (.dT kvs)) (hk:bM y=some k) (h:kvs.length≤1000) (q:Q (nQ C p (.dT (putG kvs k v)))):JU (.ref p) y v C Q:=by
 unfold JU;dsimp only;rw [m,hk];exact ⟨Nat.lt_of_le_of_lt h (by decide),q⟩
theorem eJ {kvs:List (Key×PV)}{k:Key}(m:C p=some (.dK kvs)) (hk:oV y=some k) (hv:dJ kvs k=some v) (q:Q v C):sE (.ref p) y C Q:=by
 unfold sE;dsimp only;rw [m,hk];show (match dJ kvs k with | some v=>Q v C | none=>False);rw [hv];exact q
theorem getD_g {kvs:List (Key×PV)}{k:Key}(m:C p=some (.dK kvs)) (hk:oV y=some k) (hv:(dJ kvs k).getD z=v) (q:Q v C):JX (.ref p) y z C Q:=by
 unfold JX;dsimp only;rw [m,hk];show Q ((dJ kvs k).getD z) C;rw [hv];exact q
theorem wY {kvs:List (Key×PV)}{k:Key}{Q:CH→Prop}(m:C p=some (.dK kvs)) (hk:oV y=some k) (h:kvs.length≤1000) (q:Q (nQ C p (.dK (gJ kvs k v)))):oO (.ref p) y v C Q:=by
 unfold oO;dsimp only;rw [m,hk];exact ⟨Nat.lt_of_le_of_lt h (by decide),q⟩
theorem isDk_g {kvs:List (Key×PV)}(m:C p=some (.dK kvs)):WS (.ref p) C:=by
 unfold WS;dsimp only;rw [m]
 trivial
theorem dictK_s {kvs:List (Key×PV)}(m:C p=some (.dK kvs)) (q:∀ p',C p'=none→Q (.ref p') (nQ C p' (.dK kvs))):QG [.ref p] C Q:=by
 unfold QG;dsimp only;rw [m];exact q
theorem WT {neg:Bool}{ts:List PV}{w:V}{vs:List V}(h1:seqP C y=some ts) (h2:Jv x=some w) (h3:zO ts=some vs) (q:Q (.bl (if neg then !inV w vs else inV w vs)) C):cInS neg x y C Q:=by
 unfold cInS;rw [h1,h2];dsimp only;rw [h3];exact q
theorem forT_g {ce:TCE}{g:TCG}{u:TCS}{E:gU}{ρ:CSt}(h:ce ρ C fun t C1=>match t with | .tup xs=>vU g u E xs ρ C1 | .kt xs=>vU g u E xs ρ C1 | _=>False):pI ce g u E ρ C:=by
 unfold pI;exact h
end
theorem Q1 {cs:List (Str×Int)}{p:Addr}{C:CH}{Q:K1}(m:C p=some (.lst (cs.map kX))) (h:cs.length < 64) (q:∀ p',C p'=none→Q (.ref p') (nQ C p' (.lst ((lL cs).map kX)))):sR [.ref p] C Q:=by
 unfold sR;dsimp only;rw [m];dsimp only;rw [Q3];exact ⟨h,q⟩
theorem mH {i:Nat}{g:TCG}{u:TCS}{E:gU}{ρ:CSt}{C:CH}{xs:List PV}(hv:ρ[i]?=some (some (.tup xs))) (h:vU g u E xs ρ C):pI (qW i) g u E ρ C:=by
 unfold pI qW;rw [hv];exact h
theorem fX {x v:PV}{xs:List PV}{i:Int}{C:CH}{Q:K1}(h:x=.tup xs) (e:atI xs i=some v) (q:Q v C):cIx x (.int i) C Q:=by
 subst h;exact wJ e q
theorem min_s {i j:Int}{C:CH}{Q:K1}(q:Q (.int (if j < i then j else i)) C):Yu [.int i,.int j] C Q:=by
 unfold Yu;exact q
theorem max_s {i j:Int}{C:CH}{Q:K1}(q:Q (.int (if j > i then j else i)) C):Yv [.int i,.int j] C Q:=by
 unfold Yv;exact q
theorem oD {xs:List PV}{k:Nat}(h:k < xs.length):atI xs (k:Int)=some xs[k]:=by
 unfold atI ixN;rw [if_pos (by omega),if_pos (by omega)];show xs[(k:Int).toNat]?=_;rw [Int.toNat_natCast,List.getElem?_eq_getElem h]
theorem gX {x:PV}{r:List PV}:atI (x::r) 0=some x:=oD (xs:=x::r) (k:=0) (Nat.zero_lt_succ _)
theorem kK {g:TCG}{u:TCS}{E:gU}(I:List PV→CSt→CH→Prop) (step:∀ x r ρ C,I (x::r) ρ C→∀ L:CSt→CH→Prop,(∀ ρ' C',I r ρ' C'→L ρ' C')→g x ρ C fun ρ1 C1=>u { nx:=L,ct:=L,bk:=E.nx,rt:=E.rt } ρ1 C1) (fin:∀ ρ C,I [] ρ C→E.nx ρ C) :
  ∀ xs ρ C,I xs ρ C→vU g u E xs ρ C:=by
 intro xs
 induction xs with
 | nil=>intro ρ C h; exact fin ρ C h
 | cons x r ih=>intro ρ C h; exact step x r ρ C h _ ih
theorem qB {c:TCE}{ρ:CSt}{Q:K1}(I:List PV→List PV→CH→Prop) (step:∀ x r acc C,I (x::r) acc C→∀ L:K1,(∀ y C2,acc.length < sizeLine∧I r (acc++[y]) C2→L y C2)→c (some x::ρ) C L) (fin:∀ acc C,I [] acc C→∀ p,C p=none→Q (.ref p) (nQ C p (.lst acc))) :
  ∀ xs acc C,I xs acc C→zJ sD c ρ Q xs acc C:=by
 intro xs
 induction xs with
 | nil=>intro acc C h; exact fin acc C h
 | cons x r ih =>
  intro acc C h;exact step x r acc C h _ fun y C2 z=>⟨z.1,ih _ _ z.2⟩
theorem KW {S:CH→Prop}{c:TCE}{ρ:CSt}{Q:K1}(I:List PV→List PV→CH→Prop) (hS:∀ r acc C,I r acc C→S C) (step:∀ x r acc C,I (x::r) acc C→∀ L:K1,(∀ y C2,acc.length < sizeLine∧I r (acc++[y]) C2→L y C2)→c (some x::ρ) C L) (fin:∀ acc C,I [] acc C→∀ p,C p=none→Q (.ref p) (nQ C p (.lst acc))) :
  ∀ xs acc C,I xs acc C→yF S sD c ρ Q xs acc C:=by
 intro xs
 induction xs with
 | nil=>intro acc C h; exact ⟨hS _ _ _ h,fin acc C h⟩
 | cons x r ih =>
  intro acc C h;exact ⟨hS _ _ _ h,step x r acc C h _ fun y C2 z=>⟨z.1,ih _ _ z.2⟩⟩
theorem bG {C C1:CH}{p:Addr}(g:Gr C C1) (hp:C p=none) (o:CO):Gr C (nQ C1 p o):=fun b u e=>by
 rw [bQ (fun z=>by subst z; rw [hp] at e; cases e)];exact g b u e
theorem dB {C C':CH}{p:Addr}(g:Gr C C') (h:C' p=none):C p=none:=by
 cases e:C p with
 | none=>rfl
 | some o=>rw [g p o e] at h; cases h
theorem lY {n:Nat}(h:n≤1000):n≤sizeLine:=Nat.le_trans h (by decide)
theorem fL (kvs:List (Key×PV)) (k:Key) (v:PV):(gJ kvs k v).length≤kvs.length+1:=by
 unfold gJ
 split
 ·rw [List.length_map]; omega
 ·rw [List.length_append,List.length_singleton]; exact Nat.le_refl _
theorem iC (kvs:List (Key×PV)) (k:Key) (v:PV) (k':Key):dJ (gJ kvs k v) k'=if k'=k then some v else dJ kvs k':=by
 have up:∀ l:List (Key×PV),(l.any fun kv=>decide (kv.1=k))=true→dJ (l.map fun kv=>if kv.1=k then (kv.1,v) else kv) k'=if k'=k then some v else dJ l k':=by
  intro l
  induction l with
  | nil=>intro h; cases h
  | cons x l ih =>
   intro h;unfold dJ;rw [List.map_cons,List.find?_cons,List.find?_cons]
   by_cases e:x.1=k
   ·rw [if_pos e]
    by_cases e2:k'=k
    ·rw [if_pos e2]
     show (match decide (x.1=k') with | true=>some (x.1,v) | false=>_).map _=_;rw [decide_eq_true (e.trans e2.symm)]; rfl
    ·rw [if_neg e2]
     have ne:¬ x.1=k':=fun z=>e2 (z.symm.trans e);show (match decide (x.1=k') with | true=>some (x.1,v) | false=>_).map _=(match decide (x.1=k') with | true=>some x | false=>_).map _;rw [decide_eq_false ne]
     by_cases h3:(l.any fun kv=>decide (kv.1=k))=true
     ·have:=ih h3
      rw [if_neg e2] at this;exact this
     ·have:(l.map fun kv=>if kv.1=k then (kv.1,v) else kv)=l:=by
       have h4:∀ y∈l,¬ y.1=k:=fun y hy z=>h3 (List.any_eq_true.2 ⟨y,hy,decide_eq_true z⟩);exact (List.map_congr_left fun y hy=>if_neg (h4 y hy)).trans (List.map_id l)
      rw [this]
   ·rw [if_neg e]
    have h3:(l.any fun kv=>decide (kv.1=k))=true:=by
     rw [List.any_cons,decide_eq_false e,Bool.false_or] at h;exact h
    have:=ih h3
    by_cases e3:x.1=k'
    ·rw [decide_eq_true e3]
     have e2:¬ k'=k:=fun z=>e (e3.trans z);rw [if_neg e2]
    ·rw [decide_eq_false e3]
     exact this
 unfold gJ
 by_cases b:(kvs.any fun kv=>decide (kv.1=k))=true
 ·rw [if_pos b]; exact up kvs b
 ·rw [if_neg b]
  induction kvs with
  | nil =>
   unfold dJ;rw [List.nil_append,List.find?_cons]
   by_cases e2:k'=k
   ·rw [if_pos e2]
    show (match decide (k=k') with | true=>some (k,v) | false=>_).map _=_;rw [decide_eq_true e2.symm]; rfl
   ·rw [if_neg e2]
    show (match decide (k=k') with | true=>some (k,v) | false=>_).map _=_;rw [decide_eq_false (fun z=>e2 z.symm)]
  | cons x l ih =>
   rw [List.any_cons] at b;have e:¬ x.1=k:=fun e=>b (by rw [decide_eq_true e]; rfl);rw [decide_eq_false e,Bool.false_or] at b;have:=ih b;unfold dJ at this ⊢;rw [List.cons_append,List.find?_cons,List.find?_cons]
   by_cases e3:x.1=k'
   ·rw [decide_eq_true e3]
    have e2:¬ k'=k:=fun z=>e (e3.trans z);rw [if_neg e2]
   ·rw [decide_eq_false e3]
    exact this
def ExS (S:List Addr) (C C':CH):Prop:=∀ b o,b∉S→C b=some o→C' b=some o
theorem ExS.refl {S:List Addr}{C:CH}:ExS S C C:=fun _ _ _ h=>h
theorem ExS.trans {S:List Addr}{C C1 C2:CH}(h:ExS S C C1) (h':ExS S C1 C2):ExS S C C2:=fun b o n e=>h' b o n (h b o n e)
theorem ExS.mono {S S':List Addr}{C C1:CH}(h:ExS S C C1) (s:∀ b∈S,b∈S'):ExS S' C C1:=fun b o n e=>h b o (fun z=>n (s b z)) e
theorem ExS.at {S:List Addr}{C C1:CH}{p:Addr}(h:ExS S C C1) (hp:p∈S) (o:CO):ExS S C (nQ C1 p o):=fun b u n e=>by
 rw [bQ (fun z=>n (by rw [z]; exact hp))];exact h b u n e
theorem ExS.put {S:List Addr}{C C1:CH}{p:Addr}(h:ExS S C C1) (hp:C p=none) (o:CO):ExS S C (nQ C1 p o):=fun b u n e=>by
 rw [bQ (fun z=>by subst z; rw [hp] at e; cases e)];exact h b u n e
theorem ExS.none {S:List Addr}{C C':CH}{p:Addr}(g:ExS S C C') (n:p∉S) (h:C' p=none):C p=none:=by
 cases e:C p with
 | none=>rfl
 | some o=>rw [g p o n e] at h; cases h
end CL
namespace L2
open PySem PySem.Spec PyProof.Rows
def cxN (X:Cx) (xs:List Str) (scope:Scope) (cl:List (Str×Addr)) (fp:List Addr) (C:Addr) (s₂:Shared) (H₂:Hp):Cx where
 prog:=X.prog
 w:=X.w
 K:=X.K
 mg:=X.mg
 base:=X.base
 A:=X.A
 N:=xs++X.N
 s₀:=s₂
 H₀:=H₂
 env:=compEnvC scope cl C X.env
 outer:=X.stack
 stack:=X.stack
 ex:=fp
 fn:=fun _=>false
 calm:=X.calm
 pn:=[]
 xe:=fun _ _=>False
def Zi (K:PySem.W.Frag) (n:Nat) (wi:TI) (tc:TT) (te:TE):TE:=fun σ H Q=>wi σ H fun J H1=>∀ D,H1 D=none→∃ W:Nat→Nat→List V→Hp→Prop,(∃ m,W 0 m [] (upd H1 D (.lst [])))∧∀ i m ys H,W i m ys H →
 (J.stop i H∧Q (.ref D) H)∨(J.go i H∧∀ x H',J.yld i H x H'→∃ a vs,x=.ref a∧SqT K H' a vs∧vs.length=n∧tc (vs.map some++σ) H' fun b H2 =>
  if b=true then te (vs.map some++σ) H2 fun y H3=>H3 D=some (.lst ys)∧ys.length < sizeLine∧∃ m',m' < m∧W (i+1) m' (ys++[y]) (upd H3 D (.lst (ys++[y])))
  else ∃ m',m' < m∧W (i+1) m' ys H2)
section
variable {X:Cx}
structure oW (X:Cx) (xs:List Str) (scope:Scope) (cl:List (Str×Addr)):Prop where
 clos:closureFor scope X.env=pure cl
 cell:∀ y∈scope.names,y.2≠.cell
 kind:scope.kind=.function
 names:∀ y∈scope.names,y.2=.local→scope.names.lookup y.1=some .local
 hx:∀ x∈xs,scope.names.lookup x=some .local
 loc:∀ y∈scope.names,y.2=.local→y.1∉X.N
 free:∀ y∈scope.names,y.2=.free→X.env.kindOf y.1≠some .local∧(X.env.kindOf y.1=some .cell∨X.env.kindOf y.1=some .free)∧∃ c,cl.lookup y.1=some c
 cl:∀ y c,cl.lookup y=some c→X.env.cells.lookup y=some c
theorem mC {elt iter tg:Expr}{xs:List Str}{pos:Pos}{ifs:List Expr}{scope:Scope}{cl:List (Str×Addr)}{tc:TT}{te:TE}{g:TG}{RR:Value→Addr→Result→Shared→Prop}{EE:Value→Shared→Prop}
  (hc:X.calm=true) (K:oW X xs scope cl) (hg:∀ fp C s₂ H₂,PG (cxN X xs scope cl fp C s₂ H₂) tg g)
  (ht:∀ fp C s₂ H₂,ZX (cxN X xs scope cl fp C s₂ H₂) ifs tc) (he:∀ fp C s₂ H₂,PE (cxN X xs scope cl fp C s₂ H₂) elt te)
  {pins:List (Addr×Obj)} {σ:St} {s₂:Shared} {H₂:Hp} {it:Addr} {fp:List Addr} {tn:Nat→Heap→Prop} {J:It} {Q:VK}
  (hG:∀ ws vs a H Q,ws.length=xs.length→SqT X.K H a vs→vs.length=xs.length→Q (vs.map some++σ) H→g (.ref a) (ws++σ) H Q) (I₂:Inv X pins σ H₂ s₂) (T:X8 X.prog X.w X.K tg J fp it tn) (st₂:tn 0 s₂.heap) (f₂:∀ b∈fp,tE X pins H₂ b)
  (R:∀ D,H₂ D=none→∃ W:Nat→Nat→List V→Hp→Prop,(∃ m,W 0 m [] (upd H₂ D (.lst [])))∧∀ i m ys H,W i m ys H →
   (J.stop i H∧Q (.ref D) H)∨(J.go i H∧∀ x H',J.yld i H x H'→∃ a vs,x=.ref a∧SqT X.K H' a vs∧vs.length=xs.length∧tc (vs.map some++σ) H' fun b H2 =>
    if b=true then te (vs.map some++σ) H2 fun y H3=>H3 D=some (.lst ys)∧ys.length < sizeLine∧∃ m',m' < m∧W (i+1) m' (ys++[y]) (upd H3 D (.lst (ys++[y])))
    else ∃ m',m' < m∧W (i+1) m' ys H2))
  (hRR:∀ (D C:Addr) (H:Hp) (s4:Shared) (m:Str→Option Value),s4.heap.Ns C m→C≠X.env.locals→H C=none→(∀ x c,X.env.cells.lookup x=some c→c≠C)→s₂.heap.objs.size≤C→Inv X pins σ H s4 →
   Q (.ref D) H→RR (.ref D) C (.ok .next) s4) :
  wpAny (model X.prog X.w) X.A (newList []) (fun acc s₃=>wpAny (model X.prog X.w) X.A (newFunctionEnv scope X.env.globals cl [] X.env.qual none .none (some X.env)) (fun cenv s₄ =>
   codeAny (model X.prog X.w) X.A (.compStart (.ListComp elt [⟨tg,iter,ifs,0⟩] scope pos) 0 (.ref it) acc { cenv with scope:=relabel scope X.env }) (RR acc cenv.locals) s₄) EE s₃) EE s₂:=by
 refine wpAny_newObj_type (wpAny_newFunctionEnv K.cell (by intro y hy; simp at hy) (fun h₁ hns₁ hsb₁ => ?_) K.kind);dsimp only at hns₁ hsb₁ ⊢;generalize hH2:s₂.heap.push { cls:=.type "list",dict:=none,data:=.seq ([]:List Value).toArray }=H2 at hns₁ hsb₁ ⊢;have hC:H2.objs.size=s₂.heap.objs.size+1:=by rw [← hH2,Heap.size_push]
 have hDC:s₂.heap.objs.size≠H2.objs.size:=by rw [hC]; exact Nat.ne_of_lt (Nat.lt_succ_self _)
 have below:∀ b,b < s₂.heap.objs.size→b≠H2.objs.size∧b≠s₂.heap.objs.size:=fun b hb=>⟨by rw [hC]; exact Nat.ne_of_lt (Nat.lt_succ_of_lt hb),Nat.ne_of_lt hb⟩;have old:∀ b o,s₂.heap.get? b=some o→h₁.get? b=some o:=fun b o e=>hsb₁.extBut b o (below b (Heap.lt_size e)).1 (Heap.get?_push_of_some _ (hH2▸Heap.get?_push_of_some _ e));have hacc:h₁.get? s₂.heap.objs.size=some { cls:=.type "list",dict:=none,data:=.seq ([]:List Value).toArray }:=hsb₁.extBut _ _ hDC (Heap.get?_push_of_some _ (hH2▸Heap.get?_push_size _ rfl))
 have fD:H₂ s₂.heap.objs.size=none:=I₂.hok.fresh (Nat.le_refl _);have fC:H₂ H2.objs.size=none:=I₂.hok.fresh (by rw [hC]; exact Nat.le_succ _);have fpLt:∀ b∈fp,b < s₂.heap.objs.size:=fun b hb=>let ⟨o,e,_⟩:=T.obj _ _ st₂ b hb; Heap.lt_size e
 obtain ⟨W,⟨m0,w0⟩,turn⟩:=R s₂.heap.objs.size fD
 have okX:(cxN X xs scope cl fp H2.objs.size s₂ H₂).Ok:=by
  refine ⟨I₂.ok.mod,K.kind,I₂.ok.glob,I₂.ok.blt,?_,fun y z c h1 h2=>I₂.ok.inj y z c (K.cl y c h1) (K.cl z c h2),fun y hy => ?_,fun y c h _ => ?_,I₂.ok.hd,I₂.ok.frames,.inl rfl,fun b hb=>⟨(below b (fpLt b hb)).1,fun y c h=>(f₂ b hb).2.2.2.2.1 y c (K.cl y c h)⟩,I₂.bs,
   Nat.le_trans I₂.ok.bsz I₂.sz,fun b o e hb => ?_,fun b hb z => ?_,I₂.stack,I₂.stkFree⟩
  ·show s₂.heap.objs.size≤H2.objs.size
   rw [hC]; exact Nat.le_succ _
  ·have hy':(scope.names.map fun (n,k)=>if (k==NameKind.free&&X.env.scope.kind==.function&&X.env.kindOf n==some .cell) then (n,NameKind.cell) else (n,k)).lookup y=some .cell ∨
     (scope.names.map fun (n,k)=>if (k==NameKind.free&&X.env.scope.kind==.function&&X.env.kindOf n==some .cell) then (n,NameKind.cell) else (n,k)).lookup y=some .free:=hy
   have fr:(y,NameKind.free)∈scope.names:=by
    rcases hy' with q | q
    ·obtain ⟨k0,hm,z | ⟨z,_⟩⟩:=rZ q
     ·subst z; exact absurd rfl (K.cell _ hm)
     ·subst z; exact hm
    ·obtain ⟨k0,hm,z | ⟨z,w⟩⟩:=rZ q
     ·subst z; exact hm
     ·cases w
   exact (K.free _ fr rfl).2.2
  ·exact absurd (show false=true from h) Bool.false_ne_true
  ·obtain ⟨_,_,_,f3,_⟩:=f₂ b hb
   rcases f3 with z | z
   ·exact I₂.ok.noex b o e z
   ·exact absurd (Nat.lt_of_lt_of_le (Heap.lt_size (I₂.ok.bs b o e).1) z) (Nat.lt_irrefl _)
  ·obtain ⟨_,f1,f2',_⟩:=f₂ b hb
   rcases List.mem_cons.mp (I₂.stkSub b z) with q | q
   ·exact f1 q
   ·exact f2' q
 have hDne:∀ b,H₂ b≠none→b≠s₂.heap.objs.size:=fun b hb z=>hb (z▸fD);have ldD:HOk X.prog X.w (upd H₂ s₂.heap.objs.size (.lst [])) h₁:=I₂.hok.laid old (Nat.le_refl _) ⟨Nat.zero_le _,[],_,.nil,hacc⟩
 have visFree:∀ y,Vis (relabel scope X.env) y→y∈X.N→(y,NameKind.free)∈scope.names∧((relabel scope X.env).names.lookup y=some .cell∨(relabel scope X.env).names.lookup y=some .free):=by
  intro y hv hne
  rcases hv with q | q | q
  ·obtain ⟨k0,hm,z | ⟨z,w⟩⟩:=rZ (env:=X.env) (show (scope.names.map _).lookup y=_ from q)
   ·subst z; exact absurd hne (K.loc _ hm rfl)
   ·cases w
  ·obtain ⟨k0,hm,z | ⟨z,w⟩⟩:=rZ (env:=X.env) (show (scope.names.map _).lookup y=_ from q)
   ·subst z; exact absurd rfl (K.cell _ hm)
   ·subst z; exact ⟨hm,.inl q⟩
  ·obtain ⟨k0,hm,z | ⟨z,w⟩⟩:=rZ (env:=X.env) (show (scope.names.map _).lookup y=_ from q)
   ·subst z; exact ⟨hm,.inr q⟩
   ·cases w
 have I':∀ tk,Inv (cxN X xs scope cl fp H2.objs.size s₂ H₂) [] (List.replicate xs.length none++σ) (upd H₂ s₂.heap.objs.size (.lst [])) { s₂ with heap:=h₁,toks:=tk }:=by
  intro tk;refine ⟨okX,rfl,I₂.bare,Un.laid old (Nat.le_refl _) fD,⟨_,hns₁,fun i y v h1 h2 h3 => ?_⟩,fun y c h => ?_,?_,fun y c h => ?_,fun p hp=>absurd hp (by simp [cxN]),ldD,?_⟩
  ·rcases Nat.lt_or_ge i xs.length with hi | hi
   ·rw [List.getElem?_append_left (by rw [List.length_replicate]; exact hi),List.getElem?_replicate,if_pos hi] at h2
    cases h2
   ·have h1':X.N[i - xs.length]?=some y:=by
     have h1:(xs++X.N)[i]?=some y:=h1;rw [List.getElem?_append_right hi] at h1; exact h1
    have h2':σ[i - xs.length]?=some (some v):=by
     rw [List.getElem?_append_right (by rw [List.length_replicate]; exact hi),List.length_replicate] at h2; exact h2
    have hne:y∈X.N:=List.mem_of_getElem? h1';obtain ⟨fm,kk⟩:=visFree y h3 hne;obtain ⟨nl,vz,c,hcl⟩:=K.free _ fm rfl;obtain ⟨mm,hn,hl⟩:=I₂.loc;obtain ⟨u,ru,l⟩:=hl (i - xs.length) y v h1' h2' (vz.elim (fun z=>.inr (.inl z)) fun z=>.inr (.inr z))
    rcases l with ⟨z,_⟩ | ⟨_,c',hc',hcell⟩
    ·exact absurd z nl
    ·have ec:c'=c:=Option.some.inj (hc'.symm.trans (K.cl _ _ hcl))
     subst ec;obtain ⟨o,ho,hd⟩:=hcell;exact ⟨u,ru,.inr ⟨kk,c',hcl,o,old _ _ ho,hd⟩⟩
  ·obtain ⟨v,o,ho,hd⟩:=I₂.cell y c (K.cl y c h)
   exact ⟨v,o,old _ _ ho,hd⟩
  ·show upd H₂ _ _ H2.objs.size=none
   rw [aQ (Ne.symm hDC)]; exact fC
  ·show upd H₂ _ _ c=none
   obtain ⟨v,o,ho,hd⟩:=I₂.cell y c (K.cl y c h);rw [aQ (below c (Heap.lt_size ho)).2]; exact I₂.freeC y c (K.cl y c h)
  ·show (List.replicate xs.length none++σ).length=(xs++X.N).length
   rw [List.length_append,List.length_append,List.length_replicate,I₂.len]
 have stat:∀ {H':Hp},(∀ b∈fp,H' b=none)→∀ b∈fp,tE (cxN X xs scope cl fp H2.objs.size s₂ H₂) [] H' b:=fun hn b hb =>
  ⟨hn b hb,(okX.exf b hb).1,okX.exfs b hb,.inl hb,(okX.exf b hb).2,fun p hp=>absurd hp (by simp [cxN])⟩
 have tn₁:tn 0 h₁:=T.keep _ _ _ st₂ fun b _ o e=>old b o e;have fp₁:∀ b∈fp,upd H₂ s₂.heap.objs.size (.lst []) b=none:=fun b hb=>by rw [aQ (below b (fpLt b hb)).2]; exact (f₂ b hb).1
 have loop:∀ s₃:Shared,(∃ tk,s₃={ s₂ with heap:=h₁,toks:=tk }) →
   codeAny (model X.prog X.w) X.A (.compLoop (.ListComp elt [⟨tg,iter,ifs,0⟩] scope pos) 0 (.ref it) (.ref s₂.heap.objs.size) (compEnvC scope cl H2.objs.size X.env))
    (RR (.ref s₂.heap.objs.size) H2.objs.size) s₃:=by
  rintro s₃ ⟨tk,rfl⟩
  refine uP (fun n s'=>∃ i ys H' v0,v0.length=xs.length∧Inv (cxN X xs scope cl fp H2.objs.size s₂ H₂) [] (v0++σ) H' s'∧tn i s'.heap∧(∀ b∈fp,H' b=none)∧W i n ys H') ?_ m0
   ⟨0,[],_,List.replicate xs.length none,List.length_replicate,I' tk,tn₁,fp₁,w0⟩
  rintro n s3 ⟨i,ys,H3,v0,l0,I3,st3,fr3,w3⟩
  rcases turn i n ys H3 w3 with ⟨stop,qn⟩ | ⟨go,step⟩
  ·refine thn (T.done (cxN X xs scope cl fp H2.objs.size s₂ H₂) rfl rfl rfl hc i [] s3 (v0++σ) H3 (fun _ _=>False) I3 (stat fr3) st3 stop) fun r s4 ⟨hr,I4⟩ => ?_
   subst hr;show RR _ _ (.ok .next) s4;obtain ⟨m,hn,_⟩:=I4.loc;have un:=I4.base;have os4:s4.os=s₂.os:=I4.os;refine hRR _ _ H3 s4 m hn ?_ I4.free (fun y c h z => ?_) (by rw [hC]; exact Nat.le_succ _) ?_ qn
   ·exact Ne.symm (below _ I₂.lt).1
   ·obtain ⟨v,o,ho,hd⟩:=I₂.cell y c h
    exact (below c (Heap.lt_size ho)).1 z
   ·obtain ⟨hh,g,d,t,os'⟩:=s4
    obtain rfl:os'=s₂.os:=os4;exact I₂.call (h':=hh) (g':=g) (d':=d) (t':=t) (ch:=fp) un I4.hok I4.bare fun b hb=>⟨(f₂ b hb).2.2.2.1,(f₂ b hb).2.1,(f₂ b hb).2.2.2.2.1,(f₂ b hb).2.2.2.2.2⟩
  ·refine thn (T.item (cxN X xs scope cl fp H2.objs.size s₂ H₂) rfl rfl rfl hc i [] s3 (v0++σ) H3 (fun _ _=>False) I3 (stat fr3) st3 go) fun r s4 ⟨u,hr,h4⟩ => ?_
   subst hr;refine thn h4 fun _ s5 ⟨x5,H5,I5,r5,y5,st5,fr5⟩ => ?_;have I5':=I5.pinned (stat fr5) (T.obj _ _ st5)
   have again:∀ {H':Hp} {s':Shared} {τ:St},Inv (cxN X xs scope cl fp H2.objs.size s₂ H₂) ([]++zH fp s5.heap) τ H' s'→tn (i+1) s'.heap∧∀ b∈fp,H' b=none:=fun I7 =>
    ⟨T.keep _ _ _ st5 fun b hb o e=>(I7.pin (b,o) (List.mem_append_right _ (List.mem_append_right _ (lW hb e)))).1,fun b hb=>by
     obtain ⟨o,e,d⟩:=T.obj _ _ st5 b hb
     exact (I7.pin (b,o) (List.mem_append_right _ (List.mem_append_right _ (lW hb e)))).2.1⟩
   obtain ⟨a5,vs5,z5,sq5,l5,q5⟩:=step x5 H5 y5;subst z5;refine thn (hg fp _ s₂ H₂ _ s5 (v0++σ) H5 (.ref a5) u (fun σ' H'=>σ'=vs5.map some++σ∧H'=H5) I5' r5 (hG v0 vs5 a5 H5 _ l0 sq5 l5 ⟨rfl,rfl⟩)) fun _ s6 ⟨σ6,H6,I6,e6,e6'⟩ => ?_;subst e6 e6';have l6:(vs5.map some).length=xs.length:=by rw [List.length_map]; exact l5
   refine thn (ht fp _ s₂ H₂ _ s6 (vs5.map some++σ) H6 _ I6 q5) fun ok s7 ⟨H7,I7,q7⟩ => ?_
   cases ok with
   | false =>
    rw [if_neg Bool.false_ne_true] at q7;rw [if_neg Bool.false_ne_true];obtain ⟨m',hm,w7⟩:=q7;obtain ⟨k1,k2⟩:=again I7;exact ⟨m',hm,i+1,ys,H7,vs5.map some,l6,I7.unpinned,k1,k2,w7⟩
   | true =>
    rw [if_pos rfl] at q7;rw [if_pos rfl];refine thn (he fp _ s₂ H₂ _ s7 (vs5.map some++σ) H7 _ I7 q7) fun y s8 ⟨y8,H8,I8,r8,hD8,hl8,m',hm,w8⟩ => ?_;refine thn (pJ (X:=cxN X xs scope cl fp H2.objs.size s₂ H₂) _ s8 _ H8 (.ref s₂.heap.objs.size) [y8] (.ref s₂.heap.objs.size) [y] (fun _ H9=>H9=upd H8 s₂.heap.objs.size (.lst (ys++[y8]))) I8 rfl (.cons r8 .nil) ⟨_,ys,y8,rfl,rfl,hD8,hl8,rfl⟩) fun _ s9 ⟨_,H9,I9,_,e9⟩ => ?_
    subst e9;obtain ⟨k1,k2⟩:=again I9;exact ⟨m',hm,i+1,ys++[y8],_,vs5.map some,l6,I9.unpinned,k1,k2,w8⟩
 exact codeAny_compStart_list (loop _ ⟨_,rfl⟩) (T.self _ 0 _ _ _ tn₁ (loop _ ⟨_,rfl⟩))
theorem V1 {elt iter tg:Expr}{xs:List Str}{pos:Pos}{ifs:List Expr}{scope:Scope}{cl:List (Str×Addr)}{wi:TI}{tc:TT}{te:TE}{g:TG}
  (hc:X.calm=true) (K:oW X xs scope cl) (hg:∀ fp C s₂ H₂,PG (cxN X xs scope cl fp C s₂ H₂) tg g) (hG:∀ ws vs a σ H Q,ws.length=xs.length→SqT X.K H a vs→vs.length=xs.length→Q (vs.map some++σ) H→g (.ref a) (ws++σ) H Q) (hi:PI X tg iter wi)
  (ht:∀ fp C s₂ H₂,ZX (cxN X xs scope cl fp C s₂ H₂) ifs tc) (he:∀ fp C s₂ H₂,PE (cxN X xs scope cl fp C s₂ H₂) elt te)
  (hs:∀ v,foldedSetIterable iter X.env v=pure v:=by intro _; rfl):PE X (.ListComp elt [⟨tg,iter,ifs,0⟩] scope pos) (Zi X.K xs.length wi tc te):=by
 intro pins s σ H Q I h;rw [eval_ListComp];refine wpAny_comprehension_free (use:=none) rfl hs K.clos K.kind K.names (thn (hi pins s σ H _ I h) fun xv s₁ h₁=>thn h₁ fun itv s₂ h₂ => ?_);obtain ⟨it,fp,tn,J,H₂,e,I₂,T,st₂,f₂,R⟩:=h₂;subst e;refine mC hc K hg ht he (fun ws vs a H Q=>hG ws vs a σ H Q) I₂ T st₂ f₂ R ?_;intro D C H s4 m hn hCL hC0 hCc hCsz I4 q;refine ⟨m,hn,fun h' hsb=>⟨.ref D,H,?_,rfl,q⟩⟩
 refine I4.turned (it:=C) (t':=s4.toks) (fun b o hb e=>(hsb.2 b hb).trans e) hC0 hCL (.inr (Nat.le_trans I₂.sz hCsz)) hCc fun p hp z => ?_;exact absurd (Nat.lt_of_lt_of_le (Heap.lt_size (I₂.pin p hp).1) (by rw [z]; exact hCsz)) (Nat.lt_irrefl _)
end
def XZ (xs:List Str) (scope:Scope) (N:List Str) (sc:Scope):Bool :=
 scope.names.all (fun y=>decide (y.2≠.cell)&&(decide (y.2≠.free) || decide (sc.names.lookup y.1=some .cell))&&(decide (y.2≠.local) || (decide (scope.names.lookup y.1=some .local)&&decide (y.1∉N))))&&decide (scope.kind=.function)&&xs.all (fun x=>decide (scope.names.lookup x=some .local))
theorem yP {X:Cx}{xs:List Str}{scope sc:Scope}{N:List Str}{L:Nat}(hN:X.N=N) (hsc:X.env.scope=sc) (hce:X.env.cells=cellsFrom L sc.names []) (h:XZ xs scope N sc=true):∃ cl,oW X xs scope cl:=by
 subst hN hsc;unfold XZ at h;rw [Bool.and_eq_true,Bool.and_eq_true,List.all_eq_true] at h;obtain ⟨⟨h1,h2⟩,h3⟩:=h
 have get:∀ y∈scope.names,y.2≠.cell∧(y.2=.free→X.env.scope.names.lookup y.1=some .cell)∧(y.2=.local→scope.names.lookup y.1=some .local∧y.1∉X.N):=fun y hy=>by
  have q:=h1 y hy;rw [Bool.and_eq_true,Bool.and_eq_true,Bool.or_eq_true,Bool.or_eq_true,Bool.and_eq_true] at q;obtain ⟨⟨q1,q2⟩,q3⟩:=q;refine ⟨of_decide_eq_true q1,fun e => ?_,fun e => ?_⟩
  ·rcases q2 with q2 | q2
   ·exact absurd e (of_decide_eq_true q2)
   ·exact of_decide_eq_true q2
  ·rcases q3 with q3 | ⟨q3,q4⟩
   ·exact absurd e (of_decide_eq_true q3)
   ·exact ⟨of_decide_eq_true q3,of_decide_eq_true q4⟩
 obtain ⟨cl,e,k1,k2,_⟩:=zM (env:=X.env) scope.names [] (fun y hy hf=>by rw [hce]; exact mP ((get y hy).2.1 hf)) (fun y c z=>by simp at z);refine ⟨cl,⟨?_,fun y hy=>(get y hy).1,of_decide_eq_true h2,fun y hy q=>((get y hy).2.2 q).1,fun x hx=>of_decide_eq_true (List.all_eq_true.1 h3 x hx),fun y hy q=>((get y hy).2.2 q).2,fun y hy q=>⟨?_,.inl ((get y hy).2.1 q),k2 y hy q⟩,k1⟩⟩
 ·unfold closureFor
  have e':=congrArg (fun m:Sem (List (Str×Addr))=>m >>= fun cs=>(pure cs:Sem (List (Str×Addr)))) e
  simp only [pure_bind] at e'
  exact e'
 ·show X.env.scope.names.lookup y.1≠some .local
  rw [(get y hy).2.1 q]
  decide
end L2
namespace CL
open PySem PySem.Spec L2 PySem.W
open PyProof.Rows hiding St
def iF (n:Nat) (t:TCT) (c:TCE) (ρ:CSt) (Q:K1):List PV→List PV→CH→Prop
 | [],acc,C=>∀ p,C p=none→Q (.ref p) (nQ C p (.lst acc))
 | x::r,acc,C=>∃ ts,x=.tup ts∧ts.length=n∧t (ts.map some++ρ) C fun b C1=>if b=true then c (ts.map some++ρ) C1 fun y C2=>acc.length < sizeLine∧iF n t c ρ Q r (acc++[y]) C2 else iF n t c ρ Q r acc C1
theorem aI {K:PySem.W.Frag}{H:Hp}:∀ {vs:List V}{ts:List PV},Reps K H vs ts→SRel K H (vs.map some) (ts.map some)
 | _,_,.nil=>.nil
 | _,_,.cons h r=>.cons h (aI r)
theorem SRel.app {K:PySem.W.Frag}{H:Hp}{σ τ:St}{ρ π:CSt}(h:SRel K H σ ρ) (h':SRel K H τ π):SRel K H (σ++τ) (ρ++π):=by
 induction h with
 | nil=>exact h'
 | cons a _ ih=>exact .cons a ih
theorem Yf {n:Nat}{K:PySem.W.Frag}{H H0:Hp}{C C0:CH}{σ:St}{ρ:CSt}{J:It}{ps:List PV}{t:TCT}{c:TCE}{R:K1}{Q:VK}(j:ZY K H J ps) (s:SRel K H σ ρ) (h:HRel K H C) (q:iF n t c ρ R ps [] C)
  (h0:HRel K H0 C0) (f0:Fw H0 C0 H C) (f:∀ v H' p C',R p C'→Rep K H' v p→HRel K H' C'→Fw H0 C0 H' C'→Q v H') {D:Addr} (hD:H D=none) :
  ∃ W:Nat→Nat→List V→Hp→Prop,(∃ m,W 0 m [] (upd H D (.lst [])))∧∀ i m ys H,W i m ys H →
   (J.stop i H∧Q (.ref D) H)∨(J.go i H∧∀ x H',J.yld i H x H'→∃ a vs,x=.ref a∧SqT K H' a vs∧vs.length=n∧jK K mL t (vs.map some++σ) H' fun b H2 =>
    if b=true then jK K (Rep K) c (vs.map some++σ) H2 fun y H3=>H3 D=some (.lst ys)∧ys.length < sizeLine∧∃ m',m' < m∧W (i+1) m' (ys++[y]) (upd H3 D (.lst (ys++[y])))
    else ∃ m',m' < m∧W (i+1) m' ys H2):=by
 have fD:∀ {H':Hp} {C':CH},Fw H C H' C'→True:=fun _=>trivial
 refine ⟨fun i m ys H'=>m=ps.length - i∧i≤ps.length∧∃ acc C',H' D=some (.lst ys)∧C' D=none∧Reps K H' ys acc∧HRel K H' C'∧Fw H C H' C'∧iF n t c ρ R (ps.drop i) acc C',
  ⟨ps.length,rfl,Nat.zero_le _,[],C,eQ,h.fresh hD,.nil,h.new hD _,Fw.new hD _,q⟩,?_⟩
 rintro i m ys H1 ⟨rfl,hi,acc,C1,e1,n1,r1,h1,f1,q1⟩;have k1:Imm H H1:=f1.imm h
 by_cases hlt:i < ps.length
 ·refine .inr ⟨j.go i H1 hlt k1,fun x H2 y => ?_⟩
  obtain ⟨rfl,y⟩:=j.yl i H1 x H2 k1 y;have rx:=y _ (List.getElem?_eq_getElem hlt);rw [List.drop_eq_getElem_cons hlt] at q1;obtain ⟨ts,ets,hn,q1⟩:=q1;rw [ets] at rx
  obtain ⟨a5,vs5,z5,sq5,rs5⟩:∃ a vs,x=.ref a∧SqT K H2 a vs∧Reps K H2 vs ts:=by
   cases rx with
   | tup e r=>exact ⟨_,_,rfl,SqT.of e,r⟩
  refine ⟨a5,vs5,z5,sq5,rs5.len.trans hn,?_⟩;refine ⟨ts.map some++ρ,C1,_,(aI rs5).app (s.imm k1),h1,q1,fun b H3 b' C3 q3 e h3 f3 => ?_⟩;cases e;obtain ⟨n3,e3⟩:=f3 D (by rw [n1]; rfl) (by rw [e1]; exact fun z=>nomatch z);rw [e1] at e3;rw [n1] at n3;have k3:=f3.imm h1
  cases b with
  | true =>
   rw [if_pos rfl] at q3 ⊢;refine ⟨ts.map some++ρ,C3,_,(aI (rs5.imm k3)).app ((s.imm k1).imm k3),h3,q3,fun v H4 p C4 q4 r4 h4 f4 => ?_⟩;obtain ⟨n4,e4⟩:=f4 D (by rw [n3]; rfl) (by rw [e3]; exact fun z=>nomatch z);rw [e3] at e4;rw [n3] at n4;have k4:=f4.imm h3;have m4:Imm H4 (upd H4 D (.lst (ys++[v]))):=Imm.mut e4 rfl _;refine ⟨e4,by rw [r1.len]; exact q4.1,ps.length - (i+1),by omega,rfl,hlt,acc++[p],C4,eQ,n4,?_,?_,?_,q4.2⟩
   ·exact (((r1.imm k3).imm k4).append (.cons r4 .nil)).imm m4
   ·intro a o ca
    have ne:a≠D:=fun z=>by subst z; rw [n4] at ca; cases ca
    exact (h4 a o ca).imm m4 (aQ ne)
   ·intro a ca na
    have ne:a≠D:=fun z=>na (z▸hD);obtain ⟨x1,x2⟩:=(f1.trans (f3.trans f4)) a ca na;exact ⟨x1,(aQ ne).trans x2⟩
  | false =>
   rw [if_neg Bool.false_ne_true] at q3 ⊢;exact ⟨ps.length - (i+1),by omega,rfl,hlt,acc,C3,e3,n3,r1.imm k3,h3,f1.trans f3,q3⟩
 ·have e:i=ps.length:=by omega
  subst e;rw [List.drop_length] at q1;refine .inl ⟨j.st H1 k1,f (.ref D) H1 (.ref D) _ (q1 D n1) (.ref D) ?_ ?_⟩
  ·intro a o ca
   by_cases z:a=D
   ·subst z; rw [xQ] at ca; cases ca; exact ⟨ys,e1,r1⟩
   ·rw [bQ z] at ca; exact h1 a o ca
  ·intro a ca na
   obtain ⟨x1,x2⟩:=f0 a ca na;have na':H a≠none:=by rw [x2]; exact na
   have ne:a≠D:=fun z=>na' (z▸hD);obtain ⟨y1,y2⟩:=f1 a (by rw [x1]; exact ca) na';exact ⟨(bQ ne).trans (y1.trans x1),y2.trans x2⟩
section
variable {X:Cx}{pos:Pos}
def QI (n:Nat) (ci:CSt→CH→(List PV→CH→Prop)→Prop) (t:TCT) (c:TCE):TCE:=fun ρ C Q=>ci ρ C fun ps C1=>iF n t c ρ Q ps [] C1
theorem nT {n:Nat}{wi:TI}{tg it:Expr}{ci:CSt→CH→(List PV→CH→Prop)→Prop}{t:TCT}{c:TCE}(hi:CI X tg it wi ci) {σ:St}{H:Hp}{Q:VK}(h:jK X.K (Rep X.K) (QI n ci t c) σ H Q):Zi X.K n wi (jK X.K mL t) (jK X.K (Rep X.K) c) σ H Q:=by
 obtain ⟨ρ,C,R,s,h,q,f⟩:=h;exact hi.w σ H ρ C _ _ s h q fun J H' ps C' q' j h' f' D hD=>Yf j (s.imm (f'.imm h)) h' q' h f' f hD
def GOk (K:PySem.W.Frag) (n:Nat) (g:TG):Prop:=∀ (ws:St) (vs:List V) (a:Addr) (σ:St) (H:Hp) (Q:St→Hp→Prop),ws.length=n→SqT K H a vs→vs.length=n→Q (vs.map some++σ) H→g (.ref a) (ws++σ) H Q
theorem Yl {elt iter tg:Expr}{xs:List Str}{ifs:List Expr}{scope:Scope}{wi:TI}{ci:CSt→CH→(List PV→CH→Prop)→Prop}{t:TCT}{c:TCE}{g:TG}
  (hc:X.calm=true) (K:∃ cl,oW X xs scope cl) (hg:∀ cl fp C s₂ H₂,oW X xs scope cl→PG (cxN X xs scope cl fp C s₂ H₂) tg g) (hG:GOk X.K xs.length g) (hi:CI X tg iter wi ci)
  (ht:∀ cl fp C s₂ H₂,CF (cxN X xs scope cl fp C s₂ H₂) ifs t) (he:∀ cl fp C s₂ H₂,CE (cxN X xs scope cl fp C s₂ H₂) elt c)
  (hs:∀ v,foldedSetIterable iter X.env v=pure v:=by intro _; rfl):CE X (.ListComp elt [⟨tg,iter,ifs,0⟩] scope pos) (QI xs.length ci t c):=by
 obtain ⟨cl,K⟩:=K;exact ⟨JE.weak ⟨V1 (pos:=pos) hc K (fun fp C s₂ H₂=>hg cl fp C s₂ H₂ K) hG hi.j.h (fun fp C s₂ H₂=>(ht cl fp C s₂ H₂).h.h) (fun fp C s₂ H₂=>(he cl fp C s₂ H₂).h.h) hs⟩ fun _ _ _ h=>nT hi h⟩
abbrev g2 (K:PySem.W.Frag):TG:=gTup K 2 (qO (uM 0) (qO (uM 1) gNil))
abbrev g3 (K:PySem.W.Frag):TG:=gTup K 3 (qO (uM 0) (qO (uM 1) (qO (uM 2) gNil)))
theorem gok2 {K:PySem.W.Frag}:GOk K 2 (g2 K):=by
 intro ws vs a σ H Q h1 h2 h3 q
 obtain ⟨w0,w1,rfl⟩:∃ w0 w1,ws=[w0,w1]:=by
  match ws,h1 with
  | [w0,w1],_=>exact ⟨w0,w1,rfl⟩
 match vs,h3 with
 | [v0,v1],_=>exact ⟨a,[v0,v1],rfl,h2,rfl,v0,[v1],rfl,v1,[],rfl,rfl,q⟩
theorem gok3 {K:PySem.W.Frag}:GOk K 3 (g3 K):=by
 intro ws vs a σ H Q h1 h2 h3 q
 obtain ⟨w0,w1,w2,rfl⟩:∃ w0 w1 w2,ws=[w0,w1,w2]:=by
  match ws,h1 with
  | [w0,w1,w2],_=>exact ⟨w0,w1,w2,rfl⟩
 match vs,h3 with
 | [v0,v1,v2],_=>exact ⟨a,[v0,v1,v2],rfl,h2,rfl,v0,[v1,v2],rfl,v1,[v2],rfl,v2,[],rfl,rfl,q⟩
theorem pg2 {x y:Str}{scope:Scope}{cl:List (Str×Addr)}{fp:List Addr}{C:Addr}{s₂:Shared}{H₂:Hp}{p1 p2 p:Pos}{k:Nat}(hc:X.calm=true) (hN:(x::y::X.N).Nodup) (K:oW X [x,y] scope cl) :
  PG (cxN X [x,y] scope cl fp C s₂ H₂) (.Tuple [.Name x p1,.Name y p2] k p) (g2 X.K) :=
 have l1:=lookup_relabel_local (env:=X.env) (K.hx x (by simp));have l2:=lookup_relabel_local (env:=X.env) (K.hx y (by simp))
 Zr (X:=cxN X [x,y] scope cl fp C s₂ H₂) hc (hU (wB (i:=0) hN rfl (.inl l1) (.inr l1)) (hU (wB (i:=1) hN rfl (.inl l2) (.inr l2)) Qa))
theorem pg3 {x y z:Str}{scope:Scope}{cl:List (Str×Addr)}{fp:List Addr}{C:Addr}{s₂:Shared}{H₂:Hp}{p1 p2 p3 p:Pos}{k:Nat}(hc:X.calm=true) (hN:(x::y::z::X.N).Nodup) (K:oW X [x,y,z] scope cl) :
  PG (cxN X [x,y,z] scope cl fp C s₂ H₂) (.Tuple [.Name x p1,.Name y p2,.Name z p3] k p) (g3 X.K) :=
 have l1:=lookup_relabel_local (env:=X.env) (K.hx x (by simp));have l2:=lookup_relabel_local (env:=X.env) (K.hx y (by simp));have l3:=lookup_relabel_local (env:=X.env) (K.hx z (by simp))
 Zr (X:=cxN X [x,y,z] scope cl fp C s₂ H₂) hc (hU (wB (i:=0) hN rfl (.inl l1) (.inr l1)) (hU (wB (i:=1) hN rfl (.inl l2) (.inr l2)) (hU (wB (i:=2) hN rfl (.inl l3) (.inr l3)) Qa)))
theorem lO {elt iter:Expr}{x y:Str}{ifs:List Expr}{scope:Scope}{wi:TI}{ci:CSt→CH→(List PV→CH→Prop)→Prop}{t:TCT}{c:TCE}{p1 p2 p:Pos}{k:Nat}
  (hc:X.calm=true) (hN:(x::y::X.N).Nodup) (K:∃ cl,oW X [x,y] scope cl) (hi:CI X (.Tuple [.Name x p1,.Name y p2] k p) iter wi ci)
  (ht:∀ cl fp C s₂ H₂,CF (cxN X [x,y] scope cl fp C s₂ H₂) ifs t) (he:∀ cl fp C s₂ H₂,CE (cxN X [x,y] scope cl fp C s₂ H₂) elt c)
  (hs:∀ v,foldedSetIterable iter X.env v=pure v:=by intro _; rfl):CE X (.ListComp elt [⟨.Tuple [.Name x p1,.Name y p2] k p,iter,ifs,0⟩] scope pos) (QI 2 ci t c) :=
 Yl (xs:=[x,y]) hc K (fun _ _ _ _ _ K'=>pg2 hc hN K') gok2 hi ht he hs
end
end CL
namespace L2
open PySem PySem.W PySem.Spec PyProof.Rows
abbrev cX:=List (List Key)
abbrev KPt (H:Hp):List (cX×V)→List (cX×Addr×Value)→Prop:=Paired fun p q=>p.1=q.1∧PKey H p.1 q.2.1∧RelV p.2 q.2.2
theorem KPt.val {H:Hp}{kvs:List (cX×V)}{xs:List (cX×Addr×Value)}(r:KPt H kvs xs) (k:cX):RelO (cU kvs k) ((atKey xs k).map (·.2)):=by
 induction r with
 | nil=>exact True.intro
 | @cons p q ps qs h t ih =>
  obtain ⟨h1,_,h2⟩:=h
  by_cases e:p.1=k
  ·have b:atKey (q::qs) k=some q.2:=by simp [atKey,List.find?_cons,h1.symm.trans e]
   rw [vL e,b]; exact h2
  ·have b:atKey (q::qs) k=atKey qs k:=by
    have e':¬ q.1=k:=fun z=>e (h1.trans z)
    simp [atKey,List.find?_cons,e']
   rw [wL e,b]; exact ih
theorem KPt.repl {H:Hp}{kvs:List (cX×V)}{xs:List (cX×Addr×Value)}(r:KPt H kvs xs) (k:cX) {y:V}{u:Value}(ry:RelV y u) :
  KPt H (kvs.map fun kv=>if kv.1=k then (kv.1,y) else kv) (xs.map (putAt k u)):=by
 induction r with
 | nil=>exact .nil
 | @cons p q ps qs h t ih =>
  rw [List.map_cons,List.map_cons];refine .cons ?_ ih;obtain ⟨h1,h2,h3⟩:=h;unfold putAt
  by_cases e:p.1=k
  ·rw [if_pos e,if_pos (h1.symm.trans e)]; exact ⟨h1,h2,ry⟩
  ·rw [if_neg e,if_neg (fun z=>e (h1.trans z))]; exact ⟨h1,h2,h3⟩
theorem KPt.put {H:Hp}{kvs:List (cX×V)}{xs:List (cX×Addr×Value)}(r:KPt H kvs xs) (k:cX) {b:Addr}{y:V}{u:Value}(hb:PKey H k b) (ry:RelV y u) :
  KPt H (mW kvs k y) (storedH xs k b u):=by
 have e:(kvs.any fun kv=>decide (kv.1=k))=(atKey xs k).isSome:=by
  rw [vS,(r.val k).isSome_eq,Option.isSome_map]
 unfold mW storedH;rw [e]
 by_cases q:(atKey xs k).isSome=true
 ·rw [if_pos q,if_pos q]; exact r.repl k ry
 ·rw [if_neg q,if_neg q]; exact Paired.snoc r ⟨rfl,hb,ry⟩
theorem KPt.keeps {H H':Hp}{kvs:List (cX×V)}{xs:List (cX×Addr×Value)}(r:KPt H kvs xs) (ht:∀ b ys,H b=some (.tup ys)→H' b=some (.tup ys)):KPt H' kvs xs :=
 Paired.mapP r fun _ _ z=>⟨z.1,z.2.1.mono ht,z.2.2⟩
section
variable {P:Program}{w:World}{H:Hp}{h:Heap}{a:Addr}
theorem XE (ok:HOk P w H h):∀ {kss:List (List Key)}{bs:List Addr}{its:List Value},Paired (fun (ks:List Key) (c:Addr)=>H c=some (.tup (ks.map kV))) kss bs→Vals (bs.map V.ref) its→ItemsTup (lX P w) h kss its
 | _,_,_,.nil,r=>by cases r; exact .nil
 | _,_,_,.cons (b:=c) e t,r=>by
  cases r with
  | cons r1 r2 =>
   cases r1;exact .cons (pB ok e) (XE ok t r2)
theorem zR {kss:cX}(ok:HOk P w H h) (e:PKey H kss a):(lM (lX P w)).is h kss a:=by
 obtain ⟨bs,e1,pr⟩:=e;obtain ⟨_,its,r,o,h1,h2,⟨n,h3⟩,_⟩:=(show ObjOk P w H h a (.tup (bs.map V.ref)) from ok a _ e1);exact ⟨o,its.toArray,n,h1,h2,h3,by rw [List.toList_toArray]; exact XE ok pr r⟩
theorem Jw {kvs:List (cX×V)}(ok:HOk P w H h) (e:H a=some (.dP kvs)):kvs.length≤sizeLine∧(a==sysModules)=false ∧
  ∃ xs,KPt H kvs xs∧h.DictOfH (lM (lX P w)) a xs:=by
 obtain ⟨z,y,xs,r,o,es,ep,h1,h2,h3,h4,h5⟩:=(show ObjOk P w H h a (.dP kvs) from ok a _ e);refine ⟨z,y,xs,r,o,es,ep,h1,h2,h3,h4,fun x hx => ?_,h5⟩
 have all:∀ {l:List (cX×V)} {m:List (cX×Addr×Value)},KPt H l m→∀ x∈m,(lM (lX P w)).is h x.1 x.2.1:=by
  intro l m q
  induction q with
  | nil=>intro x hx; exact nomatch hx
  | @cons p q ps qs hq t ih =>
   intro x hx
   rcases List.mem_cons.mp hx with e | hx
   ·subst e
    exact zR ok (by rw [← hq.1]; exact hq.2.1)
   ·exact ih x hx
 exact all r x hx
end
def YB (H:Hp) (a:Addr) (y:V) (r:Option V):Prop:=∃ kvs k b,H a=some (.dP kvs)∧y=.ref b∧PKey H k b∧r=cU kvs k
def QPut (H:Hp) (a:Addr) (y v:V) (H':Hp):Prop:=∃ kvs k b,H a=some (.dP kvs)∧y=.ref b∧PKey H k b∧kvs.length < sizeLine∧H'=upd H a (.dP (mW kvs k v))
section
variable {X:Cx}{pins:List (Addr×Obj)}{σ:St}{H:Hp}{s:Shared}{a:Addr}{y v:V}{u r:Value}{o:Option V}{A:Around}{E:Value→Shared→Prop}
theorem Ki {Q:Value→Shared→Prop}(hu:A.units+2 < cLine) (I:Inv X pins σ H s) (g:YB H a y (some v)) (ry:RelV y u) (h:∀ w' s',Inv X pins σ H s'→RelV v w'→Q w' s') :
  wpAny (model X.prog X.w) A (getItem (.ref a) u) Q E s:=by
 obtain ⟨kvs,k,b,e,ey,eb,l⟩:=g;subst ey;cases (show u=Value.ref b from ry);obtain ⟨z,hd,xs,rel,dd⟩:=Jw I.hok e;obtain ⟨w',hw,rw'⟩:=RelO.some_of (v:=v) (o:=(atKey xs k).map (·.2)) (by rw [l]; exact rel.val k);obtain ⟨p,hp,hp2⟩:=Option.map_eq_some_iff.mp hw;refine wpAny_getItem_heap (vW hu) (zR I.hok eb) dd hp ?_;rw [hp2];exact h w' _ (I.tok _) rw'
theorem p_in {Q:Value→Shared→Prop}(hu:A.units+2 < cLine) (I:Inv X pins σ H s) (g:YB H a y o) (ry:RelV y u) (h:∀ s',Inv X pins σ H s'→Q (.bool o.isSome) s') :
  wpAny (model X.prog X.w) A (compareOp .In u (.ref a)) Q E s:=by
 obtain ⟨kvs,k,b,e,ey,eb,l⟩:=g;subst ey;cases (show u=Value.ref b from ry);obtain ⟨z,hd,xs,rel,dd⟩:=Jw I.hok e;refine wpAny_in_heap (vW hu) (zR I.hok eb) hd dd ?_;have q:=(rel.val k).isSome_eq;rw [Option.isSome_map] at q;rw [← q,← l];exact h _ (I.tok _)
theorem Kh {H':Hp}{Q:Unit→Shared→Prop}(hu:A.units+2 < cLine) (I:Inv X pins σ H s) (g:QPut H a y v H') (ry:RelV y u) (rv:RelV v r) (h:∀ s',Inv X pins σ H' s'→Q () s') :
  wpAny (model X.prog X.w) A (setItem (.ref a) u r) Q E s:=by
 obtain ⟨kvs,k,b,e,ey,eb,l,eH⟩:=g;subst ey eH;cases (show u=Value.ref b from ry);obtain ⟨z,hd,xs,rel,dd⟩:=Jw I.hok e;have hz:xs.length≤sizeLine:=by rw [← Paired.length rel]; exact z
 have hl:(mW kvs k v).length≤sizeLine:=by have:=aG kvs k v; omega
 refine wpAny_setItem_heap (hsz:=hz) (vW hu) (zR I.hok eb) dd fun h' dd' hs=>h _ ?_;obtain ⟨q,es,ep,hq,h2,h3,h4,_,h5⟩:=dd';refine dR I (by rw [e]; exact True.intro) hs ⟨q,hq⟩ ⟨hl,hd,_,(rel.put k eb rv).keeps fun c ys ec => ?_,q,es,ep,hq,h2,h3,h4,h5⟩;rw [aQ (ne_of ec e (fun z=>nomatch z))];exact ec
theorem dp_type {kvs:List (cX×V)}(I:Inv X pins σ H s) (e:H a=some (.dP kvs)):s.TypeIs (.ref a) "dict" := by
 obtain ⟨_,_,xs,_,dd⟩:=Jw I.hok e;exact dd.typeIs
end
section
variable {X:Cx}{o i e value:Expr}{pos pos':Pos}{td ty tv:TE}
def tPGet (td ty:TE):TE:=fun σ H Q=>td σ H fun x H1=>ty σ H1 fun y H2=>∃ a v,x=.ref a∧YB H2 a y (some v)∧Q v H2
def sPPut (td ty tv:TE):TS:=fun D σ H=>tv σ H fun v H1=>td σ H1 fun x H2=>ty σ H2 fun y H3=>∃ a H4,x=.ref a∧QPut H3 a y v H4∧D.nx σ H4
theorem pe_pget (hu:X.A.units+2 < cLine) (ho:PE X o td) (hi:PE X i ty) (hs:Za i):PE X (.Subscript o i pos) (tPGet td ty):=by
 intro pins s σ H Q I h;refine Z8 PySem.F.slot_dict_getitem.lookup hs (thn (ho pins s σ H _ I h) fun u s1 ⟨x,H1,I1,rx,q1⟩=>thn (hi pins s1 σ H1 _ I1 q1) fun iv s2 ⟨y,H2,I2,ry,a,v,ex,g,q2⟩ => ?_);subst ex;obtain rfl:u=Value.ref a:=rx;exact ⟨let ⟨_,_,_,e,_⟩:=g; dp_type I2 e,Ki hu I2 g ry fun w' s3 I3 rw'=>⟨v,H2,I3,rw',q2⟩⟩
theorem op_pin (hu:X.A.units+2 < cLine):OpR X (compareOp .In) (fun y x H Q=>∃ a o,x=.ref a∧YB H a y o∧Q (.bl o.isSome) H):=by
 intro pins s σ H y x v u Q I ry rx h;obtain ⟨a,o,rfl,g,q⟩:=h;cases (show u=Value.ref a from rx);exact p_in hu I g ry fun s3 I3=>⟨.bl o.isSome,H,I3,rfl,q⟩
theorem ps_pput (hu:X.A.units+2 < cLine) (ho:PE X o td) (hi:PE X i ty) (hv:PE X value tv) (hs:swapsWith value (some (.Subscript o i pos')) pos.line X.env=pure false) :
  PS X (.Assign [.Subscript o i pos'] value pos) (sPPut td ty tv):=by
 intro pins s σ H D I h;refine wpAny_Assign_Subscript (thn (hv pins s σ H _ I h) fun r s1 ⟨v,H1,I1,rv,q1⟩=>thn (ho pins s1 σ H1 _ I1 q1) fun u s2 ⟨x,H2,I2,rx,q2⟩=>thn (hi pins s2 σ H2 _ I2 q2) fun iv s3 ⟨y,H3,I3,ry,a,H4,ex,g,q3⟩ => ?_) hs;subst ex;obtain rfl:u=Value.ref a:=rx;exact Kh hu I3 g ry rv fun s4 I4=>⟨σ,H4,I4,q3⟩
def tPNew:TE:=fun _ H Q=>∀ p,H p=none→Q (.ref p) (upd H p (.dP []))
theorem W7 {P:Program}{w:World}{H:Hp}(h:Heap) (hb:sysModules < h.objs.size):ObjOk P w H (h.push { cls:=.type "dict",data:=.dict #[] }) h.objs.size (.dP []):=by
 obtain ⟨z,y,xs,r,rest⟩:=(show ObjOk P w H (h.push { cls:=.type "dict",data:=.dict #[] }) h.objs.size (.dT []) from XM h hb);obtain ⟨o,es,ep,h1,h2,h3,h4,h5⟩:=rest;cases r;exact ⟨z,y,[],.nil,o,es,ep,h1,h2,h3,h4,List.nodup_nil⟩
theorem pe_pnew:PE X (.Dict [] [] pos) tPNew:=by
 intro pins s σ H Q I h;exact wpAny_Dict_empty ⟨.ref s.heap.objs.size,_,I.laid (a:=s.heap.objs.size) (o:=.dP []) (t':=s.toks) (fun _ _ q=>Heap.get?_push_of_some _ q) (Nat.le_refl _) (W7 s.heap I.big),rfl,h _ (I.hok.fresh (Nat.le_refl _))⟩
end
end L2
namespace CL
open PySem PySem.Spec L2 PySem.W
open PyProof.Rows hiding St
section
variable {X:Cx}{a b c e o i f value:Expr}{es:List Expr}{pos pos':Pos}
@[irreducible] def cInt:GC:=fun ts C Q=>match ts with
 | [.bl b]=>Q (.int (if b then 1 else 0)) C
 | [.int i]=>Q (.int i) C
 | _=>False
theorem kU {K:PySem.W.Frag}:Cbi K (fun xs H Q=>(∃ i,xs=[.int i]∧Q (.int i) H)∨∃ k,xs=[.bl k]∧Q (.int (if k then 1 else 0)) H) cInt:=fun xs ts H C Q R rs h q f=>by
 unfold cInt at q
 split at q
 ·obtain ⟨v,rfl,r⟩:=lZ rs
  cases r;exact .inr ⟨_,rfl,f _ H _ C q (.int _) h Fw.refl⟩
 ·obtain ⟨v,rfl,r⟩:=lZ rs
  cases r;exact .inl ⟨_,rfl,f _ H _ C q (.int _) h Fw.refl⟩
 ·exact q.elim
@[irreducible] def cCatT:R2C:=fun x y C Q=>match x,y with
 | .tup xs,.tup ys=>xs.length+ys.length≤sizeLine∧Q (.tup (xs++ys)) C
 | _,_=>False
@[irreducible] def tR:PV→List PV→CH→K1→Prop:=fun x ts C Q=>match x,ts with
 | .ref a,[.ref b]=>match C a,C b with
  | some (.lst xs),some (.lst ys)=>xs.length+ys.length≤sizeLine∧Q .non (nQ C a (.lst (xs++ys)))
  | _,_=>False
 | _,_=>False
theorem dO {K:PySem.W.Frag}:Cmt K Jb tR:=fun x px xs ps H C Q R rx rs h q f=>by
 unfold tR at q
 split at q
 ·split at q
  ·next ys zs e1 e2 =>
   obtain ⟨vs,ev,rv⟩:=h _ _ e1;obtain ⟨ws,ew,rw'⟩:=h _ _ e2;obtain ⟨v,rfl,r⟩:=lZ rs;cases rx; cases r
   exact ⟨_,_,vs,ws,rfl,rfl,ev,ew,by rw [rv.len,rw'.len]; exact q.1,f _ _ _ _ q.2 .non (h.put ev rfl ⟨_,eQ,(rv.append rw').imm (Imm.mut ev rfl _)⟩) (Fw.put e1 _ _)⟩
  ·exact q.elim
 ·exact q.elim
def cBM0 (cr:PV→List PV→CH→K1→Prop) (co:TCE):TCE:=fun ρ C Q=>co ρ C fun x C1=>isL x C1∧cr x [] C1 Q
theorem Yo {name:Str}{id:String}{apos cpos:Pos}{r:V→List V→Hp→VK→Prop}{cr:PV→List PV→CH→K1→Prop}{co:TCE}(pa:PlainAttrs "list") (slot:Slot "list" name id) (hty:typeOf (.builtin id)=pure (.type "method_descriptor")) (hm:MtR X id r) (hr:Cmt X.K r cr) (ho:CE X o co)
  (hbase:attributeBase o name X.env (eval o X.env)=eval o X.env:=by rfl) (hline:(apos.endLine==cpos.line)=true:=by rfl):CE X (.Call (.Attribute o name apos) [] [] cpos) (cBM0 cr co):=⟨JE.weak (je_bm0 pa slot hty hm ho.h hbase hline) fun σ H Q ⟨ρ,C,R,s,h,q,f⟩ =>
 ⟨ρ,C,_,s,h,q,fun x H1 px C1 q1 rx h1 f1=>⟨WR q1.1 rx h1,hr x px [] [] H1 C1 Q R rx .nil h1 q1.2 fun v H' t C' q' r' h' f'=>f v H' t C' q' r' h' (f1.trans f')⟩⟩⟩
@[irreducible] def sP:PV→List PV→CH→K1→Prop:=fun x ts C Q=>match x,ts with
 | .ref a,[]=>match C a with
  | some (.lst xs)=>Q .non (nQ C a (.lst xs.reverse))
  | _=>False
 | _,_=>False
theorem X1 {K:PySem.W.Frag}:Cmt K Q8 sP:=fun x px xs ps H C Q R rx rs h q f=>by
 unfold sP at q
 split at q
 ·split at q
  ·next ys e1 =>
   obtain ⟨vs,ev,rv⟩:=h _ _ e1;cases rs;cases rx;exact ⟨_,vs,rfl,rfl,ev,f _ _ _ _ q .non (h.put ev rfl ⟨_,eQ,rv.reverse.imm (Imm.mut ev rfl _)⟩) (Fw.put e1 _ _)⟩
  ·exact q.elim
 ·exact q.elim
@[irreducible] def QK:PV→List PV→CH→K1→Prop:=fun x ts C Q=>match x,ts with
 | .ref a,[]=>match C a with
  | some (.lst xs)=>Q .non (nQ C a (.lst []))
  | _=>False
 | _,_=>False
theorem KY {K:PySem.W.Frag}:Cmt K VH QK:=fun x px xs ps H C Q R rx rs h q f=>by
 unfold QK at q
 split at q
 ·split at q
  ·next ys e1 =>
   obtain ⟨vs,ev,rv⟩:=h _ _ e1;cases rs;cases rx;exact ⟨_,vs,rfl,rfl,ev,f _ _ _ _ q .non (h.put ev rfl ⟨_,eQ,.nil⟩) (Fw.put e1 _ _)⟩
  ·exact q.elim
 ·exact q.elim
@[irreducible] def Yt:PV→Option Int→Option Int→CH→K1→Prop:=fun x lo hi C Q=>match x with
 | .tup xs=>¬ (HT.sIx xs.length 0 lo=0∧HT.sIx xs.length xs.length hi=xs.length)∧Q (.tup (oC xs lo hi)) C
 | _=>False
theorem Yi {lo hi:Option Expr}{ce:TCE}{cl ch:TCO}{p2:Pos}(he:CE X e ce) (hl:CPt X lo cl) (hu:CPt X hi ch):CE X (.Subscript e (.Slice lo hi none p2) pos) (cSl Yt ce cl ch):=⟨JE.weak (XC sl_tup he.h hl.h hu.h) fun σ H Q ⟨ρ,C,R,s,h,q,f⟩ =>
 ⟨ρ,C,_,s,h,q,fun x H1 px C1 q1 rx h1 f1=>⟨ρ,C1,_,s.imm (f1.imm h),h1,q1,fun l H2 l' C2 q2 e2 h2 f2=>⟨ρ,C2,_,(s.imm (f1.imm h)).imm (f2.imm h1),h2,q2,fun u H3 u' C3 q3 e3 h3 f3=>by
  cases e2; cases e3
  unfold Yt at q3
  split at q3
  ·have rx3:=rx.imm ((f2.trans f3).imm h1)
   cases rx3 with
   | @tup a vs ts e r =>
    exact ⟨a,vs,rfl,SqT.of e,by rw [r.len]; exact q3.1,fun p hp=>f _ _ _ C3 q3.2 (.tup eQ ((r.cut l u).imm (Imm.new hp _))) (h3.new hp _) (f1.trans (f2.trans (f3.trans (Fw.new hp _))))⟩
  ·exact q3.elim⟩⟩⟩⟩
def nA:List PV→Option cX
 | []=>some []
 | t::r=>match bM t,nA r with
  | some k,some ks=>some (k::ks)
  | _,_=>none
def Xd:PV→Option cX
 | .tup ts=>nA ts
 | _=>none
theorem Ke {K:PySem.W.Frag}{H:Hp}{vs:List V}{ts:List PV}{kss:cX}(r:Reps K H vs ts) (e:nA ts=some kss):∃ bs:List Addr,vs=bs.map V.ref∧Paired (fun (ks:List Key) (c:Addr)=>H c=some (.tup (ks.map kV))) kss bs:=by
 induction ts generalizing vs kss with
 | nil=>cases r; cases e; exact ⟨[],rfl,.nil⟩
 | cons t ts ih =>
  cases r with
  | cons h r =>
   unfold nA at e
   split at e
   ·next k ks e1 e2 =>
    cases e;obtain ⟨b,rfl,eb⟩:=iY h e1;obtain ⟨bs,rfl,p⟩:=ih r e2;exact ⟨b::bs,rfl,.cons eb p⟩
   ·cases e
theorem qT {K:PySem.W.Frag}{H:Hp}{v:V}{t:PV}{kss:cX}(r:Rep K H v t) (e:Xd t=some kss):∃ b,v=.ref b∧PKey H kss b:=by
 cases r<;>try (cases e)
 next a vs ts h r =>
  obtain ⟨bs,rfl,p⟩:=Ke r e;exact ⟨a,rfl,bs,h,p⟩
def cPNew:TCE:=fun _ C Q=>∀ p,C p=none→Q (.ref p) (nQ C p (.dP []))
theorem fP:CE X (.Dict [] [] pos) cPNew:=⟨JE.weak ⟨pe_pnew⟩ fun σ H Q ⟨ρ,C,R,s,h,q,f⟩=>fun p hp=>f (.ref p) _ (.ref p) _ (q p (h.fresh hp)) (.ref p) (h.lay hp ⟨[],eQ,.nil⟩) (Fw.lay hp _ _)⟩
@[irreducible] def cPIx:R2C:=fun x y C Q=>match x with
 | .ref a=>match C a,Xd y with
  | some (.dP kvs),some k=>match iV kvs k with
   | some v=>Q v C
   | none=>False
  | _,_=>False
 | _=>False
theorem qN {co ci:TCE}(hu:X.A.units+2 < cLine) (ho:CE X o co) (hi:CE X i ci) (hs:Za i):CE X (.Subscript o i pos) (cOp cPIx co ci):=⟨JE.weak ⟨pe_pget hu ho.h.h hi.h.h hs⟩ fun σ H Q ⟨ρ,C,R,s,h,q,f⟩ =>
 ⟨ρ,C,_,s,h,q,fun x H1 px C1 q1 rx h1 f1=>⟨ρ,C1,_,s.imm (f1.imm h),h1,q1,fun y H2 py C2 q2 ry h2 f2=>by
  unfold cPIx at q2
  split at q2
  ·next a =>
   split at q2
   ·next kvs k e1 e2 =>
    split at q2
    ·next t e3 =>
     have rx2:=rx.imm (f2.imm h1);cases rx2;obtain ⟨vs,ev,r⟩:=h2 a _ e1;obtain ⟨b,rfl,eb⟩:=qT ry e2
     rcases FP.val r k with ⟨v,t',l1,l2,rv⟩ | ⟨_,l2⟩
     ·rw [e3] at l2
      cases l2;exact ⟨a,v,rfl,⟨vs,k,b,ev,rfl,eb,l1.symm⟩,f v H2 t C2 q2 rv h2 (f1.trans f2)⟩
     ·rw [e3] at l2; cases l2
    ·exact q2.elim
   ·exact q2.elim
  ·exact q2.elim⟩⟩⟩
@[irreducible] def cPIn:R2C:=fun y x C Q=>match x with
 | .ref a=>match C a,Xd y with
  | some (.dP kvs),some k=>Q (.bl (iV kvs k).isSome) C
  | _,_=>False
 | _=>False
theorem cop_pin {K:PySem.W.Frag}:Cop K (fun y x H Q=>∃ a o,x=.ref a∧YB H a y o∧Q (.bl o.isSome) H) cPIn:=fun y x py px H C Q R ry rx h q f=>by
 unfold cPIn at q
 split at q
 ·next a =>
  split at q
  ·next kvs k e1 e2 =>
   cases rx;obtain ⟨vs,ev,r⟩:=h a _ e1;obtain ⟨b,rfl,eb⟩:=qT ry e2;refine ⟨a,cU vs k,rfl,⟨vs,k,b,ev,rfl,eb,rfl⟩,?_⟩
   rcases FP.val r k with ⟨v,t',l1,l2,rv⟩ | ⟨l1,l2⟩
   ·rw [l2] at q; rw [l1]; exact f _ H _ C q (.bl _) h Fw.refl
   ·rw [l2] at q; rw [l1]; exact f _ H _ C q (.bl _) h Fw.refl
  ·exact q.elim
 ·exact q.elim
@[irreducible] def JV:PV→PV→PV→CH→(CH→Prop)→Prop:=fun x y v C Q=>match x with
 | .ref a=>match C a,Xd y with
  | some (.dP kvs),some k=>kvs.length < sizeLine∧Q (nQ C a (.dP (putG kvs k v)))
  | _,_=>False
 | _=>False
def cPPut (co ck cv:TCE):TCS:=fun E ρ C=>cv ρ C fun v C1=>co ρ C1 fun x C2=>ck ρ C2 fun y C3=>JV x y v C3 fun C4=>E.nx ρ C4
theorem Qx {co ck cv:TCE}(hu:X.A.units+2 < cLine) (ho:CE X o co) (hi:CE X i ck) (hv:CE X value cv) (hs:swapsWith value (some (.Subscript o i pos')) pos.line X.env=pure false:=by rfl) :
  CS X (.Assign [.Subscript o i pos'] value pos) (cPPut co ck cv):=⟨JS.weak ⟨ps_pput hu ho.h.h hi.h.h hv.h.h hs⟩ fun D σ H ⟨ρ,C,E,s,h,q,f⟩ =>
 ⟨ρ,C,_,s,h,q,fun v H1 pv C1 q1 rv h1 f1=>⟨ρ,C1,_,s.imm (f1.imm h),h1,q1,fun x H2 px C2 q2 rx h2 f2=>⟨ρ,C2,_,(s.imm (f1.imm h)).imm (f2.imm h1),h2,q2,fun y H3 py C3 q3 ry h3 f3=>by
  have s3:=((s.imm (f1.imm h)).imm (f2.imm h1)).imm (f3.imm h2);have rv3:=rv.imm ((f2.trans f3).imm h1);unfold JV at q3
  split at q3
  ·next a =>
   split at q3
   ·next kvs k e1 e2 =>
    have rx3:=rx.imm (f3.imm h2);cases rx3;obtain ⟨vs,ev,r⟩:=h3 a _ e1;obtain ⟨b,rfl,eb⟩:=qT ry e2;have hl:vs.length=kvs.length:=Paired.length r;have m:Imm H3 (upd H3 a (.dP (mW vs k v))):=Imm.mut ev rfl _;refine ⟨a,_,rfl,⟨vs,k,b,ev,rfl,eb,by rw [hl]; exact q3.1,rfl⟩,f.nx σ _ ρ _ q3.2 (s3.imm m) (h3.put ev rfl ⟨_,eQ,Paired.mapP (FP.putG r k rv3) fun _ _ z=>⟨z.1,z.2.imm m⟩⟩) (f1.trans (f2.trans (f3.trans (Fw.put e1 _ _))))⟩
   ·exact q3.elim
  ·exact q3.elim⟩⟩⟩⟩
end
inductive Pl:Nat→PV→Prop
 | non {d:Nat}:Pl d .non
 | bl {d:Nat} (b:Bool):Pl d (.bl b)
 | int {d:Nat} (i:Int):Pl d (.int i)
 | str {d:Nat} (x:Str):Pl d (.str x)
 | tup {d:Nat} {ts:List PV} (h:∀ t∈ts,Pl d t):Pl (d+1) (.tup ts)
section
variable {X:Cx}{pins:List (Addr×Obj)}{σ:St}{H:Hp}{s:Shared}
theorem eT {d:Nat}{ts:List PV}(ih:∀ t∈ts,∀ {A:Around}{v v':V}{u u':Value},Rep X.K H v t→Rep X.K H v' t→RelV v u→RelV v' u'→A.units+d < cLine→SeqAt.EqAt A s u u' true) {A:Around}(hu:A.units+d < cLine) {vs ws:List V}{its its2:List Value}(r1:Reps X.K H vs ts) (r2:Reps X.K H ws ts) (v1:Vals vs its) (v2:Vals ws its2) :
  its.length=its2.length∧∀ j (h1:j < its.toArray.size) (h2:j < its2.toArray.size),SeqAt.EqAt A s its.toArray[j] its2.toArray[j] true:=by
 induction ts generalizing vs ws its its2 with
 | nil =>
  cases r1; cases r2; cases v1; cases v2
  exact ⟨rfl,fun j h1=>absurd h1 (by simp)⟩
 | cons t ts iht =>
  cases r1 with
  | cons a1 r1 =>
   cases r2 with
   | cons a2 r2 =>
    cases v1 with
    | cons b1 v1 =>
     cases v2 with
     | cons b2 v2 =>
      obtain ⟨l,k⟩:=iht (fun t' m=>ih t' (List.mem_cons_of_mem _ m)) r1 r2 v1 v2;refine ⟨by rw [List.length_cons,List.length_cons,l],fun j h1 h2 => ?_⟩
      cases j with
      | zero=>exact ih t List.mem_cons_self a1 a2 b1 b2 hu
      | succ j =>
       have:=k j (by simpa using h1) (by simpa using h2)
       simpa using this
theorem eq_deep (I:Inv X pins σ H s) {d:Nat}{t:PV}(p:Pl d t):∀ {A:Around}{v v':V}{u u':Value},Rep X.K H v t→Rep X.K H v' t→RelV v u→RelV v' u'→A.units+d < cLine→SeqAt.EqAt A s u u' true:=by
 induction p with
 | non =>
  intro A v v' u u' r r' e e' hu;cases r; cases r'
  cases (show u=Value.none from e); cases (show u'=Value.none from e')
  exact SeqAt.EqAt.same _
 | bl b =>
  intro A v v' u u' r r' e e' hu;cases r; cases r'
  cases (show u=Value.bool b from e); cases (show u'=Value.bool b from e')
  exact SeqAt.EqAt.same _
 | int i =>
  intro A v v' u u' r r' e e' hu;cases r; cases r'
  obtain ⟨t1,rfl⟩:=(show ∃ t,u=Value.int i t from e);obtain ⟨t2,rfl⟩:=(show ∃ t,u'=Value.int i t from e');have:=SeqAt.EqAt.int_int (A:=A) (s:=s) i t1 i t2;rw [beq_self_eq_true] at this;exact this
 | str x =>
  intro A v v' u u' r r' e e' hu;cases r; cases r'
  obtain ⟨t1,rfl⟩:=(show ∃ t,u=Value.str x t from e);obtain ⟨t2,rfl⟩:=(show ∃ t,u'=Value.str x t from e');have:=SeqAt.EqAt.str_str (A:=A) (s:=s) x t1 x t2;rw [beq_self_eq_true] at this;exact this
 | @tup d ts hp ih =>
  intro A v v' u u' r r' e e' hu
  cases r with
  | @tup a1 vs _ e1 r1 =>
   cases r' with
   | @tup a2 ws _ e2 r2 =>
    cases (show u=Value.ref a1 from e); cases (show u'=Value.ref a2 from e')
    by_cases hab:a1=a2
    ·subst hab; exact SeqAt.EqAt.same _
    ·obtain ⟨its,w1,p1,_⟩:=I.tuple (SqT.of e1)
     obtain ⟨its2,w2,p2,_⟩:=I.tuple (SqT.of e2)
     have hu':A.in1.units+d < cLine:=by
      show A.units+1+d < cLine;omega
     obtain ⟨hl,he⟩:=eT (A:=A.in1) (d:=d) (fun t m=>ih t m) hu' r1 r2 w1 w2;have R:=SeqAt.RcAt.tuples (A:=A) (e:=fun _=>true) p1 p2 (by omega) he;rw [show ((List.range (min its.toArray.size its2.toArray.size)).all (fun _=>true)&&its.toArray.size==its2.toArray.size)=true by simp [hl]] at R;exact SeqAt.EqAt.of_refs hab R
end
section
variable {X:Cx}
abbrev rNeD (K:PySem.W.Frag) (d:Nat):R2:=fun x y H Q=>∃ a b vs ws ts,x=.ref a∧y=.ref b∧H a=some (.lst vs)∧H b=some (.lst ws)∧Reps K H vs ts∧Reps K H ws ts∧(∀ t∈ts,Pl d t)∧Q (.bl false) H
theorem op_neD {d:Nat}(hu:X.A.units+1+d < cLine):OpR X (compareOp .NotEq) (rNeD X.K d):=by
 intro pins s σ H x y v u Q I rx ry h;obtain ⟨a,b,vs,ws,ts,rfl,rfl,ha,hb,r1,r2,hp,q⟩:=h;cases rx;cases ry;obtain ⟨its,w1,p1,_⟩:=I.list (SqL.of ha);obtain ⟨its2,w2,p2,_⟩:=I.list (SqL.of hb);obtain ⟨hl,he⟩:=eT (A:=X.A.in1) (d:=d) (fun t m=>eq_deep I (hp t m)) (show X.A.units+1+d < cLine from hu) r1 r2 w1 w2;have R:=SeqAt.RcNeAt.lists (A:=X.A) (e:=fun _=>true) p1.isList p2.isList (by simpa using hl) (by omega) he
 rw [show (!(List.range its.toArray.size).all fun _=>true)=false by simp] at R;exact R _ _ _ _ ⟨.bl false,H,I,rfl,q⟩
@[irreducible] def cNeD (d:Nat):R2C:=fun x y C Q=>match x,y with
 | .ref a,.ref b=>match C a,C b with
  | some (.lst xs),some (.lst ys)=>xs=ys∧(∀ t∈xs,Pl d t)∧Q (.bl false) C
  | _,_=>False
 | _,_=>False
theorem cop_neD {K:PySem.W.Frag}{d:Nat}:Cop K (rNeD K d) (cNeD d):=fun x y px py H C Q R rx ry h q f=>by
 unfold cNeD at q
 split at q
 ·split at q
  ·next xs ys e1 e2 =>
   obtain ⟨rfl,hp,q⟩:=q;obtain ⟨vs,ev,rv⟩:=h _ _ e1;obtain ⟨ws,ew,rw'⟩:=h _ _ e2;cases rx; cases ry
   exact ⟨_,_,vs,ws,xs,rfl,rfl,ev,ew,rv,rw',hp,f _ H _ C q (.bl _) h Fw.refl⟩
  ·exact q.elim
 ·exact q.elim
def aN:List PV→Option (List Str)
 | []=>some []
 | .str x::r=>(aN r).map (x :: ·)
 | _=>none
def J4:List PV→Option (List (List Str×Int))
 | []=>some []
 | .tup [.tup ks,.int i]::r=>match aN ks,J4 r with
  | some zs,some cs=>some ((zs,i)::cs)
  | _,_=>none
 | _=>none
theorem Vx {ts:List PV}{zs:List Str}(e:aN ts=some zs):ts=zs.map PV.str:=by
 induction ts generalizing zs with
 | nil=>cases e; rfl
 | cons t ts ih =>
  unfold aN at e
  split at e
  ·rename_i h; cases h
  ·rename_i x r h
   cases h
   cases z:aN ts with
   | none=>rw [z] at e; cases e
   | some ds=>rw [z] at e; cases e; rw [ih z]; rfl
  ·cases e
theorem zA:∀ zs:List Str,aN (zs.map PV.str)=some zs
 | []=>rfl
 | z::zs=>by
  show (aN (zs.map PV.str)).map _=_;rw [zA zs]; rfl
theorem tiOf_eq {ts:List PV}{cs:List (List Str×Int)}(e:J4 ts=some cs):ts=cs.map kY:=by
 induction ts generalizing cs with
 | nil=>cases e; rfl
 | cons t ts ih =>
  unfold J4 at e
  split at e
  ·rename_i h; cases h
  ·rename_i ks i r h
   cases h
   split at e
   ·next zs cs' e1 e2 =>
    cases e;rw [ih e2,Vx e1]; rfl
   ·cases e
  ·cases e
theorem QX:∀ cs:List (List Str×Int),J4 (cs.map kY)=some cs
 | []=>rfl
 | c::cs=>by
  show (match aN (c.1.map PV.str),J4 (cs.map kY) with | some zs,some cs=>some ((zs,c.2)::cs) | _,_=>none)=_;rw [zA,QX cs]
theorem J5 {K:PySem.W.Frag}{H:Hp}{zs:List Str}{vs:List V}(r:Reps K H vs (zs.map PV.str)):vs=zs.map V.str:=by
 induction zs generalizing vs with
 | nil=>cases r; rfl
 | cons z zs ih =>
  cases r with
  | cons h r=>cases h; rw [ih r]; rfl
theorem tp_at {K:PySem.W.Frag}{H:Hp}{ys:List V}{cs:List (List Str×Int)}(r:Reps K H ys (cs.map kY)):∀ i,i < ys.length→qE H (ys.getD i .non) (cs.getD i ([],0)):=by
 induction cs generalizing ys with
 | nil=>cases r; intro i hi; exact absurd hi (Nat.not_lt_zero i)
 | cons c cs ih =>
  cases r with
  | @cons v _ vs _ h r =>
   intro i hi
   cases i with
   | zero =>
    cases h with
    | tup e r1 =>
     obtain ⟨v1,v2,rfl,r2,r3⟩:=fF r1;cases r3
     cases r2 with
     | tup e2 r4 =>
      rw [J5 r4] at e2;exact ⟨_,_,rfl,e,e2⟩
   | succ i=>exact ih r i (Nat.lt_of_succ_lt_succ hi)
@[irreducible] def nP:GC:=fun ts C Q=>match ts with
 | [.ref a]=>match C a with
  | some (.lst xs)=>match J4 xs with
   | some cs=>cs.length < 64∧∀ p,C p=none→Q (.ref p) (nQ C p (.lst ((ordT cs).map kY)))
   | none=>False
  | _=>False
 | _=>False
theorem X3 (hu:X.A.units+2 < cLine):Cbi X.K (fun xs H Q=>∃ l ys lt,xs=[.ref l]∧SqL X.K H l ys∧ys.length < 64∧Srt X H ys lt∧∀ p,H p=none→Q (.ref p) (upd H p (.lst (xD lt ys)))) nP:=fun xs ts H C Q R rs h q f=>by
 unfold nP at q
 split at q
 ·obtain ⟨v,rfl,r⟩:=lZ rs
  split at q
  ·next xs e =>
   split at q
   ·next cs e2 =>
    have ex:=tiOf_eq e2;subst ex;obtain ⟨vs,ev,rv⟩:=h _ _ e;cases r;have hl:vs.length=cs.length:=by rw [rv.len,List.length_map]
    have ro:=V3 (kY ([],0)) (tiLt cs) rv;rw [List.length_map,ti_ord] at ro;exact ⟨_,vs,tiLt cs,rfl,SqL.of ev,by rw [hl]; exact q.1,J6 hu _ (tp_at rv),fun p hp=>f _ _ _ _ (q.2 p (h.fresh hp)) (.ref p) (h.lay hp ⟨_,eQ,ro.imm (Imm.new hp _)⟩) (Fw.lay hp _ _)⟩
   ·exact q.elim
  ·exact q.elim
 ·exact q.elim
end
end CL
namespace PySem.W
open PySem PySem.Calls PyProof.Rows PyProof.V PySem.Spec
section
variable {prog:Program}{w:World}{A:Around}{E:Value→Shared→Prop}{s:Shared}{d it:Addr}{es:Array DictEntry}{ep i:Nat}
theorem RawD.ty (x:RawD s.heap d es ep):s.TypeIs (.ref d) "dict" := let ⟨o,e,c,_⟩:=x; ⟨o,e,c.1⟩
theorem Ka {Q:Value→Shared→Prop}(hd:(d==sysModules)=false) (hm:RawD s.heap d es ep)
  (hQ:Q (.ref s.heap.objs.size) { s with heap:=s.heap.push { cls:=.type "dict_keyiterator",data:=.fields #[.ref d,.int 0 0,.int es.size 0,.int ep 0] } }):wpAny (model prog w) A (pyIter (.ref d)) Q E s:=by
 have hT:=hm.ty;obtain ⟨o,ho,hc,hdat⟩:=hm;refine wpAny_pyIter_slot (by exact hT) F.slot_dict_iter (wpAny_call_entry F.slot_dict_iter (by exact hT) F.entry_dict_iter ?_ (F.args_dict_iter_1 _))
 (unfold Builtin.«dict.__iter__»; refine wpAny_bind ?_; unfold Builtin.Dict.dictSlotNone; refine wpAny_bind (wpAny_notOrdered_dict hT ?_))
 (show wpAny _ _ (pure (Value.ref d)) _ _ s; refine wpAny_pure ?_; show wpAny _ _ (Builtin.Dict.showsAll d >>= _) _ _ s; unfold Builtin.Dict.showsAll)
 (rw [if_neg (by rw [hd]; exact Bool.false_ne_true)]; refine wpAny_bind (wpAny_pure ?_); refine wpAny_bind (wpAny_dictEntries ho hdat ?_); refine wpAny_bind (wpAny_dictEpoch ho hdat ?_))
 refine wpAny_bind (wpAny_newObj_type (wpAny_pure ⟨_,rfl,"dict_keyiterator",(_),⟨_,Heap.get?_push_size _ rfl,rfl⟩,F.slot_dict_keyiterator_next.lookup,(?_)⟩))
 (simpa [rawInt] using hQ)
theorem J9 {e:DictEntry}{Q:Option Value→Shared→Prop}(hit:s.heap.IsKeyIter it d i es.size ep) (hm:RawD s.heap d es ep) (hx:es[i]?=some e)
  (hQ:∀ h',h'.IsKeyIter it d (i+1) es.size ep→Heap.SameBut it s.heap h'→Q (some e.key) { s with heap:=h' }):wpAny (model prog w) A (pyNext (.ref it)) Q E s:=by
 have hT:=hit.typeIs;obtain ⟨o,ho,hc,hd⟩:=id hit;obtain ⟨od,hod,hcd,hdd⟩:=id hm
 have hlt:i < es.size:=by
  rcases Nat.lt_or_ge i es.size with h | h
  ·exact h
  ·rw [Array.getElem?_eq_none h] at hx; cases hx
 have he:es[i]=e:=by rw [Array.getElem?_eq_getElem hlt] at hx; exact Option.some.inj hx
 have hown:Builtin.Dict_items.ownsTuple "dict_keyiterator" = false:=by (decide)
 (unfold pyNext; refine wpAny_bind (wpAny_attempt (wpAny_callSpecial?_slot (name:=Str.ofString "__next__") hT F.slot_dict_keyiterator_next (wpAny_call_entry F.slot_dict_keyiterator_next hT F.entry_dict_keyiterator_next ?_ (F.args_dict_keyiterator_next_1 _)))))
 (refine wpAny_bind (wpAny_pure ?_); refine wpAny_bind ?_; refine wpAny_bind ?_; first | refine wpAny_bind (wpAny_typeNameOfWhole_keyiter hT (wpAny_pure ?_)) | refine wpAny_bind (wpAny_typeNameOf_keyiter hT (wpAny_pure ?_)))
 (refine wpAny_bind (wpAny_fieldsOf ho hd ?_); simp only [hown,Bool.false_eq_true,if_false]; show wpAny _ _ (if (Value.ref d==Value.none)=true then _ else _) _ _ s)
 (rw [if_neg (show ¬ ((Value.ref d==Value.none)=true) from Bool.false_ne_true)]; refine wpAny_bind (wpAny_pure ?_); refine wpAny_bind (wpAny_dictEntries hod hdd ?_))
 (rw [if_neg (by simp)]; refine wpAny_bind (wpAny_pure ?_); refine wpAny_bind (wpAny_dictEpoch hod hdd ?_); rw [if_neg (by simp)]; refine wpAny_pure ?_)
 (simp only [show ¬ ((i:Int) < 0) from by omega,if_false,Int.toNat_natCast,Array.getElem?_eq_getElem hlt]; refine wpAny_bind ?_)
 (first | refine wpAny_bind (wpAny_typeNameOfWhole_keyiter hT (wpAny_pure ?_)) | refine wpAny_bind (wpAny_typeNameOf_keyiter hT (wpAny_pure ?_)))
 (refine wpAny_bind (wpAny_isOneOf_keyiter hT ?_); show wpAny _ _ (setField (.ref it) 1 (rawInt ((i:Int)+1)) >>= _) _ _ s; refine wpAny_bind (wpAny_setField ho hd (by simp) ?_))
 have hit':(s.heap.update it (Obj.mapFields (·.setIfInBounds 1 (rawInt ((i:Int)+1))))).IsKeyIter it d (i+1) es.size ep:=⟨_,Heap.get?_update_self _ ho (Obj.isFreed_of_fields (Obj.data_mapFields hd _)),(Obj.cls_mapFields ..).trans hc,by rw [Obj.data_mapFields hd]; simp [rawInt]⟩
 (refine wpAny_bind (wpAny_holding ?_); refine wpAny_bind (wpAny_isOneOf_keyiter (s:={ s with heap:=s.heap.update it (Obj.mapFields (·.setIfInBounds 1 (rawInt ((i:Int)+1)))) }) hit'.typeIs ?_))
 (show wpAny _ _ (pure es[i].key) _ _ _; rw [he]; exact wpAny_pure (wpAny_pure ⟨_,rfl,wpAny_pure (hQ _ hit' (Heap.SameBut.update ..))⟩))
theorem VF {Q:Option Value→Shared→Prop}(hh:A.handled=none) (hit:s.heap.IsKeyIter it d i es.size ep) (hm:RawD s.heap d es ep) (hge:es.size≤i)
  (hQ:∀ h',Heap.ExtBut it s.heap h'→Q none { s with heap:=h' }):wpAny (model prog w) A (pyNext (.ref it)) Q E s:=by
 have hT:=hit.typeIs;obtain ⟨o,ho,hc,hd⟩:=id hit;obtain ⟨od,hod,hcd,hdd⟩:=id hm;have hown:Builtin.Dict_items.ownsTuple "dict_keyiterator" = false:=by (decide)
 (unfold pyNext; refine wpAny_bind (wpAny_attempt (wpAny_callSpecial?_slot (name:=Str.ofString "__next__") hT F.slot_dict_keyiterator_next (wpAny_call_entry F.slot_dict_keyiterator_next hT F.entry_dict_keyiterator_next ?_ (F.args_dict_keyiterator_next_1 _)))))
 (refine wpAny_bind (wpAny_pure ?_); refine wpAny_bind ?_; refine wpAny_bind ?_; first | refine wpAny_bind (wpAny_typeNameOfWhole_keyiter hT (wpAny_pure ?_)) | refine wpAny_bind (wpAny_typeNameOf_keyiter hT (wpAny_pure ?_)))
 (refine wpAny_bind (wpAny_fieldsOf ho hd ?_); simp only [hown,Bool.false_eq_true,if_false]; show wpAny _ _ (if (Value.ref d==Value.none)=true then _ else _) _ _ s)
 (rw [if_neg (show ¬ ((Value.ref d==Value.none)=true) from Bool.false_ne_true)]; refine wpAny_bind (wpAny_pure ?_); refine wpAny_bind (wpAny_dictEntries hod hdd ?_))
 (rw [if_neg (by simp)]; refine wpAny_bind (wpAny_pure ?_); refine wpAny_bind (wpAny_dictEpoch hod hdd ?_); rw [if_neg (by simp)]; refine wpAny_pure ?_)
 (simp only [show ¬ ((i:Int) < 0) from by omega,if_false,Int.toNat_natCast,Array.getElem?_eq_none hge]; refine wpAny_bind ?_)
 (first | refine wpAny_bind (wpAny_typeNameOfWhole_keyiter hT (wpAny_pure ?_)) | refine wpAny_bind (wpAny_typeNameOf_keyiter hT (wpAny_pure ?_)))
 (show wpAny _ _ (setField (.ref it) 0 .none >>= _) _ _ s; refine wpAny_bind (wpAny_setField ho hd (by simp) ?_); show wpAny _ _ (newExc (.type "StopIteration") [] >>= _) _ _ _)
 (refine wpAny_bind ?_; simp only [newExc,newTuple]; refine wpAny_bind (wpAny_newObj_type ?_ (by size_fits)))
 (refine wpAny_bind (m:=firstArgMember _ _) (wpAny_of_eq (a:=Value.none) (by first | rfl | (simp only [firstArgMember]; rfl)) ?_); refine wpAny_newObj_type ?_ (by size_fits))
 (simp only [raiseNew]; refine wpAny_bind (wpAny_handled ?_); rw [show A.in1.handled=none from hh]; refine wpAny_bind (wpAny_pure (wpAny_throw ?_)))
 (refine wpAny_bind (wpAny_isInstance (T := "StopIteration") (b:=true) ⟨_,Heap.get?_push_size _ rfl,rfl⟩ isSubtype_stop ?_); exact wpAny_pure (hQ _ (((Heap.SameBut.update ..).extBut.push _).push _)))
end
end PySem.W
namespace L2
open PySem PySem.Spec PyProof.Rows PySem.W
section
variable {X:Cx}{pins:List (Addr×Obj)}{σ:St}{H:Hp}{s:Shared}{d:Addr}{o:Obj}{kvs:List (List Key×V)}
theorem Inv.freezeT {t':Nat}(I:Inv X pins σ H s) (hd:H d=some (.dT kvs)) (ho:s.heap.get? d=some o):Inv X pins σ (upd H d (.frz o (.dT kvs))) { s with toks:=t' }:=by
 have ne:∀ {b:Addr} {u:HO},H b=some u→u≠.dT kvs→b≠d:=fun e n z=>by subst z; rw [hd] at e; cases e; exact n rfl
 refine I.un (h':=s.heap) ⟨fun b u q _ _ _=>q,fun b u q _ _ _=>⟨u.slots,q⟩,fun b u q n _=>by rw [aQ (fun z=>by subst z; rw [hd] at n; cases n)]; exact n,fun b u q _=>⟨u,q⟩,
  fun b xs q=>by rw [aQ (ne q nofun)]; exact q,fun b u v q=>by rw [aQ (ne q nofun)]; exact q,fun b ps q=>⟨#[],by rw [aQ (ne q nofun),q]; simp⟩⟩ fun b u e => ?_
 have st:∀ {b:Addr} {u:HO},H b=some u→ObjOk X.prog X.w (upd H d (.frz o (.dT kvs))) s.heap b u:=fun {b u} e=>(I.hok b u e).stay (fun c v _ q=>q) (fun c q=>by rw [aQ (ne q nofun)]; exact q) fun c xs q=>by rw [aQ (ne q nofun)]; exact q
 by_cases hb:b=d
 ·subst hb
  rw [eQ] at e;cases e;exact ⟨ho,st hd⟩
 ·rw [aQ hb] at e
  exact st e
theorem Inv.nfT (I:Inv X pins σ H s) (hd:H d=some (.dT kvs)):NF X d:=fun ob u e=>by
 have:=I.base.frzs d ob u e;rw [hd] at this; cases this
theorem Inv.thawT (I:Inv X pins σ H s) (hd:H d=some (.frz o (.dT kvs))) (nf:NF X d):Inv X pins σ (upd H d (.dT kvs)) s:=by
 have ne:∀ {b:Addr} {u:HO},H b=some u→u≠.frz o (.dT kvs)→b≠d:=fun e n z=>by subst z; rw [hd] at e; cases e; exact n rfl
 have nn:∀ {b:Addr},H b=none→b≠d:=fun e z=>by subst z; rw [hd] at e; cases e
 obtain ⟨m,hm,hl⟩:=I.loc;have B:=I.base;have st:∀ {b:Addr} {u:HO},H b=some u→ObjOk X.prog X.w (upd H d (.dT kvs)) s.heap b u:=fun {b u} e=>(I.hok b u e).stay (fun c v _ q=>q) (fun c q=>by rw [aQ (ne q nofun)]; exact q) fun c xs q=>by rw [aQ (ne q nofun)]; exact q
 refine ⟨I.ok,I.os,I.bare,⟨B.keep,B.slot,fun b u q n x=>by rw [aQ (nn (B.free b u q n x))]; exact B.free b u q n x,B.there,fun b xs q => ?_,fun b ob u q => ?_,fun b ps q => ?_⟩,⟨m,hm,hl⟩,I.cell,by rw [aQ (nn I.free)]; exact I.free,fun x c e=>by rw [aQ (nn (I.freeC x c e))]; exact I.freeC x c e,fun p hp => ?_,fun b u e => ?_,I.len⟩
 ·have:=B.tups b xs q
  rw [aQ (ne this nofun)]; exact this
 ·have:=B.frzs b ob u q
  have hb:b≠d:=fun z=>by subst z; exact nf ob u q
  rw [aQ hb]; exact this
 ·obtain ⟨more,e⟩:=B.tbls b ps q
  exact ⟨more,by rw [aQ (ne e nofun)]; exact e⟩
 ·obtain ⟨a1,a2,a3⟩:=I.pin p hp
  exact ⟨a1,by rw [aQ (nn a2)]; exact a2,a3⟩
 ·by_cases hb:b=d
  ·subst hb
   rw [eQ] at e;cases e;exact (show ObjOk X.prog X.w _ s.heap b (.frz o (.dT kvs)) from st hd).2
  ·rw [aQ hb] at e
   exact st e
theorem WI {e:Expr}{t:TE}(h:JE X e t):JE X e (fun σ H Q=>t σ H fun v H'=>∃ d o kvs,H' d=some (.frz o (.dT kvs))∧NF X d∧Q v (upd H' d (.dT kvs))) :=
 ⟨fun pins s σ H Q I q=>thn (h.h pins s σ H _ I q) fun u s1 ⟨v,H1,I1,r1,d,o,kvs,q1,q2,q3⟩=>⟨v,_,I1.thawT q1 q2,r1,q3⟩⟩
end
def ItTk (o:Obj) (d:Addr) (kvs:List (List Key×V)):It :=
 ⟨fun i H=>i < kvs.length∧H d=some (.frz o (.dT kvs)),fun i H x H'=>H'=H∧∃ p b,kvs[i]?=some p∧x=.ref b∧H b=some (.tup (p.1.map kV)),fun i H=>kvs.length≤i∧H d=some (.frz o (.dT kvs))⟩
theorem Js {X:Cx}{pins:List (Addr×Obj)}{σ:St}{H:Hp}{s:Shared}{d:Addr}{o:Obj}{kvs:List (List Key×V)}{es:Array DictEntry}{ep:Nat}(I:Inv X pins σ H s) (hd:H d=some (.frz o (.dT kvs))) (ho:o.data=.dict es ep) :
  ∃ xs,KT H kvs xs∧RawD s.heap d es ep∧es.toList=xs.map (entryOfKey (tupleKind (lX X.prog X.w)))∧(d==sysModules)=false:=by
 obtain ⟨e,_,hS,xs,rel,o',es',ep',q1,q2,q3,q4,q5⟩:=(show ObjOk X.prog X.w H s.heap d (.frz o (.dT kvs)) from I.hok d _ hd);rw [e] at q1;cases q1;rw [ho] at q3;cases q3;exact ⟨xs,rel,⟨o,e,q2,ho⟩,q4,hS⟩
theorem KT.get {H:Hp}:∀ {kvs:List (List Key×V)}{xs:List (List Key×Addr×Value)},KT H kvs xs→∀ {i:Nat}{p:List Key×V},kvs[i]?=some p→∃ q,xs[i]?=some q∧p.1=q.1∧H q.2.1=some (.tup (p.1.map kV))
 | _,_,.nil,i,p,e=>by simp at e
 | _,_,.cons h t,i,p,e=>by
  cases i with
  | zero=>cases e; exact ⟨_,rfl,h.1,h.2.1⟩
  | succ i=>exact KT.get t (i:=i) e
theorem Zh {P:Program}{w:World}{K:PySem.W.Frag}{tg:Expr}(o:Obj) (d it:Addr) (kvs:List (List Key×V)) (es:Array DictEntry) (ep:Nat) (hl0:es.size=kvs.length) (ho:o.data=.dict es ep):X8 P w K tg (ItTk o d kvs) [it] it (fun i h=>h.IsKeyIter it d i es.size ep) where
 mem:=by simp
 obj:=fun i h st b hb=>by
  have e:b=it:=by simpa using hb
  subst e;obtain ⟨o,e,c,d⟩:=st;exact ⟨o,e,fun v z=>by rw [d] at z; cases z⟩
 keep:=fun i h h' st k=>let ⟨ob,e,r⟩:=st; ⟨ob,k it (by simp) ob e,r⟩
 item:=by
  intro X hP hw hK hc i pins s σ H E I hf st hg;subst hP hw hK;obtain ⟨hi,hd⟩:=hg;obtain ⟨xs,rel,da,he,_⟩:=Js I hd ho;obtain ⟨f0,f1,f2,f3,f4,f5⟩:=hf it (by simp);have hk:kvs[i]?=some kvs[i]:=List.getElem?_eq_getElem _;obtain ⟨q,hq,k1,k2⟩:=KT.get rel hk
  have hx:es[i]?=some (entryOfKey (tupleKind (lX X.prog X.w)) q):=by
   rw [← Array.getElem?_toList,he,List.getElem?_map,hq]; rfl
  refine J9 st da hx fun h' st' sb => ?_;have I1:Inv X pins σ H { s with heap:=h' }:=I.turned (t':=s.toks) (fun b o hb e=>(sb.2 b hb).trans e) f0 f1 f3 f4 f5;obtain ⟨ob,e,c,dt⟩:=id st';exact ⟨.ref q.2.1,rfl,XJ (s:={ s with heap:=h' }) e c dt (by decide) ⟨.ref q.2.1,H,I1,rfl,⟨rfl,_,_,hk,rfl,k2⟩,st',fun b hb=>(hf b hb).1⟩⟩
 done:=by
  intro X hP hw hK hc i pins s σ H E I hf st hg;subst hP hw hK;obtain ⟨hi,hd⟩:=hg;obtain ⟨xs,rel,da,he,_⟩:=Js I hd ho;obtain ⟨f0,f1,f2,f3,f4,f5⟩:=hf it (by simp);exact VF (I.ok.hd hc) st da (by omega) fun h' eb=>⟨rfl,I.turned (t':=s.toks) (fun b o hb e=>eb b o hb e) f0 f1 f3 f4 f5⟩
 self:=fun _ _ _ _ _ st h=>wpAny_pyIter_keyiter st h
section
variable {X:Cx}{tg:Expr}
def iDictT (X:Cx) (td:TE):TI:=fun σ H R=>td σ H fun x H1=>∃ d kvs,x=.ref d∧H1 d=some (.dT kvs)∧∀ o,NF X d→R (ItTk o d kvs) (upd H1 d (.frz o (.dT kvs)))
theorem WG {e:Expr}{td:TE}(he:JE X e td):JI X tg e (iDictT X td):=by
 refine ⟨fun pins s σ H R I h => ?_⟩;refine thn (he.h pins s σ H _ I h) fun v s1 ⟨x,H1,I1,r1,q1⟩ => ?_;obtain ⟨d,kvs,rfl,hd,q⟩:=q1;cases (show v=Value.ref d from r1);obtain ⟨z,hS,xs,rel,o,es,ep,g1,g2,g3,g4,g5⟩:=(show ObjOk X.prog X.w H1 s1.heap d (.dT kvs) from I1.hok d _ hd);have hl:es.size=kvs.length:=by rw [← Array.length_toList,g4,List.length_map,← Paired.length rel]
 have I2:=I1.freezeT (t':=s1.toks) hd g1;refine Ka (es:=es) (ep:=ep) hS ⟨o,g1,g2,g3⟩ ?_;refine ⟨s1.heap.objs.size,[s1.heap.objs.size],_,_,_,rfl,I2.kept (t':=s1.toks) fun b o e=>Heap.get?_push_of_some _ e,Zh o d _ kvs es ep hl g3,⟨_,Heap.get?_push_size _ rfl,rfl,rfl⟩,fun b hb => ?_,q o (I1.nfT hd)⟩;have e:b=s1.heap.objs.size:=by simpa using hb
 subst e;exact I2.fpOk (Nat.le_refl _) (I2.hok.fresh (Nat.le_refl _))
end
end L2
namespace CL
open PySem PySem.Spec L2 PySem.W
open PyProof.Rows hiding St
section
variable {X:Cx}{pos:Pos}
def zK (k:List Key):PV:=.tup (k.map bY)
theorem cA {K:PySem.W.Frag}{H:Hp}:∀ ks:List Key,Reps K H (ks.map kV) (ks.map bY)
 | []=>.nil
 | k::ks=>.cons (lA k) (cA ks)
@[irreducible] def QH (ce:TCE) (t:TCT) (c:TCE):TCE:=fun ρ C Q=>ce ρ C fun x C1=>match x with
 | .ref d=>match C1 d with
  | some (.dT kvs)=>zJ t c ρ (fun v C2=>C2 d=some (.fT kvs)∧Q v (nQ C2 d (.dT kvs))) (kvs.map fun p=>zK p.1) [] (nQ C1 d (.fT kvs))
  | _=>False
 | _=>False
theorem FP.keys {κ:Type}{K:PySem.W.Frag}{H:Hp}{vs:List (κ×V)}{kvs:List (κ×PV)}(r:FP K H vs kvs):vs.map (·.1)=kvs.map (·.1):=by
 induction r with
 | nil=>rfl
 | cons h _ ih=>rw [List.map_cons,List.map_cons,h.1,ih]
theorem WN {K:PySem.W.Frag}{o:Obj}{d:Addr}{vs:List (List Key×V)}{kvs:List (List Key×PV)}(e:vs.map (·.1)=kvs.map (·.1)):ItOn K (fun H'=>H' d=some (.frz o (.dT vs))) (ItTk o d vs) (kvs.map fun p=>zK p.1) where
 go:=fun i H' l s=>⟨by
  have:(vs.map (·.1)).length=(kvs.map (·.1)).length:=by rw [e]
  rw [List.length_map,List.length_map] at this;rw [List.length_map] at l
  omega,s⟩
 yl:=fun i H' x H'' s y=>⟨y.1,fun t et=>by
  obtain ⟨p,b,hp,rfl,hb⟩:=y.2;have h1:(vs.map (·.1))[i]?=some p.1:=by rw [List.getElem?_map,hp]; rfl
  rw [e,List.getElem?_map] at h1;rw [List.getElem?_map] at et
  cases z:kvs[i]? with
  | none=>rw [z] at et; cases et
  | some q =>
   rw [z] at et h1;cases et;have h1:q.1=p.1:=Option.some.inj h1;show Rep K H' (.ref b) (zK q.1);rw [h1]
   exact .tup hb (cA p.1)⟩
 st:=fun H' s=>⟨by
  have:(vs.map (·.1)).length=(kvs.map (·.1)).length:=by rw [e]
  rw [List.length_map,List.length_map] at this;rw [List.length_map]
  omega,s⟩
theorem Yk {elt iter:Expr}{x:Str}{px:Pos}{ifs:List Expr}{scope:Scope}{ce:TCE}{t:TCT}{c:TCE}
  (hc:X.calm=true) (hN:(x::X.N).Nodup) (K:∃ cl,yM X x scope cl) (hi:CE X iter ce)
  (ht:∀ cl fp C s₂ H₂,CF (pZ X x scope cl fp C s₂ H₂) ifs t) (he:∀ cl fp C s₂ H₂,CE (pZ X x scope cl fp C s₂ H₂) elt c)
  (hs:∀ v,foldedSetIterable iter X.env v=pure v:=by intro _; rfl):CE X (.ListComp elt [⟨.Name x px,iter,ifs,0⟩] scope pos) (QH ce t c) :=
 ⟨JE.weak (WI (zP (te:=jK X.K (Rep X.K) c) (tc:=jK X.K mL t) hc hN K (WG hi.h) (fun cl fp C s₂ H₂=>(ht cl fp C s₂ H₂).h) (fun cl fp C s₂ H₂=>(he cl fp C s₂ H₂).h) hs)) fun σ H Q ⟨ρ,C,R,s,h,q,f⟩=>by
  unfold QH at q
  exact ⟨ρ,C,_,s,h,q,fun xv H1 px C1 q1 rx h1 f1=>by
   split at q1
   ·next d =>
    split at q1
    ·next kvs e =>
     obtain ⟨vs,ev,r⟩:=h1 d _ e;cases rx;refine ⟨d,vs,rfl,ev,fun o nf D hD => ?_⟩;have m:Imm H1 (upd H1 d (.frz o (.dT vs))):=Imm.mut ev rfl _;have h2:HRel X.K (upd H1 d (.frz o (.dT vs))) (nQ C1 d (.fT kvs)):=h1.put ev rfl ⟨o,vs,eQ,Paired.mapP r fun _ _ z=>⟨z.1,z.2.imm m⟩⟩;have f2:Fw H1 C1 (upd H1 d (.frz o (.dT vs))) (nQ C1 d (.fT kvs)):=Fw.put e _ _
     have stays:∀ H' C',Fw (upd H1 d (.frz o (.dT vs))) (nQ C1 d (.fT kvs)) H' C'→H' d=some (.frz o (.dT vs)):=fun H' C' g=>by
      have:=(g d (by rw [xQ]; rfl) (by rw [eQ]; exact fun z=>nomatch z)).2;rw [this,eQ]
     refine JH (Q:=fun v H'=>∃ d o kvs,H' d=some (.frz o (.dT kvs))∧NF X d∧Q v (upd H' d (.dT kvs))) (H0:=upd H1 d (.frz o (.dT vs))) (C0:=nQ C1 d (.fT kvs)) (WN r.keys) (fun H' C' _ g=>stays H' C' g) ((s.imm (f1.imm h)).imm m) h2 q1 h2 Fw.refl (fun v H' p C' q' r' h' f' => ?_) hD;obtain ⟨e1,q2⟩:=q';have e2:=stays H' C' f';refine ⟨d,o,vs,e2,nf,?_⟩;have m':Imm H' (upd H' d (.dT vs)):=Imm.mut e2 rfl _
     obtain ⟨o',vs',e3,r3⟩:=h' d _ e1;rw [e2] at e3;cases e3;refine f v _ p _ q2 (r'.imm m') (h'.put e2 rfl ⟨vs,eQ,Paired.mapP r3 fun _ _ z=>⟨z.1,z.2.imm m'⟩⟩) ?_;intro a ca na;obtain ⟨x1,x2⟩:=(f1.trans (f2.trans f')) a ca na
     have ne:a≠d:=fun z=>by
      subst z;obtain ⟨y1,y2⟩:=f1 a ca na;rw [← y1,e] at ca;cases ca
     exact ⟨(bQ ne).trans x1,(aQ ne).trans x2⟩
    ·exact q1.elim
   ·exact q1.elim⟩⟩
def tOf:Option CO→Option (List (List Key×PV))
 | some (.dT kvs)=>some kvs
 | some (.fT kvs)=>some kvs
 | _=>none
theorem tOf_rd {K:PySem.W.Frag}{H:Hp}{C:CH}{a:Addr}{kvs:List (List Key×PV)}(h:HRel K H C) (e:tOf (C a)=some kvs):∃ vs,Rd H a (.dT vs)∧FP K H vs kvs:=by
 cases c:C a with
 | none=>rw [c] at e; cases e
 | some o =>
  rw [c] at e
  cases o with
  | dT l=>cases e; obtain ⟨vs,q,r⟩:=h a _ c; exact ⟨vs,.inl q,r⟩
  | fT l=>cases e; obtain ⟨o,vs,q,r⟩:=h a _ c; exact ⟨vs,.inr ⟨o,q⟩,r⟩
  | _=>cases e
@[irreducible] def cTIy:R2C:=fun x y C Q=>match x with
 | .ref a=>match tOf (C a),bM y with
  | some kvs,some k=>match iV kvs k with
   | some v=>Q v C
   | none=>False
  | _,_=>False
 | _=>False
theorem ce_tiy {o i:Expr}{co ci:TCE}(hu:X.A.units+1 < cLine) (ho:CE X o co) (hi:CE X i ci) (hs:Za i):CE X (.Subscript o i pos) (cOp cTIy co ci):=⟨JE.weak (Qs hu ho.h hi.h hs) fun σ H Q ⟨ρ,C,R,s,h,q,f⟩ =>
 ⟨ρ,C,_,s,h,q,fun x H1 px C1 q1 rx h1 f1=>⟨ρ,C1,_,s.imm (f1.imm h),h1,q1,fun y H2 py C2 q2 ry h2 f2=>by
  unfold cTIy at q2
  split at q2
  ·next a =>
   split at q2
   ·next kvs k e1 e2 =>
    split at q2
    ·next t e3 =>
     have rx2:=rx.imm (f2.imm h1);cases rx2;obtain ⟨vs,ev,r⟩:=tOf_rd h2 e1;obtain ⟨b,rfl,eb⟩:=iY ry e2
     rcases FP.val r k with ⟨v,t',l1,l2,rv⟩ | ⟨_,l2⟩
     ·rw [e3] at l2
      cases l2;exact ⟨a,v,rfl,.inr ⟨vs,k,b,ev,rfl,eb,l1.symm⟩,f v H2 t C2 q2 rv h2 (f1.trans f2)⟩
     ·rw [e3] at l2; cases l2
    ·exact q2.elim
   ·exact q2.elim
  ·exact q2.elim⟩⟩⟩
end
end CL
namespace L2
open PySem PySem.Spec PyProof.Rows
section
variable {X:Cx}
theorem WD {i:Nat}{y:Str}{xs:List Str}{tg:Expr}{g:TG}{py pos spos:Pos}{elt iter:Expr}{ifs:List Expr}{scope:Scope}{cl:List (Str×Addr)}{wi:TI}{tc:TT}{te:TE}
  (hNd:X.N.Nodup) (hi:X.N[i]?=some y) (hy:Loc X.env.scope y) (hc:X.calm=true) (K:oW X xs scope cl) (hg:∀ fp C s₂ H₂,PG (cxN X xs scope cl fp C s₂ H₂) tg g) (hG:∀ ws vs a σ H Q,ws.length=xs.length→SqT X.K H a vs→vs.length=xs.length→Q (vs.map some++σ) H→g (.ref a) (ws++σ) H Q) (hI:JI X tg iter wi)
  (ht:∀ fp C s₂ H₂,JF (cxN X xs scope cl fp C s₂ H₂) ifs tc) (he:∀ fp C s₂ H₂,JE (cxN X xs scope cl fp C s₂ H₂) elt te)
  (hs:∀ v,foldedSetIterable iter X.env v=pure v:=by intro _; rfl)
  (hsw:swapsWith (.ListComp elt [⟨tg,iter,ifs,0⟩] scope pos) (some (.Name y py)) spos.line X.env=pure true:=by rfl)
  (hf:X.fn y=true∨X.env.scope.names.lookup y=some .local:=by first | exact .inl rfl | exact .inr rfl | assumption) :
  JS X (.Assign [.Name y py] (.ListComp elt [⟨tg,iter,ifs,0⟩] scope pos) spos) (Vw (Zi X.K xs.length wi tc te) (uM i)):=by
 refine ⟨fun pins s σ H D I h => ?_⟩;rw [exec_Assign_Name_used _ _ _ _ hsw];refine wpAny_bind (wpAny_standAt (wpAny_bind (wpAny_bind (wpAny_comprehension_free (use:=some (assign (.Name y py) X.env)) rfl hs K.clos K.kind K.names (thn (hI.h pins s σ H _ I h) fun xv s₁ h₁=>thn h₁ fun itv s₂ h₂ => ?_)))));obtain ⟨it,fp,tn,J,H₂,e,I₂,T,st₂,f₂,R⟩:=h₂;subst e;refine mC (Q:=fun x H1=>uM i x σ H1 D.nx) hc K hg (fun fp C s₂ H₂=>(ht fp C s₂ H₂).h) (fun fp C s₂ H₂=>(he fp C s₂ H₂).h) (fun ws vs a H Q=>hG ws vs a σ H Q) I₂ T st₂ f₂ R ?_
 intro D' C H' s4 m hn hCL hC0 hCc hCsz I4 q;refine wpAny_assign_Name (jA I4 hNd hi hy (v:=.ref D') rfl (fun s5 I5 hsb => ?_) hf);obtain ⟨b,hsb,hb⟩:=hsb
 have hbC:C≠b:=by
  rcases hb with rfl | hb
  ·exact hCL
  ·exact fun z=>hCc _ _ hb z.symm
 refine ⟨m,hn.at' fun o e=>(hsb.2 C hbC).trans e,fun h' hsb'=>wpAny_pure (wpAny_pure ?_)⟩;refine ⟨_,H',?_,q⟩;refine I5.turned (it:=C) (t':=s5.toks) (fun b o hb e=>(hsb'.2 b hb).trans e) hC0 hCL (.inr (Nat.le_trans I₂.sz hCsz)) hCc fun p hp z => ?_;exact absurd (Nat.lt_of_lt_of_le (Heap.lt_size (I₂.pin p hp).1) (by rw [z]; exact hCsz)) (Nat.lt_irrefl _)
end
end L2
namespace CL
open PySem PySem.Spec L2 PySem.W
open PyProof.Rows hiding St
theorem Ya {X:Cx}{i:Nat}{w x y z:Str}{py p1 p2 p3 p pos spos:Pos}{k:Nat}{elt iter:Expr}{ifs:List Expr}{scope:Scope}{wi:TI}{ci:CSt→CH→(List PV→CH→Prop)→Prop}{t:TCT}{c:TCE}
  (hNd:X.N.Nodup) (hi:X.N[i]?=some w) (hy:Loc X.env.scope w) (hc:X.calm=true) (hN:(x::y::z::X.N).Nodup) (K:∃ cl,oW X [x,y,z] scope cl) (hI:CI X (.Tuple [.Name x p1,.Name y p2,.Name z p3] k p) iter wi ci)
  (ht:∀ cl fp C s₂ H₂,CF (cxN X [x,y,z] scope cl fp C s₂ H₂) ifs t) (he:∀ cl fp C s₂ H₂,CE (cxN X [x,y,z] scope cl fp C s₂ H₂) elt c)
  (hs:∀ v,foldedSetIterable iter X.env v=pure v:=by intro _; rfl)
  (hsw:swapsWith (.ListComp elt [⟨.Tuple [.Name x p1,.Name y p2,.Name z p3] k p,iter,ifs,0⟩] scope pos) (some (.Name w py)) spos.line X.env=pure true:=by rfl)
  (hf:X.fn w=true∨X.env.scope.names.lookup w=some .local:=by first | exact .inl rfl | exact .inr rfl | assumption) :
  CS X (.Assign [.Name w py] (.ListComp elt [⟨.Tuple [.Name x p1,.Name y p2,.Name z p3] k p,iter,ifs,0⟩] scope pos) spos) (cSet i (QI 3 ci t c)):=by
 obtain ⟨cl,K⟩:=K;refine ⟨JS.weak (WD (te:=jK X.K (Rep X.K) c) (tc:=jK X.K mL t) (xs:=[x,y,z]) hNd hi hy hc K (fun _ _ _ _=>pg3 hc hN K) gok3 hI.j (fun fp C s₂ H₂=>(ht cl fp C s₂ H₂).h) (fun fp C s₂ H₂=>(he cl fp C s₂ H₂).h) hs hsw hf) fun D σ H ⟨ρ,C,E,s,h,q,f⟩ => ?_⟩;exact nT (Q:=fun x H'=>D.nx (σ.set i (some x)) H') hI ⟨ρ,C,_,s,h,q,fun x H1 px C1 q1 rx h1 f1=>f.nx _ H1 _ C1 q1 ((s.imm (f1.imm h)).set rx i) h1 f1⟩
end CL
namespace K31
open PySem L2
abbrev U0:List Str:=["_law_tape_here","_law_kit","_law_turns","_law_deep"]
abbrev U1:List Str:=["_law_line_here","_law_spot","_law_answers_here","_law_turns","_law_reads","_law_number_here","_law_hands_here","_law_event","_law_rank","_law_last","_law_changes","_law_some","_law_sets"]
abbrev U2:List Str:=["_law_tape_here","_law_kit","_law_turns"]
abbrev U3:List Str:=["_law_lines_here","_law_asked","_law_turns","_law_found","_law_counts"]
abbrev U4:List Str:=["_law_tape_here","_law_names_here","_law_k","_law_keyed","_law_many","_law_boxes_here","_law_kit","_law_first","_law_lines_here","_law_work_names","_law_works"]
abbrev U5:List Str:=["_law_one","_law_answers_here","_law_turns","_law_reads"]
abbrev U6:List Str:=["_law_house_here","_law_values_here","_law_due"]
abbrev U7:List Str:=["_law_pairs_here","_law_answers_here","_law_turns","_law_reads"]
abbrev U8:List Str:=["_law_line_here","_law_spot","_law_answers_here","_law_turns","_law_reads"]
abbrev U9:List Str:=["_law_lines_here","_law_answers_here","_law_turns","_law_reads"]
abbrev U10:List Str:=["_law_row_here","_law_spots","_law_downs"]
abbrev U11:List Str:=["_law_entries","_law_path","_law_row_here","_law_base","_law_ahead","_law_found","_law_want","_law_here","_law_label","_law_hands_here","_law_inner"]
abbrev U12:List Str:=["_law_entries","_law_path","_law_row_here","_law_base","_law_ahead"]
abbrev U13:List Str:=["_law_tape_here","_law_kit","_law_deep"]
abbrev U14:List Str:=["_law_tape_here","_law_many"]
abbrev U15:List Str:=["_law_part_here","_law_answers_here","_law_reads","_law_row_here","_law_works"]
abbrev U16:List Str:=["_law_tape_here","_law_names_here","_law_k","_law_keyed"]
abbrev U17:List Str:=["_law_tape_here","_law_kit","_law_turns","_law_most"]
abbrev U18:List Str:=["_law_tape_here","_law_kit","_law_turns","_law_name"]
abbrev U19:List Str:=["_law_tape_here","_law_part_here"]
abbrev U20:List Str:=["_law_house_here","_law_values_here"]
abbrev U21:List Str:=["_law_house_here","_law_name"]
abbrev U22:List Str:=["rows","path","spots","label","row"]
abbrev U23:List Str:=["_law_tape_here","_law_kit","_law_turns","_law_deep","_law_way","_law_word","_law_many"]
abbrev U24:List Str:=["_law_tape_here","_law_kit","_law_turns","_law_name","_law_key_here","_law_names_here"]
abbrev U25:List Str:=["_law_tape_here"]
abbrev U26:List Str:=["_law_part_here","_law_answers_here"]
abbrev U27:List Str:=["_law_tape_here","_law_house_here"]
abbrev U28:List Str:=["_law_tape_here","_law_kit","_law_turns","_law_most","_law_names_here"]
abbrev U29:List Str:=["_law_tape_here","_law_many","_law_pool","_law_start","_law_stride"]
abbrev U30:List Str:=["rows","path","spots","want"]
abbrev U31:List Str:=["_law_tape_here","_law_kit","_law_turns","_law_way"]
abbrev U32:List Str:=["_law_downs","_law_more"]
abbrev U33:List Str:=["_law_one","_law_other"]
abbrev U34:List Str:=["_law_thing_here","_law_kinds","_law_names_here"]
abbrev U35:List Str:=["_law_tape_here","_law_names_here","_law_keyed"]
abbrev U36:List Str:=["_law_one","_law_other","_law_kind_here"]
abbrev U37:List Str:=["_law_thing_here"]
abbrev U38:List Str:=["rows","path","spots","want","hands"]
abbrev U39:List Str:=["_law_drawing"]
def top (i:Nat):Stmt:=PySem.Challenge.pw_viewwood_k31_whole_trees_of_drawings.main.body.getD i (.Pass ⟨0,0,0,0⟩)
abbrev fV:Stmt:=top 1
abbrev uK:Stmt:=top 2
abbrev kW:Stmt:=top 3
abbrev eW:Stmt:=top 5
abbrev zY:Stmt:=top 6
abbrev rK:Stmt:=top 7
abbrev yK:Stmt:=top 8
abbrev iW:Stmt:=top 9
abbrev pY:Stmt:=top 10
abbrev nG:Stmt:=top 11
abbrev lK:Stmt:=top 12
abbrev rV:Stmt:=top 13
abbrev pV:Stmt:=top 14
abbrev cZ:Stmt:=top 15
abbrev qY:Stmt:=top 16
abbrev aW:Stmt:=top 17
abbrev lV:Stmt:=top 18
abbrev wV:Stmt:=top 19
abbrev sK:Stmt:=top 20
abbrev xJ:Stmt:=top 21
abbrev kJ:Stmt:=top 22
abbrev cK:Stmt:=top 23
abbrev cJ:Stmt:=top 24
abbrev rG:Stmt:=top 25
abbrev aJ:Stmt:=top 26
abbrev jW:Stmt:=top 27
abbrev cV:Stmt:=top 28
abbrev nK:Stmt:=top 29
abbrev lJ:Stmt:=top 30
abbrev vK:Stmt:=top 31
abbrev nV:Stmt:=top 32
abbrev oK:Stmt:=top 33
abbrev wK:Stmt:=top 34
abbrev xW:Stmt:=top 35
abbrev tK:Stmt:=top 36
abbrev aZ:Stmt:=top 37
abbrev tW:Stmt:=top 38
abbrev lG:Stmt:=top 39
set_option genInjectivity false in
structure Adr where
 tree_of:Addr
 pH:FuncData
 boxes_in:Addr
 oB:FuncData
 box_of:Addr
 bO:FuncData
 Ql:Addr
 kO:FuncData
 Qq:Addr
 gO:FuncData
 vR:Addr
 lH:FuncData
 qP:Addr
 lD:FuncData
 Qo:Addr
 yO:FuncData
 sT:Addr
 oF:FuncData
 Jk:Addr
 Qw:FuncData
 kR:Addr
 cH:FuncData
 uR:Addr
 sH:FuncData
 iL:Addr
 tF:FuncData
 iG:Addr
 mU:FuncData
 bH:Addr
 jF:FuncData
 eM:Addr
 mG:FuncData
 eK:Addr
 jJ:FuncData
 Qm:Addr
 vO:FuncData
 yR:Addr
 nH:FuncData
 gV:Addr
 aK:FuncData
 lF:Addr
 zF:FuncData
 aL:Addr
 sF:FuncData
 hW:Addr
 tV:FuncData
 Xz:Addr
 cR:FuncData
 xR:Addr
 dH:FuncData
 Qn:Addr
 wO:FuncData
 bB:Addr
 tY:FuncData
 wR:Addr
 rH:FuncData
 rF:Addr
 xF:FuncData
 tL:Addr
 dD:FuncData
 gR:Addr
 oH:FuncData
 bR:Addr
 tH:FuncData
 eL:Addr
 cD:FuncData
 Qp:Addr
 uO:FuncData
 mR:Addr
 aH:FuncData
 mB:Addr
 sB:FuncData
 Qk:Addr
 xO:FuncData
 law:Addr
 XS:FuncData
structure Txt (P:Program) (w:World) (K:PySem.W.Frag) (mg:Str→Option Value) (a:Adr):Prop where
 z_abs:mg "abs" = none
 z_all:mg "all" = none
 z_bool:mg "bool" = none
 Vi:mg "dict" = none
 zL:mg "int" = none
 zW:mg "isinstance" = none
 bV:mg "len" = none
 Vh:mg "list" = none
 z_max:mg "max" = none
 z_min:mg "min" = none
 fY:mg "range" = none
 iR:mg "sorted" = none
 z_str:mg "str" = none
 bZ:mg "tuple" = none
 Kq:mg "tree_of" = some (.ref a.tree_of)
 gN:Fun K "tree_of" "tree_of" fV a.tree_of a.pH
 gB:mg "boxes_in" = some (.ref a.boxes_in)
 qL:Fun K "boxes_in" "boxes_in" uK a.boxes_in a.oB
 Wq:mg "box_of" = some (.ref a.box_of)
 fE:Fun K "box_of" "box_of" kW a.box_of a.bO
 Wn:mg "_law_tape" = some (.ref a.Ql)
 kE:Fun K "_law_tape" "_law_tape" eW a.Ql a.kO
 wX:mg "_law_draw" = some (.ref a.Qq)
 mE:Fun K "_law_draw" "_law_draw" zY a.Qq a.gO
 nY:mg "_law_names" = some (.ref a.vR)
 cN:Fun K "_law_names" "_law_names" rK a.vR a.lH
 bD:mg "_law_number" = some (.ref a.qP)
 iD:Fun K "_law_number" "_law_number" yK a.qP a.lD
 cT:mg "_law_leaf" = some (.ref a.Qo)
 uE:Fun K "_law_leaf" "_law_leaf" iW a.Qo a.yO
 uB:mg "_law_sum" = some (.ref a.sT)
 QR:Fun K "_law_sum" "_law_sum" pY a.sT a.oF
 Qi:mg "_law_key" = some (.ref a.Jk)
 QT:Fun K "_law_key" "_law_key" nG a.Jk a.Qw
 Kv:mg "_law_pairs" = some (.ref a.kR)
 dN:Fun K "_law_pairs" "_law_pairs" lK a.kR a.cH
 Kx:mg "_law_hands" = some (.ref a.uR)
 sN:Fun K "_law_hands" "_law_hands" rV a.uR a.sH
 Ks:mg "_law_plain" = some (.ref a.iL)
 mN:Fun K "_law_plain" "_law_plain" pV a.iL a.tF
 yD:mg "_law_part_line" = some (.ref a.iG)
 pU:Fun K "_law_part_line" "_law_part_line" cZ a.iG a.mU
 Wp:mg "_law_each" = some (.ref a.bH)
 bE:Fun K "_law_each" "_law_each" qY a.bH a.jF
 Xu:mg "_law_line" = some (.ref a.eM)
 yE:Fun K "_law_line" "_law_line" aW a.eM a.mG
 sU:mg "_law_lines" = some (.ref a.eK)
 rN:Fun K "_law_lines" "_law_lines" lV a.eK a.jJ
 Wo:mg "_law_part" = some (.ref a.Qm)
 vE:Fun K "_law_part" "_law_part" wV a.Qm a.vO
 Kw:mg "_law_house" = some (.ref a.yR)
 nN:Fun K "_law_house" "_law_house" sK a.yR a.nH
 hZ:mg "_law_reckoned" = some (.ref a.gV)
 vM:Fun K "_law_reckoned" "_law_reckoned" xJ a.gV a.aK
 vC:mg "_law_numbers" = some (.ref a.lF)
 gF:Fun K "_law_numbers" "_law_numbers" kJ a.lF a.zF
 Kr:mg "_law_thing" = some (.ref a.aL)
 bN:Fun K "_law_thing" "_law_thing" cK a.aL a.sF
 sM:mg "_law_brought" = some (.ref a.hW)
 bF:Fun K "_law_brought" "_law_brought" cJ a.hW a.tV
 Qh:mg "_law_row" = some (.ref a.Xz)
 QS:Fun K "_law_row" "_law_row" rG a.Xz a.cR
 Ku:mg "_law_piece" = some (.ref a.xR)
 fN:Fun K "_law_piece" "_law_piece" aJ a.xR a.dH
 Xt:mg "_law_over" = some (.ref a.Qn)
 wE:Fun K "_law_over" "_law_over" jW a.Qn a.wO
 wH:mg "_law_parts" = some (.ref a.bB)
 pN:Fun K "_law_parts" "_law_parts" cV a.bB a.tY
 yH:mg "_law_named" = some (.ref a.wR)
 lN:Fun K "_law_named" "_law_named" nK a.wR a.rH
 Xw:mg "_law_answers" = some (.ref a.rF)
 mF:Fun K "_law_answers" "_law_answers" lJ a.rF a.xF
 pT:mg "_law_within" = some (.ref a.tL)
 eD:Fun K "_law_within" "_law_within" vK a.tL a.dD
 uH:mg "_law_fresh" = some (.ref a.gR)
 oN:Fun K "_law_fresh" "_law_fresh" nV a.gR a.oH
 Ky:mg "_law_boxes" = some (.ref a.bR)
 tN:Fun K "_law_boxes" "_law_boxes" oK a.bR a.tH
 ZB:mg "_law_values" = some (.ref a.eL)
 aD:Fun K "_law_values" "_law_values" wK a.eL a.cD
 Xv:mg "_law_kind" = some (.ref a.Qp)
 gE:Fun K "_law_kind" "_law_kind" xW a.Qp a.uO
 iA:mg "_law_alike" = some (.ref a.mR)
 eN:Fun K "_law_alike" "_law_alike" tK a.mR a.aH
 cY:mg "_law_boxes_of" = some (.ref a.mB)
 wM:Fun K "_law_boxes_of" "_law_boxes_of" aZ a.mB a.sB
 Wm:mg "_law_tree" = some (.ref a.Qk)
 xE:Fun K "_law_tree" "_law_tree" tW a.Qk a.xO
 m_law:mg "law" = some (.ref a.law)
 F_law:Fun K "law" "law" lG a.law a.XS
section
variable {P:Program}{w:World}{K:PySem.W.Frag}{mg:Str→Option Value}{a:Adr}
theorem Txt.k_tree_of (T:Txt P w K mg a):PySem.W.keepIn K (.ref a.tree_of)=true:=T.gN.kp
theorem Txt.b_tree_of (T:Txt P w K mg a):Binds K a.pH ["drawing"] []:=T.gN.binds (ps:=["drawing"]) fun _ _ _ _ _ _ us hl=>match us,hl with | [_],_=>rfl
theorem Txt.k_boxes_in (T:Txt P w K mg a):PySem.W.keepIn K (.ref a.boxes_in)=true:=T.qL.kp
theorem Txt.b_boxes_in (T:Txt P w K mg a):Binds K a.oB U22 []:=T.qL.binds (ps:=U22) fun _ _ _ _ _ _ us hl=>match us,hl with | [_,_,_,_,_],_=>rfl
theorem Txt.k_box_of (T:Txt P w K mg a):PySem.W.keepIn K (.ref a.box_of)=true:=T.fE.kp
theorem Txt.b_box_of (T:Txt P w K mg a):Binds K a.bO U30 []:=T.fE.binds (ps:=U30) fun _ _ _ _ _ _ us hl=>match us,hl with | [_,_,_,_],_=>rfl
theorem Txt.k_l_tape (T:Txt P w K mg a):PySem.W.keepIn K (.ref a.Ql)=true:=T.kE.kp
theorem Txt.b_l_tape (T:Txt P w K mg a):Binds K a.kO ["_law_script"] []:=T.kE.binds (ps:=["_law_script"]) fun _ _ _ _ _ _ us hl=>match us,hl with | [_],_=>rfl
theorem Txt.k_l_draw (T:Txt P w K mg a):PySem.W.keepIn K (.ref a.Qq)=true:=T.mE.kp
theorem Txt.b_l_draw (T:Txt P w K mg a):Binds K a.gO U14 []:=T.mE.binds (ps:=U14) fun _ _ _ _ _ _ us hl=>match us,hl with | [_,_],_=>rfl
theorem Txt.k_l_names (T:Txt P w K mg a):PySem.W.keepIn K (.ref a.vR)=true:=T.cN.kp
theorem Txt.b_l_names (T:Txt P w K mg a):Binds K a.lH U14 []:=T.cN.binds (ps:=U14) fun _ _ _ _ _ _ us hl=>match us,hl with | [_,_],_=>rfl
theorem Txt.k_l_number (T:Txt P w K mg a):PySem.W.keepIn K (.ref a.qP)=true:=T.iD.kp
theorem Txt.b_l_number (T:Txt P w K mg a):Binds K a.lD U25 []:=T.iD.binds (ps:=U25) fun _ _ _ _ _ _ us hl=>match us,hl with | [_],_=>rfl
theorem Txt.k_l_leaf (T:Txt P w K mg a):PySem.W.keepIn K (.ref a.Qo)=true:=T.uE.kp
theorem Txt.b_l_leaf (T:Txt P w K mg a):Binds K a.yO U2 []:=T.uE.binds (ps:=U2) fun _ _ _ _ _ _ us hl=>match us,hl with | [_,_,_],_=>rfl
theorem Txt.k_l_sum (T:Txt P w K mg a):PySem.W.keepIn K (.ref a.sT)=true:=T.QR.kp
theorem Txt.b_l_sum (T:Txt P w K mg a):Binds K a.oF U0 []:=T.QR.binds (ps:=U0) fun _ _ _ _ _ _ us hl=>match us,hl with | [_,_,_,_],_=>rfl
theorem Txt.k_l_key (T:Txt P w K mg a):PySem.W.keepIn K (.ref a.Jk)=true:=T.QT.kp
theorem Txt.b_l_key (T:Txt P w K mg a):Binds K a.Qw U2 []:=T.QT.binds (ps:=U2) fun _ _ _ _ _ _ us hl=>match us,hl with | [_,_,_],_=>rfl
theorem Txt.k_l_pairs (T:Txt P w K mg a):PySem.W.keepIn K (.ref a.kR)=true:=T.dN.kp
theorem Txt.b_l_pairs (T:Txt P w K mg a):Binds K a.cH U17 []:=T.dN.binds (ps:=U17) fun _ _ _ _ _ _ us hl=>match us,hl with | [_,_,_,_],_=>rfl
theorem Txt.k_l_hands (T:Txt P w K mg a):PySem.W.keepIn K (.ref a.uR)=true:=T.sN.kp
theorem Txt.b_l_hands (T:Txt P w K mg a):Binds K a.sH U2 []:=T.sN.binds (ps:=U2) fun _ _ _ _ _ _ us hl=>match us,hl with | [_,_,_],_=>rfl
theorem Txt.k_l_plain (T:Txt P w K mg a):PySem.W.keepIn K (.ref a.iL)=true:=T.mN.kp
theorem Txt.b_l_plain (T:Txt P w K mg a):Binds K a.tF U0 []:=T.mN.binds (ps:=U0) fun _ _ _ _ _ _ us hl=>match us,hl with | [_,_,_,_],_=>rfl
theorem Txt.k_l_part_line (T:Txt P w K mg a):PySem.W.keepIn K (.ref a.iG)=true:=T.pU.kp
theorem Txt.b_l_part_line (T:Txt P w K mg a):Binds K a.mU U18 []:=T.pU.binds (ps:=U18) fun _ _ _ _ _ _ us hl=>match us,hl with | [_,_,_,_],_=>rfl
theorem Txt.k_l_each (T:Txt P w K mg a):PySem.W.keepIn K (.ref a.bH)=true:=T.bE.kp
theorem Txt.b_l_each (T:Txt P w K mg a):Binds K a.jF U13 []:=T.bE.binds (ps:=U13) fun _ _ _ _ _ _ us hl=>match us,hl with | [_,_,_],_=>rfl
theorem Txt.k_l_line (T:Txt P w K mg a):PySem.W.keepIn K (.ref a.eM)=true:=T.yE.kp
theorem Txt.b_l_line (T:Txt P w K mg a):Binds K a.mG U0 []:=T.yE.binds (ps:=U0) fun _ _ _ _ _ _ us hl=>match us,hl with | [_,_,_,_],_=>rfl
theorem Txt.k_l_lines (T:Txt P w K mg a):PySem.W.keepIn K (.ref a.eK)=true:=T.rN.kp
theorem Txt.b_l_lines (T:Txt P w K mg a):Binds K a.jJ U0 []:=T.rN.binds (ps:=U0) fun _ _ _ _ _ _ us hl=>match us,hl with | [_,_,_,_],_=>rfl
theorem Txt.k_l_part (T:Txt P w K mg a):PySem.W.keepIn K (.ref a.Qm)=true:=T.vE.kp
theorem Txt.b_l_part (T:Txt P w K mg a):Binds K a.vO U16 []:=T.vE.binds (ps:=U16) fun _ _ _ _ _ _ us hl=>match us,hl with | [_,_,_,_],_=>rfl
theorem Txt.k_l_house (T:Txt P w K mg a):PySem.W.keepIn K (.ref a.yR)=true:=T.nN.kp
theorem Txt.b_l_house (T:Txt P w K mg a):Binds K a.nH U25 []:=T.nN.binds (ps:=U25) fun _ _ _ _ _ _ us hl=>match us,hl with | [_],_=>rfl
theorem Txt.k_l_reckoned (T:Txt P w K mg a):PySem.W.keepIn K (.ref a.gV)=true:=T.vM.kp
theorem Txt.b_l_reckoned (T:Txt P w K mg a):Binds K a.aK U5 []:=T.vM.binds (ps:=U5) fun _ _ _ _ _ _ us hl=>match us,hl with | [_,_,_,_],_=>rfl
theorem Txt.k_l_numbers (T:Txt P w K mg a):PySem.W.keepIn K (.ref a.lF)=true:=T.gF.kp
theorem Txt.b_l_numbers (T:Txt P w K mg a):Binds K a.zF U7 []:=T.gF.binds (ps:=U7) fun _ _ _ _ _ _ us hl=>match us,hl with | [_,_,_,_],_=>rfl
theorem Txt.k_l_thing (T:Txt P w K mg a):PySem.W.keepIn K (.ref a.aL)=true:=T.bN.kp
theorem Txt.b_l_thing (T:Txt P w K mg a):Binds K a.sF U8 []:=T.bN.binds (ps:=U8) fun _ _ _ _ _ _ us hl=>match us,hl with | [_,_,_,_,_],_=>rfl
theorem Txt.k_l_brought (T:Txt P w K mg a):PySem.W.keepIn K (.ref a.hW)=true:=T.bF.kp
theorem Txt.b_l_brought (T:Txt P w K mg a):Binds K a.tV U3 []:=T.bF.binds (ps:=U3) fun _ _ _ _ _ _ us hl=>match us,hl with | [_,_,_,_,_],_=>rfl
theorem Txt.k_l_row (T:Txt P w K mg a):PySem.W.keepIn K (.ref a.Xz)=true:=T.QS.kp
theorem Txt.b_l_row (T:Txt P w K mg a):Binds K a.cR U9 []:=T.QS.binds (ps:=U9) fun _ _ _ _ _ _ us hl=>match us,hl with | [_,_,_,_],_=>rfl
theorem Txt.k_l_piece (T:Txt P w K mg a):PySem.W.keepIn K (.ref a.xR)=true:=T.fN.kp
theorem Txt.b_l_piece (T:Txt P w K mg a):Binds K a.dH U26 []:=T.fN.binds (ps:=U26) fun _ _ _ _ _ _ us hl=>match us,hl with | [_,_],_=>rfl
theorem Txt.k_l_over (T:Txt P w K mg a):PySem.W.keepIn K (.ref a.Qn)=true:=T.wE.kp
theorem Txt.b_l_over (T:Txt P w K mg a):Binds K a.wO U32 []:=T.wE.binds (ps:=U32) fun _ _ _ _ _ _ us hl=>match us,hl with | [_,_],_=>rfl
theorem Txt.k_l_parts (T:Txt P w K mg a):PySem.W.keepIn K (.ref a.bB)=true:=T.pN.kp
theorem Txt.b_l_parts (T:Txt P w K mg a):Binds K a.tY U10 []:=T.pN.binds (ps:=U10) fun _ _ _ _ _ _ us hl=>match us,hl with | [_,_,_],_=>rfl
theorem Txt.k_l_named (T:Txt P w K mg a):PySem.W.keepIn K (.ref a.wR)=true:=T.lN.kp
theorem Txt.b_l_named (T:Txt P w K mg a):Binds K a.rH U21 []:=T.lN.binds (ps:=U21) fun _ _ _ _ _ _ us hl=>match us,hl with | [_,_],_=>rfl
theorem Txt.k_l_answers (T:Txt P w K mg a):PySem.W.keepIn K (.ref a.rF)=true:=T.mF.kp
theorem Txt.b_l_answers (T:Txt P w K mg a):Binds K a.xF U6 []:=T.mF.binds (ps:=U6) fun _ _ _ _ _ _ us hl=>match us,hl with | [_,_,_],_=>rfl
theorem Txt.k_l_within (T:Txt P w K mg a):PySem.W.keepIn K (.ref a.tL)=true:=T.eD.kp
theorem Txt.b_l_within (T:Txt P w K mg a):Binds K a.dD U6 []:=T.eD.binds (ps:=U6) fun _ _ _ _ _ _ us hl=>match us,hl with | [_,_,_],_=>rfl
theorem Txt.k_l_fresh (T:Txt P w K mg a):PySem.W.keepIn K (.ref a.gR)=true:=T.oN.kp
theorem Txt.b_l_fresh (T:Txt P w K mg a):Binds K a.oH U20 []:=T.oN.binds (ps:=U20) fun _ _ _ _ _ _ us hl=>match us,hl with | [_,_],_=>rfl
theorem Txt.k_l_boxes (T:Txt P w K mg a):PySem.W.keepIn K (.ref a.bR)=true:=T.tN.kp
theorem Txt.b_l_boxes (T:Txt P w K mg a):Binds K a.tH U19 []:=T.tN.binds (ps:=U19) fun _ _ _ _ _ _ us hl=>match us,hl with | [_,_],_=>rfl
theorem Txt.k_l_values (T:Txt P w K mg a):PySem.W.keepIn K (.ref a.eL)=true:=T.aD.kp
theorem Txt.b_l_values (T:Txt P w K mg a):Binds K a.cD U27 []:=T.aD.binds (ps:=U27) fun _ _ _ _ _ _ us hl=>match us,hl with | [_,_],_=>rfl
theorem Txt.k_l_kind (T:Txt P w K mg a):PySem.W.keepIn K (.ref a.Qp)=true:=T.gE.kp
theorem Txt.b_l_kind (T:Txt P w K mg a):Binds K a.uO U37 []:=T.gE.binds (ps:=U37) fun _ _ _ _ _ _ us hl=>match us,hl with | [_],_=>rfl
theorem Txt.k_l_alike (T:Txt P w K mg a):PySem.W.keepIn K (.ref a.mR)=true:=T.eN.kp
theorem Txt.b_l_alike (T:Txt P w K mg a):Binds K a.aH U33 []:=T.eN.binds (ps:=U33) fun _ _ _ _ _ _ us hl=>match us,hl with | [_,_],_=>rfl
theorem Txt.k_l_boxes_of (T:Txt P w K mg a):PySem.W.keepIn K (.ref a.mB)=true:=T.wM.kp
theorem Txt.b_l_boxes_of (T:Txt P w K mg a):Binds K a.sB U12 []:=T.wM.binds (ps:=U12) fun _ _ _ _ _ _ us hl=>match us,hl with | [_,_,_,_,_],_=>rfl
theorem Txt.k_l_tree (T:Txt P w K mg a):PySem.W.keepIn K (.ref a.Qk)=true:=T.xE.kp
theorem Txt.b_l_tree (T:Txt P w K mg a):Binds K a.xO U39 []:=T.xE.binds (ps:=U39) fun _ _ _ _ _ _ us hl=>match us,hl with | [_],_=>rfl
theorem gS:yX ["drawing","rows","entry"] ["drawing"] (kQ fV):=⟨rfl,rfl,rfl,by decide +kernel,rfl,by decide +kernel,by decide +kernel⟩
theorem jC:yX ["rows","path","spots","label","row","told","want","here","under"] U22 (kQ uK):=⟨rfl,rfl,rfl,by decide +kernel,rfl,by decide +kernel,by decide +kernel⟩
theorem dA:yX U38 U30 (kQ kW):=⟨rfl,rfl,rfl,by decide +kernel,rfl,by decide +kernel,by decide +kernel⟩
theorem vA:yX ["_law_script"] ["_law_script"] (kQ eW):=⟨rfl,rfl,rfl,by decide +kernel,rfl,by decide +kernel,by decide +kernel⟩
theorem pA:yX ["_law_tape_here","_law_many","_law_script","_law_digit","_law_cell","_law_mixed"] U14 (kQ zY):=⟨rfl,rfl,rfl,by decide +kernel,rfl,by decide +kernel,by decide +kernel⟩
theorem cS:yX U29 U14 (kQ rK):=⟨rfl,rfl,rfl,by decide +kernel,rfl,by decide +kernel,by decide +kernel⟩
theorem zC:yX U25 U25 (kQ yK):=⟨rfl,rfl,rfl,by decide +kernel,rfl,by decide +kernel,by decide +kernel⟩
theorem gA:yX U31 U2 (kQ iW):=⟨rfl,rfl,rfl,by decide +kernel,rfl,by decide +kernel,by decide +kernel⟩
theorem Q4:yX U23 U0 (kQ pY):=⟨rfl,rfl,rfl,by decide +kernel,rfl,by decide +kernel,by decide +kernel⟩
theorem Q6:yX U31 U2 (kQ nG):=⟨rfl,rfl,rfl,by decide +kernel,rfl,by decide +kernel,by decide +kernel⟩
theorem dS:yX U28 U17 (kQ lK):=⟨rfl,rfl,rfl,by decide +kernel,rfl,by decide +kernel,by decide +kernel⟩
theorem oS:yX ["_law_tape_here","_law_kit","_law_turns","_law_hands_here","_law_event","_law_changes","_law_k","_law_box","_law_word"] U2 (kQ rV):=⟨rfl,rfl,rfl,by decide +kernel,rfl,by decide +kernel,by decide +kernel⟩
theorem mS:yX ["_law_tape_here","_law_kit","_law_turns","_law_deep","_law_key_here","_law_tag","_law_sets","_law_hands_here","_law_lines_here"] U0 (kQ pV):=⟨rfl,rfl,rfl,by decide +kernel,rfl,by decide +kernel,by decide +kernel⟩
theorem cM:yX U24 U18 (kQ cZ):=⟨rfl,rfl,rfl,by decide +kernel,rfl,by decide +kernel,by decide +kernel⟩
theorem fA:yX ["_law_tape_here","_law_kit","_law_deep","_law_name","_law_number_here","_law_spare","_law_lines_here","_law_k"] U13 (kQ qY):=⟨rfl,rfl,rfl,by decide +kernel,rfl,by decide +kernel,by decide +kernel⟩
theorem uA:yX ["_law_tape_here","_law_kit","_law_turns","_law_deep","_law_way","_law_name","_law_key_here","_law_number_here","_law_lines_here"] U0 (kQ aW):=⟨rfl,rfl,rfl,by decide +kernel,rfl,by decide +kernel,by decide +kernel⟩
theorem rS:yX ["_law_tape_here","_law_kit","_law_turns","_law_deep","_law_lines_here","_law_k"] U0 (kQ lV):=⟨rfl,rfl,rfl,by decide +kernel,rfl,by decide +kernel,by decide +kernel⟩
theorem wA:yX U4 U16 (kQ wV):=⟨rfl,rfl,rfl,by decide +kernel,rfl,by decide +kernel,by decide +kernel⟩
theorem sS:yX U35 U25 (kQ sK):=⟨rfl,rfl,rfl,by decide +kernel,rfl,by decide +kernel,by decide +kernel⟩
theorem kD:yX ["_law_one","_law_answers_here","_law_turns","_law_reads","_law_word","_law_first","_law_second","_law_found"] U5 (kQ xJ):=⟨rfl,rfl,rfl,by decide +kernel,rfl,by decide +kernel,by decide +kernel⟩
theorem uL:yX U7 U7 (kQ kJ):=⟨rfl,rfl,rfl,by decide +kernel,rfl,by decide +kernel,by decide +kernel⟩
theorem bS:yX U1 U8 (kQ cK):=⟨rfl,rfl,rfl,by decide +kernel,rfl,by decide +kernel,by decide +kernel⟩
theorem gL:yX ["_law_lines_here","_law_asked","_law_turns","_law_found","_law_counts","_law_answers_here","_law_reads","_law_line_here","_law_number_here","_law_k","_law_inner","_law_key_here"] U3 (kQ cJ):=⟨rfl,rfl,rfl,by decide +kernel,rfl,by decide +kernel,by decide +kernel⟩
theorem Q5:yX ["_law_lines_here","_law_answers_here","_law_turns","_law_reads","_law_found"] U9 (kQ rG):=⟨rfl,rfl,rfl,by decide +kernel,rfl,by decide +kernel,by decide +kernel⟩
theorem fS:yX U15 U26 (kQ aJ):=⟨rfl,rfl,rfl,by decide +kernel,rfl,by decide +kernel,by decide +kernel⟩
theorem yA:yX ["_law_downs","_law_more","_law_found","_law_name","_law_number_here"] U32 (kQ jW):=⟨rfl,rfl,rfl,by decide +kernel,rfl,by decide +kernel,by decide +kernel⟩
theorem pS:yX ["_law_row_here","_law_spots","_law_downs","_law_found","_law_want","_law_here"] U10 (kQ cV):=⟨rfl,rfl,rfl,by decide +kernel,rfl,by decide +kernel,by decide +kernel⟩
theorem lS:yX U21 U21 (kQ nK):=⟨rfl,rfl,rfl,by decide +kernel,rfl,by decide +kernel,by decide +kernel⟩
theorem bL:yX ["_law_house_here","_law_values_here","_law_due","_law_path","_law_name","_law_gives","_law_downs","_law_boxes_here","_law_answers_here","_law_sort","_law_pairs_here","_law_one","_law_number_here"] U6 (kQ lJ):=⟨rfl,rfl,rfl,by decide +kernel,rfl,by decide +kernel,by decide +kernel⟩
theorem iN:yX ["_law_house_here","_law_values_here","_law_due","_law_piece_here","_law_found","_law_spots","_law_name","_law_gives","_law_downs"] U6 (kQ vK):=⟨rfl,rfl,rfl,by decide +kernel,rfl,by decide +kernel,by decide +kernel⟩
theorem tS:yX U20 U20 (kQ nV):=⟨rfl,rfl,rfl,by decide +kernel,rfl,by decide +kernel,by decide +kernel⟩
theorem eS:yX U19 U19 (kQ oK):=⟨rfl,rfl,rfl,by decide +kernel,rfl,by decide +kernel,by decide +kernel⟩
theorem qC:yX ["_law_tape_here","_law_house_here","_law_values_here","_law_path","_law_name","_law_gives","_law_downs","_law_piece_here","_law_way","_law_part_here"] U27 (kQ wK):=⟨rfl,rfl,rfl,by decide +kernel,rfl,by decide +kernel,by decide +kernel⟩
theorem bA:yX U34 U37 (kQ xW):=⟨rfl,rfl,rfl,by decide +kernel,rfl,by decide +kernel,by decide +kernel⟩
theorem aS:yX U36 U33 (kQ tK):=⟨rfl,rfl,rfl,by decide +kernel,rfl,by decide +kernel,by decide +kernel⟩
theorem vD:yX U11 U12 (kQ aZ):=⟨rfl,rfl,rfl,by decide +kernel,rfl,by decide +kernel,by decide +kernel⟩
theorem kA:yX ["_law_drawing","_law_entries","_law_entry"] U39 (kQ tW):=⟨rfl,rfl,rfl,by decide +kernel,rfl,by decide +kernel,by decide +kernel⟩
theorem VC:yX ["_law_script","_law_tape_here","_law_house_here","_law_one","_law_other","_law_drawing","_law_handed","_law_found"] ["_law_script"] (kQ lG):=⟨rfl,rfl,rfl,by decide +kernel,rfl,by decide +kernel,by decide +kernel⟩
end
theorem txt_mk {P:Program}{w:World}{K:PySem.W.Frag}{h:Heap}{mg:Str→Option Value}(X:K.In h) (G:h.Ns mainGlobals mg)
  {f0 f1 f2 f3 f4 f5 f6 f7 f8 f9 f10 f11 f12 f13 f14 f15 f16 f17 f18 f19 f20 f21 f22 f23 f24 f25 f26 f27 f28 f29 f30 f31 f32 f33 f34 f35 f36 f37  : Addr} {od0 an0 od1 an1 od2 an2 od3 an3 od4 an4 od5 an5 od6 an6 od7 an7 od8 an8 od9 an9 od10 an10 od11 an11 od12 an12 od13 an13 od14 an14 od15 an15 od16 an16 od17 an17 od18 an18 od19 an19 od20 an20 od21 an21 od22 an22 od23 an23 od24 an24 od25 an25 od26 an26 od27 an27 od28 an28 od29 an29 od30 an30 od31 an31 od32 an32 od33 an33 od34 an34 od35 an35 od36 an36 od37 an37:Option Addr} {sl0 sl1 sl2 sl3 sl4 sl5 sl6 sl7 sl8 sl9 sl10 sl11 sl12 sl13 sl14 sl15 sl16 sl17 sl18 sl19 sl20 sl21 sl22 sl23 sl24 sl25 sl26 sl27 sl28 sl29 sl30 sl31 sl32 sl33 sl34 sl35 sl36 sl37:Array (Option Value)} {oc0 kV0 dc0 pm0 cd0 ct0 oc1 kV1 dc1 pm1 cd1 ct1 oc2 kV2 dc2 pm2 cd2 ct2 oc3 kV3 dc3 pm3 cd3 ct3 oc4 kV4 dc4 pm4 cd4 ct4 oc5 kV5 dc5 pm5 cd5 ct5 oc6 kV6 dc6 pm6 cd6 ct6 oc7 kV7 dc7 pm7 cd7 ct7 oc8 kV8 dc8 pm8 cd8 ct8 oc9 kV9 dc9 pm9 cd9 ct9 oc10 kV10 dc10 pm10 cd10 ct10 oc11 kV11 dc11 pm11 cd11 ct11 oc12 kV12 dc12 pm12 cd12 ct12 oc13 kV13 dc13 pm13 cd13 ct13 oc14 kV14 dc14 pm14 cd14 ct14 oc15 kV15 dc15 pm15 cd15 ct15 oc16 kV16 dc16 pm16 cd16 ct16 oc17 kV17 dc17 pm17 cd17 ct17 oc18 kV18 dc18 pm18 cd18 ct18 oc19 kV19 dc19 pm19 cd19 ct19 oc20 kV20 dc20 pm20 cd20 ct20 oc21 kV21 dc21 pm21 cd21 ct21 oc22 kV22 dc22 pm22 cd22 ct22 oc23 kV23 dc23 pm23 cd23 ct23 oc24 kV24 dc24 pm24 cd24 ct24 oc25 kV25 dc25 pm25 cd25 ct25 oc26 kV26 dc26 pm26 cd26 ct26 oc27 kV27 dc27 pm27 cd27 ct27 oc28 kV28 dc28 pm28 cd28 ct28 oc29 kV29 dc29 pm29 cd29 ct29 oc30 kV30 dc30 pm30 cd30 ct30 oc31 kV31 dc31 pm31 cd31 ct31 oc32 kV32 dc32 pm32 cd32 ct32 oc33 kV33 dc33 pm33 cd33 ct33 oc34 kV34 dc34 pm34 cd34 ct34 oc35 kV35 dc35 pm35 cd35 ct35 oc36 kV36 dc36 pm36 cd36 ct36 oc37 kV37 dc37 pm37 cd37 ct37:Value}
  (a0:PySem.W.nsIn K mainGlobals "tree_of" = some (some (.ref f0)))
  (l0:K.lookup f0=some ⟨oc0,od0,.func (PySem.W.fnOf "tree_of" "tree_of" (pQ fV) (fQ fV) (kQ fV) .none kV0 dc0 pm0 an0 cd0 ct0),sl0⟩)
  (c0:PySem.W.codeIn K cd0 "tree_of" = true)
  (k0:PySem.W.keepIn K (.ref f0)=true)
  (a1:PySem.W.nsIn K mainGlobals "boxes_in" = some (some (.ref f1)))
  (l1:K.lookup f1=some ⟨oc1,od1,.func (PySem.W.fnOf "boxes_in" "boxes_in" (pQ uK) (fQ uK) (kQ uK) .none kV1 dc1 pm1 an1 cd1 ct1),sl1⟩)
  (c1:PySem.W.codeIn K cd1 "boxes_in" = true)
  (k1:PySem.W.keepIn K (.ref f1)=true)
  (a2:PySem.W.nsIn K mainGlobals "box_of" = some (some (.ref f2)))
  (l2:K.lookup f2=some ⟨oc2,od2,.func (PySem.W.fnOf "box_of" "box_of" (pQ kW) (fQ kW) (kQ kW) .none kV2 dc2 pm2 an2 cd2 ct2),sl2⟩)
  (c2:PySem.W.codeIn K cd2 "box_of" = true)
  (k2:PySem.W.keepIn K (.ref f2)=true)
  (a3:PySem.W.nsIn K mainGlobals "_law_tape" = some (some (.ref f3)))
  (l3:K.lookup f3=some ⟨oc3,od3,.func (PySem.W.fnOf "_law_tape" "_law_tape" (pQ eW) (fQ eW) (kQ eW) .none kV3 dc3 pm3 an3 cd3 ct3),sl3⟩)
  (c3:PySem.W.codeIn K cd3 "_law_tape" = true)
  (k3:PySem.W.keepIn K (.ref f3)=true)
  (a4:PySem.W.nsIn K mainGlobals "_law_draw" = some (some (.ref f4)))
  (l4:K.lookup f4=some ⟨oc4,od4,.func (PySem.W.fnOf "_law_draw" "_law_draw" (pQ zY) (fQ zY) (kQ zY) .none kV4 dc4 pm4 an4 cd4 ct4),sl4⟩)
  (c4:PySem.W.codeIn K cd4 "_law_draw" = true)
  (k4:PySem.W.keepIn K (.ref f4)=true)
  (a5:PySem.W.nsIn K mainGlobals "_law_names" = some (some (.ref f5)))
  (l5:K.lookup f5=some ⟨oc5,od5,.func (PySem.W.fnOf "_law_names" "_law_names" (pQ rK) (fQ rK) (kQ rK) .none kV5 dc5 pm5 an5 cd5 ct5),sl5⟩)
  (c5:PySem.W.codeIn K cd5 "_law_names" = true)
  (k5:PySem.W.keepIn K (.ref f5)=true)
  (a6:PySem.W.nsIn K mainGlobals "_law_number" = some (some (.ref f6)))
  (l6:K.lookup f6=some ⟨oc6,od6,.func (PySem.W.fnOf "_law_number" "_law_number" (pQ yK) (fQ yK) (kQ yK) .none kV6 dc6 pm6 an6 cd6 ct6),sl6⟩)
  (c6:PySem.W.codeIn K cd6 "_law_number" = true)
  (k6:PySem.W.keepIn K (.ref f6)=true)
  (a7:PySem.W.nsIn K mainGlobals "_law_leaf" = some (some (.ref f7)))
  (l7:K.lookup f7=some ⟨oc7,od7,.func (PySem.W.fnOf "_law_leaf" "_law_leaf" (pQ iW) (fQ iW) (kQ iW) .none kV7 dc7 pm7 an7 cd7 ct7),sl7⟩)
  (c7:PySem.W.codeIn K cd7 "_law_leaf" = true)
  (k7:PySem.W.keepIn K (.ref f7)=true)
  (a8:PySem.W.nsIn K mainGlobals "_law_sum" = some (some (.ref f8)))
  (l8:K.lookup f8=some ⟨oc8,od8,.func (PySem.W.fnOf "_law_sum" "_law_sum" (pQ pY) (fQ pY) (kQ pY) .none kV8 dc8 pm8 an8 cd8 ct8),sl8⟩)
  (c8:PySem.W.codeIn K cd8 "_law_sum" = true)
  (k8:PySem.W.keepIn K (.ref f8)=true)
  (a9:PySem.W.nsIn K mainGlobals "_law_key" = some (some (.ref f9)))
  (l9:K.lookup f9=some ⟨oc9,od9,.func (PySem.W.fnOf "_law_key" "_law_key" (pQ nG) (fQ nG) (kQ nG) .none kV9 dc9 pm9 an9 cd9 ct9),sl9⟩)
  (c9:PySem.W.codeIn K cd9 "_law_key" = true)
  (k9:PySem.W.keepIn K (.ref f9)=true)
  (a10:PySem.W.nsIn K mainGlobals "_law_pairs" = some (some (.ref f10)))
  (l10:K.lookup f10=some ⟨oc10,od10,.func (PySem.W.fnOf "_law_pairs" "_law_pairs" (pQ lK) (fQ lK) (kQ lK) .none kV10 dc10 pm10 an10 cd10 ct10),sl10⟩)
  (c10:PySem.W.codeIn K cd10 "_law_pairs" = true)
  (k10:PySem.W.keepIn K (.ref f10)=true)
  (a11:PySem.W.nsIn K mainGlobals "_law_hands" = some (some (.ref f11)))
  (l11:K.lookup f11=some ⟨oc11,od11,.func (PySem.W.fnOf "_law_hands" "_law_hands" (pQ rV) (fQ rV) (kQ rV) .none kV11 dc11 pm11 an11 cd11 ct11),sl11⟩)
  (c11:PySem.W.codeIn K cd11 "_law_hands" = true)
  (k11:PySem.W.keepIn K (.ref f11)=true)
  (a12:PySem.W.nsIn K mainGlobals "_law_plain" = some (some (.ref f12)))
  (l12:K.lookup f12=some ⟨oc12,od12,.func (PySem.W.fnOf "_law_plain" "_law_plain" (pQ pV) (fQ pV) (kQ pV) .none kV12 dc12 pm12 an12 cd12 ct12),sl12⟩)
  (c12:PySem.W.codeIn K cd12 "_law_plain" = true)
  (k12:PySem.W.keepIn K (.ref f12)=true)
  (a13:PySem.W.nsIn K mainGlobals "_law_part_line" = some (some (.ref f13)))
  (l13:K.lookup f13=some ⟨oc13,od13,.func (PySem.W.fnOf "_law_part_line" "_law_part_line" (pQ cZ) (fQ cZ) (kQ cZ) .none kV13 dc13 pm13 an13 cd13 ct13),sl13⟩)
  (c13:PySem.W.codeIn K cd13 "_law_part_line" = true)
  (k13:PySem.W.keepIn K (.ref f13)=true)
  (a14:PySem.W.nsIn K mainGlobals "_law_each" = some (some (.ref f14)))
  (l14:K.lookup f14=some ⟨oc14,od14,.func (PySem.W.fnOf "_law_each" "_law_each" (pQ qY) (fQ qY) (kQ qY) .none kV14 dc14 pm14 an14 cd14 ct14),sl14⟩)
  (c14:PySem.W.codeIn K cd14 "_law_each" = true)
  (k14:PySem.W.keepIn K (.ref f14)=true)
  (a15:PySem.W.nsIn K mainGlobals "_law_line" = some (some (.ref f15)))
  (l15:K.lookup f15=some ⟨oc15,od15,.func (PySem.W.fnOf "_law_line" "_law_line" (pQ aW) (fQ aW) (kQ aW) .none kV15 dc15 pm15 an15 cd15 ct15),sl15⟩)
  (c15:PySem.W.codeIn K cd15 "_law_line" = true)
  (k15:PySem.W.keepIn K (.ref f15)=true)
  (a16:PySem.W.nsIn K mainGlobals "_law_lines" = some (some (.ref f16)))
  (l16:K.lookup f16=some ⟨oc16,od16,.func (PySem.W.fnOf "_law_lines" "_law_lines" (pQ lV) (fQ lV) (kQ lV) .none kV16 dc16 pm16 an16 cd16 ct16),sl16⟩)
  (c16:PySem.W.codeIn K cd16 "_law_lines" = true)
  (k16:PySem.W.keepIn K (.ref f16)=true)
  (a17:PySem.W.nsIn K mainGlobals "_law_part" = some (some (.ref f17)))
  (l17:K.lookup f17=some ⟨oc17,od17,.func (PySem.W.fnOf "_law_part" "_law_part" (pQ wV) (fQ wV) (kQ wV) .none kV17 dc17 pm17 an17 cd17 ct17),sl17⟩)
  (c17:PySem.W.codeIn K cd17 "_law_part" = true)
  (k17:PySem.W.keepIn K (.ref f17)=true)
  (a18:PySem.W.nsIn K mainGlobals "_law_house" = some (some (.ref f18)))
  (l18:K.lookup f18=some ⟨oc18,od18,.func (PySem.W.fnOf "_law_house" "_law_house" (pQ sK) (fQ sK) (kQ sK) .none kV18 dc18 pm18 an18 cd18 ct18),sl18⟩)
  (c18:PySem.W.codeIn K cd18 "_law_house" = true)
  (k18:PySem.W.keepIn K (.ref f18)=true)
  (a19:PySem.W.nsIn K mainGlobals "_law_reckoned" = some (some (.ref f19)))
  (l19:K.lookup f19=some ⟨oc19,od19,.func (PySem.W.fnOf "_law_reckoned" "_law_reckoned" (pQ xJ) (fQ xJ) (kQ xJ) .none kV19 dc19 pm19 an19 cd19 ct19),sl19⟩)
  (c19:PySem.W.codeIn K cd19 "_law_reckoned" = true)
  (k19:PySem.W.keepIn K (.ref f19)=true)
  (a20:PySem.W.nsIn K mainGlobals "_law_numbers" = some (some (.ref f20)))
  (l20:K.lookup f20=some ⟨oc20,od20,.func (PySem.W.fnOf "_law_numbers" "_law_numbers" (pQ kJ) (fQ kJ) (kQ kJ) .none kV20 dc20 pm20 an20 cd20 ct20),sl20⟩)
  (c20:PySem.W.codeIn K cd20 "_law_numbers" = true)
  (k20:PySem.W.keepIn K (.ref f20)=true)
  (a21:PySem.W.nsIn K mainGlobals "_law_thing" = some (some (.ref f21)))
  (l21:K.lookup f21=some ⟨oc21,od21,.func (PySem.W.fnOf "_law_thing" "_law_thing" (pQ cK) (fQ cK) (kQ cK) .none kV21 dc21 pm21 an21 cd21 ct21),sl21⟩)
  (c21:PySem.W.codeIn K cd21 "_law_thing" = true)
  (k21:PySem.W.keepIn K (.ref f21)=true)
  (a22:PySem.W.nsIn K mainGlobals "_law_brought" = some (some (.ref f22)))
  (l22:K.lookup f22=some ⟨oc22,od22,.func (PySem.W.fnOf "_law_brought" "_law_brought" (pQ cJ) (fQ cJ) (kQ cJ) .none kV22 dc22 pm22 an22 cd22 ct22),sl22⟩)
  (c22:PySem.W.codeIn K cd22 "_law_brought" = true)
  (k22:PySem.W.keepIn K (.ref f22)=true)
  (a23:PySem.W.nsIn K mainGlobals "_law_row" = some (some (.ref f23)))
  (l23:K.lookup f23=some ⟨oc23,od23,.func (PySem.W.fnOf "_law_row" "_law_row" (pQ rG) (fQ rG) (kQ rG) .none kV23 dc23 pm23 an23 cd23 ct23),sl23⟩)
  (c23:PySem.W.codeIn K cd23 "_law_row" = true)
  (k23:PySem.W.keepIn K (.ref f23)=true)
  (a24:PySem.W.nsIn K mainGlobals "_law_piece" = some (some (.ref f24)))
  (l24:K.lookup f24=some ⟨oc24,od24,.func (PySem.W.fnOf "_law_piece" "_law_piece" (pQ aJ) (fQ aJ) (kQ aJ) .none kV24 dc24 pm24 an24 cd24 ct24),sl24⟩)
  (c24:PySem.W.codeIn K cd24 "_law_piece" = true)
  (k24:PySem.W.keepIn K (.ref f24)=true)
  (a25:PySem.W.nsIn K mainGlobals "_law_over" = some (some (.ref f25)))
  (l25:K.lookup f25=some ⟨oc25,od25,.func (PySem.W.fnOf "_law_over" "_law_over" (pQ jW) (fQ jW) (kQ jW) .none kV25 dc25 pm25 an25 cd25 ct25),sl25⟩)
  (c25:PySem.W.codeIn K cd25 "_law_over" = true)
  (k25:PySem.W.keepIn K (.ref f25)=true)
  (a26:PySem.W.nsIn K mainGlobals "_law_parts" = some (some (.ref f26)))
  (l26:K.lookup f26=some ⟨oc26,od26,.func (PySem.W.fnOf "_law_parts" "_law_parts" (pQ cV) (fQ cV) (kQ cV) .none kV26 dc26 pm26 an26 cd26 ct26),sl26⟩)
  (c26:PySem.W.codeIn K cd26 "_law_parts" = true)
  (k26:PySem.W.keepIn K (.ref f26)=true)
  (a27:PySem.W.nsIn K mainGlobals "_law_named" = some (some (.ref f27)))
  (l27:K.lookup f27=some ⟨oc27,od27,.func (PySem.W.fnOf "_law_named" "_law_named" (pQ nK) (fQ nK) (kQ nK) .none kV27 dc27 pm27 an27 cd27 ct27),sl27⟩)
  (c27:PySem.W.codeIn K cd27 "_law_named" = true)
  (k27:PySem.W.keepIn K (.ref f27)=true)
  (a28:PySem.W.nsIn K mainGlobals "_law_answers" = some (some (.ref f28)))
  (l28:K.lookup f28=some ⟨oc28,od28,.func (PySem.W.fnOf "_law_answers" "_law_answers" (pQ lJ) (fQ lJ) (kQ lJ) .none kV28 dc28 pm28 an28 cd28 ct28),sl28⟩)
  (c28:PySem.W.codeIn K cd28 "_law_answers" = true)
  (k28:PySem.W.keepIn K (.ref f28)=true)
  (a29:PySem.W.nsIn K mainGlobals "_law_within" = some (some (.ref f29)))
  (l29:K.lookup f29=some ⟨oc29,od29,.func (PySem.W.fnOf "_law_within" "_law_within" (pQ vK) (fQ vK) (kQ vK) .none kV29 dc29 pm29 an29 cd29 ct29),sl29⟩)
  (c29:PySem.W.codeIn K cd29 "_law_within" = true)
  (k29:PySem.W.keepIn K (.ref f29)=true)
  (a30:PySem.W.nsIn K mainGlobals "_law_fresh" = some (some (.ref f30)))
  (l30:K.lookup f30=some ⟨oc30,od30,.func (PySem.W.fnOf "_law_fresh" "_law_fresh" (pQ nV) (fQ nV) (kQ nV) .none kV30 dc30 pm30 an30 cd30 ct30),sl30⟩)
  (c30:PySem.W.codeIn K cd30 "_law_fresh" = true)
  (k30:PySem.W.keepIn K (.ref f30)=true)
  (a31:PySem.W.nsIn K mainGlobals "_law_boxes" = some (some (.ref f31)))
  (l31:K.lookup f31=some ⟨oc31,od31,.func (PySem.W.fnOf "_law_boxes" "_law_boxes" (pQ oK) (fQ oK) (kQ oK) .none kV31 dc31 pm31 an31 cd31 ct31),sl31⟩)
  (c31:PySem.W.codeIn K cd31 "_law_boxes" = true)
  (k31:PySem.W.keepIn K (.ref f31)=true)
  (a32:PySem.W.nsIn K mainGlobals "_law_values" = some (some (.ref f32)))
  (l32:K.lookup f32=some ⟨oc32,od32,.func (PySem.W.fnOf "_law_values" "_law_values" (pQ wK) (fQ wK) (kQ wK) .none kV32 dc32 pm32 an32 cd32 ct32),sl32⟩)
  (c32:PySem.W.codeIn K cd32 "_law_values" = true)
  (k32:PySem.W.keepIn K (.ref f32)=true)
  (a33:PySem.W.nsIn K mainGlobals "_law_kind" = some (some (.ref f33)))
  (l33:K.lookup f33=some ⟨oc33,od33,.func (PySem.W.fnOf "_law_kind" "_law_kind" (pQ xW) (fQ xW) (kQ xW) .none kV33 dc33 pm33 an33 cd33 ct33),sl33⟩)
  (c33:PySem.W.codeIn K cd33 "_law_kind" = true)
  (k33:PySem.W.keepIn K (.ref f33)=true)
  (a34:PySem.W.nsIn K mainGlobals "_law_alike" = some (some (.ref f34)))
  (l34:K.lookup f34=some ⟨oc34,od34,.func (PySem.W.fnOf "_law_alike" "_law_alike" (pQ tK) (fQ tK) (kQ tK) .none kV34 dc34 pm34 an34 cd34 ct34),sl34⟩)
  (c34:PySem.W.codeIn K cd34 "_law_alike" = true)
  (k34:PySem.W.keepIn K (.ref f34)=true)
  (a35:PySem.W.nsIn K mainGlobals "_law_boxes_of" = some (some (.ref f35)))
  (l35:K.lookup f35=some ⟨oc35,od35,.func (PySem.W.fnOf "_law_boxes_of" "_law_boxes_of" (pQ aZ) (fQ aZ) (kQ aZ) .none kV35 dc35 pm35 an35 cd35 ct35),sl35⟩)
  (c35:PySem.W.codeIn K cd35 "_law_boxes_of" = true)
  (k35:PySem.W.keepIn K (.ref f35)=true)
  (a36:PySem.W.nsIn K mainGlobals "_law_tree" = some (some (.ref f36)))
  (l36:K.lookup f36=some ⟨oc36,od36,.func (PySem.W.fnOf "_law_tree" "_law_tree" (pQ tW) (fQ tW) (kQ tW) .none kV36 dc36 pm36 an36 cd36 ct36),sl36⟩)
  (c36:PySem.W.codeIn K cd36 "_law_tree" = true)
  (k36:PySem.W.keepIn K (.ref f36)=true)
  (a37:PySem.W.nsIn K mainGlobals "law" = some (some (.ref f37)))
  (l37:K.lookup f37=some ⟨oc37,od37,.func (PySem.W.fnOf "law" "law" (pQ lG) (fQ lG) (kQ lG) .none kV37 dc37 pm37 an37 cd37 ct37),sl37⟩)
  (c37:PySem.W.codeIn K cd37 "law" = true)
  (k37:PySem.W.keepIn K (.ref f37)=true)
  (z0:PySem.W.nsIn K mainGlobals "abs" = some none)
  (z1:PySem.W.nsIn K mainGlobals "all" = some none)
  (z2:PySem.W.nsIn K mainGlobals "bool" = some none)
  (z3:PySem.W.nsIn K mainGlobals "dict" = some none)
  (z4:PySem.W.nsIn K mainGlobals "int" = some none)
  (z5:PySem.W.nsIn K mainGlobals "isinstance" = some none)
  (z6:PySem.W.nsIn K mainGlobals "len" = some none)
  (z7:PySem.W.nsIn K mainGlobals "list" = some none)
  (z8:PySem.W.nsIn K mainGlobals "max" = some none)
  (z9:PySem.W.nsIn K mainGlobals "min" = some none)
  (z10:PySem.W.nsIn K mainGlobals "range" = some none)
  (z11:PySem.W.nsIn K mainGlobals "sorted" = some none)
  (z12:PySem.W.nsIn K mainGlobals "str" = some none)
  (z13:PySem.W.nsIn K mainGlobals "tuple" = some none)
  : ∃ a:Adr,Txt P w K mg a∧∃ (f:Addr) (kV dc pm:Value) (an:Option Addr) (cd ct:Value),a.law=f∧a.XS=PySem.W.fnOf "law" "law" (pQ lG) (fQ lG) (kQ lG) .none kV dc pm an cd ct :=
 ⟨⟨f0,PySem.W.fnOf "tree_of" "tree_of" (pQ fV) (fQ fV) (kQ fV) .none kV0 dc0 pm0 an0 cd0 ct0,f1,PySem.W.fnOf "boxes_in" "boxes_in" (pQ uK) (fQ uK) (kQ uK) .none kV1 dc1 pm1 an1 cd1 ct1,f2,PySem.W.fnOf "box_of" "box_of" (pQ kW) (fQ kW) (kQ kW) .none kV2 dc2 pm2 an2 cd2 ct2,f3,PySem.W.fnOf "_law_tape" "_law_tape" (pQ eW) (fQ eW) (kQ eW) .none kV3 dc3 pm3 an3 cd3 ct3,f4,PySem.W.fnOf "_law_draw" "_law_draw" (pQ zY) (fQ zY) (kQ zY) .none kV4 dc4 pm4 an4 cd4 ct4,f5,PySem.W.fnOf "_law_names" "_law_names" (pQ rK) (fQ rK) (kQ rK) .none kV5 dc5 pm5 an5 cd5 ct5,f6,PySem.W.fnOf "_law_number" "_law_number" (pQ yK) (fQ yK) (kQ yK) .none kV6 dc6 pm6 an6 cd6 ct6,f7,PySem.W.fnOf "_law_leaf" "_law_leaf" (pQ iW) (fQ iW) (kQ iW) .none kV7 dc7 pm7 an7 cd7 ct7,f8,PySem.W.fnOf "_law_sum" "_law_sum" (pQ pY) (fQ pY) (kQ pY) .none kV8 dc8 pm8 an8 cd8 ct8,f9,PySem.W.fnOf "_law_key" "_law_key" (pQ nG) (fQ nG) (kQ nG) .none kV9 dc9 pm9 an9 cd9 ct9,f10,PySem.W.fnOf "_law_pairs" "_law_pairs" (pQ lK) (fQ lK) (kQ lK) .none kV10 dc10 pm10 an10 cd10 ct10,f11,PySem.W.fnOf "_law_hands" "_law_hands" (pQ rV) (fQ rV) (kQ rV) .none kV11 dc11 pm11 an11 cd11 ct11,f12,PySem.W.fnOf "_law_plain" "_law_plain" (pQ pV) (fQ pV) (kQ pV) .none kV12 dc12 pm12 an12 cd12 ct12,f13,PySem.W.fnOf "_law_part_line" "_law_part_line" (pQ cZ) (fQ cZ) (kQ cZ) .none kV13 dc13 pm13 an13 cd13 ct13,f14,PySem.W.fnOf "_law_each" "_law_each" (pQ qY) (fQ qY) (kQ qY) .none kV14 dc14 pm14 an14 cd14 ct14,f15,PySem.W.fnOf "_law_line" "_law_line" (pQ aW) (fQ aW) (kQ aW) .none kV15 dc15 pm15 an15 cd15 ct15,f16,PySem.W.fnOf "_law_lines" "_law_lines" (pQ lV) (fQ lV) (kQ lV) .none kV16 dc16 pm16 an16 cd16 ct16,f17,PySem.W.fnOf "_law_part" "_law_part" (pQ wV) (fQ wV) (kQ wV) .none kV17 dc17 pm17 an17 cd17 ct17,f18,PySem.W.fnOf "_law_house" "_law_house" (pQ sK) (fQ sK) (kQ sK) .none kV18 dc18 pm18 an18 cd18 ct18,f19,PySem.W.fnOf "_law_reckoned" "_law_reckoned" (pQ xJ) (fQ xJ) (kQ xJ) .none kV19 dc19 pm19 an19 cd19 ct19,f20,PySem.W.fnOf "_law_numbers" "_law_numbers" (pQ kJ) (fQ kJ) (kQ kJ) .none kV20 dc20 pm20 an20 cd20 ct20,f21,PySem.W.fnOf "_law_thing" "_law_thing" (pQ cK) (fQ cK) (kQ cK) .none kV21 dc21 pm21 an21 cd21 ct21,f22,PySem.W.fnOf "_law_brought" "_law_brought" (pQ cJ) (fQ cJ) (kQ cJ) .none kV22 dc22 pm22 an22 cd22 ct22,f23,PySem.W.fnOf "_law_row" "_law_row" (pQ rG) (fQ rG) (kQ rG) .none kV23 dc23 pm23 an23 cd23 ct23,f24,PySem.W.fnOf "_law_piece" "_law_piece" (pQ aJ) (fQ aJ) (kQ aJ) .none kV24 dc24 pm24 an24 cd24 ct24,f25,PySem.W.fnOf "_law_over" "_law_over" (pQ jW) (fQ jW) (kQ jW) .none kV25 dc25 pm25 an25 cd25 ct25,f26,PySem.W.fnOf "_law_parts" "_law_parts" (pQ cV) (fQ cV) (kQ cV) .none kV26 dc26 pm26 an26 cd26 ct26,f27,PySem.W.fnOf "_law_named" "_law_named" (pQ nK) (fQ nK) (kQ nK) .none kV27 dc27 pm27 an27 cd27 ct27,f28,PySem.W.fnOf "_law_answers" "_law_answers" (pQ lJ) (fQ lJ) (kQ lJ) .none kV28 dc28 pm28 an28 cd28 ct28,f29,PySem.W.fnOf "_law_within" "_law_within" (pQ vK) (fQ vK) (kQ vK) .none kV29 dc29 pm29 an29 cd29 ct29,f30,PySem.W.fnOf "_law_fresh" "_law_fresh" (pQ nV) (fQ nV) (kQ nV) .none kV30 dc30 pm30 an30 cd30 ct30,f31,PySem.W.fnOf "_law_boxes" "_law_boxes" (pQ oK) (fQ oK) (kQ oK) .none kV31 dc31 pm31 an31 cd31 ct31,f32,PySem.W.fnOf "_law_values" "_law_values" (pQ wK) (fQ wK) (kQ wK) .none kV32 dc32 pm32 an32 cd32 ct32,f33,PySem.W.fnOf "_law_kind" "_law_kind" (pQ xW) (fQ xW) (kQ xW) .none kV33 dc33 pm33 an33 cd33 ct33,f34,PySem.W.fnOf "_law_alike" "_law_alike" (pQ tK) (fQ tK) (kQ tK) .none kV34 dc34 pm34 an34 cd34 ct34,f35,PySem.W.fnOf "_law_boxes_of" "_law_boxes_of" (pQ aZ) (fQ aZ) (kQ aZ) .none kV35 dc35 pm35 an35 cd35 ct35,f36,PySem.W.fnOf "_law_tree" "_law_tree" (pQ tW) (fQ tW) (kQ tW) .none kV36 dc36 pm36 an36 cd36 ct36,f37,PySem.W.fnOf "law" "law" (pQ lG) (fQ lG) (kQ lG) .none kV37 dc37 pm37 an37 cd37 ct37⟩,
  ⟨PySem.W.mg_none_of X G z0,
  PySem.W.mg_none_of X G z1,
  PySem.W.mg_none_of X G z2,
  PySem.W.mg_none_of X G z3,
  PySem.W.mg_none_of X G z4,
  PySem.W.mg_none_of X G z5,
  PySem.W.mg_none_of X G z6,
  PySem.W.mg_none_of X G z7,
  PySem.W.mg_none_of X G z8,
  PySem.W.mg_none_of X G z9,
  PySem.W.mg_none_of X G z10,
  PySem.W.mg_none_of X G z11,
  PySem.W.mg_none_of X G z12,
  PySem.W.mg_none_of X G z13,
  PySem.W.mg_of X G a0,
  eX l0 c0 k0,
  PySem.W.mg_of X G a1,
  eX l1 c1 k1,
  PySem.W.mg_of X G a2,
  eX l2 c2 k2,
  PySem.W.mg_of X G a3,
  eX l3 c3 k3,
  PySem.W.mg_of X G a4,
  eX l4 c4 k4,
  PySem.W.mg_of X G a5,
  eX l5 c5 k5,
  PySem.W.mg_of X G a6,
  eX l6 c6 k6,
  PySem.W.mg_of X G a7,
  eX l7 c7 k7,
  PySem.W.mg_of X G a8,
  eX l8 c8 k8,
  PySem.W.mg_of X G a9,
  eX l9 c9 k9,
  PySem.W.mg_of X G a10,
  eX l10 c10 k10,
  PySem.W.mg_of X G a11,
  eX l11 c11 k11,
  PySem.W.mg_of X G a12,
  eX l12 c12 k12,
  PySem.W.mg_of X G a13,
  eX l13 c13 k13,
  PySem.W.mg_of X G a14,
  eX l14 c14 k14,
  PySem.W.mg_of X G a15,
  eX l15 c15 k15,
  PySem.W.mg_of X G a16,
  eX l16 c16 k16,
  PySem.W.mg_of X G a17,
  eX l17 c17 k17,
  PySem.W.mg_of X G a18,
  eX l18 c18 k18,
  PySem.W.mg_of X G a19,
  eX l19 c19 k19,
  PySem.W.mg_of X G a20,
  eX l20 c20 k20,
  PySem.W.mg_of X G a21,
  eX l21 c21 k21,
  PySem.W.mg_of X G a22,
  eX l22 c22 k22,
  PySem.W.mg_of X G a23,
  eX l23 c23 k23,
  PySem.W.mg_of X G a24,
  eX l24 c24 k24,
  PySem.W.mg_of X G a25,
  eX l25 c25 k25,
  PySem.W.mg_of X G a26,
  eX l26 c26 k26,
  PySem.W.mg_of X G a27,
  eX l27 c27 k27,
  PySem.W.mg_of X G a28,
  eX l28 c28 k28,
  PySem.W.mg_of X G a29,
  eX l29 c29 k29,
  PySem.W.mg_of X G a30,
  eX l30 c30 k30,
  PySem.W.mg_of X G a31,
  eX l31 c31 k31,
  PySem.W.mg_of X G a32,
  eX l32 c32 k32,
  PySem.W.mg_of X G a33,
  eX l33 c33 k33,
  PySem.W.mg_of X G a34,
  eX l34 c34 k34,
  PySem.W.mg_of X G a35,
  eX l35 c35 k35,
  PySem.W.mg_of X G a36,
  eX l36 c36 k36,
  PySem.W.mg_of X G a37,
  eX l37 c37 k37⟩,_,_,_,_,_,_,_,rfl,rfl⟩
end K31
namespace K31
open PySem L2 CL
section
variable {P:Program}{w:World}{K:PySem.W.Frag}{mg:Str→Option Value}{base:Heap}{a:Adr}
structure Tp (C:CH) (t:Addr) (ns:List Int):Prop where
 at_:∃ a b c:Int,C t=some (.lst [.fz (ns.map PV.int),.int a,.int b,.int c])∧0≤a∧0≤b∧0≤c
 len:ns.length≤63
def Ex (t:Addr) (C C':CH):Prop:=∀ b o,b≠t→C b=some o→C' b=some o
theorem Ex.refl {t:Addr}{C:CH}:Ex t C C:=fun _ _ _ h=>h
theorem Ex.trans {t:Addr}{C C1 C2:CH}(h:Ex t C C1) (h':Ex t C1 C2):Ex t C C2:=fun b o n e=>h' b o n (h b o n e)
theorem Ex.new {t p:Addr}{C:CH}(hp:C p=none) (o:CO):Ex t C (nQ C p o):=fun b u _ e=>by
 rw [bQ (fun z=>by subst z; rw [hp] at e; cases e)]; exact e
def gTape:GC:=fun ts C Q=>∃ ns:List Int,ts=[.fz (ns.map PV.int)]∧ns.length≤63∧∀ t C',C t=none→Ex t C C'→Tp C' t ns→Q (.ref t) C'
theorem ok_tape (T:Txt P w K mg a):FnOk P w K mg base CX0 1 a.Ql a.kO ["_law_script"] (spC K gTape):=by
 have S:=vA;refine Fun.okC T.kE vA (fun ts C R h => ?_) fun cdv A outer s H E hr=>⟨_,(mQ (jX (mZ (qQ (cv 0) (qQ jQ (qQ jQ (qQ jQ zQ))))))),?_⟩
 ·obtain ⟨ns,rfl,_⟩:=h; rfl
 rintro ts C R ⟨ns,rfl,hl,q⟩;show 4≤sizeLine∧∀ p,C p=none→R (.ref p) (nQ C p (.lst [.fz (ns.map PV.int),.int 0,.int 0,.int 0]));exact ⟨by decide,fun p hp=>q p _ hp (Ex.new hp _) ⟨⟨0,0,0,xQ,by decide,by decide,by decide⟩,hl⟩⟩
end
section
variable {P:Program}{w:World}{K:PySem.W.Frag}{mg:Str→Option Value}{base:Heap}{a:Adr}
theorem Ex.tape {t:Addr}{C:CH}(o:CO):Ex t C (nQ C t o):=fun b u n e=>by rw [bQ n]; exact e
theorem Yy {ns:List Int}{k:Int}(h0:0≤k) (h1:k < ((ns.map PV.int).length:Int)):∃ v,atI (ns.map PV.int) k=some (.int v):=by
 unfold atI ixN;rw [if_pos h0,if_pos h1];rw [List.length_map] at h1;show ∃ v,(ns.map PV.int)[k.toNat]?=some (.int v);rw [List.getElem?_map,List.getElem?_eq_getElem (by omega)];exact ⟨_,rfl⟩
def gDraw:GC:=fun ts C Q=>∃ (t:Addr) (m:Int) (ns:List Int),ts=[.ref t,.int m]∧Tp C t ns∧0 < m∧m < 4611686018427387904∧∀ (v:Int) (C':CH),0≤v→v < m→Tp C' t ns→Ex t C C'→Q (.int v) C'
theorem nJ (T:Txt P w K mg a):FnOk P w K mg base CX0 1 a.Qq a.gO U14 (spC K gDraw):=by
 have S:=pA
 refine Fun.okC T.mE pA (fun ts C R h => ?_) fun cdv A outer s H E hr=>⟨_,(vQ (dQ (i:=2) S.nd rfl (Or.inl rfl) (rQ (r:=rIx K) yQ uQ (cv 0) jQ (fun _ _=>rfl)))
  (vQ (iH (uX hX rX (rQ (r:=rIx K) yQ uQ (cv 0) jQ (fun _ _=>rfl)) jQ) (nR (cv 0) jQ))
  (vQ (sX (cw_pt (cw_and (iQ uZ nX (rQ (r:=rIx K) yQ uQ (cv 0) jQ (fun _ _=>rfl)) jQ (oQ _)) (cw_and1 (iQ rL iB (rQ (r:=rIx K) yQ uQ (cv 0) jQ (fun _ _=>rfl)) (mX zZ tZ rfl T.bV rfl (qQ (cv 2) zQ)) (oQ _))))) (vQ (iH (uX Xh XX (mX Yr cbi_abs rfl T.z_abs rfl (qQ (rQ (r:=rIx K) yQ uQ (cv 2) (rQ (r:=rIx K) yQ uQ (cv 0) jQ (fun _ _=>rfl)) (fun _ _=>rfl)) zQ)) (uX vT wP jQ jQ)) (nR (cv 0) jQ))
  (mQ (iH (uX hX rX (rQ (r:=rIx K) yQ uQ (cv 0) jQ (fun _ _=>rfl)) jQ) (nR (cv 0) jQ)))) dX)
  (vQ (sX (iQ yW oJ (rQ (r:=rIx K) yQ uQ (cv 0) jQ (fun _ _=>rfl)) jQ (oQ _)) (vQ (dQ (i:=3) S.nd rfl (Or.inl rfl) (uX rM zU (rQ (r:=rIx K) yQ uQ (cv 0) jQ (fun _ _=>rfl)) (cv 1)))
  (vQ (iH (uX Xh XX (rQ (r:=rIx K) yQ uQ (cv 0) jQ (fun _ _=>rfl)) (cv 1)) (nR (cv 0) jQ))
  (mQ (jX (cv 3))))) dX)
  (vQ (dQ (i:=4) S.nd rfl (Or.inl rfl) jQ)
  (vQ (sX (iQ yW oJ (mX zZ tZ rfl T.bV rfl (qQ (cv 2) zQ)) jQ (oQ _)) (mQ (dQ (i:=4) S.nd rfl (Or.inl rfl) (rQ (r:=rIx K) yQ uQ (cv 2) (uX rM zU (rQ (r:=rIx K) yQ uQ (cv 0) jQ (fun _ _=>rfl)) (mX zZ tZ rfl T.bV rfl (qQ (cv 2) zQ))) (fun _ _=>rfl)))) dX)
  (vQ (dQ (i:=5) S.nd rfl (Or.inl rfl) (uX rM zU (uX hX rX (uX hX rX (uX kH eF (uX rM zU (cv 4) jQ) jQ) (uX kH eF (rQ (r:=rIx K) yQ uQ (cv 0) jQ (fun _ _=>rfl)) jQ)) jQ) jQ))
  (vQ (dQ (i:=5) S.nd rfl (Or.inl rfl) (uX rM zU (uX kH eF (cv 5) (uX hX rX (cv 5) jQ)) jQ))
  (mQ (jX (uX rM zU (uX rM zU (uX kH eF (cv 5) jQ) jQ) (cv 1)))))))))))),?_⟩
 ·obtain ⟨t,m,ns,rfl,_⟩:=h; rfl
 rintro ts C R ⟨t,m,ns,rfl,⟨⟨x,y,z,h,hx,hy,hz⟩,hl⟩,m0,m1,q⟩;refine fZ h rfl ?_;refine fZ h rfl ?_;refine dW ?_;refine setL h rfl ?_;dsimp only;have h1:(nQ C t (.lst [.fz (ns.map PV.int),.int (x+1),.int y,.int z])) t=_:=xQ;have e1:Ex t C (nQ C t (.lst [.fz (ns.map PV.int),.int (x+1),.int y,.int z])):=Ex.tape _;refine oX (fun ρ' C'=>ρ'=[some (.ref t),some (.int m),some (.fz (ns.map PV.int)),none,none,none]∧∃ y z:Int,C' t=some (.lst [.fz (ns.map PV.int),.int (x+1),.int y,.int z])∧0≤y∧0≤z∧Ex t C C') (fun L hL => ?_) ?_
 ·refine fZ h1 rfl ?_
  refine iX (iZ _ _) ?_;refine bJ (fun hb => ?_) fun hb => ?_
  ·refine fZ h1 rfl ?_
   refine Wv ?_;refine i_i ?_;refine bJ (fun hb2 => ?_) fun hb2 => ?_
   ·obtain ⟨c,ea⟩:=Yy hz (of_decide_eq_true hb2)
    refine fZ h1 rfl ?_;refine ix_f ea ?_;refine ⟨⟨by decide,by decide,by decide⟩,⟨by decide,by decide⟩,?_⟩;refine setL h1 rfl ?_;refine fZ xQ rfl ?_;refine dW ?_;refine setL xQ rfl ?_;refine hL _ _ ⟨rfl,_,_,xQ,?_,by omega,(e1.trans (Ex.tape _)).trans (Ex.tape _)⟩;refine Int.ediv_nonneg ?_ (by decide)
    split<;>omega
   ·refine jZ ?_
    exact hL _ _ ⟨rfl,y,z,h1,hy,hz,e1⟩
  ·refine jP rfl ?_
   refine jZ ?_;exact hL _ _ ⟨rfl,y,z,h1,hy,hz,e1⟩
 clear h1 e1;rintro ρ' C1 ⟨rfl,y',z',h1,hy',hz',e1⟩
 try dsimp only
 refine oZ ?_;refine fZ h1 rfl ?_;refine i_i ?_;refine bJ (fun hb => ?_) fun hb => ?_
 ·refine fZ h1 rfl ?_
  refine ⟨m0,?_⟩;refine fZ h1 rfl ?_;refine ⟨⟨m0,by omega⟩,?_⟩;refine setL h1 rfl ?_;exact q _ _ (Int.emod_nonneg _ (by omega)) (Int.emod_lt_of_pos _ m0) ⟨⟨_,_,_,xQ,by omega,Int.ediv_nonneg hy' (by omega),hz'⟩,hl⟩ (e1.trans (Ex.tape _))
 ·refine jZ ?_
  try dsimp only
  refine cQ (c_i ?_)
  try dsimp only
  refine oX (fun ρ' C'=>C'=C1∧∃ v:Int,ρ'=[some (.ref t),some (.int m),some (.fz (ns.map PV.int)),none,some (.int v),none]) (fun L hL => ?_) ?_
  ·refine Wv ?_
   refine i_i ?_;refine bJ (fun hb2 => ?_) fun hb2 => ?_
   ·have hn:(0:Int) < ((ns.map PV.int).length:Int):=of_decide_eq_true hb2
    obtain ⟨c,ea⟩:=Yy (Int.emod_nonneg (x+1) (b:=((ns.map PV.int).length:Int)) (by omega)) (Int.emod_lt_of_pos (x+1) hn);refine fZ h1 rfl ?_;refine Wv ?_;refine ⟨hn,?_⟩;refine ix_f ea ?_;exact hL _ _ ⟨rfl,_,rfl⟩
   ·refine jZ ?_
    exact hL _ _ ⟨rfl,0,rfl⟩
  ·rintro ρ' C2 ⟨rfl,v,rfl⟩
   try dsimp only
   refine cQ ?_;refine ⟨(by show (0:Int) < _; decide),?_⟩;refine ⟨.inr ⟨by decide,by decide⟩,?_⟩;refine fZ h1 rfl ?_;refine ⟨.inr ⟨by decide,by decide⟩,?_⟩;refine dW ?_;refine dW ?_;refine ⟨(by show (0:Int) < _; decide),?_⟩;have b0:=Int.emod_nonneg (v % 2147483647 * 48271+(x+1) * 7919+12345) (b:=2147483629) (by decide);have b1:=Int.emod_lt_of_pos (v % 2147483647 * 48271+(x+1) * 7919+12345) (b:=2147483629) (by decide)
   try dsimp only
   refine cQ ?_;refine dW ?_;refine ⟨.inl ⟨by omega,by omega⟩,?_⟩;refine ⟨(by show (0:Int) < _; decide),?_⟩
   try dsimp only
   refine ⟨.inr ⟨by decide,by decide⟩,?_⟩;refine ⟨(by show (0:Int) < _; decide),?_⟩;refine ⟨m0,?_⟩;exact q _ _ (Int.emod_nonneg _ (by omega)) (Int.emod_lt_of_pos _ m0) ⟨⟨_,_,_,h1,by omega,hy',hz'⟩,hl⟩ e1
end
section
variable {P:Program}{w:World}{K:PySem.W.Frag}{mg:Str→Option Value}{base:Heap}{a:Adr}
theorem Tp.ne {C:CH}{t p:Addr}{ns:List Int}(h:Tp C t ns) (hp:C p=none):p≠t:=fun e=>by
 obtain ⟨⟨x,y,z,h,_⟩,_⟩:=h;rw [← e,hp] at h;cases h
theorem Tp.new {C:CH}{t p:Addr}{ns:List Int}(h:Tp C t ns) (hp:C p=none) (o:CO):Tp (nQ C p o) t ns:=by
 have n:=h.ne hp;obtain ⟨⟨x,y,z,h,q⟩,l⟩:=h;exact ⟨⟨x,y,z,(bQ (Ne.symm n)).trans h,q⟩,l⟩
def POOL:List Str:=["a","ab","abc","b","ba","box","end","give","part","plain","turn","abcdefgh"]
theorem rW {α:Type}{f:α→PV}{ss:List α}{k:Int}(d:α) (h0:0≤k) (h1:k < (ss.length:Int)):atI (ss.map f) k=some (f (ss.getD k.toNat d)):=by
 unfold atI ixN;rw [if_pos h0,if_pos (by rw [List.length_map]; exact h1)];show (ss.map f)[k.toNat]?=_;rw [List.getElem?_map,List.getD_eq_getElem?_getD,List.getElem?_eq_getElem (by omega)]
 rfl
def Wk (v c:Int) (i:Nat):Str:=POOL.getD ((v+c * (i:Int)) % 12).toNat ""
def dY (v c:Int) (m:Nat):List Str:=(List.range m).map (Wk v c)
theorem K7:∀ v∈List.range 12,∀ c∈[1,5,7,11],(dY (v:Nat) (c:Nat) 12).Nodup:=by decide +kernel
theorem Xo {v c:Int}{m:Nat}(v0:0≤v) (v1:v < 12) (hc:c=1∨c=5∨c=7∨c=11) (hm:m≤12):(dY v c m).Nodup:=by
 have h12:(dY v c 12).Nodup:=by
  have:=K7 v.toNat (List.mem_range.2 (by omega));have ev:((v.toNat:Nat):Int)=v:=Int.toNat_of_nonneg v0
  rcases hc with rfl | rfl | rfl | rfl
  ·have:=this 1 (by decide); rw [ev] at this; exact this
  ·have:=this 5 (by decide); rw [ev] at this; exact this
  ·have:=this 7 (by decide); rw [ev] at this; exact this
  ·have:=this 11 (by decide); rw [ev] at this; exact this
 have e:dY v c m=(dY v c 12).take m:=by
  unfold dY;rw [← List.map_take,List.take_range];rw [Nat.min_eq_left hm]
 rw [e];exact h12.sublist (List.take_sublist _ _)
theorem Ye {c:TCE}{ρ:CSt}{Q:K1}(f:Nat→PV) (I:CH→Prop) (m:Nat) (h:∀ (k:Nat) C (Q':K1),k < m→I C→(∀ C',I C'→Q' (f k) C')→c (some (.int (k:Int))::ρ) C Q')
  (q:∀ p C',I C'→C' p=none→Q (.ref p) (nQ C' p (.lst ((List.range m).map f)))):∀ (n:Nat) (C:CH),n≤m→m≤1000→I C→zJ sD c ρ Q ((List.range m).drop n |>.map fun k=>PV.int (k:Nat)) ((List.range n).map f) C:=by
 suffices ∀ j n C,n+j=m→m≤1000→I C→zJ sD c ρ Q ((List.range m).drop n |>.map fun k=>PV.int (k:Nat)) ((List.range n).map f) C by
  intro n C hn hm hI;exact this (m - n) n C (by omega) hm hI
 intro j
 induction j with
 | zero =>
  intro n C hn hm hI;have e:n=m:=by omega
  subst e;rw [List.drop_of_length_le (by rw [List.length_range]; exact Nat.le_refl _)];exact fG fun p hp=>q p C hI hp
 | succ j ih =>
  intro n C hn hm hI;rw [List.drop_eq_getElem_cons (by rw [List.length_range]; omega),List.map_cons,List.getElem_range];refine xZ ?_;show c (some (.int (n:Int))::ρ) C fun y C2=>((List.range n).map f).length < sizeLine∧zJ sD c ρ Q _ ((List.range n).map f++[y]) C2;refine h n C _ (by omega) hI fun C' hI'=>⟨?_,?_⟩
  ·rw [List.length_map,List.length_range]
   exact Nat.lt_of_lt_of_le (show n < 1001 by omega) (by decide)
  ·have e:(List.range n).map f++[f n]=(List.range (n+1)).map f:=by rw [List.range_succ,List.map_append]; rfl
   rw [e];exact ih (n+1) C' (by omega) hm hI'
def WY:GC:=fun ts C Q=>∃ (t:Addr) (m:Int) (ns:List Int),ts=[.ref t,.int m]∧Tp C t ns∧0≤m∧m≤12∧∀ (p:Addr) (ss:List Str) (C':CH),C' p=some (.lst (ss.map PV.str))→C p=none→p≠t→ss.length=m.toNat→ss.Nodup→Tp C' t ns→Ex t C C'→Q (.ref p) C'
theorem nM (T:Txt P w K mg a):FnOk P w K mg base CX0 2 a.vR a.lH U14 (spC K WY):=by
 have S:=cS;have tQ:=nJ (base:=base) T
 refine Fun.okC T.cN cS (fun ts C R h => ?_) fun cdv A outer s H E hr=>⟨_,(vQ (dQ (i:=2) S.nd rfl (Or.inr rfl) (mZ (qQ gQ (qQ gQ (qQ gQ (qQ gQ (qQ gQ (qQ gQ (qQ gQ (qQ gQ (qQ gQ (qQ gQ (qQ gQ (qQ gQ zQ))))))))))))))
  (vQ (dQ (i:=3) S.nd rfl (Or.inr rfl) (wQ tQ hr rfl T.wX T.k_l_draw T.b_l_draw lQ (qQ (cv 0) (qQ jQ zQ))))
  (vQ (dQ (i:=4) S.nd rfl (Or.inr rfl) (rQ (r:=rIx K) yQ uQ (mZ (qQ jQ (qQ jQ (qQ jQ (qQ jQ zQ))))) (wQ tQ hr rfl T.wX T.k_l_draw T.b_l_draw lQ (qQ (cv 0) (qQ jQ zQ))) (fun _ _=>rfl)))
  (mQ (jX (xU rfl (show (["_law_k","_law_tape_here","_law_many","_law_pool","_law_start","_law_stride"]:List Str).Nodup by decide +kernel) (yJ (N:=U29) (sc:=kQ rK) rfl rfl rfl (by decide +kernel)) (cO rfl T.fY (qQ (cv 1) zQ)) (fun _ _ _ _ _=>vV) (fun _ _ _ _ _=>(rQ (r:=rIx K) yQ uQ (cv 3) (uX rM zU (uX hX rX (cv 4) (uX kH eF (cv 5) (cv 0))) jQ) (fun _ _=>rfl))))))))),?_⟩
 ·obtain ⟨t,m,ns,rfl,_⟩:=h; rfl
 rintro ts C R ⟨t,m,ns,rfl,hT,m0,m1,q⟩;refine ⟨by decide,fun p hp => ?_⟩;dsimp only;refine ⟨t,12,ns,rfl,hT.new hp _,by decide,by decide,fun v C1 v0 v1 T1 e1 => ?_⟩;dsimp only;refine ⟨by decide,fun p2 hp2=>⟨t,4,ns,rfl,T1.new hp2 _,by decide,by decide,fun k C2 k0 k1 T2 e2 => ?_⟩⟩;have m1':C1 p=_:=e1 p _ (hT.ne hp) xQ;have e12:Ex t C1 C2:=(Ex.new hp2 _).trans e2;have m2:C2 p2=_:=e2 p2 _ (T1.ne hp2) xQ
 have ec:=rW (f:=PV.int) (ss:=[1,5,7,11]) 0 k0 k1
 have hc:[1,5,7,11].getD k.toNat (0:Int)=1∨[1,5,7,11].getD k.toNat (0:Int)=5∨[1,5,7,11].getD k.toNat (0:Int)=7∨[1,5,7,11].getD k.toNat (0:Int)=11:=by
  have:k=0∨k=1∨k=2∨k=3:=by omega
  rcases this with rfl | rfl | rfl | rfl
  ·exact .inl rfl
  ·exact .inr (.inl rfl)
  ·exact .inr (.inr (.inl rfl))
  ·exact .inr (.inr (.inr rfl))
 revert ec hc;generalize [1,5,7,11].getD k.toNat (0:Int)=c;intro ec hc;refine fZ m2 ec ?_;dsimp only;refine ⟨by omega,by omega,?_⟩;have m3:C2 p=_:=e12 p _ (hT.ne hp) m1';have e02:Ex t C C2:=((Ex.new hp _).trans e1).trans e12;have hb:c≤11∧1≤c:=by rcases hc with rfl | rfl | rfl | rfl<;>omega
 refine Ye (fun i=>.str (Wk v c i)) (fun C'=>C'=C2) m.toNat (fun i C3 Q' hi e hq => ?_) (fun p3 C3 e hp3 => ?_) 0 C2 (Nat.zero_le _) (by omega) rfl
 ·subst e
  refine ⟨.inr ⟨by omega,by omega⟩,?_⟩;refine dW ?_;refine ⟨(by show (0:Int) < _; decide),?_⟩;have r0:=Int.emod_nonneg (v+c * (i:Int)) (b:=12) (by decide);have r1:=Int.emod_lt_of_pos (v+c * (i:Int)) (b:=12) (by decide);refine fZ m3 (rW (f:=PV.str) (ss:=POOL) "" r0 r1) ?_;exact hq _ rfl
 ·subst e
  have hp0:C p3=none:=by
   cases z:C p3 with
   | none=>rfl
   | some o =>
    have n1:p3≠t:=T2.ne hp3;rw [e02 p3 o n1 z] at hp3;cases hp3
  refine q p3 (dY v c m.toNat) _ ?_ hp0 (T2.ne hp3) ?_ (Xo v0 v1 hc (by omega)) (T2.new hp3 _) (e02.trans (Ex.new hp3 _))
  ·rw [xQ]
   unfold dY;rw [List.map_map]
   rfl
  ·unfold dY
   rw [List.length_map,List.length_range]
def Jq:GC:=fun ts C Q=>∃ (t:Addr) (ns:List Int),ts=[.ref t]∧Tp C t ns∧∀ (i:Int) (C':CH),-1000000000≤i→i≤1000000000→Tp C' t ns→Ex t C C'→Q (.int i) C'
theorem at_ints {ns:List Int}{k:Int}{lo hi:Int}(hb:∀ x∈ns,lo≤x∧x≤hi) (h0:0≤k) (h1:k < ((ns.map PV.int).length:Int)):∃ v,atI (ns.map PV.int) k=some (.int v)∧lo≤v∧v≤hi:=by
 unfold atI ixN;rw [if_pos h0,if_pos h1];rw [List.length_map] at h1;show ∃ v,(ns.map PV.int)[k.toNat]?=some (.int v)∧lo≤v∧v≤hi;rw [List.getElem?_map,List.getElem?_eq_getElem (by omega)];exact ⟨_,rfl,hb _ (List.getElem_mem _)⟩
theorem vH (T:Txt P w K mg a):FnOk P w K mg base CX0 2 a.qP a.lD U25 (spC K Jq):=by
 have S:=zC;have tQ:=nJ (base:=base) T
 refine Fun.okC T.iD zC (fun ts C R h => ?_) fun cdv A outer s H E hr=>⟨_,(vQ (sX (iQ yW oJ (wQ tQ hr rfl T.wX T.k_l_draw T.b_l_draw lQ (qQ (cv 0) (qQ jQ zQ))) jQ (oQ _)) (mQ (jX (uX xV fJ (wQ tQ hr rfl T.wX T.k_l_draw T.b_l_draw lQ (qQ (cv 0) (qQ jQ zQ))) jQ))) dX)
  (mQ (jX (rQ (r:=rIx K) yQ uQ (mZ (qQ (uX vT wP jQ jQ) (qQ (JK oI lR (uX vT wP jQ jQ)) (qQ jQ (qQ (JK oI lR jQ) zQ))))) (wQ tQ hr rfl T.wX T.k_l_draw T.b_l_draw lQ (qQ (cv 0) (qQ jQ zQ))) (fun _ _=>rfl))))),?_⟩
 ·obtain ⟨t,ns,rfl,_⟩:=h; rfl
 rintro ts C R ⟨t,ns,rfl,hT,q⟩;refine ⟨t,8,ns,rfl,hT,by decide,by decide,fun v C1 v0 v1 T1 e1 => ?_⟩;refine i_i ?_;refine bJ (fun hb => ?_) fun hb => ?_
 ·refine ⟨t,9,ns,rfl,T1,by decide,by decide,fun v C2 v0 v1 T2 e2 => ?_⟩
  refine i_i ?_;exact q (v - 3) C2 (by omega) (by omega) T2 (e1.trans e2)
 ·refine jZ ?_
  try dsimp only
  refine ⟨⟨by decide,by decide,by decide⟩,?_⟩;refine ⟨⟨by decide,by decide,by decide⟩,?_⟩;refine ⟨by decide,fun p2 hp2 => ?_⟩;refine ⟨t,4,ns,rfl,T1.new hp2 _,by decide,by decide,fun k C2 k0 k1 T2 e2 => ?_⟩;have m2:C2 p2=_:=e2 p2 _ (T1.ne hp2) xQ;obtain ⟨c,ec,c0,c1⟩:=at_ints (ns:=[10 ^ 9,-10 ^ 9,999983,-70001]) (lo := -1000000000) (hi:=1000000000) (by decide) k0 k1;refine fZ m2 ec ?_;exact q c C2 c0 c1 T2 ((e1.trans (Ex.new hp2 _)).trans e2)
end
inductive Rk where
 | num (i:Int) | turn (n:Str) | ask (s n:Str) | bin (w:Str) (x y:Rk) | pick (x y z:Rk)
def Rk.pv:Rk→PV
 | .num i=>.tup [.str "num",.int i]
 | .turn n=>.tup [.str "turn",.str n]
 | .ask s n=>.tup [.str s,.str n]
 | .bin w x y=>.tup [.str w,x.pv,y.pv]
 | .pick x y z=>.tup [.str "pick",x.pv,y.pv,z.pv]
def JZ (bs:List Str) (s n:Str):Prop:=((s = "take" ∨ s = "down")∧n∈(["a","ab","b"]:List Str))∨(s = "box" ∧ n∈bs)
def Rk.ok (bs τ:List Str):Nat→Rk→Prop
 | _,.num i => -1000000000≤i∧i≤1000000000
 | _,.turn n=>n∈τ
 | _,.ask s n=>JZ bs s n
 | 0,.bin _ _ _=>False
 | 0,.pick _ _ _=>False
 | d+1,.bin w x y=>(w = "add" ∨ w = "times" ∨ w = "less")∧x.ok bs τ d∧y.ok bs τ d
 | d+1,.pick x y z=>x.ok bs τ d∧y.ok bs τ d∧z.ok bs τ d
theorem Rk.ok.up {bs τ:List Str}:∀ {d:Nat}{r:Rk},r.ok bs τ d→r.ok bs τ (d+1)
 | d,.num i,h=>by unfold Rk.ok at h ⊢; exact h
 | d,.turn n,h=>by unfold Rk.ok at h ⊢; exact h
 | d,.ask s n,h=>by unfold Rk.ok at h ⊢; exact h
 | 0,.bin _ _ _,h=>by unfold Rk.ok at h; exact h.elim
 | 0,.pick _ _ _,h=>by unfold Rk.ok at h; exact h.elim
 | d+1,.bin w x y,h=>by
  unfold Rk.ok at h ⊢;exact ⟨h.1,h.2.1.up,h.2.2.up⟩
 | d+1,.pick x y z,h=>by
  unfold Rk.ok at h ⊢;exact ⟨h.1.up,h.2.1.up,h.2.2.up⟩
theorem Rk.ok.mono {bs τ:List Str}{d e:Nat}{r:Rk}(h:r.ok bs τ d) (l:d≤e):r.ok bs τ e:=by
 induction l with
 | refl=>exact h
 | step _ ih=>exact ih.up
structure Kt where
 b:Addr
 r:Addr
 bs:List Str
 rs:List Str
 l:Int
 p:Int
 e:Int
 la:Option Str
def yY:Option Str→PV
 | none=>.non
 | some s=>.str s
def gZ (b r:Addr) (l p e:Int) (la:PV):List (Key×PV):=[(.inr "boxes",.ref b),(.inr "rest",.ref r),(.inr "left",.int l),(.inr "parts",.int p),(.inr "eaches",.int e),(.inr "last",la)]
structure KAt (C:CH) (t k:Addr) (κ:Kt):Prop where
 at_:C k=some (.dK (gZ κ.b κ.r κ.l κ.p κ.e (yY κ.la)))
 bx:C κ.b=some (.lst (κ.bs.map PV.str))
 rx:C κ.r=some (.lst (κ.rs.map PV.str))
 nk:k≠t
 nb:κ.b≠t
 nr:κ.r≠t
 lb:κ.bs.length≤4
 lr:κ.rs.length≤6
theorem KAt.ex {C C':CH}{t k:Addr}{κ:Kt}(h:KAt C t k κ) (e:Ex t C C'):KAt C' t k κ :=
 ⟨e _ _ h.nk h.at_,e _ _ h.nb h.bx,e _ _ h.nr h.rx,h.nk,h.nb,h.nr,h.lb,h.lr⟩
section
variable {b r:Addr}{l p e:Int}{la:PV}
theorem rY:dJ (gZ b r l p e la) (.inr "boxes")=some (.ref b):=rfl
theorem zS:dJ (gZ b r l p e la) (.inr "rest")=some (.ref r):=rfl
theorem aY:dJ (gZ b r l p e la) (.inr "left")=some (.int l):=rfl
theorem iE:dJ (gZ b r l p e la) (.inr "parts")=some (.int p):=rfl
theorem xS:dJ (gZ b r l p e la) (.inr "eaches")=some (.int e):=rfl
theorem jS:dJ (gZ b r l p e la) (.inr "last")=some la:=rfl
theorem pL {l':Int}:gJ (gZ b r l p e la) (.inr "left") (.int l')=gZ b r l' p e la:=rfl
theorem Kc {l':Int}:gJ (gZ b r l p e la) (.inr "parts") (.int l')=gZ b r l l' e la:=rfl
theorem iS {l':Int}:gJ (gZ b r l p e la) (.inr "eaches") (.int l')=gZ b r l p l' la:=rfl
end
theorem aU {ss:List Str}{i:Int}(h0:0≤i) (h1:i < (ss.length:Int)):ss.getD i.toNat "" ∈ ss:=by
 rw [List.getD_eq_getElem?_getD,List.getElem?_eq_getElem (by omega)];exact List.getElem_mem _
section
variable {P:Program}{w:World}{K:PySem.W.Frag}{mg:Str→Option Value}{base:Heap}{a:Adr}
def gLeaf:GC:=fun ts C Q=>∃ (t k:Addr) (τ:List Str) (ns:List Int) (κ:Kt),ts=[.ref t,.ref k,.tup (τ.map PV.str)]∧Tp C t ns∧KAt C t k κ∧τ.length≤4∧∀ (r:Rk) (C':CH),r.ok κ.bs τ 0→Tp C' t ns→Ex t C C'→Q r.pv C'
theorem Qf (T:Txt P w K mg a):FnOk P w K mg base CX0 3 a.Qo a.yO U2 (spC K gLeaf):=by
 have S:=gA;have tQ:=(nJ (base:=base) T).mono (show 1≤2 by decide);have cG:=vH (base:=base) T
 refine Fun.okC T.uE gA (fun ts C R h => ?_) fun cdv A outer s H E hr=>⟨_,(vQ (dQ (i:=3) S.nd rfl (Or.inl rfl) (wQ tQ hr rfl T.wX T.k_l_draw T.b_l_draw lQ (qQ (cv 0) (qQ jQ zQ))))
  (vQ (sX (iQ uZ nX (cv 3) jQ (oQ _)) (mQ (jX (sQ (qQ gQ (qQ (rQ (r:=rIx K) yQ uQ (mZ (qQ gQ (qQ gQ (qQ gQ zQ)))) (wQ tQ hr rfl T.wX T.k_l_draw T.b_l_draw lQ (qQ (cv 0) (qQ jQ zQ))) (fun _ _=>rfl)) zQ))))) dX)
  (vQ (sX (iQ uZ nX (cv 3) jQ (oQ _)) (mQ (jX (sQ (qQ gQ (qQ (rQ (r:=rIx K) yQ uQ (mZ (qQ gQ (qQ gQ (qQ gQ zQ)))) (wQ tQ hr rfl T.wX T.k_l_draw T.b_l_draw lQ (qQ (cv 0) (qQ jQ zQ))) (fun _ _=>rfl)) zQ))))) dX)
  (vQ (sX (cw_pt (cw_and (iQ rL iB (cv 3) jQ (oQ _)) (cw_and1 (iQ yW oJ (mX zZ tZ rfl T.bV rfl (qQ (nZ (vZ hr) (cv 1) gQ (fun _ _=>rfl)) zQ)) jQ (oQ _))))) (mQ (jX (sQ (qQ gQ (qQ (rQ (r:=rIx K) yQ uQ (nZ (vZ hr) (cv 1) gQ (fun _ _=>rfl)) (wQ tQ hr rfl T.wX T.k_l_draw T.b_l_draw lQ (qQ (cv 0) (qQ (mX zZ tZ rfl T.bV rfl (qQ (nZ (vZ hr) (cv 1) gQ (fun _ _=>rfl)) zQ)) zQ))) (fun _ _=>rfl)) zQ))))) dX)
  (vQ (sX (cw_pt (cw_and (iQ uZ nX (cv 3) jQ (oQ _)) (cw_and1 (iQ yW oJ (mX zZ tZ rfl T.bV rfl (qQ (cv 2) zQ)) jQ (oQ _))))) (mQ (jX (sQ (qQ gQ (qQ (rQ (r:=rIx K) yQ uQ (cv 2) (wQ tQ hr rfl T.wX T.k_l_draw T.b_l_draw lQ (qQ (cv 0) (qQ (mX zZ tZ rfl T.bV rfl (qQ (cv 2) zQ)) zQ))) (fun _ _=>rfl)) zQ))))) dX)
  (mQ (jX (sQ (qQ gQ (qQ (wQ cG hr rfl T.bD T.k_l_number T.b_l_number lQ (qQ (cv 0) zQ)) zQ)))))))))),?_⟩
 ·obtain ⟨t,k,τ,ns,κ,rfl,_⟩:=h; rfl
 rintro ts C R ⟨t,k,τ,ns,κ,rfl,hT,hk,hτ,q⟩;refine ⟨t,6,ns,rfl,hT,by decide,by decide,fun v C1 v0 v1 T1 e1 => ?_⟩
 try dsimp only
 have hk1:=hk.ex e1
 have tail:∀ C2,Tp C2 t ns→Ex t C C2→Jq [.ref t] C2 fun x C3=>2≤sizeLine∧R (.tup [.str "num",x]) C3:=by
  intro C2 T2 e2;refine ⟨t,ns,rfl,T2,fun i C3 i0 i1 T3 e3=>⟨by decide,?_⟩⟩;exact q (.num i) C3 ⟨i0,i1⟩ T3 (e2.trans e3)
 refine oZ ?_;refine iX (iZ _ _) ?_;refine bJ (fun hb => ?_) fun hb => ?_
 ·refine ⟨by decide,fun p hp => ?_⟩
  refine ⟨t,3,ns,rfl,T1.new hp _,by decide,by decide,fun i C2 i0 i1 T2 e2 => ?_⟩;refine fZ (e2 p _ (T1.ne hp) xQ) (rW (f:=PV.str) (ss:=["a","ab","b"]) "" i0 i1) ?_;refine ⟨by show 2≤sizeLine; decide,?_⟩;exact q (.ask "take" _) C2 (.inl ⟨.inl rfl,aU (ss:=["a","ab","b"]) i0 i1⟩) T2 ((e1.trans (Ex.new hp _)).trans e2)
 refine jZ ?_
 try dsimp only
 refine oZ ?_;refine iX (iZ _ _) ?_;refine bJ (fun hb => ?_) fun hb => ?_
 ·refine ⟨by decide,fun p hp => ?_⟩
  refine ⟨t,3,ns,rfl,T1.new hp _,by decide,by decide,fun i C2 i0 i1 T2 e2 => ?_⟩;refine fZ (e2 p _ (T1.ne hp) xQ) (rW (f:=PV.str) (ss:=["a","ab","b"]) "" i0 i1) ?_;refine ⟨by show 2≤sizeLine; decide,?_⟩;exact q (.ask "down" _) C2 (.inl ⟨.inr rfl,aU (ss:=["a","ab","b"]) i0 i1⟩) T2 ((e1.trans (Ex.new hp _)).trans e2)
 refine jZ ?_
 try dsimp only
 refine oX (fun ρ' C'=>C'=C1∧ρ'=[some (.ref t),some (.ref k),some (.tup (τ.map PV.str)),some (.int v)]) (fun L hL => ?_) ?_
 ·refine i_i ?_
  refine bJ (fun hb => ?_) fun hb => ?_
  ·refine eJ hk1.at_ rfl rY ?_
   refine oM hk1.bx ?_;refine i_i ?_;refine bJ (fun hb2 => ?_) fun hb2 => ?_
   ·refine eJ hk1.at_ rfl rY ?_
    refine eJ hk1.at_ rfl rY ?_;refine oM hk1.bx ?_;have hl:=hk1.lb;rw [List.length_map] at hb2 ⊢;have hb3:=of_decide_eq_true hb2;refine ⟨t,_,ns,rfl,T1,hb3,by omega,fun i C2 i0 i1 T2 e2 => ?_⟩;refine fZ ((hk1.ex e2).bx) (rW (f:=PV.str) "" i0 i1) ?_;refine ⟨by show 2≤sizeLine; decide,?_⟩;exact q (.ask "box" _) C2 (.inr ⟨rfl,aU i0 i1⟩) T2 (e1.trans e2)
   ·refine jZ ?_
    exact hL _ _ ⟨rfl,rfl⟩
  ·refine jP rfl ?_
   refine jZ ?_;exact hL _ _ ⟨rfl,rfl⟩
 rintro ρ' C' ⟨rfl,rfl⟩
 try dsimp only
 refine oX (fun ρ' C''=>C''=C'∧ρ'=[some (.ref t),some (.ref k),some (.tup (τ.map PV.str)),some (.int v)]) (fun L hL => ?_) ?_
 ·refine iX (iZ _ _) ?_
  refine bJ (fun hb => ?_) fun hb => ?_
  ·refine Xx ?_
   refine i_i ?_;refine bJ (fun hb2 => ?_) fun hb2 => ?_
   ·refine Xx ?_
    rw [List.length_map] at hb2 ⊢;have hb3:=of_decide_eq_true hb2;refine ⟨t,_,ns,rfl,T1,hb3,by omega,fun i C2 i0 i1 T2 e2 => ?_⟩;refine wJ (rW (f:=PV.str) "" i0 i1) ?_;refine ⟨by show 2≤sizeLine; decide,?_⟩;exact q (.turn _) C2 (aU i0 i1) T2 (e1.trans e2)
   ·refine jZ ?_
    exact hL _ _ ⟨rfl,rfl⟩
  ·refine jP rfl ?_
   refine jZ ?_;exact hL _ _ ⟨rfl,rfl⟩
 rintro ρ' C'' ⟨rfl,rfl⟩
 try dsimp only
 exact tail _ T1 e1
end
theorem yC {b:Bool}{C:CH}{Q:K1}(q:Q (.int (if b then 1 else 0)) C):cInt [.bl b] C Q:=by
 unfold cInt;exact q
def rngP (m:Nat):List PV:=(List.range m).map fun k=>PV.int (k:Nat)
theorem VE (m:Nat):(rngP m).length=m:=by unfold rngP; rw [List.length_map,List.length_range]
section
variable {P:Program}{w:World}{K:PySem.W.Frag}{mg:Str→Option Value}{base:Heap}{a:Adr}
def ZJ (d:Nat):GC:=fun ts C Q=>∃ (t k:Addr) (τ:List Str) (ns:List Int) (κ:Kt),ts=[.ref t,.ref k,.tup (τ.map PV.str),.int (d:Nat)]∧Tp C t ns∧KAt C t k κ∧τ.length≤4∧∀ (r:Rk) (C':CH),r.ok κ.bs τ d→Tp C' t ns→Ex t C C'→Q r.pv C'
theorem wT (T:Txt P w K mg a) (d:Nat):FnOk P w K mg base CX0 (d+4) a.sT a.oF U0 (spC K (ZJ d)):=by
 have main:∀ n,(∀ d',n=d'+1→FnOk P w K mg base CX0 (d'+4) a.sT a.oF U0 (spC K (ZJ d')))→FnOk P w K mg base CX0 (n+4) a.sT a.oF U0 (spC K (ZJ n)):=by
  intro n ih;have S:=Q4;have tQ:=(nJ (base:=base) T).mono (show 1≤n+3 by omega);have uF:=(Qf (base:=base) T).mono (show 3≤n+3 by omega)
  have uV:FnOk P w K mg base CX0 (n+3) a.sT a.oF U0 (spC K (fun ts C Q=>∃ d',n=d'+1∧ZJ d' ts C Q)):=by
   cases n with
   | zero=>exact ⟨fun vs H Q E ⟨ts,C,R,_,_,⟨d',e,_⟩,_⟩=>by omega,fun _ _ _ _ _ _ _ _ _ _ _ _ _ ⟨ts,C,R,_,_,⟨d',e,_⟩,_⟩=>by omega⟩
   | succ d' =>
    have:=ih d' rfl
    have e:(fun ts C Q=>∃ d'',d'+1=d''+1∧ZJ d'' ts C Q)=ZJ d':=by
     funext ts C Q
     refine propext ⟨fun ⟨d'',e,h⟩ => ?_,fun h=>⟨d',rfl,h⟩⟩;cases Nat.succ.inj e;exact h
    rw [e];exact this
  refine Fun.okC T.QR Q4 (fun ts C R h => ?_) fun cdv A outer s H E hr=>⟨_,(vQ (dQ (i:=4) S.nd rfl (Or.inl rfl) (wQ tQ hr rfl T.wX T.k_l_draw T.b_l_draw lQ (qQ (cv 0) (qQ jQ zQ))))
  (vQ (sX (cw_pt (cw_or (iQ uZ nX (cv 3) jQ (oQ _)) (cw_or1 (iQ rL iB (cv 4) jQ (oQ _))))) (mQ (jX (wQ uF hr rfl T.cT T.k_l_leaf T.b_l_leaf lQ (qQ (cv 0) (qQ (cv 1) (qQ (cv 2) zQ)))))) dX)
  (vQ (dQ (i:=5) S.nd rfl (Or.inl rfl) (rQ (r:=rIx K) yQ uQ (mZ (qQ gQ (qQ gQ (qQ gQ (qQ gQ zQ))))) (uX xV fJ (cv 4) jQ) (fun _ _=>rfl)))
  (vQ (dQ (i:=6) S.nd rfl (Or.inl rfl) (rQ (r:=rIx K) yQ uQ (mZ (qQ jQ (qQ jQ zQ))) (xX aV kU rfl T.zL rfl (qQ (uY uZ nX (cv 5) gQ (oQ _)) zQ)) (fun _ _=>rfl)))
  (mQ (jX (uX hX rX (sQ (qQ (cv 5) zQ)) (xX zX dZ rfl T.bZ rfl (qQ (xU rfl (show (["_law_k","_law_tape_here","_law_kit","_law_turns","_law_deep","_law_way","_law_word","_law_many"]:List Str).Nodup by decide +kernel) (yJ (N:=U23) (sc:=kQ pY) rfl rfl rfl (by decide +kernel)) (cO rfl T.fY (qQ (cv 6) zQ)) (fun _ _ _ _ _=>vV) (fun _ _ _ _ _=>(wQ uV hr rfl T.uB T.k_l_sum T.b_l_sum lQ (qQ (cv 1) (qQ (cv 2) (qQ (cv 3) (qQ (uX xV fJ (cv 4) jQ) zQ))))))) zQ))))))))),?_⟩
  ·obtain ⟨t,k,τ,ns,κ,rfl,_⟩:=h; rfl
  rintro ts C R ⟨t,k,τ,ns,κ,rfl,hT,hk,hτ,q⟩;refine ⟨t,8,ns,rfl,hT,by decide,by decide,fun v C1 v0 v1 T1 e1 => ?_⟩
  try dsimp only
  have hk1:=hk.ex e1
  have leaf:∀ E':K1,E'=R→gLeaf [.ref t,.ref k,.tup (τ.map PV.str)] C1 E':=by
   rintro E' rfl;exact ⟨t,k,τ,ns,κ,rfl,T1,hk1,hτ,fun r C2 hr T2 e2=>q r C2 (hr.mono (Nat.zero_le _)) T2 (e1.trans e2)⟩
  refine oX (fun ρ' C'=>C'=C1∧0 < n∧4≤v∧ρ'=[some (.ref t),some (.ref k),some (.tup (τ.map PV.str)),some (.int (n:Nat)),some (.int v),none,none]) (fun L hL => ?_) ?_
  ·refine iX (iZ _ _) ?_
   refine bJ (fun hb => ?_) fun hb => ?_
   ·refine if_y rfl ?_
    exact leaf _ rfl
   ·refine i_i ?_
    refine bJ (fun hb2 => ?_) fun hb2 => ?_
    ·exact leaf _ rfl
    ·refine jZ ?_
     have:=of_decide_eq_false hb;have:=of_decide_eq_false hb2;exact hL _ _ ⟨rfl,by omega,by omega,rfl⟩
  rintro ρ' C' ⟨rfl,hn,hv,rfl⟩
  try dsimp only
  obtain ⟨d',rfl⟩:∃ d',n=d'+1:=⟨n - 1,by omega⟩
  have fin:∀ (wd:Str) (m:Nat) (C2:CH),(m=2∧(wd = "add" ∨ wd = "times" ∨ wd = "less"))∨(m=3∧wd = "pick")→Tp C2 t ns→Ex t C C2 →
    ∀ (c:TCE) (ρ:CSt) (Q:K1),(∀ x C3 (L:K1),Tp C3 t ns→Ex t C C3→(∀ r C4,Rk.ok κ.bs τ d' r→Tp C4 t ns→Ex t C C4→L r.pv C4)→c (some x::ρ) C3 L)→(∀ (p:Addr) (rs:List Rk) (C3:CH),Tp C3 t ns→Ex t C C3→C3 p=some (.lst (rs.map Rk.pv))→(∃ r:Rk,r.ok κ.bs τ (d'+1)∧r.pv=.tup (.str wd::rs.map Rk.pv)∧rs.length≤3)→Q (.ref p) C3) →
    zJ sD c ρ Q (rngP m) [] C2:=by
   intro wd m C2 hw T2 e2 c ρ Q step fin;refine qB (fun zs acc C3=>Tp C3 t ns∧Ex t C C3∧∃ rs:List Rk,acc=rs.map Rk.pv∧rs.length+zs.length=m∧∀ r∈rs,Rk.ok κ.bs τ d' r) ?_ ?_ _ _ _ ⟨T2,e2,[],rfl,by rw [VE]; exact Nat.zero_add _,fun r hr=>nomatch hr⟩
   ·rintro x r acc C3 ⟨T3,e3,rs,rfl,hl,ho⟩ L hL
    refine step x C3 L T3 e3 fun r4 C4 ok4 T4 e4=>hL _ _ ⟨?_,T4,e4,rs++[r4],by rw [List.map_append]; rfl,by rw [List.length_append,List.length_singleton]; rw [List.length_cons] at hl; omega,fun r hr => ?_⟩
    ·rw [List.length_map]
     exact Nat.lt_of_lt_of_le (show rs.length < 4 by omega) (by decide)
    ·rcases List.mem_append.1 hr with hr | hr
     ·exact ho r hr
     ·cases List.mem_singleton.1 hr; exact ok4
   ·rintro acc C3 ⟨T3,e3,rs,rfl,hl,ho⟩ p hp
    refine fin p rs _ (T3.new hp _) (e3.trans (Ex.new hp _)) xQ ?_;rw [List.length_nil,Nat.add_zero] at hl
    rcases hw with ⟨rfl,hw⟩ | ⟨rfl,hw⟩
    ·match rs,hl with
     | [x,y],_=>exact ⟨.bin wd x y,by unfold Rk.ok; exact ⟨hw,ho x (by simp),ho y (by simp)⟩,rfl,by show 2≤3; decide⟩
    ·match rs,hl with
     | [x,y,z],_=>exact ⟨.pick x y z,by unfold Rk.ok; exact ⟨ho x (by simp),ho y (by simp),ho z (by simp)⟩,by rw [hw]; rfl,by show 3≤3; decide⟩
  refine cQ ?_;refine ⟨by decide,fun p hp => ?_⟩;refine i_i ?_;have T2:=T1.new hp (.lst [PV.str "add",PV.str "times",PV.str "less",PV.str "pick"]);have e2:=e1.trans (Ex.new hp (.lst [PV.str "add",PV.str "times",PV.str "less",PV.str "pick"]));have cases4:v=4∨v=5∨v=6∨v=7:=by omega
  obtain ⟨wd,m,hat,hw⟩:∃ (wd:Str) (m:Nat),atI ([PV.str "add",PV.str "times",PV.str "less",PV.str "pick"]) (v - 4)=some (.str wd)∧((m=2∧(wd = "add" ∨ wd = "times" ∨ wd = "less"))∨(m=3∧wd = "pick")):=by
   rcases cases4 with rfl | rfl | rfl | rfl
   ·exact ⟨"add",2,rfl,.inl ⟨rfl,.inl rfl⟩⟩
   ·exact ⟨"times",2,rfl,.inl ⟨rfl,.inr (.inl rfl)⟩⟩
   ·exact ⟨"less",2,rfl,.inl ⟨rfl,.inr (.inr rfl)⟩⟩
   ·exact ⟨"pick",3,rfl,.inr ⟨rfl,rfl⟩⟩
  refine fZ xQ hat ?_
  try dsimp only
  refine cQ ?_;refine ⟨by decide,fun p2 hp2 => ?_⟩;refine iX (qX _ _) ?_;refine yC ?_
  have hat2:atI [PV.int 2,PV.int 3] (if decide (wd = "pick") then 1 else 0)=some (.int (m:Nat)):=by
   rcases hw with ⟨rfl,hw⟩ | ⟨rfl,rfl⟩
   ·have:¬ wd = "pick" := by rcases hw with rfl | rfl | rfl<;>decide
    rw [decide_eq_false this]; rfl
   ·rfl
  refine fZ xQ hat2 ?_
  try dsimp only
  refine ⟨by show 1≤sizeLine; decide,?_⟩;have hm:m≤3:=by rcases hw with ⟨rfl,_⟩ | ⟨rfl,_⟩<;>decide
  refine ⟨by omega,by omega,?_⟩;refine fin wd m _ hw (T2.new hp2 _) (e2.trans (Ex.new hp2 _)) _ _ _ (fun x C3 L T3 e3 hL => ?_) fun p3 rs C3 T3 e3 m3 hr => ?_
  ·refine i_i ?_
   refine ⟨d',rfl,t,k,τ,ns,κ,?_,T3,hk.ex e3,hτ,fun r C4 ok4 T4 e4=>hL r C4 ok4 T4 (e3.trans e4)⟩;have:((d'+1:Nat):Int) - 1=(d':Nat):=by omega
   rw [this]
  ·obtain ⟨r,ok,ep,lr⟩:=hr
   refine qV m3 ?_;refine xB (by show 1+_≤sizeLine; rw [List.length_map]; exact Nat.le_trans (show 1+rs.length≤4 by omega) (by decide)) ?_;have:=q r C3 ok T3 e3;rw [ep] at this;exact this
 induction d with
 | zero=>exact main 0 fun d' e=>by omega
 | succ d ih=>exact main (d+1) fun d' e=>by cases Nat.succ.inj e; exact ih
end
def oT:Option Rk→PV
 | none=>.non
 | some r=>r.pv
def XA (bs τ:List Str):Option Rk→Prop
 | none=>True
 | some r=>r.ok bs τ 0
def jG (c:Str×Rk):PV:=.tup [.str c.1,c.2.pv]
def oE (bs τ:List Str) (d:Nat) (ps:List (Str×Rk)):Prop:=∀ c∈ps,c.2.ok bs τ d
theorem at_last {τ:List Str}(h:0 < τ.length):∃ s∈τ,atI (τ.map PV.str) (-1)=some (.str s):=by
 unfold atI ixN;rw [if_neg (by decide),List.length_map,if_pos (by omega)];have:((τ.length:Int) + -1).toNat < τ.length:=by omega
 refine ⟨τ[((τ.length:Int) + -1).toNat],List.getElem_mem _,?_⟩;show (τ.map PV.str)[((τ.length:Int) + -1).toNat]?=_;rw [List.getElem?_map,List.getElem?_eq_getElem this]
 rfl
theorem cl_l {t:TCT}{c:TCE}{i:Nat}{a:Addr}{xs:List PV}{ρ:CSt}{C:CH}{Q:K1}(h:C a=some (.lst xs)) (hv:ρ[i]?=some (some (.ref a))) (q:yF (fun C=>C a=some (.lst xs)) t c ρ Q xs [] C):tO (qW i) t c ρ C Q:=by
 unfold tO qW;rw [hv];dsimp only;rw [h];exact q
theorem qM {β:Type}{c:TCE}{ρ:CSt}{Q:K1}{p:Addr}{ss:List Str}(mk:Str×β→PV) (ok:β→Prop) (J:CH→Prop) (hJ:∀ C,J C→C p=some (.lst (ss.map PV.str))) (hl:ss.length≤1000)
  (step:∀ z C (L:K1),J C→(∀ b C',ok b→J C'→L (mk (z,b)) C')→c (some (.str z)::ρ) C L)
  (fin:∀ (bs:List (Str×β)) C p',J C→C p'=none→bs.map (·.1)=ss→(∀ x∈bs,ok x.2)→Q (.ref p') (nQ C p' (.lst (bs.map mk)))) {C:CH} (hC:J C) :
  yF (fun C=>C p=some (.lst (ss.map PV.str))) sD c ρ Q (ss.map PV.str) [] C:=by
 refine KW (fun zs acc C=>J C∧∃ (bs:List (Str×β)) (us:List Str),zs=us.map PV.str∧acc=bs.map mk∧bs.map (·.1)++us=ss∧∀ x∈bs,ok x.2) (fun _ _ _ h=>hJ _ h.1) ?_ ?_ _ _ _ ⟨hC,[],ss,rfl,rfl,rfl,fun x h=>nomatch h⟩
 ·rintro x r acc C1 ⟨j1,bs,us,hz,rfl,e,o⟩ L hL
  cases us with
  | nil=>cases hz
  | cons u us =>
   obtain ⟨rfl,rfl⟩:=List.cons.inj hz;refine step u C1 L j1 fun b C' ob j'=>hL _ _ ⟨?_,j',bs++[(u,b)],us,rfl,by rw [List.map_append]; rfl,by rw [List.map_append,List.append_assoc]; exact e,fun x hx => ?_⟩
   ·have:=congrArg List.length e
    rw [List.length_append,List.length_map,List.length_cons] at this;rw [List.length_map];exact Nat.lt_of_lt_of_le (show bs.length < 1001 by omega) (by decide)
   ·rcases List.mem_append.1 hx with hx | hx
    ·exact o x hx
    ·cases List.mem_singleton.1 hx; exact ob
 ·rintro acc C1 ⟨j1,bs,us,hz,rfl,e,o⟩ p' hp
  cases us with
  | nil=>rw [List.append_nil] at e; exact fin bs C1 p' j1 hp e o
  | cons u us=>cases hz
section
variable {P:Program}{w:World}{K:PySem.W.Frag}{mg:Str→Option Value}{base:Heap}{a:Adr}
def gKey:GC:=fun ts C Q=>∃ (t k:Addr) (τ:List Str) (ns:List Int) (κ:Kt),ts=[.ref t,.ref k,.tup (τ.map PV.str)]∧Tp C t ns∧KAt C t k κ∧τ.length≤4∧∀ (o:Option Rk) (C':CH),XA κ.bs τ o→Tp C' t ns→Ex t C C'→Q (oT o) C'
theorem Zw (T:Txt P w K mg a):FnOk P w K mg base CX0 4 a.Jk a.Qw U2 (spC K gKey):=by
 have S:=Q6;have tQ:=(nJ (base:=base) T).mono (show 1≤3 by decide);have uF:=Qf (base:=base) T
 refine Fun.okC T.QT Q6 (fun ts C R h => ?_) fun cdv A outer s H E hr=>⟨_,(vQ (dQ (i:=3) S.nd rfl (Or.inl rfl) (wQ tQ hr rfl T.wX T.k_l_draw T.b_l_draw lQ (qQ (cv 0) (qQ jQ zQ))))
  (vQ (sX (iQ rL iB (cv 3) jQ (oQ _)) (mQ (jX nD)) dX)
  (vQ (sX (cw_pt (cw_and (iQ uZ nX (cv 3) jQ (oQ _)) (cw_and1 (iQ yW oJ (mX zZ tZ rfl T.bV rfl (qQ (cv 2) zQ)) jQ (oQ _))))) (mQ (jX (sQ (qQ gQ (qQ (rQ (r:=rIx K) yQ uQ (cv 2) (JK oI lR jQ) (fun _ _=>rfl)) zQ))))) dX)
  (mQ (jX (wQ uF hr rfl T.cT T.k_l_leaf T.b_l_leaf lQ (qQ (cv 0) (qQ (cv 1) (qQ (cv 2) zQ))))))))),?_⟩
 ·obtain ⟨t,k,τ,ns,κ,rfl,_⟩:=h; rfl
 rintro ts C R ⟨t,k,τ,ns,κ,rfl,hT,hk,hτ,q⟩;refine ⟨t,4,ns,rfl,hT,by decide,by decide,fun v C1 v0 v1 T1 e1 => ?_⟩
 try dsimp only
 have hk1:=hk.ex e1;refine oZ ?_;refine i_i ?_;refine bJ (fun hb => ?_) fun hb => ?_
 ·exact q none C1 trivial T1 e1
 refine jZ ?_
 try dsimp only
 refine oX (fun ρ' C'=>C'=C1∧ρ'=[some (.ref t),some (.ref k),some (.tup (τ.map PV.str)),some (.int v)]) (fun L hL => ?_) ?_
 ·refine iX (iZ _ _) ?_
  refine bJ (fun hb => ?_) fun hb => ?_
  ·refine Xx ?_
   refine i_i ?_;refine bJ (fun hb2 => ?_) fun hb2 => ?_
   ·rw [List.length_map] at hb2
    have hb3:=of_decide_eq_true hb2;obtain ⟨s,hs,es⟩:=at_last (τ:=τ) (by omega);refine wJ es ?_;refine ⟨by show 2≤sizeLine; decide,?_⟩;exact q (some (.turn s)) C1 hs T1 e1
   ·refine jZ ?_
    exact hL _ _ ⟨rfl,rfl⟩
  ·refine jP rfl ?_
   refine jZ ?_;exact hL _ _ ⟨rfl,rfl⟩
 rintro ρ' C' ⟨rfl,rfl⟩
 try dsimp only
 exact ⟨t,k,τ,ns,κ,rfl,T1,hk1,hτ,fun r C2 hr T2 e2=>q (some r) C2 hr T2 (e1.trans e2)⟩
def gPairs:GC:=fun ts C Q=>∃ (t k:Addr) (τ:List Str) (ns:List Int) (κ:Kt),ts=[.ref t,.ref k,.tup (τ.map PV.str),.int 2]∧Tp C t ns∧KAt C t k κ∧τ.length≤4∧∀ (ps:List (Str×Rk)) (C':CH),oE κ.bs τ 2 ps→ps.length≤4→Tp C' t ns→Ex t C C'→Q (.tup (ps.map jG)) C'
theorem V9 (T:Txt P w K mg a):FnOk P w K mg base CX0 7 a.kR a.cH U17 (spC K gPairs):=by
 have S:=dS;have tQ:=(nJ (base:=base) T).mono (show 1≤6 by decide);have iJ:=(nM (base:=base) T).mono (show 2≤6 by decide);have uV:=wT (base:=base) T 2
 refine Fun.okC T.dN dS (fun ts C R h => ?_) fun cdv A outer s H E hr=>⟨_,(vQ (dQ (i:=4) S.nd rfl (Or.inl rfl) (wQ iJ hr rfl T.nY T.k_l_names T.b_l_names lQ (qQ (cv 0) (qQ (wQ tQ hr rfl T.wX T.k_l_draw T.b_l_draw lQ (qQ (cv 0) (qQ (uX hX rX (cv 3) jQ) zQ))) zQ))))
  (mQ (jX (xX zX dZ rfl T.bZ rfl (qQ (pP rfl (show (["_law_name","_law_tape_here","_law_kit","_law_turns","_law_most","_law_names_here"]:List Str).Nodup by decide +kernel) (yJ (N:=U28) (sc:=kQ lK) rfl rfl rfl (by decide +kernel)) (cv 4) (fun _ _ _ _ _=>vV) (fun _ _ _ _ _=>(sQ (qQ (cv 0) (qQ (wQ uV hr rfl T.uB T.k_l_sum T.b_l_sum lQ (qQ (cv 1) (qQ (cv 2) (qQ (cv 3) (qQ jQ zQ))))) zQ))))) zQ))))),?_⟩
 ·obtain ⟨t,k,τ,ns,κ,rfl,_⟩:=h; rfl
 rintro ts C R ⟨t,k,τ,ns,κ,rfl,hT,hk,hτ,q⟩;refine dW ?_;refine ⟨t,3,ns,rfl,hT,by decide,by decide,fun v C1 v0 v1 T1 e1 => ?_⟩;refine ⟨t,v,ns,rfl,T1,v0,by omega,fun p ss C2 m2 n2 pt hl nd T2 e2 => ?_⟩
 try dsimp only
 refine cl_l m2 rfl ?_;refine qM (β:=Rk) jG (fun r=>r.ok κ.bs τ 2) (fun C'=>Tp C' t ns∧Ex t C C'∧C' p=some (.lst (ss.map PV.str))) (fun _ h=>h.2.2) (by omega) (fun z C3 L ⟨T3,e3,m3⟩ hL => ?_) (fun bs C3 p3 ⟨T3,e3,m3⟩ hp3 hb ho => ?_) ⟨T2,e1.trans e2,m2⟩
 ·refine ⟨t,k,τ,ns,κ,rfl,T3,hk.ex e3,hτ,fun r C4 hr T4 e4=>⟨by show 2≤sizeLine; decide,hL r C4 hr ⟨T4,e3.trans e4,e4 _ _ pt m3⟩⟩⟩
 ·refine qV xQ ?_
  exact q bs _ ho (by have:=congrArg List.length hb; rw [List.length_map] at this; omega) (T3.new hp3 _) (e3.trans (Ex.new hp3 _))
end
structure Hd where
 ev:Str
 rank:Int
 last:Bool
 ch:List (Str×Str×Rk)
def chPV (c:Str×Str×Rk):PV:=.tup [.str c.1,.str c.2.1,c.2.2.pv]
def Hd.pv (h:Hd):PV:=.tup [.str h.ev,.int h.rank,.bl h.last,.tup (h.ch.map chPV)]
def Hd.ok (bs τ:List Str) (h:Hd):Prop:=h.ch.length≤4∧∀ c∈h.ch,c.2.2.ok bs τ 1
theorem Ex.put {t:Addr}{C C1:CH}{p:Addr}(g:Ex t C C1) (hp:C p=none) (o:CO):Ex t C (nQ C1 p o):=fun b u n e=>by
 rw [bQ (fun z=>by subst z; rw [hp] at e; cases e)];exact g b u n e
theorem Tp.put {C:CH}{t p:Addr}{ns:List Int}(h:Tp C t ns) (hp:p≠t) (o:CO):Tp (nQ C p o) t ns:=by
 obtain ⟨⟨a,b,c,e,r⟩,l⟩:=h;exact ⟨⟨a,b,c,by rw [bQ (Ne.symm hp)]; exact e,r⟩,l⟩
theorem Ex.none {t:Addr}{C C':CH}{p:Addr}(g:Ex t C C') (n:p≠t) (h:C' p=none):C p=none:=by
 cases e:C p with
 | none=>rfl
 | some o=>rw [g p o n e] at h; cases h
theorem eY {b:Addr}{xs:List PV}{g:TCG}{u:TCS}{E:gU}(I:Nat→CSt→CH→Prop) (hm:∀ i ρ C,I i ρ C→C b=some (.lst xs)) (step:∀ i x ρ C,xs[i]?=some x→I i ρ C→∀ L:CSt→CH→Prop,(∀ ρ' C',I (i+1) ρ' C'→L ρ' C')→g x ρ C fun ρ1 C1=>u { nx:=L,ct:=L,bk:=E.nx,rt:=E.rt } ρ1 C1) (fin:∀ ρ C,I xs.length ρ C→E.nx ρ C) :
  ∀ n i ρ C,I i ρ C→i+n=xs.length+1→i≤xs.length→jM b g u E n i ρ C:=by
 intro n
 induction n with
 | zero=>intro i ρ C h h1 h2; omega
 | succ n ih =>
  intro i ρ C h h1 h2;unfold jM;rw [hm i ρ C h];dsimp only
  cases e:xs[i]? with
  | none =>
   have:xs.length≤i:=List.getElem?_eq_none_iff.1 e;have:i=xs.length:=by omega
   subst this;exact fin ρ C h
  | some x =>
   have hi:i < xs.length:=(List.getElem?_eq_some_iff.1 e).1;exact step i x ρ C e h _ fun ρ' C' h'=>ih (i+1) ρ' C' h' (by omega) (by omega)
theorem sl_l {b:Addr}{xs:List PV}{lo hi:Option Int}{C:CH}{Q:K1}(h:C b=some (.lst xs)) (q:∀ p,C p=none→Q (.ref p) (nQ C p (.lst (oC xs lo hi)))):cSlL (.ref b) lo hi C Q:=by
 unfold cSlL;dsimp only;rw [h];exact q
theorem cut_two (v:Int) (h0:0≤v) (h1:v < 3):oC [PV.str "tap",PV.str "key"] none (some v)=((["tap","key"]:List Str).take v.toNat).map PV.str:=by
 have:v=0∨v=1∨v=2:=by omega
 rcases this with rfl | rfl | rfl<;>rfl
section
variable {P:Program}{w:World}{K:PySem.W.Frag}{mg:Str→Option Value}{base:Heap}{a:Adr}
def gHands:GC:=fun ts C Q=>∃ (t k:Addr) (τ:List Str) (ns:List Int) (κ:Kt),ts=[.ref t,.ref k,.tup (τ.map PV.str)]∧Tp C t ns∧KAt C t k κ∧τ.length≤4∧∀ (hs:List Hd) (C':CH),(∀ h∈hs,h.ok κ.bs τ)→hs.length≤4→Tp C' t ns→Ex t C C'→Q (.tup (hs.map Hd.pv)) C'
theorem Wd (T:Txt P w K mg a):FnOk P w K mg base CX0 6 a.uR a.sH U2 (spC K gHands):=by
 have S:=oS;have tQ:=(nJ (base:=base) T).mono (show 1≤5 by decide);have uV:=wT (base:=base) T 1
 refine Fun.okC T.sN oS (fun ts C R h => ?_) fun cdv A outer s H E hr=>⟨_,(vQ (dQ (i:=3) S.nd rfl (Or.inl rfl) (mZ zQ))
  (vQ (aB PassesOwn.never rfl (ZP (mZ (qQ gQ (qQ gQ zQ))) bP (gP (wQ tQ hr rfl T.wX T.k_l_draw T.b_l_draw lQ (qQ (cv 0) (qQ jQ zQ))))) (pX (i:=4) S.nd rfl (Or.inl rfl)) (vQ (dQ (i:=5) S.nd rfl (Or.inl rfl) (mZ zQ))
  (vQ (sX (iQ yW oJ (mX zZ tZ rfl T.bV rfl (qQ (nZ (vZ hr) (cv 1) gQ (fun _ _=>rfl)) zQ)) jQ (oQ _)) (mQ (rR PassesOwn.never rfl rfl T.fY (qQ (wQ tQ hr rfl T.wX T.k_l_draw T.b_l_draw lQ (qQ (cv 0) (qQ jQ zQ))) zQ) (pX (i:=6) S.nd rfl (Or.inl rfl)) (vQ (dQ (i:=7) S.nd rfl (Or.inl rfl) (rQ (r:=rIx K) yQ uQ (nZ (vZ hr) (cv 1) gQ (fun _ _=>rfl)) (wQ tQ hr rfl T.wX T.k_l_draw T.b_l_draw lQ (qQ (cv 0) (qQ (mX zZ tZ rfl T.bV rfl (qQ (nZ (vZ hr) (cv 1) gQ (fun _ _=>rfl)) zQ)) zQ))) (fun _ _=>rfl)))
  (vQ (dQ (i:=8) S.nd rfl (Or.inl rfl) (rQ (r:=rIx K) yQ uQ (mZ (qQ gQ (qQ gQ (qQ gQ zQ)))) (wQ tQ hr rfl T.wX T.k_l_draw T.b_l_draw lQ (qQ (cv 0) (qQ jQ zQ))) (fun _ _=>rfl)))
  (mQ (mJ (wF PySem.F.plainAttrs_list PySem.F.slot_list_append PySem.F.type_list_append pJ tJ (cv 5) (qQ (sQ (qQ (cv 7) (qQ (cv 8) (qQ (wQ uV hr rfl T.uB T.k_l_sum T.b_l_sum lQ (qQ (cv 0) (qQ (cv 1) (qQ (cv 2) (qQ jQ zQ))))) zQ)))) zQ)))))))) dX)
  (mQ (mJ (wF PySem.F.plainAttrs_list PySem.F.slot_list_append PySem.F.type_list_append pJ tJ (cv 3) (qQ (sQ (qQ (cv 4) (qQ (uX hX rX jQ (wQ tQ hr rfl T.wX T.k_l_draw T.b_l_draw lQ (qQ (cv 0) (qQ jQ zQ)))) (qQ (uY uZ nX (wQ tQ hr rfl T.wX T.k_l_draw T.b_l_draw lQ (qQ (cv 0) (qQ jQ zQ))) jQ (oQ _)) (qQ (xX zX dZ rfl T.bZ rfl (qQ (cv 5) zQ)) zQ))))) zQ)))))))
  (mQ (jX (xX zX dZ rfl T.bZ rfl (qQ (cv 3) zQ)))))),?_⟩
 ·obtain ⟨t,k,τ,ns,κ,rfl,_⟩:=h; rfl
 rintro ts C R ⟨t,k,τ,ns,κ,rfl,hT,hk,hτ,q⟩;refine cQ ?_;refine ⟨by show 0≤sizeLine; decide,fun h hh => ?_⟩;have nht:=hT.ne hh
 try dsimp only
 refine oX (fun ρ' C'=>∃ (hs:List Hd) (x4 x5 x6 x7 x8:Option PV),ρ'=[some (.ref t),some (.ref k),some (.tup (τ.map PV.str)),some (.ref h),x4,x5,x6,x7,x8]∧C' h=some (.lst (hs.map Hd.pv))∧hs.length≤2∧(∀ h∈hs,h.ok κ.bs τ)∧Tp C' t ns∧Ex t C C') (fun L hL => ?_) ?_
 ·refine ⟨by show 2≤sizeLine; decide,fun p1 hp1 => ?_⟩
  have T1:=(hT.new hh (.lst [])).new hp1 (.lst [PV.str "tap",PV.str "key"]);refine ⟨t,3,ns,rfl,T1,by decide,by decide,fun v C2 v0 v1 T2 e2 => ?_⟩;have np1:p1≠t:=(hT.new hh (.lst [])).ne hp1;have m2:C2 p1=_:=e2 p1 _ np1 xQ;have nhp:h≠p1:=fun z=>by subst z; rw [xQ] at hp1; cases hp1
  have mh2:C2 h=some (.lst []):=e2 h _ nht (by rw [bQ nhp]; exact xQ);refine sl_l m2 fun p2 hp2 => ?_;rw [cut_two v v0 v1];have np2:p2≠t:=T2.ne hp2;have nhp2:h≠p2:=fun z=>by subst z; rw [hp2] at mh2; cases mh2
  have e02:Ex t C C2:=fun b o n e=>e2 b o n (Gr.new hp1 _ _ _ (Gr.new hh _ _ _ e));generalize hss:(["tap","key"]:List Str).take v.toNat=ss;have hsl:ss.length≤2:=by rw [← hss,List.length_take]; exact Nat.min_le_right _ _
  refine ⟨ss.length+1,?_⟩;refine eY (xs:=ss.map PV.str) (fun i ρ C'=>C' p2=some (.lst (ss.map PV.str))∧∃ (hs:List Hd) (x4 x5 x6 x7 x8:Option PV),ρ=[some (.ref t),some (.ref k),some (.tup (τ.map PV.str)),some (.ref h),x4,x5,x6,x7,x8]∧C' h=some (.lst (hs.map Hd.pv))∧hs.length=i∧i≤ss.length∧(∀ h∈hs,h.ok κ.bs τ)∧Tp C' t ns∧Ex t C C') (fun _ _ _ h=>h.1) ?_ ?_ _ 0 _ _ ⟨xQ,[],_,_,_,_,_,rfl,?_,rfl,Nat.zero_le _,(fun _ z=>nomatch z),T2.new hp2 _,e02.trans (Ex.new hp2 _)⟩ (by rw [List.length_map]; omega) (Nat.zero_le _)
  ·rintro i x ρ C3 hx ⟨m3,hs,x4,x5,x6,x7,x8,rfl,mh,hl,hi,ho,T3,e3⟩ L1 hL1
   have hx':∃ z:Str,x=.str z:=by
    rw [List.getElem?_map] at hx
    cases z:ss[i]? with
    | none=>rw [z] at hx; cases hx
    | some u=>rw [z] at hx; cases hx; exact ⟨u,rfl⟩
   have hi':i < ss.length:=by
    have:=(List.getElem?_eq_some_iff.1 hx).1;rw [List.length_map] at this;exact this
   obtain ⟨ev,rfl⟩:=hx';refine cQ ?_;refine ⟨by show 0≤sizeLine; decide,fun c hc => ?_⟩;have nct:=T3.ne hc;have nch:c≠h:=fun z=>by subst z; rw [mh] at hc; cases hc
   have ncp:c≠p2:=fun z=>by subst z; rw [m3] at hc; cases hc
   have hc0:C c=none:=e3.none nct hc
   try dsimp only
   refine oX (fun ρ' C'=>∃ (cs:List (Str×Str×Rk)) (x6 x7 x8:Option PV),ρ'=[some (.ref t),some (.ref k),some (.tup (τ.map PV.str)),some (.ref h),some (.str ev),some (.ref c),x6,x7,x8]∧C' c=some (.lst (cs.map chPV))∧cs.length≤2∧(∀ c∈cs,c.2.2.ok κ.bs τ 1)∧C' h=some (.lst (hs.map Hd.pv))∧C' p2=some (.lst (ss.map PV.str))∧Tp C' t ns∧Ex t C C') (fun L2 hL2 => ?_) ?_
   ·have k3:=hk.ex (e3.put hc0 (.lst []))
    refine eJ k3.at_ rfl rY ?_;refine oM k3.bx ?_;refine i_i ?_;have T3':=T3.new hc (.lst []);have e3':Ex t C (nQ C3 c (.lst [])):=e3.put hc0 _;have mh':nQ C3 c (.lst []) h=some (.lst (hs.map Hd.pv)):=by rw [bQ (Ne.symm nch)]; exact mh
    have mp':nQ C3 c (.lst []) p2=some (.lst (ss.map PV.str)):=by rw [bQ (Ne.symm ncp)]; exact m3
    refine bJ (fun hb => ?_) fun hb => ?_
    ·rw [List.length_map] at hb
     have hb3:=of_decide_eq_true hb;refine ⟨t,3,ns,rfl,T3',by decide,by decide,fun n C4 n0 n1 T4 e4 => ?_⟩;refine ⟨by omega,by omega,?_⟩;refine kK (fun zs ρ C'=>∃ (cs:List (Str×Str×Rk)) (x6 x7 x8:Option PV),ρ=[some (.ref t),some (.ref k),some (.tup (τ.map PV.str)),some (.ref h),some (.str ev),some (.ref c),x6,x7,x8]∧C' c=some (.lst (cs.map chPV))∧cs.length+zs.length≤2∧(∀ c∈cs,c.2.2.ok κ.bs τ 1)∧C' h=some (.lst (hs.map Hd.pv))∧C' p2=some (.lst (ss.map PV.str))∧Tp C' t ns∧Ex t C C') ?_ ?_ _ _ _ ⟨[],_,_,_,rfl,e4 _ _ nct xQ,by rw [List.length_map,List.length_range]; show 0+_≤2; omega,(fun _ z=>nomatch z),e4 _ _ nht mh',e4 _ _ np2 mp',T4,e3'.trans e4⟩
     ·rintro z zs ρ C5 ⟨cs,y6,y7,y8,rfl,mc,hcl,hco,mh5,mp5,T5,e5⟩ L3 hL3
      have k5:=hk.ex e5;refine cQ ?_;refine eJ k5.at_ rfl rY ?_;refine eJ k5.at_ rfl rY ?_;refine oM k5.bx ?_;have lb:=hk.lb;rw [List.length_map];refine ⟨t,_,ns,rfl,T5,hb3,by omega,fun i C6 i0 i1 T6 e6 => ?_⟩;refine fZ ((k5.ex e6).bx) (rW (f:=PV.str) "" i0 i1) ?_
      try dsimp only
      refine cQ ?_;refine ⟨by show 3≤sizeLine; decide,fun p4 hp4 => ?_⟩;refine ⟨t,3,ns,rfl,T6.new hp4 _,by decide,by decide,fun j C7 j0 j1 T7 e7 => ?_⟩;refine fZ (e7 p4 _ (T6.ne hp4) xQ) (rW (f:=PV.str) (ss:=["set","add","times"]) "" j0 j1) ?_;have e67:Ex t C6 C7:=(Ex.new hp4 _).trans e7;have e57:Ex t C5 C7:=e6.trans e67
      try dsimp only
      refine ⟨qU (e57 _ _ nct mc),?_⟩;refine ⟨t,k,τ,ns,κ,rfl,T7,k5.ex e57,hτ,fun r C8 hr T8 e8=>⟨by show 3≤sizeLine; decide,?_⟩⟩;have e58:Ex t C5 C8:=e57.trans e8;refine lC (e58 _ _ nct mc) (by rw [List.length_map]; exact Nat.lt_of_lt_of_le (show cs.length < 3 by rw [List.length_cons] at hcl; omega) (by decide)) ?_;refine hL3 _ _ ⟨cs++[(_,_,r)],_,_,_,rfl,by rw [xQ,List.map_append]; rfl,by rw [List.length_append,List.length_singleton]; rw [List.length_cons] at hcl; omega,fun c' hc' => ?_,?_,?_,T8.put nct _,(e5.trans e58).put hc0 _⟩
      ·rcases List.mem_append.1 hc' with hc' | hc'
       ·exact hco c' hc'
       ·cases List.mem_singleton.1 hc'; exact hr
      ·rw [bQ (Ne.symm nch)]; exact e58 _ _ nht mh5
      ·rw [bQ (Ne.symm ncp)]; exact e58 _ _ np2 mp5
     ·rintro ρ C5 ⟨cs,y6,y7,y8,rfl,mc,hcl,hco,mh5,mp5,T5,e5⟩
      exact hL2 _ _ ⟨cs,_,_,_,rfl,mc,by omega,hco,mh5,mp5,T5,e5⟩
    ·refine jZ ?_
     exact hL2 _ _ ⟨[],_,_,_,rfl,xQ,Nat.zero_le _,(fun _ z=>nomatch z),mh',mp',T3',e3'⟩
   rintro ρ' C4 ⟨cs,y6,y7,y8,rfl,mc,hcl,hco,mh4,mp4,T4,e4⟩
   try dsimp only
   refine ⟨qU mh4,?_⟩;refine ⟨t,3,ns,rfl,T4,by decide,by decide,fun rk C5 r0 r1 T5 e5 => ?_⟩;refine dW ?_;refine ⟨t,2,ns,rfl,T5,by decide,by decide,fun z C6 z0 z1 T6 e6 => ?_⟩;refine iX (iZ _ _) ?_;have e46:=e5.trans e6;refine qV (e46 _ _ nct mc) ?_;refine ⟨by show 4≤sizeLine; decide,?_⟩;refine lC (e46 _ _ nht mh4) (by rw [List.length_map]; exact Nat.lt_of_lt_of_le (show hs.length < 3 by omega) (by decide)) ?_
   refine hL1 _ _ ⟨by rw [bQ (Ne.symm nhp2)]; exact e46 _ _ np2 mp4,hs++[⟨ev,1+rk,decide (z=0),cs⟩],_,_,_,_,_,rfl,by rw [xQ,List.map_append]; rfl,by rw [List.length_append,List.length_singleton,hl],hi',fun h' hh' => ?_,T6.put nht _,(e4.trans e46).put hh _⟩
   rcases List.mem_append.1 hh' with hh' | hh'
   ·exact ho h' hh'
   ·cases List.mem_singleton.1 hh'; exact ⟨by show cs.length≤4; omega,hco⟩
  ·rintro ρ C3 ⟨m3,hs,x4,x5,x6,x7,x8,rfl,mh,hl,hi,ho,T3,e3⟩
   exact hL _ _ ⟨hs,_,_,_,_,_,rfl,mh,by omega,ho,T3,e3⟩
  ·rw [bQ nhp2]; exact mh2
 rintro ρ' C' ⟨hs,x4,x5,x6,x7,x8,rfl,mh,hl,ho,T',e'⟩
 try dsimp only
 refine qV mh ?_;exact q hs C' ho (by omega) T' e'
end
inductive Ln where
 | plain (k:Option Rk) (tag:Str) (sets:List (Str×Rk)) (hands:List Hd) (ls:List Ln)
 | part (k:Option Rk) (name:Str) (gives:List (Str×Rk))
 | give (k:Option Rk) (name:Str) (r:Rk) (ls:List Ln)
 | when (r:Rk) (l1 l2:List Ln)
 | each (name:Str) (r:Rk) (ls:List Ln)
mutual
def Ln.pv:Ln→PV
 | .plain k tag s h ls=>.tup [.str "plain",oT k,.str tag,.tup (s.map jG),.tup (h.map Hd.pv),.tup (Ln.pvs ls)]
 | .part k n g=>.tup [.str "part",oT k,.str n,.tup (g.map jG)]
 | .give k n r ls=>.tup [.str "give",oT k,.str n,r.pv,.tup (Ln.pvs ls)]
 | .when r l1 l2=>.tup [.str "when",r.pv,.tup (Ln.pvs l1),.tup (Ln.pvs l2)]
 | .each n r ls=>.tup [.str "each",.str n,r.pv,.tup (Ln.pvs ls)]
def Ln.pvs:List Ln→List PV
 | []=>[]
 | l::ls=>l.pv::Ln.pvs ls
end
theorem Ln.pvs_map (ls:List Ln):Ln.pvs ls=ls.map Ln.pv:=by
 induction ls with
 | nil=>rfl
 | cons l ls ih=>rw [List.map_cons,← ih]; rfl
mutual
def Ln.tw:Ln→Nat
 | .plain _ _ _ _ ls=>1+Ln.tws ls
 | .part _ _ _=>1
 | .give _ _ _ ls=>1+Ln.tws ls
 | .when _ l1 l2=>Ln.tws l1+Ln.tws l2
 | .each _ _ ls=>8 * Ln.tws ls
def Ln.tws:List Ln→Nat
 | []=>0
 | l::ls=>l.tw+Ln.tws ls
end
mutual
def Ln.pw:Ln→Nat
 | .plain _ _ _ _ ls=>Ln.pws ls
 | .part _ _ _=>1
 | .give _ _ _ ls=>Ln.pws ls
 | .when _ l1 l2=>Ln.pws l1+Ln.pws l2
 | .each _ _ ls=>8 * Ln.pws ls
def Ln.pws:List Ln→Nat
 | []=>0
 | l::ls=>l.pw+Ln.pws ls
end
theorem Ln.tws_app (xs ys:List Ln):Ln.tws (xs++ys)=Ln.tws xs+Ln.tws ys:=by
 induction xs with
 | nil=>show _=0+_; rw [Nat.zero_add]; rfl
 | cons x xs ih=>show x.tw+Ln.tws (xs++ys)=x.tw+Ln.tws xs+Ln.tws ys; rw [ih]; omega
theorem Ln.pws_app (xs ys:List Ln):Ln.pws (xs++ys)=Ln.pws xs+Ln.pws ys:=by
 induction xs with
 | nil=>show _=0+_; rw [Nat.zero_add]; rfl
 | cons x xs ih=>show x.pw+Ln.pws (xs++ys)=x.pw+Ln.pws xs+Ln.pws ys; rw [ih]; omega
def LnOk (bs rs:List Str):Nat→List Str→Ln→Prop
 | 0,_,_=>False
 | d+1,τ,.plain k _ s h ls=>XA bs τ k∧(oE bs τ 2 s∧s.length≤4)∧((∀ x∈h,x.ok bs τ)∧h.length≤4)∧(∀ x∈ls,LnOk bs rs d τ x)∧ls.length≤6
 | _+1,τ,.part k n g=>XA bs τ k∧n∈rs∧oE bs τ 1 g∧g.length≤4
 | d+1,τ,.give k n r ls=>XA bs τ k∧n∈(["a","ab","b"]:List Str)∧r.ok bs τ 1∧(∀ x∈ls,LnOk bs rs d τ x)∧ls.length≤6
 | d+1,τ,.when r l1 l2=>r.ok bs τ 1∧((∀ x∈l1,LnOk bs rs d τ x)∧l1.length≤6)∧(∀ x∈l2,LnOk bs rs d τ x)∧l2.length≤6
 | d+1,_,.each n r ls=>r.ok bs [] 0∧(∀ x∈ls,LnOk bs rs d [n] x)∧ls.length≤6
theorem LnOk.up {bs rs:List Str}:∀ {d:Nat}{τ:List Str}{l:Ln},LnOk bs rs d τ l→LnOk bs rs (d+1) τ l:=by
 intro d
 induction d with
 | zero=>intro τ l h; exact h.elim
 | succ d ih =>
  intro τ l h
  cases l with
  | plain k t s hh ls=>obtain ⟨h1,h2,h3,h4,h5⟩:=h; exact ⟨h1,h2,h3,fun x hx=>ih (h4 x hx),h5⟩
  | part k n g=>exact h
  | give k n r ls=>obtain ⟨h1,h2,h3,h4,h5⟩:=h; exact ⟨h1,h2,h3,fun x hx=>ih (h4 x hx),h5⟩
  | when r l1 l2=>obtain ⟨h1,⟨h2,h3⟩,h4,h5⟩:=h; exact ⟨h1,⟨fun x hx=>ih (h2 x hx),h3⟩,fun x hx=>ih (h4 x hx),h5⟩
  | each n r ls=>obtain ⟨h1,h2,h3⟩:=h; exact ⟨h1,fun x hx=>ih (h2 x hx),h3⟩
theorem LnOk.mono {bs rs:List Str}{d e:Nat}{τ:List Str}{l:Ln}(h:LnOk bs rs d τ l) (le:d≤e):LnOk bs rs e τ l:=by
 induction le with
 | refl=>exact h
 | step _ ih=>exact ih.up
structure Chg (κ κ':Kt):Prop where
 b:κ'.b=κ.b
 r:κ'.r=κ.r
 bs:κ'.bs=κ.bs
 rs:κ'.rs=κ.rs
 la:κ'.la=κ.la
 l0:0≤κ'.l
 l1:κ'.l≤κ.l
 p0:0≤κ'.p
 p1:κ'.p≤κ.p
 e0:0≤κ'.e
 e1:κ'.e≤κ.e
structure Kok (κ:Kt) (e:Nat) (τ:List Str):Prop where
 l0:0≤κ.l
 l1:κ.l≤6
 p0:0≤κ.p
 p1:κ.p≤2
 e0:0≤κ.e
 e1:κ.e≤(e:Nat)
 t:0 < κ.e→τ=[]
 ly:0 < κ.e→∀ s,κ.la=some s→s∈κ.rs
 tl:τ.length≤4
theorem Chg.refl {κ:Kt}{e:Nat}{τ:List Str}(h:Kok κ e τ):Chg κ κ:=⟨rfl,rfl,rfl,rfl,rfl,h.l0,Int.le_refl _,h.p0,Int.le_refl _,h.e0,Int.le_refl _⟩
theorem Chg.trans {κ κ1 κ2:Kt}(h:Chg κ κ1) (g:Chg κ1 κ2):Chg κ κ2:=⟨g.b.trans h.b,g.r.trans h.r,g.bs.trans h.bs,g.rs.trans h.rs,g.la.trans h.la,g.l0,Int.le_trans g.l1 h.l1,g.p0,Int.le_trans g.p1 h.p1,g.e0,Int.le_trans g.e1 h.e1⟩
theorem Kok.chg {κ κ':Kt}{e:Nat}{τ:List Str}(h:Kok κ e τ) (g:Chg κ κ'):Kok κ' e τ:=⟨g.l0,Int.le_trans g.l1 h.l1,g.p0,Int.le_trans g.p1 h.p1,g.e0,Int.le_trans g.e1 h.e1,fun z=>h.t (Int.lt_of_lt_of_le z g.e1),fun z s hs=>by rw [g.rs]; exact h.ly (Int.lt_of_lt_of_le z g.e1) s (by rw [← g.la]; exact hs),h.tl⟩
def zOf (κ:Kt):Int:=if κ.la.isSome then 16 else 0
theorem zOf_chg {κ κ':Kt}(g:Chg κ κ'):zOf κ'=zOf κ:=by unfold zOf; rw [g.la]
def mOf (e:Nat):Int:=if e=0 then 1 else 8
def mY (e d:Nat):Nat:=if e=0 then d+1 else d+3
structure Wgt (e:Nat) (τ:List Str) (κ κ':Kt) (extra:Int) (tw pw:Nat):Prop where
 t:(tw:Int)≤mOf e * (extra+(κ.l - κ'.l))
 p:(pw:Int)≤(κ.p - κ'.p)+zOf κ * (κ.e - κ'.e)
 n:τ≠[]→pw=0∧κ'.p=κ.p
theorem ExS.ofEx {t k:Addr}{C C':CH}(h:Ex t C C'):ExS [t,k] C C':=fun b o n e=>h b o (fun z=>n (by rw [z]; exact List.mem_cons_self)) e
section
variable {P:Program}{w:World}{K:PySem.W.Frag}{mg:Str→Option Value}{base:Heap}{a:Adr}
def KN:GC:=fun ts C Q=>∃ (t k:Addr) (τ:List Str) (ns:List Int) (κ:Kt) (name:Str),ts=[.ref t,.ref k,.tup (τ.map PV.str),.str name]∧Tp C t ns∧KAt C t k κ∧τ.length≤4∧∀ (o:Option Rk) (g:List (Str×Rk)) (C':CH),XA κ.bs τ o→oE κ.bs τ 1 g→g.length≤4→Tp C' t ns→Ex t C C'→Q (Ln.part o name g).pv C'
theorem KR (v:Int) (h0:0≤v) (h1:v < 4):oC [PV.str "a",PV.str "ab",PV.str "b"] none (some v)=((["a","ab","b"]:List Str).take v.toNat).map PV.str:=by
 have:v=0∨v=1∨v=2∨v=3:=by omega
 rcases this with rfl | rfl | rfl | rfl<;>rfl
theorem rev_s {b:Addr}{xs:List PV}{C:CH}{Q:K1}(h:C b=some (.lst xs)) (q:Q .non (nQ C b (.lst xs.reverse))):sP (.ref b) [] C Q:=by
 unfold sP;dsimp only;rw [h];exact q
theorem nL (T:Txt P w K mg a):FnOk P w K mg base CX0 6 a.iG a.mU U18 (spC K KN):=by
 have S:=cM;have tQ:=(nJ (base:=base) T).mono (show 1≤5 by decide);have tP:=(Zw (base:=base) T).mono (show 4≤5 by decide);have uV:=wT (base:=base) T 1
 refine Fun.okC T.pU cM (fun ts C R h => ?_) fun cdv A outer s H E hr=>⟨_,(vQ (dQ (i:=4) S.nd rfl (Or.inl rfl) (wQ tP hr rfl T.Qi T.k_l_key T.b_l_key lQ (qQ (cv 0) (qQ (cv 1) (qQ (cv 2) zQ)))))
  (vQ (dQ (i:=5) S.nd rfl (Or.inl rfl) (ZP (mZ (qQ gQ (qQ gQ (qQ gQ zQ)))) bP (gP (wQ tQ hr rfl T.wX T.k_l_draw T.b_l_draw lQ (qQ (cv 0) (qQ jQ zQ))))))
  (vQ (sX (iQ uZ nX (wQ tQ hr rfl T.wX T.k_l_draw T.b_l_draw lQ (qQ (cv 0) (qQ jQ zQ))) jQ (oQ _)) (mQ (mJ (Yo PySem.F.plainAttrs_list PySem.F.slot_list_reverse PySem.F.type_list_reverse Zy X1 (cv 5)))) dX)
  (mQ (jX (sQ (qQ gQ (qQ (cv 4) (qQ (cv 3) (qQ (xX zX dZ rfl T.bZ rfl (qQ (pP rfl (show (["_law_one","_law_tape_here","_law_kit","_law_turns","_law_name","_law_key_here","_law_names_here"]:List Str).Nodup by decide +kernel) (yJ (N:=U24) (sc:=kQ cZ) rfl rfl rfl (by decide +kernel)) (cv 5) (fun _ _ _ _ _=>vV) (fun _ _ _ _ _=>(sQ (qQ (cv 0) (qQ (wQ uV hr rfl T.uB T.k_l_sum T.b_l_sum lQ (qQ (cv 1) (qQ (cv 2) (qQ (cv 3) (qQ jQ zQ))))) zQ))))) zQ)) zQ)))))))))),?_⟩
 ·obtain ⟨t,k,τ,ns,κ,name,rfl,_⟩:=h; rfl
 rintro ts C R ⟨t,k,τ,ns,κ,name,rfl,hT,hk,hτ,q⟩;refine cQ ?_;refine ⟨t,k,τ,ns,κ,rfl,hT,hk,hτ,fun o C1 ho T1 e1 => ?_⟩
 try dsimp only
 refine cQ ?_;refine ⟨by show 3≤sizeLine; decide,fun p1 hp1 => ?_⟩;refine ⟨t,4,ns,rfl,T1.new hp1 _,by decide,by decide,fun v C2 v0 v1 T2 e2 => ?_⟩;have m2:C2 p1=_:=e2 p1 _ (T1.ne hp1) xQ;have e02:Ex t C C2:=fun b o n e=>e2 b o n (Gr.new hp1 _ _ _ (e1 b o n e));refine sl_l m2 fun p2 hp2 => ?_;rw [KR v v0 v1];have np2:p2≠t:=T2.ne hp2;have hp20:C p2=none:=e02.none np2 hp2;generalize hss:(["a","ab","b"]:List Str).take v.toNat=ss
 have hsl:ss.length≤3:=by rw [← hss,List.length_take]; exact Nat.min_le_right _ _
 try dsimp only
 refine oX (fun ρ' C'=>∃ us:List Str,us.length=ss.length∧ρ'=[some (.ref t),some (.ref k),some (.tup (τ.map PV.str)),some (.str name),some (oT o),some (.ref p2)]∧C' p2=some (.lst (us.map PV.str))∧Tp C' t ns∧Ex t C C') (fun L hL => ?_) ?_
 ·refine ⟨t,2,ns,rfl,T2.new hp2 _,by decide,by decide,fun z C3 z0 z1 T3 e3 => ?_⟩
  have m3:C3 p2=_:=e3 p2 _ np2 xQ;have e03:Ex t C C3:=(e02.put hp20 _).trans e3;refine iX (iZ _ _) ?_;refine bJ (fun hb => ?_) fun hb => ?_
  ·refine ⟨qU m3,?_⟩
   refine rev_s m3 ?_;exact hL _ _ ⟨ss.reverse,List.length_reverse,rfl,by rw [xQ,List.map_reverse],T3.put np2 _,e03.put hp20 _⟩
  ·refine jZ ?_
   exact hL _ _ ⟨ss,rfl,rfl,m3,T3,e03⟩
 rintro ρ' C3 ⟨us,hus,rfl,m3,T3,e3⟩
 try dsimp only
 refine cl_l m3 rfl ?_;refine qM (β:=Rk) jG (fun r=>r.ok κ.bs τ 1) (fun C'=>Tp C' t ns∧Ex t C C'∧C' p2=some (.lst (us.map PV.str))) (fun _ h=>h.2.2) (by omega) (fun z C4 L ⟨T4,e4,m4⟩ hL => ?_) (fun bs C4 p3 ⟨T4,e4,m4⟩ hp3 hb hbo => ?_) ⟨T3,e3,m3⟩
 ·refine ⟨t,k,τ,ns,κ,rfl,T4,hk.ex e4,hτ,fun r C5 hr T5 e5=>⟨by show 2≤sizeLine; decide,hL r C5 hr ⟨T5,e4.trans e5,e5 _ _ np2 m4⟩⟩⟩
 ·refine qV xQ ?_
  refine ⟨by show 4≤sizeLine; decide,?_⟩;exact q o bs _ ho hbo (by have:=congrArg List.length hb; rw [List.length_map] at this; omega) (T4.new hp3 _) (e4.trans (Ex.new hp3 _))
end
theorem sL (e:Nat):mOf e=1∨mOf e=8:=by unfold mOf; split; exact .inl rfl; exact .inr rfl
theorem Wgt.one {e:Nat}{τ:List Str}{κ κ':Kt}{tw pw:Nat}(h:Wgt e τ κ κ' 0 tw pw):Wgt e τ κ κ' 1 (1+tw) pw:=by
 refine ⟨?_,h.p,h.n⟩;have:=h.t
 rcases sL e with z | z<;>rw [z] at this ⊢ <;> omega
theorem Wgt.up {e:Nat}{τ:List Str}{κ κ':Kt}{tw pw:Nat}(h:Wgt e τ κ κ' 0 tw pw):Wgt e τ κ κ' 1 tw pw:=by
 refine ⟨?_,h.p,h.n⟩;have:=h.t
 rcases sL e with z | z<;>rw [z] at this ⊢ <;> omega
theorem Wgt.add {e:Nat}{τ:List Str}{κ κ1 κ2:Kt}{x y:Int}{t1 t2 p1 p2:Nat}(h:Wgt e τ κ κ1 x t1 p1) (g:Wgt e τ κ1 κ2 y t2 p2) (c:Chg κ κ1):Wgt e τ κ κ2 (x+y) (t1+t2) (p1+p2):=by
 refine ⟨?_,?_,fun z => ?_⟩
 ·have h1:=h.t
  have h2:=g.t
  rcases sL e with z | z<;>rw [z] at h1 h2 ⊢ <;> omega
 ·have h1:=h.p
  have h2:=g.p;rw [zOf_chg c] at h2
  have:zOf κ * (κ.e - κ1.e)+zOf κ * (κ1.e - κ2.e)=zOf κ * (κ.e - κ2.e):=by
   rw [← Int.mul_add]
   congr 1
   omega
  omega
 ·obtain ⟨a1,a2⟩:=h.n z
  obtain ⟨b1,b2⟩:=g.n z;exact ⟨by omega,b2.trans a2⟩
theorem Wgt.nil {e:Nat}{τ:List Str}{κ:Kt}:Wgt e τ κ κ 0 0 0:=by
 refine ⟨?_,?_,fun _=>⟨rfl,rfl⟩⟩
 ·rcases sL e with z | z<;>rw [z]<;>omega
 ·rw [Int.sub_self,Int.sub_self,Int.mul_zero]; decide
theorem KAt.put {C:CH}{t k:Addr}{κ:Kt}(h:KAt C t k κ) (l p e:Int) (la:Option Str):KAt (nQ C k (.dK (gZ κ.b κ.r l p e (yY la)))) t k { κ with l:=l,p:=p,e:=e,la:=la }:=by
 have n1:κ.b≠k:=fun z=>by have:=h.bx; rw [z,h.at_] at this; cases this
 have n2:κ.r≠k:=fun z=>by have:=h.rx; rw [z,h.at_] at this; cases this
 exact ⟨xQ,by show nQ C k _ κ.b=_; rw [bQ n1]; exact h.bx,by show nQ C k _ κ.r=_; rw [bQ n2]; exact h.rx,h.nk,h.nb,h.nr,h.lb,h.lr⟩
def lB (e d:Nat):GC:=fun ts C Q=>∃ (t k:Addr) (τ:List Str) (ns:List Int) (κ:Kt),ts=[.ref t,.ref k,.tup (τ.map PV.str),.int (d:Nat)]∧Tp C t ns∧KAt C t k κ∧Kok κ e τ ∧
 ∀ (ls:List Ln) (κ':Kt) (C':CH),(∀ x∈ls,LnOk κ.bs κ.rs (mY e d) τ x)→ls.length≤6→Wgt e τ κ κ' 0 (Ln.tws ls) (Ln.pws ls)→Chg κ κ'→Tp C' t ns→KAt C' t k κ'→ExS [t,k] C C'→Q (.tup (Ln.pvs ls)) C'
def uC (e d:Nat):GC:=fun ts C Q=>∃ (t k:Addr) (τ:List Str) (ns:List Int) (κ:Kt),ts=[.ref t,.ref k,.tup (τ.map PV.str),.int (d:Nat)]∧Tp C t ns∧KAt C t k κ∧Kok κ e τ ∧
 ∀ (l:Ln) (κ':Kt) (C':CH),LnOk κ.bs κ.rs (mY e d) τ l→Wgt e τ κ κ' 1 l.tw l.pw→Chg κ κ'→Tp C' t ns→KAt C' t k κ'→ExS [t,k] C C'→Q l.pv C'
def Qv (e d:Nat):GC:=fun ts C Q=>∃ d',d=d'+1∧lB e d' ts C Q
theorem jO (e d:Nat):mY e (d+1)=mY e d+1:=by unfold mY; split<;>rfl
theorem bI (e d:Nat):∃ n,mY e d=n+1:=by unfold mY; split; exact ⟨_,rfl⟩; exact ⟨d+2,rfl⟩
section
variable {P:Program}{w:World}{K:PySem.W.Frag}{mg:Str→Option Value}{base:Heap}{a:Adr}
theorem Xi (T:Txt P w K mg a) (e d r:Nat) (h7:7≤r) (nW:FnOk P w K mg base CX0 r a.eK a.jJ U0 (spC K (Qv e d))) :
  FnOk P w K mg base CX0 (r+1) a.iL a.tF U0 (spC K (uC e d)):=by
 have S:=mS;have tQ:=(nJ (base:=base) T).mono (show 1≤r by omega);have iJ:=(nM (base:=base) T).mono (show 2≤r by omega);have tP:=(Zw (base:=base) T).mono (show 4≤r by omega);have Vd:=(V9 (base:=base) T).mono (show 7≤r by omega);have Vf:=(Wd (base:=base) T).mono (show 6≤r by omega)
 refine Fun.okC T.mN mS (fun ts C R h => ?_) fun cdv A outer s H E hr=>⟨_,(vQ (dQ (i:=4) S.nd rfl (Or.inl rfl) (wQ tP hr rfl T.Qi T.k_l_key T.b_l_key lQ (qQ (cv 0) (qQ (cv 1) (qQ (cv 2) zQ)))))
  (vQ (dQ (i:=5) S.nd rfl (Or.inl rfl) (rQ (r:=rIx K) yQ uQ (wQ iJ hr rfl T.nY T.k_l_names T.b_l_names lQ (qQ (cv 0) (qQ jQ zQ))) jQ (fun _ _=>rfl)))
  (vQ (dQ (i:=6) S.nd rfl (Or.inl rfl) (wQ Vd hr rfl T.Kv T.k_l_pairs T.b_l_pairs lQ (qQ (cv 0) (qQ (cv 1) (qQ (cv 2) (qQ jQ zQ))))))
  (vQ (dQ (i:=7) S.nd rfl (Or.inl rfl) (wQ Vf hr rfl T.Kx T.k_l_hands T.b_l_hands lQ (qQ (cv 0) (qQ (cv 1) (qQ (cv 2) zQ)))))
  (vQ (dQ (i:=8) S.nd rfl (Or.inl rfl) (sQ zQ))
  (vQ (sX (cw_pt (cw_and (iQ yW oJ (cv 3) jQ (oQ _)) (cw_and1 (iQ uZ nX (wQ tQ hr rfl T.wX T.k_l_draw T.b_l_draw lQ (qQ (cv 0) (qQ jQ zQ))) jQ (oQ _))))) (mQ (dQ (i:=8) S.nd rfl (Or.inl rfl) (wQ nW hr rfl T.sU T.k_l_lines T.b_l_lines lQ (qQ (cv 0) (qQ (cv 1) (qQ (cv 2) (qQ (uX xV fJ (cv 3) jQ) zQ))))))) dX)
  (mQ (jX (sQ (qQ gQ (qQ (cv 4) (qQ (cv 5) (qQ (cv 6) (qQ (cv 7) (qQ (cv 8) zQ))))))))))))))),?_⟩
 ·obtain ⟨t,k,τ,ns,κ,rfl,_⟩:=h; rfl
 rintro ts C R ⟨t,k,τ,ns,κ,rfl,hT,hk,ok,q⟩;refine cQ ?_;refine ⟨t,k,τ,ns,κ,rfl,hT,hk,ok.tl,fun o C1 ho T1 e1 => ?_⟩
 try dsimp only
 refine cQ ?_;refine ⟨t,1,ns,rfl,T1,by decide,by decide,fun p ss C2 m2 _ pt hl nd T2 e2 => ?_⟩;have hl:ss.length=1:=hl
 obtain ⟨tag,rfl⟩:∃ tag,ss=[tag]:=by
  match ss,hl with
  | [x],_=>exact ⟨x,rfl⟩
 refine fZ m2 gX ?_
 try dsimp only
 refine cQ ?_;refine ⟨t,k,τ,ns,κ,rfl,T2,(hk.ex e1).ex e2,ok.tl,fun ps C3 hps hpl T3 e3 => ?_⟩
 try dsimp only
 refine cQ ?_;refine ⟨t,k,τ,ns,κ,rfl,T3,((hk.ex e1).ex e2).ex e3,ok.tl,fun hs C4 hhs hhl T4 e4 => ?_⟩
 try dsimp only
 refine cQ ?_;refine ⟨by show 0≤sizeLine; decide,?_⟩
 try dsimp only
 have e04:Ex t C C4:=((e1.trans e2).trans e3).trans e4;have k4:=hk.ex e04
 have fin:∀ (ls:List Ln) (κ':Kt) (C':CH),(∀ x∈ls,∃ d',d=d'+1∧LnOk κ.bs κ.rs (mY e d') τ x)→ls.length≤6→Wgt e τ κ κ' 0 (Ln.tws ls) (Ln.pws ls)→Chg κ κ'→Tp C' t ns→KAt C' t k κ'→ExS [t,k] C C' →
   R (.tup [.str "plain",oT o,.str tag,.tup (ps.map jG),.tup (hs.map Hd.pv),.tup (Ln.pvs ls)]) C':=by
  intro ls κ' C' hls hll hw hc T' k' x';refine q (.plain o tag ps hs ls) κ' C' ?_ hw.one hc T' k' x';obtain ⟨n,en⟩:=bI e d;rw [en];refine ⟨ho,⟨hps,hpl⟩,⟨hhs,hhl⟩,fun x hx => ?_,hll⟩;obtain ⟨d',rfl,hx'⟩:=hls x hx;rw [jO] at en;have:n=mY e d':=by omega
  rw [this];exact hx'
 refine oX (fun ρ' C'=>∃ (ls:List Ln) (κ':Kt),ρ'=[some (.ref t),some (.ref k),some (.tup (τ.map PV.str)),some (.int (d:Nat)),some (oT o),some (.str tag),some (.tup (ps.map jG)),some (.tup (hs.map Hd.pv)),some (.tup (Ln.pvs ls))]∧(∀ x∈ls,∃ d',d=d'+1∧LnOk κ.bs κ.rs (mY e d') τ x)∧ls.length≤6∧Wgt e τ κ κ' 0 (Ln.tws ls) (Ln.pws ls)∧Chg κ κ'∧Tp C' t ns∧KAt C' t k κ'∧ExS [t,k] C C') (fun L hL => ?_) ?_
 ·refine i_i ?_
  refine bJ (fun hb => ?_) fun hb => ?_
  ·have hb:=of_decide_eq_true hb
   refine ⟨t,2,ns,rfl,T4,by decide,by decide,fun z C5 z0 z1 T5 e5 => ?_⟩;refine iX (iZ _ _) ?_;refine bJ (fun hb2 => ?_) fun hb2 => ?_
   ·refine i_i ?_
    obtain ⟨d',rfl⟩:∃ d',d=d'+1:=⟨d - 1,by omega⟩;refine ⟨d',rfl,t,k,τ,ns,κ,?_,T5,k4.ex e5,ok,fun ls κ' C6 h1 h2 h3 h4 T6 k6 x6 => ?_⟩
    ·have:((d'+1:Nat):Int) - 1=(d':Nat):=by omega
     rw [this]
    ·exact hL _ _ ⟨ls,κ',rfl,fun x hx=>⟨d',rfl,h1 x hx⟩,h2,h3,h4,T6,k6,(ExS.ofEx (e04.trans e5)).trans x6⟩
   ·refine jZ ?_
    exact hL _ _ ⟨[],κ,rfl,(fun _ z=>nomatch z),Nat.zero_le _,Wgt.nil,Chg.refl ok,T5,k4.ex e5,ExS.ofEx (e04.trans e5)⟩
  ·refine jP rfl ?_
   refine jZ ?_;exact hL _ _ ⟨[],κ,rfl,(fun _ z=>nomatch z),Nat.zero_le _,Wgt.nil,Chg.refl ok,T4,k4,ExS.ofEx e04⟩
 rintro ρ' C5 ⟨ls,κ',rfl,h1,h2,h3,h4,T5,k5,x5⟩
 try dsimp only
 refine ⟨by show 6≤sizeLine; decide,?_⟩;exact fin ls κ' C5 h1 h2 h3 h4 T5 k5 x5
end
def WZ (e:Nat):GC:=fun ts C Q=>∃ (t k:Addr) (d:Nat) (ns:List Int) (κ:Kt),ts=[.ref t,.ref k,.int (d:Nat)]∧Tp C t ns∧KAt C t k κ∧Kok κ e []∧0 < κ.e ∧
 ∀ (l:Ln) (κ':Kt) (C':CH),LnOk κ.bs κ.rs 3 [] l→Wgt e [] κ κ' 1 l.tw l.pw→Chg κ κ'→Tp C' t ns→KAt C' t k κ'→ExS [t,k] C C'→Q l.pv C'
theorem eqT_s {f:Bool→Bool}{x y:PV}{ks js:List Key}{C:CH}{Q:K1}(h1:bM x=some ks) (h2:bM y=some js) (q:Q (.bl (f (decide (ks=js)))) C):cEqT f x y C Q:=by
 unfold cEqT;rw [h1,h2];exact q
theorem wC:∀ ss:List Str,fB (ss.map PV.str)=some (ss.map Sum.inr)
 | []=>rfl
 | s::ss=>by
  show (match oV (.str s),fB (ss.map PV.str) with | some k,some ks=>some (k::ks) | _,_=>none)=_;rw [wC ss]
  rfl
section
variable {P:Program}{w:World}{K:PySem.W.Frag}{mg:Str→Option Value}{base:Heap}{a:Adr}
theorem Ji (T:Txt P w K mg a) (e d r:Nat) (h7:7≤r)
  (nW:FnOk P w K mg base CX0 r a.eK a.jJ U0 (spC K (Qv e d)))
  (Vb:FnOk P w K mg base CX0 r a.iL a.tF U0 (spC K (uC e d)))
  (YG:FnOk P w K mg base CX0 r a.bH a.jF U13 (spC K (WZ e))) :
  FnOk P w K mg base CX0 (r+1) a.eM a.mG U0 (spC K (uC e d)):=by
 have S:=uA;have tQ:=(nJ (base:=base) T).mono (show 1≤r by omega);have tP:=(Zw (base:=base) T).mono (show 4≤r by omega);have uV:=(wT (base:=base) T 1).mono (show 5≤r by omega);have fU:=(nL (base:=base) T).mono (show 6≤r by omega)
 refine Fun.okC T.yE uA (fun ts C R h => ?_) fun cdv A outer s H E hr=>⟨_,(vQ (dQ (i:=4) S.nd rfl (Or.inl rfl) (wQ tQ hr rfl T.wX T.k_l_draw T.b_l_draw lQ (qQ (cv 0) (qQ jQ zQ))))
  (vQ (sX (cw_pt (cw_and (iQ rL iB (cv 4) jQ (oQ _)) (cw_and (iQ yW oJ (nZ (vZ hr) (cv 1) gQ (fun _ _=>rfl)) jQ (oQ _)) (cw_and (iQ yW oJ (mX zZ tZ rfl T.bV rfl (qQ (nZ (vZ hr) (cv 1) gQ (fun _ _=>rfl)) zQ)) jQ (oQ _)) (cw_and1 (iQ (op_eqTK (hu0_of hr)) cop_eqT (cv 2) (sQ zQ) (oQ _))))))) (vQ (iK (vZ hr) (cv 1) gQ (uX xV fJ (nZ (vZ hr) (cv 1) gQ (fun _ _=>rfl)) jQ))
  (mQ (jX (wQ fU hr rfl T.yD T.k_l_part_line T.b_l_part_line lQ (qQ (cv 0) (qQ (cv 1) (qQ (cv 2) (qQ (rQ (r:=rIx K) yQ uQ (nZ (vZ hr) (cv 1) gQ (fun _ _=>rfl)) (wQ tQ hr rfl T.wX T.k_l_draw T.b_l_draw lQ (qQ (cv 0) (qQ (mX zZ tZ rfl T.bV rfl (qQ (nZ (vZ hr) (cv 1) gQ (fun _ _=>rfl)) zQ)) zQ))) (fun _ _=>rfl)) zQ)))))))) dX)
  (vQ (sX (cw_pt (cw_and (iQ uZ nX (cv 4) jQ (oQ _)) (cw_and1 (iQ yW oJ (cv 3) jQ (oQ _))))) (vQ (dQ (i:=5) S.nd rfl (Or.inl rfl) (rQ (r:=rIx K) yQ uQ (mZ (qQ gQ (qQ gQ (qQ gQ zQ)))) (wQ tQ hr rfl T.wX T.k_l_draw T.b_l_draw lQ (qQ (cv 0) (qQ jQ zQ))) (fun _ _=>rfl)))
  (vQ (dQ (i:=6) S.nd rfl (Or.inl rfl) (wQ tP hr rfl T.Qi T.k_l_key T.b_l_key lQ (qQ (cv 0) (qQ (cv 1) (qQ (cv 2) zQ)))))
  (mQ (jX (sQ (qQ gQ (qQ (cv 6) (qQ (cv 5) (qQ (wQ uV hr rfl T.uB T.k_l_sum T.b_l_sum lQ (qQ (cv 0) (qQ (cv 1) (qQ (cv 2) (qQ jQ zQ))))) (qQ (wQ nW hr rfl T.sU T.k_l_lines T.b_l_lines lQ (qQ (cv 0) (qQ (cv 1) (qQ (cv 2) (qQ (uX xV fJ (cv 3) jQ) zQ))))) zQ)))))))))) dX)
  (vQ (sX (cw_pt (cw_and (iQ uZ nX (cv 4) jQ (oQ _)) (cw_and1 (iQ yW oJ (cv 3) jQ (oQ _))))) (vQ (dQ (i:=7) S.nd rfl (Or.inl rfl) (wQ uV hr rfl T.uB T.k_l_sum T.b_l_sum lQ (qQ (cv 0) (qQ (cv 1) (qQ (cv 2) (qQ jQ zQ))))))
  (vQ (dQ (i:=8) S.nd rfl (Or.inl rfl) (wQ nW hr rfl T.sU T.k_l_lines T.b_l_lines lQ (qQ (cv 0) (qQ (cv 1) (qQ (cv 2) (qQ (uX xV fJ (cv 3) jQ) zQ))))))
  (mQ (jX (sQ (qQ gQ (qQ (cv 7) (qQ (cv 8) (qQ (wQ nW hr rfl T.sU T.k_l_lines T.b_l_lines lQ (qQ (cv 0) (qQ (cv 1) (qQ (cv 2) (qQ (uX xV fJ (cv 3) jQ) zQ))))) zQ))))))))) dX)
  (vQ (sX (cw_pt (cw_and (iQ yW oJ (cv 4) jQ (oQ _)) (cw_and1 (iQ yW oJ (nZ (vZ hr) (cv 1) gQ (fun _ _=>rfl)) jQ (oQ _))))) (mQ (jX (wQ YG hr rfl T.Wp T.k_l_each T.b_l_each lQ (qQ (cv 0) (qQ (cv 1) (qQ (cv 3) zQ)))))) dX)
  (mQ (jX (wQ Vb hr rfl T.Ks T.k_l_plain T.b_l_plain lQ (qQ (cv 0) (qQ (cv 1) (qQ (cv 2) (qQ (cv 3) zQ)))))))))))),?_⟩
 ·obtain ⟨t,k,τ,ns,κ,rfl,_⟩:=h; rfl
 rintro ts C R ⟨t,k,τ,ns,κ,rfl,hT,hk,ok,q⟩;refine cQ ?_;refine ⟨t,9,ns,rfl,hT,by decide,by decide,fun v C1 v0 v1 T1 e1 => ?_⟩
 try dsimp only
 have k1:=hk.ex e1;obtain ⟨dn,edn⟩:=bI e d
 have low:∀ (ls:List Ln),(∀ x∈ls,∃ d',d=d'+1∧LnOk κ.bs κ.rs (mY e d') τ x)→∀ x∈ls,LnOk κ.bs κ.rs dn τ x:=by
  intro ls h x hx;obtain ⟨d',rfl,h'⟩:=h x hx;rw [jO] at edn;have:dn=mY e d':=by omega
  rw [this]; exact h'
 refine oX (fun ρ' C'=>C'=C1∧ρ'=[some (.ref t),some (.ref k),some (.tup (τ.map PV.str)),some (.int (d:Nat)),some (.int v),none,none,none,none]) (fun L hL => ?_) ?_
 ·refine i_i ?_
  refine bJ (fun hb => ?_) fun hb => ?_
  ·refine eJ k1.at_ rfl iE ?_
   refine i_i ?_;refine bJ (fun hb2 => ?_) fun hb2 => ?_
   ·refine eJ k1.at_ rfl zS ?_
    refine oM k1.rx ?_;refine i_i ?_;refine bJ (fun hb3 => ?_) fun hb3 => ?_
    ·refine ⟨by show 0≤sizeLine; decide,?_⟩
     refine eqT_s (ks:=τ.map Sum.inr) (js:=[]) (wC τ) rfl ?_;refine bJ (fun hb4 => ?_) fun hb4 => ?_
     ·have hb2:=of_decide_eq_true hb2
      rw [List.length_map] at hb3;have hb3:=of_decide_eq_true hb3
      have hτ:τ=[]:=by
       have:=of_decide_eq_true hb4
       cases τ with
       | nil=>rfl
       | cons x y=>cases this
      refine oZ ?_;refine eJ k1.at_ rfl iE ?_;refine i_i ?_;refine wY k1.at_ rfl (by show 6≤1000; decide) ?_;rw [Kc]
      try dsimp only
      have k2:=k1.put κ.l (κ.p - 1) κ.e κ.la;have T2:=T1.put k1.nk (.dK (gZ κ.b κ.r κ.l (κ.p - 1) κ.e (yY κ.la)));refine eJ k2.at_ rfl zS ?_;refine eJ k2.at_ rfl zS ?_;refine oM k2.rx ?_;have lr:=hk.lr;have el:(κ.rs.map PV.str).length=κ.rs.length:=List.length_map _;refine ⟨t,_,ns,rfl,T2,by show (0:Int) < (((κ.rs.map PV.str).length:Nat):Int); rw [el]; exact hb3,by show (((κ.rs.map PV.str).length:Nat):Int) < _; rw [el]; omega,fun i C3 i0 i1 T3 e3 => ?_⟩
      have i1:i < (((κ.rs.map PV.str).length:Nat):Int):=i1;rw [el] at i1;have k3:=k2.ex e3;refine fZ k3.rx (rW (f:=PV.str) "" i0 i1) ?_;refine ⟨t,k,τ,ns,{ κ with p:=κ.p - 1 },_,rfl,T3,k3,ok.tl,fun o g C4 ho hg hgl T4 e4 => ?_⟩;have p0:=ok.p0;refine q _ { κ with p:=κ.p - 1 } C4 ?_ ?_ ?_ T4 (k3.ex e4) ?_
      ·rw [edn]; exact ⟨ho,aU i0 i1,hg,hgl⟩
      ·refine ⟨?_,?_,fun z=>absurd hτ z⟩
       ·show ((1:Nat):Int)≤mOf e * (1+(κ.l - κ.l))
        rcases sL e with z | z<;>rw [z]<;>omega
       ·show ((1:Nat):Int)≤(κ.p - (κ.p - 1))+zOf κ * (κ.e - κ.e)
        rw [Int.sub_self κ.e,Int.mul_zero]; omega
      ·exact ⟨rfl,rfl,rfl,rfl,rfl,ok.l0,Int.le_refl _,by show 0≤κ.p - 1; omega,by show κ.p - 1≤κ.p; omega,ok.e0,Int.le_refl _⟩
      ·exact (((ExS.ofEx e1).at (by simp) _).trans (ExS.ofEx e3)).trans (ExS.ofEx e4)
     ·refine jZ ?_
      exact hL _ _ ⟨rfl,rfl⟩
    ·refine jP rfl ?_
     refine jZ ?_;exact hL _ _ ⟨rfl,rfl⟩
   ·refine jP rfl ?_
    refine jZ ?_;exact hL _ _ ⟨rfl,rfl⟩
  ·refine jP rfl ?_
   refine jZ ?_;exact hL _ _ ⟨rfl,rfl⟩
 rintro ρ' C' ⟨rfl,rfl⟩
 try dsimp only
 refine oX (fun ρ' C''=>C''=C'∧ρ'=[some (.ref t),some (.ref k),some (.tup (τ.map PV.str)),some (.int (d:Nat)),some (.int v),none,none,none,none]) (fun L hL => ?_) ?_
 ·refine iX (iZ _ _) ?_
  refine bJ (fun hb => ?_) fun hb => ?_
  ·refine i_i ?_
   refine bJ (fun hb2 => ?_) fun hb2 => ?_
   ·have hb2:=of_decide_eq_true hb2
    obtain ⟨d',rfl⟩:∃ d',d=d'+1:=⟨d - 1,by omega⟩;refine cQ ?_;refine ⟨by show 3≤sizeLine; decide,fun p hp => ?_⟩;refine ⟨t,3,ns,rfl,T1.new hp _,by decide,by decide,fun i C2 i0 i1 T2 e2 => ?_⟩;refine fZ (e2 p _ (T1.ne hp) xQ) (rW (f:=PV.str) (ss:=["a","ab","b"]) "" i0 i1) ?_;have e02:Ex t C C2:=fun b o n z=>e2 b o n (Gr.new hp _ _ _ (e1 b o n z))
    try dsimp only
    refine cQ ?_;refine ⟨t,k,τ,ns,κ,rfl,T2,hk.ex e02,ok.tl,fun o C3 ho T3 e3 => ?_⟩
    try dsimp only
    refine ⟨t,k,τ,ns,κ,rfl,T3,(hk.ex e02).ex e3,ok.tl,fun rk C4 hrk T4 e4 => ?_⟩;refine i_i ?_;refine ⟨d',rfl,t,k,τ,ns,κ,?_,T4,((hk.ex e02).ex e3).ex e4,ok,fun ls κ' C5 h1 h2 h3 h4 T5 k5 x5=>⟨by show 5≤sizeLine; decide,?_⟩⟩
    ·have:((d'+1:Nat):Int) - 1=(d':Nat):=by omega
     rw [this]
    refine q (.give o _ rk ls) κ' C5 ?_ h3.one h4 T5 k5 ((ExS.ofEx ((e02.trans e3).trans e4)).trans x5);rw [edn];exact ⟨ho,aU (ss:=["a","ab","b"]) i0 i1,hrk,low ls fun x hx=>⟨d',rfl,h1 x hx⟩,h2⟩
   ·refine jZ ?_
    exact hL _ _ ⟨rfl,rfl⟩
  ·refine jP rfl ?_
   refine jZ ?_;exact hL _ _ ⟨rfl,rfl⟩
 rintro ρ' C'' ⟨rfl,rfl⟩
 try dsimp only
 refine oX (fun ρ' C'=>C'=C''∧ρ'=[some (.ref t),some (.ref k),some (.tup (τ.map PV.str)),some (.int (d:Nat)),some (.int v),none,none,none,none]) (fun L hL => ?_) ?_
 ·refine iX (iZ _ _) ?_
  refine bJ (fun hb => ?_) fun hb => ?_
  ·refine i_i ?_
   refine bJ (fun hb2 => ?_) fun hb2 => ?_
   ·have hb2:=of_decide_eq_true hb2
    obtain ⟨d',rfl⟩:∃ d',d=d'+1:=⟨d - 1,by omega⟩;have ed:((d'+1:Nat):Int) - 1=(d':Nat):=by omega
    refine cQ ?_;refine ⟨t,k,τ,ns,κ,rfl,T1,k1,ok.tl,fun rk C4 hrk T4 e4 => ?_⟩
    try dsimp only
    refine cQ ?_;refine i_i ?_;refine ⟨d',rfl,t,k,τ,ns,κ,by rw [ed],T4,k1.ex e4,ok,fun ls κ' C5 h1 h2 h3 h4 T5 k5 x5 => ?_⟩
    try dsimp only
    refine i_i ?_;refine ⟨d',rfl,t,k,τ,ns,κ',by rw [ed],T5,k5,ok.chg h4,fun ls2 κ2 C6 g1 g2 g3 g4 T6 k6 x6=>⟨by show 4≤sizeLine; decide,?_⟩⟩;refine q (.when rk ls ls2) κ2 C6 ?_ (Wgt.up (h3.add g3 h4)) (h4.trans g4) T6 k6 (((ExS.ofEx (e1.trans e4)).trans x5).trans x6);rw [edn];refine ⟨hrk,⟨low ls fun x hx=>⟨d',rfl,h1 x hx⟩,h2⟩,low ls2 fun x hx=>⟨d',rfl,?_⟩,g2⟩;have:=g1 x hx;rw [h4.bs,h4.rs] at this
    exact this
   ·refine jZ ?_
    exact hL _ _ ⟨rfl,rfl⟩
  ·refine jP rfl ?_
   refine jZ ?_;exact hL _ _ ⟨rfl,rfl⟩
 rintro ρ' C2 ⟨rfl,rfl⟩
 try dsimp only
 refine oX (fun ρ' C'=>C'=C2∧ρ'=[some (.ref t),some (.ref k),some (.tup (τ.map PV.str)),some (.int (d:Nat)),some (.int v),none,none,none,none]) (fun L hL => ?_) ?_
 ·refine i_i ?_
  refine bJ (fun hb => ?_) fun hb => ?_
  ·refine eJ k1.at_ rfl xS ?_
   refine i_i ?_;refine bJ (fun hb2 => ?_) fun hb2 => ?_
   ·have hb2:=of_decide_eq_true hb2
    have hτ:=ok.t hb2;subst hτ;refine ⟨t,k,d,ns,κ,rfl,T1,k1,ok,hb2,fun l κ' C5 h1 h2 h3 T5 k5 x5 => ?_⟩;refine q l κ' C5 (h1.mono ?_) h2 h3 T5 k5 ((ExS.ofEx e1).trans x5);have:=ok.e1;unfold mY;rw [if_neg (by omega)];omega
   ·refine jZ ?_
    exact hL _ _ ⟨rfl,rfl⟩
  ·refine jP rfl ?_
   refine jZ ?_;exact hL _ _ ⟨rfl,rfl⟩
 rintro ρ' C3 ⟨rfl,rfl⟩
 try dsimp only
 exact ⟨t,k,τ,ns,κ,rfl,T1,k1,ok,fun l κ' C5 h1 h2 h3 T5 k5 x5=>q l κ' C5 h1 h2 h3 T5 k5 ((ExS.ofEx e1).trans x5)⟩
end
theorem Ln.pvs_app (xs ys:List Ln):Ln.pvs (xs++ys)=Ln.pvs xs++Ln.pvs ys:=by
 rw [Ln.pvs_map,Ln.pvs_map,Ln.pvs_map,List.map_append]
theorem Ln.pvs_len (xs:List Ln):(Ln.pvs xs).length=xs.length:=by rw [Ln.pvs_map,List.length_map]
theorem Wgt.pay {e:Nat}{τ:List Str}{κ κ':Kt}{tw pw:Nat}(h:Wgt e τ { κ with l:=κ.l - 1 } κ' 1 tw pw):Wgt e τ κ κ' 0 tw pw:=by
 refine ⟨?_,h.p,h.n⟩;have:=h.t;have this:(tw:Int)≤mOf e * (1+(κ.l - 1 - κ'.l)):=this;have e2:1+(κ.l - 1 - κ'.l)=0+(κ.l - κ'.l):=by omega
 rw [e2] at this;exact this
theorem KAt.upd {C:CH}{t k p:Addr}{κ:Kt}(h:KAt C t k κ) (n1:p≠k) (n2:p≠κ.b) (n3:p≠κ.r) (o:CO):KAt (nQ C p o) t k κ :=
 ⟨by rw [bQ (Ne.symm n1)]; exact h.at_,by rw [bQ (Ne.symm n2)]; exact h.bx,by rw [bQ (Ne.symm n3)]; exact h.rx,h.nk,h.nb,h.nr,h.lb,h.lr⟩
section
variable {P:Program}{w:World}{K:PySem.W.Frag}{mg:Str→Option Value}{base:Heap}{a:Adr}
theorem uT (T:Txt P w K mg a) (e d r:Nat) (h1:1≤r)
  (jE:FnOk P w K mg base CX0 r a.eM a.mG U0 (spC K (uC e d))) :
  FnOk P w K mg base CX0 (r+1) a.eK a.jJ U0 (spC K (lB e d)):=by
 have S:=rS;have tQ:=(nJ (base:=base) T).mono (show 1≤r by omega)
 refine Fun.okC T.rN rS (fun ts C R h => ?_) fun cdv A outer s H E hr=>⟨_,(vQ (dQ (i:=4) S.nd rfl (Or.inl rfl) (mZ zQ))
  (vQ (rR PassesOwn.never rfl rfl T.fY (qQ (uX xV fJ (uX hX rX jQ (wQ tQ hr rfl T.wX T.k_l_draw T.b_l_draw lQ (qQ (cv 0) (qQ jQ zQ)))) (xX aV kU rfl T.zL rfl (qQ (uY rL iB (cv 3) jQ (oQ _)) zQ))) zQ) (pX (i:=5) S.nd rfl (Or.inl rfl)) (mQ (sX (iQ yW oJ (nZ (vZ hr) (cv 1) gQ (fun _ _=>rfl)) jQ (oQ _)) (vQ (iK (vZ hr) (cv 1) gQ (uX xV fJ (nZ (vZ hr) (cv 1) gQ (fun _ _=>rfl)) jQ))
  (mQ (mJ (wF PySem.F.plainAttrs_list PySem.F.slot_list_append PySem.F.type_list_append pJ tJ (cv 4) (qQ (wQ jE hr rfl T.Xu T.k_l_line T.b_l_line lQ (qQ (cv 0) (qQ (cv 1) (qQ (cv 2) (qQ (cv 3) zQ))))) zQ))))) dX)))
  (mQ (jX (xX zX dZ rfl T.bZ rfl (qQ (cv 4) zQ)))))),?_⟩
 ·obtain ⟨t,k,τ,ns,κ,rfl,_⟩:=h; rfl
 rintro ts C R ⟨t,k,τ,ns,κ,rfl,hT,hk,ok,q⟩;refine cQ ?_;refine ⟨by show 0≤sizeLine; decide,fun h hh => ?_⟩;have nht:=hT.ne hh;have nhk:h≠k:=fun z=>by subst z; rw [hk.at_] at hh; cases hh
 have nS:h∉[t,k]:=fun z=>by
  rcases List.mem_cons.1 z with z | z
  ·exact nht z
  ·exact nhk (List.mem_singleton.1 z)
 have nb:h≠κ.b:=fun z=>by rw [z,hk.bx] at hh; cases hh
 have nr:h≠κ.r:=fun z=>by rw [z,hk.rx] at hh; cases hh
 try dsimp only
 have e1:Ex t C (nQ C h (.lst [])):=Ex.new hh _;refine oX (fun ρ' C'=>∃ (ls:List Ln) (κ':Kt) (x5:Option PV),ρ'=[some (.ref t),some (.ref k),some (.tup (τ.map PV.str)),some (.int (d:Nat)),some (.ref h),x5]∧C' h=some (.lst (Ln.pvs ls))∧(∀ x∈ls,LnOk κ.bs κ.rs (mY e d) τ x)∧ls.length≤3∧Wgt e τ κ κ' 0 (Ln.tws ls) (Ln.pws ls)∧Chg κ κ'∧Tp C' t ns∧KAt C' t k κ'∧ExS [t,k] C C') (fun L hL => ?_) ?_
 ·refine ⟨t,3,ns,rfl,hT.new hh _,by decide,by decide,fun v C2 v0 v1 T2 e2 => ?_⟩
  refine dW ?_;refine i_i ?_;refine yC ?_;refine i_i ?_;generalize hn:1+v - (if decide ((d:Int) < 2)=true then (1:Int) else 0)=n;have hn3:n≤3∧0≤n:=by rw [← hn]; split<;>omega
  refine ⟨by omega,by omega,?_⟩;refine kK (fun zs ρ C'=>∃ (ls:List Ln) (κ':Kt) (x5:Option PV),ρ=[some (.ref t),some (.ref k),some (.tup (τ.map PV.str)),some (.int (d:Nat)),some (.ref h),x5]∧C' h=some (.lst (Ln.pvs ls))∧(∀ x∈ls,LnOk κ.bs κ.rs (mY e d) τ x)∧ls.length+zs.length≤3∧Wgt e τ κ κ' 0 (Ln.tws ls) (Ln.pws ls)∧Chg κ κ'∧Tp C' t ns∧KAt C' t k κ'∧ExS [t,k] C C') ?_ ?_ _ _ _ ⟨[],κ,_,rfl,e2 _ _ nht xQ,(fun _ z=>nomatch z),by rw [List.length_map,List.length_range]; show 0+_≤3; omega,Wgt.nil,Chg.refl ok,T2,(hk.ex e1).ex e2,ExS.ofEx (e1.trans e2)⟩
  ·rintro z zs ρ C3 ⟨ls,κ1,x5,rfl,mh,hls,hll,hw,hc,T3,k3,x3⟩ L3 hL3
   have ok3:=ok.chg hc;refine eJ k3.at_ rfl aY ?_;refine i_i ?_;refine bJ (fun hb => ?_) fun hb => ?_
   ·have hb:=of_decide_eq_true hb
    refine oZ ?_;refine eJ k3.at_ rfl aY ?_;refine i_i ?_;refine wY k3.at_ rfl (by show 6≤1000; decide) ?_;rw [pL]
    try dsimp only
    have k4:=k3.put (κ1.l - 1) κ1.p κ1.e κ1.la;have T4:=T3.put k3.nk (.dK (gZ κ1.b κ1.r (κ1.l - 1) κ1.p κ1.e (yY κ1.la)));have mh4:nQ C3 k (.dK (gZ κ1.b κ1.r (κ1.l - 1) κ1.p κ1.e (yY κ1.la))) h=some (.lst (Ln.pvs ls)):=by rw [bQ nhk]; exact mh
    have c4:Chg κ1 { κ1 with l:=κ1.l - 1 }:=⟨rfl,rfl,rfl,rfl,rfl,by show 0≤κ1.l - 1; omega,by show κ1.l - 1≤κ1.l; omega,hc.p0,Int.le_refl _,hc.e0,Int.le_refl _⟩;refine ⟨qU mh4,?_⟩;refine ⟨t,k,τ,ns,_,rfl,T4,k4,ok3.chg c4,fun l κ2 C5 g1 g2 g3 T5 k5 x5 => ?_⟩;have mh5:=x5 h _ nS mh4;refine lC mh5 (by rw [Ln.pvs_len]; exact Nat.lt_of_lt_of_le (show ls.length < 4 by omega) (by decide)) ?_;refine hL3 _ _ ⟨ls++[l],κ2,_,rfl,by rw [xQ,Ln.pvs_app]; rfl,fun x hx => ?_,by rw [List.length_append,List.length_singleton]; rw [List.length_cons] at hll; omega,?_,hc.trans (c4.trans g3),T5.put nht _,?_,?_⟩
    ·rcases List.mem_append.1 hx with hx | hx
     ·exact hls x hx
     ·cases List.mem_singleton.1 hx
      have:LnOk κ1.bs κ1.rs (mY e d) τ l:=g1;rw [hc.bs,hc.rs] at this;exact this
    ·rw [Ln.tws_app,Ln.pws_app]
     have:=hw.add g2.pay hc;exact this
    ·exact k5.upd nhk (by rw [g3.b]; show h≠κ1.b; rw [hc.b]; exact nb) (by rw [g3.r]; show h≠κ1.r; rw [hc.r]; exact nr) _
    ·exact (((x3.at (by simp) _).trans x5).put hh _)
   ·refine jZ ?_
    exact hL3 _ _ ⟨ls,κ1,_,rfl,mh,hls,by rw [List.length_cons] at hll; omega,hw,hc,T3,k3,x3⟩
  ·rintro ρ C3 ⟨ls,κ1,x5,rfl,mh,hls,hll,hw,hc,T3,k3,x3⟩
   exact hL _ _ ⟨ls,κ1,_,rfl,mh,hls,by omega,hw,hc,T3,k3,x3⟩
 rintro ρ' C3 ⟨ls,κ1,x5,rfl,mh,hls,hll,hw,hc,T3,k3,x3⟩
 try dsimp only
 refine qV mh ?_;exact q ls κ1 C3 hls (by omega) hw hc T3 k3 x3
end
section
variable {P:Program}{w:World}{K:PySem.W.Frag}{mg:Str→Option Value}{base:Heap}{a:Adr}
structure EI (C0 C:CH) (t k h:Addr) (ns:List Int) (κ κ':Kt) (name:Str) (ls:List Ln) (m:Nat):Prop where
 mh:C h=some (.lst (Ln.pvs ls))
 ok:∀ x∈ls,LnOk κ.bs κ.rs 2 [name] x
 len:ls.length+m≤2
 tw:(Ln.tws ls:Int)≤κ.l - κ'.l
 pw:Ln.pws ls≤if κ.la.isSome then ls.length else 0
 ch:Chg κ κ'
 p:κ'.p=κ.p
 e:κ'.e=κ.e
 tp:Tp C t ns
 kt:KAt C t k κ'
 ex:ExS [t,k] C0 C
theorem ok_each (T:Txt P w K mg a) (r:Nat) (h1:6≤r)
  (jE:FnOk P w K mg base CX0 r a.eM a.mG U0 (spC K (uC 0 1))) :
  FnOk P w K mg base CX0 (r+1) a.bH a.jF U13 (spC K (WZ 1)):=by
 have S:=fA;have tQ:=(nJ (base:=base) T).mono (show 1≤r by omega);have iJ:=(nM (base:=base) T).mono (show 2≤r by omega);have uF:=(Qf (base:=base) T).mono (show 3≤r by omega);have fU:=(nL (base:=base) T).mono (show 6≤r by omega)
 refine Fun.okC T.bE fA (fun ts C R h => ?_) fun cdv A outer s H E hr=>⟨_,(vQ (iK (vZ hr) (cv 1) gQ (uX xV fJ (nZ (vZ hr) (cv 1) gQ (fun _ _=>rfl)) jQ))
  (vQ (dQ (i:=3) S.nd rfl (Or.inl rfl) (rQ (r:=rIx K) yQ uQ (wQ iJ hr rfl T.nY T.k_l_names T.b_l_names lQ (qQ (cv 0) (qQ jQ zQ))) jQ (fun _ _=>rfl)))
  (vQ (dQ (i:=4) S.nd rfl (Or.inl rfl) (sQ (qQ gQ (qQ (wQ tQ hr rfl T.wX T.k_l_draw T.b_l_draw lQ (qQ (cv 0) (qQ jQ zQ))) zQ))))
  (vQ (sX (iQ uZ nX (wQ tQ hr rfl T.wX T.k_l_draw T.b_l_draw lQ (qQ (cv 0) (qQ jQ zQ))) jQ (oQ _)) (mQ (dQ (i:=4) S.nd rfl (Or.inl rfl) (wQ uF hr rfl T.cT T.k_l_leaf T.b_l_leaf lQ (qQ (cv 0) (qQ (cv 1) (qQ (sQ zQ) zQ)))))) dX)
  (vQ (dQ (i:=5) S.nd rfl (Or.inl rfl) (mX (fI rfl) JP rfl T.z_max rfl (qQ jQ (qQ (uX hX rX (uX xV fJ (nZ (vZ hr) (cv 1) gQ (fun _ _=>rfl)) jQ) (xX aV kU rfl T.zL rfl (qQ (uY Qe fO (nZ (vZ hr) (cv 1) gQ (fun _ _=>rfl)) nD (oQ _)) zQ))) zQ))))
  (vQ (iK (vZ hr) (cv 1) gQ (uX xV fJ (nZ (vZ hr) (cv 1) gQ (fun _ _=>rfl)) (cv 5)))
  (vQ (dQ (i:=6) S.nd rfl (Or.inl rfl) (mZ zQ))
  (vQ (rR PassesOwn.never rfl rfl T.fY (qQ (uX hX rX jQ (wQ tQ hr rfl T.wX T.k_l_draw T.b_l_draw lQ (qQ (cv 0) (qQ jQ zQ)))) zQ) (pX (i:=7) S.nd rfl (Or.inl rfl)) (mQ (sX (iQ yW oJ (nZ (vZ hr) (cv 1) gQ (fun _ _=>rfl)) jQ (oQ _)) (vQ (iK (vZ hr) (cv 1) gQ (uX xV fJ (nZ (vZ hr) (cv 1) gQ (fun _ _=>rfl)) jQ))
  (mQ (sX (cw_pt (cw_and (iQ Qe fO (nZ (vZ hr) (cv 1) gQ (fun _ _=>rfl)) nD (oQ _)) (cw_and1 (iQ uZ nX (wQ tQ hr rfl T.wX T.k_l_draw T.b_l_draw lQ (qQ (cv 0) (qQ jQ zQ))) jQ (oQ _))))) (mQ (mJ (wF PySem.F.plainAttrs_list PySem.F.slot_list_append PySem.F.type_list_append pJ tJ (cv 6) (qQ (wQ fU hr rfl T.yD T.k_l_part_line T.b_l_part_line lQ (qQ (cv 0) (qQ (cv 1) (qQ (sQ (qQ (cv 3) zQ)) (qQ (nZ (vZ hr) (cv 1) gQ (fun _ _=>rfl)) zQ))))) zQ)))) (mQ (mJ (wF PySem.F.plainAttrs_list PySem.F.slot_list_append PySem.F.type_list_append pJ tJ (cv 6) (qQ (wQ jE hr rfl T.Xu T.k_l_line T.b_l_line lQ (qQ (cv 0) (qQ (cv 1) (qQ (sQ (qQ (cv 3) zQ)) (qQ jQ zQ))))) zQ))))))) dX)))
  (vQ (iK (vZ hr) (cv 1) gQ (uX hX rX (nZ (vZ hr) (cv 1) gQ (fun _ _=>rfl)) (cv 5)))
  (mQ (jX (sQ (qQ gQ (qQ (cv 3) (qQ (cv 4) (qQ (xX zX dZ rfl T.bZ rfl (qQ (cv 6) zQ)) zQ)))))))))))))))),?_⟩
 ·obtain ⟨t,k,d,ns,κ,rfl,_⟩:=h; rfl
 rintro ts C R ⟨t,k,d,ns,κ,rfl,hT,hk,ok,he,q⟩;have he1:κ.e=1:=by have:=ok.e1; omega
 refine oZ ?_;refine eJ hk.at_ rfl xS ?_;refine i_i ?_;refine wY hk.at_ rfl (by show 6≤1000; decide) ?_;rw [iS]
 try dsimp only
 have k1:=hk.put κ.l κ.p (κ.e - 1) κ.la;have T1:=hT.put hk.nk (.dK (gZ κ.b κ.r κ.l κ.p (κ.e - 1) (yY κ.la)));have x1:ExS [t,k] C (nQ C k (.dK (gZ κ.b κ.r κ.l κ.p (κ.e - 1) (yY κ.la)))):=ExS.refl.at (by simp) _;refine cQ ?_;refine ⟨t,1,ns,rfl,T1,by decide,by decide,fun p ss C2 m2 _ pt hl nd T2 e2 => ?_⟩;have hl:ss.length=1:=hl
 obtain ⟨name,rfl⟩:∃ tag,ss=[tag]:=by
  match ss,hl with
  | [x],_=>exact ⟨x,rfl⟩
 refine fZ m2 gX ?_
 try dsimp only
 refine cQ ?_;refine ⟨t,4,ns,rfl,T2,by decide,by decide,fun v C3 v0 v1 T3 e3=>⟨by show 2≤sizeLine; decide,?_⟩⟩
 try dsimp only
 have k3:=(k1.ex e2).ex e3;have x3:ExS [t,k] C C3:=x1.trans (ExS.ofEx (e2.trans e3));refine oX (fun ρ' C'=>∃ rk:Rk,rk.ok κ.bs [] 0∧ρ'=[some (.ref t),some (.ref k),some (.int (d:Nat)),some (.str name),some rk.pv,none,none,none]∧Tp C' t ns∧Ex t C3 C') (fun L hL => ?_) ?_
 ·refine ⟨t,3,ns,rfl,T3,by decide,by decide,fun z C4 z0 z1 T4 e4 => ?_⟩
  refine iX (iZ _ _) ?_;refine bJ (fun hb => ?_) fun hb => ?_
  ·refine ⟨by show 0≤sizeLine; decide,?_⟩
   refine ⟨t,k,[],ns,_,rfl,T4,k3.ex e4,Nat.zero_le _,fun rk C5 hrk T5 e5 => ?_⟩;exact hL _ _ ⟨rk,hrk,rfl,T5,e4.trans e5⟩
  ·refine jZ ?_
   exact hL _ _ ⟨.num v,⟨by omega,by omega⟩,rfl,T4,e4⟩
 rintro ρ' C4 ⟨rk,hrk,rfl,T4,e4⟩
 try dsimp only
 have k4:=k3.ex e4;have x4:ExS [t,k] C C4:=x3.trans (ExS.ofEx e4);refine cQ ?_;refine eJ k4.at_ rfl aY ?_;refine i_i ?_;refine eJ k4.at_ rfl jS ?_;refine yC ?_;refine dW ?_;refine max_s ?_
 try dsimp only
 have hs0:∃ sp:Int,(if κ.l - 3+(if (!nC (yY κ.la))=true then (1:Int) else 0) > 0 then κ.l - 3+(if (!nC (yY κ.la))=true then (1:Int) else 0) else 0)=sp∧0≤sp∧sp≤κ.l:=by
  have:=ok.l0;refine ⟨_,rfl,?_,?_⟩<;>(split<;>split<;>omega)
 obtain ⟨sp,es,sp0,sp1⟩:=hs0;have es':(if κ.l - 3+(if (!nC (yY κ.la))=true then (1:Int) else 0) > 0 then κ.l - 3+(if (!nC (yY κ.la))=true then (1:Int) else 0) else 0)=sp:=es;rw [es'];refine oZ ?_;refine eJ k4.at_ rfl aY ?_;refine i_i ?_;refine wY k4.at_ rfl (by show 6≤1000; decide) ?_;rw [pL]
 try dsimp only
 have k5:=k4.put (κ.l - sp) κ.p (κ.e - 1) κ.la;have T5:=T4.put hk.nk (.dK (gZ κ.b κ.r (κ.l - sp) κ.p (κ.e - 1) (yY κ.la)));have x5:ExS [t,k] C (nQ C4 k (.dK (gZ κ.b κ.r (κ.l - sp) κ.p (κ.e - 1) (yY κ.la)))):=x4.at (by simp) _;generalize nQ C4 k (.dK (gZ κ.b κ.r (κ.l - sp) κ.p (κ.e - 1) (yY κ.la)))=C5 at k5 T5 x5 ⊢;have k5:KAt C5 t k { κ with l:=κ.l - sp,e:=κ.e - 1 }:=k5;refine cQ ?_;refine ⟨by show 0≤sizeLine; decide,fun h hh => ?_⟩
 have nht:=T5.ne hh;have nhk:h≠k:=fun z=>by subst z; rw [k5.at_] at hh; cases hh
 have nb:h≠κ.b:=fun z=>by have:=k5.bx; rw [← z,hh] at this; cases this
 have nr:h≠κ.r:=fun z=>by have:=k5.rx; rw [← z,hh] at this; cases this
 have nS:h∉[t,k]:=fun z=>by
  rcases List.mem_cons.1 z with z | z
  ·exact nht z
  ·exact nhk (List.mem_singleton.1 z)
 have hh0:C h=none:=x5.none nS hh
 try dsimp only
 have c5:Chg κ { κ with l:=κ.l - sp,e:=κ.e - 1 }:=⟨rfl,rfl,rfl,rfl,rfl,by show 0≤κ.l - sp; omega,by show κ.l - sp≤κ.l; omega,ok.p0,Int.le_refl _,by show 0≤κ.e - 1; omega,by show κ.e - 1≤κ.e; omega⟩;have ok5:Kok { κ with l:=κ.l - sp,e:=κ.e - 1 } 0 [name]:=⟨c5.l0,Int.le_trans c5.l1 ok.l1,ok.p0,ok.p1,c5.e0,by show κ.e - 1≤0; omega,fun z=>absurd (show (0:Int) < κ.e - 1 from z) (by omega),fun z=>absurd (show (0:Int) < κ.e - 1 from z) (by omega),by show 1≤4; decide⟩
 refine oX (fun ρ' C'=>∃ (ls:List Ln) (κ':Kt) (x7:Option PV),ρ'=[some (.ref t),some (.ref k),some (.int (d:Nat)),some (.str name),some rk.pv,some (.int sp),some (.ref h),x7]∧EI C C' t k h ns { κ with l:=κ.l - sp,e:=κ.e - 1 } κ' name ls 0) (fun L hL => ?_) ?_
 ·refine ⟨t,2,ns,rfl,T5.new hh _,by decide,by decide,fun v2 C6 v20 v21 T6 e6 => ?_⟩
  refine dW ?_;refine ⟨by omega,by omega,?_⟩;have k6:KAt C6 t k { κ with l:=κ.l - sp,e:=κ.e - 1 }:=(k5.upd nhk nb nr _).ex e6;refine kK (fun zs ρ C'=>∃ (ls:List Ln) (κ':Kt) (x7:Option PV),ρ=[some (.ref t),some (.ref k),some (.int (d:Nat)),some (.str name),some rk.pv,some (.int sp),some (.ref h),x7]∧EI C C' t k h ns { κ with l:=κ.l - sp,e:=κ.e - 1 } κ' name ls zs.length) ?_ ?_ _ _ _ ⟨[],_,_,rfl,⟨e6 _ _ nht xQ,(fun _ z=>nomatch z),by rw [List.length_map,List.length_range]; show 0+_≤2; omega,by show (0:Int)≤_ - _; omega,Nat.zero_le _,Chg.refl ok5,rfl,rfl,T6,k6,(x5.put hh0 _).trans (ExS.ofEx e6)⟩⟩
  ·rintro z zs ρ C7 ⟨ls,κ1,x7,rfl,I⟩ L3 hL3
   have ok7:=ok5.chg I.ch;have hll:=I.len;rw [List.length_cons] at hll;refine eJ I.kt.at_ rfl aY ?_;refine i_i ?_;refine bJ (fun hb => ?_) fun hb => ?_
   ·have hb:=of_decide_eq_true hb
    refine oZ ?_;refine eJ I.kt.at_ rfl aY ?_;refine i_i ?_;refine wY I.kt.at_ rfl (by show 6≤1000; decide) ?_;rw [pL]
    try dsimp only
    have k8:=I.kt.put (κ1.l - 1) κ1.p κ1.e κ1.la;have T8:=I.tp.put hk.nk (.dK (gZ κ1.b κ1.r (κ1.l - 1) κ1.p κ1.e (yY κ1.la)));have mh8:nQ C7 k (.dK (gZ κ1.b κ1.r (κ1.l - 1) κ1.p κ1.e (yY κ1.la))) h=some (.lst (Ln.pvs ls)):=by rw [bQ nhk]; exact I.mh
    have x8:ExS [t,k] C (nQ C7 k (.dK (gZ κ1.b κ1.r (κ1.l - 1) κ1.p κ1.e (yY κ1.la)))):=I.ex.at (by simp) _;generalize nQ C7 k (.dK (gZ κ1.b κ1.r (κ1.l - 1) κ1.p κ1.e (yY κ1.la)))=C8 at k8 T8 mh8 x8 ⊢;have k8:KAt C8 t k { κ1 with l:=κ1.l - 1 }:=k8;have c8:Chg κ1 { κ1 with l:=κ1.l - 1 }:=⟨rfl,rfl,rfl,rfl,rfl,by show 0≤κ1.l - 1; omega,by show κ1.l - 1≤κ1.l; omega,I.ch.p0,Int.le_refl _,I.ch.e0,Int.le_refl _⟩
    have ela:κ1.la=κ.la:=I.ch.la
    have more:∀ (l:Ln) (κ2:Kt) (C9:CH),LnOk κ.bs κ.rs 2 [name] l→(l.tw:Int)≤1+(κ1.l - 1 - κ2.l)→(l.pw≤if κ.la.isSome then 1 else 0)→Chg { κ1 with l:=κ1.l - 1 } κ2→κ2.p=κ1.p→κ2.e=κ1.e→Tp C9 t ns→KAt C9 t k κ2→ExS [t,k] C8 C9→(∀ ρ' C',(∃ (ls:List Ln) (κ':Kt) (x7:Option PV),ρ'=[some (.ref t),some (.ref k),some (.int (d:Nat)),some (.str name),some rk.pv,some (.int sp),some (.ref h),x7]∧EI C C' t k h ns { κ with l:=κ.l - sp,e:=κ.e - 1 } κ' name ls zs.length)→L3 ρ' C') →
      qD (.ref h) [l.pv] C9 fun _ C'=>L3 [some (.ref t),some (.ref k),some (.int (d:Nat)),some (.str name),some rk.pv,some (.int sp),some (.ref h),some z] C':=by
     intro l κ2 C9 h1 h2 h3 h4 h5 h6 T9 k9 x9 hL';have mh9:=x9 h _ nS mh8;refine lC mh9 (by rw [Ln.pvs_len]; exact Nat.lt_of_lt_of_le (show ls.length < 4 by omega) (by decide)) ?_;have b2:h≠κ2.b:=by rw [h4.b]; show h≠κ1.b; rw [I.ch.b]; exact nb
     have r2:h≠κ2.r:=by rw [h4.r]; show h≠κ1.r; rw [I.ch.r]; exact nr
     refine hL' _ _ ⟨ls++[l],κ2,_,rfl,⟨by rw [xQ,Ln.pvs_app]; rfl,fun x hx => ?_,by rw [List.length_append,List.length_singleton]; omega,?_,?_,I.ch.trans (c8.trans h4),h5.trans I.p,h6.trans I.e,T9.put nht _,k9.upd nhk b2 r2 _,(x8.trans x9).put hh0 _⟩⟩
     ·rcases List.mem_append.1 hx with hx | hx
      ·exact I.ok x hx
      ·cases List.mem_singleton.1 hx; exact h1
     ·rw [Ln.tws_app]
      have:=I.tw;show ((Ln.tws ls+(l.tw+0):Nat):Int)≤_;omega
     ·rw [Ln.pws_app,List.length_append,List.length_singleton]
      have g:=I.pw;have g:Ln.pws ls≤if κ.la.isSome then ls.length else 0:=g
      show Ln.pws ls+(l.pw+0)≤if κ.la.isSome then ls.length+1 else 0
      cases hz:κ.la.isSome with
      | true=>rw [hz,if_pos rfl] at g h3; rw [if_pos rfl]; omega
      | false=>rw [hz,if_neg Bool.false_ne_true] at g h3; rw [if_neg Bool.false_ne_true]; omega
    have e1z:κ1.e=0:=by have:=I.e; have:κ1.e=κ.e - 1:=this; omega
    have elseB:∀ C9,Tp C9 t ns→Ex t C8 C9→uC 0 1 [.ref t,.ref k,.tup [.str name],.int 1] C9 fun v C'=>qD (.ref h) [v] C' fun _ C''=>L3 [some (.ref t),some (.ref k),some (.int (d:Nat)),some (.str name),some rk.pv,some (.int sp),some (.ref h),some z] C'':=by
     intro C9 T9 e9;refine ⟨t,k,[name],ns,_,rfl,T9,k8.ex e9,ok7.chg c8,fun l κ2 C10 g1 g2 g3 T10 k10 x10 => ?_⟩;obtain ⟨n1,n2⟩:=g2.n (fun z=>nomatch z);refine more l κ2 C10 ?_ ?_ (by rw [n1]; exact Nat.zero_le _) g3 n2 ?_ T10 k10 ((ExS.ofEx e9).trans x10) hL3
     ·have:LnOk κ1.bs κ1.rs 2 [name] l:=g1
      rw [I.ch.bs,I.ch.rs] at this;exact this
     ·have:=g2.t
      have this:(l.tw:Int)≤1 * (1+(κ1.l - 1 - κ2.l)):=this;omega
     ·have a1:=g3.e0
      have a2:=g3.e1;have a2:κ2.e≤κ1.e:=a2;omega
    refine eJ k8.at_ rfl jS ?_;refine c_i ?_;refine WU (fun hb2 => ?_) fun hb2 => ?_
    ·refine ⟨t,2,ns,rfl,T8,by decide,by decide,fun z2 C9 z20 z21 T9 e9 => ?_⟩
     refine iX (iZ _ _) ?_;refine bJ (fun hb3 => ?_) fun hb3 => ?_
     ·have hb2:(!nC (yY κ1.la))=true:=hb2
      obtain ⟨sl,hsl⟩:∃ sl,κ1.la=some sl:=by
       cases hz:κ1.la with
       | none=>rw [hz] at hb2; cases hb2
       | some sl=>exact ⟨sl,rfl⟩
      have k9:=k8.ex e9;refine ⟨qU (e9 _ _ nht mh8),?_⟩;refine ⟨by show 1≤sizeLine; decide,?_⟩;refine eJ k9.at_ rfl (v:=.str sl) (by rw [jS]; show some (yY κ1.la)=_; rw [hsl]; rfl) ?_;refine ⟨t,k,[name],ns,_,sl,rfl,T9,k9,by show 1≤4; decide,fun o g C10 ho hg hgl T10 e10 => ?_⟩;refine more (.part o sl g) { κ1 with l:=κ1.l - 1 } C10 ?_ ?_ ?_ (Chg.refl (ok7.chg c8)) rfl rfl T10 (k9.ex e10) ((ExS.ofEx e9).trans (ExS.ofEx e10)) hL3
      ·have ho:XA κ1.bs [name] o:=ho
       have hg:oE κ1.bs [name] 1 g:=hg;rw [I.ch.bs] at ho hg;exact ⟨ho,ok.ly he sl (by rw [← ela]; exact hsl),hg,hgl⟩
      ·show ((1:Nat):Int)≤1+(κ1.l - 1 - (κ1.l - 1)); omega
      ·rw [← ela,hsl]; exact Nat.le_refl _
     ·refine ⟨qU (e9 _ _ nht mh8),?_⟩
      refine ⟨by show 1≤sizeLine; decide,?_⟩;exact elseB C9 T9 e9
    ·refine jP rfl ?_
     refine ⟨qU mh8,?_⟩;refine ⟨by show 1≤sizeLine; decide,?_⟩;exact elseB C8 T8 Ex.refl
   ·refine jZ ?_
    exact hL3 _ _ ⟨ls,κ1,_,rfl,⟨I.mh,I.ok,by omega,I.tw,I.pw,I.ch,I.p,I.e,I.tp,I.kt,I.ex⟩⟩
  ·rintro ρ C7 ⟨ls,κ1,x7,rfl,I⟩
   exact hL _ _ ⟨ls,κ1,_,rfl,I⟩
 rintro ρ' C7 ⟨ls,κ1,x7,rfl,I⟩
 try dsimp only
 refine oZ ?_;refine eJ I.kt.at_ rfl aY ?_;refine dW ?_;refine wY I.kt.at_ rfl (by show 6≤1000; decide) ?_;rw [pL]
 try dsimp only
 have k8:=I.kt.put (κ1.l+sp) κ1.p κ1.e κ1.la;refine qV (by rw [bQ nhk]; exact I.mh) ?_;refine ⟨by show 4≤sizeLine; decide,?_⟩;have cl0:=I.ch.l0;have cl1:κ1.l≤κ.l - sp:=I.ch.l1;have ce:κ1.e=κ.e - 1:=I.e;have cp:κ1.p=κ.p:=I.p;have ctw:(Ln.tws ls:Int)≤κ.l - sp - κ1.l:=I.tw;have cpw:Ln.pws ls≤if κ.la.isSome then ls.length else 0:=I.pw
 have cll:ls.length+0≤2:=I.len;refine q (.each name rk ls) { κ1 with l:=κ1.l+sp } _ ?_ ?_ ?_ (I.tp.put hk.nk _) k8 (I.ex.at (by simp) _)
 ·exact ⟨hrk,I.ok,by omega⟩
 ·refine ⟨?_,?_,fun z=>absurd rfl z⟩
  ·show ((8 * Ln.tws ls:Nat):Int)≤8 * (1+(κ.l - (κ1.l+sp)))
   omega
  ·show ((8 * Ln.pws ls:Nat):Int)≤(κ.p - κ1.p)+zOf κ * (κ.e - κ1.e)
   have e1:κ.e - κ1.e=1:=by omega
   rw [e1,Int.mul_one];unfold zOf
   cases hz:κ.la.isSome with
   | true=>rw [hz,if_pos rfl] at cpw; rw [if_pos rfl]; omega
   | false=>rw [hz,if_neg Bool.false_ne_true] at cpw; rw [if_neg Bool.false_ne_true]; omega
 ·exact ⟨I.ch.b,I.ch.r,I.ch.bs,I.ch.rs,I.ch.la,by show 0≤κ1.l+sp; omega,by show κ1.l+sp≤κ.l; omega,I.ch.p0,I.ch.p1,I.ch.e0,by show κ1.e≤κ.e; omega⟩
end
structure Pt where
 name:Str
 first:List (Str×Int)
 works:List (Str×Rk)
 ls:List Ln
def Pt.pv (x:Pt):PV:=.tup [.str x.name,.tup (x.first.map kX),.tup (x.works.map jG),.tup (Ln.pvs x.ls)]
structure K8 (rs:List Str) (cap:Nat) (x:Pt):Prop where
 fl:x.first.length≤4
 wk:oE (x.first.map (·.1)) [] 1 x.works
 wl:x.works.length≤4
 ls:∀ l∈x.ls,LnOk (x.first.map (·.1)) rs 6 [] l
 ll:x.ls.length≤6
 tw:Ln.tws x.ls≤48
 pw:Ln.pws x.ls≤cap
 fb:∀ c∈x.first,-1000000000≤c.2∧c.2≤1000000000
theorem VN {p:Addr}{ts:List (PV×PV)}{ps:List (Key×PV)}{C:CH}{Q:K1}(m:C p=some (.dK [])) (e:prK ts=some ps) (h:ps.length≤15) (q:Q (.ref p) (nQ C p (.dK (kG [] ps)))):oR p ts C Q:=by
 unfold oR;refine ⟨m,?_⟩;rw [e];exact ⟨h,q⟩
theorem XV {ss:List Str}(n:Nat):oC (ss.map PV.str) (some ((n:Int)+1)) none=(ss.drop (n+1)).map PV.str:=by
 unfold oC
 have e:HT.sIx (ss.map PV.str).length 0 (some ((n:Int)+1))=min (n+1) ss.length:=by
  have:((n:Int)+1)=((n+1:Nat):Int):=by omega
  rw [this,HT.sIx_nat,List.length_map]
 rw [e,HT.sIx_none,List.length_map,← List.map_drop,List.take_of_length_le (by rw [List.length_map,List.length_drop]; exact Nat.le_refl _)]
 congr 1
 by_cases h:n+1≤ss.length
 ·rw [Nat.min_eq_left h]
 ·rw [Nat.min_eq_right (by omega),List.drop_of_length_le (Nat.le_refl _),List.drop_of_length_le (by omega)]
theorem Yx {ss:List Str}(h:1 < ss.length):∃ s∈ss.drop 1,atI (ss.map PV.str) (-1)=some (.str s):=by
 unfold atI ixN;rw [if_neg (by decide),List.length_map,if_pos (by omega)];have e:((ss.length:Int) + -1).toNat=ss.length - 1:=by omega
 refine ⟨ss[ss.length - 1],?_,?_⟩
 ·have:ss[ss.length - 1]=(ss.drop 1)[ss.length - 2]'(by rw [List.length_drop]; omega):=by
   rw [List.getElem_drop]
   congr 1
   omega
  rw [this];exact List.getElem_mem _
 ·show (ss.map PV.str)[((ss.length:Int) + -1).toNat]?=_
  rw [e,List.getElem?_map,List.getElem?_eq_getElem (by omega)]
  rfl
theorem ZT {ss:List Str}{n:Nat}(h:n < ss.length):atI (ss.map PV.str) (n:Int)=some (.str ss[n]):=by
 have:=oD (xs:=ss.map PV.str) (k:=n) (by rw [List.length_map]; exact h);rw [List.getElem_map] at this;exact this
section
variable {P:Program}{w:World}{K:PySem.W.Frag}{mg:Str→Option Value}{base:Heap}{a:Adr}
theorem uW {f:Addr}{fd:FuncData}{ps:List Str}{r:Nat}{G:GC}(h:∀ ts C Q,¬ G ts C Q):FnOk P w K mg base CX0 r f fd ps (spC K G) :=
 ⟨fun vs H Q E ⟨ts,C,R,_,_,z,_⟩=>(h _ _ _ z).elim,fun _ _ _ _ _ _ _ _ _ _ _ _ _ ⟨ts,C,R,_,_,z,_⟩=>(h _ _ _ z).elim⟩
theorem Xj {e d r:Nat}(h:∀ d',d=d'+1→FnOk P w K mg base CX0 r a.eK a.jJ U0 (spC K (lB e d'))):FnOk P w K mg base CX0 r a.eK a.jJ U0 (spC K (Qv e d)):=by
 cases d with
 | zero=>exact uW fun ts C Q ⟨d',e,_⟩=>by omega
 | succ d' =>
  have e:Qv e (d'+1)=lB e d':=by
   funext ts C Q
   refine propext ⟨fun ⟨d'',z,h⟩ => ?_,fun h=>⟨d',rfl,h⟩⟩;cases Nat.succ.inj z;exact h
  rw [e];exact h d' rfl
theorem gT (T:Txt P w K mg a) (d:Nat) (h:∀ d',d=d'+1→FnOk P w K mg base CX0 (7+3 * d) a.eK a.jJ U0 (spC K (lB 0 d'))):FnOk P w K mg base CX0 (9+3 * d) a.eM a.mG U0 (spC K (uC 0 d)):=by
 have lo:=Xj (e:=0) (d:=d) (r:=7+3 * d) h;have pl:=Xi (base:=base) T 0 d (7+3 * d) (by omega) lo
 have:FnOk P w K mg base CX0 (7+3 * d+1+1) a.eM a.mG U0 (spC K (uC 0 d)) :=
  Ji (base:=base) T 0 d (7+3 * d+1) (by omega) (lo.mono (by omega)) pl (uW fun ts C Q ⟨t,k,d,ns,κ,_,_,_,ok,he,_⟩=>by have:=ok.e1; omega)
 have e:7+3 * d+1+1=9+3 * d:=by omega
 rw [e] at this;exact this
theorem Km (T:Txt P w K mg a) (d:Nat):FnOk P w K mg base CX0 (10+3 * d) a.eK a.jJ U0 (spC K (lB 0 d)):=by
 induction d with
 | zero =>
  have:=uT (base:=base) T 0 0 9 (by decide) (gT T 0 fun d' e=>by omega);exact this
 | succ d ih =>
  have:=uT (base:=base) T 0 (d+1) (9+3 * (d+1)) (by omega) (gT T (d+1) fun d' e=>by
   cases Nat.succ.inj e
   exact ih.mono (by omega))
  have e:9+3 * (d+1)+1=10+3 * (d+1):=by omega
  rw [e] at this;exact this
theorem We (T:Txt P w K mg a):FnOk P w K mg base CX0 13 a.bH a.jF U13 (spC K (WZ 1)) :=
 ok_each (base:=base) T 12 (by decide) (gT T 1 fun d' e=>by cases Nat.succ.inj e; exact Km T 0)
theorem eA (T:Txt P w K mg a) (d:Nat):FnOk P w K mg base CX0 (15+3 * d) a.eK a.jJ U0 (spC K (lB 1 d)):=by
 have step:∀ d,(∀ d',d=d'+1→FnOk P w K mg base CX0 (12+3 * d) a.eK a.jJ U0 (spC K (lB 1 d')))→FnOk P w K mg base CX0 (15+3 * d) a.eK a.jJ U0 (spC K (lB 1 d)):=by
  intro d h;have lo:=Xj (e:=1) (d:=d) (r:=12+3 * d) h;have pl:=Xi (base:=base) T 1 d (12+3 * d) (by omega) lo;have ln:=Ji (base:=base) T 1 d (12+3 * d+1) (by omega) (lo.mono (by omega)) pl ((We T).mono (by omega));have:=uT (base:=base) T 1 d (12+3 * d+1+1) (by omega) ln;have e:12+3 * d+1+1+1=15+3 * d:=by omega
  rw [e] at this;exact this
 induction d with
 | zero=>exact step 0 fun d' e=>by omega
 | succ d ih=>exact step (d+1) fun d' e=>by cases Nat.succ.inj e; exact ih.mono (by omega)
end
section
variable {P:Program}{w:World}{K:PySem.W.Frag}{mg:Str→Option Value}{base:Heap}{a:Adr}
theorem ok_or {f:Addr}{fd:FuncData}{ps:List Str}{r:Nat}{G1 G2:GC}(h1:FnOk P w K mg base CX0 r f fd ps (spC K G1)) (h2:FnOk P w K mg base CX0 r f fd ps (spC K G2)):FnOk P w K mg base CX0 r f fd ps (spC K (fun ts C Q=>G1 ts C Q∨G2 ts C Q)) :=
 ⟨fun vs H Q E ⟨ts,C,R,x,y,z,u⟩=>by
  rcases z with z | z
  ·exact h1.len vs H Q E ⟨ts,C,R,x,y,z,u⟩
  ·exact h2.len vs H Q E ⟨ts,C,R,x,y,z,u⟩,fun A outer s H args us vs Q E rm e0 bt vl ⟨ts,C,R,x,y,z,u⟩=>by
  rcases z with z | z
  ·exact h1.run A outer s H args us vs Q E rm e0 bt vl ⟨ts,C,R,x,y,z,u⟩
  ·exact h2.run A outer s H args us vs Q E rm e0 bt vl ⟨ts,C,R,x,y,z,u⟩⟩
def eV (k:Nat):Nat:=if k=0 then 18 else 2
structure KS (κ:Kt) (bl rl:Addr) (bs rs:List Str) (k:Nat):Prop where
 b:κ.b=bl
 r:κ.r=rl
 bs:κ.bs=bs
 rs:κ.rs=rs
 l:κ.l=6
 p0:1≤κ.p
 p1:κ.p≤2
 e0:0≤κ.e
 e1:κ.e≤1
 ly:0 < κ.e→∀ s,κ.la=some s→s∈κ.rs
 cap:κ.p+zOf κ * κ.e≤(eV k:Nat)
def gPart:GC:=fun ts C Q=>∃ (t nl:Addr) (ns:List Int) (names:List Str) (k:Nat) (keyed:Bool),ts=[.ref t,.ref nl,.int (k:Nat),.bl keyed]∧Tp C t ns∧C nl=some (.lst (names.map PV.str))∧nl≠t∧names.length≤6∧k < names.length ∧
 ∀ (x:Pt) (C':CH),names[k]?=some x.name→K8 (names.drop (k+1)) (eV k) x→Tp C' t ns→Ex t C C'→Q x.pv C'
theorem ok_part (T:Txt P w K mg a):FnOk P w K mg base CX0 25 a.Qm a.vO U16 (spC K gPart):=by
 have S:=wA;have tQ:=(nJ (base:=base) T).mono (show 1≤24 by decide);have iJ:=(nM (base:=base) T).mono (show 2≤24 by decide);have cG:=(vH (base:=base) T).mono (show 2≤24 by decide);have uV:=(wT (base:=base) T 1).mono (show 5≤24 by decide);have nW:=ok_or (eA (base:=base) T 3) ((eA (base:=base) T 1).mono (show 15+3 * 1≤24 by decide))
 refine Fun.okC T.vE wA (fun ts C R h => ?_) fun cdv A outer s H E hr=>⟨_,(vQ (dQ (i:=4) S.nd rfl (Or.inl rfl) (rQ (r:=rIx K) yQ uQ (mZ (qQ jQ (qQ jQ (qQ jQ (qQ jQ (qQ jQ (qQ jQ zQ))))))) (wQ tQ hr rfl T.wX T.k_l_draw T.b_l_draw lQ (qQ (cv 0) (qQ jQ zQ))) (fun _ _=>rfl)))
  (vQ (dQ (i:=5) S.nd rfl (Or.inl rfl) (wQ iJ hr rfl T.nY T.k_l_names T.b_l_names lQ (qQ (cv 0) (qQ (cv 4) zQ))))
  (vQ (dQ (i:=6) S.nd rfl (Or.inr rfl) (ce_disp (iU gQ (cv 5) (iU gQ (ZP (cv 1) (gP (uX hX rX (cv 2) jQ)) bP) (iU gQ jQ (iU gQ jQ (iU gQ jQ (iU gQ nD cps_nil))))))))
  (vQ (sX (cw_pt (cw_or (iQ rL iB (mX zZ tZ rfl T.bV rfl (qQ (cv 1) zQ)) jQ (oQ _)) (cw_or1 (cw_pt (cw_and (mO (cv 3)) (cw_and1 (iQ uZ nX (cv 2) jQ (oQ _)))))))) (mQ (iK (vZ hr) (cv 6) gQ jQ)) dX)
  (vQ (sX (mO (cv 3)) (vQ (iK (vZ hr) (cv 6) gQ (xX aV kU rfl T.zL rfl (qQ (uY uZ nX (cv 2) jQ (oQ _)) zQ)))
  (vQ (sX (iQ yW oJ (mX zZ tZ rfl T.bV rfl (qQ (cv 1) zQ)) jQ (oQ _)) (mQ (iK (vZ hr) (cv 6) gQ (rQ (r:=rIx K) yQ uQ (cv 1) (JK oI lR jQ) (fun _ _=>rfl)))) dX)
  (mQ (sX (iQ yW oJ (cv 2) jQ (oQ _)) (mQ (iK (vZ hr) (cv 6) gQ jQ)) dX)))) dX)
  (vQ (dQ (i:=7) S.nd rfl (Or.inl rfl) (xX zX dZ rfl T.bZ rfl (qQ (pP rfl (show (["_law_box","_law_tape_here","_law_names_here","_law_k","_law_keyed","_law_many","_law_boxes_here","_law_kit","_law_first","_law_lines_here","_law_work_names","_law_works"]:List Str).Nodup by decide +kernel) (yJ (N:=U4) (sc:=kQ wV) rfl rfl rfl (by decide +kernel)) (cv 5) (fun _ _ _ _ _=>vV) (fun _ _ _ _ _=>(sQ (qQ (cv 0) (qQ (wQ cG hr rfl T.bD T.k_l_number T.b_l_number lQ (qQ (cv 1) zQ)) zQ))))) zQ)))
  (vQ (dQ (i:=8) S.nd rfl (Or.inl rfl) (wQ nW hr rfl T.sU T.k_l_lines T.b_l_lines lQ (qQ (cv 0) (qQ (cv 6) (qQ (sQ zQ) (qQ (rQ (r:=rIx K) yQ uQ (mZ (qQ jQ (qQ jQ zQ))) (xX aV kU rfl T.zL rfl (qQ (uY yW oJ (mX zZ tZ rfl T.bV rfl (qQ (cv 1) zQ)) jQ (oQ _)) zQ)) (fun _ _=>rfl)) zQ))))))
  (vQ (dQ (i:=9) S.nd rfl (Or.inl rfl) (wQ iJ hr rfl T.nY T.k_l_names T.b_l_names lQ (qQ (cv 0) (qQ (wQ tQ hr rfl T.wX T.k_l_draw T.b_l_draw lQ (qQ (cv 0) (qQ jQ zQ))) zQ))))
  (vQ (dQ (i:=10) S.nd rfl (Or.inl rfl) (xX zX dZ rfl T.bZ rfl (qQ (pP rfl (show (["_law_name","_law_tape_here","_law_names_here","_law_k","_law_keyed","_law_many","_law_boxes_here","_law_kit","_law_first","_law_lines_here","_law_work_names","_law_works"]:List Str).Nodup by decide +kernel) (yJ (N:=U4) (sc:=kQ wV) rfl rfl rfl (by decide +kernel)) (cv 9) (fun _ _ _ _ _=>vV) (fun _ _ _ _ _=>(sQ (qQ (cv 0) (qQ (wQ uV hr rfl T.uB T.k_l_sum T.b_l_sum lQ (qQ (cv 1) (qQ (cv 7) (qQ (sQ zQ) (qQ jQ zQ))))) zQ))))) zQ)))
  (mQ (jX (sQ (qQ (rQ (r:=rIx K) yQ uQ (cv 1) (cv 2) (fun _ _=>rfl)) (qQ (cv 7) (qQ (cv 10) (qQ (cv 8) zQ)))))))))))))))),?_⟩
 ·obtain ⟨t,nl,ns,names,k,keyed,rfl,_⟩:=h; rfl
 rintro ts C R ⟨t,nl,ns,names,k,keyed,rfl,hT,mn,nt,hnl,hkn,q⟩;refine cQ ?_;refine ⟨by show 6≤sizeLine; decide,fun p1 hp1 => ?_⟩;refine ⟨t,6,ns,rfl,hT.new hp1 _,by decide,by decide,fun v C1 v0 v1 T1 e1 => ?_⟩;have e01:Ex t C C1:=(Ex.new hp1 _).trans e1;refine fZ (e1 p1 _ (hT.ne hp1) xQ) (rW (f:=PV.int) (ss:=[0,1,1,2,2,4]) 0 v0 v1) ?_
 have hm:0≤([0,1,1,2,2,4]:List Int).getD v.toNat 0∧([0,1,1,2,2,4]:List Int).getD v.toNat 0≤4:=by
  have:v=0∨v=1∨v=2∨v=3∨v=4∨v=5:=by omega
  rcases this with rfl | rfl | rfl | rfl | rfl | rfl<;>decide
 generalize ([0,1,1,2,2,4]:List Int).getD v.toNat 0=m at hm ⊢
 try dsimp only
 refine cQ ?_;refine ⟨t,m,ns,rfl,T1,hm.1,by omega,fun bl bs C2 m2 n2 bt hbl nd T2 e2 => ?_⟩;have e02:=e01.trans e2;have hbs:bs.length≤4:=by omega
 try dsimp only
 refine cQ ?_;intro kd hkd;have T3:=T2.new hkd (.dK []);have nkt:=T2.ne hkd;refine dW ?_;refine sl_l (Gr.new hkd _ _ _ (e02 _ _ nt mn)) fun rl hrl => ?_;have T4:=T3.new hrl (.lst (oC (names.map PV.str) (some ((k:Int)+1)) none));have nrt:=T3.ne hrl;have nkr:kd≠rl:=fun z=>by subst z; rw [xQ] at hrl; cases hrl
 have hrl2:C2 rl=none:=by rw [bQ (Ne.symm nkr)] at hrl; exact hrl
 have nbk:bl≠kd:=fun z=>by rw [z,hkd] at m2; cases m2
 have nbr:bl≠rl:=fun z=>by rw [z,hrl2] at m2; cases m2
 rw [XV];rw [XV] at T4;refine VN (ps:=gZ bl rl 6 1 1 .non) (by rw [bQ nkr]; exact xQ) rfl (by show 6≤15; decide) ?_;rw [show kG [] (gZ bl rl 6 1 1 .non)=gZ bl rl 6 1 1 .non from rfl]
 try dsimp only
 have T5:=T4.put nkt (.dK (gZ bl rl 6 1 1 .non))
 have x5:Ex t C (nQ (nQ (nQ C2 kd (.dK [])) rl (.lst ((names.drop (k+1)).map PV.str))) kd (.dK (gZ bl rl 6 1 1 .non))) :=
  ((e02.trans (Ex.new hkd _)).trans (Ex.new hrl _)).put (e02.none nkt hkd) _
 have k5:KAt (nQ (nQ (nQ C2 kd (.dK [])) rl (.lst ((names.drop (k+1)).map PV.str))) kd (.dK (gZ bl rl 6 1 1 .non))) t kd ⟨bl,rl,bs,names.drop (k+1),6,1,1,none⟩:=by
  refine ⟨xQ,?_,?_,nkt,bt,nrt,hbs,?_⟩
  ·show nQ (nQ (nQ C2 kd (.dK [])) rl (.lst ((names.drop (k+1)).map PV.str))) kd (.dK (gZ bl rl 6 1 1 .non)) bl=_
   rw [bQ nbk,bQ nbr,bQ nbk]; exact m2
  ·show nQ (nQ (nQ C2 kd (.dK [])) rl (.lst ((names.drop (k+1)).map PV.str))) kd (.dK (gZ bl rl 6 1 1 .non)) rl=_
   rw [bQ (Ne.symm nkr)]; exact xQ
  ·show (names.drop (k+1)).length≤6
   rw [List.length_drop]; omega
 have kd0:C kd=none:=e02.none nkt hkd;generalize nQ (nQ (nQ C2 kd (.dK [])) rl (.lst ((names.drop (k+1)).map PV.str))) kd (.dK (gZ bl rl 6 1 1 .non))=C5 at T5 x5 k5 ⊢;refine oX (fun ρ' C'=>∃ p:Int,1≤p∧p≤2∧ρ'=[some (.ref t),some (.ref nl),some (.int (k:Nat)),some (.bl keyed),some (.int m),some (.ref bl),some (.ref kd),none,none,none,none]∧Tp C' t ns∧Ex t C C'∧KAt C' t kd ⟨bl,rl,bs,names.drop (k+1),6,p,1,none⟩) (fun L hL => ?_) ?_
 ·have yes:∀ L':CSt→CH→Prop,L'=L→oO (.ref kd) (.str "parts") (.int 2) C5 fun C4=>L' [some (.ref t),some (.ref nl),some (.int (k:Nat)),some (.bl keyed),some (.int m),some (.ref bl),some (.ref kd),none,none,none,none] C4:=by
   rintro L' rfl;refine wY k5.at_ rfl (by show 6≤1000; decide) ?_;exact hL _ _ ⟨2,by decide,by decide,rfl,T5.put nkt _,x5.put kd0 _,k5.put 6 2 1 none⟩
  refine oM (x5 _ _ nt mn) ?_;refine i_i ?_;refine bJ (fun hb => ?_) fun hb => ?_
  ·refine if_y rfl ?_
   exact yes _ rfl
  ·refine WU (fun hb2 => ?_) fun hb2 => ?_
   ·refine iX (iZ _ _) ?_
    refine bJ (fun hb3 => ?_) fun hb3 => ?_
    ·exact yes _ rfl
    ·refine jZ ?_
     exact hL _ _ ⟨1,by decide,by decide,rfl,T5,x5,k5⟩
   ·refine jP rfl ?_
    refine jZ ?_;exact hL _ _ ⟨1,by decide,by decide,rfl,T5,x5,k5⟩
 clear k5 T5 x5;rintro ρ' C6 ⟨p,p0,p1,rfl,T6,x6,k6⟩
 try dsimp only
 have zle:∀ κ:Kt,zOf κ≤16:=fun κ=>by unfold zOf; split<;>decide
 refine oX (fun ρ' C'=>∃ κ:Kt,KS κ bl rl bs (names.drop (k+1)) k∧ρ'=[some (.ref t),some (.ref nl),some (.int (k:Nat)),some (.bl keyed),some (.int m),some (.ref bl),some (.ref kd),none,none,none,none]∧Tp C' t ns∧Ex t C C'∧KAt C' t kd κ) (fun L hL => ?_) ?_
 ·refine WU (fun hb => ?_) fun hb => ?_
  ·refine oZ ?_
   refine iX (iZ _ _) ?_;refine yC ?_;refine wY k6.at_ rfl (by show 6≤1000; decide) ?_;rw [iS]
   try dsimp only
   have he:∃ e:Int,(if id (decide ((k:Int)=0))=true then (1:Int) else 0)=e∧((k=0∧e=1)∨(0 < k∧e=0)):=by
    by_cases hk0:k=0
    ·refine ⟨1,?_,.inl ⟨hk0,rfl⟩⟩
     rw [if_pos (by show decide ((k:Int)=0)=true; exact decide_eq_true (by omega))]
    ·refine ⟨0,?_,.inr ⟨by omega,rfl⟩⟩
     rw [if_neg (by show ¬ decide ((k:Int)=0)=true; rw [decide_eq_false (by omega)]; decide)]
   obtain ⟨e,ee,hek⟩:=he;rw [ee];have k7:=k6.put 6 p e none;have T7:=T6.put nkt (.dK (gZ bl rl 6 p e (yY none)));have x7:=x6.put kd0 (.dK (gZ bl rl 6 p e (yY none)));have e7:(CO.dK (gZ bl rl 6 p e .non))=.dK (gZ bl rl 6 p e (yY none)):=rfl;show K4 _ _ _ _ (nQ C6 kd (CO.dK (gZ bl rl 6 p e (yY none))));generalize nQ C6 kd (CO.dK (gZ bl rl 6 p e (yY none)))=C7 at k7 T7 x7 ⊢;refine oX (fun ρ' C'=>∃ la:Option Str,(k=0→∀ s,la=some s→s∈names.drop (k+1))∧ρ'=[some (.ref t),some (.ref nl),some (.int (k:Nat)),some (.bl keyed),some (.int m),some (.ref bl),some (.ref kd),none,none,none,none]∧Tp C' t ns∧Ex t C C'∧KAt C' t kd ⟨bl,rl,bs,names.drop (k+1),6,p,e,la⟩) (fun L1 hL1 => ?_) ?_
   ·refine oM (x7 _ _ nt mn) ?_
    refine i_i ?_;refine bJ (fun hb2 => ?_) fun hb2 => ?_
    ·have hb2:=of_decide_eq_true hb2
     rw [List.length_map] at hb2;obtain ⟨sl,hsl,esl⟩:=Yx (ss:=names) (by omega);refine fZ (x7 _ _ nt mn) esl ?_;refine wY k7.at_ rfl (by show 6≤1000; decide) ?_;exact hL1 _ _ ⟨some sl,fun hk0 s hs=>by cases hs; rw [hk0]; exact hsl,rfl,T7.put nkt _,x7.put kd0 _,k7.put 6 p e (some sl)⟩
    ·refine jZ ?_
     exact hL1 _ _ ⟨none,(fun _ _ z=>nomatch z),rfl,T7,x7,k7⟩
   rintro ρ' C8 ⟨la,hla,rfl,T8,x8,k8⟩
   try dsimp only
   refine i_i ?_;refine bJ (fun hb2 => ?_) fun hb2 => ?_
   ·have hb2:=of_decide_eq_true hb2
    have e0:e=0:=by omega
    subst e0;refine wY k8.at_ rfl (by show 6≤1000; decide) ?_;refine hL _ _ ⟨⟨bl,rl,bs,names.drop (k+1),6,1,0,la⟩,⟨rfl,rfl,rfl,rfl,rfl,Int.le_refl _,(by show (1:Int)≤2; decide),Int.le_refl _,(by show (0:Int)≤1; decide),fun z=>absurd (show (0:Int) < 0 from z) (by decide),?_⟩,rfl,T8.put nkt _,x8.put kd0 _,k8.put 6 1 0 la⟩;show (1:Int)+zOf _ * 0≤_;rw [Int.mul_zero];unfold eV
    split<;>decide
   ·refine jZ ?_
    have hb2:=of_decide_eq_false hb2;have hk0:k=0:=by omega
    have e1:e=1:=by omega
    subst e1;refine hL _ _ ⟨⟨bl,rl,bs,names.drop (k+1),6,p,1,la⟩,⟨rfl,rfl,rfl,rfl,rfl,p0,p1,(by show (0:Int)≤1; decide),Int.le_refl _,fun _=>hla hk0,?_⟩,rfl,T8,x8,k8⟩;show p+zOf _ * 1≤_;rw [Int.mul_one];have:=zle ⟨bl,rl,bs,names.drop (k+1),6,p,1,la⟩;unfold eV;rw [if_pos hk0];omega
  ·refine jZ ?_
   refine hL _ _ ⟨⟨bl,rl,bs,names.drop (k+1),6,p,1,none⟩,⟨rfl,rfl,rfl,rfl,rfl,p0,p1,(by show (0:Int)≤1; decide),Int.le_refl _,(fun _ _ z=>nomatch z),?_⟩,rfl,T6,x6,k6⟩;show p+0 * 1≤_;unfold eV
   split<;>omega
 clear k6 T6 x6;rintro ρ' C7 ⟨κ,ks,rfl,T7,x7,k7⟩
 try dsimp only
 have mb7:C7 bl=some (.lst (bs.map PV.str)):=by have:=k7.bx; rw [ks.b,ks.bs] at this; exact this
 refine cQ ?_;refine cl_l mb7 rfl ?_;refine qM (β:=Int) kX (fun i:Int => -1000000000≤i∧i≤1000000000) (fun C'=>Tp C' t ns∧Ex t C7 C') (fun C' h=>h.2 _ _ bt mb7) (by omega) (fun z C8 L ⟨T8,e8⟩ hL => ?_) (fun fs C8 p8 ⟨T8,e8⟩ hp8 hfs hfo => ?_) ⟨T7,Ex.refl⟩
 ·exact ⟨t,ns,rfl,T8,fun i C9 i0 i1 T9 e9=>⟨by show 2≤sizeLine; decide,hL i C9 ⟨i0,i1⟩ ⟨T9,e8.trans e9⟩⟩⟩
 refine qV xQ ?_;have T9:=T8.new hp8 (.lst (fs.map kX));have e9:Ex t C7 (nQ C8 p8 (.lst (fs.map kX))):=e8.trans (Ex.new hp8 _);generalize nQ C8 p8 (.lst (fs.map kX))=C9 at T9 e9 ⊢
 try dsimp only
 have k9:=k7.ex e9;have x9:Ex t C C9:=x7.trans e9;have ok9:Kok κ 1 []:=⟨by rw [ks.l]; decide,by rw [ks.l]; decide,by have:=ks.p0; omega,ks.p1,ks.e0,ks.e1,fun _=>rfl,ks.ly,Nat.zero_le _⟩;refine cQ ?_;refine ⟨by show 0≤sizeLine; decide,?_⟩;refine ⟨by show 2≤sizeLine; decide,fun p10 hp10 => ?_⟩;have T10:=T9.new hp10 (.lst [PV.int 3,PV.int 1]);have k10:=k9.ex (Ex.new hp10 (.lst [PV.int 3,PV.int 1]));have x10:Ex t C (nQ C9 p10 (.lst [PV.int 3,PV.int 1])):=x9.trans (Ex.new hp10 _)
 refine oM (x10 _ _ nt mn) ?_;refine i_i ?_;refine yC ?_
 have fin:∀ (ls:List Ln) (κ':Kt) (C':CH),(∀ x∈ls,LnOk κ.bs κ.rs 6 [] x)→ls.length≤6→Wgt 1 [] κ κ' 0 (Ln.tws ls) (Ln.pws ls)→Chg κ κ'→Tp C' t ns→KAt C' t kd κ'→ExS [t,kd] (nQ C9 p10 (.lst [PV.int 3,PV.int 1])) C'→∀ (x:Pt),x.name=names[k]→x.first=fs→x.ls=ls→oE bs [] 1 x.works→x.works.length≤4→∀ C'',Tp C'' t ns→Ex t C' C''→R x.pv C'':=by
  intro ls κ' C' h1 h2 h3 h4 T' k' x' x xn xf xl xw xwl C'' T'' e'';refine q x C'' (by rw [List.getElem?_eq_getElem hkn,xn]) ?_ T'' ?_
  ·have hfb:x.first.map (·.1)=bs:=by rw [xf]; exact hfs
   refine ⟨by rw [xf,← List.length_map (f:=(·.1)),hfs]; exact hbs,by rw [hfb]; exact xw,xwl,?_,by rw [xl]; exact h2,?_,?_,by rw [xf]; exact hfo⟩
   ·rw [xl,hfb]
    intro l hl;have:=h1 l hl;rw [ks.bs,ks.rs] at this;exact this
   ·rw [xl]
    have:=h3.t;have l0:=h4.l0;have kl:=ks.l;have this:(Ln.tws ls:Int)≤8 * (0+(κ.l - κ'.l)):=this;omega
   ·rw [xl]
    have g:=h3.p;have c:=ks.cap;have e0:=h4.e0;have e1:=h4.e1;have q0:=h4.p0;have z:zOf κ=0∨zOf κ=16:=by unfold zOf; split; exact .inr rfl; exact .inl rfl
    rcases z with z | z<;>rw [z] at g c<;>omega
  ·intro b o nb hb
   have nk:b≠kd:=fun z=>by rw [z,kd0] at hb; cases hb
   exact e'' b o nb (x' b o (fun z=>by
    rcases List.mem_cons.1 z with z | z
    ·exact nb z
    ·exact nk (List.mem_singleton.1 z)) (x10 b o nb hb))
 have rest:∀ (ls:List Ln) (κ':Kt) (C':CH),(∀ x∈ls,LnOk κ.bs κ.rs 6 [] x)→ls.length≤6→Wgt 1 [] κ κ' 0 (Ln.tws ls) (Ln.pws ls)→Chg κ κ'→Tp C' t ns→KAt C' t kd κ'→ExS [t,kd] (nQ C9 p10 (.lst [PV.int 3,PV.int 1])) C' →
   gDraw [.ref t,.int 3] C' fun v C1=>WY [.ref t,v] C1 fun wn C2=>tO (qW 9) sD (K3 (wU (qW 0) (wU (X5 (ZJ 1) (wU (qW 1) (wU (qW 7) (wU (K3 X4) (wU (cC (.int 1)) X4))))) X4))) [some (.ref t),some (.ref nl),some (.int (k:Nat)),some (.bl keyed),some (.int m),some (.ref bl),some (.ref kd),some (.tup (fs.map kX)),some (.tup (Ln.pvs ls)),some wn,none] C2 fun lv C3=>sO [lv] C3 fun wv C4=>cIx (.ref nl) (.int (k:Nat)) C4 fun nm C5=>4≤sizeLine∧R (.tup [nm,.tup (fs.map kX),wv,.tup (Ln.pvs ls)]) C5:=by
  intro ls κ' C' h1 h2 h3 h4 T' k' x';refine ⟨t,3,ns,rfl,T',by decide,by decide,fun v C11 v0 v1 T11 e11 => ?_⟩;refine ⟨t,v,ns,rfl,T11,v0,by omega,fun wl ws C12 m12 n12 wt hwl nd T12 e12 => ?_⟩;refine cl_l m12 rfl ?_;have e1112:=e11.trans e12;refine qM (β:=Rk) jG (fun r=>r.ok bs [] 1) (fun C''=>Tp C'' t ns∧Ex t C12 C'') (fun C'' h=>h.2 _ _ wt m12) (by omega) (fun z C13 L ⟨T13,e13⟩ hL => ?_) (fun bs' C13 p13 ⟨T13,e13⟩ hp13 hb ho => ?_) ⟨T12,Ex.refl⟩
  ·refine ⟨by show 0≤sizeLine; decide,?_⟩
   refine ⟨t,kd,[],ns,κ',rfl,T13,k'.ex (e1112.trans e13),Nat.zero_le _,fun r C14 hr T14 e14=>⟨by show 2≤sizeLine; decide,hL r C14 ?_ ⟨T14,e13.trans e14⟩⟩⟩;rw [h4.bs,ks.bs] at hr;exact hr
  ·refine qV xQ ?_
   have e013:Ex t C' (nQ C13 p13 (.lst (bs'.map jG))):=(e1112.trans e13).trans (Ex.new hp13 _);have nnk:nl≠kd:=fun z=>by rw [z,kd0] at mn; cases mn
   have mn':C' nl=some (.lst (names.map PV.str)):=x' nl _ (fun z=>by
    rcases List.mem_cons.1 z with z | z
    ·exact nt z
    ·exact nnk (List.mem_singleton.1 z)) (x10 _ _ nt mn)
   refine fZ (e013 _ _ nt mn') (ZT hkn) ?_;refine ⟨by decide,?_⟩;exact fin ls κ' C' h1 h2 h3 h4 T' k' x' ⟨names[k],fs,bs',ls⟩ rfl rfl rfl ho (by show bs'.length≤4; have:=congrArg List.length hb; rw [List.length_map] at this; omega) _ (T13.new hp13 _) e013
 have hd3:atI [PV.int 3,PV.int 1] (if decide ((((names.map PV.str).length:Nat):Int) > 3)=true then (1:Int) else 0)=some (.int 3)∨atI [PV.int 3,PV.int 1] (if decide ((((names.map PV.str).length:Nat):Int) > 3)=true then (1:Int) else 0)=some (.int 1):=by
  cases decide ((((names.map PV.str).length:Nat):Int) > 3) with
  | false=>exact .inl rfl
  | true=>exact .inr rfl
 rcases hd3 with hd | hd
 ·refine fZ xQ hd ?_
  refine .inl ⟨t,kd,[],ns,κ,rfl,T10,k10,ok9,fun ls κ' C' h1 h2 h3 h4 T' k' x' => ?_⟩;exact rest ls κ' C' (fun x hx=>(h1 x hx).mono (by decide)) h2 h3 h4 T' k' x'
 ·refine fZ xQ hd ?_
  refine .inr ⟨t,kd,[],ns,κ,rfl,T10,k10,ok9,fun ls κ' C' h1 h2 h3 h4 T' k' x' => ?_⟩;exact rest ls κ' C' (fun x hx=>(h1 x hx).mono (by decide)) h2 h3 h4 T' k' x'
end
def zV (pts:List Pt):List Str:=pts.map (·.name)
structure yN (pts:List Pt):Prop where
 n1:1≤pts.length
 n6:pts.length≤6
 nd:(zV pts).Nodup
 ok:∀ k x,pts[k]?=some x→K8 ((zV pts).drop (k+1)) (eV k) x
theorem wD {N j:Nat}{z:PV}{zs:List PV}(h:z::zs=((List.range N).drop j).map (fun k:Nat=>PV.int (k:Nat))):j < N∧z=.int (j:Nat)∧zs=((List.range N).drop (j+1)).map (fun k:Nat=>PV.int (k:Nat)):=by
 have hj:j < (List.range N).length:=by
  rcases Nat.lt_or_ge j (List.range N).length with h' | h'
  ·exact h'
  ·rw [List.drop_of_length_le h'] at h; cases h
 rw [List.drop_eq_getElem_cons hj,List.map_cons,List.getElem_range] at h;injection h with h1 h2
 exact ⟨by rw [List.length_range] at hj; exact hj,h1,h2⟩
section
variable {P:Program}{w:World}{K:PySem.W.Frag}{mg:Str→Option Value}{base:Heap}{a:Adr}
def gHouse:GC:=fun ts C Q=>∃ (t:Addr) (ns:List Int),ts=[.ref t]∧Tp C t ns∧∀ (pts:List Pt) (C':CH),yN pts→Tp C' t ns→Ex t C C'→Q (.tup (pts.map Pt.pv)) C'
theorem Wc (T:Txt P w K mg a):FnOk P w K mg base CX0 26 a.yR a.nH U25 (spC K gHouse):=by
 have S:=sS;have tQ:=(nJ (base:=base) T).mono (show 1≤25 by decide);have iJ:=(nM (base:=base) T).mono (show 2≤25 by decide);have YF:=ok_part (base:=base) T
 refine Fun.okC T.nN sS (fun ts C R h => ?_) fun cdv A outer s H E hr=>⟨_,(vQ (dQ (i:=1) S.nd rfl (Or.inr rfl) (wQ iJ hr rfl T.nY T.k_l_names T.b_l_names lQ (qQ (cv 0) (qQ (rQ (r:=rIx K) yQ uQ (mZ (qQ jQ (qQ jQ (qQ jQ (qQ jQ (qQ jQ (qQ jQ (qQ jQ (qQ jQ zQ))))))))) (wQ tQ hr rfl T.wX T.k_l_draw T.b_l_draw lQ (qQ (cv 0) (qQ jQ zQ))) (fun _ _=>rfl)) zQ))))
  (vQ (dQ (i:=2) S.nd rfl (Or.inr rfl) (uY uZ nX (wQ tQ hr rfl T.wX T.k_l_draw T.b_l_draw lQ (qQ (cv 0) (qQ jQ zQ))) jQ (oQ _)))
  (mQ (jX (xX zX dZ rfl T.bZ rfl (qQ (xU rfl (show (["_law_k","_law_tape_here","_law_names_here","_law_keyed"]:List Str).Nodup by decide +kernel) (yJ (N:=U35) (sc:=kQ sK) rfl rfl rfl (by decide +kernel)) (cO rfl T.fY (qQ (mX zZ tZ rfl T.bV rfl (qQ (cv 1) zQ)) zQ)) (fun _ _ _ _ _=>vV) (fun _ _ _ _ _=>(wQ YF hr rfl T.Wo T.k_l_part T.b_l_part lQ (qQ (cv 1) (qQ (cv 2) (qQ (cv 0) (qQ (cv 3) zQ))))))) zQ)))))),?_⟩
 ·obtain ⟨t,ns,rfl,_⟩:=h; rfl
 rintro ts C R ⟨t,ns,rfl,hT,q⟩;refine cQ ?_;refine ⟨by show 8≤sizeLine; decide,fun p1 hp1 => ?_⟩;refine ⟨t,8,ns,rfl,hT.new hp1 _,by decide,by decide,fun v C1 v0 v1 T1 e1 => ?_⟩;have e01:Ex t C C1:=(Ex.new hp1 _).trans e1;refine fZ (e1 p1 _ (hT.ne hp1) xQ) (rW (f:=PV.int) (ss:=[1,2,2,3,3,4,2,6]) 0 v0 v1) ?_
 have hm:1≤([1,2,2,3,3,4,2,6]:List Int).getD v.toNat 0∧([1,2,2,3,3,4,2,6]:List Int).getD v.toNat 0≤6:=by
  have:v=0∨v=1∨v=2∨v=3∨v=4∨v=5∨v=6∨v=7:=by omega
  rcases this with rfl | rfl | rfl | rfl | rfl | rfl | rfl | rfl<;>decide
 generalize ([1,2,2,3,3,4,2,6]:List Int).getD v.toNat 0=m at hm ⊢;refine ⟨t,m,ns,rfl,T1,by omega,by omega,fun nl names C2 m2 n2 nt hnl nd T2 e2 => ?_⟩
 try dsimp only
 refine cQ ?_;refine ⟨t,2,ns,rfl,T2,by decide,by decide,fun z C3 z0 z1 T3 e3 => ?_⟩;refine iX (iZ _ _) ?_
 try dsimp only
 have e03:=(e01.trans e2).trans e3;have m3:=e3 _ _ nt m2;refine oM m3 ?_;rw [List.length_map];refine ⟨by omega,by omega,?_⟩;rw [Int.toNat_natCast];refine qB (fun zs acc C'=>Tp C' t ns∧Ex t C3 C'∧∃ pts:List Pt,acc=pts.map Pt.pv∧zs=((List.range names.length).drop pts.length).map (fun k:Nat=>PV.int (k:Nat))∧pts.length≤names.length∧zV pts=names.take pts.length∧∀ k x,pts[k]?=some x→K8 (names.drop (k+1)) (eV k) x) ?_ ?_ _ _ _ ⟨T3,Ex.refl,[],rfl,rfl,Nat.zero_le _,rfl,(fun k x h=>by simp at h)⟩
 ·rintro x r acc C4 ⟨T4,e4,pts,rfl,hz,hpl,hpn,hpo⟩ L hL
  obtain ⟨hj,rfl,rfl⟩:=wD hz;refine ⟨t,nl,ns,names,pts.length,_,rfl,T4,e4 _ _ nt m3,nt,by omega,hj,fun x C5 hx ok5 T5 e5=>hL _ _ ⟨?_,T5,e4.trans e5,pts++[x],by rw [List.map_append]; rfl,by rw [List.length_append,List.length_singleton],by rw [List.length_append,List.length_singleton]; omega,?_,fun k y hy => ?_⟩⟩
  ·rw [List.length_map]
   exact Nat.lt_of_lt_of_le (show pts.length < 7 by omega) (by decide)
  ·rw [List.length_append,List.length_singleton,List.take_add_one,← hpn,hx]
   unfold zV;rw [List.map_append]
   rfl
  ·rcases Nat.lt_trichotomy k pts.length with h | h | h
   ·rw [List.getElem?_append_left h] at hy
    exact hpo k y hy
   ·subst h
    rw [List.getElem?_append_right (Nat.le_refl _),Nat.sub_self] at hy;cases hy;exact ok5
   ·rw [List.getElem?_eq_none (by rw [List.length_append,List.length_singleton]; omega)] at hy
    cases hy
 ·rintro acc C4 ⟨T4,e4,pts,rfl,hz,hpl,hpn,hpo⟩ p hp
  have he:pts.length=names.length:=by
   rcases Nat.lt_or_ge pts.length names.length with h | h
   ·rw [List.drop_eq_getElem_cons (by rw [List.length_range]; exact h)] at hz
    cases hz
   ·omega
  refine qV xQ ?_;have hn:zV pts=names:=by rw [hpn,he,List.take_of_length_le (Nat.le_refl _)]
  exact q pts _ ⟨by omega,by omega,by rw [hn]; exact nd,fun k x hk=>by rw [hn]; exact hpo k x hk⟩ (T4.new hp _) ((e03.trans e4).trans (Ex.new hp _))
end
abbrev Rds:=List (List Key×PV)
abbrev Tns:=List (Key×PV)
abbrev qK (s n:Str):List Key:=[.inr s,.inr n]
def Bd (i:Int):Prop := -1000000000≤i∧i≤1000000000
def ABd (A:Rds):Prop:=∀ kv∈A,∃ i,kv.2=.int i∧Bd i
def TBd (τ:Tns):Prop:=∀ kv∈τ,∃ i,kv.2=.int i∧Bd i
def Yz (A:Rds) (s n:Str):Int:=match iV A (qK s n) with
 | some (.int i)=>i
 | _=>0
def Z3 (τ:Tns) (n:Str):Int:=match dJ τ (.inr n) with
 | some (.int i)=>i
 | _=>0
def HasT (τ:Tns) (ns:List Str):Prop:=∀ n∈ns,(dJ τ (.inr n)).isSome=true
def W9 (i:Int):Int:=if (if i < 1000000000 then i else 1000000000) > -1000000000 then (if i < 1000000000 then i else 1000000000) else -1000000000
def Rk.val (A:Rds) (τ:Tns):Rk→Int
 | .num i=>i
 | .turn n=>Z3 τ n
 | .ask s n=>Yz A s n
 | .bin w x y=>if w = "less" then (if x.val A τ < y.val A τ then 1 else 0) else if w = "times" then W9 (x.val A τ * y.val A τ) else W9 (x.val A τ+y.val A τ)
 | .pick x y z=>if x.val A τ=0 then z.val A τ else y.val A τ
def Rk.rds (A:Rds) (τ:Tns):Rk→Rds→Rds
 | .num _,R=>R
 | .turn _,R=>R
 | .ask s n,R=>putG R (qK s n) (.int (Yz A s n))
 | .bin _ x y,R=>y.rds A τ (x.rds A τ R)
 | .pick x y z,R=>if x.val A τ=0 then z.rds A τ (x.rds A τ R) else y.rds A τ (x.rds A τ R)
theorem cutI_bd (i:Int):Bd (W9 i):=by unfold W9 Bd; split<;>split<;>omega
theorem Vm {κ:Type} [DecidableEq κ] {A:List (κ×PV)}{k:κ}{v:PV}(h:iV A k=some v):∃ kv∈A,kv.2=v:=by
 unfold iV at h
 cases e:A.find? fun kv=>decide (kv.1=k) with
 | none=>rw [e] at h; cases h
 | some x=>rw [e] at h; cases h; exact ⟨x,List.mem_of_find?_eq_some e,rfl⟩
theorem QV {A:Tns}{k:Key}{v:PV}(h:dJ A k=some v):∃ kv∈A,kv.2=v:=by
 unfold dJ at h
 cases e:A.find? fun kv=>decide (kv.1=k) with
 | none=>rw [e] at h; cases h
 | some x=>rw [e] at h; cases h; exact ⟨x,List.mem_of_find?_eq_some e,rfl⟩
theorem ZV {A:Rds}(h:ABd A) (s n:Str):(iV A (qK s n)).getD (.int 0)=.int (Yz A s n)∧Bd (Yz A s n):=by
 unfold Yz
 cases e:iV A (qK s n) with
 | none=>exact ⟨rfl,by unfold Bd; decide⟩
 | some v =>
  obtain ⟨kv,hm,rfl⟩:=Vm e;obtain ⟨i,ei,bi⟩:=h kv hm;rw [ei];exact ⟨rfl,bi⟩
theorem Z2 {τ:Tns}(h:TBd τ) {n:Str}(hh:(dJ τ (.inr n)).isSome=true):dJ τ (.inr n)=some (.int (Z3 τ n))∧Bd (Z3 τ n):=by
 unfold Z3
 cases e:dJ τ (.inr n) with
 | none=>rw [e] at hh; cases hh
 | some v =>
  obtain ⟨kv,hm,rfl⟩:=QV e;obtain ⟨i,ei,bi⟩:=h kv hm;rw [ei];exact ⟨rfl,bi⟩
theorem kS {A:Rds}{τ:Tns}(hA:ABd A) (hT:TBd τ) {bs ts:List Str}(hh:HasT τ ts):∀ {d:Nat}{r:Rk},r.ok bs ts d→Bd (r.val A τ):=by
 intro d r
 induction r generalizing d with
 | num i=>intro h; unfold Rk.ok at h; exact h
 | turn n=>intro h; unfold Rk.ok at h; exact (Z2 hT (hh n h)).2
 | ask s n=>intro h; exact (ZV hA s n).2
 | bin w x y ihx ihy =>
  intro h
  cases d with
  | zero=>unfold Rk.ok at h; exact h.elim
  | succ d =>
   unfold Rk.val
   split
   ·split<;>(unfold Bd; decide)
   ·split<;>exact cutI_bd _
 | pick x y z ihx ihy ihz =>
  intro h
  cases d with
  | zero=>unfold Rk.ok at h; exact h.elim
  | succ d =>
   unfold Rk.ok at h;unfold Rk.val
   split
   ·exact ihz h.2.2
   ·exact ihy h.2.1
structure RdOk (bs:List Str) (R:Rds):Prop where
 nd:(R.map (·.1)).Nodup
 ks:∀ k∈R.map (·.1),∃ s n,k=qK s n∧JZ bs s n
 vs:ABd R
theorem J0 {κ:Type} [DecidableEq κ] (R:List (κ×PV)) (k:κ):(R.any fun kv=>decide (kv.1=k))=true↔k∈R.map (·.1):=by
 rw [List.any_eq_true,List.mem_map];exact ⟨fun ⟨x,hx,e⟩=>⟨x,hx,of_decide_eq_true e⟩,fun ⟨x,hx,e⟩=>⟨x,hx,decide_eq_true e⟩⟩
theorem rA {κ:Type} [DecidableEq κ] (R:List (κ×PV)) (k:κ) (v:PV):(putG R k v).map (·.1)=if k∈R.map (·.1) then R.map (·.1) else R.map (·.1)++[k]:=by
 unfold putG
 by_cases h:k∈R.map (·.1)
 ·rw [if_pos ((J0 R k).2 h),if_pos h,List.map_map]
  refine List.map_congr_left fun x _ => ?_;show (if x.1=k then (x.1,v) else x).1=x.1
  split<;>rfl
 ·rw [if_neg (fun z=>h ((J0 R k).1 z)),if_neg h,List.map_append]
  rfl
theorem Xc {κ:Type} [DecidableEq κ] {R:List (κ×PV)}{k:κ}{v:PV}{x:κ×PV}(h:x∈putG R k v):x.2=v∨x∈R:=by
 unfold putG at h
 split at h
 ·obtain ⟨y,hy,rfl⟩:=List.mem_map.1 h
  split
  ·exact .inl rfl
  ·exact .inr hy
 ·rcases List.mem_append.1 h with h | h
  ·exact .inr h
  ·cases List.mem_singleton.1 h; exact .inl rfl
theorem RdOk.put {bs:List Str}{R:Rds}(h:RdOk bs R) {s n:Str}(hq:JZ bs s n) {i:Int}(hi:Bd i):RdOk bs (putG R (qK s n) (.int i)):=by
 refine ⟨?_,?_,fun kv hkv => ?_⟩
 ·rw [rA]
  split
  ·exact h.nd
  ·next hn =>
   rw [List.nodup_append];refine ⟨h.nd,by simp,fun a ha b hb e => ?_⟩;cases List.mem_singleton.1 hb;exact hn (e▸ha)
 ·rw [rA]
  intro k hk
  split at hk
  ·exact h.ks k hk
  ·rcases List.mem_append.1 hk with hk | hk
   ·exact h.ks k hk
   ·cases List.mem_singleton.1 hk; exact ⟨s,n,rfl,hq⟩
 ·rcases Xc hkv with e | e
  ·exact ⟨i,e,hi⟩
  ·exact h.vs kv e
theorem Xm {α:Type} [DecidableEq α]:∀ (l m:List α),l.Nodup→(∀ x∈l,x∈m)→l.length≤m.length
 | [],_,_,_=>Nat.zero_le _
 | x::l,m,hd,hs=>by
  have hx:=hs x List.mem_cons_self;rw [List.nodup_cons] at hd
  have ih:=Xm l (m.erase x) hd.2 fun y hy=>by
   have ne:y≠x:=fun e=>hd.1 (e▸hy);exact (List.mem_erase_of_ne ne).2 (hs y (List.mem_cons_of_mem _ hy))
  rw [List.length_erase_of_mem hx] at ih;have:0 < m.length:=List.length_pos_of_mem hx;rw [List.length_cons];omega
def oP (bs:List Str):List (List Key):=(["a","ab","b"]:List Str).map (qK "take")++((["a","ab","b"]:List Str).map (qK "down")++bs.map (qK "box"))
theorem ask_in {bs:List Str}{s n:Str}(h:JZ bs s n):qK s n∈oP bs:=by
 unfold oP
 rcases h with ⟨rfl | rfl,h⟩ | ⟨rfl,h⟩
 ·exact List.mem_append_left _ (List.mem_map.2 ⟨n,h,rfl⟩)
 ·exact List.mem_append_right _ (List.mem_append_left _ (List.mem_map.2 ⟨n,h,rfl⟩))
 ·exact List.mem_append_right _ (List.mem_append_right _ (List.mem_map.2 ⟨n,h,rfl⟩))
theorem RdOk.len {bs:List Str}{R:Rds}(h:RdOk bs R):R.length≤6+bs.length:=by
 have:=Xm (R.map (·.1)) (oP bs) h.nd fun k hk=>by
  obtain ⟨s,n,rfl,hq⟩:=h.ks k hk;exact ask_in hq
 rw [List.length_map] at this
 have e:(oP bs).length=6+bs.length:=by
  unfold oP;rw [List.length_append,List.length_append,List.length_map,List.length_map,List.length_map];show 3+(3+_)=_;omega
 omega
theorem vY {A:Rds}{τ:Tns}(hA:ABd A) {bs ts:List Str}:∀ {d:Nat}{r:Rk}{R:Rds},r.ok bs ts d→RdOk bs R→RdOk bs (r.rds A τ R):=by
 intro d r
 induction r generalizing d with
 | num i=>intro R _ h; exact h
 | turn n=>intro R _ h; exact h
 | ask s n=>intro R h hR; unfold Rk.ok at h; exact hR.put h (ZV hA s n).2
 | bin w x y ihx ihy =>
  intro R h hR
  cases d with
  | zero=>unfold Rk.ok at h; exact h.elim
  | succ d =>
   unfold Rk.ok at h;exact ihy h.2.2 (ihx h.2.1 hR)
 | pick x y z ihx ihy ihz =>
  intro R h hR
  cases d with
  | zero=>unfold Rk.ok at h; exact h.elim
  | succ d =>
   unfold Rk.ok at h;unfold Rk.rds
   split
   ·exact ihz h.2.2 (ihx h.1 hR)
   ·exact ihy h.2.1 (ihx h.1 hR)
structure Env (C:CH) (aa tt rr:Addr) (A:Rds) (τ:Tns) (R:Rds):Prop where
 ha:C aa=some (.dT A)
 ht:C tt=some (.dK τ)
 hr:C rr=some (.dT R)
 ne:aa≠rr
theorem Env.nt {C:CH}{aa tt rr:Addr}{A:Rds}{τ:Tns}{R:Rds}(h:Env C aa tt rr A τ R):tt≠rr:=fun z=>by have:=h.ht; rw [z,h.hr] at this; cases this
theorem Env.ex {C C':CH}{aa tt rr:Addr}{A:Rds}{τ:Tns}{R R':Rds}(h:Env C aa tt rr A τ R) (e:ExS [rr] C C') (hr:C' rr=some (.dT R')):Env C' aa tt rr A τ R' :=
 ⟨e _ _ (fun z=>h.ne (List.mem_singleton.1 z)) h.ha,e _ _ (fun z=>h.nt (List.mem_singleton.1 z)) h.ht,hr,h.ne⟩
theorem mV {κ:Type} [DecidableEq κ] (x:κ×PV) (l:List (κ×PV)) (k:κ):iV (x::l) k=if x.1=k then some x.2 else iV l k:=by
 unfold iV;rw [List.find?_cons]
 by_cases e:x.1=k
 ·rw [decide_eq_true e,if_pos e]; rfl
 ·rw [decide_eq_false e,if_neg e]
theorem Vk {κ:Type} [DecidableEq κ] (R:List (κ×PV)) (k:κ) (v:PV) (k':κ):iV (putG R k v) k'=if k'=k then some v else iV R k':=by
 unfold putG
 by_cases b:(R.any fun kv=>decide (kv.1=k))=true
 ·rw [if_pos b]
  induction R with
  | nil=>cases b
  | cons x l ih =>
   rw [List.map_cons,mV,mV];have e1:(if x.1=k then (x.1,v) else x).1=x.1:=by split<;>rfl
   rw [e1]
   by_cases e:x.1=k'
   ·rw [if_pos e,if_pos e]
    by_cases e2:k'=k
    ·rw [if_pos e2,if_pos (e.trans e2)]
    ·rw [if_neg e2,if_neg (fun z=>e2 (e.symm.trans z))]
   ·rw [if_neg e,if_neg e]
    by_cases h3:(l.any fun kv=>decide (kv.1=k))=true
    ·exact ih h3
    ·have h4:∀ y∈l,¬ y.1=k:=fun y hy z=>h3 (List.any_eq_true.2 ⟨y,hy,decide_eq_true z⟩)
     have:(l.map fun kv=>if kv.1=k then (kv.1,v) else kv)=l:=(List.map_congr_left fun y hy=>if_neg (h4 y hy)).trans (List.map_id l);rw [this]
     have hx:x.1=k:=by
      rw [List.any_cons,Bool.or_eq_true] at b
      rcases b with b | b
      ·exact of_decide_eq_true b
      ·exact absurd b h3
     rw [if_neg (fun z=>e (hx.trans z.symm))]
 ·rw [if_neg b]
  induction R with
  | nil =>
   rw [List.nil_append,mV]
   by_cases e:k=k'
   ·rw [if_pos e,if_pos e.symm]
   ·rw [if_neg e,if_neg (fun z=>e z.symm)]
  | cons x l ih =>
   rw [List.any_cons] at b;have e:¬ x.1=k:=fun e=>b (by rw [decide_eq_true e]; rfl);rw [decide_eq_false e,Bool.false_or] at b;rw [List.cons_append,mV,mV]
   by_cases e2:x.1=k'
   ·rw [if_pos e2,if_pos e2,if_neg (fun z=>e (e2.trans z))]
   ·rw [if_neg e2,if_neg e2]; exact ih b
structure vN (A:Rds) (τ:Tns) (bs ns:List Str):Prop where
 a:ABd A
 t:TBd τ
 h:HasT τ ns
 b:bs.length≤4
section
variable {P:Program}{w:World}{K:PySem.W.Frag}{mg:Str→Option Value}{base:Heap}{a:Adr}
def gRk (d:Nat):GC:=fun ts C Q=>∃ (r:Rk) (aa tt rr:Addr) (A:Rds) (τ:Tns) (R:Rds) (bs ns:List Str),ts=[r.pv,.ref aa,.ref tt,.ref rr]∧r.ok bs ns d∧Env C aa tt rr A τ R∧vN A τ bs ns∧RdOk bs R ∧
 ∀ C',C' rr=some (.dT (r.rds A τ R))→ExS [rr] C C'→Q (.int (r.val A τ)) C'
theorem eG (T:Txt P w K mg a) (d:Nat):FnOk P w K mg base CX0 (d+1) a.gV a.aK U5 (spC K (gRk d)):=by
 have main:∀ n,(∀ d',n=d'+1→FnOk P w K mg base CX0 (d'+1) a.gV a.aK U5 (spC K (gRk d')))→FnOk P w K mg base CX0 (n+1) a.gV a.aK U5 (spC K (gRk n)):=by
  intro n ih;have S:=kD
  have qZ:FnOk P w K mg base CX0 n a.gV a.aK U5 (spC K (fun ts C Q=>∃ d',n=d'+1∧gRk d' ts C Q)):=by
   cases n with
   | zero=>exact uW fun ts C Q ⟨d',e,_⟩=>by omega
   | succ d' =>
    have:=ih d' rfl
    have e:(fun ts C Q=>∃ d'',d'+1=d''+1∧gRk d'' ts C Q)=gRk d':=by
     funext ts C Q
     refine propext ⟨fun ⟨d'',e,h⟩ => ?_,fun h=>⟨d',rfl,h⟩⟩;cases Nat.succ.inj e;exact h
    rw [e];exact this
  refine Fun.okC T.vM kD (fun ts C R h => ?_) fun cdv A outer s H E hr=>⟨_,(vQ (dQ (i:=4) S.nd rfl (Or.inl rfl) (rQ (r:=rIx K) yQ uQ (cv 0) jQ (fun _ _=>rfl)))
  (vQ (sX (iQ uZ nX (cv 4) gQ (oQ _)) (mQ (jX (rQ (r:=rIx K) yQ uQ (cv 0) jQ (fun _ _=>rfl)))) dX)
  (vQ (sX (iQ uZ nX (cv 4) gQ (oQ _)) (mQ (jX (nZ (vZ hr) (cv 2) (rQ (r:=rIx K) yQ uQ (cv 0) jQ (fun _ _=>rfl)) (fun _ _=>rfl)))) dX)
  (vQ (sX (iQ Kj cop_inS (cv 4) (sQ (qQ gQ (qQ gQ (qQ gQ zQ)))) rfl) (vQ (JD (vZ hr) (cv 3) (sQ (qQ (cv 4) (qQ (rQ (r:=rIx K) yQ uQ (cv 0) jQ (fun _ _=>rfl)) zQ))) (Yh (vZ hr) (cv 1) (sQ (qQ (cv 4) (qQ (rQ (r:=rIx K) yQ uQ (cv 0) jQ (fun _ _=>rfl)) zQ))) jQ))
  (mQ (jX (ce_tix (vZ hr) (cv 3) (sQ (qQ (cv 4) (qQ (rQ (r:=rIx K) yQ uQ (cv 0) jQ (fun _ _=>rfl)) zQ))) (fun _ _=>rfl))))) dX)
  (vQ (dQ (i:=5) S.nd rfl (Or.inl rfl) (wQ qZ hr rfl T.hZ T.k_l_reckoned T.b_l_reckoned lQ (qQ (rQ (r:=rIx K) yQ uQ (cv 0) jQ (fun _ _=>rfl)) (qQ (cv 1) (qQ (cv 2) (qQ (cv 3) zQ))))))
  (vQ (sX (iQ uZ nX (cv 4) gQ (oQ _)) (mQ (jX (wQ qZ hr rfl T.hZ T.k_l_reckoned T.b_l_reckoned lQ (qQ (rQ (r:=rIx K) yQ uQ (cv 0) (uX hX rX jQ (xX aV kU rfl T.zL rfl (qQ (uY uZ nX (cv 5) jQ (oQ _)) zQ))) (fun _ _=>rfl)) (qQ (cv 1) (qQ (cv 2) (qQ (cv 3) zQ))))))) dX)
  (vQ (dQ (i:=6) S.nd rfl (Or.inl rfl) (wQ qZ hr rfl T.hZ T.k_l_reckoned T.b_l_reckoned lQ (qQ (rQ (r:=rIx K) yQ uQ (cv 0) jQ (fun _ _=>rfl)) (qQ (cv 1) (qQ (cv 2) (qQ (cv 3) zQ))))))
  (vQ (sX (iQ uZ nX (cv 4) gQ (oQ _)) (mQ (jX (xX aV kU rfl T.zL rfl (qQ (uY rL iB (cv 5) (cv 6) (oQ _)) zQ)))) dX)
  (vQ (dQ (i:=7) S.nd rfl (Or.inl rfl) (uX hX rX (cv 5) (cv 6)))
  (vQ (sX (iQ uZ nX (cv 4) gQ (oQ _)) (mQ (dQ (i:=7) S.nd rfl (Or.inl rfl) (uX kH eF (cv 5) (cv 6)))) dX)
  (mQ (jX (mX (fI rfl) JP rfl T.z_max rfl (qQ (uX xV fJ jQ (uX vT wP jQ jQ)) (qQ (mX (mI rfl) JN rfl T.z_min rfl (qQ (uX vT wP jQ jQ) (qQ (cv 7) zQ))) zQ))))))))))))))),?_⟩
  ·obtain ⟨r,aa,tt,rr,A,τ,R,bs,ns,rfl,_⟩:=h; rfl
  rintro ts C Q ⟨r,aa,tt,rr,A,τ,R,bs,ns,rfl,ok,hE,hS,hR,q⟩;refine cQ ?_
  cases r with
  | num i =>
   refine wJ gX ?_
   try dsimp only
   refine iX (qX _ _) ?_;refine cW (by decide) ?_;refine wJ (v:=.int i) rfl ?_;exact q C hE.hr ExS.refl
  | turn m =>
   unfold Rk.ok at ok;refine wJ gX ?_
   try dsimp only
   refine iX (qX _ _) ?_;refine eZ (by decide) ?_;refine jZ ?_
   try dsimp only
   refine iX (qX _ _) ?_;refine cW (by decide) ?_;refine wJ (v:=.str m) rfl ?_;refine eJ hE.ht rfl (Z2 hS.t (hS.h m ok)).1 ?_;exact q C hE.hr ExS.refl
  | ask s m =>
   unfold Rk.ok at ok;refine wJ gX ?_
   try dsimp only
   refine iX (qX _ _) ?_
   have hs:s = "take" ∨ s = "down" ∨ s = "box" := by
    rcases ok with ⟨h | h,_⟩ | ⟨h,_⟩
    ·exact .inl h
    ·exact .inr (.inl h)
    ·exact .inr (.inr h)
   have hn1:decide (s = "num")=false:=by rcases hs with rfl | rfl | rfl<;>decide
   have hn2:decide (s = "turn")=false:=by rcases hs with rfl | rfl | rfl<;>decide
   refine eZ (by rw [hn1]; rfl) ?_;refine jZ ?_
   try dsimp only
   refine iX (qX _ _) ?_;refine eZ (by rw [hn2]; rfl) ?_;refine jZ ?_
   try dsimp only
   refine ⟨by show 3≤sizeLine; decide,?_⟩;refine WT (ts:=[.str "take",.str "box",.str "down"]) (w:=.str s) (vs:=[.str "take",.str "box",.str "down"]) rfl rfl rfl ?_;refine cW (by rcases hs with rfl | rfl | rfl<;>rfl) ?_;refine oZ ?_;refine ⟨isTd_s hE.ha,?_⟩;refine wJ (v:=.str m) rfl ?_;refine ⟨by show 2≤sizeLine; decide,?_⟩;refine tget_s (k:=qK s m) hE.ha rfl (ZV hS.a s m).1 ?_;refine wJ (v:=.str m) rfl ?_
   refine ⟨by show 2≤sizeLine; decide,?_⟩;have hb:=hS.b;refine Vp (k:=qK s m) hE.hr rfl (by have:=hR.len; omega) ?_
   try dsimp only
   refine wJ (v:=.str m) rfl ?_;refine ⟨by show 2≤sizeLine; decide,?_⟩;refine tix_s (k:=qK s m) xQ rfl (by rw [Vk,if_pos rfl]) ?_;exact q _ xQ (ExS.refl.at (by simp) _)
  | bin w x y =>
   cases n with
   | zero=>unfold Rk.ok at ok; exact ok.elim
   | succ d' =>
   unfold Rk.ok at ok;obtain ⟨hw,ox,oy⟩:=ok;have hn1:decide (w = "num")=false:=by rcases hw with rfl | rfl | rfl<;>decide
   have hn2:decide (w = "turn")=false:=by rcases hw with rfl | rfl | rfl<;>decide
   refine wJ gX ?_
   try dsimp only
   refine iX (qX _ _) ?_;refine eZ (by rw [hn1]; rfl) ?_;refine jZ ?_
   try dsimp only
   refine iX (qX _ _) ?_;refine eZ (by rw [hn2]; rfl) ?_;refine jZ ?_
   try dsimp only
   refine ⟨by show 3≤sizeLine; decide,?_⟩;refine WT (ts:=[.str "take",.str "box",.str "down"]) (w:=.str w) (vs:=[.str "take",.str "box",.str "down"]) rfl rfl rfl ?_;refine eZ (by rcases hw with rfl | rfl | rfl<;>rfl) ?_;refine jZ ?_
   try dsimp only
   refine cQ ?_;refine wJ (v:=x.pv) rfl ?_;refine ⟨d',rfl,x,aa,tt,rr,A,τ,R,bs,ns,rfl,ox,hE,hS,hR,fun C1 m1 e1 => ?_⟩;have E1:=hE.ex e1 m1;have R1:=vY (τ:=τ) hS.a ox hR
   try dsimp only
   refine iX (qX _ _) ?_;refine eZ (by rcases hw with rfl | rfl | rfl<;>decide) ?_;refine jZ ?_
   try dsimp only
   refine cQ ?_;refine wJ (v:=y.pv) rfl ?_;refine ⟨d',rfl,y,aa,tt,rr,A,τ,_,bs,ns,rfl,oy,E1,hS,R1,fun C2 m2 e2 => ?_⟩
   try dsimp only
   have bx:=kS hS.a hS.t hS.h ox;have by':=kS hS.a hS.t hS.h oy
   have fin:∀ Q':K1,Q'=Q→Q' (.int (Rk.val A τ (.bin w x y))) C2:=fun Q' e=>by subst e; exact q C2 m2 (e1.trans e2)
   unfold Rk.val at fin
   have cut:∀ (i:Int) (Q':K1),Q' (.int (W9 i)) C2→Yu [.int 1000000000,.int i] C2 fun v C3=>Yv [.int (0 - 1000000000),v] C3 Q':=by
    intro i Q' h;refine min_s ?_;refine max_s ?_;exact h
   refine iX (qX _ _) ?_
   rcases hw with rfl | rfl | rfl
   ·refine eZ (by decide) ?_
    refine jZ ?_
    try dsimp only
    refine cQ ?_;refine dW ?_
    try dsimp only
    refine iX (qX _ _) ?_;refine eZ (by decide) ?_;refine jZ ?_
    try dsimp only
    refine ⟨⟨by decide,by decide,by decide⟩,?_⟩;refine i_i ?_;refine ⟨⟨by decide,by decide,by decide⟩,?_⟩;exact cut _ _ (fin _ rfl)
   ·refine eZ (by decide) ?_
    refine jZ ?_
    try dsimp only
    refine cQ ?_;refine dW ?_
    try dsimp only
    refine iX (qX _ _) ?_;refine cW (by decide) ?_;unfold Bd at bx by'
    refine ⟨.inr ⟨by omega,by omega⟩,?_⟩
    try dsimp only
    refine ⟨⟨by decide,by decide,by decide⟩,?_⟩;refine i_i ?_;refine ⟨⟨by decide,by decide,by decide⟩,?_⟩;exact cut _ _ (fin _ rfl)
   ·refine cW (by decide) ?_
    refine i_i ?_;refine yC ?_;have:=fin _ rfl;rw [if_pos rfl] at this
    have e:(if decide (x.val A τ < y.val A τ)=true then (1:Int) else 0)=if x.val A τ < y.val A τ then 1 else 0:=by
     by_cases h:x.val A τ < y.val A τ
     ·rw [decide_eq_true h,if_pos rfl,if_pos h]
     ·rw [decide_eq_false h,if_neg (by decide),if_neg h]
    rw [e];exact this
  | pick x y z =>
   cases n with
   | zero=>unfold Rk.ok at ok; exact ok.elim
   | succ d' =>
   unfold Rk.ok at ok;obtain ⟨ox,oy,oz⟩:=ok;refine wJ gX ?_
   try dsimp only
   refine iX (qX _ _) ?_;refine eZ (by decide) ?_;refine jZ ?_
   try dsimp only
   refine iX (qX _ _) ?_;refine eZ (by decide) ?_;refine jZ ?_
   try dsimp only
   refine ⟨by show 3≤sizeLine; decide,?_⟩;refine WT (ts:=[.str "take",.str "box",.str "down"]) (w:=.str "pick") (vs:=[.str "take",.str "box",.str "down"]) rfl rfl rfl ?_;refine eZ rfl ?_;refine jZ ?_
   try dsimp only
   refine cQ ?_;refine wJ (v:=x.pv) rfl ?_;refine ⟨d',rfl,x,aa,tt,rr,A,τ,R,bs,ns,rfl,ox,hE,hS,hR,fun C1 m1 e1 => ?_⟩;have E1:=hE.ex e1 m1;have R1:=vY (τ:=τ) hS.a ox hR
   try dsimp only
   refine iX (qX _ _) ?_;refine cW (by decide) ?_;refine iX (iZ _ _) ?_;refine yC ?_;refine dW ?_
   by_cases h0:x.val A τ=0
   ·refine wJ (v:=z.pv) (by rw [h0]; rfl) ?_
    refine ⟨d',rfl,z,aa,tt,rr,A,τ,_,bs,ns,rfl,oz,E1,hS,R1,fun C2 m2 e2 => ?_⟩;have:=q C2 (by unfold Rk.rds; rw [if_pos h0]; exact m2) (e1.trans e2);unfold Rk.val at this;rw [if_pos h0] at this;exact this
   ·refine wJ (v:=y.pv) (by rw [decide_eq_false h0]; rfl) ?_
    refine ⟨d',rfl,y,aa,tt,rr,A,τ,_,bs,ns,rfl,oy,E1,hS,R1,fun C2 m2 e2 => ?_⟩;have:=q C2 (by unfold Rk.rds; rw [if_neg h0]; exact m2) (e1.trans e2);unfold Rk.val at this;rw [if_neg h0] at this;exact this
 induction d with
 | zero=>exact main 0 fun d' e=>by omega
 | succ d ih=>exact main (d+1) fun d' e=>by cases Nat.succ.inj e; exact ih
end
structure HdV where
 ev:Str
 rank:Int
 last:Bool
 ch:List (Str×Str×Int)
inductive Wt where
 | plain (sp:List Key) (tag:Str) (sets:List (Str×Int)) (hands:List HdV) (row:List Wt)
 | part (sp:List Key) (name:Str) (gives:List (Str×Int))
 | give (sp:List Key) (name:Str) (num:Int) (row:List Wt)
def XU (c:Str×Str×Int):PV:=.tup [.str c.1,.str c.2.1,.int c.2.2]
def HdV.pv (h:HdV):PV:=.tup [.str h.ev,.int h.rank,.bl h.last,.tup (h.ch.map XU)]
mutual
def Wt.pv:Wt→PV
 | .plain sp tag s h r=>.tup [.str "plain",zK sp,.str tag,.tup (s.map kX),.tup (h.map HdV.pv),.tup (Wt.pvs r)]
 | .part sp n g=>.tup [.str "part",zK sp,.str n,.tup (g.map kX)]
 | .give sp n i r=>.tup [.str "give",zK sp,.str n,.int i,.tup (Wt.pvs r)]
def Wt.pvs:List Wt→List PV
 | []=>[]
 | w::ws=>w.pv::Wt.pvs ws
end
theorem Wt.pvs_map (ls:List Wt):Wt.pvs ls=ls.map Wt.pv:=by
 induction ls with
 | nil=>rfl
 | cons l ls ih=>rw [List.map_cons,← ih]; rfl
theorem Wt.pvs_app (xs ys:List Wt):Wt.pvs (xs++ys)=Wt.pvs xs++Wt.pvs ys:=by
 rw [Wt.pvs_map,Wt.pvs_map,Wt.pvs_map,List.map_append]
theorem Wt.pvs_len (xs:List Wt):(Wt.pvs xs).length=xs.length:=by rw [Wt.pvs_map,List.length_map]
section
variable (A:Rds) (τ:Tns)
def sV (ps:List (Str×Rk)):List (Str×Int):=ps.map fun c=>(c.1,c.2.val A τ)
def fW (ps:List (Str×Rk)) (R:Rds):Rds:=ps.foldl (fun R c=>c.2.rds A τ R) R
def KZ (cs:List (Str×Str×Rk)):List (Str×Str×Int):=cs.map fun c=>(c.1,c.2.1,c.2.2.val A τ)
def chsR (cs:List (Str×Str×Rk)) (R:Rds):Rds:=cs.foldl (fun R c=>c.2.2.rds A τ R) R
def handV (h:Hd):HdV:=⟨h.ev,h.rank,h.last,KZ A τ h.ch⟩
def gG (hs:List Hd):List HdV:=hs.map (handV A τ)
def gW (hs:List Hd) (R:Rds):Rds:=hs.foldl (fun R h=>chsR A τ h.ch R) R
def tT:Option Rk→Key
 | none=>.inl none
 | some r=>.inl (some (r.val A τ))
def mM:Option Rk→Rds→Rds
 | none,R=>R
 | some r,R=>r.rds A τ R
end
def kF (N:Tns) (k:Key):Int:=match dJ N k with
 | some (.int i)=>i
 | _=>0
def eC (i:Int):Nat:=(if i < 8 then i else 8).toNat
theorem lP (i:Int):eC i≤8:=by unfold eC; split<;>omega
abbrev DSt:=List Wt×Tns×Rds
def vB (N:Tns) (k:Key):List Key:=[k,.inl (some (kF N k))]
def gY (N:Tns) (k:Key):Tns:=gJ N k (.int (kF N k+1))
mutual
def sZ (A:Rds):Ln→Tns→DSt→DSt
 | .when r l1 l2,τ,st=>if r.val A τ=0 then bX A l2 τ (st.1,st.2.1,r.rds A τ st.2.2) else bX A l1 τ (st.1,st.2.1,r.rds A τ st.2.2)
 | .each n r ls,τ,st=>(List.range (eC (r.val A τ))).foldl (fun st k=>bX A ls (gJ τ (.inr n) (.int (k:Nat))) st) (st.1,st.2.1,r.rds A τ st.2.2)
 | .part k n g,τ,st=>(st.1++[.part (vB st.2.1 (tT A τ k)) n (lL (sV A τ g))],gY st.2.1 (tT A τ k),fW A τ g (mM A τ k st.2.2))
 | .give k n r ls,τ,st =>
  let d:=bX A ls τ ([],[],r.rds A τ (mM A τ k st.2.2))
  (st.1++[.give (vB st.2.1 (tT A τ k)) n (r.val A τ) d.1],gY st.2.1 (tT A τ k),d.2.2)
 | .plain k tag s hs ls,τ,st =>
  let d:=bX A ls τ ([],[],fW A τ s (gW A τ hs (mM A τ k st.2.2)))
  (st.1++[.plain (vB st.2.1 (tT A τ k)) tag (lL (sV A τ s)) (gG A τ hs) d.1],gY st.2.1 (tT A τ k),d.2.2)
def bX (A:Rds):List Ln→Tns→DSt→DSt
 | [],_,st=>st
 | l::ls,τ,st=>bX A ls τ (sZ A l τ st)
end
def mD (A:Rds) (τ:Tns) (sp:List Key):Ln→Rds→Wt×Rds
 | .part _ n g,R=>(.part sp n (lL (sV A τ g)),fW A τ g R)
 | .give _ n r ls,R=>(.give sp n (r.val A τ) (bX A ls τ ([],[],r.rds A τ R)).1,(bX A ls τ ([],[],r.rds A τ R)).2.2)
 | .plain _ tag s hs ls,R=>(.plain sp tag (lL (sV A τ s)) (gG A τ hs) (bX A ls τ ([],[],fW A τ s (gW A τ hs R))).1,(bX A ls τ ([],[],fW A τ s (gW A τ hs R))).2.2)
 | _,R=>(.part sp "" [],R)
theorem sJ (A:Rds) (τ:Tns) (st:DSt):bX A [] τ st=st:=by unfold bX; rfl
theorem vJ (A:Rds) (l:Ln) (ls:List Ln) (τ:Tns) (st:DSt):bX A (l::ls) τ st=bX A ls τ (sZ A l τ st):=by rw [bX]
theorem ZE (A:Rds) (xs ys:List Ln) (τ:Tns) (st:DSt):bX A (xs++ys) τ st=bX A ys τ (bX A xs τ st):=by
 induction xs generalizing st with
 | nil=>rw [sJ]; rfl
 | cons x xs ih=>rw [List.cons_append,vJ,vJ,ih]
def WO:Ln→Bool
 | .when _ _ _=>false
 | .each _ _ _=>false
 | _=>true
def oU:Ln→Option Rk
 | .plain k _ _ _ _=>k
 | .part k _ _=>k
 | .give k _ _ _=>k
 | _=>none
theorem ZD (A:Rds) (τ:Tns) (l:Ln) (F:List Wt) (N:Tns) (R:Rds) (h:WO l=true) :
  sZ A l τ (F,N,R)=(F++[(mD A τ (vB N (tT A τ (oU l))) l (mM A τ (oU l) R)).1],gY N (tT A τ (oU l)),(mD A τ (vB N (tT A τ (oU l))) l (mM A τ (oU l) R)).2):=by
 cases l with
 | plain k tag s hs ls=>rw [sZ]; rfl
 | part k n g=>rw [sZ]; rfl
 | give k n r ls=>rw [sZ]; rfl
 | when r l1 l2=>cases h
 | each n r ls=>cases h
theorem rB {α:Type}{f:α→Nat→α}{m:α→Nat}{c:Nat}(h:∀ x k,m (f x k)≤m x+c):∀ (l:List Nat) (x:α),m (l.foldl f x)≤m x+l.length * c
 | [],x=>by show m x≤m x+0 * c; omega
 | k::l,x=>by
  have h1:=rB h l (f x k);have h2:=h x k;rw [List.foldl_cons,List.length_cons,Nat.add_mul,Nat.one_mul];omega
mutual
theorem Wx (A:Rds):∀ (l:Ln) (τ:Tns) (st:DSt),(sZ A l τ st).1.length≤st.1.length+l.tw∧(sZ A l τ st).2.1.length≤st.2.1.length+l.tw
 | .when r l1 l2,τ,st=>by
  rw [sZ];have h1:=mK A l1 τ (st.1,st.2.1,r.rds A τ st.2.2);have h2:=mK A l2 τ (st.1,st.2.1,r.rds A τ st.2.2);show _≤_+(Ln.tws l1+Ln.tws l2)∧_≤_+(Ln.tws l1+Ln.tws l2)
  split
  ·exact ⟨Nat.le_trans h2.1 (by show st.1.length+_≤_; omega),Nat.le_trans h2.2 (by show st.2.1.length+_≤_; omega)⟩
  ·exact ⟨Nat.le_trans h1.1 (by show st.1.length+_≤_; omega),Nat.le_trans h1.2 (by show st.2.1.length+_≤_; omega)⟩
 | .each n r ls,τ,st=>by
  rw [sZ];have c:=lP (r.val A τ);have f1:=rB (f:=fun st k=>bX A ls (gJ τ (.inr n) (.int (k:Nat))) st) (m:=fun st=>st.1.length) (c:=Ln.tws ls) (fun x k=>(mK A ls _ x).1) (List.range (eC (r.val A τ))) (st.1,st.2.1,r.rds A τ st.2.2);have f2:=rB (f:=fun st k=>bX A ls (gJ τ (.inr n) (.int (k:Nat))) st) (m:=fun st=>st.2.1.length) (c:=Ln.tws ls) (fun x k=>(mK A ls _ x).2) (List.range (eC (r.val A τ))) (st.1,st.2.1,r.rds A τ st.2.2)
  rw [List.length_range] at f1 f2;have hm:eC (r.val A τ) * Ln.tws ls≤8 * Ln.tws ls:=Nat.mul_le_mul_right _ c;show _≤st.1.length+8 * Ln.tws ls∧_≤st.2.1.length+8 * Ln.tws ls;exact ⟨Nat.le_trans f1 (by show st.1.length+_≤_; omega),Nat.le_trans f2 (by show st.2.1.length+_≤_; omega)⟩
 | .part k n g,τ,st=>by
  rw [sZ];refine ⟨by show (st.1++[_]).length≤st.1.length+1; rw [List.length_append,List.length_singleton]; exact Nat.le_refl _,fL _ _ _⟩
 | .give k n r ls,τ,st=>by
  rw [sZ];refine ⟨by show (st.1++[_]).length≤st.1.length+(1+_); rw [List.length_append,List.length_singleton]; omega,Nat.le_trans (fL _ _ _) (by show _≤_+(1+_); omega)⟩
 | .plain k tag s hs ls,τ,st=>by
  rw [sZ];refine ⟨by show (st.1++[_]).length≤st.1.length+(1+_); rw [List.length_append,List.length_singleton]; omega,Nat.le_trans (fL _ _ _) (by show _≤_+(1+_); omega)⟩
theorem mK (A:Rds):∀ (ls:List Ln) (τ:Tns) (st:DSt),(bX A ls τ st).1.length≤st.1.length+Ln.tws ls∧(bX A ls τ st).2.1.length≤st.2.1.length+Ln.tws ls
 | [],τ,st=>by rw [sJ]; exact ⟨Nat.le_add_right _ _,Nat.le_add_right _ _⟩
 | l::ls,τ,st=>by
  rw [vJ];have h1:=Wx A l τ st;have h2:=mK A ls τ (sZ A l τ st);show _≤_+(l.tw+Ln.tws ls)∧_≤_+(l.tw+Ln.tws ls);omega
end
theorem xG {A:Rds}{τ:Tns}(hA:ABd A) {bs ns:List Str}{d:Nat}:∀ {ps:List (Str×Rk)}{R:Rds},oE bs ns d ps→RdOk bs R→RdOk bs (fW A τ ps R)
 | [],R,_,h=>h
 | c::ps,R,hp,h=>xG (ps:=ps) hA (fun x hx=>hp x (List.mem_cons_of_mem _ hx)) (vY hA (hp c List.mem_cons_self) h)
theorem Qz {A:Rds}{τ:Tns}(hA:ABd A) {bs ns:List Str}{d:Nat}:∀ {cs:List (Str×Str×Rk)}{R:Rds},(∀ c∈cs,c.2.2.ok bs ns d)→RdOk bs R→RdOk bs (chsR A τ cs R)
 | [],R,_,h=>h
 | c::ps,R,hp,h=>Qz (cs:=ps) hA (fun x hx=>hp x (List.mem_cons_of_mem _ hx)) (vY hA (hp c List.mem_cons_self) h)
theorem nF {A:Rds}{τ:Tns}(hA:ABd A) {bs ns:List Str}:∀ {hs:List Hd}{R:Rds},(∀ h∈hs,h.ok bs ns)→RdOk bs R→RdOk bs (gW A τ hs R)
 | [],R,_,h=>h
 | c::ps,R,hp,h=>nF (hs:=ps) hA (fun x hx=>hp x (List.mem_cons_of_mem _ hx)) (Qz hA (hp c List.mem_cons_self).2 h)
theorem fR {A:Rds}{τ:Tns}(hA:ABd A) {bs ns:List Str}{k:Option Rk}{R:Rds}(h:XA bs ns k) (hR:RdOk bs R):RdOk bs (mM A τ k R):=by
 cases k with
 | none=>exact hR
 | some r=>exact vY hA h hR
theorem aO {A:Rds}{bs rs:List Str}{d:Nat}(h1:∀ l ns τ st,LnOk bs rs d ns l→RdOk bs st.2.2→RdOk bs (sZ A l τ st).2.2):∀ (ls:List Ln) (ns:List Str) (τ:Tns) (st:DSt),(∀ x∈ls,LnOk bs rs d ns x)→RdOk bs st.2.2→RdOk bs (bX A ls τ st).2.2
 | [],ns,τ,st,_,h=>by rw [sJ]; exact h
 | l::ls,ns,τ,st,hl,h=>by
  rw [vJ];exact aO h1 ls ns τ _ (fun x hx=>hl x (List.mem_cons_of_mem _ hx)) (h1 l ns τ st (hl l List.mem_cons_self) h)
theorem iM {α β:Type}{f:α→β→α}{P:α→Prop}(h:∀ x k,P x→P (f x k)):∀ (l:List β) (x:α),P x→P (l.foldl f x)
 | [],x,p=>p
 | k::l,x,p=>iM h l _ (h x k p)
theorem one_rd {A:Rds}(hA:ABd A) {bs rs:List Str}:∀ (d:Nat) (l:Ln) (ns:List Str) (τ:Tns) (st:DSt),LnOk bs rs d ns l→RdOk bs st.2.2→RdOk bs (sZ A l τ st).2.2:=by
 intro d
 induction d with
 | zero=>intro l ns τ st h; exact h.elim
 | succ d ih =>
  intro l ns τ st h hR;have br:=aO ih
  cases l with
  | plain k tag s hs ls =>
   obtain ⟨h1,h2,h3,h4,h5⟩:=h;rw [sZ];exact br ls ns τ _ h4 (xG hA h2.1 (nF hA h3.1 (fR hA h1 hR)))
  | part k n g =>
   obtain ⟨h1,h2,h3,h4⟩:=h;rw [sZ];exact xG hA h3 (fR hA h1 hR)
  | give k n r ls =>
   obtain ⟨h1,h2,h3,h4,h5⟩:=h;rw [sZ];exact br ls ns τ _ h4 (vY hA h3 (fR hA h1 hR))
  | when r l1 l2 =>
   obtain ⟨h1,⟨h2,h3⟩,h4,h5⟩:=h;rw [sZ]
   split
   ·exact br l2 ns τ _ h4 (vY hA h1 hR)
   ·exact br l1 ns τ _ h2 (vY hA h1 hR)
  | each n r ls =>
   obtain ⟨h1,h2,h3⟩:=h;rw [sZ];exact iM (P:=fun st:DSt=>RdOk bs st.2.2) (fun x k p=>br ls [n] _ x h2 p) _ _ (vY hA h1 hR)
theorem jN {A:Rds}(hA:ABd A) {bs rs:List Str}{d:Nat}{ls:List Ln}{ns:List Str}{τ:Tns}{st:DSt}(h:∀ x∈ls,LnOk bs rs d ns x) (hR:RdOk bs st.2.2):RdOk bs (bX A ls τ st).2.2:=aO (one_rd hA d) ls ns τ st h hR
def CInts (N:Tns):Prop:=∀ kv∈N,∃ i,kv.2=.int i
theorem CInts.put {N:Tns}(h:CInts N) (k:Key) (i:Int):CInts (gJ N k (.int i)):=by
 intro kv hk;unfold gJ at hk
 split at hk
 ·obtain ⟨x,hx,rfl⟩:=List.mem_map.1 hk
  split
  ·exact ⟨i,rfl⟩
  ·exact h x hx
 ·rcases List.mem_append.1 hk with hk | hk
  ·exact h kv hk
  ·cases List.mem_singleton.1 hk; exact ⟨i,rfl⟩
theorem cnt_is {N:Tns}(h:CInts N) (k:Key):(dJ N k).getD (.int 0)=.int (kF N k):=by
 unfold kF
 cases e:dJ N k with
 | none=>rfl
 | some v =>
  obtain ⟨kv,hm,rfl⟩:=QV e;obtain ⟨i,ei⟩:=h kv hm;rw [ei]
  rfl
mutual
theorem one_ci (A:Rds):∀ (l:Ln) (τ:Tns) (st:DSt),CInts st.2.1→CInts (sZ A l τ st).2.1
 | .when r l1 l2,τ,st,h=>by
  rw [sZ]
  split
  ·exact jB A l2 τ _ h
  ·exact jB A l1 τ _ h
 | .each n r ls,τ,st,h=>by
  rw [sZ];exact iM (P:=fun st:DSt=>CInts st.2.1) (fun x k p=>jB A ls _ x p) _ _ h
 | .part k n g,τ,st,h=>by rw [sZ]; exact h.put _ _
 | .give k n r ls,τ,st,h=>by rw [sZ]; exact h.put _ _
 | .plain k tag s hs ls,τ,st,h=>by rw [sZ]; exact h.put _ _
theorem jB (A:Rds):∀ (ls:List Ln) (τ:Tns) (st:DSt),CInts st.2.1→CInts (bX A ls τ st).2.1
 | [],τ,st,h=>by rw [sJ]; exact h
 | l::ls,τ,st,h=>by rw [vJ]; exact jB A ls τ _ (one_ci A l τ st h)
end
theorem aF {n:Nat}{c:TCE}{ρ:CSt}{Q:K1}(I:List PV→List PV→CH→Prop) (step:∀ x r acc C,I (x::r) acc C→∃ ts,x=.tup ts∧ts.length=n∧∀ L:K1,(∀ y C2,acc.length < sizeLine∧I r (acc++[y]) C2→L y C2)→c (ts.map some++ρ) C L) (fin:∀ acc C,I [] acc C→∀ p,C p=none→Q (.ref p) (nQ C p (.lst acc))) :
  ∀ xs acc C,I xs acc C→iF n sD c ρ Q xs acc C:=by
 intro xs
 induction xs with
 | nil=>intro acc C h; exact fin acc C h
 | cons x r ih =>
  intro acc C h;obtain ⟨ts,e,hn,st⟩:=step x r acc C h;exact ⟨ts,e,hn,st _ fun y C2 z=>⟨z.1,ih _ _ z.2⟩⟩
section
variable {P:Program}{w:World}{K:PySem.W.Frag}{mg:Str→Option Value}{base:Heap}{a:Adr}
def gNums:GC:=fun ts C Q=>∃ (ps:List (Str×Rk)) (aa tt rr:Addr) (A:Rds) (τ:Tns) (R:Rds) (bs ns:List Str),ts=[.tup (ps.map jG),.ref aa,.ref tt,.ref rr]∧oE bs ns 2 ps∧ps.length≤4∧Env C aa tt rr A τ R∧vN A τ bs ns∧RdOk bs R ∧
 ∀ C',C' rr=some (.dT (fW A τ ps R))→ExS [rr] C C'→Q (.tup ((lL (sV A τ ps)).map kX)) C'
theorem Zv (T:Txt P w K mg a):FnOk P w K mg base CX0 4 a.lF a.zF U7 (spC K gNums):=by
 have S:=uL;have qZ:=eG (base:=base) T 2;refine Fun.okC T.gF uL (fun ts C R h => ?_) fun cdv A outer s H E hr=>⟨_,(mQ (jX (xX zX dZ rfl T.bZ rfl (qQ (mX (rP rfl) rO rfl T.iR rfl (qQ (lO rfl (show (["_law_name","_law_one","_law_pairs_here","_law_answers_here","_law_turns","_law_reads"]:List Str).Nodup by decide +kernel) (yP (N:=U7) (sc:=kQ kJ) rfl rfl rfl (by decide +kernel)) (rD (cv 0)) (fun _ _ _ _ _=>vV) (fun _ _ _ _ _=>(sQ (qQ (cv 0) (qQ (wQ qZ hr rfl T.hZ T.k_l_reckoned T.b_l_reckoned lQ (qQ (cv 1) (qQ (cv 3) (qQ (cv 4) (qQ (cv 5) zQ))))) zQ))))) zQ)) zQ)))),?_⟩
 ·obtain ⟨ps,aa,tt,rr,A,τ,R,bs,ns,rfl,_⟩:=h; rfl
 rintro ts C Q ⟨ps,aa,tt,rr,A,τ,R,bs,ns,rfl,hp,hl,hE,hS,hR,q⟩;refine aF (fun zs acc C'=>∃ ds us:List (Str×Rk),ps=ds++us∧zs=us.map jG∧acc=(sV A τ ds).map kX∧C' rr=some (.dT (fW A τ ds R))∧ExS [rr] C C') ?_ ?_ _ _ _ ⟨[],ps,rfl,rfl,rfl,hE.hr,ExS.refl⟩
 ·rintro x r acc C1 ⟨ds,us,e,hz,rfl,m1,e1⟩
  cases us with
  | nil=>cases hz
  | cons u us =>
   obtain ⟨rfl,rfl⟩:=List.cons.inj hz;refine ⟨[.str u.1,u.2.pv],rfl,rfl,fun L hL => ?_⟩;have hdl:ds.length < 4:=by have:=congrArg List.length e; rw [List.length_append,List.length_cons] at this; omega
   refine ⟨u.2,aa,tt,rr,A,τ,_,bs,ns,rfl,hp u (by rw [e]; exact List.mem_append_right _ List.mem_cons_self),hE.ex e1 m1,hS,xG hS.a (fun x hx=>hp x (by rw [e]; exact List.mem_append_left _ hx)) hR,fun C2 m2 e2=>⟨by show 2≤sizeLine; decide,hL _ _ ⟨?_,ds++[u],us,by rw [List.append_assoc]; exact e,rfl,?_,?_,e1.trans e2⟩⟩⟩
   ·rw [List.length_map]
    unfold sV;rw [List.length_map];exact Nat.lt_of_lt_of_le hdl (by decide)
   ·unfold sV
    rw [List.map_append,List.map_append]
    rfl
   ·rw [m2]
    unfold fW;rw [List.foldl_append]
    rfl
 ·rintro acc C1 ⟨ds,us,e,hz,rfl,m1,e1⟩ p hp'
  cases us with
  | cons u us=>cases hz
  | nil =>
   rw [List.append_nil] at e;subst e;refine Q1 xQ (by unfold sV; rw [List.length_map]; omega) fun p2 hp2 => ?_;refine qV xQ ?_;have nr:∀ p,C1 p=none→rr≠p:=fun p h z=>by rw [z,h] at m1; cases m1
   have hp2':p2≠p:=fun z=>by subst z; rw [xQ] at hp2; cases hp2
   have hp21:C1 p2=none:=by rw [bQ hp2'] at hp2; exact hp2
   refine q _ (by rw [bQ (nr p2 hp21),bQ (nr p hp')]; exact m1) ?_;intro b o n hb;have h1:=e1 b o n hb;rw [bQ (fun z=>by subst z; rw [hp21] at h1; cases h1),bQ (fun z=>by subst z; rw [hp'] at h1; cases h1)];exact h1
end
theorem yZ {i:Nat}{u:QP}{t:PV}{r:List PV}{ρ:CSt}{C:CH}{Q:CSt→CH→Prop}(h:u r (ρ.set i (some t)) C Q):dCons (dName i) u (t::r) ρ C Q:=h
theorem qF {ρ:CSt}{C:CH}{Q:CSt→CH→Prop}(h:Q ρ C):dNil [] ρ C Q:=h
section
variable {P:Program}{w:World}{K:PySem.W.Frag}{mg:Str→Option Value}{base:Heap}{a:Adr}
def gRow (d:Nat):GC:=fun ts C Q=>∃ (ls:List Ln) (aa tt rr:Addr) (A:Rds) (τ:Tns) (R:Rds) (bs rs ns:List Str),ts=[.tup (Ln.pvs ls),.ref aa,.ref tt,.ref rr]∧(∀ x∈ls,LnOk bs rs d ns x)∧Ln.tws ls≤400∧τ.length+d≤50∧Env C aa tt rr A τ R∧vN A τ bs ns∧RdOk bs R ∧
 ∀ C',C' rr=some (.dT (bX A ls τ ([],[],R)).2.2)→ExS [rr] C C'→Q (.tup (Wt.pvs (bX A ls τ ([],[],R)).1)) C'
def gRowL (d:Nat):GC:=fun ts C Q=>∃ d',d=d'+1∧gRow d' ts C Q
def gTh (d:Nat):GC:=fun ts C Q=>∃ (l:Ln) (sp:List Key) (aa tt rr:Addr) (A:Rds) (τ:Tns) (R:Rds) (bs rs ns:List Str),ts=[l.pv,zK sp,.ref aa,.ref tt,.ref rr]∧WO l=true∧LnOk bs rs d ns l∧l.tw≤400∧τ.length+d≤50∧Env C aa tt rr A τ R∧vN A τ bs ns∧RdOk bs R ∧
 ∀ C',C' rr=some (.dT (mD A τ sp l R).2)→ExS [rr] C C'→Q (mD A τ sp l R).1.pv C'
theorem V5 (T:Txt P w K mg a) (d r:Nat) (h4:4≤r) (aR:FnOk P w K mg base CX0 r a.Xz a.cR U9 (spC K (gRowL d))) :
  FnOk P w K mg base CX0 (r+1) a.aL a.sF U8 (spC K (gTh d)):=by
 have S:=bS;have qZ:=(eG (base:=base) T 2).mono (show 3≤r by omega);have rC:=(Zv (base:=base) T).mono (show 4≤r by omega)
 refine Fun.okC T.bN bS (fun ts C R h => ?_) fun cdv A outer s H E hr=>⟨_,(vQ (sX (iQ uZ nX (rQ (r:=rIx K) yQ uQ (cv 0) jQ (fun _ _=>rfl)) gQ (oQ _)) (mQ (jX (sQ (qQ gQ (qQ (cv 1) (qQ (rQ (r:=rIx K) yQ uQ (cv 0) jQ (fun _ _=>rfl)) (qQ (wQ rC hr rfl T.vC T.k_l_numbers T.b_l_numbers lQ (qQ (rQ (r:=rIx K) yQ uQ (cv 0) jQ (fun _ _=>rfl)) (qQ (cv 2) (qQ (cv 3) (qQ (cv 4) zQ))))) zQ))))))) dX)
  (vQ (sX (iQ uZ nX (rQ (r:=rIx K) yQ uQ (cv 0) jQ (fun _ _=>rfl)) gQ (oQ _)) (vQ (dQ (i:=5) S.nd rfl (Or.inl rfl) (wQ qZ hr rfl T.hZ T.k_l_reckoned T.b_l_reckoned lQ (qQ (rQ (r:=rIx K) yQ uQ (cv 0) jQ (fun _ _=>rfl)) (qQ (cv 2) (qQ (cv 3) (qQ (cv 4) zQ))))))
  (mQ (jX (sQ (qQ gQ (qQ (cv 1) (qQ (rQ (r:=rIx K) yQ uQ (cv 0) jQ (fun _ _=>rfl)) (qQ (cv 5) (qQ (wQ aR hr rfl T.Qh T.k_l_row T.b_l_row lQ (qQ (rQ (r:=rIx K) yQ uQ (cv 0) jQ (fun _ _=>rfl)) (qQ (cv 2) (qQ (cv 3) (qQ (cv 4) zQ))))) zQ))))))))) dX)
  (vQ (dQ (i:=6) S.nd rfl (Or.inl rfl) (mZ zQ))
  (vQ (eB PassesOwn.never rfl (rQ (r:=rIx K) yQ uQ (cv 0) jQ (fun _ _=>rfl)) (vF rfl (aX (pX (i:=7) S.nd rfl (Or.inl rfl)) (aX (pX (i:=8) S.nd rfl (Or.inl rfl)) (aX (pX (i:=9) S.nd rfl (Or.inl rfl)) (aX (pX (i:=10) S.nd rfl (Or.inl rfl)) jU))))) (vQ (Ya (i:=11) (show (U1:List Str).Nodup by decide +kernel) rfl (Or.inl rfl) rfl (show (["_law_box","_law_word","_law_one","_law_line_here","_law_spot","_law_answers_here","_law_turns","_law_reads","_law_number_here","_law_hands_here","_law_event","_law_rank","_law_last","_law_changes","_law_some","_law_sets"]:List Str).Nodup by decide +kernel) (yP (N:=U1) (sc:=kQ cK) rfl rfl rfl (by decide +kernel)) (rD (cv 10)) (fun _ _ _ _ _=>vV) (fun _ _ _ _ _=>(sQ (qQ (cv 0) (qQ (cv 1) (qQ (wQ qZ hr rfl T.hZ T.k_l_reckoned T.b_l_reckoned lQ (qQ (cv 2) (qQ (cv 5) (qQ (cv 6) (qQ (cv 7) zQ))))) zQ))))))
  (mQ (mJ (wF PySem.F.plainAttrs_list PySem.F.slot_list_append PySem.F.type_list_append pJ tJ (cv 6) (qQ (sQ (qQ (cv 7) (qQ (cv 8) (qQ (cv 9) (qQ (xX zX dZ rfl T.bZ rfl (qQ (cv 11) zQ)) zQ))))) zQ))))))
  (vQ (dQ (i:=12) S.nd rfl (Or.inl rfl) (wQ rC hr rfl T.vC T.k_l_numbers T.b_l_numbers lQ (qQ (rQ (r:=rIx K) yQ uQ (cv 0) jQ (fun _ _=>rfl)) (qQ (cv 2) (qQ (cv 3) (qQ (cv 4) zQ))))))
  (mQ (jX (sQ (qQ gQ (qQ (cv 1) (qQ (rQ (r:=rIx K) yQ uQ (cv 0) jQ (fun _ _=>rfl)) (qQ (cv 12) (qQ (xX zX dZ rfl T.bZ rfl (qQ (cv 6) zQ)) (qQ (wQ aR hr rfl T.Qh T.k_l_row T.b_l_row lQ (qQ (rQ (r:=rIx K) yQ uQ (cv 0) jQ (fun _ _=>rfl)) (qQ (cv 2) (qQ (cv 3) (qQ (cv 4) zQ))))) zQ)))))))))))))),?_⟩
 ·obtain ⟨l,sp,aa,tt,rr,A,τ,R,bs,rs,ns,rfl,_⟩:=h; rfl
 rintro ts C Q ⟨l,sp,aa,tt,rr,A,τ,R,bs,rs,ns,rfl,hth,ok,htw,hτ,hE,hS,hR,q⟩
 cases d with
 | zero=>exact ok.elim
 | succ d =>
 cases l with
 | when r l1 l2=>cases hth
 | each n r ls=>cases hth
 | part k n g =>
  obtain ⟨h1,h2,h3,h4'⟩:=ok;unfold Ln.pv;refine wJ gX ?_;refine iX (qX _ _) ?_;refine cW (by decide) ?_;refine wJ (v:=.str n) rfl ?_;refine wJ (v:=.tup (g.map jG)) rfl ?_;refine ⟨g,aa,tt,rr,A,τ,R,bs,ns,rfl,fun x hx=>(h3 x hx).mono (by decide),h4',hE,hS,hR,fun C1 m1 e1=>⟨by show 4≤sizeLine; decide,?_⟩⟩;have:=q C1 m1 e1;unfold mD Wt.pv at this;exact this
 | give k n rk ls =>
  obtain ⟨h1,h2,h3,h4',h5⟩:=ok;unfold Ln.pv;refine wJ gX ?_;refine iX (qX _ _) ?_;refine eZ (by decide) ?_;refine jZ ?_
  try dsimp only
  refine wJ gX ?_;refine iX (qX _ _) ?_;refine cW (by decide) ?_;refine cQ ?_;refine wJ (v:=rk.pv) rfl ?_;refine ⟨rk,aa,tt,rr,A,τ,R,bs,ns,rfl,h3.mono (by decide),hE,hS,hR,fun C1 m1 e1 => ?_⟩
  try dsimp only
  refine wJ (v:=.str n) rfl ?_;refine wJ (v:=.tup (Ln.pvs ls)) rfl ?_;have htw':1+Ln.tws ls≤400:=htw;refine ⟨d,rfl,ls,aa,tt,rr,A,τ,_,bs,rs,ns,rfl,h4',by omega,by omega,hE.ex e1 m1,hS,vY hS.a h3 hR,fun C2 m2 e2=>⟨by show 5≤sizeLine; decide,?_⟩⟩;have:=q C2 m2 (e1.trans e2);unfold mD Wt.pv at this;exact this
 | plain k tag ss hs ls =>
  obtain ⟨h1,h2,h3,h4',h5⟩:=ok;unfold Ln.pv;refine wJ gX ?_;refine iX (qX _ _) ?_;refine eZ (by decide) ?_;refine jZ ?_
  try dsimp only
  refine wJ gX ?_;refine iX (qX _ _) ?_;refine eZ (by decide) ?_;refine jZ ?_
  try dsimp only
  refine cQ ?_;refine ⟨by show 0≤sizeLine; decide,fun h hh => ?_⟩;have nhr:h≠rr:=fun z=>by rw [z,hE.hr] at hh; cases hh
  try dsimp only
  generalize hl0:PV.tup [PV.str "plain",oT k,PV.str tag,PV.tup (List.map jG ss),PV.tup (List.map Hd.pv hs),PV.tup (Ln.pvs ls)]=lp
  have ilp:∀ (i:Int) (v:PV) (C':CH) (Q':K1),atI [PV.str "plain",oT k,PV.str tag,PV.tup (List.map jG ss),PV.tup (List.map Hd.pv hs),PV.tup (Ln.pvs ls)] i=some v→Q' v C'→cIx lp (.int i) C' Q':=by
   intro i v C' Q' e h;rw [← hl0];exact wJ e h
  refine oX (fun ρ' C'=>∃ (x7 x8 x9 x10 x11:Option PV),ρ'=[some lp,some (zK sp),some (.ref aa),some (.ref tt),some (.ref rr),none,some (.ref h),x7,x8,x9,x10,x11,none]∧C' h=some (.lst ((gG A τ hs).map HdV.pv))∧C' rr=some (.dT (gW A τ hs R))∧ExS [rr] C C') (fun L hL => ?_) ?_
  ·refine forT_g ?_
   refine ilp 4 (.tup (hs.map Hd.pv)) _ _ rfl ?_;refine kK (fun zs ρ C'=>∃ (ds us:List Hd) (x7 x8 x9 x10 x11:Option PV),hs=ds++us∧zs=us.map Hd.pv∧ρ=[some lp,some (zK sp),some (.ref aa),some (.ref tt),some (.ref rr),none,some (.ref h),x7,x8,x9,x10,x11,none]∧C' h=some (.lst ((gG A τ ds).map HdV.pv))∧C' rr=some (.dT (gW A τ ds R))∧ExS [rr] C C') ?_ ?_ _ _ _ ⟨[],hs,_,_,_,_,_,rfl,rfl,rfl,xQ,by rw [bQ (Ne.symm nhr)]; exact hE.hr,ExS.refl.put hh _⟩
   ·rintro z zs ρ C1 ⟨ds,us,x7,x8,x9,x10,x11,e,hz,rfl,mh,m1,e1⟩ L1 hL1
    cases us with
    | nil=>cases hz
    | cons u us =>
     obtain ⟨rfl,rfl⟩:=List.cons.inj hz;have hu:u∈hs:=by rw [e]; exact List.mem_append_right _ List.mem_cons_self
     have huo:=h3.1 u hu;have hdl:ds.length < 5:=by have:=congrArg List.length e; rw [List.length_append,List.length_cons] at this; have:=h3.2; omega
     have R1:RdOk bs (gW A τ ds R):=nF hS.a (fun x hx=>h3.1 x (by rw [e]; exact List.mem_append_left _ hx)) hR;refine ⟨rfl,?_⟩;refine yZ (yZ (yZ (yZ (qF ?_))))
     try dsimp only
     refine cQ ?_;refine aF (fun zs acc C'=>∃ cs vs:List (Str×Str×Rk),u.ch=cs++vs∧zs=vs.map chPV∧acc=(KZ A τ cs).map XU∧C' h=some (.lst ((gG A τ ds).map HdV.pv))∧C' rr=some (.dT (chsR A τ cs (gW A τ ds R)))∧ExS [rr] C1 C') ?_ ?_ _ _ _ ⟨[],u.ch,rfl,rfl,rfl,mh,m1,ExS.refl⟩
     ·rintro z zs acc C2 ⟨cs,vs,ec,hz,rfl,mh2,m2,e2⟩
      cases vs with
      | nil=>cases hz
      | cons v vs =>
       obtain ⟨rfl,rfl⟩:=List.cons.inj hz;refine ⟨[.str v.1,.str v.2.1,v.2.2.pv],rfl,rfl,fun L2 hL2 => ?_⟩;have hcl:cs.length < 5:=by have:=congrArg List.length ec; rw [List.length_append,List.length_cons] at this; have:=huo.1; omega
       refine ⟨v.2.2,aa,tt,rr,A,τ,_,bs,ns,rfl,(huo.2 v (by rw [ec]; exact List.mem_append_right _ List.mem_cons_self)).mono (by decide),hE.ex (e1.trans e2) m2,hS,Qz hS.a (fun x hx=>huo.2 x (by rw [ec]; exact List.mem_append_left _ hx)) R1,fun C3 m3 e3=>⟨by show 3≤sizeLine; decide,hL2 _ _ ⟨?_,cs++[v],vs,by rw [List.append_assoc]; exact ec,rfl,?_,e3 _ _ (fun z=>nhr (List.mem_singleton.1 z)) mh2,?_,e2.trans e3⟩⟩⟩
       ·rw [List.length_map]
        unfold KZ;rw [List.length_map];exact Nat.lt_of_lt_of_le hcl (by decide)
       ·unfold KZ
        rw [List.map_append,List.map_append]
        rfl
       ·rw [m3]
        unfold chsR;rw [List.foldl_append]
        rfl
     ·rintro acc C2 ⟨cs,vs,ec,hz,rfl,mh2,m2,e2⟩ p hp
      cases vs with
      | cons v vs=>cases hz
      | nil =>
       rw [List.append_nil] at ec;have nph:p≠h:=fun z=>by subst z; rw [mh2] at hp; cases hp
       have npr:p≠rr:=fun z=>by subst z; rw [m2] at hp; cases hp
       try dsimp only
       refine ⟨qU (xs:=(gG A τ ds).map HdV.pv) (by rw [bQ (Ne.symm nph)]; exact mh2),?_⟩;refine qV xQ ?_;refine ⟨by show 4≤sizeLine; decide,?_⟩;refine lC (xs:=(gG A τ ds).map HdV.pv) (by rw [bQ (Ne.symm nph)]; exact mh2) (by unfold gG; rw [List.length_map,List.length_map]; exact Nat.lt_of_lt_of_le hdl (by decide)) ?_;refine hL1 _ _ ⟨ds++[u],us,_,_,_,_,_,by rw [List.append_assoc]; exact e,rfl,rfl,?_,?_,?_⟩
       ·rw [xQ,← ec]
        unfold gG;rw [List.map_append,List.map_append]
        rfl
       ·rw [bQ (Ne.symm nhr),bQ (Ne.symm npr),m2,← ec]
        unfold gW;rw [List.foldl_append]
        rfl
       ·have x2:ExS [rr] C C2:=e1.trans e2
        exact ((x2.put (x2.none (fun z=>npr (List.mem_singleton.1 z)) hp) _).put hh _)
   ·rintro ρ C1 ⟨ds,us,x7,x8,x9,x10,x11,e,hz,rfl,mh,m1,e1⟩
    cases us with
    | cons u us=>cases hz
    | nil =>
     rw [List.append_nil] at e;subst e;exact hL _ _ ⟨_,_,_,_,_,rfl,mh,m1,e1⟩
  rintro ρ' C1 ⟨x7,x8,x9,x10,x11,rfl,mh,m1,e1⟩
  try dsimp only
  refine cQ ?_;refine ilp 3 (.tup (ss.map jG)) _ _ rfl ?_;have R1:=nF (τ:=τ) hS.a h3.1 hR;refine ⟨ss,aa,tt,rr,A,τ,_,bs,ns,rfl,h2.1,h2.2,hE.ex e1 m1,hS,R1,fun C2 m2 e2 => ?_⟩
  try dsimp only
  refine ilp 2 (.str tag) _ _ rfl ?_;refine qV (e2 _ _ (fun z=>nhr (List.mem_singleton.1 z)) mh) ?_;refine ilp 5 (.tup (Ln.pvs ls)) _ _ rfl ?_;have htw':1+Ln.tws ls≤400:=htw;refine ⟨d,rfl,ls,aa,tt,rr,A,τ,_,bs,rs,ns,rfl,h4',by omega,by omega,hE.ex (e1.trans e2) m2,hS,xG hS.a h2.1 R1,fun C3 m3 e3=>⟨by show 6≤sizeLine; decide,?_⟩⟩;have:=q C3 m3 ((e1.trans e2).trans e3);unfold mD Wt.pv at this;exact this
end
theorem xM {x y:PV}{r:List PV}:atI (x::y::r) 1=some y:=oD (xs:=x::y::r) (k:=1) (by simp)
theorem is_s {k:Bool→Bool}{x:PV}{C:CH}{Q:K1}(q:Q (.bl (k (nC x))) C):cIs k x .non C Q:=q
structure S5 (C:CH) (aa tt rr ff cc:Addr) (A:Rds) (τ:Tns) (st:DSt):Prop where
 env:Env C aa tt rr A τ st.2.2
 mf:C ff=some (.lst (Wt.pvs st.1))
 mc:C cc=some (.dK st.2.1)
 tc:tt≠cc
section
variable {C C':CH}{aa tt rr ff cc:Addr}{A:Rds}{τ:Tns}{st st':DSt}
theorem S5.fr (h:S5 C aa tt rr ff cc A τ st):ff≠rr:=fun z=>by have:=h.mf; rw [z,h.env.hr] at this; cases this
theorem S5.fc (h:S5 C aa tt rr ff cc A τ st):ff≠cc:=fun z=>by have:=h.mf; rw [z,h.mc] at this; cases this
theorem S5.cr (h:S5 C aa tt rr ff cc A τ st):cc≠rr:=fun z=>by have:=h.mc; rw [z,h.env.hr] at this; cases this
theorem S5.tf (h:S5 C aa tt rr ff cc A τ st):tt≠ff:=fun z=>by have:=h.env.ht; rw [z,h.mf] at this; cases this
theorem S5.af (h:S5 C aa tt rr ff cc A τ st):aa≠ff:=fun z=>by have:=h.env.ha; rw [z,h.mf] at this; cases this
theorem S5.ac (h:S5 C aa tt rr ff cc A τ st):aa≠cc:=fun z=>by have:=h.env.ha; rw [z,h.mc] at this; cases this
theorem S5.ex (h:S5 C aa tt rr ff cc A τ st) (e:ExS [ff,cc,rr] C C') (m1:C' ff=some (.lst (Wt.pvs st'.1))) (m2:C' cc=some (.dK st'.2.1)) (m3:C' rr=some (.dT st'.2.2)):S5 C' aa tt rr ff cc A τ st':=by
 refine ⟨⟨e _ _ ?_ h.env.ha,e _ _ ?_ h.env.ht,m3,h.env.ne⟩,m1,m2,h.tc⟩
 ·intro z
  simp only [List.mem_cons,List.not_mem_nil,or_false] at z
  rcases z with z | z | z
  ·exact h.af z
  ·exact h.ac z
  ·exact h.env.ne z
 ·intro z
  simp only [List.mem_cons,List.not_mem_nil,or_false] at z
  rcases z with z | z | z
  ·exact h.tf z
  ·exact h.tc z
  ·exact h.env.nt z
theorem S5.rd (h:S5 C aa tt rr ff cc A τ st) (e:ExS [rr] C C') {R:Rds}(m3:C' rr=some (.dT R)):S5 C' aa tt rr ff cc A τ (st.1,st.2.1,R) :=
 ⟨h.env.ex e m3,e _ _ (fun z=>h.fr (List.mem_singleton.1 z)) h.mf,e _ _ (fun z=>h.cr (List.mem_singleton.1 z)) h.mc,h.tc⟩
end
theorem xP {ff cc rr:Addr}{C C':CH}(h:ExS [rr] C C'):ExS [ff,cc,rr] C C':=h.mono fun b z=>by rw [List.mem_singleton.1 z]; simp
theorem th_pv {l:Ln}(h:WO l=true):∃ (wd:Str) (rest:List PV),l.pv=.tup (.str wd::oT (oU l)::rest)∧decide (wd = "when")=false∧decide (wd = "each")=false:=by
 cases l with
 | plain k tag s hs ls=>exact ⟨"plain",_,by rw [Ln.pv]; rfl,by decide,by decide⟩
 | part k n g=>exact ⟨"part",_,by rw [Ln.pv]; rfl,by decide,by decide⟩
 | give k n r ls=>exact ⟨"give",_,by rw [Ln.pv]; rfl,by decide,by decide⟩
 | when r l1 l2=>cases h
 | each n r ls=>cases h
theorem th_key {bs rs ns:List Str}{d:Nat}{l:Ln}(h:WO l=true) (ok:LnOk bs rs d ns l):XA bs ns (oU l):=by
 cases d with
 | zero=>exact ok.elim
 | succ d =>
 cases l with
 | plain k tag s hs ls=>exact ok.1
 | part k n g=>exact ok.1
 | give k n r ls=>exact ok.1
 | when r l1 l2=>cases h
 | each n r ls=>cases h
theorem keyOf_keyPV (k:Key):oV (bY k)=some k:=by
 rcases k with (_ | i) | x<;>rfl
def gBr (d:Nat):GC:=fun ts C Q=>∃ (ls:List Ln) (aa tt rr ff cc:Addr) (A:Rds) (τ:Tns) (st:DSt) (bs rs ns:List Str),ts=[.tup (Ln.pvs ls),.tup [.ref aa,.ref rr],.ref tt,.ref ff,.ref cc]∧(∀ x∈ls,LnOk bs rs d ns x)∧st.1.length+Ln.tws ls≤400∧st.2.1.length+Ln.tws ls≤400∧τ.length+d≤50∧S5 C aa tt rr ff cc A τ st∧vN A τ bs ns∧RdOk bs st.2.2∧CInts st.2.1 ∧
 ∀ C',S5 C' aa tt rr ff cc A τ (bX A ls τ st)→ExS [ff,cc,rr] C C'→Q .non C'
def gBrL (d:Nat):GC:=fun ts C Q=>∃ d',d=d'+1∧gBr d' ts C Q
theorem TBd.put {τ:Tns}(h:TBd τ) (k:Key) {i:Int}(hi:Bd i):TBd (gJ τ k (.int i)):=by
 intro kv hk;unfold gJ at hk
 split at hk
 ·obtain ⟨x,hx,rfl⟩:=List.mem_map.1 hk
  split
  ·exact ⟨i,rfl,hi⟩
  ·exact h x hx
 ·rcases List.mem_append.1 hk with hk | hk
  ·exact h kv hk
  ·cases List.mem_singleton.1 hk; exact ⟨i,rfl,hi⟩
section
variable {P:Program}{w:World}{K:PySem.W.Frag}{mg:Str→Option Value}{base:Heap}{a:Adr}
theorem bT (T:Txt P w K mg a) (d r:Nat) (h4:4≤r)
  (uU:FnOk P w K mg base CX0 r a.hW a.tV U3 (spC K (gBrL d)))
  (Va:FnOk P w K mg base CX0 r a.aL a.sF U8 (spC K (gTh d))) :
  FnOk P w K mg base CX0 (r+1) a.hW a.tV U3 (spC K (gBr d)):=by
 have S:=gL;have qZ:=(eG (base:=base) T 2).mono (show 3≤r by omega)
 refine Fun.okC T.bF gL (fun ts C R h => ?_) fun cdv A outer s H E hr=>⟨_,(vQ (iH (cv 1) (vF rfl (aX (pX (i:=5) S.nd rfl (Or.inl rfl)) (aX (pX (i:=6) S.nd rfl (Or.inl rfl)) jU))))
  (mQ (eB PassesOwn.never rfl (cv 0) (pX (i:=7) S.nd rfl (Or.inl rfl)) (mQ (sX (iQ uZ nX (rQ (r:=rIx K) yQ uQ (cv 7) jQ (fun _ _=>rfl)) gQ (oQ _)) (vQ (dQ (i:=8) S.nd rfl (Or.inl rfl) (wQ qZ hr rfl T.hZ T.k_l_reckoned T.b_l_reckoned lQ (qQ (rQ (r:=rIx K) yQ uQ (cv 7) jQ (fun _ _=>rfl)) (qQ (cv 5) (qQ (cv 2) (qQ (cv 6) zQ))))))
  (mQ (mJ (wQ uU hr rfl T.sM T.k_l_brought T.b_l_brought lQ (qQ (rQ (r:=rIx K) yQ uQ (cv 7) (uX hX rX jQ (xX aV kU rfl T.zL rfl (qQ (uY uZ nX (cv 8) jQ (oQ _)) zQ))) (fun _ _=>rfl)) (qQ (cv 1) (qQ (cv 2) (qQ (cv 3) (qQ (cv 4) zQ))))))))) (mQ (sX (iQ uZ nX (rQ (r:=rIx K) yQ uQ (cv 7) jQ (fun _ _=>rfl)) gQ (oQ _)) (mQ (rR PassesOwn.never rfl rfl T.fY (qQ (mX (mI rfl) JN rfl T.z_min rfl (qQ jQ (qQ (wQ qZ hr rfl T.hZ T.k_l_reckoned T.b_l_reckoned lQ (qQ (rQ (r:=rIx K) yQ uQ (cv 7) jQ (fun _ _=>rfl)) (qQ (cv 5) (qQ (cv 2) (qQ (cv 6) zQ))))) zQ))) zQ) (pX (i:=9) S.nd rfl (Or.inl rfl)) (vQ (dQ (i:=10) S.nd rfl (Or.inl rfl) (xX ZR K0 rfl T.Vi rfl (qQ (cv 2) zQ)))
  (vQ (iK (vZ hr) (cv 10) (rQ (r:=rIx K) yQ uQ (cv 7) jQ (fun _ _=>rfl)) (cv 9))
  (mQ (mJ (wQ uU hr rfl T.sM T.k_l_brought T.b_l_brought lQ (qQ (rQ (r:=rIx K) yQ uQ (cv 7) jQ (fun _ _=>rfl)) (qQ (cv 1) (qQ (cv 10) (qQ (cv 3) (qQ (cv 4) zQ)))))))))))) (vQ (dQ (i:=11) S.nd rfl (Or.inl rfl) nD)
  (vQ (sX (iQ Qe fO (rQ (r:=rIx K) yQ uQ (cv 7) jQ (fun _ _=>rfl)) nD (oQ _)) (mQ (dQ (i:=11) S.nd rfl (Or.inl rfl) (wQ qZ hr rfl T.hZ T.k_l_reckoned T.b_l_reckoned lQ (qQ (rQ (r:=rIx K) yQ uQ (cv 7) jQ (fun _ _=>rfl)) (qQ (cv 5) (qQ (cv 2) (qQ (cv 6) zQ))))))) dX)
  (vQ (iK (vZ hr) (cv 4) (cv 11) (uX hX rX (Yj (vZ hr) (cv 4) (cv 11) jQ) jQ))
  (mQ (mJ (wF PySem.F.plainAttrs_list PySem.F.slot_list_append PySem.F.type_list_append pJ tJ (cv 3) (qQ (wQ Va hr rfl T.Kr T.k_l_thing T.b_l_thing lQ (qQ (cv 7) (qQ (sQ (qQ (cv 11) (qQ (uX xV fJ (nZ (vZ hr) (cv 4) (cv 11) (fun _ _=>rfl)) jQ) zQ))) (qQ (cv 5) (qQ (cv 2) (qQ (cv 6) zQ)))))) zQ)))))))))))))),?_⟩
 ·obtain ⟨ls,aa,tt,rr,ff,cc,A,τ,st,bs,rs,ns,rfl,_⟩:=h; rfl
 rintro ts C Q ⟨ls,aa,tt,rr,ff,cc,A,τ,st,bs,rs,ns,rfl,ok,hF,hN,hτ,hE,hS,hR,hC,q⟩;refine oZ ?_;refine ⟨rfl,?_⟩;refine yZ (yZ (qF ?_))
 try dsimp only
 refine mH rfl ?_;refine kK (fun zs ρ C'=>∃ (ds us:List Ln) (x7 x8 x9 x10 x11:Option PV),ls=ds++us∧zs=Ln.pvs us∧ρ=[some (.tup (Ln.pvs ls)),some (.tup [.ref aa,.ref rr]),some (.ref tt),some (.ref ff),some (.ref cc),some (.ref aa),some (.ref rr),x7,x8,x9,x10,x11]∧S5 C' aa tt rr ff cc A τ (bX A ds τ st)∧ExS [ff,cc,rr] C C') ?_ ?_ _ _ _ ⟨[],ls,_,_,_,_,_,rfl,rfl,rfl,by rw [sJ]; exact hE,ExS.refl⟩
 ·rintro z zs ρ C1 ⟨ds,us,x7,x8,x9,x10,x11,e,hz,rfl,s1,e1⟩ L hL
  cases us with
  | nil=>cases hz
  | cons u us =>
  obtain ⟨rfl,rfl⟩:=List.cons.inj (show z::zs=u.pv::Ln.pvs us from hz);have hu:LnOk bs rs d ns u:=ok u (by rw [e]; exact List.mem_append_right _ List.mem_cons_self);have htw:Ln.tws ls=Ln.tws ds+(u.tw+Ln.tws us):=by rw [e,Ln.tws_app]; rfl
  have len1:=mK A ds τ st;have R1:RdOk bs (bX A ds τ st).2.2:=jN hS.a (fun x hx=>ok x (by rw [e]; exact List.mem_append_left _ hx)) hR;have C1i:=jB A ds τ st hC
  have fin:∀ C' x7 x8 x9 x10 x11,S5 C' aa tt rr ff cc A τ (sZ A u τ (bX A ds τ st))→ExS [ff,cc,rr] C1 C'→L [some (.tup (Ln.pvs ls)),some (.tup [.ref aa,.ref rr]),some (.ref tt),some (.ref ff),some (.ref cc),some (.ref aa),some (.ref rr),x7,x8,x9,x10,x11] C':=by
   intro C' y7 y8 y9 y10 y11 h1 h2;refine hL _ _ ⟨ds++[u],us,y7,y8,y9,y10,y11,by rw [List.append_assoc]; exact e,rfl,rfl,?_,e1.trans h2⟩;rw [ZE,vJ,sJ];exact h1
  clear hL;generalize hst:bX A ds τ st=st1 at s1 len1 R1 C1i fin
  by_cases hth:WO u=true
  ·obtain ⟨wd,rest,ep,n1,n2⟩:=th_pv hth
   refine fX ep gX ?_;refine iX (qX _ _) ?_;refine eZ (by rw [n1]; rfl) ?_;refine fX ep gX ?_;refine iX (qX _ _) ?_;refine eZ (by rw [n2]; rfl) ?_;refine cQ (c_i ?_)
   try dsimp only
   have hko:=th_key hth hu;refine oX (fun ρ' C'=>ρ'=[some (.tup (Ln.pvs ls)),some (.tup [.ref aa,.ref rr]),some (.ref tt),some (.ref ff),some (.ref cc),some (.ref aa),some (.ref rr),some u.pv,x8,x9,x10,some (bY (tT A τ (oU u)))]∧C' rr=some (.dT (mM A τ (oU u) st1.2.2))∧ExS [rr] C1 C') (fun L1 hL1 => ?_) ?_
   ·refine fX ep (v:=oT (oU u)) xM ?_
    refine c_i ?_;refine is_s ?_
    rcases hk:oU u with _ | rk
    ·refine bJ (fun hb => ?_) fun hb => ?_
     ·cases hb
     refine jZ ?_;rw [hk] at hL1;exact hL1 _ _ ⟨rfl,s1.env.hr,ExS.refl⟩
    ·rw [hk] at hL1 ep hko
     refine bJ (fun hb => ?_) fun hb => ?_
     ·refine fX ep (v:=rk.pv) xM ?_
      refine ⟨rk,aa,tt,rr,A,τ,_,bs,ns,rfl,hko.mono (by decide),s1.env,hS,R1,fun C2 m2 e2 => ?_⟩;exact hL1 _ _ ⟨rfl,m2,e2⟩
     ·have hb:(!nC rk.pv)=false:=hb
      have:nC rk.pv=false:=by cases rk<;>rfl
      rw [this] at hb;cases hb
   rintro ρ' C2 ⟨rfl,m2,e2⟩
   try dsimp only
   have s2:=s1.rd e2 m2;have R2:=fR (τ:=τ) hS.a hko R1;generalize hkv:tT A τ (oU u)=kv at s2;refine oZ ?_;refine ⟨isDk_g s2.mc,?_⟩;refine getD_g s2.mc (CL.keyOf_keyPV kv) (cnt_is C1i kv) ?_;refine dW ?_;refine wY s2.mc (CL.keyOf_keyPV kv) (by have:=len1.2; show st1.2.1.length≤1000; omega) ?_
   try dsimp only
   have mc3:nQ C2 cc (.dK (gJ st1.2.1 kv (.int (kF st1.2.1 kv+1)))) cc=some (.dK (gY st1.2.1 kv)):=xQ;have e3:ExS [ff,cc,rr] C1 (nQ C2 cc (.dK (gJ st1.2.1 kv (.int (kF st1.2.1 kv+1))))):=(xP e2).at (by simp) _
   have s3:S5 (nQ C2 cc (.dK (gJ st1.2.1 kv (.int (kF st1.2.1 kv+1))))) aa tt rr ff cc A τ (st1.1,gY st1.2.1 kv,mM A τ (oU u) st1.2.2) :=
    ⟨⟨by rw [bQ s2.ac]; exact s2.env.ha,by rw [bQ s2.tc]; exact s2.env.ht,by rw [bQ (Ne.symm s2.cr)]; exact s2.env.hr,s2.env.ne⟩,by rw [bQ s2.fc]; exact s2.mf,mc3,s2.tc⟩
   generalize nQ C2 cc (.dK (gJ st1.2.1 kv (.int (kF st1.2.1 kv+1))))=C3 at mc3 e3 s3 ⊢;refine ⟨qU s3.mf,?_⟩;refine eJ s3.mc (CL.keyOf_keyPV kv) (v:=.int (kF st1.2.1 kv+1)) (by show dJ (gY st1.2.1 kv) kv=_; unfold gY; rw [iC,if_pos rfl]) ?_;refine i_i ?_;refine ⟨by show 2≤sizeLine; decide,?_⟩;have ec:kF st1.2.1 kv+1 - 1=kF st1.2.1 kv:=by omega
   rw [ec];refine ⟨u,vB st1.2.1 kv,aa,tt,rr,A,τ,_,bs,rs,ns,rfl,hth,hu,by omega,hτ,s3.env,hS,R2,fun C4 m4 e4 => ?_⟩;have s4:=s3.rd e4 m4;refine lC s4.mf (by rw [Wt.pvs_len]; have:=len1.1; exact Nat.lt_of_le_of_lt (show st1.1.length≤400 by omega) (by decide)) ?_;have eo:=ZD A τ u st1.1 st1.2.1 st1.2.2 hth;rw [hkv] at eo;refine fin _ _ _ _ _ _ ?_ ((e3.trans (xP e4)).at (by simp) _);rw [show st1=(st1.1,st1.2.1,st1.2.2) from rfl,eo]
   exact ⟨⟨by rw [bQ s4.af]; exact s4.env.ha,by rw [bQ s4.tf]; exact s4.env.ht,by rw [bQ (Ne.symm s4.fr)]; exact s4.env.hr,s4.env.ne⟩,by rw [xQ,Wt.pvs_app]; rfl,by rw [bQ (Ne.symm s4.fc)]; exact s4.mc,s4.tc⟩
  ·cases u with
   | plain k tag s hs ls=>exact absurd rfl hth
   | part k n g=>exact absurd rfl hth
   | give k n r ls=>exact absurd rfl hth
   | when rk l1 l2 =>
    cases d with
    | zero=>exact hu.elim
    | succ d' =>
    obtain ⟨ork,⟨o1,_⟩,o2,_⟩:=hu;have ep:(Ln.when rk l1 l2).pv=.tup [.str "when",rk.pv,.tup (Ln.pvs l1),.tup (Ln.pvs l2)]:=by rw [Ln.pv]
    have etw:(Ln.when rk l1 l2).tw=Ln.tws l1+Ln.tws l2:=by rw [Ln.tw]
    refine fX ep gX ?_;refine iX (qX _ _) ?_;refine cW (by decide) ?_;refine cQ ?_;refine fX ep (v:=rk.pv) rfl ?_;refine ⟨rk,aa,tt,rr,A,τ,_,bs,ns,rfl,ork.mono (by decide),s1.env,hS,R1,fun C2 m2 e2 => ?_⟩
    try dsimp only
    have R2:=vY (τ:=τ) hS.a ork R1;refine iX (iZ _ _) ?_;refine yC ?_;refine dW ?_
    by_cases h0:rk.val A τ=0
    ·refine fX ep (v:=.tup (Ln.pvs l2)) (by rw [h0]; rfl) ?_
     refine ⟨d',rfl,l2,aa,tt,rr,ff,cc,A,τ,(st1.1,st1.2.1,rk.rds A τ st1.2.2),bs,rs,ns,rfl,o2,by have:=len1.1; show st1.1.length+_≤400; omega,by have:=len1.2; show st1.2.1.length+_≤400; omega,by omega,s1.rd e2 m2,hS,R2,C1i,fun C3 s3 e3 => ?_⟩;refine fin C3 _ _ _ _ _ ?_ ((xP e2).trans e3);rw [sZ,if_pos h0];exact s3
    ·refine fX ep (v:=.tup (Ln.pvs l1)) (by rw [decide_eq_false h0]; rfl) ?_
     refine ⟨d',rfl,l1,aa,tt,rr,ff,cc,A,τ,(st1.1,st1.2.1,rk.rds A τ st1.2.2),bs,rs,ns,rfl,o1,by have:=len1.1; show st1.1.length+_≤400; omega,by have:=len1.2; show st1.2.1.length+_≤400; omega,by omega,s1.rd e2 m2,hS,R2,C1i,fun C3 s3 e3 => ?_⟩;refine fin C3 _ _ _ _ _ ?_ ((xP e2).trans e3);rw [sZ,if_neg h0];exact s3
   | each n rk l1 =>
    cases d with
    | zero=>exact hu.elim
    | succ d' =>
    obtain ⟨ork,o1,_⟩:=hu;have ep:(Ln.each n rk l1).pv=.tup [.str "each",.str n,rk.pv,.tup (Ln.pvs l1)]:=by rw [Ln.pv]
    have etw:(Ln.each n rk l1).tw=8 * Ln.tws l1:=by rw [Ln.tw]
    have hS0:vN A τ bs []:=⟨hS.a,hS.t,(fun _ z=>nomatch z),hS.b⟩;refine fX ep gX ?_;refine iX (qX _ _) ?_;refine eZ (by decide) ?_;refine fX ep gX ?_;refine iX (qX _ _) ?_;refine cW (by decide) ?_;refine fX ep (v:=rk.pv) rfl ?_;refine ⟨rk,aa,tt,rr,A,τ,_,bs,[],rfl,ork.mono (by decide),s1.env,hS0,R1,fun C2 m2 e2 => ?_⟩;refine min_s ?_;have bd:=kS hS0.a hS0.t hS0.h ork;unfold Bd at bd;refine ⟨by split<;>omega,by split<;>omega,?_⟩
    have R2:=vY (τ:=τ) hS.a ork R1;have s2:=s1.rd e2 m2;show vU _ _ _ ((List.range (eC (rk.val A τ))).map fun k=>PV.int (k:Nat)) _ _;generalize hcap:eC (rk.val A τ)=n8;have hn8:n8≤8:=by rw [← hcap]; exact lP _
    let f:DSt→Nat→DSt:=fun st k=>bX A l1 (gJ τ (.inr n) (.int (k:Nat))) st
    let st0:DSt:=(st1.1,st1.2.1,rk.rds A τ st1.2.2)
    refine kK (fun zs ρ C'=>∃ (j:Nat) (x9 x10:Option PV),j≤n8∧zs=((List.range n8).drop j).map (fun k:Nat=>PV.int (k:Nat))∧ρ=[some (.tup (Ln.pvs ls)),some (.tup [.ref aa,.ref rr]),some (.ref tt),some (.ref ff),some (.ref cc),some (.ref aa),some (.ref rr),some (Ln.each n rk l1).pv,x8,x9,x10,x11]∧S5 C' aa tt rr ff cc A τ ((List.range j).foldl f st0)∧ExS [ff,cc,rr] C1 C') ?_ ?_ _ _ _ ⟨0,_,_,Nat.zero_le _,rfl,rfl,s2,xP e2⟩
    ·rintro z zs ρ C3 ⟨j,y9,y10,hj,hz,rfl,s3,e3⟩ L3 hL3
     obtain ⟨hjn,rfl,rfl⟩:=wD hz;refine cQ ?_;refine dictK_s s3.env.ht fun ia hia => ?_
     try dsimp only
     refine oZ ?_;refine fX ep (v:=.str n) rfl ?_;refine wY (k:=.inr n) xQ rfl (by omega) ?_
     try dsimp only
     have ne1:∀ b o,C3 b=some o→b≠ia:=fun b o h z=>by rw [z,hia] at h; cases h
     refine fX ep (v:=.tup (Ln.pvs l1)) rfl ?_;have g1:=rB (f:=f) (m:=fun st=>st.1.length) (c:=Ln.tws l1) (fun x k=>(mK A l1 _ x).1) (List.range j) st0;have g2:=rB (f:=f) (m:=fun st=>st.2.1.length) (c:=Ln.tws l1) (fun x k=>(mK A l1 _ x).2) (List.range j) st0;rw [List.length_range] at g1 g2
     have hm:j * Ln.tws l1+Ln.tws l1≤8 * Ln.tws l1:=by
      have:(j+1) * Ln.tws l1≤8 * Ln.tws l1:=Nat.mul_le_mul_right _ (by omega);rw [Nat.add_mul,Nat.one_mul] at this;exact this
     have g1:((List.range j).foldl f st0).1.length≤st1.1.length+j * Ln.tws l1:=g1;have g2:((List.range j).foldl f st0).2.1.length≤st1.2.1.length+j * Ln.tws l1:=g2;have l11:=len1.1;have l12:=len1.2;have R3:RdOk bs ((List.range j).foldl f st0).2.2:=iM (P:=fun st:DSt=>RdOk bs st.2.2) (fun x k p=>jN hS.a o1 p) _ _ R2;have N3:CInts ((List.range j).foldl f st0).2.1:=iM (P:=fun st:DSt=>CInts st.2.1) (fun x k p=>jB A l1 _ x p) _ _ C1i
     have t3:TBd (gJ τ (.inr n) (.int (j:Nat))):=hS.t.put _ (by unfold Bd; omega)
     have hS3:vN A (gJ τ (.inr n) (.int (j:Nat))) bs [n]:=⟨hS.a,t3,fun m hm=>by
      cases List.mem_singleton.1 hm
      rw [iC,if_pos rfl]; rfl,hS.b⟩
     have hlen:(gJ τ (.inr n) (.int (j:Nat))).length≤τ.length+1:=fL _ _ _
     have s4:S5 (nQ (nQ C3 ia (.dK τ)) ia (.dK (gJ τ (.inr n) (.int (j:Nat))))) aa ia rr ff cc A (gJ τ (.inr n) (.int (j:Nat))) ((List.range j).foldl f st0):=by
      have up:∀ b o,C3 b=some o→nQ (nQ C3 ia (.dK τ)) ia (.dK (gJ τ (.inr n) (.int (j:Nat)))) b=some o:=fun b o h=>by rw [bQ (ne1 b o h),bQ (ne1 b o h)]; exact h
      exact ⟨⟨up _ _ s3.env.ha,xQ,up _ _ s3.env.hr,s3.env.ne⟩,up _ _ s3.mf,up _ _ s3.mc,Ne.symm (ne1 _ _ s3.mc)⟩
     have x4:ExS [ff,cc,rr] C3 (nQ (nQ C3 ia (.dK τ)) ia (.dK (gJ τ (.inr n) (.int (j:Nat))))):=(ExS.refl.put hia _).put hia _;refine ⟨d',rfl,l1,aa,ia,rr,ff,cc,A,_,_,bs,rs,[n],rfl,o1,by omega,by omega,by omega,s4,hS3,R3,N3,fun C5 s5 e5 => ?_⟩;refine hL3 _ _ ⟨j+1,_,_,hjn,rfl,rfl,?_,e3.trans (x4.trans e5)⟩;have ef:(List.range (j+1)).foldl f st0=f ((List.range j).foldl f st0) j:=by rw [List.range_succ,List.foldl_append]; rfl
     rw [ef];exact s3.ex (x4.trans e5) s5.mf s5.mc s5.env.hr
    ·rintro ρ C3 ⟨j,y9,y10,hj,hz,rfl,s3,e3⟩
     have ej:j=n8:=by
      rcases Nat.lt_or_ge j n8 with h | h
      ·rw [List.drop_eq_getElem_cons (by rw [List.length_range]; exact h)] at hz
       cases hz
      ·omega
     subst ej;refine fin C3 _ _ _ _ _ ?_ e3;rw [sZ,hcap];exact s3
 ·rintro ρ C1 ⟨ds,us,x7,x8,x9,x10,x11,e,hz,rfl,s1,e1⟩
  cases us with
  | cons u us=>cases hz
  | nil =>
   rw [List.append_nil] at e;subst e;exact q C1 s1 e1
end
section
variable {P:Program}{w:World}{K:PySem.W.Frag}{mg:Str→Option Value}{base:Heap}{a:Adr}
theorem V6 (T:Txt P w K mg a) (d r:Nat) (uU:FnOk P w K mg base CX0 r a.hW a.tV U3 (spC K (gBr d))) :
  FnOk P w K mg base CX0 (r+1) a.Xz a.cR U9 (spC K (gRow d)):=by
 have S:=Q5
 refine Fun.okC T.QS Q5 (fun ts C R h => ?_) fun cdv A outer s H E hr=>⟨_,(vQ (dQ (i:=4) S.nd rfl (Or.inl rfl) (mZ zQ))
  (vQ (mJ (wQ uU hr rfl T.sM T.k_l_brought T.b_l_brought lQ (qQ (cv 0) (qQ (sQ (qQ (cv 1) (qQ (cv 3) zQ))) (qQ (cv 2) (qQ (cv 4) (qQ QA zQ)))))))
  (mQ (jX (xX zX dZ rfl T.bZ rfl (qQ (cv 4) zQ)))))),?_⟩
 ·obtain ⟨ls,aa,tt,rr,A,τ,R,bs,rs,ns,rfl,_⟩:=h; rfl
 rintro ts C Q ⟨ls,aa,tt,rr,A,τ,R,bs,rs,ns,rfl,ok,htw,hτ,hE,hS,hR,q⟩;refine cQ ?_;refine ⟨by show 0≤sizeLine; decide,fun ff hff => ?_⟩
 try dsimp only
 refine oZ ?_;refine ⟨by show 2≤sizeLine; decide,?_⟩;intro cc hcc;have nfc:cc≠ff:=fun z=>by subst z; rw [xQ] at hcc; cases hcc
 have hcc0:C cc=none:=by rw [bQ nfc] at hcc; exact hcc
 have up:∀ b o,C b=some o→nQ (nQ C ff (.lst [])) cc (.dK []) b=some o:=fun b o h=>Gr.new hcc _ _ _ (Gr.new hff _ _ _ h)
 have s1:S5 (nQ (nQ C ff (.lst [])) cc (.dK [])) aa tt rr ff cc A τ ([],[],R) :=
  ⟨⟨up _ _ hE.ha,up _ _ hE.ht,up _ _ hE.hr,hE.ne⟩,by rw [bQ (Ne.symm nfc)]; exact xQ,xQ,fun z=>by have:=hE.ht; rw [z,hcc0] at this; cases this⟩
 refine ⟨ls,aa,tt,rr,ff,cc,A,τ,([],[],R),bs,rs,ns,rfl,ok,by show 0+_≤400; omega,by show 0+_≤400; omega,hτ,s1,hS,hR,(fun _ z=>nomatch z),fun C2 s2 e2 => ?_⟩
 try dsimp only
 refine qV s2.mf ?_;refine q C2 s2.env.hr ?_;intro b o nb hb;refine e2 b o (fun z => ?_) (up b o hb)
 simp only [List.mem_cons,List.not_mem_nil,or_false] at z
 rcases z with z | z | z
 ·rw [z,hff] at hb; cases hb
 ·rw [z,hcc0] at hb; cases hb
 ·exact nb (by rw [z]; exact List.mem_singleton.2 rfl)
theorem ok_br (T:Txt P w K mg a) (d:Nat):FnOk P w K mg base CX0 (3 * d+6) a.hW a.tV U3 (spC K (gBr d)):=by
 induction d with
 | zero =>
  exact bT (base:=base) T 0 5 (by decide) (uW fun ts C Q ⟨d',e,_⟩=>by omega) (uW fun ts C Q ⟨l,sp,aa,tt,rr,A,τ,R,bs,rs,ns,_,_,h,_⟩=>h)
 | succ d ih =>
  have row:=V6 (base:=base) T d (3 * d+6) ih
  have e1:gRowL (d+1)=gRow d:=by
   funext ts C Q
   refine propext ⟨fun ⟨d'',z,h⟩ => ?_,fun h=>⟨d,rfl,h⟩⟩;cases Nat.succ.inj z;exact h
  have e2:gBrL (d+1)=gBr d:=by
   funext ts C Q
   refine propext ⟨fun ⟨d'',z,h⟩ => ?_,fun h=>⟨d,rfl,h⟩⟩;cases Nat.succ.inj z;exact h
  have th:=V5 (base:=base) T (d+1) (3 * d+6+1) (by omega) (by rw [e1]; exact row);have:=bT (base:=base) T (d+1) (3 * d+6+1+1) (by omega) (by rw [e2]; exact ih.mono (by omega)) th;have e:3 * d+6+1+1+1=3 * (d+1)+6:=by omega
  rw [e] at this;exact this
end
def stOf:Key→Str
 | .inr x=>x
 | _ => ""
def ciOf:PV→Int
 | .int i=>i
 | _=>0
def rdC (kv:List Key×PV):List Str×Int:=(kv.1.map stOf,ciOf kv.2)
structure Pc where
 reads:List (List Str×Int)
 row:List Wt
 works:List (Str×Int)
def Pc.pv (x:Pc):PV:=.tup [.tup (x.reads.map kY),.tup (Wt.pvs x.row),.tup (x.works.map kX)]
def cL (A:Rds) (x:Pt):Rds:=fW A [] x.works (bX A x.ls [] ([],[],[])).2.2
def pcOf (A:Rds) (x:Pt):Pc:=⟨ordT ((cL A x).map rdC),(bX A x.ls [] ([],[],[])).1,sV A [] x.works⟩
theorem rd_pv {bs:List Str}{R:Rds}(h:RdOk bs R) {kv:List Key×PV}(m:kv∈R):bM (zK kv.1)=some kv.1∧PV.tup [zK kv.1,kv.2]=kY (rdC kv):=by
 obtain ⟨s,n,e,_⟩:=h.ks kv.1 (List.mem_map.2 ⟨kv,m,rfl⟩);obtain ⟨i,ei,_⟩:=h.vs kv m;obtain ⟨k,v⟩:=kv;cases e;cases ei;exact ⟨rfl,rfl⟩
theorem Z0 {κ:Type} [DecidableEq κ]:∀ {R:List (κ×PV)}{kv:κ×PV},(R.map (·.1)).Nodup→kv∈R→iV R kv.1=some kv.2
 | [],kv,_,m=>nomatch m
 | x::R,kv,nd,m=>by
  rw [List.map_cons,List.nodup_cons] at nd;rw [mV]
  rcases List.mem_cons.1 m with rfl | m
  ·rw [if_pos rfl]
  ·rw [if_neg (fun z=>nd.1 (by rw [z]; exact List.mem_map.2 ⟨kv,m,rfl⟩))]
   exact Z0 nd.2 m
theorem compT_s {i:Nat}{t:TCT}{c:TCE}{ρ:CSt}{C:CH}{Q:K1}{d:Addr}{kvs:Rds}(hv:ρ[i]?=some (some (.ref d))) (h:C d=some (.dT kvs)) (q:zJ t c ρ (fun v C2=>C2 d=some (.fT kvs)∧Q v (nQ C2 d (.dT kvs))) (kvs.map fun p=>zK p.1) [] (nQ C d (.fT kvs))):QH (qW i) t c ρ C Q:=by
 unfold QH qW;rw [hv];dsimp only;rw [h];exact q
theorem tiy_s {p:Addr}{y v:PV}{k:List Key}{kvs:Rds}{C:CH}{Q:K1}(m:C p=some (.fT kvs)) (hk:bM y=some k) (hv:iV kvs k=some v) (q:Q v C):cTIy (.ref p) y C Q:=by
 unfold cTIy;dsimp only;rw [m,hk];show (match iV kvs k with | some v=>Q v C | none=>False);rw [hv];exact q
theorem J7 {cs:List (List Str×Int)}{p:Addr}{C:CH}{Q:K1}(m:C p=some (.lst (cs.map kY))) (h:cs.length < 64) (q:∀ p',C p'=none→Q (.ref p') (nQ C p' (.lst ((ordT cs).map kY)))):nP [.ref p] C Q:=by
 unfold nP;dsimp only;rw [m];dsimp only;rw [QX];exact ⟨h,q⟩
section
variable {P:Program}{w:World}{K:PySem.W.Frag}{mg:Str→Option Value}{base:Heap}{a:Adr}
def gPiece:GC:=fun ts C Q=>∃ (x:Pt) (aa:Addr) (A:Rds) (rs:List Str) (cap:Nat),ts=[x.pv,.ref aa]∧K8 rs cap x∧C aa=some (.dT A)∧ABd A∧∀ C',Gr C C'→Q (pcOf A x).pv C'
theorem V7 (T:Txt P w K mg a):FnOk P w K mg base CX0 26 a.xR a.dH U26 (spC K gPiece):=by
 have S:=fS;have aR:=V6 (base:=base) T 6 24 (ok_br T 6);have qZ:=(eG (base:=base) T 1).mono (show 2≤25 by decide)
 refine Fun.okC T.fN fS (fun ts C R h => ?_) fun cdv A outer s H E hr=>⟨_,(vQ (dQ (i:=2) S.nd rfl (Or.inr rfl) JL)
  (vQ (dQ (i:=3) S.nd rfl (Or.inl rfl) (wQ aR hr rfl T.Qh T.k_l_row T.b_l_row lQ (qQ (rQ (r:=rIx K) yQ uQ (cv 0) jQ (fun _ _=>rfl)) (qQ (cv 1) (qQ QA (qQ (cv 2) zQ))))))
  (vQ (dQ (i:=4) S.nd rfl (Or.inl rfl) (xX zX dZ rfl T.bZ rfl (qQ (lO rfl (show (["_law_name","_law_one","_law_part_here","_law_answers_here","_law_reads","_law_row_here","_law_works"]:List Str).Nodup by decide +kernel) (yP (N:=U15) (sc:=kQ aJ) rfl rfl rfl (by decide +kernel)) (rD (rQ (r:=rIx K) yQ uQ (cv 0) jQ (fun _ _=>rfl))) (fun _ _ _ _ _=>vV) (fun _ _ _ _ _=>(sQ (qQ (cv 0) (qQ (wQ qZ hr rfl T.hZ T.k_l_reckoned T.b_l_reckoned lQ (qQ (cv 1) (qQ (cv 3) (qQ QA (qQ (cv 4) zQ))))) zQ))))) zQ)))
  (mQ (jX (sQ (qQ (xX zX dZ rfl T.bZ rfl (qQ (mX pC (X3 (uG hr)) rfl T.iR rfl (qQ (Yk rfl (show (["_law_what","_law_part_here","_law_answers_here","_law_reads","_law_row_here","_law_works"]:List Str).Nodup by decide +kernel) (yJ (N:=U15) (sc:=kQ aJ) rfl rfl rfl (by decide +kernel)) (cv 2) (fun _ _ _ _ _=>vV) (fun _ _ _ _ _=>(sQ (qQ (cv 0) (qQ (ce_tiy (vZ hr) (cv 3) (cv 0) (fun _ _=>rfl)) zQ))))) zQ)) zQ)) (qQ (cv 3) (qQ (cv 4) zQ))))))))),?_⟩
 ·obtain ⟨x,aa,A,rs,cap,rfl,_⟩:=h; rfl
 rintro ts C Q ⟨x,aa,A,rs,cap,rfl,ok,ha,hA,q⟩;have hS:vN A [] (x.first.map (·.1)) []:=⟨hA,(fun _ z=>nomatch z),(fun _ z=>nomatch z),by rw [List.length_map]; exact ok.fl⟩;have hR0:RdOk (x.first.map (·.1)) []:=⟨List.nodup_nil,(fun _ z=>nomatch z),(fun _ z=>nomatch z)⟩;refine cQ ?_;intro rr hrr;have nar:aa≠rr:=fun z=>by rw [z,hrr] at ha; cases ha
 try dsimp only
 refine cQ ?_;refine wJ (v:=.tup (Ln.pvs x.ls)) rfl ?_;intro tt htt;have ntr:tt≠rr:=fun z=>by subst z; rw [xQ] at htt; cases htt
 have g1:Gr C (nQ (nQ C rr (.dT [])) tt (.dK [])):=(Gr.new hrr _).trans (Gr.new htt _);have E1:Env (nQ (nQ C rr (.dT [])) tt (.dK [])) aa tt rr A [] []:=⟨g1 _ _ ha,xQ,by rw [bQ (Ne.symm ntr)]; exact xQ,nar⟩;have tw:=ok.tw;refine ⟨x.ls,aa,tt,rr,A,[],[],_,rs,[],rfl,ok.ls,by omega,by show 0+6≤50; decide,E1,hS,hR0,fun C2 m2 e2 => ?_⟩;have R2:=jN (τ:=[]) (st:=([],[],[])) hA ok.ls hR0;have g2:Gr C C2:=fun b o h=>e2 b o (fun z=>by rw [List.mem_singleton.1 z,hrr] at h; cases h) (g1 b o h)
 try dsimp only
 refine cQ ?_;refine wJ (v:=.tup (x.works.map jG)) rfl ?_;refine aF (fun zs acc C'=>∃ ds us:List (Str×Rk),x.works=ds++us∧zs=us.map jG∧acc=(sV A [] ds).map kX∧C' rr=some (.dT (fW A [] ds (bX A x.ls [] ([],[],[])).2.2))∧Gr C C') ?_ ?_ _ _ _ ⟨[],x.works,rfl,rfl,rfl,m2,g2⟩
 ·rintro z zs acc C3 ⟨ds,us,e,hz,rfl,m3,g3⟩
  cases us with
  | nil=>cases hz
  | cons u us =>
   obtain ⟨rfl,rfl⟩:=List.cons.inj hz;refine ⟨[.str u.1,u.2.pv],rfl,rfl,fun L hL => ?_⟩;have hdl:ds.length < 5:=by have:=congrArg List.length e; rw [List.length_append,List.length_cons] at this; have:=ok.wl; omega
   intro t2 ht2;have nt2r:rr≠t2:=fun z=>by rw [← z,m3] at ht2; cases ht2
   have E3:Env (nQ C3 t2 (.dK [])) aa t2 rr A [] (fW A [] ds (bX A x.ls [] ([],[],[])).2.2):=⟨Gr.new ht2 _ _ _ (g3 _ _ ha),xQ,by rw [bQ nt2r]; exact m3,nar⟩;refine ⟨u.2,aa,t2,rr,A,[],_,_,[],rfl,ok.wk u (by rw [e]; exact List.mem_append_right _ List.mem_cons_self),E3,hS,xG hA (fun y hy=>ok.wk y (by rw [e]; exact List.mem_append_left _ hy)) R2,fun C4 m4 e4=>⟨by show 2≤sizeLine; decide,hL _ _ ⟨?_,ds++[u],us,by rw [List.append_assoc]; exact e,rfl,?_,?_,?_⟩⟩⟩
   ·rw [List.length_map]
    unfold sV;rw [List.length_map];exact Nat.lt_of_lt_of_le hdl (by decide)
   ·unfold sV
    rw [List.map_append,List.map_append]
    rfl
   ·rw [m4]
    unfold fW;rw [List.foldl_append]
    rfl
   ·intro b o h
    exact e4 b o (fun z=>by rw [List.mem_singleton.1 z,hrr] at h; cases h) (Gr.new ht2 _ _ _ (g3 b o h))
 ·rintro acc C3 ⟨ds,us,e,hz,rfl,m3,g3⟩ p3 hp3
  cases us with
  | cons u us=>cases hz
  | nil =>
  rw [List.append_nil] at e;subst e;refine qV xQ ?_;have g4:Gr C (nQ C3 p3 (.lst ((sV A [] x.works).map kX))):=g3.trans (Gr.new hp3 _);have m4:nQ C3 p3 (.lst ((sV A [] x.works).map kX)) rr=some (.dT (cL A x)):=Gr.new hp3 _ _ _ m3;generalize nQ C3 p3 (.lst ((sV A [] x.works).map kX))=C4 at g4 m4 ⊢
  try dsimp only
  have R4:RdOk (x.first.map (·.1)) (cL A x):=xG hA ok.wk R2;refine compT_s rfl m4 ?_;refine qB (fun zs acc C'=>C'=nQ C4 rr (.fT (cL A x))∧∃ ds us:Rds,cL A x=ds++us∧zs=us.map (fun p=>zK p.1)∧acc=(ds.map rdC).map kY) ?_ ?_ _ _ _ ⟨rfl,[],cL A x,rfl,rfl,rfl⟩
  ·rintro z zs acc C5 ⟨rfl,ds,us,e,hz,rfl⟩ L hL
   cases us with
   | nil=>cases hz
   | cons u us =>
    obtain ⟨rfl,rfl⟩:=List.cons.inj hz;have mu:u∈cL A x:=by rw [e]; exact List.mem_append_right _ List.mem_cons_self
    obtain ⟨hk,hp⟩:=rd_pv R4 mu;refine tiy_s xQ hk (Z0 R4.nd mu) ?_;refine ⟨by show 2≤sizeLine; decide,?_⟩;rw [hp];refine hL _ _ ⟨?_,rfl,ds++[u],us,by rw [List.append_assoc]; exact e,rfl,by rw [List.map_append,List.map_append]; rfl⟩;rw [List.length_map,List.length_map];have:=R4.len;have e2:=congrArg List.length e;rw [List.length_append,List.length_cons] at e2;have:=hS.b;exact Nat.lt_of_le_of_lt (show ds.length≤1000 by omega) (by decide)
  ·rintro acc C5 ⟨rfl,ds,us,e,hz,rfl⟩ p5 hp5
   cases us with
   | cons u us=>cases hz
   | nil =>
   rw [List.append_nil] at e;subst e;have np5:p5≠rr:=fun z=>by subst z; rw [xQ] at hp5; cases hp5
   have hp54:C4 p5=none:=by rw [bQ np5] at hp5; exact hp5
   refine ⟨by rw [bQ (Ne.symm np5)]; exact xQ,?_⟩;have m6:nQ (nQ (nQ C4 rr (.fT (cL A x))) p5 (.lst (((cL A x).map rdC).map kY))) rr (.dT (cL A x)) p5=some (.lst (((cL A x).map rdC).map kY)):=by rw [bQ np5]; exact xQ
   have g6:Gr C (nQ (nQ (nQ C4 rr (.fT (cL A x))) p5 (.lst (((cL A x).map rdC).map kY))) rr (.dT (cL A x))):=fun b o h=>by
    have nb:b≠rr:=fun z=>by rw [z,hrr] at h; cases h
    have h4:=g4 b o h;have nb5:b≠p5:=fun z=>by rw [z,hp54] at h4; cases h4
    rw [bQ nb,bQ nb5,bQ nb]; exact h4
   refine J7 m6 (by rw [List.length_map]; have:=R4.len; have:=hS.b; omega) fun p7 hp7 => ?_;refine qV xQ ?_;refine ⟨by show 3≤sizeLine; decide,?_⟩;exact q _ (g6.trans (Gr.new hp7 _))
end
def kOf (c:Str×Int):Key×PV:=(.inr c.1,.int c.2)
def dL (ds:List (Str×Int)) (n:Str) (i:Int):List (Str×Int):=if (ds.any fun c=>decide (c.1=n))=true then ds.map fun c=>if c.1=n then (c.1,i) else c else ds++[(n,i)]
def bK (cs ds:List (Str×Int)):List (Str×Int):=ds.foldl (fun acc c=>dL acc c.1 c.2) cs
theorem Qr {x y:Str}:((Sum.inr x:Key)=Sum.inr y)↔x=y:=⟨fun h=>Sum.inr.inj h,fun h=>by rw [h]⟩
theorem put_k (ds:List (Str×Int)) (n:Str) (i:Int):gJ (ds.map kOf) (.inr n) (.int i)=(dL ds n i).map kOf:=by
 have h1:((ds.map kOf).any fun kv=>decide (kv.1=(Sum.inr n:Key)))=ds.any fun c=>decide (c.1=n):=by
  rw [List.any_map]
  congr 1
  funext c
  show decide ((Sum.inr c.1:Key)=Sum.inr n)=decide (c.1=n);exact decide_eq_decide.2 Qr
 have h2:((ds.map kOf).map fun kv=>if kv.1=(Sum.inr n:Key) then (kv.1,PV.int i) else kv)=(ds.map fun c=>if c.1=n then (c.1,i) else c).map kOf:=by
  rw [List.map_map,List.map_map]
  congr 1
  funext c
  show (if (Sum.inr c.1:Key)=Sum.inr n then ((Sum.inr c.1:Key),PV.int i) else kOf c)=kOf (if c.1=n then (c.1,i) else c)
  by_cases e:c.1=n
  ·rw [if_pos (Qr.2 e),if_pos e]; rfl
  ·rw [if_neg (fun z=>e (Qr.1 z)),if_neg e]
 unfold gJ dL;rw [h1]
 by_cases b:(ds.any fun c=>decide (c.1=n))=true
 ·rw [if_pos b,if_pos b,h2]
 ·rw [if_neg b,if_neg b,List.map_append]; rfl
theorem merge_k (ds:List (Str×Int)):∀ cs:List (Str×Int),kG (cs.map kOf) (ds.map kOf)=(bK cs ds).map kOf:=by
 induction ds with
 | nil=>intro cs; rfl
 | cons d ds ih =>
  intro cs;show kG (gJ (cs.map kOf) (.inr d.1) (.int d.2)) (ds.map kOf)=(bK (dL cs d.1 d.2) ds).map kOf;rw [put_k,ih]
theorem Jf:∀ ds:List (Str×Int),oG (ds.map kX)=some (ds.map kOf)
 | []=>rfl
 | d::ds=>by
  show (match oV (.str d.1),oG (ds.map kX) with | some k,some ps=>some ((k,PV.int d.2)::ps) | _,_=>none)=_;rw [Jf ds]; rfl
theorem put_len (ds:List (Str×Int)) (n:Str) (i:Int):(dL ds n i).length≤ds.length+1:=by
 unfold dL
 split
 ·rw [List.length_map]; omega
 ·rw [List.length_append,List.length_singleton]; exact Nat.le_refl _
theorem nU (ds:List (Str×Int)):∀ cs:List (Str×Int),(bK cs ds).length≤cs.length+ds.length:=by
 induction ds with
 | nil=>intro cs; exact Nat.le_refl _
 | cons d ds ih =>
  intro cs;have h1:=ih (dL cs d.1 d.2);have h2:=put_len cs d.1 d.2;show (bK (dL cs d.1 d.2) ds).length≤_;rw [List.length_cons];omega
theorem Qd (cs:List (Str×Int)):(lL cs).length=cs.length:=by
 unfold lL;rw [List.length_map]
 by_cases h:0 < cs.length
 ·have:=(eU (Zm cs) cs.length h).length_eq
  rw [this,List.length_range]
 ·have e:cs.length=0:=by omega
  rw [e,run0]; rfl
theorem VJ (ds:List (Str×Int)) (n:Str) (i:Int):(dL ds n i).map (·.1)=if n∈ds.map (·.1) then ds.map (·.1) else ds.map (·.1)++[n]:=by
 have h:(ds.any fun c=>decide (c.1=n))=true↔n∈ds.map (·.1):=by
  rw [List.any_eq_true,List.mem_map]
  constructor
  ·rintro ⟨c,h1,h2⟩; exact ⟨c,h1,of_decide_eq_true h2⟩
  ·rintro ⟨c,h1,h2⟩; exact ⟨c,h1,decide_eq_true h2⟩
 unfold dL
 by_cases b:(ds.any fun c=>decide (c.1=n))=true
 ·rw [if_pos b,if_pos (h.1 b),List.map_map]
  congr 1
  funext c
  show (if c.1=n then (c.1,i) else c).1=c.1
  split<;>rfl
 ·rw [if_neg b,if_neg (fun z=>b (h.2 z)),List.map_append]; rfl
theorem put_nd {ds:List (Str×Int)}(h:(ds.map (·.1)).Nodup) (n:Str) (i:Int):((dL ds n i).map (·.1)).Nodup:=by
 rw [VJ]
 split
 ·exact h
 ·next z =>
  rw [List.nodup_append]
  exact ⟨h,List.nodup_cons.2 ⟨List.not_mem_nil,List.nodup_nil⟩,fun x hx y hy=>by
   cases List.mem_singleton.1 hy
   exact fun e=>z (e▸hx)⟩
theorem Xs (ds:List (Str×Int)):∀ {cs:List (Str×Int)},(cs.map (·.1)).Nodup→((bK cs ds).map (·.1)).Nodup:=by
 induction ds with
 | nil=>intro cs h; exact h
 | cons d ds ih=>intro cs h; exact ih (put_nd h d.1 d.2)
theorem val_k {cs:List (Str×Int)}(h:(cs.map (·.1)).Nodup) {c:Str×Int}(hc:c∈cs):dJ (cs.map kOf) (.inr c.1)=some (.int c.2):=by
 induction cs with
 | nil=>cases hc
 | cons d cs ih =>
  have h':=List.nodup_cons.1 (show (d.1::cs.map (·.1)).Nodup from h);unfold dJ;rw [List.map_cons,List.find?_cons];show (match decide ((Sum.inr d.1:Key)=Sum.inr c.1) with | true=>some (kOf d) | false=>(cs.map kOf).find? fun kv=>decide (kv.1=Sum.inr c.1)).map (fun kv:Key×PV=>kv.2)=_
  rcases List.mem_cons.1 hc with rfl | hc
  ·rw [decide_eq_true rfl]; rfl
  ·have ne:d.1≠c.1:=fun e=>h'.1 (List.mem_map.2 ⟨c,hc,e.symm⟩)
   rw [decide_eq_false (fun z=>ne (Qr.1 z))];exact ih h'.2 hc
theorem dict_s {ds:List (Str×Int)}{C:CH}{Q:K1}(h:ds.length≤1000) (q:∀ p,C p=none→Q (.ref p) (nQ C p (.dK ((bK [] ds).map kOf)))):eR [.tup (ds.map kX)] C Q:=by
 unfold eR;show (match oG (ds.map kX) with | some ps=>ps.length≤sizeLine∧∀ p,C p=none→Q (.ref p) (nQ C p (.dK (kG [] ps))) | none=>False);rw [Jf];dsimp only;rw [show kG [] (ds.map kOf)=(bK [] ds).map kOf from merge_k ds []];exact ⟨by rw [List.length_map]; exact Nat.le_trans h (by decide),q⟩
theorem putD_s {cs:List (Str×Int)}{n:Str}{i:Int}{p:Addr}{C:CH}{Q:CH→Prop}(m:C p=some (.dK (cs.map kOf))) (h:cs.length≤1000) (q:Q (nQ C p (.dK ((dL cs n i).map kOf)))):oO (.ref p) (.str n) (.int i) C Q:=by
 unfold oO;show (match C p,oV (.str n) with | some (.dK kvs),some k=>kvs.length < sizeLine∧Q (nQ C p (.dK (gJ kvs k (.int i)))) | _,_=>False);rw [m];show (cs.map kOf).length < sizeLine∧Q (nQ C p (.dK (gJ (cs.map kOf) (.inr n) (.int i))));rw [put_k,List.length_map];exact ⟨Nat.lt_of_le_of_lt h (by decide),q⟩
theorem dix_s {kvs:List (Key×PV)}{k:Key}{y v:PV}{p:Addr}{C:CH}{Q:K1}(m:dOf (C p)=some kvs) (hk:oV y=some k) (hv:dJ kvs k=some v) (q:Q v C):sE (.ref p) y C Q:=by
 unfold sE;show (match dOf (C p),oV y with | some kvs,some k=>(match dJ kvs k with | some v=>Q v C | none=>False) | _,_=>False);rw [m,hk];dsimp only;rw [hv];exact q
theorem Yd {cs:List (Str×Int)}(nd:(cs.map (·.1)).Nodup) {ρ:CSt}{j:Nat}{d:Addr}{R:K1}{C:CH}(hl:cs.length≤1000) (hj:ρ[j]?=some (some (.ref d))) (m:C d=some (.fK (cs.map kOf))) (q:∀ p,C p=none→R (.ref p) (nQ C p (.lst (cs.map kX)))) (zs:List (Str×Int)) :
  ∀ done:List (Str×Int),cs=done++zs→zJ sD (K3 (wU (qW 0) (wU (cOp sE (qW (j+1)) (qW 0)) X4))) ρ R (zs.map fun c=>PV.str c.1) (done.map kX) C:=by
 induction zs with
 | nil =>
  intro done e;rw [List.append_nil] at e;subst e;exact q
 | cons z zs ih =>
  intro done e;have hz:z∈cs:=by rw [e]; exact List.mem_append_right _ List.mem_cons_self
  show qW (j+1) (some (.str z.1)::ρ) C fun x C1=>qW 0 (some (.str z.1)::ρ) C1 fun y C2=>sE x y C2 fun v C3=>[PV.str z.1,v].length≤sizeLine∧(done.map kX).length < sizeLine∧zJ sD (K3 (wU (qW 0) (wU (cOp sE (qW (j+1)) (qW 0)) X4))) ρ R (zs.map fun c=>PV.str c.1) (done.map kX++[.tup [.str z.1,v]]) C3;unfold qW;rw [show (some (PV.str z.1)::ρ)[j+1]?=some (some (.ref d)) from hj];dsimp only;refine dix_s (kvs:=cs.map kOf) (k:=.inr z.1) (v:=.int z.2) (by rw [m]; rfl) rfl (val_k nd hz) ⟨by show 2≤sizeLine; decide,?_,?_⟩
  ·rw [List.length_map]
   have:done.length≤cs.length:=by rw [e,List.length_append]; omega
   exact Nat.lt_of_le_of_lt (Nat.le_trans this hl) (by decide)
  ·rw [show done.map kX++[.tup [.str z.1,.int z.2]]=(done++[z]).map kX by rw [List.map_append]; rfl]
   exact ih (done++[z]) (by rw [e,List.append_assoc]; rfl)
theorem WA:∀ cs:List (Str×Int),((cs.map kOf).map fun p=>bY p.1)=cs.map fun c=>PV.str c.1
 | []=>rfl
 | c::cs=>by
  show PV.str c.1::((cs.map kOf).map fun p=>bY p.1)=_;rw [WA cs]; rfl
theorem compD_s {cs:List (Str×Int)}(nd:(cs.map (·.1)).Nodup) {ρ:CSt}{j:Nat}{d:Addr}{Q:K1}{C:CH}(hl:cs.length≤1000) (hj:ρ[j]?=some (some (.ref d))) (m:C d=some (.dK (cs.map kOf))) (q:∀ p C',C' p=some (.lst (cs.map kX))→Gr C C'→Q (.ref p) C') :
  QJ (qW j) sD (K3 (wU (qW 0) (wU (cOp sE (qW (j+1)) (qW 0)) X4))) ρ C Q:=by
 unfold QJ;have hv:∀ (Q:K1),Q (.ref d) C→qW j ρ C Q:=fun Q h=>by unfold qW; rw [hj]; exact h
 refine hv _ ?_;dsimp only;rw [m];dsimp only;rw [WA];refine Yd nd hl hj xQ (fun p hp => ?_) cs [] rfl;have ne:p≠d:=fun e=>by subst e; rw [xQ] at hp; cases hp
 have hp':C p=none:=by rw [bQ ne] at hp; exact hp
 refine ⟨by rw [bQ (Ne.symm ne),xQ],q p _ (by rw [bQ ne,xQ]) fun b o e => ?_⟩
 by_cases h1:b=d
 ·subst h1; rw [m] at e; cases e; exact xQ
 ·by_cases h2:b=p
  ·subst h2; rw [hp'] at e; cases e
  ·rw [bQ h1,bQ h2,bQ h1]; exact e
def tG (ds ms:List (Str×Int)):List (Str×Int):=lL (bK (bK [] ds) ms)
theorem xH (ds ms:List (Str×Int)):(tG ds ms).length≤ds.length+ms.length:=by
 unfold tG;rw [Qd];have h1:=nU ms (bK [] ds);have h2:=nU ds [];have:([]:List (Str×Int)).length=0:=rfl;omega
def SBd (cs:List (Str×Int)):Prop:=∀ c∈cs,Bd c.2
theorem Xg {cs:List (Str×Int)}{c:Str×Int}(h:c∈lL cs):c∈cs:=by
 unfold lL at h;obtain ⟨i,hi,rfl⟩:=List.mem_map.1 h
 have hl:0 < cs.length:=by
  rcases Nat.eq_zero_or_pos cs.length with z | z
  ·rw [z,run0] at hi; cases hi
  ·exact z
 have:=(eU (Zm cs) cs.length hl).mem_iff.mp hi;rw [List.mem_range] at this;rw [List.getD_eq_getElem?_getD,List.getElem?_eq_getElem this];exact List.getElem_mem _
theorem SBd.put {cs:List (Str×Int)}(h:SBd cs) (n:Str) {i:Int}(hi:Bd i):SBd (dL cs n i):=by
 intro c hc;unfold dL at hc
 split at hc
 ·obtain ⟨x,hx,rfl⟩:=List.mem_map.1 hc
  split
  ·exact hi
  ·exact h x hx
 ·rcases List.mem_append.1 hc with hc | hc
  ·exact h c hc
  ·cases List.mem_singleton.1 hc; exact hi
theorem SBd.merge {ms:List (Str×Int)}(hm:SBd ms):∀ {cs:List (Str×Int)},SBd cs→SBd (bK cs ms):=by
 induction ms with
 | nil=>intro cs h; exact h
 | cons m ms ih =>
  intro cs h;exact ih (fun c hc=>hm c (List.mem_cons_of_mem _ hc)) (h.put m.1 (hm m List.mem_cons_self))
theorem SBd.over {ds ms:List (Str×Int)}(hd:SBd ds) (hm:SBd ms):SBd (tG ds ms):=fun c hc=>(SBd.merge hm (SBd.merge hd (cs:=[]) (fun _ z=>nomatch z))) c (Xg hc)
section
variable {P:Program}{w:World}{K:PySem.W.Frag}{mg:Str→Option Value}{base:Heap}{a:Adr}
def gOver:GC:=fun ts C Q=>∃ (ds ms:List (Str×Int)),ts=[.tup (ds.map kX),.tup (ms.map kX)]∧ds.length+ms.length≤60∧∀ C',Gr C C'→Q (.tup ((tG ds ms).map kX)) C'
theorem Jh (T:Txt P w K mg a):FnOk P w K mg base CX0 1 a.Qn a.wO U32 (spC K gOver):=by
 have S:=yA
 refine Fun.okC T.wE yA (fun ts C R h => ?_) fun cdv A outer s H E hr=>⟨_,(vQ (dQ (i:=2) S.nd rfl (Or.inr rfl) (xX (ZQ rfl) Yp rfl T.Vi rfl (qQ (cv 0) zQ)))
  (vQ (eB PassesOwn.never rfl (cv 1) (vF rfl (aX (pX (i:=3) S.nd rfl (Or.inl rfl)) (aX (pX (i:=4) S.nd rfl (Or.inl rfl)) jU))) (mQ (iK (vZ hr) (cv 2) (cv 3) (cv 4))))
  (mQ (Yb 3 (xX zX dZ rfl T.bZ rfl (qQ (mX (rP rfl) rO rfl T.iR rfl (qQ (Ym rfl (show (["_law_name","_law_downs","_law_more","_law_found","?","_law_number_here"]:List Str).Nodup by decide +kernel) (yJ (N:=["_law_downs","_law_more","_law_found","?","_law_number_here"]) (sc:=kQ jW) rfl rfl rfl (by decide +kernel)) (cv 2) (fun _ _ _ _ _=>vV) (fun _ _ _ _ _=>(sQ (qQ (cv 0) (qQ (nZ (vZ hr) (cv 3) (cv 0) (fun _ _=>rfl)) zQ))))) zQ)) zQ)))))),?_⟩
 ·obtain ⟨ds,ms,rfl,_⟩:=h; rfl
 rintro ts C R ⟨ds,ms,rfl,hd,q⟩;have hm:(bK [] ds).length≤ds.length:=Nat.le_trans (nU ds []) (by show 0+ds.length≤ds.length; omega);refine cQ ?_;refine dict_s (by omega) fun p p0 => ?_
 try dsimp only
 refine oZ ?_;refine mH rfl ?_;refine kK (fun zs ρ C'=>∃ (x3 x4:Option PV) (us vs:List (Str×Int)),ms=us++vs∧zs=vs.map kX∧ρ=[some (.tup (ds.map kX)),some (.tup (ms.map kX)),some (.ref p),x3,x4]∧C' p=some (.dK ((bK (bK [] ds) us).map kOf))∧Gr C C') ?_ ?_ _ _ _ ⟨_,_,[],ms,rfl,rfl,rfl,xQ,Gr.new p0 _⟩
 ·rintro z zs ρ C1 ⟨x3,x4,us,vs,e,hz,rfl,m1,g1⟩ L hL
  cases vs with
  | nil=>cases hz
  | cons v vs =>
   obtain ⟨rfl,rfl⟩:=List.cons.inj hz;refine ⟨rfl,?_⟩;refine yZ (yZ (qF ?_))
   try dsimp only
   have hl:=nU us (bK [] ds);have hul:us.length≤ms.length:=by rw [e,List.length_append]; omega
   refine putD_s (i:=v.2) m1 (by omega) ?_;refine hL _ _ ⟨_,_,us++[v],vs,by rw [List.append_assoc]; exact e,rfl,rfl,?_,bG g1 p0 _⟩;rw [xQ];unfold bK;rw [List.foldl_append]
   rfl
 ·rintro ρ C1 ⟨x3,x4,us,vs,e,hz,rfl,m1,g1⟩
  cases vs with
  | cons v vs=>cases hz
  | nil =>
  rw [List.append_nil] at e;subst e
  try dsimp only
  have hl:=nU ms (bK [] ds);refine compD_s (Xs ms (Xs ds (cs:=[]) List.nodup_nil)) (by omega) rfl m1 fun p2 C2 m2 g2 => ?_;refine Q1 m2 (by omega) fun p3 p30 => ?_;refine qV xQ ?_;exact q _ ((g1.trans g2).trans (Gr.new p30 _))
end
def Wt.sp:Wt→List Key
 | .plain s _ _ _ _=>s
 | .part s _ _=>s
 | .give s _ _ _=>s
def WtOk (rs:List Str):Nat→Wt→Prop
 | 0,_=>False
 | _+1,.part sp n g=>sp.length≤2∧n∈rs∧g.length≤4∧SBd g
 | d+1,.give sp _ i r=>sp.length≤2∧Bd i∧(∀ x∈r,WtOk rs d x)∧(r.map Wt.sp).Nodup
 | d+1,.plain sp _ ss h r=>sp.length≤2∧(ss.length≤4∧h.length≤4∧∀ x∈h,x.ch.length≤4)∧(∀ x∈r,WtOk rs d x)∧(r.map Wt.sp).Nodup
def X9 (rs:List Str) (d:Nat) (r:List Wt):Prop:=(∀ x∈r,WtOk rs d x)∧(r.map Wt.sp).Nodup
theorem WtOk.up {rs:List Str}:∀ {d:Nat}{x:Wt},WtOk rs d x→WtOk rs (d+1) x:=by
 intro d
 induction d with
 | zero=>intro x h; exact h.elim
 | succ d ih =>
  intro x h
  cases x with
  | plain s t g hs r=>exact ⟨h.1,h.2.1,fun y hy=>ih (h.2.2.1 y hy),h.2.2.2⟩
  | part s n g=>exact h
  | give s n i r=>exact ⟨h.1,h.2.1,fun y hy=>ih (h.2.2.1 y hy),h.2.2.2⟩
theorem WtOk.mono {rs:List Str}{d e:Nat}{x:Wt}(h:WtOk rs d x) (le:d≤e):WtOk rs e x:=by
 induction le with
 | refl=>exact h
 | step _ ih=>exact ih.up
theorem WtOk.spl {rs:List Str}{d:Nat}{x:Wt}(h:WtOk rs d x):x.sp.length≤2:=by
 cases d with
 | zero=>exact h.elim
 | succ d=>cases x<;>exact h.1
def SpInv (F:List Wt) (N:Tns):Prop:=(F.map Wt.sp).Nodup∧∀ x∈F,∃ k c,x.sp=[k,.inl (some c)]∧c < kF N k
def StOk (rs:List Str) (e:Nat) (st:DSt):Prop:=(∀ x∈st.1,WtOk rs e x)∧SpInv st.1 st.2.1
theorem pO (N:Tns) (k k':Key):kF (gY N k) k'=if k'=k then kF N k+1 else kF N k':=by
 unfold gY;show (match dJ (gJ N k (.int (kF N k+1))) k' with | some (.int i)=>i | _=>0)=_;rw [iC]
 by_cases e:k'=k
 ·rw [if_pos e,if_pos e]
 ·rw [if_neg e,if_neg e]; rfl
theorem SpInv.add {F:List Wt}{N:Tns}(h:SpInv F N) {x:Wt}{k:Key}(hx:x.sp=vB N k):SpInv (F++[x]) (gY N k):=by
 refine ⟨?_,fun y hy => ?_⟩
 ·rw [List.map_append,List.nodup_append]
  refine ⟨h.1,by simp,fun a ha b hb e => ?_⟩;have hb:b=x.sp:=by simpa using hb
  obtain ⟨y,hy,rfl⟩:=List.mem_map.1 ha;obtain ⟨k',c,e1,e2⟩:=h.2 y hy;rw [hb,hx] at e;rw [e1] at e;unfold vB at e;injection e with e3 e4
  injection e4 with e5
  injection e5 with e5
  injection e5 with e5
  rw [e3,e5] at e2;omega
 ·rcases List.mem_append.1 hy with hy | hy
  ·obtain ⟨k',c,e1,e2⟩:=h.2 y hy
   refine ⟨k',c,e1,?_⟩;rw [pO]
   split
   ·next z=>rw [← z]; omega
   ·exact e2
  ·cases List.mem_singleton.1 hy
   exact ⟨k,kF N k,hx,by rw [pO,if_pos rfl]; omega⟩
theorem Wh {A:Rds}{τ:Tns}{bs ns:List Str}(hS:vN A τ bs ns) {d:Nat}{ps:List (Str×Rk)}(h:oE bs ns d ps):SBd (lL (sV A τ ps)):=fun c hc=>by
 have:=Xg hc;unfold sV at this;obtain ⟨p,hp,rfl⟩:=List.mem_map.1 this;exact kS hS.a hS.t hS.h (h p hp)
theorem eO {A:Rds}{bs rs:List Str}{d:Nat}(h1:∀ e,d≤e→∀ l ns τ st,LnOk bs rs d ns l→vN A τ bs ns→StOk rs e st→StOk rs e (sZ A l τ st)):∀ e,d≤e→∀ (ls:List Ln) (ns:List Str) (τ:Tns) (st:DSt),(∀ x∈ls,LnOk bs rs d ns x)→vN A τ bs ns→StOk rs e st→StOk rs e (bX A ls τ st)
 | e,le,[],ns,τ,st,_,_,h=>by rw [sJ]; exact h
 | e,le,l::ls,ns,τ,st,hl,hS,h=>by
  rw [vJ];exact eO h1 e le ls ns τ _ (fun x hx=>hl x (List.mem_cons_of_mem _ hx)) hS (h1 e le l ns τ st (hl l List.mem_cons_self) hS h)
theorem StOk.nil {rs:List Str}{e:Nat}{R:Rds}:StOk rs e ([],[],R):=⟨fun _ z=>(nomatch z),List.nodup_nil,fun _ z=>(nomatch z)⟩
theorem one_st {A:Rds}{bs rs:List Str}:∀ (d e:Nat),d≤e→∀ (l:Ln) (ns:List Str) (τ:Tns) (st:DSt),LnOk bs rs d ns l→vN A τ bs ns→StOk rs e st→StOk rs e (sZ A l τ st):=by
 intro d
 induction d with
 | zero=>intro e le l ns τ st h; exact h.elim
 | succ d ih =>
  intro e le l ns τ st h hS hst;have br:=eO ih
  have add:∀ (x:Wt) (k:Key) (R:Rds),WtOk rs (d+1) x→x.sp=vB st.2.1 k→StOk rs e (st.1++[x],gY st.2.1 k,R):=by
   intro x k R hx hsp;refine ⟨fun y hy => ?_,hst.2.add hsp⟩
   rcases List.mem_append.1 hy with hy | hy
   ·exact hst.1 y hy
   ·cases List.mem_singleton.1 hy; exact hx.mono le
  cases l with
  | plain k tag s hs ls =>
   obtain ⟨h1,h2,h3,h4,h5⟩:=h;rw [sZ];have b:=br d (Nat.le_refl _) ls ns τ ([],[],fW A τ s (gW A τ hs (mM A τ k st.2.2))) h4 hS StOk.nil;refine add _ _ _ ⟨Nat.le_refl 2,⟨?_,?_,fun x hx => ?_⟩,b.1,b.2.1⟩ rfl
   ·rw [Qd]; unfold sV; rw [List.length_map]; exact h2.2
   ·unfold gG; rw [List.length_map]; exact h3.2
   ·unfold gG at hx
    obtain ⟨y,hy,rfl⟩:=List.mem_map.1 hx;show (KZ A τ y.ch).length≤4;unfold KZ;rw [List.length_map];exact (h3.1 y hy).1
  | part k n g =>
   obtain ⟨h1,h2,h3,h4⟩:=h;rw [sZ];refine add _ _ _ ⟨Nat.le_refl 2,h2,?_,Wh hS h3⟩ rfl;rw [Qd];unfold sV;rw [List.length_map];exact h4
  | give k n r ls =>
   obtain ⟨h1,h2,h3,h4,h5⟩:=h;rw [sZ];have b:=br d (Nat.le_refl _) ls ns τ ([],[],r.rds A τ (mM A τ k st.2.2)) h4 hS StOk.nil;exact add _ _ _ ⟨Nat.le_refl 2,kS hS.a hS.t hS.h h3,b.1,b.2.1⟩ rfl
  | when r l1 l2 =>
   obtain ⟨h1,⟨h2,h3⟩,h4,h5⟩:=h;rw [sZ]
   split
   ·exact br e (by omega) l2 ns τ _ h4 hS hst
   ·exact br e (by omega) l1 ns τ _ h2 hS hst
  | each n r ls =>
   obtain ⟨h1,h2,h3⟩:=h;rw [sZ]
   have:∀ (l:List Nat),(∀ k∈l,k < 8)→∀ x:DSt,StOk rs e x→StOk rs e (l.foldl (fun st k=>bX A ls (gJ τ (.inr n) (.int (k:Nat))) st) x):=by
    intro l
    induction l with
    | nil=>intro _ x hx; exact hx
    | cons k l ihl =>
     intro hk x hx;have k8:=hk k List.mem_cons_self;refine ihl (fun j hj=>hk j (List.mem_cons_of_mem _ hj)) _ (br e (by omega) ls [n] _ x h2 ⟨hS.a,hS.t.put _ (by unfold Bd; omega),fun m hm => ?_,hS.b⟩ hx);cases List.mem_singleton.1 hm;rw [iC,if_pos rfl]; rfl
   refine this _ (fun k hk => ?_) _ hst;rw [List.mem_range] at hk;have:=lP (r.val A τ);omega
theorem row_ok {A:Rds}{τ:Tns}{bs rs ns:List Str}{d:Nat}{ls:List Ln}{R:Rds}(h:∀ x∈ls,LnOk bs rs d ns x) (hS:vN A τ bs ns):X9 rs d (bX A ls τ ([],[],R)).1:=by
 have b:=eO (one_st d) d (Nat.le_refl _) ls ns τ ([],[],R) h hS StOk.nil;exact ⟨b.1,b.2.1⟩
mutual
def Wt.pc:Wt→Nat
 | .plain _ _ _ _ r=>Wt.pcs r
 | .part _ _ _=>1
 | .give _ _ _ r=>Wt.pcs r
def Wt.pcs:List Wt→Nat
 | []=>0
 | x::r=>x.pc+Wt.pcs r
end
theorem Wt.pcs_app (xs ys:List Wt):Wt.pcs (xs++ys)=Wt.pcs xs+Wt.pcs ys:=by
 induction xs with
 | nil=>show _=0+_; rw [Nat.zero_add]; rfl
 | cons x xs ih=>show x.pc+Wt.pcs (xs++ys)=x.pc+Wt.pcs xs+Wt.pcs ys; rw [ih]; omega
mutual
theorem one_pc (A:Rds):∀ (l:Ln) (τ:Tns) (st:DSt),Wt.pcs (sZ A l τ st).1≤Wt.pcs st.1+l.pw
 | .when r l1 l2,τ,st=>by
  rw [sZ];have h1:=dG A l1 τ (st.1,st.2.1,r.rds A τ st.2.2);have h2:=dG A l2 τ (st.1,st.2.1,r.rds A τ st.2.2);show _≤_+(Ln.pws l1+Ln.pws l2)
  split
  ·exact Nat.le_trans h2 (by show Wt.pcs st.1+_≤_; omega)
  ·exact Nat.le_trans h1 (by show Wt.pcs st.1+_≤_; omega)
 | .each n r ls,τ,st=>by
  rw [sZ];have c:=lP (r.val A τ);have f1:=rB (f:=fun st k=>bX A ls (gJ τ (.inr n) (.int (k:Nat))) st) (m:=fun st=>Wt.pcs st.1) (c:=Ln.pws ls) (fun x k=>dG A ls _ x) (List.range (eC (r.val A τ))) (st.1,st.2.1,r.rds A τ st.2.2);rw [List.length_range] at f1;have hm:eC (r.val A τ) * Ln.pws ls≤8 * Ln.pws ls:=Nat.mul_le_mul_right _ c;show _≤Wt.pcs st.1+8 * Ln.pws ls;exact Nat.le_trans f1 (by show Wt.pcs st.1+_≤_; omega)
 | .part k n g,τ,st=>by
  rw [sZ];show Wt.pcs (st.1++[_])≤_;rw [Wt.pcs_app];exact Nat.le_refl _
 | .give k n r ls,τ,st=>by
  rw [sZ];have h:=dG A ls τ ([],[],r.rds A τ (mM A τ k st.2.2));show Wt.pcs (st.1++[_])≤_;rw [Wt.pcs_app];show Wt.pcs st.1+(Wt.pcs _+0)≤Wt.pcs st.1+Ln.pws ls;have h:Wt.pcs (bX A ls τ ([],[],r.rds A τ (mM A τ k st.2.2))).1≤0+Ln.pws ls:=h;omega
 | .plain k tag s hs ls,τ,st=>by
  rw [sZ];have h:=dG A ls τ ([],[],fW A τ s (gW A τ hs (mM A τ k st.2.2)));show Wt.pcs (st.1++[_])≤_;rw [Wt.pcs_app];show Wt.pcs st.1+(Wt.pcs _+0)≤Wt.pcs st.1+Ln.pws ls;have h:Wt.pcs (bX A ls τ ([],[],fW A τ s (gW A τ hs (mM A τ k st.2.2)))).1≤0+Ln.pws ls:=h;omega
theorem dG (A:Rds):∀ (ls:List Ln) (τ:Tns) (st:DSt),Wt.pcs (bX A ls τ st).1≤Wt.pcs st.1+Ln.pws ls
 | [],τ,st=>by rw [sJ]; exact Nat.le_add_right _ _
 | l::ls,τ,st=>by
  rw [vJ];have h1:=one_pc A l τ st;have h2:=dG A ls τ (sZ A l τ st);show _≤_+(l.pw+Ln.pws ls);omega
end
mutual
def Wt.wc:Wt→Nat
 | .plain _ _ _ _ r=>1+Wt.wcs r
 | .part _ _ _=>1
 | .give _ _ _ r=>1+Wt.wcs r
def Wt.wcs:List Wt→Nat
 | []=>0
 | x::r=>x.wc+Wt.wcs r
end
theorem Wt.wcs_app (xs ys:List Wt):Wt.wcs (xs++ys)=Wt.wcs xs+Wt.wcs ys:=by
 induction xs with
 | nil=>show _=0+_; rw [Nat.zero_add]; rfl
 | cons x xs ih=>show x.wc+Wt.wcs (xs++ys)=x.wc+Wt.wcs xs+Wt.wcs ys; rw [ih]; omega
mutual
theorem one_wc (A:Rds):∀ (l:Ln) (τ:Tns) (st:DSt),Wt.wcs (sZ A l τ st).1≤Wt.wcs st.1+l.tw
 | .when r l1 l2,τ,st=>by
  rw [sZ];have h1:=pG A l1 τ (st.1,st.2.1,r.rds A τ st.2.2);have h2:=pG A l2 τ (st.1,st.2.1,r.rds A τ st.2.2);show _≤_+(Ln.tws l1+Ln.tws l2)
  split
  ·exact Nat.le_trans h2 (by show Wt.wcs st.1+_≤_; omega)
  ·exact Nat.le_trans h1 (by show Wt.wcs st.1+_≤_; omega)
 | .each n r ls,τ,st=>by
  rw [sZ];have c:=lP (r.val A τ);have f1:=rB (f:=fun st k=>bX A ls (gJ τ (.inr n) (.int (k:Nat))) st) (m:=fun st=>Wt.wcs st.1) (c:=Ln.tws ls) (fun x k=>pG A ls _ x) (List.range (eC (r.val A τ))) (st.1,st.2.1,r.rds A τ st.2.2);rw [List.length_range] at f1;have hm:eC (r.val A τ) * Ln.tws ls≤8 * Ln.tws ls:=Nat.mul_le_mul_right _ c;show _≤Wt.wcs st.1+8 * Ln.tws ls;exact Nat.le_trans f1 (by show Wt.wcs st.1+_≤_; omega)
 | .part k n g,τ,st=>by
  rw [sZ];show Wt.wcs (st.1++[_])≤_;rw [Wt.wcs_app];exact Nat.le_refl _
 | .give k n r ls,τ,st=>by
  rw [sZ];have h:=pG A ls τ ([],[],r.rds A τ (mM A τ k st.2.2));show Wt.wcs (st.1++[_])≤_;rw [Wt.wcs_app];show Wt.wcs st.1+((1+Wt.wcs _)+0)≤Wt.wcs st.1+(1+Ln.tws ls);have h:Wt.wcs (bX A ls τ ([],[],r.rds A τ (mM A τ k st.2.2))).1≤0+Ln.tws ls:=h;omega
 | .plain k tag s hs ls,τ,st=>by
  rw [sZ];have h:=pG A ls τ ([],[],fW A τ s (gW A τ hs (mM A τ k st.2.2)));show Wt.wcs (st.1++[_])≤_;rw [Wt.wcs_app];show Wt.wcs st.1+((1+Wt.wcs _)+0)≤Wt.wcs st.1+(1+Ln.tws ls);have h:Wt.wcs (bX A ls τ ([],[],fW A τ s (gW A τ hs (mM A τ k st.2.2)))).1≤0+Ln.tws ls:=h;omega
theorem pG (A:Rds):∀ (ls:List Ln) (τ:Tns) (st:DSt),Wt.wcs (bX A ls τ st).1≤Wt.wcs st.1+Ln.tws ls
 | [],τ,st=>by rw [sJ]; exact Nat.le_add_right _ _
 | l::ls,τ,st=>by
  rw [vJ];have h1:=one_wc A l τ st;have h2:=pG A ls τ (sZ A l τ st);show _≤_+(l.tw+Ln.tws ls);omega
end
structure Prt where
 path:cX
 name:Str
 gives:List (Str×Int)
 downs:List (Str×Int)
def kZ (p:cX):PV:=.tup (p.map zK)
def Prt.pv (x:Prt):PV:=.tup [kZ x.path,.str x.name,.tup (x.gives.map kX),.tup (x.downs.map kX)]
mutual
def Wt.prt:Wt→cX→List (Str×Int)→List Prt
 | .part sp n g,s,ds=>[⟨s++[sp],n,g,ds⟩]
 | .give sp n i r,s,ds=>Wt.prts r (s++[sp]) (tG ds [(n,i)])
 | .plain sp _ _ _ r,s,ds=>Wt.prts r (s++[sp]) ds
def Wt.prts:List Wt→cX→List (Str×Int)→List Prt
 | [],_,_=>[]
 | x::r,s,ds=>x.prt s ds++Wt.prts r s ds
end
mutual
theorem prt_len:∀ (x:Wt) (s:cX) (ds:List (Str×Int)),(x.prt s ds).length=x.pc
 | .part _ _ _,_,_=>rfl
 | .give sp n i r,s,ds=>by rw [Wt.prt,Wt.pc]; exact zG r _ _
 | .plain sp _ _ _ r,s,ds=>by rw [Wt.prt,Wt.pc]; exact zG r _ _
theorem zG:∀ (r:List Wt) (s:cX) (ds:List (Str×Int)),(Wt.prts r s ds).length=Wt.pcs r
 | [],_,_=>rfl
 | x::r,s,ds=>by rw [Wt.prts,Wt.pcs,List.length_append,prt_len x,zG r]
end
theorem VQ (xs ys:List Wt) (s:cX) (ds:List (Str×Int)):Wt.prts (xs++ys) s ds=Wt.prts xs s ds++Wt.prts ys s ds:=by
 induction xs with
 | nil=>rfl
 | cons x xs ih=>rw [List.cons_append,Wt.prts,Wt.prts,ih,List.append_assoc]
theorem Vj (x:Wt):∃ (wd:Str) (rest:List PV),x.pv=.tup (.str wd::zK x.sp::rest)∧(wd = "plain" ∨ wd = "part" ∨ wd = "give"):=by
 cases x with
 | plain s t g h r=>exact ⟨"plain",_,by rw [Wt.pv]; rfl,.inl rfl⟩
 | part s n g=>exact ⟨"part",_,by rw [Wt.pv]; rfl,.inr (.inl rfl)⟩
 | give s n i r=>exact ⟨"give",_,by rw [Wt.pv]; rfl,.inr (.inr rfl)⟩
section
variable {P:Program}{w:World}{K:PySem.W.Frag}{mg:Str→Option Value}{base:Heap}{a:Adr}
def gPs (d:Nat):GC:=fun ts C Q=>∃ (r:List Wt) (s:cX) (ds:List (Str×Int)) (rs:List Str),ts=[.tup (Wt.pvs r),kZ s,.tup (ds.map kX)]∧X9 rs d r∧s.length+d≤50∧ds.length+d≤50∧Wt.pcs r≤1000 ∧
 ∀ p C',C p=none→C' p=some (.lst ((Wt.prts r s ds).map Prt.pv))→Gr C C'→Q (.ref p) C'
theorem V8 (T:Txt P w K mg a) (d:Nat):FnOk P w K mg base CX0 (d+2) a.bB a.tY U10 (spC K (gPs d)):=by
 have main:∀ n,(∀ d',n=d'+1→FnOk P w K mg base CX0 (n+1) a.bB a.tY U10 (spC K (gPs d')))→FnOk P w K mg base CX0 (n+2) a.bB a.tY U10 (spC K (gPs n)):=by
  intro n ih;have S:=pS;have zE:=(Jh (base:=base) T).mono (show 1≤n+1 by omega)
  have zD:FnOk P w K mg base CX0 (n+1) a.bB a.tY U10 (spC K (fun ts C Q=>∃ d',n=d'+1∧gPs d' ts C Q)):=by
   cases n with
   | zero=>exact uW fun ts C Q ⟨d',e,_⟩=>by omega
   | succ d' =>
    have:=ih d' rfl
    have e:(fun ts C Q=>∃ d'',d'+1=d''+1∧gPs d'' ts C Q)=gPs d':=by
     funext ts C Q
     refine propext ⟨fun ⟨d'',e,h⟩ => ?_,fun h=>⟨d',rfl,h⟩⟩;cases Nat.succ.inj e;exact h
    rw [e];exact this
  refine Fun.okC T.pN pS (fun ts C R h => ?_) fun cdv A outer s H E hr=>⟨_,(vQ (dQ (i:=3) S.nd rfl (Or.inl rfl) (mZ zQ))
  (vQ (eB PassesOwn.never rfl (cv 0) (pX (i:=4) S.nd rfl (Or.inl rfl)) (vQ (dQ (i:=5) S.nd rfl (Or.inl rfl) (uX hX rX (cv 1) (sQ (qQ (rQ (r:=rIx K) yQ uQ (cv 4) jQ (fun _ _=>rfl)) zQ))))
  (vQ (sX (iQ uZ nX (rQ (r:=rIx K) yQ uQ (cv 4) jQ (fun _ _=>rfl)) gQ (oQ _)) (mQ (mJ (wF PySem.F.plainAttrs_list PySem.F.slot_list_append PySem.F.type_list_append pJ tJ (cv 3) (qQ (sQ (qQ (cv 5) (qQ (rQ (r:=rIx K) yQ uQ (cv 4) jQ (fun _ _=>rfl)) (qQ (rQ (r:=rIx K) yQ uQ (cv 4) jQ (fun _ _=>rfl)) (qQ (cv 2) zQ))))) zQ)))) dX)
  (vQ (sX (iQ uZ nX (rQ (r:=rIx K) yQ uQ (cv 4) jQ (fun _ _=>rfl)) gQ (oQ _)) (mQ (dQ (i:=3) S.nd rfl (Or.inl rfl) (uX hX rX (cv 3) (wQ zD hr rfl T.wH T.k_l_parts T.b_l_parts lQ (qQ (rQ (r:=rIx K) yQ uQ (cv 4) jQ (fun _ _=>rfl)) (qQ (cv 5) (qQ (wQ zE hr rfl T.Xt T.k_l_over T.b_l_over lQ (qQ (cv 2) (qQ (sQ (qQ (sQ (qQ (rQ (r:=rIx K) yQ uQ (cv 4) jQ (fun _ _=>rfl)) (qQ (rQ (r:=rIx K) yQ uQ (cv 4) jQ (fun _ _=>rfl)) zQ))) zQ)) zQ))) zQ))))))) dX)
  (mQ (sX (iQ uZ nX (rQ (r:=rIx K) yQ uQ (cv 4) jQ (fun _ _=>rfl)) gQ (oQ _)) (mQ (dQ (i:=3) S.nd rfl (Or.inl rfl) (uX hX rX (cv 3) (wQ zD hr rfl T.wH T.k_l_parts T.b_l_parts lQ (qQ (rQ (r:=rIx K) yQ uQ (cv 4) jQ (fun _ _=>rfl)) (qQ (cv 5) (qQ (cv 2) zQ))))))) dX))))))
  (mQ (jX (cv 3))))),?_⟩
  ·obtain ⟨r,s,ds,rs,rfl,_⟩:=h; rfl
  rintro ts C R ⟨r,s,ds,rs,rfl,ok,hs,hd,hpc,q⟩;refine cQ ?_;refine ⟨by show 0≤sizeLine; decide,fun p p0 => ?_⟩
  try dsimp only
  refine oZ ?_;refine mH rfl ?_;refine kK (fun zs ρ C'=>∃ (p:Addr) (x4 x5:Option PV) (us vs:List Wt),r=us++vs∧zs=Wt.pvs vs∧ρ=[some (.tup (Wt.pvs r)),some (kZ s),some (.tup (ds.map kX)),some (.ref p),x4,x5]∧C p=none∧C' p=some (.lst ((Wt.prts us s ds).map Prt.pv))∧Gr C C') ?_ ?_ _ _ _ ⟨p,_,_,[],r,rfl,rfl,rfl,p0,xQ,Gr.new p0 _⟩
  ·rintro z zs ρ C1 ⟨p,x4,x5,us,vs,e,hz,rfl,p0,m1,g1⟩ L hL
   cases vs with
   | nil=>cases hz
   | cons u vs =>
   obtain ⟨rfl,rfl⟩:=List.cons.inj (show z::zs=u.pv::Wt.pvs vs from hz);have hu:=ok.1 u (by rw [e]; exact List.mem_append_right _ List.mem_cons_self);have hpc2:Wt.pcs us+(u.pc+Wt.pcs vs)≤1000:=by have:=hpc; rw [e,Wt.pcs_app] at this; exact this
   have hus:((Wt.prts us s ds).map Prt.pv).length=Wt.pcs us:=by rw [List.length_map,zG]
   have ea:Wt.prts (us++[u]) s ds=Wt.prts us s ds++u.prt s ds:=by rw [VQ,Wt.prts,Wt.prts,List.append_nil]
   obtain ⟨wd,rest,ep,hwd⟩:=Vj u;refine cQ ?_;refine fX ep xM ?_;refine ⟨by show 1≤sizeLine; decide,?_⟩;refine xB (lY (by rw [List.length_map]; show s.length+1≤1000; omega)) ?_
   try dsimp only
   have eh:PV.tup (s.map zK++[zK u.sp])=kZ (s++[u.sp]):=by unfold kZ; rw [List.map_append]; rfl
   rw [eh]
   cases n with
   | zero=>exact hu.elim
   | succ d' =>
   cases u with
   | part sp nm g =>
    have ep:(Wt.part sp nm g).pv=.tup [.str "part",zK sp,.str nm,.tup (g.map kX)]:=by rw [Wt.pv]
    refine oZ ?_;refine fX ep gX ?_;refine iX (qX _ _) ?_;refine cW (by decide) ?_;refine ⟨qU m1,?_⟩;refine fX ep (v:=.str nm) rfl ?_;refine fX ep (v:=.tup (g.map kX)) rfl ?_;refine ⟨by show 4≤sizeLine; decide,?_⟩;refine lC m1 (by rw [hus]; exact Nat.lt_of_le_of_lt (show Wt.pcs us≤1000 by omega) (by decide)) ?_
    try dsimp only
    refine oZ ?_;refine fX ep gX ?_;refine iX (qX _ _) ?_;refine eZ (by decide) ?_;refine jZ ?_
    try dsimp only
    refine fX ep gX ?_;refine iX (qX _ _) ?_;refine eZ (by decide) ?_;refine jZ ?_;refine hL _ _ ⟨p,_,_,us++[.part sp nm g],vs,by rw [List.append_assoc]; exact e,rfl,rfl,p0,?_,bG g1 p0 _⟩;rw [xQ,ea,List.map_append,Wt.prt]
    rfl
   | give sp nm i rw_ =>
    obtain ⟨_,bi,o1,o2⟩:=hu;have ep:(Wt.give sp nm i rw_).pv=.tup [.str "give",zK sp,.str nm,.int i,.tup (Wt.pvs rw_)]:=by rw [Wt.pv]
    have hpcu:Wt.pcs rw_=(Wt.give sp nm i rw_).pc:=by rw [Wt.pc]
    refine oZ ?_;refine fX ep gX ?_;refine iX (qX _ _) ?_;refine eZ (by decide) ?_;refine jZ ?_
    try dsimp only
    refine oZ ?_;refine fX ep gX ?_;refine iX (qX _ _) ?_;refine cW (by decide) ?_;refine fX ep (v:=.tup (Wt.pvs rw_)) rfl ?_;refine fX ep (v:=.str nm) rfl ?_;refine fX ep (v:=.int i) rfl ?_;refine ⟨by show 2≤sizeLine; decide,?_⟩;refine ⟨by show 1≤sizeLine; decide,?_⟩;refine ⟨ds,[(nm,i)],rfl,by show ds.length+1≤60; omega,fun C2 g2 => ?_⟩;have hol:=xH ds [(nm,i)];have hol:(tG ds [(nm,i)]).length≤ds.length+1:=hol
    refine ⟨d',rfl,rw_,s++[sp],tG ds [(nm,i)],rs,rfl,⟨o1,o2⟩,by rw [List.length_append,List.length_singleton]; omega,by omega,by omega,fun p3 C3 n3 m3 g3 => ?_⟩;refine iO (g3 _ _ (g2 _ _ m1)) m3 (lY (by rw [hus,List.length_map,zG]; omega)) fun p4 p40 => ?_
    try dsimp only
    refine fX ep gX ?_;refine iX (qX _ _) ?_;refine eZ (by decide) ?_;refine jZ ?_;have g13:Gr C C3:=(g1.trans g2).trans g3;refine hL _ _ ⟨p4,_,_,us++[.give sp nm i rw_],vs,by rw [List.append_assoc]; exact e,rfl,rfl,dB g13 p40,?_,g13.trans (Gr.new p40 _)⟩;rw [xQ,ea,List.map_append,Wt.prt]
   | plain sp tag sets hs rw_ =>
    obtain ⟨_,_,o1,o2⟩:=hu;have ep:(Wt.plain sp tag sets hs rw_).pv=.tup [.str "plain",zK sp,.str tag,.tup (sets.map kX),.tup (hs.map HdV.pv),.tup (Wt.pvs rw_)]:=by rw [Wt.pv]
    have hpcu:Wt.pcs rw_=(Wt.plain sp tag sets hs rw_).pc:=by rw [Wt.pc]
    refine oZ ?_;refine fX ep gX ?_;refine iX (qX _ _) ?_;refine eZ (by decide) ?_;refine jZ ?_
    try dsimp only
    refine oZ ?_;refine fX ep gX ?_;refine iX (qX _ _) ?_;refine eZ (by decide) ?_;refine jZ ?_
    try dsimp only
    refine fX ep gX ?_;refine iX (qX _ _) ?_;refine cW (by decide) ?_;refine fX ep (v:=.tup (Wt.pvs rw_)) rfl ?_;refine ⟨d',rfl,rw_,s++[sp],ds,rs,rfl,⟨o1,o2⟩,by rw [List.length_append,List.length_singleton]; omega,by omega,by omega,fun p3 C3 n3 m3 g3 => ?_⟩;refine iO (g3 _ _ m1) m3 (lY (by rw [hus,List.length_map,zG]; omega)) fun p4 p40 => ?_;have g13:Gr C C3:=g1.trans g3;refine hL _ _ ⟨p4,_,_,us++[.plain sp tag sets hs rw_],vs,by rw [List.append_assoc]; exact e,rfl,rfl,dB g13 p40,?_,g13.trans (Gr.new p40 _)⟩
    rw [xQ,ea,List.map_append,Wt.prt]
  ·rintro ρ C1 ⟨p,x4,x5,us,vs,e,hz,rfl,p0,m1,g1⟩
   cases vs with
   | cons u vs=>cases hz
   | nil =>
   rw [List.append_nil] at e;subst e;exact q p C1 p0 m1 g1
 induction d with
 | zero=>exact main 0 fun d' e=>by omega
 | succ d ih=>exact main (d+1) fun d' e=>by cases Nat.succ.inj e; exact ih
end
def Div (p q:cX):Prop:=∃ c x y p' q',p=c++x::p'∧q=c++y::q'∧x≠y
theorem Div.ext {p q:cX}(h:Div p q) (u v:cX):Div (p++u) (q++v):=by
 obtain ⟨c,x,y,p',q',rfl,rfl,n⟩:=h;exact ⟨c,x,y,p'++u,q'++v,by rw [List.append_assoc]; rfl,by rw [List.append_assoc]; rfl,n⟩
theorem Div.ne {p q:cX}(h:Div p q):p≠q:=by
 obtain ⟨c,x,y,p',q',rfl,rfl,n⟩:=h;intro e;have:=List.append_cancel_left e;injection this with h1 _
 exact n h1
structure YC (rs:List Str) (s:cX) (nd:Nat) (x:Prt) (d:Nat):Prop where
 name:x.name∈rs
 gl:x.gives.length≤4
 gb:SBd x.gives
 db:SBd x.downs
 dl:x.downs.length≤nd+d
 path:∃ u,x.path=s++u∧u≠[]∧u.length≤d
theorem Jd {rs:List Str}:∀ (d:Nat) (r:List Wt) (s:cX) (ds:List (Str×Int)),X9 rs d r→SBd ds→(∀ x∈Wt.prts r s ds,YC rs s ds.length x d)∧(Wt.prts r s ds).Pairwise (fun x y=>Div x.path y.path):=by
 intro d
 induction d with
 | zero =>
  intro r s ds ok hb
  cases r with
  | nil=>exact ⟨fun _ z=>(nomatch z),.nil⟩
  | cons x r=>exact (ok.1 x List.mem_cons_self).elim
 | succ d ih =>
  intro r s ds ok hb
  have one:∀ x:Wt,WtOk rs (d+1) x→(∀ y∈x.prt s ds,YC rs s ds.length y (d+1)∧∃ u,y.path=s++x.sp::u)∧(x.prt s ds).Pairwise (fun x y=>Div x.path y.path):=by
   intro x hx
   cases x with
   | part sp n g =>
    rw [Wt.prt];refine ⟨fun y hy => ?_,List.pairwise_singleton _ _⟩;cases List.mem_singleton.1 hy;exact ⟨⟨hx.2.1,hx.2.2.1,hx.2.2.2,hb,by show ds.length≤_; omega,[sp],rfl,by simp,by show 1≤d+1; omega⟩,[],rfl⟩
   | give sp n i r' =>
    rw [Wt.prt];obtain ⟨_,bi,o1,o2⟩:=hx;have hob:SBd (tG ds [(n,i)]):=hb.over fun c hc=>by cases List.mem_singleton.1 hc; exact bi
    have hol:(tG ds [(n,i)]).length≤ds.length+1:=xH ds [(n,i)];obtain ⟨h1,h2⟩:=ih r' (s++[sp]) (tG ds [(n,i)]) ⟨o1,o2⟩ hob;refine ⟨fun y hy => ?_,h2⟩;have o:=h1 y hy;obtain ⟨u,e,_,ul⟩:=o.path;have e':y.path=s++sp::u:=by rw [e,List.append_assoc]; rfl
    exact ⟨⟨o.name,o.gl,o.gb,o.db,by have:=o.dl; omega,sp::u,e',by simp,by rw [List.length_cons]; omega⟩,u,e'⟩
   | plain sp tag ss hs r' =>
    rw [Wt.prt];obtain ⟨_,_,o1,o2⟩:=hx;obtain ⟨h1,h2⟩:=ih r' (s++[sp]) ds ⟨o1,o2⟩ hb;refine ⟨fun y hy => ?_,h2⟩;have o:=h1 y hy;obtain ⟨u,e,_,ul⟩:=o.path;have e':y.path=s++sp::u:=by rw [e,List.append_assoc]; rfl
    exact ⟨⟨o.name,o.gl,o.gb,o.db,by have:=o.dl; omega,sp::u,e',by simp,by rw [List.length_cons]; omega⟩,u,e'⟩
  have all:∀ r:List Wt,(∀ x∈r,WtOk rs (d+1) x)→(r.map Wt.sp).Nodup→(∀ x∈Wt.prts r s ds,YC rs s ds.length x (d+1)∧∃ y∈r,∃ u,x.path=s++y.sp::u)∧(Wt.prts r s ds).Pairwise (fun x y=>Div x.path y.path):=by
   intro r
   induction r with
   | nil=>intro _ _; exact ⟨fun _ z=>(nomatch z),.nil⟩
   | cons x r ihr =>
    intro h nd;rw [List.map_cons,List.nodup_cons] at nd;obtain ⟨a1,a2⟩:=one x (h x List.mem_cons_self);obtain ⟨b1,b2⟩:=ihr (fun y hy=>h y (List.mem_cons_of_mem _ hy)) nd.2;rw [Wt.prts];refine ⟨fun y hy => ?_,?_⟩
    ·rcases List.mem_append.1 hy with hy | hy
     ·exact ⟨(a1 y hy).1,x,List.mem_cons_self,(a1 y hy).2⟩
     ·obtain ⟨c1,z,hz,c2⟩:=b1 y hy
      exact ⟨c1,z,List.mem_cons_of_mem _ hz,c2⟩
    ·rw [List.pairwise_append]
     refine ⟨a2,b2,fun y hy z hz => ?_⟩;obtain ⟨_,u,e1⟩:=a1 y hy;obtain ⟨_,t,ht,v,e2⟩:=b1 z hz;refine ⟨s,x.sp,t.sp,u,v,e1,e2,fun e=>nd.1 ?_⟩;rw [e];exact List.mem_map.2 ⟨t,ht,rfl⟩
  obtain ⟨c1,c2⟩:=all r ok.1 ok.2;exact ⟨fun x hx=>(c1 x hx).1,c2⟩
theorem XY {t:TCT}{c:TCE}{ρ:CSt}{Q:K1}(b:PV→Bool):∀ (xs acc:List PV) (C:CH),(∀ x∈xs,∀ (K:Bool→CH→Prop),K (b x) C→t (some x::ρ) C K)→(∀ x∈xs,∀ (L:K1),L x C→c (some x::ρ) C L)→acc.length+xs.length≤1000→(∀ p,C p=none→Q (.ref p) (nQ C p (.lst (acc++xs.filter b))))→zJ t c ρ Q xs acc C:=by
 intro xs
 induction xs with
 | nil =>
  intro acc C _ _ _ q;rw [List.filter_nil,List.append_nil] at q;exact fG q
 | cons x xs ih =>
  intro acc C ht hc hl q;rw [List.length_cons] at hl;refine xZ ?_;refine ht x List.mem_cons_self _ ?_
  cases e:b x with
  | true =>
   rw [if_pos rfl];refine hc x List.mem_cons_self _ ⟨Nat.lt_of_lt_of_le (show acc.length < 1000 by omega) (by decide),?_⟩;refine ih (acc++[x]) C (fun y hy=>ht y (List.mem_cons_of_mem _ hy)) (fun y hy=>hc y (List.mem_cons_of_mem _ hy)) (by rw [List.length_append,List.length_singleton]; omega) fun p hp => ?_;have:=q p hp;rw [List.filter_cons,e,if_pos rfl] at this;rw [List.append_assoc];exact this
  | false =>
   rw [if_neg (by decide)];refine ih acc C (fun y hy=>ht y (List.mem_cons_of_mem _ hy)) (fun y hy=>hc y (List.mem_cons_of_mem _ hy)) (by omega) fun p hp => ?_;have:=q p hp;rw [List.filter_cons,e,if_neg (by decide)] at this;exact this
def isNm (nm:Str):PV→Bool
 | .tup (.str s::_)=>decide (s=nm)
 | _=>false
theorem yI {nm:Str}:∀ {pts:List Pt}{x:Pt},(zV pts).Nodup→x∈pts→x.name=nm→(pts.map Pt.pv).filter (isNm nm)=[x.pv]
 | [],x,_,m,_=>nomatch m
 | y::pts,x,nd,m,e=>by
  have nd:(y.name::zV pts).Nodup:=nd;rw [List.nodup_cons] at nd
  have none:∀ l:List Pt,(∀ z∈l,z.name≠nm)→(l.map Pt.pv).filter (isNm nm)=[]:=by
   intro l h;rw [List.filter_eq_nil_iff];intro z hz;obtain ⟨w,hw,rfl⟩:=List.mem_map.1 hz;show ¬ decide (w.name=nm)=true;rw [decide_eq_false (h w hw)]
   decide
  rw [List.map_cons,List.filter_cons];have ei:isNm nm y.pv=decide (y.name=nm):=rfl
  rcases List.mem_cons.1 m with rfl | m
  ·rw [ei,decide_eq_true e,if_pos rfl,none pts fun z hz hzn=>nd.1 (by rw [e,← hzn]; exact List.mem_map.2 ⟨z,hz,rfl⟩)]
  ·have ne:¬ y.name=nm:=fun z=>nd.1 (by rw [z,← e]; exact List.mem_map.2 ⟨x,m,rfl⟩)
   rw [ei,decide_eq_false ne,if_neg (by decide)];exact yI nd.2 m e
abbrev Vl:=List (cX×(Str×List (Str×Int)))
def vPV (v:Str×List (Str×Int)):PV:=.tup [.str v.1,.tup (v.2.map kX)]
def vlP (V:Vl):List (cX×PV):=V.map fun e=>(e.1,vPV e.2)
def lT (V:Vl) (p:cX):Option (Str×List (Str×Int)):=(V.find? fun e=>decide (e.1=p)).map (·.2)
theorem Ze (V:Vl) (p:cX):iV (vlP V) p=(lT V p).map vPV:=by
 induction V with
 | nil=>rfl
 | cons e V ih =>
  show iV ((e.1,vPV e.2)::vlP V) p=_;rw [mV];unfold lT;rw [List.find?_cons]
  by_cases h:e.1=p
  ·rw [if_pos h,decide_eq_true h]; rfl
  ·rw [if_neg h,decide_eq_false h,ih]; rfl
def uJ (V:Vl) (y:Pt) (p:cX):List (Str×Int):=match lT V p with
 | some v=>if v.1=y.name then v.2 else y.first
 | none=>y.first
def jV (s:Str) (ps:List (Str×Int)) (A:Rds):Rds:=ps.foldl (fun A c=>putG A (qK s c.1) (.int c.2)) A
def eP (L:List (Str×List (Str×Int))) (A:Rds):Rds:=L.foldl (fun A e=>jV e.1 e.2 A) A
def xN (x:Prt) (bx:List (Str×Int)):List (Str×List (Str×Int)):=[("take",x.gives),("down",x.downs),("box",bx)]
def gM (x:Prt) (bx:List (Str×Int)):Rds:=eP (xN x bx) []
def srPV (e:Str×List (Str×Int)):PV:=.tup [.str e.1,.tup (e.2.map kX)]
structure VOk (V:Vl):Prop where
 b:∀ e∈V,SBd e.2.2
 l:∀ e∈V,e.2.2.length≤4
theorem Kz {V:Vl}{p:cX}{v:Str×List (Str×Int)}(h:lT V p=some v):∃ e∈V,e.2=v:=by
 unfold lT at h
 cases e:V.find? fun e=>decide (e.1=p) with
 | none=>rw [e] at h; cases h
 | some x=>rw [e] at h; cases h; exact ⟨x,List.mem_of_find?_eq_some e,rfl⟩
theorem X7 {V:Vl}(hV:VOk V) {y:Pt}{rs:List Str}{cap:Nat}(ok:K8 rs cap y) (p:cX):SBd (uJ V y p)∧(uJ V y p).length≤4:=by
 unfold uJ
 cases e:lT V p with
 | none=>exact ⟨fun c hc=>ok.fb c hc,ok.fl⟩
 | some v =>
  obtain ⟨x,hx,rfl⟩:=Kz e;dsimp only
  split
  ·exact ⟨hV.b x hx,hV.l x hx⟩
  ·exact ⟨fun c hc=>ok.fb c hc,ok.fl⟩
theorem ABd.put {A:Rds}(h:ABd A) (k:List Key) {i:Int}(hi:Bd i):ABd (putG A k (.int i)):=fun kv hkv=>by
 rcases Xc hkv with e | e
 ·exact ⟨i,e,hi⟩
 ·exact h kv e
theorem pF {s:Str}:∀ {ps:List (Str×Int)}{A:Rds},SBd ps→ABd A→ABd (jV s ps A)
 | [],A,_,h=>h
 | c::ps,A,hp,h=>pF (ps:=ps) (fun x hx=>hp x (List.mem_cons_of_mem _ hx)) (h.put _ (hp c List.mem_cons_self))
theorem ans_bd {x:Prt}{bx:List (Str×Int)}(h1:SBd x.gives) (h2:SBd x.downs) (h3:SBd bx):ABd (gM x bx):=pF h3 (pF h2 (pF h1 (A:=[]) fun _ z=>(nomatch z)))
theorem VM {κ:Type} [DecidableEq κ] (R:List (κ×PV)) (k:κ) (v:PV):(putG R k v).length≤R.length+1:=by
 unfold putG
 split
 ·rw [List.length_map]; omega
 ·rw [List.length_append,List.length_singleton]; exact Nat.le_refl _
theorem qG {s:Str}:∀ (ps:List (Str×Int)) (A:Rds),(jV s ps A).length≤A.length+ps.length
 | [],A=>Nat.le_refl _
 | c::ps,A=>by
  have h1:=qG (s:=s) ps (putG A (qK s c.1) (.int c.2));have h2:=VM A (qK s c.1) (.int c.2);show (jV s ps (putG A (qK s c.1) (.int c.2))).length≤_;rw [List.length_cons];omega
theorem jY:∀ p:cX,Xd (kZ p)=some p:=by
 intro p;show nA (p.map zK)=some p
 induction p with
 | nil=>rfl
 | cons k p ih =>
  have hk:bM (zK k)=some k:=by
   show fB (k.map bY)=some k
   induction k with
   | nil=>rfl
   | cons a k ihk =>
    show (match oV (bY a),fB (k.map bY) with | some k,some ks=>some (k::ks) | _,_=>none)=_;rw [CL.keyOf_keyPV,ihk]
  show (match bM (zK k),nA (p.map zK) with | some k,some ks=>some (k::ks) | _,_=>none)=_;rw [hk,ih]
theorem pin_s {p:Addr}{y:PV}{k:cX}{kvs:List (cX×PV)}{C:CH}{Q:K1}(m:C p=some (.dP kvs)) (hk:Xd y=some k) (q:Q (.bl (iV kvs k).isSome) C):cPIn y (.ref p) C Q:=by
 unfold cPIn;dsimp only;rw [m,hk];exact q
theorem sA {p:Addr}{y v:PV}{k:cX}{kvs:List (cX×PV)}{C:CH}{Q:K1}(m:C p=some (.dP kvs)) (hk:Xd y=some k) (hv:iV kvs k=some v) (q:Q v C):cPIx (.ref p) y C Q:=by
 unfold cPIx;dsimp only;rw [m,hk];show (match iV kvs k with | some v=>Q v C | none=>False);rw [hv];exact q
theorem Zo {p:Addr}{y v:PV}{k:cX}{kvs:List (cX×PV)}{C:CH}{Q:CH→Prop}(m:C p=some (.dP kvs)) (hk:Xd y=some k) (h:kvs.length≤100000) (q:Q (nQ C p (.dP (putG kvs k v)))):JV (.ref p) y v C Q:=by
 unfold JV;dsimp only;rw [m,hk];exact ⟨Nat.lt_of_le_of_lt h (by decide),q⟩
section
variable {P:Program}{w:World}{K:PySem.W.Frag}{mg:Str→Option Value}{base:Heap}{a:Adr}
def gNamed:GC:=fun ts C Q=>∃ (pts:List Pt) (x:Pt),ts=[.tup (pts.map Pt.pv),.str x.name]∧pts.length≤6∧(zV pts).Nodup∧x∈pts∧∀ C',Gr C C'→Q x.pv C'
theorem yT (T:Txt P w K mg a):FnOk P w K mg base CX0 1 a.wR a.rH U21 (spC K gNamed):=by
 have S:=lS;refine Fun.okC T.lN lS (fun ts C R h => ?_) fun cdv A outer s H E hr=>⟨_,(mQ (jX (rQ (r:=rIx K) yQ uQ (xU rfl (show (["_law_part_here","_law_house_here","_law_name"]:List Str).Nodup by decide +kernel) (yJ (N:=U21) (sc:=kQ nK) rfl rfl rfl (by decide +kernel)) (rD (cv 0)) (fun _ _ _ _ _=>(Yg (iQ uZ nX (rQ (r:=rIx K) yQ uQ (cv 0) jQ (fun _ _=>rfl)) (cv 2) (oQ _)))) (fun _ _ _ _ _=>(cv 0))) jQ (fun _ _=>rfl)))),?_⟩
 ·obtain ⟨pts,x,rfl,_⟩:=h; rfl
 rintro ts C R ⟨pts,x,rfl,hl,nd,hx,q⟩;refine XY (isNm x.name) _ [] C (fun y hy K hK => ?_) (fun y hy L hL=>hL) (by rw [List.length_map]; show 0+pts.length≤1000; omega) fun p hp => ?_
 ·obtain ⟨z,hz,rfl⟩:=List.mem_map.1 hy
  refine wJ (xs:=[.str z.name,.tup (z.first.map kX),.tup (z.works.map jG),.tup (Ln.pvs z.ls)]) gX ?_;refine iX (qX _ _) ?_;exact hK
 ·rw [List.nil_append,yI nd hx rfl]
  refine fZ xQ gX ?_;exact q _ (Gr.new hp _)
def gAns:GC:=fun ts C Q=>∃ (pts:List Pt) (vv:Addr) (V:Vl) (x:Prt) (y:Pt),ts=[.tup (pts.map Pt.pv),.ref vv,x.pv]∧pts.length≤6∧(zV pts).Nodup∧y∈pts∧y.name=x.name∧C vv=some (.dP (vlP V))∧(x.gives.length≤4∧x.downs.length≤60∧(uJ V y x.path).length≤4) ∧
 ∀ aa C',C aa=none→C' aa=some (.dT (gM x (uJ V y x.path)))→Gr C C'→Q (.ref aa) C'
theorem Zx (T:Txt P w K mg a):FnOk P w K mg base CX0 2 a.rF a.xF U6 (spC K gAns):=by
 have S:=bL;have kB:=yT (base:=base) T
 refine Fun.okC T.mF bL (fun ts C R h => ?_) fun cdv A outer s H E hr=>⟨_,(vQ (iH (cv 2) (vF rfl (aX (pX (i:=3) S.nd rfl (Or.inl rfl)) (aX (pX (i:=4) S.nd rfl (Or.inl rfl)) (aX (pX (i:=5) S.nd rfl (Or.inl rfl)) (aX (pX (i:=6) S.nd rfl (Or.inl rfl)) jU))))))
  (vQ (dQ (i:=7) S.nd rfl (Or.inl rfl) (rQ (r:=rIx K) yQ uQ (wQ kB hr rfl T.yH T.k_l_named T.b_l_named lQ (qQ (cv 0) (qQ (cv 4) zQ))) jQ (fun _ _=>rfl)))
  (vQ (sX (cw_pt (cw_and (iQ (op_pin (uG hr)) cop_pin (cv 3) (cv 1) rfl) (cw_and1 (iQ uZ nX (rQ (r:=rIx K) yQ uQ (qN (uG hr) (cv 1) (cv 3) (fun _ _=>rfl)) jQ (fun _ _=>rfl)) (cv 4) (oQ _))))) (mQ (dQ (i:=7) S.nd rfl (Or.inl rfl) (rQ (r:=rIx K) yQ uQ (qN (uG hr) (cv 1) (cv 3) (fun _ _=>rfl)) jQ (fun _ _=>rfl)))) dX)
  (vQ (dQ (i:=8) S.nd rfl (Or.inl rfl) JL)
  (vQ (aB PassesOwn.never rfl (mZ (qQ (sQ (qQ gQ (qQ (cv 5) zQ))) (qQ (sQ (qQ gQ (qQ (cv 6) zQ))) (qQ (sQ (qQ gQ (qQ (cv 7) zQ))) zQ)))) (vF rfl (aX (pX (i:=9) S.nd rfl (Or.inl rfl)) (aX (pX (i:=10) S.nd rfl (Or.inl rfl)) jU))) (mQ (eB PassesOwn.never rfl (cv 10) (vF rfl (aX (pX (i:=11) S.nd rfl (Or.inl rfl)) (aX (pX (i:=12) S.nd rfl (Or.inl rfl)) jU))) (mQ (JD (vZ hr) (cv 8) (sQ (qQ (cv 9) (qQ (cv 11) zQ))) (cv 12))))))
  (mQ (jX (cv 8)))))))),?_⟩
 ·obtain ⟨pts,vv,V,x,y,rfl,_⟩:=h; rfl
 rintro ts C R ⟨pts,vv,V,x,y,rfl,hl,nd,hy,hn,hv,⟨l1,l2,l3⟩,q⟩;refine oZ ?_;refine ⟨rfl,?_⟩;refine yZ (yZ (yZ (yZ (qF ?_))))
 try dsimp only
 refine cQ ?_;refine ⟨pts,y,by rw [hn],hl,nd,hy,fun C1 g1 => ?_⟩;refine wJ (xs:=[.str y.name,.tup (y.first.map kX),.tup (y.works.map jG),.tup (Ln.pvs y.ls)]) (v:=.tup (y.first.map kX)) rfl ?_
 try dsimp only
 have v1:=g1 _ _ hv;refine oX (fun ρ' C'=>C'=C1∧ρ'=[some (.tup (pts.map Pt.pv)),some (.ref vv),some x.pv,some (kZ x.path),some (.str x.name),some (.tup (x.gives.map kX)),some (.tup (x.downs.map kX)),some (.tup ((uJ V y x.path).map kX)),none,none,none,none,none]) (fun L hL => ?_) ?_
 ·refine pin_s v1 (jY _) ?_
  rw [Ze];unfold uJ at hL
  cases e:lT V x.path with
  | none =>
   rw [e] at hL;refine eZ rfl ?_;refine jP rfl ?_;refine jZ ?_;exact hL _ _ ⟨rfl,rfl⟩
  | some v =>
   rw [e] at hL;dsimp only at hL;refine cW rfl ?_;refine sA v1 (jY _) (v:=vPV v) (by rw [Ze,e]; rfl) ?_;refine wJ (xs:=[.str v.1,.tup (v.2.map kX)]) gX ?_;refine iX (qX _ _) ?_
   by_cases h:v.1=x.name
   ·rw [if_pos (h.trans hn.symm)] at hL
    refine cW (decide_eq_true h) ?_;refine sA v1 (jY _) (v:=vPV v) (by rw [Ze,e]; rfl) ?_;refine wJ (xs:=[.str v.1,.tup (v.2.map kX)]) (v:=.tup (v.2.map kX)) rfl ?_;exact hL _ _ ⟨rfl,rfl⟩
   ·rw [if_neg (fun z=>h (z.trans hn))] at hL
    refine eZ (decide_eq_false h) ?_;refine jZ ?_;exact hL _ _ ⟨rfl,rfl⟩
 generalize hbx:uJ V y x.path=bx at l3 q;rintro ρ' C' ⟨rfl,rfl⟩
 try dsimp only
 refine cQ ?_;intro aa haa;have haa0:C aa=none:=dB g1 haa
 try dsimp only
 refine oX (fun ρ' C''=>∃ (x9 x10 x11 x12:Option PV),ρ'=[some (.tup (pts.map Pt.pv)),some (.ref vv),some x.pv,some (kZ x.path),some (.str x.name),some (.tup (x.gives.map kX)),some (.tup (x.downs.map kX)),some (.tup (bx.map kX)),some (.ref aa),x9,x10,x11,x12]∧C'' aa=some (.dT (gM x bx))∧Gr C C'') (fun L hL => ?_) ?_
 ·refine ⟨by show 2≤sizeLine; decide,?_⟩
  refine ⟨by show 2≤sizeLine; decide,?_⟩;refine ⟨by show 2≤sizeLine; decide,?_⟩;refine ⟨by show 3≤sizeLine; decide,fun p hp => ?_⟩;have npa:p≠aa:=fun z=>by subst z; rw [xQ] at hp; cases hp
  have hp0:C p=none:=by rw [bQ npa] at hp; exact dB g1 hp
  refine ⟨4,?_⟩
  have hlen:∀ i,(eP ((xN x bx).take i) []).length≤100:=by
   intro i;have f1:=qG (s := "take") x.gives [];have f2:=qG (s := "down") x.downs (jV "take" x.gives []);have f3:=qG (s := "box") bx (jV "down" x.downs (jV "take" x.gives []));have f1:(jV "take" x.gives []).length≤0+x.gives.length:=f1
   match i with
   | 0=>exact Nat.zero_le _
   | 1=>show (jV "take" x.gives []).length≤100; omega
   | 2=>show (jV "down" x.downs (jV "take" x.gives [])).length≤100; omega
   | i+3=>rw [List.take_of_length_le (by show 3≤i+3; omega)]; show (jV "box" bx (jV "down" x.downs (jV "take" x.gives []))).length≤100; omega
  refine eY (xs:=(xN x bx).map srPV) (fun i ρ C'=>C' p=some (.lst ((xN x bx).map srPV))∧∃ (x9 x10 x11 x12:Option PV),ρ=[some (.tup (pts.map Pt.pv)),some (.ref vv),some x.pv,some (kZ x.path),some (.str x.name),some (.tup (x.gives.map kX)),some (.tup (x.downs.map kX)),some (.tup (bx.map kX)),some (.ref aa),x9,x10,x11,x12]∧C' aa=some (.dT (eP ((xN x bx).take i) []))∧Gr C C') (fun _ _ _ h=>h.1) ?_ ?_ _ 0 _ _ ⟨xQ,_,_,_,_,rfl,by rw [bQ (Ne.symm npa)]; exact xQ,bG (bG g1 haa0 _) hp0 _⟩ rfl (Nat.zero_le _)
  ·rintro i z ρ C3 hx ⟨m3,x9,x10,x11,x12,rfl,ma,g3⟩ L1 hL1
   rw [List.getElem?_map] at hx
   cases he:(xN x bx)[i]? with
   | none=>rw [he] at hx; cases hx
   | some e =>
   rw [he] at hx;cases hx;have hi:i < (xN x bx).length:=(List.getElem?_eq_some_iff.1 he).1
   have hel:e.2.length≤60:=by
    have hm:=List.mem_of_getElem? he;unfold xN at hm
    simp only [List.mem_cons,List.not_mem_nil,or_false] at hm
    rcases hm with rfl | rfl | rfl
    ·show x.gives.length≤60; omega
    ·exact l2
    ·show bx.length≤60; omega
   refine ⟨rfl,?_⟩;refine yZ (yZ (qF ?_))
   try dsimp only
   refine mH rfl ?_;refine kK (fun zs ρ C'=>∃ (us vs:List (Str×Int)) (x11 x12:Option PV),e.2=us++vs∧zs=vs.map kX∧ρ=[some (.tup (pts.map Pt.pv)),some (.ref vv),some x.pv,some (kZ x.path),some (.str x.name),some (.tup (x.gives.map kX)),some (.tup (x.downs.map kX)),some (.tup (bx.map kX)),some (.ref aa),some (.str e.1),some (.tup (e.2.map kX)),x11,x12]∧C' p=some (.lst ((xN x bx).map srPV))∧C' aa=some (.dT (jV e.1 us (eP ((xN x bx).take i) [])))∧Gr C C') ?_ ?_ _ _ _ ⟨[],e.2,_,_,rfl,rfl,rfl,m3,ma,g3⟩
   ·rintro z zs ρ C4 ⟨us,vs,y11,y12,eu,hz,rfl,m4,ma4,g4⟩ L2 hL2
    cases vs with
    | nil=>cases hz
    | cons v vs =>
    obtain ⟨rfl,rfl⟩:=List.cons.inj hz;refine ⟨rfl,?_⟩;refine yZ (yZ (qF ?_))
    try dsimp only
    refine ⟨by show 2≤sizeLine; decide,?_⟩;have hul:us.length≤e.2.length:=by rw [eu,List.length_append]; omega
    refine Vp (k:=qK e.1 v.1) ma4 rfl (by have:=qG (s:=e.1) us (eP ((xN x bx).take i) []); have:=hlen i; omega) ?_;refine hL2 _ _ ⟨us++[v],vs,_,_,by rw [List.append_assoc]; exact eu,rfl,rfl,by rw [bQ npa]; exact m4,?_,bG g4 haa0 _⟩;rw [xQ];unfold jV;rw [List.foldl_append]
    rfl
   ·rintro ρ C4 ⟨us,vs,y11,y12,eu,hz,rfl,m4,ma4,g4⟩
    cases vs with
    | cons v vs=>cases hz
    | nil =>
    rw [List.append_nil] at eu;subst eu;refine hL1 _ _ ⟨m4,_,_,_,_,rfl,?_,g4⟩;rw [ma4];have et:(xN x bx).take (i+1)=(xN x bx).take i++[e]:=by rw [List.take_add_one,he]; rfl
    rw [et];unfold eP;rw [List.foldl_append]
    rfl
  ·rintro ρ C3 ⟨m3,x9,x10,x11,x12,rfl,ma,g3⟩
   exact hL _ _ ⟨_,_,_,_,rfl,ma,g3⟩
 rintro ρ' C3 ⟨x9,x10,x11,x12,rfl,ma,g3⟩
 try dsimp only
 exact q aa C3 haa0 ma g3
end
structure En where
 x:Prt
 pc:Pc
def En.pv (e:En):PV:=.tup [kZ e.x.path,.str e.x.name,.tup (e.x.gives.map kX),.tup (e.x.downs.map kX),e.pc.pv]
def jT (pts:List Pt) (nm:Str):Pt:=(pts.find? fun y=>decide (y.name=nm)).getD ⟨"",[],[],[]⟩
theorem Je {nm:Str}:∀ {pts:List Pt}{y:Pt},(zV pts).Nodup→y∈pts→y.name=nm→jT pts nm=y
 | [],y,_,m,_=>nomatch m
 | z::pts,y,nd,m,e=>by
  have nd:(z.name::zV pts).Nodup:=nd;rw [List.nodup_cons] at nd;unfold jT;rw [List.find?_cons]
  rcases List.mem_cons.1 m with rfl | m
  ·rw [decide_eq_true e]; rfl
  ·have ne:¬ z.name=nm:=fun h=>nd.1 (by rw [h,← e]; exact List.mem_map.2 ⟨y,m,rfl⟩)
   rw [decide_eq_false ne];exact Je nd.2 m e
def yB (pts:List Pt) (V:Vl) (x:Prt):Pc:=pcOf (gM x (uJ V (jT pts x.name) x.path)) (jT pts x.name)
def pW (x q:Prt):Prt:=⟨x.path++q.path,q.name,q.gives,tG x.downs q.downs⟩
def dr (pts:List Pt) (V:Vl):Nat→Prt→List En
 | 0,_=>[]
 | n+1,x=>⟨x,yB pts V x⟩::(Wt.prts (yB pts V x).row [] []).flatMap fun q=>dr pts V n (pW x q)
structure pE (pts:List Pt) (k:Nat) (x:Prt):Prop where
 nm:(zV pts)[k]?=some x.name
 gl:x.gives.length≤4
 gb:SBd x.gives
 db:SBd x.downs
 pl:x.path.length≤6 * k
 dl:x.downs.length≤6 * k
structure AtK (pts:List Pt) (V:Vl) (k:Nat) (x:Prt) (y:Pt):Prop where
 mem:y∈pts
 nm:y.name=x.name
 is:jT pts x.name=y
 ok:K8 ((zV pts).drop (k+1)) (eV k) y
 ab:ABd (gM x (uJ V y x.path))
 row:X9 ((zV pts).drop (k+1)) 6 (yB pts V x).row
 pcs:Wt.pcs (yB pts V x).row≤eV k
 wcs:Wt.wcs (yB pts V x).row≤48
theorem ZU {pts:List Pt}(hs:yN pts) {V:Vl}(hV:VOk V) {k:Nat}{x:Prt}(h:pE pts k x):∃ y,AtK pts V k x y:=by
 have hk:=h.nm;unfold zV at hk;rw [List.getElem?_map] at hk
 cases e:pts[k]? with
 | none=>rw [e] at hk; cases hk
 | some y =>
  rw [e] at hk;have hn:y.name=x.name:=Option.some.inj hk;have hm:=List.mem_of_getElem? e;have ip:=Je hs.nd hm hn;have ok:=hs.ok k y e;have hb:=X7 hV ok x.path;have ab:=ans_bd h.gb h.db hb.1;refine ⟨y,hm,hn,ip,ok,ab,?_,?_,?_⟩
  ·unfold yB
   rw [ip];exact row_ok ok.ls ⟨ab,(fun _ z=>nomatch z),(fun _ z=>nomatch z),by rw [List.length_map]; exact ok.fl⟩
  ·unfold yB
   rw [ip];have:=dG (gM x (uJ V y x.path)) y.ls [] ([],[],[]);have this:Wt.pcs (bX (gM x (uJ V y x.path)) y.ls [] ([],[],[])).1≤0+Ln.pws y.ls:=this;show Wt.pcs (bX (gM x (uJ V y x.path)) y.ls [] ([],[],[])).1≤eV k;have:=ok.pw;omega
  ·unfold yB
   rw [ip];have:=pG (gM x (uJ V y x.path)) y.ls [] ([],[],[]);have this:Wt.wcs (bX (gM x (uJ V y x.path)) y.ls [] ([],[],[])).1≤0+Ln.tws y.ls:=this;show Wt.wcs (bX (gM x (uJ V y x.path)) y.ls [] ([],[],[])).1≤48;have:=ok.tw;omega
theorem zB {pts:List Pt}{V:Vl}{k:Nat}{x:Prt}{y:Pt}(h:pE pts k x) (ha:AtK pts V k x y) {q:Prt}(hq:q∈Wt.prts (yB pts V x).row [] []):∃ k',k < k'∧pE pts k' (pW x q)∧q.path≠[]∧q.path.length≤6∧q.downs.length≤6:=by
 have o:=(Jd 6 _ [] [] ha.row (fun _ z=>nomatch z)).1 q hq;obtain ⟨u,e,un,ul⟩:=o.path;have e:q.path=u:=e;obtain ⟨j,hj,ej⟩:=List.getElem_of_mem o.name;have hd:q.downs.length≤0+6:=o.dl;refine ⟨k+1+j,by omega,⟨?_,o.gl,o.gb,h.db.over o.db,?_,?_⟩,by rw [e]; exact un,by rw [e]; exact ul,by omega⟩
 ·have:((zV pts).drop (k+1))[j]?=some q.name:=by rw [List.getElem?_eq_getElem hj,ej]
  rw [List.getElem?_drop] at this;exact this
 ·show (x.path++q.path).length≤_
  rw [List.length_append,e];have:=h.pl;omega
 ·have:=xH x.downs q.downs
  have:=h.dl;show (tG x.downs q.downs).length≤_;omega
theorem Ju {α β:Type}{f:α→List β}{b:Nat}:∀ (l:List α),(∀ x∈l,(f x).length≤b)→(l.flatMap f).length≤l.length * b
 | [],_=>by simp
 | x::l,h=>by
  have h1:=Ju l fun y hy=>h y (List.mem_cons_of_mem _ hy);have h2:=h x List.mem_cons_self;rw [List.flatMap_cons,List.length_append,List.length_cons,Nat.add_mul,Nat.one_mul];omega
def lbd (m k:Nat):Nat:=if k=0 then 559 else 2 ^ m - 1
theorem dr_len {pts:List Pt}(hs:yN pts) {V:Vl}(hV:VOk V):∀ (n k:Nat) (x:Prt),pE pts k x→(dr pts V n x).length≤lbd (pts.length - k) k:=by
 intro n
 induction n with
 | zero=>intro k x _; exact Nat.zero_le _
 | succ n ih =>
  intro k x h;obtain ⟨y,ha⟩:=ZU hs hV h
  have hkl:k < pts.length:=by
   have:=(List.getElem?_eq_some_iff.1 h.nm).1;unfold zV at this;rw [List.length_map] at this;exact this
  have hN:=hs.n6
  have h1:(dr pts V (n+1) x).length≤1+eV k * (2 ^ (pts.length - k - 1) - 1):=by
   rw [dr,List.length_cons]
   have hf:=Ju (f:=fun q=>dr pts V n (pW x q)) (b:=2 ^ (pts.length - k - 1) - 1) (Wt.prts (yB pts V x).row [] []) fun q hq=>by
    obtain ⟨k',hk',dq,_⟩:=zB h ha hq;have:=ih k' (pW x q) dq;unfold lbd at this;rw [if_neg (by omega)] at this;have hp:2 ^ (pts.length - k')≤2 ^ (pts.length - k - 1):=Nat.pow_le_pow_right (by decide) (by omega);omega
   rw [zG] at hf;have:Wt.pcs (yB pts V x).row * (2 ^ (pts.length - k - 1) - 1)≤eV k * (2 ^ (pts.length - k - 1) - 1):=Nat.mul_le_mul_right _ ha.pcs;omega
  unfold lbd;unfold eV at h1
  split
  ·next hk0 =>
   rw [if_pos hk0] at h1;have hp:2 ^ (pts.length - k - 1)≤2 ^ 5:=Nat.pow_le_pow_right (by decide) (by omega);have:(2:Nat) ^ 5=32:=rfl;omega
  ·next hk0 =>
   rw [if_neg hk0] at h1;have e:pts.length - k=(pts.length - k - 1)+1:=by omega
   rw [e,Nat.pow_succ];have:1≤2 ^ (pts.length - k - 1):=Nat.one_le_two_pow;have e2:pts.length - k - 1+1 - 1=pts.length - k - 1:=by omega
   omega
theorem W6 {pts:List Pt}(hs:yN pts) {V:Vl}(hV:VOk V) {n k:Nat}{x:Prt}(h:pE pts k x):(dr pts V n x).length≤559:=by
 have:=dr_len hs hV n k x h;unfold lbd at this
 split at this
 ·exact this
 ·have hN:=hs.n6
  have hp:2 ^ (pts.length - k)≤2 ^ 6:=Nat.pow_le_pow_right (by decide) (by omega);have:(2:Nat) ^ 6=64:=rfl;omega
section
variable {P:Program}{w:World}{K:PySem.W.Frag}{mg:Str→Option Value}{base:Heap}{a:Adr}
def gWi (n:Nat):GC:=fun ts C Q=>∃ (pts:List Pt) (vv:Addr) (V:Vl) (x:Prt) (k:Nat),ts=[.tup (pts.map Pt.pv),.ref vv,x.pv]∧yN pts∧VOk V∧C vv=some (.dP (vlP V))∧pE pts k x∧pts.length≤k+n ∧
 ∀ p C',C p=none→C' p=some (.lst ((dr pts V n x).map En.pv))→Gr C C'→Q (.ref p) C'
theorem Kk (T:Txt P w K mg a) (n:Nat):FnOk P w K mg base CX0 (n+27) a.tL a.dD U6 (spC K (gWi n)):=by
 induction n with
 | zero =>
  refine uW fun ts C Q ⟨pts,vv,V,x,k,_,_,_,_,d,l,_⟩ => ?_;have:=(List.getElem?_eq_some_iff.1 d.nm).1;unfold zV at this;rw [List.length_map] at this;omega
 | succ n ih =>
 have S:=iN;have kB:=(yT (base:=base) T).mono (show 1≤n+27 by omega);have Zc:=(Zx (base:=base) T).mono (show 2≤n+27 by omega);have Vc:=(V7 (base:=base) T).mono (show 26≤n+27 by omega);have zD:=(V8 (base:=base) T 6).mono (show 8≤n+27 by omega);have zE:=(Jh (base:=base) T).mono (show 1≤n+27 by omega);have tD:=ih
 refine Fun.okC T.eD iN (fun ts C R h => ?_) fun cdv A outer s H E hr=>⟨_,(vQ (dQ (i:=3) S.nd rfl (Or.inl rfl) (wQ Vc hr rfl T.Ku T.k_l_piece T.b_l_piece lQ (qQ (wQ kB hr rfl T.yH T.k_l_named T.b_l_named lQ (qQ (cv 0) (qQ (rQ (r:=rIx K) yQ uQ (cv 2) jQ (fun _ _=>rfl)) zQ))) (qQ (wQ Zc hr rfl T.Xw T.k_l_answers T.b_l_answers lQ (qQ (cv 0) (qQ (cv 1) (qQ (cv 2) zQ)))) zQ))))
  (vQ (dQ (i:=4) S.nd rfl (Or.inl rfl) (mZ (qQ (uX hX rX (cv 2) (sQ (qQ (cv 3) zQ))) zQ)))
  (vQ (aB PassesOwn.never rfl (wQ zD hr rfl T.wH T.k_l_parts T.b_l_parts lQ (qQ (rQ (r:=rIx K) yQ uQ (cv 3) jQ (fun _ _=>rfl)) (qQ (sQ zQ) (qQ (sQ zQ) zQ)))) (vF rfl (aX (pX (i:=5) S.nd rfl (Or.inl rfl)) (aX (pX (i:=6) S.nd rfl (Or.inl rfl)) (aX (pX (i:=7) S.nd rfl (Or.inl rfl)) (aX (pX (i:=8) S.nd rfl (Or.inl rfl)) jU))))) (mQ (dQ (i:=4) S.nd rfl (Or.inl rfl) (uX hX rX (cv 4) (wQ tD hr rfl T.pT T.k_l_within T.b_l_within lQ (qQ (cv 0) (qQ (cv 1) (qQ (sQ (qQ (uX hX rX (rQ (r:=rIx K) yQ uQ (cv 2) jQ (fun _ _=>rfl)) (cv 5)) (qQ (cv 6) (qQ (cv 7) (qQ (wQ zE hr rfl T.Xt T.k_l_over T.b_l_over lQ (qQ (rQ (r:=rIx K) yQ uQ (cv 2) jQ (fun _ _=>rfl)) (qQ (cv 8) zQ))) zQ))))) zQ))))))))
  (mQ (jX (cv 4)))))),?_⟩
 ·obtain ⟨pts,vv,V,x,k,rfl,_⟩:=h; rfl
 rintro ts C R ⟨pts,vv,V,x,k,rfl,hs,hV,hv,du,hn,q⟩;obtain ⟨y,ha⟩:=ZU hs hV du
 have hkl:k < pts.length:=by
  have:=(List.getElem?_eq_some_iff.1 du.nm).1;unfold zV at this;rw [List.length_map] at this;exact this
 have hN:=hs.n6;have hx:x.pv=.tup [kZ x.path,.str x.name,.tup (x.gives.map kX),.tup (x.downs.map kX)]:=rfl;have hb:=X7 hV ha.ok x.path;refine cQ ?_;refine fX hx (v:=.str x.name) rfl ?_;refine ⟨pts,y,by rw [ha.nm],hN,hs.nd,ha.mem,fun C1 g1 => ?_⟩;refine ⟨pts,vv,V,x,y,rfl,hN,hs.nd,ha.mem,ha.nm,g1 _ _ hv,⟨du.gl,by have:=du.dl; omega,hb.2⟩,fun aa C2 na ma g2 => ?_⟩;refine ⟨y,aa,_,_,_,rfl,ha.ok,ma,ha.ab,fun C3 g3 => ?_⟩
 have ep:pcOf (gM x (uJ V y x.path)) y=yB pts V x:=by unfold yB; rw [ha.is]
 rw [ep]
 try dsimp only
 generalize hpc:yB pts V x=pc;have rowk:=ha.row;have pck:=ha.pcs;rw [hpc] at rowk pck;refine cQ ?_;refine ⟨by show 1≤sizeLine; decide,?_⟩;refine xB (by show 4+1≤sizeLine; decide) ?_;refine ⟨by show 1≤sizeLine; decide,fun f0 hf0 => ?_⟩;have g03:Gr C C3:=(g1.trans g2).trans g3;have nf0:C f0=none:=dB g03 hf0;have g4:Gr C (nQ C3 f0 (.lst [En.pv ⟨x,pc⟩])):=bG g03 nf0 _;have m4:nQ C3 f0 (.lst [En.pv ⟨x,pc⟩]) f0=some (.lst [En.pv ⟨x,pc⟩]):=xQ
 show K4 _ _ _ _ (nQ C3 f0 (.lst [En.pv ⟨x,pc⟩]));generalize nQ C3 f0 (.lst [En.pv ⟨x,pc⟩])=C4 at g4 m4 ⊢
 try dsimp only
 refine oZ ?_;refine wJ (xs:=[.tup (pc.reads.map kY),.tup (Wt.pvs pc.row),.tup (pc.works.map kX)]) (v:=.tup (Wt.pvs pc.row)) rfl ?_;refine ⟨by show 0≤sizeLine; decide,?_⟩;refine ⟨by show 0≤sizeLine; decide,?_⟩;have hcap:eV k≤18:=by unfold eV; split<;>decide
 refine ⟨pc.row,[],[],_,rfl,rowk,by show 0+6≤50; decide,by show 0+6≤50; decide,by omega,fun pl C5 npl m5 g5 => ?_⟩;have hpl:C pl=none:=dB g4 npl;have g45:Gr C C5:=g4.trans g5;refine ⟨(Wt.prts pc.row [] []).length+1,?_⟩;have etot:dr pts V (n+1) x=⟨x,pc⟩::(Wt.prts pc.row [] []).flatMap fun q=>dr pts V n (pW x q):=by rw [dr,hpc]
 have hlen:=W6 hs hV (n:=n+1) du;refine eY (xs:=(Wt.prts pc.row [] []).map Prt.pv) (fun i ρ C'=>C' pl=some (.lst ((Wt.prts pc.row [] []).map Prt.pv))∧∃ (ff:Addr) (x5 x6 x7 x8:Option PV),i≤(Wt.prts pc.row [] []).length∧ρ=[some (.tup (pts.map Pt.pv)),some (.ref vv),some x.pv,some pc.pv,some (.ref ff),x5,x6,x7,x8]∧C ff=none∧C' ff=some (.lst ((⟨x,pc⟩::((Wt.prts pc.row [] []).take i).flatMap fun q=>dr pts V n (pW x q)).map En.pv))∧Gr C C') (fun _ _ _ h=>h.1) ?_ ?_ _ 0 _ _ ⟨m5,f0,_,_,_,_,Nat.zero_le _,rfl,nf0,g5 _ _ m4,g45⟩ (by rw [List.length_map]; omega) (Nat.zero_le _)
 ·rintro i z ρ C6 hz ⟨m6,ff,x5,x6,x7,x8,hi,rfl,nff,mf,g6⟩ L hL
  rw [List.getElem?_map] at hz
  cases he:(Wt.prts pc.row [] [])[i]? with
  | none=>rw [he] at hz; cases hz
  | some pq =>
  rw [he] at hz;cases hz;have hmem:pq∈Wt.prts pc.row [] []:=List.mem_of_getElem? he;have hi':i < (Wt.prts pc.row [] []).length:=(List.getElem?_eq_some_iff.1 he).1;obtain ⟨k',hk',dq,pn,pl6,dl6⟩:=zB du ha (q:=pq) (by rw [hpc]; exact hmem);refine ⟨rfl,?_⟩;refine yZ (yZ (yZ (yZ (qF ?_))))
  try dsimp only
  refine fX hx (v:=kZ x.path) rfl ?_;have hpl2:=du.pl;have hdl2:=du.dl;refine xB (lY (by rw [List.length_map,List.length_map]; omega)) ?_;refine fX hx (v:=.tup (x.downs.map kX)) rfl ?_;refine ⟨x.downs,pq.downs,rfl,by omega,fun C7 g7=>⟨by show 4≤sizeLine; decide,?_⟩⟩
  have ec:PV.tup [PV.tup (x.path.map zK++pq.path.map zK),.str pq.name,.tup (pq.gives.map kX),.tup ((tG x.downs pq.downs).map kX)]=(pW x pq).pv:=by
   unfold pW Prt.pv kZ;rw [List.map_append]
  rw [ec];refine ⟨pts,vv,V,pW x pq,k',rfl,hs,hV,g7 _ _ (g6 _ _ hv),dq,by omega,fun p8 C8 n8 m8 g8 => ?_⟩;have et:(Wt.prts pc.row [] []).take (i+1)=(Wt.prts pc.row [] []).take i++[pq]:=by rw [List.take_add_one,he]; rfl
  have en:(⟨x,pc⟩::((Wt.prts pc.row [] []).take (i+1)).flatMap fun q=>dr pts V n (pW x q)).map En.pv=(⟨x,pc⟩::((Wt.prts pc.row [] []).take i).flatMap fun q=>dr pts V n (pW x q)).map En.pv++(dr pts V n (pW x pq)).map En.pv:=by
   rw [et,List.flatMap_append,List.flatMap_cons,List.flatMap_nil,List.append_nil,← List.map_append]
   rfl
  have hle:((⟨x,pc⟩::((Wt.prts pc.row [] []).take (i+1)).flatMap fun q=>dr pts V n (pW x q)):List En).length≤559:=by
   refine Nat.le_trans ?_ hlen;rw [etot,List.length_cons,List.length_cons]
   have:((Wt.prts pc.row [] []).flatMap fun q=>dr pts V n (pW x q))=(((Wt.prts pc.row [] []).take (i+1)).flatMap fun q=>dr pts V n (pW x q))++((Wt.prts pc.row [] []).drop (i+1)).flatMap fun q=>dr pts V n (pW x q):=by
    rw [← List.flatMap_append,List.take_append_drop]
   rw [this,List.length_append];omega
  refine iO (g8 _ _ (g7 _ _ mf)) m8 (lY ?_) fun p9 p90 => ?_
  ·rw [← List.length_append,← en,List.length_map]; omega
  have g68:Gr C C8:=(g6.trans g7).trans g8;refine hL _ _ ⟨Gr.new p90 _ _ _ (g8 _ _ (g7 _ _ m6)),p9,_,_,_,_,hi',rfl,dB g68 p90,by rw [xQ,en],g68.trans (Gr.new p90 _)⟩
 ·rintro ρ C6 ⟨m6,ff,x5,x6,x7,x8,hi,rfl,nff,mf,g6⟩
  refine q ff C6 nff ?_ g6;rw [mf,etot,List.length_map,List.take_of_length_le (Nat.le_refl _)]
end
theorem W5 {pts:List Pt}(hs:yN pts) {V:Vl}(hV:VOk V):∀ (n k:Nat) (x:Prt),pE pts k x→∀ e∈dr pts V n x,∃ k',pE pts k' e.x∧e.pc=yB pts V e.x:=by
 intro n
 induction n with
 | zero=>intro k x _ e he; exact nomatch he
 | succ n ih =>
  intro k x h e he;rw [dr] at he
  rcases List.mem_cons.1 he with rfl | he
  ·exact ⟨k,h,rfl⟩
  ·obtain ⟨q,hq,he⟩:=List.mem_flatMap.1 he
   obtain ⟨y,ha⟩:=ZU hs hV h;obtain ⟨k',_,dq,_⟩:=zB h ha hq;exact ih k' _ dq e he
theorem W4 {pts:List Pt}{V:Vl}:∀ (n:Nat) (x:Prt),∀ e∈dr pts V n x,∃ u,e.x.path=x.path++u:=by
 intro n
 induction n with
 | zero=>intro x e he; exact nomatch he
 | succ n ih =>
  intro x e he;rw [dr] at he
  rcases List.mem_cons.1 he with rfl | he
  ·exact ⟨[],by rw [List.append_nil]⟩
  ·obtain ⟨q,hq,he⟩:=List.mem_flatMap.1 he
   obtain ⟨u,eu⟩:=ih _ e he;exact ⟨q.path++u,by rw [eu]; show (x.path++q.path)++u=_; rw [List.append_assoc]⟩
def qJ (es:List En):List cX:=es.map fun e=>e.x.path
theorem Jt {α:Type}{f:α→List En}{g:α→cX}:∀ (l:List α),l.Pairwise (fun x y=>Div (g x) (g y))→(∀ x∈l,(qJ (f x)).Nodup∧∀ e∈f x,∃ u,e.x.path=g x++u)→(qJ (l.flatMap f)).Nodup
 | [],_,_=>List.nodup_nil
 | x::l,hp,h=>by
  rw [List.pairwise_cons] at hp;have ih:=Jt l hp.2 fun y hy=>h y (List.mem_cons_of_mem _ hy);obtain ⟨h1,h2⟩:=h x List.mem_cons_self;unfold qJ at *
  rw [List.flatMap_cons,List.map_append,List.nodup_append];refine ⟨h1,ih,fun a ha b hb e => ?_⟩;obtain ⟨e1,he1,rfl⟩:=List.mem_map.1 ha;obtain ⟨e2,he2,rfl⟩:=List.mem_map.1 hb;obtain ⟨y,hy,he2⟩:=List.mem_flatMap.1 he2;obtain ⟨u,eu⟩:=h2 e1 he1;obtain ⟨v,ev⟩:=(h y (List.mem_cons_of_mem _ hy)).2 e2 he2;have d:=(hp.1 y hy).ext u v;rw [← eu,← ev] at d;exact d.ne e
theorem dr_nd {pts:List Pt}(hs:yN pts) {V:Vl}(hV:VOk V):∀ (n k:Nat) (x:Prt),pE pts k x→(qJ (dr pts V n x)).Nodup:=by
 intro n
 induction n with
 | zero=>intro k x _; exact List.nodup_nil
 | succ n ih =>
  intro k x h;obtain ⟨y,ha⟩:=ZU hs hV h;rw [dr];show (x.path::qJ _).Nodup;rw [List.nodup_cons];have pw:=(Jd 6 _ [] [] ha.row (fun _ z=>nomatch z)).2;refine ⟨fun hm => ?_,?_⟩
  ·obtain ⟨e,he,ee⟩:=List.mem_map.1 hm
   obtain ⟨q,hq,he⟩:=List.mem_flatMap.1 he;obtain ⟨u,eu⟩:=W4 n _ e he;obtain ⟨k',_,_,qn,_⟩:=zB h ha hq;rw [eu] at ee;have ee:(x.path++q.path)++u=x.path:=ee;have:=congrArg List.length ee;rw [List.length_append,List.length_append] at this;have:0 < q.path.length:=List.length_pos_iff.2 qn;omega
  ·refine Jt (g:=fun q=>(pW x q).path) _ (pw.imp fun {a b} d => ?_) fun q hq => ?_
   ·obtain ⟨c,u,v,p',q',e1,e2,n⟩:=d
    exact ⟨x.path++c,u,v,p',q',by show x.path++a.path=_; rw [e1,List.append_assoc],by show x.path++b.path=_; rw [e2,List.append_assoc],n⟩
   ·obtain ⟨k',_,dq,_⟩:=zB h ha hq
    exact ⟨ih k' _ dq,W4 n _⟩
def root (pts:List Pt):Prt:=⟨[],(pts.head?.map (·.name)).getD "",[],[]⟩
theorem sG {pts:List Pt}(hs:yN pts):pE pts 0 (root pts):=by
 have:=hs.n1
 cases pts with
 | nil=>exact absurd this (by show ¬ 1≤0; omega)
 | cons y pts=>exact ⟨rfl,Nat.zero_le _,(fun _ z=>nomatch z),(fun _ z=>nomatch z),Nat.zero_le _,Nat.zero_le _⟩
def drawn (pts:List Pt) (V:Vl):List En:=dr pts V 6 (root pts)
def Xb (V:Vl) (p:cX) (v:Str×List (Str×Int)):Vl:=if (V.any fun e=>decide (e.1=p))=true then V.map fun e=>if e.1=p then (e.1,v) else e else V++[(p,v)]
theorem put_vl (V:Vl) (p:cX) (v:Str×List (Str×Int)):putG (vlP V) p (vPV v)=vlP (Xb V p v):=by
 have h1:((vlP V).any fun kv=>decide (kv.1=p))=V.any fun e=>decide (e.1=p):=by
  unfold vlP;rw [List.any_map]
  rfl
 unfold putG Xb;rw [h1]
 split
 ·unfold vlP
  rw [List.map_map,List.map_map];refine List.map_congr_left fun e _ => ?_;show (if e.1=p then (e.1,vPV v) else (e.1,vPV e.2))=((if e.1=p then (e.1,v) else e).1,vPV (if e.1=p then (e.1,v) else e).2)
  split<;>rfl
 ·unfold vlP
  rw [List.map_append]
  rfl
theorem putV_ok {V:Vl}(h:VOk V) (p:cX) {v:Str×List (Str×Int)}(hb:SBd v.2) (hl:v.2.length≤4):VOk (Xb V p v):=by
 have:∀ e∈Xb V p v,e.2=v∨e∈V:=by
  intro e he;unfold Xb at he
  split at he
  ·obtain ⟨x,hx,rfl⟩:=List.mem_map.1 he
   split
   ·exact .inl rfl
   ·exact .inr hx
  ·rcases List.mem_append.1 he with he | he
   ·exact .inr he
   ·cases List.mem_singleton.1 he; exact .inl rfl
 refine ⟨fun e he => ?_,fun e he => ?_⟩
 ·rcases this e he with z | z
  ·rw [z]; exact hb
  ·exact h.b e z
 ·rcases this e he with z | z
  ·rw [z]; exact hl
  ·exact h.l e z
theorem VL (V:Vl) (p:cX) (v:Str×List (Str×Int)):(Xb V p v).length≤V.length+1:=by
 unfold Xb
 split
 ·rw [List.length_map]; omega
 ·rw [List.length_append,List.length_singleton]; exact Nat.le_refl _
theorem VOk.nil:VOk []:=⟨fun _ z=>(nomatch z),fun _ z=>(nomatch z)⟩
section
variable {P:Program}{w:World}{K:PySem.W.Frag}{mg:Str→Option Value}{base:Heap}{a:Adr}
def gFresh:GC:=fun ts C Q=>∃ (pts:List Pt) (vv:Addr) (V:Vl),ts=[.tup (pts.map Pt.pv),.ref vv]∧yN pts∧VOk V∧C vv=some (.dP (vlP V))∧∀ p C',C p=none→C' p=some (.lst ((drawn pts V).map En.pv))→Gr C C'→Q (.ref p) C'
theorem Xk (T:Txt P w K mg a):FnOk P w K mg base CX0 34 a.gR a.oH U20 (spC K gFresh):=by
 have S:=tS;have tD:=Kk (base:=base) T 6;refine Fun.okC T.oN tS (fun ts C R h => ?_) fun cdv A outer s H E hr=>⟨_,(mQ (jX (wQ tD hr rfl T.pT T.k_l_within T.b_l_within lQ (qQ (cv 0) (qQ (cv 1) (qQ (sQ (qQ (sQ zQ) (qQ (rQ (r:=rIx K) yQ uQ (rQ (r:=rIx K) yQ uQ (cv 0) jQ (fun _ _=>rfl)) jQ (fun _ _=>rfl)) (qQ (sQ zQ) (qQ (sQ zQ) zQ))))) zQ)))))),?_⟩
 ·obtain ⟨pts,vv,V,rfl,_⟩:=h; rfl
 rintro ts C R ⟨pts,vv,V,rfl,hs,hV,hv,q⟩;have h6:=hs.n6;have rk:=sG hs
 cases pts with
 | nil=>exact absurd hs.n1 (by show ¬ 1≤0; omega)
 | cons y pts =>
 refine ⟨by show 0≤sizeLine; decide,?_⟩;refine wJ (xs:=(y::pts).map Pt.pv) (v:=y.pv) gX ?_;refine wJ (xs:=[.str y.name,.tup (y.first.map kX),.tup (y.works.map jG),.tup (Ln.pvs y.ls)]) gX ?_;refine ⟨by show 0≤sizeLine; decide,?_⟩;refine ⟨by show 0≤sizeLine; decide,?_⟩;refine ⟨by show 4≤sizeLine; decide,?_⟩;exact ⟨y::pts,vv,V,root (y::pts),0,rfl,hs,hV,hv,rk,by omega,fun p C' np mp g=>q p C' np mp g⟩
def gBoxes:GC:=fun ts C Q=>∃ (t:Addr) (y:Pt) (ns:List Int),ts=[.ref t,y.pv]∧Tp C t ns∧y.first.length≤4∧∀ bs C',SBd bs→bs.length≤4→Tp C' t ns→Ex t C C'→Q (.tup (bs.map kX)) C'
theorem Wf (T:Txt P w K mg a):FnOk P w K mg base CX0 3 a.bR a.tH U19 (spC K gBoxes):=by
 have S:=eS;have cG:=vH (base:=base) T;refine Fun.okC T.tN eS (fun ts C R h => ?_) fun cdv A outer s H E hr=>⟨_,(mQ (jX (xX zX dZ rfl T.bZ rfl (qQ (lO rfl (show (["_law_name","_law_first","_law_tape_here","_law_part_here"]:List Str).Nodup by decide +kernel) (yP (N:=U19) (sc:=kQ oK) rfl rfl rfl (by decide +kernel)) (rD (rQ (r:=rIx K) yQ uQ (cv 1) jQ (fun _ _=>rfl))) (fun _ _ _ _ _=>vV) (fun _ _ _ _ _=>(sQ (qQ (cv 0) (qQ (wQ cG hr rfl T.bD T.k_l_number T.b_l_number lQ (qQ (cv 2) zQ)) zQ))))) zQ)))),?_⟩
 ·obtain ⟨t,y,ns,rfl,_⟩:=h; rfl
 rintro ts C R ⟨t,y,ns,rfl,hT,hl,q⟩;refine wJ (xs:=[.str y.name,.tup (y.first.map kX),.tup (y.works.map jG),.tup (Ln.pvs y.ls)]) (v:=.tup (y.first.map kX)) rfl ?_;refine aF (fun zs acc C'=>∃ (us:List (Str×Int)) (bs:List (Str×Int)),zs=us.map kX∧acc=bs.map kX∧SBd bs∧bs.length+us.length=y.first.length∧Tp C' t ns∧Ex t C C') ?_ ?_ _ _ _ ⟨y.first,[],rfl,rfl,(fun _ z=>nomatch z),Nat.zero_add _,hT,Ex.refl⟩
 ·rintro z zs acc C1 ⟨us,bs,hz,rfl,hb,hlen,T1,e1⟩
  cases us with
  | nil=>cases hz
  | cons u us =>
  obtain ⟨rfl,rfl⟩:=List.cons.inj hz;refine ⟨[.str u.1,.int u.2],rfl,rfl,fun L hL => ?_⟩;rw [List.length_cons] at hlen;refine ⟨t,ns,rfl,T1,fun i C2 i0 i1 T2 e2=>⟨by show 2≤sizeLine; decide,hL _ _ ⟨?_,us,bs++[(u.1,i)],rfl,by rw [List.map_append]; rfl,fun c hc => ?_,by rw [List.length_append,List.length_singleton]; omega,T2,e1.trans e2⟩⟩⟩
  ·rw [List.length_map]
   exact Nat.lt_of_lt_of_le (show bs.length < 5 by omega) (by decide)
  ·rcases List.mem_append.1 hc with hc | hc
   ·exact hb c hc
   ·cases List.mem_singleton.1 hc; exact ⟨i0,i1⟩
 ·rintro acc C1 ⟨us,bs,hz,rfl,hb,hlen,T1,e1⟩ p hp
  cases us with
  | cons u us=>cases hz
  | nil =>
  have hlen:bs.length+0=y.first.length:=hlen;refine qV xQ ?_;exact q bs _ hb (by omega) (T1.new hp _) (e1.trans (Ex.new hp _))
def gValues:GC:=fun ts C Q=>∃ (t:Addr) (pts:List Pt) (ns:List Int),ts=[.ref t,.tup (pts.map Pt.pv)]∧Tp C t ns∧yN pts∧∀ vv V C',VOk V→C vv=none→C' vv=some (.dP (vlP V))→vv≠t→Tp C' t ns→Ex t C C'→Q (.ref vv) C'
theorem Kl (T:Txt P w K mg a):FnOk P w K mg base CX0 35 a.eL a.cD U27 (spC K gValues):=by
 have S:=qC;have jD:=Xk (base:=base) T;have tQ:=(nJ (base:=base) T).mono (show 1≤34 by decide);have kB:=(yT (base:=base) T).mono (show 1≤34 by decide);have Vg:=(Wf (base:=base) T).mono (show 3≤34 by decide)
 refine Fun.okC T.aD qC (fun ts C R h => ?_) fun cdv A outer s H E hr=>⟨_,(vQ (dQ (i:=2) S.nd rfl (Or.inl rfl) fP)
  (vQ (aB PassesOwn.never rfl (wQ jD hr rfl T.uH T.k_l_fresh T.b_l_fresh lQ (qQ (cv 1) (qQ fP zQ))) (vF rfl (aX (pX (i:=3) S.nd rfl (Or.inl rfl)) (aX (pX (i:=4) S.nd rfl (Or.inl rfl)) (aX (pX (i:=5) S.nd rfl (Or.inl rfl)) (aX (pX (i:=6) S.nd rfl (Or.inl rfl)) (aX (pX (i:=7) S.nd rfl (Or.inl rfl)) jU)))))) (vQ (dQ (i:=8) S.nd rfl (Or.inl rfl) (wQ tQ hr rfl T.wX T.k_l_draw T.b_l_draw lQ (qQ (cv 0) (qQ jQ zQ))))
  (mQ (sX (iQ rL iB (cv 8) jQ (oQ _)) (vQ (dQ (i:=9) S.nd rfl (Or.inl rfl) (wQ kB hr rfl T.yH T.k_l_named T.b_l_named lQ (qQ (cv 1) (qQ (cv 4) zQ))))
  (vQ (sX (iQ uZ nX (cv 8) jQ (oQ _)) (mQ (dQ (i:=9) S.nd rfl (Or.inl rfl) (rQ (r:=rIx K) yQ uQ (cv 1) (wQ tQ hr rfl T.wX T.k_l_draw T.b_l_draw lQ (qQ (cv 0) (qQ (mX zZ tZ rfl T.bV rfl (qQ (cv 1) zQ)) zQ))) (fun _ _=>rfl)))) dX)
  (mQ (Qx (uG hr) (cv 2) (cv 3) (sQ (qQ (rQ (r:=rIx K) yQ uQ (cv 9) jQ (fun _ _=>rfl)) (qQ (wQ Vg hr rfl T.Ky T.k_l_boxes T.b_l_boxes lQ (qQ (cv 0) (qQ (cv 9) zQ))) zQ))))))) dX))))
  (mQ (jX (cv 2))))),?_⟩
 ·obtain ⟨t,pts,ns,rfl,_⟩:=h; rfl
 rintro ts C R ⟨t,pts,ns,rfl,hT,hs,q⟩;have h6:=hs.n6;have h1:=hs.n1;refine cQ ?_;intro vv hvv;have nvt:=hT.ne hvv
 try dsimp only
 refine oZ ?_;intro v0 hv0;have nv0:vv≠v0:=fun z=>by subst z; rw [xQ] at hv0; cases hv0
 have T1:=(hT.new hvv (.dP [])).new hv0 (.dP []);have g1:Gr C (nQ (nQ C vv (.dP [])) v0 (.dP [])):=(Gr.new hvv _).trans (Gr.new hv0 _);refine ⟨pts,v0,[],rfl,hs,VOk.nil,xQ,fun p C2 np mp g2 => ?_⟩
 have T2:Tp C2 t ns:=by
  obtain ⟨⟨a1,b1,c1,e1,r1⟩,l1⟩:=T1;exact ⟨⟨a1,b1,c1,g2 _ _ e1,r1⟩,l1⟩
 have npt:p≠t:=T1.ne np;have npv:p≠vv:=fun z=>by rw [z,bQ nv0,xQ] at np; cases np
 have mv2:C2 vv=some (.dP (vlP [])):=g2 _ _ (by rw [bQ nv0]; exact xQ);have g12:Gr C C2:=g1.trans g2;have e02:Ex t C C2:=fun b o _ h=>g12 b o h;have hlen:(drawn pts []).length≤559:=W6 hs VOk.nil (sG hs);refine ⟨(drawn pts []).length+1,?_⟩;refine eY (xs:=(drawn pts []).map En.pv) (fun i ρ C'=>C' p=some (.lst ((drawn pts []).map En.pv))∧∃ (V:Vl) (x3 x4 x5 x6 x7 x8 x9:Option PV),ρ=[some (.ref t),some (.tup (pts.map Pt.pv)),some (.ref vv),x3,x4,x5,x6,x7,x8,x9]∧VOk V∧V.length≤i∧i≤(drawn pts []).length∧C' vv=some (.dP (vlP V))∧Tp C' t ns∧Ex t C C') (fun _ _ _ h=>h.1) ?_ ?_ _ 0 _ _ ⟨mp,[],_,_,_,_,_,_,_,rfl,VOk.nil,Nat.le_refl _,Nat.zero_le _,mv2,T2,e02⟩ (by rw [List.length_map]; omega) (Nat.zero_le _)
 ·rintro i z ρ C3 hz ⟨m3,V,x3,x4,x5,x6,x7,x8,x9,rfl,hV,hVl,hi,mv,T3,e3⟩ L hL
  rw [List.getElem?_map] at hz
  cases he:(drawn pts [])[i]? with
  | none=>rw [he] at hz; cases hz
  | some en =>
  rw [he] at hz;cases hz;have hmem:=List.mem_of_getElem? he;have hi':i < (drawn pts []).length:=(List.getElem?_eq_some_iff.1 he).1;obtain ⟨k',du,_⟩:=W5 hs VOk.nil 6 0 _ (sG hs) en hmem;obtain ⟨y,ha⟩:=ZU hs VOk.nil du;refine ⟨rfl,?_⟩;refine yZ (yZ (yZ (yZ (yZ (qF ?_)))))
  try dsimp only
  refine cQ ?_;refine ⟨t,6,ns,rfl,T3,by decide,by decide,fun v C4 v00 v01 T4 e4 => ?_⟩
  try dsimp only
  have m4:=e4 _ _ npt m3;have mv4:=e4 _ _ nvt mv;refine i_i ?_;refine bJ (fun hb => ?_) fun hb => ?_
  ·refine cQ ?_
   refine ⟨pts,y,by rw [ha.nm],h6,hs.nd,ha.mem,fun C5 g5 => ?_⟩
   have T5:Tp C5 t ns:=by
    obtain ⟨⟨a1,b1,c1,e1,r1⟩,l1⟩:=T4;exact ⟨⟨a1,b1,c1,g5 _ _ e1,r1⟩,l1⟩
   try dsimp only
   refine oX (fun ρ' C'=>∃ z∈pts,ρ'=[some (.ref t),some (.tup (pts.map Pt.pv)),some (.ref vv),some (kZ en.x.path),some (.str en.x.name),some (.tup (en.x.gives.map kX)),some (.tup (en.x.downs.map kX)),some en.pc.pv,some (.int v),some z.pv]∧Tp C' t ns∧Ex t C5 C') (fun L1 hL1 => ?_) ?_
   ·refine iX (iZ _ _) ?_
    refine bJ (fun hb2 => ?_) fun hb2 => ?_
    ·refine Xx ?_
     rw [List.length_map];refine ⟨t,_,ns,rfl,T5,by omega,by omega,fun j C6 j0 j1 T6 e6 => ?_⟩;refine wJ (rW (f:=Pt.pv) (ss:=pts) y j0 j1) ?_;refine hL1 _ _ ⟨pts.getD j.toNat y,?_,rfl,T6,e6⟩;rw [List.getD_eq_getElem?_getD,List.getElem?_eq_getElem (by omega)];exact List.getElem_mem _
    ·refine jZ ?_
     exact hL1 _ _ ⟨y,ha.mem,rfl,T5,Ex.refl⟩
   rintro ρ' C6 ⟨zp,hzp,rfl,T6,e6⟩
   try dsimp only
   have hzl:zp.first.length≤4:=by
    obtain ⟨j,hj,ej⟩:=List.getElem_of_mem hzp;exact (hs.ok j zp (by rw [List.getElem?_eq_getElem hj,ej])).fl
   refine wJ (xs:=[.str zp.name,.tup (zp.first.map kX),.tup (zp.works.map jG),.tup (Ln.pvs zp.ls)]) gX ?_;refine ⟨t,zp,ns,rfl,T6,hzl,fun bs C7 hbs hbl T7 e7=>⟨by show 2≤sizeLine; decide,?_⟩⟩;have mv7:=e7 _ _ nvt (e6 _ _ nvt (g5 _ _ mv4));have m7:=e7 _ _ npt (e6 _ _ npt (g5 _ _ m4));refine Zo mv7 (jY _) (by unfold vlP; rw [List.length_map]; omega) ?_;rw [show PV.tup [PV.str zp.name,PV.tup (bs.map kX)]=vPV (zp.name,bs) from rfl,put_vl]
   refine hL _ _ ⟨by rw [bQ npv]; exact m7,Xb V en.x.path (zp.name,bs),_,_,_,_,_,_,_,rfl,putV_ok hV _ hbs hbl,by have:=VL V en.x.path (zp.name,bs); omega,hi',xQ,T7.put nvt _,?_⟩;have x7:Ex t C C7:=fun b o n h=>e7 b o n (e6 b o n (g5 b o (e4 b o n (e3 b o n h))));exact x7.put hvv _
  ·refine jZ ?_
   exact hL _ _ ⟨m4,V,_,_,_,_,_,_,_,rfl,hV,by omega,hi',mv4,T4,e3.trans e4⟩
 ·rintro ρ C3 ⟨m3,V,x3,x4,x5,x6,x7,x8,x9,rfl,hV,hVl,hi,mv,T3,e3⟩
  exact q vv V C3 hV hvv mv nvt T3 e3
end
def aT (path:cX) (h:HdV):PV:=.tup [.str h.ev,.int h.rank,.bl h.last,kZ path,.tup (h.ch.map XU)]
def vX (D:List En) (p:cX):List Wt:=((D.find? fun e=>decide (e.x.path=p)).map (·.pc.row)).getD []
theorem Jj:∀ {D:List En}{e:En},(qJ D).Nodup→e∈D→vX D e.x.path=e.pc.row
 | [],e,_,m=>nomatch m
 | z::D,e,nd,m=>by
  have nd:(z.x.path::qJ D).Nodup:=nd;rw [List.nodup_cons] at nd;unfold vX;rw [List.find?_cons]
  rcases List.mem_cons.1 m with rfl | m
  ·rw [decide_eq_true rfl]; rfl
  ·have ne:¬ z.x.path=e.x.path:=fun h=>nd.1 (by rw [h]; exact List.mem_map.2 ⟨e,m,rfl⟩)
   rw [decide_eq_false ne];exact Jj nd.2 m
def bx1 (f:cX→cX→cX→List Wt→List PV) (rows:cX→List Wt) (path spots label:cX):Wt→List PV
 | .plain sp tag s h r=>[.tup [kZ (label++[sp]),.tup [.str tag,.tup (s.map kX),.tup (h.map (aT path)),.tup (f path (spots++[sp]) [] r)]]]
 | .give sp _ _ r=>f path (spots++[sp]) (label++[sp]) r
 | .part sp _ _=>f (spots++[sp]) (spots++[sp]) (label++[sp]) (rows (spots++[sp]))
def bxs (rows:cX→List Wt):Nat→cX→cX→cX→List Wt→List PV
 | 0,_,_,_,_=>[]
 | n+1,path,spots,label,row=>row.flatMap (bx1 (bxs rows n) rows path spots label)
def bl1 (f:cX→List Wt→Nat) (rows:cX→List Wt) (spots:cX):Wt→Nat
 | .plain _ _ _ _ _=>1
 | .give sp _ _ r=>f (spots++[sp]) r
 | .part sp _ _=>f (spots++[sp]) (rows (spots++[sp]))
def bl (rows:cX→List Wt):Nat→cX→List Wt→Nat
 | 0,_,_=>0
 | n+1,spots,row=>(row.map (bl1 (bl rows n) rows spots)).sum
theorem yU (rows:cX→List Wt):∀ (n:Nat) (path spots label:cX) (row:List Wt),(bxs rows n path spots label row).length=bl rows n spots row:=by
 intro n
 induction n with
 | zero=>intro _ _ _ _; rfl
 | succ n ih =>
  intro path spots label row;rw [bxs,bl]
  induction row with
  | nil=>rfl
  | cons x row ihr =>
   rw [List.flatMap_cons,List.length_append,List.map_cons,List.sum_cons,ihr]
   congr 1
   cases x with
   | plain sp t s h r=>rfl
   | give sp n' i r=>exact ih _ _ _ _
   | part sp n' g=>exact ih _ _ _ _
def Ft (D:List En):Nat→cX→List Wt→Prop
 | 0,_,_=>False
 | n+1,spots,row=>bl (vX D) (n+1) spots row≤100000∧∀ x∈row,x.sp.length≤2∧match x with
  | .plain sp _ s h r=>(s.length≤4∧h.length≤4∧∀ y∈h,y.ch.length≤4)∧Ft D n (spots++[sp]) r
  | .give sp _ _ r=>Ft D n (spots++[sp]) r
  | .part sp _ _=>(∃ e∈D,e.x.path=spots++[sp])∧Ft D n (spots++[sp]) (vX D (spots++[sp]))
theorem VD {D:List En}{rs:List Str}{N b:Nat}(x:cX) (hN:1≤N):∀ (d:Nat) (r:List Wt) (s:cX) (ds:List (Str×Int)),(∀ y∈r,WtOk rs d y)→Wt.wcs r+Wt.pcs r * b≤100000 →
  (∀ q∈Wt.prts r s ds,(∃ e∈D,e.x.path=x++q.path)∧∀ M,N≤M→Ft D M (x++q.path) (vX D (x++q.path))∧bl (vX D) M (x++q.path) (vX D (x++q.path))≤b) →
  ∀ M,N+d≤M→Ft D M (x++s) r∧bl (vX D) M (x++s) r≤Wt.wcs r+Wt.pcs r * b:=by
 intro d
 induction d with
 | zero =>
  intro r s ds ok hb hq M hM
  cases r with
  | cons y r=>exact (ok y List.mem_cons_self).elim
  | nil =>
   obtain ⟨m,rfl⟩:∃ m,M=m+1:=⟨M - 1,by omega⟩;exact ⟨⟨Nat.zero_le _,fun _ z=>(nomatch z)⟩,Nat.zero_le _⟩
 | succ d ih =>
  intro r s ds ok hb hq M hM;obtain ⟨m,rfl⟩:∃ m,M=m+1:=⟨M - 1,by omega⟩
  have one:∀ y:Wt,WtOk rs (d+1) y→y.wc+y.pc * b≤100000→(∀ q∈y.prt s ds,(∃ e∈D,e.x.path=x++q.path)∧∀ M,N≤M→Ft D M (x++q.path) (vX D (x++q.path))∧bl (vX D) M (x++q.path) (vX D (x++q.path))≤b) →
    (match y with
     | .plain sp _ s' h r=>(s'.length≤4∧h.length≤4∧∀ y∈h,y.ch.length≤4)∧Ft D m (x++s++[sp]) r
     | .give sp _ _ r=>Ft D m (x++s++[sp]) r
     | .part sp _ _=>(∃ e∈D,e.x.path=x++s++[sp])∧Ft D m (x++s++[sp]) (vX D (x++s++[sp])))∧bl1 (bl (vX D) m) (vX D) (x++s) y≤y.wc+y.pc * b:=by
   intro y oy hy hq
   cases y with
   | plain sp t ss h r' =>
    obtain ⟨_,o0,o1,o2⟩:=oy;have hw:(Wt.plain sp t ss h r').wc=1+Wt.wcs r':=by rw [Wt.wc]
    have hp:(Wt.plain sp t ss h r').pc=Wt.pcs r':=by rw [Wt.pc]
    rw [hw,hp] at hy;have:=ih r' (s++[sp]) ds o1 (by omega) (fun q hqm=>hq q (by rw [Wt.prt]; exact hqm)) m (by omega);rw [← List.append_assoc] at this;exact ⟨⟨o0,this.1⟩,by show 1≤_; rw [hw]; omega⟩
   | give sp n i r' =>
    obtain ⟨_,bi,o1,o2⟩:=oy;have hw:(Wt.give sp n i r').wc=1+Wt.wcs r':=by rw [Wt.wc]
    have hp:(Wt.give sp n i r').pc=Wt.pcs r':=by rw [Wt.pc]
    rw [hw,hp] at hy;have:=ih r' (s++[sp]) (tG ds [(n,i)]) o1 (by omega) (fun q hqm=>hq q (by rw [Wt.prt]; exact hqm)) m (by omega);rw [← List.append_assoc] at this;refine ⟨this.1,?_⟩;rw [hw,hp];have h2:=this.2;show bl (vX D) m (x++s++[sp]) r'≤_;omega
   | part sp n g =>
    obtain ⟨he,hM'⟩:=hq ⟨s++[sp],n,g,ds⟩ (by rw [Wt.prt]; exact List.mem_singleton.2 rfl);have h2:=hM' m (by omega);have ea:x++(s++[sp])=x++s++[sp]:=by rw [List.append_assoc]
    have he:∃ e∈D,e.x.path=x++(s++[sp]):=he;have h2:Ft D m (x++(s++[sp])) (vX D (x++(s++[sp])))∧bl (vX D) m (x++(s++[sp])) (vX D (x++(s++[sp])))≤b:=h2;rw [ea] at he h2;refine ⟨⟨he,h2.1⟩,?_⟩;have hw:(Wt.part sp n g).wc=1:=by rw [Wt.wc]
    have hp:(Wt.part sp n g).pc=1:=by rw [Wt.pc]
    rw [hw,hp];have:=h2.2;show bl (vX D) m (x++s++[sp]) (vX D (x++s++[sp]))≤_;omega
  have all:∀ r:List Wt,(∀ y∈r,WtOk rs (d+1) y)→Wt.wcs r+Wt.pcs r * b≤100000→(∀ q∈Wt.prts r s ds,(∃ e∈D,e.x.path=x++q.path)∧∀ M,N≤M→Ft D M (x++q.path) (vX D (x++q.path))∧bl (vX D) M (x++q.path) (vX D (x++q.path))≤b) →
    (∀ y∈r,match y with
     | .plain sp _ s' h r=>(s'.length≤4∧h.length≤4∧∀ y∈h,y.ch.length≤4)∧Ft D m (x++s++[sp]) r
     | .give sp _ _ r=>Ft D m (x++s++[sp]) r
     | .part sp _ _=>(∃ e∈D,e.x.path=x++s++[sp])∧Ft D m (x++s++[sp]) (vX D (x++s++[sp])))∧(r.map (bl1 (bl (vX D) m) (vX D) (x++s))).sum≤Wt.wcs r+Wt.pcs r * b:=by
   intro r
   induction r with
   | nil=>intro _ _ _; exact ⟨fun _ z=>(nomatch z),Nat.zero_le _⟩
   | cons y r ihr =>
    intro ok hb hq;have hb:(y.wc+Wt.wcs r)+(y.pc+Wt.pcs r) * b≤100000:=hb;rw [Nat.add_mul] at hb;obtain ⟨a1,a2⟩:=one y (ok y List.mem_cons_self) (by omega) fun q hqm=>hq q (by rw [Wt.prts]; exact List.mem_append_left _ hqm);obtain ⟨b1,b2⟩:=ihr (fun z hz=>ok z (List.mem_cons_of_mem _ hz)) (by omega) fun q hqm=>hq q (by rw [Wt.prts]; exact List.mem_append_right _ hqm);refine ⟨fun z hz => ?_,?_⟩
    ·rcases List.mem_cons.1 hz with rfl | hz
     ·exact a1
     ·exact b1 z hz
    ·rw [List.map_cons,List.sum_cons]
     show _≤(y.wc+Wt.wcs r)+(y.pc+Wt.pcs r) * b;rw [Nat.add_mul];omega
  obtain ⟨c1,c2⟩:=all r ok hb hq;refine ⟨⟨?_,fun y hy=>⟨(ok y hy).spl,c1 y hy⟩⟩,?_⟩
  ·rw [bl]; omega
  ·rw [bl]; exact c2
def bbd (m k:Nat):Nat:=if k=0 then 26832 else 48 * (2 ^ m - 1)
theorem dr_fits {pts:List Pt}(hs:yN pts) {V:Vl}(hV:VOk V) {D:List En}(nd:(qJ D).Nodup):∀ (n k:Nat) (x:Prt),pE pts k x→pts.length≤k+n→(∀ e∈dr pts V n x,e∈D) →
  (∃ e∈D,e.x.path=x.path)∧∀ M,6 * (pts.length - k)+1≤M→Ft D M x.path (vX D x.path)∧bl (vX D) M x.path (vX D x.path)≤bbd (pts.length - k) k:=by
 intro n
 induction n with
 | zero =>
  intro k x h hn;have:=(List.getElem?_eq_some_iff.1 h.nm).1;unfold zV at this;rw [List.length_map] at this;omega
 | succ n ih =>
  intro k x h hn hD;obtain ⟨y,ha⟩:=ZU hs hV h
  have hkl:k < pts.length:=by
   have:=(List.getElem?_eq_some_iff.1 h.nm).1;unfold zV at this;rw [List.length_map] at this;exact this
  have hN:=hs.n6;have hmem:(⟨x,yB pts V x⟩:En)∈D:=hD _ (by rw [dr]; exact List.mem_cons_self);have hl:vX D x.path=(yB pts V x).row:=Jj nd hmem;refine ⟨⟨_,hmem,rfl⟩,fun M hM => ?_⟩;rw [hl];have hcap:eV k≤18:=by unfold eV; split<;>decide
  have pk:=ha.pcs;have wk:=ha.wcs;have p5:2 ^ (pts.length - k - 1)≤2 ^ 5:=Nat.pow_le_pow_right (by decide) (by omega);have e5:(2:Nat) ^ 5=32:=rfl;have hpb:Wt.pcs (yB pts V x).row * (48 * (2 ^ (pts.length - k - 1) - 1))≤eV k * (48 * (2 ^ (pts.length - k - 1) - 1)):=Nat.mul_le_mul_right _ pk;have hcb:eV k * (48 * (2 ^ (pts.length - k - 1) - 1))≤18 * (48 * 31):=Nat.mul_le_mul hcap (by omega)
  have R:=VD (D:=D) (rs:=(zV pts).drop (k+1)) (N:=6 * (pts.length - k - 1)+1) (b:=48 * (2 ^ (pts.length - k - 1) - 1)) x.path (by omega) 6 (yB pts V x).row [] [] ha.row.1 (by omega) (fun q hq=>by
   obtain ⟨k',hk',dq,qn,_⟩:=zB h ha hq;obtain ⟨a1,a2⟩:=ih k' (pW x q) dq (by omega) fun e he=>hD e (by rw [dr]; exact List.mem_cons_of_mem _ (List.mem_flatMap.2 ⟨q,hq,he⟩));refine ⟨a1,fun M' hM' => ?_⟩;obtain ⟨b1,b2⟩:=a2 M' (by omega);refine ⟨b1,Nat.le_trans b2 ?_⟩;unfold bbd;rw [if_neg (by omega)];have:2 ^ (pts.length - k')≤2 ^ (pts.length - k - 1):=Nat.pow_le_pow_right (by decide) (by omega)
   omega) M (by omega)
  rw [List.append_nil] at R;refine ⟨R.1,Nat.le_trans R.2 ?_⟩;have hpb2:=Nat.le_trans hpb hcb;unfold bbd;unfold eV at hpb
  split
  ·omega
  ·next hk0 =>
   rw [if_neg hk0] at hpb;have e:pts.length - k=(pts.length - k - 1)+1:=by omega
   rw [e,Nat.pow_succ];have e2:pts.length - k - 1+1 - 1=pts.length - k - 1:=by omega
   rw [e2] at *
   have:1≤2 ^ (pts.length - k - 1):=Nat.one_le_two_pow;omega
theorem ZM {pts:List Pt}(hs:yN pts) {V:Vl}(hV:VOk V):(∃ e∈drawn pts V,e.x.path=[])∧Ft (drawn pts V) 37 [] (vX (drawn pts V) []):=by
 have nd:=dr_nd hs hV 6 0 _ (sG hs);have h6:=hs.n6;obtain ⟨a1,a2⟩:=dr_fits hs hV (D:=drawn pts V) nd 6 0 _ (sG hs) (by omega) fun e he=>he;exact ⟨a1,(a2 37 (by omega)).1⟩
def lU (D:List En):List (cX×PV):=D.map fun e=>(e.x.path,.tup (Wt.pvs e.pc.row))
theorem fM {p:cX}:∀ {D:List En},(∃ e∈D,e.x.path=p)→iV (lU D) p=some (.tup (Wt.pvs (vX D p)))
 | [],h=>by obtain ⟨e,he,_⟩:=h; exact nomatch he
 | z::D,h=>by
  show iV ((z.x.path,PV.tup (Wt.pvs z.pc.row))::lU D) p=_;rw [mV];unfold vX;rw [List.find?_cons]
  by_cases e:z.x.path=p
  ·rw [if_pos e,decide_eq_true e]; rfl
  ·rw [if_neg e,decide_eq_false e]
   refine fM ?_;obtain ⟨y,hy,ey⟩:=h
   rcases List.mem_cons.1 hy with rfl | hy
   ·exact absurd ey e
   ·exact ⟨y,hy,ey⟩
theorem Xa {D:List En}{e:En}(h:e.x.path∉qJ D):putG (lU D) e.x.path (.tup (Wt.pvs e.pc.row))=lU (D++[e]):=by
 unfold putG;rw [if_neg]
 ·unfold lU
  rw [List.map_append]
  rfl
 ·intro z
  refine h ?_;obtain ⟨x,hx,ex⟩:=List.any_eq_true.1 z;unfold lU at hx;obtain ⟨y,hy,rfl⟩:=List.mem_map.1 hx;exact List.mem_map.2 ⟨y,hy,of_decide_eq_true ex⟩
theorem ext_l {a b:Addr}{xs ys:List PV}{C:CH}{Q:K1}(h1:C a=some (.lst xs)) (h2:C b=some (.lst ys)) (z:xs.length+ys.length≤sizeLine) (q:Q .non (nQ C a (.lst (xs++ys)))):tR (.ref a) [.ref b] C Q:=by
 unfold tR;dsimp only;rw [h1,h2];exact ⟨z,q⟩
theorem tM {n:Nat}(h:n≤200000):n≤sizeLine:=Nat.le_trans h (by decide)
theorem qR (s:cX) (sp:List Key):PV.tup (s.map zK++[zK sp])=kZ (s++[sp]):=by unfold kZ; rw [List.map_append]; rfl
theorem Z7 (f:Wt→Nat) (us:List Wt) (u:Wt) (vs:List Wt):((us++u::vs).map f).sum=(us.map f).sum+f u+(vs.map f).sum:=by
 rw [List.map_append,List.sum_append,List.map_cons,List.sum_cons]; omega
section
variable {P:Program}{w:World}{K:PySem.W.Frag}{mg:Str→Option Value}{base:Heap}{a:Adr}
def gBx (n:Nat):GC:=fun ts C Q=>∃ (rr:Addr) (D:List En) (path spots label:cX) (row:List Wt),ts=[.ref rr,kZ path,kZ spots,kZ label,.tup (Wt.pvs row)]∧C rr=some (.dP (lU D))∧Ft D n spots row∧spots.length+n≤500∧label.length+n≤500 ∧
 ∀ p C',C p=none→C' p=some (.lst (bxs (vX D) n path spots label row))→Gr C C'→Q (.ref p) C'
def gBo (n:Nat):GC:=fun ts C Q=>∃ (rr:Addr) (D:List En) (path spots:cX) (sp:List Key) (tag:Str) (ss:List (Str×Int)) (hs:List HdV) (row:List Wt),ts=[.ref rr,kZ path,kZ spots,(Wt.plain sp tag ss hs row).pv]∧C rr=some (.dP (lU D))∧Ft D n spots row∧spots.length+n≤500∧n≤500∧hs.length≤4 ∧
 ∀ C',Gr C C'→Q (.tup [.str tag,.tup (ss.map kX),.tup (hs.map (aT path)),.tup (bxs (vX D) n path spots [] row)]) C'
theorem Ko (T:Txt P w K mg a) (n r:Nat) (sW:FnOk P w K mg base CX0 r a.boxes_in a.oB U22 (spC K (gBx n))):FnOk P w K mg base CX0 (r+1) a.box_of a.bO U30 (spC K (gBo n)):=by
 have S:=dA
 refine Fun.okC T.fE dA (fun ts C R h => ?_) fun cdv A outer s H E hr=>⟨_,(vQ (dQ (i:=4) S.nd rfl (Or.inl rfl) (xX zX dZ rfl T.bZ rfl (qQ (xU rfl (show (["hand","rows","path","spots","want","hands"]:List Str).Nodup by decide +kernel) (yJ (N:=U38) (sc:=kQ kW) rfl rfl rfl (by decide +kernel)) (rD (rQ (r:=rIx K) yQ uQ (cv 3) jQ (fun _ _=>rfl))) (fun _ _ _ _ _=>vV) (fun _ _ _ _ _=>(sQ (qQ (rQ (r:=rIx K) yQ uQ (cv 0) jQ (fun _ _=>rfl)) (qQ (rQ (r:=rIx K) yQ uQ (cv 0) jQ (fun _ _=>rfl)) (qQ (rQ (r:=rIx K) yQ uQ (cv 0) jQ (fun _ _=>rfl)) (qQ (cv 2) (qQ (rQ (r:=rIx K) yQ uQ (cv 0) jQ (fun _ _=>rfl)) zQ)))))))) zQ)))
  (mQ (jX (sQ (qQ (rQ (r:=rIx K) yQ uQ (cv 3) jQ (fun _ _=>rfl)) (qQ (rQ (r:=rIx K) yQ uQ (cv 3) jQ (fun _ _=>rfl)) (qQ (cv 4) (qQ (xX zX dZ rfl T.bZ rfl (qQ (wQ sW hr rfl T.gB T.k_boxes_in T.b_boxes_in lQ (qQ (cv 0) (qQ (cv 1) (qQ (cv 2) (qQ (sQ zQ) (qQ (rQ (r:=rIx K) yQ uQ (cv 3) jQ (fun _ _=>rfl)) zQ)))))) zQ)) zQ)))))))),?_⟩
 ·obtain ⟨rr,D,path,spots,sp,tag,ss,hs,row,rfl,_⟩:=h; rfl
 rintro ts C R ⟨rr,D,path,spots,sp,tag,ss,hs,row,rfl,mr,ft,h1,h2,hl,q⟩;have ep:(Wt.plain sp tag ss hs row).pv=.tup [.str "plain",zK sp,.str tag,.tup (ss.map kX),.tup (hs.map HdV.pv),.tup (Wt.pvs row)]:=by rw [Wt.pv]
 refine cQ ?_;refine fX ep (v:=.tup (hs.map HdV.pv)) rfl ?_;refine qB (fun zs acc C'=>C'=C∧∃ us vs:List HdV,hs=us++vs∧zs=vs.map HdV.pv∧acc=us.map (aT path)) ?_ ?_ _ _ _ ⟨rfl,[],hs,rfl,rfl,rfl⟩
 ·rintro z zs acc C1 ⟨rfl,us,vs,e,hz,rfl⟩ L hL
  cases vs with
  | nil=>cases hz
  | cons v vs =>
  obtain ⟨rfl,rfl⟩:=List.cons.inj hz;have hv:v.pv=.tup [.str v.ev,.int v.rank,.bl v.last,.tup (v.ch.map XU)]:=rfl;refine fX hv (v:=.str v.ev) rfl ?_;refine fX hv (v:=.int v.rank) rfl ?_;refine fX hv (v:=.bl v.last) rfl ?_;refine fX hv (v:=.tup (v.ch.map XU)) rfl ?_;refine ⟨by show 5≤sizeLine; decide,?_⟩;refine hL _ _ ⟨?_,rfl,us++[v],vs,by rw [List.append_assoc]; exact e,rfl,by rw [List.map_append]; rfl⟩
  rw [List.length_map];have:=congrArg List.length e;rw [List.length_append,List.length_cons] at this;exact Nat.lt_of_lt_of_le (show us.length < 5 by omega) (by decide)
 ·rintro acc C1 ⟨rfl,us,vs,e,hz,rfl⟩ p hp
  cases vs with
  | cons v vs=>cases hz
  | nil =>
  rw [List.append_nil] at e;subst e;refine qV xQ ?_
  try dsimp only
  have g1:Gr C1 (nQ C1 p (.lst (hs.map (aT path)))):=Gr.new hp _;refine fX ep (v:=.str tag) rfl ?_;refine fX ep (v:=.tup (ss.map kX)) rfl ?_;refine ⟨by show 0≤sizeLine; decide,?_⟩;refine fX ep (v:=.tup (Wt.pvs row)) rfl ?_;refine ⟨rr,D,path,spots,[],row,rfl,g1 _ _ mr,ft,h1,by show 0+n≤500; omega,fun p2 C2 n2 m2 g2 => ?_⟩;refine qV m2 ?_;refine ⟨by show 4≤sizeLine; decide,?_⟩;exact q C2 (g1.trans g2)
theorem Xl (T:Txt P w K mg a) (n:Nat):FnOk P w K mg base CX0 (2 * n) a.boxes_in a.oB U22 (spC K (gBx n)):=by
 induction n with
 | zero=>exact uW fun ts C Q ⟨rr,D,path,spots,label,row,_,_,h,_⟩=>h
 | succ n ih =>
 have S:=jC;have YH:=Ko (base:=base) T n (2 * n) ih;have sW:=ih.mono (show 2 * n≤2 * n+1 by omega);have e2n:2 * (n+1)=2 * n+1+1:=by omega
 rw [e2n]
 refine Fun.okC T.qL jC (fun ts C R h => ?_) fun cdv A outer s H E hr=>⟨_,(vQ (dQ (i:=5) S.nd rfl (Or.inl rfl) (mZ zQ))
  (vQ (eB PassesOwn.never rfl (cv 4) (pX (i:=6) S.nd rfl (Or.inl rfl)) (vQ (dQ (i:=7) S.nd rfl (Or.inl rfl) (uX hX rX (cv 2) (sQ (qQ (rQ (r:=rIx K) yQ uQ (cv 6) jQ (fun _ _=>rfl)) zQ))))
  (vQ (dQ (i:=8) S.nd rfl (Or.inl rfl) (uX hX rX (cv 3) (sQ (qQ (rQ (r:=rIx K) yQ uQ (cv 6) jQ (fun _ _=>rfl)) zQ))))
  (mQ (sX (iQ uZ nX (rQ (r:=rIx K) yQ uQ (cv 6) jQ (fun _ _=>rfl)) gQ (oQ _)) (mQ (mJ (wF PySem.F.plainAttrs_list PySem.F.slot_list_append PySem.F.type_list_append pJ tJ (cv 5) (qQ (sQ (qQ (cv 8) (qQ (wQ YH hr rfl T.Wq T.k_box_of T.b_box_of lQ (qQ (cv 0) (qQ (cv 1) (qQ (cv 7) (qQ (cv 6) zQ))))) zQ))) zQ)))) (mQ (sX (iQ uZ nX (rQ (r:=rIx K) yQ uQ (cv 6) jQ (fun _ _=>rfl)) gQ (oQ _)) (mQ (mJ (wF PySem.F.plainAttrs_list PySem.F.slot_list_extend PySem.F.type_list_extend (fun p s σ H x vs v us Q=>aA p s σ H x vs v us Q) dO (cv 5) (qQ (wQ sW hr rfl T.gB T.k_boxes_in T.b_boxes_in lQ (qQ (cv 0) (qQ (cv 1) (qQ (cv 7) (qQ (cv 8) (qQ (rQ (r:=rIx K) yQ uQ (cv 6) jQ (fun _ _=>rfl)) zQ)))))) zQ)))) (mQ (mJ (wF PySem.F.plainAttrs_list PySem.F.slot_list_extend PySem.F.type_list_extend (fun p s σ H x vs v us Q=>aA p s σ H x vs v us Q) dO (cv 5) (qQ (wQ sW hr rfl T.gB T.k_boxes_in T.b_boxes_in lQ (qQ (cv 0) (qQ (cv 7) (qQ (cv 7) (qQ (cv 8) (qQ (qN (uG hr) (cv 0) (cv 7) (fun _ _=>rfl)) zQ)))))) zQ)))))))))))
  (mQ (jX (cv 5))))),?_⟩
 ·obtain ⟨rr,D,path,spots,label,row,rfl,_⟩:=h; rfl
 rintro ts C R ⟨rr,D,path,spots,label,row,rfl,mr,ft,h1,h2,q⟩;obtain ⟨hb,ft⟩:=ft;rw [bl] at hb;refine cQ ?_;refine ⟨by show 0≤sizeLine; decide,fun ff hff => ?_⟩
 try dsimp only
 refine oZ ?_;refine mH rfl ?_;refine kK (fun zs ρ C'=>∃ (x6 x7 x8:Option PV) (us vs:List Wt),row=us++vs∧zs=Wt.pvs vs∧ρ=[some (.ref rr),some (kZ path),some (kZ spots),some (kZ label),some (.tup (Wt.pvs row)),some (.ref ff),x6,x7,x8]∧C' ff=some (.lst (us.flatMap (bx1 (bxs (vX D) n) (vX D) path spots label)))∧Gr C C') ?_ ?_ _ _ _ ⟨_,_,_,[],row,rfl,rfl,rfl,xQ,Gr.new hff _⟩
 ·rintro z zs ρ C1 ⟨x6,x7,x8,us,vs,e,hz,rfl,m1,g1⟩ L hL
  cases vs with
  | nil=>cases hz
  | cons u vs =>
  obtain ⟨rfl,rfl⟩:=List.cons.inj (show z::zs=u.pv::Wt.pvs vs from hz);have hu:=(ft u (by rw [e]; exact List.mem_append_right _ List.mem_cons_self)).2
  have hlu:(us.flatMap (bx1 (bxs (vX D) n) (vX D) path spots label)).length=(us.map (bl1 (bl (vX D) n) (vX D) spots)).sum:=by
   have:=yU (vX D) (n+1) path spots label us;rw [bxs,bl] at this;exact this
  rw [e,Z7] at hb
  have fin:∀ C' x6 x7 x8,C' ff=some (.lst (us.flatMap (bx1 (bxs (vX D) n) (vX D) path spots label)++bx1 (bxs (vX D) n) (vX D) path spots label u))→Gr C C'→L [some (.ref rr),some (kZ path),some (kZ spots),some (kZ label),some (.tup (Wt.pvs row)),some (.ref ff),x6,x7,x8] C':=by
   intro C' y6 y7 y8 hm hg;refine hL _ _ ⟨y6,y7,y8,us++[u],vs,by rw [List.append_assoc]; exact e,rfl,rfl,?_,hg⟩;rw [hm,List.flatMap_append,List.flatMap_cons,List.flatMap_nil,List.append_nil]
  obtain ⟨wd,rest,ep,hwd⟩:=Vj u;refine cQ ?_;refine fX ep xM ?_;refine ⟨by show 1≤sizeLine; decide,?_⟩;refine xB (lY (by rw [List.length_map]; show spots.length+1≤1000; omega)) ?_;rw [qR]
  try dsimp only
  refine cQ ?_;refine fX ep xM ?_;refine ⟨by show 1≤sizeLine; decide,?_⟩;refine xB (lY (by rw [List.length_map]; show label.length+1≤1000; omega)) ?_;rw [qR]
  try dsimp only
  cases u with
  | plain sp tag ss hs r =>
   have ep:(Wt.plain sp tag ss hs r).pv=.tup [.str "plain",zK sp,.str tag,.tup (ss.map kX),.tup (hs.map HdV.pv),.tup (Wt.pvs r)]:=by rw [Wt.pv]
   refine fX ep gX ?_;refine iX (qX _ _) ?_;refine cW (by decide) ?_;refine ⟨qU m1,?_⟩;refine ⟨rr,D,path,spots++[sp],sp,tag,ss,hs,r,rfl,g1 _ _ mr,hu.2,by rw [List.length_append,List.length_singleton]; omega,by omega,hu.1.2.1,fun C2 g2=>⟨by show 2≤sizeLine; decide,?_⟩⟩;refine lC (g2 _ _ m1) (Nat.lt_of_le_of_lt (show _≤200000 by rw [hlu]; omega) (by decide)) ?_;exact fin _ _ _ _ (by rw [xQ]; rfl) (bG (g1.trans g2) hff _)
  | give sp nm i r =>
   have ep:(Wt.give sp nm i r).pv=.tup [.str "give",zK sp,.str nm,.int i,.tup (Wt.pvs r)]:=by rw [Wt.pv]
   refine fX ep gX ?_;refine iX (qX _ _) ?_;refine eZ (by decide) ?_;refine fX ep gX ?_;refine iX (qX _ _) ?_;refine cW (by decide) ?_;refine ⟨qU m1,?_⟩;refine fX ep (v:=.tup (Wt.pvs r)) rfl ?_;refine ⟨rr,D,path,spots++[sp],label++[sp],r,rfl,g1 _ _ mr,hu,by rw [List.length_append,List.length_singleton]; omega,by rw [List.length_append,List.length_singleton]; omega,fun p2 C2 n2 m2 g2 => ?_⟩;refine ext_l (g2 _ _ m1) m2 (tM ?_) ?_
   ·rw [hlu,yU]
    have hb:_+bl (vX D) n (spots++[sp]) r+_≤100000:=hb;omega
   exact fin _ _ _ _ (by rw [xQ]; rfl) (bG (g1.trans g2) hff _)
  | part sp nm g =>
   have ep:(Wt.part sp nm g).pv=.tup [.str "part",zK sp,.str nm,.tup (g.map kX)]:=by rw [Wt.pv]
   refine fX ep gX ?_;refine iX (qX _ _) ?_;refine eZ (by decide) ?_;refine fX ep gX ?_;refine iX (qX _ _) ?_;refine eZ (by decide) ?_;refine ⟨qU m1,?_⟩;refine sA (g1 _ _ mr) (jY _) (fM hu.1) ?_;refine ⟨rr,D,spots++[sp],spots++[sp],label++[sp],vX D (spots++[sp]),rfl,g1 _ _ mr,hu.2,by rw [List.length_append,List.length_singleton]; omega,by rw [List.length_append,List.length_singleton]; omega,fun p2 C2 n2 m2 g2 => ?_⟩
   refine ext_l (g2 _ _ m1) m2 (tM ?_) ?_
   ·rw [hlu,yU]
    have hb:_+bl (vX D) n (spots++[sp]) (vX D (spots++[sp]))+_≤100000:=hb;omega
   exact fin _ _ _ _ (by rw [xQ]; rfl) (bG (g1.trans g2) hff _)
 ·rintro ρ C1 ⟨x6,x7,x8,us,vs,e,hz,rfl,m1,g1⟩
  cases vs with
  | cons u vs=>cases hz
  | nil =>
  rw [List.append_nil] at e;subst e;exact q ff C1 hff m1 g1
def gTree:GC:=fun ts C Q=>∃ (dd:Addr) (D:List En),ts=[.ref dd]∧C dd=some (.lst (D.map En.pv))∧(qJ D).Nodup∧D.length≤600∧(∃ e∈D,e.x.path=[])∧Ft D 37 [] (vX D [])∧∀ C',Gr C C'→Q (.tup (bxs (vX D) 37 [] [] [] (vX D []))) C'
theorem Zu (T:Txt P w K mg a):FnOk P w K mg base CX0 75 a.tree_of a.pH ["drawing"] (spC K gTree):=by
 have S:=gS;have sW:=Xl (base:=base) T 37
 refine Fun.okC T.gN gS (fun ts C R h => ?_) fun cdv A outer s H E hr=>⟨_,(vQ (dQ (i:=1) S.nd rfl (Or.inl rfl) fP)
  (vQ (aB PassesOwn.never rfl (cv 0) (pX (i:=2) S.nd rfl (Or.inl rfl)) (mQ (Qx (uG hr) (cv 1) (rQ (r:=rIx K) yQ uQ (cv 2) jQ (fun _ _=>rfl)) (rQ (r:=rIx K) yQ uQ (rQ (r:=rIx K) yQ uQ (cv 2) jQ (fun _ _=>rfl)) jQ (fun _ _=>rfl)))))
  (mQ (jX (xX zX dZ rfl T.bZ rfl (qQ (wQ sW hr rfl T.gB T.k_boxes_in T.b_boxes_in lQ (qQ (cv 1) (qQ (sQ zQ) (qQ (sQ zQ) (qQ (sQ zQ) (qQ (qN (uG hr) (cv 1) (sQ zQ) (fun _ _=>rfl)) zQ)))))) zQ)))))),?_⟩
 ·obtain ⟨dd,D,rfl,_⟩:=h; rfl
 rintro ts C R ⟨dd,D,rfl,md,nd,hl,h0,ft,q⟩;refine cQ ?_;intro rr hrr;have ndr:dd≠rr:=fun z=>by rw [z,hrr] at md; cases md
 try dsimp only
 refine oZ ?_;refine ⟨D.length+1,?_⟩;refine eY (xs:=D.map En.pv) (fun i ρ C'=>C' dd=some (.lst (D.map En.pv))∧∃ (x2:Option PV),i≤D.length∧ρ=[some (.ref dd),some (.ref rr),x2]∧C' rr=some (.dP (lU (D.take i)))∧Gr C C') (fun _ _ _ h=>h.1) ?_ ?_ _ 0 _ _ ⟨by rw [bQ ndr]; exact md,_,Nat.zero_le _,rfl,xQ,Gr.new hrr _⟩ (by rw [List.length_map]; omega) (Nat.zero_le _)
 ·rintro i z ρ C1 hz ⟨m1,x2,hi,rfl,mr,g1⟩ L hL
  rw [List.getElem?_map] at hz
  cases he:D[i]? with
  | none=>rw [he] at hz; cases hz
  | some en =>
  rw [he] at hz;cases hz;have hi':i < D.length:=(List.getElem?_eq_some_iff.1 he).1;have hv:en.pv=.tup [kZ en.x.path,.str en.x.name,.tup (en.x.gives.map kX),.tup (en.x.downs.map kX),en.pc.pv]:=rfl;refine fX hv (v:=en.pc.pv) rfl ?_;refine wJ (xs:=[.tup (en.pc.reads.map kY),.tup (Wt.pvs en.pc.row),.tup (en.pc.works.map kX)]) (v:=.tup (Wt.pvs en.pc.row)) rfl ?_;refine fX hv (v:=kZ en.x.path) rfl ?_;refine Zo mr (jY _) (by unfold lU; rw [List.length_map,List.length_take]; omega) ?_
  have et:D.take (i+1)=D.take i++[en]:=by rw [List.take_add_one,he]; rfl
  have nin:en.x.path∉qJ (D.take i):=by
   have h2:(qJ (D.take (i+1))).Nodup:=by
    unfold qJ at nd ⊢;rw [List.map_take];exact nd.sublist (List.take_sublist _ _)
   rw [et] at h2;unfold qJ at h2;rw [List.map_append,List.nodup_append] at h2;intro hm;exact h2.2.2 _ hm _ (by simp) rfl
  rw [Xa nin,← et];refine hL _ _ ⟨by rw [bQ ndr]; exact m1,_,hi',rfl,xQ,bG g1 hrr _⟩
 ·rintro ρ C1 ⟨m1,x2,hi,rfl,mr,g1⟩
  rw [List.length_map,List.take_of_length_le (Nat.le_refl _)] at mr
  try dsimp only
  refine ⟨by show 0≤sizeLine; decide,?_⟩;refine ⟨by show 0≤sizeLine; decide,?_⟩;refine ⟨by show 0≤sizeLine; decide,?_⟩;refine ⟨by show 0≤sizeLine; decide,?_⟩;refine sA mr (k:=[]) rfl (fM h0) ?_;refine ⟨rr,D,[],[],[],_,rfl,mr,ft,by decide,by decide,fun p2 C2 n2 m2 g2 => ?_⟩;refine qV m2 ?_;exact q C2 (g1.trans g2)
end
theorem slT_s {xs:List PV}{lo hi:Option Int}{C:CH}{Q:K1}(h:¬ (HT.sIx xs.length 0 lo=0∧HT.sIx xs.length xs.length hi=xs.length)) (q:Q (.tup (oC xs lo hi)) C):Yt (.tup xs) lo hi C Q:=by
 unfold Yt;exact ⟨h,q⟩
theorem VA {x:PV}{xs:List PV}{lo hi:Option Int}{C:CH}{Q:K1}(e:x=.tup xs) (h:¬ (HT.sIx xs.length 0 lo=0∧HT.sIx xs.length xs.length hi=xs.length)) (q:Q (.tup (oC xs lo hi)) C):Yt x lo hi C Q:=by
 subst e;exact slT_s h q
section
variable {P:Program}{w:World}{K:PySem.W.Frag}{mg:Str→Option Value}{base:Heap}{a:Adr}
def gLb (n:Nat):GC:=fun ts C Q=>∃ (rr:Addr) (D:List En) (path spots label:cX) (row:List Wt),ts=[.ref rr,kZ path,.tup (Wt.pvs row),kZ spots,kZ label]∧C rr=some (.dP (lU D))∧Ft D n spots row∧spots.length+n≤500∧label.length+n≤500 ∧
 ∀ C',Gr C C'→Q (.tup (bxs (vX D) n path spots label row)) C'
theorem Kn (T:Txt P w K mg a) (n:Nat):FnOk P w K mg base CX0 n a.mB a.sB U12 (spC K (gLb n)):=by
 induction n with
 | zero=>exact uW fun ts C Q ⟨rr,D,path,spots,label,row,_,_,h,_⟩=>h
 | succ n ih =>
 have S:=vD;have bW:=ih
 refine Fun.okC T.wM vD (fun ts C R h => ?_) fun cdv A outer s H E hr=>⟨_,(vQ (dQ (i:=5) S.nd rfl (Or.inl rfl) (sQ zQ))
  (vQ (eB PassesOwn.never rfl (cv 2) (pX (i:=6) S.nd rfl (Or.inl rfl)) (vQ (dQ (i:=7) S.nd rfl (Or.inl rfl) (uX hX rX (cv 3) (sQ (qQ (rQ (r:=rIx K) yQ uQ (cv 6) jQ (fun _ _=>rfl)) zQ))))
  (vQ (dQ (i:=8) S.nd rfl (Or.inl rfl) (uX hX rX (cv 4) (sQ (qQ (rQ (r:=rIx K) yQ uQ (cv 6) jQ (fun _ _=>rfl)) zQ))))
  (mQ (sX (iQ uZ nX (rQ (r:=rIx K) yQ uQ (cv 6) jQ (fun _ _=>rfl)) gQ (oQ _)) (mQ (dQ (i:=5) S.nd rfl (Or.inl rfl) (uX hX rX (cv 5) (wQ bW hr rfl T.cY T.k_l_boxes_of T.b_l_boxes_of lQ (qQ (cv 0) (qQ (cv 7) (qQ (qN (uG hr) (cv 0) (cv 7) (fun _ _=>rfl)) (qQ (cv 7) (qQ (cv 8) zQ))))))))) (mQ (sX (iQ uZ nX (rQ (r:=rIx K) yQ uQ (cv 6) jQ (fun _ _=>rfl)) gQ (oQ _)) (mQ (dQ (i:=5) S.nd rfl (Or.inl rfl) (uX hX rX (cv 5) (wQ bW hr rfl T.cY T.k_l_boxes_of T.b_l_boxes_of lQ (qQ (cv 0) (qQ (cv 1) (qQ (rQ (r:=rIx K) yQ uQ (cv 6) jQ (fun _ _=>rfl)) (qQ (cv 7) (qQ (cv 8) zQ))))))))) (vQ (dQ (i:=9) S.nd rfl (Or.inl rfl) (xX zX dZ rfl T.bZ rfl (qQ (xU rfl (show (["_law_one","_law_entries","_law_path","_law_row_here","_law_base","_law_ahead","_law_found","_law_want","_law_here","_law_label","_law_hands_here","_law_inner"]:List Str).Nodup by decide +kernel) (yJ (N:=U11) (sc:=kQ aZ) rfl rfl rfl (by decide +kernel)) (rD (rQ (r:=rIx K) yQ uQ (cv 6) jQ (fun _ _=>rfl))) (fun _ _ _ _ _=>vV) (fun _ _ _ _ _=>(uX hX rX (uX hX rX (Yi (cv 0) bP (gP jQ)) (sQ (qQ (cv 2) zQ))) (Yi (cv 0) (gP jQ) bP)))) zQ)))
  (vQ (dQ (i:=10) S.nd rfl (Or.inl rfl) (wQ bW hr rfl T.cY T.k_l_boxes_of T.b_l_boxes_of lQ (qQ (cv 0) (qQ (cv 1) (qQ (rQ (r:=rIx K) yQ uQ (cv 6) jQ (fun _ _=>rfl)) (qQ (cv 7) (qQ (sQ zQ) zQ)))))))
  (mQ (dQ (i:=5) S.nd rfl (Or.inl rfl) (uX hX rX (cv 5) (sQ (qQ (sQ (qQ (cv 8) (qQ (sQ (qQ (rQ (r:=rIx K) yQ uQ (cv 6) jQ (fun _ _=>rfl)) (qQ (rQ (r:=rIx K) yQ uQ (cv 6) jQ (fun _ _=>rfl)) (qQ (cv 9) (qQ (cv 10) zQ))))) zQ))) zQ))))))))))))))
  (mQ (jX (cv 5))))),?_⟩
 ·obtain ⟨rr,D,path,spots,label,row,rfl,_⟩:=h; rfl
 rintro ts C R ⟨rr,D,path,spots,label,row,rfl,mr,ft,h1,h2,q⟩;obtain ⟨hb,ft⟩:=ft;rw [bl] at hb;refine cQ ?_;refine ⟨by show 0≤sizeLine; decide,?_⟩
 try dsimp only
 refine oZ ?_;refine mH rfl ?_;refine kK (fun zs ρ C'=>∃ (x6 x7 x8 x9 x10:Option PV) (us vs:List Wt),row=us++vs∧zs=Wt.pvs vs∧ρ=[some (.ref rr),some (kZ path),some (.tup (Wt.pvs row)),some (kZ spots),some (kZ label),some (.tup (us.flatMap (bx1 (bxs (vX D) n) (vX D) path spots label))),x6,x7,x8,x9,x10]∧Gr C C') ?_ ?_ _ _ _ ⟨_,_,_,_,_,[],row,rfl,rfl,rfl,Gr.refl⟩
 ·rintro z zs ρ C1 ⟨x6,x7,x8,x9,x10,us,vs,e,hz,rfl,g1⟩ L hL
  cases vs with
  | nil=>cases hz
  | cons u vs =>
  obtain ⟨rfl,rfl⟩:=List.cons.inj (show z::zs=u.pv::Wt.pvs vs from hz);have hu:=(ft u (by rw [e]; exact List.mem_append_right _ List.mem_cons_self)).2
  have hlu:(us.flatMap (bx1 (bxs (vX D) n) (vX D) path spots label)).length=(us.map (bl1 (bl (vX D) n) (vX D) spots)).sum:=by
   have:=yU (vX D) (n+1) path spots label us;rw [bxs,bl] at this;exact this
  rw [e,Z7] at hb
  have fin:∀ C' x6 x7 x8 x9 x10,Gr C C'→L [some (.ref rr),some (kZ path),some (.tup (Wt.pvs row)),some (kZ spots),some (kZ label),some (.tup (us.flatMap (bx1 (bxs (vX D) n) (vX D) path spots label)++bx1 (bxs (vX D) n) (vX D) path spots label u)),x6,x7,x8,x9,x10] C':=by
   intro C' y6 y7 y8 y9 y10 hg;refine hL _ _ ⟨y6,y7,y8,y9,y10,us++[u],vs,by rw [List.append_assoc]; exact e,rfl,?_,hg⟩;rw [List.flatMap_append,List.flatMap_cons,List.flatMap_nil,List.append_nil]
  obtain ⟨wd,rest,ep,hwd⟩:=Vj u;refine cQ ?_;refine fX ep xM ?_;refine ⟨by show 1≤sizeLine; decide,?_⟩;refine xB (lY (by rw [List.length_map]; show spots.length+1≤1000; omega)) ?_;rw [qR]
  try dsimp only
  refine cQ ?_;refine fX ep xM ?_;refine ⟨by show 1≤sizeLine; decide,?_⟩;refine xB (lY (by rw [List.length_map]; show label.length+1≤1000; omega)) ?_;rw [qR]
  try dsimp only
  cases u with
  | plain sp tag ss hs r =>
   have ep:(Wt.plain sp tag ss hs r).pv=.tup [.str "plain",zK sp,.str tag,.tup (ss.map kX),.tup (hs.map HdV.pv),.tup (Wt.pvs r)]:=by rw [Wt.pv]
   have hhl:hs.length≤4:=hu.1.2.1;refine fX ep gX ?_;refine iX (qX _ _) ?_;refine eZ (by decide) ?_;refine fX ep gX ?_;refine iX (qX _ _) ?_;refine eZ (by decide) ?_;refine cQ ?_;refine fX ep (v:=.tup (hs.map HdV.pv)) rfl ?_;refine qB (fun zs acc C'=>C'=C1∧∃ us vs:List HdV,hs=us++vs∧zs=vs.map HdV.pv∧acc=us.map (aT path)) ?_ ?_ _ _ _ ⟨rfl,[],hs,rfl,rfl,rfl⟩
   ·rintro z zs acc C2 ⟨rfl,us,vs,e,hz,rfl⟩ L2 hL2
    cases vs with
    | nil=>cases hz
    | cons v vs =>
    obtain ⟨rfl,rfl⟩:=List.cons.inj hz;have hv:v.pv=.tup [.str v.ev,.int v.rank,.bl v.last,.tup (v.ch.map XU)]:=rfl;refine VA hv (by show ¬ (HT.sIx 4 0 none=0∧HT.sIx 4 4 (some 3)=4); decide) ?_;refine ⟨by show 1≤sizeLine; decide,?_⟩;refine xB (by show 3+1≤sizeLine; decide) ?_;refine VA hv (by show ¬ (HT.sIx 4 0 (some 3)=0∧HT.sIx 4 4 none=4); decide) ?_;refine xB (by show 4+1≤sizeLine; decide) ?_;refine hL2 _ _ ⟨?_,rfl,us++[v],vs,by rw [List.append_assoc]; exact e,rfl,by rw [List.map_append]; rfl⟩
    rw [List.length_map];have:=congrArg List.length e;rw [List.length_append,List.length_cons] at this;exact Nat.lt_of_lt_of_le (show us.length < 5 by omega) (by decide)
   ·rintro acc C2 ⟨rfl,us',vs',e',hz,rfl⟩ p hp
    cases vs' with
    | cons v vs=>cases hz
    | nil =>
    rw [List.append_nil] at e';subst e';refine qV xQ ?_
    try dsimp only
    have g2:Gr C (nQ C2 p (.lst (hs.map (aT path)))):=g1.trans (Gr.new hp _);refine cQ ?_;refine fX ep (v:=.tup (Wt.pvs r)) rfl ?_;refine ⟨by show 0≤sizeLine; decide,?_⟩;refine ⟨rr,D,path,spots++[sp],[],r,rfl,g2 _ _ mr,hu.2,by rw [List.length_append,List.length_singleton]; omega,by show 0+n≤500; omega,fun C3 g3 => ?_⟩
    try dsimp only
    refine fX ep (v:=.str tag) rfl ?_;refine fX ep (v:=.tup (ss.map kX)) rfl ?_;refine ⟨by show 4≤sizeLine; decide,?_⟩;refine ⟨by show 2≤sizeLine; decide,?_⟩;refine ⟨by show 1≤sizeLine; decide,?_⟩;refine xB (tM (by rw [hlu]; show _+1≤200000; omega)) ?_;exact fin _ _ _ _ _ _ (g2.trans g3)
  | give sp nm i r =>
   have ep:(Wt.give sp nm i r).pv=.tup [.str "give",zK sp,.str nm,.int i,.tup (Wt.pvs r)]:=by rw [Wt.pv]
   refine fX ep gX ?_;refine iX (qX _ _) ?_;refine eZ (by decide) ?_;refine fX ep gX ?_;refine iX (qX _ _) ?_;refine cW (by decide) ?_;refine fX ep (v:=.tup (Wt.pvs r)) rfl ?_;refine ⟨rr,D,path,spots++[sp],label++[sp],r,rfl,g1 _ _ mr,hu,by rw [List.length_append,List.length_singleton]; omega,by rw [List.length_append,List.length_singleton]; omega,fun C2 g2 => ?_⟩;refine xB (tM ?_) ?_
   ·rw [hlu,yU]
    have hb:_+bl (vX D) n (spots++[sp]) r+_≤100000:=hb;omega
   exact fin _ _ _ _ _ _ (g1.trans g2)
  | part sp nm g =>
   have ep:(Wt.part sp nm g).pv=.tup [.str "part",zK sp,.str nm,.tup (g.map kX)]:=by rw [Wt.pv]
   refine fX ep gX ?_;refine iX (qX _ _) ?_;refine cW (by decide) ?_;refine sA (g1 _ _ mr) (jY _) (fM hu.1) ?_;refine ⟨rr,D,spots++[sp],spots++[sp],label++[sp],vX D (spots++[sp]),rfl,g1 _ _ mr,hu.2,by rw [List.length_append,List.length_singleton]; omega,by rw [List.length_append,List.length_singleton]; omega,fun C2 g2 => ?_⟩;refine xB (tM ?_) ?_
   ·rw [hlu,yU]
    have hb:_+bl (vX D) n (spots++[sp]) (vX D (spots++[sp]))+_≤100000:=hb;omega
   exact fin _ _ _ _ _ _ (g1.trans g2)
 ·rintro ρ C1 ⟨x6,x7,x8,x9,x10,us,vs,e,hz,rfl,g1⟩
  cases vs with
  | cons u vs=>cases hz
  | nil =>
  rw [List.append_nil] at e;subst e;exact q C1 g1
theorem Wb (T:Txt P w K mg a):FnOk P w K mg base CX0 38 a.Qk a.xO U39 (spC K gTree):=by
 have S:=kA;have bW:=Kn (base:=base) T 37
 refine Fun.okC T.xE kA (fun ts C R h => ?_) fun cdv A outer s H E hr=>⟨_,(vQ (dQ (i:=1) S.nd rfl (Or.inl rfl) fP)
  (vQ (aB PassesOwn.never rfl (cv 0) (pX (i:=2) S.nd rfl (Or.inl rfl)) (mQ (Qx (uG hr) (cv 1) (rQ (r:=rIx K) yQ uQ (cv 2) jQ (fun _ _=>rfl)) (rQ (r:=rIx K) yQ uQ (rQ (r:=rIx K) yQ uQ (cv 2) jQ (fun _ _=>rfl)) jQ (fun _ _=>rfl)))))
  (mQ (jX (wQ bW hr rfl T.cY T.k_l_boxes_of T.b_l_boxes_of lQ (qQ (cv 1) (qQ (sQ zQ) (qQ (qN (uG hr) (cv 1) (sQ zQ) (fun _ _=>rfl)) (qQ (sQ zQ) (qQ (sQ zQ) zQ)))))))))),?_⟩
 ·obtain ⟨dd,D,rfl,_⟩:=h; rfl
 rintro ts C R ⟨dd,D,rfl,md,nd,hl,h0,ft,q⟩;refine cQ ?_;intro rr hrr;have ndr:dd≠rr:=fun z=>by rw [z,hrr] at md; cases md
 try dsimp only
 refine oZ ?_;refine ⟨D.length+1,?_⟩;refine eY (xs:=D.map En.pv) (fun i ρ C'=>C' dd=some (.lst (D.map En.pv))∧∃ (x2:Option PV),i≤D.length∧ρ=[some (.ref dd),some (.ref rr),x2]∧C' rr=some (.dP (lU (D.take i)))∧Gr C C') (fun _ _ _ h=>h.1) ?_ ?_ _ 0 _ _ ⟨by rw [bQ ndr]; exact md,_,Nat.zero_le _,rfl,xQ,Gr.new hrr _⟩ (by rw [List.length_map]; omega) (Nat.zero_le _)
 ·rintro i z ρ C1 hz ⟨m1,x2,hi,rfl,mr,g1⟩ L hL
  rw [List.getElem?_map] at hz
  cases he:D[i]? with
  | none=>rw [he] at hz; cases hz
  | some en =>
  rw [he] at hz;cases hz;have hi':i < D.length:=(List.getElem?_eq_some_iff.1 he).1;have hv:en.pv=.tup [kZ en.x.path,.str en.x.name,.tup (en.x.gives.map kX),.tup (en.x.downs.map kX),en.pc.pv]:=rfl;refine fX hv (v:=en.pc.pv) rfl ?_;refine wJ (xs:=[.tup (en.pc.reads.map kY),.tup (Wt.pvs en.pc.row),.tup (en.pc.works.map kX)]) (v:=.tup (Wt.pvs en.pc.row)) rfl ?_;refine fX hv (v:=kZ en.x.path) rfl ?_;refine Zo mr (jY _) (by unfold lU; rw [List.length_map,List.length_take]; omega) ?_
  have et:D.take (i+1)=D.take i++[en]:=by rw [List.take_add_one,he]; rfl
  have nin:en.x.path∉qJ (D.take i):=by
   have h2:(qJ (D.take (i+1))).Nodup:=by
    unfold qJ at nd ⊢;rw [List.map_take];exact nd.sublist (List.take_sublist _ _)
   rw [et] at h2;unfold qJ at h2;rw [List.map_append,List.nodup_append] at h2;intro hm;exact h2.2.2 _ hm _ (by simp) rfl
  rw [Xa nin,← et];refine hL _ _ ⟨by rw [bQ ndr]; exact m1,_,hi',rfl,xQ,bG g1 hrr _⟩
 ·rintro ρ C1 ⟨m1,x2,hi,rfl,mr,g1⟩
  rw [List.length_map,List.take_of_length_le (Nat.le_refl _)] at mr
  try dsimp only
  refine ⟨by show 0≤sizeLine; decide,?_⟩;refine ⟨by show 0≤sizeLine; decide,?_⟩;refine sA mr (k:=[]) rfl (fM h0) ?_;refine ⟨by show 0≤sizeLine; decide,?_⟩;refine ⟨by show 0≤sizeLine; decide,?_⟩;exact ⟨rr,D,[],[],[],_,rfl,mr,ft,by decide,by decide,fun C2 g2=>q C2 (g1.trans g2)⟩
end
section
variable {P:Program}{w:World}{K:PySem.W.Frag}{mg:Str→Option Value}{base:Heap}{a:Adr}
def Wz:Ty→Option Str
 | .non=>some "none"
 | .bl=>some "truth"
 | .int=>some "number"
 | .str=>some "text"
 | .tup=>some "tuple"
 | .lst=>some "list"
 | _=>none
def gKind:GC:=fun ts C Q=>∃ (x:PV) (n:Ty) (k:Str),ts=[x]∧tyP C x=some n∧Wz n=some k∧∀ C',Gr C C'→Q (.str k) C'
theorem WQ {x:PV}(h:nC x=true):x=.non:=by
 cases x<;>first | rfl | cases h
theorem ok_kind (T:Txt P w K mg a):FnOk P w K mg base CX0 1 a.Qp a.uO U37 (spC K gKind):=by
 have S:=bA
 refine Fun.okC T.gE bA (fun ts C R h => ?_) fun cdv A outer s H E hr=>⟨_,(vQ (sX (iQ op_isN cop_isN (cv 0) nD (oQ _)) (mQ (jX gQ)) dX)
  (vQ (sX (mO (mX xY cP rfl T.zW rfl (qQ (cv 0) (qQ (X2 (n := "bool") rfl T.z_bool rfl) zQ)))) (mQ (jX gQ)) dX)
  (vQ (dQ (i:=1) S.nd rfl (Or.inr rfl) (mZ (qQ (mX xY cP rfl T.zW rfl (qQ (cv 0) (qQ (X2 (n := "int") rfl T.zL rfl) zQ))) (qQ (mX xY cP rfl T.zW rfl (qQ (cv 0) (qQ (X2 (n := "str") rfl T.z_str rfl) zQ))) (qQ (mX xY cP rfl T.zW rfl (qQ (cv 0) (qQ (X2 (n := "tuple") rfl T.bZ rfl) zQ))) (qQ (mX xY cP rfl T.zW rfl (qQ (cv 0) (qQ (X2 (n := "list") rfl T.Vh rfl) zQ))) zQ))))))
  (vQ (dQ (i:=2) S.nd rfl (Or.inr rfl) (mZ (qQ gQ (qQ gQ (qQ gQ (qQ gQ zQ))))))
  (mQ (jX (rQ (r:=rIx K) yQ uQ (uX hX rX (xU rfl (show (["_law_k","_law_thing_here","_law_kinds","_law_names_here"]:List Str).Nodup by decide +kernel) (yJ (N:=U34) (sc:=kQ xW) rfl rfl rfl (by decide +kernel)) (cO rfl T.fY (qQ jQ zQ)) (fun _ _ _ _ _=>(Yg (mO (rQ (r:=rIx K) yQ uQ (cv 2) (cv 0) (fun _ _=>rfl))))) (fun _ _ _ _ _=>(rQ (r:=rIx K) yQ uQ (cv 3) (cv 0) (fun _ _=>rfl)))) (mZ (qQ gQ zQ))) jQ (fun _ _=>rfl)))))))),?_⟩
 ·obtain ⟨x,n,k,rfl,_⟩:=h; rfl
 rintro ts C R ⟨x,n,k,rfl,hx,hk,q⟩;refine WU (fun hb => ?_) fun hb => ?_
 ·have e:=WQ hb
  subst e;cases hx;cases hk;exact q C Gr.refl
 refine jZ ?_
 try dsimp only
 refine XF rfl hx (WU (fun hb2 => ?_) fun hb2 => ?_)
 ·cases n with
  | bl=>cases hk; exact q C Gr.refl
  | _=>first | cases hb2 | cases hk
 refine jZ ?_
 try dsimp only
 refine cQ ?_;refine XF (T:=.int) rfl hx ?_;refine XF (T:=.str) rfl hx ?_;refine XF (T:=.tup) rfl hx ?_;refine XF (T:=.lst) rfl hx ?_;refine ⟨(show 4≤sizeLine by decide),fun p1 h1=>⟨by decide,fun p2 h2=>⟨by decide,by decide,?_⟩⟩⟩;have mk:nQ (nQ C p1 (.lst [.bl (yG n .int),.bl (yG n .str),.bl (yG n .tup),.bl (yG n .lst)])) p2 (.lst [.str "number",.str "text",.str "tuple",.str "list"]) p1=some (.lst [.bl (yG n .int),.bl (yG n .str),.bl (yG n .tup),.bl (yG n .lst)]):=(Gr.new h2 _) p1 _ xQ
 have mn:nQ (nQ C p1 (.lst [.bl (yG n .int),.bl (yG n .str),.bl (yG n .tup),.bl (yG n .lst)])) p2 (.lst [.str "number",.str "text",.str "tuple",.str "list"]) p2=some (.lst [.str "number",.str "text",.str "tuple",.str "list"]):=xQ;have g2:Gr C (nQ (nQ C p1 (.lst [.bl (yG n .int),.bl (yG n .str),.bl (yG n .tup),.bl (yG n .lst)])) p2 (.lst [.str "number",.str "text",.str "tuple",.str "list"])):=(Gr.new h1 _).trans (Gr.new h2 _)
 cases n with
 | non =>
  cases x with
  | non=>cases hb
  | ref a=>unfold tyP at hx; dsimp only at hx; split at hx<;>cases hx
  | _=>cases hx
 | int =>
  cases hk;refine xZ (x:=.int 0) (r:=[.int 1,.int 2,.int 3]) ?_;refine fZ mk rfl ?_;refine cW ?_ ?_
  ·rfl
  refine fZ mn rfl ?_;refine ⟨by decide,?_⟩;refine xZ (x:=.int 1) (r:=[.int 2,.int 3]) ?_;refine fZ mk rfl ?_;refine eZ ?_ ?_
  ·rfl
  refine xZ (x:=.int 2) (r:=[.int 3]) ?_;refine fZ mk rfl ?_;refine eZ ?_ ?_
  ·rfl
  refine xZ (x:=.int 3) (r:=[]) ?_;refine fZ mk rfl ?_;refine eZ ?_ ?_
  ·rfl
  refine fG fun p3 h3 => ?_;refine ⟨by decide,fun p4 h4=>iO ((Gr.new h4 _) p3 _ xQ) xQ (by decide) fun p5 h5=>fZ xQ rfl ?_⟩;exact q _ ((((g2.trans (Gr.new h3 _)).trans (Gr.new h4 _)).trans (Gr.new h5 _)))
 | str =>
  cases hk;refine xZ (x:=.int 0) (r:=[.int 1,.int 2,.int 3]) ?_;refine fZ mk rfl ?_;refine eZ ?_ ?_
  ·rfl
  refine xZ (x:=.int 1) (r:=[.int 2,.int 3]) ?_;refine fZ mk rfl ?_;refine cW ?_ ?_
  ·rfl
  refine fZ mn rfl ?_;refine ⟨by decide,?_⟩;refine xZ (x:=.int 2) (r:=[.int 3]) ?_;refine fZ mk rfl ?_;refine eZ ?_ ?_
  ·rfl
  refine xZ (x:=.int 3) (r:=[]) ?_;refine fZ mk rfl ?_;refine eZ ?_ ?_
  ·rfl
  refine fG fun p3 h3 => ?_;refine ⟨by decide,fun p4 h4=>iO ((Gr.new h4 _) p3 _ xQ) xQ (by decide) fun p5 h5=>fZ xQ rfl ?_⟩;exact q _ ((((g2.trans (Gr.new h3 _)).trans (Gr.new h4 _)).trans (Gr.new h5 _)))
 | tup =>
  cases hk;refine xZ (x:=.int 0) (r:=[.int 1,.int 2,.int 3]) ?_;refine fZ mk rfl ?_;refine eZ ?_ ?_
  ·rfl
  refine xZ (x:=.int 1) (r:=[.int 2,.int 3]) ?_;refine fZ mk rfl ?_;refine eZ ?_ ?_
  ·rfl
  refine xZ (x:=.int 2) (r:=[.int 3]) ?_;refine fZ mk rfl ?_;refine cW ?_ ?_
  ·rfl
  refine fZ mn rfl ?_;refine ⟨by decide,?_⟩;refine xZ (x:=.int 3) (r:=[]) ?_;refine fZ mk rfl ?_;refine eZ ?_ ?_
  ·rfl
  refine fG fun p3 h3 => ?_;refine ⟨by decide,fun p4 h4=>iO ((Gr.new h4 _) p3 _ xQ) xQ (by decide) fun p5 h5=>fZ xQ rfl ?_⟩;exact q _ ((((g2.trans (Gr.new h3 _)).trans (Gr.new h4 _)).trans (Gr.new h5 _)))
 | lst =>
  cases hk;refine xZ (x:=.int 0) (r:=[.int 1,.int 2,.int 3]) ?_;refine fZ mk rfl ?_;refine eZ ?_ ?_
  ·rfl
  refine xZ (x:=.int 1) (r:=[.int 2,.int 3]) ?_;refine fZ mk rfl ?_;refine eZ ?_ ?_
  ·rfl
  refine xZ (x:=.int 2) (r:=[.int 3]) ?_;refine fZ mk rfl ?_;refine eZ ?_ ?_
  ·rfl
  refine xZ (x:=.int 3) (r:=[]) ?_;refine fZ mk rfl ?_;refine cW ?_ ?_
  ·rfl
  refine fZ mn rfl ?_;refine ⟨by decide,?_⟩;refine fG fun p3 h3 => ?_;refine ⟨by decide,fun p4 h4=>iO ((Gr.new h4 _) p3 _ xQ) xQ (by decide) fun p5 h5=>fZ xQ rfl ?_⟩;exact q _ ((((g2.trans (Gr.new h3 _)).trans (Gr.new h4 _)).trans (Gr.new h5 _)))
 | bl=>cases hb2
 | _=>cases hk
end
section
variable {P:Program}{w:World}{K:PySem.W.Frag}{mg:Str→Option Value}{base:Heap}{a:Adr}
def Sq (C:CH) (x:PV) (xs:List PV) (k:Ty):Prop:=(k=.tup∧x=.tup xs)∨(k=.lst∧∃ a,x=.ref a∧C a=some (.lst xs))
theorem Sq.gr {C C':CH}{x:PV}{xs:List PV}{k:Ty}(h:Sq C x xs k) (g:Gr C C'):Sq C' x xs k:=by
 rcases h with h | ⟨e,a,ea,h⟩
 ·exact .inl h
 ·exact .inr ⟨e,a,ea,g a _ h⟩
theorem Sq.ty {C:CH}{x:PV}{xs:List PV}{k:Ty}(h:Sq C x xs k):tyP C x=some k:=by
 rcases h with ⟨rfl,rfl⟩ | ⟨rfl,a,rfl,h⟩
 ·rfl
 ·show (match C a with | some (.lst _)=>some Ty.lst | some (.dK _)=>some Ty.dct | _=>none)=_
  rw [h]
theorem Sq.len {C:CH}{x:PV}{xs:List PV}{k:Ty}{Q:K1}(h:Sq C x xs k) (q:Q (.int xs.length) C):QF [x] C Q:=by
 rcases h with ⟨rfl,rfl⟩ | ⟨rfl,a,rfl,h⟩
 ·exact Xx q
 ·exact oM h q
theorem Sq.ix {C:CH}{x v:PV}{xs:List PV}{k:Ty}{i:Int}{Q:K1}(h:Sq C x xs k) (e:atI xs i=some v) (q:Q v C):cIx x (.int i) C Q:=by
 rcases h with ⟨rfl,rfl⟩ | ⟨rfl,a,rfl,h⟩
 ·exact wJ e q
 ·exact fZ h e q
def sc:PV→Option Ty
 | .non=>some .non
 | .bl _=>some .bl
 | .int _=>some .int
 | .str _=>some .str
 | _=>none
def Al:Nat→CH→PV→PV→Prop
 | 0,_,_,_=>False
 | d+1,C,x,y=>(x=y∧(sc x).isSome=true)∨∃ xs k,Sq C x xs k∧Sq C y xs k∧xs.length≤200000∧∀ z∈xs,∀ C',Al d C' z z
def gAl (d:Nat):GC:=fun ts C Q=>∃ x y,ts=[x,y]∧Al d C x y∧∀ C',Gr C C'→Q (.bl true) C'
theorem bls_rep (n:Nat):dC (List.replicate n (.bl true))=some (List.replicate n true):=by
 induction n with
 | zero=>rfl
 | succ n ih=>rw [List.replicate_succ,List.replicate_succ]; show (dC _).map _=_; rw [ih]; rfl
theorem bC {c:TCE}{ρ:CSt}{Q:K1}{C0:CH}{m:Nat}(h:∀ (k:Nat) C (Q':K1),k < m→Gr C0 C→(∀ C',Gr C C'→Q' (.bl true) C')→c (some (.int (k:Int))::ρ) C Q')
  (q:∀ p n C',Gr C0 C'→C' p=some (.lst (List.replicate n (.bl true)))→Q (.ref p) C') (L:List Nat):∀ (n:Nat) (C:CH),(∀ k∈L,k < m)→n+L.length≤200000→Gr C0 C→zJ sD c ρ Q (L.map fun k=>PV.int (k:Nat)) (List.replicate n (.bl true)) C:=by
 induction L with
 | nil=>intro n C _ _ g; exact fG fun p hp=>q p n _ (g.trans (Gr.new hp _)) xQ
 | cons k L ih =>
  intro n C hm hl g;have hl':n+(L.length+1)≤200000:=hl;refine xZ ?_;show c (some (.int (k:Int))::ρ) C fun y C2=>(List.replicate n (PV.bl true)).length < sizeLine∧zJ sD c ρ Q (L.map fun k=>PV.int (k:Nat)) (List.replicate n (.bl true)++[y]) C2;refine h k C _ (hm k List.mem_cons_self) g fun C' g'=>⟨?_,?_⟩
  ·rw [List.length_replicate]
   exact Nat.lt_of_lt_of_le (show n < 200000 by omega) (by decide)
  ·have e:List.replicate n (PV.bl true)++[.bl true]=List.replicate (n+1) (.bl true):=by rw [List.replicate_succ']
   rw [e];exact ih (n+1) C' (fun j hj=>hm j (List.mem_cons_of_mem _ hj)) (by omega) (g.trans g')
theorem J1 {p:Addr}{n:Nat}{C:CH}{Q:K1}(h:C p=some (.lst (List.replicate n (.bl true)))) (q:Q (.bl true) C):cAll [.ref p] C Q:=by
 unfold cAll;show (match C p with | some (.lst xs)=>(match dC xs with | some bs=>Q (.bl (bs.all id)) C | none=>False) | _=>False);rw [h];dsimp only;rw [bls_rep];dsimp only
 have e:(List.replicate n true).all id=true:=by
  rw [List.all_eq_true];intro b hb;exact (List.eq_of_mem_replicate hb)
 rw [e];exact q
theorem sc_ty {C:CH}{x:PV}(h:(sc x).isSome=true):∃ n k,tyP C x=some n∧Wz n=some k∧k ≠ "tuple" ∧ k ≠ "list" ∧ sEq x x=some true:=by
 cases x with
 | non=>exact ⟨_,_,rfl,rfl,by decide,by decide,rfl⟩
 | bl i=>exact ⟨_,_,rfl,rfl,by decide,by decide,by show some (decide (i=i))=_; rw [decide_eq_true rfl]⟩
 | int i=>exact ⟨_,_,rfl,rfl,by decide,by decide,by show some (decide (i=i))=_; rw [decide_eq_true rfl]⟩
 | str i=>exact ⟨_,_,rfl,rfl,by decide,by decide,by show some (decide (i=i))=_; rw [decide_eq_true rfl]⟩
 | _=>cases h
theorem Vo {C C':CH}{x:PV}{n:Ty}(h:tyP C x=some n) (g:Gr C C'):tyP C' x=some n:=by
 cases x with
 | ref a =>
  unfold tyP at h ⊢;dsimp only at h ⊢
  split at h
  ·next e=>rw [g a _ e]; exact h
  ·next e=>rw [g a _ e]; exact h
  ·cases h
 | _=>exact h
theorem Wg (T:Txt P w K mg a) (d:Nat):FnOk P w K mg base CX0 (d+2) a.mR a.aH U33 (spC K (gAl d)):=by
 induction d with
 | zero=>exact ⟨fun vs H Q E ⟨ts,C,R,_,_,⟨x,y,_,h,_⟩,_⟩=>h.elim,fun _ _ _ _ _ _ _ _ _ _ _ _ _ ⟨ts,C,R,_,_,⟨x,y,_,h,_⟩,_⟩=>h.elim⟩
 | succ d ih =>
 have S:=aS;have Zb:=(ok_kind (base:=base) T).mono (show 1≤d+2 by omega);have uN:=ih
 refine Fun.okC T.eN aS (fun ts C R h => ?_) fun cdv A outer s H E hr=>⟨_,(vQ (dQ (i:=2) S.nd rfl (Or.inl rfl) (wQ Zb hr rfl T.Xv T.k_l_kind T.b_l_kind lQ (qQ (cv 0) zQ)))
  (vQ (sX (iQ op_ne cop_ne (cv 2) (wQ Zb hr rfl T.Xv T.k_l_kind T.b_l_kind lQ (qQ (cv 1) zQ)) (oQ _)) (mQ (jX JM)) dX)
  (vQ (sX (cw_pt (cw_or (iQ uZ nX (cv 2) gQ (oQ _)) (cw_or1 (iQ uZ nX (cv 2) gQ (oQ _))))) (mQ (jX (ce_and (uY uZ nX (mX zZ tZ rfl T.bV rfl (qQ (cv 0) zQ)) (mX zZ tZ rfl T.bV rfl (qQ (cv 1) zQ)) (oQ _)) (ce_one (mX (Yq rfl) cbi_all rfl T.z_all rfl (qQ (xU rfl (show (["_law_k","_law_one","_law_other","_law_kind_here"]:List Str).Nodup by decide +kernel) (yJ (N:=U36) (sc:=kQ tK) rfl rfl rfl (by decide +kernel)) (cO rfl T.fY (qQ (mX zZ tZ rfl T.bV rfl (qQ (cv 0) zQ)) zQ)) (fun _ _ _ _ _=>vV) (fun _ _ _ _ _=>(wQ uN hr rfl T.iA T.k_l_alike T.b_l_alike lQ (qQ (rQ (r:=rIx K) yQ uQ (cv 1) (cv 0) (fun _ _=>rfl)) (qQ (rQ (r:=rIx K) yQ uQ (cv 2) (cv 0) (fun _ _=>rfl)) zQ))))) zQ)))))) dX)
  (mQ (jX (uY uZ nX (cv 0) (cv 1) (oQ _))))))),?_⟩
 ·obtain ⟨x,y,rfl,_⟩:=h; rfl
 rintro ts C R ⟨x,y,rfl,(⟨rfl,hs⟩ | ⟨xs,k,hx,hy,hl,hz⟩),q⟩
 ·obtain ⟨n,k,h1,h2,n1,n2,e⟩:=sc_ty (C:=C) hs
  refine ⟨x,n,k,rfl,h1,h2,fun C1 g1 => ?_⟩;refine ⟨x,n,k,rfl,Vo h1 g1,h2,fun C2 g2 => ?_⟩;refine iX (qX _ _) ?_;refine eZ (by rw [decide_eq_true rfl]; rfl) ?_;refine jZ ?_
  try dsimp only
  refine iX (qX _ _) ?_;refine eZ (by rw [decide_eq_false n1]; rfl) ?_;refine iX (qX _ _) ?_;refine eZ (by rw [decide_eq_false n2]; rfl) ?_;refine jZ ?_
  try dsimp only
  refine iX e ?_;exact q _ (g1.trans g2)
 ·have hk:∃ k',Wz k=some k'∧(k' = "tuple" ∨ k' = "list"):=by
   rcases hx with ⟨rfl,_⟩ | ⟨rfl,_⟩
   ·exact ⟨_,rfl,.inl rfl⟩
   ·exact ⟨_,rfl,.inr rfl⟩
  obtain ⟨k',h2,ho⟩:=hk;refine ⟨x,k,k',rfl,hx.ty,h2,fun C1 g1 => ?_⟩;refine ⟨y,k,k',rfl,Vo hy.ty g1,h2,fun C2 g2 => ?_⟩;refine iX (qX _ _) ?_;refine eZ (by rw [decide_eq_true rfl]; rfl) ?_;refine jZ ?_
  try dsimp only
  have hx2:=(hx.gr g1).gr g2;have hy2:=(hy.gr g1).gr g2
  rcases ho with rfl | rfl
  ·refine iX (qX _ _) ?_
   refine cW (by decide) ?_;refine if_y ?_ ?_
   ·rfl
   refine hx2.len ?_;refine hy2.len ?_;refine iX (b:=true) (by show some (decide _)=_; rw [decide_eq_true rfl]) ?_;refine cW rfl ?_;refine hx2.len ?_;refine ⟨by omega,by omega,?_⟩;refine bC (m:=xs.length) (C0:=C2) (fun k C3 Q' hk g3 hq => ?_) (fun p n C' g' m=>J1 m (q _ ((g1.trans g2).trans g'))) _ 0 C2 (fun k hk => ?_) ?_ Gr.refl
   ·refine (hx2.gr g3).ix (oD hk) ?_
    refine (hy2.gr g3).ix (oD hk) ?_;exact ⟨xs[k],xs[k],rfl,hz _ (List.getElem_mem hk) _,hq⟩
   ·have:=List.mem_range.1 hk
    omega
   ·rw [List.length_range]
    omega
  ·refine iX (qX _ _) ?_
   refine eZ (by decide) ?_;refine iX (qX _ _) ?_;refine cW (by decide) ?_;refine hx2.len ?_;refine hy2.len ?_;refine iX (b:=true) (by show some (decide _)=_; rw [decide_eq_true rfl]) ?_;refine cW rfl ?_;refine hx2.len ?_;refine ⟨by omega,by omega,?_⟩;refine bC (m:=xs.length) (C0:=C2) (fun k C3 Q' hk g3 hq => ?_) (fun p n C' g' m=>J1 m (q _ ((g1.trans g2).trans g'))) _ 0 C2 (fun k hk => ?_) ?_ Gr.refl
   ·refine (hx2.gr g3).ix (oD hk) ?_
    refine (hy2.gr g3).ix (oD hk) ?_;exact ⟨xs[k],xs[k],rfl,hz _ (List.getElem_mem hk) _,hq⟩
   ·have:=List.mem_range.1 hk
    omega
   ·rw [List.length_range]
    omega
end
inductive Pk:Nat→PV→Prop
 | non {d:Nat}:Pk d .non
 | bl {d:Nat} (b:Bool):Pk d (.bl b)
 | int {d:Nat} (i:Int):Pk d (.int i)
 | str {d:Nat} (x:Str):Pk d (.str x)
 | tup {d:Nat} {ts:List PV} (hl:ts.length≤200000) (h:∀ t∈ts,Pk d t):Pk (d+1) (.tup ts)
theorem Pk.up {d:Nat}{t:PV}(h:Pk d t):Pk (d+1) t:=by
 induction h with
 | non=>exact .non
 | bl b=>exact .bl b
 | int i=>exact .int i
 | str x=>exact .str x
 | tup hl _ ih=>exact .tup hl ih
theorem Pk.mono {d e:Nat}{t:PV}(h:Pk d t) (le:d≤e):Pk e t:=by
 induction le with
 | refl=>exact h
 | step _ ih=>exact ih.up
theorem Pk.al {d:Nat}{t:PV}(h:Pk d t):∀ C,Al (d+1) C t t:=by
 induction h with
 | non=>intro C; exact .inl ⟨rfl,rfl⟩
 | bl b=>intro C; exact .inl ⟨rfl,rfl⟩
 | int i=>intro C; exact .inl ⟨rfl,rfl⟩
 | str x=>intro C; exact .inl ⟨rfl,rfl⟩
 | tup hl _ ih=>intro C; exact .inr ⟨_,.tup,.inl ⟨rfl,rfl⟩,.inl ⟨rfl,rfl⟩,hl,fun z hz C'=>ih z hz C'⟩
theorem key_pk (k:Key):Pk 0 (bY k):=by
 rcases k with (_ | i) | x
 ·exact .non
 ·exact .int i
 ·exact .str x
theorem tk_pk {sp:List Key}(h:sp.length≤2):Pk 1 (zK sp):=.tup (by rw [List.length_map]; omega) fun t ht=>by
 obtain ⟨k,_,rfl⟩:=List.mem_map.1 ht;exact key_pk k
def PthOk (p:cX) (m:Nat):Prop:=(∀ sp∈p,sp.length≤2)∧p.length+m≤500
theorem PthOk.nil {m:Nat}(h:m≤500):PthOk [] m:=⟨fun _ z=>(nomatch z),by show 0+m≤500; omega⟩
theorem PthOk.snoc {p:cX}{m:Nat}(h:PthOk p (m+1)) {sp:List Key}(hs:sp.length≤2):PthOk (p++[sp]) m:=by
 refine ⟨fun x hx => ?_,by rw [List.length_append,List.length_singleton]; have:=h.2; omega⟩
 rcases List.mem_append.1 hx with hx | hx
 ·exact h.1 x hx
 ·cases List.mem_singleton.1 hx; exact hs
theorem PthOk.down {p:cX}{m:Nat}(h:PthOk p (m+1)):PthOk p m:=⟨h.1,by have:=h.2; omega⟩
theorem VO {p:cX}{m:Nat}(h:PthOk p m):Pk 2 (kZ p):=.tup (by rw [List.length_map]; have:=h.2; omega) fun t ht=>by
 obtain ⟨sp,hs,rfl⟩:=List.mem_map.1 ht;exact tk_pk (h.1 sp hs)
theorem wS {d:Nat}{ts:List PV}(hl:ts.length≤6) (h:∀ t∈ts,Pk d t):Pk (d+1) (.tup ts):=.tup (by omega) h
theorem si_pk (c:Str×Int):Pk 1 (kX c):=wS (by show 2≤6; decide) fun t ht=>by
 rcases List.mem_cons.1 ht with rfl | ht
 ·exact .str _
 ·cases List.mem_singleton.1 ht; exact .int _
theorem sis_pk {cs:List (Str×Int)}(h:cs.length≤200000):Pk 2 (.tup (cs.map kX)):=.tup (by rw [List.length_map]; exact h) fun t ht=>by
 obtain ⟨c,_,rfl⟩:=List.mem_map.1 ht;exact si_pk c
theorem cv_pk (c:Str×Str×Int):Pk 1 (XU c):=wS (by show 3≤6; decide) fun t ht=>by
 simp only [List.mem_cons,List.not_mem_nil,or_false] at ht
 rcases ht with rfl | rfl | rfl
 ·exact .str _
 ·exact .str _
 ·exact .int _
theorem hand_pk {path:cX}{m:Nat}(hp:PthOk path m) {h:HdV}(hc:h.ch.length≤4):Pk 3 (aT path h):=wS (by show 5≤6; decide) fun t ht=>by
 simp only [List.mem_cons,List.not_mem_nil,or_false] at ht
 rcases ht with rfl | rfl | rfl | rfl | rfl
 ·exact .str _
 ·exact .int _
 ·exact .bl _
 ·exact VO hp
 ·exact .tup (by rw [List.length_map]; omega) fun t ht=>by
   obtain ⟨c,_,rfl⟩:=List.mem_map.1 ht;exact cv_pk c
theorem bxs_pk {D:List En}:∀ (n:Nat) (path spots label:cX) (row:List Wt),Ft D n spots row→PthOk path n→PthOk spots n→PthOk label n→n≤500→∀ t∈bxs (vX D) n path spots label row,Pk (3 * n+4) t:=by
 intro n
 induction n with
 | zero=>intro path spots label row h; exact h.elim
 | succ n ih =>
  intro path spots label row ft hp hs hl hn t ht;rw [bxs] at ht;obtain ⟨x,hx,ht⟩:=List.mem_flatMap.1 ht;obtain ⟨sl,hm⟩:=ft.2 x hx
  cases x with
  | plain sp tag ss hh r =>
   obtain ⟨⟨h1,h2,h3⟩,hf⟩:=hm;cases List.mem_singleton.1 ht;have inner:=ih path (spots++[sp]) [] r hf hp.down (hs.snoc sl) (PthOk.nil (by omega)) (by omega)
   have il:(bxs (vX D) n path (spots++[sp]) [] r).length≤200000:=by
    rw [yU]
    cases n with
    | zero=>exact Nat.zero_le _
    | succ n=>have:=hf.1; omega
   have e:3 * (n+1)+4=(3 * n+6)+1:=by omega
   rw [e];refine wS (by show 2≤6; decide) fun t ht => ?_
   simp only [List.mem_cons,List.not_mem_nil,or_false] at ht
   rcases ht with rfl | rfl
   ·exact (VO (hl.snoc sl)).mono (by omega)
   ·refine wS (d:=3 * n+5) (by show 4≤6; decide) fun t ht => ?_
    simp only [List.mem_cons,List.not_mem_nil,or_false] at ht
    rcases ht with rfl | rfl | rfl | rfl
    ·exact .str _
    ·exact (sis_pk (by omega)).mono (by omega)
    ·refine Pk.mono (d:=4) (.tup (by rw [List.length_map]; omega) fun t ht => ?_) (by omega)
     obtain ⟨y,hy,rfl⟩:=List.mem_map.1 ht;exact hand_pk hp (h3 y hy)
    ·exact .tup il inner
  | give sp nm i r =>
   have:=ih path (spots++[sp]) (label++[sp]) r hm hp.down (hs.snoc sl) (hl.snoc sl) (by omega) t ht;exact this.mono (by omega)
  | part sp nm g =>
   have:=ih (spots++[sp]) (spots++[sp]) (label++[sp]) _ hm.2 (hs.snoc sl) (hs.snoc sl) (hl.snoc sl) (by omega) t ht;exact this.mono (by omega)
theorem tree_pk {D:List En}(ft:Ft D 37 [] (vX D [])):Pk 116 (.tup (bxs (vX D) 37 [] [] [] (vX D []))) :=
 .tup (by rw [yU]; exact Nat.le_trans ft.1 (by decide)) (bxs_pk 37 [] [] [] _ ft (PthOk.nil (by decide)) (PthOk.nil (by decide)) (PthOk.nil (by decide)) (by decide))
theorem pl_up {d:Nat}{t:PV}(h:Pl d t):Pl (d+1) t:=by
 induction h with
 | non=>exact .non
 | bl b=>exact .bl b
 | int i=>exact .int i
 | str x=>exact .str x
 | tup _ ih=>exact .tup ih
theorem yV {d e:Nat}{t:PV}(h:Pl d t) (le:d≤e):Pl e t:=by
 induction le with
 | refl=>exact h
 | step _ ih=>exact pl_up ih
theorem key_pl (k:Key):Pl 0 (bY k):=by
 rcases k with (_ | i) | x
 ·exact .non
 ·exact .int i
 ·exact .str x
theorem Z4 (sp:List Key):Pl 1 (zK sp):=.tup fun t ht=>by
 obtain ⟨k,_,rfl⟩:=List.mem_map.1 ht;exact key_pl k
theorem pth_pl (p:cX):Pl 2 (kZ p):=.tup fun t ht=>by
 obtain ⟨sp,hs,rfl⟩:=List.mem_map.1 ht;exact Z4 sp
theorem si_pl (c:Str×Int):Pl 1 (kX c):=.tup fun t ht=>by
 rcases List.mem_cons.1 ht with rfl | ht
 ·exact .str _
 ·cases List.mem_singleton.1 ht; exact .int _
theorem uS (cs:List (Str×Int)):Pl 2 (.tup (cs.map kX)):=.tup fun t ht=>by
 obtain ⟨c,_,rfl⟩:=List.mem_map.1 ht;exact si_pl c
theorem cv_pl (c:Str×Str×Int):Pl 1 (XU c):=.tup fun t ht=>by
 simp only [List.mem_cons,List.not_mem_nil,or_false] at ht
 rcases ht with rfl | rfl | rfl
 ·exact .str _
 ·exact .str _
 ·exact .int _
theorem hdv_pl (h:HdV):Pl 3 h.pv:=.tup fun t ht=>by
 simp only [List.mem_cons,List.not_mem_nil,or_false] at ht
 rcases ht with rfl | rfl | rfl | rfl
 ·exact .str _
 ·exact .int _
 ·exact .bl _
 ·exact .tup fun t ht=>by
   obtain ⟨c,_,rfl⟩:=List.mem_map.1 ht;exact cv_pl c
theorem wt_pl {rs:List Str}:∀ (d:Nat) (x:Wt),WtOk rs d x→Pl (2 * d+4) x.pv:=by
 intro d
 induction d with
 | zero=>intro x h; exact h.elim
 | succ d ih =>
  intro x h;have e:2 * (d+1)+4=(2 * d+5)+1:=by omega
  rw [e]
  have row:∀ r:List Wt,(∀ y∈r,WtOk rs d y)→Pl (2 * d+5) (.tup (Wt.pvs r)):=fun r hr=>.tup fun t ht=>by
   rw [Wt.pvs_map] at ht;obtain ⟨y,hy,rfl⟩:=List.mem_map.1 ht;exact ih y (hr y hy)
  cases x with
  | plain sp tag ss hs r =>
   rw [Wt.pv];refine .tup fun t ht => ?_
   simp only [List.mem_cons,List.not_mem_nil,or_false] at ht
   rcases ht with rfl | rfl | rfl | rfl | rfl | rfl
   ·exact .str _
   ·exact yV (Z4 sp) (by omega)
   ·exact .str _
   ·exact yV (uS ss) (by omega)
   ·refine yV (d:=4) (.tup fun t ht => ?_) (by omega)
    obtain ⟨y,hy,rfl⟩:=List.mem_map.1 ht;exact hdv_pl y
   ·exact row r h.2.2.1
  | part sp n g =>
   rw [Wt.pv];refine .tup fun t ht => ?_
   simp only [List.mem_cons,List.not_mem_nil,or_false] at ht
   rcases ht with rfl | rfl | rfl | rfl
   ·exact .str _
   ·exact yV (Z4 sp) (by omega)
   ·exact .str _
   ·exact yV (uS g) (by omega)
  | give sp n i r =>
   rw [Wt.pv];refine .tup fun t ht => ?_
   simp only [List.mem_cons,List.not_mem_nil,or_false] at ht
   rcases ht with rfl | rfl | rfl | rfl | rfl
   ·exact .str _
   ·exact yV (Z4 sp) (by omega)
   ·exact .str _
   ·exact .int _
   ·exact row r h.2.2.1
theorem ti_pl (c:List Str×Int):Pl 2 (kY c):=.tup fun t ht=>by
 rcases List.mem_cons.1 ht with rfl | ht
 ·exact .tup fun t ht=>by
   obtain ⟨x,_,rfl⟩:=List.mem_map.1 ht;exact .str x
 ·cases List.mem_singleton.1 ht; exact .int _
theorem en_pl {rs:List Str}{e:En}(h:X9 rs 6 e.pc.row):Pl 20 e.pv:=by
 refine .tup fun t ht => ?_
 simp only [List.mem_cons,List.not_mem_nil,or_false] at ht
 rcases ht with rfl | rfl | rfl | rfl | rfl
 ·exact yV (pth_pl _) (by decide)
 ·exact .str _
 ·exact yV (uS _) (by decide)
 ·exact yV (uS _) (by decide)
 ·refine yV (d:=18) (.tup fun t ht => ?_) (by decide)
  simp only [List.mem_cons,List.not_mem_nil,or_false] at ht
  rcases ht with rfl | rfl | rfl
  ·refine yV (d:=3) (.tup fun t ht => ?_) (by decide)
   obtain ⟨c,_,rfl⟩:=List.mem_map.1 ht;exact ti_pl c
  ·refine .tup fun t ht => ?_
   rw [Wt.pvs_map] at ht;obtain ⟨y,hy,rfl⟩:=List.mem_map.1 ht;exact wt_pl 6 y (h.1 y hy)
  ·exact yV (uS _) (by decide)
theorem lst_s {a:Addr}{xs:List PV}{C:CH}{Q:K1}(h:C a=some (.lst xs)) (q:∀ p,C p=none→Q (.ref p) (nQ C p (.lst xs))):zN [.ref a] C Q:=by
 unfold zN;dsimp only;rw [h];exact q
theorem lstc_s {i:Nat}{ρ:CSt}{a:Addr}{xs:List PV}{C:CH}{Q:K1}(hv:ρ[i]?=some (some (.ref a))) (h:C a=some (.lst xs)) (q:∀ p,C p=none→Q (.ref p) (nQ C p (.lst xs))):X5 zN (wU (qW i) X4) ρ C Q:=by
 show qW i ρ C fun x C1=>zN [x] C1 Q;unfold qW;rw [hv];exact lst_s h q
theorem clr_s {a:Addr}{xs:List PV}{C:CH}{Q:K1}(h:C a=some (.lst xs)) (q:Q .non (nQ C a (.lst []))):QK (.ref a) [] C Q:=by
 unfold QK;dsimp only;rw [h];exact q
theorem neD_s {d:Nat}{a b:Addr}{xs:List PV}{C:CH}{Q:K1}(h1:C a=some (.lst xs)) (h2:C b=some (.lst xs)) (hp:∀ t∈xs,Pl d t) (q:Q (.bl false) C):cNeD d (.ref a) (.ref b) C Q:=by
 unfold cNeD;dsimp only;rw [h1,h2];exact ⟨rfl,hp,q⟩
theorem hu21_of {A:Around}{k:Nat}(hr:Room k A):A.units+1+20 < cLine:=by have:=hr.un; omega
structure DOk (D:List En):Prop where
 nd:(qJ D).Nodup
 len:D.length≤600
 rt:∃ e∈D,e.x.path=[]
 ft:Ft D 37 [] (vX D [])
 pl:∀ t∈D.map En.pv,Pl 20 t
theorem XN {pts:List Pt}(hs:yN pts) {V:Vl}(hV:VOk V):DOk (drawn pts V):=by
 obtain ⟨f1,f2⟩:=ZM hs hV;refine ⟨dr_nd hs hV 6 0 _ (sG hs),Nat.le_trans (W6 hs hV (sG hs)) (by decide),f1,f2,fun t ht => ?_⟩;obtain ⟨e,he,rfl⟩:=List.mem_map.1 ht;obtain ⟨k,du,ep⟩:=W5 hs hV 6 0 _ (sG hs) e he;obtain ⟨y,ha⟩:=ZU hs hV du;have:=ha.row;rw [← ep] at this;exact en_pl this
section
variable {P:Program}{w:World}{K:PySem.W.Frag}{mg:Str→Option Value}{base:Heap}{a:Adr}
def gLaw:GC:=fun ts C Q=>∃ ns:List Int,ts=[.fz (ns.map PV.int)]∧ns.length≤63∧∀ C',Q (.bl true) C'
theorem ok_law (T:Txt P w K mg a):FnOk P w K mg base CX0 120 a.law a.XS ["_law_script"] (spC K gLaw):=by
 have S:=VC;have YE:=(ok_tape (base:=base) T).mono (show 1≤119 by decide);have Ve:=(Wc (base:=base) T).mono (show 26≤119 by decide);have ZZ:=(Kl (base:=base) T).mono (show 35≤119 by decide);have jD:=(Xk (base:=base) T).mono (show 34≤119 by decide);have K9:=(Zu (base:=base) T).mono (show 75≤119 by decide);have YD:=(Wb (base:=base) T).mono (show 38≤119 by decide);have uN:=Wg (base:=base) T 117
 refine Fun.okC T.F_law VC (fun ts C R h => ?_) fun cdv A outer s H E hr=>⟨_,(vQ (dQ (i:=1) S.nd rfl (Or.inl rfl) (wQ YE hr rfl T.Wn T.k_l_tape T.b_l_tape lQ (qQ (cv 0) zQ)))
  (vQ (dQ (i:=2) S.nd rfl (Or.inl rfl) (wQ Ve hr rfl T.Kw T.k_l_house T.b_l_house lQ (qQ (cv 1) zQ)))
  (vQ (dQ (i:=3) S.nd rfl (Or.inl rfl) (wQ jD hr rfl T.uH T.k_l_fresh T.b_l_fresh lQ (qQ (cv 2) (qQ (wQ ZZ hr rfl T.ZB T.k_l_values T.b_l_values lQ (qQ (cv 1) (qQ (cv 2) zQ))) zQ))))
  (vQ (dQ (i:=4) S.nd rfl (Or.inl rfl) (wQ jD hr rfl T.uH T.k_l_fresh T.b_l_fresh lQ (qQ (cv 2) (qQ fP zQ))))
  (vQ (aB PassesOwn.never rfl (mZ (qQ (cv 3) (qQ (cv 4) (qQ (cv 3) (qQ (cv 4) zQ))))) (pX (i:=5) S.nd rfl (Or.inl rfl)) (vQ (dQ (i:=6) S.nd rfl (Or.inl rfl) (xX QC cbi_lst rfl T.Vh rfl (qQ (cv 5) zQ)))
  (vQ (dQ (i:=7) S.nd rfl (Or.inl rfl) (wQ K9 hr rfl T.Kq T.k_tree_of T.b_tree_of lQ (qQ (cv 6) zQ)))
  (vQ (sX (iQ (op_neD (d:=20) (hu21_of hr)) cop_neD (cv 6) (cv 5) (oQ _)) (mQ (jX JM)) dX)
  (vQ (mJ (Yo PySem.F.plainAttrs_list PySem.F.slot_list_clear PySem.F.type_list_clear Wl KY (cv 6)))
  (mQ (sX (ct_not (mO (wQ uN hr rfl T.iA T.k_l_alike T.b_l_alike lQ (qQ (cv 7) (qQ (wQ YD hr rfl T.Wm T.k_l_tree T.b_l_tree lQ (qQ (cv 5) zQ)) zQ))))) (mQ (jX JM)) dX)))))))
  (mQ (jX JM))))))),?_⟩
 ·obtain ⟨ns,rfl,_⟩:=h; rfl
 rintro ts C R ⟨ns,rfl,hl,q⟩;refine cQ ?_;refine ⟨ns,rfl,hl,fun t C1 n1 e1 T1 => ?_⟩
 try dsimp only
 refine cQ ?_;refine ⟨t,ns,rfl,T1,fun pts C2 hs T2 e2 => ?_⟩
 try dsimp only
 refine cQ ?_;refine ⟨t,pts,ns,rfl,T2,hs,fun vv V C3 hV n3 m3 nvt T3 e3 => ?_⟩;refine ⟨pts,vv,V,rfl,hs,hV,m3,fun p1 C4 n4 m4 g4 => ?_⟩
 try dsimp only
 refine cQ ?_;intro v0 hv0;refine ⟨pts,v0,[],rfl,hs,VOk.nil,xQ,fun p2 C5 n5 m5 g5 => ?_⟩
 try dsimp only
 have d1:=XN hs hV;have d2:=XN hs VOk.nil;have m15:C5 p1=some (.lst ((drawn pts V).map En.pv)):=g5 _ _ (Gr.new hv0 _ _ _ m4);generalize drawn pts V=D1 at d1 m15;generalize drawn pts []=D2 at d2 m5;refine oZ ?_;refine ⟨by show 4≤sizeLine; decide,fun p hp => ?_⟩;have np1:p1≠p:=fun z=>by rw [z,hp] at m15; cases m15
 have np2:p2≠p:=fun z=>by rw [z,hp] at m5; cases m5
 refine ⟨5,?_⟩;refine eY (xs:=[.ref p1,.ref p2,.ref p1,.ref p2]) (fun i ρ C'=>C' p=some (.lst [.ref p1,.ref p2,.ref p1,.ref p2])∧∃ (x0 x1 x2 x3 x4 x5 x6 x7:Option PV),ρ=[x0,x1,x2,x3,x4,x5,x6,x7]∧C' p1=some (.lst (D1.map En.pv))∧C' p2=some (.lst (D2.map En.pv))) (fun _ _ _ h=>h.1) ?_ ?_ _ 0 _ _ ⟨xQ,_,_,_,_,_,_,_,_,rfl,by rw [bQ np1]; exact m15,by rw [bQ np2]; exact m5⟩ rfl (Nat.zero_le _)
 ·rintro i z ρ C6 hz ⟨mp,x0,x1,x2,x3,x4,x5,x6,x7,rfl,k1,k2⟩ L hL
  obtain ⟨qa,D,rfl,dk,mq⟩:∃ (qa:Addr) (D:List En),z=.ref qa∧DOk D∧C6 qa=some (.lst (D.map En.pv)):=by
   match i,hz with
   | 0,hz=>cases hz; exact ⟨p1,D1,rfl,d1,k1⟩
   | 1,hz=>cases hz; exact ⟨p2,D2,rfl,d2,k2⟩
   | 2,hz=>cases hz; exact ⟨p1,D1,rfl,d1,k1⟩
   | 3,hz=>cases hz; exact ⟨p2,D2,rfl,d2,k2⟩
   | i+4,hz=>simp at hz
  refine cQ ?_;refine lstc_s (a:=qa) rfl mq fun h hh => ?_;have ne:∀ b o,C6 b=some o→b≠h:=fun b o hb z=>by rw [z,hh] at hb; cases hb
  try dsimp only
  refine cQ ?_;refine ⟨h,D,rfl,xQ,dk.nd,dk.len,dk.rt,dk.ft,fun C7 g7 => ?_⟩
  try dsimp only
  have mh7:C7 h=some (.lst (D.map En.pv)):=g7 _ _ xQ;have up7:∀ b o,C6 b=some o→C7 b=some o:=fun b o hb=>g7 _ _ (by rw [bQ (ne b o hb)]; exact hb);refine oZ ?_;refine neD_s mh7 (up7 _ _ mq) dk.pl ?_;refine eZ rfl ?_;refine jZ ?_
  try dsimp only
  refine oZ ?_;refine ⟨qU mh7,?_⟩;refine clr_s mh7 ?_
  try dsimp only
  have up8:∀ b o,C6 b=some o→nQ C7 h (.lst []) b=some o:=fun b o hb=>by rw [bQ (ne b o hb)]; exact up7 b o hb
  refine ⟨qa,D,rfl,up8 _ _ mq,dk.nd,dk.len,dk.rt,dk.ft,fun C9 g9 => ?_⟩;refine ⟨_,_,rfl,(tree_pk dk.ft).al C9,fun C10 g10 => ?_⟩;refine onot ?_;refine jZ ?_;have up10:∀ b o,C6 b=some o→C10 b=some o:=fun b o hb=>g10 _ _ (g9 _ _ (up8 b o hb));exact hL _ _ ⟨up10 _ _ mp,_,_,_,_,_,_,_,_,rfl,up10 _ _ k1,up10 _ _ k2⟩
 ·rintro ρ C6 ⟨mp,x0,x1,x2,x3,x4,x5,x6,x7,rfl,k1,k2⟩
  try dsimp only
  exact q C6
end
theorem XH {K:PySem.W.Frag}{H:Hp}:∀ ns:List Int,Reps K H (ns.map V.int) (ns.map PV.int)
 | []=>.nil
 | n::ns=>.cons (.int n) (XH ns)
theorem walk {l:PySem.W.OpenLaw}{q:Program}{loose:List Str}{XP:(Str→Option Value)→Heap→Prop}{YP:World→Heap→Prop}{d:DefRec}{K:Params→PySem.W.Frag}(hn:l.most=some 63) (hdf:d.params.defaults=[]) (hnm:d.name = "law")
  (hY:∀ (w:World) (h:Heap),YP w h→(K w.params).In h)
  (F:∀ (w:World) (mg:Str→Option Value) (h:Heap),(K w.params).In h→h.Ns mainGlobals mg→∃ a:Adr,Txt l.prog w (K w.params) mg a∧∃ (f:Addr) (kV dc pm:Value) (an:Option Addr) (cd ct:Value),a.law=f∧a.XS=PySem.W.fnOf "law" "law" (pQ lG) (fQ lG) (kQ lG) .none kV dc pm an cd ct) :
  PySem.W.WalkO q loose XP YP l.row.toRowW d [] (fun f vs=>PySem.call f vs):=by
 refine L2.walk_of (n:=63) (k:=120) (x := "_law_script") (CX:=fun _=>CX0) (sp:=fun w=>spC (K w.params) gLaw) hn (by decide) hdf ⟨rfl,by decide,by decide⟩ hY ?_ (fun w H a ns hl hO hS => ?_) fun _ _ _ _ _ z=>z
 ·intro w mg fa h KX G hmg
  obtain ⟨a,T,f,kV,dc,pm,an,cd,ct,e1,e2⟩:=F w mg h KX G;rw [hnm] at hmg;have e:=hmg.symm.trans T.m_law;cases e;refine ⟨a.XS,?_,fun base _ _=>ok_law T⟩;rw [e2];exact fun s u=>.of_eq rfl
 ·have hz:Fz (K w.params) H a (ns.map V.int):=by
   rcases hS with hS | hS
   ·rcases hS with hS | ⟨o,hS⟩
    ·rcases hO a with h | ⟨o,xs,h⟩
     ·rw [hS] at h; cases h
     ·rw [hS] at h; cases h
    ·exact .inl ⟨o,hS⟩
   ·exact .inr hS
  refine ⟨[.fz (ns.map PV.int)],fun _=>none,fun v _=>v=.bl true,.cons (.fz hz (XH ns)) .nil,(fun _ _ z=>nomatch z),⟨ns,rfl,hl,fun _=>rfl⟩,?_⟩;rintro v H' t C' rfl r h' f';cases r
  rfl
end K31
open PySem PySem.W PyProof.Rows
namespace PySem.W.Fast
theorem tw3721781025794588479:True:=⟨⟩
theorem tw6368632423319245978:True:=⟨⟩
theorem tw5080337812451980968:True:=⟨⟩
theorem tw9998647626332651733:True:=⟨⟩
theorem tw12057510750339070209:True:=⟨⟩
theorem tw8061480730081966317:True:=⟨⟩
theorem tw16242258047475350064:True:=⟨⟩
theorem tw509308449177844481:True:=⟨⟩
theorem tw828736151111412211:True:=⟨⟩
theorem tw2068608943494184190:True:=⟨⟩
theorem tw16232075518126508797:True:=⟨⟩
theorem tw8303045376876216766:True:=⟨⟩
theorem tw236989814371060576:True:=⟨⟩
theorem tw9893574992837466843:True:=⟨⟩
theorem tw2016407445072159834:True:=⟨⟩
theorem tw5161842318153513941:True:=⟨⟩
theorem tw17268071473573632358:True:=⟨⟩
theorem tw18397623542662320887:True:=⟨⟩
theorem tw10052997858894577917:True:=⟨⟩
theorem tw18414273904549296368:True:=⟨⟩
theorem tw17517681909030828220:True:=⟨⟩
theorem tw6328042976290113367:True:=⟨⟩
theorem tw6630643469152376978:True:=⟨⟩
theorem tw1446401818561143983:True:=⟨⟩
theorem tw13327774743191716708:True:=⟨⟩
theorem tw17042011366791462456:True:=⟨⟩
theorem tw4800886956830856866:True:=⟨⟩
theorem tw15089655950758833388:True:=⟨⟩
theorem tw10228121915803939214:True:=⟨⟩
theorem tw18294702269444345429:True:=⟨⟩
theorem tw11254786069385776555:True:=⟨⟩
theorem tw17013155142111767018:True:=⟨⟩
theorem tw13567547329215402660:True:=⟨⟩
theorem tw15635746741685197403:True:=⟨⟩
theorem tw10117579636863929438:True:=⟨⟩
theorem tw14626256929132130738:True:=⟨⟩
theorem tw8537640091600311891:True:=⟨⟩
theorem tw13531115514977810916:True:=⟨⟩
theorem tw17414401770843449232:True:=⟨⟩
theorem tw15137555763746365741:True:=⟨⟩
theorem tw6934236505887383257:True:=⟨⟩
theorem tw1973087711105003567:True:=⟨⟩
theorem tw4323826054525702301:True:=⟨⟩
theorem tw7300250480463988901:True:=⟨⟩
theorem tw11850174065281998665:True:=⟨⟩
theorem tw4336633451205279214:True:=⟨⟩
theorem tw10358455967704547101:True:=⟨⟩
theorem tw6138525472216148371:True:=⟨⟩
theorem tw14728350672675365293:True:=⟨⟩
theorem tw6332341681667766801:True:=⟨⟩
theorem tw16274683561813945153:True:=⟨⟩
theorem tw809644670744984990:True:=⟨⟩
theorem tw4474304726816706147:True:=⟨⟩
theorem tw10242535528003454762:True:=⟨⟩
theorem tw5734524315670658032:True:=⟨⟩
theorem tw15654957978474975113:True:=⟨⟩
theorem tw10928203744366495286:True:=⟨⟩
theorem tw8687431194192661859:True:=⟨⟩
theorem tw6044666566573010427:True:=⟨⟩
theorem tw4478683094978131442:True:=⟨⟩
theorem tw14856263903390253189:True:=⟨⟩
theorem tw13681126395431140171:True:=⟨⟩
theorem tw16088412875386265688:True:=⟨⟩
theorem tw533921942977223170:True:=⟨⟩
theorem tw2240079299805877588:True:=⟨⟩
theorem tw8407842480841722452:True:=⟨⟩
theorem tw18118590425306536305:True:=⟨⟩
theorem tw16643226263115578360:True:=⟨⟩
theorem tw14583007166258553169:True:=⟨⟩
theorem tw8794116710407530521:True:=⟨⟩
theorem tw11050317032665241249:True:=⟨⟩
theorem tw1865892948286838771:True:=⟨⟩
theorem tw8251770222280879796:True:=⟨⟩
theorem tw16236606283446125430:True:=⟨⟩
theorem tw4292558800236558211:True:=⟨⟩
theorem tw14853461403948965985:True:=⟨⟩
theorem tw17593766911827740476:True:=⟨⟩
theorem tw18323236568141395969:True:=⟨⟩
theorem tw11637629819064670046:True:=⟨⟩
theorem tw15211782867942224847:True:=⟨⟩
theorem tw1831119639912072798:True:=⟨⟩
theorem tw2181916850882742441:True:=⟨⟩
end PySem.W.Fast
set_option maxRecDepth 100000 in
set_option maxHeartbeats 0 in
theorem PySem.Challenge.cw_viewwood_k31_whole_trees_of_drawings_holds : PySem.Challenge.rw_viewwood_k31_whole_trees_of_drawings.Holds := by
 w_on; o_law; k_head; (case hw=>w_witness2)
 k_fill
 refine K31.walk (l:=PySem.Challenge.rw_viewwood_k31_whole_trees_of_drawings) rfl rfl rfl (fun w h Y=>PySem.W.kIn_of Y) ?F
 case F =>
  intro w mg h KX G
  refine' K31.txt_mk KX G ?a0 ?l0 ?c0 ?k0 ?a1 ?l1 ?c1 ?k1 ?a2 ?l2 ?c2 ?k2 ?a3 ?l3 ?c3 ?k3 ?a4 ?l4 ?c4 ?k4 ?a5 ?l5 ?c5 ?k5 ?a6 ?l6 ?c6 ?k6 ?a7 ?l7 ?c7 ?k7 ?a8 ?l8 ?c8 ?k8 ?a9 ?l9 ?c9 ?k9 ?a10 ?l10 ?c10 ?k10 ?a11 ?l11 ?c11 ?k11 ?a12 ?l12 ?c12 ?k12 ?a13 ?l13 ?c13 ?k13 ?a14 ?l14 ?c14 ?k14 ?a15 ?l15 ?c15 ?k15 ?a16 ?l16 ?c16 ?k16 ?a17 ?l17 ?c17 ?k17 ?a18 ?l18 ?c18 ?k18 ?a19 ?l19 ?c19 ?k19 ?a20 ?l20 ?c20 ?k20 ?a21 ?l21 ?c21 ?k21 ?a22 ?l22 ?c22 ?k22 ?a23 ?l23 ?c23 ?k23 ?a24 ?l24 ?c24 ?k24 ?a25 ?l25 ?c25 ?k25 ?a26 ?l26 ?c26 ?k26 ?a27 ?l27 ?c27 ?k27 ?a28 ?l28 ?c28 ?k28 ?a29 ?l29 ?c29 ?k29 ?a30 ?l30 ?c30 ?k30 ?a31 ?l31 ?c31 ?k31 ?a32 ?l32 ?c32 ?k32 ?a33 ?l33 ?c33 ?k33 ?a34 ?l34 ?c34 ?k34 ?a35 ?l35 ?c35 ?k35 ?a36 ?l36 ?c36 ?k36 ?a37 ?l37 ?c37 ?k37 ?z0 ?z1 ?z2 ?z3 ?z4 ?z5 ?z6 ?z7 ?z8 ?z9 ?z10 ?z11 ?z12 ?z13
  (case a0=>k_is)
  (case l0=>k_is)
  (case c0=>k_is)
  (case k0=>k_is)
  (case a1=>k_is)
  (case l1=>k_is)
  (case c1=>k_is)
  (case k1=>k_is)
  (case a2=>k_is)
  (case l2=>k_is)
  (case c2=>k_is)
  (case k2=>k_is)
  (case a3=>k_is)
  (case l3=>k_is)
  (case c3=>k_is)
  (case k3=>k_is)
  (case a4=>k_is)
  (case l4=>k_is)
  (case c4=>k_is)
  (case k4=>k_is)
  (case a5=>k_is)
  (case l5=>k_is)
  (case c5=>k_is)
  (case k5=>k_is)
  (case a6=>k_is)
  (case l6=>k_is)
  (case c6=>k_is)
  (case k6=>k_is)
  (case a7=>k_is)
  (case l7=>k_is)
  (case c7=>k_is)
  (case k7=>k_is)
  (case a8=>k_is)
  (case l8=>k_is)
  (case c8=>k_is)
  (case k8=>k_is)
  (case a9=>k_is)
  (case l9=>k_is)
  (case c9=>k_is)
  (case k9=>k_is)
  (case a10=>k_is)
  (case l10=>k_is)
  (case c10=>k_is)
  (case k10=>k_is)
  (case a11=>k_is)
  (case l11=>k_is)
  (case c11=>k_is)
  (case k11=>k_is)
  (case a12=>k_is)
  (case l12=>k_is)
  (case c12=>k_is)
  (case k12=>k_is)
  (case a13=>k_is)
  (case l13=>k_is)
  (case c13=>k_is)
  (case k13=>k_is)
  (case a14=>k_is)
  (case l14=>k_is)
  (case c14=>k_is)
  (case k14=>k_is)
  (case a15=>k_is)
  (case l15=>k_is)
  (case c15=>k_is)
  (case k15=>k_is)
  (case a16=>k_is)
  (case l16=>k_is)
  (case c16=>k_is)
  (case k16=>k_is)
  (case a17=>k_is)
  (case l17=>k_is)
  (case c17=>k_is)
  (case k17=>k_is)
  (case a18=>k_is)
  (case l18=>k_is)
  (case c18=>k_is)
  (case k18=>k_is)
  (case a19=>k_is)
  (case l19=>k_is)
  (case c19=>k_is)
  (case k19=>k_is)
  (case a20=>k_is)
  (case l20=>k_is)
  (case c20=>k_is)
  (case k20=>k_is)
  (case a21=>k_is)
  (case l21=>k_is)
  (case c21=>k_is)
  (case k21=>k_is)
  (case a22=>k_is)
  (case l22=>k_is)
  (case c22=>k_is)
  (case k22=>k_is)
  (case a23=>k_is)
  (case l23=>k_is)
  (case c23=>k_is)
  (case k23=>k_is)
  (case a24=>k_is)
  (case l24=>k_is)
  (case c24=>k_is)
  (case k24=>k_is)
  (case a25=>k_is)
  (case l25=>k_is)
  (case c25=>k_is)
  (case k25=>k_is)
  (case a26=>k_is)
  (case l26=>k_is)
  (case c26=>k_is)
  (case k26=>k_is)
  (case a27=>k_is)
  (case l27=>k_is)
  (case c27=>k_is)
  (case k27=>k_is)
  (case a28=>k_is)
  (case l28=>k_is)
  (case c28=>k_is)
  (case k28=>k_is)
  (case a29=>k_is)
  (case l29=>k_is)
  (case c29=>k_is)
  (case k29=>k_is)
  (case a30=>k_is)
  (case l30=>k_is)
  (case c30=>k_is)
  (case k30=>k_is)
  (case a31=>k_is)
  (case l31=>k_is)
  (case c31=>k_is)
  (case k31=>k_is)
  (case a32=>k_is)
  (case l32=>k_is)
  (case c32=>k_is)
  (case k32=>k_is)
  (case a33=>k_is)
  (case l33=>k_is)
  (case c33=>k_is)
  (case k33=>k_is)
  (case a34=>k_is)
  (case l34=>k_is)
  (case c34=>k_is)
  (case k34=>k_is)
  (case a35=>k_is)
  (case l35=>k_is)
  (case c35=>k_is)
  (case k35=>k_is)
  (case a36=>k_is)
  (case l36=>k_is)
  (case c36=>k_is)
  (case k36=>k_is)
  (case a37=>k_is)
  (case l37=>k_is)
  (case c37=>k_is)
  (case k37=>k_is)
  (case z0=>k_is)
  (case z1=>k_is)
  (case z2=>k_is)
  (case z3=>k_is)
  (case z4=>k_is)
  (case z5=>k_is)
  (case z6=>k_is)
  (case z7=>k_is)
  (case z8=>k_is)
  (case z9=>k_is)
  (case z10=>k_is)
  (case z11=>k_is)
  (case z12=>k_is)
  (case z13=>k_is)
