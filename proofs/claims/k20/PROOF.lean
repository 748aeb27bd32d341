import PyProof.Rows.All
import Wide.All
import OpenK.AllK
import Wide.FinOn
import Lean
import PyProof.EqAt
import PyProof.EqKinds
import PyProof.TupleCall
import PyProof.DictUpdate
import KE.KDictOf
import PyProof.AttrMissHeap
import KE.KSortTup
import KE.KItemsList
import PyProof.DictWalks
import PyProof.Rows.TupDisplay
import KE.KEqDict
import PyProof.NeKinds
import KE.KRevIter
import PyProof.ListRange
import PySem.Challenge.RW_viewwood_k20_next_parts
set_option Elab.async false
set_option linter.all false
set_option maxRecDepth 100000
set_option maxHeartbeats 4000000
namespace PySem
open Sem (wp)
section
variable {prog:Program}{w:World}{K:Type}[DecidableEq K](knd:KeyKind prog w K)
inductive ItemsTup (h:Heap):List (List K)->List Value->Prop
 |nil:ItemsTup h [] []
 |cons {k:List K} {b:Addr} {kss:List (List K)} {vs:List Value}:IsTupleKey knd h k b->ItemsTup h kss vs->ItemsTup h (k::kss) (.ref b::vs)
def IsPathKey (h:Heap)(kss:List (List K))(a:Addr):Prop:=∃o items n,h.get? a=some o/\o.cls=.type "tuple"/\o.data=.seq items n/\ItemsTup knd h kss items.toList
variable {knd}
theorem ItemsTup.inj {h:Heap}{x y:List (List K)}{vs:List Value}(hx:ItemsTup knd h x vs)(hy:ItemsTup knd h y vs):x=y:=by
 induction hx generalizing y with
 |nil=>(cases hy; rfl)
 |cons h1 _ ih=>cases hy with | cons h2 t2=>rw[h1.inj h2,ih t2]
theorem ItemsTup.keeps {h h':Heap}{d:Addr}{o:Obj}{es:Array DictEntry}{ep:Nat}{x:List (List K)}{vs:List Value}(hx:ItemsTup knd h x vs)(ho:h.get? d=some o)(hd:o.data=.dict es ep)(hs:Heap.SameBut d h h'):ItemsTup knd h' x vs:=by
 induction hx with
 |nil=>exact .nil
 |cons h1 _ ih=>exact .cons (h1.keeps ho hd hs) ih
theorem IsPathKey.typeIs {s:Shared}{kss:List (List K)}{a:Addr}(x:IsPathKey knd s.heap kss a):s.TypeIs (.ref a) "tuple":=by
 obtain⟨o,_,_,e,c,_⟩:=x;exact⟨o,e,c⟩
theorem IsPathKey.inj {h:Heap}{a:Addr}{x y:List (List K)}(hx:IsPathKey knd h x a)(hy:IsPathKey knd h y a):x=y:=by
 obtain⟨o,its,n,e1,_,e2,e3⟩:=hx;obtain⟨o',its',n',f1,_,f2,f3⟩:=hy;cases e1.symm.trans f1;cases e2.symm.trans f2;exact e3.inj f3
theorem IsPathKey.keeps {h h':Heap}{kss:List (List K)}{a d:Addr}{o:Obj}{es:Array DictEntry}{ep:Nat}(x:IsPathKey knd h kss a)(ho:h.get? d=some o)(hd:o.data=.dict es ep)(hs:Heap.SameBut d h h'):IsPathKey knd h' kss a:=by
 obtain⟨o',its,n,e1,e2,e3,e4⟩:=x
 have hne:a≠d:=by
  intro z;rw[z,ho] at e1;cases e1;rw[hd] at e3;cases e3
 exact⟨o',its,n,(hs.2 a hne).trans e1,e2,e3,e4.keeps ho hd hs⟩
def sL (knd:KeyKind prog w K)(kss:List (List K)):Int:=reduceHash (Builtin.Tuple.tupleHashOf (kss.map (tupleKeyHash knd)))
def iM (kss:List (List K)):Nat:=(kss.map fun k=>k.length+1).sum+1
variable {A:Around}{E:Value->Shared->Prop}{s:Shared}
theorem fB {kss:List (List K)}{a:Addr}{Q:Int->Shared->Prop}(hu:A.units+1 < cLine)(hk:IsPathKey knd s.heap kss a)(h:Q (sL knd kss) { s with toks:=s.toks+iM kss }):
  wpAny (model prog w) A (pyHash (.ref a)) Q E s:=by
 have hT:=hk.typeIs;obtain⟨o,items,n,ho,_,hd,hi⟩:=hk
 (unfold pyHash; first | unfold pyHashByItsType | skip)
 (first | refine wpAny_bind (wpAny_cRoomFor_or (.inr (Nat.lt_of_succ_lt hu)) ?_) | skip)
 refine wpAny_bind (wpAny_specialOf (by exact hT) F.slot_tuple_hash.lookup (?_));show wpAny _ _ (if (some (Value.builtin "tuple.__hash__")==some Value.none)=true then (_) else _) Q E s;rw[if_neg (by intro z; rw[beq_builtin_none] at z; exact Bool.false_ne_true z)];refine wpAny_bind (wpAny_specialOf (by exact hT) F.slot_tuple_hash.lookup (?_));show wpAny _ _ (callSpecialIfBoundUnlessNone? (.ref a) "__hash__" (_) >>= _) Q E s
 refine wpAny_bind (wpAny_callSpecialIfBoundUnlessNone?_slot (by exact hT) F.slot_tuple_hash (wpAny_call_entry F.slot_tuple_hash (by exact hT) F.entry_tuple_hash (?_) (F.args_tuple_hash_1 _)));show wpAny _ _ (Builtin.Tuple.tupleItemsOf (.ref a) >>= (_)) _ _ s
 (refine wpAny_bind (wpAny_tupleItemsOf ho hd (?_)); refine wpAny_bind ?_; rw[<- Array.forIn_toList])
 refine wpAny_forIn_list _ (fun rest (b:Array Int) s'=>∃done left,kss=done++left/\ItemsTup knd s.heap left rest/\b.toList=done.map (tupleKeyHash knd)/\s'={ s with toks:=s.toks+(done.map fun k=>k.length+1).sum }) _ ?_ ?_ _ _ ⟨[],kss,rfl,hi,rfl,rfl⟩
 .rintro x rest b s' ⟨done,left,rfl,hl,hb,rfl⟩
  cases hl with
  |@cons k b' ks' _ h1 hl' =>
   refine wpAny_bind (wpAny_pyHash_tuple (A:=A.in1) hu h1 ?_)
   first
    |exact wpAny_pure ⟨done++[k],ks',by simp,hl',by simp[hb],by simp[Nat.add_assoc]⟩
    |exact wpAny_bind (wpAny_pure (wpAny_pure ⟨done++[k],ks',by simp,hl',by simp[hb],by simp[Nat.add_assoc]⟩))
 .rintro b s' ⟨done,left,rfl,hl,hb,rfl⟩
  cases hl;rw[List.append_nil] at h
  (show wpAny _ _ (retInt (Builtin.Tuple.tupleHashOf b.toList)) _ _ _; rw[hb]; refine wpAny_ret_mkInt ?_)
  unfold sL reduceHash iM at h;generalize Builtin.Tuple.tupleHashOf (done.map (tupleKeyHash knd))=hh at h ⊢;show wpAny _ _ (if (decide (-(2:Int) ^ 63<=hh)&&decide (hh < 2 ^ 63))=true then _ else _) Q E _
  by_cases hr:(decide (-(2:Int) ^ 63<=hh)&&decide (hh < 2 ^ 63))=true
  ·(rw[if_pos hr]; rw[if_pos hr] at h)
   exact wpAny_pure (by simpa [Nat.add_assoc] using h)
  ·(rw[if_neg hr]; rw[if_neg hr] at h)
   exact wpAny_bind (wpAny_rule (wpAny_pure (by simpa [Nat.add_assoc] using h)))
theorem eC {x y:List (List K)}{a b:Addr}{P:Fin->Shared->Prop}(hu:A.units < cLine)(hx:IsPathKey knd s.heap x a)(hy:IsPathKey knd s.heap y b)(h:P (.done (.ret (.bool (decide (x=y))))) s):
  wpAny (model prog w) A (Builtin.«tuple.__eq__» ⟨[.ref a,.ref b],[]⟩) P E s:=by
 have hTb:=hy.typeIs;obtain⟨oa,xs,na,hoa,_,hda,hia⟩:=hx;obtain⟨ob,ys,nb,hob,_,hdb,hib⟩:=hy
 (show wpAny _ _ (isInstance (.ref b) (.type "tuple") >>= _) _ _ s; refine wpAny_bind (wpAny_isInstance hTb isSubtype_tuple_tuple ?_))
 (simp only[Bool.not_true,Bool.false_eq_true,if_false]; refine wpAny_bind (wpAny_tupleItemsOf hoa hda ?_); refine wpAny_bind (wpAny_tupleItemsOf hob hdb ?_); refine wpAny_bind ?_)
 refine wpAny_forIn_list _ (fun rest r s'=>r.1=none/\s'=s/\∃x' y' xs' ys',rest=List.zip xs' ys'/\ItemsTup knd s.heap x' xs'/\ItemsTup knd s.heap y' ys'/\decide (x'=y')=decide (x=y)/\(xs'.length==ys'.length)=(xs.size==ys.size)) _ ?_ ?_ _ _ ⟨rfl,rfl,x,y,xs.toList,ys.toList,rfl,hia,hib,rfl,by simp⟩
 .rintro ⟨u,v⟩ rest r s' ⟨hr,rfl,x',y',xs',ys',hz,hx',hy',hdec,hlen⟩
  cases hx' with
  |nil=>simp at hz
  |@cons k1 b1 x'' xs'' h1 hx'' =>
   cases hy' with
   |nil=>simp at hz
   |@cons k2 b2 y'' ys'' h2 hy'' =>
    (simp only[List.zip_cons_cons,List.cons.injEq,Prod.mk.injEq] at hz; obtain⟨⟨rfl,rfl⟩,rfl⟩:=hz)
    refine wpAny_bind (wpAny_eqBool_tuple hu h1 h2 ?_)
    by_cases hk:k1=k2
    .subst hk
     (rw[decide_eq_true rfl]; simp only[Bool.not_true,Bool.false_eq_true,if_false])
     refine wpAny_pure ⟨rfl,rfl,x'',y'',xs'',ys'',rfl,hx'',hy'',?_,by simpa using hlen⟩;rw[<- hdec]
     (by_cases hxy:x''=y''<;>simp[hxy])
    ·(rw[decide_eq_false hk]; simp only[Bool.not_false,if_true])
     have hf:decide (x=y)=false:=by (rw[<- hdec]; simp[hk])
     rw[hf] at h;exact wpAny_bind (wpAny_pure (wpAny_pure (wpAny_pure h)))
 .rintro ⟨r1,r2⟩ s' ⟨hr,rfl,x',y',xs',ys',hz,hx',hy',hdec,hlen⟩
  (simp only at hr; subst hr; refine wpAny_pure ?_)
  have hfin:(xs.size==ys.size)=decide (x=y):=by
   rw[<- hdec,<- hlen]
   cases hx' with
   |nil=>(cases hy' with | nil=>simp | cons _ _=>simp)
   |cons _ _=>(cases hy' with | nil=>simp | cons _ _=>simp at hz)
  (show P (.done (.ret (.bool (xs.size==ys.size)))) s'; rw[hfin]; exact h)
theorem pB {x y:List (List K)}{a b:Addr}{Q:Bool->Shared->Prop}(hu:A.units+1 < cLine)(hx:IsPathKey knd s.heap x a)(hy:IsPathKey knd s.heap y b)(h:Q (decide (x=y)) s):
  wpAny (model prog w) A (eqBool (.ref a) (.ref b)) Q E s:=by
 (unfold eqBool; try with_reducible refine wpAny_holding ?_)
 show wpAny _ _ (if (Value.ref a==Value.ref b)=true then (_) else _) Q E s
 by_cases hab:(Value.ref a==Value.ref b)=true
 .rw [if_pos hab]
  have e:a=b:=by (have:=eq_of_beq hab; injection this)
  subst e;obtain rfl:=hx.inj hy;exact wpAny_bind (wpAny_rule (wpAny_pure (by simpa using h)))
 .rw [if_neg hab]
  exact wpAny_bind (wpAny_richCompare_same_room (op:=.Eq) hx.typeIs hy.typeIs F.slot_tuple_eq (wpAny_call_entry F.slot_tuple_eq hx.typeIs F.entry_tuple_eq (eC (A:=A.in1) hu hx hy ⟨_,rfl,(fun e=>nomatch e),wpAny_truthy_bool h⟩) (F.args_tuple_eq_2 _ _)) (Nat.lt_of_succ_lt hu))
theorem wT (n:Nat){ks:List K}{a:Addr}{Q:Bool->Shared->Prop}(hk:IsTupleKey knd s.heap ks a)(h:Q true s):wpAny (model prog w) A (eqIsQuiet (n+1) (.ref a)) Q E s:=by
 have hT:=hk.typeIs;obtain⟨o,items,m,ho,_,hd,hi⟩:=hk
 (unfold eqIsQuiet; refine wpAny_bind (wpAny_specialOf hT F.slot_tuple_eq.lookup ?_))
 (show wpAny _ _ (isInstance (.ref a) (.type "tuple") >>= _) _ _ s; refine wpAny_bind (wpAny_isInstance hT isSubtype_tuple_tuple ?_))
 (simp only[Bool.not_true,Bool.false_eq_true,if_false]; refine wpAny_bind (wpAny_seqItems ho hd ?_); refine wpAny_bind ?_)
 (show wpAny _ _ (forIn items _ _) _ _ s; rw[<- Array.forIn_toList])
 refine wpAny_forIn_list _ (fun rest r s'=>r.1=none/\s'=s/\∀v∈rest,carriedByValue v=true) _ ?_ ?_ _ _ ⟨rfl,rfl,hi.byValue⟩
 .rintro v rest r s' ⟨hr,rfl,hall⟩
  (rw[eqIsQuiet_byValue _ (hall v List.mem_cons_self)]; refine wpAny_bind (wpAny_pure ?_))
  (simp only[Bool.not_true,Bool.false_eq_true,if_false]; exact wpAny_pure ⟨rfl,rfl,fun u hu'=>hall u (List.mem_cons_of_mem _ hu')⟩)
 .rintro ⟨r1,r2⟩ s' ⟨hr,rfl,_⟩
  (simp only at hr; subst hr; exact wpAny_pure h)
theorem uA {kss:List (List K)}{a:Addr}{Q:Bool->Shared->Prop}(hk:IsPathKey knd s.heap kss a)(h:Q true s):wpAny (model prog w) A (eqIsQuiet 8 (.ref a)) Q E s:=by
 have hT:=hk.typeIs;obtain⟨o,items,m,ho,_,hd,hi⟩:=hk
 (unfold eqIsQuiet; refine wpAny_bind (wpAny_specialOf hT F.slot_tuple_eq.lookup ?_))
 (show wpAny _ _ (isInstance (.ref a) (.type "tuple") >>= _) _ _ s; refine wpAny_bind (wpAny_isInstance hT isSubtype_tuple_tuple ?_))
 (simp only[Bool.not_true,Bool.false_eq_true,if_false]; refine wpAny_bind (wpAny_seqItems ho hd ?_); refine wpAny_bind ?_)
 (show wpAny _ _ (forIn items _ _) _ _ s; rw[<- Array.forIn_toList])
 refine wpAny_forIn_list _ (fun rest r s'=>r.1=none/\s'=s/\∃x',ItemsTup knd s.heap x' rest) _ ?_ ?_ _ _ ⟨rfl,rfl,_,hi⟩
 .rintro v rest r s' ⟨hr,rfl,x',hall⟩
  cases hall with
  |cons h1 h2 =>
   refine wpAny_bind (wT 6 h1 ?_)
   (simp only[Bool.not_true,Bool.false_eq_true,if_false]; exact wpAny_pure ⟨rfl,rfl,_,h2⟩)
 .rintro ⟨r1,r2⟩ s' ⟨hr,rfl,_⟩
  (simp only at hr; subst hr; exact wpAny_pure h)
end
def yG {prog:Program}{w:World}{K:Type}[DecidableEq K](knd:KeyKind prog w K):HeapKind prog w (List (List K)) where
 is:=IsPathKey knd
 hash:=sL knd
 draws:=iM
 room:=fun A=>A.units+1 < cLine
 inj:=fun hx hy=>hx.inj hy
 keeps:=fun x ho hd hs=>x.keeps ho hd hs
 pyHash:=fun hu hk h=>fB hu hk h
 eqBool:=fun hu hx hy h=>pB hu hx hy h
 quiet:=fun hk h=>uA hk h
theorem tJ {prog:Program}{w:World}{K:Type}[DecidableEq K]{knd:KeyKind prog w K}{A:Around}(hu:A.units+2 < cLine):(yG knd).room A.in1:=hu
end PySem
namespace L2
open PySem PySem.Spec PyProof.Rows
abbrev Key:=Sum (Option Int) Str
def QP:Value->Bool
 |.none=>true
 |_=>false
def cN:Key->Value->Bool
 |.inl (some k),v=>Value.isInt k v
 |.inl none,v=>QP v
 |.inr x,v=>Value.isStrOf x v
def keyH (w:World):Key->Int
 |.inl (some k)=>hashInt k
 |.inl none=>4238894112
 |.inr x=>hashStr w x
theorem cH {v:Value}(h:QP v=true):v=.none:=by
 cases v<;>first | rfl | cases h
theorem dZ:∀{k:Key}{v:Value},cN k v=true->(∃i t,k=Sum.inl (some i)/\v=Value.int i t)\/(∃x t,k=Sum.inr x/\v=Value.str x t)\/(k=Sum.inl none/\v=Value.none)
 |.inl (some i),v,h=>by
  obtain⟨t,e⟩:=Value.isInt_shape (k:=i) (v:=v) h;exact .inl ⟨i,t,rfl,e⟩
 |.inl none,v,h=>.inr (.inr ⟨rfl,cH h⟩)
 |.inr x,v,h=>by
  obtain⟨t,e⟩:=Value.isStrOf_shape (x:=x) (v:=v) h;exact .inr (.inl ⟨x,t,rfl,e⟩)
theorem XZ (i:Int)(t:Tok):cN (.inl (some i)) (.int i t)=true:=by simp[cN,Value.isInt]
theorem XY (x:Str)(t:Tok):cN (.inr x) (.str x t)=true:=by simp[cN,Value.isStrOf]
theorem JZ {a b:Key}(h:a≠b):decide (a=b)=false:=decide_eq_false h
theorem key_ii (a b:Int):decide ((Sum.inl (some a):Key)=Sum.inl (some b))=(a==b):=by
 by_cases e:a=b
 .subst e; simp
 .rw [JZ fun q=>e (Option.some.inj (Sum.inl.inj q))]
  exact(beq_eq_false_iff_ne.mpr e).symm
theorem key_ss (a b:Str):decide ((Sum.inr a:Key)=Sum.inr b)=decide (a=b):=by
 by_cases e:a=b
 .subst e; simp
 .rw [JZ fun q=>e (Sum.inr.inj q),decide_eq_false e]
theorem key_is (i:Int)(y:Str):decide ((Sum.inl (some i):Key)=Sum.inr y)=false:=decide_eq_false nofun
theorem key_in (i:Int):decide ((Sum.inl (some i):Key)=Sum.inl none)=false:=decide_eq_false nofun
theorem key_si (x:Str)(j:Int):decide ((Sum.inr x:Key)=Sum.inl (some j))=false:=decide_eq_false nofun
theorem key_sn (x:Str):decide ((Sum.inr x:Key)=Sum.inl none)=false:=decide_eq_false nofun
theorem key_ni (j:Int):decide ((Sum.inl none:Key)=Sum.inl (some j))=false:=decide_eq_false nofun
theorem key_ns (y:Str):decide ((Sum.inl none:Key)=Sum.inr y)=false:=decide_eq_false nofun
theorem X4 {prog:Program}{w:World}{A:Around}{E:Value->Shared->Prop}{s:Shared}{Q:Int->Shared->Prop}(h:Q 4238894112 { s with toks:=s.toks+1 }):wpAny (model prog w) A (pyHash .none) Q E s:=by
 unfold pyHash;refine wpAny_bind ?_;rw[cRoomFor,if_neg (by rw[show[Value.none].any Value.onHeap=false from rfl]; exact Bool.false_ne_true)]; refine wpAny_pure ?_
 have ty:s.TypeIs .none "NoneType":=rfl;refine wpAny_bind (wpAny_specialOf ty PySem.F.slot_NoneType_hash.lookup ?_);rw[if_neg (by rw[beq_builtin_none]; exact Bool.false_ne_true)];refine wpAny_bind (wpAny_specialOf ty PySem.F.slot_NoneType_hash.lookup ?_)
 refine wpAny_bind (wpAny_callSpecialIfBoundUnlessNone?_slot ty PySem.F.slot_NoneType_hash
  (wpAny_call_entry PySem.F.slot_NoneType_hash ty PySem.F.entry_NoneType_hash
   (show wpAny _ _ (do ret (<- mkInt 4238894112)) _ _ s from wpAny_ret_mkInt ?_) (PySem.F.args_NoneType_hash_1 _)))
 show wpAny _ _ (if (decide (-(2:Int) ^ 63<=4238894112)&&decide ((4238894112:Int) < 2 ^ 63))=true then _ else _) Q E _;rw[if_pos (by decide)];exact wpAny_pure h
theorem Kq {prog:Program}{w:World}{A:Around}{E:Value->Shared->Prop}{s:Shared}{Q:Bool->Shared->Prop}(h:Q true s):wpAny (model prog w) A (eqBool .none .none) Q E s:=by
 unfold eqBool;refine wpAny_holding ?_;refine wpAny_ite_split (fun _=>?_) (fun hab=>absurd rfl hab);exact wpAny_bind (wpAny_rule (wpAny_pure h))
def oQ (prog:Program)(w:World):PySem.KeyKind prog w Key where
 is:=cN
 hash:=keyH w
 inj:=fun v a b ha hb=>by
  rcases dZ ha with ⟨i,t,rfl,rfl⟩ | ⟨x,t,rfl,rfl⟩ | ⟨rfl,rfl⟩<;>rcases dZ hb with ⟨j,u,rfl,e⟩ | ⟨y,u,rfl,e⟩ | ⟨rfl,e⟩<;>cases e<;>rfl
 byValue:=fun k v h=>by
  rcases dZ h with ⟨i,t,rfl,rfl⟩ | ⟨x,t,rfl,rfl⟩ | ⟨rfl,rfl⟩<;>rfl
 pyHash:=fun hv h=>by
  rcases dZ hv with ⟨i,t,rfl,rfl⟩ | ⟨x,t,rfl,rfl⟩ | ⟨rfl,rfl⟩
  .exact wpAny_pyHash_int h
  .exact wpAny_pyHash_str h
  .exact X4 h
 eqBool:=fun hu hv h=>by
  rcases dZ hu with ⟨i,t,rfl,rfl⟩ | ⟨x,t,rfl,rfl⟩ | ⟨rfl,rfl⟩<;>rcases dZ hv with ⟨j,u,rfl,rfl⟩ | ⟨y,u,rfl,rfl⟩ | ⟨rfl,rfl⟩
  .rw [key_ii] at h; exact wpAny_eqBool_int h
  .rw [key_is] at h; exact SeqAt.EqAt.int_str i t y u _ _ _ _ h
  .rw [key_in] at h; exact SeqAt.EqAt.int_none i t _ _ _ _ h
  .rw [key_si] at h; exact SeqAt.EqAt.str_int x t j u _ _ _ _ h
  .rw [key_ss] at h; exact wpAny_eqBool_str h
  .rw [key_sn] at h; exact SeqAt.EqAt.str_none x t _ _ _ _ h
  .rw [key_ni] at h; exact SeqAt.EqAt.none_int j u _ _ _ _ h
  .rw [key_ns] at h; exact SeqAt.EqAt.none_str y u _ _ _ _ h
  .rw [decide_eq_true (rfl:(Sum.inl none:Key)=Sum.inl none)] at h; exact Kq h
 «strs»:=fun k x t v h=>by
  rcases dZ h with ⟨i,u,rfl,e⟩ | ⟨y,u,rfl,e⟩ | ⟨rfl,e⟩
  .exact nomatch e
  .injection e with e1 _
   subst e1;cases v<;>rfl
  .exact nomatch e
theorem wO (prog:Program)(w:World)(i:Int)(t:Tok):(oQ prog w).is (.inl (some i)) (.int i t)=true:=XZ i t
theorem xR (prog:Program)(w:World):(oQ prog w).is (.inl none) .none=true:=rfl
theorem vO (prog:Program)(w:World)(x:Str)(t:Tok):(oQ prog w).is (.inr x) (.str x t)=true:=XY x t
inductive V where
 |non | bl (b:Bool) | int (i:Int) | str (x:Str) | byt (b:Array UInt8) | flt (b:UInt64) | ref (a:Addr) | ty (n:String)
 deriving DecidableEq
def RelV:V->Value->Prop
 |.non,u=>u=Value.none
 |.bl b,u=>u=Value.bool b
 |.int i,u=>∃t,u=Value.int i t
 |.str x,u=>∃t,u=Value.str x t
 |.byt b,u=>∃t,u=Value.bytes b t
 |.flt b,u=>∃t,u=Value.float b t
 |.ref a,u=>u=Value.ref a
 |.ty n,u=>u=Value.type n
abbrev Vals:List V->List Value->Prop:=Paired RelV
theorem Vals.length {xs:List V}{us:List Value}(r:Vals xs us):xs.length=us.length:=Paired.length r
theorem Vals.get:∀{xs:List V}{us:List Value}{i:Nat}{x:V},Vals xs us->xs[i]?=some x->∃u,us[i]?=some u/\RelV x u
 |_,_,_,_,.nil,e=>by simp at e
 |_,_,0,_,.cons r _,e=>by simp at e; subst e; exact⟨_,rfl,r⟩
 |_,_,i+1,x,.cons _ t,e=>by
  obtain⟨u,h1,h2⟩:=Vals.get (i:=i) (x:=x) t (by simpa using e);exact⟨u,by simpa using h1,h2⟩
theorem Vals.set {x:V}{u:Value}(r:RelV x u):∀{xs:List V}{us:List Value}(i:Nat),Vals xs us->Vals (xs.set i x) (us.set i u)
 |_,_,_,.nil=>.nil
 |_,_,0,.cons _ t=>.cons r t
 |_,_,i+1,.cons q t=>.cons q (Vals.set r i t)
theorem Vals.append:∀{xs ys:List V}{us ws:List Value},Vals xs us->Vals ys ws->Vals (xs++ys) (us++ws)
 |_,_,_,_,.nil,s=>s
 |_,_,_,_,.cons r t,s=>.cons r (Vals.append t s)
theorem Vals.take:∀{xs:List V}{us:List Value}(n:Nat),Vals xs us->Vals (xs.take n) (us.take n)
 |_,_,0,_=>.nil
 |_,_,_+1,.nil=>.nil
 |_,_,n+1,.cons r t=>.cons r (Vals.take n t)
theorem Vals.drop:∀{xs:List V}{us:List Value}(n:Nat),Vals xs us->Vals (xs.drop n) (us.drop n)
 |_,_,0,r=>r
 |_,_,_+1,.nil=>.nil
 |_,_,n+1,.cons _ t=>Vals.drop n t
def RelO:Option V->Option Value->Prop
 |some v,some u=>RelV v u
 |none,none=>True
 |_,_=>False
def KV {κ:Type}:List (κ×V)->List (κ×Value)->Prop:=Paired fun(p:κ×V) (q:κ×Value)=>p.1=q.1/\RelV p.2 q.2
def kV:Key->V
 |.inl none=>.non
 |.inl (some i)=>.int i
 |.inr x=>.str x
inductive HO where
 |lst (xs:List V)
 |tup (xs:List V)
 |dK (kvs:List (Key×V)) | dT (kvs:List (List Key×V)) | dP (kvs:List (List (List Key)×V))
 |set (S:Int->Bool) (n:Nat)
 |ins (C dx:Addr) (fs:List (Str×V))
 |own (x:Addr)
 |xd (fs:List (Str×V))
 |met (f x:Addr)
 |rng (lo hi:Int)
 |frz (o:Obj) (u:HO)
 |tbl (ps:Array Value)
 |ext (φ:Heap->Prop)
abbrev Hp:=Addr->Option HO
def upd (H:Hp)(a:Addr)(o:HO):Hp:=fun b=>if b=a then some o else H b
theorem gQ {H:Hp}{a:Addr}{o:HO}:upd H a o a=some o:=by unfold upd; rw[if_pos rfl]
theorem cQ {H:Hp}{a b:Addr}{o:HO}(h:b≠a):upd H a o b=H b:=by unfold upd; rw[if_neg h]
theorem JC {H:Hp}{a b:Addr}{o u:HO}(h:H a=some o)(h':H b=some u)(d:o≠u):a≠b:=by
 intro e; subst e; rw[h] at h'; exact d (Option.some.inj h')
theorem aZ {H:Hp}{a b:Addr}{o:HO}(h:H a=some o)(h':H b=none):a≠b:=by
 intro e; subst e; rw[h] at h'; cases h'
def IsTupN (h:Heap)(a:Addr)(items:Array Value):Prop:=∃o,h.get? a=some o/\o.cls=.type "tuple"/\(∃n,o.data=.seq items n)/\o.dict=none
theorem IsTupN.is {h:Heap}{a:Addr}{items:Array Value}(x:IsTupN h a items):IsTup h a items:=let ⟨o,e,c,d,_⟩:=x; ⟨o,e,c,d⟩
theorem IsTupN.new (h:Heap)(items:Array Value):IsTupN (h.push { cls:=.type "tuple",data:=.seq items }) h.objs.size items:=⟨_,Heap.get?_push_size _ rfl,rfl,⟨_,rfl⟩,rfl⟩
def PKey (H:Hp)(kss:List (List Key))(b:Addr):Prop:=∃bs:List Addr,H b=some (.tup (bs.map V.ref))/\Paired (fun(ks:List Key) (c:Addr)=>H c=some (.tup (ks.map kV))) kss bs
section
variable (P:Program)(w:World)
def ObjOk (H:Hp)(h:Heap)(a:Addr):HO->Prop
 |.lst xs=>xs.length<=sizeLine/\∃(its:List Value) (n:Nat),Vals xs its/\h.get? a=some { cls:=.type "list",data:=.seq its.toArray n }
 |.tup xs=>xs.length<=sizeLine/\∃its:List Value,Vals xs its/\IsTupN h a its.toArray
 |.dK kvs=>kvs.length<=sizeLine/\(a==sysModules)=false/\∃vs,KV kvs vs/\h.DictOf (oQ P w) a vs
 |.dT kvs=>kvs.length<=sizeLine/\(a==sysModules)=false/\∃xs:List (List Key×Addr×Value),
   Paired (fun(p:List Key×V) (q:List Key×Addr×Value)=>p.1=q.1/\H q.2.1=some (.tup (p.1.map kV))/\RelV p.2 q.2.2) kvs xs /\
   ∃o es ep,h.get? a=some o/\o.ExactDict/\o.data=.dict es ep/\es.toList=xs.map (entryOfKey (tupleKind (oQ P w)))/\(xs.map (·.1)).Nodup
 |.dP kvs=>kvs.length<=sizeLine/\(a==sysModules)=false/\∃xs:List (List (List Key)×Addr×Value),
   Paired (fun(p:List (List Key)×V) (q:List (List Key)×Addr×Value)=>p.1=q.1/\PKey H p.1 q.2.1/\RelV p.2 q.2.2) kvs xs /\
   ∃o es ep,h.get? a=some o/\o.ExactDict/\o.data=.dict es ep/\es.toList=xs.map (entryOfKey (yG (oQ P w)))/\(xs.map (·.1)).Nodup
 |.set S n=>h.SetOf (intKind P w) a S n
 |.ins C dx fs=>H dx=some (.own a)/\fs.length<=1000/\dx≠a/\h.get? a=some (PySem.W.instObj C dx) /\
   ∃mA,h.Ns1 dx mA/\(∀f,RelO (fs.lookup f) (mA f))/\PySem.Within mA (fs.map (·.1))
 |.own _=>∃o,h.get? a=some o
 |.xd fs=>∃mA,h.Ns1 a mA/\∀f,RelO (fs.lookup f) (mA f)
 |.rng lo hi=>∃t u v,h.get? a=some { cls:=.type "range",data:=.fields #[.int lo t,.int hi u,.int 1 v] }
 |.frz o u=>h.get? a=some o/\ObjOk H h a u
 |.tbl ps=>h.get? a=some { cls:=.none,data:=.fields ps }
 |.met f x=>h.get? a=some (PySem.W.methodObj (.ref f) (.ref x))
 |.ext φ=>φ h/\(∃o,h.get? a=some o)/\∀h1 h2:Heap,φ h1->(∀o,h1.get? a=some o->h2.get? a=some o)->φ h2
def HOk (H:Hp)(h:Heap):Prop:=∀a o,H a=some o->ObjOk P w H h a o
end
section
variable {P:Program}{w:World}{H H':Hp}{h h':Heap}{a:Addr}{o:HO}
theorem ObjOk.lt (x:ObjOk P w H h a o):a < h.objs.size:=by
 cases o with
 |lst xs=>obtain⟨_,_,_,_,e⟩:=x; exact Heap.lt_size e
 |tup xs=>obtain⟨_,_,_,o,e,_⟩:=x; exact Heap.lt_size e
 |dK kvs=>obtain⟨_,_,_,_,o,_,_,e,_⟩:=x; exact Heap.lt_size e
 |dT kvs=>obtain⟨_,_,_,_,o,_,_,e,_⟩:=x; exact Heap.lt_size e
 |dP kvs=>obtain⟨_,_,_,_,o,_,_,e,_⟩:=x; exact Heap.lt_size e
 |set S n=>obtain⟨o,_,_,_,e,_⟩:=x; exact Heap.lt_size e
 |ins C dx fs=>obtain⟨_,_,_,e,_⟩:=x; exact Heap.lt_size e
 |own y=>obtain⟨_,e⟩:=x; exact Heap.lt_size e
 |xd fs=>obtain⟨_,⟨_,_,_,e,_⟩,_⟩:=x; exact Heap.lt_size e
 |rng lo hi=>obtain⟨_,_,_,e⟩:=x; exact Heap.lt_size e
 |frz ob u=>obtain⟨e,_⟩:=x; exact Heap.lt_size e
 |tbl ps=>exact Heap.lt_size (show h.get? a=some _ from x)
 |met f y=>exact Heap.lt_size (show h.get? a=some _ from x)
 |ext φ=>obtain⟨_,⟨_,e⟩,_⟩:=x; exact Heap.lt_size e
theorem Paired.mapP {α β:Type}{F G:α->β->Prop}:∀{l₁:List α}{l₂:List β},Paired F l₁ l₂->(∀a b,F a b->G a b)->Paired G l₁ l₂
 |_,_,.nil,_=>.nil
 |_,_,.cons r t,f=>.cons (f _ _ r) (Paired.mapP t f)
theorem PKey.mono {kss:List (List Key)}{b:Addr}(x:PKey H kss b)(ht:∀b xs,H b=some (.tup xs)->H' b=some (.tup xs)):PKey H' kss b :=
 let ⟨bs,e,r⟩:=x; ⟨bs,ht _ _ e,Paired.mapP r fun _ _ z=>ht _ _ z⟩
theorem ObjOk.stay (x:ObjOk P w H h a o)(k:∀b u,(b=a\/H b=some (.own a))->h.get? b=some u->h'.get? b=some u)
  (ho:∀b,H b=some (.own a)->H' b=some (.own a)) (ht:∀b xs,H b=some (.tup xs)->H' b=some (.tup xs)):ObjOk P w H' h' a o:=by
 induction o with
 |lst xs=>obtain⟨z,its,n,r,e⟩:=x; exact⟨z,its,n,r,k _ _ (.inl rfl) e⟩
 |tup xs=>obtain⟨z,its,r,ob,e,c⟩:=x; exact⟨z,its,r,ob,k _ _ (.inl rfl) e,c⟩
 |dK kvs=>obtain⟨z,y,vs,r,ob,es,ep,e,c⟩:=x; exact⟨z,y,vs,r,ob,es,ep,k _ _ (.inl rfl) e,c⟩
 |dT kvs =>
  obtain⟨z,y,xs,r,ob,es,ep,e,c⟩:=x;exact⟨z,y,xs,Paired.mapP r fun p q z=>⟨z.1,ht _ _ z.2.1,z.2.2⟩,ob,es,ep,k _ _ (.inl rfl) e,c⟩
 |dP kvs =>
  obtain⟨z,y,xs,r,ob,es,ep,e,c⟩:=x;exact⟨z,y,xs,Paired.mapP r fun p q z=>⟨z.1,z.2.1.mono ht,z.2.2⟩,ob,es,ep,k _ _ (.inl rfl) e,c⟩
 |set S n=>obtain⟨ob,es,ep,t,e,c⟩:=x; exact⟨ob,es,ep,t,k _ _ (.inl rfl) e,c⟩
 |ins C dx fs =>
  obtain⟨d,z,ne,e,mA,⟨od,es,ep,e2,c⟩,r⟩:=x;exact⟨ho _ d,z,ne,k _ _ (.inl rfl) e,mA,⟨od,es,ep,k _ _ (.inr d) e2,c⟩,r⟩
 |own y=>obtain⟨ob,e⟩:=x; exact⟨ob,k _ _ (.inl rfl) e⟩
 |xd fs=>obtain⟨mA,⟨od,es,ep,e,c⟩,r⟩:=x; exact⟨mA,⟨od,es,ep,k _ _ (.inl rfl) e,c⟩,r⟩
 |rng lo hi=>obtain⟨t,u,v,e⟩:=x; exact⟨t,u,v,k _ _ (.inl rfl) e⟩
 |frz ob u ih=>obtain⟨e,q⟩:=x; exact⟨k _ _ (.inl rfl) e,ih q⟩
 |tbl ps =>
  have e:h.get? a=some { cls:=.none,data:=.fields ps }:=x;show h'.get? a=some { cls:=.none,data:=.fields ps };exact k a _ (.inl rfl) e
 |met f y =>
  have e:h.get? a=some (PySem.W.methodObj (.ref f) (.ref y)):=x;show h'.get? a=some (PySem.W.methodObj (.ref f) (.ref y));exact k a _ (.inl rfl) e
 |ext φ=>obtain⟨p,⟨o,e⟩,st⟩:=x; exact⟨st _ _ p fun o q=>k _ _ (.inl rfl) q,⟨o,k _ _ (.inl rfl) e⟩,st⟩
theorem HOk.lt (x:HOk P w H h)(e:H a=some o):a < h.objs.size:=(x a o e).lt
theorem HOk.fresh (x:HOk P w H h)(e:h.objs.size<=a):H a=none:=by
 cases q:H a with
 |none=>rfl
 |some u=>exact absurd (Nat.lt_of_lt_of_le (x.lt q) e) (Nat.lt_irrefl _)
theorem HOk.kept (x:HOk P w H h)(k:∀b u,h.get? b=some u->h'.get? b=some u):HOk P w H h':=fun a o e =>
 (x a o e).stay (fun b u _ q=>k b u q) (fun _ q=>q) fun _ _ q=>q
theorem HOk.laid (x:HOk P w H h)(k:∀b u,h.get? b=some u->h'.get? b=some u)(hp:h.objs.size<=a)(new:ObjOk P w (upd H a o) h' a o):HOk P w (upd H a o) h':=fun b u e=>by
 have hn:=x.fresh hp
 by_cases hb:b=a
 .subst hb; rw[gQ] at e; cases e; exact new
 .rw [cQ hb] at e
  exact(x b u e).stay (fun c v _ q=>k c v q) (fun c q=>by rw[cQ (aZ q hn)]; exact q) fun c xs q=>by rw[cQ (aZ q hn)]; exact q
end
def Rd (H:Hp)(a:Addr)(u:HO):Prop:=H a=some u\/∃o,H a=some (.frz o u)
theorem Rd.ok {P:Program}{w:World}{H:Hp}{h:Heap}{a:Addr}{u:HO}(r:Rd H a u)(x:HOk P w H h):ObjOk P w H h a u:=by
 rcases r with r | ⟨o,r⟩
 .exact x a u r
 .obtain ⟨_,q⟩:=x a _ r
  exact q
def Mut:Option HO->Prop
 |some (.lst _)=>True
 |some (.dK _)=>True
 |some (.dT _)=>True
 |some (.dP _)=>True
 |some (.set _ _)=>True
 |some (.ins _ _ _)=>True
 |some (.ext _)=>True
 |_=>False
section
variable {P:Program}{w:World}{H:Hp}{h h':Heap}{x e:Addr}{o':HO}
theorem HOk.write (ok:HOk P w H h)(mu:Mut (H x))(he:e=x\/H e=some (.own x))(k:∀b u,b≠e->h.get? b=some u->h'.get? b=some u)(heo:∃u,h'.get? e=some u)
  (new:ObjOk P w (upd H x o') h' x o'):HOk P w (upd H x o') h':=fun b u q=>by
 have nown:∀c y,H c=some (.own y)->c≠x:=fun c y r z=>by subst z; rw[r] at mu; exact mu
 have ntup:∀c xs,H c=some (.tup xs)->c≠x:=fun c xs r z=>by subst z; rw[r] at mu; exact mu
 by_cases hb:b=x
 .subst hb; rw[gQ] at q; cases q; exact new
 .rw [cQ hb] at q
  by_cases hbe:b=e
  .have q':H b=some (.own x):=by
    rcases he with z | z
    .exact absurd (hbe.trans z) hb
    .rw [hbe]; exact z
   rw[q] at q'; cases q'
   obtain⟨v,hv⟩:=heo;exact⟨v,by rw[hbe]; exact hv⟩
  .refine (ok b u q).stay (fun c v hc r=>k c v ?_ r) (fun c r=>by rw[cQ (nown c b r)]; exact r) fun c xs r=>by rw[cQ (ntup c xs r)]; exact r
   rcases hc with rfl | hc
   .exact hbe
   .rintro rfl
    rcases he with z | z
    .exact nown c b hc z
    .rw [hc] at z; cases z; exact hb rfl
end
structure Un (fs ex:List Addr)(H H':Hp)(h h':Heap):Prop where
 keep:∀b o,h.get? b=some o->H b=none->b∉fs->b∉ex->h'.get? b=some o
 slot:∀b o,h.get? b=some o->H b=none->b∈fs->b∉ex->∃sl,h'.get? b=some { o with slots:=sl }
 free:∀b o,h.get? b=some o->H b=none->b∉ex->H' b=none
 there:∀b o,h.get? b=some o->b∉ex->∃o',h'.get? b=some o'
 tups:∀b xs,H b=some (.tup xs)->H' b=some (.tup xs)
 frzs:∀b o u,H b=some (.frz o u)->H' b=some (.frz o u)
 tbls:∀b ps,H b=some (.tbl ps)->∃more,H' b=some (.tbl (ps++more))
section
variable {fs fs' ex ex':List Addr}{H H1 H2:Hp}{h h1 h2 h':Heap}{a x e:Addr}{o:HO}
theorem Un.any (u:Un fs ex H H1 h h1){b:Addr}{ob:Obj}(q:h.get? b=some ob)(n:H b=none)(hx:b∉ex):∃sl,h1.get? b=some { ob with slots:=sl }:=by
 by_cases hb:b∈fs
 .exact u.slot b ob q n hb hx
 .exact ⟨ob.slots,u.keep b ob q n hb hx⟩
theorem Un.kept (k:∀b u,h.get? b=some u->h'.get? b=some u):Un fs ex H H h h' :=
 ⟨fun b ob q _ _ _=>k b ob q,fun b ob q _ _ _=>⟨ob.slots,k b ob q⟩,fun _ _ _ n _=>n,fun b ob q _=>⟨ob,k b ob q⟩,fun _ _ q=>q,fun _ _ _ q=>q,fun _ ps q=>⟨#[],by rw[q]; simp⟩⟩
theorem Un.refl:Un fs ex H H h h:=Un.kept fun _ _ q=>q
theorem Un.laid (k:∀b u,h.get? b=some u->h'.get? b=some u)(hp:h.objs.size<=a)(hn:H a=none):Un fs ex H (upd H a o) h h' where
 keep:=fun b u q _ _ _=>k b u q
 slot:=fun b u q _ _ _=>⟨u.slots,k b u q⟩
 free:=fun b u q n _=>by rw[cQ (Nat.ne_of_lt (Nat.lt_of_lt_of_le (Heap.lt_size q) hp))]; exact n
 there:=fun b u q _=>⟨u,k b u q⟩
 tups:=fun b xs q=>by rw[cQ (aZ q hn)]; exact q
 frzs:=fun b u xs q=>by rw[cQ (aZ q hn)]; exact q
 tbls:=fun b ps q=>⟨#[],by rw[cQ (aZ q hn),q]; simp⟩
theorem Un.write (mu:Mut (H x))(he:e=x\/H e=some (.own x))(k:∀b u,b≠e->h.get? b=some u->h'.get? b=some u)(heo:∃u,h'.get? e=some u):Un fs ex H (upd H x o) h h':=by
 have hx:∀b,H b=none->b≠x:=fun b n z=>by subst z; rw[n] at mu; exact mu
 have hb:∀b,H b=none->b≠e:=fun b n z=>by
  subst z
  rcases he with r | r
  .exact hx b n r
  .rw [n] at r; cases r
 have hm:∀b u,H b=some u->¬ Mut (some u)->b≠x:=fun b u q nm z=>by subst z; rw[q] at mu; exact nm mu
 refine⟨fun b u q n _ _=>k b u (hb b n) q,fun b u q n _ _=>⟨u.slots,k b u (hb b n) q⟩,fun b u q n _=>by rw[cQ (hx b n)]; exact n,fun b u q _=>?_,
  fun b xs q=>by rw[cQ (hm b _ q fun z=>z)]; exact q,fun b u xs q=>by rw[cQ (hm b _ q fun z=>z)]; exact q,fun b ps q=>⟨#[],by rw[cQ (hm b _ q fun z=>z),q]; simp⟩⟩
 by_cases hbe:b=e
 .subst hbe; exact heo
 .exact ⟨u,k b u hbe q⟩
end
def trk (h:Heap)(H:Hp):List Addr:=(List.range h.objs.size).filter fun a=>(H a).isSome
def uR (h:Heap)(H:Hp):Heap:=PySem.W.hideAll h (trk h H)
theorem X3 (h:Heap)(H:Hp):(uR h H).objs.size=h.objs.size:=PySem.W.hideAll_size _ _
theorem Kg {h:Heap}{H:Hp}{b:Addr}{o:Obj}(e:h.get? b=some o)(n:H b=none):(uR h H).get? b=some o :=
 PySem.W.hideAll_get _ e fun hm=>by
  have q:(H b).isSome=true:=(List.mem_filter.mp hm).2;rw[n] at q; simp at q
theorem of_hidT {h:Heap}{H:Hp}{b:Addr}{o:Obj}(e:(uR h H).get? b=some o):h.get? b=some o/\H b=none:=by
 have e':h.get? b=some o:=PySem.W.of_hideAll (trk h H) e;refine⟨e',?_⟩
 cases q:H b with
 |none=>rfl
 |some x =>
  have hm:b∈trk h H:=List.mem_filter.mpr ⟨List.mem_range.mpr (Heap.lt_size e'),by simp[q]⟩;have z:(uR h H).get? b=none:=PySem.W.hideAll_none (trk h H) hm;rw[z] at e; cases e
def allNews (g h:Heap)(L:Addr):List (Addr×Obj):=(List.range h.objs.size).filterMap fun a=>if a=L\/(g.get? a).isSome=true then none else (h.get? a).map fun o=>(a,o)
def rest (g h:Heap)(L d:Addr):List (Addr×Obj):=(allNews g h L).filter fun p=>decide (p.1≠d)
structure Mod (K:PySem.W.Frag)(mg:Str->Option Value)(base:Heap):Prop where
 kin:K.In base
 glob:base.Ns mainGlobals mg
 blt:∃mb,base.Ns builtinsNs mb/\∀x:Str,x ≠ "__name__"->mb x=bootBuiltins x
 nolimit:base.NoLimit
structure Cx where
 prog:Program
 w:World
 K:PySem.W.Frag
 mg:Str->Option Value
 base:Heap
 A:Around
 N:List Str
 s₀:Shared
 H₀:Hp
 env:Env
 outer:List Env
 stack:List Env
 ex:List Addr
 fn:Str->Bool
 calm:Bool
 pn:List (Addr×Obj)
 xe:Value->Shared->Prop
def frs (l:List Env):List Addr:=l.filterMap (·.frame)
abbrev Cx.fs (X:Cx):List Addr:=frs X.outer
def Vis (sc:Scope)(x:Str):Prop:=sc.names.lookup x=some .local\/sc.names.lookup x=some .cell\/sc.names.lookup x=some .free
def Loc (sc:Scope)(x:Str):Prop:=sc.names.lookup x=some .local\/sc.names.lookup x=some .cell
def Look (env:Env)(h:Heap)(m:Str->Option Value)(x:Str)(u:Value):Prop :=
 (env.kindOf x=some .local/\m x=some u)\/((env.kindOf x=some .cell\/env.kindOf x=some .free)/\∃c,env.cells.lookup x=some c/\h.IsCell c (some u))
structure Cx.Ok (X:Cx):Prop where
 mod:Mod X.K X.mg X.base
 kind:X.env.scope.kind=.function
 glob:X.env.globals=mainGlobals
 blt:X.env.builtins=builtinsNs
 above:X.s₀.heap.objs.size<=X.env.locals
 inj:∀x y c,X.env.cells.lookup x=some c->X.env.cells.lookup y=some c->x=y
 has:∀x,(X.env.kindOf x=some .cell\/X.env.kindOf x=some .free)->∃c,X.env.cells.lookup x=some c
 cab:∀x c,X.fn x=true->X.env.cells.lookup x=some c->X.s₀.heap.objs.size<=c
 hd:X.calm=true->X.A.handled=none
 frames:X.A.frames=some X.stack
 stk:X.stack=X.outer\/(X.stack=X.env::X.outer/\X.env.frame=some X.env.locals)
 exf:∀b∈X.ex,b≠X.env.locals/\∀x c,X.env.cells.lookup x=some c->c≠b
 bs:∀b o,X.base.get? b=some o->X.s₀.heap.get? b=some o/\X.H₀ b=none
 bsz:X.base.objs.size<=X.s₀.heap.objs.size
 noex:∀b o,X.base.get? b=some o->b∉X.ex
 exfs:∀b∈X.ex,b∉X.fs
 funs:X.s₀.heap.FunFrames X.base X.outer
 frf:∀b∈X.fs,X.H₀ b=none
structure Inv (X:Cx)(pins:List (Addr×Obj))(σ:List (Option V))(H:Hp)(s:Shared):Prop where
 ok:X.Ok
 os:s.os=X.s₀.os
 bare:AllBare s.gens
 base:Un X.fs X.ex X.H₀ H X.s₀.heap s.heap
 loc:∃m,s.heap.Ns X.env.locals m/\∀(i:Nat) (x:Str) (v:V),X.N[i]?=some x->σ[i]?=some (some v)->Vis X.env.scope x->∃u,RelV v u/\Look X.env s.heap m x u
 cell:∀x c,X.env.cells.lookup x=some c->∃v,s.heap.IsCell c v
 free:H X.env.locals=none
 freeC:∀x c,X.env.cells.lookup x=some c->H c=none
 pin:∀p∈X.pn++pins,s.heap.get? p.1=some p.2/\H p.1=none/\p.1≠X.env.locals/\p.1∉X.fs/\∀v,p.2.data≠.cell v
 hok:HOk X.prog X.w H s.heap
 len:σ.length=X.N.length
section
variable {X:Cx}{pins:List (Addr×Obj)}{σ:List (Option V)}{H H':Hp}{s:Shared}{h':Heap}
theorem Cx.Ok.nofr (ok:X.Ok){b:Addr}{o:Obj}(e:X.base.get? b=some o):b∉X.fs:=fun hb=>by
 have:=(ok.funs.mem hb).1;rw[e] at this; cases this
theorem Inv.bs (I:Inv X pins σ H s):∀b o,X.base.get? b=some o->s.heap.get? b=some o/\H b=none:=fun b o e =>
 ⟨I.base.keep b o (I.ok.bs b o e).1 (I.ok.bs b o e).2 (I.ok.nofr e) (I.ok.noex b o e),I.base.free b o (I.ok.bs b o e).1 (I.ok.bs b o e).2 (I.ok.noex b o e)⟩
theorem Inv.bk (I:Inv X pins σ H s):∀b o,X.base.get? b=some o->s.heap.get? b=some o:=fun b o e=>(I.bs b o e).1
theorem Inv.mod (I:Inv X pins σ H s):Mod X.K X.mg X.base:=I.ok.mod
theorem Inv.kIn (I:Inv X pins σ H s):X.K.In s.heap:=I.ok.mod.kin.keeps I.bk
theorem Inv.fr (I:Inv X pins σ H s):∃m,Fr X.base X.env.locals s.heap m :=
 let ⟨m,hn,_⟩:=I.loc
 ⟨m,hn,I.bk,Nat.le_trans I.ok.bsz I.ok.above⟩
theorem Inv.lt (I:Inv X pins σ H s):X.env.locals < s.heap.objs.size:=let ⟨_,hn,_⟩:=I.loc; hn.lt
theorem Inv.sz (I:Inv X pins σ H s):X.s₀.heap.objs.size<=s.heap.objs.size:=Nat.le_trans I.ok.above (Nat.le_of_lt I.lt)
theorem Inv.nofs (I:Inv X pins σ H s){a:Addr}(h:s.heap.objs.size<=a):a∉X.fs:=fun hb=>by
 obtain⟨_,o,ho,_⟩:=I.ok.funs.mem hb;exact absurd (Nat.lt_of_lt_of_le (Heap.lt_size ho) (Nat.le_trans I.sz h)) (Nat.lt_irrefl _)
theorem Inv.cne (I:Inv X pins σ H s):∀x c,X.env.cells.lookup x=some c->c≠X.env.locals:=fun x c e z=>by
 obtain⟨v,o,ho,hd⟩:=I.cell x c e;obtain⟨m,⟨o',es,ep,ho',hd',_⟩,_⟩:=I.loc;rw[z,ho'] at ho; cases ho; rw[hd'] at hd; cases hd
theorem Inv.funs (I:Inv X pins σ H s):s.heap.FunFrames X.base X.outer:=by
 have all:∀(l:List Env),(∀b∈frs l,b∈X.fs)->X.s₀.heap.FunFrames X.base l->s.heap.FunFrames X.base l:=by
  intro l
  induction l with
  |nil=>intro _ _; trivial
  |cons env r ih =>
   intro hs hl;obtain⟨hk,⟨L,o,hf,hn,ho,hd⟩,hr⟩:=hl;have hL:L∈X.fs:=hs L (by unfold frs; rw[List.filterMap_cons,hf]; exact List.mem_cons_self);obtain⟨sl,e⟩:=I.base.slot L o ho (I.ok.frf L hL) hL fun z=>I.ok.exfs L z hL;exact⟨hk,⟨L,_,hf,hn,e,hd⟩,ih (fun b hb=>hs b (by unfold frs; rw[List.filterMap_cons,hf]; exact List.mem_cons_of_mem _ hb)) hr⟩
 exact all X.outer (fun _ hb=>hb) I.ok.funs
theorem Inv.stack (I:Inv X pins σ H s):s.heap.FunFrames X.base X.stack:=by
 rcases I.ok.stk with e | ⟨e,hf⟩
 .rw [e]; exact I.funs
 .rw [e]
  obtain⟨m,hn,_⟩:=I.loc;refine .cons (by rw[I.ok.kind]; decide) hf hn ?_ I.funs;exact Heap.get?_none_of_le (Nat.le_trans I.ok.bsz I.ok.above)
theorem Inv.stkSub (I:Inv X pins σ H s):∀b∈frs X.stack,b∈X.env.locals::X.fs:=fun b hb=>by
 rcases I.ok.stk with e | ⟨e,hf⟩
 .rw [e] at hb; exact List.mem_cons_of_mem _ hb
 .rw [e] at hb
  unfold frs at hb;rw[List.filterMap_cons,hf] at hb;exact hb
theorem Inv.stkFree (I:Inv X pins σ H s):∀b∈frs X.stack,H b=none:=fun b hb=>by
 rcases List.mem_cons.mp (I.stkSub b hb) with e | hb
 .rw [e]; exact I.free
 .obtain ⟨_,o,ho,_⟩:=I.ok.funs.mem hb
  exact I.base.free b o ho (I.ok.frf b hb) fun z=>I.ok.exfs b z hb
theorem Inv.step {g':Array GenState}{t':Nat}{d':Drawn}{ch:List Addr}(I:Inv X pins σ H s)
  (hch:∀b∈ch,(b∈X.ex\/X.s₀.heap.objs.size<=b)/\b≠X.env.locals/\(∀x c,X.env.cells.lookup x=some c->c≠b)/\∀p∈X.pn++pins,p.1≠b)
  (keep:∀b o,b≠X.env.locals->b∉X.fs->b∉ch->s.heap.get? b=some o->H b=none->h'.get? b=some o)
  (slot:∀b o,b≠X.env.locals->b∈X.fs->b∉ch->s.heap.get? b=some o->H b=none->∃sl,h'.get? b=some { o with slots:=sl }) (free:∀b o,b∉ch->s.heap.get? b=some o->H b=none->H' b=none)
  (there:∀b o,b∉ch->s.heap.get? b=some o->∃o',h'.get? b=some o')
  (tups:∀b xs,H b=some (.tup xs)->H' b=some (.tup xs)) (frzs:∀b o u,H b=some (.frz o u)->H' b=some (.frz o u)) (tbls:∀b ps,H b=some (.tbl ps)->∃more,H' b=some (.tbl (ps++more)))
  (ns:∀m,s.heap.Ns X.env.locals m->h'.Ns X.env.locals m) (hok:HOk X.prog X.w H' h') (hg:AllBare g') :
  Inv X pins σ H' { s with heap:=h',gens:=g',drawn:=d',toks:=t' }:=by
 have neL:∀b o,X.s₀.heap.get? b=some o->b≠X.env.locals:=fun b o e=>Nat.ne_of_lt (Nat.lt_of_lt_of_le (Heap.lt_size e) I.ok.above)
 have neC:∀b o,X.s₀.heap.get? b=some o->b∉X.ex->b∉ch:=fun b o e hx hb=>by
  rcases(hch b hb).1 with z | z
  .exact hx z
  .exact absurd (Nat.lt_of_lt_of_le (Heap.lt_size e) z) (Nat.lt_irrefl _)
 have cellK:∀x c,X.env.cells.lookup x=some c->∀v,s.heap.IsCell c v->h'.IsCell c v:=fun x c e v ⟨o,ho,hd⟩=>by
  have nch:c∉ch:=fun z=>(hch c z).2.2.1 x c e rfl
  by_cases hc:c∈X.fs
  .obtain ⟨sl,q⟩:=slot c o (I.cne x c e) hc nch ho (I.freeC x c e)
   exact⟨_,q,hd⟩
  .exact ⟨o,keep c o (I.cne x c e) hc nch ho (I.freeC x c e),hd⟩
 refine⟨I.ok,I.os,hg,⟨fun b o e n hb hx=>?_,fun b o e n hb hx=>?_,fun b o e n hx=>?_,fun b o e hx=>?_,fun b xs e=>tups b xs (I.base.tups b xs e),fun b o xs e=>frzs b o xs (I.base.frzs b o xs e),fun b ps e=>?_⟩,?_,fun x c e=>?_,?_,fun x c e=>?_,fun p hp=>?_,hok,I.len⟩
 .exact keep b o (neL b o e) hb (neC b o e hx) (I.base.keep b o e n hb hx) (I.base.free b o e n hx)
 .obtain ⟨sl,e1⟩:=I.base.slot b o e n hb hx
  obtain⟨sl',e2⟩:=slot b _ (neL b o e) hb (neC b o e hx) e1 (I.base.free b o e n hx);exact⟨sl',e2⟩
 .obtain ⟨o',e1⟩:=I.base.there b o e hx
  exact free b o' (neC b o e hx) e1 (I.base.free b o e n hx)
 .obtain ⟨o',e1⟩:=I.base.there b o e hx
  exact there b o' (neC b o e hx) e1
 .obtain ⟨m1,e1⟩:=I.base.tbls b ps e
  obtain⟨m2,e2⟩:=tbls b _ e1;exact⟨m1++m2,by rw[e2,Array.append_assoc]⟩
 .obtain ⟨m,hn,hl⟩:=I.loc
  refine⟨m,ns m hn,fun i x v e1 e2 e3=>?_⟩;obtain⟨u,r,l⟩:=hl i x v e1 e2 e3;refine⟨u,r,?_⟩
  rcases l with l | ⟨k,c,e,z⟩
  .exact .inl l
  .exact .inr ⟨k,c,e,cellK x c e _ z⟩
 .obtain ⟨v,z⟩:=I.cell x c e
  exact⟨v,cellK x c e v z⟩
 .obtain ⟨m,⟨o,_,_,ho,_⟩,_⟩:=I.loc
  exact free _ o (fun z=>(hch _ z).2.1 rfl) ho I.free
 .obtain ⟨v,o,ho,hd⟩:=I.cell x c e
  exact free c o (fun z=>(hch c z).2.2.1 x c e rfl) ho (I.freeC x c e)
 .obtain ⟨e,n,ne,nf,d⟩:=I.pin p hp
  have nch:p.1∉ch:=fun z=>(hch p.1 z).2.2.2 p hp rfl;exact⟨keep p.1 p.2 ne nf nch e n,free p.1 p.2 nch e n,ne,nf,d⟩
theorem Inv.un {t':Nat}(I:Inv X pins σ H s)(u:Un X.fs [] H H' s.heap h')(hok:HOk X.prog X.w H' h'):Inv X pins σ H' { s with heap:=h',toks:=t' }:=by
 obtain⟨m,⟨o,es,ep,ho,r⟩,_⟩:=id I.loc;obtain⟨sl,hL⟩:=u.any ho I.free (by simp)
 exact I.step (g':=s.gens) (d':=s.drawn) (ch:=[]) (fun _ z=>nomatch z) (fun b o _ hb _ e n=>u.keep b o e n hb (by simp)) (fun b o _ hb _ e n=>u.slot b o e n hb (by simp)) (fun b o _ e n=>u.free b o e n (by simp)) (fun b o _ e=>u.there b o e (by simp)) u.tups u.frzs u.tbls (fun m' hm=>by
  obtain⟨o',es',ep',ho',r'⟩:=hm;rw[ho] at ho'; cases ho'
  exact⟨_,es',ep',hL,r'⟩) hok I.bare
theorem Inv.call {g':Array GenState}{t':Nat}{d':Drawn}{ch:List Addr}(I:Inv X pins σ H s)(u:Un (frs X.stack) ch H H' s.heap h')(hok:HOk X.prog X.w H' h')(hg:AllBare g')
  (hch:∀b∈ch,(b∈X.ex\/X.s₀.heap.objs.size<=b)/\b≠X.env.locals/\(∀x c,X.env.cells.lookup x=some c->c≠b)/\∀p∈X.pn++pins,p.1≠b) :
  Inv X pins σ H' { s with heap:=h',gens:=g',drawn:=d',toks:=t' }:=by
 obtain⟨m,⟨o,es,ep,ho,r⟩,_⟩:=id I.loc;obtain⟨sl,hL⟩:=u.any ho I.free fun z=>(hch _ z).2.1 rfl
 exact I.step (ch:=ch) hch (fun b o hL hb hc e n=>u.keep b o e n (fun z=>(List.mem_cons.mp (I.stkSub b z)).elim hL hb) hc) (fun b o _ _ hc e n=>u.any e n hc) (fun b o hc e n=>u.free b o e n hc) (fun b o hc e=>u.there b o e hc) u.tups u.frzs u.tbls (fun m' hm=>by
  obtain⟨o',es',ep',ho',r'⟩:=hm;rw[ho] at ho'; cases ho'
  exact⟨_,es',ep',hL,r'⟩) hok hg
theorem Inv.turned {t':Nat}{it:Addr}(I:Inv X pins σ H s)(k:∀b o,b≠it->s.heap.get? b=some o->h'.get? b=some o)(hn:H it=none)(hL:it≠X.env.locals)
  (h1:it∈X.ex\/X.s₀.heap.objs.size<=it) (h2:∀x c,X.env.cells.lookup x=some c->c≠it) (h3:∀p∈X.pn++pins,p.1≠it):Inv X pins σ H { s with heap:=h',toks:=t' }:=by
 have nit:∀b u,H b=some u->b≠it:=fun b u e z=>by rw[z,hn] at e; cases e
 refine I.step (g':=s.gens) (d':=s.drawn) (ch:=[it]) (fun b hb=>?_) (fun b o _ _ hc e _=>k b o (fun z=>hc (by simp[z])) e) (fun b o _ _ hc e _=>⟨o.slots,k b o (fun z=>hc (by simp[z])) e⟩) (fun _ _ _ _ n=>n)
  (fun b o hc e=>⟨o,k b o (fun z=>hc (by simp[z])) e⟩) (fun _ _ e=>e) (fun _ _ _ e=>e) (fun b ps e=>⟨#[],by rw[e]; simp⟩) (fun m hm=>?_) (fun b u e=>?_) I.bare
 .have e:b=it:=by simpa using hb
  subst e;exact⟨h1,hL,h2,h3⟩
 .obtain ⟨o,es,ep,ho,r⟩:=hm
  exact⟨o,es,ep,k _ o (Ne.symm hL) ho,r⟩
 .refine (I.hok b u e).stay (fun c v hc q=>k c v ?_ q) (fun _ q=>q) fun _ _ q=>q
  rcases hc with z | z
  .rw [z]; exact nit b u e
  .exact nit c _ z
theorem Inv.tok (I:Inv X pins σ H s)(t:Nat):Inv X pins σ H { s with toks:=t }:=I.un (h':=s.heap) (t':=t) Un.refl I.hok
theorem Inv.kept {t':Nat}(I:Inv X pins σ H s)(k:∀b u,s.heap.get? b=some u->h'.get? b=some u):Inv X pins σ H { s with heap:=h',toks:=t' }:=I.un (Un.kept k) (I.hok.kept k)
theorem Inv.laid {a:Addr}{o:HO}{t':Nat}(I:Inv X pins σ H s)(k:∀b u,s.heap.get? b=some u->h'.get? b=some u)(hp:s.heap.objs.size<=a)(new:ObjOk X.prog X.w (upd H a o) h' a o):
  Inv X pins σ (upd H a o) { s with heap:=h',toks:=t' }:=I.un (Un.laid k hp (I.hok.fresh hp)) (I.hok.laid k hp new)
theorem Inv.write {x e:Addr}{o:HO}{t':Nat}(I:Inv X pins σ H s)(mu:Mut (H x))(he:e=x\/H e=some (.own x))(k:∀b u,b≠e->s.heap.get? b=some u->h'.get? b=some u)(heo:∃u,h'.get? e=some u)
  (new:ObjOk X.prog X.w (upd H x o) h' x o):Inv X pins σ (upd H x o) { s with heap:=h',toks:=t' }:=I.un (Un.write mu he k heo) (I.hok.write mu he k heo new)
theorem Inv.weak {σ':List (Option V)}(I:Inv X pins σ H s)(hl:σ'.length=σ.length)(w:∀(i:Nat) v,σ'[i]?=some (some v)->σ[i]?=some (some v)):Inv X pins σ' H s :=
 ⟨I.ok,I.os,I.bare,I.base,let ⟨m,hn,hl'⟩:=I.loc; ⟨m,hn,fun i x v e1 e2 e3=>hl' i x v e1 (w i v e2) e3⟩,I.cell,I.free,I.freeC,I.pin,I.hok,hl.trans I.len⟩
theorem Inv.pins_of {pins':List (Addr×Obj)}(I:Inv X pins σ H s)(h:∀p∈pins',s.heap.get? p.1=some p.2/\H p.1=none/\p.1≠X.env.locals/\p.1∉X.fs/\∀v,p.2.data≠.cell v):Inv X pins' σ H s :=
 ⟨I.ok,I.os,I.bare,I.base,I.loc,I.cell,I.free,I.freeC,fun p hp=>(List.mem_append.mp hp).elim (fun z=>I.pin p (List.mem_append_left _ z)) (h p),I.hok,I.len⟩
theorem xO {N:List Str}(hN:N.Nodup){i j:Nat}{x:Str}(a:N[i]?=some x)(b:N[j]?=some x):i=j:=by
 obtain⟨h1,e1⟩:=List.getElem?_eq_some_iff.mp a;obtain⟨h2,e2⟩:=List.getElem?_eq_some_iff.mp b;exact(List.getElem_inj hN).mp (e1.trans e2.symm)
theorem vN {M:Model}{A:Around}{E:Value->Shared->Prop}{i:Nat}{x:Str}{v:V}{u:Value}{Q:Unit->Shared->Prop}(I:Inv X pins σ H s)(hN:X.N.Nodup)(hi:X.N[i]?=some x)(hx:Loc X.env.scope x)(r:RelV v u)
  (h:∀s',Inv X pins (σ.set i (some v)) H s'->(∃a,Heap.SameBut a s.heap s'.heap/\(a=X.env.locals\/X.env.cells.lookup x=some a))->Q () s') (hf:X.fn x=true\/X.env.scope.names.lookup x=some .local:=by first | exact .inl rfl | exact .inr rfl | assumption):wpAny M A (storeName X.env x u) Q E s:=by
 obtain⟨m,hn,hl⟩:=id I.loc;have hcls:(X.env.scope.kind==.class || (X.env.scope.kind==.module&&X.env.locals != X.env.globals))=false:=by rw[I.ok.kind]; rfl
 have hiσ:i < σ.length:=by rw[I.len]; exact(List.getElem?_eq_some_iff.mp hi).1
 have cne:=I.cne
 have tracked:∀{a:Addr} {h':Heap},(∃o,s.heap.get? a=some o/\H a=none)->Heap.SameBut a s.heap h'->HOk X.prog X.w H h':=fun {a h'} ha hs b ob e=>by
  obtain⟨_,_,hfree⟩:=ha;refine(I.hok b ob e).stay (fun c w' hc q=>(hs.2 c ?_).trans q) (fun _ q=>q) fun _ _ q=>q;rintro rfl
  rcases hc with rfl | hc
  .rw [hfree] at e; cases e
  .rw [hfree] at hc; cases hc
 rcases hx with hk | hk
 .refine wpAny_storeName_local hk hn (fun h' hn' hs=>?_) hcls
  obtain⟨oL,_,_,hoL,_⟩:=id hn;refine h _ ⟨I.ok,I.os,I.bare,⟨fun b o e n hb hx=>?_,fun b o e n hb hx=>?_,I.base.free,fun b o e hx=>?_,I.base.tups,I.base.frzs,I.base.tbls⟩,⟨_,hn',fun j y v' e1 e2 e3=>?_⟩,fun y c e=>?_,I.free,I.freeC,fun p hp=>?_,tracked ⟨oL,hoL,I.free⟩ hs,by simpa using I.len⟩ ⟨_,hs,.inl rfl⟩
  .exact (hs.2 b (Nat.ne_of_lt (Nat.lt_of_lt_of_le (Heap.lt_size e) I.ok.above))).trans (I.base.keep b o e n hb hx)
  .obtain ⟨sl,e1⟩:=I.base.slot b o e n hb hx
   exact⟨sl,(hs.2 b (Nat.ne_of_lt (Nat.lt_of_lt_of_le (Heap.lt_size e) I.ok.above))).trans e1⟩
  .obtain ⟨o',e1⟩:=I.base.there b o e hx
   exact⟨o',(hs.2 b (Nat.ne_of_lt (Nat.lt_of_lt_of_le (Heap.lt_size e) I.ok.above))).trans e1⟩
  .by_cases hj:j=i
   .subst hj
    rw[hi] at e1; cases e1
    rw[List.getElem?_set_self hiσ] at e2;cases e2;exact⟨u,r,.inl ⟨hk,by simp⟩⟩
   .rw [List.getElem?_set_ne (Ne.symm hj)] at e2
    obtain⟨u',r',q⟩:=hl j y v' e1 e2 e3;refine⟨u',r',?_⟩
    rcases q with ⟨k,e⟩ | ⟨k,c,e,z⟩
    .refine .inl ⟨k,?_⟩
     have:y≠x:=fun e=>hj (xO hN e1 (e▸hi))
     simp[this,e]
    .exact .inr ⟨k,c,e,z.sameBut hs (cne y c e)⟩
  .obtain ⟨w',z⟩:=I.cell y c e
   exact⟨w',z.sameBut hs (cne y c e)⟩
  .obtain ⟨e,n,ne,nf,d⟩:=I.pin p hp
   exact⟨(hs.2 p.1 ne).trans e,n,ne,nf,d⟩
 .have hfn:X.fn x=true:=by
   rcases hf with z | z
   .exact z
   .rw [z] at hk; cases hk
  obtain⟨c,hc⟩:=I.ok.has x (.inl hk);obtain⟨w',z⟩:=I.cell x c hc;refine wpAny_storeName_cell I.ok.kind hk hc z (fun h' hc' hs=>?_);obtain⟨oc,hoc,hocd⟩:=id z;refine h { s with heap:=h' } ⟨I.ok,I.os,I.bare,⟨fun b o e n hb hx=>?_,fun b o e n hb hx=>?_,I.base.free,fun b o e hx=>?_,I.base.tups,I.base.frzs,I.base.tbls⟩,⟨m,hn.sameBut hs (Ne.symm (cne x c hc)),fun j y v' e1 e2 e3=>?_⟩,fun y c' e=>?_,I.free,I.freeC,fun p hp=>?_,tracked ⟨oc,hoc,I.freeC x c hc⟩ hs,by simpa using I.len⟩ ⟨c,hs,.inr hc⟩
  .exact (hs.2 b (Nat.ne_of_lt (Nat.lt_of_lt_of_le (Heap.lt_size e) (I.ok.cab x c hfn hc)))).trans (I.base.keep b o e n hb hx)
  .obtain ⟨sl,e1⟩:=I.base.slot b o e n hb hx
   exact⟨sl,(hs.2 b (Nat.ne_of_lt (Nat.lt_of_lt_of_le (Heap.lt_size e) (I.ok.cab x c hfn hc)))).trans e1⟩
  .obtain ⟨o',e1⟩:=I.base.there b o e hx
   exact⟨o',(hs.2 b (Nat.ne_of_lt (Nat.lt_of_lt_of_le (Heap.lt_size e) (I.ok.cab x c hfn hc)))).trans e1⟩
  .by_cases hj:j=i
   .subst hj
    rw[hi] at e1; cases e1
    rw[List.getElem?_set_self hiσ] at e2;cases e2;exact⟨u,r,.inr ⟨.inl hk,c,hc,hc'⟩⟩
   .rw [List.getElem?_set_ne (Ne.symm hj)] at e2
    obtain⟨u',r',q⟩:=hl j y v' e1 e2 e3;refine⟨u',r',?_⟩
    rcases q with q | ⟨k,c',e,z'⟩
    .exact .inl q
    .refine .inr ⟨k,c',e,z'.sameBut hs ?_⟩
     rintro rfl;exact hj (xO hN e1 (I.ok.inj _ _ _ e hc▸hi))
  .by_cases hcc:c'=c
   .subst hcc; exact⟨_,hc'⟩
   .obtain ⟨w2,z2⟩:=I.cell y c' e
    exact⟨w2,z2.sameBut hs hcc⟩
  .obtain ⟨e,n,ne,nf,d⟩:=I.pin p hp
   refine⟨(hs.2 p.1 ?_).trans e,n,ne,nf,d⟩;intro q;rw[q,hoc] at e;have q':oc=p.2:=Option.some.inj e;exact d w' (by rw[<- q']; exact hocd)
theorem tS {M:Model}{A:Around}{E:Value->Shared->Prop}{i:Nat}{x:Str}{v:V}{u:Value}{Q:Unit->Shared->Prop}(I:Inv X pins σ H s)(hN:X.N.Nodup)(hi:X.N[i]?=some x)(hx:Loc X.env.scope x)(r:RelV v u)
  (h:∀s',Inv X pins (σ.set i (some v)) H s'->Q () s') (hf:X.fn x=true\/X.env.scope.names.lookup x=some .local:=by first | exact .inl rfl | exact .inr rfl | assumption):wpAny M A (storeName X.env x u) Q E s :=
 vN I hN hi hx r (fun s' I' _=>h s' I') hf
end
abbrev XK:=Value->Option Addr->Hp->Prop
abbrev St:=List (Option V)
abbrev VK:=V->Hp->Prop
abbrev TE:=St->Hp->VK->Prop
abbrev TT:=St->Hp->(Bool->Hp->Prop)->Prop
abbrev TA:=St->Hp->(List V->Hp->Prop)->Prop
structure oE where
 nx:St->Hp->Prop
 rt:VK
 bk:St->Hp->Prop:=fun _ _=>False
 ct:St->Hp->Prop:=fun _ _=>False
abbrev TS:=oE->St->Hp->Prop
def EP (X:Cx)(pins:List (Addr×Obj))(σ:St)(Q:VK)(u:Value)(s':Shared):Prop:=∃v H',Inv X pins σ H' s'/\RelV v u/\Q v H'
def TP (X:Cx)(pins:List (Addr×Obj))(σ:St)(Q:Bool->Hp->Prop)(b:Bool)(s':Shared):Prop:=∃H',Inv X pins σ H' s'/\Q b H'
def AP (X:Cx)(pins:List (Addr×Obj))(σ:St)(Q:List V->Hp->Prop)(us:List Value)(s':Shared):Prop:=∃vs H',Inv X pins σ H' s'/\Vals vs us/\Q vs H'
def SP (X:Cx)(pins:List (Addr×Obj))(D:oE)(f:Flow)(s':Shared):Prop :=
 match f with
 |.next=>∃σ' H',Inv X pins σ' H' s'/\D.nx σ' H'
 |.brk=>∃σ' H',Inv X pins σ' H' s'/\D.bk σ' H'
 |.cont=>∃σ' H',Inv X pins σ' H' s'/\D.ct σ' H'
 |.ret u=>∃v σ' H',Inv X pins σ' H' s'/\RelV v u/\D.rt v H'
def PE (X:Cx)(e:Expr)(t:TE):Prop :=
 ∀(pins:List (Addr×Obj)) (s:Shared) (σ:St) (H:Hp) (Q:VK),Inv X pins σ H s->t σ H Q->wpAny (model X.prog X.w) X.A (eval e X.env) (EP X pins σ Q) X.xe s
def PT (X:Cx)(e:Expr)(t:TT):Prop :=
 ∀(pins:List (Addr×Obj)) (s:Shared) (σ:St) (H:Hp) (Q:Bool->Hp->Prop),Inv X pins σ H s->t σ H Q->wpAny (model X.prog X.w) X.A (isTrue e X.env (eval e X.env)) (TP X pins σ Q) X.xe s
def PW (X:Cx)(e:Expr)(t:TT):Prop :=
 ∀(whole:Sem Value) (pins:List (Addr×Obj)) (s:Shared) (σ:St) (H:Hp) (Q:Bool->Hp->Prop),Inv X pins σ H s->t σ H Q->wpAny (model X.prog X.w) X.A (isTrue e X.env whole) (TP X pins σ Q) X.xe s
theorem PW.pt {X:Cx}{e:Expr}{t:TT}(h:PW X e t):PT X e t:=h _
def PA (X:Cx)(es:List Expr)(t:TA):Prop :=
 ∀(pos:Pos) (pins:List (Addr×Obj)) (s:Shared) (σ:St) (H:Hp) (Q:List V->Hp->Prop),Inv X pins σ H s->t σ H Q->wpAny (model X.prog X.w) X.A (spliced (backTo pos (starEach es X.env))) (AP X pins σ Q) X.xe s
def PS (X:Cx)(st:Stmt)(t:TS):Prop :=
 ∀(pins:List (Addr×Obj)) (s:Shared) (σ:St) (H:Hp) (D:oE),Inv X pins σ H s->t D σ H->wpAny (model X.prog X.w) X.A (exec st X.env) (SP X pins D) X.xe s
def PSs (X:Cx)(st:List Stmt)(t:TS):Prop :=
 ∀(pins:List (Addr×Obj)) (s:Shared) (σ:St) (H:Hp) (D:oE),Inv X pins σ H s->t D σ H->wpAny (model X.prog X.w) X.A (execs st X.env) (SP X pins D) X.xe s
theorem thn {α:Type}{t:Sem α}{Q Q':α->Shared->Prop}{M:Model}{A:Around}{E:Value->Shared->Prop}{s:Shared}(h:wpAny M A t Q E s)(hQ:∀a s,Q a s->Q' a s):wpAny M A t Q' E s:=wpAny_mono h hQ fun _ _ x=>x
section
variable {X:Cx}
theorem bin {a b:Expr}{ta tb:TE}(ha:PE X a ta)(hb:PE X b tb){pins:List (Addr×Obj)}{s:Shared}{σ:St}{H:Hp}{R:V->V->Hp->Prop}(I:Inv X pins σ H s)(h:ta σ H fun x H1=>tb σ H1 fun y H2=>R x y H2)
  {α:Type} {Q:α->Shared->Prop} {f:Value->Value->Sem α}
  (hf:∀v u s2 x y H2,Inv X pins σ H2 s2->RelV x v->RelV y u->R x y H2->wpAny (model X.prog X.w) X.A (f v u) Q X.xe s2) :
  wpAny (model X.prog X.w) X.A (eval a X.env) (fun v s₁=>wpAny (model X.prog X.w) X.A (eval b X.env) (fun u s₂=>wpAny (model X.prog X.w) X.A (f v u) Q X.xe s₂) X.xe s₁) X.xe s:=by
 refine thn (ha pins s σ H _ I h) fun v s1 ⟨x,H1,I1,r1,q1⟩=>?_;refine thn (hb pins s1 σ H1 _ I1 q1) fun u s2 ⟨y,H2,I2,r2,q2⟩=>?_;exact hf v u s2 x y H2 I2 r1 r2 q2
inductive IVar (i:Nat)(σ:St)(H:Hp)(Q:VK):Prop
 |mk (v:V) (h:σ[i]?=some (some v)) (q:Q v H):IVar i σ H Q
def tVar (i:Nat):TE:=fun σ H Q=>IVar i σ H Q
def tC (v:V):TE:=fun _ H Q=>Q v H
theorem Z8 {i:Nat}{x:Str}{pos:Pos}(hN:X.N[i]?=some x)(hv:Vis X.env.scope x)(hd:(x==("__debug__" : Str))=false:=by decide)(hcd:(x==("__classdict__" : Str))=false:=by decide):PE X (.Name x pos) (tVar i):=by
 intro pins s σ H Q I h;obtain⟨v,e,h⟩:=h;obtain⟨m,hn,hl⟩:=I.loc;obtain⟨u,r,l⟩:=hl i x v hN e hv;have fin:EP X pins σ Q u s:=⟨v,H,I,r,h⟩
 rcases l with ⟨hk,hm⟩ | ⟨hk,c,hc,hcell⟩
 .exact wpAny_Name (wpAny_loadName_local I.ok.kind hk hn hm fin) hd
 .rcases hk with hk | hk
  .exact wpAny_Name (wpAny_loadName_cell I.ok.kind hk hc hcell fin) hd
  .exact wpAny_Name (wpAny_loadName_free I.ok.kind hk hc hcell fin hcd) hd
theorem pe_int {i j pos}:PE X (.Constant (.int i) j pos) (tC (.int i)):=fun _ _ _ H _ I h=>wpAny_Constant_int ⟨.int i,H,I.tok _,⟨_,rfl⟩,h⟩
theorem pe_bl {b j pos}:PE X (.Constant (.bool b) j pos) (tC (.bl b)):=fun _ _ _ H _ I h=>Constant_bool ⟨.bl b,H,I,rfl,h⟩
theorem pe_non {j pos}:PE X (.Constant .none j pos) (tC .non):=fun _ _ _ H _ I h=>Constant_none ⟨.non,H,I,rfl,h⟩
theorem pe_str {x j pos}:PE X (.Constant (.str x) j pos) (tC (.str x)):=fun _ _ _ H _ I h=>Calls.Constant_str ⟨.str x,H,I.tok _,⟨_,rfl⟩,h⟩
def Gl (X:Cx)(x:Str):Prop:=X.env.kindOf x=some .globalImplicit
theorem kR {E:Value->Shared->Prop}{pins:List (Addr×Obj)}{s:Shared}{σ:St}{H:Hp}{x:Str}{u:Value}{pos:Pos}{Q:Value->Shared->Prop}(I:Inv X pins σ H s)(hg:Gl X x)(hm:X.mg x=some u)(h:Q u s)
  (hd:(x==("__debug__" : Str))=false:=by decide):wpAny (model X.prog X.w) X.A (eval (.Name x pos) X.env) Q E s :=
 Calls.Name_function_global I.ok.kind hg (Calls.loadGlobal_global (by rw[I.ok.glob]; exact I.mod.glob.keeps I.bk) hm h) hd
theorem vR {E:Value->Shared->Prop}{pins:List (Addr×Obj)}{s:Shared}{σ:St}{H:Hp}{x:Str}{u:Value}{pos:Pos}{Q:Value->Shared->Prop}(I:Inv X pins σ H s)(hg:Gl X x)(hm:X.mg x=none)(hv:bootBuiltins x=some u)(h:Q u s)
  (hn:x ≠ "__name__":=by decide) (hd:(x==("__debug__" : Str))=false:=by decide):wpAny (model X.prog X.w) X.A (eval (.Name x pos) X.env) Q E s:=by
 obtain⟨mb,h1,h2⟩:=I.mod.blt;exact Calls.Name_function_global I.ok.kind hg (Calls.loadGlobal_builtin (by rw[I.ok.glob]; exact I.mod.glob.keeps I.bk) hm (by rw[I.ok.blt]; exact h1.keeps I.bk) ((h2 x hn).trans hv) h) hd
theorem pe_glob {x:Str}{v:V}{u:Value}{pos:Pos}(hg:Gl X x)(hm:X.mg x=some u)(r:RelV v u)(hd:(x==("__debug__" : Str))=false:=by decide):PE X (.Name x pos) (tC v) :=
 fun _ _ _ H _ I h=>kR I hg hm ⟨v,H,I,r,h⟩ hd
theorem pe_bltn {x:Str}{v:V}{u:Value}{pos:Pos}(hg:Gl X x)(hm:X.mg x=none)(hv:bootBuiltins x=some u)(r:RelV v u)(hn:x ≠ "__name__":=by decide)(hd:(x==("__debug__" : Str))=false:=by decide):PE X (.Name x pos) (tC v) :=
 fun _ _ _ H _ I h=>vR I hg hm hv ⟨v,H,I,r,h⟩ hn hd
variable {a b:Expr}{ta tb:TE}{pos:Pos}
inductive IBl (Q:Bool->Hp->Prop)(x:V)(H:Hp):Prop
 |mk (c:Bool) (h:x=.bl c) (q:Q c H):IBl Q x H
def tB (t:TE):TT:=fun σ H Q=>t σ H (IBl Q)
theorem pt_val {e:Expr}{t:TE}(h:PE X e t)(he:∀whole,isTrue e X.env whole=(do let v <- whole; standAt e.pos; holding [v] (truthy v)):=by intro _; rfl):PT X e (tB t):=by
 intro pins s σ H Q I hw;refine isTrue_plain (thn (h pins s σ H _ I hw) fun v s1 ⟨x,H1,I1,r1,q1⟩=>?_) (he _);obtain⟨d,rfl,q⟩:=q1;cases r1;exact wpAny_truthy_bool ⟨H1,I1,q⟩
variable {tA tB':TT}{rest:List Expr}
def tAnd (t u:TT):TT:=fun σ H Q=>t σ H fun c H1=>if c=true then u σ H1 Q else Q false H1
def tOr (t u:TT):TT:=fun σ H Q=>t σ H fun c H1=>if c=true then Q true H1 else u σ H1 Q
def tNot (t:TT):TT:=fun σ H Q=>t σ H fun c H1=>Q (!c) H1
theorem pw_and1 (ha:PT X a tA):PW X (.BoolOp .And [a] pos) tA:=by
 intro wh pins s σ H Q I h;refine isTrue_and (thn (ha pins s σ H Q I h) fun c s1 e=>?_)
 cases c with
 |true=>exact isTrue_and_nil e
 |false=>exact e
theorem pw_or1 (ha:PT X a tA):PW X (.BoolOp .Or [a] pos) tA:=by
 intro wh pins s σ H Q I h;refine isTrue_or (thn (ha pins s σ H Q I h) fun c s1 e=>?_)
 cases c with
 |false=>exact isTrue_or_nil e
 |true=>exact e
theorem pw_and (ha:PT X a tA)(hb:PW X (.BoolOp .And (b::rest) pos) tB'):PW X (.BoolOp .And (a::b::rest) pos) (tAnd tA tB'):=by
 intro wh pins s σ H Q I h;refine isTrue_and (thn (ha pins s σ H _ I h) fun c s1 ⟨H1,I1,q1⟩=>?_)
 cases c with
 |true=>exact hb wh pins s1 σ H1 Q I1 q1
 |false=>exact⟨H1,I1,q1⟩
theorem pw_or (ha:PT X a tA)(hb:PW X (.BoolOp .Or (b::rest) pos) tB'):PW X (.BoolOp .Or (a::b::rest) pos) (tOr tA tB'):=by
 intro wh pins s σ H Q I h;refine isTrue_or (thn (ha pins s σ H _ I h) fun c s1 ⟨H1,I1,q1⟩=>?_)
 cases c with
 |true=>exact⟨H1,I1,q1⟩
 |false=>exact hb wh pins s1 σ H1 Q I1 q1
theorem pt_not (ha:PT X a tA):PT X (.UnaryOp .Not a pos) (tNot tA):=by
 intro pins s σ H Q I h;exact isTrue_not (ha pins s σ H (fun c H1=>Q (!c) H1) I h)
def tAndV (ta tb:TE):TE:=fun σ H Q=>ta σ H fun x H1=>∃c,x=.bl c/\if c=true then tb σ H1 Q else Q (.bl false) H1
theorem pe_one {op}{t:TE}(h:PE X a t):PE X (.BoolOp op [a] pos) t:=fun pins s σ H Q I hw=>BoolOp_one (h pins s σ H Q I hw)
theorem pe_and (ha:PE X a ta)(hb:PE X (.BoolOp .And (b::rest) pos) tb):PE X (.BoolOp .And (a::b::rest) pos) (tAndV ta tb):=by
 intro pins s σ H Q I h;refine BoolOp_and (thn (ha pins s σ H _ I h) fun v s1 ⟨x,H1,I1,r1,q1⟩=>?_);obtain⟨c,rfl,q1⟩:=q1;cases r1;refine wpAny_truthy_bool ?_
 cases c with
 |true=>exact hb pins s1 σ H1 Q I1 q1
 |false=>exact⟨.bl false,H1,I1,rfl,q1⟩
def tIf (t:TT)(ta tb:TE):TE:=fun σ H Q=>t σ H fun c H1=>if c=true then ta σ H1 Q else tb σ H1 Q
theorem Jb {c:Expr}(hc:PT X c tA)(ha:PE X a ta)(hb:PE X b tb):PE X (.IfExp c a b pos) (tIf tA ta tb):=by
 intro pins s σ H Q I h;refine wpAny_IfExp (thn (hc pins s σ H _ I h) fun d s1 ⟨H1,I1,q1⟩=>?_)
 cases d with
 |true=>exact ha pins s1 σ H1 Q I1 q1
 |false=>exact hb pins s1 σ H1 Q I1 q1
end
def SqL (K:PySem.W.Frag)(H:Hp)(a:Addr)(xs:List V):Prop :=
 Rd H a (.lst xs) \/
  ∃(o:Obj) (its:Array Value) (n:Nat),K.lookup a=some o/\o.cls=.type "list"/\o.dict=none/\o.data=.seq its n/\its.size<=sizeLine/\Vals xs its.toList
def SqT (K:PySem.W.Frag)(H:Hp)(a:Addr)(xs:List V):Prop :=
 Rd H a (.tup xs) \/
  ∃(o:Obj) (its:Array Value) (n:Nat),K.lookup a=some o/\o.cls=.type "tuple"/\o.data=.seq its n/\its.size<=sizeLine/\Vals xs its.toList
def absV:Value->Option V
 |.none=>some .non
 |.bool b=>some (.bl b)
 |.int i _=>some (.int i)
 |.str x _=>some (.str x)
 |.bytes b _=>some (.byt b)
 |.float b _=>some (.flt b)
 |.ref a=>some (.ref a)
 |.type n=>some (.ty n)
 |_=>none
theorem RelV.abs {x:V}{u:Value}(r:RelV x u):absV u=some x:=by
 cases x with
 |non=>cases r; rfl
 |bl _=>cases r; rfl
 |int _=>obtain⟨t,rfl⟩:=r; rfl
 |str _=>obtain⟨t,rfl⟩:=r; rfl
 |byt _=>obtain⟨t,rfl⟩:=r; rfl
 |flt _=>obtain⟨t,rfl⟩:=r; rfl
 |ref _=>cases r; rfl
 |ty _=>cases r; rfl
theorem RelV.inj {x y:V}{u:Value}(r:RelV x u)(q:RelV y u):x=y:=Option.some.inj (r.abs.symm.trans q.abs)
theorem Vals.inj:∀{xs ys:List V}{us:List Value},Vals xs us->Vals ys us->xs=ys
 |_,_,_,.nil,.nil=>rfl
 |_,_,_,.cons r t,.cons r' t'=>by rw[r.inj r',Vals.inj t t']
section
variable {X:Cx}{pins:List (Addr×Obj)}{σ:St}{H:Hp}{s:Shared}{a:Addr}{xs ys:List V}
theorem SqL.of {K:PySem.W.Frag}(h:H a=some (.lst xs)):SqL K H a xs:=.inl (.inl h)
theorem SqT.of {K:PySem.W.Frag}(h:H a=some (.tup xs)):SqT K H a xs:=.inl (.inl h)
theorem Inv.list (I:Inv X pins σ H s)(h:SqL X.K H a xs):∃its:List Value,Vals xs its/\PlainL s.heap a its.toArray/\xs.length<=sizeLine:=by
 rcases h with h | ⟨o,its,n,hk,hc,hd,hs,hz,r⟩
 .obtain ⟨z,its,n,r,e⟩:=h.ok I.hok
  exact⟨its,r,⟨_,n,e,rfl,rfl,rfl⟩,z⟩
 .refine ⟨its.toList,r,⟨o,n,I.kIn a o hk,hc,hd,by simpa using hs⟩,?_⟩
  have e:=r.length
  simp only[Array.length_toList] at e
  omega
theorem Inv.tuple (I:Inv X pins σ H s)(h:SqT X.K H a xs):∃its:List Value,Vals xs its/\IsTup s.heap a its.toArray/\xs.length<=sizeLine:=by
 rcases h with h | ⟨o,its,n,hk,hc,hs,hz,r⟩
 .obtain ⟨z,its,r,p⟩:=h.ok I.hok
  exact⟨its,r,IsTupN.is p,z⟩
 .refine ⟨its.toList,r,⟨o,I.kIn a o hk,hc,n,by simpa using hs⟩,?_⟩
  have e:=r.length
  simp only[Array.length_toList] at e
  omega
theorem Inv.list_inj (I:Inv X pins σ H s)(h:SqL X.K H a xs)(h':SqL X.K H a ys):xs=ys:=by
 obtain⟨its,r,⟨o,n,e,_,_,d⟩,_⟩:=I.list h;obtain⟨its',r',⟨o',n',e',_,_,d'⟩,_⟩:=I.list h';rw[e] at e'; cases e'
 rw[d] at d';injection d' with d1 _
 have:its=its':=by simpa using congrArg Array.toList d1
 subst this;exact r.inj r'
theorem Inv.tuple_inj (I:Inv X pins σ H s)(h:SqT X.K H a xs)(h':SqT X.K H a ys):xs=ys:=by
 obtain⟨its,r,⟨o,e,_,n,d⟩,_⟩:=I.tuple h;obtain⟨its',r',⟨o',e',_,n',d'⟩,_⟩:=I.tuple h';rw[e] at e'; cases e'
 rw[d] at d';injection d' with d1 _
 have:its=its':=by simpa using congrArg Array.toList d1
 subst this;exact r.inj r'
end
abbrev Cx.wish (X:Cx)(E:Value->Shared->Prop):Cx:={ X with xe:=E }
abbrev Cx.nox (X:Cx):Cx:=X.wish fun _ _=>False
theorem Cx.Ok.wish {X:Cx}(ok:X.Ok)(E:Value->Shared->Prop):(X.wish E).Ok :=
 ⟨ok.mod,ok.kind,ok.glob,ok.blt,ok.above,ok.inj,ok.has,ok.cab,ok.hd,ok.frames,ok.stk,ok.exf,ok.bs,ok.bsz,ok.noex,ok.exfs,ok.funs,ok.frf⟩
theorem Cx.Ok.unwish {X:Cx}{E:Value->Shared->Prop}(ok:(X.wish E).Ok):X.Ok :=
 ⟨ok.mod,ok.kind,ok.glob,ok.blt,ok.above,ok.inj,ok.has,ok.cab,ok.hd,ok.frames,ok.stk,ok.exf,ok.bs,ok.bsz,ok.noex,ok.exfs,ok.funs,ok.frf⟩
section
variable {X:Cx}{pins:List (Addr×Obj)}{σ:St}{H:Hp}{s:Shared}{E:Value->Shared->Prop}
theorem Inv.wish (I:Inv X pins σ H s)(E:Value->Shared->Prop):Inv (X.wish E) pins σ H s:=⟨I.ok.wish E,I.os,I.bare,I.base,I.loc,I.cell,I.free,I.freeC,I.pin,I.hok,I.len⟩
theorem Inv.unwish (I:Inv (X.wish E) pins σ H s):Inv X pins σ H s:=⟨I.ok.unwish,I.os,I.bare,I.base,I.loc,I.cell,I.free,I.freeC,I.pin,I.hok,I.len⟩
theorem SP.unwish {D:oE}{f:Flow}{s':Shared}(h:SP (X.wish E) pins D f s'):SP X pins D f s':=by
 cases f with
 |next=>obtain⟨σ',H',I,q⟩:=h; exact⟨σ',H',I.unwish,q⟩
 |brk=>obtain⟨σ',H',I,q⟩:=h; exact⟨σ',H',I.unwish,q⟩
 |cont=>obtain⟨σ',H',I,q⟩:=h; exact⟨σ',H',I.unwish,q⟩
 |ret u=>obtain⟨v,σ',H',I,r,q⟩:=h; exact⟨v,σ',H',I.unwish,r,q⟩
theorem PSs.nox {st:List Stmt}{t:TS}(h:PSs X.nox st t):PSs X st t:=fun pins s σ H D I hw =>
 wpAny_mono (h pins s σ H D (I.wish _) hw) (fun _ _ q=>q.unwish) fun _ _ z=>False.elim z
end
section
variable {X:Cx}{st:Stmt}{rest:List Stmt}{t u:TS}{e:Expr}{te:TE}{pos:Pos}
def tNext:TS:=fun D σ H=>D.nx σ H
def tSeq (t u:TS):TS:=fun D σ H=>t { D with nx:=u D } σ H
theorem pss_nil:PSs X [] tNext:=fun _ _ σ H _ I h=>wpAny_execs_nil ⟨σ,H,I,h⟩
theorem Z1 (h1:PS X st t)(h2:PSs X rest u):PSs X (st::rest) (tSeq t u):=by
 intro pins s σ H D I h;refine wpAny_execs_cons (thn (h1 pins s σ H { D with nx:=u D } I h) fun f s1 q=>?_)
 cases f with
 |next =>
  obtain⟨σ',H',I',q⟩:=q;exact h2 pins s1 σ' H' D I' q
 |ret v=>exact q
 |brk=>exact q
 |cont=>exact q
theorem pss_one (h1:PS X st t):PSs X [st] t:=by
 intro pins s σ H D I h;refine wpAny_execs_cons (thn (h1 pins s σ H D I h) fun f s1 q=>?_)
 cases f with
 |next=>exact wpAny_execs_nil q
 |ret v=>exact q
 |brk=>exact q
 |cont=>exact q
theorem Inv.quiet {pins:List (Addr×Obj)}{σ:St}{H:Hp}{s:Shared}(I:Inv X pins σ H s):interactive X.env=false:=by simp[interactive,I.ok.kind]
def tDrop (te:TE):TS:=fun D σ H=>te σ H fun _ H1=>D.nx σ H1
theorem ps_expr (he:PE X e te)(hs:swapsWith e none pos.line X.env=pure false:=by rfl):PS X (.Expr e pos) (tDrop te):=by
 intro pins s σ H D I h;exact wpAny_Expr_any (thn (he pins s σ H _ I h) fun v s1 ⟨x,H1,I1,r1,q1⟩=>⟨σ,H1,I1,q1⟩) I.quiet hs
def tRet (te:TE):TS:=fun D σ H=>te σ H D.rt
theorem ps_ret (he:PE X e te):PS X (.Return (some e) pos) (tRet te):=by
 intro pins s σ H D I h;exact wpAny_Return_some (thn (he pins s σ H _ I h) fun v s1 ⟨x,H1,I1,r1,q1⟩=>⟨x,σ,H1,I1,r1,q1⟩)
def tIfS (c:TT)(t u:TS):TS:=fun D σ H=>c σ H fun b H1=>if b=true then t D σ H1 else u D σ H1
theorem ps_if {c:Expr}{a b:List Stmt}{tc:TT}(hc:PT X c tc)(ha:PSs X a t)(hb:PSs X b u):PS X (.If c a b pos) (tIfS tc t u):=by
 intro pins s σ H D I h;refine wpAny_If (thn (hc pins s σ H _ I h) fun d s1 ⟨H1,I1,q1⟩=>?_)
 cases d with
 |true=>exact ha pins s1 σ H1 D I1 q1
 |false=>exact hb pins s1 σ H1 D I1 q1
end
abbrev TG:=V->St->Hp->(St->Hp->Prop)->Prop
abbrev TGs:=List V->St->Hp->(St->Hp->Prop)->Prop
def PG (X:Cx)(target:Expr)(t:TG):Prop :=
 ∀(pins:List (Addr×Obj)) (s:Shared) (σ:St) (H:Hp) (v:V) (u:Value) (Q:St->Hp->Prop),Inv X pins σ H s->RelV v u->t v σ H Q ->
  wpAny (model X.prog X.w) X.A (assign target X.env u) (fun _ s'=>∃σ' H',Inv X pins σ' H' s'/\Q σ' H') X.xe s
def PGs (X:Cx)(ts:List Expr)(t:TGs):Prop :=
 ∀(pins:List (Addr×Obj)) (s:Shared) (σ:St) (H:Hp) (vs:List V) (us:List Value) (Q:St->Hp->Prop),Inv X pins σ H s->Vals vs us->t vs σ H Q ->
  wpAny (model X.prog X.w) X.A (assignInOrder ((assignEach ts X.env).map (·.2)) us) (fun _ s'=>∃σ' H',Inv X pins σ' H' s'/\Q σ' H') X.xe s
abbrev TSet:=V->V->V->Hp->(Hp->Prop)->Prop
def PSet (X:Cx)(t:TSet):Prop :=
 ∀(pins:List (Addr×Obj)) (s:Shared) (σ:St) (H:Hp) (o i v:V) (ov iv u:Value) (Q:Hp->Prop),Inv X pins σ H s->RelV o ov->RelV i iv->RelV v u->t o i v H Q ->
  wpAny (model X.prog X.w) X.A (setItem ov iv u) (fun _ s'=>∃H',Inv X pins σ H' s'/\Q H') X.xe s
section
variable {X:Cx}{pos:Pos}
def vY (i:Nat):TG:=fun v σ H Q=>Q (σ.set i (some v)) H
theorem qM {i:Nat}{x:Str}(hN:X.N.Nodup)(hi:X.N[i]?=some x)(hx:Loc X.env.scope x)(hf:X.fn x=true\/X.env.scope.names.lookup x=some .local:=by first | exact .inl rfl | exact .inr rfl | assumption):PG X (.Name x pos) (vY i):=by
 intro pins s σ H v u Q I r h;exact wpAny_assign_Name (tS I hN hi hx r (fun s' I'=>⟨_,H,I',h⟩) hf)
def gNil:TGs:=fun vs σ H Q=>vs=[]/\Q σ H
def uP (t:TG)(u:TGs):TGs:=fun vs σ H Q=>∃v r,vs=v::r/\t v σ H fun σ' H'=>u r σ' H' Q
theorem QE:PGs X [] gNil:=by
 intro pins s σ H vs us Q I r h;obtain⟨e,h⟩:=h;subst e;cases r;exact assignInOrder_nil ⟨σ,H,I,h⟩
theorem nL {e:Expr}{es:List Expr}{t:TG}{u:TGs}(h1:PG X e t)(h2:PGs X es u)
  (hs:(assignEach (e::es) X.env).map (·.2)=assign e X.env::(assignEach es X.env).map (·.2):=by rfl):PGs X (e::es) (uP t u):=by
 intro pins s σ H vs us Q I r h;obtain⟨v,vr,e1,h⟩:=h;subst e1
 cases r with
 |cons r rr =>
  rw[hs];refine assignInOrder_cons (thn (h1 pins s σ H _ _ _ I r h) fun _ s1 ⟨σ1,H1,I1,q1⟩=>?_);exact h2 pins s1 σ1 H1 _ _ Q I1 rr q1
def gTup (K:PySem.W.Frag)(n:Nat)(t:TGs):TG:=fun v σ H Q=>∃a xs,v=.ref a/\SqT K H a xs/\xs.length=n/\t xs σ H Q
theorem Z7 {es:List Expr}{k:Nat}{t:TGs}{n:Nat}(hc:X.calm=true)(h:PGs X es t)
  (hn:(assignEach es X.env).length=n:=by rfl) (hst:(assignEach es X.env).findIdx? (·.1)=none:=by rfl):PG X (.Tuple es k pos) (gTup X.K n t):=by
 intro pins s σ H v u Q I r hw;obtain⟨a,xs,e1,hq,hl,hw⟩:=hw;subst e1;cases r;obtain⟨its,rv,ht,hz⟩:=I.tuple hq;refine assign_Tuple_tuple (I.ok.hd hc) ht (by simp[hn,<- hl,rv.length]) hst fun h' hx=>?_;have I1:Inv X pins σ H { s with heap:=h' }:=I.kept (t':=s.toks) fun b o e=>hx b o (Nat.ne_of_lt (Heap.lt_size e)) e;exact h pins _ σ H xs _ Q I1 (by simpa using rv) hw
def gSub (to ti:TE)(t:TSet):TG:=fun v σ H Q=>to σ H fun o H1=>ti σ H1 fun i H2=>t o i v H2 fun H3=>Q σ H3
theorem pg_sub {o i:Expr}{to ti:TE}{t:TSet}(ho:PE X o to)(hi:PE X i ti)(hs:PSet X t)
  (ha:∀v,assign (.Subscript o i pos) X.env v=(do
   let ov <- holding [v] (eval o X.env)
   let iv <- holding [v,ov] (eval i X.env)
   standAt pos
   holding [v,ov,iv] (setItem ov iv v)
   release [v,ov,iv] []):=by intro _; rfl):PG X (.Subscript o i pos) (gSub to ti t):=by
 intro pins s σ H v u Q I r h;rw[ha];refine wpAny_bind (wpAny_holding (thn (ho pins s σ H _ I h) fun ov s1 ⟨x,H1,I1,r1,q1⟩=>?_));refine wpAny_bind (wpAny_holding (thn (hi pins s1 σ H1 _ I1 q1) fun iv s2 ⟨y,H2,I2,r2,q2⟩=>?_));refine wpAny_bind (wpAny_standAt (wpAny_bind (wpAny_holding (thn (hs pins s2 σ H2 x y v ov iv u _ I2 r1 r2 r q2) fun _ s3 ⟨H3,I3,q3⟩=>?_))));exact wpAny_release ⟨σ,H3,I3,q3⟩
def ZJ (te:TE)(g:TG):TS:=fun D σ H=>te σ H fun x H1=>g x σ H1 D.nx
theorem ps_asg {tg e:Expr}{te:TE}{g:TG}(he:PE X e te)(hg:PG X tg g)(hs:swapsWithSole [tg] e pos.line X.env=pure false:=by rfl)(hw:swappedStores [tg] e X.env=pure none:=by rfl)
  (h1:(assignEach [tg] X.env).map (·.2)=[assign tg X.env]:=by rfl):PS X (.Assign [tg] e pos) (ZJ te g):=by
 intro pins s σ H D I h;refine wpAny_Assign_stores (thn (he pins s σ H _ I h) fun v s1 ⟨x,H1,I1,r1,q1⟩=>?_) hs hw;rw[h1];exact thn (hg pins s1 σ H1 x v _ I1 r1 q1) fun _ s2 q=>q
theorem ps_set {i:Nat}{x:Str}{e:Expr}{te:TE}{pos':Pos}(hN:X.N.Nodup)(hi:X.N[i]?=some x)(hx:Loc X.env.scope x)(he:PE X e te)(hs:swapsWith e (some (.Name x pos')) pos.line X.env=pure false:=by rfl)(hf:X.fn x=true\/X.env.scope.names.lookup x=some .local:=by first | exact .inl rfl | exact .inr rfl | assumption):
  PS X (.Assign [.Name x pos'] e pos) (ZJ te (vY i)):=by
 intro pins s σ H D I h;refine wpAny_Assign_Name (thn (he pins s σ H _ I h) fun v s1 ⟨y,H1,I1,r1,q1⟩=>?_) hs;exact tS I1 hN hi hx r1 (fun s2 I2=>⟨_,H1,I2,q1⟩) hf
end
structure It where
 go:Nat->Hp->Prop
 yld:Nat->Hp->V->Hp->Prop
 stop:Nat->Hp->Prop
def sE (X:Cx)(pins:List (Addr×Obj))(H:Hp)(b:Addr):Prop :=
 H b=none/\b≠X.env.locals/\b∉X.fs/\(b∈X.ex\/X.s₀.heap.objs.size<=b)/\(∀x c,X.env.cells.lookup x=some c->c≠b)/\∀p∈X.pn++pins,p.1≠b
theorem Inv.fpOk {X:Cx}{pins:List (Addr×Obj)}{σ:St}{H H':Hp}{s:Shared}{b:Addr}(I:Inv X pins σ H s)(hb:s.heap.objs.size<=b)(hn:H' b=none):sE X pins H' b:=by
 refine⟨hn,Nat.ne_of_gt (Nat.lt_of_lt_of_le I.lt hb),I.nofs hb,.inr (Nat.le_trans I.sz hb),fun x c e z=>?_,fun p hp z=>?_⟩
 .obtain ⟨v,q⟩:=I.cell x c e
  exact absurd (Nat.lt_of_lt_of_le q.lt (by rw[z]; exact hb)) (Nat.lt_irrefl _)
 .exact absurd (Nat.lt_of_lt_of_le (Heap.lt_size (I.pin p hp).1) (by rw[z]; exact hb)) (Nat.lt_irrefl _)
structure Zn (P:Program)(w:World)(K:PySem.W.Frag)(tg:Expr)(J:It)(fp:List Addr)(it:Addr)(tn:Nat->Heap->Prop):Prop where
 mem:it∈fp
 obj:∀i h,tn i h->∀b∈fp,∃o,h.get? b=some o/\∀v,o.data≠.cell v
 keep:∀i h h',tn i h->(∀b∈fp,∀o,h.get? b=some o->h'.get? b=some o)->tn i h'
 item:∀(X:Cx),X.prog=P->X.w=w->X.K=K->X.calm=true->∀(i:Nat) (pins:List (Addr×Obj)) (s:Shared) (σ:St) (H:Hp) (E:Value->Shared->Prop),Inv X pins σ H s->(∀b∈fp,sE X pins H b)->tn i s.heap->J.go i H ->
  wpAny (model P w) X.A (pyNext (.ref it)) (fun r s1=>∃u,r=some u /\
   wpAny (model P w) X.A (letOwnedTupleGo tg (.ref it) u) (fun _ s2=>∃x H',Inv X pins σ H' s2/\RelV x u/\J.yld i H x H'/\tn (i+1) s2.heap/\∀b∈fp,H' b=none) E s1) E s
 done:∀(X:Cx),X.prog=P->X.w=w->X.K=K->X.calm=true->∀(i:Nat) (pins:List (Addr×Obj)) (s:Shared) (σ:St) (H:Hp) (E:Value->Shared->Prop),Inv X pins σ H s->(∀b∈fp,sE X pins H b)->tn i s.heap->J.stop i H ->
  wpAny (model P w) X.A (pyNext (.ref it)) (fun r s1=>r=none/\Inv X pins σ H s1) E s
 self:∀(A:Around) (i:Nat) (s:Shared) (Q:Value->Shared->Prop) (E:Value->Shared->Prop),tn i s.heap->Q (.ref it) s->wpAny (model P w) A (pyIter (.ref it)) Q E s
abbrev TI:=St->Hp->(It->Hp->Prop)->Prop
def PIE (X:Cx)(pins:List (Addr×Obj))(σ:St)(tg:Expr)(R:It->Hp->Prop)(itv:Value)(s2:Shared):Prop :=
 ∃(it:Addr) (fp:List Addr) (tn:Nat->Heap->Prop) (J:It) (H':Hp),itv=.ref it/\Inv X pins σ H' s2/\Zn X.prog X.w X.K tg J fp it tn/\tn 0 s2.heap/\(∀b∈fp,sE X pins H' b)/\R J H'
def PI (X:Cx)(tg iter:Expr)(wi:TI):Prop :=
 ∀(pins:List (Addr×Obj)) (s:Shared) (σ:St) (H:Hp) (R:It->Hp->Prop),Inv X pins σ H s->wi σ H R ->
  wpAny (model X.prog X.w) X.A (eval iter X.env) (fun v s1=>wpAny (model X.prog X.w) X.A (pyIter v) (PIE X pins σ tg R) X.xe s1) X.xe s
theorem QS {M:Model}{A:Around}{E:Value->Shared->Prop}{s:Shared}{tg:Expr}{it:Addr}{u:Value}{o:Obj}{n:String}{vs:Array Value}{Q:Unit->Shared->Prop}(ho:s.heap.get? it=some o)(hc:o.cls=.type n)(hd:o.data=.fields vs)
  (hn:["enumerate","zip","dict_itemiterator","dict_reverseitemiterator","odict_iterator","itertools.zip_longest","itertools.pairwise"].contains n=false) (hQ:Q () s):wpAny M A (letOwnedTupleGo tg (.ref it) u) Q E s:=by
 unfold letOwnedTupleGo
 cases tg<;>first
  |exact wpAny_pure hQ
  | (cases u<;>first
    |exact wpAny_pure hQ
    | (refine wpAny_bind (wpAny_load ho ?_)
       rw[hc,hd];show wpAny M A (if (["enumerate","zip","dict_itemiterator","dict_reverseitemiterator","odict_iterator","itertools.zip_longest","itertools.pairwise"].contains n&&vs[0]?==some (rawInt _))=true then _ else _) Q E s;rw[if_neg (by intro h; rw[hn,Bool.false_and] at h; cases h)]
       exact wpAny_pure hQ))
def Itl (K:PySem.W.Frag)(a:Addr):It :=
 ⟨fun i H=>∃xs x,SqL K H a xs/\xs[i]?=some x,fun i H x H'=>H'=H/\∀xs,SqL K H a xs->xs[i]?=some x,fun i H=>∃xs,SqL K H a xs/\xs.length<=i⟩
def Itt (K:PySem.W.Frag)(a:Addr):It :=
 ⟨fun i H=>∃xs x,SqT K H a xs/\xs[i]?=some x,fun i H x H'=>H'=H/\∀xs,SqT K H a xs->xs[i]?=some x,fun i H=>∃xs,SqT K H a xs/\xs.length<=i⟩
def Itr (lo:Int)(n:Nat):It:=⟨fun i _=>i < n,fun i H x H'=>H'=H/\x=.int (lo+i),fun i _=>n<=i⟩
theorem Xp {P:Program}{w:World}{K:PySem.W.Frag}{tg:Expr}(a it:Addr):Zn P w K tg (Itl K a) [it] it (fun i h=>h.IsListIter it a i) where
 mem:=by simp
 obj:=fun i h st b hb=>by
  have e:b=it:=by simpa using hb
  subst e;obtain⟨o,e,c,d⟩:=st;exact⟨o,e,fun v z=>by rw[d] at z; cases z⟩
 keep:=fun i h h' st k=>st.at fun o e=>k it (by simp) o e
 item:=by
  intro X hP hw hK hc i pins s σ H E I hf st hg;subst hP hw hK;obtain⟨xs,x,hq,hx⟩:=hg;obtain⟨its,rv,p,hz⟩:=I.list hq;obtain⟨u,hu,ru⟩:=rv.get hx;obtain⟨f0,f1,f2,f3,f4,f5⟩:=hf it (by simp);refine wpAny_pyNext_list_item st p.isList (x:=u) (by simpa using hu) fun h' st' sb=>?_;have I1:Inv X pins σ H { s with heap:=h' }:=I.turned (t':=s.toks) (fun b o hb e=>(sb.2 b hb).trans e) f0 f1 f3 f4 f5;obtain⟨o,e,c,d⟩:=id st'
  exact⟨u,rfl,QS (s:={ s with heap:=h' }) e c d (by decide) ⟨x,H,I1,ru,⟨rfl,fun ys hy=>by rw[I.list_inj hy hq]; exact hx⟩,st',fun b hb=>(hf b hb).1⟩⟩
 done:=by
  intro X hP hw hK hc i pins s σ H E I hf st hg;subst hP hw hK;obtain⟨xs,hq,hx⟩:=hg;obtain⟨its,rv,p,hz⟩:=I.list hq;obtain⟨f0,f1,f2,f3,f4,f5⟩:=hf it (by simp);have hl:=rv.length;exact wpAny_pyNext_list_end (I.ok.hd hc) st p.isList (by simp; omega) fun h' eb=>⟨rfl,I.turned (t':=s.toks) (fun b o hb e=>eb b o hb e) f0 f1 f3 f4 f5⟩
 self:=fun _ _ _ _ _ st h=>wpAny_pyIter_listiter st h
theorem iE {P:Program}{w:World}{K:PySem.W.Frag}{tg:Expr}(a it:Addr):Zn P w K tg (Itt K a) [it] it (fun i h=>h.IsTupleIter it a i) where
 mem:=by simp
 obj:=fun i h st b hb=>by
  have e:b=it:=by simpa using hb
  subst e;obtain⟨o,e,c,d⟩:=st;exact⟨o,e,fun v z=>by rw[d] at z; cases z⟩
 keep:=fun i h h' st k=>st.at fun o e=>k it (by simp) o e
 item:=by
  intro X hP hw hK hc i pins s σ H E I hf st hg;subst hP hw hK;obtain⟨xs,x,hq,hx⟩:=hg;obtain⟨its,rv,p,hz⟩:=I.tuple hq;obtain⟨u,hu,ru⟩:=rv.get hx;obtain⟨f0,f1,f2,f3,f4,f5⟩:=hf it (by simp);refine wpAny_pyNext_tuple_item st (show s.heap.IsTuple a its.toArray from p) (x:=u) (by simpa using hu) fun h' st' sb=>?_;have I1:Inv X pins σ H { s with heap:=h' }:=I.turned (t':=s.toks) (fun b o hb e=>(sb.2 b hb).trans e) f0 f1 f3 f4 f5
  obtain⟨o,e,c,d⟩:=id st';exact⟨u,rfl,QS (s:={ s with heap:=h' }) e c d (by decide) ⟨x,H,I1,ru,⟨rfl,fun ys hy=>by rw[I.tuple_inj hy hq]; exact hx⟩,st',fun b hb=>(hf b hb).1⟩⟩
 done:=by
  intro X hP hw hK hc i pins s σ H E I hf st hg;subst hP hw hK;obtain⟨xs,hq,hx⟩:=hg;obtain⟨its,rv,p,hz⟩:=I.tuple hq;obtain⟨f0,f1,f2,f3,f4,f5⟩:=hf it (by simp);have hl:=rv.length;exact wpAny_pyNext_tuple_end (I.ok.hd hc) st (show s.heap.IsTuple a its.toArray from p) (by simp; omega) fun h' eb=>⟨rfl,I.turned (t':=s.toks) (fun b o hb e=>eb b o hb e) f0 f1 f3 f4 f5⟩
 self:=fun _ _ _ _ _ st h=>wpAny_pyIter_tupleiter st h
theorem qA {P:Program}{w:World}{K:PySem.W.Frag}{tg:Expr}(it:Addr)(lo:Int)(n:Nat):Zn P w K tg (Itr lo n) [it] it (fun i h=>IsRangeIter h it (lo+(i:Nat) * 1) ((n:Int) - (i:Nat)) 1) where
 mem:=by simp
 obj:=fun i h st b hb=>by
  have e:b=it:=by simpa using hb
  subst e
  exact⟨_,st,fun v z=>by
   have z':Data.fields _=Data.cell v:=z
   cases z'⟩
 keep:=fun i h h' st k=>k it (by simp) _ st
 item:=by
  intro X hP hw hK hc i pins s σ H E I hf st hg;subst hP hw hK;obtain⟨f0,f1,f2,f3,f4,f5⟩:=hf it (by simp);have W:=Walks.range (prog:=X.prog) (w:=X.w) (I.ok.hd hc) it lo 1 n;refine W.item i s _ _ hg st fun v h' tk hv st' kk=>?_;obtain⟨t,rfl⟩:=hv;have I1:Inv X pins σ H { s with heap:=h',toks:=tk }:=I.turned (fun b o hb e=>kk b o (by simpa using hb) e) f0 f1 f3 f4 f5;refine⟨_,rfl,QS (s:={ s with heap:=h',toks:=tk }) (n:="range_iterator") st' rfl rfl (by decide) ⟨.int (lo+i),H,I1,⟨t,?_⟩,⟨rfl,rfl⟩,st',fun b hb=>(hf b hb).1⟩⟩
  rw[Int.mul_one]
 done:=by
  intro X hP hw hK hc i pins s σ H E I hf st hg;subst hP hw hK;obtain⟨f0,f1,f2,f3,f4,f5⟩:=hf it (by simp);exact wpAny_pyNext_range_end (I.ok.hd hc) st (by have:n<=i:=hg; omega) fun h' eb=>⟨rfl,I.turned (t':=s.toks) (fun b o hb e=>eb b o hb e) f0 f1 f3 f4 f5⟩
 self:=fun _ _ _ _ _ st h=>wpAny_pyIter_rangeiter st h
section
variable {X:Cx}{tg:Expr}
def iList (K:PySem.W.Frag)(tl:TE):TI:=fun σ H R=>tl σ H fun x H1=>∃a,x=.ref a/\(∃xs,SqL K H1 a xs)/\R (Itl K a) H1
def iTup (K:PySem.W.Frag)(tl:TE):TI:=fun σ H R=>tl σ H fun x H1=>∃a,x=.ref a/\(∃xs,SqT K H1 a xs)/\R (Itt K a) H1
theorem pi_list {l:Expr}{tl:TE}(hl:PE X l tl):PI X tg l (iList X.K tl):=by
 intro pins s σ H R I h;refine thn (hl pins s σ H _ I h) fun v s1 ⟨x,H1,I1,r1,q1⟩=>?_;obtain⟨a,e,⟨xs,hq⟩,q⟩:=q1;subst e;cases r1;obtain⟨its,rv,p,hz⟩:=I1.list hq;refine wpAny_pyIter_list p.isList ?_;refine⟨s1.heap.objs.size,[s1.heap.objs.size],_,_,H1,rfl,I1.kept (t':=s1.toks) fun b o e=>Heap.get?_push_of_some _ e,Xp a _,⟨_,Heap.get?_push_size _ rfl,rfl,rfl⟩,fun b hb=>?_,q⟩;have e:b=s1.heap.objs.size:=by simpa using hb
 subst e;exact I1.fpOk (Nat.le_refl _) (I1.hok.fresh (Nat.le_refl _))
theorem pi_tup {l:Expr}{tl:TE}(hl:PE X l tl):PI X tg l (iTup X.K tl):=by
 intro pins s σ H R I h;refine thn (hl pins s σ H _ I h) fun v s1 ⟨x,H1,I1,r1,q1⟩=>?_;obtain⟨a,e,⟨xs,hq⟩,q⟩:=q1;subst e;cases r1;obtain⟨its,rv,p,hz⟩:=I1.tuple hq;refine wpAny_pyIter_tuple (show s1.heap.IsTuple a its.toArray from p) ?_;refine⟨s1.heap.objs.size,[s1.heap.objs.size],_,_,H1,rfl,I1.kept (t':=s1.toks) fun b o e=>Heap.get?_push_of_some _ e,iE a _,⟨_,Heap.get?_push_size _ rfl,rfl,rfl⟩,fun b hb=>?_,q⟩
 have e:b=s1.heap.objs.size:=by simpa using hb
 subst e;exact I1.fpOk (Nat.le_refl _) (I1.hok.fresh (Nat.le_refl _))
theorem ZS {pins:List (Addr×Obj)}{σ:St}{H:Hp}{s:Shared}{R:It->Hp->Prop}{E:Value->Shared->Prop}{lo hi:Int}{t u v:Tok}{tk:Nat}(I:Inv X pins σ H s)(h1 : -(2 ^ 62)<=lo)(h2:lo < 2 ^ 62)(h3 : -(2 ^ 62)<=hi)(h4:hi < 2 ^ 62)
  (q:R (Itr lo (hi - lo).toNat) H):wpAny (model X.prog X.w) X.A (pyIter (.ref s.heap.objs.size)) (PIE X pins σ tg R) E { s with heap:=s.heap.push { cls:=.type "range",data:=.fields #[.int lo t,.int hi u,.int 1 v] },toks:=tk }:=by
 refine wpAny_pyIter_range (IsRange.new ..) (small_one h1 h2 h3 h4) ?_;have I1:Inv X pins σ H { s with heap:=s.heap.push { cls:=.type "range",data:=.fields #[.int lo t,.int hi u,.int 1 v] },toks:=tk }:=I.kept fun b o e=>Heap.get?_push_of_some _ e
 refine⟨(s.heap.push { cls:=.type "range",data:=.fields #[.int lo t,.int hi u,.int 1 v] }).objs.size,[(s.heap.push { cls:=.type "range",data:=.fields #[.int lo t,.int hi u,.int 1 v] }).objs.size],_,_,H,rfl,
  I1.kept (t':=tk) fun b o e=>Heap.get?_push_of_some _ e,qA _ lo (hi - lo).toNat,?_,fun b hb=>?_,q⟩
 .have e1:lo+((0:Nat):Int) * 1=lo:=by simp
  have e2:(((hi - lo).toNat:Nat):Int) - ((0:Nat):Int)=Builtin.Range.rangeSize lo hi 1:=by rw[rangeSize_one]; split<;>omega
  show IsRangeIter _ _ (lo+((0:Nat):Int) * 1) ((((hi - lo).toNat:Nat):Int) - ((0:Nat):Int)) 1;rw[e1,e2];exact Heap.get?_push_size _ rfl
 .have e:b=(s.heap.push { cls:=.type "range",data:=.fields #[.int lo t,.int hi u,.int 1 v] }).objs.size:=by simpa using hb
  subst e;exact I1.fpOk (Nat.le_refl _) (I1.hok.fresh (Nat.le_refl _))
def Kf (ta:TA):TI:=fun σ H R=>ta σ H fun vs H1=>∃j:Int,vs=[.int j]/\-(2 ^ 62)<=j/\j < 2 ^ 62/\R (Itr 0 j.toNat) H1
theorem XC {a:Expr}{ta:TA}{p pos:Pos}(hg:Gl X "range")(hm:X.mg "range" = none)(ha:PA X [a] ta)(hs:starEach [a] X.env=[(false,eval a X.env)]:=by rfl):PI X tg (.Call (.Name "range" p) [a] [] pos) (Kf ta):=by
 intro pins s σ H R I h;refine Call_ (vR I hg hm boot_range (PyProof.Rows.callWith_type1 (thn (ha pos pins s σ H _ I h) fun us s1 ⟨vs,H1,I1,r1,q1⟩=>?_) hs rfl));obtain⟨j,e,q1,q2,q⟩:=q1;subst e
 cases r1 with
 |cons r rr =>
  cases rr;obtain⟨t,rfl⟩:=r;exact call_range_1 (ZS I1 (by omega) (by omega) q1 q2 (by simpa using q))
def tFor (wi:TI)(g:TG)(tb:TS):TS:=fun D σ H=>wi σ H fun J H1=>∃W:Nat->Nat->St->Hp->Prop,(∃m,W 0 m σ H1)/\∀i m σ H,W i m σ H ->
 (J.stop i H/\D.nx σ H)\/(J.go i H/\∃N:St->Hp->Prop,(∀σ' H',N σ' H'->∃m',m' < m/\W (i+1) m' σ' H')/\∀x H',J.yld i H x H'->g x σ H' fun σ2 H2=>tb { D with nx:=N,ct:=N,bk:=D.nx } σ2 H2)
def rL (fp:List Addr)(h:Heap):List (Addr×Obj):=fp.filterMap fun b=>(h.get? b).map fun o=>(b,o)
theorem cY {fp:List Addr}{h:Heap}{b:Addr}{o:Obj}(hb:b∈fp)(e:h.get? b=some o):(b,o)∈rL fp h:=List.mem_filterMap.mpr ⟨b,hb,by rw[e]; rfl⟩
theorem XN {fp:List Addr}{h:Heap}{p:Addr×Obj}(hp:p∈rL fp h):p.1∈fp/\h.get? p.1=some p.2:=by
 obtain⟨b,hb,e⟩:=List.mem_filterMap.mp hp
 cases q:h.get? b with
 |none=>rw[q] at e; cases e
 |some o =>
  rw[q] at e;have e':(b,o)=p:=Option.some.inj e;subst e';exact⟨hb,q⟩
theorem Inv.pinned {pins:List (Addr×Obj)}{σ:St}{H:Hp}{s:Shared}{fp:List Addr}(I:Inv X pins σ H s)(hf:∀b∈fp,sE X pins H b)(ho:∀b∈fp,∃o,s.heap.get? b=some o/\∀v,o.data≠.cell v):Inv X (pins++rL fp s.heap) σ H s :=
 I.pins_of fun p hp=>(List.mem_append.mp hp).elim (fun z=>I.pin p (List.mem_append_right _ z)) fun z=>by
  obtain⟨hb,e⟩:=XN z;obtain⟨f0,f1,f2,_⟩:=hf p.1 hb;obtain⟨o,e',d⟩:=ho p.1 hb;rw[e] at e'; cases e'
  exact⟨e,f0,f1,f2,d⟩
theorem Inv.unpinned {pins pl:List (Addr×Obj)}{σ:St}{H:Hp}{s:Shared}(I:Inv X (pins++pl) σ H s):Inv X pins σ H s:=I.pins_of fun p hp=>I.pin p (List.mem_append_right _ (List.mem_append_left _ hp))
theorem ps_for {iter:Expr}{body:List Stmt}{wi:TI}{g:TG}{tb:TS}{pos:Pos}(hp:PassesOwn (model X.prog X.w) X.A X.env X.xe)(hc:X.calm=true)(hi:PI X tg iter wi)(hg:PG X tg g)(hb:PSs X body tb)
  (hs:∀x,foldedSetIterable iter X.env x=pure x:=by intro _; rfl):PS X (.For tg iter body [] pos) (tFor wi g tb):=by
 intro pins s σ H D I h;refine wpAny_For (thn (hi pins s σ H _ I h) fun v s1 h1=>thn h1 fun itv s2 h2=>?_) hs;obtain⟨it,fp,tn,J,H2,e,I2,T,st2,f2,W,⟨m0,w0⟩,turn⟩:=h2;subst e;have stat:∀{H':Hp},(∀b∈fp,H' b=none)->∀b∈fp,sE X pins H' b:=fun hn b hb=>⟨hn b hb,(f2 b hb).2⟩;refine codeAny_forLoop_any (fun n s'=>∃i σ' H',Inv X pins σ' H' s'/\tn i s'.heap/\(∀b∈fp,H' b=none)/\W i n σ' H') ?_ m0 ⟨0,σ,H2,I2,st2,fun b hb=>(f2 b hb).1,w0⟩
 rintro n s3 ⟨i,σ3,H3,I3,st3,fr3,w3⟩
 rcases turn i n σ3 H3 w3 with ⟨stop,qn⟩ | ⟨go,N,hN,step⟩
 .refine wpAny_passesOwn hp (thn (T.done X rfl rfl rfl hc i pins s3 σ3 H3 X.xe I3 (stat fr3) st3 stop) fun r s4 ⟨hr,I4⟩=>?_)
  subst hr;exact wpAny_execs_nil ⟨σ3,H3,I4,qn⟩
 .refine wpAny_passesOwn hp (thn (T.item X rfl rfl rfl hc i pins s3 σ3 H3 X.xe I3 (stat fr3) st3 go) fun r s4 ⟨u,hr,h4⟩=>?_)
  subst hr;refine wpAny_passesOwn hp (thn h4 fun _ s5 ⟨x,H5,I5,r5,y5,st5,fr5⟩=>?_);have I5':=I5.pinned (stat fr5) (T.obj _ _ st5);refine wpAny_passesOwn hp (thn (hg _ s5 σ3 H5 x u _ I5' r5 (step x H5 y5)) fun _ s6 ⟨σ6,H6,I6,q6⟩=>?_);refine wpAny_passesOwn hp (thn (hb _ s6 σ6 H6 _ I6 q6) fun f s7 q7=>?_)
  have again:∀{σ7:St} {H7:Hp},Inv X (pins++rL fp s5.heap) σ7 H7 s7->N σ7 H7->∃m,m < n/\∃i σ' H',Inv X pins σ' H' s7/\tn i s7.heap/\(∀b∈fp,H' b=none)/\W i m σ' H':=fun {σ7 H7} I7 n7=>by
   obtain⟨m',hm,w7⟩:=hN σ7 H7 n7;refine⟨m',hm,i+1,σ7,H7,I7.unpinned,T.keep _ _ _ st5 fun b hb o e=>(I7.pin (b,o) (List.mem_append_right _ (List.mem_append_right _ (cY hb e)))).1,fun b hb=>?_,w7⟩;obtain⟨o,e,d⟩:=T.obj _ _ st5 b hb;exact(I7.pin (b,o) (List.mem_append_right _ (List.mem_append_right _ (cY hb e)))).2.1
  cases f with
  |next=>obtain⟨σ7,H7,I7,n7⟩:=q7; exact again I7 n7
  |cont=>obtain⟨σ7,H7,I7,n7⟩:=q7; exact again I7 n7
  |brk=>obtain⟨σ7,H7,I7,q7⟩:=q7; exact⟨σ7,H7,I7.unpinned,q7⟩
  |ret v=>obtain⟨x7,σ7,H7,I7,r7,q7⟩:=q7; exact⟨x7,σ7,H7,I7.unpinned,r7,q7⟩
end
abbrev R2:=V->V->Hp->VK->Prop
def OpR (X:Cx)(f:Value->Value->Sem Value)(r:R2):Prop :=
 ∀(pins:List (Addr×Obj)) (s:Shared) (σ:St) (H:Hp) (x y:V) (v u:Value) (Q:VK),Inv X pins σ H s->RelV x v->RelV y u->r x y H Q ->
  wpAny (model X.prog X.w) X.A (f v u) (EP X pins σ Q) X.xe s
def UnR (X:Cx)(f:Value->Sem Value)(r:V->Hp->VK->Prop):Prop :=
 ∀(pins:List (Addr×Obj)) (s:Shared) (σ:St) (H:Hp) (x:V) (v:Value) (Q:VK),Inv X pins σ H s->RelV x v->r x H Q ->
  wpAny (model X.prog X.w) X.A (f v) (EP X pins σ Q) X.xe s
def CallR (X:Cx)(f:Value)(r:List V->Hp->VK->Prop):Prop :=
 ∀(pins:List (Addr×Obj)) (s:Shared) (σ:St) (H:Hp) (xs:List V) (us:List Value) (Q:VK),Inv X pins σ H s->Vals xs us->r xs H Q ->
  wpAny (model X.prog X.w) X.A (call f us) (EP X pins σ Q) X.xe s
def TruR (X:Cx)(r:V->Hp->(Bool->Hp->Prop)->Prop):Prop :=
 ∀(pins:List (Addr×Obj)) (s:Shared) (σ:St) (H:Hp) (x:V) (v:Value) (Q:Bool->Hp->Prop),Inv X pins σ H s->RelV x v->r x H Q ->
  wpAny (model X.prog X.w) X.A (truthy v) (TP X pins σ Q) X.xe s
def tOp (r:R2)(ta tb:TE):TE:=fun σ H Q=>ta σ H fun x H1=>tb σ H1 fun y H2=>r x y H2 Q
def tUn (r:V->Hp->VK->Prop)(ta:TE):TE:=fun σ H Q=>ta σ H fun x H1=>r x H1 Q
inductive II (C:Int->Int->Prop)(g:Int->Int->V)(x y:V)(H:Hp)(Q:VK):Prop
 |mk (i j:Int) (h:x=.int i) (h':y=.int j) (c:C i j) (q:Q (g i j) H):II C g x y H Q
def rI (C:Int->Int->Prop)(g:Int->Int->V):R2:=II C g
inductive II0 (g:Int->Int->V)(x y:V)(H:Hp)(Q:VK):Prop
 |mk (i j:Int) (h:x=.int i) (h':y=.int j) (q:Q (g i j) H):II0 g x y H Q
def rI0 (g:Int->Int->V):R2:=II0 g
def rU (g:Int->V):V->Hp->VK->Prop:=fun x H Q=>∃i,x=.int i/\Q (g i) H
section
variable {X:Cx}{a b c:Expr}{ta tb tc:TE}{pos:Pos}
theorem binT (ha:PE X a ta)(hb:PE X b tb){pins:List (Addr×Obj)}{s:Shared}{σ:St}{H:Hp}{R:V->V->Hp->Prop}(I:Inv X pins σ H s)
  (h:ta σ H fun x H1=>tb σ H1 fun y H2=>R x y H2) {Q:Value->Shared->Prop} {f:Value->Value->Sem Value}
  (hf:∀v u s2 x y H2,Inv X pins σ H2 s2->RelV x v->RelV y u->R x y H2->wpAny (model X.prog X.w) X.A (f v u) Q X.xe s2) :
  wpAny (model X.prog X.w) X.A (eval a X.env) (fun v s₁=>wpAny (model X.prog X.w) X.A (eval b X.env) (fun u s₂=>wpAny (model X.prog X.w) X.A (f v u) Q X.xe s₂) X.xe s₁) X.xe s:=by
 refine thn (ha pins s σ H _ I h) fun v s1 ⟨x,H1,I1,r1,q1⟩=>?_;refine thn (hb pins s1 σ H1 _ I1 q1) fun u s2 ⟨y,H2,I2,r2,q2⟩=>?_;exact hf v u s2 x y H2 I2 r1 r2 q2
theorem pe_op {op:Operator}{r:R2}(ho:OpR X (binaryOp op) r)(ha:PE X a ta)(hb:PE X b tb):PE X (.BinOp a op b pos) (tOp r ta tb):=by
 intro pins s σ H Q I h;exact wpAny_BinOp (binT ha hb I h fun v u s2 x y H2 I2 rx ry q=>ho pins s2 σ H2 x y v u Q I2 rx ry q)
theorem pe_un {op:UnaryOp}{r:V->Hp->VK->Prop}(ho:UnR X (unaryOp op) r)(ha:PE X a ta):PE X (.UnaryOp op a pos) (tUn r ta):=by
 intro pins s σ H Q I h;exact UnaryOp_ (thn (ha pins s σ H _ I h) fun v s1 ⟨x,H1,I1,r1,q1⟩=>ho pins s1 σ H1 x v Q I1 r1 q1)
theorem opI {f:Value->Value->Sem Value}{C:Int->Int->Prop}{g:Int->Int->Int}
  (rule:∀(i j:Int) (t u:Tok) (s:Shared) (Q:Value->Shared->Prop) (E:Value->Shared->Prop),C i j->Q (.int (g i j) s.toks) { s with toks:=s.toks+1 }->wpAny (model X.prog X.w) X.A (f (.int i t) (.int j u)) Q E s) :
  OpR X f (rI C fun i j=>.int (g i j)):=by
 intro pins s σ H x y v u Q I rx ry h;obtain⟨i,j,rfl,rfl,hc,q⟩:=h;obtain⟨t,rfl⟩:=rx;obtain⟨t',rfl⟩:=ry;exact rule i j t t' s _ _ hc ⟨.int (g i j),H,I.tok _,⟨_,rfl⟩,q⟩
theorem opI0 {f:Value->Value->Sem Value}{g:Int->Int->Int}
  (rule:∀(i j:Int) (t u:Tok) (s:Shared) (Q:Value->Shared->Prop) (E:Value->Shared->Prop),Q (.int (g i j) s.toks) { s with toks:=s.toks+1 }->wpAny (model X.prog X.w) X.A (f (.int i t) (.int j u)) Q E s) :
  OpR X f (rI0 fun i j=>.int (g i j)):=by
 intro pins s σ H x y v u Q I rx ry h;obtain⟨i,j,rfl,rfl,q⟩:=h;obtain⟨t,rfl⟩:=rx;obtain⟨t',rfl⟩:=ry;exact rule i j t t' s _ _ ⟨.int (g i j),H,I.tok _,⟨_,rfl⟩,q⟩
theorem opB0 {f:Value->Value->Sem Value}{g:Int->Int->Bool}
  (rule:∀(i j:Int) (t u:Tok) (s:Shared) (Q:Value->Shared->Prop) (E:Value->Shared->Prop),Q (.bool (g i j)) s->wpAny (model X.prog X.w) X.A (f (.int i t) (.int j u)) Q E s) :
  OpR X f (rI0 fun i j=>.bl (g i j)):=by
 intro pins s σ H x y v u Q I rx ry h;obtain⟨i,j,rfl,rfl,q⟩:=h;obtain⟨t,rfl⟩:=rx;obtain⟨t',rfl⟩:=ry;exact rule i j t t' s _ _ ⟨.bl (g i j),H,I,rfl,q⟩
def CPow (i j:Int):Prop:=0<=j/\j<=1000000/\i.natAbs < 2 ^ 64
def CMul (i j:Int):Prop:=(-(2 ^ 64) < i/\i < 2 ^ 64)\/(-(2 ^ 64) < j/\j < 2 ^ 64)
theorem CMul.ok {i j:Int}(h:CMul i j):IntMulOk i j:=by
 rcases h with ⟨h1,h2⟩ | ⟨h1,h2⟩
 .exact .of_left (intBits_le_64 h1 h2)
 .exact .of_right (intBits_le_64 h1 h2)
theorem op_add:OpR X (binaryOp .Add) (rI0 fun i j=>.int (i+j)):=opI0 fun _ _ _ _ _ _ _ q=>add_int q
theorem zV:OpR X (binaryOp .Sub) (rI0 fun i j=>.int (i - j)):=opI0 fun _ _ _ _ _ _ _ q=>sub_int q
theorem qF:OpR X (binaryOp .Mult) (rI CMul fun i j=>.int (i * j)):=opI fun _ _ _ _ _ _ _ hc q=>mul_int q hc.ok
theorem gG:OpR X (binaryOp .Mod) (rI (fun _ j=>0 < j) fun i j=>.int (i % j)):=opI fun i j _ _ _ _ _ hc q=>by
 have h1:(0:Int) < j:=hc;exact mod_int' (by omega) (by rw[Int.fmod_eq_emod_of_nonneg i (by omega)]; exact q)
theorem fA:OpR X (binaryOp .Pow) (rI CPow fun i j=>.int (i ^ j.toNat)):=opI fun _ _ _ _ _ _ _ hc q=>pow_int_small hc.1 hc.2.1 hc.2.2 q
theorem unI {f:Value->Sem Value}{g:Int->Int}
  (rule:∀(i:Int) (t:Tok) (s:Shared) (Q:Value->Shared->Prop) (E:Value->Shared->Prop),Q (.int (g i) s.toks) { s with toks:=s.toks+1 }->wpAny (model X.prog X.w) X.A (f (.int i t)) Q E s) :
  UnR X f (rU fun i=>.int (g i)):=by
 intro pins s σ H x v Q I rx h;obtain⟨i,rfl,q⟩:=h;obtain⟨t,rfl⟩:=rx;exact rule i t s _ _ ⟨.int (g i),H,I.tok _,⟨_,rfl⟩,q⟩
theorem sM:UnR X (unaryOp .USub) (rU fun i=>.int (-i)):=unI fun _ _ _ _ _ q=>neg_int q
end
def scal:V->V->Bool
 |.non,.non=>true | .non,.int _=>true | .int _,.non=>true | .non,.bl _=>true | .bl _,.non=>true | .non,.str _=>true | .str _,.non=>true
 |.int _,.int _=>true | .bl _,.bl _=>true | .str _,.str _=>true | .byt _,.byt _=>true
 |.int _,.str _=>true | .str _,.int _=>true | .bl _,.str _=>true | .str _,.bl _=>true
 |_,_=>false
def rEq:R2:=fun x y H Q=>scal x y=true/\Q (.bl (decide (x=y))) H
def rNe:R2:=fun x y H Q=>scal x y=true/\Q (.bl (!decide (x=y))) H
theorem Q3 {i j:Int}:decide (V.int i=V.int j)=(i==j):=by
 rw[Bool.eq_iff_iff]
 simp
theorem Kz {i j:Bool}:decide (V.bl i=V.bl j)=(i==j):=by
 rw[Bool.eq_iff_iff]
 simp
theorem Q0 {i j:Str}:decide (V.str i=V.str j)=(i==j):=by
 rw[Bool.eq_iff_iff]
 simp
theorem Q4 {i j:Array UInt8}:decide (V.byt i=V.byt j)=(i.toList==j.toList):=by
 rw[Bool.eq_iff_iff];cases i;cases j
 simp
section
variable {X:Cx}{a b c:Expr}{ta tb tc:TE}{pos:Pos}
theorem uX {pins:List (Addr×Obj)}{σ:St}{H:Hp}{s:Shared}{Q:VK}{k k':Bool}(I:Inv X pins σ H s)(q:Q (.bl k) H)(e:k=k'):EP X pins σ Q (.bool k') s:=by
 subst e;exact⟨.bl k,H,I,rfl,q⟩
theorem mX:OpR X (compareOp .Eq) rEq:=by
 intro pins s σ H x y v u Q I rx ry h;obtain⟨hs,q⟩:=h
 cases x with
 |non =>
  cases rx
  cases y with
  |non=>cases ry; exact PySem.EqNone.eq_none_none (uX I q (by simp))
  |bl j=>cases ry; exact PySem.EqNone.eq_none_bool (uX I q (by simp))
  |int j=>obtain⟨t',rfl⟩:=ry; exact PySem.EqNone.eq_none_int (uX I q (by simp))
  |str j=>obtain⟨t',rfl⟩:=ry; exact PySem.EqNone.eq_none_str (uX I q (by simp))
  |_=>exact absurd (show false=true from hs) Bool.false_ne_true
 |bl i =>
  cases rx
  cases y with
  |non=>cases ry; exact PySem.EqNone.eq_bool_none (uX I q (by simp))
  |bl j=>cases ry; exact eq_bool (uX I q Kz)
  |str j=>obtain⟨t',rfl⟩:=ry; exact PySem.EqMixed.eq_bool_str (uX I q (by simp))
  |_=>exact absurd (show false=true from hs) Bool.false_ne_true
 |int i =>
  obtain⟨t,rfl⟩:=rx
  cases y with
  |non=>cases ry; exact PySem.EqNone.eq_int_none (uX I q (by simp))
  |int j=>obtain⟨t',rfl⟩:=ry; exact eq_int (uX I q Q3)
  |str j=>obtain⟨t',rfl⟩:=ry; exact PySem.EqMixed.eq_int_str (uX I q (by simp))
  |_=>exact absurd (show false=true from hs) Bool.false_ne_true
 |str i =>
  obtain⟨t,rfl⟩:=rx
  cases y with
  |non=>cases ry; exact PySem.EqNone.eq_str_none (uX I q (by simp))
  |bl j=>cases ry; exact PySem.EqMixed.eq_str_bool (uX I q (by simp))
  |int j=>obtain⟨t',rfl⟩:=ry; exact PySem.EqMixed.eq_str_int (uX I q (by simp))
  |str j=>obtain⟨t',rfl⟩:=ry; exact eq_str (uX I q Q0)
  |_=>exact absurd (show false=true from hs) Bool.false_ne_true
 |byt i =>
  obtain⟨t,rfl⟩:=rx
  cases y with
  |byt j=>obtain⟨t',rfl⟩:=ry; exact PySem.W.eq_bytes (uX I q Q4)
  |_=>exact absurd (show false=true from hs) Bool.false_ne_true
 |_=>cases y<;>exact absurd (show false=true from hs) Bool.false_ne_true
theorem op_ne:OpR X (compareOp .NotEq) rNe:=by
 intro pins s σ H x y v u Q I rx ry h;obtain⟨hs,q⟩:=h
 cases x with
 |non =>
  cases rx
  cases y with
  |non=>cases ry; exact PySem.EqNone.ne_none_none (uX I q (by simp))
  |bl j=>cases ry; exact PySem.EqNone.ne_none_bool (uX I q (by simp))
  |int j=>obtain⟨t',rfl⟩:=ry; exact PySem.EqNone.ne_none_int (uX I q (by simp))
  |str j=>obtain⟨t',rfl⟩:=ry; exact PySem.EqNone.ne_none_str (uX I q (by simp))
  |_=>exact absurd (show false=true from hs) Bool.false_ne_true
 |bl i =>
  cases rx
  cases y with
  |non=>cases ry; exact PySem.EqNone.ne_bool_none (uX I q (by simp))
  |bl j=>cases ry; exact ne_bool (uX I q (congrArg not Kz))
  |str j=>obtain⟨t',rfl⟩:=ry; exact PySem.EqMixed.ne_bool_str (uX I q (by simp))
  |_=>exact absurd (show false=true from hs) Bool.false_ne_true
 |int i =>
  obtain⟨t,rfl⟩:=rx
  cases y with
  |non=>cases ry; exact PySem.EqNone.ne_int_none (uX I q (by simp))
  |int j=>obtain⟨t',rfl⟩:=ry; exact ne_int (uX I q (congrArg not Q3))
  |str j=>obtain⟨t',rfl⟩:=ry; exact PySem.EqMixed.ne_int_str (uX I q (by simp))
  |_=>exact absurd (show false=true from hs) Bool.false_ne_true
 |str i =>
  obtain⟨t,rfl⟩:=rx
  cases y with
  |non=>cases ry; exact PySem.EqNone.ne_str_none (uX I q (by simp))
  |bl j=>cases ry; exact PySem.EqMixed.ne_str_bool (uX I q (by simp))
  |int j=>obtain⟨t',rfl⟩:=ry; exact PySem.EqMixed.ne_str_int (uX I q (by simp))
  |str j=>obtain⟨t',rfl⟩:=ry; exact ne_str (uX I q (congrArg not Q0))
  |_=>exact absurd (show false=true from hs) Bool.false_ne_true
 |byt i =>
  obtain⟨t,rfl⟩:=rx
  cases y with
  |byt j=>obtain⟨t',rfl⟩:=ry; exact PySem.W.ne_bytes (uX I q (congrArg not Q4))
  |_=>exact absurd (show false=true from hs) Bool.false_ne_true
 |_=>cases y<;>exact absurd (show false=true from hs) Bool.false_ne_true
theorem sU:OpR X (compareOp .Lt) (rI0 fun i j=>.bl (decide (i < j))):=opB0 fun _ _ _ _ _ _ _ q=>lt_int q
theorem aJ:OpR X (compareOp .Gt) (rI0 fun i j=>.bl (decide (j < i))):=opB0 fun _ _ _ _ _ _ _ q=>gt_int q
theorem Ji:OpR X (compareOp .Is) (fun x y H Q=>y=.non/\Q (.bl (decide (x=.non))) H):=by
 intro pins s σ H x y v u Q I rx ry h;obtain⟨rfl,q⟩:=h;cases ry;refine is_none_gen (uX I q ?_)
 cases x<;>first
  | (cases rx; rfl)
  | (obtain⟨t,rfl⟩:=rx; rfl)
theorem op_notN:OpR X (compareOp .IsNot) (fun x y H Q=>y=.non/\Q (.bl (!decide (x=.non))) H):=by
 intro pins s σ H x y v u Q I rx ry h;obtain⟨rfl,q⟩:=h;cases ry;refine isnot_none_gen (uX I q ?_)
 cases x<;>first
  | (cases rx; rfl)
  | (obtain⟨t,rfl⟩:=rx; rfl)
theorem OpR.or {f:Value->Value->Sem Value}{r r':R2}(h:OpR X f r)(h':OpR X f r'):OpR X f (fun x y H Q=>r x y H Q\/r' x y H Q):=by
 intro pins s σ H x y v u Q I rx ry q
 rcases q with q | q
 .exact h pins s σ H x y v u Q I rx ry q
 .exact h' pins s σ H x y v u Q I rx ry q
theorem dY (b:Expr){op:CmpOp}(h:op≠.In:=by decide)(h2:op≠.NotIn:=by decide):behindInMarks op b=false:=by
 have e1:(op==CmpOp.In)=false:=by cases op<;>first | rfl | exact absurd rfl h
 have e2:(op==CmpOp.NotIn)=false:=by cases op<;>first | rfl | exact absurd rfl h2
 cases b<;>simp[behindInMarks,e1,e2]
theorem pe_cmpR {op:CmpOp}{r:R2}(ho:OpR X (compareOp op) r)(ha:PE X a ta)(hb:PE X b tb)(hm:behindInMarks op b=false):PE X (.Compare a [op] [b] pos) (tOp r ta tb):=by
 intro pins s σ H Q I h;exact wpAny_Compare1 (binT ha hb I h fun v u s2 x y H2 I2 rx ry q=>ho pins s2 σ H2 x y v u Q I2 rx ry q) hm
def ZC (t:TE):TT:=fun σ H Q=>t σ H (IBl Q)
theorem pt_cmpR {op:CmpOp}{r:R2}(ho:OpR X (compareOp op) r)(ha:PE X a ta)(hb:PE X b tb)(hm:behindInMarks op b=false):PT X (.Compare a [op] [b] pos) (ZC (tOp r ta tb)):=by
 intro pins s σ H Q I h
 refine wpAny_isTrue_Compare1 (thn (ha pins s σ H _ I h) fun v s1 ⟨x,H1,I1,r1,q1⟩=>thn (hb pins s1 σ H1 _ I1 q1) fun u s2 ⟨y,H2,I2,r2,q2⟩ =>
  thn (ho pins s2 σ H2 x y v u _ I2 r1 r2 q2) fun c s3 ⟨z,H3,I3,r3,k,e,q3⟩=>?_) hm
 subst e;cases r3;exact wpAny_truthy_bool ⟨H3,I3,q3⟩
def TruV (K:PySem.W.Frag)(x:V)(H:Hp)(k:Bool):Prop :=
 match x with
 |.non=>k=false
 |.bl b=>k=b
 |.int i=>k=(i != 0)
 |.str y=>y.length<=sizeLine/\k=((y.length:Int) != 0)
 |.byt y=>y.size<=sizeLine/\k=((y.size:Int) != 0)
 |.ref p=>(∃xs,SqL K H p xs/\k = !xs.isEmpty)\/(∃xs,SqT K H p xs/\k = !xs.isEmpty)\/∃kvs,H p=some (.dK kvs)/\k = !kvs.isEmpty
 |_=>False
theorem gI {κ:Type}{kvs:List (κ×V)}{vs:List (κ×Value)}(r:KV kvs vs):(!vs.isEmpty) = !kvs.isEmpty:=by
 cases r<;>rfl
theorem vP {xs:List V}{its:List Value}(r:Vals xs its):(!its.toArray.isEmpty) = !xs.isEmpty:=by
 cases r<;>simp
theorem iU:(sizeLine:Nat) < 2 ^ 63:=by rw[sizeLine_eq]; decide
theorem tru_ok:TruR X (fun x H Q=>∃k,TruV X.K x H k/\Q k H):=by
 intro pins s σ H x v Q I rx h;obtain⟨k,e,q⟩:=h;have hl:=iU;have hs:sizeLine=16777216:=sizeLine_eq
 cases x with
 |non =>
  cases rx;have e':k=false:=e;subst e';exact truthy_none ⟨H,I,q⟩
 |bl b =>
  cases rx;have e':k=b:=e;subst e';exact wpAny_truthy_bool ⟨H,I,q⟩
 |int i =>
  obtain⟨t,rfl⟩:=rx;have e':k=(i != 0):=e;subst e';exact PySem.P.truthy_int ⟨H,I,q⟩
 |str y =>
  obtain⟨t,rfl⟩:=rx;obtain⟨hy,e'⟩:y.length<=sizeLine/\k=((y.length:Int) != 0):=e;subst e';exact PySem.P.truthy_str (by omega) ⟨H,I.tok _,q⟩
 |byt y =>
  obtain⟨t,rfl⟩:=rx;obtain⟨hy,e'⟩:y.size<=sizeLine/\k=((y.size:Int) != 0):=e;subst e';exact PySem.W.truthy_bytes (by omega) ⟨H,I.tok _,q⟩
 |ref p =>
  cases rx;have e':(∃xs,SqL X.K H p xs/\k = !xs.isEmpty)\/(∃xs,SqT X.K H p xs/\k = !xs.isEmpty)\/∃kvs,H p=some (.dK kvs)/\k = !kvs.isEmpty:=e
  rcases e' with ⟨xs,hx,e'⟩ | ⟨xs,hx,e'⟩ | ⟨kvs,hx,e'⟩
  .subst e'
   obtain⟨its,r,pl,hz⟩:=I.list hx;have hlen:=r.length;exact wpAny_truthy_list pl.isList (by simp only[List.size_toArray]; omega) ⟨H,I.tok _,by rw[vP r]; exact q⟩
  .subst e'
   obtain⟨its,r,pl,hz⟩:=I.tuple hx;have hlen:=r.length;exact truthy_tuple pl (by simp only[List.size_toArray]; omega) ⟨H,I.tok _,by rw[vP r]; exact q⟩
  .subst e'
   obtain⟨hz,hS,vs,r,m⟩:kvs.length<=sizeLine/\(p==sysModules)=false/\∃vs,KV kvs vs/\s.heap.DictOf (oQ X.prog X.w) p vs:=I.hok p _ hx;have hlen:kvs.length=vs.length:=Paired.length r;exact wpAny_truthy_dict hS m (by omega) ⟨H,I.tok _,by rw[gI r]; exact q⟩
 |_=>exact(show False from e).elim
theorem Z0 (ha:PE X a ta)(he:∀whole,isTrue a X.env whole=(do let v <- whole; standAt a.pos; holding [v] (truthy v))):
  PT X a (fun σ H Q=>ta σ H fun x H'=>∃k,TruV X.K x H' k/\Q k H'):=by
 intro pins s σ H Q I h;exact isTrue_plain (thn (ha pins s σ H _ I h) fun v s1 ⟨x,H1,I1,r1,q1⟩=>tru_ok pins s1 σ H1 x v Q I1 r1 q1) (he _)
theorem pA:OpR X (binaryOp .Add) (fun x y H Q=>∃i j,x=.str i/\y=.str j/\i.length+j.length<=sizeLine/\Q (.str (i++j)) H):=by
 intro pins s σ H x y v u Q I rx ry h;obtain⟨i,j,rfl,rfl,hz,q⟩:=h;obtain⟨t,rfl⟩:=rx;obtain⟨t',rfl⟩:=ry;exact add_str (fun t' tk=>⟨.str (i++j),H,I.tok _,⟨_,rfl⟩,q⟩) hz
theorem sW {x:V}{us:List Value}(r:Vals [x] us):∃u,us=[u]/\RelV x u:=by
 cases r with
 |cons r1 r2=>cases r2; exact⟨_,rfl,r1⟩
theorem dS {x y:V}{us:List Value}(r:Vals [x,y] us):∃u w',us=[u,w']/\RelV x u/\RelV y w':=by
 cases r with
 |cons r1 r2 =>
  cases r2 with
  |cons r3 r4=>cases r4; exact⟨_,_,rfl,r1,r3⟩
theorem K2:CallR X (.builtin "abs") (fun xs H Q=>∃i,xs=[.int i]/\Q (.int (if i < 0 then -i else i)) H):=by
 intro pins s σ H xs us Q I r h;obtain⟨i,rfl,q⟩:=h;obtain⟨u,rfl,t,rfl⟩:=sW r;exact call_abs_int fun u tk=>⟨.int (if i < 0 then -i else i),H,I.tok _,⟨_,rfl⟩,q⟩
theorem Zh (hc:X.calm=true):CallR X (.builtin "max") (fun xs H Q=>∃i j,xs=[.int i,.int j]/\Q (.int (if j > i then j else i)) H):=by
 intro pins s σ H xs us Q I r h;obtain⟨i,j,rfl,q⟩:=h;obtain⟨u,w',rfl,⟨t,rfl⟩,⟨t',rfl⟩⟩:=dS r;refine max_two_ints (I.ok.hd hc) fun h' tk k=>⟨_,H,I.kept k,?_,q⟩
 by_cases hj:j > i
 .rw [if_pos hj,if_pos hj]; exact⟨_,rfl⟩
 .rw [if_neg hj,if_neg hj]; exact⟨_,rfl⟩
theorem xC (hc:X.calm=true):CallR X (.builtin "min") (fun xs H Q=>∃i j,xs=[.int i,.int j]/\Q (.int (if j < i then j else i)) H):=by
 intro pins s σ H xs us Q I r h;obtain⟨i,j,rfl,q⟩:=h;obtain⟨u,w',rfl,⟨t,rfl⟩,⟨t',rfl⟩⟩:=dS r;refine min_two_ints (I.ok.hd hc) fun h' tk k=>⟨_,H,I.kept k,?_,q⟩
 by_cases hj:j < i
 .rw [if_pos hj,if_pos hj]; exact⟨_,rfl⟩
 .rw [if_neg hj,if_neg hj]; exact⟨_,rfl⟩
theorem fU:CallR X (.type "int") (fun xs H Q=>(∃i,xs=[.int i]/\Q (.int i) H)\/∃k,xs=[.bl k]/\Q (.int (if k then 1 else 0)) H):=by
 intro pins s σ H xs us Q I r h
 rcases h with ⟨i,rfl,q⟩ | ⟨k,rfl,q⟩
 .obtain ⟨u,rfl,t,rfl⟩:=sW r
  exact call_int_int ⟨.int i,H,I,⟨_,rfl⟩,q⟩
 .obtain ⟨u,rfl,r1⟩:=sW r
  cases r1;exact call_int_bool ⟨.int (if k then 1 else 0),H,I.tok _,⟨_,rfl⟩,q⟩
end
structure ObjM (h:Heap)(x dx C:Addr)(mA:Str->Option Value):Prop where
 obj:h.get? x=some (PySem.W.instObj C dx)
 ns:h.Ns1 dx mA
 ne:dx≠x
theorem XU {h:Heap}{dx:Addr}{mA:Str->Option Value}(n:h.Ns1 dx mA):∃od,h.get? dx=some od/\∀name,PySem.W.lookIn name od=some (mA name):=by
 obtain⟨o,es,ep,ho,hd,hk,_,hm⟩:=n;refine⟨o,ho,fun name=>?_⟩;have e:=hm name;unfold nsFind findBy at e;rw[<- Array.find?_toList] at e;unfold PySem.W.lookIn;rw[hd];dsimp only
 split
 .rename_i y q
  rw[q] at e;exact congrArg some e
 .rename_i q
  rw[q] at e
  have a:es.toList.any (·.refKey)=false:=by
   rw[List.any_eq_false];intro y hy;obtain⟨z,t,hkey⟩:=hk y (Array.mem_toList_iff.mp hy)
   simp[DictEntry.refKey,hkey]
  have a':¬ es.toList.any (·.refKey)=true:=by rw[a]; exact Bool.false_ne_true
  rw[if_neg a'];exact congrArg some e
theorem ObjM.look {h:Heap}{x dx C:Addr}{mA:Str->Option Value}(I:ObjM h x dx C mA):∃od,PySem.W.InstAt h x (PySem.W.instObj C dx) C (some od)/\∀name,PySem.W.lookIn name od=some (mA name) :=
 let ⟨od,ho,hl⟩:=XU I.ns
 ⟨od,⟨I.obj,rfl,rfl,ho⟩,hl⟩
section
variable {prog:Program}{w:World}{A:Around}{E:Value->Shared->Prop}{s:Shared}{K:PySem.W.Frag}{x dx C f:Addr}{mA:Str->Option Value}{name:Str}{v:Value}
theorem get_map {expr:Bool}{Q:Value->Shared->Prop}(X:K.In s.heap)(I:ObjM s.heap x dx C mA)(hg:PySem.W.plainGet K C name=true)(hh:PySem.W.hasDictIn K C=true)
  (ha:PySem.W.findIn K (.ref C) name=some none) (hv:mA name=some v) (hv':PySem.W.handedIn v=true) (h:Q v { s with toks:=s.toks+1 }) :
  wpAny (model prog w) A (getAttr (.ref x) name expr) Q E s:=by
 obtain⟨od,J,hl⟩:=I.look;exact PySem.W.get_value X J (PySem.W.plainGet_of hg).1 (PySem.W.findObj_own hh ha rfl (by rw[hl,hv])) hv' h
theorem Kj {pl:Sem Bool}{Q:Value×List Value->Shared->Prop}(X:K.In s.heap)(I:ObjM s.heap x dx C mA)(hg:PySem.W.plainGet K C name=true)
  (hf:PySem.W.findIn K (.ref C) name=some (some (.ref f))) (ht:PySem.W.isFn K (.ref f)=true) (hv:mA name=none) (h:Q (.ref f,[.ref x]) s) :
  wpAny (model prog w) A (getMethod (.ref x) name pl) Q E s:=by
 obtain⟨od,J,hl⟩:=I.look;exact PySem.W.method_fn X J (PySem.W.plainGet_of hg).1 (PySem.W.plainGet_of hg).2 hf (beq_iff_eq.mp ht) (by show(PySem.W.lookIn name od).map (·.isSome)=some false; rw[hl,hv]; rfl) h
theorem set_map {ns:List Str}{Q:Unit->Shared->Prop}(X:K.In s.heap)(I:ObjM s.heap x dx C mA)
  (hs:PySem.W.findIn K (.ref C) "__setattr__" = some (some (.builtin "object.__setattr__"))) (hp:PySem.W.plainOver K C=true) (ht:PySem.W.takerIn K C name=some none) (hh:PySem.W.hasDictIn K C=true)
  (hw:PySem.Within mA ns) (hsz:ns.length<=sizeLine)
  (h:∀h',ObjM h' x dx C (fun y=>if y=name then some v else mA y)->Heap.SameBut dx s.heap h'->Q () { s with heap:=h',toks:=s.toks+2 }) :
  wpAny (model prog w) A (setAttr (.ref x) name v) Q E s:=by
 obtain⟨od,J,hl⟩:=I.look;refine PySem.W.set_plain X J hs (PySem.W.osa_open (s:={ s with toks:=s.toks+1 }) (r:=none) X J hp ht fun b=>?_);obtain⟨cd,hc,hd'⟩:=PySem.W.any_some hh;have hx:s.heap.get? x=some ⟨.ref C,some dx,.plain,#[]⟩:=I.obj;refine wpAny_bind (wpAny_pure (wpAny_bind (wpAny_bind (wpAny_loadPart hx (wpAny_bind (PySem.W.Looks.here (s:={ s with toks:=s.toks+1 }) (PySem.W.looks_clsIn X hc) ?_))))))
 rw[hd'];refine wpAny_pure (a:=some dx) (wpAny_bind (wpAny_pure (wpAny_bind ?_)));refine wpAny_nsSet1 (s:={ s with toks:=s.toks+1 }) I.ns fun h' hn2 hs2=>?_;obtain⟨oD,esD,epD,hoD,hdD,hcD⟩:=hn2.count (PySem.Within.cons name v hw);refine wpAny_bind (wpAny_lookBehind hoD (by rw[hdD]; exact pastItsLine_dict (Nat.le_trans hcD (by rw[List.length_cons]; omega))) ?_);exact wpAny_pure (h _ ⟨(hs2.2 _ (Ne.symm I.ne)).trans I.obj,hn2,I.ne⟩ hs2)
theorem JJ {R:Result->Shared->Prop}{vs:List Value}{kw:List (Str×Value)}(X:K.In s.heap)(hm:PySem.W.makesIn K C=true)
  (hi:PySem.W.findIn K (.ref C) "__init__" = some (some (.ref f))) (hf:PySem.W.typeIn K (.ref f)=some (.type "function"))
  (h:codeAny (model prog w) (A.under (.builtin "type.__call__" ⟨.ref C::vs,kw⟩)) (.call (.ref f) ⟨.ref (s.heap.objs.size+1)::vs,kw⟩) (PySem.W.InitBack (s.heap.objs.size+1) R)
   { s with heap:=(s.heap.push PySem.W.emptyDict).push (PySem.W.instObj C s.heap.objs.size) }) :
  codeAny (model prog w) A (.call (.ref C) ⟨vs,kw⟩) R s:=by
 obtain⟨hh,g,d,t,os⟩:=s;exact PySem.W.make_core (PySem.W.makes_of X hm) (PySem.W.looks_findIn X hi) (fun self=>PySem.W.bind_fn X self hf) (.inl rfl) h
end
def fY (f:Str)(v:V):List (Str×V)->List (Str×V)
 |[]=>[(f,v)]
 | (g,x)::r=>if g=f then (g,v)::r else (g,x)::fY f v r
theorem zD (f g:Str)(v:V):∀fs:List (Str×V),(fY f v fs).lookup g=if g=f then some v else fs.lookup g
 |[]=>by
  show List.lookup g [(f,v)]=_
  by_cases h:g=f
  .have hb:(g==f)=true:=beq_iff_eq.mpr h
   simp only[List.lookup,hb,if_pos h]
  .have hb:(g==f)=false:=beq_eq_false_iff_ne.mpr h
   simp only[List.lookup,hb,if_neg h]
 | (k,x)::r=>by
  have ih:=zD f g v r;rw[show fY f v ((k,x)::r)=(if k=f then (k,v)::r else (k,x)::fY f v r) from rfl]
  by_cases hk:k=f
  .rw [if_pos hk]
   by_cases h:g=k
   .have hb:(g==k)=true:=beq_iff_eq.mpr h
    simp only[List.lookup,hb,if_pos (h.trans hk)]
   .have hb:(g==k)=false:=beq_eq_false_iff_ne.mpr h
    simp only[List.lookup,hb,if_neg (fun e:g=f=>h (e.trans hk.symm))]
  .rw [if_neg hk]
   by_cases h:g=k
   .have hb:(g==k)=true:=beq_iff_eq.mpr h
    simp only[List.lookup,hb,if_neg (fun e:g=f=>hk (h.symm.trans e))]
   .have hb:(g==k)=false:=beq_eq_false_iff_ne.mpr h
    simp only[List.lookup,hb]
    exact ih
theorem jF (f:Str)(v:V):∀fs:List (Str×V),f∈(fY f v fs).map (·.1)/\∀g,g∈fs.map (·.1)->g∈(fY f v fs).map (·.1)
 |[]=>⟨by simp[fY],fun g h=>by simp at h⟩
 | (k,x)::r=>by
  obtain⟨i1,i2⟩:=jF f v r;rw[show fY f v ((k,x)::r)=(if k=f then (k,v)::r else (k,x)::fY f v r) from rfl]
  by_cases hk:k=f
  .rw [if_pos hk]
   subst hk;exact⟨by simp,fun g h=>by simpa using h⟩
  .rw [if_neg hk]
   refine⟨?_,fun g h=>?_⟩
   .rw [List.map_cons]
    exact List.mem_cons_of_mem _ i1
   .rw [List.map_cons] at h ⊢
    rcases List.mem_cons.mp h with e | e
    .exact List.mem_cons.mpr (.inl e)
    .exact List.mem_cons_of_mem _ (i2 g e)
theorem jD (f:Str)(v:V):∀fs:List (Str×V),(fY f v fs).length<=fs.length+1
 |[]=>by simp[fY]
 | (k,x)::r=>by
  have ih:=jD f v r;rw[show fY f v ((k,x)::r)=(if k=f then (k,v)::r else (k,x)::fY f v r) from rfl]
  by_cases hk:k=f
  .rw [if_pos hk,List.length_cons,List.length_cons]; omega
  .rw [if_neg hk,List.length_cons,List.length_cons]; omega
theorem RelO.some_of {v:V}{o:Option Value}(r:RelO (some v) o):∃u,o=some u/\RelV v u:=by
 cases o with
 |none=>exact(show False from r).elim
 |some u=>exact⟨u,rfl,r⟩
theorem RelO.none_of {o:Option Value}(r:RelO none o):o=none:=by
 cases o with
 |none=>rfl
 |some u=>exact(show False from r).elim
theorem X5 {v:V}{u:Value}(r:RelV v u):PySem.W.handedIn u=true:=by
 cases v with
 |non=>cases (show u=Value.none from r); rfl
 |bl b=>cases (show u=Value.bool b from r); rfl
 |int i=>obtain⟨t,e⟩:=(show ∃t,u=Value.int i t from r); cases e; rfl
 |str x=>obtain⟨t,e⟩:=(show ∃t,u=Value.str x t from r); cases e; rfl
 |byt b=>obtain⟨t,e⟩:=(show ∃t,u=Value.bytes b t from r); cases e; rfl
 |flt b=>obtain⟨t,e⟩:=(show ∃t,u=Value.float b t from r); cases e; rfl
 |ref a=>cases (show u=Value.ref a from r); rfl
 |ty n=>cases (show u=Value.type n from r); rfl
section
variable {P:Program}{w:World}{H H':Hp}{h h':Heap}{a C dx:Addr}{fs fs':List (Str×V)}
theorem lD (hok:HOk P w H h)(e:H a=some (.ins C dx fs)):∃mA,ObjM h a dx C mA/\(∀f,RelO (fs.lookup f) (mA f))/\PySem.Within mA (fs.map (·.1))/\fs.length<=1000/\H dx=some (.own a):=by
 obtain⟨d,z,ne,ob,mA,n,r,q⟩:=(show ObjOk P w H h a (.ins C dx fs) from hok a _ e);exact⟨mA,⟨ob,n,ne⟩,r,q,z,d⟩
end
structure Cls (K:PySem.W.Frag)(C:Addr):Prop where
 pg:PySem.W.plainGet K C Str.empty=true
 hd:PySem.W.hasDictIn K C=true
 po:PySem.W.plainOver K C=true
 sa:PySem.W.findIn K (.ref C) "__setattr__" = some (some (.builtin "object.__setattr__"))
theorem Cls.get {K:PySem.W.Frag}{C:Addr}(c:Cls K C)(f:Str):PySem.W.plainGet K C f=true:=c.pg
def NoAttr (K:PySem.W.Frag)(C:Addr)(f:Str):Prop:=PySem.W.findIn K (.ref C) f=some none
theorem NoAttr.taker {K:PySem.W.Frag}{C:Addr}{f:Str}(n:NoAttr K C f):PySem.W.takerIn K C f=some none:=by
 unfold PySem.W.takerIn;rw[show PySem.W.findIn K (.ref C) f=some none from n]
 rfl
structure Vg (K:PySem.W.Frag)(C:Addr)(m:Str)(f:Addr):Prop where
 at_:PySem.W.findIn K (.ref C) m=some (some (.ref f))
 fn:PySem.W.isFn K (.ref f)=true
 kp:PySem.W.keepIn K (.ref f)=true
section
variable {X:Cx}{pins:List (Addr×Obj)}{σ:St}{H:Hp}{s:Shared}{a C dx:Addr}{fs:List (Str×V)}{f:Str}{v:V}{A:Around}{E:Value->Shared->Prop}
theorem fI {b:Bool}{Q:Value->Shared->Prop}(I:Inv X pins σ H s)(e:H a=some (.ins C dx fs))(c:Cls X.K C)(n:NoAttr X.K C f)(l:fs.lookup f=some v)
  (h:∀u s',Inv X pins σ H s'->RelV v u->Q u s'):wpAny (model X.prog X.w) A (getAttr (.ref a) f b) Q E s:=by
 obtain⟨mA,O,r,_,_,_⟩:=lD I.hok e;obtain⟨u,hu,ru⟩:=RelO.some_of (v:=v) (o:=mA f) (by rw[<- l]; exact r f);exact get_map I.kIn O (c.get f) c.hd n hu (X5 ru) (h u _ (I.tok _) ru)
theorem wP {m:Str}{g:Addr}{pl:Sem Bool}{Q:Value×List Value->Shared->Prop}(I:Inv X pins σ H s)(e:H a=some (.ins C dx fs))(c:Cls X.K C)(k:Vg X.K C m g)(l:fs.lookup m=none)
  (h:Q (.ref g,[.ref a]) s):wpAny (model X.prog X.w) A (getMethod (.ref a) m pl) Q E s:=by
 obtain⟨mA,O,r,_,_,_⟩:=lD I.hok e;have hn:mA m=none:=RelO.none_of (by rw[<- l]; exact r m);exact Kj I.kIn O (c.get m) k.at_ k.fn hn h
theorem vA {y:V}{u:Value}{Q:Unit->Shared->Prop}(I:Inv X pins σ H s)(e:H a=some (.ins C dx fs))(c:Cls X.K C)(n:NoAttr X.K C f)(hl:fs.length < 1000)(ry:RelV y u)
  (h:∀s',Inv X pins σ (upd H a (.ins C dx (fY f y fs))) s'->Q () s'):wpAny (model X.prog X.w) A (setAttr (.ref a) f u) Q E s:=by
 obtain⟨mA,O,r,wi,_,ho⟩:=lD I.hok e;have hz:(fs.map (·.1)).length<=sizeLine:=by rw[List.length_map,sizeLine_eq]; omega
 refine set_map I.kIn O c.sa c.po n.taker c.hd wi hz fun h' O' sb=>h _ ?_;have hd:∃o,h'.get? dx=some o:=let ⟨o,_,_,e',_⟩:=O'.ns; ⟨o,e'⟩
 refine I.write (x:=a) (e:=dx) (by rw[e]; exact True.intro) (.inr ho) (fun b q hb z=>(sb.2 b hb).trans z) hd ?_;refine⟨by rw[cQ O.ne]; exact ho,?_,O.ne,O'.obj,_,O'.ns,fun g=>?_,fun g hg=>?_⟩
 .have:=jD f y fs; omega
 .show RelO ((fY f y fs).lookup g) (if g=f then some u else mA g)
  rw[zD]
  by_cases q:g=f
  .rw [if_pos q,if_pos q]; exact ry
  .rw [if_neg q,if_neg q]; exact r g
 .by_cases q:g=f
  .rw [q]; exact(jF f y fs).1
  .refine (jF f y fs).2 g (wi g fun z=>hg ?_)
   show(if g=f then some u else mA g)=none;rw[if_neg q]; exact z
theorem Inv.made (I:Inv X pins σ H s):Inv X pins σ (upd (upd H s.heap.objs.size (.own (s.heap.objs.size+1))) (s.heap.objs.size+1) (.ins C s.heap.objs.size []))
  { s with heap:=(s.heap.push PySem.W.emptyDict).push (PySem.W.instObj C s.heap.objs.size) }:=by
 have e1:(s.heap.push PySem.W.emptyDict).get? s.heap.objs.size=some PySem.W.emptyDict:=Heap.get?_push_size s.heap rfl
 have e2:((s.heap.push PySem.W.emptyDict).push (PySem.W.instObj C s.heap.objs.size)).get? (s.heap.objs.size+1)=some (PySem.W.instObj C s.heap.objs.size):=by
  have:=Heap.get?_push_size (s.heap.push PySem.W.emptyDict) (o:=PySem.W.instObj C s.heap.objs.size) rfl
  rwa [Heap.size_push] at this
 have e3:(s.heap.push PySem.W.emptyDict).Ns s.heap.objs.size (fun _=>none):=⟨PySem.W.emptyDict,#[],_,e1,rfl,(fun e he=>absurd he (by simp)),fun _=>rfl⟩;have I1:=I.laid (a:=s.heap.objs.size) (o:=.own (s.heap.objs.size+1)) (h':=s.heap.push PySem.W.emptyDict) (t':=s.toks) (fun b u q=>Heap.get?_push_of_some _ q) (Nat.le_refl _) ⟨_,e1⟩;refine I1.laid (a:=s.heap.objs.size+1) (o:=.ins C s.heap.objs.size []) (t':=s.toks) (fun b u q=>Heap.get?_push_of_some _ q) (Nat.le_of_eq (Heap.size_push _ _)) ?_
 have ne:s.heap.objs.size≠s.heap.objs.size+1:=Nat.ne_of_lt (Nat.lt_succ_self _);refine⟨by rw[cQ ne,gQ],Nat.zero_le _,ne,e2,fun _=>none,(Heap.Ns1.of_empty e3).at fun o q=>Heap.get?_push_of_some _ q,fun _=>True.intro,fun y hy=>absurd rfl hy⟩
theorem attr_of {prog:Program}{w:World}{env:Env}{e:Expr}{f:Str}{pos:Pos}{s:Shared}{Q:Value->Shared->Prop}(hb:attributeBase e f env (eval e env)=eval e env)
  (h:wpAny (model prog w) A (eval e env) (fun o s₁=>wpAny (model prog w) A (getAttr o f true) Q E s₁) E s):wpAny (model prog w) A (eval (.Attribute e f pos) env) Q E s :=
 Attribute_any_ h (by rw[arm_eval_Attribute,hb])
end
def tFld (K:PySem.W.Frag)(ta:TE)(f:Str):TE:=fun σ H Q=>ta σ H fun x H1=>∃a C dx fs v,x=.ref a/\H1 a=some (.ins C dx fs)/\Cls K C/\NoAttr K C f/\fs.lookup f=some v/\Q v H1
def sFld (K:PySem.W.Frag)(ta tv:TE)(f:Str):TS:=fun D σ H=>tv σ H fun y H1=>ta σ H1 fun x H2=>∃a C dx fs,x=.ref a/\H2 a=some (.ins C dx fs)/\Cls K C/\NoAttr K C f/\fs.length < 1000 /\
 D.nx σ (upd H2 a (.ins C dx (fY f y fs)))
section
variable {X:Cx}{o e value:Expr}{f:Str}{pos pos' tpos:Pos}{ta tv:TE}
theorem pe_fld (he:PE X e ta)(hb:attributeBase e f X.env (eval e X.env)=eval e X.env):PE X (.Attribute e f pos) (tFld X.K ta f):=by
 intro pins s σ H Q I h;refine attr_of hb (thn (he pins s σ H _ I h) fun u s1 ⟨x,H1,I1,rx,a,C,dx,fs,v,ex,ea,c,n,l,q⟩=>?_);subst ex;obtain rfl:u=Value.ref a:=rx;exact fI I1 ea c n l fun u' s2 I2 ru=>⟨v,H1,I2,ru,q⟩
theorem ps_fld (ha:PE X o ta)(hv:PE X value tv)(hs:swapsWith value (some (.Attribute o f pos')) pos.line X.env=pure false):PS X (.Assign [.Attribute o f pos'] value pos) (sFld X.K ta tv f):=by
 intro pins s σ H D I h;refine plainObj_wpAny_Assign_Attribute (thn (hv pins s σ H _ I h) fun u s1 ⟨y,H1,I1,ry,q⟩=>thn (ha pins s1 σ H1 _ I1 q) fun ov s2 ⟨x,H2,I2,rx,a,C,dx,fs,ex,ea,c,n,l,q2⟩=>?_) hs;subst ex;obtain rfl:ov=Value.ref a:=rx;exact vA I2 ea c n l ry fun s3 I3=>⟨σ,_,I3,q2⟩
end
section
variable {X:Cx}{pins:List (Addr×Obj)}{σ:St}{H:Hp}{s:Shared}{A:Around}{E:Value->Shared->Prop}{Q:Value->Shared->Prop}{c:Value}{b:Bool}
inductive cF (K:PySem.W.Frag)(H:Hp):V->Value->Prop where
 |non:cF K H .non (.type "NoneType")
 |bl (x:Bool):cF K H (.bl x) (.type "bool")
 |int (i:Int):cF K H (.int i) (.type "int")
 |str (x:Str):cF K H (.str x) (.type "str")
 |flt (x:UInt64):cF K H (.flt x) (.type "float")
 |lst {a:Addr} {xs:List V} (e:H a=some (.lst xs)):cF K H (.ref a) (.type "list")
 |frz {a:Addr} {o:Obj} {xs:List V} (e:H a=some (.frz o (.lst xs))):cF K H (.ref a) (.type "list")
 |tup {a:Addr} {xs:List V} (e:H a=some (.tup xs)):cF K H (.ref a) (.type "tuple")
 |dK {a:Addr} {kvs:List (Key×V)} (e:H a=some (.dK kvs)):cF K H (.ref a) (.type "dict")
 |dT {a:Addr} {kvs:List (List Key×V)} (e:H a=some (.dT kvs)):cF K H (.ref a) (.type "dict")
 |ins {a C dx:Addr} {fs:List (Str×V)} (e:H a=some (.ins C dx fs)) (cl:Cls K C) (ha:PySem.W.findIn K (.ref C) "__class__" = some (some (.builtin "object.__class__")))
   (hn:PySem.W.specialIn K (.builtin "object.__class__") "__get__" = some (some (.builtin "getset_descriptor.__get__"))) (htk:PySem.W.takesIn K (.builtin "object.__class__")=some true)
   (hm:PySem.W.mroIn K C (.type "object")=some true):cF K H (.ref a) (.ref C)
theorem X0 {x:V}{u t:Value}(I:Inv X pins σ H s)(rx:RelV x u)(ty:cF X.K H x t)(e:PySem.W.kitOne X.K t c=some b)(h:∀tk,Q (.bool b) { s with toks:=tk }):
  wpAny (model X.prog X.w) A (call (.builtin "isinstance") [u,c]) Q E s:=by
 cases ty with
 |non=>cases (show u=Value.none from rx); exact PySem.W.kia_one PySem.W.kitx_none I.kIn True.intro e (fun z=>nomatch z) h
 |bl y=>cases (show u=Value.bool y from rx); exact PySem.W.kia_one PySem.W.kitx_bool I.kIn True.intro e (fun z=>nomatch z) h
 |int i=>obtain⟨t,q⟩:=(show ∃t,u=Value.int i t from rx); cases q; exact PySem.W.kia_one PySem.W.kitx_int I.kIn True.intro e (fun z=>nomatch z) h
 |str y=>obtain⟨t,q⟩:=(show ∃t,u=Value.str y t from rx); cases q; exact PySem.W.kia_one PySem.W.kitx_str I.kIn True.intro e (fun z=>nomatch z) h
 |flt y=>obtain⟨t,q⟩:=(show ∃t,u=Value.float y t from rx); cases q; exact PySem.W.kia_one PySem.W.kitx_float I.kIn True.intro e (fun z=>nomatch z) h
 |@lst a xs ea =>
  cases (show u=Value.ref a from rx);obtain⟨_,_,n,_,h1⟩:=(show ObjOk X.prog X.w H s.heap a (.lst xs) from I.hok a _ ea);exact PySem.W.kia_one PySem.W.kitx_list I.kIn ⟨_,h1,rfl⟩ e (fun z=>nomatch z) h
 |@frz a ob xs ea =>
  cases (show u=Value.ref a from rx);obtain⟨_,_,_,n,_,h1⟩:=(show ObjOk X.prog X.w H s.heap a (.frz ob (.lst xs)) from I.hok a _ ea);exact PySem.W.kia_one PySem.W.kitx_list I.kIn ⟨_,h1,rfl⟩ e (fun z=>nomatch z) h
 |@tup a xs ea =>
  cases (show u=Value.ref a from rx);obtain⟨_,_,_,p⟩:=(show ObjOk X.prog X.w H s.heap a (.tup xs) from I.hok a _ ea);obtain⟨o,h1,h2,_⟩:=p;exact PySem.W.kia_one PySem.W.kitx_tuple I.kIn ⟨o,h1,h2⟩ e (fun z=>nomatch z) h
 |@dK a kvs ea =>
  cases (show u=Value.ref a from rx);obtain⟨_,_,vs,_,p⟩:=(show ObjOk X.prog X.w H s.heap a (.dK kvs) from I.hok a _ ea);obtain⟨o,es,ep,h1,h2,_⟩:=p;exact PySem.W.kia_one PySem.W.kitx_dict I.kIn ⟨o,h1,h2.1⟩ e (fun z=>nomatch z) h
 |@dT a kvs ea =>
  cases (show u=Value.ref a from rx);obtain⟨_,_,xs,_,o,es,ep,h1,h2,_⟩:=(show ObjOk X.prog X.w H s.heap a (.dT kvs) from I.hok a _ ea);exact PySem.W.kia_one PySem.W.kitx_dict I.kIn ⟨o,h1,h2.1⟩ e (fun z=>nomatch z) h
 |@ins a C dx fs ea cl ha hn htk hm =>
  cases (show u=Value.ref a from rx);obtain⟨mA,O,_⟩:=lD I.hok ea;obtain⟨od,J,_⟩:=O.look;exact PySem.W.kia_one (PySem.W.kitx_own (cl.get _) cl.hd ha hn htk hm) I.kIn J e (fun z=>nomatch z) h
end
structure Room (k:Nat)(A:Around):Prop where
 hd:A.handled=none
 dp:A.depth+3 * k+5 < recursionLimit
 un:A.units+16 * k+200 < cLine
theorem Room.mono {j k:Nat}{A:Around}(r:Room k A)(h:j<=k):Room j A:=⟨r.hd,by have:=r.dp; omega,by have:=r.un; omega⟩
theorem Room.deeper {k:Nat}{A:Around}(r:Room (k+1) A)(env:Env):Room k (A.deeper env) :=
 ⟨r.hd,by have:=r.dp; show A.depth+1+3 * k+5 < _; omega,by have:=r.un; show A.units+3+16 * k+200 < _; omega⟩
theorem oA {A:Around}{C:Addr}{us:List Value}{kw:List (Str×Value)}:(A.under (.builtin "type.__call__" ⟨.ref C::us,kw⟩)).depth=A.depth+1:=by
 first | rfl | simp[Around.under,Code.weight,Code.isCreation,Code.isGuard,Code.isCaller,Code.frames,Code.isFrame,guardIds]
theorem sA {A:Around}{C:Addr}{us:List Value}{kw:List (Str×Value)}:(A.under (.builtin "type.__call__" ⟨.ref C::us,kw⟩)).units=A.units+1:=by
 first | rfl | simp[Around.under,Code.cUnits,Code.frames,Code.isFrame]
theorem Room.make {k:Nat}{A:Around}(r:Room (k+1) A)(C:Addr)(us:List Value)(kw:List (Str×Value)):Room k (A.under (.builtin "type.__call__" ⟨.ref C::us,kw⟩)) :=
 ⟨r.hd,by have:=r.dp; rw[oA]; omega,by have:=r.un; rw[sA]; omega⟩
theorem Room.depth {k:Nat}{A:Around}(r:Room k A):A.depth < recursionLimit:=by have:=r.dp; omega
theorem Room.units {k:Nat}{A:Around}(r:Room k A):A.units+64 < cLine:=by have:=r.un; omega
def tNil:TA:=fun _ H Q=>Q [] H
def ZG (ta:TE)(tr:TA):TA:=fun σ H Q=>ta σ H fun x H1=>tr σ H1 fun xs H2=>Q (x::xs) H2
section
variable {X:Cx}{e:Expr}{es:List Expr}{te:TE}{t:TA}{pos:Pos}
theorem pa_nil:PA X [] tNil:=fun _ _ _ _ H Q I h=>Calls.spliced_nil ⟨[],H,I,.nil,h⟩
theorem pa_cons (ha:PE X e te)(hr:PA X es t)(hs:starEach (e::es) X.env=(false,eval e X.env)::starEach es X.env:=by rfl):PA X (e::es) (ZG te t):=by
 intro pos pins s σ H Q I h;rw[hs];show wpAny _ _ (spliced ((false,eval e X.env)::backTo pos (starEach es X.env))) _ _ s;refine Calls.spliced_cons (thn (ha pins s σ H _ I h) fun u s1 ⟨x,H1,I1,r1,q1⟩=>?_);exact thn (hr pos pins s1 σ H1 _ I1 q1) fun us s2 ⟨xs,H2,I2,r2,q2⟩=>⟨x::xs,H2,I2,.cons r1 r2,q2⟩
inductive INew (o:List V->HO)(Q:VK)(xs:List V)(H:Hp):Prop
 |mk (h:xs.length<=sizeLine) (q:∀p,H p=none->Q (.ref p) (upd H p (o xs))):INew o Q xs H
def tTup (t:TA):TE:=fun σ H Q=>t σ H (INew .tup Q)
def tLst (t:TA):TE:=fun σ H Q=>t σ H (INew .lst Q)
theorem pe_tup {x1}(h:PA X es t):PE X (.Tuple es x1 pos) (tTup t):=by
 intro pins s σ H Q I hq;refine wpAny_Tuple_spliced (thn (h pos pins s σ H _ I hq) fun us s1 ⟨xs,H1,I1,r,z,q⟩=>⟨by rw[<- r.length]; exact z,?_⟩);have hf:H1 s1.heap.objs.size=none:=I1.hok.fresh (Nat.le_refl _);refine⟨.ref s1.heap.objs.size,upd H1 s1.heap.objs.size (.tup xs),I1.laid (t':=s1.toks) (fun b u e=>Heap.get?_push_of_some _ e) (Nat.le_refl _) ?_,rfl,q _ hf⟩;exact⟨z,us,r,⟨_,Heap.get?_push_size _ rfl,rfl,⟨_,rfl⟩,rfl⟩⟩
theorem pe_lst (h:PA X es t):PE X (.List es pos) (tLst t):=by
 intro pins s σ H Q I hq;refine wpAny_List_spliced (thn (h pos pins s σ H _ I hq) fun us s1 ⟨xs,H1,I1,r,z,q⟩=>⟨by rw[<- r.length]; exact z,?_⟩);have hf:H1 s1.heap.objs.size=none:=I1.hok.fresh (Nat.le_refl _);refine⟨.ref s1.heap.objs.size,upd H1 s1.heap.objs.size (.lst xs),I1.laid (t':=s1.toks) (fun b u e=>Heap.get?_push_of_some _ e) (Nat.le_refl _) ?_,rfl,q _ hf⟩;exact⟨z,us,0,r,Heap.get?_push_size _ rfl⟩
end
abbrev Sp:=List V->Hp->VK->XK->Prop
abbrev CXT:=List Env->Hp->Shared->XK->Value->Shared->Prop
structure Env0 (P:Program)(w:World)(K:PySem.W.Frag)(mg:Str->Option Value)(base:Heap)(A:Around)(outer:List Env)(s:Shared)(H:Hp):Prop where
 frames:A.frames=some outer
 mod:Mod K mg base
 bs:∀b o,base.get? b=some o->s.heap.get? b=some o/\H b=none
 bsz:base.objs.size<=s.heap.objs.size
 funs:s.heap.FunFrames base outer
 frf:∀b∈frs outer,H b=none
 hok:HOk P w H s.heap
 bare:AllBare s.gens
def CE (outer:List Env)(P:Program)(w:World)(H:Hp)(s:Shared)(Q:VK)(u:Value)(s':Shared):Prop :=
 ∃v H',s'.os=s.os/\AllBare s'.gens/\Un (frs outer) [] H H' s.heap s'.heap/\HOk P w H' s'.heap/\RelV v u/\Q v H'
def CR (CX:CXT)(outer:List Env)(P:Program)(w:World)(H:Hp)(s:Shared)(Q:VK)(E:XK)(r:Result)(s':Shared):Prop :=
 match r with
 |.ok (.ret u)=>CE outer P w H s Q u s'
 |.ok _=>False
 |.error e=>CX outer H s E e s'
structure FnOk (P:Program)(w:World)(K:PySem.W.Frag)(mg:Str->Option Value)(base:Heap)(CX:CXT)(k:Nat)(f:Addr)(fd:FuncData)(ps:List Str)(sp:Sp):Prop where
 len:∀vs H Q E,sp vs H Q E->vs.length=ps.length
 run:∀(A:Around) (outer:List Env) (s:Shared) (H:Hp) (args:Args) (us:List Value) (vs:List V) (Q:VK) (E:XK),Room k A->Env0 P w K mg base A outer s H->BindsTo s fd args (ps.zip us)->Vals vs us->sp vs H Q E ->
  codeAny (model P w) A (.call (.ref f) args) (CR CX outer P w H s Q E) s
theorem FnOk.mono {P:Program}{w:World}{K:PySem.W.Frag}{mg:Str->Option Value}{base:Heap}{CX:CXT}{j k:Nat}{f:Addr}{fd:FuncData}{ps:List Str}{sp:Sp}(F:FnOk P w K mg base CX j f fd ps sp)(h:j<=k):
  FnOk P w K mg base CX k f fd ps sp:=⟨F.len,fun A outer s H args us vs Q E hr=>F.run A outer s H args us vs Q E (hr.mono h)⟩
theorem Env0.make {P:Program}{w:World}{K:PySem.W.Frag}{mg:Str->Option Value}{base:Heap}{A:Around}{outer:List Env}{s:Shared}{H:Hp}(e:Env0 P w K mg base A outer s H)(C:Addr)(us:List Value)(kw:List (Str×Value)):
  Env0 P w K mg base (A.under (.builtin "type.__call__" ⟨.ref C::us,kw⟩)) outer s H:=⟨by first | exact e.frames | (simpa [Around.under,Code.envs,Code.isFrame,pushEnvs] using e.frames),e.mod,e.bs,e.bsz,e.funs,e.frf,e.hok,e.bare⟩
section
variable {X:Cx}{pins:List (Addr×Obj)}{σ:St}{H:Hp}{s s':Shared}
theorem Inv.env0 (I:Inv X pins σ H s):Env0 X.prog X.w X.K X.mg X.base X.A X.stack s H :=
 ⟨I.ok.frames,I.ok.mod,I.bs,Nat.le_trans I.ok.bsz I.sz,I.stack,I.stkFree,I.hok,I.bare⟩
theorem Inv.after {Q:VK}{u:Value}(I:Inv X pins σ H s)(h:CE X.stack X.prog X.w H s Q u s'):EP X pins σ Q u s':=by
 obtain⟨v,H',os,bare,un,hok,r,q⟩:=h;obtain⟨hh,g,d,t,os'⟩:=s';obtain rfl:os'=s.os:=os;exact⟨v,H',I.call (h':=hh) (g':=g) (d':=d) (t':=t) (ch:=[]) un hok bare (fun b z=>absurd z (by simp)),r,q⟩
end
def ZI (sp:Sp)(dvs:List V)(E:XK)(t:TA):TE:=fun σ H Q=>t σ H fun vs H1=>sp (vs++dvs) H1 Q E
def tMeth (C:Addr)(m:Str)(sp:Sp)(dvs:List V)(E:XK)(ta:TE)(t:TA):TE:=fun σ H Q=>ta σ H fun x H1=>∃a dx fs,x=.ref a/\H1 a=some (.ins C dx fs)/\fs.lookup m=none /\
 t σ H1 fun vs H2=>sp (x::(vs++dvs)) H2 Q E
def tMake (C:Addr)(sp:Sp)(dvs:List V)(E:XK)(t:TA):TE:=fun σ H Q=>t σ H fun vs H1=>∀x dx,H1 x=none->H1 dx=none->dx≠x ->
 sp (.ref x::(vs++dvs)) (upd (upd H1 dx (.own x)) x (.ins C dx [])) (fun v H2=>v=.non/\Q (.ref x) H2) E
def Binds (K:PySem.W.Frag)(fd:FuncData)(ps:List Str)(ds:List Value):Prop :=
 ∀(s:Shared) (us:List Value),K.In s.heap->(us++ds).length=ps.length->BindsTo s fd ⟨us,[]⟩ (ps.zip (us++ds))
theorem Binds.all {K:PySem.W.Frag}{fd:FuncData}{ps:List Str}(h:∀us:List Value,us.length=ps.length->bindArgs fd ⟨us,[]⟩=pure (ps.zip us)):Binds K fd ps []:=fun s us _ hl=>by
 rw[List.append_nil] at hl ⊢;exact .of_eq (h us hl)
def lK (CX:CXT)(X:Cx)(E:XK):Prop:=∀(pins:List (Addr×Obj)) (σ:St) (H:Hp) (s:Shared) (e:Value) (s':Shared),Inv X pins σ H s->CX X.stack H s E e s'->X.xe e s'
section
variable {X:Cx}{CX:CXT}{k:Nat}{f C:Addr}{fd:FuncData}{ps:List Str}{sp:Sp}{dvs:List V}{ds:List Value}{E:XK}{x m:Str}{p pos apos:Pos}{e o:Expr}{es:List Expr}{ta:TE}{t:TA}
theorem wA {pins:List (Addr×Obj)}{σ:St}{H:Hp}{s:Shared}{Q:VK}{us:List Value}{vs:List V}(F:FnOk X.prog X.w X.K X.mg X.base CX k f fd ps sp)(hr:Room k X.A)(hb:Binds X.K fd ps ds)(hd:Vals dvs ds)(hx:lK CX X E)
  (I:Inv X pins σ H s) (r:Vals vs us) (h:sp (vs++dvs) H Q E):wpAny (model X.prog X.w) X.A (call (.ref f) us) (EP X pins σ Q) X.xe s:=by
 have r2:Vals (vs++dvs) (us++ds):=r.append hd;have hl:(us++ds).length=ps.length:=by rw[<- r2.length]; exact F.len _ _ _ _ h
 refine wpAny_call (codeAny_mono (F.run X.A X.stack s H ⟨us,[]⟩ (us++ds) (vs++dvs) Q E hr I.env0 (hb s us I.kIn hl) r2 h) fun r s' hq=>?_)
 cases r with
 |error e=>exact hx pins σ H s e s' I hq
 |ok fl =>
  cases fl with
  |ret u=>exact I.after hq
  |next=>exact False.elim hq
  |brk=>exact False.elim hq
  |cont=>exact False.elim hq
theorem pe_call (F:FnOk X.prog X.w X.K X.mg X.base CX k f fd ps sp)(hr:Room k X.A)(hg:Gl X x)(hm:X.mg x=some (.ref f))(hk:PySem.W.keepIn X.K (.ref f)=true)(hb:Binds X.K fd ps ds)(hd:Vals dvs ds)(hx:lK CX X E)
  (ha:PA X (e::es) t) (hdb:(x==("__debug__" : Str))=false:=by decide) (he:starEach (e::es) X.env=(false,eval e X.env)::starEach es X.env:=by rfl) (hpl:(backTo pos (starEach es X.env)).any (·.1)=false:=by rfl) :
  PE X (.Call (.Name x p) (e::es) [] pos) (ZI sp dvs E t):=by
 intro pins s σ H Q I h;refine wpAny_Call_Name_kw (kR I hg hm ?_ hdb);refine PySem.W.callWith_K (h₀:=X.base) I.ok.mod.kin hk (thn (ha pos pins s σ H _ I h) fun us s1 ⟨vs,H1,I1,r,q⟩=>⟨I1.kIn,?_⟩) he hpl;exact wA F hr hb hd hx I1 r q
theorem pe_meth {pl:Sem Bool}(he:PE X o ta)(c:Cls X.K C)(hm:Vg X.K C m f)(F:FnOk X.prog X.w X.K X.mg X.base CX k f fd ps sp)(hr:Room k X.A)(hb:Binds X.K fd ps ds)(hd:Vals dvs ds)(hx:lK CX X E)(ha:PA X (e::es) t)
  (hst:starEach (e::es) X.env=(false,eval e X.env)::starEach es X.env:=by rfl) (hpl:(backTo pos (starEach es X.env)).any (·.1)=false:=by rfl)
  (ht:eval (.Call (.Attribute o m apos) (e::es) [] pos) X.env=(do
   let ov <- eval o X.env
   standAt apos.atName
   let (f,first) <- holding [ov] (getMethod ov m pl)
   callWith pos f first (backTo pos (starEach (e::es) X.env)) (backToKw pos (keywordEach [] X.env))):=by rfl) :
  PE X (.Call (.Attribute o m apos) (e::es) [] pos) (tMeth C m sp dvs E ta t):=by
 intro pins s σ H Q I h;refine PySem.W.methodCall_KW (pl:=pl) (thn (he pins s σ H _ I h) fun u s1 ⟨x,H1,I1,rx,a,dx,fs,ex,ea,l,q⟩=>?_) ht;subst ex;obtain rfl:u=Value.ref a:=rx;refine wP I1 ea c hm l ?_;refine PySem.W.callWith_K (first:=[.ref a]) (h₀:=X.base) I.ok.mod.kin hm.kp (thn (ha pos pins s1 σ H1 _ I1 q) fun us s2 ⟨vs,H2,I2,r,q2⟩=>⟨I2.kIn,?_⟩) hst hpl;exact wA (us:=.ref a::us) (vs:=.ref a::vs) F hr hb hd hx I2 (.cons rfl r) q2
theorem Ja {pl:Sem Bool}(he:PE X o ta)(c:Cls X.K C)(hm:Vg X.K C m f)(F:FnOk X.prog X.w X.K X.mg X.base CX k f fd ps sp)(hr:Room k X.A)(hb:Binds X.K fd ps ds)(hd:Vals dvs ds)(hx:lK CX X E)
  (ht:eval (.Call (.Attribute o m apos) [] [] pos) X.env=(do
   let ov <- eval o X.env
   standAt apos.atName
   let (f,first) <- holding [ov] (getMethod ov m pl)
   callWith pos f first (backTo pos (starEach [] X.env)) (backToKw pos (keywordEach [] X.env))):=by rfl) :
  PE X (.Call (.Attribute o m apos) [] [] pos) (tMeth C m sp dvs E ta tNil):=by
 intro pins s σ H Q I h;refine PySem.W.methodCall_KW (pl:=pl) (thn (he pins s σ H _ I h) fun u s1 ⟨x,H1,I1,rx,a,dx,fs,ex,ea,l,q⟩=>?_) ht;subst ex;obtain rfl:u=Value.ref a:=rx;refine wP I1 ea c hm l ?_;exact PySem.W.callWith_K0 (first:=[.ref a]) I1.kIn hm.kp (wA (us:=[.ref a]) (vs:=[.ref a]) F hr hb hd hx I1 (.cons rfl .nil) q)
structure Mk (K:PySem.W.Frag)(C f:Addr):Prop where
 makes:PySem.W.makesIn K C=true
 init:PySem.W.findIn K (.ref C) "__init__" = some (some (.ref f))
 fn:PySem.W.isFn K (.ref f)=true
 kp:PySem.W.keepIn K (.ref C)=true
theorem ZN {pins:List (Addr×Obj)}{σ:St}{H:Hp}{s:Shared}{Q:VK}{us:List Value}{vs:List V}(M:Mk X.K C f)(F:FnOk X.prog X.w X.K X.mg X.base CX k f fd ps sp)(hr:Room (k+1) X.A)(hb:Binds X.K fd ps ds)(hd:Vals dvs ds)
  (hx:lK CX X E) (I:Inv X pins σ H s) (r:Vals vs us)
  (h:∀x dx,H x=none->H dx=none->dx≠x->sp (.ref x::(vs++dvs)) (upd (upd H dx (.own x)) x (.ins C dx [])) (fun v H2=>v=.non/\Q (.ref x) H2) E) :
  wpAny (model X.prog X.w) X.A (call (.ref C) us) (EP X pins σ Q) X.xe s:=by
 have hq:=h (s.heap.objs.size+1) s.heap.objs.size (I.hok.fresh (Nat.le_succ _)) (I.hok.fresh (Nat.le_refl _)) (Nat.ne_of_lt (Nat.lt_succ_self _));have I2:=Inv.made (C:=C) I;have r2:Vals (V.ref (s.heap.objs.size+1)::(vs++dvs)) (Value.ref (s.heap.objs.size+1)::(us++ds)):=.cons rfl (r.append hd)
 have hl:(Value.ref (s.heap.objs.size+1)::us++ds).length=ps.length:=by
  have e:=r2.length;rw[F.len _ _ _ _ hq] at e;exact e.symm
 refine wpAny_call (JJ (f:=f) I.kIn M.makes M.init (beq_iff_eq.mp M.fn) (codeAny_mono (F.run _ X.stack _ _ ⟨Value.ref (s.heap.objs.size+1)::us,[]⟩ (Value.ref (s.heap.objs.size+1)::(us++ds)) _ _ E (hr.make C us [])
  (I2.env0.make C us []) (hb _ (Value.ref (s.heap.objs.size+1)::us) I2.kIn hl) r2 hq) fun r s' hq'=>?_))
 cases r with
 |error e=>exact hx pins σ _ _ e s' I2 hq'
 |ok fl =>
  cases fl with
  |ret u =>
   obtain⟨v,H',I3,rv,ev,q3⟩:=I2.after hq';subst ev;exact⟨rv,⟨V.ref (s.heap.objs.size+1),H',I3,rfl,q3⟩⟩
  |next=>exact False.elim hq'
  |brk=>exact False.elim hq'
  |cont=>exact False.elim hq'
theorem pe_make (M:Mk X.K C f)(F:FnOk X.prog X.w X.K X.mg X.base CX k f fd ps sp)(hr:Room (k+1) X.A)(hg:Gl X x)(hm:X.mg x=some (.ref C))(hb:Binds X.K fd ps ds)(hd:Vals dvs ds)(hx:lK CX X E)
  (ha:PA X (e::es) t) (hdb:(x==("__debug__" : Str))=false:=by decide) (he:starEach (e::es) X.env=(false,eval e X.env)::starEach es X.env:=by rfl) (hpl:(backTo pos (starEach es X.env)).any (·.1)=false:=by rfl) :
  PE X (.Call (.Name x p) (e::es) [] pos) (tMake C sp dvs E t):=by
 intro pins s σ H Q I h;refine wpAny_Call_Name_kw (kR I hg hm ?_ hdb);refine PySem.W.callWith_K (h₀:=X.base) I.ok.mod.kin M.kp (thn (ha pos pins s σ H _ I h) fun us s1 ⟨vs,H1,I1,r,q⟩=>⟨I1.kIn,?_⟩) he hpl;exact ZN M F hr hb hd hx I1 r q
end
structure FnScope (N P:List Str)(sc:Scope):Prop where
 kind:sc.kind=.function
 co:sc.isCoroutine=false
 gen:sc.isGenerator=false
 nd:N.Nodup
 pre:N.take P.length=P
 par:∀x∈P,sc.names.lookup x=some .local\/sc.names.lookup x=some .cell
 nofree:∀y∈sc.names,y.2≠.free
theorem kC {kindOf:Str->Option NameKind}{x:Str}:∀{binds:List (Str×Value)}{m:Str->Option Value},(∀v,(x,v)∉binds)->bindL kindOf binds m x=m x
 |[],_,_=>rfl
 | (n,v)::r,m,h=>by
  unfold bindL;rw[kC fun w hw=>h w (List.mem_cons_of_mem _ hw)]
  split
  .have:x≠n:=by rintro rfl; exact h v List.mem_cons_self
   simp[this]
  .rfl
theorem wC {kindOf:Str->Option NameKind}{x:Str}:∀{binds:List (Str×Value)}{m:Str->Option Value},(∀v,(x,v)∉binds)->bindC kindOf binds m x=m x
 |[],_,_=>rfl
 | (n,v)::r,m,h=>by
  unfold bindC;rw[wC fun w hw=>h w (List.mem_cons_of_mem _ hw)]
  split
  .rfl
  .have:x≠n:=by rintro rfl; exact h v List.mem_cons_self
   simp[this]
theorem vC {kindOf:Str->Option NameKind}{x:Str}{v:Value}:∀{P:List Str}{vs:List Value}{i:Nat}{m:Str->Option Value},P.Nodup->P[i]?=some x->vs[i]?=some v->kindOf x=some .local ->
  bindL kindOf (P.zip vs) m x=some v
 |[],_,_,_,_,h,_,_=>by simp at h
 |_::_,[],_,_,_,_,h,_=>by simp at h
 |p::P,w::vs,0,m,nd,h1,h2,hk=>by
  simp at h1 h2; subst h1; subst h2
  show bindL kindOf ((p,w)::P.zip vs) m p=_;unfold bindL;rw[kC fun v hv=>(List.nodup_cons.mp nd).1 (List.of_mem_zip hv).1,if_pos hk]
  simp
 |p::P,w::vs,i+1,m,nd,h1,h2,hk=>by
  show bindL kindOf ((p,w)::P.zip vs) m x=_;unfold bindL;exact vC (i:=i) (List.nodup_cons.mp nd).2 (by simpa using h1) (by simpa using h2) hk
theorem yC {kindOf:Str->Option NameKind}{x:Str}{v:Value}:∀{P:List Str}{vs:List Value}{i:Nat}{m:Str->Option Value},P.Nodup->P[i]?=some x->vs[i]?=some v->kindOf x≠some .local ->
  bindC kindOf (P.zip vs) m x=some v
 |[],_,_,_,_,h,_,_=>by simp at h
 |_::_,[],_,_,_,_,h,_=>by simp at h
 |p::P,w::vs,0,m,nd,h1,h2,hk=>by
  simp at h1 h2; subst h1; subst h2
  show bindC kindOf ((p,w)::P.zip vs) m p=_;unfold bindC;rw[wC fun v hv=>(List.nodup_cons.mp nd).1 (List.of_mem_zip hv).1,if_neg hk]
  simp
 |p::P,w::vs,i+1,m,nd,h1,h2,hk=>by
  show bindC kindOf ((p,w)::P.zip vs) m x=_;unfold bindC;exact yC (i:=i) (List.nodup_cons.mp nd).2 (by simpa using h1) (by simpa using h2) hk
def start (N:List Str)(vs:List V):St:=vs.map some++List.replicate (N.length - vs.length) none
def dR (CX:CXT)(P:Program)(w:World)(K:PySem.W.Frag)(mg:Str->Option Value)(base:Heap)(N:List Str)(qual:Str)(scope:Scope)(f:Addr)(cd:Value)(A:Around)(outer:List Env)(s:Shared)(H:Hp)(E:XK):Cx where
 prog:=P
 w:=w
 K:=K
 mg:=mg
 base:=base
 A:=A.deeper (envOfC qual scope s.heap.objs.size f cd)
 N:=N
 s₀:=s
 H₀:=H
 env:=envOfC qual scope s.heap.objs.size f cd
 outer:=outer
 stack:=envOfC qual scope s.heap.objs.size f cd::outer
 ex:=[]
 calm:=true
 fn:=fun _=>true
 pn:=[]
 xe:=fun e s'=>wpAny (model P w) (A.deeper (envOfC qual scope s.heap.objs.size f cd)) (leaving (envOfC qual scope s.heap.objs.size f cd) e) (fun _ s''=>CX outer H s E e s'') (fun e' s''=>CX outer H s E e' s'') s'
theorem aP {sc:Scope}{n:Nat}{x:Str}(h:sc.names.lookup x=some .cell):∃c,(cellsFrom n sc.names []).lookup x=some c:=by
 have q:=PySem.W.cellsFrom_some sc.names n [] (.inl h);exact Option.isSome_iff_exists.mp q
theorem X1 {CX:CXT}{P:Program}{w:World}{K:PySem.W.Frag}{mg:Str->Option Value}{base:Heap}{N ps:List Str}{qual:Str}{scope:Scope}{f:Addr}{cd:Value}{A:Around}{outer:List Env}{s s1:Shared}{H:Hp}{E:XK}{us:List Value}{vs:List V}
  (S:FnScope N ps scope) (hd:A.handled=none) (e0:Env0 P w K mg base A outer s H) (hl:vs.length=ps.length) (r:Vals vs us)
  (x:InCallC s s.heap.objs.size (bindL (envOfC qual scope s.heap.objs.size f cd).kindOf (ps.zip us) fun _=>none) (cellsFrom (s.heap.objs.size+1) scope.names []) (bindC (envOfC qual scope s.heap.objs.size f cd).kindOf (ps.zip us) fun _=>none) s1) :
  Inv (dR CX P w K mg base N qual scope f cd A outer s H E) [] (start N vs) H s1:=by
 have hpl:ps.length<=N.length:=by have:=congrArg List.length S.pre; rw[List.length_take] at this; omega
 obtain⟨h1,tk,rfl,hk⟩:=x.done;have noA:∀b:Addr,b∉(dR CX P w K mg base N qual scope f cd A outer s H E).ex:=fun b z=>absurd (show b∈([]:List Addr) from z) (by simp)
 refine⟨⟨e0.mod,S.kind,rfl,rfl,Nat.le_refl _,fun y z c h1 h2=>?_,fun y hy=>?_,fun y c _ h=>?_,fun _=>hd,Around.frames_deeper e0.frames,.inr ⟨rfl,rfl⟩,fun b z=>absurd z (noA b),e0.bs,e0.bsz,fun b _ _=>noA b,fun b z=>absurd z (noA b),e0.funs,e0.frf⟩,
  rfl,e0.bare,Un.kept hk,⟨_,x.toInCall.ns,fun i y v h1 h2 h3=>?_⟩,fun y c h=>⟨_,x.cell y c h⟩,e0.hok.fresh (Nat.le_refl _),fun y c h=>?_,fun p hp=>absurd (show p∈([]:List (Addr×Obj)) from hp) (by simp),e0.hok.kept hk,?_⟩
 .exact name_of_addr x.apart (PySem.mem_of_lookup h1) (PySem.mem_of_lookup h2)
 .have hy:scope.names.lookup y=some .cell\/scope.names.lookup y=some .free:=hy
  rcases hy with hy | hy
  .exact aP hy
  .exact absurd rfl (S.nofree _ (PySem.mem_of_lookup hy))
 .exact Nat.le_of_lt (x.above y c (PySem.mem_of_lookup h))
 .have hi:i < vs.length:=by
   unfold start at h2
   by_cases hi:i < vs.length
   .exact hi
   .rw [List.getElem?_append_right (by simpa using hi)] at h2
    rw[List.getElem?_replicate] at h2
    split at h2<;>cases h2
  have ha:vs[i]?=some v:=by
   unfold start at h2;rw[List.getElem?_append_left (by simpa using hi),List.getElem?_map] at h2
   cases e:vs[i]? with
   |none=>rw[e] at h2; cases h2
   |some a=>rw[e] at h2; cases h2; rfl
  obtain⟨u,hu,rv⟩:=r.get ha
  have hp:ps[i]?=some y:=by
   rw[<- S.pre,List.getElem?_take_of_lt (by omega)]; exact h1
  have ndP:ps.Nodup:=by rw[<- S.pre]; exact S.nd.sublist (List.take_sublist _ _)
  refine⟨u,rv,?_⟩
  rcases S.par y (List.mem_of_getElem? hp) with k | k
  .exact .inl ⟨k,vC ndP hp hu k⟩
  .obtain ⟨c,e⟩:=aP (n:=s.heap.objs.size+1) k
   refine .inr ⟨.inl k,c,e,?_⟩;have q:=x.cell y c e;rw[yC ndP hp hu (by show scope.names.lookup y≠_; rw[k]; decide)] at q;exact q
 .exact e0.hok.fresh (Nat.le_of_lt (x.above y c (PySem.mem_of_lookup h)))
 .unfold start
  show _=N.length;rw[List.length_append,List.length_map,List.length_replicate];omega
theorem fn_of {CX:CXT}{P:Program}{w:World}{K:PySem.W.Frag}{mg:Str->Option Value}{base:Heap}{k:Nat}{f:Addr}{name qual:Str}{params:Arguments}{body:List Stmt}{scope:Scope}{dV kV doc pm cdv ct oc:Value}{an od:Option Addr}
  {osl:Array (Option Value)} {N ps:List Str} {sp:Sp} (lk:K.lookup f=some ⟨oc,od,.func (PySem.W.fnOf name qual params body scope dV kV doc pm an cdv ct),osl⟩) (hcd:PySem.W.codeIn K cdv qual=true) (S:FnScope N ps scope)
  (len:∀vs H Q E,sp vs H Q E->vs.length=ps.length)
  (hbody:∀(A:Around) (outer:List Env) (s:Shared) (H:Hp) (vs:List V) (Q:VK) (E:XK),Room k (A.deeper (envOfC qual scope s.heap.objs.size f cdv))->sp vs H Q E ->
   ∃t,PSs (dR CX P w K mg base N qual scope f cdv A outer s H E) body t/\t { nx:=fun _ H'=>Q .non H',rt:=Q } (start N vs) H) :
  FnOk P w K mg base CX (k+1) f (PySem.W.fnOf name qual params body scope dV kV doc pm an cdv ct) ps sp:=by
 refine⟨len,fun A outer s H args us vs Q E hr e0 hb r hsp=>?_⟩;have hl:=len _ _ _ _ hsp;have KX:K.In s.heap:=e0.mod.kin.keeps fun b o e=>(e0.bs b o e).1;have lim:s.heap.NoLimit:=e0.mod.nolimit.keeps fun b o e=>(e0.bs b o e).1
 have hkind:∀y∈ps.zip us,scope.names.lookup y.1=some .local\/(scope.names.lookup y.1=some .cell/\((cellsFrom (s.heap.objs.size+1) scope.names []).lookup y.1).isSome=true):=fun⟨n,v⟩ hy=>by
  rcases S.par n (List.of_mem_zip hy).1 with q | q
  .exact .inl q
  .exact .inr ⟨q,PySem.W.cellsFrom_some _ _ _ (.inl q)⟩
 refine codeAny_call_function hr.depth (KX _ _ lk) rfl S.co S.gen rfl (PySem.W.codeRec_of KX hcd) (hb _ _ _ _ ?_);refine wpAny_newFunctionEnv_cells S.kind hkind fun env he s1 x=>?_;subst he;refine⟨lim.keeps x.toInCall.keep,codeAny_func ?_⟩;obtain⟨t,ht,hq⟩:=hbody A outer s H vs Q E (hr.deeper _) hsp;have I:Inv (dR CX P w K mg base N qual scope f cdv A outer s H E) [] (start N vs) H s1:=X1 S hr.hd e0 hl r x
 refine wpAny_mono (ht [] s1 (start N vs) H _ I hq) (fun fl s' hs=>?_) fun e s' hs=>hs
 have fin:∀{σ':St} {H':Hp} {v:V} {u:Value},Inv (dR CX P w K mg base N qual scope f cdv A outer s H E) [] σ' H' s'->RelV v u->Q v H'->CE outer P w H s Q u s' :=
  fun {σ' H' v u} J rv q=>⟨v,H',J.os,J.bare,J.base,J.hok,rv,q⟩
 cases fl with
 |ret u =>
  obtain⟨v,σ',H',J,rv,q⟩:=hs;exact fin J rv q
 |next =>
  obtain⟨σ',H',J,q⟩:=hs;exact fin (v:=V.non) (u:=Value.none) J rfl q
 |brk =>
  obtain⟨_,_,_,q⟩:=hs;exact False.elim q
 |cont =>
  obtain⟨_,_,_,q⟩:=hs;exact False.elim q
section
variable {X:Cx}{x:Str}{p pos:Pos}{e:Expr}{es:List Expr}{t:TA}{id T:String}{r:List V->Hp->VK->Prop}
def tCB (r:List V->Hp->VK->Prop)(t:TA):TE:=fun σ H Q=>t σ H fun vs H1=>r vs H1 Q
theorem Jg (hc:CallR X (.builtin id) r)(hg:Gl X x)(hm:X.mg x=none)(hv:bootBuiltins x=some (.builtin id))(ha:PA X (e::es) t)(hn:x ≠ "__name__":=by decide)(hdb:(x==("__debug__" : Str))=false:=by decide)
  (he:starEach (e::es) X.env=(false,eval e X.env)::starEach es X.env:=by rfl) (hpl:(backTo pos (starEach es X.env)).any (·.1)=false:=by rfl):PE X (.Call (.Name x p) (e::es) [] pos) (tCB r t):=by
 intro pins s σ H Q I h;refine wpAny_Call_Name_kw (vR I hg hm hv ?_ hn hdb);exact PyProof.Rows.callWith_builtin1 (thn (ha pos pins s σ H _ I h) fun us s1 ⟨vs,H1,I1,r1,q1⟩=>hc pins s1 σ H1 vs us Q I1 r1 q1) he hpl
theorem XD (hc:CallR X (.type T) r)(hg:Gl X x)(hm:X.mg x=none)(hv:bootBuiltins x=some (.type T))(ha:PA X (e::es) t)(hn:x ≠ "__name__":=by decide)(hdb:(x==("__debug__" : Str))=false:=by decide)
  (he:starEach (e::es) X.env=(false,eval e X.env)::starEach es X.env:=by rfl) (hpl:(backTo pos (starEach es X.env)).any (·.1)=false:=by rfl):PE X (.Call (.Name x p) (e::es) [] pos) (tCB r t):=by
 intro pins s σ H Q I h;refine wpAny_Call_Name_kw (vR I hg hm hv ?_ hn hdb);exact PyProof.Rows.callWith_type1 (thn (ha pos pins s σ H _ I h) fun us s1 ⟨vs,H1,I1,r1,q1⟩=>hc pins s1 σ H1 vs us Q I1 r1 q1) he hpl
end
end L2
namespace HT
open PySem PyProof.Rows
section
variable {prog:Program}{w:World}{A:Around}{E:Value->Shared->Prop}{s:Shared}
theorem cat_tup {t b:Addr}{vs ws:List Value}{Q:Value->Shared->Prop}(ht:IsTup s.heap t vs.toArray)(hb:IsTup s.heap b ws.toArray)(hv:vs≠[])
  (h1:ws=[]->Q (.ref t) s) (h2:ws≠[]->Q (.ref s.heap.objs.size) { s with heap:=s.heap.push { cls:=.type "tuple",data:=.seq (vs++ws).toArray } })
  (hsz:vs.length+ws.length<=sizeLine):wpAny (model prog w) A (binaryOp .Add (.ref t) (.ref b)) Q E s:=by
 obtain⟨⟨cls,dd,data,sl⟩,ho,hc,n,hd⟩:=id ht;obtain⟨⟨cls2,dd2,data2,sl2⟩,ho2,hc2,n2,hd2⟩:=id hb
 simp only at hc hd hc2 hd2
 subst hc hd hc2 hd2;have e:vs.toArray++ws.toArray=(vs++ws).toArray:=by simp
 by_cases hw:ws=[]
 .exact concat_meets ⟨_,ho,rfl⟩ ⟨_,ho2,rfl⟩ noFill_tuple_add seq_tuple_add PySem.F.slot_tuple_add PySem.F.entry_tuple_add (PySem.F.args_tuple_add_2 _ _)
   (tuple_addW1 t b vs.toArray ws.toArray n n2 dd dd2 sl sl2 (by simpa using hv) (by simp[hw])) ⟨ho,ho2,h1 hw⟩
 .refine concat_meets ⟨_,ho,rfl⟩ ⟨_,ho2,rfl⟩ noFill_tuple_add seq_tuple_add PySem.F.slot_tuple_add PySem.F.entry_tuple_add (PySem.F.args_tuple_add_2 _ _)
   (tuple_addW2 t b vs.toArray ws.toArray n n2 dd dd2 sl sl2 (by simpa using hv) (by simpa using hw) (by rw[List.size_toArray,List.size_toArray]; exact hsz)) ⟨ho,ho2,?_⟩
  rw[e];exact h2 hw
def sIx (n d:Nat):Option Int->Nat
 |none=>d
 |some v=>if v < 0 then (v+(n:Int)).toNat else min v.toNat n
theorem sIx_none (n d:Nat):sIx n d none=d:=rfl
theorem sIx_nat (n d k:Nat):sIx n d (some (k:Int))=min k n:=by
 show(if (k:Int) < 0 then ((k:Int)+(n:Int)).toNat else min (k:Int).toNat n)=min k n;rw[if_neg (by omega),Int.toNat_natCast]
theorem sIx_le (n d:Nat)(hd:d<=n)(o:Option Int):sIx n d o<=n:=by
 cases o with
 |none=>exact hd
 |some v =>
  show(if v < 0 then (v+(n:Int)).toNat else min v.toNat n)<=n
  by_cases hv:v < 0
  .rw [if_pos hv]; omega
  .rw [if_neg hv]; exact Nat.min_le_right _ _
theorem Q8 (v:Int)(n d:Nat):(if v < 0 then max (v+(n:Int)) 0 else min v (n:Int))=((sIx n d (some v):Nat):Int):=by
 show(if v < 0 then max (v+(n:Int)) 0 else min v (n:Int))=(((if v < 0 then (v+(n:Int)).toNat else min v.toNat n):Nat):Int)
 by_cases hv:v < 0
 .simp only[if_pos hv]; omega
 .simp only[if_neg hv]; omega
theorem Ql (lo hi:Option Int)(n:Nat):Builtin.Slice.sliceAdjust lo hi 1 (n:Int)=(((sIx n 0 lo:Nat):Int),((sIx n n hi:Nat):Int)):=by
 have h1:¬ ((1:Int) < 0):=by omega
 unfold Builtin.Slice.sliceAdjust
 simp only[h1,if_false]
 refine Prod.ext ?_ ?_
 .cases lo with
  |none=>rfl
  |some v=>exact Q8 v n 0
 .cases hi with
  |none=>rfl
  |some v=>exact Q8 v n n
theorem bA (i j:Nat):Builtin.Slice.slicePlaces (i:Int) (j:Int) 1=j - i:=by
 unfold Builtin.Slice.slicePlaces;have h1:(1:Int) > 0:=by omega
 simp only[h1,if_true,Int.ediv_one]
 split<;>omega
theorem fL {v:Value}{o:Option Int}{Q:Option Int->Shared->Prop}(p:IsPart v o)(h:Q o s):wpAny (model prog w) A (Builtin.Slice.slicePartIndex v) Q E s:=by
 cases p with
 |none=>exact slicePart_none h
 |int i t=>exact slicePart_int h
theorem tM {sl:Addr}{vl vu:Value}{lo hi:Option Int}{n:Nat}{Q:Int×Int×Nat->Shared->Prop}(hs:s.heap.IsSliceOf sl vl vu .none)(pl:IsPart vl lo)(pu:IsPart vu hi)
  (h:Q (((sIx n 0 lo:Nat):Int),1,sIx n n hi - sIx n 0 lo) s):wpAny (model prog w) A (Builtin.Slice.sliceApplied (.ref sl) (pure (n:Int))) Q E s:=by
 obtain⟨os,hos,hcs,hds⟩:=id hs;unfold Builtin.Slice.sliceApplied Builtin.Slice.sliceFields;refine wpAny_bind (wpAny_bind (wpAny_field hos hds (x:=vl) rfl (wpAny_bind (wpAny_field hos hds (x:=vu) rfl (wpAny_bind (wpAny_field hos hds (x:=.none) rfl (wpAny_pure ?_)))))));refine wpAny_bind (slicePart_none ?_);show wpAny _ _ (if ((1:Int)==0)=true then _ else _) _ _ s;rw[if_neg (by decide)];refine wpAny_bind (fL pl (wpAny_bind (fL pu (wpAny_bind (wpAny_pure ?_)))))
 show wpAny _ _ (match Builtin.Slice.sliceAdjust lo hi 1 (n:Int) with | (lo,hi)=>pure (lo,(1:Int),Builtin.Slice.slicePlaces lo hi 1)) _ _ s;rw[Ql lo hi n];show wpAny _ _ (pure (((sIx n 0 lo:Nat):Int),(1:Int),Builtin.Slice.slicePlaces ((sIx n 0 lo:Nat):Int) ((sIx n n hi:Nat):Int) 1)) _ _ s;rw[bA];exact wpAny_pure h
theorem Z6 (xs:Array Value)(i k:Nat):((List.range k).filterMap fun(m:Nat)=>xs[((i:Int)+(m:Int) * 1).toNat]?).toArray=((xs.toList.drop i).take k).toArray:=by
 have e:(fun(m:Nat)=>xs[((i:Int)+(m:Int) * 1).toNat]?)=fun m=>xs[i+m]?:=by
  funext m
  have:((i:Int)+(m:Int) * 1).toNat=i+m:=by omega
  rw[this]
 rw[e];have:=pick_run xs i k;rw[List.filterMap_map] at this;have e2:((fun x=>xs[x]?) ∘ fun x=>i+x)=fun m=>xs[i+m]?:=rfl;rw[e2] at this;rw[this]
theorem getItem_tuple_cut {t sl:Addr}{items:Array Value}{vl vu:Value}{lo hi:Option Int}{Q:Value->Shared->Prop}(ht:IsTup s.heap t items)(hs:s.heap.IsSliceOf sl vl vu .none)(pl:IsPart vl lo)(pu:IsPart vu hi)
  (hw:¬ (sIx items.size 0 lo=0/\sIx items.size items.size hi=items.size))
  (h:Q (.ref s.heap.objs.size) { s with heap:=s.heap.push { cls:=.type "tuple",data:=.seq ((items.toList.drop (sIx items.size 0 lo)).take (sIx items.size items.size hi - sIx items.size 0 lo)).toArray } })
  (hsz:items.size<=sizeLine):wpAny (model prog w) A (getItem (.ref t) (.ref sl)) Q E s:=by
 have htake:sizeOk (.seq ((items.toList.drop (sIx items.size 0 lo)).take (sIx items.size items.size hi - sIx items.size 0 lo)).toArray):=by
  show((items.toList.drop (sIx items.size 0 lo)).take (sIx items.size items.size hi - sIx items.size 0 lo)).toArray.size<=sizeLine;rw[List.size_toArray,List.length_take,List.length_drop,Array.length_toList];omega
 have hj:sIx items.size items.size hi<=items.size:=sIx_le _ _ (Nat.le_refl _) hi;obtain⟨os,hos,hcs,hds⟩:=id hs;have hTs:s.TypeIs (.ref sl) "slice":=⟨os,hos,hcs⟩;unfold getItem
 try with_reducible refine wpAny_holding ?_
 first | refine wpAny_bind (wpAny_pure ?_) | skip
 refine wpAny_bind (wpAny_sequenceKey ht.typeIs (by decide) ?_)
 refine wpAny_bind (wpAny_callSpecial?_slot (name:=Str.ofString "__getitem__") ht.typeIs PyProof.Rows.slot_tuple_getitem
  (wpAny_call_entry PyProof.Rows.slot_tuple_getitem ht.typeIs entry_tuple_getitem ?_ (args_tuple_getitem _ _)))
 show wpAny _ _ (Builtin.Tuple.tupleItemsOf (.ref t) >>= _) _ _ s;refine wpAny_bind (tupleItemsOf_ ht ?_);refine wpAny_bind (wpAny_typeOf hTs ?_);rw[if_pos (by decide)];refine wpAny_bind (tM hs pl pu ?_)
 have hno:¬ ((((sIx items.size 0 lo:Nat):Int)==0&&(1:Int)==1&&(sIx items.size items.size hi - sIx items.size 0 lo)==items.size)=true):=by
  intro q;rw[Bool.and_eq_true,Bool.and_eq_true] at q;have q1:((sIx items.size 0 lo:Nat):Int)=0:=eq_of_beq q.1.1;have q2:sIx items.size items.size hi - sIx items.size 0 lo=items.size:=eq_of_beq q.2;exact hw ⟨by omega,by omega⟩
 show wpAny _ _ (if (((sIx items.size 0 lo:Nat):Int)==0&&(1:Int)==1&&(sIx items.size items.size hi - sIx items.size 0 lo)==items.size)=true then _ else _) _ _ s;rw[if_neg hno,Z6]
 first
  |exact wpAny_bind (m:=Builtin.Tuple.tupleExact _) (wpAny_newObj_type (wpAny_pure ⟨_,rfl,wpAny_pure h⟩) htake)
  |exact wpAny_bind (m:=Builtin.Tuple.tupleExact _) (wpAny_newObj_type (wpAny_bind (wpAny_pure (wpAny_pure ⟨_,rfl,wpAny_pure h⟩))) htake)
  |exact wpAny_bind (wpAny_bind (m:=Builtin.Tuple.tupleExact _) (wpAny_newObj_type (wpAny_pure (wpAny_pure ⟨_,rfl,wpAny_pure h⟩)) htake))
  |exact wpAny_bind (wpAny_bind (m:=Builtin.Tuple.tupleExact _) (wpAny_newObj_type (wpAny_pure ⟨_,rfl,wpAny_pure h⟩) htake))
end
end HT
namespace L2
open PySem PySem.Spec PyProof.Rows
abbrev TO:=St->Hp->(Option Int->Hp->Prop)->Prop
def PO (X:Cx)(e:Option Expr)(t:TO):Prop :=
 ∀(pins:List (Addr×Obj)) (s:Shared) (σ:St) (H:Hp) (Q:Option Int->Hp->Prop),Inv X pins σ H s->t σ H Q ->
  wpAny (model X.prog X.w) X.A (evalPart e X.env) (fun u s'=>∃o H',Inv X pins σ H' s'/\IsPart u o/\Q o H') X.xe s
def Qw:TO:=fun _ H Q=>Q none H
def tPart (t:TE):TO:=fun σ H Q=>t σ H fun x H1=>∃i,x=.int i/\Q (some i) H1
section
variable {X:Cx}{e:Expr}{te:TE}{lo hi:Option Expr}{tl th:TO}{pos p2:Pos}
theorem po_none:PO X none Qw:=by
 intro pins s σ H Q I h;rw[evalPart_none];exact wpAny_pure ⟨none,H,I,.none,h⟩
theorem po_some (h:PE X e te):PO X (some e) (tPart te):=by
 intro pins s σ H Q I hw;rw[evalPart_some];refine thn (h pins s σ H _ I hw) fun u s1 ⟨x,H1,I1,r1,q1⟩=>?_;obtain⟨i,rfl,q⟩:=q1;obtain⟨t,rfl⟩:=r1;exact⟨some i,H1,I1,.int i t,q⟩
def SlR (X:Cx)(r:V->Option Int->Option Int->Hp->VK->Prop):Prop :=
 ∀(pins:List (Addr×Obj)) (s:Shared) (σ:St) (H:Hp) (x:V) (v vl vu:Value) (lo hi:Option Int) (sl:Addr) (Q:VK),Inv X pins σ H s->RelV x v->s.heap.IsSliceOf sl vl vu .none->IsPart vl lo->IsPart vu hi->r x lo hi H Q ->
  ∃T id,typeLookup (.type T) "__getitem__" = pure (some (.builtin id))/\s.TypeIs v T/\wpAny (model X.prog X.w) X.A (getItem v (.ref sl)) (EP X pins σ Q) X.xe s
def tSl (r:V->Option Int->Option Int->Hp->VK->Prop)(te:TE)(tl th:TO):TE:=fun σ H Q=>te σ H fun x H1=>tl σ H1 fun l H2=>th σ H2 fun u H3=>r x l u H3 Q
theorem Z9 {r:V->Option Int->Option Int->Hp->VK->Prop}(hr:SlR X r)(he:PE X e te)(hl:PO X lo tl)(hu:PO X hi th):PE X (.Subscript e (.Slice lo hi none p2) pos) (tSl r te tl th):=by
 intro pins s σ H Q I h;refine Subscript_ (thn (he pins s σ H _ I h) fun v s1 ⟨x,H1,I1,r1,q1⟩=>?_);refine wpAny_Slice (thn (hl pins s1 σ H1 _ I1 q1) fun vl s2 ⟨l,H2,I2,pl,q2⟩=>thn (hu pins s2 σ H2 _ I2 q2) fun vu s3 ⟨u,H3,I3,pu,q3⟩=>?_);rw[evalPart_none];refine wpAny_pure ?_;have I4:Inv X pins σ H3 { s3 with heap:=s3.heap.push { cls:=.type "slice",data:=.fields #[vl,vu,.none] } }:=I3.kept (t':=s3.toks) fun b ob q=>Heap.get?_push_of_some _ q
 obtain⟨T,id,hT,ht,hg⟩:=hr pins { s3 with heap:=s3.heap.push { cls:=.type "slice",data:=.fields #[vl,vu,.none] } } σ H3 x v vl vu l u s3.heap.objs.size Q I4 r1 (Heap.IsSliceOf.new ..) pl pu q3;show wpAny (model X.prog X.w) X.A (subscriptTail e (.Slice lo hi none p2) v (.ref s3.heap.objs.size)) (EP X pins σ Q) X.xe { s3 with heap:=s3.heap.push { cls:=.type "slice",data:=.fields #[vl,vu,.none] } };exact tail_any (ops:=[.ref s3.heap.objs.size,v]) ht hT hg (by with_unfolding_all rfl)
def xE (xs:List V)(lo hi:Option Int):List V:=(xs.drop (HT.sIx xs.length 0 lo)).take (HT.sIx xs.length xs.length hi - HT.sIx xs.length 0 lo)
theorem kD (xs:List V)(lo hi:Option Int):(xE xs lo hi).length<=xs.length:=by
 unfold xE;rw[List.length_take,List.length_drop];omega
def rSlT (K:PySem.W.Frag):V->Option Int->Option Int->Hp->VK->Prop:=fun x lo hi H Q=>∃a xs,x=.ref a/\SqT K H a xs /\
 ¬ (HT.sIx xs.length 0 lo=0/\HT.sIx xs.length xs.length hi=xs.length)/\∀p,H p=none->Q (.ref p) (upd H p (.tup (xE xs lo hi)))
theorem sl_tup:SlR X (rSlT X.K):=by
 intro pins s σ H x v vl vu lo hi sl Q I rx hs pl pu h;obtain⟨a,xs,rfl,hx,hw,q⟩:=h;cases rx;obtain⟨its,r,ht,hz⟩:=I.tuple hx;have hlen:its.toArray.size=xs.length:=by rw[List.size_toArray]; exact r.length.symm
 refine⟨"tuple",_,PyProof.Rows.slot_tuple_getitem.lookup,ht.typeIs,?_⟩;refine HT.getItem_tuple_cut ht hs pl pu (by rw[hlen]; exact hw) ?_ (by rw[hlen]; exact hz);rw[hlen];refine⟨.ref s.heap.objs.size,_,I.laid (t':=s.toks) (o:=.tup (xE xs lo hi)) (fun b ob q=>Heap.get?_push_of_some _ q) (Nat.le_refl _) ?_,rfl,q _ (I.hok.fresh (Nat.le_refl _))⟩;exact⟨Nat.le_trans (kD xs lo hi) hz,_,(r.drop (HT.sIx xs.length 0 lo)).take (HT.sIx xs.length xs.length hi - HT.sIx xs.length 0 lo),IsTupN.new _ _⟩
def rCatT (K:PySem.W.Frag):R2:=fun x y H Q=>∃a b xs ys,x=.ref a/\y=.ref b/\SqT K H a xs/\SqT K H b ys/\xs≠[]/\xs.length+ys.length<=sizeLine /\
 (ys=[]->Q (.ref a) H)/\(ys≠[]->∀p,H p=none->Q (.ref p) (upd H p (.tup (xs++ys))))
theorem Vals.nil_iff {xs:List V}{us:List Value}(r:Vals xs us):us=[]↔xs=[]:=by
 cases r with
 |nil=>simp
 |cons _ _=>simp
theorem op_catT:OpR X (binaryOp .Add) (rCatT X.K):=by
 intro pins s σ H x y v u Q I rx ry h;obtain⟨a,b,xs,ys,rfl,rfl,ha,hb,hx,hz,q1,q2⟩:=h;cases rx;cases ry;obtain⟨its,r1,p1,_⟩:=I.tuple ha;obtain⟨its2,r2,p2,_⟩:=I.tuple hb;refine HT.cat_tup p1 p2 (fun z=>hx (r1.nil_iff.mp z)) (fun z=>⟨.ref a,H,I,rfl,q1 (r2.nil_iff.mp z)⟩) (fun z=>?_) (by rw[<- r1.length,<- r2.length]; exact hz);refine⟨.ref s.heap.objs.size,_,I.laid (t':=s.toks) (o:=.tup (xs++ys)) (fun b ob q=>Heap.get?_push_of_some _ q) (Nat.le_refl _) ?_,rfl,q2 (fun w=>z (r2.nil_iff.mpr w)) _ (I.hok.fresh (Nat.le_refl _))⟩
 exact⟨by rw[List.length_append]; exact hz,_,r1.append r2,IsTupN.new _ _⟩
end
def ixN (n:Nat)(i:Int):Option Nat:=if 0<=i then (if i < n then some i.toNat else none) else if -(n:Int)<=i then some (i+n).toNat else none
def atI {α:Type}(xs:List α)(i:Int):Option α:=(ixN xs.length i).bind fun j=>xs[j]?
theorem QN {n:Nat}{i:Int}{j:Nat}(h:ixN n i=some j):seqIndex? i n=some j/\j < n/\-(n:Int)<=i/\i < n:=by
 unfold ixN at h
 by_cases h0:0<=i
 .rw [if_pos h0] at h
  by_cases h1:i < n
  .rw [if_pos h1] at h
   have e:i.toNat=j:=Option.some.inj h;exact⟨by rw[seqIndex_of h0 h1,e],by omega,by omega,h1⟩
  .rw [if_neg h1] at h; cases h
 .rw [if_neg h0] at h
  by_cases h1 : -(n:Int)<=i
  .rw [if_pos h1] at h
   have e:(i+n).toNat=j:=Option.some.inj h;exact⟨by rw[seqIndex_neg (by omega) h1,e],by omega,h1,by omega⟩
  .rw [if_neg h1] at h; cases h
theorem uS {α:Type}{xs:List α}{i:Int}{v:α}(h:atI xs i=some v):∃j,seqIndex? i xs.length=some j/\xs[j]?=some v/\j < xs.length/\-(xs.length:Int)<=i/\i < xs.length:=by
 unfold atI at h
 cases e:ixN xs.length i with
 |none=>rw[e] at h; cases h
 |some j =>
  rw[e] at h;obtain⟨h1,h2,h3,h4⟩:=QN e;exact⟨j,h1,h,h2,h3,h4⟩
def xL (b:Expr):Prop:=∀o i,subscripted b false o i=operate [o,i] (getItem o i)
def IxR (X:Cx)(r:R2):Prop :=
 ∀(value slice:Expr) (pins:List (Addr×Obj)) (s:Shared) (σ:St) (H:Hp) (x y:V) (v u:Value) (Q:VK),Inv X pins σ H s->RelV x v->RelV y u->r x y H Q ->
  subscripted slice false v u=operate [v,u] (getItem v u)->wpAny (model X.prog X.w) X.A (subscriptTail value slice v u) (EP X pins σ Q) X.xe s
def MtR (X:Cx)(id:String)(r:V->List V->Hp->VK->Prop):Prop :=
 ∀(pins:List (Addr×Obj)) (s:Shared) (σ:St) (H:Hp) (x:V) (xs:List V) (v:Value) (us:List Value) (Q:VK),Inv X pins σ H s->RelV x v->Vals xs us->r x xs H Q ->
  wpAny (model X.prog X.w) X.A (call (.builtin id) (v::us)) (EP X pins σ Q) X.xe s
section
variable {X:Cx}{a b:Expr}{ta tb:TE}{pos:Pos}
theorem IxR.or {r r':R2}(h:IxR X r)(h':IxR X r'):IxR X (fun x y H Q=>r x y H Q\/r' x y H Q):=by
 intro value slice pins s σ H x y v u Q I rx ry q hs
 rcases q with q | q
 .exact h value slice pins s σ H x y v u Q I rx ry q hs
 .exact h' value slice pins s σ H x y v u Q I rx ry q hs
theorem pe_ix {r:R2}(hr:IxR X r)(ha:PE X a ta)(hb:PE X b tb)(hs:xL b):PE X (.Subscript a b pos) (tOp r ta tb):=by
 intro pins s σ H Q I h;exact Subscript_ (binT ha hb I h fun v u s2 x y H2 I2 rx ry q=>hr a b pins s2 σ H2 x y v u Q I2 rx ry q (hs _ _))
inductive IIx (S:Hp->Addr->List V->Prop)(x y:V)(H:Hp)(Q:VK):Prop
 |mk (p:Addr) (xs:List V) (i:Int) (v:V) (h:x=.ref p) (h':y=.int i) (s:S H p xs) (a:atI xs i=some v) (q:Q v H):IIx S x y H Q
def rIxL (K:PySem.W.Frag):R2:=IIx (SqL K)
def rIxT (K:PySem.W.Frag):R2:=IIx (SqT K)
def rIxS:R2:=fun x y H Q=>∃z i c,x=.str z/\y=.int i/\z.length<=sizeLine/\atI z.cps.toList i=some c/\Q (.str ⟨#[c]⟩) H
theorem ix_list:IxR X (rIxL X.K):=by
 intro value slice pins s σ H x y v u Q I rx ry h hs;obtain⟨p,xs,i,z,rfl,rfl,hq,he,q⟩:=h;cases rx;obtain⟨t,rfl⟩:=ry;obtain⟨its,r,pl,hz⟩:=I.list hq;obtain⟨j,h1,h2,h3,h4,h5⟩:=uS he;obtain⟨w,ew,rw'⟩:=r.get h2;have hl:=r.length;have hn:=iU;have fin:EP X pins σ Q w s:=⟨z,H,I,rw',q⟩
 by_cases h0:0<=i
 .have hj:i.toNat=j:=by
   rw[seqIndex_of h0 h5] at h1;exact Option.some.inj h1
  exact item_listR pl.isList h0 (by omega) (by rw[hj]; simpa using ew) fin hs
 .have hj:(i+(its.toArray.size:Int)).toNat=j:=by
   rw[seqIndex_neg (by omega) h4] at h1;rw[List.size_toArray,<- hl];exact Option.some.inj h1
  exact subscriptTail_builtinR (x:=w) pl.isList.typeIs slot_list_getitem.lookup
   (wpAny_getItem_list_neg (Q:=fun r s'=>r=w/\EP X pins σ Q r s') pl.isList (by omega) (by rw[List.size_toArray]<;>omega) (by omega) (by rw[hj]; simpa using ew) ⟨rfl,fin⟩) hs
theorem ix_tup:IxR X (rIxT X.K):=by
 intro value slice pins s σ H x y v u Q I rx ry h hs;obtain⟨p,xs,i,z,rfl,rfl,hq,he,q⟩:=h;cases rx;obtain⟨t,rfl⟩:=ry;obtain⟨its,r,pl,hz⟩:=I.tuple hq;obtain⟨j,h1,h2,h3,h4,h5⟩:=uS he;obtain⟨w,ew,rw'⟩:=r.get h2;have hl:=r.length;have hn:=iU;have fin:EP X pins σ Q w s:=⟨z,H,I,rw',q⟩
 exact subscriptTail_builtinR (x:=w) pl.typeIs slot_tuple_getitem.lookup
  (getItem_tuple (j:=j) (Q:=fun r s'=>r=w/\EP X pins σ Q r s') pl (by omega) (by omega) (by rw[List.size_toArray,<- hl]; exact h1) (by simpa using ew) ⟨rfl,fin⟩) hs
theorem ix_str:IxR X rIxS:=by
 intro value slice pins s σ H x y v u Q I rx ry h hs;obtain⟨z,i,c,rfl,rfl,hz,he,q⟩:=h;obtain⟨t,rfl⟩:=rx;obtain⟨t',rfl⟩:=ry;obtain⟨j,h1,h2,h3,h4,h5⟩:=uS he;have hl:z.cps.toList.length=z.length:=by simp[Str.length]
 rw[hl] at h1 h4 h5;have hn:=iU
 exact tail_any (typeIs_str s z t) slot_str_getitem.lookup (getItem_str (c:=c) (by
  have e1:decide (i < -(2 ^ 63:Int))=false:=decide_eq_false (by omega);have e2:decide (i >= 2 ^ 63)=false:=decide_eq_false (by omega)
  rw[e1,e2,Bool.or_false]) (by rw[h1]; simpa using h2) ⟨.str ⟨#[c]⟩,H,I.tok _,⟨_,rfl⟩,q⟩) hs
def rIx (K:PySem.W.Frag):R2:=fun x y H Q=>rIxL K x y H Q\/rIxT K x y H Q\/rIxS x y H Q
theorem ix_seq:IxR X (rIx X.K):=ix_list.or (ix_tup.or ix_str)
theorem nA (its:List Value)(n j:Nat)(u:Value):Obj.mapSeq (·.setIfInBounds j u) { cls:=.type "list",data:=.seq its.toArray n }={ cls:=.type "list",data:=.seq (its.set j u).toArray n }:=by
 simp[Obj.mapSeq]
theorem Inv.lst {pins:List (Addr×Obj)}{σ:St}{H:Hp}{s:Shared}{p:Addr}{xs:List V}(I:Inv X pins σ H s)(h:H p=some (.lst xs)):
  ∃(its:List Value) (n:Nat),Vals xs its/\s.heap.get? p=some { cls:=.type "list",data:=.seq its.toArray n }/\xs.length<=sizeLine:=by
 obtain⟨z,its,n,r,e⟩:=I.hok p _ h;exact⟨its,n,r,e,z⟩
theorem Inv.lstUpd {pins:List (Addr×Obj)}{σ:St}{H:Hp}{s:Shared}{p:Addr}{xs ys:List V}{its its':List Value}{n n':Nat}{f:Obj->Obj}(I:Inv X pins σ H s)(h:H p=some (.lst xs))
  (ho:s.heap.get? p=some { cls:=.type "list",data:=.seq its.toArray n }) (hf:f { cls:=.type "list",data:=.seq its.toArray n }={ cls:=.type "list",data:=.seq its'.toArray n' }) (r:Vals ys its') (hz:ys.length<=sizeLine) (t:Nat) :
  Inv X pins σ (upd H p (.lst ys)) { s with heap:=s.heap.update p f,toks:=t }:=by
 have e:(s.heap.update p f).get? p=some { cls:=.type "list",data:=.seq its'.toArray n' }:=by
  rw[Heap.get?_update_self f ho (by rw[hf]<;>rfl),hf]
 refine I.write (x:=p) (e:=p) (by rw[h]; trivial) (.inl rfl) (fun b u hb q=>(Heap.get?_update_other _ _ (Ne.symm hb)).trans q) ⟨_,e⟩ ?_;exact⟨hz,its',n',r,e⟩
def rSetL:V->V->V->Hp->(Hp->Prop)->Prop:=fun o i v H Q=>∃p xs k j,o=.ref p/\i=.int k/\H p=some (.lst xs)/\ixN xs.length k=some j/\Q (upd H p (.lst (xs.set j v)))
theorem ZM:PSet X rSetL:=by
 intro pins s σ H o i v ov iv u Q I ro ri rv h;obtain⟨p,xs,k,j,rfl,rfl,hp,hj,q⟩:=h;cases ro;obtain⟨t,rfl⟩:=ri;obtain⟨its,n,r,ho,hz⟩:=I.lst hp;obtain⟨h1,h2,h3,h4⟩:=QN hj;have hl:=r.length;have hn:=iU
 have I':Inv X pins σ (upd H p (.lst (xs.set j v))) { s with heap:=s.heap.update p (Obj.mapSeq (·.setIfInBounds j u)) } :=
  I.lstUpd hp ho (nA its n j u) (r.set rv j) (by rw[List.length_set]; exact hz) s.toks
 by_cases h0:0<=k
 .have hk:k.toNat=j:=by
   rw[seqIndex_of h0 h4] at h1;exact Option.some.inj h1
  exact PySem.W.ki_setAt ho h0 (by omega) (by rw[List.size_toArray,<- hl]; exact h4) (by rw[hk]; exact⟨_,I',q⟩)
 .have hk:(k+(its.toArray.size:Int)).toNat=j:=by
   rw[seqIndex_neg (by omega) h3] at h1;rw[List.size_toArray,<- hl];exact Option.some.inj h1
  exact PySem.W.ki_setBack ho (by omega) (by rw[List.size_toArray,<- hl]; exact h3) (by omega) (by rw[hk]; exact⟨_,I',q⟩)
theorem nC (lo hi:Option Int)(n:Nat):(sliceBounds lo hi none n).1=((HT.sIx n 0 lo:Nat):Int)/\(sliceBounds lo hi none n).2.1=((HT.sIx n n hi:Nat):Int)/\(sliceBounds lo hi none n).2.2=1:=by
 refine⟨?_,?_,rfl⟩
 .cases lo with
  |none=>simp[sliceBounds,HT.sIx]
  |some i =>
   simp only[sliceBounds,HT.sIx,Option.getD_none,show(1:Int) > 0 by decide,if_true]
   by_cases h:i < 0
   .simp only[h,if_true]<;>omega
   .simp only[h,if_false]<;>omega
 .cases hi with
  |none=>simp[sliceBounds,HT.sIx]
  |some i =>
   simp only[sliceBounds,HT.sIx,Option.getD_none,show(1:Int) > 0 by decide,if_true]
   by_cases h:i < 0
   .simp only[h,if_true]<;>omega
   .simp only[h,if_false]<;>omega
theorem mH (its:List Value)(lo hi:Option Int):slicePick its.toArray lo hi none=((its.drop (HT.sIx its.length 0 lo)).take (HT.sIx its.length its.length hi - HT.sIx its.length 0 lo)).toArray:=by
 obtain⟨h1,h2,h3⟩:=nC lo hi its.toArray.size;unfold slicePick;rw[h1,h2,h3]
 simp only[sliceRange_one,pick_run,List.size_toArray]<;>rfl
def rSlL (K:PySem.W.Frag):V->Option Int->Option Int->Hp->VK->Prop:=fun x lo hi H Q=>∃a xs,x=.ref a/\SqL K H a xs/\∀p,H p=none->Q (.ref p) (upd H p (.lst (xE xs lo hi)))
theorem sl_list:SlR X (rSlL X.K):=by
 intro pins s σ H x v vl vu lo hi sl Q I rx hs pl pu h;obtain⟨a,xs,rfl,hx,q⟩:=h;cases rx;obtain⟨its,r,ht,hz⟩:=I.list hx;have hlen:=r.length;refine⟨"list",_,slot_list_getitem.lookup,ht.isList.typeIs,?_⟩;refine wpAny_getItem_list_slice ht.isList hs pl pu .none (by simp) ?_ (by rw[List.size_toArray]<;>omega);rw[mH,<- hlen];refine⟨.ref s.heap.objs.size,_,I.laid (t':=s.toks) (o:=.lst (xE xs lo hi)) (fun b ob q=>Heap.get?_push_of_some _ q) (Nat.le_refl _) ?_,rfl,q _ (I.hok.fresh (Nat.le_refl _))⟩
 exact⟨Nat.le_trans (kD xs lo hi) hz,_,0,(r.drop (HT.sIx xs.length 0 lo)).take (HT.sIx xs.length xs.length hi - HT.sIx xs.length 0 lo),Heap.get?_push_size _ rfl⟩
def tU:V->Bool
 |.non=>true
 |.bl _=>true
 |.int _=>true
 |.str _=>true
 |_=>false
def eqV:V->V->Bool
 |.non,.non=>true
 |.bl a,.bl b=>a==b
 |.bl a,.int b=>(if a then 1 else 0)==b
 |.int a,.bl b=>a==(if b then 1 else 0)
 |.int a,.int b=>a==b
 |.str a,.str b=>a==b
 |_,_=>false
theorem eqAt_V {A:Around}{s:Shared}{y x:V}{u v:Value}(ry:RelV y u)(rx:RelV x v)(fy:tU y=true)(fx:tU x=true):SeqAt.EqAt A s u v (eqV y x):=by
 cases y with
 |non =>
  cases ry
  cases x with
  |non=>cases rx; exact SeqAt.EqAt.same _
  |bl b=>cases rx; exact SeqAt.EqAt.none_bool b
  |int b=>obtain⟨t,rfl⟩:=rx; exact SeqAt.EqAt.none_int b t
  |str b=>obtain⟨t,rfl⟩:=rx; exact SeqAt.EqAt.none_str b t
  |_=>exact absurd (show false=true from fx) Bool.false_ne_true
 |bl a =>
  cases ry
  cases x with
  |non=>cases rx; exact SeqAt.EqAt.bool_none a
  |bl b=>cases rx; exact SeqAt.EqAt.bool_bool a b
  |int b=>obtain⟨t,rfl⟩:=rx; exact SeqAt.EqAt.bool_int a b t
  |str b=>obtain⟨t,rfl⟩:=rx; exact SeqAt.EqAt.bool_str a b t
  |_=>exact absurd (show false=true from fx) Bool.false_ne_true
 |int a =>
  obtain⟨t',rfl⟩:=ry
  cases x with
  |non=>cases rx; exact SeqAt.EqAt.int_none a t'
  |bl b=>cases rx; exact SeqAt.EqAt.int_bool a t' b
  |int b=>obtain⟨t,rfl⟩:=rx; exact SeqAt.EqAt.int_int a t' b t
  |str b=>obtain⟨t,rfl⟩:=rx; exact SeqAt.EqAt.int_str a t' b t
  |_=>exact absurd (show false=true from fx) Bool.false_ne_true
 |str a =>
  obtain⟨t',rfl⟩:=ry
  cases x with
  |non=>cases rx; exact SeqAt.EqAt.str_none a t'
  |bl b=>cases rx; exact SeqAt.EqAt.str_bool a t' b
  |int b=>obtain⟨t,rfl⟩:=rx; exact SeqAt.EqAt.str_int a t' b t
  |str b=>obtain⟨t,rfl⟩:=rx; exact SeqAt.EqAt.str_str a t' b t
  |_=>exact absurd (show false=true from fx) Bool.false_ne_true
 |_=>exact absurd (show false=true from fy) Bool.false_ne_true
def eqU (x:V)(u:Value):Bool:=match u with
 |.none=>eqV .non x
 |.bool b=>eqV (.bl b) x
 |.int i _=>eqV (.int i) x
 |.str z _=>eqV (.str z) x
 |_=>false
theorem Kr {x y:V}{u:Value}(r:RelV y u)(f:tU y=true):eqU x u=eqV y x:=by
 cases y with
 |non=>cases r; rfl
 |bl b=>cases r; rfl
 |int i=>obtain⟨t,rfl⟩:=r; rfl
 |str z=>obtain⟨t,rfl⟩:=r; rfl
 |_=>exact absurd (show false=true from f) Bool.false_ne_true
theorem bS {x:V}:∀{xs:List V}{us:List Value},Vals xs us->xs.all tU=true->us.any (eqU x)=xs.any fun y=>eqV y x
 |_,_,.nil,_=>rfl
 |y::xs,u::us,.cons r t,f=>by
  rw[List.all_cons,Bool.and_eq_true] at f;rw[List.any_cons,List.any_cons,Kr r f.1,bS t f.2]
theorem qP {A:Around}{s:Shared}{x:V}{v:Value}(rx:RelV x v)(fx:tU x=true):∀{xs:List V}{us:List Value},Vals xs us->xs.all tU=true->∀u∈us,SeqAt.EqAt A s u v (eqU x u)
 |_,_,.nil,_=>fun u hu=>by cases hu
 |y::xs,u::us,.cons r t,f=>fun u' hu=>by
  rw[List.all_cons,Bool.and_eq_true] at f
  rcases List.mem_cons.mp hu with rfl | hu
  .rw [Kr r f.1]; exact eqAt_V r rx f.1 fx
  .exact qP rx fx t f.2 u' hu
def inV (x:V)(xs:List V):Bool:=xs.any fun y=>eqV y x
def rIn (K:PySem.W.Frag)(neg:Bool):R2:=fun x y H Q=>∃p xs,y=.ref p/\(SqL K H p xs\/SqT K H p xs)/\tU x=true/\xs.all tU=true/\Q (.bl (if neg then !inV x xs else inV x xs)) H
theorem XG:OpR X (compareOp .In) (rIn X.K false):=by
 intro pins s σ H x y v u Q I rx ry h;obtain⟨p,xs,rfl,hq,fx,fs,q⟩:=h;cases ry
 rcases hq with hq | hq
 .obtain ⟨its,r,pl,hz⟩:=I.list hq
  refine SeqAt.in_listAt (eqU x) pl.isList (fun w hw=>qP rx fx r fs w (by simpa using hw)) ⟨.bl _,H,I,rfl,?_⟩;rw[show its.toArray.any (eqU x)=its.any (eqU x) by simp,bS r fs];exact q
 .obtain ⟨its,r,pl,hz⟩:=I.tuple hq
  refine SeqAt.in_tupleAt (eqU x) pl (fun w hw=>qP rx fx r fs w (by simpa using hw)) ⟨.bl _,H,I,rfl,?_⟩;rw[show its.toArray.any (eqU x)=its.any (eqU x) by simp,bS r fs];exact q
theorem zS:CallR X (.builtin "len") (fun xs H Q=>∃p ys,xs=[.ref p]/\(SqL X.K H p ys\/SqT X.K H p ys)/\Q (.int ys.length) H):=by
 intro pins s σ H xs us Q I r h;obtain⟨p,ys,rfl,hq,q⟩:=h;obtain⟨u,rfl,rx⟩:=sW r;cases rx;have hn:=iU
 rcases hq with hq | hq
 .obtain ⟨its,r',pl,hz⟩:=I.list hq
  have hlen:=r'.length;exact Calls.call_len_list pl.isList (by simp only[List.size_toArray]<;>omega) ⟨.int ys.length,H,I.tok _,⟨s.toks+1,by rw[List.size_toArray,hlen]⟩,q⟩
 .obtain ⟨its,r',pl,hz⟩:=I.tuple hq
  have hlen:=r'.length;exact len_tuple pl (by simp only[List.size_toArray]<;>omega) ⟨.int ys.length,H,I.tok _,⟨s.toks+1,by rw[List.size_toArray,hlen]⟩,q⟩
theorem qS:CallR X (.builtin "len") (fun xs H Q=>∃z,xs=[.str z]/\z.length<=sizeLine/\Q (.int z.length) H):=by
 intro pins s σ H xs us Q I r h;obtain⟨z,rfl,hz,q⟩:=h;obtain⟨u,rfl,t,rfl⟩:=sW r;have hn:=iU;exact len_str (by omega) ⟨.int z.length,H,I.tok _,⟨_,rfl⟩,q⟩
theorem CallR.or {f:Value}{r r':List V->Hp->VK->Prop}(h:CallR X f r)(h':CallR X f r'):CallR X f (fun xs H Q=>r xs H Q\/r' xs H Q):=by
 intro pins s σ H xs us Q I rs q
 rcases q with q | q
 .exact h pins s σ H xs us Q I rs q
 .exact h' pins s σ H xs us Q I rs q
theorem eR:CallR X (.type "list") (fun xs H Q=>∃p ys,xs=[.ref p]/\(SqL X.K H p ys\/SqT X.K H p ys)/\∀l,H l=none->Q (.ref l) (upd H l (.lst ys))):=by
 intro pins s σ H xs us Q I r h;obtain⟨p,ys,rfl,hq,q⟩:=h;obtain⟨u,rfl,rx⟩:=sW r;cases rx
 have fin:∀(its:List Value),Vals ys its->ys.length<=sizeLine->∀(h':Heap) (c':Nat),(∀b o',s.heap.get? b=some o'->h'.get? b=some o') ->
   h'.get? s.heap.objs.size=some { cls:=.type "list",dict:=none,data:=.seq its.toArray c',slots:=#[] }->EP X pins σ Q (.ref s.heap.objs.size) { s with heap:=h' }:=fun its r' hz h' c' kp e =>
  ⟨.ref s.heap.objs.size,_,I.laid (t':=s.toks) kp (Nat.le_refl _) (show ObjOk X.prog X.w _ h' _ (.lst ys) from⟨hz,its,c',r',e⟩),rfl,q _ (I.hok.fresh (Nat.le_refl _))⟩
 rcases hq with hq | hq
 .obtain ⟨its,r',pl,hz⟩:=I.list hq
  have hlen:=r'.length;obtain⟨o,ho,hc,n,hd⟩:=pl.isList;exact call_list_seq p (.inl rfl) ho hc hd (fun h' c' kp e=>fin its r' hz h' c' kp e) (by simp only[List.size_toArray]<;>omega)
 .obtain ⟨its,r',pl,hz⟩:=I.tuple hq
  have hlen:=r'.length;obtain⟨o,ho,hc,n,hd⟩:=pl;exact call_list_seq p (.inr rfl) ho hc hd (fun h' c' kp e=>fin its r' hz h' c' kp e) (by simp only[List.size_toArray]<;>omega)
theorem rH:CallR X (.type "tuple") (fun xs H Q=>∃p ys,xs=[.ref p]/\((SqL X.K H p ys/\∀l,H l=none->Q (.ref l) (upd H l (.tup ys)))\/(SqT X.K H p ys/\Q (.ref p) H))):=by
 intro pins s σ H xs us Q I r h;obtain⟨p,ys,rfl,h⟩:=h;obtain⟨u,rfl,rx⟩:=sW r;cases rx
 rcases h with ⟨hq,q⟩ | ⟨hq,q⟩
 .obtain ⟨its,r',pl,hz⟩:=I.list hq
  have hlen:=r'.length;refine call_tuple_list pl.isList (fun h' kp=>?_) (by simp only[List.size_toArray]<;>omega);have I1:Inv X pins σ H { s with heap:=h' }:=I.kept (t':=s.toks) kp
  have I2:Inv X pins σ (upd H h'.objs.size (.tup ys)) { s with heap:=h'.push { cls:=.type "tuple",data:=.seq its.toArray } } :=
   I1.laid (t':=s.toks) (fun b o e=>Heap.get?_push_of_some _ e) (Nat.le_refl _) (show ObjOk X.prog X.w _ _ _ (.tup ys) from⟨hz,its,r',IsTupN.new _ _⟩)
  exact⟨.ref h'.objs.size,_,I2,rfl,q _ (I1.hok.fresh (Nat.le_refl _))⟩
 .obtain ⟨its,r',pl,hz⟩:=I.tuple hq
  exact call_tuple_same pl ⟨.ref p,H,I,rfl,q⟩
def tyV (K:PySem.W.Frag)(T:String)(x:V)(H:Hp):Prop:=match x with
 |.str _=>T = "str"
 |.int _=>T = "int"
 |.ref p=>(T = "list"/\∃xs,SqL K H p xs)\/(T = "tuple"/\∃o,K.lookup p=some o/\o.cls=.type "tuple"/\o.dict=none) \/
   (T = "dict"/\((∃kvs,H p=some (.dK kvs))\/∃kvs,H p=some (.dT kvs)))\/(T = "set"/\∃S n,H p=some (.set S n))
 |_=>False
theorem Zw {pins:List (Addr×Obj)}{σ:St}{H:Hp}{s:Shared}{T:String}{x:V}{v:Value}(I:Inv X pins σ H s)(r:RelV x v)(ty:tyV X.K T x H):
  s.TypeIs v T/\∀a,v=.ref a->∃ob,s.heap.get? a=some ob/\ob.dict=none:=by
 cases x with
 |str z =>
  obtain⟨t,rfl⟩:=r;cases (show T = "str" from ty);exact⟨typeIs_str s z t,fun _ e=>nomatch e⟩
 |int i =>
  obtain⟨t,rfl⟩:=r;cases (show T = "int" from ty);exact⟨typeIs_int s i t,fun _ e=>nomatch e⟩
 |ref p =>
  cases r
  rcases ty with ⟨rfl,xs,hq⟩ | ⟨rfl,o,hk,hc,hd⟩ | ⟨rfl,hk⟩ | ⟨rfl,S,n,hk⟩
  .obtain ⟨its,_,pl,_⟩:=I.list hq
   refine⟨pl.isList.typeIs,fun a e=>?_⟩;cases e;obtain⟨o,n,e,c,hd,_⟩:=pl;exact⟨o,e,hd⟩
  .refine ⟨⟨o,I.kIn p o hk,hc⟩,fun a e=>?_⟩
   cases e;exact⟨o,I.kIn _ o hk,hd⟩
  .have z:∃o,s.heap.get? p=some o/\o.ExactDict:=by
    rcases hk with ⟨kvs,hk⟩ | ⟨kvs,hk⟩
    .obtain ⟨_,_,_,_,o,_,_,e,ex,_⟩:=I.hok p _ hk
     exact⟨o,e,ex⟩
    .obtain ⟨_,_,_,_,o,_,_,e,ex,_⟩:=I.hok p _ hk
     exact⟨o,e,ex⟩
   obtain⟨o,e,ex⟩:=z;refine⟨⟨o,e,ex.1⟩,fun a e2=>?_⟩;cases e2;exact⟨o,e,ex.2.1⟩
  .obtain ⟨o,_,_,_,e,ex,_⟩:=I.hok p _ hk
   refine⟨⟨o,e,ex.1⟩,fun a e2=>?_⟩;cases e2;exact⟨o,e,ex.2.1⟩
 |_=>exact False.elim ty
def tBM0 (K:PySem.W.Frag)(T:String)(r:V->List V->Hp->VK->Prop)(to:TE):TE:=fun σ H Q=>to σ H fun x H1=>tyV K T x H1/\r x [] H1 Q
def tBM (K:PySem.W.Frag)(T:String)(r:V->List V->Hp->VK->Prop)(to:TE)(t:TA):TE:=fun σ H Q=>to σ H fun x H1=>tyV K T x H1/\t σ H1 fun xs H2=>r x xs H2 Q
variable {o e:Expr}{es:List Expr}{to:TE}{t:TA}{name:Str}{apos cpos:Pos}{T id:String}{r:V->List V->Hp->VK->Prop}
theorem pe_bm0 (pa:PlainAttrs T)(slot:Slot T name id)(hty:typeOf (.builtin id)=pure (.type "method_descriptor"))(hm:MtR X id r)(ho:PE X o to)
  (hbase:attributeBase o name X.env (eval o X.env)=eval o X.env:=by rfl) (hline:(apos.endLine==cpos.line)=true:=by rfl):PE X (.Call (.Attribute o name apos) [] [] cpos) (tBM0 X.K T r to):=by
 intro pins s σ H Q I h;refine wpAny_Call_method0_late hbase hline (thn (ho pins s σ H _ I h) fun v s1 ⟨x,H1,I1,r1,ty,q1⟩=>?_);obtain⟨h1,h2⟩:=Zw I1 r1 ty;exact⟨T,id,pa,slot,hty,h1,h2,Calls.callWith_builtin rfl (PySem.evalArgs_none (hm pins s1 σ H1 x [] v [] Q I1 r1 .nil q1))⟩
theorem pe_bm (pa:PlainAttrs T)(slot:Slot T name id)(hty:typeOf (.builtin id)=pure (.type "method_descriptor"))(hm:MtR X id r)(ho:PE X o to)(ha:PA X (e::es) t)
  (hbase:attributeBase o name X.env (eval o X.env)=eval o X.env:=by rfl)
  (hfew:((backTo cpos (starEach (e::es) X.env)).all (fun x=>!x.1)&&(backToKw cpos (keywordEach [] X.env)).all (fun x=>x.1.isSome)
   && decide ((e::es).length+([]:List Keyword).length+(if ([]:List Keyword).isEmpty then 0 else 1) < 30))=true:=by rfl)
  (hline:(apos.endLine==cpos.line)=true:=by rfl) (hs:starEach (e::es) X.env=(false,eval e X.env)::starEach es X.env:=by rfl) (hplain:(backTo cpos (starEach es X.env)).any (·.1)=false:=by rfl) :
  PE X (.Call (.Attribute o name apos) (e::es) [] cpos) (tBM X.K T r to t):=by
 intro pins s σ H Q I h;refine wpAny_Call_method_late hbase hfew hline rfl (thn (ho pins s σ H _ I h) fun v s1 ⟨x,H1,I1,r1,ty,q1⟩=>?_);obtain⟨h1,h2⟩:=Zw I1 r1 ty;refine⟨T,id,pa,slot,hty,h1,h2,?_⟩;have hA:=ha cpos pins s1 σ H1 _ I1 q1;rw[hs] at hA ⊢;refine Calls.callWith_builtin (by show(false || (backTo cpos (starEach es X.env)).any (·.1))=false; rw[hplain]<;>rfl) (Calls.evalArgs_plain ?_);exact thn hA fun us s2 ⟨vs,H2,I2,r2,q2⟩=>hm pins s2 σ H2 x vs v us Q I2 r1 r2 q2
end
def MtM (X:Cx)(id:String)(r:V->List V->Hp->VK->Prop):Prop :=
 ∀(pins:List (Addr×Obj)) (s:Shared) (σ:St) (H:Hp) (x:V) (xs:List V) (v:Value) (us:List Value) (Q:VK),Inv X pins σ H s->RelV x v->Vals xs us->r x xs H Q ->
  wpAny (model X.prog X.w) X.A (call (.builtin id) (v::us)) (EP X pins σ Q) X.xe s
theorem Vals.one:∀{x:V}{us:List Value},Vals [x] us->∃u,us=[u]/\RelV x u
 |_,_,.cons r .nil=>⟨_,rfl,r⟩
theorem Vals.zero:∀{us:List Value},Vals [] us->us=[]
 |_,.nil=>rfl
theorem Vals.dropLast {xs:List V}{us:List Value}(h:Vals xs us):Vals xs.dropLast us.dropLast:=by
 induction h with
 |nil=>exact .nil
 |cons r t ih =>
  cases t with
  |nil=>exact .nil
  |cons q t'=>exact .cons r ih
theorem Vals.reverse {xs:List V}{us:List Value}(h:Vals xs us):Vals xs.reverse us.reverse:=by
 induction h with
 |nil=>exact .nil
 |cons r t ih=>rw[List.reverse_cons,List.reverse_cons]; exact Vals.append ih (.cons r .nil)
theorem nI {α:Type}(l:List α):l.eraseIdx (l.length - 1)=l.dropLast:=by
 induction l with
 |nil=>rfl
 |cons a r ih =>
  cases r with
  |nil=>rfl
  |cons b r =>
   have e:(a::b::r).length - 1=((b::r).length - 1)+1:=by
    have h1:(a::b::r).length=r.length+2:=rfl;have h2:(b::r).length=r.length+1:=rfl;omega
   rw[e,List.eraseIdx_cons_succ,ih]
   all_goals rfl
section
variable {X:Cx}{pins:List (Addr×Obj)}{σ:St}{H:Hp}{s:Shared}{l b:Addr}{xs ys zs:List V}
theorem Inv.lset {its its':List Value}{n:Nat}{f:Array Value->Array Value}{t':Nat}(I:Inv X pins σ H s)(hH:H l=some (.lst xs))
  (e:s.heap.get? l=some { cls:=.type "list",data:=.seq its.toArray n }) (hf:f its.toArray=its'.toArray) (hv:Vals ys its') (hz:ys.length<=sizeLine) :
  Inv X pins σ (upd H l (.lst ys)) { s with heap:=s.heap.update l (Obj.mapSeq f),toks:=t' }:=by
 have q:=PySem.IsL.update e f;rw[hf] at q;refine I.write (x:=l) (e:=l) (by rw[hH]; exact trivial) (.inl rfl) (fun b' u hb hu=>(Heap.get?_update_other s.heap (Obj.mapSeq f) (Ne.symm hb)).trans hu) ⟨_,q⟩ ?_;exact⟨hz,its',_,hv,q⟩
theorem Inv.lnew {its:List Value}{t':Nat}(I:Inv X pins σ H s)(hv:Vals ys its)(hz:ys.length<=sizeLine):
  Inv X pins σ (upd H s.heap.objs.size (.lst ys)) { s with heap:=s.heap.push { cls:=.type "list",data:=.seq its.toArray },toks:=t' } :=
 I.laid (fun _ _ q=>Heap.get?_push_of_some _ q) (Nat.le_refl _) ⟨hz,its,0,hv,Heap.get?_push_size _ rfl⟩
theorem Inv.fresh (I:Inv X pins σ H s):H s.heap.objs.size=none:=I.hok.fresh (Nat.le_refl _)
theorem Inv.lstM (I:Inv X pins σ H s)(hH:H l=some (.lst xs)):xs.length<=sizeLine/\∃(its:List Value) (n:Nat),Vals xs its/\xs.length=its.length/\s.heap.get? l=some { cls:=.type "list",data:=.seq its.toArray n }:=by
 obtain⟨z,its,n,r,e⟩:=I.hok l _ hH;exact⟨z,its,n,r,r.length,e⟩
theorem Jy {n:Nat}(h:n<=sizeLine):Builtin.List.listTooLong n=false:=by
 unfold Builtin.List.listTooLong;exact decide_eq_false (by omega)
end
section
variable {X:Cx}
def QB:V->List V->Hp->VK->Prop:=fun x vs H Q=>∃l xs y,x=.ref l/\vs=[y]/\H l=some (.lst xs)/\xs.length < sizeLine/\Q .non (upd H l (.lst (xs++[y])))
theorem mN:MtM X "list.append" QB:=by
 intro pins s σ H x vs v us Q I rx rv h;obtain⟨l,xs,y,rfl,rfl,hH,hz,q⟩:=h;cases rx;obtain⟨u,rfl,ru⟩:=rv.one;obtain⟨z,its,n,r,hl,e⟩:=I.lstM hH;refine call_meets F.slot_list_append ⟨_,e,rfl⟩ F.entry_list_append (F.args_list_append_2 _ _) (PySem.list_append l its.toArray n u (by rw[List.size_toArray]; omega)) ⟨e,?_⟩;refine⟨.non,_,I.lset (its':=its++[u]) hH e (by simp) (r.append (.cons ru .nil)) ?_,rfl,q⟩
 rw[List.length_append,List.length_singleton];omega
def QA:V->List V->Hp->VK->Prop:=fun x vs H Q=>∃l b xs zs,x=.ref l/\vs=[.ref b]/\H l=some (.lst xs)/\H b=some (.lst zs)/\xs.length+zs.length<=sizeLine/\Q .non (upd H l (.lst (xs++zs)))
theorem XQ:MtM X "list.extend" QA:=by
 intro pins s σ H x vs v us Q I rx rv h;obtain⟨l,b,xs,zs,rfl,rfl,hH,hB,hz,q⟩:=h;cases rx;obtain⟨u,rfl,ru⟩:=rv.one;cases ru;obtain⟨z,its,n,r,hl,e⟩:=I.lstM hH;obtain⟨z2,its2,n2,r2,hl2,e2⟩:=I.lstM hB;have hsz:its.toArray.size+its2.toArray.size<=sizeLine:=by rw[List.size_toArray,List.size_toArray]; omega
 have hlong:¬ (!its.toArray.isEmpty&&Builtin.List.listTooLong (its.toArray.size+its2.toArray.size))=true:=by
  rw[Jy hsz,Bool.and_false];exact Bool.false_ne_true
 refine call_meets F.slot_list_extend ⟨_,e,rfl⟩ F.entry_list_extend (F.args_list_extend_2 _ _)
  (AutoSeq1.list_extend_list_list_0 l its.toArray n b its2.toArray n2 hlong (by rw[List.size_toArray]; omega) (by omega)) ⟨e,e2,?_⟩
 refine⟨.non,_,I.lset (its':=its++its2) hH e (by simp) (r.append r2) ?_,rfl,q⟩;rw[List.length_append];omega
def rPop:V->List V->Hp->VK->Prop:=fun x vs H Q=>∃l xs y,x=.ref l/\vs=[]/\H l=some (.lst xs)/\xs[xs.length - 1]?=some y/\Q y (upd H l (.lst xs.dropLast))
theorem mt_pop:MtM X "list.pop" rPop:=by
 intro pins s σ H x vs v us Q I rx rv h;obtain⟨l,xs,y,rfl,rfl,hH,hy,q⟩:=h;cases rx;have hus:=rv.zero;subst hus;obtain⟨z,its,n,r,hl,e⟩:=I.lstM hH;obtain⟨u,hu,ru⟩:=r.get hy
 have hy':its.toArray[its.toArray.size - 1]?=some u:=by
  show its.toArray[its.length - 1]?=some u;rw[<- Array.getElem?_toList,<- hl];exact hu
 refine call_meets F.slot_list_pop ⟨_,e,rfl⟩ F.entry_list_pop (F.args_list_pop_1 _) (MeetsSeq.list_pop_last l its.toArray n u hy' (by rw[List.size_toArray]; omega)) ⟨e,?_⟩;refine⟨y,_,I.lset (its':=its.dropLast) hH e ?_ r.dropLast ?_,ru,q⟩
 .show its.toArray.eraseIdxIfInBounds (its.toArray.size - 1)=its.dropLast.toArray
  rw[List.size_toArray,List.eraseIdxIfInBounds_toArray,nI]
 .rw [List.length_dropLast]
  omega
def vT:V->List V->Hp->VK->Prop:=fun x vs H Q=>∃l xs,x=.ref l/\vs=[]/\H l=some (.lst xs)/\Q .non (upd H l (.lst xs.reverse))
theorem lA:MtM X "list.reverse" vT:=by
 intro pins s σ H x vs v us Q I rx rv h;obtain⟨l,xs,rfl,rfl,hH,q⟩:=h;cases rx;have hus:=rv.zero;subst hus;obtain⟨z,its,n,r,hl,e⟩:=I.lstM hH;refine call_meets F.slot_list_reverse ⟨_,e,rfl⟩ F.entry_list_reverse (F.args_list_reverse_1 _) (AutoSeq1.list_reverse_list_0 l its.toArray n (by rw[List.size_toArray]; omega)) ⟨e,?_⟩;refine⟨.non,_,I.lset (its':=its.reverse) hH e (by simp) r.reverse ?_,rfl,q⟩
 rw[List.length_reverse];omega
def rCat:R2:=fun x y H Q=>∃l b xs zs,x=.ref l/\y=.ref b/\H l=some (.lst xs)/\H b=some (.lst zs)/\xs.length+zs.length<=sizeLine/\∀p,H p=none->Q (.ref p) (upd H p (.lst (xs++zs)))
theorem op_cat:OpR X (binaryOp .Add) rCat:=by
 intro pins s σ H x y v u Q I rx ry h;obtain⟨l,b,xs,zs,rfl,rfl,hH,hB,hz,q⟩:=h;cases rx;cases ry;obtain⟨z,its,n,r,hl,e⟩:=I.lstM hH;obtain⟨z2,its2,n2,r2,hl2,e2⟩:=I.lstM hB;refine PySem.P.add_list e e2 ?_ (by rw[List.size_toArray,List.size_toArray]; omega);have ea:its.toArray++its2.toArray=(its++its2).toArray:=by simp
 rw[ea];exact⟨.ref _,_,I.lnew (t':=s.toks) (r.append r2) (by rw[List.length_append]; omega),rfl,q _ I.fresh⟩
end
section
variable {κ:Type}[DecidableEq κ]
def oW (kvs:List (κ×V))(k:κ):Option V:=(kvs.find? fun kv=>decide (kv.1=k)).map (·.2)
def bK (kvs:List (κ×V))(k:κ)(v:V):List (κ×V) :=
 if (kvs.any fun kv=>decide (kv.1=k))=true then kvs.map (fun kv=>if kv.1=k then (kv.1,v) else kv) else kvs++[(k,v)]
theorem cB {p:κ×V}{r:List (κ×V)}{k:κ}(e:p.1=k):oW (p::r) k=some p.2:=by simp[oW,List.find?_cons,e]
theorem lB {p:κ×V}{r:List (κ×V)}{k:κ}(e:¬ p.1=k):oW (p::r) k=oW r k:=by simp[oW,List.find?_cons,e]
theorem uL (k:κ):∀kvs:List (κ×V),(kvs.any fun kv=>decide (kv.1=k))=(oW kvs k).isSome
 |[]=>rfl
 |p::r=>by
  rw[List.any_cons]
  by_cases e:p.1=k
  .simp only[cB e,decide_eq_true e,Bool.true_or,Option.isSome_some]
  .rw [lB e,decide_eq_false e,Bool.false_or]; exact uL k r
theorem wW (kvs:List (κ×V))(k:κ)(v:V):(bK kvs k v).length<=kvs.length+1:=by
 unfold bK
 split
 .rw [List.length_map]; omega
 .rw [List.length_append,List.length_cons,List.length_nil]; omega
theorem RelO.isSome_eq {o:Option V}{u:Option Value}(r:RelO o u):o.isSome=u.isSome:=by
 cases o with
 |none=>cases u with
  |none=>rfl
  |some _=>exact(show False from r).elim
 |some _=>cases u with
  |none=>exact(show False from r).elim
  |some _=>rfl
theorem RelO.getD {o:Option V}{u:Option Value}{d:V}{d':Value}(r:RelO o u)(rd:RelV d d'):RelV (o.getD d) (u.getD d'):=by
 cases o with
 |none=>cases u with
  |none=>exact rd
  |some _=>exact(show False from r).elim
 |some _=>cases u with
  |none=>exact(show False from r).elim
  |some _=>exact r
theorem KV.val {kvs:List (κ×V)}{vs:List (κ×Value)}(r:KV kvs vs)(k:κ):RelO (oW kvs k) (valueAt vs k):=by
 unfold KV at r
 induction r with
 |nil=>exact True.intro
 |@cons p q ps qs h t ih =>
  obtain⟨h1,h2⟩:=h
  by_cases e:p.1=k
  .have e':q.1=k:=h1.symm.trans e
   have b:valueAt (q::qs) k=some q.2:=by simp[valueAt,List.find?_cons,e']
   rw[cB e,b]; exact h2
  .have e':¬ q.1=k:=fun z=>e (h1.trans z)
   have b:valueAt (q::qs) k=valueAt qs k:=by simp[valueAt,List.find?_cons,e']
   rw[lB e,b]; exact ih
theorem KV.any {kvs:List (κ×V)}{vs:List (κ×Value)}(r:KV kvs vs)(k:κ):(kvs.any fun kv=>decide (kv.1=k))=vs.any fun kv=>decide (kv.1=k):=by
 unfold KV at r
 induction r with
 |nil=>rfl
 |cons h t ih=>rw[List.any_cons,List.any_cons,ih,h.1]
theorem KV.repl {kvs:List (κ×V)}{vs:List (κ×Value)}(r:KV kvs vs)(k:κ){y:V}{u:Value}(ry:RelV y u):
  KV (kvs.map fun kv=>if kv.1=k then (kv.1,y) else kv) (vs.map fun kv=>if kv.1=k then (kv.1,u) else kv):=by
 unfold KV at r ⊢
 induction r with
 |nil=>exact .nil
 |@cons p q ps qs h t ih =>
  rw[List.map_cons,List.map_cons];refine .cons ?_ ih;obtain⟨h1,h2⟩:=h
  by_cases e:p.1=k
  .rw [if_pos e,if_pos (h1.symm.trans e)]; exact⟨h1,ry⟩
  .rw [if_neg e,if_neg (fun z=>e (h1.trans z))]; exact⟨h1,h2⟩
theorem KV.put {kvs:List (κ×V)}{vs:List (κ×Value)}(r:KV kvs vs)(k:κ){y:V}{u:Value}(ry:RelV y u):KV (bK kvs k y) (stored vs k u):=by
 unfold bK stored;rw[r.any k]
 by_cases e:(vs.any fun kv=>decide (kv.1=k))=true
 .rw [if_pos e,if_pos e]; exact r.repl k ry
 .rw [if_neg e,if_neg e]; exact Paired.snoc r ⟨rfl,ry⟩
theorem KV.length {kvs:List (κ×V)}{vs:List (κ×Value)}(r:KV kvs vs):kvs.length=vs.length:=Paired.length r
end
theorem lN {P:Program}{w:World}{k:Key}{u:Value}(r:RelV (kV k) u):(oQ P w).is k u=true:=by
 rcases k with (_ | i) | x
 .cases (show u=Value.none from r); exact xR P w
 .obtain ⟨t,e⟩:=(show ∃t,u=Value.int i t from r); subst e; exact wO P w i t
 .obtain ⟨t,e⟩:=(show ∃t,u=Value.str x t from r); subst e; exact vO P w x t
theorem nN {P:Program}{w:World}:∀{ks:List Key}{us:List Value},Vals (ks.map kV) us->ItemsAre (oQ P w) ks us
 |[],_,r=>by rw[List.map_nil] at r; cases r; exact .nil
 |k::ks,_,r=>by
  rw[List.map_cons] at r
  cases r with
  |cons h t=>exact .cons (lN h) (nN t)
abbrev KT (H:Hp):List (List Key×V)->List (List Key×Addr×Value)->Prop:=Paired fun p q=>p.1=q.1/\H q.2.1=some (.tup (p.1.map kV))/\RelV p.2 q.2.2
theorem KT.val {H:Hp}{kvs:List (List Key×V)}{xs:List (List Key×Addr×Value)}(r:KT H kvs xs)(k:List Key):RelO (oW kvs k) ((atKey xs k).map (·.2)):=by
 induction r with
 |nil=>exact True.intro
 |@cons p q ps qs h t ih =>
  obtain⟨h1,_,h2⟩:=h
  by_cases e:p.1=k
  .have e':q.1=k:=h1.symm.trans e
   have b:atKey (q::qs) k=some q.2:=by simp[atKey,List.find?_cons,e']
   rw[cB e,b]; exact h2
  .have e':¬ q.1=k:=fun z=>e (h1.trans z)
   have b:atKey (q::qs) k=atKey qs k:=by simp[atKey,List.find?_cons,e']
   rw[lB e,b]; exact ih
theorem KT.repl {H:Hp}{kvs:List (List Key×V)}{xs:List (List Key×Addr×Value)}(r:KT H kvs xs)(k:List Key){y:V}{u:Value}(ry:RelV y u):
  KT H (kvs.map fun kv=>if kv.1=k then (kv.1,y) else kv) (xs.map (putAt k u)):=by
 induction r with
 |nil=>exact .nil
 |@cons p q ps qs h t ih =>
  rw[List.map_cons,List.map_cons];refine .cons ?_ ih;obtain⟨h1,h2,h3⟩:=h;unfold putAt
  by_cases e:p.1=k
  .rw [if_pos e,if_pos (h1.symm.trans e)]; exact⟨h1,h2,ry⟩
  .rw [if_neg e,if_neg (fun z=>e (h1.trans z))]; exact⟨h1,h2,h3⟩
theorem KT.put {H:Hp}{kvs:List (List Key×V)}{xs:List (List Key×Addr×Value)}(r:KT H kvs xs)(k:List Key){b:Addr}{y:V}{u:Value}(hb:H b=some (.tup (k.map kV)))(ry:RelV y u):
  KT H (bK kvs k y) (storedH xs k b u):=by
 have e:(kvs.any fun kv=>decide (kv.1=k))=(atKey xs k).isSome:=by
  rw[uL,(r.val k).isSome_eq,Option.isSome_map]
 unfold bK storedH;rw[e]
 by_cases q:(atKey xs k).isSome=true
 .rw [if_pos q,if_pos q]; exact r.repl k ry
 .rw [if_neg q,if_neg q]; exact Paired.snoc r ⟨rfl,hb,ry⟩
theorem KT.keeps {H H':Hp}{kvs:List (List Key×V)}{xs:List (List Key×Addr×Value)}(r:KT H kvs xs)(ht:∀b ys,H b=some (.tup ys)->H' b=some (.tup ys)):KT H' kvs xs :=
 Paired.mapP r fun _ _ z=>⟨z.1,ht _ _ z.2.1,z.2.2⟩
section
variable {P:Program}{w:World}{H:Hp}{h:Heap}{a:Addr}
theorem rd_of {u:HO}(ok:HOk P w H h)(e:Rd H a u):ObjOk P w H h a u:=e.ok ok
theorem iN {kvs:List (Key×V)}(ok:HOk P w H h)(e:Rd H a (.dK kvs)):kvs.length<=sizeLine/\(a==sysModules)=false/\∃vs,KV kvs vs/\h.DictOf (oQ P w) a vs :=
 show ObjOk P w H h a (.dK kvs) from rd_of ok e
theorem pP {kvs:List (Key×V)}(ok:HOk P w H h)(e:H a=some (.dK kvs)):kvs.length<=sizeLine/\(a==sysModules)=false/\∃vs,KV kvs vs/\h.DictOf (oQ P w) a vs:=iN ok (.inl e)
theorem jB {ks:List Key}(ok:HOk P w H h)(e:H a=some (.tup (ks.map kV))):(tupleKind (oQ P w)).is h ks a:=by
 obtain⟨_,its,r,o,h1,h2,⟨n,h3⟩,_⟩:=(show ObjOk P w H h a (.tup (ks.map kV)) from ok a _ e);exact⟨o,its.toArray,n,h1,h2,h3,by simpa using nN r⟩
theorem aO {kvs:List (List Key×V)}(ok:HOk P w H h)(e:Rd H a (.dT kvs)):kvs.length<=sizeLine/\(a==sysModules)=false /\
  ∃xs,KT H kvs xs/\h.DictOfH (tupleKind (oQ P w)) a xs:=by
 obtain⟨z,y,xs,r,o,es,ep,h1,h2,h3,h4,h5⟩:=(show ObjOk P w H h a (.dT kvs) from rd_of ok e);refine⟨z,y,xs,r,o,es,ep,h1,h2,h3,h4,fun x hx=>?_,h5⟩
 have all:∀{l:List (List Key×V)} {m:List (List Key×Addr×Value)},KT H l m->∀x∈m,(tupleKind (oQ P w)).is h x.1 x.2.1:=by
  intro l m q
  induction q with
  |nil=>intro x hx; exact nomatch hx
  |@cons p q ps qs hq t ih =>
   intro x hx
   rcases List.mem_cons.mp hx with e | hx
   .subst e
    exact jB ok (by rw[<- hq.1]; exact hq.2.1)
   .exact ih x hx
 exact all r x hx
theorem Ks {kvs:List (List Key×V)}(ok:HOk P w H h)(e:H a=some (.dT kvs)):kvs.length<=sizeLine/\(a==sysModules)=false /\
  ∃xs,KT H kvs xs/\h.DictOfH (tupleKind (oQ P w)) a xs:=aO ok (.inl e)
end
def DGet (H:Hp)(a:Addr)(y:V)(r:Option V):Prop :=
 (∃kvs k,Rd H a (.dK kvs)/\y=kV k/\r=oW kvs k)\/∃kvs k b,Rd H a (.dT kvs)/\y=.ref b/\H b=some (.tup (k.map kV))/\r=oW kvs k
def DPut (H:Hp)(a:Addr)(y v:V)(H':Hp):Prop :=
 (∃kvs k,H a=some (.dK kvs)/\y=kV k/\kvs.length < sizeLine/\H'=upd H a (.dK (bK kvs k v))) \/
 ∃kvs k b,H a=some (.dT kvs)/\y=.ref b/\H b=some (.tup (k.map kV))/\kvs.length < sizeLine/\H'=upd H a (.dT (bK kvs k v))
theorem DGet.t {H:Hp}{a b:Addr}{kvs:List (List Key×V)}{k:List Key}(e:H a=some (.dT kvs))(eb:H b=some (.tup (k.map kV))):DGet H a (.ref b) (oW kvs k):=.inr ⟨kvs,k,b,.inl e,rfl,eb,rfl⟩
theorem DPut.k {H:Hp}{a:Addr}{kvs:List (Key×V)}{k:Key}{v:V}(e:H a=some (.dK kvs))(hl:kvs.length < sizeLine):DPut H a (kV k) v (upd H a (.dK (bK kvs k v))):=.inl ⟨kvs,k,e,rfl,hl,rfl⟩
theorem DPut.t {H:Hp}{a b:Addr}{kvs:List (List Key×V)}{k:List Key}{v:V}(e:H a=some (.dT kvs))(eb:H b=some (.tup (k.map kV)))(hl:kvs.length < sizeLine):
  DPut H a (.ref b) v (upd H a (.dT (bK kvs k v))):=.inr ⟨kvs,k,b,e,rfl,eb,hl,rfl⟩
section
variable {X:Cx}{pins:List (Addr×Obj)}{σ:St}{H:Hp}{s:Shared}{a:Addr}{y v:V}{u r:Value}{o:Option V}{A:Around}{E:Value->Shared->Prop}
theorem Inv.big (I:Inv X pins σ H s):sysModules < s.heap.objs.size:=by
 have h:mainGlobals < s.heap.objs.size:=(I.mod.glob.keeps I.bk).lt;exact Nat.lt_trans (by decide) h
theorem X9 {Q:Value->Shared->Prop}(hu:A.units+1 < cLine)(I:Inv X pins σ H s)(g:DGet H a y (some v))(ry:RelV y u)(h:∀w' s',Inv X pins σ H s'->RelV v w'->Q w' s'):
  wpAny (model X.prog X.w) A (getItem (.ref a) u) Q E s:=by
 rcases g with ⟨kvs,k,e,ey,l⟩ | ⟨kvs,k,b,e,ey,eb,l⟩
 .subst ey
  obtain⟨z,hd,vs,rel,dd⟩:=iN I.hok e;obtain⟨w',hw,rw'⟩:=RelO.some_of (v:=v) (o:=valueAt vs k) (by rw[l]; exact rel.val k);exact wpAny_getItem_of (lN ry) dd.mapOf hw (h w' _ (I.tok _) rw')
 .subst ey
  cases (show u=Value.ref b from ry);obtain⟨z,hd,xs,rel,dd⟩:=aO I.hok e;obtain⟨w',hw,rw'⟩:=RelO.some_of (v:=v) (o:=(atKey xs k).map (·.2)) (by rw[l]; exact rel.val k);obtain⟨p,hp,hp2⟩:=Option.map_eq_some_iff.mp hw;refine wpAny_getItem_heap (tupleKind_room_in1 hu) (jB I.hok eb) dd hp ?_;rw[hp2];exact h w' _ (I.tok _) rw'
theorem nD {h':Heap}{t':Nat}{ob:HO}(I:Inv X pins σ H s)(mu:Mut (H a))(hs:Heap.SameBut a s.heap h')(he:∃q,h'.get? a=some q)(new:ObjOk X.prog X.w (upd H a ob) h' a ob):
  Inv X pins σ (upd H a ob) { s with heap:=h',toks:=t' } :=
 I.write (x:=a) (e:=a) mu (.inl rfl) (fun b q hb z=>(hs.2 b hb).trans z) he new
theorem pR {P:Program}{w:World}{H':Hp}{h':Heap}{kvs:List (Key×V)}{vs:List (Key×Value)}(z:kvs.length<=sizeLine)(hd:(a==sysModules)=false)(rel:KV kvs vs)(dd:h'.DictOf (oQ P w) a vs):
  ObjOk P w H' h' a (.dK kvs):=⟨z,hd,vs,rel,dd⟩
theorem X8 {H':Hp}{Q:Unit->Shared->Prop}(hu:A.units+1 < cLine)(I:Inv X pins σ H s)(g:DPut H a y v H')(ry:RelV y u)(rv:RelV v r)(h:∀s',Inv X pins σ H' s'->Q () s'):
  wpAny (model X.prog X.w) A (setItem (.ref a) u r) Q E s:=by
 rcases g with ⟨kvs,k,e,ey,l,eH⟩ | ⟨kvs,k,b,e,ey,eb,l,eH⟩
 .subst ey eH
  obtain⟨z,hd,vs,rel,dd⟩:=pP I.hok e;have hz:vs.length<=sizeLine:=by rw[<- rel.length]; exact z
  have hl:(bK kvs k v).length<=sizeLine:=by have:=wW kvs k v; omega
  refine wpAny_setItem_pairs (hsz:=hz) (lN ry) dd fun h' dd' hs=>h _ ?_;have he:∃q,h'.get? a=some q:=let ⟨q,_,_,hq,_⟩:=dd'; ⟨q,hq⟩
  exact nD I (by rw[e]; exact True.intro) hs he (pR hl hd (rel.put k rv) dd')
 .subst ey eH
  cases (show u=Value.ref b from ry);obtain⟨z,hd,xs,rel,dd⟩:=Ks I.hok e;have hz:xs.length<=sizeLine:=by rw[<- Paired.length rel]; exact z
  have hl:(bK kvs k v).length<=sizeLine:=by have:=wW kvs k v; omega
  refine wpAny_setItem_heap (hsz:=hz) (tupleKind_room_in1 hu) (jB I.hok eb) dd fun h' dd' hs=>h _ ?_;obtain⟨q,es,ep,hq,h2,h3,h4,_,h5⟩:=dd';refine nD I (by rw[e]; exact True.intro) hs ⟨q,hq⟩ ⟨hl,hd,_,(rel.put k eb rv).keeps fun c ys ec=>?_,q,es,ep,hq,h2,h3,h4,h5⟩;rw[cQ (JC ec e (fun z=>nomatch z))];exact ec
end
section
variable {X:Cx}{pins:List (Addr×Obj)}{σ:St}{H:Hp}{s:Shared}{a:Addr}{kvs:List (Key×V)}{k:Key}{u:Value}{A:Around}{E:Value->Shared->Prop}
theorem d_len {Q:Value->Shared->Prop}(I:Inv X pins σ H s)(e:Rd H a (.dK kvs))(h:∀t s',Inv X pins σ H s'->Q (.int kvs.length t) s'):wpAny (model X.prog X.w) A (call (.builtin "len") [.ref a]) Q E s:=by
 obtain⟨z,hd,vs,rel,dd⟩:=iN I.hok e;refine call_len_dict hd dd (by rw[<- rel.length]; rw[sizeLine_eq] at z; omega) ?_;rw[<- rel.length];exact h _ _ (I.tok _)
end
def Qm (i:Expr):Prop:=∀ov iv,subscripted i false ov iv=operate [ov,iv] (getItem ov iv)
theorem Qx {prog:Program}{w:World}{A:Around}{E:Value->Shared->Prop}{s:Shared}{env:Env}{value slice:Expr}{pos:Pos}{T id:String}{Q:Value->Shared->Prop}
  (hl:typeLookup (.type T) "__getitem__" = pure (some (.builtin id))) (hs:Qm slice)
  (h:wpAny (model prog w) A (eval value env) (fun o s₁=>wpAny (model prog w) A (eval slice env) (fun i s₂=>s₂.TypeIs o T/\wpAny (model prog w) A (getItem o i) Q E s₂) E s₁) E s) :
  wpAny (model prog w) A (eval (.Subscript value slice pos) env) Q E s:=by
 refine Subscript_ (wpAny_mono h (fun o s₁ h₁=>wpAny_mono h₁ (fun i s₂ h₂=>?_) fun _ _ x=>x) fun _ _ x=>x);obtain⟨hT,h₂⟩:=h₂;unfold subscriptTail;refine wpAny_bind ?_;rw[getitemInPython_of_ne hT.not_modules];refine wpAny_bind (wpAny_specialOf hT hl ?_)
 have fin:wpAny (model prog w) A (subscripted slice false o i) (fun r s₃=>wpAny (model prog w) A (letTemporaryGo value o r >>= fun _=>pure r) Q E s₃) E s₂:=by
  rw[hs o i];exact wpAny_operating (wpAny_mono h₂ (fun r s₃ h₃=>wpAny_bind (wpAny_letTemporaryGo (wpAny_pure h₃))) fun _ _ x=>x)
 first
  |exact wpAny_pure (wpAny_bind fin)
  |exact wpAny_bind (wpAny_pure (wpAny_bind fin))
  |exact wpAny_bind fin
theorem zE {X:Cx}{pins:List (Addr×Obj)}{σ:St}{H:Hp}{s:Shared}{a:Addr}{y:V}{o:Option V}(I:Inv X pins σ H s)(g:DGet H a y o):s.TypeIs (.ref a) "dict":=by
 rcases g with ⟨kvs,k,e,_,_⟩ | ⟨kvs,k,b,e,_,_,_⟩
 .obtain ⟨_,_,vs,_,dd⟩:=iN I.hok e
  exact dd.typeIs
 .obtain ⟨_,_,xs,_,dd⟩:=aO I.hok e
  exact dd.typeIs
def tDGet (td ty:TE):TE:=fun σ H Q=>td σ H fun x H1=>ty σ H1 fun y H2=>∃a v,x=.ref a/\DGet H2 a y (some v)/\Q v H2
def sDPut (td ty tv:TE):TS:=fun D σ H=>tv σ H fun v H1=>td σ H1 fun x H2=>ty σ H2 fun y H3=>∃a H4,x=.ref a/\DPut H3 a y v H4/\D.nx σ H4
section
variable {X:Cx}{o i e value:Expr}{pos pos' tpos:Pos}{td ty tv:TE}
theorem pe_dget (hu:X.A.units+1 < cLine)(ho:PE X o td)(hi:PE X i ty)(hs:Qm i):PE X (.Subscript o i pos) (tDGet td ty):=by
 intro pins s σ H Q I h;refine Qx PySem.F.slot_dict_getitem.lookup hs (thn (ho pins s σ H _ I h) fun u s1 ⟨x,H1,I1,rx,q1⟩=>thn (hi pins s1 σ H1 _ I1 q1) fun iv s2 ⟨y,H2,I2,ry,a,v,ex,g,q2⟩=>?_);subst ex;obtain rfl:u=Value.ref a:=rx;exact⟨zE I2 g,X9 hu I2 g ry fun w' s3 I3 rw'=>⟨v,H2,I3,rw',q2⟩⟩
theorem ps_dput (hu:X.A.units+1 < cLine)(ho:PE X o td)(hi:PE X i ty)(hv:PE X value tv)(hs:swapsWith value (some (.Subscript o i pos')) pos.line X.env=pure false):
  PS X (.Assign [.Subscript o i pos'] value pos) (sDPut td ty tv):=by
 intro pins s σ H D I h;refine wpAny_Assign_Subscript (thn (hv pins s σ H _ I h) fun r s1 ⟨v,H1,I1,rv,q1⟩=>thn (ho pins s1 σ H1 _ I1 q1) fun u s2 ⟨x,H2,I2,rx,q2⟩=>thn (hi pins s2 σ H2 _ I2 q2) fun iv s3 ⟨y,H3,I3,ry,a,H4,ex,g,q3⟩=>?_) hs;subst ex;obtain rfl:u=Value.ref a:=rx;exact X8 hu I3 g ry rv fun s4 I4=>⟨σ,H4,I4,q3⟩
end
theorem qE {P:Program}{w:World}{H:Hp}(h:Heap)(hb:sysModules < h.objs.size):ObjOk P w H (h.push { cls:=.type "dict",data:=.dict #[] }) h.objs.size (.dK []) :=
 ⟨Nat.zero_le _,beq_eq_false_iff_ne.mpr (Ne.symm (Nat.ne_of_lt hb)),[],.nil,Heap.DictOf.new h⟩
theorem iO {P:Program}{w:World}{H:Hp}(h:Heap)(hb:sysModules < h.objs.size):ObjOk P w H (h.push { cls:=.type "dict",data:=.dict #[] }) h.objs.size (.dT []) :=
 ⟨Nat.zero_le _,beq_eq_false_iff_ne.mpr (Ne.symm (Nat.ne_of_lt hb)),[],.nil,_,#[],0,Heap.get?_push_size _ rfl,⟨rfl,rfl,rfl⟩,rfl,rfl,List.nodup_nil⟩
def ZE:TE:=fun _ H Q=>∀p,H p=none->Q (.ref p) (upd H p (.dK []))
def ZD:TE:=fun _ H Q=>∀p,H p=none->Q (.ref p) (upd H p (.dT []))
section
variable {X:Cx}{pos:Pos}
theorem Jd:PE X (.Dict [] [] pos) ZE:=fun pins s σ H Q I h =>
 wpAny_Dict_empty ⟨.ref s.heap.objs.size,_,I.laid (a:=s.heap.objs.size) (o:=.dK []) (t':=s.toks) (fun _ _ q=>Heap.get?_push_of_some _ q) (Nat.le_refl _) (qE s.heap I.big),rfl,h _ (I.hok.fresh (Nat.le_refl _))⟩
theorem Jc:PE X (.Dict [] [] pos) ZD:=fun pins s σ H Q I h =>
 wpAny_Dict_empty ⟨.ref s.heap.objs.size,_,I.laid (a:=s.heap.objs.size) (o:=.dT []) (t':=s.toks) (fun _ _ q=>Heap.get?_push_of_some _ q) (Nat.le_refl _) (iO s.heap I.big),rfl,h _ (I.hok.fresh (Nat.le_refl _))⟩
end
def lC:List (TE×TE)->St->Hp->(List (V×V)->Hp->Prop)->Prop
 |[],_,H,Q=>Q [] H
 | (tk,tv)::r,σ,H,Q=>tk σ H fun x H1=>tv σ H1 fun y H2=>lC r σ H2 fun ps H3=>Q ((x,y)::ps) H3
abbrev VV:List (V×V)->List (Value×Value)->Prop:=Paired fun p q=>RelV p.1 q.1/\RelV p.2 q.2
def PPs (X:Cx)(pos:Pos)(keys:List (Option Expr))(values:List Expr)(trs:List (TE×TE)):Prop :=
 ∀(pins:List (Addr×Obj)) (s:Shared) (σ:St) (H:Hp) (Q:List (V×V)->Hp->Prop),Inv X pins σ H s->lC trs σ H Q ->
  wpAny (model X.prog X.w) X.A (evalPairs (pairTrees keys values X.env pos)) (fun vs s'=>∃ps H',Inv X pins σ H' s'/\VV ps vs/\Q ps H') X.xe s
theorem pps_nil {X:Cx}{pos:Pos}:PPs X pos [] [] []:=fun pins s σ H Q I h=>pairTrees_nil_walk ⟨[],H,I,.nil,h⟩
theorem Z3 {X:Cx}{pos:Pos}{k v:Expr}{ks:List (Option Expr)}{vs:List Expr}{tk tv:TE}{trs:List (TE×TE)}(hk:PE X k tk)(hv:PE X v tv)(hr:PPs X pos ks vs trs):
  PPs X pos (some k::ks) (v::vs) ((tk,tv)::trs):=fun pins s σ H Q I h =>
 pairTrees_cons_walk (thn (hk pins s σ H _ I h) fun u s1 ⟨x,H1,I1,rx,q1⟩=>thn (hv pins s1 σ H1 _ I1 q1) fun w2 s2 ⟨y,H2,I2,ry,q2⟩ =>
  thn (hr pins s2 σ H2 _ I2 q2) fun ws s3 ⟨ps,H3,I3,rel,q3⟩=>⟨(x,y)::ps,H3,I3,.cons ⟨rx,ry⟩ rel,q3⟩)
def iJ (kvs more:List (Key×V)):List (Key×V):=more.foldl (fun acc kv=>bK acc kv.1 kv.2) kvs
theorem KV.merge:∀{more:List (Key×V)}{rs:List (Key×Value)}{kvs:List (Key×V)}{vs:List (Key×Value)},KV more rs->KV kvs vs->KV (iJ kvs more) (merged vs rs):=by
 intro more rs kvs vs r;unfold KV at r
 induction r generalizing kvs vs with
 |nil=>intro q; exact q
 |@cons p q ps qs h t ih =>
  intro r0
  have e:KV (bK kvs p.1 p.2) (stored vs q.1 q.2):=by
   have:=r0.put p.1 h.2;rw[<- h.1]; exact this
  exact ih e
theorem sK:∀(more kvs:List (Key×V)),(iJ kvs more).length<=kvs.length+more.length
 |[],kvs=>by show kvs.length<=kvs.length+0; omega
 |p::r,kvs=>by
  have h1:=sK r (bK kvs p.1 p.2);have h2:=wW kvs p.1 p.2;show(iJ (bK kvs p.1 p.2) r).length<=_;rw[List.length_cons]; omega
theorem iP {P:Program}{w:World}:∀{kvs:List (Key×V)}{ws:List (Value×Value)},VV (kvs.map fun kv=>(kV kv.1,kv.2)) ws->∃rs,Carries (oQ P w) ws rs/\KV kvs rs
 |[],_,r=>by rw[List.map_nil] at r; cases r; exact⟨[],True.intro,.nil⟩
 |p::kvs,_,r=>by
  rw[List.map_cons] at r
  cases r with
  |@cons a b as bs h t =>
   obtain⟨rs,c,q⟩:=iP (P:=P) (w:=w) t;obtain⟨b1,b2⟩:=b;exact⟨(p.1,b2)::rs,⟨lN h.1,rfl,c⟩,.cons ⟨rfl,h.2⟩ q⟩
def tDisp (trs:List (TE×TE)):TE:=fun σ H Q=>∀p,H p=none->lC trs σ (upd H p (.dK [])) fun ps H2=>H2 p=some (.dK [])/\∃kvs:List (Key×V),ps=kvs.map (fun kv=>(kV kv.1,kv.2))/\kvs.length<=15/\Q (.ref p) (upd H2 p (.dK (iJ [] kvs)))
theorem pe_disp {X:Cx}{pos:Pos}{keys:List (Option Expr)}{values:List Expr}{trs:List (TE×TE)}(h:PPs X pos keys values trs)(hall:keys.all (·.isSome)=true)(hl:keys.length=values.length)(h0:keys≠[])
  (h15:keys.length<=15):PE X (.Dict keys values pos) (tDisp trs):=by
 intro pins s σ H Q I q;have hn:=I.hok.fresh (Nat.le_refl s.heap.objs.size);have I1:=I.laid (a:=s.heap.objs.size) (o:=.dK []) (h':=s.heap.push { cls:=.type "dict",data:=.dict #[] }) (t':=s.toks) (fun _ _ q=>Heap.get?_push_of_some _ q) (Nat.le_refl _) (qE s.heap I.big);refine wpAny_Dict_walk (knd:=oQ X.prog X.w) hall hl h0 h15 (thn (h pins _ σ _ _ I1 (q _ hn)) fun ws s2 ⟨ps,H2,I2,rel,e,kvs,ep,lk,q2⟩=>?_)
 subst ep;obtain⟨rs,c,rk⟩:=iP (P:=X.prog) (w:=X.w) rel;obtain⟨z,hd,vs0,r0,dd⟩:=pP I2.hok e;cases r0;refine⟨rs,c,dd,fun h' dd' hs=>⟨.ref s.heap.objs.size,_,?_,rfl,q2⟩⟩
 have hz:(iJ [] kvs).length<=sizeLine:=by
  have h1:=sK kvs [];rw[List.length_nil] at h1;rw[sizeLine_eq]; omega
 have he:∃q,h'.get? s.heap.objs.size=some q:=let ⟨q,_,_,hq,_⟩:=dd'; ⟨q,hq⟩
 exact nD I2 (by rw[e]; exact True.intro) hs he (pR hz hd (rk.merge .nil) dd')
structure M2 (X:Cx)(o:Expr)(m:Str)(apos:Pos)(e f:Expr)(cpos:Pos):Prop where
 base:attributeBase o m X.env (eval o X.env)=eval o X.env
 few:((backTo cpos (starEach [e,f] X.env)).all (fun x=>!x.1)&&(backToKw cpos (keywordEach [] X.env)).all (fun x=>x.1.isSome)
  && decide (([e,f]:List Expr).length+([]:List Keyword).length+(if ([]:List Keyword).isEmpty then 0 else 1) < 30))=true
 line:(apos.endLine==cpos.line)=true
 trees:backTo cpos (starEach [e,f] X.env)=[(false,eval e X.env),(false,eval f X.env)]
def IsD (H:Hp)(a:Addr):Prop:=(∃kvs,Rd H a (.dK kvs))\/∃kvs,Rd H a (.dT kvs)
theorem isD_at {X:Cx}{pins:List (Addr×Obj)}{σ:St}{H:Hp}{s:Shared}{a:Addr}(I:Inv X pins σ H s)(d:IsD H a):
  s.TypeIs (.ref a) "dict"/\(∀b,Value.ref a=.ref b->∃ob,s.heap.get? b=some ob/\ob.dict=none)/\(a==sysModules)=false:=by
 rcases d with ⟨kvs,e⟩ | ⟨kvs,e⟩
 .obtain ⟨_,hd,vs,_,dd⟩:=iN I.hok e
  refine⟨dd.typeIs,fun b q=>?_,hd⟩;cases q;obtain⟨ob,_,_,h1,h2,_⟩:=dd;exact⟨ob,h1,h2.2.1⟩
 .obtain ⟨_,hd,xs,_,dd⟩:=aO I.hok e
  refine⟨dd.typeIs,fun b q=>?_,hd⟩;cases q;obtain⟨ob,_,_,h1,h2,_⟩:=dd;exact⟨ob,h1,h2.2.1⟩
section
variable {X:Cx}{pins:List (Addr×Obj)}{σ:St}{H:Hp}{s:Shared}{a:Addr}{y d:V}{u r:Value}{o:Option V}{A:Around}{E:Value->Shared->Prop}
theorem d_get2 {Q:Value->Shared->Prop}(hu:A.units+1 < cLine)(I:Inv X pins σ H s)(g:DGet H a y o)(ry:RelV y u)(rd:RelV d r)(h:∀w' s',Inv X pins σ H s'->RelV (o.getD d) w'->Q w' s'):
  wpAny (model X.prog X.w) A (call (.builtin "dict.get") [.ref a,u,r]) Q E s:=by
 rcases g with ⟨kvs,k,e,ey,l⟩ | ⟨kvs,k,b,e,ey,eb,l⟩
 .subst ey
  obtain⟨z,hd,vs,rel,dd⟩:=iN I.hok e;refine call_meetsIn PySem.F.slot_dict_get dd.typeIs PySem.F.entry_dict_get (PySem.F.args_dict_get_3 _ _ _) (meets_dict_get_default (oQ X.prog X.w) a (lN ry) hd r) ⟨_,dd.mapOf,h _ _ (I.tok _) ?_⟩;rw[l];exact(rel.val k).getD rd
 .subst ey
  cases (show u=Value.ref b from ry);obtain⟨z,hd,xs,rel,dd⟩:=aO I.hok e;refine call_meetsIn PySem.F.slot_dict_get dd.typeIs PySem.F.entry_dict_get (PySem.F.args_dict_get_3 _ _ _) (meetsH_dict_get_default (tupleKind (oQ X.prog X.w)) a b hd r) ⟨tupleKind_room_in1 hu,k,xs,jB I.hok eb,dd,h _ _ (I.tok _) ?_⟩;rw[l];exact(rel.val k).getD rd
end
def ZF (td ty tx:TE):TE:=fun σ H Q=>td σ H fun x H1=>∃a,x=.ref a/\IsD H1 a/\ty σ H1 fun y H2=>tx σ H2 fun z H3=>∃o,DGet H3 a y o/\Q (o.getD z) H3
section
variable {X:Cx}{o e f:Expr}{apos cpos:Pos}{td ty tx:TE}
theorem Je (hu:X.A.units+1 < cLine)(ho:PE X o td)(he:PE X e ty)(hf:PE X f tx)(m:M2 X o "get" apos e f cpos):PE X (.Call (.Attribute o "get" apos) [e,f] [] cpos) (ZF td ty tx):=by
 intro pins s σ H Q I h;refine wpAny_Call_method m.base m.few m.line PySem.F.plainAttrs_dict PySem.F.slot_dict_get PySem.F.type_dict_get (thn (ho pins s σ H _ I h) fun u s1 ⟨x,H1,I1,rx,a,ex,d,q1⟩=>?_);subst ex;obtain rfl:u=Value.ref a:=rx;obtain⟨t1,t2,_⟩:=isD_at I1 d;refine⟨t1,t2,?_⟩;rw[m.trees]
 refine Calls.callWith_builtin rfl (Calls.evalArgs_plain (Calls.spliced_cons (thn (he pins s1 σ H1 _ I1 q1) fun iv s2 ⟨y,H2,I2,ry,q2⟩ =>
  Calls.spliced_cons (thn (hf pins s2 σ H2 _ I2 q2) fun fv s3 ⟨z,H3,I3,rz,ov,g,q3⟩=>Calls.spliced_nil ?_))))
 exact d_get2 hu I3 g ry rz fun w' s4 I4 rw'=>⟨_,H3,I4,rw',q3⟩
end
end L2
namespace Att
open PySem PySem.W PySem.Calls PyProof.Rows
theorem uD {P:Params}{h:Heap}:∀(ns:List Int) (vs:List Value),WellAll P h vs (ns.map WData.int)->IntsAre vs ns:=by
 intro ns
 induction ns with
 |nil =>
  intro vs w;rw[List.map_nil] at w;cases w;exact .nil
 |cons n ns ih =>
  intro vs w;rw[List.map_cons] at w
  cases w with
  |cons a b =>
   cases a;exact .cons _ _ (ih _ b)
theorem Xw {l:OpenLaw}{n:Nat}(hn:l.most=some n){P:Params}{h:Heap}{args:List WData}{vals:List Value}
  (hpre:l.row.toRowW.claim.pre args=true) (hwl:WellAll P h vals args) :
  ∃a vs ns,vals=[Value.ref a]/\args=[WData.list (ns.map WData.int)]/\h.get? a=some { cls:=.type "list",data:=.seq vs.toArray }/\IntsAre vs ns/\ns.length<=n:=by
 have hsh:WShape.hasAll [] args [.list .int]=true:=(pre_splitW hpre).1;have hc:l.pre.holds [] { args:=args }=true:=(pre_splitW hpre).2;obtain⟨d,r,rfl,h1,h2⟩:=hasAllW_cons hsh;obtain rfl:=hasAllW_nil h2;obtain⟨xs,rfl,h3⟩:=hasW_list h1;obtain⟨ns,rfl⟩:=items_int h3
 have hlen:ns.length<=n:=by
  unfold OpenLaw.pre at hc
  have h4:(WTm.not (.lt (.lit (.int (n:Int))) (.len (.arg 0)))).holds [] { args:=[.list (ns.map .int)] }=true:=by
   have h4:=(holds_andW hc).1;rw[hn] at h4;exact h4
  have h5:=condW_of h4 (w_not (w_lt w_lit (w_len_list (w_arg rfl))));rw[List.length_map] at h5;refine Nat.le_of_not_lt fun q=>?_;have q':(n:Int) < ((ns.length:Nat):Int):=by omega
  first
   | (rw[decide_eq_true q'] at h5; exact absurd h5 (by decide))
   | (simp at h5; omega)
 cases hwl with
 |cons w1 w2 =>
  cases w2
  cases w1 with
  |list ho hall=>exact⟨_,_,ns,rfl,rfl,ho,uD ns _ hall,hlen⟩
theorem XA (l:OpenLaw)(args:List WData):l.row.toRowW.claim.post args (.bool true) args=true :=
 postW_of (r:=l.row.toRowW) (X:=(true==true))
  (show WShape.has [] (.bool true) .bool=true by first | rfl | decide | simp[WShape.has,WShape.arms,WShape.armsAll])
  (show(WTm.eq .res (.lit (.bool true))).value [] { args:=args,res:=some (.bool true),after:=args }=some (.bool (true==true)) from w_eq_bool (w_res rfl) w_lit) rfl
theorem attach_call {l:OpenLaw}{n:Nat}{q:Program}{loose:List Str}{XP:(Str->Option Value)->Heap->Prop}{YP:World->Heap->Prop}{d:DefRec}
  (hn:l.most=some n) (hdf:d.params.defaults=[])
  (call:∀(w:World) (s₀ s₁:Shared) (mg mb:Str->Option Value) (fa:Addr) (o:Obj) (pm cd doc:Value) (a:Addr) (vs:List Value) (ns:List Int),
   Ground q loose [] XP w s₀ mg mb s₁.heap->YP w s₁.heap ->
   s₁.heap.get? fa=some o->o.data=.func (docDef d.name d.params d.body d.scope pm cd doc)->s₁.heap.CodeRec cd d.name->mg d.name=some (.ref fa) ->
   s₁.heap.get? a=some { cls:=.type "list",data:=.seq vs.toArray }->IntsAre vs ns->ns.length<=n->s₁.gens = #[] ->
   codeAny (model l.prog w) callerA (.call (.ref fa) ⟨[.ref a],[]⟩) (fun r s'=>r=.ok (.ret (.bool true))/\OldK s₁.heap s'.heap/\s'.os=s₁.os/\AllBare s'.gens) s₁) :
  WalkO q loose XP YP l.row.toRowW d [] (fun f vs=>PySem.call f vs):=by
 intro w s₀ s₁ mg mb G Y fa o pm cd doc dV kV ho hd hcd hD hmg hg args vals as hpre hlay hrd hwl hlo;obtain rfl:dV=.none:=Dflts.none hD hdf;obtain rfl:kV=.none:=Dflts.noKw hD;obtain⟨a,vs,ns,rfl,rfl,hobj,hints,hlen⟩:=Xw hn hpre hwl;refine enter_call (codeAny_mono (call w s₀ s₁ mg mb fa o pm cd doc a vs ns G Y ho (fd_plain hd) hcd hmg hobj hints hlen hg) fun r s' hq=>?_);obtain⟨rfl,h2,h3,h4⟩:=hq
 exact⟨.inl ⟨.bool true,.bool true,[],rfl,fun _=>rfl,.bool true,XA l _,fun _=>⟨List.Pairwise.nil,fun _ hm=>(nomatch hm)⟩⟩,h2,h3,h4⟩
end Att
namespace L2
open PySem PySem.Spec PyProof.Rows
theorem jN:∀{vs:List Value}{ns:List Int},IntsAre vs ns->Vals (ns.map V.int) vs
 |_,_,.nil=>.nil
 |_,_,.cons n t h=>.cons ⟨t,rfl⟩ (jN h)
def Only (H:Hp):Prop:=∀b,H b=none\/∃o xs,H b=some (.frz o (.lst xs))
theorem JQ {P:Program}{w:World}{K:PySem.W.Frag}{mg mb:Str->Option Value}{CX:CXT}{k:Nat}{fa a:Addr}{fd:FuncData}{x:Str}{sp:Sp}{s₁:Shared}{vs:List Value}{ns:List Int}
  (KX:K.In s₁.heap) (hns:s₁.heap.Ns mainGlobals mg) (hb:s₁.heap.Ns builtinsNs mb) (hbb:∀x:Str,x ≠ "__name__"->mb x=bootBuiltins x) (hlim:s₁.heap.NoLimit) (hg:s₁.gens = #[])
  (ha:s₁.heap.get? a=some { cls:=.type "list",data:=.seq vs.toArray }) (hi:IntsAre vs ns) (hl:ns.length<=sizeLine) (hr:Room k callerA)
  (F:∀base:Heap,K.In base->base.Ns mainGlobals mg->FnOk P w K mg base CX k fa fd [x] sp) (hbind:∀(s:Shared) (u:Value),BindsTo s fd ⟨[u],[]⟩ [(x,u)])
  (hsp:∀H:Hp,Only H->SqL K H a (ns.map V.int)->sp [.ref a] H (fun v _=>v=.bl true) fun _ _ _=>False)
  (hCX:∀H e s',CX [] H s₁ (fun _ _ _=>False) e s'->False) :
  codeAny (model P w) callerA (.call (.ref fa) ⟨[.ref a],[]⟩) (fun r s'=>r=.ok (.ret (.bool true))/\OldK s₁.heap s'.heap/\s'.os=s₁.os/\AllBare s'.gens) s₁:=by
 have rv:=jN hi;have lenV:=hi.length
 have core:∀H:Hp,Only H->SqL K H a (ns.map V.int)->HOk P w H s₁.heap->(∀b,H b≠none->b=a)->(H a≠none->K.lookup a=none) ->
   codeAny (model P w) callerA (.call (.ref fa) ⟨[.ref a],[]⟩) (fun r s'=>r=.ok (.ret (.bool true))/\OldK s₁.heap s'.heap/\s'.os=s₁.os/\AllBare s'.gens) s₁:=by
  intro H hO hS hok hA hK;have base_of:∀{b:Addr} {o:Obj},s₁.heap.get? b=some o->H b=none->(uR s₁.heap H).get? b=some o:=fun e n=>Kg e n
  have noA:∀{b:Addr} {o:Obj} {es:Array DictEntry} {ep:Nat},s₁.heap.get? b=some o->o.data=.dict es ep->H b=none:=fun {b o es ep} e d=>by
   cases q:H b with
   |none=>rfl
   |some u =>
    have e':b=a:=hA b (by rw[q]; simp);subst e';rw[ha] at e; cases e
    have d':Data.seq vs.toArray _=Data.dict es ep:=d;cases d'
  have nsK:∀{b:Addr} {m:Str->Option Value},s₁.heap.Ns b m->(uR s₁.heap H).Ns b m:=fun {b m} ⟨o,es,ep,e,d,r⟩=>⟨o,es,ep,base_of e (noA e d),d,r⟩
  have hKb:K.In (uR s₁.heap H):=fun b o e=>base_of (KX b o e) (by
   cases q:H b with
   |none=>rfl
   |some u =>
    have e':b=a:=hA b (by rw[q]; simp);subst e'
    rw[hK (by rw[q]; simp)] at e; cases e)
  have hM:Mod K mg (uR s₁.heap H):=⟨hKb,nsK hns,⟨mb,nsK hb,hbb⟩,let ⟨mc,h1,h2⟩:=hlim; ⟨mc,nsK h1,h2⟩⟩;have e0:Env0 P w K mg (uR s₁.heap H) callerA [] s₁ H:=⟨rfl,hM,fun b o e=>of_hidT e,Nat.le_of_eq (X3 _ _),trivial,fun b hb=>absurd (show b∈([]:List Addr) from hb) (by simp),hok,.of_eq hg⟩;refine codeAny_mono ((F _ hKb (nsK hns)).run callerA [] s₁ H ⟨[.ref a],[]⟩ [.ref a] [.ref a] _ _ hr e0 (hbind s₁ (.ref a)) (.cons rfl .nil) (hsp H hO hS)) fun r s' h=>?_
  cases r with
  |error e=>exact(hCX H e s' h).elim
  |ok fl =>
   cases fl with
   |next=>exact False.elim h
   |brk=>exact False.elim h
   |cont=>exact False.elim h
   |ret u =>
    obtain⟨v,H',os,bare,un,hok',r',q⟩:=h;have q':v=.bl true:=q;subst q';obtain rfl:u=Value.bool true:=r';refine⟨rfl,OldK.of_keep fun b o e=>?_,os,bare⟩
    cases q:H b with
    |none=>exact un.keep b o e q (by intro z; exact absurd (show b∈([]:List Addr) from z) (by simp)) (by simp)
    |some u =>
     rcases hO b with z | ⟨ob,xs,z⟩
     .rw [q] at z; cases z
     .have z2:=un.frzs b ob _ z
      obtain⟨e1,_⟩:=hok b _ z;obtain⟨e2,_⟩:=hok' b _ z2;rw[e] at e1; cases e1
      exact e2
 cases hk:K.lookup a with
 |some o =>
  have e:=KX a o hk;rw[ha] at e;cases e;refine core (fun _=>none) (fun _=>.inl rfl) (.inr ⟨_,vs.toArray,_,hk,rfl,rfl,rfl,by rw[List.size_toArray,lenV]; exact hl,by simpa using rv⟩) (fun b u z=>by have z':(none:Option HO)=some u:=z; cases z') (fun b z=>absurd rfl z) fun z=>absurd rfl z
 |none =>
  refine core (fun b=>if b=a then some (.frz { cls:=.type "list",data:=.seq vs.toArray } (.lst (ns.map V.int))) else none) (fun b=>?_) (.inl (.inr ⟨{ cls:=.type "list",data:=.seq vs.toArray },if_pos rfl⟩)) (fun b u z=>?_) (fun b z=>?_) fun _=>hk
  .by_cases hb:b=a
   .exact .inr ⟨_,_,if_pos hb⟩
   .exact .inl (if_neg hb)
  .by_cases hb:b=a
   .have z':=(if_pos hb).symm.trans z
    cases z';subst hb;exact⟨ha,by rw[List.length_map]; exact hl,vs,_,rv,ha⟩
   .have z':=(if_neg hb).symm.trans z
    cases z'
  .by_cases hb:b=a
   .exact hb
   .exact absurd (if_neg hb) z
theorem walk_of {l:PySem.W.OpenLaw}{n k:Nat}{q:Program}{loose:List Str}{XP:(Str->Option Value)->Heap->Prop}{YP:World->Heap->Prop}{d:DefRec}{K:Params->PySem.W.Frag}{CX:World->CXT}{sp:World->Sp}{x:Str}
  (hn:l.most=some n) (hn2:n<=sizeLine) (hdf:d.params.defaults=[]) (hr:Room k callerA)
  (hY:∀(w:World) (h:Heap),YP w h->(K w.params).In h)
  (F:∀(w:World) (mg:Str->Option Value) (fa:Addr) (h:Heap),(K w.params).In h->h.Ns mainGlobals mg->mg d.name=some (.ref fa) ->
   ∃fd:FuncData,(∀(s:Shared) (u:Value),BindsTo s fd ⟨[u],[]⟩ [(x,u)]) /\
    ∀base:Heap,(K w.params).In base->base.Ns mainGlobals mg->FnOk l.prog w (K w.params) mg base (CX w) k fa fd [x] (sp w))
  (hsp:∀(w:World) (H:Hp) (a:Addr) (ns:List Int),ns.length<=n->Only H->SqL (K w.params) H a (ns.map V.int)->sp w [.ref a] H (fun v _=>v=.bl true) fun _ _ _=>False)
  (hCX:∀(w:World) (H:Hp) (s:Shared) (e:Value) (s':Shared),CX w [] H s (fun _ _ _=>False) e s'->False) :
  PySem.W.WalkO q loose XP YP l.row.toRowW d [] (fun f vs=>PySem.call f vs):=by
 refine Att.attach_call hn hdf fun w s₀ s₁ mg mb fa o pm cd doc a vs ns G Y ho hd hcd hmg hobj hints hlen hg=>?_;have KX:=hY w _ Y;obtain⟨fd,hb,hF⟩:=F w mg fa _ KX G.T.g hmg;exact JQ KX G.T.g G.T.b G.T.builtins G.T.nolimit hg hobj hints (Nat.le_trans hlen hn2) hr hF hb (fun H hO hS=>hsp w H a ns hlen hO hS) fun H e s'=>hCX w H s₁ e s'
def mJ (s:Stmt)(j:Nat):Stmt:=match s with
 |.ClassDef _ _ _ body _ _ _ _ _ _ _=>body.getD j (.Pass ⟨0,0,0,0⟩)
 |_=>.Pass ⟨0,0,0,0⟩
def uW (s:Stmt):Arguments:=match s with
 |.FunctionDef _ a _ _ _ _ _ _ _ _=>a
 |_=>{ posonlyargs:=[],args:=[],vararg:=none,kwonlyargs:=[],kw_defaults:=[],kwarg:=none,defaults:=[] }
def kK (s:Stmt):List Stmt:=match s with
 |.FunctionDef _ _ b _ _ _ _ _ _ _=>b
 |_=>[]
def kX (s:Stmt):Scope:=match s with
 |.FunctionDef _ _ _ _ _ _ sc _ _ _=>sc
 |_=>{ kind:=.function,names:=[],isGenerator:=false,isCoroutine:=false }
abbrev CX0:CXT:=fun _ _ _ _ _ _=>False
abbrev E0:XK:=fun _ _ _=>False
theorem pT {X:Cx}:lK CX0 X E0:=fun _ _ _ _ _ _ _ h=>h.elim
structure Fun (K:PySem.W.Frag)(x qual:Str)(st:Stmt)(f:Addr)(fd:FuncData):Prop where
 ex:∃(oc:Value) (od:Option Addr) (kV doc pm:Value) (an:Option Addr) (cdv ct:Value) (osl:Array (Option Value)),
  fd=PySem.W.fnOf x qual (uW st) (kK st) (kX st) .none kV doc pm an cdv ct/\K.lookup f=some ⟨oc,od,.func fd,osl⟩/\PySem.W.codeIn K cdv qual=true
 kp:PySem.W.keepIn K (.ref f)=true
section
variable {P:Program}{w:World}{K:PySem.W.Frag}{mg:Str->Option Value}{base:Heap}
theorem Fun.ok {x qual:Str}{st:Stmt}{f:Addr}{fd:FuncData}{N ps:List Str}{k:Nat}{sp:Sp}(F:Fun K x qual st f fd)(S:FnScope N ps (kX st))(len:∀vs H Q E,sp vs H Q E->vs.length=ps.length)
  (hbody:∀(cdv:Value) (A:Around) (outer:List Env) (s:Shared) (H:Hp) (vs:List V) (Q:VK) (E:XK),Room k (A.deeper (envOfC qual (kX st) s.heap.objs.size f cdv))->sp vs H Q E ->
   ∃t,PSs (dR CX0 P w K mg base N qual (kX st) f cdv A outer s H E).nox (kK st) t/\t { nx:=fun _ H'=>Q .non H',rt:=Q } (start N vs) H):FnOk P w K mg base CX0 (k+1) f fd ps sp:=by
 obtain⟨oc,od,kV,doc,pm,an,cdv,ct,osl,rfl,lk,hcd⟩:=F.ex;refine fn_of lk hcd S len fun A outer s H vs Q E hr hsp=>?_;obtain⟨t,h,q⟩:=hbody cdv A outer s H vs Q E hr hsp;exact⟨t,h.nox,q⟩
theorem Fun.binds {x qual:Str}{st:Stmt}{f:Addr}{fd:FuncData}{ps:List Str}(F:Fun K x qual st f fd)
  (h:∀(kV doc pm:Value) (an:Option Addr) (cdv ct:Value) (us:List Value),us.length=ps.length->bindArgs (PySem.W.fnOf x qual (uW st) (kK st) (kX st) .none kV doc pm an cdv ct) ⟨us,[]⟩=pure (ps.zip us)):Binds K fd ps []:=by
 obtain⟨oc,od,kV,doc,pm,an,cdv,ct,osl,rfl,lk,hcd⟩:=F.ex;exact .all (h kV doc pm an cdv ct)
theorem mR {x qual:Str}{st:Stmt}{f:Addr}{oc:Value}{od an:Option Addr}{osl:Array (Option Value)}{kV doc pm cdv ct:Value}(l:K.lookup f=some ⟨oc,od,.func (PySem.W.fnOf x qual (uW st) (kK st) (kX st) .none kV doc pm an cdv ct),osl⟩)
  (c:PySem.W.codeIn K cdv qual=true) (k:PySem.W.keepIn K (.ref f)=true):Fun K x qual st f (PySem.W.fnOf x qual (uW st) (kK st) (kX st) .none kV doc pm an cdv ct):=⟨⟨oc,od,kV,doc,pm,an,cdv,ct,osl,rfl,l,c⟩,k⟩
end
theorem oX {A:Around}{k:Nat}(hr:Room k A):A.units+1 < cLine:=Nat.lt_of_le_of_lt (Nat.add_le_add_left (by decide:1<=64) _) hr.units
section
variable {X:Cx}
theorem pv (i:Nat){x:Str}{pos:Pos}(hN:X.N[i]?=some x:=by rfl)(hv:Vis X.env.scope x:=by first | exact Or.inl rfl | exact Or.inr (Or.inl rfl) | exact Or.inr (Or.inr rfl))(hd:(x==("__debug__" : Str))=false:=by decide)
  (hcd:(x==("__classdict__" : Str))=false:=by decide):PE X (.Name x pos) (tVar i):=Z8 hN hv hd hcd
end
def Same (H H':Hp):Prop:=∀b o,H b=some o->H' b=some o
theorem Same.refl (H:Hp):Same H H:=fun _ _ h=>h
section
variable {X:Cx}
theorem Zi:CallR X (.builtin "len") (fun xs H Q=>∃a kvs,xs=[V.ref a]/\H a=some (.dK kvs)/\Q (.int kvs.length) H):=by
 intro pins s σ H xs us Q I r h;obtain⟨a,kvs,rfl,ha,q⟩:=h;obtain⟨u,rfl,ru⟩:=sW r;cases ru;exact d_len I (.inl ha) fun t s' I'=>⟨.int kvs.length,H,I',⟨t,rfl⟩,q⟩
end
def nQ:Expr->Bool
 |.Starred _ _=>false
 |_=>true
theorem xJ {e:Expr}{es:List Expr}{env:Env}(h:nQ e=true):starEach (e::es) env=(false,eval e env)::starEach es env:=by
 cases e<;>first | rfl | exact absurd h Bool.false_ne_true
theorem wG {pos:Pos}{env:Env}:∀{es:List Expr},es.all nQ=true->(backTo pos (starEach es env)).any (·.1)=false
 |[],_=>rfl
 |e::es,h=>by
  rw[List.all_cons,Bool.and_eq_true] at h;rw[xJ h.1];show(false || (backTo pos (starEach es env)).any (·.1))=false;rw[wG h.2]
  rfl
section
variable {X:Cx}{e:Expr}{es:List Expr}{te:TE}{t:TA}{x:Str}{p pos:Pos}
theorem qa_cons (ha:PE X e te)(hr:PA X es t)(hs:nQ e=true:=by rfl):PA X (e::es) (ZG te t):=pa_cons ha hr (xJ hs)
theorem qe_call {CX:CXT}{k:Nat}{f:Addr}{fd:FuncData}{ps:List Str}{sp:Sp}{dvs:List V}{ds:List Value}{E:XK}(F:FnOk X.prog X.w X.K X.mg X.base CX k f fd ps sp)(hr:Room k X.A)(hg:Gl X x)(hm:X.mg x=some (.ref f))(hk:PySem.W.keepIn X.K (.ref f)=true)(hb:Binds X.K fd ps ds)(hd:Vals dvs ds)(hx:lK CX X E)
  (ha:PA X (e::es) t) (hdb:(x==("__debug__" : Str))=false:=by decide) (hs:nQ e=true:=by rfl) (hall:es.all nQ=true:=by rfl):PE X (.Call (.Name x p) (e::es) [] pos) (ZI sp dvs E t) :=
 pe_call F hr hg hm hk hb hd hx ha hdb (xJ hs) (wG hall)
theorem ZU {id:String}{r:List V->Hp->VK->Prop}(hc:CallR X (.builtin id) r)(hg:Gl X x)(hm:X.mg x=none)(hv:bootBuiltins x=some (.builtin id))(ha:PA X (e::es) t)(hn:x ≠ "__name__":=by decide)(hdb:(x==("__debug__" : Str))=false:=by decide)
  (hs:nQ e=true:=by rfl) (hall:es.all nQ=true:=by rfl):PE X (.Call (.Name x p) (e::es) [] pos) (tCB r t):=Jg hc hg hm hv ha hn hdb (xJ hs) (wG hall)
theorem Xy {T:String}{r:List V->Hp->VK->Prop}(hc:CallR X (.type T) r)(hg:Gl X x)(hm:X.mg x=none)(hv:bootBuiltins x=some (.type T))(ha:PA X (e::es) t)(hn:x ≠ "__name__":=by decide)(hdb:(x==("__debug__" : Str))=false:=by decide)
  (hs:nQ e=true:=by rfl) (hall:es.all nQ=true:=by rfl):PE X (.Call (.Name x p) (e::es) [] pos) (tCB r t):=XD hc hg hm hv ha hn hdb (xJ hs) (wG hall)
end
section
variable {prog:Program}{w:World}{A:Around}{R:Result->Shared->Prop}{s:Shared}
theorem rR {elt target iter:Expr}{ifs:List Expr}{scope:Scope}{pos:Pos}{it acc:Value}{env:Env}(I:Nat->Shared->Prop)
  (turn:∀n s,I n s->wpAny (model prog w) A (pyNext it) (fun r s₁=>match r with
   |none=>R (.ok .next) s₁
   |some v=>wpAny (model prog w) A (letOwnedTupleGo target it v) (fun _ s₁=>wpAny (model prog w) A (assign target env v) (fun _ s₂ =>
     wpAny (model prog w) A (forIn ifs true fun c r=>if r=true then do let ok <- isTrue c env (eval c env); pure (ForInStep.yield ok) else pure (ForInStep.yield r)) (fun ok s₃ =>
      if ok=true then wpAny (model prog w) A (eval elt env) (fun x s₄ =>
       wpAny (model prog w) A (call (.builtin "list.append") [acc,x]) (fun _ s₅=>∃m,m < n/\I m s₅) (fun _ _=>False) s₄) (fun _ _=>False) s₃
      else ∃m,m < n/\I m s₃) (fun _ _=>False) s₂) (fun _ _=>False) s₁) (fun _ _=>False) s₁) (fun _ _=>False) s)
  (n:Nat) (h:I n s) :
  codeAny (model prog w) A (.compLoop (.ListComp elt [⟨target,iter,ifs,0⟩] scope pos) 0 it acc env) R s:=by
 refine codeAny_loop rfl I (fun n s hI=>?_) n h;show wpAny _ A ((compTurn (.ListComp elt [⟨target,iter,ifs,0⟩] scope pos) 0 it acc env).onRaise (fun x=>do noteFrame x env; theTreesLotGoes x)) _ _ s;refine wpAny_noted ?_;rw[compTurn_list];refine wpAny_bind (wpAny_standAt (wpAny_bind (wpAny_mono (turn n s hI) (fun r s₁ h₁=>?_) fun _ _ h'=>False.elim h')))
 cases r with
 |none=>exact wpAny_pure h₁
 |some v =>
  refine wpAny_bind (wpAny_mono h₁ (fun _ s₁' h₁'=>?_) fun _ _ h'=>False.elim h');refine wpAny_bind (wpAny_mono h₁' (fun _ s₂ h₂=>wpAny_bind (wpAny_mono h₂ (fun ok s₃ h₃=>?_) fun _ _ h'=>False.elim h')) fun _ _ h'=>False.elim h')
  cases ok with
  |false=>exact wpAny_pure ⟨rfl,h₃⟩
  |true =>
   exact wpAny_bind (wpAny_bind (wpAny_mono h₃ (fun x s₄ h₄=>wpAny_bind (wpAny_mono h₄ (fun _ s₅ h₅=>wpAny_pure (wpAny_pure ⟨rfl,h₅⟩)) fun _ _ h'=>False.elim h')) fun _ _ h'=>False.elim h'))
end
theorem lJ {env:Env}:∀{names:List (Str×NameKind)}{y:Str}{k:NameKind},
  (names.map fun(n,k)=>if (k==NameKind.free&&env.scope.kind==.function&&env.kindOf n==some .cell) then (n,NameKind.cell) else (n,k)).lookup y=some k ->
   ∃k0,(y,k0)∈names/\(k=k0\/(k0=.free/\k=.cell))
 |[],_,_,h=>by simp at h
 | (n,k1)::r,y,k,h=>by
  have ih:=@lJ env r y k;have h:List.lookup y ((if (k1==NameKind.free&&env.scope.kind==.function&&env.kindOf n==some .cell)=true then (n,NameKind.cell) else (n,k1))::_)=some k:=h
  cases hx:y==n with
  |true =>
   have e:y=n:=by simpa using hx
   subst e
   by_cases hc:(k1==NameKind.free&&env.scope.kind==.function&&env.kindOf y==some .cell)=true
   .rw [if_pos hc] at h
    simp only[List.lookup_cons,beq_self_eq_true] at h
    have hk:k1=.free:=by
     rw[Bool.and_eq_true,Bool.and_eq_true] at hc;exact beq_iff_eq.mp hc.1.1
    exact⟨k1,List.mem_cons_self,.inr ⟨hk,(Option.some.inj h).symm⟩⟩
   .rw [if_neg hc] at h
    simp only[List.lookup_cons,beq_self_eq_true] at h
    exact⟨k1,List.mem_cons_self,.inl (Option.some.inj h).symm⟩
  |false =>
   have h2:(r.map fun(n,k)=>if (k==NameKind.free&&env.scope.kind==.function&&env.kindOf n==some .cell) then (n,NameKind.cell) else (n,k)).lookup y=some k:=by
    by_cases hc:(k1==NameKind.free&&env.scope.kind==.function&&env.kindOf n==some .cell)=true
    .rw [if_pos hc] at h; simp only[List.lookup_cons,hx] at h; exact h
    .rw [if_neg hc] at h; simp only[List.lookup_cons,hx] at h; exact h
   obtain⟨k0,m,q⟩:=ih h2;exact⟨k0,List.mem_cons_of_mem _ m,q⟩
def Zp (X:Cx)(ifs:List Expr)(t:TT):Prop :=
 ∀(pins:List (Addr×Obj)) (s:Shared) (σ:St) (H:Hp) (Q:Bool->Hp->Prop),Inv X pins σ H s->t σ H Q ->
  wpAny (model X.prog X.w) X.A (forIn ifs true fun c r=>if r=true then do let ok <- isTrue c X.env (eval c X.env); pure (ForInStep.yield ok) else pure (ForInStep.yield r)) (TP X pins σ Q) X.xe s
def tYes:TT:=fun _ H Q=>Q true H
theorem Z5 {X:Cx}:Zp X [] tYes:=fun _ _ _ H _ I h=>wpAny_tests_nil ⟨H,I,h⟩
theorem Z4 {X:Cx}{c:Expr}{t:TT}(h:PT X c t):Zp X [c] t:=fun pins s σ H Q I hw=>wpAny_tests_one (h pins s σ H Q I hw)
def cxN (X:Cx)(xs:List Str)(scope:Scope)(cl:List (Str×Addr))(fp:List Addr)(C:Addr)(s₂:Shared)(H₂:Hp):Cx where
 prog:=X.prog
 w:=X.w
 K:=X.K
 mg:=X.mg
 base:=X.base
 A:=X.A
 N:=xs++X.N
 s₀:=s₂
 H₀:=H₂
 env:=compEnvC scope cl C X.env
 outer:=X.stack
 stack:=X.stack
 ex:=fp
 fn:=fun _=>false
 calm:=X.calm
 pn:=[]
 xe:=fun _ _=>False
abbrev yJ (X:Cx)(x:Str):=cxN X [x]
def sS (wi:TI)(tc:TT)(te:TE):TE:=fun σ H Q=>wi σ H fun J H1=>∀D,H1 D=none->∃W:Nat->Nat->List V->Hp->Prop,(∃m,W 0 m [] (upd H1 D (.lst [])))/\∀i m ys H,W i m ys H ->
 (J.stop i H/\Q (.ref D) H)\/(J.go i H/\∀x H',J.yld i H x H'->tc (some x::σ) H' fun b H2 =>
  if b=true then te (some x::σ) H2 fun y H3=>H3 D=some (.lst ys)/\ys.length < sizeLine/\∃m',m' < m/\W (i+1) m' (ys++[y]) (upd H3 D (.lst (ys++[y])))
  else ∃m',m' < m/\W (i+1) m' ys H2)
section
variable {X:Cx}
structure rV (X:Cx)(xs:List Str)(scope:Scope)(cl:List (Str×Addr)):Prop where
 clos:closureFor scope X.env=pure cl
 cell:∀y∈scope.names,y.2≠.cell
 kind:scope.kind=.function
 names:∀y∈scope.names,y.2=.local->scope.names.lookup y.1=some .local
 hx:∀x∈xs,scope.names.lookup x=some .local
 loc:∀y∈scope.names,y.2=.local->y.1∉X.N
 free:∀y∈scope.names,y.2=.free->X.env.kindOf y.1≠some .local/\(X.env.kindOf y.1=some .cell\/X.env.kindOf y.1=some .free)/\∃c,cl.lookup y.1=some c
 cl:∀y c,cl.lookup y=some c->X.env.cells.lookup y=some c
abbrev qU (X:Cx)(x:Str):=rV X [x]
theorem cG {elt iter tg:Expr}{xs:List Str}{pos:Pos}{ifs:List Expr}{scope:Scope}{cl:List (Str×Addr)}{tc:TT}{te:TE}{g:TG}{Tk:V->Hp->List V->Prop}{RR:Value->Addr->Result->Shared->Prop}{EE:Value->Shared->Prop}
  (hc:X.calm=true) (K:rV X xs scope cl) (hg:∀fp C s₂ H₂,PG (cxN X xs scope cl fp C s₂ H₂) tg g)
  (ht:∀fp C s₂ H₂,Zp (cxN X xs scope cl fp C s₂ H₂) ifs tc) (he:∀fp C s₂ H₂,PE (cxN X xs scope cl fp C s₂ H₂) elt te)
  {pins:List (Addr×Obj)} {σ:St} {s₂:Shared} {H₂:Hp} {it:Addr} {fp:List Addr} {tn:Nat->Heap->Prop} {J:It} {Q:VK}
  (hG:∀ws vs x H Q,ws.length=xs.length->Tk x H vs->vs.length=xs.length->Q (vs.map some++σ) H->g x (ws++σ) H Q) (I₂:Inv X pins σ H₂ s₂) (T:Zn X.prog X.w X.K tg J fp it tn) (st₂:tn 0 s₂.heap) (f₂:∀b∈fp,sE X pins H₂ b)
  (R:∀D,H₂ D=none->∃W:Nat->Nat->List V->Hp->Prop,(∃m,W 0 m [] (upd H₂ D (.lst [])))/\∀i m ys H,W i m ys H ->
   (J.stop i H/\Q (.ref D) H)\/(J.go i H/\∀x H',J.yld i H x H'->∃vs,Tk x H' vs/\vs.length=xs.length/\tc (vs.map some++σ) H' fun b H2 =>
    if b=true then te (vs.map some++σ) H2 fun y H3=>H3 D=some (.lst ys)/\ys.length < sizeLine/\∃m',m' < m/\W (i+1) m' (ys++[y]) (upd H3 D (.lst (ys++[y])))
    else ∃m',m' < m/\W (i+1) m' ys H2))
  (hRR:∀(D C:Addr) (H:Hp) (s4:Shared) (m:Str->Option Value),s4.heap.Ns C m->C≠X.env.locals->H C=none->(∀x c,X.env.cells.lookup x=some c->c≠C)->s₂.heap.objs.size<=C->Inv X pins σ H s4 ->
   Q (.ref D) H->RR (.ref D) C (.ok .next) s4) :
  wpAny (model X.prog X.w) X.A (newList []) (fun acc s₃=>wpAny (model X.prog X.w) X.A (newFunctionEnv scope X.env.globals cl [] X.env.qual none .none (some X.env)) (fun cenv s₄ =>
   codeAny (model X.prog X.w) X.A (.compStart (.ListComp elt [⟨tg,iter,ifs,0⟩] scope pos) 0 (.ref it) acc { cenv with scope:=relabel scope X.env }) (RR acc cenv.locals) s₄) EE s₃) EE s₂:=by
 refine wpAny_newObj_type (wpAny_newFunctionEnv K.cell (by intro y hy; simp at hy) (fun h₁ hns₁ hsb₁=>?_) K.kind);dsimp only at hns₁ hsb₁ ⊢;generalize hH2:s₂.heap.push { cls:=.type "list",dict:=none,data:=.seq ([]:List Value).toArray }=H2 at hns₁ hsb₁ ⊢;have hC:H2.objs.size=s₂.heap.objs.size+1:=by rw[<- hH2,Heap.size_push]
 have hDC:s₂.heap.objs.size≠H2.objs.size:=by rw[hC]; exact Nat.ne_of_lt (Nat.lt_succ_self _)
 have below:∀b,b < s₂.heap.objs.size->b≠H2.objs.size/\b≠s₂.heap.objs.size:=fun b hb=>⟨by rw[hC]; exact Nat.ne_of_lt (Nat.lt_succ_of_lt hb),Nat.ne_of_lt hb⟩;have old:∀b o,s₂.heap.get? b=some o->h₁.get? b=some o:=fun b o e=>hsb₁.extBut b o (below b (Heap.lt_size e)).1 (Heap.get?_push_of_some _ (hH2▸Heap.get?_push_of_some _ e));have hacc:h₁.get? s₂.heap.objs.size=some { cls:=.type "list",dict:=none,data:=.seq ([]:List Value).toArray }:=hsb₁.extBut _ _ hDC (Heap.get?_push_of_some _ (hH2▸Heap.get?_push_size _ rfl))
 have fD:H₂ s₂.heap.objs.size=none:=I₂.hok.fresh (Nat.le_refl _);have fC:H₂ H2.objs.size=none:=I₂.hok.fresh (by rw[hC]; exact Nat.le_succ _);have fpLt:∀b∈fp,b < s₂.heap.objs.size:=fun b hb=>let ⟨o,e,_⟩:=T.obj _ _ st₂ b hb; Heap.lt_size e
 obtain⟨W,⟨m0,w0⟩,turn⟩:=R s₂.heap.objs.size fD
 have okX:(cxN X xs scope cl fp H2.objs.size s₂ H₂).Ok:=by
  refine⟨I₂.ok.mod,K.kind,I₂.ok.glob,I₂.ok.blt,?_,fun y z c h1 h2=>I₂.ok.inj y z c (K.cl y c h1) (K.cl z c h2),fun y hy=>?_,fun y c h _=>?_,I₂.ok.hd,I₂.ok.frames,.inl rfl,fun b hb=>⟨(below b (fpLt b hb)).1,fun y c h=>(f₂ b hb).2.2.2.2.1 y c (K.cl y c h)⟩,I₂.bs,
   Nat.le_trans I₂.ok.bsz I₂.sz,fun b o e hb=>?_,fun b hb z=>?_,I₂.stack,I₂.stkFree⟩
  .show s₂.heap.objs.size<=H2.objs.size
   rw[hC]; exact Nat.le_succ _
  .have hy':(scope.names.map fun(n,k)=>if (k==NameKind.free&&X.env.scope.kind==.function&&X.env.kindOf n==some .cell) then (n,NameKind.cell) else (n,k)).lookup y=some .cell \/
     (scope.names.map fun(n,k)=>if (k==NameKind.free&&X.env.scope.kind==.function&&X.env.kindOf n==some .cell) then (n,NameKind.cell) else (n,k)).lookup y=some .free:=hy
   have fr:(y,NameKind.free)∈scope.names:=by
    rcases hy' with q | q
    .obtain ⟨k0,hm,z | ⟨z,_⟩⟩:=lJ q
     .subst z; exact absurd rfl (K.cell _ hm)
     .subst z; exact hm
    .obtain ⟨k0,hm,z | ⟨z,w⟩⟩:=lJ q
     .subst z; exact hm
     .cases w
   exact(K.free _ fr rfl).2.2
  .exact absurd (show false=true from h) Bool.false_ne_true
  .obtain ⟨_,_,_,f3,_⟩:=f₂ b hb
   rcases f3 with z | z
   .exact I₂.ok.noex b o e z
   .exact absurd (Nat.lt_of_lt_of_le (Heap.lt_size (I₂.ok.bs b o e).1) z) (Nat.lt_irrefl _)
  .obtain ⟨_,f1,f2',_⟩:=f₂ b hb
   rcases List.mem_cons.mp (I₂.stkSub b z) with q | q
   .exact f1 q
   .exact f2' q
 have hDne:∀b,H₂ b≠none->b≠s₂.heap.objs.size:=fun b hb z=>hb (z▸fD);have ldD:HOk X.prog X.w (upd H₂ s₂.heap.objs.size (.lst [])) h₁:=I₂.hok.laid old (Nat.le_refl _) ⟨Nat.zero_le _,[],_,.nil,hacc⟩
 have visFree:∀y,Vis (relabel scope X.env) y->y∈X.N->(y,NameKind.free)∈scope.names/\((relabel scope X.env).names.lookup y=some .cell\/(relabel scope X.env).names.lookup y=some .free):=by
  intro y hv hne
  rcases hv with q | q | q
  .obtain ⟨k0,hm,z | ⟨z,w⟩⟩:=lJ (env:=X.env) (show(scope.names.map _).lookup y=_ from q)
   .subst z; exact absurd hne (K.loc _ hm rfl)
   .cases w
  .obtain ⟨k0,hm,z | ⟨z,w⟩⟩:=lJ (env:=X.env) (show(scope.names.map _).lookup y=_ from q)
   .subst z; exact absurd rfl (K.cell _ hm)
   .subst z; exact⟨hm,.inl q⟩
  .obtain ⟨k0,hm,z | ⟨z,w⟩⟩:=lJ (env:=X.env) (show(scope.names.map _).lookup y=_ from q)
   .subst z; exact⟨hm,.inr q⟩
   .cases w
 have I':∀tk,Inv (cxN X xs scope cl fp H2.objs.size s₂ H₂) [] (List.replicate xs.length none++σ) (upd H₂ s₂.heap.objs.size (.lst [])) { s₂ with heap:=h₁,toks:=tk }:=by
  intro tk;refine⟨okX,rfl,I₂.bare,Un.laid old (Nat.le_refl _) fD,⟨_,hns₁,fun i y v h1 h2 h3=>?_⟩,fun y c h=>?_,?_,fun y c h=>?_,fun p hp=>absurd hp (by simp[cxN]),ldD,?_⟩
  .rcases Nat.lt_or_ge i xs.length with hi | hi
   .rw [List.getElem?_append_left (by rw[List.length_replicate]; exact hi),List.getElem?_replicate,if_pos hi] at h2
    cases h2
   .have h1':X.N[i - xs.length]?=some y:=by
     have h1:(xs++X.N)[i]?=some y:=h1;rw[List.getElem?_append_right hi] at h1; exact h1
    have h2':σ[i - xs.length]?=some (some v):=by
     rw[List.getElem?_append_right (by rw[List.length_replicate]; exact hi),List.length_replicate] at h2; exact h2
    have hne:y∈X.N:=List.mem_of_getElem? h1';obtain⟨fm,kk⟩:=visFree y h3 hne;obtain⟨nl,vz,c,hcl⟩:=K.free _ fm rfl;obtain⟨mm,hn,hl⟩:=I₂.loc;obtain⟨u,ru,l⟩:=hl (i - xs.length) y v h1' h2' (vz.elim (fun z=>.inr (.inl z)) fun z=>.inr (.inr z))
    rcases l with ⟨z,_⟩ | ⟨_,c',hc',hcell⟩
    .exact absurd z nl
    .have ec:c'=c:=Option.some.inj (hc'.symm.trans (K.cl _ _ hcl))
     subst ec;obtain⟨o,ho,hd⟩:=hcell;exact⟨u,ru,.inr ⟨kk,c',hcl,o,old _ _ ho,hd⟩⟩
  .obtain ⟨v,o,ho,hd⟩:=I₂.cell y c (K.cl y c h)
   exact⟨v,o,old _ _ ho,hd⟩
  .show upd H₂ _ _ H2.objs.size=none
   rw[cQ (Ne.symm hDC)]; exact fC
  .show upd H₂ _ _ c=none
   obtain⟨v,o,ho,hd⟩:=I₂.cell y c (K.cl y c h);rw[cQ (below c (Heap.lt_size ho)).2]; exact I₂.freeC y c (K.cl y c h)
  .show (List.replicate xs.length none++σ).length=(xs++X.N).length
   rw[List.length_append,List.length_append,List.length_replicate,I₂.len]
 have stat:∀{H':Hp},(∀b∈fp,H' b=none)->∀b∈fp,sE (cxN X xs scope cl fp H2.objs.size s₂ H₂) [] H' b:=fun hn b hb =>
  ⟨hn b hb,(okX.exf b hb).1,okX.exfs b hb,.inl hb,(okX.exf b hb).2,fun p hp=>absurd hp (by simp[cxN])⟩
 have tn₁:tn 0 h₁:=T.keep _ _ _ st₂ fun b _ o e=>old b o e;have fp₁:∀b∈fp,upd H₂ s₂.heap.objs.size (.lst []) b=none:=fun b hb=>by rw[cQ (below b (fpLt b hb)).2]; exact(f₂ b hb).1
 have loop:∀s₃:Shared,(∃tk,s₃={ s₂ with heap:=h₁,toks:=tk }) ->
   codeAny (model X.prog X.w) X.A (.compLoop (.ListComp elt [⟨tg,iter,ifs,0⟩] scope pos) 0 (.ref it) (.ref s₂.heap.objs.size) (compEnvC scope cl H2.objs.size X.env))
    (RR (.ref s₂.heap.objs.size) H2.objs.size) s₃:=by
  rintro s₃ ⟨tk,rfl⟩
  refine rR (fun n s'=>∃i ys H' v0,v0.length=xs.length/\Inv (cxN X xs scope cl fp H2.objs.size s₂ H₂) [] (v0++σ) H' s'/\tn i s'.heap/\(∀b∈fp,H' b=none)/\W i n ys H') ?_ m0
   ⟨0,[],_,List.replicate xs.length none,List.length_replicate,I' tk,tn₁,fp₁,w0⟩
  rintro n s3 ⟨i,ys,H3,v0,l0,I3,st3,fr3,w3⟩
  rcases turn i n ys H3 w3 with ⟨stop,qn⟩ | ⟨go,step⟩
  .refine thn (T.done (cxN X xs scope cl fp H2.objs.size s₂ H₂) rfl rfl rfl hc i [] s3 (v0++σ) H3 (fun _ _=>False) I3 (stat fr3) st3 stop) fun r s4 ⟨hr,I4⟩=>?_
   subst hr;show RR _ _ (.ok .next) s4;obtain⟨m,hn,_⟩:=I4.loc;have un:=I4.base;have os4:s4.os=s₂.os:=I4.os;refine hRR _ _ H3 s4 m hn ?_ I4.free (fun y c h z=>?_) (by rw[hC]; exact Nat.le_succ _) ?_ qn
   .exact Ne.symm (below _ I₂.lt).1
   .obtain ⟨v,o,ho,hd⟩:=I₂.cell y c h
    exact(below c (Heap.lt_size ho)).1 z
   .obtain ⟨hh,g,d,t,os'⟩:=s4
    obtain rfl:os'=s₂.os:=os4;exact I₂.call (h':=hh) (g':=g) (d':=d) (t':=t) (ch:=fp) un I4.hok I4.bare fun b hb=>⟨(f₂ b hb).2.2.2.1,(f₂ b hb).2.1,(f₂ b hb).2.2.2.2.1,(f₂ b hb).2.2.2.2.2⟩
  .refine thn (T.item (cxN X xs scope cl fp H2.objs.size s₂ H₂) rfl rfl rfl hc i [] s3 (v0++σ) H3 (fun _ _=>False) I3 (stat fr3) st3 go) fun r s4 ⟨u,hr,h4⟩=>?_
   subst hr;refine thn h4 fun _ s5 ⟨x5,H5,I5,r5,y5,st5,fr5⟩=>?_;have I5':=I5.pinned (stat fr5) (T.obj _ _ st5)
   have again:∀{H':Hp} {s':Shared} {τ:St},Inv (cxN X xs scope cl fp H2.objs.size s₂ H₂) ([]++rL fp s5.heap) τ H' s'->tn (i+1) s'.heap/\∀b∈fp,H' b=none:=fun I7 =>
    ⟨T.keep _ _ _ st5 fun b hb o e=>(I7.pin (b,o) (List.mem_append_right _ (List.mem_append_right _ (cY hb e)))).1,fun b hb=>by
     obtain⟨o,e,d⟩:=T.obj _ _ st5 b hb
     exact(I7.pin (b,o) (List.mem_append_right _ (List.mem_append_right _ (cY hb e)))).2.1⟩
   obtain⟨vs5,sq5,l5,q5⟩:=step x5 H5 y5;refine thn (hg fp _ s₂ H₂ _ s5 (v0++σ) H5 x5 u (fun σ' H'=>σ'=vs5.map some++σ/\H'=H5) I5' r5 (hG v0 vs5 x5 H5 _ l0 sq5 l5 ⟨rfl,rfl⟩)) fun _ s6 ⟨σ6,H6,I6,e6,e6'⟩=>?_;subst e6 e6';have l6:(vs5.map some).length=xs.length:=by rw[List.length_map]; exact l5
   refine thn (ht fp _ s₂ H₂ _ s6 (vs5.map some++σ) H6 _ I6 q5) fun ok s7 ⟨H7,I7,q7⟩=>?_
   cases ok with
   |false =>
    rw[if_neg Bool.false_ne_true] at q7;rw[if_neg Bool.false_ne_true];obtain⟨m',hm,w7⟩:=q7;obtain⟨k1,k2⟩:=again I7;exact⟨m',hm,i+1,ys,H7,vs5.map some,l6,I7.unpinned,k1,k2,w7⟩
   |true =>
    rw[if_pos rfl] at q7;rw[if_pos rfl];refine thn (he fp _ s₂ H₂ _ s7 (vs5.map some++σ) H7 _ I7 q7) fun y s8 ⟨y8,H8,I8,r8,hD8,hl8,m',hm,w8⟩=>?_;refine thn (mN (X:=cxN X xs scope cl fp H2.objs.size s₂ H₂) _ s8 _ H8 (.ref s₂.heap.objs.size) [y8] (.ref s₂.heap.objs.size) [y] (fun _ H9=>H9=upd H8 s₂.heap.objs.size (.lst (ys++[y8]))) I8 rfl (.cons r8 .nil) ⟨_,ys,y8,rfl,rfl,hD8,hl8,rfl⟩) fun _ s9 ⟨_,H9,I9,_,e9⟩=>?_
    subst e9;obtain⟨k1,k2⟩:=again I9;exact⟨m',hm,i+1,ys++[y8],_,vs5.map some,l6,I9.unpinned,k1,k2,w8⟩
 exact codeAny_compStart_list (loop _ ⟨_,rfl⟩) (T.self _ 0 _ _ _ tn₁ (loop _ ⟨_,rfl⟩))
theorem pe_comp {elt iter:Expr}{x:Str}{px pos:Pos}{ifs:List Expr}{scope:Scope}{cl:List (Str×Addr)}{wi:TI}{tc:TT}{te:TE}
  (hc:X.calm=true) (hN:(x::X.N).Nodup) (K:qU X x scope cl) (hi:PI X (.Name x px) iter wi)
  (ht:∀fp C s₂ H₂,Zp (yJ X x scope cl fp C s₂ H₂) ifs tc) (he:∀fp C s₂ H₂,PE (yJ X x scope cl fp C s₂ H₂) elt te)
  (hs:∀v,foldedSetIterable iter X.env v=pure v:=by intro _; rfl):PE X (.ListComp elt [⟨.Name x px,iter,ifs,0⟩] scope pos) (sS wi tc te):=by
 intro pins s σ H Q I h;rw[eval_ListComp];refine wpAny_comprehension_free (use:=none) rfl hs K.clos K.kind K.names (thn (hi pins s σ H _ I h) fun xv s₁ h₁=>thn h₁ fun itv s₂ h₂=>?_);obtain⟨it,fp,tn,J,H₂,e,I₂,T,st₂,f₂,R⟩:=h₂;subst e;refine cG (g:=vY 0) (Tk:=fun x _ vs=>vs=[x]) hc K (fun _ _ _ _=>qM (i:=0) (x:=x) hN rfl (.inl (lookup_relabel_local (K.hx x (.head _)))) (.inr (lookup_relabel_local (K.hx x (.head _))))) ht he (by rintro ws vs y H Q l rfl _ q; match ws,l with | [_],_=>exact q) I₂ T st₂ f₂ (fun D hD=>let ⟨W,w0,tu⟩:=R D hD; ⟨W,w0,fun i m ys H w=>(tu i m ys H w).imp id fun⟨g,st⟩=>⟨g,fun x H' y=>⟨[x],rfl,rfl,st x H' y⟩⟩⟩) ?_
 intro D C H s4 m hn hCL hC0 hCc hCsz I4 q;refine⟨m,hn,fun h' hsb=>⟨.ref D,H,?_,rfl,q⟩⟩;refine I4.turned (it:=C) (t':=s4.toks) (fun b o hb e=>(hsb.2 b hb).trans e) hC0 hCL (.inr (Nat.le_trans I₂.sz hCsz)) hCc fun p hp z=>?_;exact absurd (Nat.lt_of_lt_of_le (Heap.lt_size (I₂.pin p hp).1) (by rw[z]; exact hCsz)) (Nat.lt_irrefl _)
end
theorem Zl (ys:List Bool):((List.range ys.length).all fun i=>(ys[i]?).getD false)=ys.all id:=by
 rw[Bool.eq_iff_iff,List.all_eq_true,List.all_eq_true]
 constructor
 .intro h b hb
  obtain⟨i,hi⟩:=List.mem_iff_getElem?.mp hb;have hl:i < ys.length:=(List.getElem?_eq_some_iff.mp hi).1;have:=h i (List.mem_range.mpr hl);rw[hi] at this;exact this
 .intro h i hi
  have hl:i < ys.length:=List.mem_range.mp hi;rw[List.getElem?_eq_getElem hl];exact h _ (List.getElem_mem hl)
section
variable {X:Cx}
theorem K0 (hc:X.calm=true):CallR X (.builtin "all") (fun xs H Q=>∃p ys,xs=[.ref p]/\SqL X.K H p (List.map V.bl ys)/\Q (.bl (ys.all id)) H):=by
 intro pins s σ H xs us Q I r h;obtain⟨p,ys,rfl,hq,q⟩:=h;obtain⟨u,rfl,rx⟩:=sW r;cases rx;obtain⟨its,rv,pl,hz⟩:=I.list hq;have hlen:its.length=ys.length:=by rw[<- rv.length,List.length_map]
 obtain⟨o,n,ho,_⟩:=id pl;have hlt:p < s.heap.objs.size:=Heap.lt_size ho;refine call_all_walk (wpAny_pyIter_list pl.isList ?_);refine⟨s.heap.objs.size,_,_,_,_,_,fun i=>(ys[i]?).getD false,rfl,Walks.list (A:=X.A.in1) (I.ok.hd hc) s.heap.objs.size p (Nat.ne_of_lt hlt) its.toArray,⟨⟨_,Heap.get?_push_size _ rfl,rfl,rfl⟩,pl.isList.push _⟩,fun i v s' Q' E' hP hQ=>?_,fun h' tk kk=>?_⟩
 .have hv:its[i]?=some v:=by simpa using hP
  have hi:i < ys.length:=by rw[<- hlen]; exact(List.getElem?_eq_some_iff.mp hv).1
  have hy:(List.map V.bl ys)[i]?=some (.bl ys[i]):=by rw[List.getElem?_map,List.getElem?_eq_getElem hi]; rfl
  obtain⟨u,hu,ru⟩:=rv.get hy;rw[hv] at hu;cases hu;cases (show v=Value.bool ys[i] from ru);have hQ:Q' ((ys[i]?).getD false) s':=hQ;rw[List.getElem?_eq_getElem hi] at hQ;exact wpAny_truthy_bool hQ
 .have I1:Inv X pins σ H { s with heap:=h',toks:=tk }:=I.kept fun b o e=>kk b o (by intro z; exact absurd (Heap.lt_size e) (by rw[List.mem_singleton.mp z]; exact Nat.lt_irrefl _)) (Heap.get?_push_of_some _ e)
  have e:((List.range its.toArray.size).all fun i=>(ys[i]?).getD false)=ys.all id:=by rw[List.size_toArray,hlen,Zl]
  rw[e];exact⟨.bl (ys.all id),H,I1,rfl,q⟩
inductive Ty where
 |non | bl | int | str | lst | tup | dct
 deriving DecidableEq
def vG:Ty->String
 |.non=>"NoneType" | .bl=>"bool" | .int=>"int" | .str=>"str" | .lst=>"list" | .tup=>"tuple" | .dct=>"dict"
def tyH:HO->Option Ty
 |.lst _=>some .lst
 |.frz _ (.lst _)=>some .lst
 |.tup _=>some .tup
 |.dK _=>some .dct
 |.dT _=>some .dct
 |_=>none
def tyN (H:Hp):V->Option Ty
 |.non=>some .non
 |.bl _=>some .bl
 |.int _=>some .int
 |.str _=>some .str
 |.ref a=>(H a).bind tyH
 |_=>none
theorem tyOf_of {K:PySem.W.Frag}{H:Hp}{x:V}{n:Ty}(h:tyN H x=some n):cF K H x (.type (vG n)):=by
 cases x with
 |non=>cases h; exact .non
 |bl b=>cases h; exact .bl b
 |int i=>cases h; exact .int i
 |str z=>cases h; exact .str z
 |ref a =>
  have h:(H a).bind tyH=some n:=h
  cases e:H a with
  |none=>rw[e] at h; cases h
  |some o =>
   rw[e] at h;have h:tyH o=some n:=h
   cases o with
   |lst xs=>cases h; exact .lst e
   |tup xs=>cases h; exact .tup e
   |dK kvs=>cases h; exact .dK e
   |dT kvs=>cases h; exact .dT e
   |frz ob u =>
    cases u with
    |lst xs=>cases h; exact .frz e
    |_=>cases h
   |_=>cases h
 |byt b=>cases h
 |flt b=>cases h
 |ty n=>cases h
def qW:Ty->Ty->Bool
 |.bl,.int=>true
 |a,b=>decide (a=b)
theorem kit_all (K:PySem.W.Frag)(n T:Ty):PySem.W.kitOne K (.type (vG n)) (.type (vG T))=some (qW n T):=by
 cases n<;>cases T<;>with_unfolding_all rfl
theorem eK:CallR X (.builtin "isinstance") (fun xs H Q=>∃x T n,xs=[x,.ty (vG T)]/\tyN H x=some n/\Q (.bl (qW n T)) H):=by
 intro pins s σ H xs us Q I r h;obtain⟨x,T,n,rfl,hn,q⟩:=h;obtain⟨u,w',rfl,rx,rT⟩:=dS r;cases (show w'=Value.type (vG T) from rT);exact X0 I rx (tyOf_of hn) (kit_all X.K n T) fun tk=>⟨.bl (qW n T),H,I.tok tk,rfl,q⟩
theorem nT:OpR X (binaryOp .FloorDiv) (rI (fun _ j=>0 < j/\j < 18446744073709551616) fun i j=>.int (i / j)):=opI fun i j _ _ _ _ _ hc q=>by
 have h1:(0:Int) < j:=hc.1;have h2:j < 18446744073709551616:=hc.2;refine floordiv_int (by omega) (by rw[Int.fdiv_eq_ediv_of_nonneg i (by omega)]; exact q) (.inl (PyProof.noPylong_of_log2 ?_))
 have h3:j.natAbs < 2 ^ 64:=by
  have:(2:Nat) ^ 64=18446744073709551616:=by decide
  omega
 exact Nat.lt_of_lt_of_le ((Nat.log2_lt (by omega)).mpr h3) (by decide)
end
structure JE (X:Cx)(e:Expr)(t:TE):Prop where
 h:PE X e t
structure JT (X:Cx)(e:Expr)(t:TT):Prop where
 h:PT X e t
structure JW (X:Cx)(e:Expr)(t:TT):Prop where
 h:PW X e t
structure JA (X:Cx)(es:List Expr)(t:TA):Prop where
 h:PA X es t
structure JS (X:Cx)(st:Stmt)(t:TS):Prop where
 h:PS X st t
structure JB (X:Cx)(st:List Stmt)(t:TS):Prop where
 h:PSs X st t
structure JG (X:Cx)(e:Expr)(t:TG):Prop where
 h:PG X e t
structure JGs (X:Cx)(es:List Expr)(t:TGs):Prop where
 h:PGs X es t
structure JI (X:Cx)(tg e:Expr)(t:TI):Prop where
 h:PI X tg e t
structure JF (X:Cx)(ifs:List Expr)(t:TT):Prop where
 h:Zp X ifs t
structure JO (X:Cx)(e:Option Expr)(t:TO):Prop where
 h:PO X e t
section
variable {X:Cx}{a b c e o i:Expr}{es:List Expr}{ta tb tc te:TE}{tA tB':TT}{t:TA}{pos:Pos}{rest:List Expr}
theorem jv (i:Nat){x:Str}{pos:Pos}(hN:X.N[i]?=some x:=by rfl)(hv:Vis X.env.scope x:=by first | exact Or.inl rfl | exact Or.inr (Or.inl rfl) | exact Or.inr (Or.inr rfl))(hd:(x==("__debug__" : Str))=false:=by decide)
  (hcd:(x==("__classdict__" : Str))=false:=by decide):JE X (.Name x pos) (tVar i):=⟨Z8 hN hv hd hcd⟩
theorem je_int {i j pos}:JE X (.Constant (.int i) j pos) (tC (.int i)):=⟨pe_int⟩
theorem je_bl {b j pos}:JE X (.Constant (.bool b) j pos) (tC (.bl b)):=⟨pe_bl⟩
theorem je_non {j pos}:JE X (.Constant .none j pos) (tC .non):=⟨pe_non⟩
theorem je_str {x j pos}:JE X (.Constant (.str x) j pos) (tC (.str x)):=⟨pe_str⟩
theorem je_glob {x:Str}{v:V}{u:Value}(hg:Gl X x)(hm:X.mg x=some u)(r:RelV v u)(hd:(x==("__debug__" : Str))=false:=by decide):JE X (.Name x pos) (tC v):=⟨pe_glob hg hm r hd⟩
theorem je_bltn {x:Str}{v:V}{u:Value}(hg:Gl X x)(hm:X.mg x=none)(hv:bootBuiltins x=some u)(r:RelV v u)(hn:x ≠ "__name__":=by decide)(hd:(x==("__debug__" : Str))=false:=by decide):JE X (.Name x pos) (tC v):=⟨pe_bltn hg hm hv r hn hd⟩
theorem je_op {op:Operator}{r:R2}(ho:OpR X (binaryOp op) r)(ha:JE X a ta)(hb:JE X b tb):JE X (.BinOp a op b pos) (tOp r ta tb):=⟨pe_op ho ha.h hb.h⟩
theorem je_un {op:UnaryOp}{r:V->Hp->VK->Prop}(ho:UnR X (unaryOp op) r)(ha:JE X a ta):JE X (.UnaryOp op a pos) (tUn r ta):=⟨pe_un ho ha.h⟩
theorem je_cmp {op:CmpOp}{r:R2}(ho:OpR X (compareOp op) r)(ha:JE X a ta)(hb:JE X b tb)(hm:behindInMarks op b=false):JE X (.Compare a [op] [b] pos) (tOp r ta tb):=⟨pe_cmpR ho ha.h hb.h hm⟩
theorem jt_cmp {op:CmpOp}{r:R2}(ho:OpR X (compareOp op) r)(ha:JE X a ta)(hb:JE X b tb)(hm:behindInMarks op b=false):JT X (.Compare a [op] [b] pos) (ZC (tOp r ta tb)):=⟨pt_cmpR ho ha.h hb.h hm⟩
theorem je_one {op}{t:TE}(h:JE X a t):JE X (.BoolOp op [a] pos) t:=⟨pe_one h.h⟩
theorem je_and (ha:JE X a ta)(hb:JE X (.BoolOp .And (b::rest) pos) tb):JE X (.BoolOp .And (a::b::rest) pos) (tAndV ta tb):=⟨pe_and ha.h hb.h⟩
theorem jw_pt {t:TT}(h:JW X e t):JT X e t:=⟨h.h.pt⟩
theorem jw_and1 (ha:JT X a tA):JW X (.BoolOp .And [a] pos) tA:=⟨pw_and1 ha.h⟩
theorem jw_or1 (ha:JT X a tA):JW X (.BoolOp .Or [a] pos) tA:=⟨pw_or1 ha.h⟩
theorem jw_and (ha:JT X a tA)(hb:JW X (.BoolOp .And (b::rest) pos) tB'):JW X (.BoolOp .And (a::b::rest) pos) (tAnd tA tB'):=⟨pw_and ha.h hb.h⟩
theorem jw_or (ha:JT X a tA)(hb:JW X (.BoolOp .Or (b::rest) pos) tB'):JW X (.BoolOp .Or (a::b::rest) pos) (tOr tA tB'):=⟨pw_or ha.h hb.h⟩
theorem jt_not (ha:JT X a tA):JT X (.UnaryOp .Not a pos) (tNot tA):=⟨pt_not ha.h⟩
def eW:Expr->Bool
 |.Name _ _=>true | .Call _ _ _ _=>true | .Subscript _ _ _=>true | .Attribute _ _ _=>true | .IfExp _ _ _ _=>false | _=>false
theorem cL {env:Env}(h:eW e=true):∀whole,isTrue e env whole=(do let v <- whole; standAt e.pos; holding [v] (truthy v)):=by
 cases e<;>first | (intro _; rfl) | exact absurd h Bool.false_ne_true
theorem jt_val {t:TE}(h:JE X e t)(he:eW e=true:=by rfl):JT X e (tB t):=⟨pt_val h.h (cL he)⟩
theorem J0 (h:JE X e te)(he:eW e=true:=by rfl):JT X e (fun σ H Q=>te σ H fun x H'=>∃k,TruV X.K x H' k/\Q k H'):=⟨Z0 h.h (cL he)⟩
theorem je_if (hc:JT X c tA)(ha:JE X a ta)(hb:JE X b tb):JE X (.IfExp c a b pos) (tIf tA ta tb):=⟨Jb hc.h ha.h hb.h⟩
theorem xP:JA X [] tNil:=⟨pa_nil⟩
theorem kM (ha:JE X e te)(hr:JA X es t)(hs:nQ e=true:=by rfl):JA X (e::es) (ZG te t):=⟨qa_cons ha.h hr.h hs⟩
theorem je_tup {x1}(h:JA X es t):JE X (.Tuple es x1 pos) (tTup t):=⟨pe_tup h.h⟩
theorem je_lst (h:JA X es t):JE X (.List es pos) (tLst t):=⟨pe_lst h.h⟩
theorem J5:JE X (.Dict [] [] pos) ZE:=⟨Jd⟩
theorem J4:JE X (.Dict [] [] pos) ZD:=⟨Jc⟩
theorem je_call {CX:CXT}{k:Nat}{f:Addr}{fd:FuncData}{ps:List Str}{sp:Sp}{dvs:List V}{ds:List Value}{E:XK}{x:Str}{p:Pos}(F:FnOk X.prog X.w X.K X.mg X.base CX k f fd ps sp)(hr:Room k X.A)(hg:Gl X x)(hm:X.mg x=some (.ref f))(hk:PySem.W.keepIn X.K (.ref f)=true)(hb:Binds X.K fd ps ds)(hd:Vals dvs ds)(hx:lK CX X E)
  (ha:JA X (e::es) t) (hdb:(x==("__debug__" : Str))=false:=by decide) (hs:nQ e=true:=by rfl) (hall:es.all nQ=true:=by rfl):JE X (.Call (.Name x p) (e::es) [] pos) (ZI sp dvs E t):=⟨qe_call F hr hg hm hk hb hd hx ha.h hdb hs hall⟩
theorem J6 {id:String}{r:List V->Hp->VK->Prop}{x:Str}{p:Pos}(hc:CallR X (.builtin id) r)(hg:Gl X x)(hm:X.mg x=none)(hv:bootBuiltins x=some (.builtin id))(ha:JA X (e::es) t)(hn:x ≠ "__name__":=by decide)(hdb:(x==("__debug__" : Str))=false:=by decide)
  (hs:nQ e=true:=by rfl) (hall:es.all nQ=true:=by rfl):JE X (.Call (.Name x p) (e::es) [] pos) (tCB r t):=⟨ZU hc hg hm hv ha.h hn hdb hs hall⟩
theorem xY {T:String}{r:List V->Hp->VK->Prop}{x:Str}{p:Pos}(hc:CallR X (.type T) r)(hg:Gl X x)(hm:X.mg x=none)(hv:bootBuiltins x=some (.type T))(ha:JA X (e::es) t)(hn:x ≠ "__name__":=by decide)(hdb:(x==("__debug__" : Str))=false:=by decide)
  (hs:nQ e=true:=by rfl) (hall:es.all nQ=true:=by rfl):JE X (.Call (.Name x p) (e::es) [] pos) (tCB r t):=⟨Xy hc hg hm hv ha.h hn hdb hs hall⟩
theorem je_ix {r:R2}(hr:IxR X r)(ha:JE X a ta)(hb:JE X b tb)(hs:xL b):JE X (.Subscript a b pos) (tOp r ta tb):=⟨pe_ix hr ha.h hb.h hs⟩
theorem jo_none:JO X none Qw:=⟨po_none⟩
theorem jo_some (h:JE X e te):JO X (some e) (tPart te):=⟨po_some h.h⟩
theorem fO {lo hi:Option Expr}{tl th:TO}{p2:Pos}{r:V->Option Int->Option Int->Hp->VK->Prop}(hr:SlR X r)(he:JE X e te)(hl:JO X lo tl)(hu:JO X hi th):JE X (.Subscript e (.Slice lo hi none p2) pos) (tSl r te tl th):=⟨Z9 hr he.h hl.h hu.h⟩
theorem jf_nil:JF X [] tYes:=⟨Z5⟩
theorem jf_one {t:TT}(h:JT X c t):JF X [c] t:=⟨Z4 h.h⟩
theorem je_comp {elt iter:Expr}{x:Str}{px:Pos}{ifs:List Expr}{scope:Scope}{cl:List (Str×Addr)}{wi:TI}{tc:TT}
  (hc:X.calm=true) (hN:(x::X.N).Nodup) (K:qU X x scope cl) (hi:JI X (.Name x px) iter wi)
  (ht:∀fp C s₂ H₂,JF (yJ X x scope cl fp C s₂ H₂) ifs tc) (he:∀fp C s₂ H₂,JE (yJ X x scope cl fp C s₂ H₂) elt te)
  (hs:∀v,foldedSetIterable iter X.env v=pure v:=by intro _; rfl):JE X (.ListComp elt [⟨.Name x px,iter,ifs,0⟩] scope pos) (sS wi tc te) :=
 ⟨pe_comp hc hN K hi.h (fun fp C s₂ H₂=>(ht fp C s₂ H₂).h) (fun fp C s₂ H₂=>(he fp C s₂ H₂).h) hs⟩
variable {tg:Expr}
theorem QL (h:JE X e te):JI X tg e (iList X.K te):=⟨pi_list h.h⟩
theorem J2 (h:JE X e te):JI X tg e (iTup X.K te):=⟨pi_tup h.h⟩
theorem rN {p:Pos}(hg:Gl X "range")(hm:X.mg "range" = none)(ha:JA X [a] t)(hs:nQ a=true:=by rfl):JI X tg (.Call (.Name "range" p) [a] [] pos) (Kf t):=⟨XC hg hm ha.h (xJ hs)⟩
theorem jg_name {i:Nat}{x:Str}(hN:X.N.Nodup)(hi:X.N[i]?=some x)(hx:Loc X.env.scope x)(hf:X.fn x=true\/X.env.scope.names.lookup x=some .local:=by first | exact .inl rfl | exact .inr rfl | assumption):JG X (.Name x pos) (vY i):=⟨qM hN hi hx hf⟩
theorem jgs_nil:JGs X [] gNil:=⟨QE⟩
theorem J3 {t:TG}{u:TGs}(h1:JG X e t)(h2:JGs X es u)
  (hs:(assignEach (e::es) X.env).map (·.2)=assign e X.env::(assignEach es X.env).map (·.2):=by rfl):JGs X (e::es) (uP t u):=⟨nL h1.h h2.h hs⟩
theorem jg_tup {k:Nat}{t:TGs}{n:Nat}(hc:X.calm=true)(h:JGs X es t)
  (hn:(assignEach es X.env).length=n:=by rfl) (hst:(assignEach es X.env).findIdx? (·.1)=none:=by rfl):JG X (.Tuple es k pos) (gTup X.K n t):=⟨Z7 hc h.h hn hst⟩
theorem jg_sub {t:TSet}{to ti:TE}(ho:JE X o to)(hi:JE X i ti)(hs:PSet X t)
  (ha:∀v,assign (.Subscript o i pos) X.env v=(do
   let ov <- holding [v] (eval o X.env)
   let iv <- holding [v,ov] (eval i X.env)
   standAt pos
   holding [v,ov,iv] (setItem ov iv v)
   release [v,ov,iv] []):=by intro _; rfl):JG X (.Subscript o i pos) (gSub to ti t):=⟨pg_sub ho.h hi.h hs ha⟩
end
section
variable {X:Cx}{st:Stmt}{sts:List Stmt}{t u:TS}{e c:Expr}{te:TE}{tc:TT}{pos:Pos}
theorem jb_nil:JB X [] tNext:=⟨pss_nil⟩
theorem jb_cons (h1:JS X st t)(h2:JB X sts u):JB X (st::sts) (tSeq t u):=⟨Z1 h1.h h2.h⟩
theorem jb_one (h1:JS X st t):JB X [st] t:=⟨pss_one h1.h⟩
theorem js_expr (he:JE X e te)(hs:swapsWith e none pos.line X.env=pure false:=by rfl):JS X (.Expr e pos) (tDrop te):=⟨ps_expr he.h hs⟩
theorem J1 (he:JE X e te):JS X (.Return (some e) pos) (tRet te):=⟨ps_ret he.h⟩
theorem js_if {a b:List Stmt}(hc:JT X c tc)(ha:JB X a t)(hb:JB X b u):JS X (.If c a b pos) (tIfS tc t u):=⟨ps_if hc.h ha.h hb.h⟩
theorem js_set {i:Nat}{x:Str}{pos':Pos}(hN:X.N.Nodup)(hi:X.N[i]?=some x)(hx:Loc X.env.scope x)(he:JE X e te)(hs:swapsWith e (some (.Name x pos')) pos.line X.env=pure false:=by rfl)(hf:X.fn x=true\/X.env.scope.names.lookup x=some .local:=by first | exact .inl rfl | exact .inr rfl | assumption):
  JS X (.Assign [.Name x pos'] e pos) (ZJ te (vY i)):=⟨ps_set hN hi hx he.h hs hf⟩
theorem js_asg {tg:Expr}{g:TG}(he:JE X e te)(hg:JG X tg g)(hs:swapsWithSole [tg] e pos.line X.env=pure false:=by rfl)(hw:swappedStores [tg] e X.env=pure none:=by rfl)
  (h1:(assignEach [tg] X.env).map (·.2)=[assign tg X.env]:=by rfl):JS X (.Assign [tg] e pos) (ZJ te g):=⟨ps_asg he.h hg.h hs hw h1⟩
theorem vI {tg iter:Expr}{body:List Stmt}{wi:TI}{g:TG}{tb:TS}(hp:PassesOwn (model X.prog X.w) X.A X.env X.xe)(hc:X.calm=true)(hi:JI X tg iter wi)(hg:JG X tg g)(hb:JB X body tb)
  (hs:∀x,foldedSetIterable iter X.env x=pure x:=by intro _; rfl):JS X (.For tg iter body [] pos) (tFor wi g tb):=⟨ps_for hp hc hi.h hg.h hb.h hs⟩
end
section
variable {P:Program}{w:World}{K:PySem.W.Frag}{mg:Str->Option Value}{base:Heap}
theorem Fun.okJ {x qual:Str}{st:Stmt}{f:Addr}{fd:FuncData}{N ps:List Str}{k:Nat}{sp:Sp}(F:Fun K x qual st f fd)(S:FnScope N ps (kX st))(len:∀vs H Q E,sp vs H Q E->vs.length=ps.length)
  (hbody:∀(cdv:Value) (A:Around) (outer:List Env) (s:Shared) (H:Hp) (vs:List V) (Q:VK) (E:XK),Room k (A.deeper (envOfC qual (kX st) s.heap.objs.size f cdv))->sp vs H Q E ->
   ∃t,JB (dR CX0 P w K mg base N qual (kX st) f cdv A outer s H E).nox (kK st) t/\t { nx:=fun _ H'=>Q .non H',rt:=Q } (start N vs) H):FnOk P w K mg base CX0 (k+1) f fd ps sp :=
 F.ok S len fun cdv A outer s H vs Q E hr h=>let ⟨t,ht,q⟩:=hbody cdv A outer s H vs Q E hr h; ⟨t,ht.h,q⟩
end
theorem wB {env:Env}:∀(names:List (Str×NameKind)) (acc:List (Str×Addr)),(∀y∈names,y.2=.free->∃c,env.cells.lookup y.1=some c)->(∀y c,acc.lookup y=some c->env.cells.lookup y=some c) ->
  ∃cl,(forIn names acc fun x r=>(do
    if x.2==NameKind.free then do
     let c <- cellOf env x.1
     pure (ForInStep.yield ((x.1,c)::r))
    else pure (ForInStep.yield r):Sem (ForInStep (List (Str×Addr)))))=pure cl/\(∀y c,cl.lookup y=some c->env.cells.lookup y=some c)/\(∀y∈names,y.2=.free->∃c,cl.lookup y.1=some c)/\∀y c,acc.lookup y=some c->∃c',cl.lookup y=some c'
 |[],acc,_,ha=>⟨acc,rfl,ha,fun y hy=>absurd hy (by simp),fun y c h=>⟨c,h⟩⟩
 | (n,k)::r,acc,hf,ha=>by
  cases hk:(k==NameKind.free) with
  |false =>
   obtain⟨cl,e,h1,h2,h3⟩:=wB r acc (fun y hy=>hf y (List.mem_cons_of_mem _ hy)) ha;refine⟨cl,?_,h1,fun y hy hy2=>?_,h3⟩
   .rw [List.forIn_cons]
    simp only[hk,Bool.false_eq_true,if_false]
    exact e
   .rcases List.mem_cons.mp hy with rfl | hy
    .have:k=.free:=hy2
     rw[this] at hk;exact absurd hk (by decide)
    .exact h2 y hy hy2
  |true =>
   have ek:k=.free:=by simpa using hk
   obtain⟨c,hc⟩:=hf (n,k) List.mem_cons_self ek;have hc:env.cells.lookup n=some c:=hc
   have ha':∀y c',((n,c)::acc).lookup y=some c'->env.cells.lookup y=some c':=fun y c' h=>by
    rw[List.lookup_cons] at h
    cases hy:y==n with
    |true =>
     rw[hy] at h;have:y=n:=by simpa using hy
     subst this;rw[hc]; exact h
    |false =>
     rw[hy] at h;exact ha y c' h
   obtain⟨cl,e,h1,h2,h3⟩:=wB r ((n,c)::acc) (fun y hy=>hf y (List.mem_cons_of_mem _ hy)) ha';have hco:cellOf env n=pure c:=by unfold cellOf; rw[hc]
   refine⟨cl,?_,h1,fun y hy hy2=>?_,fun y c' h=>?_⟩
   .rw [List.forIn_cons]
    simp only[hk,if_true,hco]
    exact e
   .rcases List.mem_cons.mp hy with rfl | hy
    .exact h3 n c (by simp[List.lookup_cons])
    .exact h2 y hy hy2
   .cases hy:y==n with
    |true=>exact h3 y c (by simp[List.lookup_cons,hy])
    |false=>exact h3 y c' (by simp[List.lookup_cons,hy,h])
def sP (xs:List Str)(scope:Scope)(N:List Str)(sc:Scope):Bool :=
 scope.names.all (fun y=>decide (y.2≠.cell)&&(decide (y.2≠.free) || decide (sc.names.lookup y.1=some .cell))&&(decide (y.2≠.local) || (decide (scope.names.lookup y.1=some .local)&&decide (y.1∉N))))&&decide (scope.kind=.function)&&xs.all (fun x=>decide (scope.names.lookup x=some .local))
theorem nP {X:Cx}{xs:List Str}{scope sc:Scope}{N:List Str}{L:Nat}(hN:X.N=N)(hsc:X.env.scope=sc)(hce:X.env.cells=cellsFrom L sc.names [])(h:sP xs scope N sc=true):∃cl,rV X xs scope cl:=by
 subst hN hsc;unfold sP at h;rw[Bool.and_eq_true,Bool.and_eq_true,List.all_eq_true] at h;obtain⟨⟨h1,h2⟩,h3⟩:=h
 have get:∀y∈scope.names,y.2≠.cell/\(y.2=.free->X.env.scope.names.lookup y.1=some .cell)/\(y.2=.local->scope.names.lookup y.1=some .local/\y.1∉X.N):=fun y hy=>by
  have q:=h1 y hy;rw[Bool.and_eq_true,Bool.and_eq_true,Bool.or_eq_true,Bool.or_eq_true,Bool.and_eq_true] at q;obtain⟨⟨q1,q2⟩,q3⟩:=q;refine⟨of_decide_eq_true q1,fun e=>?_,fun e=>?_⟩
  .rcases q2 with q2 | q2
   .exact absurd e (of_decide_eq_true q2)
   .exact of_decide_eq_true q2
  .rcases q3 with q3 | ⟨q3,q4⟩
   .exact absurd e (of_decide_eq_true q3)
   .exact ⟨of_decide_eq_true q3,of_decide_eq_true q4⟩
 obtain⟨cl,e,k1,k2,_⟩:=wB (env:=X.env) scope.names [] (fun y hy hf=>by rw[hce]; exact aP ((get y hy).2.1 hf)) (fun y c z=>by simp at z);refine⟨cl,⟨?_,fun y hy=>(get y hy).1,of_decide_eq_true h2,fun y hy q=>((get y hy).2.2 q).1,fun x hx=>of_decide_eq_true (List.all_eq_true.1 h3 x hx),fun y hy q=>((get y hy).2.2 q).2,fun y hy q=>⟨?_,.inl ((get y hy).2.1 q),k2 y hy q⟩,k1⟩⟩
 .unfold closureFor
  have e':=congrArg (fun m:Sem (List (Str×Addr))=>m >>= fun cs=>(pure cs:Sem (List (Str×Addr)))) e
  simp only[pure_bind] at e'
  exact e'
 .show X.env.scope.names.lookup y.1≠some .local
  rw[(get y hy).2.1 q]
  decide
theorem jP {X:Cx}{elt iter:Expr}{x:Str}{px pos:Pos}{ifs:List Expr}{scope:Scope}{wi:TI}{tc:TT}{te:TE}
  (hc:X.calm=true) (hN:(x::X.N).Nodup) (K:∃cl,qU X x scope cl) (hi:JI X (.Name x px) iter wi)
  (ht:∀cl fp C s₂ H₂,JF (yJ X x scope cl fp C s₂ H₂) ifs tc) (he:∀cl fp C s₂ H₂,JE (yJ X x scope cl fp C s₂ H₂) elt te)
  (hs:∀v,foldedSetIterable iter X.env v=pure v:=by intro _; rfl):JE X (.ListComp elt [⟨.Name x px,iter,ifs,0⟩] scope pos) (sS wi tc te) :=
 let ⟨cl,K⟩:=K
 je_comp hc hN K hi (ht cl) (he cl) hs
section
variable {X:Cx}{o e:Expr}{es:List Expr}{to:TE}{t:TA}{name:Str}{apos cpos:Pos}{T id:String}{r:V->List V->Hp->VK->Prop}
theorem wI (pa:PlainAttrs T)(slot:Slot T name id)(hty:typeOf (.builtin id)=pure (.type "method_descriptor"))(hm:MtR X id r)(ho:JE X o to)
  (hbase:attributeBase o name X.env (eval o X.env)=eval o X.env:=by rfl) (hline:(apos.endLine==cpos.line)=true:=by rfl):JE X (.Call (.Attribute o name apos) [] [] cpos) (tBM0 X.K T r to):=⟨pe_bm0 pa slot hty hm ho.h hbase hline⟩
theorem je_bm (pa:PlainAttrs T)(slot:Slot T name id)(hty:typeOf (.builtin id)=pure (.type "method_descriptor"))(hm:MtR X id r)(ho:JE X o to)(ha:JA X (e::es) t)
  (hbase:attributeBase o name X.env (eval o X.env)=eval o X.env:=by rfl)
  (hfew:((backTo cpos (starEach (e::es) X.env)).all (fun x=>!x.1)&&(backToKw cpos (keywordEach [] X.env)).all (fun x=>x.1.isSome)
   && decide ((e::es).length+([]:List Keyword).length+(if ([]:List Keyword).isEmpty then 0 else 1) < 30))=true:=by rfl)
  (hline:(apos.endLine==cpos.line)=true:=by rfl) (hs:nQ e=true:=by rfl) (hall:es.all nQ=true:=by rfl) :
  JE X (.Call (.Attribute o name apos) (e::es) [] cpos) (tBM X.K T r to t):=⟨pe_bm pa slot hty hm ho.h ha.h hbase hfew hline (xJ hs) (wG hall)⟩
end
section
variable {X:Cx}{pos:Pos}
theorem QM {o i:Expr}{td ty:TE}(hu:X.A.units+1 < cLine)(ho:JE X o td)(hi:JE X i ty)(hs:Qm i):JE X (.Subscript o i pos) (tDGet td ty):=⟨pe_dget hu ho.h hi.h hs⟩
theorem m2_of {o e f:Expr}{m:Str}{apos cpos:Pos}(hb:attributeBase o m X.env (eval o X.env)=eval o X.env)(hl:(apos.endLine==cpos.line)=true)(he:nQ e=true)(hf:nQ f=true):M2 X o m apos e f cpos:=by
 have e1:starEach [e,f] X.env=[(false,eval e X.env),(false,eval f X.env)]:=by
  rw[xJ he,xJ hf]
  rfl
 refine⟨hb,?_,hl,?_⟩
 .rw [e1]; rfl
 .rw [e1]; rfl
theorem pO {o e f:Expr}{td ty tx:TE}{apos cpos:Pos}(hu:X.A.units+1 < cLine)(ho:JE X o td)(he:JE X e ty)(hf:JE X f tx)(hb:attributeBase o "get" X.env (eval o X.env)=eval o X.env:=by rfl)(hl:(apos.endLine==cpos.line)=true:=by rfl)
  (h1:nQ e=true:=by rfl) (h2:nQ f=true:=by rfl):JE X (.Call (.Attribute o "get" apos) [e,f] [] cpos) (ZF td ty tx):=⟨Je hu ho.h he.h hf.h (m2_of hb hl h1 h2)⟩
end
section
variable {X:Cx}{o i value:Expr}{td ty tv:TE}{pos pos':Pos}
theorem QK (hu:X.A.units+1 < cLine)(ho:JE X o td)(hi:JE X i ty)(hv:JE X value tv)(hs:swapsWith value (some (.Subscript o i pos')) pos.line X.env=pure false:=by rfl):
  JS X (.Assign [.Subscript o i pos'] value pos) (sDPut td ty tv):=⟨ps_dput hu ho.h hi.h hv.h hs⟩
end
section
variable {X:Cx}
def rCatTA (K:PySem.W.Frag):R2:=fun x y H Q=>∃a b xs ys,x=.ref a/\y=.ref b/\SqT K H a xs/\SqT K H b ys/\xs.length+ys.length<=sizeLine /\
 (xs=[]->Q (.ref b) H)/\(xs≠[]->ys=[]->Q (.ref a) H)/\(xs≠[]->ys≠[]->∀p,H p=none->Q (.ref p) (upd H p (.tup (xs++ys))))
theorem Jj:OpR X (binaryOp .Add) (rCatTA X.K):=by
 intro pins s σ H x y v u Q I rx ry h;obtain⟨a,b,xs,ys,rfl,rfl,ha,hb,hz,q0,q1,q2⟩:=h
 by_cases hx:xs=[]
 .cases rx
  cases ry;obtain⟨its,r1,p1,_⟩:=I.tuple ha;obtain⟨its2,r2,p2,_⟩:=I.tuple hb;have e:=r1.nil_iff.mpr hx;subst e;obtain⟨⟨cls,dd,data,sl⟩,ho,hc,n,hd⟩:=id p1;obtain⟨⟨cls2,dd2,data2,sl2⟩,ho2,hc2,n2,hd2⟩:=id p2
  simp only at hc hd hc2 hd2
  subst hc hd hc2 hd2
  exact concat_meets ⟨_,ho,rfl⟩ ⟨_,ho2,rfl⟩ noFill_tuple_add seq_tuple_add PySem.F.slot_tuple_add PySem.F.entry_tuple_add (PySem.F.args_tuple_add_2 _ _)
   (tuple_addW0 a b _ its2.toArray n n2 dd dd2 sl sl2 rfl) ⟨ho,ho2,⟨.ref b,H,I,rfl,q0 hx⟩⟩
 .exact op_catT pins s σ H (.ref a) (.ref b) v u Q I rx ry ⟨a,b,xs,ys,rfl,rfl,ha,hb,hx,hz,q1 hx,q2 hx⟩
end
abbrev Cx.at_ (X:Cx)(k:Nat):Cx:={ X with N:=X.N.set k "?" }
def NoAt (k:Nat)(σ:St):Prop:=∀v,σ[k]?≠some (some v)
section
variable {X:Cx}{pins:List (Addr×Obj)}{σ:St}{H:Hp}{s:Shared}{k:Nat}{e:Expr}{te:TE}{st:Stmt}{t:TS}
theorem ok_at (ok:X.Ok):(X.at_ k).Ok:=by
 obtain⟨h1,h2,h3,h4,h5,h6,h7,h8,h9,h10,h11,h12,h13,h14,h15,h16,h17,h18⟩:=ok;exact⟨h1,h2,h3,h4,h5,h6,h7,h8,h9,h10,h11,h12,h13,h14,h15,h16,h17,h18⟩
theorem Jo (ok:(X.at_ k).Ok):X.Ok:=by
 obtain⟨h1,h2,h3,h4,h5,h6,h7,h8,h9,h10,h11,h12,h13,h14,h15,h16,h17,h18⟩:=ok;exact⟨h1,h2,h3,h4,h5,h6,h7,h8,h9,h10,h11,h12,h13,h14,h15,h16,h17,h18⟩
theorem inv_at (n:NoAt k σ)(I:Inv X pins σ H s):Inv (X.at_ k) pins σ H s:=by
 obtain⟨m,hm,hl⟩:=I.loc;refine⟨ok_at I.ok,I.os,I.bare,I.base,⟨m,hm,fun i x v e1 e2 e3=>?_⟩,I.cell,I.free,I.freeC,I.pin,I.hok,?_⟩
 .by_cases hi:k=i
  .subst hi; exact absurd e2 (n v)
  .have e1:(X.N.set k "?")[i]?=some x:=e1
   rw[List.getElem?_set_ne hi] at e1;exact hl i x v e1 e2 e3
 .show σ.length=(X.N.set k "?").length
  rw[List.length_set];exact I.len
theorem X2 (n:NoAt k σ)(I:Inv (X.at_ k) pins σ H s):Inv X pins σ H s:=by
 obtain⟨m,hm,hl⟩:=I.loc;refine⟨Jo I.ok,I.os,I.bare,I.base,⟨m,hm,fun i x v e1 e2 e3=>?_⟩,I.cell,I.free,I.freeC,I.pin,I.hok,?_⟩
 .by_cases hi:k=i
  .subst hi; exact absurd e2 (n v)
  .refine hl i x v ?_ e2 e3
   show(X.N.set k "?")[i]?=some x;rw[List.getElem?_set_ne hi];exact e1
 .have:=I.len
  rw[this];show(X.N.set k "?").length=_;rw[List.length_set]
theorem je_drop (k:Nat)(he:JE (X.at_ k) e te):JE X e (fun σ H Q=>NoAt k σ/\te σ H Q) :=
 ⟨fun pins s σ H Q I h=>thn (he.h pins s σ H Q (inv_at h.1 I) h.2) fun v s1 ⟨x,H1,I1,r1,q1⟩=>⟨x,H1,X2 h.1 I1,r1,q1⟩⟩
theorem js_fg (k:Nat)(h:JS X st t):JS X st (fun D σ H=>t D (σ.set k none) H) :=
 ⟨fun pins s σ H D I q=>h.h pins s (σ.set k none) H D (I.weak (by rw[List.length_set]) fun i v e=>by
  by_cases hi:k=i
  .subst hi
   rw[List.getElem?_set_self'] at e
   cases hk:σ[k]? with
   |none=>rw[hk] at e; cases e
   |some x=>rw[hk] at e; cases e
  .rw [List.getElem?_set_ne hi] at e
   exact e) q⟩
end
section
variable {X:Cx}
theorem js_setC {i:Nat}{y x:Str}{py px pos spos:Pos}{elt iter:Expr}{ifs:List Expr}{scope:Scope}{cl:List (Str×Addr)}{wi:TI}{tc:TT}{te:TE}
  (hNd:X.N.Nodup) (hi:X.N[i]?=some y) (hy:Loc X.env.scope y) (hc:X.calm=true) (hN:(x::X.N).Nodup) (K:qU X x scope cl) (hI:JI X (.Name x px) iter wi)
  (ht:∀fp C s₂ H₂,JF (yJ X x scope cl fp C s₂ H₂) ifs tc) (he:∀fp C s₂ H₂,JE (yJ X x scope cl fp C s₂ H₂) elt te)
  (hs:∀v,foldedSetIterable iter X.env v=pure v:=by intro _; rfl)
  (hsw:swapsWith (.ListComp elt [⟨.Name x px,iter,ifs,0⟩] scope pos) (some (.Name y py)) spos.line X.env=pure true:=by rfl)
  (hf:X.fn y=true\/X.env.scope.names.lookup y=some .local:=by first | exact .inl rfl | exact .inr rfl | assumption) :
  JS X (.Assign [.Name y py] (.ListComp elt [⟨.Name x px,iter,ifs,0⟩] scope pos) spos) (ZJ (sS wi tc te) (vY i)):=by
 refine⟨fun pins s σ H D I h=>?_⟩;rw[exec_Assign_Name_used _ _ _ _ hsw];refine wpAny_bind (wpAny_standAt (wpAny_bind (wpAny_bind (wpAny_comprehension_free (use:=some (assign (.Name y py) X.env)) rfl hs K.clos K.kind K.names (thn (hI.h pins s σ H _ I h) fun xv s₁ h₁=>thn h₁ fun itv s₂ h₂=>?_)))));obtain⟨it,fp,tn,J,H₂,e,I₂,T,st₂,f₂,R⟩:=h₂;subst e;refine cG (g:=vY 0) (Tk:=fun x _ vs=>vs=[x]) (Q:=fun x H1=>vY i x σ H1 D.nx) hc K (fun _ _ _ _=>qM (i:=0) (x:=x) hN rfl (.inl (lookup_relabel_local (K.hx x (.head _)))) (.inr (lookup_relabel_local (K.hx x (.head _))))) (fun fp C s₂ H₂=>(ht fp C s₂ H₂).h) (fun fp C s₂ H₂=>(he fp C s₂ H₂).h) (by rintro ws vs y H Q l rfl _ q; match ws,l with | [_],_=>exact q) I₂ T st₂ f₂ (fun D hD=>let ⟨W,w0,tu⟩:=R D hD; ⟨W,w0,fun i m ys H w=>(tu i m ys H w).imp id fun⟨g,st⟩=>⟨g,fun x H' y=>⟨[x],rfl,rfl,st x H' y⟩⟩⟩) ?_
 intro D' C H' s4 m hn hCL hC0 hCc hCsz I4 q;refine wpAny_assign_Name (vN I4 hNd hi hy (v:=.ref D') rfl (fun s5 I5 hsb=>?_) hf);obtain⟨b,hsb,hb⟩:=hsb
 have hbC:C≠b:=by
  rcases hb with rfl | hb
  .exact hCL
  .exact fun z=>hCc _ _ hb z.symm
 refine⟨m,hn.at' fun o e=>(hsb.2 C hbC).trans e,fun h' hsb'=>wpAny_pure (wpAny_pure ?_)⟩;refine⟨_,H',?_,q⟩;refine I5.turned (it:=C) (t':=s5.toks) (fun b o hb e=>(hsb'.2 b hb).trans e) hC0 hCL (.inr (Nat.le_trans I₂.sz hCsz)) hCc fun p hp z=>?_;exact absurd (Nat.lt_of_lt_of_le (Heap.lt_size (I₂.pin p hp).1) (by rw[z]; exact hCsz)) (Nat.lt_irrefl _)
end
theorem sameNew {H:Hp}{p:Addr}(h:H p=none)(o:HO):Same H (upd H p o):=fun b u q=>by rw[cQ (aZ q h)]; exact q
section
variable {X:Cx}
def rCatU:R2:=fun x y H Q=>∃a b xs ys,x=.ref a/\y=.ref b/\H a=some (.tup xs)/\H b=some (.tup ys)/\xs.length+ys.length<=sizeLine/\∀r H',Same H H'->H' r=some (.tup (xs++ys))->(H r=none\/r=a\/r=b)->Q (.ref r) H'
theorem op_catU:OpR X (binaryOp .Add) rCatU:=by
 intro pins s σ H x y v u Q I rx ry h;obtain⟨a,b,xs,ys,e1,e2,ha,hb,hz,q⟩:=h;refine Jj pins s σ H x y v u Q I rx ry ⟨a,b,xs,ys,e1,e2,SqT.of ha,SqT.of hb,hz,fun h=>q b H (Same.refl H) (by rw[h]; exact hb) (.inr (.inr rfl)),fun _ h=>q a H (Same.refl H) (by rw[h,List.append_nil]; exact ha) (.inr (.inl rfl)),fun _ _ p hp=>q p _ (sameNew hp _) gQ (.inl hp)⟩
end
end L2
namespace PySem
open PySem.Spec PyProof.Rows PyProof.Rows.F
theorem eN:entryFor table "dict.update.loop" = some Builtin.«dict.update.loop»:=entryFor_of_tree (by kernel_rfl)
theorem jU:plainId "dict.update.loop" = true:=by decide +kernel
section
variable {prog:Program}{w:World}{κ:Type}[DecidableEq κ]{knd:KeyKind prog w κ}{A:Around}{d it t:Addr}{items:Array Value}{ps:List (κ×Value)}{res:Value}
theorem iV {h h':Heap}{p:Addr}{xs:Array Value}(x:h.IsTuple p xs)(e:∀o,h.get? p=some o->h'.get? p=some o):h'.IsTuple p xs:=let ⟨o,q,r⟩:=x; ⟨o,e o q,r⟩
theorem yI {h h':Heap}{p:Addr}{i:Nat}(x:h.IsTupleIter it p i)(e:∀o,h.get? it=some o->h'.get? it=some o):h'.IsTupleIter it p i:=let ⟨o,q,r⟩:=x; ⟨o,e o q,r⟩
theorem yF {h h':Heap}{kvs:List (κ×Value)}(x:h.DictOf knd d kvs)(e:∀o,h.get? d=some o->h'.get? d=some o):h'.DictOf knd d kvs:=let ⟨o,es,ep,q,r⟩:=x; ⟨o,es,ep,e o q,r⟩
theorem cT {R:Result->Shared->Prop}(calm:A.in1.handled=none)(ndi:d≠it)(ndt:d≠t)(nti:t≠it)(stop:items[ps.length]?=none):∀(r i:Nat) (s:Shared) (acc:List (κ×Value)),i+r=ps.length ->
   s.heap.IsTupleIter it t i->s.heap.IsTuple t items->s.heap.DictOf knd d acc->acc.length+r<=sizeLine ->
   (∀j (h:j < ps.length),∃p kv,items[j]?=some (.ref p)/\p≠d/\p≠it/\s.heap.IsTuple p #[kv,ps[j].2]/\knd.is ps[j].1 kv=true) ->
   (∀(h:Heap) (tk:Nat),(∀b o,b≠d->b≠it->s.heap.get? b=some o->h.get? b=some o)->h.DictOf knd d (merged acc (ps.drop i))->R (.ok (.ret res)) { s with heap:=h,toks:=tk }) ->
   codeAny (model prog w) A (.builtin "dict.update.loop" ⟨[.ref d,.ref it,rawInt i,res],[]⟩) R s:=by
 intro r
 induction r with
 |zero =>
  intro i s acc e iti tt dd hz key fin;have ei:i=ps.length:=by omega
  subst ei;rw[List.drop_length] at fin;refine codeAny_builtin eN ?_;rw[Around.under_plainId jU _];exact wpAny_bind (wpAny_pyNext_tuple_end calm iti tt stop fun h x=>wpAny_bind (wpAny_pure (wpAny_pure (fin h s.toks (fun b o _ nb q=>x b o nb q) (yF dd fun o q=>x d o ndi q)))))
 |succ r ih =>
  intro i s acc e iti tt dd hz key fin;have hi:i < ps.length:=by omega
  obtain⟨p,kv,hp,npd,npi,tp,kk⟩:=key i hi;refine codeAny_builtin eN ?_;rw[Around.under_plainId jU _];refine wpAny_bind (wpAny_pyNext_tuple_item iti tt hp fun h1 it1 b1=>?_);have dd1:=yF dd fun o q=>b1.extBut d o ndi q;have tp1:=iV tp fun o q=>b1.extBut p o npi q;refine wpAny_bind (m:=holding [.ref p] _) (wpAny_holding ?_);refine wpAny_bind (wpAny_tryCatch ?_);unfold Builtin.Dict.pairItems;refine wpAny_bind (wpAny_typeOf tp1.typeIs ?_)
  rw[if_pos (by decide)];obtain⟨op,e1,e2,n,e3⟩:=id tp1;refine wpAny_bind (wpAny_seqItems e1 e3 (wpAny_pure ?_));show wpAny _ _ (holding [kv,ps[i].2] (dictSet d kv ps[i].2)) _ _ _;refine wpAny_holding (wpAny_dictSet_pairs kk dd1 (fun h2 dd2 b2=>?_) (by omega))
  have em:merged acc (ps.drop i)=merged (stored acc ps[i].1 ps[i].2) (ps.drop (i+1)):=by
   rw[List.drop_eq_getElem_cons hi]; rfl
  refine wpAny_pure ⟨plainId_quiet jU _,?_⟩;have ek:rawInt ((i:Int)+1)=rawInt ((i+1:Nat):Int):=by rw[Int.natCast_add]; rfl
  rw[ek];refine ih (i+1) _ (stored acc ps[i].1 ps[i].2) (by omega) (yI it1 fun o q=>(b2.2 it (Ne.symm ndi)).trans q) (iV (iV tt fun o q=>b1.extBut t o nti q) fun o q=>(b2.2 t (Ne.symm ndt)).trans q) dd2 ?_ (fun j hj=>?_) fun h tk keep dd3=>?_
  .have:=stored_length_le acc ps[i].1 ps[i].2
   omega
  .obtain ⟨p',kv',a1,a2,a3,a4,a5⟩:=key j hj
   exact⟨p',kv',a1,a2,a3,iV (iV a4 fun o q=>b1.extBut p' o a3 q) fun o q=>(b2.2 p' a2).trans q,a5⟩
  .rw [<- em] at dd3
   exact fin h tk (fun b o n1 n2 q=>keep b o n1 n2 ((b2.2 b n1).trans (b1.extBut b o n2 q))) dd3
end
theorem gH:typeLookup (.type "tuple") "keys" = pure none:=by rw[typeLookup_type,builtinLookup_eq_fast]; kernel_rfl
theorem fH {prog:Program}{w:World}{A:Around}{E:Value->Shared->Prop}{s:Shared}{a:Addr}{o:Obj}{xs:Array Value}{k:Nat}{Q:Option Value->Shared->Prop}
  (hx:s.heap.get? a=some o) (hc:o.cls=.type "tuple") (hdat:o.data=.seq xs k) (hd:o.dict=none) (hA:A.handled=none)
  (h:∀(h':Heap) (tk:Nat),(∀b u,s.heap.get? b=some u->h'.get? b=some u)->Q none { s with heap:=h',toks:=tk }):wpAny (model prog w) A (getAttr? (.ref a) "keys") Q E s:=by
 obtain⟨c,dct,dat,sl⟩:=o
 simp only at hc hdat hd
 subst hc hdat hd;obtain⟨hp,g,d,tk,os⟩:=s;have hT:∀tk',(⟨hp,g,d,tk',os⟩:Shared).TypeIs (.ref a) "tuple":=fun _=>⟨_,hx,rfl⟩;have f1:=sub_AttributeError;have f3:=F.slot_tuple_getattribute.lookup;have f4:=F.slot_tuple_getattribute.bind (.ref a);have f5:=am_tuple_getattr_none;unfold getAttr? getAttrBy? getAttrBy
 repeat (any_goals (first | assumption | exact hT _ | ((with_reducible show wpAny _ _ (call (Value.builtin "tuple.__getattribute__") _ _) _ _ _); refine call_meets F.slot_tuple_getattribute (hT _) am_entry_tuple_getattribute (F.args_tuple_getattribute_2 _ _) (meets_getattribute_miss_tuple a xs k sl "keys" _ gH (by decide) (by decide)) ⟨hx,hA,fun h' tk' e hx'=>?_⟩) | wp_step))
 obtain⟨t',u',he⟩:=hx'.there;show wpAny _ _ (getattributeRaised _ _ _ _ _ _ _) _ _ _;unfold getattributeRaised
 repeat (any_goals (first | assumption | wp_step))
 exact h h' tk' hx'.of.keeps
section
variable {prog:Program}{w:World}{κ:Type}[DecidableEq κ]{knd:KeyKind prog w κ}{A:Around}{E:Value->Shared->Prop}{s:Shared}{d t:Addr}{items:Array Value}{ps acc:List (κ×Value)}{res:Value}
theorem gP {id:String}{A₀:Around}{R:Result->Shared->Prop}{o:Obj}{n:Nat}(calm:A.handled=none)(calm0:A₀.in1.handled=none)(ndt:d≠t)(ho:s.heap.get? t=some o)(hc:o.cls=.type "tuple")(hdat:o.data=.seq items n)(hno:o.dict=none)(dd:s.heap.DictOf knd d acc)
  (hz:acc.length+ps.length<=sizeLine) (stop:items[ps.length]?=none) (key:∀j (h:j < ps.length),∃p kv,items[j]?=some (.ref p)/\p≠d/\s.heap.IsTuple p #[kv,ps[j].2]/\knd.is ps[j].1 kv=true)
  (fin:∀(h:Heap) (tk:Nat),(∀b o,b≠d->s.heap.get? b=some o->h.get? b=some o)->h.DictOf knd d (merged acc ps)->R (.ok (.ret res)) { s with heap:=h,toks:=tk }) :
  wpAny (model prog w) A (Builtin.Dict.updateFrom id d (.ref t) [] res) (fun fin s'=>match fin with | .done f=>R (.ok f) s' | .again c'=>c'.quiet=true/\codeAny (model prog w) A₀ c' R s') E s:=by
 have tt:s.heap.IsTuple t items:=⟨o,ho,hc,n,hdat⟩;unfold Builtin.Dict.updateFrom;refine wpAny_bind (wpAny_typeOf tt.typeIs ?_);rw[if_pos (by decide)];refine wpAny_bind (fH ho hc hdat hno calm fun h1 tk1 k1=>?_);rw[if_pos (show(none:Option Value).isNone=true from rfl)];refine wpAny_bind (wpAny_rule ?_);have tt1:h1.IsTuple t items:=iV tt fun o q=>k1 t o q;refine wpAny_bind (wpAny_pyIter_tuple tt1 ?_)
 have hd1:d < h1.objs.size:=by
  obtain⟨od,es,ep,q,_⟩:=dd;exact Heap.lt_size (k1 d od q)
 have ht1:t < h1.objs.size:=Heap.lt_size (k1 t o ho);refine wpAny_pure ⟨plainId_quiet jU _,cT (knd:=knd) (ps:=ps) calm0 (Nat.ne_of_lt hd1) ndt (Nat.ne_of_lt ht1) stop ps.length 0 _ acc (Nat.zero_add _) ⟨_,Heap.get?_push_size _ rfl,rfl,rfl⟩ (tt1.push _) ?_ hz (fun j hj=>?_) fun h tk keep dd'=>?_⟩
 .exact yF dd fun o q=>Heap.get?_push_of_some _ (k1 d o q)
 .obtain ⟨p,kv,a1,a2,a3,a4⟩:=key j hj
  have hp:p < h1.objs.size:=by
   obtain⟨op,q,_⟩:=a3;exact Heap.lt_size (k1 p op q)
  exact⟨p,kv,a1,a2,Nat.ne_of_lt hp,iV a3 fun o q=>Heap.get?_push_of_some _ (k1 p o q),a4⟩
 .rw [List.drop_zero] at dd'
  exact fin h tk (fun b o nb q=>keep b o nb (Nat.ne_of_lt (Heap.lt_size (k1 b o q))) (Heap.get?_push_of_some _ (k1 b o q))) dd'
end
end PySem
namespace L2
open PySem PySem.Spec PyProof.Rows
abbrev fW (H:Hp):List Addr->List (Key×V)->Prop:=Paired fun a p=>H a=some (.tup [kV p.1,p.2])
theorem nM:∀{pa:List Addr}{its:List Value},Vals (pa.map V.ref) its->its=pa.map Value.ref
 |[],_,.nil=>rfl
 |_::_,_,.cons h r=>by
  cases (show _=Value.ref _ from h);rw[nM r]; rfl
theorem aU {P:Program}{w:World}{H:Hp}{h:Heap}(ok:HOk P w H h):∀{pa:List Addr}{ps:List (Key×V)},fW H pa ps->∃rs:List (Key×Value),KV ps rs/\pa.length=rs.length /\
  ∀j (hj:j < rs.length),∃p kv,pa[j]?=some p/\h.IsTuple p #[kv,rs[j].2]/\(oQ P w).is rs[j].1 kv=true
 |_,_,.nil=>⟨[],.nil,rfl,fun j hj=>absurd hj (Nat.not_lt_zero j)⟩
 |_,_,@Paired.cons _ _ _ a p l1 l2 e r=>by
  obtain⟨rs,q1,q2,q3⟩:=aU ok r;obtain⟨_,its,rv,tp⟩:=(show ObjOk P w H h a (.tup [kV p.1,p.2]) from ok a _ e)
  cases rv with
  |@cons _ ku _ its' rk rv =>
   cases rv with
   |@cons _ vu _ its'' rvv rv =>
    cases rv;refine⟨(p.1,vu)::rs,.cons ⟨rfl,rvv⟩ q1,by rw[List.length_cons,List.length_cons,q2],fun j hj=>?_⟩
    cases j with
    |zero=>exact⟨a,ku,rfl,tp.is,lN rk⟩
    |succ j=>exact q3 j (Nat.lt_of_succ_lt_succ hj)
section
variable {X:Cx}
theorem qH (hc:X.calm=true):CallR X (.type "dict") (fun xs H Q=>∃t pa ps,xs=[.ref t]/\H t=some (.tup (List.map V.ref pa))/\fW H pa ps/\ps.length<=sizeLine/\∀d,H d=none->Q (.ref d) (upd H d (.dK (iJ [] ps)))):=by
 intro pins s σ H xs us Q I r h;obtain⟨t,pa,ps,rfl,ht,hp,hz,q⟩:=h;obtain⟨u,rfl,ru⟩:=r.one;cases (show u=Value.ref t from ru);obtain⟨_,its,rv,o,h1,h2,⟨n,h3⟩,h4⟩:=(show ObjOk X.prog X.w H s.heap t (.tup _) from I.hok t _ ht);have ei:=nM rv;subst ei;obtain⟨rs,q1,q2,q3⟩:=aU I.hok hp;have hl:ps.length=rs.length:=KV.length q1;refine callType_codes (Q₁:=fun obj s₁=>obj=.ref s.heap.objs.size/\s₁={ s with heap:=s.heap.push { cls:=.type "dict",data:=.dict #[] } }) F.kt_called_dict (F.kt_typeCall_dict_1 _) F.entry_dict_init (kt_code_dict_new _ ⟨rfl,rfl⟩) ?_
 rintro obj s₁ ⟨rfl,rfl⟩;have hnew:(s.heap.push { cls:=.type "dict",data:=.dict #[] }).DictOf (oQ X.prog X.w) s.heap.objs.size []:=Heap.DictOf.new s.heap;refine⟨hnew.typeIs,F.args_dict_init_2 _ _,?_⟩;unfold Builtin.«dict.__init__»;refine wpAny_bind ?_;unfold Builtin.Dict.selfAndRest;refine wpAny_bind (wpAny_notOrdered_dict hnew.typeIs ?_);show wpAny _ _ (pure (s.heap.objs.size,[Value.ref t])) _ _ _
 refine wpAny_pure ?_;show wpAny _ _ (Builtin.Dict.updateFrom "dict.__init__" s.heap.objs.size (.ref t) [] .none) _ _ _;have calm:=I.ok.hd hc;refine gP (s:={ s with heap:=s.heap.push { cls:=.type "dict",data:=.dict #[] } }) (A₀:=X.A.in1) (knd:=oQ X.prog X.w) (ps:=rs) (acc:=[]) (by simp[calm]) (by simp[calm]) (Nat.ne_of_gt (Heap.lt_size h1)) (Heap.get?_push_of_some _ h1) h2 h3 h4 hnew ?_ ?_ (fun j hj=>?_) fun h' tk keep dd=>?_
 .rw [<- hl]; simpa using hz
 .rw [<- q2]; simp
 .obtain ⟨p,kv,e1,e2,e3⟩:=q3 j hj
  have hps:p < s.heap.objs.size:=by obtain⟨op,z,_⟩:=e2; exact Heap.lt_size z
  refine⟨p,kv,?_,Nat.ne_of_lt hps,e2.push _,e3⟩;rw[List.getElem?_toArray,List.getElem?_map,e1]; rfl
 .refine ⟨rfl,.ref s.heap.objs.size,_,I.laid (t':=tk) (o:=.dK (iJ [] ps)) (fun b ob e=>keep b ob (Nat.ne_of_lt (Heap.lt_size e)) (Heap.get?_push_of_some _ e)) (Nat.le_refl _) ?_,rfl,q _ (I.hok.fresh (Nat.le_refl _))⟩
  refine pR ?_ (beq_false_of_ne (Nat.ne_of_gt I.big)) (KV.merge q1 .nil) dd;have:=sK ps []
  simp at this
  omega
def rUpdP:V->List V->Hp->VK->Prop:=fun x vs H Q=>∃d t pa ps kvs,x=.ref d/\vs=[.ref t]/\H d=some (.dK kvs)/\H t=some (.tup (List.map V.ref pa))/\fW H pa ps/\kvs.length+ps.length<=sizeLine/\Q .non (upd H d (.dK (iJ kvs ps)))
theorem mt_updP (hc:X.calm=true):MtR X "dict.update" rUpdP:=by
 intro pins s σ H x xs v us Q I rx rv h;obtain⟨d,t,pa,ps,kvs,rfl,rfl,hd,ht,hp,hz,q⟩:=h;cases (show v=Value.ref d from rx);obtain⟨u,rfl,ru⟩:=rv.one;cases (show u=Value.ref t from ru);obtain⟨_,its,rv',o,h1,h2,⟨n,h3⟩,h4⟩:=(show ObjOk X.prog X.w H s.heap t (.tup _) from I.hok t _ ht);have ei:=nM rv';subst ei;obtain⟨rs,q1,q2,q3⟩:=aU I.hok hp;have hl:ps.length=rs.length:=KV.length q1;obtain⟨z,hS,vs,rel,dd⟩:=pP I.hok hd
 have hkl:kvs.length=vs.length:=rel.length;have hT:s.TypeIs (.ref d) "dict":=dd.typeIs;have calm:=I.ok.hd hc;have ndt:d≠t:=JC hd ht (fun z=>nomatch z);refine wpAny_call (codeAny_call_builtin F.slot_dict_update.plain F.entry_dict_update (F.slot_dict_update.check _ _ _ _ _ _ _ _ hT (F.args_dict_update_2 _ _) ?_));unfold Builtin.«dict.update»;refine wpAny_bind ?_;unfold Builtin.Dict.selfAndRest;refine wpAny_bind (wpAny_notOrdered_dict hT ?_)
 show wpAny _ _ (pure (d,[Value.ref t])) _ _ _;refine wpAny_pure ?_;show wpAny _ _ (Builtin.Dict.updateFrom "dict.update" d (.ref t) [] .none) _ _ _;refine gP (A:=X.A.in1) (A₀:=X.A) (R:=wants (EP X pins σ Q) X.xe) (knd:=oQ X.prog X.w) (ps:=rs) (acc:=vs) (by simp[calm]) (by simp[calm]) ndt h1 h2 h3 h4 dd (by omega) ?_ (fun j hj=>?_) fun h' tk keep dd'=>?_
 .rw [<- q2]; simp
 .obtain ⟨p,kv,e1,e2,e3⟩:=q3 j hj
  refine⟨p,kv,?_,?_,e2,e3⟩
  .rw [List.getElem?_toArray,List.getElem?_map,e1]; rfl
  .intro z
   subst z;obtain⟨op,y1,y2,_⟩:=e2;obtain⟨od,y3,y4⟩:=hT;rw[y1] at y3;cases y3;rw[y2] at y4;injection y4 with y4; exact absurd y4 (by decide)
 .have he:∃qq,h'.get? d=some qq:=let ⟨qq,_,_,hq,_⟩:=dd'; ⟨qq,hq⟩
  refine⟨.non,_,I.write (x:=d) (e:=d) (t':=tk) (o:=.dK (iJ kvs ps)) (by rw[hd]; exact True.intro) (.inl rfl) (fun b ob nb e=>keep b ob nb e) he ?_,rfl,q⟩;refine pR ?_ hS (KV.merge q1 rel) dd';have:=sK ps kvs;omega
end
end L2
namespace L2
open PySem PySem.W PyProof.Rows
def xB {α:Type}(n:Nat)(P:α->Prop):KasT α->Prop
 |.ret a=>P a
 |.ask i j k=>i < n/\j < n/\∀b,xB n P (k b)
def pG {α:Type}(lt:Nat->Nat->Bool):KasT α->α
 |.ret a=>a
 |.ask i j k=>pG lt (k (lt i j))
theorem oV {α β:Type}{n:Nat}{P:α->Prop}{R:β->Prop}{f:α->KasT β}:∀(t:KasT α),xB n P t->(∀a,P a->xB n R (f a))->xB n R (t.bind f)
 |.ret a,h,hf=>hf a h
 |.ask i j k,h,hf=>⟨h.1,h.2.1,fun b=>oV (k b) (h.2.2 b) hf⟩
theorem mO {α:Type}{n:Nat}{P:α->Prop}{lt:Nat->Nat->Bool}:∀(t:KasT α),xB n P t->P (pG lt t)
 |.ret a,h=>h
 |.ask i j k,h=>mO (k (lt i j)) (h.2.2 _)
theorem kWp {α:Type}{n:Nat}{P:α->Prop}{lt:Nat->Nat->Bool}{cmp:Nat->Nat->(Bool->Shared->Prop)->Shared->Prop}{J:Shared->Prop}(hc:∀i j C s,i < n->j < n->J s->(∀s',J s'->C (lt i j) s')->cmp i j C s):
  ∀(t:KasT α) {Q:α->Shared->Prop} {s:Shared},xB n P t->J s->(∀s',J s'->P (pG lt t)->Q (pG lt t) s')->t.kasWp cmp Q s
 |.ret a,Q,s,h,hj,hq=>hq s hj h
 |.ask i j k,Q,s,h,hj,hq=>hc i j _ s h.1 h.2.1 hj fun s' hj'=>kWp hc (k (lt i j)) (h.2.2 _) hj' hq
def Ord (n:Nat)(p:Array Nat):Prop:=p.toList.Perm (List.range n)
theorem Ord.lt {n:Nat}{p:Array Nat}(h:Ord n p)(h0:0 < n)(i:Nat):p.getD i 0 < n:=by
 by_cases hi:i < p.size
 .have e:p.getD i 0=p[i]:=by simp[Array.getD,hi]
  rw[e];have hm:p[i]∈p.toList:=by simp
  exact List.mem_range.mp (h.mem_iff.mp hm)
 .have e:p.getD i 0=0:=by simp[Array.getD,hi]
  rw[e];exact h0
theorem Ord.size {n:Nat}{p:Array Nat}(h:Ord n p):p.size=n:=by
 have:=h.length_eq;rw[List.length_range,Array.length_toList] at this;exact this
theorem Ord.rev {n:Nat}{p:Array Nat}(h:Ord n p)(i j:Nat):Ord n (kas_rev p i j):=(Array.Perm.toList (mirror_perm p i j _)).trans h
theorem Ord.bubble {n:Nat}{p:Array Nat}(h:Ord n p)(i j:Nat):Ord n (bubble p i j):=(Array.Perm.toList (bubble_perm p i j)).trans h
section
variable {n:Nat}(h0:0 < n)
include h0
theorem gS {p:Array Nat}(h:Ord n p):∀f m,xB n (fun _=>True) (kas_asc p f m)
 |0,m=>trivial
 |f+1,m=>⟨h.lt h0 _,h.lt h0 _,fun b=>by
  cases b with
  |true=>exact trivial
  |false=>exact gS h f (m+1)⟩
theorem wM:∀f (p:Array Nat) m q,Ord n p->xB n (fun r=>Ord n r.1) (kas_desc f p m q)
 |0,p,m,q,h=>h
 |f+1,p,m,q,h=>⟨h.lt h0 _,h.lt h0 _,fun b=>by
  cases b with
  |true =>
   show xB n _ (if q > 0 then _ else _)
   split
   .exact wM f _ _ _ (h.rev _ _)
   .exact wM f _ _ _ h
  |false =>
   refine⟨h.lt h0 _,h.lt h0 _,fun b=>?_⟩
   cases b with
   |true=>exact h
   |false=>exact wM f _ _ _ h⟩
theorem kN {p:Array Nat}(m r:Nat)(h:Ord n p):xB n (fun r=>Ord n r.2) (kas_tail3 m r p) :=
 oV _ (gS h0 (h.rev 0 m) _ _) fun _ _=>h.rev 0 m
theorem yM {p:Array Nat}(m r:Nat)(h:Ord n p):xB n (fun r=>Ord n r.2) (kas_descPart m r p) :=
 oV _ (wM h0 _ _ _ _ h) fun x hx=>by
  split
  .exact kN h0 _ _ (hx.rev _ _)
  .exact kN h0 _ _ hx
theorem Zb {p:Array Nat}(r:Nat)(h:Ord n p):xB n (fun r=>Ord n r.2) (kas_count r p) :=
 oV _ (gS h0 h _ _) fun x _=>by
  split
  .exact h
  .split
   .refine ⟨h.lt h0 _,h.lt h0 _,fun b=>?_⟩
    cases b with
    |true=>exact h
    |false=>exact yM h0 _ _ (h.rev _ _)
   .exact yM h0 _ _ h
theorem aM {p:Array Nat}(k:Nat)(h:Ord n p):∀f l r,xB n (fun _=>True) (kas_place p k f l r)
 |0,l,r=>trivial
 |f+1,l,r=>by
  unfold kas_place
  split
  .exact trivial
  .refine ⟨h.lt h0 _,h.lt h0 _,fun b=>?_⟩
   cases b with
   |true=>exact aM k h f _ _
   |false=>exact aM k h f _ _
theorem Xl:∀f (p:Array Nat) k,Ord n p->xB n (Ord n) (kas_bin f p k)
 |0,p,k,h=>h
 |f+1,p,k,h=>oV _ (aM h0 k h _ _ _) fun l _=>Xl f _ _ (h.bubble _ _)
theorem aS:xB n (Ord n) (kas_sort n) :=
 oV _ (Zb h0 n (show Ord n (List.toArray (List.range n)) from List.Perm.refl _)) fun r hr=>by
  split
  .exact Xl h0 _ _ _ hr
  .exact hr
end
def eJ (lt:Nat->Nat->Bool)(vs:List Value):List Value:=(pG lt (kas_sort vs.length)).toList.map fun i=>vs.getD i Value.none
def uG (lt:Nat->Nat->Bool)(ys:List V):List V:=(pG lt (kas_sort ys.length)).toList.map fun i=>ys.getD i .non
theorem run0 (lt:Nat->Nat->Bool):(pG lt (kas_sort 0)).toList=[]:=rfl
theorem aF {lt:Nat->Nat->Bool}{vs:List Value}(h:vs.length < 2):eJ lt vs=vs:=by
 match vs,h with
 |[],_=>rfl
 |[v],_=>rfl
theorem jY (lt:Nat->Nat->Bool)(n:Nat)(h:0 < n):Ord n (pG lt (kas_sort n)):=mO _ (aS h)
theorem iC (lt:Nat->Nat->Bool)(vs:List Value):(eJ lt vs).length=vs.length:=by
 by_cases h:vs.length < 2
 .rw [aF h]
 .unfold eJ
  rw[List.length_map,Array.length_toList,(jY lt vs.length (by omega)).size]
def oZ (h:Heap)(a:Addr)(vs:List Value):Heap:=((h.update a (Obj.mapSeq fun _=>(#[]:Array Value))).push (seqObj "tuple" vs.toArray 0)).push (seqObj "list" #[] 0)
theorem rA {h:Heap}{a:Addr}{vs us:List Value}{n:Nat}(e:h.get? a=some (seqObj "list" us.toArray n)):∃k,(h.update a (Obj.mapSeq fun _=>(#[]:Array Value))).get? a=some (seqObj "list" #[] k)/\(oZ h a vs).get? a=some (seqObj "list" #[] k) :=
 ⟨_,get?_update_seq e fun _=>#[],Heap.get?_push_of_some _ (Heap.get?_push_of_some _ (get?_update_seq e fun _=>#[]))⟩
theorem yO {h:Heap}{a b:Addr}{vs:List Value}{o:Obj}(e:h.get? b=some o)(n:b≠a):(oZ h a vs).get? b=some o :=
 Heap.get?_push_of_some _ (Heap.get?_push_of_some _ ((Heap.get?_update_ne _ _ _ _ n).trans e))
theorem oU {P':Program}{w:World}{A:Around}{E:Value->Shared->Prop}{s:Shared}{a:Addr}{vs:List Value}{n:Nat}{κ:SortKind}{lt:Nat->Nat->Bool}{R:PySem.Fin->Shared->Prop}(ea:s.heap.get? a=some (seqObj "list" vs.toArray n))(few:vs.length < 64)
  (hk:2<=vs.length->∀Q:SortKind->Shared->Prop,Q κ { s with heap:=oZ s.heap a vs }->wpAny (model P' w) A (keyKind' vs.toArray) Q (fun _ _=>False) { s with heap:=oZ s.heap a vs })
  (hc:∀i j,i < vs.length->j < vs.length->∀Q:Bool->Shared->Prop,Q (lt i j) { s with heap:=oZ s.heap a vs }->wpAny (model P' w) A (keyLt' κ (vs.getD i Value.none) (vs.getD j Value.none)) Q (fun _ _=>False) { s with heap:=oZ s.heap a vs })
  (done:R (.done (.ret .none)) { s with heap:=sortedHeap s.heap a vs (eJ lt vs).toArray }):wpAny (model P' w) A (Builtin.«list.sort» ⟨[.ref a],[]⟩) R E s:=by
 obtain⟨k0,e1,e2⟩:=rA (vs:=vs) ea;have zl:vs.length<=sizeLine:=by rw[sizeLine_eq]; omega
 have zo:(eJ lt vs).toArray.size<=sizeLine:=by rw[List.size_toArray,iC]; exact zl
 rw[list_sort_plain];refine wpAny_bind (listItems_at ea rfl (wpAny_bind (listUpdate_at ea rfl (wpAny_bind (seqEpoch_at e1 rfl (wpAny_bind (wpAny_newTuple (wpAny_bind (wpAny_newList (wpAny_holding ?_) (Nat.zero_le _))) zl)))) (by rw[List.size_toArray]; exact zl) (Nat.zero_le _))));show wpAny (model P' w) A _ R E { s with heap:=oZ s.heap a vs };dsimp only
 have rest:∀st':SortSt,(arrOf st').map (·.2)=(eJ lt vs).toArray->failedOf st'=none->wpAny (model P' w) A (do
   let after <- seqEpoch a
   Builtin.List.listUpdate (.ref a) fun _=>(arrOf st').map (·.2)
   if let some e:=failedOf st' then rule "list.sort.comparison-raised"; throw e
   if (after != k0)=true then rule "list.sort.modified"; raiseError "ValueError" "list modified during sort"
   ret .none) R E { s with heap:=oZ s.heap a vs }:=fun st' q1 q2=>by
  rw[q1,q2];refine wpAny_bind (seqEpoch_at e2 rfl (wpAny_bind (listUpdate_at e2 rfl ?_ (Nat.zero_le _) (Nat.le_succ_of_le zo))));rw[show(k0 != k0)=false by simp];exact wpAny_pure done
 have sz:vs.toArray.size=vs.length:=List.size_toArray
 by_cases h2:vs.length < 2
 .rw [sz,if_pos h2,if_pos h2]
  refine wpAny_bind (wpAny_pure (wpAny_bind (wpAny_pure (rest _ ?_ rfl))));rw[aF h2];show(vs.toArray.zip vs.toArray).map (·.2)=vs.toArray
  apply Array.toList_inj.mp
  simp
  exact List.map_snd_zip (Nat.le_refl _)
 .rw [sz,if_neg h2,if_neg h2]
  refine wpAny_bind (wpAny_mono (hk (by omega) (fun c s'=>c=κ/\s'={ s with heap:=oZ s.heap a vs }) ⟨rfl,rfl⟩) (fun c s0 hs=>?_) fun _ _ x=>x.elim);obtain⟨rfl,rfl⟩:=hs
  refine wpAny_bind (wpAny_mono (kat_run (Q:=fun st' s'=>s'={ s with heap:=oZ s.heap a vs }/\(arrOf st').map (·.2)=(eJ lt vs).toArray/\failedOf st'=none)
   (G:=fun p s'=>s'={ s with heap:=oZ s.heap a vs }/\p=pG lt (kas_sort vs.length)) rfl (by omega) few (fun p' st' s' a1 a2 a3 a4=>⟨a4.1,?_,a3⟩)
   (kWp (n:=vs.length) (P:=Ord vs.length) (lt:=lt) (J:=fun s'=>s'={ s with heap:=oZ s.heap a vs }) (fun i j C s' hi hj e hC=>?_) _ (aS (by omega)) rfl fun s' e _=>⟨e,rfl⟩)) ?_ fun _ _ e=>e)
  .rw [kat_snds rfl a2,a4.2]
   rfl
  .subst e
   exact hc i j hi hj _ (hC _ rfl)
  .rintro ⟨⟨⟩,st'⟩ s' ⟨rfl,q3,q4⟩
   exact rest st' q3 q4
def lY (h:Heap)(vs:List Value):Heap:=((h.push (seqObj "list" #[] 0)).update h.objs.size (Obj.mapSeq (· ++ vs.toArray))).push (seqObj "list" vs.toArray 0)
theorem oO (h:Heap)(vs:List Value):((h.push (seqObj "list" #[] 0)).update h.objs.size (Obj.mapSeq (· ++ vs.toArray))).objs.size=h.objs.size+1:=(Heap.size_update ..).trans (size_push' ..)
theorem mI (h:Heap)(vs:List Value):(lY h vs).get? (h.objs.size+1)=some (seqObj "list" vs.toArray 0):=by
 have q:=Heap.get?_push_size ((h.push (seqObj "list" #[] 0)).update h.objs.size (Obj.mapSeq (· ++ vs.toArray))) (o:=seqObj "list" vs.toArray 0) rfl;rw[oO] at q;exact q
theorem Ki {h:Heap}{vs:List Value}{b:Addr}{o:Obj}(e:h.get? b=some o):(lY h vs).get? b=some o :=
 Heap.get?_push_of_some _ ((Heap.get?_update_ne _ _ _ _ (Nat.ne_of_lt (Heap.lt_size e))).trans (Heap.get?_push_of_some _ e))
section
variable {X:Cx}
def Srt (X:Cx)(H:Hp)(ys:List V)(lt:Nat->Nat->Bool):Prop:=∀(pins:List (Addr×Obj)) (σ:St) (s:Shared) (its:List Value) (A:Around),A.units<=X.A.units+2->Inv X pins σ H s->Vals ys its ->
 ∃κ:SortKind,(2<=ys.length->∀Q:SortKind->Shared->Prop,Q κ s->wpAny (model X.prog X.w) A (keyKind' its.toArray) Q (fun _ _=>False) s) /\
  ∀i j,i < ys.length->j < ys.length->∀Q:Bool->Shared->Prop,Q (lt i j) s->wpAny (model X.prog X.w) A (keyLt' κ (its.getD i Value.none) (its.getD j Value.none)) Q (fun _ _=>False) s
theorem nW {ys:List V}{its:List Value}(r:Vals ys its)(i:Nat):RelV (ys.getD i .non) (its.getD i Value.none):=by
 induction r generalizing i with
 |nil=>exact rfl
 |cons a b ih =>
  cases i with
  |zero=>exact a
  |succ i=>exact ih i
theorem kL {ys:List V}{its:List Value}(r:Vals ys its):∀l:List Nat,Vals (l.map fun i=>ys.getD i .non) (l.map fun i=>its.getD i Value.none)
 |[]=>.nil
 |i::l=>.cons (nW r i) (kL r l)
theorem iF (lt:Nat->Nat->Bool)(ys:List V):(uG lt ys).length=ys.length:=by
 unfold uG;rw[List.length_map,Array.length_toList]
 by_cases h:0 < ys.length
 .exact (jY lt ys.length h).size
 .have e:ys.length=0:=by omega
  rw[e]
  rfl
theorem mE:CallR X (.builtin "sorted") (fun xs H Q=>∃l ys lt,xs=[.ref l]/\SqL X.K H l ys/\ys.length < 64/\Srt X H ys lt/\∀p,H p=none->Q (.ref p) (upd H p (.lst (uG lt ys)))):=by
 intro pins s σ H xs us Q I r h;obtain⟨l,ys,lt,rfl,hl,h64,hs,q⟩:=h;obtain⟨u,rfl,ru⟩:=r.one;cases ru;obtain⟨vs,rv,pl,_⟩:=I.list hl;have hlen:=rv.length;have h64':vs.length < 64:=by omega
 have zl:vs.length<=sizeLine:=by rw[sizeLine_eq]; omega
 have up:∀{b:Addr} {o:Obj},s.heap.get? b=some o->b≠s.heap.objs.size+1:=fun e=>Nat.ne_of_lt (Nat.lt_succ_of_lt (Heap.lt_size e));have k1:∀b o,s.heap.get? b=some o->(oZ (lY s.heap vs) (s.heap.objs.size+1) vs).get? b=some o:=fun b o e=>yO (Ki e) (up e);obtain⟨κ,hk,hc⟩:=hs pins σ _ vs X.A.in1.in1 (Nat.le_refl _) (I.kept (t':=s.toks) k1) rv;obtain⟨k0,_,e2⟩:=rA (vs:=vs) (mI s.heap vs);have e3:∃c,(sortedHeap (lY s.heap vs) (s.heap.objs.size+1) vs (eJ lt vs).toArray).get? (s.heap.objs.size+1)=some (seqObj "list" (eJ lt vs).toArray c):=⟨_,get?_update_seq e2 fun _=>(eJ lt vs).toArray⟩
 obtain⟨c,e3⟩:=e3;have k2:∀b o,s.heap.get? b=some o->(sortedHeap (lY s.heap vs) (s.heap.objs.size+1) vs (eJ lt vs).toArray).get? b=some o:=fun b o e=>(Heap.get?_update_ne _ _ _ _ (up e)).trans (k1 b o e);refine Calls.call_function_entry kind_sorted plain_sorted entry_sorted (args_sorted1 _) (?_:wpAny _ _ (Builtin.«sorted» _) _ _ _);unfold Builtin.«sorted»;refine wpAny_bind (m:=checkCount "sorted" 1 1 _) (wpAny_pure (wpAny_bind (collect_list pl.isList (wpAny_bind (wpAny_newList ?_ zl)) zl)))
 show wpAny _ _ _ _ _ { s with heap:=lY s.heap vs };rw[oO];refine wpAny_bind (wpAny_holding (wpAny_call_entry slot_list_sort ⟨_,mI s.heap vs,rfl⟩ entry_list_sort ?inner (args_list_sort _)));refine oU (s:={ s with heap:=lY s.heap vs }) (κ:=κ) (lt:=lt) (mI s.heap vs) h64' (fun h2 Q' hq=>hk (by omega) Q' hq) (fun i j hi hj Q' hq=>hc i j (by omega) (by omega) Q' hq) ⟨_,rfl,wpAny_pure ⟨_,rfl,?_⟩⟩;refine⟨.ref (s.heap.objs.size+1),_,I.laid (t':=s.toks) (o:=.lst (uG lt ys)) k2 (Nat.le_succ _) ?_,rfl,q _ (I.hok.fresh (Nat.le_succ _))⟩
 refine⟨by rw[iF,sizeLine_eq]; omega,eJ lt vs,c,?_,e3⟩;unfold uG eJ;rw[hlen];exact kL rv _
end
end L2
namespace HT
open PySem PyProof.Rows
inductive TxtsAre:List Value->List Str->Prop
 |nil:TxtsAre [] []
 |cons (z:Str) (t:Tok) {vs:List Value} {zs:List Str}:TxtsAre vs zs->TxtsAre (.str z t::vs) (z::zs)
theorem TxtsAre.length {vs:List Value}{zs:List Str}(h:TxtsAre vs zs):vs.length=zs.length:=by
 induction h with
 |nil=>rfl
 |cons z t h ih=>rw[List.length_cons,List.length_cons,ih]
def lexS:List Str->List Str->Bool
 |[],[]=>false
 |[],_::_=>true
 |_::_,[]=>false
 |x::xs,y::ys=>if x=y then lexS xs ys else decide (x.cps.toList < y.cps.toList)
theorem XW (x y:Str)(xs ys:List Str):lexS (x::xs) (y::ys)=if x=y then lexS xs ys else decide (x.cps.toList < y.cps.toList):=rfl
section
open PySem.SeqAt
open PySem.AutoSeq1 (wpAny_loadPart')
open PySem.MeetsSeq PySem.MeetsSeq2 PySem.MeetsSeq3
theorem bH (l b:Addr)(items items2:Array Value)(n n2:Nat)(dd dd2:Option Addr)(sl sl2:Array (Option Value))(ns ms:List Str)(hi:TxtsAre items.toList ns)(hj:TxtsAre items2.toList ms):
  Meets (Builtin.«tuple.__lt__» ⟨[.ref l,.ref b],[]⟩)
   (fun _ R s=>s.heap.get? l=some { cls:=.type "tuple",dict:=dd,data:=.seq items n,slots:=sl }/\s.heap.get? b=some { cls:=.type "tuple",dict:=dd2,data:=.seq items2 n2,slots:=sl2 } /\
    R (.ok (.ret (.bool (lexS ns ms)))) s) :=
 .of_wp fun prog w A R s hh=>by
  obtain⟨hp,g,d,tk,os⟩:=s;obtain⟨hl,hb,h⟩:=hh;have sub:=AutoSeq1.sub_tuple_tuple;have z1:items.size=ns.length:=by rw[<- hi.length]; simp
  have z2:items2.size=ms.length:=by rw[<- hj.length]; simp
  wp_walk using wpAny_loadPart' hl,wpAny_loadPart' hb,wpAny_forIn_list _ (fun rest b s'=>b.1=none/\s'=⟨hp,g,d,tk,os⟩/\∃(vs ws:List Value) (ns' ms':List Str),rest=vs.zip ws /\
   TxtsAre vs ns'/\TxtsAre ws ms'/\ns'.length+items2.size=ms'.length+items.size/\R (.ok (.ret (.bool (lexS ns' ms')))) ⟨hp,g,d,tk,os⟩) _
  case turn =>
   rintro⟨y,x⟩ rest b s' ⟨hb',rfl,vs,ws,ns',ms',hz,hvi,hwi,hlen,hR⟩
   cases hvi with
   |nil=>rw[List.zip_nil_left] at hz; cases hz
   |cons a t hvi' =>
    cases hwi with
    |nil=>rw[List.zip_nil_right] at hz; cases hz
    |cons c u hwi' =>
     rw[List.zip_cons_cons] at hz;injection hz with hyx hrest
     injection hyx with hy hx
     subst hy hx;rw[XW] at hR
     simp only[List.length_cons] at hlen
     have he:∀(E:Value->Shared->Prop) (Q:Bool->Shared->Prop),Q (decide (a=c)) ⟨hp,g,d,tk,os⟩->wpAny (model prog w) A.in1 (eqBool (.str a t) (.str c u)) Q E ⟨hp,g,d,tk,os⟩:=fun E Q hq=>wpAny_eqBool_str hq;refine wpAny_bind (he _ _ ?_)
     by_cases hac:a=c
     .rw [decide_eq_true hac]
      rw[if_pos hac] at hR
      wp_walk
      exact⟨rfl,rfl,_,_,_,_,hrest,hvi',hwi',by omega,hR⟩
     .rw [decide_eq_false hac]
      rw[if_neg hac] at hR
      have hri:∀(E:Value->Shared->Prop) (Q:Value->Shared->Prop),Q (.bool (decide (a.cps.toList < c.cps.toList))) ⟨hp,g,d,tk,os⟩->wpAny (model prog w) A.in1 (richCompare .Lt (.str a t) (.str c u)) Q E ⟨hp,g,d,tk,os⟩ :=
       fun E Q hq=>(PyProof.Rows.lt_str hq:wpAny (model prog w) A.in1 (compareOp .Lt (.str a t) (.str c u)) Q E ⟨hp,g,d,tk,os⟩)
      wp_walk using hri
      exact⟨_,rfl,(by simpa using hR)⟩
  case fin =>
   rintro⟨b1,b2⟩ s' ⟨hb',rfl,vs,ws,ns',ms',hz,hvi,hwi,hlen,hR⟩
   simp only at hb'
   subst hb'
   have hv:lexS ns' ms'=decide (items.size < items2.size):=by
    cases hvi with
    |nil =>
     cases hwi with
     |nil =>
      simp only[List.length_nil] at hlen
      exact(decide_eq_false (by omega)).symm
     |cons c u hw =>
      simp only[List.length_nil,List.length_cons] at hlen
      exact(decide_eq_true (by omega)).symm
    |cons a t hv =>
     cases hwi with
     |nil =>
      simp only[List.length_nil,List.length_cons] at hlen
      exact(decide_eq_false (by omega)).symm
     |cons c u hw =>
      rw[List.zip_cons_cons] at hz;cases hz
   rw[hv] at hR
   wp_walk
   exact⟨_,rfl,(by simpa [Builtin.Tuple.tupleCompareSizes] using hR)⟩
  case h =>
   exact⟨rfl,rfl,items.toList,items2.toList,ns,ms,rfl,hi,hj,by omega,h⟩
end
section
theorem lt_tupStrs {prog:Program}{w:World}{A:Around}{E:Value->Shared->Prop}{s:Shared}{l b:Addr}{items items2:Array Value}{ns ms:List Str}{Q:Value->Shared->Prop}(hl:IsTup s.heap l items)(hb:IsTup s.heap b items2)(hi:TxtsAre items.toList ns)(hj:TxtsAre items2.toList ms)
  (hu:A.units < cLine) (h:Q (.bool (lexS ns ms)) s):wpAny (model prog w) A (compareOp .Lt (.ref l) (.ref b)) Q E s:=by
 obtain⟨⟨c1,dd,d1,sl⟩,ho,q1,n,q2⟩:=hl;obtain⟨⟨c2,dd2,d2,sl2⟩,ho2,q3,n2,q4⟩:=hb
 simp only at q1 q2 q3 q4
 subst q1 q2 q3 q4
 exact richCompare_meets_room (op:=.Lt) ⟨_,ho,rfl⟩ ⟨_,ho2,rfl⟩ PySem.F.slot_tuple_lt PySem.F.entry_tuple_lt (PySem.F.args_tuple_lt_2 _ _) (bH l b items items2 n n2 dd dd2 sl sl2 ns ms hi hj)
  ⟨ho,ho2,show Value.bool (lexS ns ms)≠Value.notImplemented/\Q (.bool (lexS ns ms)) s from⟨(fun x=>nomatch x),h⟩⟩ hu
end
end HT
namespace L2
open PySem PySem.W PyProof.Rows
theorem Qs {zs:List Str}{its:List Value}(r:Vals (zs.map V.str) its):HT.TxtsAre its zs:=by
 induction zs generalizing its with
 |nil=>cases r; exact .nil
 |cons z zs ih =>
  rw[List.map_cons] at r
  cases r with
  |cons a b =>
   obtain⟨t,rfl⟩:=a;exact .cons z t (ih b)
def ltP (x y:List Str×Int):Bool:=if x.1=y.1 then decide (x.2 < y.2) else HT.lexS x.1 y.1
def wH (H:Hp)(v:V)(c:List Str×Int):Prop:=∃a kb,v=.ref a/\H a=some (.tup [.ref kb,.int c.2])/\H kb=some (.tup (c.1.map V.str))
theorem kI (k:List Str):(k.map (Sum.inr:Str->Key)).map kV=k.map V.str:=by
 rw[List.map_map]
 rfl
theorem QJ {k k':List Str}:(k.map (Sum.inr:Str->Key)=k'.map Sum.inr)↔k=k':=by
 constructor
 .intro h
  induction k generalizing k' with
  |nil=>cases k' with
   |nil=>rfl
   |cons _ _=>cases h
  |cons x k ih=>cases k' with
   |nil=>cases h
   |cons y k' =>
    rw[List.map_cons,List.map_cons] at h;injection h with h1 h2
    rw[ih h2,Sum.inr.inj h1]
 .rintro rfl; rfl
theorem eL {X:Cx}{pins:List (Addr×Obj)}{σ:St}{H:Hp}{s:Shared}{v:V}{u:Value}{c:List Str×Int}(I:Inv X pins σ H s)(h:wH H v c)(r:RelV v u):
  ∃a kb o n t,u=.ref a/\s.heap.get? a=some o/\o.cls=.type "tuple"/\o.data=.seq #[.ref kb,.int c.2 t] n/\H kb=some (.tup (c.1.map V.str)):=by
 obtain⟨a,kb,rfl,h1,h2⟩:=h;cases (show u=Value.ref a from r);obtain⟨_,its,rv,o,e1,e2,⟨n,e3⟩,_⟩:=(show ObjOk X.prog X.w H s.heap a (.tup [.ref kb,.int c.2]) from I.hok a _ h1);obtain⟨u1,u2,rfl,r1,r2⟩:=dS rv;cases (show u1=Value.ref kb from r1);obtain⟨t,rfl⟩:=r2;exact⟨a,kb,o,n,t,rfl,e1,e2,e3,h2⟩
theorem Xs {X:Cx}{H:Hp}{ys:List V}(hu:X.A.units+2 < cLine)(cs:Nat->List Str×Int)(hy:∀i,i < ys.length->wH H (ys.getD i .non) (cs i)):Srt X H ys (fun i j=>ltP (cs i) (cs j)):=by
 intro pins σ s its A hA I r;have hu':A.units < cLine:=by omega
 have all:∀v∈ys,∃c,wH H v c:=fun v hv=>by
  obtain⟨i,hi,e⟩:=List.getElem_of_mem hv;have q:=hy i hi;have eg:ys.getD i .non=v:=by simp[List.getD,hi,e]
  rw[eg] at q;exact⟨_,q⟩
 have tups:∀{ys:List V} {its:List Value},Vals ys its->(∀v∈ys,∃c,wH H v c)->∃fs,KatTups s.heap its fs/\fs.length=its.length/\∀f∈fs,Looks (model X.prog X.w) s.heap (typeOf f) (.type "tuple"):=by
  intro ys its r
  induction r with
  |nil=>exact fun _=>⟨[],.nil,rfl,fun f hf=>nomatch hf⟩
  |@cons y u ys its ry _ ih =>
   intro hall;obtain⟨fs,k1,k2,k3⟩:=ih fun v hv=>hall v (List.mem_cons_of_mem _ hv);obtain⟨c,hc⟩:=hall y List.mem_cons_self;obtain⟨a,kb,o,n,t,rfl,e1,e2,e3,e4⟩:=eL I hc ry;obtain⟨_,its2,_,o2,f1,f2,_,_⟩:=(show ObjOk X.prog X.w H s.heap kb (.tup (c.1.map V.str)) from I.hok kb _ e4);refine⟨.ref kb::fs,.cons e1 e2 e3 rfl k1,by rw[List.length_cons,List.length_cons,k2],fun f hf=>?_⟩
   rcases List.mem_cons.mp hf with rfl | hf
   .rw [<- f2]
    exact(show Looks (model X.prog X.w) s.heap (typeOf (.ref kb)) o2.cls from(Looks.ld f1).andThen .now)
   .exact k3 f hf
 have hlen:=r.length;refine⟨tuples' false,fun h2 Q hq=>?_,fun i j hi hj Q hq=>?_⟩
 .obtain ⟨fs,k1,k2,k3⟩:=tups r all
  exact kat_kind (T:=.type "tuple") k1 (by omega) k3 rfl hq
 .have hq:Q (ltP (cs i) (cs j)) s:=hq
  obtain⟨a,ka,oa,na,ta,ea,a1,a2,a3,a4⟩:=eL I (hy i hi) (nW r i);obtain⟨b,kb,ob,nb,tb,eb,b1,b2,b3,b4⟩:=eL I (hy j hj) (nW r j);rw[ea,eb];refine kat_lt a1 a3 b1 b3 ?_;have ka1:=jB I.hok (ks:=(cs i).1.map Sum.inr) (by rw[kI]; exact a4);have kb1:=jB I.hok (ks:=(cs j).1.map Sum.inr) (by rw[kI]; exact b4);refine kat_cons (wpAny_eqBool_tuple (knd:=oQ X.prog X.w) hu' ka1 kb1 ?_)
  by_cases hk:(cs i).1=(cs j).1
  .rw [decide_eq_true (QJ.mpr hk)]
   refine kat_yes (kat_cons (wpAny_eqBool_int ?_));have hl:ltP (cs i) (cs j)=decide ((cs i).2 < (cs j).2):=if_pos hk;rw[hl] at hq
   by_cases hn:(cs i).2=(cs j).2
   .rw [show((cs i).2==(cs j).2)=true by simpa using hn]
    refine kat_yes (kat_nil ?_);rw[hn,decide_eq_false (Int.lt_irrefl _)] at hq;exact hq
   .rw [show((cs i).2==(cs j).2)=false by simpa using hn]
    refine kat_no (kat_one _ _ (PyProof.Rows.lt_int ?_));exact hq
  .rw [decide_eq_false (fun e=>hk (QJ.mp e))]
   have hl:ltP (cs i) (cs j)=HT.lexS (cs i).1 (cs j).1:=if_neg hk;rw[hl] at hq;obtain⟨_,ia,ra,pa⟩:=(show ObjOk X.prog X.w H s.heap ka (.tup ((cs i).1.map V.str)) from I.hok ka _ a4);obtain⟨_,ib,rb,pb⟩:=(show ObjOk X.prog X.w H s.heap kb (.tup ((cs j).1.map V.str)) from I.hok kb _ b4);refine kat_no (kat_one _ _ (HT.lt_tupStrs pa.is pb.is (Qs ra) (Qs rb) hu' ?_));exact hq
def JK (x y:Str×Int):Bool:=if x.1=y.1 then decide (x.2 < y.2) else decide (x.1.cps.toList < y.1.cps.toList)
def Vd (H:Hp)(v:V)(c:Str×Int):Prop:=∃a,v=.ref a/\H a=some (.tup [.str c.1,.int c.2])
theorem jA {X:Cx}{pins:List (Addr×Obj)}{σ:St}{H:Hp}{s:Shared}{v:V}{u:Value}{c:Str×Int}(I:Inv X pins σ H s)(h:Vd H v c)(r:RelV v u):
  ∃a o n t t',u=.ref a/\s.heap.get? a=some o/\o.cls=.type "tuple"/\o.data=.seq #[.str c.1 t',.int c.2 t] n:=by
 obtain⟨a,rfl,h1⟩:=h;cases (show u=Value.ref a from r);obtain⟨_,its,rv,o,e1,e2,⟨n,e3⟩,_⟩:=(show ObjOk X.prog X.w H s.heap a (.tup [.str c.1,.int c.2]) from I.hok a _ h1);obtain⟨u1,u2,rfl,r1,r2⟩:=dS rv;obtain⟨t',rfl⟩:=r1;obtain⟨t,rfl⟩:=r2;exact⟨a,o,n,t,t',rfl,e1,e2,e3⟩
theorem ZK {X:Cx}{H:Hp}{ys:List V}(cs:Nat->Str×Int)(hy:∀i,i < ys.length->Vd H (ys.getD i .non) (cs i)):Srt X H ys (fun i j=>JK (cs i) (cs j)):=by
 intro pins σ s its A hA I r
 have all:∀v∈ys,∃c,Vd H v c:=fun v hv=>by
  obtain⟨i,hi,e⟩:=List.getElem_of_mem hv;have q:=hy i hi;have eg:ys.getD i .non=v:=by simp[List.getD,hi,e]
  rw[eg] at q;exact⟨_,q⟩
 have tups:∀{ys:List V} {its:List Value},Vals ys its->(∀v∈ys,∃c,Vd H v c)->∃fs,KatTups s.heap its fs/\fs.length=its.length/\∀f∈fs,Looks (model X.prog X.w) s.heap (typeOf f) (.type "str"):=by
  intro ys its r
  induction r with
  |nil=>exact fun _=>⟨[],.nil,rfl,fun f hf=>nomatch hf⟩
  |@cons y u ys its ry _ ih =>
   intro hall;obtain⟨fs,k1,k2,k3⟩:=ih fun v hv=>hall v (List.mem_cons_of_mem _ hv);obtain⟨c,hc⟩:=hall y List.mem_cons_self;obtain⟨a,o,n,t,t',rfl,e1,e2,e3⟩:=jA I hc ry;refine⟨.str c.1 t'::fs,.cons e1 e2 e3 rfl k1,by rw[List.length_cons,List.length_cons,k2],fun f hf=>?_⟩
   rcases List.mem_cons.mp hf with rfl | hf
   .exact .now
   .exact k3 f hf
 have hlen:=r.length;refine⟨tuples' true,fun h2 Q hq=>?_,fun i j hi hj Q hq=>?_⟩
 .obtain ⟨fs,k1,k2,k3⟩:=tups r all
  exact kat_kind (T:=.type "str") k1 (by omega) k3 rfl hq
 .have hq:Q (JK (cs i) (cs j)) s:=hq
  obtain⟨a,oa,na,ta,ta',ea,a1,a2,a3⟩:=jA I (hy i hi) (nW r i);obtain⟨b,ob,nb,tb,tb',eb,b1,b2,b3⟩:=jA I (hy j hj) (nW r j);rw[ea,eb];refine kat_lt a1 a3 b1 b3 ?_;refine kat_cons (wpAny_eqBool_str ?_)
  by_cases hk:(cs i).1=(cs j).1
  .rw [decide_eq_true hk]
   refine kat_yes (kat_cons (wpAny_eqBool_int ?_));have hl:JK (cs i) (cs j)=decide ((cs i).2 < (cs j).2):=if_pos hk;rw[hl] at hq
   by_cases hn:(cs i).2=(cs j).2
   .rw [show((cs i).2==(cs j).2)=true by simpa using hn]
    refine kat_yes (kat_nil ?_);rw[hn,decide_eq_false (Int.lt_irrefl _)] at hq;exact hq
   .rw [show((cs i).2==(cs j).2)=false by simpa using hn]
    refine kat_no (kat_one _ _ (PyProof.Rows.lt_int ?_));exact hq
  .rw [decide_eq_false hk]
   have hl:JK (cs i) (cs j)=decide ((cs i).1.cps.toList < (cs j).1.cps.toList):=if_neg hk;rw[hl] at hq;exact kat_no (kas_lt_str hq)
def dH (H:Hp)(f:Addr->Option (List V)):Hp:=fun b=>match f b with
 |some xs=>some (.tup xs)
 |none=>H b
theorem zF {H:Hp}{f:Addr->Option (List V)}{b:Addr}{xs:List V}(e:f b=some xs):dH H f b=some (.tup xs):=by unfold dH; rw[e]
theorem qY {H:Hp}{f:Addr->Option (List V)}{b:Addr}(e:f b=none):dH H f b=H b:=by unfold dH; rw[e]
theorem rJ {H:Hp}{f:Addr->Option (List V)}(hf:∀b xs,f b=some xs->H b=none){b:Addr}{o:HO}(e:H b=some o):dH H f b=some o:=by
 cases z:f b with
 |none=>rw[qY z]; exact e
 |some xs=>rw[hf b xs z] at e; cases e
section
variable {X:Cx}{pins:List (Addr×Obj)}{σ:St}{H:Hp}{s:Shared}{h':Heap}
theorem Inv.tups {f:Addr->Option (List V)}{t':Nat}(I:Inv X pins σ H s)(k:∀b u,s.heap.get? b=some u->h'.get? b=some u)
  (hf:∀b xs,f b=some xs->s.heap.objs.size<=b/\xs.length<=sizeLine/\∃its:List Value,Vals xs its/\IsTupN h' b its.toArray):Inv X pins σ (dH H f) { s with heap:=h',toks:=t' }:=by
 have fr:∀b xs,f b=some xs->H b=none:=fun b xs e=>I.hok.fresh (hf b xs e).1
 have nf:∀{b:Addr} {o:Obj},s.heap.get? b=some o->f b=none:=fun {b o} e=>by
  cases z:f b with
  |none=>rfl
  |some xs=>exact absurd (Heap.lt_size e) (Nat.not_lt.mpr (hf b xs z).1)
 refine I.un ⟨fun b o q _ _ _=>k b o q,fun b o q _ _ _=>⟨o.slots,k b o q⟩,fun b o q n _=>by rw[qY (nf q)]; exact n,fun b o q _=>⟨o,k b o q⟩,fun b xs q=>rJ fr q,fun b o u q=>rJ fr q,fun b ps q=>⟨#[],by rw[rJ fr q]; simp⟩⟩ fun b u e=>?_
 cases z:f b with
 |some xs =>
  rw[zF z] at e;cases e;obtain⟨_,h2,its,h3,h4⟩:=hf b xs z;exact⟨h2,its,h3,h4⟩
 |none =>
  rw[qY z] at e;exact(I.hok b u e).stay (fun c v _ q=>k c v q) (fun c q=>rJ fr q) fun c xs q=>rJ fr q
end
section
variable {X:Cx}
theorem tF {pins:List (Addr×Obj)}{σ:St}{H:Hp}{s:Shared}{A:Around}{ys:List V}{vs:List Value}{lt:Nat->Nat->Bool}{Z:PySem.Fin->Shared->Prop}{E:Value->Shared->Prop}(hA:A.in1.units<=X.A.units+2)(I:Inv X pins σ H s)(rv:Vals ys vs)(h64:ys.length < 64)(hs:Srt X H ys lt)
  (fin:∀p s',H p=none->Inv X pins σ (upd H p (.lst (uG lt ys))) s'->Z (.done (.ret (.ref p))) s') :
  wpAny (model X.prog X.w) A (newList vs >>= fun l=>holding [l] (call (.builtin "list.sort") [l] []) >>= fun _=>ret l) Z E s:=by
 have hlen:=rv.length;have h64':vs.length < 64:=by omega
 have zl:vs.length<=sizeLine:=by rw[sizeLine_eq]; omega
 refine wpAny_bind (wpAny_newList ?_ zl);have ga:(s.heap.push (seqObj "list" vs.toArray 0)).get? s.heap.objs.size=some (seqObj "list" vs.toArray 0):=Heap.get?_push_size _ rfl;have up:∀{b:Addr} {o:Obj},s.heap.get? b=some o->b≠s.heap.objs.size:=fun e=>Nat.ne_of_lt (Heap.lt_size e);have k1:∀b o,s.heap.get? b=some o->(oZ (s.heap.push (seqObj "list" vs.toArray 0)) s.heap.objs.size vs).get? b=some o:=fun b o e=>yO (Heap.get?_push_of_some _ e) (up e)
 obtain⟨κ,hk,hc⟩:=hs pins σ _ vs A.in1 hA (I.kept (t':=s.toks) k1) rv;obtain⟨k0,_,e2⟩:=rA (vs:=vs) ga;have e3:∃c,(sortedHeap (s.heap.push (seqObj "list" vs.toArray 0)) s.heap.objs.size vs (eJ lt vs).toArray).get? s.heap.objs.size=some (seqObj "list" (eJ lt vs).toArray c):=⟨_,get?_update_seq e2 fun _=>(eJ lt vs).toArray⟩;obtain⟨c,e3⟩:=e3;have k2:∀b o,s.heap.get? b=some o->(sortedHeap (s.heap.push (seqObj "list" vs.toArray 0)) s.heap.objs.size vs (eJ lt vs).toArray).get? b=some o:=fun b o e=>(Heap.get?_update_ne _ _ _ _ (up e)).trans (k1 b o e)
 refine wpAny_bind (wpAny_holding (wpAny_call_entry slot_list_sort ⟨_,ga,rfl⟩ entry_list_sort ?inner (args_list_sort _)));refine oU (s:={ s with heap:=s.heap.push (seqObj "list" vs.toArray 0) }) (κ:=κ) (lt:=lt) ga h64' (fun h2 Q' hq=>hk (by omega) Q' hq) (fun i j hi hj Q' hq=>hc i j (by omega) (by omega) Q' hq) ⟨_,rfl,wpAny_pure ?_⟩;refine fin _ _ (I.hok.fresh (Nat.le_refl _)) (I.laid (t':=s.toks) (o:=.lst (uG lt ys)) k2 (Nat.le_refl _) ?_)
 refine⟨by rw[iF,sizeLine_eq]; omega,eJ lt vs,c,?_,e3⟩;unfold uG eJ;rw[hlen];exact kL rv _
abbrev xK (v d:Addr):Heap->Prop:=fun h=>h.IsItemsView v d
def rItems:V->List V->Hp->VK->Prop:=fun x vs H Q=>∃d kvs,x=.ref d/\vs=[]/\H d=some (.dK kvs)/\∀v,H v=none->Q (.ref v) (upd H v (.ext (xK v d)))
theorem JH:MtR X "dict.items" rItems:=by
 intro pins s σ H x xs v us Q I rx rv h;obtain⟨d,kvs,rfl,rfl,hd,q⟩:=h;cases (show v=Value.ref d from rx);cases rv;obtain⟨z,hS,vs,rel,dd⟩:=pP I.hok hd;refine call_meetsIn F.slot_dict_items dd.typeIs F.entry_dict_items (F.args_dict_items_1 _) (meets_dict_items (oQ X.prog X.w) d hS) ⟨⟨vs,dd⟩,?_⟩;refine⟨.ref s.heap.objs.size,_,I.laid (t':=s.toks) (o:=.ext (xK s.heap.objs.size d)) (fun b o e=>Heap.get?_push_of_some _ e) (Nat.le_refl _) ?_,rfl,q _ (I.hok.fresh (Nat.le_refl _))⟩
 refine⟨⟨_,Heap.get?_push_size _ rfl,rfl,rfl⟩,⟨_,Heap.get?_push_size _ rfl⟩,?_⟩;rintro h1 h2 ⟨o,e1,e2⟩ e;exact⟨o,e o e1,e2⟩
def mkF (as:List Addr)(kvs:List (Key×V)):Addr->Option (List V):=fun b=>((as.zip kvs).find? fun p=>p.1==b).map fun p=>[kV p.2.1,p.2.2]
theorem Kp {as:List Addr}{kvs:List (Key×V)}(nd:as.Nodup){j:Nat}{a:Addr}{p:Key×V}(ha:as[j]?=some a)(hp:kvs[j]?=some p):(as.zip kvs).find? (fun q=>q.1==a)=some (a,p):=by
 induction as generalizing kvs j with
 |nil=>cases ha
 |cons x as ih =>
  cases kvs with
  |nil=>cases hp
  |cons y kvs =>
   rw[List.nodup_cons] at nd;rw[List.zip_cons_cons,List.find?_cons]
   cases j with
   |zero=>cases ha; cases hp; simp
   |succ j =>
    have ha:as[j]?=some a:=ha;have ne:(x==a)=false:=beq_false_of_ne fun e=>nd.1 (e▸List.mem_of_getElem? ha);rw[ne];exact ih nd.2 ha hp
theorem nY {as:List Addr}{kvs:List (Key×V)}{b:Addr}{q:Addr×(Key×V)}(h:(as.zip kvs).find? (fun q=>q.1==b)=some q):q.1=b/\∃j:Nat,as[j]?=some b/\kvs[j]?=some q.2:=by
 have h1:=List.find?_some h;have h1:q.1=b:=eq_of_beq h1;have h2:=List.mem_of_find?_eq_some h;obtain⟨j,hj⟩:=List.mem_iff_getElem?.mp h2;rw[List.getElem?_zip_eq_some] at hj;exact⟨h1,j,by rw[<- h1]; exact hj.1,hj.2⟩
theorem gN {H:Hp}:∀{as:List Addr}{kvs:List (Key×V)},as.length=kvs.length->(∀(j:Nat) (a:Addr) (p:Key×V),as[j]?=some a->kvs[j]?=some p->H a=some (.tup [kV p.1,p.2]))->fW H as kvs
 |[],[],_,_=>.nil
 |[],_::_,h,_=>nomatch h
 |_::_,[],h,_=>nomatch h
 |a::as,p::kvs,h,k=>.cons (k 0 a p rfl rfl) (gN (Nat.succ.inj h) fun j a' p' h1 h2=>k (j+1) a' p' h1 h2)
theorem jT {P:Program}{w:World}{k:Key}{u:Value}(h:(oQ P w).is k u=true):RelV (kV k) u:=by
 rcases dZ h with ⟨i,t,rfl,rfl⟩ | ⟨x,t,rfl,rfl⟩ | ⟨rfl,rfl⟩
 .exact ⟨t,rfl⟩
 .exact ⟨t,rfl⟩
 .exact rfl
theorem JV {kvs:List (Key×V)}{vs:List (Key×Value)}(r:KV kvs vs):∀{j:Nat}{p:Key×V}{q:Key×Value},kvs[j]?=some p->vs[j]?=some q->p.1=q.1/\RelV p.2 q.2:=by
 induction r with
 |nil=>intro j p q h; cases h
 |cons h _ ih =>
  intro j p q h1 h2
  cases j with
  |zero=>cases h1; cases h2; exact h
  |succ j=>exact ih (j:=j) h1 h2
theorem tR (hc:X.calm=true):CallR X (.builtin "sorted") (fun xs H Q=>∃v d kvs lt,xs=[.ref v]/\H v=some (.ext (xK v d))/\H d=some (.dK kvs)/\kvs.length < 64 /\
  ∀as H1,Same H H1->fW H1 as kvs->(∀a∈as,H a=none)->(∀a,H a=none->H1 a≠none->a∈as)->Srt X H1 (List.map V.ref as) lt/\∀p,H1 p=none->Q (.ref p) (upd H1 p (.lst (uG lt (List.map V.ref as))))):=by
 intro pins s σ H xs us Q I r h;obtain⟨v,d,kvs,lt,rfl,hv,hd,h64,hq⟩:=h;obtain⟨u,rfl,ru⟩:=r.one;cases ru;obtain⟨z,hS,vs,rel,dd⟩:=pP I.hok hd;obtain⟨hview,_,_⟩:=(show ObjOk X.prog X.w H s.heap v (.ext (xK v d)) from I.hok v _ hv);obtain⟨ep,da⟩:=dd.dictAt;have hl:kvs.length=vs.length:=rel.length;refine Calls.call_function_entry kind_sorted plain_sorted entry_sorted (args_sorted1 _) (?_:wpAny _ _ (Builtin.«sorted» _) _ _ _)
 unfold Builtin.«sorted»;refine wpAny_bind (m:=checkCount "sorted" 1 1 _) (wpAny_pure (wpAny_bind (kdx_collect (knd:=oQ X.prog X.w) (by simp[I.ok.hd hc]) hview da (by rw[<- hl]; exact z) fun h' tk as keep hlen G=>?_)));have nd:as.Nodup:=G.rise.imp fun h=>Nat.ne_of_lt h;have hlen':as.length=kvs.length:=hlen.trans hl.symm;have up:∀a∈as,s.heap.objs.size<=a:=fun a ha=>Nat.le_of_lt (G.above a ha)
 have I1:Inv X pins σ (dH H (mkF as kvs)) { s with heap:=h',toks:=tk }:=I.tups keep fun b xs e=>by
  unfold mkF at e
  cases z:(as.zip kvs).find? fun p=>p.1==b with
  |none=>rw[z] at e; cases e
  |some q =>
   rw[z] at e;cases e;obtain⟨e1,j,e2,e3⟩:=nY z;obtain⟨key,k,x,g1,g2,g3⟩:=G.pairs j b e2;obtain⟨r1,r2⟩:=JV rel e3 g1;have r1:q.2.1=k:=r1;refine⟨up b (List.mem_of_getElem? e2),by show 2<=sizeLine; decide,[key,x],.cons (by rw[r1]; exact jT g2) (.cons r2 .nil),⟨_,g3,rfl,⟨_,rfl⟩,rfl⟩⟩
 have fr:∀b xs,mkF as kvs b=some xs->H b=none:=fun b xs e=>by
  unfold mkF at e
  cases z:(as.zip kvs).find? fun p=>p.1==b with
  |none=>rw[z] at e; cases e
  |some q =>
   obtain⟨_,j,e2,_⟩:=nY z;exact I.hok.fresh (up b (List.mem_of_getElem? e2))
 obtain⟨hs,q⟩:=hq as (dH H (mkF as kvs)) (fun b o e=>rJ fr e) (gN hlen' fun j a p h1 h2=>zF (by unfold mkF; rw[Kp nd h1 h2]; rfl)) (fun a ha=>I.hok.fresh (up a ha)) fun a n1 n2=>by
  cases z:mkF as kvs a with
  |none=>rw[qY z] at n2; exact absurd n1 n2
  |some xs =>
   unfold mkF at z
   cases y:(as.zip kvs).find? fun p=>p.1==a with
   |none=>rw[y] at z; cases z
   |some q =>
    obtain⟨_,j,e2,_⟩:=nY y;exact List.mem_of_getElem? e2
 have rv:Vals (as.map V.ref) (as.map Value.ref):=by
  clear nd hlen' up I1 fr hs q hlen G hq
  induction as with
  |nil=>exact .nil
  |cons a as ih=>exact .cons rfl ih
 exact tF (Nat.le_refl _) I1 rv (by rw[List.length_map]; omega) hs fun p s' hp I'=>⟨_,rfl,.ref p,_,I',rfl,q p hp⟩
end
end L2
namespace L2
open PySem PySem.Spec PyProof.Rows
section
variable {X:Cx}{pins:List (Addr×Obj)}{σ:St}{H:Hp}{s:Shared}{d:Addr}{o:Obj}{kvs:List (Key×V)}
theorem Inv.freeze {t':Nat}(I:Inv X pins σ H s)(hd:H d=some (.dK kvs))(ho:s.heap.get? d=some o):Inv X pins σ (upd H d (.frz o (.dK kvs))) { s with toks:=t' }:=by
 have ne:∀{b:Addr} {u:HO},H b=some u->u≠.dK kvs->b≠d:=fun e n z=>by subst z; rw[hd] at e; cases e; exact n rfl
 refine I.un (h':=s.heap) ⟨fun b u q _ _ _=>q,fun b u q _ _ _=>⟨u.slots,q⟩,fun b u q n _=>by rw[cQ (fun z=>by subst z; rw[hd] at n; cases n)]; exact n,fun b u q _=>⟨u,q⟩,
  fun b xs q=>by rw[cQ (ne q nofun)]; exact q,fun b u v q=>by rw[cQ (ne q nofun)]; exact q,fun b ps q=>⟨#[],by rw[cQ (ne q nofun),q]; simp⟩⟩ fun b u e=>?_
 have st:∀{b:Addr} {u:HO},H b=some u->ObjOk X.prog X.w (upd H d (.frz o (.dK kvs))) s.heap b u:=fun {b u} e=>(I.hok b u e).stay (fun c v _ q=>q) (fun c q=>by rw[cQ (ne q nofun)]; exact q) fun c xs q=>by rw[cQ (ne q nofun)]; exact q
 by_cases hb:b=d
 .subst hb
  rw[gQ] at e;cases e;exact⟨ho,st hd⟩
 .rw [cQ hb] at e
  exact st e
def NF (X:Cx)(d:Addr):Prop:=∀ob u,X.H₀ d≠some (.frz ob u)
theorem Inv.nf (I:Inv X pins σ H s)(hd:H d=some (.dK kvs)):NF X d:=fun ob u e=>by
 have:=I.base.frzs d ob u e;rw[hd] at this; cases this
theorem Inv.thaw (I:Inv X pins σ H s)(hd:H d=some (.frz o (.dK kvs)))(nf:NF X d):Inv X pins σ (upd H d (.dK kvs)) s:=by
 have ne:∀{b:Addr} {u:HO},H b=some u->u≠.frz o (.dK kvs)->b≠d:=fun e n z=>by subst z; rw[hd] at e; cases e; exact n rfl
 have nn:∀{b:Addr},H b=none->b≠d:=fun e z=>by subst z; rw[hd] at e; cases e
 obtain⟨m,hm,hl⟩:=I.loc;have B:=I.base;have st:∀{b:Addr} {u:HO},H b=some u->ObjOk X.prog X.w (upd H d (.dK kvs)) s.heap b u:=fun {b u} e=>(I.hok b u e).stay (fun c v _ q=>q) (fun c q=>by rw[cQ (ne q nofun)]; exact q) fun c xs q=>by rw[cQ (ne q nofun)]; exact q
 refine⟨I.ok,I.os,I.bare,⟨B.keep,B.slot,fun b u q n x=>by rw[cQ (nn (B.free b u q n x))]; exact B.free b u q n x,B.there,fun b xs q=>?_,fun b ob u q=>?_,fun b ps q=>?_⟩,⟨m,hm,hl⟩,I.cell,by rw[cQ (nn I.free)]; exact I.free,fun x c e=>by rw[cQ (nn (I.freeC x c e))]; exact I.freeC x c e,fun p hp=>?_,fun b u e=>?_,I.len⟩
 .have:=B.tups b xs q
  rw[cQ (ne this nofun)]; exact this
 .have:=B.frzs b ob u q
  have hb:b≠d:=fun z=>by subst z; exact nf ob u q
  rw[cQ hb]; exact this
 .obtain ⟨more,e⟩:=B.tbls b ps q
  exact⟨more,by rw[cQ (ne e nofun)]; exact e⟩
 .obtain ⟨a1,a2,a3⟩:=I.pin p hp
  exact⟨a1,by rw[cQ (nn a2)]; exact a2,a3⟩
 .by_cases hb:b=d
  .subst hb
   rw[gQ] at e;cases e;exact(show ObjOk X.prog X.w _ s.heap b (.frz o (.dK kvs)) from st hd).2
  .rw [cQ hb] at e
   exact st e
theorem je_thaw {e:Expr}{t:TE}(h:JE X e t):JE X e (fun σ H Q=>t σ H fun v H'=>∃d o kvs,H' d=some (.frz o (.dK kvs))/\NF X d/\Q v (upd H' d (.dK kvs))) :=
 ⟨fun pins s σ H Q I q=>thn (h.h pins s σ H _ I q) fun u s1 ⟨v,H1,I1,r1,d,o,kvs,q1,q2,q3⟩=>⟨v,_,I1.thaw q1 q2,r1,q3⟩⟩
end
def Itd (o:Obj)(d:Addr)(kvs:List (Key×V)):It :=
 ⟨fun i H=>i < kvs.length/\H d=some (.frz o (.dK kvs)),fun i H x H'=>H'=H/\∃p,kvs[i]?=some p/\x=kV p.1,fun i H=>kvs.length<=i/\H d=some (.frz o (.dK kvs))⟩
theorem Ko {X:Cx}{pins:List (Addr×Obj)}{σ:St}{H:Hp}{s:Shared}{d:Addr}{o:Obj}{kvs:List (Key×V)}{es:Array DictEntry}{ep:Nat}(I:Inv X pins σ H s)(hd:H d=some (.frz o (.dK kvs)))(ho:o.data=.dict es ep):
  ∃vs,KV kvs vs/\s.heap.DictAt (oQ X.prog X.w) d vs ep/\(d==sysModules)=false:=by
 obtain⟨e,_,hS,vs,rel,o',es',ep',q1,q2,q3,q4⟩:=(show ObjOk X.prog X.w H s.heap d (.frz o (.dK kvs)) from I.hok d _ hd);rw[e] at q1;cases q1;rw[ho] at q3;cases q3;exact⟨vs,rel,⟨o,es,e,q2,ho,q4⟩,hS⟩
theorem Xq {P:Program}{w:World}{K:PySem.W.Frag}{tg:Expr}(o:Obj)(d it:Addr)(kvs:List (Key×V))(es:Array DictEntry)(ep:Nat)(ho:o.data=.dict es ep):Zn P w K tg (Itd o d kvs) [it] it (fun i h=>h.IsKeyIter it d i kvs.length ep) where
 mem:=by simp
 obj:=fun i h st b hb=>by
  have e:b=it:=by simpa using hb
  subst e;obtain⟨o,e,c,d⟩:=st;exact⟨o,e,fun v z=>by rw[d] at z; cases z⟩
 keep:=fun i h h' st k=>let ⟨ob,e,r⟩:=st; ⟨ob,k it (by simp) ob e,r⟩
 item:=by
  intro X hP hw hK hc i pins s σ H E I hf st hg;subst hP hw hK;obtain⟨hi,hd⟩:=hg;obtain⟨vs,rel,da,_⟩:=Ko I hd ho;have hl:kvs.length=vs.length:=rel.length;obtain⟨f0,f1,f2,f3,f4,f5⟩:=hf it (by simp);have hv:vs[i]?=some (vs[i]'(by omega)):=List.getElem?_eq_getElem _;have hk:kvs[i]?=some kvs[i]:=List.getElem?_eq_getElem _;obtain⟨r1,_⟩:=JV rel hk hv;rw[hl] at st;refine wpAny_pyNext_dict_item (knd:=oQ X.prog X.w) st da hv fun key h' ik st' sb=>?_
  have I1:Inv X pins σ H { s with heap:=h' }:=I.turned (t':=s.toks) (fun b o hb e=>(sb.2 b hb).trans e) f0 f1 f3 f4 f5;obtain⟨ob,e,c,dt⟩:=id st';exact⟨key,rfl,QS (s:={ s with heap:=h' }) e c dt (by decide) ⟨kV kvs[i].1,H,I1,by rw[r1]; exact jT ik,⟨rfl,_,hk,rfl⟩,by rw[hl]; exact st',fun b hb=>(hf b hb).1⟩⟩
 done:=by
  intro X hP hw hK hc i pins s σ H E I hf st hg;subst hP hw hK;obtain⟨hi,hd⟩:=hg;obtain⟨vs,rel,da,_⟩:=Ko I hd ho;have hl:kvs.length=vs.length:=rel.length;obtain⟨f0,f1,f2,f3,f4,f5⟩:=hf it (by simp);rw[hl] at st;exact wpAny_pyNext_dict_end (knd:=oQ X.prog X.w) (I.ok.hd hc) st da (List.getElem?_eq_none_iff.mpr (by omega)) fun h' eb=>⟨rfl,I.turned (t':=s.toks) (fun b o hb e=>eb b o hb e) f0 f1 f3 f4 f5⟩
 self:=fun _ _ _ _ _ st h=>wpAny_pyIter_keyiter st h
section
variable {X:Cx}{tg:Expr}
def iDict (X:Cx)(td:TE):TI:=fun σ H R=>td σ H fun x H1=>∃d kvs,x=.ref d/\H1 d=some (.dK kvs)/\∀o,NF X d->R (Itd o d kvs) (upd H1 d (.frz o (.dK kvs)))
theorem ji_dict {e:Expr}{td:TE}(he:JE X e td):JI X tg e (iDict X td):=by
 refine⟨fun pins s σ H R I h=>?_⟩;refine thn (he.h pins s σ H _ I h) fun v s1 ⟨x,H1,I1,r1,q1⟩=>?_;obtain⟨d,kvs,rfl,hd,q⟩:=q1;cases (show v=Value.ref d from r1);obtain⟨z,hS,vs,rel,dd⟩:=pP I1.hok hd;obtain⟨ep,da⟩:=dd.dictAt;obtain⟨o,es,g1,g2,g3,g4⟩:=id da;have hl:kvs.length=vs.length:=rel.length;have I2:=I1.freeze (t':=s1.toks) hd g1;refine wpAny_pyIter_dict (knd:=oQ X.prog X.w) hS da ?_;refine⟨s1.heap.objs.size,[s1.heap.objs.size],_,_,_,rfl,I2.kept (t':=s1.toks) fun b o e=>Heap.get?_push_of_some _ e,Xq o d _ kvs es ep g3,⟨_,Heap.get?_push_size _ rfl,rfl,by rw[hl]; rfl⟩,fun b hb=>?_,q o (I1.nf hd)⟩
 have e:b=s1.heap.objs.size:=by simpa using hb
 subst e;exact I2.fpOk (Nat.le_refl _) (I2.hok.fresh (Nat.le_refl _))
end
end L2
namespace PySem.W
open PySem PySem.Calls PyProof.Rows PyProof.V PySem.Spec
def RawD (h:Heap)(d:Addr)(es:Array DictEntry)(ep:Nat):Prop:=∃o,h.get? d=some o/\o.ExactDict/\o.data=.dict es ep
theorem RawD.at {h h':Heap}{d:Addr}{es:Array DictEntry}{ep:Nat}(x:RawD h d es ep)(k:∀o,h.get? d=some o->h'.get? d=some o):RawD h' d es ep:=let ⟨o,e,r⟩:=x; ⟨o,k o e,r⟩
abbrev RIt (h:Heap)(it d:Addr)(i n ep:Nat)(x0 ok ov:Value)(f:Bool):Prop:=h.get? it=some { cls:=.type "dict_itemiterator",dict:=none,data:=.fields #[x0,.bool f,.ref d,.int i 0,.int n 0,.int ep 0,ok,ov],slots:=#[] }
def RSt (h:Heap)(it d S:Addr)(i n ep:Nat):Prop:=∃x0 ok ov f,RIt h it d i n ep x0 ok ov f/\((x0=.none/\f=false)\/∃a oa,x0=rawInt (a:Nat)/\h.get? a=some oa/\a≠it/\a≠S)
theorem RSt.keep {h h':Heap}{it d S:Addr}{i n ep:Nat}(x:RSt h it d S i n ep)(k:∀b o,b≠S->h.get? b=some o->h'.get? b=some o)(ne:it≠S):RSt h' it d S i n ep:=by
 obtain⟨x0,ok,ov,f,e,r⟩:=x;refine⟨x0,ok,ov,f,k _ _ ne e,r.imp id ?_⟩;rintro⟨a,oa,r1,r2,r3,r4⟩;exact⟨a,oa,r1,k _ _ r4 r2,r3,r4⟩
section
variable {prog:Program}{w:World}{A:Around}{E:Value->Shared->Prop}{s:Shared}
theorem xT {it d S:Addr}{i n ep:Nat}{es:Array DictEntry}{Q:Option Value->Shared->Prop}(hh:A.handled=none)(hst:RSt s.heap it d S i n ep)(hS:S < s.heap.objs.size)(hD:RawD s.heap d es ep)(hn:es.size=n)
  (hItem:∀e h',es[i]?=some e->RSt h' it d S (i+1) n ep->h'.get? s.heap.objs.size=some { cls:=.type "tuple",data:=.seq #[e.key,e.val] }->h'.objs.size=s.heap.objs.size+1->(∀b o,b≠it->s.heap.get? b=some o->h'.get? b=some o)->Q (some (.ref s.heap.objs.size)) { s with heap:=h' })
  (hEnd:es[i]?=none->∀h',(∀b o,b≠it->s.heap.get? b=some o->h'.get? b=some o)->Q none { s with heap:=h' }):wpAny (model prog w) A (pyNext (.ref it)) Q E s:=by
 obtain⟨hp,g,dr,tk,os⟩:=s;obtain⟨od,d1,d2,d3⟩:=hD;obtain⟨x0,ok,ov,f,hit,hx0⟩:=hst;subst hn;have hT:Shared.TypeIs ⟨hp,g,dr,tk,os⟩ (.ref it) "dict_itemiterator":=⟨_,hit,rfl⟩;have hown:Builtin.Dict_items.ownsTuple "dict_itemiterator" = true:=by decide
 unfold pyNext;refine wpAny_bind (wpAny_attempt (wpAny_callSpecial?_slot (name:=Str.ofString "__next__") hT PySem.F.slot_dict_itemiterator_next (wpAny_call_entry PySem.F.slot_dict_itemiterator_next hT PySem.F.entry_dict_itemiterator_next (wpAny_bind (wpAny_pure ?_)) (PySem.F.args_dict_itemiterator_next_1 _))));refine wpAny_bind (wpAny_bind (wpAny_bind (wpAny_typeNameOfWhole_itemiter hT (wpAny_pure ?_))))
 refine wpAny_bind (wpAny_fieldsOf hit rfl ?_)
 (simp only[hown,if_true]; show wpAny _ _ (if (Value.ref d==Value.none)=true then _ else _) _ _ _; rw[if_neg (show ¬ ((Value.ref d==Value.none)=true) from Bool.false_ne_true)])
 refine wpAny_bind (wpAny_pure (wpAny_bind (wpAny_dictEntries d1 d3 ?_)))
 (rw[if_neg (by simp)]; refine wpAny_bind (wpAny_pure (wpAny_bind (wpAny_dictEpoch d1 d3 ?_))); rw[if_neg (by simp)]; refine wpAny_pure ?_)
 cases hx:es[i]? with
 |none =>
  (simp only[show ¬ ((i:Int) < 0) from by omega,if_false,Int.toNat_natCast,hx]; refine wpAny_bind (wpAny_bind (wpAny_typeNameOfWhole_itemiter hT (wpAny_pure ?_))))
  (show wpAny _ _ (setField (.ref it) 2 .none >>= _) _ _ _; refine wpAny_bind (wpAny_setField hit rfl (by simp) ?_))
  (show wpAny _ _ (newExc (.type "StopIteration") [] >>= _) _ _ _; refine wpAny_bind ?_; simp only[newExc,newTuple]; refine wpAny_bind (wpAny_newObj_type ?_ (by size_fits)))
  refine wpAny_bind (m:=firstArgMember _ _) (wpAny_of_eq (a:=Value.none) (by first | rfl | (simp only[firstArgMember]; rfl)) (wpAny_newObj_type ?_ (by size_fits)))
  (simp only[raiseNew]; refine wpAny_bind (wpAny_handled ?_); rw[show A.in1.handled=none from hh]; refine wpAny_bind (wpAny_pure (wpAny_throw ?_)))
  (refine wpAny_bind (wpAny_isInstance (T:="StopIteration") (b:=true) ⟨_,Heap.get?_push_size _ rfl,rfl⟩ isSubtype_stop ?_))
  exact wpAny_pure (hEnd hx _ fun b o nb e=>(((Heap.SameBut.update ..).extBut.push _).push _) b o nb e)
 |some e =>
  have hil:it < hp.objs.size:=Heap.lt_size hit
  (simp only[show ¬ ((i:Int) < 0) from by omega,if_false,Int.toNat_natCast,hx]; refine wpAny_bind (wpAny_bind (wpAny_typeNameOfWhole_itemiter hT (wpAny_pure ?_))))
  (refine wpAny_bind (wpAny_isOneOf_itemiter hT ?_); show wpAny _ _ (setField (.ref it) 3 (rawInt ((i:Int)+1)) >>= _) _ _ ⟨hp,g,dr,tk,os⟩)
  refine wpAny_bind (wpAny_setField_rec hit (by simp) fun h₁ he₁ hs₁=>?_);have hs₁:Heap.SameBut it hp h₁:=hs₁
  have he₁:RIt h₁ it d (i+1) es.size ep x0 ok ov f:=by
   have z:((i+1:Nat):Int)=(i:Int)+1:=by omega
   (unfold RIt; rw[z]; simpa [rawInt] using he₁)
  have hT₁:Shared.TypeIs ⟨h₁,g,dr,tk,os⟩ (.ref it) "dict_itemiterator":=⟨_,he₁,rfl⟩;refine wpAny_bind (wpAny_holding (wpAny_bind (wpAny_isOneOf_itemiter hT₁ (wpAny_bind (wpAny_isOneOf_itemiter hT₁ ?_)))))
  (show wpAny _ _ (Builtin.Dict_items.pairFromOwner (.ref it) 6 e.key e.val) _ _ ⟨h₁,g,dr,tk,os⟩; unfold Builtin.Dict_items.pairFromOwner; refine wpAny_bind (wpAny_newTuple ?_))
  obtain⟨h₂,eh₂⟩:∃h₂,h₂=h₁.push { cls:=.type "tuple",data:=.seq #[e.key,e.val] }:=⟨_,rfl⟩;have z1:h₁.objs.size=hp.objs.size:=hs₁.1;have he₂:RIt h₂ it d (i+1) es.size ep x0 ok ov f:=by rw[eh₂]; exact Heap.get?_push_of_some _ he₁
  have t2:h₂.get? hp.objs.size=some { cls:=.type "tuple",data:=.seq #[e.key,e.val] }:=by rw[eh₂,<- z1]; exact Heap.get?_push_size _ rfl
  have z2:h₂.objs.size=hp.objs.size+1:=by rw[eh₂,Heap.size_push,z1]
  have k2:∀b o,b≠it->hp.get? b=some o->h₂.get? b=some o:=fun b o nb q=>by rw[eh₂]; exact Heap.get?_push_of_some _ (hs₁.extBut b o nb q)
  have fin:∀h3:Heap,Heap.SameBut it h₂ h3->RSt h3 it d S (i+1) es.size ep->Q (some (.ref hp.objs.size)) ⟨h3,g,dr,tk,os⟩:=fun h3 sb r=>hItem e h3 hx r (sb.extBut _ _ (Nat.ne_of_gt hil) t2) (by show h3.objs.size=hp.objs.size+1; rw[sb.1,z2]) fun b o nb q=>sb.extBut b o nb (k2 b o nb q)
  (show wpAny _ _ (Builtin.Dict_items.ownedTupleIsFree (.ref it) >>= _) _ _ ⟨h₁.push { cls:=.type "tuple",data:=.seq #[e.key,e.val] },g,dr,tk,os⟩; rw[<- eh₂])
  clear eh₂ he₁ hT₁
  (refine wpAny_bind ?_; unfold Builtin.Dict_items.ownedTupleIsFree; refine wpAny_bind (wpAny_field he₂ rfl (x:=x0) rfl ?_))
  rcases hx0 with ⟨rfl,rfl⟩ | ⟨a,oa,rfl,ha,nai,naS⟩
  ·(refine wpAny_pure ?_; simp only[if_true])
   refine wpAny_bind (wpAny_field he₂ rfl (x:=ok) rfl (wpAny_bind (wpAny_field he₂ rfl (x:=ov) rfl ?_)));refine wpAny_bind (wpAny_setField_rec he₂ (by simp) fun h3 e3 s3=>?_);refine wpAny_bind (wpAny_setField_rec e3 (by simp) fun h4 e4 s4=>?_);refine wpAny_bind (wpAny_setField_rec e4 (by simp) fun h5 e5 s5=>?_);refine wpAny_bind (wpAny_setField_rec e5 (by simp) fun h6 e6 s6=>?_);have sb:Heap.SameBut it h₂ h6:=((Heap.SameBut.trans s3 s4).trans s5).trans s6
   have r6:RIt h6 it d (i+1) es.size ep (rawInt (h₁.objs.size:Nat)) e.key e.val false:=e6;have a6:h6.get? h₁.objs.size=some { cls:=.type "tuple",data:=.seq #[e.key,e.val] }:=by rw[z1]; exact sb.extBut _ _ (Nat.ne_of_gt hil) t2
   have rs:RSt h6 it d S (i+1) es.size ep:=⟨_,_,_,_,r6,.inr ⟨_,_,rfl,a6,by rw[z1]; exact Nat.ne_of_gt hil,by rw[z1]; exact Nat.ne_of_gt hS⟩⟩;have q6:=fin h6 sb rs;rw[<- z1] at q6;exact wpAny_bind (wpAny_letGo (wpAny_pure (wpAny_pure ⟨_,rfl,wpAny_pure q6⟩)))
  .have a2:h₂.get? a=some oa:=k2 a oa nai ha
   have rs:∀h3 fl,Heap.SameBut it h₂ h3->RIt h3 it d (i+1) es.size ep (rawInt (a:Nat)) ok ov fl->RSt h3 it d S (i+1) es.size ep:=fun h3 fl sb r=>⟨_,_,_,_,r,.inr ⟨a,oa,rfl,sb.extBut a oa nai a2,nai,naS⟩⟩
   (show wpAny _ _ (loadIfAlive ((a:Int).toNat) >>= _) _ _ _; rw[Int.toNat_natCast])
   (refine wpAny_bind (kdx_alive a2 ?_); simp only[Option.isNone_some,Bool.false_eq_true,if_false]; refine wpAny_bind (wpAny_field he₂ rfl (x:=.bool f) rfl ?_))
   cases f with
   |true =>
    (rw[if_neg (show ¬ ((Value.bool true != Value.bool true)=true) from Bool.false_ne_true)]; refine wpAny_pure ?_; simp only[Bool.false_eq_true,if_false])
    have q6:=fin h₂ (Heap.SameBut.refl _ _) (rs h₂ true (Heap.SameBut.refl _ _) he₂);rw[<- z1] at q6;exact wpAny_pure (wpAny_pure ⟨_,rfl,wpAny_pure q6⟩)
   |false =>
    (rw[if_pos (show(Value.bool false != Value.bool true)=true from rfl)]; refine wpAny_bind (wpAny_setField_rec he₂ (by simp) fun h3 e3 s3=>?_))
    have q6:=fin h3 s3 (rs h3 true s3 e3);rw[<- z1] at q6
    (refine wpAny_pure ?_; simp only[Bool.false_eq_true,if_false])
    exact wpAny_pure (wpAny_pure ⟨_,rfl,wpAny_pure q6⟩)
structure RawG (es:Array DictEntry)(lo:Addr)(h:Heap)(as:List Addr):Prop where
 rise:as.Pairwise (· < ·)
 above:∀a∈as,lo < a
 pairs:∀(j:Nat) (a:Addr),as[j]?=some a->∃e,es[j]?=some e/\h.get? a=some { cls:=.type "tuple",data:=.seq #[e.key,e.val] }
theorem RawG.there {es:Array DictEntry}{lo:Addr}{h:Heap}{as:List Addr}(g:RawG es lo h as){a:Addr}(ha:a∈as):a < h.objs.size:=by
 obtain⟨j,hj⟩:=List.mem_iff_getElem?.mp ha;obtain⟨e,_,q⟩:=g.pairs j a hj;exact Heap.lt_size q
theorem RawG.snoc {es:Array DictEntry}{lo:Addr}{h h':Heap}{as:List Addr}{e:DictEntry}{p:Addr}(g:RawG es lo h as)(k:∀b o,lo < b->h.get? b=some o->h'.get? b=some o)(hp:h.objs.size=p)(hlo:lo < p)(he:es[as.length]?=some e)(ht:h'.get? p=some { cls:=.type "tuple",data:=.seq #[e.key,e.val] }):RawG es lo h' (as++[p]) where
 rise:=List.pairwise_append.mpr ⟨g.rise,List.pairwise_singleton _ _,fun a ha b hb=>by
  cases List.mem_singleton.mp hb;rw[<- hp]
  exact g.there ha⟩
 above:=fun a ha=>by
  rcases List.mem_append.mp ha with ha | ha
  .exact g.above a ha
  .cases List.mem_singleton.mp ha; exact hlo
 pairs:=fun j a hj=>by
  by_cases h1:j < as.length
  .rw [List.getElem?_append_left h1] at hj
   obtain⟨e',q1,q2⟩:=g.pairs j a hj;exact⟨e',q1,k a _ (g.above a (List.mem_of_getElem? hj)) q2⟩
  .rw [List.getElem?_append_right (by omega)] at hj
   by_cases h2:j=as.length
   .subst h2
    rw[Nat.sub_self] at hj;cases hj;exact⟨e,he,ht⟩
   .have:j - as.length=(j - as.length - 1)+1:=by omega
    rw[this] at hj;cases hj
theorem ZQ {R:Result->Shared->Prop}{S I d:Addr}{es:Array DictEntry}{ep:Nat}{h₁:Heap}{res:Value}(hh:A.handled=none)(hSI:S < I)(hSd:d≠S)(hId:d≠I)(hz:es.size<=sizeLine)
  (hR:∀h' tk acc c as,(∀b o,b≠S->b≠I->h₁.get? b=some o->h'.get? b=some o)->h'.get? S=some { cls:=.type "list",dict:=none,data:=.seq acc c,slots:=#[] }->as.length=es.size->RawG es I h' as->acc.toList=as.map Value.ref->R (.ok (.ret res)) { s with heap:=h',toks:=tk }) :
  ∀(k:Nat) (h:Heap) (tk c:Nat) (acc:Array Value) (as:List Addr),as.length+k=es.size->RSt h I d S as.length es.size ep->RawD h d es ep->(∀b o,b≠S->b≠I->h₁.get? b=some o->h.get? b=some o) ->
   h.get? S=some { cls:=.type "list",dict:=none,data:=.seq acc c,slots:=#[] }->acc.toList=as.map Value.ref->RawG es I h as->I < h.objs.size ->
   codeAny (model prog w) A (.builtin "list.extend.loop" ⟨[.ref S,.ref I,res],[]⟩) R { s with heap:=h,toks:=tk }:=by
 have ne:S≠I:=Nat.ne_of_lt hSI;intro k
 induction k with
 |zero =>
  intro h tk c acc as hk hst hD keep hS hacc hG hIs
  (refine codeAny_builtin PySem.F.entry_extend_loop ?_; rw[Around.under_plainId PySem.F.plain_extend_loop _])
  (show wpAny _ A.in1 (pyNext (.ref I) >>= _) _ _ _; refine wpAny_bind (xT (s:={ s with heap:=h,toks:=tk }) (A:=A.in1) hh hst (Heap.lt_size hS) hD rfl (fun e h' hx=>?_) fun _ h' kp=>?_))
  .rw [Array.getElem?_eq_none (by omega)] at hx; cases hx
  .exact wpAny_pure (hR h' tk acc c as (fun b o h1 h2 e=>kp b o h2 (keep b o h1 h2 e)) (kp S _ ne hS) (by omega) ⟨hG.rise,hG.above,fun j a hj=>let ⟨e,q1,q2⟩:=hG.pairs j a hj; ⟨e,q1,kp a _ (Nat.ne_of_gt (hG.above a (List.mem_of_getElem? hj))) q2⟩⟩ hacc)
 |succ k ih =>
  intro h tk c acc as hk hst hD keep hS hacc hG hIs;have hsz:acc.size=as.length:=by rw[<- Array.length_toList,hacc,List.length_map]
  (refine codeAny_builtin PySem.F.entry_extend_loop ?_; rw[Around.under_plainId PySem.F.plain_extend_loop _])
  (show wpAny _ A.in1 (pyNext (.ref I) >>= _) _ _ _; refine wpAny_bind (xT (s:={ s with heap:=h,toks:=tk }) (A:=A.in1) hh hst (Heap.lt_size hS) hD rfl (fun e h' hx hst' ht hz' kp=>?_) fun hx=>?_))
  .have hx:es[as.length]?=some e:=hx
   have ht:h'.get? h.objs.size=some { cls:=.type "tuple",data:=.seq #[e.key,e.val] }:=ht;have kp:∀b o,b≠I->h.get? b=some o->h'.get? b=some o:=kp;have hS':=kp S _ ne hS;have hSl:S < h.objs.size:=Heap.lt_size hS;have up:∀b o,b≠S->h'.get? b=some o->(h'.update S (Obj.mapSeq (·.push (Value.ref h.objs.size)))).get? b=some o:=fun b o nb e=>(Heap.get?_update_other _ _ (Ne.symm nb)).trans e;have up2:∀b o,b≠S->b≠I->h.get? b=some o->(h'.update S (Obj.mapSeq (·.push (Value.ref h.objs.size)))).get? b=some o:=fun b o n1 n2 e=>up b o n1 (kp b o n2 e)
   have ht':=up _ _ (Nat.ne_of_gt hSl) ht;have hG':RawG es I (h'.update S (Obj.mapSeq (·.push (Value.ref h.objs.size)))) (as++[h.objs.size]):=hG.snoc (fun b o lb e=>up2 b o (Nat.ne_of_gt (Nat.lt_trans hSI lb)) (Nat.ne_of_gt lb) e) rfl hIs hx ht';have hl:(as++[h.objs.size]).length=as.length+1:=by rw[List.length_append,List.length_singleton]
   have step:=ih _ tk _ (acc.push (Value.ref h.objs.size)) (as++[h.objs.size]) (by rw[hl]; omega) (by rw[hl]; exact hst'.keep up (Ne.symm ne)) (hD.at fun o e=>up2 d o hSd hId e) (fun b o h1 h2 e=>up2 b o h1 h2 (keep b o h1 h2 e)) (Heap.get?_update_self _ hS' rfl) (by rw[Array.toList_push,hacc,List.map_append]; rfl) hG' (Nat.lt_trans hIs (Heap.lt_size ht'))
   (show wpAny _ A.in1 (updateSeq S (·.push (Value.ref h.objs.size)) >>= _) _ _ _; refine wpAny_bind ?_)
   exact wpAny_updateSeq hS' rfl (wpAny_pure ⟨plainId_quiet PySem.F.plain_extend_loop _,step⟩) (by rw[hsz]; omega) (by show(acc.push (Value.ref h.objs.size)).size<=sizeLine+1; rw[Array.size_push,hsz]; omega)
  .have:as.length < es.size:=by omega
   rw[Array.getElem?_eq_getElem this] at hx;cases hx
end
section
variable {prog:Program}{w:World}{A:Around}{E:Value->Shared->Prop}{s:Shared}{v d:Addr}{es:Array DictEntry}{ep:Nat}
theorem ZR {Q:Value->Shared->Prop}(hv:s.heap.IsItemsView v d)(hD:RawD s.heap d es ep)(hQ:∀h':Heap,(∀b o,s.heap.get? b=some o->h'.get? b=some o)->h'.objs.size=s.heap.objs.size+1->RIt h' s.heap.objs.size d 0 es.size ep .none .none .none false->Q (.ref s.heap.objs.size) { s with heap:=h' }):
  wpAny (model prog w) A (pyIter (.ref v)) Q E s:=by
 obtain⟨ov,v1,v2,v3⟩:=id hv;obtain⟨od,d1,d2,d3⟩:=hD;have hown:Builtin.Dict_items.ownsTuple "dict_itemiterator" = true:=by decide
 refine wpAny_pyIter_slot hv.typeIs PySem.F.slot_dict_items_iter (wpAny_call_entry PySem.F.slot_dict_items_iter hv.typeIs PySem.F.entry_dict_items_iter ?_ (PySem.F.args_dict_items_iter_1 _))
 (unfold Builtin.«dict_items.__iter__»; refine wpAny_bind (wpAny_pure (wpAny_bind ?_)); unfold Builtin.Dict_items.dictOf; refine wpAny_bind (wpAny_field v1 v3 (x:=.ref d) rfl (wpAny_pure (wpAny_bind ?_))))
 (unfold Builtin.Dict_items.newIterator; refine wpAny_bind (wpAny_dictEntries d1 d3 (wpAny_bind (wpAny_dictEpoch d1 d3 ?_))); simp only[hown,if_true])
 refine wpAny_newObj_type (wpAny_pure ⟨_,rfl,"dict_itemiterator",_,⟨_,Heap.get?_push_size _ rfl,rfl⟩,PySem.F.slot_dict_itemiterator_next.lookup,?_⟩) (by simp only[sizeOk,Builtin.Dict_items.ownedTupleFields,List.size_toArray,List.length_append,List.length_cons,List.length_nil,sizeLine_eq]; omega)
 exact hQ _ (fun b o e=>Heap.get?_push_of_some _ e) (Heap.size_push _ _) (by
  have e:=Heap.get?_push_size (o:={ cls:=.type "dict_itemiterator",data:=.fields #[.none,.bool false,.ref d,.int 0 0,.int es.size 0,.int ep 0,.none,.none] }) s.heap rfl
  simpa [RIt,rawInt,Builtin.Dict_items.ownedTupleFields] using e)
theorem yA {R:Result->Shared->Prop}{S:Addr}{res:Value}{c₀:Nat}(hh:A.handled=none)(hv:s.heap.IsItemsView v d)(hD:RawD s.heap d es ep)(hSv:S≠v)(hSd:d≠S)(hS:s.heap.get? S=some { cls:=.type "list",data:=.seq #[] c₀ })(hz:es.size<=sizeLine)
  (hR:∀h' tk acc c as,(∀b o,b≠S->s.heap.get? b=some o->h'.get? b=some o)->h'.get? S=some { cls:=.type "list",dict:=none,data:=.seq acc c,slots:=#[] }->as.length=es.size->RawG es s.heap.objs.size h' as->acc.toList=as.map Value.ref->R (.ok (.ret res)) { s with heap:=h',toks:=tk }) :
  wpAny (model prog w) A.in1 (Builtin.List.listExtendWith (.ref S) (.ref v) res) (fun fin s'=>match fin with | .done f=>R (.ok f) s' | .again c'=>c'.quiet=true/\codeAny (model prog w) A c' R s') (fun e s'=>R (.error e) s') s:=by
 have hSI:S < s.heap.objs.size:=Heap.lt_size hS;have hdI:d < s.heap.objs.size:=let ⟨_,e,_⟩:=hD; Heap.lt_size e
 unfold Builtin.List.listExtendWith;refine wpAny_bind (wpAny_typeOf (T:="dict_items") hv.typeIs ?_);have f1:Builtin.List.listSameRef (.ref S) (.ref v)=false:=by simp[Builtin.List.listSameRef,hSv]
 have f2:(Value.type "dict_items" == Value.type "list")=false:=by decide
 have f3:(Value.type "dict_items" == Value.type "tuple")=false:=by decide
 (simp only[f1,f2,f3,Bool.or_false,Bool.false_eq_true,if_false]; refine wpAny_bind (ZR hv hD fun h1 k1 z1 r1=>?_))
 have key:∀(h:Heap) (c₁ tk:Nat),(∀b o,b≠S->h1.get? b=some o->h.get? b=some o)->h.get? S=some { cls:=.type "list",data:=.seq #[] c₁ }->codeAny (model prog w) A (.builtin "list.extend.loop" ⟨[.ref S,.ref s.heap.objs.size,res],[]⟩) R { s with heap:=h,toks:=tk }:=by
  intro h c₁ tk hk hS1;have hI:=hk _ _ (Nat.ne_of_gt hSI) r1;refine ZQ (h₁:=s.heap) (s:=s) hh hSI hSd (Nat.ne_of_lt hdI) hz (fun h' tk' acc c as kk hS' hl hG hacc=>hR h' tk' acc c as (fun b o nb e=>kk b o nb (Nat.ne_of_lt (Heap.lt_size e)) e) hS' hl hG hacc) es.size h tk c₁ #[] [] (Nat.zero_add _) ⟨_,_,_,_,hI,.inl ⟨rfl,rfl⟩⟩ (hD.at fun o e=>hk d o hSd (k1 d o e)) (fun b o nb _ e=>hk b o nb (k1 b o e)) hS1 rfl ⟨.nil,(fun _ z=>nomatch z),(fun j a z=>by simp at z)⟩ (Heap.lt_size hI)
 have hS1:=k1 _ _ hS;refine wpAny_bind (wpAny_holding (kdx_hint (let ⟨o,ho,hc,_⟩:=hv; ⟨o,k1 _ _ ho,hc⟩) ?_));refine wpAny_ite_split (fun _=>?_) (fun _=>wpAny_pure ⟨plainId_quiet PySem.F.plain_extend_loop _,key _ c₀ _ (fun b o _ e=>e) hS1⟩)
 (refine wpAny_bind (wpAny_rule (wpAny_bind ?_)); show wpAny _ _ (updateSeq S (·.push .none) >>= fun _=>updateSeq S (·.pop)) _ _ _; refine wpAny_bind (wpAny_updateSeq hS1 rfl ?_))
 have hS2:=Heap.get?_update_self (Obj.mapSeq (·.push Value.none)) hS1 rfl;refine wpAny_updateSeq (hz:=by seq_fits) hS2 rfl (wpAny_pure ⟨plainId_quiet PySem.F.plain_extend_loop _,key _ _ _ (fun b o nb e=>?_) (Heap.get?_update_self (Obj.mapSeq (·.pop)) hS2 rfl)⟩);exact(Heap.get?_update_other _ _ (Ne.symm nb)).trans ((Heap.get?_update_other _ _ (Ne.symm nb)).trans e)
theorem RawG.low {lo lo':Addr}{h:Heap}{as:List Addr}(g:RawG es lo h as)(hl:lo'<=lo):RawG es lo' h as:=⟨g.rise,fun a ha=>Nat.lt_of_le_of_lt hl (g.above a ha),g.pairs⟩
theorem kT {R:List Value->Shared->Prop}(hh:A.handled=none)(hv:s.heap.IsItemsView v d)(hD:RawD s.heap d es ep)(hz:es.size<=sizeLine)
  (hR:∀(h':Heap) (tk:Nat) (as:List Addr),(∀b o,s.heap.get? b=some o->h'.get? b=some o)->as.length=es.size->RawG es s.heap.objs.size h' as->R (as.map Value.ref) { s with heap:=h',toks:=tk }):wpAny (model prog w) A (collect (.ref v)) R E s:=by
 have hvl:v < s.heap.objs.size:=let ⟨_,ho,_⟩:=hv; Heap.lt_size ho
 have hdl:d < s.heap.objs.size:=let ⟨_,e,_⟩:=hD; Heap.lt_size e
 (unfold collect; refine wpAny_bind (wpAny_runValue (codeAny_builtin entry_proto_collect' ?_)); rw[Around.under_plainId PySem.F.plain_proto_collect _])
 (show wpAny _ A.in1 (newList [] >>= fun l=>again (.builtin "list.__iadd__" ⟨[l,.ref v],[]⟩)) _ _ s; refine wpAny_bind (wpAny_newObj_type (wpAny_pure ⟨plainId_quiet PySem.F.plain_list_iadd _,codeAny_builtin entry_list_iadd' ?_⟩)))
 rw[Around.under_plainId PySem.F.plain_list_iadd _];have up:∀b o,s.heap.get? b=some o->(s.heap.push { cls:=.type "list",data:=.seq ([]:List Value).toArray }).get? b=some o:=fun b o e=>Heap.get?_push_of_some _ e;have hS1:(s.heap.push { cls:=.type "list",data:=.seq ([]:List Value).toArray }).get? s.heap.objs.size=some { cls:=.type "list",data:=.seq #[] }:=Heap.get?_push_size _ rfl;show wpAny _ A.in1 (Builtin.List.listExtendWith (.ref s.heap.objs.size) (.ref v) (.ref s.heap.objs.size)) _ _ _
 have key:=yA (prog:=prog) (w:=w) (A:=A) (s:={ s with heap:=s.heap.push { cls:=.type "list",data:=.seq ([]:List Value).toArray } }) (es:=es) (ep:=ep) (res:=.ref s.heap.objs.size)
  (R:=fun(q:Result) (s':Shared)=>∃(h':Heap) (tk:Nat) (acc:Array Value) (c:Nat) (as:List Addr),q=.ok (.ret (.ref s.heap.objs.size))/\s'={ s with heap:=h',toks:=tk }/\(∀b o,s.heap.get? b=some o->h'.get? b=some o)/\h'.get? s.heap.objs.size=some { cls:=.type "list",dict:=none,data:=.seq acc c,slots:=#[] }/\as.length=es.size/\RawG es s.heap.objs.size h' as/\acc.toList=as.map Value.ref)
  hh (let ⟨o,ho,x⟩:=hv; ⟨o,up _ _ ho,x⟩) (hD.at fun o e=>up d o e) (Nat.ne_of_gt hvl) (Nat.ne_of_lt hdl) hS1 hz fun h' tk acc c as hk hS' hl hG hacc=>⟨h',tk,acc,c,as,rfl,rfl,fun b o e=>hk b o (Nat.ne_of_lt (Heap.lt_size e)) (up b o e),hS',hl,hG.low (by show s.heap.objs.size<=(s.heap.push _).objs.size; rw[Heap.size_push]; exact Nat.le_succ _),hacc⟩
 refine wpAny_mono key (fun fin s' x=>?_) fun e s' x=>?_
 .have last:∀(h':Heap) (tk:Nat) (acc:Array Value) (c:Nat) (as:List Addr),(∀b o,s.heap.get? b=some o->h'.get? b=some o)->h'.get? s.heap.objs.size=some { cls:=.type "list",dict:=none,data:=.seq acc c,slots:=#[] }->as.length=es.size->RawG es s.heap.objs.size h' as->acc.toList=as.map Value.ref->R acc.toList { s with heap:=h',toks:=tk }:=fun h' tk acc c as y1 _ y3 y4 y5=>by
   rw[y5]; exact hR h' tk as y1 y3 y4
  cases fin with
  |done f =>
   obtain⟨h',tk,acc,c,as,e,rfl,y1,y2,y3,y4,y5⟩:=x;cases e
   (show wpAny _ A (load s.heap.objs.size >>= _) _ _ _; exact wpAny_bind (wpAny_load y2 (wpAny_pure (last h' tk acc c as y1 y2 y3 y4 y5))))
  |again c1 =>
   refine⟨x.1,codeAny_mono x.2 ?_⟩;rintro q s2 ⟨h',tk,acc,c,as,rfl,rfl,y1,y2,y3,y4,y5⟩
   (show wpAny _ A (load s.heap.objs.size >>= _) _ _ _; exact wpAny_bind (wpAny_load y2 (wpAny_pure (last h' tk acc c as y1 y2 y3 y4 y5))))
 .obtain ⟨_,_,_,_,_,z,_⟩:=x
  cases z
end
end PySem.W
namespace L2
open PySem PySem.W PyProof.Rows
section
variable {α:Type}{as:List Addr}{ps:List α}
theorem zip_at (nd:as.Nodup){j:Nat}{a:Addr}{p:α}(ha:as[j]?=some a)(hp:ps[j]?=some p):(as.zip ps).find? (fun q=>q.1==a)=some (a,p):=by
 induction as generalizing ps j with
 |nil=>cases ha
 |cons x as ih =>
  cases ps with
  |nil=>cases hp
  |cons y ps =>
   have nd:=List.nodup_cons.mp nd;rw[List.zip_cons_cons,List.find?_cons]
   cases j with
   |zero=>cases ha; cases hp; simp
   |succ j =>
    have ha:as[j]?=some a:=ha;rw[show(x==a)=false from beq_false_of_ne fun e=>nd.1 (e▸List.mem_of_getElem? ha)];exact ih nd.2 ha hp
theorem zip_of {b:Addr}{q:Addr×α}(h:(as.zip ps).find? (fun q=>q.1==b)=some q):∃j:Nat,as[j]?=some b/\ps[j]?=some q.2:=by
 have h0:=List.find?_some h;have h1:q.1=b:=eq_of_beq h0;obtain⟨j,hj⟩:=List.mem_iff_getElem?.mp (List.mem_of_find?_eq_some h);rw[List.getElem?_zip_eq_some] at hj;exact⟨j,by rw[<- h1]; exact hj.1,hj.2⟩
end
inductive TPs (H:Hp):List Addr->List (List Key×V)->Prop
 |nil:TPs H [] []
 |cons {a b:Addr} {k:List Key} {v:V} {as:List Addr} {kvs:List (List Key×V)} (h1:H a=some (.tup [.ref b,v])) (h2:H b=some (.tup (k.map kV))) (r:TPs H as kvs):TPs H (a::as) ((k,v)::kvs)
def mkT (as:List Addr)(ps:List (Addr×V)):Addr->Option (List V):=fun b=>((as.zip ps).find? fun p=>p.1==b).map fun p=>[.ref p.2.1,p.2.2]
theorem ZA {H:Hp}:∀{as:List Addr}{kvs:List (List Key×V)},as.length=kvs.length->(∀(j:Nat) (a:Addr) (p:List Key×V),as[j]?=some a->kvs[j]?=some p->∃b,H a=some (.tup [.ref b,p.2])/\H b=some (.tup (p.1.map kV)))->TPs H as kvs
 |[],[],_,_=>.nil
 |[],_::_,h,_=>nomatch h
 |_::_,[],h,_=>nomatch h
 |a::as,p::kvs,h,k=>let ⟨b,e1,e2⟩:=k 0 a p rfl rfl; .cons e1 e2 (ZA (Nat.succ.inj h) fun j a' p' h1 h2=>k (j+1) a' p' h1 h2)
theorem kt_raw {H:Hp}{kvs:List (List Key×V)}{xs:List (List Key×Addr×Value)}(r:KT H kvs xs):∃ps:List (Addr×V),ps.length=kvs.length/\∀j:Nat,∀p∈ps[j]?,∃k u,kvs[j]?=some (k,p.2)/\xs[j]?=some (k,p.1,u)/\H p.1=some (.tup (k.map kV))/\RelV p.2 u:=by
 induction r with
 |nil=>exact⟨[],rfl,fun j p h=>by cases h⟩
 |@cons p q l1 l2 h r ih =>
  obtain⟨ps,e,f⟩:=ih;obtain⟨k,v⟩:=p;obtain⟨k',b,u⟩:=q;obtain⟨z1,z2,z3⟩:=h;cases (show k=k' from z1);refine⟨(b,v)::ps,by rw[List.length_cons,List.length_cons,e],fun j p hp=>?_⟩
  cases j with
  |zero=>cases hp; exact⟨k,u,rfl,rfl,z2,z3⟩
  |succ j=>exact f j p hp
section
variable {X:Cx}
theorem gO {prog:Program}{w:World}(d:Addr)(hd:(d==sysModules)=false):MeetsIn prog w (Builtin.«dict.items» ⟨[.ref d],[]⟩) (fun _ R s=>s.TypeIs (.ref d) "dict"/\R (.ok (.ret (.ref s.heap.objs.size))) { s with heap:=s.heap.push { cls:=.type "dict_items",data:=.fields #[.ref d] } }) :=
 .of_wp fun A R s ⟨hT,h⟩=>by
  (unfold Builtin.«dict.items»; refine wpAny_bind ?_; unfold Builtin.Dict.noArgs; refine wpAny_bind (wpAny_notOrdered_dict hT ?_))
  (show wpAny _ _ (pure d) _ _ s; refine wpAny_pure ?_; show wpAny _ _ (Builtin.Dict.showsAll d >>= _) _ _ s; unfold Builtin.Dict.showsAll)
  (rw[if_neg (by rw[hd]; exact Bool.false_ne_true)]; exact wpAny_bind (wpAny_pure (wpAny_bind (wpAny_newObj_type (wpAny_pure ⟨_,rfl,h⟩)))))
def rItemsT:V->List V->Hp->VK->Prop:=fun x vs H Q=>∃d kvs,x=.ref d/\vs=[]/\H d=some (.dT kvs)/\∀v,H v=none->Q (.ref v) (upd H v (.ext (xK v d)))
theorem XO:MtR X "dict.items" rItemsT:=by
 intro pins s σ H x xs v us Q I rx rv h;obtain⟨d,kvs,rfl,rfl,hd,q⟩:=h;cases (show v=Value.ref d from rx);cases rv;obtain⟨z,hS,ys,rel,dd⟩:=Ks I.hok hd;refine call_meetsIn F.slot_dict_items dd.typeIs F.entry_dict_items (F.args_dict_items_1 _) (gO d hS) ⟨dd.typeIs,?_⟩;refine⟨.ref s.heap.objs.size,_,I.laid (t':=s.toks) (o:=.ext (xK s.heap.objs.size d)) (fun b o e=>Heap.get?_push_of_some _ e) (Nat.le_refl _) ⟨⟨_,Heap.get?_push_size _ rfl,rfl,rfl⟩,⟨_,Heap.get?_push_size _ rfl⟩,?_⟩,rfl,q _ (I.hok.fresh (Nat.le_refl _))⟩
 rintro h1 h2 ⟨o,e1,e2⟩ e;exact⟨o,e o e1,e2⟩
theorem oR (hc:X.calm=true):CallR X (.builtin "sorted") (fun xs H Q=>∃v d kvs lt,xs=[.ref v]/\H v=some (.ext (xK v d))/\H d=some (.dT kvs)/\kvs.length < 64 /\
  ∀as H1,Same H H1->TPs H1 as kvs->(∀a∈as,H a=none)->(∀a,H a=none->H1 a≠none->a∈as)->Srt X H1 (List.map V.ref as) lt/\∀p,H1 p=none->Q (.ref p) (upd H1 p (.lst (uG lt (List.map V.ref as))))):=by
 intro pins s σ H xs us Q I r h;obtain⟨v,d,kvs,lt,rfl,hv,hd,h64,hq⟩:=h;obtain⟨u,rfl,ru⟩:=r.one;cases ru;obtain⟨z,hS,ys,rel,dd⟩:=Ks I.hok hd;obtain⟨hview,_,_⟩:=(show ObjOk X.prog X.w H s.heap v (.ext (xK v d)) from I.hok v _ hv);obtain⟨od,es,ep,d1,d2,d3,d4,_,_⟩:=dd;obtain⟨ps,pl,pf⟩:=kt_raw rel;have hl:kvs.length=ys.length:=Paired.length rel;have hes:es.size=kvs.length:=by rw[size_of_entries d4,hl]
 refine Calls.call_function_entry kind_sorted plain_sorted entry_sorted (args_sorted1 _) (?_:wpAny _ _ (Builtin.«sorted» _) _ _ _);unfold Builtin.«sorted»;refine wpAny_bind (m:=checkCount "sorted" 1 1 _) (wpAny_pure (wpAny_bind (kT (by simp[I.ok.hd hc]) hview ⟨od,d1,d2,d3⟩ (by rw[hes]; exact z) fun h' tk as keep hlen G=>?_)));have nd:as.Nodup:=G.rise.imp fun h=>Nat.ne_of_lt h;have hlen':as.length=kvs.length:=hlen.trans hes
 have up:∀a∈as,s.heap.objs.size<=a:=fun a ha=>Nat.le_of_lt (G.above a ha)
 have inv:∀b xs,mkT as ps b=some xs->∃(j:Nat) (p:Addr×V),as[j]?=some b/\ps[j]?=some p/\xs=[.ref p.1,p.2]:=fun b xs e=>by
  unfold mkT at e
  cases y:(as.zip ps).find? fun p=>p.1==b with
  |none=>rw[y] at e; cases e
  |some q =>
   rw[y] at e;cases e;obtain⟨j,e1,e2⟩:=zip_of y;exact⟨j,q.2,e1,e2,rfl⟩
 have I1:Inv X pins σ (dH H (mkT as ps)) { s with heap:=h',toks:=tk }:=I.tups keep fun b xs e=>by
  obtain⟨j,p,e1,e2,rfl⟩:=inv b xs e;obtain⟨k,u,f1,f2,f3,f4⟩:=pf j p e2;obtain⟨en,g1,g2⟩:=G.pairs j b e1;have g3:es[j]?=some (entryOfKey (tupleKind (oQ X.prog X.w)) (k,p.1,u)):=by rw[entry_at d4,f2]; rfl
  rw[g3] at g1;cases g1;exact⟨up b (List.mem_of_getElem? e1),by show 2<=sizeLine; decide,[.ref p.1,u],.cons rfl (.cons f4 .nil),⟨_,g2,rfl,⟨_,rfl⟩,rfl⟩⟩
 have fr:∀b xs,mkT as ps b=some xs->H b=none:=fun b xs e=>by
  obtain⟨j,p,e1,_⟩:=inv b xs e;exact I.hok.fresh (up b (List.mem_of_getElem? e1))
 obtain⟨hs,q⟩:=hq as (dH H (mkT as ps)) (fun b o e=>rJ fr e) (ZA hlen' fun j a p h1 h2=>by
   obtain⟨p',hp'⟩:∃p',ps[j]?=some p':=⟨ps[j]'(by rw[pl]; exact(List.getElem?_eq_some_iff.1 h2).1),List.getElem?_eq_getElem _⟩;obtain⟨k,u,f1,f2,f3,f4⟩:=pf j p' hp';rw[h2] at f1;cases f1
   exact⟨p'.1,zF (by unfold mkT; rw[zip_at nd h1 hp']; rfl),rJ fr f3⟩) (fun a ha=>I.hok.fresh (up a ha)) fun a n1 n2=>by
  cases y:mkT as ps a with
  |none=>rw[qY y] at n2; exact absurd n1 n2
  |some xs=>obtain⟨j,p,e1,_⟩:=inv a xs y; exact List.mem_of_getElem? e1
 have rv:Vals (as.map V.ref) (as.map Value.ref):=by
  clear nd hlen' up I1 fr hs q hlen G hq inv
  induction as with
  |nil=>exact .nil
  |cons a as ih=>exact .cons rfl ih
 exact tF (Nat.le_refl _) I1 rv (by rw[List.length_map]; omega) hs fun p s' hp I'=>⟨_,rfl,.ref p,_,I',rfl,q p hp⟩
end
end L2
namespace L2
open PySem PySem.W PySem.Spec PyProof.Rows
section
variable {X:Cx}
def cntK (k:Key)(ks:List Key):Nat:=ks.countP fun j=>decide (j=k)
end
end L2
namespace CL
open PySem PySem.Spec L2
open PyProof.Rows hiding St
inductive PV where
 |non | bl (b:Bool) | int (i:Int) | str (x:Str) | ty (n:String) | tup (xs:List PV) | kt (xs:List PV) | fz (xs:List PV) | vw (d:Addr) | ref (a:Addr)
def imm:HO->Bool
 |.tup _=>true
 |.frz _ (.dK _)=>false
 |.frz _ (.dT _)=>false
 |.frz _ _=>true
 |.ext _=>true
 |_=>false
def Imm (H H':Hp):Prop:=∀a o,imm o=true->H a=some o->H' a=some o
theorem Imm.new {H:Hp}{p:Addr}(hp:H p=none)(o:HO):Imm H (upd H p o):=fun a u _ e=>by
 rw[cQ (aZ e hp)]; exact e
theorem Imm.mut {H:Hp}{p:Addr}{u:HO}(hp:H p=some u)(hu:imm u=false)(o:HO):Imm H (upd H p o):=fun a v i e=>by
 have:a≠p:=by
  intro z; subst z; rw[hp] at e; cases e; rw[hu] at i; cases i
 rw[cQ this]; exact e
def Fz (K:PySem.W.Frag)(H:Hp)(a:Addr)(xs:List V):Prop :=
 (∃o,H a=some (.frz o (.lst xs))) \/
  ∃(o:Obj) (its:Array Value) (n:Nat),K.lookup a=some o/\o.cls=.type "list"/\o.dict=none/\o.data=.seq its n/\its.size<=sizeLine/\Vals xs its.toList
theorem Fz.sq {K:PySem.W.Frag}{H:Hp}{a:Addr}{xs:List V}(h:Fz K H a xs):SqL K H a xs:=by
 rcases h with ⟨o,h⟩ | h
 .exact .inl (.inr ⟨o,h⟩)
 .exact .inr h
theorem Fz.imm {K:PySem.W.Frag}{H H':Hp}{a:Addr}{xs:List V}(h:Fz K H a xs)(k:Imm H H'):Fz K H' a xs:=by
 rcases h with ⟨o,h⟩ | h
 .exact .inl ⟨o,k _ _ rfl h⟩
 .exact .inr h
theorem SqT.imm {K:PySem.W.Frag}{H H':Hp}{a:Addr}{xs:List V}(h:SqT K H a xs)(k:Imm H H'):SqT K H' a xs:=by
 rcases h with (h | ⟨o,h⟩) | h
 .exact .inl (.inl (k _ _ rfl h))
 .exact .inl (.inr ⟨o,k _ _ rfl h⟩)
 .exact .inr h
mutual
inductive Rep (K:PySem.W.Frag)(H:Hp):V->PV->Prop
 |non:Rep K H .non .non
 |bl (b:Bool):Rep K H (.bl b) (.bl b)
 |int (i:Int):Rep K H (.int i) (.int i)
 |str (x:Str):Rep K H (.str x) (.str x)
 |ty (n:String):Rep K H (.ty n) (.ty n)
 |ref (a:Addr):Rep K H (.ref a) (.ref a)
 |tup {a:Addr} {vs:List V} {ts:List PV} (h:H a=some (.tup vs)) (r:Reps K H vs ts):Rep K H (.ref a) (.tup ts)
 |kt {a:Addr} {vs:List V} {ts:List PV} (h:SqT K H a vs) (r:Reps K H vs ts):Rep K H (.ref a) (.kt ts)
 |fz {a:Addr} {vs:List V} {ts:List PV} (h:Fz K H a vs) (r:Reps K H vs ts):Rep K H (.ref a) (.fz ts)
 |vw {a d:Addr} (h:H a=some (.ext (xK a d))):Rep K H (.ref a) (.vw d)
inductive Reps (K:PySem.W.Frag)(H:Hp):List V->List PV->Prop
 |nil:Reps K H [] []
 |cons {v:V} {t:PV} {vs:List V} {ts:List PV} (h:Rep K H v t) (r:Reps K H vs ts):Reps K H (v::vs) (t::ts)
end
section
variable {K:PySem.W.Frag}{H H' H1 H2:Hp}
mutual
theorem Rep.imm {v:V}{t:PV}(k:Imm H H'):Rep K H v t->Rep K H' v t
 |.non=>.non
 |.bl b=>.bl b
 |.int i=>.int i
 |.str x=>.str x
 |.ty n=>.ty n
 |.ref a=>.ref a
 |.tup h r=>.tup (k _ _ rfl h) (Reps.imm k r)
 |.kt h r=>.kt (SqT.imm h k) (Reps.imm k r)
 |.fz h r=>.fz (Fz.imm h k) (Reps.imm k r)
 |.vw h=>.vw (k _ _ rfl h)
theorem Reps.imm {vs:List V}{ts:List PV}(k:Imm H H'):Reps K H vs ts->Reps K H' vs ts
 |.nil=>.nil
 |.cons h r=>.cons (Rep.imm k h) (Reps.imm k r)
end
theorem Reps.len {vs:List V}{ts:List PV}:Reps K H vs ts->vs.length=ts.length
 |.nil=>rfl
 |.cons _ r=>congrArg (· + 1) r.len
theorem Reps.get {vs:List V}{ts:List PV}{i:Nat}{t:PV}:Reps K H vs ts->ts[i]?=some t->∃v,vs[i]?=some v/\Rep K H v t
 |.nil,e=>by cases e
 |.cons h r,e=>by
  cases i with
  |zero=>cases e; exact⟨_,rfl,h⟩
  |succ i=>exact r.get (i:=i) e
theorem Reps.append {vs us:List V}{ts ss:List PV}:Reps K H vs ts->Reps K H us ss->Reps K H (vs++us) (ts++ss)
 |.nil,r=>r
 |.cons h t,r=>.cons h (t.append r)
theorem Reps.take {vs:List V}{ts:List PV}:∀(n:Nat),Reps K H vs ts->Reps K H (vs.take n) (ts.take n)
 |0,_=>.nil
 |_+1,.nil=>.nil
 |n+1,.cons h r=>.cons h (r.take n)
theorem Reps.drop {vs:List V}{ts:List PV}:∀(n:Nat),Reps K H vs ts->Reps K H (vs.drop n) (ts.drop n)
 |0,r=>r
 |_+1,.nil=>.nil
 |n+1,.cons _ r=>r.drop n
theorem Reps.set {vs:List V}{ts:List PV}{v:V}{t:PV}(h:Rep K H v t):∀(n:Nat),Reps K H vs ts->Reps K H (vs.set n v) (ts.set n t)
 |_,.nil=>.nil
 |0,.cons _ r=>.cons h r
 |n+1,.cons g r=>.cons g (r.set h n)
theorem Reps.reverse {vs:List V}{ts:List PV}(r:Reps K H vs ts):Reps K H vs.reverse ts.reverse:=by
 induction vs generalizing ts with
 |nil=>cases r; exact .nil
 |cons v vs ih =>
  cases r with
  |cons h r=>rw[List.reverse_cons,List.reverse_cons]; exact(ih r).append (.cons h .nil)
end
inductive CO where
 |lst (xs:List PV)
 |dK (kvs:List (Key×PV))
 |fK (kvs:List (Key×PV))
 |dT (kvs:List (List Key×PV))
 |fT (kvs:List (List Key×PV))
 |dP (kvs:List (List (List Key)×PV))
 |ins (c dx:Addr) (fs:List (Str×PV))
abbrev CH:=Addr->Option CO
def yQ (C:CH)(a:Addr)(o:CO):CH:=fun b=>if b=a then some o else C b
theorem jQ {C:CH}{a:Addr}{o:CO}:yQ C a o a=some o:=if_pos rfl
theorem wQ {C:CH}{a b:Addr}{o:CO}(h:b≠a):yQ C a o b=C b:=if_neg h
abbrev FP {κ:Type}(K:PySem.W.Frag)(H:Hp):List (κ×V)->List (κ×PV)->Prop:=Paired fun p q=>p.1=q.1/\Rep K H p.2 q.2
abbrev KP (K:PySem.W.Frag)(H:Hp):List (Key×V)->List (Key×PV)->Prop:=Paired fun p q=>p.1=q.1/\Rep K H p.2 q.2
def ORel (K:PySem.W.Frag)(H:Hp)(a:Addr):CO->Prop
 |.lst ts=>∃vs,H a=some (.lst vs)/\Reps K H vs ts
 |.dK kvs=>∃vs,H a=some (.dK vs)/\KP K H vs kvs
 |.fK kvs=>∃o vs,H a=some (.frz o (.dK vs))/\KP K H vs kvs
 |.dT kvs=>∃vs,H a=some (.dT vs)/\FP K H vs kvs
 |.fT kvs=>∃o vs,H a=some (.frz o (.dT vs))/\FP K H vs kvs
 |.dP kvs=>∃vs,H a=some (.dP vs)/\FP K H vs kvs
 |.ins c dx fs=>∃gs,H a=some (.ins c dx gs)/\FP K H gs fs
def HRel (K:PySem.W.Frag)(H:Hp)(C:CH):Prop:=∀a o,C a=some o->ORel K H a o
def still:Option CO->Bool
 |none=>true
 |some (.fK _)=>true
 |some (.fT _)=>true
 |_=>false
def Fw (H:Hp)(C:CH)(H':Hp)(C':CH):Prop:=∀a,still (C a)=true->H a≠none->C' a=C a/\H' a=H a
section
variable {K:PySem.W.Frag}{H H' H1 H2:Hp}{C C' C1 C2:CH}
theorem Fw.refl:Fw H C H C:=fun _ _ _=>⟨rfl,rfl⟩
theorem Fw.trans (f:Fw H C H1 C1)(g:Fw H1 C1 H2 C2):Fw H C H2 C2:=fun a h n=>by
 obtain⟨c,e⟩:=f a h n;obtain⟨c',e'⟩:=g a (by rw[c]; exact h) (by rw[e]; exact n);exact⟨c'.trans c,e'.trans e⟩
theorem ORel.mut {a:Addr}{o:CO}(h:ORel K H a o):∃u,H a=some u/\imm u=false:=by
 cases o with
 |lst ts=>obtain⟨vs,e,_⟩:=h; exact⟨_,e,rfl⟩
 |dK ts=>obtain⟨vs,e,_⟩:=h; exact⟨_,e,rfl⟩
 |fK ts=>obtain⟨o,vs,e,_⟩:=h; exact⟨_,e,rfl⟩
 |dT ts=>obtain⟨vs,e,_⟩:=h; exact⟨_,e,rfl⟩
 |fT ts=>obtain⟨o,vs,e,_⟩:=h; exact⟨_,e,rfl⟩
 |dP ts=>obtain⟨vs,e,_⟩:=h; exact⟨_,e,rfl⟩
 |ins c dx fs=>obtain⟨vs,e,_⟩:=h; exact⟨_,e,rfl⟩
theorem HRel.hid (h:HRel K H C){a:Addr}{o:HO}(i:imm o=true)(e:H a=some o):C a=none:=by
 cases c:C a with
 |none=>rfl
 |some u =>
  obtain⟨v,e',i'⟩:=(h a u c).mut;rw[e] at e'; cases e'; rw[i] at i'; cases i'
theorem HRel.fresh (h:HRel K H C){a:Addr}(e:H a=none):C a=none:=by
 cases c:C a with
 |none=>rfl
 |some u =>
  obtain⟨v,e',i'⟩:=(h a u c).mut;rw[e] at e'; cases e'
theorem Fw.imm (f:Fw H C H' C')(h:HRel K H C):Imm H H':=fun a o i e=>by
 rw[(f a (by rw[h.hid i e]; rfl) (by rw[e]; exact fun z=>nomatch z)).2]; exact e
theorem ORel.imm {a:Addr}{o:CO}(h:ORel K H a o)(k:Imm H H')(e:H' a=H a):ORel K H' a o:=by
 cases o with
 |lst ts=>obtain⟨vs,q,r⟩:=h; exact⟨vs,e.trans q,r.imm k⟩
 |dK ts=>obtain⟨vs,q,r⟩:=h; exact⟨vs,e.trans q,Paired.mapP r fun _ _ z=>⟨z.1,z.2.imm k⟩⟩
 |fK ts=>obtain⟨o,vs,q,r⟩:=h; exact⟨o,vs,e.trans q,Paired.mapP r fun _ _ z=>⟨z.1,z.2.imm k⟩⟩
 |dT ts=>obtain⟨vs,q,r⟩:=h; exact⟨vs,e.trans q,Paired.mapP r fun _ _ z=>⟨z.1,z.2.imm k⟩⟩
 |fT ts=>obtain⟨o,vs,q,r⟩:=h; exact⟨o,vs,e.trans q,Paired.mapP r fun _ _ z=>⟨z.1,z.2.imm k⟩⟩
 |dP ts=>obtain⟨vs,q,r⟩:=h; exact⟨vs,e.trans q,Paired.mapP r fun _ _ z=>⟨z.1,z.2.imm k⟩⟩
 |ins c dx fs=>obtain⟨vs,q,r⟩:=h; exact⟨vs,e.trans q,Paired.mapP r fun _ _ z=>⟨z.1,z.2.imm k⟩⟩
theorem HRel.new (h:HRel K H C){p:Addr}(hp:H p=none)(o:HO):HRel K (upd H p o) C:=fun a u c=>by
 obtain⟨v,e,_⟩:=(h a u c).mut;exact(h a u c).imm (Imm.new hp o) (cQ (aZ e hp))
theorem Fw.new {p:Addr}(hp:H p=none)(o:HO):Fw H C (upd H p o) C:=fun a c n=>⟨rfl,cQ fun z=>n (z▸hp)⟩
theorem HRel.lay (h:HRel K H C){p:Addr}(hp:H p=none){o:HO}{u:CO}(r:ORel K (upd H p o) p u):HRel K (upd H p o) (yQ C p u):=fun a v c=>by
 by_cases e:a=p
 .subst e; rw[jQ] at c; cases c; exact r
 .rw [wQ e] at c; exact h.new hp o a v c
theorem Fw.lay {p:Addr}(hp:H p=none)(o:HO)(u:CO):Fw H C (upd H p o) (yQ C p u):=fun a c n=>by
 have e:a≠p:=fun z=>n (z▸hp);exact⟨wQ e,cQ e⟩
theorem HRel.put (h:HRel K H C){p:Addr}{o₀:HO}(hp:H p=some o₀)(hi:imm o₀=false){o:HO}{u:CO}(r:ORel K (upd H p o) p u):HRel K (upd H p o) (yQ C p u):=fun a v c=>by
 by_cases e:a=p
 .subst e; rw[jQ] at c; cases c; exact r
 .rw [wQ e] at c; exact(h a v c).imm (Imm.mut hp hi o) (cQ e)
theorem Fw.put {p:Addr}{u₀:CO}(hp:C p=some u₀)(o:HO)(u:CO)(hs:still (some u₀)=false:=by rfl):Fw H C (upd H p o) (yQ C p u):=fun a c n=>by
 have e:a≠p:=fun z=>by subst z; rw[hp,hs] at c; cases c
 exact⟨wQ e,cQ e⟩
end
abbrev CSt:=List (Option PV)
abbrev K1:=PV->CH->Prop
def RepO (K:PySem.W.Frag)(H:Hp):Option V->Option PV->Prop
 |_,none=>True
 |some v,some t=>Rep K H v t
 |none,some _=>False
def SRel (K:PySem.W.Frag)(H:Hp):St->CSt->Prop:=Paired (RepO K H)
section
variable {K:PySem.W.Frag}{H H':Hp}{C C':CH}
theorem RepO.imm {v:Option V}{t:Option PV}(k:Imm H H')(h:RepO K H v t):RepO K H' v t:=by
 cases t with
 |none=>cases v<;>trivial
 |some t=>cases v with
  |none=>exact h
  |some v=>exact Rep.imm k h
theorem SRel.imm {σ:St}{ρ:CSt}(s:SRel K H σ ρ)(k:Imm H H'):SRel K H' σ ρ:=Paired.mapP s fun _ _=>RepO.imm k
theorem SRel.get {σ:St}{ρ:CSt}{i:Nat}{t:PV}(s:SRel K H σ ρ)(e:ρ[i]?=some (some t)):∃v,σ[i]?=some (some v)/\Rep K H v t:=by
 induction s generalizing i with
 |nil=>cases e
 |@cons a b l₁ l₂ h r ih =>
  cases i with
  |zero =>
   cases e
   cases a with
   |none=>exact h.elim
   |some v=>exact⟨v,rfl,h⟩
  |succ i=>exact ih (i:=i) e
theorem SRel.set {σ:St}{ρ:CSt}{v:V}{t:PV}(s:SRel K H σ ρ)(h:Rep K H v t)(i:Nat):SRel K H (σ.set i (some v)) (ρ.set i (some t)):=by
 induction s generalizing i with
 |nil=>exact .nil
 |cons h' r ih =>
  cases i with
  |zero=>exact .cons h r
  |succ i=>exact .cons h' (ih i)
end
def iZ {α β:Type}(K:PySem.W.Frag)(rel:Hp->α->β->Prop)(c:CSt->CH->(β->CH->Prop)->Prop):St->Hp->(α->Hp->Prop)->Prop:=fun σ H Q =>
 ∃ρ C R,SRel K H σ ρ/\HRel K H C/\c ρ C R/\∀v H' t C',R t C'->rel H' v t->HRel K H' C'->Fw H C H' C'->Q v H'
abbrev TCE:=CSt->CH->K1->Prop
abbrev TCT:=CSt->CH->(Bool->CH->Prop)->Prop
abbrev TCA:=CSt->CH->(List PV->CH->Prop)->Prop
abbrev eM:Hp->Bool->Bool->Prop:=fun _ a b=>a=b
structure mY where
 nx:CSt->CH->Prop
 rt:K1
 bk:CSt->CH->Prop:=fun _ _=>False
 ct:CSt->CH->Prop:=fun _ _=>False
abbrev TCS:=mY->CSt->CH->Prop
structure ERel (K:PySem.W.Frag)(H:Hp)(C:CH)(E:mY)(D:oE):Prop where
 nx:∀σ' H' ρ' C',E.nx ρ' C'->SRel K H' σ' ρ'->HRel K H' C'->Fw H C H' C'->D.nx σ' H'
 rt:∀v H' t C',E.rt t C'->Rep K H' v t->HRel K H' C'->Fw H C H' C'->D.rt v H'
 bk:∀σ' H' ρ' C',E.bk ρ' C'->SRel K H' σ' ρ'->HRel K H' C'->Fw H C H' C'->D.bk σ' H'
 ct:∀σ' H' ρ' C',E.ct ρ' C'->SRel K H' σ' ρ'->HRel K H' C'->Fw H C H' C'->D.ct σ' H'
theorem ERel.fw {K:PySem.W.Frag}{H H1:Hp}{C C1:CH}{E:mY}{D:oE}(e:ERel K H C E D)(f:Fw H C H1 C1):ERel K H1 C1 E D :=
 ⟨fun σ' H' ρ' C' h s r g=>e.nx σ' H' ρ' C' h s r (f.trans g),fun v H' t C' h s r g=>e.rt v H' t C' h s r (f.trans g),fun σ' H' ρ' C' h s r g=>e.bk σ' H' ρ' C' h s r (f.trans g),fun σ' H' ρ' C' h s r g=>e.ct σ' H' ρ' C' h s r (f.trans g)⟩
def JM (K:PySem.W.Frag)(c:TCS):TS:=fun D σ H=>∃ρ C E,SRel K H σ ρ/\HRel K H C/\c E ρ C/\ERel K H C E D
structure CE (X:Cx)(e:Expr)(c:TCE):Prop where
 h:JE X e (iZ X.K (Rep X.K) c)
structure CT (X:Cx)(e:Expr)(c:TCT):Prop where
 h:JT X e (iZ X.K eM c)
structure CW (X:Cx)(e:Expr)(c:TCT):Prop where
 h:JW X e (iZ X.K eM c)
structure CA (X:Cx)(es:List Expr)(c:TCA):Prop where
 h:JA X es (iZ X.K (Reps X.K) c)
structure CS (X:Cx)(st:Stmt)(c:TCS):Prop where
 h:JS X st (JM X.K c)
structure CB (X:Cx)(st:List Stmt)(c:TCS):Prop where
 h:JB X st (JM X.K c)
section
variable {X:Cx}{a b c e o i:Expr}{es:List Expr}{pos:Pos}{rest:List Expr}{st:Stmt}{sts:List Stmt}
theorem JE.weak {t t':TE}(h:JE X e t)(w:∀σ H Q,t' σ H Q->t σ H Q):JE X e t':=⟨fun pins s σ H Q I q=>h.h pins s σ H Q I (w σ H Q q)⟩
theorem JT.weak {t t':TT}(h:JT X e t)(w:∀σ H Q,t' σ H Q->t σ H Q):JT X e t':=⟨fun pins s σ H Q I q=>h.h pins s σ H Q I (w σ H Q q)⟩
theorem JW.weak {t t':TT}(h:JW X e t)(w:∀σ H Q,t' σ H Q->t σ H Q):JW X e t':=⟨fun wh pins s σ H Q I q=>h.h wh pins s σ H Q I (w σ H Q q)⟩
theorem JA.weak {t t':TA}(h:JA X es t)(w:∀σ H Q,t' σ H Q->t σ H Q):JA X es t':=⟨fun p pins s σ H Q I q=>h.h p pins s σ H Q I (w σ H Q q)⟩
theorem JS.weak {t t':TS}(h:JS X st t)(w:∀D σ H,t' D σ H->t D σ H):JS X st t':=⟨fun pins s σ H D I q=>h.h pins s σ H D I (w D σ H q)⟩
theorem JB.weak {t t':TS}(h:JB X sts t)(w:∀D σ H,t' D σ H->t D σ H):JB X sts t':=⟨fun pins s σ H D I q=>h.h pins s σ H D I (w D σ H q)⟩
def pZ (i:Nat):TCE:=fun ρ C Q=>match ρ[i]? with
 |some (some t)=>Q t C
 |_=>False
def cC (t:PV):TCE:=fun _ C Q=>Q t C
theorem cv (i:Nat){x:Str}{pos:Pos}(hN:X.N[i]?=some x:=by rfl)(hv:Vis X.env.scope x:=by first | exact Or.inl rfl | exact Or.inr (Or.inl rfl) | exact Or.inr (Or.inr rfl))(hd:(x==("__debug__" : Str))=false:=by decide)
  (hcd:(x==("__classdict__" : Str))=false:=by decide):CE X (.Name x pos) (pZ i):=⟨JE.weak (jv i hN hv hd hcd) fun σ H Q ⟨ρ,C,R,s,h,q,f⟩=>by
 unfold pZ at q
 split at q
 .next t e =>
  obtain⟨v,ev,r⟩:=s.get e;exact⟨v,ev,f v H t C q r h Fw.refl⟩
 .exact q.elim⟩
theorem Ze {v:V}{t:PV}(h:JE X e (tC v))(r:∀H,Rep X.K H v t):CE X e (cC t):=⟨JE.weak h fun σ H Q ⟨ρ,C,R,s,h,q,f⟩=>f v H t C q (r H) h Fw.refl⟩
theorem zQ {i j pos}:CE X (.Constant (.int i) j pos) (cC (.int i)):=Ze je_int fun _=>.int i
theorem KZ {b j pos}:CE X (.Constant (.bool b) j pos) (cC (.bl b)):=Ze je_bl fun _=>.bl b
theorem rG {j pos}:CE X (.Constant .none j pos) (cC .non):=Ze je_non fun _=>.non
theorem vQ {x j pos}:CE X (.Constant (.str x) j pos) (cC (.str x)):=Ze je_str fun _=>.str x
theorem eD {x:Str}{v:V}{u:Value}{t:PV}(hg:Gl X x)(hm:X.mg x=some u)(r:RelV v u)(q:∀H,Rep X.K H v t)(hd:(x==("__debug__" : Str))=false:=by decide):CE X (.Name x pos) (cC t):=Ze (je_glob hg hm r hd) q
theorem yE {x:Str}{n:String}(hg:Gl X x)(hm:X.mg x=none)(hv:bootBuiltins x=some (.type n))(hn:x ≠ "__name__":=by decide)(hd:(x==("__debug__" : Str))=false:=by decide):CE X (.Name x pos) (cC (.ty n)):=Ze (je_bltn (v:=.ty n) hg hm hv rfl hn hd) fun _=>.ty n
abbrev R2C:=PV->PV->CH->K1->Prop
def Cop (K:PySem.W.Frag)(r:R2)(cr:R2C):Prop:=∀x y px py H C Q R,Rep K H x px->Rep K H y py->HRel K H C->cr px py C R->(∀v H' t C',R t C'->Rep K H' v t->HRel K H' C'->Fw H C H' C'->Q v H')->r x y H Q
def cOp (cr:R2C)(ca cb:TCE):TCE:=fun ρ C Q=>ca ρ C fun x C1=>cb ρ C1 fun y C2=>cr x y C2 Q
theorem cD {K:PySem.W.Frag}{r:R2}{cr:R2C}{ca cb:TCE}(hr:Cop K r cr){σ:St}{H:Hp}{Q:VK}(h:iZ K (Rep K) (cOp cr ca cb) σ H Q):tOp r (iZ K (Rep K) ca) (iZ K (Rep K) cb) σ H Q:=by
 obtain⟨ρ,C,R,s,h,q,f⟩:=h
 exact⟨ρ,C,_,s,h,q,fun x H1 px C1 q1 rx h1 f1=>⟨ρ,C1,_,s.imm (f1.imm h),h1,q1,fun y H2 py C2 q2 ry h2 f2 =>
  hr x y px py H2 C2 Q R (rx.imm (f2.imm h1)) ry h2 q2 fun v H' t C' q' r' h' f'=>f v H' t C' q' r' h' (f1.trans (f2.trans f'))⟩⟩
theorem eQ {op:Operator}{r:R2}{cr:R2C}{ca cb:TCE}(ho:OpR X (binaryOp op) r)(hr:Cop X.K r cr)(ha:CE X a ca)(hb:CE X b cb):CE X (.BinOp a op b pos) (cOp cr ca cb):=⟨JE.weak (je_op ho ha.h hb.h) fun _ _ _ h=>cD hr h⟩
theorem sG {op:CmpOp}{r:R2}{cr:R2C}{ca cb:TCE}(ho:OpR X (compareOp op) r)(hr:Cop X.K r cr)(ha:CE X a ca)(hb:CE X b cb)(hm:behindInMarks op b=false):CE X (.Compare a [op] [b] pos) (cOp cr ca cb):=⟨JE.weak (je_cmp ho ha.h hb.h hm) fun _ _ _ h=>cD hr h⟩
def sT (k:Bool->CH->Prop):PV->CH->Prop
 |.bl b,C=>k b C
 |_,_=>False
def fE (c:TCE):TCT:=fun ρ C Q=>c ρ C (sT Q)
theorem K9 {K:PySem.W.Frag}{H:Hp}{C:CH}{v:V}{t:PV}{Q:Bool->CH->Prop}(q:sT Q t C)(r:Rep K H v t):∃b,t=.bl b/\v=.bl b/\Q b C:=by
 cases t with
 |bl b=>cases r; exact⟨b,rfl,rfl,q⟩
 |_=>exact q.elim
theorem XV {K:PySem.W.Frag}{c:TCE}{σ:St}{H:Hp}{Q:Bool->Hp->Prop}(h:iZ K eM (fE c) σ H Q):ZC (iZ K (Rep K) c) σ H Q:=by
 obtain⟨ρ,C,R,s,h,q,f⟩:=h
 exact⟨ρ,C,_,s,h,q,fun x H1 px C1 q1 rx h1 f1=>by
  obtain⟨b,rfl,rfl,q2⟩:=K9 q1 rx
  exact⟨b,rfl,f b H1 b C1 q2 rfl h1 f1⟩⟩
theorem tI {op:CmpOp}{r:R2}{cr:R2C}{ca cb:TCE}(ho:OpR X (compareOp op) r)(hr:Cop X.K r cr)(ha:CE X a ca)(hb:CE X b cb)(hm:behindInMarks op b=false):CT X (.Compare a [op] [b] pos) (fE (cOp cr ca cb)) :=
 ⟨JT.weak (jt_cmp ho ha.h hb.h hm) fun σ H Q h=>by
  obtain⟨ρ,C,R,s,h,q,f⟩:=h;refine cD hr (Q:=fun x H'=>IBl Q x H') ⟨ρ,C,_,s,h,q,fun x H1 px C1 q1 rx h1 f1=>?_⟩;obtain⟨b,rfl,rfl,q2⟩:=K9 q1 rx
  exact⟨b,rfl,f b H1 b C1 q2 rfl h1 f1⟩⟩
theorem lP {c:TCE}(h:CE X e c)(he:eW e=true:=by rfl):CT X e (fE c):=⟨JT.weak (jt_val h.h he) fun _ _ _ h=>XV h⟩
def cUn (cr:PV->CH->K1->Prop)(ca:TCE):TCE:=fun ρ C Q=>ca ρ C fun x C1=>cr x C1 Q
def Cun (K:PySem.W.Frag)(r:V->Hp->VK->Prop)(cr:PV->CH->K1->Prop):Prop:=∀x px H C Q R,Rep K H x px->HRel K H C->cr px C R->(∀v H' t C',R t C'->Rep K H' v t->HRel K H' C'->Fw H C H' C'->Q v H')->r x H Q
theorem jC {op:UnaryOp}{r:V->Hp->VK->Prop}{cr:PV->CH->K1->Prop}{ca:TCE}(ho:UnR X (unaryOp op) r)(hr:Cun X.K r cr)(ha:CE X a ca):CE X (.UnaryOp op a pos) (cUn cr ca):=⟨JE.weak (je_un ho ha.h) fun σ H Q ⟨ρ,C,R,s,h,q,f⟩ =>
 ⟨ρ,C,_,s,h,q,fun x H1 px C1 q1 rx h1 f1=>hr x px H1 C1 Q R rx h1 q1 fun v H' t C' q' r' h' f'=>f v H' t C' q' r' h' (f1.trans f')⟩⟩
def cAnd (t u:TCT):TCT:=fun ρ C Q=>t ρ C fun b C1=>if b=true then u ρ C1 Q else Q false C1
def cOr (t u:TCT):TCT:=fun ρ C Q=>t ρ C fun b C1=>if b=true then Q true C1 else u ρ C1 Q
def cNot (t:TCT):TCT:=fun ρ C Q=>t ρ C fun b C1=>Q (!b) C1
theorem cw_pt {t:TCT}(h:CW X e t):CT X e t:=⟨jw_pt h.h⟩
theorem cw_and1 {t:TCT}(h:CT X a t):CW X (.BoolOp .And [a] pos) t:=⟨jw_and1 h.h⟩
theorem cw_or1 {t:TCT}(h:CT X a t):CW X (.BoolOp .Or [a] pos) t:=⟨jw_or1 h.h⟩
theorem cw_and {t u:TCT}(ha:CT X a t)(hb:CW X (.BoolOp .And (b::rest) pos) u):CW X (.BoolOp .And (a::b::rest) pos) (cAnd t u):=⟨JW.weak (jw_and ha.h hb.h) fun σ H Q ⟨ρ,C,R,s,h,q,f⟩ =>
 ⟨ρ,C,_,s,h,q,fun x H1 y C1 q1 e h1 f1=>by
  cases e
  cases x with
  |true=>exact⟨ρ,C1,R,s.imm (f1.imm h),h1,q1,fun v H' t C' q' r' h' f'=>f v H' t C' q' r' h' (f1.trans f')⟩
  |false=>exact f false H1 false C1 q1 rfl h1 f1⟩⟩
theorem cw_or {t u:TCT}(ha:CT X a t)(hb:CW X (.BoolOp .Or (b::rest) pos) u):CW X (.BoolOp .Or (a::b::rest) pos) (cOr t u):=⟨JW.weak (jw_or ha.h hb.h) fun σ H Q ⟨ρ,C,R,s,h,q,f⟩ =>
 ⟨ρ,C,_,s,h,q,fun x H1 y C1 q1 e h1 f1=>by
  cases e
  cases x with
  |true=>exact f true H1 true C1 q1 rfl h1 f1
  |false=>exact⟨ρ,C1,R,s.imm (f1.imm h),h1,q1,fun v H' t C' q' r' h' f'=>f v H' t C' q' r' h' (f1.trans f')⟩⟩⟩
theorem ct_not {t:TCT}(ha:CT X a t):CT X (.UnaryOp .Not a pos) (cNot t):=⟨JT.weak (jt_not ha.h) fun σ H Q ⟨ρ,C,R,s,h,q,f⟩ =>
 ⟨ρ,C,_,s,h,q,fun x H1 y C1 q1 e h1 f1=>by cases e; exact f _ H1 _ C1 q1 rfl h1 f1⟩⟩
def cAndV (ca cb:TCE):TCE:=fun ρ C Q=>ca ρ C (sT fun b C1=>if b=true then cb ρ C1 Q else Q (.bl false) C1)
theorem ce_one {op}{c:TCE}(h:CE X a c):CE X (.BoolOp op [a] pos) c:=⟨je_one h.h⟩
theorem ce_and {ca cb:TCE}(ha:CE X a ca)(hb:CE X (.BoolOp .And (b::rest) pos) cb):CE X (.BoolOp .And (a::b::rest) pos) (cAndV ca cb):=⟨JE.weak (je_and ha.h hb.h) fun σ H Q ⟨ρ,C,R,s,h,q,f⟩ =>
 ⟨ρ,C,_,s,h,q,fun x H1 px C1 q1 rx h1 f1=>by
  obtain⟨b,rfl,rfl,q2⟩:=K9 q1 rx;refine⟨b,rfl,?_⟩
  cases b with
  |true=>exact⟨ρ,C1,R,s.imm (f1.imm h),h1,q2,fun v H' t C' q' r' h' f'=>f v H' t C' q' r' h' (f1.trans f')⟩
  |false=>exact f _ H1 _ C1 q2 (.bl false) h1 f1⟩⟩
def cIf (t:TCT)(ca cb:TCE):TCE:=fun ρ C Q=>t ρ C fun b C1=>if b=true then ca ρ C1 Q else cb ρ C1 Q
theorem uE {t:TCT}{ca cb:TCE}(hc:CT X c t)(ha:CE X a ca)(hb:CE X b cb):CE X (.IfExp c a b pos) (cIf t ca cb):=⟨JE.weak (je_if hc.h ha.h hb.h) fun σ H Q ⟨ρ,C,R,s,h,q,f⟩ =>
 ⟨ρ,C,_,s,h,q,fun x H1 y C1 q1 e h1 f1=>by
  cases e
  cases x with
  |true=>exact⟨ρ,C1,R,s.imm (f1.imm h),h1,q1,fun v H' t C' q' r' h' f'=>f v H' t C' q' r' h' (f1.trans f')⟩
  |false=>exact⟨ρ,C1,R,s.imm (f1.imm h),h1,q1,fun v H' t C' q' r' h' f'=>f v H' t C' q' r' h' (f1.trans f')⟩⟩⟩
def mF:TCA:=fun _ C Q=>Q [] C
def yK (ca:TCE)(cr:TCA):TCA:=fun ρ C Q=>ca ρ C fun x C1=>cr ρ C1 fun xs C2=>Q (x::xs) C2
theorem yZ:CA X [] mF:=⟨JA.weak xP fun σ H Q ⟨ρ,C,R,s,h,q,f⟩=>f [] H [] C q .nil h Fw.refl⟩
theorem qQ {ca:TCE}{cr:TCA}(ha:CE X e ca)(hr:CA X es cr)(hs:nQ e=true:=by rfl):CA X (e::es) (yK ca cr):=⟨JA.weak (kM ha.h hr.h hs) fun σ H Q ⟨ρ,C,R,s,h,q,f⟩ =>
 ⟨ρ,C,_,s,h,q,fun x H1 px C1 q1 rx h1 f1=>⟨ρ,C1,_,s.imm (f1.imm h),h1,q1,fun xs H2 ps C2 q2 rs h2 f2=>f (x::xs) H2 (px::ps) C2 q2 (.cons (rx.imm (f2.imm h1)) rs) h2 (f1.trans f2)⟩⟩⟩
def Qe (ca:TCA):TCE:=fun ρ C Q=>ca ρ C fun xs C1=>xs.length<=sizeLine/\Q (.tup xs) C1
def cLst (ca:TCA):TCE:=fun ρ C Q=>ca ρ C fun xs C1=>xs.length<=sizeLine/\∀p,C1 p=none->Q (.ref p) (yQ C1 p (.lst xs))
theorem fQ {x1}{ca:TCA}(h:CA X es ca):CE X (.Tuple es x1 pos) (Qe ca):=⟨JE.weak (je_tup h.h) fun σ H Q ⟨ρ,C,R,s,h,q,f⟩ =>
 ⟨ρ,C,_,s,h,q,fun xs H1 ps C1 q1 rs h1 f1=>⟨by rw[rs.len]; exact q1.1,fun p hp=>f (.ref p) _ (.tup ps) C1 q1.2 (.tup gQ (rs.imm (Imm.new hp _))) (h1.new hp _) (f1.trans (Fw.new hp _))⟩⟩⟩
theorem nX {ca:TCA}(h:CA X es ca):CE X (.List es pos) (cLst ca):=⟨JE.weak (je_lst h.h) fun σ H Q ⟨ρ,C,R,s,h,q,f⟩ =>
 ⟨ρ,C,_,s,h,q,fun xs H1 ps C1 q1 rs h1 f1=>⟨by rw[rs.len]; exact q1.1,fun p hp=>f (.ref p) _ (.ref p) _ (q1.2 p (h1.fresh hp)) (.ref p) (h1.lay hp ⟨xs,gQ,rs.imm (Imm.new hp _)⟩) (f1.trans (Fw.lay hp _ _))⟩⟩⟩
def cDNew:TCE:=fun _ C Q=>∀p,C p=none->Q (.ref p) (yQ C p (.dK []))
theorem sR:CE X (.Dict [] [] pos) cDNew:=⟨JE.weak J5 fun σ H Q ⟨ρ,C,R,s,h,q,f⟩=>fun p hp=>f (.ref p) _ (.ref p) _ (q p (h.fresh hp)) (.ref p) (h.lay hp ⟨[],gQ,.nil⟩) (Fw.lay hp _ _)⟩
abbrev GC:=List PV->CH->K1->Prop
def spC (K:PySem.W.Frag)(G:GC):Sp:=fun vs H Q _=>∃ts C R,Reps K H vs ts/\HRel K H C/\G ts C R/\∀v H' t C',R t C'->Rep K H' v t->HRel K H' C'->Fw H C H' C'->Q v H'
def jH (G:GC)(ca:TCA):TCE:=fun ρ C Q=>ca ρ C fun xs C1=>G xs C1 Q
theorem ce_call {CX:CXT}{k:Nat}{f:Addr}{fd:FuncData}{ps:List Str}{G:GC}{E:XK}{x:Str}{p:Pos}{ca:TCA}(F:FnOk X.prog X.w X.K X.mg X.base CX k f fd ps (spC X.K G))(hr:Room k X.A)(hg:Gl X x)(hm:X.mg x=some (.ref f))(hk:PySem.W.keepIn X.K (.ref f)=true)(hb:Binds X.K fd ps [])(hx:lK CX X E)
  (ha:CA X (e::es) ca) (hdb:(x==("__debug__" : Str))=false:=by decide) (hs:nQ e=true:=by rfl) (hall:es.all nQ=true:=by rfl):CE X (.Call (.Name x p) (e::es) [] pos) (jH G ca) :=
 ⟨JE.weak (je_call (dvs:=[]) (E:=E) F hr hg hm hk hb .nil hx ha.h hdb hs hall) fun σ H Q ⟨ρ,C,R,s,h,q,f⟩ =>
  ⟨ρ,C,_,s,h,q,fun xs H1 ts C1 q1 rs h1 f1=>⟨ts,C1,R,by rw[List.append_nil]; exact rs,h1,q1,fun v H' t C' q' r' h' f'=>f v H' t C' q' r' h' (f1.trans f')⟩⟩⟩
def Cbi (K:PySem.W.Frag)(r:List V->Hp->VK->Prop)(cr:GC):Prop:=∀xs ps H C Q R,Reps K H xs ps->HRel K H C->cr ps C R->(∀v H' t C',R t C'->Rep K H' v t->HRel K H' C'->Fw H C H' C'->Q v H')->r xs H Q
theorem xZ {id:String}{r:List V->Hp->VK->Prop}{cr:GC}{x:Str}{p:Pos}{ca:TCA}(hc:CallR X (.builtin id) r)(hr:Cbi X.K r cr)(hg:Gl X x)(hm:X.mg x=none)(hv:bootBuiltins x=some (.builtin id))(ha:CA X (e::es) ca)(hn:x ≠ "__name__":=by decide)(hdb:(x==("__debug__" : Str))=false:=by decide)
  (hs:nQ e=true:=by rfl) (hall:es.all nQ=true:=by rfl):CE X (.Call (.Name x p) (e::es) [] pos) (jH cr ca):=⟨JE.weak (J6 hc hg hm hv ha.h hn hdb hs hall) fun σ H Q ⟨ρ,C,R,s,h,q,f⟩ =>
  ⟨ρ,C,_,s,h,q,fun xs H1 ts C1 q1 rs h1 f1=>hr xs ts H1 C1 Q R rs h1 q1 fun v H' t C' q' r' h' f'=>f v H' t C' q' r' h' (f1.trans f')⟩⟩
theorem kJ {T:String}{r:List V->Hp->VK->Prop}{cr:GC}{x:Str}{p:Pos}{ca:TCA}(hc:CallR X (.type T) r)(hr:Cbi X.K r cr)(hg:Gl X x)(hm:X.mg x=none)(hv:bootBuiltins x=some (.type T))(ha:CA X (e::es) ca)(hn:x ≠ "__name__":=by decide)(hdb:(x==("__debug__" : Str))=false:=by decide)
  (hs:nQ e=true:=by rfl) (hall:es.all nQ=true:=by rfl):CE X (.Call (.Name x p) (e::es) [] pos) (jH cr ca):=⟨JE.weak (xY hc hg hm hv ha.h hn hdb hs hall) fun σ H Q ⟨ρ,C,R,s,h,q,f⟩ =>
  ⟨ρ,C,_,s,h,q,fun xs H1 ts C1 q1 rs h1 f1=>hr xs ts H1 C1 Q R rs h1 q1 fun v H' t C' q' r' h' f'=>f v H' t C' q' r' h' (f1.trans f')⟩⟩
theorem ce_ix {r:R2}{cr:R2C}{ca cb:TCE}(ho:IxR X r)(hr:Cop X.K r cr)(ha:CE X a ca)(hb:CE X b cb)(hs:xL b):CE X (.Subscript a b pos) (cOp cr ca cb):=⟨JE.weak (je_ix ho ha.h hb.h hs) fun _ _ _ h=>cD hr h⟩
end
section
variable {X:Cx}{a b c e o i:Expr}{es:List Expr}{pos:Pos}{rest:List Expr}{st:Stmt}{sts:List Stmt}
def cNext:TCS:=fun E ρ C=>E.nx ρ C
def pE (t u:TCS):TCS:=fun E ρ C=>t { E with nx:=u E } ρ C
theorem tQ:CB X [] cNext:=⟨JB.weak jb_nil fun D σ H ⟨ρ,C,E,s,h,q,f⟩=>f.nx σ H ρ C q s h Fw.refl⟩
theorem kQ {t:TCS}(h:CS X st t):CB X [st] t:=⟨jb_one h.h⟩
theorem xQ {t u:TCS}(h1:CS X st t)(h2:CB X sts u):CB X (st::sts) (pE t u):=⟨JB.weak (jb_cons h1.h h2.h) fun D σ H ⟨ρ,C,E,s,h,q,f⟩ =>
 ⟨ρ,C,_,s,h,q,⟨fun σ' H' ρ' C' n s' h' f'=>⟨ρ',C',E,s',h',n,f.fw f'⟩,f.rt,f.bk,f.ct⟩⟩⟩
def cDrop (ce:TCE):TCS:=fun E ρ C=>ce ρ C fun _ C1=>E.nx ρ C1
theorem iX {ce:TCE}(he:CE X e ce)(hs:swapsWith e none pos.line X.env=pure false:=by rfl):CS X (.Expr e pos) (cDrop ce):=⟨JS.weak (js_expr he.h hs) fun D σ H ⟨ρ,C,E,s,h,q,f⟩ =>
 ⟨ρ,C,_,s,h,q,fun x H1 px C1 q1 rx h1 f1=>f.nx σ H1 ρ C1 q1 (s.imm (f1.imm h)) h1 f1⟩⟩
def cRet (ce:TCE):TCS:=fun E ρ C=>ce ρ C E.rt
theorem pQ {ce:TCE}(he:CE X e ce):CS X (.Return (some e) pos) (cRet ce):=⟨JS.weak (J1 he.h) fun D σ H ⟨ρ,C,E,s,h,q,f⟩ =>
 ⟨ρ,C,_,s,h,q,fun x H1 px C1 q1 rx h1 f1=>f.rt x H1 px C1 q1 rx h1 f1⟩⟩
def cIfS (t:TCT)(u v:TCS):TCS:=fun E ρ C=>t ρ C fun b C1=>if b=true then u E ρ C1 else v E ρ C1
theorem zX {x y:List Stmt}{t:TCT}{u v:TCS}(hc:CT X c t)(ha:CB X x u)(hb:CB X y v):CS X (.If c x y pos) (cIfS t u v):=⟨JS.weak (js_if hc.h ha.h hb.h) fun D σ H ⟨ρ,C,E,s,h,q,f⟩ =>
 ⟨ρ,C,_,s,h,q,fun x H1 y C1 q1 e h1 f1=>by
  cases e
  cases x with
  |true=>exact⟨ρ,C1,E,s.imm (f1.imm h),h1,q1,f.fw f1⟩
  |false=>exact⟨ρ,C1,E,s.imm (f1.imm h),h1,q1,f.fw f1⟩⟩⟩
def K3 (i:Nat)(ce:TCE):TCS:=fun E ρ C=>ce ρ C fun t C1=>E.nx (ρ.set i (some t)) C1
theorem cs_set {i:Nat}{x:Str}{pos':Pos}{ce:TCE}(hN:X.N.Nodup)(hi:X.N[i]?=some x)(hx:Loc X.env.scope x)(he:CE X e ce)(hs:swapsWith e (some (.Name x pos')) pos.line X.env=pure false:=by rfl)(hf:X.fn x=true\/X.env.scope.names.lookup x=some .local:=by first | exact .inl rfl | exact .inr rfl | assumption):
  CS X (.Assign [.Name x pos'] e pos) (K3 i ce):=⟨JS.weak (js_set hN hi hx he.h hs hf) fun D σ H ⟨ρ,C,E,s,h,q,f⟩ =>
 ⟨ρ,C,_,s,h,q,fun x H1 px C1 q1 rx h1 f1=>f.nx _ H1 _ C1 q1 ((s.imm (f1.imm h)).set rx i) h1 f1⟩⟩
abbrev TCG:=PV->CSt->CH->(CSt->CH->Prop)->Prop
abbrev mS:=List PV->CSt->CH->(CSt->CH->Prop)->Prop
def JN (K:PySem.W.Frag)(c:TCG):TG:=fun v σ H Q=>∃t ρ C R,Rep K H v t/\SRel K H σ ρ/\HRel K H C/\c t ρ C R/\∀σ' H' ρ' C',R ρ' C'->SRel K H' σ' ρ'->HRel K H' C'->Fw H C H' C'->Q σ' H'
def liftGs (K:PySem.W.Frag)(c:mS):TGs:=fun v σ H Q=>∃t ρ C R,Reps K H v t/\SRel K H σ ρ/\HRel K H C/\c t ρ C R/\∀σ' H' ρ' C',R ρ' C'->SRel K H' σ' ρ'->HRel K H' C'->Fw H C H' C'->Q σ' H'
structure CG (X:Cx)(e:Expr)(c:TCG):Prop where
 h:JG X e (JN X.K c)
structure CGs (X:Cx)(es:List Expr)(c:mS):Prop where
 h:JGs X es (liftGs X.K c)
theorem JG.weak {t t':TG}(h:JG X e t)(w:∀v σ H Q,t' v σ H Q->t v σ H Q):JG X e t':=⟨fun pins s σ H v u Q I r q=>h.h pins s σ H v u Q I r (w v σ H Q q)⟩
theorem JGs.weak {t t':TGs}(h:JGs X es t)(w:∀v σ H Q,t' v σ H Q->t v σ H Q):JGs X es t':=⟨fun pins s σ H v u Q I r q=>h.h pins s σ H v u Q I r (w v σ H Q q)⟩
def KA (i:Nat):TCG:=fun t ρ C Q=>Q (ρ.set i (some t)) C
def dNil:mS:=fun ts ρ C Q=>match ts with
 |[]=>Q ρ C
 |_=>False
def dCons (g:TCG)(u:mS):mS:=fun ts ρ C Q=>match ts with
 |t::r=>g t ρ C fun ρ' C'=>u r ρ' C' Q
 |[]=>False
def dTup (n:Nat)(u:mS):TCG:=fun t ρ C Q=>match t with
 |.tup ts=>ts.length=n/\u ts ρ C Q
 |_=>False
theorem cg_name {i:Nat}{x:Str}(hN:X.N.Nodup)(hi:X.N[i]?=some x)(hx:Loc X.env.scope x)(hf:X.fn x=true\/X.env.scope.names.lookup x=some .local:=by first | exact .inl rfl | exact .inr rfl | assumption):CG X (.Name x pos) (KA i) :=
 ⟨JG.weak (jg_name hN hi hx hf) fun v σ H Q ⟨t,ρ,C,R,r,s,h,q,f⟩=>f _ H _ C q (s.set r i) h Fw.refl⟩
theorem mU:CGs X [] dNil:=⟨JGs.weak jgs_nil fun vs σ H Q ⟨ts,ρ,C,R,r,s,h,q,f⟩=>by
 cases r with
 |nil=>exact⟨rfl,f σ H ρ C q s h Fw.refl⟩
 |cons _ _=>exact q.elim⟩
theorem cX {g:TCG}{u:mS}(h1:CG X e g)(h2:CGs X es u)
  (hs:(assignEach (e::es) X.env).map (·.2)=assign e X.env::(assignEach es X.env).map (·.2):=by rfl):CGs X (e::es) (dCons g u):=⟨JGs.weak (J3 h1.h h2.h hs) fun vs σ H Q ⟨ts,ρ,C,R,r,s,h,q,f⟩=>by
 cases r with
 |nil=>exact q.elim
 |@cons v t vs ts r0 r =>
  exact⟨v,vs,rfl,t,ρ,C,_,r0,s,h,q,fun σ' H' ρ' C' q' s' h' f'=>⟨ts,ρ',C',R,r.imm (f'.imm h),s',h',q',fun σ2 H2 ρ2 C2 q2 s2 h2 f2=>f σ2 H2 ρ2 C2 q2 s2 h2 (f'.trans f2)⟩⟩⟩
theorem uF {k:Nat}{u:mS}{n:Nat}(hc:X.calm=true)(h:CGs X es u)
  (hn:(assignEach es X.env).length=n:=by rfl) (hst:(assignEach es X.env).findIdx? (·.1)=none:=by rfl):CG X (.Tuple es k pos) (dTup n u):=⟨JG.weak (jg_tup hc h.h hn hst) fun v σ H Q ⟨t,ρ,C,R,r,s,h,q,f⟩=>by
 cases r with
 |@tup a vs ts e r =>
  obtain⟨q1,q2⟩:=q;exact⟨a,vs,rfl,SqT.of e,by rw[r.len]; exact q1,ts,ρ,C,R,r,s,h,q2,f⟩
 |_=>exact q.elim⟩
def cAsg (ce:TCE)(g:TCG):TCS:=fun E ρ C=>ce ρ C fun t C1=>g t ρ C1 E.nx
theorem rP {tg:Expr}{ce:TCE}{g:TCG}(he:CE X e ce)(hg:CG X tg g)(hs:swapsWithSole [tg] e pos.line X.env=pure false:=by rfl)(hw:swappedStores [tg] e X.env=pure none:=by rfl)
  (h1:(assignEach [tg] X.env).map (·.2)=[assign tg X.env]:=by rfl):CS X (.Assign [tg] e pos) (cAsg ce g):=⟨JS.weak (js_asg he.h hg.h hs hw h1) fun D σ H ⟨ρ,C,E,s,h,q,f⟩ =>
 ⟨ρ,C,_,s,h,q,fun x H1 px C1 q1 rx h1 f1=>⟨px,ρ,C1,E.nx,rx,s.imm (f1.imm h),h1,q1,fun σ' H' ρ' C' q' s' h' f'=>f.nx σ' H' ρ' C' q' s' h' (f1.trans f')⟩⟩⟩
@[irreducible] def Xf:PV->PV->PV->CH->(CH->Prop)->Prop:=fun o i v C Q=>match o,i with
 |.ref p,.int k=>match C p with
  |some (.lst xs)=>match ixN xs.length k with
   |some j=>Q (yQ C p (.lst (xs.set j v)))
   |none=>False
  |_=>False
 |_,_=>False
def dSub (co ci:TCE)(u:PV->PV->PV->CH->(CH->Prop)->Prop):TCG:=fun t ρ C Q=>co ρ C fun o C1=>ci ρ C1 fun i C2=>u o i t C2 fun C3=>Q ρ C3
theorem tD {co ci:TCE}(ho:CE X o co)(hi:CE X i ci)
  (ha:∀v,assign (.Subscript o i pos) X.env v=(do
   let ov <- holding [v] (eval o X.env)
   let iv <- holding [v,ov] (eval i X.env)
   standAt pos
   holding [v,ov,iv] (setItem ov iv v)
   release [v,ov,iv] []):=by intro _; rfl):CG X (.Subscript o i pos) (dSub co ci Xf):=⟨JG.weak (jg_sub ho.h hi.h ZM ha) fun v σ H Q ⟨t,ρ,C,R,r,s,h,q,f⟩ =>
 ⟨ρ,C,_,s,h,q,fun x H1 px C1 q1 rx h1 f1=>⟨ρ,C1,_,s.imm (f1.imm h),h1,q1,fun y H2 py C2 q2 ry h2 f2=>by
  have r2:=r.imm ((f1.trans f2).imm h);have s2:=s.imm ((f1.trans f2).imm h);unfold Xf at q2
  split at q2
  .next p k =>
   split at q2
   .next xs e =>
    split at q2
    .next j ej =>
     obtain⟨vs,ev,rv⟩:=h2 p _ e;have rx2:=rx.imm (f2.imm h1);cases rx2;cases ry;refine⟨p,vs,k,j,rfl,rfl,ev,by rw[rv.len]; exact ej,?_⟩;exact f σ _ ρ _ q2 (s2.imm (Imm.mut ev rfl _)) (h2.put ev rfl ⟨_,gQ,(rv.set r2 j).imm (Imm.mut ev rfl _)⟩) (f1.trans (f2.trans (Fw.put e _ _)))
    .exact q2.elim
   .exact q2.elim
  .exact q2.elim⟩⟩⟩
def jG (g:TCG)(u:TCS)(E:mY):List PV->CSt->CH->Prop
 |[],ρ,C=>E.nx ρ C
 |x::r,ρ,C=>g x ρ C fun ρ1 C1=>u { nx:=jG g u E r,ct:=jG g u E r,bk:=E.nx,rt:=E.rt } ρ1 C1
structure Qn (K:PySem.W.Frag)(H:Hp)(J:It)(ps:List PV):Prop where
 go:∀i H',i < ps.length->Imm H H'->J.go i H'
 yl:∀i H' x H'',Imm H H'->J.yld i H' x H''->H''=H'/\∀t,ps[i]?=some t->Rep K H' x t
 st:∀H',Imm H H'->J.stop ps.length H'
theorem pD {K:PySem.W.Frag}{H:Hp}{C:CH}{σ:St}{ρ:CSt}{J:It}{ps:List PV}{g:TCG}{u:TCS}{E:mY}{D:oE}(j:Qn K H J ps)(s:SRel K H σ ρ)(h:HRel K H C)(q:jG g u E ps ρ C)(f:ERel K H C E D):
  ∃W:Nat->Nat->St->Hp->Prop,(∃m,W 0 m σ H)/\∀i m σ H,W i m σ H ->
   (J.stop i H/\D.nx σ H)\/(J.go i H/\∃N:St->Hp->Prop,(∀σ' H',N σ' H'->∃m',m' < m/\W (i+1) m' σ' H')/\∀x H',J.yld i H x H'->JN K g x σ H' fun σ2 H2=>JM K u { D with nx:=N,ct:=N,bk:=D.nx } σ2 H2):=by
 refine⟨fun i m σ' H'=>m=ps.length - i/\i<=ps.length/\∃ρ' C',SRel K H' σ' ρ'/\HRel K H' C'/\Fw H C H' C'/\jG g u E (ps.drop i) ρ' C',⟨ps.length,rfl,Nat.zero_le _,ρ,C,s,h,Fw.refl,q⟩,?_⟩;rintro i m σ1 H1 ⟨rfl,hi,ρ1,C1,s1,h1,f1,q1⟩;have k1:=f1.imm h
 by_cases hlt:i < ps.length
 .refine .inr ⟨j.go i H1 hlt k1,fun σ' H'=>∃ρ' C',SRel K H' σ' ρ'/\HRel K H' C'/\Fw H C H' C'/\jG g u E (ps.drop (i+1)) ρ' C',fun σ' H' z=>⟨ps.length - (i+1),by omega,rfl,hlt,z⟩,fun x H2 y=>?_⟩
  obtain⟨rfl,y⟩:=j.yl i H1 x H2 k1 y;rw[List.drop_eq_getElem_cons hlt] at q1
  exact⟨ps[i],ρ1,C1,_,y _ (List.getElem?_eq_getElem hlt),s1,h1,q1,fun σ' H' ρ' C' q' s' h' f'=>⟨ρ',C',_,s',h',q',⟨fun σ3 H3 ρ3 C3 q3 s3 h3 f3=>⟨ρ3,C3,s3,h3,f1.trans (f'.trans f3),q3⟩,fun v H3 t C3 q3 r3 h3 f3=>f.rt v H3 t C3 q3 r3 h3 (f1.trans (f'.trans f3)),
   fun σ3 H3 ρ3 C3 q3 s3 h3 f3=>f.nx σ3 H3 ρ3 C3 q3 s3 h3 (f1.trans (f'.trans f3)),fun σ3 H3 ρ3 C3 q3 s3 h3 f3=>⟨ρ3,C3,s3,h3,f1.trans (f'.trans f3),q3⟩⟩⟩⟩
 .have e:i=ps.length:=by omega
  subst e;rw[List.drop_length] at q1;exact .inl ⟨j.st H1 k1,f.nx σ1 H1 ρ1 C1 q1 s1 h1 f1⟩
theorem yR {K:PySem.W.Frag}{H:Hp}{a:Addr}{vs:List V}{ts:List PV}(h:SqT K H a vs)(r:Reps K H vs ts):Qn K H (Itt K a) ts where
 go:=fun i H' l k=>⟨vs,vs[i]'(by rw[r.len]; exact l),SqT.imm h k,List.getElem?_eq_getElem _⟩
 yl:=fun i H' x H'' k y=>⟨y.1,fun t e=>by
  obtain⟨v,ev,rv⟩:=(r.imm k).get e;have:=y.2 vs (SqT.imm h k)
  rw[ev] at this; cases this; exact rv⟩
 st:=fun H' k=>⟨vs,SqT.imm h k,by rw[r.len]; exact Nat.le_refl _⟩
theorem it_fz {K:PySem.W.Frag}{H:Hp}{a:Addr}{vs:List V}{ts:List PV}(h:Fz K H a vs)(r:Reps K H vs ts):Qn K H (Itl K a) ts where
 go:=fun i H' l k=>⟨vs,vs[i]'(by rw[r.len]; exact l),(h.imm k).sq,List.getElem?_eq_getElem _⟩
 yl:=fun i H' x H'' k y=>⟨y.1,fun t e=>by
  obtain⟨v,ev,rv⟩:=(r.imm k).get e;have:=y.2 vs (h.imm k).sq
  rw[ev] at this; cases this; exact rv⟩
 st:=fun H' k=>⟨vs,(h.imm k).sq,by rw[r.len]; exact Nat.le_refl _⟩
theorem J8 {K:PySem.W.Frag}{H:Hp}{n:Nat}:Qn K H (Itr 0 n) ((List.range n).map fun k=>PV.int (k:Nat)) where
 go:=fun i H' l k=>by rw[List.length_map,List.length_range] at l; exact l
 yl:=fun i H' x H'' k y=>⟨y.1,fun t e=>by
  rw[y.2];rw[List.getElem?_map] at e
  cases z:(List.range n)[i]? with
  |none=>rw[z] at e; cases e
  |some w =>
   rw[z] at e;cases e;have:=List.getElem?_eq_some_iff.mp z;obtain⟨l,e⟩:=this;rw[List.getElem_range] at e;subst e;rw[Int.zero_add]
   exact .int _⟩
 st:=fun H' k=>by rw[List.length_map,List.length_range]; exact Nat.le_refl _
@[irreducible] def Xk (ce:TCE)(g:TCG)(u:TCS):TCS:=fun E ρ C=>ce ρ C fun t C1=>match t with
 |.tup xs=>jG g u E xs ρ C1
 |.kt xs=>jG g u E xs ρ C1
 |_=>False
theorem uM {tg iter:Expr}{body:List Stmt}{ce:TCE}{g:TCG}{u:TCS}(hp:PassesOwn (model X.prog X.w) X.A X.env X.xe)(hc:X.calm=true)(hi:CE X iter ce)(hg:CG X tg g)(hb:CB X body u)
  (hs:∀x,foldedSetIterable iter X.env x=pure x:=by intro _; rfl):CS X (.For tg iter body [] pos) (Xk ce g u):=⟨JS.weak (vI hp hc (J2 hi.h) hg.h hb.h hs) fun D σ H ⟨ρ,C,E,s,h,q,f⟩=>by
 unfold Xk at q
 exact⟨ρ,C,_,s,h,q,fun x H1 px C1 q1 rx h1 f1=>by
  cases rx with
  |@tup a vs ts e r=>exact⟨a,rfl,⟨vs,SqT.of e⟩,pD (yR (SqT.of e) r) (s.imm (f1.imm h)) h1 q1 (f.fw f1)⟩
  |@kt a vs ts e r=>exact⟨a,rfl,⟨vs,e⟩,pD (yR e r) (s.imm (f1.imm h)) h1 q1 (f.fw f1)⟩
  |_=>exact q1.elim⟩⟩
def cForR (ca:TCA)(g:TCG)(u:TCS):TCS:=fun E ρ C=>ca ρ C fun ts C1=>match ts with
 |[.int j]=>-(2 ^ 62)<=j/\j < 2 ^ 62/\jG g u E ((List.range j.toNat).map fun k=>PV.int (k:Nat)) ρ C1
 |_=>False
theorem sD {tg:Expr}{body:List Stmt}{ca:TCA}{g:TCG}{u:TCS}{p pos2:Pos}(hp:PassesOwn (model X.prog X.w) X.A X.env X.xe)(hc:X.calm=true)(hgl:Gl X "range")(hm:X.mg "range" = none)(ha:CA X [a] ca)(hg:CG X tg g)(hb:CB X body u)
  (hst:nQ a=true:=by rfl) (hs:∀x,foldedSetIterable (.Call (.Name "range" p) [a] [] pos2) X.env x=pure x:=by intro _; rfl):CS X (.For tg (.Call (.Name "range" p) [a] [] pos2) body [] pos) (cForR ca g u):=⟨JS.weak (vI hp hc (rN hgl hm ha.h hst) hg.h hb.h hs) fun D σ H ⟨ρ,C,E,s,h,q,f⟩ =>
 ⟨ρ,C,_,s,h,q,fun xs H1 ts C1 q1 rs h1 f1=>by
  split at q1
  .next j =>
   cases rs with
   |cons r0 r =>
    cases r;cases r0;exact⟨j,rfl,q1.1,q1.2.1,pD J8 (s.imm (f1.imm h)) h1 q1.2.2 (f.fw f1)⟩
  .exact q1.elim⟩⟩
def iY (a:Addr)(g:TCG)(u:TCS)(E:mY):Nat->Nat->CSt->CH->Prop
 |0,_,_,_=>False
 |n+1,i,ρ,C=>match C a with
  |some (.lst xs)=>match xs[i]? with
   |some x=>g x ρ C fun ρ1 C1=>u { nx:=iY a g u E n (i+1),ct:=iY a g u E n (i+1),bk:=E.nx,rt:=E.rt } ρ1 C1
   |none=>E.nx ρ C
  |_=>False
def cForL (ce:TCE)(g:TCG)(u:TCS):TCS:=fun E ρ C=>ce ρ C fun t C1=>match t with
 |.ref a=>∃n,iY a g u E n 0 ρ C1
 |.fz xs=>jG g u E xs ρ C1
 |_=>False
theorem gU {tg iter:Expr}{body:List Stmt}{ce:TCE}{g:TCG}{u:TCS}(hp:PassesOwn (model X.prog X.w) X.A X.env X.xe)(hc:X.calm=true)(hi:CE X iter ce)(hg:CG X tg g)(hb:CB X body u)
  (hs:∀x,foldedSetIterable iter X.env x=pure x:=by intro _; rfl):CS X (.For tg iter body [] pos) (cForL ce g u):=⟨JS.weak (vI hp hc (QL hi.h) hg.h hb.h hs) fun D σ H ⟨ρ,C,E,s,h,q,f⟩ =>
 ⟨ρ,C,_,s,h,q,fun x H1 px C1 q1 rx h1 f1=>by
  cases rx with
  |@fz a vs ts e r=>exact⟨a,rfl,⟨vs,e.sq⟩,pD (it_fz e r) (s.imm (f1.imm h)) h1 q1 (f.fw f1)⟩
  |ref a =>
   obtain⟨n,q1⟩:=q1
   have ex:∃ys,SqL X.K H1 a ys:=by
    cases n with
    |zero=>exact q1.elim
    |succ n =>
     unfold iY at q1
     split at q1
     .next xs e=>obtain⟨vs,ev,_⟩:=h1 a _ e; exact⟨vs,SqL.of ev⟩
     .exact q1.elim
   refine⟨a,rfl,ex,fun i m σ' H'=>∃ρ' C',SRel X.K H' σ' ρ'/\HRel X.K H' C'/\Fw H1 C1 H' C'/\iY a g u E m i ρ' C',⟨n,ρ,C1,s.imm (f1.imm h),h1,Fw.refl,q1⟩,?_⟩;rintro i m σ2 H2 ⟨ρ2,C2,s2,h2,f2,q2⟩
   cases m with
   |zero=>exact q2.elim
   |succ m =>
    unfold iY at q2
    split at q2
    .next xs e =>
     obtain⟨vs,ev,rv⟩:=h2 a _ e
     split at q2
     .next x ex =>
      obtain⟨v,ev',rx⟩:=rv.get ex;refine .inr ⟨⟨vs,v,SqL.of ev,ev'⟩,fun σ' H'=>∃ρ' C',SRel X.K H' σ' ρ'/\HRel X.K H' C'/\Fw H1 C1 H' C'/\iY a g u E m (i+1) ρ' C',fun σ' H' z=>⟨m,Nat.lt_succ_self m,z⟩,fun y H3 hy=>?_⟩;obtain⟨rfl,hy⟩:=hy;have:=hy vs (SqL.of ev);rw[ev'] at this; cases this
      exact⟨x,ρ2,C2,_,rx,s2,h2,q2,fun σ' H' ρ' C' q' s' h' f'=>⟨ρ',C',_,s',h',q',⟨fun σ3 H3 ρ3 C3 q3 s3 h3 f3=>⟨ρ3,C3,s3,h3,f2.trans (f'.trans f3),q3⟩,fun v H3 t C3 q3 r3 h3 f3=>f.rt v H3 t C3 q3 r3 h3 (f1.trans (f2.trans (f'.trans f3))),
       fun σ3 H3 ρ3 C3 q3 s3 h3 f3=>f.nx σ3 H3 ρ3 C3 q3 s3 h3 (f1.trans (f2.trans (f'.trans f3))),fun σ3 H3 ρ3 C3 q3 s3 h3 f3=>⟨ρ3,C3,s3,h3,f2.trans (f'.trans f3),q3⟩⟩⟩⟩
     .next ex =>
      refine .inl ⟨⟨vs,SqL.of ev,?_⟩,f.nx σ2 H2 ρ2 C2 q2 s2 h2 (f1.trans f2)⟩;rw[rv.len];exact List.getElem?_eq_none_iff.mp ex
    .exact q2.elim
  |_=>exact q1.elim⟩⟩
def kZ (t:TCT)(c:TCE)(ρ:CSt)(Q:K1):List PV->List PV->CH->Prop
 |[],acc,C=>∀p,C p=none->Q (.ref p) (yQ C p (.lst acc))
 |x::r,acc,C=>t (some x::ρ) C fun b C1=>if b=true then c (some x::ρ) C1 fun y C2=>acc.length < sizeLine/\kZ t c ρ Q r (acc++[y]) C2 else kZ t c ρ Q r acc C1
structure CF (X:Cx)(ifs:List Expr)(c:TCT):Prop where
 h:JF X ifs (iZ X.K eM c)
def gB:TCT:=fun _ C Q=>Q true C
theorem JF.weak {ifs:List Expr}{t t':TT}(h:JF X ifs t)(w:∀σ H Q,t' σ H Q->t σ H Q):JF X ifs t':=⟨fun pins s σ H Q I q=>h.h pins s σ H Q I (w σ H Q q)⟩
theorem wK:CF X [] gB:=⟨JF.weak jf_nil fun σ H Q ⟨ρ,C,R,s,h,q,f⟩=>f true H true C q rfl h Fw.refl⟩
theorem KK {t:TCT}(h:CT X c t):CF X [c] t:=⟨jf_one h.h⟩
theorem comp_it {K:PySem.W.Frag}{H H0:Hp}{C C0:CH}{σ:St}{ρ:CSt}{J:It}{ps:List PV}{t:TCT}{c:TCE}{R:K1}{Q:VK}(j:Qn K H J ps)(s:SRel K H σ ρ)(h:HRel K H C)(q:kZ t c ρ R ps [] C)
  (h0:HRel K H0 C0) (f0:Fw H0 C0 H C) (f:∀v H' p C',R p C'->Rep K H' v p->HRel K H' C'->Fw H0 C0 H' C'->Q v H') {D:Addr} (hD:H D=none) :
  ∃W:Nat->Nat->List V->Hp->Prop,(∃m,W 0 m [] (upd H D (.lst [])))/\∀i m ys H,W i m ys H ->
   (J.stop i H/\Q (.ref D) H)\/(J.go i H/\∀x H',J.yld i H x H'->iZ K eM t (some x::σ) H' fun b H2 =>
    if b=true then iZ K (Rep K) c (some x::σ) H2 fun y H3=>H3 D=some (.lst ys)/\ys.length < sizeLine/\∃m',m' < m/\W (i+1) m' (ys++[y]) (upd H3 D (.lst (ys++[y])))
    else ∃m',m' < m/\W (i+1) m' ys H2):=by
 have fD:∀{H':Hp} {C':CH},Fw H C H' C'->True:=fun _=>trivial
 refine⟨fun i m ys H'=>m=ps.length - i/\i<=ps.length/\∃acc C',H' D=some (.lst ys)/\C' D=none/\Reps K H' ys acc/\HRel K H' C'/\Fw H C H' C'/\kZ t c ρ R (ps.drop i) acc C',
  ⟨ps.length,rfl,Nat.zero_le _,[],C,gQ,h.fresh hD,.nil,h.new hD _,Fw.new hD _,q⟩,?_⟩
 rintro i m ys H1 ⟨rfl,hi,acc,C1,e1,n1,r1,h1,f1,q1⟩;have k1:Imm H H1:=f1.imm h
 by_cases hlt:i < ps.length
 .refine .inr ⟨j.go i H1 hlt k1,fun x H2 y=>?_⟩
  obtain⟨rfl,y⟩:=j.yl i H1 x H2 k1 y;have rx:=y _ (List.getElem?_eq_getElem hlt);rw[List.drop_eq_getElem_cons hlt] at q1;refine⟨some ps[i]::ρ,C1,_,.cons rx (s.imm k1),h1,q1,fun b H3 b' C3 q3 e h3 f3=>?_⟩;cases e;obtain⟨n3,e3⟩:=f3 D (by rw[n1]; rfl) (by rw[e1]; exact fun z=>nomatch z);rw[e1] at e3;rw[n1] at n3;have k3:=f3.imm h1
  cases b with
  |true =>
   rw[if_pos rfl] at q3 ⊢;refine⟨some ps[i]::ρ,C3,_,.cons (rx.imm k3) ((s.imm k1).imm k3),h3,q3,fun v H4 p C4 q4 r4 h4 f4=>?_⟩;obtain⟨n4,e4⟩:=f4 D (by rw[n3]; rfl) (by rw[e3]; exact fun z=>nomatch z);rw[e3] at e4;rw[n3] at n4;have k4:=f4.imm h3;have m4:Imm H4 (upd H4 D (.lst (ys++[v]))):=Imm.mut e4 rfl _;refine⟨e4,by rw[r1.len]; exact q4.1,ps.length - (i+1),by omega,rfl,hlt,acc++[p],C4,gQ,n4,?_,?_,?_,q4.2⟩
   .exact (((r1.imm k3).imm k4).append (.cons r4 .nil)).imm m4
   .intro a o ca
    have ne:a≠D:=fun z=>by subst z; rw[n4] at ca; cases ca
    exact(h4 a o ca).imm m4 (cQ ne)
   .intro a ca na
    have ne:a≠D:=fun z=>na (z▸hD);obtain⟨x1,x2⟩:=(f1.trans (f3.trans f4)) a ca na;exact⟨x1,(cQ ne).trans x2⟩
  |false =>
   rw[if_neg Bool.false_ne_true] at q3 ⊢;exact⟨ps.length - (i+1),by omega,rfl,hlt,acc,C3,e3,n3,r1.imm k3,h3,f1.trans f3,q3⟩
 .have e:i=ps.length:=by omega
  subst e;rw[List.drop_length] at q1;refine .inl ⟨j.st H1 k1,f (.ref D) H1 (.ref D) _ (q1 D n1) (.ref D) ?_ ?_⟩
  .intro a o ca
   by_cases z:a=D
   .subst z; rw[jQ] at ca; cases ca; exact⟨ys,e1,r1⟩
   .rw [wQ z] at ca; exact h1 a o ca
  .intro a ca na
   obtain⟨x1,x2⟩:=f0 a ca na;have na':H a≠none:=by rw[x2]; exact na
   have ne:a≠D:=fun z=>na' (z▸hD);obtain⟨y1,y2⟩:=f1 a (by rw[x1]; exact ca) na';exact⟨(wQ ne).trans (y1.trans x1),y2.trans x2⟩
structure CI (X:Cx)(tg it:Expr)(wi:TI)(c:CSt->CH->(List PV->CH->Prop)->Prop):Prop where
 j:JI X tg it wi
 w:∀σ H ρ C R Q,SRel X.K H σ ρ->HRel X.K H C->c ρ C R->(∀J H' ps C',R ps C'->Qn X.K H' J ps->HRel X.K H' C'->Fw H C H' C'->Q J H')->wi σ H Q
def cItT (ce:TCE):CSt->CH->(List PV->CH->Prop)->Prop:=fun ρ C Q=>ce ρ C fun t C1=>match t with
 |.tup xs=>Q xs C1
 |.kt xs=>Q xs C1
 |_=>False
theorem tP {tg:Expr}{ce:TCE}(h:CE X e ce):CI X tg e (iTup X.K (iZ X.K (Rep X.K) ce)) (cItT ce):=⟨J2 h.h,fun σ H ρ C R Q s h q f=>⟨ρ,C,_,s,h,q,fun x H1 px C1 q1 rx h1 f1=>by
  cases rx with
  |@tup a vs ts e r=>exact⟨a,rfl,⟨vs,SqT.of e⟩,f _ H1 ts C1 q1 (yR (SqT.of e) r) h1 f1⟩
  |@kt a vs ts e r=>exact⟨a,rfl,⟨vs,e⟩,f _ H1 ts C1 q1 (yR e r) h1 f1⟩
  |_=>exact q1.elim⟩⟩
def cItR (ca:TCA):CSt->CH->(List PV->CH->Prop)->Prop:=fun ρ C Q=>ca ρ C fun ts C1=>match ts with
 |[.int j]=>-(2 ^ 62)<=j/\j < 2 ^ 62/\Q ((List.range j.toNat).map fun k=>PV.int (k:Nat)) C1
 |_=>False
theorem eP {tg:Expr}{ca:TCA}{p pos2:Pos}(hgl:Gl X "range")(hm:X.mg "range" = none)(ha:CA X [a] ca)(hst:nQ a=true:=by rfl):CI X tg (.Call (.Name "range" p) [a] [] pos2) (Kf (iZ X.K (Reps X.K) ca)) (cItR ca):=⟨rN hgl hm ha.h hst,fun σ H ρ C R Q s h q f=>⟨ρ,C,_,s,h,q,fun xs H1 ts C1 q1 rs h1 f1=>by
  split at q1
  .next j =>
   cases rs with
   |cons r0 r =>
    cases r;cases r0;exact⟨j,rfl,q1.1,q1.2.1,f _ H1 _ C1 q1.2.2 J8 h1 f1⟩
  .exact q1.elim⟩⟩
def K8 (ci:CSt->CH->(List PV->CH->Prop)->Prop)(t:TCT)(c:TCE):TCE:=fun ρ C Q=>ci ρ C fun ps C1=>kZ t c ρ Q ps [] C1
theorem fN {wi:TI}{tg it:Expr}{ci:CSt->CH->(List PV->CH->Prop)->Prop}{t:TCT}{c:TCE}(hi:CI X tg it wi ci){σ:St}{H:Hp}{Q:VK}(h:iZ X.K (Rep X.K) (K8 ci t c) σ H Q):sS wi (iZ X.K eM t) (iZ X.K (Rep X.K) c) σ H Q:=by
 obtain⟨ρ,C,R,s,h,q,f⟩:=h;exact hi.w σ H ρ C _ _ s h q fun J H' ps C' q' j h' f' D hD=>comp_it j (s.imm (f'.imm h)) h' q' h f' f hD
theorem bW {elt iter:Expr}{x:Str}{px:Pos}{ifs:List Expr}{scope:Scope}{wi:TI}{ci:CSt->CH->(List PV->CH->Prop)->Prop}{t:TCT}{c:TCE}
  (hc:X.calm=true) (hN:(x::X.N).Nodup) (K:∃cl,qU X x scope cl) (hi:CI X (.Name x px) iter wi ci)
  (ht:∀cl fp C s₂ H₂,CF (yJ X x scope cl fp C s₂ H₂) ifs t) (he:∀cl fp C s₂ H₂,CE (yJ X x scope cl fp C s₂ H₂) elt c)
  (hs:∀v,foldedSetIterable iter X.env v=pure v:=by intro _; rfl):CE X (.ListComp elt [⟨.Name x px,iter,ifs,0⟩] scope pos) (K8 ci t c) :=
 ⟨JE.weak (jP hc hN K hi.j (fun cl fp C s₂ H₂=>(ht cl fp C s₂ H₂).h) (fun cl fp C s₂ H₂=>(he cl fp C s₂ H₂).h) hs) fun _ _ _ h=>fN hi h⟩
end
def bL (N:List Str)(ts:List PV):CSt:=ts.map some++List.replicate (N.length - ts.length) none
theorem wN {K:PySem.W.Frag}{H:Hp}:∀n,SRel K H (List.replicate n none) (List.replicate n none)
 |0=>.nil
 |n+1=>.cons trivial (wN n)
theorem eS {K:PySem.W.Frag}{H:Hp}{σ:St}{ρ:CSt}(s:SRel K H σ ρ):∀{vs:List V}{ts:List PV},Reps K H vs ts->SRel K H (vs.map some++σ) (ts.map some++ρ)
 |_,_,.nil=>s
 |_,_,.cons h r=>.cons h (eS s r)
theorem zA {K:PySem.W.Frag}{H:Hp}{N:List Str}{vs:List V}{ts:List PV}(r:Reps K H vs ts):SRel K H (L2.start N vs) (bL N ts):=by
 unfold L2.start bL;rw[r.len];exact eS (wN _) r
section
variable {P:Program}{w:World}{K:PySem.W.Frag}{mg:Str->Option Value}{base:Heap}
theorem Fun.okC {x qual:Str}{st:Stmt}{f:Addr}{fd:FuncData}{N ps:List Str}{k:Nat}{G:GC}(F:Fun K x qual st f fd)(S:FnScope N ps (kX st))(len:∀ts C R,G ts C R->ts.length=ps.length)
  (hbody:∀(cdv:Value) (A:Around) (outer:List Env) (s:Shared) (H:Hp) (E:XK),Room k (A.deeper (envOfC qual (kX st) s.heap.objs.size f cdv)) ->
   ∃c,CB (dR CX0 P w K mg base N qual (kX st) f cdv A outer s H E).nox (kK st) c/\∀ts C R,G ts C R->c { nx:=fun _ C'=>R .non C',rt:=R } (bL N ts) C):FnOk P w K mg base CX0 (k+1) f fd ps (spC K G):=by
 refine F.okJ S ?_ ?_
 .rintro vs H Q E ⟨ts,C,R,r,h,g,f⟩
  rw[r.len]; exact len ts C R g
 .rintro cdv A outer s H vs Q E hr ⟨ts,C,R,r,h,g,f⟩
  obtain⟨c,hc,q⟩:=hbody cdv A outer s H E hr;refine⟨_,hc.h,bL N ts,C,_,zA r,h,q ts C R g,⟨fun σ' H' ρ' C' q' s' h' f'=>f .non H' .non C' q' .non h' f',f,fun _ _ _ _ q' _ _ _=>q'.elim,fun _ _ _ _ q' _ _ _=>q'.elim⟩⟩
end
section
variable {X:Cx}{a b c e o i:Expr}{es:List Expr}{pos:Pos}
@[irreducible] def cI (g:Int->Int->PV):R2C:=fun x y C Q=>match x,y with
 |.int i,.int j=>Q (g i j) C
 |_,_=>False
def cIc (P:Int->Int->Prop)(g:Int->Int->PV):R2C:=fun x y C Q=>match x,y with
 |.int i,.int j=>P i j/\Q (g i j) C
 |_,_=>False
theorem KD {K:PySem.W.Frag}{g:Int->Int->V}{g':Int->Int->PV}(hg:∀i j H,Rep K H (g i j) (g' i j)):Cop K (rI0 g) (cI g'):=fun x y px py H C Q R rx ry h q f=>by
 unfold cI at q
 split at q
 .cases rx; cases ry
  exact⟨_,_,rfl,rfl,f _ H _ C q (hg _ _ _) h Fw.refl⟩
 .exact q.elim
theorem lR {K:PySem.W.Frag}{P:Int->Int->Prop}{g:Int->Int->V}{g':Int->Int->PV}(hg:∀i j H,Rep K H (g i j) (g' i j)):Cop K (rI P g) (cIc P g'):=fun x y px py H C Q R rx ry h q f=>by
 unfold cIc at q
 split at q
 .cases rx; cases ry
  exact⟨_,_,rfl,rfl,q.1,f _ H _ C q.2 (hg _ _ _) h Fw.refl⟩
 .exact q.elim
theorem fJ {K:PySem.W.Frag}:Cop K (rI0 fun i j=>.int (i - j)) (cI fun i j=>.int (i - j)):=KD fun _ _ _=>.int _
theorem bU {K:PySem.W.Frag}:Cop K (rI CMul fun i j=>.int (i * j)) (cIc CMul fun i j=>.int (i * j)):=lR fun _ _ _=>.int _
theorem kE {K:PySem.W.Frag}:Cop K (rI (fun _ j=>0 < j/\j < 18446744073709551616) fun i j=>.int (i / j)) (cIc (fun _ j=>0 < j/\j < 18446744073709551616) fun i j=>.int (i / j)):=lR fun _ _ _=>.int _
theorem gW {K:PySem.W.Frag}:Cop K (rI (fun _ j=>0 < j) fun i j=>.int (i % j)) (cIc (fun _ j=>0 < j) fun i j=>.int (i % j)):=lR fun _ _ _=>.int _
theorem cR {K:PySem.W.Frag}:Cop K (rI CPow fun i j=>.int (i ^ j.toNat)) (cIc CPow fun i j=>.int (i ^ j.toNat)):=lR fun _ _ _=>.int _
theorem lW {K:PySem.W.Frag}:Cop K (rI0 fun i j=>.bl (decide (i < j))) (cI fun i j=>.bl (decide (i < j))):=KD fun _ _ _=>.bl _
theorem rZ {K:PySem.W.Frag}:Cop K (rI0 fun i j=>.bl (decide (j < i))) (cI fun i j=>.bl (decide (j < i))):=KD fun _ _ _=>.bl _
def cNeg:PV->CH->K1->Prop:=fun x C Q=>match x with
 |.int i=>Q (.int (-i)) C
 |_=>False
theorem uU {K:PySem.W.Frag}:Cun K (rU fun i=>.int (-i)) cNeg:=fun x px H C Q R rx h q f=>by
 unfold cNeg at q
 split at q
 .cases rx; exact⟨_,rfl,f _ H _ C q (.int _) h Fw.refl⟩
 .exact q.elim
theorem bR {H H':Hp}{C:CH}(s:Same H H'):Fw H C H' C:=fun a c n=>⟨rfl,by
 cases e:H a with
 |none=>exact absurd e n
 |some o=>exact s a o e⟩
theorem kF {K:PySem.W.Frag}{H H':Hp}{C:CH}(h:HRel K H C)(s:Same H H'):HRel K H' C:=fun a o c=>by
 obtain⟨u,e,_⟩:=(h a o c).mut;exact(h a o c).imm (fun b v _ e=>s b v e) ((s a u e).trans e.symm)
@[irreducible] def yS:R2C:=fun x y C Q=>match x,y with
 |.int i,.int j=>Q (.int (i+j)) C
 |.str i,.str j=>i.length+j.length<=sizeLine/\Q (.str (i++j)) C
 |.tup xs,.tup ys=>xs.length+ys.length<=sizeLine/\Q (.tup (xs++ys)) C
 |.ref a,.ref b=>match C a,C b with
  |some (.lst xs),some (.lst ys)=>xs.length+ys.length<=sizeLine/\∀p,C p=none->Q (.ref p) (yQ C p (.lst (xs++ys)))
  |_,_=>False
 |_,_=>False
abbrev rAddC:R2:=fun x y H Q=>rI0 (fun i j=>.int (i+j)) x y H Q\/((∃i j,x=.str i/\y=.str j/\i.length+j.length<=sizeLine/\Q (.str (i++j)) H)\/(rCatU x y H Q\/rCat x y H Q))
theorem gX:OpR X (binaryOp .Add) rAddC:=OpR.or op_add (OpR.or pA (OpR.or op_catU op_cat))
theorem bX {K:PySem.W.Frag}:Cop K rAddC yS:=fun x y px py H C Q R rx ry h q f=>by
 unfold yS at q
 split at q
 .cases rx; cases ry
  exact .inl ⟨_,_,rfl,rfl,f _ H _ C q (.int _) h Fw.refl⟩
 .cases rx; cases ry
  exact .inr (.inl ⟨_,_,rfl,rfl,q.1,f _ H _ C q.2 (.str _) h Fw.refl⟩)
 .cases rx with
  |tup e r=>cases ry with
   |tup e' r' =>
    refine .inr (.inr (.inl ⟨_,_,_,_,rfl,rfl,e,e',by rw[r.len,r'.len]; exact q.1,fun z H' s hz _=>?_⟩));exact f _ H' _ C q.2 (.tup hz ((r.append r').imm fun b v _ e=>s b v e)) (kF h s) (bR s)
 .split at q
  .next xs ys e1 e2 =>
   obtain⟨vs,ev,rv⟩:=h _ _ e1;obtain⟨us,eu,ru⟩:=h _ _ e2;cases rx; cases ry
   refine .inr (.inr (.inr ⟨_,_,_,_,rfl,rfl,ev,eu,by rw[rv.len,ru.len]; exact q.1,fun p hp=>?_⟩));exact f _ _ _ _ (q.2 p (h.fresh hp)) (.ref p) (h.lay hp ⟨_,gQ,(rv.append ru).imm (Imm.new hp _)⟩) (Fw.lay hp _ _)
  .exact q.elim
 .exact q.elim
def sEq:PV->PV->Option Bool
 |.non,.non=>some true | .non,.int _=>some false | .int _,.non=>some false | .non,.bl _=>some false | .bl _,.non=>some false | .non,.str _=>some false | .str _,.non=>some false
 |.int i,.int j=>some (decide (i=j)) | .bl b,.bl c=>some (decide (b=c)) | .str x,.str y=>some (decide (x=y))
 |.int _,.str _=>some false | .str _,.int _=>some false | .bl _,.str _=>some false | .str _,.bl _=>some false
 |_,_=>none
@[irreducible] def cEq (k:Bool->Bool):R2C:=fun x y C Q=>match sEq x y with
 |some b=>Q (.bl (k b)) C
 |none=>False
theorem Qy {K:PySem.W.Frag}{H:Hp}{x y:V}{px py:PV}{b:Bool}(rx:Rep K H x px)(ry:Rep K H y py)(e:sEq px py=some b):scal x y=true/\decide (x=y)=b:=by
 cases rx<;>cases ry<;>cases e<;>exact⟨rfl,by simp⟩
theorem iQ {K:PySem.W.Frag}:Cop K rEq (cEq id):=fun x y px py H C Q R rx ry h q f=>by
 unfold cEq at q
 split at q
 .next b e =>
  obtain⟨h1,h2⟩:=Qy rx ry e;refine⟨h1,?_⟩;rw[h2];exact f _ H _ C q (.bl _) h Fw.refl
 .exact q.elim
theorem cop_ne {K:PySem.W.Frag}:Cop K rNe (cEq not):=fun x y px py H C Q R rx ry h q f=>by
 unfold cEq at q
 split at q
 .next b e =>
  obtain⟨h1,h2⟩:=Qy rx ry e;refine⟨h1,?_⟩;rw[h2];exact f _ H _ C q (.bl _) h Fw.refl
 .exact q.elim
def uI:PV->Bool
 |.non=>true
 |_=>false
def cIs (k:Bool->Bool):R2C:=fun x y C Q=>match y with
 |.non=>Q (.bl (k (uI x))) C
 |_=>False
theorem rO {K:PySem.W.Frag}{H:Hp}{x:V}{px:PV}(r:Rep K H x px):decide (x=.non)=uI px:=by
 cases r<;>simp[uI]
theorem Q7 {K:PySem.W.Frag}:Cop K (fun x y H Q=>y=.non/\Q (.bl (decide (x=.non))) H) (cIs id):=fun x y px py H C Q R rx ry h q f=>by
 cases ry with
 |non=>exact⟨rfl,by rw[rO rx]; exact f _ H _ C q (.bl _) h Fw.refl⟩
 |_=>exact q.elim
theorem KC {K:PySem.W.Frag}:Cop K (fun x y H Q=>y=.non/\Q (.bl (!decide (x=.non))) H) (cIs not):=fun x y px py H C Q R rx ry h q f=>by
 cases ry with
 |non=>exact⟨rfl,by rw[rO rx]; exact f _ H _ C q (.bl _) h Fw.refl⟩
 |_=>exact q.elim
def cAt (xs:List PV)(i:Int)(C:CH)(Q:K1):Prop:=match atI xs i with
 |some v=>Q v C
 |none=>False
@[irreducible] def cIx:R2C:=fun x y C Q=>match x,y with
 |.tup xs,.int i=>cAt xs i C Q
 |.kt xs,.int i=>cAt xs i C Q
 |.fz xs,.int i=>cAt xs i C Q
 |.ref a,.int i=>match C a with
  |some (.lst xs)=>cAt xs i C Q
  |_=>False
 |.str z,.int i=>z.length<=sizeLine/\match atI z.cps.toList i with
  |some c=>Q (.str ⟨#[c]⟩) C
  |none=>False
 |_,_=>False
theorem Reps.at {K:PySem.W.Frag}{H:Hp}{vs:List V}{ts:List PV}{i:Int}{t:PV}(r:Reps K H vs ts)(e:atI ts i=some t):∃v,atI vs i=some v/\Rep K H v t:=by
 unfold atI at e ⊢;rw[r.len]
 cases z:ixN ts.length i with
 |none=>rw[z] at e; cases e
 |some j =>
  rw[z] at e;exact r.get e
theorem wS {K:PySem.W.Frag}{H:Hp}{C:CH}{vs:List V}{ts:List PV}{i:Int}{R:K1}(r:Reps K H vs ts)(q:cAt ts i C R):∃v t,atI vs i=some v/\Rep K H v t/\R t C:=by
 unfold cAt at q
 split at q
 .next t e =>
  obtain⟨v,e',r'⟩:=r.at e;exact⟨v,t,e',r',q⟩
 .exact q.elim
theorem cop_ix {K:PySem.W.Frag}:Cop K (rIx K) cIx:=fun x y px py H C Q R rx ry h q f=>by
 unfold cIx at q
 split at q
 .cases ry
  cases rx with
  |tup e r =>
   obtain⟨v,t,e',r',q⟩:=wS r q;exact .inr (.inl ⟨_,_,_,v,rfl,rfl,SqT.of e,e',f _ H _ C q r' h Fw.refl⟩)
 .cases ry
  cases rx with
  |kt e r =>
   obtain⟨v,t,e',r',q⟩:=wS r q;exact .inr (.inl ⟨_,_,_,v,rfl,rfl,e,e',f _ H _ C q r' h Fw.refl⟩)
 .cases ry
  cases rx with
  |fz e r =>
   obtain⟨v,t,e',r',q⟩:=wS r q;exact .inl ⟨_,_,_,v,rfl,rfl,e.sq,e',f _ H _ C q r' h Fw.refl⟩
 .cases ry
  split at q
  .next xs e =>
   obtain⟨vs,ev,rv⟩:=h _ _ e;cases rx;obtain⟨v,t,e',r',q⟩:=wS rv q;exact .inl ⟨_,_,_,v,rfl,rfl,SqL.of ev,e',f _ H _ C q r' h Fw.refl⟩
  .exact q.elim
 .cases ry; cases rx
  obtain⟨q1,q2⟩:=q
  split at q2
  .next c e=>exact .inr (.inr ⟨_,_,c,rfl,rfl,q1,e,f _ H _ C q2 (.str _) h Fw.refl⟩)
  .exact q2.elim
 .exact q.elim
theorem ix_seqC:IxR X (rIx X.K):=ix_seq
@[irreducible] def oH:GC:=fun ts C Q=>match ts with
 |[.tup xs]=>Q (.int xs.length) C
 |[.kt xs]=>Q (.int xs.length) C
 |[.fz xs]=>Q (.int xs.length) C
 |[.ref a]=>match C a with
  |some (.lst xs)=>Q (.int xs.length) C
  |some (.dK kvs)=>Q (.int kvs.length) C
  |_=>False
 |[.str z]=>z.length<=sizeLine/\Q (.int z.length) C
 |_=>False
abbrev rLenC (K:PySem.W.Frag):List V->Hp->VK->Prop:=fun xs H Q=>(∃p ys,xs=[.ref p]/\(SqL K H p ys\/SqT K H p ys)/\Q (.int ys.length) H)\/((∃a kvs,xs=[V.ref a]/\H a=some (.dK kvs)/\Q (.int kvs.length) H)\/∃z,xs=[.str z]/\z.length<=sizeLine/\Q (.int z.length) H)
theorem Zj:CallR X (.builtin "len") (rLenC X.K):=CallR.or zS (CallR.or Zi qS)
theorem sX {K:PySem.W.Frag}{H:Hp}{xs:List V}{t:PV}(r:Reps K H xs [t]):∃v,xs=[v]/\Rep K H v t:=by
 cases r with
 |cons h r=>cases r; exact⟨_,rfl,h⟩
theorem oB {K:PySem.W.Frag}{H:Hp}{xs:List V}{t u:PV}(r:Reps K H xs [t,u]):∃v w,xs=[v,w]/\Rep K H v t/\Rep K H w u:=by
 cases r with
 |cons h r=>obtain⟨w,rfl,h'⟩:=sX r; exact⟨_,w,rfl,h,h'⟩
theorem cbi_len {K:PySem.W.Frag}:Cbi K (rLenC K) oH:=fun xs ps H C Q R rs h q f=>by
 unfold oH at q
 split at q
 .obtain ⟨v,rfl,r⟩:=sX rs
  cases r with
  |tup e r=>exact .inl ⟨_,_,rfl,.inr (SqT.of e),f _ H _ C (by rw[r.len]; exact q) (.int _) h Fw.refl⟩
 .obtain ⟨v,rfl,r⟩:=sX rs
  cases r with
  |kt e r=>exact .inl ⟨_,_,rfl,.inr e,f _ H _ C (by rw[r.len]; exact q) (.int _) h Fw.refl⟩
 .obtain ⟨v,rfl,r⟩:=sX rs
  cases r with
  |fz e r=>exact .inl ⟨_,_,rfl,.inl e.sq,f _ H _ C (by rw[r.len]; exact q) (.int _) h Fw.refl⟩
 .obtain ⟨v,rfl,r⟩:=sX rs
  split at q
  .next xs e =>
   obtain⟨vs,ev,rv⟩:=h _ _ e;cases r;exact .inl ⟨_,_,rfl,.inl (SqL.of ev),f _ H _ C (by rw[rv.len]; exact q) (.int _) h Fw.refl⟩
  .next kvs e =>
   obtain⟨vs,ev,rv⟩:=h _ _ e;cases r;exact .inr (.inl ⟨_,_,rfl,ev,f _ H _ C (by rw[Paired.length rv]; exact q) (.int _) h Fw.refl⟩)
  .exact q.elim
 .obtain ⟨v,rfl,r⟩:=sX rs
  cases r;exact .inr (.inr ⟨_,rfl,q.1,f _ H _ C q.2 (.int _) h Fw.refl⟩)
 .exact q.elim
def tyP (C:CH):PV->Option Ty
 |.non=>some .non
 |.bl _=>some .bl
 |.int _=>some .int
 |.str _=>some .str
 |.tup _=>some .tup
 |.ref a=>match C a with
  |some (.lst _)=>some .lst
  |some (.dK _)=>some .dct
  |_=>none
 |_=>none
theorem tyP_rep {K:PySem.W.Frag}{H:Hp}{C:CH}{x:V}{t:PV}{n:Ty}(r:Rep K H x t)(h:HRel K H C)(e:tyP C t=some n):tyN H x=some n:=by
 cases r with
 |tup e' _=>cases e; show(H _).bind tyH=_; rw[e']; rfl
 |ref a =>
  unfold tyP at e;dsimp only at e
  split at e
  .next xs c=>cases e; obtain⟨vs,ev,_⟩:=h _ _ c; show(H _).bind tyH=_; rw[ev]; rfl
  .next xs c=>cases e; obtain⟨vs,ev,_⟩:=h _ _ c; show(H _).bind tyH=_; rw[ev]; rfl
  .cases e
 |kt _ _=>cases e
 |fz _ _=>cases e
 |ty _=>cases e
 |vw _=>cases e
 |_=>cases e; rfl
def rB (n:String):Option Ty:=[Ty.non,.bl,.int,.str,.lst,.tup,.dct].find? fun t=>vG t==n
theorem rS {n:String}{t:Ty}(h:rB n=some t):n=vG t:=by
 have:=List.find?_some h;exact(eq_of_beq this).symm
@[irreducible] def cIsi:GC:=fun ts C Q=>match ts with
 |[x,.ty n]=>match rB n,tyP C x with
  |some T,some k=>Q (.bl (qW k T)) C
  |_,_=>False
 |_=>False
theorem gM {K:PySem.W.Frag}:Cbi K (fun xs H Q=>∃x T n,xs=[x,.ty (vG T)]/\tyN H x=some n/\Q (.bl (qW n T)) H) cIsi:=fun xs ps H C Q R rs h q f=>by
 unfold cIsi at q
 split at q
 .split at q
  .next T k e1 e2 =>
   obtain⟨v,w,rfl,r1,r2⟩:=oB rs;cases r2;rw[rS e1];exact⟨v,T,k,rfl,tyP_rep r1 h e2,f _ H _ C q (.bl _) h Fw.refl⟩
  .exact q.elim
 .exact q.elim
def cAbs:GC:=fun ts C Q=>match ts with
 |[.int i]=>Q (.int (if i < 0 then -i else i)) C
 |_=>False
theorem cbi_abs {K:PySem.W.Frag}:Cbi K (fun xs H Q=>∃i,xs=[.int i]/\Q (.int (if i < 0 then -i else i)) H) cAbs:=fun xs ps H C Q R rs h q f=>by
 unfold cAbs at q
 split at q
 .obtain ⟨v,rfl,r⟩:=sX rs
  cases r;exact⟨_,rfl,f _ H _ C q (.int _) h Fw.refl⟩
 .exact q.elim
@[irreducible] def bF:GC:=fun ts C Q=>match ts with
 |[.tup xs]=>Q (.tup xs) C
 |[.ref a]=>match C a with
  |some (.lst xs)=>Q (.tup xs) C
  |_=>False
 |_=>False
theorem cbi_tup {K:PySem.W.Frag}:Cbi K (fun xs H Q=>∃p ys,xs=[.ref p]/\((SqL K H p ys/\∀l,H l=none->Q (.ref l) (upd H l (.tup ys)))\/(SqT K H p ys/\Q (.ref p) H))) bF:=fun xs ps H C Q R rs h q f=>by
 unfold bF at q
 split at q
 .obtain ⟨v,rfl,r⟩:=sX rs
  cases r with
  |tup e r=>exact⟨_,_,rfl,.inr ⟨SqT.of e,f _ H _ C q (.tup e r) h Fw.refl⟩⟩
 .obtain ⟨v,rfl,r⟩:=sX rs
  split at q
  .next xs e =>
   obtain⟨vs,ev,rv⟩:=h _ _ e;cases r;exact⟨_,_,rfl,.inl ⟨SqL.of ev,fun l hl=>f _ _ _ C q (.tup gQ (rv.imm (Imm.new hl _))) (h.new hl _) (Fw.new hl _)⟩⟩
  .exact q.elim
 .exact q.elim
def jS:GC:=fun ts C Q=>match ts with
 |[.tup xs]=>∀p,C p=none->Q (.ref p) (yQ C p (.lst xs))
 |[.ref a]=>match C a with
  |some (.lst xs)=>∀p,C p=none->Q (.ref p) (yQ C p (.lst xs))
  |_=>False
 |_=>False
theorem cbi_lst {K:PySem.W.Frag}:Cbi K (fun xs H Q=>∃p ys,xs=[.ref p]/\(SqL K H p ys\/SqT K H p ys)/\∀l,H l=none->Q (.ref l) (upd H l (.lst ys))) jS:=fun xs ps H C Q R rs h q f=>by
 unfold jS at q
 split at q
 .obtain ⟨v,rfl,r⟩:=sX rs
  cases r with
  |tup e r=>exact⟨_,_,rfl,.inr (SqT.of e),fun l hl=>f _ _ _ _ (q l (h.fresh hl)) (.ref l) (h.lay hl ⟨_,gQ,r.imm (Imm.new hl _)⟩) (Fw.lay hl _ _)⟩
 .obtain ⟨v,rfl,r⟩:=sX rs
  split at q
  .next xs e =>
   obtain⟨vs,ev,rv⟩:=h _ _ e;cases r;exact⟨_,_,rfl,.inl (SqL.of ev),fun l hl=>f _ _ _ _ (q l (h.fresh hl)) (.ref l) (h.lay hl ⟨_,gQ,rv.imm (Imm.new hl _)⟩) (Fw.lay hl _ _)⟩
  .exact q.elim
 .exact q.elim
def wD:List PV->Option (List Bool)
 |[]=>some []
 |.bl b::r=>(wD r).map (b :: ·)
 |_=>none
@[irreducible] def cAll:GC:=fun ts C Q=>match ts with
 |[.ref a]=>match C a with
  |some (.lst xs)=>match wD xs with
   |some bs=>Q (.bl (bs.all id)) C
   |none=>False
  |_=>False
 |_=>False
theorem Zk {K:PySem.W.Frag}{H:Hp}{vs:List V}{ts:List PV}{bs:List Bool}(r:Reps K H vs ts)(e:wD ts=some bs):vs=bs.map V.bl:=by
 induction ts generalizing vs bs with
 |nil=>cases r; cases e; rfl
 |cons t ts ih =>
  cases r with
  |@cons v _ vs _ h r =>
   cases t with
   |bl b =>
    unfold wD at e
    cases z:wD ts with
    |none=>rw[z] at e; cases e
    |some cs =>
     rw[z] at e;injection e with e
     subst e;cases h;rw[ih r z]; rfl
   |_=>cases e
theorem cbi_all {K:PySem.W.Frag}:Cbi K (fun xs H Q=>∃p ys,xs=[.ref p]/\SqL K H p (List.map V.bl ys)/\Q (.bl (ys.all id)) H) cAll:=fun xs ps H C Q R rs h q f=>by
 unfold cAll at q
 split at q
 .obtain ⟨v,rfl,r⟩:=sX rs
  split at q
  .next xs e =>
   split at q
   .next bs eb =>
    obtain⟨vs,ev,rv⟩:=h _ _ e;cases r;have:=Zk rv eb;subst this;exact⟨_,bs,rfl,SqL.of ev,f _ H _ C q (.bl _) h Fw.refl⟩
   .exact q.elim
  .exact q.elim
 .exact q.elim
def isL (x:PV)(C:CH):Prop:=match x with
 |.ref a=>match C a with
  |some (.lst _)=>True
  |_=>False
 |_=>False
def cBM (cr:PV->List PV->CH->K1->Prop)(co:TCE)(ca:TCA):TCE:=fun ρ C Q=>co ρ C fun x C1=>isL x C1/\ca ρ C1 fun xs C2=>cr x xs C2 Q
def Cmt (K:PySem.W.Frag)(r:V->List V->Hp->VK->Prop)(cr:PV->List PV->CH->K1->Prop):Prop:=∀x px xs ps H C Q R,Rep K H x px->Reps K H xs ps->HRel K H C->cr px ps C R->(∀v H' t C',R t C'->Rep K H' v t->HRel K H' C'->Fw H C H' C'->Q v H')->r x xs H Q
theorem Kb {K:PySem.W.Frag}{H:Hp}{C:CH}{x:V}{t:PV}(l:isL t C)(r:Rep K H x t)(h:HRel K H C):tyV K "list" x H:=by
 unfold isL at l
 split at l
 .split at l
  .next e=>obtain⟨vs,ev,_⟩:=h _ _ e; cases r; exact .inl ⟨rfl,vs,SqL.of ev⟩
  .exact l.elim
 .exact l.elim
theorem ce_bm {name:Str}{id:String}{apos cpos:Pos}{r:V->List V->Hp->VK->Prop}{cr:PV->List PV->CH->K1->Prop}{co:TCE}{ca:TCA}(pa:PlainAttrs "list")(slot:Slot "list" name id)(hty:typeOf (.builtin id)=pure (.type "method_descriptor"))(hm:MtR X id r)(hr:Cmt X.K r cr)(ho:CE X o co)(ha:CA X (e::es) ca)
  (hbase:attributeBase o name X.env (eval o X.env)=eval o X.env:=by rfl)
  (hfew:((backTo cpos (starEach (e::es) X.env)).all (fun x=>!x.1)&&(backToKw cpos (keywordEach [] X.env)).all (fun x=>x.1.isSome)
   && decide ((e::es).length+([]:List Keyword).length+(if ([]:List Keyword).isEmpty then 0 else 1) < 30))=true:=by rfl)
  (hline:(apos.endLine==cpos.line)=true:=by rfl) (hs:nQ e=true:=by rfl) (hall:es.all nQ=true:=by rfl) :
  CE X (.Call (.Attribute o name apos) (e::es) [] cpos) (cBM cr co ca):=⟨JE.weak (je_bm pa slot hty hm ho.h ha.h hbase hfew hline hs hall) fun σ H Q ⟨ρ,C,R,s,h,q,f⟩ =>
 ⟨ρ,C,_,s,h,q,fun x H1 px C1 q1 rx h1 f1=>⟨Kb q1.1 rx h1,ρ,C1,_,s.imm (f1.imm h),h1,q1.2,fun xs H2 ps C2 q2 rs h2 f2 =>
  hr x px xs ps H2 C2 Q R (rx.imm (f2.imm h1)) rs h2 q2 fun v H' t C' q' r' h' f'=>f v H' t C' q' r' h' (f1.trans (f2.trans f'))⟩⟩⟩
@[irreducible] def qG:PV->List PV->CH->K1->Prop:=fun x ts C Q=>match x,ts with
 |.ref a,[y]=>match C a with
  |some (.lst xs)=>xs.length < sizeLine/\Q .non (yQ C a (.lst (xs++[y])))
  |_=>False
 |_,_=>False
theorem iI {K:PySem.W.Frag}:Cmt K QB qG:=fun x px xs ps H C Q R rx rs h q f=>by
 unfold qG at q
 split at q
 .split at q
  .next ys e =>
   obtain⟨vs,ev,rv⟩:=h _ _ e;obtain⟨v,rfl,r⟩:=sX rs;cases rx;exact⟨_,vs,v,rfl,rfl,ev,by rw[rv.len]; exact q.1,f _ _ _ _ q.2 .non (h.put ev rfl ⟨_,gQ,(rv.append (.cons r .nil)).imm (Imm.mut ev rfl _)⟩) (Fw.put e _ _)⟩
  .exact q.elim
 .exact q.elim
end
def jK:PV->Option Key
 |.non=>some (.inl none)
 |.int i=>some (.inl (some i))
 |.str x=>some (.inr x)
 |_=>none
def aV:Key->PV
 |.inl none=>.non
 |.inl (some i)=>.int i
 |.inr x=>.str x
theorem keyOf_keyPV (k:Key):jK (aV k)=some k:=by rcases k with (_ | i) | x<;>rfl
theorem Xx {K:PySem.W.Frag}{H:Hp}(k:Key):Rep K H (kV k) (aV k):=by
 rcases k with (_ | i) | x
 .exact .non
 .exact .int i
 .exact .str x
theorem zY {K:PySem.W.Frag}{H:Hp}{v:V}{t:PV}{k:Key}(r:Rep K H v t)(e:jK t=some k):v=kV k:=by
 cases r<;>cases e<;>rfl
def cZ (kvs:List (Key×PV))(k:Key):Option PV:=(kvs.find? fun kv=>decide (kv.1=k)).map (·.2)
def fZ (kvs:List (Key×PV))(k:Key)(v:PV):List (Key×PV):=if (kvs.any fun kv=>decide (kv.1=k))=true then kvs.map fun kv=>if kv.1=k then (kv.1,v) else kv else kvs++[(k,v)]
def jV (kvs more:List (Key×PV)):List (Key×PV):=more.foldl (fun acc kv=>fZ acc kv.1 kv.2) kvs
section
variable {K:PySem.W.Frag}{H:Hp}{vs:List (Key×V)}{kvs:List (Key×PV)}
theorem KP.val (r:KP K H vs kvs)(k:Key):(∃v t,oW vs k=some v/\cZ kvs k=some t/\Rep K H v t)\/(oW vs k=none/\cZ kvs k=none):=by
 induction r with
 |nil=>exact .inr ⟨rfl,rfl⟩
 |@cons p q l1 l2 h r ih =>
  unfold oW cZ;rw[List.find?_cons,List.find?_cons,h.1]
  by_cases e:q.1=k
  .rw [decide_eq_true e]
   exact .inl ⟨p.2,q.2,rfl,rfl,h.2⟩
  .rw [decide_eq_false e]
   exact ih
theorem KP.any (r:KP K H vs kvs)(k:Key):(vs.any fun kv=>decide (kv.1=k))=(kvs.any fun kv=>decide (kv.1=k)):=by
 induction r with
 |nil=>rfl
 |@cons p q l1 l2 h r ih=>rw[List.any_cons,List.any_cons,h.1,ih]
theorem KP.put (r:KP K H vs kvs)(k:Key){v:V}{t:PV}(h:Rep K H v t):KP K H (bK vs k v) (fZ kvs k t):=by
 unfold bK fZ;rw[r.any k]
 have upd:KP K H (vs.map fun kv=>if kv.1=k then (kv.1,v) else kv) (kvs.map fun kv=>if kv.1=k then (kv.1,t) else kv):=by
  induction r with
  |nil=>exact .nil
  |@cons p q l1 l2 h' r ih =>
   refine .cons ?_ ih;dsimp only
   by_cases e:q.1=k
   .rw [if_pos (h'.1.trans e),if_pos e]; exact⟨h'.1,h⟩
   .rw [if_neg (fun z=>e (h'.1.symm.trans z)),if_neg e]; exact h'
 split
 .exact upd
 .exact Paired.snoc r ⟨rfl,h⟩
theorem KP.merge {ws:List (Key×V)}{more:List (Key×PV)}(r:KP K H vs kvs)(m:KP K H ws more):KP K H (iJ vs ws) (jV kvs more):=by
 induction m generalizing vs kvs with
 |nil=>exact r
 |@cons p q l1 l2 h _ ih =>
  have e:p.1=q.1:=h.1;show KP K H (iJ (bK vs p.1 p.2) l1) (jV (fZ kvs q.1 q.2) l2);rw[e];exact ih (r.put q.1 h.2)
end
def dOf:Option CO->Option (List (Key×PV))
 |some (.dK kvs)=>some kvs
 |some (.fK kvs)=>some kvs
 |_=>none
theorem dOf_rd {K:PySem.W.Frag}{H:Hp}{C:CH}{a:Addr}{kvs:List (Key×PV)}(h:HRel K H C)(e:dOf (C a)=some kvs):∃vs,Rd H a (.dK vs)/\KP K H vs kvs:=by
 cases c:C a with
 |none=>rw[c] at e; cases e
 |some o =>
  rw[c] at e
  cases o with
  |lst xs=>cases e
  |dT l=>cases e
  |fT l=>cases e
  |dP l=>cases e
  |ins c dx fs=>cases e
  |dK l=>cases e; obtain⟨vs,q,r⟩:=h a _ c; exact⟨vs,.inl q,r⟩
  |fK l=>cases e; obtain⟨o,vs,q,r⟩:=h a _ c; exact⟨vs,.inr ⟨o,q⟩,r⟩
section
variable {X:Cx}{a b c e o i f:Expr}{es:List Expr}{pos:Pos}{value:Expr}
@[irreducible] def tH:R2C:=fun x y C Q=>match x with
 |.ref a=>match dOf (C a),jK y with
  |some kvs,some k=>match cZ kvs k with
   |some v=>Q v C
   |none=>False
  |_,_=>False
 |_=>False
theorem QZ {K:PySem.W.Frag}{H:Hp}{C:CH}{a:Addr}{y:V}{py:PV}{kvs:List (Key×PV)}{k:Key}(h:HRel K H C)(e1:dOf (C a)=some kvs)(ry:Rep K H y py)(e2:jK py=some k):
  (∃v t,DGet H a y (some v)/\cZ kvs k=some t/\Rep K H v t)\/(DGet H a y none/\cZ kvs k=none):=by
 obtain⟨vs,q,r⟩:=dOf_rd h e1;have ey:=zY ry e2;subst ey
 rcases r.val k with ⟨v,t,h1,h2,h3⟩ | ⟨h1,h2⟩
 .exact .inl ⟨v,t,.inl ⟨vs,k,q,rfl,h1.symm⟩,h2,h3⟩
 .exact .inr ⟨.inl ⟨vs,k,q,rfl,h1.symm⟩,h2⟩
theorem bZ {co ci:TCE}(hu:X.A.units+1 < cLine)(ho:CE X o co)(hi:CE X i ci)(hs:Qm i):CE X (.Subscript o i pos) (cOp tH co ci):=⟨JE.weak (QM hu ho.h hi.h hs) fun σ H Q ⟨ρ,C,R,s,h,q,f⟩ =>
 ⟨ρ,C,_,s,h,q,fun x H1 px C1 q1 rx h1 f1=>⟨ρ,C1,_,s.imm (f1.imm h),h1,q1,fun y H2 py C2 q2 ry h2 f2=>by
  unfold tH at q2
  split at q2
  .next a =>
   split at q2
   .next kvs k e1 e2 =>
    split at q2
    .next t e3 =>
     have rx2:=rx.imm (f2.imm h1);cases rx2
     rcases QZ h2 e1 ry e2 with ⟨v,t',g,e4,r⟩ | ⟨_,e4⟩
     .rw [e3] at e4
      cases e4;exact⟨a,v,rfl,g,f v H2 t C2 q2 r h2 (f1.trans f2)⟩
     .rw [e3] at e4; cases e4
    .exact q2.elim
   .exact q2.elim
  .exact q2.elim⟩⟩⟩
def bI (x:PV)(C:CH):Prop:=match x with
 |.ref a=>match C a with
  |some (.dK _)=>True
  |_=>False
 |_=>False
@[irreducible] def Xj:PV->PV->PV->CH->K1->Prop:=fun x y z C Q=>match x with
 |.ref a=>match dOf (C a),jK y with
  |some kvs,some k=>Q ((cZ kvs k).getD z) C
  |_,_=>False
 |_=>False
def K7 (co ck cz:TCE):TCE:=fun ρ C Q=>co ρ C fun x C1=>bI x C1/\ck ρ C1 fun y C2=>cz ρ C2 fun z C3=>Xj x y z C3 Q
theorem QQ {K:PySem.W.Frag}{H:Hp}{C:CH}{x:V}{t:PV}(d:bI t C)(r:Rep K H x t)(h:HRel K H C):∃a kvs,x=.ref a/\t=.ref a/\H a=some (.dK kvs):=by
 unfold bI at d
 split at d
 .split at d
  .next e=>obtain⟨vs,ev,_⟩:=h _ _ e; cases r; exact⟨_,vs,rfl,rfl,ev⟩
  .exact d.elim
 .exact d.elim
theorem KQ {co ck cz:TCE}{apos cpos:Pos}(hu:X.A.units+1 < cLine)(ho:CE X o co)(he:CE X e ck)(hf:CE X f cz)(hb:attributeBase o "get" X.env (eval o X.env)=eval o X.env:=by rfl)(hl:(apos.endLine==cpos.line)=true:=by rfl)
  (h1:nQ e=true:=by rfl) (h2:nQ f=true:=by rfl):CE X (.Call (.Attribute o "get" apos) [e,f] [] cpos) (K7 co ck cz):=⟨JE.weak (pO hu ho.h he.h hf.h hb hl h1 h2) fun σ H Q ⟨ρ,C,R,s,h,q,f⟩ =>
 ⟨ρ,C,_,s,h,q,fun x H1 px C1 q1 rx h1 f1=>by
  obtain⟨a,kvs,rfl,rfl,e1⟩:=QQ q1.1 rx h1;refine⟨a,rfl,.inl ⟨kvs,.inl e1⟩,ρ,C1,_,s.imm (f1.imm h),h1,q1.2,fun y H2 py C2 q2 ry h2 f2=>⟨ρ,C2,_,(s.imm (f1.imm h)).imm (f2.imm h1),h2,q2,fun z H3 pz C3 q3 rz h3 f3=>?_⟩⟩;unfold Xj at q3;dsimp only at q3
  split at q3
  .next kvs' k d1 d2 =>
   rcases QZ h3 d1 (ry.imm (f3.imm h2)) d2 with ⟨v,t',g,e4,r⟩ | ⟨g,e4⟩
   .rw [e4] at q3
    exact⟨some v,g,f v H3 t' C3 q3 r h3 (f1.trans (f2.trans f3))⟩
   .rw [e4] at q3
    exact⟨none,g,f z H3 pz C3 q3 rz h3 (f1.trans (f2.trans f3))⟩
  .exact q3.elim⟩⟩
@[irreducible] def zH:PV->PV->PV->CH->(CH->Prop)->Prop:=fun x y v C Q=>match x with
 |.ref a=>match C a,jK y with
  |some (.dK kvs),some k=>kvs.length < sizeLine/\Q (yQ C a (.dK (fZ kvs k v)))
  |_,_=>False
 |_=>False
def cDPut (co ck cv:TCE):TCS:=fun E ρ C=>cv ρ C fun v C1=>co ρ C1 fun x C2=>ck ρ C2 fun y C3=>zH x y v C3 fun C4=>E.nx ρ C4
theorem vK {pos':Pos}{co ck cv:TCE}(hu:X.A.units+1 < cLine)(ho:CE X o co)(hi:CE X i ck)(hv:CE X value cv)(hs:swapsWith value (some (.Subscript o i pos')) pos.line X.env=pure false:=by rfl):
  CS X (.Assign [.Subscript o i pos'] value pos) (cDPut co ck cv):=⟨JS.weak (QK hu ho.h hi.h hv.h hs) fun D σ H ⟨ρ,C,E,s,h,q,f⟩ =>
 ⟨ρ,C,_,s,h,q,fun v H1 pv C1 q1 rv h1 f1=>⟨ρ,C1,_,s.imm (f1.imm h),h1,q1,fun x H2 px C2 q2 rx h2 f2=>⟨ρ,C2,_,(s.imm (f1.imm h)).imm (f2.imm h1),h2,q2,fun y H3 py C3 q3 ry h3 f3=>by
  have s3:=((s.imm (f1.imm h)).imm (f2.imm h1)).imm (f3.imm h2);have rv3:=rv.imm ((f2.trans f3).imm h1);unfold zH at q3
  split at q3
  .next a =>
   split at q3
   .next kvs k e1 e2 =>
    have rx3:=rx.imm (f3.imm h2);cases rx3;obtain⟨vs,ev,r⟩:=h3 a _ e1;have ey:=zY ry e2;subst ey;have hl:vs.length=kvs.length:=Paired.length r;have m:Imm H3 (upd H3 a (.dK (bK vs k v))):=Imm.mut ev rfl _;refine⟨a,_,rfl,DPut.k ev (by rw[hl]; exact q3.1),f.nx σ _ ρ _ q3.2 (s3.imm m) (h3.put ev rfl ⟨_,gQ,Paired.mapP (r.put k rv3) fun _ _ z=>⟨z.1,z.2.imm m⟩⟩) (f1.trans (f2.trans (f3.trans (Fw.put e1 _ _))))⟩
   .exact q3.elim
  .exact q3.elim⟩⟩⟩⟩
def fV:List PV->Option (List (Key×PV))
 |[]=>some []
 |.tup [k,v]::r=>match jK k,fV r with
  |some k,some ps=>some ((k,v)::ps)
  |_,_=>none
 |_=>none
theorem eF {K:PySem.W.Frag}{H:Hp}{vs:List V}{ts:List PV}{ps:List (Key×PV)}(r:Reps K H vs ts)(e:fV ts=some ps):∃pa ws,vs=List.map V.ref pa/\fW H pa ws/\KP K H ws ps:=by
 induction ts generalizing vs ps with
 |nil=>cases r; cases e; exact⟨[],[],rfl,.nil,.nil⟩
 |cons t ts ih =>
  cases r with
  |@cons v _ vs _ h r =>
   cases h with
   |@tup a ws xs e1 r1 =>
    rcases xs with _ | ⟨k,_ | ⟨u,_ | ⟨z,xs⟩⟩⟩
    .cases e
    .cases e
    .unfold fV at e
     split at e
     .next k' ps' k1 k2 =>
      cases e;obtain⟨pa,ws',rfl,p1,p2⟩:=ih r k2;obtain⟨v1,v2,rfl,r2,r3⟩:=oB r1;have ek:=zY r2 k1;subst ek;exact⟨a::pa,(k',v2)::ws',rfl,.cons e1 p1,.cons ⟨rfl,r3⟩ p2⟩
     .cases e
    .cases e
   |_=>cases e
@[irreducible] def jL:GC:=fun ts C Q=>match ts with
 |[.tup xs]=>match fV xs with
  |some ps=>ps.length<=sizeLine/\∀p,C p=none->Q (.ref p) (yQ C p (.dK (jV [] ps)))
  |none=>False
 |_=>False
theorem bE {K:PySem.W.Frag}:Cbi K (fun xs H Q=>∃t pa ps,xs=[.ref t]/\H t=some (.tup (List.map V.ref pa))/\fW H pa ps/\ps.length<=sizeLine/\∀d,H d=none->Q (.ref d) (upd H d (.dK (iJ [] ps)))) jL:=fun xs ts H C Q R rs h q f=>by
 unfold jL at q
 split at q
 .split at q
  .next ps e =>
   obtain⟨v,rfl,r⟩:=sX rs
   cases r with
   |@tup a vs xs e1 r1 =>
    obtain⟨pa,ws,rfl,p1,p2⟩:=eF r1 e;refine⟨a,pa,ws,rfl,e1,p1,by rw[Paired.length p2]; exact q.1,fun d hd=>?_⟩;exact f _ _ _ _ (q.2 d (h.fresh hd)) (.ref d) (h.lay hd ⟨_,gQ,Paired.mapP (KP.merge .nil p2) fun _ _ z=>⟨z.1,z.2.imm (Imm.new hd _)⟩⟩) (Fw.lay hd _ _)
  .exact q.elim
 .exact q.elim
def cBMD (cr:PV->List PV->CH->K1->Prop)(co:TCE)(ca:TCA):TCE:=fun ρ C Q=>co ρ C fun x C1=>bI x C1/\ca ρ C1 fun xs C2=>cr x xs C2 Q
theorem isDk_ty {K:PySem.W.Frag}{H:Hp}{C:CH}{x:V}{t:PV}(l:bI t C)(r:Rep K H x t)(h:HRel K H C):tyV K "dict" x H:=by
 obtain⟨a,kvs,rfl,_,e⟩:=QQ l r h;exact .inr (.inr (.inl ⟨rfl,.inl ⟨kvs,e⟩⟩))
theorem ce_bmD {name:Str}{id:String}{apos cpos:Pos}{r:V->List V->Hp->VK->Prop}{cr:PV->List PV->CH->K1->Prop}{co:TCE}{ca:TCA}(pa:PlainAttrs "dict")(slot:Slot "dict" name id)(hty:typeOf (.builtin id)=pure (.type "method_descriptor"))(hm:MtR X id r)(hr:Cmt X.K r cr)(ho:CE X o co)(ha:CA X (e::es) ca)
  (hbase:attributeBase o name X.env (eval o X.env)=eval o X.env:=by rfl)
  (hfew:((backTo cpos (starEach (e::es) X.env)).all (fun x=>!x.1)&&(backToKw cpos (keywordEach [] X.env)).all (fun x=>x.1.isSome)
   && decide ((e::es).length+([]:List Keyword).length+(if ([]:List Keyword).isEmpty then 0 else 1) < 30))=true:=by rfl)
  (hline:(apos.endLine==cpos.line)=true:=by rfl) (hs:nQ e=true:=by rfl) (hall:es.all nQ=true:=by rfl) :
  CE X (.Call (.Attribute o name apos) (e::es) [] cpos) (cBMD cr co ca):=⟨JE.weak (je_bm pa slot hty hm ho.h ha.h hbase hfew hline hs hall) fun σ H Q ⟨ρ,C,R,s,h,q,f⟩ =>
 ⟨ρ,C,_,s,h,q,fun x H1 px C1 q1 rx h1 f1=>⟨isDk_ty q1.1 rx h1,ρ,C1,_,s.imm (f1.imm h),h1,q1.2,fun xs H2 ps C2 q2 rs h2 f2 =>
  hr x px xs ps H2 C2 Q R (rx.imm (f2.imm h1)) rs h2 q2 fun v H' t C' q' r' h' f'=>f v H' t C' q' r' h' (f1.trans (f2.trans f'))⟩⟩⟩
@[irreducible] def Xd:PV->List PV->CH->K1->Prop:=fun x ts C Q=>match x,ts with
 |.ref a,[.tup xs]=>match C a,fV xs with
  |some (.dK kvs),some ps=>kvs.length+ps.length<=sizeLine/\Q .non (yQ C a (.dK (jV kvs ps)))
  |_,_=>False
 |_,_=>False
theorem cmt_upd {K:PySem.W.Frag}:Cmt K rUpdP Xd:=fun x px xs ts H C Q R rx rs h q f=>by
 unfold Xd at q
 split at q
 .split at q
  .next kvs ps e1 e2 =>
   obtain⟨v,rfl,r⟩:=sX rs
   cases r with
   |@tup t vs xs e3 r1 =>
    obtain⟨pa,ws,rfl,p1,p2⟩:=eF r1 e2;obtain⟨us,ev,ru⟩:=h _ _ e1;cases rx;have m:=Imm.mut (o:=.dK (iJ us ws)) ev rfl;refine⟨_,t,pa,ws,us,rfl,rfl,ev,e3,p1,by rw[Paired.length p2,Paired.length ru]; exact q.1,?_⟩;exact f _ _ _ _ q.2 .non (h.put ev rfl ⟨_,gQ,Paired.mapP (KP.merge ru p2) fun _ _ z=>⟨z.1,z.2.imm m⟩⟩) (Fw.put e1 _ _)
  .exact q.elim
 .exact q.elim
@[irreducible] def xS (co:TCE):TCE:=fun ρ C Q=>co ρ C fun x C1=>match x with
 |.ref a=>match C1 a with
  |some (.dK _)=>Q (.vw a) C1
  |_=>False
 |_=>False
theorem KO {apos cpos:Pos}{co:TCE}(ho:CE X o co)(hbase:attributeBase o "items" X.env (eval o X.env)=eval o X.env:=by rfl)(hline:(apos.endLine==cpos.line)=true:=by rfl):CE X (.Call (.Attribute o "items" apos) [] [] cpos) (xS co) :=
 ⟨JE.weak (wI F.plainAttrs_dict F.slot_dict_items F.type_dict_items JH ho.h hbase hline) fun σ H Q ⟨ρ,C,R,s,h,q,f⟩=>by
 unfold xS at q
 exact⟨ρ,C,_,s,h,q,fun x H1 px C1 q1 rx h1 f1=>by
  split at q1
  .split at q1
   .next kvs e =>
    obtain⟨vs,ev,r⟩:=h1 _ _ e;cases rx;exact⟨.inr (.inr (.inl ⟨rfl,.inl ⟨vs,ev⟩⟩)),_,vs,rfl,rfl,ev,fun v hv=>f _ _ _ _ q1 (.vw gQ) (h1.new hv _) (f1.trans (Fw.new hv _))⟩
   .exact q1.elim
  .exact q1.elim⟩⟩
end
end CL
namespace CL
open PySem PySem.Spec L2 PySem.W
open PyProof.Rows hiding St
def dQ (c:Str×Int):PV:=.tup [.str c.1,.int c.2]
def xA:List PV->Option (List (Str×Int))
 |[]=>some []
 |.tup [.str x,.int i]::r=>(xA r).map ((x,i) :: ·)
 |_=>none
def siK:List (Key×PV)->Option (List (Str×Int))
 |[]=>some []
 | (.inr x,.int i)::r=>(siK r).map ((x,i) :: ·)
 |_=>none
def kA (cs:List (Str×Int)):Nat->Nat->Bool:=fun i j=>JK (cs.getD i ("",0)) (cs.getD j ("",0))
def dW (cs:List (Str×Int)):List (Str×Int):=(pG (kA cs) (kas_sort cs.length)).toList.map fun i=>cs.getD i ("",0)
theorem iS:∀cs:List (Str×Int),xA (cs.map dQ)=some cs
 |[]=>rfl
 |c::cs=>by
  show(xA (cs.map dQ)).map _=_;rw[iS cs]; rfl
theorem siOf_eq {ts:List PV}{cs:List (Str×Int)}(e:xA ts=some cs):ts=cs.map dQ:=by
 induction ts generalizing cs with
 |nil=>cases e; rfl
 |cons t ts ih =>
  unfold xA at e
  split at e
  .rename_i h; cases h
  .rename_i x i r h
   cases h
   cases z:xA ts with
   |none=>rw[z] at e; cases e
   |some ds =>
    rw[z] at e;cases e;rw[ih z]; rfl
  .cases e
theorem siK_eq {ts:List (Key×PV)}{cs:List (Str×Int)}(e:siK ts=some cs):ts=cs.map fun c=>(Sum.inr c.1,PV.int c.2):=by
 induction ts generalizing cs with
 |nil=>cases e; rfl
 |cons t ts ih =>
  unfold siK at e
  split at e
  .rename_i h; cases h
  .rename_i x i r h
   cases h
   cases z:siK ts with
   |none=>rw[z] at e; cases e
   |some ds =>
    rw[z] at e;cases e;rw[ih z]; rfl
  .cases e
section
variable {K:PySem.W.Frag}{H:Hp}{X:Cx}
theorem si_at {ys:List V}{cs:List (Str×Int)}(r:Reps K H ys (cs.map dQ)):∀i,i < ys.length->Vd H (ys.getD i .non) (cs.getD i ("",0)):=by
 induction cs generalizing ys with
 |nil=>cases r; intro i hi; exact absurd hi (Nat.not_lt_zero i)
 |cons c cs ih =>
  cases r with
  |@cons v _ vs _ h r =>
   intro i hi
   cases i with
   |zero =>
    cases h with
    |tup e r1 =>
     obtain⟨v1,v2,rfl,r2,r3⟩:=oB r1;cases r2; cases r3
     exact⟨_,rfl,e⟩
   |succ i=>exact ih r i (Nat.lt_of_succ_lt_succ hi)
theorem Reps.getD {ys:List V}{ts:List PV}(r:Reps K H ys ts){d:PV}:∀i,i < ys.length->Rep K H (ys.getD i .non) (ts.getD i d):=by
 induction ts generalizing ys with
 |nil=>cases r; intro i hi; exact absurd hi (Nat.not_lt_zero i)
 |cons c cs ih =>
  cases r with
  |@cons v _ vs _ h r =>
   intro i hi
   cases i with
   |zero=>exact h
   |succ i=>exact ih r i (Nat.lt_of_succ_lt_succ hi)
theorem QG {ys:List V}{cs:List (Str×Int)}(lt:Nat->Nat->Bool)(r:Reps K H ys (cs.map dQ)):Reps K H (uG lt ys) (((pG lt (kas_sort cs.length)).toList.map fun i=>cs.getD i ("",0)).map dQ):=by
 have hl:ys.length=cs.length:=by rw[r.len,List.length_map]
 unfold uG;rw[hl]
 have mem:∀i∈(pG lt (kas_sort cs.length)).toList,i < ys.length:=by
  intro i hi
  by_cases h:0 < cs.length
  .have:=(jY lt cs.length h).mem_iff.mp hi
   rw[hl]; exact List.mem_range.mp this
  .have e:cs.length=0:=by omega
   rw[e] at hi;rw[run0] at hi;cases hi
 generalize (pG lt (kas_sort cs.length)).toList=l at mem ⊢
 induction l with
 |nil=>exact .nil
 |cons i l ih =>
  refine .cons ?_ (ih fun j hj=>mem j (List.mem_cons_of_mem _ hj));have h1:=r.getD (d:=dQ ("",0)) i (mem i List.mem_cons_self)
  have h2:(cs.map dQ).getD i (dQ ("",0))=dQ (cs.getD i ("",0)):=by
   rw[List.getD_eq_getElem?_getD,List.getElem?_map,List.getD_eq_getElem?_getD];cases cs[i]?<;>rfl
  rw[h2] at h1;exact h1
@[irreducible] def pU:GC:=fun ts C Q=>match ts with
 |[.ref a]=>match C a with
  |some (.lst xs)=>match xA xs with
   |some cs=>cs.length < 64/\∀p,C p=none->Q (.ref p) (yQ C p (.lst ((dW cs).map dQ)))
   |none=>False
  |_=>False
 |[.vw a]=>match C a with
  |some (.dK kvs)=>match siK kvs with
   |some cs=>cs.length < 64/\∀p,C p=none->Q (.ref p) (yQ C p (.lst ((dW cs).map dQ)))
   |none=>False
  |_=>False
 |_=>False
abbrev Qz (X:Cx):List V->Hp->VK->Prop:=fun xs H Q=>(∃l ys lt,xs=[.ref l]/\SqL X.K H l ys/\ys.length < 64/\Srt X H ys lt/\∀p,H p=none->Q (.ref p) (upd H p (.lst (uG lt ys)))) \/
 (∃v d kvs lt,xs=[.ref v]/\H v=some (.ext (xK v d))/\H d=some (.dK kvs)/\kvs.length < 64 /\
  ∀as H1,Same H H1->fW H1 as kvs->(∀a∈as,H a=none)->(∀a,H a=none->H1 a≠none->a∈as)->Srt X H1 (List.map V.ref as) lt/\∀p,H1 p=none->Q (.ref p) (upd H1 p (.lst (uG lt (List.map V.ref as)))))
theorem aY (hc:X.calm=true):CallR X (.builtin "sorted") (Qz X):=CallR.or mE (tR hc)
theorem uB:Cbi X.K (Qz X) pU:=fun xs ts H C Q R rs h q f=>by
 unfold pU at q
 split at q
 .obtain ⟨v,rfl,r⟩:=sX rs
  split at q
  .next xs e =>
   split at q
   .next cs e2 =>
    have ex:=siOf_eq e2;subst ex;obtain⟨vs,ev,rv⟩:=h _ _ e;cases r;have hl:vs.length=cs.length:=by rw[rv.len,List.length_map]
    refine .inl ⟨_,vs,kA cs,rfl,SqL.of ev,by rw[hl]; exact q.1,ZK _ (si_at rv),fun p hp=>?_⟩;exact f _ _ _ _ (q.2 p (h.fresh hp)) (.ref p) (h.lay hp ⟨_,gQ,(QG (kA cs) rv).imm (Imm.new hp _)⟩) (Fw.lay hp _ _)
   .exact q.elim
  .exact q.elim
 .obtain ⟨v,rfl,r⟩:=sX rs
  split at q
  .next kvs e =>
   split at q
   .next cs e2 =>
    have ex:=siK_eq e2;subst ex;obtain⟨vs,ev,rv⟩:=h _ _ e
    cases r with
    |vw hv =>
     have hl:vs.length=cs.length:=by rw[Paired.length rv,List.length_map]
     refine .inr ⟨_,_,vs,kA cs,rfl,hv,ev,by rw[hl]; exact q.1,fun as H1 sm pa fr on=>?_⟩
     have rr:Reps X.K H1 (List.map V.ref as) (cs.map dQ):=by
      clear hl fr on q e ev e2
      induction cs generalizing vs as with
      |nil=>cases rv; cases pa; exact .nil
      |cons c cs ih =>
       cases rv with
       |@cons p q l1 l2 h' rv =>
        cases pa with
        |@cons a _ l _ e1 pa =>
         obtain⟨k,v'⟩:=p;obtain⟨e3,e4⟩:=h';cases e3;cases e4;exact .cons (.tup e1 (.cons (.str _) (.cons (.int _) .nil))) (ih (vs:=l1) rv l pa)
     refine⟨ZK _ (si_at rr),fun p hp=>?_⟩;have h1:=kF h sm;exact f _ _ _ _ (q.2 p (h1.fresh hp)) (.ref p) (h1.lay hp ⟨_,gQ,(QG (kA cs) rr).imm (Imm.new hp _)⟩) ((bR sm).trans (Fw.lay hp _ _))
   .exact q.elim
  .exact q.elim
 .exact q.elim
end
section
variable {X:Cx}{pos:Pos}
@[irreducible] def vS (ce:TCE)(t:TCT)(c:TCE):TCE:=fun ρ C Q=>ce ρ C fun x C1=>match x with
 |.ref d=>match C1 d with
  |some (.dK kvs)=>kZ t c ρ (fun v C2=>C2 d=some (.fK kvs)/\Q v (yQ C2 d (.dK kvs))) (kvs.map fun p=>aV p.1) [] (yQ C1 d (.fK kvs))
  |_=>False
 |_=>False
structure ItOn (K:PySem.W.Frag)(S:Hp->Prop)(J:It)(ps:List PV):Prop where
 go:∀i H',i < ps.length->S H'->J.go i H'
 yl:∀i H' x H'',S H'->J.yld i H' x H''->H''=H'/\∀t,ps[i]?=some t->Rep K H' x t
 st:∀H',S H'->J.stop ps.length H'
theorem comp_on {K:PySem.W.Frag}{H H0:Hp}{C C0:CH}{σ:St}{ρ:CSt}{J:It}{ps:List PV}{t:TCT}{c:TCE}{R:K1}{Q:VK}{S:Hp->Prop}(j:ItOn K S J ps)(hS:∀H' C',HRel K H' C'->Fw H C H' C'->S H')(s:SRel K H σ ρ)(h:HRel K H C)(q:kZ t c ρ R ps [] C)
  (h0:HRel K H0 C0) (f0:Fw H0 C0 H C) (f:∀v H' p C',R p C'->Rep K H' v p->HRel K H' C'->Fw H0 C0 H' C'->Q v H') {D:Addr} (hD:H D=none) :
  ∃W:Nat->Nat->List V->Hp->Prop,(∃m,W 0 m [] (upd H D (.lst [])))/\∀i m ys H,W i m ys H ->
   (J.stop i H/\Q (.ref D) H)\/(J.go i H/\∀x H',J.yld i H x H'->iZ K eM t (some x::σ) H' fun b H2 =>
    if b=true then iZ K (Rep K) c (some x::σ) H2 fun y H3=>H3 D=some (.lst ys)/\ys.length < sizeLine/\∃m',m' < m/\W (i+1) m' (ys++[y]) (upd H3 D (.lst (ys++[y])))
    else ∃m',m' < m/\W (i+1) m' ys H2):=by
 have fD:∀{H':Hp} {C':CH},Fw H C H' C'->True:=fun _=>trivial
 refine⟨fun i m ys H'=>m=ps.length - i/\i<=ps.length/\∃acc C',H' D=some (.lst ys)/\C' D=none/\Reps K H' ys acc/\HRel K H' C'/\Fw H C H' C'/\kZ t c ρ R (ps.drop i) acc C',
  ⟨ps.length,rfl,Nat.zero_le _,[],C,gQ,h.fresh hD,.nil,h.new hD _,Fw.new hD _,q⟩,?_⟩
 rintro i m ys H1 ⟨rfl,hi,acc,C1,e1,n1,r1,h1,f1,q1⟩;have k1:Imm H H1:=f1.imm h
 by_cases hlt:i < ps.length
 .refine .inr ⟨j.go i H1 hlt (hS H1 C1 h1 f1),fun x H2 y=>?_⟩
  obtain⟨rfl,y⟩:=j.yl i H1 x H2 (hS H1 C1 h1 f1) y;have rx:=y _ (List.getElem?_eq_getElem hlt);rw[List.drop_eq_getElem_cons hlt] at q1;refine⟨some ps[i]::ρ,C1,_,.cons rx (s.imm k1),h1,q1,fun b H3 b' C3 q3 e h3 f3=>?_⟩;cases e;obtain⟨n3,e3⟩:=f3 D (by rw[n1]; rfl) (by rw[e1]; exact fun z=>nomatch z);rw[e1] at e3;rw[n1] at n3;have k3:=f3.imm h1
  cases b with
  |true =>
   rw[if_pos rfl] at q3 ⊢;refine⟨some ps[i]::ρ,C3,_,.cons (rx.imm k3) ((s.imm k1).imm k3),h3,q3,fun v H4 p C4 q4 r4 h4 f4=>?_⟩;obtain⟨n4,e4⟩:=f4 D (by rw[n3]; rfl) (by rw[e3]; exact fun z=>nomatch z);rw[e3] at e4;rw[n3] at n4;have k4:=f4.imm h3;have m4:Imm H4 (upd H4 D (.lst (ys++[v]))):=Imm.mut e4 rfl _;refine⟨e4,by rw[r1.len]; exact q4.1,ps.length - (i+1),by omega,rfl,hlt,acc++[p],C4,gQ,n4,?_,?_,?_,q4.2⟩
   .exact (((r1.imm k3).imm k4).append (.cons r4 .nil)).imm m4
   .intro a o ca
    have ne:a≠D:=fun z=>by subst z; rw[n4] at ca; cases ca
    exact(h4 a o ca).imm m4 (cQ ne)
   .intro a ca na
    have ne:a≠D:=fun z=>na (z▸hD);obtain⟨x1,x2⟩:=(f1.trans (f3.trans f4)) a ca na;exact⟨x1,(cQ ne).trans x2⟩
  |false =>
   rw[if_neg Bool.false_ne_true] at q3 ⊢;exact⟨ps.length - (i+1),by omega,rfl,hlt,acc,C3,e3,n3,r1.imm k3,h3,f1.trans f3,q3⟩
 .have e:i=ps.length:=by omega
  subst e;rw[List.drop_length] at q1;refine .inl ⟨j.st H1 (hS H1 C1 h1 f1),f (.ref D) H1 (.ref D) _ (q1 D n1) (.ref D) ?_ ?_⟩
  .intro a o ca
   by_cases z:a=D
   .subst z; rw[jQ] at ca; cases ca; exact⟨ys,e1,r1⟩
   .rw [wQ z] at ca; exact h1 a o ca
  .intro a ca na
   obtain⟨x1,x2⟩:=f0 a ca na;have na':H a≠none:=by rw[x2]; exact na
   have ne:a≠D:=fun z=>na' (z▸hD);obtain⟨y1,y2⟩:=f1 a (by rw[x1]; exact ca) na';exact⟨(wQ ne).trans (y1.trans x1),y2.trans x2⟩
theorem it_dict {K:PySem.W.Frag}{o:Obj}{d:Addr}{vs:List (Key×V)}{kvs:List (Key×PV)}(e:vs.map (·.1)=kvs.map (·.1)):ItOn K (fun H'=>H' d=some (.frz o (.dK vs))) (Itd o d vs) (kvs.map fun p=>aV p.1) where
 go:=fun i H' l s=>⟨by
  have:(vs.map (·.1)).length=(kvs.map (·.1)).length:=by rw[e]
  rw[List.length_map,List.length_map] at this;rw[List.length_map] at l
  omega,s⟩
 yl:=fun i H' x H'' s y=>⟨y.1,fun t et=>by
  obtain⟨p,hp,rfl⟩:=y.2;have h1:(vs.map (·.1))[i]?=some p.1:=by rw[List.getElem?_map,hp]; rfl
  rw[e,List.getElem?_map] at h1;rw[List.getElem?_map] at et
  cases z:kvs[i]? with
  |none=>rw[z] at et; cases et
  |some q =>
   rw[z] at et h1;cases et;have h1:q.1=p.1:=Option.some.inj h1;show Rep K H' (kV p.1) (aV q.1);rw[h1]
   exact Xx p.1⟩
 st:=fun H' s=>⟨by
  have:(vs.map (·.1)).length=(kvs.map (·.1)).length:=by rw[e]
  rw[List.length_map,List.length_map] at this;rw[List.length_map]
  omega,s⟩
theorem KP.keys {K:PySem.W.Frag}{H:Hp}{vs:List (Key×V)}{kvs:List (Key×PV)}(r:KP K H vs kvs):vs.map (·.1)=kvs.map (·.1):=by
 induction r with
 |nil=>rfl
 |cons h _ ih=>rw[List.map_cons,List.map_cons,h.1,ih]
theorem KU {elt iter:Expr}{x:Str}{px:Pos}{ifs:List Expr}{scope:Scope}{ce:TCE}{t:TCT}{c:TCE}
  (hc:X.calm=true) (hN:(x::X.N).Nodup) (K:∃cl,qU X x scope cl) (hi:CE X iter ce)
  (ht:∀cl fp C s₂ H₂,CF (yJ X x scope cl fp C s₂ H₂) ifs t) (he:∀cl fp C s₂ H₂,CE (yJ X x scope cl fp C s₂ H₂) elt c)
  (hs:∀v,foldedSetIterable iter X.env v=pure v:=by intro _; rfl):CE X (.ListComp elt [⟨.Name x px,iter,ifs,0⟩] scope pos) (vS ce t c) :=
 ⟨JE.weak (je_thaw (jP (te:=iZ X.K (Rep X.K) c) (tc:=iZ X.K eM t) hc hN K (ji_dict hi.h) (fun cl fp C s₂ H₂=>(ht cl fp C s₂ H₂).h) (fun cl fp C s₂ H₂=>(he cl fp C s₂ H₂).h) hs)) fun σ H Q ⟨ρ,C,R,s,h,q,f⟩=>by
  unfold vS at q
  exact⟨ρ,C,_,s,h,q,fun xv H1 px C1 q1 rx h1 f1=>by
   split at q1
   .next d =>
    split at q1
    .next kvs e =>
     obtain⟨vs,ev,r⟩:=h1 d _ e;cases rx;refine⟨d,vs,rfl,ev,fun o nf D hD=>?_⟩;have m:Imm H1 (upd H1 d (.frz o (.dK vs))):=Imm.mut ev rfl _;have h2:HRel X.K (upd H1 d (.frz o (.dK vs))) (yQ C1 d (.fK kvs)):=h1.put ev rfl ⟨o,vs,gQ,Paired.mapP r fun _ _ z=>⟨z.1,z.2.imm m⟩⟩;have f2:Fw H1 C1 (upd H1 d (.frz o (.dK vs))) (yQ C1 d (.fK kvs)):=Fw.put e _ _
     have stays:∀H' C',Fw (upd H1 d (.frz o (.dK vs))) (yQ C1 d (.fK kvs)) H' C'->H' d=some (.frz o (.dK vs)):=fun H' C' g=>by
      have:=(g d (by rw[jQ]; rfl) (by rw[gQ]; exact fun z=>nomatch z)).2;rw[this,gQ]
     refine comp_on (Q:=fun v H'=>∃d o kvs,H' d=some (.frz o (.dK kvs))/\NF X d/\Q v (upd H' d (.dK kvs))) (H0:=upd H1 d (.frz o (.dK vs))) (C0:=yQ C1 d (.fK kvs)) (it_dict r.keys) (fun H' C' _ g=>stays H' C' g) ((s.imm (f1.imm h)).imm m) h2 q1 h2 Fw.refl (fun v H' p C' q' r' h' f'=>?_) hD;obtain⟨e1,q2⟩:=q';have e2:=stays H' C' f';refine⟨d,o,vs,e2,nf,?_⟩;have m':Imm H' (upd H' d (.dK vs)):=Imm.mut e2 rfl _
     obtain⟨o',vs',e3,r3⟩:=h' d _ e1;rw[e2] at e3;cases e3;refine f v _ p _ q2 (r'.imm m') (h'.put e2 rfl ⟨vs,gQ,Paired.mapP r3 fun _ _ z=>⟨z.1,z.2.imm m'⟩⟩) ?_;intro a ca na;obtain⟨x1,x2⟩:=(f1.trans (f2.trans f')) a ca na
     have ne:a≠d:=fun z=>by
      subst z;obtain⟨y1,y2⟩:=f1 a ca na;rw[<- y1,e] at ca;cases ca
     exact⟨(wQ ne).trans x1,(cQ ne).trans x2⟩
    .exact q1.elim
   .exact q1.elim⟩⟩
end
section
variable {X:Cx}{a b c e o i f:Expr}{es:List Expr}{pos:Pos}{value:Expr}
abbrev relO:Hp->Option Int->Option Int->Prop:=fun _ a b=>a=b
abbrev TCO:=CSt->CH->(Option Int->CH->Prop)->Prop
structure CPt (X:Cx)(e:Option Expr)(c:TCO):Prop where
 h:JO X e (iZ X.K relO c)
theorem JO.weak {e:Option Expr}{t t':TO}(h:JO X e t)(w:∀σ H Q,t' σ H Q->t σ H Q):JO X e t':=⟨fun pins s σ H Q I q=>h.h pins s σ H Q I (w σ H Q q)⟩
def cNoPart:TCO:=fun _ C Q=>Q none C
def cPart (ce:TCE):TCO:=fun ρ C Q=>ce ρ C fun t C1=>match t with
 |.int i=>Q (some i) C1
 |_=>False
theorem tY:CPt X none cNoPart:=⟨JO.weak jo_none fun σ H Q ⟨ρ,C,R,s,h,q,f⟩=>f none H none C q rfl h Fw.refl⟩
theorem oY {ce:TCE}(h:CE X e ce):CPt X (some e) (cPart ce):=⟨JO.weak (jo_some h.h) fun σ H Q ⟨ρ,C,R,s,h,q,f⟩=>⟨ρ,C,_,s,h,q,fun x H1 px C1 q1 rx h1 f1=>by
 split at q1
 .cases rx; exact⟨_,rfl,f _ H1 _ C1 q1 rfl h1 f1⟩
 .exact q1.elim⟩⟩
def vV (xs:List PV)(lo hi:Option Int):List PV:=(xs.drop (HT.sIx xs.length 0 lo)).take (HT.sIx xs.length xs.length hi - HT.sIx xs.length 0 lo)
theorem Reps.cut {K:PySem.W.Frag}{H:Hp}{vs:List V}{ts:List PV}(r:Reps K H vs ts)(lo hi:Option Int):Reps K H (xE vs lo hi) (vV ts lo hi):=by
 unfold xE vV;rw[r.len];exact(r.drop _).take _
@[irreducible] def cSlL:PV->Option Int->Option Int->CH->K1->Prop:=fun x lo hi C Q=>match x with
 |.ref a=>match C a with
  |some (.lst xs)=>∀p,C p=none->Q (.ref p) (yQ C p (.lst (vV xs lo hi)))
  |_=>False
 |_=>False
def cSl (cr:PV->Option Int->Option Int->CH->K1->Prop)(ce:TCE)(cl ch:TCO):TCE:=fun ρ C Q=>ce ρ C fun x C1=>cl ρ C1 fun l C2=>ch ρ C2 fun u C3=>cr x l u C3 Q
theorem gF {lo hi:Option Expr}{ce:TCE}{cl ch:TCO}{p2:Pos}(he:CE X e ce)(hl:CPt X lo cl)(hu:CPt X hi ch):CE X (.Subscript e (.Slice lo hi none p2) pos) (cSl cSlL ce cl ch):=⟨JE.weak (fO sl_list he.h hl.h hu.h) fun σ H Q ⟨ρ,C,R,s,h,q,f⟩ =>
 ⟨ρ,C,_,s,h,q,fun x H1 px C1 q1 rx h1 f1=>⟨ρ,C1,_,s.imm (f1.imm h),h1,q1,fun l H2 l' C2 q2 e2 h2 f2=>⟨ρ,C2,_,(s.imm (f1.imm h)).imm (f2.imm h1),h2,q2,fun u H3 u' C3 q3 e3 h3 f3=>by
  cases e2; cases e3
  unfold cSlL at q3
  split at q3
  .split at q3
   .next xs e =>
    obtain⟨vs,ev,r⟩:=h3 _ _ e;have rx3:=rx.imm ((f2.trans f3).imm h1);cases rx3;exact⟨_,vs,rfl,SqL.of ev,fun p hp=>f _ _ _ _ (q3 p (h3.fresh hp)) (.ref p) (h3.lay hp ⟨_,gQ,(r.cut l u).imm (Imm.new hp _)⟩) (f1.trans (f2.trans (f3.trans (Fw.lay hp _ _))))⟩
   .exact q3.elim
  .exact q3.elim⟩⟩⟩⟩
theorem cs_setC {i:Nat}{y x:Str}{py px pos spos:Pos}{elt iter:Expr}{ifs:List Expr}{scope:Scope}{wi:TI}{ci:CSt->CH->(List PV->CH->Prop)->Prop}{t:TCT}{c:TCE}
  (hNd:X.N.Nodup) (hi:X.N[i]?=some y) (hy:Loc X.env.scope y) (hc:X.calm=true) (hN:(x::X.N).Nodup) (K:∃cl,qU X x scope cl) (hI:CI X (.Name x px) iter wi ci)
  (ht:∀cl fp C s₂ H₂,CF (yJ X x scope cl fp C s₂ H₂) ifs t) (he:∀cl fp C s₂ H₂,CE (yJ X x scope cl fp C s₂ H₂) elt c)
  (hs:∀v,foldedSetIterable iter X.env v=pure v:=by intro _; rfl)
  (hsw:swapsWith (.ListComp elt [⟨.Name x px,iter,ifs,0⟩] scope pos) (some (.Name y py)) spos.line X.env=pure true:=by rfl)
  (hf:X.fn y=true\/X.env.scope.names.lookup y=some .local:=by first | exact .inl rfl | exact .inr rfl | assumption) :
  CS X (.Assign [.Name y py] (.ListComp elt [⟨.Name x px,iter,ifs,0⟩] scope pos) spos) (K3 i (K8 ci t c)):=by
 obtain⟨cl,K⟩:=K;refine⟨JS.weak (js_setC (te:=iZ X.K (Rep X.K) c) (tc:=iZ X.K eM t) hNd hi hy hc hN K hI.j (fun fp C s₂ H₂=>(ht cl fp C s₂ H₂).h) (fun fp C s₂ H₂=>(he cl fp C s₂ H₂).h) hs hsw hf) fun D σ H ⟨ρ,C,E,s,h,q,f⟩=>?_⟩;exact fN (Q:=fun x H'=>D.nx (σ.set i (some x)) H') hI ⟨ρ,C,_,s,h,q,fun x H1 px C1 q1 rx h1 f1=>f.nx _ H1 _ C1 q1 ((s.imm (f1.imm h)).set rx i) h1 f1⟩
theorem Jz (k:Nat)(σ:St):NoAt k (σ.set k none):=fun v e=>by
 rw[List.getElem?_set_self'] at e
 cases hk:σ[k]? with
 |none=>rw[hk] at e; cases e
 |some x=>rw[hk] at e; cases e
theorem SRel.unset {K:PySem.W.Frag}{H:Hp}{σ:St}{ρ:CSt}(s:SRel K H σ ρ)(k:Nat):SRel K H (σ.set k none) (ρ.set k none):=by
 induction s generalizing k with
 |nil=>exact .nil
 |cons h' r ih =>
  cases k with
  |zero=>exact .cons trivial r
  |succ k=>exact .cons h' (ih k)
def cRetAt (k:Nat)(ce:TCE):TCS:=fun E ρ C=>ce (ρ.set k none) C E.rt
theorem KB (k:Nat){ce:TCE}(he:CE (X.at_ k) e ce):CS X (.Return (some e) pos) (cRetAt k ce):=⟨JS.weak (js_fg k (J1 (je_drop k he.h))) fun D σ H ⟨ρ,C,E,s,h,q,f⟩ =>
 ⟨Jz k σ,ρ.set k none,C,_,s.unset k,h,q,fun x H1 px C1 q1 rx h1 f1=>f.rt x H1 px C1 q1 rx h1 f1⟩⟩
def oG (S:CH->Prop)(t:TCT)(c:TCE)(ρ:CSt)(Q:K1):List PV->List PV->CH->Prop
 |[],acc,C=>S C/\∀p,C p=none->Q (.ref p) (yQ C p (.lst acc))
 |x::r,acc,C=>S C/\t (some x::ρ) C fun b C1=>if b=true then c (some x::ρ) C1 fun y C2=>acc.length < sizeLine/\oG S t c ρ Q r (acc++[y]) C2 else oG S t c ρ Q r acc C1
structure ItS (K:PySem.W.Frag)(S:CH->Prop)(J:It)(ps:List PV):Prop where
 go:∀i H' C',i < ps.length->HRel K H' C'->S C'->J.go i H'
 yl:∀i H' C' x H'',HRel K H' C'->S C'->J.yld i H' x H''->H''=H'/\∀t,ps[i]?=some t->Rep K H' x t
 st:∀H' C',HRel K H' C'->S C'->J.stop ps.length H'
theorem comp_S {K:PySem.W.Frag}{H H0:Hp}{C C0:CH}{σ:St}{ρ:CSt}{J:It}{ps:List PV}{t:TCT}{c:TCE}{R:K1}{Q:VK}{S:CH->Prop}(j:ItS K S J ps)(s:SRel K H σ ρ)(h:HRel K H C)(q:oG S t c ρ R ps [] C)
  (h0:HRel K H0 C0) (f0:Fw H0 C0 H C) (f:∀v H' p C',R p C'->Rep K H' v p->HRel K H' C'->Fw H0 C0 H' C'->Q v H') {D:Addr} (hD:H D=none) :
  ∃W:Nat->Nat->List V->Hp->Prop,(∃m,W 0 m [] (upd H D (.lst [])))/\∀i m ys H,W i m ys H ->
   (J.stop i H/\Q (.ref D) H)\/(J.go i H/\∀x H',J.yld i H x H'->iZ K eM t (some x::σ) H' fun b H2 =>
    if b=true then iZ K (Rep K) c (some x::σ) H2 fun y H3=>H3 D=some (.lst ys)/\ys.length < sizeLine/\∃m',m' < m/\W (i+1) m' (ys++[y]) (upd H3 D (.lst (ys++[y])))
    else ∃m',m' < m/\W (i+1) m' ys H2):=by
 have fD:∀{H':Hp} {C':CH},Fw H C H' C'->True:=fun _=>trivial
 refine⟨fun i m ys H'=>m=ps.length - i/\i<=ps.length/\∃acc C',H' D=some (.lst ys)/\C' D=none/\Reps K H' ys acc/\HRel K H' C'/\Fw H C H' C'/\oG S t c ρ R (ps.drop i) acc C',
  ⟨ps.length,rfl,Nat.zero_le _,[],C,gQ,h.fresh hD,.nil,h.new hD _,Fw.new hD _,q⟩,?_⟩
 rintro i m ys H1 ⟨rfl,hi,acc,C1,e1,n1,r1,h1,f1,q1⟩;have k1:Imm H H1:=f1.imm h
 have q0:S C1:=by
  cases z:ps.drop i with
  |nil=>rw[z] at q1; exact q1.1
  |cons x r=>rw[z] at q1; exact q1.1
 by_cases hlt:i < ps.length
 .refine .inr ⟨j.go i H1 C1 hlt h1 q0,fun x H2 y=>?_⟩
  obtain⟨rfl,y⟩:=j.yl i H1 C1 x H2 h1 q0 y;have rx:=y _ (List.getElem?_eq_getElem hlt);rw[List.drop_eq_getElem_cons hlt] at q1
  replace q1:=q1.2
  refine⟨some ps[i]::ρ,C1,_,.cons rx (s.imm k1),h1,q1,fun b H3 b' C3 q3 e h3 f3=>?_⟩;cases e;obtain⟨n3,e3⟩:=f3 D (by rw[n1]; rfl) (by rw[e1]; exact fun z=>nomatch z);rw[e1] at e3;rw[n1] at n3;have k3:=f3.imm h1
  cases b with
  |true =>
   rw[if_pos rfl] at q3 ⊢;refine⟨some ps[i]::ρ,C3,_,.cons (rx.imm k3) ((s.imm k1).imm k3),h3,q3,fun v H4 p C4 q4 r4 h4 f4=>?_⟩;obtain⟨n4,e4⟩:=f4 D (by rw[n3]; rfl) (by rw[e3]; exact fun z=>nomatch z);rw[e3] at e4;rw[n3] at n4;have k4:=f4.imm h3;have m4:Imm H4 (upd H4 D (.lst (ys++[v]))):=Imm.mut e4 rfl _;refine⟨e4,by rw[r1.len]; exact q4.1,ps.length - (i+1),by omega,rfl,hlt,acc++[p],C4,gQ,n4,?_,?_,?_,q4.2⟩
   .exact (((r1.imm k3).imm k4).append (.cons r4 .nil)).imm m4
   .intro a o ca
    have ne:a≠D:=fun z=>by subst z; rw[n4] at ca; cases ca
    exact(h4 a o ca).imm m4 (cQ ne)
   .intro a ca na
    have ne:a≠D:=fun z=>na (z▸hD);obtain⟨x1,x2⟩:=(f1.trans (f3.trans f4)) a ca na;exact⟨x1,(cQ ne).trans x2⟩
  |false =>
   rw[if_neg Bool.false_ne_true] at q3 ⊢;exact⟨ps.length - (i+1),by omega,rfl,hlt,acc,C3,e3,n3,r1.imm k3,h3,f1.trans f3,q3⟩
 .have e:i=ps.length:=by omega
  subst e;rw[List.drop_length] at q1
  replace q1:=q1.2
  refine .inl ⟨j.st H1 C1 h1 q0,f (.ref D) H1 (.ref D) _ (q1 D n1) (.ref D) ?_ ?_⟩
  .intro a o ca
   by_cases z:a=D
   .subst z; rw[jQ] at ca; cases ca; exact⟨ys,e1,r1⟩
   .rw [wQ z] at ca; exact h1 a o ca
  .intro a ca na
   obtain⟨x1,x2⟩:=f0 a ca na;have na':H a≠none:=by rw[x2]; exact na
   have ne:a≠D:=fun z=>na' (z▸hD);obtain⟨y1,y2⟩:=f1 a (by rw[x1]; exact ca) na';exact⟨(wQ ne).trans (y1.trans x1),y2.trans x2⟩
theorem it_lst {K:PySem.W.Frag}{a:Addr}{xs:List PV}:ItS K (fun C=>C a=some (.lst xs)) (Itl K a) xs where
 go:=fun i H' C' l h s=>by
  obtain⟨vs,e,r⟩:=h a _ s;obtain⟨v,ev,_⟩:=r.get (List.getElem?_eq_getElem l);exact⟨vs,v,SqL.of e,ev⟩
 yl:=fun i H' C' x H'' h s y=>⟨y.1,fun t et=>by
  obtain⟨vs,e,r⟩:=h a _ s;obtain⟨v,ev,rv⟩:=r.get et;have:=y.2 vs (SqL.of e)
  rw[ev] at this; cases this; exact rv⟩
 st:=fun H' C' h s=>by
  obtain⟨vs,e,r⟩:=h a _ s;exact⟨vs,SqL.of e,by rw[r.len]; exact Nat.le_refl _⟩
@[irreducible] def fF (ce:TCE)(t:TCT)(c:TCE):TCE:=fun ρ C Q=>ce ρ C fun x C1=>match x with
 |.ref a=>match C1 a with
  |some (.lst xs)=>oG (fun C=>C a=some (.lst xs)) t c ρ Q xs [] C1
  |_=>False
 |_=>False
theorem nG {elt iter:Expr}{x:Str}{px:Pos}{ifs:List Expr}{scope:Scope}{ce:TCE}{t:TCT}{c:TCE}
  (hc:X.calm=true) (hN:(x::X.N).Nodup) (K:∃cl,qU X x scope cl) (hi:CE X iter ce)
  (ht:∀cl fp C s₂ H₂,CF (yJ X x scope cl fp C s₂ H₂) ifs t) (he:∀cl fp C s₂ H₂,CE (yJ X x scope cl fp C s₂ H₂) elt c)
  (hs:∀v,foldedSetIterable iter X.env v=pure v:=by intro _; rfl):CE X (.ListComp elt [⟨.Name x px,iter,ifs,0⟩] scope pos) (fF ce t c) :=
 ⟨JE.weak (jP (te:=iZ X.K (Rep X.K) c) (tc:=iZ X.K eM t) hc hN K (QL hi.h) (fun cl fp C s₂ H₂=>(ht cl fp C s₂ H₂).h) (fun cl fp C s₂ H₂=>(he cl fp C s₂ H₂).h) hs) fun σ H Q ⟨ρ,C,R,s,h,q,f⟩=>by
  unfold fF at q
  exact⟨ρ,C,_,s,h,q,fun xv H1 px C1 q1 rx h1 f1=>by
   split at q1
   .next a =>
    split at q1
    .next xs e =>
     obtain⟨vs,ev,r⟩:=h1 a _ e;cases rx;exact⟨a,rfl,⟨vs,SqL.of ev⟩,fun D hD=>comp_S (Q:=Q) it_lst (s.imm (f1.imm h)) h1 q1 h f1 f hD⟩
    .exact q1.elim
   .exact q1.elim⟩⟩
end
section
variable {C:CH}{a p:Addr}{xs ys:List PV}{i:Int}{v:PV}{Q:K1}
theorem dX (h:C a=some (.lst xs))(e:atI xs i=some v)(q:Q v C):cIx (.ref a) (.int i) C Q:=by
 unfold cIx;show(match C a with | some (.lst xs)=>cAt xs i C Q | _=>False);rw[h];show cAt xs i C Q;unfold cAt;rw[e];exact q
theorem ix_f (e:atI xs i=some v)(q:Q v C):cIx (.fz xs) (.int i) C Q:=by
 unfold cIx;show cAt xs i C Q;unfold cAt;rw[e];exact q
theorem rX (e:atI xs i=some v)(q:Q v C):cIx (.tup xs) (.int i) C Q:=by
 unfold cIx;show cAt xs i C Q;unfold cAt;rw[e];exact q
theorem setL {k:Int}{j:Nat}{Q:CH->Prop}(h:C p=some (.lst xs))(e:ixN xs.length k=some j)(q:Q (yQ C p (.lst (xs.set j v)))):Xf (.ref p) (.int k) v C Q:=by
 unfold Xf;dsimp only;rw[h];dsimp only;rw[e];exact q
theorem iW (h:C a=some (.lst xs))(q:Q (.int xs.length) C):oH [.ref a] C Q:=by
 unfold oH;show(match C a with | some (.lst xs)=>Q (.int xs.length) C | some (.dK kvs)=>Q (.int kvs.length) C | _=>False);rw[h];exact q
theorem JP (q:Q (.int xs.length) C):oH [.fz xs] C Q:=by
 unfold oH;exact q
theorem pN (q:Q (.int xs.length) C):oH [.tup xs] C Q:=by
 unfold oH;exact q
theorem vH (h:C a=some (.lst xs))(z:xs.length < sizeLine)(q:Q .non (yQ C a (.lst (xs++[v])))):qG (.ref a) [v] C Q:=by
 unfold qG;show(match C a with | some (.lst xs)=>xs.length < sizeLine/\Q .non (yQ C a (.lst (xs++[v]))) | _=>False);rw[h];exact⟨z,q⟩
theorem zG (h:C a=some (.lst xs)):isL (.ref a) C:=by
 show(match C a with | some (.lst _)=>True | _=>False);rw[h]
 trivial
end
theorem i_i {g:Int->Int->PV}{i j:Int}{C:CH}{Q:K1}(q:Q (g i j) C):cI g (.int i) (.int j) C Q:=by
 unfold cI;exact q
theorem mW {i j:Int}{C:CH}{Q:K1}(q:Q (.int (i+j)) C):yS (.int i) (.int j) C Q:=by
 unfold yS;exact q
theorem uC {xs ys:List PV}{C:CH}{Q:K1}(h:xs.length+ys.length<=sizeLine)(q:Q (.tup (xs++ys)) C):yS (.tup xs) (.tup ys) C Q:=by
 unfold yS;exact⟨h,q⟩
theorem Ke {b:Bool}{p q:Prop}(h1:b=true->p)(h2:b=false->q):if b=true then p else q:=by
 cases b with
 |true=>exact h1 rfl
 |false=>exact h2 rfl
theorem if_y {b:Bool}{p q:Prop}(e:b=true)(h:p):if b=true then p else q:=by rw[if_pos e]; exact h
theorem vM {b:Bool}{p q:Prop}(e:b=false)(h:q):if b=true then p else q:=by rw[if_neg (by rw[e]; exact Bool.false_ne_true)]; exact h
theorem pK {b:Bool}{p q:CH->Prop}{C:CH}(e:b=true)(h:p C):sT (fun b C1=>if b=true then p C1 else q C1) (.bl b) C:=by cases e; exact h
theorem qZ {b:Bool}{p q:CH->Prop}{C:CH}(e:b=false)(h:q C):sT (fun b C1=>if b=true then p C1 else q C1) (.bl b) C:=by cases e; exact h
theorem mZ {b:Bool}{p q:CH->Prop}{C:CH}(h1:b=true->p C)(h2:b=false->q C):sT (fun b C1=>if b=true then p C1 else q C1) (.bl b) C:=by
 cases b with
 |true=>exact h1 rfl
 |false=>exact h2 rfl
theorem onot {p q:CH->Prop}{C:CH}(h:q C):sT (fun b C1=>if (!b)=true then p C1 else q C1) (.bl true) C:=by
 show if (!true)=true then p C else q C
 rw[if_neg (by decide)];exact h
theorem xX {k:Bool->Bool}{x y:PV}{C:CH}{Q:K1}{b:Bool}(e:sEq x y=some b)(q:Q (.bl (k b)) C):cEq k x y C Q:=by
 unfold cEq;rw[e];exact q
theorem lQ (x y:Str):sEq (.str x) (.str y)=some (decide (x=y)):=rfl
theorem aX (x y:Int):sEq (.int x) (.int y)=some (decide (x=y)):=rfl
theorem yX {t:TCT}{c:TCE}{ρ:CSt}{Q:K1}{x:PV}{r acc:List PV}{C:CH}(h:t (some x::ρ) C fun b C1=>if b=true then c (some x::ρ) C1 fun y C2=>acc.length < sizeLine/\kZ t c ρ Q r (acc++[y]) C2 else kZ t c ρ Q r acc C1):kZ t c ρ Q (x::r) acc C:=h
theorem jW {t:TCT}{c:TCE}{ρ:CSt}{Q:K1}{acc:List PV}{C:CH}(h:∀p,C p=none->Q (.ref p) (yQ C p (.lst acc))):kZ t c ρ Q [] acc C:=h
theorem cO {n:String}{T k:Ty}{x:PV}{C:CH}{Q:K1}(e1:rB n=some T)(e2:tyP C x=some k)(q:Q (.bl (qW k T)) C):cIsi [x,.ty n] C Q:=by
 unfold cIsi;show(match rB n,tyP C x with | some T,some k=>Q (.bl (qW k T)) C | _,_=>False);rw[e1,e2];exact q
theorem yD {a b:Addr}{xs ys:List PV}{C:CH}{Q:K1}(h1:C a=some (.lst xs))(h2:C b=some (.lst ys))(z:xs.length+ys.length<=sizeLine)(q:∀p,C p=none->Q (.ref p) (yQ C p (.lst (xs++ys)))):yS (.ref a) (.ref b) C Q:=by
 unfold yS;show(match C a,C b with | some (.lst xs),some (.lst ys)=>xs.length+ys.length<=sizeLine/\∀p,C p=none->Q (.ref p) (yQ C p (.lst (xs++ys))) | _,_=>False);rw[h1,h2];exact⟨z,q⟩
theorem cJ {xs:List PV}{p:Addr}{C:CH}{Q:K1}(m:C p=some (.lst xs))(q:Q (.tup xs) C):bF [.ref p] C Q:=by
 unfold bF;show(match C p with | some (.lst xs)=>Q (.tup xs) C | _=>False);rw[m];exact q
def Gr (C C':CH):Prop:=∀b o,C b=some o->C' b=some o
theorem Gr.refl {C:CH}:Gr C C:=fun _ _ h=>h
theorem Gr.trans {C C1 C2:CH}(h:Gr C C1)(h':Gr C1 C2):Gr C C2:=fun b o e=>h' b o (h b o e)
theorem Gr.new {C:CH}{p:Addr}(hp:C p=none)(o:CO):Gr C (yQ C p o):=fun b u e=>by
 rw[wQ (fun z=>by subst z; rw[hp] at e; cases e)]; exact e
theorem vX {E:mY}{ρ:CSt}{C:CH}(h:E.nx ρ C):cNext E ρ C:=h
theorem uQ {i:Nat}{ce:TCE}{u:TCS}{E:mY}{ρ:CSt}{C:CH}(h:ce ρ C fun v C1=>u E (ρ.set i (some v)) C1):pE (K3 i ce) u E ρ C:=h
theorem vZ {t u:TCS}{E:mY}{ρ:CSt}{C:CH}(h:t { E with nx:=u E } ρ C):pE t u E ρ C:=h
theorem c_i {v:PV}{ρ:CSt}{C:CH}{Q:K1}(h:Q v C):cC v ρ C Q:=h
theorem aQ {t u:TCS}{E:mY}{ρ:CSt}{C:CH}(P:CSt->CH->Prop)(h1:∀K:CSt->CH->Prop,(∀ρ' C',P ρ' C'->K ρ' C')->t { E with nx:=K } ρ C)(h2:∀ρ' C',P ρ' C'->u E ρ' C'):pE t u E ρ C:=h1 _ h2
section
variable {X:Cx}{o e value i f:Expr}{es:List Expr}{pos pos':Pos}
def gT (f:Str)(v:PV):List (Str×PV)->List (Str×PV)
 |[]=>[(f,v)]
 | (g,x)::r=>if g=f then (g,v)::r else (g,x)::gT f v r
theorem FP.put {K:PySem.W.Frag}{H:Hp}{f:Str}{v:V}{t:PV}(h:Rep K H v t):∀{gs:List (Str×V)}{fs:List (Str×PV)},FP K H gs fs->FP K H (fY f v gs) (gT f t fs):=by
 intro gs fs r
 induction r with
 |nil=>exact .cons ⟨rfl,h⟩ .nil
 |@cons p q l1 l2 h' r ih =>
  obtain⟨g,x⟩:=p;obtain⟨g',y⟩:=q;obtain⟨rfl,h2⟩:=h';unfold fY gT
  by_cases e:g=f
  .rw [if_pos e,if_pos e]; exact .cons ⟨rfl,h⟩ r
  .rw [if_neg e,if_neg e]; exact .cons ⟨rfl,h2⟩ ih
theorem FP.look {K:PySem.W.Frag}{H:Hp}{f:Str}:∀{gs:List (Str×V)}{fs:List (Str×PV)},FP K H gs fs->(∃v t,gs.lookup f=some v/\fs.lookup f=some t/\Rep K H v t)\/(gs.lookup f=none/\fs.lookup f=none):=by
 intro gs fs r
 induction r with
 |nil=>exact .inr ⟨rfl,rfl⟩
 |@cons p q l1 l2 h' r ih =>
  obtain⟨g,x⟩:=p;obtain⟨g',y⟩:=q;obtain⟨rfl,h2⟩:=h';unfold List.lookup
  cases e:(f==g) with
  |true=>exact .inl ⟨x,y,rfl,rfl,h2⟩
  |false=>exact ih
@[irreducible] def Qg (c:Addr)(f:Str):PV->CH->K1->Prop:=fun x C Q=>match x with
 |.ref p=>match C p with
  |some (.ins c' _ fs)=>c'=c/\match fs.lookup f with
   |some v=>Q v C
   |none=>False
  |_=>False
 |_=>False
theorem yB {f:Str}{c:Addr}{co:TCE}(hc:Cls X.K c)(hn:NoAttr X.K c f)(ho:CE X o co)(hb:attributeBase o f X.env (eval o X.env)=eval o X.env:=by rfl):CE X (.Attribute o f pos) (fun ρ C Q=>co ρ C fun x C1=>Qg c f x C1 Q) :=
 ⟨JE.weak ⟨pe_fld ho.h.h hb⟩ fun σ H Q ⟨ρ,C,R,s,h,q,f'⟩=>⟨ρ,C,_,s,h,q,fun x H1 px C1 q1 rx h1 f1=>by
  unfold Qg at q1
  split at q1
  .next p =>
   split at q1
   .next c' dx fs e1 =>
    obtain⟨rfl,q1⟩:=q1
    split at q1
    .next t e2 =>
     obtain⟨gs,eg,r⟩:=h1 p _ e1;cases rx
     rcases FP.look r with ⟨v,t',l1,l2,rv⟩ | ⟨l1,l2⟩
     .rw [e2] at l2
      cases l2;exact⟨p,c',dx,gs,v,rfl,eg,hc,hn,l1,f' v H1 t C1 q1 rv h1 f1⟩
     .rw [e2] at l2; cases l2
    .exact q1.elim
   .exact q1.elim
  .exact q1.elim⟩⟩
@[irreducible] def Xi (c:Addr)(f:Str):PV->PV->CH->(CH->Prop)->Prop:=fun x v C Q=>match x with
 |.ref p=>match C p with
  |some (.ins c' dx fs)=>c'=c/\fs.length < 1000/\Q (yQ C p (.ins c' dx (gT f v fs)))
  |_=>False
 |_=>False
theorem eI {f:Str}{c:Addr}{co cv:TCE}(hc:Cls X.K c)(hn:NoAttr X.K c f)(ho:CE X o co)(hv:CE X value cv)(hs:swapsWith value (some (.Attribute o f pos')) pos.line X.env=pure false:=by rfl):
  CS X (.Assign [.Attribute o f pos'] value pos) (fun E ρ C=>cv ρ C fun v C1=>co ρ C1 fun x C2=>Xi c f x v C2 fun C3=>E.nx ρ C3):=⟨JS.weak ⟨ps_fld ho.h.h hv.h.h hs⟩ fun D σ H ⟨ρ,C,E,s,h,q,f'⟩ =>
 ⟨ρ,C,_,s,h,q,fun v H1 pv C1 q1 rv h1 f1=>⟨ρ,C1,_,s.imm (f1.imm h),h1,q1,fun x H2 px C2 q2 rx h2 f2=>by
  have s2:=(s.imm (f1.imm h)).imm (f2.imm h1);have rv2:=rv.imm (f2.imm h1);unfold Xi at q2
  split at q2
  .next p =>
   split at q2
   .next c' dx fs e1 =>
    obtain⟨rfl,ql,q2⟩:=q2;obtain⟨gs,eg,r⟩:=h2 p _ e1;cases rx;have m:Imm H2 (upd H2 p (.ins c' dx (fY f v gs))):=Imm.mut eg rfl _;exact⟨p,c',dx,gs,rfl,eg,hc,hn,by rw[Paired.length r]; exact ql,f'.nx σ _ ρ _ q2 (s2.imm m) (h2.put eg rfl ⟨_,gQ,Paired.mapP (FP.put rv2 r) fun _ _ z=>⟨z.1,z.2.imm m⟩⟩) (f1.trans (f2.trans (Fw.put e1 _ _)))⟩
   .exact q2.elim
  .exact q2.elim⟩⟩⟩
def sN (c:Addr)(m:Str)(x:PV)(C:CH):Prop:=match x with
 |.ref p=>match C p with
  |some (.ins c' _ fs)=>c'=c/\fs.lookup m=none
  |_=>False
 |_=>False
theorem nO {c:Addr}{m:Str}{K:PySem.W.Frag}{H:Hp}{C:CH}{x:V}{t:PV}(d:sN c m t C)(r:Rep K H x t)(h:HRel K H C):∃a dx gs,x=.ref a/\t=.ref a/\H a=some (.ins c dx gs)/\gs.lookup m=none:=by
 unfold sN at d
 split at d
 .split at d
  .next e =>
   obtain⟨rfl,d⟩:=d;obtain⟨gs,eg,rf⟩:=h _ _ e;cases r;refine⟨_,_,gs,rfl,rfl,eg,?_⟩
   rcases FP.look (f:=m) rf with ⟨v,t',l1,l2,_⟩ | ⟨l1,l2⟩
   .rw [l2] at d; cases d
   .exact l1
  .exact d.elim
 .exact d.elim
def cMeth (c:Addr)(m:Str)(G:GC)(co:TCE)(ca:TCA):TCE:=fun ρ C Q=>co ρ C fun x C1=>sN c m x C1/\ca ρ C1 fun xs C2=>G (x::xs) C2 Q
theorem ce_meth {CX:CXT}{k:Nat}{c fa:Addr}{fd:FuncData}{ps:List Str}{G:GC}{E:XK}{m:Str}{apos:Pos}{co:TCE}{ca:TCA}{pl:Sem Bool}(hc:Cls X.K c)(hm:Vg X.K c m fa)(F:FnOk X.prog X.w X.K X.mg X.base CX k fa fd ps (spC X.K G))(hr:Room k X.A)(hb:Binds X.K fd ps [])(hx:lK CX X E)(ho:CE X o co)(ha:CA X (e::es) ca)
  (hst:starEach (e::es) X.env=(false,eval e X.env)::starEach es X.env:=by rfl) (hpl:(backTo pos (starEach es X.env)).any (·.1)=false:=by rfl)
  (ht:eval (.Call (.Attribute o m apos) (e::es) [] pos) X.env=(do
   let ov <- eval o X.env
   standAt apos.atName
   let (f,first) <- holding [ov] (getMethod ov m pl)
   callWith pos f first (backTo pos (starEach (e::es) X.env)) (backToKw pos (keywordEach [] X.env))):=by rfl) :
  CE X (.Call (.Attribute o m apos) (e::es) [] pos) (cMeth c m G co ca) :=
 ⟨JE.weak ⟨pe_meth (dvs:=[]) (E:=E) ho.h.h hc hm F hr hb .nil hx ha.h.h hst hpl ht⟩ fun σ H Q ⟨ρ,C,R,s,h,q,f⟩=>⟨ρ,C,_,s,h,q,fun x H1 px C1 q1 rx h1 f1=>by
  obtain⟨a,dx,gs,rfl,rfl,eg,lk⟩:=nO q1.1 rx h1;refine⟨a,dx,gs,rfl,eg,lk,ρ,C1,_,s.imm (f1.imm h),h1,q1.2,fun xs H2 ts C2 q2 rs h2 f2=>?_⟩
  exact⟨.ref a::ts,C2,R,.cons (.ref a) (by rw[List.append_nil]; exact rs),h2,q2,fun v H' t C' q' r' h' f'=>f v H' t C' q' r' h' (f1.trans (f2.trans f'))⟩⟩⟩
def cMake (c:Addr)(G:GC)(ca:TCA):TCE:=fun ρ C Q=>ca ρ C fun xs C1=>∀x dx,C1 x=none->C1 dx=none->dx≠x->G (.ref x::xs) (yQ C1 x (.ins c dx [])) fun v C2=>v=.non/\Q (.ref x) C2
theorem Xb {CX:CXT}{k:Nat}{c fa:Addr}{fd:FuncData}{ps:List Str}{G:GC}{E:XK}{x:Str}{p:Pos}{ca:TCA}(M:Mk X.K c fa)(F:FnOk X.prog X.w X.K X.mg X.base CX k fa fd ps (spC X.K G))(hr:Room (k+1) X.A)(hg:Gl X x)(hm:X.mg x=some (.ref c))(hb:Binds X.K fd ps [])(hx:lK CX X E)(ha:CA X (e::es) ca)
  (hdb:(x==("__debug__" : Str))=false:=by decide) (hst:starEach (e::es) X.env=(false,eval e X.env)::starEach es X.env:=by rfl) (hpl:(backTo pos (starEach es X.env)).any (·.1)=false:=by rfl):CE X (.Call (.Name x p) (e::es) [] pos) (cMake c G ca) :=
 ⟨JE.weak ⟨pe_make (dvs:=[]) (E:=E) M F hr hg hm hb .nil hx ha.h.h hdb hst hpl⟩ fun σ H Q ⟨ρ,C,R,s,h,q,f⟩=>⟨ρ,C,_,s,h,q,fun xs H1 ts C1 q1 rs h1 f1=>fun y dx hy hd nd=>by
  have h2:=h1.new hd (.own y);have hy':upd H1 dx (.own y) y=none:=by rw[cQ (Ne.symm nd)]; exact hy
  have k1:Imm H1 (upd H1 dx (.own y)):=Imm.new hd _;have k2:Imm (upd H1 dx (.own y)) (upd (upd H1 dx (.own y)) y (.ins c dx [])):=Imm.new hy' _;refine⟨.ref y::ts,yQ C1 y (.ins c dx []),_,.cons (.ref y) (by rw[List.append_nil]; exact(rs.imm k1).imm k2),h2.lay hy' ⟨[],gQ,.nil⟩,q1 y dx (h1.fresh hy) (h1.fresh hd) nd,fun v H' t C' q' r' h' f'=>?_⟩;obtain⟨rfl,q'⟩:=q';cases r'
  exact⟨rfl,f _ H' _ C' q' (.ref y) h' (f1.trans (((Fw.new hd _).trans (Fw.lay hy' _ _)).trans f'))⟩⟩⟩
end
end CL
namespace L2
open PySem PySem.Spec PyProof.Rows PySem.W
section
variable {X:Cx}
theorem Qd:CallR X (.type "dict") (fun xs H Q=>∃a kvs,xs=[.ref a]/\H a=some (.dK kvs)/\∀p,H p=none->Q (.ref p) (upd H p (.dK kvs))):=by
 intro pins s σ H xs us Q I r h;obtain⟨a,kvs,rfl,ha,q⟩:=h;obtain⟨u,rfl,ru⟩:=r.one;cases (show u=Value.ref a from ru);obtain⟨z,hd,vs,rel,dd⟩:=pP I.hok ha;refine kt_call_dict hd dd (by rw[<- rel.length]; exact z) fun h' hm hs=>?_;refine⟨.ref s.heap.objs.size,_,I.laid (t':=s.toks) (o:=.dK kvs) (fun b o e=>hs.extBut b o (Nat.ne_of_lt (Heap.lt_size e)) (Heap.get?_push_of_some _ e)) (Nat.le_refl _) ?_,rfl,q _ (I.hok.fresh (Nat.le_refl _))⟩
 exact⟨z,beq_false_of_ne (Nat.ne_of_gt I.big),vs,rel,hm⟩
end
end L2
namespace CL
open PySem PySem.Spec L2 PySem.W
open PyProof.Rows hiding St
def zB:List PV->Option (List Key)
 |[]=>some []
 |t::r=>match jK t,zB r with
  |some k,some ks=>some (k::ks)
  |_,_=>none
def sB:PV->Option (List Key)
 |.tup ts=>zB ts
 |_=>none
theorem xI {K:PySem.W.Frag}{H:Hp}{vs:List V}{ts:List PV}{ks:List Key}(r:Reps K H vs ts)(e:zB ts=some ks):vs=ks.map kV:=by
 induction ts generalizing vs ks with
 |nil=>cases r; cases e; rfl
 |cons t ts ih =>
  cases r with
  |cons h r =>
   unfold zB at e
   split at e
   .next k ks' e1 e2=>cases e; rw[zY h e1,ih r e2]; rfl
   .cases e
theorem nB {K:PySem.W.Frag}{H:Hp}{v:V}{t:PV}{ks:List Key}(r:Rep K H v t)(e:sB t=some ks):∃b,v=.ref b/\H b=some (.tup (ks.map kV)):=by
 cases r<;>try (cases e)
 next a vs ts h r=>exact⟨a,rfl,by rw[h,xI r e]⟩
section
variable {κ:Type}[DecidableEq κ]
def iK (kvs:List (κ×PV))(k:κ):Option PV:=(kvs.find? fun kv=>decide (kv.1=k)).map (·.2)
def putG (kvs:List (κ×PV))(k:κ)(v:PV):List (κ×PV):=if (kvs.any fun kv=>decide (kv.1=k))=true then kvs.map fun kv=>if kv.1=k then (kv.1,v) else kv else kvs++[(k,v)]
def mergeG (kvs more:List (κ×PV)):List (κ×PV):=more.foldl (fun acc kv=>putG acc kv.1 kv.2) kvs
theorem FP.val {K:PySem.W.Frag}{H:Hp}{vs:List (κ×V)}{kvs:List (κ×PV)}(r:FP K H vs kvs)(k:κ):(∃v t,oW vs k=some v/\iK kvs k=some t/\Rep K H v t)\/(oW vs k=none/\iK kvs k=none):=by
 induction r with
 |nil=>exact .inr ⟨rfl,rfl⟩
 |@cons p q l1 l2 h r ih =>
  unfold oW iK;rw[List.find?_cons,List.find?_cons,h.1]
  by_cases e:q.1=k
  .rw [decide_eq_true e]
   exact .inl ⟨p.2,q.2,rfl,rfl,h.2⟩
  .rw [decide_eq_false e]
   exact ih
theorem FP.anyG {K:PySem.W.Frag}{H:Hp}{vs:List (κ×V)}{kvs:List (κ×PV)}(r:FP K H vs kvs)(k:κ):(vs.any fun kv=>decide (kv.1=k))=(kvs.any fun kv=>decide (kv.1=k)):=by
 induction r with
 |nil=>rfl
 |@cons p q l1 l2 h r ih=>rw[List.any_cons,List.any_cons,h.1,ih]
theorem FP.putG {K:PySem.W.Frag}{H:Hp}{vs:List (κ×V)}{kvs:List (κ×PV)}(r:FP K H vs kvs)(k:κ){v:V}{t:PV}(h:Rep K H v t):FP K H (bK vs k v) (CL.putG kvs k t):=by
 unfold bK CL.putG;rw[FP.anyG r k]
 have upd:FP K H (vs.map fun kv=>if kv.1=k then (kv.1,v) else kv) (kvs.map fun kv=>if kv.1=k then (kv.1,t) else kv):=by
  induction r with
  |nil=>exact .nil
  |@cons p q l1 l2 h' r ih =>
   refine .cons ?_ ih;dsimp only
   by_cases e:q.1=k
   .rw [if_pos (h'.1.trans e),if_pos e]; exact⟨h'.1,h⟩
   .rw [if_neg (fun z=>e (h'.1.symm.trans z)),if_neg e]; exact h'
 split
 .exact upd
 .exact Paired.snoc r ⟨rfl,h⟩
end
section
variable {X:Cx}{a b c e o i f value:Expr}{es:List Expr}{pos pos':Pos}
def cTNew:TCE:=fun _ C Q=>∀p,C p=none->Q (.ref p) (yQ C p (.dT []))
theorem Q9:CE X (.Dict [] [] pos) cTNew:=⟨JE.weak J4 fun σ H Q ⟨ρ,C,R,s,h,q,f⟩=>fun p hp=>f (.ref p) _ (.ref p) _ (q p (h.fresh hp)) (.ref p) (h.lay hp ⟨[],gQ,.nil⟩) (Fw.lay hp _ _)⟩
@[irreducible] def cTIx:R2C:=fun x y C Q=>match x with
 |.ref a=>match C a,sB y with
  |some (.dT kvs),some k=>match iK kvs k with
   |some v=>Q v C
   |none=>False
  |_,_=>False
 |_=>False
theorem ce_tix {co ci:TCE}(hu:X.A.units+1 < cLine)(ho:CE X o co)(hi:CE X i ci)(hs:Qm i):CE X (.Subscript o i pos) (cOp cTIx co ci):=⟨JE.weak (QM hu ho.h hi.h hs) fun σ H Q ⟨ρ,C,R,s,h,q,f⟩ =>
 ⟨ρ,C,_,s,h,q,fun x H1 px C1 q1 rx h1 f1=>⟨ρ,C1,_,s.imm (f1.imm h),h1,q1,fun y H2 py C2 q2 ry h2 f2=>by
  unfold cTIx at q2
  split at q2
  .next a =>
   split at q2
   .next kvs k e1 e2 =>
    split at q2
    .next t e3 =>
     have rx2:=rx.imm (f2.imm h1);cases rx2;obtain⟨vs,ev,r⟩:=h2 a _ e1;obtain⟨b,rfl,eb⟩:=nB ry e2
     rcases FP.val r k with ⟨v,t',l1,l2,rv⟩ | ⟨_,l2⟩
     .rw [e3] at l2
      cases l2;exact⟨a,v,rfl,by rw[<- l1]; exact DGet.t ev eb,f v H2 t C2 q2 rv h2 (f1.trans f2)⟩
     .rw [e3] at l2; cases l2
    .exact q2.elim
   .exact q2.elim
  .exact q2.elim⟩⟩⟩
def J9 (x:PV)(C:CH):Prop:=match x with
 |.ref a=>match C a with
  |some (.dT _)=>True
  |_=>False
 |_=>False
theorem isTd_of {K:PySem.W.Frag}{H:Hp}{C:CH}{x:V}{t:PV}(d:J9 t C)(r:Rep K H x t)(h:HRel K H C):∃a kvs,x=.ref a/\t=.ref a/\H a=some (.dT kvs):=by
 unfold J9 at d
 split at d
 .split at d
  .next e=>obtain⟨vs,ev,_⟩:=h _ _ e; cases r; exact⟨_,vs,rfl,rfl,ev⟩
  .exact d.elim
 .exact d.elim
@[irreducible] def Xe:PV->PV->PV->CH->K1->Prop:=fun x y z C Q=>match x with
 |.ref a=>match C a,sB y with
  |some (.dT kvs),some k=>Q ((iK kvs k).getD z) C
  |_,_=>False
 |_=>False
def cTGet2 (co ck cz:TCE):TCE:=fun ρ C Q=>co ρ C fun x C1=>J9 x C1/\ck ρ C1 fun y C2=>cz ρ C2 fun z C3=>Xe x y z C3 Q
theorem KL {co ck cz:TCE}{apos cpos:Pos}(hu:X.A.units+1 < cLine)(ho:CE X o co)(he:CE X e ck)(hf:CE X f cz)(hb:attributeBase o "get" X.env (eval o X.env)=eval o X.env:=by rfl)(hl:(apos.endLine==cpos.line)=true:=by rfl)
  (h1:nQ e=true:=by rfl) (h2:nQ f=true:=by rfl):CE X (.Call (.Attribute o "get" apos) [e,f] [] cpos) (cTGet2 co ck cz):=⟨JE.weak (pO hu ho.h he.h hf.h hb hl h1 h2) fun σ H Q ⟨ρ,C,R,s,h,q,f⟩ =>
 ⟨ρ,C,_,s,h,q,fun x H1 px C1 q1 rx h1 f1=>by
  obtain⟨a,kvs,rfl,rfl,e1⟩:=isTd_of q1.1 rx h1;refine⟨a,rfl,.inr ⟨kvs,.inl e1⟩,ρ,C1,_,s.imm (f1.imm h),h1,q1.2,fun y H2 py C2 q2 ry h2 f2=>⟨ρ,C2,_,(s.imm (f1.imm h)).imm (f2.imm h1),h2,q2,fun z H3 pz C3 q3 rz h3 f3=>?_⟩⟩;unfold Xe at q3;dsimp only at q3
  split at q3
  .next kvs' k d1 d2 =>
   obtain⟨vs,ev,r⟩:=h3 a _ d1;obtain⟨b,rfl,eb⟩:=nB (ry.imm (f3.imm h2)) d2
   rcases FP.val r k with ⟨v,t',l1,l2,rv⟩ | ⟨l1,l2⟩
   .rw [l2] at q3
    exact⟨some v,by rw[<- l1]; exact DGet.t ev eb,f v H3 t' C3 q3 rv h3 (f1.trans (f2.trans f3))⟩
   .rw [l2] at q3
    exact⟨none,by rw[<- l1]; exact DGet.t ev eb,f z H3 pz C3 q3 rz h3 (f1.trans (f2.trans f3))⟩
  .exact q3.elim⟩⟩
@[irreducible] def Xg:PV->PV->PV->CH->(CH->Prop)->Prop:=fun x y v C Q=>match x with
 |.ref a=>match C a,sB y with
  |some (.dT kvs),some k=>kvs.length < sizeLine/\Q (yQ C a (.dT (putG kvs k v)))
  |_,_=>False
 |_=>False
def cTPut (co ck cv:TCE):TCS:=fun E ρ C=>cv ρ C fun v C1=>co ρ C1 fun x C2=>ck ρ C2 fun y C3=>Xg x y v C3 fun C4=>E.nx ρ C4
theorem Q5 {co ck cv:TCE}(hu:X.A.units+1 < cLine)(ho:CE X o co)(hi:CE X i ck)(hv:CE X value cv)(hs:swapsWith value (some (.Subscript o i pos')) pos.line X.env=pure false:=by rfl):
  CS X (.Assign [.Subscript o i pos'] value pos) (cTPut co ck cv):=⟨JS.weak (QK hu ho.h hi.h hv.h hs) fun D σ H ⟨ρ,C,E,s,h,q,f⟩ =>
 ⟨ρ,C,_,s,h,q,fun v H1 pv C1 q1 rv h1 f1=>⟨ρ,C1,_,s.imm (f1.imm h),h1,q1,fun x H2 px C2 q2 rx h2 f2=>⟨ρ,C2,_,(s.imm (f1.imm h)).imm (f2.imm h1),h2,q2,fun y H3 py C3 q3 ry h3 f3=>by
  have s3:=((s.imm (f1.imm h)).imm (f2.imm h1)).imm (f3.imm h2);have rv3:=rv.imm ((f2.trans f3).imm h1);unfold Xg at q3
  split at q3
  .next a =>
   split at q3
   .next kvs k e1 e2 =>
    have rx3:=rx.imm (f3.imm h2);cases rx3;obtain⟨vs,ev,r⟩:=h3 a _ e1;obtain⟨b,rfl,eb⟩:=nB ry e2;have hl:vs.length=kvs.length:=Paired.length r;have m:Imm H3 (upd H3 a (.dT (bK vs k v))):=Imm.mut ev rfl _;refine⟨a,_,rfl,DPut.t ev eb (by rw[hl]; exact q3.1),f.nx σ _ ρ _ q3.2 (s3.imm m) (h3.put ev rfl ⟨_,gQ,Paired.mapP (FP.putG r k rv3) fun _ _ z=>⟨z.1,z.2.imm m⟩⟩) (f1.trans (f2.trans (f3.trans (Fw.put e1 _ _))))⟩
   .exact q3.elim
  .exact q3.elim⟩⟩⟩⟩
end
section
variable {X:Cx}{a b c e o i f value:Expr}{es:List Expr}{pos pos':Pos}
@[irreducible] def cMax:GC:=fun ts C Q=>match ts with
 |[.int i,.int j]=>Q (.int (if j > i then j else i)) C
 |_=>False
@[irreducible] def cMin:GC:=fun ts C Q=>match ts with
 |[.int i,.int j]=>Q (.int (if j < i then j else i)) C
 |_=>False
theorem cbi_max {K:PySem.W.Frag}:Cbi K (fun xs H Q=>∃i j,xs=[.int i,.int j]/\Q (.int (if j > i then j else i)) H) cMax:=fun xs ts H C Q R rs h q f=>by
 unfold cMax at q
 split at q
 .obtain ⟨v1,v2,rfl,r1,r2⟩:=oB rs
  cases r1; cases r2
  exact⟨_,_,rfl,f _ H _ C q (.int _) h Fw.refl⟩
 .exact q.elim
theorem Xc {K:PySem.W.Frag}:Cbi K (fun xs H Q=>∃i j,xs=[.int i,.int j]/\Q (.int (if j < i then j else i)) H) cMin:=fun xs ts H C Q R rs h q f=>by
 unfold cMin at q
 split at q
 .obtain ⟨v1,v2,rfl,r1,r2⟩:=oB rs
  cases r1; cases r2
  exact⟨_,_,rfl,f _ H _ C q (.int _) h Fw.refl⟩
 .exact q.elim
@[irreducible] def kS:GC:=fun ts C Q=>match ts with
 |[.ref a]=>match C a with
  |some (.dK kvs)=>∀p,C p=none->Q (.ref p) (yQ C p (.dK kvs))
  |_=>False
 |_=>False
theorem Zf {K:PySem.W.Frag}:Cbi K (fun xs H Q=>∃a kvs,xs=[.ref a]/\H a=some (.dK kvs)/\∀p,H p=none->Q (.ref p) (upd H p (.dK kvs))) kS:=fun xs ts H C Q R rs h q f=>by
 unfold kS at q
 split at q
 .split at q
  .next kvs e =>
   obtain⟨v,rfl,r⟩:=sX rs;obtain⟨vs,ev,rv⟩:=h _ _ e;cases r;exact⟨_,vs,rfl,ev,fun p hp=>f _ _ _ _ (q p (h.fresh hp)) (.ref p) (h.lay hp ⟨vs,gQ,Paired.mapP rv fun _ _ z=>⟨z.1,z.2.imm (Imm.new hp _)⟩⟩) (Fw.lay hp _ _)⟩
  .exact q.elim
 .exact q.elim
@[irreducible] def cCount:PV->List PV->CH->K1->Prop:=fun x ts C Q=>match x,ts with
 |.ref a,[y]=>match C a,jK y with
  |some (.lst xs),some k=>match zB xs with
   |some ks=>Q (.int (cntK k ks:Nat)) C
   |none=>False
  |_,_=>False
 |_,_=>False
@[irreducible] def cIndexT:PV->List PV->CH->K1->Prop:=fun x ts C Q=>match x,ts with
 |.ref a,[.bl true]=>match C a with
  |some (.lst xs)=>∃(bs:List Bool) (j:Nat),xs=bs.map PV.bl/\bs[j]?=some true/\(∀m,m < j->bs[m]?=some false)/\Q (.int (j:Nat)) C
  |_=>False
 |_,_=>False
@[irreducible] def cEqT (k:Bool->Bool):R2C:=fun x y C Q=>match sB x,sB y with
 |some ks,some js=>Q (.bl (k (decide (ks=js)))) C
 |_,_=>False
def QV:PV->Option V
 |.non=>some .non
 |.bl b=>some (.bl b)
 |.int i=>some (.int i)
 |.str x=>some (.str x)
 |_=>none
theorem oN {K:PySem.W.Frag}{H:Hp}{v w:V}{t:PV}(r:Rep K H v t)(e:QV t=some w):v=w/\tU w=true:=by
 cases r<;>cases e<;>exact⟨rfl,rfl⟩
def fP:List PV->Option (List V)
 |[]=>some []
 |t::r=>match QV t,fP r with
  |some v,some vs=>some (v::vs)
  |_,_=>none
theorem dI {K:PySem.W.Frag}{H:Hp}{ts:List PV}{vs ws:List V}(r:Reps K H vs ts)(e:fP ts=some ws):vs=ws/\ws.all tU=true:=by
 induction ts generalizing vs ws with
 |nil=>cases r; cases e; exact⟨rfl,rfl⟩
 |cons t ts ih =>
  cases r with
  |cons h r =>
   unfold fP at e
   split at e
   .next v us e1 e2 =>
    cases e;obtain⟨rfl,f1⟩:=oN h e1;obtain⟨rfl,f2⟩:=ih r e2;exact⟨rfl,by rw[List.all_cons,f1,f2]; rfl⟩
   .cases e
def seqP (C:CH):PV->Option (List PV)
 |.tup xs=>some xs
 |.kt xs=>some xs
 |.ref a=>match C a with
  |some (.lst xs)=>some xs
  |_=>none
 |_=>none
@[irreducible] def cInS (neg:Bool):R2C:=fun x y C Q=>match seqP C y,QV x with
 |some ts,some v=>match fP ts with
  |some vs=>Q (.bl (if neg then !inV v vs else inV v vs)) C
  |none=>False
 |_,_=>False
theorem cop_inS {K:PySem.W.Frag}{neg:Bool}:Cop K (rIn K neg) (cInS neg):=fun x y px py H C Q R rx ry h q f=>by
 unfold cInS at q
 split at q
 .next ts v e1 e2 =>
  split at q
  .next vs e3 =>
   obtain⟨rfl,fx⟩:=oN rx e2
   have key:∃p ws,y=.ref p/\(SqL K H p ws\/SqT K H p ws)/\Reps K H ws ts:=by
    cases ry<;>try (cases e1)
    .next a =>
     unfold seqP at e1;dsimp only at e1
     split at e1
     .next xs e =>
      cases e1;obtain⟨us,eu,ru⟩:=h _ _ e;exact⟨a,us,rfl,.inl (SqL.of eu),ru⟩
     .cases e1
    .next p us hp r=>exact⟨p,us,rfl,.inr (SqT.of hp),r⟩
    .next p us hp r=>exact⟨p,us,rfl,.inr hp,r⟩
   obtain⟨p,ws,rfl,hs,rs⟩:=key;obtain⟨rfl,fs⟩:=dI rs e3;exact⟨p,ws,rfl,hs,fx,fs,f _ H _ C q (.bl _) h Fw.refl⟩
  .exact q.elim
 .exact q.elim
@[irreducible] def cRepL:R2C:=fun x y C Q=>match x,y with
 |.ref a,.int k=>match C a with
  |some (.lst xs)=>-(2 ^ 63)<=k/\k < 2 ^ 63/\xs.length * k.toNat<=sizeLine/\∀p,C p=none->Q (.ref p) (yQ C p (.lst (List.replicate k.toNat xs).flatten))
  |_=>False
 |.tup [z],.int k=>0<=k/\k < 64/\Q (.tup (List.replicate k.toNat z)) C
 |_,_=>False
end
def gL:List Key->Option (List Str)
 |[]=>some []
 |.inr x::r=>(gL r).map (x :: ·)
 |_=>none
theorem Xr {ks:List Key}{zs:List Str}(e:gL ks=some zs):ks=zs.map Sum.inr:=by
 induction ks generalizing zs with
 |nil=>cases e; rfl
 |cons k ks ih =>
  rcases k with k | x
  .cases e
  .unfold gL at e
   cases z:gL ks with
   |none=>rw[z] at e; cases e
   |some ws=>rw[z] at e; cases e; rw[ih z]; rfl
def tiK:List (List Key×PV)->Option (List (List Str×Int))
 |[]=>some []
 | (k,.int i)::r=>match gL k,tiK r with
  |some zs,some cs=>some ((zs,i)::cs)
  |_,_=>none
 |_=>none
theorem tiK_eq {kvs:List (List Key×PV)}{cs:List (List Str×Int)}(e:tiK kvs=some cs):kvs=cs.map fun c=>(c.1.map Sum.inr,PV.int c.2):=by
 induction kvs generalizing cs with
 |nil=>cases e; rfl
 |cons p kvs ih =>
  unfold tiK at e
  split at e
  .rename_i h; cases h
  .rename_i k i r h
   cases h
   split at e
   .next zs ds e1 e2=>cases e; rw[ih e2,Xr e1]; rfl
   .cases e
  .cases e
def eU (c:List Str×Int):PV:=.tup [.tup (c.1.map PV.str),.int c.2]
def tiLt (cs:List (List Str×Int)):Nat->Nat->Bool:=fun i j=>ltP (cs.getD i ([],0)) (cs.getD j ([],0))
def ordT (cs:List (List Str×Int)):List (List Str×Int):=(pG (tiLt cs) (kas_sort cs.length)).toList.map fun i=>cs.getD i ([],0)
section
variable {K:PySem.W.Frag}{H:Hp}{X:Cx}
theorem oS:∀zs:List Str,Reps K H (zs.map V.str) (zs.map PV.str)
 |[]=>.nil
 |z::zs=>.cons (.str z) (oS zs)
theorem Jh {ys:List V}{ts:List PV}(d:PV)(lt:Nat->Nat->Bool)(r:Reps K H ys ts):Reps K H (uG lt ys) ((pG lt (kas_sort ts.length)).toList.map fun i=>ts.getD i d):=by
 have hl:ys.length=ts.length:=r.len;unfold uG;rw[hl]
 have mem:∀i∈(pG lt (kas_sort ts.length)).toList,i < ys.length:=by
  intro i hi
  by_cases h:0 < ts.length
  .rw [hl]; exact List.mem_range.mp ((jY lt ts.length h).mem_iff.mp hi)
  .have e:ts.length=0:=by omega
   rw[e,run0] at hi;cases hi
 generalize (pG lt (kas_sort ts.length)).toList=l at mem ⊢
 induction l with
 |nil=>exact .nil
 |cons i l ih=>exact .cons (r.getD (d:=d) i (mem i List.mem_cons_self)) (ih fun j hj=>mem j (List.mem_cons_of_mem _ hj))
theorem ti_ord (cs:List (List Str×Int))(l:List Nat):(l.map fun i=>(cs.map eU).getD i (eU ([],0)))=(l.map fun i=>cs.getD i ([],0)).map eU:=by
 rw[List.map_map]
 congr 1
 funext i
 show(cs.map eU).getD i (eU ([],0))=eU (cs.getD i ([],0));rw[List.getD_eq_getElem?_getD,List.getElem?_map,List.getD_eq_getElem?_getD];cases cs[i]?<;>rfl
@[irreducible] def qL (co:TCE):TCE:=fun ρ C Q=>co ρ C fun x C1=>match x with
 |.ref a=>match C1 a with
  |some (.dT _)=>Q (.vw a) C1
  |_=>False
 |_=>False
theorem Zd {o:Expr}{apos cpos:Pos}{co:TCE}(ho:CE X o co)(hbase:attributeBase o "items" X.env (eval o X.env)=eval o X.env:=by rfl)(hline:(apos.endLine==cpos.line)=true:=by rfl):CE X (.Call (.Attribute o "items" apos) [] [] cpos) (qL co) :=
 ⟨JE.weak (wI F.plainAttrs_dict F.slot_dict_items F.type_dict_items XO ho.h hbase hline) fun σ H Q ⟨ρ,C,R,s,h,q,f⟩=>by
 unfold qL at q
 exact⟨ρ,C,_,s,h,q,fun x H1 px C1 q1 rx h1 f1=>by
  split at q1
  .split at q1
   .next kvs e =>
    obtain⟨vs,ev,r⟩:=h1 _ _ e;cases rx;exact⟨.inr (.inr (.inl ⟨rfl,.inr ⟨vs,ev⟩⟩)),_,vs,rfl,rfl,ev,fun v hv=>f _ _ _ _ q1 (.vw gQ) (h1.new hv _) (f1.trans (Fw.new hv _))⟩
   .exact q1.elim
  .exact q1.elim⟩⟩
@[irreducible] def mM:GC:=fun ts C Q=>match ts with
 |[.vw a]=>match C a with
  |some (.dT kvs)=>match tiK kvs with
   |some cs=>cs.length < 64/\∀p,C p=none->Q (.ref p) (yQ C p (.lst ((ordT cs).map eU)))
   |none=>False
  |_=>False
 |_=>False
abbrev ZT (X:Cx):List V->Hp->VK->Prop:=fun xs H Q=>∃v d kvs lt,xs=[.ref v]/\H v=some (.ext (xK v d))/\H d=some (.dT kvs)/\kvs.length < 64 /\
  ∀as H1,Same H H1->TPs H1 as kvs->(∀a∈as,H a=none)->(∀a,H a=none->H1 a≠none->a∈as)->Srt X H1 (List.map V.ref as) lt/\∀p,H1 p=none->Q (.ref p) (upd H1 p (.lst (uG lt (List.map V.ref as))))
theorem ti_at {as:List Addr}{kvs:List (List Key×V)}{cs:List (List Str×Int)}(r:TPs H as kvs)(e:FP K H kvs (cs.map fun c=>(c.1.map Sum.inr,PV.int c.2))):
  Reps K H (as.map V.ref) (cs.map eU)/\∀i,i < as.length->wH H ((as.map V.ref).getD i .non) (cs.getD i ([],0)):=by
 induction r generalizing cs with
 |nil =>
  cases cs with
  |nil=>exact⟨.nil,fun i hi=>absurd hi (Nat.not_lt_zero i)⟩
  |cons c cs=>cases e
 |@cons a b k v as kvs h1 h2 r ih =>
  cases cs with
  |nil=>cases e
  |cons c cs =>
   cases e with
   |cons h e =>
    obtain⟨e1,e2⟩:=h;obtain⟨i1,i2⟩:=ih e;have e1:k=c.1.map Sum.inr:=e1;have e2:Rep K H v (.int c.2):=e2;subst e1;cases e2;rw[kI] at h2;refine⟨.cons (.tup h1 (.cons (.tup h2 (oS c.1)) (.cons (.int _) .nil))) i1,fun i hi=>?_⟩
    cases i with
    |zero=>exact⟨a,b,rfl,h1,h2⟩
    |succ i=>exact i2 i (Nat.lt_of_succ_lt_succ hi)
theorem gE (hu:X.A.units+2 < cLine):Cbi X.K (ZT X) mM:=fun xs ts H C Q R rs h q f=>by
 unfold mM at q
 split at q
 .obtain ⟨v,rfl,r⟩:=sX rs
  split at q
  .next kvs e =>
   split at q
   .next cs e2 =>
    have ex:=tiK_eq e2;subst ex;obtain⟨vs,ev,rv⟩:=h _ _ e
    cases r with
    |vw hv =>
     have hl:vs.length=cs.length:=by rw[Paired.length rv,List.length_map]
     refine⟨_,_,vs,tiLt cs,rfl,hv,ev,by rw[hl]; exact q.1,fun as H1 sm pa fr on=>?_⟩;have rv1:FP X.K H1 vs (cs.map fun c=>(c.1.map Sum.inr,PV.int c.2)):=Paired.mapP rv fun _ _ z=>⟨z.1,z.2.imm fun b v _ e=>sm b v e⟩;obtain⟨rr,pp⟩:=ti_at pa rv1;refine⟨Xs hu _ (fun i hi=>pp i (by rw[List.length_map] at hi; exact hi)),fun p hp=>?_⟩;have h1:=kF h sm;have ro:=Jh (eU ([],0)) (tiLt cs) rr;rw[List.length_map,ti_ord] at ro
     exact f _ _ _ _ (q.2 p (h1.fresh hp)) (.ref p) (h1.lay hp ⟨_,gQ,ro.imm (Imm.new hp _)⟩) ((bR sm).trans (Fw.lay hp _ _))
   .exact q.elim
  .exact q.elim
 .exact q.elim
end
def Qf:List (TCE×TCE)->CSt->CH->(List (PV×PV)->CH->Prop)->Prop
 |[],_,C,Q=>Q [] C
 | (ck,cv)::r,ρ,C,Q=>ck ρ C fun x C1=>cv ρ C1 fun y C2=>Qf r ρ C2 fun ps C3=>Q ((x,y)::ps) C3
abbrev RPs (K:PySem.W.Frag)(H:Hp):List (V×V)->List (PV×PV)->Prop:=Paired fun p q=>Rep K H p.1 q.1/\Rep K H p.2 q.2
def liftP (K:PySem.W.Frag)(cs:List (TCE×TCE)):List (TE×TE):=cs.map fun p=>(iZ K (Rep K) p.1,iZ K (Rep K) p.2)
structure CPs (X:Cx)(pos:Pos)(keys:List (Option Expr))(values:List Expr)(cs:List (TCE×TCE)):Prop where
 h:PPs X pos keys values (liftP X.K cs)
theorem cps_nil {X:Cx}{pos:Pos}:CPs X pos [] [] []:=⟨pps_nil⟩
theorem wY {X:Cx}{pos:Pos}{k v:Expr}{ks:List (Option Expr)}{vs:List Expr}{ck cv:TCE}{cs:List (TCE×TCE)}(hk:CE X k ck)(hv:CE X v cv)(hr:CPs X pos ks vs cs):CPs X pos (some k::ks) (v::vs) ((ck,cv)::cs):=⟨Z3 hk.h.h hv.h.h hr.h⟩
theorem iA {K:PySem.W.Frag}{σ:St}{ρ:CSt}:∀{cs:List (TCE×TCE)}{H:Hp}{C:CH}{R:List (PV×PV)->CH->Prop}{Q:List (V×V)->Hp->Prop},SRel K H σ ρ->HRel K H C->Qf cs ρ C R ->
  (∀vs H' ts C',R ts C'->RPs K H' vs ts->HRel K H' C'->Fw H C H' C'->Q vs H')->lC (liftP K cs) σ H Q:=by
 intro cs
 induction cs with
 |nil=>intro H C R Q s h q f; exact f [] H [] C q .nil h Fw.refl
 |cons p cs ih =>
  obtain⟨ck,cv⟩:=p;intro H C R Q s h q f;refine⟨ρ,C,_,s,h,q,fun x H1 px C1 q1 rx h1 f1=>⟨ρ,C1,_,s.imm (f1.imm h),h1,q1,fun y H2 py C2 q2 ry h2 f2=>?_⟩⟩;refine ih ((s.imm (f1.imm h)).imm (f2.imm h1)) h2 q2 fun vs H3 ts C3 q3 r3 h3 f3=>?_;exact f _ H3 _ C3 q3 (.cons ⟨(rx.imm (f2.imm h1)).imm (f3.imm h2),ry.imm (f3.imm h2)⟩ r3) h3 (f1.trans (f2.trans f3))
def prK:List (PV×PV)->Option (List (Key×PV))
 |[]=>some []
 | (x,y)::r=>match jK x,prK r with
  |some k,some ps=>some ((k,y)::ps)
  |_,_=>none
theorem prK_rep {K:PySem.W.Frag}{H:Hp}{vs:List (V×V)}{ts:List (PV×PV)}{ps:List (Key×PV)}(r:RPs K H vs ts)(e:prK ts=some ps):∃kvs:List (Key×V),vs=kvs.map (fun kv=>(kV kv.1,kv.2))/\KP K H kvs ps:=by
 induction r generalizing ps with
 |nil=>cases e; exact⟨[],rfl,.nil⟩
 |@cons p q l1 l2 h r ih =>
  obtain⟨x,y⟩:=q;unfold prK at e
  split at e
  .next k ps' e1 e2 =>
   cases e;obtain⟨kvs,rfl,r2⟩:=ih e2;obtain⟨v1,v2⟩:=p;have ek:v1=kV k:=zY h.1 e1;subst ek;exact⟨(k,v2)::kvs,rfl,.cons ⟨rfl,h.2⟩ r2⟩
  .cases e
def prT:List (PV×PV)->Option (List (List Key×PV))
 |[]=>some []
 | (x,y)::r=>match sB x,prT r with
  |some k,some ps=>some ((k,y)::ps)
  |_,_=>none
section
variable {X:Cx}{pos:Pos}{keys:List (Option Expr)}{values:List Expr}{cs:List (TCE×TCE)}
@[irreducible] def iD (p:Addr):List (PV×PV)->CH->K1->Prop:=fun ts C Q=>C p=some (.dK [])/\match prK ts with
 |some ps=>ps.length<=15/\Q (.ref p) (yQ C p (.dK (jV [] ps)))
 |none=>False
def cDisp (cs:List (TCE×TCE)):TCE:=fun ρ C Q=>∀p,C p=none->Qf cs ρ (yQ C p (.dK [])) fun ts C2=>iD p ts C2 Q
theorem ce_disp (h:CPs X pos keys values cs)(hall:keys.all (·.isSome)=true:=by rfl)(hl:keys.length=values.length:=by rfl)(h0:keys≠[]:=by exact fun z=>nomatch z)(h15:keys.length<=15:=by decide):CE X (.Dict keys values pos) (cDisp cs) :=
 ⟨JE.weak ⟨pe_disp h.h hall hl h0 h15⟩ fun σ H Q ⟨ρ,C,R,s,hh,q,f⟩=>fun p hp=>by
  have k0:Imm H (upd H p (.dK [])):=Imm.new hp _;refine iA (C:=yQ C p (.dK [])) (s.imm k0) (hh.lay hp ⟨[],gQ,.nil⟩) (q p (hh.fresh hp)) fun vs H2 ts C2 q2 r2 h2 f2=>?_;unfold iD at q2;obtain⟨e1,q2⟩:=q2
  split at q2
  .next ps e2 =>
   obtain⟨kvs,rfl,rk⟩:=prK_rep r2 e2;obtain⟨us,eu,ru⟩:=h2 p _ e1;have z:us=[]:=by cases ru; rfl
   subst z;have m:Imm H2 (upd H2 p (.dK (iJ [] kvs))):=Imm.mut eu rfl _;refine⟨eu,kvs,rfl,by rw[Paired.length rk]; exact q2.1,?_⟩;exact f _ _ _ _ q2.2 (.ref p) (h2.put eu rfl ⟨_,gQ,Paired.mapP (KP.merge .nil rk) fun _ _ z=>⟨z.1,z.2.imm m⟩⟩) ((Fw.lay hp _ _).trans (f2.trans (Fw.put e1 _ _)))
  .exact q2.elim⟩
@[irreducible] def cPutAllT (p:Addr):List (PV×PV)->CH->K1->Prop:=fun ts C Q=>C p=some (.dT [])/\match prT ts with
 |some ps=>ps.length<=15/\Q (.ref p) (yQ C p (.dT (mergeG [] ps)))
 |none=>False
end
theorem xF {A:Around}{k:Nat}(hr:Room k A):A.units+2 < cLine:=by have:=hr.un; omega
section
variable {C:CH}{p:Addr}{Q:K1}{x y v z:PV}
theorem mP {c dx:Addr}{f:Str}{fs:List (Str×PV)}(m:C p=some (.ins c dx fs))(e:fs.lookup f=some v)(q:Q v C):Qg c f (.ref p) C Q:=by
 unfold Qg;dsimp only;rw[m];refine⟨rfl,?_⟩;rw[e];exact q
theorem gA {c dx:Addr}{f:Str}{fs:List (Str×PV)}{Q:CH->Prop}(m:C p=some (.ins c dx fs))(h:fs.length < 1000)(q:Q (yQ C p (.ins c dx (gT f v fs)))):Xi c f (.ref p) v C Q:=by
 unfold Xi;dsimp only;rw[m];exact⟨rfl,h,q⟩
theorem fX {c dx:Addr}{f:Str}{fs:List (Str×PV)}(m:C p=some (.ins c dx fs))(e:fs.lookup f=none):sN c f (.ref p) C:=by
 unfold sN;dsimp only;rw[m];exact⟨rfl,e⟩
theorem isTd_s {kvs:List (List Key×PV)}(m:C p=some (.dT kvs)):J9 (.ref p) C:=by
 unfold J9;dsimp only;rw[m]
 trivial
theorem tix_s {kvs:List (List Key×PV)}{k:List Key}(m:C p=some (.dT kvs))(hk:sB y=some k)(hv:iK kvs k=some v)(q:Q v C):cTIx (.ref p) y C Q:=by
 unfold cTIx;dsimp only;rw[m,hk];dsimp only;rw[hv];exact q
theorem tget_s {kvs:List (List Key×PV)}{k:List Key}(m:C p=some (.dT kvs))(hk:sB y=some k)(hv:(iK kvs k).getD z=v)(q:Q v C):Xe (.ref p) y z C Q:=by
 unfold Xe;dsimp only;rw[m,hk];dsimp only;rw[hv];exact q
theorem Zz {kvs:List (List Key×PV)}{k:List Key}{Q:CH->Prop}(m:C p=some (.dT kvs))(hk:sB y=some k)(h:kvs.length<=1000)(q:Q (yQ C p (.dT (putG kvs k v)))):Xg (.ref p) y v C Q:=by
 unfold Xg;dsimp only;rw[m,hk];exact⟨Nat.lt_of_le_of_lt h (by decide),q⟩
theorem nJ {kvs:List (Key×PV)}{k:Key}(m:C p=some (.dK kvs))(hk:jK y=some k)(hv:cZ kvs k=some v)(q:Q v C):tH (.ref p) y C Q:=by
 unfold tH;dsimp only;rw[m,hk];show(match cZ kvs k with | some v=>Q v C | none=>False);rw[hv];exact q
theorem getD_g {kvs:List (Key×PV)}{k:Key}(m:C p=some (.dK kvs))(hk:jK y=some k)(hv:(cZ kvs k).getD z=v)(q:Q v C):Xj (.ref p) y z C Q:=by
 unfold Xj;dsimp only;rw[m,hk];show Q ((cZ kvs k).getD z) C;rw[hv];exact q
theorem pW {kvs:List (Key×PV)}{k:Key}{Q:CH->Prop}(m:C p=some (.dK kvs))(hk:jK y=some k)(h:kvs.length<=1000)(q:Q (yQ C p (.dK (fZ kvs k v)))):zH (.ref p) y v C Q:=by
 unfold zH;dsimp only;rw[m,hk];exact⟨Nat.lt_of_le_of_lt h (by decide),q⟩
theorem Kc {kvs:List (Key×PV)}(m:C p=some (.dK kvs)):bI (.ref p) C:=by
 unfold bI;dsimp only;rw[m]
 trivial
theorem dictK_s {kvs:List (Key×PV)}(m:C p=some (.dK kvs))(q:∀p',C p'=none->Q (.ref p') (yQ C p' (.dK kvs))):kS [.ref p] C Q:=by
 unfold kS;dsimp only;rw[m];exact q
theorem Kd {neg:Bool}{ts:List PV}{w:V}{vs:List V}(h1:seqP C y=some ts)(h2:QV x=some w)(h3:fP ts=some vs)(q:Q (.bl (if neg then !inV w vs else inV w vs)) C):cInS neg x y C Q:=by
 unfold cInS;rw[h1,h2];dsimp only;rw[h3];exact q
end
theorem mL {cs:List (Str×Int)}{p:Addr}{C:CH}{Q:K1}(m:C p=some (.lst (cs.map dQ)))(h:cs.length < 64)(q:∀p',C p'=none->Q (.ref p') (yQ C p' (.lst ((dW cs).map dQ)))):pU [.ref p] C Q:=by
 unfold pU;dsimp only;rw[m];dsimp only;rw[iS];exact⟨h,q⟩
theorem bP {i:Nat}{g:TCG}{u:TCS}{E:mY}{ρ:CSt}{C:CH}{xs:List PV}(hv:ρ[i]?=some (some (.tup xs)))(h:jG g u E xs ρ C):Xk (pZ i) g u E ρ C:=by
 unfold Xk pZ;rw[hv];exact h
theorem wX {x v:PV}{xs:List PV}{i:Int}{C:CH}{Q:K1}(h:x=.tup xs)(e:atI xs i=some v)(q:Q v C):cIx x (.int i) C Q:=by
 subst h;exact rX e q
theorem min_s {i j:Int}{C:CH}{Q:K1}(q:Q (.int (if j < i then j else i)) C):cMin [.int i,.int j] C Q:=by
 unfold cMin;exact q
theorem max_s {i j:Int}{C:CH}{Q:K1}(q:Q (.int (if j > i then j else i)) C):cMax [.int i,.int j] C Q:=by
 unfold cMax;exact q
theorem tG {xs:List PV}{k:Nat}(h:k < xs.length):atI xs (k:Int)=some xs[k]:=by
 unfold atI ixN;rw[if_pos (by omega),if_pos (by omega)];show xs[(k:Int).toNat]?=_;rw[Int.toNat_natCast,List.getElem?_eq_getElem h]
theorem sQ {x:PV}{r:List PV}:atI (x::r) 0=some x:=tG (xs:=x::r) (k:=0) (Nat.zero_lt_succ _)
theorem if_i {t:TCT}{ca cb:TCE}{ρ:CSt}{C:CH}{Q:K1}(h:t ρ C fun b C1=>if b=true then ca ρ C1 Q else cb ρ C1 Q):cIf t ca cb ρ C Q:=h
theorem ZB {k:Bool->Bool}{i:Nat}{x:PV}{ρ:CSt}{C:CH}{Q:Bool->CH->Prop}(hv:ρ[i]?=some (some x))(q:Q (k (uI x)) C):fE (cOp (cIs k) (pZ i) (cC .non)) ρ C Q:=by
 show pZ i ρ C fun x C1=>sT Q (.bl (k (uI x))) C1;unfold pZ;rw[hv];exact q
theorem oJ {g:TCG}{u:TCS}{E:mY}(I:List PV->CSt->CH->Prop)(step:∀x r ρ C,I (x::r) ρ C->∀L:CSt->CH->Prop,(∀ρ' C',I r ρ' C'->L ρ' C')->g x ρ C fun ρ1 C1=>u { nx:=L,ct:=L,bk:=E.nx,rt:=E.rt } ρ1 C1)(fin:∀ρ C,I [] ρ C->E.nx ρ C):
  ∀xs ρ C,I xs ρ C->jG g u E xs ρ C:=by
 intro xs
 induction xs with
 |nil=>intro ρ C h; exact fin ρ C h
 |cons x r ih=>intro ρ C h; exact step x r ρ C h _ ih
theorem yY {c:TCE}{ρ:CSt}{Q:K1}(I:List PV->List PV->CH->Prop)(step:∀x r acc C,I (x::r) acc C->∀L:K1,(∀y C2,acc.length < sizeLine/\I r (acc++[y]) C2->L y C2)->c (some x::ρ) C L)(fin:∀acc C,I [] acc C->∀p,C p=none->Q (.ref p) (yQ C p (.lst acc))):
  ∀xs acc C,I xs acc C->kZ gB c ρ Q xs acc C:=by
 intro xs
 induction xs with
 |nil=>intro acc C h; exact fin acc C h
 |cons x r ih =>
  intro acc C h;exact step x r acc C h _ fun y C2 z=>⟨z.1,ih _ _ z.2⟩
theorem zC {S:CH->Prop}{c:TCE}{ρ:CSt}{Q:K1}(I:List PV->List PV->CH->Prop)(hS:∀r acc C,I r acc C->S C)(step:∀x r acc C,I (x::r) acc C->∀L:K1,(∀y C2,acc.length < sizeLine/\I r (acc++[y]) C2->L y C2)->c (some x::ρ) C L)(fin:∀acc C,I [] acc C->∀p,C p=none->Q (.ref p) (yQ C p (.lst acc))):
  ∀xs acc C,I xs acc C->oG S gB c ρ Q xs acc C:=by
 intro xs
 induction xs with
 |nil=>intro acc C h; exact⟨hS _ _ _ h,fin acc C h⟩
 |cons x r ih =>
  intro acc C h;exact⟨hS _ _ _ h,step x r acc C h _ fun y C2 z=>⟨z.1,ih _ _ z.2⟩⟩
theorem kB {C C1:CH}{p:Addr}(g:Gr C C1)(hp:C p=none)(o:CO):Gr C (yQ C1 p o):=fun b u e=>by
 rw[wQ (fun z=>by subst z; rw[hp] at e; cases e)];exact g b u e
theorem yW {C C':CH}{p:Addr}(g:Gr C C')(h:C' p=none):C p=none:=by
 cases e:C p with
 |none=>rfl
 |some o=>rw[g p o e] at h; cases h
theorem cV {n:Nat}(h:n<=1000):n<=sizeLine:=Nat.le_trans h (by decide)
theorem eB (kvs:List (Key×PV))(k:Key)(v:PV):(fZ kvs k v).length<=kvs.length+1:=by
 unfold fZ
 split
 .rw [List.length_map]; omega
 .rw [List.length_append,List.length_singleton]; exact Nat.le_refl _
theorem pC (kvs:List (Key×PV))(k:Key)(v:PV)(k':Key):cZ (fZ kvs k v) k'=if k'=k then some v else cZ kvs k':=by
 have up:∀l:List (Key×PV),(l.any fun kv=>decide (kv.1=k))=true->cZ (l.map fun kv=>if kv.1=k then (kv.1,v) else kv) k'=if k'=k then some v else cZ l k':=by
  intro l
  induction l with
  |nil=>intro h; cases h
  |cons x l ih =>
   intro h;unfold cZ;rw[List.map_cons,List.find?_cons,List.find?_cons]
   by_cases e:x.1=k
   .rw [if_pos e]
    by_cases e2:k'=k
    .rw [if_pos e2]
     show(match decide (x.1=k') with | true=>some (x.1,v) | false=>_).map _=_;rw[decide_eq_true (e.trans e2.symm)]; rfl
    .rw [if_neg e2]
     have ne:¬ x.1=k':=fun z=>e2 (z.symm.trans e);show(match decide (x.1=k') with | true=>some (x.1,v) | false=>_).map _=(match decide (x.1=k') with | true=>some x | false=>_).map _;rw[decide_eq_false ne]
     by_cases h3:(l.any fun kv=>decide (kv.1=k))=true
     .have:=ih h3
      rw[if_neg e2] at this;exact this
     .have:(l.map fun kv=>if kv.1=k then (kv.1,v) else kv)=l:=by
       have h4:∀y∈l,¬ y.1=k:=fun y hy z=>h3 (List.any_eq_true.2 ⟨y,hy,decide_eq_true z⟩);exact(List.map_congr_left fun y hy=>if_neg (h4 y hy)).trans (List.map_id l)
      rw[this]
   .rw [if_neg e]
    have h3:(l.any fun kv=>decide (kv.1=k))=true:=by
     rw[List.any_cons,decide_eq_false e,Bool.false_or] at h;exact h
    have:=ih h3
    by_cases e3:x.1=k'
    .rw [decide_eq_true e3]
     have e2:¬ k'=k:=fun z=>e (e3.trans z);rw[if_neg e2]
    .rw [decide_eq_false e3]
     exact this
 unfold fZ
 by_cases b:(kvs.any fun kv=>decide (kv.1=k))=true
 .rw [if_pos b]; exact up kvs b
 .rw [if_neg b]
  induction kvs with
  |nil =>
   unfold cZ;rw[List.nil_append,List.find?_cons]
   by_cases e2:k'=k
   .rw [if_pos e2]
    show(match decide (k=k') with | true=>some (k,v) | false=>_).map _=_;rw[decide_eq_true e2.symm]; rfl
   .rw [if_neg e2]
    show(match decide (k=k') with | true=>some (k,v) | false=>_).map _=_;rw[decide_eq_false (fun z=>e2 z.symm)]
  |cons x l ih =>
   rw[List.any_cons] at b;have e:¬ x.1=k:=fun e=>b (by rw[decide_eq_true e]; rfl);rw[decide_eq_false e,Bool.false_or] at b;have:=ih b;unfold cZ at this ⊢;rw[List.cons_append,List.find?_cons,List.find?_cons]
   by_cases e3:x.1=k'
   .rw [decide_eq_true e3]
    have e2:¬ k'=k:=fun z=>e (e3.trans z);rw[if_neg e2]
   .rw [decide_eq_false e3]
    exact this
def ExS (S:List Addr)(C C':CH):Prop:=∀b o,b∉S->C b=some o->C' b=some o
theorem ExS.refl {S:List Addr}{C:CH}:ExS S C C:=fun _ _ _ h=>h
theorem ExS.trans {S:List Addr}{C C1 C2:CH}(h:ExS S C C1)(h':ExS S C1 C2):ExS S C C2:=fun b o n e=>h' b o n (h b o n e)
theorem ExS.mono {S S':List Addr}{C C1:CH}(h:ExS S C C1)(s:∀b∈S,b∈S'):ExS S' C C1:=fun b o n e=>h b o (fun z=>n (s b z)) e
theorem ExS.at {S:List Addr}{C C1:CH}{p:Addr}(h:ExS S C C1)(hp:p∈S)(o:CO):ExS S C (yQ C1 p o):=fun b u n e=>by
 rw[wQ (fun z=>n (by rw[z]; exact hp))];exact h b u n e
theorem ExS.put {S:List Addr}{C C1:CH}{p:Addr}(h:ExS S C C1)(hp:C p=none)(o:CO):ExS S C (yQ C1 p o):=fun b u n e=>by
 rw[wQ (fun z=>by subst z; rw[hp] at e; cases e)];exact h b u n e
theorem ExS.none {S:List Addr}{C C':CH}{p:Addr}(g:ExS S C C')(n:p∉S)(h:C' p=none):C p=none:=by
 cases e:C p with
 |none=>rfl
 |some o=>rw[g p o n e] at h; cases h
end CL
namespace L2
open PySem PySem.Spec PyProof.Rows
def ZH (K:PySem.W.Frag)(n:Nat)(wi:TI)(tc:TT)(te:TE):TE:=fun σ H Q=>wi σ H fun J H1=>∀D,H1 D=none->∃W:Nat->Nat->List V->Hp->Prop,(∃m,W 0 m [] (upd H1 D (.lst [])))/\∀i m ys H,W i m ys H ->
 (J.stop i H/\Q (.ref D) H)\/(J.go i H/\∀x H',J.yld i H x H'->∃a vs,x=.ref a/\SqT K H' a vs/\vs.length=n/\tc (vs.map some++σ) H' fun b H2 =>
  if b=true then te (vs.map some++σ) H2 fun y H3=>H3 D=some (.lst ys)/\ys.length < sizeLine/\∃m',m' < m/\W (i+1) m' (ys++[y]) (upd H3 D (.lst (ys++[y])))
  else ∃m',m' < m/\W (i+1) m' ys H2)
section
variable {X:Cx}
theorem Jf {elt iter tg:Expr}{xs:List Str}{pos:Pos}{ifs:List Expr}{scope:Scope}{cl:List (Str×Addr)}{wi:TI}{tc:TT}{te:TE}{g:TG}
  (hc:X.calm=true) (K:rV X xs scope cl) (hg:∀fp C s₂ H₂,PG (cxN X xs scope cl fp C s₂ H₂) tg g) (hG:∀ws vs a σ H Q,ws.length=xs.length->SqT X.K H a vs->vs.length=xs.length->Q (vs.map some++σ) H->g (.ref a) (ws++σ) H Q) (hi:PI X tg iter wi)
  (ht:∀fp C s₂ H₂,Zp (cxN X xs scope cl fp C s₂ H₂) ifs tc) (he:∀fp C s₂ H₂,PE (cxN X xs scope cl fp C s₂ H₂) elt te)
  (hs:∀v,foldedSetIterable iter X.env v=pure v:=by intro _; rfl):PE X (.ListComp elt [⟨tg,iter,ifs,0⟩] scope pos) (ZH X.K xs.length wi tc te):=by
 intro pins s σ H Q I h;rw[eval_ListComp];refine wpAny_comprehension_free (use:=none) rfl hs K.clos K.kind K.names (thn (hi pins s σ H _ I h) fun xv s₁ h₁=>thn h₁ fun itv s₂ h₂=>?_);obtain⟨it,fp,tn,J,H₂,e,I₂,T,st₂,f₂,R⟩:=h₂;subst e;refine cG (Tk:=fun x H vs=>∃a,x=.ref a/\SqT X.K H a vs) hc K hg ht he (fun ws vs x H Q l ⟨a,e,sq⟩ l' q=>by rw[e]; exact hG ws vs a σ H Q l sq l' q) I₂ T st₂ f₂ (fun D hD=>let ⟨W,w0,tu⟩:=R D hD; ⟨W,w0,fun i m ys H w=>(tu i m ys H w).imp id fun⟨g,st⟩=>⟨g,fun x H' y=>let ⟨a,vs,e,sq,l,q⟩:=st x H' y; ⟨vs,⟨a,e,sq⟩,l,q⟩⟩⟩) ?_
 intro D C H s4 m hn hCL hC0 hCc hCsz I4 q;refine⟨m,hn,fun h' hsb=>⟨.ref D,H,?_,rfl,q⟩⟩;refine I4.turned (it:=C) (t':=s4.toks) (fun b o hb e=>(hsb.2 b hb).trans e) hC0 hCL (.inr (Nat.le_trans I₂.sz hCsz)) hCc fun p hp z=>?_;exact absurd (Nat.lt_of_lt_of_le (Heap.lt_size (I₂.pin p hp).1) (by rw[z]; exact hCsz)) (Nat.lt_irrefl _)
end
end L2
namespace CL
open PySem PySem.Spec L2 PySem.W
open PyProof.Rows hiding St
def dU (n:Nat)(t:TCT)(c:TCE)(ρ:CSt)(Q:K1):List PV->List PV->CH->Prop
 |[],acc,C=>∀p,C p=none->Q (.ref p) (yQ C p (.lst acc))
 |x::r,acc,C=>∃ts,x=.tup ts/\ts.length=n/\t (ts.map some++ρ) C fun b C1=>if b=true then c (ts.map some++ρ) C1 fun y C2=>acc.length < sizeLine/\dU n t c ρ Q r (acc++[y]) C2 else dU n t c ρ Q r acc C1
theorem rC {K:PySem.W.Frag}{H:Hp}:∀{vs:List V}{ts:List PV},Reps K H vs ts->SRel K H (vs.map some) (ts.map some)
 |_,_,.nil=>.nil
 |_,_,.cons h r=>.cons h (rC r)
theorem SRel.app {K:PySem.W.Frag}{H:Hp}{σ τ:St}{ρ π:CSt}(h:SRel K H σ ρ)(h':SRel K H τ π):SRel K H (σ++τ) (ρ++π):=by
 induction h with
 |nil=>exact h'
 |cons a _ ih=>exact .cons a ih
theorem KH {n:Nat}{K:PySem.W.Frag}{H H0:Hp}{C C0:CH}{σ:St}{ρ:CSt}{J:It}{ps:List PV}{t:TCT}{c:TCE}{R:K1}{Q:VK}(j:Qn K H J ps)(s:SRel K H σ ρ)(h:HRel K H C)(q:dU n t c ρ R ps [] C)
  (h0:HRel K H0 C0) (f0:Fw H0 C0 H C) (f:∀v H' p C',R p C'->Rep K H' v p->HRel K H' C'->Fw H0 C0 H' C'->Q v H') {D:Addr} (hD:H D=none) :
  ∃W:Nat->Nat->List V->Hp->Prop,(∃m,W 0 m [] (upd H D (.lst [])))/\∀i m ys H,W i m ys H ->
   (J.stop i H/\Q (.ref D) H)\/(J.go i H/\∀x H',J.yld i H x H'->∃a vs,x=.ref a/\SqT K H' a vs/\vs.length=n/\iZ K eM t (vs.map some++σ) H' fun b H2 =>
    if b=true then iZ K (Rep K) c (vs.map some++σ) H2 fun y H3=>H3 D=some (.lst ys)/\ys.length < sizeLine/\∃m',m' < m/\W (i+1) m' (ys++[y]) (upd H3 D (.lst (ys++[y])))
    else ∃m',m' < m/\W (i+1) m' ys H2):=by
 have fD:∀{H':Hp} {C':CH},Fw H C H' C'->True:=fun _=>trivial
 refine⟨fun i m ys H'=>m=ps.length - i/\i<=ps.length/\∃acc C',H' D=some (.lst ys)/\C' D=none/\Reps K H' ys acc/\HRel K H' C'/\Fw H C H' C'/\dU n t c ρ R (ps.drop i) acc C',
  ⟨ps.length,rfl,Nat.zero_le _,[],C,gQ,h.fresh hD,.nil,h.new hD _,Fw.new hD _,q⟩,?_⟩
 rintro i m ys H1 ⟨rfl,hi,acc,C1,e1,n1,r1,h1,f1,q1⟩;have k1:Imm H H1:=f1.imm h
 by_cases hlt:i < ps.length
 .refine .inr ⟨j.go i H1 hlt k1,fun x H2 y=>?_⟩
  obtain⟨rfl,y⟩:=j.yl i H1 x H2 k1 y;have rx:=y _ (List.getElem?_eq_getElem hlt);rw[List.drop_eq_getElem_cons hlt] at q1;obtain⟨ts,ets,hn,q1⟩:=q1;rw[ets] at rx
  obtain⟨a5,vs5,z5,sq5,rs5⟩:∃a vs,x=.ref a/\SqT K H2 a vs/\Reps K H2 vs ts:=by
   cases rx with
   |tup e r=>exact⟨_,_,rfl,SqT.of e,r⟩
  refine⟨a5,vs5,z5,sq5,rs5.len.trans hn,?_⟩;refine⟨ts.map some++ρ,C1,_,(rC rs5).app (s.imm k1),h1,q1,fun b H3 b' C3 q3 e h3 f3=>?_⟩;cases e;obtain⟨n3,e3⟩:=f3 D (by rw[n1]; rfl) (by rw[e1]; exact fun z=>nomatch z);rw[e1] at e3;rw[n1] at n3;have k3:=f3.imm h1
  cases b with
  |true =>
   rw[if_pos rfl] at q3 ⊢;refine⟨ts.map some++ρ,C3,_,(rC (rs5.imm k3)).app ((s.imm k1).imm k3),h3,q3,fun v H4 p C4 q4 r4 h4 f4=>?_⟩;obtain⟨n4,e4⟩:=f4 D (by rw[n3]; rfl) (by rw[e3]; exact fun z=>nomatch z);rw[e3] at e4;rw[n3] at n4;have k4:=f4.imm h3;have m4:Imm H4 (upd H4 D (.lst (ys++[v]))):=Imm.mut e4 rfl _;refine⟨e4,by rw[r1.len]; exact q4.1,ps.length - (i+1),by omega,rfl,hlt,acc++[p],C4,gQ,n4,?_,?_,?_,q4.2⟩
   .exact (((r1.imm k3).imm k4).append (.cons r4 .nil)).imm m4
   .intro a o ca
    have ne:a≠D:=fun z=>by subst z; rw[n4] at ca; cases ca
    exact(h4 a o ca).imm m4 (cQ ne)
   .intro a ca na
    have ne:a≠D:=fun z=>na (z▸hD);obtain⟨x1,x2⟩:=(f1.trans (f3.trans f4)) a ca na;exact⟨x1,(cQ ne).trans x2⟩
  |false =>
   rw[if_neg Bool.false_ne_true] at q3 ⊢;exact⟨ps.length - (i+1),by omega,rfl,hlt,acc,C3,e3,n3,r1.imm k3,h3,f1.trans f3,q3⟩
 .have e:i=ps.length:=by omega
  subst e;rw[List.drop_length] at q1;refine .inl ⟨j.st H1 k1,f (.ref D) H1 (.ref D) _ (q1 D n1) (.ref D) ?_ ?_⟩
  .intro a o ca
   by_cases z:a=D
   .subst z; rw[jQ] at ca; cases ca; exact⟨ys,e1,r1⟩
   .rw [wQ z] at ca; exact h1 a o ca
  .intro a ca na
   obtain⟨x1,x2⟩:=f0 a ca na;have na':H a≠none:=by rw[x2]; exact na
   have ne:a≠D:=fun z=>na' (z▸hD);obtain⟨y1,y2⟩:=f1 a (by rw[x1]; exact ca) na';exact⟨(wQ ne).trans (y1.trans x1),y2.trans x2⟩
section
variable {X:Cx}{pos:Pos}
def Qh (n:Nat)(ci:CSt->CH->(List PV->CH->Prop)->Prop)(t:TCT)(c:TCE):TCE:=fun ρ C Q=>ci ρ C fun ps C1=>dU n t c ρ Q ps [] C1
theorem qI {n:Nat}{wi:TI}{tg it:Expr}{ci:CSt->CH->(List PV->CH->Prop)->Prop}{t:TCT}{c:TCE}(hi:CI X tg it wi ci){σ:St}{H:Hp}{Q:VK}(h:iZ X.K (Rep X.K) (Qh n ci t c) σ H Q):ZH X.K n wi (iZ X.K eM t) (iZ X.K (Rep X.K) c) σ H Q:=by
 obtain⟨ρ,C,R,s,h,q,f⟩:=h;exact hi.w σ H ρ C _ _ s h q fun J H' ps C' q' j h' f' D hD=>KH j (s.imm (f'.imm h)) h' q' h f' f hD
def GOk (K:PySem.W.Frag)(n:Nat)(g:TG):Prop:=∀(ws:St) (vs:List V) (a:Addr) (σ:St) (H:Hp) (Q:St->Hp->Prop),ws.length=n->SqT K H a vs->vs.length=n->Q (vs.map some++σ) H->g (.ref a) (ws++σ) H Q
theorem KR {elt iter tg:Expr}{xs:List Str}{ifs:List Expr}{scope:Scope}{wi:TI}{ci:CSt->CH->(List PV->CH->Prop)->Prop}{t:TCT}{c:TCE}{g:TG}
  (hc:X.calm=true) (K:∃cl,rV X xs scope cl) (hg:∀cl fp C s₂ H₂,rV X xs scope cl->PG (cxN X xs scope cl fp C s₂ H₂) tg g) (hG:GOk X.K xs.length g) (hi:CI X tg iter wi ci)
  (ht:∀cl fp C s₂ H₂,CF (cxN X xs scope cl fp C s₂ H₂) ifs t) (he:∀cl fp C s₂ H₂,CE (cxN X xs scope cl fp C s₂ H₂) elt c)
  (hs:∀v,foldedSetIterable iter X.env v=pure v:=by intro _; rfl):CE X (.ListComp elt [⟨tg,iter,ifs,0⟩] scope pos) (Qh xs.length ci t c):=by
 obtain⟨cl,K⟩:=K;exact⟨JE.weak ⟨Jf (pos:=pos) hc K (fun fp C s₂ H₂=>hg cl fp C s₂ H₂ K) hG hi.j.h (fun fp C s₂ H₂=>(ht cl fp C s₂ H₂).h.h) (fun fp C s₂ H₂=>(he cl fp C s₂ H₂).h.h) hs⟩ fun _ _ _ h=>qI hi h⟩
abbrev g2 (K:PySem.W.Frag):TG:=gTup K 2 (uP (vY 0) (uP (vY 1) gNil))
abbrev g3 (K:PySem.W.Frag):TG:=gTup K 3 (uP (vY 0) (uP (vY 1) (uP (vY 2) gNil)))
theorem gok2 {K:PySem.W.Frag}:GOk K 2 (g2 K):=by
 intro ws vs a σ H Q h1 h2 h3 q
 obtain⟨w0,w1,rfl⟩:∃w0 w1,ws=[w0,w1]:=by
  match ws,h1 with
  |[w0,w1],_=>exact⟨w0,w1,rfl⟩
 match vs,h3 with
 |[v0,v1],_=>exact⟨a,[v0,v1],rfl,h2,rfl,v0,[v1],rfl,v1,[],rfl,rfl,q⟩
theorem pg2 {x y:Str}{scope:Scope}{cl:List (Str×Addr)}{fp:List Addr}{C:Addr}{s₂:Shared}{H₂:Hp}{p1 p2 p:Pos}{k:Nat}(hc:X.calm=true)(hN:(x::y::X.N).Nodup)(K:rV X [x,y] scope cl):
  PG (cxN X [x,y] scope cl fp C s₂ H₂) (.Tuple [.Name x p1,.Name y p2] k p) (g2 X.K) :=
 have l1:=lookup_relabel_local (env:=X.env) (K.hx x (by simp));have l2:=lookup_relabel_local (env:=X.env) (K.hx y (by simp))
 Z7 (X:=cxN X [x,y] scope cl fp C s₂ H₂) hc (nL (qM (i:=0) hN rfl (.inl l1) (.inr l1)) (nL (qM (i:=1) hN rfl (.inl l2) (.inr l2)) QE))
theorem KW {elt iter:Expr}{x y:Str}{ifs:List Expr}{scope:Scope}{wi:TI}{ci:CSt->CH->(List PV->CH->Prop)->Prop}{t:TCT}{c:TCE}{p1 p2 p:Pos}{k:Nat}
  (hc:X.calm=true) (hN:(x::y::X.N).Nodup) (K:∃cl,rV X [x,y] scope cl) (hi:CI X (.Tuple [.Name x p1,.Name y p2] k p) iter wi ci)
  (ht:∀cl fp C s₂ H₂,CF (cxN X [x,y] scope cl fp C s₂ H₂) ifs t) (he:∀cl fp C s₂ H₂,CE (cxN X [x,y] scope cl fp C s₂ H₂) elt c)
  (hs:∀v,foldedSetIterable iter X.env v=pure v:=by intro _; rfl):CE X (.ListComp elt [⟨.Tuple [.Name x p1,.Name y p2] k p,iter,ifs,0⟩] scope pos) (Qh 2 ci t c) :=
 KR (xs:=[x,y]) hc K (fun _ _ _ _ _ K'=>pg2 hc hN K') gok2 hi ht he hs
end
end CL
namespace L2
open PySem PySem.W PySem.Spec PyProof.Rows
abbrev lX:=List (List Key)
abbrev KPt (H:Hp):List (lX×V)->List (lX×Addr×Value)->Prop:=Paired fun p q=>p.1=q.1/\PKey H p.1 q.2.1/\RelV p.2 q.2.2
theorem KPt.val {H:Hp}{kvs:List (lX×V)}{xs:List (lX×Addr×Value)}(r:KPt H kvs xs)(k:lX):RelO (oW kvs k) ((atKey xs k).map (·.2)):=by
 induction r with
 |nil=>exact True.intro
 |@cons p q ps qs h t ih =>
  obtain⟨h1,_,h2⟩:=h
  by_cases e:p.1=k
  .have b:atKey (q::qs) k=some q.2:=by simp[atKey,List.find?_cons,h1.symm.trans e]
   rw[cB e,b]; exact h2
  .have b:atKey (q::qs) k=atKey qs k:=by
    have e':¬ q.1=k:=fun z=>e (h1.trans z)
    simp[atKey,List.find?_cons,e']
   rw[lB e,b]; exact ih
theorem KPt.repl {H:Hp}{kvs:List (lX×V)}{xs:List (lX×Addr×Value)}(r:KPt H kvs xs)(k:lX){y:V}{u:Value}(ry:RelV y u):
  KPt H (kvs.map fun kv=>if kv.1=k then (kv.1,y) else kv) (xs.map (putAt k u)):=by
 induction r with
 |nil=>exact .nil
 |@cons p q ps qs h t ih =>
  rw[List.map_cons,List.map_cons];refine .cons ?_ ih;obtain⟨h1,h2,h3⟩:=h;unfold putAt
  by_cases e:p.1=k
  .rw [if_pos e,if_pos (h1.symm.trans e)]; exact⟨h1,h2,ry⟩
  .rw [if_neg e,if_neg (fun z=>e (h1.trans z))]; exact⟨h1,h2,h3⟩
theorem KPt.put {H:Hp}{kvs:List (lX×V)}{xs:List (lX×Addr×Value)}(r:KPt H kvs xs)(k:lX){b:Addr}{y:V}{u:Value}(hb:PKey H k b)(ry:RelV y u):
  KPt H (bK kvs k y) (storedH xs k b u):=by
 have e:(kvs.any fun kv=>decide (kv.1=k))=(atKey xs k).isSome:=by
  rw[uL,(r.val k).isSome_eq,Option.isSome_map]
 unfold bK storedH;rw[e]
 by_cases q:(atKey xs k).isSome=true
 .rw [if_pos q,if_pos q]; exact r.repl k ry
 .rw [if_neg q,if_neg q]; exact Paired.snoc r ⟨rfl,hb,ry⟩
theorem KPt.keeps {H H':Hp}{kvs:List (lX×V)}{xs:List (lX×Addr×Value)}(r:KPt H kvs xs)(ht:∀b ys,H b=some (.tup ys)->H' b=some (.tup ys)):KPt H' kvs xs :=
 Paired.mapP r fun _ _ z=>⟨z.1,z.2.1.mono ht,z.2.2⟩
section
variable {P:Program}{w:World}{H:Hp}{h:Heap}{a:Addr}
theorem dO (ok:HOk P w H h):∀{kss:List (List Key)}{bs:List Addr}{its:List Value},Paired (fun(ks:List Key) (c:Addr)=>H c=some (.tup (ks.map kV))) kss bs->Vals (bs.map V.ref) its->ItemsTup (oQ P w) h kss its
 |_,_,_,.nil,r=>by cases r; exact .nil
 |_,_,_,.cons (b:=c) e t,r=>by
  cases r with
  |cons r1 r2 =>
   cases r1;exact .cons (jB ok e) (dO ok t r2)
theorem dD {kss:lX}(ok:HOk P w H h)(e:PKey H kss a):(yG (oQ P w)).is h kss a:=by
 obtain⟨bs,e1,pr⟩:=e;obtain⟨_,its,r,o,h1,h2,⟨n,h3⟩,_⟩:=(show ObjOk P w H h a (.tup (bs.map V.ref)) from ok a _ e1);exact⟨o,its.toArray,n,h1,h2,h3,by rw[List.toList_toArray]; exact dO ok pr r⟩
theorem QY {kvs:List (lX×V)}(ok:HOk P w H h)(e:H a=some (.dP kvs)):kvs.length<=sizeLine/\(a==sysModules)=false /\
  ∃xs,KPt H kvs xs/\h.DictOfH (yG (oQ P w)) a xs:=by
 obtain⟨z,y,xs,r,o,es,ep,h1,h2,h3,h4,h5⟩:=(show ObjOk P w H h a (.dP kvs) from ok a _ e);refine⟨z,y,xs,r,o,es,ep,h1,h2,h3,h4,fun x hx=>?_,h5⟩
 have all:∀{l:List (lX×V)} {m:List (lX×Addr×Value)},KPt H l m->∀x∈m,(yG (oQ P w)).is h x.1 x.2.1:=by
  intro l m q
  induction q with
  |nil=>intro x hx; exact nomatch hx
  |@cons p q ps qs hq t ih =>
   intro x hx
   rcases List.mem_cons.mp hx with e | hx
   .subst e
    exact dD ok (by rw[<- hq.1]; exact hq.2.1)
   .exact ih x hx
 exact all r x hx
end
def Ve (H:Hp)(a:Addr)(y:V)(r:Option V):Prop:=∃kvs k b,H a=some (.dP kvs)/\y=.ref b/\PKey H k b/\r=oW kvs k
def QPut (H:Hp)(a:Addr)(y v:V)(H':Hp):Prop:=∃kvs k b,H a=some (.dP kvs)/\y=.ref b/\PKey H k b/\kvs.length < sizeLine/\H'=upd H a (.dP (bK kvs k v))
section
variable {X:Cx}{pins:List (Addr×Obj)}{σ:St}{H:Hp}{s:Shared}{a:Addr}{y v:V}{u r:Value}{o:Option V}{A:Around}{E:Value->Shared->Prop}
theorem XF {Q:Value->Shared->Prop}(hu:A.units+2 < cLine)(I:Inv X pins σ H s)(g:Ve H a y (some v))(ry:RelV y u)(h:∀w' s',Inv X pins σ H s'->RelV v w'->Q w' s'):
  wpAny (model X.prog X.w) A (getItem (.ref a) u) Q E s:=by
 obtain⟨kvs,k,b,e,ey,eb,l⟩:=g;subst ey;cases (show u=Value.ref b from ry);obtain⟨z,hd,xs,rel,dd⟩:=QY I.hok e;obtain⟨w',hw,rw'⟩:=RelO.some_of (v:=v) (o:=(atKey xs k).map (·.2)) (by rw[l]; exact rel.val k);obtain⟨p,hp,hp2⟩:=Option.map_eq_some_iff.mp hw;refine wpAny_getItem_heap (tJ hu) (dD I.hok eb) dd hp ?_;rw[hp2];exact h w' _ (I.tok _) rw'
theorem p_in {Q:Value->Shared->Prop}(hu:A.units+2 < cLine)(I:Inv X pins σ H s)(g:Ve H a y o)(ry:RelV y u)(h:∀s',Inv X pins σ H s'->Q (.bool o.isSome) s'):
  wpAny (model X.prog X.w) A (compareOp .In u (.ref a)) Q E s:=by
 obtain⟨kvs,k,b,e,ey,eb,l⟩:=g;subst ey;cases (show u=Value.ref b from ry);obtain⟨z,hd,xs,rel,dd⟩:=QY I.hok e;refine wpAny_in_heap (tJ hu) (dD I.hok eb) hd dd ?_;have q:=(rel.val k).isSome_eq;rw[Option.isSome_map] at q;rw[<- q,<- l];exact h _ (I.tok _)
theorem XE {H':Hp}{Q:Unit->Shared->Prop}(hu:A.units+2 < cLine)(I:Inv X pins σ H s)(g:QPut H a y v H')(ry:RelV y u)(rv:RelV v r)(h:∀s',Inv X pins σ H' s'->Q () s'):
  wpAny (model X.prog X.w) A (setItem (.ref a) u r) Q E s:=by
 obtain⟨kvs,k,b,e,ey,eb,l,eH⟩:=g;subst ey eH;cases (show u=Value.ref b from ry);obtain⟨z,hd,xs,rel,dd⟩:=QY I.hok e;have hz:xs.length<=sizeLine:=by rw[<- Paired.length rel]; exact z
 have hl:(bK kvs k v).length<=sizeLine:=by have:=wW kvs k v; omega
 refine wpAny_setItem_heap (hsz:=hz) (tJ hu) (dD I.hok eb) dd fun h' dd' hs=>h _ ?_;obtain⟨q,es,ep,hq,h2,h3,h4,_,h5⟩:=dd';refine nD I (by rw[e]; exact True.intro) hs ⟨q,hq⟩ ⟨hl,hd,_,(rel.put k eb rv).keeps fun c ys ec=>?_,q,es,ep,hq,h2,h3,h4,h5⟩;rw[cQ (JC ec e (fun z=>nomatch z))];exact ec
theorem dp_type {kvs:List (lX×V)}(I:Inv X pins σ H s)(e:H a=some (.dP kvs)):s.TypeIs (.ref a) "dict":=by
 obtain⟨_,_,xs,_,dd⟩:=QY I.hok e;exact dd.typeIs
end
section
variable {X:Cx}{o i e value:Expr}{pos pos':Pos}{td ty tv:TE}
def tPGet (td ty:TE):TE:=fun σ H Q=>td σ H fun x H1=>ty σ H1 fun y H2=>∃a v,x=.ref a/\Ve H2 a y (some v)/\Q v H2
def sPPut (td ty tv:TE):TS:=fun D σ H=>tv σ H fun v H1=>td σ H1 fun x H2=>ty σ H2 fun y H3=>∃a H4,x=.ref a/\QPut H3 a y v H4/\D.nx σ H4
theorem pe_pget (hu:X.A.units+2 < cLine)(ho:PE X o td)(hi:PE X i ty)(hs:Qm i):PE X (.Subscript o i pos) (tPGet td ty):=by
 intro pins s σ H Q I h;refine Qx PySem.F.slot_dict_getitem.lookup hs (thn (ho pins s σ H _ I h) fun u s1 ⟨x,H1,I1,rx,q1⟩=>thn (hi pins s1 σ H1 _ I1 q1) fun iv s2 ⟨y,H2,I2,ry,a,v,ex,g,q2⟩=>?_);subst ex;obtain rfl:u=Value.ref a:=rx;exact⟨let ⟨_,_,_,e,_⟩:=g; dp_type I2 e,XF hu I2 g ry fun w' s3 I3 rw'=>⟨v,H2,I3,rw',q2⟩⟩
theorem op_pin (hu:X.A.units+2 < cLine):OpR X (compareOp .In) (fun y x H Q=>∃a o,x=.ref a/\Ve H a y o/\Q (.bl o.isSome) H):=by
 intro pins s σ H y x v u Q I ry rx h;obtain⟨a,o,rfl,g,q⟩:=h;cases (show u=Value.ref a from rx);exact p_in hu I g ry fun s3 I3=>⟨.bl o.isSome,H,I3,rfl,q⟩
theorem ps_pput (hu:X.A.units+2 < cLine)(ho:PE X o td)(hi:PE X i ty)(hv:PE X value tv)(hs:swapsWith value (some (.Subscript o i pos')) pos.line X.env=pure false):
  PS X (.Assign [.Subscript o i pos'] value pos) (sPPut td ty tv):=by
 intro pins s σ H D I h;refine wpAny_Assign_Subscript (thn (hv pins s σ H _ I h) fun r s1 ⟨v,H1,I1,rv,q1⟩=>thn (ho pins s1 σ H1 _ I1 q1) fun u s2 ⟨x,H2,I2,rx,q2⟩=>thn (hi pins s2 σ H2 _ I2 q2) fun iv s3 ⟨y,H3,I3,ry,a,H4,ex,g,q3⟩=>?_) hs;subst ex;obtain rfl:u=Value.ref a:=rx;exact XE hu I3 g ry rv fun s4 I4=>⟨σ,H4,I4,q3⟩
def tPNew:TE:=fun _ H Q=>∀p,H p=none->Q (.ref p) (upd H p (.dP []))
theorem Kx {P:Program}{w:World}{H:Hp}(h:Heap)(hb:sysModules < h.objs.size):ObjOk P w H (h.push { cls:=.type "dict",data:=.dict #[] }) h.objs.size (.dP []):=by
 obtain⟨z,y,xs,r,rest⟩:=(show ObjOk P w H (h.push { cls:=.type "dict",data:=.dict #[] }) h.objs.size (.dT []) from iO h hb);obtain⟨o,es,ep,h1,h2,h3,h4,h5⟩:=rest;cases r;exact⟨z,y,[],.nil,o,es,ep,h1,h2,h3,h4,List.nodup_nil⟩
theorem pe_pnew:PE X (.Dict [] [] pos) tPNew:=by
 intro pins s σ H Q I h;exact wpAny_Dict_empty ⟨.ref s.heap.objs.size,_,I.laid (a:=s.heap.objs.size) (o:=.dP []) (t':=s.toks) (fun _ _ q=>Heap.get?_push_of_some _ q) (Nat.le_refl _) (Kx s.heap I.big),rfl,h _ (I.hok.fresh (Nat.le_refl _))⟩
end
end L2
namespace CL
open PySem PySem.Spec L2 PySem.W
open PyProof.Rows hiding St
section
variable {X:Cx}{a b c e o i f value:Expr}{es:List Expr}{pos pos':Pos}
@[irreducible] def cInt:GC:=fun ts C Q=>match ts with
 |[.bl b]=>Q (.int (if b then 1 else 0)) C
 |[.int i]=>Q (.int i) C
 |_=>False
theorem aD {K:PySem.W.Frag}:Cbi K (fun xs H Q=>(∃i,xs=[.int i]/\Q (.int i) H)\/∃k,xs=[.bl k]/\Q (.int (if k then 1 else 0)) H) cInt:=fun xs ts H C Q R rs h q f=>by
 unfold cInt at q
 split at q
 .obtain ⟨v,rfl,r⟩:=sX rs
  cases r;exact .inr ⟨_,rfl,f _ H _ C q (.int _) h Fw.refl⟩
 .obtain ⟨v,rfl,r⟩:=sX rs
  cases r;exact .inl ⟨_,rfl,f _ H _ C q (.int _) h Fw.refl⟩
 .exact q.elim
@[irreducible] def cCatT:R2C:=fun x y C Q=>match x,y with
 |.tup xs,.tup ys=>xs.length+ys.length<=sizeLine/\Q (.tup (xs++ys)) C
 |_,_=>False
@[irreducible] def zL:PV->List PV->CH->K1->Prop:=fun x ts C Q=>match x,ts with
 |.ref a,[.ref b]=>match C a,C b with
  |some (.lst xs),some (.lst ys)=>xs.length+ys.length<=sizeLine/\Q .non (yQ C a (.lst (xs++ys)))
  |_,_=>False
 |_,_=>False
theorem aI {K:PySem.W.Frag}:Cmt K QA zL:=fun x px xs ps H C Q R rx rs h q f=>by
 unfold zL at q
 split at q
 .split at q
  .next ys zs e1 e2 =>
   obtain⟨vs,ev,rv⟩:=h _ _ e1;obtain⟨ws,ew,rw'⟩:=h _ _ e2;obtain⟨v,rfl,r⟩:=sX rs;cases rx; cases r
   exact⟨_,_,vs,ws,rfl,rfl,ev,ew,by rw[rv.len,rw'.len]; exact q.1,f _ _ _ _ q.2 .non (h.put ev rfl ⟨_,gQ,(rv.append rw').imm (Imm.mut ev rfl _)⟩) (Fw.put e1 _ _)⟩
  .exact q.elim
 .exact q.elim
def cBM0 (cr:PV->List PV->CH->K1->Prop)(co:TCE):TCE:=fun ρ C Q=>co ρ C fun x C1=>isL x C1/\cr x [] C1 Q
theorem KY {name:Str}{id:String}{apos cpos:Pos}{r:V->List V->Hp->VK->Prop}{cr:PV->List PV->CH->K1->Prop}{co:TCE}(pa:PlainAttrs "list")(slot:Slot "list" name id)(hty:typeOf (.builtin id)=pure (.type "method_descriptor"))(hm:MtR X id r)(hr:Cmt X.K r cr)(ho:CE X o co)
  (hbase:attributeBase o name X.env (eval o X.env)=eval o X.env:=by rfl) (hline:(apos.endLine==cpos.line)=true:=by rfl):CE X (.Call (.Attribute o name apos) [] [] cpos) (cBM0 cr co):=⟨JE.weak (wI pa slot hty hm ho.h hbase hline) fun σ H Q ⟨ρ,C,R,s,h,q,f⟩ =>
 ⟨ρ,C,_,s,h,q,fun x H1 px C1 q1 rx h1 f1=>⟨Kb q1.1 rx h1,hr x px [] [] H1 C1 Q R rx .nil h1 q1.2 fun v H' t C' q' r' h' f'=>f v H' t C' q' r' h' (f1.trans f')⟩⟩⟩
@[irreducible] def fM:PV->List PV->CH->K1->Prop:=fun x ts C Q=>match x,ts with
 |.ref a,[]=>match C a with
  |some (.lst xs)=>Q .non (yQ C a (.lst xs.reverse))
  |_=>False
 |_,_=>False
theorem wE {K:PySem.W.Frag}:Cmt K vT fM:=fun x px xs ps H C Q R rx rs h q f=>by
 unfold fM at q
 split at q
 .split at q
  .next ys e1 =>
   obtain⟨vs,ev,rv⟩:=h _ _ e1;cases rs;cases rx;exact⟨_,vs,rfl,rfl,ev,f _ _ _ _ q .non (h.put ev rfl ⟨_,gQ,rv.reverse.imm (Imm.mut ev rfl _)⟩) (Fw.put e1 _ _)⟩
  .exact q.elim
 .exact q.elim
@[irreducible] def cClear:PV->List PV->CH->K1->Prop:=fun x ts C Q=>match x,ts with
 |.ref a,[]=>match C a with
  |some (.lst xs)=>Q .non (yQ C a (.lst []))
  |_=>False
 |_,_=>False
@[irreducible] def cSlT:PV->Option Int->Option Int->CH->K1->Prop:=fun x lo hi C Q=>match x with
 |.tup xs=>¬ (HT.sIx xs.length 0 lo=0/\HT.sIx xs.length xs.length hi=xs.length)/\Q (.tup (vV xs lo hi)) C
 |_=>False
theorem ce_slT {lo hi:Option Expr}{ce:TCE}{cl ch:TCO}{p2:Pos}(he:CE X e ce)(hl:CPt X lo cl)(hu:CPt X hi ch):CE X (.Subscript e (.Slice lo hi none p2) pos) (cSl cSlT ce cl ch):=⟨JE.weak (fO sl_tup he.h hl.h hu.h) fun σ H Q ⟨ρ,C,R,s,h,q,f⟩ =>
 ⟨ρ,C,_,s,h,q,fun x H1 px C1 q1 rx h1 f1=>⟨ρ,C1,_,s.imm (f1.imm h),h1,q1,fun l H2 l' C2 q2 e2 h2 f2=>⟨ρ,C2,_,(s.imm (f1.imm h)).imm (f2.imm h1),h2,q2,fun u H3 u' C3 q3 e3 h3 f3=>by
  cases e2; cases e3
  unfold cSlT at q3
  split at q3
  .have rx3:=rx.imm ((f2.trans f3).imm h1)
   cases rx3 with
   |@tup a vs ts e r =>
    exact⟨a,vs,rfl,SqT.of e,by rw[r.len]; exact q3.1,fun p hp=>f _ _ _ C3 q3.2 (.tup gQ ((r.cut l u).imm (Imm.new hp _))) (h3.new hp _) (f1.trans (f2.trans (f3.trans (Fw.new hp _))))⟩
  .exact q3.elim⟩⟩⟩⟩
def uN:List PV->Option lX
 |[]=>some []
 |t::r=>match sB t,uN r with
  |some k,some ks=>some (k::ks)
  |_,_=>none
def mT:PV->Option lX
 |.tup ts=>uN ts
 |_=>none
theorem XB {K:PySem.W.Frag}{H:Hp}{vs:List V}{ts:List PV}{kss:lX}(r:Reps K H vs ts)(e:uN ts=some kss):∃bs:List Addr,vs=bs.map V.ref/\Paired (fun(ks:List Key) (c:Addr)=>H c=some (.tup (ks.map kV))) kss bs:=by
 induction ts generalizing vs kss with
 |nil=>cases r; cases e; exact⟨[],rfl,.nil⟩
 |cons t ts ih =>
  cases r with
  |cons h r =>
   unfold uN at e
   split at e
   .next k ks e1 e2 =>
    cases e;obtain⟨b,rfl,eb⟩:=nB h e1;obtain⟨bs,rfl,p⟩:=ih r e2;exact⟨b::bs,rfl,.cons eb p⟩
   .cases e
theorem lL {K:PySem.W.Frag}{H:Hp}{v:V}{t:PV}{kss:lX}(r:Rep K H v t)(e:mT t=some kss):∃b,v=.ref b/\PKey H kss b:=by
 cases r<;>try (cases e)
 next a vs ts h r =>
  obtain⟨bs,rfl,p⟩:=XB r e;exact⟨a,rfl,bs,h,p⟩
def cPNew:TCE:=fun _ C Q=>∀p,C p=none->Q (.ref p) (yQ C p (.dP []))
theorem Xa:CE X (.Dict [] [] pos) cPNew:=⟨JE.weak ⟨pe_pnew⟩ fun σ H Q ⟨ρ,C,R,s,h,q,f⟩=>fun p hp=>f (.ref p) _ (.ref p) _ (q p (h.fresh hp)) (.ref p) (h.lay hp ⟨[],gQ,.nil⟩) (Fw.lay hp _ _)⟩
@[irreducible] def cPIx:R2C:=fun x y C Q=>match x with
 |.ref a=>match C a,mT y with
  |some (.dP kvs),some k=>match iK kvs k with
   |some v=>Q v C
   |none=>False
  |_,_=>False
 |_=>False
theorem KM {co ci:TCE}(hu:X.A.units+2 < cLine)(ho:CE X o co)(hi:CE X i ci)(hs:Qm i):CE X (.Subscript o i pos) (cOp cPIx co ci):=⟨JE.weak ⟨pe_pget hu ho.h.h hi.h.h hs⟩ fun σ H Q ⟨ρ,C,R,s,h,q,f⟩ =>
 ⟨ρ,C,_,s,h,q,fun x H1 px C1 q1 rx h1 f1=>⟨ρ,C1,_,s.imm (f1.imm h),h1,q1,fun y H2 py C2 q2 ry h2 f2=>by
  unfold cPIx at q2
  split at q2
  .next a =>
   split at q2
   .next kvs k e1 e2 =>
    split at q2
    .next t e3 =>
     have rx2:=rx.imm (f2.imm h1);cases rx2;obtain⟨vs,ev,r⟩:=h2 a _ e1;obtain⟨b,rfl,eb⟩:=lL ry e2
     rcases FP.val r k with ⟨v,t',l1,l2,rv⟩ | ⟨_,l2⟩
     .rw [e3] at l2
      cases l2;exact⟨a,v,rfl,⟨vs,k,b,ev,rfl,eb,l1.symm⟩,f v H2 t C2 q2 rv h2 (f1.trans f2)⟩
     .rw [e3] at l2; cases l2
    .exact q2.elim
   .exact q2.elim
  .exact q2.elim⟩⟩⟩
@[irreducible] def cPIn:R2C:=fun y x C Q=>match x with
 |.ref a=>match C a,mT y with
  |some (.dP kvs),some k=>Q (.bl (iK kvs k).isSome) C
  |_,_=>False
 |_=>False
theorem cop_pin {K:PySem.W.Frag}:Cop K (fun y x H Q=>∃a o,x=.ref a/\Ve H a y o/\Q (.bl o.isSome) H) cPIn:=fun y x py px H C Q R ry rx h q f=>by
 unfold cPIn at q
 split at q
 .next a =>
  split at q
  .next kvs k e1 e2 =>
   cases rx;obtain⟨vs,ev,r⟩:=h a _ e1;obtain⟨b,rfl,eb⟩:=lL ry e2;refine⟨a,oW vs k,rfl,⟨vs,k,b,ev,rfl,eb,rfl⟩,?_⟩
   rcases FP.val r k with ⟨v,t',l1,l2,rv⟩ | ⟨l1,l2⟩
   .rw [l2] at q; rw[l1]; exact f _ H _ C q (.bl _) h Fw.refl
   .rw [l2] at q; rw[l1]; exact f _ H _ C q (.bl _) h Fw.refl
  .exact q.elim
 .exact q.elim
@[irreducible] def Xh:PV->PV->PV->CH->(CH->Prop)->Prop:=fun x y v C Q=>match x with
 |.ref a=>match C a,mT y with
  |some (.dP kvs),some k=>kvs.length < sizeLine/\Q (yQ C a (.dP (putG kvs k v)))
  |_,_=>False
 |_=>False
def cPPut (co ck cv:TCE):TCS:=fun E ρ C=>cv ρ C fun v C1=>co ρ C1 fun x C2=>ck ρ C2 fun y C3=>Xh x y v C3 fun C4=>E.nx ρ C4
theorem Q6 {co ck cv:TCE}(hu:X.A.units+2 < cLine)(ho:CE X o co)(hi:CE X i ck)(hv:CE X value cv)(hs:swapsWith value (some (.Subscript o i pos')) pos.line X.env=pure false:=by rfl):
  CS X (.Assign [.Subscript o i pos'] value pos) (cPPut co ck cv):=⟨JS.weak ⟨ps_pput hu ho.h.h hi.h.h hv.h.h hs⟩ fun D σ H ⟨ρ,C,E,s,h,q,f⟩ =>
 ⟨ρ,C,_,s,h,q,fun v H1 pv C1 q1 rv h1 f1=>⟨ρ,C1,_,s.imm (f1.imm h),h1,q1,fun x H2 px C2 q2 rx h2 f2=>⟨ρ,C2,_,(s.imm (f1.imm h)).imm (f2.imm h1),h2,q2,fun y H3 py C3 q3 ry h3 f3=>by
  have s3:=((s.imm (f1.imm h)).imm (f2.imm h1)).imm (f3.imm h2);have rv3:=rv.imm ((f2.trans f3).imm h1);unfold Xh at q3
  split at q3
  .next a =>
   split at q3
   .next kvs k e1 e2 =>
    have rx3:=rx.imm (f3.imm h2);cases rx3;obtain⟨vs,ev,r⟩:=h3 a _ e1;obtain⟨b,rfl,eb⟩:=lL ry e2;have hl:vs.length=kvs.length:=Paired.length r;have m:Imm H3 (upd H3 a (.dP (bK vs k v))):=Imm.mut ev rfl _;refine⟨a,_,rfl,⟨vs,k,b,ev,rfl,eb,by rw[hl]; exact q3.1,rfl⟩,f.nx σ _ ρ _ q3.2 (s3.imm m) (h3.put ev rfl ⟨_,gQ,Paired.mapP (FP.putG r k rv3) fun _ _ z=>⟨z.1,z.2.imm m⟩⟩) (f1.trans (f2.trans (f3.trans (Fw.put e1 _ _))))⟩
   .exact q3.elim
  .exact q3.elim⟩⟩⟩⟩
end
inductive Pl:Nat->PV->Prop
 |non {d:Nat}:Pl d .non
 |bl {d:Nat} (b:Bool):Pl d (.bl b)
 |int {d:Nat} (i:Int):Pl d (.int i)
 |str {d:Nat} (x:Str):Pl d (.str x)
 |tup {d:Nat} {ts:List PV} (h:∀t∈ts,Pl d t):Pl (d+1) (.tup ts)
section
variable {X:Cx}{pins:List (Addr×Obj)}{σ:St}{H:Hp}{s:Shared}
theorem kP {d:Nat}{ts:List PV}(ih:∀t∈ts,∀{A:Around}{v v':V}{u u':Value},Rep X.K H v t->Rep X.K H v' t->RelV v u->RelV v' u'->A.units+d < cLine->SeqAt.EqAt A s u u' true){A:Around}(hu:A.units+d < cLine){vs ws:List V}{its its2:List Value}(r1:Reps X.K H vs ts)(r2:Reps X.K H ws ts)(v1:Vals vs its)(v2:Vals ws its2):
  its.length=its2.length/\∀j (h1:j < its.toArray.size) (h2:j < its2.toArray.size),SeqAt.EqAt A s its.toArray[j] its2.toArray[j] true:=by
 induction ts generalizing vs ws its its2 with
 |nil =>
  cases r1; cases r2; cases v1; cases v2
  exact⟨rfl,fun j h1=>absurd h1 (by simp)⟩
 |cons t ts iht =>
  cases r1 with
  |cons a1 r1 =>
   cases r2 with
   |cons a2 r2 =>
    cases v1 with
    |cons b1 v1 =>
     cases v2 with
     |cons b2 v2 =>
      obtain⟨l,k⟩:=iht (fun t' m=>ih t' (List.mem_cons_of_mem _ m)) r1 r2 v1 v2;refine⟨by rw[List.length_cons,List.length_cons,l],fun j h1 h2=>?_⟩
      cases j with
      |zero=>exact ih t List.mem_cons_self a1 a2 b1 b2 hu
      |succ j =>
       have:=k j (by simpa using h1) (by simpa using h2)
       simpa using this
theorem eq_deep (I:Inv X pins σ H s){d:Nat}{t:PV}(p:Pl d t):∀{A:Around}{v v':V}{u u':Value},Rep X.K H v t->Rep X.K H v' t->RelV v u->RelV v' u'->A.units+d < cLine->SeqAt.EqAt A s u u' true:=by
 induction p with
 |non =>
  intro A v v' u u' r r' e e' hu;cases r; cases r'
  cases (show u=Value.none from e); cases (show u'=Value.none from e')
  exact SeqAt.EqAt.same _
 |bl b =>
  intro A v v' u u' r r' e e' hu;cases r; cases r'
  cases (show u=Value.bool b from e); cases (show u'=Value.bool b from e')
  exact SeqAt.EqAt.same _
 |int i =>
  intro A v v' u u' r r' e e' hu;cases r; cases r'
  obtain⟨t1,rfl⟩:=(show ∃t,u=Value.int i t from e);obtain⟨t2,rfl⟩:=(show ∃t,u'=Value.int i t from e');have:=SeqAt.EqAt.int_int (A:=A) (s:=s) i t1 i t2;rw[beq_self_eq_true] at this;exact this
 |str x =>
  intro A v v' u u' r r' e e' hu;cases r; cases r'
  obtain⟨t1,rfl⟩:=(show ∃t,u=Value.str x t from e);obtain⟨t2,rfl⟩:=(show ∃t,u'=Value.str x t from e');have:=SeqAt.EqAt.str_str (A:=A) (s:=s) x t1 x t2;rw[beq_self_eq_true] at this;exact this
 |@tup d ts hp ih =>
  intro A v v' u u' r r' e e' hu
  cases r with
  |@tup a1 vs _ e1 r1 =>
   cases r' with
   |@tup a2 ws _ e2 r2 =>
    cases (show u=Value.ref a1 from e); cases (show u'=Value.ref a2 from e')
    by_cases hab:a1=a2
    .subst hab; exact SeqAt.EqAt.same _
    .obtain ⟨its,w1,p1,_⟩:=I.tuple (SqT.of e1)
     obtain⟨its2,w2,p2,_⟩:=I.tuple (SqT.of e2)
     have hu':A.in1.units+d < cLine:=by
      show A.units+1+d < cLine;omega
     obtain⟨hl,he⟩:=kP (A:=A.in1) (d:=d) (fun t m=>ih t m) hu' r1 r2 w1 w2;have R:=SeqAt.RcAt.tuples (A:=A) (e:=fun _=>true) p1 p2 (by omega) he;rw[show((List.range (min its.toArray.size its2.toArray.size)).all (fun _=>true)&&its.toArray.size==its2.toArray.size)=true by simp[hl]] at R;exact SeqAt.EqAt.of_refs hab R
end
section
variable {X:Cx}
abbrev rNeD (K:PySem.W.Frag)(d:Nat):R2:=fun x y H Q=>∃a b vs ws ts,x=.ref a/\y=.ref b/\H a=some (.lst vs)/\H b=some (.lst ws)/\Reps K H vs ts/\Reps K H ws ts/\(∀t∈ts,Pl d t)/\Q (.bl false) H
theorem op_neD {d:Nat}(hu:X.A.units+1+d < cLine):OpR X (compareOp .NotEq) (rNeD X.K d):=by
 intro pins s σ H x y v u Q I rx ry h;obtain⟨a,b,vs,ws,ts,rfl,rfl,ha,hb,r1,r2,hp,q⟩:=h;cases rx;cases ry;obtain⟨its,w1,p1,_⟩:=I.list (SqL.of ha);obtain⟨its2,w2,p2,_⟩:=I.list (SqL.of hb);obtain⟨hl,he⟩:=kP (A:=X.A.in1) (d:=d) (fun t m=>eq_deep I (hp t m)) (show X.A.units+1+d < cLine from hu) r1 r2 w1 w2;have R:=SeqAt.RcNeAt.lists (A:=X.A) (e:=fun _=>true) p1.isList p2.isList (by simpa using hl) (by omega) he
 rw[show(!(List.range its.toArray.size).all fun _=>true)=false by simp] at R;exact R _ _ _ _ ⟨.bl false,H,I,rfl,q⟩
@[irreducible] def cNeD (d:Nat):R2C:=fun x y C Q=>match x,y with
 |.ref a,.ref b=>match C a,C b with
  |some (.lst xs),some (.lst ys)=>xs=ys/\(∀t∈xs,Pl d t)/\Q (.bl false) C
  |_,_=>False
 |_,_=>False
theorem cop_neD {K:PySem.W.Frag}{d:Nat}:Cop K (rNeD K d) (cNeD d):=fun x y px py H C Q R rx ry h q f=>by
 unfold cNeD at q
 split at q
 .split at q
  .next xs ys e1 e2 =>
   obtain⟨rfl,hp,q⟩:=q;obtain⟨vs,ev,rv⟩:=h _ _ e1;obtain⟨ws,ew,rw'⟩:=h _ _ e2;cases rx; cases ry
   exact⟨_,_,vs,ws,xs,rfl,rfl,ev,ew,rv,rw',hp,f _ H _ C q (.bl _) h Fw.refl⟩
  .exact q.elim
 .exact q.elim
def strsP:List PV->Option (List Str)
 |[]=>some []
 |.str x::r=>(strsP r).map (x :: ·)
 |_=>none
def tiOf:List PV->Option (List (List Str×Int))
 |[]=>some []
 |.tup [.tup ks,.int i]::r=>match strsP ks,tiOf r with
  |some zs,some cs=>some ((zs,i)::cs)
  |_,_=>none
 |_=>none
@[irreducible] def cSortedL:GC:=fun ts C Q=>match ts with
 |[.ref a]=>match C a with
  |some (.lst xs)=>match tiOf xs with
   |some cs=>cs.length < 64/\∀p,C p=none->Q (.ref p) (yQ C p (.lst ((ordT cs).map eU)))
   |none=>False
  |_=>False
 |_=>False
end
section
variable {X:Cx}{pos:Pos}
def mK (k:List Key):PV:=.tup (k.map aV)
@[irreducible] def cCompT (ce:TCE)(t:TCT)(c:TCE):TCE:=fun ρ C Q=>ce ρ C fun x C1=>match x with
 |.ref d=>match C1 d with
  |some (.dT kvs)=>kZ t c ρ (fun v C2=>C2 d=some (.fT kvs)/\Q v (yQ C2 d (.dT kvs))) (kvs.map fun p=>mK p.1) [] (yQ C1 d (.fT kvs))
  |_=>False
 |_=>False
def tOf:Option CO->Option (List (List Key×PV))
 |some (.dT kvs)=>some kvs
 |some (.fT kvs)=>some kvs
 |_=>none
@[irreducible] def cTIy:R2C:=fun x y C Q=>match x with
 |.ref a=>match tOf (C a),sB y with
  |some kvs,some k=>match iK kvs k with
   |some v=>Q v C
   |none=>False
  |_,_=>False
 |_=>False
end
end CL
namespace PySem
section
variable {prog:Program}{w:World}{A:Around}{E:Value->Shared->Prop}{s:Shared}
theorem aA:typeLookup (.type "list_reverseiterator") "__len__" = pure none:=by rw[typeLookup_type,builtinLookup_eq_fast]; kernel_rfl
theorem JL:typeLookup (.type "list_reverseiterator") "__length_hint__" = pure (some (.builtin "list_reverseiterator.__length_hint__")):=by rw[typeLookup_type,builtinLookup_eq_fast]; kernel_rfl
theorem lI {R:Result->Shared->Prop}(hh:A.handled=none){I l:Addr}(hne:l≠I)(items:Array Value)(S:Addr)(res:Value)(c₀:Nat)(hSI:S≠I)(hSl:S≠l)(hit:s.heap.IsRevIter I l ((items.size:Int) - 1))(hl:s.heap.IsList l items)(hS:s.heap.get? S=some { cls:=.type "list",data:=.seq #[] c₀ })
  (hR:∀h' tk acc' c',(∀b o,b≠S->b≠I->s.heap.get? b=some o->h'.get? b=some o)->h'.get? S=some { cls:=.type "list",dict:=none,data:=.seq acc' c',slots:=#[] } ->
   ItemsOf (fun i v=>items[items.size - 1 - i]?=some v) acc' items.size->R (.ok (.ret res)) { s with heap:=h',toks:=tk }) (hn:items.size<=sizeLine) :
  wpAny (model prog w) A.in1 (Builtin.List.listExtendWith (.ref S) (.ref I) res)
   (fun fin s'=>match fin with | .done f=>R (.ok f) s' | .again c'=>c'.quiet=true/\codeAny (model prog w) A c' R s') (fun e s'=>R (.error e) s') s:=by
 have hSf:S∉[I,l]:=fun hm=>by
  rcases List.mem_cons.mp hm with e | e
  .exact hSI e
  .exact hSl (List.mem_singleton.mp e)
 have hT:s.TypeIs (.ref I) "list_reverseiterator":=hit.typeIs;unfold Builtin.List.listExtendWith;refine wpAny_bind (wpAny_typeOf hT ?_);have h1:Builtin.List.listSameRef (.ref S) (.ref I)=false:=by simp[Builtin.List.listSameRef,hSI]
 have h2:(Value.type "list_reverseiterator" == Value.type "list")=false:=by decide
 have h3:(Value.type "list_reverseiterator" == Value.type "tuple")=false:=by decide
 simp only[h1,h2,h3,Bool.or_false,Bool.false_eq_true,if_false]
 refine wpAny_bind (wpAny_pyIter_revIter hit ?_);refine wpAny_bind (wpAny_holding ?_);unfold Builtin.List.listLengthHint;refine wpAny_bind (wpAny_specialOf hT aA ?_);show wpAny _ A.in1 (specialOf (Value.ref I) (Str.ofString "__length_hint__") >>= _) _ _ _;refine wpAny_bind (wpAny_specialOf hT JL ?_);generalize hid:("list_reverseiterator.__length_hint__" : String)=id0
 wp_delta
 rw[show splitId id0=some ("list_reverseiterator","__length_hint__") from by subst hid; decide +kernel];subst hid;refine wpAny_bind (wpAny_isInstance (T:="list_reverseiterator") (b:=true) hT (by rw[isSubtype_type]; kernel_rfl) ?_);refine wpAny_ite_split (fun hab=>absurd hab (by decide)) (fun _=>?_);refine wpAny_ite_split (fun _=>?_) (fun hab=>absurd (by decide +kernel) hab);refine wpAny_ite_split (fun hab=>absurd hab (by decide +kernel)) (fun _=>?_)
 refine wpAny_pure ?_;rw[if_neg (by decide +kernel)];have W:=(Walks.listRev (prog:=prog) (w:=w) (A:=A.in1) hh I l hne items).toS;refine wpAny_pure ⟨plainId_quiet F.plain_extend_loop _,codeAny_extend_loopS W hn _ hSf _ items.size 0 _ _ _ rfl (Nat.zero_le _) ⟨Nat.zero_le _,by simpa using hit,hl⟩ hS (ItemsOf.nil _) fun s' acc' c' hm hS' hacc=>?_⟩;rw[Moved.eq_with hm];refine hR s'.heap s'.toks acc' c' (fun b ob hb hb2 e=>hm.heap b ob (fun hmem=>?_) e) hS' hacc
 rcases List.mem_cons.mp hmem with e' | hmem
 .exact hb e'
 .exact hb2 (List.mem_singleton.mp hmem)
theorem pH {R:Result->Shared->Prop}(hh:A.handled=none){I l:Addr}(hne:l≠I)(items:Array Value)(S:Addr)(hSI:S≠I)(hSl:S≠l)(hit:s.heap.IsRevIter I l ((items.size:Int) - 1))(hl:s.heap.IsList l items)(hS:s.heap.get? S=some { cls:=.type "list",data:=.seq #[] })
  (hR:∀h' tk acc' c',(∀b o,b≠S->b≠I->s.heap.get? b=some o->h'.get? b=some o)->h'.get? S=some { cls:=.type "list",dict:=none,data:=.seq acc' c',slots:=#[] } ->
   ItemsOf (fun i v=>items[items.size - 1 - i]?=some v) acc' items.size->R (.ok (.ret .none)) { s with heap:=h',toks:=tk }) (hn:items.size<=sizeLine) :
  wpAny (model prog w) A.in1 (Builtin.«list.__init__» ⟨[.ref S,.ref I],[]⟩)
   (fun fin s'=>match fin with | .done f=>R (.ok f) s' | .again c'=>c'.quiet=true/\codeAny (model prog w) A c' R s') (fun e s'=>R (.error e) s') s:=by
 show wpAny _ _ (do let old <- Builtin.List.listItems (.ref S); Builtin.List.listUpdate (.ref S) (fun _=>#[]); letGo old.toList.reverse; Builtin.List.listExtendWith (.ref S) (.ref I) .none) _ _ s;refine wpAny_bind ?_;unfold Builtin.List.listItems;refine wpAny_bind (wpAny_seqItems hS rfl (wpAny_pure ?_));show wpAny _ _ (updateSeq S (fun _=>#[]) >>= fun _=>letGo (#[]:Array Value).toList.reverse >>= fun _=>Builtin.List.listExtendWith (.ref S) (.ref I) .none) _ _ s
 refine wpAny_bind (wpAny_updateSeq hS rfl ?_);have hS₂:=Heap.get?_update_self (Obj.mapSeq (fun _=>(#[]:Array Value))) hS rfl
 have oth:∀b o,b≠S->s.heap.get? b=some o->(s.heap.update S (Obj.mapSeq (fun _=>(#[]:Array Value)))).get? b=some o :=
  fun b o hb e=>(Heap.get?_update_other _ _ (Ne.symm hb)).trans e
 refine wpAny_bind (wpAny_letGo ?_);refine lI (s:={ s with heap:=s.heap.update S (Obj.mapSeq (fun _=>(#[]:Array Value))) }) hh hne items S .none _ hSI hSl (hit.at fun o e=>oth I o (Ne.symm hSI) e) (hl.at fun o e=>oth l o (Ne.symm hSl) e) hS₂ (fun h' tk acc' c' hk hS' hacc=>?_) hn;exact hR h' tk acc' c' (fun b o hb hb2 e=>hk b o hb hb2 (oth b o hb e)) hS' hacc
theorem sH {Q:Value->Shared->Prop}(hh:A.handled=none){I l:Addr}(hne:l≠I)(items:Array Value)(hit:s.heap.IsRevIter I l ((items.size:Int) - 1))(hl:s.heap.IsList l items)
  (hQ:∀h' tk acc' c',(∀b o,b≠I->s.heap.get? b=some o->h'.get? b=some o)->h'.get? s.heap.objs.size=some { cls:=.type "list",dict:=none,data:=.seq acc' c',slots:=#[] } ->
   ItemsOf (fun i v=>items[items.size - 1 - i]?=some v) acc' items.size->Q (.ref s.heap.objs.size) { s with heap:=h',toks:=tk }) (hn:items.size<=sizeLine) :
  wpAny (model prog w) A (call (.type "list") [.ref I]) Q E s:=by
 have hI:I < s.heap.objs.size:=let ⟨o,ho,_⟩:=hit; Heap.lt_size ho
 have hl':l < s.heap.objs.size:=let ⟨o,ho,_⟩:=hl; Heap.lt_size ho
 refine callType_codes (Q₁:=fun obj s₁=>obj=.ref s.heap.objs.size/\s₁={ s with heap:=s.heap.push { cls:=.type "list",data:=.seq #[] } }) F.called_list (F.typeCall_list_1 _) F.entry_list_init
  (code_list_new _ ⟨rfl,rfl⟩) fun obj s₁ h₁=>?_
 obtain⟨rfl,rfl⟩:=h₁;have hS:(s.heap.push { cls:=.type "list",data:=.seq #[] }).get? s.heap.objs.size=some { cls:=.type "list",data:=.seq #[] }:=Heap.get?_push_size _ rfl;refine⟨⟨_,hS,rfl⟩,F.args_list_init_2 _ _,pH (A:=A.in1) hh hne items _ (fun e=>Nat.lt_irrefl _ (e▸hI)) (fun e=>Nat.lt_irrefl _ (e▸hl')) (hit.at fun o e=>Heap.get?_push_of_some _ e) (hl.at fun o e=>Heap.get?_push_of_some _ e) hS (fun h' tk acc' c' hk hS' hacc=>?_) hn⟩
 exact⟨rfl,hQ h' tk acc' c' (fun b o hb e=>hk b o (Nat.ne_of_lt (Heap.lt_size e)) hb (Heap.get?_push_of_some _ e)) hS' hacc⟩
end
end PySem
namespace L2
open PySem PySem.W PyProof.Rows
def drop (H:Hp)(a:Addr):Hp:=fun b=>if b=a then none else H b
theorem aN {H:Hp}{a:Addr}:drop H a a=none:=by unfold drop; rw[if_pos rfl]
theorem rD {H:Hp}{a b:Addr}(h:b≠a):drop H a b=H b:=by unfold drop; rw[if_neg h]
theorem Ku {H:Hp}{a:Addr}{o:HO}(h:H a=none):drop (upd H a o) a=H:=by
 funext b
 by_cases e:b=a
 .rw [e,aN,h]
 .rw [rD e,cQ e]
section
variable {X:Cx}{pins:List (Addr×Obj)}{σ:St}{H:Hp}{s:Shared}{h':Heap}
theorem Inv.gone {t':Nat}{it l:Addr}{φ:Heap->Prop}{o:HO}(I:Inv X pins σ H s)(hit:H it=some (.ext φ))(h0:X.s₀.heap.objs.size<=it)(k:∀b o,b≠it->s.heap.get? b=some o->h'.get? b=some o)(hp:s.heap.objs.size<=l)
  (new:ObjOk X.prog X.w (upd (drop H it) l o) h' l o):Inv X pins σ (upd (drop H it) l o) { s with heap:=h',toks:=t' }:=by
 have hl0:H l=none:=I.hok.fresh hp;have nl:∀{b u},H b=some u->b≠l:=fun e z=>by rw[z,hl0] at e; cases e
 have ne:∀{b u},H b=some u->(∀ψ,u≠.ext ψ)->b≠it:=fun e h z=>by rw[z,hit] at e; exact h φ (Option.some.inj e).symm
 have kp:∀{b u},H b=some u->(∀ψ,u≠.ext ψ)->upd (drop H it) l o b=some u:=fun e h=>by rw[cQ (nl e),rD (ne e h)]; exact e
 refine I.step (g':=s.gens) (d':=s.drawn) (ch:=[it]) (fun b hb=>?_) (fun b o _ _ hc e _=>k b o (fun z=>hc (by simp[z])) e) (fun b o _ _ hc e _=>⟨o.slots,k b o (fun z=>hc (by simp[z])) e⟩) (fun b u hc e n=>?_)
  (fun b o hc e=>⟨o,k b o (fun z=>hc (by simp[z])) e⟩) (fun b xs e=>kp e fun _ z=>nomatch z) (fun b o u e=>kp e fun _ z=>nomatch z) (fun b ps e=>⟨#[],by rw[kp e fun _ z=>nomatch z]; simp⟩) (fun m hm=>?_) (fun b u e=>?_) I.bare
 .have e:b=it:=by simpa using hb
  subst e;refine⟨.inr h0,fun z=>?_,fun x c e z=>?_,fun p hp z=>?_⟩
  .rw [z,I.free] at hit; cases hit
  .have:=I.freeC x c e; rw[z,hit] at this; cases this
  .have:=(I.pin p hp).2.1; rw[z,hit] at this; cases this
 .rw [cQ (Nat.ne_of_lt (Nat.lt_of_lt_of_le (Heap.lt_size e) hp)),rD (fun z=>hc (by simp[z]))]; exact n
 .obtain ⟨o,es,ep,ho,r⟩:=hm
  exact⟨o,es,ep,k _ o (fun z=>by have:=I.free; rw[z,hit] at this; cases this) ho,r⟩
 .by_cases hbl:b=l
  .subst hbl; rw[gQ] at e; cases e; exact new
  .rw [cQ hbl] at e
   by_cases hbi:b=it
   .rw [hbi,aN] at e; cases e
   .rw [rD hbi] at e
    refine(I.hok b u e).stay (fun c v hc q=>k c v ?_ q) (fun c q=>kp q fun _ z=>nomatch z) fun c xs q=>kp q fun _ z=>nomatch z
    rcases hc with z | z
    .rw [z]; exact hbi
    .exact ne z fun _ z=>nomatch z
end
section
variable {X:Cx}
abbrev QO (z:Nat)(it p:Addr)(n:Nat):Heap->Prop:=fun h=>z<=it/\h.IsRevIter it p ((n:Int) - 1)
theorem nH:CallR X (.type "reversed") (fun xs H Q=>∃p ys,xs=[.ref p]/\H p=some (.lst ys)/\∀it,H it=none->Q (.ref it) (upd H it (.ext (QO X.s₀.heap.objs.size it p ys.length)))):=by
 intro pins s σ H xs us Q I r h;obtain⟨p,ys,rfl,hp,q⟩:=h;obtain⟨u,rfl,rx⟩:=sW r;cases rx;obtain⟨its,r',pl,hz⟩:=I.list (SqL.of hp);have hlen:=r'.length;refine call_reversed_list pl.isList ?_;refine⟨.ref s.heap.objs.size,_,I.laid (t':=s.toks) (o:=.ext (QO X.s₀.heap.objs.size s.heap.objs.size p ys.length)) (fun b o e=>Heap.get?_push_of_some _ e) (Nat.le_refl _) ?_,rfl,q _ (I.hok.fresh (Nat.le_refl _))⟩
 refine⟨⟨I.sz,_,Heap.get?_push_size _ rfl,rfl,by simp[revObj,hlen]⟩,⟨_,Heap.get?_push_size _ rfl⟩,?_⟩;rintro h1 h2 ⟨z,e1⟩ e;exact⟨z,e1.at e⟩
theorem Zt {ys:List V}{its:List Value}(r:Vals ys its):Vals ys.reverse its.reverse:=by
 induction r with
 |nil=>exact .nil
 |cons h _ ih=>rw[List.reverse_cons,List.reverse_cons]; exact ih.append (.cons h .nil)
theorem iR (hc:X.calm=true):CallR X (.type "list") (fun xs H Q=>∃it p ys,xs=[.ref it]/\H it=some (.ext (QO X.s₀.heap.objs.size it p ys.length))/\H p=some (.lst ys)/\∀l,H l=none->Q (.ref l) (upd (drop H it) l (.lst ys.reverse))):=by
 intro pins s σ H xs us Q I r h;obtain⟨it,p,ys,rfl,hi,hp,q⟩:=h;obtain⟨u,rfl,rx⟩:=sW r;cases rx;obtain⟨its,r',pl,hz⟩:=I.list (SqL.of hp);have hlen:=r'.length;obtain⟨⟨h0,hrev⟩,_,_⟩:=(show ObjOk X.prog X.w H s.heap it (.ext (QO X.s₀.heap.objs.size it p ys.length)) from I.hok it _ hi);have hne:p≠it:=fun z=>by rw[z,hi] at hp; cases hp
 refine sH (I.ok.hd hc) hne its.toArray (by rw[List.size_toArray,<- hlen]; exact hrev) pl.isList (fun h' tk acc' c' kp e hacc=>?_) (by rw[List.size_toArray]; omega)
 have ea:acc'=its.reverse.toArray:=by
  apply Array.ext
  .rw [hacc.1,List.size_toArray,List.size_toArray,List.length_reverse]
  .intro i h1 h2
   have:=hacc.2 i acc'[i] (Array.getElem?_eq_getElem h1);rw[List.size_toArray,List.getElem?_toArray] at this;have hi':i < its.length:=by rw[hacc.1,List.size_toArray] at h1; exact h1
   rw[List.getElem?_eq_getElem (by omega)] at this;have e2:its.reverse.toArray[i]=its[its.length - 1 - i]:=by simp
   rw[e2];exact(Option.some.inj this).symm
 subst ea;exact⟨.ref s.heap.objs.size,_,I.gone (t':=tk) hi h0 kp (Nat.le_refl _) (show ObjOk X.prog X.w _ h' _ (.lst ys.reverse) from⟨by rw[List.length_reverse]; exact hz,its.reverse,c',Zt r',e⟩),rfl,q _ (I.hok.fresh (Nat.le_refl _))⟩
abbrev lO (r:Addr)(j:Int):Heap->Prop:=fun h=>∃t u v,IsRange h r 0 j 1 t u v
theorem Zg:CallR X (.type "range") (fun xs H Q=>∃j:Int,xs=[.int j]/\∀r,H r=none->Q (.ref r) (upd H r (.ext (lO r j)))):=by
 intro pins s σ H xs us Q I r h;obtain⟨j,rfl,q⟩:=h;obtain⟨u,rfl,rx⟩:=sW r;obtain⟨t,rfl⟩:=rx;refine call_range_1 ?_;refine⟨.ref s.heap.objs.size,_,I.laid (o:=.ext (lO s.heap.objs.size j)) (fun b o e=>Heap.get?_push_of_some _ e) (Nat.le_refl _) ?_,rfl,q _ (I.hok.fresh (Nat.le_refl _))⟩;refine⟨⟨_,_,_,Heap.get?_push_size _ rfl⟩,⟨_,Heap.get?_push_size _ rfl⟩,?_⟩;rintro h1 h2 ⟨t,u,v,e1⟩ e;exact⟨t,u,v,e _ e1⟩
theorem aR (hc:X.calm=true):CallR X (.type "list") (fun xs H Q=>∃(r:Addr) (j:Int),xs=[.ref r]/\H r=some (.ext (lO r j))/\0<=j/\j<=100000/\∀l,H l=none->Q (.ref l) (upd H l (.lst ((List.range j.toNat).map fun k=>V.int (k:Nat))))):=by
 intro pins s σ H xs us Q I rs h;obtain⟨r,j,rfl,hi,j0,j1,q⟩:=h;obtain⟨u,rfl,rx⟩:=sW rs;cases rx;obtain⟨⟨t,u,v,hr⟩,_,_⟩:=(show ObjOk X.prog X.w H s.heap r (.ext (lO r j)) from I.hok r _ hi);have hsz:Builtin.Range.rangeSize 0 j 1=(j.toNat:Nat):=by rw[rangeSize_one]; split<;>omega
 refine call_list_range (I.ok.hd hc) hr (small_one (by decide) (by decide) (by omega) (by omega)) hsz (by omega) (fun h' tk acc' c' kp e hacc=>?_)
 have rv:Vals ((List.range j.toNat).map fun k=>V.int (k:Nat)) acc'.toList:=by
  have key:∀n,n<=j.toNat->Vals ((List.range n).map fun k=>V.int (k:Nat)) (acc'.toList.take n):=by
   intro n
   induction n with
   |zero=>intro _; exact .nil
   |succ n ih =>
    intro hn;have h1:n < acc'.size:=by rw[hacc.1]; omega
    obtain⟨t,et⟩:=hacc.2 n acc'[n] (Array.getElem?_eq_getElem h1);have e1:acc'.toList[n]?=some acc'[n]:=by rw[Array.getElem?_toList,Array.getElem?_eq_getElem h1]
    rw[List.range_succ,List.map_append,List.take_add_one,e1];refine(ih (by omega)).append (.cons ?_ .nil);exact⟨t,by rw[et]; simp⟩
  have:=key j.toNat (Nat.le_refl _);rw[List.take_of_length_le (by rw[Array.length_toList,hacc.1]; exact Nat.le_refl _)] at this;exact this
 exact⟨.ref s.heap.objs.size,_,I.laid (t':=tk) kp (Nat.le_refl _) (show ObjOk X.prog X.w _ h' _ (.lst _) from⟨by rw[List.length_map,List.length_range,sizeLine_eq]; omega,acc'.toList,c',rv,by rw[Array.toArray_toList]; exact e⟩),rfl,q _ (I.hok.fresh (Nat.le_refl _))⟩
end
end L2
namespace CL
open PySem PySem.Spec L2 PySem.W
open PyProof.Rows hiding St
section
variable {X:Cx}{a b c e o i f value:Expr}{es:List Expr}{pos pos':Pos}
@[irreducible] def cRev:PV->CH->K1->Prop:=fun x C Q=>match x with
 |.ref a=>match C a with
  |some (.lst xs)=>∀p,C p=none->Q (.ref p) (yQ C p (.lst xs.reverse))
  |_=>False
 |_=>False
def K6 (ce:TCE):TCE:=fun ρ C Q=>ce ρ C fun x C1=>cRev x C1 Q
theorem Qc {ce:TCE}{p p2 pos2:Pos}(hc:X.calm=true)(hg:Gl X "list")(hg2:Gl X "reversed")(hm:X.mg "list" = none)(hm2:X.mg "reversed" = none)(he:CE X e ce)(hs:nQ e=true:=by rfl):
  CE X (.Call (.Name "list" p) [.Call (.Name "reversed" p2) [e] [] pos2] [] pos) (K6 ce):=⟨JE.weak (xY (iR hc) hg hm rfl (kM (xY nH hg2 hm2 rfl (kM he.h xP hs) (by decide) (by decide) hs rfl) xP)) fun σ H Q ⟨ρ,C,R,s,h,q,f⟩ =>
  ⟨ρ,C,_,s,h,q,fun x H1 px C1 q1 rx h1 f1=>by
   unfold cRev at q1
   split at q1
   .split at q1
    .next xs e1 =>
     obtain⟨vs,ev,rv⟩:=h1 _ _ e1;cases rx;refine⟨_,vs,rfl,ev,fun it hit=>⟨it,_,vs,rfl,gQ,?_,fun l hl=>?_⟩⟩
     .rw [cQ (fun z=>by rw[z,hit] at ev; cases ev)]; exact ev
     .have nl:l≠it:=fun z=>by rw[z,gQ] at hl; cases hl
      rw[cQ nl] at hl;rw[Ku hit];exact f _ _ _ _ (q1 l (h1.fresh hl)) (.ref l) (h1.lay hl ⟨_,gQ,rv.reverse.imm (Imm.new hl _)⟩) (f1.trans (Fw.lay hl _ _))
    .exact q1.elim
   .exact q1.elim⟩⟩
def nZ (n:Nat):List PV:=(List.range n).map fun k=>PV.int (k:Nat)
@[irreducible] def cRng:PV->CH->K1->Prop:=fun x C Q=>match x with
 |.int j=>0<=j/\j<=100000/\∀p,C p=none->Q (.ref p) (yQ C p (.lst (nZ j.toNat)))
 |_=>False
def K5 (ce:TCE):TCE:=fun ρ C Q=>ce ρ C fun x C1=>cRng x C1 Q
theorem qT {K:PySem.W.Frag}{H:Hp}:∀l:List Nat,Reps K H (l.map fun k=>V.int (k:Nat)) (l.map fun k=>PV.int (k:Nat))
 |[]=>.nil
 |k::l=>.cons (.int _) (qT l)
theorem Qb {ce:TCE}{p p2 pos2:Pos}(hc:X.calm=true)(hg:Gl X "list")(hg2:Gl X "range")(hm:X.mg "list" = none)(hm2:X.mg "range" = none)(he:CE X e ce)(hs:nQ e=true:=by rfl):
  CE X (.Call (.Name "list" p) [.Call (.Name "range" p2) [e] [] pos2] [] pos) (K5 ce):=⟨JE.weak (xY (aR hc) hg hm rfl (kM (xY Zg hg2 hm2 rfl (kM he.h xP hs) (by decide) (by decide) hs rfl) xP)) fun σ H Q ⟨ρ,C,R,s,h,q,f⟩ =>
  ⟨ρ,C,_,s,h,q,fun x H1 px C1 q1 rx h1 f1=>by
   unfold cRng at q1
   split at q1
   .next j =>
    cases rx;refine⟨j,rfl,fun r hr=>⟨r,j,rfl,gQ,q1.1,q1.2.1,fun l hl=>?_⟩⟩;have nl:l≠r:=fun z=>by rw[z,gQ] at hl; cases hl
    have hl1:H1 l=none:=by rw[cQ nl] at hl; exact hl
    have h2:=h1.new hr (.ext (lO r j));exact f _ _ _ _ (q1.2.2 l (h1.fresh hl1)) (.ref l) (h2.lay hl ⟨_,gQ,qT _⟩) (f1.trans ((Fw.new hr _).trans (Fw.lay hl _ _)))
   .exact q1.elim⟩⟩
@[irreducible] def cPop:PV->List PV->CH->K1->Prop:=fun x ts C Q=>match x,ts with
 |.ref a,[]=>match C a with
  |some (.lst xs)=>match xs[xs.length - 1]? with
   |some y=>Q y (yQ C a (.lst xs.dropLast))
   |none=>False
  |_=>False
 |_,_=>False
theorem cmt_pop {K:PySem.W.Frag}:Cmt K rPop cPop:=fun x px xs ps H C Q R rx rs h q f=>by
 unfold cPop at q
 split at q
 .split at q
  .next ys e1 =>
   split at q
   .next y ey =>
    obtain⟨vs,ev,rv⟩:=h _ _ e1;cases rs;cases rx;obtain⟨v,hv,r1⟩:=rv.get ey
    have hd:Reps K H vs.dropLast ys.dropLast:=by
     rw[List.dropLast_eq_take,List.dropLast_eq_take,rv.len];exact rv.take _
    exact⟨_,vs,v,rfl,rfl,ev,by rw[rv.len]; exact hv,f _ _ _ _ q (r1.imm (Imm.mut ev rfl _)) (h.put ev rfl ⟨_,gQ,hd.imm (Imm.mut ev rfl _)⟩) (Fw.put e1 _ _)⟩
   .exact q.elim
  .exact q.elim
 .exact q.elim
@[irreducible] def cTru (c:TCE):TCT:=fun ρ C Q=>c ρ C fun x C1=>match x with
 |.ref a=>match C1 a with
  |some (.lst xs)=>Q (!xs.isEmpty) C1
  |_=>False
 |_=>False
theorem ct_tru {c:TCE}(h:CE X e c)(he:eW e=true:=by rfl):CT X e (cTru c):=⟨JT.weak (J0 h.h he) fun σ H Q ⟨ρ,C,R,s,h,q,f⟩=>by
 unfold cTru at q
 exact⟨ρ,C,_,s,h,q,fun x H1 px C1 q1 rx h1 f1=>by
  split at q1
  .split at q1
   .next xs e1 =>
    obtain⟨vs,ev,rv⟩:=h1 _ _ e1;cases rx;refine⟨!xs.isEmpty,.inl ⟨vs,SqL.of ev,?_⟩,f _ H1 _ C1 q1 rfl h1 f1⟩;have:=rv.len;cases vs<;>cases xs<;>simp_all
   .exact q1.elim
  .exact q1.elim⟩⟩
def K4 (c:Addr)(m:Str)(G:GC)(co:TCE):TCE:=fun ρ C Q=>co ρ C fun x C1=>sN c m x C1/\G [x] C1 Q
theorem KN {CX:CXT}{k:Nat}{c fa:Addr}{fd:FuncData}{ps:List Str}{G:GC}{E:XK}{m:Str}{apos:Pos}{co:TCE}{pl:Sem Bool}(hc:Cls X.K c)(hm:Vg X.K c m fa)(F:FnOk X.prog X.w X.K X.mg X.base CX k fa fd ps (spC X.K G))(hr:Room k X.A)(hb:Binds X.K fd ps [])(hx:lK CX X E)(ho:CE X o co)
  (ht:eval (.Call (.Attribute o m apos) [] [] pos) X.env=(do
   let ov <- eval o X.env
   standAt apos.atName
   let (f,first) <- holding [ov] (getMethod ov m pl)
   callWith pos f first (backTo pos (starEach [] X.env)) (backToKw pos (keywordEach [] X.env))):=by rfl) :
  CE X (.Call (.Attribute o m apos) [] [] pos) (K4 c m G co) :=
 ⟨JE.weak ⟨Ja (dvs:=[]) (E:=E) ho.h.h hc hm F hr hb .nil hx ht⟩ fun σ H Q ⟨ρ,C,R,s,h,q,f⟩=>⟨ρ,C,_,s,h,q,fun x H1 px C1 q1 rx h1 f1=>by
  obtain⟨a,dx,gs,rfl,rfl,eg,lk⟩:=nO q1.1 rx h1;refine⟨a,dx,gs,rfl,eg,lk,?_⟩
  exact⟨[.ref a],C1,R,.cons (.ref a) .nil,h1,q1.2,fun v H' t C' q' r' h' f'=>f v H' t C' q' r' h' (f1.trans f')⟩⟩⟩
theorem lrev_s {xs:List PV}{p:Addr}{C:CH}{Q:K1}(m:C p=some (.lst xs))(q:∀p',C p'=none->Q (.ref p') (yQ C p' (.lst xs.reverse))):cRev (.ref p) C Q:=by
 unfold cRev;dsimp only;rw[m];exact q
theorem rng_s {j:Int}{C:CH}{Q:K1}(h0:0<=j)(h1:j<=100000)(q:∀p',C p'=none->Q (.ref p') (yQ C p' (.lst (nZ j.toNat)))):cRng (.int j) C Q:=by
 unfold cRng;exact⟨h0,h1,q⟩
theorem pop_s {xs:List PV}{y:PV}{p:Addr}{C:CH}{Q:K1}(m:C p=some (.lst xs))(e:xs[xs.length - 1]?=some y)(q:Q y (yQ C p (.lst xs.dropLast))):cPop (.ref p) [] C Q:=by
 unfold cPop;dsimp only;rw[m];dsimp only;rw[e];exact q
theorem tru_i {c:TCE}{ρ:CSt}{C:CH}{Q:Bool->CH->Prop}(h:c ρ C fun x C1=>∃a xs,x=.ref a/\C1 a=some (.lst xs)/\Q (!xs.isEmpty) C1)(mono:∀(Q1 Q2:K1),(∀v C1,Q1 v C1->Q2 v C1)->c ρ C Q1->c ρ C Q2):cTru c ρ C Q:=by
 unfold cTru;refine mono _ _ ?_ h;rintro v C1 ⟨b,xs,rfl,m,q⟩;dsimp only;rw[m];exact q
end
structure Row where
 k:Option Str
 nm:Str
 q:Str
 st:Stmt
 ps:List Str
 N:List Str
def AllR (p:Row->Prop):List Row->Prop
 |[]=>True
 |r::rs=>p r/\AllR p rs
def FH (K:PySem.W.Frag)(r:Row):Prop:=match r with
 |⟨none,nm,q,st,_,_⟩=>∃(f:Addr) (oc:Value) (od:Option Addr) (kV dc pm:Value) (an:Option Addr) (cd ct:Value) (sl:Array (Option Value)),
  PySem.W.nsIn K mainGlobals nm=some (some (.ref f))/\K.lookup f=some ⟨oc,od,.func (PySem.W.fnOf nm q (uW st) (kK st) (kX st) .none kV dc pm an cd ct),sl⟩/\PySem.W.codeIn K cd q=true/\PySem.W.keepIn K (.ref f)=true
 |⟨some c,nm,q,st,_,_⟩=>∃(cc f:Addr) (oc:Value) (od:Option Addr) (kV dc pm:Value) (an:Option Addr) (cd ct:Value) (sl:Array (Option Value)),
  PySem.W.nsIn K mainGlobals c=some (some (.ref cc))/\PySem.W.findIn K (.ref cc) nm=some (some (.ref f))/\K.lookup f=some ⟨oc,od,.func (PySem.W.fnOf nm q (uW st) (kK st) (kX st) .none kV dc pm an cd ct),sl⟩/\PySem.W.codeIn K cd q=true/\PySem.W.keepIn K (.ref f)=true/\PySem.W.isFn K (.ref f)=true
def RB (r:Row):Prop:=FnScope r.N r.ps (kX r.st)/\∀(kV doc pm:Value) (an:Option Addr) (cdv ct:Value) (us:List Value),us.length=r.ps.length->bindArgs (PySem.W.fnOf r.nm r.q (uW r.st) (kK r.st) (kX r.st) .none kV doc pm an cdv ct) ⟨us,[]⟩=pure (r.ps.zip us)
structure FI (K:PySem.W.Frag)(mg:Str->Option Value)(k:Option Str)(nm q:Str)(st:Stmt)(ps N:List Str)(f:Addr)(d:FuncData):Prop where
 m:k=none->mg nm=some (.ref f)
 M:∀c ca,k=some c->mg c=some (.ref ca)->PySem.W.findIn K (.ref ca) nm=some (some (.ref f))/\PySem.W.isFn K (.ref f)=true
 F:Fun K nm q st f d
 s:FnScope N ps (kX st)
 b:Binds K d ps []
section
variable {P:List Value->Prop}
theorem args1 (h:∀a,P [a]):∀us:List Value,us.length=1->P us
 |[a],_=>h a
theorem args2 (h:∀a b,P [a,b]):∀us:List Value,us.length=2->P us
 |[a,b],_=>h a b
theorem args3 (h:∀a b c,P [a,b,c]):∀us:List Value,us.length=3->P us
 |[a,b,c],_=>h a b c
theorem args4 (h:∀a b c d,P [a,b,c,d]):∀us:List Value,us.length=4->P us
 |[a,b,c,d],_=>h a b c d
theorem args5 (h:∀a b c d e,P [a,b,c,d,e]):∀us:List Value,us.length=5->P us
 |[a,b,c,d,e],_=>h a b c d e
end
theorem fi_one {K:PySem.W.Frag}{h:Heap}{mg:Str->Option Value}(X:K.In h)(G:h.Ns mainGlobals mg){r:Row}(x:FH K r)(y:RB r):∃f d,FI K mg r.k r.nm r.q r.st r.ps r.N f d:=by
 obtain⟨k,nm,q,st,ps,N⟩:=r;obtain⟨y1,y2⟩:=y
 cases k with
 |none =>
  obtain⟨f,oc,od,kV,dc,pm,an,cd,ct,sl,h1,h2,h3,h4⟩:=x;exact⟨f,_,⟨fun _=>PySem.W.mg_of X G h1,fun _ _ e=>(nomatch e),mR h2 h3 h4,y1,Fun.binds (mR h2 h3 h4) y2⟩⟩
 |some c =>
  obtain⟨cc,f,oc,od,kV,dc,pm,an,cd,ct,sl,h0,h1,h2,h3,h4,h5⟩:=x;refine⟨f,_,⟨fun e=>(nomatch e),fun c' ca e e'=>?_,mR h2 h3 h4,y1,Fun.binds (mR h2 h3 h4) y2⟩⟩;cases e;have:=(PySem.W.mg_of X G h0).symm.trans e';cases this;exact⟨h1,h5⟩
theorem fi_all {K:PySem.W.Frag}{h:Heap}{mg:Str->Option Value}(X:K.In h)(G:h.Ns mainGlobals mg):∀{t:List Row},AllR (FH K) t->AllR RB t->∃(f:Nat->Addr) (d:Nat->FuncData),∀(i:Nat) {k:Option Str}{nm q:Str}{st:Stmt}{ps N:List Str},t[i]?=some ⟨k,nm,q,st,ps,N⟩->FI K mg k nm q st ps N (f i) (d i)
 |[],_,_=>⟨fun _=>mainGlobals,fun _=>PySem.W.fnOf "" "" (uW (.Pass ⟨0,0,0,0⟩)) [] (kX (.Pass ⟨0,0,0,0⟩)) .none .none .none .none none .none .none,fun i _ _ _ _ _ _ e=>by simp at e⟩
 |r::t,x,y=>by
  obtain⟨f0,d0,h0⟩:=fi_one X G x.1 y.1;obtain⟨f,d,h⟩:=fi_all X G x.2 y.2;refine⟨fun i=>match i with | 0=>f0 | i+1=>f i,fun i=>match i with | 0=>d0 | i+1=>d i,fun i=>?_⟩
  cases i with
  |zero=>intro k nm q st ps N e; cases e; exact h0
  |succ i=>intro k nm q st ps N e; exact h i e
section
variable {P:Program}{w:World}{K:PySem.W.Frag}{mg:Str->Option Value}{base:Heap}
theorem FI.ok {kk:Option Str}{x qual:Str}{st:Stmt}{f:Addr}{fd:FuncData}{N ps:List Str}{k:Nat}{G:GC}(F:FI K mg kk x qual st ps N f fd)(len:∀ts C R,G ts C R->ts.length=ps.length)
  (hbody:∀(cdv:Value) (A:Around) (outer:List Env) (s:Shared) (H:Hp) (E:XK),Room k (A.deeper (envOfC qual (kX st) s.heap.objs.size f cdv)) ->
   ∃c,CB (dR CX0 P w K mg base N qual (kX st) f cdv A outer s H E).nox (kK st) c/\∀ts C R,G ts C R->c { nx:=fun _ C'=>R .non C',rt:=R } (bL N ts) C):FnOk P w K mg base CX0 (k+1) f fd ps (spC K G):=Fun.okC F.F F.s len hbody
end
section
variable {X:Cx}{e o:Expr}{es:List Expr}{pos:Pos}
theorem cf {k:Nat}{f:Addr}{fd:FuncData}{ps N:List Str}{G:GC}{x q:Str}{st:Stmt}{p:Pos}{ca:TCA}(T:FI X.K X.mg none x q st ps N f fd)(F:FnOk X.prog X.w X.K X.mg X.base CX0 k f fd ps (spC X.K G))(hr:Room k X.A)
  (ha:CA X (e::es) ca) (hg:Gl X x:=by rfl) (hdb:(x==("__debug__" : Str))=false:=by decide) (hs:nQ e=true:=by rfl) (hall:es.all nQ=true:=by rfl):CE X (.Call (.Name x p) (e::es) [] pos) (jH G ca) :=
 ce_call F hr hg (T.m rfl) T.F.kp T.b pT ha hdb hs hall
theorem cm {k:Nat}{c fa:Addr}{cn q:Str}{st:Stmt}{fd:FuncData}{ps N:List Str}{G:GC}{m:Str}{apos:Pos}{co:TCE}{ca:TCA}{pl:Sem Bool}(hc:Cls X.K c)(T:FI X.K X.mg (some cn) m q st ps N fa fd)(hm:X.mg cn=some (.ref c))(F:FnOk X.prog X.w X.K X.mg X.base CX0 k fa fd ps (spC X.K G))(hr:Room k X.A)(ho:CE X o co)(ha:CA X (e::es) ca)
  (hst:starEach (e::es) X.env=(false,eval e X.env)::starEach es X.env:=by rfl) (hpl:(backTo pos (starEach es X.env)).any (·.1)=false:=by rfl)
  (ht:eval (.Call (.Attribute o m apos) (e::es) [] pos) X.env=(do
   let ov <- eval o X.env
   standAt apos.atName
   let (f,first) <- holding [ov] (getMethod ov m pl)
   callWith pos f first (backTo pos (starEach (e::es) X.env)) (backToKw pos (keywordEach [] X.env))):=by rfl) :
  CE X (.Call (.Attribute o m apos) (e::es) [] pos) (cMeth c m G co ca) :=
 ce_meth hc ⟨(T.M _ _ rfl hm).1,(T.M _ _ rfl hm).2,T.F.kp⟩ F hr T.b pT ho ha hst hpl ht
theorem cm0 {k:Nat}{c fa:Addr}{cn q:Str}{st:Stmt}{fd:FuncData}{ps N:List Str}{G:GC}{m:Str}{apos:Pos}{co:TCE}{pl:Sem Bool}(hc:Cls X.K c)(T:FI X.K X.mg (some cn) m q st ps N fa fd)(hm:X.mg cn=some (.ref c))(F:FnOk X.prog X.w X.K X.mg X.base CX0 k fa fd ps (spC X.K G))(hr:Room k X.A)(ho:CE X o co)
  (ht:eval (.Call (.Attribute o m apos) [] [] pos) X.env=(do
   let ov <- eval o X.env
   standAt apos.atName
   let (f,first) <- holding [ov] (getMethod ov m pl)
   callWith pos f first (backTo pos (starEach [] X.env)) (backToKw pos (keywordEach [] X.env))):=by rfl) :
  CE X (.Call (.Attribute o m apos) [] [] pos) (K4 c m G co) :=
 KN hc ⟨(T.M _ _ rfl hm).1,(T.M _ _ rfl hm).2,T.F.kp⟩ F hr T.b pT ho ht
theorem cx {a b:Expr}{ca cb:TCE}(ha:CE X a ca)(hb:CE X b cb)(hs:xL b:=by exact fun _ _=>rfl):CE X (.Subscript a b pos) (cOp cIx ca cb):=ce_ix (r:=rIx X.K) ix_seqC cop_ix ha hb hs
theorem ca1 {ca:TCE}(ha:CE X e ca)(hs:nQ e=true:=by rfl):CA X [e] (yK ca mF):=qQ ha yZ hs
theorem cs1 (i:Nat){x:Str}{pos':Pos}{ce:TCE}(hN:X.N.Nodup)(he:CE X e ce)(hi:X.N[i]?=some x:=by rfl)(hx:Loc X.env.scope x:=by first | exact Or.inl rfl | exact Or.inr rfl)(hs:swapsWith e (some (.Name x pos')) pos.line X.env=pure false:=by rfl)(hf:X.fn x=true\/X.env.scope.names.lookup x=some .local:=by first | exact .inl rfl | exact .inr rfl | assumption):
  CS X (.Assign [.Name x pos'] e pos) (K3 i ce):=cs_set hN hi hx he hs hf
theorem cg1 (i:Nat){x:Str}(hN:X.N.Nodup)(hi:X.N[i]?=some x:=by rfl)(hx:Loc X.env.scope x:=by first | exact Or.inl rfl | exact Or.inr rfl)(hf:X.fn x=true\/X.env.scope.names.lookup x=some .local:=by first | exact .inl rfl | exact .inr rfl | assumption):CG X (.Name x pos) (KA i):=cg_name hN hi hx hf
theorem cln {p:Pos}{ca:TCE}(hm:X.mg "len" = none)(ha:CE X e ca)(hg:Gl X "len":=by rfl)(hs:nQ e=true:=by rfl):CE X (.Call (.Name "len" p) [e] [] pos) (jH oH (yK ca mF)):=xZ Zj cbi_len hg hm rfl (ca1 ha hs) (hs:=hs)
theorem ctp {p:Pos}{ca:TCE}(hm:X.mg "tuple" = none)(ha:CE X e ca)(hg:Gl X "tuple":=by rfl)(hs:nQ e=true:=by rfl):CE X (.Call (.Name "tuple" p) [e] [] pos) (jH bF (yK ca mF)):=kJ rH cbi_tup hg hm rfl (ca1 ha hs) (hs:=hs)
theorem cap {apos cpos:Pos}{co ca:TCE}(ho:CE X o co)(ha:CE X e ca)
  (hbase:attributeBase o "append" X.env (eval o X.env)=eval o X.env:=by rfl)
  (hfew:((backTo cpos (starEach [e] X.env)).all (fun x=>!x.1)&&(backToKw cpos (keywordEach [] X.env)).all (fun x=>x.1.isSome)
   && decide ([e].length+([]:List Keyword).length+(if ([]:List Keyword).isEmpty then 0 else 1) < 30))=true:=by rfl)
  (hline:(apos.endLine==cpos.line)=true:=by rfl) (hs:nQ e=true:=by rfl):CE X (.Call (.Attribute o "append" apos) [e] [] cpos) (cBM qG co (yK ca mF)) :=
 ce_bm PySem.F.plainAttrs_list PySem.F.slot_list_append PySem.F.type_list_append mN iI ho (ca1 ha hs) hbase hfew hline hs
theorem ct2 {a b:Expr}{op:CmpOp}{r:R2}{cr:R2C}{ca cb:TCE}(ho:OpR X (compareOp op) r)(hr:Cop X.K r cr)(ha:CE X a ca)(hb:CE X b cb)(hm:behindInMarks op b=false:=by exact dY _):CT X (.Compare a [op] [b] pos) (fE (cOp cr ca cb)):=tI ho hr ha hb hm
end
end CL
namespace L2
open PySem
theorem FnScope.c {N ps:List Str}{sc:Scope}{x:Str}(S:FnScope N ps sc)(h:N.contains x=false):(x::N).Nodup:=by
 refine List.nodup_cons.2 ⟨fun m=>?_,S.nd⟩;rw[List.contains_iff_mem.2 m] at h;cases h
theorem FnScope.k {X:Cx}{xs:List Str}{scope sc:Scope}{N ps:List Str}{L:Nat}(S:FnScope N ps sc)(hN:X.N=N)(hsc:X.env.scope=sc)(hce:X.env.cells=cellsFrom L sc.names [])(h:sP xs scope N sc=true):∃cl,rV X xs scope cl:=nP hN hsc hce h
end L2
namespace K20
open PySem L2
abbrev U0:List Str:=["_law_tape_here","_law_kit","_law_turns","_law_deep"]
abbrev U1:List Str:=["_law_tape_here","_law_kit","_law_turns"]
abbrev U2:List Str:=["_law_house_here","_law_values_here","_law_due"]
abbrev U3:List Str:=["_law_row","_law_spots","_law_downs"]
abbrev U4:List Str:=["_law_tape_here","_law_kit","_law_deep"]
abbrev U5:List Str:=["_law_tape_here","_law_part_here"]
abbrev U6:List Str:=["_law_tape_here","_law_many"]
abbrev U7:List Str:=["_law_tape_here","_law_names_here","_law_k","_law_keyed"]
abbrev U8:List Str:=["_law_house_here","_law_values_here"]
abbrev U9:List Str:=["_law_tape_here","_law_kit","_law_turns","_law_most"]
abbrev U10:List Str:=["_law_tape_here","_law_kit","_law_turns","_law_name"]
abbrev U11:List Str:=["_law_tape_here","_law_kit","_law_turns","_law_way"]
abbrev U12:List Str:=["_law_house_here","_law_name"]
abbrev U13:List Str:=["_law_tape_here"]
abbrev U14:List Str:=["_law_tape_here","_law_house_here"]
def top (i:Nat):Stmt:=PySem.Challenge.pw_viewwood_k20_next_parts.main.body.getD i (.Pass ⟨0,0,0,0⟩)
def tab:List CL.Row:=[
 ⟨none,"parts_in","parts_in",(top 1),["row"],["row","told"]⟩,
 ⟨none,"gather","gather",(top 2),["row","spots","downs","told"],["row","spots","downs","told","want","here"]⟩,
 ⟨none,"laid_over","laid_over",(top 3),["downs","nearer"],["downs","nearer","numbers"]⟩,
 ⟨none,"asked_by","asked_by",(top 4),["entry"],["entry"]⟩,
 ⟨none,"next_part","next_part",(top 6),["house","done"],["house","done","walk","entry"]⟩,
 ⟨none,"cut","cut",(top 9),["number"],["number"]⟩,
 ⟨none,"number_of","number_of",(top 12),["reckoning","answers","turns","asked"],["reckoning","answers","turns","asked","word","question","first","taken","second"]⟩,
 ⟨none,"joined","joined",(top 13),["word","first","second"],["word","first","second"]⟩,
 ⟨none,"drawn","drawn",(top 17),["part","answers"],["part","answers","drawer","row","works"]⟩,
 ⟨none,"_law_tape","_law_tape",(top 19),["_law_script"],["_law_script"]⟩,
 ⟨none,"_law_draw","_law_draw",(top 20),U6,["_law_tape_here","_law_many","_law_script","_law_digit","_law_cell","_law_mixed"]⟩,
 ⟨none,"_law_names","_law_names",(top 21),U6,["_law_tape_here","_law_many","_law_pool","_law_start","_law_stride"]⟩,
 ⟨none,"_law_number","_law_number",(top 22),U13,U13⟩,
 ⟨none,"_law_leaf","_law_leaf",(top 23),U1,U11⟩,
 ⟨none,"_law_sum","_law_sum",(top 24),U0,["_law_tape_here","_law_kit","_law_turns","_law_deep","_law_way","_law_word","_law_many"]⟩,
 ⟨none,"_law_key","_law_key",(top 25),U1,U11⟩,
 ⟨none,"_law_pairs","_law_pairs",(top 26),U9,["_law_tape_here","_law_kit","_law_turns","_law_most","_law_names_here"]⟩,
 ⟨none,"_law_hands","_law_hands",(top 27),U1,["_law_tape_here","_law_kit","_law_turns","_law_hands_here","_law_event","_law_changes","_law_k","_law_box","_law_word"]⟩,
 ⟨none,"_law_plain","_law_plain",(top 28),U0,["_law_tape_here","_law_kit","_law_turns","_law_deep","_law_key_here","_law_tag","_law_sets","_law_hands_here","_law_lines_here"]⟩,
 ⟨none,"_law_part_line","_law_part_line",(top 29),U10,["_law_tape_here","_law_kit","_law_turns","_law_name","_law_key_here","_law_names_here"]⟩,
 ⟨none,"_law_each","_law_each",(top 30),U4,["_law_tape_here","_law_kit","_law_deep","_law_name","_law_number_here","_law_lines_here","_law_k"]⟩,
 ⟨none,"_law_line","_law_line",(top 31),U0,["_law_tape_here","_law_kit","_law_turns","_law_deep","_law_way","_law_name","_law_key_here","_law_number_here","_law_lines_here"]⟩,
 ⟨none,"_law_lines","_law_lines",(top 32),U0,["_law_tape_here","_law_kit","_law_turns","_law_deep","_law_lines_here","_law_k"]⟩,
 ⟨none,"_law_part","_law_part",(top 33),U7,["_law_tape_here","_law_names_here","_law_k","_law_keyed","_law_many","_law_boxes_here","_law_kit","_law_first","_law_lines_here","_law_work_names","_law_works"]⟩,
 ⟨none,"_law_house","_law_house",(top 34),U13,["_law_tape_here","_law_names_here","_law_keyed"]⟩,
 ⟨none,"_law_over","_law_over",(top 35),["_law_downs","_law_more"],["_law_downs","_law_more","_law_found","_law_name","_law_number_here"]⟩,
 ⟨none,"_law_parts","_law_parts",(top 36),U3,["_law_row","_law_spots","_law_downs","_law_found","_law_want","_law_here"]⟩,
 ⟨none,"_law_named","_law_named",(top 37),U12,U12⟩,
 ⟨none,"_law_answers","_law_answers",(top 38),U2,["_law_house_here","_law_values_here","_law_due","_law_path","_law_name","_law_gives","_law_downs","_law_boxes_here","_law_answers_here","_law_sort","_law_pairs_here","_law_one","_law_number_here"]⟩,
 ⟨none,"_law_within","_law_within",(top 39),U2,["_law_house_here","_law_values_here","_law_due","_law_piece","_law_found","_law_spots","_law_name","_law_gives","_law_downs"]⟩,
 ⟨none,"_law_fresh","_law_fresh",(top 40),U8,U8⟩,
 ⟨none,"_law_boxes","_law_boxes",(top 41),U5,U5⟩,
 ⟨none,"_law_values","_law_values",(top 42),U14,["_law_tape_here","_law_house_here","_law_values_here","_law_path","_law_name","_law_gives","_law_downs","_law_piece","_law_way","_law_part_here"]⟩,
 ⟨none,"_law_kind","_law_kind",(top 43),["_law_thing"],["_law_thing","_law_kinds","_law_names_here"]⟩,
 ⟨none,"_law_alike","_law_alike",(top 44),["_law_one","_law_other"],["_law_one","_law_other","_law_kind_here"]⟩,
 ⟨none,"law","law",(top 45),["_law_script"],["_law_script","_law_tape_here","_law_house_here","_law_drawing","_law_ways","_law_k","_law_ahead","_law_due"]⟩,
 ⟨some "Walk","__init__","Walk.__init__",(mJ (top 5) 0),["self","house"],["self","house"]⟩,
 ⟨some "Walk","due","Walk.due",(mJ (top 5) 1),["self"],["self"]⟩,
 ⟨some "Walk","pass_by","Walk.pass_by",(mJ (top 5) 2),["self","entry"],["self","entry"]⟩,
 ⟨some "Drawer","__init__","Drawer.__init__",(mJ (top 16) 0),["self","answers"],["self","answers"]⟩,
 ⟨some "Drawer","number","Drawer.number",(mJ (top 16) 1),["self","reckoning","turns"],["self","reckoning","turns"]⟩,
 ⟨some "Drawer","numbered","Drawer.numbered",(mJ (top 16) 2),["self","pairs","turns"],["self","pairs","turns"]⟩,
 ⟨some "Drawer","row","Drawer.row",(mJ (top 16) 3),["self","lines","turns"],["self","lines","turns","row"]⟩,
 ⟨some "Drawer","bring","Drawer.bring",(mJ (top 16) 4),["self","lines","turns","row","counts"],["self","lines","turns","row","counts","line","taken"]⟩,
 ⟨some "Drawer","bring_each","Drawer.bring_each",(mJ (top 16) 5),["self","line","turns","row","counts"],["self","line","turns","row","counts","count","turn","inner"]⟩,
 ⟨some "Drawer","want","Drawer.want",(mJ (top 16) 6),["self","line","turns","counts"],["self","line","turns","counts","spot","pairs","hands"]⟩,
 ⟨some "Drawer","spot","Drawer.spot",(mJ (top 16) 7),["self","key","turns","counts"],["self","key","turns","counts","told","nth"]⟩,
 ⟨some "Drawer","hand","Drawer.hand",(mJ (top 16) 8),["self","hand","turns"],["self","hand","turns","changes"]⟩]
set_option genInjectivity false in
structure Adr where
 f:Nat->Addr
 d:Nat->FuncData
 t_BOUND:Tok
 ASKING:Addr
 dC:Tok
 Walk:Addr
 Drawer:Addr
structure Txt (P:Program)(w:World)(K:PySem.W.Frag)(mg:Str->Option Value)(a:Adr):Prop where
 F:∀(i:Nat) {k:Option Str} {nm q:Str} {st:Stmt} {ps N:List Str},tab[i]?=some ⟨k,nm,q,st,ps,N⟩->CL.FI K mg k nm q st ps N (a.f i) (a.d i)
 Kn:mg "BOUND" = some (.int 1000000000 a.t_BOUND)
 gASKING:mg "ASKING" = some (.ref a.ASKING)
 qASKING:∀H:Hp,SqT K H a.ASKING [.str "take",.str "box",.str "down"]
 tO:mg "MOST_TURNS" = some (.int 8 a.dC)
 z_abs:mg "abs" = none
 z_all:mg "all" = none
 z_bool:mg "bool" = none
 eE:mg "dict" = none
 fS:mg "int" = none
 sJ:mg "isinstance" = none
 eZ:mg "len" = none
 mC:mg "list" = none
 z_max:mg "max" = none
 z_min:mg "min" = none
 nK:mg "range" = none
 tE:mg "reversed" = none
 mB:mg "sorted" = none
 z_str:mg "str" = none
 eX:mg "tuple" = none
 eA:mg "Walk" = some (.ref a.Walk)
 eY:Cls K a.Walk
 mk_Walk:Mk K a.Walk (a.f 36)
 zJ:NoAttr K a.Walk "lacking"
 pX:mg "Drawer" = some (.ref a.Drawer)
 qX:Cls K a.Drawer
 XR:Mk K a.Drawer (a.f 39)
 gY:NoAttr K a.Drawer "answers"
 vW:NoAttr K a.Drawer "asked"
theorem tab_ok:CL.AllR CL.RB tab:=by
 unfold tab
 repeat refine⟨⟨⟨rfl,rfl,rfl,by decide +kernel,rfl,by decide +kernel,by decide +kernel⟩,fun _ _ _ _ _ _=>by first | (refine CL.args1 ?_; exact fun _=>rfl) | (refine CL.args2 ?_; exact fun _ _=>rfl) | (refine CL.args3 ?_; exact fun _ _ _=>rfl) | (refine CL.args4 ?_; exact fun _ _ _ _=>rfl) | (refine CL.args5 ?_; exact fun _ _ _ _ _=>rfl)⟩,?_⟩
 exact trivial
theorem txt_mk {P:Program}{w:World}{K:PySem.W.Frag}{h:Heap}{mg:Str->Option Value}(X:K.In h)(G:h.Ns mainGlobals mg){ga1 cc0 cc1:Addr}{t0 t1_0 t1_1 t1_2 t2:Tok}{gn1:Nat}
  (hf:CL.AllR (CL.FH K) tab)
  (gl0:PySem.W.nsIn K mainGlobals "BOUND" = some (some (.int 1000000000 t0)))
  (gl1:PySem.W.nsIn K mainGlobals "ASKING" = some (some (.ref ga1)))
  (ql1:K.lookup ga1=some { cls:=.type "tuple",data:=.seq #[.str "take" t1_0,.str "box" t1_1,.str "down" t1_2] gn1 })
  (gl2:PySem.W.nsIn K mainGlobals "MOST_TURNS" = some (some (.int 8 t2)))
  (z0:PySem.W.nsIn K mainGlobals "abs" = some none)
  (z1:PySem.W.nsIn K mainGlobals "all" = some none)
  (z2:PySem.W.nsIn K mainGlobals "bool" = some none)
  (z3:PySem.W.nsIn K mainGlobals "dict" = some none)
  (z4:PySem.W.nsIn K mainGlobals "int" = some none)
  (z5:PySem.W.nsIn K mainGlobals "isinstance" = some none)
  (z6:PySem.W.nsIn K mainGlobals "len" = some none)
  (z7:PySem.W.nsIn K mainGlobals "list" = some none)
  (z8:PySem.W.nsIn K mainGlobals "max" = some none)
  (z9:PySem.W.nsIn K mainGlobals "min" = some none)
  (z10:PySem.W.nsIn K mainGlobals "range" = some none)
  (z11:PySem.W.nsIn K mainGlobals "reversed" = some none)
  (z12:PySem.W.nsIn K mainGlobals "sorted" = some none)
  (z13:PySem.W.nsIn K mainGlobals "str" = some none)
  (z14:PySem.W.nsIn K mainGlobals "tuple" = some none)
  (ca0:PySem.W.nsIn K mainGlobals "Walk" = some (some (.ref cc0)))
  (cb0:PySem.W.plainGet K cc0 Str.empty=true)
  (cd_0:PySem.W.hasDictIn K cc0=true)
  (ce0:PySem.W.plainOver K cc0=true)
  (cf0:PySem.W.findIn K (.ref cc0) "__setattr__" = some (some (.builtin "object.__setattr__")))
  (cg0:PySem.W.makesIn K cc0=true)
  (ch0:PySem.W.keepIn K (.ref cc0)=true)
  (n0_lacking:PySem.W.findIn K (.ref cc0) "lacking" = some none)
  (ca1:PySem.W.nsIn K mainGlobals "Drawer" = some (some (.ref cc1)))
  (cb1:PySem.W.plainGet K cc1 Str.empty=true)
  (cd_1:PySem.W.hasDictIn K cc1=true)
  (ce1:PySem.W.plainOver K cc1=true)
  (cf1:PySem.W.findIn K (.ref cc1) "__setattr__" = some (some (.builtin "object.__setattr__")))
  (cg1:PySem.W.makesIn K cc1=true)
  (ch1:PySem.W.keepIn K (.ref cc1)=true)
  (n1_answers:PySem.W.findIn K (.ref cc1) "answers" = some none)
  (n1_asked:PySem.W.findIn K (.ref cc1) "asked" = some none)
  : ∃a:Adr,Txt P w K mg a:=by
 obtain⟨f,d,F⟩:=CL.fi_all X G hf tab_ok
 exact⟨⟨f,d,t0,ga1,t2,cc0,cc1⟩,F,
  PySem.W.mg_of X G gl0,
  PySem.W.mg_of X G gl1,
  fun _=>.inr ⟨_,_,_,ql1,rfl,rfl,by show 3<=sizeLine; decide,(.cons ⟨_,rfl⟩ (.cons ⟨_,rfl⟩ (.cons ⟨_,rfl⟩ .nil)))⟩,
  PySem.W.mg_of X G gl2,
  PySem.W.mg_none_of X G z0,
  PySem.W.mg_none_of X G z1,
  PySem.W.mg_none_of X G z2,
  PySem.W.mg_none_of X G z3,
  PySem.W.mg_none_of X G z4,
  PySem.W.mg_none_of X G z5,
  PySem.W.mg_none_of X G z6,
  PySem.W.mg_none_of X G z7,
  PySem.W.mg_none_of X G z8,
  PySem.W.mg_none_of X G z9,
  PySem.W.mg_none_of X G z10,
  PySem.W.mg_none_of X G z11,
  PySem.W.mg_none_of X G z12,
  PySem.W.mg_none_of X G z13,
  PySem.W.mg_none_of X G z14,
  PySem.W.mg_of X G ca0,
  ⟨cb0,cd_0,ce0,cf0⟩,
  ⟨cg0,((F 36 rfl).M _ _ rfl (PySem.W.mg_of X G ca0)).1,((F 36 rfl).M _ _ rfl (PySem.W.mg_of X G ca0)).2,ch0⟩,
  n0_lacking,
  PySem.W.mg_of X G ca1,
  ⟨cb1,cd_1,ce1,cf1⟩,
  ⟨cg1,((F 39 rfl).M _ _ rfl (PySem.W.mg_of X G ca1)).1,((F 39 rfl).M _ _ rfl (PySem.W.mg_of X G ca1)).2,ch1⟩,
  n1_answers,
  n1_asked⟩
end K20
namespace K20
open PySem L2 CL
section
variable {P:Program}{w:World}{K:PySem.W.Frag}{mg:Str->Option Value}{base:Heap}{a:Adr}
structure Tp (C:CH)(t:Addr)(ns:List Int):Prop where
 at_:∃a b c:Int,C t=some (.lst [.fz (ns.map PV.int),.int a,.int b,.int c])/\0<=a/\0<=b/\0<=c
 len:ns.length<=63
def Ex (t:Addr)(C C':CH):Prop:=∀b o,b≠t->C b=some o->C' b=some o
theorem Ex.refl {t:Addr}{C:CH}:Ex t C C:=fun _ _ _ h=>h
theorem Ex.trans {t:Addr}{C C1 C2:CH}(h:Ex t C C1)(h':Ex t C1 C2):Ex t C C2:=fun b o n e=>h' b o n (h b o n e)
theorem Ex.new {t p:Addr}{C:CH}(hp:C p=none)(o:CO):Ex t C (yQ C p o):=fun b u _ e=>by
 rw[wQ (fun z=>by subst z; rw[hp] at e; cases e)]; exact e
def gTape:GC:=fun ts C Q=>∃ns:List Int,ts=[.fz (ns.map PV.int)]/\ns.length<=63/\∀t C',C t=none->Ex t C C'->Tp C' t ns->Q (.ref t) C'
theorem ok_tape (T:Txt P w K mg a):FnOk P w K mg base CX0 1 (a.f 9) (a.d 9) ["_law_script"] (spC K gTape):=by
 have S:=(T.F 9 rfl).s;refine(T.F 9 rfl).ok (fun ts C R h=>?_) fun cdv A outer s H E hr=>⟨_,(kQ (pQ (nX (qQ (cv 0) (qQ zQ (qQ zQ (ca1 zQ))))))),?_⟩
 .obtain ⟨ns,rfl,_⟩:=h; rfl
 rintro ts C R ⟨ns,rfl,hl,q⟩;show 4<=sizeLine/\∀p,C p=none->R (.ref p) (yQ C p (.lst [.fz (ns.map PV.int),.int 0,.int 0,.int 0]));exact⟨by decide,fun p hp=>q p _ hp (Ex.new hp _) ⟨⟨0,0,0,jQ,by decide,by decide,by decide⟩,hl⟩⟩
end
section
variable {P:Program}{w:World}{K:PySem.W.Frag}{mg:Str->Option Value}{base:Heap}{a:Adr}
theorem Ex.tape {t:Addr}{C:CH}(o:CO):Ex t C (yQ C t o):=fun b u n e=>by rw[wQ n]; exact e
theorem Vb {ns:List Int}{k:Int}(h0:0<=k)(h1:k < ((ns.map PV.int).length:Int)):∃v,atI (ns.map PV.int) k=some (.int v):=by
 unfold atI ixN;rw[if_pos h0,if_pos h1];rw[List.length_map] at h1;show ∃v,(ns.map PV.int)[k.toNat]?=some (.int v);rw[List.getElem?_map,List.getElem?_eq_getElem (by omega)];exact⟨_,rfl⟩
def gDraw:GC:=fun ts C Q=>∃(t:Addr) (m:Int) (ns:List Int),ts=[.ref t,.int m]/\Tp C t ns/\0 < m/\m < 4611686018427387904/\∀(v:Int) (C':CH),0<=v->v < m->Tp C' t ns->Ex t C C'->Q (.int v) C'
theorem lZ (T:Txt P w K mg a):FnOk P w K mg base CX0 1 (a.f 10) (a.d 10) U6 (spC K gDraw):=by
 have S:=(T.F 10 rfl).s
 refine(T.F 10 rfl).ok (fun ts C R h=>?_) fun cdv A outer s H E hr=>⟨_,(xQ (cs1 2 S.nd (cx (cv 0) zQ))
  (xQ (rP (eQ gX bX (cx (cv 0) zQ) zQ) (tD (cv 0) zQ))
  (xQ (zX (cw_pt (cw_and (ct2 mX iQ (cx (cv 0) zQ) zQ) (cw_and1 (ct2 sU lW (cx (cv 0) zQ) (cln T.eZ (cv 2)))))) (xQ (rP (eQ nT kE (xZ K2 cbi_abs rfl T.z_abs rfl (ca1 (cx (cv 2) (cx (cv 0) zQ)))) (eQ fA cR zQ zQ)) (tD (cv 0) zQ))
  (kQ (rP (eQ gX bX (cx (cv 0) zQ) zQ) (tD (cv 0) zQ)))) tQ)
  (xQ (zX (ct2 aJ rZ (cx (cv 0) zQ) zQ) (xQ (cs1 3 S.nd (eQ gG gW (cx (cv 0) zQ) (cv 1)))
  (xQ (rP (eQ nT kE (cx (cv 0) zQ) (cv 1)) (tD (cv 0) zQ))
  (kQ (pQ (cv 3))))) tQ)
  (xQ (cs1 4 S.nd zQ)
  (xQ (zX (ct2 aJ rZ (cln T.eZ (cv 2)) zQ) (kQ (cs1 4 S.nd (cx (cv 2) (eQ gG gW (cx (cv 0) zQ) (cln T.eZ (cv 2)))))) tQ)
  (xQ (cs1 5 S.nd (eQ gG gW (eQ gX bX (eQ gX bX (eQ qF bU (eQ gG gW (cv 4) zQ) zQ) (eQ qF bU (cx (cv 0) zQ) zQ)) zQ) zQ))
  (xQ (cs1 5 S.nd (eQ gG gW (eQ qF bU (cv 5) (eQ gX bX (cv 5) zQ)) zQ))
  (kQ (pQ (eQ gG gW (eQ gG gW (eQ qF bU (cv 5) zQ) zQ) (cv 1)))))))))))),?_⟩
 .obtain ⟨t,m,ns,rfl,_⟩:=h; rfl
 rintro ts C R ⟨t,m,ns,rfl,⟨⟨x,y,z,h,hx,hy,hz⟩,hl⟩,m0,m1,q⟩;refine dX h rfl ?_;refine dX h rfl ?_;refine mW ?_;refine setL h rfl ?_;dsimp only;have h1:(yQ C t (.lst [.fz (ns.map PV.int),.int (x+1),.int y,.int z])) t=_:=jQ;have e1:Ex t C (yQ C t (.lst [.fz (ns.map PV.int),.int (x+1),.int y,.int z])):=Ex.tape _;refine aQ (fun ρ' C'=>ρ'=[some (.ref t),some (.int m),some (.fz (ns.map PV.int)),none,none,none]/\∃y z:Int,C' t=some (.lst [.fz (ns.map PV.int),.int (x+1),.int y,.int z])/\0<=y/\0<=z/\Ex t C C') (fun L hL=>?_) ?_
 .refine dX h1 rfl ?_
  refine xX (aX _ _) ?_;refine mZ (fun hb=>?_) fun hb=>?_
  .refine dX h1 rfl ?_
   refine JP ?_;refine i_i ?_;refine mZ (fun hb2=>?_) fun hb2=>?_
   .obtain ⟨c,ea⟩:=Vb hz (of_decide_eq_true hb2)
    refine dX h1 rfl ?_;refine ix_f ea ?_;refine⟨⟨by decide,by decide,by decide⟩,⟨by decide,by decide⟩,?_⟩;refine setL h1 rfl ?_;refine dX jQ rfl ?_;refine mW ?_;refine setL jQ rfl ?_;refine hL _ _ ⟨rfl,_,_,jQ,?_,by omega,(e1.trans (Ex.tape _)).trans (Ex.tape _)⟩;refine Int.ediv_nonneg ?_ (by decide)
    split<;>omega
   .refine vX ?_
    exact hL _ _ ⟨rfl,y,z,h1,hy,hz,e1⟩
  .refine vM rfl ?_
   refine vX ?_;exact hL _ _ ⟨rfl,y,z,h1,hy,hz,e1⟩
 clear h1 e1;rintro ρ' C1 ⟨rfl,y',z',h1,hy',hz',e1⟩
 try dsimp only
 refine vZ ?_;refine dX h1 rfl ?_;refine i_i ?_;refine mZ (fun hb=>?_) fun hb=>?_
 .refine dX h1 rfl ?_
  refine⟨m0,?_⟩;refine dX h1 rfl ?_;refine⟨⟨m0,by omega⟩,?_⟩;refine setL h1 rfl ?_;exact q _ _ (Int.emod_nonneg _ (by omega)) (Int.emod_lt_of_pos _ m0) ⟨⟨_,_,_,jQ,by omega,Int.ediv_nonneg hy' (by omega),hz'⟩,hl⟩ (e1.trans (Ex.tape _))
 .refine vX ?_
  try dsimp only
  refine uQ (c_i ?_)
  try dsimp only
  refine aQ (fun ρ' C'=>C'=C1/\∃v:Int,ρ'=[some (.ref t),some (.int m),some (.fz (ns.map PV.int)),none,some (.int v),none]) (fun L hL=>?_) ?_
  .refine JP ?_
   refine i_i ?_;refine mZ (fun hb2=>?_) fun hb2=>?_
   .have hn:(0:Int) < ((ns.map PV.int).length:Int):=of_decide_eq_true hb2
    obtain⟨c,ea⟩:=Vb (Int.emod_nonneg (x+1) (b:=((ns.map PV.int).length:Int)) (by omega)) (Int.emod_lt_of_pos (x+1) hn);refine dX h1 rfl ?_;refine JP ?_;refine⟨hn,?_⟩;refine ix_f ea ?_;exact hL _ _ ⟨rfl,_,rfl⟩
   .refine vX ?_
    exact hL _ _ ⟨rfl,0,rfl⟩
  .rintro ρ' C2 ⟨rfl,v,rfl⟩
   try dsimp only
   refine uQ ?_;refine⟨(by show(0:Int) < _; decide),?_⟩;refine⟨.inr ⟨by decide,by decide⟩,?_⟩;refine dX h1 rfl ?_;refine⟨.inr ⟨by decide,by decide⟩,?_⟩;refine mW ?_;refine mW ?_;refine⟨(by show(0:Int) < _; decide),?_⟩;have b0:=Int.emod_nonneg (v % 2147483647 * 48271+(x+1) * 7919+12345) (b:=2147483629) (by decide);have b1:=Int.emod_lt_of_pos (v % 2147483647 * 48271+(x+1) * 7919+12345) (b:=2147483629) (by decide)
   try dsimp only
   refine uQ ?_;refine mW ?_;refine⟨.inl ⟨by omega,by omega⟩,?_⟩;refine⟨(by show(0:Int) < _; decide),?_⟩
   try dsimp only
   refine⟨.inr ⟨by decide,by decide⟩,?_⟩;refine⟨(by show(0:Int) < _; decide),?_⟩;refine⟨m0,?_⟩;exact q _ _ (Int.emod_nonneg _ (by omega)) (Int.emod_lt_of_pos _ m0) ⟨⟨_,_,_,h1,by omega,hy',hz'⟩,hl⟩ e1
end
section
variable {P:Program}{w:World}{K:PySem.W.Frag}{mg:Str->Option Value}{base:Heap}{a:Adr}
theorem Tp.ne {C:CH}{t p:Addr}{ns:List Int}(h:Tp C t ns)(hp:C p=none):p≠t:=fun e=>by
 obtain⟨⟨x,y,z,h,_⟩,_⟩:=h;rw[<- e,hp] at h;cases h
theorem Tp.new {C:CH}{t p:Addr}{ns:List Int}(h:Tp C t ns)(hp:C p=none)(o:CO):Tp (yQ C p o) t ns:=by
 have n:=h.ne hp;obtain⟨⟨x,y,z,h,q⟩,l⟩:=h;exact⟨⟨x,y,z,(wQ (Ne.symm n)).trans h,q⟩,l⟩
def POOL:List Str:=["a","ab","abc","b","ba","box","end","give","part","plain","turn","abcdefgh"]
theorem uK {α:Type}{f:α->PV}{ss:List α}{k:Int}(d:α)(h0:0<=k)(h1:k < (ss.length:Int)):atI (ss.map f) k=some (f (ss.getD k.toNat d)):=by
 unfold atI ixN;rw[if_pos h0,if_pos (by rw[List.length_map]; exact h1)];show(ss.map f)[k.toNat]?=_;rw[List.getElem?_map,List.getD_eq_getElem?_getD,List.getElem?_eq_getElem (by omega)]
 rfl
def JD (v c:Int)(i:Nat):Str:=POOL.getD ((v+c * (i:Int)) % 12).toNat ""
def pV (v c:Int)(m:Nat):List Str:=(List.range m).map (JD v c)
theorem Zm:∀v∈List.range 12,∀c∈[1,5,7,11],(pV (v:Nat) (c:Nat) 12).Nodup:=by decide +kernel
theorem kO {v c:Int}{m:Nat}(v0:0<=v)(v1:v < 12)(hc:c=1\/c=5\/c=7\/c=11)(hm:m<=12):(pV v c m).Nodup:=by
 have h12:(pV v c 12).Nodup:=by
  have:=Zm v.toNat (List.mem_range.2 (by omega));have ev:((v.toNat:Nat):Int)=v:=Int.toNat_of_nonneg v0
  rcases hc with rfl | rfl | rfl | rfl
  .have:=this 1 (by decide); rw[ev] at this; exact this
  .have:=this 5 (by decide); rw[ev] at this; exact this
  .have:=this 7 (by decide); rw[ev] at this; exact this
  .have:=this 11 (by decide); rw[ev] at this; exact this
 have e:pV v c m=(pV v c 12).take m:=by
  unfold pV;rw[<- List.map_take,List.take_range];rw[Nat.min_eq_left hm]
 rw[e];exact h12.sublist (List.take_sublist _ _)
theorem KG {c:TCE}{ρ:CSt}{Q:K1}(f:Nat->PV)(I:CH->Prop)(m:Nat)(h:∀(k:Nat) C (Q':K1),k < m->I C->(∀C',I C'->Q' (f k) C')->c (some (.int (k:Int))::ρ) C Q')
  (q:∀p C',I C'->C' p=none->Q (.ref p) (yQ C' p (.lst ((List.range m).map f)))):∀(n:Nat) (C:CH),n<=m->m<=1000->I C->kZ gB c ρ Q ((List.range m).drop n |>.map fun k=>PV.int (k:Nat)) ((List.range n).map f) C:=by
 suffices ∀j n C,n+j=m->m<=1000->I C->kZ gB c ρ Q ((List.range m).drop n |>.map fun k=>PV.int (k:Nat)) ((List.range n).map f) C by
  intro n C hn hm hI;exact this (m - n) n C (by omega) hm hI
 intro j
 induction j with
 |zero =>
  intro n C hn hm hI;have e:n=m:=by omega
  subst e;rw[List.drop_of_length_le (by rw[List.length_range]; exact Nat.le_refl _)];exact jW fun p hp=>q p C hI hp
 |succ j ih =>
  intro n C hn hm hI;rw[List.drop_eq_getElem_cons (by rw[List.length_range]; omega),List.map_cons,List.getElem_range];refine yX ?_;show c (some (.int (n:Int))::ρ) C fun y C2=>((List.range n).map f).length < sizeLine/\kZ gB c ρ Q _ ((List.range n).map f++[y]) C2;refine h n C _ (by omega) hI fun C' hI'=>⟨?_,?_⟩
  .rw [List.length_map,List.length_range]
   exact Nat.lt_of_lt_of_le (show n < 1001 by omega) (by decide)
  .have e:(List.range n).map f++[f n]=(List.range (n+1)).map f:=by rw[List.range_succ,List.map_append]; rfl
   rw[e];exact ih (n+1) C' (by omega) hm hI'
def Kk:GC:=fun ts C Q=>∃(t:Addr) (m:Int) (ns:List Int),ts=[.ref t,.int m]/\Tp C t ns/\0<=m/\m<=12/\∀(p:Addr) (ss:List Str) (C':CH),C' p=some (.lst (ss.map PV.str))->C p=none->p≠t->ss.length=m.toNat->ss.Nodup->Tp C' t ns->Ex t C C'->Q (.ref p) C'
theorem bG (T:Txt P w K mg a):FnOk P w K mg base CX0 2 (a.f 11) (a.d 11) U6 (spC K Kk):=by
 have S:=(T.F 11 rfl).s;have bQ:=lZ (base:=base) T
 refine(T.F 11 rfl).ok (fun ts C R h=>?_) fun cdv A outer s H E hr=>⟨_,(xQ (cs1 2 S.nd (nX (qQ vQ (qQ vQ (qQ vQ (qQ vQ (qQ vQ (qQ vQ (qQ vQ (qQ vQ (qQ vQ (qQ vQ (qQ vQ (ca1 vQ))))))))))))))
  (xQ (cs1 3 S.nd (cf (T.F 10 rfl) bQ hr (qQ (cv 0) (ca1 zQ))))
  (xQ (cs1 4 S.nd (cx (nX (qQ zQ (qQ zQ (qQ zQ (ca1 zQ))))) (cf (T.F 10 rfl) bQ hr (qQ (cv 0) (ca1 zQ)))))
  (kQ (pQ (bW rfl (S.c (by decide +kernel)) (S.k rfl rfl rfl (by decide +kernel)) (eP rfl T.nK (ca1 (cv 1))) (fun _ _ _ _ _=>wK) (fun _ _ _ _ _=>(cx (cv 3) (eQ gG gW (eQ gX bX (cv 4) (eQ qF bU (cv 5) (cv 0))) zQ))))))))),?_⟩
 .obtain ⟨t,m,ns,rfl,_⟩:=h; rfl
 rintro ts C R ⟨t,m,ns,rfl,hT,m0,m1,q⟩;refine⟨by decide,fun p hp=>?_⟩;dsimp only;refine⟨t,12,ns,rfl,hT.new hp _,by decide,by decide,fun v C1 v0 v1 T1 e1=>?_⟩;dsimp only;refine⟨by decide,fun p2 hp2=>⟨t,4,ns,rfl,T1.new hp2 _,by decide,by decide,fun k C2 k0 k1 T2 e2=>?_⟩⟩;have m1':C1 p=_:=e1 p _ (hT.ne hp) jQ;have e12:Ex t C1 C2:=(Ex.new hp2 _).trans e2;have m2:C2 p2=_:=e2 p2 _ (T1.ne hp2) jQ
 have ec:=uK (f:=PV.int) (ss:=[1,5,7,11]) 0 k0 k1
 have hc:[1,5,7,11].getD k.toNat (0:Int)=1\/[1,5,7,11].getD k.toNat (0:Int)=5\/[1,5,7,11].getD k.toNat (0:Int)=7\/[1,5,7,11].getD k.toNat (0:Int)=11:=by
  have:k=0\/k=1\/k=2\/k=3:=by omega
  rcases this with rfl | rfl | rfl | rfl
  .exact .inl rfl
  .exact .inr (.inl rfl)
  .exact .inr (.inr (.inl rfl))
  .exact .inr (.inr (.inr rfl))
 revert ec hc;generalize [1,5,7,11].getD k.toNat (0:Int)=c;intro ec hc;refine dX m2 ec ?_;dsimp only;refine⟨by omega,by omega,?_⟩;have m3:C2 p=_:=e12 p _ (hT.ne hp) m1';have e02:Ex t C C2:=((Ex.new hp _).trans e1).trans e12;have hb:c<=11/\1<=c:=by rcases hc with rfl | rfl | rfl | rfl<;>omega
 refine KG (fun i=>.str (JD v c i)) (fun C'=>C'=C2) m.toNat (fun i C3 Q' hi e hq=>?_) (fun p3 C3 e hp3=>?_) 0 C2 (Nat.zero_le _) (by omega) rfl
 .subst e
  refine⟨.inr ⟨by omega,by omega⟩,?_⟩;refine mW ?_;refine⟨(by show(0:Int) < _; decide),?_⟩;have r0:=Int.emod_nonneg (v+c * (i:Int)) (b:=12) (by decide);have r1:=Int.emod_lt_of_pos (v+c * (i:Int)) (b:=12) (by decide);refine dX m3 (uK (f:=PV.str) (ss:=POOL) "" r0 r1) ?_;exact hq _ rfl
 .subst e
  have hp0:C p3=none:=by
   cases z:C p3 with
   |none=>rfl
   |some o =>
    have n1:p3≠t:=T2.ne hp3;rw[e02 p3 o n1 z] at hp3;cases hp3
  refine q p3 (pV v c m.toNat) _ ?_ hp0 (T2.ne hp3) ?_ (kO v0 v1 hc (by omega)) (T2.new hp3 _) (e02.trans (Ex.new hp3 _))
  .rw [jQ]
   unfold pV;rw[List.map_map]
   rfl
  .unfold pV
   rw[List.length_map,List.length_range]
def QT:GC:=fun ts C Q=>∃(t:Addr) (ns:List Int),ts=[.ref t]/\Tp C t ns/\∀(i:Int) (C':CH),-1000000000<=i->i<=1000000000->Tp C' t ns->Ex t C C'->Q (.int i) C'
theorem at_ints {ns:List Int}{k:Int}{lo hi:Int}(hb:∀x∈ns,lo<=x/\x<=hi)(h0:0<=k)(h1:k < ((ns.map PV.int).length:Int)):∃v,atI (ns.map PV.int) k=some (.int v)/\lo<=v/\v<=hi:=by
 unfold atI ixN;rw[if_pos h0,if_pos h1];rw[List.length_map] at h1;show ∃v,(ns.map PV.int)[k.toNat]?=some (.int v)/\lo<=v/\v<=hi;rw[List.getElem?_map,List.getElem?_eq_getElem (by omega)];exact⟨_,rfl,hb _ (List.getElem_mem _)⟩
theorem kU (T:Txt P w K mg a):FnOk P w K mg base CX0 2 (a.f 12) (a.d 12) U13 (spC K QT):=by
 have S:=(T.F 12 rfl).s;have bQ:=lZ (base:=base) T
 refine(T.F 12 rfl).ok (fun ts C R h=>?_) fun cdv A outer s H E hr=>⟨_,(xQ (zX (ct2 aJ rZ (cf (T.F 10 rfl) bQ hr (qQ (cv 0) (ca1 zQ))) zQ) (kQ (pQ (eQ zV fJ (cf (T.F 10 rfl) bQ hr (qQ (cv 0) (ca1 zQ))) zQ))) tQ)
  (kQ (pQ (cx (nX (qQ (eQ fA cR zQ zQ) (qQ (jC sM uU (eQ fA cR zQ zQ)) (qQ zQ (ca1 (jC sM uU zQ)))))) (cf (T.F 10 rfl) bQ hr (qQ (cv 0) (ca1 zQ))))))),?_⟩
 .obtain ⟨t,ns,rfl,_⟩:=h; rfl
 rintro ts C R ⟨t,ns,rfl,hT,q⟩;refine⟨t,8,ns,rfl,hT,by decide,by decide,fun v C1 v0 v1 T1 e1=>?_⟩;refine i_i ?_;refine mZ (fun hb=>?_) fun hb=>?_
 .refine ⟨t,9,ns,rfl,T1,by decide,by decide,fun v C2 v0 v1 T2 e2=>?_⟩
  refine i_i ?_;exact q (v - 3) C2 (by omega) (by omega) T2 (e1.trans e2)
 .refine vX ?_
  try dsimp only
  refine⟨⟨by decide,by decide,by decide⟩,?_⟩;refine⟨⟨by decide,by decide,by decide⟩,?_⟩;refine⟨by decide,fun p2 hp2=>?_⟩;refine⟨t,4,ns,rfl,T1.new hp2 _,by decide,by decide,fun k C2 k0 k1 T2 e2=>?_⟩;have m2:C2 p2=_:=e2 p2 _ (T1.ne hp2) jQ;obtain⟨c,ec,c0,c1⟩:=at_ints (ns:=[10 ^ 9,-10 ^ 9,999983,-70001]) (lo:=-1000000000) (hi:=1000000000) (by decide) k0 k1;refine dX m2 ec ?_;exact q c C2 c0 c1 T2 ((e1.trans (Ex.new hp2 _)).trans e2)
end
inductive Rk where
 |num (i:Int) | turn (n:Str) | ask (s n:Str) | bin (w:Str) (x y:Rk) | pick (x y z:Rk)
def Rk.pv:Rk->PV
 |.num i=>.tup [.str "num",.int i]
 |.turn n=>.tup [.str "turn",.str n]
 |.ask s n=>.tup [.str s,.str n]
 |.bin w x y=>.tup [.str w,x.pv,y.pv]
 |.pick x y z=>.tup [.str "pick",x.pv,y.pv,z.pv]
def cE (bs:List Str)(s n:Str):Prop:=((s = "take"\/s = "down")/\n∈(["a","ab","b"]:List Str))\/(s = "box"/\n∈bs)
def Rk.ok (bs τ:List Str):Nat->Rk->Prop
 |_,.num i=>-1000000000<=i/\i<=1000000000
 |_,.turn n=>n∈τ
 |_,.ask s n=>cE bs s n
 |0,.bin _ _ _=>False
 |0,.pick _ _ _=>False
 |d+1,.bin w x y=>(w = "add"\/w = "times"\/w = "less")/\x.ok bs τ d/\y.ok bs τ d
 |d+1,.pick x y z=>x.ok bs τ d/\y.ok bs τ d/\z.ok bs τ d
theorem Rk.ok.up {bs τ:List Str}:∀{d:Nat}{r:Rk},r.ok bs τ d->r.ok bs τ (d+1)
 |d,.num i,h=>by unfold Rk.ok at h ⊢; exact h
 |d,.turn n,h=>by unfold Rk.ok at h ⊢; exact h
 |d,.ask s n,h=>by unfold Rk.ok at h ⊢; exact h
 |0,.bin _ _ _,h=>by unfold Rk.ok at h; exact h.elim
 |0,.pick _ _ _,h=>by unfold Rk.ok at h; exact h.elim
 |d+1,.bin w x y,h=>by
  unfold Rk.ok at h ⊢;exact⟨h.1,h.2.1.up,h.2.2.up⟩
 |d+1,.pick x y z,h=>by
  unfold Rk.ok at h ⊢;exact⟨h.1.up,h.2.1.up,h.2.2.up⟩
theorem Rk.ok.mono {bs τ:List Str}{d e:Nat}{r:Rk}(h:r.ok bs τ d)(l:d<=e):r.ok bs τ e:=by
 induction l with
 |refl=>exact h
 |step _ ih=>exact ih.up
structure Kt where
 b:Addr
 r:Addr
 bs:List Str
 rs:List Str
 l:Int
 p:Int
 e:Int
 la:Option Str
def kG:Option Str->PV
 |none=>.non
 |some s=>.str s
def hX (b r:Addr)(l p e:Int)(la:PV):List (Key×PV):=[(.inr "boxes",.ref b),(.inr "rest",.ref r),(.inr "left",.int l),(.inr "parts",.int p),(.inr "eaches",.int e),(.inr "last",la)]
structure KAt (C:CH)(t k:Addr)(κ:Kt):Prop where
 at_:C k=some (.dK (hX κ.b κ.r κ.l κ.p κ.e (kG κ.la)))
 bx:C κ.b=some (.lst (κ.bs.map PV.str))
 rx:C κ.r=some (.lst (κ.rs.map PV.str))
 nk:k≠t
 nb:κ.b≠t
 nr:κ.r≠t
 lb:κ.bs.length<=4
 lr:κ.rs.length<=6
theorem KAt.ex {C C':CH}{t k:Addr}{κ:Kt}(h:KAt C t k κ)(e:Ex t C C'):KAt C' t k κ :=
 ⟨e _ _ h.nk h.at_,e _ _ h.nb h.bx,e _ _ h.nr h.rx,h.nk,h.nb,h.nr,h.lb,h.lr⟩
section
variable {b r:Addr}{l p e:Int}{la:PV}
theorem nV:cZ (hX b r l p e la) (.inr "boxes")=some (.ref b):=rfl
theorem vL:cZ (hX b r l p e la) (.inr "rest")=some (.ref r):=rfl
theorem dB:cZ (hX b r l p e la) (.inr "left")=some (.int l):=rfl
theorem xN:cZ (hX b r l p e la) (.inr "parts")=some (.int p):=rfl
theorem wL:cZ (hX b r l p e la) (.inr "eaches")=some (.int e):=rfl
theorem cS:cZ (hX b r l p e la) (.inr "last")=some la:=rfl
theorem yT {l':Int}:fZ (hX b r l p e la) (.inr "left") (.int l')=hX b r l' p e la:=rfl
theorem Xz {l':Int}:fZ (hX b r l p e la) (.inr "parts") (.int l')=hX b r l l' e la:=rfl
theorem dL {l':Int}:fZ (hX b r l p e la) (.inr "eaches") (.int l')=hX b r l p l' la:=rfl
end
theorem kY {ss:List Str}{i:Int}(h0:0<=i)(h1:i < (ss.length:Int)):ss.getD i.toNat "" ∈ ss:=by
 rw[List.getD_eq_getElem?_getD,List.getElem?_eq_getElem (by omega)];exact List.getElem_mem _
section
variable {P:Program}{w:World}{K:PySem.W.Frag}{mg:Str->Option Value}{base:Heap}{a:Adr}
def gLeaf:GC:=fun ts C Q=>∃(t k:Addr) (τ:List Str) (ns:List Int) (κ:Kt),ts=[.ref t,.ref k,.tup (τ.map PV.str)]/\Tp C t ns/\KAt C t k κ/\τ.length<=4/\∀(r:Rk) (C':CH),r.ok κ.bs τ 0->Tp C' t ns->Ex t C C'->Q r.pv C'
theorem jR (T:Txt P w K mg a):FnOk P w K mg base CX0 3 (a.f 13) (a.d 13) U1 (spC K gLeaf):=by
 have S:=(T.F 13 rfl).s;have bQ:=(lZ (base:=base) T).mono (show 1<=2 by decide);have dJ:=kU (base:=base) T
 refine(T.F 13 rfl).ok (fun ts C R h=>?_) fun cdv A outer s H E hr=>⟨_,(xQ (cs1 3 S.nd (cf (T.F 10 rfl) bQ hr (qQ (cv 0) (ca1 zQ))))
  (xQ (zX (ct2 mX iQ (cv 3) zQ) (kQ (pQ (fQ (qQ vQ (ca1 (cx (nX (qQ vQ (qQ vQ (ca1 vQ)))) (cf (T.F 10 rfl) bQ hr (qQ (cv 0) (ca1 zQ))))))))) tQ)
  (xQ (zX (ct2 mX iQ (cv 3) zQ) (kQ (pQ (fQ (qQ vQ (ca1 (cx (nX (qQ vQ (qQ vQ (ca1 vQ)))) (cf (T.F 10 rfl) bQ hr (qQ (cv 0) (ca1 zQ))))))))) tQ)
  (xQ (zX (cw_pt (cw_and (ct2 sU lW (cv 3) zQ) (cw_and1 (ct2 aJ rZ (cln T.eZ (bZ (oX hr) (cv 1) vQ (fun _ _=>rfl))) zQ)))) (kQ (pQ (fQ (qQ vQ (ca1 (cx (bZ (oX hr) (cv 1) vQ (fun _ _=>rfl)) (cf (T.F 10 rfl) bQ hr (qQ (cv 0) (ca1 (cln T.eZ (bZ (oX hr) (cv 1) vQ (fun _ _=>rfl)))))))))))) tQ)
  (xQ (zX (cw_pt (cw_and (ct2 mX iQ (cv 3) zQ) (cw_and1 (ct2 aJ rZ (cln T.eZ (cv 2)) zQ)))) (kQ (pQ (fQ (qQ vQ (ca1 (cx (cv 2) (cf (T.F 10 rfl) bQ hr (qQ (cv 0) (ca1 (cln T.eZ (cv 2))))))))))) tQ)
  (kQ (pQ (fQ (qQ vQ (ca1 (cf (T.F 12 rfl) dJ hr (ca1 (cv 0))))))))))))),?_⟩
 .obtain ⟨t,k,τ,ns,κ,rfl,_⟩:=h; rfl
 rintro ts C R ⟨t,k,τ,ns,κ,rfl,hT,hk,hτ,q⟩;refine⟨t,6,ns,rfl,hT,by decide,by decide,fun v C1 v0 v1 T1 e1=>?_⟩
 try dsimp only
 have hk1:=hk.ex e1
 have tail:∀C2,Tp C2 t ns->Ex t C C2->QT [.ref t] C2 fun x C3=>2<=sizeLine/\R (.tup [.str "num",x]) C3:=by
  intro C2 T2 e2;refine⟨t,ns,rfl,T2,fun i C3 i0 i1 T3 e3=>⟨by decide,?_⟩⟩;exact q (.num i) C3 ⟨i0,i1⟩ T3 (e2.trans e3)
 refine vZ ?_;refine xX (aX _ _) ?_;refine mZ (fun hb=>?_) fun hb=>?_
 .refine ⟨by decide,fun p hp=>?_⟩
  refine⟨t,3,ns,rfl,T1.new hp _,by decide,by decide,fun i C2 i0 i1 T2 e2=>?_⟩;refine dX (e2 p _ (T1.ne hp) jQ) (uK (f:=PV.str) (ss:=["a","ab","b"]) "" i0 i1) ?_;refine⟨by show 2<=sizeLine; decide,?_⟩;exact q (.ask "take" _) C2 (.inl ⟨.inl rfl,kY (ss:=["a","ab","b"]) i0 i1⟩) T2 ((e1.trans (Ex.new hp _)).trans e2)
 refine vX ?_
 try dsimp only
 refine vZ ?_;refine xX (aX _ _) ?_;refine mZ (fun hb=>?_) fun hb=>?_
 .refine ⟨by decide,fun p hp=>?_⟩
  refine⟨t,3,ns,rfl,T1.new hp _,by decide,by decide,fun i C2 i0 i1 T2 e2=>?_⟩;refine dX (e2 p _ (T1.ne hp) jQ) (uK (f:=PV.str) (ss:=["a","ab","b"]) "" i0 i1) ?_;refine⟨by show 2<=sizeLine; decide,?_⟩;exact q (.ask "down" _) C2 (.inl ⟨.inr rfl,kY (ss:=["a","ab","b"]) i0 i1⟩) T2 ((e1.trans (Ex.new hp _)).trans e2)
 refine vX ?_
 try dsimp only
 refine aQ (fun ρ' C'=>C'=C1/\ρ'=[some (.ref t),some (.ref k),some (.tup (τ.map PV.str)),some (.int v)]) (fun L hL=>?_) ?_
 .refine i_i ?_
  refine mZ (fun hb=>?_) fun hb=>?_
  .refine nJ hk1.at_ rfl nV ?_
   refine iW hk1.bx ?_;refine i_i ?_;refine mZ (fun hb2=>?_) fun hb2=>?_
   .refine nJ hk1.at_ rfl nV ?_
    refine nJ hk1.at_ rfl nV ?_;refine iW hk1.bx ?_;have hl:=hk1.lb;rw[List.length_map] at hb2 ⊢;have hb3:=of_decide_eq_true hb2;refine⟨t,_,ns,rfl,T1,hb3,by omega,fun i C2 i0 i1 T2 e2=>?_⟩;refine dX ((hk1.ex e2).bx) (uK (f:=PV.str) "" i0 i1) ?_;refine⟨by show 2<=sizeLine; decide,?_⟩;exact q (.ask "box" _) C2 (.inr ⟨rfl,kY i0 i1⟩) T2 (e1.trans e2)
   .refine vX ?_
    exact hL _ _ ⟨rfl,rfl⟩
  .refine vM rfl ?_
   refine vX ?_;exact hL _ _ ⟨rfl,rfl⟩
 rintro ρ' C' ⟨rfl,rfl⟩
 try dsimp only
 refine aQ (fun ρ' C''=>C''=C'/\ρ'=[some (.ref t),some (.ref k),some (.tup (τ.map PV.str)),some (.int v)]) (fun L hL=>?_) ?_
 .refine xX (aX _ _) ?_
  refine mZ (fun hb=>?_) fun hb=>?_
  .refine pN ?_
   refine i_i ?_;refine mZ (fun hb2=>?_) fun hb2=>?_
   .refine pN ?_
    rw[List.length_map] at hb2 ⊢;have hb3:=of_decide_eq_true hb2;refine⟨t,_,ns,rfl,T1,hb3,by omega,fun i C2 i0 i1 T2 e2=>?_⟩;refine rX (uK (f:=PV.str) "" i0 i1) ?_;refine⟨by show 2<=sizeLine; decide,?_⟩;exact q (.turn _) C2 (kY i0 i1) T2 (e1.trans e2)
   .refine vX ?_
    exact hL _ _ ⟨rfl,rfl⟩
  .refine vM rfl ?_
   refine vX ?_;exact hL _ _ ⟨rfl,rfl⟩
 rintro ρ' C'' ⟨rfl,rfl⟩
 try dsimp only
 exact tail _ T1 e1
end
theorem QR {b:Bool}{C:CH}{Q:K1}(q:Q (.int (if b then 1 else 0)) C):cInt [.bl b] C Q:=by
 unfold cInt;exact q
def rngP (m:Nat):List PV:=(List.range m).map fun k=>PV.int (k:Nat)
theorem ZP (m:Nat):(rngP m).length=m:=by unfold rngP; rw[List.length_map,List.length_range]
section
variable {P:Program}{w:World}{K:PySem.W.Frag}{mg:Str->Option Value}{base:Heap}{a:Adr}
def pI (d:Nat):GC:=fun ts C Q=>∃(t k:Addr) (τ:List Str) (ns:List Int) (κ:Kt),ts=[.ref t,.ref k,.tup (τ.map PV.str),.int (d:Nat)]/\Tp C t ns/\KAt C t k κ/\τ.length<=4/\∀(r:Rk) (C':CH),r.ok κ.bs τ d->Tp C' t ns->Ex t C C'->Q r.pv C'
theorem aL (T:Txt P w K mg a)(d:Nat):FnOk P w K mg base CX0 (d+4) (a.f 14) (a.d 14) U0 (spC K (pI d)):=by
 have main:∀n,(∀d',n=d'+1->FnOk P w K mg base CX0 (d'+4) (a.f 14) (a.d 14) U0 (spC K (pI d')))->FnOk P w K mg base CX0 (n+4) (a.f 14) (a.d 14) U0 (spC K (pI n)):=by
  intro n ih;have S:=(T.F 14 rfl).s;have bQ:=(lZ (base:=base) T).mono (show 1<=n+3 by omega);have iG:=(jR (base:=base) T).mono (show 3<=n+3 by omega)
  have pJ:FnOk P w K mg base CX0 (n+3) (a.f 14) (a.d 14) U0 (spC K (fun ts C Q=>∃d',n=d'+1/\pI d' ts C Q)):=by
   cases n with
   |zero=>exact⟨fun vs H Q E ⟨ts,C,R,_,_,⟨d',e,_⟩,_⟩=>by omega,fun _ _ _ _ _ _ _ _ _ _ _ _ _ ⟨ts,C,R,_,_,⟨d',e,_⟩,_⟩=>by omega⟩
   |succ d' =>
    have:=ih d' rfl
    have e:(fun ts C Q=>∃d'',d'+1=d''+1/\pI d'' ts C Q)=pI d':=by
     funext ts C Q
     refine propext ⟨fun⟨d'',e,h⟩=>?_,fun h=>⟨d',rfl,h⟩⟩;cases Nat.succ.inj e;exact h
    rw[e];exact this
  refine(T.F 14 rfl).ok (fun ts C R h=>?_) fun cdv A outer s H E hr=>⟨_,(xQ (cs1 4 S.nd (cf (T.F 10 rfl) bQ hr (qQ (cv 0) (ca1 zQ))))
  (xQ (zX (cw_pt (cw_or (ct2 mX iQ (cv 3) zQ) (cw_or1 (ct2 sU lW (cv 4) zQ)))) (kQ (pQ (cf (T.F 13 rfl) iG hr (qQ (cv 0) (qQ (cv 1) (ca1 (cv 2))))))) tQ)
  (xQ (cs1 5 S.nd (cx (nX (qQ vQ (qQ vQ (qQ vQ (ca1 vQ))))) (eQ zV fJ (cv 4) zQ)))
  (xQ (cs1 6 S.nd (cx (nX (qQ zQ (ca1 zQ))) (kJ fU aD rfl T.fS rfl (ca1 (sG mX iQ (cv 5) vQ (dY _))))))
  (kQ (pQ (eQ gX bX (fQ (ca1 (cv 5))) (ctp T.eX (bW rfl (S.c (by decide +kernel)) (S.k rfl rfl rfl (by decide +kernel)) (eP rfl T.nK (ca1 (cv 6))) (fun _ _ _ _ _=>wK) (fun _ _ _ _ _=>(cf (T.F 14 rfl) pJ hr (qQ (cv 1) (qQ (cv 2) (qQ (cv 3) (ca1 (eQ zV fJ (cv 4) zQ)))))))))))))))),?_⟩
  .obtain ⟨t,k,τ,ns,κ,rfl,_⟩:=h; rfl
  rintro ts C R ⟨t,k,τ,ns,κ,rfl,hT,hk,hτ,q⟩;refine⟨t,8,ns,rfl,hT,by decide,by decide,fun v C1 v0 v1 T1 e1=>?_⟩
  try dsimp only
  have hk1:=hk.ex e1
  have leaf:∀E':K1,E'=R->gLeaf [.ref t,.ref k,.tup (τ.map PV.str)] C1 E':=by
   rintro E' rfl;exact⟨t,k,τ,ns,κ,rfl,T1,hk1,hτ,fun r C2 hr T2 e2=>q r C2 (hr.mono (Nat.zero_le _)) T2 (e1.trans e2)⟩
  refine aQ (fun ρ' C'=>C'=C1/\0 < n/\4<=v/\ρ'=[some (.ref t),some (.ref k),some (.tup (τ.map PV.str)),some (.int (n:Nat)),some (.int v),none,none]) (fun L hL=>?_) ?_
  .refine xX (aX _ _) ?_
   refine mZ (fun hb=>?_) fun hb=>?_
   .refine if_y rfl ?_
    exact leaf _ rfl
   .refine i_i ?_
    refine mZ (fun hb2=>?_) fun hb2=>?_
    .exact leaf _ rfl
    .refine vX ?_
     have:=of_decide_eq_false hb;have:=of_decide_eq_false hb2;exact hL _ _ ⟨rfl,by omega,by omega,rfl⟩
  rintro ρ' C' ⟨rfl,hn,hv,rfl⟩
  try dsimp only
  obtain⟨d',rfl⟩:∃d',n=d'+1:=⟨n - 1,by omega⟩
  have fin:∀(wd:Str) (m:Nat) (C2:CH),(m=2/\(wd = "add"\/wd = "times"\/wd = "less"))\/(m=3/\wd = "pick")->Tp C2 t ns->Ex t C C2 ->
    ∀(c:TCE) (ρ:CSt) (Q:K1),(∀x C3 (L:K1),Tp C3 t ns->Ex t C C3->(∀r C4,Rk.ok κ.bs τ d' r->Tp C4 t ns->Ex t C C4->L r.pv C4)->c (some x::ρ) C3 L)->(∀(p:Addr) (rs:List Rk) (C3:CH),Tp C3 t ns->Ex t C C3->C3 p=some (.lst (rs.map Rk.pv))->(∃r:Rk,r.ok κ.bs τ (d'+1)/\r.pv=.tup (.str wd::rs.map Rk.pv)/\rs.length<=3)->Q (.ref p) C3) ->
    kZ gB c ρ Q (rngP m) [] C2:=by
   intro wd m C2 hw T2 e2 c ρ Q step fin;refine yY (fun zs acc C3=>Tp C3 t ns/\Ex t C C3/\∃rs:List Rk,acc=rs.map Rk.pv/\rs.length+zs.length=m/\∀r∈rs,Rk.ok κ.bs τ d' r) ?_ ?_ _ _ _ ⟨T2,e2,[],rfl,by rw[ZP]; exact Nat.zero_add _,fun r hr=>nomatch hr⟩
   .rintro x r acc C3 ⟨T3,e3,rs,rfl,hl,ho⟩ L hL
    refine step x C3 L T3 e3 fun r4 C4 ok4 T4 e4=>hL _ _ ⟨?_,T4,e4,rs++[r4],by rw[List.map_append]; rfl,by rw[List.length_append,List.length_singleton]; rw[List.length_cons] at hl; omega,fun r hr=>?_⟩
    .rw [List.length_map]
     exact Nat.lt_of_lt_of_le (show rs.length < 4 by omega) (by decide)
    .rcases List.mem_append.1 hr with hr | hr
     .exact ho r hr
     .cases List.mem_singleton.1 hr; exact ok4
   .rintro acc C3 ⟨T3,e3,rs,rfl,hl,ho⟩ p hp
    refine fin p rs _ (T3.new hp _) (e3.trans (Ex.new hp _)) jQ ?_;rw[List.length_nil,Nat.add_zero] at hl
    rcases hw with ⟨rfl,hw⟩ | ⟨rfl,hw⟩
    .match rs,hl with
     |[x,y],_=>exact⟨.bin wd x y,by unfold Rk.ok; exact⟨hw,ho x (by simp),ho y (by simp)⟩,rfl,by show 2<=3; decide⟩
    .match rs,hl with
     |[x,y,z],_=>exact⟨.pick x y z,by unfold Rk.ok; exact⟨ho x (by simp),ho y (by simp),ho z (by simp)⟩,by rw[hw]; rfl,by show 3<=3; decide⟩
  refine uQ ?_;refine⟨by decide,fun p hp=>?_⟩;refine i_i ?_;have T2:=T1.new hp (.lst [PV.str "add",PV.str "times",PV.str "less",PV.str "pick"]);have e2:=e1.trans (Ex.new hp (.lst [PV.str "add",PV.str "times",PV.str "less",PV.str "pick"]));have cases4:v=4\/v=5\/v=6\/v=7:=by omega
  obtain⟨wd,m,hat,hw⟩:∃(wd:Str) (m:Nat),atI ([PV.str "add",PV.str "times",PV.str "less",PV.str "pick"]) (v - 4)=some (.str wd)/\((m=2/\(wd = "add"\/wd = "times"\/wd = "less"))\/(m=3/\wd = "pick")):=by
   rcases cases4 with rfl | rfl | rfl | rfl
   .exact ⟨"add",2,rfl,.inl ⟨rfl,.inl rfl⟩⟩
   .exact ⟨"times",2,rfl,.inl ⟨rfl,.inr (.inl rfl)⟩⟩
   .exact ⟨"less",2,rfl,.inl ⟨rfl,.inr (.inr rfl)⟩⟩
   .exact ⟨"pick",3,rfl,.inr ⟨rfl,rfl⟩⟩
  refine dX jQ hat ?_
  try dsimp only
  refine uQ ?_;refine⟨by decide,fun p2 hp2=>?_⟩;refine xX (lQ _ _) ?_;refine QR ?_
  have hat2:atI [PV.int 2,PV.int 3] (if decide (wd = "pick") then 1 else 0)=some (.int (m:Nat)):=by
   rcases hw with ⟨rfl,hw⟩ | ⟨rfl,rfl⟩
   .have:¬ wd = "pick":=by rcases hw with rfl | rfl | rfl<;>decide
    rw[decide_eq_false this]; rfl
   .rfl
  refine dX jQ hat2 ?_
  try dsimp only
  refine⟨by show 1<=sizeLine; decide,?_⟩;have hm:m<=3:=by rcases hw with ⟨rfl,_⟩ | ⟨rfl,_⟩<;>decide
  refine⟨by omega,by omega,?_⟩;refine fin wd m _ hw (T2.new hp2 _) (e2.trans (Ex.new hp2 _)) _ _ _ (fun x C3 L T3 e3 hL=>?_) fun p3 rs C3 T3 e3 m3 hr=>?_
  .refine i_i ?_
   refine⟨d',rfl,t,k,τ,ns,κ,?_,T3,hk.ex e3,hτ,fun r C4 ok4 T4 e4=>hL r C4 ok4 T4 (e3.trans e4)⟩;have:((d'+1:Nat):Int) - 1=(d':Nat):=by omega
   rw[this]
  .obtain ⟨r,ok,ep,lr⟩:=hr
   refine cJ m3 ?_;refine uC (by show 1+_<=sizeLine; rw[List.length_map]; exact Nat.le_trans (show 1+rs.length<=4 by omega) (by decide)) ?_;have:=q r C3 ok T3 e3;rw[ep] at this;exact this
 induction d with
 |zero=>exact main 0 fun d' e=>by omega
 |succ d ih=>exact main (d+1) fun d' e=>by cases Nat.succ.inj e; exact ih
end
def lU:Option Rk->PV
 |none=>.non
 |some r=>r.pv
def bO (bs τ:List Str):Option Rk->Prop
 |none=>True
 |some r=>r.ok bs τ 0
def mV (c:Str×Rk):PV:=.tup [.str c.1,c.2.pv]
def aH (bs τ:List Str)(d:Nat)(ps:List (Str×Rk)):Prop:=∀c∈ps,c.2.ok bs τ d
theorem at_last {τ:List Str}(h:0 < τ.length):∃s∈τ,atI (τ.map PV.str) (-1)=some (.str s):=by
 unfold atI ixN;rw[if_neg (by decide),List.length_map,if_pos (by omega)];have:((τ.length:Int) + -1).toNat < τ.length:=by omega
 refine⟨τ[((τ.length:Int) + -1).toNat],List.getElem_mem _,?_⟩;show(τ.map PV.str)[((τ.length:Int) + -1).toNat]?=_;rw[List.getElem?_map,List.getElem?_eq_getElem this]
 rfl
theorem cl_l {t:TCT}{c:TCE}{i:Nat}{a:Addr}{xs:List PV}{ρ:CSt}{C:CH}{Q:K1}(h:C a=some (.lst xs))(hv:ρ[i]?=some (some (.ref a)))(q:oG (fun C=>C a=some (.lst xs)) t c ρ Q xs [] C):fF (pZ i) t c ρ C Q:=by
 unfold fF pZ;rw[hv];dsimp only;rw[h];exact q
theorem sY {β:Type}{c:TCE}{ρ:CSt}{Q:K1}{p:Addr}{ss:List Str}(mk:Str×β->PV)(ok:β->Prop)(J:CH->Prop)(hJ:∀C,J C->C p=some (.lst (ss.map PV.str)))(hl:ss.length<=1000)
  (step:∀z C (L:K1),J C->(∀b C',ok b->J C'->L (mk (z,b)) C')->c (some (.str z)::ρ) C L)
  (fin:∀(bs:List (Str×β)) C p',J C->C p'=none->bs.map (·.1)=ss->(∀x∈bs,ok x.2)->Q (.ref p') (yQ C p' (.lst (bs.map mk)))) {C:CH} (hC:J C) :
  oG (fun C=>C p=some (.lst (ss.map PV.str))) gB c ρ Q (ss.map PV.str) [] C:=by
 refine zC (fun zs acc C=>J C/\∃(bs:List (Str×β)) (us:List Str),zs=us.map PV.str/\acc=bs.map mk/\bs.map (·.1)++us=ss/\∀x∈bs,ok x.2) (fun _ _ _ h=>hJ _ h.1) ?_ ?_ _ _ _ ⟨hC,[],ss,rfl,rfl,rfl,fun x h=>nomatch h⟩
 .rintro x r acc C1 ⟨j1,bs,us,hz,rfl,e,o⟩ L hL
  cases us with
  |nil=>cases hz
  |cons u us =>
   obtain⟨rfl,rfl⟩:=List.cons.inj hz;refine step u C1 L j1 fun b C' ob j'=>hL _ _ ⟨?_,j',bs++[(u,b)],us,rfl,by rw[List.map_append]; rfl,by rw[List.map_append,List.append_assoc]; exact e,fun x hx=>?_⟩
   .have:=congrArg List.length e
    rw[List.length_append,List.length_map,List.length_cons] at this;rw[List.length_map];exact Nat.lt_of_lt_of_le (show bs.length < 1001 by omega) (by decide)
   .rcases List.mem_append.1 hx with hx | hx
    .exact o x hx
    .cases List.mem_singleton.1 hx; exact ob
 .rintro acc C1 ⟨j1,bs,us,hz,rfl,e,o⟩ p' hp
  cases us with
  |nil=>rw[List.append_nil] at e; exact fin bs C1 p' j1 hp e o
  |cons u us=>cases hz
section
variable {P:Program}{w:World}{K:PySem.W.Frag}{mg:Str->Option Value}{base:Heap}{a:Adr}
def gKey:GC:=fun ts C Q=>∃(t k:Addr) (τ:List Str) (ns:List Int) (κ:Kt),ts=[.ref t,.ref k,.tup (τ.map PV.str)]/\Tp C t ns/\KAt C t k κ/\τ.length<=4/\∀(o:Option Rk) (C':CH),bO κ.bs τ o->Tp C' t ns->Ex t C C'->Q (lU o) C'
theorem dA (T:Txt P w K mg a):FnOk P w K mg base CX0 4 (a.f 15) (a.d 15) U1 (spC K gKey):=by
 have S:=(T.F 15 rfl).s;have bQ:=(lZ (base:=base) T).mono (show 1<=3 by decide);have iG:=jR (base:=base) T
 refine(T.F 15 rfl).ok (fun ts C R h=>?_) fun cdv A outer s H E hr=>⟨_,(xQ (cs1 3 S.nd (cf (T.F 10 rfl) bQ hr (qQ (cv 0) (ca1 zQ))))
  (xQ (zX (ct2 sU lW (cv 3) zQ) (kQ (pQ rG)) tQ)
  (xQ (zX (cw_pt (cw_and (ct2 mX iQ (cv 3) zQ) (cw_and1 (ct2 aJ rZ (cln T.eZ (cv 2)) zQ)))) (kQ (pQ (fQ (qQ vQ (ca1 (cx (cv 2) (jC sM uU zQ))))))) tQ)
  (kQ (pQ (cf (T.F 13 rfl) iG hr (qQ (cv 0) (qQ (cv 1) (ca1 (cv 2)))))))))),?_⟩
 .obtain ⟨t,k,τ,ns,κ,rfl,_⟩:=h; rfl
 rintro ts C R ⟨t,k,τ,ns,κ,rfl,hT,hk,hτ,q⟩;refine⟨t,4,ns,rfl,hT,by decide,by decide,fun v C1 v0 v1 T1 e1=>?_⟩
 try dsimp only
 have hk1:=hk.ex e1;refine vZ ?_;refine i_i ?_;refine mZ (fun hb=>?_) fun hb=>?_
 .exact q none C1 trivial T1 e1
 refine vX ?_
 try dsimp only
 refine aQ (fun ρ' C'=>C'=C1/\ρ'=[some (.ref t),some (.ref k),some (.tup (τ.map PV.str)),some (.int v)]) (fun L hL=>?_) ?_
 .refine xX (aX _ _) ?_
  refine mZ (fun hb=>?_) fun hb=>?_
  .refine pN ?_
   refine i_i ?_;refine mZ (fun hb2=>?_) fun hb2=>?_
   .rw [List.length_map] at hb2
    have hb3:=of_decide_eq_true hb2;obtain⟨s,hs,es⟩:=at_last (τ:=τ) (by omega);refine rX es ?_;refine⟨by show 2<=sizeLine; decide,?_⟩;exact q (some (.turn s)) C1 hs T1 e1
   .refine vX ?_
    exact hL _ _ ⟨rfl,rfl⟩
  .refine vM rfl ?_
   refine vX ?_;exact hL _ _ ⟨rfl,rfl⟩
 rintro ρ' C' ⟨rfl,rfl⟩
 try dsimp only
 exact⟨t,k,τ,ns,κ,rfl,T1,hk1,hτ,fun r C2 hr T2 e2=>q (some r) C2 hr T2 (e1.trans e2)⟩
def gPairs:GC:=fun ts C Q=>∃(t k:Addr) (τ:List Str) (ns:List Int) (κ:Kt),ts=[.ref t,.ref k,.tup (τ.map PV.str),.int 2]/\Tp C t ns/\KAt C t k κ/\τ.length<=4/\∀(ps:List (Str×Rk)) (C':CH),aH κ.bs τ 2 ps->ps.length<=4->Tp C' t ns->Ex t C C'->Q (.tup (ps.map mV)) C'
theorem Jn (T:Txt P w K mg a):FnOk P w K mg base CX0 7 (a.f 16) (a.d 16) U9 (spC K gPairs):=by
 have S:=(T.F 16 rfl).s;have bQ:=(lZ (base:=base) T).mono (show 1<=6 by decide);have sZ:=(bG (base:=base) T).mono (show 2<=6 by decide);have pJ:=aL (base:=base) T 2
 refine(T.F 16 rfl).ok (fun ts C R h=>?_) fun cdv A outer s H E hr=>⟨_,(xQ (cs1 4 S.nd (cf (T.F 11 rfl) sZ hr (qQ (cv 0) (ca1 (cf (T.F 10 rfl) bQ hr (qQ (cv 0) (ca1 (eQ gX bX (cv 3) zQ))))))))
  (kQ (pQ (ctp T.eX (nG rfl (S.c (by decide +kernel)) (S.k rfl rfl rfl (by decide +kernel)) (cv 4) (fun _ _ _ _ _=>wK) (fun _ _ _ _ _=>(fQ (qQ (cv 0) (ca1 (cf (T.F 14 rfl) pJ hr (qQ (cv 1) (qQ (cv 2) (qQ (cv 3) (ca1 zQ)))))))))))))),?_⟩
 .obtain ⟨t,k,τ,ns,κ,rfl,_⟩:=h; rfl
 rintro ts C R ⟨t,k,τ,ns,κ,rfl,hT,hk,hτ,q⟩;refine mW ?_;refine⟨t,3,ns,rfl,hT,by decide,by decide,fun v C1 v0 v1 T1 e1=>?_⟩;refine⟨t,v,ns,rfl,T1,v0,by omega,fun p ss C2 m2 n2 pt hl nd T2 e2=>?_⟩
 try dsimp only
 refine cl_l m2 rfl ?_;refine sY (β:=Rk) mV (fun r=>r.ok κ.bs τ 2) (fun C'=>Tp C' t ns/\Ex t C C'/\C' p=some (.lst (ss.map PV.str))) (fun _ h=>h.2.2) (by omega) (fun z C3 L ⟨T3,e3,m3⟩ hL=>?_) (fun bs C3 p3 ⟨T3,e3,m3⟩ hp3 hb ho=>?_) ⟨T2,e1.trans e2,m2⟩
 .refine ⟨t,k,τ,ns,κ,rfl,T3,hk.ex e3,hτ,fun r C4 hr T4 e4=>⟨by show 2<=sizeLine; decide,hL r C4 hr ⟨T4,e3.trans e4,e4 _ _ pt m3⟩⟩⟩
 .refine cJ jQ ?_
  exact q bs _ ho (by have:=congrArg List.length hb; rw[List.length_map] at this; omega) (T3.new hp3 _) (e3.trans (Ex.new hp3 _))
end
structure Hd where
 ev:Str
 rank:Int
 last:Bool
 ch:List (Str×Str×Rk)
def KJ (c:Str×Str×Rk):PV:=.tup [.str c.1,.str c.2.1,c.2.2.pv]
def Hd.pv (h:Hd):PV:=.tup [.str h.ev,.int h.rank,.bl h.last,.tup (h.ch.map KJ)]
def Hd.ok (bs τ:List Str)(h:Hd):Prop:=h.ch.length<=4/\∀c∈h.ch,c.2.2.ok bs τ 1
theorem Ex.put {t:Addr}{C C1:CH}{p:Addr}(g:Ex t C C1)(hp:C p=none)(o:CO):Ex t C (yQ C1 p o):=fun b u n e=>by
 rw[wQ (fun z=>by subst z; rw[hp] at e; cases e)];exact g b u n e
theorem Tp.put {C:CH}{t p:Addr}{ns:List Int}(h:Tp C t ns)(hp:p≠t)(o:CO):Tp (yQ C p o) t ns:=by
 obtain⟨⟨a,b,c,e,r⟩,l⟩:=h;exact⟨⟨a,b,c,by rw[wQ (Ne.symm hp)]; exact e,r⟩,l⟩
theorem Ex.none {t:Addr}{C C':CH}{p:Addr}(g:Ex t C C')(n:p≠t)(h:C' p=none):C p=none:=by
 cases e:C p with
 |none=>rfl
 |some o=>rw[g p o n e] at h; cases h
theorem rW {b:Addr}{xs:List PV}{g:TCG}{u:TCS}{E:mY}(I:Nat->CSt->CH->Prop)(hm:∀i ρ C,I i ρ C->C b=some (.lst xs))(step:∀i x ρ C,xs[i]?=some x->I i ρ C->∀L:CSt->CH->Prop,(∀ρ' C',I (i+1) ρ' C'->L ρ' C')->g x ρ C fun ρ1 C1=>u { nx:=L,ct:=L,bk:=E.nx,rt:=E.rt } ρ1 C1)(fin:∀ρ C,I xs.length ρ C->E.nx ρ C):
  ∀n i ρ C,I i ρ C->i+n=xs.length+1->i<=xs.length->iY b g u E n i ρ C:=by
 intro n
 induction n with
 |zero=>intro i ρ C h h1 h2; omega
 |succ n ih =>
  intro i ρ C h h1 h2;unfold iY;rw[hm i ρ C h];dsimp only
  cases e:xs[i]? with
  |none =>
   have:xs.length<=i:=List.getElem?_eq_none_iff.1 e;have:i=xs.length:=by omega
   subst this;exact fin ρ C h
  |some x =>
   have hi:i < xs.length:=(List.getElem?_eq_some_iff.1 e).1;exact step i x ρ C e h _ fun ρ' C' h'=>ih (i+1) ρ' C' h' (by omega) (by omega)
theorem Xv {b:Addr}{xs:List PV}{lo hi:Option Int}{C:CH}{Q:K1}(h:C b=some (.lst xs))(q:∀p,C p=none->Q (.ref p) (yQ C p (.lst (vV xs lo hi)))):cSlL (.ref b) lo hi C Q:=by
 unfold cSlL;dsimp only;rw[h];exact q
theorem cut_two (v:Int)(h0:0<=v)(h1:v < 3):vV [PV.str "tap",PV.str "key"] none (some v)=((["tap","key"]:List Str).take v.toNat).map PV.str:=by
 have:v=0\/v=1\/v=2:=by omega
 rcases this with rfl | rfl | rfl<;>rfl
section
variable {P:Program}{w:World}{K:PySem.W.Frag}{mg:Str->Option Value}{base:Heap}{a:Adr}
def gHands:GC:=fun ts C Q=>∃(t k:Addr) (τ:List Str) (ns:List Int) (κ:Kt),ts=[.ref t,.ref k,.tup (τ.map PV.str)]/\Tp C t ns/\KAt C t k κ/\τ.length<=4/\∀(hs:List Hd) (C':CH),(∀h∈hs,h.ok κ.bs τ)->hs.length<=4->Tp C' t ns->Ex t C C'->Q (.tup (hs.map Hd.pv)) C'
theorem Jr (T:Txt P w K mg a):FnOk P w K mg base CX0 6 (a.f 17) (a.d 17) U1 (spC K gHands):=by
 have S:=(T.F 17 rfl).s;have bQ:=(lZ (base:=base) T).mono (show 1<=5 by decide);have pJ:=aL (base:=base) T 1
 refine(T.F 17 rfl).ok (fun ts C R h=>?_) fun cdv A outer s H E hr=>⟨_,(xQ (cs1 3 S.nd (nX yZ))
  (xQ (gU PassesOwn.never rfl (gF (nX (qQ vQ (ca1 vQ))) tY (oY (cf (T.F 10 rfl) bQ hr (qQ (cv 0) (ca1 zQ))))) (cg1 4 S.nd) (xQ (cs1 5 S.nd (nX yZ))
  (xQ (zX (ct2 aJ rZ (cln T.eZ (bZ (oX hr) (cv 1) vQ (fun _ _=>rfl))) zQ) (kQ (sD PassesOwn.never rfl rfl T.nK (ca1 (cf (T.F 10 rfl) bQ hr (qQ (cv 0) (ca1 zQ)))) (cg1 6 S.nd) (xQ (cs1 7 S.nd (cx (bZ (oX hr) (cv 1) vQ (fun _ _=>rfl)) (cf (T.F 10 rfl) bQ hr (qQ (cv 0) (ca1 (cln T.eZ (bZ (oX hr) (cv 1) vQ (fun _ _=>rfl))))))))
  (xQ (cs1 8 S.nd (cx (nX (qQ vQ (qQ vQ (ca1 vQ)))) (cf (T.F 10 rfl) bQ hr (qQ (cv 0) (ca1 zQ)))))
  (kQ (iX (cap (cv 5) (fQ (qQ (cv 7) (qQ (cv 8) (ca1 (cf (T.F 14 rfl) pJ hr (qQ (cv 0) (qQ (cv 1) (qQ (cv 2) (ca1 zQ)))))))))))))))) tQ)
  (kQ (iX (cap (cv 3) (fQ (qQ (cv 4) (qQ (eQ gX bX zQ (cf (T.F 10 rfl) bQ hr (qQ (cv 0) (ca1 zQ)))) (qQ (sG mX iQ (cf (T.F 10 rfl) bQ hr (qQ (cv 0) (ca1 zQ))) zQ (dY _)) (ca1 (ctp T.eX (cv 5)))))))))))))
  (kQ (pQ (ctp T.eX (cv 3)))))),?_⟩
 .obtain ⟨t,k,τ,ns,κ,rfl,_⟩:=h; rfl
 rintro ts C R ⟨t,k,τ,ns,κ,rfl,hT,hk,hτ,q⟩;refine uQ ?_;refine⟨by show 0<=sizeLine; decide,fun h hh=>?_⟩;have nht:=hT.ne hh
 try dsimp only
 refine aQ (fun ρ' C'=>∃(hs:List Hd) (x4 x5 x6 x7 x8:Option PV),ρ'=[some (.ref t),some (.ref k),some (.tup (τ.map PV.str)),some (.ref h),x4,x5,x6,x7,x8]/\C' h=some (.lst (hs.map Hd.pv))/\hs.length<=2/\(∀h∈hs,h.ok κ.bs τ)/\Tp C' t ns/\Ex t C C') (fun L hL=>?_) ?_
 .refine ⟨by show 2<=sizeLine; decide,fun p1 hp1=>?_⟩
  have T1:=(hT.new hh (.lst [])).new hp1 (.lst [PV.str "tap",PV.str "key"]);refine⟨t,3,ns,rfl,T1,by decide,by decide,fun v C2 v0 v1 T2 e2=>?_⟩;have np1:p1≠t:=(hT.new hh (.lst [])).ne hp1;have m2:C2 p1=_:=e2 p1 _ np1 jQ;have nhp:h≠p1:=fun z=>by subst z; rw[jQ] at hp1; cases hp1
  have mh2:C2 h=some (.lst []):=e2 h _ nht (by rw[wQ nhp]; exact jQ);refine Xv m2 fun p2 hp2=>?_;rw[cut_two v v0 v1];have np2:p2≠t:=T2.ne hp2;have nhp2:h≠p2:=fun z=>by subst z; rw[hp2] at mh2; cases mh2
  have e02:Ex t C C2:=fun b o n e=>e2 b o n (Gr.new hp1 _ _ _ (Gr.new hh _ _ _ e));generalize hss:(["tap","key"]:List Str).take v.toNat=ss;have hsl:ss.length<=2:=by rw[<- hss,List.length_take]; exact Nat.min_le_right _ _
  refine⟨ss.length+1,?_⟩;refine rW (xs:=ss.map PV.str) (fun i ρ C'=>C' p2=some (.lst (ss.map PV.str))/\∃(hs:List Hd) (x4 x5 x6 x7 x8:Option PV),ρ=[some (.ref t),some (.ref k),some (.tup (τ.map PV.str)),some (.ref h),x4,x5,x6,x7,x8]/\C' h=some (.lst (hs.map Hd.pv))/\hs.length=i/\i<=ss.length/\(∀h∈hs,h.ok κ.bs τ)/\Tp C' t ns/\Ex t C C') (fun _ _ _ h=>h.1) ?_ ?_ _ 0 _ _ ⟨jQ,[],_,_,_,_,_,rfl,?_,rfl,Nat.zero_le _,(fun _ z=>nomatch z),T2.new hp2 _,e02.trans (Ex.new hp2 _)⟩ (by rw[List.length_map]; omega) (Nat.zero_le _)
  .rintro i x ρ C3 hx ⟨m3,hs,x4,x5,x6,x7,x8,rfl,mh,hl,hi,ho,T3,e3⟩ L1 hL1
   have hx':∃z:Str,x=.str z:=by
    rw[List.getElem?_map] at hx
    cases z:ss[i]? with
    |none=>rw[z] at hx; cases hx
    |some u=>rw[z] at hx; cases hx; exact⟨u,rfl⟩
   have hi':i < ss.length:=by
    have:=(List.getElem?_eq_some_iff.1 hx).1;rw[List.length_map] at this;exact this
   obtain⟨ev,rfl⟩:=hx';refine uQ ?_;refine⟨by show 0<=sizeLine; decide,fun c hc=>?_⟩;have nct:=T3.ne hc;have nch:c≠h:=fun z=>by subst z; rw[mh] at hc; cases hc
   have ncp:c≠p2:=fun z=>by subst z; rw[m3] at hc; cases hc
   have hc0:C c=none:=e3.none nct hc
   try dsimp only
   refine aQ (fun ρ' C'=>∃(cs:List (Str×Str×Rk)) (x6 x7 x8:Option PV),ρ'=[some (.ref t),some (.ref k),some (.tup (τ.map PV.str)),some (.ref h),some (.str ev),some (.ref c),x6,x7,x8]/\C' c=some (.lst (cs.map KJ))/\cs.length<=2/\(∀c∈cs,c.2.2.ok κ.bs τ 1)/\C' h=some (.lst (hs.map Hd.pv))/\C' p2=some (.lst (ss.map PV.str))/\Tp C' t ns/\Ex t C C') (fun L2 hL2=>?_) ?_
   .have k3:=hk.ex (e3.put hc0 (.lst []))
    refine nJ k3.at_ rfl nV ?_;refine iW k3.bx ?_;refine i_i ?_;have T3':=T3.new hc (.lst []);have e3':Ex t C (yQ C3 c (.lst [])):=e3.put hc0 _;have mh':yQ C3 c (.lst []) h=some (.lst (hs.map Hd.pv)):=by rw[wQ (Ne.symm nch)]; exact mh
    have mp':yQ C3 c (.lst []) p2=some (.lst (ss.map PV.str)):=by rw[wQ (Ne.symm ncp)]; exact m3
    refine mZ (fun hb=>?_) fun hb=>?_
    .rw [List.length_map] at hb
     have hb3:=of_decide_eq_true hb;refine⟨t,3,ns,rfl,T3',by decide,by decide,fun n C4 n0 n1 T4 e4=>?_⟩;refine⟨by omega,by omega,?_⟩;refine oJ (fun zs ρ C'=>∃(cs:List (Str×Str×Rk)) (x6 x7 x8:Option PV),ρ=[some (.ref t),some (.ref k),some (.tup (τ.map PV.str)),some (.ref h),some (.str ev),some (.ref c),x6,x7,x8]/\C' c=some (.lst (cs.map KJ))/\cs.length+zs.length<=2/\(∀c∈cs,c.2.2.ok κ.bs τ 1)/\C' h=some (.lst (hs.map Hd.pv))/\C' p2=some (.lst (ss.map PV.str))/\Tp C' t ns/\Ex t C C') ?_ ?_ _ _ _ ⟨[],_,_,_,rfl,e4 _ _ nct jQ,by rw[List.length_map,List.length_range]; show 0+_<=2; omega,(fun _ z=>nomatch z),e4 _ _ nht mh',e4 _ _ np2 mp',T4,e3'.trans e4⟩
     .rintro z zs ρ C5 ⟨cs,y6,y7,y8,rfl,mc,hcl,hco,mh5,mp5,T5,e5⟩ L3 hL3
      have k5:=hk.ex e5;refine uQ ?_;refine nJ k5.at_ rfl nV ?_;refine nJ k5.at_ rfl nV ?_;refine iW k5.bx ?_;have lb:=hk.lb;rw[List.length_map];refine⟨t,_,ns,rfl,T5,hb3,by omega,fun i C6 i0 i1 T6 e6=>?_⟩;refine dX ((k5.ex e6).bx) (uK (f:=PV.str) "" i0 i1) ?_
      try dsimp only
      refine uQ ?_;refine⟨by show 3<=sizeLine; decide,fun p4 hp4=>?_⟩;refine⟨t,3,ns,rfl,T6.new hp4 _,by decide,by decide,fun j C7 j0 j1 T7 e7=>?_⟩;refine dX (e7 p4 _ (T6.ne hp4) jQ) (uK (f:=PV.str) (ss:=["set","add","times"]) "" j0 j1) ?_;have e67:Ex t C6 C7:=(Ex.new hp4 _).trans e7;have e57:Ex t C5 C7:=e6.trans e67
      try dsimp only
      refine⟨zG (e57 _ _ nct mc),?_⟩;refine⟨t,k,τ,ns,κ,rfl,T7,k5.ex e57,hτ,fun r C8 hr T8 e8=>⟨by show 3<=sizeLine; decide,?_⟩⟩;have e58:Ex t C5 C8:=e57.trans e8;refine vH (e58 _ _ nct mc) (by rw[List.length_map]; exact Nat.lt_of_lt_of_le (show cs.length < 3 by rw[List.length_cons] at hcl; omega) (by decide)) ?_;refine hL3 _ _ ⟨cs++[(_,_,r)],_,_,_,rfl,by rw[jQ,List.map_append]; rfl,by rw[List.length_append,List.length_singleton]; rw[List.length_cons] at hcl; omega,fun c' hc'=>?_,?_,?_,T8.put nct _,(e5.trans e58).put hc0 _⟩
      .rcases List.mem_append.1 hc' with hc' | hc'
       .exact hco c' hc'
       .cases List.mem_singleton.1 hc'; exact hr
      .rw [wQ (Ne.symm nch)]; exact e58 _ _ nht mh5
      .rw [wQ (Ne.symm ncp)]; exact e58 _ _ np2 mp5
     .rintro ρ C5 ⟨cs,y6,y7,y8,rfl,mc,hcl,hco,mh5,mp5,T5,e5⟩
      exact hL2 _ _ ⟨cs,_,_,_,rfl,mc,by omega,hco,mh5,mp5,T5,e5⟩
    .refine vX ?_
     exact hL2 _ _ ⟨[],_,_,_,rfl,jQ,Nat.zero_le _,(fun _ z=>nomatch z),mh',mp',T3',e3'⟩
   rintro ρ' C4 ⟨cs,y6,y7,y8,rfl,mc,hcl,hco,mh4,mp4,T4,e4⟩
   try dsimp only
   refine⟨zG mh4,?_⟩;refine⟨t,3,ns,rfl,T4,by decide,by decide,fun rk C5 r0 r1 T5 e5=>?_⟩;refine mW ?_;refine⟨t,2,ns,rfl,T5,by decide,by decide,fun z C6 z0 z1 T6 e6=>?_⟩;refine xX (aX _ _) ?_;have e46:=e5.trans e6;refine cJ (e46 _ _ nct mc) ?_;refine⟨by show 4<=sizeLine; decide,?_⟩;refine vH (e46 _ _ nht mh4) (by rw[List.length_map]; exact Nat.lt_of_lt_of_le (show hs.length < 3 by omega) (by decide)) ?_
   refine hL1 _ _ ⟨by rw[wQ (Ne.symm nhp2)]; exact e46 _ _ np2 mp4,hs++[⟨ev,1+rk,decide (z=0),cs⟩],_,_,_,_,_,rfl,by rw[jQ,List.map_append]; rfl,by rw[List.length_append,List.length_singleton,hl],hi',fun h' hh'=>?_,T6.put nht _,(e4.trans e46).put hh _⟩
   rcases List.mem_append.1 hh' with hh' | hh'
   .exact ho h' hh'
   .cases List.mem_singleton.1 hh'; exact⟨by show cs.length<=4; omega,hco⟩
  .rintro ρ C3 ⟨m3,hs,x4,x5,x6,x7,x8,rfl,mh,hl,hi,ho,T3,e3⟩
   exact hL _ _ ⟨hs,_,_,_,_,_,rfl,mh,by omega,ho,T3,e3⟩
  .rw [wQ nhp2]; exact mh2
 rintro ρ' C' ⟨hs,x4,x5,x6,x7,x8,rfl,mh,hl,ho,T',e'⟩
 try dsimp only
 refine cJ mh ?_;exact q hs C' ho (by omega) T' e'
end
inductive Ln where
 |plain (k:Option Rk) (tag:Str) (sets:List (Str×Rk)) (hands:List Hd) (ls:List Ln)
 |part (k:Option Rk) (name:Str) (gives:List (Str×Rk))
 |give (k:Option Rk) (name:Str) (r:Rk) (ls:List Ln)
 |when (r:Rk) (l1 l2:List Ln)
 |each (name:Str) (r:Rk) (ls:List Ln)
mutual
def Ln.pv:Ln->PV
 |.plain k tag s h ls=>.tup [.str "plain",lU k,.str tag,.tup (s.map mV),.tup (h.map Hd.pv),.tup (Ln.pvs ls)]
 |.part k n g=>.tup [.str "part",lU k,.str n,.tup (g.map mV)]
 |.give k n r ls=>.tup [.str "give",lU k,.str n,r.pv,.tup (Ln.pvs ls)]
 |.when r l1 l2=>.tup [.str "when",r.pv,.tup (Ln.pvs l1),.tup (Ln.pvs l2)]
 |.each n r ls=>.tup [.str "each",.str n,r.pv,.tup (Ln.pvs ls)]
def Ln.pvs:List Ln->List PV
 |[]=>[]
 |l::ls=>l.pv::Ln.pvs ls
end
theorem Ln.pvs_map (ls:List Ln):Ln.pvs ls=ls.map Ln.pv:=by
 induction ls with
 |nil=>rfl
 |cons l ls ih=>rw[List.map_cons,<- ih]; rfl
mutual
def Ln.tw:Ln->Nat
 |.plain _ _ _ _ ls=>1+Ln.tws ls
 |.part _ _ _=>1
 |.give _ _ _ ls=>1+Ln.tws ls
 |.when _ l1 l2=>Ln.tws l1+Ln.tws l2
 |.each _ _ ls=>8 * Ln.tws ls
def Ln.tws:List Ln->Nat
 |[]=>0
 |l::ls=>l.tw+Ln.tws ls
end
mutual
def Ln.pw:Ln->Nat
 |.plain _ _ _ _ ls=>Ln.pws ls
 |.part _ _ _=>1
 |.give _ _ _ ls=>Ln.pws ls
 |.when _ l1 l2=>Ln.pws l1+Ln.pws l2
 |.each _ _ ls=>8 * Ln.pws ls
def Ln.pws:List Ln->Nat
 |[]=>0
 |l::ls=>l.pw+Ln.pws ls
end
theorem Ln.tws_app (xs ys:List Ln):Ln.tws (xs++ys)=Ln.tws xs+Ln.tws ys:=by
 induction xs with
 |nil=>show _=0+_; rw[Nat.zero_add]; rfl
 |cons x xs ih=>show x.tw+Ln.tws (xs++ys)=x.tw+Ln.tws xs+Ln.tws ys; rw[ih]; omega
theorem Ln.pws_app (xs ys:List Ln):Ln.pws (xs++ys)=Ln.pws xs+Ln.pws ys:=by
 induction xs with
 |nil=>show _=0+_; rw[Nat.zero_add]; rfl
 |cons x xs ih=>show x.pw+Ln.pws (xs++ys)=x.pw+Ln.pws xs+Ln.pws ys; rw[ih]; omega
def LnOk (bs rs:List Str):Nat->List Str->Ln->Prop
 |0,_,_=>False
 |d+1,τ,.plain k _ s h ls=>bO bs τ k/\(aH bs τ 2 s/\s.length<=4)/\((∀x∈h,x.ok bs τ)/\h.length<=4)/\(∀x∈ls,LnOk bs rs d τ x)/\ls.length<=6
 |_+1,τ,.part k n g=>bO bs τ k/\n∈rs/\aH bs τ 1 g/\g.length<=4
 |d+1,τ,.give k n r ls=>bO bs τ k/\n∈(["a","ab","b"]:List Str)/\r.ok bs τ 1/\(∀x∈ls,LnOk bs rs d τ x)/\ls.length<=6
 |d+1,τ,.when r l1 l2=>r.ok bs τ 1/\((∀x∈l1,LnOk bs rs d τ x)/\l1.length<=6)/\(∀x∈l2,LnOk bs rs d τ x)/\l2.length<=6
 |d+1,_,.each n r ls=>r.ok bs [] 0/\(∀x∈ls,LnOk bs rs d [n] x)/\ls.length<=6
theorem LnOk.up {bs rs:List Str}:∀{d:Nat}{τ:List Str}{l:Ln},LnOk bs rs d τ l->LnOk bs rs (d+1) τ l:=by
 intro d
 induction d with
 |zero=>intro τ l h; exact h.elim
 |succ d ih =>
  intro τ l h
  cases l with
  |plain k t s hh ls=>obtain⟨h1,h2,h3,h4,h5⟩:=h; exact⟨h1,h2,h3,fun x hx=>ih (h4 x hx),h5⟩
  |part k n g=>exact h
  |give k n r ls=>obtain⟨h1,h2,h3,h4,h5⟩:=h; exact⟨h1,h2,h3,fun x hx=>ih (h4 x hx),h5⟩
  |when r l1 l2=>obtain⟨h1,⟨h2,h3⟩,h4,h5⟩:=h; exact⟨h1,⟨fun x hx=>ih (h2 x hx),h3⟩,fun x hx=>ih (h4 x hx),h5⟩
  |each n r ls=>obtain⟨h1,h2,h3⟩:=h; exact⟨h1,fun x hx=>ih (h2 x hx),h3⟩
theorem LnOk.mono {bs rs:List Str}{d e:Nat}{τ:List Str}{l:Ln}(h:LnOk bs rs d τ l)(le:d<=e):LnOk bs rs e τ l:=by
 induction le with
 |refl=>exact h
 |step _ ih=>exact ih.up
structure Chg (κ κ':Kt):Prop where
 b:κ'.b=κ.b
 r:κ'.r=κ.r
 bs:κ'.bs=κ.bs
 rs:κ'.rs=κ.rs
 la:κ'.la=κ.la
 l0:0<=κ'.l
 l1:κ'.l<=κ.l
 p0:0<=κ'.p
 p1:κ'.p<=κ.p
 e0:0<=κ'.e
 e1:κ'.e<=κ.e
structure Kok (κ:Kt)(e:Nat)(τ:List Str):Prop where
 l0:0<=κ.l
 l1:κ.l<=6
 p0:0<=κ.p
 p1:κ.p<=2
 e0:0<=κ.e
 e1:κ.e<=(e:Nat)
 t:0 < e->τ=[]
 ly:0 < κ.e->∀s,κ.la=some s->s∈κ.rs
 tl:τ.length<=4
theorem Chg.refl {κ:Kt}{e:Nat}{τ:List Str}(h:Kok κ e τ):Chg κ κ:=⟨rfl,rfl,rfl,rfl,rfl,h.l0,Int.le_refl _,h.p0,Int.le_refl _,h.e0,Int.le_refl _⟩
theorem Chg.trans {κ κ1 κ2:Kt}(h:Chg κ κ1)(g:Chg κ1 κ2):Chg κ κ2:=⟨g.b.trans h.b,g.r.trans h.r,g.bs.trans h.bs,g.rs.trans h.rs,g.la.trans h.la,g.l0,Int.le_trans g.l1 h.l1,g.p0,Int.le_trans g.p1 h.p1,g.e0,Int.le_trans g.e1 h.e1⟩
theorem Kok.chg {κ κ':Kt}{e:Nat}{τ:List Str}(h:Kok κ e τ)(g:Chg κ κ'):Kok κ' e τ:=⟨g.l0,Int.le_trans g.l1 h.l1,g.p0,Int.le_trans g.p1 h.p1,g.e0,Int.le_trans g.e1 h.e1,h.t,fun z s hs=>by rw[g.rs]; exact h.ly (Int.lt_of_lt_of_le z g.e1) s (by rw[<- g.la]; exact hs),h.tl⟩
def zOf (κ:Kt):Int:=if κ.la.isSome then 16 else 0
theorem zOf_chg {κ κ':Kt}(g:Chg κ κ'):zOf κ'=zOf κ:=by unfold zOf; rw[g.la]
def mOf (e:Nat):Int:=if e=0 then 1 else 8
def gV (e d:Nat):Nat:=if e=0 then d+1 else d+3
structure Wgt (e:Nat)(τ:List Str)(κ κ':Kt)(extra:Int)(tw pw:Nat):Prop where
 t:(tw:Int)<=mOf e * (extra+(κ.l - κ'.l))
 p:(pw:Int)<=(κ.p - κ'.p)+zOf κ * (κ.e - κ'.e)
 n:τ≠[]->pw=0/\κ'.p=κ.p
theorem ExS.ofEx {t k:Addr}{C C':CH}(h:Ex t C C'):ExS [t,k] C C':=fun b o n e=>h b o (fun z=>n (by rw[z]; exact List.mem_cons_self)) e
section
variable {P:Program}{w:World}{K:PySem.W.Frag}{mg:Str->Option Value}{base:Heap}{a:Adr}
def X6:GC:=fun ts C Q=>∃(t k:Addr) (τ:List Str) (ns:List Int) (κ:Kt) (name:Str),ts=[.ref t,.ref k,.tup (τ.map PV.str),.str name]/\Tp C t ns/\KAt C t k κ/\τ.length<=4/\∀(o:Option Rk) (g:List (Str×Rk)) (C':CH),bO κ.bs τ o->aH κ.bs τ 1 g->g.length<=4->Tp C' t ns->Ex t C C'->Q (Ln.part o name g).pv C'
theorem Za (v:Int)(h0:0<=v)(h1:v < 4):vV [PV.str "a",PV.str "ab",PV.str "b"] none (some v)=((["a","ab","b"]:List Str).take v.toNat).map PV.str:=by
 have:v=0\/v=1\/v=2\/v=3:=by omega
 rcases this with rfl | rfl | rfl | rfl<;>rfl
theorem rev_s {b:Addr}{xs:List PV}{C:CH}{Q:K1}(h:C b=some (.lst xs))(q:Q .non (yQ C b (.lst xs.reverse))):fM (.ref b) [] C Q:=by
 unfold fM;dsimp only;rw[h];exact q
theorem zM (T:Txt P w K mg a):FnOk P w K mg base CX0 6 (a.f 19) (a.d 19) U10 (spC K X6):=by
 have S:=(T.F 19 rfl).s;have bQ:=(lZ (base:=base) T).mono (show 1<=5 by decide);have cM:=(dA (base:=base) T).mono (show 4<=5 by decide);have pJ:=aL (base:=base) T 1
 refine(T.F 19 rfl).ok (fun ts C R h=>?_) fun cdv A outer s H E hr=>⟨_,(xQ (cs1 4 S.nd (cf (T.F 15 rfl) cM hr (qQ (cv 0) (qQ (cv 1) (ca1 (cv 2))))))
  (xQ (cs1 5 S.nd (gF (nX (qQ vQ (qQ vQ (ca1 vQ)))) tY (oY (cf (T.F 10 rfl) bQ hr (qQ (cv 0) (ca1 zQ))))))
  (xQ (zX (ct2 mX iQ (cf (T.F 10 rfl) bQ hr (qQ (cv 0) (ca1 zQ))) zQ) (kQ (iX (KY PySem.F.plainAttrs_list PySem.F.slot_list_reverse PySem.F.type_list_reverse lA wE (cv 5)))) tQ)
  (kQ (pQ (fQ (qQ vQ (qQ (cv 4) (qQ (cv 3) (ca1 (ctp T.eX (nG rfl (S.c (by decide +kernel)) (S.k rfl rfl rfl (by decide +kernel)) (cv 5) (fun _ _ _ _ _=>wK) (fun _ _ _ _ _=>(fQ (qQ (cv 0) (ca1 (cf (T.F 14 rfl) pJ hr (qQ (cv 1) (qQ (cv 2) (qQ (cv 3) (ca1 zQ))))))))))))))))))))),?_⟩
 .obtain ⟨t,k,τ,ns,κ,name,rfl,_⟩:=h; rfl
 rintro ts C R ⟨t,k,τ,ns,κ,name,rfl,hT,hk,hτ,q⟩;refine uQ ?_;refine⟨t,k,τ,ns,κ,rfl,hT,hk,hτ,fun o C1 ho T1 e1=>?_⟩
 try dsimp only
 refine uQ ?_;refine⟨by show 3<=sizeLine; decide,fun p1 hp1=>?_⟩;refine⟨t,4,ns,rfl,T1.new hp1 _,by decide,by decide,fun v C2 v0 v1 T2 e2=>?_⟩;have m2:C2 p1=_:=e2 p1 _ (T1.ne hp1) jQ;have e02:Ex t C C2:=fun b o n e=>e2 b o n (Gr.new hp1 _ _ _ (e1 b o n e));refine Xv m2 fun p2 hp2=>?_;rw[Za v v0 v1];have np2:p2≠t:=T2.ne hp2;have hp20:C p2=none:=e02.none np2 hp2;generalize hss:(["a","ab","b"]:List Str).take v.toNat=ss
 have hsl:ss.length<=3:=by rw[<- hss,List.length_take]; exact Nat.min_le_right _ _
 try dsimp only
 refine aQ (fun ρ' C'=>∃us:List Str,us.length=ss.length/\ρ'=[some (.ref t),some (.ref k),some (.tup (τ.map PV.str)),some (.str name),some (lU o),some (.ref p2)]/\C' p2=some (.lst (us.map PV.str))/\Tp C' t ns/\Ex t C C') (fun L hL=>?_) ?_
 .refine ⟨t,2,ns,rfl,T2.new hp2 _,by decide,by decide,fun z C3 z0 z1 T3 e3=>?_⟩
  have m3:C3 p2=_:=e3 p2 _ np2 jQ;have e03:Ex t C C3:=(e02.put hp20 _).trans e3;refine xX (aX _ _) ?_;refine mZ (fun hb=>?_) fun hb=>?_
  .refine ⟨zG m3,?_⟩
   refine rev_s m3 ?_;exact hL _ _ ⟨ss.reverse,List.length_reverse,rfl,by rw[jQ,List.map_reverse],T3.put np2 _,e03.put hp20 _⟩
  .refine vX ?_
   exact hL _ _ ⟨ss,rfl,rfl,m3,T3,e03⟩
 rintro ρ' C3 ⟨us,hus,rfl,m3,T3,e3⟩
 try dsimp only
 refine cl_l m3 rfl ?_;refine sY (β:=Rk) mV (fun r=>r.ok κ.bs τ 1) (fun C'=>Tp C' t ns/\Ex t C C'/\C' p2=some (.lst (us.map PV.str))) (fun _ h=>h.2.2) (by omega) (fun z C4 L ⟨T4,e4,m4⟩ hL=>?_) (fun bs C4 p3 ⟨T4,e4,m4⟩ hp3 hb hbo=>?_) ⟨T3,e3,m3⟩
 .refine ⟨t,k,τ,ns,κ,rfl,T4,hk.ex e4,hτ,fun r C5 hr T5 e5=>⟨by show 2<=sizeLine; decide,hL r C5 hr ⟨T5,e4.trans e5,e5 _ _ np2 m4⟩⟩⟩
 .refine cJ jQ ?_
  refine⟨by show 4<=sizeLine; decide,?_⟩;exact q o bs _ ho hbo (by have:=congrArg List.length hb; rw[List.length_map] at this; omega) (T4.new hp3 _) (e4.trans (Ex.new hp3 _))
end
theorem xM (e:Nat):mOf e=1\/mOf e=8:=by unfold mOf; split; exact .inl rfl; exact .inr rfl
theorem Wgt.one {e:Nat}{τ:List Str}{κ κ':Kt}{tw pw:Nat}(h:Wgt e τ κ κ' 0 tw pw):Wgt e τ κ κ' 1 (1+tw) pw:=by
 refine⟨?_,h.p,h.n⟩;have:=h.t
 rcases xM e with z | z<;>rw[z] at this ⊢ <;> omega
theorem Wgt.up {e:Nat}{τ:List Str}{κ κ':Kt}{tw pw:Nat}(h:Wgt e τ κ κ' 0 tw pw):Wgt e τ κ κ' 1 tw pw:=by
 refine⟨?_,h.p,h.n⟩;have:=h.t
 rcases xM e with z | z<;>rw[z] at this ⊢ <;> omega
theorem Wgt.add {e:Nat}{τ:List Str}{κ κ1 κ2:Kt}{x y:Int}{t1 t2 p1 p2:Nat}(h:Wgt e τ κ κ1 x t1 p1)(g:Wgt e τ κ1 κ2 y t2 p2)(c:Chg κ κ1):Wgt e τ κ κ2 (x+y) (t1+t2) (p1+p2):=by
 refine⟨?_,?_,fun z=>?_⟩
 .have h1:=h.t
  have h2:=g.t
  rcases xM e with z | z<;>rw[z] at h1 h2 ⊢ <;> omega
 .have h1:=h.p
  have h2:=g.p;rw[zOf_chg c] at h2
  have:zOf κ * (κ.e - κ1.e)+zOf κ * (κ1.e - κ2.e)=zOf κ * (κ.e - κ2.e):=by
   rw[<- Int.mul_add]
   congr 1
   omega
  omega
 .obtain ⟨a1,a2⟩:=h.n z
  obtain⟨b1,b2⟩:=g.n z;exact⟨by omega,b2.trans a2⟩
theorem Wgt.nil {e:Nat}{τ:List Str}{κ:Kt}:Wgt e τ κ κ 0 0 0:=by
 refine⟨?_,?_,fun _=>⟨rfl,rfl⟩⟩
 .rcases xM e with z | z<;>rw[z]<;>omega
 .rw [Int.sub_self,Int.sub_self,Int.mul_zero]; decide
theorem KAt.put {C:CH}{t k:Addr}{κ:Kt}(h:KAt C t k κ)(l p e:Int)(la:Option Str):KAt (yQ C k (.dK (hX κ.b κ.r l p e (kG la)))) t k { κ with l:=l,p:=p,e:=e,la:=la }:=by
 have n1:κ.b≠k:=fun z=>by have:=h.bx; rw[z,h.at_] at this; cases this
 have n2:κ.r≠k:=fun z=>by have:=h.rx; rw[z,h.at_] at this; cases this
 exact⟨jQ,by show yQ C k _ κ.b=_; rw[wQ n1]; exact h.bx,by show yQ C k _ κ.r=_; rw[wQ n2]; exact h.rx,h.nk,h.nb,h.nr,h.lb,h.lr⟩
def vB (e d:Nat):GC:=fun ts C Q=>∃(t k:Addr) (τ:List Str) (ns:List Int) (κ:Kt),ts=[.ref t,.ref k,.tup (τ.map PV.str),.int (d:Nat)]/\Tp C t ns/\KAt C t k κ/\Kok κ e τ /\
 ∀(ls:List Ln) (κ':Kt) (C':CH),(∀x∈ls,LnOk κ.bs κ.rs (gV e d) τ x)->ls.length<=6->Wgt e τ κ κ' 0 (Ln.tws ls) (Ln.pws ls)->Chg κ κ'->Tp C' t ns->KAt C' t k κ'->ExS [t,k] C C'->Q (.tup (Ln.pvs ls)) C'
def yP (e d:Nat):GC:=fun ts C Q=>∃(t k:Addr) (τ:List Str) (ns:List Int) (κ:Kt),ts=[.ref t,.ref k,.tup (τ.map PV.str),.int (d:Nat)]/\Tp C t ns/\KAt C t k κ/\Kok κ e τ /\
 ∀(l:Ln) (κ':Kt) (C':CH),LnOk κ.bs κ.rs (gV e d) τ l->Wgt e τ κ κ' 1 l.tw l.pw->Chg κ κ'->Tp C' t ns->KAt C' t k κ'->ExS [t,k] C C'->Q l.pv C'
def gR (e d:Nat):GC:=fun ts C Q=>∃d',d=d'+1/\vB e d' ts C Q
theorem cP (e d:Nat):gV e (d+1)=gV e d+1:=by unfold gV; split<;>rfl
theorem qC (e d:Nat):∃n,gV e d=n+1:=by unfold gV; split; exact⟨_,rfl⟩; exact⟨d+2,rfl⟩
section
variable {P:Program}{w:World}{K:PySem.W.Frag}{mg:Str->Option Value}{base:Heap}{a:Adr}
theorem oT (T:Txt P w K mg a)(e d r:Nat)(h7:7<=r)(rK:FnOk P w K mg base CX0 r (a.f 22) (a.d 22) U0 (spC K (gR e d))):
  FnOk P w K mg base CX0 (r+1) (a.f 18) (a.d 18) U0 (spC K (yP e d)):=by
 have S:=(T.F 18 rfl).s;have bQ:=(lZ (base:=base) T).mono (show 1<=r by omega);have sZ:=(bG (base:=base) T).mono (show 2<=r by omega);have cM:=(dA (base:=base) T).mono (show 4<=r by omega);have Zq:=(Jn (base:=base) T).mono (show 7<=r by omega);have Zs:=(Jr (base:=base) T).mono (show 6<=r by omega)
 refine(T.F 18 rfl).ok (fun ts C R h=>?_) fun cdv A outer s H E hr=>⟨_,(xQ (cs1 4 S.nd (cf (T.F 15 rfl) cM hr (qQ (cv 0) (qQ (cv 1) (ca1 (cv 2))))))
  (xQ (cs1 5 S.nd (cx (cf (T.F 11 rfl) sZ hr (qQ (cv 0) (ca1 zQ))) zQ))
  (xQ (cs1 6 S.nd (cf (T.F 16 rfl) Zq hr (qQ (cv 0) (qQ (cv 1) (qQ (cv 2) (ca1 zQ))))))
  (xQ (cs1 7 S.nd (cf (T.F 17 rfl) Zs hr (qQ (cv 0) (qQ (cv 1) (ca1 (cv 2))))))
  (xQ (cs1 8 S.nd (fQ yZ))
  (xQ (zX (cw_pt (cw_and (ct2 aJ rZ (cv 3) zQ) (cw_and1 (ct2 mX iQ (cf (T.F 10 rfl) bQ hr (qQ (cv 0) (ca1 zQ))) zQ)))) (kQ (cs1 8 S.nd (cf (T.F 22 rfl) rK hr (qQ (cv 0) (qQ (cv 1) (qQ (cv 2) (ca1 (eQ zV fJ (cv 3) zQ)))))))) tQ)
  (kQ (pQ (fQ (qQ vQ (qQ (cv 4) (qQ (cv 5) (qQ (cv 6) (qQ (cv 7) (ca1 (cv 8)))))))))))))))),?_⟩
 .obtain ⟨t,k,τ,ns,κ,rfl,_⟩:=h; rfl
 rintro ts C R ⟨t,k,τ,ns,κ,rfl,hT,hk,ok,q⟩;refine uQ ?_;refine⟨t,k,τ,ns,κ,rfl,hT,hk,ok.tl,fun o C1 ho T1 e1=>?_⟩
 try dsimp only
 refine uQ ?_;refine⟨t,1,ns,rfl,T1,by decide,by decide,fun p ss C2 m2 _ pt hl nd T2 e2=>?_⟩;have hl:ss.length=1:=hl
 obtain⟨tag,rfl⟩:∃tag,ss=[tag]:=by
  match ss,hl with
  |[x],_=>exact⟨x,rfl⟩
 refine dX m2 sQ ?_
 try dsimp only
 refine uQ ?_;refine⟨t,k,τ,ns,κ,rfl,T2,(hk.ex e1).ex e2,ok.tl,fun ps C3 hps hpl T3 e3=>?_⟩
 try dsimp only
 refine uQ ?_;refine⟨t,k,τ,ns,κ,rfl,T3,((hk.ex e1).ex e2).ex e3,ok.tl,fun hs C4 hhs hhl T4 e4=>?_⟩
 try dsimp only
 refine uQ ?_;refine⟨by show 0<=sizeLine; decide,?_⟩
 try dsimp only
 have e04:Ex t C C4:=((e1.trans e2).trans e3).trans e4;have k4:=hk.ex e04
 have fin:∀(ls:List Ln) (κ':Kt) (C':CH),(∀x∈ls,∃d',d=d'+1/\LnOk κ.bs κ.rs (gV e d') τ x)->ls.length<=6->Wgt e τ κ κ' 0 (Ln.tws ls) (Ln.pws ls)->Chg κ κ'->Tp C' t ns->KAt C' t k κ'->ExS [t,k] C C' ->
   R (.tup [.str "plain",lU o,.str tag,.tup (ps.map mV),.tup (hs.map Hd.pv),.tup (Ln.pvs ls)]) C':=by
  intro ls κ' C' hls hll hw hc T' k' x';refine q (.plain o tag ps hs ls) κ' C' ?_ hw.one hc T' k' x';obtain⟨n,en⟩:=qC e d;rw[en];refine⟨ho,⟨hps,hpl⟩,⟨hhs,hhl⟩,fun x hx=>?_,hll⟩;obtain⟨d',rfl,hx'⟩:=hls x hx;rw[cP] at en;have:n=gV e d':=by omega
  rw[this];exact hx'
 refine aQ (fun ρ' C'=>∃(ls:List Ln) (κ':Kt),ρ'=[some (.ref t),some (.ref k),some (.tup (τ.map PV.str)),some (.int (d:Nat)),some (lU o),some (.str tag),some (.tup (ps.map mV)),some (.tup (hs.map Hd.pv)),some (.tup (Ln.pvs ls))]/\(∀x∈ls,∃d',d=d'+1/\LnOk κ.bs κ.rs (gV e d') τ x)/\ls.length<=6/\Wgt e τ κ κ' 0 (Ln.tws ls) (Ln.pws ls)/\Chg κ κ'/\Tp C' t ns/\KAt C' t k κ'/\ExS [t,k] C C') (fun L hL=>?_) ?_
 .refine i_i ?_
  refine mZ (fun hb=>?_) fun hb=>?_
  .have hb:=of_decide_eq_true hb
   refine⟨t,2,ns,rfl,T4,by decide,by decide,fun z C5 z0 z1 T5 e5=>?_⟩;refine xX (aX _ _) ?_;refine mZ (fun hb2=>?_) fun hb2=>?_
   .refine i_i ?_
    obtain⟨d',rfl⟩:∃d',d=d'+1:=⟨d - 1,by omega⟩;refine⟨d',rfl,t,k,τ,ns,κ,?_,T5,k4.ex e5,ok,fun ls κ' C6 h1 h2 h3 h4 T6 k6 x6=>?_⟩
    .have:((d'+1:Nat):Int) - 1=(d':Nat):=by omega
     rw[this]
    .exact hL _ _ ⟨ls,κ',rfl,fun x hx=>⟨d',rfl,h1 x hx⟩,h2,h3,h4,T6,k6,(ExS.ofEx (e04.trans e5)).trans x6⟩
   .refine vX ?_
    exact hL _ _ ⟨[],κ,rfl,(fun _ z=>nomatch z),Nat.zero_le _,Wgt.nil,Chg.refl ok,T5,k4.ex e5,ExS.ofEx (e04.trans e5)⟩
  .refine vM rfl ?_
   refine vX ?_;exact hL _ _ ⟨[],κ,rfl,(fun _ z=>nomatch z),Nat.zero_le _,Wgt.nil,Chg.refl ok,T4,k4,ExS.ofEx e04⟩
 rintro ρ' C5 ⟨ls,κ',rfl,h1,h2,h3,h4,T5,k5,x5⟩
 try dsimp only
 refine⟨by show 6<=sizeLine; decide,?_⟩;exact fin ls κ' C5 h1 h2 h3 h4 T5 k5 x5
end
def Kl (e:Nat):GC:=fun ts C Q=>∃(t k:Addr) (d:Nat) (ns:List Int) (κ:Kt),ts=[.ref t,.ref k,.int (d:Nat)]/\Tp C t ns/\KAt C t k κ/\Kok κ e []/\0 < κ.e /\
 ∀(l:Ln) (κ':Kt) (C':CH),LnOk κ.bs κ.rs 3 [] l->Wgt e [] κ κ' 1 l.tw l.pw->Chg κ κ'->Tp C' t ns->KAt C' t k κ'->ExS [t,k] C C'->Q l.pv C'
section
variable {P:Program}{w:World}{K:PySem.W.Frag}{mg:Str->Option Value}{base:Heap}{a:Adr}
theorem ok_line (T:Txt P w K mg a)(e d r:Nat)(he:0 < e)(h7:7<=r)
  (rK:FnOk P w K mg base CX0 r (a.f 22) (a.d 22) U0 (spC K (gR e d)))
  (rF:FnOk P w K mg base CX0 r (a.f 18) (a.d 18) U0 (spC K (yP e d)))
  (Vk:FnOk P w K mg base CX0 r (a.f 20) (a.d 20) U4 (spC K (Kl e))) :
  FnOk P w K mg base CX0 (r+1) (a.f 21) (a.d 21) U0 (spC K (yP e d)):=by
 have S:=(T.F 21 rfl).s;have bQ:=(lZ (base:=base) T).mono (show 1<=r by omega);have cM:=(dA (base:=base) T).mono (show 4<=r by omega);have pJ:=(aL (base:=base) T 1).mono (show 5<=r by omega);have hW:=(zM (base:=base) T).mono (show 6<=r by omega)
 refine(T.F 21 rfl).ok (fun ts C R h=>?_) fun cdv A outer s H E hr=>⟨_,(xQ (cs1 4 S.nd (cf (T.F 10 rfl) bQ hr (qQ (cv 0) (ca1 zQ))))
  (xQ (zX (cw_pt (cw_and (ct2 sU lW (cv 4) zQ) (cw_and (ct2 aJ rZ (bZ (oX hr) (cv 1) vQ (fun _ _=>rfl)) zQ) (cw_and1 (ct2 aJ rZ (cln T.eZ (bZ (oX hr) (cv 1) vQ (fun _ _=>rfl))) zQ))))) (xQ (vK (oX hr) (cv 1) vQ (eQ zV fJ (bZ (oX hr) (cv 1) vQ (fun _ _=>rfl)) zQ))
  (kQ (pQ (cf (T.F 19 rfl) hW hr (qQ (cv 0) (qQ (cv 1) (qQ (cv 2) (ca1 (cx (bZ (oX hr) (cv 1) vQ (fun _ _=>rfl)) (cf (T.F 10 rfl) bQ hr (qQ (cv 0) (ca1 (cln T.eZ (bZ (oX hr) (cv 1) vQ (fun _ _=>rfl))))))))))))))) tQ)
  (xQ (zX (cw_pt (cw_and (ct2 mX iQ (cv 4) zQ) (cw_and1 (ct2 aJ rZ (cv 3) zQ)))) (xQ (cs1 5 S.nd (cx (nX (qQ vQ (qQ vQ (ca1 vQ)))) (cf (T.F 10 rfl) bQ hr (qQ (cv 0) (ca1 zQ)))))
  (xQ (cs1 6 S.nd (cf (T.F 15 rfl) cM hr (qQ (cv 0) (qQ (cv 1) (ca1 (cv 2))))))
  (kQ (pQ (fQ (qQ vQ (qQ (cv 6) (qQ (cv 5) (qQ (cf (T.F 14 rfl) pJ hr (qQ (cv 0) (qQ (cv 1) (qQ (cv 2) (ca1 zQ))))) (ca1 (cf (T.F 22 rfl) rK hr (qQ (cv 0) (qQ (cv 1) (qQ (cv 2) (ca1 (eQ zV fJ (cv 3) zQ)))))))))))))))) tQ)
  (xQ (zX (cw_pt (cw_and (ct2 mX iQ (cv 4) zQ) (cw_and1 (ct2 aJ rZ (cv 3) zQ)))) (xQ (cs1 7 S.nd (cf (T.F 14 rfl) pJ hr (qQ (cv 0) (qQ (cv 1) (qQ (cv 2) (ca1 zQ))))))
  (xQ (cs1 8 S.nd (cf (T.F 22 rfl) rK hr (qQ (cv 0) (qQ (cv 1) (qQ (cv 2) (ca1 (eQ zV fJ (cv 3) zQ)))))))
  (kQ (pQ (fQ (qQ vQ (qQ (cv 7) (qQ (cv 8) (ca1 (cf (T.F 22 rfl) rK hr (qQ (cv 0) (qQ (cv 1) (qQ (cv 2) (ca1 (eQ zV fJ (cv 3) zQ))))))))))))))) tQ)
  (xQ (zX (cw_pt (cw_and (ct2 aJ rZ (cv 4) zQ) (cw_and1 (ct2 aJ rZ (bZ (oX hr) (cv 1) vQ (fun _ _=>rfl)) zQ)))) (kQ (pQ (cf (T.F 20 rfl) Vk hr (qQ (cv 0) (qQ (cv 1) (ca1 (cv 3))))))) tQ)
  (kQ (pQ (cf (T.F 18 rfl) rF hr (qQ (cv 0) (qQ (cv 1) (qQ (cv 2) (ca1 (cv 3))))))))))))),?_⟩
 .obtain ⟨t,k,τ,ns,κ,rfl,_⟩:=h; rfl
 rintro ts C R ⟨t,k,τ,ns,κ,rfl,hT,hk,ok,q⟩;have hτ:=ok.t he;refine uQ ?_;refine⟨t,9,ns,rfl,hT,by decide,by decide,fun v C1 v0 v1 T1 e1=>?_⟩
 try dsimp only
 have k1:=hk.ex e1;obtain⟨dn,edn⟩:=qC e d
 have low:∀(ls:List Ln),(∀x∈ls,∃d',d=d'+1/\LnOk κ.bs κ.rs (gV e d') τ x)->∀x∈ls,LnOk κ.bs κ.rs dn τ x:=by
  intro ls h x hx;obtain⟨d',rfl,h'⟩:=h x hx;rw[cP] at edn;have:dn=gV e d':=by omega
  rw[this]; exact h'
 refine aQ (fun ρ' C'=>C'=C1/\ρ'=[some (.ref t),some (.ref k),some (.tup (τ.map PV.str)),some (.int (d:Nat)),some (.int v),none,none,none,none]) (fun L hL=>?_) ?_
 .refine i_i ?_
  refine mZ (fun hb=>?_) fun hb=>?_
  .refine nJ k1.at_ rfl xN ?_
   refine i_i ?_;refine mZ (fun hb2=>?_) fun hb2=>?_
   .refine nJ k1.at_ rfl vL ?_
    refine iW k1.rx ?_;refine i_i ?_;refine mZ (fun hb3=>?_) fun hb3=>?_
    .have hb2:=of_decide_eq_true hb2
     rw[List.length_map] at hb3;have hb3:=of_decide_eq_true hb3;refine vZ ?_;refine nJ k1.at_ rfl xN ?_;refine i_i ?_;refine pW k1.at_ rfl (by show 6<=1000; decide) ?_;rw[Xz]
     try dsimp only
     have k2:=k1.put κ.l (κ.p - 1) κ.e κ.la;have T2:=T1.put k1.nk (.dK (hX κ.b κ.r κ.l (κ.p - 1) κ.e (kG κ.la)));refine nJ k2.at_ rfl vL ?_;refine nJ k2.at_ rfl vL ?_;refine iW k2.rx ?_;have lr:=hk.lr;have el:(κ.rs.map PV.str).length=κ.rs.length:=List.length_map _;refine⟨t,_,ns,rfl,T2,by show(0:Int) < (((κ.rs.map PV.str).length:Nat):Int); rw[el]; exact hb3,by show(((κ.rs.map PV.str).length:Nat):Int) < _; rw[el]; omega,fun i C3 i0 i1 T3 e3=>?_⟩
     have i1:i < (((κ.rs.map PV.str).length:Nat):Int):=i1;rw[el] at i1;have k3:=k2.ex e3;refine dX k3.rx (uK (f:=PV.str) "" i0 i1) ?_;refine⟨t,k,τ,ns,{ κ with p:=κ.p - 1 },_,rfl,T3,k3,ok.tl,fun o g C4 ho hg hgl T4 e4=>?_⟩;have p0:=ok.p0;refine q _ { κ with p:=κ.p - 1 } C4 ?_ ?_ ?_ T4 (k3.ex e4) ?_
     .rw [edn]; exact⟨ho,kY i0 i1,hg,hgl⟩
     .refine ⟨?_,?_,fun z=>absurd hτ z⟩
      .show ((1:Nat):Int)<=mOf e * (1+(κ.l - κ.l))
       rcases xM e with z | z<;>rw[z]<;>omega
      .show ((1:Nat):Int)<=(κ.p - (κ.p - 1))+zOf κ * (κ.e - κ.e)
       rw[Int.sub_self κ.e,Int.mul_zero]; omega
     .exact ⟨rfl,rfl,rfl,rfl,rfl,ok.l0,Int.le_refl _,by show 0<=κ.p - 1; omega,by show κ.p - 1<=κ.p; omega,ok.e0,Int.le_refl _⟩
     .exact (((ExS.ofEx e1).at (by simp) _).trans (ExS.ofEx e3)).trans (ExS.ofEx e4)
    .refine vX ?_
     exact hL _ _ ⟨rfl,rfl⟩
   .refine vM rfl ?_
    refine vX ?_;exact hL _ _ ⟨rfl,rfl⟩
  .refine vM rfl ?_
   refine vX ?_;exact hL _ _ ⟨rfl,rfl⟩
 rintro ρ' C' ⟨rfl,rfl⟩
 try dsimp only
 refine aQ (fun ρ' C''=>C''=C'/\ρ'=[some (.ref t),some (.ref k),some (.tup (τ.map PV.str)),some (.int (d:Nat)),some (.int v),none,none,none,none]) (fun L hL=>?_) ?_
 .refine xX (aX _ _) ?_
  refine mZ (fun hb=>?_) fun hb=>?_
  .refine i_i ?_
   refine mZ (fun hb2=>?_) fun hb2=>?_
   .have hb2:=of_decide_eq_true hb2
    obtain⟨d',rfl⟩:∃d',d=d'+1:=⟨d - 1,by omega⟩;refine uQ ?_;refine⟨by show 3<=sizeLine; decide,fun p hp=>?_⟩;refine⟨t,3,ns,rfl,T1.new hp _,by decide,by decide,fun i C2 i0 i1 T2 e2=>?_⟩;refine dX (e2 p _ (T1.ne hp) jQ) (uK (f:=PV.str) (ss:=["a","ab","b"]) "" i0 i1) ?_;have e02:Ex t C C2:=fun b o n z=>e2 b o n (Gr.new hp _ _ _ (e1 b o n z))
    try dsimp only
    refine uQ ?_;refine⟨t,k,τ,ns,κ,rfl,T2,hk.ex e02,ok.tl,fun o C3 ho T3 e3=>?_⟩
    try dsimp only
    refine⟨t,k,τ,ns,κ,rfl,T3,(hk.ex e02).ex e3,ok.tl,fun rk C4 hrk T4 e4=>?_⟩;refine i_i ?_;refine⟨d',rfl,t,k,τ,ns,κ,?_,T4,((hk.ex e02).ex e3).ex e4,ok,fun ls κ' C5 h1 h2 h3 h4 T5 k5 x5=>⟨by show 5<=sizeLine; decide,?_⟩⟩
    .have:((d'+1:Nat):Int) - 1=(d':Nat):=by omega
     rw[this]
    refine q (.give o _ rk ls) κ' C5 ?_ h3.one h4 T5 k5 ((ExS.ofEx ((e02.trans e3).trans e4)).trans x5);rw[edn];exact⟨ho,kY (ss:=["a","ab","b"]) i0 i1,hrk,low ls fun x hx=>⟨d',rfl,h1 x hx⟩,h2⟩
   .refine vX ?_
    exact hL _ _ ⟨rfl,rfl⟩
  .refine vM rfl ?_
   refine vX ?_;exact hL _ _ ⟨rfl,rfl⟩
 rintro ρ' C'' ⟨rfl,rfl⟩
 try dsimp only
 refine aQ (fun ρ' C'=>C'=C''/\ρ'=[some (.ref t),some (.ref k),some (.tup (τ.map PV.str)),some (.int (d:Nat)),some (.int v),none,none,none,none]) (fun L hL=>?_) ?_
 .refine xX (aX _ _) ?_
  refine mZ (fun hb=>?_) fun hb=>?_
  .refine i_i ?_
   refine mZ (fun hb2=>?_) fun hb2=>?_
   .have hb2:=of_decide_eq_true hb2
    obtain⟨d',rfl⟩:∃d',d=d'+1:=⟨d - 1,by omega⟩;have ed:((d'+1:Nat):Int) - 1=(d':Nat):=by omega
    refine uQ ?_;refine⟨t,k,τ,ns,κ,rfl,T1,k1,ok.tl,fun rk C4 hrk T4 e4=>?_⟩
    try dsimp only
    refine uQ ?_;refine i_i ?_;refine⟨d',rfl,t,k,τ,ns,κ,by rw[ed],T4,k1.ex e4,ok,fun ls κ' C5 h1 h2 h3 h4 T5 k5 x5=>?_⟩
    try dsimp only
    refine i_i ?_;refine⟨d',rfl,t,k,τ,ns,κ',by rw[ed],T5,k5,ok.chg h4,fun ls2 κ2 C6 g1 g2 g3 g4 T6 k6 x6=>⟨by show 4<=sizeLine; decide,?_⟩⟩;refine q (.when rk ls ls2) κ2 C6 ?_ (Wgt.up (h3.add g3 h4)) (h4.trans g4) T6 k6 (((ExS.ofEx (e1.trans e4)).trans x5).trans x6);rw[edn];refine⟨hrk,⟨low ls fun x hx=>⟨d',rfl,h1 x hx⟩,h2⟩,low ls2 fun x hx=>⟨d',rfl,?_⟩,g2⟩;have:=g1 x hx;rw[h4.bs,h4.rs] at this
    exact this
   .refine vX ?_
    exact hL _ _ ⟨rfl,rfl⟩
  .refine vM rfl ?_
   refine vX ?_;exact hL _ _ ⟨rfl,rfl⟩
 rintro ρ' C2 ⟨rfl,rfl⟩
 try dsimp only
 refine aQ (fun ρ' C'=>C'=C2/\ρ'=[some (.ref t),some (.ref k),some (.tup (τ.map PV.str)),some (.int (d:Nat)),some (.int v),none,none,none,none]) (fun L hL=>?_) ?_
 .refine i_i ?_
  refine mZ (fun hb=>?_) fun hb=>?_
  .refine nJ k1.at_ rfl wL ?_
   refine i_i ?_;refine mZ (fun hb2=>?_) fun hb2=>?_
   .have hb2:=of_decide_eq_true hb2
    subst hτ;refine⟨t,k,d,ns,κ,rfl,T1,k1,ok,hb2,fun l κ' C5 h1 h2 h3 T5 k5 x5=>?_⟩;refine q l κ' C5 (h1.mono ?_) h2 h3 T5 k5 ((ExS.ofEx e1).trans x5);have:=ok.e1;unfold gV;rw[if_neg (by omega)];omega
   .refine vX ?_
    exact hL _ _ ⟨rfl,rfl⟩
  .refine vM rfl ?_
   refine vX ?_;exact hL _ _ ⟨rfl,rfl⟩
 rintro ρ' C3 ⟨rfl,rfl⟩
 try dsimp only
 exact⟨t,k,τ,ns,κ,rfl,T1,k1,ok,fun l κ' C5 h1 h2 h3 T5 k5 x5=>q l κ' C5 h1 h2 h3 T5 k5 ((ExS.ofEx e1).trans x5)⟩
end
theorem Ln.pvs_app (xs ys:List Ln):Ln.pvs (xs++ys)=Ln.pvs xs++Ln.pvs ys:=by
 rw[Ln.pvs_map,Ln.pvs_map,Ln.pvs_map,List.map_append]
theorem Ln.pvs_len (xs:List Ln):(Ln.pvs xs).length=xs.length:=by rw[Ln.pvs_map,List.length_map]
theorem Wgt.pay {e:Nat}{τ:List Str}{κ κ':Kt}{tw pw:Nat}(h:Wgt e τ { κ with l:=κ.l - 1 } κ' 1 tw pw):Wgt e τ κ κ' 0 tw pw:=by
 refine⟨?_,h.p,h.n⟩;have:=h.t;have this:(tw:Int)<=mOf e * (1+(κ.l - 1 - κ'.l)):=this;have e2:1+(κ.l - 1 - κ'.l)=0+(κ.l - κ'.l):=by omega
 rw[e2] at this;exact this
theorem KAt.upd {C:CH}{t k p:Addr}{κ:Kt}(h:KAt C t k κ)(n1:p≠k)(n2:p≠κ.b)(n3:p≠κ.r)(o:CO):KAt (yQ C p o) t k κ :=
 ⟨by rw[wQ (Ne.symm n1)]; exact h.at_,by rw[wQ (Ne.symm n2)]; exact h.bx,by rw[wQ (Ne.symm n3)]; exact h.rx,h.nk,h.nb,h.nr,h.lb,h.lr⟩
section
variable {P:Program}{w:World}{K:PySem.W.Frag}{mg:Str->Option Value}{base:Heap}{a:Adr}
theorem Jp (T:Txt P w K mg a)(e d r:Nat)(h1:1<=r)
  (Vj:FnOk P w K mg base CX0 r (a.f 21) (a.d 21) U0 (spC K (yP e d))) :
  FnOk P w K mg base CX0 (r+1) (a.f 22) (a.d 22) U0 (spC K (vB e d)):=by
 have S:=(T.F 22 rfl).s;have bQ:=(lZ (base:=base) T).mono (show 1<=r by omega)
 refine(T.F 22 rfl).ok (fun ts C R h=>?_) fun cdv A outer s H E hr=>⟨_,(xQ (cs1 4 S.nd (nX yZ))
  (xQ (sD PassesOwn.never rfl rfl T.nK (ca1 (eQ zV fJ (eQ gX bX zQ (cf (T.F 10 rfl) bQ hr (qQ (cv 0) (ca1 zQ)))) (kJ fU aD rfl T.fS rfl (ca1 (sG sU lW (cv 3) zQ (dY _)))))) (cg1 5 S.nd) (kQ (zX (ct2 aJ rZ (bZ (oX hr) (cv 1) vQ (fun _ _=>rfl)) zQ) (xQ (vK (oX hr) (cv 1) vQ (eQ zV fJ (bZ (oX hr) (cv 1) vQ (fun _ _=>rfl)) zQ))
  (kQ (iX (cap (cv 4) (cf (T.F 21 rfl) Vj hr (qQ (cv 0) (qQ (cv 1) (qQ (cv 2) (ca1 (cv 3)))))))))) tQ)))
  (kQ (pQ (ctp T.eX (cv 4)))))),?_⟩
 .obtain ⟨t,k,τ,ns,κ,rfl,_⟩:=h; rfl
 rintro ts C R ⟨t,k,τ,ns,κ,rfl,hT,hk,ok,q⟩;refine uQ ?_;refine⟨by show 0<=sizeLine; decide,fun h hh=>?_⟩;have nht:=hT.ne hh;have nhk:h≠k:=fun z=>by subst z; rw[hk.at_] at hh; cases hh
 have nS:h∉[t,k]:=fun z=>by
  rcases List.mem_cons.1 z with z | z
  .exact nht z
  .exact nhk (List.mem_singleton.1 z)
 have nb:h≠κ.b:=fun z=>by rw[z,hk.bx] at hh; cases hh
 have nr:h≠κ.r:=fun z=>by rw[z,hk.rx] at hh; cases hh
 try dsimp only
 have e1:Ex t C (yQ C h (.lst [])):=Ex.new hh _;refine aQ (fun ρ' C'=>∃(ls:List Ln) (κ':Kt) (x5:Option PV),ρ'=[some (.ref t),some (.ref k),some (.tup (τ.map PV.str)),some (.int (d:Nat)),some (.ref h),x5]/\C' h=some (.lst (Ln.pvs ls))/\(∀x∈ls,LnOk κ.bs κ.rs (gV e d) τ x)/\ls.length<=3/\Wgt e τ κ κ' 0 (Ln.tws ls) (Ln.pws ls)/\Chg κ κ'/\Tp C' t ns/\KAt C' t k κ'/\ExS [t,k] C C') (fun L hL=>?_) ?_
 .refine ⟨t,3,ns,rfl,hT.new hh _,by decide,by decide,fun v C2 v0 v1 T2 e2=>?_⟩
  refine mW ?_;refine i_i ?_;refine QR ?_;refine i_i ?_;generalize hn:1+v - (if decide ((d:Int) < 2)=true then (1:Int) else 0)=n;have hn3:n<=3/\0<=n:=by rw[<- hn]; split<;>omega
  refine⟨by omega,by omega,?_⟩;refine oJ (fun zs ρ C'=>∃(ls:List Ln) (κ':Kt) (x5:Option PV),ρ=[some (.ref t),some (.ref k),some (.tup (τ.map PV.str)),some (.int (d:Nat)),some (.ref h),x5]/\C' h=some (.lst (Ln.pvs ls))/\(∀x∈ls,LnOk κ.bs κ.rs (gV e d) τ x)/\ls.length+zs.length<=3/\Wgt e τ κ κ' 0 (Ln.tws ls) (Ln.pws ls)/\Chg κ κ'/\Tp C' t ns/\KAt C' t k κ'/\ExS [t,k] C C') ?_ ?_ _ _ _ ⟨[],κ,_,rfl,e2 _ _ nht jQ,(fun _ z=>nomatch z),by rw[List.length_map,List.length_range]; show 0+_<=3; omega,Wgt.nil,Chg.refl ok,T2,(hk.ex e1).ex e2,ExS.ofEx (e1.trans e2)⟩
  .rintro z zs ρ C3 ⟨ls,κ1,x5,rfl,mh,hls,hll,hw,hc,T3,k3,x3⟩ L3 hL3
   have ok3:=ok.chg hc;refine nJ k3.at_ rfl dB ?_;refine i_i ?_;refine mZ (fun hb=>?_) fun hb=>?_
   .have hb:=of_decide_eq_true hb
    refine vZ ?_;refine nJ k3.at_ rfl dB ?_;refine i_i ?_;refine pW k3.at_ rfl (by show 6<=1000; decide) ?_;rw[yT]
    try dsimp only
    have k4:=k3.put (κ1.l - 1) κ1.p κ1.e κ1.la;have T4:=T3.put k3.nk (.dK (hX κ1.b κ1.r (κ1.l - 1) κ1.p κ1.e (kG κ1.la)));have mh4:yQ C3 k (.dK (hX κ1.b κ1.r (κ1.l - 1) κ1.p κ1.e (kG κ1.la))) h=some (.lst (Ln.pvs ls)):=by rw[wQ nhk]; exact mh
    have c4:Chg κ1 { κ1 with l:=κ1.l - 1 }:=⟨rfl,rfl,rfl,rfl,rfl,by show 0<=κ1.l - 1; omega,by show κ1.l - 1<=κ1.l; omega,hc.p0,Int.le_refl _,hc.e0,Int.le_refl _⟩;refine⟨zG mh4,?_⟩;refine⟨t,k,τ,ns,_,rfl,T4,k4,ok3.chg c4,fun l κ2 C5 g1 g2 g3 T5 k5 x5=>?_⟩;have mh5:=x5 h _ nS mh4;refine vH mh5 (by rw[Ln.pvs_len]; exact Nat.lt_of_lt_of_le (show ls.length < 4 by omega) (by decide)) ?_;refine hL3 _ _ ⟨ls++[l],κ2,_,rfl,by rw[jQ,Ln.pvs_app]; rfl,fun x hx=>?_,by rw[List.length_append,List.length_singleton]; rw[List.length_cons] at hll; omega,?_,hc.trans (c4.trans g3),T5.put nht _,?_,?_⟩
    .rcases List.mem_append.1 hx with hx | hx
     .exact hls x hx
     .cases List.mem_singleton.1 hx
      have:LnOk κ1.bs κ1.rs (gV e d) τ l:=g1;rw[hc.bs,hc.rs] at this;exact this
    .rw [Ln.tws_app,Ln.pws_app]
     have:=hw.add g2.pay hc;exact this
    .exact k5.upd nhk (by rw[g3.b]; show h≠κ1.b; rw[hc.b]; exact nb) (by rw[g3.r]; show h≠κ1.r; rw[hc.r]; exact nr) _
    .exact (((x3.at (by simp) _).trans x5).put hh _)
   .refine vX ?_
    exact hL3 _ _ ⟨ls,κ1,_,rfl,mh,hls,by rw[List.length_cons] at hll; omega,hw,hc,T3,k3,x3⟩
  .rintro ρ C3 ⟨ls,κ1,x5,rfl,mh,hls,hll,hw,hc,T3,k3,x3⟩
   exact hL _ _ ⟨ls,κ1,_,rfl,mh,hls,by omega,hw,hc,T3,k3,x3⟩
 rintro ρ' C3 ⟨ls,κ1,x5,rfl,mh,hls,hll,hw,hc,T3,k3,x3⟩
 try dsimp only
 refine cJ mh ?_;exact q ls κ1 C3 hls (by omega) hw hc T3 k3 x3
end
section
variable {P:Program}{w:World}{K:PySem.W.Frag}{mg:Str->Option Value}{base:Heap}{a:Adr}
structure EI (C0 C:CH)(t k h:Addr)(ns:List Int)(κ κ':Kt)(name:Str)(ls:List Ln)(m:Nat):Prop where
 mh:C h=some (.lst (Ln.pvs ls))
 ok:∀x∈ls,LnOk κ.bs κ.rs 1 [name] x
 len:ls.length+m<=2
 tw:(Ln.tws ls:Int)<=κ.l - κ'.l
 pw:Ln.pws ls<=if κ.la.isSome then ls.length else 0
 ch:Chg κ κ'
 p:κ'.p=κ.p
 e:κ'.e=κ.e
 tp:Tp C t ns
 kt:KAt C t k κ'
 ex:ExS [t,k] C0 C
theorem ok_each (T:Txt P w K mg a)(r:Nat)(h1:6<=r)
  (rF:FnOk P w K mg base CX0 r (a.f 18) (a.d 18) U0 (spC K (yP 0 0))) :
  FnOk P w K mg base CX0 (r+1) (a.f 20) (a.d 20) U4 (spC K (Kl 1)):=by
 have S:=(T.F 20 rfl).s;have bQ:=(lZ (base:=base) T).mono (show 1<=r by omega);have sZ:=(bG (base:=base) T).mono (show 2<=r by omega);have iG:=(jR (base:=base) T).mono (show 3<=r by omega);have hW:=(zM (base:=base) T).mono (show 6<=r by omega)
 refine(T.F 20 rfl).ok (fun ts C R h=>?_) fun cdv A outer s H E hr=>⟨_,(xQ (vK (oX hr) (cv 1) vQ (eQ zV fJ (bZ (oX hr) (cv 1) vQ (fun _ _=>rfl)) zQ))
  (xQ (cs1 3 S.nd (cx (cf (T.F 11 rfl) sZ hr (qQ (cv 0) (ca1 zQ))) zQ))
  (xQ (cs1 4 S.nd (fQ (qQ vQ (ca1 (cf (T.F 10 rfl) bQ hr (qQ (cv 0) (ca1 zQ)))))))
  (xQ (zX (ct2 mX iQ (cf (T.F 10 rfl) bQ hr (qQ (cv 0) (ca1 zQ))) zQ) (kQ (cs1 4 S.nd (cf (T.F 13 rfl) iG hr (qQ (cv 0) (qQ (cv 1) (ca1 (fQ yZ))))))) tQ)
  (xQ (cs1 5 S.nd (nX yZ))
  (xQ (sD PassesOwn.never rfl rfl T.nK (ca1 (eQ gX bX zQ (cf (T.F 10 rfl) bQ hr (qQ (cv 0) (ca1 zQ))))) (cg1 6 S.nd) (kQ (zX (ct2 aJ rZ (bZ (oX hr) (cv 1) vQ (fun _ _=>rfl)) zQ) (xQ (vK (oX hr) (cv 1) vQ (eQ zV fJ (bZ (oX hr) (cv 1) vQ (fun _ _=>rfl)) zQ))
  (kQ (zX (cw_pt (cw_and (ct2 op_notN KC (bZ (oX hr) (cv 1) vQ (fun _ _=>rfl)) rG) (cw_and1 (ct2 mX iQ (cf (T.F 10 rfl) bQ hr (qQ (cv 0) (ca1 zQ))) zQ)))) (kQ (iX (cap (cv 5) (cf (T.F 19 rfl) hW hr (qQ (cv 0) (qQ (cv 1) (qQ (fQ (ca1 (cv 3))) (ca1 (bZ (oX hr) (cv 1) vQ (fun _ _=>rfl)))))))))) (kQ (iX (cap (cv 5) (cf (T.F 18 rfl) rF hr (qQ (cv 0) (qQ (cv 1) (qQ (fQ (ca1 (cv 3))) (ca1 zQ))))))))))) tQ)))
  (kQ (pQ (fQ (qQ vQ (qQ (cv 3) (qQ (cv 4) (ca1 (ctp T.eX (cv 5))))))))))))))),?_⟩
 .obtain ⟨t,k,d,ns,κ,rfl,_⟩:=h; rfl
 rintro ts C R ⟨t,k,d,ns,κ,rfl,hT,hk,ok,he,q⟩;have he1:κ.e=1:=by have:=ok.e1; omega
 refine vZ ?_;refine nJ hk.at_ rfl wL ?_;refine i_i ?_;refine pW hk.at_ rfl (by show 6<=1000; decide) ?_;rw[dL]
 try dsimp only
 have k1:=hk.put κ.l κ.p (κ.e - 1) κ.la;have T1:=hT.put hk.nk (.dK (hX κ.b κ.r κ.l κ.p (κ.e - 1) (kG κ.la)));have x1:ExS [t,k] C (yQ C k (.dK (hX κ.b κ.r κ.l κ.p (κ.e - 1) (kG κ.la)))):=ExS.refl.at (by simp) _;refine uQ ?_;refine⟨t,1,ns,rfl,T1,by decide,by decide,fun p ss C2 m2 _ pt hl nd T2 e2=>?_⟩;have hl:ss.length=1:=hl
 obtain⟨name,rfl⟩:∃tag,ss=[tag]:=by
  match ss,hl with
  |[x],_=>exact⟨x,rfl⟩
 refine dX m2 sQ ?_
 try dsimp only
 refine uQ ?_;refine⟨t,4,ns,rfl,T2,by decide,by decide,fun v C3 v0 v1 T3 e3=>⟨by show 2<=sizeLine; decide,?_⟩⟩
 try dsimp only
 have k3:=(k1.ex e2).ex e3;have x3:ExS [t,k] C C3:=x1.trans (ExS.ofEx (e2.trans e3));refine aQ (fun ρ' C'=>∃rk:Rk,rk.ok κ.bs [] 0/\ρ'=[some (.ref t),some (.ref k),some (.int (d:Nat)),some (.str name),some rk.pv,none,none]/\Tp C' t ns/\Ex t C3 C') (fun L hL=>?_) ?_
 .refine ⟨t,3,ns,rfl,T3,by decide,by decide,fun z C4 z0 z1 T4 e4=>?_⟩
  refine xX (aX _ _) ?_;refine mZ (fun hb=>?_) fun hb=>?_
  .refine ⟨by show 0<=sizeLine; decide,?_⟩
   refine⟨t,k,[],ns,_,rfl,T4,k3.ex e4,Nat.zero_le _,fun rk C5 hrk T5 e5=>?_⟩;exact hL _ _ ⟨rk,hrk,rfl,T5,e4.trans e5⟩
  .refine vX ?_
   exact hL _ _ ⟨.num v,⟨by omega,by omega⟩,rfl,T4,e4⟩
 rintro ρ' C4 ⟨rk,hrk,rfl,T4,e4⟩
 try dsimp only
 have k4:=k3.ex e4;have x4:ExS [t,k] C C4:=x3.trans (ExS.ofEx e4);have k5:KAt C4 t k { κ with l:=κ.l,e:=κ.e - 1 }:=k4;have T5:=T4;have x5:=x4;generalize C4=C5 at k5 T5 x5 ⊢;refine uQ ?_;refine⟨by show 0<=sizeLine; decide,fun h hh=>?_⟩;have nht:=T5.ne hh;have nhk:h≠k:=fun z=>by subst z; rw[k5.at_] at hh; cases hh
 have nb:h≠κ.b:=fun z=>by have:=k5.bx; rw[<- z,hh] at this; cases this
 have nr:h≠κ.r:=fun z=>by have:=k5.rx; rw[<- z,hh] at this; cases this
 have nS:h∉[t,k]:=fun z=>by
  rcases List.mem_cons.1 z with z | z
  .exact nht z
  .exact nhk (List.mem_singleton.1 z)
 have hh0:C h=none:=x5.none nS hh
 try dsimp only
 have c5:Chg κ { κ with l:=κ.l,e:=κ.e - 1 }:=⟨rfl,rfl,rfl,rfl,rfl,ok.l0,Int.le_refl _,ok.p0,Int.le_refl _,by show 0<=κ.e - 1; omega,by show κ.e - 1<=κ.e; omega⟩;have ok5:Kok { κ with l:=κ.l,e:=κ.e - 1 } 0 [name]:=⟨c5.l0,Int.le_trans c5.l1 ok.l1,ok.p0,ok.p1,c5.e0,by show κ.e - 1<=0; omega,fun z=>absurd z (by decide),fun z=>absurd (show(0:Int) < κ.e - 1 from z) (by omega),by show 1<=4; decide⟩;refine aQ (fun ρ' C'=>∃(ls:List Ln) (κ':Kt) (x7:Option PV),ρ'=[some (.ref t),some (.ref k),some (.int (d:Nat)),some (.str name),some rk.pv,some (.ref h),x7]/\EI C C' t k h ns { κ with l:=κ.l,e:=κ.e - 1 } κ' name ls 0) (fun L hL=>?_) ?_
 .refine ⟨t,2,ns,rfl,T5.new hh _,by decide,by decide,fun v2 C6 v20 v21 T6 e6=>?_⟩
  refine mW ?_;refine⟨by omega,by omega,?_⟩;have k6:KAt C6 t k { κ with l:=κ.l,e:=κ.e - 1 }:=(k5.upd nhk nb nr _).ex e6;refine oJ (fun zs ρ C'=>∃(ls:List Ln) (κ':Kt) (x7:Option PV),ρ=[some (.ref t),some (.ref k),some (.int (d:Nat)),some (.str name),some rk.pv,some (.ref h),x7]/\EI C C' t k h ns { κ with l:=κ.l,e:=κ.e - 1 } κ' name ls zs.length) ?_ ?_ _ _ _ ⟨[],_,_,rfl,⟨e6 _ _ nht jQ,(fun _ z=>nomatch z),by rw[List.length_map,List.length_range]; show 0+_<=2; omega,by show(0:Int)<=_ - _; omega,Nat.zero_le _,Chg.refl ok5,rfl,rfl,T6,k6,(x5.put hh0 _).trans (ExS.ofEx e6)⟩⟩
  .rintro z zs ρ C7 ⟨ls,κ1,x7,rfl,I⟩ L3 hL3
   have ok7:=ok5.chg I.ch;have hll:=I.len;rw[List.length_cons] at hll;refine nJ I.kt.at_ rfl dB ?_;refine i_i ?_;refine mZ (fun hb=>?_) fun hb=>?_
   .have hb:=of_decide_eq_true hb
    refine vZ ?_;refine nJ I.kt.at_ rfl dB ?_;refine i_i ?_;refine pW I.kt.at_ rfl (by show 6<=1000; decide) ?_;rw[yT]
    try dsimp only
    have k8:=I.kt.put (κ1.l - 1) κ1.p κ1.e κ1.la;have T8:=I.tp.put hk.nk (.dK (hX κ1.b κ1.r (κ1.l - 1) κ1.p κ1.e (kG κ1.la)));have mh8:yQ C7 k (.dK (hX κ1.b κ1.r (κ1.l - 1) κ1.p κ1.e (kG κ1.la))) h=some (.lst (Ln.pvs ls)):=by rw[wQ nhk]; exact I.mh
    have x8:ExS [t,k] C (yQ C7 k (.dK (hX κ1.b κ1.r (κ1.l - 1) κ1.p κ1.e (kG κ1.la)))):=I.ex.at (by simp) _;generalize yQ C7 k (.dK (hX κ1.b κ1.r (κ1.l - 1) κ1.p κ1.e (kG κ1.la)))=C8 at k8 T8 mh8 x8 ⊢;have k8:KAt C8 t k { κ1 with l:=κ1.l - 1 }:=k8;have c8:Chg κ1 { κ1 with l:=κ1.l - 1 }:=⟨rfl,rfl,rfl,rfl,rfl,by show 0<=κ1.l - 1; omega,by show κ1.l - 1<=κ1.l; omega,I.ch.p0,Int.le_refl _,I.ch.e0,Int.le_refl _⟩
    have ela:κ1.la=κ.la:=I.ch.la
    have more:∀(l:Ln) (κ2:Kt) (C9:CH),LnOk κ.bs κ.rs 1 [name] l->(l.tw:Int)<=1+(κ1.l - 1 - κ2.l)->(l.pw<=if κ.la.isSome then 1 else 0)->Chg { κ1 with l:=κ1.l - 1 } κ2->κ2.p=κ1.p->κ2.e=κ1.e->Tp C9 t ns->KAt C9 t k κ2->ExS [t,k] C8 C9->(∀ρ' C',(∃(ls:List Ln) (κ':Kt) (x7:Option PV),ρ'=[some (.ref t),some (.ref k),some (.int (d:Nat)),some (.str name),some rk.pv,some (.ref h),x7]/\EI C C' t k h ns { κ with l:=κ.l,e:=κ.e - 1 } κ' name ls zs.length)->L3 ρ' C') ->
      qG (.ref h) [l.pv] C9 fun _ C'=>L3 [some (.ref t),some (.ref k),some (.int (d:Nat)),some (.str name),some rk.pv,some (.ref h),some z] C':=by
     intro l κ2 C9 h1 h2 h3 h4 h5 h6 T9 k9 x9 hL';have mh9:=x9 h _ nS mh8;refine vH mh9 (by rw[Ln.pvs_len]; exact Nat.lt_of_lt_of_le (show ls.length < 4 by omega) (by decide)) ?_;have b2:h≠κ2.b:=by rw[h4.b]; show h≠κ1.b; rw[I.ch.b]; exact nb
     have r2:h≠κ2.r:=by rw[h4.r]; show h≠κ1.r; rw[I.ch.r]; exact nr
     refine hL' _ _ ⟨ls++[l],κ2,_,rfl,⟨by rw[jQ,Ln.pvs_app]; rfl,fun x hx=>?_,by rw[List.length_append,List.length_singleton]; omega,?_,?_,I.ch.trans (c8.trans h4),h5.trans I.p,h6.trans I.e,T9.put nht _,k9.upd nhk b2 r2 _,(x8.trans x9).put hh0 _⟩⟩
     .rcases List.mem_append.1 hx with hx | hx
      .exact I.ok x hx
      .cases List.mem_singleton.1 hx; exact h1
     .rw [Ln.tws_app]
      have:=I.tw;show((Ln.tws ls+(l.tw+0):Nat):Int)<=_;omega
     .rw [Ln.pws_app,List.length_append,List.length_singleton]
      have g:=I.pw;have g:Ln.pws ls<=if κ.la.isSome then ls.length else 0:=g
      show Ln.pws ls+(l.pw+0)<=if κ.la.isSome then ls.length+1 else 0
      cases hz:κ.la.isSome with
      |true=>rw[hz,if_pos rfl] at g h3; rw[if_pos rfl]; omega
      |false=>rw[hz,if_neg Bool.false_ne_true] at g h3; rw[if_neg Bool.false_ne_true]; omega
    have e1z:κ1.e=0:=by have:=I.e; have:κ1.e=κ.e - 1:=this; omega
    have elseB:∀C9,Tp C9 t ns->Ex t C8 C9->yP 0 0 [.ref t,.ref k,.tup [.str name],.int 0] C9 fun v C'=>qG (.ref h) [v] C' fun _ C''=>L3 [some (.ref t),some (.ref k),some (.int (d:Nat)),some (.str name),some rk.pv,some (.ref h),some z] C'':=by
     intro C9 T9 e9;refine⟨t,k,[name],ns,_,rfl,T9,k8.ex e9,ok7.chg c8,fun l κ2 C10 g1 g2 g3 T10 k10 x10=>?_⟩;obtain⟨n1,n2⟩:=g2.n (fun z=>nomatch z);refine more l κ2 C10 ?_ ?_ (by rw[n1]; exact Nat.zero_le _) g3 n2 ?_ T10 k10 ((ExS.ofEx e9).trans x10) hL3
     .have:LnOk κ1.bs κ1.rs 1 [name] l:=g1
      rw[I.ch.bs,I.ch.rs] at this;exact this
     .have:=g2.t
      have this:(l.tw:Int)<=1 * (1+(κ1.l - 1 - κ2.l)):=this;omega
     .have a1:=g3.e0
      have a2:=g3.e1;have a2:κ2.e<=κ1.e:=a2;omega
    refine nJ k8.at_ rfl cS ?_;refine c_i ?_;refine Ke (fun hb2=>?_) fun hb2=>?_
    .refine ⟨t,2,ns,rfl,T8,by decide,by decide,fun z2 C9 z20 z21 T9 e9=>?_⟩
     refine xX (aX _ _) ?_;refine mZ (fun hb3=>?_) fun hb3=>?_
     .have hb2:(!uI (kG κ1.la))=true:=hb2
      obtain⟨sl,hsl⟩:∃sl,κ1.la=some sl:=by
       cases hz:κ1.la with
       |none=>rw[hz] at hb2; cases hb2
       |some sl=>exact⟨sl,rfl⟩
      have k9:=k8.ex e9;refine⟨zG (e9 _ _ nht mh8),?_⟩;refine⟨by show 1<=sizeLine; decide,?_⟩;refine nJ k9.at_ rfl (v:=.str sl) (by rw[cS]; show some (kG κ1.la)=_; rw[hsl]; rfl) ?_;refine⟨t,k,[name],ns,_,sl,rfl,T9,k9,by show 1<=4; decide,fun o g C10 ho hg hgl T10 e10=>?_⟩;refine more (.part o sl g) { κ1 with l:=κ1.l - 1 } C10 ?_ ?_ ?_ (Chg.refl (ok7.chg c8)) rfl rfl T10 (k9.ex e10) ((ExS.ofEx e9).trans (ExS.ofEx e10)) hL3
      .have ho:bO κ1.bs [name] o:=ho
       have hg:aH κ1.bs [name] 1 g:=hg;rw[I.ch.bs] at ho hg;exact⟨ho,ok.ly he sl (by rw[<- ela]; exact hsl),hg,hgl⟩
      .show ((1:Nat):Int)<=1+(κ1.l - 1 - (κ1.l - 1)); omega
      .rw [<- ela,hsl]; exact Nat.le_refl _
     .refine ⟨zG (e9 _ _ nht mh8),?_⟩
      refine⟨by show 1<=sizeLine; decide,?_⟩;exact elseB C9 T9 e9
    .refine vM rfl ?_
     refine⟨zG mh8,?_⟩;refine⟨by show 1<=sizeLine; decide,?_⟩;exact elseB C8 T8 Ex.refl
   .refine vX ?_
    exact hL3 _ _ ⟨ls,κ1,_,rfl,⟨I.mh,I.ok,by omega,I.tw,I.pw,I.ch,I.p,I.e,I.tp,I.kt,I.ex⟩⟩
  .rintro ρ C7 ⟨ls,κ1,x7,rfl,I⟩
   exact hL _ _ ⟨ls,κ1,_,rfl,I⟩
 rintro ρ' C7 ⟨ls,κ1,x7,rfl,I⟩
 try dsimp only
 refine cJ I.mh ?_;refine⟨by show 4<=sizeLine; decide,?_⟩;have cl0:=I.ch.l0;have cl1:κ1.l<=κ.l:=I.ch.l1;have ce:κ1.e=κ.e - 1:=I.e;have cp:κ1.p=κ.p:=I.p;have ctw:(Ln.tws ls:Int)<=κ.l - κ1.l:=I.tw;have cpw:Ln.pws ls<=if κ.la.isSome then ls.length else 0:=I.pw
 have cll:ls.length+0<=2:=I.len;refine q (.each name rk ls) κ1 _ ?_ ?_ ?_ I.tp I.kt I.ex
 .exact ⟨hrk,fun x hx=>(I.ok x hx).mono (by decide),by omega⟩
 .refine ⟨?_,?_,fun z=>absurd rfl z⟩
  .show ((8 * Ln.tws ls:Nat):Int)<=8 * (1+(κ.l - κ1.l))
   omega
  .show ((8 * Ln.pws ls:Nat):Int)<=(κ.p - κ1.p)+zOf κ * (κ.e - κ1.e)
   have e1:κ.e - κ1.e=1:=by omega
   rw[e1,Int.mul_one];unfold zOf
   cases hz:κ.la.isSome with
   |true=>rw[hz,if_pos rfl] at cpw; rw[if_pos rfl]; omega
   |false=>rw[hz,if_neg Bool.false_ne_true] at cpw; rw[if_neg Bool.false_ne_true]; omega
 .exact ⟨I.ch.b,I.ch.r,I.ch.bs,I.ch.rs,I.ch.la,I.ch.l0,by omega,I.ch.p0,I.ch.p1,I.ch.e0,by show κ1.e<=κ.e; omega⟩
end
structure Pt where
 name:Str
 first:List (Str×Int)
 works:List (Str×Rk)
 ls:List Ln
def Pt.pv (x:Pt):PV:=.tup [.str x.name,.tup (x.first.map dQ),.tup (x.works.map mV),.tup (Ln.pvs x.ls)]
structure Zo (rs:List Str)(cap:Nat)(x:Pt):Prop where
 fl:x.first.length<=4
 wk:aH (x.first.map (·.1)) [] 1 x.works
 wl:x.works.length<=4
 ls:∀l∈x.ls,LnOk (x.first.map (·.1)) rs 6 [] l
 ll:x.ls.length<=6
 tw:Ln.tws x.ls<=48
 pw:Ln.pws x.ls<=cap
 fb:∀c∈x.first,-1000000000<=c.2/\c.2<=1000000000
theorem ZZ {p:Addr}{ts:List (PV×PV)}{ps:List (Key×PV)}{C:CH}{Q:K1}(m:C p=some (.dK []))(e:prK ts=some ps)(h:ps.length<=15)(q:Q (.ref p) (yQ C p (.dK (jV [] ps)))):iD p ts C Q:=by
 unfold iD;refine⟨m,?_⟩;rw[e];exact⟨h,q⟩
theorem jE {ss:List Str}(n:Nat):vV (ss.map PV.str) (some ((n:Int)+1)) none=(ss.drop (n+1)).map PV.str:=by
 unfold vV
 have e:HT.sIx (ss.map PV.str).length 0 (some ((n:Int)+1))=min (n+1) ss.length:=by
  have:((n:Int)+1)=((n+1:Nat):Int):=by omega
  rw[this,HT.sIx_nat,List.length_map]
 rw[e,HT.sIx_none,List.length_map,<- List.map_drop,List.take_of_length_le (by rw[List.length_map,List.length_drop]; exact Nat.le_refl _)]
 congr 1
 by_cases h:n+1<=ss.length
 .rw [Nat.min_eq_left h]
 .rw [Nat.min_eq_right (by omega),List.drop_of_length_le (Nat.le_refl _),List.drop_of_length_le (by omega)]
theorem Va {ss:List Str}(h:1 < ss.length):∃s∈ss.drop 1,atI (ss.map PV.str) (-1)=some (.str s):=by
 unfold atI ixN;rw[if_neg (by decide),List.length_map,if_pos (by omega)];have e:((ss.length:Int) + -1).toNat=ss.length - 1:=by omega
 refine⟨ss[ss.length - 1],?_,?_⟩
 .have:ss[ss.length - 1]=(ss.drop 1)[ss.length - 2]'(by rw[List.length_drop]; omega):=by
   rw[List.getElem_drop]
   congr 1
   omega
  rw[this];exact List.getElem_mem _
 .show (ss.map PV.str)[((ss.length:Int) + -1).toNat]?=_
  rw[e,List.getElem?_map,List.getElem?_eq_getElem (by omega)]
  rfl
theorem Qi {ss:List Str}{n:Nat}(h:n < ss.length):atI (ss.map PV.str) (n:Int)=some (.str ss[n]):=by
 have:=tG (xs:=ss.map PV.str) (k:=n) (by rw[List.length_map]; exact h);rw[List.getElem_map] at this;exact this
section
variable {P:Program}{w:World}{K:PySem.W.Frag}{mg:Str->Option Value}{base:Heap}{a:Adr}
theorem oK {f:Addr}{fd:FuncData}{ps:List Str}{r:Nat}{G:GC}(h:∀ts C Q,¬ G ts C Q):FnOk P w K mg base CX0 r f fd ps (spC K G) :=
 ⟨fun vs H Q E ⟨ts,C,R,_,_,z,_⟩=>(h _ _ _ z).elim,fun _ _ _ _ _ _ _ _ _ _ _ _ _ ⟨ts,C,R,_,_,z,_⟩=>(h _ _ _ z).elim⟩
theorem eT {e d r:Nat}(h:∀d',d=d'+1->FnOk P w K mg base CX0 r (a.f 22) (a.d 22) U0 (spC K (vB e d'))):FnOk P w K mg base CX0 r (a.f 22) (a.d 22) U0 (spC K (gR e d)):=by
 cases d with
 |zero=>exact oK fun ts C Q ⟨d',e,_⟩=>by omega
 |succ d' =>
  have e:gR e (d'+1)=vB e d':=by
   funext ts C Q
   refine propext ⟨fun⟨d'',z,h⟩=>?_,fun h=>⟨d',rfl,h⟩⟩;cases Nat.succ.inj z;exact h
  rw[e];exact h d' rfl
theorem XJ (T:Txt P w K mg a):FnOk P w K mg base CX0 8 (a.f 18) (a.d 18) U0 (spC K (yP 0 0)) :=
 oT (base:=base) T 0 0 7 (by decide) (eT fun d' e=>by omega)
theorem Js (T:Txt P w K mg a):FnOk P w K mg base CX0 13 (a.f 20) (a.d 20) U4 (spC K (Kl 1)) :=
 (ok_each (base:=base) T 8 (by decide) (XJ T)).mono (by decide)
theorem bN (T:Txt P w K mg a)(d:Nat):FnOk P w K mg base CX0 (15+3 * d) (a.f 22) (a.d 22) U0 (spC K (vB 1 d)):=by
 have step:∀d,(∀d',d=d'+1->FnOk P w K mg base CX0 (12+3 * d) (a.f 22) (a.d 22) U0 (spC K (vB 1 d')))->FnOk P w K mg base CX0 (15+3 * d) (a.f 22) (a.d 22) U0 (spC K (vB 1 d)):=by
  intro d h;have lo:=eT (e:=1) (d:=d) (r:=12+3 * d) h;have pl:=oT (base:=base) T 1 d (12+3 * d) (by omega) lo;have ln:=ok_line (base:=base) T 1 d (12+3 * d+1) (by decide) (by omega) (lo.mono (by omega)) pl ((Js T).mono (by omega));have:=Jp (base:=base) T 1 d (12+3 * d+1+1) (by omega) ln;have e:12+3 * d+1+1+1=15+3 * d:=by omega
  rw[e] at this;exact this
 induction d with
 |zero=>exact step 0 fun d' e=>by omega
 |succ d ih=>exact step (d+1) fun d' e=>by cases Nat.succ.inj e; exact ih.mono (by omega)
end
section
variable {P:Program}{w:World}{K:PySem.W.Frag}{mg:Str->Option Value}{base:Heap}{a:Adr}
theorem ok_or {f:Addr}{fd:FuncData}{ps:List Str}{r:Nat}{G1 G2:GC}(h1:FnOk P w K mg base CX0 r f fd ps (spC K G1))(h2:FnOk P w K mg base CX0 r f fd ps (spC K G2)):FnOk P w K mg base CX0 r f fd ps (spC K (fun ts C Q=>G1 ts C Q\/G2 ts C Q)) :=
 ⟨fun vs H Q E ⟨ts,C,R,x,y,z,u⟩=>by
  rcases z with z | z
  .exact h1.len vs H Q E ⟨ts,C,R,x,y,z,u⟩
  .exact h2.len vs H Q E ⟨ts,C,R,x,y,z,u⟩,fun A outer s H args us vs Q E rm e0 bt vl ⟨ts,C,R,x,y,z,u⟩=>by
  rcases z with z | z
  .exact h1.run A outer s H args us vs Q E rm e0 bt vl ⟨ts,C,R,x,y,z,u⟩
  .exact h2.run A outer s H args us vs Q E rm e0 bt vl ⟨ts,C,R,x,y,z,u⟩⟩
def tK (k:Nat):Nat:=if k=0 then 18 else 2
structure KS (κ:Kt)(bl rl:Addr)(bs rs:List Str)(k:Nat):Prop where
 b:κ.b=bl
 r:κ.r=rl
 bs:κ.bs=bs
 rs:κ.rs=rs
 l:κ.l=6
 p0:1<=κ.p
 p1:κ.p<=2
 e0:0<=κ.e
 e1:κ.e<=1
 ly:0 < κ.e->∀s,κ.la=some s->s∈κ.rs
 cap:κ.p+zOf κ * κ.e<=(tK k:Nat)
def gPart:GC:=fun ts C Q=>∃(t nl:Addr) (ns:List Int) (names:List Str) (k:Nat) (keyed:Bool),ts=[.ref t,.ref nl,.int (k:Nat),.bl keyed]/\Tp C t ns/\C nl=some (.lst (names.map PV.str))/\nl≠t/\names.length<=6/\k < names.length /\
 ∀(x:Pt) (C':CH),names[k]?=some x.name->Zo (names.drop (k+1)) (tK k) x->Tp C' t ns->Ex t C C'->Q x.pv C'
theorem ok_part (T:Txt P w K mg a):FnOk P w K mg base CX0 25 (a.f 23) (a.d 23) U7 (spC K gPart):=by
 have S:=(T.F 23 rfl).s;have bQ:=(lZ (base:=base) T).mono (show 1<=24 by decide);have sZ:=(bG (base:=base) T).mono (show 2<=24 by decide);have dJ:=(kU (base:=base) T).mono (show 2<=24 by decide);have pJ:=(aL (base:=base) T 1).mono (show 5<=24 by decide);have rK:=ok_or (bN (base:=base) T 3) ((bN (base:=base) T 1).mono (show 15+3 * 1<=24 by decide))
 refine(T.F 23 rfl).ok (fun ts C R h=>?_) fun cdv A outer s H E hr=>⟨_,(xQ (cs1 4 S.nd (cx (nX (qQ zQ (qQ zQ (qQ zQ (qQ zQ (qQ zQ (ca1 zQ))))))) (cf (T.F 10 rfl) bQ hr (qQ (cv 0) (ca1 zQ)))))
  (xQ (cs1 5 S.nd (cf (T.F 11 rfl) sZ hr (qQ (cv 0) (ca1 (cv 4)))))
  (xQ (cs1 6 S.nd (ce_disp (wY vQ (cv 5) (wY vQ (gF (cv 1) (oY (eQ gX bX (cv 2) zQ)) tY) (wY vQ zQ (wY vQ zQ (wY vQ zQ (wY vQ rG cps_nil))))))))
  (xQ (zX (cw_pt (cw_or (ct2 sU lW (cln T.eZ (cv 1)) zQ) (cw_or1 (cw_pt (cw_and (lP (cv 3)) (cw_and1 (ct2 mX iQ (cv 2) zQ))))))) (kQ (vK (oX hr) (cv 6) vQ zQ)) tQ)
  (xQ (zX (lP (cv 3)) (xQ (vK (oX hr) (cv 6) vQ (kJ fU aD rfl T.fS rfl (ca1 (sG mX iQ (cv 2) zQ (dY _)))))
  (xQ (zX (ct2 aJ rZ (cln T.eZ (cv 1)) zQ) (kQ (vK (oX hr) (cv 6) vQ (cx (cv 1) (jC sM uU zQ)))) tQ)
  (kQ (zX (ct2 aJ rZ (cv 2) zQ) (kQ (vK (oX hr) (cv 6) vQ zQ)) tQ)))) tQ)
  (xQ (cs1 7 S.nd (ctp T.eX (nG rfl (S.c (by decide +kernel)) (S.k rfl rfl rfl (by decide +kernel)) (cv 5) (fun _ _ _ _ _=>wK) (fun _ _ _ _ _=>(fQ (qQ (cv 0) (ca1 (cf (T.F 12 rfl) dJ hr (ca1 (cv 1))))))))))
  (xQ (cs1 8 S.nd (cf (T.F 22 rfl) rK hr (qQ (cv 0) (qQ (cv 6) (qQ (fQ yZ) (ca1 (cx (nX (qQ zQ (ca1 zQ))) (kJ fU aD rfl T.fS rfl (ca1 (sG aJ rZ (cln T.eZ (cv 1)) zQ (dY _)))))))))))
  (xQ (cs1 9 S.nd (cf (T.F 11 rfl) sZ hr (qQ (cv 0) (ca1 (cf (T.F 10 rfl) bQ hr (qQ (cv 0) (ca1 zQ)))))))
  (xQ (cs1 10 S.nd (ctp T.eX (nG rfl (S.c (by decide +kernel)) (S.k rfl rfl rfl (by decide +kernel)) (cv 9) (fun _ _ _ _ _=>wK) (fun _ _ _ _ _=>(fQ (qQ (cv 0) (ca1 (cf (T.F 14 rfl) pJ hr (qQ (cv 1) (qQ (cv 7) (qQ (fQ yZ) (ca1 zQ))))))))))))
  (kQ (pQ (fQ (qQ (cx (cv 1) (cv 2)) (qQ (cv 7) (qQ (cv 10) (ca1 (cv 8))))))))))))))))),?_⟩
 .obtain ⟨t,nl,ns,names,k,keyed,rfl,_⟩:=h; rfl
 rintro ts C R ⟨t,nl,ns,names,k,keyed,rfl,hT,mn,nt,hnl,hkn,q⟩;refine uQ ?_;refine⟨by show 6<=sizeLine; decide,fun p1 hp1=>?_⟩;refine⟨t,6,ns,rfl,hT.new hp1 _,by decide,by decide,fun v C1 v0 v1 T1 e1=>?_⟩;have e01:Ex t C C1:=(Ex.new hp1 _).trans e1;refine dX (e1 p1 _ (hT.ne hp1) jQ) (uK (f:=PV.int) (ss:=[0,1,1,2,2,4]) 0 v0 v1) ?_
 have hm:0<=([0,1,1,2,2,4]:List Int).getD v.toNat 0/\([0,1,1,2,2,4]:List Int).getD v.toNat 0<=4:=by
  have:v=0\/v=1\/v=2\/v=3\/v=4\/v=5:=by omega
  rcases this with rfl | rfl | rfl | rfl | rfl | rfl<;>decide
 generalize ([0,1,1,2,2,4]:List Int).getD v.toNat 0=m at hm ⊢
 try dsimp only
 refine uQ ?_;refine⟨t,m,ns,rfl,T1,hm.1,by omega,fun bl bs C2 m2 n2 bt hbl nd T2 e2=>?_⟩;have e02:=e01.trans e2;have hbs:bs.length<=4:=by omega
 try dsimp only
 refine uQ ?_;intro kd hkd;have T3:=T2.new hkd (.dK []);have nkt:=T2.ne hkd;refine mW ?_;refine Xv (Gr.new hkd _ _ _ (e02 _ _ nt mn)) fun rl hrl=>?_;have T4:=T3.new hrl (.lst (vV (names.map PV.str) (some ((k:Int)+1)) none));have nrt:=T3.ne hrl;have nkr:kd≠rl:=fun z=>by subst z; rw[jQ] at hrl; cases hrl
 have hrl2:C2 rl=none:=by rw[wQ (Ne.symm nkr)] at hrl; exact hrl
 have nbk:bl≠kd:=fun z=>by rw[z,hkd] at m2; cases m2
 have nbr:bl≠rl:=fun z=>by rw[z,hrl2] at m2; cases m2
 rw[jE];rw[jE] at T4;refine ZZ (ps:=hX bl rl 6 1 1 .non) (by rw[wQ nkr]; exact jQ) rfl (by show 6<=15; decide) ?_;rw[show jV [] (hX bl rl 6 1 1 .non)=hX bl rl 6 1 1 .non from rfl]
 try dsimp only
 have T5:=T4.put nkt (.dK (hX bl rl 6 1 1 .non))
 have x5:Ex t C (yQ (yQ (yQ C2 kd (.dK [])) rl (.lst ((names.drop (k+1)).map PV.str))) kd (.dK (hX bl rl 6 1 1 .non))) :=
  ((e02.trans (Ex.new hkd _)).trans (Ex.new hrl _)).put (e02.none nkt hkd) _
 have k5:KAt (yQ (yQ (yQ C2 kd (.dK [])) rl (.lst ((names.drop (k+1)).map PV.str))) kd (.dK (hX bl rl 6 1 1 .non))) t kd ⟨bl,rl,bs,names.drop (k+1),6,1,1,none⟩:=by
  refine⟨jQ,?_,?_,nkt,bt,nrt,hbs,?_⟩
  .show yQ (yQ (yQ C2 kd (.dK [])) rl (.lst ((names.drop (k+1)).map PV.str))) kd (.dK (hX bl rl 6 1 1 .non)) bl=_
   rw[wQ nbk,wQ nbr,wQ nbk]; exact m2
  .show yQ (yQ (yQ C2 kd (.dK [])) rl (.lst ((names.drop (k+1)).map PV.str))) kd (.dK (hX bl rl 6 1 1 .non)) rl=_
   rw[wQ (Ne.symm nkr)]; exact jQ
  .show (names.drop (k+1)).length<=6
   rw[List.length_drop]; omega
 have kd0:C kd=none:=e02.none nkt hkd;generalize yQ (yQ (yQ C2 kd (.dK [])) rl (.lst ((names.drop (k+1)).map PV.str))) kd (.dK (hX bl rl 6 1 1 .non))=C5 at T5 x5 k5 ⊢;refine aQ (fun ρ' C'=>∃p:Int,1<=p/\p<=2/\ρ'=[some (.ref t),some (.ref nl),some (.int (k:Nat)),some (.bl keyed),some (.int m),some (.ref bl),some (.ref kd),none,none,none,none]/\Tp C' t ns/\Ex t C C'/\KAt C' t kd ⟨bl,rl,bs,names.drop (k+1),6,p,1,none⟩) (fun L hL=>?_) ?_
 .have yes:∀L':CSt->CH->Prop,L'=L->zH (.ref kd) (.str "parts") (.int 2) C5 fun C4=>L' [some (.ref t),some (.ref nl),some (.int (k:Nat)),some (.bl keyed),some (.int m),some (.ref bl),some (.ref kd),none,none,none,none] C4:=by
   rintro L' rfl;refine pW k5.at_ rfl (by show 6<=1000; decide) ?_;exact hL _ _ ⟨2,by decide,by decide,rfl,T5.put nkt _,x5.put kd0 _,k5.put 6 2 1 none⟩
  refine iW (x5 _ _ nt mn) ?_;refine i_i ?_;refine mZ (fun hb=>?_) fun hb=>?_
  .refine if_y rfl ?_
   exact yes _ rfl
  .refine Ke (fun hb2=>?_) fun hb2=>?_
   .refine xX (aX _ _) ?_
    refine mZ (fun hb3=>?_) fun hb3=>?_
    .exact yes _ rfl
    .refine vX ?_
     exact hL _ _ ⟨1,by decide,by decide,rfl,T5,x5,k5⟩
   .refine vM rfl ?_
    refine vX ?_;exact hL _ _ ⟨1,by decide,by decide,rfl,T5,x5,k5⟩
 clear k5 T5 x5;rintro ρ' C6 ⟨p,p0,p1,rfl,T6,x6,k6⟩
 try dsimp only
 have zle:∀κ:Kt,zOf κ<=16:=fun κ=>by unfold zOf; split<;>decide
 refine aQ (fun ρ' C'=>∃κ:Kt,KS κ bl rl bs (names.drop (k+1)) k/\ρ'=[some (.ref t),some (.ref nl),some (.int (k:Nat)),some (.bl keyed),some (.int m),some (.ref bl),some (.ref kd),none,none,none,none]/\Tp C' t ns/\Ex t C C'/\KAt C' t kd κ) (fun L hL=>?_) ?_
 .refine Ke (fun hb=>?_) fun hb=>?_
  .refine vZ ?_
   refine xX (aX _ _) ?_;refine QR ?_;refine pW k6.at_ rfl (by show 6<=1000; decide) ?_;rw[dL]
   try dsimp only
   have he:∃e:Int,(if id (decide ((k:Int)=0))=true then (1:Int) else 0)=e/\((k=0/\e=1)\/(0 < k/\e=0)):=by
    by_cases hk0:k=0
    .refine ⟨1,?_,.inl ⟨hk0,rfl⟩⟩
     rw[if_pos (by show decide ((k:Int)=0)=true; exact decide_eq_true (by omega))]
    .refine ⟨0,?_,.inr ⟨by omega,rfl⟩⟩
     rw[if_neg (by show ¬ decide ((k:Int)=0)=true; rw[decide_eq_false (by omega)]; decide)]
   obtain⟨e,ee,hek⟩:=he;rw[ee];have k7:=k6.put 6 p e none;have T7:=T6.put nkt (.dK (hX bl rl 6 p e (kG none)));have x7:=x6.put kd0 (.dK (hX bl rl 6 p e (kG none)));have e7:(CO.dK (hX bl rl 6 p e .non))=.dK (hX bl rl 6 p e (kG none)):=rfl;show pE _ _ _ _ (yQ C6 kd (CO.dK (hX bl rl 6 p e (kG none))));generalize yQ C6 kd (CO.dK (hX bl rl 6 p e (kG none)))=C7 at k7 T7 x7 ⊢;refine aQ (fun ρ' C'=>∃la:Option Str,(k=0->∀s,la=some s->s∈names.drop (k+1))/\ρ'=[some (.ref t),some (.ref nl),some (.int (k:Nat)),some (.bl keyed),some (.int m),some (.ref bl),some (.ref kd),none,none,none,none]/\Tp C' t ns/\Ex t C C'/\KAt C' t kd ⟨bl,rl,bs,names.drop (k+1),6,p,e,la⟩) (fun L1 hL1=>?_) ?_
   .refine iW (x7 _ _ nt mn) ?_
    refine i_i ?_;refine mZ (fun hb2=>?_) fun hb2=>?_
    .have hb2:=of_decide_eq_true hb2
     rw[List.length_map] at hb2;obtain⟨sl,hsl,esl⟩:=Va (ss:=names) (by omega);refine dX (x7 _ _ nt mn) esl ?_;refine pW k7.at_ rfl (by show 6<=1000; decide) ?_;exact hL1 _ _ ⟨some sl,fun hk0 s hs=>by cases hs; rw[hk0]; exact hsl,rfl,T7.put nkt _,x7.put kd0 _,k7.put 6 p e (some sl)⟩
    .refine vX ?_
     exact hL1 _ _ ⟨none,(fun _ _ z=>nomatch z),rfl,T7,x7,k7⟩
   rintro ρ' C8 ⟨la,hla,rfl,T8,x8,k8⟩
   try dsimp only
   refine i_i ?_;refine mZ (fun hb2=>?_) fun hb2=>?_
   .have hb2:=of_decide_eq_true hb2
    have e0:e=0:=by omega
    subst e0;refine pW k8.at_ rfl (by show 6<=1000; decide) ?_;refine hL _ _ ⟨⟨bl,rl,bs,names.drop (k+1),6,1,0,la⟩,⟨rfl,rfl,rfl,rfl,rfl,Int.le_refl _,(by show(1:Int)<=2; decide),Int.le_refl _,(by show(0:Int)<=1; decide),fun z=>absurd (show(0:Int) < 0 from z) (by decide),?_⟩,rfl,T8.put nkt _,x8.put kd0 _,k8.put 6 1 0 la⟩;show(1:Int)+zOf _ * 0<=_;rw[Int.mul_zero];unfold tK
    split<;>decide
   .refine vX ?_
    have hb2:=of_decide_eq_false hb2;have hk0:k=0:=by omega
    have e1:e=1:=by omega
    subst e1;refine hL _ _ ⟨⟨bl,rl,bs,names.drop (k+1),6,p,1,la⟩,⟨rfl,rfl,rfl,rfl,rfl,p0,p1,(by show(0:Int)<=1; decide),Int.le_refl _,fun _=>hla hk0,?_⟩,rfl,T8,x8,k8⟩;show p+zOf _ * 1<=_;rw[Int.mul_one];have:=zle ⟨bl,rl,bs,names.drop (k+1),6,p,1,la⟩;unfold tK;rw[if_pos hk0];omega
  .refine vX ?_
   refine hL _ _ ⟨⟨bl,rl,bs,names.drop (k+1),6,p,1,none⟩,⟨rfl,rfl,rfl,rfl,rfl,p0,p1,(by show(0:Int)<=1; decide),Int.le_refl _,(fun _ _ z=>nomatch z),?_⟩,rfl,T6,x6,k6⟩;show p+0 * 1<=_;unfold tK
   split<;>omega
 clear k6 T6 x6;rintro ρ' C7 ⟨κ,ks,rfl,T7,x7,k7⟩
 try dsimp only
 have mb7:C7 bl=some (.lst (bs.map PV.str)):=by have:=k7.bx; rw[ks.b,ks.bs] at this; exact this
 refine uQ ?_;refine cl_l mb7 rfl ?_;refine sY (β:=Int) dQ (fun i:Int=>-1000000000<=i/\i<=1000000000) (fun C'=>Tp C' t ns/\Ex t C7 C') (fun C' h=>h.2 _ _ bt mb7) (by omega) (fun z C8 L ⟨T8,e8⟩ hL=>?_) (fun fs C8 p8 ⟨T8,e8⟩ hp8 hfs hfo=>?_) ⟨T7,Ex.refl⟩
 .exact ⟨t,ns,rfl,T8,fun i C9 i0 i1 T9 e9=>⟨by show 2<=sizeLine; decide,hL i C9 ⟨i0,i1⟩ ⟨T9,e8.trans e9⟩⟩⟩
 refine cJ jQ ?_;have T9:=T8.new hp8 (.lst (fs.map dQ));have e9:Ex t C7 (yQ C8 p8 (.lst (fs.map dQ))):=e8.trans (Ex.new hp8 _);generalize yQ C8 p8 (.lst (fs.map dQ))=C9 at T9 e9 ⊢
 try dsimp only
 have k9:=k7.ex e9;have x9:Ex t C C9:=x7.trans e9;have ok9:Kok κ 1 []:=⟨by rw[ks.l]; decide,by rw[ks.l]; decide,by have:=ks.p0; omega,ks.p1,ks.e0,ks.e1,fun _=>rfl,ks.ly,Nat.zero_le _⟩;refine uQ ?_;refine⟨by show 0<=sizeLine; decide,?_⟩;refine⟨by show 2<=sizeLine; decide,fun p10 hp10=>?_⟩;have T10:=T9.new hp10 (.lst [PV.int 3,PV.int 1]);have k10:=k9.ex (Ex.new hp10 (.lst [PV.int 3,PV.int 1]));have x10:Ex t C (yQ C9 p10 (.lst [PV.int 3,PV.int 1])):=x9.trans (Ex.new hp10 _)
 refine iW (x10 _ _ nt mn) ?_;refine i_i ?_;refine QR ?_
 have fin:∀(ls:List Ln) (κ':Kt) (C':CH),(∀x∈ls,LnOk κ.bs κ.rs 6 [] x)->ls.length<=6->Wgt 1 [] κ κ' 0 (Ln.tws ls) (Ln.pws ls)->Chg κ κ'->Tp C' t ns->KAt C' t kd κ'->ExS [t,kd] (yQ C9 p10 (.lst [PV.int 3,PV.int 1])) C'->∀(x:Pt),x.name=names[k]->x.first=fs->x.ls=ls->aH bs [] 1 x.works->x.works.length<=4->∀C'',Tp C'' t ns->Ex t C' C''->R x.pv C'':=by
  intro ls κ' C' h1 h2 h3 h4 T' k' x' x xn xf xl xw xwl C'' T'' e'';refine q x C'' (by rw[List.getElem?_eq_getElem hkn,xn]) ?_ T'' ?_
  .have hfb:x.first.map (·.1)=bs:=by rw[xf]; exact hfs
   refine⟨by rw[xf,<- List.length_map (f:=(·.1)),hfs]; exact hbs,by rw[hfb]; exact xw,xwl,?_,by rw[xl]; exact h2,?_,?_,by rw[xf]; exact hfo⟩
   .rw [xl,hfb]
    intro l hl;have:=h1 l hl;rw[ks.bs,ks.rs] at this;exact this
   .rw [xl]
    have:=h3.t;have l0:=h4.l0;have kl:=ks.l;have this:(Ln.tws ls:Int)<=8 * (0+(κ.l - κ'.l)):=this;omega
   .rw [xl]
    have g:=h3.p;have c:=ks.cap;have e0:=h4.e0;have e1:=h4.e1;have q0:=h4.p0;have z:zOf κ=0\/zOf κ=16:=by unfold zOf; split; exact .inr rfl; exact .inl rfl
    rcases z with z | z<;>rw[z] at g c<;>omega
  .intro b o nb hb
   have nk:b≠kd:=fun z=>by rw[z,kd0] at hb; cases hb
   exact e'' b o nb (x' b o (fun z=>by
    rcases List.mem_cons.1 z with z | z
    .exact nb z
    .exact nk (List.mem_singleton.1 z)) (x10 b o nb hb))
 have rest:∀(ls:List Ln) (κ':Kt) (C':CH),(∀x∈ls,LnOk κ.bs κ.rs 6 [] x)->ls.length<=6->Wgt 1 [] κ κ' 0 (Ln.tws ls) (Ln.pws ls)->Chg κ κ'->Tp C' t ns->KAt C' t kd κ'->ExS [t,kd] (yQ C9 p10 (.lst [PV.int 3,PV.int 1])) C' ->
   gDraw [.ref t,.int 3] C' fun v C1=>Kk [.ref t,v] C1 fun wn C2=>fF (pZ 9) gB (Qe (yK (pZ 0) (yK (jH (pI 1) (yK (pZ 1) (yK (pZ 7) (yK (Qe mF) (yK (cC (.int 1)) mF))))) mF))) [some (.ref t),some (.ref nl),some (.int (k:Nat)),some (.bl keyed),some (.int m),some (.ref bl),some (.ref kd),some (.tup (fs.map dQ)),some (.tup (Ln.pvs ls)),some wn,none] C2 fun lv C3=>bF [lv] C3 fun wv C4=>cIx (.ref nl) (.int (k:Nat)) C4 fun nm C5=>4<=sizeLine/\R (.tup [nm,.tup (fs.map dQ),wv,.tup (Ln.pvs ls)]) C5:=by
  intro ls κ' C' h1 h2 h3 h4 T' k' x';refine⟨t,3,ns,rfl,T',by decide,by decide,fun v C11 v0 v1 T11 e11=>?_⟩;refine⟨t,v,ns,rfl,T11,v0,by omega,fun wl ws C12 m12 n12 wt hwl nd T12 e12=>?_⟩;refine cl_l m12 rfl ?_;have e1112:=e11.trans e12;refine sY (β:=Rk) mV (fun r=>r.ok bs [] 1) (fun C''=>Tp C'' t ns/\Ex t C12 C'') (fun C'' h=>h.2 _ _ wt m12) (by omega) (fun z C13 L ⟨T13,e13⟩ hL=>?_) (fun bs' C13 p13 ⟨T13,e13⟩ hp13 hb ho=>?_) ⟨T12,Ex.refl⟩
  .refine ⟨by show 0<=sizeLine; decide,?_⟩
   refine⟨t,kd,[],ns,κ',rfl,T13,k'.ex (e1112.trans e13),Nat.zero_le _,fun r C14 hr T14 e14=>⟨by show 2<=sizeLine; decide,hL r C14 ?_ ⟨T14,e13.trans e14⟩⟩⟩;rw[h4.bs,ks.bs] at hr;exact hr
  .refine cJ jQ ?_
   have e013:Ex t C' (yQ C13 p13 (.lst (bs'.map mV))):=(e1112.trans e13).trans (Ex.new hp13 _);have nnk:nl≠kd:=fun z=>by rw[z,kd0] at mn; cases mn
   have mn':C' nl=some (.lst (names.map PV.str)):=x' nl _ (fun z=>by
    rcases List.mem_cons.1 z with z | z
    .exact nt z
    .exact nnk (List.mem_singleton.1 z)) (x10 _ _ nt mn)
   refine dX (e013 _ _ nt mn') (Qi hkn) ?_;refine⟨by decide,?_⟩;exact fin ls κ' C' h1 h2 h3 h4 T' k' x' ⟨names[k],fs,bs',ls⟩ rfl rfl rfl ho (by show bs'.length<=4; have:=congrArg List.length hb; rw[List.length_map] at this; omega) _ (T13.new hp13 _) e013
 have hd3:atI [PV.int 3,PV.int 1] (if decide ((((names.map PV.str).length:Nat):Int) > 3)=true then (1:Int) else 0)=some (.int 3)\/atI [PV.int 3,PV.int 1] (if decide ((((names.map PV.str).length:Nat):Int) > 3)=true then (1:Int) else 0)=some (.int 1):=by
  cases decide ((((names.map PV.str).length:Nat):Int) > 3) with
  |false=>exact .inl rfl
  |true=>exact .inr rfl
 rcases hd3 with hd | hd
 .refine dX jQ hd ?_
  refine .inl ⟨t,kd,[],ns,κ,rfl,T10,k10,ok9,fun ls κ' C' h1 h2 h3 h4 T' k' x'=>?_⟩;exact rest ls κ' C' (fun x hx=>(h1 x hx).mono (by decide)) h2 h3 h4 T' k' x'
 .refine dX jQ hd ?_
  refine .inr ⟨t,kd,[],ns,κ,rfl,T10,k10,ok9,fun ls κ' C' h1 h2 h3 h4 T' k' x'=>?_⟩;exact rest ls κ' C' (fun x hx=>(h1 x hx).mono (by decide)) h2 h3 h4 T' k' x'
end
def vJ (pts:List Pt):List Str:=pts.map (·.name)
structure lF (pts:List Pt):Prop where
 n1:1<=pts.length
 n6:pts.length<=6
 nd:(vJ pts).Nodup
 ok:∀k x,pts[k]?=some x->Zo ((vJ pts).drop (k+1)) (tK k) x
theorem nU {N j:Nat}{z:PV}{zs:List PV}(h:z::zs=((List.range N).drop j).map (fun k:Nat=>PV.int (k:Nat))):j < N/\z=.int (j:Nat)/\zs=((List.range N).drop (j+1)).map (fun k:Nat=>PV.int (k:Nat)):=by
 have hj:j < (List.range N).length:=by
  rcases Nat.lt_or_ge j (List.range N).length with h' | h'
  .exact h'
  .rw [List.drop_of_length_le h'] at h; cases h
 rw[List.drop_eq_getElem_cons hj,List.map_cons,List.getElem_range] at h;injection h with h1 h2
 exact⟨by rw[List.length_range] at hj; exact hj,h1,h2⟩
section
variable {P:Program}{w:World}{K:PySem.W.Frag}{mg:Str->Option Value}{base:Heap}{a:Adr}
def gHouse:GC:=fun ts C Q=>∃(t:Addr) (ns:List Int),ts=[.ref t]/\Tp C t ns/\∀(pts:List Pt) (C':CH),lF pts->Tp C' t ns->Ex t C C'->Q (.tup (pts.map Pt.pv)) C'
theorem Jq (T:Txt P w K mg a):FnOk P w K mg base CX0 26 (a.f 24) (a.d 24) U13 (spC K gHouse):=by
 have S:=(T.F 24 rfl).s;have bQ:=(lZ (base:=base) T).mono (show 1<=25 by decide);have sZ:=(bG (base:=base) T).mono (show 2<=25 by decide);have Vi:=ok_part (base:=base) T
 refine(T.F 24 rfl).ok (fun ts C R h=>?_) fun cdv A outer s H E hr=>⟨_,(xQ (cs1 1 S.nd (cf (T.F 11 rfl) sZ hr (qQ (cv 0) (ca1 (cx (nX (qQ zQ (qQ zQ (qQ zQ (qQ zQ (qQ zQ (qQ zQ (qQ zQ (ca1 zQ))))))))) (cf (T.F 10 rfl) bQ hr (qQ (cv 0) (ca1 zQ))))))))
  (xQ (cs1 2 S.nd (sG mX iQ (cf (T.F 10 rfl) bQ hr (qQ (cv 0) (ca1 zQ))) zQ (dY _)))
  (kQ (pQ (ctp T.eX (bW rfl (S.c (by decide +kernel)) (S.k rfl rfl rfl (by decide +kernel)) (eP rfl T.nK (ca1 (cln T.eZ (cv 1)))) (fun _ _ _ _ _=>wK) (fun _ _ _ _ _=>(cf (T.F 23 rfl) Vi hr (qQ (cv 1) (qQ (cv 2) (qQ (cv 0) (ca1 (cv 3))))))))))))),?_⟩
 .obtain ⟨t,ns,rfl,_⟩:=h; rfl
 rintro ts C R ⟨t,ns,rfl,hT,q⟩;refine uQ ?_;refine⟨by show 8<=sizeLine; decide,fun p1 hp1=>?_⟩;refine⟨t,8,ns,rfl,hT.new hp1 _,by decide,by decide,fun v C1 v0 v1 T1 e1=>?_⟩;have e01:Ex t C C1:=(Ex.new hp1 _).trans e1;refine dX (e1 p1 _ (hT.ne hp1) jQ) (uK (f:=PV.int) (ss:=[1,2,2,3,3,4,2,6]) 0 v0 v1) ?_
 have hm:1<=([1,2,2,3,3,4,2,6]:List Int).getD v.toNat 0/\([1,2,2,3,3,4,2,6]:List Int).getD v.toNat 0<=6:=by
  have:v=0\/v=1\/v=2\/v=3\/v=4\/v=5\/v=6\/v=7:=by omega
  rcases this with rfl | rfl | rfl | rfl | rfl | rfl | rfl | rfl<;>decide
 generalize ([1,2,2,3,3,4,2,6]:List Int).getD v.toNat 0=m at hm ⊢;refine⟨t,m,ns,rfl,T1,by omega,by omega,fun nl names C2 m2 n2 nt hnl nd T2 e2=>?_⟩
 try dsimp only
 refine uQ ?_;refine⟨t,2,ns,rfl,T2,by decide,by decide,fun z C3 z0 z1 T3 e3=>?_⟩;refine xX (aX _ _) ?_
 try dsimp only
 have e03:=(e01.trans e2).trans e3;have m3:=e3 _ _ nt m2;refine iW m3 ?_;rw[List.length_map];refine⟨by omega,by omega,?_⟩;rw[Int.toNat_natCast];refine yY (fun zs acc C'=>Tp C' t ns/\Ex t C3 C'/\∃pts:List Pt,acc=pts.map Pt.pv/\zs=((List.range names.length).drop pts.length).map (fun k:Nat=>PV.int (k:Nat))/\pts.length<=names.length/\vJ pts=names.take pts.length/\∀k x,pts[k]?=some x->Zo (names.drop (k+1)) (tK k) x) ?_ ?_ _ _ _ ⟨T3,Ex.refl,[],rfl,rfl,Nat.zero_le _,rfl,(fun k x h=>by simp at h)⟩
 .rintro x r acc C4 ⟨T4,e4,pts,rfl,hz,hpl,hpn,hpo⟩ L hL
  obtain⟨hj,rfl,rfl⟩:=nU hz;refine⟨t,nl,ns,names,pts.length,_,rfl,T4,e4 _ _ nt m3,nt,by omega,hj,fun x C5 hx ok5 T5 e5=>hL _ _ ⟨?_,T5,e4.trans e5,pts++[x],by rw[List.map_append]; rfl,by rw[List.length_append,List.length_singleton],by rw[List.length_append,List.length_singleton]; omega,?_,fun k y hy=>?_⟩⟩
  .rw [List.length_map]
   exact Nat.lt_of_lt_of_le (show pts.length < 7 by omega) (by decide)
  .rw [List.length_append,List.length_singleton,List.take_add_one,<- hpn,hx]
   unfold vJ;rw[List.map_append]
   rfl
  .rcases Nat.lt_trichotomy k pts.length with h | h | h
   .rw [List.getElem?_append_left h] at hy
    exact hpo k y hy
   .subst h
    rw[List.getElem?_append_right (Nat.le_refl _),Nat.sub_self] at hy;cases hy;exact ok5
   .rw [List.getElem?_eq_none (by rw[List.length_append,List.length_singleton]; omega)] at hy
    cases hy
 .rintro acc C4 ⟨T4,e4,pts,rfl,hz,hpl,hpn,hpo⟩ p hp
  have he:pts.length=names.length:=by
   rcases Nat.lt_or_ge pts.length names.length with h | h
   .rw [List.drop_eq_getElem_cons (by rw[List.length_range]; exact h)] at hz
    cases hz
   .omega
  refine cJ jQ ?_;have hn:vJ pts=names:=by rw[hpn,he,List.take_of_length_le (Nat.le_refl _)]
  exact q pts _ ⟨by omega,by omega,by rw[hn]; exact nd,fun k x hk=>by rw[hn]; exact hpo k x hk⟩ (T4.new hp _) ((e03.trans e4).trans (Ex.new hp _))
end
abbrev Rds:=List (List Key×PV)
abbrev Tns:=List (Key×PV)
abbrev qK (s n:Str):List Key:=[.inr s,.inr n]
def Bd (i:Int):Prop:=-1000000000<=i/\i<=1000000000
def ABd (A:Rds):Prop:=∀kv∈A,∃i,kv.2=.int i/\Bd i
def TBd (τ:Tns):Prop:=∀kv∈τ,∃i,kv.2=.int i/\Bd i
def Vc (A:Rds)(s n:Str):Int:=match iK A (qK s n) with
 |some (.int i)=>i
 |_=>0
def Qu (τ:Tns)(n:Str):Int:=match cZ τ (.inr n) with
 |some (.int i)=>i
 |_=>0
def HasT (τ:Tns)(ns:List Str):Prop:=∀n∈ns,(cZ τ (.inr n)).isSome=true
def oI (i:Int):Int:=if (if i < 1000000000 then i else 1000000000) > -1000000000 then (if i < 1000000000 then i else 1000000000) else -1000000000
def Rk.val (A:Rds)(τ:Tns):Rk->Int
 |.num i=>i
 |.turn n=>Qu τ n
 |.ask s n=>Vc A s n
 |.bin w x y=>if w = "less" then (if x.val A τ < y.val A τ then 1 else 0) else if w = "times" then oI (x.val A τ * y.val A τ) else oI (x.val A τ+y.val A τ)
 |.pick x y z=>if x.val A τ=0 then z.val A τ else y.val A τ
def Rk.rds (A:Rds)(τ:Tns):Rk->Rds->Rds
 |.num _,R=>R
 |.turn _,R=>R
 |.ask s n,R=>putG R (qK s n) (.int (Vc A s n))
 |.bin _ x y,R=>y.rds A τ (x.rds A τ R)
 |.pick x y z,R=>if x.val A τ=0 then z.rds A τ (x.rds A τ R) else y.rds A τ (x.rds A τ R)
theorem cutI_bd (i:Int):Bd (oI i):=by unfold oI Bd; split<;>split<;>omega
theorem Zv {κ:Type}[DecidableEq κ]{A:List (κ×PV)}{k:κ}{v:PV}(h:iK A k=some v):∃kv∈A,kv.2=v:=by
 unfold iK at h
 cases e:A.find? fun kv=>decide (kv.1=k) with
 |none=>rw[e] at h; cases h
 |some x=>rw[e] at h; cases h; exact⟨x,List.mem_of_find?_eq_some e,rfl⟩
theorem lS {A:Tns}{k:Key}{v:PV}(h:cZ A k=some v):∃kv∈A,kv.2=v:=by
 unfold cZ at h
 cases e:A.find? fun kv=>decide (kv.1=k) with
 |none=>rw[e] at h; cases h
 |some x=>rw[e] at h; cases h; exact⟨x,List.mem_of_find?_eq_some e,rfl⟩
theorem Qk {A:Rds}(h:ABd A)(s n:Str):(iK A (qK s n)).getD (.int 0)=.int (Vc A s n)/\Bd (Vc A s n):=by
 unfold Vc
 cases e:iK A (qK s n) with
 |none=>exact⟨rfl,by unfold Bd; decide⟩
 |some v =>
  obtain⟨kv,hm,rfl⟩:=Zv e;obtain⟨i,ei,bi⟩:=h kv hm;rw[ei];exact⟨rfl,bi⟩
theorem Qt {τ:Tns}(h:TBd τ){n:Str}(hh:(cZ τ (.inr n)).isSome=true):cZ τ (.inr n)=some (.int (Qu τ n))/\Bd (Qu τ n):=by
 unfold Qu
 cases e:cZ τ (.inr n) with
 |none=>rw[e] at hh; cases hh
 |some v =>
  obtain⟨kv,hm,rfl⟩:=lS e;obtain⟨i,ei,bi⟩:=h kv hm;rw[ei];exact⟨rfl,bi⟩
theorem yL {A:Rds}{τ:Tns}(hA:ABd A)(hT:TBd τ){bs ts:List Str}(hh:HasT τ ts):∀{d:Nat}{r:Rk},r.ok bs ts d->Bd (r.val A τ):=by
 intro d r
 induction r generalizing d with
 |num i=>intro h; unfold Rk.ok at h; exact h
 |turn n=>intro h; unfold Rk.ok at h; exact(Qt hT (hh n h)).2
 |ask s n=>intro h; exact(Qk hA s n).2
 |bin w x y ihx ihy =>
  intro h
  cases d with
  |zero=>unfold Rk.ok at h; exact h.elim
  |succ d =>
   unfold Rk.val
   split
   .split<;>(unfold Bd; decide)
   .split<;>exact cutI_bd _
 |pick x y z ihx ihy ihz =>
  intro h
  cases d with
  |zero=>unfold Rk.ok at h; exact h.elim
  |succ d =>
   unfold Rk.ok at h;unfold Rk.val
   split
   .exact ihz h.2.2
   .exact ihy h.2.1
structure RdOk (bs:List Str)(R:Rds):Prop where
 nd:(R.map (·.1)).Nodup
 ks:∀k∈R.map (·.1),∃s n,k=qK s n/\cE bs s n
 vs:ABd R
theorem Xn {κ:Type}[DecidableEq κ](R:List (κ×PV))(k:κ):(R.any fun kv=>decide (kv.1=k))=true↔k∈R.map (·.1):=by
 rw[List.any_eq_true,List.mem_map];exact⟨fun⟨x,hx,e⟩=>⟨x,hx,of_decide_eq_true e⟩,fun⟨x,hx,e⟩=>⟨x,hx,decide_eq_true e⟩⟩
theorem yN {κ:Type}[DecidableEq κ](R:List (κ×PV))(k:κ)(v:PV):(putG R k v).map (·.1)=if k∈R.map (·.1) then R.map (·.1) else R.map (·.1)++[k]:=by
 unfold putG
 by_cases h:k∈R.map (·.1)
 .rw [if_pos ((Xn R k).2 h),if_pos h,List.map_map]
  refine List.map_congr_left fun x _=>?_;show(if x.1=k then (x.1,v) else x).1=x.1
  split<;>rfl
 .rw [if_neg (fun z=>h ((Xn R k).1 z)),if_neg h,List.map_append]
  rfl
theorem uT {κ:Type}[DecidableEq κ]{R:List (κ×PV)}{k:κ}{v:PV}{x:κ×PV}(h:x∈putG R k v):x.2=v\/x∈R:=by
 unfold putG at h
 split at h
 .obtain ⟨y,hy,rfl⟩:=List.mem_map.1 h
  split
  .exact .inl rfl
  .exact .inr hy
 .rcases List.mem_append.1 h with h | h
  .exact .inr h
  .cases List.mem_singleton.1 h; exact .inl rfl
theorem RdOk.put {bs:List Str}{R:Rds}(h:RdOk bs R){s n:Str}(hq:cE bs s n){i:Int}(hi:Bd i):RdOk bs (putG R (qK s n) (.int i)):=by
 refine⟨?_,?_,fun kv hkv=>?_⟩
 .rw [yN]
  split
  .exact h.nd
  .next hn =>
   rw[List.nodup_append];refine⟨h.nd,by simp,fun a ha b hb e=>?_⟩;cases List.mem_singleton.1 hb;exact hn (e▸ha)
 .rw [yN]
  intro k hk
  split at hk
  .exact h.ks k hk
  .rcases List.mem_append.1 hk with hk | hk
   .exact h.ks k hk
   .cases List.mem_singleton.1 hk; exact⟨s,n,rfl,hq⟩
 .rcases uT hkv with e | e
  .exact ⟨i,e,hi⟩
  .exact h.vs kv e
theorem jO {α:Type}[DecidableEq α]:∀(l m:List α),l.Nodup->(∀x∈l,x∈m)->l.length<=m.length
 |[],_,_,_=>Nat.zero_le _
 |x::l,m,hd,hs=>by
  have hx:=hs x List.mem_cons_self;rw[List.nodup_cons] at hd
  have ih:=jO l (m.erase x) hd.2 fun y hy=>by
   have ne:y≠x:=fun e=>hd.1 (e▸hy);exact(List.mem_erase_of_ne ne).2 (hs y (List.mem_cons_of_mem _ hy))
  rw[List.length_erase_of_mem hx] at ih;have:0 < m.length:=List.length_pos_of_mem hx;rw[List.length_cons];omega
def pM (bs:List Str):List (List Key):=(["a","ab","b"]:List Str).map (qK "take")++((["a","ab","b"]:List Str).map (qK "down")++bs.map (qK "box"))
theorem ask_in {bs:List Str}{s n:Str}(h:cE bs s n):qK s n∈pM bs:=by
 unfold pM
 rcases h with ⟨rfl | rfl,h⟩ | ⟨rfl,h⟩
 .exact List.mem_append_left _ (List.mem_map.2 ⟨n,h,rfl⟩)
 .exact List.mem_append_right _ (List.mem_append_left _ (List.mem_map.2 ⟨n,h,rfl⟩))
 .exact List.mem_append_right _ (List.mem_append_right _ (List.mem_map.2 ⟨n,h,rfl⟩))
theorem RdOk.len {bs:List Str}{R:Rds}(h:RdOk bs R):R.length<=6+bs.length:=by
 have:=jO (R.map (·.1)) (pM bs) h.nd fun k hk=>by
  obtain⟨s,n,rfl,hq⟩:=h.ks k hk;exact ask_in hq
 rw[List.length_map] at this
 have e:(pM bs).length=6+bs.length:=by
  unfold pM;rw[List.length_append,List.length_append,List.length_map,List.length_map,List.length_map];show 3+(3+_)=_;omega
 omega
theorem qV {A:Rds}{τ:Tns}(hA:ABd A){bs ts:List Str}:∀{d:Nat}{r:Rk}{R:Rds},r.ok bs ts d->RdOk bs R->RdOk bs (r.rds A τ R):=by
 intro d r
 induction r generalizing d with
 |num i=>intro R _ h; exact h
 |turn n=>intro R _ h; exact h
 |ask s n=>intro R h hR; unfold Rk.ok at h; exact hR.put h (Qk hA s n).2
 |bin w x y ihx ihy =>
  intro R h hR
  cases d with
  |zero=>unfold Rk.ok at h; exact h.elim
  |succ d =>
   unfold Rk.ok at h;exact ihy h.2.2 (ihx h.2.1 hR)
 |pick x y z ihx ihy ihz =>
  intro R h hR
  cases d with
  |zero=>unfold Rk.ok at h; exact h.elim
  |succ d =>
   unfold Rk.ok at h;unfold Rk.rds
   split
   .exact ihz h.2.2 (ihx h.1 hR)
   .exact ihy h.2.1 (ihx h.1 hR)
structure Env (C:CH)(aa tt rr:Addr)(A:Rds)(τ:Tns)(R:Rds):Prop where
 ha:C aa=some (.dT A)
 ht:C tt=some (.dK τ)
 hr:C rr=some (.dT R)
 ne:aa≠rr
theorem Env.nt {C:CH}{aa tt rr:Addr}{A:Rds}{τ:Tns}{R:Rds}(h:Env C aa tt rr A τ R):tt≠rr:=fun z=>by have:=h.ht; rw[z,h.hr] at this; cases this
theorem Env.ex {C C':CH}{aa tt rr:Addr}{A:Rds}{τ:Tns}{R R':Rds}(h:Env C aa tt rr A τ R)(e:ExS [rr] C C')(hr:C' rr=some (.dT R')):Env C' aa tt rr A τ R' :=
 ⟨e _ _ (fun z=>h.ne (List.mem_singleton.1 z)) h.ha,e _ _ (fun z=>h.nt (List.mem_singleton.1 z)) h.ht,hr,h.ne⟩
theorem sV {κ:Type}[DecidableEq κ](x:κ×PV)(l:List (κ×PV))(k:κ):iK (x::l) k=if x.1=k then some x.2 else iK l k:=by
 unfold iK;rw[List.find?_cons]
 by_cases e:x.1=k
 .rw [decide_eq_true e,if_pos e]; rfl
 .rw [decide_eq_false e,if_neg e]
theorem Zu {κ:Type}[DecidableEq κ](R:List (κ×PV))(k:κ)(v:PV)(k':κ):iK (putG R k v) k'=if k'=k then some v else iK R k':=by
 unfold putG
 by_cases b:(R.any fun kv=>decide (kv.1=k))=true
 .rw [if_pos b]
  induction R with
  |nil=>cases b
  |cons x l ih =>
   rw[List.map_cons,sV,sV];have e1:(if x.1=k then (x.1,v) else x).1=x.1:=by split<;>rfl
   rw[e1]
   by_cases e:x.1=k'
   .rw [if_pos e,if_pos e]
    by_cases e2:k'=k
    .rw [if_pos e2,if_pos (e.trans e2)]
    .rw [if_neg e2,if_neg (fun z=>e2 (e.symm.trans z))]
   .rw [if_neg e,if_neg e]
    by_cases h3:(l.any fun kv=>decide (kv.1=k))=true
    .exact ih h3
    .have h4:∀y∈l,¬ y.1=k:=fun y hy z=>h3 (List.any_eq_true.2 ⟨y,hy,decide_eq_true z⟩)
     have:(l.map fun kv=>if kv.1=k then (kv.1,v) else kv)=l:=(List.map_congr_left fun y hy=>if_neg (h4 y hy)).trans (List.map_id l);rw[this]
     have hx:x.1=k:=by
      rw[List.any_cons,Bool.or_eq_true] at b
      rcases b with b | b
      .exact of_decide_eq_true b
      .exact absurd b h3
     rw[if_neg (fun z=>e (hx.trans z.symm))]
 .rw [if_neg b]
  induction R with
  |nil =>
   rw[List.nil_append,sV]
   by_cases e:k=k'
   .rw [if_pos e,if_pos e.symm]
   .rw [if_neg e,if_neg (fun z=>e z.symm)]
  |cons x l ih =>
   rw[List.any_cons] at b;have e:¬ x.1=k:=fun e=>b (by rw[decide_eq_true e]; rfl);rw[decide_eq_false e,Bool.false_or] at b;rw[List.cons_append,sV,sV]
   by_cases e2:x.1=k'
   .rw [if_pos e2,if_pos e2,if_neg (fun z=>e (e2.trans z))]
   .rw [if_neg e2,if_neg e2]; exact ih b
structure eG (A:Rds)(τ:Tns)(bs ns:List Str):Prop where
 a:ABd A
 t:TBd τ
 h:HasT τ ns
 b:bs.length<=4
section
variable {P:Program}{w:World}{K:PySem.W.Frag}{mg:Str->Option Value}{base:Heap}{a:Adr}
def gCut:GC:=fun ts C Q=>∃i:Int,ts=[.int i]/\Q (.int (oI i)) C
theorem ok_cut (T:Txt P w K mg a):FnOk P w K mg base CX0 1 (a.f 5) (a.d 5) ["number"] (spC K gCut):=by
 have S:=(T.F 5 rfl).s;refine(T.F 5 rfl).ok (fun ts C R h=>?_) fun cdv A outer s H E hr=>⟨_,(kQ (pQ (xZ (Zh rfl) cbi_max rfl T.z_max rfl (qQ (jC sM uU (eD (v:=.int 1000000000) (t:=.int 1000000000) rfl T.Kn ⟨_,rfl⟩ (fun _=>.int _))) (ca1 (xZ (xC rfl) Xc rfl T.z_min rfl (qQ (eD (v:=.int 1000000000) (t:=.int 1000000000) rfl T.Kn ⟨_,rfl⟩ (fun _=>.int _)) (ca1 (cv 0))))))))),?_⟩
 .obtain ⟨i,rfl,_⟩:=h; rfl
 rintro ts C R ⟨i,rfl,q⟩;refine min_s ?_;refine max_s ?_;exact q
def joinI (w:Str)(i j:Int):Int:=if w = "less" then (if i < j then 1 else 0) else if w = "times" then oI (i * j) else oI (i+j)
def gJoin:GC:=fun ts C Q=>∃(w:Str) (i j:Int),ts=[.str w,.int i,.int j]/\(w = "add"\/w = "times"\/w = "less")/\Bd i/\Bd j/\Q (.int (joinI w i j)) C
theorem XL (T:Txt P w K mg a):FnOk P w K mg base CX0 2 (a.f 7) (a.d 7) ["word","first","second"] (spC K gJoin):=by
 have S:=(T.F 7 rfl).s;have G_cut:=ok_cut (base:=base) T
 refine(T.F 7 rfl).ok (fun ts C R h=>?_) fun cdv A outer s H E hr=>⟨_,(xQ (zX (ct2 mX iQ (cv 0) vQ) (kQ (pQ (cf (T.F 5 rfl) G_cut hr (ca1 (eQ gX bX (cv 1) (cv 2)))))) tQ)
  (xQ (zX (ct2 mX iQ (cv 0) vQ) (kQ (pQ (cf (T.F 5 rfl) G_cut hr (ca1 (eQ qF bU (cv 1) (cv 2)))))) tQ)
  (kQ (pQ (uE (ct2 sU lW (cv 1) (cv 2)) zQ zQ))))),?_⟩
 .obtain ⟨w,i,j,rfl,_⟩:=h; rfl
 rintro ts C R ⟨w,i,j,rfl,hw,bi,bj,q⟩;unfold joinI at q;refine xX (lQ _ _) ?_
 rcases hw with rfl | rfl | rfl
 .refine pK (by decide) ?_
  refine mW ?_;exact⟨_,rfl,q⟩
 .refine qZ (by decide) ?_
  refine vX ?_
  try dsimp only
  refine xX (lQ _ _) ?_;refine pK (by decide) ?_;unfold Bd at bi bj;refine⟨.inr ⟨by omega,by omega⟩,?_⟩;exact⟨_,rfl,q⟩
 .refine qZ (by decide) ?_
  refine vX ?_
  try dsimp only
  refine xX (lQ _ _) ?_;refine qZ (by decide) ?_;refine vX ?_
  try dsimp only
  rw[if_pos rfl] at q;refine i_i ?_;refine mZ (fun hb=>?_) fun hb=>?_
  .rw [if_pos (of_decide_eq_true hb)] at q; exact q
  .rw [if_neg (of_decide_eq_false hb)] at q; exact q
def gRk (d:Nat):GC:=fun ts C Q=>∃(r:Rk) (aa tt rr:Addr) (A:Rds) (τ:Tns) (R:Rds) (bs ns:List Str),ts=[r.pv,.ref aa,.ref tt,.ref rr]/\r.ok bs ns d/\Env C aa tt rr A τ R/\eG A τ bs ns/\RdOk bs R /\
 ∀C',C' rr=some (.dT (r.rds A τ R))->ExS [rr] C C'->Q (.int (r.val A τ)) C'
theorem zR (T:Txt P w K mg a)(d:Nat):FnOk P w K mg base CX0 (d+3) (a.f 6) (a.d 6) ["reckoning","answers","turns","asked"] (spC K (gRk d)):=by
 have main:∀n,(∀d',n=d'+1->FnOk P w K mg base CX0 (d'+3) (a.f 6) (a.d 6) ["reckoning","answers","turns","asked"] (spC K (gRk d')))->FnOk P w K mg base CX0 (n+3) (a.f 6) (a.d 6) ["reckoning","answers","turns","asked"] (spC K (gRk n)):=by
  intro n ih;have S:=(T.F 6 rfl).s;have Vm:=(XL (base:=base) T).mono (show 2<=n+2 by omega)
  have aK:FnOk P w K mg base CX0 (n+2) (a.f 6) (a.d 6) ["reckoning","answers","turns","asked"] (spC K (fun ts C Q=>∃d',n=d'+1/\gRk d' ts C Q)):=by
   cases n with
   |zero=>exact oK fun ts C Q ⟨d',e,_⟩=>by omega
   |succ d' =>
    have:=ih d' rfl
    have e:(fun ts C Q=>∃d'',d'+1=d''+1/\gRk d'' ts C Q)=gRk d':=by
     funext ts C Q
     refine propext ⟨fun⟨d'',e,h⟩=>?_,fun h=>⟨d',rfl,h⟩⟩;cases Nat.succ.inj e;exact h
    rw[e];exact this
  refine(T.F 6 rfl).ok (fun ts C R h=>?_) fun cdv A outer s H E hr=>⟨_,(xQ (cs1 4 S.nd (cx (cv 0) zQ))
  (xQ (zX (ct2 mX iQ (cv 4) vQ) (kQ (pQ (cx (cv 0) zQ))) tQ)
  (xQ (zX (ct2 mX iQ (cv 4) vQ) (kQ (pQ (bZ (oX hr) (cv 2) (cx (cv 0) zQ) (fun _ _=>rfl)))) tQ)
  (xQ (zX (tI XG cop_inS (cv 4) (eD (v:=.ref a.ASKING) (t:=.kt [.str "take",.str "box",.str "down"]) rfl T.gASKING rfl (fun H=>.kt (T.qASKING H) (.cons (.str _) (.cons (.str _) (.cons (.str _) .nil))))) rfl) (xQ (cs1 5 S.nd (fQ (qQ (cv 4) (ca1 (cx (cv 0) zQ)))))
  (xQ (Q5 (oX hr) (cv 3) (cv 5) (KL (oX hr) (cv 1) (cv 5) zQ))
  (kQ (pQ (ce_tix (oX hr) (cv 3) (cv 5) (fun _ _=>rfl)))))) tQ)
  (xQ (cs1 6 S.nd (cf (T.F 6 rfl) aK hr (qQ (cx (cv 0) zQ) (qQ (cv 1) (qQ (cv 2) (ca1 (cv 3)))))))
  (xQ (zX (ct2 mX iQ (cv 4) vQ) (xQ (cs1 7 S.nd (uE (ct2 mX iQ (cv 6) zQ) (cx (cv 0) zQ) (cx (cv 0) zQ)))
  (kQ (pQ (cf (T.F 6 rfl) aK hr (qQ (cv 7) (qQ (cv 1) (qQ (cv 2) (ca1 (cv 3))))))))) tQ)
  (xQ (cs1 8 S.nd (cf (T.F 6 rfl) aK hr (qQ (cx (cv 0) zQ) (qQ (cv 1) (qQ (cv 2) (ca1 (cv 3)))))))
  (kQ (pQ (cf (T.F 7 rfl) Vm hr (qQ (cv 4) (qQ (cv 6) (ca1 (cv 8)))))))))))))),?_⟩
  .obtain ⟨r,aa,tt,rr,A,τ,R,bs,ns,rfl,_⟩:=h; rfl
  rintro ts C Q ⟨r,aa,tt,rr,A,τ,R,bs,ns,rfl,ok,hE,hS,hR,q⟩;refine uQ ?_
  cases r with
  |num i =>
   refine rX sQ ?_
   try dsimp only
   refine xX (lQ _ _) ?_;refine pK (by decide) ?_;refine rX (v:=.int i) rfl ?_;exact q C hE.hr ExS.refl
  |turn m =>
   unfold Rk.ok at ok;refine rX sQ ?_
   try dsimp only
   refine xX (lQ _ _) ?_;refine qZ (by decide) ?_;refine vX ?_
   try dsimp only
   refine xX (lQ _ _) ?_;refine pK (by decide) ?_;refine rX (v:=.str m) rfl ?_;refine nJ hE.ht rfl (Qt hS.t (hS.h m ok)).1 ?_;exact q C hE.hr ExS.refl
  |ask s m =>
   unfold Rk.ok at ok;refine rX sQ ?_
   try dsimp only
   refine xX (lQ _ _) ?_
   have hs:s = "take"\/s = "down"\/s = "box":=by
    rcases ok with ⟨h | h,_⟩ | ⟨h,_⟩
    .exact .inl h
    .exact .inr (.inl h)
    .exact .inr (.inr h)
   have hn1:decide (s = "num")=false:=by rcases hs with rfl | rfl | rfl<;>decide
   have hn2:decide (s = "turn")=false:=by rcases hs with rfl | rfl | rfl<;>decide
   refine qZ (by rw[hn1]; rfl) ?_;refine vX ?_
   try dsimp only
   refine xX (lQ _ _) ?_;refine qZ (by rw[hn2]; rfl) ?_;refine vX ?_
   try dsimp only
   refine Kd (ts:=[.str "take",.str "box",.str "down"]) (w:=.str s) (vs:=[.str "take",.str "box",.str "down"]) rfl rfl rfl ?_;refine pK (by rcases hs with rfl | rfl | rfl<;>rfl) ?_;refine uQ ?_;refine rX (v:=.str m) rfl ?_;refine⟨by show 2<=sizeLine; decide,?_⟩
   try dsimp only
   refine vZ ?_;refine⟨isTd_s hE.ha,?_⟩;refine tget_s (k:=qK s m) hE.ha rfl (Qk hS.a s m).1 ?_;have hb:=hS.b;refine Zz (k:=qK s m) hE.hr rfl (by have:=hR.len; omega) ?_
   try dsimp only
   refine tix_s (k:=qK s m) jQ rfl (by rw[Zu,if_pos rfl]) ?_;exact q _ jQ (ExS.refl.at (by simp) _)
  |bin w x y =>
   cases n with
   |zero=>unfold Rk.ok at ok; exact ok.elim
   |succ d' =>
   unfold Rk.ok at ok;obtain⟨hw,ox,oy⟩:=ok;have hn1:decide (w = "num")=false:=by rcases hw with rfl | rfl | rfl<;>decide
   have hn2:decide (w = "turn")=false:=by rcases hw with rfl | rfl | rfl<;>decide
   refine rX sQ ?_
   try dsimp only
   refine xX (lQ _ _) ?_;refine qZ (by rw[hn1]; rfl) ?_;refine vX ?_
   try dsimp only
   refine xX (lQ _ _) ?_;refine qZ (by rw[hn2]; rfl) ?_;refine vX ?_
   try dsimp only
   refine Kd (ts:=[.str "take",.str "box",.str "down"]) (w:=.str w) (vs:=[.str "take",.str "box",.str "down"]) rfl rfl rfl ?_;refine qZ (by rcases hw with rfl | rfl | rfl<;>rfl) ?_;refine vX ?_
   try dsimp only
   refine uQ ?_;refine rX (v:=x.pv) rfl ?_;refine⟨d',rfl,x,aa,tt,rr,A,τ,R,bs,ns,rfl,ox,hE,hS,hR,fun C1 m1 e1=>?_⟩;have E1:=hE.ex e1 m1;have R1:=qV (τ:=τ) hS.a ox hR
   try dsimp only
   refine xX (lQ _ _) ?_;refine qZ (by rcases hw with rfl | rfl | rfl<;>decide) ?_;refine vX ?_
   try dsimp only
   refine uQ ?_;refine rX (v:=y.pv) rfl ?_;refine⟨d',rfl,y,aa,tt,rr,A,τ,_,bs,ns,rfl,oy,E1,hS,R1,fun C2 m2 e2=>?_⟩
   try dsimp only
   have bx:=yL hS.a hS.t hS.h ox;have by':=yL hS.a hS.t hS.h oy
   exact⟨w,_,_,rfl,hw,bx,by',q C2 m2 (e1.trans e2)⟩
  |pick x y z =>
   cases n with
   |zero=>unfold Rk.ok at ok; exact ok.elim
   |succ d' =>
   unfold Rk.ok at ok;obtain⟨ox,oy,oz⟩:=ok;refine rX sQ ?_
   try dsimp only
   refine xX (lQ _ _) ?_;refine qZ (by decide) ?_;refine vX ?_
   try dsimp only
   refine xX (lQ _ _) ?_;refine qZ (by decide) ?_;refine vX ?_
   try dsimp only
   refine Kd (ts:=[.str "take",.str "box",.str "down"]) (w:=.str "pick") (vs:=[.str "take",.str "box",.str "down"]) rfl rfl rfl ?_;refine qZ rfl ?_;refine vX ?_
   try dsimp only
   refine uQ ?_;refine rX (v:=x.pv) rfl ?_;refine⟨d',rfl,x,aa,tt,rr,A,τ,R,bs,ns,rfl,ox,hE,hS,hR,fun C1 m1 e1=>?_⟩;have E1:=hE.ex e1 m1;have R1:=qV (τ:=τ) hS.a ox hR
   try dsimp only
   refine xX (lQ _ _) ?_;refine pK (by decide) ?_;refine uQ ?_;refine xX (aX _ _) ?_
   by_cases h0:x.val A τ=0
   .refine pK (decide_eq_true h0) ?_
    refine rX (v:=z.pv) rfl ?_
    try dsimp only
    refine⟨d',rfl,z,aa,tt,rr,A,τ,_,bs,ns,rfl,oz,E1,hS,R1,fun C2 m2 e2=>?_⟩;have:=q C2 (by unfold Rk.rds; rw[if_pos h0]; exact m2) (e1.trans e2);unfold Rk.val at this;rw[if_pos h0] at this;exact this
   .refine qZ (decide_eq_false h0) ?_
    refine rX (v:=y.pv) rfl ?_
    try dsimp only
    refine⟨d',rfl,y,aa,tt,rr,A,τ,_,bs,ns,rfl,oy,E1,hS,R1,fun C2 m2 e2=>?_⟩;have:=q C2 (by unfold Rk.rds; rw[if_neg h0]; exact m2) (e1.trans e2);unfold Rk.val at this;rw[if_neg h0] at this;exact this
 induction d with
 |zero=>exact main 0 fun d' e=>by omega
 |succ d ih=>exact main (d+1) fun d' e=>by cases Nat.succ.inj e; exact ih
end
structure HdV where
 ev:Str
 rank:Int
 last:Bool
 ch:List (Str×Str×Int)
inductive Wt where
 |plain (sp:List Key) (tag:Str) (sets:List (Str×Int)) (hands:List HdV) (row:List Wt)
 |part (sp:List Key) (name:Str) (gives:List (Str×Int))
 |give (sp:List Key) (name:Str) (num:Int) (row:List Wt)
def cvPV (c:Str×Str×Int):PV:=.tup [.str c.1,.str c.2.1,.int c.2.2]
def HdV.pv (h:HdV):PV:=.tup [.str h.ev,.int h.rank,.bl h.last,.tup (h.ch.map cvPV)]
mutual
def Wt.pv:Wt->PV
 |.plain sp tag s h r=>.tup [.str "plain",mK sp,.str tag,.tup (s.map dQ),.tup (h.map HdV.pv),.tup (Wt.pvs r)]
 |.part sp n g=>.tup [.str "part",mK sp,.str n,.tup (g.map dQ)]
 |.give sp n i r=>.tup [.str "give",mK sp,.str n,.int i,.tup (Wt.pvs r)]
def Wt.pvs:List Wt->List PV
 |[]=>[]
 |w::ws=>w.pv::Wt.pvs ws
end
theorem Wt.pvs_map (ls:List Wt):Wt.pvs ls=ls.map Wt.pv:=by
 induction ls with
 |nil=>rfl
 |cons l ls ih=>rw[List.map_cons,<- ih]; rfl
theorem Wt.pvs_app (xs ys:List Wt):Wt.pvs (xs++ys)=Wt.pvs xs++Wt.pvs ys:=by
 rw[Wt.pvs_map,Wt.pvs_map,Wt.pvs_map,List.map_append]
theorem Wt.pvs_len (xs:List Wt):(Wt.pvs xs).length=xs.length:=by rw[Wt.pvs_map,List.length_map]
section
variable (A:Rds)(τ:Tns)
def gJ (ps:List (Str×Rk)):List (Str×Int):=ps.map fun c=>(c.1,c.2.val A τ)
def uV (ps:List (Str×Rk))(R:Rds):Rds:=ps.foldl (fun R c=>c.2.rds A τ R) R
def Qa (cs:List (Str×Str×Rk)):List (Str×Str×Int):=cs.map fun c=>(c.1,c.2.1,c.2.2.val A τ)
def KI (cs:List (Str×Str×Rk))(R:Rds):Rds:=cs.foldl (fun R c=>c.2.2.rds A τ R) R
def Kh (h:Hd):HdV:=⟨h.ev,h.rank,h.last,Qa A τ h.ch⟩
def xV (hs:List Hd):List HdV:=hs.map (Kh A τ)
def zW (hs:List Hd)(R:Rds):Rds:=hs.foldl (fun R h=>KI A τ h.ch R) R
def fG:Option Rk->Key
 |none=>.inl none
 |some r=>.inl (some (r.val A τ))
def cW:Option Rk->Rds->Rds
 |none,R=>R
 |some r,R=>r.rds A τ R
end
def lH (N:Tns)(k:Key):Int:=match cZ N k with
 |some (.int i)=>i
 |_=>0
def gD (i:Int):Nat:=(if i < 8 then i else 8).toNat
theorem bM (i:Int):gD i<=8:=by unfold gD; split<;>omega
abbrev DSt:=List Wt×Tns×Rds
def tV (N:Tns)(k:Key):List Key:=[k,.inl (some (lH N k))]
def wV (N:Tns)(k:Key):Tns:=fZ N k (.int (lH N k+1))
mutual
def tX (A:Rds):Ln->Tns->DSt->DSt
 |.when r l1 l2,τ,st=>if r.val A τ=0 then rQ A l2 τ (st.1,st.2.1,r.rds A τ st.2.2) else rQ A l1 τ (st.1,st.2.1,r.rds A τ st.2.2)
 |.each n r ls,τ,st=>(List.range (gD (r.val A τ))).foldl (fun st k=>rQ A ls (fZ τ (.inr n) (.int (k:Nat))) st) (st.1,st.2.1,r.rds A τ st.2.2)
 |.part k n g,τ,st=>(st.1++[.part (tV st.2.1 (fG A τ k)) n (dW (gJ A τ g))],wV st.2.1 (fG A τ k),uV A τ g (cW A τ k st.2.2))
 |.give k n r ls,τ,st =>
  let d:=rQ A ls τ ([],[],r.rds A τ (cW A τ k st.2.2))
  (st.1++[.give (tV st.2.1 (fG A τ k)) n (r.val A τ) d.1],wV st.2.1 (fG A τ k),d.2.2)
 |.plain k tag s hs ls,τ,st =>
  let d:=rQ A ls τ ([],[],zW A τ hs (uV A τ s (cW A τ k st.2.2)))
  (st.1++[.plain (tV st.2.1 (fG A τ k)) tag (dW (gJ A τ s)) (xV A τ hs) d.1],wV st.2.1 (fG A τ k),d.2.2)
def rQ (A:Rds):List Ln->Tns->DSt->DSt
 |[],_,st=>st
 |l::ls,τ,st=>rQ A ls τ (tX A l τ st)
end
def qB (A:Rds)(τ:Tns)(sp:List Key):Ln->Rds->Wt×Rds
 |.part _ n g,R=>(.part sp n (dW (gJ A τ g)),uV A τ g R)
 |.give _ n r ls,R=>(.give sp n (r.val A τ) (rQ A ls τ ([],[],r.rds A τ R)).1,(rQ A ls τ ([],[],r.rds A τ R)).2.2)
 |.plain _ tag s hs ls,R=>(.plain sp tag (dW (gJ A τ s)) (xV A τ hs) (rQ A ls τ ([],[],zW A τ hs (uV A τ s R))).1,(rQ A ls τ ([],[],zW A τ hs (uV A τ s R))).2.2)
 |_,R=>(.part sp "" [],R)
theorem hZ (A:Rds)(τ:Tns)(st:DSt):rQ A [] τ st=st:=by unfold rQ; rfl
theorem uZ (A:Rds)(l:Ln)(ls:List Ln)(τ:Tns)(st:DSt):rQ A (l::ls) τ st=rQ A ls τ (tX A l τ st):=by rw[rQ]
theorem jI (A:Rds)(xs ys:List Ln)(τ:Tns)(st:DSt):rQ A (xs++ys) τ st=rQ A ys τ (rQ A xs τ st):=by
 induction xs generalizing st with
 |nil=>rw[hZ]; rfl
 |cons x xs ih=>rw[List.cons_append,uZ,uZ,ih]
def isTh:Ln->Bool
 |.when _ _ _=>false
 |.each _ _ _=>false
 |_=>true
def mG:Ln->Option Rk
 |.plain k _ _ _ _=>k
 |.part k _ _=>k
 |.give k _ _ _=>k
 |_=>none
theorem zI (A:Rds)(τ:Tns)(l:Ln)(F:List Wt)(N:Tns)(R:Rds)(h:isTh l=true):
  tX A l τ (F,N,R)=(F++[(qB A τ (tV N (fG A τ (mG l))) l (cW A τ (mG l) R)).1],wV N (fG A τ (mG l)),(qB A τ (tV N (fG A τ (mG l))) l (cW A τ (mG l) R)).2):=by
 cases l with
 |plain k tag s hs ls=>rw[tX]; rfl
 |part k n g=>rw[tX]; rfl
 |give k n r ls=>rw[tX]; rfl
 |when r l1 l2=>cases h
 |each n r ls=>cases h
theorem rY {α:Type}{f:α->Nat->α}{m:α->Nat}{c:Nat}(h:∀x k,m (f x k)<=m x+c):∀(l:List Nat) (x:α),m (l.foldl f x)<=m x+l.length * c
 |[],x=>by show m x<=m x+0 * c; omega
 |k::l,x=>by
  have h1:=rY h l (f x k);have h2:=h x k;rw[List.foldl_cons,List.length_cons,Nat.add_mul,Nat.one_mul];omega
mutual
theorem JU (A:Rds):∀(l:Ln) (τ:Tns) (st:DSt),(tX A l τ st).1.length<=st.1.length+l.tw/\(tX A l τ st).2.1.length<=st.2.1.length+l.tw
 |.when r l1 l2,τ,st=>by
  rw[tX];have h1:=qJ A l1 τ (st.1,st.2.1,r.rds A τ st.2.2);have h2:=qJ A l2 τ (st.1,st.2.1,r.rds A τ st.2.2);show _<=_+(Ln.tws l1+Ln.tws l2)/\_<=_+(Ln.tws l1+Ln.tws l2)
  split
  .exact ⟨Nat.le_trans h2.1 (by show st.1.length+_<=_; omega),Nat.le_trans h2.2 (by show st.2.1.length+_<=_; omega)⟩
  .exact ⟨Nat.le_trans h1.1 (by show st.1.length+_<=_; omega),Nat.le_trans h1.2 (by show st.2.1.length+_<=_; omega)⟩
 |.each n r ls,τ,st=>by
  rw[tX];have c:=bM (r.val A τ);have f1:=rY (f:=fun st k=>rQ A ls (fZ τ (.inr n) (.int (k:Nat))) st) (m:=fun st=>st.1.length) (c:=Ln.tws ls) (fun x k=>(qJ A ls _ x).1) (List.range (gD (r.val A τ))) (st.1,st.2.1,r.rds A τ st.2.2);have f2:=rY (f:=fun st k=>rQ A ls (fZ τ (.inr n) (.int (k:Nat))) st) (m:=fun st=>st.2.1.length) (c:=Ln.tws ls) (fun x k=>(qJ A ls _ x).2) (List.range (gD (r.val A τ))) (st.1,st.2.1,r.rds A τ st.2.2)
  rw[List.length_range] at f1 f2;have hm:gD (r.val A τ) * Ln.tws ls<=8 * Ln.tws ls:=Nat.mul_le_mul_right _ c;show _<=st.1.length+8 * Ln.tws ls/\_<=st.2.1.length+8 * Ln.tws ls;exact⟨Nat.le_trans f1 (by show st.1.length+_<=_; omega),Nat.le_trans f2 (by show st.2.1.length+_<=_; omega)⟩
 |.part k n g,τ,st=>by
  rw[tX];refine⟨by show(st.1++[_]).length<=st.1.length+1; rw[List.length_append,List.length_singleton]; exact Nat.le_refl _,eB _ _ _⟩
 |.give k n r ls,τ,st=>by
  rw[tX];refine⟨by show(st.1++[_]).length<=st.1.length+(1+_); rw[List.length_append,List.length_singleton]; omega,Nat.le_trans (eB _ _ _) (by show _<=_+(1+_); omega)⟩
 |.plain k tag s hs ls,τ,st=>by
  rw[tX];refine⟨by show(st.1++[_]).length<=st.1.length+(1+_); rw[List.length_append,List.length_singleton]; omega,Nat.le_trans (eB _ _ _) (by show _<=_+(1+_); omega)⟩
theorem qJ (A:Rds):∀(ls:List Ln) (τ:Tns) (st:DSt),(rQ A ls τ st).1.length<=st.1.length+Ln.tws ls/\(rQ A ls τ st).2.1.length<=st.2.1.length+Ln.tws ls
 |[],τ,st=>by rw[hZ]; exact⟨Nat.le_add_right _ _,Nat.le_add_right _ _⟩
 |l::ls,τ,st=>by
  rw[uZ];have h1:=JU A l τ st;have h2:=qJ A ls τ (tX A l τ st);show _<=_+(l.tw+Ln.tws ls)/\_<=_+(l.tw+Ln.tws ls);omega
end
theorem aW {A:Rds}{τ:Tns}(hA:ABd A){bs ns:List Str}{d:Nat}:∀{ps:List (Str×Rk)}{R:Rds},aH bs ns d ps->RdOk bs R->RdOk bs (uV A τ ps R)
 |[],R,_,h=>h
 |c::ps,R,hp,h=>aW (ps:=ps) hA (fun x hx=>hp x (List.mem_cons_of_mem _ hx)) (qV hA (hp c List.mem_cons_self) h)
theorem nR {A:Rds}{τ:Tns}(hA:ABd A){bs ns:List Str}{d:Nat}:∀{cs:List (Str×Str×Rk)}{R:Rds},(∀c∈cs,c.2.2.ok bs ns d)->RdOk bs R->RdOk bs (KI A τ cs R)
 |[],R,_,h=>h
 |c::ps,R,hp,h=>nR (cs:=ps) hA (fun x hx=>hp x (List.mem_cons_of_mem _ hx)) (qV hA (hp c List.mem_cons_self) h)
theorem yU {A:Rds}{τ:Tns}(hA:ABd A){bs ns:List Str}:∀{hs:List Hd}{R:Rds},(∀h∈hs,h.ok bs ns)->RdOk bs R->RdOk bs (zW A τ hs R)
 |[],R,_,h=>h
 |c::ps,R,hp,h=>yU (hs:=ps) hA (fun x hx=>hp x (List.mem_cons_of_mem _ hx)) (nR hA (hp c List.mem_cons_self).2 h)
theorem wU {A:Rds}{τ:Tns}(hA:ABd A){bs ns:List Str}{k:Option Rk}{R:Rds}(h:bO bs ns k)(hR:RdOk bs R):RdOk bs (cW A τ k R):=by
 cases k with
 |none=>exact hR
 |some r=>exact qV hA h hR
theorem kH {A:Rds}{bs rs:List Str}{d:Nat}(h1:∀l ns τ st,LnOk bs rs d ns l->RdOk bs st.2.2->RdOk bs (tX A l τ st).2.2):∀(ls:List Ln) (ns:List Str) (τ:Tns) (st:DSt),(∀x∈ls,LnOk bs rs d ns x)->RdOk bs st.2.2->RdOk bs (rQ A ls τ st).2.2
 |[],ns,τ,st,_,h=>by rw[hZ]; exact h
 |l::ls,ns,τ,st,hl,h=>by
  rw[uZ];exact kH h1 ls ns τ _ (fun x hx=>hl x (List.mem_cons_of_mem _ hx)) (h1 l ns τ st (hl l List.mem_cons_self) h)
theorem dG {α β:Type}{f:α->β->α}{P:α->Prop}(h:∀x k,P x->P (f x k)):∀(l:List β) (x:α),P x->P (l.foldl f x)
 |[],x,p=>p
 |k::l,x,p=>dG h l _ (h x k p)
theorem one_rd {A:Rds}(hA:ABd A){bs rs:List Str}:∀(d:Nat) (l:Ln) (ns:List Str) (τ:Tns) (st:DSt),LnOk bs rs d ns l->RdOk bs st.2.2->RdOk bs (tX A l τ st).2.2:=by
 intro d
 induction d with
 |zero=>intro l ns τ st h; exact h.elim
 |succ d ih =>
  intro l ns τ st h hR;have br:=kH ih
  cases l with
  |plain k tag s hs ls =>
   obtain⟨h1,h2,h3,h4,h5⟩:=h;rw[tX];exact br ls ns τ _ h4 (yU hA h3.1 (aW hA h2.1 (wU hA h1 hR)))
  |part k n g =>
   obtain⟨h1,h2,h3,h4⟩:=h;rw[tX];exact aW hA h3 (wU hA h1 hR)
  |give k n r ls =>
   obtain⟨h1,h2,h3,h4,h5⟩:=h;rw[tX];exact br ls ns τ _ h4 (qV hA h3 (wU hA h1 hR))
  |when r l1 l2 =>
   obtain⟨h1,⟨h2,h3⟩,h4,h5⟩:=h;rw[tX]
   split
   .exact br l2 ns τ _ h4 (qV hA h1 hR)
   .exact br l1 ns τ _ h2 (qV hA h1 hR)
  |each n r ls =>
   obtain⟨h1,h2,h3⟩:=h;rw[tX];exact dG (P:=fun st:DSt=>RdOk bs st.2.2) (fun x k p=>br ls [n] _ x h2 p) _ _ (qV hA h1 hR)
theorem pF {A:Rds}(hA:ABd A){bs rs:List Str}{d:Nat}{ls:List Ln}{ns:List Str}{τ:Tns}{st:DSt}(h:∀x∈ls,LnOk bs rs d ns x)(hR:RdOk bs st.2.2):RdOk bs (rQ A ls τ st).2.2:=kH (one_rd hA d) ls ns τ st h hR
def CInts (N:Tns):Prop:=∀kv∈N,∃i,kv.2=.int i
theorem CInts.put {N:Tns}(h:CInts N)(k:Key)(i:Int):CInts (fZ N k (.int i)):=by
 intro kv hk;unfold fZ at hk
 split at hk
 .obtain ⟨x,hx,rfl⟩:=List.mem_map.1 hk
  split
  .exact ⟨i,rfl⟩
  .exact h x hx
 .rcases List.mem_append.1 hk with hk | hk
  .exact h kv hk
  .cases List.mem_singleton.1 hk; exact⟨i,rfl⟩
theorem cnt_is {N:Tns}(h:CInts N)(k:Key):(cZ N k).getD (.int 0)=.int (lH N k):=by
 unfold lH
 cases e:cZ N k with
 |none=>rfl
 |some v =>
  obtain⟨kv,hm,rfl⟩:=lS e;obtain⟨i,ei⟩:=h kv hm;rw[ei]
  rfl
mutual
theorem one_ci (A:Rds):∀(l:Ln) (τ:Tns) (st:DSt),CInts st.2.1->CInts (tX A l τ st).2.1
 |.when r l1 l2,τ,st,h=>by
  rw[tX]
  split
  .exact uY A l2 τ _ h
  .exact uY A l1 τ _ h
 |.each n r ls,τ,st,h=>by
  rw[tX];exact dG (P:=fun st:DSt=>CInts st.2.1) (fun x k p=>uY A ls _ x p) _ _ h
 |.part k n g,τ,st,h=>by rw[tX]; exact h.put _ _
 |.give k n r ls,τ,st,h=>by rw[tX]; exact h.put _ _
 |.plain k tag s hs ls,τ,st,h=>by rw[tX]; exact h.put _ _
theorem uY (A:Rds):∀(ls:List Ln) (τ:Tns) (st:DSt),CInts st.2.1->CInts (rQ A ls τ st).2.1
 |[],τ,st,h=>by rw[hZ]; exact h
 |l::ls,τ,st,h=>by rw[uZ]; exact uY A ls τ _ (one_ci A l τ st h)
end
theorem Zc {n:Nat}{c:TCE}{ρ:CSt}{Q:K1}(I:List PV->List PV->CH->Prop)(step:∀x r acc C,I (x::r) acc C->∃ts,x=.tup ts/\ts.length=n/\∀L:K1,(∀y C2,acc.length < sizeLine/\I r (acc++[y]) C2->L y C2)->c (ts.map some++ρ) C L)(fin:∀acc C,I [] acc C->∀p,C p=none->Q (.ref p) (yQ C p (.lst acc))):
  ∀xs acc C,I xs acc C->dU n gB c ρ Q xs acc C:=by
 intro xs
 induction xs with
 |nil=>intro acc C h; exact fin acc C h
 |cons x r ih =>
  intro acc C h;obtain⟨ts,e,hn,st⟩:=step x r acc C h;exact⟨ts,e,hn,st _ fun y C2 z=>⟨z.1,ih _ _ z.2⟩⟩
section
variable {P:Program}{w:World}{K:PySem.W.Frag}{mg:Str->Option Value}{base:Heap}{a:Adr}
structure Sf (a:Adr)(C:CH)(x aa rr:Addr)(A R:Rds):Prop where
 ins:∃dx,C x=some (.ins a.Drawer dx [("answers",.ref aa),("asked",.ref rr)])
 ans:C aa=some (.dT A)
 ask:C rr=some (.dT R)
 ne:aa≠rr
theorem Sf.nx {C:CH}{x aa rr:Addr}{A R:Rds}(h:Sf a C x aa rr A R):x≠rr:=fun e=>by
 obtain⟨dx,h1⟩:=h.ins;rw[e,h.ask] at h1; cases h1
theorem Sf.keep {C C':CH}{x aa rr:Addr}{A R R':Rds}{S:List Addr}(h:Sf a C x aa rr A R)(e:ExS S C C')(hx:x∉S)(hn:aa∉S)(hk:C' rr=some (.dT R')):Sf a C' x aa rr A R' :=
 ⟨let ⟨dx,h1⟩:=h.ins; ⟨dx,e _ _ hx h1⟩,e _ _ hn h.ans,hk,h.ne⟩
theorem Sf.keep' {C C':CH}{x aa rr:Addr}{A R:Rds}{S:List Addr}(h:Sf a C x aa rr A R)(e:ExS S C C')(hx:x∉S)(hn:aa∉S)(hk:rr∉S):Sf a C' x aa rr A R :=
 h.keep e hx hn (e _ _ hk h.ask)
theorem Sf.rd {C C':CH}{x aa rr:Addr}{A R R':Rds}(h:Sf a C x aa rr A R)(e:ExS [rr] C C')(hk:C' rr=some (.dT R')):Sf a C' x aa rr A R' :=
 h.keep e (fun z=>h.nx (List.mem_singleton.1 z)) (fun z=>h.ne (List.mem_singleton.1 z)) hk
theorem Sf.new {C:CH}{x aa rr p:Addr}{A R:Rds}(h:Sf a C x aa rr A R)(hp:C p=none)(o:CO):Sf a (yQ C p o) x aa rr A R:=by
 have e:ExS [] C (yQ C p o):=ExS.refl.put hp o;exact h.keep' e (List.not_mem_nil) (List.not_mem_nil) (List.not_mem_nil)
theorem Sf.nd {C:CH}{x aa rr ct:Addr}{A R:Rds}{cs:List (Key×PV)}(h:Sf a C x aa rr A R)(m:C ct=some (.dK cs)):x≠ct/\aa≠ct/\rr≠ct:=by
 obtain⟨dx,h1⟩:=h.ins;refine⟨fun e=>?_,fun e=>?_,fun e=>?_⟩
 .rw [e,m] at h1; cases h1
 .have:=h.ans; rw[e,m] at this; cases this
 .have:=h.ask; rw[e,m] at this; cases this
theorem Sf.nl {C:CH}{x aa rr p:Addr}{A R:Rds}{xs:List PV}(h:Sf a C x aa rr A R)(m:C p=some (.lst xs)):x≠p/\aa≠p/\rr≠p:=by
 obtain⟨dx,h1⟩:=h.ins;refine⟨fun e=>?_,fun e=>?_,fun e=>?_⟩
 .rw [e,m] at h1; cases h1
 .have:=h.ans; rw[e,m] at this; cases this
 .have:=h.ask; rw[e,m] at this; cases this
theorem Sf.nn {C:CH}{x aa rr p:Addr}{A R:Rds}(h:Sf a C x aa rr A R)(m:C p=none):x≠p/\aa≠p/\rr≠p:=by
 obtain⟨dx,h1⟩:=h.ins;refine⟨fun e=>?_,fun e=>?_,fun e=>?_⟩
 .rw [e,m] at h1; cases h1
 .have:=h.ans; rw[e,m] at this; cases this
 .have:=h.ask; rw[e,m] at this; cases this
def gInit (a:Adr):GC:=fun ts C Q=>∃(x dx aa:Addr) (A:Rds),ts=[.ref x,.ref aa]/\C x=some (.ins a.Drawer dx [])/\C aa=some (.dT A)/\∀C' rr,C rr=none->Sf a C' x aa rr A []->ExS [x] C C'->Q .non C'
theorem ok_init (T:Txt P w K mg a):FnOk P w K mg base CX0 1 (a.f 39) (a.d 39) ["self","answers"] (spC K (gInit a)):=by
 have S:=(T.F 39 rfl).s
 refine(T.F 39 rfl).ok (fun ts C R h=>?_) fun cdv A outer s H E hr=>⟨_,(xQ (eI T.qX T.gY (cv 0) (cv 1))
  (kQ (eI T.qX T.vW (cv 0) Q9))),?_⟩
 .obtain ⟨_,_,_,_,rfl,_⟩:=h; rfl
 rintro ts C R ⟨x,dx,an,A,rfl,mx,man,q⟩;have ne:an≠x:=fun e=>by rw[e,mx] at man; cases man
 refine gA mx (by decide) ?_
 try dsimp only
 intro ak hak
 have hak0:C ak=none:=by
  rw[wQ (fun z=>by rw[z,jQ] at hak; cases hak)] at hak;exact hak
 have nk:ak≠x:=fun e=>by rw[e,mx] at hak0; cases hak0
 refine gA (p:=x) (by rw[wQ (Ne.symm nk)]; exact jQ) (by show 1 < 1000; decide) ?_;refine q _ ak hak0 ⟨⟨dx,?_⟩,?_,?_,fun e=>by rw[e,hak0] at man; cases man⟩ ?_
 .rw [jQ]
  rfl
 .rw [wQ ne,wQ (fun e=>by rw[e,hak0] at man; cases man),wQ ne]; exact man
 .rw [wQ nk]; exact jQ
 .exact ((ExS.refl.at List.mem_cons_self _).put hak0 _).at List.mem_cons_self _
def gDnum (a:Adr)(d:Nat):GC:=fun ts C Q=>∃(r:Rk) (x aa tt rr:Addr) (A:Rds) (τ:Tns) (R:Rds) (bs ns:List Str),ts=[.ref x,r.pv,.ref tt]/\r.ok bs ns d/\Sf a C x aa rr A R/\C tt=some (.dK τ)/\eG A τ bs ns/\RdOk bs R/\∀C',Sf a C' x aa rr A (r.rds A τ R)->ExS [rr] C C'->Q (.int (r.val A τ)) C'
theorem vU (T:Txt P w K mg a)(d:Nat):FnOk P w K mg base CX0 (d+4) (a.f 40) (a.d 40) ["self","reckoning","turns"] (spC K (gDnum a d)):=by
 have S:=(T.F 40 rfl).s;have aK:=zR (base:=base) T d;refine(T.F 40 rfl).ok (fun ts C R h=>?_) fun cdv A outer s H E hr=>⟨_,(kQ (pQ (cf (T.F 6 rfl) aK hr (qQ (cv 1) (qQ (yB T.qX T.gY (cv 0)) (qQ (cv 2) (ca1 (yB T.qX T.vW (cv 0))))))))),?_⟩
 .obtain ⟨r,_,_,_,_,_,_,_,_,_,rfl,_⟩:=h; rfl
 rintro ts C Q ⟨r,x,aa,tt,rr,A,τ,R,bs,ns,rfl,ok,sf,mtn,hS,hR,q⟩;obtain⟨dx,mx⟩:=sf.ins;refine mP mx rfl ?_;refine mP mx rfl ?_;refine⟨r,aa,tt,rr,A,τ,R,bs,ns,rfl,ok,⟨sf.ans,mtn,sf.ask,sf.ne⟩,hS,hR,fun C1 m1 x1=>?_⟩;exact q C1 (sf.rd x1 m1) x1
def X7 (a:Adr):GC:=fun ts C Q=>∃(ps:List (Str×Rk)) (x aa tt rr:Addr) (A:Rds) (τ:Tns) (R:Rds) (bs ns:List Str),ts=[.ref x,.tup (ps.map mV),.ref tt]/\aH bs ns 2 ps/\ps.length<=4/\Sf a C x aa rr A R/\C tt=some (.dK τ)/\eG A τ bs ns/\RdOk bs R /\
 ∀C' l,C l=none->C' l=some (.lst ((gJ A τ ps).map dQ))->Sf a C' x aa rr A (uV A τ ps R)->ExS [rr] C C'->Q (.ref l) C'
theorem qD (T:Txt P w K mg a):FnOk P w K mg base CX0 7 (a.f 41) (a.d 41) ["self","pairs","turns"] (spC K (X7 a)):=by
 have S:=(T.F 41 rfl).s;have jX:=vU (base:=base) T 2;refine(T.F 41 rfl).ok (fun ts C R h=>?_) fun cdv A outer s H E hr=>⟨_,(kQ (pQ (bW rfl (S.c (by decide +kernel)) (S.k rfl rfl rfl (by decide +kernel)) (tP (cv 1)) (fun _ _ _ _ _=>wK) (fun _ _ _ _ _=>(fQ (qQ (cx (cv 0) zQ) (ca1 (cm T.qX (T.F 40 rfl) T.pX jX hr (cv 1) (qQ (cx (cv 0) zQ) (ca1 (cv 3))))))))))),?_⟩
 .obtain ⟨_,_,_,_,_,_,_,_,_,_,rfl,_⟩:=h; rfl
 rintro ts C Q ⟨ps,x,aa,tt,rr,A,τ,R,bs,ns,rfl,hp,hl,sf,mtn,hS,hR,q⟩;have nt:tt∉[rr]:=fun z=>(sf.nd mtn).2.2 (List.mem_singleton.1 z).symm;refine yY (fun zs acc C1=>∃ds es:List (Str×Rk),ps=ds++es/\zs=es.map mV/\acc=(gJ A τ ds).map dQ/\Sf a C1 x aa rr A (uV A τ ds R)/\ExS [rr] C C1) ?_ ?_ _ _ _ ⟨[],ps,rfl,rfl,rfl,sf,ExS.refl⟩
 .rintro z zs acc C1 ⟨ds,es,e1,e2,rfl,sf1,x1⟩ L hL
  cases es with
  |nil=>cases e2
  |cons p es =>
   rw[List.map_cons] at e2;injection e2 with e2 e3
   subst e2 e3;obtain⟨dx,mx⟩:=sf1.ins;refine rX rfl ?_;refine⟨fX mx rfl,?_⟩;refine rX rfl ?_;refine⟨p.2,x,aa,tt,rr,A,τ,_,bs,ns,rfl,hp p (by rw[e1]; exact List.mem_append_right _ List.mem_cons_self),sf1,x1 _ _ nt mtn,hS,aW hS.a (fun y hy=>hp y (by rw[e1]; exact List.mem_append_left _ hy)) hR,fun C2 sf2 x2=>?_⟩;refine⟨by show 2<=sizeLine; decide,?_⟩;refine hL _ _ ⟨?_,ds++[p],es,by rw[e1,List.append_assoc]; rfl,rfl,by unfold gJ; rw[List.map_append,List.map_append]; rfl,?_,x1.trans x2⟩
   .rw [List.length_map]
    unfold gJ;rw[List.length_map];have:ds.length<=4:=by rw[e1,List.length_append] at hl; omega
    exact Nat.lt_of_le_of_lt this (by decide)
   .unfold uV at sf2 ⊢
    rw[List.foldl_append];exact sf2
 .rintro acc C1 ⟨ds,es,e1,e2,rfl,sf1,x1⟩ p hp0
  cases es with
  |cons _ _=>cases e2
  |nil =>
   rw[List.append_nil] at e1;subst e1;have p0:C p=none:=x1.none (fun z=>(sf1.nn hp0).2.2 (List.mem_singleton.1 z).symm) hp0;exact q _ p p0 jQ (sf1.new hp0 _) (x1.put p0 _)
theorem keyOf_keyPV (k:Key):jK (aV k)=some k:=by
 rcases k with (_ | i) | x<;>rfl
def gSpot (a:Adr):GC:=fun ts C Q=>∃(k:Option Rk) (x aa tt rr cc:Addr) (A:Rds) (τ:Tns) (R:Rds) (N:Tns) (bs ns:List Str),ts=[.ref x,lU k,.ref tt,.ref cc]/\bO bs ns k/\Sf a C x aa rr A R/\C tt=some (.dK τ)/\C cc=some (.dK N)/\CInts N/\N.length<=900/\eG A τ bs ns/\RdOk bs R /\
 ∀C',C' cc=some (.dK (wV N (fG A τ k)))->Sf a C' x aa rr A (cW A τ k R)->ExS [rr,cc] C C'->Q (mK (tV N (fG A τ k))) C'
theorem ok_spot (T:Txt P w K mg a):FnOk P w K mg base CX0 5 (a.f 46) (a.d 46) ["self","key","turns","counts"] (spC K (gSpot a)):=by
 have S:=(T.F 46 rfl).s;have jX:=vU (base:=base) T 0
 refine(T.F 46 rfl).ok (fun ts C R h=>?_) fun cdv A outer s H E hr=>⟨_,(xQ (cs1 4 S.nd (uE (ct2 Ji Q7 (cv 1) rG) rG (cm T.qX (T.F 40 rfl) T.pX jX hr (cv 0) (qQ (cv 1) (ca1 (cv 2))))))
  (xQ (cs1 5 S.nd (KQ (oX hr) (cv 3) (cv 4) zQ))
  (xQ (vK (oX hr) (cv 3) (cv 4) (eQ gX bX (cv 5) zQ))
  (kQ (pQ (fQ (qQ (cv 4) (ca1 (cv 5))))))))),?_⟩
 .obtain ⟨_,_,_,_,_,_,_,_,_,_,_,_,rfl,_⟩:=h; rfl
 rintro ts C Q ⟨ke,x,aa,tt,rr,cc,A,τ,R,N,bs,ns,rfl,hk,sf,mtn,mct,hc,hs,hS,hR,q⟩;obtain⟨n1,n2,n3⟩:=sf.nd mct
 have rest:∀C1,Sf a C1 x aa rr A (cW A τ ke R)->ExS [rr] C C1->pE (K3 5 (K7 (pZ 3) (pZ 4) (cC (.int 0)))) (pE (cDPut (pZ 3) (pZ 4) (cOp yS (pZ 5) (cC (.int 1)))) (cRet (Qe (yK (pZ 4) (yK (pZ 5) mF))))) { nx:=fun _ C'=>Q .non C',rt:=Q } [some (.ref x),some (lU ke),some (.ref tt),some (.ref cc),some (aV (fG A τ ke)),none] C1:=by
  intro C1 sf1 x1;have mct1:=x1 _ _ (fun z=>n3 (List.mem_singleton.1 z).symm) mct;refine uQ (i:=5) ?_;refine⟨Kc mct1,?_⟩;refine getD_g mct1 (keyOf_keyPV _) (cnt_is hc _) ?_
  try dsimp only
  refine vZ ?_;refine mW ?_;refine pW mct1 (keyOf_keyPV _) (by omega) ?_
  try dsimp only
  refine⟨by show 2<=sizeLine; decide,?_⟩;refine q _ jQ ?_ ((x1.mono fun b hb=>List.mem_cons.2 (.inl (List.mem_singleton.1 hb))).at (List.mem_cons_of_mem _ List.mem_cons_self) _);refine sf1.keep' (S:=[cc]) (ExS.refl.at List.mem_cons_self _) ?_ ?_ ?_
  .exact fun z=>n1 (List.mem_singleton.1 z)
  .exact fun z=>n2 (List.mem_singleton.1 z)
  .exact fun z=>n3 (List.mem_singleton.1 z)
 cases ke with
 |none=>exact rest C sf ExS.refl
 |some r =>
   obtain⟨dx,mx⟩:=sf.ins;have hr:∃xs,r.pv=.tup xs:=by cases r<;>exact⟨_,rfl⟩
   obtain⟨xs,hr⟩:=hr;have rest':=rest
   simp only[lU,hr] at rest' ⊢
   refine uQ (i:=4) ?_;refine if_i ?_;refine ZB rfl ?_;refine vM rfl ?_;refine⟨fX mx rfl,?_⟩;refine⟨r,x,aa,tt,rr,A,τ,R,bs,ns,by rw[hr],hk,sf,mtn,hS,hR,fun C1 sf1 x1=>?_⟩;exact rest' C1 sf1 x1
def gHand (a:Adr):GC:=fun ts C Q=>∃(h:Hd) (x aa tt rr:Addr) (A:Rds) (τ:Tns) (R:Rds) (bs ns:List Str),ts=[.ref x,h.pv,.ref tt]/\h.ok bs ns/\Sf a C x aa rr A R/\C tt=some (.dK τ)/\eG A τ bs ns/\RdOk bs R /\
 ∀C',Sf a C' x aa rr A (KI A τ h.ch R)->ExS [rr] C C'->Q (Kh A τ h).pv C'
theorem ok_hand (T:Txt P w K mg a):FnOk P w K mg base CX0 6 (a.f 47) (a.d 47) ["self","hand","turns"] (spC K (gHand a)):=by
 have S:=(T.F 47 rfl).s;have jX:=vU (base:=base) T 1
 refine(T.F 47 rfl).ok (fun ts C R h=>?_) fun cdv A outer s H E hr=>⟨_,(xQ (cs_setC (i:=3) S.nd rfl (Or.inl rfl) rfl (S.c (by decide +kernel)) (S.k rfl rfl rfl (by decide +kernel)) (tP (cx (cv 1) zQ)) (fun _ _ _ _ _=>wK) (fun _ _ _ _ _=>(fQ (qQ (cx (cv 0) zQ) (qQ (cx (cv 0) zQ) (ca1 (cm T.qX (T.F 40 rfl) T.pX jX hr (cv 1) (qQ (cx (cv 0) zQ) (ca1 (cv 3))))))))))
  (kQ (pQ (fQ (qQ (cx (cv 1) zQ) (qQ (cx (cv 1) zQ) (qQ (cx (cv 1) zQ) (ca1 (ctp T.eX (cv 3)))))))))),?_⟩
 .obtain ⟨_,_,_,_,_,_,_,_,_,_,rfl,_⟩:=h; rfl
 rintro ts C Q ⟨h,x,aa,tt,rr,A,τ,R,bs,ns,rfl,hh,sf,mtn,hS,hR,q⟩;have nt:tt∉[rr]:=fun z=>(sf.nd mtn).2.2 (List.mem_singleton.1 z).symm;refine uQ ?_;refine rX (v:=.tup (h.ch.map KJ)) rfl ?_;refine yY (fun zs acc C1=>∃ds es:List (Str×Str×Rk),h.ch=ds++es/\zs=es.map KJ/\acc=(Qa A τ ds).map cvPV/\Sf a C1 x aa rr A (KI A τ ds R)/\ExS [rr] C C1) ?_ ?_ _ _ _ ⟨[],h.ch,rfl,rfl,rfl,sf,ExS.refl⟩
 .rintro z zs acc C1 ⟨ds,es,e1,e2,rfl,sf1,x1⟩ L hL
  cases es with
  |nil=>cases e2
  |cons p es =>
   rw[List.map_cons] at e2;injection e2 with e2 e3
   subst e2 e3;obtain⟨dx,mx⟩:=sf1.ins;refine rX rfl ?_;refine rX rfl ?_;refine⟨fX mx rfl,?_⟩;refine rX rfl ?_;refine⟨p.2.2,x,aa,tt,rr,A,τ,_,bs,ns,rfl,hh.2 p (by rw[e1]; exact List.mem_append_right _ List.mem_cons_self),sf1,x1 _ _ nt mtn,hS,nR hS.a (fun y hy=>hh.2 y (by rw[e1]; exact List.mem_append_left _ hy)) hR,fun C2 sf2 x2=>?_⟩;refine⟨by show 3<=sizeLine; decide,?_⟩;refine hL _ _ ⟨?_,ds++[p],es,by rw[e1,List.append_assoc]; rfl,rfl,by unfold Qa; rw[List.map_append,List.map_append]; rfl,?_,x1.trans x2⟩
   .rw [List.length_map]
    unfold Qa;rw[List.length_map];have hl:=hh.1;have:ds.length<=4:=by rw[e1,List.length_append] at hl; omega
    exact Nat.lt_of_le_of_lt this (by decide)
   .unfold KI at sf2 ⊢
    rw[List.foldl_append];exact sf2
 .rintro acc C1 ⟨ds,es,e1,e2,rfl,sf1,x1⟩ p hp0
  cases es with
  |cons _ _=>cases e2
  |nil =>
   rw[List.append_nil] at e1;have p0:C p=none:=x1.none (fun z=>(sf1.nn hp0).2.2 (List.mem_singleton.1 z).symm) hp0
   try dsimp only
   refine rX (v:=.str h.ev) rfl ?_;refine rX (v:=.int h.rank) rfl ?_;refine rX (v:=.bl h.last) rfl ?_;refine cJ jQ ?_;refine⟨by show 4<=sizeLine; decide,?_⟩;have:=q _ (by rw[e1]; exact sf1.new hp0 _) (x1.put p0 (.lst ((Qa A τ ds).map cvPV)));unfold HdV.pv Kh at this;rw[e1] at this;exact this
end
structure S6 (a:Adr)(C:CH)(x aa rr tt ff cc:Addr)(A:Rds)(τ:Tns)(st:DSt):Prop where
 sf:Sf a C x aa rr A st.2.2
 mt:C tt=some (.dK τ)
 mf:C ff=some (.lst (Wt.pvs st.1))
 mc:C cc=some (.dK st.2.1)
 tc:tt≠cc
section
variable {a:Adr}{C C':CH}{x aa rr tt ff cc:Addr}{A:Rds}{τ:Tns}{st st':DSt}
theorem S6.fc (h:S6 a C x aa rr tt ff cc A τ st):ff≠cc:=fun z=>by have:=h.mf; rw[z,h.mc] at this; cases this
theorem S6.tf (h:S6 a C x aa rr tt ff cc A τ st):tt≠ff:=fun z=>by have:=h.mt; rw[z,h.mf] at this; cases this
theorem S6.fr (h:S6 a C x aa rr tt ff cc A τ st):ff≠rr:=fun z=>(h.sf.nl h.mf).2.2 z.symm
theorem S6.cr (h:S6 a C x aa rr tt ff cc A τ st):cc≠rr:=fun z=>(h.sf.nd h.mc).2.2 z.symm
theorem S6.tr (h:S6 a C x aa rr tt ff cc A τ st):tt≠rr:=fun z=>(h.sf.nd h.mt).2.2 z.symm
theorem S6.nt (h:S6 a C x aa rr tt ff cc A τ st):tt∉[ff,cc,rr]:=fun z=>by
 simp only[List.mem_cons,List.not_mem_nil,or_false] at z
 rcases z with z | z | z
 .exact h.tf z
 .exact h.tc z
 .exact h.tr z
theorem S6.rd (h:S6 a C x aa rr tt ff cc A τ st)(e:ExS [rr] C C'){R:Rds}(s:Sf a C' x aa rr A R):S6 a C' x aa rr tt ff cc A τ (st.1,st.2.1,R) :=
 ⟨s,e _ _ (fun z=>h.tr (List.mem_singleton.1 z)) h.mt,e _ _ (fun z=>h.fr (List.mem_singleton.1 z)) h.mf,e _ _ (fun z=>h.cr (List.mem_singleton.1 z)) h.mc,h.tc⟩
end
theorem fR {ff cc rr:Addr}{C C':CH}(h:ExS [rr] C C'):ExS [ff,cc,rr] C C':=h.mono fun b z=>by rw[List.mem_singleton.1 z]; simp
theorem vF {cc rr:Addr}{C C':CH}(h:ExS [rr] C C'):ExS [rr,cc] C C':=h.mono fun b z=>by rw[List.mem_singleton.1 z]; simp
theorem QW {ff cc rr:Addr}{C C':CH}(h:ExS [rr,cc] C C'):ExS [ff,cc,rr] C C':=h.mono fun b z=>by
 simp only[List.mem_cons,List.not_mem_nil,or_false] at z ⊢
 rcases z with z | z
 .exact .inr (.inr z)
 .exact .inr (.inl z)
theorem Xm {x y:PV}{r:List PV}:atI (x::y::r) 1=some y:=tG (xs:=x::y::r) (k:=1) (by simp)
theorem th_pv {l:Ln}(h:isTh l=true):∃(wd:Str) (rest:List PV),l.pv=.tup (.str wd::lU (mG l)::rest)/\decide (wd = "when")=false/\decide (wd = "each")=false:=by
 cases l with
 |plain k tag s hs ls=>exact⟨"plain",_,by rw[Ln.pv]; rfl,by decide,by decide⟩
 |part k n g=>exact⟨"part",_,by rw[Ln.pv]; rfl,by decide,by decide⟩
 |give k n r ls=>exact⟨"give",_,by rw[Ln.pv]; rfl,by decide,by decide⟩
 |when r l1 l2=>cases h
 |each n r ls=>cases h
def gBr (a:Adr)(d:Nat):GC:=fun ts C Q=>∃(ls:List Ln) (x aa tt rr ff cc:Addr) (A:Rds) (τ:Tns) (st:DSt) (bs rs ns:List Str),ts=[.ref x,.tup (Ln.pvs ls),.ref tt,.ref ff,.ref cc]/\(∀x∈ls,LnOk bs rs d ns x)/\st.1.length+Ln.tws ls<=400/\st.2.1.length+Ln.tws ls<=400/\τ.length+d<=50/\S6 a C x aa rr tt ff cc A τ st/\eG A τ bs ns/\RdOk bs st.2.2/\CInts st.2.1 /\
 ∀C',S6 a C' x aa rr tt ff cc A τ (rQ A ls τ st)->ExS [ff,cc,rr] C C'->Q .non C'
def gBrL (a:Adr)(d:Nat):GC:=fun ts C Q=>∃d',d=d'+1/\gBr a d' ts C Q
def gRow (a:Adr)(d:Nat):GC:=fun ts C Q=>∃(ls:List Ln) (x aa tt rr:Addr) (A:Rds) (τ:Tns) (R:Rds) (bs rs ns:List Str),ts=[.ref x,.tup (Ln.pvs ls),.ref tt]/\(∀x∈ls,LnOk bs rs d ns x)/\Ln.tws ls<=400/\τ.length+d<=50/\Sf a C x aa rr A R/\C tt=some (.dK τ)/\eG A τ bs ns/\RdOk bs R /\
 ∀C',Sf a C' x aa rr A (rQ A ls τ ([],[],R)).2.2->ExS [rr] C C'->Q (.tup (Wt.pvs (rQ A ls τ ([],[],R)).1)) C'
def gRowL (a:Adr)(d:Nat):GC:=fun ts C Q=>∃d',d=d'+1/\gRow a d' ts C Q
def gWant (a:Adr)(d:Nat):GC:=fun ts C Q=>∃(l:Ln) (x aa tt rr cc:Addr) (A:Rds) (τ:Tns) (R:Rds) (N:Tns) (bs rs ns:List Str),ts=[.ref x,l.pv,.ref tt,.ref cc]/\isTh l=true/\LnOk bs rs d ns l/\l.tw<=400/\τ.length+d<=50/\Sf a C x aa rr A R/\C tt=some (.dK τ)/\C cc=some (.dK N)/\tt≠cc/\CInts N/\N.length<=900/\eG A τ bs ns/\RdOk bs R /\
 ∀C',C' cc=some (.dK (wV N (fG A τ (mG l))))->Sf a C' x aa rr A (qB A τ (tV N (fG A τ (mG l))) l (cW A τ (mG l) R)).2->ExS [rr,cc] C C'->Q (qB A τ (tV N (fG A τ (mG l))) l (cW A τ (mG l) R)).1.pv C'
section
variable {P:Program}{w:World}{K:PySem.W.Frag}{mg:Str->Option Value}{base:Heap}{a:Adr}
theorem Jl (T:Txt P w K mg a){d k:Nat}(jJ:FnOk P w K mg base CX0 k (a.f 43) (a.d 43) ["self","lines","turns","row","counts"] (spC K (gBr a d))):FnOk P w K mg base CX0 (k+1) (a.f 42) (a.d 42) ["self","lines","turns"] (spC K (gRow a d)):=by
 have S:=(T.F 42 rfl).s
 refine(T.F 42 rfl).ok (fun ts C R h=>?_) fun cdv A outer s H E hr=>⟨_,(xQ (cs1 3 S.nd (nX yZ))
  (xQ (iX (cm T.qX (T.F 43 rfl) T.pX jJ hr (cv 0) (qQ (cv 1) (qQ (cv 2) (qQ (cv 3) (ca1 sR))))))
  (kQ (pQ (ctp T.eX (cv 3)))))),?_⟩
 .obtain ⟨_,_,_,_,_,_,_,_,_,_,_,rfl,_⟩:=h; rfl
 rintro ts C Q ⟨ls,x,aa,tt,rr,A,τ,R,bs,rs,ns,rfl,ok,htw,hτ,sf,mtn,hS,hR,q⟩;refine⟨by show 0<=sizeLine; decide,fun ff ff0=>?_⟩
 try dsimp only
 have sf1:=sf.new ff0 (.lst []);obtain⟨dx,mx⟩:=sf1.ins;refine vZ ?_;refine⟨fX mx rfl,?_⟩;intro cc cc0;have ncr:cc≠ff:=fun z=>by rw[z,jQ] at cc0; cases cc0
 have cc0':C cc=none:=by rw[wQ ncr] at cc0; exact cc0
 have sf2:=sf1.new cc0 (.dK []);have ntr:tt≠ff:=fun z=>by rw[z,ff0] at mtn; cases mtn
 have ntc:tt≠cc:=fun z=>by rw[z,cc0'] at mtn; cases mtn
 refine⟨ls,x,aa,tt,rr,ff,cc,A,τ,([],[],R),bs,rs,ns,rfl,ok,by show 0+_<=400; omega,by show 0+_<=400; omega,hτ,⟨sf2,by rw[wQ ntc,wQ ntr]; exact mtn,by rw[wQ (Ne.symm ncr)]; exact jQ,jQ,ntc⟩,hS,hR,(fun _ z=>nomatch z),fun C2 s2 e2=>?_⟩
 try dsimp only
 refine cJ s2.mf ?_;refine q C2 s2.sf fun b o hb hbo=>?_;have b1:b≠ff:=fun z=>by rw[z,ff0] at hbo; cases hbo
 have b2:b≠cc:=fun z=>by rw[z,cc0'] at hbo; cases hbo
 refine e2 b o (fun z=>?_) (by rw[wQ b2,wQ b1]; exact hbo)
 simp only[List.mem_cons,List.not_mem_nil,or_false] at z
 rcases z with z | z | z
 .exact b1 z
 .exact b2 z
 .exact hb (by rw[z]; exact List.mem_singleton.2 rfl)
theorem ok_want (T:Txt P w K mg a)(d k:Nat)(h7:7<=k)(lV:FnOk P w K mg base CX0 k (a.f 42) (a.d 42) ["self","lines","turns"] (spC K (gRowL a d))):FnOk P w K mg base CX0 (k+1) (a.f 45) (a.d 45) ["self","line","turns","counts"] (spC K (gWant a d)):=by
 have S:=(T.F 45 rfl).s;have qN:=(ok_spot (base:=base) T).mono (show 5<=k by omega);have jX:=(vU (base:=base) T 1).mono (show 5<=k by omega);have gK:=(qD (base:=base) T).mono h7;have zN:=(ok_hand (base:=base) T).mono (show 6<=k by omega)
 refine(T.F 45 rfl).ok (fun ts C R h=>?_) fun cdv A outer s H E hr=>⟨_,(xQ (cs1 4 S.nd (cm T.qX (T.F 46 rfl) T.pX qN hr (cv 0) (qQ (cx (cv 1) zQ) (qQ (cv 2) (ca1 (cv 3))))))
  (xQ (zX (ct2 mX iQ (cx (cv 1) zQ) vQ) (kQ (pQ (fQ (qQ vQ (qQ (cv 4) (qQ (cx (cv 1) zQ) (qQ (cm T.qX (T.F 40 rfl) T.pX jX hr (cv 0) (qQ (cx (cv 1) zQ) (ca1 (cv 2)))) (ca1 (cm T.qX (T.F 42 rfl) T.pX lV hr (cv 0) (qQ (cx (cv 1) zQ) (ca1 (cv 2)))))))))))) tQ)
  (xQ (cs1 5 S.nd (ctp T.eX (xZ (aY rfl) uB rfl T.mB rfl (ca1 (cm T.qX (T.F 41 rfl) T.pX gK hr (cv 0) (qQ (cx (cv 1) zQ) (ca1 (cv 2))))))))
  (xQ (zX (ct2 mX iQ (cx (cv 1) zQ) vQ) (kQ (pQ (fQ (qQ vQ (qQ (cv 4) (qQ (cx (cv 1) zQ) (ca1 (cv 5)))))))) tQ)
  (xQ (cs1 6 S.nd (ctp T.eX (bW rfl (S.c (by decide +kernel)) (S.k rfl rfl rfl (by decide +kernel)) (tP (cx (cv 1) zQ)) (fun _ _ _ _ _=>wK) (fun _ _ _ _ _=>(cm T.qX (T.F 47 rfl) T.pX zN hr (cv 1) (qQ (cv 0) (ca1 (cv 3))))))))
  (kQ (pQ (fQ (qQ vQ (qQ (cv 4) (qQ (cx (cv 1) zQ) (qQ (cv 5) (qQ (cv 6) (ca1 (cm T.qX (T.F 42 rfl) T.pX lV hr (cv 0) (qQ (cx (cv 1) zQ) (ca1 (cv 2)))))))))))))))))),?_⟩
 .obtain ⟨_,_,_,_,_,_,_,_,_,_,_,_,_,rfl,_⟩:=h; rfl
 rintro ts C Q ⟨l,x,aa,tt,rr,cc,A,τ,R,N,bs,rs,ns,rfl,hth,ok,htw,hτ,sf,mtn,mct,ntc,hc,hs,hS,hR,q⟩;obtain⟨dx,mx⟩:=sf.ins;obtain⟨n1,n2,n3⟩:=sf.nd mct
 have nta:tt∉[rr,cc]:=fun z=>by
  rcases List.mem_cons.1 z with z | z
  .exact (sf.nd mtn).2.2 z.symm
  .exact ntc (List.mem_singleton.1 z)
 have nta':tt∉[rr]:=fun z=>nta (List.mem_cons.2 (.inl (List.mem_singleton.1 z)));have nca:cc∉[rr]:=fun z=>n3 (List.mem_singleton.1 z).symm
 cases d with
 |zero=>exact ok.elim
 |succ d =>
 cases l with
 |when r l1 l2=>cases hth
 |each n r ls=>cases hth
 |give kk n rk ls =>
  obtain⟨h1,h2,h3,h4',h5⟩:=ok;unfold Ln.pv;refine⟨fX mx rfl,?_⟩;refine rX (v:=lU kk) rfl ?_;refine⟨kk,x,aa,tt,rr,cc,A,τ,R,N,bs,ns,rfl,h1,sf,mtn,mct,hc,hs,hS,hR,fun C1 m1 sf1 x1=>?_⟩
  try dsimp only
  have mtn1:=x1 _ _ nta mtn;have R1:=wU (τ:=τ) hS.a h1 hR;obtain⟨dx1,mx1⟩:=sf1.ins;refine vZ ?_;refine rX sQ ?_;refine xX (lQ _ _) ?_;refine pK (by decide) ?_;refine rX (v:=.str n) rfl ?_;refine⟨fX mx1 rfl,?_⟩;refine rX (v:=rk.pv) rfl ?_;refine⟨rk,x,aa,tt,rr,A,τ,_,bs,ns,rfl,h3,sf1,mtn1,hS,R1,fun C2 sf2 x2=>?_⟩;have mtn2:=x2 _ _ nta' mtn1;obtain⟨dx2,mx2⟩:=sf2.ins;refine⟨fX mx2 rfl,?_⟩;refine rX (v:=.tup (Ln.pvs ls)) rfl ?_
  have htw':1+Ln.tws ls<=400:=htw;refine⟨d,rfl,ls,x,aa,tt,rr,A,τ,_,bs,rs,ns,rfl,h4',by omega,by omega,sf2,mtn2,hS,qV hS.a h3 R1,fun C3 sf3 x3=>?_⟩;refine⟨by show 5<=sizeLine; decide,?_⟩;have:=q C3 (x3 _ _ nca (x2 _ _ nca m1)) sf3 ((x1.trans (vF x2)).trans (vF x3));unfold qB Wt.pv at this;exact this
 |part kk n g =>
  obtain⟨h1,h2,h3,h4'⟩:=ok;unfold Ln.pv;refine⟨fX mx rfl,?_⟩;refine rX (v:=lU kk) rfl ?_;refine⟨kk,x,aa,tt,rr,cc,A,τ,R,N,bs,ns,rfl,h1,sf,mtn,mct,hc,hs,hS,hR,fun C1 m1 sf1 x1=>?_⟩
  try dsimp only
  have mtn1:=x1 _ _ nta mtn;have R1:=wU (τ:=τ) hS.a h1 hR;obtain⟨dx1,mx1⟩:=sf1.ins;refine vZ ?_;refine rX sQ ?_;refine xX (lQ _ _) ?_;refine qZ (by decide) ?_;refine vX ?_
  try dsimp only
  refine uQ (i:=5) ?_;refine⟨fX mx1 rfl,?_⟩;refine rX (v:=.tup (g.map mV)) rfl ?_;refine⟨g,x,aa,tt,rr,A,τ,_,bs,ns,rfl,fun y hy=>(h3 y hy).mono (by decide),h4',sf1,mtn1,hS,R1,fun C2 p p0 m2 sf2 x2=>?_⟩;refine mL m2 (by unfold gJ; rw[List.length_map]; omega) fun p2 p20=>?_;refine cJ jQ ?_
  try dsimp only
  refine vZ ?_;refine rX sQ ?_;refine xX (lQ _ _) ?_;refine pK (by decide) ?_;refine rX (v:=.str n) rfl ?_;refine⟨by show 4<=sizeLine; decide,?_⟩;have npc:cc≠p2:=fun z=>by have:=x2 _ _ nca m1; rw[z,p20] at this; cases this
  have:=q (yQ C2 p2 (.lst ((dW (gJ A τ g)).map dQ))) (by rw[wQ npc]; exact x2 _ _ nca m1) (sf2.new p20 _) (by
   intro b o hb hbo;have h2:=(x1.trans (vF x2)) b o hb hbo;rw[wQ (fun z=>by rw[z,p20] at h2; cases h2)]
   exact h2)
  unfold qB Wt.pv at this;exact this
 |plain kk tag ss hs' ls =>
  obtain⟨h1,h2,h3,h4',h5⟩:=ok;unfold Ln.pv;generalize hl0:PV.tup [PV.str "plain",lU kk,PV.str tag,PV.tup (List.map mV ss),PV.tup (List.map Hd.pv hs'),PV.tup (Ln.pvs ls)]=lp
  have ilp:∀(i:Int) (v:PV) (C':CH) (Q':K1),atI [PV.str "plain",lU kk,PV.str tag,PV.tup (List.map mV ss),PV.tup (List.map Hd.pv hs'),PV.tup (Ln.pvs ls)] i=some v->Q' v C'->cIx lp (.int i) C' Q':=by
   intro i v C' Q' e h;rw[<- hl0];exact rX e h
  refine⟨fX mx rfl,?_⟩;refine ilp 1 (lU kk) _ _ rfl ?_;refine⟨kk,x,aa,tt,rr,cc,A,τ,R,N,bs,ns,rfl,h1,sf,mtn,mct,hc,hs,hS,hR,fun C1 m1 sf1 x1=>?_⟩
  try dsimp only
  have mtn1:=x1 _ _ nta mtn;have R1:=wU (τ:=τ) hS.a h1 hR;obtain⟨dx1,mx1⟩:=sf1.ins;refine vZ ?_;refine ilp 0 (.str "plain") _ _ rfl ?_;refine xX (lQ _ _) ?_;refine qZ (by decide) ?_;refine vX ?_
  try dsimp only
  refine uQ (i:=5) ?_;refine⟨fX mx1 rfl,?_⟩;refine ilp 3 (.tup (ss.map mV)) _ _ rfl ?_;refine⟨ss,x,aa,tt,rr,A,τ,_,bs,ns,rfl,h2.1,h2.2,sf1,mtn1,hS,R1,fun C2 p p0 m2 sf2 x2=>?_⟩;have hl2:=h2.2;refine mL m2 (by unfold gJ; rw[List.length_map]; omega) fun p2 p20=>?_;refine cJ jQ ?_
  try dsimp only
  refine vZ ?_;refine ilp 0 (.str "plain") _ _ rfl ?_;refine xX (lQ _ _) ?_;refine qZ (by decide) ?_;refine vX ?_
  try dsimp only
  have R2:=aW (τ:=τ) hS.a h2.1 R1;have mct2:=x2 _ _ nca m1;have mtn2:=x2 _ _ nta' mtn1;have x12:=x1.trans (vF (cc:=cc) x2);have sf3:=sf2.new p20 (.lst ((dW (gJ A τ ss)).map dQ));have mct3:(yQ C2 p2 (.lst ((dW (gJ A τ ss)).map dQ))) cc=some (.dK (wV N (fG A τ kk))):=Gr.new p20 _ _ _ mct2;have mtn3:(yQ C2 p2 (.lst ((dW (gJ A τ ss)).map dQ))) tt=some (.dK τ):=Gr.new p20 _ _ _ mtn2;have x3:ExS [rr,cc] C (yQ C2 p2 (.lst ((dW (gJ A τ ss)).map dQ))):=fun b o hb hbo=>Gr.new p20 _ _ _ (x12 b o hb hbo)
  generalize yQ C2 p2 (.lst ((dW (gJ A τ ss)).map dQ))=C3 at sf3 mct3 mtn3 x3 ⊢;refine uQ (i:=6) ?_;refine ilp 4 (.tup (hs'.map Hd.pv)) _ _ rfl ?_;refine yY (fun zs acc C4=>∃ds es:List Hd,hs'=ds++es/\zs=es.map Hd.pv/\acc=(xV A τ ds).map HdV.pv/\Sf a C4 x aa rr A (zW A τ ds (uV A τ ss (cW A τ kk R)))/\ExS [rr] C3 C4) ?_ ?_ _ _ _ ⟨[],hs',rfl,rfl,rfl,sf3,ExS.refl⟩
  .rintro z zs acc C4 ⟨ds,es,e1,e2,rfl,sf4,x4⟩ L hL
   cases es with
   |nil=>cases e2
   |cons u es =>
    obtain⟨rfl,rfl⟩:=List.cons.inj e2;obtain⟨dx4,mx4⟩:=sf4.ins;refine⟨fX mx4 rfl,?_⟩;refine⟨u,x,aa,tt,rr,A,τ,_,bs,ns,rfl,h3.1 u (by rw[e1]; exact List.mem_append_right _ List.mem_cons_self),sf4,x4 _ _ nta' mtn3,hS,yU hS.a (fun y hy=>h3.1 y (by rw[e1]; exact List.mem_append_left _ hy)) R2,fun C5 sf5 x5=>?_⟩;refine hL _ _ ⟨?_,ds++[u],es,by rw[e1,List.append_assoc]; rfl,rfl,by unfold xV; rw[List.map_append,List.map_append]; rfl,?_,x4.trans x5⟩
    .rw [List.length_map]
     unfold xV;rw[List.length_map];have hl:=h3.2;have:ds.length<=4:=by rw[e1,List.length_append] at hl; omega
     exact Nat.lt_of_le_of_lt this (by decide)
    .unfold zW at sf5 ⊢
     rw[List.foldl_append];exact sf5
  .rintro acc C4 ⟨ds,es,e1,e2,rfl,sf4,x4⟩ p4 p40
   cases es with
   |cons _ _=>cases e2
   |nil =>
    rw[List.append_nil] at e1;subst e1;refine cJ jQ ?_
    try dsimp only
    have sf5:=sf4.new p40 (.lst ((xV A τ hs').map HdV.pv));have mct5:(yQ C4 p4 (.lst ((xV A τ hs').map HdV.pv))) cc=some (.dK (wV N (fG A τ kk))):=Gr.new p40 _ _ _ (x4 _ _ nca mct3);have mtn5:(yQ C4 p4 (.lst ((xV A τ hs').map HdV.pv))) tt=some (.dK τ):=Gr.new p40 _ _ _ (x4 _ _ nta' mtn3);have x5:ExS [rr,cc] C (yQ C4 p4 (.lst ((xV A τ hs').map HdV.pv))):=fun b o hb hbo=>Gr.new p40 _ _ _ ((vF (cc:=cc) x4) b o hb (x3 b o hb hbo))
    generalize yQ C4 p4 (.lst ((xV A τ hs').map HdV.pv))=C5 at sf5 mct5 mtn5 x5 ⊢;obtain⟨dx5,mx5⟩:=sf5.ins;refine ilp 2 (.str tag) _ _ rfl ?_;refine⟨fX mx5 rfl,?_⟩;refine ilp 5 (.tup (Ln.pvs ls)) _ _ rfl ?_;have htw':1+Ln.tws ls<=400:=htw;refine⟨d,rfl,ls,x,aa,tt,rr,A,τ,_,bs,rs,ns,rfl,h4',by omega,by omega,sf5,mtn5,hS,yU hS.a h3.1 R2,fun C6 sf6 x6=>?_⟩;refine⟨by show 6<=sizeLine; decide,?_⟩;have:=q C6 (x6 _ _ nca mct5) sf6 (x5.trans (vF x6))
    unfold qB Wt.pv at this;exact this
end
theorem TBd.put {τ:Tns}(h:TBd τ)(k:Key){i:Int}(hi:Bd i):TBd (fZ τ k (.int i)):=by
 intro kv hk;unfold fZ at hk
 split at hk
 .obtain ⟨x,hx,rfl⟩:=List.mem_map.1 hk
  split
  .exact ⟨i,rfl,hi⟩
  .exact h x hx
 .rcases List.mem_append.1 hk with hk | hk
  .exact h kv hk
  .cases List.mem_singleton.1 hk; exact⟨i,rfl,hi⟩
def Km (a:Adr)(d:Nat):GC:=fun ts C Q=>∃(n:Str) (rk:Rk) (l1:List Ln) (x aa tt rr ff cc:Addr) (A:Rds) (τ:Tns) (st:DSt) (bs rs ns:List Str),ts=[.ref x,(Ln.each n rk l1).pv,.ref tt,.ref ff,.ref cc]/\LnOk bs rs d ns (.each n rk l1)/\st.1.length+(Ln.each n rk l1).tw<=400/\st.2.1.length+(Ln.each n rk l1).tw<=400/\τ.length+d<=50/\S6 a C x aa rr tt ff cc A τ st/\eG A τ bs ns/\RdOk bs st.2.2/\CInts st.2.1 /\
 ∀C',S6 a C' x aa rr tt ff cc A τ (tX A (.each n rk l1) τ st)->ExS [ff,cc,rr] C C'->Q .non C'
section
variable {P:Program}{w:World}{K:PySem.W.Frag}{mg:Str->Option Value}{base:Heap}{a:Adr}
theorem Ju (T:Txt P w K mg a)(d k:Nat)(h7:7<=k)(jJ:FnOk P w K mg base CX0 k (a.f 43) (a.d 43) ["self","lines","turns","row","counts"] (spC K (gBrL a d))):FnOk P w K mg base CX0 (k+1) (a.f 44) (a.d 44) ["self","line","turns","row","counts"] (spC K (Km a d)):=by
 have S:=(T.F 44 rfl).s;have jX:=(vU (base:=base) T 2).mono (show 6<=k by omega)
 refine(T.F 44 rfl).ok (fun ts C R h=>?_) fun cdv A outer s H E hr=>⟨_,(xQ (cs1 5 S.nd (xZ (xC rfl) Xc rfl T.z_min rfl (qQ (eD (v:=.int 8) (t:=.int 8) rfl T.tO ⟨_,rfl⟩ (fun _=>.int _)) (ca1 (cm T.qX (T.F 40 rfl) T.pX jX hr (cv 0) (qQ (cx (cv 1) zQ) (ca1 (cv 2))))))))
  (kQ (sD PassesOwn.never rfl rfl T.nK (ca1 (cv 5)) (cg1 6 S.nd) (xQ (cs1 7 S.nd (kJ Qd Zf rfl T.eE rfl (ca1 (cv 2))))
  (xQ (vK (oX hr) (cv 7) (cx (cv 1) zQ) (cv 6))
  (kQ (iX (cm T.qX (T.F 43 rfl) T.pX jJ hr (cv 0) (qQ (cx (cv 1) zQ) (qQ (cv 7) (qQ (cv 3) (ca1 (cv 4))))))))))))),?_⟩
 .obtain ⟨_,_,_,_,_,_,_,_,_,_,_,_,_,_,_,rfl,_⟩:=h; rfl
 rintro ts C Q ⟨n,rk,l1,x,aa,tt,rr,ff,cc,A,τ,st1,bs,rs,ns,rfl,hu,hF,hN,hτ,s1,hS,R1,C1i,q⟩
 cases d with
 |zero=>exact hu.elim
 |succ d' =>
 obtain⟨ork,o1,_⟩:=hu;have ep:(Ln.each n rk l1).pv=.tup [.str "each",.str n,rk.pv,.tup (Ln.pvs l1)]:=by rw[Ln.pv]
 have etw:(Ln.each n rk l1).tw=8 * Ln.tws l1:=by rw[Ln.tw]
 have hS0:eG A τ bs []:=⟨hS.a,hS.t,(fun _ z=>nomatch z),hS.b⟩;obtain⟨dx,mx⟩:=s1.sf.ins;refine⟨fX mx rfl,?_⟩;refine wX ep (v:=rk.pv) rfl ?_;refine⟨rk,x,aa,tt,rr,A,τ,_,bs,[],rfl,ork.mono (by decide),s1.sf,s1.mt,hS0,R1,fun C2 sf2 e2=>?_⟩;refine min_s ?_
 try dsimp only
 have bd:=yL hS0.a hS0.t hS0.h ork;unfold Bd at bd;refine⟨by split<;>omega,by split<;>omega,?_⟩;have R2:=qV (τ:=τ) hS.a ork R1;have s2:=s1.rd e2 sf2;show jG _ _ _ ((List.range (gD (rk.val A τ))).map fun k=>PV.int (k:Nat)) _ _;generalize hcap:gD (rk.val A τ)=n8;have hn8:n8<=8:=by rw[<- hcap]; exact bM _
 let f:DSt->Nat->DSt:=fun st k=>rQ A l1 (fZ τ (.inr n) (.int (k:Nat))) st
 let st0:DSt:=(st1.1,st1.2.1,rk.rds A τ st1.2.2)
 refine oJ (fun zs ρ C'=>∃(j:Nat) (x6 x7:Option PV),j<=n8/\zs=((List.range n8).drop j).map (fun k:Nat=>PV.int (k:Nat))/\ρ=[some (.ref x),some (Ln.each n rk l1).pv,some (.ref tt),some (.ref ff),some (.ref cc),some (.int (if rk.val A τ < 8 then rk.val A τ else 8)),x6,x7]/\S6 a C' x aa rr tt ff cc A τ ((List.range j).foldl f st0)/\ExS [ff,cc,rr] C C') ?_ ?_ _ _ _ ⟨0,_,_,Nat.zero_le _,rfl,rfl,s2,fR e2⟩
 .rintro z zs ρ C3 ⟨j,y9,y10,hj,hz,rfl,s3,e3⟩ L3 hL3
  obtain⟨hjn,rfl,rfl⟩:=nU hz;refine uQ ?_;refine dictK_s s3.mt fun ia hia=>?_
  try dsimp only
  refine vZ ?_;refine wX ep (v:=.str n) rfl ?_;refine pW (k:=.inr n) jQ rfl (by omega) ?_
  try dsimp only
  have ne1:∀b o,C3 b=some o->b≠ia:=fun b o h z=>by rw[z,hia] at h; cases h
  have g1:=rY (f:=f) (m:=fun st=>st.1.length) (c:=Ln.tws l1) (fun x k=>(qJ A l1 _ x).1) (List.range j) st0;have g2:=rY (f:=f) (m:=fun st=>st.2.1.length) (c:=Ln.tws l1) (fun x k=>(qJ A l1 _ x).2) (List.range j) st0;rw[List.length_range] at g1 g2
  have hm:j * Ln.tws l1+Ln.tws l1<=8 * Ln.tws l1:=by
   have:(j+1) * Ln.tws l1<=8 * Ln.tws l1:=Nat.mul_le_mul_right _ (by omega);rw[Nat.add_mul,Nat.one_mul] at this;exact this
  have g1:((List.range j).foldl f st0).1.length<=st1.1.length+j * Ln.tws l1:=g1;have g2:((List.range j).foldl f st0).2.1.length<=st1.2.1.length+j * Ln.tws l1:=g2;have R3:RdOk bs ((List.range j).foldl f st0).2.2:=dG (P:=fun st:DSt=>RdOk bs st.2.2) (fun x k p=>pF hS.a o1 p) _ _ R2;have N3:CInts ((List.range j).foldl f st0).2.1:=dG (P:=fun st:DSt=>CInts st.2.1) (fun x k p=>uY A l1 _ x p) _ _ C1i;have t3:TBd (fZ τ (.inr n) (.int (j:Nat))):=hS.t.put _ (by unfold Bd; omega)
  have hS3:eG A (fZ τ (.inr n) (.int (j:Nat))) bs [n]:=⟨hS.a,t3,fun m hm=>by
   cases List.mem_singleton.1 hm
   rw[pC,if_pos rfl]; rfl,hS.b⟩
  have hlen:(fZ τ (.inr n) (.int (j:Nat))).length<=τ.length+1:=eB _ _ _;have x4:ExS [ff,cc,rr] C3 (yQ (yQ C3 ia (.dK τ)) ia (.dK (fZ τ (.inr n) (.int (j:Nat))))):=(ExS.refl.put hia _).put hia _;have up:∀b o,C3 b=some o->yQ (yQ C3 ia (.dK τ)) ia (.dK (fZ τ (.inr n) (.int (j:Nat)))) b=some o:=fun b o h=>by rw[wQ (ne1 b o h),wQ (ne1 b o h)]; exact h
  have m4:yQ (yQ C3 ia (.dK τ)) ia (.dK (fZ τ (.inr n) (.int (j:Nat)))) ia=some (.dK (fZ τ (.inr n) (.int (j:Nat)))):=jQ;generalize yQ (yQ C3 ia (.dK τ)) ia (.dK (fZ τ (.inr n) (.int (j:Nat))))=C4 at x4 up m4 ⊢;have sf4:Sf a C4 x aa rr A ((List.range j).foldl f st0).2.2:=s3.sf.keep' (S:=[]) (fun b o _ h=>up b o h) List.not_mem_nil List.not_mem_nil List.not_mem_nil;have s4:S6 a C4 x aa rr ia ff cc A (fZ τ (.inr n) (.int (j:Nat))) ((List.range j).foldl f st0):=⟨sf4,m4,up _ _ s3.mf,up _ _ s3.mc,Ne.symm (ne1 _ _ s3.mc)⟩
  obtain⟨dx4,mx4⟩:=sf4.ins;refine⟨fX mx4 rfl,?_⟩;refine wX ep (v:=.tup (Ln.pvs l1)) rfl ?_;refine⟨d',rfl,l1,x,aa,ia,rr,ff,cc,A,_,_,bs,rs,[n],rfl,o1,by omega,by omega,by omega,s4,hS3,R3,N3,fun C5 s5 e5=>?_⟩;refine hL3 _ _ ⟨j+1,_,_,hjn,rfl,rfl,?_,e3.trans (x4.trans e5)⟩;have ef:(List.range (j+1)).foldl f st0=f ((List.range j).foldl f st0) j:=by rw[List.range_succ,List.foldl_append]; rfl
  rw[ef];exact⟨s5.sf,(x4.trans e5) _ _ s3.nt s3.mt,s5.mf,s5.mc,s3.tc⟩
 .rintro ρ C3 ⟨j,y9,y10,hj,hz,rfl,s3,e3⟩
  have ej:j=n8:=by
   rcases Nat.lt_or_ge j n8 with h | h
   .rw [List.drop_eq_getElem_cons (by rw[List.length_range]; exact h)] at hz
    cases hz
   .omega
  subst ej;refine q C3 ?_ e3;rw[tX,hcap];exact s3
theorem qO (T:Txt P w K mg a)(d k:Nat)(h7:7<=k)
  (jJ:FnOk P w K mg base CX0 k (a.f 43) (a.d 43) ["self","lines","turns","row","counts"] (spC K (gBrL a d)))
  (iH:FnOk P w K mg base CX0 k (a.f 45) (a.d 45) ["self","line","turns","counts"] (spC K (gWant a d)))
  (hU:FnOk P w K mg base CX0 k (a.f 44) (a.d 44) ["self","line","turns","row","counts"] (spC K (Km a d))) :
  FnOk P w K mg base CX0 (k+1) (a.f 43) (a.d 43) ["self","lines","turns","row","counts"] (spC K (gBr a d)):=by
 have S:=(T.F 43 rfl).s;have jX:=(vU (base:=base) T 2).mono (show 6<=k by omega)
 refine(T.F 43 rfl).ok (fun ts C R h=>?_) fun cdv A outer s H E hr=>⟨_,(kQ (uM PassesOwn.never rfl (cv 1) (cg1 5 S.nd) (kQ (zX (ct2 mX iQ (cx (cv 5) zQ) vQ) (xQ (cs1 6 S.nd (uE (ct2 mX iQ (cm T.qX (T.F 40 rfl) T.pX jX hr (cv 0) (qQ (cx (cv 5) zQ) (ca1 (cv 2)))) zQ) (cx (cv 5) zQ) (cx (cv 5) zQ)))
  (kQ (iX (cm T.qX (T.F 43 rfl) T.pX jJ hr (cv 0) (qQ (cv 6) (qQ (cv 2) (qQ (cv 3) (ca1 (cv 4))))))))) (kQ (zX (ct2 mX iQ (cx (cv 5) zQ) vQ) (kQ (iX (cm T.qX (T.F 44 rfl) T.pX hU hr (cv 0) (qQ (cv 5) (qQ (cv 2) (qQ (cv 3) (ca1 (cv 4)))))))) (kQ (iX (cap (cv 3) (cm T.qX (T.F 45 rfl) T.pX iH hr (cv 0) (qQ (cv 5) (qQ (cv 2) (ca1 (cv 4)))))))))))))),?_⟩
 .obtain ⟨_,_,_,_,_,_,_,_,_,_,_,_,_,rfl,_⟩:=h; rfl
 rintro ts C Q ⟨ls,x,aa,tt,rr,ff,cc,A,τ,st,bs,rs,ns,rfl,ok,hF,hN,hτ,hE,hS,hR,hC,q⟩;refine bP rfl ?_;refine oJ (fun zs ρ C'=>∃(ds us:List Ln) (x5 x6:Option PV),ls=ds++us/\zs=Ln.pvs us/\ρ=[some (.ref x),some (.tup (Ln.pvs ls)),some (.ref tt),some (.ref ff),some (.ref cc),x5,x6]/\S6 a C' x aa rr tt ff cc A τ (rQ A ds τ st)/\ExS [ff,cc,rr] C C') ?_ ?_ _ _ _ ⟨[],ls,_,_,rfl,rfl,rfl,by rw[hZ]; exact hE,ExS.refl⟩
 .rintro z zs ρ C1 ⟨ds,us,x5,x6,e,hz,rfl,s1,e1⟩ L hL
  cases us with
  |nil=>cases hz
  |cons u us =>
  obtain⟨rfl,rfl⟩:=List.cons.inj (show z::zs=u.pv::Ln.pvs us from hz);have hu:LnOk bs rs d ns u:=ok u (by rw[e]; exact List.mem_append_right _ List.mem_cons_self);have htw:Ln.tws ls=Ln.tws ds+(u.tw+Ln.tws us):=by rw[e,Ln.tws_app]; rfl
  have len1:=qJ A ds τ st;have R1:RdOk bs (rQ A ds τ st).2.2:=pF hS.a (fun x hx=>ok x (by rw[e]; exact List.mem_append_left _ hx)) hR;have C1i:=uY A ds τ st hC
  have fin:∀C' x5 x6,S6 a C' x aa rr tt ff cc A τ (tX A u τ (rQ A ds τ st))->ExS [ff,cc,rr] C1 C'->L [some (.ref x),some (.tup (Ln.pvs ls)),some (.ref tt),some (.ref ff),some (.ref cc),x5,x6] C':=by
   intro C' y5 y6 h1 h2;refine hL _ _ ⟨ds++[u],us,y5,y6,by rw[List.append_assoc]; exact e,rfl,rfl,?_,e1.trans h2⟩;rw[jI,uZ,hZ];exact h1
  clear hL;generalize hst:rQ A ds τ st=st1 at s1 len1 R1 C1i fin;obtain⟨dx1,mx1⟩:=s1.sf.ins
  by_cases hth:isTh u=true
  .obtain ⟨wd,rest,ep,n1,n2⟩:=th_pv hth
   refine wX ep sQ ?_;refine xX (lQ _ _) ?_;refine qZ (by rw[n1]; rfl) ?_;refine wX ep sQ ?_;refine xX (lQ _ _) ?_;refine qZ (by rw[n2]; rfl) ?_;refine⟨zG s1.mf,?_⟩;refine⟨fX mx1 rfl,?_⟩;refine⟨u,x,aa,tt,rr,cc,A,τ,_,_,bs,rs,ns,rfl,hth,hu,by omega,hτ,s1.sf,s1.mt,s1.mc,s1.tc,C1i,by have:=len1.2; omega,hS,R1,fun C2 m2 sf2 x2=>?_⟩
   have nf:ff∉[rr,cc]:=fun z=>by
    simp only[List.mem_cons,List.not_mem_nil,or_false] at z
    rcases z with z | z
    .exact s1.fr z
    .exact s1.fc z
   have mf2:=x2 _ _ nf s1.mf;refine vH mf2 (by rw[Wt.pvs_len]; have:=len1.1; exact Nat.lt_of_le_of_lt (show st1.1.length<=400 by omega) (by decide)) ?_;have eo:=zI A τ u st1.1 st1.2.1 st1.2.2 hth;have nl:=sf2.nl mf2;refine fin _ _ _ ?_ ((QW x2).at (by simp) _);rw[show st1=(st1.1,st1.2.1,st1.2.2) from rfl,eo];refine⟨sf2.keep' (S:=[ff]) (ExS.refl.at List.mem_cons_self _) (fun z=>nl.1 (List.mem_singleton.1 z)) (fun z=>nl.2.1 (List.mem_singleton.1 z)) (fun z=>nl.2.2 (List.mem_singleton.1 z)),?_,by rw[jQ,Wt.pvs_app]; rfl,by rw[wQ (Ne.symm s1.fc)]; exact m2,s1.tc⟩
   rw[wQ s1.tf];exact(QW x2) _ _ s1.nt s1.mt
  .cases u with
   |plain k tag s hs ls=>exact absurd rfl hth
   |part k n g=>exact absurd rfl hth
   |give k n r ls=>exact absurd rfl hth
   |when rk l1 l2 =>
    cases d with
    |zero=>exact hu.elim
    |succ d' =>
    obtain⟨ork,⟨o1,_⟩,o2,_⟩:=hu;have ep:(Ln.when rk l1 l2).pv=.tup [.str "when",rk.pv,.tup (Ln.pvs l1),.tup (Ln.pvs l2)]:=by rw[Ln.pv]
    have etw:(Ln.when rk l1 l2).tw=Ln.tws l1+Ln.tws l2:=by rw[Ln.tw]
    refine wX ep sQ ?_;refine xX (lQ _ _) ?_;refine pK (by decide) ?_;refine uQ ?_;refine if_i ?_;refine⟨fX mx1 rfl,?_⟩;refine wX ep (v:=rk.pv) rfl ?_;refine⟨rk,x,aa,tt,rr,A,τ,_,bs,ns,rfl,ork.mono (by decide),s1.sf,s1.mt,hS,R1,fun C2 sf2 e2=>?_⟩;have R2:=qV (τ:=τ) hS.a ork R1;have s2:=s1.rd e2 sf2;obtain⟨dx2,mx2⟩:=sf2.ins;refine xX (aX _ _) ?_
    by_cases h0:rk.val A τ=0
    .refine pK (decide_eq_true h0) ?_
     refine wX ep (v:=.tup (Ln.pvs l2)) rfl ?_
     try dsimp only
     refine⟨fX mx2 rfl,?_⟩;refine⟨d',rfl,l2,x,aa,tt,rr,ff,cc,A,τ,(st1.1,st1.2.1,rk.rds A τ st1.2.2),bs,rs,ns,rfl,o2,by have:=len1.1; show st1.1.length+_<=400; omega,by have:=len1.2; show st1.2.1.length+_<=400; omega,by omega,s2,hS,R2,C1i,fun C3 s3 e3=>?_⟩;refine fin C3 _ _ ?_ ((fR e2).trans e3);rw[tX,if_pos h0];exact s3
    .refine qZ (decide_eq_false h0) ?_
     refine wX ep (v:=.tup (Ln.pvs l1)) rfl ?_
     try dsimp only
     refine⟨fX mx2 rfl,?_⟩;refine⟨d',rfl,l1,x,aa,tt,rr,ff,cc,A,τ,(st1.1,st1.2.1,rk.rds A τ st1.2.2),bs,rs,ns,rfl,o1,by have:=len1.1; show st1.1.length+_<=400; omega,by have:=len1.2; show st1.2.1.length+_<=400; omega,by omega,s2,hS,R2,C1i,fun C3 s3 e3=>?_⟩;refine fin C3 _ _ ?_ ((fR e2).trans e3);rw[tX,if_neg h0];exact s3
   |each n rk l1 =>
    have ep:(Ln.each n rk l1).pv=.tup [.str "each",.str n,rk.pv,.tup (Ln.pvs l1)]:=by rw[Ln.pv]
    refine wX ep sQ ?_;refine xX (lQ _ _) ?_;refine qZ (by decide) ?_;refine wX ep sQ ?_;refine xX (lQ _ _) ?_;refine pK (by decide) ?_;refine⟨fX mx1 rfl,?_⟩;refine⟨n,rk,l1,x,aa,tt,rr,ff,cc,A,τ,st1,bs,rs,ns,rfl,hu,by have:=len1.1; omega,by have:=len1.2; omega,hτ,s1,hS,R1,C1i,fun C3 s3 e3=>?_⟩;exact fin C3 _ _ s3 e3
 .rintro ρ C1 ⟨ds,us,x5,x6,e,hz,rfl,s1,e1⟩
  cases us with
  |cons u us=>cases hz
  |nil =>
   rw[List.append_nil] at e;subst e;exact q C1 s1 e1
theorem ok_br (T:Txt P w K mg a)(d:Nat):FnOk P w K mg base CX0 (3 * d+9) (a.f 43) (a.d 43) ["self","lines","turns","row","counts"] (spC K (gBr a d)):=by
 induction d with
 |zero =>
  exact qO (base:=base) T 0 8 (by decide) (oK fun ts C Q ⟨d',e,_⟩=>by omega) (oK fun ts C Q z=>by obtain⟨l,x,aa,tt,rr,cc,A,τ,R,N,bs,rs,ns,_,_,h,_⟩:=z; exact h) (oK fun ts C Q z=>by obtain⟨n,rk,l1,x,aa,tt,rr,ff,cc,A,τ,st1,bs,rs,ns,_,h,_⟩:=z; exact h)
 |succ d ih =>
  have row:=Jl (base:=base) T ih
  have e1:gRowL a (d+1)=gRow a d:=by
   funext ts C Q
   refine propext ⟨fun⟨d'',z,h⟩=>?_,fun h=>⟨d,rfl,h⟩⟩;cases Nat.succ.inj z;exact h
  have e2:gBrL a (d+1)=gBr a d:=by
   funext ts C Q
   refine propext ⟨fun⟨d'',z,h⟩=>?_,fun h=>⟨d,rfl,h⟩⟩;cases Nat.succ.inj z;exact h
  have th:=ok_want (base:=base) T (d+1) (3 * d+9+1) (by omega) (by rw[e1]; exact row);have ea:=Ju (base:=base) T (d+1) (3 * d+9) (by omega) (by rw[e2]; exact ih);have:=qO (base:=base) T (d+1) (3 * d+9+1+1) (by omega) (by rw[e2]; exact ih.mono (by omega)) th (ea.mono (by omega));have e:3 * d+9+1+1+1=3 * (d+1)+9:=by omega
  rw[e] at this;exact this
end
def stOf:Key->Str
 |.inr x=>x
 |_=>""
def ciOf:PV->Int
 |.int i=>i
 |_=>0
def rdC (kv:List Key×PV):List Str×Int:=(kv.1.map stOf,ciOf kv.2)
structure Pc where
 reads:List (List Str×Int)
 row:List Wt
 works:List (Str×Int)
def Pc.pv (x:Pc):PV:=.tup [.tup (x.reads.map eU),.tup (Wt.pvs x.row),.tup (x.works.map dQ)]
def pcRd (A:Rds)(x:Pt):Rds:=uV A [] x.works (rQ A x.ls [] ([],[],[])).2.2
def pcOf (A:Rds)(x:Pt):Pc:=⟨ordT ((pcRd A x).map rdC),(rQ A x.ls [] ([],[],[])).1,gJ A [] x.works⟩
theorem J7 {co:TCE}{ρ:CSt}{C:CH}{Q:K1}(h:co ρ C fun x C1=>∃b kvs,x=.ref b/\C1 b=some (.dT kvs)/\Q (.vw b) C1)(mono:∀(Q1 Q2:K1),(∀v C1,Q1 v C1->Q2 v C1)->co ρ C Q1->co ρ C Q2):qL co ρ C Q:=by
 unfold qL;refine mono _ _ ?_ h;rintro v C1 ⟨b,kvs,rfl,m,q⟩;dsimp only;rw[m];exact q
theorem Xu {p:Addr}{C:CH}{Q:K1}{kvs:List (List Key×PV)}{cs:List (List Str×Int)}(m:C p=some (.dT kvs))(e:tiK kvs=some cs)(h:cs.length < 64)(q:∀p',C p'=none->Q (.ref p') (yQ C p' (.lst ((ordT cs).map eU)))):mM [.vw p] C Q:=by
 unfold mM;dsimp only;rw[m];dsimp only;rw[e];exact⟨h,q⟩
theorem eO {c:Addr}{f:Str}{x:PV}{C:CH}(Q1 Q2:K1)(h:∀v C1,Q1 v C1->Q2 v C1)(q:Qg c f x C Q1):Qg c f x C Q2:=by
 unfold Qg at q ⊢
 split at q
 .split at q
  .refine ⟨q.1,?_⟩
   have q:=q.2
   split at q
   .exact h _ _ q
   .exact q
  .exact q
 .exact q
theorem pS {i:Nat}{ρ:CSt}{C:CH}(Q1 Q2:K1)(h:∀v C1,Q1 v C1->Q2 v C1)(q:pZ i ρ C Q1):pZ i ρ C Q2:=by
 unfold pZ at q ⊢
 split at q
 .exact h _ _ q
 .exact q
theorem ti_rd {bs:List Str}:∀{R:Rds},(∀k∈R.map (·.1),∃s n,k=qK s n/\cE bs s n)->ABd R->tiK R=some (R.map rdC)
 |[],_,_=>rfl
 |x::R,h1,h2=>by
  obtain⟨s,n,e,_⟩:=h1 x.1 List.mem_cons_self;obtain⟨i,ei,_⟩:=h2 x List.mem_cons_self;have ih:=ti_rd (R:=R) (fun k hk=>h1 k (List.mem_cons_of_mem _ hk)) fun kv hk=>h2 kv (List.mem_cons_of_mem _ hk);obtain⟨k,v⟩:=x;cases e;cases ei;show _=some (([s,n],i)::R.map rdC);unfold tiK;rw[ih]
  rfl
section
variable {P:Program}{w:World}{K:PySem.W.Frag}{mg:Str->Option Value}{base:Heap}{a:Adr}
def gDrawn:GC:=fun ts C Q=>∃(x:Pt) (aa:Addr) (A:Rds) (rs:List Str) (cap:Nat),ts=[x.pv,.ref aa]/\Zo rs cap x/\C aa=some (.dT A)/\ABd A/\∀C',Gr C C'->Q (pcOf A x).pv C'
theorem Jt (T:Txt P w K mg a):FnOk P w K mg base CX0 29 (a.f 8) (a.d 8) ["part","answers"] (spC K gDrawn):=by
 have S:=(T.F 8 rfl).s;have rM:=(ok_init (base:=base) T).mono (show 1<=27 by decide);have lV:=Jl T (ok_br (base:=base) T 6);have gK:=(qD (base:=base) T).mono (show 7<=28 by decide)
 refine(T.F 8 rfl).ok (fun ts C R h=>?_) fun cdv A outer s H E hr=>⟨_,(xQ (cs1 2 S.nd (Xb T.XR rM hr rfl T.pX (T.F 39 rfl).b pT (ca1 (cv 1))))
  (xQ (cs1 3 S.nd (cm T.qX (T.F 42 rfl) T.pX lV hr (cv 2) (qQ (cx (cv 0) zQ) (ca1 sR))))
  (xQ (cs1 4 S.nd (ctp T.eX (cm T.qX (T.F 41 rfl) T.pX gK hr (cv 2) (qQ (cx (cv 0) zQ) (ca1 sR)))))
  (kQ (pQ (fQ (qQ (ctp T.eX (xZ (oR rfl) (gE (xF hr)) rfl T.mB rfl (ca1 (Zd (yB T.qX T.vW (cv 2)))))) (qQ (cv 3) (ca1 (cv 4)))))))))),?_⟩
 .obtain ⟨_,_,_,_,_,rfl,_⟩:=h; rfl
 rintro ts C Q ⟨pt,aa,A,rs,cap,rfl,ok,ha,hA,q⟩;have hS:eG A [] (pt.first.map (·.1)) []:=⟨hA,(fun _ z=>nomatch z),(fun _ z=>nomatch z),by rw[List.length_map]; exact ok.fl⟩;have hR0:RdOk (pt.first.map (·.1)) []:=⟨List.nodup_nil,(fun _ z=>nomatch z),(fun _ z=>nomatch z)⟩;intro x dx x0 dx0 ndx;have nax:aa≠x:=fun z=>by rw[z,x0] at ha; cases ha
 refine⟨x,dx,aa,A,rfl,jQ,by rw[wQ nax]; exact ha,fun C1 rr rr0 sf1 x1=>⟨rfl,?_⟩⟩
 try dsimp only
 have g1:Gr C C1:=fun b o h=>by
  have:b≠x:=fun z=>by rw[z,x0] at h; cases h
  exact x1 b o (fun z=>this (List.mem_singleton.1 z)) (by rw[wQ this]; exact h)
 have rr0':C rr=none:=by
  rw[wQ (Ne.symm sf1.nx)] at rr0;exact rr0
 have exg:∀{C2 C3:CH},Gr C C2->ExS [rr] C2 C3->Gr C C3:=fun g e b o h=>e b o (fun z=>by rw[List.mem_singleton.1 z,rr0'] at h; cases h) (g b o h);obtain⟨dx1,mx1⟩:=sf1.ins;refine uQ (i:=3) ?_;refine⟨fX mx1 rfl,?_⟩;refine rX (v:=.tup (Ln.pvs pt.ls)) rfl ?_;intro p p00;have sf2:=sf1.new p00 (.dK []);have tw:=ok.tw;refine⟨pt.ls,x,aa,p,rr,A,[],[],_,rs,[],rfl,ok.ls,by omega,by show 0+6<=50; decide,sf2,jQ,hS,hR0,fun C3 sf3 x3=>?_⟩
 try dsimp only
 have R3:=pF (τ:=[]) (st:=([],[],[])) hA ok.ls hR0;have g3:Gr C C3:=exg (g1.trans (Gr.new p00 _)) x3;obtain⟨dx3,mx3⟩:=sf3.ins;refine uQ (i:=4) ?_;refine⟨fX mx3 rfl,?_⟩;refine rX (v:=.tup (pt.works.map mV)) rfl ?_;intro p2 p20;have sf4:=sf3.new p20 (.dK []);refine⟨pt.works,x,aa,p2,rr,A,[],_,_,[],rfl,fun y hy=>(ok.wk y hy).mono (by decide),ok.wl,sf4,jQ,hS,R3,fun C5 l l0 m5 sf5 x5=>?_⟩;have g5:Gr C C5:=exg (g3.trans (Gr.new p20 _)) x5
 refine cJ m5 ?_
 try dsimp only
 obtain⟨dx5,mx5⟩:=sf5.ins;have R5:RdOk (pt.first.map (·.1)) (pcRd A pt):=aW hA ok.wk R3;have mk5:C5 rr=some (.dT (pcRd A pt)):=sf5.ask;have hb:=hS.b;refine J7 ?_ ?_
 .refine mP mx5 rfl ?_
  refine⟨rr,pcRd A pt,rfl,mk5,?_⟩;refine Xu mk5 (ti_rd R5.ks R5.vs) (by rw[List.length_map]; have:=R5.len; omega) fun p6 p60=>?_;refine cJ jQ ?_;refine⟨by show 3<=sizeLine; decide,?_⟩;exact q _ (g5.trans (Gr.new p60 _))
 .intro Q1 Q2 h q
  exact pS _ _ (fun v C1 q=>eO _ _ h q) q
end
theorem zZ {i:Nat}{u:mS}{t:PV}{r:List PV}{ρ:CSt}{C:CH}{Q:CSt->CH->Prop}(h:u r (ρ.set i (some t)) C Q):dCons (KA i) u (t::r) ρ C Q:=h
theorem wF {ρ:CSt}{C:CH}{Q:CSt->CH->Prop}(h:Q ρ C):dNil [] ρ C Q:=h
def kOf (c:Str×Int):Key×PV:=(.inr c.1,.int c.2)
def aB (ds:List (Str×Int))(n:Str)(i:Int):List (Str×Int):=if (ds.any fun c=>decide (c.1=n))=true then ds.map fun c=>if c.1=n then (c.1,i) else c else ds++[(n,i)]
def jZ (cs ds:List (Str×Int)):List (Str×Int):=ds.foldl (fun acc c=>aB acc c.1 c.2) cs
theorem wR {x y:Str}:((Sum.inr x:Key)=Sum.inr y)↔x=y:=⟨fun h=>Sum.inr.inj h,fun h=>by rw[h]⟩
theorem put_k (ds:List (Str×Int))(n:Str)(i:Int):fZ (ds.map kOf) (.inr n) (.int i)=(aB ds n i).map kOf:=by
 have h1:((ds.map kOf).any fun kv=>decide (kv.1=(Sum.inr n:Key)))=ds.any fun c=>decide (c.1=n):=by
  rw[List.any_map]
  congr 1
  funext c
  show decide ((Sum.inr c.1:Key)=Sum.inr n)=decide (c.1=n);exact decide_eq_decide.2 wR
 have h2:((ds.map kOf).map fun kv=>if kv.1=(Sum.inr n:Key) then (kv.1,PV.int i) else kv)=(ds.map fun c=>if c.1=n then (c.1,i) else c).map kOf:=by
  rw[List.map_map,List.map_map]
  congr 1
  funext c
  show(if (Sum.inr c.1:Key)=Sum.inr n then ((Sum.inr c.1:Key),PV.int i) else kOf c)=kOf (if c.1=n then (c.1,i) else c)
  by_cases e:c.1=n
  .rw [if_pos (wR.2 e),if_pos e]; rfl
  .rw [if_neg (fun z=>e (wR.1 z)),if_neg e]
 unfold fZ aB;rw[h1]
 by_cases b:(ds.any fun c=>decide (c.1=n))=true
 .rw [if_pos b,if_pos b,h2]
 .rw [if_neg b,if_neg b,List.map_append]; rfl
theorem QI (ds:List (Str×Int)):∀cs:List (Str×Int),jV (cs.map kOf) (ds.map kOf)=(jZ cs ds).map kOf:=by
 induction ds with
 |nil=>intro cs; rfl
 |cons d ds ih =>
  intro cs;show jV (fZ (cs.map kOf) (.inr d.1) (.int d.2)) (ds.map kOf)=(jZ (aB cs d.1 d.2) ds).map kOf;rw[put_k,ih]
theorem aC:∀ds:List (Str×Int),fV (ds.map dQ)=some (ds.map kOf)
 |[]=>rfl
 |d::ds=>by
  show(match jK (.str d.1),fV (ds.map dQ) with | some k,some ps=>some ((k,PV.int d.2)::ps) | _,_=>none)=_;rw[aC ds]; rfl
theorem si_k:∀ds:List (Str×Int),siK (ds.map kOf)=some ds
 |[]=>rfl
 |d::ds=>by
  show(siK (ds.map kOf)).map _=_;rw[si_k ds]; rfl
theorem put_len (ds:List (Str×Int))(n:Str)(i:Int):(aB ds n i).length<=ds.length+1:=by
 unfold aB
 split
 .rw [List.length_map]; omega
 .rw [List.length_append,List.length_singleton]; exact Nat.le_refl _
theorem cK (ds:List (Str×Int)):∀cs:List (Str×Int),(jZ cs ds).length<=cs.length+ds.length:=by
 induction ds with
 |nil=>intro cs; exact Nat.le_refl _
 |cons d ds ih =>
  intro cs;have h1:=ih (aB cs d.1 d.2);have h2:=put_len cs d.1 d.2;show(jZ (aB cs d.1 d.2) ds).length<=_;rw[List.length_cons];omega
theorem qR (cs:List (Str×Int)):(dW cs).length=cs.length:=by
 unfold dW;rw[List.length_map]
 by_cases h:0 < cs.length
 .have:=(jY (kA cs) cs.length h).length_eq
  rw[this,List.length_range]
 .have e:cs.length=0:=by omega
  rw[e,run0]; rfl
theorem ZW (ds:List (Str×Int))(n:Str)(i:Int):(aB ds n i).map (·.1)=if n∈ds.map (·.1) then ds.map (·.1) else ds.map (·.1)++[n]:=by
 have h:(ds.any fun c=>decide (c.1=n))=true↔n∈ds.map (·.1):=by
  rw[List.any_eq_true,List.mem_map]
  constructor
  .rintro ⟨c,h1,h2⟩; exact⟨c,h1,of_decide_eq_true h2⟩
  .rintro ⟨c,h1,h2⟩; exact⟨c,h1,decide_eq_true h2⟩
 unfold aB
 by_cases b:(ds.any fun c=>decide (c.1=n))=true
 .rw [if_pos b,if_pos (h.1 b),List.map_map]
  congr 1
  funext c
  show(if c.1=n then (c.1,i) else c).1=c.1
  split<;>rfl
 .rw [if_neg b,if_neg (fun z=>b (h.2 z)),List.map_append]; rfl
theorem put_nd {ds:List (Str×Int)}(h:(ds.map (·.1)).Nodup)(n:Str)(i:Int):((aB ds n i).map (·.1)).Nodup:=by
 rw[ZW]
 split
 .exact h
 .next z =>
  rw[List.nodup_append]
  exact⟨h,List.nodup_cons.2 ⟨List.not_mem_nil,List.nodup_nil⟩,fun x hx y hy=>by
   cases List.mem_singleton.1 hy
   exact fun e=>z (e▸hx)⟩
theorem uO (ds:List (Str×Int)):∀{cs:List (Str×Int)},(cs.map (·.1)).Nodup->((jZ cs ds).map (·.1)).Nodup:=by
 induction ds with
 |nil=>intro cs h; exact h
 |cons d ds ih=>intro cs h; exact ih (put_nd h d.1 d.2)
theorem val_k {cs:List (Str×Int)}(h:(cs.map (·.1)).Nodup){c:Str×Int}(hc:c∈cs):cZ (cs.map kOf) (.inr c.1)=some (.int c.2):=by
 induction cs with
 |nil=>cases hc
 |cons d cs ih =>
  have h':=List.nodup_cons.1 (show(d.1::cs.map (·.1)).Nodup from h);unfold cZ;rw[List.map_cons,List.find?_cons];show(match decide ((Sum.inr d.1:Key)=Sum.inr c.1) with | true=>some (kOf d) | false=>(cs.map kOf).find? fun kv=>decide (kv.1=Sum.inr c.1)).map (fun kv:Key×PV=>kv.2)=_
  rcases List.mem_cons.1 hc with rfl | hc
  .rw [decide_eq_true rfl]; rfl
  .have ne:d.1≠c.1:=fun e=>h'.1 (List.mem_map.2 ⟨c,hc,e.symm⟩)
   rw[decide_eq_false (fun z=>ne (wR.1 z))];exact ih h'.2 hc
theorem Ky {ds:List (Str×Int)}{C:CH}{Q:K1}(h:ds.length<=1000)(q:∀p,C p=none->Q (.ref p) (yQ C p (.dK ((jZ [] ds).map kOf)))):jL [.tup (ds.map dQ)] C Q:=by
 unfold jL;show(match fV (ds.map dQ) with | some ps=>ps.length<=sizeLine/\∀p,C p=none->Q (.ref p) (yQ C p (.dK (jV [] ps))) | none=>False);rw[aC];dsimp only;rw[show jV [] (ds.map kOf)=(jZ [] ds).map kOf from QI ds []];exact⟨by rw[List.length_map]; exact Nat.le_trans h (by decide),q⟩
theorem putD_s {cs:List (Str×Int)}{n:Str}{i:Int}{p:Addr}{C:CH}{Q:CH->Prop}(m:C p=some (.dK (cs.map kOf)))(h:cs.length<=1000)(q:Q (yQ C p (.dK ((aB cs n i).map kOf)))):zH (.ref p) (.str n) (.int i) C Q:=by
 unfold zH;show(match C p,jK (.str n) with | some (.dK kvs),some k=>kvs.length < sizeLine/\Q (yQ C p (.dK (fZ kvs k (.int i)))) | _,_=>False);rw[m];show(cs.map kOf).length < sizeLine/\Q (yQ C p (.dK (fZ (cs.map kOf) (.inr n) (.int i))));rw[put_k,List.length_map];exact⟨Nat.lt_of_le_of_lt h (by decide),q⟩
theorem dix_s {kvs:List (Key×PV)}{k:Key}{y v:PV}{p:Addr}{C:CH}{Q:K1}(m:dOf (C p)=some kvs)(hk:jK y=some k)(hv:cZ kvs k=some v)(q:Q v C):tH (.ref p) y C Q:=by
 unfold tH;show(match dOf (C p),jK y with | some kvs,some k=>(match cZ kvs k with | some v=>Q v C | none=>False) | _,_=>False);rw[m,hk];dsimp only;rw[hv];exact q
theorem KF {cs:List (Str×Int)}(nd:(cs.map (·.1)).Nodup){ρ:CSt}{j:Nat}{d:Addr}{R:K1}{C:CH}(hl:cs.length<=1000)(hj:ρ[j]?=some (some (.ref d)))(m:C d=some (.fK (cs.map kOf)))(q:∀p,C p=none->R (.ref p) (yQ C p (.lst (cs.map dQ))))(zs:List (Str×Int)):
  ∀done:List (Str×Int),cs=done++zs->kZ gB (Qe (yK (pZ 0) (yK (cOp tH (pZ (j+1)) (pZ 0)) mF))) ρ R (zs.map fun c=>PV.str c.1) (done.map dQ) C:=by
 induction zs with
 |nil =>
  intro done e;rw[List.append_nil] at e;subst e;exact q
 |cons z zs ih =>
  intro done e;have hz:z∈cs:=by rw[e]; exact List.mem_append_right _ List.mem_cons_self
  show pZ (j+1) (some (.str z.1)::ρ) C fun x C1=>pZ 0 (some (.str z.1)::ρ) C1 fun y C2=>tH x y C2 fun v C3=>[PV.str z.1,v].length<=sizeLine/\(done.map dQ).length < sizeLine/\kZ gB (Qe (yK (pZ 0) (yK (cOp tH (pZ (j+1)) (pZ 0)) mF))) ρ R (zs.map fun c=>PV.str c.1) (done.map dQ++[.tup [.str z.1,v]]) C3;unfold pZ;rw[show(some (PV.str z.1)::ρ)[j+1]?=some (some (.ref d)) from hj];dsimp only;refine dix_s (kvs:=cs.map kOf) (k:=.inr z.1) (v:=.int z.2) (by rw[m]; rfl) rfl (val_k nd hz) ⟨by show 2<=sizeLine; decide,?_,?_⟩
  .rw [List.length_map]
   have:done.length<=cs.length:=by rw[e,List.length_append]; omega
   exact Nat.lt_of_le_of_lt (Nat.le_trans this hl) (by decide)
  .rw [show done.map dQ++[.tup [.str z.1,.int z.2]]=(done++[z]).map dQ by rw[List.map_append]; rfl]
   exact ih (done++[z]) (by rw[e,List.append_assoc]; rfl)
theorem JY:∀cs:List (Str×Int),((cs.map kOf).map fun p=>aV p.1)=cs.map fun c=>PV.str c.1
 |[]=>rfl
 |c::cs=>by
  show PV.str c.1::((cs.map kOf).map fun p=>aV p.1)=_;rw[JY cs]; rfl
theorem compD_s {cs:List (Str×Int)}(nd:(cs.map (·.1)).Nodup){ρ:CSt}{j:Nat}{d:Addr}{Q:K1}{C:CH}(hl:cs.length<=1000)(hj:ρ[j]?=some (some (.ref d)))(m:C d=some (.dK (cs.map kOf)))(q:∀p C',C' p=some (.lst (cs.map dQ))->Gr C C'->Q (.ref p) C'):
  vS (pZ j) gB (Qe (yK (pZ 0) (yK (cOp tH (pZ (j+1)) (pZ 0)) mF))) ρ C Q:=by
 unfold vS;have hv:∀(Q:K1),Q (.ref d) C->pZ j ρ C Q:=fun Q h=>by unfold pZ; rw[hj]; exact h
 refine hv _ ?_;dsimp only;rw[m];dsimp only;rw[JY];refine KF nd hl hj jQ (fun p hp=>?_) cs [] rfl;have ne:p≠d:=fun e=>by subst e; rw[jQ] at hp; cases hp
 have hp':C p=none:=by rw[wQ ne] at hp; exact hp
 refine⟨by rw[wQ (Ne.symm ne),jQ],q p _ (by rw[wQ ne,jQ]) fun b o e=>?_⟩
 by_cases h1:b=d
 .subst h1; rw[m] at e; cases e; exact jQ
 .by_cases h2:b=p
  .subst h2; rw[hp'] at e; cases e
  .rw [wQ h1,wQ h2,wQ h1]; exact e
def yV (ds ms:List (Str×Int)):List (Str×Int):=dW (jZ (jZ [] ds) ms)
theorem xU (ds ms:List (Str×Int)):(yV ds ms).length<=ds.length+ms.length:=by
 unfold yV;rw[qR];have h1:=cK ms (jZ [] ds);have h2:=cK ds [];have:([]:List (Str×Int)).length=0:=rfl;omega
def SBd (cs:List (Str×Int)):Prop:=∀c∈cs,Bd c.2
theorem lT {cs:List (Str×Int)}{c:Str×Int}(h:c∈dW cs):c∈cs:=by
 unfold dW at h;obtain⟨i,hi,rfl⟩:=List.mem_map.1 h
 have hl:0 < cs.length:=by
  rcases Nat.eq_zero_or_pos cs.length with z | z
  .rw [z,run0] at hi; cases hi
  .exact z
 have:=(jY (kA cs) cs.length hl).mem_iff.mp hi;rw[List.mem_range] at this;rw[List.getD_eq_getElem?_getD,List.getElem?_eq_getElem this];exact List.getElem_mem _
theorem SBd.put {cs:List (Str×Int)}(h:SBd cs)(n:Str){i:Int}(hi:Bd i):SBd (aB cs n i):=by
 intro c hc;unfold aB at hc
 split at hc
 .obtain ⟨x,hx,rfl⟩:=List.mem_map.1 hc
  split
  .exact hi
  .exact h x hx
 .rcases List.mem_append.1 hc with hc | hc
  .exact h c hc
  .cases List.mem_singleton.1 hc; exact hi
theorem SBd.merge {ms:List (Str×Int)}(hm:SBd ms):∀{cs:List (Str×Int)},SBd cs->SBd (jZ cs ms):=by
 induction ms with
 |nil=>intro cs h; exact h
 |cons m ms ih =>
  intro cs h;exact ih (fun c hc=>hm c (List.mem_cons_of_mem _ hc)) (h.put m.1 (hm m List.mem_cons_self))
theorem SBd.over {ds ms:List (Str×Int)}(hd:SBd ds)(hm:SBd ms):SBd (yV ds ms):=fun c hc=>(SBd.merge hm (SBd.merge hd (cs:=[]) (fun _ z=>nomatch z))) c (lT hc)
section
variable {P:Program}{w:World}{K:PySem.W.Frag}{mg:Str->Option Value}{base:Heap}{a:Adr}
def gOver:GC:=fun ts C Q=>∃(ds ms:List (Str×Int)),ts=[.tup (ds.map dQ),.tup (ms.map dQ)]/\ds.length+ms.length<=60/\∀C',Gr C C'->Q (.tup ((yV ds ms).map dQ)) C'
theorem QH (T:Txt P w K mg a):FnOk P w K mg base CX0 1 (a.f 25) (a.d 25) ["_law_downs","_law_more"] (spC K gOver):=by
 have S:=(T.F 25 rfl).s
 refine(T.F 25 rfl).ok (fun ts C R h=>?_) fun cdv A outer s H E hr=>⟨_,(xQ (cs1 2 S.nd (kJ (qH rfl) bE rfl T.eE rfl (ca1 (cv 0))))
  (xQ (uM PassesOwn.never rfl (cv 1) (uF rfl (cX (cg1 3 S.nd) (cX (cg1 4 S.nd) mU))) (kQ (vK (oX hr) (cv 2) (cv 3) (cv 4))))
  (kQ (KB 3 (ctp T.eX (xZ (aY rfl) uB rfl T.mB rfl (ca1 (KU rfl (show(["_law_name","_law_downs","_law_more","_law_found","?","_law_number_here"]:List Str).Nodup by decide +kernel) (nP (N:=["_law_downs","_law_more","_law_found","?","_law_number_here"]) (sc:=kX (top 35)) rfl rfl rfl (by decide +kernel)) (cv 2) (fun _ _ _ _ _=>wK) (fun _ _ _ _ _=>(fQ (qQ (cv 0) (ca1 (bZ (oX hr) (cv 3) (cv 0) (fun _ _=>rfl)))))))))))))),?_⟩
 .obtain ⟨ds,ms,rfl,_⟩:=h; rfl
 rintro ts C R ⟨ds,ms,rfl,hd,q⟩;have hm:(jZ [] ds).length<=ds.length:=Nat.le_trans (cK ds []) (by show 0+ds.length<=ds.length; omega);refine uQ ?_;refine Ky (by omega) fun p p0=>?_
 try dsimp only
 refine vZ ?_;refine bP rfl ?_;refine oJ (fun zs ρ C'=>∃(x3 x4:Option PV) (us vs:List (Str×Int)),ms=us++vs/\zs=vs.map dQ/\ρ=[some (.tup (ds.map dQ)),some (.tup (ms.map dQ)),some (.ref p),x3,x4]/\C' p=some (.dK ((jZ (jZ [] ds) us).map kOf))/\Gr C C') ?_ ?_ _ _ _ ⟨_,_,[],ms,rfl,rfl,rfl,jQ,Gr.new p0 _⟩
 .rintro z zs ρ C1 ⟨x3,x4,us,vs,e,hz,rfl,m1,g1⟩ L hL
  cases vs with
  |nil=>cases hz
  |cons v vs =>
   obtain⟨rfl,rfl⟩:=List.cons.inj hz;refine⟨rfl,?_⟩;refine zZ (zZ (wF ?_))
   try dsimp only
   have hl:=cK us (jZ [] ds);have hul:us.length<=ms.length:=by rw[e,List.length_append]; omega
   refine putD_s (i:=v.2) m1 (by omega) ?_;refine hL _ _ ⟨_,_,us++[v],vs,by rw[List.append_assoc]; exact e,rfl,rfl,?_,kB g1 p0 _⟩;rw[jQ];unfold jZ;rw[List.foldl_append]
   rfl
 .rintro ρ C1 ⟨x3,x4,us,vs,e,hz,rfl,m1,g1⟩
  cases vs with
  |cons v vs=>cases hz
  |nil =>
  rw[List.append_nil] at e;subst e
  try dsimp only
  have hl:=cK ms (jZ [] ds);refine compD_s (uO ms (uO ds (cs:=[]) List.nodup_nil)) (by omega) rfl m1 fun p2 C2 m2 g2=>?_;refine mL m2 (by omega) fun p3 p30=>?_;refine cJ jQ ?_;exact q _ ((g1.trans g2).trans (Gr.new p30 _))
end
def Wt.sp:Wt->List Key
 |.plain s _ _ _ _=>s
 |.part s _ _=>s
 |.give s _ _ _=>s
def WtOk (rs:List Str):Nat->Wt->Prop
 |0,_=>False
 |_+1,.part sp n g=>sp.length<=2/\n∈rs/\g.length<=4/\SBd g
 |d+1,.give sp _ i r=>sp.length<=2/\Bd i/\(∀x∈r,WtOk rs d x)/\(r.map Wt.sp).Nodup
 |d+1,.plain sp _ ss h r=>sp.length<=2/\(ss.length<=4/\h.length<=4/\∀x∈h,x.ch.length<=4)/\(∀x∈r,WtOk rs d x)/\(r.map Wt.sp).Nodup
def dM (rs:List Str)(d:Nat)(r:List Wt):Prop:=(∀x∈r,WtOk rs d x)/\(r.map Wt.sp).Nodup
theorem WtOk.up {rs:List Str}:∀{d:Nat}{x:Wt},WtOk rs d x->WtOk rs (d+1) x:=by
 intro d
 induction d with
 |zero=>intro x h; exact h.elim
 |succ d ih =>
  intro x h
  cases x with
  |plain s t g hs r=>exact⟨h.1,h.2.1,fun y hy=>ih (h.2.2.1 y hy),h.2.2.2⟩
  |part s n g=>exact h
  |give s n i r=>exact⟨h.1,h.2.1,fun y hy=>ih (h.2.2.1 y hy),h.2.2.2⟩
theorem WtOk.mono {rs:List Str}{d e:Nat}{x:Wt}(h:WtOk rs d x)(le:d<=e):WtOk rs e x:=by
 induction le with
 |refl=>exact h
 |step _ ih=>exact ih.up
def SpInv (F:List Wt)(N:Tns):Prop:=(F.map Wt.sp).Nodup/\∀x∈F,∃k c,x.sp=[k,.inl (some c)]/\c < lH N k
def StOk (rs:List Str)(e:Nat)(st:DSt):Prop:=(∀x∈st.1,WtOk rs e x)/\SpInv st.1 st.2.1
theorem oP (N:Tns)(k k':Key):lH (wV N k) k'=if k'=k then lH N k+1 else lH N k':=by
 unfold wV;show(match cZ (fZ N k (.int (lH N k+1))) k' with | some (.int i)=>i | _=>0)=_;rw[pC]
 by_cases e:k'=k
 .rw [if_pos e,if_pos e]
 .rw [if_neg e,if_neg e]; rfl
theorem SpInv.add {F:List Wt}{N:Tns}(h:SpInv F N){x:Wt}{k:Key}(hx:x.sp=tV N k):SpInv (F++[x]) (wV N k):=by
 refine⟨?_,fun y hy=>?_⟩
 .rw [List.map_append,List.nodup_append]
  refine⟨h.1,by simp,fun a ha b hb e=>?_⟩;have hb:b=x.sp:=by simpa using hb
  obtain⟨y,hy,rfl⟩:=List.mem_map.1 ha;obtain⟨k',c,e1,e2⟩:=h.2 y hy;rw[hb,hx] at e;rw[e1] at e;unfold tV at e;injection e with e3 e4
  injection e4 with e5
  injection e5 with e5
  injection e5 with e5
  rw[e3,e5] at e2;omega
 .rcases List.mem_append.1 hy with hy | hy
  .obtain ⟨k',c,e1,e2⟩:=h.2 y hy
   refine⟨k',c,e1,?_⟩;rw[oP]
   split
   .next z=>rw[<- z]; omega
   .exact e2
  .cases List.mem_singleton.1 hy
   exact⟨k,lH N k,hx,by rw[oP,if_pos rfl]; omega⟩
theorem Jx {A:Rds}{τ:Tns}{bs ns:List Str}(hS:eG A τ bs ns){d:Nat}{ps:List (Str×Rk)}(h:aH bs ns d ps):SBd (dW (gJ A τ ps)):=fun c hc=>by
 have:=lT hc;unfold gJ at this;obtain⟨p,hp,rfl⟩:=List.mem_map.1 this;exact yL hS.a hS.t hS.h (h p hp)
theorem xH {A:Rds}{bs rs:List Str}{d:Nat}(h1:∀e,d<=e->∀l ns τ st,LnOk bs rs d ns l->eG A τ bs ns->StOk rs e st->StOk rs e (tX A l τ st)):∀e,d<=e->∀(ls:List Ln) (ns:List Str) (τ:Tns) (st:DSt),(∀x∈ls,LnOk bs rs d ns x)->eG A τ bs ns->StOk rs e st->StOk rs e (rQ A ls τ st)
 |e,le,[],ns,τ,st,_,_,h=>by rw[hZ]; exact h
 |e,le,l::ls,ns,τ,st,hl,hS,h=>by
  rw[uZ];exact xH h1 e le ls ns τ _ (fun x hx=>hl x (List.mem_cons_of_mem _ hx)) hS (h1 e le l ns τ st (hl l List.mem_cons_self) hS h)
theorem StOk.nil {rs:List Str}{e:Nat}{R:Rds}:StOk rs e ([],[],R):=⟨fun _ z=>(nomatch z),List.nodup_nil,fun _ z=>(nomatch z)⟩
theorem one_st {A:Rds}{bs rs:List Str}:∀(d e:Nat),d<=e->∀(l:Ln) (ns:List Str) (τ:Tns) (st:DSt),LnOk bs rs d ns l->eG A τ bs ns->StOk rs e st->StOk rs e (tX A l τ st):=by
 intro d
 induction d with
 |zero=>intro e le l ns τ st h; exact h.elim
 |succ d ih =>
  intro e le l ns τ st h hS hst;have br:=xH ih
  have add:∀(x:Wt) (k:Key) (R:Rds),WtOk rs (d+1) x->x.sp=tV st.2.1 k->StOk rs e (st.1++[x],wV st.2.1 k,R):=by
   intro x k R hx hsp;refine⟨fun y hy=>?_,hst.2.add hsp⟩
   rcases List.mem_append.1 hy with hy | hy
   .exact hst.1 y hy
   .cases List.mem_singleton.1 hy; exact hx.mono le
  cases l with
  |plain k tag s hs ls =>
   obtain⟨h1,h2,h3,h4,h5⟩:=h;rw[tX];have b:=br d (Nat.le_refl _) ls ns τ ([],[],zW A τ hs (uV A τ s (cW A τ k st.2.2))) h4 hS StOk.nil;refine add _ _ _ ⟨Nat.le_refl 2,⟨?_,?_,fun x hx=>?_⟩,b.1,b.2.1⟩ rfl
   .rw [qR]; unfold gJ; rw[List.length_map]; exact h2.2
   .unfold xV; rw[List.length_map]; exact h3.2
   .unfold xV at hx
    obtain⟨y,hy,rfl⟩:=List.mem_map.1 hx;show(Qa A τ y.ch).length<=4;unfold Qa;rw[List.length_map];exact(h3.1 y hy).1
  |part k n g =>
   obtain⟨h1,h2,h3,h4⟩:=h;rw[tX];refine add _ _ _ ⟨Nat.le_refl 2,h2,?_,Jx hS h3⟩ rfl;rw[qR];unfold gJ;rw[List.length_map];exact h4
  |give k n r ls =>
   obtain⟨h1,h2,h3,h4,h5⟩:=h;rw[tX];have b:=br d (Nat.le_refl _) ls ns τ ([],[],r.rds A τ (cW A τ k st.2.2)) h4 hS StOk.nil;exact add _ _ _ ⟨Nat.le_refl 2,yL hS.a hS.t hS.h h3,b.1,b.2.1⟩ rfl
  |when r l1 l2 =>
   obtain⟨h1,⟨h2,h3⟩,h4,h5⟩:=h;rw[tX]
   split
   .exact br e (by omega) l2 ns τ _ h4 hS hst
   .exact br e (by omega) l1 ns τ _ h2 hS hst
  |each n r ls =>
   obtain⟨h1,h2,h3⟩:=h;rw[tX]
   have:∀(l:List Nat),(∀k∈l,k < 8)->∀x:DSt,StOk rs e x->StOk rs e (l.foldl (fun st k=>rQ A ls (fZ τ (.inr n) (.int (k:Nat))) st) x):=by
    intro l
    induction l with
    |nil=>intro _ x hx; exact hx
    |cons k l ihl =>
     intro hk x hx;have k8:=hk k List.mem_cons_self;refine ihl (fun j hj=>hk j (List.mem_cons_of_mem _ hj)) _ (br e (by omega) ls [n] _ x h2 ⟨hS.a,hS.t.put _ (by unfold Bd; omega),fun m hm=>?_,hS.b⟩ hx);cases List.mem_singleton.1 hm;rw[pC,if_pos rfl]; rfl
   refine this _ (fun k hk=>?_) _ hst;rw[List.mem_range] at hk;have:=bM (r.val A τ);omega
theorem row_ok {A:Rds}{τ:Tns}{bs rs ns:List Str}{d:Nat}{ls:List Ln}{R:Rds}(h:∀x∈ls,LnOk bs rs d ns x)(hS:eG A τ bs ns):dM rs d (rQ A ls τ ([],[],R)).1:=by
 have b:=xH (one_st d) d (Nat.le_refl _) ls ns τ ([],[],R) h hS StOk.nil;exact⟨b.1,b.2.1⟩
mutual
def Wt.pc:Wt->Nat
 |.plain _ _ _ _ r=>Wt.pcs r
 |.part _ _ _=>1
 |.give _ _ _ r=>Wt.pcs r
def Wt.pcs:List Wt->Nat
 |[]=>0
 |x::r=>x.pc+Wt.pcs r
end
theorem Wt.pcs_app (xs ys:List Wt):Wt.pcs (xs++ys)=Wt.pcs xs+Wt.pcs ys:=by
 induction xs with
 |nil=>show _=0+_; rw[Nat.zero_add]; rfl
 |cons x xs ih=>show x.pc+Wt.pcs (xs++ys)=x.pc+Wt.pcs xs+Wt.pcs ys; rw[ih]; omega
mutual
theorem one_pc (A:Rds):∀(l:Ln) (τ:Tns) (st:DSt),Wt.pcs (tX A l τ st).1<=Wt.pcs st.1+l.pw
 |.when r l1 l2,τ,st=>by
  rw[tX];have h1:=kW A l1 τ (st.1,st.2.1,r.rds A τ st.2.2);have h2:=kW A l2 τ (st.1,st.2.1,r.rds A τ st.2.2);show _<=_+(Ln.pws l1+Ln.pws l2)
  split
  .exact Nat.le_trans h2 (by show Wt.pcs st.1+_<=_; omega)
  .exact Nat.le_trans h1 (by show Wt.pcs st.1+_<=_; omega)
 |.each n r ls,τ,st=>by
  rw[tX];have c:=bM (r.val A τ);have f1:=rY (f:=fun st k=>rQ A ls (fZ τ (.inr n) (.int (k:Nat))) st) (m:=fun st=>Wt.pcs st.1) (c:=Ln.pws ls) (fun x k=>kW A ls _ x) (List.range (gD (r.val A τ))) (st.1,st.2.1,r.rds A τ st.2.2);rw[List.length_range] at f1;have hm:gD (r.val A τ) * Ln.pws ls<=8 * Ln.pws ls:=Nat.mul_le_mul_right _ c;show _<=Wt.pcs st.1+8 * Ln.pws ls;exact Nat.le_trans f1 (by show Wt.pcs st.1+_<=_; omega)
 |.part k n g,τ,st=>by
  rw[tX];show Wt.pcs (st.1++[_])<=_;rw[Wt.pcs_app];exact Nat.le_refl _
 |.give k n r ls,τ,st=>by
  rw[tX];have h:=kW A ls τ ([],[],r.rds A τ (cW A τ k st.2.2));show Wt.pcs (st.1++[_])<=_;rw[Wt.pcs_app];show Wt.pcs st.1+(Wt.pcs _+0)<=Wt.pcs st.1+Ln.pws ls;have h:Wt.pcs (rQ A ls τ ([],[],r.rds A τ (cW A τ k st.2.2))).1<=0+Ln.pws ls:=h;omega
 |.plain k tag s hs ls,τ,st=>by
  rw[tX];have h:=kW A ls τ ([],[],zW A τ hs (uV A τ s (cW A τ k st.2.2)));show Wt.pcs (st.1++[_])<=_;rw[Wt.pcs_app];show Wt.pcs st.1+(Wt.pcs _+0)<=Wt.pcs st.1+Ln.pws ls;have h:Wt.pcs (rQ A ls τ ([],[],zW A τ hs (uV A τ s (cW A τ k st.2.2)))).1<=0+Ln.pws ls:=h;omega
theorem kW (A:Rds):∀(ls:List Ln) (τ:Tns) (st:DSt),Wt.pcs (rQ A ls τ st).1<=Wt.pcs st.1+Ln.pws ls
 |[],τ,st=>by rw[hZ]; exact Nat.le_add_right _ _
 |l::ls,τ,st=>by
  rw[uZ];have h1:=one_pc A l τ st;have h2:=kW A ls τ (tX A l τ st);show _<=_+(l.pw+Ln.pws ls);omega
end
mutual
def Wt.wc:Wt->Nat
 |.plain _ _ _ _ r=>1+Wt.wcs r
 |.part _ _ _=>1
 |.give _ _ _ r=>1+Wt.wcs r
def Wt.wcs:List Wt->Nat
 |[]=>0
 |x::r=>x.wc+Wt.wcs r
end
theorem Wt.wcs_app (xs ys:List Wt):Wt.wcs (xs++ys)=Wt.wcs xs+Wt.wcs ys:=by
 induction xs with
 |nil=>show _=0+_; rw[Nat.zero_add]; rfl
 |cons x xs ih=>show x.wc+Wt.wcs (xs++ys)=x.wc+Wt.wcs xs+Wt.wcs ys; rw[ih]; omega
mutual
theorem one_wc (A:Rds):∀(l:Ln) (τ:Tns) (st:DSt),Wt.wcs (tX A l τ st).1<=Wt.wcs st.1+l.tw
 |.when r l1 l2,τ,st=>by
  rw[tX];have h1:=xW A l1 τ (st.1,st.2.1,r.rds A τ st.2.2);have h2:=xW A l2 τ (st.1,st.2.1,r.rds A τ st.2.2);show _<=_+(Ln.tws l1+Ln.tws l2)
  split
  .exact Nat.le_trans h2 (by show Wt.wcs st.1+_<=_; omega)
  .exact Nat.le_trans h1 (by show Wt.wcs st.1+_<=_; omega)
 |.each n r ls,τ,st=>by
  rw[tX];have c:=bM (r.val A τ);have f1:=rY (f:=fun st k=>rQ A ls (fZ τ (.inr n) (.int (k:Nat))) st) (m:=fun st=>Wt.wcs st.1) (c:=Ln.tws ls) (fun x k=>xW A ls _ x) (List.range (gD (r.val A τ))) (st.1,st.2.1,r.rds A τ st.2.2);rw[List.length_range] at f1;have hm:gD (r.val A τ) * Ln.tws ls<=8 * Ln.tws ls:=Nat.mul_le_mul_right _ c;show _<=Wt.wcs st.1+8 * Ln.tws ls;exact Nat.le_trans f1 (by show Wt.wcs st.1+_<=_; omega)
 |.part k n g,τ,st=>by
  rw[tX];show Wt.wcs (st.1++[_])<=_;rw[Wt.wcs_app];exact Nat.le_refl _
 |.give k n r ls,τ,st=>by
  rw[tX];have h:=xW A ls τ ([],[],r.rds A τ (cW A τ k st.2.2));show Wt.wcs (st.1++[_])<=_;rw[Wt.wcs_app];show Wt.wcs st.1+((1+Wt.wcs _)+0)<=Wt.wcs st.1+(1+Ln.tws ls);have h:Wt.wcs (rQ A ls τ ([],[],r.rds A τ (cW A τ k st.2.2))).1<=0+Ln.tws ls:=h;omega
 |.plain k tag s hs ls,τ,st=>by
  rw[tX];have h:=xW A ls τ ([],[],zW A τ hs (uV A τ s (cW A τ k st.2.2)));show Wt.wcs (st.1++[_])<=_;rw[Wt.wcs_app];show Wt.wcs st.1+((1+Wt.wcs _)+0)<=Wt.wcs st.1+(1+Ln.tws ls);have h:Wt.wcs (rQ A ls τ ([],[],zW A τ hs (uV A τ s (cW A τ k st.2.2)))).1<=0+Ln.tws ls:=h;omega
theorem xW (A:Rds):∀(ls:List Ln) (τ:Tns) (st:DSt),Wt.wcs (rQ A ls τ st).1<=Wt.wcs st.1+Ln.tws ls
 |[],τ,st=>by rw[hZ]; exact Nat.le_add_right _ _
 |l::ls,τ,st=>by
  rw[uZ];have h1:=one_wc A l τ st;have h2:=xW A ls τ (tX A l τ st);show _<=_+(l.tw+Ln.tws ls);omega
end
structure Prt where
 path:lX
 name:Str
 gives:List (Str×Int)
 downs:List (Str×Int)
def wZ (p:lX):PV:=.tup (p.map mK)
def Prt.pv (x:Prt):PV:=.tup [wZ x.path,.str x.name,.tup (x.gives.map dQ),.tup (x.downs.map dQ)]
mutual
def Wt.prt:Wt->lX->List (Str×Int)->List Prt
 |.part sp n g,s,ds=>[⟨s++[sp],n,g,ds⟩]
 |.give sp n i r,s,ds=>Wt.prts r (s++[sp]) (yV ds [(n,i)])
 |.plain sp _ _ _ r,s,ds=>Wt.prts r (s++[sp]) ds
def Wt.prts:List Wt->lX->List (Str×Int)->List Prt
 |[],_,_=>[]
 |x::r,s,ds=>x.prt s ds++Wt.prts r s ds
end
mutual
theorem prt_len:∀(x:Wt) (s:lX) (ds:List (Str×Int)),(x.prt s ds).length=x.pc
 |.part _ _ _,_,_=>rfl
 |.give sp n i r,s,ds=>by rw[Wt.prt,Wt.pc]; exact uJ r _ _
 |.plain sp _ _ _ r,s,ds=>by rw[Wt.prt,Wt.pc]; exact uJ r _ _
theorem uJ:∀(r:List Wt) (s:lX) (ds:List (Str×Int)),(Wt.prts r s ds).length=Wt.pcs r
 |[],_,_=>rfl
 |x::r,s,ds=>by rw[Wt.prts,Wt.pcs,List.length_append,prt_len x,uJ r]
end
theorem bT (xs ys:List Wt)(s:lX)(ds:List (Str×Int)):Wt.prts (xs++ys) s ds=Wt.prts xs s ds++Wt.prts ys s ds:=by
 induction xs with
 |nil=>rfl
 |cons x xs ih=>rw[List.cons_append,Wt.prts,Wt.prts,ih,List.append_assoc]
theorem wt_pv (x:Wt):∃(wd:Str) (rest:List PV),x.pv=.tup (.str wd::mK x.sp::rest)/\(wd = "plain"\/wd = "part"\/wd = "give"):=by
 cases x with
 |plain s t g h r=>exact⟨"plain",_,by rw[Wt.pv]; rfl,.inl rfl⟩
 |part s n g=>exact⟨"part",_,by rw[Wt.pv]; rfl,.inr (.inl rfl)⟩
 |give s n i r=>exact⟨"give",_,by rw[Wt.pv]; rfl,.inr (.inr rfl)⟩
section
variable {P:Program}{w:World}{K:PySem.W.Frag}{mg:Str->Option Value}{base:Heap}{a:Adr}
def gPs (d:Nat):GC:=fun ts C Q=>∃(r:List Wt) (s:lX) (ds:List (Str×Int)) (rs:List Str),ts=[.tup (Wt.pvs r),wZ s,.tup (ds.map dQ)]/\dM rs d r/\s.length+d<=50/\ds.length+d<=50/\Wt.pcs r<=1000 /\
 ∀p C',C p=none->C' p=some (.lst ((Wt.prts r s ds).map Prt.pv))->Gr C C'->Q (.ref p) C'
theorem Jm (T:Txt P w K mg a)(d:Nat):FnOk P w K mg base CX0 (d+2) (a.f 26) (a.d 26) U3 (spC K (gPs d)):=by
 have main:∀n,(∀d',n=d'+1->FnOk P w K mg base CX0 (n+1) (a.f 26) (a.d 26) U3 (spC K (gPs d')))->FnOk P w K mg base CX0 (n+2) (a.f 26) (a.d 26) U3 (spC K (gPs n)):=by
  intro n ih;have S:=(T.F 26 rfl).s;have yH:=(QH (base:=base) T).mono (show 1<=n+1 by omega)
  have cU:FnOk P w K mg base CX0 (n+1) (a.f 26) (a.d 26) U3 (spC K (fun ts C Q=>∃d',n=d'+1/\gPs d' ts C Q)):=by
   cases n with
   |zero=>exact oK fun ts C Q ⟨d',e,_⟩=>by omega
   |succ d' =>
    have:=ih d' rfl
    have e:(fun ts C Q=>∃d'',d'+1=d''+1/\gPs d'' ts C Q)=gPs d':=by
     funext ts C Q
     refine propext ⟨fun⟨d'',e,h⟩=>?_,fun h=>⟨d',rfl,h⟩⟩;cases Nat.succ.inj e;exact h
    rw[e];exact this
  refine(T.F 26 rfl).ok (fun ts C R h=>?_) fun cdv A outer s H E hr=>⟨_,(xQ (cs1 3 S.nd (nX yZ))
  (xQ (uM PassesOwn.never rfl (cv 0) (cg1 4 S.nd) (xQ (cs1 5 S.nd (eQ gX bX (cv 1) (fQ (ca1 (cx (cv 4) zQ)))))
  (xQ (zX (ct2 mX iQ (cx (cv 4) zQ) vQ) (kQ (iX (cap (cv 3) (fQ (qQ (cv 5) (qQ (cx (cv 4) zQ) (qQ (cx (cv 4) zQ) (ca1 (cv 2))))))))) tQ)
  (xQ (zX (ct2 mX iQ (cx (cv 4) zQ) vQ) (kQ (cs1 3 S.nd (eQ gX bX (cv 3) (cf (T.F 26 rfl) cU hr (qQ (cx (cv 4) zQ) (qQ (cv 5) (ca1 (cf (T.F 25 rfl) yH hr (qQ (cv 2) (ca1 (fQ (ca1 (fQ (qQ (cx (cv 4) zQ) (ca1 (cx (cv 4) zQ)))))))))))))))) tQ)
  (kQ (zX (ct2 mX iQ (cx (cv 4) zQ) vQ) (kQ (cs1 3 S.nd (eQ gX bX (cv 3) (cf (T.F 26 rfl) cU hr (qQ (cx (cv 4) zQ) (qQ (cv 5) (ca1 (cv 2)))))))) tQ))))))
  (kQ (pQ (cv 3))))),?_⟩
  .obtain ⟨r,s,ds,rs,rfl,_⟩:=h; rfl
  rintro ts C R ⟨r,s,ds,rs,rfl,ok,hs,hd,hpc,q⟩;refine uQ ?_;refine⟨by show 0<=sizeLine; decide,fun p p0=>?_⟩
  try dsimp only
  refine vZ ?_;refine bP rfl ?_;refine oJ (fun zs ρ C'=>∃(p:Addr) (x4 x5:Option PV) (us vs:List Wt),r=us++vs/\zs=Wt.pvs vs/\ρ=[some (.tup (Wt.pvs r)),some (wZ s),some (.tup (ds.map dQ)),some (.ref p),x4,x5]/\C p=none/\C' p=some (.lst ((Wt.prts us s ds).map Prt.pv))/\Gr C C') ?_ ?_ _ _ _ ⟨p,_,_,[],r,rfl,rfl,rfl,p0,jQ,Gr.new p0 _⟩
  .rintro z zs ρ C1 ⟨p,x4,x5,us,vs,e,hz,rfl,p0,m1,g1⟩ L hL
   cases vs with
   |nil=>cases hz
   |cons u vs =>
   obtain⟨rfl,rfl⟩:=List.cons.inj (show z::zs=u.pv::Wt.pvs vs from hz);have hu:=ok.1 u (by rw[e]; exact List.mem_append_right _ List.mem_cons_self);have hpc2:Wt.pcs us+(u.pc+Wt.pcs vs)<=1000:=by have:=hpc; rw[e,Wt.pcs_app] at this; exact this
   have hus:((Wt.prts us s ds).map Prt.pv).length=Wt.pcs us:=by rw[List.length_map,uJ]
   have ea:Wt.prts (us++[u]) s ds=Wt.prts us s ds++u.prt s ds:=by rw[bT,Wt.prts,Wt.prts,List.append_nil]
   obtain⟨wd,rest,ep,hwd⟩:=wt_pv u;refine uQ ?_;refine wX ep Xm ?_;refine⟨by show 1<=sizeLine; decide,?_⟩;refine uC (cV (by rw[List.length_map]; show s.length+1<=1000; omega)) ?_
   try dsimp only
   have eh:PV.tup (s.map mK++[mK u.sp])=wZ (s++[u.sp]):=by unfold wZ; rw[List.map_append]; rfl
   rw[eh]
   cases n with
   |zero=>exact hu.elim
   |succ d' =>
   cases u with
   |part sp nm g =>
    have ep:(Wt.part sp nm g).pv=.tup [.str "part",mK sp,.str nm,.tup (g.map dQ)]:=by rw[Wt.pv]
    refine vZ ?_;refine wX ep sQ ?_;refine xX (lQ _ _) ?_;refine pK (by decide) ?_;refine⟨zG m1,?_⟩;refine wX ep (v:=.str nm) rfl ?_;refine wX ep (v:=.tup (g.map dQ)) rfl ?_;refine⟨by show 4<=sizeLine; decide,?_⟩;refine vH m1 (by rw[hus]; exact Nat.lt_of_le_of_lt (show Wt.pcs us<=1000 by omega) (by decide)) ?_
    try dsimp only
    refine vZ ?_;refine wX ep sQ ?_;refine xX (lQ _ _) ?_;refine qZ (by decide) ?_;refine vX ?_
    try dsimp only
    refine wX ep sQ ?_;refine xX (lQ _ _) ?_;refine qZ (by decide) ?_;refine vX ?_;refine hL _ _ ⟨p,_,_,us++[.part sp nm g],vs,by rw[List.append_assoc]; exact e,rfl,rfl,p0,?_,kB g1 p0 _⟩;rw[jQ,ea,List.map_append,Wt.prt]
    rfl
   |give sp nm i rw_ =>
    obtain⟨_,bi,o1,o2⟩:=hu;have ep:(Wt.give sp nm i rw_).pv=.tup [.str "give",mK sp,.str nm,.int i,.tup (Wt.pvs rw_)]:=by rw[Wt.pv]
    have hpcu:Wt.pcs rw_=(Wt.give sp nm i rw_).pc:=by rw[Wt.pc]
    refine vZ ?_;refine wX ep sQ ?_;refine xX (lQ _ _) ?_;refine qZ (by decide) ?_;refine vX ?_
    try dsimp only
    refine vZ ?_;refine wX ep sQ ?_;refine xX (lQ _ _) ?_;refine pK (by decide) ?_;refine wX ep (v:=.tup (Wt.pvs rw_)) rfl ?_;refine wX ep (v:=.str nm) rfl ?_;refine wX ep (v:=.int i) rfl ?_;refine⟨by show 2<=sizeLine; decide,?_⟩;refine⟨by show 1<=sizeLine; decide,?_⟩;refine⟨ds,[(nm,i)],rfl,by show ds.length+1<=60; omega,fun C2 g2=>?_⟩;have hol:=xU ds [(nm,i)];have hol:(yV ds [(nm,i)]).length<=ds.length+1:=hol
    refine⟨d',rfl,rw_,s++[sp],yV ds [(nm,i)],rs,rfl,⟨o1,o2⟩,by rw[List.length_append,List.length_singleton]; omega,by omega,by omega,fun p3 C3 n3 m3 g3=>?_⟩;refine yD (g3 _ _ (g2 _ _ m1)) m3 (cV (by rw[hus,List.length_map,uJ]; omega)) fun p4 p40=>?_
    try dsimp only
    refine wX ep sQ ?_;refine xX (lQ _ _) ?_;refine qZ (by decide) ?_;refine vX ?_;have g13:Gr C C3:=(g1.trans g2).trans g3;refine hL _ _ ⟨p4,_,_,us++[.give sp nm i rw_],vs,by rw[List.append_assoc]; exact e,rfl,rfl,yW g13 p40,?_,g13.trans (Gr.new p40 _)⟩;rw[jQ,ea,List.map_append,Wt.prt]
   |plain sp tag sets hs rw_ =>
    obtain⟨_,_,o1,o2⟩:=hu;have ep:(Wt.plain sp tag sets hs rw_).pv=.tup [.str "plain",mK sp,.str tag,.tup (sets.map dQ),.tup (hs.map HdV.pv),.tup (Wt.pvs rw_)]:=by rw[Wt.pv]
    have hpcu:Wt.pcs rw_=(Wt.plain sp tag sets hs rw_).pc:=by rw[Wt.pc]
    refine vZ ?_;refine wX ep sQ ?_;refine xX (lQ _ _) ?_;refine qZ (by decide) ?_;refine vX ?_
    try dsimp only
    refine vZ ?_;refine wX ep sQ ?_;refine xX (lQ _ _) ?_;refine qZ (by decide) ?_;refine vX ?_
    try dsimp only
    refine wX ep sQ ?_;refine xX (lQ _ _) ?_;refine pK (by decide) ?_;refine wX ep (v:=.tup (Wt.pvs rw_)) rfl ?_;refine⟨d',rfl,rw_,s++[sp],ds,rs,rfl,⟨o1,o2⟩,by rw[List.length_append,List.length_singleton]; omega,by omega,by omega,fun p3 C3 n3 m3 g3=>?_⟩;refine yD (g3 _ _ m1) m3 (cV (by rw[hus,List.length_map,uJ]; omega)) fun p4 p40=>?_;have g13:Gr C C3:=g1.trans g3;refine hL _ _ ⟨p4,_,_,us++[.plain sp tag sets hs rw_],vs,by rw[List.append_assoc]; exact e,rfl,rfl,yW g13 p40,?_,g13.trans (Gr.new p40 _)⟩
    rw[jQ,ea,List.map_append,Wt.prt]
  .rintro ρ C1 ⟨p,x4,x5,us,vs,e,hz,rfl,p0,m1,g1⟩
   cases vs with
   |cons u vs=>cases hz
   |nil =>
   rw[List.append_nil] at e;subst e;exact q p C1 p0 m1 g1
 induction d with
 |zero=>exact main 0 fun d' e=>by omega
 |succ d ih=>exact main (d+1) fun d' e=>by cases Nat.succ.inj e; exact ih
end
def Div (p q:lX):Prop:=∃c x y p' q',p=c++x::p'/\q=c++y::q'/\x≠y
structure Vf (rs:List Str)(s:lX)(nd:Nat)(x:Prt)(d:Nat):Prop where
 name:x.name∈rs
 gl:x.gives.length<=4
 gb:SBd x.gives
 db:SBd x.downs
 dl:x.downs.length<=nd+d
 path:∃u,x.path=s++u/\u≠[]/\u.length<=d
theorem QD {rs:List Str}:∀(d:Nat) (r:List Wt) (s:lX) (ds:List (Str×Int)),dM rs d r->SBd ds->(∀x∈Wt.prts r s ds,Vf rs s ds.length x d)/\(Wt.prts r s ds).Pairwise (fun x y=>Div x.path y.path):=by
 intro d
 induction d with
 |zero =>
  intro r s ds ok hb
  cases r with
  |nil=>exact⟨fun _ z=>(nomatch z),.nil⟩
  |cons x r=>exact(ok.1 x List.mem_cons_self).elim
 |succ d ih =>
  intro r s ds ok hb
  have one:∀x:Wt,WtOk rs (d+1) x->(∀y∈x.prt s ds,Vf rs s ds.length y (d+1)/\∃u,y.path=s++x.sp::u)/\(x.prt s ds).Pairwise (fun x y=>Div x.path y.path):=by
   intro x hx
   cases x with
   |part sp n g =>
    rw[Wt.prt];refine⟨fun y hy=>?_,List.pairwise_singleton _ _⟩;cases List.mem_singleton.1 hy;exact⟨⟨hx.2.1,hx.2.2.1,hx.2.2.2,hb,by show ds.length<=_; omega,[sp],rfl,by simp,by show 1<=d+1; omega⟩,[],rfl⟩
   |give sp n i r' =>
    rw[Wt.prt];obtain⟨_,bi,o1,o2⟩:=hx;have hob:SBd (yV ds [(n,i)]):=hb.over fun c hc=>by cases List.mem_singleton.1 hc; exact bi
    have hol:(yV ds [(n,i)]).length<=ds.length+1:=xU ds [(n,i)];obtain⟨h1,h2⟩:=ih r' (s++[sp]) (yV ds [(n,i)]) ⟨o1,o2⟩ hob;refine⟨fun y hy=>?_,h2⟩;have o:=h1 y hy;obtain⟨u,e,_,ul⟩:=o.path;have e':y.path=s++sp::u:=by rw[e,List.append_assoc]; rfl
    exact⟨⟨o.name,o.gl,o.gb,o.db,by have:=o.dl; omega,sp::u,e',by simp,by rw[List.length_cons]; omega⟩,u,e'⟩
   |plain sp tag ss hs r' =>
    rw[Wt.prt];obtain⟨_,_,o1,o2⟩:=hx;obtain⟨h1,h2⟩:=ih r' (s++[sp]) ds ⟨o1,o2⟩ hb;refine⟨fun y hy=>?_,h2⟩;have o:=h1 y hy;obtain⟨u,e,_,ul⟩:=o.path;have e':y.path=s++sp::u:=by rw[e,List.append_assoc]; rfl
    exact⟨⟨o.name,o.gl,o.gb,o.db,by have:=o.dl; omega,sp::u,e',by simp,by rw[List.length_cons]; omega⟩,u,e'⟩
  have all:∀r:List Wt,(∀x∈r,WtOk rs (d+1) x)->(r.map Wt.sp).Nodup->(∀x∈Wt.prts r s ds,Vf rs s ds.length x (d+1)/\∃y∈r,∃u,x.path=s++y.sp::u)/\(Wt.prts r s ds).Pairwise (fun x y=>Div x.path y.path):=by
   intro r
   induction r with
   |nil=>intro _ _; exact⟨fun _ z=>(nomatch z),.nil⟩
   |cons x r ihr =>
    intro h nd;rw[List.map_cons,List.nodup_cons] at nd;obtain⟨a1,a2⟩:=one x (h x List.mem_cons_self);obtain⟨b1,b2⟩:=ihr (fun y hy=>h y (List.mem_cons_of_mem _ hy)) nd.2;rw[Wt.prts];refine⟨fun y hy=>?_,?_⟩
    .rcases List.mem_append.1 hy with hy | hy
     .exact ⟨(a1 y hy).1,x,List.mem_cons_self,(a1 y hy).2⟩
     .obtain ⟨c1,z,hz,c2⟩:=b1 y hy
      exact⟨c1,z,List.mem_cons_of_mem _ hz,c2⟩
    .rw [List.pairwise_append]
     refine⟨a2,b2,fun y hy z hz=>?_⟩;obtain⟨_,u,e1⟩:=a1 y hy;obtain⟨_,t,ht,v,e2⟩:=b1 z hz;refine⟨s,x.sp,t.sp,u,v,e1,e2,fun e=>nd.1 ?_⟩;rw[e];exact List.mem_map.2 ⟨t,ht,rfl⟩
  obtain⟨c1,c2⟩:=all r ok.1 ok.2;exact⟨fun x hx=>(c1 x hx).1,c2⟩
theorem vE {t:TCT}{c:TCE}{ρ:CSt}{Q:K1}(b:PV->Bool):∀(xs acc:List PV) (C:CH),(∀x∈xs,∀(K:Bool->CH->Prop),K (b x) C->t (some x::ρ) C K)->(∀x∈xs,∀(L:K1),L x C->c (some x::ρ) C L)->acc.length+xs.length<=1000->(∀p,C p=none->Q (.ref p) (yQ C p (.lst (acc++xs.filter b))))->kZ t c ρ Q xs acc C:=by
 intro xs
 induction xs with
 |nil =>
  intro acc C _ _ _ q;rw[List.filter_nil,List.append_nil] at q;exact jW q
 |cons x xs ih =>
  intro acc C ht hc hl q;rw[List.length_cons] at hl;refine yX ?_;refine ht x List.mem_cons_self _ ?_
  cases e:b x with
  |true =>
   rw[if_pos rfl];refine hc x List.mem_cons_self _ ⟨Nat.lt_of_lt_of_le (show acc.length < 1000 by omega) (by decide),?_⟩;refine ih (acc++[x]) C (fun y hy=>ht y (List.mem_cons_of_mem _ hy)) (fun y hy=>hc y (List.mem_cons_of_mem _ hy)) (by rw[List.length_append,List.length_singleton]; omega) fun p hp=>?_;have:=q p hp;rw[List.filter_cons,e,if_pos rfl] at this;rw[List.append_assoc];exact this
  |false =>
   rw[if_neg (by decide)];refine ih acc C (fun y hy=>ht y (List.mem_cons_of_mem _ hy)) (fun y hy=>hc y (List.mem_cons_of_mem _ hy)) (by omega) fun p hp=>?_;have:=q p hp;rw[List.filter_cons,e,if_neg (by decide)] at this;exact this
def isNm (nm:Str):PV->Bool
 |.tup (.str s::_)=>decide (s=nm)
 |_=>false
theorem tN {nm:Str}:∀{pts:List Pt}{x:Pt},(vJ pts).Nodup->x∈pts->x.name=nm->(pts.map Pt.pv).filter (isNm nm)=[x.pv]
 |[],x,_,m,_=>nomatch m
 |y::pts,x,nd,m,e=>by
  have nd:(y.name::vJ pts).Nodup:=nd;rw[List.nodup_cons] at nd
  have none:∀l:List Pt,(∀z∈l,z.name≠nm)->(l.map Pt.pv).filter (isNm nm)=[]:=by
   intro l h;rw[List.filter_eq_nil_iff];intro z hz;obtain⟨w,hw,rfl⟩:=List.mem_map.1 hz;show ¬ decide (w.name=nm)=true;rw[decide_eq_false (h w hw)]
   decide
  rw[List.map_cons,List.filter_cons];have ei:isNm nm y.pv=decide (y.name=nm):=rfl
  rcases List.mem_cons.1 m with rfl | m
  .rw [ei,decide_eq_true e,if_pos rfl,none pts fun z hz hzn=>nd.1 (by rw[e,<- hzn]; exact List.mem_map.2 ⟨z,hz,rfl⟩)]
  .have ne:¬ y.name=nm:=fun z=>nd.1 (by rw[z,<- e]; exact List.mem_map.2 ⟨x,m,rfl⟩)
   rw[ei,decide_eq_false ne,if_neg (by decide)];exact tN nd.2 m e
abbrev Vl:=List (lX×(Str×List (Str×Int)))
def vPV (v:Str×List (Str×Int)):PV:=.tup [.str v.1,.tup (v.2.map dQ)]
def vlP (V:Vl):List (lX×PV):=V.map fun e=>(e.1,vPV e.2)
def zP (V:Vl)(p:lX):Option (Str×List (Str×Int)):=(V.find? fun e=>decide (e.1=p)).map (·.2)
theorem aE (V:Vl)(p:lX):iK (vlP V) p=(zP V p).map vPV:=by
 induction V with
 |nil=>rfl
 |cons e V ih =>
  show iK ((e.1,vPV e.2)::vlP V) p=_;rw[sV];unfold zP;rw[List.find?_cons]
  by_cases h:e.1=p
  .rw [if_pos h,decide_eq_true h]; rfl
  .rw [if_neg h,decide_eq_false h,ih]; rfl
def gZ (V:Vl)(y:Pt)(p:lX):List (Str×Int):=match zP V p with
 |some v=>if v.1=y.name then v.2 else y.first
 |none=>y.first
def wJ (s:Str)(ps:List (Str×Int))(A:Rds):Rds:=ps.foldl (fun A c=>putG A (qK s c.1) (.int c.2)) A
def oM (L:List (Str×List (Str×Int)))(A:Rds):Rds:=L.foldl (fun A e=>wJ e.1 e.2 A) A
def dF (x:Prt)(bx:List (Str×Int)):List (Str×List (Str×Int)):=[("take",x.gives),("down",x.downs),("box",bx)]
def xG (x:Prt)(bx:List (Str×Int)):Rds:=oM (dF x bx) []
def srPV (e:Str×List (Str×Int)):PV:=.tup [.str e.1,.tup (e.2.map dQ)]
structure VOk (V:Vl):Prop where
 b:∀e∈V,SBd e.2.2
 l:∀e∈V,e.2.2.length<=4
theorem XT {V:Vl}{p:lX}{v:Str×List (Str×Int)}(h:zP V p=some v):∃e∈V,e.2=v:=by
 unfold zP at h
 cases e:V.find? fun e=>decide (e.1=p) with
 |none=>rw[e] at h; cases h
 |some x=>rw[e] at h; cases h; exact⟨x,List.mem_of_find?_eq_some e,rfl⟩
theorem dE {V:Vl}(hV:VOk V){y:Pt}{rs:List Str}{cap:Nat}(ok:Zo rs cap y)(p:lX):SBd (gZ V y p)/\(gZ V y p).length<=4:=by
 unfold gZ
 cases e:zP V p with
 |none=>exact⟨fun c hc=>ok.fb c hc,ok.fl⟩
 |some v =>
  obtain⟨x,hx,rfl⟩:=XT e;dsimp only
  split
  .exact ⟨hV.b x hx,hV.l x hx⟩
  .exact ⟨fun c hc=>ok.fb c hc,ok.fl⟩
theorem ABd.put {A:Rds}(h:ABd A)(k:List Key){i:Int}(hi:Bd i):ABd (putG A k (.int i)):=fun kv hkv=>by
 rcases uT hkv with e | e
 .exact ⟨i,e,hi⟩
 .exact h kv e
theorem zU {s:Str}:∀{ps:List (Str×Int)}{A:Rds},SBd ps->ABd A->ABd (wJ s ps A)
 |[],A,_,h=>h
 |c::ps,A,hp,h=>zU (ps:=ps) (fun x hx=>hp x (List.mem_cons_of_mem _ hx)) (h.put _ (hp c List.mem_cons_self))
theorem ans_bd {x:Prt}{bx:List (Str×Int)}(h1:SBd x.gives)(h2:SBd x.downs)(h3:SBd bx):ABd (xG x bx):=zU h3 (zU h2 (zU h1 (A:=[]) fun _ z=>(nomatch z)))
theorem ZY {κ:Type}[DecidableEq κ](R:List (κ×PV))(k:κ)(v:PV):(putG R k v).length<=R.length+1:=by
 unfold putG
 split
 .rw [List.length_map]; omega
 .rw [List.length_append,List.length_singleton]; exact Nat.le_refl _
theorem eV {s:Str}:∀(ps:List (Str×Int)) (A:Rds),(wJ s ps A).length<=A.length+ps.length
 |[],A=>Nat.le_refl _
 |c::ps,A=>by
  have h1:=eV (s:=s) ps (putG A (qK s c.1) (.int c.2));have h2:=ZY A (qK s c.1) (.int c.2);show(wJ s ps (putG A (qK s c.1) (.int c.2))).length<=_;rw[List.length_cons];omega
theorem iB:∀p:lX,mT (wZ p)=some p:=by
 intro p;show uN (p.map mK)=some p
 induction p with
 |nil=>rfl
 |cons k p ih =>
  have hk:sB (mK k)=some k:=by
   show zB (k.map aV)=some k
   induction k with
   |nil=>rfl
   |cons a k ihk =>
    show(match jK (aV a),zB (k.map aV) with | some k,some ks=>some (k::ks) | _,_=>none)=_;rw[CL.keyOf_keyPV,ihk]
  show(match sB (mK k),uN (p.map mK) with | some k,some ks=>some (k::ks) | _,_=>none)=_;rw[hk,ih]
theorem pin_s {p:Addr}{y:PV}{k:lX}{kvs:List (lX×PV)}{C:CH}{Q:K1}(m:C p=some (.dP kvs))(hk:mT y=some k)(q:Q (.bl (iK kvs k).isSome) C):cPIn y (.ref p) C Q:=by
 unfold cPIn;dsimp only;rw[m,hk];exact q
theorem pix_s {p:Addr}{y v:PV}{k:lX}{kvs:List (lX×PV)}{C:CH}{Q:K1}(m:C p=some (.dP kvs))(hk:mT y=some k)(hv:iK kvs k=some v)(q:Q v C):cPIx (.ref p) y C Q:=by
 unfold cPIx;dsimp only;rw[m,hk];show(match iK kvs k with | some v=>Q v C | none=>False);rw[hv];exact q
theorem Z2 {p:Addr}{y v:PV}{k:lX}{kvs:List (lX×PV)}{C:CH}{Q:CH->Prop}(m:C p=some (.dP kvs))(hk:mT y=some k)(h:kvs.length<=100000)(q:Q (yQ C p (.dP (putG kvs k v)))):Xh (.ref p) y v C Q:=by
 unfold Xh;dsimp only;rw[m,hk];exact⟨Nat.lt_of_le_of_lt h (by decide),q⟩
section
variable {P:Program}{w:World}{K:PySem.W.Frag}{mg:Str->Option Value}{base:Heap}{a:Adr}
def gNamed:GC:=fun ts C Q=>∃(pts:List Pt) (x:Pt),ts=[.tup (pts.map Pt.pv),.str x.name]/\pts.length<=6/\(vJ pts).Nodup/\x∈pts/\∀C',Gr C C'->Q x.pv C'
theorem iL (T:Txt P w K mg a):FnOk P w K mg base CX0 1 (a.f 27) (a.d 27) U12 (spC K gNamed):=by
 have S:=(T.F 27 rfl).s;refine(T.F 27 rfl).ok (fun ts C R h=>?_) fun cdv A outer s H E hr=>⟨_,(kQ (pQ (cx (bW rfl (S.c (by decide +kernel)) (S.k rfl rfl rfl (by decide +kernel)) (tP (cv 0)) (fun _ _ _ _ _=>(KK (ct2 mX iQ (cx (cv 0) zQ) (cv 2)))) (fun _ _ _ _ _=>(cv 0))) zQ))),?_⟩
 .obtain ⟨pts,x,rfl,_⟩:=h; rfl
 rintro ts C R ⟨pts,x,rfl,hl,nd,hx,q⟩;refine vE (isNm x.name) _ [] C (fun y hy K hK=>?_) (fun y hy L hL=>hL) (by rw[List.length_map]; show 0+pts.length<=1000; omega) fun p hp=>?_
 .obtain ⟨z,hz,rfl⟩:=List.mem_map.1 hy
  refine rX (xs:=[.str z.name,.tup (z.first.map dQ),.tup (z.works.map mV),.tup (Ln.pvs z.ls)]) sQ ?_;refine xX (lQ _ _) ?_;exact hK
 .rw [List.nil_append,tN nd hx rfl]
  refine dX jQ sQ ?_;exact q _ (Gr.new hp _)
def gAns:GC:=fun ts C Q=>∃(pts:List Pt) (vv:Addr) (V:Vl) (x:Prt) (y:Pt),ts=[.tup (pts.map Pt.pv),.ref vv,x.pv]/\pts.length<=6/\(vJ pts).Nodup/\y∈pts/\y.name=x.name/\C vv=some (.dP (vlP V))/\(x.gives.length<=4/\x.downs.length<=60/\(gZ V y x.path).length<=4) /\
 ∀aa C',C aa=none->C' aa=some (.dT (xG x (gZ V y x.path)))->Gr C C'->Q (.ref aa) C'
theorem cA (T:Txt P w K mg a):FnOk P w K mg base CX0 2 (a.f 28) (a.d 28) U2 (spC K gAns):=by
 have S:=(T.F 28 rfl).s;have bY:=iL (base:=base) T
 refine(T.F 28 rfl).ok (fun ts C R h=>?_) fun cdv A outer s H E hr=>⟨_,(xQ (rP (cv 2) (uF rfl (cX (cg1 3 S.nd) (cX (cg1 4 S.nd) (cX (cg1 5 S.nd) (cX (cg1 6 S.nd) mU))))))
  (xQ (cs1 7 S.nd (cx (cf (T.F 27 rfl) bY hr (qQ (cv 0) (ca1 (cv 4)))) zQ))
  (xQ (zX (cw_pt (cw_and (tI (op_pin (xF hr)) cop_pin (cv 3) (cv 1) rfl) (cw_and1 (ct2 mX iQ (cx (KM (xF hr) (cv 1) (cv 3) (fun _ _=>rfl)) zQ) (cv 4))))) (kQ (cs1 7 S.nd (cx (KM (xF hr) (cv 1) (cv 3) (fun _ _=>rfl)) zQ))) tQ)
  (xQ (cs1 8 S.nd Q9)
  (xQ (gU PassesOwn.never rfl (nX (qQ (fQ (qQ vQ (ca1 (cv 5)))) (qQ (fQ (qQ vQ (ca1 (cv 6)))) (ca1 (fQ (qQ vQ (ca1 (cv 7)))))))) (uF rfl (cX (cg1 9 S.nd) (cX (cg1 10 S.nd) mU))) (kQ (uM PassesOwn.never rfl (cv 10) (uF rfl (cX (cg1 11 S.nd) (cX (cg1 12 S.nd) mU))) (kQ (Q5 (oX hr) (cv 8) (fQ (qQ (cv 9) (ca1 (cv 11)))) (cv 12))))))
  (kQ (pQ (cv 8)))))))),?_⟩
 .obtain ⟨pts,vv,V,x,y,rfl,_⟩:=h; rfl
 rintro ts C R ⟨pts,vv,V,x,y,rfl,hl,nd,hy,hn,hv,⟨l1,l2,l3⟩,q⟩;refine vZ ?_;refine⟨rfl,?_⟩;refine zZ (zZ (zZ (zZ (wF ?_))))
 try dsimp only
 refine uQ ?_;refine⟨pts,y,by rw[hn],hl,nd,hy,fun C1 g1=>?_⟩;refine rX (xs:=[.str y.name,.tup (y.first.map dQ),.tup (y.works.map mV),.tup (Ln.pvs y.ls)]) (v:=.tup (y.first.map dQ)) rfl ?_
 try dsimp only
 have v1:=g1 _ _ hv;refine aQ (fun ρ' C'=>C'=C1/\ρ'=[some (.tup (pts.map Pt.pv)),some (.ref vv),some x.pv,some (wZ x.path),some (.str x.name),some (.tup (x.gives.map dQ)),some (.tup (x.downs.map dQ)),some (.tup ((gZ V y x.path).map dQ)),none,none,none,none,none]) (fun L hL=>?_) ?_
 .refine pin_s v1 (iB _) ?_
  rw[aE];unfold gZ at hL
  cases e:zP V x.path with
  |none =>
   rw[e] at hL;refine qZ rfl ?_;refine vM rfl ?_;refine vX ?_;exact hL _ _ ⟨rfl,rfl⟩
  |some v =>
   rw[e] at hL;dsimp only at hL;refine pK rfl ?_;refine pix_s v1 (iB _) (v:=vPV v) (by rw[aE,e]; rfl) ?_;refine rX (xs:=[.str v.1,.tup (v.2.map dQ)]) sQ ?_;refine xX (lQ _ _) ?_
   by_cases h:v.1=x.name
   .rw [if_pos (h.trans hn.symm)] at hL
    refine pK (decide_eq_true h) ?_;refine pix_s v1 (iB _) (v:=vPV v) (by rw[aE,e]; rfl) ?_;refine rX (xs:=[.str v.1,.tup (v.2.map dQ)]) (v:=.tup (v.2.map dQ)) rfl ?_;exact hL _ _ ⟨rfl,rfl⟩
   .rw [if_neg (fun z=>h (z.trans hn))] at hL
    refine qZ (decide_eq_false h) ?_;refine vX ?_;exact hL _ _ ⟨rfl,rfl⟩
 generalize hbx:gZ V y x.path=bx at l3 q;rintro ρ' C' ⟨rfl,rfl⟩
 try dsimp only
 refine uQ ?_;intro aa haa;have haa0:C aa=none:=yW g1 haa
 try dsimp only
 refine aQ (fun ρ' C''=>∃(x9 x10 x11 x12:Option PV),ρ'=[some (.tup (pts.map Pt.pv)),some (.ref vv),some x.pv,some (wZ x.path),some (.str x.name),some (.tup (x.gives.map dQ)),some (.tup (x.downs.map dQ)),some (.tup (bx.map dQ)),some (.ref aa),x9,x10,x11,x12]/\C'' aa=some (.dT (xG x bx))/\Gr C C'') (fun L hL=>?_) ?_
 .refine ⟨by show 2<=sizeLine; decide,?_⟩
  refine⟨by show 2<=sizeLine; decide,?_⟩;refine⟨by show 2<=sizeLine; decide,?_⟩;refine⟨by show 3<=sizeLine; decide,fun p hp=>?_⟩;have npa:p≠aa:=fun z=>by subst z; rw[jQ] at hp; cases hp
  have hp0:C p=none:=by rw[wQ npa] at hp; exact yW g1 hp
  refine⟨4,?_⟩
  have hlen:∀i,(oM ((dF x bx).take i) []).length<=100:=by
   intro i;have f1:=eV (s:="take") x.gives [];have f2:=eV (s:="down") x.downs (wJ "take" x.gives []);have f3:=eV (s:="box") bx (wJ "down" x.downs (wJ "take" x.gives []));have f1:(wJ "take" x.gives []).length<=0+x.gives.length:=f1
   match i with
   |0=>exact Nat.zero_le _
   |1=>show(wJ "take" x.gives []).length<=100; omega
   |2=>show(wJ "down" x.downs (wJ "take" x.gives [])).length<=100; omega
   |i+3=>rw[List.take_of_length_le (by show 3<=i+3; omega)]; show(wJ "box" bx (wJ "down" x.downs (wJ "take" x.gives []))).length<=100; omega
  refine rW (xs:=(dF x bx).map srPV) (fun i ρ C'=>C' p=some (.lst ((dF x bx).map srPV))/\∃(x9 x10 x11 x12:Option PV),ρ=[some (.tup (pts.map Pt.pv)),some (.ref vv),some x.pv,some (wZ x.path),some (.str x.name),some (.tup (x.gives.map dQ)),some (.tup (x.downs.map dQ)),some (.tup (bx.map dQ)),some (.ref aa),x9,x10,x11,x12]/\C' aa=some (.dT (oM ((dF x bx).take i) []))/\Gr C C') (fun _ _ _ h=>h.1) ?_ ?_ _ 0 _ _ ⟨jQ,_,_,_,_,rfl,by rw[wQ (Ne.symm npa)]; exact jQ,kB (kB g1 haa0 _) hp0 _⟩ rfl (Nat.zero_le _)
  .rintro i z ρ C3 hx ⟨m3,x9,x10,x11,x12,rfl,ma,g3⟩ L1 hL1
   rw[List.getElem?_map] at hx
   cases he:(dF x bx)[i]? with
   |none=>rw[he] at hx; cases hx
   |some e =>
   rw[he] at hx;cases hx;have hi:i < (dF x bx).length:=(List.getElem?_eq_some_iff.1 he).1
   have hel:e.2.length<=60:=by
    have hm:=List.mem_of_getElem? he;unfold dF at hm
    simp only[List.mem_cons,List.not_mem_nil,or_false] at hm
    rcases hm with rfl | rfl | rfl
    .show x.gives.length<=60; omega
    .exact l2
    .show bx.length<=60; omega
   refine⟨rfl,?_⟩;refine zZ (zZ (wF ?_))
   try dsimp only
   refine bP rfl ?_;refine oJ (fun zs ρ C'=>∃(us vs:List (Str×Int)) (x11 x12:Option PV),e.2=us++vs/\zs=vs.map dQ/\ρ=[some (.tup (pts.map Pt.pv)),some (.ref vv),some x.pv,some (wZ x.path),some (.str x.name),some (.tup (x.gives.map dQ)),some (.tup (x.downs.map dQ)),some (.tup (bx.map dQ)),some (.ref aa),some (.str e.1),some (.tup (e.2.map dQ)),x11,x12]/\C' p=some (.lst ((dF x bx).map srPV))/\C' aa=some (.dT (wJ e.1 us (oM ((dF x bx).take i) [])))/\Gr C C') ?_ ?_ _ _ _ ⟨[],e.2,_,_,rfl,rfl,rfl,m3,ma,g3⟩
   .rintro z zs ρ C4 ⟨us,vs,y11,y12,eu,hz,rfl,m4,ma4,g4⟩ L2 hL2
    cases vs with
    |nil=>cases hz
    |cons v vs =>
    obtain⟨rfl,rfl⟩:=List.cons.inj hz;refine⟨rfl,?_⟩;refine zZ (zZ (wF ?_))
    try dsimp only
    refine⟨by show 2<=sizeLine; decide,?_⟩;have hul:us.length<=e.2.length:=by rw[eu,List.length_append]; omega
    refine Zz (k:=qK e.1 v.1) ma4 rfl (by have:=eV (s:=e.1) us (oM ((dF x bx).take i) []); have:=hlen i; omega) ?_;refine hL2 _ _ ⟨us++[v],vs,_,_,by rw[List.append_assoc]; exact eu,rfl,rfl,by rw[wQ npa]; exact m4,?_,kB g4 haa0 _⟩;rw[jQ];unfold wJ;rw[List.foldl_append]
    rfl
   .rintro ρ C4 ⟨us,vs,y11,y12,eu,hz,rfl,m4,ma4,g4⟩
    cases vs with
    |cons v vs=>cases hz
    |nil =>
    rw[List.append_nil] at eu;subst eu;refine hL1 _ _ ⟨m4,_,_,_,_,rfl,?_,g4⟩;rw[ma4];have et:(dF x bx).take (i+1)=(dF x bx).take i++[e]:=by rw[List.take_add_one,he]; rfl
    rw[et];unfold oM;rw[List.foldl_append]
    rfl
  .rintro ρ C3 ⟨m3,x9,x10,x11,x12,rfl,ma,g3⟩
   exact hL _ _ ⟨_,_,_,_,rfl,ma,g3⟩
 rintro ρ' C3 ⟨x9,x10,x11,x12,rfl,ma,g3⟩
 try dsimp only
 exact q aa C3 haa0 ma g3
end
structure En where
 x:Prt
 pc:Pc
def En.pv (e:En):PV:=.tup [wZ e.x.path,.str e.x.name,.tup (e.x.gives.map dQ),.tup (e.x.downs.map dQ),e.pc.pv]
def tL (pts:List Pt)(nm:Str):Pt:=(pts.find? fun y=>decide (y.name=nm)).getD ⟨"",[],[],[]⟩
theorem QF {nm:Str}:∀{pts:List Pt}{y:Pt},(vJ pts).Nodup->y∈pts->y.name=nm->tL pts nm=y
 |[],y,_,m,_=>nomatch m
 |z::pts,y,nd,m,e=>by
  have nd:(z.name::vJ pts).Nodup:=nd;rw[List.nodup_cons] at nd;unfold tL;rw[List.find?_cons]
  rcases List.mem_cons.1 m with rfl | m
  .rw [decide_eq_true e]; rfl
  .have ne:¬ z.name=nm:=fun h=>nd.1 (by rw[h,<- e]; exact List.mem_map.2 ⟨y,m,rfl⟩)
   rw[decide_eq_false ne];exact QF nd.2 m e
def pY (pts:List Pt)(V:Vl)(x:Prt):Pc:=pcOf (xG x (gZ V (tL pts x.name) x.path)) (tL pts x.name)
def tZ (x q:Prt):Prt:=⟨x.path++q.path,q.name,q.gives,yV x.downs q.downs⟩
def dr (pts:List Pt)(V:Vl):Nat->Prt->List En
 |0,_=>[]
 |n+1,x=>⟨x,pY pts V x⟩::(Wt.prts (pY pts V x).row [] []).flatMap fun q=>dr pts V n (tZ x q)
structure oF (pts:List Pt)(k:Nat)(x:Prt):Prop where
 nm:(vJ pts)[k]?=some x.name
 gl:x.gives.length<=4
 gb:SBd x.gives
 db:SBd x.downs
 pl:x.path.length<=6 * k
 dl:x.downs.length<=6 * k
structure AtK (pts:List Pt)(V:Vl)(k:Nat)(x:Prt)(y:Pt):Prop where
 mem:y∈pts
 nm:y.name=x.name
 is:tL pts x.name=y
 ok:Zo ((vJ pts).drop (k+1)) (tK k) y
 ab:ABd (xG x (gZ V y x.path))
 row:dM ((vJ pts).drop (k+1)) 6 (pY pts V x).row
 pcs:Wt.pcs (pY pts V x).row<=tK k
 wcs:Wt.wcs (pY pts V x).row<=48
theorem Qj {pts:List Pt}(hs:lF pts){V:Vl}(hV:VOk V){k:Nat}{x:Prt}(h:oF pts k x):∃y,AtK pts V k x y:=by
 have hk:=h.nm;unfold vJ at hk;rw[List.getElem?_map] at hk
 cases e:pts[k]? with
 |none=>rw[e] at hk; cases hk
 |some y =>
  rw[e] at hk;have hn:y.name=x.name:=Option.some.inj hk;have hm:=List.mem_of_getElem? e;have ip:=QF hs.nd hm hn;have ok:=hs.ok k y e;have hb:=dE hV ok x.path;have ab:=ans_bd h.gb h.db hb.1;refine⟨y,hm,hn,ip,ok,ab,?_,?_,?_⟩
  .unfold pY
   rw[ip];exact row_ok ok.ls ⟨ab,(fun _ z=>nomatch z),(fun _ z=>nomatch z),by rw[List.length_map]; exact ok.fl⟩
  .unfold pY
   rw[ip];have:=kW (xG x (gZ V y x.path)) y.ls [] ([],[],[]);have this:Wt.pcs (rQ (xG x (gZ V y x.path)) y.ls [] ([],[],[])).1<=0+Ln.pws y.ls:=this;show Wt.pcs (rQ (xG x (gZ V y x.path)) y.ls [] ([],[],[])).1<=tK k;have:=ok.pw;omega
  .unfold pY
   rw[ip];have:=xW (xG x (gZ V y x.path)) y.ls [] ([],[],[]);have this:Wt.wcs (rQ (xG x (gZ V y x.path)) y.ls [] ([],[],[])).1<=0+Ln.tws y.ls:=this;show Wt.wcs (rQ (xG x (gZ V y x.path)) y.ls [] ([],[],[])).1<=48;have:=ok.tw;omega
theorem lG {pts:List Pt}{V:Vl}{k:Nat}{x:Prt}{y:Pt}(h:oF pts k x)(ha:AtK pts V k x y){q:Prt}(hq:q∈Wt.prts (pY pts V x).row [] []):∃k',k < k'/\oF pts k' (tZ x q)/\q.path≠[]/\q.path.length<=6/\q.downs.length<=6:=by
 have o:=(QD 6 _ [] [] ha.row (fun _ z=>nomatch z)).1 q hq;obtain⟨u,e,un,ul⟩:=o.path;have e:q.path=u:=e;obtain⟨j,hj,ej⟩:=List.getElem_of_mem o.name;have hd:q.downs.length<=0+6:=o.dl;refine⟨k+1+j,by omega,⟨?_,o.gl,o.gb,h.db.over o.db,?_,?_⟩,by rw[e]; exact un,by rw[e]; exact ul,by omega⟩
 .have:((vJ pts).drop (k+1))[j]?=some q.name:=by rw[List.getElem?_eq_getElem hj,ej]
  rw[List.getElem?_drop] at this;exact this
 .show (x.path++q.path).length<=_
  rw[List.length_append,e];have:=h.pl;omega
 .have:=xU x.downs q.downs
  have:=h.dl;show(yV x.downs q.downs).length<=_;omega
theorem QU {α β:Type}{f:α->List β}{b:Nat}:∀(l:List α),(∀x∈l,(f x).length<=b)->(l.flatMap f).length<=l.length * b
 |[],_=>by simp
 |x::l,h=>by
  have h1:=QU l fun y hy=>h y (List.mem_cons_of_mem _ hy);have h2:=h x List.mem_cons_self;rw[List.flatMap_cons,List.length_append,List.length_cons,Nat.add_mul,Nat.one_mul];omega
def lbd (m k:Nat):Nat:=if k=0 then 559 else 2 ^ m - 1
theorem dr_len {pts:List Pt}(hs:lF pts){V:Vl}(hV:VOk V):∀(n k:Nat) (x:Prt),oF pts k x->(dr pts V n x).length<=lbd (pts.length - k) k:=by
 intro n
 induction n with
 |zero=>intro k x _; exact Nat.zero_le _
 |succ n ih =>
  intro k x h;obtain⟨y,ha⟩:=Qj hs hV h
  have hkl:k < pts.length:=by
   have:=(List.getElem?_eq_some_iff.1 h.nm).1;unfold vJ at this;rw[List.length_map] at this;exact this
  have hN:=hs.n6
  have h1:(dr pts V (n+1) x).length<=1+tK k * (2 ^ (pts.length - k - 1) - 1):=by
   rw[dr,List.length_cons]
   have hf:=QU (f:=fun q=>dr pts V n (tZ x q)) (b:=2 ^ (pts.length - k - 1) - 1) (Wt.prts (pY pts V x).row [] []) fun q hq=>by
    obtain⟨k',hk',dq,_⟩:=lG h ha hq;have:=ih k' (tZ x q) dq;unfold lbd at this;rw[if_neg (by omega)] at this;have hp:2 ^ (pts.length - k')<=2 ^ (pts.length - k - 1):=Nat.pow_le_pow_right (by decide) (by omega);omega
   rw[uJ] at hf;have:Wt.pcs (pY pts V x).row * (2 ^ (pts.length - k - 1) - 1)<=tK k * (2 ^ (pts.length - k - 1) - 1):=Nat.mul_le_mul_right _ ha.pcs;omega
  unfold lbd;unfold tK at h1
  split
  .next hk0 =>
   rw[if_pos hk0] at h1;have hp:2 ^ (pts.length - k - 1)<=2 ^ 5:=Nat.pow_le_pow_right (by decide) (by omega);have:(2:Nat) ^ 5=32:=rfl;omega
  .next hk0 =>
   rw[if_neg hk0] at h1;have e:pts.length - k=(pts.length - k - 1)+1:=by omega
   rw[e,Nat.pow_succ];have:1<=2 ^ (pts.length - k - 1):=Nat.one_le_two_pow;have e2:pts.length - k - 1+1 - 1=pts.length - k - 1:=by omega
   omega
theorem QX {pts:List Pt}(hs:lF pts){V:Vl}(hV:VOk V){n k:Nat}{x:Prt}(h:oF pts k x):(dr pts V n x).length<=559:=by
 have:=dr_len hs hV n k x h;unfold lbd at this
 split at this
 .exact this
 .have hN:=hs.n6
  have hp:2 ^ (pts.length - k)<=2 ^ 6:=Nat.pow_le_pow_right (by decide) (by omega);have:(2:Nat) ^ 6=64:=rfl;omega
section
variable {P:Program}{w:World}{K:PySem.W.Frag}{mg:Str->Option Value}{base:Heap}{a:Adr}
def gWi (n:Nat):GC:=fun ts C Q=>∃(pts:List Pt) (vv:Addr) (V:Vl) (x:Prt) (k:Nat),ts=[.tup (pts.map Pt.pv),.ref vv,x.pv]/\lF pts/\VOk V/\C vv=some (.dP (vlP V))/\oF pts k x/\pts.length<=k+n /\
 ∀p C',C p=none->C' p=some (.lst ((dr pts V n x).map En.pv))->Gr C C'->Q (.ref p) C'
theorem XH (T:Txt P w K mg a)(n:Nat):FnOk P w K mg base CX0 (n+30) (a.f 29) (a.d 29) U2 (spC K (gWi n)):=by
 induction n with
 |zero =>
  refine oK fun ts C Q ⟨pts,vv,V,x,k,_,_,_,_,d,l,_⟩=>?_;have:=(List.getElem?_eq_some_iff.1 d.nm).1;unfold vJ at this;rw[List.length_map] at this;omega
 |succ n ih =>
 have S:=(T.F 29 rfl).s;have bY:=(iL (base:=base) T).mono (show 1<=n+30 by omega);have nE:=(cA (base:=base) T).mono (show 2<=n+30 by omega);have G_drawn:=(Jt (base:=base) T).mono (show 29<=n+30 by omega);have cU:=(Jm (base:=base) T 6).mono (show 8<=n+30 by omega);have yH:=(QH (base:=base) T).mono (show 1<=n+30 by omega);have bB:=ih
 refine(T.F 29 rfl).ok (fun ts C R h=>?_) fun cdv A outer s H E hr=>⟨_,(xQ (cs1 3 S.nd (cf (T.F 8 rfl) G_drawn hr (qQ (cf (T.F 27 rfl) bY hr (qQ (cv 0) (ca1 (cx (cv 2) zQ)))) (ca1 (cf (T.F 28 rfl) nE hr (qQ (cv 0) (qQ (cv 1) (ca1 (cv 2)))))))))
  (xQ (cs1 4 S.nd (nX (ca1 (eQ gX bX (cv 2) (fQ (ca1 (cv 3)))))))
  (xQ (gU PassesOwn.never rfl (cf (T.F 26 rfl) cU hr (qQ (cx (cv 3) zQ) (qQ (fQ yZ) (ca1 (fQ yZ))))) (uF rfl (cX (cg1 5 S.nd) (cX (cg1 6 S.nd) (cX (cg1 7 S.nd) (cX (cg1 8 S.nd) mU))))) (kQ (cs1 4 S.nd (eQ gX bX (cv 4) (cf (T.F 29 rfl) bB hr (qQ (cv 0) (qQ (cv 1) (ca1 (fQ (qQ (eQ gX bX (cx (cv 2) zQ) (cv 5)) (qQ (cv 6) (qQ (cv 7) (ca1 (cf (T.F 25 rfl) yH hr (qQ (cx (cv 2) zQ) (ca1 (cv 8)))))))))))))))))
  (kQ (pQ (cv 4)))))),?_⟩
 .obtain ⟨pts,vv,V,x,k,rfl,_⟩:=h; rfl
 rintro ts C R ⟨pts,vv,V,x,k,rfl,hs,hV,hv,du,hn,q⟩;obtain⟨y,ha⟩:=Qj hs hV du
 have hkl:k < pts.length:=by
  have:=(List.getElem?_eq_some_iff.1 du.nm).1;unfold vJ at this;rw[List.length_map] at this;exact this
 have hN:=hs.n6;have hx:x.pv=.tup [wZ x.path,.str x.name,.tup (x.gives.map dQ),.tup (x.downs.map dQ)]:=rfl;have hb:=dE hV ha.ok x.path;refine uQ ?_;refine wX hx (v:=.str x.name) rfl ?_;refine⟨pts,y,by rw[ha.nm],hN,hs.nd,ha.mem,fun C1 g1=>?_⟩;refine⟨pts,vv,V,x,y,rfl,hN,hs.nd,ha.mem,ha.nm,g1 _ _ hv,⟨du.gl,by have:=du.dl; omega,hb.2⟩,fun aa C2 na ma g2=>?_⟩;refine⟨y,aa,_,_,_,rfl,ha.ok,ma,ha.ab,fun C3 g3=>?_⟩
 have ep:pcOf (xG x (gZ V y x.path)) y=pY pts V x:=by unfold pY; rw[ha.is]
 rw[ep]
 try dsimp only
 generalize hpc:pY pts V x=pc;have rowk:=ha.row;have pck:=ha.pcs;rw[hpc] at rowk pck;refine uQ ?_;refine⟨by show 1<=sizeLine; decide,?_⟩;refine uC (by show 4+1<=sizeLine; decide) ?_;refine⟨by show 1<=sizeLine; decide,fun f0 hf0=>?_⟩;have g03:Gr C C3:=(g1.trans g2).trans g3;have nf0:C f0=none:=yW g03 hf0;have g4:Gr C (yQ C3 f0 (.lst [En.pv ⟨x,pc⟩])):=kB g03 nf0 _;have m4:yQ C3 f0 (.lst [En.pv ⟨x,pc⟩]) f0=some (.lst [En.pv ⟨x,pc⟩]):=jQ
 show pE _ _ _ _ (yQ C3 f0 (.lst [En.pv ⟨x,pc⟩]));generalize yQ C3 f0 (.lst [En.pv ⟨x,pc⟩])=C4 at g4 m4 ⊢
 try dsimp only
 refine vZ ?_;refine rX (xs:=[.tup (pc.reads.map eU),.tup (Wt.pvs pc.row),.tup (pc.works.map dQ)]) (v:=.tup (Wt.pvs pc.row)) rfl ?_;refine⟨by show 0<=sizeLine; decide,?_⟩;refine⟨by show 0<=sizeLine; decide,?_⟩;have hcap:tK k<=18:=by unfold tK; split<;>decide
 refine⟨pc.row,[],[],_,rfl,rowk,by show 0+6<=50; decide,by show 0+6<=50; decide,by omega,fun pl C5 npl m5 g5=>?_⟩;have hpl:C pl=none:=yW g4 npl;have g45:Gr C C5:=g4.trans g5;refine⟨(Wt.prts pc.row [] []).length+1,?_⟩;have etot:dr pts V (n+1) x=⟨x,pc⟩::(Wt.prts pc.row [] []).flatMap fun q=>dr pts V n (tZ x q):=by rw[dr,hpc]
 have hlen:=QX hs hV (n:=n+1) du;refine rW (xs:=(Wt.prts pc.row [] []).map Prt.pv) (fun i ρ C'=>C' pl=some (.lst ((Wt.prts pc.row [] []).map Prt.pv))/\∃(ff:Addr) (x5 x6 x7 x8:Option PV),i<=(Wt.prts pc.row [] []).length/\ρ=[some (.tup (pts.map Pt.pv)),some (.ref vv),some x.pv,some pc.pv,some (.ref ff),x5,x6,x7,x8]/\C ff=none/\C' ff=some (.lst ((⟨x,pc⟩::((Wt.prts pc.row [] []).take i).flatMap fun q=>dr pts V n (tZ x q)).map En.pv))/\Gr C C') (fun _ _ _ h=>h.1) ?_ ?_ _ 0 _ _ ⟨m5,f0,_,_,_,_,Nat.zero_le _,rfl,nf0,g5 _ _ m4,g45⟩ (by rw[List.length_map]; omega) (Nat.zero_le _)
 .rintro i z ρ C6 hz ⟨m6,ff,x5,x6,x7,x8,hi,rfl,nff,mf,g6⟩ L hL
  rw[List.getElem?_map] at hz
  cases he:(Wt.prts pc.row [] [])[i]? with
  |none=>rw[he] at hz; cases hz
  |some pq =>
  rw[he] at hz;cases hz;have hmem:pq∈Wt.prts pc.row [] []:=List.mem_of_getElem? he;have hi':i < (Wt.prts pc.row [] []).length:=(List.getElem?_eq_some_iff.1 he).1;obtain⟨k',hk',dq,pn,pl6,dl6⟩:=lG du ha (q:=pq) (by rw[hpc]; exact hmem);refine⟨rfl,?_⟩;refine zZ (zZ (zZ (zZ (wF ?_))))
  try dsimp only
  refine wX hx (v:=wZ x.path) rfl ?_;have hpl2:=du.pl;have hdl2:=du.dl;refine uC (cV (by rw[List.length_map,List.length_map]; omega)) ?_;refine wX hx (v:=.tup (x.downs.map dQ)) rfl ?_;refine⟨x.downs,pq.downs,rfl,by omega,fun C7 g7=>⟨by show 4<=sizeLine; decide,?_⟩⟩
  have ec:PV.tup [PV.tup (x.path.map mK++pq.path.map mK),.str pq.name,.tup (pq.gives.map dQ),.tup ((yV x.downs pq.downs).map dQ)]=(tZ x pq).pv:=by
   unfold tZ Prt.pv wZ;rw[List.map_append]
  rw[ec];refine⟨pts,vv,V,tZ x pq,k',rfl,hs,hV,g7 _ _ (g6 _ _ hv),dq,by omega,fun p8 C8 n8 m8 g8=>?_⟩;have et:(Wt.prts pc.row [] []).take (i+1)=(Wt.prts pc.row [] []).take i++[pq]:=by rw[List.take_add_one,he]; rfl
  have en:(⟨x,pc⟩::((Wt.prts pc.row [] []).take (i+1)).flatMap fun q=>dr pts V n (tZ x q)).map En.pv=(⟨x,pc⟩::((Wt.prts pc.row [] []).take i).flatMap fun q=>dr pts V n (tZ x q)).map En.pv++(dr pts V n (tZ x pq)).map En.pv:=by
   rw[et,List.flatMap_append,List.flatMap_cons,List.flatMap_nil,List.append_nil,<- List.map_append]
   rfl
  have hle:((⟨x,pc⟩::((Wt.prts pc.row [] []).take (i+1)).flatMap fun q=>dr pts V n (tZ x q)):List En).length<=559:=by
   refine Nat.le_trans ?_ hlen;rw[etot,List.length_cons,List.length_cons]
   have:((Wt.prts pc.row [] []).flatMap fun q=>dr pts V n (tZ x q))=(((Wt.prts pc.row [] []).take (i+1)).flatMap fun q=>dr pts V n (tZ x q))++((Wt.prts pc.row [] []).drop (i+1)).flatMap fun q=>dr pts V n (tZ x q):=by
    rw[<- List.flatMap_append,List.take_append_drop]
   rw[this,List.length_append];omega
  refine yD (g8 _ _ (g7 _ _ mf)) m8 (cV ?_) fun p9 p90=>?_
  .rw [<- List.length_append,<- en,List.length_map]; omega
  have g68:Gr C C8:=(g6.trans g7).trans g8;refine hL _ _ ⟨Gr.new p90 _ _ _ (g8 _ _ (g7 _ _ m6)),p9,_,_,_,_,hi',rfl,yW g68 p90,by rw[jQ,en],g68.trans (Gr.new p90 _)⟩
 .rintro ρ C6 ⟨m6,ff,x5,x6,x7,x8,hi,rfl,nff,mf,g6⟩
  refine q ff C6 nff ?_ g6;rw[mf,etot,List.length_map,List.take_of_length_le (Nat.le_refl _)]
end
theorem sI {pts:List Pt}(hs:lF pts){V:Vl}(hV:VOk V):∀(n k:Nat) (x:Prt),oF pts k x->∀e∈dr pts V n x,∃k',oF pts k' e.x/\e.pc=pY pts V e.x:=by
 intro n
 induction n with
 |zero=>intro k x _ e he; exact nomatch he
 |succ n ih =>
  intro k x h e he;rw[dr] at he
  rcases List.mem_cons.1 he with rfl | he
  .exact ⟨k,h,rfl⟩
  .obtain ⟨q,hq,he⟩:=List.mem_flatMap.1 he
   obtain⟨y,ha⟩:=Qj hs hV h;obtain⟨k',_,dq,_⟩:=lG h ha hq;exact ih k' _ dq e he
def ZO (pts:List Pt):Prt:=⟨[],(pts.head?.map (·.name)).getD "",[],[]⟩
theorem bV {pts:List Pt}(hs:lF pts):oF pts 0 (ZO pts):=by
 have:=hs.n1
 cases pts with
 |nil=>exact absurd this (by show ¬ 1<=0; omega)
 |cons y pts=>exact⟨rfl,Nat.zero_le _,(fun _ z=>nomatch z),(fun _ z=>nomatch z),Nat.zero_le _,Nat.zero_le _⟩
def mQ (pts:List Pt)(V:Vl):List En:=dr pts V 6 (ZO pts)
def oC (V:Vl)(p:lX)(v:Str×List (Str×Int)):Vl:=if (V.any fun e=>decide (e.1=p))=true then V.map fun e=>if e.1=p then (e.1,v) else e else V++[(p,v)]
theorem ZV (V:Vl)(p:lX)(v:Str×List (Str×Int)):putG (vlP V) p (vPV v)=vlP (oC V p v):=by
 have h1:((vlP V).any fun kv=>decide (kv.1=p))=V.any fun e=>decide (e.1=p):=by
  unfold vlP;rw[List.any_map]
  rfl
 unfold putG oC;rw[h1]
 split
 .unfold vlP
  rw[List.map_map,List.map_map];refine List.map_congr_left fun e _=>?_;show(if e.1=p then (e.1,vPV v) else (e.1,vPV e.2))=((if e.1=p then (e.1,v) else e).1,vPV (if e.1=p then (e.1,v) else e).2)
  split<;>rfl
 .unfold vlP
  rw[List.map_append]
  rfl
theorem QC {V:Vl}(h:VOk V)(p:lX){v:Str×List (Str×Int)}(hb:SBd v.2)(hl:v.2.length<=4):VOk (oC V p v):=by
 have:∀e∈oC V p v,e.2=v\/e∈V:=by
  intro e he;unfold oC at he
  split at he
  .obtain ⟨x,hx,rfl⟩:=List.mem_map.1 he
   split
   .exact .inl rfl
   .exact .inr hx
  .rcases List.mem_append.1 he with he | he
   .exact .inr he
   .cases List.mem_singleton.1 he; exact .inl rfl
 refine⟨fun e he=>?_,fun e he=>?_⟩
 .rcases this e he with z | z
  .rw [z]; exact hb
  .exact h.b e z
 .rcases this e he with z | z
  .rw [z]; exact hl
  .exact h.l e z
theorem ZX (V:Vl)(p:lX)(v:Str×List (Str×Int)):(oC V p v).length<=V.length+1:=by
 unfold oC
 split
 .rw [List.length_map]; omega
 .rw [List.length_append,List.length_singleton]; exact Nat.le_refl _
theorem VOk.nil:VOk []:=⟨fun _ z=>(nomatch z),fun _ z=>(nomatch z)⟩
section
variable {P:Program}{w:World}{K:PySem.W.Frag}{mg:Str->Option Value}{base:Heap}{a:Adr}
def gFresh:GC:=fun ts C Q=>∃(pts:List Pt) (vv:Addr) (V:Vl),ts=[.tup (pts.map Pt.pv),.ref vv]/\lF pts/\VOk V/\C vv=some (.dP (vlP V))/\∀p C',C p=none->C' p=some (.lst ((mQ pts V).map En.pv))->Gr C C'->Q (.ref p) C'
theorem aT (T:Txt P w K mg a):FnOk P w K mg base CX0 37 (a.f 30) (a.d 30) U8 (spC K gFresh):=by
 have S:=(T.F 30 rfl).s;have bB:=XH (base:=base) T 6;refine(T.F 30 rfl).ok (fun ts C R h=>?_) fun cdv A outer s H E hr=>⟨_,(kQ (pQ (cf (T.F 29 rfl) bB hr (qQ (cv 0) (qQ (cv 1) (ca1 (fQ (qQ (fQ yZ) (qQ (cx (cx (cv 0) zQ) zQ) (qQ (fQ yZ) (ca1 (fQ yZ)))))))))))),?_⟩
 .obtain ⟨pts,vv,V,rfl,_⟩:=h; rfl
 rintro ts C R ⟨pts,vv,V,rfl,hs,hV,hv,q⟩;have h6:=hs.n6;have rk:=bV hs
 cases pts with
 |nil=>exact absurd hs.n1 (by show ¬ 1<=0; omega)
 |cons y pts =>
 refine⟨by show 0<=sizeLine; decide,?_⟩;refine rX (xs:=(y::pts).map Pt.pv) (v:=y.pv) sQ ?_;refine rX (xs:=[.str y.name,.tup (y.first.map dQ),.tup (y.works.map mV),.tup (Ln.pvs y.ls)]) sQ ?_;refine⟨by show 0<=sizeLine; decide,?_⟩;refine⟨by show 0<=sizeLine; decide,?_⟩;refine⟨by show 4<=sizeLine; decide,?_⟩;exact⟨y::pts,vv,V,ZO (y::pts),0,rfl,hs,hV,hv,rk,by omega,fun p C' np mp g=>q p C' np mp g⟩
def gBoxes:GC:=fun ts C Q=>∃(t:Addr) (y:Pt) (ns:List Int),ts=[.ref t,y.pv]/\Tp C t ns/\y.first.length<=4/\∀bs C',SBd bs->bs.length<=4->Tp C' t ns->Ex t C C'->Q (.tup (bs.map dQ)) C'
theorem Jv (T:Txt P w K mg a):FnOk P w K mg base CX0 3 (a.f 31) (a.d 31) U5 (spC K gBoxes):=by
 have S:=(T.F 31 rfl).s;have dJ:=kU (base:=base) T;refine(T.F 31 rfl).ok (fun ts C R h=>?_) fun cdv A outer s H E hr=>⟨_,(kQ (pQ (ctp T.eX (KW rfl (show(["_law_name","_law_first","_law_tape_here","_law_part_here"]:List Str).Nodup by decide +kernel) (nP (N:=U5) (sc:=kX (top 41)) rfl rfl rfl (by decide +kernel)) (tP (cx (cv 1) zQ)) (fun _ _ _ _ _=>wK) (fun _ _ _ _ _=>(fQ (qQ (cv 0) (ca1 (cf (T.F 12 rfl) dJ hr (ca1 (cv 2))))))))))),?_⟩
 .obtain ⟨t,y,ns,rfl,_⟩:=h; rfl
 rintro ts C R ⟨t,y,ns,rfl,hT,hl,q⟩;refine rX (xs:=[.str y.name,.tup (y.first.map dQ),.tup (y.works.map mV),.tup (Ln.pvs y.ls)]) (v:=.tup (y.first.map dQ)) rfl ?_;refine Zc (fun zs acc C'=>∃(us:List (Str×Int)) (bs:List (Str×Int)),zs=us.map dQ/\acc=bs.map dQ/\SBd bs/\bs.length+us.length=y.first.length/\Tp C' t ns/\Ex t C C') ?_ ?_ _ _ _ ⟨y.first,[],rfl,rfl,(fun _ z=>nomatch z),Nat.zero_add _,hT,Ex.refl⟩
 .rintro z zs acc C1 ⟨us,bs,hz,rfl,hb,hlen,T1,e1⟩
  cases us with
  |nil=>cases hz
  |cons u us =>
  obtain⟨rfl,rfl⟩:=List.cons.inj hz;refine⟨[.str u.1,.int u.2],rfl,rfl,fun L hL=>?_⟩;rw[List.length_cons] at hlen;refine⟨t,ns,rfl,T1,fun i C2 i0 i1 T2 e2=>⟨by show 2<=sizeLine; decide,hL _ _ ⟨?_,us,bs++[(u.1,i)],rfl,by rw[List.map_append]; rfl,fun c hc=>?_,by rw[List.length_append,List.length_singleton]; omega,T2,e1.trans e2⟩⟩⟩
  .rw [List.length_map]
   exact Nat.lt_of_lt_of_le (show bs.length < 5 by omega) (by decide)
  .rcases List.mem_append.1 hc with hc | hc
   .exact hb c hc
   .cases List.mem_singleton.1 hc; exact⟨i0,i1⟩
 .rintro acc C1 ⟨us,bs,hz,rfl,hb,hlen,T1,e1⟩ p hp
  cases us with
  |cons u us=>cases hz
  |nil =>
  have hlen:bs.length+0=y.first.length:=hlen;refine cJ jQ ?_;exact q bs _ hb (by omega) (T1.new hp _) (e1.trans (Ex.new hp _))
def gValues:GC:=fun ts C Q=>∃(t:Addr) (pts:List Pt) (ns:List Int),ts=[.ref t,.tup (pts.map Pt.pv)]/\Tp C t ns/\lF pts/\∀vv V C',VOk V->C vv=none->C' vv=some (.dP (vlP V))->vv≠t->Tp C' t ns->Ex t C C'->Q (.ref vv) C'
theorem XI (T:Txt P w K mg a):FnOk P w K mg base CX0 38 (a.f 32) (a.d 32) U14 (spC K gValues):=by
 have S:=(T.F 32 rfl).s;have nF:=aT (base:=base) T;have bQ:=(lZ (base:=base) T).mono (show 1<=37 by decide);have bY:=(iL (base:=base) T).mono (show 1<=37 by decide);have bC:=(Jv (base:=base) T).mono (show 3<=37 by decide);have dJ:=(kU (base:=base) T).mono (show 2<=37 by decide)
 refine(T.F 32 rfl).ok (fun ts C R h=>?_) fun cdv A outer s H E hr=>⟨_,(xQ (cs1 2 S.nd Xa)
  (xQ (gU PassesOwn.never rfl (cf (T.F 30 rfl) nF hr (qQ (cv 1) (ca1 Xa))) (uF rfl (cX (cg1 3 S.nd) (cX (cg1 4 S.nd) (cX (cg1 5 S.nd) (cX (cg1 6 S.nd) (cX (cg1 7 S.nd) mU)))))) (xQ (cs1 8 S.nd (cf (T.F 10 rfl) bQ hr (qQ (cv 0) (ca1 zQ))))
  (kQ (zX (ct2 sU lW (cv 8) zQ) (xQ (cs1 9 S.nd (cf (T.F 27 rfl) bY hr (qQ (cv 1) (ca1 (cv 4)))))
  (xQ (zX (ct2 mX iQ (cv 8) zQ) (kQ (cs1 9 S.nd (cx (cv 1) (cf (T.F 10 rfl) bQ hr (qQ (cv 0) (ca1 (cln T.eZ (cv 1)))))))) tQ)
  (kQ (Q6 (xF hr) (cv 2) (cv 3) (fQ (qQ (cx (cv 9) zQ) (ca1 (cf (T.F 31 rfl) bC hr (qQ (cv 0) (ca1 (cv 9))))))))))) tQ))))
  (xQ (zX (ct2 mX iQ (cf (T.F 10 rfl) bQ hr (qQ (cv 0) (ca1 zQ))) zQ) (xQ (cs1 9 S.nd (cx (cv 1) (cf (T.F 10 rfl) bQ hr (qQ (cv 0) (ca1 (cln T.eZ (cv 1)))))))
  (kQ (Q6 (xF hr) (cv 2) (fQ (ca1 (fQ (qQ (cf (T.F 12 rfl) dJ hr (ca1 (cv 0))) (ca1 (cf (T.F 10 rfl) bQ hr (qQ (cv 0) (ca1 zQ)))))))) (fQ (qQ (cx (cv 9) zQ) (ca1 (cf (T.F 31 rfl) bC hr (qQ (cv 0) (ca1 (cv 9)))))))))) tQ)
  (kQ (pQ (cv 2)))))),?_⟩
 .obtain ⟨t,pts,ns,rfl,_⟩:=h; rfl
 rintro ts C R ⟨t,pts,ns,rfl,hT,hs,q⟩;have h6:=hs.n6;have h1:=hs.n1;refine uQ ?_;intro vv hvv;have nvt:=hT.ne hvv
 try dsimp only
 refine aQ (fun ρ' C'=>∃(V:Vl) (x3 x4 x5 x6 x7 x8 x9:Option PV),ρ'=[some (.ref t),some (.tup (pts.map Pt.pv)),some (.ref vv),x3,x4,x5,x6,x7,x8,x9]/\VOk V/\V.length<=559/\C' vv=some (.dP (vlP V))/\Tp C' t ns/\Ex t C C') (fun L0 hL0=>?_) ?_
 rotate_left
 .rintro ρ' C3 ⟨V,x3,x4,x5,x6,x7,x8,x9,rfl,hV,hVl,mv,T3,e3⟩
  try dsimp only
  refine aQ (fun ρ' C'=>∃(V:Vl) (x9:Option PV),ρ'=[some (.ref t),some (.tup (pts.map Pt.pv)),some (.ref vv),x3,x4,x5,x6,x7,x8,x9]/\VOk V/\C' vv=some (.dP (vlP V))/\Tp C' t ns/\Ex t C C') (fun L0 hL0=>?_) ?_
  .refine ⟨t,3,ns,rfl,T3,by decide,by decide,fun v C4 v00 v01 T4 e4=>?_⟩
   have mv4:=e4 _ _ nvt mv;refine xX (aX _ _) ?_;refine mZ (fun hb=>?_) fun hb=>?_
   .refine uQ ?_
    refine pN ?_;rw[List.length_map];refine⟨t,_,ns,rfl,T4,by omega,by omega,fun j C6 j0 j1 T6 e6=>?_⟩
    obtain⟨y0,hy0⟩:∃y0,y0∈pts:=by
     cases pts with
     |nil=>exact absurd h1 (by show ¬ 1<=0; omega)
     |cons y _=>exact⟨y,List.mem_cons_self⟩
    refine rX (uK (f:=Pt.pv) (ss:=pts) y0 j0 j1) ?_
    have hzp:pts.getD j.toNat y0∈pts:=by
     rw[List.getD_eq_getElem?_getD,List.getElem?_eq_getElem (by omega)];exact List.getElem_mem _
    generalize pts.getD j.toNat y0=zp at hzp ⊢
    have hzl:zp.first.length<=4:=by
     obtain⟨j,hj,ej⟩:=List.getElem_of_mem hzp;exact(hs.ok j zp (by rw[List.getElem?_eq_getElem hj,ej])).fl
    try dsimp only
    refine rX (xs:=[.str zp.name,.tup (zp.first.map dQ),.tup (zp.works.map mV),.tup (Ln.pvs zp.ls)]) sQ ?_;refine⟨t,zp,ns,rfl,T6,hzl,fun bs C7 hbs hbl T7 e7=>⟨by show 2<=sizeLine; decide,?_⟩⟩;refine⟨t,ns,rfl,T7,fun i C8 i0 i1 T8 e8=>?_⟩;refine⟨t,3,ns,rfl,T8,by decide,by decide,fun w C9 w0 w1 T9 e9=>?_⟩;refine⟨by show 2<=sizeLine; decide,?_⟩;refine⟨by show 1<=sizeLine; decide,?_⟩;have e49:Ex t C4 C9:=fun b o n h=>e9 b o n (e8 b o n (e7 b o n (e6 b o n h)))
    have mv9:=e49 _ _ nvt mv4;refine Z2 (k:=[[.inl (some i),.inl (some w)]]) mv9 rfl (by unfold vlP; rw[List.length_map]; omega) ?_;rw[show PV.tup [PV.str zp.name,PV.tup (bs.map dQ)]=vPV (zp.name,bs) from rfl,ZV];refine hL0 _ _ ⟨oC V [[.inl (some i),.inl (some w)]] (zp.name,bs),_,rfl,QC hV _ hbs hbl,jQ,T9.put nvt _,?_⟩;have x9:Ex t C C9:=(e3.trans e4).trans e49;exact x9.put hvv _
   .refine vX ?_
    exact hL0 _ _ ⟨V,_,rfl,hV,mv4,T4,e3.trans e4⟩
  .rintro ρ' C4 ⟨V,x9,rfl,hV,mv,T4,e4⟩
   try dsimp only
   exact q vv V C4 hV hvv mv nvt T4 e4
 intro v0 hv0;have nv0:vv≠v0:=fun z=>by subst z; rw[jQ] at hv0; cases hv0
 have T1:=(hT.new hvv (.dP [])).new hv0 (.dP []);have g1:Gr C (yQ (yQ C vv (.dP [])) v0 (.dP [])):=(Gr.new hvv _).trans (Gr.new hv0 _);refine⟨pts,v0,[],rfl,hs,VOk.nil,jQ,fun p C2 np mp g2=>?_⟩
 have T2:Tp C2 t ns:=by
  obtain⟨⟨a1,b1,c1,e1,r1⟩,l1⟩:=T1;exact⟨⟨a1,b1,c1,g2 _ _ e1,r1⟩,l1⟩
 have npt:p≠t:=T1.ne np;have npv:p≠vv:=fun z=>by rw[z,wQ nv0,jQ] at np; cases np
 have mv2:C2 vv=some (.dP (vlP [])):=g2 _ _ (by rw[wQ nv0]; exact jQ);have g12:Gr C C2:=g1.trans g2;have e02:Ex t C C2:=fun b o _ h=>g12 b o h;have hlen:(mQ pts []).length<=559:=QX hs VOk.nil (bV hs);refine⟨(mQ pts []).length+1,?_⟩;refine rW (xs:=(mQ pts []).map En.pv) (fun i ρ C'=>C' p=some (.lst ((mQ pts []).map En.pv))/\∃(V:Vl) (x3 x4 x5 x6 x7 x8 x9:Option PV),ρ=[some (.ref t),some (.tup (pts.map Pt.pv)),some (.ref vv),x3,x4,x5,x6,x7,x8,x9]/\VOk V/\V.length<=i/\i<=(mQ pts []).length/\C' vv=some (.dP (vlP V))/\Tp C' t ns/\Ex t C C') (fun _ _ _ h=>h.1) ?_ ?_ _ 0 _ _ ⟨mp,[],_,_,_,_,_,_,_,rfl,VOk.nil,Nat.le_refl _,Nat.zero_le _,mv2,T2,e02⟩ (by rw[List.length_map]; omega) (Nat.zero_le _)
 .rintro i z ρ C3 hz ⟨m3,V,x3,x4,x5,x6,x7,x8,x9,rfl,hV,hVl,hi,mv,T3,e3⟩ L hL
  rw[List.getElem?_map] at hz
  cases he:(mQ pts [])[i]? with
  |none=>rw[he] at hz; cases hz
  |some en =>
  rw[he] at hz;cases hz;have hmem:=List.mem_of_getElem? he;have hi':i < (mQ pts []).length:=(List.getElem?_eq_some_iff.1 he).1;obtain⟨k',du,_⟩:=sI hs VOk.nil 6 0 _ (bV hs) en hmem;obtain⟨y,ha⟩:=Qj hs VOk.nil du;refine⟨rfl,?_⟩;refine zZ (zZ (zZ (zZ (zZ (wF ?_)))))
  try dsimp only
  refine uQ ?_;refine⟨t,6,ns,rfl,T3,by decide,by decide,fun v C4 v00 v01 T4 e4=>?_⟩
  try dsimp only
  have m4:=e4 _ _ npt m3;have mv4:=e4 _ _ nvt mv;refine i_i ?_;refine mZ (fun hb=>?_) fun hb=>?_
  .refine uQ ?_
   refine⟨pts,y,by rw[ha.nm],h6,hs.nd,ha.mem,fun C5 g5=>?_⟩
   have T5:Tp C5 t ns:=by
    obtain⟨⟨a1,b1,c1,e1,r1⟩,l1⟩:=T4;exact⟨⟨a1,b1,c1,g5 _ _ e1,r1⟩,l1⟩
   try dsimp only
   refine aQ (fun ρ' C'=>∃z∈pts,ρ'=[some (.ref t),some (.tup (pts.map Pt.pv)),some (.ref vv),some (wZ en.x.path),some (.str en.x.name),some (.tup (en.x.gives.map dQ)),some (.tup (en.x.downs.map dQ)),some en.pc.pv,some (.int v),some z.pv]/\Tp C' t ns/\Ex t C5 C') (fun L1 hL1=>?_) ?_
   .refine xX (aX _ _) ?_
    refine mZ (fun hb2=>?_) fun hb2=>?_
    .refine pN ?_
     rw[List.length_map];refine⟨t,_,ns,rfl,T5,by omega,by omega,fun j C6 j0 j1 T6 e6=>?_⟩;refine rX (uK (f:=Pt.pv) (ss:=pts) y j0 j1) ?_;refine hL1 _ _ ⟨pts.getD j.toNat y,?_,rfl,T6,e6⟩;rw[List.getD_eq_getElem?_getD,List.getElem?_eq_getElem (by omega)];exact List.getElem_mem _
    .refine vX ?_
     exact hL1 _ _ ⟨y,ha.mem,rfl,T5,Ex.refl⟩
   rintro ρ' C6 ⟨zp,hzp,rfl,T6,e6⟩
   try dsimp only
   have hzl:zp.first.length<=4:=by
    obtain⟨j,hj,ej⟩:=List.getElem_of_mem hzp;exact(hs.ok j zp (by rw[List.getElem?_eq_getElem hj,ej])).fl
   refine rX (xs:=[.str zp.name,.tup (zp.first.map dQ),.tup (zp.works.map mV),.tup (Ln.pvs zp.ls)]) sQ ?_;refine⟨t,zp,ns,rfl,T6,hzl,fun bs C7 hbs hbl T7 e7=>⟨by show 2<=sizeLine; decide,?_⟩⟩;have mv7:=e7 _ _ nvt (e6 _ _ nvt (g5 _ _ mv4));have m7:=e7 _ _ npt (e6 _ _ npt (g5 _ _ m4));refine Z2 mv7 (iB _) (by unfold vlP; rw[List.length_map]; omega) ?_;rw[show PV.tup [PV.str zp.name,PV.tup (bs.map dQ)]=vPV (zp.name,bs) from rfl,ZV]
   refine hL _ _ ⟨by rw[wQ npv]; exact m7,oC V en.x.path (zp.name,bs),_,_,_,_,_,_,_,rfl,QC hV _ hbs hbl,by have:=ZX V en.x.path (zp.name,bs); omega,hi',jQ,T7.put nvt _,?_⟩;have x7:Ex t C C7:=fun b o n h=>e7 b o n (e6 b o n (g5 b o (e4 b o n (e3 b o n h))));exact x7.put hvv _
  .refine vX ?_
   exact hL _ _ ⟨m4,V,_,_,_,_,_,_,_,rfl,hV,by omega,hi',mv4,T4,e3.trans e4⟩
 .rintro ρ C3 ⟨m3,V,x3,x4,x5,x6,x7,x8,x9,rfl,hV,hVl,hi,mv,T3,e3⟩
  exact hL0 _ _ ⟨V,_,_,_,_,_,_,_,rfl,hV,by rw[List.length_map] at hVl; omega,mv,T3,e3⟩
end
theorem upd_m {cs ms:List (Str×Int)}{p:Addr}{C:CH}{Q:K1}(m:C p=some (.dK (cs.map kOf)))(h:cs.length+ms.length<=1000)(q:Q .non (yQ C p (.dK ((jZ cs ms).map kOf)))):Xd (.ref p) [.tup (ms.map dQ)] C Q:=by
 unfold Xd;show(match C p,fV (ms.map dQ) with | some (.dK kvs),some ps=>kvs.length+ps.length<=sizeLine/\Q .non (yQ C p (.dK (jV kvs ps))) | _,_=>False);rw[m,aC];dsimp only;rw[QI,List.length_map,List.length_map];exact⟨Nat.le_trans h (by decide),q⟩
theorem Xt {cs:List (Str×Int)}{p:Addr}{C:CH}{Q:K1}(m:C p=some (.dK (cs.map kOf)))(h:cs.length < 64)(q:∀p',C p'=none->Q (.ref p') (yQ C p' (.lst ((dW cs).map dQ)))):pU [.vw p] C Q:=by
 unfold pU;show(match C p with | some (.dK kvs)=>(match siK kvs with | some cs=>cs.length < 64/\∀p,C p=none->Q (.ref p) (yQ C p (.lst ((dW cs).map dQ))) | none=>False) | _=>False);rw[m];dsimp only;rw[si_k];exact⟨h,q⟩
theorem items_s {i:Nat}{kvs:List (Key×PV)}{p:Addr}{ρ:CSt}{C:CH}{Q:K1}(hv:ρ[i]?=some (some (.ref p)))(m:C p=some (.dK kvs))(q:Q (.vw p) C):xS (pZ i) ρ C Q:=by
 unfold xS pZ;rw[hv];dsimp only;rw[m];exact q
section
variable {P:Program}{w:World}{K:PySem.W.Frag}{mg:Str->Option Value}{base:Heap}{a:Adr}
theorem jM (T:Txt P w K mg a):FnOk P w K mg base CX0 1 (a.f 2) (a.d 2) ["downs","nearer"] (spC K gOver):=by
 have S:=(T.F 2 rfl).s
 refine(T.F 2 rfl).ok (fun ts C R h=>?_) fun cdv A outer s H E hr=>⟨_,(xQ (cs1 2 S.nd (kJ (qH rfl) bE rfl T.eE rfl (ca1 (cv 0))))
  (xQ (iX (ce_bmD PySem.F.plainAttrs_dict PySem.F.slot_dict_update PySem.F.type_dict_update (mt_updP rfl) cmt_upd (cv 2) (ca1 (cv 1))))
  (kQ (pQ (ctp T.eX (xZ (aY rfl) uB rfl T.mB rfl (ca1 (KO (cv 2))))))))),?_⟩
 .obtain ⟨ds,ms,rfl,_⟩:=h; rfl
 rintro ts C R ⟨ds,ms,rfl,hd,q⟩;have hm:(jZ [] ds).length<=ds.length:=Nat.le_trans (cK ds []) (by show 0+ds.length<=ds.length; omega);have hp:=cK ms (jZ [] ds);refine Ky (by omega) fun p p0=>?_;refine⟨Kc jQ,?_⟩;refine upd_m jQ (by omega) ?_;refine items_s rfl jQ ?_;refine Xt jQ (by omega) fun p2 p20=>?_;refine cJ jQ ?_;refine q _ ?_;have g1:Gr C (yQ C p (.dK ((jZ [] ds).map kOf))):=Gr.new p0 _;have g2:=kB g1 p0 (.dK ((jZ (jZ [] ds) ms).map kOf))
 exact g2.trans (Gr.new p20 _)
def gGa (d:Nat):GC:=fun ts C Q=>∃(r:List Wt) (s:lX) (ds:List (Str×Int)) (rs:List Str) (t:Addr) (acc:List PV),ts=[.tup (Wt.pvs r),wZ s,.tup (ds.map dQ),.ref t]/\dM rs d r/\s.length+d<=50/\ds.length+d<=50/\acc.length+Wt.pcs r<=1000/\C t=some (.lst acc) /\
 ∀C',C' t=some (.lst (acc++(Wt.prts r s ds).map Prt.pv))->ExS [t] C C'->Q .non C'
theorem XM (T:Txt P w K mg a)(d:Nat):FnOk P w K mg base CX0 (d+2) (a.f 1) (a.d 1) ["row","spots","downs","told"] (spC K (gGa d)):=by
 have main:∀n,(∀d',n=d'+1->FnOk P w K mg base CX0 (n+1) (a.f 1) (a.d 1) ["row","spots","downs","told"] (spC K (gGa d')))->FnOk P w K mg base CX0 (n+2) (a.f 1) (a.d 1) ["row","spots","downs","told"] (spC K (gGa n)):=by
  intro n ih;have S:=(T.F 1 rfl).s;have aG:=(jM (base:=base) T).mono (show 1<=n+1 by omega)
  have lM:FnOk P w K mg base CX0 (n+1) (a.f 1) (a.d 1) ["row","spots","downs","told"] (spC K (fun ts C Q=>∃d',n=d'+1/\gGa d' ts C Q)):=by
   cases n with
   |zero=>exact oK fun ts C Q ⟨d',e,_⟩=>by omega
   |succ d' =>
    have:=ih d' rfl
    have e:(fun ts C Q=>∃d'',d'+1=d''+1/\gGa d'' ts C Q)=gGa d':=by
     funext ts C Q
     refine propext ⟨fun⟨d'',e,h⟩=>?_,fun h=>⟨d',rfl,h⟩⟩;cases Nat.succ.inj e;exact h
    rw[e];exact this
  refine(T.F 1 rfl).ok (fun ts C R h=>?_) fun cdv A outer s H E hr=>⟨_,(kQ (uM PassesOwn.never rfl (cv 0) (cg1 4 S.nd) (xQ (cs1 5 S.nd (eQ gX bX (cv 1) (fQ (ca1 (cx (cv 4) zQ)))))
  (kQ (zX (ct2 mX iQ (cx (cv 4) zQ) vQ) (kQ (iX (cap (cv 3) (fQ (qQ (cv 5) (qQ (cx (cv 4) zQ) (qQ (cx (cv 4) zQ) (ca1 (cv 2))))))))) (kQ (zX (ct2 mX iQ (cx (cv 4) zQ) vQ) (kQ (iX (cf (T.F 1 rfl) lM hr (qQ (cx (cv 4) zQ) (qQ (cv 5) (qQ (cf (T.F 2 rfl) aG hr (qQ (cv 2) (ca1 (fQ (ca1 (fQ (qQ (cx (cv 4) zQ) (ca1 (cx (cv 4) zQ))))))))) (ca1 (cv 3)))))))) (kQ (iX (cf (T.F 1 rfl) lM hr (qQ (cx (cv 4) zQ) (qQ (cv 5) (qQ (cv 2) (ca1 (cv 3))))))))))))))),?_⟩
  .obtain ⟨r,s,ds,rs,t,acc,rfl,_⟩:=h; rfl
  rintro ts C R ⟨r,s,ds,rs,t,acc,rfl,ok,hs,hd,hpc,mt,q⟩;refine bP rfl ?_;refine oJ (fun zs ρ C'=>∃(x4 x5:Option PV) (us vs:List Wt),r=us++vs/\zs=Wt.pvs vs/\ρ=[some (.tup (Wt.pvs r)),some (wZ s),some (.tup (ds.map dQ)),some (.ref t),x4,x5]/\C' t=some (.lst (acc++(Wt.prts us s ds).map Prt.pv))/\ExS [t] C C') ?_ ?_ _ _ _ ⟨_,_,[],r,rfl,rfl,rfl,by show C t=some (.lst (acc++[])); rw[List.append_nil]; exact mt,ExS.refl⟩
  .rintro z zs ρ C1 ⟨x4,x5,us,vs,e,hz,rfl,m1,g1⟩ L hL
   cases vs with
   |nil=>cases hz
   |cons u vs =>
   obtain⟨rfl,rfl⟩:=List.cons.inj (show z::zs=u.pv::Wt.pvs vs from hz);have hu:=ok.1 u (by rw[e]; exact List.mem_append_right _ List.mem_cons_self);have hpc2:acc.length+(Wt.pcs us+(u.pc+Wt.pcs vs))<=1000:=by have:=hpc; rw[e,Wt.pcs_app] at this; exact this
   have hus:(acc++(Wt.prts us s ds).map Prt.pv).length=acc.length+Wt.pcs us:=by rw[List.length_append,List.length_map,uJ]
   have ea:Wt.prts (us++[u]) s ds=Wt.prts us s ds++u.prt s ds:=by rw[bT,Wt.prts,Wt.prts,List.append_nil]
   obtain⟨wd,rest,ep,hwd⟩:=wt_pv u;refine uQ ?_;refine wX ep Xm ?_;refine⟨by show 1<=sizeLine; decide,?_⟩;refine uC (cV (by rw[List.length_map]; show s.length+1<=1000; omega)) ?_
   try dsimp only
   have eh:PV.tup (s.map mK++[mK u.sp])=wZ (s++[u.sp]):=by unfold wZ; rw[List.map_append]; rfl
   rw[eh]
   cases n with
   |zero=>exact hu.elim
   |succ d' =>
   cases u with
   |part sp nm g =>
    have ep:(Wt.part sp nm g).pv=.tup [.str "part",mK sp,.str nm,.tup (g.map dQ)]:=by rw[Wt.pv]
    refine wX ep sQ ?_;refine xX (lQ _ _) ?_;refine pK (by decide) ?_;refine⟨zG m1,?_⟩;refine wX ep (v:=.str nm) rfl ?_;refine wX ep (v:=.tup (g.map dQ)) rfl ?_;refine⟨by show 4<=sizeLine; decide,?_⟩;refine vH m1 (by rw[hus]; exact Nat.lt_of_le_of_lt (show acc.length+Wt.pcs us<=1000 by omega) (by decide)) ?_;refine hL _ _ ⟨_,_,us++[.part sp nm g],vs,by rw[List.append_assoc]; exact e,rfl,rfl,?_,g1.at (by simp) _⟩
    rw[jQ,ea,List.map_append,Wt.prt,List.append_assoc]
    rfl
   |give sp nm i rw_ =>
    obtain⟨_,bi,o1,o2⟩:=hu;have ep:(Wt.give sp nm i rw_).pv=.tup [.str "give",mK sp,.str nm,.int i,.tup (Wt.pvs rw_)]:=by rw[Wt.pv]
    have hpcu:Wt.pcs rw_=(Wt.give sp nm i rw_).pc:=by rw[Wt.pc]
    refine wX ep sQ ?_;refine xX (lQ _ _) ?_;refine qZ (by decide) ?_;refine wX ep sQ ?_;refine xX (lQ _ _) ?_;refine pK (by decide) ?_;refine wX ep (v:=.tup (Wt.pvs rw_)) rfl ?_;refine wX ep (v:=.str nm) rfl ?_;refine wX ep (v:=.int i) rfl ?_;refine⟨by show 2<=sizeLine; decide,?_⟩;refine⟨by show 1<=sizeLine; decide,?_⟩;refine⟨ds,[(nm,i)],rfl,by show ds.length+1<=60; omega,fun C2 g2=>?_⟩;have hol:=xU ds [(nm,i)]
    have hol:(yV ds [(nm,i)]).length<=ds.length+1:=hol;refine⟨d',rfl,rw_,s++[sp],yV ds [(nm,i)],rs,t,_,rfl,⟨o1,o2⟩,by rw[List.length_append,List.length_singleton]; omega,by omega,by rw[hus]; omega,g2 _ _ m1,fun C3 m3 g3=>?_⟩;refine hL _ _ ⟨_,_,us++[.give sp nm i rw_],vs,by rw[List.append_assoc]; exact e,rfl,rfl,?_,fun b o nb hb=>g3 b o nb (g2 _ _ (g1 b o nb hb))⟩;rw[m3,ea,List.map_append,Wt.prt,List.append_assoc]
   |plain sp tag sets hs' rw_ =>
    obtain⟨_,_,o1,o2⟩:=hu;have ep:(Wt.plain sp tag sets hs' rw_).pv=.tup [.str "plain",mK sp,.str tag,.tup (sets.map dQ),.tup (hs'.map HdV.pv),.tup (Wt.pvs rw_)]:=by rw[Wt.pv]
    have hpcu:Wt.pcs rw_=(Wt.plain sp tag sets hs' rw_).pc:=by rw[Wt.pc]
    refine wX ep sQ ?_;refine xX (lQ _ _) ?_;refine qZ (by decide) ?_;refine wX ep sQ ?_;refine xX (lQ _ _) ?_;refine qZ (by decide) ?_;refine wX ep (v:=.tup (Wt.pvs rw_)) rfl ?_;refine⟨d',rfl,rw_,s++[sp],ds,rs,t,_,rfl,⟨o1,o2⟩,by rw[List.length_append,List.length_singleton]; omega,by omega,by rw[hus]; omega,m1,fun C3 m3 g3=>?_⟩;refine hL _ _ ⟨_,_,us++[.plain sp tag sets hs' rw_],vs,by rw[List.append_assoc]; exact e,rfl,rfl,?_,g1.trans g3⟩
    rw[m3,ea,List.map_append,Wt.prt,List.append_assoc]
  .rintro ρ C1 ⟨x4,x5,us,vs,e,hz,rfl,m1,g1⟩
   cases vs with
   |cons u vs=>cases hz
   |nil =>
   rw[List.append_nil] at e;subst e;exact q C1 m1 g1
 induction d with
 |zero=>exact main 0 fun d' e=>by omega
 |succ d ih=>exact main (d+1) fun d' e=>by cases Nat.succ.inj e; exact ih
def gPi:GC:=fun ts C Q=>∃(r:List Wt) (rs:List Str),ts=[.tup (Wt.pvs r)]/\dM rs 6 r/\Wt.pcs r<=1000/\∀p C',C p=none->C' p=some (.lst ((Wt.prts r [] []).map Prt.pv))->Gr C C'->Q (.ref p) C'
theorem tT (T:Txt P w K mg a):FnOk P w K mg base CX0 9 (a.f 0) (a.d 0) ["row"] (spC K gPi):=by
 have S:=(T.F 0 rfl).s;have lM:=XM (base:=base) T 6
 refine(T.F 0 rfl).ok (fun ts C R h=>?_) fun cdv A outer s H E hr=>⟨_,(xQ (cs1 1 S.nd (nX yZ))
  (xQ (iX (cf (T.F 1 rfl) lM hr (qQ (cv 0) (qQ (fQ yZ) (qQ (fQ yZ) (ca1 (cv 1)))))))
  (kQ (pQ (cv 1))))),?_⟩
 .obtain ⟨r,rs,rfl,_⟩:=h; rfl
 rintro ts C R ⟨r,rs,rfl,ok,hpc,q⟩;refine uQ ?_;refine⟨by show 0<=sizeLine; decide,fun t t0=>?_⟩
 try dsimp only
 refine vZ ?_;refine⟨by show 0<=sizeLine; decide,?_⟩;refine⟨by show 0<=sizeLine; decide,?_⟩;refine⟨r,[],[],rs,t,[],rfl,ok,by show 0+6<=50; decide,by show 0+6<=50; decide,by show 0+_<=1000; omega,jQ,fun C2 m2 g2=>?_⟩;refine q t C2 t0 m2 fun b o hb=>?_;have nb:b≠t:=fun z=>by rw[z,t0] at hb; cases hb
 exact g2 b o (fun z=>nb (List.mem_singleton.1 z)) (by rw[wQ nb]; exact hb)
def gAsk:GC:=fun ts C Q=>∃(e:En) (rs:List Str),ts=[e.pv]/\dM rs 6 e.pc.row/\Wt.pcs e.pc.row<=50/\e.x.path.length<=40/\e.x.downs.length<=40/\∀p C',C p=none->C' p=some (.lst (((Wt.prts e.pc.row [] []).map (tZ e.x)).map Prt.pv))->Gr C C'->Q (.ref p) C'
theorem zO (T:Txt P w K mg a):FnOk P w K mg base CX0 10 (a.f 3) (a.d 3) ["entry"] (spC K gAsk):=by
 have S:=(T.F 3 rfl).s;have Qo:=tT (base:=base) T;have aG:=(jM (base:=base) T).mono (show 1<=9 by decide);refine(T.F 3 rfl).ok (fun ts C R h=>?_) fun cdv A outer s H E hr=>⟨_,(kQ (pQ (nG rfl (S.c (by decide +kernel)) (S.k rfl rfl rfl (by decide +kernel)) (cf (T.F 0 rfl) Qo hr (ca1 (cx (cx (cv 0) zQ) zQ))) (fun _ _ _ _ _=>wK) (fun _ _ _ _ _=>(fQ (qQ (eQ gX bX (cx (cv 1) zQ) (cx (cv 0) zQ)) (qQ (cx (cv 0) zQ) (qQ (cx (cv 0) zQ) (ca1 (cf (T.F 2 rfl) aG hr (qQ (cx (cv 1) zQ) (ca1 (cx (cv 0) zQ))))))))))))),?_⟩
 .obtain ⟨e,rs,rfl,_⟩:=h; rfl
 rintro ts C R ⟨e,rs,rfl,ok,hpc,hpl,hdl,q⟩;have ev:e.pv=.tup [wZ e.x.path,.str e.x.name,.tup (e.x.gives.map dQ),.tup (e.x.downs.map dQ),e.pc.pv]:=rfl;have el:e.pc.pv=.tup [.tup (e.pc.reads.map eU),.tup (Wt.pvs e.pc.row),.tup (e.pc.works.map dQ)]:=rfl;unfold fF;refine wX ev (v:=e.pc.pv) rfl ?_;refine wX el (v:=.tup (Wt.pvs e.pc.row)) rfl ?_;refine⟨e.pc.row,rs,rfl,ok,by omega,fun p C1 n1 m1 g1=>?_⟩
 dsimp only;rw[m1];dsimp only;have hpl2:=QD 6 _ [] [] ok (fun _ z=>nomatch z);refine zC (fun zs acc C'=>∃ds us:List Prt,Wt.prts e.pc.row [] []=ds++us/\zs=us.map Prt.pv/\acc=(ds.map (tZ e.x)).map Prt.pv/\C' p=some (.lst ((Wt.prts e.pc.row [] []).map Prt.pv))/\Gr C C') (fun _ _ _ h=>let ⟨_,_,_,_,_,h,_⟩:=h; h) ?_ ?_ _ _ _ ⟨[],_,rfl,rfl,rfl,m1,g1⟩
 .rintro z zs acc C2 ⟨ds,us,e1,hz,rfl,m2,g2⟩ L hL
  cases us with
  |nil=>cases hz
  |cons u us =>
  obtain⟨rfl,rfl⟩:=List.cons.inj hz;have hu:=hpl2.1 u (by rw[e1]; exact List.mem_append_right _ List.mem_cons_self);obtain⟨v,e2,_,ul⟩:=hu.path;have e2:u.path=v:=e2;have hdl2:u.downs.length<=0+6:=hu.dl
  have hlen:ds.length<=50:=by
   have:=congrArg List.length e1;rw[uJ,List.length_append,List.length_cons] at this;omega
  refine wX ev (v:=wZ e.x.path) rfl ?_;refine rX (xs:=[wZ u.path,.str u.name,.tup (u.gives.map dQ),.tup (u.downs.map dQ)]) (v:=wZ u.path) rfl ?_;refine uC (cV (by rw[List.length_map,List.length_map,e2]; omega)) ?_;refine rX (xs:=[wZ u.path,.str u.name,.tup (u.gives.map dQ),.tup (u.downs.map dQ)]) (v:=.str u.name) rfl ?_;refine rX (xs:=[wZ u.path,.str u.name,.tup (u.gives.map dQ),.tup (u.downs.map dQ)]) (v:=.tup (u.gives.map dQ)) rfl ?_
  refine wX ev (v:=.tup (e.x.downs.map dQ)) rfl ?_;refine rX (xs:=[wZ u.path,.str u.name,.tup (u.gives.map dQ),.tup (u.downs.map dQ)]) (v:=.tup (u.downs.map dQ)) rfl ?_;refine⟨e.x.downs,u.downs,rfl,by omega,fun C3 g3=>⟨by show 4<=sizeLine; decide,?_⟩⟩
  have ec:PV.tup [PV.tup (e.x.path.map mK++u.path.map mK),.str u.name,.tup (u.gives.map dQ),.tup ((yV e.x.downs u.downs).map dQ)]=(tZ e.x u).pv:=by
   unfold tZ Prt.pv wZ;rw[List.map_append]
  rw[ec];refine hL _ _ ⟨?_,ds++[u],us,by rw[List.append_assoc]; exact e1,rfl,by rw[List.map_append,List.map_append]; rfl,g3 _ _ m2,g2.trans g3⟩;rw[List.length_map,List.length_map];exact Nat.lt_of_le_of_lt hlen (by decide)
 .rintro acc C2 ⟨ds,us,e1,hz,rfl,m2,g2⟩ p2 hp2
  cases us with
  |cons u us=>cases hz
  |nil =>
  rw[List.append_nil] at e1;refine q p2 _ (yW g2 hp2) (by rw[jQ,e1]) (g2.trans (Gr.new hp2 _))
end
abbrev Stk:=List (Prt×Nat)
def tW (pts:List Pt)(V:Vl)(st:Stk):List En:=st.flatMap fun p=>dr pts V p.2 p.1
def gC (pts:List Pt)(st:Stk):Prop:=∀p∈st,∃k,oF pts k p.1/\pts.length<=k+p.2
def zK (st:Stk):List PV:=(st.map fun p=>p.1.pv).reverse
theorem Kw {pts:List Pt}{V:Vl}{x:Prt}{n:Nat}(h:∃k,oF pts k x/\pts.length<=k+n):∃m,n=m+1:=by
 obtain⟨k,d,l⟩:=h;have:=(List.getElem?_eq_some_iff.1 d.nm).1;unfold vJ at this;rw[List.length_map] at this;exact⟨n - 1,by omega⟩
theorem sC {pts:List Pt}{V:Vl}:∀{st:Stk},gC pts st->st.length<=(tW pts V st).length
 |[],_=>Nat.zero_le _
 |p::st,h=>by
  have ih:=sC (V:=V) (st:=st) fun q hq=>h q (List.mem_cons_of_mem _ hq);obtain⟨m,em⟩:=Kw (V:=V) (h p List.mem_cons_self);unfold tW at ih ⊢;rw[List.flatMap_cons,List.length_append,List.length_cons,em,dr,List.length_cons];omega
theorem rem_nil {pts:List Pt}{V:Vl}{st:Stk}(h:gC pts st)(e:tW pts V st=[]):st=[]:=by
 have:=sC (V:=V) h;rw[e] at this;exact List.length_eq_zero_iff.1 (Nat.le_zero.1 this)
def kids (pts:List Pt)(V:Vl)(x:Prt):List Prt:=(Wt.prts (pY pts V x).row [] []).map (tZ x)
theorem zT {pts:List Pt}(hs:lF pts){V:Vl}(hV:VOk V){st:Stk}(h:gC pts st){e:En}{r:List En}(he:tW pts V st=e::r):
  ∃(x:Prt) (n:Nat) (st':Stk),st=(x,n+1)::st'/\e=⟨x,pY pts V x⟩/\(∃k y,oF pts k x/\AtK pts V k x y)/\r=tW pts V ((kids pts V x).map (fun y=>(y,n))++st')/\gC pts ((kids pts V x).map (fun y=>(y,n))++st'):=by
 cases st with
 |nil=>cases he
 |cons p st =>
  obtain⟨x,m⟩:=p;obtain⟨n,rfl⟩:=Kw (V:=V) (h (x,m) List.mem_cons_self);obtain⟨k,du,hk⟩:=h (x,n+1) List.mem_cons_self;obtain⟨y,ha⟩:=Qj hs hV du;have hk:pts.length<=k+(n+1):=hk;unfold tW at he;rw[List.flatMap_cons] at he;show ∃x' n' st',_;have he:dr pts V (n+1) x++(st.flatMap fun p=>dr pts V p.2 p.1)=e::r:=he;rw[dr,List.cons_append] at he;injection he with h1 h2
  refine⟨x,n,st,rfl,h1.symm,⟨k,y,du,ha⟩,?_,?_⟩
  .unfold tW
   rw[List.flatMap_append,<- h2,List.flatMap_map];unfold kids;rw[List.flatMap_map]
  .intro q hq
   rcases List.mem_append.1 hq with hq | hq
   .obtain ⟨z,hz,rfl⟩:=List.mem_map.1 hq
    obtain⟨u,hu,rfl⟩:=List.mem_map.1 hz;obtain⟨k',hk',dq,_⟩:=lG du ha hu;exact⟨k',dq,by show pts.length<=k'+n; omega⟩
   .exact h q (List.mem_cons_of_mem _ hq)
def xD (D:List En)(k:Nat):PV:=match D[k]? with
 |some e=>e.x.pv
 |none=>.non
theorem dN (p:Prt×Nat)(st:Stk):zK (p::st)=zK st++[p.1.pv]:=by
 unfold zK;rw[List.map_cons,List.reverse_cons]
theorem XX (ks:List Prt)(n:Nat)(st:Stk):zK (ks.map (fun y=>(y,n))++st)=zK st++(ks.map Prt.pv).reverse:=by
 unfold zK;rw[List.map_append,List.reverse_append,List.map_map]
 rfl
theorem JR (st:Stk):(zK st).length=st.length:=by unfold zK; rw[List.length_reverse,List.length_map]
theorem lext_s {p r:Addr}{xs ys:List PV}{C:CH}{Q:K1}(m1:C p=some (.lst xs))(m2:C r=some (.lst ys))(h:xs.length+ys.length<=sizeLine)(q:Q .non (yQ C p (.lst (xs++ys)))):zL (.ref p) [.ref r] C Q:=by
 unfold zL;dsimp only;rw[m1,m2];exact⟨h,q⟩
section
variable {P:Program}{w:World}{K:PySem.W.Frag}{mg:Str->Option Value}{base:Heap}{a:Adr}
structure Wk (a:Adr)(C:CH)(x ll:Addr)(xs:List PV):Prop where
 ins:∃dx,C x=some (.ins a.Walk dx [("lacking",.ref ll)])
 lst:C ll=some (.lst xs)
theorem Wk.ne {C:CH}{x ll:Addr}{xs:List PV}(h:Wk a C x ll xs):x≠ll:=fun z=>by
 obtain⟨dx,e⟩:=h.ins;rw[z,h.lst] at e; cases e
def gWInit (a:Adr):GC:=fun ts C Q=>∃(x dx:Addr) (pts:List Pt),ts=[.ref x,.tup (pts.map Pt.pv)]/\1<=pts.length/\C x=some (.ins a.Walk dx [])/\∀C' ll,C ll=none->Wk a C' x ll [(ZO pts).pv]->ExS [x] C C'->Q .non C'
theorem Jk (T:Txt P w K mg a):FnOk P w K mg base CX0 1 (a.f 36) (a.d 36) ["self","house"] (spC K (gWInit a)):=by
 have S:=(T.F 36 rfl).s;refine(T.F 36 rfl).ok (fun ts C R h=>?_) fun cdv A outer s H E hr=>⟨_,(kQ (eI T.eY T.zJ (cv 0) (nX (ca1 (fQ (qQ (fQ yZ) (qQ (cx (cx (cv 1) zQ) zQ) (qQ (fQ yZ) (ca1 (fQ yZ)))))))))),?_⟩
 .obtain ⟨_,_,_,rfl,_⟩:=h; rfl
 rintro ts C R ⟨x,dx,pts,rfl,hn,mx,q⟩
 cases pts with
 |nil=>exact absurd hn (by show ¬ 1<=0; omega)
 |cons y pts =>
 refine⟨by show 0<=sizeLine; decide,?_⟩;refine rX (xs:=(y::pts).map Pt.pv) (v:=y.pv) sQ ?_;refine rX (xs:=[.str y.name,.tup (y.first.map dQ),.tup (y.works.map mV),.tup (Ln.pvs y.ls)]) sQ ?_;refine⟨by show 0<=sizeLine; decide,?_⟩;refine⟨by show 0<=sizeLine; decide,?_⟩;refine⟨by show 4<=sizeLine; decide,?_⟩;refine⟨by show 1<=sizeLine; decide,fun ll ll0=>?_⟩;have nl:ll≠x:=fun z=>by rw[z,mx] at ll0; cases ll0
 refine gA (p:=x) (by rw[wQ (Ne.symm nl)]; exact mx) (by show 0 < 1000; decide) ?_;refine q _ ll ll0 ⟨⟨dx,?_⟩,?_⟩ ?_
 .rw [jQ]
  rfl
 .rw [wQ nl]; exact jQ
 .exact (ExS.refl.put ll0 _).at List.mem_cons_self _
def gDue (a:Adr):GC:=fun ts C Q=>∃(x ll:Addr) (xs:List PV),ts=[.ref x]/\Wk a C x ll xs/\Q ((xs[xs.length - 1]?).getD .non) C
theorem at_lst {xs:List PV}{y:PV}:atI (xs++[y]) (-1)=some y:=by
 unfold atI ixN;rw[if_neg (by decide),List.length_append,List.length_singleton,if_pos (by omega)];have:(-1+((xs.length+1:Nat):Int)).toNat=xs.length:=by omega
 first
 |rw[this]
 | (rw[Int.add_comm,this])
 simp
theorem ok_due (T:Txt P w K mg a):FnOk P w K mg base CX0 1 (a.f 37) (a.d 37) ["self"] (spC K (gDue a)):=by
 have S:=(T.F 37 rfl).s;refine(T.F 37 rfl).ok (fun ts C R h=>?_) fun cdv A outer s H E hr=>⟨_,(kQ (pQ (uE (ct_tru (yB T.eY T.zJ (cv 0))) (cx (yB T.eY T.zJ (cv 0)) (jC sM uU zQ)) rG))),?_⟩
 .obtain ⟨_,_,_,rfl,_⟩:=h; rfl
 rintro ts C R ⟨x,ll,xs,rfl,wk,q⟩;obtain⟨dx,mx⟩:=wk.ins;refine tru_i ?_ ?_
 .refine mP mx rfl ?_
  refine⟨ll,xs,rfl,wk.lst,?_⟩
  rcases List.eq_nil_or_concat xs with rfl | ⟨ys,y,rfl⟩
  .exact q
  .have e:(!(ys.concat y).isEmpty)=true:=by simp
   rw[e];refine mP mx rfl ?_;refine dX wk.lst (v:=y) (by rw[List.concat_eq_append]; exact at_lst) ?_;have e2:((ys.concat y)[(ys.concat y).length - 1]?).getD .non=y:=by simp
   rw[e2] at q;exact q
 .intro Q1 Q2 h q
  exact pS _ _ (fun v C1 q=>eO _ _ h q) q
def gPass (a:Adr):GC:=fun ts C Q=>∃(x ll:Addr) (xs:List PV) (y:PV) (e:En) (rs:List Str),ts=[.ref x,e.pv]/\Wk a C x ll (xs++[y])/\xs.length<=900/\dM rs 6 e.pc.row/\Wt.pcs e.pc.row<=50/\e.x.path.length<=40/\e.x.downs.length<=40 /\
 ∀C',Wk a C' x ll (xs++(((Wt.prts e.pc.row [] []).map (tZ e.x)).map Prt.pv).reverse)->ExS [ll] C C'->Q .non C'
theorem ok_pass (T:Txt P w K mg a):FnOk P w K mg base CX0 11 (a.f 38) (a.d 38) ["self","entry"] (spC K (gPass a)):=by
 have S:=(T.F 38 rfl).s;have Qq:=zO (base:=base) T
 refine(T.F 38 rfl).ok (fun ts C R h=>?_) fun cdv A outer s H E hr=>⟨_,(xQ (iX (KY PySem.F.plainAttrs_list PySem.F.slot_list_pop PySem.F.type_list_pop mt_pop cmt_pop (yB T.eY T.zJ (cv 0))))
  (kQ (iX (ce_bm PySem.F.plainAttrs_list PySem.F.slot_list_extend PySem.F.type_list_extend (fun p s σ H x vs v us Q=>XQ p s σ H x vs v us Q) aI (yB T.eY T.zJ (cv 0)) (ca1 (Qc rfl rfl rfl T.mC T.tE (cf (T.F 3 rfl) Qq hr (ca1 (cv 1))))))))),?_⟩
 .obtain ⟨_,_,_,_,_,_,rfl,_⟩:=h; rfl
 rintro ts C R ⟨x,ll,xs,y,e,rs,rfl,wk,hl,ok,hpc,hpl,hdl,q⟩;obtain⟨dx,mx⟩:=wk.ins;have nx:=wk.ne;refine mP mx rfl ?_;refine⟨zG wk.lst,?_⟩;refine pop_s wk.lst (y:=y) (by simp) ?_;rw[List.dropLast_concat]
 try dsimp only
 have mx1:yQ C ll (.lst xs) x=some (.ins a.Walk dx [("lacking",.ref ll)]):=by rw[wQ nx]; exact mx
 have ml1:yQ C ll (.lst xs) ll=some (.lst xs):=jQ;have e1:ExS [ll] C (yQ C ll (.lst xs)):=ExS.refl.at (by simp) _;generalize yQ C ll (.lst xs)=C1 at mx1 ml1 e1 ⊢;refine mP mx1 rfl ?_;refine⟨zG ml1,?_⟩;refine⟨e,rs,rfl,ok,hpc,hpl,hdl,fun p C2 n2 m2 g2=>?_⟩;refine lrev_s m2 fun p3 p30=>?_;have ml3:yQ C2 p3 (.lst ((((Wt.prts e.pc.row [] []).map (tZ e.x)).map Prt.pv).reverse)) ll=some (.lst xs):=Gr.new p30 _ _ _ (g2 _ _ ml1)
 have n3:p3≠ll:=fun z=>by rw[z,g2 _ _ ml1] at p30; cases p30
 have mx3:=Gr.new p30 (.lst ((((Wt.prts e.pc.row [] []).map (tZ e.x)).map Prt.pv).reverse)) _ _ (g2 _ _ mx1);refine lext_s ml3 jQ (cV (by rw[List.length_reverse,List.length_map,List.length_map,uJ]; omega)) ?_;refine q _ ⟨⟨dx,by rw[wQ nx]; exact mx3⟩,jQ⟩ ?_;intro b o nb hb;have nb':b≠ll:=fun z=>nb (List.mem_singleton.2 z);rw[wQ nb'];exact Gr.new p30 _ _ _ (g2 _ _ (e1 b o nb hb))
def gNext:GC:=fun ts C Q=>∃(pts:List Pt) (V:Vl) (k:Nat) (d:Addr),ts=[.tup (pts.map Pt.pv),.ref d]/\lF pts/\VOk V/\k<=(mQ pts V).length/\C d=some (.lst (((mQ pts V).take k).map En.pv))/\∀C',Gr C C'->Q (xD (mQ pts V) k) C'
theorem ok_next (T:Txt P w K mg a):FnOk P w K mg base CX0 12 (a.f 4) (a.d 4) ["house","done"] (spC K gNext):=by
 have S:=(T.F 4 rfl).s;have bD:=(Jk (base:=base) T).mono (show 1<=10 by decide);have Qr:=(ok_due (base:=base) T).mono (show 1<=11 by decide);have uH:=ok_pass (base:=base) T
 refine(T.F 4 rfl).ok (fun ts C R h=>?_) fun cdv A outer s H E hr=>⟨_,(xQ (cs1 2 S.nd (Xb T.mk_Walk bD hr rfl T.eA (T.F 36 rfl).b pT (ca1 (cv 0))))
  (xQ (gU PassesOwn.never rfl (cv 1) (cg1 3 S.nd) (kQ (iX (cm T.eY (T.F 38 rfl) T.eA uH hr (cv 2) (ca1 (cv 3))))))
  (kQ (pQ (cm0 T.eY (T.F 37 rfl) T.eA Qr hr (cv 2)))))),?_⟩
 .obtain ⟨_,_,_,_,rfl,_⟩:=h; rfl
 rintro ts C R ⟨pts,V,k,d,rfl,hs,hV,hk,md,q⟩;have hlen:(mQ pts V).length<=559:=QX hs hV (bV hs);have h6:=hs.n6;intro x dx x0 dx0 ndx;have ndx:d≠x:=fun z=>by rw[z,x0] at md; cases md
 refine⟨x,dx,pts,rfl,hs.n1,jQ,fun C1 ll ll0 wk1 e1=>⟨rfl,?_⟩⟩
 try dsimp only
 have g1:Gr C C1:=fun b o h=>by
  have:b≠x:=fun z=>by rw[z,x0] at h; cases h
  exact e1 b o (fun z=>this (List.mem_singleton.1 z)) (by rw[wQ this]; exact h)
 have ll0':C ll=none:=by
  rw[wQ (Ne.symm wk1.ne)] at ll0;exact ll0
 refine aQ (fun ρ' C'=>∃(x3:Option PV) (st:Stk),ρ'=[some (.tup (pts.map Pt.pv)),some (.ref d),some (.ref x),x3]/\Wk a C' x ll (zK st)/\gC pts st/\tW pts V st=(mQ pts V).drop k/\Gr C C') (fun L0 hL0=>?_) ?_
 .refine ⟨k+1,?_⟩
  refine rW (xs:=((mQ pts V).take k).map En.pv) (fun i ρ C'=>C' d=some (.lst (((mQ pts V).take k).map En.pv))/\∃(x3:Option PV) (st:Stk),i<=k/\ρ=[some (.tup (pts.map Pt.pv)),some (.ref d),some (.ref x),x3]/\Wk a C' x ll (zK st)/\gC pts st/\tW pts V st=(mQ pts V).drop i/\Gr C C') (fun _ _ _ h=>h.1) ?_ ?_ _ 0 _ _ ⟨g1 _ _ md,_,[(ZO pts,6)],Nat.zero_le _,rfl,wk1,?_,?_,g1⟩ (by rw[List.length_map,List.length_take]; omega) (Nat.zero_le _)
  .rintro i z ρ C2 hz ⟨m2,x3,st,hi,rfl,wk,so,hr',g2⟩ L hL
   rw[List.getElem?_map] at hz
   cases he:((mQ pts V).take k)[i]? with
   |none=>rw[he] at hz; cases hz
   |some en =>
   rw[he] at hz;cases hz;have hi':i < k:=by have:=(List.getElem?_eq_some_iff.1 he).1; rw[List.length_take] at this; omega
   rw[List.getElem?_take_of_lt hi'] at he;obtain⟨hil,hie⟩:=List.getElem?_eq_some_iff.1 he;have ed:tW pts V st=en::(mQ pts V).drop (i+1):=by rw[hr',List.drop_eq_getElem_cons hil,hie]
   obtain⟨y,n,st',rfl,rfl,⟨k',yp,du,ha⟩,er,so'⟩:=zT hs hV so ed;have hsl:=sC (V:=V) so;have hrl:(tW pts V ((y,n+1)::st')).length<=559:=by rw[hr',List.length_drop]; omega
   rw[List.length_cons] at hsl;obtain⟨dx2,mx2⟩:=wk.ins;refine⟨fX mx2 rfl,?_⟩
   have hkl:k' < pts.length:=by
    have:=(List.getElem?_eq_some_iff.1 du.nm).1;unfold vJ at this;rw[List.length_map] at this;exact this
   have hpl:=du.pl;have hdl:=du.dl;have hcap:tK k'<=18:=by unfold tK; split<;>decide
   have hpc:=ha.pcs;refine⟨x,ll,zK st',y.pv,⟨y,pY pts V y⟩,_,rfl,by rw[dN] at wk; exact wk,by rw[JR]; omega,ha.row,by show Wt.pcs (pY pts V y).row<=50; omega,by show y.path.length<=40; omega,by show y.downs.length<=40; omega,fun C3 wk3 e3=>?_⟩;have g3:Gr C C3:=fun b o h=>e3 b o (fun z=>by rw[List.mem_singleton.1 z,ll0'] at h; cases h) (g2 b o h);refine hL _ _ ⟨g3 _ _ md,_,(kids pts V y).map (fun z=>(z,n))++st',hi',rfl,?_,so',er.symm,g3⟩
   rw[XX];exact wk3
  .rintro ρ C2 ⟨m2,x3,st,hi,rfl,wk,so,hr',g2⟩
   refine hL0 _ _ ⟨_,st,rfl,wk,so,?_,g2⟩;rw[hr',List.length_map,List.length_take,Nat.min_eq_left hk]
  .intro p hp
   cases List.mem_singleton.1 hp;exact⟨0,bV hs,by show pts.length<=0+6; omega⟩
  .unfold tW
   rw[List.flatMap_cons,List.flatMap_nil,List.append_nil]
   rfl
 .rintro ρ' C2 ⟨x3,st,rfl,wk,so,hr',g2⟩
  try dsimp only
  obtain⟨dx2,mx2⟩:=wk.ins;refine⟨fX mx2 rfl,?_⟩;refine⟨x,ll,zK st,rfl,wk,?_⟩;have:=q C2 g2;unfold xD at this
  rcases Nat.lt_or_ge k (mQ pts V).length with hlt | hge
  .have ed:tW pts V st=(mQ pts V)[k]::(mQ pts V).drop (k+1):=by rw[hr',List.drop_eq_getElem_cons hlt]
   obtain⟨y,n,st',rfl,ey,_,er,so'⟩:=zT hs hV so ed;rw[List.getElem?_eq_getElem hlt,ey] at this;have e2:((zK ((y,n+1)::st'))[(zK ((y,n+1)::st')).length - 1]?).getD .non=y.pv:=by rw[dN]; simp
   rw[e2];exact this
  .have:st=[]:=rem_nil so (by rw[hr',List.drop_of_length_le hge])
   subst this;have e2:(mQ pts V)[k]?=none:=List.getElem?_eq_none hge;have h3:=q C2 g2;unfold xD at h3;rw[e2] at h3;exact h3
end
section
variable {P:Program}{w:World}{K:PySem.W.Frag}{mg:Str->Option Value}{base:Heap}{a:Adr}
def JX:Ty->Option Str
 |.non=>some "none"
 |.bl=>some "truth"
 |.int=>some "number"
 |.str=>some "text"
 |.tup=>some "tuple"
 |.lst=>some "list"
 |_=>none
def gKind:GC:=fun ts C Q=>∃(x:PV) (n:Ty) (k:Str),ts=[x]/\tyP C x=some n/\JX n=some k/\∀C',Gr C C'->Q (.str k) C'
theorem Ka {x:PV}(h:uI x=true):x=.non:=by
 cases x<;>first | rfl | cases h
theorem ok_kind (T:Txt P w K mg a):FnOk P w K mg base CX0 1 (a.f 33) (a.d 33) ["_law_thing"] (spC K gKind):=by
 have S:=(T.F 33 rfl).s
 refine(T.F 33 rfl).ok (fun ts C R h=>?_) fun cdv A outer s H E hr=>⟨_,(xQ (zX (ct2 Ji Q7 (cv 0) rG) (kQ (pQ vQ)) tQ)
  (xQ (zX (lP (xZ eK gM rfl T.sJ rfl (qQ (cv 0) (ca1 (yE (n:="bool") rfl T.z_bool rfl))))) (kQ (pQ vQ)) tQ)
  (xQ (cs1 1 S.nd (nX (qQ (xZ eK gM rfl T.sJ rfl (qQ (cv 0) (ca1 (yE (n:="int") rfl T.fS rfl)))) (qQ (xZ eK gM rfl T.sJ rfl (qQ (cv 0) (ca1 (yE (n:="str") rfl T.z_str rfl)))) (qQ (xZ eK gM rfl T.sJ rfl (qQ (cv 0) (ca1 (yE (n:="tuple") rfl T.eX rfl)))) (ca1 (xZ eK gM rfl T.sJ rfl (qQ (cv 0) (ca1 (yE (n:="list") rfl T.mC rfl))))))))))
  (xQ (cs1 2 S.nd (nX (qQ vQ (qQ vQ (qQ vQ (ca1 vQ))))))
  (kQ (pQ (cx (eQ gX bX (bW rfl (S.c (by decide +kernel)) (S.k rfl rfl rfl (by decide +kernel)) (eP rfl T.nK (ca1 zQ)) (fun _ _ _ _ _=>(KK (lP (cx (cv 2) (cv 0))))) (fun _ _ _ _ _=>(cx (cv 3) (cv 0)))) (nX (ca1 vQ))) zQ))))))),?_⟩
 .obtain ⟨x,n,k,rfl,_⟩:=h; rfl
 rintro ts C R ⟨x,n,k,rfl,hx,hk,q⟩;refine Ke (fun hb=>?_) fun hb=>?_
 .have e:=Ka hb
  subst e;cases hx;cases hk;exact q C Gr.refl
 refine vX ?_
 try dsimp only
 refine cO rfl hx (Ke (fun hb2=>?_) fun hb2=>?_)
 .cases n with
  |bl=>cases hk; exact q C Gr.refl
  |_=>first | cases hb2 | cases hk
 refine vX ?_
 try dsimp only
 refine uQ ?_;refine cO (T:=.int) rfl hx ?_;refine cO (T:=.str) rfl hx ?_;refine cO (T:=.tup) rfl hx ?_;refine cO (T:=.lst) rfl hx ?_;refine⟨(show 4<=sizeLine by decide),fun p1 h1=>⟨by decide,fun p2 h2=>⟨by decide,by decide,?_⟩⟩⟩;have mk:yQ (yQ C p1 (.lst [.bl (qW n .int),.bl (qW n .str),.bl (qW n .tup),.bl (qW n .lst)])) p2 (.lst [.str "number",.str "text",.str "tuple",.str "list"]) p1=some (.lst [.bl (qW n .int),.bl (qW n .str),.bl (qW n .tup),.bl (qW n .lst)]):=(Gr.new h2 _) p1 _ jQ
 have mn:yQ (yQ C p1 (.lst [.bl (qW n .int),.bl (qW n .str),.bl (qW n .tup),.bl (qW n .lst)])) p2 (.lst [.str "number",.str "text",.str "tuple",.str "list"]) p2=some (.lst [.str "number",.str "text",.str "tuple",.str "list"]):=jQ;have g2:Gr C (yQ (yQ C p1 (.lst [.bl (qW n .int),.bl (qW n .str),.bl (qW n .tup),.bl (qW n .lst)])) p2 (.lst [.str "number",.str "text",.str "tuple",.str "list"])):=(Gr.new h1 _).trans (Gr.new h2 _)
 cases n with
 |non =>
  cases x with
  |non=>cases hb
  |ref a=>unfold tyP at hx; dsimp only at hx; split at hx<;>cases hx
  |_=>cases hx
 |int =>
  cases hk;refine yX (x:=.int 0) (r:=[.int 1,.int 2,.int 3]) ?_;refine dX mk rfl ?_;refine pK ?_ ?_
  .rfl
  refine dX mn rfl ?_;refine⟨by decide,?_⟩;refine yX (x:=.int 1) (r:=[.int 2,.int 3]) ?_;refine dX mk rfl ?_;refine qZ ?_ ?_
  .rfl
  refine yX (x:=.int 2) (r:=[.int 3]) ?_;refine dX mk rfl ?_;refine qZ ?_ ?_
  .rfl
  refine yX (x:=.int 3) (r:=[]) ?_;refine dX mk rfl ?_;refine qZ ?_ ?_
  .rfl
  refine jW fun p3 h3=>?_;refine⟨by decide,fun p4 h4=>yD ((Gr.new h4 _) p3 _ jQ) jQ (by decide) fun p5 h5=>dX jQ rfl ?_⟩;exact q _ ((((g2.trans (Gr.new h3 _)).trans (Gr.new h4 _)).trans (Gr.new h5 _)))
 |str =>
  cases hk;refine yX (x:=.int 0) (r:=[.int 1,.int 2,.int 3]) ?_;refine dX mk rfl ?_;refine qZ ?_ ?_
  .rfl
  refine yX (x:=.int 1) (r:=[.int 2,.int 3]) ?_;refine dX mk rfl ?_;refine pK ?_ ?_
  .rfl
  refine dX mn rfl ?_;refine⟨by decide,?_⟩;refine yX (x:=.int 2) (r:=[.int 3]) ?_;refine dX mk rfl ?_;refine qZ ?_ ?_
  .rfl
  refine yX (x:=.int 3) (r:=[]) ?_;refine dX mk rfl ?_;refine qZ ?_ ?_
  .rfl
  refine jW fun p3 h3=>?_;refine⟨by decide,fun p4 h4=>yD ((Gr.new h4 _) p3 _ jQ) jQ (by decide) fun p5 h5=>dX jQ rfl ?_⟩;exact q _ ((((g2.trans (Gr.new h3 _)).trans (Gr.new h4 _)).trans (Gr.new h5 _)))
 |tup =>
  cases hk;refine yX (x:=.int 0) (r:=[.int 1,.int 2,.int 3]) ?_;refine dX mk rfl ?_;refine qZ ?_ ?_
  .rfl
  refine yX (x:=.int 1) (r:=[.int 2,.int 3]) ?_;refine dX mk rfl ?_;refine qZ ?_ ?_
  .rfl
  refine yX (x:=.int 2) (r:=[.int 3]) ?_;refine dX mk rfl ?_;refine pK ?_ ?_
  .rfl
  refine dX mn rfl ?_;refine⟨by decide,?_⟩;refine yX (x:=.int 3) (r:=[]) ?_;refine dX mk rfl ?_;refine qZ ?_ ?_
  .rfl
  refine jW fun p3 h3=>?_;refine⟨by decide,fun p4 h4=>yD ((Gr.new h4 _) p3 _ jQ) jQ (by decide) fun p5 h5=>dX jQ rfl ?_⟩;exact q _ ((((g2.trans (Gr.new h3 _)).trans (Gr.new h4 _)).trans (Gr.new h5 _)))
 |lst =>
  cases hk;refine yX (x:=.int 0) (r:=[.int 1,.int 2,.int 3]) ?_;refine dX mk rfl ?_;refine qZ ?_ ?_
  .rfl
  refine yX (x:=.int 1) (r:=[.int 2,.int 3]) ?_;refine dX mk rfl ?_;refine qZ ?_ ?_
  .rfl
  refine yX (x:=.int 2) (r:=[.int 3]) ?_;refine dX mk rfl ?_;refine qZ ?_ ?_
  .rfl
  refine yX (x:=.int 3) (r:=[]) ?_;refine dX mk rfl ?_;refine pK ?_ ?_
  .rfl
  refine dX mn rfl ?_;refine⟨by decide,?_⟩;refine jW fun p3 h3=>?_;refine⟨by decide,fun p4 h4=>yD ((Gr.new h4 _) p3 _ jQ) jQ (by decide) fun p5 h5=>dX jQ rfl ?_⟩;exact q _ ((((g2.trans (Gr.new h3 _)).trans (Gr.new h4 _)).trans (Gr.new h5 _)))
 |bl=>cases hb2
 |_=>cases hk
end
section
variable {P:Program}{w:World}{K:PySem.W.Frag}{mg:Str->Option Value}{base:Heap}{a:Adr}
def Sq (C:CH)(x:PV)(xs:List PV)(k:Ty):Prop:=(k=.tup/\x=.tup xs)\/(k=.lst/\∃a,x=.ref a/\C a=some (.lst xs))
theorem Sq.gr {C C':CH}{x:PV}{xs:List PV}{k:Ty}(h:Sq C x xs k)(g:Gr C C'):Sq C' x xs k:=by
 rcases h with h | ⟨e,a,ea,h⟩
 .exact .inl h
 .exact .inr ⟨e,a,ea,g a _ h⟩
theorem Sq.ty {C:CH}{x:PV}{xs:List PV}{k:Ty}(h:Sq C x xs k):tyP C x=some k:=by
 rcases h with ⟨rfl,rfl⟩ | ⟨rfl,a,rfl,h⟩
 .rfl
 .show (match C a with | some (.lst _)=>some Ty.lst | some (.dK _)=>some Ty.dct | _=>none)=_
  rw[h]
theorem Sq.len {C:CH}{x:PV}{xs:List PV}{k:Ty}{Q:K1}(h:Sq C x xs k)(q:Q (.int xs.length) C):oH [x] C Q:=by
 rcases h with ⟨rfl,rfl⟩ | ⟨rfl,a,rfl,h⟩
 .exact pN q
 .exact iW h q
theorem Sq.ix {C:CH}{x v:PV}{xs:List PV}{k:Ty}{i:Int}{Q:K1}(h:Sq C x xs k)(e:atI xs i=some v)(q:Q v C):cIx x (.int i) C Q:=by
 rcases h with ⟨rfl,rfl⟩ | ⟨rfl,a,rfl,h⟩
 .exact rX e q
 .exact dX h e q
def sc:PV->Option Ty
 |.non=>some .non
 |.bl _=>some .bl
 |.int _=>some .int
 |.str _=>some .str
 |_=>none
def Al:Nat->CH->PV->PV->Prop
 |0,_,_,_=>False
 |d+1,C,x,y=>(x=y/\(sc x).isSome=true)\/∃xs k,Sq C x xs k/\Sq C y xs k/\xs.length<=200000/\∀z∈xs,∀C',Al d C' z z
def gAl (d:Nat):GC:=fun ts C Q=>∃x y,ts=[x,y]/\Al d C x y/\∀C',Gr C C'->Q (.bl true) C'
theorem bls_rep (n:Nat):wD (List.replicate n (.bl true))=some (List.replicate n true):=by
 induction n with
 |zero=>rfl
 |succ n ih=>rw[List.replicate_succ,List.replicate_succ]; show(wD _).map _=_; rw[ih]; rfl
theorem vD {c:TCE}{ρ:CSt}{Q:K1}{C0:CH}{m:Nat}(h:∀(k:Nat) C (Q':K1),k < m->Gr C0 C->(∀C',Gr C C'->Q' (.bl true) C')->c (some (.int (k:Int))::ρ) C Q')
  (q:∀p n C',Gr C0 C'->C' p=some (.lst (List.replicate n (.bl true)))->Q (.ref p) C') (L:List Nat):∀(n:Nat) (C:CH),(∀k∈L,k < m)->n+L.length<=200000->Gr C0 C->kZ gB c ρ Q (L.map fun k=>PV.int (k:Nat)) (List.replicate n (.bl true)) C:=by
 induction L with
 |nil=>intro n C _ _ g; exact jW fun p hp=>q p n _ (g.trans (Gr.new hp _)) jQ
 |cons k L ih =>
  intro n C hm hl g;have hl':n+(L.length+1)<=200000:=hl;refine yX ?_;show c (some (.int (k:Int))::ρ) C fun y C2=>(List.replicate n (PV.bl true)).length < sizeLine/\kZ gB c ρ Q (L.map fun k=>PV.int (k:Nat)) (List.replicate n (.bl true)++[y]) C2;refine h k C _ (hm k List.mem_cons_self) g fun C' g'=>⟨?_,?_⟩
  .rw [List.length_replicate]
   exact Nat.lt_of_lt_of_le (show n < 200000 by omega) (by decide)
  .have e:List.replicate n (PV.bl true)++[.bl true]=List.replicate (n+1) (.bl true):=by rw[List.replicate_succ']
   rw[e];exact ih (n+1) C' (fun j hj=>hm j (List.mem_cons_of_mem _ hj)) (by omega) (g.trans g')
theorem Xo {p:Addr}{n:Nat}{C:CH}{Q:K1}(h:C p=some (.lst (List.replicate n (.bl true))))(q:Q (.bl true) C):cAll [.ref p] C Q:=by
 unfold cAll;show(match C p with | some (.lst xs)=>(match wD xs with | some bs=>Q (.bl (bs.all id)) C | none=>False) | _=>False);rw[h];dsimp only;rw[bls_rep];dsimp only
 have e:(List.replicate n true).all id=true:=by
  rw[List.all_eq_true];intro b hb;exact(List.eq_of_mem_replicate hb)
 rw[e];exact q
theorem sc_ty {C:CH}{x:PV}(h:(sc x).isSome=true):∃n k,tyP C x=some n/\JX n=some k/\k ≠ "tuple"/\k ≠ "list"/\sEq x x=some true:=by
 cases x with
 |non=>exact⟨_,_,rfl,rfl,by decide,by decide,rfl⟩
 |bl i=>exact⟨_,_,rfl,rfl,by decide,by decide,by show some (decide (i=i))=_; rw[decide_eq_true rfl]⟩
 |int i=>exact⟨_,_,rfl,rfl,by decide,by decide,by show some (decide (i=i))=_; rw[decide_eq_true rfl]⟩
 |str i=>exact⟨_,_,rfl,rfl,by decide,by decide,by show some (decide (i=i))=_; rw[decide_eq_true rfl]⟩
 |_=>cases h
theorem Zx {C C':CH}{x:PV}{n:Ty}(h:tyP C x=some n)(g:Gr C C'):tyP C' x=some n:=by
 cases x with
 |ref a =>
  unfold tyP at h ⊢;dsimp only at h ⊢
  split at h
  .next e=>rw[g a _ e]; exact h
  .next e=>rw[g a _ e]; exact h
  .cases h
 |_=>exact h
theorem Jw (T:Txt P w K mg a)(d:Nat):FnOk P w K mg base CX0 (d+2) (a.f 34) (a.d 34) ["_law_one","_law_other"] (spC K (gAl d)):=by
 induction d with
 |zero=>exact⟨fun vs H Q E ⟨ts,C,R,_,_,⟨x,y,_,h,_⟩,_⟩=>h.elim,fun _ _ _ _ _ _ _ _ _ _ _ _ _ ⟨ts,C,R,_,_,⟨x,y,_,h,_⟩,_⟩=>h.elim⟩
 |succ d ih =>
 have S:=(T.F 34 rfl).s;have rE:=(ok_kind (base:=base) T).mono (show 1<=d+2 by omega);have sF:=ih
 refine(T.F 34 rfl).ok (fun ts C R h=>?_) fun cdv A outer s H E hr=>⟨_,(xQ (cs1 2 S.nd (cf (T.F 33 rfl) rE hr (ca1 (cv 0))))
  (xQ (zX (ct2 op_ne cop_ne (cv 2) (cf (T.F 33 rfl) rE hr (ca1 (cv 1)))) (kQ (pQ KZ)) tQ)
  (xQ (zX (cw_pt (cw_or (ct2 mX iQ (cv 2) vQ) (cw_or1 (ct2 mX iQ (cv 2) vQ)))) (kQ (pQ (ce_and (sG mX iQ (cln T.eZ (cv 0)) (cln T.eZ (cv 1)) (dY _)) (ce_one (xZ (K0 rfl) cbi_all rfl T.z_all rfl (ca1 (bW rfl (S.c (by decide +kernel)) (S.k rfl rfl rfl (by decide +kernel)) (eP rfl T.nK (ca1 (cln T.eZ (cv 0)))) (fun _ _ _ _ _=>wK) (fun _ _ _ _ _=>(cf (T.F 34 rfl) sF hr (qQ (cx (cv 1) (cv 0)) (ca1 (cx (cv 2) (cv 0))))))))))))) tQ)
  (kQ (pQ (sG mX iQ (cv 0) (cv 1) (dY _))))))),?_⟩
 .obtain ⟨x,y,rfl,_⟩:=h; rfl
 rintro ts C R ⟨x,y,rfl,(⟨rfl,hs⟩ | ⟨xs,k,hx,hy,hl,hz⟩),q⟩
 .obtain ⟨n,k,h1,h2,n1,n2,e⟩:=sc_ty (C:=C) hs
  refine⟨x,n,k,rfl,h1,h2,fun C1 g1=>?_⟩;refine⟨x,n,k,rfl,Zx h1 g1,h2,fun C2 g2=>?_⟩;refine xX (lQ _ _) ?_;refine qZ (by rw[decide_eq_true rfl]; rfl) ?_;refine vX ?_
  try dsimp only
  refine xX (lQ _ _) ?_;refine qZ (by rw[decide_eq_false n1]; rfl) ?_;refine xX (lQ _ _) ?_;refine qZ (by rw[decide_eq_false n2]; rfl) ?_;refine vX ?_
  try dsimp only
  refine xX e ?_;exact q _ (g1.trans g2)
 .have hk:∃k',JX k=some k'/\(k' = "tuple"\/k' = "list"):=by
   rcases hx with ⟨rfl,_⟩ | ⟨rfl,_⟩
   .exact ⟨_,rfl,.inl rfl⟩
   .exact ⟨_,rfl,.inr rfl⟩
  obtain⟨k',h2,ho⟩:=hk;refine⟨x,k,k',rfl,hx.ty,h2,fun C1 g1=>?_⟩;refine⟨y,k,k',rfl,Zx hy.ty g1,h2,fun C2 g2=>?_⟩;refine xX (lQ _ _) ?_;refine qZ (by rw[decide_eq_true rfl]; rfl) ?_;refine vX ?_
  try dsimp only
  have hx2:=(hx.gr g1).gr g2;have hy2:=(hy.gr g1).gr g2
  rcases ho with rfl | rfl
  .refine xX (lQ _ _) ?_
   refine pK (by decide) ?_;refine if_y ?_ ?_
   .rfl
   refine hx2.len ?_;refine hy2.len ?_;refine xX (b:=true) (by show some (decide _)=_; rw[decide_eq_true rfl]) ?_;refine pK rfl ?_;refine hx2.len ?_;refine⟨by omega,by omega,?_⟩;refine vD (m:=xs.length) (C0:=C2) (fun k C3 Q' hk g3 hq=>?_) (fun p n C' g' m=>Xo m (q _ ((g1.trans g2).trans g'))) _ 0 C2 (fun k hk=>?_) ?_ Gr.refl
   .refine (hx2.gr g3).ix (tG hk) ?_
    refine(hy2.gr g3).ix (tG hk) ?_;exact⟨xs[k],xs[k],rfl,hz _ (List.getElem_mem hk) _,hq⟩
   .have:=List.mem_range.1 hk
    omega
   .rw [List.length_range]
    omega
  .refine xX (lQ _ _) ?_
   refine qZ (by decide) ?_;refine xX (lQ _ _) ?_;refine pK (by decide) ?_;refine hx2.len ?_;refine hy2.len ?_;refine xX (b:=true) (by show some (decide _)=_; rw[decide_eq_true rfl]) ?_;refine pK rfl ?_;refine hx2.len ?_;refine⟨by omega,by omega,?_⟩;refine vD (m:=xs.length) (C0:=C2) (fun k C3 Q' hk g3 hq=>?_) (fun p n C' g' m=>Xo m (q _ ((g1.trans g2).trans g'))) _ 0 C2 (fun k hk=>?_) ?_ Gr.refl
   .refine (hx2.gr g3).ix (tG hk) ?_
    refine(hy2.gr g3).ix (tG hk) ?_;exact⟨xs[k],xs[k],rfl,hz _ (List.getElem_mem hk) _,hq⟩
   .have:=List.mem_range.1 hk
    omega
   .rw [List.length_range]
    omega
end
inductive Pk:Nat->PV->Prop
 |non {d:Nat}:Pk d .non
 |bl {d:Nat} (b:Bool):Pk d (.bl b)
 |int {d:Nat} (i:Int):Pk d (.int i)
 |str {d:Nat} (x:Str):Pk d (.str x)
 |tup {d:Nat} {ts:List PV} (hl:ts.length<=200000) (h:∀t∈ts,Pk d t):Pk (d+1) (.tup ts)
theorem Pk.up {d:Nat}{t:PV}(h:Pk d t):Pk (d+1) t:=by
 induction h with
 |non=>exact .non
 |bl b=>exact .bl b
 |int i=>exact .int i
 |str x=>exact .str x
 |tup hl _ ih=>exact .tup hl ih
theorem Pk.mono {d e:Nat}{t:PV}(h:Pk d t)(le:d<=e):Pk e t:=by
 induction le with
 |refl=>exact h
 |step _ ih=>exact ih.up
theorem Pk.al {d:Nat}{t:PV}(h:Pk d t):∀C,Al (d+1) C t t:=by
 induction h with
 |non=>intro C; exact .inl ⟨rfl,rfl⟩
 |bl b=>intro C; exact .inl ⟨rfl,rfl⟩
 |int i=>intro C; exact .inl ⟨rfl,rfl⟩
 |str x=>intro C; exact .inl ⟨rfl,rfl⟩
 |tup hl _ ih=>intro C; exact .inr ⟨_,.tup,.inl ⟨rfl,rfl⟩,.inl ⟨rfl,rfl⟩,hl,fun z hz C'=>ih z hz C'⟩
theorem key_pk (k:Key):Pk 0 (aV k):=by
 rcases k with (_ | i) | x
 .exact .non
 .exact .int i
 .exact .str x
theorem tk_pk {sp:List Key}(h:sp.length<=2):Pk 1 (mK sp):=.tup (by rw[List.length_map]; omega) fun t ht=>by
 obtain⟨k,_,rfl⟩:=List.mem_map.1 ht;exact key_pk k
def PthOk (p:lX)(m:Nat):Prop:=(∀sp∈p,sp.length<=2)/\p.length+m<=500
theorem PthOk.nil {m:Nat}(h:m<=500):PthOk [] m:=⟨fun _ z=>(nomatch z),by show 0+m<=500; omega⟩
theorem pth_pk {p:lX}{m:Nat}(h:PthOk p m):Pk 2 (wZ p):=.tup (by rw[List.length_map]; have:=h.2; omega) fun t ht=>by
 obtain⟨sp,hs,rfl⟩:=List.mem_map.1 ht;exact tk_pk (h.1 sp hs)
theorem Zy {d:Nat}{ts:List PV}(hl:ts.length<=6)(h:∀t∈ts,Pk d t):Pk (d+1) (.tup ts):=.tup (by omega) h
theorem si_pk (c:Str×Int):Pk 1 (dQ c):=Zy (by show 2<=6; decide) fun t ht=>by
 rcases List.mem_cons.1 ht with rfl | ht
 .exact .str _
 .cases List.mem_singleton.1 ht; exact .int _
theorem ZL {cs:List (Str×Int)}(h:cs.length<=200000):Pk 2 (.tup (cs.map dQ)):=.tup (by rw[List.length_map]; exact h) fun t ht=>by
 obtain⟨c,_,rfl⟩:=List.mem_map.1 ht;exact si_pk c
theorem pl_up {d:Nat}{t:PV}(h:Pl d t):Pl (d+1) t:=by
 induction h with
 |non=>exact .non
 |bl b=>exact .bl b
 |int i=>exact .int i
 |str x=>exact .str x
 |tup _ ih=>exact .tup ih
theorem bJ {d e:Nat}{t:PV}(h:Pl d t)(le:d<=e):Pl e t:=by
 induction le with
 |refl=>exact h
 |step _ ih=>exact pl_up ih
theorem key_pl (k:Key):Pl 0 (aV k):=by
 rcases k with (_ | i) | x
 .exact .non
 .exact .int i
 .exact .str x
theorem Qv (sp:List Key):Pl 1 (mK sp):=.tup fun t ht=>by
 obtain⟨k,_,rfl⟩:=List.mem_map.1 ht;exact key_pl k
theorem pth_pl (p:lX):Pl 2 (wZ p):=.tup fun t ht=>by
 obtain⟨sp,hs,rfl⟩:=List.mem_map.1 ht;exact Qv sp
theorem si_pl (c:Str×Int):Pl 1 (dQ c):=.tup fun t ht=>by
 rcases List.mem_cons.1 ht with rfl | ht
 .exact .str _
 .cases List.mem_singleton.1 ht; exact .int _
theorem pL (cs:List (Str×Int)):Pl 2 (.tup (cs.map dQ)):=.tup fun t ht=>by
 obtain⟨c,_,rfl⟩:=List.mem_map.1 ht;exact si_pl c
theorem cv_pl (c:Str×Str×Int):Pl 1 (cvPV c):=.tup fun t ht=>by
 simp only[List.mem_cons,List.not_mem_nil,or_false] at ht
 rcases ht with rfl | rfl | rfl
 .exact .str _
 .exact .str _
 .exact .int _
theorem hdv_pl (h:HdV):Pl 3 h.pv:=.tup fun t ht=>by
 simp only[List.mem_cons,List.not_mem_nil,or_false] at ht
 rcases ht with rfl | rfl | rfl | rfl
 .exact .str _
 .exact .int _
 .exact .bl _
 .exact .tup fun t ht=>by
   obtain⟨c,_,rfl⟩:=List.mem_map.1 ht;exact cv_pl c
theorem wt_pl {rs:List Str}:∀(d:Nat) (x:Wt),WtOk rs d x->Pl (2 * d+4) x.pv:=by
 intro d
 induction d with
 |zero=>intro x h; exact h.elim
 |succ d ih =>
  intro x h;have e:2 * (d+1)+4=(2 * d+5)+1:=by omega
  rw[e]
  have row:∀r:List Wt,(∀y∈r,WtOk rs d y)->Pl (2 * d+5) (.tup (Wt.pvs r)):=fun r hr=>.tup fun t ht=>by
   rw[Wt.pvs_map] at ht;obtain⟨y,hy,rfl⟩:=List.mem_map.1 ht;exact ih y (hr y hy)
  cases x with
  |plain sp tag ss hs r =>
   rw[Wt.pv];refine .tup fun t ht=>?_
   simp only[List.mem_cons,List.not_mem_nil,or_false] at ht
   rcases ht with rfl | rfl | rfl | rfl | rfl | rfl
   .exact .str _
   .exact bJ (Qv sp) (by omega)
   .exact .str _
   .exact bJ (pL ss) (by omega)
   .refine bJ (d:=4) (.tup fun t ht=>?_) (by omega)
    obtain⟨y,hy,rfl⟩:=List.mem_map.1 ht;exact hdv_pl y
   .exact row r h.2.2.1
  |part sp n g =>
   rw[Wt.pv];refine .tup fun t ht=>?_
   simp only[List.mem_cons,List.not_mem_nil,or_false] at ht
   rcases ht with rfl | rfl | rfl | rfl
   .exact .str _
   .exact bJ (Qv sp) (by omega)
   .exact .str _
   .exact bJ (pL g) (by omega)
  |give sp n i r =>
   rw[Wt.pv];refine .tup fun t ht=>?_
   simp only[List.mem_cons,List.not_mem_nil,or_false] at ht
   rcases ht with rfl | rfl | rfl | rfl | rfl
   .exact .str _
   .exact bJ (Qv sp) (by omega)
   .exact .str _
   .exact .int _
   .exact row r h.2.2.1
theorem ti_pl (c:List Str×Int):Pl 2 (eU c):=.tup fun t ht=>by
 rcases List.mem_cons.1 ht with rfl | ht
 .exact .tup fun t ht=>by
   obtain⟨x,_,rfl⟩:=List.mem_map.1 ht;exact .str x
 .cases List.mem_singleton.1 ht; exact .int _
theorem en_pl {rs:List Str}{e:En}(h:dM rs 6 e.pc.row):Pl 20 e.pv:=by
 refine .tup fun t ht=>?_
 simp only[List.mem_cons,List.not_mem_nil,or_false] at ht
 rcases ht with rfl | rfl | rfl | rfl | rfl
 .exact bJ (pth_pl _) (by decide)
 .exact .str _
 .exact bJ (pL _) (by decide)
 .exact bJ (pL _) (by decide)
 .refine bJ (d:=18) (.tup fun t ht=>?_) (by decide)
  simp only[List.mem_cons,List.not_mem_nil,or_false] at ht
  rcases ht with rfl | rfl | rfl
  .refine bJ (d:=3) (.tup fun t ht=>?_) (by decide)
   obtain⟨c,_,rfl⟩:=List.mem_map.1 ht;exact ti_pl c
  .refine .tup fun t ht=>?_
   rw[Wt.pvs_map] at ht;obtain⟨y,hy,rfl⟩:=List.mem_map.1 ht;exact wt_pl 6 y (h.1 y hy)
  .exact bJ (pL _) (by decide)
theorem lst_s {a:Addr}{xs:List PV}{C:CH}{Q:K1}(h:C a=some (.lst xs))(q:∀p,C p=none->Q (.ref p) (yQ C p (.lst xs))):jS [.ref a] C Q:=by
 unfold jS;dsimp only;rw[h];exact q
theorem neD_s {d:Nat}{a b:Addr}{xs:List PV}{C:CH}{Q:K1}(h1:C a=some (.lst xs))(h2:C b=some (.lst xs))(hp:∀t∈xs,Pl d t)(q:Q (.bl false) C):cNeD d (.ref a) (.ref b) C Q:=by
 unfold cNeD;dsimp only;rw[h1,h2];exact⟨rfl,hp,q⟩
theorem hu21_of {A:Around}{k:Nat}(hr:Room k A):A.units+1+20 < cLine:=by have:=hr.un; omega
def Sp2 (p:lX):Prop:=∀sp∈p,sp.length<=2
theorem Sp2.app {p q:lX}(h:Sp2 p)(k:Sp2 q):Sp2 (p++q):=fun sp hs=>by
 rcases List.mem_append.1 hs with hs | hs
 .exact h sp hs
 .exact k sp hs
theorem Sp2.one {sp:List Key}(h:sp.length<=2):Sp2 [sp]:=fun x hx=>by cases List.mem_singleton.1 hx; exact h
theorem prts_sp {rs:List Str}:∀(d:Nat) (r:List Wt) (s:lX) (ds:List (Str×Int)),(∀x∈r,WtOk rs d x)->Sp2 s->∀x∈Wt.prts r s ds,Sp2 x.path:=by
 intro d
 induction d with
 |zero =>
  intro r s ds ok hs x hx
  cases r with
  |nil=>exact nomatch hx
  |cons y r=>exact(ok y List.mem_cons_self).elim
 |succ d ih =>
  intro r s ds ok hs
  induction r with
  |nil=>intro x hx; exact nomatch hx
  |cons y r ihr =>
   intro x hx;rw[Wt.prts] at hx;have hy:=ok y List.mem_cons_self
   rcases List.mem_append.1 hx with hx | hx
   .cases y with
    |part sp n g=>rw[Wt.prt] at hx; cases List.mem_singleton.1 hx; exact hs.app (Sp2.one hy.1)
    |give sp n i r'=>rw[Wt.prt] at hx; exact ih r' _ _ hy.2.2.1 (hs.app (Sp2.one hy.1)) x hx
    |plain sp tag ss hh r'=>rw[Wt.prt] at hx; exact ih r' _ _ hy.2.2.1 (hs.app (Sp2.one hy.1)) x hx
   .exact ihr (fun z hz=>ok z (List.mem_cons_of_mem _ hz)) x hx
theorem dr_sp {pts:List Pt}(hs:lF pts){V:Vl}(hV:VOk V):∀(n k:Nat) (x:Prt),oF pts k x->Sp2 x.path->∀e∈dr pts V n x,Sp2 e.x.path:=by
 intro n
 induction n with
 |zero=>intro k x _ _ e he; exact nomatch he
 |succ n ih =>
  intro k x h hx e he;rw[dr] at he
  rcases List.mem_cons.1 he with rfl | he
  .exact hx
  .obtain ⟨q,hq,he⟩:=List.mem_flatMap.1 he
   obtain⟨y,ha⟩:=Qj hs hV h;obtain⟨k',_,dq,_⟩:=lG h ha hq;exact ih k' _ dq (hx.app (prts_sp 6 _ [] [] ha.row.1 (fun _ z=>nomatch z) q hq)) e he
theorem prt_pk {x:Prt}(hs:Sp2 x.path)(hp:x.path.length<=400)(hg:x.gives.length<=4)(hd:x.downs.length<=400):Pk 3 x.pv:=by
 refine Zy (by show 4<=6; decide) fun t ht=>?_
 simp only[List.mem_cons,List.not_mem_nil,or_false] at ht
 rcases ht with rfl | rfl | rfl | rfl
 .exact pth_pk (m:=0) ⟨hs,by omega⟩
 .exact .str _
 .exact ZL (by omega)
 .exact ZL (by omega)
structure DOk (D:List En):Prop where
 len:D.length<=559
 pl:∀t∈D.map En.pv,Pl 20 t
 pk:∀e∈D,Pk 3 e.x.pv
theorem Kv {pts:List Pt}(hs:lF pts){V:Vl}(hV:VOk V):DOk (mQ pts V):=by
 refine⟨QX hs hV (bV hs),fun t ht=>?_,fun e he=>?_⟩
 .obtain ⟨e,he,rfl⟩:=List.mem_map.1 ht
  obtain⟨k,du,ep⟩:=sI hs hV 6 0 _ (bV hs) e he;obtain⟨y,ha⟩:=Qj hs hV du;have:=ha.row;rw[<- ep] at this;exact en_pl this
 .obtain ⟨k,du,ep⟩:=sI hs hV 6 0 _ (bV hs) e he
  have h6:=hs.n6
  have hkl:k < pts.length:=by
   have:=(List.getElem?_eq_some_iff.1 du.nm).1;unfold vJ at this;rw[List.length_map] at this;exact this
  have:=du.pl;have:=du.dl;exact prt_pk (dr_sp hs hV 6 0 _ (bV hs) (fun _ z=>nomatch z) e he) (by omega) du.gl (by omega)
theorem due_pk {D:List En}(h:DOk D)(k:Nat):Pk 3 (xD D k):=by
 unfold xD
 cases e:D[k]? with
 |none=>exact .non
 |some en=>exact h.pk en (List.mem_of_getElem? e)
theorem cut_to (xs:List PV)(k:Nat)(hk:k<=xs.length):vV xs none (some (k:Nat))=xs.take k:=by
 unfold vV HT.sIx;dsimp only;rw[if_neg (by omega),List.drop_zero,Nat.sub_zero,Int.toNat_natCast,Nat.min_eq_left hk]
theorem cut_mem {xs:List PV}{lo hi:Option Int}{z:PV}(h:z∈vV xs lo hi):z∈xs:=List.mem_of_mem_drop (List.mem_of_mem_take h)
theorem rng_mem {n:Nat}{z:PV}(h:z∈nZ n):∃k:Nat,k < n/\z=.int (k:Nat):=by
 obtain⟨k,hk,rfl⟩:=List.mem_map.1 h;exact⟨k,List.mem_range.1 hk,rfl⟩
theorem rng_len (n:Nat):(nZ n).length=n:=by unfold nZ; rw[List.length_map,List.length_range]
theorem cut_len (xs:List PV):(vV xs none (some 2)).length<=2:=by
 unfold vV HT.sIx;dsimp only;rw[if_neg (by decide),List.length_take];have:min (Int.toNat 2) xs.length<=2:=Nat.min_le_left _ _;omega
theorem slT_eq {x:PV}{xs:List PV}{lo hi:Option Int}{C:CH}{Q:K1}(e:x=.tup xs)(h:¬ (HT.sIx xs.length 0 lo=0/\HT.sIx xs.length xs.length hi=xs.length))(q:Q (.tup (vV xs lo hi)) C):cSlT x lo hi C Q:=by
 subst e;unfold cSlT;exact⟨h,q⟩
section
variable {P:Program}{w:World}{K:PySem.W.Frag}{mg:Str->Option Value}{base:Heap}{a:Adr}
def gLaw:GC:=fun ts C Q=>∃ns:List Int,ts=[.fz (ns.map PV.int)]/\ns.length<=63/\∀C',Q (.bl true) C'
theorem ok_law (T:Txt P w K mg a):FnOk P w K mg base CX0 120 (a.f 35) (a.d 35) ["_law_script"] (spC K gLaw):=by
 have S:=(T.F 35 rfl).s;have Vh:=(ok_tape (base:=base) T).mono (show 1<=119 by decide);have Zr:=(Jq (base:=base) T).mono (show 26<=119 by decide);have Qp:=(XI (base:=base) T).mono (show 38<=119 by decide);have nF:=(aT (base:=base) T).mono (show 37<=119 by decide);have lE:=(ok_next (base:=base) T).mono (show 12<=119 by decide);have sF:=(Jw (base:=base) T 5).mono (show 7<=119 by decide)
 refine(T.F 35 rfl).ok (fun ts C R h=>?_) fun cdv A outer s H E hr=>⟨_,(xQ (cs1 1 S.nd (cf (T.F 9 rfl) Vh hr (ca1 (cv 0))))
  (xQ (cs1 2 S.nd (cf (T.F 24 rfl) Zr hr (ca1 (cv 1))))
  (xQ (cs1 3 S.nd (cf (T.F 30 rfl) nF hr (qQ (cv 2) (ca1 (cf (T.F 32 rfl) Qp hr (qQ (cv 1) (ca1 (cv 2))))))))
  (xQ (cs1 4 S.nd (Qb rfl rfl rfl T.mC T.nK (eQ gX bX (cln T.eZ (cv 3)) zQ)))
  (xQ (gU PassesOwn.never rfl (eQ gX bX (cv 4) (gF (cv 4) tY (oY zQ))) (cg1 5 S.nd) (xQ (cs1 6 S.nd (kJ eR cbi_lst rfl T.mC rfl (ca1 (gF (cv 3) tY (oY (cv 5))))))
  (xQ (cs1 7 S.nd rG)
  (xQ (zX (ct2 sU lW (cv 5) (cln T.eZ (cv 3))) (kQ (cs1 7 S.nd (ce_slT (cx (cv 3) (cv 5)) tY (oY zQ)))) tQ)
  (kQ (zX (cw_pt (cw_or (ct_not (lP (cf (T.F 34 rfl) sF hr (qQ (cf (T.F 4 rfl) lE hr (qQ (cv 2) (ca1 (cv 6)))) (ca1 (cv 7)))))) (cw_or1 (ct2 (op_neD (d:=20) (hu21_of hr)) cop_neD (cv 6) (gF (cv 3) tY (oY (cv 5))))))) (kQ (pQ KZ)) tQ))))))
  (kQ (pQ KZ))))))),?_⟩
 .obtain ⟨ns,rfl,_⟩:=h; rfl
 rintro ts C R ⟨ns,rfl,hl,q⟩;refine uQ ?_;refine⟨ns,rfl,hl,fun t C1 n1 e1 T1=>?_⟩
 try dsimp only
 refine uQ ?_;refine⟨t,ns,rfl,T1,fun pts C2 hs T2 e2=>?_⟩
 try dsimp only
 refine uQ ?_;refine⟨t,pts,ns,rfl,T2,hs,fun vv V C3 hV n3 m3 nvt T3 e3=>?_⟩;refine⟨pts,vv,V,rfl,hs,hV,m3,fun p1 C4 n4 m4 g4=>?_⟩
 try dsimp only
 have dk:=Kv hs hV;have hlen:=dk.len;refine uQ ?_;refine iW m4 ?_;refine mW ?_;refine rng_s (by omega) (by rw[List.length_map]; omega) fun ww hww=>?_
 try dsimp only
 have ew:(((List.map En.pv (mQ pts V)).length:Int)+1).toNat=(mQ pts V).length+1:=by rw[List.length_map]; omega
 rw[ew];have mw:yQ C4 ww (.lst (nZ ((mQ pts V).length+1))) ww=some (.lst (nZ ((mQ pts V).length+1))):=jQ;have mp:yQ C4 ww (.lst (nZ ((mQ pts V).length+1))) p1=some (.lst ((mQ pts V).map En.pv)):=Gr.new hww _ _ _ m4;generalize yQ C4 ww (.lst (nZ ((mQ pts V).length+1)))=C5 at mw mp ⊢;have rl:=rng_len ((mQ pts V).length+1);have cl:=cut_len (nZ ((mQ pts V).length+1));refine vZ ?_;refine Xv mw fun p2 hp2=>?_
 have np2:ww≠p2:=fun z=>by rw[<- z,mw] at hp2; cases hp2
 refine yD (a:=ww) (by rw[wQ np2]; exact mw) jQ (cV (by omega)) fun p3 hp3=>?_;have mp3:=Gr.new hp3 (.lst (nZ ((mQ pts V).length+1)++vV (nZ ((mQ pts V).length+1)) none (some 2))) _ _ (Gr.new hp2 (.lst (vV (nZ ((mQ pts V).length+1)) none (some 2))) _ _ mp)
 have hx:∀z∈nZ ((mQ pts V).length+1)++vV (nZ ((mQ pts V).length+1)) none (some 2),∃k:Nat,k<=(mQ pts V).length/\z=.int (k:Nat):=fun z hz=>by
  have:z∈nZ ((mQ pts V).length+1):=by
   rcases List.mem_append.1 hz with h | h
   .exact h
   .exact cut_mem h
  obtain⟨k,hk,e⟩:=rng_mem this;exact⟨k,by omega,e⟩
 have hxl:(nZ ((mQ pts V).length+1)++vV (nZ ((mQ pts V).length+1)) none (some 2)).length<=2000:=by rw[List.length_append]; omega
 have mx3:yQ (yQ C5 p2 (.lst (vV (nZ ((mQ pts V).length+1)) none (some 2)))) p3 (.lst (nZ ((mQ pts V).length+1)++vV (nZ ((mQ pts V).length+1)) none (some 2))) p3=some (.lst (nZ ((mQ pts V).length+1)++vV (nZ ((mQ pts V).length+1)) none (some 2))):=jQ;generalize nZ ((mQ pts V).length+1)++vV (nZ ((mQ pts V).length+1)) none (some 2)=XS at hx hxl mx3 mp3 ⊢;refine⟨XS.length+1,?_⟩;refine rW (xs:=XS) (fun i ρ C'=>C' p3=some (.lst XS)/\∃(x0 x1 x4 x5 x6 x7:Option PV),i<=XS.length/\ρ=[x0,x1,some (.tup (pts.map Pt.pv)),some (.ref p1),x4,x5,x6,x7]/\C' p1=some (.lst ((mQ pts V).map En.pv))) (fun _ _ _ h=>h.1) ?_ ?_ _ 0 _ _ ⟨mx3,_,_,_,_,_,_,Nat.zero_le _,rfl,mp3⟩ (by omega) (Nat.zero_le _)
 .rintro i z ρ C6 hz ⟨m6,x0,x1,x4,x5,x6,x7,hi,rfl,mD⟩ L hL
  obtain⟨k,hk,rfl⟩:=hx z (List.mem_of_getElem? hz);have hi':i < XS.length:=(List.getElem?_eq_some_iff.1 hz).1;have kl:k<=((mQ pts V).map En.pv).length:=by rw[List.length_map]; exact hk
  have ct:vV ((mQ pts V).map En.pv) none (some (k:Nat))=((mQ pts V).take k).map En.pv:=by rw[cut_to _ _ kl,List.map_take]
  refine uQ ?_;refine Xv mD fun p7 hp7=>?_;rw[ct];unfold mF;refine lst_s (a:=p7) jQ fun p8 hp8=>?_;have up8:∀b o,C6 b=some o->yQ (yQ C6 p7 (.lst (((mQ pts V).take k).map En.pv))) p8 (.lst (((mQ pts V).take k).map En.pv)) b=some o:=fun b o hb=>Gr.new hp8 _ _ _ (Gr.new hp7 _ _ _ hb);have m8:yQ (yQ C6 p7 (.lst (((mQ pts V).take k).map En.pv))) p8 (.lst (((mQ pts V).take k).map En.pv)) p8=some (.lst (((mQ pts V).take k).map En.pv)):=jQ
  generalize yQ (yQ C6 p7 (.lst (((mQ pts V).take k).map En.pv))) p8 (.lst (((mQ pts V).take k).map En.pv))=C8 at up8 m8 ⊢
  try dsimp only
  refine uQ (c_i ?_)
  try dsimp only
  refine aQ (fun ρ' C'=>C'=C8/\ρ'=[x0,x1,some (.tup (pts.map Pt.pv)),some (.ref p1),x4,some (.int (k:Nat)),some (.ref p8),some (xD (mQ pts V) k)]) (fun L1 hL1=>?_) ?_
  .refine iW (up8 _ _ mD) ?_
   refine i_i ?_;rw[List.length_map];refine mZ (fun hb=>?_) fun hb=>?_
   .have hlt:k < (mQ pts V).length:=by have:=of_decide_eq_true hb; omega
    refine dX (up8 _ _ mD) (v:=((mQ pts V)[k]).pv) ?_ ?_
    .have:=tG (xs:=(mQ pts V).map En.pv) (k:=k) (by rw[List.length_map]; exact hlt)
     rw[this,List.getElem_map]
    refine slT_eq (xs:=[wZ ((mQ pts V)[k]).x.path,.str ((mQ pts V)[k]).x.name,.tup (((mQ pts V)[k]).x.gives.map dQ),.tup (((mQ pts V)[k]).x.downs.map dQ),((mQ pts V)[k]).pc.pv]) rfl (by show ¬ (HT.sIx 5 0 none=0/\HT.sIx 5 5 (some 4)=5); decide) ?_;refine hL1 _ _ ⟨rfl,?_⟩;unfold xD;rw[List.getElem?_eq_getElem hlt]
    rfl
   .have hge:¬ k < (mQ pts V).length:=by have:=of_decide_eq_false hb; omega
    refine vX ?_;refine hL1 _ _ ⟨rfl,?_⟩;unfold xD;rw[List.getElem?_eq_none (by omega)]
    rfl
  rintro ρ' C9 ⟨rfl,rfl⟩
  try dsimp only
  refine⟨pts,V,k,p8,rfl,hs,hV,hk,m8,fun C10 g10=>?_⟩;refine⟨_,_,rfl,((due_pk dk k).mono (show 3<=4 by decide)).al C10,fun C11 g11=>?_⟩;have up11:∀b o,C9 b=some o->C11 b=some o:=fun b o hb=>g11 _ _ (g10 _ _ hb);refine onot ?_;refine Xv (up11 _ _ (up8 _ _ mD)) fun p12 hp12=>?_;rw[ct];refine neD_s (Gr.new hp12 _ _ _ (up11 _ _ m8)) jQ (fun t ht=>?_) ?_
  .obtain ⟨e,he,rfl⟩:=List.mem_map.1 ht
   exact dk.pl _ (List.mem_map.2 ⟨e,List.mem_of_mem_take he,rfl⟩)
  refine qZ rfl ?_;refine vX ?_;have up12:∀b o,C6 b=some o->yQ C11 p12 (.lst (((mQ pts V).take k).map En.pv)) b=some o:=fun b o hb=>Gr.new hp12 _ _ _ (up11 _ _ (up8 _ _ hb));exact hL _ _ ⟨up12 _ _ m6,_,_,_,_,_,_,hi',rfl,up12 _ _ mD⟩
 .rintro ρ C6 ⟨m6,x0,x1,x4,x5,x6,x7,hi,rfl,mD⟩
  try dsimp only
  exact q C6
end
theorem sO {K:PySem.W.Frag}{H:Hp}:∀ns:List Int,Reps K H (ns.map V.int) (ns.map PV.int)
 |[]=>.nil
 |n::ns=>.cons (.int n) (sO ns)
theorem walk {l:PySem.W.OpenLaw}{q:Program}{loose:List Str}{XP:(Str->Option Value)->Heap->Prop}{YP:World->Heap->Prop}{d:DefRec}{K:Params->PySem.W.Frag}(hn:l.most=some 63)(hdf:d.params.defaults=[])(hnm:d.name = "law")
  (hY:∀(w:World) (h:Heap),YP w h->(K w.params).In h)
  (F:∀(w:World) (mg:Str->Option Value) (h:Heap),(K w.params).In h->h.Ns mainGlobals mg->∃a:Adr,Txt l.prog w (K w.params) mg a) :
  PySem.W.WalkO q loose XP YP l.row.toRowW d [] (fun f vs=>PySem.call f vs):=by
 refine L2.walk_of (n:=63) (k:=120) (x:="_law_script") (CX:=fun _=>CX0) (sp:=fun w=>spC (K w.params) gLaw) hn (by decide) hdf ⟨rfl,by decide,by decide⟩ hY ?_ (fun w H a ns hl hO hS=>?_) fun _ _ _ _ _ z=>z
 .intro w mg fa h KX G hmg
  obtain⟨a,T⟩:=F w mg h KX G;rw[hnm] at hmg;have e:=hmg.symm.trans ((T.F 35 rfl).m rfl);cases e;obtain⟨_,_,_,_,_,_,_,_,_,e2,_⟩:=(T.F 35 rfl).F.ex;refine⟨a.d 35,?_,fun base _ _=>ok_law T⟩;rw[e2];exact fun s u=>.of_eq rfl
 .have hz:Fz (K w.params) H a (ns.map V.int):=by
   rcases hS with hS | hS
   .rcases hS with hS | ⟨o,hS⟩
    .rcases hO a with h | ⟨o,xs,h⟩
     .rw [hS] at h; cases h
     .rw [hS] at h; cases h
    .exact .inl ⟨o,hS⟩
   .exact .inr hS
  refine⟨[.fz (ns.map PV.int)],fun _=>none,fun v _=>v=.bl true,.cons (.fz hz (sO ns)) .nil,(fun _ _ z=>nomatch z),⟨ns,rfl,hl,fun _=>rfl⟩,?_⟩;rintro v H' t C' rfl r h' f';cases r
  rfl
end K20
open PySem PySem.W PyProof.Rows
namespace PySem.W.Fast
theorem tw10233028418402207807:True:=⟨⟩
theorem tw10319625902221653823:True:=⟨⟩
theorem tw10328237085872318760:True:=⟨⟩
theorem tw1042084777954795682:True:=⟨⟩
theorem tw10454877914093277376:True:=⟨⟩
theorem tw10516343867165072547:True:=⟨⟩
theorem tw10756738003341833060:True:=⟨⟩
theorem tw10786686224604313945:True:=⟨⟩
theorem tw11560336639360049528:True:=⟨⟩
theorem tw11575086996352469352:True:=⟨⟩
theorem tw11607178544916573897:True:=⟨⟩
theorem tw11684830161256164696:True:=⟨⟩
theorem tw11761359226182764821:True:=⟨⟩
theorem tw11804986120365773049:True:=⟨⟩
theorem tw11877333252037268671:True:=⟨⟩
theorem tw1192297029290159356:True:=⟨⟩
theorem tw12041211987625957911:True:=⟨⟩
theorem tw12096438136471947326:True:=⟨⟩
theorem tw12133297716716130593:True:=⟨⟩
theorem tw12221094113905807398:True:=⟨⟩
theorem tw122786299036988932:True:=⟨⟩
theorem tw12532331294132590715:True:=⟨⟩
theorem tw1262653613963702413:True:=⟨⟩
theorem tw12655916656240504527:True:=⟨⟩
theorem tw12699028995531212622:True:=⟨⟩
theorem tw12809397033324377653:True:=⟨⟩
theorem tw12859865081020611734:True:=⟨⟩
theorem tw12976465794124187976:True:=⟨⟩
theorem tw13133552792821831257:True:=⟨⟩
theorem tw13258795125701162510:True:=⟨⟩
theorem tw13368706337983383341:True:=⟨⟩
theorem tw1340873937003427507:True:=⟨⟩
theorem tw13430116328629497895:True:=⟨⟩
theorem tw13477414853147966881:True:=⟨⟩
theorem tw13591016411795246578:True:=⟨⟩
theorem tw13674014948898224466:True:=⟨⟩
theorem tw1373038905812363720:True:=⟨⟩
theorem tw13812793880922763244:True:=⟨⟩
theorem tw13838184932983389170:True:=⟨⟩
theorem tw14194402981796410201:True:=⟨⟩
theorem tw14225645782377364655:True:=⟨⟩
theorem tw14533657586496908752:True:=⟨⟩
theorem tw14631525894941811605:True:=⟨⟩
theorem tw14730037475172653540:True:=⟨⟩
theorem tw14730412432103084384:True:=⟨⟩
theorem tw1475728564542076974:True:=⟨⟩
theorem tw14937232437320295954:True:=⟨⟩
theorem tw14989349978111630167:True:=⟨⟩
theorem tw15351749717948403347:True:=⟨⟩
theorem tw15530905180510414332:True:=⟨⟩
theorem tw15613334584049311219:True:=⟨⟩
theorem tw15748396496293380661:True:=⟨⟩
theorem tw1592887429866698055:True:=⟨⟩
theorem tw15937001790981664363:True:=⟨⟩
theorem tw16011043186868995943:True:=⟨⟩
theorem tw16016052083257510667:True:=⟨⟩
theorem tw16304778952340330877:True:=⟨⟩
theorem tw16322950709160528767:True:=⟨⟩
theorem tw16359734316278441053:True:=⟨⟩
theorem tw16423322888006037501:True:=⟨⟩
theorem tw16793018855376054810:True:=⟨⟩
theorem tw16812755228665138488:True:=⟨⟩
theorem tw16962422449078365393:True:=⟨⟩
theorem tw16982939830109375634:True:=⟨⟩
theorem tw17217284955365917121:True:=⟨⟩
theorem tw17304757925612252005:True:=⟨⟩
theorem tw17452587267353331073:True:=⟨⟩
theorem tw17565107803613975887:True:=⟨⟩
theorem tw17614060199785753271:True:=⟨⟩
theorem tw17676451593635045675:True:=⟨⟩
theorem tw17906374224129073941:True:=⟨⟩
theorem tw17915704875243876850:True:=⟨⟩
theorem tw17940695462487197606:True:=⟨⟩
theorem tw17954151721975757381:True:=⟨⟩
theorem tw17962965379846692691:True:=⟨⟩
theorem tw18247806727287253065:True:=⟨⟩
theorem tw18297921103473565560:True:=⟨⟩
theorem tw186547281719015939:True:=⟨⟩
theorem tw1882653600622966766:True:=⟨⟩
theorem tw1984122812638215482:True:=⟨⟩
theorem tw200422490896216833:True:=⟨⟩
theorem tw2117473962303561643:True:=⟨⟩
theorem tw2143932674458331688:True:=⟨⟩
theorem tw2212744138591077565:True:=⟨⟩
theorem tw2245532993157692851:True:=⟨⟩
theorem tw235481919464001627:True:=⟨⟩
theorem tw2485838990463620188:True:=⟨⟩
theorem tw2500379341069092606:True:=⟨⟩
theorem tw2520708492222280244:True:=⟨⟩
theorem tw2758887259380876197:True:=⟨⟩
theorem tw292328763139312577:True:=⟨⟩
theorem tw3012048581817940045:True:=⟨⟩
theorem tw302473830792572331:True:=⟨⟩
theorem tw3230311327266397615:True:=⟨⟩
theorem tw3303571061774095827:True:=⟨⟩
theorem tw3407794880735491823:True:=⟨⟩
theorem tw3418708242223234996:True:=⟨⟩
theorem tw3580123005788693101:True:=⟨⟩
theorem tw3899705948577219539:True:=⟨⟩
theorem tw4045063138397844062:True:=⟨⟩
theorem tw4111520983492818333:True:=⟨⟩
theorem tw4305142195742487506:True:=⟨⟩
theorem tw4340179966974625771:True:=⟨⟩
theorem tw4356061289474213455:True:=⟨⟩
theorem tw4886943790806915965:True:=⟨⟩
theorem tw5056509327985752485:True:=⟨⟩
theorem tw5174241180231357586:True:=⟨⟩
theorem tw5224231591290702230:True:=⟨⟩
theorem tw5342369187829462960:True:=⟨⟩
theorem tw5409061759189582597:True:=⟨⟩
theorem tw5515585531606515630:True:=⟨⟩
theorem tw5745244628439261973:True:=⟨⟩
theorem tw6006491485037416404:True:=⟨⟩
theorem tw6042265641420086694:True:=⟨⟩
theorem tw6159314166386150534:True:=⟨⟩
theorem tw6310010539566458343:True:=⟨⟩
theorem tw6401160295531078655:True:=⟨⟩
theorem tw6733691889000623687:True:=⟨⟩
theorem tw6758572163498648774:True:=⟨⟩
theorem tw6828604369889226811:True:=⟨⟩
theorem tw7156759913926202414:True:=⟨⟩
theorem tw7189064888096970326:True:=⟨⟩
theorem tw7343987442330763393:True:=⟨⟩
theorem tw7404861922760455920:True:=⟨⟩
theorem tw7602993100080225848:True:=⟨⟩
theorem tw7748323852143022348:True:=⟨⟩
theorem tw7978815186387487159:True:=⟨⟩
theorem tw8223545383385826557:True:=⟨⟩
theorem tw8382253852322080502:True:=⟨⟩
theorem tw8435167243763765588:True:=⟨⟩
theorem tw8694319253948123072:True:=⟨⟩
theorem tw9083113917689433885:True:=⟨⟩
theorem tw9122226254030300013:True:=⟨⟩
theorem tw9328711769676029582:True:=⟨⟩
theorem tw9336239018843828364:True:=⟨⟩
theorem tw9363351356393502174:True:=⟨⟩
theorem tw9551687244976440513:True:=⟨⟩
theorem tw983697606375481355:True:=⟨⟩
theorem tw9859745802768707347:True:=⟨⟩
theorem tw9895250124612049590:True:=⟨⟩
theorem tw9954792031431768288:True:=⟨⟩
theorem tw9976952185852126842:True:=⟨⟩
end PySem.W.Fast
set_option maxRecDepth 100000 in
set_option maxHeartbeats 0 in
theorem PySem.Challenge.cw_viewwood_k20_next_parts_holds : PySem.Challenge.rw_viewwood_k20_next_parts.Holds := by
 w_on; o_law; k_head; (case hw=>w_witness2)
 k_fill
 refine K20.walk (l:=PySem.Challenge.rw_viewwood_k20_next_parts) rfl rfl rfl (fun w h Y=>PySem.W.kIn_of Y) ?F
 case F =>
  intro w mg h KX G;refine K20.txt_mk KX G ?_ (by k_is) (by k_is) (by k_is) (by k_is) (by k_is) (by k_is) (by k_is) (by k_is) (by k_is) (by k_is) (by k_is) (by k_is) (by k_is) (by k_is) (by k_is) (by k_is) (by k_is) (by k_is) (by k_is) (by k_is) (by k_is) (by k_is) (by k_is) (by k_is) (by k_is) (by k_is) (by k_is) (by k_is) (by k_is) (by k_is) (by k_is) (by k_is) (by k_is) (by k_is) (by k_is) (by k_is)
  unfold K20.tab
  repeat first | refine⟨⟨_,_,_,_,_,_,_,_,_,_,by k_is,by k_is,by k_is,by k_is⟩,?_⟩ | refine⟨⟨_,_,_,_,_,_,_,_,_,_,_,by k_is,by k_is,by k_is,by k_is,by k_is,by k_is⟩,?_⟩
  exact trivial
