import PyProof.Rows.All
import Wide.All
import OpenK.AllK
import Wide.FinOn
import Lean
import PyProof.EqAt
import PyProof.EqKinds
import PyProof.TupleCall
import PyProof.DictUpdate
import KE.KDictOf
import PyProof.AttrMissHeap
import KE.KSortTup
import KE.KItemsList
import PyProof.DictWalks
import PyProof.Rows.TupDisplay
import KE.KEqDict
import PyProof.NeKinds
import KE.KRevIter
import PyProof.ListRange
import PyProof.MeetsStr
import PyProof.StrLawsJoin
import PyProof.FitsInt
import PySem.Challenge.RW_viewwood_k34_trees_shown
set_option Elab.async false
set_option linter.all false
set_option maxRecDepth 100000
set_option maxHeartbeats 4000000
namespace PySem
open Sem (wp)
section
variable {prog:Program}{w:World}{K:Type}[DecidableEq K](knd:KeyKind prog w K)
inductive ItemsTup (h:Heap):List (List K)->List Value->Prop
 |nil:ItemsTup h [] []
 |cons {k:List K} {b:Addr} {kss:List (List K)} {vs:List Value}:IsTupleKey knd h k b->ItemsTup h kss vs->ItemsTup h (k::kss) (.ref b::vs)
def IsPathKey (h:Heap)(kss:List (List K))(a:Addr):Prop:=∃o items n,h.get? a=some o/\o.cls=.type "tuple"/\o.data=.seq items n/\ItemsTup knd h kss items.toList
variable {knd}
theorem ItemsTup.inj {h:Heap}{x y:List (List K)}{vs:List Value}(hx:ItemsTup knd h x vs)(hy:ItemsTup knd h y vs):x=y:=by
 induction hx generalizing y with
 |nil=>(cases hy; rfl)
 |cons h1 _ ih=>cases hy with | cons h2 t2=>rw[h1.inj h2,ih t2]
theorem ItemsTup.keeps {h h':Heap}{d:Addr}{o:Obj}{es:Array DictEntry}{ep:Nat}{x:List (List K)}{vs:List Value}(hx:ItemsTup knd h x vs)(ho:h.get? d=some o)(hd:o.data=.dict es ep)(hs:Heap.SameBut d h h'):ItemsTup knd h' x vs:=by
 induction hx with
 |nil=>exact .nil
 |cons h1 _ ih=>exact .cons (h1.keeps ho hd hs) ih
theorem IsPathKey.typeIs {s:Shared}{kss:List (List K)}{a:Addr}(x:IsPathKey knd s.heap kss a):s.TypeIs (.ref a) "tuple":=by
 obtain⟨o,_,_,e,c,_⟩:=x;exact⟨o,e,c⟩
theorem IsPathKey.inj {h:Heap}{a:Addr}{x y:List (List K)}(hx:IsPathKey knd h x a)(hy:IsPathKey knd h y a):x=y:=by
 obtain⟨o,its,n,e1,_,e2,e3⟩:=hx;obtain⟨o',its',n',f1,_,f2,f3⟩:=hy;cases e1.symm.trans f1;cases e2.symm.trans f2;exact e3.inj f3
theorem IsPathKey.keeps {h h':Heap}{kss:List (List K)}{a d:Addr}{o:Obj}{es:Array DictEntry}{ep:Nat}(x:IsPathKey knd h kss a)(ho:h.get? d=some o)(hd:o.data=.dict es ep)(hs:Heap.SameBut d h h'):IsPathKey knd h' kss a:=by
 obtain⟨o',its,n,e1,e2,e3,e4⟩:=x
 have hne:a≠d:=by
  intro z;rw[z,ho] at e1;cases e1;rw[hd] at e3;cases e3
 exact⟨o',its,n,(hs.2 a hne).trans e1,e2,e3,e4.keeps ho hd hs⟩
def tL (knd:KeyKind prog w K)(kss:List (List K)):Int:=reduceHash (Builtin.Tuple.tupleHashOf (kss.map (tupleKeyHash knd)))
def xF (kss:List (List K)):Nat:=(kss.map fun k=>k.length+1).sum+1
variable {A:Around}{E:Value->Shared->Prop}{s:Shared}
theorem pB {kss:List (List K)}{a:Addr}{Q:Int->Shared->Prop}(hu:A.units+1 < cLine)(hk:IsPathKey knd s.heap kss a)(h:Q (tL knd kss) { s with toks:=s.toks+xF kss }):
  wpAny (model prog w) A (pyHash (.ref a)) Q E s:=by
 have hT:=hk.typeIs;obtain⟨o,items,n,ho,_,hd,hi⟩:=hk
 (unfold pyHash; first | unfold pyHashByItsType | skip)
 (first | refine wpAny_bind (wpAny_cRoomFor_or (.inr (Nat.lt_of_succ_lt hu)) ?_) | skip)
 refine wpAny_bind (wpAny_specialOf (by exact hT) F.slot_tuple_hash.lookup (?_));show wpAny _ _ (if (some (Value.builtin "tuple.__hash__")==some Value.none)=true then (_) else _) Q E s;rw[if_neg (by intro z; rw[beq_builtin_none] at z; exact Bool.false_ne_true z)];refine wpAny_bind (wpAny_specialOf (by exact hT) F.slot_tuple_hash.lookup (?_));show wpAny _ _ (callSpecialIfBoundUnlessNone? (.ref a) "__hash__" (_) >>= _) Q E s
 refine wpAny_bind (wpAny_callSpecialIfBoundUnlessNone?_slot (by exact hT) F.slot_tuple_hash (wpAny_call_entry F.slot_tuple_hash (by exact hT) F.entry_tuple_hash (?_) (F.args_tuple_hash_1 _)));show wpAny _ _ (Builtin.Tuple.tupleItemsOf (.ref a) >>= (_)) _ _ s
 (refine wpAny_bind (wpAny_tupleItemsOf ho hd (?_)); refine wpAny_bind ?_; rw[<- Array.forIn_toList])
 refine wpAny_forIn_list _ (fun rest (b:Array Int) s'=>∃done left,kss=done++left/\ItemsTup knd s.heap left rest/\b.toList=done.map (tupleKeyHash knd)/\s'={ s with toks:=s.toks+(done.map fun k=>k.length+1).sum }) _ ?_ ?_ _ _ ⟨[],kss,rfl,hi,rfl,rfl⟩
 .rintro x rest b s' ⟨done,left,rfl,hl,hb,rfl⟩
  cases hl with
  |@cons k b' ks' _ h1 hl' =>
   refine wpAny_bind (wpAny_pyHash_tuple (A:=A.in1) hu h1 ?_)
   first
    |exact wpAny_pure ⟨done++[k],ks',by simp,hl',by simp[hb],by simp[Nat.add_assoc]⟩
    |exact wpAny_bind (wpAny_pure (wpAny_pure ⟨done++[k],ks',by simp,hl',by simp[hb],by simp[Nat.add_assoc]⟩))
 .rintro b s' ⟨done,left,rfl,hl,hb,rfl⟩
  cases hl;rw[List.append_nil] at h
  (show wpAny _ _ (retInt (Builtin.Tuple.tupleHashOf b.toList)) _ _ _; rw[hb]; refine wpAny_ret_mkInt ?_)
  unfold tL reduceHash xF at h;generalize Builtin.Tuple.tupleHashOf (done.map (tupleKeyHash knd))=hh at h ⊢;show wpAny _ _ (if (decide (-(2:Int) ^ 63<=hh)&&decide (hh < 2 ^ 63))=true then _ else _) Q E _
  by_cases hr:(decide (-(2:Int) ^ 63<=hh)&&decide (hh < 2 ^ 63))=true
  ·(rw[if_pos hr]; rw[if_pos hr] at h)
   exact wpAny_pure (by simpa [Nat.add_assoc] using h)
  ·(rw[if_neg hr]; rw[if_neg hr] at h)
   exact wpAny_bind (wpAny_rule (wpAny_pure (by simpa [Nat.add_assoc] using h)))
theorem gC {x y:List (List K)}{a b:Addr}{P:Fin->Shared->Prop}(hu:A.units < cLine)(hx:IsPathKey knd s.heap x a)(hy:IsPathKey knd s.heap y b)(h:P (.done (.ret (.bool (decide (x=y))))) s):
  wpAny (model prog w) A (Builtin.«tuple.__eq__» ⟨[.ref a,.ref b],[]⟩) P E s:=by
 have hTb:=hy.typeIs;obtain⟨oa,xs,na,hoa,_,hda,hia⟩:=hx;obtain⟨ob,ys,nb,hob,_,hdb,hib⟩:=hy
 (show wpAny _ _ (isInstance (.ref b) (.type "tuple") >>= _) _ _ s; refine wpAny_bind (wpAny_isInstance hTb isSubtype_tuple_tuple ?_))
 (simp only[Bool.not_true,Bool.false_eq_true,if_false]; refine wpAny_bind (wpAny_tupleItemsOf hoa hda ?_); refine wpAny_bind (wpAny_tupleItemsOf hob hdb ?_); refine wpAny_bind ?_)
 refine wpAny_forIn_list _ (fun rest r s'=>r.1=none/\s'=s/\∃x' y' xs' ys',rest=List.zip xs' ys'/\ItemsTup knd s.heap x' xs'/\ItemsTup knd s.heap y' ys'/\decide (x'=y')=decide (x=y)/\(xs'.length==ys'.length)=(xs.size==ys.size)) _ ?_ ?_ _ _ ⟨rfl,rfl,x,y,xs.toList,ys.toList,rfl,hia,hib,rfl,by simp⟩
 .rintro ⟨u,v⟩ rest r s' ⟨hr,rfl,x',y',xs',ys',hz,hx',hy',hdec,hlen⟩
  cases hx' with
  |nil=>simp at hz
  |@cons k1 b1 x'' xs'' h1 hx'' =>
   cases hy' with
   |nil=>simp at hz
   |@cons k2 b2 y'' ys'' h2 hy'' =>
    (simp only[List.zip_cons_cons,List.cons.injEq,Prod.mk.injEq] at hz; obtain⟨⟨rfl,rfl⟩,rfl⟩:=hz)
    refine wpAny_bind (wpAny_eqBool_tuple hu h1 h2 ?_)
    by_cases hk:k1=k2
    .subst hk
     (rw[decide_eq_true rfl]; simp only[Bool.not_true,Bool.false_eq_true,if_false])
     refine wpAny_pure ⟨rfl,rfl,x'',y'',xs'',ys'',rfl,hx'',hy'',?_,by simpa using hlen⟩;rw[<- hdec]
     (by_cases hxy:x''=y''<;>simp[hxy])
    ·(rw[decide_eq_false hk]; simp only[Bool.not_false,if_true])
     have hf:decide (x=y)=false:=by (rw[<- hdec]; simp[hk])
     rw[hf] at h;exact wpAny_bind (wpAny_pure (wpAny_pure (wpAny_pure h)))
 .rintro ⟨r1,r2⟩ s' ⟨hr,rfl,x',y',xs',ys',hz,hx',hy',hdec,hlen⟩
  (simp only at hr; subst hr; refine wpAny_pure ?_)
  have hfin:(xs.size==ys.size)=decide (x=y):=by
   rw[<- hdec,<- hlen]
   cases hx' with
   |nil=>(cases hy' with | nil=>simp | cons _ _=>simp)
   |cons _ _=>(cases hy' with | nil=>simp | cons _ _=>simp at hz)
  (show P (.done (.ret (.bool (xs.size==ys.size)))) s'; rw[hfin]; exact h)
theorem dB {x y:List (List K)}{a b:Addr}{Q:Bool->Shared->Prop}(hu:A.units+1 < cLine)(hx:IsPathKey knd s.heap x a)(hy:IsPathKey knd s.heap y b)(h:Q (decide (x=y)) s):
  wpAny (model prog w) A (eqBool (.ref a) (.ref b)) Q E s:=by
 (unfold eqBool; try with_reducible refine wpAny_holding ?_)
 show wpAny _ _ (if (Value.ref a==Value.ref b)=true then (_) else _) Q E s
 by_cases hab:(Value.ref a==Value.ref b)=true
 .rw [if_pos hab]
  have e:a=b:=by (have:=eq_of_beq hab; injection this)
  subst e;obtain rfl:=hx.inj hy;exact wpAny_bind (wpAny_rule (wpAny_pure (by simpa using h)))
 .rw [if_neg hab]
  exact wpAny_bind (wpAny_richCompare_same_room (op:=.Eq) hx.typeIs hy.typeIs F.slot_tuple_eq (wpAny_call_entry F.slot_tuple_eq hx.typeIs F.entry_tuple_eq (gC (A:=A.in1) hu hx hy ⟨_,rfl,(fun e=>nomatch e),wpAny_truthy_bool h⟩) (F.args_tuple_eq_2 _ _)) (Nat.lt_of_succ_lt hu))
theorem eS (n:Nat){ks:List K}{a:Addr}{Q:Bool->Shared->Prop}(hk:IsTupleKey knd s.heap ks a)(h:Q true s):wpAny (model prog w) A (eqIsQuiet (n+1) (.ref a)) Q E s:=by
 have hT:=hk.typeIs;obtain⟨o,items,m,ho,_,hd,hi⟩:=hk
 (unfold eqIsQuiet; refine wpAny_bind (wpAny_specialOf hT F.slot_tuple_eq.lookup ?_))
 (show wpAny _ _ (isInstance (.ref a) (.type "tuple") >>= _) _ _ s; refine wpAny_bind (wpAny_isInstance hT isSubtype_tuple_tuple ?_))
 (simp only[Bool.not_true,Bool.false_eq_true,if_false]; refine wpAny_bind (wpAny_seqItems ho hd ?_); refine wpAny_bind ?_)
 (show wpAny _ _ (forIn items _ _) _ _ s; rw[<- Array.forIn_toList])
 refine wpAny_forIn_list _ (fun rest r s'=>r.1=none/\s'=s/\∀v∈rest,carriedByValue v=true) _ ?_ ?_ _ _ ⟨rfl,rfl,hi.byValue⟩
 .rintro v rest r s' ⟨hr,rfl,hall⟩
  (rw[eqIsQuiet_byValue _ (hall v List.mem_cons_self)]; refine wpAny_bind (wpAny_pure ?_))
  (simp only[Bool.not_true,Bool.false_eq_true,if_false]; exact wpAny_pure ⟨rfl,rfl,fun u hu'=>hall u (List.mem_cons_of_mem _ hu')⟩)
 .rintro ⟨r1,r2⟩ s' ⟨hr,rfl,_⟩
  (simp only at hr; subst hr; exact wpAny_pure h)
theorem aE {kss:List (List K)}{a:Addr}{Q:Bool->Shared->Prop}(hk:IsPathKey knd s.heap kss a)(h:Q true s):wpAny (model prog w) A (eqIsQuiet 8 (.ref a)) Q E s:=by
 have hT:=hk.typeIs;obtain⟨o,items,m,ho,_,hd,hi⟩:=hk
 (unfold eqIsQuiet; refine wpAny_bind (wpAny_specialOf hT F.slot_tuple_eq.lookup ?_))
 (show wpAny _ _ (isInstance (.ref a) (.type "tuple") >>= _) _ _ s; refine wpAny_bind (wpAny_isInstance hT isSubtype_tuple_tuple ?_))
 (simp only[Bool.not_true,Bool.false_eq_true,if_false]; refine wpAny_bind (wpAny_seqItems ho hd ?_); refine wpAny_bind ?_)
 (show wpAny _ _ (forIn items _ _) _ _ s; rw[<- Array.forIn_toList])
 refine wpAny_forIn_list _ (fun rest r s'=>r.1=none/\s'=s/\∃x',ItemsTup knd s.heap x' rest) _ ?_ ?_ _ _ ⟨rfl,rfl,_,hi⟩
 .rintro v rest r s' ⟨hr,rfl,x',hall⟩
  cases hall with
  |cons h1 h2 =>
   refine wpAny_bind (eS 6 h1 ?_)
   (simp only[Bool.not_true,Bool.false_eq_true,if_false]; exact wpAny_pure ⟨rfl,rfl,_,h2⟩)
 .rintro ⟨r1,r2⟩ s' ⟨hr,rfl,_⟩
  (simp only at hr; subst hr; exact wpAny_pure h)
end
def cG {prog:Program}{w:World}{K:Type}[DecidableEq K](knd:KeyKind prog w K):HeapKind prog w (List (List K)) where
 is:=IsPathKey knd
 hash:=tL knd
 draws:=xF
 room:=fun A=>A.units+1 < cLine
 inj:=fun hx hy=>hx.inj hy
 keeps:=fun x ho hd hs=>x.keeps ho hd hs
 pyHash:=fun hu hk h=>pB hu hk h
 eqBool:=fun hu hx hy h=>dB hu hx hy h
 quiet:=fun hk h=>aE hk h
theorem iJ {prog:Program}{w:World}{K:Type}[DecidableEq K]{knd:KeyKind prog w K}{A:Around}(hu:A.units+2 < cLine):(cG knd).room A.in1:=hu
end PySem
namespace L2
open PySem PySem.Spec PyProof.Rows
abbrev Key:=Sum (Option Int) Str
def QF:Value->Bool
 |.none=>true
 |_=>false
def gN:Key->Value->Bool
 |.inl (some k),v=>Value.isInt k v
 |.inl none,v=>QF v
 |.inr x,v=>Value.isStrOf x v
def keyH (w:World):Key->Int
 |.inl (some k)=>hashInt k
 |.inl none=>4238894112
 |.inr x=>hashStr w x
theorem gH {v:Value}(h:QF v=true):v=.none:=by
 cases v<;>first | rfl | cases h
theorem lZ:∀{k:Key}{v:Value},gN k v=true->(∃i t,k=Sum.inl (some i)/\v=Value.int i t)\/(∃x t,k=Sum.inr x/\v=Value.str x t)\/(k=Sum.inl none/\v=Value.none)
 |.inl (some i),v,h=>by
  obtain⟨t,e⟩:=Value.isInt_shape (k:=i) (v:=v) h;exact .inl ⟨i,t,rfl,e⟩
 |.inl none,v,h=>.inr (.inr ⟨rfl,gH h⟩)
 |.inr x,v,h=>by
  obtain⟨t,e⟩:=Value.isStrOf_shape (x:=x) (v:=v) h;exact .inr (.inl ⟨x,t,rfl,e⟩)
theorem XG (i:Int)(t:Tok):gN (.inl (some i)) (.int i t)=true:=by simp[gN,Value.isInt]
theorem XF (x:Str)(t:Tok):gN (.inr x) (.str x t)=true:=by simp[gN,Value.isStrOf]
theorem Jx {a b:Key}(h:a≠b):decide (a=b)=false:=decide_eq_false h
theorem key_ii (a b:Int):decide ((Sum.inl (some a):Key)=Sum.inl (some b))=(a==b):=by
 by_cases e:a=b
 .subst e; simp
 .rw [Jx fun q=>e (Option.some.inj (Sum.inl.inj q))]
  exact(beq_eq_false_iff_ne.mpr e).symm
theorem key_ss (a b:Str):decide ((Sum.inr a:Key)=Sum.inr b)=decide (a=b):=by
 by_cases e:a=b
 .subst e; simp
 .rw [Jx fun q=>e (Sum.inr.inj q),decide_eq_false e]
theorem key_is (i:Int)(y:Str):decide ((Sum.inl (some i):Key)=Sum.inr y)=false:=decide_eq_false nofun
theorem key_in (i:Int):decide ((Sum.inl (some i):Key)=Sum.inl none)=false:=decide_eq_false nofun
theorem key_si (x:Str)(j:Int):decide ((Sum.inr x:Key)=Sum.inl (some j))=false:=decide_eq_false nofun
theorem key_sn (x:Str):decide ((Sum.inr x:Key)=Sum.inl none)=false:=decide_eq_false nofun
theorem key_ni (j:Int):decide ((Sum.inl none:Key)=Sum.inl (some j))=false:=decide_eq_false nofun
theorem key_ns (y:Str):decide ((Sum.inl none:Key)=Sum.inr y)=false:=decide_eq_false nofun
theorem XO {prog:Program}{w:World}{A:Around}{E:Value->Shared->Prop}{s:Shared}{Q:Int->Shared->Prop}(h:Q 4238894112 { s with toks:=s.toks+1 }):wpAny (model prog w) A (pyHash .none) Q E s:=by
 unfold pyHash;refine wpAny_bind ?_;rw[cRoomFor,if_neg (by rw[show[Value.none].any Value.onHeap=false from rfl]; exact Bool.false_ne_true)]; refine wpAny_pure ?_
 have ty:s.TypeIs .none "NoneType":=rfl;refine wpAny_bind (wpAny_specialOf ty PySem.F.slot_NoneType_hash.lookup ?_);rw[if_neg (by rw[beq_builtin_none]; exact Bool.false_ne_true)];refine wpAny_bind (wpAny_specialOf ty PySem.F.slot_NoneType_hash.lookup ?_)
 refine wpAny_bind (wpAny_callSpecialIfBoundUnlessNone?_slot ty PySem.F.slot_NoneType_hash
  (wpAny_call_entry PySem.F.slot_NoneType_hash ty PySem.F.entry_NoneType_hash
   (show wpAny _ _ (do ret (<- mkInt 4238894112)) _ _ s from wpAny_ret_mkInt ?_) (PySem.F.args_NoneType_hash_1 _)))
 show wpAny _ _ (if (decide (-(2:Int) ^ 63<=4238894112)&&decide ((4238894112:Int) < 2 ^ 63))=true then _ else _) Q E _;rw[if_pos (by decide)];exact wpAny_pure h
theorem Kf {prog:Program}{w:World}{A:Around}{E:Value->Shared->Prop}{s:Shared}{Q:Bool->Shared->Prop}(h:Q true s):wpAny (model prog w) A (eqBool .none .none) Q E s:=by
 unfold eqBool;refine wpAny_holding ?_;refine wpAny_ite_split (fun _=>?_) (fun hab=>absurd rfl hab);exact wpAny_bind (wpAny_rule (wpAny_pure h))
def zX (prog:Program)(w:World):PySem.KeyKind prog w Key where
 is:=gN
 hash:=keyH w
 inj:=fun v a b ha hb=>by
  rcases lZ ha with ⟨i,t,rfl,rfl⟩ | ⟨x,t,rfl,rfl⟩ | ⟨rfl,rfl⟩<;>rcases lZ hb with ⟨j,u,rfl,e⟩ | ⟨y,u,rfl,e⟩ | ⟨rfl,e⟩<;>cases e<;>rfl
 byValue:=fun k v h=>by
  rcases lZ h with ⟨i,t,rfl,rfl⟩ | ⟨x,t,rfl,rfl⟩ | ⟨rfl,rfl⟩<;>rfl
 pyHash:=fun hv h=>by
  rcases lZ hv with ⟨i,t,rfl,rfl⟩ | ⟨x,t,rfl,rfl⟩ | ⟨rfl,rfl⟩
  .exact wpAny_pyHash_int h
  .exact wpAny_pyHash_str h
  .exact XO h
 eqBool:=fun hu hv h=>by
  rcases lZ hu with ⟨i,t,rfl,rfl⟩ | ⟨x,t,rfl,rfl⟩ | ⟨rfl,rfl⟩<;>rcases lZ hv with ⟨j,u,rfl,rfl⟩ | ⟨y,u,rfl,rfl⟩ | ⟨rfl,rfl⟩
  .rw [key_ii] at h; exact wpAny_eqBool_int h
  .rw [key_is] at h; exact SeqAt.EqAt.int_str i t y u _ _ _ _ h
  .rw [key_in] at h; exact SeqAt.EqAt.int_none i t _ _ _ _ h
  .rw [key_si] at h; exact SeqAt.EqAt.str_int x t j u _ _ _ _ h
  .rw [key_ss] at h; exact wpAny_eqBool_str h
  .rw [key_sn] at h; exact SeqAt.EqAt.str_none x t _ _ _ _ h
  .rw [key_ni] at h; exact SeqAt.EqAt.none_int j u _ _ _ _ h
  .rw [key_ns] at h; exact SeqAt.EqAt.none_str y u _ _ _ _ h
  .rw [decide_eq_true (rfl:(Sum.inl none:Key)=Sum.inl none)] at h; exact Kf h
 «strs»:=fun k x t v h=>by
  rcases lZ h with ⟨i,u,rfl,e⟩ | ⟨y,u,rfl,e⟩ | ⟨rfl,e⟩
  .exact nomatch e
  .injection e with e1 _
   subst e1;cases v<;>rfl
  .exact nomatch e
theorem sT (prog:Program)(w:World)(i:Int)(t:Tok):(zX prog w).is (.inl (some i)) (.int i t)=true:=XG i t
theorem rC (prog:Program)(w:World):(zX prog w).is (.inl none) .none=true:=rfl
theorem nT (prog:Program)(w:World)(x:Str)(t:Tok):(zX prog w).is (.inr x) (.str x t)=true:=XF x t
inductive V where
 |non | bl (b:Bool) | int (i:Int) | str (x:Str) | byt (b:Array UInt8) | flt (b:UInt64) | ref (a:Addr) | ty (n:String)
 deriving DecidableEq
def RelV:V->Value->Prop
 |.non,u=>u=Value.none
 |.bl b,u=>u=Value.bool b
 |.int i,u=>∃t,u=Value.int i t
 |.str x,u=>∃t,u=Value.str x t
 |.byt b,u=>∃t,u=Value.bytes b t
 |.flt b,u=>∃t,u=Value.float b t
 |.ref a,u=>u=Value.ref a
 |.ty n,u=>u=Value.type n
abbrev Vals:List V->List Value->Prop:=Paired RelV
theorem Vals.length {xs:List V}{us:List Value}(r:Vals xs us):xs.length=us.length:=Paired.length r
theorem Vals.get:∀{xs:List V}{us:List Value}{i:Nat}{x:V},Vals xs us->xs[i]?=some x->∃u,us[i]?=some u/\RelV x u
 |_,_,_,_,.nil,e=>by simp at e
 |_,_,0,_,.cons r _,e=>by simp at e; subst e; exact⟨_,rfl,r⟩
 |_,_,i+1,x,.cons _ t,e=>by
  obtain⟨u,h1,h2⟩:=Vals.get (i:=i) (x:=x) t (by simpa using e);exact⟨u,by simpa using h1,h2⟩
theorem Vals.set {x:V}{u:Value}(r:RelV x u):∀{xs:List V}{us:List Value}(i:Nat),Vals xs us->Vals (xs.set i x) (us.set i u)
 |_,_,_,.nil=>.nil
 |_,_,0,.cons _ t=>.cons r t
 |_,_,i+1,.cons q t=>.cons q (Vals.set r i t)
theorem Vals.append:∀{xs ys:List V}{us ws:List Value},Vals xs us->Vals ys ws->Vals (xs++ys) (us++ws)
 |_,_,_,_,.nil,s=>s
 |_,_,_,_,.cons r t,s=>.cons r (Vals.append t s)
theorem Vals.take:∀{xs:List V}{us:List Value}(n:Nat),Vals xs us->Vals (xs.take n) (us.take n)
 |_,_,0,_=>.nil
 |_,_,_+1,.nil=>.nil
 |_,_,n+1,.cons r t=>.cons r (Vals.take n t)
theorem Vals.drop:∀{xs:List V}{us:List Value}(n:Nat),Vals xs us->Vals (xs.drop n) (us.drop n)
 |_,_,0,r=>r
 |_,_,_+1,.nil=>.nil
 |_,_,n+1,.cons _ t=>Vals.drop n t
def RelO:Option V->Option Value->Prop
 |some v,some u=>RelV v u
 |none,none=>True
 |_,_=>False
def KV {κ:Type}:List (κ×V)->List (κ×Value)->Prop:=Paired fun(p:κ×V) (q:κ×Value)=>p.1=q.1/\RelV p.2 q.2
def kV:Key->V
 |.inl none=>.non
 |.inl (some i)=>.int i
 |.inr x=>.str x
inductive HO where
 |lst (xs:List V)
 |tup (xs:List V)
 |dK (kvs:List (Key×V)) | dT (kvs:List (List Key×V)) | dP (kvs:List (List (List Key)×V))
 |set (S:Int->Bool) (n:Nat)
 |ins (C dx:Addr) (fs:List (Str×V))
 |own (x:Addr)
 |xd (fs:List (Str×V))
 |met (f x:Addr)
 |rng (lo hi:Int)
 |frz (o:Obj) (u:HO)
 |tbl (ps:Array Value)
 |ext (φ:Heap->Prop)
abbrev Hp:=Addr->Option HO
def upd (H:Hp)(a:Addr)(o:HO):Hp:=fun b=>if b=a then some o else H b
theorem fQ {H:Hp}{a:Addr}{o:HO}:upd H a o a=some o:=by unfold upd; rw[if_pos rfl]
theorem lQ {H:Hp}{a b:Addr}{o:HO}(h:b≠a):upd H a o b=H b:=by unfold upd; rw[if_neg h]
theorem ne_of {H:Hp}{a b:Addr}{o u:HO}(h:H a=some o)(h':H b=some u)(d:o≠u):a≠b:=by
 intro e; subst e; rw[h] at h'; exact d (Option.some.inj h')
theorem iZ {H:Hp}{a b:Addr}{o:HO}(h:H a=some o)(h':H b=none):a≠b:=by
 intro e; subst e; rw[h] at h'; cases h'
def IsTupN (h:Heap)(a:Addr)(items:Array Value):Prop:=∃o,h.get? a=some o/\o.cls=.type "tuple"/\(∃n,o.data=.seq items n)/\o.dict=none
theorem IsTupN.is {h:Heap}{a:Addr}{items:Array Value}(x:IsTupN h a items):IsTup h a items:=let ⟨o,e,c,d,_⟩:=x; ⟨o,e,c,d⟩
theorem IsTupN.new (h:Heap)(items:Array Value):IsTupN (h.push { cls:=.type "tuple",data:=.seq items }) h.objs.size items:=⟨_,Heap.get?_push_size _ rfl,rfl,⟨_,rfl⟩,rfl⟩
def PKey (H:Hp)(kss:List (List Key))(b:Addr):Prop:=∃bs:List Addr,H b=some (.tup (bs.map V.ref))/\Paired (fun(ks:List Key) (c:Addr)=>H c=some (.tup (ks.map kV))) kss bs
section
variable (P:Program)(w:World)
def ObjOk (H:Hp)(h:Heap)(a:Addr):HO->Prop
 |.lst xs=>xs.length<=sizeLine/\∃(its:List Value) (n:Nat),Vals xs its/\h.get? a=some { cls:=.type "list",data:=.seq its.toArray n }
 |.tup xs=>xs.length<=sizeLine/\∃its:List Value,Vals xs its/\IsTupN h a its.toArray
 |.dK kvs=>kvs.length<=sizeLine/\(a==sysModules)=false/\∃vs,KV kvs vs/\h.DictOf (zX P w) a vs
 |.dT kvs=>kvs.length<=sizeLine/\(a==sysModules)=false/\∃xs:List (List Key×Addr×Value),
   Paired (fun(p:List Key×V) (q:List Key×Addr×Value)=>p.1=q.1/\H q.2.1=some (.tup (p.1.map kV))/\RelV p.2 q.2.2) kvs xs /\
   ∃o es ep,h.get? a=some o/\o.ExactDict/\o.data=.dict es ep/\es.toList=xs.map (entryOfKey (tupleKind (zX P w)))/\(xs.map (·.1)).Nodup
 |.dP kvs=>kvs.length<=sizeLine/\(a==sysModules)=false/\∃xs:List (List (List Key)×Addr×Value),
   Paired (fun(p:List (List Key)×V) (q:List (List Key)×Addr×Value)=>p.1=q.1/\PKey H p.1 q.2.1/\RelV p.2 q.2.2) kvs xs /\
   ∃o es ep,h.get? a=some o/\o.ExactDict/\o.data=.dict es ep/\es.toList=xs.map (entryOfKey (cG (zX P w)))/\(xs.map (·.1)).Nodup
 |.set S n=>h.SetOf (intKind P w) a S n
 |.ins C dx fs=>H dx=some (.own a)/\fs.length<=1000/\dx≠a/\h.get? a=some (PySem.W.instObj C dx) /\
   ∃mA,h.Ns1 dx mA/\(∀f,RelO (fs.lookup f) (mA f))/\PySem.Within mA (fs.map (·.1))
 |.own _=>∃o,h.get? a=some o
 |.xd fs=>∃mA,h.Ns1 a mA/\∀f,RelO (fs.lookup f) (mA f)
 |.rng lo hi=>∃t u v,h.get? a=some { cls:=.type "range",data:=.fields #[.int lo t,.int hi u,.int 1 v] }
 |.frz o u=>h.get? a=some o/\ObjOk H h a u
 |.tbl ps=>h.get? a=some { cls:=.none,data:=.fields ps }
 |.met f x=>h.get? a=some (PySem.W.methodObj (.ref f) (.ref x))
 |.ext φ=>φ h/\(∃o,h.get? a=some o)/\∀h1 h2:Heap,φ h1->(∀o,h1.get? a=some o->h2.get? a=some o)->φ h2
def HOk (H:Hp)(h:Heap):Prop:=∀a o,H a=some o->ObjOk P w H h a o
end
section
variable {P:Program}{w:World}{H H':Hp}{h h':Heap}{a:Addr}{o:HO}
theorem ObjOk.lt (x:ObjOk P w H h a o):a < h.objs.size:=by
 cases o with
 |lst xs=>obtain⟨_,_,_,_,e⟩:=x; exact Heap.lt_size e
 |tup xs=>obtain⟨_,_,_,o,e,_⟩:=x; exact Heap.lt_size e
 |dK kvs=>obtain⟨_,_,_,_,o,_,_,e,_⟩:=x; exact Heap.lt_size e
 |dT kvs=>obtain⟨_,_,_,_,o,_,_,e,_⟩:=x; exact Heap.lt_size e
 |dP kvs=>obtain⟨_,_,_,_,o,_,_,e,_⟩:=x; exact Heap.lt_size e
 |set S n=>obtain⟨o,_,_,_,e,_⟩:=x; exact Heap.lt_size e
 |ins C dx fs=>obtain⟨_,_,_,e,_⟩:=x; exact Heap.lt_size e
 |own y=>obtain⟨_,e⟩:=x; exact Heap.lt_size e
 |xd fs=>obtain⟨_,⟨_,_,_,e,_⟩,_⟩:=x; exact Heap.lt_size e
 |rng lo hi=>obtain⟨_,_,_,e⟩:=x; exact Heap.lt_size e
 |frz ob u=>obtain⟨e,_⟩:=x; exact Heap.lt_size e
 |tbl ps=>exact Heap.lt_size (show h.get? a=some _ from x)
 |met f y=>exact Heap.lt_size (show h.get? a=some _ from x)
 |ext φ=>obtain⟨_,⟨_,e⟩,_⟩:=x; exact Heap.lt_size e
theorem Paired.mapP {α β:Type}{F G:α->β->Prop}:∀{l₁:List α}{l₂:List β},Paired F l₁ l₂->(∀a b,F a b->G a b)->Paired G l₁ l₂
 |_,_,.nil,_=>.nil
 |_,_,.cons r t,f=>.cons (f _ _ r) (Paired.mapP t f)
theorem PKey.mono {kss:List (List Key)}{b:Addr}(x:PKey H kss b)(ht:∀b xs,H b=some (.tup xs)->H' b=some (.tup xs)):PKey H' kss b :=
 let ⟨bs,e,r⟩:=x; ⟨bs,ht _ _ e,Paired.mapP r fun _ _ z=>ht _ _ z⟩
theorem ObjOk.stay (x:ObjOk P w H h a o)(k:∀b u,(b=a\/H b=some (.own a))->h.get? b=some u->h'.get? b=some u)
  (ho:∀b,H b=some (.own a)->H' b=some (.own a)) (ht:∀b xs,H b=some (.tup xs)->H' b=some (.tup xs)):ObjOk P w H' h' a o:=by
 induction o with
 |lst xs=>obtain⟨z,its,n,r,e⟩:=x; exact⟨z,its,n,r,k _ _ (.inl rfl) e⟩
 |tup xs=>obtain⟨z,its,r,ob,e,c⟩:=x; exact⟨z,its,r,ob,k _ _ (.inl rfl) e,c⟩
 |dK kvs=>obtain⟨z,y,vs,r,ob,es,ep,e,c⟩:=x; exact⟨z,y,vs,r,ob,es,ep,k _ _ (.inl rfl) e,c⟩
 |dT kvs =>
  obtain⟨z,y,xs,r,ob,es,ep,e,c⟩:=x;exact⟨z,y,xs,Paired.mapP r fun p q z=>⟨z.1,ht _ _ z.2.1,z.2.2⟩,ob,es,ep,k _ _ (.inl rfl) e,c⟩
 |dP kvs =>
  obtain⟨z,y,xs,r,ob,es,ep,e,c⟩:=x;exact⟨z,y,xs,Paired.mapP r fun p q z=>⟨z.1,z.2.1.mono ht,z.2.2⟩,ob,es,ep,k _ _ (.inl rfl) e,c⟩
 |set S n=>obtain⟨ob,es,ep,t,e,c⟩:=x; exact⟨ob,es,ep,t,k _ _ (.inl rfl) e,c⟩
 |ins C dx fs =>
  obtain⟨d,z,ne,e,mA,⟨od,es,ep,e2,c⟩,r⟩:=x;exact⟨ho _ d,z,ne,k _ _ (.inl rfl) e,mA,⟨od,es,ep,k _ _ (.inr d) e2,c⟩,r⟩
 |own y=>obtain⟨ob,e⟩:=x; exact⟨ob,k _ _ (.inl rfl) e⟩
 |xd fs=>obtain⟨mA,⟨od,es,ep,e,c⟩,r⟩:=x; exact⟨mA,⟨od,es,ep,k _ _ (.inl rfl) e,c⟩,r⟩
 |rng lo hi=>obtain⟨t,u,v,e⟩:=x; exact⟨t,u,v,k _ _ (.inl rfl) e⟩
 |frz ob u ih=>obtain⟨e,q⟩:=x; exact⟨k _ _ (.inl rfl) e,ih q⟩
 |tbl ps =>
  have e:h.get? a=some { cls:=.none,data:=.fields ps }:=x;show h'.get? a=some { cls:=.none,data:=.fields ps };exact k a _ (.inl rfl) e
 |met f y =>
  have e:h.get? a=some (PySem.W.methodObj (.ref f) (.ref y)):=x;show h'.get? a=some (PySem.W.methodObj (.ref f) (.ref y));exact k a _ (.inl rfl) e
 |ext φ=>obtain⟨p,⟨o,e⟩,st⟩:=x; exact⟨st _ _ p fun o q=>k _ _ (.inl rfl) q,⟨o,k _ _ (.inl rfl) e⟩,st⟩
theorem HOk.lt (x:HOk P w H h)(e:H a=some o):a < h.objs.size:=(x a o e).lt
theorem HOk.fresh (x:HOk P w H h)(e:h.objs.size<=a):H a=none:=by
 cases q:H a with
 |none=>rfl
 |some u=>exact absurd (Nat.lt_of_lt_of_le (x.lt q) e) (Nat.lt_irrefl _)
theorem HOk.kept (x:HOk P w H h)(k:∀b u,h.get? b=some u->h'.get? b=some u):HOk P w H h':=fun a o e =>
 (x a o e).stay (fun b u _ q=>k b u q) (fun _ q=>q) fun _ _ q=>q
theorem HOk.laid (x:HOk P w H h)(k:∀b u,h.get? b=some u->h'.get? b=some u)(hp:h.objs.size<=a)(new:ObjOk P w (upd H a o) h' a o):HOk P w (upd H a o) h':=fun b u e=>by
 have hn:=x.fresh hp
 by_cases hb:b=a
 .subst hb; rw[fQ] at e; cases e; exact new
 .rw [lQ hb] at e
  exact(x b u e).stay (fun c v _ q=>k c v q) (fun c q=>by rw[lQ (iZ q hn)]; exact q) fun c xs q=>by rw[lQ (iZ q hn)]; exact q
end
def Rd (H:Hp)(a:Addr)(u:HO):Prop:=H a=some u\/∃o,H a=some (.frz o u)
theorem Rd.ok {P:Program}{w:World}{H:Hp}{h:Heap}{a:Addr}{u:HO}(r:Rd H a u)(x:HOk P w H h):ObjOk P w H h a u:=by
 rcases r with r | ⟨o,r⟩
 .exact x a u r
 .obtain ⟨_,q⟩:=x a _ r
  exact q
def Mut:Option HO->Prop
 |some (.lst _)=>True
 |some (.dK _)=>True
 |some (.dT _)=>True
 |some (.dP _)=>True
 |some (.set _ _)=>True
 |some (.ins _ _ _)=>True
 |some (.ext _)=>True
 |_=>False
section
variable {P:Program}{w:World}{H:Hp}{h h':Heap}{x e:Addr}{o':HO}
theorem HOk.write (ok:HOk P w H h)(mu:Mut (H x))(he:e=x\/H e=some (.own x))(k:∀b u,b≠e->h.get? b=some u->h'.get? b=some u)(heo:∃u,h'.get? e=some u)
  (new:ObjOk P w (upd H x o') h' x o'):HOk P w (upd H x o') h':=fun b u q=>by
 have nown:∀c y,H c=some (.own y)->c≠x:=fun c y r z=>by subst z; rw[r] at mu; exact mu
 have ntup:∀c xs,H c=some (.tup xs)->c≠x:=fun c xs r z=>by subst z; rw[r] at mu; exact mu
 by_cases hb:b=x
 .subst hb; rw[fQ] at q; cases q; exact new
 .rw [lQ hb] at q
  by_cases hbe:b=e
  .have q':H b=some (.own x):=by
    rcases he with z | z
    .exact absurd (hbe.trans z) hb
    .rw [hbe]; exact z
   rw[q] at q'; cases q'
   obtain⟨v,hv⟩:=heo;exact⟨v,by rw[hbe]; exact hv⟩
  .refine (ok b u q).stay (fun c v hc r=>k c v ?_ r) (fun c r=>by rw[lQ (nown c b r)]; exact r) fun c xs r=>by rw[lQ (ntup c xs r)]; exact r
   rcases hc with rfl | hc
   .exact hbe
   .rintro rfl
    rcases he with z | z
    .exact nown c b hc z
    .rw [hc] at z; cases z; exact hb rfl
end
structure Un (fs ex:List Addr)(H H':Hp)(h h':Heap):Prop where
 keep:∀b o,h.get? b=some o->H b=none->b∉fs->b∉ex->h'.get? b=some o
 slot:∀b o,h.get? b=some o->H b=none->b∈fs->b∉ex->∃sl,h'.get? b=some { o with slots:=sl }
 free:∀b o,h.get? b=some o->H b=none->b∉ex->H' b=none
 there:∀b o,h.get? b=some o->b∉ex->∃o',h'.get? b=some o'
 tups:∀b xs,H b=some (.tup xs)->H' b=some (.tup xs)
 frzs:∀b o u,H b=some (.frz o u)->H' b=some (.frz o u)
 tbls:∀b ps,H b=some (.tbl ps)->∃more,H' b=some (.tbl (ps++more))
section
variable {fs fs' ex ex':List Addr}{H H1 H2:Hp}{h h1 h2 h':Heap}{a x e:Addr}{o:HO}
theorem Un.any (u:Un fs ex H H1 h h1){b:Addr}{ob:Obj}(q:h.get? b=some ob)(n:H b=none)(hx:b∉ex):∃sl,h1.get? b=some { ob with slots:=sl }:=by
 by_cases hb:b∈fs
 .exact u.slot b ob q n hb hx
 .exact ⟨ob.slots,u.keep b ob q n hb hx⟩
theorem Un.kept (k:∀b u,h.get? b=some u->h'.get? b=some u):Un fs ex H H h h' :=
 ⟨fun b ob q _ _ _=>k b ob q,fun b ob q _ _ _=>⟨ob.slots,k b ob q⟩,fun _ _ _ n _=>n,fun b ob q _=>⟨ob,k b ob q⟩,fun _ _ q=>q,fun _ _ _ q=>q,fun _ ps q=>⟨#[],by rw[q]; simp⟩⟩
theorem Un.refl:Un fs ex H H h h:=Un.kept fun _ _ q=>q
theorem Un.laid (k:∀b u,h.get? b=some u->h'.get? b=some u)(hp:h.objs.size<=a)(hn:H a=none):Un fs ex H (upd H a o) h h' where
 keep:=fun b u q _ _ _=>k b u q
 slot:=fun b u q _ _ _=>⟨u.slots,k b u q⟩
 free:=fun b u q n _=>by rw[lQ (Nat.ne_of_lt (Nat.lt_of_lt_of_le (Heap.lt_size q) hp))]; exact n
 there:=fun b u q _=>⟨u,k b u q⟩
 tups:=fun b xs q=>by rw[lQ (iZ q hn)]; exact q
 frzs:=fun b u xs q=>by rw[lQ (iZ q hn)]; exact q
 tbls:=fun b ps q=>⟨#[],by rw[lQ (iZ q hn),q]; simp⟩
theorem Un.write (mu:Mut (H x))(he:e=x\/H e=some (.own x))(k:∀b u,b≠e->h.get? b=some u->h'.get? b=some u)(heo:∃u,h'.get? e=some u):Un fs ex H (upd H x o) h h':=by
 have hx:∀b,H b=none->b≠x:=fun b n z=>by subst z; rw[n] at mu; exact mu
 have hb:∀b,H b=none->b≠e:=fun b n z=>by
  subst z
  rcases he with r | r
  .exact hx b n r
  .rw [n] at r; cases r
 have hm:∀b u,H b=some u->¬ Mut (some u)->b≠x:=fun b u q nm z=>by subst z; rw[q] at mu; exact nm mu
 refine⟨fun b u q n _ _=>k b u (hb b n) q,fun b u q n _ _=>⟨u.slots,k b u (hb b n) q⟩,fun b u q n _=>by rw[lQ (hx b n)]; exact n,fun b u q _=>?_,
  fun b xs q=>by rw[lQ (hm b _ q fun z=>z)]; exact q,fun b u xs q=>by rw[lQ (hm b _ q fun z=>z)]; exact q,fun b ps q=>⟨#[],by rw[lQ (hm b _ q fun z=>z),q]; simp⟩⟩
 by_cases hbe:b=e
 .subst hbe; exact heo
 .exact ⟨u,k b u hbe q⟩
end
def trk (h:Heap)(H:Hp):List Addr:=(List.range h.objs.size).filter fun a=>(H a).isSome
def zR (h:Heap)(H:Hp):Heap:=PySem.W.hideAll h (trk h H)
theorem XN (h:Heap)(H:Hp):(zR h H).objs.size=h.objs.size:=PySem.W.hideAll_size _ _
theorem J0 {h:Heap}{H:Hp}{b:Addr}{o:Obj}(e:h.get? b=some o)(n:H b=none):(zR h H).get? b=some o :=
 PySem.W.hideAll_get _ e fun hm=>by
  have q:(H b).isSome=true:=(List.mem_filter.mp hm).2;rw[n] at q; simp at q
theorem of_hidT {h:Heap}{H:Hp}{b:Addr}{o:Obj}(e:(zR h H).get? b=some o):h.get? b=some o/\H b=none:=by
 have e':h.get? b=some o:=PySem.W.of_hideAll (trk h H) e;refine⟨e',?_⟩
 cases q:H b with
 |none=>rfl
 |some x =>
  have hm:b∈trk h H:=List.mem_filter.mpr ⟨List.mem_range.mpr (Heap.lt_size e'),by simp[q]⟩;have z:(zR h H).get? b=none:=PySem.W.hideAll_none (trk h H) hm;rw[z] at e; cases e
def allNews (g h:Heap)(L:Addr):List (Addr×Obj):=(List.range h.objs.size).filterMap fun a=>if a=L\/(g.get? a).isSome=true then none else (h.get? a).map fun o=>(a,o)
def rest (g h:Heap)(L d:Addr):List (Addr×Obj):=(allNews g h L).filter fun p=>decide (p.1≠d)
structure Mod (K:PySem.W.Frag)(mg:Str->Option Value)(base:Heap):Prop where
 kin:K.In base
 glob:base.Ns mainGlobals mg
 blt:∃mb,base.Ns builtinsNs mb/\∀x:Str,x ≠ "__name__"->mb x=bootBuiltins x
 nolimit:base.NoLimit
structure Cx where
 prog:Program
 w:World
 K:PySem.W.Frag
 mg:Str->Option Value
 base:Heap
 A:Around
 N:List Str
 s₀:Shared
 H₀:Hp
 env:Env
 outer:List Env
 stack:List Env
 ex:List Addr
 fn:Str->Bool
 calm:Bool
 pn:List (Addr×Obj)
 xe:Value->Shared->Prop
def frs (l:List Env):List Addr:=l.filterMap (·.frame)
abbrev Cx.fs (X:Cx):List Addr:=frs X.outer
def Vis (sc:Scope)(x:Str):Prop:=sc.names.lookup x=some .local\/sc.names.lookup x=some .cell\/sc.names.lookup x=some .free
def Loc (sc:Scope)(x:Str):Prop:=sc.names.lookup x=some .local\/sc.names.lookup x=some .cell
def Look (env:Env)(h:Heap)(m:Str->Option Value)(x:Str)(u:Value):Prop :=
 (env.kindOf x=some .local/\m x=some u)\/((env.kindOf x=some .cell\/env.kindOf x=some .free)/\∃c,env.cells.lookup x=some c/\h.IsCell c (some u))
structure Cx.Ok (X:Cx):Prop where
 mod:Mod X.K X.mg X.base
 kind:X.env.scope.kind=.function
 glob:X.env.globals=mainGlobals
 blt:X.env.builtins=builtinsNs
 above:X.s₀.heap.objs.size<=X.env.locals
 inj:∀x y c,X.env.cells.lookup x=some c->X.env.cells.lookup y=some c->x=y
 has:∀x,(X.env.kindOf x=some .cell\/X.env.kindOf x=some .free)->∃c,X.env.cells.lookup x=some c
 cab:∀x c,X.fn x=true->X.env.cells.lookup x=some c->X.s₀.heap.objs.size<=c
 hd:X.calm=true->X.A.handled=none
 frames:X.A.frames=some X.stack
 stk:X.stack=X.outer\/(X.stack=X.env::X.outer/\X.env.frame=some X.env.locals)
 exf:∀b∈X.ex,b≠X.env.locals/\∀x c,X.env.cells.lookup x=some c->c≠b
 bs:∀b o,X.base.get? b=some o->X.s₀.heap.get? b=some o/\X.H₀ b=none
 bsz:X.base.objs.size<=X.s₀.heap.objs.size
 noex:∀b o,X.base.get? b=some o->b∉X.ex
 exfs:∀b∈X.ex,b∉X.fs
 funs:X.s₀.heap.FunFrames X.base X.outer
 frf:∀b∈X.fs,X.H₀ b=none
structure Inv (X:Cx)(pins:List (Addr×Obj))(σ:List (Option V))(H:Hp)(s:Shared):Prop where
 ok:X.Ok
 os:s.os=X.s₀.os
 bare:AllBare s.gens
 base:Un X.fs X.ex X.H₀ H X.s₀.heap s.heap
 loc:∃m,s.heap.Ns X.env.locals m/\∀(i:Nat) (x:Str) (v:V),X.N[i]?=some x->σ[i]?=some (some v)->Vis X.env.scope x->∃u,RelV v u/\Look X.env s.heap m x u
 cell:∀x c,X.env.cells.lookup x=some c->∃v,s.heap.IsCell c v
 free:H X.env.locals=none
 freeC:∀x c,X.env.cells.lookup x=some c->H c=none
 pin:∀p∈X.pn++pins,s.heap.get? p.1=some p.2/\H p.1=none/\p.1≠X.env.locals/\p.1∉X.fs/\∀v,p.2.data≠.cell v
 hok:HOk X.prog X.w H s.heap
 len:σ.length=X.N.length
section
variable {X:Cx}{pins:List (Addr×Obj)}{σ:List (Option V)}{H H':Hp}{s:Shared}{h':Heap}
theorem Cx.Ok.nofr (ok:X.Ok){b:Addr}{o:Obj}(e:X.base.get? b=some o):b∉X.fs:=fun hb=>by
 have:=(ok.funs.mem hb).1;rw[e] at this; cases this
theorem Inv.bs (I:Inv X pins σ H s):∀b o,X.base.get? b=some o->s.heap.get? b=some o/\H b=none:=fun b o e =>
 ⟨I.base.keep b o (I.ok.bs b o e).1 (I.ok.bs b o e).2 (I.ok.nofr e) (I.ok.noex b o e),I.base.free b o (I.ok.bs b o e).1 (I.ok.bs b o e).2 (I.ok.noex b o e)⟩
theorem Inv.bk (I:Inv X pins σ H s):∀b o,X.base.get? b=some o->s.heap.get? b=some o:=fun b o e=>(I.bs b o e).1
theorem Inv.mod (I:Inv X pins σ H s):Mod X.K X.mg X.base:=I.ok.mod
theorem Inv.kIn (I:Inv X pins σ H s):X.K.In s.heap:=I.ok.mod.kin.keeps I.bk
theorem Inv.fr (I:Inv X pins σ H s):∃m,Fr X.base X.env.locals s.heap m :=
 let ⟨m,hn,_⟩:=I.loc
 ⟨m,hn,I.bk,Nat.le_trans I.ok.bsz I.ok.above⟩
theorem Inv.lt (I:Inv X pins σ H s):X.env.locals < s.heap.objs.size:=let ⟨_,hn,_⟩:=I.loc; hn.lt
theorem Inv.sz (I:Inv X pins σ H s):X.s₀.heap.objs.size<=s.heap.objs.size:=Nat.le_trans I.ok.above (Nat.le_of_lt I.lt)
theorem Inv.nofs (I:Inv X pins σ H s){a:Addr}(h:s.heap.objs.size<=a):a∉X.fs:=fun hb=>by
 obtain⟨_,o,ho,_⟩:=I.ok.funs.mem hb;exact absurd (Nat.lt_of_lt_of_le (Heap.lt_size ho) (Nat.le_trans I.sz h)) (Nat.lt_irrefl _)
theorem Inv.cne (I:Inv X pins σ H s):∀x c,X.env.cells.lookup x=some c->c≠X.env.locals:=fun x c e z=>by
 obtain⟨v,o,ho,hd⟩:=I.cell x c e;obtain⟨m,⟨o',es,ep,ho',hd',_⟩,_⟩:=I.loc;rw[z,ho'] at ho; cases ho; rw[hd'] at hd; cases hd
theorem Inv.funs (I:Inv X pins σ H s):s.heap.FunFrames X.base X.outer:=by
 have all:∀(l:List Env),(∀b∈frs l,b∈X.fs)->X.s₀.heap.FunFrames X.base l->s.heap.FunFrames X.base l:=by
  intro l
  induction l with
  |nil=>intro _ _; trivial
  |cons env r ih =>
   intro hs hl;obtain⟨hk,⟨L,o,hf,hn,ho,hd⟩,hr⟩:=hl;have hL:L∈X.fs:=hs L (by unfold frs; rw[List.filterMap_cons,hf]; exact List.mem_cons_self);obtain⟨sl,e⟩:=I.base.slot L o ho (I.ok.frf L hL) hL fun z=>I.ok.exfs L z hL;exact⟨hk,⟨L,_,hf,hn,e,hd⟩,ih (fun b hb=>hs b (by unfold frs; rw[List.filterMap_cons,hf]; exact List.mem_cons_of_mem _ hb)) hr⟩
 exact all X.outer (fun _ hb=>hb) I.ok.funs
theorem Inv.stack (I:Inv X pins σ H s):s.heap.FunFrames X.base X.stack:=by
 rcases I.ok.stk with e | ⟨e,hf⟩
 .rw [e]; exact I.funs
 .rw [e]
  obtain⟨m,hn,_⟩:=I.loc;refine .cons (by rw[I.ok.kind]; decide) hf hn ?_ I.funs;exact Heap.get?_none_of_le (Nat.le_trans I.ok.bsz I.ok.above)
theorem Inv.stkSub (I:Inv X pins σ H s):∀b∈frs X.stack,b∈X.env.locals::X.fs:=fun b hb=>by
 rcases I.ok.stk with e | ⟨e,hf⟩
 .rw [e] at hb; exact List.mem_cons_of_mem _ hb
 .rw [e] at hb
  unfold frs at hb;rw[List.filterMap_cons,hf] at hb;exact hb
theorem Inv.stkFree (I:Inv X pins σ H s):∀b∈frs X.stack,H b=none:=fun b hb=>by
 rcases List.mem_cons.mp (I.stkSub b hb) with e | hb
 .rw [e]; exact I.free
 .obtain ⟨_,o,ho,_⟩:=I.ok.funs.mem hb
  exact I.base.free b o ho (I.ok.frf b hb) fun z=>I.ok.exfs b z hb
theorem Inv.step {g':Array GenState}{t':Nat}{d':Drawn}{ch:List Addr}(I:Inv X pins σ H s)
  (hch:∀b∈ch,(b∈X.ex\/X.s₀.heap.objs.size<=b)/\b≠X.env.locals/\(∀x c,X.env.cells.lookup x=some c->c≠b)/\∀p∈X.pn++pins,p.1≠b)
  (keep:∀b o,b≠X.env.locals->b∉X.fs->b∉ch->s.heap.get? b=some o->H b=none->h'.get? b=some o)
  (slot:∀b o,b≠X.env.locals->b∈X.fs->b∉ch->s.heap.get? b=some o->H b=none->∃sl,h'.get? b=some { o with slots:=sl }) (free:∀b o,b∉ch->s.heap.get? b=some o->H b=none->H' b=none)
  (there:∀b o,b∉ch->s.heap.get? b=some o->∃o',h'.get? b=some o')
  (tups:∀b xs,H b=some (.tup xs)->H' b=some (.tup xs)) (frzs:∀b o u,H b=some (.frz o u)->H' b=some (.frz o u)) (tbls:∀b ps,H b=some (.tbl ps)->∃more,H' b=some (.tbl (ps++more)))
  (ns:∀m,s.heap.Ns X.env.locals m->h'.Ns X.env.locals m) (hok:HOk X.prog X.w H' h') (hg:AllBare g') :
  Inv X pins σ H' { s with heap:=h',gens:=g',drawn:=d',toks:=t' }:=by
 have neL:∀b o,X.s₀.heap.get? b=some o->b≠X.env.locals:=fun b o e=>Nat.ne_of_lt (Nat.lt_of_lt_of_le (Heap.lt_size e) I.ok.above)
 have neC:∀b o,X.s₀.heap.get? b=some o->b∉X.ex->b∉ch:=fun b o e hx hb=>by
  rcases(hch b hb).1 with z | z
  .exact hx z
  .exact absurd (Nat.lt_of_lt_of_le (Heap.lt_size e) z) (Nat.lt_irrefl _)
 have cellK:∀x c,X.env.cells.lookup x=some c->∀v,s.heap.IsCell c v->h'.IsCell c v:=fun x c e v ⟨o,ho,hd⟩=>by
  have nch:c∉ch:=fun z=>(hch c z).2.2.1 x c e rfl
  by_cases hc:c∈X.fs
  .obtain ⟨sl,q⟩:=slot c o (I.cne x c e) hc nch ho (I.freeC x c e)
   exact⟨_,q,hd⟩
  .exact ⟨o,keep c o (I.cne x c e) hc nch ho (I.freeC x c e),hd⟩
 refine⟨I.ok,I.os,hg,⟨fun b o e n hb hx=>?_,fun b o e n hb hx=>?_,fun b o e n hx=>?_,fun b o e hx=>?_,fun b xs e=>tups b xs (I.base.tups b xs e),fun b o xs e=>frzs b o xs (I.base.frzs b o xs e),fun b ps e=>?_⟩,?_,fun x c e=>?_,?_,fun x c e=>?_,fun p hp=>?_,hok,I.len⟩
 .exact keep b o (neL b o e) hb (neC b o e hx) (I.base.keep b o e n hb hx) (I.base.free b o e n hx)
 .obtain ⟨sl,e1⟩:=I.base.slot b o e n hb hx
  obtain⟨sl',e2⟩:=slot b _ (neL b o e) hb (neC b o e hx) e1 (I.base.free b o e n hx);exact⟨sl',e2⟩
 .obtain ⟨o',e1⟩:=I.base.there b o e hx
  exact free b o' (neC b o e hx) e1 (I.base.free b o e n hx)
 .obtain ⟨o',e1⟩:=I.base.there b o e hx
  exact there b o' (neC b o e hx) e1
 .obtain ⟨m1,e1⟩:=I.base.tbls b ps e
  obtain⟨m2,e2⟩:=tbls b _ e1;exact⟨m1++m2,by rw[e2,Array.append_assoc]⟩
 .obtain ⟨m,hn,hl⟩:=I.loc
  refine⟨m,ns m hn,fun i x v e1 e2 e3=>?_⟩;obtain⟨u,r,l⟩:=hl i x v e1 e2 e3;refine⟨u,r,?_⟩
  rcases l with l | ⟨k,c,e,z⟩
  .exact .inl l
  .exact .inr ⟨k,c,e,cellK x c e _ z⟩
 .obtain ⟨v,z⟩:=I.cell x c e
  exact⟨v,cellK x c e v z⟩
 .obtain ⟨m,⟨o,_,_,ho,_⟩,_⟩:=I.loc
  exact free _ o (fun z=>(hch _ z).2.1 rfl) ho I.free
 .obtain ⟨v,o,ho,hd⟩:=I.cell x c e
  exact free c o (fun z=>(hch c z).2.2.1 x c e rfl) ho (I.freeC x c e)
 .obtain ⟨e,n,ne,nf,d⟩:=I.pin p hp
  have nch:p.1∉ch:=fun z=>(hch p.1 z).2.2.2 p hp rfl;exact⟨keep p.1 p.2 ne nf nch e n,free p.1 p.2 nch e n,ne,nf,d⟩
theorem Inv.un {t':Nat}(I:Inv X pins σ H s)(u:Un X.fs [] H H' s.heap h')(hok:HOk X.prog X.w H' h'):Inv X pins σ H' { s with heap:=h',toks:=t' }:=by
 obtain⟨m,⟨o,es,ep,ho,r⟩,_⟩:=id I.loc;obtain⟨sl,hL⟩:=u.any ho I.free (by simp)
 exact I.step (g':=s.gens) (d':=s.drawn) (ch:=[]) (fun _ z=>nomatch z) (fun b o _ hb _ e n=>u.keep b o e n hb (by simp)) (fun b o _ hb _ e n=>u.slot b o e n hb (by simp)) (fun b o _ e n=>u.free b o e n (by simp)) (fun b o _ e=>u.there b o e (by simp)) u.tups u.frzs u.tbls (fun m' hm=>by
  obtain⟨o',es',ep',ho',r'⟩:=hm;rw[ho] at ho'; cases ho'
  exact⟨_,es',ep',hL,r'⟩) hok I.bare
theorem Inv.call {g':Array GenState}{t':Nat}{d':Drawn}{ch:List Addr}(I:Inv X pins σ H s)(u:Un (frs X.stack) ch H H' s.heap h')(hok:HOk X.prog X.w H' h')(hg:AllBare g')
  (hch:∀b∈ch,(b∈X.ex\/X.s₀.heap.objs.size<=b)/\b≠X.env.locals/\(∀x c,X.env.cells.lookup x=some c->c≠b)/\∀p∈X.pn++pins,p.1≠b) :
  Inv X pins σ H' { s with heap:=h',gens:=g',drawn:=d',toks:=t' }:=by
 obtain⟨m,⟨o,es,ep,ho,r⟩,_⟩:=id I.loc;obtain⟨sl,hL⟩:=u.any ho I.free fun z=>(hch _ z).2.1 rfl
 exact I.step (ch:=ch) hch (fun b o hL hb hc e n=>u.keep b o e n (fun z=>(List.mem_cons.mp (I.stkSub b z)).elim hL hb) hc) (fun b o _ _ hc e n=>u.any e n hc) (fun b o hc e n=>u.free b o e n hc) (fun b o hc e=>u.there b o e hc) u.tups u.frzs u.tbls (fun m' hm=>by
  obtain⟨o',es',ep',ho',r'⟩:=hm;rw[ho] at ho'; cases ho'
  exact⟨_,es',ep',hL,r'⟩) hok hg
theorem Inv.turned {t':Nat}{it:Addr}(I:Inv X pins σ H s)(k:∀b o,b≠it->s.heap.get? b=some o->h'.get? b=some o)(hn:H it=none)(hL:it≠X.env.locals)
  (h1:it∈X.ex\/X.s₀.heap.objs.size<=it) (h2:∀x c,X.env.cells.lookup x=some c->c≠it) (h3:∀p∈X.pn++pins,p.1≠it):Inv X pins σ H { s with heap:=h',toks:=t' }:=by
 have nit:∀b u,H b=some u->b≠it:=fun b u e z=>by rw[z,hn] at e; cases e
 refine I.step (g':=s.gens) (d':=s.drawn) (ch:=[it]) (fun b hb=>?_) (fun b o _ _ hc e _=>k b o (fun z=>hc (by simp[z])) e) (fun b o _ _ hc e _=>⟨o.slots,k b o (fun z=>hc (by simp[z])) e⟩) (fun _ _ _ _ n=>n)
  (fun b o hc e=>⟨o,k b o (fun z=>hc (by simp[z])) e⟩) (fun _ _ e=>e) (fun _ _ _ e=>e) (fun b ps e=>⟨#[],by rw[e]; simp⟩) (fun m hm=>?_) (fun b u e=>?_) I.bare
 .have e:b=it:=by simpa using hb
  subst e;exact⟨h1,hL,h2,h3⟩
 .obtain ⟨o,es,ep,ho,r⟩:=hm
  exact⟨o,es,ep,k _ o (Ne.symm hL) ho,r⟩
 .refine (I.hok b u e).stay (fun c v hc q=>k c v ?_ q) (fun _ q=>q) fun _ _ q=>q
  rcases hc with z | z
  .rw [z]; exact nit b u e
  .exact nit c _ z
theorem Inv.tok (I:Inv X pins σ H s)(t:Nat):Inv X pins σ H { s with toks:=t }:=I.un (h':=s.heap) (t':=t) Un.refl I.hok
theorem Inv.kept {t':Nat}(I:Inv X pins σ H s)(k:∀b u,s.heap.get? b=some u->h'.get? b=some u):Inv X pins σ H { s with heap:=h',toks:=t' }:=I.un (Un.kept k) (I.hok.kept k)
theorem Inv.laid {a:Addr}{o:HO}{t':Nat}(I:Inv X pins σ H s)(k:∀b u,s.heap.get? b=some u->h'.get? b=some u)(hp:s.heap.objs.size<=a)(new:ObjOk X.prog X.w (upd H a o) h' a o):
  Inv X pins σ (upd H a o) { s with heap:=h',toks:=t' }:=I.un (Un.laid k hp (I.hok.fresh hp)) (I.hok.laid k hp new)
theorem Inv.write {x e:Addr}{o:HO}{t':Nat}(I:Inv X pins σ H s)(mu:Mut (H x))(he:e=x\/H e=some (.own x))(k:∀b u,b≠e->s.heap.get? b=some u->h'.get? b=some u)(heo:∃u,h'.get? e=some u)
  (new:ObjOk X.prog X.w (upd H x o) h' x o):Inv X pins σ (upd H x o) { s with heap:=h',toks:=t' }:=I.un (Un.write mu he k heo) (I.hok.write mu he k heo new)
theorem Inv.weak {σ':List (Option V)}(I:Inv X pins σ H s)(hl:σ'.length=σ.length)(w:∀(i:Nat) v,σ'[i]?=some (some v)->σ[i]?=some (some v)):Inv X pins σ' H s :=
 ⟨I.ok,I.os,I.bare,I.base,let ⟨m,hn,hl'⟩:=I.loc; ⟨m,hn,fun i x v e1 e2 e3=>hl' i x v e1 (w i v e2) e3⟩,I.cell,I.free,I.freeC,I.pin,I.hok,hl.trans I.len⟩
theorem Inv.pins_of {pins':List (Addr×Obj)}(I:Inv X pins σ H s)(h:∀p∈pins',s.heap.get? p.1=some p.2/\H p.1=none/\p.1≠X.env.locals/\p.1∉X.fs/\∀v,p.2.data≠.cell v):Inv X pins' σ H s :=
 ⟨I.ok,I.os,I.bare,I.base,I.loc,I.cell,I.free,I.freeC,fun p hp=>(List.mem_append.mp hp).elim (fun z=>I.pin p (List.mem_append_left _ z)) (h p),I.hok,I.len⟩
theorem cT {N:List Str}(hN:N.Nodup){i j:Nat}{x:Str}(a:N[i]?=some x)(b:N[j]?=some x):i=j:=by
 obtain⟨h1,e1⟩:=List.getElem?_eq_some_iff.mp a;obtain⟨h2,e2⟩:=List.getElem?_eq_some_iff.mp b;exact(List.getElem_inj hN).mp (e1.trans e2.symm)
theorem qN {M:Model}{A:Around}{E:Value->Shared->Prop}{i:Nat}{x:Str}{v:V}{u:Value}{Q:Unit->Shared->Prop}(I:Inv X pins σ H s)(hN:X.N.Nodup)(hi:X.N[i]?=some x)(hx:Loc X.env.scope x)(r:RelV v u)
  (h:∀s',Inv X pins (σ.set i (some v)) H s'->(∃a,Heap.SameBut a s.heap s'.heap/\(a=X.env.locals\/X.env.cells.lookup x=some a))->Q () s') (hf:X.fn x=true\/X.env.scope.names.lookup x=some .local:=by first | exact .inl rfl | exact .inr rfl | assumption):wpAny M A (storeName X.env x u) Q E s:=by
 obtain⟨m,hn,hl⟩:=id I.loc;have hcls:(X.env.scope.kind==.class || (X.env.scope.kind==.module&&X.env.locals != X.env.globals))=false:=by rw[I.ok.kind]; rfl
 have hiσ:i < σ.length:=by rw[I.len]; exact(List.getElem?_eq_some_iff.mp hi).1
 have cne:=I.cne
 have tracked:∀{a:Addr} {h':Heap},(∃o,s.heap.get? a=some o/\H a=none)->Heap.SameBut a s.heap h'->HOk X.prog X.w H h':=fun {a h'} ha hs b ob e=>by
  obtain⟨_,_,hfree⟩:=ha;refine(I.hok b ob e).stay (fun c w' hc q=>(hs.2 c ?_).trans q) (fun _ q=>q) fun _ _ q=>q;rintro rfl
  rcases hc with rfl | hc
  .rw [hfree] at e; cases e
  .rw [hfree] at hc; cases hc
 rcases hx with hk | hk
 .refine wpAny_storeName_local hk hn (fun h' hn' hs=>?_) hcls
  obtain⟨oL,_,_,hoL,_⟩:=id hn;refine h _ ⟨I.ok,I.os,I.bare,⟨fun b o e n hb hx=>?_,fun b o e n hb hx=>?_,I.base.free,fun b o e hx=>?_,I.base.tups,I.base.frzs,I.base.tbls⟩,⟨_,hn',fun j y v' e1 e2 e3=>?_⟩,fun y c e=>?_,I.free,I.freeC,fun p hp=>?_,tracked ⟨oL,hoL,I.free⟩ hs,by simpa using I.len⟩ ⟨_,hs,.inl rfl⟩
  .exact (hs.2 b (Nat.ne_of_lt (Nat.lt_of_lt_of_le (Heap.lt_size e) I.ok.above))).trans (I.base.keep b o e n hb hx)
  .obtain ⟨sl,e1⟩:=I.base.slot b o e n hb hx
   exact⟨sl,(hs.2 b (Nat.ne_of_lt (Nat.lt_of_lt_of_le (Heap.lt_size e) I.ok.above))).trans e1⟩
  .obtain ⟨o',e1⟩:=I.base.there b o e hx
   exact⟨o',(hs.2 b (Nat.ne_of_lt (Nat.lt_of_lt_of_le (Heap.lt_size e) I.ok.above))).trans e1⟩
  .by_cases hj:j=i
   .subst hj
    rw[hi] at e1; cases e1
    rw[List.getElem?_set_self hiσ] at e2;cases e2;exact⟨u,r,.inl ⟨hk,by simp⟩⟩
   .rw [List.getElem?_set_ne (Ne.symm hj)] at e2
    obtain⟨u',r',q⟩:=hl j y v' e1 e2 e3;refine⟨u',r',?_⟩
    rcases q with ⟨k,e⟩ | ⟨k,c,e,z⟩
    .refine .inl ⟨k,?_⟩
     have:y≠x:=fun e=>hj (cT hN e1 (e▸hi))
     simp[this,e]
    .exact .inr ⟨k,c,e,z.sameBut hs (cne y c e)⟩
  .obtain ⟨w',z⟩:=I.cell y c e
   exact⟨w',z.sameBut hs (cne y c e)⟩
  .obtain ⟨e,n,ne,nf,d⟩:=I.pin p hp
   exact⟨(hs.2 p.1 ne).trans e,n,ne,nf,d⟩
 .have hfn:X.fn x=true:=by
   rcases hf with z | z
   .exact z
   .rw [z] at hk; cases hk
  obtain⟨c,hc⟩:=I.ok.has x (.inl hk);obtain⟨w',z⟩:=I.cell x c hc;refine wpAny_storeName_cell I.ok.kind hk hc z (fun h' hc' hs=>?_);obtain⟨oc,hoc,hocd⟩:=id z;refine h { s with heap:=h' } ⟨I.ok,I.os,I.bare,⟨fun b o e n hb hx=>?_,fun b o e n hb hx=>?_,I.base.free,fun b o e hx=>?_,I.base.tups,I.base.frzs,I.base.tbls⟩,⟨m,hn.sameBut hs (Ne.symm (cne x c hc)),fun j y v' e1 e2 e3=>?_⟩,fun y c' e=>?_,I.free,I.freeC,fun p hp=>?_,tracked ⟨oc,hoc,I.freeC x c hc⟩ hs,by simpa using I.len⟩ ⟨c,hs,.inr hc⟩
  .exact (hs.2 b (Nat.ne_of_lt (Nat.lt_of_lt_of_le (Heap.lt_size e) (I.ok.cab x c hfn hc)))).trans (I.base.keep b o e n hb hx)
  .obtain ⟨sl,e1⟩:=I.base.slot b o e n hb hx
   exact⟨sl,(hs.2 b (Nat.ne_of_lt (Nat.lt_of_lt_of_le (Heap.lt_size e) (I.ok.cab x c hfn hc)))).trans e1⟩
  .obtain ⟨o',e1⟩:=I.base.there b o e hx
   exact⟨o',(hs.2 b (Nat.ne_of_lt (Nat.lt_of_lt_of_le (Heap.lt_size e) (I.ok.cab x c hfn hc)))).trans e1⟩
  .by_cases hj:j=i
   .subst hj
    rw[hi] at e1; cases e1
    rw[List.getElem?_set_self hiσ] at e2;cases e2;exact⟨u,r,.inr ⟨.inl hk,c,hc,hc'⟩⟩
   .rw [List.getElem?_set_ne (Ne.symm hj)] at e2
    obtain⟨u',r',q⟩:=hl j y v' e1 e2 e3;refine⟨u',r',?_⟩
    rcases q with q | ⟨k,c',e,z'⟩
    .exact .inl q
    .refine .inr ⟨k,c',e,z'.sameBut hs ?_⟩
     rintro rfl;exact hj (cT hN e1 (I.ok.inj _ _ _ e hc▸hi))
  .by_cases hcc:c'=c
   .subst hcc; exact⟨_,hc'⟩
   .obtain ⟨w2,z2⟩:=I.cell y c' e
    exact⟨w2,z2.sameBut hs hcc⟩
  .obtain ⟨e,n,ne,nf,d⟩:=I.pin p hp
   refine⟨(hs.2 p.1 ?_).trans e,n,ne,nf,d⟩;intro q;rw[q,hoc] at e;have q':oc=p.2:=Option.some.inj e;exact d w' (by rw[<- q']; exact hocd)
theorem fS {M:Model}{A:Around}{E:Value->Shared->Prop}{i:Nat}{x:Str}{v:V}{u:Value}{Q:Unit->Shared->Prop}(I:Inv X pins σ H s)(hN:X.N.Nodup)(hi:X.N[i]?=some x)(hx:Loc X.env.scope x)(r:RelV v u)
  (h:∀s',Inv X pins (σ.set i (some v)) H s'->Q () s') (hf:X.fn x=true\/X.env.scope.names.lookup x=some .local:=by first | exact .inl rfl | exact .inr rfl | assumption):wpAny M A (storeName X.env x u) Q E s :=
 qN I hN hi hx r (fun s' I' _=>h s' I') hf
end
abbrev XK:=Value->Option Addr->Hp->Prop
abbrev St:=List (Option V)
abbrev VK:=V->Hp->Prop
abbrev TE:=St->Hp->VK->Prop
abbrev TT:=St->Hp->(Bool->Hp->Prop)->Prop
abbrev TA:=St->Hp->(List V->Hp->Prop)->Prop
structure fE where
 nx:St->Hp->Prop
 rt:VK
 bk:St->Hp->Prop:=fun _ _=>False
 ct:St->Hp->Prop:=fun _ _=>False
abbrev TS:=fE->St->Hp->Prop
def EP (X:Cx)(pins:List (Addr×Obj))(σ:St)(Q:VK)(u:Value)(s':Shared):Prop:=∃v H',Inv X pins σ H' s'/\RelV v u/\Q v H'
def TP (X:Cx)(pins:List (Addr×Obj))(σ:St)(Q:Bool->Hp->Prop)(b:Bool)(s':Shared):Prop:=∃H',Inv X pins σ H' s'/\Q b H'
def AP (X:Cx)(pins:List (Addr×Obj))(σ:St)(Q:List V->Hp->Prop)(us:List Value)(s':Shared):Prop:=∃vs H',Inv X pins σ H' s'/\Vals vs us/\Q vs H'
def SP (X:Cx)(pins:List (Addr×Obj))(D:fE)(f:Flow)(s':Shared):Prop :=
 match f with
 |.next=>∃σ' H',Inv X pins σ' H' s'/\D.nx σ' H'
 |.brk=>∃σ' H',Inv X pins σ' H' s'/\D.bk σ' H'
 |.cont=>∃σ' H',Inv X pins σ' H' s'/\D.ct σ' H'
 |.ret u=>∃v σ' H',Inv X pins σ' H' s'/\RelV v u/\D.rt v H'
def PE (X:Cx)(e:Expr)(t:TE):Prop :=
 ∀(pins:List (Addr×Obj)) (s:Shared) (σ:St) (H:Hp) (Q:VK),Inv X pins σ H s->t σ H Q->wpAny (model X.prog X.w) X.A (eval e X.env) (EP X pins σ Q) X.xe s
def PT (X:Cx)(e:Expr)(t:TT):Prop :=
 ∀(pins:List (Addr×Obj)) (s:Shared) (σ:St) (H:Hp) (Q:Bool->Hp->Prop),Inv X pins σ H s->t σ H Q->wpAny (model X.prog X.w) X.A (isTrue e X.env (eval e X.env)) (TP X pins σ Q) X.xe s
def PW (X:Cx)(e:Expr)(t:TT):Prop :=
 ∀(whole:Sem Value) (pins:List (Addr×Obj)) (s:Shared) (σ:St) (H:Hp) (Q:Bool->Hp->Prop),Inv X pins σ H s->t σ H Q->wpAny (model X.prog X.w) X.A (isTrue e X.env whole) (TP X pins σ Q) X.xe s
theorem PW.pt {X:Cx}{e:Expr}{t:TT}(h:PW X e t):PT X e t:=h _
def PA (X:Cx)(es:List Expr)(t:TA):Prop :=
 ∀(pos:Pos) (pins:List (Addr×Obj)) (s:Shared) (σ:St) (H:Hp) (Q:List V->Hp->Prop),Inv X pins σ H s->t σ H Q->wpAny (model X.prog X.w) X.A (spliced (backTo pos (starEach es X.env))) (AP X pins σ Q) X.xe s
def PS (X:Cx)(st:Stmt)(t:TS):Prop :=
 ∀(pins:List (Addr×Obj)) (s:Shared) (σ:St) (H:Hp) (D:fE),Inv X pins σ H s->t D σ H->wpAny (model X.prog X.w) X.A (exec st X.env) (SP X pins D) X.xe s
def PSs (X:Cx)(st:List Stmt)(t:TS):Prop :=
 ∀(pins:List (Addr×Obj)) (s:Shared) (σ:St) (H:Hp) (D:fE),Inv X pins σ H s->t D σ H->wpAny (model X.prog X.w) X.A (execs st X.env) (SP X pins D) X.xe s
theorem thn {α:Type}{t:Sem α}{Q Q':α->Shared->Prop}{M:Model}{A:Around}{E:Value->Shared->Prop}{s:Shared}(h:wpAny M A t Q E s)(hQ:∀a s,Q a s->Q' a s):wpAny M A t Q' E s:=wpAny_mono h hQ fun _ _ x=>x
section
variable {X:Cx}
theorem bin {a b:Expr}{ta tb:TE}(ha:PE X a ta)(hb:PE X b tb){pins:List (Addr×Obj)}{s:Shared}{σ:St}{H:Hp}{R:V->V->Hp->Prop}(I:Inv X pins σ H s)(h:ta σ H fun x H1=>tb σ H1 fun y H2=>R x y H2)
  {α:Type} {Q:α->Shared->Prop} {f:Value->Value->Sem α}
  (hf:∀v u s2 x y H2,Inv X pins σ H2 s2->RelV x v->RelV y u->R x y H2->wpAny (model X.prog X.w) X.A (f v u) Q X.xe s2) :
  wpAny (model X.prog X.w) X.A (eval a X.env) (fun v s₁=>wpAny (model X.prog X.w) X.A (eval b X.env) (fun u s₂=>wpAny (model X.prog X.w) X.A (f v u) Q X.xe s₂) X.xe s₁) X.xe s:=by
 refine thn (ha pins s σ H _ I h) fun v s1 ⟨x,H1,I1,r1,q1⟩=>?_;refine thn (hb pins s1 σ H1 _ I1 q1) fun u s2 ⟨y,H2,I2,r2,q2⟩=>?_;exact hf v u s2 x y H2 I2 r1 r2 q2
inductive IVar (i:Nat)(σ:St)(H:Hp)(Q:VK):Prop
 |mk (v:V) (h:σ[i]?=some (some v)) (q:Q v H):IVar i σ H Q
def tVar (i:Nat):TE:=fun σ H Q=>IVar i σ H Q
def tC (v:V):TE:=fun _ H Q=>Q v H
theorem ZW {i:Nat}{x:Str}{pos:Pos}(hN:X.N[i]?=some x)(hv:Vis X.env.scope x)(hd:(x==("__debug__" : Str))=false:=by decide)(hcd:(x==("__classdict__" : Str))=false:=by decide):PE X (.Name x pos) (tVar i):=by
 intro pins s σ H Q I h;obtain⟨v,e,h⟩:=h;obtain⟨m,hn,hl⟩:=I.loc;obtain⟨u,r,l⟩:=hl i x v hN e hv;have fin:EP X pins σ Q u s:=⟨v,H,I,r,h⟩
 rcases l with ⟨hk,hm⟩ | ⟨hk,c,hc,hcell⟩
 .exact wpAny_Name (wpAny_loadName_local I.ok.kind hk hn hm fin) hd
 .rcases hk with hk | hk
  .exact wpAny_Name (wpAny_loadName_cell I.ok.kind hk hc hcell fin) hd
  .exact wpAny_Name (wpAny_loadName_free I.ok.kind hk hc hcell fin hcd) hd
theorem pe_int {i j pos}:PE X (.Constant (.int i) j pos) (tC (.int i)):=fun _ _ _ H _ I h=>wpAny_Constant_int ⟨.int i,H,I.tok _,⟨_,rfl⟩,h⟩
theorem pe_bl {b j pos}:PE X (.Constant (.bool b) j pos) (tC (.bl b)):=fun _ _ _ H _ I h=>Constant_bool ⟨.bl b,H,I,rfl,h⟩
theorem pe_non {j pos}:PE X (.Constant .none j pos) (tC .non):=fun _ _ _ H _ I h=>Constant_none ⟨.non,H,I,rfl,h⟩
theorem pe_str {x j pos}:PE X (.Constant (.str x) j pos) (tC (.str x)):=fun _ _ _ H _ I h=>Calls.Constant_str ⟨.str x,H,I.tok _,⟨_,rfl⟩,h⟩
def Gl (X:Cx)(x:Str):Prop:=X.env.kindOf x=some .globalImplicit
theorem nC {E:Value->Shared->Prop}{pins:List (Addr×Obj)}{s:Shared}{σ:St}{H:Hp}{x:Str}{u:Value}{pos:Pos}{Q:Value->Shared->Prop}(I:Inv X pins σ H s)(hg:Gl X x)(hm:X.mg x=some u)(h:Q u s)
  (hd:(x==("__debug__" : Str))=false:=by decide):wpAny (model X.prog X.w) X.A (eval (.Name x pos) X.env) Q E s :=
 Calls.Name_function_global I.ok.kind hg (Calls.loadGlobal_global (by rw[I.ok.glob]; exact I.mod.glob.keeps I.bk) hm h) hd
theorem sC {E:Value->Shared->Prop}{pins:List (Addr×Obj)}{s:Shared}{σ:St}{H:Hp}{x:Str}{u:Value}{pos:Pos}{Q:Value->Shared->Prop}(I:Inv X pins σ H s)(hg:Gl X x)(hm:X.mg x=none)(hv:bootBuiltins x=some u)(h:Q u s)
  (hn:x ≠ "__name__":=by decide) (hd:(x==("__debug__" : Str))=false:=by decide):wpAny (model X.prog X.w) X.A (eval (.Name x pos) X.env) Q E s:=by
 obtain⟨mb,h1,h2⟩:=I.mod.blt;exact Calls.Name_function_global I.ok.kind hg (Calls.loadGlobal_builtin (by rw[I.ok.glob]; exact I.mod.glob.keeps I.bk) hm (by rw[I.ok.blt]; exact h1.keeps I.bk) ((h2 x hn).trans hv) h) hd
theorem pe_glob {x:Str}{v:V}{u:Value}{pos:Pos}(hg:Gl X x)(hm:X.mg x=some u)(r:RelV v u)(hd:(x==("__debug__" : Str))=false:=by decide):PE X (.Name x pos) (tC v) :=
 fun _ _ _ H _ I h=>nC I hg hm ⟨v,H,I,r,h⟩ hd
theorem pe_bltn {x:Str}{v:V}{u:Value}{pos:Pos}(hg:Gl X x)(hm:X.mg x=none)(hv:bootBuiltins x=some u)(r:RelV v u)(hn:x ≠ "__name__":=by decide)(hd:(x==("__debug__" : Str))=false:=by decide):PE X (.Name x pos) (tC v) :=
 fun _ _ _ H _ I h=>sC I hg hm hv ⟨v,H,I,r,h⟩ hn hd
variable {a b:Expr}{ta tb:TE}{pos:Pos}
inductive IBl (Q:Bool->Hp->Prop)(x:V)(H:Hp):Prop
 |mk (c:Bool) (h:x=.bl c) (q:Q c H):IBl Q x H
def tB (t:TE):TT:=fun σ H Q=>t σ H (IBl Q)
theorem pt_val {e:Expr}{t:TE}(h:PE X e t)(he:∀whole,isTrue e X.env whole=(do let v <- whole; standAt e.pos; holding [v] (truthy v)):=by intro _; rfl):PT X e (tB t):=by
 intro pins s σ H Q I hw;refine isTrue_plain (thn (h pins s σ H _ I hw) fun v s1 ⟨x,H1,I1,r1,q1⟩=>?_) (he _);obtain⟨d,rfl,q⟩:=q1;cases r1;exact wpAny_truthy_bool ⟨H1,I1,q⟩
variable {tA tB':TT}{rest:List Expr}
def tAnd (t u:TT):TT:=fun σ H Q=>t σ H fun c H1=>if c=true then u σ H1 Q else Q false H1
def tOr (t u:TT):TT:=fun σ H Q=>t σ H fun c H1=>if c=true then Q true H1 else u σ H1 Q
def tNot (t:TT):TT:=fun σ H Q=>t σ H fun c H1=>Q (!c) H1
theorem pw_and1 (ha:PT X a tA):PW X (.BoolOp .And [a] pos) tA:=by
 intro wh pins s σ H Q I h;refine isTrue_and (thn (ha pins s σ H Q I h) fun c s1 e=>?_)
 cases c with
 |true=>exact isTrue_and_nil e
 |false=>exact e
theorem pw_or1 (ha:PT X a tA):PW X (.BoolOp .Or [a] pos) tA:=by
 intro wh pins s σ H Q I h;refine isTrue_or (thn (ha pins s σ H Q I h) fun c s1 e=>?_)
 cases c with
 |false=>exact isTrue_or_nil e
 |true=>exact e
theorem pw_and (ha:PT X a tA)(hb:PW X (.BoolOp .And (b::rest) pos) tB'):PW X (.BoolOp .And (a::b::rest) pos) (tAnd tA tB'):=by
 intro wh pins s σ H Q I h;refine isTrue_and (thn (ha pins s σ H _ I h) fun c s1 ⟨H1,I1,q1⟩=>?_)
 cases c with
 |true=>exact hb wh pins s1 σ H1 Q I1 q1
 |false=>exact⟨H1,I1,q1⟩
theorem pw_or (ha:PT X a tA)(hb:PW X (.BoolOp .Or (b::rest) pos) tB'):PW X (.BoolOp .Or (a::b::rest) pos) (tOr tA tB'):=by
 intro wh pins s σ H Q I h;refine isTrue_or (thn (ha pins s σ H _ I h) fun c s1 ⟨H1,I1,q1⟩=>?_)
 cases c with
 |true=>exact⟨H1,I1,q1⟩
 |false=>exact hb wh pins s1 σ H1 Q I1 q1
theorem pt_not (ha:PT X a tA):PT X (.UnaryOp .Not a pos) (tNot tA):=by
 intro pins s σ H Q I h;exact isTrue_not (ha pins s σ H (fun c H1=>Q (!c) H1) I h)
def tAndV (ta tb:TE):TE:=fun σ H Q=>ta σ H fun x H1=>∃c,x=.bl c/\if c=true then tb σ H1 Q else Q (.bl false) H1
theorem pe_one {op}{t:TE}(h:PE X a t):PE X (.BoolOp op [a] pos) t:=fun pins s σ H Q I hw=>BoolOp_one (h pins s σ H Q I hw)
theorem pe_and (ha:PE X a ta)(hb:PE X (.BoolOp .And (b::rest) pos) tb):PE X (.BoolOp .And (a::b::rest) pos) (tAndV ta tb):=by
 intro pins s σ H Q I h;refine BoolOp_and (thn (ha pins s σ H _ I h) fun v s1 ⟨x,H1,I1,r1,q1⟩=>?_);obtain⟨c,rfl,q1⟩:=q1;cases r1;refine wpAny_truthy_bool ?_
 cases c with
 |true=>exact hb pins s1 σ H1 Q I1 q1
 |false=>exact⟨.bl false,H1,I1,rfl,q1⟩
def tIf (t:TT)(ta tb:TE):TE:=fun σ H Q=>t σ H fun c H1=>if c=true then ta σ H1 Q else tb σ H1 Q
theorem ZY {c:Expr}(hc:PT X c tA)(ha:PE X a ta)(hb:PE X b tb):PE X (.IfExp c a b pos) (tIf tA ta tb):=by
 intro pins s σ H Q I h;refine wpAny_IfExp (thn (hc pins s σ H _ I h) fun d s1 ⟨H1,I1,q1⟩=>?_)
 cases d with
 |true=>exact ha pins s1 σ H1 Q I1 q1
 |false=>exact hb pins s1 σ H1 Q I1 q1
end
def SqL (K:PySem.W.Frag)(H:Hp)(a:Addr)(xs:List V):Prop :=
 Rd H a (.lst xs) \/
  ∃(o:Obj) (its:Array Value) (n:Nat),K.lookup a=some o/\o.cls=.type "list"/\o.dict=none/\o.data=.seq its n/\its.size<=sizeLine/\Vals xs its.toList
def SqT (K:PySem.W.Frag)(H:Hp)(a:Addr)(xs:List V):Prop :=
 Rd H a (.tup xs) \/
  ∃(o:Obj) (its:Array Value) (n:Nat),K.lookup a=some o/\o.cls=.type "tuple"/\o.data=.seq its n/\its.size<=sizeLine/\Vals xs its.toList
def absV:Value->Option V
 |.none=>some .non
 |.bool b=>some (.bl b)
 |.int i _=>some (.int i)
 |.str x _=>some (.str x)
 |.bytes b _=>some (.byt b)
 |.float b _=>some (.flt b)
 |.ref a=>some (.ref a)
 |.type n=>some (.ty n)
 |_=>none
theorem RelV.abs {x:V}{u:Value}(r:RelV x u):absV u=some x:=by
 cases x with
 |non=>cases r; rfl
 |bl _=>cases r; rfl
 |int _=>obtain⟨t,rfl⟩:=r; rfl
 |str _=>obtain⟨t,rfl⟩:=r; rfl
 |byt _=>obtain⟨t,rfl⟩:=r; rfl
 |flt _=>obtain⟨t,rfl⟩:=r; rfl
 |ref _=>cases r; rfl
 |ty _=>cases r; rfl
theorem RelV.inj {x y:V}{u:Value}(r:RelV x u)(q:RelV y u):x=y:=Option.some.inj (r.abs.symm.trans q.abs)
theorem Vals.inj:∀{xs ys:List V}{us:List Value},Vals xs us->Vals ys us->xs=ys
 |_,_,_,.nil,.nil=>rfl
 |_,_,_,.cons r t,.cons r' t'=>by rw[r.inj r',Vals.inj t t']
section
variable {X:Cx}{pins:List (Addr×Obj)}{σ:St}{H:Hp}{s:Shared}{a:Addr}{xs ys:List V}
theorem SqL.of {K:PySem.W.Frag}(h:H a=some (.lst xs)):SqL K H a xs:=.inl (.inl h)
theorem SqT.of {K:PySem.W.Frag}(h:H a=some (.tup xs)):SqT K H a xs:=.inl (.inl h)
theorem Inv.list (I:Inv X pins σ H s)(h:SqL X.K H a xs):∃its:List Value,Vals xs its/\PlainL s.heap a its.toArray/\xs.length<=sizeLine:=by
 rcases h with h | ⟨o,its,n,hk,hc,hd,hs,hz,r⟩
 .obtain ⟨z,its,n,r,e⟩:=h.ok I.hok
  exact⟨its,r,⟨_,n,e,rfl,rfl,rfl⟩,z⟩
 .refine ⟨its.toList,r,⟨o,n,I.kIn a o hk,hc,hd,by simpa using hs⟩,?_⟩
  have e:=r.length
  simp only[Array.length_toList] at e
  omega
theorem Inv.tuple (I:Inv X pins σ H s)(h:SqT X.K H a xs):∃its:List Value,Vals xs its/\IsTup s.heap a its.toArray/\xs.length<=sizeLine:=by
 rcases h with h | ⟨o,its,n,hk,hc,hs,hz,r⟩
 .obtain ⟨z,its,r,p⟩:=h.ok I.hok
  exact⟨its,r,IsTupN.is p,z⟩
 .refine ⟨its.toList,r,⟨o,I.kIn a o hk,hc,n,by simpa using hs⟩,?_⟩
  have e:=r.length
  simp only[Array.length_toList] at e
  omega
theorem Inv.list_inj (I:Inv X pins σ H s)(h:SqL X.K H a xs)(h':SqL X.K H a ys):xs=ys:=by
 obtain⟨its,r,⟨o,n,e,_,_,d⟩,_⟩:=I.list h;obtain⟨its',r',⟨o',n',e',_,_,d'⟩,_⟩:=I.list h';rw[e] at e'; cases e'
 rw[d] at d';injection d' with d1 _
 have:its=its':=by simpa using congrArg Array.toList d1
 subst this;exact r.inj r'
theorem Inv.tuple_inj (I:Inv X pins σ H s)(h:SqT X.K H a xs)(h':SqT X.K H a ys):xs=ys:=by
 obtain⟨its,r,⟨o,e,_,n,d⟩,_⟩:=I.tuple h;obtain⟨its',r',⟨o',e',_,n',d'⟩,_⟩:=I.tuple h';rw[e] at e'; cases e'
 rw[d] at d';injection d' with d1 _
 have:its=its':=by simpa using congrArg Array.toList d1
 subst this;exact r.inj r'
end
abbrev Cx.wish (X:Cx)(E:Value->Shared->Prop):Cx:={ X with xe:=E }
abbrev Cx.nox (X:Cx):Cx:=X.wish fun _ _=>False
theorem Cx.Ok.wish {X:Cx}(ok:X.Ok)(E:Value->Shared->Prop):(X.wish E).Ok :=
 ⟨ok.mod,ok.kind,ok.glob,ok.blt,ok.above,ok.inj,ok.has,ok.cab,ok.hd,ok.frames,ok.stk,ok.exf,ok.bs,ok.bsz,ok.noex,ok.exfs,ok.funs,ok.frf⟩
theorem Cx.Ok.unwish {X:Cx}{E:Value->Shared->Prop}(ok:(X.wish E).Ok):X.Ok :=
 ⟨ok.mod,ok.kind,ok.glob,ok.blt,ok.above,ok.inj,ok.has,ok.cab,ok.hd,ok.frames,ok.stk,ok.exf,ok.bs,ok.bsz,ok.noex,ok.exfs,ok.funs,ok.frf⟩
section
variable {X:Cx}{pins:List (Addr×Obj)}{σ:St}{H:Hp}{s:Shared}{E:Value->Shared->Prop}
theorem Inv.wish (I:Inv X pins σ H s)(E:Value->Shared->Prop):Inv (X.wish E) pins σ H s:=⟨I.ok.wish E,I.os,I.bare,I.base,I.loc,I.cell,I.free,I.freeC,I.pin,I.hok,I.len⟩
theorem Inv.unwish (I:Inv (X.wish E) pins σ H s):Inv X pins σ H s:=⟨I.ok.unwish,I.os,I.bare,I.base,I.loc,I.cell,I.free,I.freeC,I.pin,I.hok,I.len⟩
theorem SP.unwish {D:fE}{f:Flow}{s':Shared}(h:SP (X.wish E) pins D f s'):SP X pins D f s':=by
 cases f with
 |next=>obtain⟨σ',H',I,q⟩:=h; exact⟨σ',H',I.unwish,q⟩
 |brk=>obtain⟨σ',H',I,q⟩:=h; exact⟨σ',H',I.unwish,q⟩
 |cont=>obtain⟨σ',H',I,q⟩:=h; exact⟨σ',H',I.unwish,q⟩
 |ret u=>obtain⟨v,σ',H',I,r,q⟩:=h; exact⟨v,σ',H',I.unwish,r,q⟩
theorem PSs.nox {st:List Stmt}{t:TS}(h:PSs X.nox st t):PSs X st t:=fun pins s σ H D I hw =>
 wpAny_mono (h pins s σ H D (I.wish _) hw) (fun _ _ q=>q.unwish) fun _ _ z=>False.elim z
end
section
variable {X:Cx}{st:Stmt}{rest:List Stmt}{t u:TS}{e:Expr}{te:TE}{pos:Pos}
def tNext:TS:=fun D σ H=>D.nx σ H
def tSeq (t u:TS):TS:=fun D σ H=>t { D with nx:=u D } σ H
theorem pss_nil:PSs X [] tNext:=fun _ _ σ H _ I h=>wpAny_execs_nil ⟨σ,H,I,h⟩
theorem ZP (h1:PS X st t)(h2:PSs X rest u):PSs X (st::rest) (tSeq t u):=by
 intro pins s σ H D I h;refine wpAny_execs_cons (thn (h1 pins s σ H { D with nx:=u D } I h) fun f s1 q=>?_)
 cases f with
 |next =>
  obtain⟨σ',H',I',q⟩:=q;exact h2 pins s1 σ' H' D I' q
 |ret v=>exact q
 |brk=>exact q
 |cont=>exact q
theorem pss_one (h1:PS X st t):PSs X [st] t:=by
 intro pins s σ H D I h;refine wpAny_execs_cons (thn (h1 pins s σ H D I h) fun f s1 q=>?_)
 cases f with
 |next=>exact wpAny_execs_nil q
 |ret v=>exact q
 |brk=>exact q
 |cont=>exact q
theorem Inv.quiet {pins:List (Addr×Obj)}{σ:St}{H:Hp}{s:Shared}(I:Inv X pins σ H s):interactive X.env=false:=by simp[interactive,I.ok.kind]
def tDrop (te:TE):TS:=fun D σ H=>te σ H fun _ H1=>D.nx σ H1
theorem ps_expr (he:PE X e te)(hs:swapsWith e none pos.line X.env=pure false:=by rfl):PS X (.Expr e pos) (tDrop te):=by
 intro pins s σ H D I h;exact wpAny_Expr_any (thn (he pins s σ H _ I h) fun v s1 ⟨x,H1,I1,r1,q1⟩=>⟨σ,H1,I1,q1⟩) I.quiet hs
def tRet (te:TE):TS:=fun D σ H=>te σ H D.rt
theorem ps_ret (he:PE X e te):PS X (.Return (some e) pos) (tRet te):=by
 intro pins s σ H D I h;exact wpAny_Return_some (thn (he pins s σ H _ I h) fun v s1 ⟨x,H1,I1,r1,q1⟩=>⟨x,σ,H1,I1,r1,q1⟩)
def tIfS (c:TT)(t u:TS):TS:=fun D σ H=>c σ H fun b H1=>if b=true then t D σ H1 else u D σ H1
theorem ps_if {c:Expr}{a b:List Stmt}{tc:TT}(hc:PT X c tc)(ha:PSs X a t)(hb:PSs X b u):PS X (.If c a b pos) (tIfS tc t u):=by
 intro pins s σ H D I h;refine wpAny_If (thn (hc pins s σ H _ I h) fun d s1 ⟨H1,I1,q1⟩=>?_)
 cases d with
 |true=>exact ha pins s1 σ H1 D I1 q1
 |false=>exact hb pins s1 σ H1 D I1 q1
end
abbrev TG:=V->St->Hp->(St->Hp->Prop)->Prop
abbrev TGs:=List V->St->Hp->(St->Hp->Prop)->Prop
def PG (X:Cx)(target:Expr)(t:TG):Prop :=
 ∀(pins:List (Addr×Obj)) (s:Shared) (σ:St) (H:Hp) (v:V) (u:Value) (Q:St->Hp->Prop),Inv X pins σ H s->RelV v u->t v σ H Q ->
  wpAny (model X.prog X.w) X.A (assign target X.env u) (fun _ s'=>∃σ' H',Inv X pins σ' H' s'/\Q σ' H') X.xe s
def PGs (X:Cx)(ts:List Expr)(t:TGs):Prop :=
 ∀(pins:List (Addr×Obj)) (s:Shared) (σ:St) (H:Hp) (vs:List V) (us:List Value) (Q:St->Hp->Prop),Inv X pins σ H s->Vals vs us->t vs σ H Q ->
  wpAny (model X.prog X.w) X.A (assignInOrder ((assignEach ts X.env).map (·.2)) us) (fun _ s'=>∃σ' H',Inv X pins σ' H' s'/\Q σ' H') X.xe s
abbrev TSet:=V->V->V->Hp->(Hp->Prop)->Prop
def PSet (X:Cx)(t:TSet):Prop :=
 ∀(pins:List (Addr×Obj)) (s:Shared) (σ:St) (H:Hp) (o i v:V) (ov iv u:Value) (Q:Hp->Prop),Inv X pins σ H s->RelV o ov->RelV i iv->RelV v u->t o i v H Q ->
  wpAny (model X.prog X.w) X.A (setItem ov iv u) (fun _ s'=>∃H',Inv X pins σ H' s'/\Q H') X.xe s
section
variable {X:Cx}{pos:Pos}
def mY (i:Nat):TG:=fun v σ H Q=>Q (σ.set i (some v)) H
theorem xM {i:Nat}{x:Str}(hN:X.N.Nodup)(hi:X.N[i]?=some x)(hx:Loc X.env.scope x)(hf:X.fn x=true\/X.env.scope.names.lookup x=some .local:=by first | exact .inl rfl | exact .inr rfl | assumption):PG X (.Name x pos) (mY i):=by
 intro pins s σ H v u Q I r h;exact wpAny_assign_Name (fS I hN hi hx r (fun s' I'=>⟨_,H,I',h⟩) hf)
def gNil:TGs:=fun vs σ H Q=>vs=[]/\Q σ H
def bP (t:TG)(u:TGs):TGs:=fun vs σ H Q=>∃v r,vs=v::r/\t v σ H fun σ' H'=>u r σ' H' Q
theorem Qu:PGs X [] gNil:=by
 intro pins s σ H vs us Q I r h;obtain⟨e,h⟩:=h;subst e;cases r;exact assignInOrder_nil ⟨σ,H,I,h⟩
theorem sL {e:Expr}{es:List Expr}{t:TG}{u:TGs}(h1:PG X e t)(h2:PGs X es u)
  (hs:(assignEach (e::es) X.env).map (·.2)=assign e X.env::(assignEach es X.env).map (·.2):=by rfl):PGs X (e::es) (bP t u):=by
 intro pins s σ H vs us Q I r h;obtain⟨v,vr,e1,h⟩:=h;subst e1
 cases r with
 |cons r rr =>
  rw[hs];refine assignInOrder_cons (thn (h1 pins s σ H _ _ _ I r h) fun _ s1 ⟨σ1,H1,I1,q1⟩=>?_);exact h2 pins s1 σ1 H1 _ _ Q I1 rr q1
def gTup (K:PySem.W.Frag)(n:Nat)(t:TGs):TG:=fun v σ H Q=>∃a xs,v=.ref a/\SqT K H a xs/\xs.length=n/\t xs σ H Q
theorem ZV {es:List Expr}{k:Nat}{t:TGs}{n:Nat}(hc:X.calm=true)(h:PGs X es t)
  (hn:(assignEach es X.env).length=n:=by rfl) (hst:(assignEach es X.env).findIdx? (·.1)=none:=by rfl):PG X (.Tuple es k pos) (gTup X.K n t):=by
 intro pins s σ H v u Q I r hw;obtain⟨a,xs,e1,hq,hl,hw⟩:=hw;subst e1;cases r;obtain⟨its,rv,ht,hz⟩:=I.tuple hq;refine assign_Tuple_tuple (I.ok.hd hc) ht (by simp[hn,<- hl,rv.length]) hst fun h' hx=>?_;have I1:Inv X pins σ H { s with heap:=h' }:=I.kept (t':=s.toks) fun b o e=>hx b o (Nat.ne_of_lt (Heap.lt_size e)) e;exact h pins _ σ H xs _ Q I1 (by simpa using rv) hw
def gSub (to ti:TE)(t:TSet):TG:=fun v σ H Q=>to σ H fun o H1=>ti σ H1 fun i H2=>t o i v H2 fun H3=>Q σ H3
theorem pg_sub {o i:Expr}{to ti:TE}{t:TSet}(ho:PE X o to)(hi:PE X i ti)(hs:PSet X t)
  (ha:∀v,assign (.Subscript o i pos) X.env v=(do
   let ov <- holding [v] (eval o X.env)
   let iv <- holding [v,ov] (eval i X.env)
   standAt pos
   holding [v,ov,iv] (setItem ov iv v)
   release [v,ov,iv] []):=by intro _; rfl):PG X (.Subscript o i pos) (gSub to ti t):=by
 intro pins s σ H v u Q I r h;rw[ha];refine wpAny_bind (wpAny_holding (thn (ho pins s σ H _ I h) fun ov s1 ⟨x,H1,I1,r1,q1⟩=>?_));refine wpAny_bind (wpAny_holding (thn (hi pins s1 σ H1 _ I1 q1) fun iv s2 ⟨y,H2,I2,r2,q2⟩=>?_));refine wpAny_bind (wpAny_standAt (wpAny_bind (wpAny_holding (thn (hs pins s2 σ H2 x y v ov iv u _ I2 r1 r2 r q2) fun _ s3 ⟨H3,I3,q3⟩=>?_))));exact wpAny_release ⟨σ,H3,I3,q3⟩
def Zv (te:TE)(g:TG):TS:=fun D σ H=>te σ H fun x H1=>g x σ H1 D.nx
theorem ps_asg {tg e:Expr}{te:TE}{g:TG}(he:PE X e te)(hg:PG X tg g)(hs:swapsWithSole [tg] e pos.line X.env=pure false:=by rfl)(hw:swappedStores [tg] e X.env=pure none:=by rfl)
  (h1:(assignEach [tg] X.env).map (·.2)=[assign tg X.env]:=by rfl):PS X (.Assign [tg] e pos) (Zv te g):=by
 intro pins s σ H D I h;refine wpAny_Assign_stores (thn (he pins s σ H _ I h) fun v s1 ⟨x,H1,I1,r1,q1⟩=>?_) hs hw;rw[h1];exact thn (hg pins s1 σ H1 x v _ I1 r1 q1) fun _ s2 q=>q
theorem ps_set {i:Nat}{x:Str}{e:Expr}{te:TE}{pos':Pos}(hN:X.N.Nodup)(hi:X.N[i]?=some x)(hx:Loc X.env.scope x)(he:PE X e te)(hs:swapsWith e (some (.Name x pos')) pos.line X.env=pure false:=by rfl)(hf:X.fn x=true\/X.env.scope.names.lookup x=some .local:=by first | exact .inl rfl | exact .inr rfl | assumption):
  PS X (.Assign [.Name x pos'] e pos) (Zv te (mY i)):=by
 intro pins s σ H D I h;refine wpAny_Assign_Name (thn (he pins s σ H _ I h) fun v s1 ⟨y,H1,I1,r1,q1⟩=>?_) hs;exact fS I1 hN hi hx r1 (fun s2 I2=>⟨_,H1,I2,q1⟩) hf
end
structure It where
 go:Nat->Hp->Prop
 yld:Nat->Hp->V->Hp->Prop
 stop:Nat->Hp->Prop
def mE (X:Cx)(pins:List (Addr×Obj))(H:Hp)(b:Addr):Prop :=
 H b=none/\b≠X.env.locals/\b∉X.fs/\(b∈X.ex\/X.s₀.heap.objs.size<=b)/\(∀x c,X.env.cells.lookup x=some c->c≠b)/\∀p∈X.pn++pins,p.1≠b
theorem Inv.fpOk {X:Cx}{pins:List (Addr×Obj)}{σ:St}{H H':Hp}{s:Shared}{b:Addr}(I:Inv X pins σ H s)(hb:s.heap.objs.size<=b)(hn:H' b=none):mE X pins H' b:=by
 refine⟨hn,Nat.ne_of_gt (Nat.lt_of_lt_of_le I.lt hb),I.nofs hb,.inr (Nat.le_trans I.sz hb),fun x c e z=>?_,fun p hp z=>?_⟩
 .obtain ⟨v,q⟩:=I.cell x c e
  exact absurd (Nat.lt_of_lt_of_le q.lt (by rw[z]; exact hb)) (Nat.lt_irrefl _)
 .exact absurd (Nat.lt_of_lt_of_le (Heap.lt_size (I.pin p hp).1) (by rw[z]; exact hb)) (Nat.lt_irrefl _)
structure X9 (P:Program)(w:World)(K:PySem.W.Frag)(tg:Expr)(J:It)(fp:List Addr)(it:Addr)(tn:Nat->Heap->Prop):Prop where
 mem:it∈fp
 obj:∀i h,tn i h->∀b∈fp,∃o,h.get? b=some o/\∀v,o.data≠.cell v
 keep:∀i h h',tn i h->(∀b∈fp,∀o,h.get? b=some o->h'.get? b=some o)->tn i h'
 item:∀(X:Cx),X.prog=P->X.w=w->X.K=K->X.calm=true->∀(i:Nat) (pins:List (Addr×Obj)) (s:Shared) (σ:St) (H:Hp) (E:Value->Shared->Prop),Inv X pins σ H s->(∀b∈fp,mE X pins H b)->tn i s.heap->J.go i H ->
  wpAny (model P w) X.A (pyNext (.ref it)) (fun r s1=>∃u,r=some u /\
   wpAny (model P w) X.A (letOwnedTupleGo tg (.ref it) u) (fun _ s2=>∃x H',Inv X pins σ H' s2/\RelV x u/\J.yld i H x H'/\tn (i+1) s2.heap/\∀b∈fp,H' b=none) E s1) E s
 done:∀(X:Cx),X.prog=P->X.w=w->X.K=K->X.calm=true->∀(i:Nat) (pins:List (Addr×Obj)) (s:Shared) (σ:St) (H:Hp) (E:Value->Shared->Prop),Inv X pins σ H s->(∀b∈fp,mE X pins H b)->tn i s.heap->J.stop i H ->
  wpAny (model P w) X.A (pyNext (.ref it)) (fun r s1=>r=none/\Inv X pins σ H s1) E s
 self:∀(A:Around) (i:Nat) (s:Shared) (Q:Value->Shared->Prop) (E:Value->Shared->Prop),tn i s.heap->Q (.ref it) s->wpAny (model P w) A (pyIter (.ref it)) Q E s
abbrev TI:=St->Hp->(It->Hp->Prop)->Prop
def PIE (X:Cx)(pins:List (Addr×Obj))(σ:St)(tg:Expr)(R:It->Hp->Prop)(itv:Value)(s2:Shared):Prop :=
 ∃(it:Addr) (fp:List Addr) (tn:Nat->Heap->Prop) (J:It) (H':Hp),itv=.ref it/\Inv X pins σ H' s2/\X9 X.prog X.w X.K tg J fp it tn/\tn 0 s2.heap/\(∀b∈fp,mE X pins H' b)/\R J H'
def PI (X:Cx)(tg iter:Expr)(wi:TI):Prop :=
 ∀(pins:List (Addr×Obj)) (s:Shared) (σ:St) (H:Hp) (R:It->Hp->Prop),Inv X pins σ H s->wi σ H R ->
  wpAny (model X.prog X.w) X.A (eval iter X.env) (fun v s1=>wpAny (model X.prog X.w) X.A (pyIter v) (PIE X pins σ tg R) X.xe s1) X.xe s
theorem QH {M:Model}{A:Around}{E:Value->Shared->Prop}{s:Shared}{tg:Expr}{it:Addr}{u:Value}{o:Obj}{n:String}{vs:Array Value}{Q:Unit->Shared->Prop}(ho:s.heap.get? it=some o)(hc:o.cls=.type n)(hd:o.data=.fields vs)
  (hn:["enumerate","zip","dict_itemiterator","dict_reverseitemiterator","odict_iterator","itertools.zip_longest","itertools.pairwise"].contains n=false) (hQ:Q () s):wpAny M A (letOwnedTupleGo tg (.ref it) u) Q E s:=by
 unfold letOwnedTupleGo
 cases tg<;>first
  |exact wpAny_pure hQ
  | (cases u<;>first
    |exact wpAny_pure hQ
    | (refine wpAny_bind (wpAny_load ho ?_)
       rw[hc,hd];show wpAny M A (if (["enumerate","zip","dict_itemiterator","dict_reverseitemiterator","odict_iterator","itertools.zip_longest","itertools.pairwise"].contains n&&vs[0]?==some (rawInt _))=true then _ else _) Q E s;rw[if_neg (by intro h; rw[hn,Bool.false_and] at h; cases h)]
       exact wpAny_pure hQ))
def Itl (K:PySem.W.Frag)(a:Addr):It :=
 ⟨fun i H=>∃xs x,SqL K H a xs/\xs[i]?=some x,fun i H x H'=>H'=H/\∀xs,SqL K H a xs->xs[i]?=some x,fun i H=>∃xs,SqL K H a xs/\xs.length<=i⟩
def Itt (K:PySem.W.Frag)(a:Addr):It :=
 ⟨fun i H=>∃xs x,SqT K H a xs/\xs[i]?=some x,fun i H x H'=>H'=H/\∀xs,SqT K H a xs->xs[i]?=some x,fun i H=>∃xs,SqT K H a xs/\xs.length<=i⟩
def Itr (lo:Int)(n:Nat):It:=⟨fun i _=>i < n,fun i H x H'=>H'=H/\x=.int (lo+i),fun i _=>n<=i⟩
theorem Q9 {P:Program}{w:World}{K:PySem.W.Frag}{tg:Expr}(a it:Addr):X9 P w K tg (Itl K a) [it] it (fun i h=>h.IsListIter it a i) where
 mem:=by simp
 obj:=fun i h st b hb=>by
  have e:b=it:=by simpa using hb
  subst e;obtain⟨o,e,c,d⟩:=st;exact⟨o,e,fun v z=>by rw[d] at z; cases z⟩
 keep:=fun i h h' st k=>st.at fun o e=>k it (by simp) o e
 item:=by
  intro X hP hw hK hc i pins s σ H E I hf st hg;subst hP hw hK;obtain⟨xs,x,hq,hx⟩:=hg;obtain⟨its,rv,p,hz⟩:=I.list hq;obtain⟨u,hu,ru⟩:=rv.get hx;obtain⟨f0,f1,f2,f3,f4,f5⟩:=hf it (by simp);refine wpAny_pyNext_list_item st p.isList (x:=u) (by simpa using hu) fun h' st' sb=>?_;have I1:Inv X pins σ H { s with heap:=h' }:=I.turned (t':=s.toks) (fun b o hb e=>(sb.2 b hb).trans e) f0 f1 f3 f4 f5;obtain⟨o,e,c,d⟩:=id st'
  exact⟨u,rfl,QH (s:={ s with heap:=h' }) e c d (by decide) ⟨x,H,I1,ru,⟨rfl,fun ys hy=>by rw[I.list_inj hy hq]; exact hx⟩,st',fun b hb=>(hf b hb).1⟩⟩
 done:=by
  intro X hP hw hK hc i pins s σ H E I hf st hg;subst hP hw hK;obtain⟨xs,hq,hx⟩:=hg;obtain⟨its,rv,p,hz⟩:=I.list hq;obtain⟨f0,f1,f2,f3,f4,f5⟩:=hf it (by simp);have hl:=rv.length;exact wpAny_pyNext_list_end (I.ok.hd hc) st p.isList (by simp; omega) fun h' eb=>⟨rfl,I.turned (t':=s.toks) (fun b o hb e=>eb b o hb e) f0 f1 f3 f4 f5⟩
 self:=fun _ _ _ _ _ st h=>wpAny_pyIter_listiter st h
theorem dE {P:Program}{w:World}{K:PySem.W.Frag}{tg:Expr}(a it:Addr):X9 P w K tg (Itt K a) [it] it (fun i h=>h.IsTupleIter it a i) where
 mem:=by simp
 obj:=fun i h st b hb=>by
  have e:b=it:=by simpa using hb
  subst e;obtain⟨o,e,c,d⟩:=st;exact⟨o,e,fun v z=>by rw[d] at z; cases z⟩
 keep:=fun i h h' st k=>st.at fun o e=>k it (by simp) o e
 item:=by
  intro X hP hw hK hc i pins s σ H E I hf st hg;subst hP hw hK;obtain⟨xs,x,hq,hx⟩:=hg;obtain⟨its,rv,p,hz⟩:=I.tuple hq;obtain⟨u,hu,ru⟩:=rv.get hx;obtain⟨f0,f1,f2,f3,f4,f5⟩:=hf it (by simp);refine wpAny_pyNext_tuple_item st (show s.heap.IsTuple a its.toArray from p) (x:=u) (by simpa using hu) fun h' st' sb=>?_;have I1:Inv X pins σ H { s with heap:=h' }:=I.turned (t':=s.toks) (fun b o hb e=>(sb.2 b hb).trans e) f0 f1 f3 f4 f5
  obtain⟨o,e,c,d⟩:=id st';exact⟨u,rfl,QH (s:={ s with heap:=h' }) e c d (by decide) ⟨x,H,I1,ru,⟨rfl,fun ys hy=>by rw[I.tuple_inj hy hq]; exact hx⟩,st',fun b hb=>(hf b hb).1⟩⟩
 done:=by
  intro X hP hw hK hc i pins s σ H E I hf st hg;subst hP hw hK;obtain⟨xs,hq,hx⟩:=hg;obtain⟨its,rv,p,hz⟩:=I.tuple hq;obtain⟨f0,f1,f2,f3,f4,f5⟩:=hf it (by simp);have hl:=rv.length;exact wpAny_pyNext_tuple_end (I.ok.hd hc) st (show s.heap.IsTuple a its.toArray from p) (by simp; omega) fun h' eb=>⟨rfl,I.turned (t':=s.toks) (fun b o hb e=>eb b o hb e) f0 f1 f3 f4 f5⟩
 self:=fun _ _ _ _ _ st h=>wpAny_pyIter_tupleiter st h
theorem cE {P:Program}{w:World}{K:PySem.W.Frag}{tg:Expr}(it:Addr)(lo:Int)(n:Nat):X9 P w K tg (Itr lo n) [it] it (fun i h=>IsRangeIter h it (lo+(i:Nat) * 1) ((n:Int) - (i:Nat)) 1) where
 mem:=by simp
 obj:=fun i h st b hb=>by
  have e:b=it:=by simpa using hb
  subst e
  exact⟨_,st,fun v z=>by
   have z':Data.fields _=Data.cell v:=z
   cases z'⟩
 keep:=fun i h h' st k=>k it (by simp) _ st
 item:=by
  intro X hP hw hK hc i pins s σ H E I hf st hg;subst hP hw hK;obtain⟨f0,f1,f2,f3,f4,f5⟩:=hf it (by simp);have W:=Walks.range (prog:=X.prog) (w:=X.w) (I.ok.hd hc) it lo 1 n;refine W.item i s _ _ hg st fun v h' tk hv st' kk=>?_;obtain⟨t,rfl⟩:=hv;have I1:Inv X pins σ H { s with heap:=h',toks:=tk }:=I.turned (fun b o hb e=>kk b o (by simpa using hb) e) f0 f1 f3 f4 f5;refine⟨_,rfl,QH (s:={ s with heap:=h',toks:=tk }) (n:="range_iterator") st' rfl rfl (by decide) ⟨.int (lo+i),H,I1,⟨t,?_⟩,⟨rfl,rfl⟩,st',fun b hb=>(hf b hb).1⟩⟩
  rw[Int.mul_one]
 done:=by
  intro X hP hw hK hc i pins s σ H E I hf st hg;subst hP hw hK;obtain⟨f0,f1,f2,f3,f4,f5⟩:=hf it (by simp);exact wpAny_pyNext_range_end (I.ok.hd hc) st (by have:n<=i:=hg; omega) fun h' eb=>⟨rfl,I.turned (t':=s.toks) (fun b o hb e=>eb b o hb e) f0 f1 f3 f4 f5⟩
 self:=fun _ _ _ _ _ st h=>wpAny_pyIter_rangeiter st h
section
variable {X:Cx}{tg:Expr}
def iList (K:PySem.W.Frag)(tl:TE):TI:=fun σ H R=>tl σ H fun x H1=>∃a,x=.ref a/\(∃xs,SqL K H1 a xs)/\R (Itl K a) H1
def iTup (K:PySem.W.Frag)(tl:TE):TI:=fun σ H R=>tl σ H fun x H1=>∃a,x=.ref a/\(∃xs,SqT K H1 a xs)/\R (Itt K a) H1
theorem pi_list {l:Expr}{tl:TE}(hl:PE X l tl):PI X tg l (iList X.K tl):=by
 intro pins s σ H R I h;refine thn (hl pins s σ H _ I h) fun v s1 ⟨x,H1,I1,r1,q1⟩=>?_;obtain⟨a,e,⟨xs,hq⟩,q⟩:=q1;subst e;cases r1;obtain⟨its,rv,p,hz⟩:=I1.list hq;refine wpAny_pyIter_list p.isList ?_;refine⟨s1.heap.objs.size,[s1.heap.objs.size],_,_,H1,rfl,I1.kept (t':=s1.toks) fun b o e=>Heap.get?_push_of_some _ e,Q9 a _,⟨_,Heap.get?_push_size _ rfl,rfl,rfl⟩,fun b hb=>?_,q⟩;have e:b=s1.heap.objs.size:=by simpa using hb
 subst e;exact I1.fpOk (Nat.le_refl _) (I1.hok.fresh (Nat.le_refl _))
theorem pi_tup {l:Expr}{tl:TE}(hl:PE X l tl):PI X tg l (iTup X.K tl):=by
 intro pins s σ H R I h;refine thn (hl pins s σ H _ I h) fun v s1 ⟨x,H1,I1,r1,q1⟩=>?_;obtain⟨a,e,⟨xs,hq⟩,q⟩:=q1;subst e;cases r1;obtain⟨its,rv,p,hz⟩:=I1.tuple hq;refine wpAny_pyIter_tuple (show s1.heap.IsTuple a its.toArray from p) ?_;refine⟨s1.heap.objs.size,[s1.heap.objs.size],_,_,H1,rfl,I1.kept (t':=s1.toks) fun b o e=>Heap.get?_push_of_some _ e,dE a _,⟨_,Heap.get?_push_size _ rfl,rfl,rfl⟩,fun b hb=>?_,q⟩
 have e:b=s1.heap.objs.size:=by simpa using hb
 subst e;exact I1.fpOk (Nat.le_refl _) (I1.hok.fresh (Nat.le_refl _))
theorem ZF {pins:List (Addr×Obj)}{σ:St}{H:Hp}{s:Shared}{R:It->Hp->Prop}{E:Value->Shared->Prop}{lo hi:Int}{t u v:Tok}{tk:Nat}(I:Inv X pins σ H s)(h1 : -(2 ^ 62)<=lo)(h2:lo < 2 ^ 62)(h3 : -(2 ^ 62)<=hi)(h4:hi < 2 ^ 62)
  (q:R (Itr lo (hi - lo).toNat) H):wpAny (model X.prog X.w) X.A (pyIter (.ref s.heap.objs.size)) (PIE X pins σ tg R) E { s with heap:=s.heap.push { cls:=.type "range",data:=.fields #[.int lo t,.int hi u,.int 1 v] },toks:=tk }:=by
 refine wpAny_pyIter_range (IsRange.new ..) (small_one h1 h2 h3 h4) ?_;have I1:Inv X pins σ H { s with heap:=s.heap.push { cls:=.type "range",data:=.fields #[.int lo t,.int hi u,.int 1 v] },toks:=tk }:=I.kept fun b o e=>Heap.get?_push_of_some _ e
 refine⟨(s.heap.push { cls:=.type "range",data:=.fields #[.int lo t,.int hi u,.int 1 v] }).objs.size,[(s.heap.push { cls:=.type "range",data:=.fields #[.int lo t,.int hi u,.int 1 v] }).objs.size],_,_,H,rfl,
  I1.kept (t':=tk) fun b o e=>Heap.get?_push_of_some _ e,cE _ lo (hi - lo).toNat,?_,fun b hb=>?_,q⟩
 .have e1:lo+((0:Nat):Int) * 1=lo:=by simp
  have e2:(((hi - lo).toNat:Nat):Int) - ((0:Nat):Int)=Builtin.Range.rangeSize lo hi 1:=by rw[rangeSize_one]; split<;>omega
  show IsRangeIter _ _ (lo+((0:Nat):Int) * 1) ((((hi - lo).toNat:Nat):Int) - ((0:Nat):Int)) 1;rw[e1,e2];exact Heap.get?_push_size _ rfl
 .have e:b=(s.heap.push { cls:=.type "range",data:=.fields #[.int lo t,.int hi u,.int 1 v] }).objs.size:=by simpa using hb
  subst e;exact I1.fpOk (Nat.le_refl _) (I1.hok.fresh (Nat.le_refl _))
def JZ (ta:TA):TI:=fun σ H R=>ta σ H fun vs H1=>∃j:Int,vs=[.int j]/\-(2 ^ 62)<=j/\j < 2 ^ 62/\R (Itr 0 j.toNat) H1
theorem Xl {a:Expr}{ta:TA}{p pos:Pos}(hg:Gl X "range")(hm:X.mg "range" = none)(ha:PA X [a] ta)(hs:starEach [a] X.env=[(false,eval a X.env)]:=by rfl):PI X tg (.Call (.Name "range" p) [a] [] pos) (JZ ta):=by
 intro pins s σ H R I h;refine Call_ (sC I hg hm boot_range (PyProof.Rows.callWith_type1 (thn (ha pos pins s σ H _ I h) fun us s1 ⟨vs,H1,I1,r1,q1⟩=>?_) hs rfl));obtain⟨j,e,q1,q2,q⟩:=q1;subst e
 cases r1 with
 |cons r rr =>
  cases rr;obtain⟨t,rfl⟩:=r;exact call_range_1 (ZF I1 (by omega) (by omega) q1 q2 (by simpa using q))
def tFor (wi:TI)(g:TG)(tb:TS):TS:=fun D σ H=>wi σ H fun J H1=>∃W:Nat->Nat->St->Hp->Prop,(∃m,W 0 m σ H1)/\∀i m σ H,W i m σ H ->
 (J.stop i H/\D.nx σ H)\/(J.go i H/\∃N:St->Hp->Prop,(∀σ' H',N σ' H'->∃m',m' < m/\W (i+1) m' σ' H')/\∀x H',J.yld i H x H'->g x σ H' fun σ2 H2=>tb { D with nx:=N,ct:=N,bk:=D.nx } σ2 H2)
def nL (fp:List Addr)(h:Heap):List (Addr×Obj):=fp.filterMap fun b=>(h.get? b).map fun o=>(b,o)
theorem tY {fp:List Addr}{h:Heap}{b:Addr}{o:Obj}(hb:b∈fp)(e:h.get? b=some o):(b,o)∈nL fp h:=List.mem_filterMap.mpr ⟨b,hb,by rw[e]; rfl⟩
theorem Xx {fp:List Addr}{h:Heap}{p:Addr×Obj}(hp:p∈nL fp h):p.1∈fp/\h.get? p.1=some p.2:=by
 obtain⟨b,hb,e⟩:=List.mem_filterMap.mp hp
 cases q:h.get? b with
 |none=>rw[q] at e; cases e
 |some o =>
  rw[q] at e;have e':(b,o)=p:=Option.some.inj e;subst e';exact⟨hb,q⟩
theorem Inv.pinned {pins:List (Addr×Obj)}{σ:St}{H:Hp}{s:Shared}{fp:List Addr}(I:Inv X pins σ H s)(hf:∀b∈fp,mE X pins H b)(ho:∀b∈fp,∃o,s.heap.get? b=some o/\∀v,o.data≠.cell v):Inv X (pins++nL fp s.heap) σ H s :=
 I.pins_of fun p hp=>(List.mem_append.mp hp).elim (fun z=>I.pin p (List.mem_append_right _ z)) fun z=>by
  obtain⟨hb,e⟩:=Xx z;obtain⟨f0,f1,f2,_⟩:=hf p.1 hb;obtain⟨o,e',d⟩:=ho p.1 hb;rw[e] at e'; cases e'
  exact⟨e,f0,f1,f2,d⟩
theorem Inv.unpinned {pins pl:List (Addr×Obj)}{σ:St}{H:Hp}{s:Shared}(I:Inv X (pins++pl) σ H s):Inv X pins σ H s:=I.pins_of fun p hp=>I.pin p (List.mem_append_right _ (List.mem_append_left _ hp))
theorem ps_for {iter:Expr}{body:List Stmt}{wi:TI}{g:TG}{tb:TS}{pos:Pos}(hp:PassesOwn (model X.prog X.w) X.A X.env X.xe)(hc:X.calm=true)(hi:PI X tg iter wi)(hg:PG X tg g)(hb:PSs X body tb)
  (hs:∀x,foldedSetIterable iter X.env x=pure x:=by intro _; rfl):PS X (.For tg iter body [] pos) (tFor wi g tb):=by
 intro pins s σ H D I h;refine wpAny_For (thn (hi pins s σ H _ I h) fun v s1 h1=>thn h1 fun itv s2 h2=>?_) hs;obtain⟨it,fp,tn,J,H2,e,I2,T,st2,f2,W,⟨m0,w0⟩,turn⟩:=h2;subst e;have stat:∀{H':Hp},(∀b∈fp,H' b=none)->∀b∈fp,mE X pins H' b:=fun hn b hb=>⟨hn b hb,(f2 b hb).2⟩;refine codeAny_forLoop_any (fun n s'=>∃i σ' H',Inv X pins σ' H' s'/\tn i s'.heap/\(∀b∈fp,H' b=none)/\W i n σ' H') ?_ m0 ⟨0,σ,H2,I2,st2,fun b hb=>(f2 b hb).1,w0⟩
 rintro n s3 ⟨i,σ3,H3,I3,st3,fr3,w3⟩
 rcases turn i n σ3 H3 w3 with ⟨stop,qn⟩ | ⟨go,N,hN,step⟩
 .refine wpAny_passesOwn hp (thn (T.done X rfl rfl rfl hc i pins s3 σ3 H3 X.xe I3 (stat fr3) st3 stop) fun r s4 ⟨hr,I4⟩=>?_)
  subst hr;exact wpAny_execs_nil ⟨σ3,H3,I4,qn⟩
 .refine wpAny_passesOwn hp (thn (T.item X rfl rfl rfl hc i pins s3 σ3 H3 X.xe I3 (stat fr3) st3 go) fun r s4 ⟨u,hr,h4⟩=>?_)
  subst hr;refine wpAny_passesOwn hp (thn h4 fun _ s5 ⟨x,H5,I5,r5,y5,st5,fr5⟩=>?_);have I5':=I5.pinned (stat fr5) (T.obj _ _ st5);refine wpAny_passesOwn hp (thn (hg _ s5 σ3 H5 x u _ I5' r5 (step x H5 y5)) fun _ s6 ⟨σ6,H6,I6,q6⟩=>?_);refine wpAny_passesOwn hp (thn (hb _ s6 σ6 H6 _ I6 q6) fun f s7 q7=>?_)
  have again:∀{σ7:St} {H7:Hp},Inv X (pins++nL fp s5.heap) σ7 H7 s7->N σ7 H7->∃m,m < n/\∃i σ' H',Inv X pins σ' H' s7/\tn i s7.heap/\(∀b∈fp,H' b=none)/\W i m σ' H':=fun {σ7 H7} I7 n7=>by
   obtain⟨m',hm,w7⟩:=hN σ7 H7 n7;refine⟨m',hm,i+1,σ7,H7,I7.unpinned,T.keep _ _ _ st5 fun b hb o e=>(I7.pin (b,o) (List.mem_append_right _ (List.mem_append_right _ (tY hb e)))).1,fun b hb=>?_,w7⟩;obtain⟨o,e,d⟩:=T.obj _ _ st5 b hb;exact(I7.pin (b,o) (List.mem_append_right _ (List.mem_append_right _ (tY hb e)))).2.1
  cases f with
  |next=>obtain⟨σ7,H7,I7,n7⟩:=q7; exact again I7 n7
  |cont=>obtain⟨σ7,H7,I7,n7⟩:=q7; exact again I7 n7
  |brk=>obtain⟨σ7,H7,I7,q7⟩:=q7; exact⟨σ7,H7,I7.unpinned,q7⟩
  |ret v=>obtain⟨x7,σ7,H7,I7,r7,q7⟩:=q7; exact⟨x7,σ7,H7,I7.unpinned,r7,q7⟩
end
abbrev R2:=V->V->Hp->VK->Prop
def OpR (X:Cx)(f:Value->Value->Sem Value)(r:R2):Prop :=
 ∀(pins:List (Addr×Obj)) (s:Shared) (σ:St) (H:Hp) (x y:V) (v u:Value) (Q:VK),Inv X pins σ H s->RelV x v->RelV y u->r x y H Q ->
  wpAny (model X.prog X.w) X.A (f v u) (EP X pins σ Q) X.xe s
def UnR (X:Cx)(f:Value->Sem Value)(r:V->Hp->VK->Prop):Prop :=
 ∀(pins:List (Addr×Obj)) (s:Shared) (σ:St) (H:Hp) (x:V) (v:Value) (Q:VK),Inv X pins σ H s->RelV x v->r x H Q ->
  wpAny (model X.prog X.w) X.A (f v) (EP X pins σ Q) X.xe s
def CallR (X:Cx)(f:Value)(r:List V->Hp->VK->Prop):Prop :=
 ∀(pins:List (Addr×Obj)) (s:Shared) (σ:St) (H:Hp) (xs:List V) (us:List Value) (Q:VK),Inv X pins σ H s->Vals xs us->r xs H Q ->
  wpAny (model X.prog X.w) X.A (call f us) (EP X pins σ Q) X.xe s
def tOp (r:R2)(ta tb:TE):TE:=fun σ H Q=>ta σ H fun x H1=>tb σ H1 fun y H2=>r x y H2 Q
def tUn (r:V->Hp->VK->Prop)(ta:TE):TE:=fun σ H Q=>ta σ H fun x H1=>r x H1 Q
inductive II (C:Int->Int->Prop)(g:Int->Int->V)(x y:V)(H:Hp)(Q:VK):Prop
 |mk (i j:Int) (h:x=.int i) (h':y=.int j) (c:C i j) (q:Q (g i j) H):II C g x y H Q
def rI (C:Int->Int->Prop)(g:Int->Int->V):R2:=II C g
inductive II0 (g:Int->Int->V)(x y:V)(H:Hp)(Q:VK):Prop
 |mk (i j:Int) (h:x=.int i) (h':y=.int j) (q:Q (g i j) H):II0 g x y H Q
def rI0 (g:Int->Int->V):R2:=II0 g
def rU (g:Int->V):V->Hp->VK->Prop:=fun x H Q=>∃i,x=.int i/\Q (g i) H
section
variable {X:Cx}{a b c:Expr}{ta tb tc:TE}{pos:Pos}
theorem binT (ha:PE X a ta)(hb:PE X b tb){pins:List (Addr×Obj)}{s:Shared}{σ:St}{H:Hp}{R:V->V->Hp->Prop}(I:Inv X pins σ H s)
  (h:ta σ H fun x H1=>tb σ H1 fun y H2=>R x y H2) {Q:Value->Shared->Prop} {f:Value->Value->Sem Value}
  (hf:∀v u s2 x y H2,Inv X pins σ H2 s2->RelV x v->RelV y u->R x y H2->wpAny (model X.prog X.w) X.A (f v u) Q X.xe s2) :
  wpAny (model X.prog X.w) X.A (eval a X.env) (fun v s₁=>wpAny (model X.prog X.w) X.A (eval b X.env) (fun u s₂=>wpAny (model X.prog X.w) X.A (f v u) Q X.xe s₂) X.xe s₁) X.xe s:=by
 refine thn (ha pins s σ H _ I h) fun v s1 ⟨x,H1,I1,r1,q1⟩=>?_;refine thn (hb pins s1 σ H1 _ I1 q1) fun u s2 ⟨y,H2,I2,r2,q2⟩=>?_;exact hf v u s2 x y H2 I2 r1 r2 q2
theorem pe_op {op:Operator}{r:R2}(ho:OpR X (binaryOp op) r)(ha:PE X a ta)(hb:PE X b tb):PE X (.BinOp a op b pos) (tOp r ta tb):=by
 intro pins s σ H Q I h;exact wpAny_BinOp (binT ha hb I h fun v u s2 x y H2 I2 rx ry q=>ho pins s2 σ H2 x y v u Q I2 rx ry q)
theorem pe_un {op:UnaryOp}{r:V->Hp->VK->Prop}(ho:UnR X (unaryOp op) r)(ha:PE X a ta):PE X (.UnaryOp op a pos) (tUn r ta):=by
 intro pins s σ H Q I h;exact UnaryOp_ (thn (ha pins s σ H _ I h) fun v s1 ⟨x,H1,I1,r1,q1⟩=>ho pins s1 σ H1 x v Q I1 r1 q1)
theorem opI {f:Value->Value->Sem Value}{C:Int->Int->Prop}{g:Int->Int->Int}
  (rule:∀(i j:Int) (t u:Tok) (s:Shared) (Q:Value->Shared->Prop) (E:Value->Shared->Prop),C i j->Q (.int (g i j) s.toks) { s with toks:=s.toks+1 }->wpAny (model X.prog X.w) X.A (f (.int i t) (.int j u)) Q E s) :
  OpR X f (rI C fun i j=>.int (g i j)):=by
 intro pins s σ H x y v u Q I rx ry h;obtain⟨i,j,rfl,rfl,hc,q⟩:=h;obtain⟨t,rfl⟩:=rx;obtain⟨t',rfl⟩:=ry;exact rule i j t t' s _ _ hc ⟨.int (g i j),H,I.tok _,⟨_,rfl⟩,q⟩
theorem opI0 {f:Value->Value->Sem Value}{g:Int->Int->Int}
  (rule:∀(i j:Int) (t u:Tok) (s:Shared) (Q:Value->Shared->Prop) (E:Value->Shared->Prop),Q (.int (g i j) s.toks) { s with toks:=s.toks+1 }->wpAny (model X.prog X.w) X.A (f (.int i t) (.int j u)) Q E s) :
  OpR X f (rI0 fun i j=>.int (g i j)):=by
 intro pins s σ H x y v u Q I rx ry h;obtain⟨i,j,rfl,rfl,q⟩:=h;obtain⟨t,rfl⟩:=rx;obtain⟨t',rfl⟩:=ry;exact rule i j t t' s _ _ ⟨.int (g i j),H,I.tok _,⟨_,rfl⟩,q⟩
theorem opB0 {f:Value->Value->Sem Value}{g:Int->Int->Bool}
  (rule:∀(i j:Int) (t u:Tok) (s:Shared) (Q:Value->Shared->Prop) (E:Value->Shared->Prop),Q (.bool (g i j)) s->wpAny (model X.prog X.w) X.A (f (.int i t) (.int j u)) Q E s) :
  OpR X f (rI0 fun i j=>.bl (g i j)):=by
 intro pins s σ H x y v u Q I rx ry h;obtain⟨i,j,rfl,rfl,q⟩:=h;obtain⟨t,rfl⟩:=rx;obtain⟨t',rfl⟩:=ry;exact rule i j t t' s _ _ ⟨.bl (g i j),H,I,rfl,q⟩
def CPow (i j:Int):Prop:=0<=j/\j<=1000000/\i.natAbs < 2 ^ 64
def CMul (i j:Int):Prop:=(-(2 ^ 64) < i/\i < 2 ^ 64)\/(-(2 ^ 64) < j/\j < 2 ^ 64)
theorem CMul.ok {i j:Int}(h:CMul i j):IntMulOk i j:=by
 rcases h with ⟨h1,h2⟩ | ⟨h1,h2⟩
 .exact .of_left (intBits_le_64 h1 h2)
 .exact .of_right (intBits_le_64 h1 h2)
theorem op_add:OpR X (binaryOp .Add) (rI0 fun i j=>.int (i+j)):=opI0 fun _ _ _ _ _ _ _ q=>add_int q
theorem xV:OpR X (binaryOp .Sub) (rI0 fun i j=>.int (i - j)):=opI0 fun _ _ _ _ _ _ _ q=>sub_int q
theorem vF:OpR X (binaryOp .Mult) (rI CMul fun i j=>.int (i * j)):=opI fun _ _ _ _ _ _ _ hc q=>mul_int q hc.ok
theorem rG:OpR X (binaryOp .Mod) (rI (fun _ j=>0 < j) fun i j=>.int (i % j)):=opI fun i j _ _ _ _ _ hc q=>by
 have h1:(0:Int) < j:=hc;exact mod_int' (by omega) (by rw[Int.fmod_eq_emod_of_nonneg i (by omega)]; exact q)
theorem jA:OpR X (binaryOp .Pow) (rI CPow fun i j=>.int (i ^ j.toNat)):=opI fun _ _ _ _ _ _ _ hc q=>pow_int_small hc.1 hc.2.1 hc.2.2 q
theorem unI {f:Value->Sem Value}{g:Int->Int}
  (rule:∀(i:Int) (t:Tok) (s:Shared) (Q:Value->Shared->Prop) (E:Value->Shared->Prop),Q (.int (g i) s.toks) { s with toks:=s.toks+1 }->wpAny (model X.prog X.w) X.A (f (.int i t)) Q E s) :
  UnR X f (rU fun i=>.int (g i)):=by
 intro pins s σ H x v Q I rx h;obtain⟨i,rfl,q⟩:=h;obtain⟨t,rfl⟩:=rx;exact rule i t s _ _ ⟨.int (g i),H,I.tok _,⟨_,rfl⟩,q⟩
theorem mL:UnR X (unaryOp .USub) (rU fun i=>.int (-i)):=unI fun _ _ _ _ _ q=>neg_int q
end
def scal:V->V->Bool
 |.non,.non=>true | .non,.int _=>true | .int _,.non=>true | .non,.bl _=>true | .bl _,.non=>true | .non,.str _=>true | .str _,.non=>true
 |.int _,.int _=>true | .bl _,.bl _=>true | .str _,.str _=>true | .byt _,.byt _=>true
 |.int _,.str _=>true | .str _,.int _=>true | .bl _,.str _=>true | .str _,.bl _=>true
 |_,_=>false
def rEq:R2:=fun x y H Q=>scal x y=true/\Q (.bl (decide (x=y))) H
def rNe:R2:=fun x y H Q=>scal x y=true/\Q (.bl (!decide (x=y))) H
theorem QR {i j:Int}:decide (V.int i=V.int j)=(i==j):=by
 rw[Bool.eq_iff_iff]
 simp
theorem Kl {i j:Bool}:decide (V.bl i=V.bl j)=(i==j):=by
 rw[Bool.eq_iff_iff]
 simp
theorem QQ {i j:Str}:decide (V.str i=V.str j)=(i==j):=by
 rw[Bool.eq_iff_iff]
 simp
theorem QS {i j:Array UInt8}:decide (V.byt i=V.byt j)=(i.toList==j.toList):=by
 rw[Bool.eq_iff_iff];cases i;cases j
 simp
section
variable {X:Cx}{a b c:Expr}{ta tb tc:TE}{pos:Pos}
theorem lX {pins:List (Addr×Obj)}{σ:St}{H:Hp}{s:Shared}{Q:VK}{k k':Bool}(I:Inv X pins σ H s)(q:Q (.bl k) H)(e:k=k'):EP X pins σ Q (.bool k') s:=by
 subst e;exact⟨.bl k,H,I,rfl,q⟩
theorem hX:OpR X (compareOp .Eq) rEq:=by
 intro pins s σ H x y v u Q I rx ry h;obtain⟨hs,q⟩:=h
 cases x with
 |non =>
  cases rx
  cases y with
  |non=>cases ry; exact PySem.EqNone.eq_none_none (lX I q (by simp))
  |bl j=>cases ry; exact PySem.EqNone.eq_none_bool (lX I q (by simp))
  |int j=>obtain⟨t',rfl⟩:=ry; exact PySem.EqNone.eq_none_int (lX I q (by simp))
  |str j=>obtain⟨t',rfl⟩:=ry; exact PySem.EqNone.eq_none_str (lX I q (by simp))
  |_=>exact absurd (show false=true from hs) Bool.false_ne_true
 |bl i =>
  cases rx
  cases y with
  |non=>cases ry; exact PySem.EqNone.eq_bool_none (lX I q (by simp))
  |bl j=>cases ry; exact eq_bool (lX I q Kl)
  |str j=>obtain⟨t',rfl⟩:=ry; exact PySem.EqMixed.eq_bool_str (lX I q (by simp))
  |_=>exact absurd (show false=true from hs) Bool.false_ne_true
 |int i =>
  obtain⟨t,rfl⟩:=rx
  cases y with
  |non=>cases ry; exact PySem.EqNone.eq_int_none (lX I q (by simp))
  |int j=>obtain⟨t',rfl⟩:=ry; exact eq_int (lX I q QR)
  |str j=>obtain⟨t',rfl⟩:=ry; exact PySem.EqMixed.eq_int_str (lX I q (by simp))
  |_=>exact absurd (show false=true from hs) Bool.false_ne_true
 |str i =>
  obtain⟨t,rfl⟩:=rx
  cases y with
  |non=>cases ry; exact PySem.EqNone.eq_str_none (lX I q (by simp))
  |bl j=>cases ry; exact PySem.EqMixed.eq_str_bool (lX I q (by simp))
  |int j=>obtain⟨t',rfl⟩:=ry; exact PySem.EqMixed.eq_str_int (lX I q (by simp))
  |str j=>obtain⟨t',rfl⟩:=ry; exact eq_str (lX I q QQ)
  |_=>exact absurd (show false=true from hs) Bool.false_ne_true
 |byt i =>
  obtain⟨t,rfl⟩:=rx
  cases y with
  |byt j=>obtain⟨t',rfl⟩:=ry; exact PySem.W.eq_bytes (lX I q QS)
  |_=>exact absurd (show false=true from hs) Bool.false_ne_true
 |_=>cases y<;>exact absurd (show false=true from hs) Bool.false_ne_true
theorem op_ne:OpR X (compareOp .NotEq) rNe:=by
 intro pins s σ H x y v u Q I rx ry h;obtain⟨hs,q⟩:=h
 cases x with
 |non =>
  cases rx
  cases y with
  |non=>cases ry; exact PySem.EqNone.ne_none_none (lX I q (by simp))
  |bl j=>cases ry; exact PySem.EqNone.ne_none_bool (lX I q (by simp))
  |int j=>obtain⟨t',rfl⟩:=ry; exact PySem.EqNone.ne_none_int (lX I q (by simp))
  |str j=>obtain⟨t',rfl⟩:=ry; exact PySem.EqNone.ne_none_str (lX I q (by simp))
  |_=>exact absurd (show false=true from hs) Bool.false_ne_true
 |bl i =>
  cases rx
  cases y with
  |non=>cases ry; exact PySem.EqNone.ne_bool_none (lX I q (by simp))
  |bl j=>cases ry; exact ne_bool (lX I q (congrArg not Kl))
  |str j=>obtain⟨t',rfl⟩:=ry; exact PySem.EqMixed.ne_bool_str (lX I q (by simp))
  |_=>exact absurd (show false=true from hs) Bool.false_ne_true
 |int i =>
  obtain⟨t,rfl⟩:=rx
  cases y with
  |non=>cases ry; exact PySem.EqNone.ne_int_none (lX I q (by simp))
  |int j=>obtain⟨t',rfl⟩:=ry; exact ne_int (lX I q (congrArg not QR))
  |str j=>obtain⟨t',rfl⟩:=ry; exact PySem.EqMixed.ne_int_str (lX I q (by simp))
  |_=>exact absurd (show false=true from hs) Bool.false_ne_true
 |str i =>
  obtain⟨t,rfl⟩:=rx
  cases y with
  |non=>cases ry; exact PySem.EqNone.ne_str_none (lX I q (by simp))
  |bl j=>cases ry; exact PySem.EqMixed.ne_str_bool (lX I q (by simp))
  |int j=>obtain⟨t',rfl⟩:=ry; exact PySem.EqMixed.ne_str_int (lX I q (by simp))
  |str j=>obtain⟨t',rfl⟩:=ry; exact ne_str (lX I q (congrArg not QQ))
  |_=>exact absurd (show false=true from hs) Bool.false_ne_true
 |byt i =>
  obtain⟨t,rfl⟩:=rx
  cases y with
  |byt j=>obtain⟨t',rfl⟩:=ry; exact PySem.W.ne_bytes (lX I q (congrArg not QS))
  |_=>exact absurd (show false=true from hs) Bool.false_ne_true
 |_=>cases y<;>exact absurd (show false=true from hs) Bool.false_ne_true
theorem kM:OpR X (compareOp .Lt) (rI0 fun i j=>.bl (decide (i < j))):=opB0 fun _ _ _ _ _ _ _ q=>lt_int q
theorem jK:OpR X (compareOp .Gt) (rI0 fun i j=>.bl (decide (j < i))):=opB0 fun _ _ _ _ _ _ _ q=>gt_int q
theorem pC:OpR X (compareOp .Is) (fun x y H Q=>y=.non/\Q (.bl (decide (x=.non))) H):=by
 intro pins s σ H x y v u Q I rx ry h;obtain⟨rfl,q⟩:=h;cases ry;refine is_none_gen (lX I q ?_)
 cases x<;>first
  | (cases rx; rfl)
  | (obtain⟨t,rfl⟩:=rx; rfl)
theorem op_notN:OpR X (compareOp .IsNot) (fun x y H Q=>y=.non/\Q (.bl (!decide (x=.non))) H):=by
 intro pins s σ H x y v u Q I rx ry h;obtain⟨rfl,q⟩:=h;cases ry;refine isnot_none_gen (lX I q ?_)
 cases x<;>first
  | (cases rx; rfl)
  | (obtain⟨t,rfl⟩:=rx; rfl)
theorem OpR.or {f:Value->Value->Sem Value}{r r':R2}(h:OpR X f r)(h':OpR X f r'):OpR X f (fun x y H Q=>r x y H Q\/r' x y H Q):=by
 intro pins s σ H x y v u Q I rx ry q
 rcases q with q | q
 .exact h pins s σ H x y v u Q I rx ry q
 .exact h' pins s σ H x y v u Q I rx ry q
theorem oY (b:Expr){op:CmpOp}(h:op≠.In:=by decide)(h2:op≠.NotIn:=by decide):behindInMarks op b=false:=by
 have e1:(op==CmpOp.In)=false:=by cases op<;>first | rfl | exact absurd rfl h
 have e2:(op==CmpOp.NotIn)=false:=by cases op<;>first | rfl | exact absurd rfl h2
 cases b<;>simp[behindInMarks,e1,e2]
theorem pe_cmpR {op:CmpOp}{r:R2}(ho:OpR X (compareOp op) r)(ha:PE X a ta)(hb:PE X b tb)(hm:behindInMarks op b=false):PE X (.Compare a [op] [b] pos) (tOp r ta tb):=by
 intro pins s σ H Q I h;exact wpAny_Compare1 (binT ha hb I h fun v u s2 x y H2 I2 rx ry q=>ho pins s2 σ H2 x y v u Q I2 rx ry q) hm
def Zo (t:TE):TT:=fun σ H Q=>t σ H (IBl Q)
theorem pt_cmpR {op:CmpOp}{r:R2}(ho:OpR X (compareOp op) r)(ha:PE X a ta)(hb:PE X b tb)(hm:behindInMarks op b=false):PT X (.Compare a [op] [b] pos) (Zo (tOp r ta tb)):=by
 intro pins s σ H Q I h
 refine wpAny_isTrue_Compare1 (thn (ha pins s σ H _ I h) fun v s1 ⟨x,H1,I1,r1,q1⟩=>thn (hb pins s1 σ H1 _ I1 q1) fun u s2 ⟨y,H2,I2,r2,q2⟩ =>
  thn (ho pins s2 σ H2 x y v u _ I2 r1 r2 q2) fun c s3 ⟨z,H3,I3,r3,k,e,q3⟩=>?_) hm
 subst e;cases r3;exact wpAny_truthy_bool ⟨H3,I3,q3⟩
theorem wF:(sizeLine:Nat) < 2 ^ 63:=by rw[sizeLine_eq]; decide
theorem xA:OpR X (binaryOp .Add) (fun x y H Q=>∃i j,x=.str i/\y=.str j/\i.length+j.length<=sizeLine/\Q (.str (i++j)) H):=by
 intro pins s σ H x y v u Q I rx ry h;obtain⟨i,j,rfl,rfl,hz,q⟩:=h;obtain⟨t,rfl⟩:=rx;obtain⟨t',rfl⟩:=ry;exact add_str (fun t' tk=>⟨.str (i++j),H,I.tok _,⟨_,rfl⟩,q⟩) hz
theorem cB {x:V}{us:List Value}(r:Vals [x] us):∃u,us=[u]/\RelV x u:=by
 cases r with
 |cons r1 r2=>cases r2; exact⟨_,rfl,r1⟩
theorem wS {x y:V}{us:List Value}(r:Vals [x,y] us):∃u w',us=[u,w']/\RelV x u/\RelV y w':=by
 cases r with
 |cons r1 r2 =>
  cases r2 with
  |cons r3 r4=>cases r4; exact⟨_,_,rfl,r1,r3⟩
theorem KJ:CallR X (.builtin "abs") (fun xs H Q=>∃i,xs=[.int i]/\Q (.int (if i < 0 then -i else i)) H):=by
 intro pins s σ H xs us Q I r h;obtain⟨i,rfl,q⟩:=h;obtain⟨u,rfl,t,rfl⟩:=cB r;exact call_abs_int fun u tk=>⟨.int (if i < 0 then -i else i),H,I.tok _,⟨_,rfl⟩,q⟩
theorem X2 (hc:X.calm=true):CallR X (.builtin "max") (fun xs H Q=>∃i j,xs=[.int i,.int j]/\Q (.int (if j > i then j else i)) H):=by
 intro pins s σ H xs us Q I r h;obtain⟨i,j,rfl,q⟩:=h;obtain⟨u,w',rfl,⟨t,rfl⟩,⟨t',rfl⟩⟩:=wS r;refine max_two_ints (I.ok.hd hc) fun h' tk k=>⟨_,H,I.kept k,?_,q⟩
 by_cases hj:j > i
 .rw [if_pos hj,if_pos hj]; exact⟨_,rfl⟩
 .rw [if_neg hj,if_neg hj]; exact⟨_,rfl⟩
theorem oN (hc:X.calm=true):CallR X (.builtin "min") (fun xs H Q=>∃i j,xs=[.int i,.int j]/\Q (.int (if j < i then j else i)) H):=by
 intro pins s σ H xs us Q I r h;obtain⟨i,j,rfl,q⟩:=h;obtain⟨u,w',rfl,⟨t,rfl⟩,⟨t',rfl⟩⟩:=wS r;refine min_two_ints (I.ok.hd hc) fun h' tk k=>⟨_,H,I.kept k,?_,q⟩
 by_cases hj:j < i
 .rw [if_pos hj,if_pos hj]; exact⟨_,rfl⟩
 .rw [if_neg hj,if_neg hj]; exact⟨_,rfl⟩
theorem hU:CallR X (.type "int") (fun xs H Q=>(∃i,xs=[.int i]/\Q (.int i) H)\/∃k,xs=[.bl k]/\Q (.int (if k then 1 else 0)) H):=by
 intro pins s σ H xs us Q I r h
 rcases h with ⟨i,rfl,q⟩ | ⟨k,rfl,q⟩
 .obtain ⟨u,rfl,t,rfl⟩:=cB r
  exact call_int_int ⟨.int i,H,I,⟨_,rfl⟩,q⟩
 .obtain ⟨u,rfl,r1⟩:=cB r
  cases r1;exact call_int_bool ⟨.int (if k then 1 else 0),H,I.tok _,⟨_,rfl⟩,q⟩
theorem bZ:CallR X (.type "str") (fun xs H Q=>∃i,xs=[.int i]/\i.natAbs.log2 < 1920/\Q (.str (toString i)) H):=by
 intro pins s σ H xs us Q I r h;obtain⟨i,rfl,hz,q⟩:=h;obtain⟨u,rfl,t,rfl⟩:=cB r;exact PySem.P.str_of_int hz ⟨.str _,H,I.tok _,⟨_,rfl⟩,q⟩
end
structure ObjM (h:Heap)(x dx C:Addr)(mA:Str->Option Value):Prop where
 obj:h.get? x=some (PySem.W.instObj C dx)
 ns:h.Ns1 dx mA
 ne:dx≠x
theorem XC {h:Heap}{dx:Addr}{mA:Str->Option Value}(n:h.Ns1 dx mA):∃od,h.get? dx=some od/\∀name,PySem.W.lookIn name od=some (mA name):=by
 obtain⟨o,es,ep,ho,hd,hk,_,hm⟩:=n;refine⟨o,ho,fun name=>?_⟩;have e:=hm name;unfold nsFind findBy at e;rw[<- Array.find?_toList] at e;unfold PySem.W.lookIn;rw[hd];dsimp only
 split
 .rename_i y q
  rw[q] at e;exact congrArg some e
 .rename_i q
  rw[q] at e
  have a:es.toList.any (·.refKey)=false:=by
   rw[List.any_eq_false];intro y hy;obtain⟨z,t,hkey⟩:=hk y (Array.mem_toList_iff.mp hy)
   simp[DictEntry.refKey,hkey]
  have a':¬ es.toList.any (·.refKey)=true:=by rw[a]; exact Bool.false_ne_true
  rw[if_neg a'];exact congrArg some e
theorem ObjM.look {h:Heap}{x dx C:Addr}{mA:Str->Option Value}(I:ObjM h x dx C mA):∃od,PySem.W.InstAt h x (PySem.W.instObj C dx) C (some od)/\∀name,PySem.W.lookIn name od=some (mA name) :=
 let ⟨od,ho,hl⟩:=XC I.ns
 ⟨od,⟨I.obj,rfl,rfl,ho⟩,hl⟩
section
variable {prog:Program}{w:World}{A:Around}{E:Value->Shared->Prop}{s:Shared}{K:PySem.W.Frag}{x dx C f:Addr}{mA:Str->Option Value}{name:Str}{v:Value}
theorem get_map {expr:Bool}{Q:Value->Shared->Prop}(X:K.In s.heap)(I:ObjM s.heap x dx C mA)(hg:PySem.W.plainGet K C name=true)(hh:PySem.W.hasDictIn K C=true)
  (ha:PySem.W.findIn K (.ref C) name=some none) (hv:mA name=some v) (hv':PySem.W.handedIn v=true) (h:Q v { s with toks:=s.toks+1 }) :
  wpAny (model prog w) A (getAttr (.ref x) name expr) Q E s:=by
 obtain⟨od,J,hl⟩:=I.look;exact PySem.W.get_value X J (PySem.W.plainGet_of hg).1 (PySem.W.findObj_own hh ha rfl (by rw[hl,hv])) hv' h
theorem J4 {pl:Sem Bool}{Q:Value×List Value->Shared->Prop}(X:K.In s.heap)(I:ObjM s.heap x dx C mA)(hg:PySem.W.plainGet K C name=true)
  (hf:PySem.W.findIn K (.ref C) name=some (some (.ref f))) (ht:PySem.W.isFn K (.ref f)=true) (hv:mA name=none) (h:Q (.ref f,[.ref x]) s) :
  wpAny (model prog w) A (getMethod (.ref x) name pl) Q E s:=by
 obtain⟨od,J,hl⟩:=I.look;exact PySem.W.method_fn X J (PySem.W.plainGet_of hg).1 (PySem.W.plainGet_of hg).2 hf (beq_iff_eq.mp ht) (by show(PySem.W.lookIn name od).map (·.isSome)=some false; rw[hl,hv]; rfl) h
theorem set_map {ns:List Str}{Q:Unit->Shared->Prop}(X:K.In s.heap)(I:ObjM s.heap x dx C mA)
  (hs:PySem.W.findIn K (.ref C) "__setattr__" = some (some (.builtin "object.__setattr__"))) (hp:PySem.W.plainOver K C=true) (ht:PySem.W.takerIn K C name=some none) (hh:PySem.W.hasDictIn K C=true)
  (hw:PySem.Within mA ns) (hsz:ns.length<=sizeLine)
  (h:∀h',ObjM h' x dx C (fun y=>if y=name then some v else mA y)->Heap.SameBut dx s.heap h'->Q () { s with heap:=h',toks:=s.toks+2 }) :
  wpAny (model prog w) A (setAttr (.ref x) name v) Q E s:=by
 obtain⟨od,J,hl⟩:=I.look;refine PySem.W.set_plain X J hs (PySem.W.osa_open (s:={ s with toks:=s.toks+1 }) (r:=none) X J hp ht fun b=>?_);obtain⟨cd,hc,hd'⟩:=PySem.W.any_some hh;have hx:s.heap.get? x=some ⟨.ref C,some dx,.plain,#[]⟩:=I.obj;refine wpAny_bind (wpAny_pure (wpAny_bind (wpAny_bind (wpAny_loadPart hx (wpAny_bind (PySem.W.Looks.here (s:={ s with toks:=s.toks+1 }) (PySem.W.looks_clsIn X hc) ?_))))))
 rw[hd'];refine wpAny_pure (a:=some dx) (wpAny_bind (wpAny_pure (wpAny_bind ?_)));refine wpAny_nsSet1 (s:={ s with toks:=s.toks+1 }) I.ns fun h' hn2 hs2=>?_;obtain⟨oD,esD,epD,hoD,hdD,hcD⟩:=hn2.count (PySem.Within.cons name v hw);refine wpAny_bind (wpAny_lookBehind hoD (by rw[hdD]; exact pastItsLine_dict (Nat.le_trans hcD (by rw[List.length_cons]; omega))) ?_);exact wpAny_pure (h _ ⟨(hs2.2 _ (Ne.symm I.ne)).trans I.obj,hn2,I.ne⟩ hs2)
theorem Jn {R:Result->Shared->Prop}{vs:List Value}{kw:List (Str×Value)}(X:K.In s.heap)(hm:PySem.W.makesIn K C=true)
  (hi:PySem.W.findIn K (.ref C) "__init__" = some (some (.ref f))) (hf:PySem.W.typeIn K (.ref f)=some (.type "function"))
  (h:codeAny (model prog w) (A.under (.builtin "type.__call__" ⟨.ref C::vs,kw⟩)) (.call (.ref f) ⟨.ref (s.heap.objs.size+1)::vs,kw⟩) (PySem.W.InitBack (s.heap.objs.size+1) R)
   { s with heap:=(s.heap.push PySem.W.emptyDict).push (PySem.W.instObj C s.heap.objs.size) }) :
  codeAny (model prog w) A (.call (.ref C) ⟨vs,kw⟩) R s:=by
 obtain⟨hh,g,d,t,os⟩:=s;exact PySem.W.make_core (PySem.W.makes_of X hm) (PySem.W.looks_findIn X hi) (fun self=>PySem.W.bind_fn X self hf) (.inl rfl) h
end
def rY (f:Str)(v:V):List (Str×V)->List (Str×V)
 |[]=>[(f,v)]
 | (g,x)::r=>if g=f then (g,v)::r else (g,x)::rY f v r
theorem jD (f g:Str)(v:V):∀fs:List (Str×V),(rY f v fs).lookup g=if g=f then some v else fs.lookup g
 |[]=>by
  show List.lookup g [(f,v)]=_
  by_cases h:g=f
  .have hb:(g==f)=true:=beq_iff_eq.mpr h
   simp only[List.lookup,hb,if_pos h]
  .have hb:(g==f)=false:=beq_eq_false_iff_ne.mpr h
   simp only[List.lookup,hb,if_neg h]
 | (k,x)::r=>by
  have ih:=jD f g v r;rw[show rY f v ((k,x)::r)=(if k=f then (k,v)::r else (k,x)::rY f v r) from rfl]
  by_cases hk:k=f
  .rw [if_pos hk]
   by_cases h:g=k
   .have hb:(g==k)=true:=beq_iff_eq.mpr h
    simp only[List.lookup,hb,if_pos (h.trans hk)]
   .have hb:(g==k)=false:=beq_eq_false_iff_ne.mpr h
    simp only[List.lookup,hb,if_neg (fun e:g=f=>h (e.trans hk.symm))]
  .rw [if_neg hk]
   by_cases h:g=k
   .have hb:(g==k)=true:=beq_iff_eq.mpr h
    simp only[List.lookup,hb,if_neg (fun e:g=f=>hk (h.symm.trans e))]
   .have hb:(g==k)=false:=beq_eq_false_iff_ne.mpr h
    simp only[List.lookup,hb]
    exact ih
theorem uF (f:Str)(v:V):∀fs:List (Str×V),f∈(rY f v fs).map (·.1)/\∀g,g∈fs.map (·.1)->g∈(rY f v fs).map (·.1)
 |[]=>⟨by simp[rY],fun g h=>by simp at h⟩
 | (k,x)::r=>by
  obtain⟨i1,i2⟩:=uF f v r;rw[show rY f v ((k,x)::r)=(if k=f then (k,v)::r else (k,x)::rY f v r) from rfl]
  by_cases hk:k=f
  .rw [if_pos hk]
   subst hk;exact⟨by simp,fun g h=>by simpa using h⟩
  .rw [if_neg hk]
   refine⟨?_,fun g h=>?_⟩
   .rw [List.map_cons]
    exact List.mem_cons_of_mem _ i1
   .rw [List.map_cons] at h ⊢
    rcases List.mem_cons.mp h with e | e
    .exact List.mem_cons.mpr (.inl e)
    .exact List.mem_cons_of_mem _ (i2 g e)
theorem xD (f:Str)(v:V):∀fs:List (Str×V),(rY f v fs).length<=fs.length+1
 |[]=>by simp[rY]
 | (k,x)::r=>by
  have ih:=xD f v r;rw[show rY f v ((k,x)::r)=(if k=f then (k,v)::r else (k,x)::rY f v r) from rfl]
  by_cases hk:k=f
  .rw [if_pos hk,List.length_cons,List.length_cons]; omega
  .rw [if_neg hk,List.length_cons,List.length_cons]; omega
theorem RelO.some_of {v:V}{o:Option Value}(r:RelO (some v) o):∃u,o=some u/\RelV v u:=by
 cases o with
 |none=>exact(show False from r).elim
 |some u=>exact⟨u,rfl,r⟩
theorem RelO.none_of {o:Option Value}(r:RelO none o):o=none:=by
 cases o with
 |none=>rfl
 |some u=>exact(show False from r).elim
theorem XQ {v:V}{u:Value}(r:RelV v u):PySem.W.handedIn u=true:=by
 cases v with
 |non=>cases (show u=Value.none from r); rfl
 |bl b=>cases (show u=Value.bool b from r); rfl
 |int i=>obtain⟨t,e⟩:=(show ∃t,u=Value.int i t from r); cases e; rfl
 |str x=>obtain⟨t,e⟩:=(show ∃t,u=Value.str x t from r); cases e; rfl
 |byt b=>obtain⟨t,e⟩:=(show ∃t,u=Value.bytes b t from r); cases e; rfl
 |flt b=>obtain⟨t,e⟩:=(show ∃t,u=Value.float b t from r); cases e; rfl
 |ref a=>cases (show u=Value.ref a from r); rfl
 |ty n=>cases (show u=Value.type n from r); rfl
section
variable {P:Program}{w:World}{H H':Hp}{h h':Heap}{a C dx:Addr}{fs fs':List (Str×V)}
theorem lD (hok:HOk P w H h)(e:H a=some (.ins C dx fs)):∃mA,ObjM h a dx C mA/\(∀f,RelO (fs.lookup f) (mA f))/\PySem.Within mA (fs.map (·.1))/\fs.length<=1000/\H dx=some (.own a):=by
 obtain⟨d,z,ne,ob,mA,n,r,q⟩:=(show ObjOk P w H h a (.ins C dx fs) from hok a _ e);exact⟨mA,⟨ob,n,ne⟩,r,q,z,d⟩
end
structure Cls (K:PySem.W.Frag)(C:Addr):Prop where
 pg:PySem.W.plainGet K C Str.empty=true
 hd:PySem.W.hasDictIn K C=true
 po:PySem.W.plainOver K C=true
 sa:PySem.W.findIn K (.ref C) "__setattr__" = some (some (.builtin "object.__setattr__"))
theorem Cls.get {K:PySem.W.Frag}{C:Addr}(c:Cls K C)(f:Str):PySem.W.plainGet K C f=true:=c.pg
def NoAttr (K:PySem.W.Frag)(C:Addr)(f:Str):Prop:=PySem.W.findIn K (.ref C) f=some none
theorem NoAttr.taker {K:PySem.W.Frag}{C:Addr}{f:Str}(n:NoAttr K C f):PySem.W.takerIn K C f=some none:=by
 unfold PySem.W.takerIn;rw[show PySem.W.findIn K (.ref C) f=some none from n]
 rfl
structure Meth (K:PySem.W.Frag)(C:Addr)(m:Str)(f:Addr):Prop where
 at_:PySem.W.findIn K (.ref C) m=some (some (.ref f))
 fn:PySem.W.isFn K (.ref f)=true
 kp:PySem.W.keepIn K (.ref f)=true
section
variable {X:Cx}{pins:List (Addr×Obj)}{σ:St}{H:Hp}{s:Shared}{a C dx:Addr}{fs:List (Str×V)}{f:Str}{v:V}{A:Around}{E:Value->Shared->Prop}
theorem xI {b:Bool}{Q:Value->Shared->Prop}(I:Inv X pins σ H s)(e:H a=some (.ins C dx fs))(c:Cls X.K C)(n:NoAttr X.K C f)(l:fs.lookup f=some v)
  (h:∀u s',Inv X pins σ H s'->RelV v u->Q u s'):wpAny (model X.prog X.w) A (getAttr (.ref a) f b) Q E s:=by
 obtain⟨mA,O,r,_,_,_⟩:=lD I.hok e;obtain⟨u,hu,ru⟩:=RelO.some_of (v:=v) (o:=mA f) (by rw[<- l]; exact r f);exact get_map I.kIn O (c.get f) c.hd n hu (XQ ru) (h u _ (I.tok _) ru)
theorem jI {m:Str}{g:Addr}{pl:Sem Bool}{Q:Value×List Value->Shared->Prop}(I:Inv X pins σ H s)(e:H a=some (.ins C dx fs))(c:Cls X.K C)(k:Meth X.K C m g)(l:fs.lookup m=none)
  (h:Q (.ref g,[.ref a]) s):wpAny (model X.prog X.w) A (getMethod (.ref a) m pl) Q E s:=by
 obtain⟨mA,O,r,_,_,_⟩:=lD I.hok e;have hn:mA m=none:=RelO.none_of (by rw[<- l]; exact r m);exact J4 I.kIn O (c.get m) k.at_ k.fn hn h
theorem tE {y:V}{u:Value}{Q:Unit->Shared->Prop}(I:Inv X pins σ H s)(e:H a=some (.ins C dx fs))(c:Cls X.K C)(n:NoAttr X.K C f)(hl:fs.length < 1000)(ry:RelV y u)
  (h:∀s',Inv X pins σ (upd H a (.ins C dx (rY f y fs))) s'->Q () s'):wpAny (model X.prog X.w) A (setAttr (.ref a) f u) Q E s:=by
 obtain⟨mA,O,r,wi,_,ho⟩:=lD I.hok e;have hz:(fs.map (·.1)).length<=sizeLine:=by rw[List.length_map,sizeLine_eq]; omega
 refine set_map I.kIn O c.sa c.po n.taker c.hd wi hz fun h' O' sb=>h _ ?_;have hd:∃o,h'.get? dx=some o:=let ⟨o,_,_,e',_⟩:=O'.ns; ⟨o,e'⟩
 refine I.write (x:=a) (e:=dx) (by rw[e]; exact True.intro) (.inr ho) (fun b q hb z=>(sb.2 b hb).trans z) hd ?_;refine⟨by rw[lQ O.ne]; exact ho,?_,O.ne,O'.obj,_,O'.ns,fun g=>?_,fun g hg=>?_⟩
 .have:=xD f y fs; omega
 .show RelO ((rY f y fs).lookup g) (if g=f then some u else mA g)
  rw[jD]
  by_cases q:g=f
  .rw [if_pos q,if_pos q]; exact ry
  .rw [if_neg q,if_neg q]; exact r g
 .by_cases q:g=f
  .rw [q]; exact(uF f y fs).1
  .refine (uF f y fs).2 g (wi g fun z=>hg ?_)
   show(if g=f then some u else mA g)=none;rw[if_neg q]; exact z
theorem Inv.made (I:Inv X pins σ H s):Inv X pins σ (upd (upd H s.heap.objs.size (.own (s.heap.objs.size+1))) (s.heap.objs.size+1) (.ins C s.heap.objs.size []))
  { s with heap:=(s.heap.push PySem.W.emptyDict).push (PySem.W.instObj C s.heap.objs.size) }:=by
 have e1:(s.heap.push PySem.W.emptyDict).get? s.heap.objs.size=some PySem.W.emptyDict:=Heap.get?_push_size s.heap rfl
 have e2:((s.heap.push PySem.W.emptyDict).push (PySem.W.instObj C s.heap.objs.size)).get? (s.heap.objs.size+1)=some (PySem.W.instObj C s.heap.objs.size):=by
  have:=Heap.get?_push_size (s.heap.push PySem.W.emptyDict) (o:=PySem.W.instObj C s.heap.objs.size) rfl
  rwa [Heap.size_push] at this
 have e3:(s.heap.push PySem.W.emptyDict).Ns s.heap.objs.size (fun _=>none):=⟨PySem.W.emptyDict,#[],_,e1,rfl,(fun e he=>absurd he (by simp)),fun _=>rfl⟩;have I1:=I.laid (a:=s.heap.objs.size) (o:=.own (s.heap.objs.size+1)) (h':=s.heap.push PySem.W.emptyDict) (t':=s.toks) (fun b u q=>Heap.get?_push_of_some _ q) (Nat.le_refl _) ⟨_,e1⟩;refine I1.laid (a:=s.heap.objs.size+1) (o:=.ins C s.heap.objs.size []) (t':=s.toks) (fun b u q=>Heap.get?_push_of_some _ q) (Nat.le_of_eq (Heap.size_push _ _)) ?_
 have ne:s.heap.objs.size≠s.heap.objs.size+1:=Nat.ne_of_lt (Nat.lt_succ_self _);refine⟨by rw[lQ ne,fQ],Nat.zero_le _,ne,e2,fun _=>none,(Heap.Ns1.of_empty e3).at fun o q=>Heap.get?_push_of_some _ q,fun _=>True.intro,fun y hy=>absurd rfl hy⟩
theorem attr_of {prog:Program}{w:World}{env:Env}{e:Expr}{f:Str}{pos:Pos}{s:Shared}{Q:Value->Shared->Prop}(hb:attributeBase e f env (eval e env)=eval e env)
  (h:wpAny (model prog w) A (eval e env) (fun o s₁=>wpAny (model prog w) A (getAttr o f true) Q E s₁) E s):wpAny (model prog w) A (eval (.Attribute e f pos) env) Q E s :=
 Attribute_any_ h (by rw[arm_eval_Attribute,hb])
end
def tFld (K:PySem.W.Frag)(ta:TE)(f:Str):TE:=fun σ H Q=>ta σ H fun x H1=>∃a C dx fs v,x=.ref a/\H1 a=some (.ins C dx fs)/\Cls K C/\NoAttr K C f/\fs.lookup f=some v/\Q v H1
def sFld (K:PySem.W.Frag)(ta tv:TE)(f:Str):TS:=fun D σ H=>tv σ H fun y H1=>ta σ H1 fun x H2=>∃a C dx fs,x=.ref a/\H2 a=some (.ins C dx fs)/\Cls K C/\NoAttr K C f/\fs.length < 1000 /\
 D.nx σ (upd H2 a (.ins C dx (rY f y fs)))
section
variable {X:Cx}{o e value:Expr}{f:Str}{pos pos' tpos:Pos}{ta tv:TE}
theorem pe_fld (he:PE X e ta)(hb:attributeBase e f X.env (eval e X.env)=eval e X.env):PE X (.Attribute e f pos) (tFld X.K ta f):=by
 intro pins s σ H Q I h;refine attr_of hb (thn (he pins s σ H _ I h) fun u s1 ⟨x,H1,I1,rx,a,C,dx,fs,v,ex,ea,c,n,l,q⟩=>?_);subst ex;obtain rfl:u=Value.ref a:=rx;exact xI I1 ea c n l fun u' s2 I2 ru=>⟨v,H1,I2,ru,q⟩
theorem ps_fld (ha:PE X o ta)(hv:PE X value tv)(hs:swapsWith value (some (.Attribute o f pos')) pos.line X.env=pure false):PS X (.Assign [.Attribute o f pos'] value pos) (sFld X.K ta tv f):=by
 intro pins s σ H D I h;refine plainObj_wpAny_Assign_Attribute (thn (hv pins s σ H _ I h) fun u s1 ⟨y,H1,I1,ry,q⟩=>thn (ha pins s1 σ H1 _ I1 q) fun ov s2 ⟨x,H2,I2,rx,a,C,dx,fs,ex,ea,c,n,l,q2⟩=>?_) hs;subst ex;obtain rfl:ov=Value.ref a:=rx;exact tE I2 ea c n l ry fun s3 I3=>⟨σ,_,I3,q2⟩
end
section
variable {X:Cx}{pins:List (Addr×Obj)}{σ:St}{H:Hp}{s:Shared}{A:Around}{E:Value->Shared->Prop}{Q:Value->Shared->Prop}{c:Value}{b:Bool}
inductive rF (K:PySem.W.Frag)(H:Hp):V->Value->Prop where
 |non:rF K H .non (.type "NoneType")
 |bl (x:Bool):rF K H (.bl x) (.type "bool")
 |int (i:Int):rF K H (.int i) (.type "int")
 |str (x:Str):rF K H (.str x) (.type "str")
 |flt (x:UInt64):rF K H (.flt x) (.type "float")
 |lst {a:Addr} {xs:List V} (e:H a=some (.lst xs)):rF K H (.ref a) (.type "list")
 |frz {a:Addr} {o:Obj} {xs:List V} (e:H a=some (.frz o (.lst xs))):rF K H (.ref a) (.type "list")
 |tup {a:Addr} {xs:List V} (e:H a=some (.tup xs)):rF K H (.ref a) (.type "tuple")
 |dK {a:Addr} {kvs:List (Key×V)} (e:H a=some (.dK kvs)):rF K H (.ref a) (.type "dict")
 |dT {a:Addr} {kvs:List (List Key×V)} (e:H a=some (.dT kvs)):rF K H (.ref a) (.type "dict")
 |ins {a C dx:Addr} {fs:List (Str×V)} (e:H a=some (.ins C dx fs)) (cl:Cls K C) (ha:PySem.W.findIn K (.ref C) "__class__" = some (some (.builtin "object.__class__")))
   (hn:PySem.W.specialIn K (.builtin "object.__class__") "__get__" = some (some (.builtin "getset_descriptor.__get__"))) (htk:PySem.W.takesIn K (.builtin "object.__class__")=some true)
   (hm:PySem.W.mroIn K C (.type "object")=some true):rF K H (.ref a) (.ref C)
theorem XI {x:V}{u t:Value}(I:Inv X pins σ H s)(rx:RelV x u)(ty:rF X.K H x t)(e:PySem.W.kitOne X.K t c=some b)(h:∀tk,Q (.bool b) { s with toks:=tk }):
  wpAny (model X.prog X.w) A (call (.builtin "isinstance") [u,c]) Q E s:=by
 cases ty with
 |non=>cases (show u=Value.none from rx); exact PySem.W.kia_one PySem.W.kitx_none I.kIn True.intro e (fun z=>nomatch z) h
 |bl y=>cases (show u=Value.bool y from rx); exact PySem.W.kia_one PySem.W.kitx_bool I.kIn True.intro e (fun z=>nomatch z) h
 |int i=>obtain⟨t,q⟩:=(show ∃t,u=Value.int i t from rx); cases q; exact PySem.W.kia_one PySem.W.kitx_int I.kIn True.intro e (fun z=>nomatch z) h
 |str y=>obtain⟨t,q⟩:=(show ∃t,u=Value.str y t from rx); cases q; exact PySem.W.kia_one PySem.W.kitx_str I.kIn True.intro e (fun z=>nomatch z) h
 |flt y=>obtain⟨t,q⟩:=(show ∃t,u=Value.float y t from rx); cases q; exact PySem.W.kia_one PySem.W.kitx_float I.kIn True.intro e (fun z=>nomatch z) h
 |@lst a xs ea =>
  cases (show u=Value.ref a from rx);obtain⟨_,_,n,_,h1⟩:=(show ObjOk X.prog X.w H s.heap a (.lst xs) from I.hok a _ ea);exact PySem.W.kia_one PySem.W.kitx_list I.kIn ⟨_,h1,rfl⟩ e (fun z=>nomatch z) h
 |@frz a ob xs ea =>
  cases (show u=Value.ref a from rx);obtain⟨_,_,_,n,_,h1⟩:=(show ObjOk X.prog X.w H s.heap a (.frz ob (.lst xs)) from I.hok a _ ea);exact PySem.W.kia_one PySem.W.kitx_list I.kIn ⟨_,h1,rfl⟩ e (fun z=>nomatch z) h
 |@tup a xs ea =>
  cases (show u=Value.ref a from rx);obtain⟨_,_,_,p⟩:=(show ObjOk X.prog X.w H s.heap a (.tup xs) from I.hok a _ ea);obtain⟨o,h1,h2,_⟩:=p;exact PySem.W.kia_one PySem.W.kitx_tuple I.kIn ⟨o,h1,h2⟩ e (fun z=>nomatch z) h
 |@dK a kvs ea =>
  cases (show u=Value.ref a from rx);obtain⟨_,_,vs,_,p⟩:=(show ObjOk X.prog X.w H s.heap a (.dK kvs) from I.hok a _ ea);obtain⟨o,es,ep,h1,h2,_⟩:=p;exact PySem.W.kia_one PySem.W.kitx_dict I.kIn ⟨o,h1,h2.1⟩ e (fun z=>nomatch z) h
 |@dT a kvs ea =>
  cases (show u=Value.ref a from rx);obtain⟨_,_,xs,_,o,es,ep,h1,h2,_⟩:=(show ObjOk X.prog X.w H s.heap a (.dT kvs) from I.hok a _ ea);exact PySem.W.kia_one PySem.W.kitx_dict I.kIn ⟨o,h1,h2.1⟩ e (fun z=>nomatch z) h
 |@ins a C dx fs ea cl ha hn htk hm =>
  cases (show u=Value.ref a from rx);obtain⟨mA,O,_⟩:=lD I.hok ea;obtain⟨od,J,_⟩:=O.look;exact PySem.W.kia_one (PySem.W.kitx_own (cl.get _) cl.hd ha hn htk hm) I.kIn J e (fun z=>nomatch z) h
end
structure Room (k:Nat)(A:Around):Prop where
 hd:A.handled=none
 dp:A.depth+3 * k+5 < recursionLimit
 un:A.units+16 * k+200 < cLine
theorem Room.mono {j k:Nat}{A:Around}(r:Room k A)(h:j<=k):Room j A:=⟨r.hd,by have:=r.dp; omega,by have:=r.un; omega⟩
theorem Room.deeper {k:Nat}{A:Around}(r:Room (k+1) A)(env:Env):Room k (A.deeper env) :=
 ⟨r.hd,by have:=r.dp; show A.depth+1+3 * k+5 < _; omega,by have:=r.un; show A.units+3+16 * k+200 < _; omega⟩
theorem fA {A:Around}{C:Addr}{us:List Value}{kw:List (Str×Value)}:(A.under (.builtin "type.__call__" ⟨.ref C::us,kw⟩)).depth=A.depth+1:=by
 first | rfl | simp[Around.under,Code.weight,Code.isCreation,Code.isGuard,Code.isCaller,Code.frames,Code.isFrame,guardIds]
theorem bA {A:Around}{C:Addr}{us:List Value}{kw:List (Str×Value)}:(A.under (.builtin "type.__call__" ⟨.ref C::us,kw⟩)).units=A.units+1:=by
 first | rfl | simp[Around.under,Code.cUnits,Code.frames,Code.isFrame]
theorem Room.make {k:Nat}{A:Around}(r:Room (k+1) A)(C:Addr)(us:List Value)(kw:List (Str×Value)):Room k (A.under (.builtin "type.__call__" ⟨.ref C::us,kw⟩)) :=
 ⟨r.hd,by have:=r.dp; rw[fA]; omega,by have:=r.un; rw[bA]; omega⟩
theorem Room.depth {k:Nat}{A:Around}(r:Room k A):A.depth < recursionLimit:=by have:=r.dp; omega
theorem Room.units {k:Nat}{A:Around}(r:Room k A):A.units+64 < cLine:=by have:=r.un; omega
def tNil:TA:=fun _ H Q=>Q [] H
def Zs (ta:TE)(tr:TA):TA:=fun σ H Q=>ta σ H fun x H1=>tr σ H1 fun xs H2=>Q (x::xs) H2
section
variable {X:Cx}{e:Expr}{es:List Expr}{te:TE}{t:TA}{pos:Pos}
theorem pa_nil:PA X [] tNil:=fun _ _ _ _ H Q I h=>Calls.spliced_nil ⟨[],H,I,.nil,h⟩
theorem pa_cons (ha:PE X e te)(hr:PA X es t)(hs:starEach (e::es) X.env=(false,eval e X.env)::starEach es X.env:=by rfl):PA X (e::es) (Zs te t):=by
 intro pos pins s σ H Q I h;rw[hs];show wpAny _ _ (spliced ((false,eval e X.env)::backTo pos (starEach es X.env))) _ _ s;refine Calls.spliced_cons (thn (ha pins s σ H _ I h) fun u s1 ⟨x,H1,I1,r1,q1⟩=>?_);exact thn (hr pos pins s1 σ H1 _ I1 q1) fun us s2 ⟨xs,H2,I2,r2,q2⟩=>⟨x::xs,H2,I2,.cons r1 r2,q2⟩
inductive INew (o:List V->HO)(Q:VK)(xs:List V)(H:Hp):Prop
 |mk (h:xs.length<=sizeLine) (q:∀p,H p=none->Q (.ref p) (upd H p (o xs))):INew o Q xs H
def tTup (t:TA):TE:=fun σ H Q=>t σ H (INew .tup Q)
def tLst (t:TA):TE:=fun σ H Q=>t σ H (INew .lst Q)
theorem pe_tup {x1}(h:PA X es t):PE X (.Tuple es x1 pos) (tTup t):=by
 intro pins s σ H Q I hq;refine wpAny_Tuple_spliced (thn (h pos pins s σ H _ I hq) fun us s1 ⟨xs,H1,I1,r,z,q⟩=>⟨by rw[<- r.length]; exact z,?_⟩);have hf:H1 s1.heap.objs.size=none:=I1.hok.fresh (Nat.le_refl _);refine⟨.ref s1.heap.objs.size,upd H1 s1.heap.objs.size (.tup xs),I1.laid (t':=s1.toks) (fun b u e=>Heap.get?_push_of_some _ e) (Nat.le_refl _) ?_,rfl,q _ hf⟩;exact⟨z,us,r,⟨_,Heap.get?_push_size _ rfl,rfl,⟨_,rfl⟩,rfl⟩⟩
theorem pe_lst (h:PA X es t):PE X (.List es pos) (tLst t):=by
 intro pins s σ H Q I hq;refine wpAny_List_spliced (thn (h pos pins s σ H _ I hq) fun us s1 ⟨xs,H1,I1,r,z,q⟩=>⟨by rw[<- r.length]; exact z,?_⟩);have hf:H1 s1.heap.objs.size=none:=I1.hok.fresh (Nat.le_refl _);refine⟨.ref s1.heap.objs.size,upd H1 s1.heap.objs.size (.lst xs),I1.laid (t':=s1.toks) (fun b u e=>Heap.get?_push_of_some _ e) (Nat.le_refl _) ?_,rfl,q _ hf⟩;exact⟨z,us,0,r,Heap.get?_push_size _ rfl⟩
end
abbrev Sp:=List V->Hp->VK->XK->Prop
abbrev CXT:=List Env->Hp->Shared->XK->Value->Shared->Prop
structure Env0 (P:Program)(w:World)(K:PySem.W.Frag)(mg:Str->Option Value)(base:Heap)(A:Around)(outer:List Env)(s:Shared)(H:Hp):Prop where
 frames:A.frames=some outer
 mod:Mod K mg base
 bs:∀b o,base.get? b=some o->s.heap.get? b=some o/\H b=none
 bsz:base.objs.size<=s.heap.objs.size
 funs:s.heap.FunFrames base outer
 frf:∀b∈frs outer,H b=none
 hok:HOk P w H s.heap
 bare:AllBare s.gens
def CE (outer:List Env)(P:Program)(w:World)(H:Hp)(s:Shared)(Q:VK)(u:Value)(s':Shared):Prop :=
 ∃v H',s'.os=s.os/\AllBare s'.gens/\Un (frs outer) [] H H' s.heap s'.heap/\HOk P w H' s'.heap/\RelV v u/\Q v H'
def CR (CX:CXT)(outer:List Env)(P:Program)(w:World)(H:Hp)(s:Shared)(Q:VK)(E:XK)(r:Result)(s':Shared):Prop :=
 match r with
 |.ok (.ret u)=>CE outer P w H s Q u s'
 |.ok _=>False
 |.error e=>CX outer H s E e s'
structure FnOk (P:Program)(w:World)(K:PySem.W.Frag)(mg:Str->Option Value)(base:Heap)(CX:CXT)(k:Nat)(f:Addr)(fd:FuncData)(ps:List Str)(sp:Sp):Prop where
 len:∀vs H Q E,sp vs H Q E->vs.length=ps.length
 run:∀(A:Around) (outer:List Env) (s:Shared) (H:Hp) (args:Args) (us:List Value) (vs:List V) (Q:VK) (E:XK),Room k A->Env0 P w K mg base A outer s H->BindsTo s fd args (ps.zip us)->Vals vs us->sp vs H Q E ->
  codeAny (model P w) A (.call (.ref f) args) (CR CX outer P w H s Q E) s
theorem FnOk.mono {P:Program}{w:World}{K:PySem.W.Frag}{mg:Str->Option Value}{base:Heap}{CX:CXT}{j k:Nat}{f:Addr}{fd:FuncData}{ps:List Str}{sp:Sp}(F:FnOk P w K mg base CX j f fd ps sp)(h:j<=k):
  FnOk P w K mg base CX k f fd ps sp:=⟨F.len,fun A outer s H args us vs Q E hr=>F.run A outer s H args us vs Q E (hr.mono h)⟩
theorem Env0.make {P:Program}{w:World}{K:PySem.W.Frag}{mg:Str->Option Value}{base:Heap}{A:Around}{outer:List Env}{s:Shared}{H:Hp}(e:Env0 P w K mg base A outer s H)(C:Addr)(us:List Value)(kw:List (Str×Value)):
  Env0 P w K mg base (A.under (.builtin "type.__call__" ⟨.ref C::us,kw⟩)) outer s H:=⟨by first | exact e.frames | (simpa [Around.under,Code.envs,Code.isFrame,pushEnvs] using e.frames),e.mod,e.bs,e.bsz,e.funs,e.frf,e.hok,e.bare⟩
section
variable {X:Cx}{pins:List (Addr×Obj)}{σ:St}{H:Hp}{s s':Shared}
theorem Inv.env0 (I:Inv X pins σ H s):Env0 X.prog X.w X.K X.mg X.base X.A X.stack s H :=
 ⟨I.ok.frames,I.ok.mod,I.bs,Nat.le_trans I.ok.bsz I.sz,I.stack,I.stkFree,I.hok,I.bare⟩
theorem Inv.after {Q:VK}{u:Value}(I:Inv X pins σ H s)(h:CE X.stack X.prog X.w H s Q u s'):EP X pins σ Q u s':=by
 obtain⟨v,H',os,bare,un,hok,r,q⟩:=h;obtain⟨hh,g,d,t,os'⟩:=s';obtain rfl:os'=s.os:=os;exact⟨v,H',I.call (h':=hh) (g':=g) (d':=d) (t':=t) (ch:=[]) un hok bare (fun b z=>absurd z (by simp)),r,q⟩
end
def Zu (sp:Sp)(dvs:List V)(E:XK)(t:TA):TE:=fun σ H Q=>t σ H fun vs H1=>sp (vs++dvs) H1 Q E
def tMeth (C:Addr)(m:Str)(sp:Sp)(dvs:List V)(E:XK)(ta:TE)(t:TA):TE:=fun σ H Q=>ta σ H fun x H1=>∃a dx fs,x=.ref a/\H1 a=some (.ins C dx fs)/\fs.lookup m=none /\
 t σ H1 fun vs H2=>sp (x::(vs++dvs)) H2 Q E
def tMake (C:Addr)(sp:Sp)(dvs:List V)(E:XK)(t:TA):TE:=fun σ H Q=>t σ H fun vs H1=>∀x dx,H1 x=none->H1 dx=none->dx≠x ->
 sp (.ref x::(vs++dvs)) (upd (upd H1 dx (.own x)) x (.ins C dx [])) (fun v H2=>v=.non/\Q (.ref x) H2) E
def Binds (K:PySem.W.Frag)(fd:FuncData)(ps:List Str)(ds:List Value):Prop :=
 ∀(s:Shared) (us:List Value),K.In s.heap->(us++ds).length=ps.length->BindsTo s fd ⟨us,[]⟩ (ps.zip (us++ds))
theorem Binds.all {K:PySem.W.Frag}{fd:FuncData}{ps:List Str}(h:∀us:List Value,us.length=ps.length->bindArgs fd ⟨us,[]⟩=pure (ps.zip us)):Binds K fd ps []:=fun s us _ hl=>by
 rw[List.append_nil] at hl ⊢;exact .of_eq (h us hl)
def gW (CX:CXT)(X:Cx)(E:XK):Prop:=∀(pins:List (Addr×Obj)) (σ:St) (H:Hp) (s:Shared) (e:Value) (s':Shared),Inv X pins σ H s->CX X.stack H s E e s'->X.xe e s'
section
variable {X:Cx}{CX:CXT}{k:Nat}{f C:Addr}{fd:FuncData}{ps:List Str}{sp:Sp}{dvs:List V}{ds:List Value}{E:XK}{x m:Str}{p pos apos:Pos}{e o:Expr}{es:List Expr}{ta:TE}{t:TA}
theorem ZA {pins:List (Addr×Obj)}{σ:St}{H:Hp}{s:Shared}{Q:VK}{us:List Value}{vs:List V}(F:FnOk X.prog X.w X.K X.mg X.base CX k f fd ps sp)(hr:Room k X.A)(hb:Binds X.K fd ps ds)(hd:Vals dvs ds)(hx:gW CX X E)
  (I:Inv X pins σ H s) (r:Vals vs us) (h:sp (vs++dvs) H Q E):wpAny (model X.prog X.w) X.A (call (.ref f) us) (EP X pins σ Q) X.xe s:=by
 have r2:Vals (vs++dvs) (us++ds):=r.append hd;have hl:(us++ds).length=ps.length:=by rw[<- r2.length]; exact F.len _ _ _ _ h
 refine wpAny_call (codeAny_mono (F.run X.A X.stack s H ⟨us,[]⟩ (us++ds) (vs++dvs) Q E hr I.env0 (hb s us I.kIn hl) r2 h) fun r s' hq=>?_)
 cases r with
 |error e=>exact hx pins σ H s e s' I hq
 |ok fl =>
  cases fl with
  |ret u=>exact I.after hq
  |next=>exact False.elim hq
  |brk=>exact False.elim hq
  |cont=>exact False.elim hq
theorem pe_call (F:FnOk X.prog X.w X.K X.mg X.base CX k f fd ps sp)(hr:Room k X.A)(hg:Gl X x)(hm:X.mg x=some (.ref f))(hk:PySem.W.keepIn X.K (.ref f)=true)(hb:Binds X.K fd ps ds)(hd:Vals dvs ds)(hx:gW CX X E)
  (ha:PA X (e::es) t) (hdb:(x==("__debug__" : Str))=false:=by decide) (he:starEach (e::es) X.env=(false,eval e X.env)::starEach es X.env:=by rfl) (hpl:(backTo pos (starEach es X.env)).any (·.1)=false:=by rfl) :
  PE X (.Call (.Name x p) (e::es) [] pos) (Zu sp dvs E t):=by
 intro pins s σ H Q I h;refine wpAny_Call_Name_kw (nC I hg hm ?_ hdb);refine PySem.W.callWith_K (h₀:=X.base) I.ok.mod.kin hk (thn (ha pos pins s σ H _ I h) fun us s1 ⟨vs,H1,I1,r,q⟩=>⟨I1.kIn,?_⟩) he hpl;exact ZA F hr hb hd hx I1 r q
theorem pe_meth {pl:Sem Bool}(he:PE X o ta)(c:Cls X.K C)(hm:Meth X.K C m f)(F:FnOk X.prog X.w X.K X.mg X.base CX k f fd ps sp)(hr:Room k X.A)(hb:Binds X.K fd ps ds)(hd:Vals dvs ds)(hx:gW CX X E)(ha:PA X (e::es) t)
  (hst:starEach (e::es) X.env=(false,eval e X.env)::starEach es X.env:=by rfl) (hpl:(backTo pos (starEach es X.env)).any (·.1)=false:=by rfl)
  (ht:eval (.Call (.Attribute o m apos) (e::es) [] pos) X.env=(do
   let ov <- eval o X.env
   standAt apos.atName
   let (f,first) <- holding [ov] (getMethod ov m pl)
   callWith pos f first (backTo pos (starEach (e::es) X.env)) (backToKw pos (keywordEach [] X.env))):=by rfl) :
  PE X (.Call (.Attribute o m apos) (e::es) [] pos) (tMeth C m sp dvs E ta t):=by
 intro pins s σ H Q I h;refine PySem.W.methodCall_KW (pl:=pl) (thn (he pins s σ H _ I h) fun u s1 ⟨x,H1,I1,rx,a,dx,fs,ex,ea,l,q⟩=>?_) ht;subst ex;obtain rfl:u=Value.ref a:=rx;refine jI I1 ea c hm l ?_;refine PySem.W.callWith_K (first:=[.ref a]) (h₀:=X.base) I.ok.mod.kin hm.kp (thn (ha pos pins s1 σ H1 _ I1 q) fun us s2 ⟨vs,H2,I2,r,q2⟩=>⟨I2.kIn,?_⟩) hst hpl;exact ZA (us:=.ref a::us) (vs:=.ref a::vs) F hr hb hd hx I2 (.cons rfl r) q2
structure Mk (K:PySem.W.Frag)(C f:Addr):Prop where
 makes:PySem.W.makesIn K C=true
 init:PySem.W.findIn K (.ref C) "__init__" = some (some (.ref f))
 fn:PySem.W.isFn K (.ref f)=true
 kp:PySem.W.keepIn K (.ref C)=true
theorem Zz {pins:List (Addr×Obj)}{σ:St}{H:Hp}{s:Shared}{Q:VK}{us:List Value}{vs:List V}(M:Mk X.K C f)(F:FnOk X.prog X.w X.K X.mg X.base CX k f fd ps sp)(hr:Room (k+1) X.A)(hb:Binds X.K fd ps ds)(hd:Vals dvs ds)
  (hx:gW CX X E) (I:Inv X pins σ H s) (r:Vals vs us)
  (h:∀x dx,H x=none->H dx=none->dx≠x->sp (.ref x::(vs++dvs)) (upd (upd H dx (.own x)) x (.ins C dx [])) (fun v H2=>v=.non/\Q (.ref x) H2) E) :
  wpAny (model X.prog X.w) X.A (call (.ref C) us) (EP X pins σ Q) X.xe s:=by
 have hq:=h (s.heap.objs.size+1) s.heap.objs.size (I.hok.fresh (Nat.le_succ _)) (I.hok.fresh (Nat.le_refl _)) (Nat.ne_of_lt (Nat.lt_succ_self _));have I2:=Inv.made (C:=C) I;have r2:Vals (V.ref (s.heap.objs.size+1)::(vs++dvs)) (Value.ref (s.heap.objs.size+1)::(us++ds)):=.cons rfl (r.append hd)
 have hl:(Value.ref (s.heap.objs.size+1)::us++ds).length=ps.length:=by
  have e:=r2.length;rw[F.len _ _ _ _ hq] at e;exact e.symm
 refine wpAny_call (Jn (f:=f) I.kIn M.makes M.init (beq_iff_eq.mp M.fn) (codeAny_mono (F.run _ X.stack _ _ ⟨Value.ref (s.heap.objs.size+1)::us,[]⟩ (Value.ref (s.heap.objs.size+1)::(us++ds)) _ _ E (hr.make C us [])
  (I2.env0.make C us []) (hb _ (Value.ref (s.heap.objs.size+1)::us) I2.kIn hl) r2 hq) fun r s' hq'=>?_))
 cases r with
 |error e=>exact hx pins σ _ _ e s' I2 hq'
 |ok fl =>
  cases fl with
  |ret u =>
   obtain⟨v,H',I3,rv,ev,q3⟩:=I2.after hq';subst ev;exact⟨rv,⟨V.ref (s.heap.objs.size+1),H',I3,rfl,q3⟩⟩
  |next=>exact False.elim hq'
  |brk=>exact False.elim hq'
  |cont=>exact False.elim hq'
theorem pe_make (M:Mk X.K C f)(F:FnOk X.prog X.w X.K X.mg X.base CX k f fd ps sp)(hr:Room (k+1) X.A)(hg:Gl X x)(hm:X.mg x=some (.ref C))(hb:Binds X.K fd ps ds)(hd:Vals dvs ds)(hx:gW CX X E)
  (ha:PA X (e::es) t) (hdb:(x==("__debug__" : Str))=false:=by decide) (he:starEach (e::es) X.env=(false,eval e X.env)::starEach es X.env:=by rfl) (hpl:(backTo pos (starEach es X.env)).any (·.1)=false:=by rfl) :
  PE X (.Call (.Name x p) (e::es) [] pos) (tMake C sp dvs E t):=by
 intro pins s σ H Q I h;refine wpAny_Call_Name_kw (nC I hg hm ?_ hdb);refine PySem.W.callWith_K (h₀:=X.base) I.ok.mod.kin M.kp (thn (ha pos pins s σ H _ I h) fun us s1 ⟨vs,H1,I1,r,q⟩=>⟨I1.kIn,?_⟩) he hpl;exact Zz M F hr hb hd hx I1 r q
end
structure FnScope (N P:List Str)(sc:Scope):Prop where
 kind:sc.kind=.function
 co:sc.isCoroutine=false
 gen:sc.isGenerator=false
 nd:N.Nodup
 pre:N.take P.length=P
 par:∀x∈P,sc.names.lookup x=some .local\/sc.names.lookup x=some .cell
 nofree:∀y∈sc.names,y.2≠.free
theorem eN {kindOf:Str->Option NameKind}{x:Str}:∀{binds:List (Str×Value)}{m:Str->Option Value},(∀v,(x,v)∉binds)->bindL kindOf binds m x=m x
 |[],_,_=>rfl
 | (n,v)::r,m,h=>by
  unfold bindL;rw[eN fun w hw=>h w (List.mem_cons_of_mem _ hw)]
  split
  .have:x≠n:=by rintro rfl; exact h v List.mem_cons_self
   simp[this]
  .rfl
theorem iN {kindOf:Str->Option NameKind}{x:Str}:∀{binds:List (Str×Value)}{m:Str->Option Value},(∀v,(x,v)∉binds)->bindC kindOf binds m x=m x
 |[],_,_=>rfl
 | (n,v)::r,m,h=>by
  unfold bindC;rw[iN fun w hw=>h w (List.mem_cons_of_mem _ hw)]
  split
  .rfl
  .have:x≠n:=by rintro rfl; exact h v List.mem_cons_self
   simp[this]
theorem aN {kindOf:Str->Option NameKind}{x:Str}{v:Value}:∀{P:List Str}{vs:List Value}{i:Nat}{m:Str->Option Value},P.Nodup->P[i]?=some x->vs[i]?=some v->kindOf x=some .local ->
  bindL kindOf (P.zip vs) m x=some v
 |[],_,_,_,_,h,_,_=>by simp at h
 |_::_,[],_,_,_,_,h,_=>by simp at h
 |p::P,w::vs,0,m,nd,h1,h2,hk=>by
  simp at h1 h2; subst h1; subst h2
  show bindL kindOf ((p,w)::P.zip vs) m p=_;unfold bindL;rw[eN fun v hv=>(List.nodup_cons.mp nd).1 (List.of_mem_zip hv).1,if_pos hk]
  simp
 |p::P,w::vs,i+1,m,nd,h1,h2,hk=>by
  show bindL kindOf ((p,w)::P.zip vs) m x=_;unfold bindL;exact aN (i:=i) (List.nodup_cons.mp nd).2 (by simpa using h1) (by simpa using h2) hk
theorem qC {kindOf:Str->Option NameKind}{x:Str}{v:Value}:∀{P:List Str}{vs:List Value}{i:Nat}{m:Str->Option Value},P.Nodup->P[i]?=some x->vs[i]?=some v->kindOf x≠some .local ->
  bindC kindOf (P.zip vs) m x=some v
 |[],_,_,_,_,h,_,_=>by simp at h
 |_::_,[],_,_,_,_,h,_=>by simp at h
 |p::P,w::vs,0,m,nd,h1,h2,hk=>by
  simp at h1 h2; subst h1; subst h2
  show bindC kindOf ((p,w)::P.zip vs) m p=_;unfold bindC;rw[iN fun v hv=>(List.nodup_cons.mp nd).1 (List.of_mem_zip hv).1,if_neg hk]
  simp
 |p::P,w::vs,i+1,m,nd,h1,h2,hk=>by
  show bindC kindOf ((p,w)::P.zip vs) m x=_;unfold bindC;exact qC (i:=i) (List.nodup_cons.mp nd).2 (by simpa using h1) (by simpa using h2) hk
def start (N:List Str)(vs:List V):St:=vs.map some++List.replicate (N.length - vs.length) none
def wR (CX:CXT)(P:Program)(w:World)(K:PySem.W.Frag)(mg:Str->Option Value)(base:Heap)(N:List Str)(qual:Str)(scope:Scope)(f:Addr)(cd:Value)(A:Around)(outer:List Env)(s:Shared)(H:Hp)(E:XK):Cx where
 prog:=P
 w:=w
 K:=K
 mg:=mg
 base:=base
 A:=A.deeper (envOfC qual scope s.heap.objs.size f cd)
 N:=N
 s₀:=s
 H₀:=H
 env:=envOfC qual scope s.heap.objs.size f cd
 outer:=outer
 stack:=envOfC qual scope s.heap.objs.size f cd::outer
 ex:=[]
 calm:=true
 fn:=fun _=>true
 pn:=[]
 xe:=fun e s'=>wpAny (model P w) (A.deeper (envOfC qual scope s.heap.objs.size f cd)) (leaving (envOfC qual scope s.heap.objs.size f cd) e) (fun _ s''=>CX outer H s E e s'') (fun e' s''=>CX outer H s E e' s'') s'
theorem sP {sc:Scope}{n:Nat}{x:Str}(h:sc.names.lookup x=some .cell):∃c,(cellsFrom n sc.names []).lookup x=some c:=by
 have q:=PySem.W.cellsFrom_some sc.names n [] (.inl h);exact Option.isSome_iff_exists.mp q
theorem XJ {CX:CXT}{P:Program}{w:World}{K:PySem.W.Frag}{mg:Str->Option Value}{base:Heap}{N ps:List Str}{qual:Str}{scope:Scope}{f:Addr}{cd:Value}{A:Around}{outer:List Env}{s s1:Shared}{H:Hp}{E:XK}{us:List Value}{vs:List V}
  (S:FnScope N ps scope) (hd:A.handled=none) (e0:Env0 P w K mg base A outer s H) (hl:vs.length=ps.length) (r:Vals vs us)
  (x:InCallC s s.heap.objs.size (bindL (envOfC qual scope s.heap.objs.size f cd).kindOf (ps.zip us) fun _=>none) (cellsFrom (s.heap.objs.size+1) scope.names []) (bindC (envOfC qual scope s.heap.objs.size f cd).kindOf (ps.zip us) fun _=>none) s1) :
  Inv (wR CX P w K mg base N qual scope f cd A outer s H E) [] (start N vs) H s1:=by
 have hpl:ps.length<=N.length:=by have:=congrArg List.length S.pre; rw[List.length_take] at this; omega
 obtain⟨h1,tk,rfl,hk⟩:=x.done;have noA:∀b:Addr,b∉(wR CX P w K mg base N qual scope f cd A outer s H E).ex:=fun b z=>absurd (show b∈([]:List Addr) from z) (by simp)
 refine⟨⟨e0.mod,S.kind,rfl,rfl,Nat.le_refl _,fun y z c h1 h2=>?_,fun y hy=>?_,fun y c _ h=>?_,fun _=>hd,Around.frames_deeper e0.frames,.inr ⟨rfl,rfl⟩,fun b z=>absurd z (noA b),e0.bs,e0.bsz,fun b _ _=>noA b,fun b z=>absurd z (noA b),e0.funs,e0.frf⟩,
  rfl,e0.bare,Un.kept hk,⟨_,x.toInCall.ns,fun i y v h1 h2 h3=>?_⟩,fun y c h=>⟨_,x.cell y c h⟩,e0.hok.fresh (Nat.le_refl _),fun y c h=>?_,fun p hp=>absurd (show p∈([]:List (Addr×Obj)) from hp) (by simp),e0.hok.kept hk,?_⟩
 .exact name_of_addr x.apart (PySem.mem_of_lookup h1) (PySem.mem_of_lookup h2)
 .have hy:scope.names.lookup y=some .cell\/scope.names.lookup y=some .free:=hy
  rcases hy with hy | hy
  .exact sP hy
  .exact absurd rfl (S.nofree _ (PySem.mem_of_lookup hy))
 .exact Nat.le_of_lt (x.above y c (PySem.mem_of_lookup h))
 .have hi:i < vs.length:=by
   unfold start at h2
   by_cases hi:i < vs.length
   .exact hi
   .rw [List.getElem?_append_right (by simpa using hi)] at h2
    rw[List.getElem?_replicate] at h2
    split at h2<;>cases h2
  have ha:vs[i]?=some v:=by
   unfold start at h2;rw[List.getElem?_append_left (by simpa using hi),List.getElem?_map] at h2
   cases e:vs[i]? with
   |none=>rw[e] at h2; cases h2
   |some a=>rw[e] at h2; cases h2; rfl
  obtain⟨u,hu,rv⟩:=r.get ha
  have hp:ps[i]?=some y:=by
   rw[<- S.pre,List.getElem?_take_of_lt (by omega)]; exact h1
  have ndP:ps.Nodup:=by rw[<- S.pre]; exact S.nd.sublist (List.take_sublist _ _)
  refine⟨u,rv,?_⟩
  rcases S.par y (List.mem_of_getElem? hp) with k | k
  .exact .inl ⟨k,aN ndP hp hu k⟩
  .obtain ⟨c,e⟩:=sP (n:=s.heap.objs.size+1) k
   refine .inr ⟨.inl k,c,e,?_⟩;have q:=x.cell y c e;rw[qC ndP hp hu (by show scope.names.lookup y≠_; rw[k]; decide)] at q;exact q
 .exact e0.hok.fresh (Nat.le_of_lt (x.above y c (PySem.mem_of_lookup h)))
 .unfold start
  show _=N.length;rw[List.length_append,List.length_map,List.length_replicate];omega
theorem fn_of {CX:CXT}{P:Program}{w:World}{K:PySem.W.Frag}{mg:Str->Option Value}{base:Heap}{k:Nat}{f:Addr}{name qual:Str}{params:Arguments}{body:List Stmt}{scope:Scope}{dV kV doc pm cdv ct oc:Value}{an od:Option Addr}
  {osl:Array (Option Value)} {N ps:List Str} {sp:Sp} (lk:K.lookup f=some ⟨oc,od,.func (PySem.W.fnOf name qual params body scope dV kV doc pm an cdv ct),osl⟩) (hcd:PySem.W.codeIn K cdv qual=true) (S:FnScope N ps scope)
  (len:∀vs H Q E,sp vs H Q E->vs.length=ps.length)
  (hbody:∀(A:Around) (outer:List Env) (s:Shared) (H:Hp) (vs:List V) (Q:VK) (E:XK),Room k (A.deeper (envOfC qual scope s.heap.objs.size f cdv))->sp vs H Q E ->
   ∃t,PSs (wR CX P w K mg base N qual scope f cdv A outer s H E) body t/\t { nx:=fun _ H'=>Q .non H',rt:=Q } (start N vs) H) :
  FnOk P w K mg base CX (k+1) f (PySem.W.fnOf name qual params body scope dV kV doc pm an cdv ct) ps sp:=by
 refine⟨len,fun A outer s H args us vs Q E hr e0 hb r hsp=>?_⟩;have hl:=len _ _ _ _ hsp;have KX:K.In s.heap:=e0.mod.kin.keeps fun b o e=>(e0.bs b o e).1;have lim:s.heap.NoLimit:=e0.mod.nolimit.keeps fun b o e=>(e0.bs b o e).1
 have hkind:∀y∈ps.zip us,scope.names.lookup y.1=some .local\/(scope.names.lookup y.1=some .cell/\((cellsFrom (s.heap.objs.size+1) scope.names []).lookup y.1).isSome=true):=fun⟨n,v⟩ hy=>by
  rcases S.par n (List.of_mem_zip hy).1 with q | q
  .exact .inl q
  .exact .inr ⟨q,PySem.W.cellsFrom_some _ _ _ (.inl q)⟩
 refine codeAny_call_function hr.depth (KX _ _ lk) rfl S.co S.gen rfl (PySem.W.codeRec_of KX hcd) (hb _ _ _ _ ?_);refine wpAny_newFunctionEnv_cells S.kind hkind fun env he s1 x=>?_;subst he;refine⟨lim.keeps x.toInCall.keep,codeAny_func ?_⟩;obtain⟨t,ht,hq⟩:=hbody A outer s H vs Q E (hr.deeper _) hsp;have I:Inv (wR CX P w K mg base N qual scope f cdv A outer s H E) [] (start N vs) H s1:=XJ S hr.hd e0 hl r x
 refine wpAny_mono (ht [] s1 (start N vs) H _ I hq) (fun fl s' hs=>?_) fun e s' hs=>hs
 have fin:∀{σ':St} {H':Hp} {v:V} {u:Value},Inv (wR CX P w K mg base N qual scope f cdv A outer s H E) [] σ' H' s'->RelV v u->Q v H'->CE outer P w H s Q u s' :=
  fun {σ' H' v u} J rv q=>⟨v,H',J.os,J.bare,J.base,J.hok,rv,q⟩
 cases fl with
 |ret u =>
  obtain⟨v,σ',H',J,rv,q⟩:=hs;exact fin J rv q
 |next =>
  obtain⟨σ',H',J,q⟩:=hs;exact fin (v:=V.non) (u:=Value.none) J rfl q
 |brk =>
  obtain⟨_,_,_,q⟩:=hs;exact False.elim q
 |cont =>
  obtain⟨_,_,_,q⟩:=hs;exact False.elim q
section
variable {X:Cx}{x:Str}{p pos:Pos}{e:Expr}{es:List Expr}{t:TA}{id T:String}{r:List V->Hp->VK->Prop}
def tCB (r:List V->Hp->VK->Prop)(t:TA):TE:=fun σ H Q=>t σ H fun vs H1=>r vs H1 Q
theorem Z3 (hc:CallR X (.builtin id) r)(hg:Gl X x)(hm:X.mg x=none)(hv:bootBuiltins x=some (.builtin id))(ha:PA X (e::es) t)(hn:x ≠ "__name__":=by decide)(hdb:(x==("__debug__" : Str))=false:=by decide)
  (he:starEach (e::es) X.env=(false,eval e X.env)::starEach es X.env:=by rfl) (hpl:(backTo pos (starEach es X.env)).any (·.1)=false:=by rfl):PE X (.Call (.Name x p) (e::es) [] pos) (tCB r t):=by
 intro pins s σ H Q I h;refine wpAny_Call_Name_kw (sC I hg hm hv ?_ hn hdb);exact PyProof.Rows.callWith_builtin1 (thn (ha pos pins s σ H _ I h) fun us s1 ⟨vs,H1,I1,r1,q1⟩=>hc pins s1 σ H1 vs us Q I1 r1 q1) he hpl
theorem Xm (hc:CallR X (.type T) r)(hg:Gl X x)(hm:X.mg x=none)(hv:bootBuiltins x=some (.type T))(ha:PA X (e::es) t)(hn:x ≠ "__name__":=by decide)(hdb:(x==("__debug__" : Str))=false:=by decide)
  (he:starEach (e::es) X.env=(false,eval e X.env)::starEach es X.env:=by rfl) (hpl:(backTo pos (starEach es X.env)).any (·.1)=false:=by rfl):PE X (.Call (.Name x p) (e::es) [] pos) (tCB r t):=by
 intro pins s σ H Q I h;refine wpAny_Call_Name_kw (sC I hg hm hv ?_ hn hdb);exact PyProof.Rows.callWith_type1 (thn (ha pos pins s σ H _ I h) fun us s1 ⟨vs,H1,I1,r1,q1⟩=>hc pins s1 σ H1 vs us Q I1 r1 q1) he hpl
end
end L2
namespace HT
open PySem PyProof.Rows
section
variable {prog:Program}{w:World}{A:Around}{E:Value->Shared->Prop}{s:Shared}
theorem cat_tup {t b:Addr}{vs ws:List Value}{Q:Value->Shared->Prop}(ht:IsTup s.heap t vs.toArray)(hb:IsTup s.heap b ws.toArray)(hv:vs≠[])
  (h1:ws=[]->Q (.ref t) s) (h2:ws≠[]->Q (.ref s.heap.objs.size) { s with heap:=s.heap.push { cls:=.type "tuple",data:=.seq (vs++ws).toArray } })
  (hsz:vs.length+ws.length<=sizeLine):wpAny (model prog w) A (binaryOp .Add (.ref t) (.ref b)) Q E s:=by
 obtain⟨⟨cls,dd,data,sl⟩,ho,hc,n,hd⟩:=id ht;obtain⟨⟨cls2,dd2,data2,sl2⟩,ho2,hc2,n2,hd2⟩:=id hb
 simp only at hc hd hc2 hd2
 subst hc hd hc2 hd2;have e:vs.toArray++ws.toArray=(vs++ws).toArray:=by simp
 by_cases hw:ws=[]
 .exact concat_meets ⟨_,ho,rfl⟩ ⟨_,ho2,rfl⟩ noFill_tuple_add seq_tuple_add PySem.F.slot_tuple_add PySem.F.entry_tuple_add (PySem.F.args_tuple_add_2 _ _)
   (tuple_addW1 t b vs.toArray ws.toArray n n2 dd dd2 sl sl2 (by simpa using hv) (by simp[hw])) ⟨ho,ho2,h1 hw⟩
 .refine concat_meets ⟨_,ho,rfl⟩ ⟨_,ho2,rfl⟩ noFill_tuple_add seq_tuple_add PySem.F.slot_tuple_add PySem.F.entry_tuple_add (PySem.F.args_tuple_add_2 _ _)
   (tuple_addW2 t b vs.toArray ws.toArray n n2 dd dd2 sl sl2 (by simpa using hv) (by simpa using hw) (by rw[List.size_toArray,List.size_toArray]; exact hsz)) ⟨ho,ho2,?_⟩
  rw[e];exact h2 hw
def sIx (n d:Nat):Option Int->Nat
 |none=>d
 |some v=>if v < 0 then (v+(n:Int)).toNat else min v.toNat n
theorem sIx_none (n d:Nat):sIx n d none=d:=rfl
theorem sIx_nat (n d k:Nat):sIx n d (some (k:Int))=min k n:=by
 show(if (k:Int) < 0 then ((k:Int)+(n:Int)).toNat else min (k:Int).toNat n)=min k n;rw[if_neg (by omega),Int.toNat_natCast]
theorem sIx_le (n d:Nat)(hd:d<=n)(o:Option Int):sIx n d o<=n:=by
 cases o with
 |none=>exact hd
 |some v =>
  show(if v < 0 then (v+(n:Int)).toNat else min v.toNat n)<=n
  by_cases hv:v < 0
  .rw [if_pos hv]; omega
  .rw [if_neg hv]; exact Nat.min_le_right _ _
theorem QU (v:Int)(n d:Nat):(if v < 0 then max (v+(n:Int)) 0 else min v (n:Int))=((sIx n d (some v):Nat):Int):=by
 show(if v < 0 then max (v+(n:Int)) 0 else min v (n:Int))=(((if v < 0 then (v+(n:Int)).toNat else min v.toNat n):Nat):Int)
 by_cases hv:v < 0
 .simp only[if_pos hv]; omega
 .simp only[if_neg hv]; omega
theorem Qa (lo hi:Option Int)(n:Nat):Builtin.Slice.sliceAdjust lo hi 1 (n:Int)=(((sIx n 0 lo:Nat):Int),((sIx n n hi:Nat):Int)):=by
 have h1:¬ ((1:Int) < 0):=by omega
 unfold Builtin.Slice.sliceAdjust
 simp only[h1,if_false]
 refine Prod.ext ?_ ?_
 .cases lo with
  |none=>rfl
  |some v=>exact QU v n 0
 .cases hi with
  |none=>rfl
  |some v=>exact QU v n n
theorem zA (i j:Nat):Builtin.Slice.slicePlaces (i:Int) (j:Int) 1=j - i:=by
 unfold Builtin.Slice.slicePlaces;have h1:(1:Int) > 0:=by omega
 simp only[h1,if_true,Int.ediv_one]
 split<;>omega
theorem cL {v:Value}{o:Option Int}{Q:Option Int->Shared->Prop}(p:IsPart v o)(h:Q o s):wpAny (model prog w) A (Builtin.Slice.slicePartIndex v) Q E s:=by
 cases p with
 |none=>exact slicePart_none h
 |int i t=>exact slicePart_int h
theorem iM {sl:Addr}{vl vu:Value}{lo hi:Option Int}{n:Nat}{Q:Int×Int×Nat->Shared->Prop}(hs:s.heap.IsSliceOf sl vl vu .none)(pl:IsPart vl lo)(pu:IsPart vu hi)
  (h:Q (((sIx n 0 lo:Nat):Int),1,sIx n n hi - sIx n 0 lo) s):wpAny (model prog w) A (Builtin.Slice.sliceApplied (.ref sl) (pure (n:Int))) Q E s:=by
 obtain⟨os,hos,hcs,hds⟩:=id hs;unfold Builtin.Slice.sliceApplied Builtin.Slice.sliceFields;refine wpAny_bind (wpAny_bind (wpAny_field hos hds (x:=vl) rfl (wpAny_bind (wpAny_field hos hds (x:=vu) rfl (wpAny_bind (wpAny_field hos hds (x:=.none) rfl (wpAny_pure ?_)))))));refine wpAny_bind (slicePart_none ?_);show wpAny _ _ (if ((1:Int)==0)=true then _ else _) _ _ s;rw[if_neg (by decide)];refine wpAny_bind (cL pl (wpAny_bind (cL pu (wpAny_bind (wpAny_pure ?_)))))
 show wpAny _ _ (match Builtin.Slice.sliceAdjust lo hi 1 (n:Int) with | (lo,hi)=>pure (lo,(1:Int),Builtin.Slice.slicePlaces lo hi 1)) _ _ s;rw[Qa lo hi n];show wpAny _ _ (pure (((sIx n 0 lo:Nat):Int),(1:Int),Builtin.Slice.slicePlaces ((sIx n 0 lo:Nat):Int) ((sIx n n hi:Nat):Int) 1)) _ _ s;rw[zA];exact wpAny_pure h
theorem ZU (xs:Array Value)(i k:Nat):((List.range k).filterMap fun(m:Nat)=>xs[((i:Int)+(m:Int) * 1).toNat]?).toArray=((xs.toList.drop i).take k).toArray:=by
 have e:(fun(m:Nat)=>xs[((i:Int)+(m:Int) * 1).toNat]?)=fun m=>xs[i+m]?:=by
  funext m
  have:((i:Int)+(m:Int) * 1).toNat=i+m:=by omega
  rw[this]
 rw[e];have:=pick_run xs i k;rw[List.filterMap_map] at this;have e2:((fun x=>xs[x]?) ∘ fun x=>i+x)=fun m=>xs[i+m]?:=rfl;rw[e2] at this;rw[this]
theorem getItem_tuple_cut {t sl:Addr}{items:Array Value}{vl vu:Value}{lo hi:Option Int}{Q:Value->Shared->Prop}(ht:IsTup s.heap t items)(hs:s.heap.IsSliceOf sl vl vu .none)(pl:IsPart vl lo)(pu:IsPart vu hi)
  (hw:¬ (sIx items.size 0 lo=0/\sIx items.size items.size hi=items.size))
  (h:Q (.ref s.heap.objs.size) { s with heap:=s.heap.push { cls:=.type "tuple",data:=.seq ((items.toList.drop (sIx items.size 0 lo)).take (sIx items.size items.size hi - sIx items.size 0 lo)).toArray } })
  (hsz:items.size<=sizeLine):wpAny (model prog w) A (getItem (.ref t) (.ref sl)) Q E s:=by
 have htake:sizeOk (.seq ((items.toList.drop (sIx items.size 0 lo)).take (sIx items.size items.size hi - sIx items.size 0 lo)).toArray):=by
  show((items.toList.drop (sIx items.size 0 lo)).take (sIx items.size items.size hi - sIx items.size 0 lo)).toArray.size<=sizeLine;rw[List.size_toArray,List.length_take,List.length_drop,Array.length_toList];omega
 have hj:sIx items.size items.size hi<=items.size:=sIx_le _ _ (Nat.le_refl _) hi;obtain⟨os,hos,hcs,hds⟩:=id hs;have hTs:s.TypeIs (.ref sl) "slice":=⟨os,hos,hcs⟩;unfold getItem
 try with_reducible refine wpAny_holding ?_
 first | refine wpAny_bind (wpAny_pure ?_) | skip
 refine wpAny_bind (wpAny_sequenceKey ht.typeIs (by decide) ?_)
 refine wpAny_bind (wpAny_callSpecial?_slot (name:=Str.ofString "__getitem__") ht.typeIs PyProof.Rows.slot_tuple_getitem
  (wpAny_call_entry PyProof.Rows.slot_tuple_getitem ht.typeIs entry_tuple_getitem ?_ (args_tuple_getitem _ _)))
 show wpAny _ _ (Builtin.Tuple.tupleItemsOf (.ref t) >>= _) _ _ s;refine wpAny_bind (tupleItemsOf_ ht ?_);refine wpAny_bind (wpAny_typeOf hTs ?_);rw[if_pos (by decide)];refine wpAny_bind (iM hs pl pu ?_)
 have hno:¬ ((((sIx items.size 0 lo:Nat):Int)==0&&(1:Int)==1&&(sIx items.size items.size hi - sIx items.size 0 lo)==items.size)=true):=by
  intro q;rw[Bool.and_eq_true,Bool.and_eq_true] at q;have q1:((sIx items.size 0 lo:Nat):Int)=0:=eq_of_beq q.1.1;have q2:sIx items.size items.size hi - sIx items.size 0 lo=items.size:=eq_of_beq q.2;exact hw ⟨by omega,by omega⟩
 show wpAny _ _ (if (((sIx items.size 0 lo:Nat):Int)==0&&(1:Int)==1&&(sIx items.size items.size hi - sIx items.size 0 lo)==items.size)=true then _ else _) _ _ s;rw[if_neg hno,ZU]
 first
  |exact wpAny_bind (m:=Builtin.Tuple.tupleExact _) (wpAny_newObj_type (wpAny_pure ⟨_,rfl,wpAny_pure h⟩) htake)
  |exact wpAny_bind (m:=Builtin.Tuple.tupleExact _) (wpAny_newObj_type (wpAny_bind (wpAny_pure (wpAny_pure ⟨_,rfl,wpAny_pure h⟩))) htake)
  |exact wpAny_bind (wpAny_bind (m:=Builtin.Tuple.tupleExact _) (wpAny_newObj_type (wpAny_pure (wpAny_pure ⟨_,rfl,wpAny_pure h⟩)) htake))
  |exact wpAny_bind (wpAny_bind (m:=Builtin.Tuple.tupleExact _) (wpAny_newObj_type (wpAny_pure ⟨_,rfl,wpAny_pure h⟩) htake))
end
end HT
namespace L2
open PySem PySem.Spec PyProof.Rows
abbrev TO:=St->Hp->(Option Int->Hp->Prop)->Prop
def PO (X:Cx)(e:Option Expr)(t:TO):Prop :=
 ∀(pins:List (Addr×Obj)) (s:Shared) (σ:St) (H:Hp) (Q:Option Int->Hp->Prop),Inv X pins σ H s->t σ H Q ->
  wpAny (model X.prog X.w) X.A (evalPart e X.env) (fun u s'=>∃o H',Inv X pins σ H' s'/\IsPart u o/\Q o H') X.xe s
def Ql:TO:=fun _ H Q=>Q none H
def tPart (t:TE):TO:=fun σ H Q=>t σ H fun x H1=>∃i,x=.int i/\Q (some i) H1
section
variable {X:Cx}{e:Expr}{te:TE}{lo hi:Option Expr}{tl th:TO}{pos p2:Pos}
theorem po_none:PO X none Ql:=by
 intro pins s σ H Q I h;rw[evalPart_none];exact wpAny_pure ⟨none,H,I,.none,h⟩
theorem po_some (h:PE X e te):PO X (some e) (tPart te):=by
 intro pins s σ H Q I hw;rw[evalPart_some];refine thn (h pins s σ H _ I hw) fun u s1 ⟨x,H1,I1,r1,q1⟩=>?_;obtain⟨i,rfl,q⟩:=q1;obtain⟨t,rfl⟩:=r1;exact⟨some i,H1,I1,.int i t,q⟩
def SlR (X:Cx)(r:V->Option Int->Option Int->Hp->VK->Prop):Prop :=
 ∀(pins:List (Addr×Obj)) (s:Shared) (σ:St) (H:Hp) (x:V) (v vl vu:Value) (lo hi:Option Int) (sl:Addr) (Q:VK),Inv X pins σ H s->RelV x v->s.heap.IsSliceOf sl vl vu .none->IsPart vl lo->IsPart vu hi->r x lo hi H Q ->
  ∃T id,typeLookup (.type T) "__getitem__" = pure (some (.builtin id))/\s.TypeIs v T/\wpAny (model X.prog X.w) X.A (getItem v (.ref sl)) (EP X pins σ Q) X.xe s
def tSl (r:V->Option Int->Option Int->Hp->VK->Prop)(te:TE)(tl th:TO):TE:=fun σ H Q=>te σ H fun x H1=>tl σ H1 fun l H2=>th σ H2 fun u H3=>r x l u H3 Q
theorem ZX {r:V->Option Int->Option Int->Hp->VK->Prop}(hr:SlR X r)(he:PE X e te)(hl:PO X lo tl)(hu:PO X hi th):PE X (.Subscript e (.Slice lo hi none p2) pos) (tSl r te tl th):=by
 intro pins s σ H Q I h;refine Subscript_ (thn (he pins s σ H _ I h) fun v s1 ⟨x,H1,I1,r1,q1⟩=>?_);refine wpAny_Slice (thn (hl pins s1 σ H1 _ I1 q1) fun vl s2 ⟨l,H2,I2,pl,q2⟩=>thn (hu pins s2 σ H2 _ I2 q2) fun vu s3 ⟨u,H3,I3,pu,q3⟩=>?_);rw[evalPart_none];refine wpAny_pure ?_;have I4:Inv X pins σ H3 { s3 with heap:=s3.heap.push { cls:=.type "slice",data:=.fields #[vl,vu,.none] } }:=I3.kept (t':=s3.toks) fun b ob q=>Heap.get?_push_of_some _ q
 obtain⟨T,id,hT,ht,hg⟩:=hr pins { s3 with heap:=s3.heap.push { cls:=.type "slice",data:=.fields #[vl,vu,.none] } } σ H3 x v vl vu l u s3.heap.objs.size Q I4 r1 (Heap.IsSliceOf.new ..) pl pu q3;show wpAny (model X.prog X.w) X.A (subscriptTail e (.Slice lo hi none p2) v (.ref s3.heap.objs.size)) (EP X pins σ Q) X.xe { s3 with heap:=s3.heap.push { cls:=.type "slice",data:=.fields #[vl,vu,.none] } };exact tail_any (ops:=[.ref s3.heap.objs.size,v]) ht hT hg (by with_unfolding_all rfl)
def lO (xs:List V)(lo hi:Option Int):List V:=(xs.drop (HT.sIx xs.length 0 lo)).take (HT.sIx xs.length xs.length hi - HT.sIx xs.length 0 lo)
theorem kD (xs:List V)(lo hi:Option Int):(lO xs lo hi).length<=xs.length:=by
 unfold lO;rw[List.length_take,List.length_drop];omega
def rSlT (K:PySem.W.Frag):V->Option Int->Option Int->Hp->VK->Prop:=fun x lo hi H Q=>∃a xs,x=.ref a/\SqT K H a xs /\
 ¬ (HT.sIx xs.length 0 lo=0/\HT.sIx xs.length xs.length hi=xs.length)/\∀p,H p=none->Q (.ref p) (upd H p (.tup (lO xs lo hi)))
theorem sl_tup:SlR X (rSlT X.K):=by
 intro pins s σ H x v vl vu lo hi sl Q I rx hs pl pu h;obtain⟨a,xs,rfl,hx,hw,q⟩:=h;cases rx;obtain⟨its,r,ht,hz⟩:=I.tuple hx;have hlen:its.toArray.size=xs.length:=by rw[List.size_toArray]; exact r.length.symm
 refine⟨"tuple",_,PyProof.Rows.slot_tuple_getitem.lookup,ht.typeIs,?_⟩;refine HT.getItem_tuple_cut ht hs pl pu (by rw[hlen]; exact hw) ?_ (by rw[hlen]; exact hz);rw[hlen];refine⟨.ref s.heap.objs.size,_,I.laid (t':=s.toks) (o:=.tup (lO xs lo hi)) (fun b ob q=>Heap.get?_push_of_some _ q) (Nat.le_refl _) ?_,rfl,q _ (I.hok.fresh (Nat.le_refl _))⟩;exact⟨Nat.le_trans (kD xs lo hi) hz,_,(r.drop (HT.sIx xs.length 0 lo)).take (HT.sIx xs.length xs.length hi - HT.sIx xs.length 0 lo),IsTupN.new _ _⟩
def rCatT (K:PySem.W.Frag):R2:=fun x y H Q=>∃a b xs ys,x=.ref a/\y=.ref b/\SqT K H a xs/\SqT K H b ys/\xs≠[]/\xs.length+ys.length<=sizeLine /\
 (ys=[]->Q (.ref a) H)/\(ys≠[]->∀p,H p=none->Q (.ref p) (upd H p (.tup (xs++ys))))
theorem Vals.nil_iff {xs:List V}{us:List Value}(r:Vals xs us):us=[]↔xs=[]:=by
 cases r with
 |nil=>simp
 |cons _ _=>simp
theorem op_catT:OpR X (binaryOp .Add) (rCatT X.K):=by
 intro pins s σ H x y v u Q I rx ry h;obtain⟨a,b,xs,ys,rfl,rfl,ha,hb,hx,hz,q1,q2⟩:=h;cases rx;cases ry;obtain⟨its,r1,p1,_⟩:=I.tuple ha;obtain⟨its2,r2,p2,_⟩:=I.tuple hb;refine HT.cat_tup p1 p2 (fun z=>hx (r1.nil_iff.mp z)) (fun z=>⟨.ref a,H,I,rfl,q1 (r2.nil_iff.mp z)⟩) (fun z=>?_) (by rw[<- r1.length,<- r2.length]; exact hz);refine⟨.ref s.heap.objs.size,_,I.laid (t':=s.toks) (o:=.tup (xs++ys)) (fun b ob q=>Heap.get?_push_of_some _ q) (Nat.le_refl _) ?_,rfl,q2 (fun w=>z (r2.nil_iff.mpr w)) _ (I.hok.fresh (Nat.le_refl _))⟩
 exact⟨by rw[List.length_append]; exact hz,_,r1.append r2,IsTupN.new _ _⟩
end
def ixN (n:Nat)(i:Int):Option Nat:=if 0<=i then (if i < n then some i.toNat else none) else if -(n:Int)<=i then some (i+n).toNat else none
def atI {α:Type}(xs:List α)(i:Int):Option α:=(ixN xs.length i).bind fun j=>xs[j]?
theorem QE {n:Nat}{i:Int}{j:Nat}(h:ixN n i=some j):seqIndex? i n=some j/\j < n/\-(n:Int)<=i/\i < n:=by
 unfold ixN at h
 by_cases h0:0<=i
 .rw [if_pos h0] at h
  by_cases h1:i < n
  .rw [if_pos h1] at h
   have e:i.toNat=j:=Option.some.inj h;exact⟨by rw[seqIndex_of h0 h1,e],by omega,by omega,h1⟩
  .rw [if_neg h1] at h; cases h
 .rw [if_neg h0] at h
  by_cases h1 : -(n:Int)<=i
  .rw [if_pos h1] at h
   have e:(i+n).toNat=j:=Option.some.inj h;exact⟨by rw[seqIndex_neg (by omega) h1,e],by omega,h1,by omega⟩
  .rw [if_neg h1] at h; cases h
theorem qS {α:Type}{xs:List α}{i:Int}{v:α}(h:atI xs i=some v):∃j,seqIndex? i xs.length=some j/\xs[j]?=some v/\j < xs.length/\-(xs.length:Int)<=i/\i < xs.length:=by
 unfold atI at h
 cases e:ixN xs.length i with
 |none=>rw[e] at h; cases h
 |some j =>
  rw[e] at h;obtain⟨h1,h2,h3,h4⟩:=QE e;exact⟨j,h1,h,h2,h3,h4⟩
def kL (b:Expr):Prop:=∀o i,subscripted b false o i=operate [o,i] (getItem o i)
def IxR (X:Cx)(r:R2):Prop :=
 ∀(value slice:Expr) (pins:List (Addr×Obj)) (s:Shared) (σ:St) (H:Hp) (x y:V) (v u:Value) (Q:VK),Inv X pins σ H s->RelV x v->RelV y u->r x y H Q ->
  subscripted slice false v u=operate [v,u] (getItem v u)->wpAny (model X.prog X.w) X.A (subscriptTail value slice v u) (EP X pins σ Q) X.xe s
def MtR (X:Cx)(id:String)(r:V->List V->Hp->VK->Prop):Prop :=
 ∀(pins:List (Addr×Obj)) (s:Shared) (σ:St) (H:Hp) (x:V) (xs:List V) (v:Value) (us:List Value) (Q:VK),Inv X pins σ H s->RelV x v->Vals xs us->r x xs H Q ->
  wpAny (model X.prog X.w) X.A (call (.builtin id) (v::us)) (EP X pins σ Q) X.xe s
section
variable {X:Cx}{a b:Expr}{ta tb:TE}{pos:Pos}
theorem IxR.or {r r':R2}(h:IxR X r)(h':IxR X r'):IxR X (fun x y H Q=>r x y H Q\/r' x y H Q):=by
 intro value slice pins s σ H x y v u Q I rx ry q hs
 rcases q with q | q
 .exact h value slice pins s σ H x y v u Q I rx ry q hs
 .exact h' value slice pins s σ H x y v u Q I rx ry q hs
theorem pe_ix {r:R2}(hr:IxR X r)(ha:PE X a ta)(hb:PE X b tb)(hs:kL b):PE X (.Subscript a b pos) (tOp r ta tb):=by
 intro pins s σ H Q I h;exact Subscript_ (binT ha hb I h fun v u s2 x y H2 I2 rx ry q=>hr a b pins s2 σ H2 x y v u Q I2 rx ry q (hs _ _))
inductive IIx (S:Hp->Addr->List V->Prop)(x y:V)(H:Hp)(Q:VK):Prop
 |mk (p:Addr) (xs:List V) (i:Int) (v:V) (h:x=.ref p) (h':y=.int i) (s:S H p xs) (a:atI xs i=some v) (q:Q v H):IIx S x y H Q
def rIxL (K:PySem.W.Frag):R2:=IIx (SqL K)
def rIxT (K:PySem.W.Frag):R2:=IIx (SqT K)
def rIxS:R2:=fun x y H Q=>∃z i c,x=.str z/\y=.int i/\z.length<=sizeLine/\atI z.cps.toList i=some c/\Q (.str ⟨#[c]⟩) H
theorem ix_list:IxR X (rIxL X.K):=by
 intro value slice pins s σ H x y v u Q I rx ry h hs;obtain⟨p,xs,i,z,rfl,rfl,hq,he,q⟩:=h;cases rx;obtain⟨t,rfl⟩:=ry;obtain⟨its,r,pl,hz⟩:=I.list hq;obtain⟨j,h1,h2,h3,h4,h5⟩:=qS he;obtain⟨w,ew,rw'⟩:=r.get h2;have hl:=r.length;have hn:=wF;have fin:EP X pins σ Q w s:=⟨z,H,I,rw',q⟩
 by_cases h0:0<=i
 .have hj:i.toNat=j:=by
   rw[seqIndex_of h0 h5] at h1;exact Option.some.inj h1
  exact item_listR pl.isList h0 (by omega) (by rw[hj]; simpa using ew) fin hs
 .have hj:(i+(its.toArray.size:Int)).toNat=j:=by
   rw[seqIndex_neg (by omega) h4] at h1;rw[List.size_toArray,<- hl];exact Option.some.inj h1
  exact subscriptTail_builtinR (x:=w) pl.isList.typeIs slot_list_getitem.lookup
   (wpAny_getItem_list_neg (Q:=fun r s'=>r=w/\EP X pins σ Q r s') pl.isList (by omega) (by rw[List.size_toArray]<;>omega) (by omega) (by rw[hj]; simpa using ew) ⟨rfl,fin⟩) hs
theorem ix_tup:IxR X (rIxT X.K):=by
 intro value slice pins s σ H x y v u Q I rx ry h hs;obtain⟨p,xs,i,z,rfl,rfl,hq,he,q⟩:=h;cases rx;obtain⟨t,rfl⟩:=ry;obtain⟨its,r,pl,hz⟩:=I.tuple hq;obtain⟨j,h1,h2,h3,h4,h5⟩:=qS he;obtain⟨w,ew,rw'⟩:=r.get h2;have hl:=r.length;have hn:=wF;have fin:EP X pins σ Q w s:=⟨z,H,I,rw',q⟩
 exact subscriptTail_builtinR (x:=w) pl.typeIs slot_tuple_getitem.lookup
  (getItem_tuple (j:=j) (Q:=fun r s'=>r=w/\EP X pins σ Q r s') pl (by omega) (by omega) (by rw[List.size_toArray,<- hl]; exact h1) (by simpa using ew) ⟨rfl,fin⟩) hs
theorem ix_str:IxR X rIxS:=by
 intro value slice pins s σ H x y v u Q I rx ry h hs;obtain⟨z,i,c,rfl,rfl,hz,he,q⟩:=h;obtain⟨t,rfl⟩:=rx;obtain⟨t',rfl⟩:=ry;obtain⟨j,h1,h2,h3,h4,h5⟩:=qS he;have hl:z.cps.toList.length=z.length:=by simp[Str.length]
 rw[hl] at h1 h4 h5;have hn:=wF
 exact tail_any (typeIs_str s z t) slot_str_getitem.lookup (getItem_str (c:=c) (by
  have e1:decide (i < -(2 ^ 63:Int))=false:=decide_eq_false (by omega);have e2:decide (i >= 2 ^ 63)=false:=decide_eq_false (by omega)
  rw[e1,e2,Bool.or_false]) (by rw[h1]; simpa using h2) ⟨.str ⟨#[c]⟩,H,I.tok _,⟨_,rfl⟩,q⟩) hs
def rIx (K:PySem.W.Frag):R2:=fun x y H Q=>rIxL K x y H Q\/rIxT K x y H Q\/rIxS x y H Q
theorem ix_seq:IxR X (rIx X.K):=ix_list.or (ix_tup.or ix_str)
theorem gA (its:List Value)(n j:Nat)(u:Value):Obj.mapSeq (·.setIfInBounds j u) { cls:=.type "list",data:=.seq its.toArray n }={ cls:=.type "list",data:=.seq (its.set j u).toArray n }:=by
 simp[Obj.mapSeq]
theorem Inv.lst {pins:List (Addr×Obj)}{σ:St}{H:Hp}{s:Shared}{p:Addr}{xs:List V}(I:Inv X pins σ H s)(h:H p=some (.lst xs)):
  ∃(its:List Value) (n:Nat),Vals xs its/\s.heap.get? p=some { cls:=.type "list",data:=.seq its.toArray n }/\xs.length<=sizeLine:=by
 obtain⟨z,its,n,r,e⟩:=I.hok p _ h;exact⟨its,n,r,e,z⟩
theorem Inv.lstUpd {pins:List (Addr×Obj)}{σ:St}{H:Hp}{s:Shared}{p:Addr}{xs ys:List V}{its its':List Value}{n n':Nat}{f:Obj->Obj}(I:Inv X pins σ H s)(h:H p=some (.lst xs))
  (ho:s.heap.get? p=some { cls:=.type "list",data:=.seq its.toArray n }) (hf:f { cls:=.type "list",data:=.seq its.toArray n }={ cls:=.type "list",data:=.seq its'.toArray n' }) (r:Vals ys its') (hz:ys.length<=sizeLine) (t:Nat) :
  Inv X pins σ (upd H p (.lst ys)) { s with heap:=s.heap.update p f,toks:=t }:=by
 have e:(s.heap.update p f).get? p=some { cls:=.type "list",data:=.seq its'.toArray n' }:=by
  rw[Heap.get?_update_self f ho (by rw[hf]<;>rfl),hf]
 refine I.write (x:=p) (e:=p) (by rw[h]; trivial) (.inl rfl) (fun b u hb q=>(Heap.get?_update_other _ _ (Ne.symm hb)).trans q) ⟨_,e⟩ ?_;exact⟨hz,its',n',r,e⟩
def rSetL:V->V->V->Hp->(Hp->Prop)->Prop:=fun o i v H Q=>∃p xs k j,o=.ref p/\i=.int k/\H p=some (.lst xs)/\ixN xs.length k=some j/\Q (upd H p (.lst (xs.set j v)))
theorem Zy:PSet X rSetL:=by
 intro pins s σ H o i v ov iv u Q I ro ri rv h;obtain⟨p,xs,k,j,rfl,rfl,hp,hj,q⟩:=h;cases ro;obtain⟨t,rfl⟩:=ri;obtain⟨its,n,r,ho,hz⟩:=I.lst hp;obtain⟨h1,h2,h3,h4⟩:=QE hj;have hl:=r.length;have hn:=wF
 have I':Inv X pins σ (upd H p (.lst (xs.set j v))) { s with heap:=s.heap.update p (Obj.mapSeq (·.setIfInBounds j u)) } :=
  I.lstUpd hp ho (gA its n j u) (r.set rv j) (by rw[List.length_set]; exact hz) s.toks
 by_cases h0:0<=k
 .have hk:k.toNat=j:=by
   rw[seqIndex_of h0 h4] at h1;exact Option.some.inj h1
  exact PySem.W.ki_setAt ho h0 (by omega) (by rw[List.size_toArray,<- hl]; exact h4) (by rw[hk]; exact⟨_,I',q⟩)
 .have hk:(k+(its.toArray.size:Int)).toNat=j:=by
   rw[seqIndex_neg (by omega) h3] at h1;rw[List.size_toArray,<- hl];exact Option.some.inj h1
  exact PySem.W.ki_setBack ho (by omega) (by rw[List.size_toArray,<- hl]; exact h3) (by omega) (by rw[hk]; exact⟨_,I',q⟩)
theorem yC (lo hi:Option Int)(n:Nat):(sliceBounds lo hi none n).1=((HT.sIx n 0 lo:Nat):Int)/\(sliceBounds lo hi none n).2.1=((HT.sIx n n hi:Nat):Int)/\(sliceBounds lo hi none n).2.2=1:=by
 refine⟨?_,?_,rfl⟩
 .cases lo with
  |none=>simp[sliceBounds,HT.sIx]
  |some i =>
   simp only[sliceBounds,HT.sIx,Option.getD_none,show(1:Int) > 0 by decide,if_true]
   by_cases h:i < 0
   .simp only[h,if_true]<;>omega
   .simp only[h,if_false]<;>omega
 .cases hi with
  |none=>simp[sliceBounds,HT.sIx]
  |some i =>
   simp only[sliceBounds,HT.sIx,Option.getD_none,show(1:Int) > 0 by decide,if_true]
   by_cases h:i < 0
   .simp only[h,if_true]<;>omega
   .simp only[h,if_false]<;>omega
theorem wH (its:List Value)(lo hi:Option Int):slicePick its.toArray lo hi none=((its.drop (HT.sIx its.length 0 lo)).take (HT.sIx its.length its.length hi - HT.sIx its.length 0 lo)).toArray:=by
 obtain⟨h1,h2,h3⟩:=yC lo hi its.toArray.size;unfold slicePick;rw[h1,h2,h3]
 simp only[sliceRange_one,pick_run,List.size_toArray]<;>rfl
def rSlL (K:PySem.W.Frag):V->Option Int->Option Int->Hp->VK->Prop:=fun x lo hi H Q=>∃a xs,x=.ref a/\SqL K H a xs/\∀p,H p=none->Q (.ref p) (upd H p (.lst (lO xs lo hi)))
theorem sl_list:SlR X (rSlL X.K):=by
 intro pins s σ H x v vl vu lo hi sl Q I rx hs pl pu h;obtain⟨a,xs,rfl,hx,q⟩:=h;cases rx;obtain⟨its,r,ht,hz⟩:=I.list hx;have hlen:=r.length;refine⟨"list",_,slot_list_getitem.lookup,ht.isList.typeIs,?_⟩;refine wpAny_getItem_list_slice ht.isList hs pl pu .none (by simp) ?_ (by rw[List.size_toArray]<;>omega);rw[wH,<- hlen];refine⟨.ref s.heap.objs.size,_,I.laid (t':=s.toks) (o:=.lst (lO xs lo hi)) (fun b ob q=>Heap.get?_push_of_some _ q) (Nat.le_refl _) ?_,rfl,q _ (I.hok.fresh (Nat.le_refl _))⟩
 exact⟨Nat.le_trans (kD xs lo hi) hz,_,0,(r.drop (HT.sIx xs.length 0 lo)).take (HT.sIx xs.length xs.length hi - HT.sIx xs.length 0 lo),Heap.get?_push_size _ rfl⟩
def jB:V->Bool
 |.non=>true
 |.bl _=>true
 |.int _=>true
 |.str _=>true
 |_=>false
def eqV:V->V->Bool
 |.non,.non=>true
 |.bl a,.bl b=>a==b
 |.bl a,.int b=>(if a then 1 else 0)==b
 |.int a,.bl b=>a==(if b then 1 else 0)
 |.int a,.int b=>a==b
 |.str a,.str b=>a==b
 |_,_=>false
theorem eqAt_V {A:Around}{s:Shared}{y x:V}{u v:Value}(ry:RelV y u)(rx:RelV x v)(fy:jB y=true)(fx:jB x=true):SeqAt.EqAt A s u v (eqV y x):=by
 cases y with
 |non =>
  cases ry
  cases x with
  |non=>cases rx; exact SeqAt.EqAt.same _
  |bl b=>cases rx; exact SeqAt.EqAt.none_bool b
  |int b=>obtain⟨t,rfl⟩:=rx; exact SeqAt.EqAt.none_int b t
  |str b=>obtain⟨t,rfl⟩:=rx; exact SeqAt.EqAt.none_str b t
  |_=>exact absurd (show false=true from fx) Bool.false_ne_true
 |bl a =>
  cases ry
  cases x with
  |non=>cases rx; exact SeqAt.EqAt.bool_none a
  |bl b=>cases rx; exact SeqAt.EqAt.bool_bool a b
  |int b=>obtain⟨t,rfl⟩:=rx; exact SeqAt.EqAt.bool_int a b t
  |str b=>obtain⟨t,rfl⟩:=rx; exact SeqAt.EqAt.bool_str a b t
  |_=>exact absurd (show false=true from fx) Bool.false_ne_true
 |int a =>
  obtain⟨t',rfl⟩:=ry
  cases x with
  |non=>cases rx; exact SeqAt.EqAt.int_none a t'
  |bl b=>cases rx; exact SeqAt.EqAt.int_bool a t' b
  |int b=>obtain⟨t,rfl⟩:=rx; exact SeqAt.EqAt.int_int a t' b t
  |str b=>obtain⟨t,rfl⟩:=rx; exact SeqAt.EqAt.int_str a t' b t
  |_=>exact absurd (show false=true from fx) Bool.false_ne_true
 |str a =>
  obtain⟨t',rfl⟩:=ry
  cases x with
  |non=>cases rx; exact SeqAt.EqAt.str_none a t'
  |bl b=>cases rx; exact SeqAt.EqAt.str_bool a t' b
  |int b=>obtain⟨t,rfl⟩:=rx; exact SeqAt.EqAt.str_int a t' b t
  |str b=>obtain⟨t,rfl⟩:=rx; exact SeqAt.EqAt.str_str a t' b t
  |_=>exact absurd (show false=true from fx) Bool.false_ne_true
 |_=>exact absurd (show false=true from fy) Bool.false_ne_true
def eqU (x:V)(u:Value):Bool:=match u with
 |.none=>eqV .non x
 |.bool b=>eqV (.bl b) x
 |.int i _=>eqV (.int i) x
 |.str z _=>eqV (.str z) x
 |_=>false
theorem Kg {x y:V}{u:Value}(r:RelV y u)(f:jB y=true):eqU x u=eqV y x:=by
 cases y with
 |non=>cases r; rfl
 |bl b=>cases r; rfl
 |int i=>obtain⟨t,rfl⟩:=r; rfl
 |str z=>obtain⟨t,rfl⟩:=r; rfl
 |_=>exact absurd (show false=true from f) Bool.false_ne_true
theorem jS {x:V}:∀{xs:List V}{us:List Value},Vals xs us->xs.all jB=true->us.any (eqU x)=xs.any fun y=>eqV y x
 |_,_,.nil,_=>rfl
 |y::xs,u::us,.cons r t,f=>by
  rw[List.all_cons,Bool.and_eq_true] at f;rw[List.any_cons,List.any_cons,Kg r f.1,jS t f.2]
theorem kP {A:Around}{s:Shared}{x:V}{v:Value}(rx:RelV x v)(fx:jB x=true):∀{xs:List V}{us:List Value},Vals xs us->xs.all jB=true->∀u∈us,SeqAt.EqAt A s u v (eqU x u)
 |_,_,.nil,_=>fun u hu=>by cases hu
 |y::xs,u::us,.cons r t,f=>fun u' hu=>by
  rw[List.all_cons,Bool.and_eq_true] at f
  rcases List.mem_cons.mp hu with rfl | hu
  .rw [Kg r f.1]; exact eqAt_V r rx f.1 fx
  .exact kP rx fx t f.2 u' hu
def inV (x:V)(xs:List V):Bool:=xs.any fun y=>eqV y x
def rIn (K:PySem.W.Frag)(neg:Bool):R2:=fun x y H Q=>∃p xs,y=.ref p/\(SqL K H p xs\/SqT K H p xs)/\jB x=true/\xs.all jB=true/\Q (.bl (if neg then !inV x xs else inV x xs)) H
theorem Xp:OpR X (compareOp .In) (rIn X.K false):=by
 intro pins s σ H x y v u Q I rx ry h;obtain⟨p,xs,rfl,hq,fx,fs,q⟩:=h;cases ry
 rcases hq with hq | hq
 .obtain ⟨its,r,pl,hz⟩:=I.list hq
  refine SeqAt.in_listAt (eqU x) pl.isList (fun w hw=>kP rx fx r fs w (by simpa using hw)) ⟨.bl _,H,I,rfl,?_⟩;rw[show its.toArray.any (eqU x)=its.any (eqU x) by simp,jS r fs];exact q
 .obtain ⟨its,r,pl,hz⟩:=I.tuple hq
  refine SeqAt.in_tupleAt (eqU x) pl (fun w hw=>kP rx fx r fs w (by simpa using hw)) ⟨.bl _,H,I,rfl,?_⟩;rw[show its.toArray.any (eqU x)=its.any (eqU x) by simp,jS r fs];exact q
theorem nR:CallR X (.builtin "len") (fun xs H Q=>∃p ys,xs=[.ref p]/\(SqL X.K H p ys\/SqT X.K H p ys)/\Q (.int ys.length) H):=by
 intro pins s σ H xs us Q I r h;obtain⟨p,ys,rfl,hq,q⟩:=h;obtain⟨u,rfl,rx⟩:=cB r;cases rx;have hn:=wF
 rcases hq with hq | hq
 .obtain ⟨its,r',pl,hz⟩:=I.list hq
  have hlen:=r'.length;exact Calls.call_len_list pl.isList (by simp only[List.size_toArray]<;>omega) ⟨.int ys.length,H,I.tok _,⟨s.toks+1,by rw[List.size_toArray,hlen]⟩,q⟩
 .obtain ⟨its,r',pl,hz⟩:=I.tuple hq
  have hlen:=r'.length;exact len_tuple pl (by simp only[List.size_toArray]<;>omega) ⟨.int ys.length,H,I.tok _,⟨s.toks+1,by rw[List.size_toArray,hlen]⟩,q⟩
theorem rR:CallR X (.builtin "len") (fun xs H Q=>∃z,xs=[.str z]/\z.length<=sizeLine/\Q (.int z.length) H):=by
 intro pins s σ H xs us Q I r h;obtain⟨z,rfl,hz,q⟩:=h;obtain⟨u,rfl,t,rfl⟩:=cB r;have hn:=wF;exact len_str (by omega) ⟨.int z.length,H,I.tok _,⟨_,rfl⟩,q⟩
theorem CallR.or {f:Value}{r r':List V->Hp->VK->Prop}(h:CallR X f r)(h':CallR X f r'):CallR X f (fun xs H Q=>r xs H Q\/r' xs H Q):=by
 intro pins s σ H xs us Q I rs q
 rcases q with q | q
 .exact h pins s σ H xs us Q I rs q
 .exact h' pins s σ H xs us Q I rs q
theorem bH:CallR X (.type "tuple") (fun xs H Q=>∃p ys,xs=[.ref p]/\((SqL X.K H p ys/\∀l,H l=none->Q (.ref l) (upd H l (.tup ys)))\/(SqT X.K H p ys/\Q (.ref p) H))):=by
 intro pins s σ H xs us Q I r h;obtain⟨p,ys,rfl,h⟩:=h;obtain⟨u,rfl,rx⟩:=cB r;cases rx
 rcases h with ⟨hq,q⟩ | ⟨hq,q⟩
 .obtain ⟨its,r',pl,hz⟩:=I.list hq
  have hlen:=r'.length;refine call_tuple_list pl.isList (fun h' kp=>?_) (by simp only[List.size_toArray]<;>omega);have I1:Inv X pins σ H { s with heap:=h' }:=I.kept (t':=s.toks) kp
  have I2:Inv X pins σ (upd H h'.objs.size (.tup ys)) { s with heap:=h'.push { cls:=.type "tuple",data:=.seq its.toArray } } :=
   I1.laid (t':=s.toks) (fun b o e=>Heap.get?_push_of_some _ e) (Nat.le_refl _) (show ObjOk X.prog X.w _ _ _ (.tup ys) from⟨hz,its,r',IsTupN.new _ _⟩)
  exact⟨.ref h'.objs.size,_,I2,rfl,q _ (I1.hok.fresh (Nat.le_refl _))⟩
 .obtain ⟨its,r',pl,hz⟩:=I.tuple hq
  exact call_tuple_same pl ⟨.ref p,H,I,rfl,q⟩
def tyV (K:PySem.W.Frag)(T:String)(x:V)(H:Hp):Prop:=match x with
 |.str _=>T = "str"
 |.int _=>T = "int"
 |.ref p=>(T = "list"/\∃xs,SqL K H p xs)\/(T = "tuple"/\∃o,K.lookup p=some o/\o.cls=.type "tuple"/\o.dict=none) \/
   (T = "dict"/\((∃kvs,H p=some (.dK kvs))\/∃kvs,H p=some (.dT kvs)))\/(T = "set"/\∃S n,H p=some (.set S n))
 |_=>False
theorem Zk {pins:List (Addr×Obj)}{σ:St}{H:Hp}{s:Shared}{T:String}{x:V}{v:Value}(I:Inv X pins σ H s)(r:RelV x v)(ty:tyV X.K T x H):
  s.TypeIs v T/\∀a,v=.ref a->∃ob,s.heap.get? a=some ob/\ob.dict=none:=by
 cases x with
 |str z =>
  obtain⟨t,rfl⟩:=r;cases (show T = "str" from ty);exact⟨typeIs_str s z t,fun _ e=>nomatch e⟩
 |int i =>
  obtain⟨t,rfl⟩:=r;cases (show T = "int" from ty);exact⟨typeIs_int s i t,fun _ e=>nomatch e⟩
 |ref p =>
  cases r
  rcases ty with ⟨rfl,xs,hq⟩ | ⟨rfl,o,hk,hc,hd⟩ | ⟨rfl,hk⟩ | ⟨rfl,S,n,hk⟩
  .obtain ⟨its,_,pl,_⟩:=I.list hq
   refine⟨pl.isList.typeIs,fun a e=>?_⟩;cases e;obtain⟨o,n,e,c,hd,_⟩:=pl;exact⟨o,e,hd⟩
  .refine ⟨⟨o,I.kIn p o hk,hc⟩,fun a e=>?_⟩
   cases e;exact⟨o,I.kIn _ o hk,hd⟩
  .have z:∃o,s.heap.get? p=some o/\o.ExactDict:=by
    rcases hk with ⟨kvs,hk⟩ | ⟨kvs,hk⟩
    .obtain ⟨_,_,_,_,o,_,_,e,ex,_⟩:=I.hok p _ hk
     exact⟨o,e,ex⟩
    .obtain ⟨_,_,_,_,o,_,_,e,ex,_⟩:=I.hok p _ hk
     exact⟨o,e,ex⟩
   obtain⟨o,e,ex⟩:=z;refine⟨⟨o,e,ex.1⟩,fun a e2=>?_⟩;cases e2;exact⟨o,e,ex.2.1⟩
  .obtain ⟨o,_,_,_,e,ex,_⟩:=I.hok p _ hk
   refine⟨⟨o,e,ex.1⟩,fun a e2=>?_⟩;cases e2;exact⟨o,e,ex.2.1⟩
 |_=>exact False.elim ty
def tBM0 (K:PySem.W.Frag)(T:String)(r:V->List V->Hp->VK->Prop)(to:TE):TE:=fun σ H Q=>to σ H fun x H1=>tyV K T x H1/\r x [] H1 Q
def tBM (K:PySem.W.Frag)(T:String)(r:V->List V->Hp->VK->Prop)(to:TE)(t:TA):TE:=fun σ H Q=>to σ H fun x H1=>tyV K T x H1/\t σ H1 fun xs H2=>r x xs H2 Q
variable {o e:Expr}{es:List Expr}{to:TE}{t:TA}{name:Str}{apos cpos:Pos}{T id:String}{r:V->List V->Hp->VK->Prop}
theorem pe_bm0 (pa:PlainAttrs T)(slot:Slot T name id)(hty:typeOf (.builtin id)=pure (.type "method_descriptor"))(hm:MtR X id r)(ho:PE X o to)
  (hbase:attributeBase o name X.env (eval o X.env)=eval o X.env:=by rfl) (hline:(apos.endLine==cpos.line)=true:=by rfl):PE X (.Call (.Attribute o name apos) [] [] cpos) (tBM0 X.K T r to):=by
 intro pins s σ H Q I h;refine wpAny_Call_method0_late hbase hline (thn (ho pins s σ H _ I h) fun v s1 ⟨x,H1,I1,r1,ty,q1⟩=>?_);obtain⟨h1,h2⟩:=Zk I1 r1 ty;exact⟨T,id,pa,slot,hty,h1,h2,Calls.callWith_builtin rfl (PySem.evalArgs_none (hm pins s1 σ H1 x [] v [] Q I1 r1 .nil q1))⟩
theorem pe_bm (pa:PlainAttrs T)(slot:Slot T name id)(hty:typeOf (.builtin id)=pure (.type "method_descriptor"))(hm:MtR X id r)(ho:PE X o to)(ha:PA X (e::es) t)
  (hbase:attributeBase o name X.env (eval o X.env)=eval o X.env:=by rfl)
  (hfew:((backTo cpos (starEach (e::es) X.env)).all (fun x=>!x.1)&&(backToKw cpos (keywordEach [] X.env)).all (fun x=>x.1.isSome)
   && decide ((e::es).length+([]:List Keyword).length+(if ([]:List Keyword).isEmpty then 0 else 1) < 30))=true:=by rfl)
  (hline:(apos.endLine==cpos.line)=true:=by rfl) (hs:starEach (e::es) X.env=(false,eval e X.env)::starEach es X.env:=by rfl) (hplain:(backTo cpos (starEach es X.env)).any (·.1)=false:=by rfl) :
  PE X (.Call (.Attribute o name apos) (e::es) [] cpos) (tBM X.K T r to t):=by
 intro pins s σ H Q I h;refine wpAny_Call_method_late hbase hfew hline rfl (thn (ho pins s σ H _ I h) fun v s1 ⟨x,H1,I1,r1,ty,q1⟩=>?_);obtain⟨h1,h2⟩:=Zk I1 r1 ty;refine⟨T,id,pa,slot,hty,h1,h2,?_⟩;have hA:=ha cpos pins s1 σ H1 _ I1 q1;rw[hs] at hA ⊢;refine Calls.callWith_builtin (by show(false || (backTo cpos (starEach es X.env)).any (·.1))=false; rw[hplain]<;>rfl) (Calls.evalArgs_plain ?_);exact thn hA fun us s2 ⟨vs,H2,I2,r2,q2⟩=>hm pins s2 σ H2 x vs v us Q I2 r1 r2 q2
end
def MtM (X:Cx)(id:String)(r:V->List V->Hp->VK->Prop):Prop :=
 ∀(pins:List (Addr×Obj)) (s:Shared) (σ:St) (H:Hp) (x:V) (xs:List V) (v:Value) (us:List Value) (Q:VK),Inv X pins σ H s->RelV x v->Vals xs us->r x xs H Q ->
  wpAny (model X.prog X.w) X.A (call (.builtin id) (v::us)) (EP X pins σ Q) X.xe s
theorem Vals.one:∀{x:V}{us:List Value},Vals [x] us->∃u,us=[u]/\RelV x u
 |_,_,.cons r .nil=>⟨_,rfl,r⟩
theorem Vals.zero:∀{us:List Value},Vals [] us->us=[]
 |_,.nil=>rfl
theorem Vals.reverse {xs:List V}{us:List Value}(h:Vals xs us):Vals xs.reverse us.reverse:=by
 induction h with
 |nil=>exact .nil
 |cons r t ih=>rw[List.reverse_cons,List.reverse_cons]; exact Vals.append ih (.cons r .nil)
section
variable {X:Cx}{pins:List (Addr×Obj)}{σ:St}{H:Hp}{s:Shared}{l b:Addr}{xs ys zs:List V}
theorem Inv.lset {its its':List Value}{n:Nat}{f:Array Value->Array Value}{t':Nat}(I:Inv X pins σ H s)(hH:H l=some (.lst xs))
  (e:s.heap.get? l=some { cls:=.type "list",data:=.seq its.toArray n }) (hf:f its.toArray=its'.toArray) (hv:Vals ys its') (hz:ys.length<=sizeLine) :
  Inv X pins σ (upd H l (.lst ys)) { s with heap:=s.heap.update l (Obj.mapSeq f),toks:=t' }:=by
 have q:=PySem.IsL.update e f;rw[hf] at q;refine I.write (x:=l) (e:=l) (by rw[hH]; exact trivial) (.inl rfl) (fun b' u hb hu=>(Heap.get?_update_other s.heap (Obj.mapSeq f) (Ne.symm hb)).trans hu) ⟨_,q⟩ ?_;exact⟨hz,its',_,hv,q⟩
theorem Inv.lnew {its:List Value}{t':Nat}(I:Inv X pins σ H s)(hv:Vals ys its)(hz:ys.length<=sizeLine):
  Inv X pins σ (upd H s.heap.objs.size (.lst ys)) { s with heap:=s.heap.push { cls:=.type "list",data:=.seq its.toArray },toks:=t' } :=
 I.laid (fun _ _ q=>Heap.get?_push_of_some _ q) (Nat.le_refl _) ⟨hz,its,0,hv,Heap.get?_push_size _ rfl⟩
theorem Inv.fresh (I:Inv X pins σ H s):H s.heap.objs.size=none:=I.hok.fresh (Nat.le_refl _)
theorem Inv.lstM (I:Inv X pins σ H s)(hH:H l=some (.lst xs)):xs.length<=sizeLine/\∃(its:List Value) (n:Nat),Vals xs its/\xs.length=its.length/\s.heap.get? l=some { cls:=.type "list",data:=.seq its.toArray n }:=by
 obtain⟨z,its,n,r,e⟩:=I.hok l _ hH;exact⟨z,its,n,r,r.length,e⟩
end
section
variable {X:Cx}
def Qp:V->List V->Hp->VK->Prop:=fun x vs H Q=>∃l xs y,x=.ref l/\vs=[y]/\H l=some (.lst xs)/\xs.length < sizeLine/\Q .non (upd H l (.lst (xs++[y])))
theorem wN:MtM X "list.append" Qp:=by
 intro pins s σ H x vs v us Q I rx rv h;obtain⟨l,xs,y,rfl,rfl,hH,hz,q⟩:=h;cases rx;obtain⟨u,rfl,ru⟩:=rv.one;obtain⟨z,its,n,r,hl,e⟩:=I.lstM hH;refine call_meets F.slot_list_append ⟨_,e,rfl⟩ F.entry_list_append (F.args_list_append_2 _ _) (PySem.list_append l its.toArray n u (by rw[List.size_toArray]; omega)) ⟨e,?_⟩;refine⟨.non,_,I.lset (its':=its++[u]) hH e (by simp) (r.append (.cons ru .nil)) ?_,rfl,q⟩
 rw[List.length_append,List.length_singleton];omega
def tS:V->List V->Hp->VK->Prop:=fun x vs H Q=>∃l xs,x=.ref l/\vs=[]/\H l=some (.lst xs)/\Q .non (upd H l (.lst xs.reverse))
theorem yA:MtM X "list.reverse" tS:=by
 intro pins s σ H x vs v us Q I rx rv h;obtain⟨l,xs,rfl,rfl,hH,q⟩:=h;cases rx;have hus:=rv.zero;subst hus;obtain⟨z,its,n,r,hl,e⟩:=I.lstM hH;refine call_meets F.slot_list_reverse ⟨_,e,rfl⟩ F.entry_list_reverse (F.args_list_reverse_1 _) (AutoSeq1.list_reverse_list_0 l its.toArray n (by rw[List.size_toArray]; omega)) ⟨e,?_⟩;refine⟨.non,_,I.lset (its':=its.reverse) hH e (by simp) r.reverse ?_,rfl,q⟩
 rw[List.length_reverse];omega
def rCat:R2:=fun x y H Q=>∃l b xs zs,x=.ref l/\y=.ref b/\H l=some (.lst xs)/\H b=some (.lst zs)/\xs.length+zs.length<=sizeLine/\∀p,H p=none->Q (.ref p) (upd H p (.lst (xs++zs)))
theorem op_cat:OpR X (binaryOp .Add) rCat:=by
 intro pins s σ H x y v u Q I rx ry h;obtain⟨l,b,xs,zs,rfl,rfl,hH,hB,hz,q⟩:=h;cases rx;cases ry;obtain⟨z,its,n,r,hl,e⟩:=I.lstM hH;obtain⟨z2,its2,n2,r2,hl2,e2⟩:=I.lstM hB;refine PySem.P.add_list e e2 ?_ (by rw[List.size_toArray,List.size_toArray]; omega);have ea:its.toArray++its2.toArray=(its++its2).toArray:=by simp
 rw[ea];exact⟨.ref _,_,I.lnew (t':=s.toks) (r.append r2) (by rw[List.length_append]; omega),rfl,q _ I.fresh⟩
end
section
variable {κ:Type}[DecidableEq κ]
def xY (kvs:List (κ×V))(k:κ):Option V:=(kvs.find? fun kv=>decide (kv.1=k)).map (·.2)
def bK (kvs:List (κ×V))(k:κ)(v:V):List (κ×V) :=
 if (kvs.any fun kv=>decide (kv.1=k))=true then kvs.map (fun kv=>if kv.1=k then (kv.1,v) else kv) else kvs++[(k,v)]
theorem rB {p:κ×V}{r:List (κ×V)}{k:κ}(e:p.1=k):xY (p::r) k=some p.2:=by simp[xY,List.find?_cons,e]
theorem nB {p:κ×V}{r:List (κ×V)}{k:κ}(e:¬ p.1=k):xY (p::r) k=xY r k:=by simp[xY,List.find?_cons,e]
theorem bL (k:κ):∀kvs:List (κ×V),(kvs.any fun kv=>decide (kv.1=k))=(xY kvs k).isSome
 |[]=>rfl
 |p::r=>by
  rw[List.any_cons]
  by_cases e:p.1=k
  .simp only[rB e,decide_eq_true e,Bool.true_or,Option.isSome_some]
  .rw [nB e,decide_eq_false e,Bool.false_or]; exact bL k r
theorem dW (kvs:List (κ×V))(k:κ)(v:V):(bK kvs k v).length<=kvs.length+1:=by
 unfold bK
 split
 .rw [List.length_map]; omega
 .rw [List.length_append,List.length_cons,List.length_nil]; omega
theorem RelO.isSome_eq {o:Option V}{u:Option Value}(r:RelO o u):o.isSome=u.isSome:=by
 cases o with
 |none=>cases u with
  |none=>rfl
  |some _=>exact(show False from r).elim
 |some _=>cases u with
  |none=>exact(show False from r).elim
  |some _=>rfl
theorem RelO.getD {o:Option V}{u:Option Value}{d:V}{d':Value}(r:RelO o u)(rd:RelV d d'):RelV (o.getD d) (u.getD d'):=by
 cases o with
 |none=>cases u with
  |none=>exact rd
  |some _=>exact(show False from r).elim
 |some _=>cases u with
  |none=>exact(show False from r).elim
  |some _=>exact r
theorem KV.val {kvs:List (κ×V)}{vs:List (κ×Value)}(r:KV kvs vs)(k:κ):RelO (xY kvs k) (valueAt vs k):=by
 unfold KV at r
 induction r with
 |nil=>exact True.intro
 |@cons p q ps qs h t ih =>
  obtain⟨h1,h2⟩:=h
  by_cases e:p.1=k
  .have e':q.1=k:=h1.symm.trans e
   have b:valueAt (q::qs) k=some q.2:=by simp[valueAt,List.find?_cons,e']
   rw[rB e,b]; exact h2
  .have e':¬ q.1=k:=fun z=>e (h1.trans z)
   have b:valueAt (q::qs) k=valueAt qs k:=by simp[valueAt,List.find?_cons,e']
   rw[nB e,b]; exact ih
theorem KV.any {kvs:List (κ×V)}{vs:List (κ×Value)}(r:KV kvs vs)(k:κ):(kvs.any fun kv=>decide (kv.1=k))=vs.any fun kv=>decide (kv.1=k):=by
 unfold KV at r
 induction r with
 |nil=>rfl
 |cons h t ih=>rw[List.any_cons,List.any_cons,ih,h.1]
theorem KV.repl {kvs:List (κ×V)}{vs:List (κ×Value)}(r:KV kvs vs)(k:κ){y:V}{u:Value}(ry:RelV y u):
  KV (kvs.map fun kv=>if kv.1=k then (kv.1,y) else kv) (vs.map fun kv=>if kv.1=k then (kv.1,u) else kv):=by
 unfold KV at r ⊢
 induction r with
 |nil=>exact .nil
 |@cons p q ps qs h t ih =>
  rw[List.map_cons,List.map_cons];refine .cons ?_ ih;obtain⟨h1,h2⟩:=h
  by_cases e:p.1=k
  .rw [if_pos e,if_pos (h1.symm.trans e)]; exact⟨h1,ry⟩
  .rw [if_neg e,if_neg (fun z=>e (h1.trans z))]; exact⟨h1,h2⟩
theorem KV.put {kvs:List (κ×V)}{vs:List (κ×Value)}(r:KV kvs vs)(k:κ){y:V}{u:Value}(ry:RelV y u):KV (bK kvs k y) (stored vs k u):=by
 unfold bK stored;rw[r.any k]
 by_cases e:(vs.any fun kv=>decide (kv.1=k))=true
 .rw [if_pos e,if_pos e]; exact r.repl k ry
 .rw [if_neg e,if_neg e]; exact Paired.snoc r ⟨rfl,ry⟩
theorem KV.length {kvs:List (κ×V)}{vs:List (κ×Value)}(r:KV kvs vs):kvs.length=vs.length:=Paired.length r
end
theorem bN {P:Program}{w:World}{k:Key}{u:Value}(r:RelV (kV k) u):(zX P w).is k u=true:=by
 rcases k with (_ | i) | x
 .cases (show u=Value.none from r); exact rC P w
 .obtain ⟨t,e⟩:=(show ∃t,u=Value.int i t from r); subst e; exact sT P w i t
 .obtain ⟨t,e⟩:=(show ∃t,u=Value.str x t from r); subst e; exact nT P w x t
theorem fN {P:Program}{w:World}:∀{ks:List Key}{us:List Value},Vals (ks.map kV) us->ItemsAre (zX P w) ks us
 |[],_,r=>by rw[List.map_nil] at r; cases r; exact .nil
 |k::ks,_,r=>by
  rw[List.map_cons] at r
  cases r with
  |cons h t=>exact .cons (bN h) (fN t)
abbrev KT (H:Hp):List (List Key×V)->List (List Key×Addr×Value)->Prop:=Paired fun p q=>p.1=q.1/\H q.2.1=some (.tup (p.1.map kV))/\RelV p.2 q.2.2
theorem KT.val {H:Hp}{kvs:List (List Key×V)}{xs:List (List Key×Addr×Value)}(r:KT H kvs xs)(k:List Key):RelO (xY kvs k) ((atKey xs k).map (·.2)):=by
 induction r with
 |nil=>exact True.intro
 |@cons p q ps qs h t ih =>
  obtain⟨h1,_,h2⟩:=h
  by_cases e:p.1=k
  .have e':q.1=k:=h1.symm.trans e
   have b:atKey (q::qs) k=some q.2:=by simp[atKey,List.find?_cons,e']
   rw[rB e,b]; exact h2
  .have e':¬ q.1=k:=fun z=>e (h1.trans z)
   have b:atKey (q::qs) k=atKey qs k:=by simp[atKey,List.find?_cons,e']
   rw[nB e,b]; exact ih
theorem KT.repl {H:Hp}{kvs:List (List Key×V)}{xs:List (List Key×Addr×Value)}(r:KT H kvs xs)(k:List Key){y:V}{u:Value}(ry:RelV y u):
  KT H (kvs.map fun kv=>if kv.1=k then (kv.1,y) else kv) (xs.map (putAt k u)):=by
 induction r with
 |nil=>exact .nil
 |@cons p q ps qs h t ih =>
  rw[List.map_cons,List.map_cons];refine .cons ?_ ih;obtain⟨h1,h2,h3⟩:=h;unfold putAt
  by_cases e:p.1=k
  .rw [if_pos e,if_pos (h1.symm.trans e)]; exact⟨h1,h2,ry⟩
  .rw [if_neg e,if_neg (fun z=>e (h1.trans z))]; exact⟨h1,h2,h3⟩
theorem KT.put {H:Hp}{kvs:List (List Key×V)}{xs:List (List Key×Addr×Value)}(r:KT H kvs xs)(k:List Key){b:Addr}{y:V}{u:Value}(hb:H b=some (.tup (k.map kV)))(ry:RelV y u):
  KT H (bK kvs k y) (storedH xs k b u):=by
 have e:(kvs.any fun kv=>decide (kv.1=k))=(atKey xs k).isSome:=by
  rw[bL,(r.val k).isSome_eq,Option.isSome_map]
 unfold bK storedH;rw[e]
 by_cases q:(atKey xs k).isSome=true
 .rw [if_pos q,if_pos q]; exact r.repl k ry
 .rw [if_neg q,if_neg q]; exact Paired.snoc r ⟨rfl,hb,ry⟩
theorem KT.keeps {H H':Hp}{kvs:List (List Key×V)}{xs:List (List Key×Addr×Value)}(r:KT H kvs xs)(ht:∀b ys,H b=some (.tup ys)->H' b=some (.tup ys)):KT H' kvs xs :=
 Paired.mapP r fun _ _ z=>⟨z.1,ht _ _ z.2.1,z.2.2⟩
section
variable {P:Program}{w:World}{H:Hp}{h:Heap}{a:Addr}
theorem rd_of {u:HO}(ok:HOk P w H h)(e:Rd H a u):ObjOk P w H h a u:=e.ok ok
theorem rN {kvs:List (Key×V)}(ok:HOk P w H h)(e:Rd H a (.dK kvs)):kvs.length<=sizeLine/\(a==sysModules)=false/\∃vs,KV kvs vs/\h.DictOf (zX P w) a vs :=
 show ObjOk P w H h a (.dK kvs) from rd_of ok e
theorem fO {kvs:List (Key×V)}(ok:HOk P w H h)(e:H a=some (.dK kvs)):kvs.length<=sizeLine/\(a==sysModules)=false/\∃vs,KV kvs vs/\h.DictOf (zX P w) a vs:=rN ok (.inl e)
theorem vB {ks:List Key}(ok:HOk P w H h)(e:H a=some (.tup (ks.map kV))):(tupleKind (zX P w)).is h ks a:=by
 obtain⟨_,its,r,o,h1,h2,⟨n,h3⟩,_⟩:=(show ObjOk P w H h a (.tup (ks.map kV)) from ok a _ e);exact⟨o,its.toArray,n,h1,h2,h3,by simpa using fN r⟩
theorem bO {kvs:List (List Key×V)}(ok:HOk P w H h)(e:Rd H a (.dT kvs)):kvs.length<=sizeLine/\(a==sysModules)=false /\
  ∃xs,KT H kvs xs/\h.DictOfH (tupleKind (zX P w)) a xs:=by
 obtain⟨z,y,xs,r,o,es,ep,h1,h2,h3,h4,h5⟩:=(show ObjOk P w H h a (.dT kvs) from rd_of ok e);refine⟨z,y,xs,r,o,es,ep,h1,h2,h3,h4,fun x hx=>?_,h5⟩
 have all:∀{l:List (List Key×V)} {m:List (List Key×Addr×Value)},KT H l m->∀x∈m,(tupleKind (zX P w)).is h x.1 x.2.1:=by
  intro l m q
  induction q with
  |nil=>intro x hx; exact nomatch hx
  |@cons p q ps qs hq t ih =>
   intro x hx
   rcases List.mem_cons.mp hx with e | hx
   .subst e
    exact vB ok (by rw[<- hq.1]; exact hq.2.1)
   .exact ih x hx
 exact all r x hx
theorem Kh {kvs:List (List Key×V)}(ok:HOk P w H h)(e:H a=some (.dT kvs)):kvs.length<=sizeLine/\(a==sysModules)=false /\
  ∃xs,KT H kvs xs/\h.DictOfH (tupleKind (zX P w)) a xs:=bO ok (.inl e)
end
def DGet (H:Hp)(a:Addr)(y:V)(r:Option V):Prop :=
 (∃kvs k,Rd H a (.dK kvs)/\y=kV k/\r=xY kvs k)\/∃kvs k b,Rd H a (.dT kvs)/\y=.ref b/\H b=some (.tup (k.map kV))/\r=xY kvs k
def DPut (H:Hp)(a:Addr)(y v:V)(H':Hp):Prop :=
 (∃kvs k,H a=some (.dK kvs)/\y=kV k/\kvs.length < sizeLine/\H'=upd H a (.dK (bK kvs k v))) \/
 ∃kvs k b,H a=some (.dT kvs)/\y=.ref b/\H b=some (.tup (k.map kV))/\kvs.length < sizeLine/\H'=upd H a (.dT (bK kvs k v))
theorem DGet.t {H:Hp}{a b:Addr}{kvs:List (List Key×V)}{k:List Key}(e:H a=some (.dT kvs))(eb:H b=some (.tup (k.map kV))):DGet H a (.ref b) (xY kvs k):=.inr ⟨kvs,k,b,.inl e,rfl,eb,rfl⟩
theorem DPut.k {H:Hp}{a:Addr}{kvs:List (Key×V)}{k:Key}{v:V}(e:H a=some (.dK kvs))(hl:kvs.length < sizeLine):DPut H a (kV k) v (upd H a (.dK (bK kvs k v))):=.inl ⟨kvs,k,e,rfl,hl,rfl⟩
theorem DPut.t {H:Hp}{a b:Addr}{kvs:List (List Key×V)}{k:List Key}{v:V}(e:H a=some (.dT kvs))(eb:H b=some (.tup (k.map kV)))(hl:kvs.length < sizeLine):
  DPut H a (.ref b) v (upd H a (.dT (bK kvs k v))):=.inr ⟨kvs,k,b,e,rfl,eb,hl,rfl⟩
section
variable {X:Cx}{pins:List (Addr×Obj)}{σ:St}{H:Hp}{s:Shared}{a:Addr}{y v:V}{u r:Value}{o:Option V}{A:Around}{E:Value->Shared->Prop}
theorem Inv.big (I:Inv X pins σ H s):sysModules < s.heap.objs.size:=by
 have h:mainGlobals < s.heap.objs.size:=(I.mod.glob.keeps I.bk).lt;exact Nat.lt_trans (by decide) h
theorem XU {Q:Value->Shared->Prop}(hu:A.units+1 < cLine)(I:Inv X pins σ H s)(g:DGet H a y (some v))(ry:RelV y u)(h:∀w' s',Inv X pins σ H s'->RelV v w'->Q w' s'):
  wpAny (model X.prog X.w) A (getItem (.ref a) u) Q E s:=by
 rcases g with ⟨kvs,k,e,ey,l⟩ | ⟨kvs,k,b,e,ey,eb,l⟩
 .subst ey
  obtain⟨z,hd,vs,rel,dd⟩:=rN I.hok e;obtain⟨w',hw,rw'⟩:=RelO.some_of (v:=v) (o:=valueAt vs k) (by rw[l]; exact rel.val k);exact wpAny_getItem_of (bN ry) dd.mapOf hw (h w' _ (I.tok _) rw')
 .subst ey
  cases (show u=Value.ref b from ry);obtain⟨z,hd,xs,rel,dd⟩:=bO I.hok e;obtain⟨w',hw,rw'⟩:=RelO.some_of (v:=v) (o:=(atKey xs k).map (·.2)) (by rw[l]; exact rel.val k);obtain⟨p,hp,hp2⟩:=Option.map_eq_some_iff.mp hw;refine wpAny_getItem_heap (tupleKind_room_in1 hu) (vB I.hok eb) dd hp ?_;rw[hp2];exact h w' _ (I.tok _) rw'
theorem rD {h':Heap}{t':Nat}{ob:HO}(I:Inv X pins σ H s)(mu:Mut (H a))(hs:Heap.SameBut a s.heap h')(he:∃q,h'.get? a=some q)(new:ObjOk X.prog X.w (upd H a ob) h' a ob):
  Inv X pins σ (upd H a ob) { s with heap:=h',toks:=t' } :=
 I.write (x:=a) (e:=a) mu (.inl rfl) (fun b q hb z=>(hs.2 b hb).trans z) he new
theorem yI {P:Program}{w:World}{H':Hp}{h':Heap}{kvs:List (Key×V)}{vs:List (Key×Value)}(z:kvs.length<=sizeLine)(hd:(a==sysModules)=false)(rel:KV kvs vs)(dd:h'.DictOf (zX P w) a vs):
  ObjOk P w H' h' a (.dK kvs):=⟨z,hd,vs,rel,dd⟩
theorem XT {H':Hp}{Q:Unit->Shared->Prop}(hu:A.units+1 < cLine)(I:Inv X pins σ H s)(g:DPut H a y v H')(ry:RelV y u)(rv:RelV v r)(h:∀s',Inv X pins σ H' s'->Q () s'):
  wpAny (model X.prog X.w) A (setItem (.ref a) u r) Q E s:=by
 rcases g with ⟨kvs,k,e,ey,l,eH⟩ | ⟨kvs,k,b,e,ey,eb,l,eH⟩
 .subst ey eH
  obtain⟨z,hd,vs,rel,dd⟩:=fO I.hok e;have hz:vs.length<=sizeLine:=by rw[<- rel.length]; exact z
  have hl:(bK kvs k v).length<=sizeLine:=by have:=dW kvs k v; omega
  refine wpAny_setItem_pairs (hsz:=hz) (bN ry) dd fun h' dd' hs=>h _ ?_;have he:∃q,h'.get? a=some q:=let ⟨q,_,_,hq,_⟩:=dd'; ⟨q,hq⟩
  exact rD I (by rw[e]; exact True.intro) hs he (yI hl hd (rel.put k rv) dd')
 .subst ey eH
  cases (show u=Value.ref b from ry);obtain⟨z,hd,xs,rel,dd⟩:=Kh I.hok e;have hz:xs.length<=sizeLine:=by rw[<- Paired.length rel]; exact z
  have hl:(bK kvs k v).length<=sizeLine:=by have:=dW kvs k v; omega
  refine wpAny_setItem_heap (hsz:=hz) (tupleKind_room_in1 hu) (vB I.hok eb) dd fun h' dd' hs=>h _ ?_;obtain⟨q,es,ep,hq,h2,h3,h4,_,h5⟩:=dd';refine rD I (by rw[e]; exact True.intro) hs ⟨q,hq⟩ ⟨hl,hd,_,(rel.put k eb rv).keeps fun c ys ec=>?_,q,es,ep,hq,h2,h3,h4,h5⟩;rw[lQ (ne_of ec e (fun z=>nomatch z))];exact ec
end
section
variable {X:Cx}{pins:List (Addr×Obj)}{σ:St}{H:Hp}{s:Shared}{a:Addr}{kvs:List (Key×V)}{k:Key}{u:Value}{A:Around}{E:Value->Shared->Prop}
theorem d_len {Q:Value->Shared->Prop}(I:Inv X pins σ H s)(e:Rd H a (.dK kvs))(h:∀t s',Inv X pins σ H s'->Q (.int kvs.length t) s'):wpAny (model X.prog X.w) A (call (.builtin "len") [.ref a]) Q E s:=by
 obtain⟨z,hd,vs,rel,dd⟩:=rN I.hok e;refine call_len_dict hd dd (by rw[<- rel.length]; rw[sizeLine_eq] at z; omega) ?_;rw[<- rel.length];exact h _ _ (I.tok _)
end
def Qc (i:Expr):Prop:=∀ov iv,subscripted i false ov iv=operate [ov,iv] (getItem ov iv)
theorem Qm {prog:Program}{w:World}{A:Around}{E:Value->Shared->Prop}{s:Shared}{env:Env}{value slice:Expr}{pos:Pos}{T id:String}{Q:Value->Shared->Prop}
  (hl:typeLookup (.type T) "__getitem__" = pure (some (.builtin id))) (hs:Qc slice)
  (h:wpAny (model prog w) A (eval value env) (fun o s₁=>wpAny (model prog w) A (eval slice env) (fun i s₂=>s₂.TypeIs o T/\wpAny (model prog w) A (getItem o i) Q E s₂) E s₁) E s) :
  wpAny (model prog w) A (eval (.Subscript value slice pos) env) Q E s:=by
 refine Subscript_ (wpAny_mono h (fun o s₁ h₁=>wpAny_mono h₁ (fun i s₂ h₂=>?_) fun _ _ x=>x) fun _ _ x=>x);obtain⟨hT,h₂⟩:=h₂;unfold subscriptTail;refine wpAny_bind ?_;rw[getitemInPython_of_ne hT.not_modules];refine wpAny_bind (wpAny_specialOf hT hl ?_)
 have fin:wpAny (model prog w) A (subscripted slice false o i) (fun r s₃=>wpAny (model prog w) A (letTemporaryGo value o r >>= fun _=>pure r) Q E s₃) E s₂:=by
  rw[hs o i];exact wpAny_operating (wpAny_mono h₂ (fun r s₃ h₃=>wpAny_bind (wpAny_letTemporaryGo (wpAny_pure h₃))) fun _ _ x=>x)
 first
  |exact wpAny_pure (wpAny_bind fin)
  |exact wpAny_bind (wpAny_pure (wpAny_bind fin))
  |exact wpAny_bind fin
theorem dO {X:Cx}{pins:List (Addr×Obj)}{σ:St}{H:Hp}{s:Shared}{a:Addr}{y:V}{o:Option V}(I:Inv X pins σ H s)(g:DGet H a y o):s.TypeIs (.ref a) "dict":=by
 rcases g with ⟨kvs,k,e,_,_⟩ | ⟨kvs,k,b,e,_,_,_⟩
 .obtain ⟨_,_,vs,_,dd⟩:=rN I.hok e
  exact dd.typeIs
 .obtain ⟨_,_,xs,_,dd⟩:=bO I.hok e
  exact dd.typeIs
def tDGet (td ty:TE):TE:=fun σ H Q=>td σ H fun x H1=>ty σ H1 fun y H2=>∃a v,x=.ref a/\DGet H2 a y (some v)/\Q v H2
def sDPut (td ty tv:TE):TS:=fun D σ H=>tv σ H fun v H1=>td σ H1 fun x H2=>ty σ H2 fun y H3=>∃a H4,x=.ref a/\DPut H3 a y v H4/\D.nx σ H4
section
variable {X:Cx}{o i e value:Expr}{pos pos' tpos:Pos}{td ty tv:TE}
theorem pe_dget (hu:X.A.units+1 < cLine)(ho:PE X o td)(hi:PE X i ty)(hs:Qc i):PE X (.Subscript o i pos) (tDGet td ty):=by
 intro pins s σ H Q I h;refine Qm PySem.F.slot_dict_getitem.lookup hs (thn (ho pins s σ H _ I h) fun u s1 ⟨x,H1,I1,rx,q1⟩=>thn (hi pins s1 σ H1 _ I1 q1) fun iv s2 ⟨y,H2,I2,ry,a,v,ex,g,q2⟩=>?_);subst ex;obtain rfl:u=Value.ref a:=rx;exact⟨dO I2 g,XU hu I2 g ry fun w' s3 I3 rw'=>⟨v,H2,I3,rw',q2⟩⟩
theorem ps_dput (hu:X.A.units+1 < cLine)(ho:PE X o td)(hi:PE X i ty)(hv:PE X value tv)(hs:swapsWith value (some (.Subscript o i pos')) pos.line X.env=pure false):
  PS X (.Assign [.Subscript o i pos'] value pos) (sDPut td ty tv):=by
 intro pins s σ H D I h;refine wpAny_Assign_Subscript (thn (hv pins s σ H _ I h) fun r s1 ⟨v,H1,I1,rv,q1⟩=>thn (ho pins s1 σ H1 _ I1 q1) fun u s2 ⟨x,H2,I2,rx,q2⟩=>thn (hi pins s2 σ H2 _ I2 q2) fun iv s3 ⟨y,H3,I3,ry,a,H4,ex,g,q3⟩=>?_) hs;subst ex;obtain rfl:u=Value.ref a:=rx;exact XT hu I3 g ry rv fun s4 I4=>⟨σ,H4,I4,q3⟩
end
theorem pO {P:Program}{w:World}{H:Hp}(h:Heap)(hb:sysModules < h.objs.size):ObjOk P w H (h.push { cls:=.type "dict",data:=.dict #[] }) h.objs.size (.dK []) :=
 ⟨Nat.zero_le _,beq_eq_false_iff_ne.mpr (Ne.symm (Nat.ne_of_lt hb)),[],.nil,Heap.DictOf.new h⟩
theorem mO {P:Program}{w:World}{H:Hp}(h:Heap)(hb:sysModules < h.objs.size):ObjOk P w H (h.push { cls:=.type "dict",data:=.dict #[] }) h.objs.size (.dT []) :=
 ⟨Nat.zero_le _,beq_eq_false_iff_ne.mpr (Ne.symm (Nat.ne_of_lt hb)),[],.nil,_,#[],0,Heap.get?_push_size _ rfl,⟨rfl,rfl,rfl⟩,rfl,rfl,List.nodup_nil⟩
def Zq:TE:=fun _ H Q=>∀p,H p=none->Q (.ref p) (upd H p (.dK []))
def Zp:TE:=fun _ H Q=>∀p,H p=none->Q (.ref p) (upd H p (.dT []))
section
variable {X:Cx}{pos:Pos}
theorem Z0:PE X (.Dict [] [] pos) Zq:=fun pins s σ H Q I h =>
 wpAny_Dict_empty ⟨.ref s.heap.objs.size,_,I.laid (a:=s.heap.objs.size) (o:=.dK []) (t':=s.toks) (fun _ _ q=>Heap.get?_push_of_some _ q) (Nat.le_refl _) (pO s.heap I.big),rfl,h _ (I.hok.fresh (Nat.le_refl _))⟩
theorem ZZ:PE X (.Dict [] [] pos) Zp:=fun pins s σ H Q I h =>
 wpAny_Dict_empty ⟨.ref s.heap.objs.size,_,I.laid (a:=s.heap.objs.size) (o:=.dT []) (t':=s.toks) (fun _ _ q=>Heap.get?_push_of_some _ q) (Nat.le_refl _) (mO s.heap I.big),rfl,h _ (I.hok.fresh (Nat.le_refl _))⟩
end
def vC:List (TE×TE)->St->Hp->(List (V×V)->Hp->Prop)->Prop
 |[],_,H,Q=>Q [] H
 | (tk,tv)::r,σ,H,Q=>tk σ H fun x H1=>tv σ H1 fun y H2=>vC r σ H2 fun ps H3=>Q ((x,y)::ps) H3
abbrev VV:List (V×V)->List (Value×Value)->Prop:=Paired fun p q=>RelV p.1 q.1/\RelV p.2 q.2
def PPs (X:Cx)(pos:Pos)(keys:List (Option Expr))(values:List Expr)(trs:List (TE×TE)):Prop :=
 ∀(pins:List (Addr×Obj)) (s:Shared) (σ:St) (H:Hp) (Q:List (V×V)->Hp->Prop),Inv X pins σ H s->vC trs σ H Q ->
  wpAny (model X.prog X.w) X.A (evalPairs (pairTrees keys values X.env pos)) (fun vs s'=>∃ps H',Inv X pins σ H' s'/\VV ps vs/\Q ps H') X.xe s
theorem pps_nil {X:Cx}{pos:Pos}:PPs X pos [] [] []:=fun pins s σ H Q I h=>pairTrees_nil_walk ⟨[],H,I,.nil,h⟩
theorem ZR {X:Cx}{pos:Pos}{k v:Expr}{ks:List (Option Expr)}{vs:List Expr}{tk tv:TE}{trs:List (TE×TE)}(hk:PE X k tk)(hv:PE X v tv)(hr:PPs X pos ks vs trs):
  PPs X pos (some k::ks) (v::vs) ((tk,tv)::trs):=fun pins s σ H Q I h =>
 pairTrees_cons_walk (thn (hk pins s σ H _ I h) fun u s1 ⟨x,H1,I1,rx,q1⟩=>thn (hv pins s1 σ H1 _ I1 q1) fun w2 s2 ⟨y,H2,I2,ry,q2⟩ =>
  thn (hr pins s2 σ H2 _ I2 q2) fun ws s3 ⟨ps,H3,I3,rel,q3⟩=>⟨(x,y)::ps,H3,I3,.cons ⟨rx,ry⟩ rel,q3⟩)
def iV (kvs more:List (Key×V)):List (Key×V):=more.foldl (fun acc kv=>bK acc kv.1 kv.2) kvs
theorem KV.merge:∀{more:List (Key×V)}{rs:List (Key×Value)}{kvs:List (Key×V)}{vs:List (Key×Value)},KV more rs->KV kvs vs->KV (iV kvs more) (merged vs rs):=by
 intro more rs kvs vs r;unfold KV at r
 induction r generalizing kvs vs with
 |nil=>intro q; exact q
 |@cons p q ps qs h t ih =>
  intro r0
  have e:KV (bK kvs p.1 p.2) (stored vs q.1 q.2):=by
   have:=r0.put p.1 h.2;rw[<- h.1]; exact this
  exact ih e
theorem tW:∀(more kvs:List (Key×V)),(iV kvs more).length<=kvs.length+more.length
 |[],kvs=>by show kvs.length<=kvs.length+0; omega
 |p::r,kvs=>by
  have h1:=tW r (bK kvs p.1 p.2);have h2:=dW kvs p.1 p.2;show(iV (bK kvs p.1 p.2) r).length<=_;rw[List.length_cons]; omega
theorem tP {P:Program}{w:World}:∀{kvs:List (Key×V)}{ws:List (Value×Value)},VV (kvs.map fun kv=>(kV kv.1,kv.2)) ws->∃rs,Carries (zX P w) ws rs/\KV kvs rs
 |[],_,r=>by rw[List.map_nil] at r; cases r; exact⟨[],True.intro,.nil⟩
 |p::kvs,_,r=>by
  rw[List.map_cons] at r
  cases r with
  |@cons a b as bs h t =>
   obtain⟨rs,c,q⟩:=tP (P:=P) (w:=w) t;obtain⟨b1,b2⟩:=b;exact⟨(p.1,b2)::rs,⟨bN h.1,rfl,c⟩,.cons ⟨rfl,h.2⟩ q⟩
def tDisp (trs:List (TE×TE)):TE:=fun σ H Q=>∀p,H p=none->vC trs σ (upd H p (.dK [])) fun ps H2=>H2 p=some (.dK [])/\∃kvs:List (Key×V),ps=kvs.map (fun kv=>(kV kv.1,kv.2))/\kvs.length<=15/\Q (.ref p) (upd H2 p (.dK (iV [] kvs)))
theorem pe_disp {X:Cx}{pos:Pos}{keys:List (Option Expr)}{values:List Expr}{trs:List (TE×TE)}(h:PPs X pos keys values trs)(hall:keys.all (·.isSome)=true)(hl:keys.length=values.length)(h0:keys≠[])
  (h15:keys.length<=15):PE X (.Dict keys values pos) (tDisp trs):=by
 intro pins s σ H Q I q;have hn:=I.hok.fresh (Nat.le_refl s.heap.objs.size);have I1:=I.laid (a:=s.heap.objs.size) (o:=.dK []) (h':=s.heap.push { cls:=.type "dict",data:=.dict #[] }) (t':=s.toks) (fun _ _ q=>Heap.get?_push_of_some _ q) (Nat.le_refl _) (pO s.heap I.big);refine wpAny_Dict_walk (knd:=zX X.prog X.w) hall hl h0 h15 (thn (h pins _ σ _ _ I1 (q _ hn)) fun ws s2 ⟨ps,H2,I2,rel,e,kvs,ep,lk,q2⟩=>?_)
 subst ep;obtain⟨rs,c,rk⟩:=tP (P:=X.prog) (w:=X.w) rel;obtain⟨z,hd,vs0,r0,dd⟩:=fO I2.hok e;cases r0;refine⟨rs,c,dd,fun h' dd' hs=>⟨.ref s.heap.objs.size,_,?_,rfl,q2⟩⟩
 have hz:(iV [] kvs).length<=sizeLine:=by
  have h1:=tW kvs [];rw[List.length_nil] at h1;rw[sizeLine_eq]; omega
 have he:∃q,h'.get? s.heap.objs.size=some q:=let ⟨q,_,_,hq,_⟩:=dd'; ⟨q,hq⟩
 exact rD I2 (by rw[e]; exact True.intro) hs he (yI hz hd (rk.merge .nil) dd')
structure M2 (X:Cx)(o:Expr)(m:Str)(apos:Pos)(e f:Expr)(cpos:Pos):Prop where
 base:attributeBase o m X.env (eval o X.env)=eval o X.env
 few:((backTo cpos (starEach [e,f] X.env)).all (fun x=>!x.1)&&(backToKw cpos (keywordEach [] X.env)).all (fun x=>x.1.isSome)
  && decide (([e,f]:List Expr).length+([]:List Keyword).length+(if ([]:List Keyword).isEmpty then 0 else 1) < 30))=true
 line:(apos.endLine==cpos.line)=true
 trees:backTo cpos (starEach [e,f] X.env)=[(false,eval e X.env),(false,eval f X.env)]
def IsD (H:Hp)(a:Addr):Prop:=(∃kvs,Rd H a (.dK kvs))\/∃kvs,Rd H a (.dT kvs)
theorem isD_at {X:Cx}{pins:List (Addr×Obj)}{σ:St}{H:Hp}{s:Shared}{a:Addr}(I:Inv X pins σ H s)(d:IsD H a):
  s.TypeIs (.ref a) "dict"/\(∀b,Value.ref a=.ref b->∃ob,s.heap.get? b=some ob/\ob.dict=none)/\(a==sysModules)=false:=by
 rcases d with ⟨kvs,e⟩ | ⟨kvs,e⟩
 .obtain ⟨_,hd,vs,_,dd⟩:=rN I.hok e
  refine⟨dd.typeIs,fun b q=>?_,hd⟩;cases q;obtain⟨ob,_,_,h1,h2,_⟩:=dd;exact⟨ob,h1,h2.2.1⟩
 .obtain ⟨_,hd,xs,_,dd⟩:=bO I.hok e
  refine⟨dd.typeIs,fun b q=>?_,hd⟩;cases q;obtain⟨ob,_,_,h1,h2,_⟩:=dd;exact⟨ob,h1,h2.2.1⟩
section
variable {X:Cx}{pins:List (Addr×Obj)}{σ:St}{H:Hp}{s:Shared}{a:Addr}{y d:V}{u r:Value}{o:Option V}{A:Around}{E:Value->Shared->Prop}
theorem d_get2 {Q:Value->Shared->Prop}(hu:A.units+1 < cLine)(I:Inv X pins σ H s)(g:DGet H a y o)(ry:RelV y u)(rd:RelV d r)(h:∀w' s',Inv X pins σ H s'->RelV (o.getD d) w'->Q w' s'):
  wpAny (model X.prog X.w) A (call (.builtin "dict.get") [.ref a,u,r]) Q E s:=by
 rcases g with ⟨kvs,k,e,ey,l⟩ | ⟨kvs,k,b,e,ey,eb,l⟩
 .subst ey
  obtain⟨z,hd,vs,rel,dd⟩:=rN I.hok e;refine call_meetsIn PySem.F.slot_dict_get dd.typeIs PySem.F.entry_dict_get (PySem.F.args_dict_get_3 _ _ _) (meets_dict_get_default (zX X.prog X.w) a (bN ry) hd r) ⟨_,dd.mapOf,h _ _ (I.tok _) ?_⟩;rw[l];exact(rel.val k).getD rd
 .subst ey
  cases (show u=Value.ref b from ry);obtain⟨z,hd,xs,rel,dd⟩:=bO I.hok e;refine call_meetsIn PySem.F.slot_dict_get dd.typeIs PySem.F.entry_dict_get (PySem.F.args_dict_get_3 _ _ _) (meetsH_dict_get_default (tupleKind (zX X.prog X.w)) a b hd r) ⟨tupleKind_room_in1 hu,k,xs,vB I.hok eb,dd,h _ _ (I.tok _) ?_⟩;rw[l];exact(rel.val k).getD rd
end
def Zr (td ty tx:TE):TE:=fun σ H Q=>td σ H fun x H1=>∃a,x=.ref a/\IsD H1 a/\ty σ H1 fun y H2=>tx σ H2 fun z H3=>∃o,DGet H3 a y o/\Q (o.getD z) H3
section
variable {X:Cx}{o e f:Expr}{apos cpos:Pos}{td ty tx:TE}
theorem Z1 (hu:X.A.units+1 < cLine)(ho:PE X o td)(he:PE X e ty)(hf:PE X f tx)(m:M2 X o "get" apos e f cpos):PE X (.Call (.Attribute o "get" apos) [e,f] [] cpos) (Zr td ty tx):=by
 intro pins s σ H Q I h;refine wpAny_Call_method m.base m.few m.line PySem.F.plainAttrs_dict PySem.F.slot_dict_get PySem.F.type_dict_get (thn (ho pins s σ H _ I h) fun u s1 ⟨x,H1,I1,rx,a,ex,d,q1⟩=>?_);subst ex;obtain rfl:u=Value.ref a:=rx;obtain⟨t1,t2,_⟩:=isD_at I1 d;refine⟨t1,t2,?_⟩;rw[m.trees]
 refine Calls.callWith_builtin rfl (Calls.evalArgs_plain (Calls.spliced_cons (thn (he pins s1 σ H1 _ I1 q1) fun iv s2 ⟨y,H2,I2,ry,q2⟩ =>
  Calls.spliced_cons (thn (hf pins s2 σ H2 _ I2 q2) fun fv s3 ⟨z,H3,I3,rz,ov,g,q3⟩=>Calls.spliced_nil ?_))))
 exact d_get2 hu I3 g ry rz fun w' s4 I4 rw'=>⟨_,H3,I4,rw',q3⟩
end
end L2
namespace Att
open PySem PySem.W PySem.Calls PyProof.Rows
theorem uD {P:Params}{h:Heap}:∀(ns:List Int) (vs:List Value),WellAll P h vs (ns.map WData.int)->IntsAre vs ns:=by
 intro ns
 induction ns with
 |nil =>
  intro vs w;rw[List.map_nil] at w;cases w;exact .nil
 |cons n ns ih =>
  intro vs w;rw[List.map_cons] at w
  cases w with
  |cons a b =>
   cases a;exact .cons _ _ (ih _ b)
theorem Xf {l:OpenLaw}{n:Nat}(hn:l.most=some n){P:Params}{h:Heap}{args:List WData}{vals:List Value}
  (hpre:l.row.toRowW.claim.pre args=true) (hwl:WellAll P h vals args) :
  ∃a vs ns,vals=[Value.ref a]/\args=[WData.list (ns.map WData.int)]/\h.get? a=some { cls:=.type "list",data:=.seq vs.toArray }/\IntsAre vs ns/\ns.length<=n:=by
 have hsh:WShape.hasAll [] args [.list .int]=true:=(pre_splitW hpre).1;have hc:l.pre.holds [] { args:=args }=true:=(pre_splitW hpre).2;obtain⟨d,r,rfl,h1,h2⟩:=hasAllW_cons hsh;obtain rfl:=hasAllW_nil h2;obtain⟨xs,rfl,h3⟩:=hasW_list h1;obtain⟨ns,rfl⟩:=items_int h3
 have hlen:ns.length<=n:=by
  unfold OpenLaw.pre at hc
  have h4:(WTm.not (.lt (.lit (.int (n:Int))) (.len (.arg 0)))).holds [] { args:=[.list (ns.map .int)] }=true:=by
   have h4:=(holds_andW hc).1;rw[hn] at h4;exact h4
  have h5:=condW_of h4 (w_not (w_lt w_lit (w_len_list (w_arg rfl))));rw[List.length_map] at h5;refine Nat.le_of_not_lt fun q=>?_;have q':(n:Int) < ((ns.length:Nat):Int):=by omega
  first
   | (rw[decide_eq_true q'] at h5; exact absurd h5 (by decide))
   | (simp at h5; omega)
 cases hwl with
 |cons w1 w2 =>
  cases w2
  cases w1 with
  |list ho hall=>exact⟨_,_,ns,rfl,rfl,ho,uD ns _ hall,hlen⟩
theorem Xj (l:OpenLaw)(args:List WData):l.row.toRowW.claim.post args (.bool true) args=true :=
 postW_of (r:=l.row.toRowW) (X:=(true==true))
  (show WShape.has [] (.bool true) .bool=true by first | rfl | decide | simp[WShape.has,WShape.arms,WShape.armsAll])
  (show(WTm.eq .res (.lit (.bool true))).value [] { args:=args,res:=some (.bool true),after:=args }=some (.bool (true==true)) from w_eq_bool (w_res rfl) w_lit) rfl
theorem attach_call {l:OpenLaw}{n:Nat}{q:Program}{loose:List Str}{XP:(Str->Option Value)->Heap->Prop}{YP:World->Heap->Prop}{d:DefRec}
  (hn:l.most=some n) (hdf:d.params.defaults=[])
  (call:∀(w:World) (s₀ s₁:Shared) (mg mb:Str->Option Value) (fa:Addr) (o:Obj) (pm cd doc:Value) (a:Addr) (vs:List Value) (ns:List Int),
   Ground q loose [] XP w s₀ mg mb s₁.heap->YP w s₁.heap ->
   s₁.heap.get? fa=some o->o.data=.func (docDef d.name d.params d.body d.scope pm cd doc)->s₁.heap.CodeRec cd d.name->mg d.name=some (.ref fa) ->
   s₁.heap.get? a=some { cls:=.type "list",data:=.seq vs.toArray }->IntsAre vs ns->ns.length<=n->s₁.gens = #[] ->
   codeAny (model l.prog w) callerA (.call (.ref fa) ⟨[.ref a],[]⟩) (fun r s'=>r=.ok (.ret (.bool true))/\OldK s₁.heap s'.heap/\s'.os=s₁.os/\AllBare s'.gens) s₁) :
  WalkO q loose XP YP l.row.toRowW d [] (fun f vs=>PySem.call f vs):=by
 intro w s₀ s₁ mg mb G Y fa o pm cd doc dV kV ho hd hcd hD hmg hg args vals as hpre hlay hrd hwl hlo;obtain rfl:dV=.none:=Dflts.none hD hdf;obtain rfl:kV=.none:=Dflts.noKw hD;obtain⟨a,vs,ns,rfl,rfl,hobj,hints,hlen⟩:=Xf hn hpre hwl;refine enter_call (codeAny_mono (call w s₀ s₁ mg mb fa o pm cd doc a vs ns G Y ho (fd_plain hd) hcd hmg hobj hints hlen hg) fun r s' hq=>?_);obtain⟨rfl,h2,h3,h4⟩:=hq
 exact⟨.inl ⟨.bool true,.bool true,[],rfl,fun _=>rfl,.bool true,Xj l _,fun _=>⟨List.Pairwise.nil,fun _ hm=>(nomatch hm)⟩⟩,h2,h3,h4⟩
end Att
namespace L2
open PySem PySem.Spec PyProof.Rows
theorem oH:∀{vs:List Value}{ns:List Int},IntsAre vs ns->Vals (ns.map V.int) vs
 |_,_,.nil=>.nil
 |_,_,.cons n t h=>.cons ⟨t,rfl⟩ (oH h)
def Only (H:Hp):Prop:=∀b,H b=none\/∃o xs,H b=some (.frz o (.lst xs))
theorem Js {P:Program}{w:World}{K:PySem.W.Frag}{mg mb:Str->Option Value}{CX:CXT}{k:Nat}{fa a:Addr}{fd:FuncData}{x:Str}{sp:Sp}{s₁:Shared}{vs:List Value}{ns:List Int}
  (KX:K.In s₁.heap) (hns:s₁.heap.Ns mainGlobals mg) (hb:s₁.heap.Ns builtinsNs mb) (hbb:∀x:Str,x ≠ "__name__"->mb x=bootBuiltins x) (hlim:s₁.heap.NoLimit) (hg:s₁.gens = #[])
  (ha:s₁.heap.get? a=some { cls:=.type "list",data:=.seq vs.toArray }) (hi:IntsAre vs ns) (hl:ns.length<=sizeLine) (hr:Room k callerA)
  (F:∀base:Heap,K.In base->base.Ns mainGlobals mg->FnOk P w K mg base CX k fa fd [x] sp) (hbind:∀(s:Shared) (u:Value),BindsTo s fd ⟨[u],[]⟩ [(x,u)])
  (hsp:∀H:Hp,Only H->SqL K H a (ns.map V.int)->sp [.ref a] H (fun v _=>v=.bl true) fun _ _ _=>False)
  (hCX:∀H e s',CX [] H s₁ (fun _ _ _=>False) e s'->False) :
  codeAny (model P w) callerA (.call (.ref fa) ⟨[.ref a],[]⟩) (fun r s'=>r=.ok (.ret (.bool true))/\OldK s₁.heap s'.heap/\s'.os=s₁.os/\AllBare s'.gens) s₁:=by
 have rv:=oH hi;have lenV:=hi.length
 have core:∀H:Hp,Only H->SqL K H a (ns.map V.int)->HOk P w H s₁.heap->(∀b,H b≠none->b=a)->(H a≠none->K.lookup a=none) ->
   codeAny (model P w) callerA (.call (.ref fa) ⟨[.ref a],[]⟩) (fun r s'=>r=.ok (.ret (.bool true))/\OldK s₁.heap s'.heap/\s'.os=s₁.os/\AllBare s'.gens) s₁:=by
  intro H hO hS hok hA hK;have base_of:∀{b:Addr} {o:Obj},s₁.heap.get? b=some o->H b=none->(zR s₁.heap H).get? b=some o:=fun e n=>J0 e n
  have noA:∀{b:Addr} {o:Obj} {es:Array DictEntry} {ep:Nat},s₁.heap.get? b=some o->o.data=.dict es ep->H b=none:=fun {b o es ep} e d=>by
   cases q:H b with
   |none=>rfl
   |some u =>
    have e':b=a:=hA b (by rw[q]; simp);subst e';rw[ha] at e; cases e
    have d':Data.seq vs.toArray _=Data.dict es ep:=d;cases d'
  have nsK:∀{b:Addr} {m:Str->Option Value},s₁.heap.Ns b m->(zR s₁.heap H).Ns b m:=fun {b m} ⟨o,es,ep,e,d,r⟩=>⟨o,es,ep,base_of e (noA e d),d,r⟩
  have hKb:K.In (zR s₁.heap H):=fun b o e=>base_of (KX b o e) (by
   cases q:H b with
   |none=>rfl
   |some u =>
    have e':b=a:=hA b (by rw[q]; simp);subst e'
    rw[hK (by rw[q]; simp)] at e; cases e)
  have hM:Mod K mg (zR s₁.heap H):=⟨hKb,nsK hns,⟨mb,nsK hb,hbb⟩,let ⟨mc,h1,h2⟩:=hlim; ⟨mc,nsK h1,h2⟩⟩;have e0:Env0 P w K mg (zR s₁.heap H) callerA [] s₁ H:=⟨rfl,hM,fun b o e=>of_hidT e,Nat.le_of_eq (XN _ _),trivial,fun b hb=>absurd (show b∈([]:List Addr) from hb) (by simp),hok,.of_eq hg⟩;refine codeAny_mono ((F _ hKb (nsK hns)).run callerA [] s₁ H ⟨[.ref a],[]⟩ [.ref a] [.ref a] _ _ hr e0 (hbind s₁ (.ref a)) (.cons rfl .nil) (hsp H hO hS)) fun r s' h=>?_
  cases r with
  |error e=>exact(hCX H e s' h).elim
  |ok fl =>
   cases fl with
   |next=>exact False.elim h
   |brk=>exact False.elim h
   |cont=>exact False.elim h
   |ret u =>
    obtain⟨v,H',os,bare,un,hok',r',q⟩:=h;have q':v=.bl true:=q;subst q';obtain rfl:u=Value.bool true:=r';refine⟨rfl,OldK.of_keep fun b o e=>?_,os,bare⟩
    cases q:H b with
    |none=>exact un.keep b o e q (by intro z; exact absurd (show b∈([]:List Addr) from z) (by simp)) (by simp)
    |some u =>
     rcases hO b with z | ⟨ob,xs,z⟩
     .rw [q] at z; cases z
     .have z2:=un.frzs b ob _ z
      obtain⟨e1,_⟩:=hok b _ z;obtain⟨e2,_⟩:=hok' b _ z2;rw[e] at e1; cases e1
      exact e2
 cases hk:K.lookup a with
 |some o =>
  have e:=KX a o hk;rw[ha] at e;cases e;refine core (fun _=>none) (fun _=>.inl rfl) (.inr ⟨_,vs.toArray,_,hk,rfl,rfl,rfl,by rw[List.size_toArray,lenV]; exact hl,by simpa using rv⟩) (fun b u z=>by have z':(none:Option HO)=some u:=z; cases z') (fun b z=>absurd rfl z) fun z=>absurd rfl z
 |none =>
  refine core (fun b=>if b=a then some (.frz { cls:=.type "list",data:=.seq vs.toArray } (.lst (ns.map V.int))) else none) (fun b=>?_) (.inl (.inr ⟨{ cls:=.type "list",data:=.seq vs.toArray },if_pos rfl⟩)) (fun b u z=>?_) (fun b z=>?_) fun _=>hk
  .by_cases hb:b=a
   .exact .inr ⟨_,_,if_pos hb⟩
   .exact .inl (if_neg hb)
  .by_cases hb:b=a
   .have z':=(if_pos hb).symm.trans z
    cases z';subst hb;exact⟨ha,by rw[List.length_map]; exact hl,vs,_,rv,ha⟩
   .have z':=(if_neg hb).symm.trans z
    cases z'
  .by_cases hb:b=a
   .exact hb
   .exact absurd (if_neg hb) z
theorem walk_of {l:PySem.W.OpenLaw}{n k:Nat}{q:Program}{loose:List Str}{XP:(Str->Option Value)->Heap->Prop}{YP:World->Heap->Prop}{d:DefRec}{K:Params->PySem.W.Frag}{CX:World->CXT}{sp:World->Sp}{x:Str}
  (hn:l.most=some n) (hn2:n<=sizeLine) (hdf:d.params.defaults=[]) (hr:Room k callerA)
  (hY:∀(w:World) (h:Heap),YP w h->(K w.params).In h)
  (F:∀(w:World) (mg:Str->Option Value) (fa:Addr) (h:Heap),(K w.params).In h->h.Ns mainGlobals mg->mg d.name=some (.ref fa) ->
   ∃fd:FuncData,(∀(s:Shared) (u:Value),BindsTo s fd ⟨[u],[]⟩ [(x,u)]) /\
    ∀base:Heap,(K w.params).In base->base.Ns mainGlobals mg->FnOk l.prog w (K w.params) mg base (CX w) k fa fd [x] (sp w))
  (hsp:∀(w:World) (H:Hp) (a:Addr) (ns:List Int),ns.length<=n->Only H->SqL (K w.params) H a (ns.map V.int)->sp w [.ref a] H (fun v _=>v=.bl true) fun _ _ _=>False)
  (hCX:∀(w:World) (H:Hp) (s:Shared) (e:Value) (s':Shared),CX w [] H s (fun _ _ _=>False) e s'->False) :
  PySem.W.WalkO q loose XP YP l.row.toRowW d [] (fun f vs=>PySem.call f vs):=by
 refine Att.attach_call hn hdf fun w s₀ s₁ mg mb fa o pm cd doc a vs ns G Y ho hd hcd hmg hobj hints hlen hg=>?_;have KX:=hY w _ Y;obtain⟨fd,hb,hF⟩:=F w mg fa _ KX G.T.g hmg;exact Js KX G.T.g G.T.b G.T.builtins G.T.nolimit hg hobj hints (Nat.le_trans hlen hn2) hr hF hb (fun H hO hS=>hsp w H a ns hlen hO hS) fun H e s'=>hCX w H s₁ e s'
def fV (s:Stmt)(j:Nat):Stmt:=match s with
 |.ClassDef _ _ _ body _ _ _ _ _ _ _=>body.getD j (.Pass ⟨0,0,0,0⟩)
 |_=>.Pass ⟨0,0,0,0⟩
def lW (s:Stmt):Arguments:=match s with
 |.FunctionDef _ a _ _ _ _ _ _ _ _=>a
 |_=>{ posonlyargs:=[],args:=[],vararg:=none,kwonlyargs:=[],kw_defaults:=[],kwarg:=none,defaults:=[] }
def vK (s:Stmt):List Stmt:=match s with
 |.FunctionDef _ _ b _ _ _ _ _ _ _=>b
 |_=>[]
def uX (s:Stmt):Scope:=match s with
 |.FunctionDef _ _ _ _ _ _ sc _ _ _=>sc
 |_=>{ kind:=.function,names:=[],isGenerator:=false,isCoroutine:=false }
abbrev CX0:CXT:=fun _ _ _ _ _ _=>False
abbrev E0:XK:=fun _ _ _=>False
theorem Z4 {X:Cx}:gW CX0 X E0:=fun _ _ _ _ _ _ _ h=>h.elim
structure Fun (K:PySem.W.Frag)(x qual:Str)(st:Stmt)(f:Addr)(fd:FuncData):Prop where
 ex:∃(oc:Value) (od:Option Addr) (kV doc pm:Value) (an:Option Addr) (cdv ct:Value) (osl:Array (Option Value)),
  fd=PySem.W.fnOf x qual (lW st) (vK st) (uX st) .none kV doc pm an cdv ct/\K.lookup f=some ⟨oc,od,.func fd,osl⟩/\PySem.W.codeIn K cdv qual=true
 kp:PySem.W.keepIn K (.ref f)=true
section
variable {P:Program}{w:World}{K:PySem.W.Frag}{mg:Str->Option Value}{base:Heap}
theorem Fun.ok {x qual:Str}{st:Stmt}{f:Addr}{fd:FuncData}{N ps:List Str}{k:Nat}{sp:Sp}(F:Fun K x qual st f fd)(S:FnScope N ps (uX st))(len:∀vs H Q E,sp vs H Q E->vs.length=ps.length)
  (hbody:∀(cdv:Value) (A:Around) (outer:List Env) (s:Shared) (H:Hp) (vs:List V) (Q:VK) (E:XK),Room k (A.deeper (envOfC qual (uX st) s.heap.objs.size f cdv))->sp vs H Q E ->
   ∃t,PSs (wR CX0 P w K mg base N qual (uX st) f cdv A outer s H E).nox (vK st) t/\t { nx:=fun _ H'=>Q .non H',rt:=Q } (start N vs) H):FnOk P w K mg base CX0 (k+1) f fd ps sp:=by
 obtain⟨oc,od,kV,doc,pm,an,cdv,ct,osl,rfl,lk,hcd⟩:=F.ex;refine fn_of lk hcd S len fun A outer s H vs Q E hr hsp=>?_;obtain⟨t,h,q⟩:=hbody cdv A outer s H vs Q E hr hsp;exact⟨t,h.nox,q⟩
theorem Fun.binds {x qual:Str}{st:Stmt}{f:Addr}{fd:FuncData}{ps:List Str}(F:Fun K x qual st f fd)
  (h:∀(kV doc pm:Value) (an:Option Addr) (cdv ct:Value) (us:List Value),us.length=ps.length->bindArgs (PySem.W.fnOf x qual (lW st) (vK st) (uX st) .none kV doc pm an cdv ct) ⟨us,[]⟩=pure (ps.zip us)):Binds K fd ps []:=by
 obtain⟨oc,od,kV,doc,pm,an,cdv,ct,osl,rfl,lk,hcd⟩:=F.ex;exact .all (h kV doc pm an cdv ct)
theorem kR {x qual:Str}{st:Stmt}{f:Addr}{oc:Value}{od an:Option Addr}{osl:Array (Option Value)}{kV doc pm cdv ct:Value}(l:K.lookup f=some ⟨oc,od,.func (PySem.W.fnOf x qual (lW st) (vK st) (uX st) .none kV doc pm an cdv ct),osl⟩)
  (c:PySem.W.codeIn K cdv qual=true) (k:PySem.W.keepIn K (.ref f)=true):Fun K x qual st f (PySem.W.fnOf x qual (lW st) (vK st) (uX st) .none kV doc pm an cdv ct):=⟨⟨oc,od,kV,doc,pm,an,cdv,ct,osl,rfl,l,c⟩,k⟩
end
theorem tX {A:Around}{k:Nat}(hr:Room k A):A.units+1 < cLine:=Nat.lt_of_le_of_lt (Nat.add_le_add_left (by decide:1<=64) _) hr.units
section
variable {X:Cx}
theorem pv (i:Nat){x:Str}{pos:Pos}(hN:X.N[i]?=some x:=by rfl)(hv:Vis X.env.scope x:=by first | exact Or.inl rfl | exact Or.inr (Or.inl rfl) | exact Or.inr (Or.inr rfl))(hd:(x==("__debug__" : Str))=false:=by decide)
  (hcd:(x==("__classdict__" : Str))=false:=by decide):PE X (.Name x pos) (tVar i):=ZW hN hv hd hcd
end
def Same (H H':Hp):Prop:=∀b o,H b=some o->H' b=some o
theorem Same.refl (H:Hp):Same H H:=fun _ _ h=>h
section
variable {X:Cx}
theorem X3:CallR X (.builtin "len") (fun xs H Q=>∃a kvs,xs=[V.ref a]/\H a=some (.dK kvs)/\Q (.int kvs.length) H):=by
 intro pins s σ H xs us Q I r h;obtain⟨a,kvs,rfl,ha,q⟩:=h;obtain⟨u,rfl,ru⟩:=cB r;cases ru;exact d_len I (.inl ha) fun t s' I'=>⟨.int kvs.length,H,I',⟨t,rfl⟩,q⟩
end
def iQ:Expr->Bool
 |.Starred _ _=>false
 |_=>true
theorem vJ {e:Expr}{es:List Expr}{env:Env}(h:iQ e=true):starEach (e::es) env=(false,eval e env)::starEach es env:=by
 cases e<;>first | rfl | exact absurd h Bool.false_ne_true
theorem dG {pos:Pos}{env:Env}:∀{es:List Expr},es.all iQ=true->(backTo pos (starEach es env)).any (·.1)=false
 |[],_=>rfl
 |e::es,h=>by
  rw[List.all_cons,Bool.and_eq_true] at h;rw[vJ h.1];show(false || (backTo pos (starEach es env)).any (·.1))=false;rw[dG h.2]
  rfl
section
variable {X:Cx}{e:Expr}{es:List Expr}{te:TE}{t:TA}{x:Str}{p pos:Pos}
theorem qa_cons (ha:PE X e te)(hr:PA X es t)(hs:iQ e=true:=by rfl):PA X (e::es) (Zs te t):=pa_cons ha hr (vJ hs)
theorem qe_call {CX:CXT}{k:Nat}{f:Addr}{fd:FuncData}{ps:List Str}{sp:Sp}{dvs:List V}{ds:List Value}{E:XK}(F:FnOk X.prog X.w X.K X.mg X.base CX k f fd ps sp)(hr:Room k X.A)(hg:Gl X x)(hm:X.mg x=some (.ref f))(hk:PySem.W.keepIn X.K (.ref f)=true)(hb:Binds X.K fd ps ds)(hd:Vals dvs ds)(hx:gW CX X E)
  (ha:PA X (e::es) t) (hdb:(x==("__debug__" : Str))=false:=by decide) (hs:iQ e=true:=by rfl) (hall:es.all iQ=true:=by rfl):PE X (.Call (.Name x p) (e::es) [] pos) (Zu sp dvs E t) :=
 pe_call F hr hg hm hk hb hd hx ha hdb (vJ hs) (dG hall)
theorem ZH {id:String}{r:List V->Hp->VK->Prop}(hc:CallR X (.builtin id) r)(hg:Gl X x)(hm:X.mg x=none)(hv:bootBuiltins x=some (.builtin id))(ha:PA X (e::es) t)(hn:x ≠ "__name__":=by decide)(hdb:(x==("__debug__" : Str))=false:=by decide)
  (hs:iQ e=true:=by rfl) (hall:es.all iQ=true:=by rfl):PE X (.Call (.Name x p) (e::es) [] pos) (tCB r t):=Z3 hc hg hm hv ha hn hdb (vJ hs) (dG hall)
theorem Xh {T:String}{r:List V->Hp->VK->Prop}(hc:CallR X (.type T) r)(hg:Gl X x)(hm:X.mg x=none)(hv:bootBuiltins x=some (.type T))(ha:PA X (e::es) t)(hn:x ≠ "__name__":=by decide)(hdb:(x==("__debug__" : Str))=false:=by decide)
  (hs:iQ e=true:=by rfl) (hall:es.all iQ=true:=by rfl):PE X (.Call (.Name x p) (e::es) [] pos) (tCB r t):=Xm hc hg hm hv ha hn hdb (vJ hs) (dG hall)
end
section
variable {prog:Program}{w:World}{A:Around}{R:Result->Shared->Prop}{s:Shared}
theorem mR {elt target iter:Expr}{ifs:List Expr}{scope:Scope}{pos:Pos}{it acc:Value}{env:Env}(I:Nat->Shared->Prop)
  (turn:∀n s,I n s->wpAny (model prog w) A (pyNext it) (fun r s₁=>match r with
   |none=>R (.ok .next) s₁
   |some v=>wpAny (model prog w) A (letOwnedTupleGo target it v) (fun _ s₁=>wpAny (model prog w) A (assign target env v) (fun _ s₂ =>
     wpAny (model prog w) A (forIn ifs true fun c r=>if r=true then do let ok <- isTrue c env (eval c env); pure (ForInStep.yield ok) else pure (ForInStep.yield r)) (fun ok s₃ =>
      if ok=true then wpAny (model prog w) A (eval elt env) (fun x s₄ =>
       wpAny (model prog w) A (call (.builtin "list.append") [acc,x]) (fun _ s₅=>∃m,m < n/\I m s₅) (fun _ _=>False) s₄) (fun _ _=>False) s₃
      else ∃m,m < n/\I m s₃) (fun _ _=>False) s₂) (fun _ _=>False) s₁) (fun _ _=>False) s₁) (fun _ _=>False) s)
  (n:Nat) (h:I n s) :
  codeAny (model prog w) A (.compLoop (.ListComp elt [⟨target,iter,ifs,0⟩] scope pos) 0 it acc env) R s:=by
 refine codeAny_loop rfl I (fun n s hI=>?_) n h;show wpAny _ A ((compTurn (.ListComp elt [⟨target,iter,ifs,0⟩] scope pos) 0 it acc env).onRaise (fun x=>do noteFrame x env; theTreesLotGoes x)) _ _ s;refine wpAny_noted ?_;rw[compTurn_list];refine wpAny_bind (wpAny_standAt (wpAny_bind (wpAny_mono (turn n s hI) (fun r s₁ h₁=>?_) fun _ _ h'=>False.elim h')))
 cases r with
 |none=>exact wpAny_pure h₁
 |some v =>
  refine wpAny_bind (wpAny_mono h₁ (fun _ s₁' h₁'=>?_) fun _ _ h'=>False.elim h');refine wpAny_bind (wpAny_mono h₁' (fun _ s₂ h₂=>wpAny_bind (wpAny_mono h₂ (fun ok s₃ h₃=>?_) fun _ _ h'=>False.elim h')) fun _ _ h'=>False.elim h')
  cases ok with
  |false=>exact wpAny_pure ⟨rfl,h₃⟩
  |true =>
   exact wpAny_bind (wpAny_bind (wpAny_mono h₃ (fun x s₄ h₄=>wpAny_bind (wpAny_mono h₄ (fun _ s₅ h₅=>wpAny_pure (wpAny_pure ⟨rfl,h₅⟩)) fun _ _ h'=>False.elim h')) fun _ _ h'=>False.elim h'))
end
theorem nJ {env:Env}:∀{names:List (Str×NameKind)}{y:Str}{k:NameKind},
  (names.map fun(n,k)=>if (k==NameKind.free&&env.scope.kind==.function&&env.kindOf n==some .cell) then (n,NameKind.cell) else (n,k)).lookup y=some k ->
   ∃k0,(y,k0)∈names/\(k=k0\/(k0=.free/\k=.cell))
 |[],_,_,h=>by simp at h
 | (n,k1)::r,y,k,h=>by
  have ih:=@nJ env r y k;have h:List.lookup y ((if (k1==NameKind.free&&env.scope.kind==.function&&env.kindOf n==some .cell)=true then (n,NameKind.cell) else (n,k1))::_)=some k:=h
  cases hx:y==n with
  |true =>
   have e:y=n:=by simpa using hx
   subst e
   by_cases hc:(k1==NameKind.free&&env.scope.kind==.function&&env.kindOf y==some .cell)=true
   .rw [if_pos hc] at h
    simp only[List.lookup_cons,beq_self_eq_true] at h
    have hk:k1=.free:=by
     rw[Bool.and_eq_true,Bool.and_eq_true] at hc;exact beq_iff_eq.mp hc.1.1
    exact⟨k1,List.mem_cons_self,.inr ⟨hk,(Option.some.inj h).symm⟩⟩
   .rw [if_neg hc] at h
    simp only[List.lookup_cons,beq_self_eq_true] at h
    exact⟨k1,List.mem_cons_self,.inl (Option.some.inj h).symm⟩
  |false =>
   have h2:(r.map fun(n,k)=>if (k==NameKind.free&&env.scope.kind==.function&&env.kindOf n==some .cell) then (n,NameKind.cell) else (n,k)).lookup y=some k:=by
    by_cases hc:(k1==NameKind.free&&env.scope.kind==.function&&env.kindOf n==some .cell)=true
    .rw [if_pos hc] at h; simp only[List.lookup_cons,hx] at h; exact h
    .rw [if_neg hc] at h; simp only[List.lookup_cons,hx] at h; exact h
   obtain⟨k0,m,q⟩:=ih h2;exact⟨k0,List.mem_cons_of_mem _ m,q⟩
def Zb (X:Cx)(ifs:List Expr)(t:TT):Prop :=
 ∀(pins:List (Addr×Obj)) (s:Shared) (σ:St) (H:Hp) (Q:Bool->Hp->Prop),Inv X pins σ H s->t σ H Q ->
  wpAny (model X.prog X.w) X.A (forIn ifs true fun c r=>if r=true then do let ok <- isTrue c X.env (eval c X.env); pure (ForInStep.yield ok) else pure (ForInStep.yield r)) (TP X pins σ Q) X.xe s
def tYes:TT:=fun _ H Q=>Q true H
theorem ZT {X:Cx}:Zb X [] tYes:=fun _ _ _ H _ I h=>wpAny_tests_nil ⟨H,I,h⟩
theorem ZS {X:Cx}{c:Expr}{t:TT}(h:PT X c t):Zb X [c] t:=fun pins s σ H Q I hw=>wpAny_tests_one (h pins s σ H Q I hw)
def cxN (X:Cx)(xs:List Str)(scope:Scope)(cl:List (Str×Addr))(fp:List Addr)(C:Addr)(s₂:Shared)(H₂:Hp):Cx where
 prog:=X.prog
 w:=X.w
 K:=X.K
 mg:=X.mg
 base:=X.base
 A:=X.A
 N:=xs++X.N
 s₀:=s₂
 H₀:=H₂
 env:=compEnvC scope cl C X.env
 outer:=X.stack
 stack:=X.stack
 ex:=fp
 fn:=fun _=>false
 calm:=X.calm
 pn:=[]
 xe:=fun _ _=>False
abbrev gJ (X:Cx)(x:Str):=cxN X [x]
def bS (wi:TI)(tc:TT)(te:TE):TE:=fun σ H Q=>wi σ H fun J H1=>∀D,H1 D=none->∃W:Nat->Nat->List V->Hp->Prop,(∃m,W 0 m [] (upd H1 D (.lst [])))/\∀i m ys H,W i m ys H ->
 (J.stop i H/\Q (.ref D) H)\/(J.go i H/\∀x H',J.yld i H x H'->tc (some x::σ) H' fun b H2 =>
  if b=true then te (some x::σ) H2 fun y H3=>H3 D=some (.lst ys)/\ys.length < sizeLine/\∃m',m' < m/\W (i+1) m' (ys++[y]) (upd H3 D (.lst (ys++[y])))
  else ∃m',m' < m/\W (i+1) m' ys H2)
section
variable {X:Cx}
structure lV (X:Cx)(xs:List Str)(scope:Scope)(cl:List (Str×Addr)):Prop where
 clos:closureFor scope X.env=pure cl
 cell:∀y∈scope.names,y.2≠.cell
 kind:scope.kind=.function
 names:∀y∈scope.names,y.2=.local->scope.names.lookup y.1=some .local
 hx:∀x∈xs,scope.names.lookup x=some .local
 loc:∀y∈scope.names,y.2=.local->y.1∉X.N
 free:∀y∈scope.names,y.2=.free->X.env.kindOf y.1≠some .local/\(X.env.kindOf y.1=some .cell\/X.env.kindOf y.1=some .free)/\∃c,cl.lookup y.1=some c
 cl:∀y c,cl.lookup y=some c->X.env.cells.lookup y=some c
abbrev yU (X:Cx)(x:Str):=lV X [x]
theorem iG {elt iter tg:Expr}{xs:List Str}{pos:Pos}{ifs:List Expr}{scope:Scope}{cl:List (Str×Addr)}{tc:TT}{te:TE}{g:TG}{Tk:V->Hp->List V->Prop}{RR:Value->Addr->Result->Shared->Prop}{EE:Value->Shared->Prop}
  (hc:X.calm=true) (K:lV X xs scope cl) (hg:∀fp C s₂ H₂,PG (cxN X xs scope cl fp C s₂ H₂) tg g)
  (ht:∀fp C s₂ H₂,Zb (cxN X xs scope cl fp C s₂ H₂) ifs tc) (he:∀fp C s₂ H₂,PE (cxN X xs scope cl fp C s₂ H₂) elt te)
  {pins:List (Addr×Obj)} {σ:St} {s₂:Shared} {H₂:Hp} {it:Addr} {fp:List Addr} {tn:Nat->Heap->Prop} {J:It} {Q:VK}
  (hG:∀ws vs x H Q,ws.length=xs.length->Tk x H vs->vs.length=xs.length->Q (vs.map some++σ) H->g x (ws++σ) H Q) (I₂:Inv X pins σ H₂ s₂) (T:X9 X.prog X.w X.K tg J fp it tn) (st₂:tn 0 s₂.heap) (f₂:∀b∈fp,mE X pins H₂ b)
  (R:∀D,H₂ D=none->∃W:Nat->Nat->List V->Hp->Prop,(∃m,W 0 m [] (upd H₂ D (.lst [])))/\∀i m ys H,W i m ys H ->
   (J.stop i H/\Q (.ref D) H)\/(J.go i H/\∀x H',J.yld i H x H'->∃vs,Tk x H' vs/\vs.length=xs.length/\tc (vs.map some++σ) H' fun b H2 =>
    if b=true then te (vs.map some++σ) H2 fun y H3=>H3 D=some (.lst ys)/\ys.length < sizeLine/\∃m',m' < m/\W (i+1) m' (ys++[y]) (upd H3 D (.lst (ys++[y])))
    else ∃m',m' < m/\W (i+1) m' ys H2))
  (hRR:∀(D C:Addr) (H:Hp) (s4:Shared) (m:Str->Option Value),s4.heap.Ns C m->C≠X.env.locals->H C=none->(∀x c,X.env.cells.lookup x=some c->c≠C)->s₂.heap.objs.size<=C->Inv X pins σ H s4 ->
   Q (.ref D) H->RR (.ref D) C (.ok .next) s4) :
  wpAny (model X.prog X.w) X.A (newList []) (fun acc s₃=>wpAny (model X.prog X.w) X.A (newFunctionEnv scope X.env.globals cl [] X.env.qual none .none (some X.env)) (fun cenv s₄ =>
   codeAny (model X.prog X.w) X.A (.compStart (.ListComp elt [⟨tg,iter,ifs,0⟩] scope pos) 0 (.ref it) acc { cenv with scope:=relabel scope X.env }) (RR acc cenv.locals) s₄) EE s₃) EE s₂:=by
 refine wpAny_newObj_type (wpAny_newFunctionEnv K.cell (by intro y hy; simp at hy) (fun h₁ hns₁ hsb₁=>?_) K.kind);dsimp only at hns₁ hsb₁ ⊢;generalize hH2:s₂.heap.push { cls:=.type "list",dict:=none,data:=.seq ([]:List Value).toArray }=H2 at hns₁ hsb₁ ⊢;have hC:H2.objs.size=s₂.heap.objs.size+1:=by rw[<- hH2,Heap.size_push]
 have hDC:s₂.heap.objs.size≠H2.objs.size:=by rw[hC]; exact Nat.ne_of_lt (Nat.lt_succ_self _)
 have below:∀b,b < s₂.heap.objs.size->b≠H2.objs.size/\b≠s₂.heap.objs.size:=fun b hb=>⟨by rw[hC]; exact Nat.ne_of_lt (Nat.lt_succ_of_lt hb),Nat.ne_of_lt hb⟩;have old:∀b o,s₂.heap.get? b=some o->h₁.get? b=some o:=fun b o e=>hsb₁.extBut b o (below b (Heap.lt_size e)).1 (Heap.get?_push_of_some _ (hH2▸Heap.get?_push_of_some _ e));have hacc:h₁.get? s₂.heap.objs.size=some { cls:=.type "list",dict:=none,data:=.seq ([]:List Value).toArray }:=hsb₁.extBut _ _ hDC (Heap.get?_push_of_some _ (hH2▸Heap.get?_push_size _ rfl))
 have fD:H₂ s₂.heap.objs.size=none:=I₂.hok.fresh (Nat.le_refl _);have fC:H₂ H2.objs.size=none:=I₂.hok.fresh (by rw[hC]; exact Nat.le_succ _);have fpLt:∀b∈fp,b < s₂.heap.objs.size:=fun b hb=>let ⟨o,e,_⟩:=T.obj _ _ st₂ b hb; Heap.lt_size e
 obtain⟨W,⟨m0,w0⟩,turn⟩:=R s₂.heap.objs.size fD
 have okX:(cxN X xs scope cl fp H2.objs.size s₂ H₂).Ok:=by
  refine⟨I₂.ok.mod,K.kind,I₂.ok.glob,I₂.ok.blt,?_,fun y z c h1 h2=>I₂.ok.inj y z c (K.cl y c h1) (K.cl z c h2),fun y hy=>?_,fun y c h _=>?_,I₂.ok.hd,I₂.ok.frames,.inl rfl,fun b hb=>⟨(below b (fpLt b hb)).1,fun y c h=>(f₂ b hb).2.2.2.2.1 y c (K.cl y c h)⟩,I₂.bs,
   Nat.le_trans I₂.ok.bsz I₂.sz,fun b o e hb=>?_,fun b hb z=>?_,I₂.stack,I₂.stkFree⟩
  .show s₂.heap.objs.size<=H2.objs.size
   rw[hC]; exact Nat.le_succ _
  .have hy':(scope.names.map fun(n,k)=>if (k==NameKind.free&&X.env.scope.kind==.function&&X.env.kindOf n==some .cell) then (n,NameKind.cell) else (n,k)).lookup y=some .cell \/
     (scope.names.map fun(n,k)=>if (k==NameKind.free&&X.env.scope.kind==.function&&X.env.kindOf n==some .cell) then (n,NameKind.cell) else (n,k)).lookup y=some .free:=hy
   have fr:(y,NameKind.free)∈scope.names:=by
    rcases hy' with q | q
    .obtain ⟨k0,hm,z | ⟨z,_⟩⟩:=nJ q
     .subst z; exact absurd rfl (K.cell _ hm)
     .subst z; exact hm
    .obtain ⟨k0,hm,z | ⟨z,w⟩⟩:=nJ q
     .subst z; exact hm
     .cases w
   exact(K.free _ fr rfl).2.2
  .exact absurd (show false=true from h) Bool.false_ne_true
  .obtain ⟨_,_,_,f3,_⟩:=f₂ b hb
   rcases f3 with z | z
   .exact I₂.ok.noex b o e z
   .exact absurd (Nat.lt_of_lt_of_le (Heap.lt_size (I₂.ok.bs b o e).1) z) (Nat.lt_irrefl _)
  .obtain ⟨_,f1,f2',_⟩:=f₂ b hb
   rcases List.mem_cons.mp (I₂.stkSub b z) with q | q
   .exact f1 q
   .exact f2' q
 have hDne:∀b,H₂ b≠none->b≠s₂.heap.objs.size:=fun b hb z=>hb (z▸fD);have ldD:HOk X.prog X.w (upd H₂ s₂.heap.objs.size (.lst [])) h₁:=I₂.hok.laid old (Nat.le_refl _) ⟨Nat.zero_le _,[],_,.nil,hacc⟩
 have visFree:∀y,Vis (relabel scope X.env) y->y∈X.N->(y,NameKind.free)∈scope.names/\((relabel scope X.env).names.lookup y=some .cell\/(relabel scope X.env).names.lookup y=some .free):=by
  intro y hv hne
  rcases hv with q | q | q
  .obtain ⟨k0,hm,z | ⟨z,w⟩⟩:=nJ (env:=X.env) (show(scope.names.map _).lookup y=_ from q)
   .subst z; exact absurd hne (K.loc _ hm rfl)
   .cases w
  .obtain ⟨k0,hm,z | ⟨z,w⟩⟩:=nJ (env:=X.env) (show(scope.names.map _).lookup y=_ from q)
   .subst z; exact absurd rfl (K.cell _ hm)
   .subst z; exact⟨hm,.inl q⟩
  .obtain ⟨k0,hm,z | ⟨z,w⟩⟩:=nJ (env:=X.env) (show(scope.names.map _).lookup y=_ from q)
   .subst z; exact⟨hm,.inr q⟩
   .cases w
 have I':∀tk,Inv (cxN X xs scope cl fp H2.objs.size s₂ H₂) [] (List.replicate xs.length none++σ) (upd H₂ s₂.heap.objs.size (.lst [])) { s₂ with heap:=h₁,toks:=tk }:=by
  intro tk;refine⟨okX,rfl,I₂.bare,Un.laid old (Nat.le_refl _) fD,⟨_,hns₁,fun i y v h1 h2 h3=>?_⟩,fun y c h=>?_,?_,fun y c h=>?_,fun p hp=>absurd hp (by simp[cxN]),ldD,?_⟩
  .rcases Nat.lt_or_ge i xs.length with hi | hi
   .rw [List.getElem?_append_left (by rw[List.length_replicate]; exact hi),List.getElem?_replicate,if_pos hi] at h2
    cases h2
   .have h1':X.N[i - xs.length]?=some y:=by
     have h1:(xs++X.N)[i]?=some y:=h1;rw[List.getElem?_append_right hi] at h1; exact h1
    have h2':σ[i - xs.length]?=some (some v):=by
     rw[List.getElem?_append_right (by rw[List.length_replicate]; exact hi),List.length_replicate] at h2; exact h2
    have hne:y∈X.N:=List.mem_of_getElem? h1';obtain⟨fm,kk⟩:=visFree y h3 hne;obtain⟨nl,vz,c,hcl⟩:=K.free _ fm rfl;obtain⟨mm,hn,hl⟩:=I₂.loc;obtain⟨u,ru,l⟩:=hl (i - xs.length) y v h1' h2' (vz.elim (fun z=>.inr (.inl z)) fun z=>.inr (.inr z))
    rcases l with ⟨z,_⟩ | ⟨_,c',hc',hcell⟩
    .exact absurd z nl
    .have ec:c'=c:=Option.some.inj (hc'.symm.trans (K.cl _ _ hcl))
     subst ec;obtain⟨o,ho,hd⟩:=hcell;exact⟨u,ru,.inr ⟨kk,c',hcl,o,old _ _ ho,hd⟩⟩
  .obtain ⟨v,o,ho,hd⟩:=I₂.cell y c (K.cl y c h)
   exact⟨v,o,old _ _ ho,hd⟩
  .show upd H₂ _ _ H2.objs.size=none
   rw[lQ (Ne.symm hDC)]; exact fC
  .show upd H₂ _ _ c=none
   obtain⟨v,o,ho,hd⟩:=I₂.cell y c (K.cl y c h);rw[lQ (below c (Heap.lt_size ho)).2]; exact I₂.freeC y c (K.cl y c h)
  .show (List.replicate xs.length none++σ).length=(xs++X.N).length
   rw[List.length_append,List.length_append,List.length_replicate,I₂.len]
 have stat:∀{H':Hp},(∀b∈fp,H' b=none)->∀b∈fp,mE (cxN X xs scope cl fp H2.objs.size s₂ H₂) [] H' b:=fun hn b hb =>
  ⟨hn b hb,(okX.exf b hb).1,okX.exfs b hb,.inl hb,(okX.exf b hb).2,fun p hp=>absurd hp (by simp[cxN])⟩
 have tn₁:tn 0 h₁:=T.keep _ _ _ st₂ fun b _ o e=>old b o e;have fp₁:∀b∈fp,upd H₂ s₂.heap.objs.size (.lst []) b=none:=fun b hb=>by rw[lQ (below b (fpLt b hb)).2]; exact(f₂ b hb).1
 have loop:∀s₃:Shared,(∃tk,s₃={ s₂ with heap:=h₁,toks:=tk }) ->
   codeAny (model X.prog X.w) X.A (.compLoop (.ListComp elt [⟨tg,iter,ifs,0⟩] scope pos) 0 (.ref it) (.ref s₂.heap.objs.size) (compEnvC scope cl H2.objs.size X.env))
    (RR (.ref s₂.heap.objs.size) H2.objs.size) s₃:=by
  rintro s₃ ⟨tk,rfl⟩
  refine mR (fun n s'=>∃i ys H' v0,v0.length=xs.length/\Inv (cxN X xs scope cl fp H2.objs.size s₂ H₂) [] (v0++σ) H' s'/\tn i s'.heap/\(∀b∈fp,H' b=none)/\W i n ys H') ?_ m0
   ⟨0,[],_,List.replicate xs.length none,List.length_replicate,I' tk,tn₁,fp₁,w0⟩
  rintro n s3 ⟨i,ys,H3,v0,l0,I3,st3,fr3,w3⟩
  rcases turn i n ys H3 w3 with ⟨stop,qn⟩ | ⟨go,step⟩
  .refine thn (T.done (cxN X xs scope cl fp H2.objs.size s₂ H₂) rfl rfl rfl hc i [] s3 (v0++σ) H3 (fun _ _=>False) I3 (stat fr3) st3 stop) fun r s4 ⟨hr,I4⟩=>?_
   subst hr;show RR _ _ (.ok .next) s4;obtain⟨m,hn,_⟩:=I4.loc;have un:=I4.base;have os4:s4.os=s₂.os:=I4.os;refine hRR _ _ H3 s4 m hn ?_ I4.free (fun y c h z=>?_) (by rw[hC]; exact Nat.le_succ _) ?_ qn
   .exact Ne.symm (below _ I₂.lt).1
   .obtain ⟨v,o,ho,hd⟩:=I₂.cell y c h
    exact(below c (Heap.lt_size ho)).1 z
   .obtain ⟨hh,g,d,t,os'⟩:=s4
    obtain rfl:os'=s₂.os:=os4;exact I₂.call (h':=hh) (g':=g) (d':=d) (t':=t) (ch:=fp) un I4.hok I4.bare fun b hb=>⟨(f₂ b hb).2.2.2.1,(f₂ b hb).2.1,(f₂ b hb).2.2.2.2.1,(f₂ b hb).2.2.2.2.2⟩
  .refine thn (T.item (cxN X xs scope cl fp H2.objs.size s₂ H₂) rfl rfl rfl hc i [] s3 (v0++σ) H3 (fun _ _=>False) I3 (stat fr3) st3 go) fun r s4 ⟨u,hr,h4⟩=>?_
   subst hr;refine thn h4 fun _ s5 ⟨x5,H5,I5,r5,y5,st5,fr5⟩=>?_;have I5':=I5.pinned (stat fr5) (T.obj _ _ st5)
   have again:∀{H':Hp} {s':Shared} {τ:St},Inv (cxN X xs scope cl fp H2.objs.size s₂ H₂) ([]++nL fp s5.heap) τ H' s'->tn (i+1) s'.heap/\∀b∈fp,H' b=none:=fun I7 =>
    ⟨T.keep _ _ _ st5 fun b hb o e=>(I7.pin (b,o) (List.mem_append_right _ (List.mem_append_right _ (tY hb e)))).1,fun b hb=>by
     obtain⟨o,e,d⟩:=T.obj _ _ st5 b hb
     exact(I7.pin (b,o) (List.mem_append_right _ (List.mem_append_right _ (tY hb e)))).2.1⟩
   obtain⟨vs5,sq5,l5,q5⟩:=step x5 H5 y5;refine thn (hg fp _ s₂ H₂ _ s5 (v0++σ) H5 x5 u (fun σ' H'=>σ'=vs5.map some++σ/\H'=H5) I5' r5 (hG v0 vs5 x5 H5 _ l0 sq5 l5 ⟨rfl,rfl⟩)) fun _ s6 ⟨σ6,H6,I6,e6,e6'⟩=>?_;subst e6 e6';have l6:(vs5.map some).length=xs.length:=by rw[List.length_map]; exact l5
   refine thn (ht fp _ s₂ H₂ _ s6 (vs5.map some++σ) H6 _ I6 q5) fun ok s7 ⟨H7,I7,q7⟩=>?_
   cases ok with
   |false =>
    rw[if_neg Bool.false_ne_true] at q7;rw[if_neg Bool.false_ne_true];obtain⟨m',hm,w7⟩:=q7;obtain⟨k1,k2⟩:=again I7;exact⟨m',hm,i+1,ys,H7,vs5.map some,l6,I7.unpinned,k1,k2,w7⟩
   |true =>
    rw[if_pos rfl] at q7;rw[if_pos rfl];refine thn (he fp _ s₂ H₂ _ s7 (vs5.map some++σ) H7 _ I7 q7) fun y s8 ⟨y8,H8,I8,r8,hD8,hl8,m',hm,w8⟩=>?_;refine thn (wN (X:=cxN X xs scope cl fp H2.objs.size s₂ H₂) _ s8 _ H8 (.ref s₂.heap.objs.size) [y8] (.ref s₂.heap.objs.size) [y] (fun _ H9=>H9=upd H8 s₂.heap.objs.size (.lst (ys++[y8]))) I8 rfl (.cons r8 .nil) ⟨_,ys,y8,rfl,rfl,hD8,hl8,rfl⟩) fun _ s9 ⟨_,H9,I9,_,e9⟩=>?_
    subst e9;obtain⟨k1,k2⟩:=again I9;exact⟨m',hm,i+1,ys++[y8],_,vs5.map some,l6,I9.unpinned,k1,k2,w8⟩
 exact codeAny_compStart_list (loop _ ⟨_,rfl⟩) (T.self _ 0 _ _ _ tn₁ (loop _ ⟨_,rfl⟩))
theorem pe_comp {elt iter:Expr}{x:Str}{px pos:Pos}{ifs:List Expr}{scope:Scope}{cl:List (Str×Addr)}{wi:TI}{tc:TT}{te:TE}
  (hc:X.calm=true) (hN:(x::X.N).Nodup) (K:yU X x scope cl) (hi:PI X (.Name x px) iter wi)
  (ht:∀fp C s₂ H₂,Zb (gJ X x scope cl fp C s₂ H₂) ifs tc) (he:∀fp C s₂ H₂,PE (gJ X x scope cl fp C s₂ H₂) elt te)
  (hs:∀v,foldedSetIterable iter X.env v=pure v:=by intro _; rfl):PE X (.ListComp elt [⟨.Name x px,iter,ifs,0⟩] scope pos) (bS wi tc te):=by
 intro pins s σ H Q I h;rw[eval_ListComp];refine wpAny_comprehension_free (use:=none) rfl hs K.clos K.kind K.names (thn (hi pins s σ H _ I h) fun xv s₁ h₁=>thn h₁ fun itv s₂ h₂=>?_);obtain⟨it,fp,tn,J,H₂,e,I₂,T,st₂,f₂,R⟩:=h₂;subst e;refine iG (g:=mY 0) (Tk:=fun x _ vs=>vs=[x]) hc K (fun _ _ _ _=>xM (i:=0) (x:=x) hN rfl (.inl (lookup_relabel_local (K.hx x (.head _)))) (.inr (lookup_relabel_local (K.hx x (.head _))))) ht he (by rintro ws vs y H Q l rfl _ q; match ws,l with | [_],_=>exact q) I₂ T st₂ f₂ (fun D hD=>let ⟨W,w0,tu⟩:=R D hD; ⟨W,w0,fun i m ys H w=>(tu i m ys H w).imp id fun⟨g,st⟩=>⟨g,fun x H' y=>⟨[x],rfl,rfl,st x H' y⟩⟩⟩) ?_
 intro D C H s4 m hn hCL hC0 hCc hCsz I4 q;refine⟨m,hn,fun h' hsb=>⟨.ref D,H,?_,rfl,q⟩⟩;refine I4.turned (it:=C) (t':=s4.toks) (fun b o hb e=>(hsb.2 b hb).trans e) hC0 hCL (.inr (Nat.le_trans I₂.sz hCsz)) hCc fun p hp z=>?_;exact absurd (Nat.lt_of_lt_of_le (Heap.lt_size (I₂.pin p hp).1) (by rw[z]; exact hCsz)) (Nat.lt_irrefl _)
end
theorem X7 (ys:List Bool):((List.range ys.length).all fun i=>(ys[i]?).getD false)=ys.all id:=by
 rw[Bool.eq_iff_iff,List.all_eq_true,List.all_eq_true]
 constructor
 .intro h b hb
  obtain⟨i,hi⟩:=List.mem_iff_getElem?.mp hb;have hl:i < ys.length:=(List.getElem?_eq_some_iff.mp hi).1;have:=h i (List.mem_range.mpr hl);rw[hi] at this;exact this
 .intro h i hi
  have hl:i < ys.length:=List.mem_range.mp hi;rw[List.getElem?_eq_getElem hl];exact h _ (List.getElem_mem hl)
section
variable {X:Cx}
theorem KI (hc:X.calm=true):CallR X (.builtin "all") (fun xs H Q=>∃p ys,xs=[.ref p]/\SqL X.K H p (List.map V.bl ys)/\Q (.bl (ys.all id)) H):=by
 intro pins s σ H xs us Q I r h;obtain⟨p,ys,rfl,hq,q⟩:=h;obtain⟨u,rfl,rx⟩:=cB r;cases rx;obtain⟨its,rv,pl,hz⟩:=I.list hq;have hlen:its.length=ys.length:=by rw[<- rv.length,List.length_map]
 obtain⟨o,n,ho,_⟩:=id pl;have hlt:p < s.heap.objs.size:=Heap.lt_size ho;refine call_all_walk (wpAny_pyIter_list pl.isList ?_);refine⟨s.heap.objs.size,_,_,_,_,_,fun i=>(ys[i]?).getD false,rfl,Walks.list (A:=X.A.in1) (I.ok.hd hc) s.heap.objs.size p (Nat.ne_of_lt hlt) its.toArray,⟨⟨_,Heap.get?_push_size _ rfl,rfl,rfl⟩,pl.isList.push _⟩,fun i v s' Q' E' hP hQ=>?_,fun h' tk kk=>?_⟩
 .have hv:its[i]?=some v:=by simpa using hP
  have hi:i < ys.length:=by rw[<- hlen]; exact(List.getElem?_eq_some_iff.mp hv).1
  have hy:(List.map V.bl ys)[i]?=some (.bl ys[i]):=by rw[List.getElem?_map,List.getElem?_eq_getElem hi]; rfl
  obtain⟨u,hu,ru⟩:=rv.get hy;rw[hv] at hu;cases hu;cases (show v=Value.bool ys[i] from ru);have hQ:Q' ((ys[i]?).getD false) s':=hQ;rw[List.getElem?_eq_getElem hi] at hQ;exact wpAny_truthy_bool hQ
 .have I1:Inv X pins σ H { s with heap:=h',toks:=tk }:=I.kept fun b o e=>kk b o (by intro z; exact absurd (Heap.lt_size e) (by rw[List.mem_singleton.mp z]; exact Nat.lt_irrefl _)) (Heap.get?_push_of_some _ e)
  have e:((List.range its.toArray.size).all fun i=>(ys[i]?).getD false)=ys.all id:=by rw[List.size_toArray,hlen,X7]
  rw[e];exact⟨.bl (ys.all id),H,I1,rfl,q⟩
inductive Ty where
 |non | bl | int | str | lst | tup | dct
 deriving DecidableEq
def mG:Ty->String
 |.non=>"NoneType" | .bl=>"bool" | .int=>"int" | .str=>"str" | .lst=>"list" | .tup=>"tuple" | .dct=>"dict"
def tyH:HO->Option Ty
 |.lst _=>some .lst
 |.frz _ (.lst _)=>some .lst
 |.tup _=>some .tup
 |.dK _=>some .dct
 |.dT _=>some .dct
 |_=>none
def tyN (H:Hp):V->Option Ty
 |.non=>some .non
 |.bl _=>some .bl
 |.int _=>some .int
 |.str _=>some .str
 |.ref a=>(H a).bind tyH
 |_=>none
theorem tyOf_of {K:PySem.W.Frag}{H:Hp}{x:V}{n:Ty}(h:tyN H x=some n):rF K H x (.type (mG n)):=by
 cases x with
 |non=>cases h; exact .non
 |bl b=>cases h; exact .bl b
 |int i=>cases h; exact .int i
 |str z=>cases h; exact .str z
 |ref a =>
  have h:(H a).bind tyH=some n:=h
  cases e:H a with
  |none=>rw[e] at h; cases h
  |some o =>
   rw[e] at h;have h:tyH o=some n:=h
   cases o with
   |lst xs=>cases h; exact .lst e
   |tup xs=>cases h; exact .tup e
   |dK kvs=>cases h; exact .dK e
   |dT kvs=>cases h; exact .dT e
   |frz ob u =>
    cases u with
    |lst xs=>cases h; exact .frz e
    |_=>cases h
   |_=>cases h
 |byt b=>cases h
 |flt b=>cases h
 |ty n=>cases h
def zW:Ty->Ty->Bool
 |.bl,.int=>true
 |a,b=>decide (a=b)
theorem kit_all (K:PySem.W.Frag)(n T:Ty):PySem.W.kitOne K (.type (mG n)) (.type (mG T))=some (zW n T):=by
 cases n<;>cases T<;>with_unfolding_all rfl
theorem iK:CallR X (.builtin "isinstance") (fun xs H Q=>∃x T n,xs=[x,.ty (mG T)]/\tyN H x=some n/\Q (.bl (zW n T)) H):=by
 intro pins s σ H xs us Q I r h;obtain⟨x,T,n,rfl,hn,q⟩:=h;obtain⟨u,w',rfl,rx,rT⟩:=wS r;cases (show w'=Value.type (mG T) from rT);exact XI I rx (tyOf_of hn) (kit_all X.K n T) fun tk=>⟨.bl (zW n T),H,I.tok tk,rfl,q⟩
theorem kT:OpR X (binaryOp .FloorDiv) (rI (fun _ j=>0 < j/\j < 18446744073709551616) fun i j=>.int (i / j)):=opI fun i j _ _ _ _ _ hc q=>by
 have h1:(0:Int) < j:=hc.1;have h2:j < 18446744073709551616:=hc.2;refine floordiv_int (by omega) (by rw[Int.fdiv_eq_ediv_of_nonneg i (by omega)]; exact q) (.inl (PyProof.noPylong_of_log2 ?_))
 have h3:j.natAbs < 2 ^ 64:=by
  have:(2:Nat) ^ 64=18446744073709551616:=by decide
  omega
 exact Nat.lt_of_lt_of_le ((Nat.log2_lt (by omega)).mpr h3) (by decide)
end
structure JE (X:Cx)(e:Expr)(t:TE):Prop where
 h:PE X e t
structure JT (X:Cx)(e:Expr)(t:TT):Prop where
 h:PT X e t
structure JW (X:Cx)(e:Expr)(t:TT):Prop where
 h:PW X e t
structure JA (X:Cx)(es:List Expr)(t:TA):Prop where
 h:PA X es t
structure JS (X:Cx)(st:Stmt)(t:TS):Prop where
 h:PS X st t
structure JB (X:Cx)(st:List Stmt)(t:TS):Prop where
 h:PSs X st t
structure JG (X:Cx)(e:Expr)(t:TG):Prop where
 h:PG X e t
structure JGs (X:Cx)(es:List Expr)(t:TGs):Prop where
 h:PGs X es t
structure JI (X:Cx)(tg e:Expr)(t:TI):Prop where
 h:PI X tg e t
structure JF (X:Cx)(ifs:List Expr)(t:TT):Prop where
 h:Zb X ifs t
structure JO (X:Cx)(e:Option Expr)(t:TO):Prop where
 h:PO X e t
section
variable {X:Cx}{a b c e o i:Expr}{es:List Expr}{ta tb tc te:TE}{tA tB':TT}{t:TA}{pos:Pos}{rest:List Expr}
theorem jv (i:Nat){x:Str}{pos:Pos}(hN:X.N[i]?=some x:=by rfl)(hv:Vis X.env.scope x:=by first | exact Or.inl rfl | exact Or.inr (Or.inl rfl) | exact Or.inr (Or.inr rfl))(hd:(x==("__debug__" : Str))=false:=by decide)
  (hcd:(x==("__classdict__" : Str))=false:=by decide):JE X (.Name x pos) (tVar i):=⟨ZW hN hv hd hcd⟩
theorem je_int {i j pos}:JE X (.Constant (.int i) j pos) (tC (.int i)):=⟨pe_int⟩
theorem je_bl {b j pos}:JE X (.Constant (.bool b) j pos) (tC (.bl b)):=⟨pe_bl⟩
theorem je_non {j pos}:JE X (.Constant .none j pos) (tC .non):=⟨pe_non⟩
theorem je_str {x j pos}:JE X (.Constant (.str x) j pos) (tC (.str x)):=⟨pe_str⟩
theorem je_glob {x:Str}{v:V}{u:Value}(hg:Gl X x)(hm:X.mg x=some u)(r:RelV v u)(hd:(x==("__debug__" : Str))=false:=by decide):JE X (.Name x pos) (tC v):=⟨pe_glob hg hm r hd⟩
theorem je_bltn {x:Str}{v:V}{u:Value}(hg:Gl X x)(hm:X.mg x=none)(hv:bootBuiltins x=some u)(r:RelV v u)(hn:x ≠ "__name__":=by decide)(hd:(x==("__debug__" : Str))=false:=by decide):JE X (.Name x pos) (tC v):=⟨pe_bltn hg hm hv r hn hd⟩
theorem je_op {op:Operator}{r:R2}(ho:OpR X (binaryOp op) r)(ha:JE X a ta)(hb:JE X b tb):JE X (.BinOp a op b pos) (tOp r ta tb):=⟨pe_op ho ha.h hb.h⟩
theorem je_un {op:UnaryOp}{r:V->Hp->VK->Prop}(ho:UnR X (unaryOp op) r)(ha:JE X a ta):JE X (.UnaryOp op a pos) (tUn r ta):=⟨pe_un ho ha.h⟩
theorem je_cmp {op:CmpOp}{r:R2}(ho:OpR X (compareOp op) r)(ha:JE X a ta)(hb:JE X b tb)(hm:behindInMarks op b=false):JE X (.Compare a [op] [b] pos) (tOp r ta tb):=⟨pe_cmpR ho ha.h hb.h hm⟩
theorem jt_cmp {op:CmpOp}{r:R2}(ho:OpR X (compareOp op) r)(ha:JE X a ta)(hb:JE X b tb)(hm:behindInMarks op b=false):JT X (.Compare a [op] [b] pos) (Zo (tOp r ta tb)):=⟨pt_cmpR ho ha.h hb.h hm⟩
theorem je_one {op}{t:TE}(h:JE X a t):JE X (.BoolOp op [a] pos) t:=⟨pe_one h.h⟩
theorem je_and (ha:JE X a ta)(hb:JE X (.BoolOp .And (b::rest) pos) tb):JE X (.BoolOp .And (a::b::rest) pos) (tAndV ta tb):=⟨pe_and ha.h hb.h⟩
theorem jw_pt {t:TT}(h:JW X e t):JT X e t:=⟨h.h.pt⟩
theorem jw_and1 (ha:JT X a tA):JW X (.BoolOp .And [a] pos) tA:=⟨pw_and1 ha.h⟩
theorem jw_or1 (ha:JT X a tA):JW X (.BoolOp .Or [a] pos) tA:=⟨pw_or1 ha.h⟩
theorem jw_and (ha:JT X a tA)(hb:JW X (.BoolOp .And (b::rest) pos) tB'):JW X (.BoolOp .And (a::b::rest) pos) (tAnd tA tB'):=⟨pw_and ha.h hb.h⟩
theorem jw_or (ha:JT X a tA)(hb:JW X (.BoolOp .Or (b::rest) pos) tB'):JW X (.BoolOp .Or (a::b::rest) pos) (tOr tA tB'):=⟨pw_or ha.h hb.h⟩
theorem jt_not (ha:JT X a tA):JT X (.UnaryOp .Not a pos) (tNot tA):=⟨pt_not ha.h⟩
def zF:Expr->Bool
 |.Name _ _=>true | .Call _ _ _ _=>true | .Subscript _ _ _=>true | .Attribute _ _ _=>true | .IfExp _ _ _ _=>false | _=>false
theorem qA {env:Env}(h:zF e=true):∀whole,isTrue e env whole=(do let v <- whole; standAt e.pos; holding [v] (truthy v)):=by
 cases e<;>first | (intro _; rfl) | exact absurd h Bool.false_ne_true
theorem jt_val {t:TE}(h:JE X e t)(he:zF e=true:=by rfl):JT X e (tB t):=⟨pt_val h.h (qA he)⟩
theorem je_if (hc:JT X c tA)(ha:JE X a ta)(hb:JE X b tb):JE X (.IfExp c a b pos) (tIf tA ta tb):=⟨ZY hc.h ha.h hb.h⟩
theorem ja_nil:JA X [] tNil:=⟨pa_nil⟩
theorem ja_cons (ha:JE X e te)(hr:JA X es t)(hs:iQ e=true:=by rfl):JA X (e::es) (Zs te t):=⟨qa_cons ha.h hr.h hs⟩
theorem je_tup {x1}(h:JA X es t):JE X (.Tuple es x1 pos) (tTup t):=⟨pe_tup h.h⟩
theorem je_lst (h:JA X es t):JE X (.List es pos) (tLst t):=⟨pe_lst h.h⟩
theorem JH:JE X (.Dict [] [] pos) Zq:=⟨Z0⟩
theorem JD:JE X (.Dict [] [] pos) Zp:=⟨ZZ⟩
theorem je_call {CX:CXT}{k:Nat}{f:Addr}{fd:FuncData}{ps:List Str}{sp:Sp}{dvs:List V}{ds:List Value}{E:XK}{x:Str}{p:Pos}(F:FnOk X.prog X.w X.K X.mg X.base CX k f fd ps sp)(hr:Room k X.A)(hg:Gl X x)(hm:X.mg x=some (.ref f))(hk:PySem.W.keepIn X.K (.ref f)=true)(hb:Binds X.K fd ps ds)(hd:Vals dvs ds)(hx:gW CX X E)
  (ha:JA X (e::es) t) (hdb:(x==("__debug__" : Str))=false:=by decide) (hs:iQ e=true:=by rfl) (hall:es.all iQ=true:=by rfl):JE X (.Call (.Name x p) (e::es) [] pos) (Zu sp dvs E t):=⟨qe_call F hr hg hm hk hb hd hx ha.h hdb hs hall⟩
theorem JJ {id:String}{r:List V->Hp->VK->Prop}{x:Str}{p:Pos}(hc:CallR X (.builtin id) r)(hg:Gl X x)(hm:X.mg x=none)(hv:bootBuiltins x=some (.builtin id))(ha:JA X (e::es) t)(hn:x ≠ "__name__":=by decide)(hdb:(x==("__debug__" : Str))=false:=by decide)
  (hs:iQ e=true:=by rfl) (hall:es.all iQ=true:=by rfl):JE X (.Call (.Name x p) (e::es) [] pos) (tCB r t):=⟨ZH hc hg hm hv ha.h hn hdb hs hall⟩
theorem XH {T:String}{r:List V->Hp->VK->Prop}{x:Str}{p:Pos}(hc:CallR X (.type T) r)(hg:Gl X x)(hm:X.mg x=none)(hv:bootBuiltins x=some (.type T))(ha:JA X (e::es) t)(hn:x ≠ "__name__":=by decide)(hdb:(x==("__debug__" : Str))=false:=by decide)
  (hs:iQ e=true:=by rfl) (hall:es.all iQ=true:=by rfl):JE X (.Call (.Name x p) (e::es) [] pos) (tCB r t):=⟨Xh hc hg hm hv ha.h hn hdb hs hall⟩
theorem je_ix {r:R2}(hr:IxR X r)(ha:JE X a ta)(hb:JE X b tb)(hs:kL b):JE X (.Subscript a b pos) (tOp r ta tb):=⟨pe_ix hr ha.h hb.h hs⟩
theorem jo_none:JO X none Ql:=⟨po_none⟩
theorem jo_some (h:JE X e te):JO X (some e) (tPart te):=⟨po_some h.h⟩
theorem qO {lo hi:Option Expr}{tl th:TO}{p2:Pos}{r:V->Option Int->Option Int->Hp->VK->Prop}(hr:SlR X r)(he:JE X e te)(hl:JO X lo tl)(hu:JO X hi th):JE X (.Subscript e (.Slice lo hi none p2) pos) (tSl r te tl th):=⟨ZX hr he.h hl.h hu.h⟩
theorem jf_nil:JF X [] tYes:=⟨ZT⟩
theorem jf_one {t:TT}(h:JT X c t):JF X [c] t:=⟨ZS h.h⟩
theorem je_comp {elt iter:Expr}{x:Str}{px:Pos}{ifs:List Expr}{scope:Scope}{cl:List (Str×Addr)}{wi:TI}{tc:TT}
  (hc:X.calm=true) (hN:(x::X.N).Nodup) (K:yU X x scope cl) (hi:JI X (.Name x px) iter wi)
  (ht:∀fp C s₂ H₂,JF (gJ X x scope cl fp C s₂ H₂) ifs tc) (he:∀fp C s₂ H₂,JE (gJ X x scope cl fp C s₂ H₂) elt te)
  (hs:∀v,foldedSetIterable iter X.env v=pure v:=by intro _; rfl):JE X (.ListComp elt [⟨.Name x px,iter,ifs,0⟩] scope pos) (bS wi tc te) :=
 ⟨pe_comp hc hN K hi.h (fun fp C s₂ H₂=>(ht fp C s₂ H₂).h) (fun fp C s₂ H₂=>(he fp C s₂ H₂).h) hs⟩
variable {tg:Expr}
theorem QC (h:JE X e te):JI X tg e (iList X.K te):=⟨pi_list h.h⟩
theorem Jz (h:JE X e te):JI X tg e (iTup X.K te):=⟨pi_tup h.h⟩
theorem mN {p:Pos}(hg:Gl X "range")(hm:X.mg "range" = none)(ha:JA X [a] t)(hs:iQ a=true:=by rfl):JI X tg (.Call (.Name "range" p) [a] [] pos) (JZ t):=⟨Xl hg hm ha.h (vJ hs)⟩
theorem jg_name {i:Nat}{x:Str}(hN:X.N.Nodup)(hi:X.N[i]?=some x)(hx:Loc X.env.scope x)(hf:X.fn x=true\/X.env.scope.names.lookup x=some .local:=by first | exact .inl rfl | exact .inr rfl | assumption):JG X (.Name x pos) (mY i):=⟨xM hN hi hx hf⟩
theorem jgs_nil:JGs X [] gNil:=⟨Qu⟩
theorem JC {t:TG}{u:TGs}(h1:JG X e t)(h2:JGs X es u)
  (hs:(assignEach (e::es) X.env).map (·.2)=assign e X.env::(assignEach es X.env).map (·.2):=by rfl):JGs X (e::es) (bP t u):=⟨sL h1.h h2.h hs⟩
theorem jg_tup {k:Nat}{t:TGs}{n:Nat}(hc:X.calm=true)(h:JGs X es t)
  (hn:(assignEach es X.env).length=n:=by rfl) (hst:(assignEach es X.env).findIdx? (·.1)=none:=by rfl):JG X (.Tuple es k pos) (gTup X.K n t):=⟨ZV hc h.h hn hst⟩
theorem jg_sub {t:TSet}{to ti:TE}(ho:JE X o to)(hi:JE X i ti)(hs:PSet X t)
  (ha:∀v,assign (.Subscript o i pos) X.env v=(do
   let ov <- holding [v] (eval o X.env)
   let iv <- holding [v,ov] (eval i X.env)
   standAt pos
   holding [v,ov,iv] (setItem ov iv v)
   release [v,ov,iv] []):=by intro _; rfl):JG X (.Subscript o i pos) (gSub to ti t):=⟨pg_sub ho.h hi.h hs ha⟩
end
section
variable {X:Cx}{st:Stmt}{sts:List Stmt}{t u:TS}{e c:Expr}{te:TE}{tc:TT}{pos:Pos}
theorem jb_nil:JB X [] tNext:=⟨pss_nil⟩
theorem jb_cons (h1:JS X st t)(h2:JB X sts u):JB X (st::sts) (tSeq t u):=⟨ZP h1.h h2.h⟩
theorem jb_one (h1:JS X st t):JB X [st] t:=⟨pss_one h1.h⟩
theorem js_expr (he:JE X e te)(hs:swapsWith e none pos.line X.env=pure false:=by rfl):JS X (.Expr e pos) (tDrop te):=⟨ps_expr he.h hs⟩
theorem Jy (he:JE X e te):JS X (.Return (some e) pos) (tRet te):=⟨ps_ret he.h⟩
theorem js_if {a b:List Stmt}(hc:JT X c tc)(ha:JB X a t)(hb:JB X b u):JS X (.If c a b pos) (tIfS tc t u):=⟨ps_if hc.h ha.h hb.h⟩
theorem js_set {i:Nat}{x:Str}{pos':Pos}(hN:X.N.Nodup)(hi:X.N[i]?=some x)(hx:Loc X.env.scope x)(he:JE X e te)(hs:swapsWith e (some (.Name x pos')) pos.line X.env=pure false:=by rfl)(hf:X.fn x=true\/X.env.scope.names.lookup x=some .local:=by first | exact .inl rfl | exact .inr rfl | assumption):
  JS X (.Assign [.Name x pos'] e pos) (Zv te (mY i)):=⟨ps_set hN hi hx he.h hs hf⟩
theorem js_asg {tg:Expr}{g:TG}(he:JE X e te)(hg:JG X tg g)(hs:swapsWithSole [tg] e pos.line X.env=pure false:=by rfl)(hw:swappedStores [tg] e X.env=pure none:=by rfl)
  (h1:(assignEach [tg] X.env).map (·.2)=[assign tg X.env]:=by rfl):JS X (.Assign [tg] e pos) (Zv te g):=⟨ps_asg he.h hg.h hs hw h1⟩
theorem aA {tg iter:Expr}{body:List Stmt}{wi:TI}{g:TG}{tb:TS}(hp:PassesOwn (model X.prog X.w) X.A X.env X.xe)(hc:X.calm=true)(hi:JI X tg iter wi)(hg:JG X tg g)(hb:JB X body tb)
  (hs:∀x,foldedSetIterable iter X.env x=pure x:=by intro _; rfl):JS X (.For tg iter body [] pos) (tFor wi g tb):=⟨ps_for hp hc hi.h hg.h hb.h hs⟩
end
section
variable {P:Program}{w:World}{K:PySem.W.Frag}{mg:Str->Option Value}{base:Heap}
theorem Fun.okJ {x qual:Str}{st:Stmt}{f:Addr}{fd:FuncData}{N ps:List Str}{k:Nat}{sp:Sp}(F:Fun K x qual st f fd)(S:FnScope N ps (uX st))(len:∀vs H Q E,sp vs H Q E->vs.length=ps.length)
  (hbody:∀(cdv:Value) (A:Around) (outer:List Env) (s:Shared) (H:Hp) (vs:List V) (Q:VK) (E:XK),Room k (A.deeper (envOfC qual (uX st) s.heap.objs.size f cdv))->sp vs H Q E ->
   ∃t,JB (wR CX0 P w K mg base N qual (uX st) f cdv A outer s H E).nox (vK st) t/\t { nx:=fun _ H'=>Q .non H',rt:=Q } (start N vs) H):FnOk P w K mg base CX0 (k+1) f fd ps sp :=
 F.ok S len fun cdv A outer s H vs Q E hr h=>let ⟨t,ht,q⟩:=hbody cdv A outer s H vs Q E hr h; ⟨t,ht.h,q⟩
end
theorem gB {env:Env}:∀(names:List (Str×NameKind)) (acc:List (Str×Addr)),(∀y∈names,y.2=.free->∃c,env.cells.lookup y.1=some c)->(∀y c,acc.lookup y=some c->env.cells.lookup y=some c) ->
  ∃cl,(forIn names acc fun x r=>(do
    if x.2==NameKind.free then do
     let c <- cellOf env x.1
     pure (ForInStep.yield ((x.1,c)::r))
    else pure (ForInStep.yield r):Sem (ForInStep (List (Str×Addr)))))=pure cl/\(∀y c,cl.lookup y=some c->env.cells.lookup y=some c)/\(∀y∈names,y.2=.free->∃c,cl.lookup y.1=some c)/\∀y c,acc.lookup y=some c->∃c',cl.lookup y=some c'
 |[],acc,_,ha=>⟨acc,rfl,ha,fun y hy=>absurd hy (by simp),fun y c h=>⟨c,h⟩⟩
 | (n,k)::r,acc,hf,ha=>by
  cases hk:(k==NameKind.free) with
  |false =>
   obtain⟨cl,e,h1,h2,h3⟩:=gB r acc (fun y hy=>hf y (List.mem_cons_of_mem _ hy)) ha;refine⟨cl,?_,h1,fun y hy hy2=>?_,h3⟩
   .rw [List.forIn_cons]
    simp only[hk,Bool.false_eq_true,if_false]
    exact e
   .rcases List.mem_cons.mp hy with rfl | hy
    .have:k=.free:=hy2
     rw[this] at hk;exact absurd hk (by decide)
    .exact h2 y hy hy2
  |true =>
   have ek:k=.free:=by simpa using hk
   obtain⟨c,hc⟩:=hf (n,k) List.mem_cons_self ek;have hc:env.cells.lookup n=some c:=hc
   have ha':∀y c',((n,c)::acc).lookup y=some c'->env.cells.lookup y=some c':=fun y c' h=>by
    rw[List.lookup_cons] at h
    cases hy:y==n with
    |true =>
     rw[hy] at h;have:y=n:=by simpa using hy
     subst this;rw[hc]; exact h
    |false =>
     rw[hy] at h;exact ha y c' h
   obtain⟨cl,e,h1,h2,h3⟩:=gB r ((n,c)::acc) (fun y hy=>hf y (List.mem_cons_of_mem _ hy)) ha';have hco:cellOf env n=pure c:=by unfold cellOf; rw[hc]
   refine⟨cl,?_,h1,fun y hy hy2=>?_,fun y c' h=>?_⟩
   .rw [List.forIn_cons]
    simp only[hk,if_true,hco]
    exact e
   .rcases List.mem_cons.mp hy with rfl | hy
    .exact h3 n c (by simp[List.lookup_cons])
    .exact h2 y hy hy2
   .cases hy:y==n with
    |true=>exact h3 y c (by simp[List.lookup_cons,hy])
    |false=>exact h3 y c' (by simp[List.lookup_cons,hy,h])
def rP (xs:List Str)(scope:Scope)(N:List Str)(sc:Scope):Bool :=
 scope.names.all (fun y=>decide (y.2≠.cell)&&(decide (y.2≠.free) || decide (sc.names.lookup y.1=some .cell))&&(decide (y.2≠.local) || (decide (scope.names.lookup y.1=some .local)&&decide (y.1∉N))))&&decide (scope.kind=.function)&&xs.all (fun x=>decide (scope.names.lookup x=some .local))
theorem lP {X:Cx}{xs:List Str}{scope sc:Scope}{N:List Str}{L:Nat}(hN:X.N=N)(hsc:X.env.scope=sc)(hce:X.env.cells=cellsFrom L sc.names [])(h:rP xs scope N sc=true):∃cl,lV X xs scope cl:=by
 subst hN hsc;unfold rP at h;rw[Bool.and_eq_true,Bool.and_eq_true,List.all_eq_true] at h;obtain⟨⟨h1,h2⟩,h3⟩:=h
 have get:∀y∈scope.names,y.2≠.cell/\(y.2=.free->X.env.scope.names.lookup y.1=some .cell)/\(y.2=.local->scope.names.lookup y.1=some .local/\y.1∉X.N):=fun y hy=>by
  have q:=h1 y hy;rw[Bool.and_eq_true,Bool.and_eq_true,Bool.or_eq_true,Bool.or_eq_true,Bool.and_eq_true] at q;obtain⟨⟨q1,q2⟩,q3⟩:=q;refine⟨of_decide_eq_true q1,fun e=>?_,fun e=>?_⟩
  .rcases q2 with q2 | q2
   .exact absurd e (of_decide_eq_true q2)
   .exact of_decide_eq_true q2
  .rcases q3 with q3 | ⟨q3,q4⟩
   .exact absurd e (of_decide_eq_true q3)
   .exact ⟨of_decide_eq_true q3,of_decide_eq_true q4⟩
 obtain⟨cl,e,k1,k2,_⟩:=gB (env:=X.env) scope.names [] (fun y hy hf=>by rw[hce]; exact sP ((get y hy).2.1 hf)) (fun y c z=>by simp at z);refine⟨cl,⟨?_,fun y hy=>(get y hy).1,of_decide_eq_true h2,fun y hy q=>((get y hy).2.2 q).1,fun x hx=>of_decide_eq_true (List.all_eq_true.1 h3 x hx),fun y hy q=>((get y hy).2.2 q).2,fun y hy q=>⟨?_,.inl ((get y hy).2.1 q),k2 y hy q⟩,k1⟩⟩
 .unfold closureFor
  have e':=congrArg (fun m:Sem (List (Str×Addr))=>m >>= fun cs=>(pure cs:Sem (List (Str×Addr)))) e
  simp only[pure_bind] at e'
  exact e'
 .show X.env.scope.names.lookup y.1≠some .local
  rw[(get y hy).2.1 q]
  decide
theorem uP {X:Cx}{elt iter:Expr}{x:Str}{px pos:Pos}{ifs:List Expr}{scope:Scope}{wi:TI}{tc:TT}{te:TE}
  (hc:X.calm=true) (hN:(x::X.N).Nodup) (K:∃cl,yU X x scope cl) (hi:JI X (.Name x px) iter wi)
  (ht:∀cl fp C s₂ H₂,JF (gJ X x scope cl fp C s₂ H₂) ifs tc) (he:∀cl fp C s₂ H₂,JE (gJ X x scope cl fp C s₂ H₂) elt te)
  (hs:∀v,foldedSetIterable iter X.env v=pure v:=by intro _; rfl):JE X (.ListComp elt [⟨.Name x px,iter,ifs,0⟩] scope pos) (bS wi tc te) :=
 let ⟨cl,K⟩:=K
 je_comp hc hN K hi (ht cl) (he cl) hs
section
variable {X:Cx}{o e:Expr}{es:List Expr}{to:TE}{t:TA}{name:Str}{apos cpos:Pos}{T id:String}{r:V->List V->Hp->VK->Prop}
theorem JK (pa:PlainAttrs T)(slot:Slot T name id)(hty:typeOf (.builtin id)=pure (.type "method_descriptor"))(hm:MtR X id r)(ho:JE X o to)
  (hbase:attributeBase o name X.env (eval o X.env)=eval o X.env:=by rfl) (hline:(apos.endLine==cpos.line)=true:=by rfl):JE X (.Call (.Attribute o name apos) [] [] cpos) (tBM0 X.K T r to):=⟨pe_bm0 pa slot hty hm ho.h hbase hline⟩
theorem je_bm (pa:PlainAttrs T)(slot:Slot T name id)(hty:typeOf (.builtin id)=pure (.type "method_descriptor"))(hm:MtR X id r)(ho:JE X o to)(ha:JA X (e::es) t)
  (hbase:attributeBase o name X.env (eval o X.env)=eval o X.env:=by rfl)
  (hfew:((backTo cpos (starEach (e::es) X.env)).all (fun x=>!x.1)&&(backToKw cpos (keywordEach [] X.env)).all (fun x=>x.1.isSome)
   && decide ((e::es).length+([]:List Keyword).length+(if ([]:List Keyword).isEmpty then 0 else 1) < 30))=true:=by rfl)
  (hline:(apos.endLine==cpos.line)=true:=by rfl) (hs:iQ e=true:=by rfl) (hall:es.all iQ=true:=by rfl) :
  JE X (.Call (.Attribute o name apos) (e::es) [] cpos) (tBM X.K T r to t):=⟨pe_bm pa slot hty hm ho.h ha.h hbase hfew hline (vJ hs) (dG hall)⟩
end
section
variable {X:Cx}{pos:Pos}
theorem QD {o i:Expr}{td ty:TE}(hu:X.A.units+1 < cLine)(ho:JE X o td)(hi:JE X i ty)(hs:Qc i):JE X (.Subscript o i pos) (tDGet td ty):=⟨pe_dget hu ho.h hi.h hs⟩
theorem m2_of {o e f:Expr}{m:Str}{apos cpos:Pos}(hb:attributeBase o m X.env (eval o X.env)=eval o X.env)(hl:(apos.endLine==cpos.line)=true)(he:iQ e=true)(hf:iQ f=true):M2 X o m apos e f cpos:=by
 have e1:starEach [e,f] X.env=[(false,eval e X.env),(false,eval f X.env)]:=by
  rw[vJ he,vJ hf]
  rfl
 refine⟨hb,?_,hl,?_⟩
 .rw [e1]; rfl
 .rw [e1]; rfl
theorem zO {o e f:Expr}{td ty tx:TE}{apos cpos:Pos}(hu:X.A.units+1 < cLine)(ho:JE X o td)(he:JE X e ty)(hf:JE X f tx)(hb:attributeBase o "get" X.env (eval o X.env)=eval o X.env:=by rfl)(hl:(apos.endLine==cpos.line)=true:=by rfl)
  (h1:iQ e=true:=by rfl) (h2:iQ f=true:=by rfl):JE X (.Call (.Attribute o "get" apos) [e,f] [] cpos) (Zr td ty tx):=⟨Z1 hu ho.h he.h hf.h (m2_of hb hl h1 h2)⟩
end
section
variable {X:Cx}{o i value:Expr}{td ty tv:TE}{pos pos':Pos}
theorem QB (hu:X.A.units+1 < cLine)(ho:JE X o td)(hi:JE X i ty)(hv:JE X value tv)(hs:swapsWith value (some (.Subscript o i pos')) pos.line X.env=pure false:=by rfl):
  JS X (.Assign [.Subscript o i pos'] value pos) (sDPut td ty tv):=⟨ps_dput hu ho.h hi.h hv.h hs⟩
end
section
variable {X:Cx}
def rCatTA (K:PySem.W.Frag):R2:=fun x y H Q=>∃a b xs ys,x=.ref a/\y=.ref b/\SqT K H a xs/\SqT K H b ys/\xs.length+ys.length<=sizeLine /\
 (xs=[]->Q (.ref b) H)/\(xs≠[]->ys=[]->Q (.ref a) H)/\(xs≠[]->ys≠[]->∀p,H p=none->Q (.ref p) (upd H p (.tup (xs++ys))))
theorem Z6:OpR X (binaryOp .Add) (rCatTA X.K):=by
 intro pins s σ H x y v u Q I rx ry h;obtain⟨a,b,xs,ys,rfl,rfl,ha,hb,hz,q0,q1,q2⟩:=h
 by_cases hx:xs=[]
 .cases rx
  cases ry;obtain⟨its,r1,p1,_⟩:=I.tuple ha;obtain⟨its2,r2,p2,_⟩:=I.tuple hb;have e:=r1.nil_iff.mpr hx;subst e;obtain⟨⟨cls,dd,data,sl⟩,ho,hc,n,hd⟩:=id p1;obtain⟨⟨cls2,dd2,data2,sl2⟩,ho2,hc2,n2,hd2⟩:=id p2
  simp only at hc hd hc2 hd2
  subst hc hd hc2 hd2
  exact concat_meets ⟨_,ho,rfl⟩ ⟨_,ho2,rfl⟩ noFill_tuple_add seq_tuple_add PySem.F.slot_tuple_add PySem.F.entry_tuple_add (PySem.F.args_tuple_add_2 _ _)
   (tuple_addW0 a b _ its2.toArray n n2 dd dd2 sl sl2 rfl) ⟨ho,ho2,⟨.ref b,H,I,rfl,q0 hx⟩⟩
 .exact op_catT pins s σ H (.ref a) (.ref b) v u Q I rx ry ⟨a,b,xs,ys,rfl,rfl,ha,hb,hx,hz,q1 hx,q2 hx⟩
end
abbrev Cx.at_ (X:Cx)(k:Nat):Cx:={ X with N:=X.N.set k "?" }
def NoAt (k:Nat)(σ:St):Prop:=∀v,σ[k]?≠some (some v)
section
variable {X:Cx}{pins:List (Addr×Obj)}{σ:St}{H:Hp}{s:Shared}{k:Nat}{e:Expr}{te:TE}{st:Stmt}{t:TS}
theorem ok_at (ok:X.Ok):(X.at_ k).Ok:=by
 obtain⟨h1,h2,h3,h4,h5,h6,h7,h8,h9,h10,h11,h12,h13,h14,h15,h16,h17,h18⟩:=ok;exact⟨h1,h2,h3,h4,h5,h6,h7,h8,h9,h10,h11,h12,h13,h14,h15,h16,h17,h18⟩
theorem Jb (ok:(X.at_ k).Ok):X.Ok:=by
 obtain⟨h1,h2,h3,h4,h5,h6,h7,h8,h9,h10,h11,h12,h13,h14,h15,h16,h17,h18⟩:=ok;exact⟨h1,h2,h3,h4,h5,h6,h7,h8,h9,h10,h11,h12,h13,h14,h15,h16,h17,h18⟩
theorem inv_at (n:NoAt k σ)(I:Inv X pins σ H s):Inv (X.at_ k) pins σ H s:=by
 obtain⟨m,hm,hl⟩:=I.loc;refine⟨ok_at I.ok,I.os,I.bare,I.base,⟨m,hm,fun i x v e1 e2 e3=>?_⟩,I.cell,I.free,I.freeC,I.pin,I.hok,?_⟩
 .by_cases hi:k=i
  .subst hi; exact absurd e2 (n v)
  .have e1:(X.N.set k "?")[i]?=some x:=e1
   rw[List.getElem?_set_ne hi] at e1;exact hl i x v e1 e2 e3
 .show σ.length=(X.N.set k "?").length
  rw[List.length_set];exact I.len
theorem XL (n:NoAt k σ)(I:Inv (X.at_ k) pins σ H s):Inv X pins σ H s:=by
 obtain⟨m,hm,hl⟩:=I.loc;refine⟨Jb I.ok,I.os,I.bare,I.base,⟨m,hm,fun i x v e1 e2 e3=>?_⟩,I.cell,I.free,I.freeC,I.pin,I.hok,?_⟩
 .by_cases hi:k=i
  .subst hi; exact absurd e2 (n v)
  .refine hl i x v ?_ e2 e3
   show(X.N.set k "?")[i]?=some x;rw[List.getElem?_set_ne hi];exact e1
 .have:=I.len
  rw[this];show(X.N.set k "?").length=_;rw[List.length_set]
theorem je_drop (k:Nat)(he:JE (X.at_ k) e te):JE X e (fun σ H Q=>NoAt k σ/\te σ H Q) :=
 ⟨fun pins s σ H Q I h=>thn (he.h pins s σ H Q (inv_at h.1 I) h.2) fun v s1 ⟨x,H1,I1,r1,q1⟩=>⟨x,H1,XL h.1 I1,r1,q1⟩⟩
theorem js_fg (k:Nat)(h:JS X st t):JS X st (fun D σ H=>t D (σ.set k none) H) :=
 ⟨fun pins s σ H D I q=>h.h pins s (σ.set k none) H D (I.weak (by rw[List.length_set]) fun i v e=>by
  by_cases hi:k=i
  .subst hi
   rw[List.getElem?_set_self'] at e
   cases hk:σ[k]? with
   |none=>rw[hk] at e; cases e
   |some x=>rw[hk] at e; cases e
  .rw [List.getElem?_set_ne hi] at e
   exact e) q⟩
end
section
variable {X:Cx}
theorem js_setC {i:Nat}{y x:Str}{py px pos spos:Pos}{elt iter:Expr}{ifs:List Expr}{scope:Scope}{cl:List (Str×Addr)}{wi:TI}{tc:TT}{te:TE}
  (hNd:X.N.Nodup) (hi:X.N[i]?=some y) (hy:Loc X.env.scope y) (hc:X.calm=true) (hN:(x::X.N).Nodup) (K:yU X x scope cl) (hI:JI X (.Name x px) iter wi)
  (ht:∀fp C s₂ H₂,JF (gJ X x scope cl fp C s₂ H₂) ifs tc) (he:∀fp C s₂ H₂,JE (gJ X x scope cl fp C s₂ H₂) elt te)
  (hs:∀v,foldedSetIterable iter X.env v=pure v:=by intro _; rfl)
  (hsw:swapsWith (.ListComp elt [⟨.Name x px,iter,ifs,0⟩] scope pos) (some (.Name y py)) spos.line X.env=pure true:=by rfl)
  (hf:X.fn y=true\/X.env.scope.names.lookup y=some .local:=by first | exact .inl rfl | exact .inr rfl | assumption) :
  JS X (.Assign [.Name y py] (.ListComp elt [⟨.Name x px,iter,ifs,0⟩] scope pos) spos) (Zv (bS wi tc te) (mY i)):=by
 refine⟨fun pins s σ H D I h=>?_⟩;rw[exec_Assign_Name_used _ _ _ _ hsw];refine wpAny_bind (wpAny_standAt (wpAny_bind (wpAny_bind (wpAny_comprehension_free (use:=some (assign (.Name y py) X.env)) rfl hs K.clos K.kind K.names (thn (hI.h pins s σ H _ I h) fun xv s₁ h₁=>thn h₁ fun itv s₂ h₂=>?_)))));obtain⟨it,fp,tn,J,H₂,e,I₂,T,st₂,f₂,R⟩:=h₂;subst e;refine iG (g:=mY 0) (Tk:=fun x _ vs=>vs=[x]) (Q:=fun x H1=>mY i x σ H1 D.nx) hc K (fun _ _ _ _=>xM (i:=0) (x:=x) hN rfl (.inl (lookup_relabel_local (K.hx x (.head _)))) (.inr (lookup_relabel_local (K.hx x (.head _))))) (fun fp C s₂ H₂=>(ht fp C s₂ H₂).h) (fun fp C s₂ H₂=>(he fp C s₂ H₂).h) (by rintro ws vs y H Q l rfl _ q; match ws,l with | [_],_=>exact q) I₂ T st₂ f₂ (fun D hD=>let ⟨W,w0,tu⟩:=R D hD; ⟨W,w0,fun i m ys H w=>(tu i m ys H w).imp id fun⟨g,st⟩=>⟨g,fun x H' y=>⟨[x],rfl,rfl,st x H' y⟩⟩⟩) ?_
 intro D' C H' s4 m hn hCL hC0 hCc hCsz I4 q;refine wpAny_assign_Name (qN I4 hNd hi hy (v:=.ref D') rfl (fun s5 I5 hsb=>?_) hf);obtain⟨b,hsb,hb⟩:=hsb
 have hbC:C≠b:=by
  rcases hb with rfl | hb
  .exact hCL
  .exact fun z=>hCc _ _ hb z.symm
 refine⟨m,hn.at' fun o e=>(hsb.2 C hbC).trans e,fun h' hsb'=>wpAny_pure (wpAny_pure ?_)⟩;refine⟨_,H',?_,q⟩;refine I5.turned (it:=C) (t':=s5.toks) (fun b o hb e=>(hsb'.2 b hb).trans e) hC0 hCL (.inr (Nat.le_trans I₂.sz hCsz)) hCc fun p hp z=>?_;exact absurd (Nat.lt_of_lt_of_le (Heap.lt_size (I₂.pin p hp).1) (by rw[z]; exact hCsz)) (Nat.lt_irrefl _)
end
theorem sameNew {H:Hp}{p:Addr}(h:H p=none)(o:HO):Same H (upd H p o):=fun b u q=>by rw[lQ (iZ q h)]; exact q
section
variable {X:Cx}
def rCatU:R2:=fun x y H Q=>∃a b xs ys,x=.ref a/\y=.ref b/\H a=some (.tup xs)/\H b=some (.tup ys)/\xs.length+ys.length<=sizeLine/\∀r H',Same H H'->H' r=some (.tup (xs++ys))->(H r=none\/r=a\/r=b)->Q (.ref r) H'
theorem op_catU:OpR X (binaryOp .Add) rCatU:=by
 intro pins s σ H x y v u Q I rx ry h;obtain⟨a,b,xs,ys,e1,e2,ha,hb,hz,q⟩:=h;refine Z6 pins s σ H x y v u Q I rx ry ⟨a,b,xs,ys,e1,e2,SqT.of ha,SqT.of hb,hz,fun h=>q b H (Same.refl H) (by rw[h]; exact hb) (.inr (.inr rfl)),fun _ h=>q a H (Same.refl H) (by rw[h,List.append_nil]; exact ha) (.inr (.inl rfl)),fun _ _ p hp=>q p _ (sameNew hp _) fQ (.inl hp)⟩
end
end L2
namespace PySem
open PySem.Spec PyProof.Rows PyProof.Rows.F
theorem lN:entryFor table "dict.update.loop" = some Builtin.«dict.update.loop»:=entryFor_of_tree (by kernel_rfl)
theorem gU:plainId "dict.update.loop" = true:=by decide +kernel
section
variable {prog:Program}{w:World}{κ:Type}[DecidableEq κ]{knd:KeyKind prog w κ}{A:Around}{d it t:Addr}{items:Array Value}{ps:List (κ×Value)}{res:Value}
theorem qW {h h':Heap}{p:Addr}{xs:Array Value}(x:h.IsTuple p xs)(e:∀o,h.get? p=some o->h'.get? p=some o):h'.IsTuple p xs:=let ⟨o,q,r⟩:=x; ⟨o,e o q,r⟩
theorem iA {h h':Heap}{p:Addr}{i:Nat}(x:h.IsTupleIter it p i)(e:∀o,h.get? it=some o->h'.get? it=some o):h'.IsTupleIter it p i:=let ⟨o,q,r⟩:=x; ⟨o,e o q,r⟩
theorem fF {h h':Heap}{kvs:List (κ×Value)}(x:h.DictOf knd d kvs)(e:∀o,h.get? d=some o->h'.get? d=some o):h'.DictOf knd d kvs:=let ⟨o,es,ep,q,r⟩:=x; ⟨o,es,ep,e o q,r⟩
theorem jT {R:Result->Shared->Prop}(calm:A.in1.handled=none)(ndi:d≠it)(ndt:d≠t)(nti:t≠it)(stop:items[ps.length]?=none):∀(r i:Nat) (s:Shared) (acc:List (κ×Value)),i+r=ps.length ->
   s.heap.IsTupleIter it t i->s.heap.IsTuple t items->s.heap.DictOf knd d acc->acc.length+r<=sizeLine ->
   (∀j (h:j < ps.length),∃p kv,items[j]?=some (.ref p)/\p≠d/\p≠it/\s.heap.IsTuple p #[kv,ps[j].2]/\knd.is ps[j].1 kv=true) ->
   (∀(h:Heap) (tk:Nat),(∀b o,b≠d->b≠it->s.heap.get? b=some o->h.get? b=some o)->h.DictOf knd d (merged acc (ps.drop i))->R (.ok (.ret res)) { s with heap:=h,toks:=tk }) ->
   codeAny (model prog w) A (.builtin "dict.update.loop" ⟨[.ref d,.ref it,rawInt i,res],[]⟩) R s:=by
 intro r
 induction r with
 |zero =>
  intro i s acc e iti tt dd hz key fin;have ei:i=ps.length:=by omega
  subst ei;rw[List.drop_length] at fin;refine codeAny_builtin lN ?_;rw[Around.under_plainId gU _];exact wpAny_bind (wpAny_pyNext_tuple_end calm iti tt stop fun h x=>wpAny_bind (wpAny_pure (wpAny_pure (fin h s.toks (fun b o _ nb q=>x b o nb q) (fF dd fun o q=>x d o ndi q)))))
 |succ r ih =>
  intro i s acc e iti tt dd hz key fin;have hi:i < ps.length:=by omega
  obtain⟨p,kv,hp,npd,npi,tp,kk⟩:=key i hi;refine codeAny_builtin lN ?_;rw[Around.under_plainId gU _];refine wpAny_bind (wpAny_pyNext_tuple_item iti tt hp fun h1 it1 b1=>?_);have dd1:=fF dd fun o q=>b1.extBut d o ndi q;have tp1:=qW tp fun o q=>b1.extBut p o npi q;refine wpAny_bind (m:=holding [.ref p] _) (wpAny_holding ?_);refine wpAny_bind (wpAny_tryCatch ?_);unfold Builtin.Dict.pairItems;refine wpAny_bind (wpAny_typeOf tp1.typeIs ?_)
  rw[if_pos (by decide)];obtain⟨op,e1,e2,n,e3⟩:=id tp1;refine wpAny_bind (wpAny_seqItems e1 e3 (wpAny_pure ?_));show wpAny _ _ (holding [kv,ps[i].2] (dictSet d kv ps[i].2)) _ _ _;refine wpAny_holding (wpAny_dictSet_pairs kk dd1 (fun h2 dd2 b2=>?_) (by omega))
  have em:merged acc (ps.drop i)=merged (stored acc ps[i].1 ps[i].2) (ps.drop (i+1)):=by
   rw[List.drop_eq_getElem_cons hi]; rfl
  refine wpAny_pure ⟨plainId_quiet gU _,?_⟩;have ek:rawInt ((i:Int)+1)=rawInt ((i+1:Nat):Int):=by rw[Int.natCast_add]; rfl
  rw[ek];refine ih (i+1) _ (stored acc ps[i].1 ps[i].2) (by omega) (iA it1 fun o q=>(b2.2 it (Ne.symm ndi)).trans q) (qW (qW tt fun o q=>b1.extBut t o nti q) fun o q=>(b2.2 t (Ne.symm ndt)).trans q) dd2 ?_ (fun j hj=>?_) fun h tk keep dd3=>?_
  .have:=stored_length_le acc ps[i].1 ps[i].2
   omega
  .obtain ⟨p',kv',a1,a2,a3,a4,a5⟩:=key j hj
   exact⟨p',kv',a1,a2,a3,qW (qW a4 fun o q=>b1.extBut p' o a3 q) fun o q=>(b2.2 p' a2).trans q,a5⟩
  .rw [<- em] at dd3
   exact fin h tk (fun b o n1 n2 q=>keep b o n1 n2 ((b2.2 b n1).trans (b1.extBut b o n2 q))) dd3
end
theorem kH:typeLookup (.type "tuple") "keys" = pure none:=by rw[typeLookup_type,builtinLookup_eq_fast]; kernel_rfl
theorem yH {prog:Program}{w:World}{A:Around}{E:Value->Shared->Prop}{s:Shared}{a:Addr}{o:Obj}{xs:Array Value}{k:Nat}{Q:Option Value->Shared->Prop}
  (hx:s.heap.get? a=some o) (hc:o.cls=.type "tuple") (hdat:o.data=.seq xs k) (hd:o.dict=none) (hA:A.handled=none)
  (h:∀(h':Heap) (tk:Nat),(∀b u,s.heap.get? b=some u->h'.get? b=some u)->Q none { s with heap:=h',toks:=tk }):wpAny (model prog w) A (getAttr? (.ref a) "keys") Q E s:=by
 obtain⟨c,dct,dat,sl⟩:=o
 simp only at hc hdat hd
 subst hc hdat hd;obtain⟨hp,g,d,tk,os⟩:=s;have hT:∀tk',(⟨hp,g,d,tk',os⟩:Shared).TypeIs (.ref a) "tuple":=fun _=>⟨_,hx,rfl⟩;have f1:=sub_AttributeError;have f3:=F.slot_tuple_getattribute.lookup;have f4:=F.slot_tuple_getattribute.bind (.ref a);have f5:=am_tuple_getattr_none;unfold getAttr? getAttrBy? getAttrBy
 repeat (any_goals (first | assumption | exact hT _ | ((with_reducible show wpAny _ _ (call (Value.builtin "tuple.__getattribute__") _ _) _ _ _); refine call_meets F.slot_tuple_getattribute (hT _) am_entry_tuple_getattribute (F.args_tuple_getattribute_2 _ _) (meets_getattribute_miss_tuple a xs k sl "keys" _ kH (by decide) (by decide)) ⟨hx,hA,fun h' tk' e hx'=>?_⟩) | wp_step))
 obtain⟨t',u',he⟩:=hx'.there;show wpAny _ _ (getattributeRaised _ _ _ _ _ _ _) _ _ _;unfold getattributeRaised
 repeat (any_goals (first | assumption | wp_step))
 exact h h' tk' hx'.of.keeps
section
variable {prog:Program}{w:World}{κ:Type}[DecidableEq κ]{knd:KeyKind prog w κ}{A:Around}{E:Value->Shared->Prop}{s:Shared}{d t:Addr}{items:Array Value}{ps acc:List (κ×Value)}{res:Value}
theorem vI {id:String}{A₀:Around}{R:Result->Shared->Prop}{o:Obj}{n:Nat}(calm:A.handled=none)(calm0:A₀.in1.handled=none)(ndt:d≠t)(ho:s.heap.get? t=some o)(hc:o.cls=.type "tuple")(hdat:o.data=.seq items n)(hno:o.dict=none)(dd:s.heap.DictOf knd d acc)
  (hz:acc.length+ps.length<=sizeLine) (stop:items[ps.length]?=none) (key:∀j (h:j < ps.length),∃p kv,items[j]?=some (.ref p)/\p≠d/\s.heap.IsTuple p #[kv,ps[j].2]/\knd.is ps[j].1 kv=true)
  (fin:∀(h:Heap) (tk:Nat),(∀b o,b≠d->s.heap.get? b=some o->h.get? b=some o)->h.DictOf knd d (merged acc ps)->R (.ok (.ret res)) { s with heap:=h,toks:=tk }) :
  wpAny (model prog w) A (Builtin.Dict.updateFrom id d (.ref t) [] res) (fun fin s'=>match fin with | .done f=>R (.ok f) s' | .again c'=>c'.quiet=true/\codeAny (model prog w) A₀ c' R s') E s:=by
 have tt:s.heap.IsTuple t items:=⟨o,ho,hc,n,hdat⟩;unfold Builtin.Dict.updateFrom;refine wpAny_bind (wpAny_typeOf tt.typeIs ?_);rw[if_pos (by decide)];refine wpAny_bind (yH ho hc hdat hno calm fun h1 tk1 k1=>?_);rw[if_pos (show(none:Option Value).isNone=true from rfl)];refine wpAny_bind (wpAny_rule ?_);have tt1:h1.IsTuple t items:=qW tt fun o q=>k1 t o q;refine wpAny_bind (wpAny_pyIter_tuple tt1 ?_)
 have hd1:d < h1.objs.size:=by
  obtain⟨od,es,ep,q,_⟩:=dd;exact Heap.lt_size (k1 d od q)
 have ht1:t < h1.objs.size:=Heap.lt_size (k1 t o ho);refine wpAny_pure ⟨plainId_quiet gU _,jT (knd:=knd) (ps:=ps) calm0 (Nat.ne_of_lt hd1) ndt (Nat.ne_of_lt ht1) stop ps.length 0 _ acc (Nat.zero_add _) ⟨_,Heap.get?_push_size _ rfl,rfl,rfl⟩ (tt1.push _) ?_ hz (fun j hj=>?_) fun h tk keep dd'=>?_⟩
 .exact fF dd fun o q=>Heap.get?_push_of_some _ (k1 d o q)
 .obtain ⟨p,kv,a1,a2,a3,a4⟩:=key j hj
  have hp:p < h1.objs.size:=by
   obtain⟨op,q,_⟩:=a3;exact Heap.lt_size (k1 p op q)
  exact⟨p,kv,a1,a2,Nat.ne_of_lt hp,qW a3 fun o q=>Heap.get?_push_of_some _ (k1 p o q),a4⟩
 .rw [List.drop_zero] at dd'
  exact fin h tk (fun b o nb q=>keep b o nb (Nat.ne_of_lt (Heap.lt_size (k1 b o q))) (Heap.get?_push_of_some _ (k1 b o q))) dd'
end
end PySem
namespace L2
open PySem PySem.Spec PyProof.Rows
abbrev wG (H:Hp):List Addr->List (Key×V)->Prop:=Paired fun a p=>H a=some (.tup [kV p.1,p.2])
theorem sH:∀{pa:List Addr}{its:List Value},Vals (pa.map V.ref) its->its=pa.map Value.ref
 |[],_,.nil=>rfl
 |_::_,_,.cons h r=>by
  cases (show _=Value.ref _ from h);rw[sH r]; rfl
theorem aL {P:Program}{w:World}{H:Hp}{h:Heap}(ok:HOk P w H h):∀{pa:List Addr}{ps:List (Key×V)},wG H pa ps->∃rs:List (Key×Value),KV ps rs/\pa.length=rs.length /\
  ∀j (hj:j < rs.length),∃p kv,pa[j]?=some p/\h.IsTuple p #[kv,rs[j].2]/\(zX P w).is rs[j].1 kv=true
 |_,_,.nil=>⟨[],.nil,rfl,fun j hj=>absurd hj (Nat.not_lt_zero j)⟩
 |_,_,@Paired.cons _ _ _ a p l1 l2 e r=>by
  obtain⟨rs,q1,q2,q3⟩:=aL ok r;obtain⟨_,its,rv,tp⟩:=(show ObjOk P w H h a (.tup [kV p.1,p.2]) from ok a _ e)
  cases rv with
  |@cons _ ku _ its' rk rv =>
   cases rv with
   |@cons _ vu _ its'' rvv rv =>
    cases rv;refine⟨(p.1,vu)::rs,.cons ⟨rfl,rvv⟩ q1,by rw[List.length_cons,List.length_cons,q2],fun j hj=>?_⟩
    cases j with
    |zero=>exact⟨a,ku,rfl,tp.is,bN rk⟩
    |succ j=>exact q3 j (Nat.lt_of_succ_lt_succ hj)
section
variable {X:Cx}
theorem lI (hc:X.calm=true):CallR X (.type "dict") (fun xs H Q=>∃t pa ps,xs=[.ref t]/\H t=some (.tup (List.map V.ref pa))/\wG H pa ps/\ps.length<=sizeLine/\∀d,H d=none->Q (.ref d) (upd H d (.dK (iV [] ps)))):=by
 intro pins s σ H xs us Q I r h;obtain⟨t,pa,ps,rfl,ht,hp,hz,q⟩:=h;obtain⟨u,rfl,ru⟩:=r.one;cases (show u=Value.ref t from ru);obtain⟨_,its,rv,o,h1,h2,⟨n,h3⟩,h4⟩:=(show ObjOk X.prog X.w H s.heap t (.tup _) from I.hok t _ ht);have ei:=sH rv;subst ei;obtain⟨rs,q1,q2,q3⟩:=aL I.hok hp;have hl:ps.length=rs.length:=KV.length q1;refine callType_codes (Q₁:=fun obj s₁=>obj=.ref s.heap.objs.size/\s₁={ s with heap:=s.heap.push { cls:=.type "dict",data:=.dict #[] } }) F.kt_called_dict (F.kt_typeCall_dict_1 _) F.entry_dict_init (kt_code_dict_new _ ⟨rfl,rfl⟩) ?_
 rintro obj s₁ ⟨rfl,rfl⟩;have hnew:(s.heap.push { cls:=.type "dict",data:=.dict #[] }).DictOf (zX X.prog X.w) s.heap.objs.size []:=Heap.DictOf.new s.heap;refine⟨hnew.typeIs,F.args_dict_init_2 _ _,?_⟩;unfold Builtin.«dict.__init__»;refine wpAny_bind ?_;unfold Builtin.Dict.selfAndRest;refine wpAny_bind (wpAny_notOrdered_dict hnew.typeIs ?_);show wpAny _ _ (pure (s.heap.objs.size,[Value.ref t])) _ _ _
 refine wpAny_pure ?_;show wpAny _ _ (Builtin.Dict.updateFrom "dict.__init__" s.heap.objs.size (.ref t) [] .none) _ _ _;have calm:=I.ok.hd hc;refine vI (s:={ s with heap:=s.heap.push { cls:=.type "dict",data:=.dict #[] } }) (A₀:=X.A.in1) (knd:=zX X.prog X.w) (ps:=rs) (acc:=[]) (by simp[calm]) (by simp[calm]) (Nat.ne_of_gt (Heap.lt_size h1)) (Heap.get?_push_of_some _ h1) h2 h3 h4 hnew ?_ ?_ (fun j hj=>?_) fun h' tk keep dd=>?_
 .rw [<- hl]; simpa using hz
 .rw [<- q2]; simp
 .obtain ⟨p,kv,e1,e2,e3⟩:=q3 j hj
  have hps:p < s.heap.objs.size:=by obtain⟨op,z,_⟩:=e2; exact Heap.lt_size z
  refine⟨p,kv,?_,Nat.ne_of_lt hps,e2.push _,e3⟩;rw[List.getElem?_toArray,List.getElem?_map,e1]; rfl
 .refine ⟨rfl,.ref s.heap.objs.size,_,I.laid (t':=tk) (o:=.dK (iV [] ps)) (fun b ob e=>keep b ob (Nat.ne_of_lt (Heap.lt_size e)) (Heap.get?_push_of_some _ e)) (Nat.le_refl _) ?_,rfl,q _ (I.hok.fresh (Nat.le_refl _))⟩
  refine yI ?_ (beq_false_of_ne (Nat.ne_of_gt I.big)) (KV.merge q1 .nil) dd;have:=tW ps []
  simp at this
  omega
end
end L2
namespace L2
open PySem PySem.W PyProof.Rows
def wB {α:Type}(n:Nat)(P:α->Prop):KasT α->Prop
 |.ret a=>P a
 |.ask i j k=>i < n/\j < n/\∀b,wB n P (k b)
def tG {α:Type}(lt:Nat->Nat->Bool):KasT α->α
 |.ret a=>a
 |.ask i j k=>tG lt (k (lt i j))
theorem nV {α β:Type}{n:Nat}{P:α->Prop}{R:β->Prop}{f:α->KasT β}:∀(t:KasT α),wB n P t->(∀a,P a->wB n R (f a))->wB n R (t.bind f)
 |.ret a,h,hf=>hf a h
 |.ask i j k,h,hf=>⟨h.1,h.2.1,fun b=>nV (k b) (h.2.2 b) hf⟩
theorem aT {α:Type}{n:Nat}{P:α->Prop}{lt:Nat->Nat->Bool}:∀(t:KasT α),wB n P t->P (tG lt t)
 |.ret a,h=>h
 |.ask i j k,h=>aT (k (lt i j)) (h.2.2 _)
theorem kWp {α:Type}{n:Nat}{P:α->Prop}{lt:Nat->Nat->Bool}{cmp:Nat->Nat->(Bool->Shared->Prop)->Shared->Prop}{J:Shared->Prop}(hc:∀i j C s,i < n->j < n->J s->(∀s',J s'->C (lt i j) s')->cmp i j C s):
  ∀(t:KasT α) {Q:α->Shared->Prop} {s:Shared},wB n P t->J s->(∀s',J s'->P (tG lt t)->Q (tG lt t) s')->t.kasWp cmp Q s
 |.ret a,Q,s,h,hj,hq=>hq s hj h
 |.ask i j k,Q,s,h,hj,hq=>hc i j _ s h.1 h.2.1 hj fun s' hj'=>kWp hc (k (lt i j)) (h.2.2 _) hj' hq
def Ord (n:Nat)(p:Array Nat):Prop:=p.toList.Perm (List.range n)
theorem Ord.lt {n:Nat}{p:Array Nat}(h:Ord n p)(h0:0 < n)(i:Nat):p.getD i 0 < n:=by
 by_cases hi:i < p.size
 .have e:p.getD i 0=p[i]:=by simp[Array.getD,hi]
  rw[e];have hm:p[i]∈p.toList:=by simp
  exact List.mem_range.mp (h.mem_iff.mp hm)
 .have e:p.getD i 0=0:=by simp[Array.getD,hi]
  rw[e];exact h0
theorem Ord.size {n:Nat}{p:Array Nat}(h:Ord n p):p.size=n:=by
 have:=h.length_eq;rw[List.length_range,Array.length_toList] at this;exact this
theorem Ord.rev {n:Nat}{p:Array Nat}(h:Ord n p)(i j:Nat):Ord n (kas_rev p i j):=(Array.Perm.toList (mirror_perm p i j _)).trans h
theorem Ord.bubble {n:Nat}{p:Array Nat}(h:Ord n p)(i j:Nat):Ord n (bubble p i j):=(Array.Perm.toList (bubble_perm p i j)).trans h
section
variable {n:Nat}(h0:0 < n)
include h0
theorem zS {p:Array Nat}(h:Ord n p):∀f m,wB n (fun _=>True) (kas_asc p f m)
 |0,m=>trivial
 |f+1,m=>⟨h.lt h0 _,h.lt h0 _,fun b=>by
  cases b with
  |true=>exact trivial
  |false=>exact zS h f (m+1)⟩
theorem yM:∀f (p:Array Nat) m q,Ord n p->wB n (fun r=>Ord n r.1) (kas_desc f p m q)
 |0,p,m,q,h=>h
 |f+1,p,m,q,h=>⟨h.lt h0 _,h.lt h0 _,fun b=>by
  cases b with
  |true =>
   show wB n _ (if q > 0 then _ else _)
   split
   .exact yM f _ _ _ (h.rev _ _)
   .exact yM f _ _ _ h
  |false =>
   refine⟨h.lt h0 _,h.lt h0 _,fun b=>?_⟩
   cases b with
   |true=>exact h
   |false=>exact yM f _ _ _ h⟩
theorem iH {p:Array Nat}(m r:Nat)(h:Ord n p):wB n (fun r=>Ord n r.2) (kas_tail3 m r p) :=
 nV _ (zS h0 (h.rev 0 m) _ _) fun _ _=>h.rev 0 m
theorem uM {p:Array Nat}(m r:Nat)(h:Ord n p):wB n (fun r=>Ord n r.2) (kas_descPart m r p) :=
 nV _ (yM h0 _ _ _ _ h) fun x hx=>by
  split
  .exact iH h0 _ _ (hx.rev _ _)
  .exact iH h0 _ _ hx
theorem XW {p:Array Nat}(r:Nat)(h:Ord n p):wB n (fun r=>Ord n r.2) (kas_count r p) :=
 nV _ (zS h0 h _ _) fun x _=>by
  split
  .exact h
  .split
   .refine ⟨h.lt h0 _,h.lt h0 _,fun b=>?_⟩
    cases b with
    |true=>exact h
    |false=>exact uM h0 _ _ (h.rev _ _)
   .exact uM h0 _ _ h
theorem jF {p:Array Nat}(k:Nat)(h:Ord n p):∀f l r,wB n (fun _=>True) (kas_place p k f l r)
 |0,l,r=>trivial
 |f+1,l,r=>by
  unfold kas_place
  split
  .exact trivial
  .refine ⟨h.lt h0 _,h.lt h0 _,fun b=>?_⟩
   cases b with
   |true=>exact jF k h f _ _
   |false=>exact jF k h f _ _
theorem Q5:∀f (p:Array Nat) k,Ord n p->wB n (Ord n) (kas_bin f p k)
 |0,p,k,h=>h
 |f+1,p,k,h=>nV _ (jF h0 k h _ _ _) fun l _=>Q5 f _ _ (h.bubble _ _)
theorem dS:wB n (Ord n) (kas_sort n) :=
 nV _ (XW h0 n (show Ord n (List.toArray (List.range n)) from List.Perm.refl _)) fun r hr=>by
  split
  .exact Q5 h0 _ _ _ hr
  .exact hr
end
def zK (lt:Nat->Nat->Bool)(vs:List Value):List Value:=(tG lt (kas_sort vs.length)).toList.map fun i=>vs.getD i Value.none
def lG (lt:Nat->Nat->Bool)(ys:List V):List V:=(tG lt (kas_sort ys.length)).toList.map fun i=>ys.getD i .non
theorem run0 (lt:Nat->Nat->Bool):(tG lt (kas_sort 0)).toList=[]:=rfl
theorem iF {lt:Nat->Nat->Bool}{vs:List Value}(h:vs.length < 2):zK lt vs=vs:=by
 match vs,h with
 |[],_=>rfl
 |[v],_=>rfl
theorem gY (lt:Nat->Nat->Bool)(n:Nat)(h:0 < n):Ord n (tG lt (kas_sort n)):=aT _ (dS h)
theorem bC (lt:Nat->Nat->Bool)(vs:List Value):(zK lt vs).length=vs.length:=by
 by_cases h:vs.length < 2
 .rw [iF h]
 .unfold zK
  rw[List.length_map,Array.length_toList,(gY lt vs.length (by omega)).size]
def aZ (h:Heap)(a:Addr)(vs:List Value):Heap:=((h.update a (Obj.mapSeq fun _=>(#[]:Array Value))).push (seqObj "tuple" vs.toArray 0)).push (seqObj "list" #[] 0)
theorem uA {h:Heap}{a:Addr}{vs us:List Value}{n:Nat}(e:h.get? a=some (seqObj "list" us.toArray n)):∃k,(h.update a (Obj.mapSeq fun _=>(#[]:Array Value))).get? a=some (seqObj "list" #[] k)/\(aZ h a vs).get? a=some (seqObj "list" #[] k) :=
 ⟨_,get?_update_seq e fun _=>#[],Heap.get?_push_of_some _ (Heap.get?_push_of_some _ (get?_update_seq e fun _=>#[]))⟩
theorem oT {h:Heap}{a b:Addr}{vs:List Value}{o:Obj}(e:h.get? b=some o)(n:b≠a):(aZ h a vs).get? b=some o :=
 Heap.get?_push_of_some _ (Heap.get?_push_of_some _ ((Heap.get?_update_ne _ _ _ _ n).trans e))
theorem zB {P':Program}{w:World}{A:Around}{E:Value->Shared->Prop}{s:Shared}{a:Addr}{vs:List Value}{n:Nat}{κ:SortKind}{lt:Nat->Nat->Bool}{R:PySem.Fin->Shared->Prop}(ea:s.heap.get? a=some (seqObj "list" vs.toArray n))(few:vs.length < 64)
  (hk:2<=vs.length->∀Q:SortKind->Shared->Prop,Q κ { s with heap:=aZ s.heap a vs }->wpAny (model P' w) A (keyKind' vs.toArray) Q (fun _ _=>False) { s with heap:=aZ s.heap a vs })
  (hc:∀i j,i < vs.length->j < vs.length->∀Q:Bool->Shared->Prop,Q (lt i j) { s with heap:=aZ s.heap a vs }->wpAny (model P' w) A (keyLt' κ (vs.getD i Value.none) (vs.getD j Value.none)) Q (fun _ _=>False) { s with heap:=aZ s.heap a vs })
  (done:R (.done (.ret .none)) { s with heap:=sortedHeap s.heap a vs (zK lt vs).toArray }):wpAny (model P' w) A (Builtin.«list.sort» ⟨[.ref a],[]⟩) R E s:=by
 obtain⟨k0,e1,e2⟩:=uA (vs:=vs) ea;have zl:vs.length<=sizeLine:=by rw[sizeLine_eq]; omega
 have zo:(zK lt vs).toArray.size<=sizeLine:=by rw[List.size_toArray,bC]; exact zl
 rw[list_sort_plain];refine wpAny_bind (listItems_at ea rfl (wpAny_bind (listUpdate_at ea rfl (wpAny_bind (seqEpoch_at e1 rfl (wpAny_bind (wpAny_newTuple (wpAny_bind (wpAny_newList (wpAny_holding ?_) (Nat.zero_le _))) zl)))) (by rw[List.size_toArray]; exact zl) (Nat.zero_le _))));show wpAny (model P' w) A _ R E { s with heap:=aZ s.heap a vs };dsimp only
 have rest:∀st':SortSt,(arrOf st').map (·.2)=(zK lt vs).toArray->failedOf st'=none->wpAny (model P' w) A (do
   let after <- seqEpoch a
   Builtin.List.listUpdate (.ref a) fun _=>(arrOf st').map (·.2)
   if let some e:=failedOf st' then rule "list.sort.comparison-raised"; throw e
   if (after != k0)=true then rule "list.sort.modified"; raiseError "ValueError" "list modified during sort"
   ret .none) R E { s with heap:=aZ s.heap a vs }:=fun st' q1 q2=>by
  rw[q1,q2];refine wpAny_bind (seqEpoch_at e2 rfl (wpAny_bind (listUpdate_at e2 rfl ?_ (Nat.zero_le _) (Nat.le_succ_of_le zo))));rw[show(k0 != k0)=false by simp];exact wpAny_pure done
 have sz:vs.toArray.size=vs.length:=List.size_toArray
 by_cases h2:vs.length < 2
 .rw [sz,if_pos h2,if_pos h2]
  refine wpAny_bind (wpAny_pure (wpAny_bind (wpAny_pure (rest _ ?_ rfl))));rw[iF h2];show(vs.toArray.zip vs.toArray).map (·.2)=vs.toArray
  apply Array.toList_inj.mp
  simp
  exact List.map_snd_zip (Nat.le_refl _)
 .rw [sz,if_neg h2,if_neg h2]
  refine wpAny_bind (wpAny_mono (hk (by omega) (fun c s'=>c=κ/\s'={ s with heap:=aZ s.heap a vs }) ⟨rfl,rfl⟩) (fun c s0 hs=>?_) fun _ _ x=>x.elim);obtain⟨rfl,rfl⟩:=hs
  refine wpAny_bind (wpAny_mono (kat_run (Q:=fun st' s'=>s'={ s with heap:=aZ s.heap a vs }/\(arrOf st').map (·.2)=(zK lt vs).toArray/\failedOf st'=none)
   (G:=fun p s'=>s'={ s with heap:=aZ s.heap a vs }/\p=tG lt (kas_sort vs.length)) rfl (by omega) few (fun p' st' s' a1 a2 a3 a4=>⟨a4.1,?_,a3⟩)
   (kWp (n:=vs.length) (P:=Ord vs.length) (lt:=lt) (J:=fun s'=>s'={ s with heap:=aZ s.heap a vs }) (fun i j C s' hi hj e hC=>?_) _ (dS (by omega)) rfl fun s' e _=>⟨e,rfl⟩)) ?_ fun _ _ e=>e)
  .rw [kat_snds rfl a2,a4.2]
   rfl
  .subst e
   exact hc i j hi hj _ (hC _ rfl)
  .rintro ⟨⟨⟩,st'⟩ s' ⟨rfl,q3,q4⟩
   exact rest st' q3 q4
def iY (h:Heap)(vs:List Value):Heap:=((h.push (seqObj "list" #[] 0)).update h.objs.size (Obj.mapSeq (· ++ vs.toArray))).push (seqObj "list" vs.toArray 0)
theorem yO (h:Heap)(vs:List Value):((h.push (seqObj "list" #[] 0)).update h.objs.size (Obj.mapSeq (· ++ vs.toArray))).objs.size=h.objs.size+1:=(Heap.size_update ..).trans (size_push' ..)
theorem zI (h:Heap)(vs:List Value):(iY h vs).get? (h.objs.size+1)=some (seqObj "list" vs.toArray 0):=by
 have q:=Heap.get?_push_size ((h.push (seqObj "list" #[] 0)).update h.objs.size (Obj.mapSeq (· ++ vs.toArray))) (o:=seqObj "list" vs.toArray 0) rfl;rw[yO] at q;exact q
theorem J3 {h:Heap}{vs:List Value}{b:Addr}{o:Obj}(e:h.get? b=some o):(iY h vs).get? b=some o :=
 Heap.get?_push_of_some _ ((Heap.get?_update_ne _ _ _ _ (Nat.ne_of_lt (Heap.lt_size e))).trans (Heap.get?_push_of_some _ e))
section
variable {X:Cx}
def Srt (X:Cx)(H:Hp)(ys:List V)(lt:Nat->Nat->Bool):Prop:=∀(pins:List (Addr×Obj)) (σ:St) (s:Shared) (its:List Value) (A:Around),A.units<=X.A.units+2->Inv X pins σ H s->Vals ys its ->
 ∃κ:SortKind,(2<=ys.length->∀Q:SortKind->Shared->Prop,Q κ s->wpAny (model X.prog X.w) A (keyKind' its.toArray) Q (fun _ _=>False) s) /\
  ∀i j,i < ys.length->j < ys.length->∀Q:Bool->Shared->Prop,Q (lt i j) s->wpAny (model X.prog X.w) A (keyLt' κ (its.getD i Value.none) (its.getD j Value.none)) Q (fun _ _=>False) s
theorem jY {ys:List V}{its:List Value}(r:Vals ys its)(i:Nat):RelV (ys.getD i .non) (its.getD i Value.none):=by
 induction r generalizing i with
 |nil=>exact rfl
 |cons a b ih =>
  cases i with
  |zero=>exact a
  |succ i=>exact ih i
theorem wL {ys:List V}{its:List Value}(r:Vals ys its):∀l:List Nat,Vals (l.map fun i=>ys.getD i .non) (l.map fun i=>its.getD i Value.none)
 |[]=>.nil
 |i::l=>.cons (jY r i) (wL r l)
theorem qD (lt:Nat->Nat->Bool)(ys:List V):(lG lt ys).length=ys.length:=by
 unfold lG;rw[List.length_map,Array.length_toList]
 by_cases h:0 < ys.length
 .exact (gY lt ys.length h).size
 .have e:ys.length=0:=by omega
  rw[e]
  rfl
theorem iO:CallR X (.builtin "sorted") (fun xs H Q=>∃l ys lt,xs=[.ref l]/\SqL X.K H l ys/\ys.length < 64/\Srt X H ys lt/\∀p,H p=none->Q (.ref p) (upd H p (.lst (lG lt ys)))):=by
 intro pins s σ H xs us Q I r h;obtain⟨l,ys,lt,rfl,hl,h64,hs,q⟩:=h;obtain⟨u,rfl,ru⟩:=r.one;cases ru;obtain⟨vs,rv,pl,_⟩:=I.list hl;have hlen:=rv.length;have h64':vs.length < 64:=by omega
 have zl:vs.length<=sizeLine:=by rw[sizeLine_eq]; omega
 have up:∀{b:Addr} {o:Obj},s.heap.get? b=some o->b≠s.heap.objs.size+1:=fun e=>Nat.ne_of_lt (Nat.lt_succ_of_lt (Heap.lt_size e));have k1:∀b o,s.heap.get? b=some o->(aZ (iY s.heap vs) (s.heap.objs.size+1) vs).get? b=some o:=fun b o e=>oT (J3 e) (up e);obtain⟨κ,hk,hc⟩:=hs pins σ _ vs X.A.in1.in1 (Nat.le_refl _) (I.kept (t':=s.toks) k1) rv;obtain⟨k0,_,e2⟩:=uA (vs:=vs) (zI s.heap vs);have e3:∃c,(sortedHeap (iY s.heap vs) (s.heap.objs.size+1) vs (zK lt vs).toArray).get? (s.heap.objs.size+1)=some (seqObj "list" (zK lt vs).toArray c):=⟨_,get?_update_seq e2 fun _=>(zK lt vs).toArray⟩
 obtain⟨c,e3⟩:=e3;have k2:∀b o,s.heap.get? b=some o->(sortedHeap (iY s.heap vs) (s.heap.objs.size+1) vs (zK lt vs).toArray).get? b=some o:=fun b o e=>(Heap.get?_update_ne _ _ _ _ (up e)).trans (k1 b o e);refine Calls.call_function_entry kind_sorted plain_sorted entry_sorted (args_sorted1 _) (?_:wpAny _ _ (Builtin.«sorted» _) _ _ _);unfold Builtin.«sorted»;refine wpAny_bind (m:=checkCount "sorted" 1 1 _) (wpAny_pure (wpAny_bind (collect_list pl.isList (wpAny_bind (wpAny_newList ?_ zl)) zl)))
 show wpAny _ _ _ _ _ { s with heap:=iY s.heap vs };rw[yO];refine wpAny_bind (wpAny_holding (wpAny_call_entry slot_list_sort ⟨_,zI s.heap vs,rfl⟩ entry_list_sort ?inner (args_list_sort _)));refine zB (s:={ s with heap:=iY s.heap vs }) (κ:=κ) (lt:=lt) (zI s.heap vs) h64' (fun h2 Q' hq=>hk (by omega) Q' hq) (fun i j hi hj Q' hq=>hc i j (by omega) (by omega) Q' hq) ⟨_,rfl,wpAny_pure ⟨_,rfl,?_⟩⟩;refine⟨.ref (s.heap.objs.size+1),_,I.laid (t':=s.toks) (o:=.lst (lG lt ys)) k2 (Nat.le_succ _) ?_,rfl,q _ (I.hok.fresh (Nat.le_succ _))⟩
 refine⟨by rw[qD,sizeLine_eq]; omega,zK lt vs,c,?_,e3⟩;unfold lG zK;rw[hlen];exact wL rv _
end
end L2
namespace HT
open PySem PyProof.Rows
inductive TxtsAre:List Value->List Str->Prop
 |nil:TxtsAre [] []
 |cons (z:Str) (t:Tok) {vs:List Value} {zs:List Str}:TxtsAre vs zs->TxtsAre (.str z t::vs) (z::zs)
theorem TxtsAre.length {vs:List Value}{zs:List Str}(h:TxtsAre vs zs):vs.length=zs.length:=by
 induction h with
 |nil=>rfl
 |cons z t h ih=>rw[List.length_cons,List.length_cons,ih]
def lexS:List Str->List Str->Bool
 |[],[]=>false
 |[],_::_=>true
 |_::_,[]=>false
 |x::xs,y::ys=>if x=y then lexS xs ys else decide (x.cps.toList < y.cps.toList)
theorem XE (x y:Str)(xs ys:List Str):lexS (x::xs) (y::ys)=if x=y then lexS xs ys else decide (x.cps.toList < y.cps.toList):=rfl
section
open PySem.SeqAt
open PySem.AutoSeq1 (wpAny_loadPart')
open PySem.MeetsSeq PySem.MeetsSeq2 PySem.MeetsSeq3
theorem vH (l b:Addr)(items items2:Array Value)(n n2:Nat)(dd dd2:Option Addr)(sl sl2:Array (Option Value))(ns ms:List Str)(hi:TxtsAre items.toList ns)(hj:TxtsAre items2.toList ms):
  Meets (Builtin.«tuple.__lt__» ⟨[.ref l,.ref b],[]⟩)
   (fun _ R s=>s.heap.get? l=some { cls:=.type "tuple",dict:=dd,data:=.seq items n,slots:=sl }/\s.heap.get? b=some { cls:=.type "tuple",dict:=dd2,data:=.seq items2 n2,slots:=sl2 } /\
    R (.ok (.ret (.bool (lexS ns ms)))) s) :=
 .of_wp fun prog w A R s hh=>by
  obtain⟨hp,g,d,tk,os⟩:=s;obtain⟨hl,hb,h⟩:=hh;have sub:=AutoSeq1.sub_tuple_tuple;have z1:items.size=ns.length:=by rw[<- hi.length]; simp
  have z2:items2.size=ms.length:=by rw[<- hj.length]; simp
  wp_walk using wpAny_loadPart' hl,wpAny_loadPart' hb,wpAny_forIn_list _ (fun rest b s'=>b.1=none/\s'=⟨hp,g,d,tk,os⟩/\∃(vs ws:List Value) (ns' ms':List Str),rest=vs.zip ws /\
   TxtsAre vs ns'/\TxtsAre ws ms'/\ns'.length+items2.size=ms'.length+items.size/\R (.ok (.ret (.bool (lexS ns' ms')))) ⟨hp,g,d,tk,os⟩) _
  case turn =>
   rintro⟨y,x⟩ rest b s' ⟨hb',rfl,vs,ws,ns',ms',hz,hvi,hwi,hlen,hR⟩
   cases hvi with
   |nil=>rw[List.zip_nil_left] at hz; cases hz
   |cons a t hvi' =>
    cases hwi with
    |nil=>rw[List.zip_nil_right] at hz; cases hz
    |cons c u hwi' =>
     rw[List.zip_cons_cons] at hz;injection hz with hyx hrest
     injection hyx with hy hx
     subst hy hx;rw[XE] at hR
     simp only[List.length_cons] at hlen
     have he:∀(E:Value->Shared->Prop) (Q:Bool->Shared->Prop),Q (decide (a=c)) ⟨hp,g,d,tk,os⟩->wpAny (model prog w) A.in1 (eqBool (.str a t) (.str c u)) Q E ⟨hp,g,d,tk,os⟩:=fun E Q hq=>wpAny_eqBool_str hq;refine wpAny_bind (he _ _ ?_)
     by_cases hac:a=c
     .rw [decide_eq_true hac]
      rw[if_pos hac] at hR
      wp_walk
      exact⟨rfl,rfl,_,_,_,_,hrest,hvi',hwi',by omega,hR⟩
     .rw [decide_eq_false hac]
      rw[if_neg hac] at hR
      have hri:∀(E:Value->Shared->Prop) (Q:Value->Shared->Prop),Q (.bool (decide (a.cps.toList < c.cps.toList))) ⟨hp,g,d,tk,os⟩->wpAny (model prog w) A.in1 (richCompare .Lt (.str a t) (.str c u)) Q E ⟨hp,g,d,tk,os⟩ :=
       fun E Q hq=>(PyProof.Rows.lt_str hq:wpAny (model prog w) A.in1 (compareOp .Lt (.str a t) (.str c u)) Q E ⟨hp,g,d,tk,os⟩)
      wp_walk using hri
      exact⟨_,rfl,(by simpa using hR)⟩
  case fin =>
   rintro⟨b1,b2⟩ s' ⟨hb',rfl,vs,ws,ns',ms',hz,hvi,hwi,hlen,hR⟩
   simp only at hb'
   subst hb'
   have hv:lexS ns' ms'=decide (items.size < items2.size):=by
    cases hvi with
    |nil =>
     cases hwi with
     |nil =>
      simp only[List.length_nil] at hlen
      exact(decide_eq_false (by omega)).symm
     |cons c u hw =>
      simp only[List.length_nil,List.length_cons] at hlen
      exact(decide_eq_true (by omega)).symm
    |cons a t hv =>
     cases hwi with
     |nil =>
      simp only[List.length_nil,List.length_cons] at hlen
      exact(decide_eq_false (by omega)).symm
     |cons c u hw =>
      rw[List.zip_cons_cons] at hz;cases hz
   rw[hv] at hR
   wp_walk
   exact⟨_,rfl,(by simpa [Builtin.Tuple.tupleCompareSizes] using hR)⟩
  case h =>
   exact⟨rfl,rfl,items.toList,items2.toList,ns,ms,rfl,hi,hj,by omega,h⟩
end
section
theorem lt_tupStrs {prog:Program}{w:World}{A:Around}{E:Value->Shared->Prop}{s:Shared}{l b:Addr}{items items2:Array Value}{ns ms:List Str}{Q:Value->Shared->Prop}(hl:IsTup s.heap l items)(hb:IsTup s.heap b items2)(hi:TxtsAre items.toList ns)(hj:TxtsAre items2.toList ms)
  (hu:A.units < cLine) (h:Q (.bool (lexS ns ms)) s):wpAny (model prog w) A (compareOp .Lt (.ref l) (.ref b)) Q E s:=by
 obtain⟨⟨c1,dd,d1,sl⟩,ho,q1,n,q2⟩:=hl;obtain⟨⟨c2,dd2,d2,sl2⟩,ho2,q3,n2,q4⟩:=hb
 simp only at q1 q2 q3 q4
 subst q1 q2 q3 q4
 exact richCompare_meets_room (op:=.Lt) ⟨_,ho,rfl⟩ ⟨_,ho2,rfl⟩ PySem.F.slot_tuple_lt PySem.F.entry_tuple_lt (PySem.F.args_tuple_lt_2 _ _) (vH l b items items2 n n2 dd dd2 sl sl2 ns ms hi hj)
  ⟨ho,ho2,show Value.bool (lexS ns ms)≠Value.notImplemented/\Q (.bool (lexS ns ms)) s from⟨(fun x=>nomatch x),h⟩⟩ hu
end
end HT
namespace L2
open PySem PySem.W PyProof.Rows
theorem Qh {zs:List Str}{its:List Value}(r:Vals (zs.map V.str) its):HT.TxtsAre its zs:=by
 induction zs generalizing its with
 |nil=>cases r; exact .nil
 |cons z zs ih =>
  rw[List.map_cons] at r
  cases r with
  |cons a b =>
   obtain⟨t,rfl⟩:=a;exact .cons z t (ih b)
def ltP (x y:List Str×Int):Bool:=if x.1=y.1 then decide (x.2 < y.2) else HT.lexS x.1 y.1
def zH (H:Hp)(v:V)(c:List Str×Int):Prop:=∃a kb,v=.ref a/\H a=some (.tup [.ref kb,.int c.2])/\H kb=some (.tup (c.1.map V.str))
theorem eA (k:List Str):(k.map (Sum.inr:Str->Key)).map kV=k.map V.str:=by
 rw[List.map_map]
 rfl
theorem QA {k k':List Str}:(k.map (Sum.inr:Str->Key)=k'.map Sum.inr)↔k=k':=by
 constructor
 .intro h
  induction k generalizing k' with
  |nil=>cases k' with
   |nil=>rfl
   |cons _ _=>cases h
  |cons x k ih=>cases k' with
   |nil=>cases h
   |cons y k' =>
    rw[List.map_cons,List.map_cons] at h;injection h with h1 h2
    rw[ih h2,Sum.inr.inj h1]
 .rintro rfl; rfl
theorem iL {X:Cx}{pins:List (Addr×Obj)}{σ:St}{H:Hp}{s:Shared}{v:V}{u:Value}{c:List Str×Int}(I:Inv X pins σ H s)(h:zH H v c)(r:RelV v u):
  ∃a kb o n t,u=.ref a/\s.heap.get? a=some o/\o.cls=.type "tuple"/\o.data=.seq #[.ref kb,.int c.2 t] n/\H kb=some (.tup (c.1.map V.str)):=by
 obtain⟨a,kb,rfl,h1,h2⟩:=h;cases (show u=Value.ref a from r);obtain⟨_,its,rv,o,e1,e2,⟨n,e3⟩,_⟩:=(show ObjOk X.prog X.w H s.heap a (.tup [.ref kb,.int c.2]) from I.hok a _ h1);obtain⟨u1,u2,rfl,r1,r2⟩:=wS rv;cases (show u1=Value.ref kb from r1);obtain⟨t,rfl⟩:=r2;exact⟨a,kb,o,n,t,rfl,e1,e2,e3,h2⟩
theorem Xd {X:Cx}{H:Hp}{ys:List V}(hu:X.A.units+2 < cLine)(cs:Nat->List Str×Int)(hy:∀i,i < ys.length->zH H (ys.getD i .non) (cs i)):Srt X H ys (fun i j=>ltP (cs i) (cs j)):=by
 intro pins σ s its A hA I r;have hu':A.units < cLine:=by omega
 have all:∀v∈ys,∃c,zH H v c:=fun v hv=>by
  obtain⟨i,hi,e⟩:=List.getElem_of_mem hv;have q:=hy i hi;have eg:ys.getD i .non=v:=by simp[List.getD,hi,e]
  rw[eg] at q;exact⟨_,q⟩
 have tups:∀{ys:List V} {its:List Value},Vals ys its->(∀v∈ys,∃c,zH H v c)->∃fs,KatTups s.heap its fs/\fs.length=its.length/\∀f∈fs,Looks (model X.prog X.w) s.heap (typeOf f) (.type "tuple"):=by
  intro ys its r
  induction r with
  |nil=>exact fun _=>⟨[],.nil,rfl,fun f hf=>nomatch hf⟩
  |@cons y u ys its ry _ ih =>
   intro hall;obtain⟨fs,k1,k2,k3⟩:=ih fun v hv=>hall v (List.mem_cons_of_mem _ hv);obtain⟨c,hc⟩:=hall y List.mem_cons_self;obtain⟨a,kb,o,n,t,rfl,e1,e2,e3,e4⟩:=iL I hc ry;obtain⟨_,its2,_,o2,f1,f2,_,_⟩:=(show ObjOk X.prog X.w H s.heap kb (.tup (c.1.map V.str)) from I.hok kb _ e4);refine⟨.ref kb::fs,.cons e1 e2 e3 rfl k1,by rw[List.length_cons,List.length_cons,k2],fun f hf=>?_⟩
   rcases List.mem_cons.mp hf with rfl | hf
   .rw [<- f2]
    exact(show Looks (model X.prog X.w) s.heap (typeOf (.ref kb)) o2.cls from(Looks.ld f1).andThen .now)
   .exact k3 f hf
 have hlen:=r.length;refine⟨tuples' false,fun h2 Q hq=>?_,fun i j hi hj Q hq=>?_⟩
 .obtain ⟨fs,k1,k2,k3⟩:=tups r all
  exact kat_kind (T:=.type "tuple") k1 (by omega) k3 rfl hq
 .have hq:Q (ltP (cs i) (cs j)) s:=hq
  obtain⟨a,ka,oa,na,ta,ea,a1,a2,a3,a4⟩:=iL I (hy i hi) (jY r i);obtain⟨b,kb,ob,nb,tb,eb,b1,b2,b3,b4⟩:=iL I (hy j hj) (jY r j);rw[ea,eb];refine kat_lt a1 a3 b1 b3 ?_;have ka1:=vB I.hok (ks:=(cs i).1.map Sum.inr) (by rw[eA]; exact a4);have kb1:=vB I.hok (ks:=(cs j).1.map Sum.inr) (by rw[eA]; exact b4);refine kat_cons (wpAny_eqBool_tuple (knd:=zX X.prog X.w) hu' ka1 kb1 ?_)
  by_cases hk:(cs i).1=(cs j).1
  .rw [decide_eq_true (QA.mpr hk)]
   refine kat_yes (kat_cons (wpAny_eqBool_int ?_));have hl:ltP (cs i) (cs j)=decide ((cs i).2 < (cs j).2):=if_pos hk;rw[hl] at hq
   by_cases hn:(cs i).2=(cs j).2
   .rw [show((cs i).2==(cs j).2)=true by simpa using hn]
    refine kat_yes (kat_nil ?_);rw[hn,decide_eq_false (Int.lt_irrefl _)] at hq;exact hq
   .rw [show((cs i).2==(cs j).2)=false by simpa using hn]
    refine kat_no (kat_one _ _ (PyProof.Rows.lt_int ?_));exact hq
  .rw [decide_eq_false (fun e=>hk (QA.mp e))]
   have hl:ltP (cs i) (cs j)=HT.lexS (cs i).1 (cs j).1:=if_neg hk;rw[hl] at hq;obtain⟨_,ia,ra,pa⟩:=(show ObjOk X.prog X.w H s.heap ka (.tup ((cs i).1.map V.str)) from I.hok ka _ a4);obtain⟨_,ib,rb,pb⟩:=(show ObjOk X.prog X.w H s.heap kb (.tup ((cs j).1.map V.str)) from I.hok kb _ b4);refine kat_no (kat_one _ _ (HT.lt_tupStrs pa.is pb.is (Qh ra) (Qh rb) hu' ?_));exact hq
def Jo (x y:Str×Int):Bool:=if x.1=y.1 then decide (x.2 < y.2) else decide (x.1.cps.toList < y.1.cps.toList)
def KW (H:Hp)(v:V)(c:Str×Int):Prop:=∃a,v=.ref a/\H a=some (.tup [.str c.1,.int c.2])
theorem nE {X:Cx}{pins:List (Addr×Obj)}{σ:St}{H:Hp}{s:Shared}{v:V}{u:Value}{c:Str×Int}(I:Inv X pins σ H s)(h:KW H v c)(r:RelV v u):
  ∃a o n t t',u=.ref a/\s.heap.get? a=some o/\o.cls=.type "tuple"/\o.data=.seq #[.str c.1 t',.int c.2 t] n:=by
 obtain⟨a,rfl,h1⟩:=h;cases (show u=Value.ref a from r);obtain⟨_,its,rv,o,e1,e2,⟨n,e3⟩,_⟩:=(show ObjOk X.prog X.w H s.heap a (.tup [.str c.1,.int c.2]) from I.hok a _ h1);obtain⟨u1,u2,rfl,r1,r2⟩:=wS rv;obtain⟨t',rfl⟩:=r1;obtain⟨t,rfl⟩:=r2;exact⟨a,o,n,t,t',rfl,e1,e2,e3⟩
theorem Zw {X:Cx}{H:Hp}{ys:List V}(cs:Nat->Str×Int)(hy:∀i,i < ys.length->KW H (ys.getD i .non) (cs i)):Srt X H ys (fun i j=>Jo (cs i) (cs j)):=by
 intro pins σ s its A hA I r
 have all:∀v∈ys,∃c,KW H v c:=fun v hv=>by
  obtain⟨i,hi,e⟩:=List.getElem_of_mem hv;have q:=hy i hi;have eg:ys.getD i .non=v:=by simp[List.getD,hi,e]
  rw[eg] at q;exact⟨_,q⟩
 have tups:∀{ys:List V} {its:List Value},Vals ys its->(∀v∈ys,∃c,KW H v c)->∃fs,KatTups s.heap its fs/\fs.length=its.length/\∀f∈fs,Looks (model X.prog X.w) s.heap (typeOf f) (.type "str"):=by
  intro ys its r
  induction r with
  |nil=>exact fun _=>⟨[],.nil,rfl,fun f hf=>nomatch hf⟩
  |@cons y u ys its ry _ ih =>
   intro hall;obtain⟨fs,k1,k2,k3⟩:=ih fun v hv=>hall v (List.mem_cons_of_mem _ hv);obtain⟨c,hc⟩:=hall y List.mem_cons_self;obtain⟨a,o,n,t,t',rfl,e1,e2,e3⟩:=nE I hc ry;refine⟨.str c.1 t'::fs,.cons e1 e2 e3 rfl k1,by rw[List.length_cons,List.length_cons,k2],fun f hf=>?_⟩
   rcases List.mem_cons.mp hf with rfl | hf
   .exact .now
   .exact k3 f hf
 have hlen:=r.length;refine⟨tuples' true,fun h2 Q hq=>?_,fun i j hi hj Q hq=>?_⟩
 .obtain ⟨fs,k1,k2,k3⟩:=tups r all
  exact kat_kind (T:=.type "str") k1 (by omega) k3 rfl hq
 .have hq:Q (Jo (cs i) (cs j)) s:=hq
  obtain⟨a,oa,na,ta,ta',ea,a1,a2,a3⟩:=nE I (hy i hi) (jY r i);obtain⟨b,ob,nb,tb,tb',eb,b1,b2,b3⟩:=nE I (hy j hj) (jY r j);rw[ea,eb];refine kat_lt a1 a3 b1 b3 ?_;refine kat_cons (wpAny_eqBool_str ?_)
  by_cases hk:(cs i).1=(cs j).1
  .rw [decide_eq_true hk]
   refine kat_yes (kat_cons (wpAny_eqBool_int ?_));have hl:Jo (cs i) (cs j)=decide ((cs i).2 < (cs j).2):=if_pos hk;rw[hl] at hq
   by_cases hn:(cs i).2=(cs j).2
   .rw [show((cs i).2==(cs j).2)=true by simpa using hn]
    refine kat_yes (kat_nil ?_);rw[hn,decide_eq_false (Int.lt_irrefl _)] at hq;exact hq
   .rw [show((cs i).2==(cs j).2)=false by simpa using hn]
    refine kat_no (kat_one _ _ (PyProof.Rows.lt_int ?_));exact hq
  .rw [decide_eq_false hk]
   have hl:Jo (cs i) (cs j)=decide ((cs i).1.cps.toList < (cs j).1.cps.toList):=if_neg hk;rw[hl] at hq;exact kat_no (kas_lt_str hq)
def uH (H:Hp)(f:Addr->Option (List V)):Hp:=fun b=>match f b with
 |some xs=>some (.tup xs)
 |none=>H b
theorem yF {H:Hp}{f:Addr->Option (List V)}{b:Addr}{xs:List V}(e:f b=some xs):uH H f b=some (.tup xs):=by unfold uH; rw[e]
theorem yY {H:Hp}{f:Addr->Option (List V)}{b:Addr}(e:f b=none):uH H f b=H b:=by unfold uH; rw[e]
theorem sJ {H:Hp}{f:Addr->Option (List V)}(hf:∀b xs,f b=some xs->H b=none){b:Addr}{o:HO}(e:H b=some o):uH H f b=some o:=by
 cases z:f b with
 |none=>rw[yY z]; exact e
 |some xs=>rw[hf b xs z] at e; cases e
section
variable {X:Cx}{pins:List (Addr×Obj)}{σ:St}{H:Hp}{s:Shared}{h':Heap}
theorem Inv.tups {f:Addr->Option (List V)}{t':Nat}(I:Inv X pins σ H s)(k:∀b u,s.heap.get? b=some u->h'.get? b=some u)
  (hf:∀b xs,f b=some xs->s.heap.objs.size<=b/\xs.length<=sizeLine/\∃its:List Value,Vals xs its/\IsTupN h' b its.toArray):Inv X pins σ (uH H f) { s with heap:=h',toks:=t' }:=by
 have fr:∀b xs,f b=some xs->H b=none:=fun b xs e=>I.hok.fresh (hf b xs e).1
 have nf:∀{b:Addr} {o:Obj},s.heap.get? b=some o->f b=none:=fun {b o} e=>by
  cases z:f b with
  |none=>rfl
  |some xs=>exact absurd (Heap.lt_size e) (Nat.not_lt.mpr (hf b xs z).1)
 refine I.un ⟨fun b o q _ _ _=>k b o q,fun b o q _ _ _=>⟨o.slots,k b o q⟩,fun b o q n _=>by rw[yY (nf q)]; exact n,fun b o q _=>⟨o,k b o q⟩,fun b xs q=>sJ fr q,fun b o u q=>sJ fr q,fun b ps q=>⟨#[],by rw[sJ fr q]; simp⟩⟩ fun b u e=>?_
 cases z:f b with
 |some xs =>
  rw[yF z] at e;cases e;obtain⟨_,h2,its,h3,h4⟩:=hf b xs z;exact⟨h2,its,h3,h4⟩
 |none =>
  rw[yY z] at e;exact(I.hok b u e).stay (fun c v _ q=>k c v q) (fun c q=>sJ fr q) fun c xs q=>sJ fr q
end
section
variable {X:Cx}
theorem aF {pins:List (Addr×Obj)}{σ:St}{H:Hp}{s:Shared}{A:Around}{ys:List V}{vs:List Value}{lt:Nat->Nat->Bool}{Z:PySem.Fin->Shared->Prop}{E:Value->Shared->Prop}(hA:A.in1.units<=X.A.units+2)(I:Inv X pins σ H s)(rv:Vals ys vs)(h64:ys.length < 64)(hs:Srt X H ys lt)
  (fin:∀p s',H p=none->Inv X pins σ (upd H p (.lst (lG lt ys))) s'->Z (.done (.ret (.ref p))) s') :
  wpAny (model X.prog X.w) A (newList vs >>= fun l=>holding [l] (call (.builtin "list.sort") [l] []) >>= fun _=>ret l) Z E s:=by
 have hlen:=rv.length;have h64':vs.length < 64:=by omega
 have zl:vs.length<=sizeLine:=by rw[sizeLine_eq]; omega
 refine wpAny_bind (wpAny_newList ?_ zl);have ga:(s.heap.push (seqObj "list" vs.toArray 0)).get? s.heap.objs.size=some (seqObj "list" vs.toArray 0):=Heap.get?_push_size _ rfl;have up:∀{b:Addr} {o:Obj},s.heap.get? b=some o->b≠s.heap.objs.size:=fun e=>Nat.ne_of_lt (Heap.lt_size e);have k1:∀b o,s.heap.get? b=some o->(aZ (s.heap.push (seqObj "list" vs.toArray 0)) s.heap.objs.size vs).get? b=some o:=fun b o e=>oT (Heap.get?_push_of_some _ e) (up e)
 obtain⟨κ,hk,hc⟩:=hs pins σ _ vs A.in1 hA (I.kept (t':=s.toks) k1) rv;obtain⟨k0,_,e2⟩:=uA (vs:=vs) ga;have e3:∃c,(sortedHeap (s.heap.push (seqObj "list" vs.toArray 0)) s.heap.objs.size vs (zK lt vs).toArray).get? s.heap.objs.size=some (seqObj "list" (zK lt vs).toArray c):=⟨_,get?_update_seq e2 fun _=>(zK lt vs).toArray⟩;obtain⟨c,e3⟩:=e3;have k2:∀b o,s.heap.get? b=some o->(sortedHeap (s.heap.push (seqObj "list" vs.toArray 0)) s.heap.objs.size vs (zK lt vs).toArray).get? b=some o:=fun b o e=>(Heap.get?_update_ne _ _ _ _ (up e)).trans (k1 b o e)
 refine wpAny_bind (wpAny_holding (wpAny_call_entry slot_list_sort ⟨_,ga,rfl⟩ entry_list_sort ?inner (args_list_sort _)));refine zB (s:={ s with heap:=s.heap.push (seqObj "list" vs.toArray 0) }) (κ:=κ) (lt:=lt) ga h64' (fun h2 Q' hq=>hk (by omega) Q' hq) (fun i j hi hj Q' hq=>hc i j (by omega) (by omega) Q' hq) ⟨_,rfl,wpAny_pure ?_⟩;refine fin _ _ (I.hok.fresh (Nat.le_refl _)) (I.laid (t':=s.toks) (o:=.lst (lG lt ys)) k2 (Nat.le_refl _) ?_)
 refine⟨by rw[qD,sizeLine_eq]; omega,zK lt vs,c,?_,e3⟩;unfold lG zK;rw[hlen];exact wL rv _
abbrev mV (v d:Addr):Heap->Prop:=fun h=>h.IsItemsView v d
def mkF (as:List Addr)(kvs:List (Key×V)):Addr->Option (List V):=fun b=>((as.zip kvs).find? fun p=>p.1==b).map fun p=>[kV p.2.1,p.2.2]
theorem Ke {as:List Addr}{kvs:List (Key×V)}(nd:as.Nodup){j:Nat}{a:Addr}{p:Key×V}(ha:as[j]?=some a)(hp:kvs[j]?=some p):(as.zip kvs).find? (fun q=>q.1==a)=some (a,p):=by
 induction as generalizing kvs j with
 |nil=>cases ha
 |cons x as ih =>
  cases kvs with
  |nil=>cases hp
  |cons y kvs =>
   rw[List.nodup_cons] at nd;rw[List.zip_cons_cons,List.find?_cons]
   cases j with
   |zero=>cases ha; cases hp; simp
   |succ j =>
    have ha:as[j]?=some a:=ha;have ne:(x==a)=false:=beq_false_of_ne fun e=>nd.1 (e▸List.mem_of_getElem? ha);rw[ne];exact ih nd.2 ha hp
theorem zG {as:List Addr}{kvs:List (Key×V)}{b:Addr}{q:Addr×(Key×V)}(h:(as.zip kvs).find? (fun q=>q.1==b)=some q):q.1=b/\∃j:Nat,as[j]?=some b/\kvs[j]?=some q.2:=by
 have h1:=List.find?_some h;have h1:q.1=b:=eq_of_beq h1;have h2:=List.mem_of_find?_eq_some h;obtain⟨j,hj⟩:=List.mem_iff_getElem?.mp h2;rw[List.getElem?_zip_eq_some] at hj;exact⟨h1,j,by rw[<- h1]; exact hj.1,hj.2⟩
theorem kN {H:Hp}:∀{as:List Addr}{kvs:List (Key×V)},as.length=kvs.length->(∀(j:Nat) (a:Addr) (p:Key×V),as[j]?=some a->kvs[j]?=some p->H a=some (.tup [kV p.1,p.2]))->wG H as kvs
 |[],[],_,_=>.nil
 |[],_::_,h,_=>nomatch h
 |_::_,[],h,_=>nomatch h
 |a::as,p::kvs,h,k=>.cons (k 0 a p rfl rfl) (kN (Nat.succ.inj h) fun j a' p' h1 h2=>k (j+1) a' p' h1 h2)
theorem rS {P:Program}{w:World}{k:Key}{u:Value}(h:(zX P w).is k u=true):RelV (kV k) u:=by
 rcases lZ h with ⟨i,t,rfl,rfl⟩ | ⟨x,t,rfl,rfl⟩ | ⟨rfl,rfl⟩
 .exact ⟨t,rfl⟩
 .exact ⟨t,rfl⟩
 .exact rfl
theorem Ju {kvs:List (Key×V)}{vs:List (Key×Value)}(r:KV kvs vs):∀{j:Nat}{p:Key×V}{q:Key×Value},kvs[j]?=some p->vs[j]?=some q->p.1=q.1/\RelV p.2 q.2:=by
 induction r with
 |nil=>intro j p q h; cases h
 |cons h _ ih =>
  intro j p q h1 h2
  cases j with
  |zero=>cases h1; cases h2; exact h
  |succ j=>exact ih (j:=j) h1 h2
theorem lR (hc:X.calm=true):CallR X (.builtin "sorted") (fun xs H Q=>∃v d kvs lt,xs=[.ref v]/\H v=some (.ext (mV v d))/\H d=some (.dK kvs)/\kvs.length < 64 /\
  ∀as H1,Same H H1->wG H1 as kvs->(∀a∈as,H a=none)->(∀a,H a=none->H1 a≠none->a∈as)->Srt X H1 (List.map V.ref as) lt/\∀p,H1 p=none->Q (.ref p) (upd H1 p (.lst (lG lt (List.map V.ref as))))):=by
 intro pins s σ H xs us Q I r h;obtain⟨v,d,kvs,lt,rfl,hv,hd,h64,hq⟩:=h;obtain⟨u,rfl,ru⟩:=r.one;cases ru;obtain⟨z,hS,vs,rel,dd⟩:=fO I.hok hd;obtain⟨hview,_,_⟩:=(show ObjOk X.prog X.w H s.heap v (.ext (mV v d)) from I.hok v _ hv);obtain⟨ep,da⟩:=dd.dictAt;have hl:kvs.length=vs.length:=rel.length;refine Calls.call_function_entry kind_sorted plain_sorted entry_sorted (args_sorted1 _) (?_:wpAny _ _ (Builtin.«sorted» _) _ _ _)
 unfold Builtin.«sorted»;refine wpAny_bind (m:=checkCount "sorted" 1 1 _) (wpAny_pure (wpAny_bind (kdx_collect (knd:=zX X.prog X.w) (by simp[I.ok.hd hc]) hview da (by rw[<- hl]; exact z) fun h' tk as keep hlen G=>?_)));have nd:as.Nodup:=G.rise.imp fun h=>Nat.ne_of_lt h;have hlen':as.length=kvs.length:=hlen.trans hl.symm;have up:∀a∈as,s.heap.objs.size<=a:=fun a ha=>Nat.le_of_lt (G.above a ha)
 have I1:Inv X pins σ (uH H (mkF as kvs)) { s with heap:=h',toks:=tk }:=I.tups keep fun b xs e=>by
  unfold mkF at e
  cases z:(as.zip kvs).find? fun p=>p.1==b with
  |none=>rw[z] at e; cases e
  |some q =>
   rw[z] at e;cases e;obtain⟨e1,j,e2,e3⟩:=zG z;obtain⟨key,k,x,g1,g2,g3⟩:=G.pairs j b e2;obtain⟨r1,r2⟩:=Ju rel e3 g1;have r1:q.2.1=k:=r1;refine⟨up b (List.mem_of_getElem? e2),by show 2<=sizeLine; decide,[key,x],.cons (by rw[r1]; exact rS g2) (.cons r2 .nil),⟨_,g3,rfl,⟨_,rfl⟩,rfl⟩⟩
 have fr:∀b xs,mkF as kvs b=some xs->H b=none:=fun b xs e=>by
  unfold mkF at e
  cases z:(as.zip kvs).find? fun p=>p.1==b with
  |none=>rw[z] at e; cases e
  |some q =>
   obtain⟨_,j,e2,_⟩:=zG z;exact I.hok.fresh (up b (List.mem_of_getElem? e2))
 obtain⟨hs,q⟩:=hq as (uH H (mkF as kvs)) (fun b o e=>sJ fr e) (kN hlen' fun j a p h1 h2=>yF (by unfold mkF; rw[Ke nd h1 h2]; rfl)) (fun a ha=>I.hok.fresh (up a ha)) fun a n1 n2=>by
  cases z:mkF as kvs a with
  |none=>rw[yY z] at n2; exact absurd n1 n2
  |some xs =>
   unfold mkF at z
   cases y:(as.zip kvs).find? fun p=>p.1==a with
   |none=>rw[y] at z; cases z
   |some q =>
    obtain⟨_,j,e2,_⟩:=zG y;exact List.mem_of_getElem? e2
 have rv:Vals (as.map V.ref) (as.map Value.ref):=by
  clear nd hlen' up I1 fr hs q hlen G hq
  induction as with
  |nil=>exact .nil
  |cons a as ih=>exact .cons rfl ih
 exact aF (Nat.le_refl _) I1 rv (by rw[List.length_map]; omega) hs fun p s' hp I'=>⟨_,rfl,.ref p,_,I',rfl,q p hp⟩
end
end L2
namespace L2
open PySem PySem.Spec PyProof.Rows
section
variable {X:Cx}{pins:List (Addr×Obj)}{σ:St}{H:Hp}{s:Shared}{d:Addr}{o:Obj}{kvs:List (Key×V)}
theorem Inv.freeze {t':Nat}(I:Inv X pins σ H s)(hd:H d=some (.dK kvs))(ho:s.heap.get? d=some o):Inv X pins σ (upd H d (.frz o (.dK kvs))) { s with toks:=t' }:=by
 have ne:∀{b:Addr} {u:HO},H b=some u->u≠.dK kvs->b≠d:=fun e n z=>by subst z; rw[hd] at e; cases e; exact n rfl
 refine I.un (h':=s.heap) ⟨fun b u q _ _ _=>q,fun b u q _ _ _=>⟨u.slots,q⟩,fun b u q n _=>by rw[lQ (fun z=>by subst z; rw[hd] at n; cases n)]; exact n,fun b u q _=>⟨u,q⟩,
  fun b xs q=>by rw[lQ (ne q nofun)]; exact q,fun b u v q=>by rw[lQ (ne q nofun)]; exact q,fun b ps q=>⟨#[],by rw[lQ (ne q nofun),q]; simp⟩⟩ fun b u e=>?_
 have st:∀{b:Addr} {u:HO},H b=some u->ObjOk X.prog X.w (upd H d (.frz o (.dK kvs))) s.heap b u:=fun {b u} e=>(I.hok b u e).stay (fun c v _ q=>q) (fun c q=>by rw[lQ (ne q nofun)]; exact q) fun c xs q=>by rw[lQ (ne q nofun)]; exact q
 by_cases hb:b=d
 .subst hb
  rw[fQ] at e;cases e;exact⟨ho,st hd⟩
 .rw [lQ hb] at e
  exact st e
def NF (X:Cx)(d:Addr):Prop:=∀ob u,X.H₀ d≠some (.frz ob u)
theorem Inv.nf (I:Inv X pins σ H s)(hd:H d=some (.dK kvs)):NF X d:=fun ob u e=>by
 have:=I.base.frzs d ob u e;rw[hd] at this; cases this
theorem Inv.thaw (I:Inv X pins σ H s)(hd:H d=some (.frz o (.dK kvs)))(nf:NF X d):Inv X pins σ (upd H d (.dK kvs)) s:=by
 have ne:∀{b:Addr} {u:HO},H b=some u->u≠.frz o (.dK kvs)->b≠d:=fun e n z=>by subst z; rw[hd] at e; cases e; exact n rfl
 have nn:∀{b:Addr},H b=none->b≠d:=fun e z=>by subst z; rw[hd] at e; cases e
 obtain⟨m,hm,hl⟩:=I.loc;have B:=I.base;have st:∀{b:Addr} {u:HO},H b=some u->ObjOk X.prog X.w (upd H d (.dK kvs)) s.heap b u:=fun {b u} e=>(I.hok b u e).stay (fun c v _ q=>q) (fun c q=>by rw[lQ (ne q nofun)]; exact q) fun c xs q=>by rw[lQ (ne q nofun)]; exact q
 refine⟨I.ok,I.os,I.bare,⟨B.keep,B.slot,fun b u q n x=>by rw[lQ (nn (B.free b u q n x))]; exact B.free b u q n x,B.there,fun b xs q=>?_,fun b ob u q=>?_,fun b ps q=>?_⟩,⟨m,hm,hl⟩,I.cell,by rw[lQ (nn I.free)]; exact I.free,fun x c e=>by rw[lQ (nn (I.freeC x c e))]; exact I.freeC x c e,fun p hp=>?_,fun b u e=>?_,I.len⟩
 .have:=B.tups b xs q
  rw[lQ (ne this nofun)]; exact this
 .have:=B.frzs b ob u q
  have hb:b≠d:=fun z=>by subst z; exact nf ob u q
  rw[lQ hb]; exact this
 .obtain ⟨more,e⟩:=B.tbls b ps q
  exact⟨more,by rw[lQ (ne e nofun)]; exact e⟩
 .obtain ⟨a1,a2,a3⟩:=I.pin p hp
  exact⟨a1,by rw[lQ (nn a2)]; exact a2,a3⟩
 .by_cases hb:b=d
  .subst hb
   rw[fQ] at e;cases e;exact(show ObjOk X.prog X.w _ s.heap b (.frz o (.dK kvs)) from st hd).2
  .rw [lQ hb] at e
   exact st e
theorem je_thaw {e:Expr}{t:TE}(h:JE X e t):JE X e (fun σ H Q=>t σ H fun v H'=>∃d o kvs,H' d=some (.frz o (.dK kvs))/\NF X d/\Q v (upd H' d (.dK kvs))) :=
 ⟨fun pins s σ H Q I q=>thn (h.h pins s σ H _ I q) fun u s1 ⟨v,H1,I1,r1,d,o,kvs,q1,q2,q3⟩=>⟨v,_,I1.thaw q1 q2,r1,q3⟩⟩
end
def Itd (o:Obj)(d:Addr)(kvs:List (Key×V)):It :=
 ⟨fun i H=>i < kvs.length/\H d=some (.frz o (.dK kvs)),fun i H x H'=>H'=H/\∃p,kvs[i]?=some p/\x=kV p.1,fun i H=>kvs.length<=i/\H d=some (.frz o (.dK kvs))⟩
theorem Ka {X:Cx}{pins:List (Addr×Obj)}{σ:St}{H:Hp}{s:Shared}{d:Addr}{o:Obj}{kvs:List (Key×V)}{es:Array DictEntry}{ep:Nat}(I:Inv X pins σ H s)(hd:H d=some (.frz o (.dK kvs)))(ho:o.data=.dict es ep):
  ∃vs,KV kvs vs/\s.heap.DictAt (zX X.prog X.w) d vs ep/\(d==sysModules)=false:=by
 obtain⟨e,_,hS,vs,rel,o',es',ep',q1,q2,q3,q4⟩:=(show ObjOk X.prog X.w H s.heap d (.frz o (.dK kvs)) from I.hok d _ hd);rw[e] at q1;cases q1;rw[ho] at q3;cases q3;exact⟨vs,rel,⟨o,es,e,q2,ho,q4⟩,hS⟩
theorem Xa {P:Program}{w:World}{K:PySem.W.Frag}{tg:Expr}(o:Obj)(d it:Addr)(kvs:List (Key×V))(es:Array DictEntry)(ep:Nat)(ho:o.data=.dict es ep):X9 P w K tg (Itd o d kvs) [it] it (fun i h=>h.IsKeyIter it d i kvs.length ep) where
 mem:=by simp
 obj:=fun i h st b hb=>by
  have e:b=it:=by simpa using hb
  subst e;obtain⟨o,e,c,d⟩:=st;exact⟨o,e,fun v z=>by rw[d] at z; cases z⟩
 keep:=fun i h h' st k=>let ⟨ob,e,r⟩:=st; ⟨ob,k it (by simp) ob e,r⟩
 item:=by
  intro X hP hw hK hc i pins s σ H E I hf st hg;subst hP hw hK;obtain⟨hi,hd⟩:=hg;obtain⟨vs,rel,da,_⟩:=Ka I hd ho;have hl:kvs.length=vs.length:=rel.length;obtain⟨f0,f1,f2,f3,f4,f5⟩:=hf it (by simp);have hv:vs[i]?=some (vs[i]'(by omega)):=List.getElem?_eq_getElem _;have hk:kvs[i]?=some kvs[i]:=List.getElem?_eq_getElem _;obtain⟨r1,_⟩:=Ju rel hk hv;rw[hl] at st;refine wpAny_pyNext_dict_item (knd:=zX X.prog X.w) st da hv fun key h' ik st' sb=>?_
  have I1:Inv X pins σ H { s with heap:=h' }:=I.turned (t':=s.toks) (fun b o hb e=>(sb.2 b hb).trans e) f0 f1 f3 f4 f5;obtain⟨ob,e,c,dt⟩:=id st';exact⟨key,rfl,QH (s:={ s with heap:=h' }) e c dt (by decide) ⟨kV kvs[i].1,H,I1,by rw[r1]; exact rS ik,⟨rfl,_,hk,rfl⟩,by rw[hl]; exact st',fun b hb=>(hf b hb).1⟩⟩
 done:=by
  intro X hP hw hK hc i pins s σ H E I hf st hg;subst hP hw hK;obtain⟨hi,hd⟩:=hg;obtain⟨vs,rel,da,_⟩:=Ka I hd ho;have hl:kvs.length=vs.length:=rel.length;obtain⟨f0,f1,f2,f3,f4,f5⟩:=hf it (by simp);rw[hl] at st;exact wpAny_pyNext_dict_end (knd:=zX X.prog X.w) (I.ok.hd hc) st da (List.getElem?_eq_none_iff.mpr (by omega)) fun h' eb=>⟨rfl,I.turned (t':=s.toks) (fun b o hb e=>eb b o hb e) f0 f1 f3 f4 f5⟩
 self:=fun _ _ _ _ _ st h=>wpAny_pyIter_keyiter st h
section
variable {X:Cx}{tg:Expr}
def iDict (X:Cx)(td:TE):TI:=fun σ H R=>td σ H fun x H1=>∃d kvs,x=.ref d/\H1 d=some (.dK kvs)/\∀o,NF X d->R (Itd o d kvs) (upd H1 d (.frz o (.dK kvs)))
theorem ji_dict {e:Expr}{td:TE}(he:JE X e td):JI X tg e (iDict X td):=by
 refine⟨fun pins s σ H R I h=>?_⟩;refine thn (he.h pins s σ H _ I h) fun v s1 ⟨x,H1,I1,r1,q1⟩=>?_;obtain⟨d,kvs,rfl,hd,q⟩:=q1;cases (show v=Value.ref d from r1);obtain⟨z,hS,vs,rel,dd⟩:=fO I1.hok hd;obtain⟨ep,da⟩:=dd.dictAt;obtain⟨o,es,g1,g2,g3,g4⟩:=id da;have hl:kvs.length=vs.length:=rel.length;have I2:=I1.freeze (t':=s1.toks) hd g1;refine wpAny_pyIter_dict (knd:=zX X.prog X.w) hS da ?_;refine⟨s1.heap.objs.size,[s1.heap.objs.size],_,_,_,rfl,I2.kept (t':=s1.toks) fun b o e=>Heap.get?_push_of_some _ e,Xa o d _ kvs es ep g3,⟨_,Heap.get?_push_size _ rfl,rfl,by rw[hl]; rfl⟩,fun b hb=>?_,q o (I1.nf hd)⟩
 have e:b=s1.heap.objs.size:=by simpa using hb
 subst e;exact I2.fpOk (Nat.le_refl _) (I2.hok.fresh (Nat.le_refl _))
end
end L2
namespace PySem.W
open PySem PySem.Calls PyProof.Rows PyProof.V PySem.Spec
def RawD (h:Heap)(d:Addr)(es:Array DictEntry)(ep:Nat):Prop:=∃o,h.get? d=some o/\o.ExactDict/\o.data=.dict es ep
theorem RawD.at {h h':Heap}{d:Addr}{es:Array DictEntry}{ep:Nat}(x:RawD h d es ep)(k:∀o,h.get? d=some o->h'.get? d=some o):RawD h' d es ep:=let ⟨o,e,r⟩:=x; ⟨o,k o e,r⟩
abbrev RIt (h:Heap)(it d:Addr)(i n ep:Nat)(x0 ok ov:Value)(f:Bool):Prop:=h.get? it=some { cls:=.type "dict_itemiterator",dict:=none,data:=.fields #[x0,.bool f,.ref d,.int i 0,.int n 0,.int ep 0,ok,ov],slots:=#[] }
def RSt (h:Heap)(it d S:Addr)(i n ep:Nat):Prop:=∃x0 ok ov f,RIt h it d i n ep x0 ok ov f/\((x0=.none/\f=false)\/∃a oa,x0=rawInt (a:Nat)/\h.get? a=some oa/\a≠it/\a≠S)
theorem RSt.keep {h h':Heap}{it d S:Addr}{i n ep:Nat}(x:RSt h it d S i n ep)(k:∀b o,b≠S->h.get? b=some o->h'.get? b=some o)(ne:it≠S):RSt h' it d S i n ep:=by
 obtain⟨x0,ok,ov,f,e,r⟩:=x;refine⟨x0,ok,ov,f,k _ _ ne e,r.imp id ?_⟩;rintro⟨a,oa,r1,r2,r3,r4⟩;exact⟨a,oa,r1,k _ _ r4 r2,r3,r4⟩
section
variable {prog:Program}{w:World}{A:Around}{E:Value->Shared->Prop}{s:Shared}
theorem sS {it d S:Addr}{i n ep:Nat}{es:Array DictEntry}{Q:Option Value->Shared->Prop}(hh:A.handled=none)(hst:RSt s.heap it d S i n ep)(hS:S < s.heap.objs.size)(hD:RawD s.heap d es ep)(hn:es.size=n)
  (hItem:∀e h',es[i]?=some e->RSt h' it d S (i+1) n ep->h'.get? s.heap.objs.size=some { cls:=.type "tuple",data:=.seq #[e.key,e.val] }->h'.objs.size=s.heap.objs.size+1->(∀b o,b≠it->s.heap.get? b=some o->h'.get? b=some o)->Q (some (.ref s.heap.objs.size)) { s with heap:=h' })
  (hEnd:es[i]?=none->∀h',(∀b o,b≠it->s.heap.get? b=some o->h'.get? b=some o)->Q none { s with heap:=h' }):wpAny (model prog w) A (pyNext (.ref it)) Q E s:=by
 obtain⟨hp,g,dr,tk,os⟩:=s;obtain⟨od,d1,d2,d3⟩:=hD;obtain⟨x0,ok,ov,f,hit,hx0⟩:=hst;subst hn;have hT:Shared.TypeIs ⟨hp,g,dr,tk,os⟩ (.ref it) "dict_itemiterator":=⟨_,hit,rfl⟩;have hown:Builtin.Dict_items.ownsTuple "dict_itemiterator" = true:=by decide
 unfold pyNext;refine wpAny_bind (wpAny_attempt (wpAny_callSpecial?_slot (name:=Str.ofString "__next__") hT PySem.F.slot_dict_itemiterator_next (wpAny_call_entry PySem.F.slot_dict_itemiterator_next hT PySem.F.entry_dict_itemiterator_next (wpAny_bind (wpAny_pure ?_)) (PySem.F.args_dict_itemiterator_next_1 _))));refine wpAny_bind (wpAny_bind (wpAny_bind (wpAny_typeNameOfWhole_itemiter hT (wpAny_pure ?_))))
 refine wpAny_bind (wpAny_fieldsOf hit rfl ?_)
 (simp only[hown,if_true]; show wpAny _ _ (if (Value.ref d==Value.none)=true then _ else _) _ _ _; rw[if_neg (show ¬ ((Value.ref d==Value.none)=true) from Bool.false_ne_true)])
 refine wpAny_bind (wpAny_pure (wpAny_bind (wpAny_dictEntries d1 d3 ?_)))
 (rw[if_neg (by simp)]; refine wpAny_bind (wpAny_pure (wpAny_bind (wpAny_dictEpoch d1 d3 ?_))); rw[if_neg (by simp)]; refine wpAny_pure ?_)
 cases hx:es[i]? with
 |none =>
  (simp only[show ¬ ((i:Int) < 0) from by omega,if_false,Int.toNat_natCast,hx]; refine wpAny_bind (wpAny_bind (wpAny_typeNameOfWhole_itemiter hT (wpAny_pure ?_))))
  (show wpAny _ _ (setField (.ref it) 2 .none >>= _) _ _ _; refine wpAny_bind (wpAny_setField hit rfl (by simp) ?_))
  (show wpAny _ _ (newExc (.type "StopIteration") [] >>= _) _ _ _; refine wpAny_bind ?_; simp only[newExc,newTuple]; refine wpAny_bind (wpAny_newObj_type ?_ (by size_fits)))
  refine wpAny_bind (m:=firstArgMember _ _) (wpAny_of_eq (a:=Value.none) (by first | rfl | (simp only[firstArgMember]; rfl)) (wpAny_newObj_type ?_ (by size_fits)))
  (simp only[raiseNew]; refine wpAny_bind (wpAny_handled ?_); rw[show A.in1.handled=none from hh]; refine wpAny_bind (wpAny_pure (wpAny_throw ?_)))
  (refine wpAny_bind (wpAny_isInstance (T:="StopIteration") (b:=true) ⟨_,Heap.get?_push_size _ rfl,rfl⟩ isSubtype_stop ?_))
  exact wpAny_pure (hEnd hx _ fun b o nb e=>(((Heap.SameBut.update ..).extBut.push _).push _) b o nb e)
 |some e =>
  have hil:it < hp.objs.size:=Heap.lt_size hit
  (simp only[show ¬ ((i:Int) < 0) from by omega,if_false,Int.toNat_natCast,hx]; refine wpAny_bind (wpAny_bind (wpAny_typeNameOfWhole_itemiter hT (wpAny_pure ?_))))
  (refine wpAny_bind (wpAny_isOneOf_itemiter hT ?_); show wpAny _ _ (setField (.ref it) 3 (rawInt ((i:Int)+1)) >>= _) _ _ ⟨hp,g,dr,tk,os⟩)
  refine wpAny_bind (wpAny_setField_rec hit (by simp) fun h₁ he₁ hs₁=>?_);have hs₁:Heap.SameBut it hp h₁:=hs₁
  have he₁:RIt h₁ it d (i+1) es.size ep x0 ok ov f:=by
   have z:((i+1:Nat):Int)=(i:Int)+1:=by omega
   (unfold RIt; rw[z]; simpa [rawInt] using he₁)
  have hT₁:Shared.TypeIs ⟨h₁,g,dr,tk,os⟩ (.ref it) "dict_itemiterator":=⟨_,he₁,rfl⟩;refine wpAny_bind (wpAny_holding (wpAny_bind (wpAny_isOneOf_itemiter hT₁ (wpAny_bind (wpAny_isOneOf_itemiter hT₁ ?_)))))
  (show wpAny _ _ (Builtin.Dict_items.pairFromOwner (.ref it) 6 e.key e.val) _ _ ⟨h₁,g,dr,tk,os⟩; unfold Builtin.Dict_items.pairFromOwner; refine wpAny_bind (wpAny_newTuple ?_))
  obtain⟨h₂,eh₂⟩:∃h₂,h₂=h₁.push { cls:=.type "tuple",data:=.seq #[e.key,e.val] }:=⟨_,rfl⟩;have z1:h₁.objs.size=hp.objs.size:=hs₁.1;have he₂:RIt h₂ it d (i+1) es.size ep x0 ok ov f:=by rw[eh₂]; exact Heap.get?_push_of_some _ he₁
  have t2:h₂.get? hp.objs.size=some { cls:=.type "tuple",data:=.seq #[e.key,e.val] }:=by rw[eh₂,<- z1]; exact Heap.get?_push_size _ rfl
  have z2:h₂.objs.size=hp.objs.size+1:=by rw[eh₂,Heap.size_push,z1]
  have k2:∀b o,b≠it->hp.get? b=some o->h₂.get? b=some o:=fun b o nb q=>by rw[eh₂]; exact Heap.get?_push_of_some _ (hs₁.extBut b o nb q)
  have fin:∀h3:Heap,Heap.SameBut it h₂ h3->RSt h3 it d S (i+1) es.size ep->Q (some (.ref hp.objs.size)) ⟨h3,g,dr,tk,os⟩:=fun h3 sb r=>hItem e h3 hx r (sb.extBut _ _ (Nat.ne_of_gt hil) t2) (by show h3.objs.size=hp.objs.size+1; rw[sb.1,z2]) fun b o nb q=>sb.extBut b o nb (k2 b o nb q)
  (show wpAny _ _ (Builtin.Dict_items.ownedTupleIsFree (.ref it) >>= _) _ _ ⟨h₁.push { cls:=.type "tuple",data:=.seq #[e.key,e.val] },g,dr,tk,os⟩; rw[<- eh₂])
  clear eh₂ he₁ hT₁
  (refine wpAny_bind ?_; unfold Builtin.Dict_items.ownedTupleIsFree; refine wpAny_bind (wpAny_field he₂ rfl (x:=x0) rfl ?_))
  rcases hx0 with ⟨rfl,rfl⟩ | ⟨a,oa,rfl,ha,nai,naS⟩
  ·(refine wpAny_pure ?_; simp only[if_true])
   refine wpAny_bind (wpAny_field he₂ rfl (x:=ok) rfl (wpAny_bind (wpAny_field he₂ rfl (x:=ov) rfl ?_)));refine wpAny_bind (wpAny_setField_rec he₂ (by simp) fun h3 e3 s3=>?_);refine wpAny_bind (wpAny_setField_rec e3 (by simp) fun h4 e4 s4=>?_);refine wpAny_bind (wpAny_setField_rec e4 (by simp) fun h5 e5 s5=>?_);refine wpAny_bind (wpAny_setField_rec e5 (by simp) fun h6 e6 s6=>?_);have sb:Heap.SameBut it h₂ h6:=((Heap.SameBut.trans s3 s4).trans s5).trans s6
   have r6:RIt h6 it d (i+1) es.size ep (rawInt (h₁.objs.size:Nat)) e.key e.val false:=e6;have a6:h6.get? h₁.objs.size=some { cls:=.type "tuple",data:=.seq #[e.key,e.val] }:=by rw[z1]; exact sb.extBut _ _ (Nat.ne_of_gt hil) t2
   have rs:RSt h6 it d S (i+1) es.size ep:=⟨_,_,_,_,r6,.inr ⟨_,_,rfl,a6,by rw[z1]; exact Nat.ne_of_gt hil,by rw[z1]; exact Nat.ne_of_gt hS⟩⟩;have q6:=fin h6 sb rs;rw[<- z1] at q6;exact wpAny_bind (wpAny_letGo (wpAny_pure (wpAny_pure ⟨_,rfl,wpAny_pure q6⟩)))
  .have a2:h₂.get? a=some oa:=k2 a oa nai ha
   have rs:∀h3 fl,Heap.SameBut it h₂ h3->RIt h3 it d (i+1) es.size ep (rawInt (a:Nat)) ok ov fl->RSt h3 it d S (i+1) es.size ep:=fun h3 fl sb r=>⟨_,_,_,_,r,.inr ⟨a,oa,rfl,sb.extBut a oa nai a2,nai,naS⟩⟩
   (show wpAny _ _ (loadIfAlive ((a:Int).toNat) >>= _) _ _ _; rw[Int.toNat_natCast])
   (refine wpAny_bind (kdx_alive a2 ?_); simp only[Option.isNone_some,Bool.false_eq_true,if_false]; refine wpAny_bind (wpAny_field he₂ rfl (x:=.bool f) rfl ?_))
   cases f with
   |true =>
    (rw[if_neg (show ¬ ((Value.bool true != Value.bool true)=true) from Bool.false_ne_true)]; refine wpAny_pure ?_; simp only[Bool.false_eq_true,if_false])
    have q6:=fin h₂ (Heap.SameBut.refl _ _) (rs h₂ true (Heap.SameBut.refl _ _) he₂);rw[<- z1] at q6;exact wpAny_pure (wpAny_pure ⟨_,rfl,wpAny_pure q6⟩)
   |false =>
    (rw[if_pos (show(Value.bool false != Value.bool true)=true from rfl)]; refine wpAny_bind (wpAny_setField_rec he₂ (by simp) fun h3 e3 s3=>?_))
    have q6:=fin h3 s3 (rs h3 true s3 e3);rw[<- z1] at q6
    (refine wpAny_pure ?_; simp only[Bool.false_eq_true,if_false])
    exact wpAny_pure (wpAny_pure ⟨_,rfl,wpAny_pure q6⟩)
structure RawG (es:Array DictEntry)(lo:Addr)(h:Heap)(as:List Addr):Prop where
 rise:as.Pairwise (· < ·)
 above:∀a∈as,lo < a
 pairs:∀(j:Nat) (a:Addr),as[j]?=some a->∃e,es[j]?=some e/\h.get? a=some { cls:=.type "tuple",data:=.seq #[e.key,e.val] }
theorem RawG.there {es:Array DictEntry}{lo:Addr}{h:Heap}{as:List Addr}(g:RawG es lo h as){a:Addr}(ha:a∈as):a < h.objs.size:=by
 obtain⟨j,hj⟩:=List.mem_iff_getElem?.mp ha;obtain⟨e,_,q⟩:=g.pairs j a hj;exact Heap.lt_size q
theorem RawG.snoc {es:Array DictEntry}{lo:Addr}{h h':Heap}{as:List Addr}{e:DictEntry}{p:Addr}(g:RawG es lo h as)(k:∀b o,lo < b->h.get? b=some o->h'.get? b=some o)(hp:h.objs.size=p)(hlo:lo < p)(he:es[as.length]?=some e)(ht:h'.get? p=some { cls:=.type "tuple",data:=.seq #[e.key,e.val] }):RawG es lo h' (as++[p]) where
 rise:=List.pairwise_append.mpr ⟨g.rise,List.pairwise_singleton _ _,fun a ha b hb=>by
  cases List.mem_singleton.mp hb;rw[<- hp]
  exact g.there ha⟩
 above:=fun a ha=>by
  rcases List.mem_append.mp ha with ha | ha
  .exact g.above a ha
  .cases List.mem_singleton.mp ha; exact hlo
 pairs:=fun j a hj=>by
  by_cases h1:j < as.length
  .rw [List.getElem?_append_left h1] at hj
   obtain⟨e',q1,q2⟩:=g.pairs j a hj;exact⟨e',q1,k a _ (g.above a (List.mem_of_getElem? hj)) q2⟩
  .rw [List.getElem?_append_right (by omega)] at hj
   by_cases h2:j=as.length
   .subst h2
    rw[Nat.sub_self] at hj;cases hj;exact⟨e,he,ht⟩
   .have:j - as.length=(j - as.length - 1)+1:=by omega
    rw[this] at hj;cases hj
theorem ZD {R:Result->Shared->Prop}{S I d:Addr}{es:Array DictEntry}{ep:Nat}{h₁:Heap}{res:Value}(hh:A.handled=none)(hSI:S < I)(hSd:d≠S)(hId:d≠I)(hz:es.size<=sizeLine)
  (hR:∀h' tk acc c as,(∀b o,b≠S->b≠I->h₁.get? b=some o->h'.get? b=some o)->h'.get? S=some { cls:=.type "list",dict:=none,data:=.seq acc c,slots:=#[] }->as.length=es.size->RawG es I h' as->acc.toList=as.map Value.ref->R (.ok (.ret res)) { s with heap:=h',toks:=tk }) :
  ∀(k:Nat) (h:Heap) (tk c:Nat) (acc:Array Value) (as:List Addr),as.length+k=es.size->RSt h I d S as.length es.size ep->RawD h d es ep->(∀b o,b≠S->b≠I->h₁.get? b=some o->h.get? b=some o) ->
   h.get? S=some { cls:=.type "list",dict:=none,data:=.seq acc c,slots:=#[] }->acc.toList=as.map Value.ref->RawG es I h as->I < h.objs.size ->
   codeAny (model prog w) A (.builtin "list.extend.loop" ⟨[.ref S,.ref I,res],[]⟩) R { s with heap:=h,toks:=tk }:=by
 have ne:S≠I:=Nat.ne_of_lt hSI;intro k
 induction k with
 |zero =>
  intro h tk c acc as hk hst hD keep hS hacc hG hIs
  (refine codeAny_builtin PySem.F.entry_extend_loop ?_; rw[Around.under_plainId PySem.F.plain_extend_loop _])
  (show wpAny _ A.in1 (pyNext (.ref I) >>= _) _ _ _; refine wpAny_bind (sS (s:={ s with heap:=h,toks:=tk }) (A:=A.in1) hh hst (Heap.lt_size hS) hD rfl (fun e h' hx=>?_) fun _ h' kp=>?_))
  .rw [Array.getElem?_eq_none (by omega)] at hx; cases hx
  .exact wpAny_pure (hR h' tk acc c as (fun b o h1 h2 e=>kp b o h2 (keep b o h1 h2 e)) (kp S _ ne hS) (by omega) ⟨hG.rise,hG.above,fun j a hj=>let ⟨e,q1,q2⟩:=hG.pairs j a hj; ⟨e,q1,kp a _ (Nat.ne_of_gt (hG.above a (List.mem_of_getElem? hj))) q2⟩⟩ hacc)
 |succ k ih =>
  intro h tk c acc as hk hst hD keep hS hacc hG hIs;have hsz:acc.size=as.length:=by rw[<- Array.length_toList,hacc,List.length_map]
  (refine codeAny_builtin PySem.F.entry_extend_loop ?_; rw[Around.under_plainId PySem.F.plain_extend_loop _])
  (show wpAny _ A.in1 (pyNext (.ref I) >>= _) _ _ _; refine wpAny_bind (sS (s:={ s with heap:=h,toks:=tk }) (A:=A.in1) hh hst (Heap.lt_size hS) hD rfl (fun e h' hx hst' ht hz' kp=>?_) fun hx=>?_))
  .have hx:es[as.length]?=some e:=hx
   have ht:h'.get? h.objs.size=some { cls:=.type "tuple",data:=.seq #[e.key,e.val] }:=ht;have kp:∀b o,b≠I->h.get? b=some o->h'.get? b=some o:=kp;have hS':=kp S _ ne hS;have hSl:S < h.objs.size:=Heap.lt_size hS;have up:∀b o,b≠S->h'.get? b=some o->(h'.update S (Obj.mapSeq (·.push (Value.ref h.objs.size)))).get? b=some o:=fun b o nb e=>(Heap.get?_update_other _ _ (Ne.symm nb)).trans e;have up2:∀b o,b≠S->b≠I->h.get? b=some o->(h'.update S (Obj.mapSeq (·.push (Value.ref h.objs.size)))).get? b=some o:=fun b o n1 n2 e=>up b o n1 (kp b o n2 e)
   have ht':=up _ _ (Nat.ne_of_gt hSl) ht;have hG':RawG es I (h'.update S (Obj.mapSeq (·.push (Value.ref h.objs.size)))) (as++[h.objs.size]):=hG.snoc (fun b o lb e=>up2 b o (Nat.ne_of_gt (Nat.lt_trans hSI lb)) (Nat.ne_of_gt lb) e) rfl hIs hx ht';have hl:(as++[h.objs.size]).length=as.length+1:=by rw[List.length_append,List.length_singleton]
   have step:=ih _ tk _ (acc.push (Value.ref h.objs.size)) (as++[h.objs.size]) (by rw[hl]; omega) (by rw[hl]; exact hst'.keep up (Ne.symm ne)) (hD.at fun o e=>up2 d o hSd hId e) (fun b o h1 h2 e=>up2 b o h1 h2 (keep b o h1 h2 e)) (Heap.get?_update_self _ hS' rfl) (by rw[Array.toList_push,hacc,List.map_append]; rfl) hG' (Nat.lt_trans hIs (Heap.lt_size ht'))
   (show wpAny _ A.in1 (updateSeq S (·.push (Value.ref h.objs.size)) >>= _) _ _ _; refine wpAny_bind ?_)
   exact wpAny_updateSeq hS' rfl (wpAny_pure ⟨plainId_quiet PySem.F.plain_extend_loop _,step⟩) (by rw[hsz]; omega) (by show(acc.push (Value.ref h.objs.size)).size<=sizeLine+1; rw[Array.size_push,hsz]; omega)
  .have:as.length < es.size:=by omega
   rw[Array.getElem?_eq_getElem this] at hx;cases hx
end
section
variable {prog:Program}{w:World}{A:Around}{E:Value->Shared->Prop}{s:Shared}{v d:Addr}{es:Array DictEntry}{ep:Nat}
theorem ZE {Q:Value->Shared->Prop}(hv:s.heap.IsItemsView v d)(hD:RawD s.heap d es ep)(hQ:∀h':Heap,(∀b o,s.heap.get? b=some o->h'.get? b=some o)->h'.objs.size=s.heap.objs.size+1->RIt h' s.heap.objs.size d 0 es.size ep .none .none .none false->Q (.ref s.heap.objs.size) { s with heap:=h' }):
  wpAny (model prog w) A (pyIter (.ref v)) Q E s:=by
 obtain⟨ov,v1,v2,v3⟩:=id hv;obtain⟨od,d1,d2,d3⟩:=hD;have hown:Builtin.Dict_items.ownsTuple "dict_itemiterator" = true:=by decide
 refine wpAny_pyIter_slot hv.typeIs PySem.F.slot_dict_items_iter (wpAny_call_entry PySem.F.slot_dict_items_iter hv.typeIs PySem.F.entry_dict_items_iter ?_ (PySem.F.args_dict_items_iter_1 _))
 (unfold Builtin.«dict_items.__iter__»; refine wpAny_bind (wpAny_pure (wpAny_bind ?_)); unfold Builtin.Dict_items.dictOf; refine wpAny_bind (wpAny_field v1 v3 (x:=.ref d) rfl (wpAny_pure (wpAny_bind ?_))))
 (unfold Builtin.Dict_items.newIterator; refine wpAny_bind (wpAny_dictEntries d1 d3 (wpAny_bind (wpAny_dictEpoch d1 d3 ?_))); simp only[hown,if_true])
 refine wpAny_newObj_type (wpAny_pure ⟨_,rfl,"dict_itemiterator",_,⟨_,Heap.get?_push_size _ rfl,rfl⟩,PySem.F.slot_dict_itemiterator_next.lookup,?_⟩) (by simp only[sizeOk,Builtin.Dict_items.ownedTupleFields,List.size_toArray,List.length_append,List.length_cons,List.length_nil,sizeLine_eq]; omega)
 exact hQ _ (fun b o e=>Heap.get?_push_of_some _ e) (Heap.size_push _ _) (by
  have e:=Heap.get?_push_size (o:={ cls:=.type "dict_itemiterator",data:=.fields #[.none,.bool false,.ref d,.int 0 0,.int es.size 0,.int ep 0,.none,.none] }) s.heap rfl
  simpa [RIt,rawInt,Builtin.Dict_items.ownedTupleFields] using e)
theorem eE {R:Result->Shared->Prop}{S:Addr}{res:Value}{c₀:Nat}(hh:A.handled=none)(hv:s.heap.IsItemsView v d)(hD:RawD s.heap d es ep)(hSv:S≠v)(hSd:d≠S)(hS:s.heap.get? S=some { cls:=.type "list",data:=.seq #[] c₀ })(hz:es.size<=sizeLine)
  (hR:∀h' tk acc c as,(∀b o,b≠S->s.heap.get? b=some o->h'.get? b=some o)->h'.get? S=some { cls:=.type "list",dict:=none,data:=.seq acc c,slots:=#[] }->as.length=es.size->RawG es s.heap.objs.size h' as->acc.toList=as.map Value.ref->R (.ok (.ret res)) { s with heap:=h',toks:=tk }) :
  wpAny (model prog w) A.in1 (Builtin.List.listExtendWith (.ref S) (.ref v) res) (fun fin s'=>match fin with | .done f=>R (.ok f) s' | .again c'=>c'.quiet=true/\codeAny (model prog w) A c' R s') (fun e s'=>R (.error e) s') s:=by
 have hSI:S < s.heap.objs.size:=Heap.lt_size hS;have hdI:d < s.heap.objs.size:=let ⟨_,e,_⟩:=hD; Heap.lt_size e
 unfold Builtin.List.listExtendWith;refine wpAny_bind (wpAny_typeOf (T:="dict_items") hv.typeIs ?_);have f1:Builtin.List.listSameRef (.ref S) (.ref v)=false:=by simp[Builtin.List.listSameRef,hSv]
 have f2:(Value.type "dict_items" == Value.type "list")=false:=by decide
 have f3:(Value.type "dict_items" == Value.type "tuple")=false:=by decide
 (simp only[f1,f2,f3,Bool.or_false,Bool.false_eq_true,if_false]; refine wpAny_bind (ZE hv hD fun h1 k1 z1 r1=>?_))
 have key:∀(h:Heap) (c₁ tk:Nat),(∀b o,b≠S->h1.get? b=some o->h.get? b=some o)->h.get? S=some { cls:=.type "list",data:=.seq #[] c₁ }->codeAny (model prog w) A (.builtin "list.extend.loop" ⟨[.ref S,.ref s.heap.objs.size,res],[]⟩) R { s with heap:=h,toks:=tk }:=by
  intro h c₁ tk hk hS1;have hI:=hk _ _ (Nat.ne_of_gt hSI) r1;refine ZD (h₁:=s.heap) (s:=s) hh hSI hSd (Nat.ne_of_lt hdI) hz (fun h' tk' acc c as kk hS' hl hG hacc=>hR h' tk' acc c as (fun b o nb e=>kk b o nb (Nat.ne_of_lt (Heap.lt_size e)) e) hS' hl hG hacc) es.size h tk c₁ #[] [] (Nat.zero_add _) ⟨_,_,_,_,hI,.inl ⟨rfl,rfl⟩⟩ (hD.at fun o e=>hk d o hSd (k1 d o e)) (fun b o nb _ e=>hk b o nb (k1 b o e)) hS1 rfl ⟨.nil,(fun _ z=>nomatch z),(fun j a z=>by simp at z)⟩ (Heap.lt_size hI)
 have hS1:=k1 _ _ hS;refine wpAny_bind (wpAny_holding (kdx_hint (let ⟨o,ho,hc,_⟩:=hv; ⟨o,k1 _ _ ho,hc⟩) ?_));refine wpAny_ite_split (fun _=>?_) (fun _=>wpAny_pure ⟨plainId_quiet PySem.F.plain_extend_loop _,key _ c₀ _ (fun b o _ e=>e) hS1⟩)
 (refine wpAny_bind (wpAny_rule (wpAny_bind ?_)); show wpAny _ _ (updateSeq S (·.push .none) >>= fun _=>updateSeq S (·.pop)) _ _ _; refine wpAny_bind (wpAny_updateSeq hS1 rfl ?_))
 have hS2:=Heap.get?_update_self (Obj.mapSeq (·.push Value.none)) hS1 rfl;refine wpAny_updateSeq (hz:=by seq_fits) hS2 rfl (wpAny_pure ⟨plainId_quiet PySem.F.plain_extend_loop _,key _ _ _ (fun b o nb e=>?_) (Heap.get?_update_self (Obj.mapSeq (·.pop)) hS2 rfl)⟩);exact(Heap.get?_update_other _ _ (Ne.symm nb)).trans ((Heap.get?_update_other _ _ (Ne.symm nb)).trans e)
theorem RawG.low {lo lo':Addr}{h:Heap}{as:List Addr}(g:RawG es lo h as)(hl:lo'<=lo):RawG es lo' h as:=⟨g.rise,fun a ha=>Nat.lt_of_le_of_lt hl (g.above a ha),g.pairs⟩
theorem oS {R:List Value->Shared->Prop}(hh:A.handled=none)(hv:s.heap.IsItemsView v d)(hD:RawD s.heap d es ep)(hz:es.size<=sizeLine)
  (hR:∀(h':Heap) (tk:Nat) (as:List Addr),(∀b o,s.heap.get? b=some o->h'.get? b=some o)->as.length=es.size->RawG es s.heap.objs.size h' as->R (as.map Value.ref) { s with heap:=h',toks:=tk }):wpAny (model prog w) A (collect (.ref v)) R E s:=by
 have hvl:v < s.heap.objs.size:=let ⟨_,ho,_⟩:=hv; Heap.lt_size ho
 have hdl:d < s.heap.objs.size:=let ⟨_,e,_⟩:=hD; Heap.lt_size e
 (unfold collect; refine wpAny_bind (wpAny_runValue (codeAny_builtin entry_proto_collect' ?_)); rw[Around.under_plainId PySem.F.plain_proto_collect _])
 (show wpAny _ A.in1 (newList [] >>= fun l=>again (.builtin "list.__iadd__" ⟨[l,.ref v],[]⟩)) _ _ s; refine wpAny_bind (wpAny_newObj_type (wpAny_pure ⟨plainId_quiet PySem.F.plain_list_iadd _,codeAny_builtin entry_list_iadd' ?_⟩)))
 rw[Around.under_plainId PySem.F.plain_list_iadd _];have up:∀b o,s.heap.get? b=some o->(s.heap.push { cls:=.type "list",data:=.seq ([]:List Value).toArray }).get? b=some o:=fun b o e=>Heap.get?_push_of_some _ e;have hS1:(s.heap.push { cls:=.type "list",data:=.seq ([]:List Value).toArray }).get? s.heap.objs.size=some { cls:=.type "list",data:=.seq #[] }:=Heap.get?_push_size _ rfl;show wpAny _ A.in1 (Builtin.List.listExtendWith (.ref s.heap.objs.size) (.ref v) (.ref s.heap.objs.size)) _ _ _
 have key:=eE (prog:=prog) (w:=w) (A:=A) (s:={ s with heap:=s.heap.push { cls:=.type "list",data:=.seq ([]:List Value).toArray } }) (es:=es) (ep:=ep) (res:=.ref s.heap.objs.size)
  (R:=fun(q:Result) (s':Shared)=>∃(h':Heap) (tk:Nat) (acc:Array Value) (c:Nat) (as:List Addr),q=.ok (.ret (.ref s.heap.objs.size))/\s'={ s with heap:=h',toks:=tk }/\(∀b o,s.heap.get? b=some o->h'.get? b=some o)/\h'.get? s.heap.objs.size=some { cls:=.type "list",dict:=none,data:=.seq acc c,slots:=#[] }/\as.length=es.size/\RawG es s.heap.objs.size h' as/\acc.toList=as.map Value.ref)
  hh (let ⟨o,ho,x⟩:=hv; ⟨o,up _ _ ho,x⟩) (hD.at fun o e=>up d o e) (Nat.ne_of_gt hvl) (Nat.ne_of_lt hdl) hS1 hz fun h' tk acc c as hk hS' hl hG hacc=>⟨h',tk,acc,c,as,rfl,rfl,fun b o e=>hk b o (Nat.ne_of_lt (Heap.lt_size e)) (up b o e),hS',hl,hG.low (by show s.heap.objs.size<=(s.heap.push _).objs.size; rw[Heap.size_push]; exact Nat.le_succ _),hacc⟩
 refine wpAny_mono key (fun fin s' x=>?_) fun e s' x=>?_
 .have last:∀(h':Heap) (tk:Nat) (acc:Array Value) (c:Nat) (as:List Addr),(∀b o,s.heap.get? b=some o->h'.get? b=some o)->h'.get? s.heap.objs.size=some { cls:=.type "list",dict:=none,data:=.seq acc c,slots:=#[] }->as.length=es.size->RawG es s.heap.objs.size h' as->acc.toList=as.map Value.ref->R acc.toList { s with heap:=h',toks:=tk }:=fun h' tk acc c as y1 _ y3 y4 y5=>by
   rw[y5]; exact hR h' tk as y1 y3 y4
  cases fin with
  |done f =>
   obtain⟨h',tk,acc,c,as,e,rfl,y1,y2,y3,y4,y5⟩:=x;cases e
   (show wpAny _ A (load s.heap.objs.size >>= _) _ _ _; exact wpAny_bind (wpAny_load y2 (wpAny_pure (last h' tk acc c as y1 y2 y3 y4 y5))))
  |again c1 =>
   refine⟨x.1,codeAny_mono x.2 ?_⟩;rintro q s2 ⟨h',tk,acc,c,as,rfl,rfl,y1,y2,y3,y4,y5⟩
   (show wpAny _ A (load s.heap.objs.size >>= _) _ _ _; exact wpAny_bind (wpAny_load y2 (wpAny_pure (last h' tk acc c as y1 y2 y3 y4 y5))))
 .obtain ⟨_,_,_,_,_,z,_⟩:=x
  cases z
end
end PySem.W
namespace L2
open PySem PySem.W PyProof.Rows
section
variable {α:Type}{as:List Addr}{ps:List α}
theorem zip_at (nd:as.Nodup){j:Nat}{a:Addr}{p:α}(ha:as[j]?=some a)(hp:ps[j]?=some p):(as.zip ps).find? (fun q=>q.1==a)=some (a,p):=by
 induction as generalizing ps j with
 |nil=>cases ha
 |cons x as ih =>
  cases ps with
  |nil=>cases hp
  |cons y ps =>
   have nd:=List.nodup_cons.mp nd;rw[List.zip_cons_cons,List.find?_cons]
   cases j with
   |zero=>cases ha; cases hp; simp
   |succ j =>
    have ha:as[j]?=some a:=ha;rw[show(x==a)=false from beq_false_of_ne fun e=>nd.1 (e▸List.mem_of_getElem? ha)];exact ih nd.2 ha hp
theorem zip_of {b:Addr}{q:Addr×α}(h:(as.zip ps).find? (fun q=>q.1==b)=some q):∃j:Nat,as[j]?=some b/\ps[j]?=some q.2:=by
 have h0:=List.find?_some h;have h1:q.1=b:=eq_of_beq h0;obtain⟨j,hj⟩:=List.mem_iff_getElem?.mp (List.mem_of_find?_eq_some h);rw[List.getElem?_zip_eq_some] at hj;exact⟨j,by rw[<- h1]; exact hj.1,hj.2⟩
end
inductive TPs (H:Hp):List Addr->List (List Key×V)->Prop
 |nil:TPs H [] []
 |cons {a b:Addr} {k:List Key} {v:V} {as:List Addr} {kvs:List (List Key×V)} (h1:H a=some (.tup [.ref b,v])) (h2:H b=some (.tup (k.map kV))) (r:TPs H as kvs):TPs H (a::as) ((k,v)::kvs)
def mkT (as:List Addr)(ps:List (Addr×V)):Addr->Option (List V):=fun b=>((as.zip ps).find? fun p=>p.1==b).map fun p=>[.ref p.2.1,p.2.2]
theorem Zn {H:Hp}:∀{as:List Addr}{kvs:List (List Key×V)},as.length=kvs.length->(∀(j:Nat) (a:Addr) (p:List Key×V),as[j]?=some a->kvs[j]?=some p->∃b,H a=some (.tup [.ref b,p.2])/\H b=some (.tup (p.1.map kV)))->TPs H as kvs
 |[],[],_,_=>.nil
 |[],_::_,h,_=>nomatch h
 |_::_,[],h,_=>nomatch h
 |a::as,p::kvs,h,k=>let ⟨b,e1,e2⟩:=k 0 a p rfl rfl; .cons e1 e2 (Zn (Nat.succ.inj h) fun j a' p' h1 h2=>k (j+1) a' p' h1 h2)
theorem kt_raw {H:Hp}{kvs:List (List Key×V)}{xs:List (List Key×Addr×Value)}(r:KT H kvs xs):∃ps:List (Addr×V),ps.length=kvs.length/\∀j:Nat,∀p∈ps[j]?,∃k u,kvs[j]?=some (k,p.2)/\xs[j]?=some (k,p.1,u)/\H p.1=some (.tup (k.map kV))/\RelV p.2 u:=by
 induction r with
 |nil=>exact⟨[],rfl,fun j p h=>by cases h⟩
 |@cons p q l1 l2 h r ih =>
  obtain⟨ps,e,f⟩:=ih;obtain⟨k,v⟩:=p;obtain⟨k',b,u⟩:=q;obtain⟨z1,z2,z3⟩:=h;cases (show k=k' from z1);refine⟨(b,v)::ps,by rw[List.length_cons,List.length_cons,e],fun j p hp=>?_⟩
  cases j with
  |zero=>cases hp; exact⟨k,u,rfl,rfl,z2,z3⟩
  |succ j=>exact f j p hp
section
variable {X:Cx}
theorem eT {prog:Program}{w:World}(d:Addr)(hd:(d==sysModules)=false):MeetsIn prog w (Builtin.«dict.items» ⟨[.ref d],[]⟩) (fun _ R s=>s.TypeIs (.ref d) "dict"/\R (.ok (.ret (.ref s.heap.objs.size))) { s with heap:=s.heap.push { cls:=.type "dict_items",data:=.fields #[.ref d] } }) :=
 .of_wp fun A R s ⟨hT,h⟩=>by
  (unfold Builtin.«dict.items»; refine wpAny_bind ?_; unfold Builtin.Dict.noArgs; refine wpAny_bind (wpAny_notOrdered_dict hT ?_))
  (show wpAny _ _ (pure d) _ _ s; refine wpAny_pure ?_; show wpAny _ _ (Builtin.Dict.showsAll d >>= _) _ _ s; unfold Builtin.Dict.showsAll)
  (rw[if_neg (by rw[hd]; exact Bool.false_ne_true)]; exact wpAny_bind (wpAny_pure (wpAny_bind (wpAny_newObj_type (wpAny_pure ⟨_,rfl,h⟩)))))
def rItemsT:V->List V->Hp->VK->Prop:=fun x vs H Q=>∃d kvs,x=.ref d/\vs=[]/\H d=some (.dT kvs)/\∀v,H v=none->Q (.ref v) (upd H v (.ext (mV v d)))
theorem Xz:MtR X "dict.items" rItemsT:=by
 intro pins s σ H x xs v us Q I rx rv h;obtain⟨d,kvs,rfl,rfl,hd,q⟩:=h;cases (show v=Value.ref d from rx);cases rv;obtain⟨z,hS,ys,rel,dd⟩:=Kh I.hok hd;refine call_meetsIn F.slot_dict_items dd.typeIs F.entry_dict_items (F.args_dict_items_1 _) (eT d hS) ⟨dd.typeIs,?_⟩;refine⟨.ref s.heap.objs.size,_,I.laid (t':=s.toks) (o:=.ext (mV s.heap.objs.size d)) (fun b o e=>Heap.get?_push_of_some _ e) (Nat.le_refl _) ⟨⟨_,Heap.get?_push_size _ rfl,rfl,rfl⟩,⟨_,Heap.get?_push_size _ rfl⟩,?_⟩,rfl,q _ (I.hok.fresh (Nat.le_refl _))⟩
 rintro h1 h2 ⟨o,e1,e2⟩ e;exact⟨o,e o e1,e2⟩
theorem cR (hc:X.calm=true):CallR X (.builtin "sorted") (fun xs H Q=>∃v d kvs lt,xs=[.ref v]/\H v=some (.ext (mV v d))/\H d=some (.dT kvs)/\kvs.length < 64 /\
  ∀as H1,Same H H1->TPs H1 as kvs->(∀a∈as,H a=none)->(∀a,H a=none->H1 a≠none->a∈as)->Srt X H1 (List.map V.ref as) lt/\∀p,H1 p=none->Q (.ref p) (upd H1 p (.lst (lG lt (List.map V.ref as))))):=by
 intro pins s σ H xs us Q I r h;obtain⟨v,d,kvs,lt,rfl,hv,hd,h64,hq⟩:=h;obtain⟨u,rfl,ru⟩:=r.one;cases ru;obtain⟨z,hS,ys,rel,dd⟩:=Kh I.hok hd;obtain⟨hview,_,_⟩:=(show ObjOk X.prog X.w H s.heap v (.ext (mV v d)) from I.hok v _ hv);obtain⟨od,es,ep,d1,d2,d3,d4,_,_⟩:=dd;obtain⟨ps,pl,pf⟩:=kt_raw rel;have hl:kvs.length=ys.length:=Paired.length rel;have hes:es.size=kvs.length:=by rw[size_of_entries d4,hl]
 refine Calls.call_function_entry kind_sorted plain_sorted entry_sorted (args_sorted1 _) (?_:wpAny _ _ (Builtin.«sorted» _) _ _ _);unfold Builtin.«sorted»;refine wpAny_bind (m:=checkCount "sorted" 1 1 _) (wpAny_pure (wpAny_bind (oS (by simp[I.ok.hd hc]) hview ⟨od,d1,d2,d3⟩ (by rw[hes]; exact z) fun h' tk as keep hlen G=>?_)));have nd:as.Nodup:=G.rise.imp fun h=>Nat.ne_of_lt h;have hlen':as.length=kvs.length:=hlen.trans hes
 have up:∀a∈as,s.heap.objs.size<=a:=fun a ha=>Nat.le_of_lt (G.above a ha)
 have inv:∀b xs,mkT as ps b=some xs->∃(j:Nat) (p:Addr×V),as[j]?=some b/\ps[j]?=some p/\xs=[.ref p.1,p.2]:=fun b xs e=>by
  unfold mkT at e
  cases y:(as.zip ps).find? fun p=>p.1==b with
  |none=>rw[y] at e; cases e
  |some q =>
   rw[y] at e;cases e;obtain⟨j,e1,e2⟩:=zip_of y;exact⟨j,q.2,e1,e2,rfl⟩
 have I1:Inv X pins σ (uH H (mkT as ps)) { s with heap:=h',toks:=tk }:=I.tups keep fun b xs e=>by
  obtain⟨j,p,e1,e2,rfl⟩:=inv b xs e;obtain⟨k,u,f1,f2,f3,f4⟩:=pf j p e2;obtain⟨en,g1,g2⟩:=G.pairs j b e1;have g3:es[j]?=some (entryOfKey (tupleKind (zX X.prog X.w)) (k,p.1,u)):=by rw[entry_at d4,f2]; rfl
  rw[g3] at g1;cases g1;exact⟨up b (List.mem_of_getElem? e1),by show 2<=sizeLine; decide,[.ref p.1,u],.cons rfl (.cons f4 .nil),⟨_,g2,rfl,⟨_,rfl⟩,rfl⟩⟩
 have fr:∀b xs,mkT as ps b=some xs->H b=none:=fun b xs e=>by
  obtain⟨j,p,e1,_⟩:=inv b xs e;exact I.hok.fresh (up b (List.mem_of_getElem? e1))
 obtain⟨hs,q⟩:=hq as (uH H (mkT as ps)) (fun b o e=>sJ fr e) (Zn hlen' fun j a p h1 h2=>by
   obtain⟨p',hp'⟩:∃p',ps[j]?=some p':=⟨ps[j]'(by rw[pl]; exact(List.getElem?_eq_some_iff.1 h2).1),List.getElem?_eq_getElem _⟩;obtain⟨k,u,f1,f2,f3,f4⟩:=pf j p' hp';rw[h2] at f1;cases f1
   exact⟨p'.1,yF (by unfold mkT; rw[zip_at nd h1 hp']; rfl),sJ fr f3⟩) (fun a ha=>I.hok.fresh (up a ha)) fun a n1 n2=>by
  cases y:mkT as ps a with
  |none=>rw[yY y] at n2; exact absurd n1 n2
  |some xs=>obtain⟨j,p,e1,_⟩:=inv a xs y; exact List.mem_of_getElem? e1
 have rv:Vals (as.map V.ref) (as.map Value.ref):=by
  clear nd hlen' up I1 fr hs q hlen G hq inv
  induction as with
  |nil=>exact .nil
  |cons a as ih=>exact .cons rfl ih
 exact aF (Nat.le_refl _) I1 rv (by rw[List.length_map]; omega) hs fun p s' hp I'=>⟨_,rfl,.ref p,_,I',rfl,q p hp⟩
end
end L2
namespace L2
open PySem PySem.W PySem.Spec PyProof.Rows
section
variable {X:Cx}
def cntK (k:Key)(ks:List Key):Nat:=ks.countP fun j=>decide (j=k)
end
end L2
namespace CL
open PySem PySem.Spec L2
open PyProof.Rows hiding St
inductive PV where
 |non | bl (b:Bool) | int (i:Int) | str (x:Str) | ty (n:String) | tup (xs:List PV) | kt (xs:List PV) | fz (xs:List PV) | vw (d:Addr) | ref (a:Addr)
def imm:HO->Bool
 |.tup _=>true
 |.frz _ (.dK _)=>false
 |.frz _ (.dT _)=>false
 |.frz _ _=>true
 |.ext _=>true
 |_=>false
def Imm (H H':Hp):Prop:=∀a o,imm o=true->H a=some o->H' a=some o
theorem Imm.new {H:Hp}{p:Addr}(hp:H p=none)(o:HO):Imm H (upd H p o):=fun a u _ e=>by
 rw[lQ (iZ e hp)]; exact e
theorem Imm.mut {H:Hp}{p:Addr}{u:HO}(hp:H p=some u)(hu:imm u=false)(o:HO):Imm H (upd H p o):=fun a v i e=>by
 have:a≠p:=by
  intro z; subst z; rw[hp] at e; cases e; rw[hu] at i; cases i
 rw[lQ this]; exact e
def Fz (K:PySem.W.Frag)(H:Hp)(a:Addr)(xs:List V):Prop :=
 (∃o,H a=some (.frz o (.lst xs))) \/
  ∃(o:Obj) (its:Array Value) (n:Nat),K.lookup a=some o/\o.cls=.type "list"/\o.dict=none/\o.data=.seq its n/\its.size<=sizeLine/\Vals xs its.toList
theorem Fz.sq {K:PySem.W.Frag}{H:Hp}{a:Addr}{xs:List V}(h:Fz K H a xs):SqL K H a xs:=by
 rcases h with ⟨o,h⟩ | h
 .exact .inl (.inr ⟨o,h⟩)
 .exact .inr h
theorem Fz.imm {K:PySem.W.Frag}{H H':Hp}{a:Addr}{xs:List V}(h:Fz K H a xs)(k:Imm H H'):Fz K H' a xs:=by
 rcases h with ⟨o,h⟩ | h
 .exact .inl ⟨o,k _ _ rfl h⟩
 .exact .inr h
theorem SqT.imm {K:PySem.W.Frag}{H H':Hp}{a:Addr}{xs:List V}(h:SqT K H a xs)(k:Imm H H'):SqT K H' a xs:=by
 rcases h with (h | ⟨o,h⟩) | h
 .exact .inl (.inl (k _ _ rfl h))
 .exact .inl (.inr ⟨o,k _ _ rfl h⟩)
 .exact .inr h
mutual
inductive Rep (K:PySem.W.Frag)(H:Hp):V->PV->Prop
 |non:Rep K H .non .non
 |bl (b:Bool):Rep K H (.bl b) (.bl b)
 |int (i:Int):Rep K H (.int i) (.int i)
 |str (x:Str):Rep K H (.str x) (.str x)
 |ty (n:String):Rep K H (.ty n) (.ty n)
 |ref (a:Addr):Rep K H (.ref a) (.ref a)
 |tup {a:Addr} {vs:List V} {ts:List PV} (h:H a=some (.tup vs)) (r:Reps K H vs ts):Rep K H (.ref a) (.tup ts)
 |kt {a:Addr} {vs:List V} {ts:List PV} (h:SqT K H a vs) (r:Reps K H vs ts):Rep K H (.ref a) (.kt ts)
 |fz {a:Addr} {vs:List V} {ts:List PV} (h:Fz K H a vs) (r:Reps K H vs ts):Rep K H (.ref a) (.fz ts)
 |vw {a d:Addr} (h:H a=some (.ext (mV a d))):Rep K H (.ref a) (.vw d)
inductive Reps (K:PySem.W.Frag)(H:Hp):List V->List PV->Prop
 |nil:Reps K H [] []
 |cons {v:V} {t:PV} {vs:List V} {ts:List PV} (h:Rep K H v t) (r:Reps K H vs ts):Reps K H (v::vs) (t::ts)
end
section
variable {K:PySem.W.Frag}{H H' H1 H2:Hp}
mutual
theorem Rep.imm {v:V}{t:PV}(k:Imm H H'):Rep K H v t->Rep K H' v t
 |.non=>.non
 |.bl b=>.bl b
 |.int i=>.int i
 |.str x=>.str x
 |.ty n=>.ty n
 |.ref a=>.ref a
 |.tup h r=>.tup (k _ _ rfl h) (Reps.imm k r)
 |.kt h r=>.kt (SqT.imm h k) (Reps.imm k r)
 |.fz h r=>.fz (Fz.imm h k) (Reps.imm k r)
 |.vw h=>.vw (k _ _ rfl h)
theorem Reps.imm {vs:List V}{ts:List PV}(k:Imm H H'):Reps K H vs ts->Reps K H' vs ts
 |.nil=>.nil
 |.cons h r=>.cons (Rep.imm k h) (Reps.imm k r)
end
theorem Reps.len {vs:List V}{ts:List PV}:Reps K H vs ts->vs.length=ts.length
 |.nil=>rfl
 |.cons _ r=>congrArg (· + 1) r.len
theorem Reps.get {vs:List V}{ts:List PV}{i:Nat}{t:PV}:Reps K H vs ts->ts[i]?=some t->∃v,vs[i]?=some v/\Rep K H v t
 |.nil,e=>by cases e
 |.cons h r,e=>by
  cases i with
  |zero=>cases e; exact⟨_,rfl,h⟩
  |succ i=>exact r.get (i:=i) e
theorem Reps.append {vs us:List V}{ts ss:List PV}:Reps K H vs ts->Reps K H us ss->Reps K H (vs++us) (ts++ss)
 |.nil,r=>r
 |.cons h t,r=>.cons h (t.append r)
theorem Reps.take {vs:List V}{ts:List PV}:∀(n:Nat),Reps K H vs ts->Reps K H (vs.take n) (ts.take n)
 |0,_=>.nil
 |_+1,.nil=>.nil
 |n+1,.cons h r=>.cons h (r.take n)
theorem Reps.drop {vs:List V}{ts:List PV}:∀(n:Nat),Reps K H vs ts->Reps K H (vs.drop n) (ts.drop n)
 |0,r=>r
 |_+1,.nil=>.nil
 |n+1,.cons _ r=>r.drop n
theorem Reps.set {vs:List V}{ts:List PV}{v:V}{t:PV}(h:Rep K H v t):∀(n:Nat),Reps K H vs ts->Reps K H (vs.set n v) (ts.set n t)
 |_,.nil=>.nil
 |0,.cons _ r=>.cons h r
 |n+1,.cons g r=>.cons g (r.set h n)
theorem Reps.reverse {vs:List V}{ts:List PV}(r:Reps K H vs ts):Reps K H vs.reverse ts.reverse:=by
 induction vs generalizing ts with
 |nil=>cases r; exact .nil
 |cons v vs ih =>
  cases r with
  |cons h r=>rw[List.reverse_cons,List.reverse_cons]; exact(ih r).append (.cons h .nil)
end
inductive CO where
 |lst (xs:List PV)
 |dK (kvs:List (Key×PV))
 |fK (kvs:List (Key×PV))
 |dT (kvs:List (List Key×PV))
 |fT (kvs:List (List Key×PV))
 |dP (kvs:List (List (List Key)×PV))
 |ins (c dx:Addr) (fs:List (Str×PV))
abbrev CH:=Addr->Option CO
def gQ (C:CH)(a:Addr)(o:CO):CH:=fun b=>if b=a then some o else C b
theorem jQ {C:CH}{a:Addr}{o:CO}:gQ C a o a=some o:=if_pos rfl
theorem wQ {C:CH}{a b:Addr}{o:CO}(h:b≠a):gQ C a o b=C b:=if_neg h
abbrev FP {κ:Type}(K:PySem.W.Frag)(H:Hp):List (κ×V)->List (κ×PV)->Prop:=Paired fun p q=>p.1=q.1/\Rep K H p.2 q.2
abbrev KP (K:PySem.W.Frag)(H:Hp):List (Key×V)->List (Key×PV)->Prop:=Paired fun p q=>p.1=q.1/\Rep K H p.2 q.2
def ORel (K:PySem.W.Frag)(H:Hp)(a:Addr):CO->Prop
 |.lst ts=>∃vs,H a=some (.lst vs)/\Reps K H vs ts
 |.dK kvs=>∃vs,H a=some (.dK vs)/\KP K H vs kvs
 |.fK kvs=>∃o vs,H a=some (.frz o (.dK vs))/\KP K H vs kvs
 |.dT kvs=>∃vs,H a=some (.dT vs)/\FP K H vs kvs
 |.fT kvs=>∃o vs,H a=some (.frz o (.dT vs))/\FP K H vs kvs
 |.dP kvs=>∃vs,H a=some (.dP vs)/\FP K H vs kvs
 |.ins c dx fs=>∃gs,H a=some (.ins c dx gs)/\FP K H gs fs
def HRel (K:PySem.W.Frag)(H:Hp)(C:CH):Prop:=∀a o,C a=some o->ORel K H a o
def still:Option CO->Bool
 |none=>true
 |some (.fK _)=>true
 |some (.fT _)=>true
 |_=>false
def Fw (H:Hp)(C:CH)(H':Hp)(C':CH):Prop:=∀a,still (C a)=true->H a≠none->C' a=C a/\H' a=H a
section
variable {K:PySem.W.Frag}{H H' H1 H2:Hp}{C C' C1 C2:CH}
theorem Fw.refl:Fw H C H C:=fun _ _ _=>⟨rfl,rfl⟩
theorem Fw.trans (f:Fw H C H1 C1)(g:Fw H1 C1 H2 C2):Fw H C H2 C2:=fun a h n=>by
 obtain⟨c,e⟩:=f a h n;obtain⟨c',e'⟩:=g a (by rw[c]; exact h) (by rw[e]; exact n);exact⟨c'.trans c,e'.trans e⟩
theorem ORel.mut {a:Addr}{o:CO}(h:ORel K H a o):∃u,H a=some u/\imm u=false:=by
 cases o with
 |lst ts=>obtain⟨vs,e,_⟩:=h; exact⟨_,e,rfl⟩
 |dK ts=>obtain⟨vs,e,_⟩:=h; exact⟨_,e,rfl⟩
 |fK ts=>obtain⟨o,vs,e,_⟩:=h; exact⟨_,e,rfl⟩
 |dT ts=>obtain⟨vs,e,_⟩:=h; exact⟨_,e,rfl⟩
 |fT ts=>obtain⟨o,vs,e,_⟩:=h; exact⟨_,e,rfl⟩
 |dP ts=>obtain⟨vs,e,_⟩:=h; exact⟨_,e,rfl⟩
 |ins c dx fs=>obtain⟨vs,e,_⟩:=h; exact⟨_,e,rfl⟩
theorem HRel.hid (h:HRel K H C){a:Addr}{o:HO}(i:imm o=true)(e:H a=some o):C a=none:=by
 cases c:C a with
 |none=>rfl
 |some u =>
  obtain⟨v,e',i'⟩:=(h a u c).mut;rw[e] at e'; cases e'; rw[i] at i'; cases i'
theorem HRel.fresh (h:HRel K H C){a:Addr}(e:H a=none):C a=none:=by
 cases c:C a with
 |none=>rfl
 |some u =>
  obtain⟨v,e',i'⟩:=(h a u c).mut;rw[e] at e'; cases e'
theorem Fw.imm (f:Fw H C H' C')(h:HRel K H C):Imm H H':=fun a o i e=>by
 rw[(f a (by rw[h.hid i e]; rfl) (by rw[e]; exact fun z=>nomatch z)).2]; exact e
theorem ORel.imm {a:Addr}{o:CO}(h:ORel K H a o)(k:Imm H H')(e:H' a=H a):ORel K H' a o:=by
 cases o with
 |lst ts=>obtain⟨vs,q,r⟩:=h; exact⟨vs,e.trans q,r.imm k⟩
 |dK ts=>obtain⟨vs,q,r⟩:=h; exact⟨vs,e.trans q,Paired.mapP r fun _ _ z=>⟨z.1,z.2.imm k⟩⟩
 |fK ts=>obtain⟨o,vs,q,r⟩:=h; exact⟨o,vs,e.trans q,Paired.mapP r fun _ _ z=>⟨z.1,z.2.imm k⟩⟩
 |dT ts=>obtain⟨vs,q,r⟩:=h; exact⟨vs,e.trans q,Paired.mapP r fun _ _ z=>⟨z.1,z.2.imm k⟩⟩
 |fT ts=>obtain⟨o,vs,q,r⟩:=h; exact⟨o,vs,e.trans q,Paired.mapP r fun _ _ z=>⟨z.1,z.2.imm k⟩⟩
 |dP ts=>obtain⟨vs,q,r⟩:=h; exact⟨vs,e.trans q,Paired.mapP r fun _ _ z=>⟨z.1,z.2.imm k⟩⟩
 |ins c dx fs=>obtain⟨vs,q,r⟩:=h; exact⟨vs,e.trans q,Paired.mapP r fun _ _ z=>⟨z.1,z.2.imm k⟩⟩
theorem HRel.new (h:HRel K H C){p:Addr}(hp:H p=none)(o:HO):HRel K (upd H p o) C:=fun a u c=>by
 obtain⟨v,e,_⟩:=(h a u c).mut;exact(h a u c).imm (Imm.new hp o) (lQ (iZ e hp))
theorem Fw.new {p:Addr}(hp:H p=none)(o:HO):Fw H C (upd H p o) C:=fun a c n=>⟨rfl,lQ fun z=>n (z▸hp)⟩
theorem HRel.lay (h:HRel K H C){p:Addr}(hp:H p=none){o:HO}{u:CO}(r:ORel K (upd H p o) p u):HRel K (upd H p o) (gQ C p u):=fun a v c=>by
 by_cases e:a=p
 .subst e; rw[jQ] at c; cases c; exact r
 .rw [wQ e] at c; exact h.new hp o a v c
theorem Fw.lay {p:Addr}(hp:H p=none)(o:HO)(u:CO):Fw H C (upd H p o) (gQ C p u):=fun a c n=>by
 have e:a≠p:=fun z=>n (z▸hp);exact⟨wQ e,lQ e⟩
theorem HRel.put (h:HRel K H C){p:Addr}{o₀:HO}(hp:H p=some o₀)(hi:imm o₀=false){o:HO}{u:CO}(r:ORel K (upd H p o) p u):HRel K (upd H p o) (gQ C p u):=fun a v c=>by
 by_cases e:a=p
 .subst e; rw[jQ] at c; cases c; exact r
 .rw [wQ e] at c; exact(h a v c).imm (Imm.mut hp hi o) (lQ e)
theorem Fw.put {p:Addr}{u₀:CO}(hp:C p=some u₀)(o:HO)(u:CO)(hs:still (some u₀)=false:=by rfl):Fw H C (upd H p o) (gQ C p u):=fun a c n=>by
 have e:a≠p:=fun z=>by subst z; rw[hp,hs] at c; cases c
 exact⟨wQ e,lQ e⟩
end
abbrev CSt:=List (Option PV)
abbrev K1:=PV->CH->Prop
def RepO (K:PySem.W.Frag)(H:Hp):Option V->Option PV->Prop
 |_,none=>True
 |some v,some t=>Rep K H v t
 |none,some _=>False
def SRel (K:PySem.W.Frag)(H:Hp):St->CSt->Prop:=Paired (RepO K H)
section
variable {K:PySem.W.Frag}{H H':Hp}{C C':CH}
theorem RepO.imm {v:Option V}{t:Option PV}(k:Imm H H')(h:RepO K H v t):RepO K H' v t:=by
 cases t with
 |none=>cases v<;>trivial
 |some t=>cases v with
  |none=>exact h
  |some v=>exact Rep.imm k h
theorem SRel.imm {σ:St}{ρ:CSt}(s:SRel K H σ ρ)(k:Imm H H'):SRel K H' σ ρ:=Paired.mapP s fun _ _=>RepO.imm k
theorem SRel.get {σ:St}{ρ:CSt}{i:Nat}{t:PV}(s:SRel K H σ ρ)(e:ρ[i]?=some (some t)):∃v,σ[i]?=some (some v)/\Rep K H v t:=by
 induction s generalizing i with
 |nil=>cases e
 |@cons a b l₁ l₂ h r ih =>
  cases i with
  |zero =>
   cases e
   cases a with
   |none=>exact h.elim
   |some v=>exact⟨v,rfl,h⟩
  |succ i=>exact ih (i:=i) e
theorem SRel.set {σ:St}{ρ:CSt}{v:V}{t:PV}(s:SRel K H σ ρ)(h:Rep K H v t)(i:Nat):SRel K H (σ.set i (some v)) (ρ.set i (some t)):=by
 induction s generalizing i with
 |nil=>exact .nil
 |cons h' r ih =>
  cases i with
  |zero=>exact .cons h r
  |succ i=>exact .cons h' (ih i)
end
def zJ {α β:Type}(K:PySem.W.Frag)(rel:Hp->α->β->Prop)(c:CSt->CH->(β->CH->Prop)->Prop):St->Hp->(α->Hp->Prop)->Prop:=fun σ H Q =>
 ∃ρ C R,SRel K H σ ρ/\HRel K H C/\c ρ C R/\∀v H' t C',R t C'->rel H' v t->HRel K H' C'->Fw H C H' C'->Q v H'
abbrev TCE:=CSt->CH->K1->Prop
abbrev TCT:=CSt->CH->(Bool->CH->Prop)->Prop
abbrev TCA:=CSt->CH->(List PV->CH->Prop)->Prop
abbrev qF:Hp->Bool->Bool->Prop:=fun _ a b=>a=b
structure sW where
 nx:CSt->CH->Prop
 rt:K1
 bk:CSt->CH->Prop:=fun _ _=>False
 ct:CSt->CH->Prop:=fun _ _=>False
abbrev TCS:=sW->CSt->CH->Prop
structure ERel (K:PySem.W.Frag)(H:Hp)(C:CH)(E:sW)(D:fE):Prop where
 nx:∀σ' H' ρ' C',E.nx ρ' C'->SRel K H' σ' ρ'->HRel K H' C'->Fw H C H' C'->D.nx σ' H'
 rt:∀v H' t C',E.rt t C'->Rep K H' v t->HRel K H' C'->Fw H C H' C'->D.rt v H'
 bk:∀σ' H' ρ' C',E.bk ρ' C'->SRel K H' σ' ρ'->HRel K H' C'->Fw H C H' C'->D.bk σ' H'
 ct:∀σ' H' ρ' C',E.ct ρ' C'->SRel K H' σ' ρ'->HRel K H' C'->Fw H C H' C'->D.ct σ' H'
theorem ERel.fw {K:PySem.W.Frag}{H H1:Hp}{C C1:CH}{E:sW}{D:fE}(e:ERel K H C E D)(f:Fw H C H1 C1):ERel K H1 C1 E D :=
 ⟨fun σ' H' ρ' C' h s r g=>e.nx σ' H' ρ' C' h s r (f.trans g),fun v H' t C' h s r g=>e.rt v H' t C' h s r (f.trans g),fun σ' H' ρ' C' h s r g=>e.bk σ' H' ρ' C' h s r (f.trans g),fun σ' H' ρ' C' h s r g=>e.ct σ' H' ρ' C' h s r (f.trans g)⟩
def Jp (K:PySem.W.Frag)(c:TCS):TS:=fun D σ H=>∃ρ C E,SRel K H σ ρ/\HRel K H C/\c E ρ C/\ERel K H C E D
structure CE (X:Cx)(e:Expr)(c:TCE):Prop where
 h:JE X e (zJ X.K (Rep X.K) c)
structure CT (X:Cx)(e:Expr)(c:TCT):Prop where
 h:JT X e (zJ X.K qF c)
structure CW (X:Cx)(e:Expr)(c:TCT):Prop where
 h:JW X e (zJ X.K qF c)
structure CA (X:Cx)(es:List Expr)(c:TCA):Prop where
 h:JA X es (zJ X.K (Reps X.K) c)
structure CS (X:Cx)(st:Stmt)(c:TCS):Prop where
 h:JS X st (Jp X.K c)
structure CB (X:Cx)(st:List Stmt)(c:TCS):Prop where
 h:JB X st (Jp X.K c)
section
variable {X:Cx}{a b c e o i:Expr}{es:List Expr}{pos:Pos}{rest:List Expr}{st:Stmt}{sts:List Stmt}
theorem JE.weak {t t':TE}(h:JE X e t)(w:∀σ H Q,t' σ H Q->t σ H Q):JE X e t':=⟨fun pins s σ H Q I q=>h.h pins s σ H Q I (w σ H Q q)⟩
theorem JT.weak {t t':TT}(h:JT X e t)(w:∀σ H Q,t' σ H Q->t σ H Q):JT X e t':=⟨fun pins s σ H Q I q=>h.h pins s σ H Q I (w σ H Q q)⟩
theorem JW.weak {t t':TT}(h:JW X e t)(w:∀σ H Q,t' σ H Q->t σ H Q):JW X e t':=⟨fun wh pins s σ H Q I q=>h.h wh pins s σ H Q I (w σ H Q q)⟩
theorem JA.weak {t t':TA}(h:JA X es t)(w:∀σ H Q,t' σ H Q->t σ H Q):JA X es t':=⟨fun p pins s σ H Q I q=>h.h p pins s σ H Q I (w σ H Q q)⟩
theorem JS.weak {t t':TS}(h:JS X st t)(w:∀D σ H,t' D σ H->t D σ H):JS X st t':=⟨fun pins s σ H D I q=>h.h pins s σ H D I (w D σ H q)⟩
theorem JB.weak {t t':TS}(h:JB X sts t)(w:∀D σ H,t' D σ H->t D σ H):JB X sts t':=⟨fun pins s σ H D I q=>h.h pins s σ H D I (w D σ H q)⟩
def oZ (i:Nat):TCE:=fun ρ C Q=>match ρ[i]? with
 |some (some t)=>Q t C
 |_=>False
def cC (t:PV):TCE:=fun _ C Q=>Q t C
theorem cv (i:Nat){x:Str}{pos:Pos}(hN:X.N[i]?=some x:=by rfl)(hv:Vis X.env.scope x:=by first | exact Or.inl rfl | exact Or.inr (Or.inl rfl) | exact Or.inr (Or.inr rfl))(hd:(x==("__debug__" : Str))=false:=by decide)
  (hcd:(x==("__classdict__" : Str))=false:=by decide):CE X (.Name x pos) (oZ i):=⟨JE.weak (jv i hN hv hd hcd) fun σ H Q ⟨ρ,C,R,s,h,q,f⟩=>by
 unfold oZ at q
 split at q
 .next t e =>
  obtain⟨v,ev,r⟩:=s.get e;exact⟨v,ev,f v H t C q r h Fw.refl⟩
 .exact q.elim⟩
theorem X0 {v:V}{t:PV}(h:JE X e (tC v))(r:∀H,Rep X.K H v t):CE X e (cC t):=⟨JE.weak h fun σ H Q ⟨ρ,C,R,s,h,q,f⟩=>f v H t C q (r H) h Fw.refl⟩
theorem zQ {i j pos}:CE X (.Constant (.int i) j pos) (cC (.int i)):=X0 je_int fun _=>.int i
theorem KG {b j pos}:CE X (.Constant (.bool b) j pos) (cC (.bl b)):=X0 je_bl fun _=>.bl b
theorem qU {j pos}:CE X (.Constant .none j pos) (cC .non):=X0 je_non fun _=>.non
theorem vQ {x j pos}:CE X (.Constant (.str x) j pos) (cC (.str x)):=X0 je_str fun _=>.str x
theorem aD {x:Str}{v:V}{u:Value}{t:PV}(hg:Gl X x)(hm:X.mg x=some u)(r:RelV v u)(q:∀H,Rep X.K H v t)(hd:(x==("__debug__" : Str))=false:=by decide):CE X (.Name x pos) (cC t):=X0 (je_glob hg hm r hd) q
theorem eO {x:Str}{n:String}(hg:Gl X x)(hm:X.mg x=none)(hv:bootBuiltins x=some (.type n))(hn:x ≠ "__name__":=by decide)(hd:(x==("__debug__" : Str))=false:=by decide):CE X (.Name x pos) (cC (.ty n)):=X0 (je_bltn (v:=.ty n) hg hm hv rfl hn hd) fun _=>.ty n
abbrev R2C:=PV->PV->CH->K1->Prop
def Cop (K:PySem.W.Frag)(r:R2)(cr:R2C):Prop:=∀x y px py H C Q R,Rep K H x px->Rep K H y py->HRel K H C->cr px py C R->(∀v H' t C',R t C'->Rep K H' v t->HRel K H' C'->Fw H C H' C'->Q v H')->r x y H Q
def cOp (cr:R2C)(ca cb:TCE):TCE:=fun ρ C Q=>ca ρ C fun x C1=>cb ρ C1 fun y C2=>cr x y C2 Q
theorem cD {K:PySem.W.Frag}{r:R2}{cr:R2C}{ca cb:TCE}(hr:Cop K r cr){σ:St}{H:Hp}{Q:VK}(h:zJ K (Rep K) (cOp cr ca cb) σ H Q):tOp r (zJ K (Rep K) ca) (zJ K (Rep K) cb) σ H Q:=by
 obtain⟨ρ,C,R,s,h,q,f⟩:=h
 exact⟨ρ,C,_,s,h,q,fun x H1 px C1 q1 rx h1 f1=>⟨ρ,C1,_,s.imm (f1.imm h),h1,q1,fun y H2 py C2 q2 ry h2 f2 =>
  hr x y px py H2 C2 Q R (rx.imm (f2.imm h1)) ry h2 q2 fun v H' t C' q' r' h' f'=>f v H' t C' q' r' h' (f1.trans (f2.trans f'))⟩⟩
theorem rQ {op:Operator}{r:R2}{cr:R2C}{ca cb:TCE}(ho:OpR X (binaryOp op) r)(hr:Cop X.K r cr)(ha:CE X a ca)(hb:CE X b cb):CE X (.BinOp a op b pos) (cOp cr ca cb):=⟨JE.weak (je_op ho ha.h hb.h) fun _ _ _ h=>cD hr h⟩
theorem zU {op:CmpOp}{r:R2}{cr:R2C}{ca cb:TCE}(ho:OpR X (compareOp op) r)(hr:Cop X.K r cr)(ha:CE X a ca)(hb:CE X b cb)(hm:behindInMarks op b=false):CE X (.Compare a [op] [b] pos) (cOp cr ca cb):=⟨JE.weak (je_cmp ho ha.h hb.h hm) fun _ _ _ h=>cD hr h⟩
def vT (k:Bool->CH->Prop):PV->CH->Prop
 |.bl b,C=>k b C
 |_,_=>False
def qE (c:TCE):TCT:=fun ρ C Q=>c ρ C (vT Q)
theorem KO {K:PySem.W.Frag}{H:Hp}{C:CH}{v:V}{t:PV}{Q:Bool->CH->Prop}(q:vT Q t C)(r:Rep K H v t):∃b,t=.bl b/\v=.bl b/\Q b C:=by
 cases t with
 |bl b=>cases r; exact⟨b,rfl,rfl,q⟩
 |_=>exact q.elim
theorem XD {K:PySem.W.Frag}{c:TCE}{σ:St}{H:Hp}{Q:Bool->Hp->Prop}(h:zJ K qF (qE c) σ H Q):Zo (zJ K (Rep K) c) σ H Q:=by
 obtain⟨ρ,C,R,s,h,q,f⟩:=h
 exact⟨ρ,C,_,s,h,q,fun x H1 px C1 q1 rx h1 f1=>by
  obtain⟨b,rfl,rfl,q2⟩:=KO q1 rx
  exact⟨b,rfl,f b H1 b C1 q2 rfl h1 f1⟩⟩
theorem bI {op:CmpOp}{r:R2}{cr:R2C}{ca cb:TCE}(ho:OpR X (compareOp op) r)(hr:Cop X.K r cr)(ha:CE X a ca)(hb:CE X b cb)(hm:behindInMarks op b=false):CT X (.Compare a [op] [b] pos) (qE (cOp cr ca cb)) :=
 ⟨JT.weak (jt_cmp ho ha.h hb.h hm) fun σ H Q h=>by
  obtain⟨ρ,C,R,s,h,q,f⟩:=h;refine cD hr (Q:=fun x H'=>IBl Q x H') ⟨ρ,C,_,s,h,q,fun x H1 px C1 q1 rx h1 f1=>?_⟩;obtain⟨b,rfl,rfl,q2⟩:=KO q1 rx
  exact⟨b,rfl,f b H1 b C1 q2 rfl h1 f1⟩⟩
theorem pP {c:TCE}(h:CE X e c)(he:zF e=true:=by rfl):CT X e (qE c):=⟨JT.weak (jt_val h.h he) fun _ _ _ h=>XD h⟩
def cUn (cr:PV->CH->K1->Prop)(ca:TCE):TCE:=fun ρ C Q=>ca ρ C fun x C1=>cr x C1 Q
def Cun (K:PySem.W.Frag)(r:V->Hp->VK->Prop)(cr:PV->CH->K1->Prop):Prop:=∀x px H C Q R,Rep K H x px->HRel K H C->cr px C R->(∀v H' t C',R t C'->Rep K H' v t->HRel K H' C'->Fw H C H' C'->Q v H')->r x H Q
theorem tO {op:UnaryOp}{r:V->Hp->VK->Prop}{cr:PV->CH->K1->Prop}{ca:TCE}(ho:UnR X (unaryOp op) r)(hr:Cun X.K r cr)(ha:CE X a ca):CE X (.UnaryOp op a pos) (cUn cr ca):=⟨JE.weak (je_un ho ha.h) fun σ H Q ⟨ρ,C,R,s,h,q,f⟩ =>
 ⟨ρ,C,_,s,h,q,fun x H1 px C1 q1 rx h1 f1=>hr x px H1 C1 Q R rx h1 q1 fun v H' t C' q' r' h' f'=>f v H' t C' q' r' h' (f1.trans f')⟩⟩
def cAnd (t u:TCT):TCT:=fun ρ C Q=>t ρ C fun b C1=>if b=true then u ρ C1 Q else Q false C1
def cOr (t u:TCT):TCT:=fun ρ C Q=>t ρ C fun b C1=>if b=true then Q true C1 else u ρ C1 Q
def cNot (t:TCT):TCT:=fun ρ C Q=>t ρ C fun b C1=>Q (!b) C1
theorem cw_pt {t:TCT}(h:CW X e t):CT X e t:=⟨jw_pt h.h⟩
theorem cw_and1 {t:TCT}(h:CT X a t):CW X (.BoolOp .And [a] pos) t:=⟨jw_and1 h.h⟩
theorem cw_or1 {t:TCT}(h:CT X a t):CW X (.BoolOp .Or [a] pos) t:=⟨jw_or1 h.h⟩
theorem cw_and {t u:TCT}(ha:CT X a t)(hb:CW X (.BoolOp .And (b::rest) pos) u):CW X (.BoolOp .And (a::b::rest) pos) (cAnd t u):=⟨JW.weak (jw_and ha.h hb.h) fun σ H Q ⟨ρ,C,R,s,h,q,f⟩ =>
 ⟨ρ,C,_,s,h,q,fun x H1 y C1 q1 e h1 f1=>by
  cases e
  cases x with
  |true=>exact⟨ρ,C1,R,s.imm (f1.imm h),h1,q1,fun v H' t C' q' r' h' f'=>f v H' t C' q' r' h' (f1.trans f')⟩
  |false=>exact f false H1 false C1 q1 rfl h1 f1⟩⟩
theorem cw_or {t u:TCT}(ha:CT X a t)(hb:CW X (.BoolOp .Or (b::rest) pos) u):CW X (.BoolOp .Or (a::b::rest) pos) (cOr t u):=⟨JW.weak (jw_or ha.h hb.h) fun σ H Q ⟨ρ,C,R,s,h,q,f⟩ =>
 ⟨ρ,C,_,s,h,q,fun x H1 y C1 q1 e h1 f1=>by
  cases e
  cases x with
  |true=>exact f true H1 true C1 q1 rfl h1 f1
  |false=>exact⟨ρ,C1,R,s.imm (f1.imm h),h1,q1,fun v H' t C' q' r' h' f'=>f v H' t C' q' r' h' (f1.trans f')⟩⟩⟩
theorem ct_not {t:TCT}(ha:CT X a t):CT X (.UnaryOp .Not a pos) (cNot t):=⟨JT.weak (jt_not ha.h) fun σ H Q ⟨ρ,C,R,s,h,q,f⟩ =>
 ⟨ρ,C,_,s,h,q,fun x H1 y C1 q1 e h1 f1=>by cases e; exact f _ H1 _ C1 q1 rfl h1 f1⟩⟩
def cAndV (ca cb:TCE):TCE:=fun ρ C Q=>ca ρ C (vT fun b C1=>if b=true then cb ρ C1 Q else Q (.bl false) C1)
theorem ce_one {op}{c:TCE}(h:CE X a c):CE X (.BoolOp op [a] pos) c:=⟨je_one h.h⟩
theorem ce_and {ca cb:TCE}(ha:CE X a ca)(hb:CE X (.BoolOp .And (b::rest) pos) cb):CE X (.BoolOp .And (a::b::rest) pos) (cAndV ca cb):=⟨JE.weak (je_and ha.h hb.h) fun σ H Q ⟨ρ,C,R,s,h,q,f⟩ =>
 ⟨ρ,C,_,s,h,q,fun x H1 px C1 q1 rx h1 f1=>by
  obtain⟨b,rfl,rfl,q2⟩:=KO q1 rx;refine⟨b,rfl,?_⟩
  cases b with
  |true=>exact⟨ρ,C1,R,s.imm (f1.imm h),h1,q2,fun v H' t C' q' r' h' f'=>f v H' t C' q' r' h' (f1.trans f')⟩
  |false=>exact f _ H1 _ C1 q2 (.bl false) h1 f1⟩⟩
def cIf (t:TCT)(ca cb:TCE):TCE:=fun ρ C Q=>t ρ C fun b C1=>if b=true then ca ρ C1 Q else cb ρ C1 Q
theorem sN {t:TCT}{ca cb:TCE}(hc:CT X c t)(ha:CE X a ca)(hb:CE X b cb):CE X (.IfExp c a b pos) (cIf t ca cb):=⟨JE.weak (je_if hc.h ha.h hb.h) fun σ H Q ⟨ρ,C,R,s,h,q,f⟩ =>
 ⟨ρ,C,_,s,h,q,fun x H1 y C1 q1 e h1 f1=>by
  cases e
  cases x with
  |true=>exact⟨ρ,C1,R,s.imm (f1.imm h),h1,q1,fun v H' t C' q' r' h' f'=>f v H' t C' q' r' h' (f1.trans f')⟩
  |false=>exact⟨ρ,C1,R,s.imm (f1.imm h),h1,q1,fun v H' t C' q' r' h' f'=>f v H' t C' q' r' h' (f1.trans f')⟩⟩⟩
def nM:TCA:=fun _ C Q=>Q [] C
def fJ (ca:TCE)(cr:TCA):TCA:=fun ρ C Q=>ca ρ C fun x C1=>cr ρ C1 fun xs C2=>Q (x::xs) C2
theorem iX:CA X [] nM:=⟨JA.weak ja_nil fun σ H Q ⟨ρ,C,R,s,h,q,f⟩=>f [] H [] C q .nil h Fw.refl⟩
theorem qQ {ca:TCE}{cr:TCA}(ha:CE X e ca)(hr:CA X es cr)(hs:iQ e=true:=by rfl):CA X (e::es) (fJ ca cr):=⟨JA.weak (ja_cons ha.h hr.h hs) fun σ H Q ⟨ρ,C,R,s,h,q,f⟩ =>
 ⟨ρ,C,_,s,h,q,fun x H1 px C1 q1 rx h1 f1=>⟨ρ,C1,_,s.imm (f1.imm h),h1,q1,fun xs H2 ps C2 q2 rs h2 f2=>f (x::xs) H2 (px::ps) C2 q2 (.cons (rx.imm (f2.imm h1)) rs) h2 (f1.trans f2)⟩⟩⟩
def sI (ca:TCA):TCE:=fun ρ C Q=>ca ρ C fun xs C1=>xs.length<=sizeLine/\Q (.tup xs) C1
def cLst (ca:TCA):TCE:=fun ρ C Q=>ca ρ C fun xs C1=>xs.length<=sizeLine/\∀p,C1 p=none->Q (.ref p) (gQ C1 p (.lst xs))
theorem mQ {x1}{ca:TCA}(h:CA X es ca):CE X (.Tuple es x1 pos) (sI ca):=⟨JE.weak (je_tup h.h) fun σ H Q ⟨ρ,C,R,s,h,q,f⟩ =>
 ⟨ρ,C,_,s,h,q,fun xs H1 ps C1 q1 rs h1 f1=>⟨by rw[rs.len]; exact q1.1,fun p hp=>f (.ref p) _ (.tup ps) C1 q1.2 (.tup fQ (rs.imm (Imm.new hp _))) (h1.new hp _) (f1.trans (Fw.new hp _))⟩⟩⟩
theorem gX {ca:TCA}(h:CA X es ca):CE X (.List es pos) (cLst ca):=⟨JE.weak (je_lst h.h) fun σ H Q ⟨ρ,C,R,s,h,q,f⟩ =>
 ⟨ρ,C,_,s,h,q,fun xs H1 ps C1 q1 rs h1 f1=>⟨by rw[rs.len]; exact q1.1,fun p hp=>f (.ref p) _ (.ref p) _ (q1.2 p (h1.fresh hp)) (.ref p) (h1.lay hp ⟨xs,fQ,rs.imm (Imm.new hp _)⟩) (f1.trans (Fw.lay hp _ _))⟩⟩⟩
def cDNew:TCE:=fun _ C Q=>∀p,C p=none->Q (.ref p) (gQ C p (.dK []))
theorem dR:CE X (.Dict [] [] pos) cDNew:=⟨JE.weak JH fun σ H Q ⟨ρ,C,R,s,h,q,f⟩=>fun p hp=>f (.ref p) _ (.ref p) _ (q p (h.fresh hp)) (.ref p) (h.lay hp ⟨[],fQ,.nil⟩) (Fw.lay hp _ _)⟩
abbrev GC:=List PV->CH->K1->Prop
def spC (K:PySem.W.Frag)(G:GC):Sp:=fun vs H Q _=>∃ts C R,Reps K H vs ts/\HRel K H C/\G ts C R/\∀v H' t C',R t C'->Rep K H' v t->HRel K H' C'->Fw H C H' C'->Q v H'
def wD (G:GC)(ca:TCA):TCE:=fun ρ C Q=>ca ρ C fun xs C1=>G xs C1 Q
theorem ce_call {CX:CXT}{k:Nat}{f:Addr}{fd:FuncData}{ps:List Str}{G:GC}{E:XK}{x:Str}{p:Pos}{ca:TCA}(F:FnOk X.prog X.w X.K X.mg X.base CX k f fd ps (spC X.K G))(hr:Room k X.A)(hg:Gl X x)(hm:X.mg x=some (.ref f))(hk:PySem.W.keepIn X.K (.ref f)=true)(hb:Binds X.K fd ps [])(hx:gW CX X E)
  (ha:CA X (e::es) ca) (hdb:(x==("__debug__" : Str))=false:=by decide) (hs:iQ e=true:=by rfl) (hall:es.all iQ=true:=by rfl):CE X (.Call (.Name x p) (e::es) [] pos) (wD G ca) :=
 ⟨JE.weak (je_call (dvs:=[]) (E:=E) F hr hg hm hk hb .nil hx ha.h hdb hs hall) fun σ H Q ⟨ρ,C,R,s,h,q,f⟩ =>
  ⟨ρ,C,_,s,h,q,fun xs H1 ts C1 q1 rs h1 f1=>⟨ts,C1,R,by rw[List.append_nil]; exact rs,h1,q1,fun v H' t C' q' r' h' f'=>f v H' t C' q' r' h' (f1.trans f')⟩⟩⟩
def Cbi (K:PySem.W.Frag)(r:List V->Hp->VK->Prop)(cr:GC):Prop:=∀xs ps H C Q R,Reps K H xs ps->HRel K H C->cr ps C R->(∀v H' t C',R t C'->Rep K H' v t->HRel K H' C'->Fw H C H' C'->Q v H')->r xs H Q
theorem gZ {id:String}{r:List V->Hp->VK->Prop}{cr:GC}{x:Str}{p:Pos}{ca:TCA}(hc:CallR X (.builtin id) r)(hr:Cbi X.K r cr)(hg:Gl X x)(hm:X.mg x=none)(hv:bootBuiltins x=some (.builtin id))(ha:CA X (e::es) ca)(hn:x ≠ "__name__":=by decide)(hdb:(x==("__debug__" : Str))=false:=by decide)
  (hs:iQ e=true:=by rfl) (hall:es.all iQ=true:=by rfl):CE X (.Call (.Name x p) (e::es) [] pos) (wD cr ca):=⟨JE.weak (JJ hc hg hm hv ha.h hn hdb hs hall) fun σ H Q ⟨ρ,C,R,s,h,q,f⟩ =>
  ⟨ρ,C,_,s,h,q,fun xs H1 ts C1 q1 rs h1 f1=>hr xs ts H1 C1 Q R rs h1 q1 fun v H' t C' q' r' h' f'=>f v H' t C' q' r' h' (f1.trans f')⟩⟩
theorem eX {T:String}{r:List V->Hp->VK->Prop}{cr:GC}{x:Str}{p:Pos}{ca:TCA}(hc:CallR X (.type T) r)(hr:Cbi X.K r cr)(hg:Gl X x)(hm:X.mg x=none)(hv:bootBuiltins x=some (.type T))(ha:CA X (e::es) ca)(hn:x ≠ "__name__":=by decide)(hdb:(x==("__debug__" : Str))=false:=by decide)
  (hs:iQ e=true:=by rfl) (hall:es.all iQ=true:=by rfl):CE X (.Call (.Name x p) (e::es) [] pos) (wD cr ca):=⟨JE.weak (XH hc hg hm hv ha.h hn hdb hs hall) fun σ H Q ⟨ρ,C,R,s,h,q,f⟩ =>
  ⟨ρ,C,_,s,h,q,fun xs H1 ts C1 q1 rs h1 f1=>hr xs ts H1 C1 Q R rs h1 q1 fun v H' t C' q' r' h' f'=>f v H' t C' q' r' h' (f1.trans f')⟩⟩
theorem ce_ix {r:R2}{cr:R2C}{ca cb:TCE}(ho:IxR X r)(hr:Cop X.K r cr)(ha:CE X a ca)(hb:CE X b cb)(hs:kL b):CE X (.Subscript a b pos) (cOp cr ca cb):=⟨JE.weak (je_ix ho ha.h hb.h hs) fun _ _ _ h=>cD hr h⟩
end
section
variable {X:Cx}{a b c e o i:Expr}{es:List Expr}{pos:Pos}{rest:List Expr}{st:Stmt}{sts:List Stmt}
def cNext:TCS:=fun E ρ C=>E.nx ρ C
def jE (t u:TCS):TCS:=fun E ρ C=>t { E with nx:=u E } ρ C
theorem qX:CB X [] cNext:=⟨JB.weak jb_nil fun D σ H ⟨ρ,C,E,s,h,q,f⟩=>f.nx σ H ρ C q s h Fw.refl⟩
theorem kQ {t:TCS}(h:CS X st t):CB X [st] t:=⟨jb_one h.h⟩
theorem xQ {t u:TCS}(h1:CS X st t)(h2:CB X sts u):CB X (st::sts) (jE t u):=⟨JB.weak (jb_cons h1.h h2.h) fun D σ H ⟨ρ,C,E,s,h,q,f⟩ =>
 ⟨ρ,C,_,s,h,q,⟨fun σ' H' ρ' C' n s' h' f'=>⟨ρ',C',E,s',h',n,f.fw f'⟩,f.rt,f.bk,f.ct⟩⟩⟩
def cDrop (ce:TCE):TCS:=fun E ρ C=>ce ρ C fun _ C1=>E.nx ρ C1
theorem vZ {ce:TCE}(he:CE X e ce)(hs:swapsWith e none pos.line X.env=pure false:=by rfl):CS X (.Expr e pos) (cDrop ce):=⟨JS.weak (js_expr he.h hs) fun D σ H ⟨ρ,C,E,s,h,q,f⟩ =>
 ⟨ρ,C,_,s,h,q,fun x H1 px C1 q1 rx h1 f1=>f.nx σ H1 ρ C1 q1 (s.imm (f1.imm h)) h1 f1⟩⟩
def cRet (ce:TCE):TCS:=fun E ρ C=>ce ρ C E.rt
theorem bQ {ce:TCE}(he:CE X e ce):CS X (.Return (some e) pos) (cRet ce):=⟨JS.weak (Jy he.h) fun D σ H ⟨ρ,C,E,s,h,q,f⟩ =>
 ⟨ρ,C,_,s,h,q,fun x H1 px C1 q1 rx h1 f1=>f.rt x H1 px C1 q1 rx h1 f1⟩⟩
def cIfS (t:TCT)(u v:TCS):TCS:=fun E ρ C=>t ρ C fun b C1=>if b=true then u E ρ C1 else v E ρ C1
theorem wX {x y:List Stmt}{t:TCT}{u v:TCS}(hc:CT X c t)(ha:CB X x u)(hb:CB X y v):CS X (.If c x y pos) (cIfS t u v):=⟨JS.weak (js_if hc.h ha.h hb.h) fun D σ H ⟨ρ,C,E,s,h,q,f⟩ =>
 ⟨ρ,C,_,s,h,q,fun x H1 y C1 q1 e h1 f1=>by
  cases e
  cases x with
  |true=>exact⟨ρ,C1,E,s.imm (f1.imm h),h1,q1,f.fw f1⟩
  |false=>exact⟨ρ,C1,E,s.imm (f1.imm h),h1,q1,f.fw f1⟩⟩⟩
def KL (i:Nat)(ce:TCE):TCS:=fun E ρ C=>ce ρ C fun t C1=>E.nx (ρ.set i (some t)) C1
theorem cs_set {i:Nat}{x:Str}{pos':Pos}{ce:TCE}(hN:X.N.Nodup)(hi:X.N[i]?=some x)(hx:Loc X.env.scope x)(he:CE X e ce)(hs:swapsWith e (some (.Name x pos')) pos.line X.env=pure false:=by rfl)(hf:X.fn x=true\/X.env.scope.names.lookup x=some .local:=by first | exact .inl rfl | exact .inr rfl | assumption):
  CS X (.Assign [.Name x pos'] e pos) (KL i ce):=⟨JS.weak (js_set hN hi hx he.h hs hf) fun D σ H ⟨ρ,C,E,s,h,q,f⟩ =>
 ⟨ρ,C,_,s,h,q,fun x H1 px C1 q1 rx h1 f1=>f.nx _ H1 _ C1 q1 ((s.imm (f1.imm h)).set rx i) h1 f1⟩⟩
abbrev TCG:=PV->CSt->CH->(CSt->CH->Prop)->Prop
abbrev xS:=List PV->CSt->CH->(CSt->CH->Prop)->Prop
def Jq (K:PySem.W.Frag)(c:TCG):TG:=fun v σ H Q=>∃t ρ C R,Rep K H v t/\SRel K H σ ρ/\HRel K H C/\c t ρ C R/\∀σ' H' ρ' C',R ρ' C'->SRel K H' σ' ρ'->HRel K H' C'->Fw H C H' C'->Q σ' H'
def liftGs (K:PySem.W.Frag)(c:xS):TGs:=fun v σ H Q=>∃t ρ C R,Reps K H v t/\SRel K H σ ρ/\HRel K H C/\c t ρ C R/\∀σ' H' ρ' C',R ρ' C'->SRel K H' σ' ρ'->HRel K H' C'->Fw H C H' C'->Q σ' H'
structure CG (X:Cx)(e:Expr)(c:TCG):Prop where
 h:JG X e (Jq X.K c)
structure CGs (X:Cx)(es:List Expr)(c:xS):Prop where
 h:JGs X es (liftGs X.K c)
theorem JG.weak {t t':TG}(h:JG X e t)(w:∀v σ H Q,t' v σ H Q->t v σ H Q):JG X e t':=⟨fun pins s σ H v u Q I r q=>h.h pins s σ H v u Q I r (w v σ H Q q)⟩
theorem JGs.weak {t t':TGs}(h:JGs X es t)(w:∀v σ H Q,t' v σ H Q->t v σ H Q):JGs X es t':=⟨fun pins s σ H v u Q I r q=>h.h pins s σ H v u Q I r (w v σ H Q q)⟩
def Km (i:Nat):TCG:=fun t ρ C Q=>Q (ρ.set i (some t)) C
def dNil:xS:=fun ts ρ C Q=>match ts with
 |[]=>Q ρ C
 |_=>False
def dCons (g:TCG)(u:xS):xS:=fun ts ρ C Q=>match ts with
 |t::r=>g t ρ C fun ρ' C'=>u r ρ' C' Q
 |[]=>False
def dTup (n:Nat)(u:xS):TCG:=fun t ρ C Q=>match t with
 |.tup ts=>ts.length=n/\u ts ρ C Q
 |_=>False
theorem cg_name {i:Nat}{x:Str}(hN:X.N.Nodup)(hi:X.N[i]?=some x)(hx:Loc X.env.scope x)(hf:X.fn x=true\/X.env.scope.names.lookup x=some .local:=by first | exact .inl rfl | exact .inr rfl | assumption):CG X (.Name x pos) (Km i) :=
 ⟨JG.weak (jg_name hN hi hx hf) fun v σ H Q ⟨t,ρ,C,R,r,s,h,q,f⟩=>f _ H _ C q (s.set r i) h Fw.refl⟩
theorem tK:CGs X [] dNil:=⟨JGs.weak jgs_nil fun vs σ H Q ⟨ts,ρ,C,R,r,s,h,q,f⟩=>by
 cases r with
 |nil=>exact⟨rfl,f σ H ρ C q s h Fw.refl⟩
 |cons _ _=>exact q.elim⟩
theorem kX {g:TCG}{u:xS}(h1:CG X e g)(h2:CGs X es u)
  (hs:(assignEach (e::es) X.env).map (·.2)=assign e X.env::(assignEach es X.env).map (·.2):=by rfl):CGs X (e::es) (dCons g u):=⟨JGs.weak (JC h1.h h2.h hs) fun vs σ H Q ⟨ts,ρ,C,R,r,s,h,q,f⟩=>by
 cases r with
 |nil=>exact q.elim
 |@cons v t vs ts r0 r =>
  exact⟨v,vs,rfl,t,ρ,C,_,r0,s,h,q,fun σ' H' ρ' C' q' s' h' f'=>⟨ts,ρ',C',R,r.imm (f'.imm h),s',h',q',fun σ2 H2 ρ2 C2 q2 s2 h2 f2=>f σ2 H2 ρ2 C2 q2 s2 h2 (f'.trans f2)⟩⟩⟩
theorem iW {k:Nat}{u:xS}{n:Nat}(hc:X.calm=true)(h:CGs X es u)
  (hn:(assignEach es X.env).length=n:=by rfl) (hst:(assignEach es X.env).findIdx? (·.1)=none:=by rfl):CG X (.Tuple es k pos) (dTup n u):=⟨JG.weak (jg_tup hc h.h hn hst) fun v σ H Q ⟨t,ρ,C,R,r,s,h,q,f⟩=>by
 cases r with
 |@tup a vs ts e r =>
  obtain⟨q1,q2⟩:=q;exact⟨a,vs,rfl,SqT.of e,by rw[r.len]; exact q1,ts,ρ,C,R,r,s,h,q2,f⟩
 |_=>exact q.elim⟩
def cAsg (ce:TCE)(g:TCG):TCS:=fun E ρ C=>ce ρ C fun t C1=>g t ρ C1 E.nx
theorem cP {tg:Expr}{ce:TCE}{g:TCG}(he:CE X e ce)(hg:CG X tg g)(hs:swapsWithSole [tg] e pos.line X.env=pure false:=by rfl)(hw:swappedStores [tg] e X.env=pure none:=by rfl)
  (h1:(assignEach [tg] X.env).map (·.2)=[assign tg X.env]:=by rfl):CS X (.Assign [tg] e pos) (cAsg ce g):=⟨JS.weak (js_asg he.h hg.h hs hw h1) fun D σ H ⟨ρ,C,E,s,h,q,f⟩ =>
 ⟨ρ,C,_,s,h,q,fun x H1 px C1 q1 rx h1 f1=>⟨px,ρ,C1,E.nx,rx,s.imm (f1.imm h),h1,q1,fun σ' H' ρ' C' q' s' h' f'=>f.nx σ' H' ρ' C' q' s' h' (f1.trans f')⟩⟩⟩
@[irreducible] def QY:PV->PV->PV->CH->(CH->Prop)->Prop:=fun o i v C Q=>match o,i with
 |.ref p,.int k=>match C p with
  |some (.lst xs)=>match ixN xs.length k with
   |some j=>Q (gQ C p (.lst (xs.set j v)))
   |none=>False
  |_=>False
 |_,_=>False
def dSub (co ci:TCE)(u:PV->PV->PV->CH->(CH->Prop)->Prop):TCG:=fun t ρ C Q=>co ρ C fun o C1=>ci ρ C1 fun i C2=>u o i t C2 fun C3=>Q ρ C3
theorem tD {co ci:TCE}(ho:CE X o co)(hi:CE X i ci)
  (ha:∀v,assign (.Subscript o i pos) X.env v=(do
   let ov <- holding [v] (eval o X.env)
   let iv <- holding [v,ov] (eval i X.env)
   standAt pos
   holding [v,ov,iv] (setItem ov iv v)
   release [v,ov,iv] []):=by intro _; rfl):CG X (.Subscript o i pos) (dSub co ci QY):=⟨JG.weak (jg_sub ho.h hi.h Zy ha) fun v σ H Q ⟨t,ρ,C,R,r,s,h,q,f⟩ =>
 ⟨ρ,C,_,s,h,q,fun x H1 px C1 q1 rx h1 f1=>⟨ρ,C1,_,s.imm (f1.imm h),h1,q1,fun y H2 py C2 q2 ry h2 f2=>by
  have r2:=r.imm ((f1.trans f2).imm h);have s2:=s.imm ((f1.trans f2).imm h);unfold QY at q2
  split at q2
  .next p k =>
   split at q2
   .next xs e =>
    split at q2
    .next j ej =>
     obtain⟨vs,ev,rv⟩:=h2 p _ e;have rx2:=rx.imm (f2.imm h1);cases rx2;cases ry;refine⟨p,vs,k,j,rfl,rfl,ev,by rw[rv.len]; exact ej,?_⟩;exact f σ _ ρ _ q2 (s2.imm (Imm.mut ev rfl _)) (h2.put ev rfl ⟨_,fQ,(rv.set r2 j).imm (Imm.mut ev rfl _)⟩) (f1.trans (f2.trans (Fw.put e _ _)))
    .exact q2.elim
   .exact q2.elim
  .exact q2.elim⟩⟩⟩
def rW (g:TCG)(u:TCS)(E:sW):List PV->CSt->CH->Prop
 |[],ρ,C=>E.nx ρ C
 |x::r,ρ,C=>g x ρ C fun ρ1 C1=>u { nx:=rW g u E r,ct:=rW g u E r,bk:=E.nx,rt:=E.rt } ρ1 C1
structure Qd (K:PySem.W.Frag)(H:Hp)(J:It)(ps:List PV):Prop where
 go:∀i H',i < ps.length->Imm H H'->J.go i H'
 yl:∀i H' x H'',Imm H H'->J.yld i H' x H''->H''=H'/\∀t,ps[i]?=some t->Rep K H' x t
 st:∀H',Imm H H'->J.stop ps.length H'
theorem pD {K:PySem.W.Frag}{H:Hp}{C:CH}{σ:St}{ρ:CSt}{J:It}{ps:List PV}{g:TCG}{u:TCS}{E:sW}{D:fE}(j:Qd K H J ps)(s:SRel K H σ ρ)(h:HRel K H C)(q:rW g u E ps ρ C)(f:ERel K H C E D):
  ∃W:Nat->Nat->St->Hp->Prop,(∃m,W 0 m σ H)/\∀i m σ H,W i m σ H ->
   (J.stop i H/\D.nx σ H)\/(J.go i H/\∃N:St->Hp->Prop,(∀σ' H',N σ' H'->∃m',m' < m/\W (i+1) m' σ' H')/\∀x H',J.yld i H x H'->Jq K g x σ H' fun σ2 H2=>Jp K u { D with nx:=N,ct:=N,bk:=D.nx } σ2 H2):=by
 refine⟨fun i m σ' H'=>m=ps.length - i/\i<=ps.length/\∃ρ' C',SRel K H' σ' ρ'/\HRel K H' C'/\Fw H C H' C'/\rW g u E (ps.drop i) ρ' C',⟨ps.length,rfl,Nat.zero_le _,ρ,C,s,h,Fw.refl,q⟩,?_⟩;rintro i m σ1 H1 ⟨rfl,hi,ρ1,C1,s1,h1,f1,q1⟩;have k1:=f1.imm h
 by_cases hlt:i < ps.length
 .refine .inr ⟨j.go i H1 hlt k1,fun σ' H'=>∃ρ' C',SRel K H' σ' ρ'/\HRel K H' C'/\Fw H C H' C'/\rW g u E (ps.drop (i+1)) ρ' C',fun σ' H' z=>⟨ps.length - (i+1),by omega,rfl,hlt,z⟩,fun x H2 y=>?_⟩
  obtain⟨rfl,y⟩:=j.yl i H1 x H2 k1 y;rw[List.drop_eq_getElem_cons hlt] at q1
  exact⟨ps[i],ρ1,C1,_,y _ (List.getElem?_eq_getElem hlt),s1,h1,q1,fun σ' H' ρ' C' q' s' h' f'=>⟨ρ',C',_,s',h',q',⟨fun σ3 H3 ρ3 C3 q3 s3 h3 f3=>⟨ρ3,C3,s3,h3,f1.trans (f'.trans f3),q3⟩,fun v H3 t C3 q3 r3 h3 f3=>f.rt v H3 t C3 q3 r3 h3 (f1.trans (f'.trans f3)),
   fun σ3 H3 ρ3 C3 q3 s3 h3 f3=>f.nx σ3 H3 ρ3 C3 q3 s3 h3 (f1.trans (f'.trans f3)),fun σ3 H3 ρ3 C3 q3 s3 h3 f3=>⟨ρ3,C3,s3,h3,f1.trans (f'.trans f3),q3⟩⟩⟩⟩
 .have e:i=ps.length:=by omega
  subst e;rw[List.drop_length] at q1;exact .inl ⟨j.st H1 k1,f.nx σ1 H1 ρ1 C1 q1 s1 h1 f1⟩
theorem qR {K:PySem.W.Frag}{H:Hp}{a:Addr}{vs:List V}{ts:List PV}(h:SqT K H a vs)(r:Reps K H vs ts):Qd K H (Itt K a) ts where
 go:=fun i H' l k=>⟨vs,vs[i]'(by rw[r.len]; exact l),SqT.imm h k,List.getElem?_eq_getElem _⟩
 yl:=fun i H' x H'' k y=>⟨y.1,fun t e=>by
  obtain⟨v,ev,rv⟩:=(r.imm k).get e;have:=y.2 vs (SqT.imm h k)
  rw[ev] at this; cases this; exact rv⟩
 st:=fun H' k=>⟨vs,SqT.imm h k,by rw[r.len]; exact Nat.le_refl _⟩
theorem it_fz {K:PySem.W.Frag}{H:Hp}{a:Addr}{vs:List V}{ts:List PV}(h:Fz K H a vs)(r:Reps K H vs ts):Qd K H (Itl K a) ts where
 go:=fun i H' l k=>⟨vs,vs[i]'(by rw[r.len]; exact l),(h.imm k).sq,List.getElem?_eq_getElem _⟩
 yl:=fun i H' x H'' k y=>⟨y.1,fun t e=>by
  obtain⟨v,ev,rv⟩:=(r.imm k).get e;have:=y.2 vs (h.imm k).sq
  rw[ev] at this; cases this; exact rv⟩
 st:=fun H' k=>⟨vs,(h.imm k).sq,by rw[r.len]; exact Nat.le_refl _⟩
theorem JM {K:PySem.W.Frag}{H:Hp}{n:Nat}:Qd K H (Itr 0 n) ((List.range n).map fun k=>PV.int (k:Nat)) where
 go:=fun i H' l k=>by rw[List.length_map,List.length_range] at l; exact l
 yl:=fun i H' x H'' k y=>⟨y.1,fun t e=>by
  rw[y.2];rw[List.getElem?_map] at e
  cases z:(List.range n)[i]? with
  |none=>rw[z] at e; cases e
  |some w =>
   rw[z] at e;cases e;have:=List.getElem?_eq_some_iff.mp z;obtain⟨l,e⟩:=this;rw[List.getElem_range] at e;subst e;rw[Int.zero_add]
   exact .int _⟩
 st:=fun H' k=>by rw[List.length_map,List.length_range]; exact Nat.le_refl _
@[irreducible] def tN (ce:TCE)(g:TCG)(u:TCS):TCS:=fun E ρ C=>ce ρ C fun t C1=>match t with
 |.tup xs=>rW g u E xs ρ C1
 |.kt xs=>rW g u E xs ρ C1
 |_=>False
theorem oK {tg iter:Expr}{body:List Stmt}{ce:TCE}{g:TCG}{u:TCS}(hp:PassesOwn (model X.prog X.w) X.A X.env X.xe)(hc:X.calm=true)(hi:CE X iter ce)(hg:CG X tg g)(hb:CB X body u)
  (hs:∀x,foldedSetIterable iter X.env x=pure x:=by intro _; rfl):CS X (.For tg iter body [] pos) (tN ce g u):=⟨JS.weak (aA hp hc (Jz hi.h) hg.h hb.h hs) fun D σ H ⟨ρ,C,E,s,h,q,f⟩=>by
 unfold tN at q
 exact⟨ρ,C,_,s,h,q,fun x H1 px C1 q1 rx h1 f1=>by
  cases rx with
  |@tup a vs ts e r=>exact⟨a,rfl,⟨vs,SqT.of e⟩,pD (qR (SqT.of e) r) (s.imm (f1.imm h)) h1 q1 (f.fw f1)⟩
  |@kt a vs ts e r=>exact⟨a,rfl,⟨vs,e⟩,pD (qR e r) (s.imm (f1.imm h)) h1 q1 (f.fw f1)⟩
  |_=>exact q1.elim⟩⟩
def cForR (ca:TCA)(g:TCG)(u:TCS):TCS:=fun E ρ C=>ca ρ C fun ts C1=>match ts with
 |[.int j]=>-(2 ^ 62)<=j/\j < 2 ^ 62/\rW g u E ((List.range j.toNat).map fun k=>PV.int (k:Nat)) ρ C1
 |_=>False
theorem nD {tg:Expr}{body:List Stmt}{ca:TCA}{g:TCG}{u:TCS}{p pos2:Pos}(hp:PassesOwn (model X.prog X.w) X.A X.env X.xe)(hc:X.calm=true)(hgl:Gl X "range")(hm:X.mg "range" = none)(ha:CA X [a] ca)(hg:CG X tg g)(hb:CB X body u)
  (hst:iQ a=true:=by rfl) (hs:∀x,foldedSetIterable (.Call (.Name "range" p) [a] [] pos2) X.env x=pure x:=by intro _; rfl):CS X (.For tg (.Call (.Name "range" p) [a] [] pos2) body [] pos) (cForR ca g u):=⟨JS.weak (aA hp hc (mN hgl hm ha.h hst) hg.h hb.h hs) fun D σ H ⟨ρ,C,E,s,h,q,f⟩ =>
 ⟨ρ,C,_,s,h,q,fun xs H1 ts C1 q1 rs h1 f1=>by
  split at q1
  .next j =>
   cases rs with
   |cons r0 r =>
    cases r;cases r0;exact⟨j,rfl,q1.1,q1.2.1,pD JM (s.imm (f1.imm h)) h1 q1.2.2 (f.fw f1)⟩
  .exact q1.elim⟩⟩
def vG (a:Addr)(g:TCG)(u:TCS)(E:sW):Nat->Nat->CSt->CH->Prop
 |0,_,_,_=>False
 |n+1,i,ρ,C=>match C a with
  |some (.lst xs)=>match xs[i]? with
   |some x=>g x ρ C fun ρ1 C1=>u { nx:=vG a g u E n (i+1),ct:=vG a g u E n (i+1),bk:=E.nx,rt:=E.rt } ρ1 C1
   |none=>E.nx ρ C
  |_=>False
def cForL (ce:TCE)(g:TCG)(u:TCS):TCS:=fun E ρ C=>ce ρ C fun t C1=>match t with
 |.ref a=>∃n,vG a g u E n 0 ρ C1
 |.fz xs=>rW g u E xs ρ C1
 |_=>False
theorem dU {tg iter:Expr}{body:List Stmt}{ce:TCE}{g:TCG}{u:TCS}(hp:PassesOwn (model X.prog X.w) X.A X.env X.xe)(hc:X.calm=true)(hi:CE X iter ce)(hg:CG X tg g)(hb:CB X body u)
  (hs:∀x,foldedSetIterable iter X.env x=pure x:=by intro _; rfl):CS X (.For tg iter body [] pos) (cForL ce g u):=⟨JS.weak (aA hp hc (QC hi.h) hg.h hb.h hs) fun D σ H ⟨ρ,C,E,s,h,q,f⟩ =>
 ⟨ρ,C,_,s,h,q,fun x H1 px C1 q1 rx h1 f1=>by
  cases rx with
  |@fz a vs ts e r=>exact⟨a,rfl,⟨vs,e.sq⟩,pD (it_fz e r) (s.imm (f1.imm h)) h1 q1 (f.fw f1)⟩
  |ref a =>
   obtain⟨n,q1⟩:=q1
   have ex:∃ys,SqL X.K H1 a ys:=by
    cases n with
    |zero=>exact q1.elim
    |succ n =>
     unfold vG at q1
     split at q1
     .next xs e=>obtain⟨vs,ev,_⟩:=h1 a _ e; exact⟨vs,SqL.of ev⟩
     .exact q1.elim
   refine⟨a,rfl,ex,fun i m σ' H'=>∃ρ' C',SRel X.K H' σ' ρ'/\HRel X.K H' C'/\Fw H1 C1 H' C'/\vG a g u E m i ρ' C',⟨n,ρ,C1,s.imm (f1.imm h),h1,Fw.refl,q1⟩,?_⟩;rintro i m σ2 H2 ⟨ρ2,C2,s2,h2,f2,q2⟩
   cases m with
   |zero=>exact q2.elim
   |succ m =>
    unfold vG at q2
    split at q2
    .next xs e =>
     obtain⟨vs,ev,rv⟩:=h2 a _ e
     split at q2
     .next x ex =>
      obtain⟨v,ev',rx⟩:=rv.get ex;refine .inr ⟨⟨vs,v,SqL.of ev,ev'⟩,fun σ' H'=>∃ρ' C',SRel X.K H' σ' ρ'/\HRel X.K H' C'/\Fw H1 C1 H' C'/\vG a g u E m (i+1) ρ' C',fun σ' H' z=>⟨m,Nat.lt_succ_self m,z⟩,fun y H3 hy=>?_⟩;obtain⟨rfl,hy⟩:=hy;have:=hy vs (SqL.of ev);rw[ev'] at this; cases this
      exact⟨x,ρ2,C2,_,rx,s2,h2,q2,fun σ' H' ρ' C' q' s' h' f'=>⟨ρ',C',_,s',h',q',⟨fun σ3 H3 ρ3 C3 q3 s3 h3 f3=>⟨ρ3,C3,s3,h3,f2.trans (f'.trans f3),q3⟩,fun v H3 t C3 q3 r3 h3 f3=>f.rt v H3 t C3 q3 r3 h3 (f1.trans (f2.trans (f'.trans f3))),
       fun σ3 H3 ρ3 C3 q3 s3 h3 f3=>f.nx σ3 H3 ρ3 C3 q3 s3 h3 (f1.trans (f2.trans (f'.trans f3))),fun σ3 H3 ρ3 C3 q3 s3 h3 f3=>⟨ρ3,C3,s3,h3,f2.trans (f'.trans f3),q3⟩⟩⟩⟩
     .next ex =>
      refine .inl ⟨⟨vs,SqL.of ev,?_⟩,f.nx σ2 H2 ρ2 C2 q2 s2 h2 (f1.trans f2)⟩;rw[rv.len];exact List.getElem?_eq_none_iff.mp ex
    .exact q2.elim
  |_=>exact q1.elim⟩⟩
def wZ (t:TCT)(c:TCE)(ρ:CSt)(Q:K1):List PV->List PV->CH->Prop
 |[],acc,C=>∀p,C p=none->Q (.ref p) (gQ C p (.lst acc))
 |x::r,acc,C=>t (some x::ρ) C fun b C1=>if b=true then c (some x::ρ) C1 fun y C2=>acc.length < sizeLine/\wZ t c ρ Q r (acc++[y]) C2 else wZ t c ρ Q r acc C1
structure CF (X:Cx)(ifs:List Expr)(c:TCT):Prop where
 h:JF X ifs (zJ X.K qF c)
def aU:TCT:=fun _ C Q=>Q true C
theorem JF.weak {ifs:List Expr}{t t':TT}(h:JF X ifs t)(w:∀σ H Q,t' σ H Q->t σ H Q):JF X ifs t':=⟨fun pins s σ H Q I q=>h.h pins s σ H Q I (w σ H Q q)⟩
theorem xJ:CF X [] aU:=⟨JF.weak jf_nil fun σ H Q ⟨ρ,C,R,s,h,q,f⟩=>f true H true C q rfl h Fw.refl⟩
theorem Ky {t:TCT}(h:CT X c t):CF X [c] t:=⟨jf_one h.h⟩
theorem comp_it {K:PySem.W.Frag}{H H0:Hp}{C C0:CH}{σ:St}{ρ:CSt}{J:It}{ps:List PV}{t:TCT}{c:TCE}{R:K1}{Q:VK}(j:Qd K H J ps)(s:SRel K H σ ρ)(h:HRel K H C)(q:wZ t c ρ R ps [] C)
  (h0:HRel K H0 C0) (f0:Fw H0 C0 H C) (f:∀v H' p C',R p C'->Rep K H' v p->HRel K H' C'->Fw H0 C0 H' C'->Q v H') {D:Addr} (hD:H D=none) :
  ∃W:Nat->Nat->List V->Hp->Prop,(∃m,W 0 m [] (upd H D (.lst [])))/\∀i m ys H,W i m ys H ->
   (J.stop i H/\Q (.ref D) H)\/(J.go i H/\∀x H',J.yld i H x H'->zJ K qF t (some x::σ) H' fun b H2 =>
    if b=true then zJ K (Rep K) c (some x::σ) H2 fun y H3=>H3 D=some (.lst ys)/\ys.length < sizeLine/\∃m',m' < m/\W (i+1) m' (ys++[y]) (upd H3 D (.lst (ys++[y])))
    else ∃m',m' < m/\W (i+1) m' ys H2):=by
 have fD:∀{H':Hp} {C':CH},Fw H C H' C'->True:=fun _=>trivial
 refine⟨fun i m ys H'=>m=ps.length - i/\i<=ps.length/\∃acc C',H' D=some (.lst ys)/\C' D=none/\Reps K H' ys acc/\HRel K H' C'/\Fw H C H' C'/\wZ t c ρ R (ps.drop i) acc C',
  ⟨ps.length,rfl,Nat.zero_le _,[],C,fQ,h.fresh hD,.nil,h.new hD _,Fw.new hD _,q⟩,?_⟩
 rintro i m ys H1 ⟨rfl,hi,acc,C1,e1,n1,r1,h1,f1,q1⟩;have k1:Imm H H1:=f1.imm h
 by_cases hlt:i < ps.length
 .refine .inr ⟨j.go i H1 hlt k1,fun x H2 y=>?_⟩
  obtain⟨rfl,y⟩:=j.yl i H1 x H2 k1 y;have rx:=y _ (List.getElem?_eq_getElem hlt);rw[List.drop_eq_getElem_cons hlt] at q1;refine⟨some ps[i]::ρ,C1,_,.cons rx (s.imm k1),h1,q1,fun b H3 b' C3 q3 e h3 f3=>?_⟩;cases e;obtain⟨n3,e3⟩:=f3 D (by rw[n1]; rfl) (by rw[e1]; exact fun z=>nomatch z);rw[e1] at e3;rw[n1] at n3;have k3:=f3.imm h1
  cases b with
  |true =>
   rw[if_pos rfl] at q3 ⊢;refine⟨some ps[i]::ρ,C3,_,.cons (rx.imm k3) ((s.imm k1).imm k3),h3,q3,fun v H4 p C4 q4 r4 h4 f4=>?_⟩;obtain⟨n4,e4⟩:=f4 D (by rw[n3]; rfl) (by rw[e3]; exact fun z=>nomatch z);rw[e3] at e4;rw[n3] at n4;have k4:=f4.imm h3;have m4:Imm H4 (upd H4 D (.lst (ys++[v]))):=Imm.mut e4 rfl _;refine⟨e4,by rw[r1.len]; exact q4.1,ps.length - (i+1),by omega,rfl,hlt,acc++[p],C4,fQ,n4,?_,?_,?_,q4.2⟩
   .exact (((r1.imm k3).imm k4).append (.cons r4 .nil)).imm m4
   .intro a o ca
    have ne:a≠D:=fun z=>by subst z; rw[n4] at ca; cases ca
    exact(h4 a o ca).imm m4 (lQ ne)
   .intro a ca na
    have ne:a≠D:=fun z=>na (z▸hD);obtain⟨x1,x2⟩:=(f1.trans (f3.trans f4)) a ca na;exact⟨x1,(lQ ne).trans x2⟩
  |false =>
   rw[if_neg Bool.false_ne_true] at q3 ⊢;exact⟨ps.length - (i+1),by omega,rfl,hlt,acc,C3,e3,n3,r1.imm k3,h3,f1.trans f3,q3⟩
 .have e:i=ps.length:=by omega
  subst e;rw[List.drop_length] at q1;refine .inl ⟨j.st H1 k1,f (.ref D) H1 (.ref D) _ (q1 D n1) (.ref D) ?_ ?_⟩
  .intro a o ca
   by_cases z:a=D
   .subst z; rw[jQ] at ca; cases ca; exact⟨ys,e1,r1⟩
   .rw [wQ z] at ca; exact h1 a o ca
  .intro a ca na
   obtain⟨x1,x2⟩:=f0 a ca na;have na':H a≠none:=by rw[x2]; exact na
   have ne:a≠D:=fun z=>na' (z▸hD);obtain⟨y1,y2⟩:=f1 a (by rw[x1]; exact ca) na';exact⟨(wQ ne).trans (y1.trans x1),y2.trans x2⟩
structure CI (X:Cx)(tg it:Expr)(wi:TI)(c:CSt->CH->(List PV->CH->Prop)->Prop):Prop where
 j:JI X tg it wi
 w:∀σ H ρ C R Q,SRel X.K H σ ρ->HRel X.K H C->c ρ C R->(∀J H' ps C',R ps C'->Qd X.K H' J ps->HRel X.K H' C'->Fw H C H' C'->Q J H')->wi σ H Q
def cItT (ce:TCE):CSt->CH->(List PV->CH->Prop)->Prop:=fun ρ C Q=>ce ρ C fun t C1=>match t with
 |.tup xs=>Q xs C1
 |.kt xs=>Q xs C1
 |_=>False
theorem kG {tg:Expr}{ce:TCE}(h:CE X e ce):CI X tg e (iTup X.K (zJ X.K (Rep X.K) ce)) (cItT ce):=⟨Jz h.h,fun σ H ρ C R Q s h q f=>⟨ρ,C,_,s,h,q,fun x H1 px C1 q1 rx h1 f1=>by
  cases rx with
  |@tup a vs ts e r=>exact⟨a,rfl,⟨vs,SqT.of e⟩,f _ H1 ts C1 q1 (qR (SqT.of e) r) h1 f1⟩
  |@kt a vs ts e r=>exact⟨a,rfl,⟨vs,e⟩,f _ H1 ts C1 q1 (qR e r) h1 f1⟩
  |_=>exact q1.elim⟩⟩
def cItR (ca:TCA):CSt->CH->(List PV->CH->Prop)->Prop:=fun ρ C Q=>ca ρ C fun ts C1=>match ts with
 |[.int j]=>-(2 ^ 62)<=j/\j < 2 ^ 62/\Q ((List.range j.toNat).map fun k=>PV.int (k:Nat)) C1
 |_=>False
theorem nP {tg:Expr}{ca:TCA}{p pos2:Pos}(hgl:Gl X "range")(hm:X.mg "range" = none)(ha:CA X [a] ca)(hst:iQ a=true:=by rfl):CI X tg (.Call (.Name "range" p) [a] [] pos2) (JZ (zJ X.K (Reps X.K) ca)) (cItR ca):=⟨mN hgl hm ha.h hst,fun σ H ρ C R Q s h q f=>⟨ρ,C,_,s,h,q,fun xs H1 ts C1 q1 rs h1 f1=>by
  split at q1
  .next j =>
   cases rs with
   |cons r0 r =>
    cases r;cases r0;exact⟨j,rfl,q1.1,q1.2.1,f _ H1 _ C1 q1.2.2 JM h1 f1⟩
  .exact q1.elim⟩⟩
def KN (ci:CSt->CH->(List PV->CH->Prop)->Prop)(t:TCT)(c:TCE):TCE:=fun ρ C Q=>ci ρ C fun ps C1=>wZ t c ρ Q ps [] C1
theorem yN {wi:TI}{tg it:Expr}{ci:CSt->CH->(List PV->CH->Prop)->Prop}{t:TCT}{c:TCE}(hi:CI X tg it wi ci){σ:St}{H:Hp}{Q:VK}(h:zJ X.K (Rep X.K) (KN ci t c) σ H Q):bS wi (zJ X.K qF t) (zJ X.K (Rep X.K) c) σ H Q:=by
 obtain⟨ρ,C,R,s,h,q,f⟩:=h;exact hi.w σ H ρ C _ _ s h q fun J H' ps C' q' j h' f' D hD=>comp_it j (s.imm (f'.imm h)) h' q' h f' f hD
theorem eK {elt iter:Expr}{x:Str}{px:Pos}{ifs:List Expr}{scope:Scope}{wi:TI}{ci:CSt->CH->(List PV->CH->Prop)->Prop}{t:TCT}{c:TCE}
  (hc:X.calm=true) (hN:(x::X.N).Nodup) (K:∃cl,yU X x scope cl) (hi:CI X (.Name x px) iter wi ci)
  (ht:∀cl fp C s₂ H₂,CF (gJ X x scope cl fp C s₂ H₂) ifs t) (he:∀cl fp C s₂ H₂,CE (gJ X x scope cl fp C s₂ H₂) elt c)
  (hs:∀v,foldedSetIterable iter X.env v=pure v:=by intro _; rfl):CE X (.ListComp elt [⟨.Name x px,iter,ifs,0⟩] scope pos) (KN ci t c) :=
 ⟨JE.weak (uP hc hN K hi.j (fun cl fp C s₂ H₂=>(ht cl fp C s₂ H₂).h) (fun cl fp C s₂ H₂=>(he cl fp C s₂ H₂).h) hs) fun _ _ _ h=>yN hi h⟩
end
def pL (N:List Str)(ts:List PV):CSt:=ts.map some++List.replicate (N.length - ts.length) none
theorem zN {K:PySem.W.Frag}{H:Hp}:∀n,SRel K H (List.replicate n none) (List.replicate n none)
 |0=>.nil
 |n+1=>.cons trivial (zN n)
theorem pS {K:PySem.W.Frag}{H:Hp}{σ:St}{ρ:CSt}(s:SRel K H σ ρ):∀{vs:List V}{ts:List PV},Reps K H vs ts->SRel K H (vs.map some++σ) (ts.map some++ρ)
 |_,_,.nil=>s
 |_,_,.cons h r=>.cons h (pS s r)
theorem rE {K:PySem.W.Frag}{H:Hp}{N:List Str}{vs:List V}{ts:List PV}(r:Reps K H vs ts):SRel K H (L2.start N vs) (pL N ts):=by
 unfold L2.start pL;rw[r.len];exact pS (zN _) r
section
variable {P:Program}{w:World}{K:PySem.W.Frag}{mg:Str->Option Value}{base:Heap}
theorem Fun.okC {x qual:Str}{st:Stmt}{f:Addr}{fd:FuncData}{N ps:List Str}{k:Nat}{G:GC}(F:Fun K x qual st f fd)(S:FnScope N ps (uX st))(len:∀ts C R,G ts C R->ts.length=ps.length)
  (hbody:∀(cdv:Value) (A:Around) (outer:List Env) (s:Shared) (H:Hp) (E:XK),Room k (A.deeper (envOfC qual (uX st) s.heap.objs.size f cdv)) ->
   ∃c,CB (wR CX0 P w K mg base N qual (uX st) f cdv A outer s H E).nox (vK st) c/\∀ts C R,G ts C R->c { nx:=fun _ C'=>R .non C',rt:=R } (pL N ts) C):FnOk P w K mg base CX0 (k+1) f fd ps (spC K G):=by
 refine F.okJ S ?_ ?_
 .rintro vs H Q E ⟨ts,C,R,r,h,g,f⟩
  rw[r.len]; exact len ts C R g
 .rintro cdv A outer s H vs Q E hr ⟨ts,C,R,r,h,g,f⟩
  obtain⟨c,hc,q⟩:=hbody cdv A outer s H E hr;refine⟨_,hc.h,pL N ts,C,_,rE r,h,q ts C R g,⟨fun σ' H' ρ' C' q' s' h' f'=>f .non H' .non C' q' .non h' f',f,fun _ _ _ _ q' _ _ _=>q'.elim,fun _ _ _ _ q' _ _ _=>q'.elim⟩⟩
end
section
variable {X:Cx}{a b c e o i:Expr}{es:List Expr}{pos:Pos}
@[irreducible] def cI (g:Int->Int->PV):R2C:=fun x y C Q=>match x,y with
 |.int i,.int j=>Q (g i j) C
 |_,_=>False
def cIc (P:Int->Int->Prop)(g:Int->Int->PV):R2C:=fun x y C Q=>match x,y with
 |.int i,.int j=>P i j/\Q (g i j) C
 |_,_=>False
theorem Kq {K:PySem.W.Frag}{g:Int->Int->V}{g':Int->Int->PV}(hg:∀i j H,Rep K H (g i j) (g' i j)):Cop K (rI0 g) (cI g'):=fun x y px py H C Q R rx ry h q f=>by
 unfold cI at q
 split at q
 .cases rx; cases ry
  exact⟨_,_,rfl,rfl,f _ H _ C q (hg _ _ _) h Fw.refl⟩
 .exact q.elim
theorem bR {K:PySem.W.Frag}{P:Int->Int->Prop}{g:Int->Int->V}{g':Int->Int->PV}(hg:∀i j H,Rep K H (g i j) (g' i j)):Cop K (rI P g) (cIc P g'):=fun x y px py H C Q R rx ry h q f=>by
 unfold cIc at q
 split at q
 .cases rx; cases ry
  exact⟨_,_,rfl,rfl,q.1,f _ H _ C q.2 (hg _ _ _) h Fw.refl⟩
 .exact q.elim
theorem pJ {K:PySem.W.Frag}:Cop K (rI0 fun i j=>.int (i - j)) (cI fun i j=>.int (i - j)):=Kq fun _ _ _=>.int _
theorem cU {K:PySem.W.Frag}:Cop K (rI CMul fun i j=>.int (i * j)) (cIc CMul fun i j=>.int (i * j)):=bR fun _ _ _=>.int _
theorem rO {K:PySem.W.Frag}:Cop K (rI (fun _ j=>0 < j/\j < 18446744073709551616) fun i j=>.int (i / j)) (cIc (fun _ j=>0 < j/\j < 18446744073709551616) fun i j=>.int (i / j)):=bR fun _ _ _=>.int _
theorem hW {K:PySem.W.Frag}:Cop K (rI (fun _ j=>0 < j) fun i j=>.int (i % j)) (cIc (fun _ j=>0 < j) fun i j=>.int (i % j)):=bR fun _ _ _=>.int _
theorem gR {K:PySem.W.Frag}:Cop K (rI CPow fun i j=>.int (i ^ j.toNat)) (cIc CPow fun i j=>.int (i ^ j.toNat)):=bR fun _ _ _=>.int _
theorem jG {K:PySem.W.Frag}:Cop K (rI0 fun i j=>.bl (decide (i < j))) (cI fun i j=>.bl (decide (i < j))):=Kq fun _ _ _=>.bl _
theorem sZ {K:PySem.W.Frag}:Cop K (rI0 fun i j=>.bl (decide (j < i))) (cI fun i j=>.bl (decide (j < i))):=Kq fun _ _ _=>.bl _
def cNeg:PV->CH->K1->Prop:=fun x C Q=>match x with
 |.int i=>Q (.int (-i)) C
 |_=>False
theorem gM {K:PySem.W.Frag}:Cun K (rU fun i=>.int (-i)) cNeg:=fun x px H C Q R rx h q f=>by
 unfold cNeg at q
 split at q
 .cases rx; exact⟨_,rfl,f _ H _ C q (.int _) h Fw.refl⟩
 .exact q.elim
theorem xR {H H':Hp}{C:CH}(s:Same H H'):Fw H C H' C:=fun a c n=>⟨rfl,by
 cases e:H a with
 |none=>exact absurd e n
 |some o=>exact s a o e⟩
theorem bF {K:PySem.W.Frag}{H H':Hp}{C:CH}(h:HRel K H C)(s:Same H H'):HRel K H' C:=fun a o c=>by
 obtain⟨u,e,_⟩:=(h a o c).mut;exact(h a o c).imm (fun b v _ e=>s b v e) ((s a u e).trans e.symm)
@[irreducible] def dF:R2C:=fun x y C Q=>match x,y with
 |.int i,.int j=>Q (.int (i+j)) C
 |.str i,.str j=>i.length+j.length<=sizeLine/\Q (.str (i++j)) C
 |.tup xs,.tup ys=>xs.length+ys.length<=sizeLine/\Q (.tup (xs++ys)) C
 |.ref a,.ref b=>match C a,C b with
  |some (.lst xs),some (.lst ys)=>xs.length+ys.length<=sizeLine/\∀p,C p=none->Q (.ref p) (gQ C p (.lst (xs++ys)))
  |_,_=>False
 |_,_=>False
abbrev rAddC:R2:=fun x y H Q=>rI0 (fun i j=>.int (i+j)) x y H Q\/((∃i j,x=.str i/\y=.str j/\i.length+j.length<=sizeLine/\Q (.str (i++j)) H)\/(rCatU x y H Q\/rCat x y H Q))
theorem oQ:OpR X (binaryOp .Add) rAddC:=OpR.or op_add (OpR.or xA (OpR.or op_catU op_cat))
theorem tQ {K:PySem.W.Frag}:Cop K rAddC dF:=fun x y px py H C Q R rx ry h q f=>by
 unfold dF at q
 split at q
 .cases rx; cases ry
  exact .inl ⟨_,_,rfl,rfl,f _ H _ C q (.int _) h Fw.refl⟩
 .cases rx; cases ry
  exact .inr (.inl ⟨_,_,rfl,rfl,q.1,f _ H _ C q.2 (.str _) h Fw.refl⟩)
 .cases rx with
  |tup e r=>cases ry with
   |tup e' r' =>
    refine .inr (.inr (.inl ⟨_,_,_,_,rfl,rfl,e,e',by rw[r.len,r'.len]; exact q.1,fun z H' s hz _=>?_⟩));exact f _ H' _ C q.2 (.tup hz ((r.append r').imm fun b v _ e=>s b v e)) (bF h s) (xR s)
 .split at q
  .next xs ys e1 e2 =>
   obtain⟨vs,ev,rv⟩:=h _ _ e1;obtain⟨us,eu,ru⟩:=h _ _ e2;cases rx; cases ry
   refine .inr (.inr (.inr ⟨_,_,_,_,rfl,rfl,ev,eu,by rw[rv.len,ru.len]; exact q.1,fun p hp=>?_⟩));exact f _ _ _ _ (q.2 p (h.fresh hp)) (.ref p) (h.lay hp ⟨_,fQ,(rv.append ru).imm (Imm.new hp _)⟩) (Fw.lay hp _ _)
  .exact q.elim
 .exact q.elim
def sEq:PV->PV->Option Bool
 |.non,.non=>some true | .non,.int _=>some false | .int _,.non=>some false | .non,.bl _=>some false | .bl _,.non=>some false | .non,.str _=>some false | .str _,.non=>some false
 |.int i,.int j=>some (decide (i=j)) | .bl b,.bl c=>some (decide (b=c)) | .str x,.str y=>some (decide (x=y))
 |.int _,.str _=>some false | .str _,.int _=>some false | .bl _,.str _=>some false | .str _,.bl _=>some false
 |_,_=>none
@[irreducible] def cEq (k:Bool->Bool):R2C:=fun x y C Q=>match sEq x y with
 |some b=>Q (.bl (k b)) C
 |none=>False
theorem Qn {K:PySem.W.Frag}{H:Hp}{x y:V}{px py:PV}{b:Bool}(rx:Rep K H x px)(ry:Rep K H y py)(e:sEq px py=some b):scal x y=true/\decide (x=y)=b:=by
 cases rx<;>cases ry<;>cases e<;>exact⟨rfl,by simp⟩
theorem jX {K:PySem.W.Frag}:Cop K rEq (cEq id):=fun x y px py H C Q R rx ry h q f=>by
 unfold cEq at q
 split at q
 .next b e =>
  obtain⟨h1,h2⟩:=Qn rx ry e;refine⟨h1,?_⟩;rw[h2];exact f _ H _ C q (.bl _) h Fw.refl
 .exact q.elim
theorem cop_ne {K:PySem.W.Frag}:Cop K rNe (cEq not):=fun x y px py H C Q R rx ry h q f=>by
 unfold cEq at q
 split at q
 .next b e =>
  obtain⟨h1,h2⟩:=Qn rx ry e;refine⟨h1,?_⟩;rw[h2];exact f _ H _ C q (.bl _) h Fw.refl
 .exact q.elim
def qI:PV->Bool
 |.non=>true
 |_=>false
def cIs (k:Bool->Bool):R2C:=fun x y C Q=>match y with
 |.non=>Q (.bl (k (qI x))) C
 |_=>False
theorem kO {K:PySem.W.Frag}{H:Hp}{x:V}{px:PV}(r:Rep K H x px):decide (x=.non)=qI px:=by
 cases r<;>simp[qI]
theorem sD {K:PySem.W.Frag}:Cop K (fun x y H Q=>y=.non/\Q (.bl (decide (x=.non))) H) (cIs id):=fun x y px py H C Q R rx ry h q f=>by
 cases ry with
 |non=>exact⟨rfl,by rw[kO rx]; exact f _ H _ C q (.bl _) h Fw.refl⟩
 |_=>exact q.elim
theorem Kp {K:PySem.W.Frag}:Cop K (fun x y H Q=>y=.non/\Q (.bl (!decide (x=.non))) H) (cIs not):=fun x y px py H C Q R rx ry h q f=>by
 cases ry with
 |non=>exact⟨rfl,by rw[kO rx]; exact f _ H _ C q (.bl _) h Fw.refl⟩
 |_=>exact q.elim
def cAt (xs:List PV)(i:Int)(C:CH)(Q:K1):Prop:=match atI xs i with
 |some v=>Q v C
 |none=>False
@[irreducible] def cIx:R2C:=fun x y C Q=>match x,y with
 |.tup xs,.int i=>cAt xs i C Q
 |.kt xs,.int i=>cAt xs i C Q
 |.fz xs,.int i=>cAt xs i C Q
 |.ref a,.int i=>match C a with
  |some (.lst xs)=>cAt xs i C Q
  |_=>False
 |.str z,.int i=>z.length<=sizeLine/\match atI z.cps.toList i with
  |some c=>Q (.str ⟨#[c]⟩) C
  |none=>False
 |_,_=>False
theorem Reps.at {K:PySem.W.Frag}{H:Hp}{vs:List V}{ts:List PV}{i:Int}{t:PV}(r:Reps K H vs ts)(e:atI ts i=some t):∃v,atI vs i=some v/\Rep K H v t:=by
 unfold atI at e ⊢;rw[r.len]
 cases z:ixN ts.length i with
 |none=>rw[z] at e; cases e
 |some j =>
  rw[z] at e;exact r.get e
theorem tR {K:PySem.W.Frag}{H:Hp}{C:CH}{vs:List V}{ts:List PV}{i:Int}{R:K1}(r:Reps K H vs ts)(q:cAt ts i C R):∃v t,atI vs i=some v/\Rep K H v t/\R t C:=by
 unfold cAt at q
 split at q
 .next t e =>
  obtain⟨v,e',r'⟩:=r.at e;exact⟨v,t,e',r',q⟩
 .exact q.elim
theorem cop_ix {K:PySem.W.Frag}:Cop K (rIx K) cIx:=fun x y px py H C Q R rx ry h q f=>by
 unfold cIx at q
 split at q
 .cases ry
  cases rx with
  |tup e r =>
   obtain⟨v,t,e',r',q⟩:=tR r q;exact .inr (.inl ⟨_,_,_,v,rfl,rfl,SqT.of e,e',f _ H _ C q r' h Fw.refl⟩)
 .cases ry
  cases rx with
  |kt e r =>
   obtain⟨v,t,e',r',q⟩:=tR r q;exact .inr (.inl ⟨_,_,_,v,rfl,rfl,e,e',f _ H _ C q r' h Fw.refl⟩)
 .cases ry
  cases rx with
  |fz e r =>
   obtain⟨v,t,e',r',q⟩:=tR r q;exact .inl ⟨_,_,_,v,rfl,rfl,e.sq,e',f _ H _ C q r' h Fw.refl⟩
 .cases ry
  split at q
  .next xs e =>
   obtain⟨vs,ev,rv⟩:=h _ _ e;cases rx;obtain⟨v,t,e',r',q⟩:=tR rv q;exact .inl ⟨_,_,_,v,rfl,rfl,SqL.of ev,e',f _ H _ C q r' h Fw.refl⟩
  .exact q.elim
 .cases ry; cases rx
  obtain⟨q1,q2⟩:=q
  split at q2
  .next c e=>exact .inr (.inr ⟨_,_,c,rfl,rfl,q1,e,f _ H _ C q2 (.str _) h Fw.refl⟩)
  .exact q2.elim
 .exact q.elim
theorem ix_seqC:IxR X (rIx X.K):=ix_seq
@[irreducible] def mH:GC:=fun ts C Q=>match ts with
 |[.tup xs]=>Q (.int xs.length) C
 |[.kt xs]=>Q (.int xs.length) C
 |[.fz xs]=>Q (.int xs.length) C
 |[.ref a]=>match C a with
  |some (.lst xs)=>Q (.int xs.length) C
  |some (.dK kvs)=>Q (.int kvs.length) C
  |_=>False
 |[.str z]=>z.length<=sizeLine/\Q (.int z.length) C
 |_=>False
abbrev rLenC (K:PySem.W.Frag):List V->Hp->VK->Prop:=fun xs H Q=>(∃p ys,xs=[.ref p]/\(SqL K H p ys\/SqT K H p ys)/\Q (.int ys.length) H)\/((∃a kvs,xs=[V.ref a]/\H a=some (.dK kvs)/\Q (.int kvs.length) H)\/∃z,xs=[.str z]/\z.length<=sizeLine/\Q (.int z.length) H)
theorem X4:CallR X (.builtin "len") (rLenC X.K):=CallR.or nR (CallR.or X3 rR)
theorem jZ {K:PySem.W.Frag}{H:Hp}{xs:List V}{t:PV}(r:Reps K H xs [t]):∃v,xs=[v]/\Rep K H v t:=by
 cases r with
 |cons h r=>cases r; exact⟨_,rfl,h⟩
theorem qM {K:PySem.W.Frag}{H:Hp}{xs:List V}{t u:PV}(r:Reps K H xs [t,u]):∃v w,xs=[v,w]/\Rep K H v t/\Rep K H w u:=by
 cases r with
 |cons h r=>obtain⟨w,rfl,h'⟩:=jZ r; exact⟨_,w,rfl,h,h'⟩
theorem cbi_len {K:PySem.W.Frag}:Cbi K (rLenC K) mH:=fun xs ps H C Q R rs h q f=>by
 unfold mH at q
 split at q
 .obtain ⟨v,rfl,r⟩:=jZ rs
  cases r with
  |tup e r=>exact .inl ⟨_,_,rfl,.inr (SqT.of e),f _ H _ C (by rw[r.len]; exact q) (.int _) h Fw.refl⟩
 .obtain ⟨v,rfl,r⟩:=jZ rs
  cases r with
  |kt e r=>exact .inl ⟨_,_,rfl,.inr e,f _ H _ C (by rw[r.len]; exact q) (.int _) h Fw.refl⟩
 .obtain ⟨v,rfl,r⟩:=jZ rs
  cases r with
  |fz e r=>exact .inl ⟨_,_,rfl,.inl e.sq,f _ H _ C (by rw[r.len]; exact q) (.int _) h Fw.refl⟩
 .obtain ⟨v,rfl,r⟩:=jZ rs
  split at q
  .next xs e =>
   obtain⟨vs,ev,rv⟩:=h _ _ e;cases r;exact .inl ⟨_,_,rfl,.inl (SqL.of ev),f _ H _ C (by rw[rv.len]; exact q) (.int _) h Fw.refl⟩
  .next kvs e =>
   obtain⟨vs,ev,rv⟩:=h _ _ e;cases r;exact .inr (.inl ⟨_,_,rfl,ev,f _ H _ C (by rw[Paired.length rv]; exact q) (.int _) h Fw.refl⟩)
  .exact q.elim
 .obtain ⟨v,rfl,r⟩:=jZ rs
  cases r;exact .inr (.inr ⟨_,rfl,q.1,f _ H _ C q.2 (.int _) h Fw.refl⟩)
 .exact q.elim
def tyP (C:CH):PV->Option Ty
 |.non=>some .non
 |.bl _=>some .bl
 |.int _=>some .int
 |.str _=>some .str
 |.tup _=>some .tup
 |.ref a=>match C a with
  |some (.lst _)=>some .lst
  |some (.dK _)=>some .dct
  |_=>none
 |_=>none
theorem tyP_rep {K:PySem.W.Frag}{H:Hp}{C:CH}{x:V}{t:PV}{n:Ty}(r:Rep K H x t)(h:HRel K H C)(e:tyP C t=some n):tyN H x=some n:=by
 cases r with
 |tup e' _=>cases e; show(H _).bind tyH=_; rw[e']; rfl
 |ref a =>
  unfold tyP at e;dsimp only at e
  split at e
  .next xs c=>cases e; obtain⟨vs,ev,_⟩:=h _ _ c; show(H _).bind tyH=_; rw[ev]; rfl
  .next xs c=>cases e; obtain⟨vs,ev,_⟩:=h _ _ c; show(H _).bind tyH=_; rw[ev]; rfl
  .cases e
 |kt _ _=>cases e
 |fz _ _=>cases e
 |ty _=>cases e
 |vw _=>cases e
 |_=>cases e; rfl
def sB (n:String):Option Ty:=[Ty.non,.bl,.int,.str,.lst,.tup,.dct].find? fun t=>mG t==n
theorem gS {n:String}{t:Ty}(h:sB n=some t):n=mG t:=by
 have:=List.find?_some h;exact(eq_of_beq this).symm
@[irreducible] def cIsi:GC:=fun ts C Q=>match ts with
 |[x,.ty n]=>match sB n,tyP C x with
  |some T,some k=>Q (.bl (zW k T)) C
  |_,_=>False
 |_=>False
theorem pM {K:PySem.W.Frag}:Cbi K (fun xs H Q=>∃x T n,xs=[x,.ty (mG T)]/\tyN H x=some n/\Q (.bl (zW n T)) H) cIsi:=fun xs ps H C Q R rs h q f=>by
 unfold cIsi at q
 split at q
 .split at q
  .next T k e1 e2 =>
   obtain⟨v,w,rfl,r1,r2⟩:=qM rs;cases r2;rw[gS e1];exact⟨v,T,k,rfl,tyP_rep r1 h e2,f _ H _ C q (.bl _) h Fw.refl⟩
  .exact q.elim
 .exact q.elim
def cAbs:GC:=fun ts C Q=>match ts with
 |[.int i]=>Q (.int (if i < 0 then -i else i)) C
 |_=>False
theorem cbi_abs {K:PySem.W.Frag}:Cbi K (fun xs H Q=>∃i,xs=[.int i]/\Q (.int (if i < 0 then -i else i)) H) cAbs:=fun xs ps H C Q R rs h q f=>by
 unfold cAbs at q
 split at q
 .obtain ⟨v,rfl,r⟩:=jZ rs
  cases r;exact⟨_,rfl,f _ H _ C q (.int _) h Fw.refl⟩
 .exact q.elim
@[irreducible] def pF:GC:=fun ts C Q=>match ts with
 |[.tup xs]=>Q (.tup xs) C
 |[.ref a]=>match C a with
  |some (.lst xs)=>Q (.tup xs) C
  |_=>False
 |_=>False
theorem cbi_tup {K:PySem.W.Frag}:Cbi K (fun xs H Q=>∃p ys,xs=[.ref p]/\((SqL K H p ys/\∀l,H l=none->Q (.ref l) (upd H l (.tup ys)))\/(SqT K H p ys/\Q (.ref p) H))) pF:=fun xs ps H C Q R rs h q f=>by
 unfold pF at q
 split at q
 .obtain ⟨v,rfl,r⟩:=jZ rs
  cases r with
  |tup e r=>exact⟨_,_,rfl,.inr ⟨SqT.of e,f _ H _ C q (.tup e r) h Fw.refl⟩⟩
 .obtain ⟨v,rfl,r⟩:=jZ rs
  split at q
  .next xs e =>
   obtain⟨vs,ev,rv⟩:=h _ _ e;cases r;exact⟨_,_,rfl,.inl ⟨SqL.of ev,fun l hl=>f _ _ _ C q (.tup fQ (rv.imm (Imm.new hl _))) (h.new hl _) (Fw.new hl _)⟩⟩
  .exact q.elim
 .exact q.elim
def yD:List PV->Option (List Bool)
 |[]=>some []
 |.bl b::r=>(yD r).map (b :: ·)
 |_=>none
@[irreducible] def cAll:GC:=fun ts C Q=>match ts with
 |[.ref a]=>match C a with
  |some (.lst xs)=>match yD xs with
   |some bs=>Q (.bl (bs.all id)) C
   |none=>False
  |_=>False
 |_=>False
theorem X5 {K:PySem.W.Frag}{H:Hp}{vs:List V}{ts:List PV}{bs:List Bool}(r:Reps K H vs ts)(e:yD ts=some bs):vs=bs.map V.bl:=by
 induction ts generalizing vs bs with
 |nil=>cases r; cases e; rfl
 |cons t ts ih =>
  cases r with
  |@cons v _ vs _ h r =>
   cases t with
   |bl b =>
    unfold yD at e
    cases z:yD ts with
    |none=>rw[z] at e; cases e
    |some cs =>
     rw[z] at e;injection e with e
     subst e;cases h;rw[ih r z]; rfl
   |_=>cases e
theorem cbi_all {K:PySem.W.Frag}:Cbi K (fun xs H Q=>∃p ys,xs=[.ref p]/\SqL K H p (List.map V.bl ys)/\Q (.bl (ys.all id)) H) cAll:=fun xs ps H C Q R rs h q f=>by
 unfold cAll at q
 split at q
 .obtain ⟨v,rfl,r⟩:=jZ rs
  split at q
  .next xs e =>
   split at q
   .next bs eb =>
    obtain⟨vs,ev,rv⟩:=h _ _ e;cases r;have:=X5 rv eb;subst this;exact⟨_,bs,rfl,SqL.of ev,f _ H _ C q (.bl _) h Fw.refl⟩
   .exact q.elim
  .exact q.elim
 .exact q.elim
def isL (x:PV)(C:CH):Prop:=match x with
 |.ref a=>match C a with
  |some (.lst _)=>True
  |_=>False
 |_=>False
def cBM (cr:PV->List PV->CH->K1->Prop)(co:TCE)(ca:TCA):TCE:=fun ρ C Q=>co ρ C fun x C1=>isL x C1/\ca ρ C1 fun xs C2=>cr x xs C2 Q
def Cmt (K:PySem.W.Frag)(r:V->List V->Hp->VK->Prop)(cr:PV->List PV->CH->K1->Prop):Prop:=∀x px xs ps H C Q R,Rep K H x px->Reps K H xs ps->HRel K H C->cr px ps C R->(∀v H' t C',R t C'->Rep K H' v t->HRel K H' C'->Fw H C H' C'->Q v H')->r x xs H Q
theorem JQ {K:PySem.W.Frag}{H:Hp}{C:CH}{x:V}{t:PV}(l:isL t C)(r:Rep K H x t)(h:HRel K H C):tyV K "list" x H:=by
 unfold isL at l
 split at l
 .split at l
  .next e=>obtain⟨vs,ev,_⟩:=h _ _ e; cases r; exact .inl ⟨rfl,vs,SqL.of ev⟩
  .exact l.elim
 .exact l.elim
theorem ce_bm {name:Str}{id:String}{apos cpos:Pos}{r:V->List V->Hp->VK->Prop}{cr:PV->List PV->CH->K1->Prop}{co:TCE}{ca:TCA}(pa:PlainAttrs "list")(slot:Slot "list" name id)(hty:typeOf (.builtin id)=pure (.type "method_descriptor"))(hm:MtR X id r)(hr:Cmt X.K r cr)(ho:CE X o co)(ha:CA X (e::es) ca)
  (hbase:attributeBase o name X.env (eval o X.env)=eval o X.env:=by rfl)
  (hfew:((backTo cpos (starEach (e::es) X.env)).all (fun x=>!x.1)&&(backToKw cpos (keywordEach [] X.env)).all (fun x=>x.1.isSome)
   && decide ((e::es).length+([]:List Keyword).length+(if ([]:List Keyword).isEmpty then 0 else 1) < 30))=true:=by rfl)
  (hline:(apos.endLine==cpos.line)=true:=by rfl) (hs:iQ e=true:=by rfl) (hall:es.all iQ=true:=by rfl) :
  CE X (.Call (.Attribute o name apos) (e::es) [] cpos) (cBM cr co ca):=⟨JE.weak (je_bm pa slot hty hm ho.h ha.h hbase hfew hline hs hall) fun σ H Q ⟨ρ,C,R,s,h,q,f⟩ =>
 ⟨ρ,C,_,s,h,q,fun x H1 px C1 q1 rx h1 f1=>⟨JQ q1.1 rx h1,ρ,C1,_,s.imm (f1.imm h),h1,q1.2,fun xs H2 ps C2 q2 rs h2 f2 =>
  hr x px xs ps H2 C2 Q R (rx.imm (f2.imm h1)) rs h2 q2 fun v H' t C' q' r' h' f'=>f v H' t C' q' r' h' (f1.trans (f2.trans f'))⟩⟩⟩
@[irreducible] def nW:PV->List PV->CH->K1->Prop:=fun x ts C Q=>match x,ts with
 |.ref a,[y]=>match C a with
  |some (.lst xs)=>xs.length < sizeLine/\Q .non (gQ C a (.lst (xs++[y])))
  |_=>False
 |_,_=>False
theorem mI {K:PySem.W.Frag}:Cmt K Qp nW:=fun x px xs ps H C Q R rx rs h q f=>by
 unfold nW at q
 split at q
 .split at q
  .next ys e =>
   obtain⟨vs,ev,rv⟩:=h _ _ e;obtain⟨v,rfl,r⟩:=jZ rs;cases rx;exact⟨_,vs,v,rfl,rfl,ev,by rw[rv.len]; exact q.1,f _ _ _ _ q.2 .non (h.put ev rfl ⟨_,fQ,(rv.append (.cons r .nil)).imm (Imm.mut ev rfl _)⟩) (Fw.put e _ _)⟩
  .exact q.elim
 .exact q.elim
end
def kK:PV->Option Key
 |.non=>some (.inl none)
 |.int i=>some (.inl (some i))
 |.str x=>some (.inr x)
 |_=>none
def mK:Key->PV
 |.inl none=>.non
 |.inl (some i)=>.int i
 |.inr x=>.str x
theorem keyOf_keyPV (k:Key):kK (mK k)=some k:=by rcases k with (_ | i) | x<;>rfl
theorem Xg {K:PySem.W.Frag}{H:Hp}(k:Key):Rep K H (kV k) (mK k):=by
 rcases k with (_ | i) | x
 .exact .non
 .exact .int i
 .exact .str x
theorem uY {K:PySem.W.Frag}{H:Hp}{v:V}{t:PV}{k:Key}(r:Rep K H v t)(e:kK t=some k):v=kV k:=by
 cases r<;>cases e<;>rfl
def hZ (kvs:List (Key×PV))(k:Key):Option PV:=(kvs.find? fun kv=>decide (kv.1=k)).map (·.2)
def cZ (kvs:List (Key×PV))(k:Key)(v:PV):List (Key×PV):=if (kvs.any fun kv=>decide (kv.1=k))=true then kvs.map fun kv=>if kv.1=k then (kv.1,v) else kv else kvs++[(k,v)]
def aV (kvs more:List (Key×PV)):List (Key×PV):=more.foldl (fun acc kv=>cZ acc kv.1 kv.2) kvs
section
variable {K:PySem.W.Frag}{H:Hp}{vs:List (Key×V)}{kvs:List (Key×PV)}
theorem KP.val (r:KP K H vs kvs)(k:Key):(∃v t,xY vs k=some v/\hZ kvs k=some t/\Rep K H v t)\/(xY vs k=none/\hZ kvs k=none):=by
 induction r with
 |nil=>exact .inr ⟨rfl,rfl⟩
 |@cons p q l1 l2 h r ih =>
  unfold xY hZ;rw[List.find?_cons,List.find?_cons,h.1]
  by_cases e:q.1=k
  .rw [decide_eq_true e]
   exact .inl ⟨p.2,q.2,rfl,rfl,h.2⟩
  .rw [decide_eq_false e]
   exact ih
theorem KP.any (r:KP K H vs kvs)(k:Key):(vs.any fun kv=>decide (kv.1=k))=(kvs.any fun kv=>decide (kv.1=k)):=by
 induction r with
 |nil=>rfl
 |@cons p q l1 l2 h r ih=>rw[List.any_cons,List.any_cons,h.1,ih]
theorem KP.put (r:KP K H vs kvs)(k:Key){v:V}{t:PV}(h:Rep K H v t):KP K H (bK vs k v) (cZ kvs k t):=by
 unfold bK cZ;rw[r.any k]
 have upd:KP K H (vs.map fun kv=>if kv.1=k then (kv.1,v) else kv) (kvs.map fun kv=>if kv.1=k then (kv.1,t) else kv):=by
  induction r with
  |nil=>exact .nil
  |@cons p q l1 l2 h' r ih =>
   refine .cons ?_ ih;dsimp only
   by_cases e:q.1=k
   .rw [if_pos (h'.1.trans e),if_pos e]; exact⟨h'.1,h⟩
   .rw [if_neg (fun z=>e (h'.1.symm.trans z)),if_neg e]; exact h'
 split
 .exact upd
 .exact Paired.snoc r ⟨rfl,h⟩
theorem KP.merge {ws:List (Key×V)}{more:List (Key×PV)}(r:KP K H vs kvs)(m:KP K H ws more):KP K H (iV vs ws) (aV kvs more):=by
 induction m generalizing vs kvs with
 |nil=>exact r
 |@cons p q l1 l2 h _ ih =>
  have e:p.1=q.1:=h.1;show KP K H (iV (bK vs p.1 p.2) l1) (aV (cZ kvs q.1 q.2) l2);rw[e];exact ih (r.put q.1 h.2)
end
def dOf:Option CO->Option (List (Key×PV))
 |some (.dK kvs)=>some kvs
 |some (.fK kvs)=>some kvs
 |_=>none
theorem dOf_rd {K:PySem.W.Frag}{H:Hp}{C:CH}{a:Addr}{kvs:List (Key×PV)}(h:HRel K H C)(e:dOf (C a)=some kvs):∃vs,Rd H a (.dK vs)/\KP K H vs kvs:=by
 cases c:C a with
 |none=>rw[c] at e; cases e
 |some o =>
  rw[c] at e
  cases o with
  |lst xs=>cases e
  |dT l=>cases e
  |fT l=>cases e
  |dP l=>cases e
  |ins c dx fs=>cases e
  |dK l=>cases e; obtain⟨vs,q,r⟩:=h a _ c; exact⟨vs,.inl q,r⟩
  |fK l=>cases e; obtain⟨o,vs,q,r⟩:=h a _ c; exact⟨vs,.inr ⟨o,q⟩,r⟩
section
variable {X:Cx}{a b c e o i f:Expr}{es:List Expr}{pos:Pos}{value:Expr}
@[irreducible] def fH:R2C:=fun x y C Q=>match x with
 |.ref a=>match dOf (C a),kK y with
  |some kvs,some k=>match hZ kvs k with
   |some v=>Q v C
   |none=>False
  |_,_=>False
 |_=>False
theorem QP {K:PySem.W.Frag}{H:Hp}{C:CH}{a:Addr}{y:V}{py:PV}{kvs:List (Key×PV)}{k:Key}(h:HRel K H C)(e1:dOf (C a)=some kvs)(ry:Rep K H y py)(e2:kK py=some k):
  (∃v t,DGet H a y (some v)/\hZ kvs k=some t/\Rep K H v t)\/(DGet H a y none/\hZ kvs k=none):=by
 obtain⟨vs,q,r⟩:=dOf_rd h e1;have ey:=uY ry e2;subst ey
 rcases r.val k with ⟨v,t,h1,h2,h3⟩ | ⟨h1,h2⟩
 .exact .inl ⟨v,t,.inl ⟨vs,k,q,rfl,h1.symm⟩,h2,h3⟩
 .exact .inr ⟨.inl ⟨vs,k,q,rfl,h1.symm⟩,h2⟩
theorem fZ {co ci:TCE}(hu:X.A.units+1 < cLine)(ho:CE X o co)(hi:CE X i ci)(hs:Qc i):CE X (.Subscript o i pos) (cOp fH co ci):=⟨JE.weak (QD hu ho.h hi.h hs) fun σ H Q ⟨ρ,C,R,s,h,q,f⟩ =>
 ⟨ρ,C,_,s,h,q,fun x H1 px C1 q1 rx h1 f1=>⟨ρ,C1,_,s.imm (f1.imm h),h1,q1,fun y H2 py C2 q2 ry h2 f2=>by
  unfold fH at q2
  split at q2
  .next a =>
   split at q2
   .next kvs k e1 e2 =>
    split at q2
    .next t e3 =>
     have rx2:=rx.imm (f2.imm h1);cases rx2
     rcases QP h2 e1 ry e2 with ⟨v,t',g,e4,r⟩ | ⟨_,e4⟩
     .rw [e3] at e4
      cases e4;exact⟨a,v,rfl,g,f v H2 t C2 q2 r h2 (f1.trans f2)⟩
     .rw [e3] at e4; cases e4
    .exact q2.elim
   .exact q2.elim
  .exact q2.elim⟩⟩⟩
def JU (x:PV)(C:CH):Prop:=match x with
 |.ref a=>match C a with
  |some (.dK _)=>True
  |_=>False
 |_=>False
@[irreducible] def Q4:PV->PV->PV->CH->K1->Prop:=fun x y z C Q=>match x with
 |.ref a=>match dOf (C a),kK y with
  |some kvs,some k=>Q ((hZ kvs k).getD z) C
  |_,_=>False
 |_=>False
def KM (co ck cz:TCE):TCE:=fun ρ C Q=>co ρ C fun x C1=>JU x C1/\ck ρ C1 fun y C2=>cz ρ C2 fun z C3=>Q4 x y z C3 Q
theorem isDk_of {K:PySem.W.Frag}{H:Hp}{C:CH}{x:V}{t:PV}(d:JU t C)(r:Rep K H x t)(h:HRel K H C):∃a kvs,x=.ref a/\t=.ref a/\H a=some (.dK kvs):=by
 unfold JU at d
 split at d
 .split at d
  .next e=>obtain⟨vs,ev,_⟩:=h _ _ e; cases r; exact⟨_,vs,rfl,rfl,ev⟩
  .exact d.elim
 .exact d.elim
theorem KB {co ck cz:TCE}{apos cpos:Pos}(hu:X.A.units+1 < cLine)(ho:CE X o co)(he:CE X e ck)(hf:CE X f cz)(hb:attributeBase o "get" X.env (eval o X.env)=eval o X.env:=by rfl)(hl:(apos.endLine==cpos.line)=true:=by rfl)
  (h1:iQ e=true:=by rfl) (h2:iQ f=true:=by rfl):CE X (.Call (.Attribute o "get" apos) [e,f] [] cpos) (KM co ck cz):=⟨JE.weak (zO hu ho.h he.h hf.h hb hl h1 h2) fun σ H Q ⟨ρ,C,R,s,h,q,f⟩ =>
 ⟨ρ,C,_,s,h,q,fun x H1 px C1 q1 rx h1 f1=>by
  obtain⟨a,kvs,rfl,rfl,e1⟩:=isDk_of q1.1 rx h1;refine⟨a,rfl,.inl ⟨kvs,.inl e1⟩,ρ,C1,_,s.imm (f1.imm h),h1,q1.2,fun y H2 py C2 q2 ry h2 f2=>⟨ρ,C2,_,(s.imm (f1.imm h)).imm (f2.imm h1),h2,q2,fun z H3 pz C3 q3 rz h3 f3=>?_⟩⟩;unfold Q4 at q3;dsimp only at q3
  split at q3
  .next kvs' k d1 d2 =>
   rcases QP h3 d1 (ry.imm (f3.imm h2)) d2 with ⟨v,t',g,e4,r⟩ | ⟨g,e4⟩
   .rw [e4] at q3
    exact⟨some v,g,f v H3 t' C3 q3 r h3 (f1.trans (f2.trans f3))⟩
   .rw [e4] at q3
    exact⟨none,g,f z H3 pz C3 q3 rz h3 (f1.trans (f2.trans f3))⟩
  .exact q3.elim⟩⟩
@[irreducible] def eP:PV->PV->PV->CH->(CH->Prop)->Prop:=fun x y v C Q=>match x with
 |.ref a=>match C a,kK y with
  |some (.dK kvs),some k=>kvs.length < sizeLine/\Q (gQ C a (.dK (cZ kvs k v)))
  |_,_=>False
 |_=>False
def cDPut (co ck cv:TCE):TCS:=fun E ρ C=>cv ρ C fun v C1=>co ρ C1 fun x C2=>ck ρ C2 fun y C3=>eP x y v C3 fun C4=>E.nx ρ C4
theorem wK {pos':Pos}{co ck cv:TCE}(hu:X.A.units+1 < cLine)(ho:CE X o co)(hi:CE X i ck)(hv:CE X value cv)(hs:swapsWith value (some (.Subscript o i pos')) pos.line X.env=pure false:=by rfl):
  CS X (.Assign [.Subscript o i pos'] value pos) (cDPut co ck cv):=⟨JS.weak (QB hu ho.h hi.h hv.h hs) fun D σ H ⟨ρ,C,E,s,h,q,f⟩ =>
 ⟨ρ,C,_,s,h,q,fun v H1 pv C1 q1 rv h1 f1=>⟨ρ,C1,_,s.imm (f1.imm h),h1,q1,fun x H2 px C2 q2 rx h2 f2=>⟨ρ,C2,_,(s.imm (f1.imm h)).imm (f2.imm h1),h2,q2,fun y H3 py C3 q3 ry h3 f3=>by
  have s3:=((s.imm (f1.imm h)).imm (f2.imm h1)).imm (f3.imm h2);have rv3:=rv.imm ((f2.trans f3).imm h1);unfold eP at q3
  split at q3
  .next a =>
   split at q3
   .next kvs k e1 e2 =>
    have rx3:=rx.imm (f3.imm h2);cases rx3;obtain⟨vs,ev,r⟩:=h3 a _ e1;have ey:=uY ry e2;subst ey;have hl:vs.length=kvs.length:=Paired.length r;have m:Imm H3 (upd H3 a (.dK (bK vs k v))):=Imm.mut ev rfl _;refine⟨a,_,rfl,DPut.k ev (by rw[hl]; exact q3.1),f.nx σ _ ρ _ q3.2 (s3.imm m) (h3.put ev rfl ⟨_,fQ,Paired.mapP (r.put k rv3) fun _ _ z=>⟨z.1,z.2.imm m⟩⟩) (f1.trans (f2.trans (f3.trans (Fw.put e1 _ _))))⟩
   .exact q3.elim
  .exact q3.elim⟩⟩⟩⟩
def fW:List PV->Option (List (Key×PV))
 |[]=>some []
 |.tup [k,v]::r=>match kK k,fW r with
  |some k,some ps=>some ((k,v)::ps)
  |_,_=>none
 |_=>none
theorem xT {K:PySem.W.Frag}{H:Hp}{vs:List V}{ts:List PV}{ps:List (Key×PV)}(r:Reps K H vs ts)(e:fW ts=some ps):∃pa ws,vs=List.map V.ref pa/\wG H pa ws/\KP K H ws ps:=by
 induction ts generalizing vs ps with
 |nil=>cases r; cases e; exact⟨[],[],rfl,.nil,.nil⟩
 |cons t ts ih =>
  cases r with
  |@cons v _ vs _ h r =>
   cases h with
   |@tup a ws xs e1 r1 =>
    rcases xs with _ | ⟨k,_ | ⟨u,_ | ⟨z,xs⟩⟩⟩
    .cases e
    .cases e
    .unfold fW at e
     split at e
     .next k' ps' k1 k2 =>
      cases e;obtain⟨pa,ws',rfl,p1,p2⟩:=ih r k2;obtain⟨v1,v2,rfl,r2,r3⟩:=qM r1;have ek:=uY r2 k1;subst ek;exact⟨a::pa,(k',v2)::ws',rfl,.cons e1 p1,.cons ⟨rfl,r3⟩ p2⟩
     .cases e
    .cases e
   |_=>cases e
@[irreducible] def xL:GC:=fun ts C Q=>match ts with
 |[.tup xs]=>match fW xs with
  |some ps=>ps.length<=sizeLine/\∀p,C p=none->Q (.ref p) (gQ C p (.dK (aV [] ps)))
  |none=>False
 |_=>False
theorem KH {K:PySem.W.Frag}:Cbi K (fun xs H Q=>∃t pa ps,xs=[.ref t]/\H t=some (.tup (List.map V.ref pa))/\wG H pa ps/\ps.length<=sizeLine/\∀d,H d=none->Q (.ref d) (upd H d (.dK (iV [] ps)))) xL:=fun xs ts H C Q R rs h q f=>by
 unfold xL at q
 split at q
 .split at q
  .next ps e =>
   obtain⟨v,rfl,r⟩:=jZ rs
   cases r with
   |@tup a vs xs e1 r1 =>
    obtain⟨pa,ws,rfl,p1,p2⟩:=xT r1 e;refine⟨a,pa,ws,rfl,e1,p1,by rw[Paired.length p2]; exact q.1,fun d hd=>?_⟩;exact f _ _ _ _ (q.2 d (h.fresh hd)) (.ref d) (h.lay hd ⟨_,fQ,Paired.mapP (KP.merge .nil p2) fun _ _ z=>⟨z.1,z.2.imm (Imm.new hd _)⟩⟩) (Fw.lay hd _ _)
  .exact q.elim
 .exact q.elim
@[irreducible] def cUpdP:PV->List PV->CH->K1->Prop:=fun x ts C Q=>match x,ts with
 |.ref a,[.tup xs]=>match C a,fW xs with
  |some (.dK kvs),some ps=>kvs.length+ps.length<=sizeLine/\Q .non (gQ C a (.dK (aV kvs ps)))
  |_,_=>False
 |_,_=>False
@[irreducible] def cItems (co:TCE):TCE:=fun ρ C Q=>co ρ C fun x C1=>match x with
 |.ref a=>match C1 a with
  |some (.dK _)=>Q (.vw a) C1
  |_=>False
 |_=>False
end
end CL
namespace CL
open PySem PySem.Spec L2 PySem.W
open PyProof.Rows hiding St
def dQ (c:Str×Int):PV:=.tup [.str c.1,.int c.2]
def sE:List PV->Option (List (Str×Int))
 |[]=>some []
 |.tup [.str x,.int i]::r=>(sE r).map ((x,i) :: ·)
 |_=>none
def siK:List (Key×PV)->Option (List (Str×Int))
 |[]=>some []
 | (.inr x,.int i)::r=>(siK r).map ((x,i) :: ·)
 |_=>none
def oE (cs:List (Str×Int)):Nat->Nat->Bool:=fun i j=>Jo (cs.getD i ("",0)) (cs.getD j ("",0))
def sY (cs:List (Str×Int)):List (Str×Int):=(tG (oE cs) (kas_sort cs.length)).toList.map fun i=>cs.getD i ("",0)
theorem cS:∀cs:List (Str×Int),sE (cs.map dQ)=some cs
 |[]=>rfl
 |c::cs=>by
  show(sE (cs.map dQ)).map _=_;rw[cS cs]; rfl
theorem siOf_eq {ts:List PV}{cs:List (Str×Int)}(e:sE ts=some cs):ts=cs.map dQ:=by
 induction ts generalizing cs with
 |nil=>cases e; rfl
 |cons t ts ih =>
  unfold sE at e
  split at e
  .rename_i h; cases h
  .rename_i x i r h
   cases h
   cases z:sE ts with
   |none=>rw[z] at e; cases e
   |some ds =>
    rw[z] at e;cases e;rw[ih z]; rfl
  .cases e
theorem siK_eq {ts:List (Key×PV)}{cs:List (Str×Int)}(e:siK ts=some cs):ts=cs.map fun c=>(Sum.inr c.1,PV.int c.2):=by
 induction ts generalizing cs with
 |nil=>cases e; rfl
 |cons t ts ih =>
  unfold siK at e
  split at e
  .rename_i h; cases h
  .rename_i x i r h
   cases h
   cases z:siK ts with
   |none=>rw[z] at e; cases e
   |some ds =>
    rw[z] at e;cases e;rw[ih z]; rfl
  .cases e
section
variable {K:PySem.W.Frag}{H:Hp}{X:Cx}
theorem si_at {ys:List V}{cs:List (Str×Int)}(r:Reps K H ys (cs.map dQ)):∀i,i < ys.length->KW H (ys.getD i .non) (cs.getD i ("",0)):=by
 induction cs generalizing ys with
 |nil=>cases r; intro i hi; exact absurd hi (Nat.not_lt_zero i)
 |cons c cs ih =>
  cases r with
  |@cons v _ vs _ h r =>
   intro i hi
   cases i with
   |zero =>
    cases h with
    |tup e r1 =>
     obtain⟨v1,v2,rfl,r2,r3⟩:=qM r1;cases r2; cases r3
     exact⟨_,rfl,e⟩
   |succ i=>exact ih r i (Nat.lt_of_succ_lt_succ hi)
theorem Reps.getD {ys:List V}{ts:List PV}(r:Reps K H ys ts){d:PV}:∀i,i < ys.length->Rep K H (ys.getD i .non) (ts.getD i d):=by
 induction ts generalizing ys with
 |nil=>cases r; intro i hi; exact absurd hi (Nat.not_lt_zero i)
 |cons c cs ih =>
  cases r with
  |@cons v _ vs _ h r =>
   intro i hi
   cases i with
   |zero=>exact h
   |succ i=>exact ih r i (Nat.lt_of_succ_lt_succ hi)
theorem Qx {ys:List V}{cs:List (Str×Int)}(lt:Nat->Nat->Bool)(r:Reps K H ys (cs.map dQ)):Reps K H (lG lt ys) (((tG lt (kas_sort cs.length)).toList.map fun i=>cs.getD i ("",0)).map dQ):=by
 have hl:ys.length=cs.length:=by rw[r.len,List.length_map]
 unfold lG;rw[hl]
 have mem:∀i∈(tG lt (kas_sort cs.length)).toList,i < ys.length:=by
  intro i hi
  by_cases h:0 < cs.length
  .have:=(gY lt cs.length h).mem_iff.mp hi
   rw[hl]; exact List.mem_range.mp this
  .have e:cs.length=0:=by omega
   rw[e] at hi;rw[run0] at hi;cases hi
 generalize (tG lt (kas_sort cs.length)).toList=l at mem ⊢
 induction l with
 |nil=>exact .nil
 |cons i l ih =>
  refine .cons ?_ (ih fun j hj=>mem j (List.mem_cons_of_mem _ hj));have h1:=r.getD (d:=dQ ("",0)) i (mem i List.mem_cons_self)
  have h2:(cs.map dQ).getD i (dQ ("",0))=dQ (cs.getD i ("",0)):=by
   rw[List.getD_eq_getElem?_getD,List.getElem?_map,List.getD_eq_getElem?_getD];cases cs[i]?<;>rfl
  rw[h2] at h1;exact h1
@[irreducible] def qL:GC:=fun ts C Q=>match ts with
 |[.ref a]=>match C a with
  |some (.lst xs)=>match sE xs with
   |some cs=>cs.length < 64/\∀p,C p=none->Q (.ref p) (gQ C p (.lst ((sY cs).map dQ)))
   |none=>False
  |_=>False
 |[.vw a]=>match C a with
  |some (.dK kvs)=>match siK kvs with
   |some cs=>cs.length < 64/\∀p,C p=none->Q (.ref p) (gQ C p (.lst ((sY cs).map dQ)))
   |none=>False
  |_=>False
 |_=>False
abbrev Qo (X:Cx):List V->Hp->VK->Prop:=fun xs H Q=>(∃l ys lt,xs=[.ref l]/\SqL X.K H l ys/\ys.length < 64/\Srt X H ys lt/\∀p,H p=none->Q (.ref p) (upd H p (.lst (lG lt ys)))) \/
 (∃v d kvs lt,xs=[.ref v]/\H v=some (.ext (mV v d))/\H d=some (.dK kvs)/\kvs.length < 64 /\
  ∀as H1,Same H H1->wG H1 as kvs->(∀a∈as,H a=none)->(∀a,H a=none->H1 a≠none->a∈as)->Srt X H1 (List.map V.ref as) lt/\∀p,H1 p=none->Q (.ref p) (upd H1 p (.lst (lG lt (List.map V.ref as)))))
theorem cM (hc:X.calm=true):CallR X (.builtin "sorted") (Qo X):=CallR.or iO (lR hc)
theorem oP:Cbi X.K (Qo X) qL:=fun xs ts H C Q R rs h q f=>by
 unfold qL at q
 split at q
 .obtain ⟨v,rfl,r⟩:=jZ rs
  split at q
  .next xs e =>
   split at q
   .next cs e2 =>
    have ex:=siOf_eq e2;subst ex;obtain⟨vs,ev,rv⟩:=h _ _ e;cases r;have hl:vs.length=cs.length:=by rw[rv.len,List.length_map]
    refine .inl ⟨_,vs,oE cs,rfl,SqL.of ev,by rw[hl]; exact q.1,Zw _ (si_at rv),fun p hp=>?_⟩;exact f _ _ _ _ (q.2 p (h.fresh hp)) (.ref p) (h.lay hp ⟨_,fQ,(Qx (oE cs) rv).imm (Imm.new hp _)⟩) (Fw.lay hp _ _)
   .exact q.elim
  .exact q.elim
 .obtain ⟨v,rfl,r⟩:=jZ rs
  split at q
  .next kvs e =>
   split at q
   .next cs e2 =>
    have ex:=siK_eq e2;subst ex;obtain⟨vs,ev,rv⟩:=h _ _ e
    cases r with
    |vw hv =>
     have hl:vs.length=cs.length:=by rw[Paired.length rv,List.length_map]
     refine .inr ⟨_,_,vs,oE cs,rfl,hv,ev,by rw[hl]; exact q.1,fun as H1 sm pa fr on=>?_⟩
     have rr:Reps X.K H1 (List.map V.ref as) (cs.map dQ):=by
      clear hl fr on q e ev e2
      induction cs generalizing vs as with
      |nil=>cases rv; cases pa; exact .nil
      |cons c cs ih =>
       cases rv with
       |@cons p q l1 l2 h' rv =>
        cases pa with
        |@cons a _ l _ e1 pa =>
         obtain⟨k,v'⟩:=p;obtain⟨e3,e4⟩:=h';cases e3;cases e4;exact .cons (.tup e1 (.cons (.str _) (.cons (.int _) .nil))) (ih (vs:=l1) rv l pa)
     refine⟨Zw _ (si_at rr),fun p hp=>?_⟩;have h1:=bF h sm;exact f _ _ _ _ (q.2 p (h1.fresh hp)) (.ref p) (h1.lay hp ⟨_,fQ,(Qx (oE cs) rr).imm (Imm.new hp _)⟩) ((xR sm).trans (Fw.lay hp _ _))
   .exact q.elim
  .exact q.elim
 .exact q.elim
end
section
variable {X:Cx}{pos:Pos}
@[irreducible] def oR (ce:TCE)(t:TCT)(c:TCE):TCE:=fun ρ C Q=>ce ρ C fun x C1=>match x with
 |.ref d=>match C1 d with
  |some (.dK kvs)=>wZ t c ρ (fun v C2=>C2 d=some (.fK kvs)/\Q v (gQ C2 d (.dK kvs))) (kvs.map fun p=>mK p.1) [] (gQ C1 d (.fK kvs))
  |_=>False
 |_=>False
structure ItOn (K:PySem.W.Frag)(S:Hp->Prop)(J:It)(ps:List PV):Prop where
 go:∀i H',i < ps.length->S H'->J.go i H'
 yl:∀i H' x H'',S H'->J.yld i H' x H''->H''=H'/\∀t,ps[i]?=some t->Rep K H' x t
 st:∀H',S H'->J.stop ps.length H'
theorem comp_on {K:PySem.W.Frag}{H H0:Hp}{C C0:CH}{σ:St}{ρ:CSt}{J:It}{ps:List PV}{t:TCT}{c:TCE}{R:K1}{Q:VK}{S:Hp->Prop}(j:ItOn K S J ps)(hS:∀H' C',HRel K H' C'->Fw H C H' C'->S H')(s:SRel K H σ ρ)(h:HRel K H C)(q:wZ t c ρ R ps [] C)
  (h0:HRel K H0 C0) (f0:Fw H0 C0 H C) (f:∀v H' p C',R p C'->Rep K H' v p->HRel K H' C'->Fw H0 C0 H' C'->Q v H') {D:Addr} (hD:H D=none) :
  ∃W:Nat->Nat->List V->Hp->Prop,(∃m,W 0 m [] (upd H D (.lst [])))/\∀i m ys H,W i m ys H ->
   (J.stop i H/\Q (.ref D) H)\/(J.go i H/\∀x H',J.yld i H x H'->zJ K qF t (some x::σ) H' fun b H2 =>
    if b=true then zJ K (Rep K) c (some x::σ) H2 fun y H3=>H3 D=some (.lst ys)/\ys.length < sizeLine/\∃m',m' < m/\W (i+1) m' (ys++[y]) (upd H3 D (.lst (ys++[y])))
    else ∃m',m' < m/\W (i+1) m' ys H2):=by
 have fD:∀{H':Hp} {C':CH},Fw H C H' C'->True:=fun _=>trivial
 refine⟨fun i m ys H'=>m=ps.length - i/\i<=ps.length/\∃acc C',H' D=some (.lst ys)/\C' D=none/\Reps K H' ys acc/\HRel K H' C'/\Fw H C H' C'/\wZ t c ρ R (ps.drop i) acc C',
  ⟨ps.length,rfl,Nat.zero_le _,[],C,fQ,h.fresh hD,.nil,h.new hD _,Fw.new hD _,q⟩,?_⟩
 rintro i m ys H1 ⟨rfl,hi,acc,C1,e1,n1,r1,h1,f1,q1⟩;have k1:Imm H H1:=f1.imm h
 by_cases hlt:i < ps.length
 .refine .inr ⟨j.go i H1 hlt (hS H1 C1 h1 f1),fun x H2 y=>?_⟩
  obtain⟨rfl,y⟩:=j.yl i H1 x H2 (hS H1 C1 h1 f1) y;have rx:=y _ (List.getElem?_eq_getElem hlt);rw[List.drop_eq_getElem_cons hlt] at q1;refine⟨some ps[i]::ρ,C1,_,.cons rx (s.imm k1),h1,q1,fun b H3 b' C3 q3 e h3 f3=>?_⟩;cases e;obtain⟨n3,e3⟩:=f3 D (by rw[n1]; rfl) (by rw[e1]; exact fun z=>nomatch z);rw[e1] at e3;rw[n1] at n3;have k3:=f3.imm h1
  cases b with
  |true =>
   rw[if_pos rfl] at q3 ⊢;refine⟨some ps[i]::ρ,C3,_,.cons (rx.imm k3) ((s.imm k1).imm k3),h3,q3,fun v H4 p C4 q4 r4 h4 f4=>?_⟩;obtain⟨n4,e4⟩:=f4 D (by rw[n3]; rfl) (by rw[e3]; exact fun z=>nomatch z);rw[e3] at e4;rw[n3] at n4;have k4:=f4.imm h3;have m4:Imm H4 (upd H4 D (.lst (ys++[v]))):=Imm.mut e4 rfl _;refine⟨e4,by rw[r1.len]; exact q4.1,ps.length - (i+1),by omega,rfl,hlt,acc++[p],C4,fQ,n4,?_,?_,?_,q4.2⟩
   .exact (((r1.imm k3).imm k4).append (.cons r4 .nil)).imm m4
   .intro a o ca
    have ne:a≠D:=fun z=>by subst z; rw[n4] at ca; cases ca
    exact(h4 a o ca).imm m4 (lQ ne)
   .intro a ca na
    have ne:a≠D:=fun z=>na (z▸hD);obtain⟨x1,x2⟩:=(f1.trans (f3.trans f4)) a ca na;exact⟨x1,(lQ ne).trans x2⟩
  |false =>
   rw[if_neg Bool.false_ne_true] at q3 ⊢;exact⟨ps.length - (i+1),by omega,rfl,hlt,acc,C3,e3,n3,r1.imm k3,h3,f1.trans f3,q3⟩
 .have e:i=ps.length:=by omega
  subst e;rw[List.drop_length] at q1;refine .inl ⟨j.st H1 (hS H1 C1 h1 f1),f (.ref D) H1 (.ref D) _ (q1 D n1) (.ref D) ?_ ?_⟩
  .intro a o ca
   by_cases z:a=D
   .subst z; rw[jQ] at ca; cases ca; exact⟨ys,e1,r1⟩
   .rw [wQ z] at ca; exact h1 a o ca
  .intro a ca na
   obtain⟨x1,x2⟩:=f0 a ca na;have na':H a≠none:=by rw[x2]; exact na
   have ne:a≠D:=fun z=>na' (z▸hD);obtain⟨y1,y2⟩:=f1 a (by rw[x1]; exact ca) na';exact⟨(wQ ne).trans (y1.trans x1),y2.trans x2⟩
theorem it_dict {K:PySem.W.Frag}{o:Obj}{d:Addr}{vs:List (Key×V)}{kvs:List (Key×PV)}(e:vs.map (·.1)=kvs.map (·.1)):ItOn K (fun H'=>H' d=some (.frz o (.dK vs))) (Itd o d vs) (kvs.map fun p=>mK p.1) where
 go:=fun i H' l s=>⟨by
  have:(vs.map (·.1)).length=(kvs.map (·.1)).length:=by rw[e]
  rw[List.length_map,List.length_map] at this;rw[List.length_map] at l
  omega,s⟩
 yl:=fun i H' x H'' s y=>⟨y.1,fun t et=>by
  obtain⟨p,hp,rfl⟩:=y.2;have h1:(vs.map (·.1))[i]?=some p.1:=by rw[List.getElem?_map,hp]; rfl
  rw[e,List.getElem?_map] at h1;rw[List.getElem?_map] at et
  cases z:kvs[i]? with
  |none=>rw[z] at et; cases et
  |some q =>
   rw[z] at et h1;cases et;have h1:q.1=p.1:=Option.some.inj h1;show Rep K H' (kV p.1) (mK q.1);rw[h1]
   exact Xg p.1⟩
 st:=fun H' s=>⟨by
  have:(vs.map (·.1)).length=(kvs.map (·.1)).length:=by rw[e]
  rw[List.length_map,List.length_map] at this;rw[List.length_map]
  omega,s⟩
theorem KP.keys {K:PySem.W.Frag}{H:Hp}{vs:List (Key×V)}{kvs:List (Key×PV)}(r:KP K H vs kvs):vs.map (·.1)=kvs.map (·.1):=by
 induction r with
 |nil=>rfl
 |cons h _ ih=>rw[List.map_cons,List.map_cons,h.1,ih]
theorem KD {elt iter:Expr}{x:Str}{px:Pos}{ifs:List Expr}{scope:Scope}{ce:TCE}{t:TCT}{c:TCE}
  (hc:X.calm=true) (hN:(x::X.N).Nodup) (K:∃cl,yU X x scope cl) (hi:CE X iter ce)
  (ht:∀cl fp C s₂ H₂,CF (gJ X x scope cl fp C s₂ H₂) ifs t) (he:∀cl fp C s₂ H₂,CE (gJ X x scope cl fp C s₂ H₂) elt c)
  (hs:∀v,foldedSetIterable iter X.env v=pure v:=by intro _; rfl):CE X (.ListComp elt [⟨.Name x px,iter,ifs,0⟩] scope pos) (oR ce t c) :=
 ⟨JE.weak (je_thaw (uP (te:=zJ X.K (Rep X.K) c) (tc:=zJ X.K qF t) hc hN K (ji_dict hi.h) (fun cl fp C s₂ H₂=>(ht cl fp C s₂ H₂).h) (fun cl fp C s₂ H₂=>(he cl fp C s₂ H₂).h) hs)) fun σ H Q ⟨ρ,C,R,s,h,q,f⟩=>by
  unfold oR at q
  exact⟨ρ,C,_,s,h,q,fun xv H1 px C1 q1 rx h1 f1=>by
   split at q1
   .next d =>
    split at q1
    .next kvs e =>
     obtain⟨vs,ev,r⟩:=h1 d _ e;cases rx;refine⟨d,vs,rfl,ev,fun o nf D hD=>?_⟩;have m:Imm H1 (upd H1 d (.frz o (.dK vs))):=Imm.mut ev rfl _;have h2:HRel X.K (upd H1 d (.frz o (.dK vs))) (gQ C1 d (.fK kvs)):=h1.put ev rfl ⟨o,vs,fQ,Paired.mapP r fun _ _ z=>⟨z.1,z.2.imm m⟩⟩;have f2:Fw H1 C1 (upd H1 d (.frz o (.dK vs))) (gQ C1 d (.fK kvs)):=Fw.put e _ _
     have stays:∀H' C',Fw (upd H1 d (.frz o (.dK vs))) (gQ C1 d (.fK kvs)) H' C'->H' d=some (.frz o (.dK vs)):=fun H' C' g=>by
      have:=(g d (by rw[jQ]; rfl) (by rw[fQ]; exact fun z=>nomatch z)).2;rw[this,fQ]
     refine comp_on (Q:=fun v H'=>∃d o kvs,H' d=some (.frz o (.dK kvs))/\NF X d/\Q v (upd H' d (.dK kvs))) (H0:=upd H1 d (.frz o (.dK vs))) (C0:=gQ C1 d (.fK kvs)) (it_dict r.keys) (fun H' C' _ g=>stays H' C' g) ((s.imm (f1.imm h)).imm m) h2 q1 h2 Fw.refl (fun v H' p C' q' r' h' f'=>?_) hD;obtain⟨e1,q2⟩:=q';have e2:=stays H' C' f';refine⟨d,o,vs,e2,nf,?_⟩;have m':Imm H' (upd H' d (.dK vs)):=Imm.mut e2 rfl _
     obtain⟨o',vs',e3,r3⟩:=h' d _ e1;rw[e2] at e3;cases e3;refine f v _ p _ q2 (r'.imm m') (h'.put e2 rfl ⟨vs,fQ,Paired.mapP r3 fun _ _ z=>⟨z.1,z.2.imm m'⟩⟩) ?_;intro a ca na;obtain⟨x1,x2⟩:=(f1.trans (f2.trans f')) a ca na
     have ne:a≠d:=fun z=>by
      subst z;obtain⟨y1,y2⟩:=f1 a ca na;rw[<- y1,e] at ca;cases ca
     exact⟨(wQ ne).trans x1,(lQ ne).trans x2⟩
    .exact q1.elim
   .exact q1.elim⟩⟩
end
section
variable {X:Cx}{a b c e o i f:Expr}{es:List Expr}{pos:Pos}{value:Expr}
abbrev relO:Hp->Option Int->Option Int->Prop:=fun _ a b=>a=b
abbrev TCO:=CSt->CH->(Option Int->CH->Prop)->Prop
structure CPt (X:Cx)(e:Option Expr)(c:TCO):Prop where
 h:JO X e (zJ X.K relO c)
theorem JO.weak {e:Option Expr}{t t':TO}(h:JO X e t)(w:∀σ H Q,t' σ H Q->t σ H Q):JO X e t':=⟨fun pins s σ H Q I q=>h.h pins s σ H Q I (w σ H Q q)⟩
def cNoPart:TCO:=fun _ C Q=>Q none C
def cPart (ce:TCE):TCO:=fun ρ C Q=>ce ρ C fun t C1=>match t with
 |.int i=>Q (some i) C1
 |_=>False
theorem mM:CPt X none cNoPart:=⟨JO.weak jo_none fun σ H Q ⟨ρ,C,R,s,h,q,f⟩=>f none H none C q rfl h Fw.refl⟩
theorem bM {ce:TCE}(h:CE X e ce):CPt X (some e) (cPart ce):=⟨JO.weak (jo_some h.h) fun σ H Q ⟨ρ,C,R,s,h,q,f⟩=>⟨ρ,C,_,s,h,q,fun x H1 px C1 q1 rx h1 f1=>by
 split at q1
 .cases rx; exact⟨_,rfl,f _ H1 _ C1 q1 rfl h1 f1⟩
 .exact q1.elim⟩⟩
def gD (xs:List PV)(lo hi:Option Int):List PV:=(xs.drop (HT.sIx xs.length 0 lo)).take (HT.sIx xs.length xs.length hi - HT.sIx xs.length 0 lo)
theorem Reps.cut {K:PySem.W.Frag}{H:Hp}{vs:List V}{ts:List PV}(r:Reps K H vs ts)(lo hi:Option Int):Reps K H (lO vs lo hi) (gD ts lo hi):=by
 unfold lO gD;rw[r.len];exact(r.drop _).take _
@[irreducible] def cSlL:PV->Option Int->Option Int->CH->K1->Prop:=fun x lo hi C Q=>match x with
 |.ref a=>match C a with
  |some (.lst xs)=>∀p,C p=none->Q (.ref p) (gQ C p (.lst (gD xs lo hi)))
  |_=>False
 |_=>False
def cSl (cr:PV->Option Int->Option Int->CH->K1->Prop)(ce:TCE)(cl ch:TCO):TCE:=fun ρ C Q=>ce ρ C fun x C1=>cl ρ C1 fun l C2=>ch ρ C2 fun u C3=>cr x l u C3 Q
theorem pI {lo hi:Option Expr}{ce:TCE}{cl ch:TCO}{p2:Pos}(he:CE X e ce)(hl:CPt X lo cl)(hu:CPt X hi ch):CE X (.Subscript e (.Slice lo hi none p2) pos) (cSl cSlL ce cl ch):=⟨JE.weak (qO sl_list he.h hl.h hu.h) fun σ H Q ⟨ρ,C,R,s,h,q,f⟩ =>
 ⟨ρ,C,_,s,h,q,fun x H1 px C1 q1 rx h1 f1=>⟨ρ,C1,_,s.imm (f1.imm h),h1,q1,fun l H2 l' C2 q2 e2 h2 f2=>⟨ρ,C2,_,(s.imm (f1.imm h)).imm (f2.imm h1),h2,q2,fun u H3 u' C3 q3 e3 h3 f3=>by
  cases e2; cases e3
  unfold cSlL at q3
  split at q3
  .split at q3
   .next xs e =>
    obtain⟨vs,ev,r⟩:=h3 _ _ e;have rx3:=rx.imm ((f2.trans f3).imm h1);cases rx3;exact⟨_,vs,rfl,SqL.of ev,fun p hp=>f _ _ _ _ (q3 p (h3.fresh hp)) (.ref p) (h3.lay hp ⟨_,fQ,(r.cut l u).imm (Imm.new hp _)⟩) (f1.trans (f2.trans (f3.trans (Fw.lay hp _ _))))⟩
   .exact q3.elim
  .exact q3.elim⟩⟩⟩⟩
theorem yR {i:Nat}{y x:Str}{py px pos spos:Pos}{elt iter:Expr}{ifs:List Expr}{scope:Scope}{wi:TI}{ci:CSt->CH->(List PV->CH->Prop)->Prop}{t:TCT}{c:TCE}
  (hNd:X.N.Nodup) (hi:X.N[i]?=some y) (hy:Loc X.env.scope y) (hc:X.calm=true) (hN:(x::X.N).Nodup) (K:∃cl,yU X x scope cl) (hI:CI X (.Name x px) iter wi ci)
  (ht:∀cl fp C s₂ H₂,CF (gJ X x scope cl fp C s₂ H₂) ifs t) (he:∀cl fp C s₂ H₂,CE (gJ X x scope cl fp C s₂ H₂) elt c)
  (hs:∀v,foldedSetIterable iter X.env v=pure v:=by intro _; rfl)
  (hsw:swapsWith (.ListComp elt [⟨.Name x px,iter,ifs,0⟩] scope pos) (some (.Name y py)) spos.line X.env=pure true:=by rfl)
  (hf:X.fn y=true\/X.env.scope.names.lookup y=some .local:=by first | exact .inl rfl | exact .inr rfl | assumption) :
  CS X (.Assign [.Name y py] (.ListComp elt [⟨.Name x px,iter,ifs,0⟩] scope pos) spos) (KL i (KN ci t c)):=by
 obtain⟨cl,K⟩:=K;refine⟨JS.weak (js_setC (te:=zJ X.K (Rep X.K) c) (tc:=zJ X.K qF t) hNd hi hy hc hN K hI.j (fun fp C s₂ H₂=>(ht cl fp C s₂ H₂).h) (fun fp C s₂ H₂=>(he cl fp C s₂ H₂).h) hs hsw hf) fun D σ H ⟨ρ,C,E,s,h,q,f⟩=>?_⟩;exact yN (Q:=fun x H'=>D.nx (σ.set i (some x)) H') hI ⟨ρ,C,_,s,h,q,fun x H1 px C1 q1 rx h1 f1=>f.nx _ H1 _ C1 q1 ((s.imm (f1.imm h)).set rx i) h1 f1⟩
theorem Jm (k:Nat)(σ:St):NoAt k (σ.set k none):=fun v e=>by
 rw[List.getElem?_set_self'] at e
 cases hk:σ[k]? with
 |none=>rw[hk] at e; cases e
 |some x=>rw[hk] at e; cases e
theorem SRel.unset {K:PySem.W.Frag}{H:Hp}{σ:St}{ρ:CSt}(s:SRel K H σ ρ)(k:Nat):SRel K H (σ.set k none) (ρ.set k none):=by
 induction s generalizing k with
 |nil=>exact .nil
 |cons h' r ih =>
  cases k with
  |zero=>exact .cons trivial r
  |succ k=>exact .cons h' (ih k)
def cRetAt (k:Nat)(ce:TCE):TCS:=fun E ρ C=>ce (ρ.set k none) C E.rt
theorem Kn (k:Nat){ce:TCE}(he:CE (X.at_ k) e ce):CS X (.Return (some e) pos) (cRetAt k ce):=⟨JS.weak (js_fg k (Jy (je_drop k he.h))) fun D σ H ⟨ρ,C,E,s,h,q,f⟩ =>
 ⟨Jm k σ,ρ.set k none,C,_,s.unset k,h,q,fun x H1 px C1 q1 rx h1 f1=>f.rt x H1 px C1 q1 rx h1 f1⟩⟩
def jU (S:CH->Prop)(t:TCT)(c:TCE)(ρ:CSt)(Q:K1):List PV->List PV->CH->Prop
 |[],acc,C=>S C/\∀p,C p=none->Q (.ref p) (gQ C p (.lst acc))
 |x::r,acc,C=>S C/\t (some x::ρ) C fun b C1=>if b=true then c (some x::ρ) C1 fun y C2=>acc.length < sizeLine/\jU S t c ρ Q r (acc++[y]) C2 else jU S t c ρ Q r acc C1
structure ItS (K:PySem.W.Frag)(S:CH->Prop)(J:It)(ps:List PV):Prop where
 go:∀i H' C',i < ps.length->HRel K H' C'->S C'->J.go i H'
 yl:∀i H' C' x H'',HRel K H' C'->S C'->J.yld i H' x H''->H''=H'/\∀t,ps[i]?=some t->Rep K H' x t
 st:∀H' C',HRel K H' C'->S C'->J.stop ps.length H'
theorem comp_S {K:PySem.W.Frag}{H H0:Hp}{C C0:CH}{σ:St}{ρ:CSt}{J:It}{ps:List PV}{t:TCT}{c:TCE}{R:K1}{Q:VK}{S:CH->Prop}(j:ItS K S J ps)(s:SRel K H σ ρ)(h:HRel K H C)(q:jU S t c ρ R ps [] C)
  (h0:HRel K H0 C0) (f0:Fw H0 C0 H C) (f:∀v H' p C',R p C'->Rep K H' v p->HRel K H' C'->Fw H0 C0 H' C'->Q v H') {D:Addr} (hD:H D=none) :
  ∃W:Nat->Nat->List V->Hp->Prop,(∃m,W 0 m [] (upd H D (.lst [])))/\∀i m ys H,W i m ys H ->
   (J.stop i H/\Q (.ref D) H)\/(J.go i H/\∀x H',J.yld i H x H'->zJ K qF t (some x::σ) H' fun b H2 =>
    if b=true then zJ K (Rep K) c (some x::σ) H2 fun y H3=>H3 D=some (.lst ys)/\ys.length < sizeLine/\∃m',m' < m/\W (i+1) m' (ys++[y]) (upd H3 D (.lst (ys++[y])))
    else ∃m',m' < m/\W (i+1) m' ys H2):=by
 have fD:∀{H':Hp} {C':CH},Fw H C H' C'->True:=fun _=>trivial
 refine⟨fun i m ys H'=>m=ps.length - i/\i<=ps.length/\∃acc C',H' D=some (.lst ys)/\C' D=none/\Reps K H' ys acc/\HRel K H' C'/\Fw H C H' C'/\jU S t c ρ R (ps.drop i) acc C',
  ⟨ps.length,rfl,Nat.zero_le _,[],C,fQ,h.fresh hD,.nil,h.new hD _,Fw.new hD _,q⟩,?_⟩
 rintro i m ys H1 ⟨rfl,hi,acc,C1,e1,n1,r1,h1,f1,q1⟩;have k1:Imm H H1:=f1.imm h
 have q0:S C1:=by
  cases z:ps.drop i with
  |nil=>rw[z] at q1; exact q1.1
  |cons x r=>rw[z] at q1; exact q1.1
 by_cases hlt:i < ps.length
 .refine .inr ⟨j.go i H1 C1 hlt h1 q0,fun x H2 y=>?_⟩
  obtain⟨rfl,y⟩:=j.yl i H1 C1 x H2 h1 q0 y;have rx:=y _ (List.getElem?_eq_getElem hlt);rw[List.drop_eq_getElem_cons hlt] at q1
  replace q1:=q1.2
  refine⟨some ps[i]::ρ,C1,_,.cons rx (s.imm k1),h1,q1,fun b H3 b' C3 q3 e h3 f3=>?_⟩;cases e;obtain⟨n3,e3⟩:=f3 D (by rw[n1]; rfl) (by rw[e1]; exact fun z=>nomatch z);rw[e1] at e3;rw[n1] at n3;have k3:=f3.imm h1
  cases b with
  |true =>
   rw[if_pos rfl] at q3 ⊢;refine⟨some ps[i]::ρ,C3,_,.cons (rx.imm k3) ((s.imm k1).imm k3),h3,q3,fun v H4 p C4 q4 r4 h4 f4=>?_⟩;obtain⟨n4,e4⟩:=f4 D (by rw[n3]; rfl) (by rw[e3]; exact fun z=>nomatch z);rw[e3] at e4;rw[n3] at n4;have k4:=f4.imm h3;have m4:Imm H4 (upd H4 D (.lst (ys++[v]))):=Imm.mut e4 rfl _;refine⟨e4,by rw[r1.len]; exact q4.1,ps.length - (i+1),by omega,rfl,hlt,acc++[p],C4,fQ,n4,?_,?_,?_,q4.2⟩
   .exact (((r1.imm k3).imm k4).append (.cons r4 .nil)).imm m4
   .intro a o ca
    have ne:a≠D:=fun z=>by subst z; rw[n4] at ca; cases ca
    exact(h4 a o ca).imm m4 (lQ ne)
   .intro a ca na
    have ne:a≠D:=fun z=>na (z▸hD);obtain⟨x1,x2⟩:=(f1.trans (f3.trans f4)) a ca na;exact⟨x1,(lQ ne).trans x2⟩
  |false =>
   rw[if_neg Bool.false_ne_true] at q3 ⊢;exact⟨ps.length - (i+1),by omega,rfl,hlt,acc,C3,e3,n3,r1.imm k3,h3,f1.trans f3,q3⟩
 .have e:i=ps.length:=by omega
  subst e;rw[List.drop_length] at q1
  replace q1:=q1.2
  refine .inl ⟨j.st H1 C1 h1 q0,f (.ref D) H1 (.ref D) _ (q1 D n1) (.ref D) ?_ ?_⟩
  .intro a o ca
   by_cases z:a=D
   .subst z; rw[jQ] at ca; cases ca; exact⟨ys,e1,r1⟩
   .rw [wQ z] at ca; exact h1 a o ca
  .intro a ca na
   obtain⟨x1,x2⟩:=f0 a ca na;have na':H a≠none:=by rw[x2]; exact na
   have ne:a≠D:=fun z=>na' (z▸hD);obtain⟨y1,y2⟩:=f1 a (by rw[x1]; exact ca) na';exact⟨(wQ ne).trans (y1.trans x1),y2.trans x2⟩
theorem it_lst {K:PySem.W.Frag}{a:Addr}{xs:List PV}:ItS K (fun C=>C a=some (.lst xs)) (Itl K a) xs where
 go:=fun i H' C' l h s=>by
  obtain⟨vs,e,r⟩:=h a _ s;obtain⟨v,ev,_⟩:=r.get (List.getElem?_eq_getElem l);exact⟨vs,v,SqL.of e,ev⟩
 yl:=fun i H' C' x H'' h s y=>⟨y.1,fun t et=>by
  obtain⟨vs,e,r⟩:=h a _ s;obtain⟨v,ev,rv⟩:=r.get et;have:=y.2 vs (SqL.of e)
  rw[ev] at this; cases this; exact rv⟩
 st:=fun H' C' h s=>by
  obtain⟨vs,e,r⟩:=h a _ s;exact⟨vs,SqL.of e,by rw[r.len]; exact Nat.le_refl _⟩
@[irreducible] def aP (ce:TCE)(t:TCT)(c:TCE):TCE:=fun ρ C Q=>ce ρ C fun x C1=>match x with
 |.ref a=>match C1 a with
  |some (.lst xs)=>jU (fun C=>C a=some (.lst xs)) t c ρ Q xs [] C1
  |_=>False
 |_=>False
theorem fM {elt iter:Expr}{x:Str}{px:Pos}{ifs:List Expr}{scope:Scope}{ce:TCE}{t:TCT}{c:TCE}
  (hc:X.calm=true) (hN:(x::X.N).Nodup) (K:∃cl,yU X x scope cl) (hi:CE X iter ce)
  (ht:∀cl fp C s₂ H₂,CF (gJ X x scope cl fp C s₂ H₂) ifs t) (he:∀cl fp C s₂ H₂,CE (gJ X x scope cl fp C s₂ H₂) elt c)
  (hs:∀v,foldedSetIterable iter X.env v=pure v:=by intro _; rfl):CE X (.ListComp elt [⟨.Name x px,iter,ifs,0⟩] scope pos) (aP ce t c) :=
 ⟨JE.weak (uP (te:=zJ X.K (Rep X.K) c) (tc:=zJ X.K qF t) hc hN K (QC hi.h) (fun cl fp C s₂ H₂=>(ht cl fp C s₂ H₂).h) (fun cl fp C s₂ H₂=>(he cl fp C s₂ H₂).h) hs) fun σ H Q ⟨ρ,C,R,s,h,q,f⟩=>by
  unfold aP at q
  exact⟨ρ,C,_,s,h,q,fun xv H1 px C1 q1 rx h1 f1=>by
   split at q1
   .next a =>
    split at q1
    .next xs e =>
     obtain⟨vs,ev,r⟩:=h1 a _ e;cases rx;exact⟨a,rfl,⟨vs,SqL.of ev⟩,fun D hD=>comp_S (Q:=Q) it_lst (s.imm (f1.imm h)) h1 q1 h f1 f hD⟩
    .exact q1.elim
   .exact q1.elim⟩⟩
end
section
variable {C:CH}{a p:Addr}{xs ys:List PV}{i:Int}{v:PV}{Q:K1}
theorem sX (h:C a=some (.lst xs))(e:atI xs i=some v)(q:Q v C):cIx (.ref a) (.int i) C Q:=by
 unfold cIx;show(match C a with | some (.lst xs)=>cAt xs i C Q | _=>False);rw[h];show cAt xs i C Q;unfold cAt;rw[e];exact q
theorem ix_f (e:atI xs i=some v)(q:Q v C):cIx (.fz xs) (.int i) C Q:=by
 unfold cIx;show cAt xs i C Q;unfold cAt;rw[e];exact q
theorem cX (e:atI xs i=some v)(q:Q v C):cIx (.tup xs) (.int i) C Q:=by
 unfold cIx;show cAt xs i C Q;unfold cAt;rw[e];exact q
theorem setL {k:Int}{j:Nat}{Q:CH->Prop}(h:C p=some (.lst xs))(e:ixN xs.length k=some j)(q:Q (gQ C p (.lst (xs.set j v)))):QY (.ref p) (.int k) v C Q:=by
 unfold QY;dsimp only;rw[h];dsimp only;rw[e];exact q
theorem oG (h:C a=some (.lst xs))(q:Q (.int xs.length) C):mH [.ref a] C Q:=by
 unfold mH;show(match C a with | some (.lst xs)=>Q (.int xs.length) C | some (.dK kvs)=>Q (.int kvs.length) C | _=>False);rw[h];exact q
theorem Jr (q:Q (.int xs.length) C):mH [.fz xs] C Q:=by
 unfold mH;exact q
theorem uN (q:Q (.int xs.length) C):mH [.tup xs] C Q:=by
 unfold mH;exact q
theorem xU (h:C a=some (.lst xs))(z:xs.length < sizeLine)(q:Q .non (gQ C a (.lst (xs++[v])))):nW (.ref a) [v] C Q:=by
 unfold nW;show(match C a with | some (.lst xs)=>xs.length < sizeLine/\Q .non (gQ C a (.lst (xs++[v]))) | _=>False);rw[h];exact⟨z,q⟩
theorem cW (h:C a=some (.lst xs)):isL (.ref a) C:=by
 show(match C a with | some (.lst _)=>True | _=>False);rw[h]
 trivial
end
theorem i_i {g:Int->Int->PV}{i j:Int}{C:CH}{Q:K1}(q:Q (g i j) C):cI g (.int i) (.int j) C Q:=by
 unfold cI;exact q
theorem uW {i j:Int}{C:CH}{Q:K1}(q:Q (.int (i+j)) C):dF (.int i) (.int j) C Q:=by
 unfold dF;exact q
theorem kU {xs ys:List PV}{C:CH}{Q:K1}(h:xs.length+ys.length<=sizeLine)(q:Q (.tup (xs++ys)) C):dF (.tup xs) (.tup ys) C Q:=by
 unfold dF;exact⟨h,q⟩
theorem JY {b:Bool}{p q:Prop}(h1:b=true->p)(h2:b=false->q):if b=true then p else q:=by
 cases b with
 |true=>exact h1 rfl
 |false=>exact h2 rfl
theorem JX {b:Bool}{p q:Prop}(e:b=true)(h:p):if b=true then p else q:=by rw[if_pos e]; exact h
theorem eU {b:Bool}{p q:Prop}(e:b=false)(h:q):if b=true then p else q:=by rw[if_neg (by rw[e]; exact Bool.false_ne_true)]; exact h
theorem nK {b:Bool}{p q:CH->Prop}{C:CH}(e:b=true)(h:p C):vT (fun b C1=>if b=true then p C1 else q C1) (.bl b) C:=by cases e; exact h
theorem kZ {b:Bool}{p q:CH->Prop}{C:CH}(e:b=false)(h:q C):vT (fun b C1=>if b=true then p C1 else q C1) (.bl b) C:=by cases e; exact h
theorem pZ {b:Bool}{p q:CH->Prop}{C:CH}(h1:b=true->p C)(h2:b=false->q C):vT (fun b C1=>if b=true then p C1 else q C1) (.bl b) C:=by
 cases b with
 |true=>exact h1 rfl
 |false=>exact h2 rfl
theorem onot {p q:CH->Prop}{C:CH}(h:q C):vT (fun b C1=>if (!b)=true then p C1 else q C1) (.bl true) C:=by
 show if (!true)=true then p C else q C
 rw[if_neg (by decide)];exact h
theorem yX {k:Bool->Bool}{x y:PV}{C:CH}{Q:K1}{b:Bool}(e:sEq x y=some b)(q:Q (.bl (k b)) C):cEq k x y C Q:=by
 unfold cEq;rw[e];exact q
theorem pQ (x y:Str):sEq (.str x) (.str y)=some (decide (x=y)):=rfl
theorem zZ (x y:Int):sEq (.int x) (.int y)=some (decide (x=y)):=rfl
theorem fX {t:TCT}{c:TCE}{ρ:CSt}{Q:K1}{x:PV}{r acc:List PV}{C:CH}(h:t (some x::ρ) C fun b C1=>if b=true then c (some x::ρ) C1 fun y C2=>acc.length < sizeLine/\wZ t c ρ Q r (acc++[y]) C2 else wZ t c ρ Q r acc C1):wZ t c ρ Q (x::r) acc C:=h
theorem vW {t:TCT}{c:TCE}{ρ:CSt}{Q:K1}{acc:List PV}{C:CH}(h:∀p,C p=none->Q (.ref p) (gQ C p (.lst acc))):wZ t c ρ Q [] acc C:=h
theorem xO {n:String}{T k:Ty}{x:PV}{C:CH}{Q:K1}(e1:sB n=some T)(e2:tyP C x=some k)(q:Q (.bl (zW k T)) C):cIsi [x,.ty n] C Q:=by
 unfold cIsi;show(match sB n,tyP C x with | some T,some k=>Q (.bl (zW k T)) C | _,_=>False);rw[e1,e2];exact q
theorem vU {a b:Addr}{xs ys:List PV}{C:CH}{Q:K1}(h1:C a=some (.lst xs))(h2:C b=some (.lst ys))(z:xs.length+ys.length<=sizeLine)(q:∀p,C p=none->Q (.ref p) (gQ C p (.lst (xs++ys)))):dF (.ref a) (.ref b) C Q:=by
 unfold dF;show(match C a,C b with | some (.lst xs),some (.lst ys)=>xs.length+ys.length<=sizeLine/\∀p,C p=none->Q (.ref p) (gQ C p (.lst (xs++ys))) | _,_=>False);rw[h1,h2];exact⟨z,q⟩
theorem rJ {xs:List PV}{p:Addr}{C:CH}{Q:K1}(m:C p=some (.lst xs))(q:Q (.tup xs) C):pF [.ref p] C Q:=by
 unfold pF;show(match C p with | some (.lst xs)=>Q (.tup xs) C | _=>False);rw[m];exact q
def Gr (C C':CH):Prop:=∀b o,C b=some o->C' b=some o
theorem Gr.refl {C:CH}:Gr C C:=fun _ _ h=>h
theorem Gr.trans {C C1 C2:CH}(h:Gr C C1)(h':Gr C1 C2):Gr C C2:=fun b o e=>h' b o (h b o e)
theorem Gr.new {C:CH}{p:Addr}(hp:C p=none)(o:CO):Gr C (gQ C p o):=fun b u e=>by
 rw[wQ (fun z=>by subst z; rw[hp] at e; cases e)]; exact e
theorem bX {E:sW}{ρ:CSt}{C:CH}(h:E.nx ρ C):cNext E ρ C:=h
theorem yQ {i:Nat}{ce:TCE}{u:TCS}{E:sW}{ρ:CSt}{C:CH}(h:ce ρ C fun v C1=>u E (ρ.set i (some v)) C1):jE (KL i ce) u E ρ C:=h
theorem xZ {t u:TCS}{E:sW}{ρ:CSt}{C:CH}(h:t { E with nx:=u E } ρ C):jE t u E ρ C:=h
theorem c_i {v:PV}{ρ:CSt}{C:CH}{Q:K1}(h:Q v C):cC v ρ C Q:=h
theorem aQ {t u:TCS}{E:sW}{ρ:CSt}{C:CH}(P:CSt->CH->Prop)(h1:∀K:CSt->CH->Prop,(∀ρ' C',P ρ' C'->K ρ' C')->t { E with nx:=K } ρ C)(h2:∀ρ' C',P ρ' C'->u E ρ' C'):jE t u E ρ C:=h1 _ h2
section
variable {X:Cx}{o e value i f:Expr}{es:List Expr}{pos pos':Pos}
def qT (f:Str)(v:PV):List (Str×PV)->List (Str×PV)
 |[]=>[(f,v)]
 | (g,x)::r=>if g=f then (g,v)::r else (g,x)::qT f v r
theorem FP.put {K:PySem.W.Frag}{H:Hp}{f:Str}{v:V}{t:PV}(h:Rep K H v t):∀{gs:List (Str×V)}{fs:List (Str×PV)},FP K H gs fs->FP K H (rY f v gs) (qT f t fs):=by
 intro gs fs r
 induction r with
 |nil=>exact .cons ⟨rfl,h⟩ .nil
 |@cons p q l1 l2 h' r ih =>
  obtain⟨g,x⟩:=p;obtain⟨g',y⟩:=q;obtain⟨rfl,h2⟩:=h';unfold rY qT
  by_cases e:g=f
  .rw [if_pos e,if_pos e]; exact .cons ⟨rfl,h⟩ r
  .rw [if_neg e,if_neg e]; exact .cons ⟨rfl,h2⟩ ih
theorem FP.look {K:PySem.W.Frag}{H:Hp}{f:Str}:∀{gs:List (Str×V)}{fs:List (Str×PV)},FP K H gs fs->(∃v t,gs.lookup f=some v/\fs.lookup f=some t/\Rep K H v t)\/(gs.lookup f=none/\fs.lookup f=none):=by
 intro gs fs r
 induction r with
 |nil=>exact .inr ⟨rfl,rfl⟩
 |@cons p q l1 l2 h' r ih =>
  obtain⟨g,x⟩:=p;obtain⟨g',y⟩:=q;obtain⟨rfl,h2⟩:=h';unfold List.lookup
  cases e:(f==g) with
  |true=>exact .inl ⟨x,y,rfl,rfl,h2⟩
  |false=>exact ih
@[irreducible] def tI (c:Addr)(f:Str):PV->CH->K1->Prop:=fun x C Q=>match x with
 |.ref p=>match C p with
  |some (.ins c' _ fs)=>c'=c/\match fs.lookup f with
   |some v=>Q v C
   |none=>False
  |_=>False
 |_=>False
theorem dI {f:Str}{c:Addr}{co:TCE}(hc:Cls X.K c)(hn:NoAttr X.K c f)(ho:CE X o co)(hb:attributeBase o f X.env (eval o X.env)=eval o X.env:=by rfl):CE X (.Attribute o f pos) (fun ρ C Q=>co ρ C fun x C1=>tI c f x C1 Q) :=
 ⟨JE.weak ⟨pe_fld ho.h.h hb⟩ fun σ H Q ⟨ρ,C,R,s,h,q,f'⟩=>⟨ρ,C,_,s,h,q,fun x H1 px C1 q1 rx h1 f1=>by
  unfold tI at q1
  split at q1
  .next p =>
   split at q1
   .next c' dx fs e1 =>
    obtain⟨rfl,q1⟩:=q1
    split at q1
    .next t e2 =>
     obtain⟨gs,eg,r⟩:=h1 p _ e1;cases rx
     rcases FP.look r with ⟨v,t',l1,l2,rv⟩ | ⟨l1,l2⟩
     .rw [e2] at l2
      cases l2;exact⟨p,c',dx,gs,v,rfl,eg,hc,hn,l1,f' v H1 t C1 q1 rv h1 f1⟩
     .rw [e2] at l2; cases l2
    .exact q1.elim
   .exact q1.elim
  .exact q1.elim⟩⟩
@[irreducible] def Q3 (c:Addr)(f:Str):PV->PV->CH->(CH->Prop)->Prop:=fun x v C Q=>match x with
 |.ref p=>match C p with
  |some (.ins c' dx fs)=>c'=c/\fs.length < 1000/\Q (gQ C p (.ins c' dx (qT f v fs)))
  |_=>False
 |_=>False
theorem Ko {f:Str}{c:Addr}{co cv:TCE}(hc:Cls X.K c)(hn:NoAttr X.K c f)(ho:CE X o co)(hv:CE X value cv)(hs:swapsWith value (some (.Attribute o f pos')) pos.line X.env=pure false:=by rfl):
  CS X (.Assign [.Attribute o f pos'] value pos) (fun E ρ C=>cv ρ C fun v C1=>co ρ C1 fun x C2=>Q3 c f x v C2 fun C3=>E.nx ρ C3):=⟨JS.weak ⟨ps_fld ho.h.h hv.h.h hs⟩ fun D σ H ⟨ρ,C,E,s,h,q,f'⟩ =>
 ⟨ρ,C,_,s,h,q,fun v H1 pv C1 q1 rv h1 f1=>⟨ρ,C1,_,s.imm (f1.imm h),h1,q1,fun x H2 px C2 q2 rx h2 f2=>by
  have s2:=(s.imm (f1.imm h)).imm (f2.imm h1);have rv2:=rv.imm (f2.imm h1);unfold Q3 at q2
  split at q2
  .next p =>
   split at q2
   .next c' dx fs e1 =>
    obtain⟨rfl,ql,q2⟩:=q2;obtain⟨gs,eg,r⟩:=h2 p _ e1;cases rx;have m:Imm H2 (upd H2 p (.ins c' dx (rY f v gs))):=Imm.mut eg rfl _;exact⟨p,c',dx,gs,rfl,eg,hc,hn,by rw[Paired.length r]; exact ql,f'.nx σ _ ρ _ q2 (s2.imm m) (h2.put eg rfl ⟨_,fQ,Paired.mapP (FP.put rv2 r) fun _ _ z=>⟨z.1,z.2.imm m⟩⟩) (f1.trans (f2.trans (Fw.put e1 _ _)))⟩
   .exact q2.elim
  .exact q2.elim⟩⟩⟩
def vO (c:Addr)(m:Str)(x:PV)(C:CH):Prop:=match x with
 |.ref p=>match C p with
  |some (.ins c' _ fs)=>c'=c/\fs.lookup m=none
  |_=>False
 |_=>False
theorem JR {c:Addr}{m:Str}{K:PySem.W.Frag}{H:Hp}{C:CH}{x:V}{t:PV}(d:vO c m t C)(r:Rep K H x t)(h:HRel K H C):∃a dx gs,x=.ref a/\t=.ref a/\H a=some (.ins c dx gs)/\gs.lookup m=none:=by
 unfold vO at d
 split at d
 .split at d
  .next e =>
   obtain⟨rfl,d⟩:=d;obtain⟨gs,eg,rf⟩:=h _ _ e;cases r;refine⟨_,_,gs,rfl,rfl,eg,?_⟩
   rcases FP.look (f:=m) rf with ⟨v,t',l1,l2,_⟩ | ⟨l1,l2⟩
   .rw [l2] at d; cases d
   .exact l1
  .exact d.elim
 .exact d.elim
def cMeth (c:Addr)(m:Str)(G:GC)(co:TCE)(ca:TCA):TCE:=fun ρ C Q=>co ρ C fun x C1=>vO c m x C1/\ca ρ C1 fun xs C2=>G (x::xs) C2 Q
theorem ce_meth {CX:CXT}{k:Nat}{c fa:Addr}{fd:FuncData}{ps:List Str}{G:GC}{E:XK}{m:Str}{apos:Pos}{co:TCE}{ca:TCA}{pl:Sem Bool}(hc:Cls X.K c)(hm:Meth X.K c m fa)(F:FnOk X.prog X.w X.K X.mg X.base CX k fa fd ps (spC X.K G))(hr:Room k X.A)(hb:Binds X.K fd ps [])(hx:gW CX X E)(ho:CE X o co)(ha:CA X (e::es) ca)
  (hst:starEach (e::es) X.env=(false,eval e X.env)::starEach es X.env:=by rfl) (hpl:(backTo pos (starEach es X.env)).any (·.1)=false:=by rfl)
  (ht:eval (.Call (.Attribute o m apos) (e::es) [] pos) X.env=(do
   let ov <- eval o X.env
   standAt apos.atName
   let (f,first) <- holding [ov] (getMethod ov m pl)
   callWith pos f first (backTo pos (starEach (e::es) X.env)) (backToKw pos (keywordEach [] X.env))):=by rfl) :
  CE X (.Call (.Attribute o m apos) (e::es) [] pos) (cMeth c m G co ca) :=
 ⟨JE.weak ⟨pe_meth (dvs:=[]) (E:=E) ho.h.h hc hm F hr hb .nil hx ha.h.h hst hpl ht⟩ fun σ H Q ⟨ρ,C,R,s,h,q,f⟩=>⟨ρ,C,_,s,h,q,fun x H1 px C1 q1 rx h1 f1=>by
  obtain⟨a,dx,gs,rfl,rfl,eg,lk⟩:=JR q1.1 rx h1;refine⟨a,dx,gs,rfl,eg,lk,ρ,C1,_,s.imm (f1.imm h),h1,q1.2,fun xs H2 ts C2 q2 rs h2 f2=>?_⟩
  exact⟨.ref a::ts,C2,R,.cons (.ref a) (by rw[List.append_nil]; exact rs),h2,q2,fun v H' t C' q' r' h' f'=>f v H' t C' q' r' h' (f1.trans (f2.trans f'))⟩⟩⟩
def cMake (c:Addr)(G:GC)(ca:TCA):TCE:=fun ρ C Q=>ca ρ C fun xs C1=>∀x dx,C1 x=none->C1 dx=none->dx≠x->G (.ref x::xs) (gQ C1 x (.ins c dx [])) fun v C2=>v=.non/\Q (.ref x) C2
theorem ce_make {CX:CXT}{k:Nat}{c fa:Addr}{fd:FuncData}{ps:List Str}{G:GC}{E:XK}{x:Str}{p:Pos}{ca:TCA}(M:Mk X.K c fa)(F:FnOk X.prog X.w X.K X.mg X.base CX k fa fd ps (spC X.K G))(hr:Room (k+1) X.A)(hg:Gl X x)(hm:X.mg x=some (.ref c))(hb:Binds X.K fd ps [])(hx:gW CX X E)(ha:CA X (e::es) ca)
  (hdb:(x==("__debug__" : Str))=false:=by decide) (hst:starEach (e::es) X.env=(false,eval e X.env)::starEach es X.env:=by rfl) (hpl:(backTo pos (starEach es X.env)).any (·.1)=false:=by rfl):CE X (.Call (.Name x p) (e::es) [] pos) (cMake c G ca) :=
 ⟨JE.weak ⟨pe_make (dvs:=[]) (E:=E) M F hr hg hm hb .nil hx ha.h.h hdb hst hpl⟩ fun σ H Q ⟨ρ,C,R,s,h,q,f⟩=>⟨ρ,C,_,s,h,q,fun xs H1 ts C1 q1 rs h1 f1=>fun y dx hy hd nd=>by
  have h2:=h1.new hd (.own y);have hy':upd H1 dx (.own y) y=none:=by rw[lQ (Ne.symm nd)]; exact hy
  have k1:Imm H1 (upd H1 dx (.own y)):=Imm.new hd _;have k2:Imm (upd H1 dx (.own y)) (upd (upd H1 dx (.own y)) y (.ins c dx [])):=Imm.new hy' _;refine⟨.ref y::ts,gQ C1 y (.ins c dx []),_,.cons (.ref y) (by rw[List.append_nil]; exact(rs.imm k1).imm k2),h2.lay hy' ⟨[],fQ,.nil⟩,q1 y dx (h1.fresh hy) (h1.fresh hd) nd,fun v H' t C' q' r' h' f'=>?_⟩;obtain⟨rfl,q'⟩:=q';cases r'
  exact⟨rfl,f _ H' _ C' q' (.ref y) h' (f1.trans (((Fw.new hd _).trans (Fw.lay hy' _ _)).trans f'))⟩⟩⟩
end
end CL
namespace L2
open PySem PySem.Spec PyProof.Rows PySem.W
section
variable {X:Cx}
theorem nI:CallR X (.type "dict") (fun xs H Q=>∃a kvs,xs=[.ref a]/\H a=some (.dK kvs)/\∀p,H p=none->Q (.ref p) (upd H p (.dK kvs))):=by
 intro pins s σ H xs us Q I r h;obtain⟨a,kvs,rfl,ha,q⟩:=h;obtain⟨u,rfl,ru⟩:=r.one;cases (show u=Value.ref a from ru);obtain⟨z,hd,vs,rel,dd⟩:=fO I.hok ha;refine kt_call_dict hd dd (by rw[<- rel.length]; exact z) fun h' hm hs=>?_;refine⟨.ref s.heap.objs.size,_,I.laid (t':=s.toks) (o:=.dK kvs) (fun b o e=>hs.extBut b o (Nat.ne_of_lt (Heap.lt_size e)) (Heap.get?_push_of_some _ e)) (Nat.le_refl _) ?_,rfl,q _ (I.hok.fresh (Nat.le_refl _))⟩
 exact⟨z,beq_false_of_ne (Nat.ne_of_gt I.big),vs,rel,hm⟩
end
end L2
namespace CL
open PySem PySem.Spec L2 PySem.W
open PyProof.Rows hiding St
def kB:List PV->Option (List Key)
 |[]=>some []
 |t::r=>match kK t,kB r with
  |some k,some ks=>some (k::ks)
  |_,_=>none
def eB:PV->Option (List Key)
 |.tup ts=>kB ts
 |_=>none
theorem nA {K:PySem.W.Frag}{H:Hp}{vs:List V}{ts:List PV}{ks:List Key}(r:Reps K H vs ts)(e:kB ts=some ks):vs=ks.map kV:=by
 induction ts generalizing vs ks with
 |nil=>cases r; cases e; rfl
 |cons t ts ih =>
  cases r with
  |cons h r =>
   unfold kB at e
   split at e
   .next k ks' e1 e2=>cases e; rw[uY h e1,ih r e2]; rfl
   .cases e
theorem oB {K:PySem.W.Frag}{H:Hp}{v:V}{t:PV}{ks:List Key}(r:Rep K H v t)(e:eB t=some ks):∃b,v=.ref b/\H b=some (.tup (ks.map kV)):=by
 cases r<;>try (cases e)
 next a vs ts h r=>exact⟨a,rfl,by rw[h,nA r e]⟩
section
variable {κ:Type}[DecidableEq κ]
def rK (kvs:List (κ×PV))(k:κ):Option PV:=(kvs.find? fun kv=>decide (kv.1=k)).map (·.2)
def putG (kvs:List (κ×PV))(k:κ)(v:PV):List (κ×PV):=if (kvs.any fun kv=>decide (kv.1=k))=true then kvs.map fun kv=>if kv.1=k then (kv.1,v) else kv else kvs++[(k,v)]
def mergeG (kvs more:List (κ×PV)):List (κ×PV):=more.foldl (fun acc kv=>putG acc kv.1 kv.2) kvs
theorem FP.val {K:PySem.W.Frag}{H:Hp}{vs:List (κ×V)}{kvs:List (κ×PV)}(r:FP K H vs kvs)(k:κ):(∃v t,xY vs k=some v/\rK kvs k=some t/\Rep K H v t)\/(xY vs k=none/\rK kvs k=none):=by
 induction r with
 |nil=>exact .inr ⟨rfl,rfl⟩
 |@cons p q l1 l2 h r ih =>
  unfold xY rK;rw[List.find?_cons,List.find?_cons,h.1]
  by_cases e:q.1=k
  .rw [decide_eq_true e]
   exact .inl ⟨p.2,q.2,rfl,rfl,h.2⟩
  .rw [decide_eq_false e]
   exact ih
theorem FP.anyG {K:PySem.W.Frag}{H:Hp}{vs:List (κ×V)}{kvs:List (κ×PV)}(r:FP K H vs kvs)(k:κ):(vs.any fun kv=>decide (kv.1=k))=(kvs.any fun kv=>decide (kv.1=k)):=by
 induction r with
 |nil=>rfl
 |@cons p q l1 l2 h r ih=>rw[List.any_cons,List.any_cons,h.1,ih]
theorem FP.putG {K:PySem.W.Frag}{H:Hp}{vs:List (κ×V)}{kvs:List (κ×PV)}(r:FP K H vs kvs)(k:κ){v:V}{t:PV}(h:Rep K H v t):FP K H (bK vs k v) (CL.putG kvs k t):=by
 unfold bK CL.putG;rw[FP.anyG r k]
 have upd:FP K H (vs.map fun kv=>if kv.1=k then (kv.1,v) else kv) (kvs.map fun kv=>if kv.1=k then (kv.1,t) else kv):=by
  induction r with
  |nil=>exact .nil
  |@cons p q l1 l2 h' r ih =>
   refine .cons ?_ ih;dsimp only
   by_cases e:q.1=k
   .rw [if_pos (h'.1.trans e),if_pos e]; exact⟨h'.1,h⟩
   .rw [if_neg (fun z=>e (h'.1.symm.trans z)),if_neg e]; exact h'
 split
 .exact upd
 .exact Paired.snoc r ⟨rfl,h⟩
end
section
variable {X:Cx}{a b c e o i f value:Expr}{es:List Expr}{pos pos':Pos}
def cTNew:TCE:=fun _ C Q=>∀p,C p=none->Q (.ref p) (gQ C p (.dT []))
theorem QV:CE X (.Dict [] [] pos) cTNew:=⟨JE.weak JD fun σ H Q ⟨ρ,C,R,s,h,q,f⟩=>fun p hp=>f (.ref p) _ (.ref p) _ (q p (h.fresh hp)) (.ref p) (h.lay hp ⟨[],fQ,.nil⟩) (Fw.lay hp _ _)⟩
@[irreducible] def cTIx:R2C:=fun x y C Q=>match x with
 |.ref a=>match C a,eB y with
  |some (.dT kvs),some k=>match rK kvs k with
   |some v=>Q v C
   |none=>False
  |_,_=>False
 |_=>False
theorem ce_tix {co ci:TCE}(hu:X.A.units+1 < cLine)(ho:CE X o co)(hi:CE X i ci)(hs:Qc i):CE X (.Subscript o i pos) (cOp cTIx co ci):=⟨JE.weak (QD hu ho.h hi.h hs) fun σ H Q ⟨ρ,C,R,s,h,q,f⟩ =>
 ⟨ρ,C,_,s,h,q,fun x H1 px C1 q1 rx h1 f1=>⟨ρ,C1,_,s.imm (f1.imm h),h1,q1,fun y H2 py C2 q2 ry h2 f2=>by
  unfold cTIx at q2
  split at q2
  .next a =>
   split at q2
   .next kvs k e1 e2 =>
    split at q2
    .next t e3 =>
     have rx2:=rx.imm (f2.imm h1);cases rx2;obtain⟨vs,ev,r⟩:=h2 a _ e1;obtain⟨b,rfl,eb⟩:=oB ry e2
     rcases FP.val r k with ⟨v,t',l1,l2,rv⟩ | ⟨_,l2⟩
     .rw [e3] at l2
      cases l2;exact⟨a,v,rfl,by rw[<- l1]; exact DGet.t ev eb,f v H2 t C2 q2 rv h2 (f1.trans f2)⟩
     .rw [e3] at l2; cases l2
    .exact q2.elim
   .exact q2.elim
  .exact q2.elim⟩⟩⟩
def JN (x:PV)(C:CH):Prop:=match x with
 |.ref a=>match C a with
  |some (.dT _)=>True
  |_=>False
 |_=>False
theorem isTd_of {K:PySem.W.Frag}{H:Hp}{C:CH}{x:V}{t:PV}(d:JN t C)(r:Rep K H x t)(h:HRel K H C):∃a kvs,x=.ref a/\t=.ref a/\H a=some (.dT kvs):=by
 unfold JN at d
 split at d
 .split at d
  .next e=>obtain⟨vs,ev,_⟩:=h _ _ e; cases r; exact⟨_,vs,rfl,rfl,ev⟩
  .exact d.elim
 .exact d.elim
@[irreducible] def QX:PV->PV->PV->CH->K1->Prop:=fun x y z C Q=>match x with
 |.ref a=>match C a,eB y with
  |some (.dT kvs),some k=>Q ((rK kvs k).getD z) C
  |_,_=>False
 |_=>False
def cTGet2 (co ck cz:TCE):TCE:=fun ρ C Q=>co ρ C fun x C1=>JN x C1/\ck ρ C1 fun y C2=>cz ρ C2 fun z C3=>QX x y z C3 Q
theorem Kz {co ck cz:TCE}{apos cpos:Pos}(hu:X.A.units+1 < cLine)(ho:CE X o co)(he:CE X e ck)(hf:CE X f cz)(hb:attributeBase o "get" X.env (eval o X.env)=eval o X.env:=by rfl)(hl:(apos.endLine==cpos.line)=true:=by rfl)
  (h1:iQ e=true:=by rfl) (h2:iQ f=true:=by rfl):CE X (.Call (.Attribute o "get" apos) [e,f] [] cpos) (cTGet2 co ck cz):=⟨JE.weak (zO hu ho.h he.h hf.h hb hl h1 h2) fun σ H Q ⟨ρ,C,R,s,h,q,f⟩ =>
 ⟨ρ,C,_,s,h,q,fun x H1 px C1 q1 rx h1 f1=>by
  obtain⟨a,kvs,rfl,rfl,e1⟩:=isTd_of q1.1 rx h1;refine⟨a,rfl,.inr ⟨kvs,.inl e1⟩,ρ,C1,_,s.imm (f1.imm h),h1,q1.2,fun y H2 py C2 q2 ry h2 f2=>⟨ρ,C2,_,(s.imm (f1.imm h)).imm (f2.imm h1),h2,q2,fun z H3 pz C3 q3 rz h3 f3=>?_⟩⟩;unfold QX at q3;dsimp only at q3
  split at q3
  .next kvs' k d1 d2 =>
   obtain⟨vs,ev,r⟩:=h3 a _ d1;obtain⟨b,rfl,eb⟩:=oB (ry.imm (f3.imm h2)) d2
   rcases FP.val r k with ⟨v,t',l1,l2,rv⟩ | ⟨l1,l2⟩
   .rw [l2] at q3
    exact⟨some v,by rw[<- l1]; exact DGet.t ev eb,f v H3 t' C3 q3 rv h3 (f1.trans (f2.trans f3))⟩
   .rw [l2] at q3
    exact⟨none,by rw[<- l1]; exact DGet.t ev eb,f z H3 pz C3 q3 rz h3 (f1.trans (f2.trans f3))⟩
  .exact q3.elim⟩⟩
@[irreducible] def QZ:PV->PV->PV->CH->(CH->Prop)->Prop:=fun x y v C Q=>match x with
 |.ref a=>match C a,eB y with
  |some (.dT kvs),some k=>kvs.length < sizeLine/\Q (gQ C a (.dT (putG kvs k v)))
  |_,_=>False
 |_=>False
def cTPut (co ck cv:TCE):TCS:=fun E ρ C=>cv ρ C fun v C1=>co ρ C1 fun x C2=>ck ρ C2 fun y C3=>QZ x y v C3 fun C4=>E.nx ρ C4
theorem QT {co ck cv:TCE}(hu:X.A.units+1 < cLine)(ho:CE X o co)(hi:CE X i ck)(hv:CE X value cv)(hs:swapsWith value (some (.Subscript o i pos')) pos.line X.env=pure false:=by rfl):
  CS X (.Assign [.Subscript o i pos'] value pos) (cTPut co ck cv):=⟨JS.weak (QB hu ho.h hi.h hv.h hs) fun D σ H ⟨ρ,C,E,s,h,q,f⟩ =>
 ⟨ρ,C,_,s,h,q,fun v H1 pv C1 q1 rv h1 f1=>⟨ρ,C1,_,s.imm (f1.imm h),h1,q1,fun x H2 px C2 q2 rx h2 f2=>⟨ρ,C2,_,(s.imm (f1.imm h)).imm (f2.imm h1),h2,q2,fun y H3 py C3 q3 ry h3 f3=>by
  have s3:=((s.imm (f1.imm h)).imm (f2.imm h1)).imm (f3.imm h2);have rv3:=rv.imm ((f2.trans f3).imm h1);unfold QZ at q3
  split at q3
  .next a =>
   split at q3
   .next kvs k e1 e2 =>
    have rx3:=rx.imm (f3.imm h2);cases rx3;obtain⟨vs,ev,r⟩:=h3 a _ e1;obtain⟨b,rfl,eb⟩:=oB ry e2;have hl:vs.length=kvs.length:=Paired.length r;have m:Imm H3 (upd H3 a (.dT (bK vs k v))):=Imm.mut ev rfl _;refine⟨a,_,rfl,DPut.t ev eb (by rw[hl]; exact q3.1),f.nx σ _ ρ _ q3.2 (s3.imm m) (h3.put ev rfl ⟨_,fQ,Paired.mapP (FP.putG r k rv3) fun _ _ z=>⟨z.1,z.2.imm m⟩⟩) (f1.trans (f2.trans (f3.trans (Fw.put e1 _ _))))⟩
   .exact q3.elim
  .exact q3.elim⟩⟩⟩⟩
end
section
variable {X:Cx}{a b c e o i f value:Expr}{es:List Expr}{pos pos':Pos}
@[irreducible] def cMax:GC:=fun ts C Q=>match ts with
 |[.int i,.int j]=>Q (.int (if j > i then j else i)) C
 |_=>False
@[irreducible] def cMin:GC:=fun ts C Q=>match ts with
 |[.int i,.int j]=>Q (.int (if j < i then j else i)) C
 |_=>False
theorem cbi_max {K:PySem.W.Frag}:Cbi K (fun xs H Q=>∃i j,xs=[.int i,.int j]/\Q (.int (if j > i then j else i)) H) cMax:=fun xs ts H C Q R rs h q f=>by
 unfold cMax at q
 split at q
 .obtain ⟨v1,v2,rfl,r1,r2⟩:=qM rs
  cases r1; cases r2
  exact⟨_,_,rfl,f _ H _ C q (.int _) h Fw.refl⟩
 .exact q.elim
theorem QW {K:PySem.W.Frag}:Cbi K (fun xs H Q=>∃i j,xs=[.int i,.int j]/\Q (.int (if j < i then j else i)) H) cMin:=fun xs ts H C Q R rs h q f=>by
 unfold cMin at q
 split at q
 .obtain ⟨v1,v2,rfl,r1,r2⟩:=qM rs
  cases r1; cases r2
  exact⟨_,_,rfl,f _ H _ C q (.int _) h Fw.refl⟩
 .exact q.elim
@[irreducible] def sR:GC:=fun ts C Q=>match ts with
 |[.ref a]=>match C a with
  |some (.dK kvs)=>∀p,C p=none->Q (.ref p) (gQ C p (.dK kvs))
  |_=>False
 |_=>False
theorem X1 {K:PySem.W.Frag}:Cbi K (fun xs H Q=>∃a kvs,xs=[.ref a]/\H a=some (.dK kvs)/\∀p,H p=none->Q (.ref p) (upd H p (.dK kvs))) sR:=fun xs ts H C Q R rs h q f=>by
 unfold sR at q
 split at q
 .split at q
  .next kvs e =>
   obtain⟨v,rfl,r⟩:=jZ rs;obtain⟨vs,ev,rv⟩:=h _ _ e;cases r;exact⟨_,vs,rfl,ev,fun p hp=>f _ _ _ _ (q p (h.fresh hp)) (.ref p) (h.lay hp ⟨vs,fQ,Paired.mapP rv fun _ _ z=>⟨z.1,z.2.imm (Imm.new hp _)⟩⟩) (Fw.lay hp _ _)⟩
  .exact q.elim
 .exact q.elim
@[irreducible] def cCount:PV->List PV->CH->K1->Prop:=fun x ts C Q=>match x,ts with
 |.ref a,[y]=>match C a,kK y with
  |some (.lst xs),some k=>match kB xs with
   |some ks=>Q (.int (cntK k ks:Nat)) C
   |none=>False
  |_,_=>False
 |_,_=>False
@[irreducible] def cIndexT:PV->List PV->CH->K1->Prop:=fun x ts C Q=>match x,ts with
 |.ref a,[.bl true]=>match C a with
  |some (.lst xs)=>∃(bs:List Bool) (j:Nat),xs=bs.map PV.bl/\bs[j]?=some true/\(∀m,m < j->bs[m]?=some false)/\Q (.int (j:Nat)) C
  |_=>False
 |_,_=>False
@[irreducible] def cEqT (k:Bool->Bool):R2C:=fun x y C Q=>match eB x,eB y with
 |some ks,some js=>Q (.bl (k (decide (ks=js)))) C
 |_,_=>False
def QL:PV->Option V
 |.non=>some .non
 |.bl b=>some (.bl b)
 |.int i=>some (.int i)
 |.str x=>some (.str x)
 |_=>none
theorem dN {K:PySem.W.Frag}{H:Hp}{v w:V}{t:PV}(r:Rep K H v t)(e:QL t=some w):v=w/\jB w=true:=by
 cases r<;>cases e<;>exact⟨rfl,rfl⟩
def mP:List PV->Option (List V)
 |[]=>some []
 |t::r=>match QL t,mP r with
  |some v,some vs=>some (v::vs)
  |_,_=>none
theorem wI {K:PySem.W.Frag}{H:Hp}{ts:List PV}{vs ws:List V}(r:Reps K H vs ts)(e:mP ts=some ws):vs=ws/\ws.all jB=true:=by
 induction ts generalizing vs ws with
 |nil=>cases r; cases e; exact⟨rfl,rfl⟩
 |cons t ts ih =>
  cases r with
  |cons h r =>
   unfold mP at e
   split at e
   .next v us e1 e2 =>
    cases e;obtain⟨rfl,f1⟩:=dN h e1;obtain⟨rfl,f2⟩:=ih r e2;exact⟨rfl,by rw[List.all_cons,f1,f2]; rfl⟩
   .cases e
def seqP (C:CH):PV->Option (List PV)
 |.tup xs=>some xs
 |.kt xs=>some xs
 |.ref a=>match C a with
  |some (.lst xs)=>some xs
  |_=>none
 |_=>none
@[irreducible] def cInS (neg:Bool):R2C:=fun x y C Q=>match seqP C y,QL x with
 |some ts,some v=>match mP ts with
  |some vs=>Q (.bl (if neg then !inV v vs else inV v vs)) C
  |none=>False
 |_,_=>False
theorem cop_inS {K:PySem.W.Frag}{neg:Bool}:Cop K (rIn K neg) (cInS neg):=fun x y px py H C Q R rx ry h q f=>by
 unfold cInS at q
 split at q
 .next ts v e1 e2 =>
  split at q
  .next vs e3 =>
   obtain⟨rfl,fx⟩:=dN rx e2
   have key:∃p ws,y=.ref p/\(SqL K H p ws\/SqT K H p ws)/\Reps K H ws ts:=by
    cases ry<;>try (cases e1)
    .next a =>
     unfold seqP at e1;dsimp only at e1
     split at e1
     .next xs e =>
      cases e1;obtain⟨us,eu,ru⟩:=h _ _ e;exact⟨a,us,rfl,.inl (SqL.of eu),ru⟩
     .cases e1
    .next p us hp r=>exact⟨p,us,rfl,.inr (SqT.of hp),r⟩
    .next p us hp r=>exact⟨p,us,rfl,.inr hp,r⟩
   obtain⟨p,ws,rfl,hs,rs⟩:=key;obtain⟨rfl,fs⟩:=wI rs e3;exact⟨p,ws,rfl,hs,fx,fs,f _ H _ C q (.bl _) h Fw.refl⟩
  .exact q.elim
 .exact q.elim
@[irreducible] def cRepL:R2C:=fun x y C Q=>match x,y with
 |.ref a,.int k=>match C a with
  |some (.lst xs)=>-(2 ^ 63)<=k/\k < 2 ^ 63/\xs.length * k.toNat<=sizeLine/\∀p,C p=none->Q (.ref p) (gQ C p (.lst (List.replicate k.toNat xs).flatten))
  |_=>False
 |.tup [z],.int k=>0<=k/\k < 64/\Q (.tup (List.replicate k.toNat z)) C
 |_,_=>False
end
def fL:List Key->Option (List Str)
 |[]=>some []
 |.inr x::r=>(fL r).map (x :: ·)
 |_=>none
theorem Xc {ks:List Key}{zs:List Str}(e:fL ks=some zs):ks=zs.map Sum.inr:=by
 induction ks generalizing zs with
 |nil=>cases e; rfl
 |cons k ks ih =>
  rcases k with k | x
  .cases e
  .unfold fL at e
   cases z:fL ks with
   |none=>rw[z] at e; cases e
   |some ws=>rw[z] at e; cases e; rw[ih z]; rfl
def tiK:List (List Key×PV)->Option (List (List Str×Int))
 |[]=>some []
 | (k,.int i)::r=>match fL k,tiK r with
  |some zs,some cs=>some ((zs,i)::cs)
  |_,_=>none
 |_=>none
theorem tiK_eq {kvs:List (List Key×PV)}{cs:List (List Str×Int)}(e:tiK kvs=some cs):kvs=cs.map fun c=>(c.1.map Sum.inr,PV.int c.2):=by
 induction kvs generalizing cs with
 |nil=>cases e; rfl
 |cons p kvs ih =>
  unfold tiK at e
  split at e
  .rename_i h; cases h
  .rename_i k i r h
   cases h
   split at e
   .next zs ds e1 e2=>cases e; rw[ih e2,Xc e1]; rfl
   .cases e
  .cases e
def aB (c:List Str×Int):PV:=.tup [.tup (c.1.map PV.str),.int c.2]
def tiLt (cs:List (List Str×Int)):Nat->Nat->Bool:=fun i j=>ltP (cs.getD i ([],0)) (cs.getD j ([],0))
def ordT (cs:List (List Str×Int)):List (List Str×Int):=(tG (tiLt cs) (kas_sort cs.length)).toList.map fun i=>cs.getD i ([],0)
section
variable {K:PySem.W.Frag}{H:Hp}{X:Cx}
theorem mS:∀zs:List Str,Reps K H (zs.map V.str) (zs.map PV.str)
 |[]=>.nil
 |z::zs=>.cons (.str z) (mS zs)
theorem Z5 {ys:List V}{ts:List PV}(d:PV)(lt:Nat->Nat->Bool)(r:Reps K H ys ts):Reps K H (lG lt ys) ((tG lt (kas_sort ts.length)).toList.map fun i=>ts.getD i d):=by
 have hl:ys.length=ts.length:=r.len;unfold lG;rw[hl]
 have mem:∀i∈(tG lt (kas_sort ts.length)).toList,i < ys.length:=by
  intro i hi
  by_cases h:0 < ts.length
  .rw [hl]; exact List.mem_range.mp ((gY lt ts.length h).mem_iff.mp hi)
  .have e:ts.length=0:=by omega
   rw[e,run0] at hi;cases hi
 generalize (tG lt (kas_sort ts.length)).toList=l at mem ⊢
 induction l with
 |nil=>exact .nil
 |cons i l ih=>exact .cons (r.getD (d:=d) i (mem i List.mem_cons_self)) (ih fun j hj=>mem j (List.mem_cons_of_mem _ hj))
theorem ti_ord (cs:List (List Str×Int))(l:List Nat):(l.map fun i=>(cs.map aB).getD i (aB ([],0)))=(l.map fun i=>cs.getD i ([],0)).map aB:=by
 rw[List.map_map]
 congr 1
 funext i
 show(cs.map aB).getD i (aB ([],0))=aB (cs.getD i ([],0));rw[List.getD_eq_getElem?_getD,List.getElem?_map,List.getD_eq_getElem?_getD];cases cs[i]?<;>rfl
@[irreducible] def jL (co:TCE):TCE:=fun ρ C Q=>co ρ C fun x C1=>match x with
 |.ref a=>match C1 a with
  |some (.dT _)=>Q (.vw a) C1
  |_=>False
 |_=>False
theorem XZ {o:Expr}{apos cpos:Pos}{co:TCE}(ho:CE X o co)(hbase:attributeBase o "items" X.env (eval o X.env)=eval o X.env:=by rfl)(hline:(apos.endLine==cpos.line)=true:=by rfl):CE X (.Call (.Attribute o "items" apos) [] [] cpos) (jL co) :=
 ⟨JE.weak (JK F.plainAttrs_dict F.slot_dict_items F.type_dict_items Xz ho.h hbase hline) fun σ H Q ⟨ρ,C,R,s,h,q,f⟩=>by
 unfold jL at q
 exact⟨ρ,C,_,s,h,q,fun x H1 px C1 q1 rx h1 f1=>by
  split at q1
  .split at q1
   .next kvs e =>
    obtain⟨vs,ev,r⟩:=h1 _ _ e;cases rx;exact⟨.inr (.inr (.inl ⟨rfl,.inr ⟨vs,ev⟩⟩)),_,vs,rfl,rfl,ev,fun v hv=>f _ _ _ _ q1 (.vw fQ) (h1.new hv _) (f1.trans (Fw.new hv _))⟩
   .exact q1.elim
  .exact q1.elim⟩⟩
@[irreducible] def lM:GC:=fun ts C Q=>match ts with
 |[.vw a]=>match C a with
  |some (.dT kvs)=>match tiK kvs with
   |some cs=>cs.length < 64/\∀p,C p=none->Q (.ref p) (gQ C p (.lst ((ordT cs).map aB)))
   |none=>False
  |_=>False
 |_=>False
abbrev ZG (X:Cx):List V->Hp->VK->Prop:=fun xs H Q=>∃v d kvs lt,xs=[.ref v]/\H v=some (.ext (mV v d))/\H d=some (.dT kvs)/\kvs.length < 64 /\
  ∀as H1,Same H H1->TPs H1 as kvs->(∀a∈as,H a=none)->(∀a,H a=none->H1 a≠none->a∈as)->Srt X H1 (List.map V.ref as) lt/\∀p,H1 p=none->Q (.ref p) (upd H1 p (.lst (lG lt (List.map V.ref as))))
theorem ti_at {as:List Addr}{kvs:List (List Key×V)}{cs:List (List Str×Int)}(r:TPs H as kvs)(e:FP K H kvs (cs.map fun c=>(c.1.map Sum.inr,PV.int c.2))):
  Reps K H (as.map V.ref) (cs.map aB)/\∀i,i < as.length->zH H ((as.map V.ref).getD i .non) (cs.getD i ([],0)):=by
 induction r generalizing cs with
 |nil =>
  cases cs with
  |nil=>exact⟨.nil,fun i hi=>absurd hi (Nat.not_lt_zero i)⟩
  |cons c cs=>cases e
 |@cons a b k v as kvs h1 h2 r ih =>
  cases cs with
  |nil=>cases e
  |cons c cs =>
   cases e with
   |cons h e =>
    obtain⟨e1,e2⟩:=h;obtain⟨i1,i2⟩:=ih e;have e1:k=c.1.map Sum.inr:=e1;have e2:Rep K H v (.int c.2):=e2;subst e1;cases e2;rw[eA] at h2;refine⟨.cons (.tup h1 (.cons (.tup h2 (mS c.1)) (.cons (.int _) .nil))) i1,fun i hi=>?_⟩
    cases i with
    |zero=>exact⟨a,b,rfl,h1,h2⟩
    |succ i=>exact i2 i (Nat.lt_of_succ_lt_succ hi)
theorem aO (hu:X.A.units+2 < cLine):Cbi X.K (ZG X) lM:=fun xs ts H C Q R rs h q f=>by
 unfold lM at q
 split at q
 .obtain ⟨v,rfl,r⟩:=jZ rs
  split at q
  .next kvs e =>
   split at q
   .next cs e2 =>
    have ex:=tiK_eq e2;subst ex;obtain⟨vs,ev,rv⟩:=h _ _ e
    cases r with
    |vw hv =>
     have hl:vs.length=cs.length:=by rw[Paired.length rv,List.length_map]
     refine⟨_,_,vs,tiLt cs,rfl,hv,ev,by rw[hl]; exact q.1,fun as H1 sm pa fr on=>?_⟩;have rv1:FP X.K H1 vs (cs.map fun c=>(c.1.map Sum.inr,PV.int c.2)):=Paired.mapP rv fun _ _ z=>⟨z.1,z.2.imm fun b v _ e=>sm b v e⟩;obtain⟨rr,pp⟩:=ti_at pa rv1;refine⟨Xd hu _ (fun i hi=>pp i (by rw[List.length_map] at hi; exact hi)),fun p hp=>?_⟩;have h1:=bF h sm;have ro:=Z5 (aB ([],0)) (tiLt cs) rr;rw[List.length_map,ti_ord] at ro
     exact f _ _ _ _ (q.2 p (h1.fresh hp)) (.ref p) (h1.lay hp ⟨_,fQ,ro.imm (Imm.new hp _)⟩) ((xR sm).trans (Fw.lay hp _ _))
   .exact q.elim
  .exact q.elim
 .exact q.elim
end
def oI:List (TCE×TCE)->CSt->CH->(List (PV×PV)->CH->Prop)->Prop
 |[],_,C,Q=>Q [] C
 | (ck,cv)::r,ρ,C,Q=>ck ρ C fun x C1=>cv ρ C1 fun y C2=>oI r ρ C2 fun ps C3=>Q ((x,y)::ps) C3
abbrev RPs (K:PySem.W.Frag)(H:Hp):List (V×V)->List (PV×PV)->Prop:=Paired fun p q=>Rep K H p.1 q.1/\Rep K H p.2 q.2
def liftP (K:PySem.W.Frag)(cs:List (TCE×TCE)):List (TE×TE):=cs.map fun p=>(zJ K (Rep K) p.1,zJ K (Rep K) p.2)
structure CPs (X:Cx)(pos:Pos)(keys:List (Option Expr))(values:List Expr)(cs:List (TCE×TCE)):Prop where
 h:PPs X pos keys values (liftP X.K cs)
theorem cps_nil {X:Cx}{pos:Pos}:CPs X pos [] [] []:=⟨pps_nil⟩
theorem fY {X:Cx}{pos:Pos}{k v:Expr}{ks:List (Option Expr)}{vs:List Expr}{ck cv:TCE}{cs:List (TCE×TCE)}(hk:CE X k ck)(hv:CE X v cv)(hr:CPs X pos ks vs cs):CPs X pos (some k::ks) (v::vs) ((ck,cv)::cs):=⟨ZR hk.h.h hv.h.h hr.h⟩
theorem pA {K:PySem.W.Frag}{σ:St}{ρ:CSt}:∀{cs:List (TCE×TCE)}{H:Hp}{C:CH}{R:List (PV×PV)->CH->Prop}{Q:List (V×V)->Hp->Prop},SRel K H σ ρ->HRel K H C->oI cs ρ C R ->
  (∀vs H' ts C',R ts C'->RPs K H' vs ts->HRel K H' C'->Fw H C H' C'->Q vs H')->vC (liftP K cs) σ H Q:=by
 intro cs
 induction cs with
 |nil=>intro H C R Q s h q f; exact f [] H [] C q .nil h Fw.refl
 |cons p cs ih =>
  obtain⟨ck,cv⟩:=p;intro H C R Q s h q f;refine⟨ρ,C,_,s,h,q,fun x H1 px C1 q1 rx h1 f1=>⟨ρ,C1,_,s.imm (f1.imm h),h1,q1,fun y H2 py C2 q2 ry h2 f2=>?_⟩⟩;refine ih ((s.imm (f1.imm h)).imm (f2.imm h1)) h2 q2 fun vs H3 ts C3 q3 r3 h3 f3=>?_;exact f _ H3 _ C3 q3 (.cons ⟨(rx.imm (f2.imm h1)).imm (f3.imm h2),ry.imm (f3.imm h2)⟩ r3) h3 (f1.trans (f2.trans f3))
def prK:List (PV×PV)->Option (List (Key×PV))
 |[]=>some []
 | (x,y)::r=>match kK x,prK r with
  |some k,some ps=>some ((k,y)::ps)
  |_,_=>none
theorem prK_rep {K:PySem.W.Frag}{H:Hp}{vs:List (V×V)}{ts:List (PV×PV)}{ps:List (Key×PV)}(r:RPs K H vs ts)(e:prK ts=some ps):∃kvs:List (Key×V),vs=kvs.map (fun kv=>(kV kv.1,kv.2))/\KP K H kvs ps:=by
 induction r generalizing ps with
 |nil=>cases e; exact⟨[],rfl,.nil⟩
 |@cons p q l1 l2 h r ih =>
  obtain⟨x,y⟩:=q;unfold prK at e
  split at e
  .next k ps' e1 e2 =>
   cases e;obtain⟨kvs,rfl,r2⟩:=ih e2;obtain⟨v1,v2⟩:=p;have ek:v1=kV k:=uY h.1 e1;subst ek;exact⟨(k,v2)::kvs,rfl,.cons ⟨rfl,h.2⟩ r2⟩
  .cases e
def prT:List (PV×PV)->Option (List (List Key×PV))
 |[]=>some []
 | (x,y)::r=>match eB x,prT r with
  |some k,some ps=>some ((k,y)::ps)
  |_,_=>none
section
variable {X:Cx}{pos:Pos}{keys:List (Option Expr)}{values:List Expr}{cs:List (TCE×TCE)}
@[irreducible] def zL (p:Addr):List (PV×PV)->CH->K1->Prop:=fun ts C Q=>C p=some (.dK [])/\match prK ts with
 |some ps=>ps.length<=15/\Q (.ref p) (gQ C p (.dK (aV [] ps)))
 |none=>False
def cDisp (cs:List (TCE×TCE)):TCE:=fun ρ C Q=>∀p,C p=none->oI cs ρ (gQ C p (.dK [])) fun ts C2=>zL p ts C2 Q
theorem ce_disp (h:CPs X pos keys values cs)(hall:keys.all (·.isSome)=true:=by rfl)(hl:keys.length=values.length:=by rfl)(h0:keys≠[]:=by exact fun z=>nomatch z)(h15:keys.length<=15:=by decide):CE X (.Dict keys values pos) (cDisp cs) :=
 ⟨JE.weak ⟨pe_disp h.h hall hl h0 h15⟩ fun σ H Q ⟨ρ,C,R,s,hh,q,f⟩=>fun p hp=>by
  have k0:Imm H (upd H p (.dK [])):=Imm.new hp _;refine pA (C:=gQ C p (.dK [])) (s.imm k0) (hh.lay hp ⟨[],fQ,.nil⟩) (q p (hh.fresh hp)) fun vs H2 ts C2 q2 r2 h2 f2=>?_;unfold zL at q2;obtain⟨e1,q2⟩:=q2
  split at q2
  .next ps e2 =>
   obtain⟨kvs,rfl,rk⟩:=prK_rep r2 e2;obtain⟨us,eu,ru⟩:=h2 p _ e1;have z:us=[]:=by cases ru; rfl
   subst z;have m:Imm H2 (upd H2 p (.dK (iV [] kvs))):=Imm.mut eu rfl _;refine⟨eu,kvs,rfl,by rw[Paired.length rk]; exact q2.1,?_⟩;exact f _ _ _ _ q2.2 (.ref p) (h2.put eu rfl ⟨_,fQ,Paired.mapP (KP.merge .nil rk) fun _ _ z=>⟨z.1,z.2.imm m⟩⟩) ((Fw.lay hp _ _).trans (f2.trans (Fw.put e1 _ _)))
  .exact q2.elim⟩
@[irreducible] def cPutAllT (p:Addr):List (PV×PV)->CH->K1->Prop:=fun ts C Q=>C p=some (.dT [])/\match prT ts with
 |some ps=>ps.length<=15/\Q (.ref p) (gQ C p (.dT (mergeG [] ps)))
 |none=>False
end
theorem aY {A:Around}{k:Nat}(hr:Room k A):A.units+2 < cLine:=by have:=hr.un; omega
section
variable {C:CH}{p:Addr}{Q:K1}{x y v z:PV}
theorem Kc {c dx:Addr}{f:Str}{fs:List (Str×PV)}(m:C p=some (.ins c dx fs))(e:fs.lookup f=some v)(q:Q v C):tI c f (.ref p) C Q:=by
 unfold tI;dsimp only;rw[m];refine⟨rfl,?_⟩;rw[e];exact q
theorem ZN {c dx:Addr}{f:Str}{fs:List (Str×PV)}{Q:CH->Prop}(m:C p=some (.ins c dx fs))(h:fs.length < 1000)(q:Q (gQ C p (.ins c dx (qT f v fs)))):Q3 c f (.ref p) v C Q:=by
 unfold Q3;dsimp only;rw[m];exact⟨rfl,h,q⟩
theorem oX {c dx:Addr}{f:Str}{fs:List (Str×PV)}(m:C p=some (.ins c dx fs))(e:fs.lookup f=none):vO c f (.ref p) C:=by
 unfold vO;dsimp only;rw[m];exact⟨rfl,e⟩
theorem isTd_s {kvs:List (List Key×PV)}(m:C p=some (.dT kvs)):JN (.ref p) C:=by
 unfold JN;dsimp only;rw[m]
 trivial
theorem tix_s {kvs:List (List Key×PV)}{k:List Key}(m:C p=some (.dT kvs))(hk:eB y=some k)(hv:rK kvs k=some v)(q:Q v C):cTIx (.ref p) y C Q:=by
 unfold cTIx;dsimp only;rw[m,hk];dsimp only;rw[hv];exact q
theorem tget_s {kvs:List (List Key×PV)}{k:List Key}(m:C p=some (.dT kvs))(hk:eB y=some k)(hv:(rK kvs k).getD z=v)(q:Q v C):QX (.ref p) y z C Q:=by
 unfold QX;dsimp only;rw[m,hk];dsimp only;rw[hv];exact q
theorem Zm {kvs:List (List Key×PV)}{k:List Key}{Q:CH->Prop}(m:C p=some (.dT kvs))(hk:eB y=some k)(h:kvs.length<=1000)(q:Q (gQ C p (.dT (putG kvs k v)))):QZ (.ref p) y v C Q:=by
 unfold QZ;dsimp only;rw[m,hk];exact⟨Nat.lt_of_le_of_lt h (by decide),q⟩
theorem oJ {kvs:List (Key×PV)}{k:Key}(m:C p=some (.dK kvs))(hk:kK y=some k)(hv:hZ kvs k=some v)(q:Q v C):fH (.ref p) y C Q:=by
 unfold fH;dsimp only;rw[m,hk];show(match hZ kvs k with | some v=>Q v C | none=>False);rw[hv];exact q
theorem getD_g {kvs:List (Key×PV)}{k:Key}(m:C p=some (.dK kvs))(hk:kK y=some k)(hv:(hZ kvs k).getD z=v)(q:Q v C):Q4 (.ref p) y z C Q:=by
 unfold Q4;dsimp only;rw[m,hk];show Q ((hZ kvs k).getD z) C;rw[hv];exact q
theorem oW {kvs:List (Key×PV)}{k:Key}{Q:CH->Prop}(m:C p=some (.dK kvs))(hk:kK y=some k)(h:kvs.length<=1000)(q:Q (gQ C p (.dK (cZ kvs k v)))):eP (.ref p) y v C Q:=by
 unfold eP;dsimp only;rw[m,hk];exact⟨Nat.lt_of_le_of_lt h (by decide),q⟩
theorem isDk_g {kvs:List (Key×PV)}(m:C p=some (.dK kvs)):JU (.ref p) C:=by
 unfold JU;dsimp only;rw[m]
 trivial
theorem dictK_s {kvs:List (Key×PV)}(m:C p=some (.dK kvs))(q:∀p',C p'=none->Q (.ref p') (gQ C p' (.dK kvs))):sR [.ref p] C Q:=by
 unfold sR;dsimp only;rw[m];exact q
theorem JV {neg:Bool}{ts:List PV}{w:V}{vs:List V}(h1:seqP C y=some ts)(h2:QL x=some w)(h3:mP ts=some vs)(q:Q (.bl (if neg then !inV w vs else inV w vs)) C):cInS neg x y C Q:=by
 unfold cInS;rw[h1,h2];dsimp only;rw[h3];exact q
theorem Kb {ce:TCE}{g:TCG}{u:TCS}{E:sW}{ρ:CSt}(h:ce ρ C fun t C1=>match t with | .tup xs=>rW g u E xs ρ C1 | .kt xs=>rW g u E xs ρ C1 | _=>False):tN ce g u E ρ C:=by
 unfold tN;exact h
end
theorem dL {cs:List (Str×Int)}{p:Addr}{C:CH}{Q:K1}(m:C p=some (.lst (cs.map dQ)))(h:cs.length < 64)(q:∀p',C p'=none->Q (.ref p') (gQ C p' (.lst ((sY cs).map dQ)))):qL [.ref p] C Q:=by
 unfold qL;dsimp only;rw[m];dsimp only;rw[cS];exact⟨h,q⟩
theorem eG {i:Nat}{g:TCG}{u:TCS}{E:sW}{ρ:CSt}{C:CH}{xs:List PV}(hv:ρ[i]?=some (some (.tup xs)))(h:rW g u E xs ρ C):tN (oZ i) g u E ρ C:=by
 unfold tN oZ;rw[hv];exact h
theorem dX {x v:PV}{xs:List PV}{i:Int}{C:CH}{Q:K1}(h:x=.tup xs)(e:atI xs i=some v)(q:Q v C):cIx x (.int i) C Q:=by
 subst h;exact cX e q
theorem min_s {i j:Int}{C:CH}{Q:K1}(q:Q (.int (if j < i then j else i)) C):cMin [.int i,.int j] C Q:=by
 unfold cMin;exact q
theorem max_s {i j:Int}{C:CH}{Q:K1}(q:Q (.int (if j > i then j else i)) C):cMax [.int i,.int j] C Q:=by
 unfold cMax;exact q
theorem bB {xs:List PV}{k:Nat}(h:k < xs.length):atI xs (k:Int)=some xs[k]:=by
 unfold atI ixN;rw[if_pos (by omega),if_pos (by omega)];show xs[(k:Int).toNat]?=_;rw[Int.toNat_natCast,List.getElem?_eq_getElem h]
theorem sQ {x:PV}{r:List PV}:atI (x::r) 0=some x:=bB (xs:=x::r) (k:=0) (Nat.zero_lt_succ _)
theorem XM {t:TCT}{ca cb:TCE}{ρ:CSt}{C:CH}{Q:K1}(h:t ρ C fun b C1=>if b=true then ca ρ C1 Q else cb ρ C1 Q):cIf t ca cb ρ C Q:=h
theorem fG {k:Bool->Bool}{i:Nat}{x:PV}{ρ:CSt}{C:CH}{Q:Bool->CH->Prop}(hv:ρ[i]?=some (some x))(q:Q (k (qI x)) C):qE (cOp (cIs k) (oZ i) (cC .non)) ρ C Q:=by
 show oZ i ρ C fun x C1=>vT Q (.bl (k (qI x))) C1;unfold oZ;rw[hv];exact q
theorem yZ {g:TCG}{u:TCS}{E:sW}(I:List PV->CSt->CH->Prop)(step:∀x r ρ C,I (x::r) ρ C->∀L:CSt->CH->Prop,(∀ρ' C',I r ρ' C'->L ρ' C')->g x ρ C fun ρ1 C1=>u { nx:=L,ct:=L,bk:=E.nx,rt:=E.rt } ρ1 C1)(fin:∀ρ C,I [] ρ C->E.nx ρ C):
  ∀xs ρ C,I xs ρ C->rW g u E xs ρ C:=by
 intro xs
 induction xs with
 |nil=>intro ρ C h; exact fin ρ C h
 |cons x r ih=>intro ρ C h; exact step x r ρ C h _ ih
theorem tJ {c:TCE}{ρ:CSt}{Q:K1}(I:List PV->List PV->CH->Prop)(step:∀x r acc C,I (x::r) acc C->∀L:K1,(∀y C2,acc.length < sizeLine/\I r (acc++[y]) C2->L y C2)->c (some x::ρ) C L)(fin:∀acc C,I [] acc C->∀p,C p=none->Q (.ref p) (gQ C p (.lst acc))):
  ∀xs acc C,I xs acc C->wZ aU c ρ Q xs acc C:=by
 intro xs
 induction xs with
 |nil=>intro acc C h; exact fin acc C h
 |cons x r ih =>
  intro acc C h;exact step x r acc C h _ fun y C2 z=>⟨z.1,ih _ _ z.2⟩
theorem XX {S:CH->Prop}{c:TCE}{ρ:CSt}{Q:K1}(I:List PV->List PV->CH->Prop)(hS:∀r acc C,I r acc C->S C)(step:∀x r acc C,I (x::r) acc C->∀L:K1,(∀y C2,acc.length < sizeLine/\I r (acc++[y]) C2->L y C2)->c (some x::ρ) C L)(fin:∀acc C,I [] acc C->∀p,C p=none->Q (.ref p) (gQ C p (.lst acc))):
  ∀xs acc C,I xs acc C->jU S aU c ρ Q xs acc C:=by
 intro xs
 induction xs with
 |nil=>intro acc C h; exact⟨hS _ _ _ h,fin acc C h⟩
 |cons x r ih =>
  intro acc C h;exact⟨hS _ _ _ h,step x r acc C h _ fun y C2 z=>⟨z.1,ih _ _ z.2⟩⟩
theorem xW {C C1:CH}{p:Addr}(g:Gr C C1)(hp:C p=none)(o:CO):Gr C (gQ C1 p o):=fun b u e=>by
 rw[wQ (fun z=>by subst z; rw[hp] at e; cases e)];exact g b u e
theorem pV {C C':CH}{p:Addr}(g:Gr C C')(h:C' p=none):C p=none:=by
 cases e:C p with
 |none=>rfl
 |some o=>rw[g p o e] at h; cases h
theorem eY {n:Nat}(h:n<=1000):n<=sizeLine:=Nat.le_trans h (by decide)
theorem zM (kvs:List (Key×PV))(k:Key)(v:PV):(cZ kvs k v).length<=kvs.length+1:=by
 unfold cZ
 split
 .rw [List.length_map]; omega
 .rw [List.length_append,List.length_singleton]; exact Nat.le_refl _
theorem xC (kvs:List (Key×PV))(k:Key)(v:PV)(k':Key):hZ (cZ kvs k v) k'=if k'=k then some v else hZ kvs k':=by
 have up:∀l:List (Key×PV),(l.any fun kv=>decide (kv.1=k))=true->hZ (l.map fun kv=>if kv.1=k then (kv.1,v) else kv) k'=if k'=k then some v else hZ l k':=by
  intro l
  induction l with
  |nil=>intro h; cases h
  |cons x l ih =>
   intro h;unfold hZ;rw[List.map_cons,List.find?_cons,List.find?_cons]
   by_cases e:x.1=k
   .rw [if_pos e]
    by_cases e2:k'=k
    .rw [if_pos e2]
     show(match decide (x.1=k') with | true=>some (x.1,v) | false=>_).map _=_;rw[decide_eq_true (e.trans e2.symm)]; rfl
    .rw [if_neg e2]
     have ne:¬ x.1=k':=fun z=>e2 (z.symm.trans e);show(match decide (x.1=k') with | true=>some (x.1,v) | false=>_).map _=(match decide (x.1=k') with | true=>some x | false=>_).map _;rw[decide_eq_false ne]
     by_cases h3:(l.any fun kv=>decide (kv.1=k))=true
     .have:=ih h3
      rw[if_neg e2] at this;exact this
     .have:(l.map fun kv=>if kv.1=k then (kv.1,v) else kv)=l:=by
       have h4:∀y∈l,¬ y.1=k:=fun y hy z=>h3 (List.any_eq_true.2 ⟨y,hy,decide_eq_true z⟩);exact(List.map_congr_left fun y hy=>if_neg (h4 y hy)).trans (List.map_id l)
      rw[this]
   .rw [if_neg e]
    have h3:(l.any fun kv=>decide (kv.1=k))=true:=by
     rw[List.any_cons,decide_eq_false e,Bool.false_or] at h;exact h
    have:=ih h3
    by_cases e3:x.1=k'
    .rw [decide_eq_true e3]
     have e2:¬ k'=k:=fun z=>e (e3.trans z);rw[if_neg e2]
    .rw [decide_eq_false e3]
     exact this
 unfold cZ
 by_cases b:(kvs.any fun kv=>decide (kv.1=k))=true
 .rw [if_pos b]; exact up kvs b
 .rw [if_neg b]
  induction kvs with
  |nil =>
   unfold hZ;rw[List.nil_append,List.find?_cons]
   by_cases e2:k'=k
   .rw [if_pos e2]
    show(match decide (k=k') with | true=>some (k,v) | false=>_).map _=_;rw[decide_eq_true e2.symm]; rfl
   .rw [if_neg e2]
    show(match decide (k=k') with | true=>some (k,v) | false=>_).map _=_;rw[decide_eq_false (fun z=>e2 z.symm)]
  |cons x l ih =>
   rw[List.any_cons] at b;have e:¬ x.1=k:=fun e=>b (by rw[decide_eq_true e]; rfl);rw[decide_eq_false e,Bool.false_or] at b;have:=ih b;unfold hZ at this ⊢;rw[List.cons_append,List.find?_cons,List.find?_cons]
   by_cases e3:x.1=k'
   .rw [decide_eq_true e3]
    have e2:¬ k'=k:=fun z=>e (e3.trans z);rw[if_neg e2]
   .rw [decide_eq_false e3]
    exact this
def ExS (S:List Addr)(C C':CH):Prop:=∀b o,b∉S->C b=some o->C' b=some o
theorem ExS.refl {S:List Addr}{C:CH}:ExS S C C:=fun _ _ _ h=>h
theorem ExS.trans {S:List Addr}{C C1 C2:CH}(h:ExS S C C1)(h':ExS S C1 C2):ExS S C C2:=fun b o n e=>h' b o n (h b o n e)
theorem ExS.mono {S S':List Addr}{C C1:CH}(h:ExS S C C1)(s:∀b∈S,b∈S'):ExS S' C C1:=fun b o n e=>h b o (fun z=>n (s b z)) e
theorem ExS.at {S:List Addr}{C C1:CH}{p:Addr}(h:ExS S C C1)(hp:p∈S)(o:CO):ExS S C (gQ C1 p o):=fun b u n e=>by
 rw[wQ (fun z=>n (by rw[z]; exact hp))];exact h b u n e
theorem ExS.put {S:List Addr}{C C1:CH}{p:Addr}(h:ExS S C C1)(hp:C p=none)(o:CO):ExS S C (gQ C1 p o):=fun b u n e=>by
 rw[wQ (fun z=>by subst z; rw[hp] at e; cases e)];exact h b u n e
theorem ExS.none {S:List Addr}{C C':CH}{p:Addr}(g:ExS S C C')(n:p∉S)(h:C' p=none):C p=none:=by
 cases e:C p with
 |none=>rfl
 |some o=>rw[g p o n e] at h; cases h
end CL
namespace L2
open PySem PySem.Spec PyProof.Rows
def Zt (K:PySem.W.Frag)(n:Nat)(wi:TI)(tc:TT)(te:TE):TE:=fun σ H Q=>wi σ H fun J H1=>∀D,H1 D=none->∃W:Nat->Nat->List V->Hp->Prop,(∃m,W 0 m [] (upd H1 D (.lst [])))/\∀i m ys H,W i m ys H ->
 (J.stop i H/\Q (.ref D) H)\/(J.go i H/\∀x H',J.yld i H x H'->∃a vs,x=.ref a/\SqT K H' a vs/\vs.length=n/\tc (vs.map some++σ) H' fun b H2 =>
  if b=true then te (vs.map some++σ) H2 fun y H3=>H3 D=some (.lst ys)/\ys.length < sizeLine/\∃m',m' < m/\W (i+1) m' (ys++[y]) (upd H3 D (.lst (ys++[y])))
  else ∃m',m' < m/\W (i+1) m' ys H2)
section
variable {X:Cx}
theorem Z2 {elt iter tg:Expr}{xs:List Str}{pos:Pos}{ifs:List Expr}{scope:Scope}{cl:List (Str×Addr)}{wi:TI}{tc:TT}{te:TE}{g:TG}
  (hc:X.calm=true) (K:lV X xs scope cl) (hg:∀fp C s₂ H₂,PG (cxN X xs scope cl fp C s₂ H₂) tg g) (hG:∀ws vs a σ H Q,ws.length=xs.length->SqT X.K H a vs->vs.length=xs.length->Q (vs.map some++σ) H->g (.ref a) (ws++σ) H Q) (hi:PI X tg iter wi)
  (ht:∀fp C s₂ H₂,Zb (cxN X xs scope cl fp C s₂ H₂) ifs tc) (he:∀fp C s₂ H₂,PE (cxN X xs scope cl fp C s₂ H₂) elt te)
  (hs:∀v,foldedSetIterable iter X.env v=pure v:=by intro _; rfl):PE X (.ListComp elt [⟨tg,iter,ifs,0⟩] scope pos) (Zt X.K xs.length wi tc te):=by
 intro pins s σ H Q I h;rw[eval_ListComp];refine wpAny_comprehension_free (use:=none) rfl hs K.clos K.kind K.names (thn (hi pins s σ H _ I h) fun xv s₁ h₁=>thn h₁ fun itv s₂ h₂=>?_);obtain⟨it,fp,tn,J,H₂,e,I₂,T,st₂,f₂,R⟩:=h₂;subst e;refine iG (Tk:=fun x H vs=>∃a,x=.ref a/\SqT X.K H a vs) hc K hg ht he (fun ws vs x H Q l ⟨a,e,sq⟩ l' q=>by rw[e]; exact hG ws vs a σ H Q l sq l' q) I₂ T st₂ f₂ (fun D hD=>let ⟨W,w0,tu⟩:=R D hD; ⟨W,w0,fun i m ys H w=>(tu i m ys H w).imp id fun⟨g,st⟩=>⟨g,fun x H' y=>let ⟨a,vs,e,sq,l,q⟩:=st x H' y; ⟨vs,⟨a,e,sq⟩,l,q⟩⟩⟩) ?_
 intro D C H s4 m hn hCL hC0 hCc hCsz I4 q;refine⟨m,hn,fun h' hsb=>⟨.ref D,H,?_,rfl,q⟩⟩;refine I4.turned (it:=C) (t':=s4.toks) (fun b o hb e=>(hsb.2 b hb).trans e) hC0 hCL (.inr (Nat.le_trans I₂.sz hCsz)) hCc fun p hp z=>?_;exact absurd (Nat.lt_of_lt_of_le (Heap.lt_size (I₂.pin p hp).1) (by rw[z]; exact hCsz)) (Nat.lt_irrefl _)
end
end L2
namespace CL
open PySem PySem.Spec L2 PySem.W
open PyProof.Rows hiding St
def nU (n:Nat)(t:TCT)(c:TCE)(ρ:CSt)(Q:K1):List PV->List PV->CH->Prop
 |[],acc,C=>∀p,C p=none->Q (.ref p) (gQ C p (.lst acc))
 |x::r,acc,C=>∃ts,x=.tup ts/\ts.length=n/\t (ts.map some++ρ) C fun b C1=>if b=true then c (ts.map some++ρ) C1 fun y C2=>acc.length < sizeLine/\nU n t c ρ Q r (acc++[y]) C2 else nU n t c ρ Q r acc C1
theorem wC {K:PySem.W.Frag}{H:Hp}:∀{vs:List V}{ts:List PV},Reps K H vs ts->SRel K H (vs.map some) (ts.map some)
 |_,_,.nil=>.nil
 |_,_,.cons h r=>.cons h (wC r)
theorem SRel.app {K:PySem.W.Frag}{H:Hp}{σ τ:St}{ρ π:CSt}(h:SRel K H σ ρ)(h':SRel K H τ π):SRel K H (σ++τ) (ρ++π):=by
 induction h with
 |nil=>exact h'
 |cons a _ ih=>exact .cons a ih
theorem Ku {n:Nat}{K:PySem.W.Frag}{H H0:Hp}{C C0:CH}{σ:St}{ρ:CSt}{J:It}{ps:List PV}{t:TCT}{c:TCE}{R:K1}{Q:VK}(j:Qd K H J ps)(s:SRel K H σ ρ)(h:HRel K H C)(q:nU n t c ρ R ps [] C)
  (h0:HRel K H0 C0) (f0:Fw H0 C0 H C) (f:∀v H' p C',R p C'->Rep K H' v p->HRel K H' C'->Fw H0 C0 H' C'->Q v H') {D:Addr} (hD:H D=none) :
  ∃W:Nat->Nat->List V->Hp->Prop,(∃m,W 0 m [] (upd H D (.lst [])))/\∀i m ys H,W i m ys H ->
   (J.stop i H/\Q (.ref D) H)\/(J.go i H/\∀x H',J.yld i H x H'->∃a vs,x=.ref a/\SqT K H' a vs/\vs.length=n/\zJ K qF t (vs.map some++σ) H' fun b H2 =>
    if b=true then zJ K (Rep K) c (vs.map some++σ) H2 fun y H3=>H3 D=some (.lst ys)/\ys.length < sizeLine/\∃m',m' < m/\W (i+1) m' (ys++[y]) (upd H3 D (.lst (ys++[y])))
    else ∃m',m' < m/\W (i+1) m' ys H2):=by
 have fD:∀{H':Hp} {C':CH},Fw H C H' C'->True:=fun _=>trivial
 refine⟨fun i m ys H'=>m=ps.length - i/\i<=ps.length/\∃acc C',H' D=some (.lst ys)/\C' D=none/\Reps K H' ys acc/\HRel K H' C'/\Fw H C H' C'/\nU n t c ρ R (ps.drop i) acc C',
  ⟨ps.length,rfl,Nat.zero_le _,[],C,fQ,h.fresh hD,.nil,h.new hD _,Fw.new hD _,q⟩,?_⟩
 rintro i m ys H1 ⟨rfl,hi,acc,C1,e1,n1,r1,h1,f1,q1⟩;have k1:Imm H H1:=f1.imm h
 by_cases hlt:i < ps.length
 .refine .inr ⟨j.go i H1 hlt k1,fun x H2 y=>?_⟩
  obtain⟨rfl,y⟩:=j.yl i H1 x H2 k1 y;have rx:=y _ (List.getElem?_eq_getElem hlt);rw[List.drop_eq_getElem_cons hlt] at q1;obtain⟨ts,ets,hn,q1⟩:=q1;rw[ets] at rx
  obtain⟨a5,vs5,z5,sq5,rs5⟩:∃a vs,x=.ref a/\SqT K H2 a vs/\Reps K H2 vs ts:=by
   cases rx with
   |tup e r=>exact⟨_,_,rfl,SqT.of e,r⟩
  refine⟨a5,vs5,z5,sq5,rs5.len.trans hn,?_⟩;refine⟨ts.map some++ρ,C1,_,(wC rs5).app (s.imm k1),h1,q1,fun b H3 b' C3 q3 e h3 f3=>?_⟩;cases e;obtain⟨n3,e3⟩:=f3 D (by rw[n1]; rfl) (by rw[e1]; exact fun z=>nomatch z);rw[e1] at e3;rw[n1] at n3;have k3:=f3.imm h1
  cases b with
  |true =>
   rw[if_pos rfl] at q3 ⊢;refine⟨ts.map some++ρ,C3,_,(wC (rs5.imm k3)).app ((s.imm k1).imm k3),h3,q3,fun v H4 p C4 q4 r4 h4 f4=>?_⟩;obtain⟨n4,e4⟩:=f4 D (by rw[n3]; rfl) (by rw[e3]; exact fun z=>nomatch z);rw[e3] at e4;rw[n3] at n4;have k4:=f4.imm h3;have m4:Imm H4 (upd H4 D (.lst (ys++[v]))):=Imm.mut e4 rfl _;refine⟨e4,by rw[r1.len]; exact q4.1,ps.length - (i+1),by omega,rfl,hlt,acc++[p],C4,fQ,n4,?_,?_,?_,q4.2⟩
   .exact (((r1.imm k3).imm k4).append (.cons r4 .nil)).imm m4
   .intro a o ca
    have ne:a≠D:=fun z=>by subst z; rw[n4] at ca; cases ca
    exact(h4 a o ca).imm m4 (lQ ne)
   .intro a ca na
    have ne:a≠D:=fun z=>na (z▸hD);obtain⟨x1,x2⟩:=(f1.trans (f3.trans f4)) a ca na;exact⟨x1,(lQ ne).trans x2⟩
  |false =>
   rw[if_neg Bool.false_ne_true] at q3 ⊢;exact⟨ps.length - (i+1),by omega,rfl,hlt,acc,C3,e3,n3,r1.imm k3,h3,f1.trans f3,q3⟩
 .have e:i=ps.length:=by omega
  subst e;rw[List.drop_length] at q1;refine .inl ⟨j.st H1 k1,f (.ref D) H1 (.ref D) _ (q1 D n1) (.ref D) ?_ ?_⟩
  .intro a o ca
   by_cases z:a=D
   .subst z; rw[jQ] at ca; cases ca; exact⟨ys,e1,r1⟩
   .rw [wQ z] at ca; exact h1 a o ca
  .intro a ca na
   obtain⟨x1,x2⟩:=f0 a ca na;have na':H a≠none:=by rw[x2]; exact na
   have ne:a≠D:=fun z=>na' (z▸hD);obtain⟨y1,y2⟩:=f1 a (by rw[x1]; exact ca) na';exact⟨(wQ ne).trans (y1.trans x1),y2.trans x2⟩
section
variable {X:Cx}{pos:Pos}
def eI (n:Nat)(ci:CSt->CH->(List PV->CH->Prop)->Prop)(t:TCT)(c:TCE):TCE:=fun ρ C Q=>ci ρ C fun ps C1=>nU n t c ρ Q ps [] C1
theorem dA {n:Nat}{wi:TI}{tg it:Expr}{ci:CSt->CH->(List PV->CH->Prop)->Prop}{t:TCT}{c:TCE}(hi:CI X tg it wi ci){σ:St}{H:Hp}{Q:VK}(h:zJ X.K (Rep X.K) (eI n ci t c) σ H Q):Zt X.K n wi (zJ X.K qF t) (zJ X.K (Rep X.K) c) σ H Q:=by
 obtain⟨ρ,C,R,s,h,q,f⟩:=h;exact hi.w σ H ρ C _ _ s h q fun J H' ps C' q' j h' f' D hD=>Ku j (s.imm (f'.imm h)) h' q' h f' f hD
def GOk (K:PySem.W.Frag)(n:Nat)(g:TG):Prop:=∀(ws:St) (vs:List V) (a:Addr) (σ:St) (H:Hp) (Q:St->Hp->Prop),ws.length=n->SqT K H a vs->vs.length=n->Q (vs.map some++σ) H->g (.ref a) (ws++σ) H Q
theorem KC {elt iter tg:Expr}{xs:List Str}{ifs:List Expr}{scope:Scope}{wi:TI}{ci:CSt->CH->(List PV->CH->Prop)->Prop}{t:TCT}{c:TCE}{g:TG}
  (hc:X.calm=true) (K:∃cl,lV X xs scope cl) (hg:∀cl fp C s₂ H₂,lV X xs scope cl->PG (cxN X xs scope cl fp C s₂ H₂) tg g) (hG:GOk X.K xs.length g) (hi:CI X tg iter wi ci)
  (ht:∀cl fp C s₂ H₂,CF (cxN X xs scope cl fp C s₂ H₂) ifs t) (he:∀cl fp C s₂ H₂,CE (cxN X xs scope cl fp C s₂ H₂) elt c)
  (hs:∀v,foldedSetIterable iter X.env v=pure v:=by intro _; rfl):CE X (.ListComp elt [⟨tg,iter,ifs,0⟩] scope pos) (eI xs.length ci t c):=by
 obtain⟨cl,K⟩:=K;exact⟨JE.weak ⟨Z2 (pos:=pos) hc K (fun fp C s₂ H₂=>hg cl fp C s₂ H₂ K) hG hi.j.h (fun fp C s₂ H₂=>(ht cl fp C s₂ H₂).h.h) (fun fp C s₂ H₂=>(he cl fp C s₂ H₂).h.h) hs⟩ fun _ _ _ h=>dA hi h⟩
abbrev g2 (K:PySem.W.Frag):TG:=gTup K 2 (bP (mY 0) (bP (mY 1) gNil))
abbrev g3 (K:PySem.W.Frag):TG:=gTup K 3 (bP (mY 0) (bP (mY 1) (bP (mY 2) gNil)))
theorem gok2 {K:PySem.W.Frag}:GOk K 2 (g2 K):=by
 intro ws vs a σ H Q h1 h2 h3 q
 obtain⟨w0,w1,rfl⟩:∃w0 w1,ws=[w0,w1]:=by
  match ws,h1 with
  |[w0,w1],_=>exact⟨w0,w1,rfl⟩
 match vs,h3 with
 |[v0,v1],_=>exact⟨a,[v0,v1],rfl,h2,rfl,v0,[v1],rfl,v1,[],rfl,rfl,q⟩
theorem pg2 {x y:Str}{scope:Scope}{cl:List (Str×Addr)}{fp:List Addr}{C:Addr}{s₂:Shared}{H₂:Hp}{p1 p2 p:Pos}{k:Nat}(hc:X.calm=true)(hN:(x::y::X.N).Nodup)(K:lV X [x,y] scope cl):
  PG (cxN X [x,y] scope cl fp C s₂ H₂) (.Tuple [.Name x p1,.Name y p2] k p) (g2 X.K) :=
 have l1:=lookup_relabel_local (env:=X.env) (K.hx x (by simp));have l2:=lookup_relabel_local (env:=X.env) (K.hx y (by simp))
 ZV (X:=cxN X [x,y] scope cl fp C s₂ H₂) hc (sL (xM (i:=0) hN rfl (.inl l1) (.inr l1)) (sL (xM (i:=1) hN rfl (.inl l2) (.inr l2)) Qu))
theorem KF {elt iter:Expr}{x y:Str}{ifs:List Expr}{scope:Scope}{wi:TI}{ci:CSt->CH->(List PV->CH->Prop)->Prop}{t:TCT}{c:TCE}{p1 p2 p:Pos}{k:Nat}
  (hc:X.calm=true) (hN:(x::y::X.N).Nodup) (K:∃cl,lV X [x,y] scope cl) (hi:CI X (.Tuple [.Name x p1,.Name y p2] k p) iter wi ci)
  (ht:∀cl fp C s₂ H₂,CF (cxN X [x,y] scope cl fp C s₂ H₂) ifs t) (he:∀cl fp C s₂ H₂,CE (cxN X [x,y] scope cl fp C s₂ H₂) elt c)
  (hs:∀v,foldedSetIterable iter X.env v=pure v:=by intro _; rfl):CE X (.ListComp elt [⟨.Tuple [.Name x p1,.Name y p2] k p,iter,ifs,0⟩] scope pos) (eI 2 ci t c) :=
 KC (xs:=[x,y]) hc K (fun _ _ _ _ _ K'=>pg2 hc hN K') gok2 hi ht he hs
end
end CL
namespace L2
open PySem PySem.W PySem.Spec PyProof.Rows
abbrev nQ:=List (List Key)
abbrev KPt (H:Hp):List (nQ×V)->List (nQ×Addr×Value)->Prop:=Paired fun p q=>p.1=q.1/\PKey H p.1 q.2.1/\RelV p.2 q.2.2
theorem KPt.val {H:Hp}{kvs:List (nQ×V)}{xs:List (nQ×Addr×Value)}(r:KPt H kvs xs)(k:nQ):RelO (xY kvs k) ((atKey xs k).map (·.2)):=by
 induction r with
 |nil=>exact True.intro
 |@cons p q ps qs h t ih =>
  obtain⟨h1,_,h2⟩:=h
  by_cases e:p.1=k
  .have b:atKey (q::qs) k=some q.2:=by simp[atKey,List.find?_cons,h1.symm.trans e]
   rw[rB e,b]; exact h2
  .have b:atKey (q::qs) k=atKey qs k:=by
    have e':¬ q.1=k:=fun z=>e (h1.trans z)
    simp[atKey,List.find?_cons,e']
   rw[nB e,b]; exact ih
theorem KPt.repl {H:Hp}{kvs:List (nQ×V)}{xs:List (nQ×Addr×Value)}(r:KPt H kvs xs)(k:nQ){y:V}{u:Value}(ry:RelV y u):
  KPt H (kvs.map fun kv=>if kv.1=k then (kv.1,y) else kv) (xs.map (putAt k u)):=by
 induction r with
 |nil=>exact .nil
 |@cons p q ps qs h t ih =>
  rw[List.map_cons,List.map_cons];refine .cons ?_ ih;obtain⟨h1,h2,h3⟩:=h;unfold putAt
  by_cases e:p.1=k
  .rw [if_pos e,if_pos (h1.symm.trans e)]; exact⟨h1,h2,ry⟩
  .rw [if_neg e,if_neg (fun z=>e (h1.trans z))]; exact⟨h1,h2,h3⟩
theorem KPt.put {H:Hp}{kvs:List (nQ×V)}{xs:List (nQ×Addr×Value)}(r:KPt H kvs xs)(k:nQ){b:Addr}{y:V}{u:Value}(hb:PKey H k b)(ry:RelV y u):
  KPt H (bK kvs k y) (storedH xs k b u):=by
 have e:(kvs.any fun kv=>decide (kv.1=k))=(atKey xs k).isSome:=by
  rw[bL,(r.val k).isSome_eq,Option.isSome_map]
 unfold bK storedH;rw[e]
 by_cases q:(atKey xs k).isSome=true
 .rw [if_pos q,if_pos q]; exact r.repl k ry
 .rw [if_neg q,if_neg q]; exact Paired.snoc r ⟨rfl,hb,ry⟩
theorem KPt.keeps {H H':Hp}{kvs:List (nQ×V)}{xs:List (nQ×Addr×Value)}(r:KPt H kvs xs)(ht:∀b ys,H b=some (.tup ys)->H' b=some (.tup ys)):KPt H' kvs xs :=
 Paired.mapP r fun _ _ z=>⟨z.1,z.2.1.mono ht,z.2.2⟩
section
variable {P:Program}{w:World}{H:Hp}{h:Heap}{a:Addr}
theorem jO (ok:HOk P w H h):∀{kss:List (List Key)}{bs:List Addr}{its:List Value},Paired (fun(ks:List Key) (c:Addr)=>H c=some (.tup (ks.map kV))) kss bs->Vals (bs.map V.ref) its->ItemsTup (zX P w) h kss its
 |_,_,_,.nil,r=>by cases r; exact .nil
 |_,_,_,.cons (b:=c) e t,r=>by
  cases r with
  |cons r1 r2 =>
   cases r1;exact .cons (vB ok e) (jO ok t r2)
theorem dD {kss:nQ}(ok:HOk P w H h)(e:PKey H kss a):(cG (zX P w)).is h kss a:=by
 obtain⟨bs,e1,pr⟩:=e;obtain⟨_,its,r,o,h1,h2,⟨n,h3⟩,_⟩:=(show ObjOk P w H h a (.tup (bs.map V.ref)) from ok a _ e1);exact⟨o,its.toArray,n,h1,h2,h3,by rw[List.toList_toArray]; exact jO ok pr r⟩
theorem QO {kvs:List (nQ×V)}(ok:HOk P w H h)(e:H a=some (.dP kvs)):kvs.length<=sizeLine/\(a==sysModules)=false /\
  ∃xs,KPt H kvs xs/\h.DictOfH (cG (zX P w)) a xs:=by
 obtain⟨z,y,xs,r,o,es,ep,h1,h2,h3,h4,h5⟩:=(show ObjOk P w H h a (.dP kvs) from ok a _ e);refine⟨z,y,xs,r,o,es,ep,h1,h2,h3,h4,fun x hx=>?_,h5⟩
 have all:∀{l:List (nQ×V)} {m:List (nQ×Addr×Value)},KPt H l m->∀x∈m,(cG (zX P w)).is h x.1 x.2.1:=by
  intro l m q
  induction q with
  |nil=>intro x hx; exact nomatch hx
  |@cons p q ps qs hq t ih =>
   intro x hx
   rcases List.mem_cons.mp hx with e | hx
   .subst e
    exact dD ok (by rw[<- hq.1]; exact hq.2.1)
   .exact ih x hx
 exact all r x hx
end
def KY (H:Hp)(a:Addr)(y:V)(r:Option V):Prop:=∃kvs k b,H a=some (.dP kvs)/\y=.ref b/\PKey H k b/\r=xY kvs k
def QPut (H:Hp)(a:Addr)(y v:V)(H':Hp):Prop:=∃kvs k b,H a=some (.dP kvs)/\y=.ref b/\PKey H k b/\kvs.length < sizeLine/\H'=upd H a (.dP (bK kvs k v))
section
variable {X:Cx}{pins:List (Addr×Obj)}{σ:St}{H:Hp}{s:Shared}{a:Addr}{y v:V}{u r:Value}{o:Option V}{A:Around}{E:Value->Shared->Prop}
theorem Xo {Q:Value->Shared->Prop}(hu:A.units+2 < cLine)(I:Inv X pins σ H s)(g:KY H a y (some v))(ry:RelV y u)(h:∀w' s',Inv X pins σ H s'->RelV v w'->Q w' s'):
  wpAny (model X.prog X.w) A (getItem (.ref a) u) Q E s:=by
 obtain⟨kvs,k,b,e,ey,eb,l⟩:=g;subst ey;cases (show u=Value.ref b from ry);obtain⟨z,hd,xs,rel,dd⟩:=QO I.hok e;obtain⟨w',hw,rw'⟩:=RelO.some_of (v:=v) (o:=(atKey xs k).map (·.2)) (by rw[l]; exact rel.val k);obtain⟨p,hp,hp2⟩:=Option.map_eq_some_iff.mp hw;refine wpAny_getItem_heap (iJ hu) (dD I.hok eb) dd hp ?_;rw[hp2];exact h w' _ (I.tok _) rw'
theorem p_in {Q:Value->Shared->Prop}(hu:A.units+2 < cLine)(I:Inv X pins σ H s)(g:KY H a y o)(ry:RelV y u)(h:∀s',Inv X pins σ H s'->Q (.bool o.isSome) s'):
  wpAny (model X.prog X.w) A (compareOp .In u (.ref a)) Q E s:=by
 obtain⟨kvs,k,b,e,ey,eb,l⟩:=g;subst ey;cases (show u=Value.ref b from ry);obtain⟨z,hd,xs,rel,dd⟩:=QO I.hok e;refine wpAny_in_heap (iJ hu) (dD I.hok eb) hd dd ?_;have q:=(rel.val k).isSome_eq;rw[Option.isSome_map] at q;rw[<- q,<- l];exact h _ (I.tok _)
theorem Xn {H':Hp}{Q:Unit->Shared->Prop}(hu:A.units+2 < cLine)(I:Inv X pins σ H s)(g:QPut H a y v H')(ry:RelV y u)(rv:RelV v r)(h:∀s',Inv X pins σ H' s'->Q () s'):
  wpAny (model X.prog X.w) A (setItem (.ref a) u r) Q E s:=by
 obtain⟨kvs,k,b,e,ey,eb,l,eH⟩:=g;subst ey eH;cases (show u=Value.ref b from ry);obtain⟨z,hd,xs,rel,dd⟩:=QO I.hok e;have hz:xs.length<=sizeLine:=by rw[<- Paired.length rel]; exact z
 have hl:(bK kvs k v).length<=sizeLine:=by have:=dW kvs k v; omega
 refine wpAny_setItem_heap (hsz:=hz) (iJ hu) (dD I.hok eb) dd fun h' dd' hs=>h _ ?_;obtain⟨q,es,ep,hq,h2,h3,h4,_,h5⟩:=dd';refine rD I (by rw[e]; exact True.intro) hs ⟨q,hq⟩ ⟨hl,hd,_,(rel.put k eb rv).keeps fun c ys ec=>?_,q,es,ep,hq,h2,h3,h4,h5⟩;rw[lQ (ne_of ec e (fun z=>nomatch z))];exact ec
theorem dp_type {kvs:List (nQ×V)}(I:Inv X pins σ H s)(e:H a=some (.dP kvs)):s.TypeIs (.ref a) "dict":=by
 obtain⟨_,_,xs,_,dd⟩:=QO I.hok e;exact dd.typeIs
end
section
variable {X:Cx}{o i e value:Expr}{pos pos':Pos}{td ty tv:TE}
def tPGet (td ty:TE):TE:=fun σ H Q=>td σ H fun x H1=>ty σ H1 fun y H2=>∃a v,x=.ref a/\KY H2 a y (some v)/\Q v H2
def sPPut (td ty tv:TE):TS:=fun D σ H=>tv σ H fun v H1=>td σ H1 fun x H2=>ty σ H2 fun y H3=>∃a H4,x=.ref a/\QPut H3 a y v H4/\D.nx σ H4
theorem pe_pget (hu:X.A.units+2 < cLine)(ho:PE X o td)(hi:PE X i ty)(hs:Qc i):PE X (.Subscript o i pos) (tPGet td ty):=by
 intro pins s σ H Q I h;refine Qm PySem.F.slot_dict_getitem.lookup hs (thn (ho pins s σ H _ I h) fun u s1 ⟨x,H1,I1,rx,q1⟩=>thn (hi pins s1 σ H1 _ I1 q1) fun iv s2 ⟨y,H2,I2,ry,a,v,ex,g,q2⟩=>?_);subst ex;obtain rfl:u=Value.ref a:=rx;exact⟨let ⟨_,_,_,e,_⟩:=g; dp_type I2 e,Xo hu I2 g ry fun w' s3 I3 rw'=>⟨v,H2,I3,rw',q2⟩⟩
theorem op_pin (hu:X.A.units+2 < cLine):OpR X (compareOp .In) (fun y x H Q=>∃a o,x=.ref a/\KY H a y o/\Q (.bl o.isSome) H):=by
 intro pins s σ H y x v u Q I ry rx h;obtain⟨a,o,rfl,g,q⟩:=h;cases (show u=Value.ref a from rx);exact p_in hu I g ry fun s3 I3=>⟨.bl o.isSome,H,I3,rfl,q⟩
theorem ps_pput (hu:X.A.units+2 < cLine)(ho:PE X o td)(hi:PE X i ty)(hv:PE X value tv)(hs:swapsWith value (some (.Subscript o i pos')) pos.line X.env=pure false):
  PS X (.Assign [.Subscript o i pos'] value pos) (sPPut td ty tv):=by
 intro pins s σ H D I h;refine wpAny_Assign_Subscript (thn (hv pins s σ H _ I h) fun r s1 ⟨v,H1,I1,rv,q1⟩=>thn (ho pins s1 σ H1 _ I1 q1) fun u s2 ⟨x,H2,I2,rx,q2⟩=>thn (hi pins s2 σ H2 _ I2 q2) fun iv s3 ⟨y,H3,I3,ry,a,H4,ex,g,q3⟩=>?_) hs;subst ex;obtain rfl:u=Value.ref a:=rx;exact Xn hu I3 g ry rv fun s4 I4=>⟨σ,H4,I4,q3⟩
def tPNew:TE:=fun _ H Q=>∀p,H p=none->Q (.ref p) (upd H p (.dP []))
theorem Kk {P:Program}{w:World}{H:Hp}(h:Heap)(hb:sysModules < h.objs.size):ObjOk P w H (h.push { cls:=.type "dict",data:=.dict #[] }) h.objs.size (.dP []):=by
 obtain⟨z,y,xs,r,rest⟩:=(show ObjOk P w H (h.push { cls:=.type "dict",data:=.dict #[] }) h.objs.size (.dT []) from mO h hb);obtain⟨o,es,ep,h1,h2,h3,h4,h5⟩:=rest;cases r;exact⟨z,y,[],.nil,o,es,ep,h1,h2,h3,h4,List.nodup_nil⟩
theorem pe_pnew:PE X (.Dict [] [] pos) tPNew:=by
 intro pins s σ H Q I h;exact wpAny_Dict_empty ⟨.ref s.heap.objs.size,_,I.laid (a:=s.heap.objs.size) (o:=.dP []) (t':=s.toks) (fun _ _ q=>Heap.get?_push_of_some _ q) (Nat.le_refl _) (Kk s.heap I.big),rfl,h _ (I.hok.fresh (Nat.le_refl _))⟩
end
end L2
namespace CL
open PySem PySem.Spec L2 PySem.W
open PyProof.Rows hiding St
section
variable {X:Cx}{a b c e o i f value:Expr}{es:List Expr}{pos pos':Pos}
@[irreducible] def cInt:GC:=fun ts C Q=>match ts with
 |[.bl b]=>Q (.int (if b then 1 else 0)) C
 |[.int i]=>Q (.int i) C
 |_=>False
theorem iD {K:PySem.W.Frag}:Cbi K (fun xs H Q=>(∃i,xs=[.int i]/\Q (.int i) H)\/∃k,xs=[.bl k]/\Q (.int (if k then 1 else 0)) H) cInt:=fun xs ts H C Q R rs h q f=>by
 unfold cInt at q
 split at q
 .obtain ⟨v,rfl,r⟩:=jZ rs
  cases r;exact .inr ⟨_,rfl,f _ H _ C q (.int _) h Fw.refl⟩
 .obtain ⟨v,rfl,r⟩:=jZ rs
  cases r;exact .inl ⟨_,rfl,f _ H _ C q (.int _) h Fw.refl⟩
 .exact q.elim
@[irreducible] def cCatT:R2C:=fun x y C Q=>match x,y with
 |.tup xs,.tup ys=>xs.length+ys.length<=sizeLine/\Q (.tup (xs++ys)) C
 |_,_=>False
@[irreducible] def cExtend:PV->List PV->CH->K1->Prop:=fun x ts C Q=>match x,ts with
 |.ref a,[.ref b]=>match C a,C b with
  |some (.lst xs),some (.lst ys)=>xs.length+ys.length<=sizeLine/\Q .non (gQ C a (.lst (xs++ys)))
  |_,_=>False
 |_,_=>False
def cBM0 (cr:PV->List PV->CH->K1->Prop)(co:TCE):TCE:=fun ρ C Q=>co ρ C fun x C1=>isL x C1/\cr x [] C1 Q
theorem ce_bm0 {name:Str}{id:String}{apos cpos:Pos}{r:V->List V->Hp->VK->Prop}{cr:PV->List PV->CH->K1->Prop}{co:TCE}(pa:PlainAttrs "list")(slot:Slot "list" name id)(hty:typeOf (.builtin id)=pure (.type "method_descriptor"))(hm:MtR X id r)(hr:Cmt X.K r cr)(ho:CE X o co)
  (hbase:attributeBase o name X.env (eval o X.env)=eval o X.env:=by rfl) (hline:(apos.endLine==cpos.line)=true:=by rfl):CE X (.Call (.Attribute o name apos) [] [] cpos) (cBM0 cr co):=⟨JE.weak (JK pa slot hty hm ho.h hbase hline) fun σ H Q ⟨ρ,C,R,s,h,q,f⟩ =>
 ⟨ρ,C,_,s,h,q,fun x H1 px C1 q1 rx h1 f1=>⟨JQ q1.1 rx h1,hr x px [] [] H1 C1 Q R rx .nil h1 q1.2 fun v H' t C' q' r' h' f'=>f v H' t C' q' r' h' (f1.trans f')⟩⟩⟩
@[irreducible] def rM:PV->List PV->CH->K1->Prop:=fun x ts C Q=>match x,ts with
 |.ref a,[]=>match C a with
  |some (.lst xs)=>Q .non (gQ C a (.lst xs.reverse))
  |_=>False
 |_,_=>False
theorem oO {K:PySem.W.Frag}:Cmt K tS rM:=fun x px xs ps H C Q R rx rs h q f=>by
 unfold rM at q
 split at q
 .split at q
  .next ys e1 =>
   obtain⟨vs,ev,rv⟩:=h _ _ e1;cases rs;cases rx;exact⟨_,vs,rfl,rfl,ev,f _ _ _ _ q .non (h.put ev rfl ⟨_,fQ,rv.reverse.imm (Imm.mut ev rfl _)⟩) (Fw.put e1 _ _)⟩
  .exact q.elim
 .exact q.elim
@[irreducible] def cClear:PV->List PV->CH->K1->Prop:=fun x ts C Q=>match x,ts with
 |.ref a,[]=>match C a with
  |some (.lst xs)=>Q .non (gQ C a (.lst []))
  |_=>False
 |_,_=>False
@[irreducible] def KK:PV->Option Int->Option Int->CH->K1->Prop:=fun x lo hi C Q=>match x with
 |.tup xs=>¬ (HT.sIx xs.length 0 lo=0/\HT.sIx xs.length xs.length hi=xs.length)/\Q (.tup (gD xs lo hi)) C
 |_=>False
theorem KA {lo hi:Option Expr}{ce:TCE}{cl ch:TCO}{p2:Pos}(he:CE X e ce)(hl:CPt X lo cl)(hu:CPt X hi ch):CE X (.Subscript e (.Slice lo hi none p2) pos) (cSl KK ce cl ch):=⟨JE.weak (qO sl_tup he.h hl.h hu.h) fun σ H Q ⟨ρ,C,R,s,h,q,f⟩ =>
 ⟨ρ,C,_,s,h,q,fun x H1 px C1 q1 rx h1 f1=>⟨ρ,C1,_,s.imm (f1.imm h),h1,q1,fun l H2 l' C2 q2 e2 h2 f2=>⟨ρ,C2,_,(s.imm (f1.imm h)).imm (f2.imm h1),h2,q2,fun u H3 u' C3 q3 e3 h3 f3=>by
  cases e2; cases e3
  unfold KK at q3
  split at q3
  .have rx3:=rx.imm ((f2.trans f3).imm h1)
   cases rx3 with
   |@tup a vs ts e r =>
    exact⟨a,vs,rfl,SqT.of e,by rw[r.len]; exact q3.1,fun p hp=>f _ _ _ C3 q3.2 (.tup fQ ((r.cut l u).imm (Imm.new hp _))) (h3.new hp _) (f1.trans (f2.trans (f3.trans (Fw.new hp _))))⟩
  .exact q3.elim⟩⟩⟩⟩
def xN:List PV->Option nQ
 |[]=>some []
 |t::r=>match eB t,xN r with
  |some k,some ks=>some (k::ks)
  |_,_=>none
def zT:PV->Option nQ
 |.tup ts=>xN ts
 |_=>none
theorem Xk {K:PySem.W.Frag}{H:Hp}{vs:List V}{ts:List PV}{kss:nQ}(r:Reps K H vs ts)(e:xN ts=some kss):∃bs:List Addr,vs=bs.map V.ref/\Paired (fun(ks:List Key) (c:Addr)=>H c=some (.tup (ks.map kV))) kss bs:=by
 induction ts generalizing vs kss with
 |nil=>cases r; cases e; exact⟨[],rfl,.nil⟩
 |cons t ts ih =>
  cases r with
  |cons h r =>
   unfold xN at e
   split at e
   .next k ks e1 e2 =>
    cases e;obtain⟨b,rfl,eb⟩:=oB h e1;obtain⟨bs,rfl,p⟩:=ih r e2;exact⟨b::bs,rfl,.cons eb p⟩
   .cases e
theorem rL {K:PySem.W.Frag}{H:Hp}{v:V}{t:PV}{kss:nQ}(r:Rep K H v t)(e:zT t=some kss):∃b,v=.ref b/\PKey H kss b:=by
 cases r<;>try (cases e)
 next a vs ts h r =>
  obtain⟨bs,rfl,p⟩:=Xk r e;exact⟨a,rfl,bs,h,p⟩
def cPNew:TCE:=fun _ C Q=>∀p,C p=none->Q (.ref p) (gQ C p (.dP []))
theorem eD:CE X (.Dict [] [] pos) cPNew:=⟨JE.weak ⟨pe_pnew⟩ fun σ H Q ⟨ρ,C,R,s,h,q,f⟩=>fun p hp=>f (.ref p) _ (.ref p) _ (q p (h.fresh hp)) (.ref p) (h.lay hp ⟨[],fQ,.nil⟩) (Fw.lay hp _ _)⟩
@[irreducible] def cPIx:R2C:=fun x y C Q=>match x with
 |.ref a=>match C a,zT y with
  |some (.dP kvs),some k=>match rK kvs k with
   |some v=>Q v C
   |none=>False
  |_,_=>False
 |_=>False
theorem pR {co ci:TCE}(hu:X.A.units+2 < cLine)(ho:CE X o co)(hi:CE X i ci)(hs:Qc i):CE X (.Subscript o i pos) (cOp cPIx co ci):=⟨JE.weak ⟨pe_pget hu ho.h.h hi.h.h hs⟩ fun σ H Q ⟨ρ,C,R,s,h,q,f⟩ =>
 ⟨ρ,C,_,s,h,q,fun x H1 px C1 q1 rx h1 f1=>⟨ρ,C1,_,s.imm (f1.imm h),h1,q1,fun y H2 py C2 q2 ry h2 f2=>by
  unfold cPIx at q2
  split at q2
  .next a =>
   split at q2
   .next kvs k e1 e2 =>
    split at q2
    .next t e3 =>
     have rx2:=rx.imm (f2.imm h1);cases rx2;obtain⟨vs,ev,r⟩:=h2 a _ e1;obtain⟨b,rfl,eb⟩:=rL ry e2
     rcases FP.val r k with ⟨v,t',l1,l2,rv⟩ | ⟨_,l2⟩
     .rw [e3] at l2
      cases l2;exact⟨a,v,rfl,⟨vs,k,b,ev,rfl,eb,l1.symm⟩,f v H2 t C2 q2 rv h2 (f1.trans f2)⟩
     .rw [e3] at l2; cases l2
    .exact q2.elim
   .exact q2.elim
  .exact q2.elim⟩⟩⟩
@[irreducible] def cPIn:R2C:=fun y x C Q=>match x with
 |.ref a=>match C a,zT y with
  |some (.dP kvs),some k=>Q (.bl (rK kvs k).isSome) C
  |_,_=>False
 |_=>False
theorem cop_pin {K:PySem.W.Frag}:Cop K (fun y x H Q=>∃a o,x=.ref a/\KY H a y o/\Q (.bl o.isSome) H) cPIn:=fun y x py px H C Q R ry rx h q f=>by
 unfold cPIn at q
 split at q
 .next a =>
  split at q
  .next kvs k e1 e2 =>
   cases rx;obtain⟨vs,ev,r⟩:=h a _ e1;obtain⟨b,rfl,eb⟩:=rL ry e2;refine⟨a,xY vs k,rfl,⟨vs,k,b,ev,rfl,eb,rfl⟩,?_⟩
   rcases FP.val r k with ⟨v,t',l1,l2,rv⟩ | ⟨l1,l2⟩
   .rw [l2] at q; rw[l1]; exact f _ H _ C q (.bl _) h Fw.refl
   .rw [l2] at q; rw[l1]; exact f _ H _ C q (.bl _) h Fw.refl
  .exact q.elim
 .exact q.elim
@[irreducible] def Q0:PV->PV->PV->CH->(CH->Prop)->Prop:=fun x y v C Q=>match x with
 |.ref a=>match C a,zT y with
  |some (.dP kvs),some k=>kvs.length < sizeLine/\Q (gQ C a (.dP (putG kvs k v)))
  |_,_=>False
 |_=>False
def cPPut (co ck cv:TCE):TCS:=fun E ρ C=>cv ρ C fun v C1=>co ρ C1 fun x C2=>ck ρ C2 fun y C3=>Q0 x y v C3 fun C4=>E.nx ρ C4
theorem uR {co ck cv:TCE}(hu:X.A.units+2 < cLine)(ho:CE X o co)(hi:CE X i ck)(hv:CE X value cv)(hs:swapsWith value (some (.Subscript o i pos')) pos.line X.env=pure false:=by rfl):
  CS X (.Assign [.Subscript o i pos'] value pos) (cPPut co ck cv):=⟨JS.weak ⟨ps_pput hu ho.h.h hi.h.h hv.h.h hs⟩ fun D σ H ⟨ρ,C,E,s,h,q,f⟩ =>
 ⟨ρ,C,_,s,h,q,fun v H1 pv C1 q1 rv h1 f1=>⟨ρ,C1,_,s.imm (f1.imm h),h1,q1,fun x H2 px C2 q2 rx h2 f2=>⟨ρ,C2,_,(s.imm (f1.imm h)).imm (f2.imm h1),h2,q2,fun y H3 py C3 q3 ry h3 f3=>by
  have s3:=((s.imm (f1.imm h)).imm (f2.imm h1)).imm (f3.imm h2);have rv3:=rv.imm ((f2.trans f3).imm h1);unfold Q0 at q3
  split at q3
  .next a =>
   split at q3
   .next kvs k e1 e2 =>
    have rx3:=rx.imm (f3.imm h2);cases rx3;obtain⟨vs,ev,r⟩:=h3 a _ e1;obtain⟨b,rfl,eb⟩:=rL ry e2;have hl:vs.length=kvs.length:=Paired.length r;have m:Imm H3 (upd H3 a (.dP (bK vs k v))):=Imm.mut ev rfl _;refine⟨a,_,rfl,⟨vs,k,b,ev,rfl,eb,by rw[hl]; exact q3.1,rfl⟩,f.nx σ _ ρ _ q3.2 (s3.imm m) (h3.put ev rfl ⟨_,fQ,Paired.mapP (FP.putG r k rv3) fun _ _ z=>⟨z.1,z.2.imm m⟩⟩) (f1.trans (f2.trans (f3.trans (Fw.put e1 _ _))))⟩
   .exact q3.elim
  .exact q3.elim⟩⟩⟩⟩
end
inductive Pl:Nat->PV->Prop
 |non {d:Nat}:Pl d .non
 |bl {d:Nat} (b:Bool):Pl d (.bl b)
 |int {d:Nat} (i:Int):Pl d (.int i)
 |str {d:Nat} (x:Str):Pl d (.str x)
 |tup {d:Nat} {ts:List PV} (h:∀t∈ts,Pl d t):Pl (d+1) (.tup ts)
section
variable {X:Cx}
@[irreducible] def cNeD (d:Nat):R2C:=fun x y C Q=>match x,y with
 |.ref a,.ref b=>match C a,C b with
  |some (.lst xs),some (.lst ys)=>xs=ys/\(∀t∈xs,Pl d t)/\Q (.bl false) C
  |_,_=>False
 |_,_=>False
def strsP:List PV->Option (List Str)
 |[]=>some []
 |.str x::r=>(strsP r).map (x :: ·)
 |_=>none
def tiOf:List PV->Option (List (List Str×Int))
 |[]=>some []
 |.tup [.tup ks,.int i]::r=>match strsP ks,tiOf r with
  |some zs,some cs=>some ((zs,i)::cs)
  |_,_=>none
 |_=>none
theorem Xb {K:PySem.W.Frag}{H:Hp}{zs:List Str}{vs:List V}(r:Reps K H vs (zs.map PV.str)):vs=zs.map V.str:=by
 induction zs generalizing vs with
 |nil=>cases r; rfl
 |cons z zs ih =>
  cases r with
  |cons h r=>cases h; rw[ih r]; rfl
@[irreducible] def cSortedL:GC:=fun ts C Q=>match ts with
 |[.ref a]=>match C a with
  |some (.lst xs)=>match tiOf xs with
   |some cs=>cs.length < 64/\∀p,C p=none->Q (.ref p) (gQ C p (.lst ((ordT cs).map aB)))
   |none=>False
  |_=>False
 |_=>False
end
section
variable {X:Cx}{pos:Pos}
def zV (k:List Key):PV:=.tup (k.map mK)
@[irreducible] def cCompT (ce:TCE)(t:TCT)(c:TCE):TCE:=fun ρ C Q=>ce ρ C fun x C1=>match x with
 |.ref d=>match C1 d with
  |some (.dT kvs)=>wZ t c ρ (fun v C2=>C2 d=some (.fT kvs)/\Q v (gQ C2 d (.dT kvs))) (kvs.map fun p=>zV p.1) [] (gQ C1 d (.fT kvs))
  |_=>False
 |_=>False
def tOf:Option CO->Option (List (List Key×PV))
 |some (.dT kvs)=>some kvs
 |some (.fT kvs)=>some kvs
 |_=>none
@[irreducible] def cTIy:R2C:=fun x y C Q=>match x with
 |.ref a=>match tOf (C a),eB y with
  |some kvs,some k=>match rK kvs k with
   |some v=>Q v C
   |none=>False
  |_,_=>False
 |_=>False
end
end CL
namespace L2
open PySem PySem.W PyProof.Rows
def drop (H:Hp)(a:Addr):Hp:=fun b=>if b=a then none else H b
end L2
namespace CL
open PySem PySem.Spec L2 PySem.W
open PyProof.Rows hiding St
section
variable {X:Cx}{a b c e o i f value:Expr}{es:List Expr}{pos pos':Pos}
@[irreducible] def cRev:PV->CH->K1->Prop:=fun x C Q=>match x with
 |.ref a=>match C a with
  |some (.lst xs)=>∀p,C p=none->Q (.ref p) (gQ C p (.lst xs.reverse))
  |_=>False
 |_=>False
def rngPV (n:Nat):List PV:=(List.range n).map fun k=>PV.int (k:Nat)
@[irreducible] def cRng:PV->CH->K1->Prop:=fun x C Q=>match x with
 |.int j=>0<=j/\j<=100000/\∀p,C p=none->Q (.ref p) (gQ C p (.lst (rngPV j.toNat)))
 |_=>False
@[irreducible] def cPop:PV->List PV->CH->K1->Prop:=fun x ts C Q=>match x,ts with
 |.ref a,[]=>match C a with
  |some (.lst xs)=>match xs[xs.length - 1]? with
   |some y=>Q y (gQ C a (.lst xs.dropLast))
   |none=>False
  |_=>False
 |_,_=>False
@[irreducible] def cTru (c:TCE):TCT:=fun ρ C Q=>c ρ C fun x C1=>match x with
 |.ref a=>match C1 a with
  |some (.lst xs)=>Q (!xs.isEmpty) C1
  |_=>False
 |_=>False
end
structure Row where
 k:Option Str
 nm:Str
 q:Str
 st:Stmt
 ps:List Str
 N:List Str
def AllR (p:Row->Prop):List Row->Prop
 |[]=>True
 |r::rs=>p r/\AllR p rs
def FH (K:PySem.W.Frag)(r:Row):Prop:=match r with
 |⟨none,nm,q,st,_,_⟩=>∃(f:Addr) (oc:Value) (od:Option Addr) (kV dc pm:Value) (an:Option Addr) (cd ct:Value) (sl:Array (Option Value)),
  PySem.W.nsIn K mainGlobals nm=some (some (.ref f))/\K.lookup f=some ⟨oc,od,.func (PySem.W.fnOf nm q (lW st) (vK st) (uX st) .none kV dc pm an cd ct),sl⟩/\PySem.W.codeIn K cd q=true/\PySem.W.keepIn K (.ref f)=true
 |⟨some c,nm,q,st,_,_⟩=>∃(cc f:Addr) (oc:Value) (od:Option Addr) (kV dc pm:Value) (an:Option Addr) (cd ct:Value) (sl:Array (Option Value)),
  PySem.W.nsIn K mainGlobals c=some (some (.ref cc))/\PySem.W.findIn K (.ref cc) nm=some (some (.ref f))/\K.lookup f=some ⟨oc,od,.func (PySem.W.fnOf nm q (lW st) (vK st) (uX st) .none kV dc pm an cd ct),sl⟩/\PySem.W.codeIn K cd q=true/\PySem.W.keepIn K (.ref f)=true/\PySem.W.isFn K (.ref f)=true
def RB (r:Row):Prop:=FnScope r.N r.ps (uX r.st)/\∀(kV doc pm:Value) (an:Option Addr) (cdv ct:Value) (us:List Value),us.length=r.ps.length->bindArgs (PySem.W.fnOf r.nm r.q (lW r.st) (vK r.st) (uX r.st) .none kV doc pm an cdv ct) ⟨us,[]⟩=pure (r.ps.zip us)
structure FI (K:PySem.W.Frag)(mg:Str->Option Value)(k:Option Str)(nm q:Str)(st:Stmt)(ps N:List Str)(f:Addr)(d:FuncData):Prop where
 m:k=none->mg nm=some (.ref f)
 M:∀c ca,k=some c->mg c=some (.ref ca)->PySem.W.findIn K (.ref ca) nm=some (some (.ref f))/\PySem.W.isFn K (.ref f)=true
 F:Fun K nm q st f d
 s:FnScope N ps (uX st)
 b:Binds K d ps []
section
variable {P:List Value->Prop}
theorem args1 (h:∀a,P [a]):∀us:List Value,us.length=1->P us
 |[a],_=>h a
theorem args2 (h:∀a b,P [a,b]):∀us:List Value,us.length=2->P us
 |[a,b],_=>h a b
theorem args3 (h:∀a b c,P [a,b,c]):∀us:List Value,us.length=3->P us
 |[a,b,c],_=>h a b c
theorem args4 (h:∀a b c d,P [a,b,c,d]):∀us:List Value,us.length=4->P us
 |[a,b,c,d],_=>h a b c d
theorem args5 (h:∀a b c d e,P [a,b,c,d,e]):∀us:List Value,us.length=5->P us
 |[a,b,c,d,e],_=>h a b c d e
end
theorem fi_one {K:PySem.W.Frag}{h:Heap}{mg:Str->Option Value}(X:K.In h)(G:h.Ns mainGlobals mg){r:Row}(x:FH K r)(y:RB r):∃f d,FI K mg r.k r.nm r.q r.st r.ps r.N f d:=by
 obtain⟨k,nm,q,st,ps,N⟩:=r;obtain⟨y1,y2⟩:=y
 cases k with
 |none =>
  obtain⟨f,oc,od,kV,dc,pm,an,cd,ct,sl,h1,h2,h3,h4⟩:=x;exact⟨f,_,⟨fun _=>PySem.W.mg_of X G h1,fun _ _ e=>(nomatch e),kR h2 h3 h4,y1,Fun.binds (kR h2 h3 h4) y2⟩⟩
 |some c =>
  obtain⟨cc,f,oc,od,kV,dc,pm,an,cd,ct,sl,h0,h1,h2,h3,h4,h5⟩:=x;refine⟨f,_,⟨fun e=>(nomatch e),fun c' ca e e'=>?_,kR h2 h3 h4,y1,Fun.binds (kR h2 h3 h4) y2⟩⟩;cases e;have:=(PySem.W.mg_of X G h0).symm.trans e';cases this;exact⟨h1,h5⟩
theorem fi_all {K:PySem.W.Frag}{h:Heap}{mg:Str->Option Value}(X:K.In h)(G:h.Ns mainGlobals mg):∀{t:List Row},AllR (FH K) t->AllR RB t->∃(f:Nat->Addr) (d:Nat->FuncData),∀(i:Nat) {k:Option Str}{nm q:Str}{st:Stmt}{ps N:List Str},t[i]?=some ⟨k,nm,q,st,ps,N⟩->FI K mg k nm q st ps N (f i) (d i)
 |[],_,_=>⟨fun _=>mainGlobals,fun _=>PySem.W.fnOf "" "" (lW (.Pass ⟨0,0,0,0⟩)) [] (uX (.Pass ⟨0,0,0,0⟩)) .none .none .none .none none .none .none,fun i _ _ _ _ _ _ e=>by simp at e⟩
 |r::t,x,y=>by
  obtain⟨f0,d0,h0⟩:=fi_one X G x.1 y.1;obtain⟨f,d,h⟩:=fi_all X G x.2 y.2;refine⟨fun i=>match i with | 0=>f0 | i+1=>f i,fun i=>match i with | 0=>d0 | i+1=>d i,fun i=>?_⟩
  cases i with
  |zero=>intro k nm q st ps N e; cases e; exact h0
  |succ i=>intro k nm q st ps N e; exact h i e
section
variable {P:Program}{w:World}{K:PySem.W.Frag}{mg:Str->Option Value}{base:Heap}
theorem FI.ok {kk:Option Str}{x qual:Str}{st:Stmt}{f:Addr}{fd:FuncData}{N ps:List Str}{k:Nat}{G:GC}(F:FI K mg kk x qual st ps N f fd)(len:∀ts C R,G ts C R->ts.length=ps.length)
  (hbody:∀(cdv:Value) (A:Around) (outer:List Env) (s:Shared) (H:Hp) (E:XK),Room k (A.deeper (envOfC qual (uX st) s.heap.objs.size f cdv)) ->
   ∃c,CB (wR CX0 P w K mg base N qual (uX st) f cdv A outer s H E).nox (vK st) c/\∀ts C R,G ts C R->c { nx:=fun _ C'=>R .non C',rt:=R } (pL N ts) C):FnOk P w K mg base CX0 (k+1) f fd ps (spC K G):=Fun.okC F.F F.s len hbody
end
section
variable {X:Cx}{e o:Expr}{es:List Expr}{pos:Pos}
theorem cf {k:Nat}{f:Addr}{fd:FuncData}{ps N:List Str}{G:GC}{x q:Str}{st:Stmt}{p:Pos}{ca:TCA}(T:FI X.K X.mg none x q st ps N f fd)(F:FnOk X.prog X.w X.K X.mg X.base CX0 k f fd ps (spC X.K G))(hr:Room k X.A)
  (ha:CA X (e::es) ca) (hg:Gl X x:=by rfl) (hdb:(x==("__debug__" : Str))=false:=by decide) (hs:iQ e=true:=by rfl) (hall:es.all iQ=true:=by rfl):CE X (.Call (.Name x p) (e::es) [] pos) (wD G ca) :=
 ce_call F hr hg (T.m rfl) T.F.kp T.b Z4 ha hdb hs hall
theorem cm {k:Nat}{c fa:Addr}{cn q:Str}{st:Stmt}{fd:FuncData}{ps N:List Str}{G:GC}{m:Str}{apos:Pos}{co:TCE}{ca:TCA}{pl:Sem Bool}(hc:Cls X.K c)(T:FI X.K X.mg (some cn) m q st ps N fa fd)(hm:X.mg cn=some (.ref c))(F:FnOk X.prog X.w X.K X.mg X.base CX0 k fa fd ps (spC X.K G))(hr:Room k X.A)(ho:CE X o co)(ha:CA X (e::es) ca)
  (hst:starEach (e::es) X.env=(false,eval e X.env)::starEach es X.env:=by rfl) (hpl:(backTo pos (starEach es X.env)).any (·.1)=false:=by rfl)
  (ht:eval (.Call (.Attribute o m apos) (e::es) [] pos) X.env=(do
   let ov <- eval o X.env
   standAt apos.atName
   let (f,first) <- holding [ov] (getMethod ov m pl)
   callWith pos f first (backTo pos (starEach (e::es) X.env)) (backToKw pos (keywordEach [] X.env))):=by rfl) :
  CE X (.Call (.Attribute o m apos) (e::es) [] pos) (cMeth c m G co ca) :=
 ce_meth hc ⟨(T.M _ _ rfl hm).1,(T.M _ _ rfl hm).2,T.F.kp⟩ F hr T.b Z4 ho ha hst hpl ht
theorem cx {a b:Expr}{ca cb:TCE}(ha:CE X a ca)(hb:CE X b cb)(hs:kL b:=by exact fun _ _=>rfl):CE X (.Subscript a b pos) (cOp cIx ca cb):=ce_ix (r:=rIx X.K) ix_seqC cop_ix ha hb hs
theorem ca1 {ca:TCE}(ha:CE X e ca)(hs:iQ e=true:=by rfl):CA X [e] (fJ ca nM):=qQ ha iX hs
theorem cs1 (i:Nat){x:Str}{pos':Pos}{ce:TCE}(hN:X.N.Nodup)(he:CE X e ce)(hi:X.N[i]?=some x:=by rfl)(hx:Loc X.env.scope x:=by first | exact Or.inl rfl | exact Or.inr rfl)(hs:swapsWith e (some (.Name x pos')) pos.line X.env=pure false:=by rfl)(hf:X.fn x=true\/X.env.scope.names.lookup x=some .local:=by first | exact .inl rfl | exact .inr rfl | assumption):
  CS X (.Assign [.Name x pos'] e pos) (KL i ce):=cs_set hN hi hx he hs hf
theorem cg1 (i:Nat){x:Str}(hN:X.N.Nodup)(hi:X.N[i]?=some x:=by rfl)(hx:Loc X.env.scope x:=by first | exact Or.inl rfl | exact Or.inr rfl)(hf:X.fn x=true\/X.env.scope.names.lookup x=some .local:=by first | exact .inl rfl | exact .inr rfl | assumption):CG X (.Name x pos) (Km i):=cg_name hN hi hx hf
theorem cln {p:Pos}{ca:TCE}(hm:X.mg "len" = none)(ha:CE X e ca)(hg:Gl X "len":=by rfl)(hs:iQ e=true:=by rfl):CE X (.Call (.Name "len" p) [e] [] pos) (wD mH (fJ ca nM)):=gZ X4 cbi_len hg hm rfl (ca1 ha hs) (hs:=hs)
theorem ctp {p:Pos}{ca:TCE}(hm:X.mg "tuple" = none)(ha:CE X e ca)(hg:Gl X "tuple":=by rfl)(hs:iQ e=true:=by rfl):CE X (.Call (.Name "tuple" p) [e] [] pos) (wD pF (fJ ca nM)):=eX bH cbi_tup hg hm rfl (ca1 ha hs) (hs:=hs)
theorem cap {apos cpos:Pos}{co ca:TCE}(ho:CE X o co)(ha:CE X e ca)
  (hbase:attributeBase o "append" X.env (eval o X.env)=eval o X.env:=by rfl)
  (hfew:((backTo cpos (starEach [e] X.env)).all (fun x=>!x.1)&&(backToKw cpos (keywordEach [] X.env)).all (fun x=>x.1.isSome)
   && decide ([e].length+([]:List Keyword).length+(if ([]:List Keyword).isEmpty then 0 else 1) < 30))=true:=by rfl)
  (hline:(apos.endLine==cpos.line)=true:=by rfl) (hs:iQ e=true:=by rfl):CE X (.Call (.Attribute o "append" apos) [e] [] cpos) (cBM nW co (fJ ca nM)) :=
 ce_bm PySem.F.plainAttrs_list PySem.F.slot_list_append PySem.F.type_list_append wN mI ho (ca1 ha hs) hbase hfew hline hs
theorem ct2 {a b:Expr}{op:CmpOp}{r:R2}{cr:R2C}{ca cb:TCE}(ho:OpR X (compareOp op) r)(hr:Cop X.K r cr)(ha:CE X a ca)(hb:CE X b cb)(hm:behindInMarks op b=false:=by exact oY _):CT X (.Compare a [op] [b] pos) (qE (cOp cr ca cb)):=bI ho hr ha hb hm
end
end CL
namespace L2
open PySem
theorem FnScope.c {N ps:List Str}{sc:Scope}{x:Str}(S:FnScope N ps sc)(h:N.contains x=false):(x::N).Nodup:=by
 refine List.nodup_cons.2 ⟨fun m=>?_,S.nd⟩;rw[List.contains_iff_mem.2 m] at h;cases h
theorem FnScope.k {X:Cx}{xs:List Str}{scope sc:Scope}{N ps:List Str}{L:Nat}(S:FnScope N ps sc)(hN:X.N=N)(hsc:X.env.scope=sc)(hce:X.env.cells=cellsFrom L sc.names [])(h:rP xs scope N sc=true):∃cl,lV X xs scope cl:=lP hN hsc hce h
end L2
namespace L2
open PySem PySem.W PyProof.Rows
section
variable {X:Cx}
theorem yP (sep:Str):∀zs:List Str,(Str.join sep zs).length<=(zs.map (·.length)).sum+zs.length * sep.length
 |[]=>Nat.zero_le _
 |[x]=>by
  show x.length<=x.length+0+1 * sep.length;omega
 |x::y::r=>by
  have ih:=yP sep (y::r)
  have e:(Str.join sep (x::y::r)).length=x.length+sep.length+(Str.join sep (y::r)).length:=by
   show(x++sep++Str.join sep (y::r)).length=_;rw[Str.length_append,Str.length_append]
  rw[e,List.map_cons,List.sum_cons,List.length_cons,Nat.succ_mul];omega
def rJoin:V->List V->Hp->VK->Prop:=fun x vs H Q=>∃(sep:Str) (l:Addr) (zs:List Str),x=.str sep/\vs=[.ref l]/\H l=some (.lst (zs.map V.str))/\(zs.map (·.length)).sum+zs.length * sep.length<=16777216/\Q (.str (Str.join sep zs)) H
theorem mt_join:MtR X "str.join" rJoin:=by
 intro pins s σ H x vs v us Q I rx rv h;obtain⟨sep,l,zs,rfl,rfl,hl,hz,q⟩:=h;obtain⟨t,rfl⟩:=rx;obtain⟨u,rfl,ru⟩:=rv.one;cases ru;obtain⟨its,w1,p1,_⟩:=I.list (SqL.of hl)
 have vals:∀{zs:List Str} {its:List Value},Vals (zs.map V.str) its->∃l':List (Str×Tok),its=strValues l'/\l'.map (·.1)=zs:=by
  intro zs
  induction zs with
  |nil=>intro its r; cases r; exact⟨[],rfl,rfl⟩
  |cons z zs ih =>
   intro its r;rw[List.map_cons] at r
   cases r with
   |cons a b =>
    obtain⟨t,rfl⟩:=a;obtain⟨l',rfl,rfl⟩:=ih b;exact⟨(z,t)::l',rfl,rfl⟩
 obtain⟨l',rfl,e2⟩:=vals w1
 have hl2:Builtin.Str.tooLong ((l'.map (·.1)).toArray.foldl (· + ·.length+sep.length) 0)=false:=by
  rw[StrLaws.joinTotal,e2];unfold Builtin.Str.tooLong;rw[sizeLine_eq];exact decide_eq_false (by omega)
 refine call_meets F.slot_str_join (typeIs_str s sep t) F.entry_str_join (F.args_str_join_2 _ _) (meets_str_join_list sep t l l' hl2) ⟨p1.isList,?_⟩;unfold joinMade
 split
 .next p =>
  have e3:[p.1]=zs:=e2;subst e3;exact⟨.str p.1,H,I,⟨_,rfl⟩,q⟩
 .rw [StrLaws.glued_eq_join,e2]
  refine⟨?_,.str _,H,I.tok _,⟨_,rfl⟩,q⟩;have:=yP sep zs;rw[sizeLine_eq];omega
end
end L2
namespace CL
open PySem PySem.Spec L2 PySem.W
open PyProof.Rows hiding St
section
variable {X:Cx}{e o:Expr}{es:List Expr}
@[irreducible] def xE:PV->List PV->CH->K1->Prop:=fun x ts C Q=>match x,ts with
 |.str sep,[.ref a]=>match C a with
  |some (.lst xs)=>∃zs:List Str,xs=zs.map PV.str/\(zs.map (·.length)).sum+zs.length * sep.length<=16777216/\Q (.str (Str.join sep zs)) C
  |_=>False
 |_,_=>False
theorem Kv {K:PySem.W.Frag}:Cmt K rJoin xE:=fun x px xs ps H C Q R rx rs h q f=>by
 unfold xE at q
 split at q
 .split at q
  .next ys e =>
   obtain⟨v,rfl,r⟩:=jZ rs;cases r;cases rx;obtain⟨zs,rfl,hz,q⟩:=q;obtain⟨vs,ev,rv⟩:=h _ _ e;rw[Xb rv] at ev;exact⟨_,_,zs,rfl,rfl,ev,hz,f _ H _ C q (.str _) h Fw.refl⟩
  .exact q.elim
 .exact q.elim
def cBMS (cr:PV->List PV->CH->K1->Prop)(co:TCE)(ca:TCA):TCE:=fun ρ C Q=>co ρ C fun x C1=>(∃z,x=.str z)/\ca ρ C1 fun xs C2=>cr x xs C2 Q
theorem lU {apos cpos:Pos}{co:TCE}{ca:TCE}(ho:CE X o co)(ha:CE X e ca)
  (hbase:attributeBase o "join" X.env (eval o X.env)=eval o X.env:=by rfl)
  (hfew:((backTo cpos (starEach [e] X.env)).all (fun x=>!x.1)&&(backToKw cpos (keywordEach [] X.env)).all (fun x=>x.1.isSome)
   && decide ([e].length+([]:List Keyword).length+(if ([]:List Keyword).isEmpty then 0 else 1) < 30))=true:=by rfl)
  (hline:(apos.endLine==cpos.line)=true:=by rfl) (hs:iQ e=true:=by rfl) :
  CE X (.Call (.Attribute o "join" apos) [e] [] cpos) (cBMS xE co (fJ ca nM)):=⟨JE.weak (je_bm F.plainAttrs_str F.slot_str_join F.type_str_join mt_join ho.h (ca1 ha hs).h hbase hfew hline hs) fun σ H Q ⟨ρ,C,R,s,h,q,f⟩ =>
 ⟨ρ,C,_,s,h,q,fun x H1 px C1 q1 rx h1 f1=>by
  obtain⟨⟨z,rfl⟩,q1⟩:=q1;cases rx
  exact⟨rfl,ρ,C1,_,s.imm (f1.imm h),h1,q1,fun xs H2 ps C2 q2 rs h2 f2 =>
   Kv _ _ xs ps H2 C2 Q R (.str z) rs h2 q2 fun v H' t C' q' r' h' f'=>f v H' t C' q' r' h' (f1.trans (f2.trans f'))⟩⟩⟩
theorem gF {a:Addr}{sep:Str}{zs:List Str}{C:CH}{Q:K1}(m:C a=some (.lst (zs.map PV.str)))(hz:(zs.map (·.length)).sum+zs.length * sep.length<=16777216)(q:Q (.str (Str.join sep zs)) C):xE (.str sep) [.ref a] C Q:=by
 unfold xE;dsimp only;rw[m];exact⟨zs,rfl,hz,q⟩
def txI (i:Int):Str:=toString i
@[irreducible] def zE:GC:=fun ts C Q=>match ts with
 |[.int i]=>i.natAbs<=1000000000000/\Q (.str (txI i)) C
 |_=>False
theorem aK {K:PySem.W.Frag}:Cbi K (fun xs H Q=>∃i,xs=[.int i]/\i.natAbs.log2 < 1920/\Q (.str (toString i)) H) zE:=fun xs ps H C Q R rs h q f=>by
 unfold zE at q
 split at q
 .next i =>
  obtain⟨v,rfl,r⟩:=jZ rs;cases r;refine⟨i,rfl,?_,f _ H _ C q.2 (.str _) h Fw.refl⟩
  by_cases h0:i.natAbs=0
  .rw [h0]; decide
  .rw [Nat.log2_lt h0]
   exact Nat.lt_of_le_of_lt q.1 (Nat.lt_of_lt_of_le (show 1000000000000 < 2 ^ 40 by decide) (Nat.pow_le_pow_right (by decide) (by decide)))
 .exact q.elim
theorem mW {i:Int}(h:i.natAbs<=1000000000000):(txI i).length<=14:=by
 show(Str.ofString (toString i)).length<=14;rw[PySem.ofString_length];exact int_text_length_le10 (k:=13) (by decide) (Nat.lt_of_le_of_lt h (by decide))
theorem pG {i:Int}{C:CH}{Q:K1}(h:i.natAbs<=1000000000000)(q:Q (.str (txI i)) C):zE [.int i] C Q:=by
 unfold zE;exact⟨h,q⟩
end
end CL
namespace K34
open PySem L2
abbrev U0:List Str:=["_law_tape_here","_law_kit","_law_turns","_law_deep"]
abbrev U1:List Str:=["_law_tape_here","_law_kit","_law_turns"]
abbrev U2:List Str:=["_law_house_here","_law_values_here","_law_due"]
abbrev U3:List Str:=["_law_row","_law_spots","_law_downs"]
abbrev U4:List Str:=["_law_tape_here","_law_kit","_law_deep"]
abbrev U5:List Str:=["_law_tape_here","_law_part_here"]
abbrev U6:List Str:=["_law_entries","_law_path","_law_row","_law_base","_law_ahead"]
abbrev U7:List Str:=["_law_tape_here","_law_many"]
abbrev U8:List Str:=["_law_tape_here","_law_names_here","_law_k","_law_keyed"]
abbrev U9:List Str:=["_law_house_here","_law_values_here"]
abbrev U10:List Str:=["_law_tape_here","_law_kit","_law_turns","_law_most"]
abbrev U11:List Str:=["_law_tape_here","_law_kit","_law_turns","_law_name"]
abbrev U12:List Str:=["_law_tape_here","_law_kit","_law_turns","_law_way"]
abbrev U13:List Str:=["_law_row","_law_deep"]
abbrev U14:List Str:=["_law_house_here","_law_name"]
abbrev U15:List Str:=["_law_tape_here"]
abbrev U16:List Str:=["_law_tape_here","_law_house_here"]
def top (i:Nat):Stmt:=PySem.Challenge.pw_viewwood_k34_trees_shown.main.body.getD i (.Pass ⟨0,0,0,0⟩)
def tab:List CL.Row:=[
 ⟨none,"shown_tree","shown_tree",(top 1),["tree"],["tree","texts"]⟩,
 ⟨none,"show","show",(top 2),["row","deep","texts"],["row","deep","texts","label","box"]⟩,
 ⟨none,"shown_box","shown_box",(top 3),["deep","label","box"],["deep","label","box","sets","hands"]⟩,
 ⟨none,"shown_label","shown_label",(top 4),["label"],["label"]⟩,
 ⟨none,"shown_spot_key","shown_spot_key",(top 5),["key"],["key"]⟩,
 ⟨none,"cut","cut",(top 8),["number"],["number"]⟩,
 ⟨none,"number_of","number_of",(top 11),["reckoning","answers","turns","asked"],["reckoning","answers","turns","asked","word","question","first","taken","second"]⟩,
 ⟨none,"joined","joined",(top 12),["word","first","second"],["word","first","second"]⟩,
 ⟨none,"drawn","drawn",(top 16),["part","answers"],["part","answers","drawer","row","works"]⟩,
 ⟨none,"_law_tape","_law_tape",(top 18),["_law_script"],["_law_script"]⟩,
 ⟨none,"_law_draw","_law_draw",(top 19),U7,["_law_tape_here","_law_many","_law_script","_law_digit","_law_cell","_law_mixed"]⟩,
 ⟨none,"_law_names","_law_names",(top 20),U7,["_law_tape_here","_law_many","_law_pool","_law_start","_law_stride"]⟩,
 ⟨none,"_law_number","_law_number",(top 21),U15,U15⟩,
 ⟨none,"_law_leaf","_law_leaf",(top 22),U1,U12⟩,
 ⟨none,"_law_sum","_law_sum",(top 23),U0,["_law_tape_here","_law_kit","_law_turns","_law_deep","_law_way","_law_word","_law_many"]⟩,
 ⟨none,"_law_key","_law_key",(top 24),U1,U12⟩,
 ⟨none,"_law_pairs","_law_pairs",(top 25),U10,["_law_tape_here","_law_kit","_law_turns","_law_most","_law_names_here"]⟩,
 ⟨none,"_law_hands","_law_hands",(top 26),U1,["_law_tape_here","_law_kit","_law_turns","_law_hands_here","_law_event","_law_changes","_law_k","_law_box","_law_word"]⟩,
 ⟨none,"_law_plain","_law_plain",(top 27),U0,["_law_tape_here","_law_kit","_law_turns","_law_deep","_law_key_here","_law_tag","_law_sets","_law_hands_here","_law_lines_here"]⟩,
 ⟨none,"_law_part_line","_law_part_line",(top 28),U11,["_law_tape_here","_law_kit","_law_turns","_law_name","_law_key_here","_law_names_here"]⟩,
 ⟨none,"_law_each","_law_each",(top 29),U4,["_law_tape_here","_law_kit","_law_deep","_law_name","_law_number_here","_law_lines_here","_law_k"]⟩,
 ⟨none,"_law_line","_law_line",(top 30),U0,["_law_tape_here","_law_kit","_law_turns","_law_deep","_law_way","_law_name","_law_key_here","_law_number_here","_law_lines_here"]⟩,
 ⟨none,"_law_lines","_law_lines",(top 31),U0,["_law_tape_here","_law_kit","_law_turns","_law_deep","_law_lines_here","_law_k"]⟩,
 ⟨none,"_law_part","_law_part",(top 32),U8,["_law_tape_here","_law_names_here","_law_k","_law_keyed","_law_many","_law_boxes_here","_law_kit","_law_first","_law_lines_here","_law_work_names","_law_works"]⟩,
 ⟨none,"_law_house","_law_house",(top 33),U15,["_law_tape_here","_law_names_here","_law_keyed"]⟩,
 ⟨none,"_law_over","_law_over",(top 34),["_law_downs","_law_more"],["_law_downs","_law_more","_law_found","_law_name","_law_number_here"]⟩,
 ⟨none,"_law_parts","_law_parts",(top 35),U3,["_law_row","_law_spots","_law_downs","_law_found","_law_want","_law_here"]⟩,
 ⟨none,"_law_named","_law_named",(top 36),U14,U14⟩,
 ⟨none,"_law_answers","_law_answers",(top 37),U2,["_law_house_here","_law_values_here","_law_due","_law_path","_law_name","_law_gives","_law_downs","_law_boxes_here","_law_answers_here","_law_sort","_law_pairs_here","_law_one","_law_number_here"]⟩,
 ⟨none,"_law_within","_law_within",(top 38),U2,["_law_house_here","_law_values_here","_law_due","_law_piece","_law_found","_law_spots","_law_name","_law_gives","_law_downs"]⟩,
 ⟨none,"_law_fresh","_law_fresh",(top 39),U9,U9⟩,
 ⟨none,"_law_boxes","_law_boxes",(top 40),U5,U5⟩,
 ⟨none,"_law_values","_law_values",(top 41),U16,["_law_tape_here","_law_house_here","_law_values_here","_law_path","_law_name","_law_gives","_law_downs","_law_piece","_law_way","_law_part_here"]⟩,
 ⟨none,"_law_kind","_law_kind",(top 42),["_law_thing"],["_law_thing","_law_kinds","_law_names_here"]⟩,
 ⟨none,"_law_alike","_law_alike",(top 43),["_law_one","_law_other"],["_law_one","_law_other","_law_kind_here"]⟩,
 ⟨none,"_law_boxes_of","_law_boxes_of",(top 44),U6,["_law_entries","_law_path","_law_row","_law_base","_law_ahead","_law_found","_law_want","_law_here","_law_label_here","_law_hands_here","_law_inner"]⟩,
 ⟨none,"_law_tree","_law_tree",(top 45),["_law_drawing"],["_law_drawing","_law_entries","_law_entry"]⟩,
 ⟨none,"_law_label","_law_label",(top 46),["_law_label_here"],["_law_label_here","_law_words","_law_key_here","_law_nth"]⟩,
 ⟨none,"_law_shown","_law_shown",(top 47),U13,["_law_row","_law_deep","_law_lines_here","_law_label_here","_law_box","_law_words","_law_name","_law_number_here","_law_one"]⟩,
 ⟨none,"law","law",(top 48),["_law_script"],["_law_script","_law_tape_here","_law_house_here","_law_one","_law_other","_law_tree_here","_law_found"]⟩,
 ⟨some "Drawer","__init__","Drawer.__init__",(fV (top 15) 0),["self","answers"],["self","answers"]⟩,
 ⟨some "Drawer","number","Drawer.number",(fV (top 15) 1),["self","reckoning","turns"],["self","reckoning","turns"]⟩,
 ⟨some "Drawer","numbered","Drawer.numbered",(fV (top 15) 2),["self","pairs","turns"],["self","pairs","turns"]⟩,
 ⟨some "Drawer","row","Drawer.row",(fV (top 15) 3),["self","lines","turns"],["self","lines","turns","row"]⟩,
 ⟨some "Drawer","bring","Drawer.bring",(fV (top 15) 4),["self","lines","turns","row","counts"],["self","lines","turns","row","counts","line","taken"]⟩,
 ⟨some "Drawer","bring_each","Drawer.bring_each",(fV (top 15) 5),["self","line","turns","row","counts"],["self","line","turns","row","counts","count","turn","inner"]⟩,
 ⟨some "Drawer","want","Drawer.want",(fV (top 15) 6),["self","line","turns","counts"],["self","line","turns","counts","spot","pairs","hands"]⟩,
 ⟨some "Drawer","spot","Drawer.spot",(fV (top 15) 7),["self","key","turns","counts"],["self","key","turns","counts","told","nth"]⟩,
 ⟨some "Drawer","hand","Drawer.hand",(fV (top 15) 8),["self","hand","turns"],["self","hand","turns","changes"]⟩]
set_option genInjectivity false in
structure Adr where
 f:Nat->Addr
 d:Nat->FuncData
 t_BOUND:Tok
 ASKING:Addr
 kC:Tok
 Drawer:Addr
structure Txt (P:Program)(w:World)(K:PySem.W.Frag)(mg:Str->Option Value)(a:Adr):Prop where
 F:∀(i:Nat) {k:Option Str} {nm q:Str} {st:Stmt} {ps N:List Str},tab[i]?=some ⟨k,nm,q,st,ps,N⟩->CL.FI K mg k nm q st ps N (a.f i) (a.d i)
 J9:mg "BOUND" = some (.int 1000000000 a.t_BOUND)
 gASKING:mg "ASKING" = some (.ref a.ASKING)
 qASKING:∀H:Hp,SqT K H a.ASKING [.str "take",.str "box",.str "down"]
 gO:mg "MOST_TURNS" = some (.int 8 a.kC)
 z_abs:mg "abs" = none
 z_all:mg "all" = none
 z_bool:mg "bool" = none
 Zg:mg "dict" = none
 vS:mg "int" = none
 aJ:mg "isinstance" = none
 bJ:mg "len" = none
 z_list:mg "list" = none
 z_max:mg "max" = none
 z_min:mg "min" = none
 gV:mg "range" = none
 vL:mg "sorted" = none
 fB:mg "str" = none
 qZ:mg "tuple" = none
 rX:mg "Drawer" = some (.ref a.Drawer)
 xX:Cls K a.Drawer
 XA:Mk K a.Drawer (a.f 40)
 cY:NoAttr K a.Drawer "answers"
 bW:NoAttr K a.Drawer "asked"
theorem tab_ok:CL.AllR CL.RB tab:=by
 unfold tab
 repeat refine⟨⟨⟨rfl,rfl,rfl,by decide +kernel,rfl,by decide +kernel,by decide +kernel⟩,fun _ _ _ _ _ _=>by first | (refine CL.args1 ?_; exact fun _=>rfl) | (refine CL.args2 ?_; exact fun _ _=>rfl) | (refine CL.args3 ?_; exact fun _ _ _=>rfl) | (refine CL.args4 ?_; exact fun _ _ _ _=>rfl) | (refine CL.args5 ?_; exact fun _ _ _ _ _=>rfl)⟩,?_⟩
 exact trivial
theorem txt_mk {P:Program}{w:World}{K:PySem.W.Frag}{h:Heap}{mg:Str->Option Value}(X:K.In h)(G:h.Ns mainGlobals mg){ga1 cc0:Addr}{t0 t1_0 t1_1 t1_2 t2:Tok}{gn1:Nat}
  (hf:CL.AllR (CL.FH K) tab)
  (gl0:PySem.W.nsIn K mainGlobals "BOUND" = some (some (.int 1000000000 t0)))
  (gl1:PySem.W.nsIn K mainGlobals "ASKING" = some (some (.ref ga1)))
  (ql1:K.lookup ga1=some { cls:=.type "tuple",data:=.seq #[.str "take" t1_0,.str "box" t1_1,.str "down" t1_2] gn1 })
  (gl2:PySem.W.nsIn K mainGlobals "MOST_TURNS" = some (some (.int 8 t2)))
  (z0:PySem.W.nsIn K mainGlobals "abs" = some none)
  (z1:PySem.W.nsIn K mainGlobals "all" = some none)
  (z2:PySem.W.nsIn K mainGlobals "bool" = some none)
  (z3:PySem.W.nsIn K mainGlobals "dict" = some none)
  (z4:PySem.W.nsIn K mainGlobals "int" = some none)
  (z5:PySem.W.nsIn K mainGlobals "isinstance" = some none)
  (z6:PySem.W.nsIn K mainGlobals "len" = some none)
  (z7:PySem.W.nsIn K mainGlobals "list" = some none)
  (z8:PySem.W.nsIn K mainGlobals "max" = some none)
  (z9:PySem.W.nsIn K mainGlobals "min" = some none)
  (z10:PySem.W.nsIn K mainGlobals "range" = some none)
  (z11:PySem.W.nsIn K mainGlobals "sorted" = some none)
  (z12:PySem.W.nsIn K mainGlobals "str" = some none)
  (z13:PySem.W.nsIn K mainGlobals "tuple" = some none)
  (ca0:PySem.W.nsIn K mainGlobals "Drawer" = some (some (.ref cc0)))
  (cb0:PySem.W.plainGet K cc0 Str.empty=true)
  (cd_0:PySem.W.hasDictIn K cc0=true)
  (ce0:PySem.W.plainOver K cc0=true)
  (cf0:PySem.W.findIn K (.ref cc0) "__setattr__" = some (some (.builtin "object.__setattr__")))
  (cg0:PySem.W.makesIn K cc0=true)
  (ch0:PySem.W.keepIn K (.ref cc0)=true)
  (n0_answers:PySem.W.findIn K (.ref cc0) "answers" = some none)
  (n0_asked:PySem.W.findIn K (.ref cc0) "asked" = some none)
  : ∃a:Adr,Txt P w K mg a:=by
 obtain⟨f,d,F⟩:=CL.fi_all X G hf tab_ok
 exact⟨⟨f,d,t0,ga1,t2,cc0⟩,F,
  PySem.W.mg_of X G gl0,
  PySem.W.mg_of X G gl1,
  fun _=>.inr ⟨_,_,_,ql1,rfl,rfl,by show 3<=sizeLine; decide,(.cons ⟨_,rfl⟩ (.cons ⟨_,rfl⟩ (.cons ⟨_,rfl⟩ .nil)))⟩,
  PySem.W.mg_of X G gl2,
  PySem.W.mg_none_of X G z0,
  PySem.W.mg_none_of X G z1,
  PySem.W.mg_none_of X G z2,
  PySem.W.mg_none_of X G z3,
  PySem.W.mg_none_of X G z4,
  PySem.W.mg_none_of X G z5,
  PySem.W.mg_none_of X G z6,
  PySem.W.mg_none_of X G z7,
  PySem.W.mg_none_of X G z8,
  PySem.W.mg_none_of X G z9,
  PySem.W.mg_none_of X G z10,
  PySem.W.mg_none_of X G z11,
  PySem.W.mg_none_of X G z12,
  PySem.W.mg_none_of X G z13,
  PySem.W.mg_of X G ca0,
  ⟨cb0,cd_0,ce0,cf0⟩,
  ⟨cg0,((F 40 rfl).M _ _ rfl (PySem.W.mg_of X G ca0)).1,((F 40 rfl).M _ _ rfl (PySem.W.mg_of X G ca0)).2,ch0⟩,
  n0_answers,
  n0_asked⟩
end K34
namespace K34
open PySem L2 CL
section
variable {P:Program}{w:World}{K:PySem.W.Frag}{mg:Str->Option Value}{base:Heap}{a:Adr}
structure Tp (C:CH)(t:Addr)(ns:List Int):Prop where
 at_:∃a b c:Int,C t=some (.lst [.fz (ns.map PV.int),.int a,.int b,.int c])/\0<=a/\0<=b/\0<=c
 len:ns.length<=63
def Ex (t:Addr)(C C':CH):Prop:=∀b o,b≠t->C b=some o->C' b=some o
theorem Ex.refl {t:Addr}{C:CH}:Ex t C C:=fun _ _ _ h=>h
theorem Ex.trans {t:Addr}{C C1 C2:CH}(h:Ex t C C1)(h':Ex t C1 C2):Ex t C C2:=fun b o n e=>h' b o n (h b o n e)
theorem Ex.new {t p:Addr}{C:CH}(hp:C p=none)(o:CO):Ex t C (gQ C p o):=fun b u _ e=>by
 rw[wQ (fun z=>by subst z; rw[hp] at e; cases e)]; exact e
def gTape:GC:=fun ts C Q=>∃ns:List Int,ts=[.fz (ns.map PV.int)]/\ns.length<=63/\∀t C',C t=none->Ex t C C'->Tp C' t ns->Q (.ref t) C'
theorem ok_tape (T:Txt P w K mg a):FnOk P w K mg base CX0 1 (a.f 9) (a.d 9) ["_law_script"] (spC K gTape):=by
 have S:=(T.F 9 rfl).s;refine(T.F 9 rfl).ok (fun ts C R h=>?_) fun cdv A outer s H E hr=>⟨_,(kQ (bQ (gX (qQ (cv 0) (qQ zQ (qQ zQ (ca1 zQ))))))),?_⟩
 .obtain ⟨ns,rfl,_⟩:=h; rfl
 rintro ts C R ⟨ns,rfl,hl,q⟩;show 4<=sizeLine/\∀p,C p=none->R (.ref p) (gQ C p (.lst [.fz (ns.map PV.int),.int 0,.int 0,.int 0]));exact⟨by decide,fun p hp=>q p _ hp (Ex.new hp _) ⟨⟨0,0,0,jQ,by decide,by decide,by decide⟩,hl⟩⟩
end
section
variable {P:Program}{w:World}{K:PySem.W.Frag}{mg:Str->Option Value}{base:Heap}{a:Adr}
theorem Ex.tape {t:Addr}{C:CH}(o:CO):Ex t C (gQ C t o):=fun b u n e=>by rw[wQ n]; exact e
theorem KR {ns:List Int}{k:Int}(h0:0<=k)(h1:k < ((ns.map PV.int).length:Int)):∃v,atI (ns.map PV.int) k=some (.int v):=by
 unfold atI ixN;rw[if_pos h0,if_pos h1];rw[List.length_map] at h1;show ∃v,(ns.map PV.int)[k.toNat]?=some (.int v);rw[List.getElem?_map,List.getElem?_eq_getElem (by omega)];exact⟨_,rfl⟩
def gDraw:GC:=fun ts C Q=>∃(t:Addr) (m:Int) (ns:List Int),ts=[.ref t,.int m]/\Tp C t ns/\0 < m/\m < 4611686018427387904/\∀(v:Int) (C':CH),0<=v->v < m->Tp C' t ns->Ex t C C'->Q (.int v) C'
theorem rZ (T:Txt P w K mg a):FnOk P w K mg base CX0 1 (a.f 10) (a.d 10) U7 (spC K gDraw):=by
 have S:=(T.F 10 rfl).s
 refine(T.F 10 rfl).ok (fun ts C R h=>?_) fun cdv A outer s H E hr=>⟨_,(xQ (cs1 2 S.nd (cx (cv 0) zQ))
  (xQ (cP (rQ oQ tQ (cx (cv 0) zQ) zQ) (tD (cv 0) zQ))
  (xQ (wX (cw_pt (cw_and (ct2 hX jX (cx (cv 0) zQ) zQ) (cw_and1 (ct2 kM jG (cx (cv 0) zQ) (cln T.bJ (cv 2)))))) (xQ (cP (rQ kT rO (gZ KJ cbi_abs rfl T.z_abs rfl (ca1 (cx (cv 2) (cx (cv 0) zQ)))) (rQ jA gR zQ zQ)) (tD (cv 0) zQ))
  (kQ (cP (rQ oQ tQ (cx (cv 0) zQ) zQ) (tD (cv 0) zQ)))) qX)
  (xQ (wX (ct2 jK sZ (cx (cv 0) zQ) zQ) (xQ (cs1 3 S.nd (rQ rG hW (cx (cv 0) zQ) (cv 1)))
  (xQ (cP (rQ kT rO (cx (cv 0) zQ) (cv 1)) (tD (cv 0) zQ))
  (kQ (bQ (cv 3))))) qX)
  (xQ (cs1 4 S.nd zQ)
  (xQ (wX (ct2 jK sZ (cln T.bJ (cv 2)) zQ) (kQ (cs1 4 S.nd (cx (cv 2) (rQ rG hW (cx (cv 0) zQ) (cln T.bJ (cv 2)))))) qX)
  (xQ (cs1 5 S.nd (rQ rG hW (rQ oQ tQ (rQ oQ tQ (rQ vF cU (rQ rG hW (cv 4) zQ) zQ) (rQ vF cU (cx (cv 0) zQ) zQ)) zQ) zQ))
  (xQ (cs1 5 S.nd (rQ rG hW (rQ vF cU (cv 5) (rQ oQ tQ (cv 5) zQ)) zQ))
  (kQ (bQ (rQ rG hW (rQ rG hW (rQ vF cU (cv 5) zQ) zQ) (cv 1)))))))))))),?_⟩
 .obtain ⟨t,m,ns,rfl,_⟩:=h; rfl
 rintro ts C R ⟨t,m,ns,rfl,⟨⟨x,y,z,h,hx,hy,hz⟩,hl⟩,m0,m1,q⟩;refine sX h rfl ?_;refine sX h rfl ?_;refine uW ?_;refine setL h rfl ?_;dsimp only;have h1:(gQ C t (.lst [.fz (ns.map PV.int),.int (x+1),.int y,.int z])) t=_:=jQ;have e1:Ex t C (gQ C t (.lst [.fz (ns.map PV.int),.int (x+1),.int y,.int z])):=Ex.tape _;refine aQ (fun ρ' C'=>ρ'=[some (.ref t),some (.int m),some (.fz (ns.map PV.int)),none,none,none]/\∃y z:Int,C' t=some (.lst [.fz (ns.map PV.int),.int (x+1),.int y,.int z])/\0<=y/\0<=z/\Ex t C C') (fun L hL=>?_) ?_
 .refine sX h1 rfl ?_
  refine yX (zZ _ _) ?_;refine pZ (fun hb=>?_) fun hb=>?_
  .refine sX h1 rfl ?_
   refine Jr ?_;refine i_i ?_;refine pZ (fun hb2=>?_) fun hb2=>?_
   .obtain ⟨c,ea⟩:=KR hz (of_decide_eq_true hb2)
    refine sX h1 rfl ?_;refine ix_f ea ?_;refine⟨⟨by decide,by decide,by decide⟩,⟨by decide,by decide⟩,?_⟩;refine setL h1 rfl ?_;refine sX jQ rfl ?_;refine uW ?_;refine setL jQ rfl ?_;refine hL _ _ ⟨rfl,_,_,jQ,?_,by omega,(e1.trans (Ex.tape _)).trans (Ex.tape _)⟩;refine Int.ediv_nonneg ?_ (by decide)
    split<;>omega
   .refine bX ?_
    exact hL _ _ ⟨rfl,y,z,h1,hy,hz,e1⟩
  .refine eU rfl ?_
   refine bX ?_;exact hL _ _ ⟨rfl,y,z,h1,hy,hz,e1⟩
 clear h1 e1;rintro ρ' C1 ⟨rfl,y',z',h1,hy',hz',e1⟩
 try dsimp only
 refine xZ ?_;refine sX h1 rfl ?_;refine i_i ?_;refine pZ (fun hb=>?_) fun hb=>?_
 .refine sX h1 rfl ?_
  refine⟨m0,?_⟩;refine sX h1 rfl ?_;refine⟨⟨m0,by omega⟩,?_⟩;refine setL h1 rfl ?_;exact q _ _ (Int.emod_nonneg _ (by omega)) (Int.emod_lt_of_pos _ m0) ⟨⟨_,_,_,jQ,by omega,Int.ediv_nonneg hy' (by omega),hz'⟩,hl⟩ (e1.trans (Ex.tape _))
 .refine bX ?_
  try dsimp only
  refine yQ (c_i ?_)
  try dsimp only
  refine aQ (fun ρ' C'=>C'=C1/\∃v:Int,ρ'=[some (.ref t),some (.int m),some (.fz (ns.map PV.int)),none,some (.int v),none]) (fun L hL=>?_) ?_
  .refine Jr ?_
   refine i_i ?_;refine pZ (fun hb2=>?_) fun hb2=>?_
   .have hn:(0:Int) < ((ns.map PV.int).length:Int):=of_decide_eq_true hb2
    obtain⟨c,ea⟩:=KR (Int.emod_nonneg (x+1) (b:=((ns.map PV.int).length:Int)) (by omega)) (Int.emod_lt_of_pos (x+1) hn);refine sX h1 rfl ?_;refine Jr ?_;refine⟨hn,?_⟩;refine ix_f ea ?_;exact hL _ _ ⟨rfl,_,rfl⟩
   .refine bX ?_
    exact hL _ _ ⟨rfl,0,rfl⟩
  .rintro ρ' C2 ⟨rfl,v,rfl⟩
   try dsimp only
   refine yQ ?_;refine⟨(by show(0:Int) < _; decide),?_⟩;refine⟨.inr ⟨by decide,by decide⟩,?_⟩;refine sX h1 rfl ?_;refine⟨.inr ⟨by decide,by decide⟩,?_⟩;refine uW ?_;refine uW ?_;refine⟨(by show(0:Int) < _; decide),?_⟩;have b0:=Int.emod_nonneg (v % 2147483647 * 48271+(x+1) * 7919+12345) (b:=2147483629) (by decide);have b1:=Int.emod_lt_of_pos (v % 2147483647 * 48271+(x+1) * 7919+12345) (b:=2147483629) (by decide)
   try dsimp only
   refine yQ ?_;refine uW ?_;refine⟨.inl ⟨by omega,by omega⟩,?_⟩;refine⟨(by show(0:Int) < _; decide),?_⟩
   try dsimp only
   refine⟨.inr ⟨by decide,by decide⟩,?_⟩;refine⟨(by show(0:Int) < _; decide),?_⟩;refine⟨m0,?_⟩;exact q _ _ (Int.emod_nonneg _ (by omega)) (Int.emod_lt_of_pos _ m0) ⟨⟨_,_,_,h1,by omega,hy',hz'⟩,hl⟩ e1
end
section
variable {P:Program}{w:World}{K:PySem.W.Frag}{mg:Str->Option Value}{base:Heap}{a:Adr}
theorem Tp.ne {C:CH}{t p:Addr}{ns:List Int}(h:Tp C t ns)(hp:C p=none):p≠t:=fun e=>by
 obtain⟨⟨x,y,z,h,_⟩,_⟩:=h;rw[<- e,hp] at h;cases h
theorem Tp.new {C:CH}{t p:Addr}{ns:List Int}(h:Tp C t ns)(hp:C p=none)(o:CO):Tp (gQ C p o) t ns:=by
 have n:=h.ne hp;obtain⟨⟨x,y,z,h,q⟩,l⟩:=h;exact⟨⟨x,y,z,(wQ (Ne.symm n)).trans h,q⟩,l⟩
def POOL:List Str:=["a","ab","abc","b","ba","box","end","give","part","plain","turn","abcdefgh"]
theorem yK {α:Type}{f:α->PV}{ss:List α}{k:Int}(d:α)(h0:0<=k)(h1:k < (ss.length:Int)):atI (ss.map f) k=some (f (ss.getD k.toNat d)):=by
 unfold atI ixN;rw[if_pos h0,if_pos (by rw[List.length_map]; exact h1)];show(ss.map f)[k.toNat]?=_;rw[List.getElem?_map,List.getD_eq_getElem?_getD,List.getElem?_eq_getElem (by omega)]
 rfl
def wA (v c:Int)(i:Nat):Str:=POOL.getD ((v+c * (i:Int)) % 12).toNat ""
def xK (v c:Int)(m:Nat):List Str:=(List.range m).map (wA v c)
theorem X8:∀v∈List.range 12,∀c∈[1,5,7,11],(xK (v:Nat) (c:Nat) 12).Nodup:=by decide +kernel
theorem lT {v c:Int}{m:Nat}(v0:0<=v)(v1:v < 12)(hc:c=1\/c=5\/c=7\/c=11)(hm:m<=12):(xK v c m).Nodup:=by
 have h12:(xK v c 12).Nodup:=by
  have:=X8 v.toNat (List.mem_range.2 (by omega));have ev:((v.toNat:Nat):Int)=v:=Int.toNat_of_nonneg v0
  rcases hc with rfl | rfl | rfl | rfl
  .have:=this 1 (by decide); rw[ev] at this; exact this
  .have:=this 5 (by decide); rw[ev] at this; exact this
  .have:=this 7 (by decide); rw[ev] at this; exact this
  .have:=this 11 (by decide); rw[ev] at this; exact this
 have e:xK v c m=(xK v c 12).take m:=by
  unfold xK;rw[<- List.map_take,List.take_range];rw[Nat.min_eq_left hm]
 rw[e];exact h12.sublist (List.take_sublist _ _)
theorem Ks {c:TCE}{ρ:CSt}{Q:K1}(f:Nat->PV)(I:CH->Prop)(m:Nat)(h:∀(k:Nat) C (Q':K1),k < m->I C->(∀C',I C'->Q' (f k) C')->c (some (.int (k:Int))::ρ) C Q')
  (q:∀p C',I C'->C' p=none->Q (.ref p) (gQ C' p (.lst ((List.range m).map f)))):∀(n:Nat) (C:CH),n<=m->m<=1000->I C->wZ aU c ρ Q ((List.range m).drop n |>.map fun k=>PV.int (k:Nat)) ((List.range n).map f) C:=by
 suffices ∀j n C,n+j=m->m<=1000->I C->wZ aU c ρ Q ((List.range m).drop n |>.map fun k=>PV.int (k:Nat)) ((List.range n).map f) C by
  intro n C hn hm hI;exact this (m - n) n C (by omega) hm hI
 intro j
 induction j with
 |zero =>
  intro n C hn hm hI;have e:n=m:=by omega
  subst e;rw[List.drop_of_length_le (by rw[List.length_range]; exact Nat.le_refl _)];exact vW fun p hp=>q p C hI hp
 |succ j ih =>
  intro n C hn hm hI;rw[List.drop_eq_getElem_cons (by rw[List.length_range]; omega),List.map_cons,List.getElem_range];refine fX ?_;show c (some (.int (n:Int))::ρ) C fun y C2=>((List.range n).map f).length < sizeLine/\wZ aU c ρ Q _ ((List.range n).map f++[y]) C2;refine h n C _ (by omega) hI fun C' hI'=>⟨?_,?_⟩
  .rw [List.length_map,List.length_range]
   exact Nat.lt_of_lt_of_le (show n < 1001 by omega) (by decide)
  .have e:(List.range n).map f++[f n]=(List.range (n+1)).map f:=by rw[List.range_succ,List.map_append]; rfl
   rw[e];exact ih (n+1) C' (by omega) hm hI'
theorem Xy (v c:Int)(n:Nat):∀s∈xK v c n,s.length<=8:=by
 intro s hs;unfold xK at hs;obtain⟨i,_,rfl⟩:=List.mem_map.1 hs;unfold wA
 have all:∀k:Nat,(POOL.getD k "").length<=8:=by
  intro k
  rcases Nat.lt_or_ge k 12 with h | h
  .have:k=0\/k=1\/k=2\/k=3\/k=4\/k=5\/k=6\/k=7\/k=8\/k=9\/k=10\/k=11:=by omega
   rcases this with rfl | rfl | rfl | rfl | rfl | rfl | rfl | rfl | rfl | rfl | rfl | rfl<;>decide +kernel
  .rw [List.getD_eq_getElem?_getD,List.getElem?_eq_none (by exact h)]
   decide
 exact all _
def J5:GC:=fun ts C Q=>∃(t:Addr) (m:Int) (ns:List Int),ts=[.ref t,.int m]/\Tp C t ns/\0<=m/\m<=12/\∀(p:Addr) (ss:List Str) (C':CH),C' p=some (.lst (ss.map PV.str))->C p=none->p≠t->ss.length=m.toNat->(ss.Nodup/\∀s∈ss,s.length<=8)->Tp C' t ns->Ex t C C'->Q (.ref p) C'
theorem nG (T:Txt P w K mg a):FnOk P w K mg base CX0 2 (a.f 11) (a.d 11) U7 (spC K J5):=by
 have S:=(T.F 11 rfl).s;have uQ:=rZ (base:=base) T
 refine(T.F 11 rfl).ok (fun ts C R h=>?_) fun cdv A outer s H E hr=>⟨_,(xQ (cs1 2 S.nd (gX (qQ vQ (qQ vQ (qQ vQ (qQ vQ (qQ vQ (qQ vQ (qQ vQ (qQ vQ (qQ vQ (qQ vQ (qQ vQ (ca1 vQ))))))))))))))
  (xQ (cs1 3 S.nd (cf (T.F 10 rfl) uQ hr (qQ (cv 0) (ca1 zQ))))
  (xQ (cs1 4 S.nd (cx (gX (qQ zQ (qQ zQ (qQ zQ (ca1 zQ))))) (cf (T.F 10 rfl) uQ hr (qQ (cv 0) (ca1 zQ)))))
  (kQ (bQ (eK rfl (S.c (by decide +kernel)) (S.k rfl rfl rfl (by decide +kernel)) (nP rfl T.gV (ca1 (cv 1))) (fun _ _ _ _ _=>xJ) (fun _ _ _ _ _=>(cx (cv 3) (rQ rG hW (rQ oQ tQ (cv 4) (rQ vF cU (cv 5) (cv 0))) zQ))))))))),?_⟩
 .obtain ⟨t,m,ns,rfl,_⟩:=h; rfl
 rintro ts C R ⟨t,m,ns,rfl,hT,m0,m1,q⟩;refine⟨by decide,fun p hp=>?_⟩;dsimp only;refine⟨t,12,ns,rfl,hT.new hp _,by decide,by decide,fun v C1 v0 v1 T1 e1=>?_⟩;dsimp only;refine⟨by decide,fun p2 hp2=>⟨t,4,ns,rfl,T1.new hp2 _,by decide,by decide,fun k C2 k0 k1 T2 e2=>?_⟩⟩;have m1':C1 p=_:=e1 p _ (hT.ne hp) jQ;have e12:Ex t C1 C2:=(Ex.new hp2 _).trans e2;have m2:C2 p2=_:=e2 p2 _ (T1.ne hp2) jQ
 have ec:=yK (f:=PV.int) (ss:=[1,5,7,11]) 0 k0 k1
 have hc:[1,5,7,11].getD k.toNat (0:Int)=1\/[1,5,7,11].getD k.toNat (0:Int)=5\/[1,5,7,11].getD k.toNat (0:Int)=7\/[1,5,7,11].getD k.toNat (0:Int)=11:=by
  have:k=0\/k=1\/k=2\/k=3:=by omega
  rcases this with rfl | rfl | rfl | rfl
  .exact .inl rfl
  .exact .inr (.inl rfl)
  .exact .inr (.inr (.inl rfl))
  .exact .inr (.inr (.inr rfl))
 revert ec hc;generalize [1,5,7,11].getD k.toNat (0:Int)=c;intro ec hc;refine sX m2 ec ?_;dsimp only;refine⟨by omega,by omega,?_⟩;have m3:C2 p=_:=e12 p _ (hT.ne hp) m1';have e02:Ex t C C2:=((Ex.new hp _).trans e1).trans e12;have hb:c<=11/\1<=c:=by rcases hc with rfl | rfl | rfl | rfl<;>omega
 refine Ks (fun i=>.str (wA v c i)) (fun C'=>C'=C2) m.toNat (fun i C3 Q' hi e hq=>?_) (fun p3 C3 e hp3=>?_) 0 C2 (Nat.zero_le _) (by omega) rfl
 .subst e
  refine⟨.inr ⟨by omega,by omega⟩,?_⟩;refine uW ?_;refine⟨(by show(0:Int) < _; decide),?_⟩;have r0:=Int.emod_nonneg (v+c * (i:Int)) (b:=12) (by decide);have r1:=Int.emod_lt_of_pos (v+c * (i:Int)) (b:=12) (by decide);refine sX m3 (yK (f:=PV.str) (ss:=POOL) "" r0 r1) ?_;exact hq _ rfl
 .subst e
  have hp0:C p3=none:=by
   cases z:C p3 with
   |none=>rfl
   |some o =>
    have n1:p3≠t:=T2.ne hp3;rw[e02 p3 o n1 z] at hp3;cases hp3
  refine q p3 (xK v c m.toNat) _ ?_ hp0 (T2.ne hp3) ?_ ⟨lT v0 v1 hc (by omega),Xy v c m.toNat⟩ (T2.new hp3 _) (e02.trans (Ex.new hp3 _))
  .rw [jQ]
   unfold xK;rw[List.map_map]
   rfl
  .unfold xK
   rw[List.length_map,List.length_range]
def QI:GC:=fun ts C Q=>∃(t:Addr) (ns:List Int),ts=[.ref t]/\Tp C t ns/\∀(i:Int) (C':CH),-1000000000<=i->i<=1000000000->Tp C' t ns->Ex t C C'->Q (.int i) C'
theorem at_ints {ns:List Int}{k:Int}{lo hi:Int}(hb:∀x∈ns,lo<=x/\x<=hi)(h0:0<=k)(h1:k < ((ns.map PV.int).length:Int)):∃v,atI (ns.map PV.int) k=some (.int v)/\lo<=v/\v<=hi:=by
 unfold atI ixN;rw[if_pos h0,if_pos h1];rw[List.length_map] at h1;show ∃v,(ns.map PV.int)[k.toNat]?=some (.int v)/\lo<=v/\v<=hi;rw[List.getElem?_map,List.getElem?_eq_getElem (by omega)];exact⟨_,rfl,hb _ (List.getElem_mem _)⟩
theorem bU (T:Txt P w K mg a):FnOk P w K mg base CX0 2 (a.f 12) (a.d 12) U15 (spC K QI):=by
 have S:=(T.F 12 rfl).s;have uQ:=rZ (base:=base) T
 refine(T.F 12 rfl).ok (fun ts C R h=>?_) fun cdv A outer s H E hr=>⟨_,(xQ (wX (ct2 jK sZ (cf (T.F 10 rfl) uQ hr (qQ (cv 0) (ca1 zQ))) zQ) (kQ (bQ (rQ xV pJ (cf (T.F 10 rfl) uQ hr (qQ (cv 0) (ca1 zQ))) zQ))) qX)
  (kQ (bQ (cx (gX (qQ (rQ jA gR zQ zQ) (qQ (tO mL gM (rQ jA gR zQ zQ)) (qQ zQ (ca1 (tO mL gM zQ)))))) (cf (T.F 10 rfl) uQ hr (qQ (cv 0) (ca1 zQ))))))),?_⟩
 .obtain ⟨t,ns,rfl,_⟩:=h; rfl
 rintro ts C R ⟨t,ns,rfl,hT,q⟩;refine⟨t,8,ns,rfl,hT,by decide,by decide,fun v C1 v0 v1 T1 e1=>?_⟩;refine i_i ?_;refine pZ (fun hb=>?_) fun hb=>?_
 .refine ⟨t,9,ns,rfl,T1,by decide,by decide,fun v C2 v0 v1 T2 e2=>?_⟩
  refine i_i ?_;exact q (v - 3) C2 (by omega) (by omega) T2 (e1.trans e2)
 .refine bX ?_
  try dsimp only
  refine⟨⟨by decide,by decide,by decide⟩,?_⟩;refine⟨⟨by decide,by decide,by decide⟩,?_⟩;refine⟨by decide,fun p2 hp2=>?_⟩;refine⟨t,4,ns,rfl,T1.new hp2 _,by decide,by decide,fun k C2 k0 k1 T2 e2=>?_⟩;have m2:C2 p2=_:=e2 p2 _ (T1.ne hp2) jQ;obtain⟨c,ec,c0,c1⟩:=at_ints (ns:=[10 ^ 9,-10 ^ 9,999983,-70001]) (lo:=-1000000000) (hi:=1000000000) (by decide) k0 k1;refine sX m2 ec ?_;exact q c C2 c0 c1 T2 ((e1.trans (Ex.new hp2 _)).trans e2)
end
inductive Rk where
 |num (i:Int) | turn (n:Str) | ask (s n:Str) | bin (w:Str) (x y:Rk) | pick (x y z:Rk)
def Rk.pv:Rk->PV
 |.num i=>.tup [.str "num",.int i]
 |.turn n=>.tup [.str "turn",.str n]
 |.ask s n=>.tup [.str s,.str n]
 |.bin w x y=>.tup [.str w,x.pv,y.pv]
 |.pick x y z=>.tup [.str "pick",x.pv,y.pv,z.pv]
def wE (bs:List Str)(s n:Str):Prop:=((s = "take"\/s = "down")/\n∈(["a","ab","b"]:List Str))\/(s = "box"/\n∈bs)
def Rk.ok (bs τ:List Str):Nat->Rk->Prop
 |_,.num i=>-1000000000<=i/\i<=1000000000
 |_,.turn n=>n∈τ
 |_,.ask s n=>wE bs s n
 |0,.bin _ _ _=>False
 |0,.pick _ _ _=>False
 |d+1,.bin w x y=>(w = "add"\/w = "times"\/w = "less")/\x.ok bs τ d/\y.ok bs τ d
 |d+1,.pick x y z=>x.ok bs τ d/\y.ok bs τ d/\z.ok bs τ d
theorem Rk.ok.up {bs τ:List Str}:∀{d:Nat}{r:Rk},r.ok bs τ d->r.ok bs τ (d+1)
 |d,.num i,h=>by unfold Rk.ok at h ⊢; exact h
 |d,.turn n,h=>by unfold Rk.ok at h ⊢; exact h
 |d,.ask s n,h=>by unfold Rk.ok at h ⊢; exact h
 |0,.bin _ _ _,h=>by unfold Rk.ok at h; exact h.elim
 |0,.pick _ _ _,h=>by unfold Rk.ok at h; exact h.elim
 |d+1,.bin w x y,h=>by
  unfold Rk.ok at h ⊢;exact⟨h.1,h.2.1.up,h.2.2.up⟩
 |d+1,.pick x y z,h=>by
  unfold Rk.ok at h ⊢;exact⟨h.1.up,h.2.1.up,h.2.2.up⟩
theorem Rk.ok.mono {bs τ:List Str}{d e:Nat}{r:Rk}(h:r.ok bs τ d)(l:d<=e):r.ok bs τ e:=by
 induction l with
 |refl=>exact h
 |step _ ih=>exact ih.up
structure Kt where
 b:Addr
 r:Addr
 bs:List Str
 rs:List Str
 l:Int
 p:Int
 e:Int
 la:Option Str
def uG:Option Str->PV
 |none=>.non
 |some s=>.str s
def nX (b r:Addr)(l p e:Int)(la:PV):List (Key×PV):=[(.inr "boxes",.ref b),(.inr "rest",.ref r),(.inr "left",.int l),(.inr "parts",.int p),(.inr "eaches",.int e),(.inr "last",la)]
structure KAt (C:CH)(t k:Addr)(κ:Kt):Prop where
 at_:C k=some (.dK (nX κ.b κ.r κ.l κ.p κ.e (uG κ.la)))
 bx:C κ.b=some (.lst (κ.bs.map PV.str))
 rx:C κ.r=some (.lst (κ.rs.map PV.str))
 nk:k≠t
 nb:κ.b≠t
 nr:κ.r≠t
 lb:κ.bs.length<=4
 lr:κ.rs.length<=6
theorem KAt.ex {C C':CH}{t k:Addr}{κ:Kt}(h:KAt C t k κ)(e:Ex t C C'):KAt C' t k κ :=
 ⟨e _ _ h.nk h.at_,e _ _ h.nb h.bx,e _ _ h.nr h.rx,h.nk,h.nb,h.nr,h.lb,h.lr⟩
section
variable {b r:Addr}{l p e:Int}{la:PV}
theorem rV:hZ (nX b r l p e la) (.inr "boxes")=some (.ref b):=rfl
theorem uL:hZ (nX b r l p e la) (.inr "rest")=some (.ref r):=rfl
theorem lB:hZ (nX b r l p e la) (.inr "left")=some (.int l):=rfl
theorem tH:hZ (nX b r l p e la) (.inr "parts")=some (.int p):=rfl
theorem gL:hZ (nX b r l p e la) (.inr "eaches")=some (.int e):=rfl
theorem yS:hZ (nX b r l p e la) (.inr "last")=some la:=rfl
theorem aS {l':Int}:cZ (nX b r l p e la) (.inr "left") (.int l')=nX b r l' p e la:=rfl
theorem Xi {l':Int}:cZ (nX b r l p e la) (.inr "parts") (.int l')=nX b r l l' e la:=rfl
theorem lL {l':Int}:cZ (nX b r l p e la) (.inr "eaches") (.int l')=nX b r l p l' la:=rfl
end
theorem bY {ss:List Str}{i:Int}(h0:0<=i)(h1:i < (ss.length:Int)):ss.getD i.toNat "" ∈ ss:=by
 rw[List.getD_eq_getElem?_getD,List.getElem?_eq_getElem (by omega)];exact List.getElem_mem _
section
variable {P:Program}{w:World}{K:PySem.W.Frag}{mg:Str->Option Value}{base:Heap}{a:Adr}
def gLeaf:GC:=fun ts C Q=>∃(t k:Addr) (τ:List Str) (ns:List Int) (κ:Kt),ts=[.ref t,.ref k,.tup (τ.map PV.str)]/\Tp C t ns/\KAt C t k κ/\τ.length<=4/\∀(r:Rk) (C':CH),r.ok κ.bs τ 0->Tp C' t ns->Ex t C C'->Q r.pv C'
theorem lC (T:Txt P w K mg a):FnOk P w K mg base CX0 3 (a.f 13) (a.d 13) U1 (spC K gLeaf):=by
 have S:=(T.F 13 rfl).s;have uQ:=(rZ (base:=base) T).mono (show 1<=2 by decide);have lJ:=bU (base:=base) T
 refine(T.F 13 rfl).ok (fun ts C R h=>?_) fun cdv A outer s H E hr=>⟨_,(xQ (cs1 3 S.nd (cf (T.F 10 rfl) uQ hr (qQ (cv 0) (ca1 zQ))))
  (xQ (wX (ct2 hX jX (cv 3) zQ) (kQ (bQ (mQ (qQ vQ (ca1 (cx (gX (qQ vQ (qQ vQ (ca1 vQ)))) (cf (T.F 10 rfl) uQ hr (qQ (cv 0) (ca1 zQ))))))))) qX)
  (xQ (wX (ct2 hX jX (cv 3) zQ) (kQ (bQ (mQ (qQ vQ (ca1 (cx (gX (qQ vQ (qQ vQ (ca1 vQ)))) (cf (T.F 10 rfl) uQ hr (qQ (cv 0) (ca1 zQ))))))))) qX)
  (xQ (wX (cw_pt (cw_and (ct2 kM jG (cv 3) zQ) (cw_and1 (ct2 jK sZ (cln T.bJ (fZ (tX hr) (cv 1) vQ (fun _ _=>rfl))) zQ)))) (kQ (bQ (mQ (qQ vQ (ca1 (cx (fZ (tX hr) (cv 1) vQ (fun _ _=>rfl)) (cf (T.F 10 rfl) uQ hr (qQ (cv 0) (ca1 (cln T.bJ (fZ (tX hr) (cv 1) vQ (fun _ _=>rfl)))))))))))) qX)
  (xQ (wX (cw_pt (cw_and (ct2 hX jX (cv 3) zQ) (cw_and1 (ct2 jK sZ (cln T.bJ (cv 2)) zQ)))) (kQ (bQ (mQ (qQ vQ (ca1 (cx (cv 2) (cf (T.F 10 rfl) uQ hr (qQ (cv 0) (ca1 (cln T.bJ (cv 2))))))))))) qX)
  (kQ (bQ (mQ (qQ vQ (ca1 (cf (T.F 12 rfl) lJ hr (ca1 (cv 0))))))))))))),?_⟩
 .obtain ⟨t,k,τ,ns,κ,rfl,_⟩:=h; rfl
 rintro ts C R ⟨t,k,τ,ns,κ,rfl,hT,hk,hτ,q⟩;refine⟨t,6,ns,rfl,hT,by decide,by decide,fun v C1 v0 v1 T1 e1=>?_⟩
 try dsimp only
 have hk1:=hk.ex e1
 have tail:∀C2,Tp C2 t ns->Ex t C C2->QI [.ref t] C2 fun x C3=>2<=sizeLine/\R (.tup [.str "num",x]) C3:=by
  intro C2 T2 e2;refine⟨t,ns,rfl,T2,fun i C3 i0 i1 T3 e3=>⟨by decide,?_⟩⟩;exact q (.num i) C3 ⟨i0,i1⟩ T3 (e2.trans e3)
 refine xZ ?_;refine yX (zZ _ _) ?_;refine pZ (fun hb=>?_) fun hb=>?_
 .refine ⟨by decide,fun p hp=>?_⟩
  refine⟨t,3,ns,rfl,T1.new hp _,by decide,by decide,fun i C2 i0 i1 T2 e2=>?_⟩;refine sX (e2 p _ (T1.ne hp) jQ) (yK (f:=PV.str) (ss:=["a","ab","b"]) "" i0 i1) ?_;refine⟨by show 2<=sizeLine; decide,?_⟩;exact q (.ask "take" _) C2 (.inl ⟨.inl rfl,bY (ss:=["a","ab","b"]) i0 i1⟩) T2 ((e1.trans (Ex.new hp _)).trans e2)
 refine bX ?_
 try dsimp only
 refine xZ ?_;refine yX (zZ _ _) ?_;refine pZ (fun hb=>?_) fun hb=>?_
 .refine ⟨by decide,fun p hp=>?_⟩
  refine⟨t,3,ns,rfl,T1.new hp _,by decide,by decide,fun i C2 i0 i1 T2 e2=>?_⟩;refine sX (e2 p _ (T1.ne hp) jQ) (yK (f:=PV.str) (ss:=["a","ab","b"]) "" i0 i1) ?_;refine⟨by show 2<=sizeLine; decide,?_⟩;exact q (.ask "down" _) C2 (.inl ⟨.inr rfl,bY (ss:=["a","ab","b"]) i0 i1⟩) T2 ((e1.trans (Ex.new hp _)).trans e2)
 refine bX ?_
 try dsimp only
 refine aQ (fun ρ' C'=>C'=C1/\ρ'=[some (.ref t),some (.ref k),some (.tup (τ.map PV.str)),some (.int v)]) (fun L hL=>?_) ?_
 .refine i_i ?_
  refine pZ (fun hb=>?_) fun hb=>?_
  .refine oJ hk1.at_ rfl rV ?_
   refine oG hk1.bx ?_;refine i_i ?_;refine pZ (fun hb2=>?_) fun hb2=>?_
   .refine oJ hk1.at_ rfl rV ?_
    refine oJ hk1.at_ rfl rV ?_;refine oG hk1.bx ?_;have hl:=hk1.lb;rw[List.length_map] at hb2 ⊢;have hb3:=of_decide_eq_true hb2;refine⟨t,_,ns,rfl,T1,hb3,by omega,fun i C2 i0 i1 T2 e2=>?_⟩;refine sX ((hk1.ex e2).bx) (yK (f:=PV.str) "" i0 i1) ?_;refine⟨by show 2<=sizeLine; decide,?_⟩;exact q (.ask "box" _) C2 (.inr ⟨rfl,bY i0 i1⟩) T2 (e1.trans e2)
   .refine bX ?_
    exact hL _ _ ⟨rfl,rfl⟩
  .refine eU rfl ?_
   refine bX ?_;exact hL _ _ ⟨rfl,rfl⟩
 rintro ρ' C' ⟨rfl,rfl⟩
 try dsimp only
 refine aQ (fun ρ' C''=>C''=C'/\ρ'=[some (.ref t),some (.ref k),some (.tup (τ.map PV.str)),some (.int v)]) (fun L hL=>?_) ?_
 .refine yX (zZ _ _) ?_
  refine pZ (fun hb=>?_) fun hb=>?_
  .refine uN ?_
   refine i_i ?_;refine pZ (fun hb2=>?_) fun hb2=>?_
   .refine uN ?_
    rw[List.length_map] at hb2 ⊢;have hb3:=of_decide_eq_true hb2;refine⟨t,_,ns,rfl,T1,hb3,by omega,fun i C2 i0 i1 T2 e2=>?_⟩;refine cX (yK (f:=PV.str) "" i0 i1) ?_;refine⟨by show 2<=sizeLine; decide,?_⟩;exact q (.turn _) C2 (bY i0 i1) T2 (e1.trans e2)
   .refine bX ?_
    exact hL _ _ ⟨rfl,rfl⟩
  .refine eU rfl ?_
   refine bX ?_;exact hL _ _ ⟨rfl,rfl⟩
 rintro ρ' C'' ⟨rfl,rfl⟩
 try dsimp only
 exact tail _ T1 e1
end
theorem QG {b:Bool}{C:CH}{Q:K1}(q:Q (.int (if b then 1 else 0)) C):cInt [.bl b] C Q:=by
 unfold cInt;exact q
def rngP (m:Nat):List PV:=(List.range m).map fun k=>PV.int (k:Nat)
theorem ZC (m:Nat):(rngP m).length=m:=by unfold rngP; rw[List.length_map,List.length_range]
section
variable {P:Program}{w:World}{K:PySem.W.Frag}{mg:Str->Option Value}{base:Heap}{a:Adr}
def kI (d:Nat):GC:=fun ts C Q=>∃(t k:Addr) (τ:List Str) (ns:List Int) (κ:Kt),ts=[.ref t,.ref k,.tup (τ.map PV.str),.int (d:Nat)]/\Tp C t ns/\KAt C t k κ/\τ.length<=4/\∀(r:Rk) (C':CH),r.ok κ.bs τ d->Tp C' t ns->Ex t C C'->Q r.pv C'
theorem zP (T:Txt P w K mg a)(d:Nat):FnOk P w K mg base CX0 (d+4) (a.f 14) (a.d 14) U0 (spC K (kI d)):=by
 have main:∀n,(∀d',n=d'+1->FnOk P w K mg base CX0 (d'+4) (a.f 14) (a.d 14) U0 (spC K (kI d')))->FnOk P w K mg base CX0 (n+4) (a.f 14) (a.d 14) U0 (spC K (kI n)):=by
  intro n ih;have S:=(T.F 14 rfl).s;have uQ:=(rZ (base:=base) T).mono (show 1<=n+3 by omega);have wU:=(lC (base:=base) T).mono (show 3<=n+3 by omega)
  have dJ:FnOk P w K mg base CX0 (n+3) (a.f 14) (a.d 14) U0 (spC K (fun ts C Q=>∃d',n=d'+1/\kI d' ts C Q)):=by
   cases n with
   |zero=>exact⟨fun vs H Q E ⟨ts,C,R,_,_,⟨d',e,_⟩,_⟩=>by omega,fun _ _ _ _ _ _ _ _ _ _ _ _ _ ⟨ts,C,R,_,_,⟨d',e,_⟩,_⟩=>by omega⟩
   |succ d' =>
    have:=ih d' rfl
    have e:(fun ts C Q=>∃d'',d'+1=d''+1/\kI d'' ts C Q)=kI d':=by
     funext ts C Q
     refine propext ⟨fun⟨d'',e,h⟩=>?_,fun h=>⟨d',rfl,h⟩⟩;cases Nat.succ.inj e;exact h
    rw[e];exact this
  refine(T.F 14 rfl).ok (fun ts C R h=>?_) fun cdv A outer s H E hr=>⟨_,(xQ (cs1 4 S.nd (cf (T.F 10 rfl) uQ hr (qQ (cv 0) (ca1 zQ))))
  (xQ (wX (cw_pt (cw_or (ct2 hX jX (cv 3) zQ) (cw_or1 (ct2 kM jG (cv 4) zQ)))) (kQ (bQ (cf (T.F 13 rfl) wU hr (qQ (cv 0) (qQ (cv 1) (ca1 (cv 2))))))) qX)
  (xQ (cs1 5 S.nd (cx (gX (qQ vQ (qQ vQ (qQ vQ (ca1 vQ))))) (rQ xV pJ (cv 4) zQ)))
  (xQ (cs1 6 S.nd (cx (gX (qQ zQ (ca1 zQ))) (eX hU iD rfl T.vS rfl (ca1 (zU hX jX (cv 5) vQ (oY _))))))
  (kQ (bQ (rQ oQ tQ (mQ (ca1 (cv 5))) (ctp T.qZ (eK rfl (S.c (by decide +kernel)) (S.k rfl rfl rfl (by decide +kernel)) (nP rfl T.gV (ca1 (cv 6))) (fun _ _ _ _ _=>xJ) (fun _ _ _ _ _=>(cf (T.F 14 rfl) dJ hr (qQ (cv 1) (qQ (cv 2) (qQ (cv 3) (ca1 (rQ xV pJ (cv 4) zQ)))))))))))))))),?_⟩
  .obtain ⟨t,k,τ,ns,κ,rfl,_⟩:=h; rfl
  rintro ts C R ⟨t,k,τ,ns,κ,rfl,hT,hk,hτ,q⟩;refine⟨t,8,ns,rfl,hT,by decide,by decide,fun v C1 v0 v1 T1 e1=>?_⟩
  try dsimp only
  have hk1:=hk.ex e1
  have leaf:∀E':K1,E'=R->gLeaf [.ref t,.ref k,.tup (τ.map PV.str)] C1 E':=by
   rintro E' rfl;exact⟨t,k,τ,ns,κ,rfl,T1,hk1,hτ,fun r C2 hr T2 e2=>q r C2 (hr.mono (Nat.zero_le _)) T2 (e1.trans e2)⟩
  refine aQ (fun ρ' C'=>C'=C1/\0 < n/\4<=v/\ρ'=[some (.ref t),some (.ref k),some (.tup (τ.map PV.str)),some (.int (n:Nat)),some (.int v),none,none]) (fun L hL=>?_) ?_
  .refine yX (zZ _ _) ?_
   refine pZ (fun hb=>?_) fun hb=>?_
   .refine JX rfl ?_
    exact leaf _ rfl
   .refine i_i ?_
    refine pZ (fun hb2=>?_) fun hb2=>?_
    .exact leaf _ rfl
    .refine bX ?_
     have:=of_decide_eq_false hb;have:=of_decide_eq_false hb2;exact hL _ _ ⟨rfl,by omega,by omega,rfl⟩
  rintro ρ' C' ⟨rfl,hn,hv,rfl⟩
  try dsimp only
  obtain⟨d',rfl⟩:∃d',n=d'+1:=⟨n - 1,by omega⟩
  have fin:∀(wd:Str) (m:Nat) (C2:CH),(m=2/\(wd = "add"\/wd = "times"\/wd = "less"))\/(m=3/\wd = "pick")->Tp C2 t ns->Ex t C C2 ->
    ∀(c:TCE) (ρ:CSt) (Q:K1),(∀x C3 (L:K1),Tp C3 t ns->Ex t C C3->(∀r C4,Rk.ok κ.bs τ d' r->Tp C4 t ns->Ex t C C4->L r.pv C4)->c (some x::ρ) C3 L)->(∀(p:Addr) (rs:List Rk) (C3:CH),Tp C3 t ns->Ex t C C3->C3 p=some (.lst (rs.map Rk.pv))->(∃r:Rk,r.ok κ.bs τ (d'+1)/\r.pv=.tup (.str wd::rs.map Rk.pv)/\rs.length<=3)->Q (.ref p) C3) ->
    wZ aU c ρ Q (rngP m) [] C2:=by
   intro wd m C2 hw T2 e2 c ρ Q step fin;refine tJ (fun zs acc C3=>Tp C3 t ns/\Ex t C C3/\∃rs:List Rk,acc=rs.map Rk.pv/\rs.length+zs.length=m/\∀r∈rs,Rk.ok κ.bs τ d' r) ?_ ?_ _ _ _ ⟨T2,e2,[],rfl,by rw[ZC]; exact Nat.zero_add _,fun r hr=>nomatch hr⟩
   .rintro x r acc C3 ⟨T3,e3,rs,rfl,hl,ho⟩ L hL
    refine step x C3 L T3 e3 fun r4 C4 ok4 T4 e4=>hL _ _ ⟨?_,T4,e4,rs++[r4],by rw[List.map_append]; rfl,by rw[List.length_append,List.length_singleton]; rw[List.length_cons] at hl; omega,fun r hr=>?_⟩
    .rw [List.length_map]
     exact Nat.lt_of_lt_of_le (show rs.length < 4 by omega) (by decide)
    .rcases List.mem_append.1 hr with hr | hr
     .exact ho r hr
     .cases List.mem_singleton.1 hr; exact ok4
   .rintro acc C3 ⟨T3,e3,rs,rfl,hl,ho⟩ p hp
    refine fin p rs _ (T3.new hp _) (e3.trans (Ex.new hp _)) jQ ?_;rw[List.length_nil,Nat.add_zero] at hl
    rcases hw with ⟨rfl,hw⟩ | ⟨rfl,hw⟩
    .match rs,hl with
     |[x,y],_=>exact⟨.bin wd x y,by unfold Rk.ok; exact⟨hw,ho x (by simp),ho y (by simp)⟩,rfl,by show 2<=3; decide⟩
    .match rs,hl with
     |[x,y,z],_=>exact⟨.pick x y z,by unfold Rk.ok; exact⟨ho x (by simp),ho y (by simp),ho z (by simp)⟩,by rw[hw]; rfl,by show 3<=3; decide⟩
  refine yQ ?_;refine⟨by decide,fun p hp=>?_⟩;refine i_i ?_;have T2:=T1.new hp (.lst [PV.str "add",PV.str "times",PV.str "less",PV.str "pick"]);have e2:=e1.trans (Ex.new hp (.lst [PV.str "add",PV.str "times",PV.str "less",PV.str "pick"]));have cases4:v=4\/v=5\/v=6\/v=7:=by omega
  obtain⟨wd,m,hat,hw⟩:∃(wd:Str) (m:Nat),atI ([PV.str "add",PV.str "times",PV.str "less",PV.str "pick"]) (v - 4)=some (.str wd)/\((m=2/\(wd = "add"\/wd = "times"\/wd = "less"))\/(m=3/\wd = "pick")):=by
   rcases cases4 with rfl | rfl | rfl | rfl
   .exact ⟨"add",2,rfl,.inl ⟨rfl,.inl rfl⟩⟩
   .exact ⟨"times",2,rfl,.inl ⟨rfl,.inr (.inl rfl)⟩⟩
   .exact ⟨"less",2,rfl,.inl ⟨rfl,.inr (.inr rfl)⟩⟩
   .exact ⟨"pick",3,rfl,.inr ⟨rfl,rfl⟩⟩
  refine sX jQ hat ?_
  try dsimp only
  refine yQ ?_;refine⟨by decide,fun p2 hp2=>?_⟩;refine yX (pQ _ _) ?_;refine QG ?_
  have hat2:atI [PV.int 2,PV.int 3] (if decide (wd = "pick") then 1 else 0)=some (.int (m:Nat)):=by
   rcases hw with ⟨rfl,hw⟩ | ⟨rfl,rfl⟩
   .have:¬ wd = "pick":=by rcases hw with rfl | rfl | rfl<;>decide
    rw[decide_eq_false this]; rfl
   .rfl
  refine sX jQ hat2 ?_
  try dsimp only
  refine⟨by show 1<=sizeLine; decide,?_⟩;have hm:m<=3:=by rcases hw with ⟨rfl,_⟩ | ⟨rfl,_⟩<;>decide
  refine⟨by omega,by omega,?_⟩;refine fin wd m _ hw (T2.new hp2 _) (e2.trans (Ex.new hp2 _)) _ _ _ (fun x C3 L T3 e3 hL=>?_) fun p3 rs C3 T3 e3 m3 hr=>?_
  .refine i_i ?_
   refine⟨d',rfl,t,k,τ,ns,κ,?_,T3,hk.ex e3,hτ,fun r C4 ok4 T4 e4=>hL r C4 ok4 T4 (e3.trans e4)⟩;have:((d'+1:Nat):Int) - 1=(d':Nat):=by omega
   rw[this]
  .obtain ⟨r,ok,ep,lr⟩:=hr
   refine rJ m3 ?_;refine kU (by show 1+_<=sizeLine; rw[List.length_map]; exact Nat.le_trans (show 1+rs.length<=4 by omega) (by decide)) ?_;have:=q r C3 ok T3 e3;rw[ep] at this;exact this
 induction d with
 |zero=>exact main 0 fun d' e=>by omega
 |succ d ih=>exact main (d+1) fun d' e=>by cases Nat.succ.inj e; exact ih
end
def tU:Option Rk->PV
 |none=>.non
 |some r=>r.pv
def eC (bs τ:List Str):Option Rk->Prop
 |none=>True
 |some r=>r.ok bs τ 0
def eV (c:Str×Rk):PV:=.tup [.str c.1,c.2.pv]
def pH (bs τ:List Str)(d:Nat)(ps:List (Str×Rk)):Prop:=∀c∈ps,c.2.ok bs τ d
theorem at_last {τ:List Str}(h:0 < τ.length):∃s∈τ,atI (τ.map PV.str) (-1)=some (.str s):=by
 unfold atI ixN;rw[if_neg (by decide),List.length_map,if_pos (by omega)];have:((τ.length:Int) + -1).toNat < τ.length:=by omega
 refine⟨τ[((τ.length:Int) + -1).toNat],List.getElem_mem _,?_⟩;show(τ.map PV.str)[((τ.length:Int) + -1).toNat]?=_;rw[List.getElem?_map,List.getElem?_eq_getElem this]
 rfl
theorem cl_l {t:TCT}{c:TCE}{i:Nat}{a:Addr}{xs:List PV}{ρ:CSt}{C:CH}{Q:K1}(h:C a=some (.lst xs))(hv:ρ[i]?=some (some (.ref a)))(q:jU (fun C=>C a=some (.lst xs)) t c ρ Q xs [] C):aP (oZ i) t c ρ C Q:=by
 unfold aP oZ;rw[hv];dsimp only;rw[h];exact q
theorem xG {β:Type}{c:TCE}{ρ:CSt}{Q:K1}{p:Addr}{ss:List Str}(mk:Str×β->PV)(ok:β->Prop)(J:CH->Prop)(hJ:∀C,J C->C p=some (.lst (ss.map PV.str)))(hl:ss.length<=1000)
  (step:∀z C (L:K1),J C->(∀b C',ok b->J C'->L (mk (z,b)) C')->c (some (.str z)::ρ) C L)
  (fin:∀(bs:List (Str×β)) C p',J C->C p'=none->bs.map (·.1)=ss->(∀x∈bs,ok x.2)->Q (.ref p') (gQ C p' (.lst (bs.map mk)))) {C:CH} (hC:J C) :
  jU (fun C=>C p=some (.lst (ss.map PV.str))) aU c ρ Q (ss.map PV.str) [] C:=by
 refine XX (fun zs acc C=>J C/\∃(bs:List (Str×β)) (us:List Str),zs=us.map PV.str/\acc=bs.map mk/\bs.map (·.1)++us=ss/\∀x∈bs,ok x.2) (fun _ _ _ h=>hJ _ h.1) ?_ ?_ _ _ _ ⟨hC,[],ss,rfl,rfl,rfl,fun x h=>nomatch h⟩
 .rintro x r acc C1 ⟨j1,bs,us,hz,rfl,e,o⟩ L hL
  cases us with
  |nil=>cases hz
  |cons u us =>
   obtain⟨rfl,rfl⟩:=List.cons.inj hz;refine step u C1 L j1 fun b C' ob j'=>hL _ _ ⟨?_,j',bs++[(u,b)],us,rfl,by rw[List.map_append]; rfl,by rw[List.map_append,List.append_assoc]; exact e,fun x hx=>?_⟩
   .have:=congrArg List.length e
    rw[List.length_append,List.length_map,List.length_cons] at this;rw[List.length_map];exact Nat.lt_of_lt_of_le (show bs.length < 1001 by omega) (by decide)
   .rcases List.mem_append.1 hx with hx | hx
    .exact o x hx
    .cases List.mem_singleton.1 hx; exact ob
 .rintro acc C1 ⟨j1,bs,us,hz,rfl,e,o⟩ p' hp
  cases us with
  |nil=>rw[List.append_nil] at e; exact fin bs C1 p' j1 hp e o
  |cons u us=>cases hz
section
variable {P:Program}{w:World}{K:PySem.W.Frag}{mg:Str->Option Value}{base:Heap}{a:Adr}
def gKey:GC:=fun ts C Q=>∃(t k:Addr) (τ:List Str) (ns:List Int) (κ:Kt),ts=[.ref t,.ref k,.tup (τ.map PV.str)]/\Tp C t ns/\KAt C t k κ/\τ.length<=4/\∀(o:Option Rk) (C':CH),eC κ.bs τ o->Tp C' t ns->Ex t C C'->Q (tU o) C'
theorem kA (T:Txt P w K mg a):FnOk P w K mg base CX0 4 (a.f 15) (a.d 15) U1 (spC K gKey):=by
 have S:=(T.F 15 rfl).s;have uQ:=(rZ (base:=base) T).mono (show 1<=3 by decide);have wU:=lC (base:=base) T
 refine(T.F 15 rfl).ok (fun ts C R h=>?_) fun cdv A outer s H E hr=>⟨_,(xQ (cs1 3 S.nd (cf (T.F 10 rfl) uQ hr (qQ (cv 0) (ca1 zQ))))
  (xQ (wX (ct2 kM jG (cv 3) zQ) (kQ (bQ qU)) qX)
  (xQ (wX (cw_pt (cw_and (ct2 hX jX (cv 3) zQ) (cw_and1 (ct2 jK sZ (cln T.bJ (cv 2)) zQ)))) (kQ (bQ (mQ (qQ vQ (ca1 (cx (cv 2) (tO mL gM zQ))))))) qX)
  (kQ (bQ (cf (T.F 13 rfl) wU hr (qQ (cv 0) (qQ (cv 1) (ca1 (cv 2)))))))))),?_⟩
 .obtain ⟨t,k,τ,ns,κ,rfl,_⟩:=h; rfl
 rintro ts C R ⟨t,k,τ,ns,κ,rfl,hT,hk,hτ,q⟩;refine⟨t,4,ns,rfl,hT,by decide,by decide,fun v C1 v0 v1 T1 e1=>?_⟩
 try dsimp only
 have hk1:=hk.ex e1;refine xZ ?_;refine i_i ?_;refine pZ (fun hb=>?_) fun hb=>?_
 .exact q none C1 trivial T1 e1
 refine bX ?_
 try dsimp only
 refine aQ (fun ρ' C'=>C'=C1/\ρ'=[some (.ref t),some (.ref k),some (.tup (τ.map PV.str)),some (.int v)]) (fun L hL=>?_) ?_
 .refine yX (zZ _ _) ?_
  refine pZ (fun hb=>?_) fun hb=>?_
  .refine uN ?_
   refine i_i ?_;refine pZ (fun hb2=>?_) fun hb2=>?_
   .rw [List.length_map] at hb2
    have hb3:=of_decide_eq_true hb2;obtain⟨s,hs,es⟩:=at_last (τ:=τ) (by omega);refine cX es ?_;refine⟨by show 2<=sizeLine; decide,?_⟩;exact q (some (.turn s)) C1 hs T1 e1
   .refine bX ?_
    exact hL _ _ ⟨rfl,rfl⟩
  .refine eU rfl ?_
   refine bX ?_;exact hL _ _ ⟨rfl,rfl⟩
 rintro ρ' C' ⟨rfl,rfl⟩
 try dsimp only
 exact⟨t,k,τ,ns,κ,rfl,T1,hk1,hτ,fun r C2 hr T2 e2=>q (some r) C2 hr T2 (e1.trans e2)⟩
def gPairs:GC:=fun ts C Q=>∃(t k:Addr) (τ:List Str) (ns:List Int) (κ:Kt),ts=[.ref t,.ref k,.tup (τ.map PV.str),.int 2]/\Tp C t ns/\KAt C t k κ/\τ.length<=4/\∀(ps:List (Str×Rk)) (C':CH),pH κ.bs τ 2 ps->(ps.length<=4/\∀c∈ps,c.1.length<=8)->Tp C' t ns->Ex t C C'->Q (.tup (ps.map eV)) C'
theorem Ja (T:Txt P w K mg a):FnOk P w K mg base CX0 7 (a.f 16) (a.d 16) U10 (spC K gPairs):=by
 have S:=(T.F 16 rfl).s;have uQ:=(rZ (base:=base) T).mono (show 1<=6 by decide);have tZ:=(nG (base:=base) T).mono (show 2<=6 by decide);have dJ:=zP (base:=base) T 2
 refine(T.F 16 rfl).ok (fun ts C R h=>?_) fun cdv A outer s H E hr=>⟨_,(xQ (cs1 4 S.nd (cf (T.F 11 rfl) tZ hr (qQ (cv 0) (ca1 (cf (T.F 10 rfl) uQ hr (qQ (cv 0) (ca1 (rQ oQ tQ (cv 3) zQ))))))))
  (kQ (bQ (ctp T.qZ (fM rfl (S.c (by decide +kernel)) (S.k rfl rfl rfl (by decide +kernel)) (cv 4) (fun _ _ _ _ _=>xJ) (fun _ _ _ _ _=>(mQ (qQ (cv 0) (ca1 (cf (T.F 14 rfl) dJ hr (qQ (cv 1) (qQ (cv 2) (qQ (cv 3) (ca1 zQ)))))))))))))),?_⟩
 .obtain ⟨t,k,τ,ns,κ,rfl,_⟩:=h; rfl
 rintro ts C R ⟨t,k,τ,ns,κ,rfl,hT,hk,hτ,q⟩;refine uW ?_;refine⟨t,3,ns,rfl,hT,by decide,by decide,fun v C1 v0 v1 T1 e1=>?_⟩;refine⟨t,v,ns,rfl,T1,v0,by omega,fun p ss C2 m2 n2 pt hl nd T2 e2=>?_⟩
 try dsimp only
 refine cl_l m2 rfl ?_;refine xG (β:=Rk) eV (fun r=>r.ok κ.bs τ 2) (fun C'=>Tp C' t ns/\Ex t C C'/\C' p=some (.lst (ss.map PV.str))) (fun _ h=>h.2.2) (by omega) (fun z C3 L ⟨T3,e3,m3⟩ hL=>?_) (fun bs C3 p3 ⟨T3,e3,m3⟩ hp3 hb ho=>?_) ⟨T2,e1.trans e2,m2⟩
 .refine ⟨t,k,τ,ns,κ,rfl,T3,hk.ex e3,hτ,fun r C4 hr T4 e4=>⟨by show 2<=sizeLine; decide,hL r C4 hr ⟨T4,e3.trans e4,e4 _ _ pt m3⟩⟩⟩
 .refine rJ jQ ?_
  exact q bs _ ho ⟨by have:=congrArg List.length hb; rw[List.length_map] at this; omega,fun c hc=>nd.2 c.1 (by rw[<- hb]; exact List.mem_map.2 ⟨c,hc,rfl⟩)⟩ (T3.new hp3 _) (e3.trans (Ex.new hp3 _))
end
structure Hd where
 ev:Str
 rank:Int
 last:Bool
 ch:List (Str×Str×Rk)
def Kx (c:Str×Str×Rk):PV:=.tup [.str c.1,.str c.2.1,c.2.2.pv]
def Hd.pv (h:Hd):PV:=.tup [.str h.ev,.int h.rank,.bl h.last,.tup (h.ch.map Kx)]
def Hd.ok (bs τ:List Str)(h:Hd):Prop:=(h.ch.length<=4/\h.ev.length<=8)/\∀c∈h.ch,c.2.2.ok bs τ 1
theorem Ex.put {t:Addr}{C C1:CH}{p:Addr}(g:Ex t C C1)(hp:C p=none)(o:CO):Ex t C (gQ C1 p o):=fun b u n e=>by
 rw[wQ (fun z=>by subst z; rw[hp] at e; cases e)];exact g b u n e
theorem Tp.put {C:CH}{t p:Addr}{ns:List Int}(h:Tp C t ns)(hp:p≠t)(o:CO):Tp (gQ C p o) t ns:=by
 obtain⟨⟨a,b,c,e,r⟩,l⟩:=h;exact⟨⟨a,b,c,by rw[wQ (Ne.symm hp)]; exact e,r⟩,l⟩
theorem Ex.none {t:Addr}{C C':CH}{p:Addr}(g:Ex t C C')(n:p≠t)(h:C' p=none):C p=none:=by
 cases e:C p with
 |none=>rfl
 |some o=>rw[g p o n e] at h; cases h
theorem zY {b:Addr}{xs:List PV}{g:TCG}{u:TCS}{E:sW}(I:Nat->CSt->CH->Prop)(hm:∀i ρ C,I i ρ C->C b=some (.lst xs))(step:∀i x ρ C,xs[i]?=some x->I i ρ C->∀L:CSt->CH->Prop,(∀ρ' C',I (i+1) ρ' C'->L ρ' C')->g x ρ C fun ρ1 C1=>u { nx:=L,ct:=L,bk:=E.nx,rt:=E.rt } ρ1 C1)(fin:∀ρ C,I xs.length ρ C->E.nx ρ C):
  ∀n i ρ C,I i ρ C->i+n=xs.length+1->i<=xs.length->vG b g u E n i ρ C:=by
 intro n
 induction n with
 |zero=>intro i ρ C h h1 h2; omega
 |succ n ih =>
  intro i ρ C h h1 h2;unfold vG;rw[hm i ρ C h];dsimp only
  cases e:xs[i]? with
  |none =>
   have:xs.length<=i:=List.getElem?_eq_none_iff.1 e;have:i=xs.length:=by omega
   subst this;exact fin ρ C h
  |some x =>
   have hi:i < xs.length:=(List.getElem?_eq_some_iff.1 e).1;exact step i x ρ C e h _ fun ρ' C' h'=>ih (i+1) ρ' C' h' (by omega) (by omega)
theorem sl_l {b:Addr}{xs:List PV}{lo hi:Option Int}{C:CH}{Q:K1}(h:C b=some (.lst xs))(q:∀p,C p=none->Q (.ref p) (gQ C p (.lst (gD xs lo hi)))):cSlL (.ref b) lo hi C Q:=by
 unfold cSlL;dsimp only;rw[h];exact q
theorem cut_two (v:Int)(h0:0<=v)(h1:v < 3):gD [PV.str "tap",PV.str "key"] none (some v)=((["tap","key"]:List Str).take v.toNat).map PV.str:=by
 have:v=0\/v=1\/v=2:=by omega
 rcases this with rfl | rfl | rfl<;>rfl
section
variable {P:Program}{w:World}{K:PySem.W.Frag}{mg:Str->Option Value}{base:Heap}{a:Adr}
def gHands:GC:=fun ts C Q=>∃(t k:Addr) (τ:List Str) (ns:List Int) (κ:Kt),ts=[.ref t,.ref k,.tup (τ.map PV.str)]/\Tp C t ns/\KAt C t k κ/\τ.length<=4/\∀(hs:List Hd) (C':CH),(∀h∈hs,h.ok κ.bs τ)->hs.length<=4->Tp C' t ns->Ex t C C'->Q (.tup (hs.map Hd.pv)) C'
theorem Jg (T:Txt P w K mg a):FnOk P w K mg base CX0 6 (a.f 17) (a.d 17) U1 (spC K gHands):=by
 have S:=(T.F 17 rfl).s;have uQ:=(rZ (base:=base) T).mono (show 1<=5 by decide);have dJ:=zP (base:=base) T 1
 refine(T.F 17 rfl).ok (fun ts C R h=>?_) fun cdv A outer s H E hr=>⟨_,(xQ (cs1 3 S.nd (gX iX))
  (xQ (dU PassesOwn.never rfl (pI (gX (qQ vQ (ca1 vQ))) mM (bM (cf (T.F 10 rfl) uQ hr (qQ (cv 0) (ca1 zQ))))) (cg1 4 S.nd) (xQ (cs1 5 S.nd (gX iX))
  (xQ (wX (ct2 jK sZ (cln T.bJ (fZ (tX hr) (cv 1) vQ (fun _ _=>rfl))) zQ) (kQ (nD PassesOwn.never rfl rfl T.gV (ca1 (cf (T.F 10 rfl) uQ hr (qQ (cv 0) (ca1 zQ)))) (cg1 6 S.nd) (xQ (cs1 7 S.nd (cx (fZ (tX hr) (cv 1) vQ (fun _ _=>rfl)) (cf (T.F 10 rfl) uQ hr (qQ (cv 0) (ca1 (cln T.bJ (fZ (tX hr) (cv 1) vQ (fun _ _=>rfl))))))))
  (xQ (cs1 8 S.nd (cx (gX (qQ vQ (qQ vQ (ca1 vQ)))) (cf (T.F 10 rfl) uQ hr (qQ (cv 0) (ca1 zQ)))))
  (kQ (vZ (cap (cv 5) (mQ (qQ (cv 7) (qQ (cv 8) (ca1 (cf (T.F 14 rfl) dJ hr (qQ (cv 0) (qQ (cv 1) (qQ (cv 2) (ca1 zQ)))))))))))))))) qX)
  (kQ (vZ (cap (cv 3) (mQ (qQ (cv 4) (qQ (rQ oQ tQ zQ (cf (T.F 10 rfl) uQ hr (qQ (cv 0) (ca1 zQ)))) (qQ (zU hX jX (cf (T.F 10 rfl) uQ hr (qQ (cv 0) (ca1 zQ))) zQ (oY _)) (ca1 (ctp T.qZ (cv 5)))))))))))))
  (kQ (bQ (ctp T.qZ (cv 3)))))),?_⟩
 .obtain ⟨t,k,τ,ns,κ,rfl,_⟩:=h; rfl
 rintro ts C R ⟨t,k,τ,ns,κ,rfl,hT,hk,hτ,q⟩;refine yQ ?_;refine⟨by show 0<=sizeLine; decide,fun h hh=>?_⟩;have nht:=hT.ne hh
 try dsimp only
 refine aQ (fun ρ' C'=>∃(hs:List Hd) (x4 x5 x6 x7 x8:Option PV),ρ'=[some (.ref t),some (.ref k),some (.tup (τ.map PV.str)),some (.ref h),x4,x5,x6,x7,x8]/\C' h=some (.lst (hs.map Hd.pv))/\hs.length<=2/\(∀h∈hs,h.ok κ.bs τ)/\Tp C' t ns/\Ex t C C') (fun L hL=>?_) ?_
 .refine ⟨by show 2<=sizeLine; decide,fun p1 hp1=>?_⟩
  have T1:=(hT.new hh (.lst [])).new hp1 (.lst [PV.str "tap",PV.str "key"]);refine⟨t,3,ns,rfl,T1,by decide,by decide,fun v C2 v0 v1 T2 e2=>?_⟩;have np1:p1≠t:=(hT.new hh (.lst [])).ne hp1;have m2:C2 p1=_:=e2 p1 _ np1 jQ;have nhp:h≠p1:=fun z=>by subst z; rw[jQ] at hp1; cases hp1
  have mh2:C2 h=some (.lst []):=e2 h _ nht (by rw[wQ nhp]; exact jQ);refine sl_l m2 fun p2 hp2=>?_;rw[cut_two v v0 v1];have np2:p2≠t:=T2.ne hp2;have nhp2:h≠p2:=fun z=>by subst z; rw[hp2] at mh2; cases mh2
  have e02:Ex t C C2:=fun b o n e=>e2 b o n (Gr.new hp1 _ _ _ (Gr.new hh _ _ _ e));generalize hss:(["tap","key"]:List Str).take v.toNat=ss;have hsl:ss.length<=2:=by rw[<- hss,List.length_take]; exact Nat.min_le_right _ _
  refine⟨ss.length+1,?_⟩;refine zY (xs:=ss.map PV.str) (fun i ρ C'=>C' p2=some (.lst (ss.map PV.str))/\∃(hs:List Hd) (x4 x5 x6 x7 x8:Option PV),ρ=[some (.ref t),some (.ref k),some (.tup (τ.map PV.str)),some (.ref h),x4,x5,x6,x7,x8]/\C' h=some (.lst (hs.map Hd.pv))/\hs.length=i/\i<=ss.length/\(∀h∈hs,h.ok κ.bs τ)/\Tp C' t ns/\Ex t C C') (fun _ _ _ h=>h.1) ?_ ?_ _ 0 _ _ ⟨jQ,[],_,_,_,_,_,rfl,?_,rfl,Nat.zero_le _,(fun _ z=>nomatch z),T2.new hp2 _,e02.trans (Ex.new hp2 _)⟩ (by rw[List.length_map]; omega) (Nat.zero_le _)
  .rintro i x ρ C3 hx ⟨m3,hs,x4,x5,x6,x7,x8,rfl,mh,hl,hi,ho,T3,e3⟩ L1 hL1
   have hx':∃z:Str,x=.str z/\z.length<=8:=by
    rw[List.getElem?_map] at hx
    cases z:ss[i]? with
    |none=>rw[z] at hx; cases hx
    |some u =>
     rw[z] at hx;cases hx;refine⟨u,rfl,?_⟩;have hm:=List.mem_of_getElem? z;rw[<- hss] at hm;have hm:=List.mem_of_mem_take hm
     simp only[List.mem_cons,List.not_mem_nil,or_false] at hm
     rcases hm with rfl | rfl<;>decide +kernel
   have hi':i < ss.length:=by
    have:=(List.getElem?_eq_some_iff.1 hx).1;rw[List.length_map] at this;exact this
   obtain⟨ev,rfl,hev⟩:=hx';refine yQ ?_;refine⟨by show 0<=sizeLine; decide,fun c hc=>?_⟩;have nct:=T3.ne hc;have nch:c≠h:=fun z=>by subst z; rw[mh] at hc; cases hc
   have ncp:c≠p2:=fun z=>by subst z; rw[m3] at hc; cases hc
   have hc0:C c=none:=e3.none nct hc
   try dsimp only
   refine aQ (fun ρ' C'=>∃(cs:List (Str×Str×Rk)) (x6 x7 x8:Option PV),ρ'=[some (.ref t),some (.ref k),some (.tup (τ.map PV.str)),some (.ref h),some (.str ev),some (.ref c),x6,x7,x8]/\C' c=some (.lst (cs.map Kx))/\cs.length<=2/\(∀c∈cs,c.2.2.ok κ.bs τ 1)/\C' h=some (.lst (hs.map Hd.pv))/\C' p2=some (.lst (ss.map PV.str))/\Tp C' t ns/\Ex t C C') (fun L2 hL2=>?_) ?_
   .have k3:=hk.ex (e3.put hc0 (.lst []))
    refine oJ k3.at_ rfl rV ?_;refine oG k3.bx ?_;refine i_i ?_;have T3':=T3.new hc (.lst []);have e3':Ex t C (gQ C3 c (.lst [])):=e3.put hc0 _;have mh':gQ C3 c (.lst []) h=some (.lst (hs.map Hd.pv)):=by rw[wQ (Ne.symm nch)]; exact mh
    have mp':gQ C3 c (.lst []) p2=some (.lst (ss.map PV.str)):=by rw[wQ (Ne.symm ncp)]; exact m3
    refine pZ (fun hb=>?_) fun hb=>?_
    .rw [List.length_map] at hb
     have hb3:=of_decide_eq_true hb;refine⟨t,3,ns,rfl,T3',by decide,by decide,fun n C4 n0 n1 T4 e4=>?_⟩;refine⟨by omega,by omega,?_⟩;refine yZ (fun zs ρ C'=>∃(cs:List (Str×Str×Rk)) (x6 x7 x8:Option PV),ρ=[some (.ref t),some (.ref k),some (.tup (τ.map PV.str)),some (.ref h),some (.str ev),some (.ref c),x6,x7,x8]/\C' c=some (.lst (cs.map Kx))/\cs.length+zs.length<=2/\(∀c∈cs,c.2.2.ok κ.bs τ 1)/\C' h=some (.lst (hs.map Hd.pv))/\C' p2=some (.lst (ss.map PV.str))/\Tp C' t ns/\Ex t C C') ?_ ?_ _ _ _ ⟨[],_,_,_,rfl,e4 _ _ nct jQ,by rw[List.length_map,List.length_range]; show 0+_<=2; omega,(fun _ z=>nomatch z),e4 _ _ nht mh',e4 _ _ np2 mp',T4,e3'.trans e4⟩
     .rintro z zs ρ C5 ⟨cs,y6,y7,y8,rfl,mc,hcl,hco,mh5,mp5,T5,e5⟩ L3 hL3
      have k5:=hk.ex e5;refine yQ ?_;refine oJ k5.at_ rfl rV ?_;refine oJ k5.at_ rfl rV ?_;refine oG k5.bx ?_;have lb:=hk.lb;rw[List.length_map];refine⟨t,_,ns,rfl,T5,hb3,by omega,fun i C6 i0 i1 T6 e6=>?_⟩;refine sX ((k5.ex e6).bx) (yK (f:=PV.str) "" i0 i1) ?_
      try dsimp only
      refine yQ ?_;refine⟨by show 3<=sizeLine; decide,fun p4 hp4=>?_⟩;refine⟨t,3,ns,rfl,T6.new hp4 _,by decide,by decide,fun j C7 j0 j1 T7 e7=>?_⟩;refine sX (e7 p4 _ (T6.ne hp4) jQ) (yK (f:=PV.str) (ss:=["set","add","times"]) "" j0 j1) ?_;have e67:Ex t C6 C7:=(Ex.new hp4 _).trans e7;have e57:Ex t C5 C7:=e6.trans e67
      try dsimp only
      refine⟨cW (e57 _ _ nct mc),?_⟩;refine⟨t,k,τ,ns,κ,rfl,T7,k5.ex e57,hτ,fun r C8 hr T8 e8=>⟨by show 3<=sizeLine; decide,?_⟩⟩;have e58:Ex t C5 C8:=e57.trans e8;refine xU (e58 _ _ nct mc) (by rw[List.length_map]; exact Nat.lt_of_lt_of_le (show cs.length < 3 by rw[List.length_cons] at hcl; omega) (by decide)) ?_;refine hL3 _ _ ⟨cs++[(_,_,r)],_,_,_,rfl,by rw[jQ,List.map_append]; rfl,by rw[List.length_append,List.length_singleton]; rw[List.length_cons] at hcl; omega,fun c' hc'=>?_,?_,?_,T8.put nct _,(e5.trans e58).put hc0 _⟩
      .rcases List.mem_append.1 hc' with hc' | hc'
       .exact hco c' hc'
       .cases List.mem_singleton.1 hc'; exact hr
      .rw [wQ (Ne.symm nch)]; exact e58 _ _ nht mh5
      .rw [wQ (Ne.symm ncp)]; exact e58 _ _ np2 mp5
     .rintro ρ C5 ⟨cs,y6,y7,y8,rfl,mc,hcl,hco,mh5,mp5,T5,e5⟩
      exact hL2 _ _ ⟨cs,_,_,_,rfl,mc,by omega,hco,mh5,mp5,T5,e5⟩
    .refine bX ?_
     exact hL2 _ _ ⟨[],_,_,_,rfl,jQ,Nat.zero_le _,(fun _ z=>nomatch z),mh',mp',T3',e3'⟩
   rintro ρ' C4 ⟨cs,y6,y7,y8,rfl,mc,hcl,hco,mh4,mp4,T4,e4⟩
   try dsimp only
   refine⟨cW mh4,?_⟩;refine⟨t,3,ns,rfl,T4,by decide,by decide,fun rk C5 r0 r1 T5 e5=>?_⟩;refine uW ?_;refine⟨t,2,ns,rfl,T5,by decide,by decide,fun z C6 z0 z1 T6 e6=>?_⟩;refine yX (zZ _ _) ?_;have e46:=e5.trans e6;refine rJ (e46 _ _ nct mc) ?_;refine⟨by show 4<=sizeLine; decide,?_⟩;refine xU (e46 _ _ nht mh4) (by rw[List.length_map]; exact Nat.lt_of_lt_of_le (show hs.length < 3 by omega) (by decide)) ?_
   refine hL1 _ _ ⟨by rw[wQ (Ne.symm nhp2)]; exact e46 _ _ np2 mp4,hs++[⟨ev,1+rk,decide (z=0),cs⟩],_,_,_,_,_,rfl,by rw[jQ,List.map_append]; rfl,by rw[List.length_append,List.length_singleton,hl],hi',fun h' hh'=>?_,T6.put nht _,(e4.trans e46).put hh _⟩
   rcases List.mem_append.1 hh' with hh' | hh'
   .exact ho h' hh'
   .cases List.mem_singleton.1 hh'; exact⟨⟨by show cs.length<=4; omega,hev⟩,hco⟩
  .rintro ρ C3 ⟨m3,hs,x4,x5,x6,x7,x8,rfl,mh,hl,hi,ho,T3,e3⟩
   exact hL _ _ ⟨hs,_,_,_,_,_,rfl,mh,by omega,ho,T3,e3⟩
  .rw [wQ nhp2]; exact mh2
 rintro ρ' C' ⟨hs,x4,x5,x6,x7,x8,rfl,mh,hl,ho,T',e'⟩
 try dsimp only
 refine rJ mh ?_;exact q hs C' ho (by omega) T' e'
end
inductive Ln where
 |plain (k:Option Rk) (tag:Str) (sets:List (Str×Rk)) (hands:List Hd) (ls:List Ln)
 |part (k:Option Rk) (name:Str) (gives:List (Str×Rk))
 |give (k:Option Rk) (name:Str) (r:Rk) (ls:List Ln)
 |when (r:Rk) (l1 l2:List Ln)
 |each (name:Str) (r:Rk) (ls:List Ln)
mutual
def Ln.pv:Ln->PV
 |.plain k tag s h ls=>.tup [.str "plain",tU k,.str tag,.tup (s.map eV),.tup (h.map Hd.pv),.tup (Ln.pvs ls)]
 |.part k n g=>.tup [.str "part",tU k,.str n,.tup (g.map eV)]
 |.give k n r ls=>.tup [.str "give",tU k,.str n,r.pv,.tup (Ln.pvs ls)]
 |.when r l1 l2=>.tup [.str "when",r.pv,.tup (Ln.pvs l1),.tup (Ln.pvs l2)]
 |.each n r ls=>.tup [.str "each",.str n,r.pv,.tup (Ln.pvs ls)]
def Ln.pvs:List Ln->List PV
 |[]=>[]
 |l::ls=>l.pv::Ln.pvs ls
end
theorem Ln.pvs_map (ls:List Ln):Ln.pvs ls=ls.map Ln.pv:=by
 induction ls with
 |nil=>rfl
 |cons l ls ih=>rw[List.map_cons,<- ih]; rfl
mutual
def Ln.tw:Ln->Nat
 |.plain _ _ _ _ ls=>1+Ln.tws ls
 |.part _ _ _=>1
 |.give _ _ _ ls=>1+Ln.tws ls
 |.when _ l1 l2=>Ln.tws l1+Ln.tws l2
 |.each _ _ ls=>8 * Ln.tws ls
def Ln.tws:List Ln->Nat
 |[]=>0
 |l::ls=>l.tw+Ln.tws ls
end
mutual
def Ln.pw:Ln->Nat
 |.plain _ _ _ _ ls=>Ln.pws ls
 |.part _ _ _=>1
 |.give _ _ _ ls=>Ln.pws ls
 |.when _ l1 l2=>Ln.pws l1+Ln.pws l2
 |.each _ _ ls=>8 * Ln.pws ls
def Ln.pws:List Ln->Nat
 |[]=>0
 |l::ls=>l.pw+Ln.pws ls
end
theorem Ln.tws_app (xs ys:List Ln):Ln.tws (xs++ys)=Ln.tws xs+Ln.tws ys:=by
 induction xs with
 |nil=>show _=0+_; rw[Nat.zero_add]; rfl
 |cons x xs ih=>show x.tw+Ln.tws (xs++ys)=x.tw+Ln.tws xs+Ln.tws ys; rw[ih]; omega
theorem Ln.pws_app (xs ys:List Ln):Ln.pws (xs++ys)=Ln.pws xs+Ln.pws ys:=by
 induction xs with
 |nil=>show _=0+_; rw[Nat.zero_add]; rfl
 |cons x xs ih=>show x.pw+Ln.pws (xs++ys)=x.pw+Ln.pws xs+Ln.pws ys; rw[ih]; omega
def LnOk (bs rs:List Str):Nat->List Str->Ln->Prop
 |0,_,_=>False
 |d+1,τ,.plain k t s h ls=>eC bs τ k/\(pH bs τ 2 s/\s.length<=4/\(∀c∈s,c.1.length<=8)/\t.length<=8)/\((∀x∈h,x.ok bs τ)/\h.length<=4)/\(∀x∈ls,LnOk bs rs d τ x)/\ls.length<=6
 |_+1,τ,.part k n g=>eC bs τ k/\n∈rs/\pH bs τ 1 g/\g.length<=4
 |d+1,τ,.give k n r ls=>eC bs τ k/\n∈(["a","ab","b"]:List Str)/\r.ok bs τ 1/\(∀x∈ls,LnOk bs rs d τ x)/\ls.length<=6
 |d+1,τ,.when r l1 l2=>r.ok bs τ 1/\((∀x∈l1,LnOk bs rs d τ x)/\l1.length<=6)/\(∀x∈l2,LnOk bs rs d τ x)/\l2.length<=6
 |d+1,_,.each n r ls=>r.ok bs [] 0/\(∀x∈ls,LnOk bs rs d [n] x)/\ls.length<=6
theorem LnOk.up {bs rs:List Str}:∀{d:Nat}{τ:List Str}{l:Ln},LnOk bs rs d τ l->LnOk bs rs (d+1) τ l:=by
 intro d
 induction d with
 |zero=>intro τ l h; exact h.elim
 |succ d ih =>
  intro τ l h
  cases l with
  |plain k t s hh ls=>obtain⟨h1,h2,h3,h4,h5⟩:=h; exact⟨h1,h2,h3,fun x hx=>ih (h4 x hx),h5⟩
  |part k n g=>exact h
  |give k n r ls=>obtain⟨h1,h2,h3,h4,h5⟩:=h; exact⟨h1,h2,h3,fun x hx=>ih (h4 x hx),h5⟩
  |when r l1 l2=>obtain⟨h1,⟨h2,h3⟩,h4,h5⟩:=h; exact⟨h1,⟨fun x hx=>ih (h2 x hx),h3⟩,fun x hx=>ih (h4 x hx),h5⟩
  |each n r ls=>obtain⟨h1,h2,h3⟩:=h; exact⟨h1,fun x hx=>ih (h2 x hx),h3⟩
theorem LnOk.mono {bs rs:List Str}{d e:Nat}{τ:List Str}{l:Ln}(h:LnOk bs rs d τ l)(le:d<=e):LnOk bs rs e τ l:=by
 induction le with
 |refl=>exact h
 |step _ ih=>exact ih.up
structure Chg (κ κ':Kt):Prop where
 b:κ'.b=κ.b
 r:κ'.r=κ.r
 bs:κ'.bs=κ.bs
 rs:κ'.rs=κ.rs
 la:κ'.la=κ.la
 l0:0<=κ'.l
 l1:κ'.l<=κ.l
 p0:0<=κ'.p
 p1:κ'.p<=κ.p
 e0:0<=κ'.e
 e1:κ'.e<=κ.e
structure Kok (κ:Kt)(e:Nat)(τ:List Str):Prop where
 l0:0<=κ.l
 l1:κ.l<=6
 p0:0<=κ.p
 p1:κ.p<=2
 e0:0<=κ.e
 e1:κ.e<=(e:Nat)
 t:0 < e->τ=[]
 ly:0 < κ.e->∀s,κ.la=some s->s∈κ.rs
 tl:τ.length<=4
theorem Chg.refl {κ:Kt}{e:Nat}{τ:List Str}(h:Kok κ e τ):Chg κ κ:=⟨rfl,rfl,rfl,rfl,rfl,h.l0,Int.le_refl _,h.p0,Int.le_refl _,h.e0,Int.le_refl _⟩
theorem Chg.trans {κ κ1 κ2:Kt}(h:Chg κ κ1)(g:Chg κ1 κ2):Chg κ κ2:=⟨g.b.trans h.b,g.r.trans h.r,g.bs.trans h.bs,g.rs.trans h.rs,g.la.trans h.la,g.l0,Int.le_trans g.l1 h.l1,g.p0,Int.le_trans g.p1 h.p1,g.e0,Int.le_trans g.e1 h.e1⟩
theorem Kok.chg {κ κ':Kt}{e:Nat}{τ:List Str}(h:Kok κ e τ)(g:Chg κ κ'):Kok κ' e τ:=⟨g.l0,Int.le_trans g.l1 h.l1,g.p0,Int.le_trans g.p1 h.p1,g.e0,Int.le_trans g.e1 h.e1,h.t,fun z s hs=>by rw[g.rs]; exact h.ly (Int.lt_of_lt_of_le z g.e1) s (by rw[<- g.la]; exact hs),h.tl⟩
def zOf (κ:Kt):Int:=if κ.la.isSome then 16 else 0
theorem zOf_chg {κ κ':Kt}(g:Chg κ κ'):zOf κ'=zOf κ:=by unfold zOf; rw[g.la]
def mOf (e:Nat):Int:=if e=0 then 1 else 8
def uV (e d:Nat):Nat:=if e=0 then d+1 else d+3
structure Wgt (e:Nat)(τ:List Str)(κ κ':Kt)(extra:Int)(tw pw:Nat):Prop where
 t:(tw:Int)<=mOf e * (extra+(κ.l - κ'.l))
 p:(pw:Int)<=(κ.p - κ'.p)+zOf κ * (κ.e - κ'.e)
 n:τ≠[]->pw=0/\κ'.p=κ.p
theorem ExS.ofEx {t k:Addr}{C C':CH}(h:Ex t C C'):ExS [t,k] C C':=fun b o n e=>h b o (fun z=>n (by rw[z]; exact List.mem_cons_self)) e
section
variable {P:Program}{w:World}{K:PySem.W.Frag}{mg:Str->Option Value}{base:Heap}{a:Adr}
def XR:GC:=fun ts C Q=>∃(t k:Addr) (τ:List Str) (ns:List Int) (κ:Kt) (name:Str),ts=[.ref t,.ref k,.tup (τ.map PV.str),.str name]/\Tp C t ns/\KAt C t k κ/\τ.length<=4/\∀(o:Option Rk) (g:List (Str×Rk)) (C':CH),eC κ.bs τ o->pH κ.bs τ 1 g->g.length<=4->Tp C' t ns->Ex t C C'->Q (Ln.part o name g).pv C'
theorem XV (v:Int)(h0:0<=v)(h1:v < 4):gD [PV.str "a",PV.str "ab",PV.str "b"] none (some v)=((["a","ab","b"]:List Str).take v.toNat).map PV.str:=by
 have:v=0\/v=1\/v=2\/v=3:=by omega
 rcases this with rfl | rfl | rfl | rfl<;>rfl
theorem rev_s {b:Addr}{xs:List PV}{C:CH}{Q:K1}(h:C b=some (.lst xs))(q:Q .non (gQ C b (.lst xs.reverse))):rM (.ref b) [] C Q:=by
 unfold rM;dsimp only;rw[h];exact q
theorem vM (T:Txt P w K mg a):FnOk P w K mg base CX0 6 (a.f 19) (a.d 19) U11 (spC K XR):=by
 have S:=(T.F 19 rfl).s;have uQ:=(rZ (base:=base) T).mono (show 1<=5 by decide);have oM:=(kA (base:=base) T).mono (show 4<=5 by decide);have dJ:=zP (base:=base) T 1
 refine(T.F 19 rfl).ok (fun ts C R h=>?_) fun cdv A outer s H E hr=>⟨_,(xQ (cs1 4 S.nd (cf (T.F 15 rfl) oM hr (qQ (cv 0) (qQ (cv 1) (ca1 (cv 2))))))
  (xQ (cs1 5 S.nd (pI (gX (qQ vQ (qQ vQ (ca1 vQ)))) mM (bM (cf (T.F 10 rfl) uQ hr (qQ (cv 0) (ca1 zQ))))))
  (xQ (wX (ct2 hX jX (cf (T.F 10 rfl) uQ hr (qQ (cv 0) (ca1 zQ))) zQ) (kQ (vZ (ce_bm0 PySem.F.plainAttrs_list PySem.F.slot_list_reverse PySem.F.type_list_reverse yA oO (cv 5)))) qX)
  (kQ (bQ (mQ (qQ vQ (qQ (cv 4) (qQ (cv 3) (ca1 (ctp T.qZ (fM rfl (S.c (by decide +kernel)) (S.k rfl rfl rfl (by decide +kernel)) (cv 5) (fun _ _ _ _ _=>xJ) (fun _ _ _ _ _=>(mQ (qQ (cv 0) (ca1 (cf (T.F 14 rfl) dJ hr (qQ (cv 1) (qQ (cv 2) (qQ (cv 3) (ca1 zQ))))))))))))))))))))),?_⟩
 .obtain ⟨t,k,τ,ns,κ,name,rfl,_⟩:=h; rfl
 rintro ts C R ⟨t,k,τ,ns,κ,name,rfl,hT,hk,hτ,q⟩;refine yQ ?_;refine⟨t,k,τ,ns,κ,rfl,hT,hk,hτ,fun o C1 ho T1 e1=>?_⟩
 try dsimp only
 refine yQ ?_;refine⟨by show 3<=sizeLine; decide,fun p1 hp1=>?_⟩;refine⟨t,4,ns,rfl,T1.new hp1 _,by decide,by decide,fun v C2 v0 v1 T2 e2=>?_⟩;have m2:C2 p1=_:=e2 p1 _ (T1.ne hp1) jQ;have e02:Ex t C C2:=fun b o n e=>e2 b o n (Gr.new hp1 _ _ _ (e1 b o n e));refine sl_l m2 fun p2 hp2=>?_;rw[XV v v0 v1];have np2:p2≠t:=T2.ne hp2;have hp20:C p2=none:=e02.none np2 hp2;generalize hss:(["a","ab","b"]:List Str).take v.toNat=ss
 have hsl:ss.length<=3:=by rw[<- hss,List.length_take]; exact Nat.min_le_right _ _
 try dsimp only
 refine aQ (fun ρ' C'=>∃us:List Str,us.length=ss.length/\ρ'=[some (.ref t),some (.ref k),some (.tup (τ.map PV.str)),some (.str name),some (tU o),some (.ref p2)]/\C' p2=some (.lst (us.map PV.str))/\Tp C' t ns/\Ex t C C') (fun L hL=>?_) ?_
 .refine ⟨t,2,ns,rfl,T2.new hp2 _,by decide,by decide,fun z C3 z0 z1 T3 e3=>?_⟩
  have m3:C3 p2=_:=e3 p2 _ np2 jQ;have e03:Ex t C C3:=(e02.put hp20 _).trans e3;refine yX (zZ _ _) ?_;refine pZ (fun hb=>?_) fun hb=>?_
  .refine ⟨cW m3,?_⟩
   refine rev_s m3 ?_;exact hL _ _ ⟨ss.reverse,List.length_reverse,rfl,by rw[jQ,List.map_reverse],T3.put np2 _,e03.put hp20 _⟩
  .refine bX ?_
   exact hL _ _ ⟨ss,rfl,rfl,m3,T3,e03⟩
 rintro ρ' C3 ⟨us,hus,rfl,m3,T3,e3⟩
 try dsimp only
 refine cl_l m3 rfl ?_;refine xG (β:=Rk) eV (fun r=>r.ok κ.bs τ 1) (fun C'=>Tp C' t ns/\Ex t C C'/\C' p2=some (.lst (us.map PV.str))) (fun _ h=>h.2.2) (by omega) (fun z C4 L ⟨T4,e4,m4⟩ hL=>?_) (fun bs C4 p3 ⟨T4,e4,m4⟩ hp3 hb hbo=>?_) ⟨T3,e3,m3⟩
 .refine ⟨t,k,τ,ns,κ,rfl,T4,hk.ex e4,hτ,fun r C5 hr T5 e5=>⟨by show 2<=sizeLine; decide,hL r C5 hr ⟨T5,e4.trans e5,e5 _ _ np2 m4⟩⟩⟩
 .refine rJ jQ ?_
  refine⟨by show 4<=sizeLine; decide,?_⟩;exact q o bs _ ho hbo (by have:=congrArg List.length hb; rw[List.length_map] at this; omega) (T4.new hp3 _) (e4.trans (Ex.new hp3 _))
end
theorem wM (e:Nat):mOf e=1\/mOf e=8:=by unfold mOf; split; exact .inl rfl; exact .inr rfl
theorem Wgt.one {e:Nat}{τ:List Str}{κ κ':Kt}{tw pw:Nat}(h:Wgt e τ κ κ' 0 tw pw):Wgt e τ κ κ' 1 (1+tw) pw:=by
 refine⟨?_,h.p,h.n⟩;have:=h.t
 rcases wM e with z | z<;>rw[z] at this ⊢ <;> omega
theorem Wgt.up {e:Nat}{τ:List Str}{κ κ':Kt}{tw pw:Nat}(h:Wgt e τ κ κ' 0 tw pw):Wgt e τ κ κ' 1 tw pw:=by
 refine⟨?_,h.p,h.n⟩;have:=h.t
 rcases wM e with z | z<;>rw[z] at this ⊢ <;> omega
theorem Wgt.add {e:Nat}{τ:List Str}{κ κ1 κ2:Kt}{x y:Int}{t1 t2 p1 p2:Nat}(h:Wgt e τ κ κ1 x t1 p1)(g:Wgt e τ κ1 κ2 y t2 p2)(c:Chg κ κ1):Wgt e τ κ κ2 (x+y) (t1+t2) (p1+p2):=by
 refine⟨?_,?_,fun z=>?_⟩
 .have h1:=h.t
  have h2:=g.t
  rcases wM e with z | z<;>rw[z] at h1 h2 ⊢ <;> omega
 .have h1:=h.p
  have h2:=g.p;rw[zOf_chg c] at h2
  have:zOf κ * (κ.e - κ1.e)+zOf κ * (κ1.e - κ2.e)=zOf κ * (κ.e - κ2.e):=by
   rw[<- Int.mul_add]
   congr 1
   omega
  omega
 .obtain ⟨a1,a2⟩:=h.n z
  obtain⟨b1,b2⟩:=g.n z;exact⟨by omega,b2.trans a2⟩
theorem Wgt.nil {e:Nat}{τ:List Str}{κ:Kt}:Wgt e τ κ κ 0 0 0:=by
 refine⟨?_,?_,fun _=>⟨rfl,rfl⟩⟩
 .rcases wM e with z | z<;>rw[z]<;>omega
 .rw [Int.sub_self,Int.sub_self,Int.mul_zero]; decide
theorem KAt.put {C:CH}{t k:Addr}{κ:Kt}(h:KAt C t k κ)(l p e:Int)(la:Option Str):KAt (gQ C k (.dK (nX κ.b κ.r l p e (uG la)))) t k { κ with l:=l,p:=p,e:=e,la:=la }:=by
 have n1:κ.b≠k:=fun z=>by have:=h.bx; rw[z,h.at_] at this; cases this
 have n2:κ.r≠k:=fun z=>by have:=h.rx; rw[z,h.at_] at this; cases this
 exact⟨jQ,by show gQ C k _ κ.b=_; rw[wQ n1]; exact h.bx,by show gQ C k _ κ.r=_; rw[wQ n2]; exact h.rx,h.nk,h.nb,h.nr,h.lb,h.lr⟩
def yB (e d:Nat):GC:=fun ts C Q=>∃(t k:Addr) (τ:List Str) (ns:List Int) (κ:Kt),ts=[.ref t,.ref k,.tup (τ.map PV.str),.int (d:Nat)]/\Tp C t ns/\KAt C t k κ/\Kok κ e τ /\
 ∀(ls:List Ln) (κ':Kt) (C':CH),(∀x∈ls,LnOk κ.bs κ.rs (uV e d) τ x)->ls.length<=6->Wgt e τ κ κ' 0 (Ln.tws ls) (Ln.pws ls)->Chg κ κ'->Tp C' t ns->KAt C' t k κ'->ExS [t,k] C C'->Q (.tup (Ln.pvs ls)) C'
def gP (e d:Nat):GC:=fun ts C Q=>∃(t k:Addr) (τ:List Str) (ns:List Int) (κ:Kt),ts=[.ref t,.ref k,.tup (τ.map PV.str),.int (d:Nat)]/\Tp C t ns/\KAt C t k κ/\Kok κ e τ /\
 ∀(l:Ln) (κ':Kt) (C':CH),LnOk κ.bs κ.rs (uV e d) τ l->Wgt e τ κ κ' 1 l.tw l.pw->Chg κ κ'->Tp C' t ns->KAt C' t k κ'->ExS [t,k] C C'->Q l.pv C'
def jR (e d:Nat):GC:=fun ts C Q=>∃d',d=d'+1/\yB e d' ts C Q
theorem fP (e d:Nat):uV e (d+1)=uV e d+1:=by unfold uV; split<;>rfl
theorem nN (e d:Nat):∃n,uV e d=n+1:=by unfold uV; split; exact⟨_,rfl⟩; exact⟨d+2,rfl⟩
section
variable {P:Program}{w:World}{K:PySem.W.Frag}{mg:Str->Option Value}{base:Heap}{a:Adr}
theorem yT (T:Txt P w K mg a)(e d r:Nat)(h7:7<=r)(sK:FnOk P w K mg base CX0 r (a.f 22) (a.d 22) U0 (spC K (jR e d))):
  FnOk P w K mg base CX0 (r+1) (a.f 18) (a.d 18) U0 (spC K (gP e d)):=by
 have S:=(T.F 18 rfl).s;have uQ:=(rZ (base:=base) T).mono (show 1<=r by omega);have tZ:=(nG (base:=base) T).mono (show 2<=r by omega);have oM:=(kA (base:=base) T).mono (show 4<=r by omega);have Zc:=(Ja (base:=base) T).mono (show 7<=r by omega);have Zf:=(Jg (base:=base) T).mono (show 6<=r by omega)
 refine(T.F 18 rfl).ok (fun ts C R h=>?_) fun cdv A outer s H E hr=>⟨_,(xQ (cs1 4 S.nd (cf (T.F 15 rfl) oM hr (qQ (cv 0) (qQ (cv 1) (ca1 (cv 2))))))
  (xQ (cs1 5 S.nd (cx (cf (T.F 11 rfl) tZ hr (qQ (cv 0) (ca1 zQ))) zQ))
  (xQ (cs1 6 S.nd (cf (T.F 16 rfl) Zc hr (qQ (cv 0) (qQ (cv 1) (qQ (cv 2) (ca1 zQ))))))
  (xQ (cs1 7 S.nd (cf (T.F 17 rfl) Zf hr (qQ (cv 0) (qQ (cv 1) (ca1 (cv 2))))))
  (xQ (cs1 8 S.nd (mQ iX))
  (xQ (wX (cw_pt (cw_and (ct2 jK sZ (cv 3) zQ) (cw_and1 (ct2 hX jX (cf (T.F 10 rfl) uQ hr (qQ (cv 0) (ca1 zQ))) zQ)))) (kQ (cs1 8 S.nd (cf (T.F 22 rfl) sK hr (qQ (cv 0) (qQ (cv 1) (qQ (cv 2) (ca1 (rQ xV pJ (cv 3) zQ)))))))) qX)
  (kQ (bQ (mQ (qQ vQ (qQ (cv 4) (qQ (cv 5) (qQ (cv 6) (qQ (cv 7) (ca1 (cv 8)))))))))))))))),?_⟩
 .obtain ⟨t,k,τ,ns,κ,rfl,_⟩:=h; rfl
 rintro ts C R ⟨t,k,τ,ns,κ,rfl,hT,hk,ok,q⟩;refine yQ ?_;refine⟨t,k,τ,ns,κ,rfl,hT,hk,ok.tl,fun o C1 ho T1 e1=>?_⟩
 try dsimp only
 refine yQ ?_;refine⟨t,1,ns,rfl,T1,by decide,by decide,fun p ss C2 m2 _ pt hl nd T2 e2=>?_⟩;have hl:ss.length=1:=hl
 obtain⟨tag,rfl⟩:∃tag,ss=[tag]:=by
  match ss,hl with
  |[x],_=>exact⟨x,rfl⟩
 refine sX m2 sQ ?_
 try dsimp only
 refine yQ ?_;refine⟨t,k,τ,ns,κ,rfl,T2,(hk.ex e1).ex e2,ok.tl,fun ps C3 hps hpl T3 e3=>?_⟩
 try dsimp only
 refine yQ ?_;refine⟨t,k,τ,ns,κ,rfl,T3,((hk.ex e1).ex e2).ex e3,ok.tl,fun hs C4 hhs hhl T4 e4=>?_⟩
 try dsimp only
 refine yQ ?_;refine⟨by show 0<=sizeLine; decide,?_⟩
 try dsimp only
 have e04:Ex t C C4:=((e1.trans e2).trans e3).trans e4;have k4:=hk.ex e04
 have fin:∀(ls:List Ln) (κ':Kt) (C':CH),(∀x∈ls,∃d',d=d'+1/\LnOk κ.bs κ.rs (uV e d') τ x)->ls.length<=6->Wgt e τ κ κ' 0 (Ln.tws ls) (Ln.pws ls)->Chg κ κ'->Tp C' t ns->KAt C' t k κ'->ExS [t,k] C C' ->
   R (.tup [.str "plain",tU o,.str tag,.tup (ps.map eV),.tup (hs.map Hd.pv),.tup (Ln.pvs ls)]) C':=by
  intro ls κ' C' hls hll hw hc T' k' x';refine q (.plain o tag ps hs ls) κ' C' ?_ hw.one hc T' k' x';obtain⟨n,en⟩:=nN e d;rw[en];refine⟨ho,⟨hps,hpl.1,hpl.2,nd.2 tag List.mem_cons_self⟩,⟨hhs,hhl⟩,fun x hx=>?_,hll⟩;obtain⟨d',rfl,hx'⟩:=hls x hx;rw[fP] at en;have:n=uV e d':=by omega
  rw[this];exact hx'
 refine aQ (fun ρ' C'=>∃(ls:List Ln) (κ':Kt),ρ'=[some (.ref t),some (.ref k),some (.tup (τ.map PV.str)),some (.int (d:Nat)),some (tU o),some (.str tag),some (.tup (ps.map eV)),some (.tup (hs.map Hd.pv)),some (.tup (Ln.pvs ls))]/\(∀x∈ls,∃d',d=d'+1/\LnOk κ.bs κ.rs (uV e d') τ x)/\ls.length<=6/\Wgt e τ κ κ' 0 (Ln.tws ls) (Ln.pws ls)/\Chg κ κ'/\Tp C' t ns/\KAt C' t k κ'/\ExS [t,k] C C') (fun L hL=>?_) ?_
 .refine i_i ?_
  refine pZ (fun hb=>?_) fun hb=>?_
  .have hb:=of_decide_eq_true hb
   refine⟨t,2,ns,rfl,T4,by decide,by decide,fun z C5 z0 z1 T5 e5=>?_⟩;refine yX (zZ _ _) ?_;refine pZ (fun hb2=>?_) fun hb2=>?_
   .refine i_i ?_
    obtain⟨d',rfl⟩:∃d',d=d'+1:=⟨d - 1,by omega⟩;refine⟨d',rfl,t,k,τ,ns,κ,?_,T5,k4.ex e5,ok,fun ls κ' C6 h1 h2 h3 h4 T6 k6 x6=>?_⟩
    .have:((d'+1:Nat):Int) - 1=(d':Nat):=by omega
     rw[this]
    .exact hL _ _ ⟨ls,κ',rfl,fun x hx=>⟨d',rfl,h1 x hx⟩,h2,h3,h4,T6,k6,(ExS.ofEx (e04.trans e5)).trans x6⟩
   .refine bX ?_
    exact hL _ _ ⟨[],κ,rfl,(fun _ z=>nomatch z),Nat.zero_le _,Wgt.nil,Chg.refl ok,T5,k4.ex e5,ExS.ofEx (e04.trans e5)⟩
  .refine eU rfl ?_
   refine bX ?_;exact hL _ _ ⟨[],κ,rfl,(fun _ z=>nomatch z),Nat.zero_le _,Wgt.nil,Chg.refl ok,T4,k4,ExS.ofEx e04⟩
 rintro ρ' C5 ⟨ls,κ',rfl,h1,h2,h3,h4,T5,k5,x5⟩
 try dsimp only
 refine⟨by show 6<=sizeLine; decide,?_⟩;exact fin ls κ' C5 h1 h2 h3 h4 T5 k5 x5
end
def J7 (e:Nat):GC:=fun ts C Q=>∃(t k:Addr) (d:Nat) (ns:List Int) (κ:Kt),ts=[.ref t,.ref k,.int (d:Nat)]/\Tp C t ns/\KAt C t k κ/\Kok κ e []/\0 < κ.e /\
 ∀(l:Ln) (κ':Kt) (C':CH),LnOk κ.bs κ.rs 3 [] l->Wgt e [] κ κ' 1 l.tw l.pw->Chg κ κ'->Tp C' t ns->KAt C' t k κ'->ExS [t,k] C C'->Q l.pv C'
section
variable {P:Program}{w:World}{K:PySem.W.Frag}{mg:Str->Option Value}{base:Heap}{a:Adr}
theorem ok_line (T:Txt P w K mg a)(e d r:Nat)(he:0 < e)(h7:7<=r)
  (sK:FnOk P w K mg base CX0 r (a.f 22) (a.d 22) U0 (spC K (jR e d)))
  (tF:FnOk P w K mg base CX0 r (a.f 18) (a.d 18) U0 (spC K (gP e d)))
  (K4:FnOk P w K mg base CX0 r (a.f 20) (a.d 20) U4 (spC K (J7 e))) :
  FnOk P w K mg base CX0 (r+1) (a.f 21) (a.d 21) U0 (spC K (gP e d)):=by
 have S:=(T.F 21 rfl).s;have uQ:=(rZ (base:=base) T).mono (show 1<=r by omega);have oM:=(kA (base:=base) T).mono (show 4<=r by omega);have dJ:=(zP (base:=base) T 1).mono (show 5<=r by omega);have qY:=(vM (base:=base) T).mono (show 6<=r by omega)
 refine(T.F 21 rfl).ok (fun ts C R h=>?_) fun cdv A outer s H E hr=>⟨_,(xQ (cs1 4 S.nd (cf (T.F 10 rfl) uQ hr (qQ (cv 0) (ca1 zQ))))
  (xQ (wX (cw_pt (cw_and (ct2 kM jG (cv 4) zQ) (cw_and (ct2 jK sZ (fZ (tX hr) (cv 1) vQ (fun _ _=>rfl)) zQ) (cw_and1 (ct2 jK sZ (cln T.bJ (fZ (tX hr) (cv 1) vQ (fun _ _=>rfl))) zQ))))) (xQ (wK (tX hr) (cv 1) vQ (rQ xV pJ (fZ (tX hr) (cv 1) vQ (fun _ _=>rfl)) zQ))
  (kQ (bQ (cf (T.F 19 rfl) qY hr (qQ (cv 0) (qQ (cv 1) (qQ (cv 2) (ca1 (cx (fZ (tX hr) (cv 1) vQ (fun _ _=>rfl)) (cf (T.F 10 rfl) uQ hr (qQ (cv 0) (ca1 (cln T.bJ (fZ (tX hr) (cv 1) vQ (fun _ _=>rfl))))))))))))))) qX)
  (xQ (wX (cw_pt (cw_and (ct2 hX jX (cv 4) zQ) (cw_and1 (ct2 jK sZ (cv 3) zQ)))) (xQ (cs1 5 S.nd (cx (gX (qQ vQ (qQ vQ (ca1 vQ)))) (cf (T.F 10 rfl) uQ hr (qQ (cv 0) (ca1 zQ)))))
  (xQ (cs1 6 S.nd (cf (T.F 15 rfl) oM hr (qQ (cv 0) (qQ (cv 1) (ca1 (cv 2))))))
  (kQ (bQ (mQ (qQ vQ (qQ (cv 6) (qQ (cv 5) (qQ (cf (T.F 14 rfl) dJ hr (qQ (cv 0) (qQ (cv 1) (qQ (cv 2) (ca1 zQ))))) (ca1 (cf (T.F 22 rfl) sK hr (qQ (cv 0) (qQ (cv 1) (qQ (cv 2) (ca1 (rQ xV pJ (cv 3) zQ)))))))))))))))) qX)
  (xQ (wX (cw_pt (cw_and (ct2 hX jX (cv 4) zQ) (cw_and1 (ct2 jK sZ (cv 3) zQ)))) (xQ (cs1 7 S.nd (cf (T.F 14 rfl) dJ hr (qQ (cv 0) (qQ (cv 1) (qQ (cv 2) (ca1 zQ))))))
  (xQ (cs1 8 S.nd (cf (T.F 22 rfl) sK hr (qQ (cv 0) (qQ (cv 1) (qQ (cv 2) (ca1 (rQ xV pJ (cv 3) zQ)))))))
  (kQ (bQ (mQ (qQ vQ (qQ (cv 7) (qQ (cv 8) (ca1 (cf (T.F 22 rfl) sK hr (qQ (cv 0) (qQ (cv 1) (qQ (cv 2) (ca1 (rQ xV pJ (cv 3) zQ))))))))))))))) qX)
  (xQ (wX (cw_pt (cw_and (ct2 jK sZ (cv 4) zQ) (cw_and1 (ct2 jK sZ (fZ (tX hr) (cv 1) vQ (fun _ _=>rfl)) zQ)))) (kQ (bQ (cf (T.F 20 rfl) K4 hr (qQ (cv 0) (qQ (cv 1) (ca1 (cv 3))))))) qX)
  (kQ (bQ (cf (T.F 18 rfl) tF hr (qQ (cv 0) (qQ (cv 1) (qQ (cv 2) (ca1 (cv 3))))))))))))),?_⟩
 .obtain ⟨t,k,τ,ns,κ,rfl,_⟩:=h; rfl
 rintro ts C R ⟨t,k,τ,ns,κ,rfl,hT,hk,ok,q⟩;have hτ:=ok.t he;refine yQ ?_;refine⟨t,9,ns,rfl,hT,by decide,by decide,fun v C1 v0 v1 T1 e1=>?_⟩
 try dsimp only
 have k1:=hk.ex e1;obtain⟨dn,edn⟩:=nN e d
 have low:∀(ls:List Ln),(∀x∈ls,∃d',d=d'+1/\LnOk κ.bs κ.rs (uV e d') τ x)->∀x∈ls,LnOk κ.bs κ.rs dn τ x:=by
  intro ls h x hx;obtain⟨d',rfl,h'⟩:=h x hx;rw[fP] at edn;have:dn=uV e d':=by omega
  rw[this]; exact h'
 refine aQ (fun ρ' C'=>C'=C1/\ρ'=[some (.ref t),some (.ref k),some (.tup (τ.map PV.str)),some (.int (d:Nat)),some (.int v),none,none,none,none]) (fun L hL=>?_) ?_
 .refine i_i ?_
  refine pZ (fun hb=>?_) fun hb=>?_
  .refine oJ k1.at_ rfl tH ?_
   refine i_i ?_;refine pZ (fun hb2=>?_) fun hb2=>?_
   .refine oJ k1.at_ rfl uL ?_
    refine oG k1.rx ?_;refine i_i ?_;refine pZ (fun hb3=>?_) fun hb3=>?_
    .have hb2:=of_decide_eq_true hb2
     rw[List.length_map] at hb3;have hb3:=of_decide_eq_true hb3;refine xZ ?_;refine oJ k1.at_ rfl tH ?_;refine i_i ?_;refine oW k1.at_ rfl (by show 6<=1000; decide) ?_;rw[Xi]
     try dsimp only
     have k2:=k1.put κ.l (κ.p - 1) κ.e κ.la;have T2:=T1.put k1.nk (.dK (nX κ.b κ.r κ.l (κ.p - 1) κ.e (uG κ.la)));refine oJ k2.at_ rfl uL ?_;refine oJ k2.at_ rfl uL ?_;refine oG k2.rx ?_;have lr:=hk.lr;have el:(κ.rs.map PV.str).length=κ.rs.length:=List.length_map _;refine⟨t,_,ns,rfl,T2,by show(0:Int) < (((κ.rs.map PV.str).length:Nat):Int); rw[el]; exact hb3,by show(((κ.rs.map PV.str).length:Nat):Int) < _; rw[el]; omega,fun i C3 i0 i1 T3 e3=>?_⟩
     have i1:i < (((κ.rs.map PV.str).length:Nat):Int):=i1;rw[el] at i1;have k3:=k2.ex e3;refine sX k3.rx (yK (f:=PV.str) "" i0 i1) ?_;refine⟨t,k,τ,ns,{ κ with p:=κ.p - 1 },_,rfl,T3,k3,ok.tl,fun o g C4 ho hg hgl T4 e4=>?_⟩;have p0:=ok.p0;refine q _ { κ with p:=κ.p - 1 } C4 ?_ ?_ ?_ T4 (k3.ex e4) ?_
     .rw [edn]; exact⟨ho,bY i0 i1,hg,hgl⟩
     .refine ⟨?_,?_,fun z=>absurd hτ z⟩
      .show ((1:Nat):Int)<=mOf e * (1+(κ.l - κ.l))
       rcases wM e with z | z<;>rw[z]<;>omega
      .show ((1:Nat):Int)<=(κ.p - (κ.p - 1))+zOf κ * (κ.e - κ.e)
       rw[Int.sub_self κ.e,Int.mul_zero]; omega
     .exact ⟨rfl,rfl,rfl,rfl,rfl,ok.l0,Int.le_refl _,by show 0<=κ.p - 1; omega,by show κ.p - 1<=κ.p; omega,ok.e0,Int.le_refl _⟩
     .exact (((ExS.ofEx e1).at (by simp) _).trans (ExS.ofEx e3)).trans (ExS.ofEx e4)
    .refine bX ?_
     exact hL _ _ ⟨rfl,rfl⟩
   .refine eU rfl ?_
    refine bX ?_;exact hL _ _ ⟨rfl,rfl⟩
  .refine eU rfl ?_
   refine bX ?_;exact hL _ _ ⟨rfl,rfl⟩
 rintro ρ' C' ⟨rfl,rfl⟩
 try dsimp only
 refine aQ (fun ρ' C''=>C''=C'/\ρ'=[some (.ref t),some (.ref k),some (.tup (τ.map PV.str)),some (.int (d:Nat)),some (.int v),none,none,none,none]) (fun L hL=>?_) ?_
 .refine yX (zZ _ _) ?_
  refine pZ (fun hb=>?_) fun hb=>?_
  .refine i_i ?_
   refine pZ (fun hb2=>?_) fun hb2=>?_
   .have hb2:=of_decide_eq_true hb2
    obtain⟨d',rfl⟩:∃d',d=d'+1:=⟨d - 1,by omega⟩;refine yQ ?_;refine⟨by show 3<=sizeLine; decide,fun p hp=>?_⟩;refine⟨t,3,ns,rfl,T1.new hp _,by decide,by decide,fun i C2 i0 i1 T2 e2=>?_⟩;refine sX (e2 p _ (T1.ne hp) jQ) (yK (f:=PV.str) (ss:=["a","ab","b"]) "" i0 i1) ?_;have e02:Ex t C C2:=fun b o n z=>e2 b o n (Gr.new hp _ _ _ (e1 b o n z))
    try dsimp only
    refine yQ ?_;refine⟨t,k,τ,ns,κ,rfl,T2,hk.ex e02,ok.tl,fun o C3 ho T3 e3=>?_⟩
    try dsimp only
    refine⟨t,k,τ,ns,κ,rfl,T3,(hk.ex e02).ex e3,ok.tl,fun rk C4 hrk T4 e4=>?_⟩;refine i_i ?_;refine⟨d',rfl,t,k,τ,ns,κ,?_,T4,((hk.ex e02).ex e3).ex e4,ok,fun ls κ' C5 h1 h2 h3 h4 T5 k5 x5=>⟨by show 5<=sizeLine; decide,?_⟩⟩
    .have:((d'+1:Nat):Int) - 1=(d':Nat):=by omega
     rw[this]
    refine q (.give o _ rk ls) κ' C5 ?_ h3.one h4 T5 k5 ((ExS.ofEx ((e02.trans e3).trans e4)).trans x5);rw[edn];exact⟨ho,bY (ss:=["a","ab","b"]) i0 i1,hrk,low ls fun x hx=>⟨d',rfl,h1 x hx⟩,h2⟩
   .refine bX ?_
    exact hL _ _ ⟨rfl,rfl⟩
  .refine eU rfl ?_
   refine bX ?_;exact hL _ _ ⟨rfl,rfl⟩
 rintro ρ' C'' ⟨rfl,rfl⟩
 try dsimp only
 refine aQ (fun ρ' C'=>C'=C''/\ρ'=[some (.ref t),some (.ref k),some (.tup (τ.map PV.str)),some (.int (d:Nat)),some (.int v),none,none,none,none]) (fun L hL=>?_) ?_
 .refine yX (zZ _ _) ?_
  refine pZ (fun hb=>?_) fun hb=>?_
  .refine i_i ?_
   refine pZ (fun hb2=>?_) fun hb2=>?_
   .have hb2:=of_decide_eq_true hb2
    obtain⟨d',rfl⟩:∃d',d=d'+1:=⟨d - 1,by omega⟩;have ed:((d'+1:Nat):Int) - 1=(d':Nat):=by omega
    refine yQ ?_;refine⟨t,k,τ,ns,κ,rfl,T1,k1,ok.tl,fun rk C4 hrk T4 e4=>?_⟩
    try dsimp only
    refine yQ ?_;refine i_i ?_;refine⟨d',rfl,t,k,τ,ns,κ,by rw[ed],T4,k1.ex e4,ok,fun ls κ' C5 h1 h2 h3 h4 T5 k5 x5=>?_⟩
    try dsimp only
    refine i_i ?_;refine⟨d',rfl,t,k,τ,ns,κ',by rw[ed],T5,k5,ok.chg h4,fun ls2 κ2 C6 g1 g2 g3 g4 T6 k6 x6=>⟨by show 4<=sizeLine; decide,?_⟩⟩;refine q (.when rk ls ls2) κ2 C6 ?_ (Wgt.up (h3.add g3 h4)) (h4.trans g4) T6 k6 (((ExS.ofEx (e1.trans e4)).trans x5).trans x6);rw[edn];refine⟨hrk,⟨low ls fun x hx=>⟨d',rfl,h1 x hx⟩,h2⟩,low ls2 fun x hx=>⟨d',rfl,?_⟩,g2⟩;have:=g1 x hx;rw[h4.bs,h4.rs] at this
    exact this
   .refine bX ?_
    exact hL _ _ ⟨rfl,rfl⟩
  .refine eU rfl ?_
   refine bX ?_;exact hL _ _ ⟨rfl,rfl⟩
 rintro ρ' C2 ⟨rfl,rfl⟩
 try dsimp only
 refine aQ (fun ρ' C'=>C'=C2/\ρ'=[some (.ref t),some (.ref k),some (.tup (τ.map PV.str)),some (.int (d:Nat)),some (.int v),none,none,none,none]) (fun L hL=>?_) ?_
 .refine i_i ?_
  refine pZ (fun hb=>?_) fun hb=>?_
  .refine oJ k1.at_ rfl gL ?_
   refine i_i ?_;refine pZ (fun hb2=>?_) fun hb2=>?_
   .have hb2:=of_decide_eq_true hb2
    subst hτ;refine⟨t,k,d,ns,κ,rfl,T1,k1,ok,hb2,fun l κ' C5 h1 h2 h3 T5 k5 x5=>?_⟩;refine q l κ' C5 (h1.mono ?_) h2 h3 T5 k5 ((ExS.ofEx e1).trans x5);have:=ok.e1;unfold uV;rw[if_neg (by omega)];omega
   .refine bX ?_
    exact hL _ _ ⟨rfl,rfl⟩
  .refine eU rfl ?_
   refine bX ?_;exact hL _ _ ⟨rfl,rfl⟩
 rintro ρ' C3 ⟨rfl,rfl⟩
 try dsimp only
 exact⟨t,k,τ,ns,κ,rfl,T1,k1,ok,fun l κ' C5 h1 h2 h3 T5 k5 x5=>q l κ' C5 h1 h2 h3 T5 k5 ((ExS.ofEx e1).trans x5)⟩
end
theorem Ln.pvs_app (xs ys:List Ln):Ln.pvs (xs++ys)=Ln.pvs xs++Ln.pvs ys:=by
 rw[Ln.pvs_map,Ln.pvs_map,Ln.pvs_map,List.map_append]
theorem Ln.pvs_len (xs:List Ln):(Ln.pvs xs).length=xs.length:=by rw[Ln.pvs_map,List.length_map]
theorem Wgt.pay {e:Nat}{τ:List Str}{κ κ':Kt}{tw pw:Nat}(h:Wgt e τ { κ with l:=κ.l - 1 } κ' 1 tw pw):Wgt e τ κ κ' 0 tw pw:=by
 refine⟨?_,h.p,h.n⟩;have:=h.t;have this:(tw:Int)<=mOf e * (1+(κ.l - 1 - κ'.l)):=this;have e2:1+(κ.l - 1 - κ'.l)=0+(κ.l - κ'.l):=by omega
 rw[e2] at this;exact this
theorem KAt.upd {C:CH}{t k p:Addr}{κ:Kt}(h:KAt C t k κ)(n1:p≠k)(n2:p≠κ.b)(n3:p≠κ.r)(o:CO):KAt (gQ C p o) t k κ :=
 ⟨by rw[wQ (Ne.symm n1)]; exact h.at_,by rw[wQ (Ne.symm n2)]; exact h.bx,by rw[wQ (Ne.symm n3)]; exact h.rx,h.nk,h.nb,h.nr,h.lb,h.lr⟩
section
variable {P:Program}{w:World}{K:PySem.W.Frag}{mg:Str->Option Value}{base:Heap}{a:Adr}
theorem Jd (T:Txt P w K mg a)(e d r:Nat)(h1:1<=r)
  (K3:FnOk P w K mg base CX0 r (a.f 21) (a.d 21) U0 (spC K (gP e d))) :
  FnOk P w K mg base CX0 (r+1) (a.f 22) (a.d 22) U0 (spC K (yB e d)):=by
 have S:=(T.F 22 rfl).s;have uQ:=(rZ (base:=base) T).mono (show 1<=r by omega)
 refine(T.F 22 rfl).ok (fun ts C R h=>?_) fun cdv A outer s H E hr=>⟨_,(xQ (cs1 4 S.nd (gX iX))
  (xQ (nD PassesOwn.never rfl rfl T.gV (ca1 (rQ xV pJ (rQ oQ tQ zQ (cf (T.F 10 rfl) uQ hr (qQ (cv 0) (ca1 zQ)))) (eX hU iD rfl T.vS rfl (ca1 (zU kM jG (cv 3) zQ (oY _)))))) (cg1 5 S.nd) (kQ (wX (ct2 jK sZ (fZ (tX hr) (cv 1) vQ (fun _ _=>rfl)) zQ) (xQ (wK (tX hr) (cv 1) vQ (rQ xV pJ (fZ (tX hr) (cv 1) vQ (fun _ _=>rfl)) zQ))
  (kQ (vZ (cap (cv 4) (cf (T.F 21 rfl) K3 hr (qQ (cv 0) (qQ (cv 1) (qQ (cv 2) (ca1 (cv 3)))))))))) qX)))
  (kQ (bQ (ctp T.qZ (cv 4)))))),?_⟩
 .obtain ⟨t,k,τ,ns,κ,rfl,_⟩:=h; rfl
 rintro ts C R ⟨t,k,τ,ns,κ,rfl,hT,hk,ok,q⟩;refine yQ ?_;refine⟨by show 0<=sizeLine; decide,fun h hh=>?_⟩;have nht:=hT.ne hh;have nhk:h≠k:=fun z=>by subst z; rw[hk.at_] at hh; cases hh
 have nS:h∉[t,k]:=fun z=>by
  rcases List.mem_cons.1 z with z | z
  .exact nht z
  .exact nhk (List.mem_singleton.1 z)
 have nb:h≠κ.b:=fun z=>by rw[z,hk.bx] at hh; cases hh
 have nr:h≠κ.r:=fun z=>by rw[z,hk.rx] at hh; cases hh
 try dsimp only
 have e1:Ex t C (gQ C h (.lst [])):=Ex.new hh _;refine aQ (fun ρ' C'=>∃(ls:List Ln) (κ':Kt) (x5:Option PV),ρ'=[some (.ref t),some (.ref k),some (.tup (τ.map PV.str)),some (.int (d:Nat)),some (.ref h),x5]/\C' h=some (.lst (Ln.pvs ls))/\(∀x∈ls,LnOk κ.bs κ.rs (uV e d) τ x)/\ls.length<=3/\Wgt e τ κ κ' 0 (Ln.tws ls) (Ln.pws ls)/\Chg κ κ'/\Tp C' t ns/\KAt C' t k κ'/\ExS [t,k] C C') (fun L hL=>?_) ?_
 .refine ⟨t,3,ns,rfl,hT.new hh _,by decide,by decide,fun v C2 v0 v1 T2 e2=>?_⟩
  refine uW ?_;refine i_i ?_;refine QG ?_;refine i_i ?_;generalize hn:1+v - (if decide ((d:Int) < 2)=true then (1:Int) else 0)=n;have hn3:n<=3/\0<=n:=by rw[<- hn]; split<;>omega
  refine⟨by omega,by omega,?_⟩;refine yZ (fun zs ρ C'=>∃(ls:List Ln) (κ':Kt) (x5:Option PV),ρ=[some (.ref t),some (.ref k),some (.tup (τ.map PV.str)),some (.int (d:Nat)),some (.ref h),x5]/\C' h=some (.lst (Ln.pvs ls))/\(∀x∈ls,LnOk κ.bs κ.rs (uV e d) τ x)/\ls.length+zs.length<=3/\Wgt e τ κ κ' 0 (Ln.tws ls) (Ln.pws ls)/\Chg κ κ'/\Tp C' t ns/\KAt C' t k κ'/\ExS [t,k] C C') ?_ ?_ _ _ _ ⟨[],κ,_,rfl,e2 _ _ nht jQ,(fun _ z=>nomatch z),by rw[List.length_map,List.length_range]; show 0+_<=3; omega,Wgt.nil,Chg.refl ok,T2,(hk.ex e1).ex e2,ExS.ofEx (e1.trans e2)⟩
  .rintro z zs ρ C3 ⟨ls,κ1,x5,rfl,mh,hls,hll,hw,hc,T3,k3,x3⟩ L3 hL3
   have ok3:=ok.chg hc;refine oJ k3.at_ rfl lB ?_;refine i_i ?_;refine pZ (fun hb=>?_) fun hb=>?_
   .have hb:=of_decide_eq_true hb
    refine xZ ?_;refine oJ k3.at_ rfl lB ?_;refine i_i ?_;refine oW k3.at_ rfl (by show 6<=1000; decide) ?_;rw[aS]
    try dsimp only
    have k4:=k3.put (κ1.l - 1) κ1.p κ1.e κ1.la;have T4:=T3.put k3.nk (.dK (nX κ1.b κ1.r (κ1.l - 1) κ1.p κ1.e (uG κ1.la)));have mh4:gQ C3 k (.dK (nX κ1.b κ1.r (κ1.l - 1) κ1.p κ1.e (uG κ1.la))) h=some (.lst (Ln.pvs ls)):=by rw[wQ nhk]; exact mh
    have c4:Chg κ1 { κ1 with l:=κ1.l - 1 }:=⟨rfl,rfl,rfl,rfl,rfl,by show 0<=κ1.l - 1; omega,by show κ1.l - 1<=κ1.l; omega,hc.p0,Int.le_refl _,hc.e0,Int.le_refl _⟩;refine⟨cW mh4,?_⟩;refine⟨t,k,τ,ns,_,rfl,T4,k4,ok3.chg c4,fun l κ2 C5 g1 g2 g3 T5 k5 x5=>?_⟩;have mh5:=x5 h _ nS mh4;refine xU mh5 (by rw[Ln.pvs_len]; exact Nat.lt_of_lt_of_le (show ls.length < 4 by omega) (by decide)) ?_;refine hL3 _ _ ⟨ls++[l],κ2,_,rfl,by rw[jQ,Ln.pvs_app]; rfl,fun x hx=>?_,by rw[List.length_append,List.length_singleton]; rw[List.length_cons] at hll; omega,?_,hc.trans (c4.trans g3),T5.put nht _,?_,?_⟩
    .rcases List.mem_append.1 hx with hx | hx
     .exact hls x hx
     .cases List.mem_singleton.1 hx
      have:LnOk κ1.bs κ1.rs (uV e d) τ l:=g1;rw[hc.bs,hc.rs] at this;exact this
    .rw [Ln.tws_app,Ln.pws_app]
     have:=hw.add g2.pay hc;exact this
    .exact k5.upd nhk (by rw[g3.b]; show h≠κ1.b; rw[hc.b]; exact nb) (by rw[g3.r]; show h≠κ1.r; rw[hc.r]; exact nr) _
    .exact (((x3.at (by simp) _).trans x5).put hh _)
   .refine bX ?_
    exact hL3 _ _ ⟨ls,κ1,_,rfl,mh,hls,by rw[List.length_cons] at hll; omega,hw,hc,T3,k3,x3⟩
  .rintro ρ C3 ⟨ls,κ1,x5,rfl,mh,hls,hll,hw,hc,T3,k3,x3⟩
   exact hL _ _ ⟨ls,κ1,_,rfl,mh,hls,by omega,hw,hc,T3,k3,x3⟩
 rintro ρ' C3 ⟨ls,κ1,x5,rfl,mh,hls,hll,hw,hc,T3,k3,x3⟩
 try dsimp only
 refine rJ mh ?_;exact q ls κ1 C3 hls (by omega) hw hc T3 k3 x3
end
section
variable {P:Program}{w:World}{K:PySem.W.Frag}{mg:Str->Option Value}{base:Heap}{a:Adr}
structure EI (C0 C:CH)(t k h:Addr)(ns:List Int)(κ κ':Kt)(name:Str)(ls:List Ln)(m:Nat):Prop where
 mh:C h=some (.lst (Ln.pvs ls))
 ok:∀x∈ls,LnOk κ.bs κ.rs 1 [name] x
 len:ls.length+m<=2
 tw:(Ln.tws ls:Int)<=κ.l - κ'.l
 pw:Ln.pws ls<=if κ.la.isSome then ls.length else 0
 ch:Chg κ κ'
 p:κ'.p=κ.p
 e:κ'.e=κ.e
 tp:Tp C t ns
 kt:KAt C t k κ'
 ex:ExS [t,k] C0 C
theorem ok_each (T:Txt P w K mg a)(r:Nat)(h1:6<=r)
  (tF:FnOk P w K mg base CX0 r (a.f 18) (a.d 18) U0 (spC K (gP 0 0))) :
  FnOk P w K mg base CX0 (r+1) (a.f 20) (a.d 20) U4 (spC K (J7 1)):=by
 have S:=(T.F 20 rfl).s;have uQ:=(rZ (base:=base) T).mono (show 1<=r by omega);have tZ:=(nG (base:=base) T).mono (show 2<=r by omega);have wU:=(lC (base:=base) T).mono (show 3<=r by omega);have qY:=(vM (base:=base) T).mono (show 6<=r by omega)
 refine(T.F 20 rfl).ok (fun ts C R h=>?_) fun cdv A outer s H E hr=>⟨_,(xQ (wK (tX hr) (cv 1) vQ (rQ xV pJ (fZ (tX hr) (cv 1) vQ (fun _ _=>rfl)) zQ))
  (xQ (cs1 3 S.nd (cx (cf (T.F 11 rfl) tZ hr (qQ (cv 0) (ca1 zQ))) zQ))
  (xQ (cs1 4 S.nd (mQ (qQ vQ (ca1 (cf (T.F 10 rfl) uQ hr (qQ (cv 0) (ca1 zQ)))))))
  (xQ (wX (ct2 hX jX (cf (T.F 10 rfl) uQ hr (qQ (cv 0) (ca1 zQ))) zQ) (kQ (cs1 4 S.nd (cf (T.F 13 rfl) wU hr (qQ (cv 0) (qQ (cv 1) (ca1 (mQ iX))))))) qX)
  (xQ (cs1 5 S.nd (gX iX))
  (xQ (nD PassesOwn.never rfl rfl T.gV (ca1 (rQ oQ tQ zQ (cf (T.F 10 rfl) uQ hr (qQ (cv 0) (ca1 zQ))))) (cg1 6 S.nd) (kQ (wX (ct2 jK sZ (fZ (tX hr) (cv 1) vQ (fun _ _=>rfl)) zQ) (xQ (wK (tX hr) (cv 1) vQ (rQ xV pJ (fZ (tX hr) (cv 1) vQ (fun _ _=>rfl)) zQ))
  (kQ (wX (cw_pt (cw_and (ct2 op_notN Kp (fZ (tX hr) (cv 1) vQ (fun _ _=>rfl)) qU) (cw_and1 (ct2 hX jX (cf (T.F 10 rfl) uQ hr (qQ (cv 0) (ca1 zQ))) zQ)))) (kQ (vZ (cap (cv 5) (cf (T.F 19 rfl) qY hr (qQ (cv 0) (qQ (cv 1) (qQ (mQ (ca1 (cv 3))) (ca1 (fZ (tX hr) (cv 1) vQ (fun _ _=>rfl)))))))))) (kQ (vZ (cap (cv 5) (cf (T.F 18 rfl) tF hr (qQ (cv 0) (qQ (cv 1) (qQ (mQ (ca1 (cv 3))) (ca1 zQ))))))))))) qX)))
  (kQ (bQ (mQ (qQ vQ (qQ (cv 3) (qQ (cv 4) (ca1 (ctp T.qZ (cv 5))))))))))))))),?_⟩
 .obtain ⟨t,k,d,ns,κ,rfl,_⟩:=h; rfl
 rintro ts C R ⟨t,k,d,ns,κ,rfl,hT,hk,ok,he,q⟩;have he1:κ.e=1:=by have:=ok.e1; omega
 refine xZ ?_;refine oJ hk.at_ rfl gL ?_;refine i_i ?_;refine oW hk.at_ rfl (by show 6<=1000; decide) ?_;rw[lL]
 try dsimp only
 have k1:=hk.put κ.l κ.p (κ.e - 1) κ.la;have T1:=hT.put hk.nk (.dK (nX κ.b κ.r κ.l κ.p (κ.e - 1) (uG κ.la)));have x1:ExS [t,k] C (gQ C k (.dK (nX κ.b κ.r κ.l κ.p (κ.e - 1) (uG κ.la)))):=ExS.refl.at (by simp) _;refine yQ ?_;refine⟨t,1,ns,rfl,T1,by decide,by decide,fun p ss C2 m2 _ pt hl nd T2 e2=>?_⟩;have hl:ss.length=1:=hl
 obtain⟨name,rfl⟩:∃tag,ss=[tag]:=by
  match ss,hl with
  |[x],_=>exact⟨x,rfl⟩
 refine sX m2 sQ ?_
 try dsimp only
 refine yQ ?_;refine⟨t,4,ns,rfl,T2,by decide,by decide,fun v C3 v0 v1 T3 e3=>⟨by show 2<=sizeLine; decide,?_⟩⟩
 try dsimp only
 have k3:=(k1.ex e2).ex e3;have x3:ExS [t,k] C C3:=x1.trans (ExS.ofEx (e2.trans e3));refine aQ (fun ρ' C'=>∃rk:Rk,rk.ok κ.bs [] 0/\ρ'=[some (.ref t),some (.ref k),some (.int (d:Nat)),some (.str name),some rk.pv,none,none]/\Tp C' t ns/\Ex t C3 C') (fun L hL=>?_) ?_
 .refine ⟨t,3,ns,rfl,T3,by decide,by decide,fun z C4 z0 z1 T4 e4=>?_⟩
  refine yX (zZ _ _) ?_;refine pZ (fun hb=>?_) fun hb=>?_
  .refine ⟨by show 0<=sizeLine; decide,?_⟩
   refine⟨t,k,[],ns,_,rfl,T4,k3.ex e4,Nat.zero_le _,fun rk C5 hrk T5 e5=>?_⟩;exact hL _ _ ⟨rk,hrk,rfl,T5,e4.trans e5⟩
  .refine bX ?_
   exact hL _ _ ⟨.num v,⟨by omega,by omega⟩,rfl,T4,e4⟩
 rintro ρ' C4 ⟨rk,hrk,rfl,T4,e4⟩
 try dsimp only
 have k4:=k3.ex e4;have x4:ExS [t,k] C C4:=x3.trans (ExS.ofEx e4);have k5:KAt C4 t k { κ with l:=κ.l,e:=κ.e - 1 }:=k4;have T5:=T4;have x5:=x4;generalize C4=C5 at k5 T5 x5 ⊢;refine yQ ?_;refine⟨by show 0<=sizeLine; decide,fun h hh=>?_⟩;have nht:=T5.ne hh;have nhk:h≠k:=fun z=>by subst z; rw[k5.at_] at hh; cases hh
 have nb:h≠κ.b:=fun z=>by have:=k5.bx; rw[<- z,hh] at this; cases this
 have nr:h≠κ.r:=fun z=>by have:=k5.rx; rw[<- z,hh] at this; cases this
 have nS:h∉[t,k]:=fun z=>by
  rcases List.mem_cons.1 z with z | z
  .exact nht z
  .exact nhk (List.mem_singleton.1 z)
 have hh0:C h=none:=x5.none nS hh
 try dsimp only
 have c5:Chg κ { κ with l:=κ.l,e:=κ.e - 1 }:=⟨rfl,rfl,rfl,rfl,rfl,ok.l0,Int.le_refl _,ok.p0,Int.le_refl _,by show 0<=κ.e - 1; omega,by show κ.e - 1<=κ.e; omega⟩;have ok5:Kok { κ with l:=κ.l,e:=κ.e - 1 } 0 [name]:=⟨c5.l0,Int.le_trans c5.l1 ok.l1,ok.p0,ok.p1,c5.e0,by show κ.e - 1<=0; omega,fun z=>absurd z (by decide),fun z=>absurd (show(0:Int) < κ.e - 1 from z) (by omega),by show 1<=4; decide⟩;refine aQ (fun ρ' C'=>∃(ls:List Ln) (κ':Kt) (x7:Option PV),ρ'=[some (.ref t),some (.ref k),some (.int (d:Nat)),some (.str name),some rk.pv,some (.ref h),x7]/\EI C C' t k h ns { κ with l:=κ.l,e:=κ.e - 1 } κ' name ls 0) (fun L hL=>?_) ?_
 .refine ⟨t,2,ns,rfl,T5.new hh _,by decide,by decide,fun v2 C6 v20 v21 T6 e6=>?_⟩
  refine uW ?_;refine⟨by omega,by omega,?_⟩;have k6:KAt C6 t k { κ with l:=κ.l,e:=κ.e - 1 }:=(k5.upd nhk nb nr _).ex e6;refine yZ (fun zs ρ C'=>∃(ls:List Ln) (κ':Kt) (x7:Option PV),ρ=[some (.ref t),some (.ref k),some (.int (d:Nat)),some (.str name),some rk.pv,some (.ref h),x7]/\EI C C' t k h ns { κ with l:=κ.l,e:=κ.e - 1 } κ' name ls zs.length) ?_ ?_ _ _ _ ⟨[],_,_,rfl,⟨e6 _ _ nht jQ,(fun _ z=>nomatch z),by rw[List.length_map,List.length_range]; show 0+_<=2; omega,by show(0:Int)<=_ - _; omega,Nat.zero_le _,Chg.refl ok5,rfl,rfl,T6,k6,(x5.put hh0 _).trans (ExS.ofEx e6)⟩⟩
  .rintro z zs ρ C7 ⟨ls,κ1,x7,rfl,I⟩ L3 hL3
   have ok7:=ok5.chg I.ch;have hll:=I.len;rw[List.length_cons] at hll;refine oJ I.kt.at_ rfl lB ?_;refine i_i ?_;refine pZ (fun hb=>?_) fun hb=>?_
   .have hb:=of_decide_eq_true hb
    refine xZ ?_;refine oJ I.kt.at_ rfl lB ?_;refine i_i ?_;refine oW I.kt.at_ rfl (by show 6<=1000; decide) ?_;rw[aS]
    try dsimp only
    have k8:=I.kt.put (κ1.l - 1) κ1.p κ1.e κ1.la;have T8:=I.tp.put hk.nk (.dK (nX κ1.b κ1.r (κ1.l - 1) κ1.p κ1.e (uG κ1.la)));have mh8:gQ C7 k (.dK (nX κ1.b κ1.r (κ1.l - 1) κ1.p κ1.e (uG κ1.la))) h=some (.lst (Ln.pvs ls)):=by rw[wQ nhk]; exact I.mh
    have x8:ExS [t,k] C (gQ C7 k (.dK (nX κ1.b κ1.r (κ1.l - 1) κ1.p κ1.e (uG κ1.la)))):=I.ex.at (by simp) _;generalize gQ C7 k (.dK (nX κ1.b κ1.r (κ1.l - 1) κ1.p κ1.e (uG κ1.la)))=C8 at k8 T8 mh8 x8 ⊢;have k8:KAt C8 t k { κ1 with l:=κ1.l - 1 }:=k8;have c8:Chg κ1 { κ1 with l:=κ1.l - 1 }:=⟨rfl,rfl,rfl,rfl,rfl,by show 0<=κ1.l - 1; omega,by show κ1.l - 1<=κ1.l; omega,I.ch.p0,Int.le_refl _,I.ch.e0,Int.le_refl _⟩
    have ela:κ1.la=κ.la:=I.ch.la
    have more:∀(l:Ln) (κ2:Kt) (C9:CH),LnOk κ.bs κ.rs 1 [name] l->(l.tw:Int)<=1+(κ1.l - 1 - κ2.l)->(l.pw<=if κ.la.isSome then 1 else 0)->Chg { κ1 with l:=κ1.l - 1 } κ2->κ2.p=κ1.p->κ2.e=κ1.e->Tp C9 t ns->KAt C9 t k κ2->ExS [t,k] C8 C9->(∀ρ' C',(∃(ls:List Ln) (κ':Kt) (x7:Option PV),ρ'=[some (.ref t),some (.ref k),some (.int (d:Nat)),some (.str name),some rk.pv,some (.ref h),x7]/\EI C C' t k h ns { κ with l:=κ.l,e:=κ.e - 1 } κ' name ls zs.length)->L3 ρ' C') ->
      nW (.ref h) [l.pv] C9 fun _ C'=>L3 [some (.ref t),some (.ref k),some (.int (d:Nat)),some (.str name),some rk.pv,some (.ref h),some z] C':=by
     intro l κ2 C9 h1 h2 h3 h4 h5 h6 T9 k9 x9 hL';have mh9:=x9 h _ nS mh8;refine xU mh9 (by rw[Ln.pvs_len]; exact Nat.lt_of_lt_of_le (show ls.length < 4 by omega) (by decide)) ?_;have b2:h≠κ2.b:=by rw[h4.b]; show h≠κ1.b; rw[I.ch.b]; exact nb
     have r2:h≠κ2.r:=by rw[h4.r]; show h≠κ1.r; rw[I.ch.r]; exact nr
     refine hL' _ _ ⟨ls++[l],κ2,_,rfl,⟨by rw[jQ,Ln.pvs_app]; rfl,fun x hx=>?_,by rw[List.length_append,List.length_singleton]; omega,?_,?_,I.ch.trans (c8.trans h4),h5.trans I.p,h6.trans I.e,T9.put nht _,k9.upd nhk b2 r2 _,(x8.trans x9).put hh0 _⟩⟩
     .rcases List.mem_append.1 hx with hx | hx
      .exact I.ok x hx
      .cases List.mem_singleton.1 hx; exact h1
     .rw [Ln.tws_app]
      have:=I.tw;show((Ln.tws ls+(l.tw+0):Nat):Int)<=_;omega
     .rw [Ln.pws_app,List.length_append,List.length_singleton]
      have g:=I.pw;have g:Ln.pws ls<=if κ.la.isSome then ls.length else 0:=g
      show Ln.pws ls+(l.pw+0)<=if κ.la.isSome then ls.length+1 else 0
      cases hz:κ.la.isSome with
      |true=>rw[hz,if_pos rfl] at g h3; rw[if_pos rfl]; omega
      |false=>rw[hz,if_neg Bool.false_ne_true] at g h3; rw[if_neg Bool.false_ne_true]; omega
    have e1z:κ1.e=0:=by have:=I.e; have:κ1.e=κ.e - 1:=this; omega
    have elseB:∀C9,Tp C9 t ns->Ex t C8 C9->gP 0 0 [.ref t,.ref k,.tup [.str name],.int 0] C9 fun v C'=>nW (.ref h) [v] C' fun _ C''=>L3 [some (.ref t),some (.ref k),some (.int (d:Nat)),some (.str name),some rk.pv,some (.ref h),some z] C'':=by
     intro C9 T9 e9;refine⟨t,k,[name],ns,_,rfl,T9,k8.ex e9,ok7.chg c8,fun l κ2 C10 g1 g2 g3 T10 k10 x10=>?_⟩;obtain⟨n1,n2⟩:=g2.n (fun z=>nomatch z);refine more l κ2 C10 ?_ ?_ (by rw[n1]; exact Nat.zero_le _) g3 n2 ?_ T10 k10 ((ExS.ofEx e9).trans x10) hL3
     .have:LnOk κ1.bs κ1.rs 1 [name] l:=g1
      rw[I.ch.bs,I.ch.rs] at this;exact this
     .have:=g2.t
      have this:(l.tw:Int)<=1 * (1+(κ1.l - 1 - κ2.l)):=this;omega
     .have a1:=g3.e0
      have a2:=g3.e1;have a2:κ2.e<=κ1.e:=a2;omega
    refine oJ k8.at_ rfl yS ?_;refine c_i ?_;refine JY (fun hb2=>?_) fun hb2=>?_
    .refine ⟨t,2,ns,rfl,T8,by decide,by decide,fun z2 C9 z20 z21 T9 e9=>?_⟩
     refine yX (zZ _ _) ?_;refine pZ (fun hb3=>?_) fun hb3=>?_
     .have hb2:(!qI (uG κ1.la))=true:=hb2
      obtain⟨sl,hsl⟩:∃sl,κ1.la=some sl:=by
       cases hz:κ1.la with
       |none=>rw[hz] at hb2; cases hb2
       |some sl=>exact⟨sl,rfl⟩
      have k9:=k8.ex e9;refine⟨cW (e9 _ _ nht mh8),?_⟩;refine⟨by show 1<=sizeLine; decide,?_⟩;refine oJ k9.at_ rfl (v:=.str sl) (by rw[yS]; show some (uG κ1.la)=_; rw[hsl]; rfl) ?_;refine⟨t,k,[name],ns,_,sl,rfl,T9,k9,by show 1<=4; decide,fun o g C10 ho hg hgl T10 e10=>?_⟩;refine more (.part o sl g) { κ1 with l:=κ1.l - 1 } C10 ?_ ?_ ?_ (Chg.refl (ok7.chg c8)) rfl rfl T10 (k9.ex e10) ((ExS.ofEx e9).trans (ExS.ofEx e10)) hL3
      .have ho:eC κ1.bs [name] o:=ho
       have hg:pH κ1.bs [name] 1 g:=hg;rw[I.ch.bs] at ho hg;exact⟨ho,ok.ly he sl (by rw[<- ela]; exact hsl),hg,hgl⟩
      .show ((1:Nat):Int)<=1+(κ1.l - 1 - (κ1.l - 1)); omega
      .rw [<- ela,hsl]; exact Nat.le_refl _
     .refine ⟨cW (e9 _ _ nht mh8),?_⟩
      refine⟨by show 1<=sizeLine; decide,?_⟩;exact elseB C9 T9 e9
    .refine eU rfl ?_
     refine⟨cW mh8,?_⟩;refine⟨by show 1<=sizeLine; decide,?_⟩;exact elseB C8 T8 Ex.refl
   .refine bX ?_
    exact hL3 _ _ ⟨ls,κ1,_,rfl,⟨I.mh,I.ok,by omega,I.tw,I.pw,I.ch,I.p,I.e,I.tp,I.kt,I.ex⟩⟩
  .rintro ρ C7 ⟨ls,κ1,x7,rfl,I⟩
   exact hL _ _ ⟨ls,κ1,_,rfl,I⟩
 rintro ρ' C7 ⟨ls,κ1,x7,rfl,I⟩
 try dsimp only
 refine rJ I.mh ?_;refine⟨by show 4<=sizeLine; decide,?_⟩;have cl0:=I.ch.l0;have cl1:κ1.l<=κ.l:=I.ch.l1;have ce:κ1.e=κ.e - 1:=I.e;have cp:κ1.p=κ.p:=I.p;have ctw:(Ln.tws ls:Int)<=κ.l - κ1.l:=I.tw;have cpw:Ln.pws ls<=if κ.la.isSome then ls.length else 0:=I.pw
 have cll:ls.length+0<=2:=I.len;refine q (.each name rk ls) κ1 _ ?_ ?_ ?_ I.tp I.kt I.ex
 .exact ⟨hrk,fun x hx=>(I.ok x hx).mono (by decide),by omega⟩
 .refine ⟨?_,?_,fun z=>absurd rfl z⟩
  .show ((8 * Ln.tws ls:Nat):Int)<=8 * (1+(κ.l - κ1.l))
   omega
  .show ((8 * Ln.pws ls:Nat):Int)<=(κ.p - κ1.p)+zOf κ * (κ.e - κ1.e)
   have e1:κ.e - κ1.e=1:=by omega
   rw[e1,Int.mul_one];unfold zOf
   cases hz:κ.la.isSome with
   |true=>rw[hz,if_pos rfl] at cpw; rw[if_pos rfl]; omega
   |false=>rw[hz,if_neg Bool.false_ne_true] at cpw; rw[if_neg Bool.false_ne_true]; omega
 .exact ⟨I.ch.b,I.ch.r,I.ch.bs,I.ch.rs,I.ch.la,I.ch.l0,by omega,I.ch.p0,I.ch.p1,I.ch.e0,by show κ1.e<=κ.e; omega⟩
end
structure Pt where
 name:Str
 first:List (Str×Int)
 works:List (Str×Rk)
 ls:List Ln
def Pt.pv (x:Pt):PV:=.tup [.str x.name,.tup (x.first.map dQ),.tup (x.works.map eV),.tup (Ln.pvs x.ls)]
structure Za (rs:List Str)(cap:Nat)(x:Pt):Prop where
 fl:x.first.length<=4
 wk:pH (x.first.map (·.1)) [] 1 x.works
 wl:x.works.length<=4
 ls:∀l∈x.ls,LnOk (x.first.map (·.1)) rs 6 [] l
 ll:x.ls.length<=6
 tw:Ln.tws x.ls<=48
 pw:Ln.pws x.ls<=cap
 fb:∀c∈x.first,-1000000000<=c.2/\c.2<=1000000000
theorem ZO {p:Addr}{ts:List (PV×PV)}{ps:List (Key×PV)}{C:CH}{Q:K1}(m:C p=some (.dK []))(e:prK ts=some ps)(h:ps.length<=15)(q:Q (.ref p) (gQ C p (.dK (aV [] ps)))):zL p ts C Q:=by
 unfold zL;refine⟨m,?_⟩;rw[e];exact⟨h,q⟩
theorem cO {ss:List Str}(n:Nat):gD (ss.map PV.str) (some ((n:Int)+1)) none=(ss.drop (n+1)).map PV.str:=by
 unfold gD
 have e:HT.sIx (ss.map PV.str).length 0 (some ((n:Int)+1))=min (n+1) ss.length:=by
  have:((n:Int)+1)=((n+1:Nat):Int):=by omega
  rw[this,HT.sIx_nat,List.length_map]
 rw[e,HT.sIx_none,List.length_map,<- List.map_drop,List.take_of_length_le (by rw[List.length_map,List.length_drop]; exact Nat.le_refl _)]
 congr 1
 by_cases h:n+1<=ss.length
 .rw [Nat.min_eq_left h]
 .rw [Nat.min_eq_right (by omega),List.drop_of_length_le (Nat.le_refl _),List.drop_of_length_le (by omega)]
theorem KQ {ss:List Str}(h:1 < ss.length):∃s∈ss.drop 1,atI (ss.map PV.str) (-1)=some (.str s):=by
 unfold atI ixN;rw[if_neg (by decide),List.length_map,if_pos (by omega)];have e:((ss.length:Int) + -1).toNat=ss.length - 1:=by omega
 refine⟨ss[ss.length - 1],?_,?_⟩
 .have:ss[ss.length - 1]=(ss.drop 1)[ss.length - 2]'(by rw[List.length_drop]; omega):=by
   rw[List.getElem_drop]
   congr 1
   omega
  rw[this];exact List.getElem_mem _
 .show (ss.map PV.str)[((ss.length:Int) + -1).toNat]?=_
  rw[e,List.getElem?_map,List.getElem?_eq_getElem (by omega)]
  rfl
theorem aI {ss:List Str}{n:Nat}(h:n < ss.length):atI (ss.map PV.str) (n:Int)=some (.str ss[n]):=by
 have:=bB (xs:=ss.map PV.str) (k:=n) (by rw[List.length_map]; exact h);rw[List.getElem_map] at this;exact this
section
variable {P:Program}{w:World}{K:PySem.W.Frag}{mg:Str->Option Value}{base:Heap}{a:Adr}
theorem mJ {f:Addr}{fd:FuncData}{ps:List Str}{r:Nat}{G:GC}(h:∀ts C Q,¬ G ts C Q):FnOk P w K mg base CX0 r f fd ps (spC K G) :=
 ⟨fun vs H Q E ⟨ts,C,R,_,_,z,_⟩=>(h _ _ _ z).elim,fun _ _ _ _ _ _ _ _ _ _ _ _ _ ⟨ts,C,R,_,_,z,_⟩=>(h _ _ _ z).elim⟩
theorem uT {e d r:Nat}(h:∀d',d=d'+1->FnOk P w K mg base CX0 r (a.f 22) (a.d 22) U0 (spC K (yB e d'))):FnOk P w K mg base CX0 r (a.f 22) (a.d 22) U0 (spC K (jR e d)):=by
 cases d with
 |zero=>exact mJ fun ts C Q ⟨d',e,_⟩=>by omega
 |succ d' =>
  have e:jR e (d'+1)=yB e d':=by
   funext ts C Q
   refine propext ⟨fun⟨d'',z,h⟩=>?_,fun h=>⟨d',rfl,h⟩⟩;cases Nat.succ.inj z;exact h
  rw[e];exact h d' rfl
theorem Xs (T:Txt P w K mg a):FnOk P w K mg base CX0 8 (a.f 18) (a.d 18) U0 (spC K (gP 0 0)) :=
 yT (base:=base) T 0 0 7 (by decide) (uT fun d' e=>by omega)
theorem Jh (T:Txt P w K mg a):FnOk P w K mg base CX0 13 (a.f 20) (a.d 20) U4 (spC K (J7 1)) :=
 (ok_each (base:=base) T 8 (by decide) (Xs T)).mono (by decide)
theorem vN (T:Txt P w K mg a)(d:Nat):FnOk P w K mg base CX0 (15+3 * d) (a.f 22) (a.d 22) U0 (spC K (yB 1 d)):=by
 have step:∀d,(∀d',d=d'+1->FnOk P w K mg base CX0 (12+3 * d) (a.f 22) (a.d 22) U0 (spC K (yB 1 d')))->FnOk P w K mg base CX0 (15+3 * d) (a.f 22) (a.d 22) U0 (spC K (yB 1 d)):=by
  intro d h;have lo:=uT (e:=1) (d:=d) (r:=12+3 * d) h;have pl:=yT (base:=base) T 1 d (12+3 * d) (by omega) lo;have ln:=ok_line (base:=base) T 1 d (12+3 * d+1) (by decide) (by omega) (lo.mono (by omega)) pl ((Jh T).mono (by omega));have:=Jd (base:=base) T 1 d (12+3 * d+1+1) (by omega) ln;have e:12+3 * d+1+1+1=15+3 * d:=by omega
  rw[e] at this;exact this
 induction d with
 |zero=>exact step 0 fun d' e=>by omega
 |succ d ih=>exact step (d+1) fun d' e=>by cases Nat.succ.inj e; exact ih.mono (by omega)
end
section
variable {P:Program}{w:World}{K:PySem.W.Frag}{mg:Str->Option Value}{base:Heap}{a:Adr}
theorem ok_or {f:Addr}{fd:FuncData}{ps:List Str}{r:Nat}{G1 G2:GC}(h1:FnOk P w K mg base CX0 r f fd ps (spC K G1))(h2:FnOk P w K mg base CX0 r f fd ps (spC K G2)):FnOk P w K mg base CX0 r f fd ps (spC K (fun ts C Q=>G1 ts C Q\/G2 ts C Q)) :=
 ⟨fun vs H Q E ⟨ts,C,R,x,y,z,u⟩=>by
  rcases z with z | z
  .exact h1.len vs H Q E ⟨ts,C,R,x,y,z,u⟩
  .exact h2.len vs H Q E ⟨ts,C,R,x,y,z,u⟩,fun A outer s H args us vs Q E rm e0 bt vl ⟨ts,C,R,x,y,z,u⟩=>by
  rcases z with z | z
  .exact h1.run A outer s H args us vs Q E rm e0 bt vl ⟨ts,C,R,x,y,z,u⟩
  .exact h2.run A outer s H args us vs Q E rm e0 bt vl ⟨ts,C,R,x,y,z,u⟩⟩
def eJ (k:Nat):Nat:=if k=0 then 18 else 2
structure KS (κ:Kt)(bl rl:Addr)(bs rs:List Str)(k:Nat):Prop where
 b:κ.b=bl
 r:κ.r=rl
 bs:κ.bs=bs
 rs:κ.rs=rs
 l:κ.l=6
 p0:1<=κ.p
 p1:κ.p<=2
 e0:0<=κ.e
 e1:κ.e<=1
 ly:0 < κ.e->∀s,κ.la=some s->s∈κ.rs
 cap:κ.p+zOf κ * κ.e<=(eJ k:Nat)
def gPart:GC:=fun ts C Q=>∃(t nl:Addr) (ns:List Int) (names:List Str) (k:Nat) (keyed:Bool),ts=[.ref t,.ref nl,.int (k:Nat),.bl keyed]/\Tp C t ns/\C nl=some (.lst (names.map PV.str))/\nl≠t/\names.length<=6/\k < names.length /\
 ∀(x:Pt) (C':CH),names[k]?=some x.name->Za (names.drop (k+1)) (eJ k) x->Tp C' t ns->Ex t C C'->Q x.pv C'
theorem ok_part (T:Txt P w K mg a):FnOk P w K mg base CX0 25 (a.f 23) (a.d 23) U8 (spC K gPart):=by
 have S:=(T.F 23 rfl).s;have uQ:=(rZ (base:=base) T).mono (show 1<=24 by decide);have tZ:=(nG (base:=base) T).mono (show 2<=24 by decide);have lJ:=(bU (base:=base) T).mono (show 2<=24 by decide);have dJ:=(zP (base:=base) T 1).mono (show 5<=24 by decide);have sK:=ok_or (vN (base:=base) T 3) ((vN (base:=base) T 1).mono (show 15+3 * 1<=24 by decide))
 refine(T.F 23 rfl).ok (fun ts C R h=>?_) fun cdv A outer s H E hr=>⟨_,(xQ (cs1 4 S.nd (cx (gX (qQ zQ (qQ zQ (qQ zQ (qQ zQ (qQ zQ (ca1 zQ))))))) (cf (T.F 10 rfl) uQ hr (qQ (cv 0) (ca1 zQ)))))
  (xQ (cs1 5 S.nd (cf (T.F 11 rfl) tZ hr (qQ (cv 0) (ca1 (cv 4)))))
  (xQ (cs1 6 S.nd (ce_disp (fY vQ (cv 5) (fY vQ (pI (cv 1) (bM (rQ oQ tQ (cv 2) zQ)) mM) (fY vQ zQ (fY vQ zQ (fY vQ zQ (fY vQ qU cps_nil))))))))
  (xQ (wX (cw_pt (cw_or (ct2 kM jG (cln T.bJ (cv 1)) zQ) (cw_or1 (cw_pt (cw_and (pP (cv 3)) (cw_and1 (ct2 hX jX (cv 2) zQ))))))) (kQ (wK (tX hr) (cv 6) vQ zQ)) qX)
  (xQ (wX (pP (cv 3)) (xQ (wK (tX hr) (cv 6) vQ (eX hU iD rfl T.vS rfl (ca1 (zU hX jX (cv 2) zQ (oY _)))))
  (xQ (wX (ct2 jK sZ (cln T.bJ (cv 1)) zQ) (kQ (wK (tX hr) (cv 6) vQ (cx (cv 1) (tO mL gM zQ)))) qX)
  (kQ (wX (ct2 jK sZ (cv 2) zQ) (kQ (wK (tX hr) (cv 6) vQ zQ)) qX)))) qX)
  (xQ (cs1 7 S.nd (ctp T.qZ (fM rfl (S.c (by decide +kernel)) (S.k rfl rfl rfl (by decide +kernel)) (cv 5) (fun _ _ _ _ _=>xJ) (fun _ _ _ _ _=>(mQ (qQ (cv 0) (ca1 (cf (T.F 12 rfl) lJ hr (ca1 (cv 1))))))))))
  (xQ (cs1 8 S.nd (cf (T.F 22 rfl) sK hr (qQ (cv 0) (qQ (cv 6) (qQ (mQ iX) (ca1 (cx (gX (qQ zQ (ca1 zQ))) (eX hU iD rfl T.vS rfl (ca1 (zU jK sZ (cln T.bJ (cv 1)) zQ (oY _)))))))))))
  (xQ (cs1 9 S.nd (cf (T.F 11 rfl) tZ hr (qQ (cv 0) (ca1 (cf (T.F 10 rfl) uQ hr (qQ (cv 0) (ca1 zQ)))))))
  (xQ (cs1 10 S.nd (ctp T.qZ (fM rfl (S.c (by decide +kernel)) (S.k rfl rfl rfl (by decide +kernel)) (cv 9) (fun _ _ _ _ _=>xJ) (fun _ _ _ _ _=>(mQ (qQ (cv 0) (ca1 (cf (T.F 14 rfl) dJ hr (qQ (cv 1) (qQ (cv 7) (qQ (mQ iX) (ca1 zQ))))))))))))
  (kQ (bQ (mQ (qQ (cx (cv 1) (cv 2)) (qQ (cv 7) (qQ (cv 10) (ca1 (cv 8))))))))))))))))),?_⟩
 .obtain ⟨t,nl,ns,names,k,keyed,rfl,_⟩:=h; rfl
 rintro ts C R ⟨t,nl,ns,names,k,keyed,rfl,hT,mn,nt,hnl,hkn,q⟩;refine yQ ?_;refine⟨by show 6<=sizeLine; decide,fun p1 hp1=>?_⟩;refine⟨t,6,ns,rfl,hT.new hp1 _,by decide,by decide,fun v C1 v0 v1 T1 e1=>?_⟩;have e01:Ex t C C1:=(Ex.new hp1 _).trans e1;refine sX (e1 p1 _ (hT.ne hp1) jQ) (yK (f:=PV.int) (ss:=[0,1,1,2,2,4]) 0 v0 v1) ?_
 have hm:0<=([0,1,1,2,2,4]:List Int).getD v.toNat 0/\([0,1,1,2,2,4]:List Int).getD v.toNat 0<=4:=by
  have:v=0\/v=1\/v=2\/v=3\/v=4\/v=5:=by omega
  rcases this with rfl | rfl | rfl | rfl | rfl | rfl<;>decide
 generalize ([0,1,1,2,2,4]:List Int).getD v.toNat 0=m at hm ⊢
 try dsimp only
 refine yQ ?_;refine⟨t,m,ns,rfl,T1,hm.1,by omega,fun bl bs C2 m2 n2 bt hbl nd T2 e2=>?_⟩;have e02:=e01.trans e2;have hbs:bs.length<=4:=by omega
 try dsimp only
 refine yQ ?_;intro kd hkd;have T3:=T2.new hkd (.dK []);have nkt:=T2.ne hkd;refine uW ?_;refine sl_l (Gr.new hkd _ _ _ (e02 _ _ nt mn)) fun rl hrl=>?_;have T4:=T3.new hrl (.lst (gD (names.map PV.str) (some ((k:Int)+1)) none));have nrt:=T3.ne hrl;have nkr:kd≠rl:=fun z=>by subst z; rw[jQ] at hrl; cases hrl
 have hrl2:C2 rl=none:=by rw[wQ (Ne.symm nkr)] at hrl; exact hrl
 have nbk:bl≠kd:=fun z=>by rw[z,hkd] at m2; cases m2
 have nbr:bl≠rl:=fun z=>by rw[z,hrl2] at m2; cases m2
 rw[cO];rw[cO] at T4;refine ZO (ps:=nX bl rl 6 1 1 .non) (by rw[wQ nkr]; exact jQ) rfl (by show 6<=15; decide) ?_;rw[show aV [] (nX bl rl 6 1 1 .non)=nX bl rl 6 1 1 .non from rfl]
 try dsimp only
 have T5:=T4.put nkt (.dK (nX bl rl 6 1 1 .non))
 have x5:Ex t C (gQ (gQ (gQ C2 kd (.dK [])) rl (.lst ((names.drop (k+1)).map PV.str))) kd (.dK (nX bl rl 6 1 1 .non))) :=
  ((e02.trans (Ex.new hkd _)).trans (Ex.new hrl _)).put (e02.none nkt hkd) _
 have k5:KAt (gQ (gQ (gQ C2 kd (.dK [])) rl (.lst ((names.drop (k+1)).map PV.str))) kd (.dK (nX bl rl 6 1 1 .non))) t kd ⟨bl,rl,bs,names.drop (k+1),6,1,1,none⟩:=by
  refine⟨jQ,?_,?_,nkt,bt,nrt,hbs,?_⟩
  .show gQ (gQ (gQ C2 kd (.dK [])) rl (.lst ((names.drop (k+1)).map PV.str))) kd (.dK (nX bl rl 6 1 1 .non)) bl=_
   rw[wQ nbk,wQ nbr,wQ nbk]; exact m2
  .show gQ (gQ (gQ C2 kd (.dK [])) rl (.lst ((names.drop (k+1)).map PV.str))) kd (.dK (nX bl rl 6 1 1 .non)) rl=_
   rw[wQ (Ne.symm nkr)]; exact jQ
  .show (names.drop (k+1)).length<=6
   rw[List.length_drop]; omega
 have kd0:C kd=none:=e02.none nkt hkd;generalize gQ (gQ (gQ C2 kd (.dK [])) rl (.lst ((names.drop (k+1)).map PV.str))) kd (.dK (nX bl rl 6 1 1 .non))=C5 at T5 x5 k5 ⊢;refine aQ (fun ρ' C'=>∃p:Int,1<=p/\p<=2/\ρ'=[some (.ref t),some (.ref nl),some (.int (k:Nat)),some (.bl keyed),some (.int m),some (.ref bl),some (.ref kd),none,none,none,none]/\Tp C' t ns/\Ex t C C'/\KAt C' t kd ⟨bl,rl,bs,names.drop (k+1),6,p,1,none⟩) (fun L hL=>?_) ?_
 .have yes:∀L':CSt->CH->Prop,L'=L->eP (.ref kd) (.str "parts") (.int 2) C5 fun C4=>L' [some (.ref t),some (.ref nl),some (.int (k:Nat)),some (.bl keyed),some (.int m),some (.ref bl),some (.ref kd),none,none,none,none] C4:=by
   rintro L' rfl;refine oW k5.at_ rfl (by show 6<=1000; decide) ?_;exact hL _ _ ⟨2,by decide,by decide,rfl,T5.put nkt _,x5.put kd0 _,k5.put 6 2 1 none⟩
  refine oG (x5 _ _ nt mn) ?_;refine i_i ?_;refine pZ (fun hb=>?_) fun hb=>?_
  .refine JX rfl ?_
   exact yes _ rfl
  .refine JY (fun hb2=>?_) fun hb2=>?_
   .refine yX (zZ _ _) ?_
    refine pZ (fun hb3=>?_) fun hb3=>?_
    .exact yes _ rfl
    .refine bX ?_
     exact hL _ _ ⟨1,by decide,by decide,rfl,T5,x5,k5⟩
   .refine eU rfl ?_
    refine bX ?_;exact hL _ _ ⟨1,by decide,by decide,rfl,T5,x5,k5⟩
 clear k5 T5 x5;rintro ρ' C6 ⟨p,p0,p1,rfl,T6,x6,k6⟩
 try dsimp only
 have zle:∀κ:Kt,zOf κ<=16:=fun κ=>by unfold zOf; split<;>decide
 refine aQ (fun ρ' C'=>∃κ:Kt,KS κ bl rl bs (names.drop (k+1)) k/\ρ'=[some (.ref t),some (.ref nl),some (.int (k:Nat)),some (.bl keyed),some (.int m),some (.ref bl),some (.ref kd),none,none,none,none]/\Tp C' t ns/\Ex t C C'/\KAt C' t kd κ) (fun L hL=>?_) ?_
 .refine JY (fun hb=>?_) fun hb=>?_
  .refine xZ ?_
   refine yX (zZ _ _) ?_;refine QG ?_;refine oW k6.at_ rfl (by show 6<=1000; decide) ?_;rw[lL]
   try dsimp only
   have he:∃e:Int,(if id (decide ((k:Int)=0))=true then (1:Int) else 0)=e/\((k=0/\e=1)\/(0 < k/\e=0)):=by
    by_cases hk0:k=0
    .refine ⟨1,?_,.inl ⟨hk0,rfl⟩⟩
     rw[if_pos (by show decide ((k:Int)=0)=true; exact decide_eq_true (by omega))]
    .refine ⟨0,?_,.inr ⟨by omega,rfl⟩⟩
     rw[if_neg (by show ¬ decide ((k:Int)=0)=true; rw[decide_eq_false (by omega)]; decide)]
   obtain⟨e,ee,hek⟩:=he;rw[ee];have k7:=k6.put 6 p e none;have T7:=T6.put nkt (.dK (nX bl rl 6 p e (uG none)));have x7:=x6.put kd0 (.dK (nX bl rl 6 p e (uG none)));have e7:(CO.dK (nX bl rl 6 p e .non))=.dK (nX bl rl 6 p e (uG none)):=rfl;show jE _ _ _ _ (gQ C6 kd (CO.dK (nX bl rl 6 p e (uG none))));generalize gQ C6 kd (CO.dK (nX bl rl 6 p e (uG none)))=C7 at k7 T7 x7 ⊢;refine aQ (fun ρ' C'=>∃la:Option Str,(k=0->∀s,la=some s->s∈names.drop (k+1))/\ρ'=[some (.ref t),some (.ref nl),some (.int (k:Nat)),some (.bl keyed),some (.int m),some (.ref bl),some (.ref kd),none,none,none,none]/\Tp C' t ns/\Ex t C C'/\KAt C' t kd ⟨bl,rl,bs,names.drop (k+1),6,p,e,la⟩) (fun L1 hL1=>?_) ?_
   .refine oG (x7 _ _ nt mn) ?_
    refine i_i ?_;refine pZ (fun hb2=>?_) fun hb2=>?_
    .have hb2:=of_decide_eq_true hb2
     rw[List.length_map] at hb2;obtain⟨sl,hsl,esl⟩:=KQ (ss:=names) (by omega);refine sX (x7 _ _ nt mn) esl ?_;refine oW k7.at_ rfl (by show 6<=1000; decide) ?_;exact hL1 _ _ ⟨some sl,fun hk0 s hs=>by cases hs; rw[hk0]; exact hsl,rfl,T7.put nkt _,x7.put kd0 _,k7.put 6 p e (some sl)⟩
    .refine bX ?_
     exact hL1 _ _ ⟨none,(fun _ _ z=>nomatch z),rfl,T7,x7,k7⟩
   rintro ρ' C8 ⟨la,hla,rfl,T8,x8,k8⟩
   try dsimp only
   refine i_i ?_;refine pZ (fun hb2=>?_) fun hb2=>?_
   .have hb2:=of_decide_eq_true hb2
    have e0:e=0:=by omega
    subst e0;refine oW k8.at_ rfl (by show 6<=1000; decide) ?_;refine hL _ _ ⟨⟨bl,rl,bs,names.drop (k+1),6,1,0,la⟩,⟨rfl,rfl,rfl,rfl,rfl,Int.le_refl _,(by show(1:Int)<=2; decide),Int.le_refl _,(by show(0:Int)<=1; decide),fun z=>absurd (show(0:Int) < 0 from z) (by decide),?_⟩,rfl,T8.put nkt _,x8.put kd0 _,k8.put 6 1 0 la⟩;show(1:Int)+zOf _ * 0<=_;rw[Int.mul_zero];unfold eJ
    split<;>decide
   .refine bX ?_
    have hb2:=of_decide_eq_false hb2;have hk0:k=0:=by omega
    have e1:e=1:=by omega
    subst e1;refine hL _ _ ⟨⟨bl,rl,bs,names.drop (k+1),6,p,1,la⟩,⟨rfl,rfl,rfl,rfl,rfl,p0,p1,(by show(0:Int)<=1; decide),Int.le_refl _,fun _=>hla hk0,?_⟩,rfl,T8,x8,k8⟩;show p+zOf _ * 1<=_;rw[Int.mul_one];have:=zle ⟨bl,rl,bs,names.drop (k+1),6,p,1,la⟩;unfold eJ;rw[if_pos hk0];omega
  .refine bX ?_
   refine hL _ _ ⟨⟨bl,rl,bs,names.drop (k+1),6,p,1,none⟩,⟨rfl,rfl,rfl,rfl,rfl,p0,p1,(by show(0:Int)<=1; decide),Int.le_refl _,(fun _ _ z=>nomatch z),?_⟩,rfl,T6,x6,k6⟩;show p+0 * 1<=_;unfold eJ
   split<;>omega
 clear k6 T6 x6;rintro ρ' C7 ⟨κ,ks,rfl,T7,x7,k7⟩
 try dsimp only
 have mb7:C7 bl=some (.lst (bs.map PV.str)):=by have:=k7.bx; rw[ks.b,ks.bs] at this; exact this
 refine yQ ?_;refine cl_l mb7 rfl ?_;refine xG (β:=Int) dQ (fun i:Int=>-1000000000<=i/\i<=1000000000) (fun C'=>Tp C' t ns/\Ex t C7 C') (fun C' h=>h.2 _ _ bt mb7) (by omega) (fun z C8 L ⟨T8,e8⟩ hL=>?_) (fun fs C8 p8 ⟨T8,e8⟩ hp8 hfs hfo=>?_) ⟨T7,Ex.refl⟩
 .exact ⟨t,ns,rfl,T8,fun i C9 i0 i1 T9 e9=>⟨by show 2<=sizeLine; decide,hL i C9 ⟨i0,i1⟩ ⟨T9,e8.trans e9⟩⟩⟩
 refine rJ jQ ?_;have T9:=T8.new hp8 (.lst (fs.map dQ));have e9:Ex t C7 (gQ C8 p8 (.lst (fs.map dQ))):=e8.trans (Ex.new hp8 _);generalize gQ C8 p8 (.lst (fs.map dQ))=C9 at T9 e9 ⊢
 try dsimp only
 have k9:=k7.ex e9;have x9:Ex t C C9:=x7.trans e9;have ok9:Kok κ 1 []:=⟨by rw[ks.l]; decide,by rw[ks.l]; decide,by have:=ks.p0; omega,ks.p1,ks.e0,ks.e1,fun _=>rfl,ks.ly,Nat.zero_le _⟩;refine yQ ?_;refine⟨by show 0<=sizeLine; decide,?_⟩;refine⟨by show 2<=sizeLine; decide,fun p10 hp10=>?_⟩;have T10:=T9.new hp10 (.lst [PV.int 3,PV.int 1]);have k10:=k9.ex (Ex.new hp10 (.lst [PV.int 3,PV.int 1]));have x10:Ex t C (gQ C9 p10 (.lst [PV.int 3,PV.int 1])):=x9.trans (Ex.new hp10 _)
 refine oG (x10 _ _ nt mn) ?_;refine i_i ?_;refine QG ?_
 have fin:∀(ls:List Ln) (κ':Kt) (C':CH),(∀x∈ls,LnOk κ.bs κ.rs 6 [] x)->ls.length<=6->Wgt 1 [] κ κ' 0 (Ln.tws ls) (Ln.pws ls)->Chg κ κ'->Tp C' t ns->KAt C' t kd κ'->ExS [t,kd] (gQ C9 p10 (.lst [PV.int 3,PV.int 1])) C'->∀(x:Pt),x.name=names[k]->x.first=fs->x.ls=ls->pH bs [] 1 x.works->x.works.length<=4->∀C'',Tp C'' t ns->Ex t C' C''->R x.pv C'':=by
  intro ls κ' C' h1 h2 h3 h4 T' k' x' x xn xf xl xw xwl C'' T'' e'';refine q x C'' (by rw[List.getElem?_eq_getElem hkn,xn]) ?_ T'' ?_
  .have hfb:x.first.map (·.1)=bs:=by rw[xf]; exact hfs
   refine⟨by rw[xf,<- List.length_map (f:=(·.1)),hfs]; exact hbs,by rw[hfb]; exact xw,xwl,?_,by rw[xl]; exact h2,?_,?_,by rw[xf]; exact hfo⟩
   .rw [xl,hfb]
    intro l hl;have:=h1 l hl;rw[ks.bs,ks.rs] at this;exact this
   .rw [xl]
    have:=h3.t;have l0:=h4.l0;have kl:=ks.l;have this:(Ln.tws ls:Int)<=8 * (0+(κ.l - κ'.l)):=this;omega
   .rw [xl]
    have g:=h3.p;have c:=ks.cap;have e0:=h4.e0;have e1:=h4.e1;have q0:=h4.p0;have z:zOf κ=0\/zOf κ=16:=by unfold zOf; split; exact .inr rfl; exact .inl rfl
    rcases z with z | z<;>rw[z] at g c<;>omega
  .intro b o nb hb
   have nk:b≠kd:=fun z=>by rw[z,kd0] at hb; cases hb
   exact e'' b o nb (x' b o (fun z=>by
    rcases List.mem_cons.1 z with z | z
    .exact nb z
    .exact nk (List.mem_singleton.1 z)) (x10 b o nb hb))
 have rest:∀(ls:List Ln) (κ':Kt) (C':CH),(∀x∈ls,LnOk κ.bs κ.rs 6 [] x)->ls.length<=6->Wgt 1 [] κ κ' 0 (Ln.tws ls) (Ln.pws ls)->Chg κ κ'->Tp C' t ns->KAt C' t kd κ'->ExS [t,kd] (gQ C9 p10 (.lst [PV.int 3,PV.int 1])) C' ->
   gDraw [.ref t,.int 3] C' fun v C1=>J5 [.ref t,v] C1 fun wn C2=>aP (oZ 9) aU (sI (fJ (oZ 0) (fJ (wD (kI 1) (fJ (oZ 1) (fJ (oZ 7) (fJ (sI nM) (fJ (cC (.int 1)) nM))))) nM))) [some (.ref t),some (.ref nl),some (.int (k:Nat)),some (.bl keyed),some (.int m),some (.ref bl),some (.ref kd),some (.tup (fs.map dQ)),some (.tup (Ln.pvs ls)),some wn,none] C2 fun lv C3=>pF [lv] C3 fun wv C4=>cIx (.ref nl) (.int (k:Nat)) C4 fun nm C5=>4<=sizeLine/\R (.tup [nm,.tup (fs.map dQ),wv,.tup (Ln.pvs ls)]) C5:=by
  intro ls κ' C' h1 h2 h3 h4 T' k' x';refine⟨t,3,ns,rfl,T',by decide,by decide,fun v C11 v0 v1 T11 e11=>?_⟩;refine⟨t,v,ns,rfl,T11,v0,by omega,fun wl ws C12 m12 n12 wt hwl nd T12 e12=>?_⟩;refine cl_l m12 rfl ?_;have e1112:=e11.trans e12;refine xG (β:=Rk) eV (fun r=>r.ok bs [] 1) (fun C''=>Tp C'' t ns/\Ex t C12 C'') (fun C'' h=>h.2 _ _ wt m12) (by omega) (fun z C13 L ⟨T13,e13⟩ hL=>?_) (fun bs' C13 p13 ⟨T13,e13⟩ hp13 hb ho=>?_) ⟨T12,Ex.refl⟩
  .refine ⟨by show 0<=sizeLine; decide,?_⟩
   refine⟨t,kd,[],ns,κ',rfl,T13,k'.ex (e1112.trans e13),Nat.zero_le _,fun r C14 hr T14 e14=>⟨by show 2<=sizeLine; decide,hL r C14 ?_ ⟨T14,e13.trans e14⟩⟩⟩;rw[h4.bs,ks.bs] at hr;exact hr
  .refine rJ jQ ?_
   have e013:Ex t C' (gQ C13 p13 (.lst (bs'.map eV))):=(e1112.trans e13).trans (Ex.new hp13 _);have nnk:nl≠kd:=fun z=>by rw[z,kd0] at mn; cases mn
   have mn':C' nl=some (.lst (names.map PV.str)):=x' nl _ (fun z=>by
    rcases List.mem_cons.1 z with z | z
    .exact nt z
    .exact nnk (List.mem_singleton.1 z)) (x10 _ _ nt mn)
   refine sX (e013 _ _ nt mn') (aI hkn) ?_;refine⟨by decide,?_⟩;exact fin ls κ' C' h1 h2 h3 h4 T' k' x' ⟨names[k],fs,bs',ls⟩ rfl rfl rfl ho (by show bs'.length<=4; have:=congrArg List.length hb; rw[List.length_map] at this; omega) _ (T13.new hp13 _) e013
 have hd3:atI [PV.int 3,PV.int 1] (if decide ((((names.map PV.str).length:Nat):Int) > 3)=true then (1:Int) else 0)=some (.int 3)\/atI [PV.int 3,PV.int 1] (if decide ((((names.map PV.str).length:Nat):Int) > 3)=true then (1:Int) else 0)=some (.int 1):=by
  cases decide ((((names.map PV.str).length:Nat):Int) > 3) with
  |false=>exact .inl rfl
  |true=>exact .inr rfl
 rcases hd3 with hd | hd
 .refine sX jQ hd ?_
  refine .inl ⟨t,kd,[],ns,κ,rfl,T10,k10,ok9,fun ls κ' C' h1 h2 h3 h4 T' k' x'=>?_⟩;exact rest ls κ' C' (fun x hx=>(h1 x hx).mono (by decide)) h2 h3 h4 T' k' x'
 .refine sX jQ hd ?_
  refine .inr ⟨t,kd,[],ns,κ,rfl,T10,k10,ok9,fun ls κ' C' h1 h2 h3 h4 T' k' x'=>?_⟩;exact rest ls κ' C' (fun x hx=>(h1 x hx).mono (by decide)) h2 h3 h4 T' k' x'
end
def yJ (pts:List Pt):List Str:=pts.map (·.name)
structure nF (pts:List Pt):Prop where
 n1:1<=pts.length
 n6:pts.length<=6
 nd:(yJ pts).Nodup
 ok:∀k x,pts[k]?=some x->Za ((yJ pts).drop (k+1)) (eJ k) x
theorem qB {N j:Nat}{z:PV}{zs:List PV}(h:z::zs=((List.range N).drop j).map (fun k:Nat=>PV.int (k:Nat))):j < N/\z=.int (j:Nat)/\zs=((List.range N).drop (j+1)).map (fun k:Nat=>PV.int (k:Nat)):=by
 have hj:j < (List.range N).length:=by
  rcases Nat.lt_or_ge j (List.range N).length with h' | h'
  .exact h'
  .rw [List.drop_of_length_le h'] at h; cases h
 rw[List.drop_eq_getElem_cons hj,List.map_cons,List.getElem_range] at h;injection h with h1 h2
 exact⟨by rw[List.length_range] at hj; exact hj,h1,h2⟩
section
variable {P:Program}{w:World}{K:PySem.W.Frag}{mg:Str->Option Value}{base:Heap}{a:Adr}
def gHouse:GC:=fun ts C Q=>∃(t:Addr) (ns:List Int),ts=[.ref t]/\Tp C t ns/\∀(pts:List Pt) (C':CH),nF pts->Tp C' t ns->Ex t C C'->Q (.tup (pts.map Pt.pv)) C'
theorem Jf (T:Txt P w K mg a):FnOk P w K mg base CX0 26 (a.f 24) (a.d 24) U15 (spC K gHouse):=by
 have S:=(T.F 24 rfl).s;have uQ:=(rZ (base:=base) T).mono (show 1<=25 by decide);have tZ:=(nG (base:=base) T).mono (show 2<=25 by decide);have K2:=ok_part (base:=base) T
 refine(T.F 24 rfl).ok (fun ts C R h=>?_) fun cdv A outer s H E hr=>⟨_,(xQ (cs1 1 S.nd (cf (T.F 11 rfl) tZ hr (qQ (cv 0) (ca1 (cx (gX (qQ zQ (qQ zQ (qQ zQ (qQ zQ (qQ zQ (qQ zQ (qQ zQ (ca1 zQ))))))))) (cf (T.F 10 rfl) uQ hr (qQ (cv 0) (ca1 zQ))))))))
  (xQ (cs1 2 S.nd (zU hX jX (cf (T.F 10 rfl) uQ hr (qQ (cv 0) (ca1 zQ))) zQ (oY _)))
  (kQ (bQ (ctp T.qZ (eK rfl (S.c (by decide +kernel)) (S.k rfl rfl rfl (by decide +kernel)) (nP rfl T.gV (ca1 (cln T.bJ (cv 1)))) (fun _ _ _ _ _=>xJ) (fun _ _ _ _ _=>(cf (T.F 23 rfl) K2 hr (qQ (cv 1) (qQ (cv 2) (qQ (cv 0) (ca1 (cv 3))))))))))))),?_⟩
 .obtain ⟨t,ns,rfl,_⟩:=h; rfl
 rintro ts C R ⟨t,ns,rfl,hT,q⟩;refine yQ ?_;refine⟨by show 8<=sizeLine; decide,fun p1 hp1=>?_⟩;refine⟨t,8,ns,rfl,hT.new hp1 _,by decide,by decide,fun v C1 v0 v1 T1 e1=>?_⟩;have e01:Ex t C C1:=(Ex.new hp1 _).trans e1;refine sX (e1 p1 _ (hT.ne hp1) jQ) (yK (f:=PV.int) (ss:=[1,2,2,3,3,4,2,6]) 0 v0 v1) ?_
 have hm:1<=([1,2,2,3,3,4,2,6]:List Int).getD v.toNat 0/\([1,2,2,3,3,4,2,6]:List Int).getD v.toNat 0<=6:=by
  have:v=0\/v=1\/v=2\/v=3\/v=4\/v=5\/v=6\/v=7:=by omega
  rcases this with rfl | rfl | rfl | rfl | rfl | rfl | rfl | rfl<;>decide
 generalize ([1,2,2,3,3,4,2,6]:List Int).getD v.toNat 0=m at hm ⊢;refine⟨t,m,ns,rfl,T1,by omega,by omega,fun nl names C2 m2 n2 nt hnl nd T2 e2=>?_⟩
 try dsimp only
 refine yQ ?_;refine⟨t,2,ns,rfl,T2,by decide,by decide,fun z C3 z0 z1 T3 e3=>?_⟩;refine yX (zZ _ _) ?_
 try dsimp only
 have e03:=(e01.trans e2).trans e3;have m3:=e3 _ _ nt m2;refine oG m3 ?_;rw[List.length_map];refine⟨by omega,by omega,?_⟩;rw[Int.toNat_natCast];refine tJ (fun zs acc C'=>Tp C' t ns/\Ex t C3 C'/\∃pts:List Pt,acc=pts.map Pt.pv/\zs=((List.range names.length).drop pts.length).map (fun k:Nat=>PV.int (k:Nat))/\pts.length<=names.length/\yJ pts=names.take pts.length/\∀k x,pts[k]?=some x->Za (names.drop (k+1)) (eJ k) x) ?_ ?_ _ _ _ ⟨T3,Ex.refl,[],rfl,rfl,Nat.zero_le _,rfl,(fun k x h=>by simp at h)⟩
 .rintro x r acc C4 ⟨T4,e4,pts,rfl,hz,hpl,hpn,hpo⟩ L hL
  obtain⟨hj,rfl,rfl⟩:=qB hz;refine⟨t,nl,ns,names,pts.length,_,rfl,T4,e4 _ _ nt m3,nt,by omega,hj,fun x C5 hx ok5 T5 e5=>hL _ _ ⟨?_,T5,e4.trans e5,pts++[x],by rw[List.map_append]; rfl,by rw[List.length_append,List.length_singleton],by rw[List.length_append,List.length_singleton]; omega,?_,fun k y hy=>?_⟩⟩
  .rw [List.length_map]
   exact Nat.lt_of_lt_of_le (show pts.length < 7 by omega) (by decide)
  .rw [List.length_append,List.length_singleton,List.take_add_one,<- hpn,hx]
   unfold yJ;rw[List.map_append]
   rfl
  .rcases Nat.lt_trichotomy k pts.length with h | h | h
   .rw [List.getElem?_append_left h] at hy
    exact hpo k y hy
   .subst h
    rw[List.getElem?_append_right (Nat.le_refl _),Nat.sub_self] at hy;cases hy;exact ok5
   .rw [List.getElem?_eq_none (by rw[List.length_append,List.length_singleton]; omega)] at hy
    cases hy
 .rintro acc C4 ⟨T4,e4,pts,rfl,hz,hpl,hpn,hpo⟩ p hp
  have he:pts.length=names.length:=by
   rcases Nat.lt_or_ge pts.length names.length with h | h
   .rw [List.drop_eq_getElem_cons (by rw[List.length_range]; exact h)] at hz
    cases hz
   .omega
  refine rJ jQ ?_;have hn:yJ pts=names:=by rw[hpn,he,List.take_of_length_le (Nat.le_refl _)]
  exact q pts _ ⟨by omega,by omega,by rw[hn]; exact nd.1,fun k x hk=>by rw[hn]; exact hpo k x hk⟩ (T4.new hp _) ((e03.trans e4).trans (Ex.new hp _))
end
abbrev Rds:=List (List Key×PV)
abbrev Tns:=List (Key×PV)
abbrev qK (s n:Str):List Key:=[.inr s,.inr n]
def Bd (i:Int):Prop:=-1000000000<=i/\i<=1000000000
def ABd (A:Rds):Prop:=∀kv∈A,∃i,kv.2=.int i/\Bd i
def TBd (τ:Tns):Prop:=∀kv∈τ,∃i,kv.2=.int i/\Bd i
def KU (A:Rds)(s n:Str):Int:=match rK A (qK s n) with
 |some (.int i)=>i
 |_=>0
def Qj (τ:Tns)(n:Str):Int:=match hZ τ (.inr n) with
 |some (.int i)=>i
 |_=>0
def HasT (τ:Tns)(ns:List Str):Prop:=∀n∈ns,(hZ τ (.inr n)).isSome=true
def gI (i:Int):Int:=if (if i < 1000000000 then i else 1000000000) > -1000000000 then (if i < 1000000000 then i else 1000000000) else -1000000000
def Rk.val (A:Rds)(τ:Tns):Rk->Int
 |.num i=>i
 |.turn n=>Qj τ n
 |.ask s n=>KU A s n
 |.bin w x y=>if w = "less" then (if x.val A τ < y.val A τ then 1 else 0) else if w = "times" then gI (x.val A τ * y.val A τ) else gI (x.val A τ+y.val A τ)
 |.pick x y z=>if x.val A τ=0 then z.val A τ else y.val A τ
def Rk.rds (A:Rds)(τ:Tns):Rk->Rds->Rds
 |.num _,R=>R
 |.turn _,R=>R
 |.ask s n,R=>putG R (qK s n) (.int (KU A s n))
 |.bin _ x y,R=>y.rds A τ (x.rds A τ R)
 |.pick x y z,R=>if x.val A τ=0 then z.rds A τ (x.rds A τ R) else y.rds A τ (x.rds A τ R)
theorem cutI_bd (i:Int):Bd (gI i):=by unfold gI Bd; split<;>split<;>omega
theorem Zj {κ:Type}[DecidableEq κ]{A:List (κ×PV)}{k:κ}{v:PV}(h:rK A k=some v):∃kv∈A,kv.2=v:=by
 unfold rK at h
 cases e:A.find? fun kv=>decide (kv.1=k) with
 |none=>rw[e] at h; cases h
 |some x=>rw[e] at h; cases h; exact⟨x,List.mem_of_find?_eq_some e,rfl⟩
theorem uS {A:Tns}{k:Key}{v:PV}(h:hZ A k=some v):∃kv∈A,kv.2=v:=by
 unfold hZ at h
 cases e:A.find? fun kv=>decide (kv.1=k) with
 |none=>rw[e] at h; cases h
 |some x=>rw[e] at h; cases h; exact⟨x,List.mem_of_find?_eq_some e,rfl⟩
theorem iI {A:Rds}(h:ABd A)(s n:Str):(rK A (qK s n)).getD (.int 0)=.int (KU A s n)/\Bd (KU A s n):=by
 unfold KU
 cases e:rK A (qK s n) with
 |none=>exact⟨rfl,by unfold Bd; decide⟩
 |some v =>
  obtain⟨kv,hm,rfl⟩:=Zj e;obtain⟨i,ei,bi⟩:=h kv hm;rw[ei];exact⟨rfl,bi⟩
theorem Qi {τ:Tns}(h:TBd τ){n:Str}(hh:(hZ τ (.inr n)).isSome=true):hZ τ (.inr n)=some (.int (Qj τ n))/\Bd (Qj τ n):=by
 unfold Qj
 cases e:hZ τ (.inr n) with
 |none=>rw[e] at hh; cases hh
 |some v =>
  obtain⟨kv,hm,rfl⟩:=uS e;obtain⟨i,ei,bi⟩:=h kv hm;rw[ei];exact⟨rfl,bi⟩
theorem eM {A:Rds}{τ:Tns}(hA:ABd A)(hT:TBd τ){bs ts:List Str}(hh:HasT τ ts):∀{d:Nat}{r:Rk},r.ok bs ts d->Bd (r.val A τ):=by
 intro d r
 induction r generalizing d with
 |num i=>intro h; unfold Rk.ok at h; exact h
 |turn n=>intro h; unfold Rk.ok at h; exact(Qi hT (hh n h)).2
 |ask s n=>intro h; exact(iI hA s n).2
 |bin w x y ihx ihy =>
  intro h
  cases d with
  |zero=>unfold Rk.ok at h; exact h.elim
  |succ d =>
   unfold Rk.val
   split
   .split<;>(unfold Bd; decide)
   .split<;>exact cutI_bd _
 |pick x y z ihx ihy ihz =>
  intro h
  cases d with
  |zero=>unfold Rk.ok at h; exact h.elim
  |succ d =>
   unfold Rk.ok at h;unfold Rk.val
   split
   .exact ihz h.2.2
   .exact ihy h.2.1
structure RdOk (bs:List Str)(R:Rds):Prop where
 nd:(R.map (·.1)).Nodup
 ks:∀k∈R.map (·.1),∃s n,k=qK s n/\wE bs s n
 vs:ABd R
theorem Q6 {κ:Type}[DecidableEq κ](R:List (κ×PV))(k:κ):(R.any fun kv=>decide (kv.1=k))=true↔k∈R.map (·.1):=by
 rw[List.any_eq_true,List.mem_map];exact⟨fun⟨x,hx,e⟩=>⟨x,hx,of_decide_eq_true e⟩,fun⟨x,hx,e⟩=>⟨x,hx,decide_eq_true e⟩⟩
theorem jN {κ:Type}[DecidableEq κ](R:List (κ×PV))(k:κ)(v:PV):(putG R k v).map (·.1)=if k∈R.map (·.1) then R.map (·.1) else R.map (·.1)++[k]:=by
 unfold putG
 by_cases h:k∈R.map (·.1)
 .rw [if_pos ((Q6 R k).2 h),if_pos h,List.map_map]
  refine List.map_congr_left fun x _=>?_;show(if x.1=k then (x.1,v) else x).1=x.1
  split<;>rfl
 .rw [if_neg (fun z=>h ((Q6 R k).1 z)),if_neg h,List.map_append]
  rfl
theorem iS {κ:Type}[DecidableEq κ]{R:List (κ×PV)}{k:κ}{v:PV}{x:κ×PV}(h:x∈putG R k v):x.2=v\/x∈R:=by
 unfold putG at h
 split at h
 .obtain ⟨y,hy,rfl⟩:=List.mem_map.1 h
  split
  .exact .inl rfl
  .exact .inr hy
 .rcases List.mem_append.1 h with h | h
  .exact .inr h
  .cases List.mem_singleton.1 h; exact .inl rfl
theorem RdOk.put {bs:List Str}{R:Rds}(h:RdOk bs R){s n:Str}(hq:wE bs s n){i:Int}(hi:Bd i):RdOk bs (putG R (qK s n) (.int i)):=by
 refine⟨?_,?_,fun kv hkv=>?_⟩
 .rw [jN]
  split
  .exact h.nd
  .next hn =>
   rw[List.nodup_append];refine⟨h.nd,by simp,fun a ha b hb e=>?_⟩;cases List.mem_singleton.1 hb;exact hn (e▸ha)
 .rw [jN]
  intro k hk
  split at hk
  .exact h.ks k hk
  .rcases List.mem_append.1 hk with hk | hk
   .exact h.ks k hk
   .cases List.mem_singleton.1 hk; exact⟨s,n,rfl,hq⟩
 .rcases iS hkv with e | e
  .exact ⟨i,e,hi⟩
  .exact h.vs kv e
theorem pT {α:Type}[DecidableEq α]:∀(l m:List α),l.Nodup->(∀x∈l,x∈m)->l.length<=m.length
 |[],_,_,_=>Nat.zero_le _
 |x::l,m,hd,hs=>by
  have hx:=hs x List.mem_cons_self;rw[List.nodup_cons] at hd
  have ih:=pT l (m.erase x) hd.2 fun y hy=>by
   have ne:y≠x:=fun e=>hd.1 (e▸hy);exact(List.mem_erase_of_ne ne).2 (hs y (List.mem_cons_of_mem _ hy))
  rw[List.length_erase_of_mem hx] at ih;have:0 < m.length:=List.length_pos_of_mem hx;rw[List.length_cons];omega
def sM (bs:List Str):List (List Key):=(["a","ab","b"]:List Str).map (qK "take")++((["a","ab","b"]:List Str).map (qK "down")++bs.map (qK "box"))
theorem ask_in {bs:List Str}{s n:Str}(h:wE bs s n):qK s n∈sM bs:=by
 unfold sM
 rcases h with ⟨rfl | rfl,h⟩ | ⟨rfl,h⟩
 .exact List.mem_append_left _ (List.mem_map.2 ⟨n,h,rfl⟩)
 .exact List.mem_append_right _ (List.mem_append_left _ (List.mem_map.2 ⟨n,h,rfl⟩))
 .exact List.mem_append_right _ (List.mem_append_right _ (List.mem_map.2 ⟨n,h,rfl⟩))
theorem RdOk.len {bs:List Str}{R:Rds}(h:RdOk bs R):R.length<=6+bs.length:=by
 have:=pT (R.map (·.1)) (sM bs) h.nd fun k hk=>by
  obtain⟨s,n,rfl,hq⟩:=h.ks k hk;exact ask_in hq
 rw[List.length_map] at this
 have e:(sM bs).length=6+bs.length:=by
  unfold sM;rw[List.length_append,List.length_append,List.length_map,List.length_map,List.length_map];show 3+(3+_)=_;omega
 omega
theorem jV {A:Rds}{τ:Tns}(hA:ABd A){bs ts:List Str}:∀{d:Nat}{r:Rk}{R:Rds},r.ok bs ts d->RdOk bs R->RdOk bs (r.rds A τ R):=by
 intro d r
 induction r generalizing d with
 |num i=>intro R _ h; exact h
 |turn n=>intro R _ h; exact h
 |ask s n=>intro R h hR; unfold Rk.ok at h; exact hR.put h (iI hA s n).2
 |bin w x y ihx ihy =>
  intro R h hR
  cases d with
  |zero=>unfold Rk.ok at h; exact h.elim
  |succ d =>
   unfold Rk.ok at h;exact ihy h.2.2 (ihx h.2.1 hR)
 |pick x y z ihx ihy ihz =>
  intro R h hR
  cases d with
  |zero=>unfold Rk.ok at h; exact h.elim
  |succ d =>
   unfold Rk.ok at h;unfold Rk.rds
   split
   .exact ihz h.2.2 (ihx h.1 hR)
   .exact ihy h.2.1 (ihx h.1 hR)
structure Env (C:CH)(aa tt rr:Addr)(A:Rds)(τ:Tns)(R:Rds):Prop where
 ha:C aa=some (.dT A)
 ht:C tt=some (.dK τ)
 hr:C rr=some (.dT R)
 ne:aa≠rr
theorem Env.nt {C:CH}{aa tt rr:Addr}{A:Rds}{τ:Tns}{R:Rds}(h:Env C aa tt rr A τ R):tt≠rr:=fun z=>by have:=h.ht; rw[z,h.hr] at this; cases this
theorem Env.ex {C C':CH}{aa tt rr:Addr}{A:Rds}{τ:Tns}{R R':Rds}(h:Env C aa tt rr A τ R)(e:ExS [rr] C C')(hr:C' rr=some (.dT R')):Env C' aa tt rr A τ R' :=
 ⟨e _ _ (fun z=>h.ne (List.mem_singleton.1 z)) h.ha,e _ _ (fun z=>h.nt (List.mem_singleton.1 z)) h.ht,hr,h.ne⟩
theorem lK {κ:Type}[DecidableEq κ](x:κ×PV)(l:List (κ×PV))(k:κ):rK (x::l) k=if x.1=k then some x.2 else rK l k:=by
 unfold rK;rw[List.find?_cons]
 by_cases e:x.1=k
 .rw [decide_eq_true e,if_pos e]; rfl
 .rw [decide_eq_false e,if_neg e]
theorem Zi {κ:Type}[DecidableEq κ](R:List (κ×PV))(k:κ)(v:PV)(k':κ):rK (putG R k v) k'=if k'=k then some v else rK R k':=by
 unfold putG
 by_cases b:(R.any fun kv=>decide (kv.1=k))=true
 .rw [if_pos b]
  induction R with
  |nil=>cases b
  |cons x l ih =>
   rw[List.map_cons,lK,lK];have e1:(if x.1=k then (x.1,v) else x).1=x.1:=by split<;>rfl
   rw[e1]
   by_cases e:x.1=k'
   .rw [if_pos e,if_pos e]
    by_cases e2:k'=k
    .rw [if_pos e2,if_pos (e.trans e2)]
    .rw [if_neg e2,if_neg (fun z=>e2 (e.symm.trans z))]
   .rw [if_neg e,if_neg e]
    by_cases h3:(l.any fun kv=>decide (kv.1=k))=true
    .exact ih h3
    .have h4:∀y∈l,¬ y.1=k:=fun y hy z=>h3 (List.any_eq_true.2 ⟨y,hy,decide_eq_true z⟩)
     have:(l.map fun kv=>if kv.1=k then (kv.1,v) else kv)=l:=(List.map_congr_left fun y hy=>if_neg (h4 y hy)).trans (List.map_id l);rw[this]
     have hx:x.1=k:=by
      rw[List.any_cons,Bool.or_eq_true] at b
      rcases b with b | b
      .exact of_decide_eq_true b
      .exact absurd b h3
     rw[if_neg (fun z=>e (hx.trans z.symm))]
 .rw [if_neg b]
  induction R with
  |nil =>
   rw[List.nil_append,lK]
   by_cases e:k=k'
   .rw [if_pos e,if_pos e.symm]
   .rw [if_neg e,if_neg (fun z=>e z.symm)]
  |cons x l ih =>
   rw[List.any_cons] at b;have e:¬ x.1=k:=fun e=>b (by rw[decide_eq_true e]; rfl);rw[decide_eq_false e,Bool.false_or] at b;rw[List.cons_append,lK,lK]
   by_cases e2:x.1=k'
   .rw [if_pos e2,if_pos e2,if_neg (fun z=>e (e2.trans z))]
   .rw [if_neg e2,if_neg e2]; exact ih b
structure bG (A:Rds)(τ:Tns)(bs ns:List Str):Prop where
 a:ABd A
 t:TBd τ
 h:HasT τ ns
 b:bs.length<=4
section
variable {P:Program}{w:World}{K:PySem.W.Frag}{mg:Str->Option Value}{base:Heap}{a:Adr}
def gCut:GC:=fun ts C Q=>∃i:Int,ts=[.int i]/\Q (.int (gI i)) C
theorem ok_cut (T:Txt P w K mg a):FnOk P w K mg base CX0 1 (a.f 5) (a.d 5) ["number"] (spC K gCut):=by
 have S:=(T.F 5 rfl).s;refine(T.F 5 rfl).ok (fun ts C R h=>?_) fun cdv A outer s H E hr=>⟨_,(kQ (bQ (gZ (X2 rfl) cbi_max rfl T.z_max rfl (qQ (tO mL gM (aD (v:=.int 1000000000) (t:=.int 1000000000) rfl T.J9 ⟨_,rfl⟩ (fun _=>.int _))) (ca1 (gZ (oN rfl) QW rfl T.z_min rfl (qQ (aD (v:=.int 1000000000) (t:=.int 1000000000) rfl T.J9 ⟨_,rfl⟩ (fun _=>.int _)) (ca1 (cv 0))))))))),?_⟩
 .obtain ⟨i,rfl,_⟩:=h; rfl
 rintro ts C R ⟨i,rfl,q⟩;refine min_s ?_;refine max_s ?_;exact q
def joinI (w:Str)(i j:Int):Int:=if w = "less" then (if i < j then 1 else 0) else if w = "times" then gI (i * j) else gI (i+j)
def gJoin:GC:=fun ts C Q=>∃(w:Str) (i j:Int),ts=[.str w,.int i,.int j]/\(w = "add"\/w = "times"\/w = "less")/\Bd i/\Bd j/\Q (.int (joinI w i j)) C
theorem Xw (T:Txt P w K mg a):FnOk P w K mg base CX0 2 (a.f 7) (a.d 7) ["word","first","second"] (spC K gJoin):=by
 have S:=(T.F 7 rfl).s;have G_cut:=ok_cut (base:=base) T
 refine(T.F 7 rfl).ok (fun ts C R h=>?_) fun cdv A outer s H E hr=>⟨_,(xQ (wX (ct2 hX jX (cv 0) vQ) (kQ (bQ (cf (T.F 5 rfl) G_cut hr (ca1 (rQ oQ tQ (cv 1) (cv 2)))))) qX)
  (xQ (wX (ct2 hX jX (cv 0) vQ) (kQ (bQ (cf (T.F 5 rfl) G_cut hr (ca1 (rQ vF cU (cv 1) (cv 2)))))) qX)
  (kQ (bQ (sN (ct2 kM jG (cv 1) (cv 2)) zQ zQ))))),?_⟩
 .obtain ⟨w,i,j,rfl,_⟩:=h; rfl
 rintro ts C R ⟨w,i,j,rfl,hw,bi,bj,q⟩;unfold joinI at q;refine yX (pQ _ _) ?_
 rcases hw with rfl | rfl | rfl
 .refine nK (by decide) ?_
  refine uW ?_;exact⟨_,rfl,q⟩
 .refine kZ (by decide) ?_
  refine bX ?_
  try dsimp only
  refine yX (pQ _ _) ?_;refine nK (by decide) ?_;unfold Bd at bi bj;refine⟨.inr ⟨by omega,by omega⟩,?_⟩;exact⟨_,rfl,q⟩
 .refine kZ (by decide) ?_
  refine bX ?_
  try dsimp only
  refine yX (pQ _ _) ?_;refine kZ (by decide) ?_;refine bX ?_
  try dsimp only
  rw[if_pos rfl] at q;refine i_i ?_;refine pZ (fun hb=>?_) fun hb=>?_
  .rw [if_pos (of_decide_eq_true hb)] at q; exact q
  .rw [if_neg (of_decide_eq_false hb)] at q; exact q
def gRk (d:Nat):GC:=fun ts C Q=>∃(r:Rk) (aa tt rr:Addr) (A:Rds) (τ:Tns) (R:Rds) (bs ns:List Str),ts=[r.pv,.ref aa,.ref tt,.ref rr]/\r.ok bs ns d/\Env C aa tt rr A τ R/\bG A τ bs ns/\RdOk bs R /\
 ∀C',C' rr=some (.dT (r.rds A τ R))->ExS [rr] C C'->Q (.int (r.val A τ)) C'
theorem dC (T:Txt P w K mg a)(d:Nat):FnOk P w K mg base CX0 (d+3) (a.f 6) (a.d 6) ["reckoning","answers","turns","asked"] (spC K (gRk d)):=by
 have main:∀n,(∀d',n=d'+1->FnOk P w K mg base CX0 (d'+3) (a.f 6) (a.d 6) ["reckoning","answers","turns","asked"] (spC K (gRk d')))->FnOk P w K mg base CX0 (n+3) (a.f 6) (a.d 6) ["reckoning","answers","turns","asked"] (spC K (gRk n)):=by
  intro n ih;have S:=(T.F 6 rfl).s;have K5:=(Xw (base:=base) T).mono (show 2<=n+2 by omega)
  have qV:FnOk P w K mg base CX0 (n+2) (a.f 6) (a.d 6) ["reckoning","answers","turns","asked"] (spC K (fun ts C Q=>∃d',n=d'+1/\gRk d' ts C Q)):=by
   cases n with
   |zero=>exact mJ fun ts C Q ⟨d',e,_⟩=>by omega
   |succ d' =>
    have:=ih d' rfl
    have e:(fun ts C Q=>∃d'',d'+1=d''+1/\gRk d'' ts C Q)=gRk d':=by
     funext ts C Q
     refine propext ⟨fun⟨d'',e,h⟩=>?_,fun h=>⟨d',rfl,h⟩⟩;cases Nat.succ.inj e;exact h
    rw[e];exact this
  refine(T.F 6 rfl).ok (fun ts C R h=>?_) fun cdv A outer s H E hr=>⟨_,(xQ (cs1 4 S.nd (cx (cv 0) zQ))
  (xQ (wX (ct2 hX jX (cv 4) vQ) (kQ (bQ (cx (cv 0) zQ))) qX)
  (xQ (wX (ct2 hX jX (cv 4) vQ) (kQ (bQ (fZ (tX hr) (cv 2) (cx (cv 0) zQ) (fun _ _=>rfl)))) qX)
  (xQ (wX (bI Xp cop_inS (cv 4) (aD (v:=.ref a.ASKING) (t:=.kt [.str "take",.str "box",.str "down"]) rfl T.gASKING rfl (fun H=>.kt (T.qASKING H) (.cons (.str _) (.cons (.str _) (.cons (.str _) .nil))))) rfl) (xQ (cs1 5 S.nd (mQ (qQ (cv 4) (ca1 (cx (cv 0) zQ)))))
  (xQ (QT (tX hr) (cv 3) (cv 5) (Kz (tX hr) (cv 1) (cv 5) zQ))
  (kQ (bQ (ce_tix (tX hr) (cv 3) (cv 5) (fun _ _=>rfl)))))) qX)
  (xQ (cs1 6 S.nd (cf (T.F 6 rfl) qV hr (qQ (cx (cv 0) zQ) (qQ (cv 1) (qQ (cv 2) (ca1 (cv 3)))))))
  (xQ (wX (ct2 hX jX (cv 4) vQ) (xQ (cs1 7 S.nd (sN (ct2 hX jX (cv 6) zQ) (cx (cv 0) zQ) (cx (cv 0) zQ)))
  (kQ (bQ (cf (T.F 6 rfl) qV hr (qQ (cv 7) (qQ (cv 1) (qQ (cv 2) (ca1 (cv 3))))))))) qX)
  (xQ (cs1 8 S.nd (cf (T.F 6 rfl) qV hr (qQ (cx (cv 0) zQ) (qQ (cv 1) (qQ (cv 2) (ca1 (cv 3)))))))
  (kQ (bQ (cf (T.F 7 rfl) K5 hr (qQ (cv 4) (qQ (cv 6) (ca1 (cv 8)))))))))))))),?_⟩
  .obtain ⟨r,aa,tt,rr,A,τ,R,bs,ns,rfl,_⟩:=h; rfl
  rintro ts C Q ⟨r,aa,tt,rr,A,τ,R,bs,ns,rfl,ok,hE,hS,hR,q⟩;refine yQ ?_
  cases r with
  |num i =>
   refine cX sQ ?_
   try dsimp only
   refine yX (pQ _ _) ?_;refine nK (by decide) ?_;refine cX (v:=.int i) rfl ?_;exact q C hE.hr ExS.refl
  |turn m =>
   unfold Rk.ok at ok;refine cX sQ ?_
   try dsimp only
   refine yX (pQ _ _) ?_;refine kZ (by decide) ?_;refine bX ?_
   try dsimp only
   refine yX (pQ _ _) ?_;refine nK (by decide) ?_;refine cX (v:=.str m) rfl ?_;refine oJ hE.ht rfl (Qi hS.t (hS.h m ok)).1 ?_;exact q C hE.hr ExS.refl
  |ask s m =>
   unfold Rk.ok at ok;refine cX sQ ?_
   try dsimp only
   refine yX (pQ _ _) ?_
   have hs:s = "take"\/s = "down"\/s = "box":=by
    rcases ok with ⟨h | h,_⟩ | ⟨h,_⟩
    .exact .inl h
    .exact .inr (.inl h)
    .exact .inr (.inr h)
   have hn1:decide (s = "num")=false:=by rcases hs with rfl | rfl | rfl<;>decide
   have hn2:decide (s = "turn")=false:=by rcases hs with rfl | rfl | rfl<;>decide
   refine kZ (by rw[hn1]; rfl) ?_;refine bX ?_
   try dsimp only
   refine yX (pQ _ _) ?_;refine kZ (by rw[hn2]; rfl) ?_;refine bX ?_
   try dsimp only
   refine JV (ts:=[.str "take",.str "box",.str "down"]) (w:=.str s) (vs:=[.str "take",.str "box",.str "down"]) rfl rfl rfl ?_;refine nK (by rcases hs with rfl | rfl | rfl<;>rfl) ?_;refine yQ ?_;refine cX (v:=.str m) rfl ?_;refine⟨by show 2<=sizeLine; decide,?_⟩
   try dsimp only
   refine xZ ?_;refine⟨isTd_s hE.ha,?_⟩;refine tget_s (k:=qK s m) hE.ha rfl (iI hS.a s m).1 ?_;have hb:=hS.b;refine Zm (k:=qK s m) hE.hr rfl (by have:=hR.len; omega) ?_
   try dsimp only
   refine tix_s (k:=qK s m) jQ rfl (by rw[Zi,if_pos rfl]) ?_;exact q _ jQ (ExS.refl.at (by simp) _)
  |bin w x y =>
   cases n with
   |zero=>unfold Rk.ok at ok; exact ok.elim
   |succ d' =>
   unfold Rk.ok at ok;obtain⟨hw,ox,oy⟩:=ok;have hn1:decide (w = "num")=false:=by rcases hw with rfl | rfl | rfl<;>decide
   have hn2:decide (w = "turn")=false:=by rcases hw with rfl | rfl | rfl<;>decide
   refine cX sQ ?_
   try dsimp only
   refine yX (pQ _ _) ?_;refine kZ (by rw[hn1]; rfl) ?_;refine bX ?_
   try dsimp only
   refine yX (pQ _ _) ?_;refine kZ (by rw[hn2]; rfl) ?_;refine bX ?_
   try dsimp only
   refine JV (ts:=[.str "take",.str "box",.str "down"]) (w:=.str w) (vs:=[.str "take",.str "box",.str "down"]) rfl rfl rfl ?_;refine kZ (by rcases hw with rfl | rfl | rfl<;>rfl) ?_;refine bX ?_
   try dsimp only
   refine yQ ?_;refine cX (v:=x.pv) rfl ?_;refine⟨d',rfl,x,aa,tt,rr,A,τ,R,bs,ns,rfl,ox,hE,hS,hR,fun C1 m1 e1=>?_⟩;have E1:=hE.ex e1 m1;have R1:=jV (τ:=τ) hS.a ox hR
   try dsimp only
   refine yX (pQ _ _) ?_;refine kZ (by rcases hw with rfl | rfl | rfl<;>decide) ?_;refine bX ?_
   try dsimp only
   refine yQ ?_;refine cX (v:=y.pv) rfl ?_;refine⟨d',rfl,y,aa,tt,rr,A,τ,_,bs,ns,rfl,oy,E1,hS,R1,fun C2 m2 e2=>?_⟩
   try dsimp only
   have bx:=eM hS.a hS.t hS.h ox;have by':=eM hS.a hS.t hS.h oy
   exact⟨w,_,_,rfl,hw,bx,by',q C2 m2 (e1.trans e2)⟩
  |pick x y z =>
   cases n with
   |zero=>unfold Rk.ok at ok; exact ok.elim
   |succ d' =>
   unfold Rk.ok at ok;obtain⟨ox,oy,oz⟩:=ok;refine cX sQ ?_
   try dsimp only
   refine yX (pQ _ _) ?_;refine kZ (by decide) ?_;refine bX ?_
   try dsimp only
   refine yX (pQ _ _) ?_;refine kZ (by decide) ?_;refine bX ?_
   try dsimp only
   refine JV (ts:=[.str "take",.str "box",.str "down"]) (w:=.str "pick") (vs:=[.str "take",.str "box",.str "down"]) rfl rfl rfl ?_;refine kZ rfl ?_;refine bX ?_
   try dsimp only
   refine yQ ?_;refine cX (v:=x.pv) rfl ?_;refine⟨d',rfl,x,aa,tt,rr,A,τ,R,bs,ns,rfl,ox,hE,hS,hR,fun C1 m1 e1=>?_⟩;have E1:=hE.ex e1 m1;have R1:=jV (τ:=τ) hS.a ox hR
   try dsimp only
   refine yX (pQ _ _) ?_;refine nK (by decide) ?_;refine yQ ?_;refine yX (zZ _ _) ?_
   by_cases h0:x.val A τ=0
   .refine nK (decide_eq_true h0) ?_
    refine cX (v:=z.pv) rfl ?_
    try dsimp only
    refine⟨d',rfl,z,aa,tt,rr,A,τ,_,bs,ns,rfl,oz,E1,hS,R1,fun C2 m2 e2=>?_⟩;have:=q C2 (by unfold Rk.rds; rw[if_pos h0]; exact m2) (e1.trans e2);unfold Rk.val at this;rw[if_pos h0] at this;exact this
   .refine kZ (decide_eq_false h0) ?_
    refine cX (v:=y.pv) rfl ?_
    try dsimp only
    refine⟨d',rfl,y,aa,tt,rr,A,τ,_,bs,ns,rfl,oy,E1,hS,R1,fun C2 m2 e2=>?_⟩;have:=q C2 (by unfold Rk.rds; rw[if_neg h0]; exact m2) (e1.trans e2);unfold Rk.val at this;rw[if_neg h0] at this;exact this
 induction d with
 |zero=>exact main 0 fun d' e=>by omega
 |succ d ih=>exact main (d+1) fun d' e=>by cases Nat.succ.inj e; exact ih
end
structure HdV where
 ev:Str
 rank:Int
 last:Bool
 ch:List (Str×Str×Int)
inductive Wt where
 |plain (sp:List Key) (tag:Str) (sets:List (Str×Int)) (hands:List HdV) (row:List Wt)
 |part (sp:List Key) (name:Str) (gives:List (Str×Int))
 |give (sp:List Key) (name:Str) (num:Int) (row:List Wt)
def uI (c:Str×Str×Int):PV:=.tup [.str c.1,.str c.2.1,.int c.2.2]
def HdV.pv (h:HdV):PV:=.tup [.str h.ev,.int h.rank,.bl h.last,.tup (h.ch.map uI)]
mutual
def Wt.pv:Wt->PV
 |.plain sp tag s h r=>.tup [.str "plain",zV sp,.str tag,.tup (s.map dQ),.tup (h.map HdV.pv),.tup (Wt.pvs r)]
 |.part sp n g=>.tup [.str "part",zV sp,.str n,.tup (g.map dQ)]
 |.give sp n i r=>.tup [.str "give",zV sp,.str n,.int i,.tup (Wt.pvs r)]
def Wt.pvs:List Wt->List PV
 |[]=>[]
 |w::ws=>w.pv::Wt.pvs ws
end
theorem Wt.pvs_map (ls:List Wt):Wt.pvs ls=ls.map Wt.pv:=by
 induction ls with
 |nil=>rfl
 |cons l ls ih=>rw[List.map_cons,<- ih]; rfl
theorem Wt.pvs_app (xs ys:List Wt):Wt.pvs (xs++ys)=Wt.pvs xs++Wt.pvs ys:=by
 rw[Wt.pvs_map,Wt.pvs_map,Wt.pvs_map,List.map_append]
theorem Wt.pvs_len (xs:List Wt):(Wt.pvs xs).length=xs.length:=by rw[Wt.pvs_map,List.length_map]
section
variable (A:Rds)(τ:Tns)
def wJ (ps:List (Str×Rk)):List (Str×Int):=ps.map fun c=>(c.1,c.2.val A τ)
def yV (ps:List (Str×Rk))(R:Rds):Rds:=ps.foldl (fun R c=>c.2.rds A τ R) R
def fI (cs:List (Str×Str×Rk)):List (Str×Str×Int):=cs.map fun c=>(c.1,c.2.1,c.2.2.val A τ)
def Kw (cs:List (Str×Str×Rk))(R:Rds):Rds:=cs.foldl (fun R c=>c.2.2.rds A τ R) R
def J2 (h:Hd):HdV:=⟨h.ev,h.rank,h.last,fI A τ h.ch⟩
def vV (hs:List Hd):List HdV:=hs.map (J2 A τ)
def jW (hs:List Hd)(R:Rds):Rds:=hs.foldl (fun R h=>Kw A τ h.ch R) R
def gG:Option Rk->Key
 |none=>.inl none
 |some r=>.inl (some (r.val A τ))
def eW:Option Rk->Rds->Rds
 |none,R=>R
 |some r,R=>r.rds A τ R
end
def bD (N:Tns)(k:Key):Int:=match hZ N k with
 |some (.int i)=>i
 |_=>0
def mD (i:Int):Nat:=(if i < 8 then i else 8).toNat
theorem dM (i:Int):mD i<=8:=by unfold mD; split<;>omega
abbrev DSt:=List Wt×Tns×Rds
def sV (N:Tns)(k:Key):List Key:=[k,.inl (some (bD N k))]
def wV (N:Tns)(k:Key):Tns:=cZ N k (.int (bD N k+1))
mutual
def aX (A:Rds):Ln->Tns->DSt->DSt
 |.when r l1 l2,τ,st=>if r.val A τ=0 then eQ A l2 τ (st.1,st.2.1,r.rds A τ st.2.2) else eQ A l1 τ (st.1,st.2.1,r.rds A τ st.2.2)
 |.each n r ls,τ,st=>(List.range (mD (r.val A τ))).foldl (fun st k=>eQ A ls (cZ τ (.inr n) (.int (k:Nat))) st) (st.1,st.2.1,r.rds A τ st.2.2)
 |.part k n g,τ,st=>(st.1++[.part (sV st.2.1 (gG A τ k)) n (sY (wJ A τ g))],wV st.2.1 (gG A τ k),yV A τ g (eW A τ k st.2.2))
 |.give k n r ls,τ,st =>
  let d:=eQ A ls τ ([],[],r.rds A τ (eW A τ k st.2.2))
  (st.1++[.give (sV st.2.1 (gG A τ k)) n (r.val A τ) d.1],wV st.2.1 (gG A τ k),d.2.2)
 |.plain k tag s hs ls,τ,st =>
  let d:=eQ A ls τ ([],[],jW A τ hs (yV A τ s (eW A τ k st.2.2)))
  (st.1++[.plain (sV st.2.1 (gG A τ k)) tag (sY (wJ A τ s)) (vV A τ hs) d.1],wV st.2.1 (gG A τ k),d.2.2)
def eQ (A:Rds):List Ln->Tns->DSt->DSt
 |[],_,st=>st
 |l::ls,τ,st=>eQ A ls τ (aX A l τ st)
end
def xB (A:Rds)(τ:Tns)(sp:List Key):Ln->Rds->Wt×Rds
 |.part _ n g,R=>(.part sp n (sY (wJ A τ g)),yV A τ g R)
 |.give _ n r ls,R=>(.give sp n (r.val A τ) (eQ A ls τ ([],[],r.rds A τ R)).1,(eQ A ls τ ([],[],r.rds A τ R)).2.2)
 |.plain _ tag s hs ls,R=>(.plain sp tag (sY (wJ A τ s)) (vV A τ hs) (eQ A ls τ ([],[],jW A τ hs (yV A τ s R))).1,(eQ A ls τ ([],[],jW A τ hs (yV A τ s R))).2.2)
 |_,R=>(.part sp "" [],R)
theorem nZ (A:Rds)(τ:Tns)(st:DSt):eQ A [] τ st=st:=by unfold eQ; rfl
theorem uZ (A:Rds)(l:Ln)(ls:List Ln)(τ:Tns)(st:DSt):eQ A (l::ls) τ st=eQ A ls τ (aX A l τ st):=by rw[eQ]
theorem rA (A:Rds)(xs ys:List Ln)(τ:Tns)(st:DSt):eQ A (xs++ys) τ st=eQ A ys τ (eQ A xs τ st):=by
 induction xs generalizing st with
 |nil=>rw[nZ]; rfl
 |cons x xs ih=>rw[List.cons_append,uZ,uZ,ih]
def isTh:Ln->Bool
 |.when _ _ _=>false
 |.each _ _ _=>false
 |_=>true
def sG:Ln->Option Rk
 |.plain k _ _ _ _=>k
 |.part k _ _=>k
 |.give k _ _ _=>k
 |_=>none
theorem lA (A:Rds)(τ:Tns)(l:Ln)(F:List Wt)(N:Tns)(R:Rds)(h:isTh l=true):
  aX A l τ (F,N,R)=(F++[(xB A τ (sV N (gG A τ (sG l))) l (eW A τ (sG l) R)).1],wV N (gG A τ (sG l)),(xB A τ (sV N (gG A τ (sG l))) l (eW A τ (sG l) R)).2):=by
 cases l with
 |plain k tag s hs ls=>rw[aX]; rfl
 |part k n g=>rw[aX]; rfl
 |give k n r ls=>rw[aX]; rfl
 |when r l1 l2=>cases h
 |each n r ls=>cases h
theorem qG {α:Type}{f:α->Nat->α}{m:α->Nat}{c:Nat}(h:∀x k,m (f x k)<=m x+c):∀(l:List Nat) (x:α),m (l.foldl f x)<=m x+l.length * c
 |[],x=>by show m x<=m x+0 * c; omega
 |k::l,x=>by
  have h1:=qG h l (f x k);have h2:=h x k;rw[List.foldl_cons,List.length_cons,Nat.add_mul,Nat.one_mul];omega
mutual
theorem Jt (A:Rds):∀(l:Ln) (τ:Tns) (st:DSt),(aX A l τ st).1.length<=st.1.length+l.tw/\(aX A l τ st).2.1.length<=st.2.1.length+l.tw
 |.when r l1 l2,τ,st=>by
  rw[aX];have h1:=jJ A l1 τ (st.1,st.2.1,r.rds A τ st.2.2);have h2:=jJ A l2 τ (st.1,st.2.1,r.rds A τ st.2.2);show _<=_+(Ln.tws l1+Ln.tws l2)/\_<=_+(Ln.tws l1+Ln.tws l2)
  split
  .exact ⟨Nat.le_trans h2.1 (by show st.1.length+_<=_; omega),Nat.le_trans h2.2 (by show st.2.1.length+_<=_; omega)⟩
  .exact ⟨Nat.le_trans h1.1 (by show st.1.length+_<=_; omega),Nat.le_trans h1.2 (by show st.2.1.length+_<=_; omega)⟩
 |.each n r ls,τ,st=>by
  rw[aX];have c:=dM (r.val A τ);have f1:=qG (f:=fun st k=>eQ A ls (cZ τ (.inr n) (.int (k:Nat))) st) (m:=fun st=>st.1.length) (c:=Ln.tws ls) (fun x k=>(jJ A ls _ x).1) (List.range (mD (r.val A τ))) (st.1,st.2.1,r.rds A τ st.2.2);have f2:=qG (f:=fun st k=>eQ A ls (cZ τ (.inr n) (.int (k:Nat))) st) (m:=fun st=>st.2.1.length) (c:=Ln.tws ls) (fun x k=>(jJ A ls _ x).2) (List.range (mD (r.val A τ))) (st.1,st.2.1,r.rds A τ st.2.2)
  rw[List.length_range] at f1 f2;have hm:mD (r.val A τ) * Ln.tws ls<=8 * Ln.tws ls:=Nat.mul_le_mul_right _ c;show _<=st.1.length+8 * Ln.tws ls/\_<=st.2.1.length+8 * Ln.tws ls;exact⟨Nat.le_trans f1 (by show st.1.length+_<=_; omega),Nat.le_trans f2 (by show st.2.1.length+_<=_; omega)⟩
 |.part k n g,τ,st=>by
  rw[aX];refine⟨by show(st.1++[_]).length<=st.1.length+1; rw[List.length_append,List.length_singleton]; exact Nat.le_refl _,zM _ _ _⟩
 |.give k n r ls,τ,st=>by
  rw[aX];refine⟨by show(st.1++[_]).length<=st.1.length+(1+_); rw[List.length_append,List.length_singleton]; omega,Nat.le_trans (zM _ _ _) (by show _<=_+(1+_); omega)⟩
 |.plain k tag s hs ls,τ,st=>by
  rw[aX];refine⟨by show(st.1++[_]).length<=st.1.length+(1+_); rw[List.length_append,List.length_singleton]; omega,Nat.le_trans (zM _ _ _) (by show _<=_+(1+_); omega)⟩
theorem jJ (A:Rds):∀(ls:List Ln) (τ:Tns) (st:DSt),(eQ A ls τ st).1.length<=st.1.length+Ln.tws ls/\(eQ A ls τ st).2.1.length<=st.2.1.length+Ln.tws ls
 |[],τ,st=>by rw[nZ]; exact⟨Nat.le_add_right _ _,Nat.le_add_right _ _⟩
 |l::ls,τ,st=>by
  rw[uZ];have h1:=Jt A l τ st;have h2:=jJ A ls τ (aX A l τ st);show _<=_+(l.tw+Ln.tws ls)/\_<=_+(l.tw+Ln.tws ls);omega
end
theorem vY {A:Rds}{τ:Tns}(hA:ABd A){bs ns:List Str}{d:Nat}:∀{ps:List (Str×Rk)}{R:Rds},pH bs ns d ps->RdOk bs R->RdOk bs (yV A τ ps R)
 |[],R,_,h=>h
 |c::ps,R,hp,h=>vY (ps:=ps) hA (fun x hx=>hp x (List.mem_cons_of_mem _ hx)) (jV hA (hp c List.mem_cons_self) h)
theorem fR {A:Rds}{τ:Tns}(hA:ABd A){bs ns:List Str}{d:Nat}:∀{cs:List (Str×Str×Rk)}{R:Rds},(∀c∈cs,c.2.2.ok bs ns d)->RdOk bs R->RdOk bs (Kw A τ cs R)
 |[],R,_,h=>h
 |c::ps,R,hp,h=>fR (cs:=ps) hA (fun x hx=>hp x (List.mem_cons_of_mem _ hx)) (jV hA (hp c List.mem_cons_self) h)
theorem pU {A:Rds}{τ:Tns}(hA:ABd A){bs ns:List Str}:∀{hs:List Hd}{R:Rds},(∀h∈hs,h.ok bs ns)->RdOk bs R->RdOk bs (jW A τ hs R)
 |[],R,_,h=>h
 |c::ps,R,hp,h=>pU (hs:=ps) hA (fun x hx=>hp x (List.mem_cons_of_mem _ hx)) (fR hA (hp c List.mem_cons_self).2 h)
theorem fU {A:Rds}{τ:Tns}(hA:ABd A){bs ns:List Str}{k:Option Rk}{R:Rds}(h:eC bs ns k)(hR:RdOk bs R):RdOk bs (eW A τ k R):=by
 cases k with
 |none=>exact hR
 |some r=>exact jV hA h hR
theorem qH {A:Rds}{bs rs:List Str}{d:Nat}(h1:∀l ns τ st,LnOk bs rs d ns l->RdOk bs st.2.2->RdOk bs (aX A l τ st).2.2):∀(ls:List Ln) (ns:List Str) (τ:Tns) (st:DSt),(∀x∈ls,LnOk bs rs d ns x)->RdOk bs st.2.2->RdOk bs (eQ A ls τ st).2.2
 |[],ns,τ,st,_,h=>by rw[nZ]; exact h
 |l::ls,ns,τ,st,hl,h=>by
  rw[uZ];exact qH h1 ls ns τ _ (fun x hx=>hl x (List.mem_cons_of_mem _ hx)) (h1 l ns τ st (hl l List.mem_cons_self) h)
theorem aG {α β:Type}{f:α->β->α}{P:α->Prop}(h:∀x k,P x->P (f x k)):∀(l:List β) (x:α),P x->P (l.foldl f x)
 |[],x,p=>p
 |k::l,x,p=>aG h l _ (h x k p)
theorem one_rd {A:Rds}(hA:ABd A){bs rs:List Str}:∀(d:Nat) (l:Ln) (ns:List Str) (τ:Tns) (st:DSt),LnOk bs rs d ns l->RdOk bs st.2.2->RdOk bs (aX A l τ st).2.2:=by
 intro d
 induction d with
 |zero=>intro l ns τ st h; exact h.elim
 |succ d ih =>
  intro l ns τ st h hR;have br:=qH ih
  cases l with
  |plain k tag s hs ls =>
   obtain⟨h1,h2,h3,h4,h5⟩:=h;rw[aX];exact br ls ns τ _ h4 (pU hA h3.1 (vY hA h2.1 (fU hA h1 hR)))
  |part k n g =>
   obtain⟨h1,h2,h3,h4⟩:=h;rw[aX];exact vY hA h3 (fU hA h1 hR)
  |give k n r ls =>
   obtain⟨h1,h2,h3,h4,h5⟩:=h;rw[aX];exact br ls ns τ _ h4 (jV hA h3 (fU hA h1 hR))
  |when r l1 l2 =>
   obtain⟨h1,⟨h2,h3⟩,h4,h5⟩:=h;rw[aX]
   split
   .exact br l2 ns τ _ h4 (jV hA h1 hR)
   .exact br l1 ns τ _ h2 (jV hA h1 hR)
  |each n r ls =>
   obtain⟨h1,h2,h3⟩:=h;rw[aX];exact aG (P:=fun st:DSt=>RdOk bs st.2.2) (fun x k p=>br ls [n] _ x h2 p) _ _ (jV hA h1 hR)
theorem cF {A:Rds}(hA:ABd A){bs rs:List Str}{d:Nat}{ls:List Ln}{ns:List Str}{τ:Tns}{st:DSt}(h:∀x∈ls,LnOk bs rs d ns x)(hR:RdOk bs st.2.2):RdOk bs (eQ A ls τ st).2.2:=qH (one_rd hA d) ls ns τ st h hR
def CInts (N:Tns):Prop:=∀kv∈N,∃i,kv.2=.int i
theorem CInts.put {N:Tns}(h:CInts N)(k:Key)(i:Int):CInts (cZ N k (.int i)):=by
 intro kv hk;unfold cZ at hk
 split at hk
 .obtain ⟨x,hx,rfl⟩:=List.mem_map.1 hk
  split
  .exact ⟨i,rfl⟩
  .exact h x hx
 .rcases List.mem_append.1 hk with hk | hk
  .exact h kv hk
  .cases List.mem_singleton.1 hk; exact⟨i,rfl⟩
theorem cnt_is {N:Tns}(h:CInts N)(k:Key):(hZ N k).getD (.int 0)=.int (bD N k):=by
 unfold bD
 cases e:hZ N k with
 |none=>rfl
 |some v =>
  obtain⟨kv,hm,rfl⟩:=uS e;obtain⟨i,ei⟩:=h kv hm;rw[ei]
  rfl
mutual
theorem one_ci (A:Rds):∀(l:Ln) (τ:Tns) (st:DSt),CInts st.2.1->CInts (aX A l τ st).2.1
 |.when r l1 l2,τ,st,h=>by
  rw[aX]
  split
  .exact dY A l2 τ _ h
  .exact dY A l1 τ _ h
 |.each n r ls,τ,st,h=>by
  rw[aX];exact aG (P:=fun st:DSt=>CInts st.2.1) (fun x k p=>dY A ls _ x p) _ _ h
 |.part k n g,τ,st,h=>by rw[aX]; exact h.put _ _
 |.give k n r ls,τ,st,h=>by rw[aX]; exact h.put _ _
 |.plain k tag s hs ls,τ,st,h=>by rw[aX]; exact h.put _ _
theorem dY (A:Rds):∀(ls:List Ln) (τ:Tns) (st:DSt),CInts st.2.1->CInts (eQ A ls τ st).2.1
 |[],τ,st,h=>by rw[nZ]; exact h
 |l::ls,τ,st,h=>by rw[uZ]; exact dY A ls τ _ (one_ci A l τ st h)
end
theorem XY {n:Nat}{c:TCE}{ρ:CSt}{Q:K1}(I:List PV->List PV->CH->Prop)(step:∀x r acc C,I (x::r) acc C->∃ts,x=.tup ts/\ts.length=n/\∀L:K1,(∀y C2,acc.length < sizeLine/\I r (acc++[y]) C2->L y C2)->c (ts.map some++ρ) C L)(fin:∀acc C,I [] acc C->∀p,C p=none->Q (.ref p) (gQ C p (.lst acc))):
  ∀xs acc C,I xs acc C->nU n aU c ρ Q xs acc C:=by
 intro xs
 induction xs with
 |nil=>intro acc C h; exact fin acc C h
 |cons x r ih =>
  intro acc C h;obtain⟨ts,e,hn,st⟩:=step x r acc C h;exact⟨ts,e,hn,st _ fun y C2 z=>⟨z.1,ih _ _ z.2⟩⟩
section
variable {P:Program}{w:World}{K:PySem.W.Frag}{mg:Str->Option Value}{base:Heap}{a:Adr}
structure Sf (a:Adr)(C:CH)(x aa rr:Addr)(A R:Rds):Prop where
 ins:∃dx,C x=some (.ins a.Drawer dx [("answers",.ref aa),("asked",.ref rr)])
 ans:C aa=some (.dT A)
 ask:C rr=some (.dT R)
 ne:aa≠rr
theorem Sf.nx {C:CH}{x aa rr:Addr}{A R:Rds}(h:Sf a C x aa rr A R):x≠rr:=fun e=>by
 obtain⟨dx,h1⟩:=h.ins;rw[e,h.ask] at h1; cases h1
theorem Sf.keep {C C':CH}{x aa rr:Addr}{A R R':Rds}{S:List Addr}(h:Sf a C x aa rr A R)(e:ExS S C C')(hx:x∉S)(hn:aa∉S)(hk:C' rr=some (.dT R')):Sf a C' x aa rr A R' :=
 ⟨let ⟨dx,h1⟩:=h.ins; ⟨dx,e _ _ hx h1⟩,e _ _ hn h.ans,hk,h.ne⟩
theorem Sf.keep' {C C':CH}{x aa rr:Addr}{A R:Rds}{S:List Addr}(h:Sf a C x aa rr A R)(e:ExS S C C')(hx:x∉S)(hn:aa∉S)(hk:rr∉S):Sf a C' x aa rr A R :=
 h.keep e hx hn (e _ _ hk h.ask)
theorem Sf.rd {C C':CH}{x aa rr:Addr}{A R R':Rds}(h:Sf a C x aa rr A R)(e:ExS [rr] C C')(hk:C' rr=some (.dT R')):Sf a C' x aa rr A R' :=
 h.keep e (fun z=>h.nx (List.mem_singleton.1 z)) (fun z=>h.ne (List.mem_singleton.1 z)) hk
theorem Sf.new {C:CH}{x aa rr p:Addr}{A R:Rds}(h:Sf a C x aa rr A R)(hp:C p=none)(o:CO):Sf a (gQ C p o) x aa rr A R:=by
 have e:ExS [] C (gQ C p o):=ExS.refl.put hp o;exact h.keep' e (List.not_mem_nil) (List.not_mem_nil) (List.not_mem_nil)
theorem Sf.nd {C:CH}{x aa rr ct:Addr}{A R:Rds}{cs:List (Key×PV)}(h:Sf a C x aa rr A R)(m:C ct=some (.dK cs)):x≠ct/\aa≠ct/\rr≠ct:=by
 obtain⟨dx,h1⟩:=h.ins;refine⟨fun e=>?_,fun e=>?_,fun e=>?_⟩
 .rw [e,m] at h1; cases h1
 .have:=h.ans; rw[e,m] at this; cases this
 .have:=h.ask; rw[e,m] at this; cases this
theorem Sf.nl {C:CH}{x aa rr p:Addr}{A R:Rds}{xs:List PV}(h:Sf a C x aa rr A R)(m:C p=some (.lst xs)):x≠p/\aa≠p/\rr≠p:=by
 obtain⟨dx,h1⟩:=h.ins;refine⟨fun e=>?_,fun e=>?_,fun e=>?_⟩
 .rw [e,m] at h1; cases h1
 .have:=h.ans; rw[e,m] at this; cases this
 .have:=h.ask; rw[e,m] at this; cases this
theorem Sf.nn {C:CH}{x aa rr p:Addr}{A R:Rds}(h:Sf a C x aa rr A R)(m:C p=none):x≠p/\aa≠p/\rr≠p:=by
 obtain⟨dx,h1⟩:=h.ins;refine⟨fun e=>?_,fun e=>?_,fun e=>?_⟩
 .rw [e,m] at h1; cases h1
 .have:=h.ans; rw[e,m] at this; cases this
 .have:=h.ask; rw[e,m] at this; cases this
def gInit (a:Adr):GC:=fun ts C Q=>∃(x dx aa:Addr) (A:Rds),ts=[.ref x,.ref aa]/\C x=some (.ins a.Drawer dx [])/\C aa=some (.dT A)/\∀C' rr,C rr=none->Sf a C' x aa rr A []->ExS [x] C C'->Q .non C'
theorem ok_init (T:Txt P w K mg a):FnOk P w K mg base CX0 1 (a.f 40) (a.d 40) ["self","answers"] (spC K (gInit a)):=by
 have S:=(T.F 40 rfl).s
 refine(T.F 40 rfl).ok (fun ts C R h=>?_) fun cdv A outer s H E hr=>⟨_,(xQ (Ko T.xX T.cY (cv 0) (cv 1))
  (kQ (Ko T.xX T.bW (cv 0) QV))),?_⟩
 .obtain ⟨_,_,_,_,rfl,_⟩:=h; rfl
 rintro ts C R ⟨x,dx,an,A,rfl,mx,man,q⟩;have ne:an≠x:=fun e=>by rw[e,mx] at man; cases man
 refine ZN mx (by decide) ?_
 try dsimp only
 intro ak hak
 have hak0:C ak=none:=by
  rw[wQ (fun z=>by rw[z,jQ] at hak; cases hak)] at hak;exact hak
 have nk:ak≠x:=fun e=>by rw[e,mx] at hak0; cases hak0
 refine ZN (p:=x) (by rw[wQ (Ne.symm nk)]; exact jQ) (by show 1 < 1000; decide) ?_;refine q _ ak hak0 ⟨⟨dx,?_⟩,?_,?_,fun e=>by rw[e,hak0] at man; cases man⟩ ?_
 .rw [jQ]
  rfl
 .rw [wQ ne,wQ (fun e=>by rw[e,hak0] at man; cases man),wQ ne]; exact man
 .rw [wQ nk]; exact jQ
 .exact ((ExS.refl.at List.mem_cons_self _).put hak0 _).at List.mem_cons_self _
def gDnum (a:Adr)(d:Nat):GC:=fun ts C Q=>∃(r:Rk) (x aa tt rr:Addr) (A:Rds) (τ:Tns) (R:Rds) (bs ns:List Str),ts=[.ref x,r.pv,.ref tt]/\r.ok bs ns d/\Sf a C x aa rr A R/\C tt=some (.dK τ)/\bG A τ bs ns/\RdOk bs R/\∀C',Sf a C' x aa rr A (r.rds A τ R)->ExS [rr] C C'->Q (.int (r.val A τ)) C'
theorem mU (T:Txt P w K mg a)(d:Nat):FnOk P w K mg base CX0 (d+4) (a.f 41) (a.d 41) ["self","reckoning","turns"] (spC K (gDnum a d)):=by
 have S:=(T.F 41 rfl).s;have qV:=dC (base:=base) T d;refine(T.F 41 rfl).ok (fun ts C R h=>?_) fun cdv A outer s H E hr=>⟨_,(kQ (bQ (cf (T.F 6 rfl) qV hr (qQ (cv 1) (qQ (dI T.xX T.cY (cv 0)) (qQ (cv 2) (ca1 (dI T.xX T.bW (cv 0))))))))),?_⟩
 .obtain ⟨r,_,_,_,_,_,_,_,_,_,rfl,_⟩:=h; rfl
 rintro ts C Q ⟨r,x,aa,tt,rr,A,τ,R,bs,ns,rfl,ok,sf,mtn,hS,hR,q⟩;obtain⟨dx,mx⟩:=sf.ins;refine Kc mx rfl ?_;refine Kc mx rfl ?_;refine⟨r,aa,tt,rr,A,τ,R,bs,ns,rfl,ok,⟨sf.ans,mtn,sf.ask,sf.ne⟩,hS,hR,fun C1 m1 x1=>?_⟩;exact q C1 (sf.rd x1 m1) x1
def XS (a:Adr):GC:=fun ts C Q=>∃(ps:List (Str×Rk)) (x aa tt rr:Addr) (A:Rds) (τ:Tns) (R:Rds) (bs ns:List Str),ts=[.ref x,.tup (ps.map eV),.ref tt]/\pH bs ns 2 ps/\ps.length<=4/\Sf a C x aa rr A R/\C tt=some (.dK τ)/\bG A τ bs ns/\RdOk bs R /\
 ∀C' l,C l=none->C' l=some (.lst ((wJ A τ ps).map dQ))->Sf a C' x aa rr A (yV A τ ps R)->ExS [rr] C C'->Q (.ref l) C'
theorem zD (T:Txt P w K mg a):FnOk P w K mg base CX0 7 (a.f 42) (a.d 42) ["self","pairs","turns"] (spC K (XS a)):=by
 have S:=(T.F 42 rfl).s;have vX:=mU (base:=base) T 2;refine(T.F 42 rfl).ok (fun ts C R h=>?_) fun cdv A outer s H E hr=>⟨_,(kQ (bQ (eK rfl (S.c (by decide +kernel)) (S.k rfl rfl rfl (by decide +kernel)) (kG (cv 1)) (fun _ _ _ _ _=>xJ) (fun _ _ _ _ _=>(mQ (qQ (cx (cv 0) zQ) (ca1 (cm T.xX (T.F 41 rfl) T.rX vX hr (cv 1) (qQ (cx (cv 0) zQ) (ca1 (cv 3))))))))))),?_⟩
 .obtain ⟨_,_,_,_,_,_,_,_,_,_,rfl,_⟩:=h; rfl
 rintro ts C Q ⟨ps,x,aa,tt,rr,A,τ,R,bs,ns,rfl,hp,hl,sf,mtn,hS,hR,q⟩;have nt:tt∉[rr]:=fun z=>(sf.nd mtn).2.2 (List.mem_singleton.1 z).symm;refine tJ (fun zs acc C1=>∃ds es:List (Str×Rk),ps=ds++es/\zs=es.map eV/\acc=(wJ A τ ds).map dQ/\Sf a C1 x aa rr A (yV A τ ds R)/\ExS [rr] C C1) ?_ ?_ _ _ _ ⟨[],ps,rfl,rfl,rfl,sf,ExS.refl⟩
 .rintro z zs acc C1 ⟨ds,es,e1,e2,rfl,sf1,x1⟩ L hL
  cases es with
  |nil=>cases e2
  |cons p es =>
   rw[List.map_cons] at e2;injection e2 with e2 e3
   subst e2 e3;obtain⟨dx,mx⟩:=sf1.ins;refine cX rfl ?_;refine⟨oX mx rfl,?_⟩;refine cX rfl ?_;refine⟨p.2,x,aa,tt,rr,A,τ,_,bs,ns,rfl,hp p (by rw[e1]; exact List.mem_append_right _ List.mem_cons_self),sf1,x1 _ _ nt mtn,hS,vY hS.a (fun y hy=>hp y (by rw[e1]; exact List.mem_append_left _ hy)) hR,fun C2 sf2 x2=>?_⟩;refine⟨by show 2<=sizeLine; decide,?_⟩;refine hL _ _ ⟨?_,ds++[p],es,by rw[e1,List.append_assoc]; rfl,rfl,by unfold wJ; rw[List.map_append,List.map_append]; rfl,?_,x1.trans x2⟩
   .rw [List.length_map]
    unfold wJ;rw[List.length_map];have:ds.length<=4:=by rw[e1,List.length_append] at hl; omega
    exact Nat.lt_of_le_of_lt this (by decide)
   .unfold yV at sf2 ⊢
    rw[List.foldl_append];exact sf2
 .rintro acc C1 ⟨ds,es,e1,e2,rfl,sf1,x1⟩ p hp0
  cases es with
  |cons _ _=>cases e2
  |nil =>
   rw[List.append_nil] at e1;subst e1;have p0:C p=none:=x1.none (fun z=>(sf1.nn hp0).2.2 (List.mem_singleton.1 z).symm) hp0;exact q _ p p0 jQ (sf1.new hp0 _) (x1.put p0 _)
theorem keyOf_keyPV (k:Key):kK (mK k)=some k:=by
 rcases k with (_ | i) | x<;>rfl
def gSpot (a:Adr):GC:=fun ts C Q=>∃(k:Option Rk) (x aa tt rr cc:Addr) (A:Rds) (τ:Tns) (R:Rds) (N:Tns) (bs ns:List Str),ts=[.ref x,tU k,.ref tt,.ref cc]/\eC bs ns k/\Sf a C x aa rr A R/\C tt=some (.dK τ)/\C cc=some (.dK N)/\CInts N/\N.length<=900/\bG A τ bs ns/\RdOk bs R /\
 ∀C',C' cc=some (.dK (wV N (gG A τ k)))->Sf a C' x aa rr A (eW A τ k R)->ExS [rr,cc] C C'->Q (zV (sV N (gG A τ k))) C'
theorem ok_spot (T:Txt P w K mg a):FnOk P w K mg base CX0 5 (a.f 47) (a.d 47) ["self","key","turns","counts"] (spC K (gSpot a)):=by
 have S:=(T.F 47 rfl).s;have vX:=mU (base:=base) T 0
 refine(T.F 47 rfl).ok (fun ts C R h=>?_) fun cdv A outer s H E hr=>⟨_,(xQ (cs1 4 S.nd (sN (ct2 pC sD (cv 1) qU) qU (cm T.xX (T.F 41 rfl) T.rX vX hr (cv 0) (qQ (cv 1) (ca1 (cv 2))))))
  (xQ (cs1 5 S.nd (KB (tX hr) (cv 3) (cv 4) zQ))
  (xQ (wK (tX hr) (cv 3) (cv 4) (rQ oQ tQ (cv 5) zQ))
  (kQ (bQ (mQ (qQ (cv 4) (ca1 (cv 5))))))))),?_⟩
 .obtain ⟨_,_,_,_,_,_,_,_,_,_,_,_,rfl,_⟩:=h; rfl
 rintro ts C Q ⟨ke,x,aa,tt,rr,cc,A,τ,R,N,bs,ns,rfl,hk,sf,mtn,mct,hc,hs,hS,hR,q⟩;obtain⟨n1,n2,n3⟩:=sf.nd mct
 have rest:∀C1,Sf a C1 x aa rr A (eW A τ ke R)->ExS [rr] C C1->jE (KL 5 (KM (oZ 3) (oZ 4) (cC (.int 0)))) (jE (cDPut (oZ 3) (oZ 4) (cOp dF (oZ 5) (cC (.int 1)))) (cRet (sI (fJ (oZ 4) (fJ (oZ 5) nM))))) { nx:=fun _ C'=>Q .non C',rt:=Q } [some (.ref x),some (tU ke),some (.ref tt),some (.ref cc),some (mK (gG A τ ke)),none] C1:=by
  intro C1 sf1 x1;have mct1:=x1 _ _ (fun z=>n3 (List.mem_singleton.1 z).symm) mct;refine yQ (i:=5) ?_;refine⟨isDk_g mct1,?_⟩;refine getD_g mct1 (keyOf_keyPV _) (cnt_is hc _) ?_
  try dsimp only
  refine xZ ?_;refine uW ?_;refine oW mct1 (keyOf_keyPV _) (by omega) ?_
  try dsimp only
  refine⟨by show 2<=sizeLine; decide,?_⟩;refine q _ jQ ?_ ((x1.mono fun b hb=>List.mem_cons.2 (.inl (List.mem_singleton.1 hb))).at (List.mem_cons_of_mem _ List.mem_cons_self) _);refine sf1.keep' (S:=[cc]) (ExS.refl.at List.mem_cons_self _) ?_ ?_ ?_
  .exact fun z=>n1 (List.mem_singleton.1 z)
  .exact fun z=>n2 (List.mem_singleton.1 z)
  .exact fun z=>n3 (List.mem_singleton.1 z)
 cases ke with
 |none=>exact rest C sf ExS.refl
 |some r =>
   obtain⟨dx,mx⟩:=sf.ins;have hr:∃xs,r.pv=.tup xs:=by cases r<;>exact⟨_,rfl⟩
   obtain⟨xs,hr⟩:=hr;have rest':=rest
   simp only[tU,hr] at rest' ⊢
   refine yQ (i:=4) ?_;refine XM ?_;refine fG rfl ?_;refine eU rfl ?_;refine⟨oX mx rfl,?_⟩;refine⟨r,x,aa,tt,rr,A,τ,R,bs,ns,by rw[hr],hk,sf,mtn,hS,hR,fun C1 sf1 x1=>?_⟩;exact rest' C1 sf1 x1
def gHand (a:Adr):GC:=fun ts C Q=>∃(h:Hd) (x aa tt rr:Addr) (A:Rds) (τ:Tns) (R:Rds) (bs ns:List Str),ts=[.ref x,h.pv,.ref tt]/\h.ok bs ns/\Sf a C x aa rr A R/\C tt=some (.dK τ)/\bG A τ bs ns/\RdOk bs R /\
 ∀C',Sf a C' x aa rr A (Kw A τ h.ch R)->ExS [rr] C C'->Q (J2 A τ h).pv C'
theorem ok_hand (T:Txt P w K mg a):FnOk P w K mg base CX0 6 (a.f 48) (a.d 48) ["self","hand","turns"] (spC K (gHand a)):=by
 have S:=(T.F 48 rfl).s;have vX:=mU (base:=base) T 1
 refine(T.F 48 rfl).ok (fun ts C R h=>?_) fun cdv A outer s H E hr=>⟨_,(xQ (yR (i:=3) S.nd rfl (Or.inl rfl) rfl (S.c (by decide +kernel)) (S.k rfl rfl rfl (by decide +kernel)) (kG (cx (cv 1) zQ)) (fun _ _ _ _ _=>xJ) (fun _ _ _ _ _=>(mQ (qQ (cx (cv 0) zQ) (qQ (cx (cv 0) zQ) (ca1 (cm T.xX (T.F 41 rfl) T.rX vX hr (cv 1) (qQ (cx (cv 0) zQ) (ca1 (cv 3))))))))))
  (kQ (bQ (mQ (qQ (cx (cv 1) zQ) (qQ (cx (cv 1) zQ) (qQ (cx (cv 1) zQ) (ca1 (ctp T.qZ (cv 3)))))))))),?_⟩
 .obtain ⟨_,_,_,_,_,_,_,_,_,_,rfl,_⟩:=h; rfl
 rintro ts C Q ⟨h,x,aa,tt,rr,A,τ,R,bs,ns,rfl,hh,sf,mtn,hS,hR,q⟩;have nt:tt∉[rr]:=fun z=>(sf.nd mtn).2.2 (List.mem_singleton.1 z).symm;refine yQ ?_;refine cX (v:=.tup (h.ch.map Kx)) rfl ?_;refine tJ (fun zs acc C1=>∃ds es:List (Str×Str×Rk),h.ch=ds++es/\zs=es.map Kx/\acc=(fI A τ ds).map uI/\Sf a C1 x aa rr A (Kw A τ ds R)/\ExS [rr] C C1) ?_ ?_ _ _ _ ⟨[],h.ch,rfl,rfl,rfl,sf,ExS.refl⟩
 .rintro z zs acc C1 ⟨ds,es,e1,e2,rfl,sf1,x1⟩ L hL
  cases es with
  |nil=>cases e2
  |cons p es =>
   rw[List.map_cons] at e2;injection e2 with e2 e3
   subst e2 e3;obtain⟨dx,mx⟩:=sf1.ins;refine cX rfl ?_;refine cX rfl ?_;refine⟨oX mx rfl,?_⟩;refine cX rfl ?_;refine⟨p.2.2,x,aa,tt,rr,A,τ,_,bs,ns,rfl,hh.2 p (by rw[e1]; exact List.mem_append_right _ List.mem_cons_self),sf1,x1 _ _ nt mtn,hS,fR hS.a (fun y hy=>hh.2 y (by rw[e1]; exact List.mem_append_left _ hy)) hR,fun C2 sf2 x2=>?_⟩;refine⟨by show 3<=sizeLine; decide,?_⟩;refine hL _ _ ⟨?_,ds++[p],es,by rw[e1,List.append_assoc]; rfl,rfl,by unfold fI; rw[List.map_append,List.map_append]; rfl,?_,x1.trans x2⟩
   .rw [List.length_map]
    unfold fI;rw[List.length_map];have hl:=hh.1;have:ds.length<=4:=by rw[e1,List.length_append] at hl; omega
    exact Nat.lt_of_le_of_lt this (by decide)
   .unfold Kw at sf2 ⊢
    rw[List.foldl_append];exact sf2
 .rintro acc C1 ⟨ds,es,e1,e2,rfl,sf1,x1⟩ p hp0
  cases es with
  |cons _ _=>cases e2
  |nil =>
   rw[List.append_nil] at e1;have p0:C p=none:=x1.none (fun z=>(sf1.nn hp0).2.2 (List.mem_singleton.1 z).symm) hp0
   try dsimp only
   refine cX (v:=.str h.ev) rfl ?_;refine cX (v:=.int h.rank) rfl ?_;refine cX (v:=.bl h.last) rfl ?_;refine rJ jQ ?_;refine⟨by show 4<=sizeLine; decide,?_⟩;have:=q _ (by rw[e1]; exact sf1.new hp0 _) (x1.put p0 (.lst ((fI A τ ds).map uI)));unfold HdV.pv J2 at this;rw[e1] at this;exact this
end
structure S6 (a:Adr)(C:CH)(x aa rr tt ff cc:Addr)(A:Rds)(τ:Tns)(st:DSt):Prop where
 sf:Sf a C x aa rr A st.2.2
 mt:C tt=some (.dK τ)
 mf:C ff=some (.lst (Wt.pvs st.1))
 mc:C cc=some (.dK st.2.1)
 tc:tt≠cc
section
variable {a:Adr}{C C':CH}{x aa rr tt ff cc:Addr}{A:Rds}{τ:Tns}{st st':DSt}
theorem S6.fc (h:S6 a C x aa rr tt ff cc A τ st):ff≠cc:=fun z=>by have:=h.mf; rw[z,h.mc] at this; cases this
theorem S6.tf (h:S6 a C x aa rr tt ff cc A τ st):tt≠ff:=fun z=>by have:=h.mt; rw[z,h.mf] at this; cases this
theorem S6.fr (h:S6 a C x aa rr tt ff cc A τ st):ff≠rr:=fun z=>(h.sf.nl h.mf).2.2 z.symm
theorem S6.cr (h:S6 a C x aa rr tt ff cc A τ st):cc≠rr:=fun z=>(h.sf.nd h.mc).2.2 z.symm
theorem S6.tr (h:S6 a C x aa rr tt ff cc A τ st):tt≠rr:=fun z=>(h.sf.nd h.mt).2.2 z.symm
theorem S6.nt (h:S6 a C x aa rr tt ff cc A τ st):tt∉[ff,cc,rr]:=fun z=>by
 simp only[List.mem_cons,List.not_mem_nil,or_false] at z
 rcases z with z | z | z
 .exact h.tf z
 .exact h.tc z
 .exact h.tr z
theorem S6.rd (h:S6 a C x aa rr tt ff cc A τ st)(e:ExS [rr] C C'){R:Rds}(s:Sf a C' x aa rr A R):S6 a C' x aa rr tt ff cc A τ (st.1,st.2.1,R) :=
 ⟨s,e _ _ (fun z=>h.tr (List.mem_singleton.1 z)) h.mt,e _ _ (fun z=>h.fr (List.mem_singleton.1 z)) h.mf,e _ _ (fun z=>h.cr (List.mem_singleton.1 z)) h.mc,h.tc⟩
end
theorem vR {ff cc rr:Addr}{C C':CH}(h:ExS [rr] C C'):ExS [ff,cc,rr] C C':=h.mono fun b z=>by rw[List.mem_singleton.1 z]; simp
theorem mF {cc rr:Addr}{C C':CH}(h:ExS [rr] C C'):ExS [rr,cc] C C':=h.mono fun b z=>by rw[List.mem_singleton.1 z]; simp
theorem QM {ff cc rr:Addr}{C C':CH}(h:ExS [rr,cc] C C'):ExS [ff,cc,rr] C C':=h.mono fun b z=>by
 simp only[List.mem_cons,List.not_mem_nil,or_false] at z ⊢
 rcases z with z | z
 .exact .inr (.inr z)
 .exact .inr (.inl z)
theorem iR {x y:PV}{r:List PV}:atI (x::y::r) 1=some y:=bB (xs:=x::y::r) (k:=1) (by simp)
theorem th_pv {l:Ln}(h:isTh l=true):∃(wd:Str) (rest:List PV),l.pv=.tup (.str wd::tU (sG l)::rest)/\decide (wd = "when")=false/\decide (wd = "each")=false:=by
 cases l with
 |plain k tag s hs ls=>exact⟨"plain",_,by rw[Ln.pv]; rfl,by decide,by decide⟩
 |part k n g=>exact⟨"part",_,by rw[Ln.pv]; rfl,by decide,by decide⟩
 |give k n r ls=>exact⟨"give",_,by rw[Ln.pv]; rfl,by decide,by decide⟩
 |when r l1 l2=>cases h
 |each n r ls=>cases h
def gBr (a:Adr)(d:Nat):GC:=fun ts C Q=>∃(ls:List Ln) (x aa tt rr ff cc:Addr) (A:Rds) (τ:Tns) (st:DSt) (bs rs ns:List Str),ts=[.ref x,.tup (Ln.pvs ls),.ref tt,.ref ff,.ref cc]/\(∀x∈ls,LnOk bs rs d ns x)/\st.1.length+Ln.tws ls<=400/\st.2.1.length+Ln.tws ls<=400/\τ.length+d<=50/\S6 a C x aa rr tt ff cc A τ st/\bG A τ bs ns/\RdOk bs st.2.2/\CInts st.2.1 /\
 ∀C',S6 a C' x aa rr tt ff cc A τ (eQ A ls τ st)->ExS [ff,cc,rr] C C'->Q .non C'
def gBrL (a:Adr)(d:Nat):GC:=fun ts C Q=>∃d',d=d'+1/\gBr a d' ts C Q
def gRow (a:Adr)(d:Nat):GC:=fun ts C Q=>∃(ls:List Ln) (x aa tt rr:Addr) (A:Rds) (τ:Tns) (R:Rds) (bs rs ns:List Str),ts=[.ref x,.tup (Ln.pvs ls),.ref tt]/\(∀x∈ls,LnOk bs rs d ns x)/\Ln.tws ls<=400/\τ.length+d<=50/\Sf a C x aa rr A R/\C tt=some (.dK τ)/\bG A τ bs ns/\RdOk bs R /\
 ∀C',Sf a C' x aa rr A (eQ A ls τ ([],[],R)).2.2->ExS [rr] C C'->Q (.tup (Wt.pvs (eQ A ls τ ([],[],R)).1)) C'
def gRowL (a:Adr)(d:Nat):GC:=fun ts C Q=>∃d',d=d'+1/\gRow a d' ts C Q
def gWant (a:Adr)(d:Nat):GC:=fun ts C Q=>∃(l:Ln) (x aa tt rr cc:Addr) (A:Rds) (τ:Tns) (R:Rds) (N:Tns) (bs rs ns:List Str),ts=[.ref x,l.pv,.ref tt,.ref cc]/\isTh l=true/\LnOk bs rs d ns l/\l.tw<=400/\τ.length+d<=50/\Sf a C x aa rr A R/\C tt=some (.dK τ)/\C cc=some (.dK N)/\tt≠cc/\CInts N/\N.length<=900/\bG A τ bs ns/\RdOk bs R /\
 ∀C',C' cc=some (.dK (wV N (gG A τ (sG l))))->Sf a C' x aa rr A (xB A τ (sV N (gG A τ (sG l))) l (eW A τ (sG l) R)).2->ExS [rr,cc] C C'->Q (xB A τ (sV N (gG A τ (sG l))) l (eW A τ (sG l) R)).1.pv C'
section
variable {P:Program}{w:World}{K:PySem.W.Frag}{mg:Str->Option Value}{base:Heap}{a:Adr}
theorem Z8 (T:Txt P w K mg a){d k:Nat}(kJ:FnOk P w K mg base CX0 k (a.f 44) (a.d 44) ["self","lines","turns","row","counts"] (spC K (gBr a d))):FnOk P w K mg base CX0 (k+1) (a.f 43) (a.d 43) ["self","lines","turns"] (spC K (gRow a d)):=by
 have S:=(T.F 43 rfl).s
 refine(T.F 43 rfl).ok (fun ts C R h=>?_) fun cdv A outer s H E hr=>⟨_,(xQ (cs1 3 S.nd (gX iX))
  (xQ (vZ (cm T.xX (T.F 44 rfl) T.rX kJ hr (cv 0) (qQ (cv 1) (qQ (cv 2) (qQ (cv 3) (ca1 dR))))))
  (kQ (bQ (ctp T.qZ (cv 3)))))),?_⟩
 .obtain ⟨_,_,_,_,_,_,_,_,_,_,_,rfl,_⟩:=h; rfl
 rintro ts C Q ⟨ls,x,aa,tt,rr,A,τ,R,bs,rs,ns,rfl,ok,htw,hτ,sf,mtn,hS,hR,q⟩;refine⟨by show 0<=sizeLine; decide,fun ff ff0=>?_⟩
 try dsimp only
 have sf1:=sf.new ff0 (.lst []);obtain⟨dx,mx⟩:=sf1.ins;refine xZ ?_;refine⟨oX mx rfl,?_⟩;intro cc cc0;have ncr:cc≠ff:=fun z=>by rw[z,jQ] at cc0; cases cc0
 have cc0':C cc=none:=by rw[wQ ncr] at cc0; exact cc0
 have sf2:=sf1.new cc0 (.dK []);have ntr:tt≠ff:=fun z=>by rw[z,ff0] at mtn; cases mtn
 have ntc:tt≠cc:=fun z=>by rw[z,cc0'] at mtn; cases mtn
 refine⟨ls,x,aa,tt,rr,ff,cc,A,τ,([],[],R),bs,rs,ns,rfl,ok,by show 0+_<=400; omega,by show 0+_<=400; omega,hτ,⟨sf2,by rw[wQ ntc,wQ ntr]; exact mtn,by rw[wQ (Ne.symm ncr)]; exact jQ,jQ,ntc⟩,hS,hR,(fun _ z=>nomatch z),fun C2 s2 e2=>?_⟩
 try dsimp only
 refine rJ s2.mf ?_;refine q C2 s2.sf fun b o hb hbo=>?_;have b1:b≠ff:=fun z=>by rw[z,ff0] at hbo; cases hbo
 have b2:b≠cc:=fun z=>by rw[z,cc0'] at hbo; cases hbo
 refine e2 b o (fun z=>?_) (by rw[wQ b2,wQ b1]; exact hbo)
 simp only[List.mem_cons,List.not_mem_nil,or_false] at z
 rcases z with z | z | z
 .exact b1 z
 .exact b2 z
 .exact hb (by rw[z]; exact List.mem_singleton.2 rfl)
theorem ok_want (T:Txt P w K mg a)(d k:Nat)(h7:7<=k)(cV:FnOk P w K mg base CX0 k (a.f 43) (a.d 43) ["self","lines","turns"] (spC K (gRowL a d))):FnOk P w K mg base CX0 (k+1) (a.f 46) (a.d 46) ["self","line","turns","counts"] (spC K (gWant a d)):=by
 have S:=(T.F 46 rfl).s;have lH:=(ok_spot (base:=base) T).mono (show 5<=k by omega);have vX:=(mU (base:=base) T 1).mono (show 5<=k by omega);have gK:=(zD (base:=base) T).mono h7;have rH:=(ok_hand (base:=base) T).mono (show 6<=k by omega)
 refine(T.F 46 rfl).ok (fun ts C R h=>?_) fun cdv A outer s H E hr=>⟨_,(xQ (cs1 4 S.nd (cm T.xX (T.F 47 rfl) T.rX lH hr (cv 0) (qQ (cx (cv 1) zQ) (qQ (cv 2) (ca1 (cv 3))))))
  (xQ (wX (ct2 hX jX (cx (cv 1) zQ) vQ) (kQ (bQ (mQ (qQ vQ (qQ (cv 4) (qQ (cx (cv 1) zQ) (qQ (cm T.xX (T.F 41 rfl) T.rX vX hr (cv 0) (qQ (cx (cv 1) zQ) (ca1 (cv 2)))) (ca1 (cm T.xX (T.F 43 rfl) T.rX cV hr (cv 0) (qQ (cx (cv 1) zQ) (ca1 (cv 2)))))))))))) qX)
  (xQ (cs1 5 S.nd (ctp T.qZ (gZ (cM rfl) oP rfl T.vL rfl (ca1 (cm T.xX (T.F 42 rfl) T.rX gK hr (cv 0) (qQ (cx (cv 1) zQ) (ca1 (cv 2))))))))
  (xQ (wX (ct2 hX jX (cx (cv 1) zQ) vQ) (kQ (bQ (mQ (qQ vQ (qQ (cv 4) (qQ (cx (cv 1) zQ) (ca1 (cv 5)))))))) qX)
  (xQ (cs1 6 S.nd (ctp T.qZ (eK rfl (S.c (by decide +kernel)) (S.k rfl rfl rfl (by decide +kernel)) (kG (cx (cv 1) zQ)) (fun _ _ _ _ _=>xJ) (fun _ _ _ _ _=>(cm T.xX (T.F 48 rfl) T.rX rH hr (cv 1) (qQ (cv 0) (ca1 (cv 3))))))))
  (kQ (bQ (mQ (qQ vQ (qQ (cv 4) (qQ (cx (cv 1) zQ) (qQ (cv 5) (qQ (cv 6) (ca1 (cm T.xX (T.F 43 rfl) T.rX cV hr (cv 0) (qQ (cx (cv 1) zQ) (ca1 (cv 2)))))))))))))))))),?_⟩
 .obtain ⟨_,_,_,_,_,_,_,_,_,_,_,_,_,rfl,_⟩:=h; rfl
 rintro ts C Q ⟨l,x,aa,tt,rr,cc,A,τ,R,N,bs,rs,ns,rfl,hth,ok,htw,hτ,sf,mtn,mct,ntc,hc,hs,hS,hR,q⟩;obtain⟨dx,mx⟩:=sf.ins;obtain⟨n1,n2,n3⟩:=sf.nd mct
 have nta:tt∉[rr,cc]:=fun z=>by
  rcases List.mem_cons.1 z with z | z
  .exact (sf.nd mtn).2.2 z.symm
  .exact ntc (List.mem_singleton.1 z)
 have nta':tt∉[rr]:=fun z=>nta (List.mem_cons.2 (.inl (List.mem_singleton.1 z)));have nca:cc∉[rr]:=fun z=>n3 (List.mem_singleton.1 z).symm
 cases d with
 |zero=>exact ok.elim
 |succ d =>
 cases l with
 |when r l1 l2=>cases hth
 |each n r ls=>cases hth
 |give kk n rk ls =>
  obtain⟨h1,h2,h3,h4',h5⟩:=ok;unfold Ln.pv;refine⟨oX mx rfl,?_⟩;refine cX (v:=tU kk) rfl ?_;refine⟨kk,x,aa,tt,rr,cc,A,τ,R,N,bs,ns,rfl,h1,sf,mtn,mct,hc,hs,hS,hR,fun C1 m1 sf1 x1=>?_⟩
  try dsimp only
  have mtn1:=x1 _ _ nta mtn;have R1:=fU (τ:=τ) hS.a h1 hR;obtain⟨dx1,mx1⟩:=sf1.ins;refine xZ ?_;refine cX sQ ?_;refine yX (pQ _ _) ?_;refine nK (by decide) ?_;refine cX (v:=.str n) rfl ?_;refine⟨oX mx1 rfl,?_⟩;refine cX (v:=rk.pv) rfl ?_;refine⟨rk,x,aa,tt,rr,A,τ,_,bs,ns,rfl,h3,sf1,mtn1,hS,R1,fun C2 sf2 x2=>?_⟩;have mtn2:=x2 _ _ nta' mtn1;obtain⟨dx2,mx2⟩:=sf2.ins;refine⟨oX mx2 rfl,?_⟩;refine cX (v:=.tup (Ln.pvs ls)) rfl ?_
  have htw':1+Ln.tws ls<=400:=htw;refine⟨d,rfl,ls,x,aa,tt,rr,A,τ,_,bs,rs,ns,rfl,h4',by omega,by omega,sf2,mtn2,hS,jV hS.a h3 R1,fun C3 sf3 x3=>?_⟩;refine⟨by show 5<=sizeLine; decide,?_⟩;have:=q C3 (x3 _ _ nca (x2 _ _ nca m1)) sf3 ((x1.trans (mF x2)).trans (mF x3));unfold xB Wt.pv at this;exact this
 |part kk n g =>
  obtain⟨h1,h2,h3,h4'⟩:=ok;unfold Ln.pv;refine⟨oX mx rfl,?_⟩;refine cX (v:=tU kk) rfl ?_;refine⟨kk,x,aa,tt,rr,cc,A,τ,R,N,bs,ns,rfl,h1,sf,mtn,mct,hc,hs,hS,hR,fun C1 m1 sf1 x1=>?_⟩
  try dsimp only
  have mtn1:=x1 _ _ nta mtn;have R1:=fU (τ:=τ) hS.a h1 hR;obtain⟨dx1,mx1⟩:=sf1.ins;refine xZ ?_;refine cX sQ ?_;refine yX (pQ _ _) ?_;refine kZ (by decide) ?_;refine bX ?_
  try dsimp only
  refine yQ (i:=5) ?_;refine⟨oX mx1 rfl,?_⟩;refine cX (v:=.tup (g.map eV)) rfl ?_;refine⟨g,x,aa,tt,rr,A,τ,_,bs,ns,rfl,fun y hy=>(h3 y hy).mono (by decide),h4',sf1,mtn1,hS,R1,fun C2 p p0 m2 sf2 x2=>?_⟩;refine dL m2 (by unfold wJ; rw[List.length_map]; omega) fun p2 p20=>?_;refine rJ jQ ?_
  try dsimp only
  refine xZ ?_;refine cX sQ ?_;refine yX (pQ _ _) ?_;refine nK (by decide) ?_;refine cX (v:=.str n) rfl ?_;refine⟨by show 4<=sizeLine; decide,?_⟩;have npc:cc≠p2:=fun z=>by have:=x2 _ _ nca m1; rw[z,p20] at this; cases this
  have:=q (gQ C2 p2 (.lst ((sY (wJ A τ g)).map dQ))) (by rw[wQ npc]; exact x2 _ _ nca m1) (sf2.new p20 _) (by
   intro b o hb hbo;have h2:=(x1.trans (mF x2)) b o hb hbo;rw[wQ (fun z=>by rw[z,p20] at h2; cases h2)]
   exact h2)
  unfold xB Wt.pv at this;exact this
 |plain kk tag ss hs' ls =>
  obtain⟨h1,h2,h3,h4',h5⟩:=ok;unfold Ln.pv;generalize hl0:PV.tup [PV.str "plain",tU kk,PV.str tag,PV.tup (List.map eV ss),PV.tup (List.map Hd.pv hs'),PV.tup (Ln.pvs ls)]=lp
  have ilp:∀(i:Int) (v:PV) (C':CH) (Q':K1),atI [PV.str "plain",tU kk,PV.str tag,PV.tup (List.map eV ss),PV.tup (List.map Hd.pv hs'),PV.tup (Ln.pvs ls)] i=some v->Q' v C'->cIx lp (.int i) C' Q':=by
   intro i v C' Q' e h;rw[<- hl0];exact cX e h
  refine⟨oX mx rfl,?_⟩;refine ilp 1 (tU kk) _ _ rfl ?_;refine⟨kk,x,aa,tt,rr,cc,A,τ,R,N,bs,ns,rfl,h1,sf,mtn,mct,hc,hs,hS,hR,fun C1 m1 sf1 x1=>?_⟩
  try dsimp only
  have mtn1:=x1 _ _ nta mtn;have R1:=fU (τ:=τ) hS.a h1 hR;obtain⟨dx1,mx1⟩:=sf1.ins;refine xZ ?_;refine ilp 0 (.str "plain") _ _ rfl ?_;refine yX (pQ _ _) ?_;refine kZ (by decide) ?_;refine bX ?_
  try dsimp only
  refine yQ (i:=5) ?_;refine⟨oX mx1 rfl,?_⟩;refine ilp 3 (.tup (ss.map eV)) _ _ rfl ?_;refine⟨ss,x,aa,tt,rr,A,τ,_,bs,ns,rfl,h2.1,h2.2.1,sf1,mtn1,hS,R1,fun C2 p p0 m2 sf2 x2=>?_⟩;have hl2:=h2.2;refine dL m2 (by unfold wJ; rw[List.length_map]; omega) fun p2 p20=>?_;refine rJ jQ ?_
  try dsimp only
  refine xZ ?_;refine ilp 0 (.str "plain") _ _ rfl ?_;refine yX (pQ _ _) ?_;refine kZ (by decide) ?_;refine bX ?_
  try dsimp only
  have R2:=vY (τ:=τ) hS.a h2.1 R1;have mct2:=x2 _ _ nca m1;have mtn2:=x2 _ _ nta' mtn1;have x12:=x1.trans (mF (cc:=cc) x2);have sf3:=sf2.new p20 (.lst ((sY (wJ A τ ss)).map dQ));have mct3:(gQ C2 p2 (.lst ((sY (wJ A τ ss)).map dQ))) cc=some (.dK (wV N (gG A τ kk))):=Gr.new p20 _ _ _ mct2;have mtn3:(gQ C2 p2 (.lst ((sY (wJ A τ ss)).map dQ))) tt=some (.dK τ):=Gr.new p20 _ _ _ mtn2;have x3:ExS [rr,cc] C (gQ C2 p2 (.lst ((sY (wJ A τ ss)).map dQ))):=fun b o hb hbo=>Gr.new p20 _ _ _ (x12 b o hb hbo)
  generalize gQ C2 p2 (.lst ((sY (wJ A τ ss)).map dQ))=C3 at sf3 mct3 mtn3 x3 ⊢;refine yQ (i:=6) ?_;refine ilp 4 (.tup (hs'.map Hd.pv)) _ _ rfl ?_;refine tJ (fun zs acc C4=>∃ds es:List Hd,hs'=ds++es/\zs=es.map Hd.pv/\acc=(vV A τ ds).map HdV.pv/\Sf a C4 x aa rr A (jW A τ ds (yV A τ ss (eW A τ kk R)))/\ExS [rr] C3 C4) ?_ ?_ _ _ _ ⟨[],hs',rfl,rfl,rfl,sf3,ExS.refl⟩
  .rintro z zs acc C4 ⟨ds,es,e1,e2,rfl,sf4,x4⟩ L hL
   cases es with
   |nil=>cases e2
   |cons u es =>
    obtain⟨rfl,rfl⟩:=List.cons.inj e2;obtain⟨dx4,mx4⟩:=sf4.ins;refine⟨oX mx4 rfl,?_⟩;refine⟨u,x,aa,tt,rr,A,τ,_,bs,ns,rfl,h3.1 u (by rw[e1]; exact List.mem_append_right _ List.mem_cons_self),sf4,x4 _ _ nta' mtn3,hS,pU hS.a (fun y hy=>h3.1 y (by rw[e1]; exact List.mem_append_left _ hy)) R2,fun C5 sf5 x5=>?_⟩;refine hL _ _ ⟨?_,ds++[u],es,by rw[e1,List.append_assoc]; rfl,rfl,by unfold vV; rw[List.map_append,List.map_append]; rfl,?_,x4.trans x5⟩
    .rw [List.length_map]
     unfold vV;rw[List.length_map];have hl:=h3.2;have:ds.length<=4:=by rw[e1,List.length_append] at hl; omega
     exact Nat.lt_of_le_of_lt this (by decide)
    .unfold jW at sf5 ⊢
     rw[List.foldl_append];exact sf5
  .rintro acc C4 ⟨ds,es,e1,e2,rfl,sf4,x4⟩ p4 p40
   cases es with
   |cons _ _=>cases e2
   |nil =>
    rw[List.append_nil] at e1;subst e1;refine rJ jQ ?_
    try dsimp only
    have sf5:=sf4.new p40 (.lst ((vV A τ hs').map HdV.pv));have mct5:(gQ C4 p4 (.lst ((vV A τ hs').map HdV.pv))) cc=some (.dK (wV N (gG A τ kk))):=Gr.new p40 _ _ _ (x4 _ _ nca mct3);have mtn5:(gQ C4 p4 (.lst ((vV A τ hs').map HdV.pv))) tt=some (.dK τ):=Gr.new p40 _ _ _ (x4 _ _ nta' mtn3);have x5:ExS [rr,cc] C (gQ C4 p4 (.lst ((vV A τ hs').map HdV.pv))):=fun b o hb hbo=>Gr.new p40 _ _ _ ((mF (cc:=cc) x4) b o hb (x3 b o hb hbo))
    generalize gQ C4 p4 (.lst ((vV A τ hs').map HdV.pv))=C5 at sf5 mct5 mtn5 x5 ⊢;obtain⟨dx5,mx5⟩:=sf5.ins;refine ilp 2 (.str tag) _ _ rfl ?_;refine⟨oX mx5 rfl,?_⟩;refine ilp 5 (.tup (Ln.pvs ls)) _ _ rfl ?_;have htw':1+Ln.tws ls<=400:=htw;refine⟨d,rfl,ls,x,aa,tt,rr,A,τ,_,bs,rs,ns,rfl,h4',by omega,by omega,sf5,mtn5,hS,pU hS.a h3.1 R2,fun C6 sf6 x6=>?_⟩;refine⟨by show 6<=sizeLine; decide,?_⟩;have:=q C6 (x6 _ _ nca mct5) sf6 (x5.trans (mF x6))
    unfold xB Wt.pv at this;exact this
end
theorem TBd.put {τ:Tns}(h:TBd τ)(k:Key){i:Int}(hi:Bd i):TBd (cZ τ k (.int i)):=by
 intro kv hk;unfold cZ at hk
 split at hk
 .obtain ⟨x,hx,rfl⟩:=List.mem_map.1 hk
  split
  .exact ⟨i,rfl,hi⟩
  .exact h x hx
 .rcases List.mem_append.1 hk with hk | hk
  .exact h kv hk
  .cases List.mem_singleton.1 hk; exact⟨i,rfl,hi⟩
def J8 (a:Adr)(d:Nat):GC:=fun ts C Q=>∃(n:Str) (rk:Rk) (l1:List Ln) (x aa tt rr ff cc:Addr) (A:Rds) (τ:Tns) (st:DSt) (bs rs ns:List Str),ts=[.ref x,(Ln.each n rk l1).pv,.ref tt,.ref ff,.ref cc]/\LnOk bs rs d ns (.each n rk l1)/\st.1.length+(Ln.each n rk l1).tw<=400/\st.2.1.length+(Ln.each n rk l1).tw<=400/\τ.length+d<=50/\S6 a C x aa rr tt ff cc A τ st/\bG A τ bs ns/\RdOk bs st.2.2/\CInts st.2.1 /\
 ∀C',S6 a C' x aa rr tt ff cc A τ (aX A (.each n rk l1) τ st)->ExS [ff,cc,rr] C C'->Q .non C'
section
variable {P:Program}{w:World}{K:PySem.W.Frag}{mg:Str->Option Value}{base:Heap}{a:Adr}
theorem Jj (T:Txt P w K mg a)(d k:Nat)(h7:7<=k)(kJ:FnOk P w K mg base CX0 k (a.f 44) (a.d 44) ["self","lines","turns","row","counts"] (spC K (gBrL a d))):FnOk P w K mg base CX0 (k+1) (a.f 45) (a.d 45) ["self","line","turns","row","counts"] (spC K (J8 a d)):=by
 have S:=(T.F 45 rfl).s;have vX:=(mU (base:=base) T 2).mono (show 6<=k by omega)
 refine(T.F 45 rfl).ok (fun ts C R h=>?_) fun cdv A outer s H E hr=>⟨_,(xQ (cs1 5 S.nd (gZ (oN rfl) QW rfl T.z_min rfl (qQ (aD (v:=.int 8) (t:=.int 8) rfl T.gO ⟨_,rfl⟩ (fun _=>.int _)) (ca1 (cm T.xX (T.F 41 rfl) T.rX vX hr (cv 0) (qQ (cx (cv 1) zQ) (ca1 (cv 2))))))))
  (kQ (nD PassesOwn.never rfl rfl T.gV (ca1 (cv 5)) (cg1 6 S.nd) (xQ (cs1 7 S.nd (eX nI X1 rfl T.Zg rfl (ca1 (cv 2))))
  (xQ (wK (tX hr) (cv 7) (cx (cv 1) zQ) (cv 6))
  (kQ (vZ (cm T.xX (T.F 44 rfl) T.rX kJ hr (cv 0) (qQ (cx (cv 1) zQ) (qQ (cv 7) (qQ (cv 3) (ca1 (cv 4))))))))))))),?_⟩
 .obtain ⟨_,_,_,_,_,_,_,_,_,_,_,_,_,_,_,rfl,_⟩:=h; rfl
 rintro ts C Q ⟨n,rk,l1,x,aa,tt,rr,ff,cc,A,τ,st1,bs,rs,ns,rfl,hu,hF,hN,hτ,s1,hS,R1,C1i,q⟩
 cases d with
 |zero=>exact hu.elim
 |succ d' =>
 obtain⟨ork,o1,_⟩:=hu;have ep:(Ln.each n rk l1).pv=.tup [.str "each",.str n,rk.pv,.tup (Ln.pvs l1)]:=by rw[Ln.pv]
 have etw:(Ln.each n rk l1).tw=8 * Ln.tws l1:=by rw[Ln.tw]
 have hS0:bG A τ bs []:=⟨hS.a,hS.t,(fun _ z=>nomatch z),hS.b⟩;obtain⟨dx,mx⟩:=s1.sf.ins;refine⟨oX mx rfl,?_⟩;refine dX ep (v:=rk.pv) rfl ?_;refine⟨rk,x,aa,tt,rr,A,τ,_,bs,[],rfl,ork.mono (by decide),s1.sf,s1.mt,hS0,R1,fun C2 sf2 e2=>?_⟩;refine min_s ?_
 try dsimp only
 have bd:=eM hS0.a hS0.t hS0.h ork;unfold Bd at bd;refine⟨by split<;>omega,by split<;>omega,?_⟩;have R2:=jV (τ:=τ) hS.a ork R1;have s2:=s1.rd e2 sf2;show rW _ _ _ ((List.range (mD (rk.val A τ))).map fun k=>PV.int (k:Nat)) _ _;generalize hcap:mD (rk.val A τ)=n8;have hn8:n8<=8:=by rw[<- hcap]; exact dM _
 let f:DSt->Nat->DSt:=fun st k=>eQ A l1 (cZ τ (.inr n) (.int (k:Nat))) st
 let st0:DSt:=(st1.1,st1.2.1,rk.rds A τ st1.2.2)
 refine yZ (fun zs ρ C'=>∃(j:Nat) (x6 x7:Option PV),j<=n8/\zs=((List.range n8).drop j).map (fun k:Nat=>PV.int (k:Nat))/\ρ=[some (.ref x),some (Ln.each n rk l1).pv,some (.ref tt),some (.ref ff),some (.ref cc),some (.int (if rk.val A τ < 8 then rk.val A τ else 8)),x6,x7]/\S6 a C' x aa rr tt ff cc A τ ((List.range j).foldl f st0)/\ExS [ff,cc,rr] C C') ?_ ?_ _ _ _ ⟨0,_,_,Nat.zero_le _,rfl,rfl,s2,vR e2⟩
 .rintro z zs ρ C3 ⟨j,y9,y10,hj,hz,rfl,s3,e3⟩ L3 hL3
  obtain⟨hjn,rfl,rfl⟩:=qB hz;refine yQ ?_;refine dictK_s s3.mt fun ia hia=>?_
  try dsimp only
  refine xZ ?_;refine dX ep (v:=.str n) rfl ?_;refine oW (k:=.inr n) jQ rfl (by omega) ?_
  try dsimp only
  have ne1:∀b o,C3 b=some o->b≠ia:=fun b o h z=>by rw[z,hia] at h; cases h
  have g1:=qG (f:=f) (m:=fun st=>st.1.length) (c:=Ln.tws l1) (fun x k=>(jJ A l1 _ x).1) (List.range j) st0;have g2:=qG (f:=f) (m:=fun st=>st.2.1.length) (c:=Ln.tws l1) (fun x k=>(jJ A l1 _ x).2) (List.range j) st0;rw[List.length_range] at g1 g2
  have hm:j * Ln.tws l1+Ln.tws l1<=8 * Ln.tws l1:=by
   have:(j+1) * Ln.tws l1<=8 * Ln.tws l1:=Nat.mul_le_mul_right _ (by omega);rw[Nat.add_mul,Nat.one_mul] at this;exact this
  have g1:((List.range j).foldl f st0).1.length<=st1.1.length+j * Ln.tws l1:=g1;have g2:((List.range j).foldl f st0).2.1.length<=st1.2.1.length+j * Ln.tws l1:=g2;have R3:RdOk bs ((List.range j).foldl f st0).2.2:=aG (P:=fun st:DSt=>RdOk bs st.2.2) (fun x k p=>cF hS.a o1 p) _ _ R2;have N3:CInts ((List.range j).foldl f st0).2.1:=aG (P:=fun st:DSt=>CInts st.2.1) (fun x k p=>dY A l1 _ x p) _ _ C1i;have t3:TBd (cZ τ (.inr n) (.int (j:Nat))):=hS.t.put _ (by unfold Bd; omega)
  have hS3:bG A (cZ τ (.inr n) (.int (j:Nat))) bs [n]:=⟨hS.a,t3,fun m hm=>by
   cases List.mem_singleton.1 hm
   rw[xC,if_pos rfl]; rfl,hS.b⟩
  have hlen:(cZ τ (.inr n) (.int (j:Nat))).length<=τ.length+1:=zM _ _ _;have x4:ExS [ff,cc,rr] C3 (gQ (gQ C3 ia (.dK τ)) ia (.dK (cZ τ (.inr n) (.int (j:Nat))))):=(ExS.refl.put hia _).put hia _;have up:∀b o,C3 b=some o->gQ (gQ C3 ia (.dK τ)) ia (.dK (cZ τ (.inr n) (.int (j:Nat)))) b=some o:=fun b o h=>by rw[wQ (ne1 b o h),wQ (ne1 b o h)]; exact h
  have m4:gQ (gQ C3 ia (.dK τ)) ia (.dK (cZ τ (.inr n) (.int (j:Nat)))) ia=some (.dK (cZ τ (.inr n) (.int (j:Nat)))):=jQ;generalize gQ (gQ C3 ia (.dK τ)) ia (.dK (cZ τ (.inr n) (.int (j:Nat))))=C4 at x4 up m4 ⊢;have sf4:Sf a C4 x aa rr A ((List.range j).foldl f st0).2.2:=s3.sf.keep' (S:=[]) (fun b o _ h=>up b o h) List.not_mem_nil List.not_mem_nil List.not_mem_nil;have s4:S6 a C4 x aa rr ia ff cc A (cZ τ (.inr n) (.int (j:Nat))) ((List.range j).foldl f st0):=⟨sf4,m4,up _ _ s3.mf,up _ _ s3.mc,Ne.symm (ne1 _ _ s3.mc)⟩
  obtain⟨dx4,mx4⟩:=sf4.ins;refine⟨oX mx4 rfl,?_⟩;refine dX ep (v:=.tup (Ln.pvs l1)) rfl ?_;refine⟨d',rfl,l1,x,aa,ia,rr,ff,cc,A,_,_,bs,rs,[n],rfl,o1,by omega,by omega,by omega,s4,hS3,R3,N3,fun C5 s5 e5=>?_⟩;refine hL3 _ _ ⟨j+1,_,_,hjn,rfl,rfl,?_,e3.trans (x4.trans e5)⟩;have ef:(List.range (j+1)).foldl f st0=f ((List.range j).foldl f st0) j:=by rw[List.range_succ,List.foldl_append]; rfl
  rw[ef];exact⟨s5.sf,(x4.trans e5) _ _ s3.nt s3.mt,s5.mf,s5.mc,s3.tc⟩
 .rintro ρ C3 ⟨j,y9,y10,hj,hz,rfl,s3,e3⟩
  have ej:j=n8:=by
   rcases Nat.lt_or_ge j n8 with h | h
   .rw [List.drop_eq_getElem_cons (by rw[List.length_range]; exact h)] at hz
    cases hz
   .omega
  subst ej;refine q C3 ?_ e3;rw[aX,hcap];exact s3
theorem bT (T:Txt P w K mg a)(d k:Nat)(h7:7<=k)
  (kJ:FnOk P w K mg base CX0 k (a.f 44) (a.d 44) ["self","lines","turns","row","counts"] (spC K (gBrL a d)))
  (cH:FnOk P w K mg base CX0 k (a.f 46) (a.d 46) ["self","line","turns","counts"] (spC K (gWant a d)))
  (iU:FnOk P w K mg base CX0 k (a.f 45) (a.d 45) ["self","line","turns","row","counts"] (spC K (J8 a d))) :
  FnOk P w K mg base CX0 (k+1) (a.f 44) (a.d 44) ["self","lines","turns","row","counts"] (spC K (gBr a d)):=by
 have S:=(T.F 44 rfl).s;have vX:=(mU (base:=base) T 2).mono (show 6<=k by omega)
 refine(T.F 44 rfl).ok (fun ts C R h=>?_) fun cdv A outer s H E hr=>⟨_,(kQ (oK PassesOwn.never rfl (cv 1) (cg1 5 S.nd) (kQ (wX (ct2 hX jX (cx (cv 5) zQ) vQ) (xQ (cs1 6 S.nd (sN (ct2 hX jX (cm T.xX (T.F 41 rfl) T.rX vX hr (cv 0) (qQ (cx (cv 5) zQ) (ca1 (cv 2)))) zQ) (cx (cv 5) zQ) (cx (cv 5) zQ)))
  (kQ (vZ (cm T.xX (T.F 44 rfl) T.rX kJ hr (cv 0) (qQ (cv 6) (qQ (cv 2) (qQ (cv 3) (ca1 (cv 4))))))))) (kQ (wX (ct2 hX jX (cx (cv 5) zQ) vQ) (kQ (vZ (cm T.xX (T.F 45 rfl) T.rX iU hr (cv 0) (qQ (cv 5) (qQ (cv 2) (qQ (cv 3) (ca1 (cv 4)))))))) (kQ (vZ (cap (cv 3) (cm T.xX (T.F 46 rfl) T.rX cH hr (cv 0) (qQ (cv 5) (qQ (cv 2) (ca1 (cv 4)))))))))))))),?_⟩
 .obtain ⟨_,_,_,_,_,_,_,_,_,_,_,_,_,rfl,_⟩:=h; rfl
 rintro ts C Q ⟨ls,x,aa,tt,rr,ff,cc,A,τ,st,bs,rs,ns,rfl,ok,hF,hN,hτ,hE,hS,hR,hC,q⟩;refine eG rfl ?_;refine yZ (fun zs ρ C'=>∃(ds us:List Ln) (x5 x6:Option PV),ls=ds++us/\zs=Ln.pvs us/\ρ=[some (.ref x),some (.tup (Ln.pvs ls)),some (.ref tt),some (.ref ff),some (.ref cc),x5,x6]/\S6 a C' x aa rr tt ff cc A τ (eQ A ds τ st)/\ExS [ff,cc,rr] C C') ?_ ?_ _ _ _ ⟨[],ls,_,_,rfl,rfl,rfl,by rw[nZ]; exact hE,ExS.refl⟩
 .rintro z zs ρ C1 ⟨ds,us,x5,x6,e,hz,rfl,s1,e1⟩ L hL
  cases us with
  |nil=>cases hz
  |cons u us =>
  obtain⟨rfl,rfl⟩:=List.cons.inj (show z::zs=u.pv::Ln.pvs us from hz);have hu:LnOk bs rs d ns u:=ok u (by rw[e]; exact List.mem_append_right _ List.mem_cons_self);have htw:Ln.tws ls=Ln.tws ds+(u.tw+Ln.tws us):=by rw[e,Ln.tws_app]; rfl
  have len1:=jJ A ds τ st;have R1:RdOk bs (eQ A ds τ st).2.2:=cF hS.a (fun x hx=>ok x (by rw[e]; exact List.mem_append_left _ hx)) hR;have C1i:=dY A ds τ st hC
  have fin:∀C' x5 x6,S6 a C' x aa rr tt ff cc A τ (aX A u τ (eQ A ds τ st))->ExS [ff,cc,rr] C1 C'->L [some (.ref x),some (.tup (Ln.pvs ls)),some (.ref tt),some (.ref ff),some (.ref cc),x5,x6] C':=by
   intro C' y5 y6 h1 h2;refine hL _ _ ⟨ds++[u],us,y5,y6,by rw[List.append_assoc]; exact e,rfl,rfl,?_,e1.trans h2⟩;rw[rA,uZ,nZ];exact h1
  clear hL;generalize hst:eQ A ds τ st=st1 at s1 len1 R1 C1i fin;obtain⟨dx1,mx1⟩:=s1.sf.ins
  by_cases hth:isTh u=true
  .obtain ⟨wd,rest,ep,n1,n2⟩:=th_pv hth
   refine dX ep sQ ?_;refine yX (pQ _ _) ?_;refine kZ (by rw[n1]; rfl) ?_;refine dX ep sQ ?_;refine yX (pQ _ _) ?_;refine kZ (by rw[n2]; rfl) ?_;refine⟨cW s1.mf,?_⟩;refine⟨oX mx1 rfl,?_⟩;refine⟨u,x,aa,tt,rr,cc,A,τ,_,_,bs,rs,ns,rfl,hth,hu,by omega,hτ,s1.sf,s1.mt,s1.mc,s1.tc,C1i,by have:=len1.2; omega,hS,R1,fun C2 m2 sf2 x2=>?_⟩
   have nf:ff∉[rr,cc]:=fun z=>by
    simp only[List.mem_cons,List.not_mem_nil,or_false] at z
    rcases z with z | z
    .exact s1.fr z
    .exact s1.fc z
   have mf2:=x2 _ _ nf s1.mf;refine xU mf2 (by rw[Wt.pvs_len]; have:=len1.1; exact Nat.lt_of_le_of_lt (show st1.1.length<=400 by omega) (by decide)) ?_;have eo:=lA A τ u st1.1 st1.2.1 st1.2.2 hth;have nl:=sf2.nl mf2;refine fin _ _ _ ?_ ((QM x2).at (by simp) _);rw[show st1=(st1.1,st1.2.1,st1.2.2) from rfl,eo];refine⟨sf2.keep' (S:=[ff]) (ExS.refl.at List.mem_cons_self _) (fun z=>nl.1 (List.mem_singleton.1 z)) (fun z=>nl.2.1 (List.mem_singleton.1 z)) (fun z=>nl.2.2 (List.mem_singleton.1 z)),?_,by rw[jQ,Wt.pvs_app]; rfl,by rw[wQ (Ne.symm s1.fc)]; exact m2,s1.tc⟩
   rw[wQ s1.tf];exact(QM x2) _ _ s1.nt s1.mt
  .cases u with
   |plain k tag s hs ls=>exact absurd rfl hth
   |part k n g=>exact absurd rfl hth
   |give k n r ls=>exact absurd rfl hth
   |when rk l1 l2 =>
    cases d with
    |zero=>exact hu.elim
    |succ d' =>
    obtain⟨ork,⟨o1,_⟩,o2,_⟩:=hu;have ep:(Ln.when rk l1 l2).pv=.tup [.str "when",rk.pv,.tup (Ln.pvs l1),.tup (Ln.pvs l2)]:=by rw[Ln.pv]
    have etw:(Ln.when rk l1 l2).tw=Ln.tws l1+Ln.tws l2:=by rw[Ln.tw]
    refine dX ep sQ ?_;refine yX (pQ _ _) ?_;refine nK (by decide) ?_;refine yQ ?_;refine XM ?_;refine⟨oX mx1 rfl,?_⟩;refine dX ep (v:=rk.pv) rfl ?_;refine⟨rk,x,aa,tt,rr,A,τ,_,bs,ns,rfl,ork.mono (by decide),s1.sf,s1.mt,hS,R1,fun C2 sf2 e2=>?_⟩;have R2:=jV (τ:=τ) hS.a ork R1;have s2:=s1.rd e2 sf2;obtain⟨dx2,mx2⟩:=sf2.ins;refine yX (zZ _ _) ?_
    by_cases h0:rk.val A τ=0
    .refine nK (decide_eq_true h0) ?_
     refine dX ep (v:=.tup (Ln.pvs l2)) rfl ?_
     try dsimp only
     refine⟨oX mx2 rfl,?_⟩;refine⟨d',rfl,l2,x,aa,tt,rr,ff,cc,A,τ,(st1.1,st1.2.1,rk.rds A τ st1.2.2),bs,rs,ns,rfl,o2,by have:=len1.1; show st1.1.length+_<=400; omega,by have:=len1.2; show st1.2.1.length+_<=400; omega,by omega,s2,hS,R2,C1i,fun C3 s3 e3=>?_⟩;refine fin C3 _ _ ?_ ((vR e2).trans e3);rw[aX,if_pos h0];exact s3
    .refine kZ (decide_eq_false h0) ?_
     refine dX ep (v:=.tup (Ln.pvs l1)) rfl ?_
     try dsimp only
     refine⟨oX mx2 rfl,?_⟩;refine⟨d',rfl,l1,x,aa,tt,rr,ff,cc,A,τ,(st1.1,st1.2.1,rk.rds A τ st1.2.2),bs,rs,ns,rfl,o1,by have:=len1.1; show st1.1.length+_<=400; omega,by have:=len1.2; show st1.2.1.length+_<=400; omega,by omega,s2,hS,R2,C1i,fun C3 s3 e3=>?_⟩;refine fin C3 _ _ ?_ ((vR e2).trans e3);rw[aX,if_neg h0];exact s3
   |each n rk l1 =>
    have ep:(Ln.each n rk l1).pv=.tup [.str "each",.str n,rk.pv,.tup (Ln.pvs l1)]:=by rw[Ln.pv]
    refine dX ep sQ ?_;refine yX (pQ _ _) ?_;refine kZ (by decide) ?_;refine dX ep sQ ?_;refine yX (pQ _ _) ?_;refine nK (by decide) ?_;refine⟨oX mx1 rfl,?_⟩;refine⟨n,rk,l1,x,aa,tt,rr,ff,cc,A,τ,st1,bs,rs,ns,rfl,hu,by have:=len1.1; omega,by have:=len1.2; omega,hτ,s1,hS,R1,C1i,fun C3 s3 e3=>?_⟩;exact fin C3 _ _ s3 e3
 .rintro ρ C1 ⟨ds,us,x5,x6,e,hz,rfl,s1,e1⟩
  cases us with
  |cons u us=>cases hz
  |nil =>
   rw[List.append_nil] at e;subst e;exact q C1 s1 e1
theorem ok_br (T:Txt P w K mg a)(d:Nat):FnOk P w K mg base CX0 (3 * d+9) (a.f 44) (a.d 44) ["self","lines","turns","row","counts"] (spC K (gBr a d)):=by
 induction d with
 |zero =>
  exact bT (base:=base) T 0 8 (by decide) (mJ fun ts C Q ⟨d',e,_⟩=>by omega) (mJ fun ts C Q z=>by obtain⟨l,x,aa,tt,rr,cc,A,τ,R,N,bs,rs,ns,_,_,h,_⟩:=z; exact h) (mJ fun ts C Q z=>by obtain⟨n,rk,l1,x,aa,tt,rr,ff,cc,A,τ,st1,bs,rs,ns,_,h,_⟩:=z; exact h)
 |succ d ih =>
  have row:=Z8 (base:=base) T ih
  have e1:gRowL a (d+1)=gRow a d:=by
   funext ts C Q
   refine propext ⟨fun⟨d'',z,h⟩=>?_,fun h=>⟨d,rfl,h⟩⟩;cases Nat.succ.inj z;exact h
  have e2:gBrL a (d+1)=gBr a d:=by
   funext ts C Q
   refine propext ⟨fun⟨d'',z,h⟩=>?_,fun h=>⟨d,rfl,h⟩⟩;cases Nat.succ.inj z;exact h
  have th:=ok_want (base:=base) T (d+1) (3 * d+9+1) (by omega) (by rw[e1]; exact row);have ea:=Jj (base:=base) T (d+1) (3 * d+9) (by omega) (by rw[e2]; exact ih);have:=bT (base:=base) T (d+1) (3 * d+9+1+1) (by omega) (by rw[e2]; exact ih.mono (by omega)) th (ea.mono (by omega));have e:3 * d+9+1+1+1=3 * (d+1)+9:=by omega
  rw[e] at this;exact this
end
def stOf:Key->Str
 |.inr x=>x
 |_=>""
def ciOf:PV->Int
 |.int i=>i
 |_=>0
def rdC (kv:List Key×PV):List Str×Int:=(kv.1.map stOf,ciOf kv.2)
structure Pc where
 reads:List (List Str×Int)
 row:List Wt
 works:List (Str×Int)
def Pc.pv (x:Pc):PV:=.tup [.tup (x.reads.map aB),.tup (Wt.pvs x.row),.tup (x.works.map dQ)]
def pcRd (A:Rds)(x:Pt):Rds:=yV A [] x.works (eQ A x.ls [] ([],[],[])).2.2
def pcOf (A:Rds)(x:Pt):Pc:=⟨ordT ((pcRd A x).map rdC),(eQ A x.ls [] ([],[],[])).1,wJ A [] x.works⟩
theorem JL {co:TCE}{ρ:CSt}{C:CH}{Q:K1}(h:co ρ C fun x C1=>∃b kvs,x=.ref b/\C1 b=some (.dT kvs)/\Q (.vw b) C1)(mono:∀(Q1 Q2:K1),(∀v C1,Q1 v C1->Q2 v C1)->co ρ C Q1->co ρ C Q2):jL co ρ C Q:=by
 unfold jL;refine mono _ _ ?_ h;rintro v C1 ⟨b,kvs,rfl,m,q⟩;dsimp only;rw[m];exact q
theorem Xe {p:Addr}{C:CH}{Q:K1}{kvs:List (List Key×PV)}{cs:List (List Str×Int)}(m:C p=some (.dT kvs))(e:tiK kvs=some cs)(h:cs.length < 64)(q:∀p',C p'=none->Q (.ref p') (gQ C p' (.lst ((ordT cs).map aB)))):lM [.vw p] C Q:=by
 unfold lM;dsimp only;rw[m];dsimp only;rw[e];exact⟨h,q⟩
theorem Kd {c:Addr}{f:Str}{x:PV}{C:CH}(Q1 Q2:K1)(h:∀v C1,Q1 v C1->Q2 v C1)(q:tI c f x C Q1):tI c f x C Q2:=by
 unfold tI at q ⊢
 split at q
 .split at q
  .refine ⟨q.1,?_⟩
   have q:=q.2
   split at q
   .exact h _ _ q
   .exact q
  .exact q
 .exact q
theorem Zh {i:Nat}{ρ:CSt}{C:CH}(Q1 Q2:K1)(h:∀v C1,Q1 v C1->Q2 v C1)(q:oZ i ρ C Q1):oZ i ρ C Q2:=by
 unfold oZ at q ⊢
 split at q
 .exact h _ _ q
 .exact q
theorem ti_rd {bs:List Str}:∀{R:Rds},(∀k∈R.map (·.1),∃s n,k=qK s n/\wE bs s n)->ABd R->tiK R=some (R.map rdC)
 |[],_,_=>rfl
 |x::R,h1,h2=>by
  obtain⟨s,n,e,_⟩:=h1 x.1 List.mem_cons_self;obtain⟨i,ei,_⟩:=h2 x List.mem_cons_self;have ih:=ti_rd (R:=R) (fun k hk=>h1 k (List.mem_cons_of_mem _ hk)) fun kv hk=>h2 kv (List.mem_cons_of_mem _ hk);obtain⟨k,v⟩:=x;cases e;cases ei;show _=some (([s,n],i)::R.map rdC);unfold tiK;rw[ih]
  rfl
section
variable {P:Program}{w:World}{K:PySem.W.Frag}{mg:Str->Option Value}{base:Heap}{a:Adr}
def gDrawn:GC:=fun ts C Q=>∃(x:Pt) (aa:Addr) (A:Rds) (rs:List Str) (cap:Nat),ts=[x.pv,.ref aa]/\Za rs cap x/\C aa=some (.dT A)/\ABd A/\∀C',Gr C C'->Q (pcOf A x).pv C'
theorem Ji (T:Txt P w K mg a):FnOk P w K mg base CX0 29 (a.f 8) (a.d 8) ["part","answers"] (spC K gDrawn):=by
 have S:=(T.F 8 rfl).s;have tM:=(ok_init (base:=base) T).mono (show 1<=27 by decide);have cV:=Z8 T (ok_br (base:=base) T 6);have gK:=(zD (base:=base) T).mono (show 7<=28 by decide)
 refine(T.F 8 rfl).ok (fun ts C R h=>?_) fun cdv A outer s H E hr=>⟨_,(xQ (cs1 2 S.nd (ce_make T.XA tM hr rfl T.rX (T.F 40 rfl).b Z4 (ca1 (cv 1))))
  (xQ (cs1 3 S.nd (cm T.xX (T.F 43 rfl) T.rX cV hr (cv 2) (qQ (cx (cv 0) zQ) (ca1 dR))))
  (xQ (cs1 4 S.nd (ctp T.qZ (cm T.xX (T.F 42 rfl) T.rX gK hr (cv 2) (qQ (cx (cv 0) zQ) (ca1 dR)))))
  (kQ (bQ (mQ (qQ (ctp T.qZ (gZ (cR rfl) (aO (aY hr)) rfl T.vL rfl (ca1 (XZ (dI T.xX T.bW (cv 2)))))) (qQ (cv 3) (ca1 (cv 4)))))))))),?_⟩
 .obtain ⟨_,_,_,_,_,rfl,_⟩:=h; rfl
 rintro ts C Q ⟨pt,aa,A,rs,cap,rfl,ok,ha,hA,q⟩;have hS:bG A [] (pt.first.map (·.1)) []:=⟨hA,(fun _ z=>nomatch z),(fun _ z=>nomatch z),by rw[List.length_map]; exact ok.fl⟩;have hR0:RdOk (pt.first.map (·.1)) []:=⟨List.nodup_nil,(fun _ z=>nomatch z),(fun _ z=>nomatch z)⟩;intro x dx x0 dx0 ndx;have nax:aa≠x:=fun z=>by rw[z,x0] at ha; cases ha
 refine⟨x,dx,aa,A,rfl,jQ,by rw[wQ nax]; exact ha,fun C1 rr rr0 sf1 x1=>⟨rfl,?_⟩⟩
 try dsimp only
 have g1:Gr C C1:=fun b o h=>by
  have:b≠x:=fun z=>by rw[z,x0] at h; cases h
  exact x1 b o (fun z=>this (List.mem_singleton.1 z)) (by rw[wQ this]; exact h)
 have rr0':C rr=none:=by
  rw[wQ (Ne.symm sf1.nx)] at rr0;exact rr0
 have exg:∀{C2 C3:CH},Gr C C2->ExS [rr] C2 C3->Gr C C3:=fun g e b o h=>e b o (fun z=>by rw[List.mem_singleton.1 z,rr0'] at h; cases h) (g b o h);obtain⟨dx1,mx1⟩:=sf1.ins;refine yQ (i:=3) ?_;refine⟨oX mx1 rfl,?_⟩;refine cX (v:=.tup (Ln.pvs pt.ls)) rfl ?_;intro p p00;have sf2:=sf1.new p00 (.dK []);have tw:=ok.tw;refine⟨pt.ls,x,aa,p,rr,A,[],[],_,rs,[],rfl,ok.ls,by omega,by show 0+6<=50; decide,sf2,jQ,hS,hR0,fun C3 sf3 x3=>?_⟩
 try dsimp only
 have R3:=cF (τ:=[]) (st:=([],[],[])) hA ok.ls hR0;have g3:Gr C C3:=exg (g1.trans (Gr.new p00 _)) x3;obtain⟨dx3,mx3⟩:=sf3.ins;refine yQ (i:=4) ?_;refine⟨oX mx3 rfl,?_⟩;refine cX (v:=.tup (pt.works.map eV)) rfl ?_;intro p2 p20;have sf4:=sf3.new p20 (.dK []);refine⟨pt.works,x,aa,p2,rr,A,[],_,_,[],rfl,fun y hy=>(ok.wk y hy).mono (by decide),ok.wl,sf4,jQ,hS,R3,fun C5 l l0 m5 sf5 x5=>?_⟩;have g5:Gr C C5:=exg (g3.trans (Gr.new p20 _)) x5
 refine rJ m5 ?_
 try dsimp only
 obtain⟨dx5,mx5⟩:=sf5.ins;have R5:RdOk (pt.first.map (·.1)) (pcRd A pt):=vY hA ok.wk R3;have mk5:C5 rr=some (.dT (pcRd A pt)):=sf5.ask;have hb:=hS.b;refine JL ?_ ?_
 .refine Kc mx5 rfl ?_
  refine⟨rr,pcRd A pt,rfl,mk5,?_⟩;refine Xe mk5 (ti_rd R5.ks R5.vs) (by rw[List.length_map]; have:=R5.len; omega) fun p6 p60=>?_;refine rJ jQ ?_;refine⟨by show 3<=sizeLine; decide,?_⟩;exact q _ (g5.trans (Gr.new p60 _))
 .intro Q1 Q2 h q
  exact Zh _ _ (fun v C1 q=>Kd _ _ h q) q
end
theorem mX {i:Nat}{u:xS}{t:PV}{r:List PV}{ρ:CSt}{C:CH}{Q:CSt->CH->Prop}(h:u r (ρ.set i (some t)) C Q):dCons (Km i) u (t::r) ρ C Q:=h
theorem aW {ρ:CSt}{C:CH}{Q:CSt->CH->Prop}(h:Q ρ C):dNil [] ρ C Q:=h
def kOf (c:Str×Int):Key×PV:=(.inr c.1,.int c.2)
def jM (ds:List (Str×Int))(n:Str)(i:Int):List (Str×Int):=if (ds.any fun c=>decide (c.1=n))=true then ds.map fun c=>if c.1=n then (c.1,i) else c else ds++[(n,i)]
def qJ (cs ds:List (Str×Int)):List (Str×Int):=ds.foldl (fun acc c=>jM acc c.1 c.2) cs
theorem iC {x y:Str}:((Sum.inr x:Key)=Sum.inr y)↔x=y:=⟨fun h=>Sum.inr.inj h,fun h=>by rw[h]⟩
theorem put_k (ds:List (Str×Int))(n:Str)(i:Int):cZ (ds.map kOf) (.inr n) (.int i)=(jM ds n i).map kOf:=by
 have h1:((ds.map kOf).any fun kv=>decide (kv.1=(Sum.inr n:Key)))=ds.any fun c=>decide (c.1=n):=by
  rw[List.any_map]
  congr 1
  funext c
  show decide ((Sum.inr c.1:Key)=Sum.inr n)=decide (c.1=n);exact decide_eq_decide.2 iC
 have h2:((ds.map kOf).map fun kv=>if kv.1=(Sum.inr n:Key) then (kv.1,PV.int i) else kv)=(ds.map fun c=>if c.1=n then (c.1,i) else c).map kOf:=by
  rw[List.map_map,List.map_map]
  congr 1
  funext c
  show(if (Sum.inr c.1:Key)=Sum.inr n then ((Sum.inr c.1:Key),PV.int i) else kOf c)=kOf (if c.1=n then (c.1,i) else c)
  by_cases e:c.1=n
  .rw [if_pos (iC.2 e),if_pos e]; rfl
  .rw [if_neg (fun z=>e (iC.1 z)),if_neg e]
 unfold cZ jM;rw[h1]
 by_cases b:(ds.any fun c=>decide (c.1=n))=true
 .rw [if_pos b,if_pos b,h2]
 .rw [if_neg b,if_neg b,List.map_append]; rfl
theorem merge_k (ds:List (Str×Int)):∀cs:List (Str×Int),aV (cs.map kOf) (ds.map kOf)=(qJ cs ds).map kOf:=by
 induction ds with
 |nil=>intro cs; rfl
 |cons d ds ih =>
  intro cs;show aV (cZ (cs.map kOf) (.inr d.1) (.int d.2)) (ds.map kOf)=(qJ (jM cs d.1 d.2) ds).map kOf;rw[put_k,ih]
theorem Qw:∀ds:List (Str×Int),fW (ds.map dQ)=some (ds.map kOf)
 |[]=>rfl
 |d::ds=>by
  show(match kK (.str d.1),fW (ds.map dQ) with | some k,some ps=>some ((k,PV.int d.2)::ps) | _,_=>none)=_;rw[Qw ds]; rfl
theorem put_len (ds:List (Str×Int))(n:Str)(i:Int):(jM ds n i).length<=ds.length+1:=by
 unfold jM
 split
 .rw [List.length_map]; omega
 .rw [List.length_append,List.length_singleton]; exact Nat.le_refl _
theorem wY (ds:List (Str×Int)):∀cs:List (Str×Int),(qJ cs ds).length<=cs.length+ds.length:=by
 induction ds with
 |nil=>intro cs; exact Nat.le_refl _
 |cons d ds ih =>
  intro cs;have h1:=ih (jM cs d.1 d.2);have h2:=put_len cs d.1 d.2;show(qJ (jM cs d.1 d.2) ds).length<=_;rw[List.length_cons];omega
theorem mC (cs:List (Str×Int)):(sY cs).length=cs.length:=by
 unfold sY;rw[List.length_map]
 by_cases h:0 < cs.length
 .have:=(gY (oE cs) cs.length h).length_eq
  rw[this,List.length_range]
 .have e:cs.length=0:=by omega
  rw[e,run0]; rfl
theorem ZK (ds:List (Str×Int))(n:Str)(i:Int):(jM ds n i).map (·.1)=if n∈ds.map (·.1) then ds.map (·.1) else ds.map (·.1)++[n]:=by
 have h:(ds.any fun c=>decide (c.1=n))=true↔n∈ds.map (·.1):=by
  rw[List.any_eq_true,List.mem_map]
  constructor
  .rintro ⟨c,h1,h2⟩; exact⟨c,h1,of_decide_eq_true h2⟩
  .rintro ⟨c,h1,h2⟩; exact⟨c,h1,decide_eq_true h2⟩
 unfold jM
 by_cases b:(ds.any fun c=>decide (c.1=n))=true
 .rw [if_pos b,if_pos (h.1 b),List.map_map]
  congr 1
  funext c
  show(if c.1=n then (c.1,i) else c).1=c.1
  split<;>rfl
 .rw [if_neg b,if_neg (fun z=>b (h.2 z)),List.map_append]; rfl
theorem put_nd {ds:List (Str×Int)}(h:(ds.map (·.1)).Nodup)(n:Str)(i:Int):((jM ds n i).map (·.1)).Nodup:=by
 rw[ZK]
 split
 .exact h
 .next z =>
  rw[List.nodup_append]
  exact⟨h,List.nodup_cons.2 ⟨List.not_mem_nil,List.nodup_nil⟩,fun x hx y hy=>by
   cases List.mem_singleton.1 hy
   exact fun e=>z (e▸hx)⟩
theorem tT (ds:List (Str×Int)):∀{cs:List (Str×Int)},(cs.map (·.1)).Nodup->((qJ cs ds).map (·.1)).Nodup:=by
 induction ds with
 |nil=>intro cs h; exact h
 |cons d ds ih=>intro cs h; exact ih (put_nd h d.1 d.2)
theorem val_k {cs:List (Str×Int)}(h:(cs.map (·.1)).Nodup){c:Str×Int}(hc:c∈cs):hZ (cs.map kOf) (.inr c.1)=some (.int c.2):=by
 induction cs with
 |nil=>cases hc
 |cons d cs ih =>
  have h':=List.nodup_cons.1 (show(d.1::cs.map (·.1)).Nodup from h);unfold hZ;rw[List.map_cons,List.find?_cons];show(match decide ((Sum.inr d.1:Key)=Sum.inr c.1) with | true=>some (kOf d) | false=>(cs.map kOf).find? fun kv=>decide (kv.1=Sum.inr c.1)).map (fun kv:Key×PV=>kv.2)=_
  rcases List.mem_cons.1 hc with rfl | hc
  .rw [decide_eq_true rfl]; rfl
  .have ne:d.1≠c.1:=fun e=>h'.1 (List.mem_map.2 ⟨c,hc,e.symm⟩)
   rw[decide_eq_false (fun z=>ne (iC.1 z))];exact ih h'.2 hc
theorem dict_s {ds:List (Str×Int)}{C:CH}{Q:K1}(h:ds.length<=1000)(q:∀p,C p=none->Q (.ref p) (gQ C p (.dK ((qJ [] ds).map kOf)))):xL [.tup (ds.map dQ)] C Q:=by
 unfold xL;show(match fW (ds.map dQ) with | some ps=>ps.length<=sizeLine/\∀p,C p=none->Q (.ref p) (gQ C p (.dK (aV [] ps))) | none=>False);rw[Qw];dsimp only;rw[show aV [] (ds.map kOf)=(qJ [] ds).map kOf from merge_k ds []];exact⟨by rw[List.length_map]; exact Nat.le_trans h (by decide),q⟩
theorem putD_s {cs:List (Str×Int)}{n:Str}{i:Int}{p:Addr}{C:CH}{Q:CH->Prop}(m:C p=some (.dK (cs.map kOf)))(h:cs.length<=1000)(q:Q (gQ C p (.dK ((jM cs n i).map kOf)))):eP (.ref p) (.str n) (.int i) C Q:=by
 unfold eP;show(match C p,kK (.str n) with | some (.dK kvs),some k=>kvs.length < sizeLine/\Q (gQ C p (.dK (cZ kvs k (.int i)))) | _,_=>False);rw[m];show(cs.map kOf).length < sizeLine/\Q (gQ C p (.dK (cZ (cs.map kOf) (.inr n) (.int i))));rw[put_k,List.length_map];exact⟨Nat.lt_of_le_of_lt h (by decide),q⟩
theorem dix_s {kvs:List (Key×PV)}{k:Key}{y v:PV}{p:Addr}{C:CH}{Q:K1}(m:dOf (C p)=some kvs)(hk:kK y=some k)(hv:hZ kvs k=some v)(q:Q v C):fH (.ref p) y C Q:=by
 unfold fH;show(match dOf (C p),kK y with | some kvs,some k=>(match hZ kvs k with | some v=>Q v C | none=>False) | _,_=>False);rw[m,hk];dsimp only;rw[hv];exact q
theorem Kr {cs:List (Str×Int)}(nd:(cs.map (·.1)).Nodup){ρ:CSt}{j:Nat}{d:Addr}{R:K1}{C:CH}(hl:cs.length<=1000)(hj:ρ[j]?=some (some (.ref d)))(m:C d=some (.fK (cs.map kOf)))(q:∀p,C p=none->R (.ref p) (gQ C p (.lst (cs.map dQ))))(zs:List (Str×Int)):
  ∀done:List (Str×Int),cs=done++zs->wZ aU (sI (fJ (oZ 0) (fJ (cOp fH (oZ (j+1)) (oZ 0)) nM))) ρ R (zs.map fun c=>PV.str c.1) (done.map dQ) C:=by
 induction zs with
 |nil =>
  intro done e;rw[List.append_nil] at e;subst e;exact q
 |cons z zs ih =>
  intro done e;have hz:z∈cs:=by rw[e]; exact List.mem_append_right _ List.mem_cons_self
  show oZ (j+1) (some (.str z.1)::ρ) C fun x C1=>oZ 0 (some (.str z.1)::ρ) C1 fun y C2=>fH x y C2 fun v C3=>[PV.str z.1,v].length<=sizeLine/\(done.map dQ).length < sizeLine/\wZ aU (sI (fJ (oZ 0) (fJ (cOp fH (oZ (j+1)) (oZ 0)) nM))) ρ R (zs.map fun c=>PV.str c.1) (done.map dQ++[.tup [.str z.1,v]]) C3;unfold oZ;rw[show(some (PV.str z.1)::ρ)[j+1]?=some (some (.ref d)) from hj];dsimp only;refine dix_s (kvs:=cs.map kOf) (k:=.inr z.1) (v:=.int z.2) (by rw[m]; rfl) rfl (val_k nd hz) ⟨by show 2<=sizeLine; decide,?_,?_⟩
  .rw [List.length_map]
   have:done.length<=cs.length:=by rw[e,List.length_append]; omega
   exact Nat.lt_of_le_of_lt (Nat.le_trans this hl) (by decide)
  .rw [show done.map dQ++[.tup [.str z.1,.int z.2]]=(done++[z]).map dQ by rw[List.map_append]; rfl]
   exact ih (done++[z]) (by rw[e,List.append_assoc]; rfl)
theorem Jw:∀cs:List (Str×Int),((cs.map kOf).map fun p=>mK p.1)=cs.map fun c=>PV.str c.1
 |[]=>rfl
 |c::cs=>by
  show PV.str c.1::((cs.map kOf).map fun p=>mK p.1)=_;rw[Jw cs]; rfl
theorem compD_s {cs:List (Str×Int)}(nd:(cs.map (·.1)).Nodup){ρ:CSt}{j:Nat}{d:Addr}{Q:K1}{C:CH}(hl:cs.length<=1000)(hj:ρ[j]?=some (some (.ref d)))(m:C d=some (.dK (cs.map kOf)))(q:∀p C',C' p=some (.lst (cs.map dQ))->Gr C C'->Q (.ref p) C'):
  oR (oZ j) aU (sI (fJ (oZ 0) (fJ (cOp fH (oZ (j+1)) (oZ 0)) nM))) ρ C Q:=by
 unfold oR;have hv:∀(Q:K1),Q (.ref d) C->oZ j ρ C Q:=fun Q h=>by unfold oZ; rw[hj]; exact h
 refine hv _ ?_;dsimp only;rw[m];dsimp only;rw[Jw];refine Kr nd hl hj jQ (fun p hp=>?_) cs [] rfl;have ne:p≠d:=fun e=>by subst e; rw[jQ] at hp; cases hp
 have hp':C p=none:=by rw[wQ ne] at hp; exact hp
 refine⟨by rw[wQ (Ne.symm ne),jQ],q p _ (by rw[wQ ne,jQ]) fun b o e=>?_⟩
 by_cases h1:b=d
 .subst h1; rw[m] at e; cases e; exact jQ
 .by_cases h2:b=p
  .subst h2; rw[hp'] at e; cases e
  .rw [wQ h1,wQ h2,wQ h1]; exact e
def pW (ds ms:List (Str×Int)):List (Str×Int):=sY (qJ (qJ [] ds) ms)
theorem kF (ds ms:List (Str×Int)):(pW ds ms).length<=ds.length+ms.length:=by
 unfold pW;rw[mC];have h1:=wY ms (qJ [] ds);have h2:=wY ds [];have:([]:List (Str×Int)).length=0:=rfl;omega
def SBd (cs:List (Str×Int)):Prop:=∀c∈cs,Bd c.2
theorem qP {cs:List (Str×Int)}{c:Str×Int}(h:c∈sY cs):c∈cs:=by
 unfold sY at h;obtain⟨i,hi,rfl⟩:=List.mem_map.1 h
 have hl:0 < cs.length:=by
  rcases Nat.eq_zero_or_pos cs.length with z | z
  .rw [z,run0] at hi; cases hi
  .exact z
 have:=(gY (oE cs) cs.length hl).mem_iff.mp hi;rw[List.mem_range] at this;rw[List.getD_eq_getElem?_getD,List.getElem?_eq_getElem this];exact List.getElem_mem _
theorem SBd.put {cs:List (Str×Int)}(h:SBd cs)(n:Str){i:Int}(hi:Bd i):SBd (jM cs n i):=by
 intro c hc;unfold jM at hc
 split at hc
 .obtain ⟨x,hx,rfl⟩:=List.mem_map.1 hc
  split
  .exact hi
  .exact h x hx
 .rcases List.mem_append.1 hc with hc | hc
  .exact h c hc
  .cases List.mem_singleton.1 hc; exact hi
theorem SBd.merge {ms:List (Str×Int)}(hm:SBd ms):∀{cs:List (Str×Int)},SBd cs->SBd (qJ cs ms):=by
 induction ms with
 |nil=>intro cs h; exact h
 |cons m ms ih =>
  intro cs h;exact ih (fun c hc=>hm c (List.mem_cons_of_mem _ hc)) (h.put m.1 (hm m List.mem_cons_self))
theorem SBd.over {ds ms:List (Str×Int)}(hd:SBd ds)(hm:SBd ms):SBd (pW ds ms):=fun c hc=>(SBd.merge hm (SBd.merge hd (cs:=[]) (fun _ z=>nomatch z))) c (qP hc)
section
variable {P:Program}{w:World}{K:PySem.W.Frag}{mg:Str->Option Value}{base:Heap}{a:Adr}
def gOver:GC:=fun ts C Q=>∃(ds ms:List (Str×Int)),ts=[.tup (ds.map dQ),.tup (ms.map dQ)]/\ds.length+ms.length<=60/\∀C',Gr C C'->Q (.tup ((pW ds ms).map dQ)) C'
theorem Qy (T:Txt P w K mg a):FnOk P w K mg base CX0 1 (a.f 25) (a.d 25) ["_law_downs","_law_more"] (spC K gOver):=by
 have S:=(T.F 25 rfl).s
 refine(T.F 25 rfl).ok (fun ts C R h=>?_) fun cdv A outer s H E hr=>⟨_,(xQ (cs1 2 S.nd (eX (lI rfl) KH rfl T.Zg rfl (ca1 (cv 0))))
  (xQ (oK PassesOwn.never rfl (cv 1) (iW rfl (kX (cg1 3 S.nd) (kX (cg1 4 S.nd) tK))) (kQ (wK (tX hr) (cv 2) (cv 3) (cv 4))))
  (kQ (Kn 3 (ctp T.qZ (gZ (cM rfl) oP rfl T.vL rfl (ca1 (KD rfl (show(["_law_name","_law_downs","_law_more","_law_found","?","_law_number_here"]:List Str).Nodup by decide +kernel) (lP (N:=["_law_downs","_law_more","_law_found","?","_law_number_here"]) (sc:=uX (top 34)) rfl rfl rfl (by decide +kernel)) (cv 2) (fun _ _ _ _ _=>xJ) (fun _ _ _ _ _=>(mQ (qQ (cv 0) (ca1 (fZ (tX hr) (cv 3) (cv 0) (fun _ _=>rfl)))))))))))))),?_⟩
 .obtain ⟨ds,ms,rfl,_⟩:=h; rfl
 rintro ts C R ⟨ds,ms,rfl,hd,q⟩;have hm:(qJ [] ds).length<=ds.length:=Nat.le_trans (wY ds []) (by show 0+ds.length<=ds.length; omega);refine yQ ?_;refine dict_s (by omega) fun p p0=>?_
 try dsimp only
 refine xZ ?_;refine eG rfl ?_;refine yZ (fun zs ρ C'=>∃(x3 x4:Option PV) (us vs:List (Str×Int)),ms=us++vs/\zs=vs.map dQ/\ρ=[some (.tup (ds.map dQ)),some (.tup (ms.map dQ)),some (.ref p),x3,x4]/\C' p=some (.dK ((qJ (qJ [] ds) us).map kOf))/\Gr C C') ?_ ?_ _ _ _ ⟨_,_,[],ms,rfl,rfl,rfl,jQ,Gr.new p0 _⟩
 .rintro z zs ρ C1 ⟨x3,x4,us,vs,e,hz,rfl,m1,g1⟩ L hL
  cases vs with
  |nil=>cases hz
  |cons v vs =>
   obtain⟨rfl,rfl⟩:=List.cons.inj hz;refine⟨rfl,?_⟩;refine mX (mX (aW ?_))
   try dsimp only
   have hl:=wY us (qJ [] ds);have hul:us.length<=ms.length:=by rw[e,List.length_append]; omega
   refine putD_s (i:=v.2) m1 (by omega) ?_;refine hL _ _ ⟨_,_,us++[v],vs,by rw[List.append_assoc]; exact e,rfl,rfl,?_,xW g1 p0 _⟩;rw[jQ];unfold qJ;rw[List.foldl_append]
   rfl
 .rintro ρ C1 ⟨x3,x4,us,vs,e,hz,rfl,m1,g1⟩
  cases vs with
  |cons v vs=>cases hz
  |nil =>
  rw[List.append_nil] at e;subst e
  try dsimp only
  have hl:=wY ms (qJ [] ds);refine compD_s (tT ms (tT ds (cs:=[]) List.nodup_nil)) (by omega) rfl m1 fun p2 C2 m2 g2=>?_;refine dL m2 (by omega) fun p3 p30=>?_;refine rJ jQ ?_;exact q _ ((g1.trans g2).trans (Gr.new p30 _))
end
def Wt.sp:Wt->List Key
 |.plain s _ _ _ _=>s
 |.part s _ _=>s
 |.give s _ _ _=>s
def KBd:Key->Prop
 |.inl none=>True
 |.inl (some i)=>Bd i
 |.inr _=>False
def SpN (r:List Wt):Prop:=∀x∈r,∃k c,x.sp=[k,.inl (some c)]/\0<=c/\c < r.length/\KBd k
def RowN (r:List Wt):Prop:=(r.map Wt.sp).Nodup/\SpN r
def Qb (tag:Str)(ss:List (Str×Int))(h:List HdV):Prop:=ss.length<=4/\h.length<=4/\(∀x∈h,x.ch.length<=4/\x.ev.length<=8)/\tag.length<=8/\∀c∈ss,c.1.length<=8/\Bd c.2
def WtOk (rs:List Str):Nat->Wt->Prop
 |0,_=>False
 |_+1,.part sp n g=>sp.length<=2/\n∈rs/\g.length<=4/\SBd g
 |d+1,.give sp _ i r=>sp.length<=2/\Bd i/\(∀x∈r,WtOk rs d x)/\RowN r
 |d+1,.plain sp tag ss h r=>sp.length<=2/\Qb tag ss h/\(∀x∈r,WtOk rs d x)/\RowN r
def Q8 (rs:List Str)(d:Nat)(r:List Wt):Prop:=(∀x∈r,WtOk rs d x)/\RowN r
theorem WtOk.up {rs:List Str}:∀{d:Nat}{x:Wt},WtOk rs d x->WtOk rs (d+1) x:=by
 intro d
 induction d with
 |zero=>intro x h; exact h.elim
 |succ d ih =>
  intro x h
  cases x with
  |plain s t g hs r=>exact⟨h.1,h.2.1,fun y hy=>ih (h.2.2.1 y hy),h.2.2.2⟩
  |part s n g=>exact h
  |give s n i r=>exact⟨h.1,h.2.1,fun y hy=>ih (h.2.2.1 y hy),h.2.2.2⟩
theorem WtOk.mono {rs:List Str}{d e:Nat}{x:Wt}(h:WtOk rs d x)(le:d<=e):WtOk rs e x:=by
 induction le with
 |refl=>exact h
 |step _ ih=>exact ih.up
def SpInv (F:List Wt)(N:Tns):Prop:=(F.map Wt.sp).Nodup/\(∀x∈F,∃k c,x.sp=[k,.inl (some c)]/\c < bD N k/\0<=c/\KBd k)/\∀k,0<=bD N k/\bD N k<=F.length
theorem SpInv.row {F:List Wt}{N:Tns}(h:SpInv F N):RowN F:=⟨h.1,fun x hx=>by
 obtain⟨k,c,e,h1,h2,h3⟩:=h.2.1 x hx;have:=(h.2.2 k).2
 exact⟨k,c,e,h2,by omega,h3⟩⟩
def StOk (rs:List Str)(e:Nat)(st:DSt):Prop:=(∀x∈st.1,WtOk rs e x)/\SpInv st.1 st.2.1
theorem uB (N:Tns)(k k':Key):bD (wV N k) k'=if k'=k then bD N k+1 else bD N k':=by
 unfold wV;show(match hZ (cZ N k (.int (bD N k+1))) k' with | some (.int i)=>i | _=>0)=_;rw[xC]
 by_cases e:k'=k
 .rw [if_pos e,if_pos e]
 .rw [if_neg e,if_neg e]; rfl
theorem SpInv.add {F:List Wt}{N:Tns}(h:SpInv F N){x:Wt}{k:Key}(hk:KBd k)(hx:x.sp=sV N k):SpInv (F++[x]) (wV N k):=by
 refine⟨?_,fun y hy=>?_,fun k'=>?_⟩
 .rw [List.map_append,List.nodup_append]
  refine⟨h.1,by simp,fun a ha b hb e=>?_⟩;have hb:b=x.sp:=by simpa using hb
  obtain⟨y,hy,rfl⟩:=List.mem_map.1 ha;obtain⟨k',c,e1,e2,_⟩:=h.2.1 y hy;rw[hb,hx] at e;rw[e1] at e;unfold sV at e;injection e with e3 e4
  injection e4 with e5
  injection e5 with e5
  injection e5 with e5
  rw[e3,e5] at e2;omega
 .rcases List.mem_append.1 hy with hy | hy
  .obtain ⟨k',c,e1,e2,e3⟩:=h.2.1 y hy
   refine⟨k',c,e1,?_,e3⟩;rw[uB]
   split
   .next z=>rw[<- z]; omega
   .exact e2
  .cases List.mem_singleton.1 hy
   exact⟨k,bD N k,hx,by rw[uB,if_pos rfl]; omega,(h.2.2 k).1,hk⟩
 .rw [uB,List.length_append,List.length_singleton]
  have h1:=h.2.2 k;have h2:=h.2.2 k'
  split<;>omega
theorem mT {A:Rds}{τ:Tns}{bs ns:List Str}(hS:bG A τ bs ns){d:Nat}{ps:List (Str×Rk)}(h:pH bs ns d ps):SBd (sY (wJ A τ ps)):=fun c hc=>by
 have:=qP hc;unfold wJ at this;obtain⟨p,hp,rfl⟩:=List.mem_map.1 this;exact eM hS.a hS.t hS.h (h p hp)
theorem iP {A:Rds}{bs rs:List Str}{d:Nat}(h1:∀e,d<=e->∀l ns τ st,LnOk bs rs d ns l->bG A τ bs ns->StOk rs e st->StOk rs e (aX A l τ st)):∀e,d<=e->∀(ls:List Ln) (ns:List Str) (τ:Tns) (st:DSt),(∀x∈ls,LnOk bs rs d ns x)->bG A τ bs ns->StOk rs e st->StOk rs e (eQ A ls τ st)
 |e,le,[],ns,τ,st,_,_,h=>by rw[nZ]; exact h
 |e,le,l::ls,ns,τ,st,hl,hS,h=>by
  rw[uZ];exact iP h1 e le ls ns τ _ (fun x hx=>hl x (List.mem_cons_of_mem _ hx)) hS (h1 e le l ns τ st (hl l List.mem_cons_self) hS h)
theorem StOk.nil {rs:List Str}{e:Nat}{R:Rds}:StOk rs e ([],[],R):=⟨fun _ z=>(nomatch z),List.nodup_nil,(fun _ z=>(nomatch z)),fun _=>⟨Int.le_refl 0,Int.le_refl 0⟩⟩
theorem sA {A:Rds}{τ:Tns}{bs ns:List Str}(hS:bG A τ bs ns){k:Option Rk}(h:eC bs ns k):KBd (gG A τ k):=by
 cases k with
 |none=>exact trivial
 |some r=>exact eM hS.a hS.t hS.h h
theorem one_st {A:Rds}{bs rs:List Str}:∀(d e:Nat),d<=e->∀(l:Ln) (ns:List Str) (τ:Tns) (st:DSt),LnOk bs rs d ns l->bG A τ bs ns->StOk rs e st->StOk rs e (aX A l τ st):=by
 intro d
 induction d with
 |zero=>intro e le l ns τ st h; exact h.elim
 |succ d ih =>
  intro e le l ns τ st h hS hst;have br:=iP ih
  have add:∀(x:Wt) (k:Key) (R:Rds),KBd k->WtOk rs (d+1) x->x.sp=sV st.2.1 k->StOk rs e (st.1++[x],wV st.2.1 k,R):=by
   intro x k R hk hx hsp;refine⟨fun y hy=>?_,hst.2.add hk hsp⟩
   rcases List.mem_append.1 hy with hy | hy
   .exact hst.1 y hy
   .cases List.mem_singleton.1 hy; exact hx.mono le
  cases l with
  |plain k tag s hs ls =>
   obtain⟨h1,h2,h3,h4,h5⟩:=h;rw[aX];have b:=br d (Nat.le_refl _) ls ns τ ([],[],jW A τ hs (yV A τ s (eW A τ k st.2.2))) h4 hS StOk.nil;refine add _ _ _ (sA hS h1) ⟨Nat.le_refl 2,⟨?_,?_,fun x hx=>?_,h2.2.2.2,fun c hc=>⟨?_,mT hS h2.1 c hc⟩⟩,b.1,b.2.row⟩ rfl
   .rw [mC]; unfold wJ; rw[List.length_map]; exact h2.2.1
   .unfold vV; rw[List.length_map]; exact h3.2
   .unfold vV at hx
    obtain⟨y,hy,rfl⟩:=List.mem_map.1 hx;refine⟨?_,(h3.1 y hy).1.2⟩;show(fI A τ y.ch).length<=4;unfold fI;rw[List.length_map];exact(h3.1 y hy).1.1
   .have:=qP hc
    unfold wJ at this;obtain⟨p,hp,rfl⟩:=List.mem_map.1 this;exact h2.2.2.1 p hp
  |part k n g =>
   obtain⟨h1,h2,h3,h4⟩:=h;rw[aX];refine add _ _ _ (sA hS h1) ⟨Nat.le_refl 2,h2,?_,mT hS h3⟩ rfl;rw[mC];unfold wJ;rw[List.length_map];exact h4
  |give k n r ls =>
   obtain⟨h1,h2,h3,h4,h5⟩:=h;rw[aX];have b:=br d (Nat.le_refl _) ls ns τ ([],[],r.rds A τ (eW A τ k st.2.2)) h4 hS StOk.nil;exact add _ _ _ (sA hS h1) ⟨Nat.le_refl 2,eM hS.a hS.t hS.h h3,b.1,b.2.row⟩ rfl
  |when r l1 l2 =>
   obtain⟨h1,⟨h2,h3⟩,h4,h5⟩:=h;rw[aX]
   split
   .exact br e (by omega) l2 ns τ _ h4 hS hst
   .exact br e (by omega) l1 ns τ _ h2 hS hst
  |each n r ls =>
   obtain⟨h1,h2,h3⟩:=h;rw[aX]
   have:∀(l:List Nat),(∀k∈l,k < 8)->∀x:DSt,StOk rs e x->StOk rs e (l.foldl (fun st k=>eQ A ls (cZ τ (.inr n) (.int (k:Nat))) st) x):=by
    intro l
    induction l with
    |nil=>intro _ x hx; exact hx
    |cons k l ihl =>
     intro hk x hx;have k8:=hk k List.mem_cons_self;refine ihl (fun j hj=>hk j (List.mem_cons_of_mem _ hj)) _ (br e (by omega) ls [n] _ x h2 ⟨hS.a,hS.t.put _ (by unfold Bd; omega),fun m hm=>?_,hS.b⟩ hx);cases List.mem_singleton.1 hm;rw[xC,if_pos rfl]; rfl
   refine this _ (fun k hk=>?_) _ hst;rw[List.mem_range] at hk;have:=dM (r.val A τ);omega
theorem row_ok {A:Rds}{τ:Tns}{bs rs ns:List Str}{d:Nat}{ls:List Ln}{R:Rds}(h:∀x∈ls,LnOk bs rs d ns x)(hS:bG A τ bs ns):Q8 rs d (eQ A ls τ ([],[],R)).1:=by
 have b:=iP (one_st d) d (Nat.le_refl _) ls ns τ ([],[],R) h hS StOk.nil;exact⟨b.1,b.2.row⟩
mutual
def Wt.pc:Wt->Nat
 |.plain _ _ _ _ r=>Wt.pcs r
 |.part _ _ _=>1
 |.give _ _ _ r=>Wt.pcs r
def Wt.pcs:List Wt->Nat
 |[]=>0
 |x::r=>x.pc+Wt.pcs r
end
theorem Wt.pcs_app (xs ys:List Wt):Wt.pcs (xs++ys)=Wt.pcs xs+Wt.pcs ys:=by
 induction xs with
 |nil=>show _=0+_; rw[Nat.zero_add]; rfl
 |cons x xs ih=>show x.pc+Wt.pcs (xs++ys)=x.pc+Wt.pcs xs+Wt.pcs ys; rw[ih]; omega
mutual
theorem one_pc (A:Rds):∀(l:Ln) (τ:Tns) (st:DSt),Wt.pcs (aX A l τ st).1<=Wt.pcs st.1+l.pw
 |.when r l1 l2,τ,st=>by
  rw[aX];have h1:=yW A l1 τ (st.1,st.2.1,r.rds A τ st.2.2);have h2:=yW A l2 τ (st.1,st.2.1,r.rds A τ st.2.2);show _<=_+(Ln.pws l1+Ln.pws l2)
  split
  .exact Nat.le_trans h2 (by show Wt.pcs st.1+_<=_; omega)
  .exact Nat.le_trans h1 (by show Wt.pcs st.1+_<=_; omega)
 |.each n r ls,τ,st=>by
  rw[aX];have c:=dM (r.val A τ);have f1:=qG (f:=fun st k=>eQ A ls (cZ τ (.inr n) (.int (k:Nat))) st) (m:=fun st=>Wt.pcs st.1) (c:=Ln.pws ls) (fun x k=>yW A ls _ x) (List.range (mD (r.val A τ))) (st.1,st.2.1,r.rds A τ st.2.2);rw[List.length_range] at f1;have hm:mD (r.val A τ) * Ln.pws ls<=8 * Ln.pws ls:=Nat.mul_le_mul_right _ c;show _<=Wt.pcs st.1+8 * Ln.pws ls;exact Nat.le_trans f1 (by show Wt.pcs st.1+_<=_; omega)
 |.part k n g,τ,st=>by
  rw[aX];show Wt.pcs (st.1++[_])<=_;rw[Wt.pcs_app];exact Nat.le_refl _
 |.give k n r ls,τ,st=>by
  rw[aX];have h:=yW A ls τ ([],[],r.rds A τ (eW A τ k st.2.2));show Wt.pcs (st.1++[_])<=_;rw[Wt.pcs_app];show Wt.pcs st.1+(Wt.pcs _+0)<=Wt.pcs st.1+Ln.pws ls;have h:Wt.pcs (eQ A ls τ ([],[],r.rds A τ (eW A τ k st.2.2))).1<=0+Ln.pws ls:=h;omega
 |.plain k tag s hs ls,τ,st=>by
  rw[aX];have h:=yW A ls τ ([],[],jW A τ hs (yV A τ s (eW A τ k st.2.2)));show Wt.pcs (st.1++[_])<=_;rw[Wt.pcs_app];show Wt.pcs st.1+(Wt.pcs _+0)<=Wt.pcs st.1+Ln.pws ls;have h:Wt.pcs (eQ A ls τ ([],[],jW A τ hs (yV A τ s (eW A τ k st.2.2)))).1<=0+Ln.pws ls:=h;omega
theorem yW (A:Rds):∀(ls:List Ln) (τ:Tns) (st:DSt),Wt.pcs (eQ A ls τ st).1<=Wt.pcs st.1+Ln.pws ls
 |[],τ,st=>by rw[nZ]; exact Nat.le_add_right _ _
 |l::ls,τ,st=>by
  rw[uZ];have h1:=one_pc A l τ st;have h2:=yW A ls τ (aX A l τ st);show _<=_+(l.pw+Ln.pws ls);omega
end
mutual
def Wt.wc:Wt->Nat
 |.plain _ _ _ _ r=>1+Wt.wcs r
 |.part _ _ _=>1
 |.give _ _ _ r=>1+Wt.wcs r
def Wt.wcs:List Wt->Nat
 |[]=>0
 |x::r=>x.wc+Wt.wcs r
end
theorem Wt.wcs_app (xs ys:List Wt):Wt.wcs (xs++ys)=Wt.wcs xs+Wt.wcs ys:=by
 induction xs with
 |nil=>show _=0+_; rw[Nat.zero_add]; rfl
 |cons x xs ih=>show x.wc+Wt.wcs (xs++ys)=x.wc+Wt.wcs xs+Wt.wcs ys; rw[ih]; omega
mutual
theorem one_wc (A:Rds):∀(l:Ln) (τ:Tns) (st:DSt),Wt.wcs (aX A l τ st).1<=Wt.wcs st.1+l.tw
 |.when r l1 l2,τ,st=>by
  rw[aX];have h1:=wW A l1 τ (st.1,st.2.1,r.rds A τ st.2.2);have h2:=wW A l2 τ (st.1,st.2.1,r.rds A τ st.2.2);show _<=_+(Ln.tws l1+Ln.tws l2)
  split
  .exact Nat.le_trans h2 (by show Wt.wcs st.1+_<=_; omega)
  .exact Nat.le_trans h1 (by show Wt.wcs st.1+_<=_; omega)
 |.each n r ls,τ,st=>by
  rw[aX];have c:=dM (r.val A τ);have f1:=qG (f:=fun st k=>eQ A ls (cZ τ (.inr n) (.int (k:Nat))) st) (m:=fun st=>Wt.wcs st.1) (c:=Ln.tws ls) (fun x k=>wW A ls _ x) (List.range (mD (r.val A τ))) (st.1,st.2.1,r.rds A τ st.2.2);rw[List.length_range] at f1;have hm:mD (r.val A τ) * Ln.tws ls<=8 * Ln.tws ls:=Nat.mul_le_mul_right _ c;show _<=Wt.wcs st.1+8 * Ln.tws ls;exact Nat.le_trans f1 (by show Wt.wcs st.1+_<=_; omega)
 |.part k n g,τ,st=>by
  rw[aX];show Wt.wcs (st.1++[_])<=_;rw[Wt.wcs_app];exact Nat.le_refl _
 |.give k n r ls,τ,st=>by
  rw[aX];have h:=wW A ls τ ([],[],r.rds A τ (eW A τ k st.2.2));show Wt.wcs (st.1++[_])<=_;rw[Wt.wcs_app];show Wt.wcs st.1+((1+Wt.wcs _)+0)<=Wt.wcs st.1+(1+Ln.tws ls);have h:Wt.wcs (eQ A ls τ ([],[],r.rds A τ (eW A τ k st.2.2))).1<=0+Ln.tws ls:=h;omega
 |.plain k tag s hs ls,τ,st=>by
  rw[aX];have h:=wW A ls τ ([],[],jW A τ hs (yV A τ s (eW A τ k st.2.2)));show Wt.wcs (st.1++[_])<=_;rw[Wt.wcs_app];show Wt.wcs st.1+((1+Wt.wcs _)+0)<=Wt.wcs st.1+(1+Ln.tws ls);have h:Wt.wcs (eQ A ls τ ([],[],jW A τ hs (yV A τ s (eW A τ k st.2.2)))).1<=0+Ln.tws ls:=h;omega
theorem wW (A:Rds):∀(ls:List Ln) (τ:Tns) (st:DSt),Wt.wcs (eQ A ls τ st).1<=Wt.wcs st.1+Ln.tws ls
 |[],τ,st=>by rw[nZ]; exact Nat.le_add_right _ _
 |l::ls,τ,st=>by
  rw[uZ];have h1:=one_wc A l τ st;have h2:=wW A ls τ (aX A l τ st);show _<=_+(l.tw+Ln.tws ls);omega
end
structure Prt where
 path:nQ
 name:Str
 gives:List (Str×Int)
 downs:List (Str×Int)
def pX (p:nQ):PV:=.tup (p.map zV)
def Prt.pv (x:Prt):PV:=.tup [pX x.path,.str x.name,.tup (x.gives.map dQ),.tup (x.downs.map dQ)]
mutual
def Wt.prt:Wt->nQ->List (Str×Int)->List Prt
 |.part sp n g,s,ds=>[⟨s++[sp],n,g,ds⟩]
 |.give sp n i r,s,ds=>Wt.prts r (s++[sp]) (pW ds [(n,i)])
 |.plain sp _ _ _ r,s,ds=>Wt.prts r (s++[sp]) ds
def Wt.prts:List Wt->nQ->List (Str×Int)->List Prt
 |[],_,_=>[]
 |x::r,s,ds=>x.prt s ds++Wt.prts r s ds
end
mutual
theorem prt_len:∀(x:Wt) (s:nQ) (ds:List (Str×Int)),(x.prt s ds).length=x.pc
 |.part _ _ _,_,_=>rfl
 |.give sp n i r,s,ds=>by rw[Wt.prt,Wt.pc]; exact tV r _ _
 |.plain sp _ _ _ r,s,ds=>by rw[Wt.prt,Wt.pc]; exact tV r _ _
theorem tV:∀(r:List Wt) (s:nQ) (ds:List (Str×Int)),(Wt.prts r s ds).length=Wt.pcs r
 |[],_,_=>rfl
 |x::r,s,ds=>by rw[Wt.prts,Wt.pcs,List.length_append,prt_len x,tV r]
end
theorem ZQ (xs ys:List Wt)(s:nQ)(ds:List (Str×Int)):Wt.prts (xs++ys) s ds=Wt.prts xs s ds++Wt.prts ys s ds:=by
 induction xs with
 |nil=>rfl
 |cons x xs ih=>rw[List.cons_append,Wt.prts,Wt.prts,ih,List.append_assoc]
theorem wt_pv (x:Wt):∃(wd:Str) (rest:List PV),x.pv=.tup (.str wd::zV x.sp::rest)/\(wd = "plain"\/wd = "part"\/wd = "give"):=by
 cases x with
 |plain s t g h r=>exact⟨"plain",_,by rw[Wt.pv]; rfl,.inl rfl⟩
 |part s n g=>exact⟨"part",_,by rw[Wt.pv]; rfl,.inr (.inl rfl)⟩
 |give s n i r=>exact⟨"give",_,by rw[Wt.pv]; rfl,.inr (.inr rfl)⟩
section
variable {P:Program}{w:World}{K:PySem.W.Frag}{mg:Str->Option Value}{base:Heap}{a:Adr}
def gPs (d:Nat):GC:=fun ts C Q=>∃(r:List Wt) (s:nQ) (ds:List (Str×Int)) (rs:List Str),ts=[.tup (Wt.pvs r),pX s,.tup (ds.map dQ)]/\Q8 rs d r/\s.length+d<=50/\ds.length+d<=50/\Wt.pcs r<=1000 /\
 ∀p C',C p=none->C' p=some (.lst ((Wt.prts r s ds).map Prt.pv))->Gr C C'->Q (.ref p) C'
theorem Z9 (T:Txt P w K mg a)(d:Nat):FnOk P w K mg base CX0 (d+2) (a.f 26) (a.d 26) U3 (spC K (gPs d)):=by
 have main:∀n,(∀d',n=d'+1->FnOk P w K mg base CX0 (n+1) (a.f 26) (a.d 26) U3 (spC K (gPs d')))->FnOk P w K mg base CX0 (n+2) (a.f 26) (a.d 26) U3 (spC K (gPs n)):=by
  intro n ih;have S:=(T.F 26 rfl).s;have jH:=(Qy (base:=base) T).mono (show 1<=n+1 by omega)
  have sU:FnOk P w K mg base CX0 (n+1) (a.f 26) (a.d 26) U3 (spC K (fun ts C Q=>∃d',n=d'+1/\gPs d' ts C Q)):=by
   cases n with
   |zero=>exact mJ fun ts C Q ⟨d',e,_⟩=>by omega
   |succ d' =>
    have:=ih d' rfl
    have e:(fun ts C Q=>∃d'',d'+1=d''+1/\gPs d'' ts C Q)=gPs d':=by
     funext ts C Q
     refine propext ⟨fun⟨d'',e,h⟩=>?_,fun h=>⟨d',rfl,h⟩⟩;cases Nat.succ.inj e;exact h
    rw[e];exact this
  refine(T.F 26 rfl).ok (fun ts C R h=>?_) fun cdv A outer s H E hr=>⟨_,(xQ (cs1 3 S.nd (gX iX))
  (xQ (oK PassesOwn.never rfl (cv 0) (cg1 4 S.nd) (xQ (cs1 5 S.nd (rQ oQ tQ (cv 1) (mQ (ca1 (cx (cv 4) zQ)))))
  (xQ (wX (ct2 hX jX (cx (cv 4) zQ) vQ) (kQ (vZ (cap (cv 3) (mQ (qQ (cv 5) (qQ (cx (cv 4) zQ) (qQ (cx (cv 4) zQ) (ca1 (cv 2))))))))) qX)
  (xQ (wX (ct2 hX jX (cx (cv 4) zQ) vQ) (kQ (cs1 3 S.nd (rQ oQ tQ (cv 3) (cf (T.F 26 rfl) sU hr (qQ (cx (cv 4) zQ) (qQ (cv 5) (ca1 (cf (T.F 25 rfl) jH hr (qQ (cv 2) (ca1 (mQ (ca1 (mQ (qQ (cx (cv 4) zQ) (ca1 (cx (cv 4) zQ)))))))))))))))) qX)
  (kQ (wX (ct2 hX jX (cx (cv 4) zQ) vQ) (kQ (cs1 3 S.nd (rQ oQ tQ (cv 3) (cf (T.F 26 rfl) sU hr (qQ (cx (cv 4) zQ) (qQ (cv 5) (ca1 (cv 2)))))))) qX))))))
  (kQ (bQ (cv 3))))),?_⟩
  .obtain ⟨r,s,ds,rs,rfl,_⟩:=h; rfl
  rintro ts C R ⟨r,s,ds,rs,rfl,ok,hs,hd,hpc,q⟩;refine yQ ?_;refine⟨by show 0<=sizeLine; decide,fun p p0=>?_⟩
  try dsimp only
  refine xZ ?_;refine eG rfl ?_;refine yZ (fun zs ρ C'=>∃(p:Addr) (x4 x5:Option PV) (us vs:List Wt),r=us++vs/\zs=Wt.pvs vs/\ρ=[some (.tup (Wt.pvs r)),some (pX s),some (.tup (ds.map dQ)),some (.ref p),x4,x5]/\C p=none/\C' p=some (.lst ((Wt.prts us s ds).map Prt.pv))/\Gr C C') ?_ ?_ _ _ _ ⟨p,_,_,[],r,rfl,rfl,rfl,p0,jQ,Gr.new p0 _⟩
  .rintro z zs ρ C1 ⟨p,x4,x5,us,vs,e,hz,rfl,p0,m1,g1⟩ L hL
   cases vs with
   |nil=>cases hz
   |cons u vs =>
   obtain⟨rfl,rfl⟩:=List.cons.inj (show z::zs=u.pv::Wt.pvs vs from hz);have hu:=ok.1 u (by rw[e]; exact List.mem_append_right _ List.mem_cons_self);have hpc2:Wt.pcs us+(u.pc+Wt.pcs vs)<=1000:=by have:=hpc; rw[e,Wt.pcs_app] at this; exact this
   have hus:((Wt.prts us s ds).map Prt.pv).length=Wt.pcs us:=by rw[List.length_map,tV]
   have ea:Wt.prts (us++[u]) s ds=Wt.prts us s ds++u.prt s ds:=by rw[ZQ,Wt.prts,Wt.prts,List.append_nil]
   obtain⟨wd,rest,ep,hwd⟩:=wt_pv u;refine yQ ?_;refine dX ep iR ?_;refine⟨by show 1<=sizeLine; decide,?_⟩;refine kU (eY (by rw[List.length_map]; show s.length+1<=1000; omega)) ?_
   try dsimp only
   have eh:PV.tup (s.map zV++[zV u.sp])=pX (s++[u.sp]):=by unfold pX; rw[List.map_append]; rfl
   rw[eh]
   cases n with
   |zero=>exact hu.elim
   |succ d' =>
   cases u with
   |part sp nm g =>
    have ep:(Wt.part sp nm g).pv=.tup [.str "part",zV sp,.str nm,.tup (g.map dQ)]:=by rw[Wt.pv]
    refine xZ ?_;refine dX ep sQ ?_;refine yX (pQ _ _) ?_;refine nK (by decide) ?_;refine⟨cW m1,?_⟩;refine dX ep (v:=.str nm) rfl ?_;refine dX ep (v:=.tup (g.map dQ)) rfl ?_;refine⟨by show 4<=sizeLine; decide,?_⟩;refine xU m1 (by rw[hus]; exact Nat.lt_of_le_of_lt (show Wt.pcs us<=1000 by omega) (by decide)) ?_
    try dsimp only
    refine xZ ?_;refine dX ep sQ ?_;refine yX (pQ _ _) ?_;refine kZ (by decide) ?_;refine bX ?_
    try dsimp only
    refine dX ep sQ ?_;refine yX (pQ _ _) ?_;refine kZ (by decide) ?_;refine bX ?_;refine hL _ _ ⟨p,_,_,us++[.part sp nm g],vs,by rw[List.append_assoc]; exact e,rfl,rfl,p0,?_,xW g1 p0 _⟩;rw[jQ,ea,List.map_append,Wt.prt]
    rfl
   |give sp nm i rw_ =>
    obtain⟨_,bi,o1,o2⟩:=hu;have ep:(Wt.give sp nm i rw_).pv=.tup [.str "give",zV sp,.str nm,.int i,.tup (Wt.pvs rw_)]:=by rw[Wt.pv]
    have hpcu:Wt.pcs rw_=(Wt.give sp nm i rw_).pc:=by rw[Wt.pc]
    refine xZ ?_;refine dX ep sQ ?_;refine yX (pQ _ _) ?_;refine kZ (by decide) ?_;refine bX ?_
    try dsimp only
    refine xZ ?_;refine dX ep sQ ?_;refine yX (pQ _ _) ?_;refine nK (by decide) ?_;refine dX ep (v:=.tup (Wt.pvs rw_)) rfl ?_;refine dX ep (v:=.str nm) rfl ?_;refine dX ep (v:=.int i) rfl ?_;refine⟨by show 2<=sizeLine; decide,?_⟩;refine⟨by show 1<=sizeLine; decide,?_⟩;refine⟨ds,[(nm,i)],rfl,by show ds.length+1<=60; omega,fun C2 g2=>?_⟩;have hol:=kF ds [(nm,i)];have hol:(pW ds [(nm,i)]).length<=ds.length+1:=hol
    refine⟨d',rfl,rw_,s++[sp],pW ds [(nm,i)],rs,rfl,⟨o1,o2⟩,by rw[List.length_append,List.length_singleton]; omega,by omega,by omega,fun p3 C3 n3 m3 g3=>?_⟩;refine vU (g3 _ _ (g2 _ _ m1)) m3 (eY (by rw[hus,List.length_map,tV]; omega)) fun p4 p40=>?_
    try dsimp only
    refine dX ep sQ ?_;refine yX (pQ _ _) ?_;refine kZ (by decide) ?_;refine bX ?_;have g13:Gr C C3:=(g1.trans g2).trans g3;refine hL _ _ ⟨p4,_,_,us++[.give sp nm i rw_],vs,by rw[List.append_assoc]; exact e,rfl,rfl,pV g13 p40,?_,g13.trans (Gr.new p40 _)⟩;rw[jQ,ea,List.map_append,Wt.prt]
   |plain sp tag sets hs rw_ =>
    obtain⟨_,_,o1,o2⟩:=hu;have ep:(Wt.plain sp tag sets hs rw_).pv=.tup [.str "plain",zV sp,.str tag,.tup (sets.map dQ),.tup (hs.map HdV.pv),.tup (Wt.pvs rw_)]:=by rw[Wt.pv]
    have hpcu:Wt.pcs rw_=(Wt.plain sp tag sets hs rw_).pc:=by rw[Wt.pc]
    refine xZ ?_;refine dX ep sQ ?_;refine yX (pQ _ _) ?_;refine kZ (by decide) ?_;refine bX ?_
    try dsimp only
    refine xZ ?_;refine dX ep sQ ?_;refine yX (pQ _ _) ?_;refine kZ (by decide) ?_;refine bX ?_
    try dsimp only
    refine dX ep sQ ?_;refine yX (pQ _ _) ?_;refine nK (by decide) ?_;refine dX ep (v:=.tup (Wt.pvs rw_)) rfl ?_;refine⟨d',rfl,rw_,s++[sp],ds,rs,rfl,⟨o1,o2⟩,by rw[List.length_append,List.length_singleton]; omega,by omega,by omega,fun p3 C3 n3 m3 g3=>?_⟩;refine vU (g3 _ _ m1) m3 (eY (by rw[hus,List.length_map,tV]; omega)) fun p4 p40=>?_;have g13:Gr C C3:=g1.trans g3;refine hL _ _ ⟨p4,_,_,us++[.plain sp tag sets hs rw_],vs,by rw[List.append_assoc]; exact e,rfl,rfl,pV g13 p40,?_,g13.trans (Gr.new p40 _)⟩
    rw[jQ,ea,List.map_append,Wt.prt]
  .rintro ρ C1 ⟨p,x4,x5,us,vs,e,hz,rfl,p0,m1,g1⟩
   cases vs with
   |cons u vs=>cases hz
   |nil =>
   rw[List.append_nil] at e;subst e;exact q p C1 p0 m1 g1
 induction d with
 |zero=>exact main 0 fun d' e=>by omega
 |succ d ih=>exact main (d+1) fun d' e=>by cases Nat.succ.inj e; exact ih
end
def Div (p q:nQ):Prop:=∃c x y p' q',p=c++x::p'/\q=c++y::q'/\x≠y
theorem Div.ext {p q:nQ}(h:Div p q)(u v:nQ):Div (p++u) (q++v):=by
 obtain⟨c,x,y,p',q',rfl,rfl,n⟩:=h;exact⟨c,x,y,p'++u,q'++v,by rw[List.append_assoc]; rfl,by rw[List.append_assoc]; rfl,n⟩
theorem Div.ne {p q:nQ}(h:Div p q):p≠q:=by
 obtain⟨c,x,y,p',q',rfl,rfl,n⟩:=h;intro e;have:=List.append_cancel_left e;injection this with h1 _
 exact n h1
structure KZ (rs:List Str)(s:nQ)(nd:Nat)(x:Prt)(d:Nat):Prop where
 name:x.name∈rs
 gl:x.gives.length<=4
 gb:SBd x.gives
 db:SBd x.downs
 dl:x.downs.length<=nd+d
 path:∃u,x.path=s++u/\u≠[]/\u.length<=d
theorem Qs {rs:List Str}:∀(d:Nat) (r:List Wt) (s:nQ) (ds:List (Str×Int)),Q8 rs d r->SBd ds->(∀x∈Wt.prts r s ds,KZ rs s ds.length x d)/\(Wt.prts r s ds).Pairwise (fun x y=>Div x.path y.path):=by
 intro d
 induction d with
 |zero =>
  intro r s ds ok hb
  cases r with
  |nil=>exact⟨fun _ z=>(nomatch z),.nil⟩
  |cons x r=>exact(ok.1 x List.mem_cons_self).elim
 |succ d ih =>
  intro r s ds ok hb
  have one:∀x:Wt,WtOk rs (d+1) x->(∀y∈x.prt s ds,KZ rs s ds.length y (d+1)/\∃u,y.path=s++x.sp::u)/\(x.prt s ds).Pairwise (fun x y=>Div x.path y.path):=by
   intro x hx
   cases x with
   |part sp n g =>
    rw[Wt.prt];refine⟨fun y hy=>?_,List.pairwise_singleton _ _⟩;cases List.mem_singleton.1 hy;exact⟨⟨hx.2.1,hx.2.2.1,hx.2.2.2,hb,by show ds.length<=_; omega,[sp],rfl,by simp,by show 1<=d+1; omega⟩,[],rfl⟩
   |give sp n i r' =>
    rw[Wt.prt];obtain⟨_,bi,o1,o2⟩:=hx;have hob:SBd (pW ds [(n,i)]):=hb.over fun c hc=>by cases List.mem_singleton.1 hc; exact bi
    have hol:(pW ds [(n,i)]).length<=ds.length+1:=kF ds [(n,i)];obtain⟨h1,h2⟩:=ih r' (s++[sp]) (pW ds [(n,i)]) ⟨o1,o2⟩ hob;refine⟨fun y hy=>?_,h2⟩;have o:=h1 y hy;obtain⟨u,e,_,ul⟩:=o.path;have e':y.path=s++sp::u:=by rw[e,List.append_assoc]; rfl
    exact⟨⟨o.name,o.gl,o.gb,o.db,by have:=o.dl; omega,sp::u,e',by simp,by rw[List.length_cons]; omega⟩,u,e'⟩
   |plain sp tag ss hs r' =>
    rw[Wt.prt];obtain⟨_,_,o1,o2⟩:=hx;obtain⟨h1,h2⟩:=ih r' (s++[sp]) ds ⟨o1,o2⟩ hb;refine⟨fun y hy=>?_,h2⟩;have o:=h1 y hy;obtain⟨u,e,_,ul⟩:=o.path;have e':y.path=s++sp::u:=by rw[e,List.append_assoc]; rfl
    exact⟨⟨o.name,o.gl,o.gb,o.db,by have:=o.dl; omega,sp::u,e',by simp,by rw[List.length_cons]; omega⟩,u,e'⟩
  have all:∀r:List Wt,(∀x∈r,WtOk rs (d+1) x)->(r.map Wt.sp).Nodup->(∀x∈Wt.prts r s ds,KZ rs s ds.length x (d+1)/\∃y∈r,∃u,x.path=s++y.sp::u)/\(Wt.prts r s ds).Pairwise (fun x y=>Div x.path y.path):=by
   intro r
   induction r with
   |nil=>intro _ _; exact⟨fun _ z=>(nomatch z),.nil⟩
   |cons x r ihr =>
    intro h nd;rw[List.map_cons,List.nodup_cons] at nd;obtain⟨a1,a2⟩:=one x (h x List.mem_cons_self);obtain⟨b1,b2⟩:=ihr (fun y hy=>h y (List.mem_cons_of_mem _ hy)) nd.2;rw[Wt.prts];refine⟨fun y hy=>?_,?_⟩
    .rcases List.mem_append.1 hy with hy | hy
     .exact ⟨(a1 y hy).1,x,List.mem_cons_self,(a1 y hy).2⟩
     .obtain ⟨c1,z,hz,c2⟩:=b1 y hy
      exact⟨c1,z,List.mem_cons_of_mem _ hz,c2⟩
    .rw [List.pairwise_append]
     refine⟨a2,b2,fun y hy z hz=>?_⟩;obtain⟨_,u,e1⟩:=a1 y hy;obtain⟨_,t,ht,v,e2⟩:=b1 z hz;refine⟨s,x.sp,t.sp,u,v,e1,e2,fun e=>nd.1 ?_⟩;rw[e];exact List.mem_map.2 ⟨t,ht,rfl⟩
  obtain⟨c1,c2⟩:=all r ok.1 ok.2.1;exact⟨fun x hx=>(c1 x hx).1,c2⟩
theorem sO {t:TCT}{c:TCE}{ρ:CSt}{Q:K1}(b:PV->Bool):∀(xs acc:List PV) (C:CH),(∀x∈xs,∀(K:Bool->CH->Prop),K (b x) C->t (some x::ρ) C K)->(∀x∈xs,∀(L:K1),L x C->c (some x::ρ) C L)->acc.length+xs.length<=1000->(∀p,C p=none->Q (.ref p) (gQ C p (.lst (acc++xs.filter b))))->wZ t c ρ Q xs acc C:=by
 intro xs
 induction xs with
 |nil =>
  intro acc C _ _ _ q;rw[List.filter_nil,List.append_nil] at q;exact vW q
 |cons x xs ih =>
  intro acc C ht hc hl q;rw[List.length_cons] at hl;refine fX ?_;refine ht x List.mem_cons_self _ ?_
  cases e:b x with
  |true =>
   rw[if_pos rfl];refine hc x List.mem_cons_self _ ⟨Nat.lt_of_lt_of_le (show acc.length < 1000 by omega) (by decide),?_⟩;refine ih (acc++[x]) C (fun y hy=>ht y (List.mem_cons_of_mem _ hy)) (fun y hy=>hc y (List.mem_cons_of_mem _ hy)) (by rw[List.length_append,List.length_singleton]; omega) fun p hp=>?_;have:=q p hp;rw[List.filter_cons,e,if_pos rfl] at this;rw[List.append_assoc];exact this
  |false =>
   rw[if_neg (by decide)];refine ih acc C (fun y hy=>ht y (List.mem_cons_of_mem _ hy)) (fun y hy=>hc y (List.mem_cons_of_mem _ hy)) (by omega) fun p hp=>?_;have:=q p hp;rw[List.filter_cons,e,if_neg (by decide)] at this;exact this
def isNm (nm:Str):PV->Bool
 |.tup (.str s::_)=>decide (s=nm)
 |_=>false
theorem cN {nm:Str}:∀{pts:List Pt}{x:Pt},(yJ pts).Nodup->x∈pts->x.name=nm->(pts.map Pt.pv).filter (isNm nm)=[x.pv]
 |[],x,_,m,_=>nomatch m
 |y::pts,x,nd,m,e=>by
  have nd:(y.name::yJ pts).Nodup:=nd;rw[List.nodup_cons] at nd
  have none:∀l:List Pt,(∀z∈l,z.name≠nm)->(l.map Pt.pv).filter (isNm nm)=[]:=by
   intro l h;rw[List.filter_eq_nil_iff];intro z hz;obtain⟨w,hw,rfl⟩:=List.mem_map.1 hz;show ¬ decide (w.name=nm)=true;rw[decide_eq_false (h w hw)]
   decide
  rw[List.map_cons,List.filter_cons];have ei:isNm nm y.pv=decide (y.name=nm):=rfl
  rcases List.mem_cons.1 m with rfl | m
  .rw [ei,decide_eq_true e,if_pos rfl,none pts fun z hz hzn=>nd.1 (by rw[e,<- hzn]; exact List.mem_map.2 ⟨z,hz,rfl⟩)]
  .have ne:¬ y.name=nm:=fun z=>nd.1 (by rw[z,<- e]; exact List.mem_map.2 ⟨x,m,rfl⟩)
   rw[ei,decide_eq_false ne,if_neg (by decide)];exact cN nd.2 m e
abbrev Vl:=List (nQ×(Str×List (Str×Int)))
def vPV (v:Str×List (Str×Int)):PV:=.tup [.str v.1,.tup (v.2.map dQ)]
def vlP (V:Vl):List (nQ×PV):=V.map fun e=>(e.1,vPV e.2)
def vP (V:Vl)(p:nQ):Option (Str×List (Str×Int)):=(V.find? fun e=>decide (e.1=p)).map (·.2)
theorem pE (V:Vl)(p:nQ):rK (vlP V) p=(vP V p).map vPV:=by
 induction V with
 |nil=>rfl
 |cons e V ih =>
  show rK ((e.1,vPV e.2)::vlP V) p=_;rw[lK];unfold vP;rw[List.find?_cons]
  by_cases h:e.1=p
  .rw [if_pos h,decide_eq_true h]; rfl
  .rw [if_neg h,decide_eq_false h,ih]; rfl
def mZ (V:Vl)(y:Pt)(p:nQ):List (Str×Int):=match vP V p with
 |some v=>if v.1=y.name then v.2 else y.first
 |none=>y.first
def uJ (s:Str)(ps:List (Str×Int))(A:Rds):Rds:=ps.foldl (fun A c=>putG A (qK s c.1) (.int c.2)) A
def aM (L:List (Str×List (Str×Int)))(A:Rds):Rds:=L.foldl (fun A e=>uJ e.1 e.2 A) A
def lF (x:Prt)(bx:List (Str×Int)):List (Str×List (Str×Int)):=[("take",x.gives),("down",x.downs),("box",bx)]
def yG (x:Prt)(bx:List (Str×Int)):Rds:=aM (lF x bx) []
def srPV (e:Str×List (Str×Int)):PV:=.tup [.str e.1,.tup (e.2.map dQ)]
structure VOk (V:Vl):Prop where
 b:∀e∈V,SBd e.2.2
 l:∀e∈V,e.2.2.length<=4
theorem XB {V:Vl}{p:nQ}{v:Str×List (Str×Int)}(h:vP V p=some v):∃e∈V,e.2=v:=by
 unfold vP at h
 cases e:V.find? fun e=>decide (e.1=p) with
 |none=>rw[e] at h; cases h
 |some x=>rw[e] at h; cases h; exact⟨x,List.mem_of_find?_eq_some e,rfl⟩
theorem kE {V:Vl}(hV:VOk V){y:Pt}{rs:List Str}{cap:Nat}(ok:Za rs cap y)(p:nQ):SBd (mZ V y p)/\(mZ V y p).length<=4:=by
 unfold mZ
 cases e:vP V p with
 |none=>exact⟨fun c hc=>ok.fb c hc,ok.fl⟩
 |some v =>
  obtain⟨x,hx,rfl⟩:=XB e;dsimp only
  split
  .exact ⟨hV.b x hx,hV.l x hx⟩
  .exact ⟨fun c hc=>ok.fb c hc,ok.fl⟩
theorem ABd.put {A:Rds}(h:ABd A)(k:List Key){i:Int}(hi:Bd i):ABd (putG A k (.int i)):=fun kv hkv=>by
 rcases iS hkv with e | e
 .exact ⟨i,e,hi⟩
 .exact h kv e
theorem uU {s:Str}:∀{ps:List (Str×Int)}{A:Rds},SBd ps->ABd A->ABd (uJ s ps A)
 |[],A,_,h=>h
 |c::ps,A,hp,h=>uU (ps:=ps) (fun x hx=>hp x (List.mem_cons_of_mem _ hx)) (h.put _ (hp c List.mem_cons_self))
theorem ans_bd {x:Prt}{bx:List (Str×Int)}(h1:SBd x.gives)(h2:SBd x.downs)(h3:SBd bx):ABd (yG x bx):=uU h3 (uU h2 (uU h1 (A:=[]) fun _ z=>(nomatch z)))
theorem ZM {κ:Type}[DecidableEq κ](R:List (κ×PV))(k:κ)(v:PV):(putG R k v).length<=R.length+1:=by
 unfold putG
 split
 .rw [List.length_map]; omega
 .rw [List.length_append,List.length_singleton]; exact Nat.le_refl _
theorem oV {s:Str}:∀(ps:List (Str×Int)) (A:Rds),(uJ s ps A).length<=A.length+ps.length
 |[],A=>Nat.le_refl _
 |c::ps,A=>by
  have h1:=oV (s:=s) ps (putG A (qK s c.1) (.int c.2));have h2:=ZM A (qK s c.1) (.int c.2);show(uJ s ps (putG A (qK s c.1) (.int c.2))).length<=_;rw[List.length_cons];omega
theorem kY:∀p:nQ,zT (pX p)=some p:=by
 intro p;show xN (p.map zV)=some p
 induction p with
 |nil=>rfl
 |cons k p ih =>
  have hk:eB (zV k)=some k:=by
   show kB (k.map mK)=some k
   induction k with
   |nil=>rfl
   |cons a k ihk =>
    show(match kK (mK a),kB (k.map mK) with | some k,some ks=>some (k::ks) | _,_=>none)=_;rw[CL.keyOf_keyPV,ihk]
  show(match eB (zV k),xN (p.map zV) with | some k,some ks=>some (k::ks) | _,_=>none)=_;rw[hk,ih]
theorem pin_s {p:Addr}{y:PV}{k:nQ}{kvs:List (nQ×PV)}{C:CH}{Q:K1}(m:C p=some (.dP kvs))(hk:zT y=some k)(q:Q (.bl (rK kvs k).isSome) C):cPIn y (.ref p) C Q:=by
 unfold cPIn;dsimp only;rw[m,hk];exact q
theorem Qt {p:Addr}{y v:PV}{k:nQ}{kvs:List (nQ×PV)}{C:CH}{Q:K1}(m:C p=some (.dP kvs))(hk:zT y=some k)(hv:rK kvs k=some v)(q:Q v C):cPIx (.ref p) y C Q:=by
 unfold cPIx;dsimp only;rw[m,hk];show(match rK kvs k with | some v=>Q v C | none=>False);rw[hv];exact q
theorem iE {p:Addr}{y v:PV}{k:nQ}{kvs:List (nQ×PV)}{C:CH}{Q:CH->Prop}(m:C p=some (.dP kvs))(hk:zT y=some k)(h:kvs.length<=100000)(q:Q (gQ C p (.dP (putG kvs k v)))):Q0 (.ref p) y v C Q:=by
 unfold Q0;dsimp only;rw[m,hk];exact⟨Nat.lt_of_le_of_lt h (by decide),q⟩
section
variable {P:Program}{w:World}{K:PySem.W.Frag}{mg:Str->Option Value}{base:Heap}{a:Adr}
def gNamed:GC:=fun ts C Q=>∃(pts:List Pt) (x:Pt),ts=[.tup (pts.map Pt.pv),.str x.name]/\pts.length<=6/\(yJ pts).Nodup/\x∈pts/\∀C',Gr C C'->Q x.pv C'
theorem jP (T:Txt P w K mg a):FnOk P w K mg base CX0 1 (a.f 27) (a.d 27) U14 (spC K gNamed):=by
 have S:=(T.F 27 rfl).s;refine(T.F 27 rfl).ok (fun ts C R h=>?_) fun cdv A outer s H E hr=>⟨_,(kQ (bQ (cx (eK rfl (S.c (by decide +kernel)) (S.k rfl rfl rfl (by decide +kernel)) (kG (cv 0)) (fun _ _ _ _ _=>(Ky (ct2 hX jX (cx (cv 0) zQ) (cv 2)))) (fun _ _ _ _ _=>(cv 0))) zQ))),?_⟩
 .obtain ⟨pts,x,rfl,_⟩:=h; rfl
 rintro ts C R ⟨pts,x,rfl,hl,nd,hx,q⟩;refine sO (isNm x.name) _ [] C (fun y hy K hK=>?_) (fun y hy L hL=>hL) (by rw[List.length_map]; show 0+pts.length<=1000; omega) fun p hp=>?_
 .obtain ⟨z,hz,rfl⟩:=List.mem_map.1 hy
  refine cX (xs:=[.str z.name,.tup (z.first.map dQ),.tup (z.works.map eV),.tup (Ln.pvs z.ls)]) sQ ?_;refine yX (pQ _ _) ?_;exact hK
 .rw [List.nil_append,cN nd hx rfl]
  refine sX jQ sQ ?_;exact q _ (Gr.new hp _)
def gAns:GC:=fun ts C Q=>∃(pts:List Pt) (vv:Addr) (V:Vl) (x:Prt) (y:Pt),ts=[.tup (pts.map Pt.pv),.ref vv,x.pv]/\pts.length<=6/\(yJ pts).Nodup/\y∈pts/\y.name=x.name/\C vv=some (.dP (vlP V))/\(x.gives.length<=4/\x.downs.length<=60/\(mZ V y x.path).length<=4) /\
 ∀aa C',C aa=none->C' aa=some (.dT (yG x (mZ V y x.path)))->Gr C C'->Q (.ref aa) C'
theorem vA (T:Txt P w K mg a):FnOk P w K mg base CX0 2 (a.f 28) (a.d 28) U2 (spC K gAns):=by
 have S:=(T.F 28 rfl).s;have lY:=jP (base:=base) T
 refine(T.F 28 rfl).ok (fun ts C R h=>?_) fun cdv A outer s H E hr=>⟨_,(xQ (cP (cv 2) (iW rfl (kX (cg1 3 S.nd) (kX (cg1 4 S.nd) (kX (cg1 5 S.nd) (kX (cg1 6 S.nd) tK))))))
  (xQ (cs1 7 S.nd (cx (cf (T.F 27 rfl) lY hr (qQ (cv 0) (ca1 (cv 4)))) zQ))
  (xQ (wX (cw_pt (cw_and (bI (op_pin (aY hr)) cop_pin (cv 3) (cv 1) rfl) (cw_and1 (ct2 hX jX (cx (pR (aY hr) (cv 1) (cv 3) (fun _ _=>rfl)) zQ) (cv 4))))) (kQ (cs1 7 S.nd (cx (pR (aY hr) (cv 1) (cv 3) (fun _ _=>rfl)) zQ))) qX)
  (xQ (cs1 8 S.nd QV)
  (xQ (dU PassesOwn.never rfl (gX (qQ (mQ (qQ vQ (ca1 (cv 5)))) (qQ (mQ (qQ vQ (ca1 (cv 6)))) (ca1 (mQ (qQ vQ (ca1 (cv 7)))))))) (iW rfl (kX (cg1 9 S.nd) (kX (cg1 10 S.nd) tK))) (kQ (oK PassesOwn.never rfl (cv 10) (iW rfl (kX (cg1 11 S.nd) (kX (cg1 12 S.nd) tK))) (kQ (QT (tX hr) (cv 8) (mQ (qQ (cv 9) (ca1 (cv 11)))) (cv 12))))))
  (kQ (bQ (cv 8)))))))),?_⟩
 .obtain ⟨pts,vv,V,x,y,rfl,_⟩:=h; rfl
 rintro ts C R ⟨pts,vv,V,x,y,rfl,hl,nd,hy,hn,hv,⟨l1,l2,l3⟩,q⟩;refine xZ ?_;refine⟨rfl,?_⟩;refine mX (mX (mX (mX (aW ?_))))
 try dsimp only
 refine yQ ?_;refine⟨pts,y,by rw[hn],hl,nd,hy,fun C1 g1=>?_⟩;refine cX (xs:=[.str y.name,.tup (y.first.map dQ),.tup (y.works.map eV),.tup (Ln.pvs y.ls)]) (v:=.tup (y.first.map dQ)) rfl ?_
 try dsimp only
 have v1:=g1 _ _ hv;refine aQ (fun ρ' C'=>C'=C1/\ρ'=[some (.tup (pts.map Pt.pv)),some (.ref vv),some x.pv,some (pX x.path),some (.str x.name),some (.tup (x.gives.map dQ)),some (.tup (x.downs.map dQ)),some (.tup ((mZ V y x.path).map dQ)),none,none,none,none,none]) (fun L hL=>?_) ?_
 .refine pin_s v1 (kY _) ?_
  rw[pE];unfold mZ at hL
  cases e:vP V x.path with
  |none =>
   rw[e] at hL;refine kZ rfl ?_;refine eU rfl ?_;refine bX ?_;exact hL _ _ ⟨rfl,rfl⟩
  |some v =>
   rw[e] at hL;dsimp only at hL;refine nK rfl ?_;refine Qt v1 (kY _) (v:=vPV v) (by rw[pE,e]; rfl) ?_;refine cX (xs:=[.str v.1,.tup (v.2.map dQ)]) sQ ?_;refine yX (pQ _ _) ?_
   by_cases h:v.1=x.name
   .rw [if_pos (h.trans hn.symm)] at hL
    refine nK (decide_eq_true h) ?_;refine Qt v1 (kY _) (v:=vPV v) (by rw[pE,e]; rfl) ?_;refine cX (xs:=[.str v.1,.tup (v.2.map dQ)]) (v:=.tup (v.2.map dQ)) rfl ?_;exact hL _ _ ⟨rfl,rfl⟩
   .rw [if_neg (fun z=>h (z.trans hn))] at hL
    refine kZ (decide_eq_false h) ?_;refine bX ?_;exact hL _ _ ⟨rfl,rfl⟩
 generalize hbx:mZ V y x.path=bx at l3 q;rintro ρ' C' ⟨rfl,rfl⟩
 try dsimp only
 refine yQ ?_;intro aa haa;have haa0:C aa=none:=pV g1 haa
 try dsimp only
 refine aQ (fun ρ' C''=>∃(x9 x10 x11 x12:Option PV),ρ'=[some (.tup (pts.map Pt.pv)),some (.ref vv),some x.pv,some (pX x.path),some (.str x.name),some (.tup (x.gives.map dQ)),some (.tup (x.downs.map dQ)),some (.tup (bx.map dQ)),some (.ref aa),x9,x10,x11,x12]/\C'' aa=some (.dT (yG x bx))/\Gr C C'') (fun L hL=>?_) ?_
 .refine ⟨by show 2<=sizeLine; decide,?_⟩
  refine⟨by show 2<=sizeLine; decide,?_⟩;refine⟨by show 2<=sizeLine; decide,?_⟩;refine⟨by show 3<=sizeLine; decide,fun p hp=>?_⟩;have npa:p≠aa:=fun z=>by subst z; rw[jQ] at hp; cases hp
  have hp0:C p=none:=by rw[wQ npa] at hp; exact pV g1 hp
  refine⟨4,?_⟩
  have hlen:∀i,(aM ((lF x bx).take i) []).length<=100:=by
   intro i;have f1:=oV (s:="take") x.gives [];have f2:=oV (s:="down") x.downs (uJ "take" x.gives []);have f3:=oV (s:="box") bx (uJ "down" x.downs (uJ "take" x.gives []));have f1:(uJ "take" x.gives []).length<=0+x.gives.length:=f1
   match i with
   |0=>exact Nat.zero_le _
   |1=>show(uJ "take" x.gives []).length<=100; omega
   |2=>show(uJ "down" x.downs (uJ "take" x.gives [])).length<=100; omega
   |i+3=>rw[List.take_of_length_le (by show 3<=i+3; omega)]; show(uJ "box" bx (uJ "down" x.downs (uJ "take" x.gives []))).length<=100; omega
  refine zY (xs:=(lF x bx).map srPV) (fun i ρ C'=>C' p=some (.lst ((lF x bx).map srPV))/\∃(x9 x10 x11 x12:Option PV),ρ=[some (.tup (pts.map Pt.pv)),some (.ref vv),some x.pv,some (pX x.path),some (.str x.name),some (.tup (x.gives.map dQ)),some (.tup (x.downs.map dQ)),some (.tup (bx.map dQ)),some (.ref aa),x9,x10,x11,x12]/\C' aa=some (.dT (aM ((lF x bx).take i) []))/\Gr C C') (fun _ _ _ h=>h.1) ?_ ?_ _ 0 _ _ ⟨jQ,_,_,_,_,rfl,by rw[wQ (Ne.symm npa)]; exact jQ,xW (xW g1 haa0 _) hp0 _⟩ rfl (Nat.zero_le _)
  .rintro i z ρ C3 hx ⟨m3,x9,x10,x11,x12,rfl,ma,g3⟩ L1 hL1
   rw[List.getElem?_map] at hx
   cases he:(lF x bx)[i]? with
   |none=>rw[he] at hx; cases hx
   |some e =>
   rw[he] at hx;cases hx;have hi:i < (lF x bx).length:=(List.getElem?_eq_some_iff.1 he).1
   have hel:e.2.length<=60:=by
    have hm:=List.mem_of_getElem? he;unfold lF at hm
    simp only[List.mem_cons,List.not_mem_nil,or_false] at hm
    rcases hm with rfl | rfl | rfl
    .show x.gives.length<=60; omega
    .exact l2
    .show bx.length<=60; omega
   refine⟨rfl,?_⟩;refine mX (mX (aW ?_))
   try dsimp only
   refine eG rfl ?_;refine yZ (fun zs ρ C'=>∃(us vs:List (Str×Int)) (x11 x12:Option PV),e.2=us++vs/\zs=vs.map dQ/\ρ=[some (.tup (pts.map Pt.pv)),some (.ref vv),some x.pv,some (pX x.path),some (.str x.name),some (.tup (x.gives.map dQ)),some (.tup (x.downs.map dQ)),some (.tup (bx.map dQ)),some (.ref aa),some (.str e.1),some (.tup (e.2.map dQ)),x11,x12]/\C' p=some (.lst ((lF x bx).map srPV))/\C' aa=some (.dT (uJ e.1 us (aM ((lF x bx).take i) [])))/\Gr C C') ?_ ?_ _ _ _ ⟨[],e.2,_,_,rfl,rfl,rfl,m3,ma,g3⟩
   .rintro z zs ρ C4 ⟨us,vs,y11,y12,eu,hz,rfl,m4,ma4,g4⟩ L2 hL2
    cases vs with
    |nil=>cases hz
    |cons v vs =>
    obtain⟨rfl,rfl⟩:=List.cons.inj hz;refine⟨rfl,?_⟩;refine mX (mX (aW ?_))
    try dsimp only
    refine⟨by show 2<=sizeLine; decide,?_⟩;have hul:us.length<=e.2.length:=by rw[eu,List.length_append]; omega
    refine Zm (k:=qK e.1 v.1) ma4 rfl (by have:=oV (s:=e.1) us (aM ((lF x bx).take i) []); have:=hlen i; omega) ?_;refine hL2 _ _ ⟨us++[v],vs,_,_,by rw[List.append_assoc]; exact eu,rfl,rfl,by rw[wQ npa]; exact m4,?_,xW g4 haa0 _⟩;rw[jQ];unfold uJ;rw[List.foldl_append]
    rfl
   .rintro ρ C4 ⟨us,vs,y11,y12,eu,hz,rfl,m4,ma4,g4⟩
    cases vs with
    |cons v vs=>cases hz
    |nil =>
    rw[List.append_nil] at eu;subst eu;refine hL1 _ _ ⟨m4,_,_,_,_,rfl,?_,g4⟩;rw[ma4];have et:(lF x bx).take (i+1)=(lF x bx).take i++[e]:=by rw[List.take_add_one,he]; rfl
    rw[et];unfold aM;rw[List.foldl_append]
    rfl
  .rintro ρ C3 ⟨m3,x9,x10,x11,x12,rfl,ma,g3⟩
   exact hL _ _ ⟨_,_,_,_,rfl,ma,g3⟩
 rintro ρ' C3 ⟨x9,x10,x11,x12,rfl,ma,g3⟩
 try dsimp only
 exact q aa C3 haa0 ma g3
end
structure En where
 x:Prt
 pc:Pc
def En.pv (e:En):PV:=.tup [pX e.x.path,.str e.x.name,.tup (e.x.gives.map dQ),.tup (e.x.downs.map dQ),e.pc.pv]
def eL (pts:List Pt)(nm:Str):Pt:=(pts.find? fun y=>decide (y.name=nm)).getD ⟨"",[],[],[]⟩
theorem Qv {nm:Str}:∀{pts:List Pt}{y:Pt},(yJ pts).Nodup->y∈pts->y.name=nm->eL pts nm=y
 |[],y,_,m,_=>nomatch m
 |z::pts,y,nd,m,e=>by
  have nd:(z.name::yJ pts).Nodup:=nd;rw[List.nodup_cons] at nd;unfold eL;rw[List.find?_cons]
  rcases List.mem_cons.1 m with rfl | m
  .rw [decide_eq_true e]; rfl
  .have ne:¬ z.name=nm:=fun h=>nd.1 (by rw[h,<- e]; exact List.mem_map.2 ⟨y,m,rfl⟩)
   rw[decide_eq_false ne];exact Qv nd.2 m e
def nY (pts:List Pt)(V:Vl)(x:Prt):Pc:=pcOf (yG x (mZ V (eL pts x.name) x.path)) (eL pts x.name)
def cK (x q:Prt):Prt:=⟨x.path++q.path,q.name,q.gives,pW x.downs q.downs⟩
def dr (pts:List Pt)(V:Vl):Nat->Prt->List En
 |0,_=>[]
 |n+1,x=>⟨x,nY pts V x⟩::(Wt.prts (nY pts V x).row [] []).flatMap fun q=>dr pts V n (cK x q)
structure xH (pts:List Pt)(k:Nat)(x:Prt):Prop where
 nm:(yJ pts)[k]?=some x.name
 gl:x.gives.length<=4
 gb:SBd x.gives
 db:SBd x.downs
 pl:x.path.length<=6 * k
 dl:x.downs.length<=6 * k
structure AtK (pts:List Pt)(V:Vl)(k:Nat)(x:Prt)(y:Pt):Prop where
 mem:y∈pts
 nm:y.name=x.name
 is:eL pts x.name=y
 ok:Za ((yJ pts).drop (k+1)) (eJ k) y
 ab:ABd (yG x (mZ V y x.path))
 row:Q8 ((yJ pts).drop (k+1)) 6 (nY pts V x).row
 pcs:Wt.pcs (nY pts V x).row<=eJ k
 wcs:Wt.wcs (nY pts V x).row<=48
theorem X6 {pts:List Pt}(hs:nF pts){V:Vl}(hV:VOk V){k:Nat}{x:Prt}(h:xH pts k x):∃y,AtK pts V k x y:=by
 have hk:=h.nm;unfold yJ at hk;rw[List.getElem?_map] at hk
 cases e:pts[k]? with
 |none=>rw[e] at hk; cases hk
 |some y =>
  rw[e] at hk;have hn:y.name=x.name:=Option.some.inj hk;have hm:=List.mem_of_getElem? e;have ip:=Qv hs.nd hm hn;have ok:=hs.ok k y e;have hb:=kE hV ok x.path;have ab:=ans_bd h.gb h.db hb.1;refine⟨y,hm,hn,ip,ok,ab,?_,?_,?_⟩
  .unfold nY
   rw[ip];exact row_ok ok.ls ⟨ab,(fun _ z=>nomatch z),(fun _ z=>nomatch z),by rw[List.length_map]; exact ok.fl⟩
  .unfold nY
   rw[ip];have:=yW (yG x (mZ V y x.path)) y.ls [] ([],[],[]);have this:Wt.pcs (eQ (yG x (mZ V y x.path)) y.ls [] ([],[],[])).1<=0+Ln.pws y.ls:=this;show Wt.pcs (eQ (yG x (mZ V y x.path)) y.ls [] ([],[],[])).1<=eJ k;have:=ok.pw;omega
  .unfold nY
   rw[ip];have:=wW (yG x (mZ V y x.path)) y.ls [] ([],[],[]);have this:Wt.wcs (eQ (yG x (mZ V y x.path)) y.ls [] ([],[],[])).1<=0+Ln.tws y.ls:=this;show Wt.wcs (eQ (yG x (mZ V y x.path)) y.ls [] ([],[],[])).1<=48;have:=ok.tw;omega
theorem pY {pts:List Pt}{V:Vl}{k:Nat}{x:Prt}{y:Pt}(h:xH pts k x)(ha:AtK pts V k x y){q:Prt}(hq:q∈Wt.prts (nY pts V x).row [] []):∃k',k < k'/\xH pts k' (cK x q)/\q.path≠[]/\q.path.length<=6/\q.downs.length<=6:=by
 have o:=(Qs 6 _ [] [] ha.row (fun _ z=>nomatch z)).1 q hq;obtain⟨u,e,un,ul⟩:=o.path;have e:q.path=u:=e;obtain⟨j,hj,ej⟩:=List.getElem_of_mem o.name;have hd:q.downs.length<=0+6:=o.dl;refine⟨k+1+j,by omega,⟨?_,o.gl,o.gb,h.db.over o.db,?_,?_⟩,by rw[e]; exact un,by rw[e]; exact ul,by omega⟩
 .have:((yJ pts).drop (k+1))[j]?=some q.name:=by rw[List.getElem?_eq_getElem hj,ej]
  rw[List.getElem?_drop] at this;exact this
 .show (x.path++q.path).length<=_
  rw[List.length_append,e];have:=h.pl;omega
 .have:=kF x.downs q.downs
  have:=h.dl;show(pW x.downs q.downs).length<=_;omega
theorem QK {α β:Type}{f:α->List β}{b:Nat}:∀(l:List α),(∀x∈l,(f x).length<=b)->(l.flatMap f).length<=l.length * b
 |[],_=>by simp
 |x::l,h=>by
  have h1:=QK l fun y hy=>h y (List.mem_cons_of_mem _ hy);have h2:=h x List.mem_cons_self;rw[List.flatMap_cons,List.length_append,List.length_cons,Nat.add_mul,Nat.one_mul];omega
def lbd (m k:Nat):Nat:=if k=0 then 559 else 2 ^ m - 1
theorem dr_len {pts:List Pt}(hs:nF pts){V:Vl}(hV:VOk V):∀(n k:Nat) (x:Prt),xH pts k x->(dr pts V n x).length<=lbd (pts.length - k) k:=by
 intro n
 induction n with
 |zero=>intro k x _; exact Nat.zero_le _
 |succ n ih =>
  intro k x h;obtain⟨y,ha⟩:=X6 hs hV h
  have hkl:k < pts.length:=by
   have:=(List.getElem?_eq_some_iff.1 h.nm).1;unfold yJ at this;rw[List.length_map] at this;exact this
  have hN:=hs.n6
  have h1:(dr pts V (n+1) x).length<=1+eJ k * (2 ^ (pts.length - k - 1) - 1):=by
   rw[dr,List.length_cons]
   have hf:=QK (f:=fun q=>dr pts V n (cK x q)) (b:=2 ^ (pts.length - k - 1) - 1) (Wt.prts (nY pts V x).row [] []) fun q hq=>by
    obtain⟨k',hk',dq,_⟩:=pY h ha hq;have:=ih k' (cK x q) dq;unfold lbd at this;rw[if_neg (by omega)] at this;have hp:2 ^ (pts.length - k')<=2 ^ (pts.length - k - 1):=Nat.pow_le_pow_right (by decide) (by omega);omega
   rw[tV] at hf;have:Wt.pcs (nY pts V x).row * (2 ^ (pts.length - k - 1) - 1)<=eJ k * (2 ^ (pts.length - k - 1) - 1):=Nat.mul_le_mul_right _ ha.pcs;omega
  unfold lbd;unfold eJ at h1
  split
  .next hk0 =>
   rw[if_pos hk0] at h1;have hp:2 ^ (pts.length - k - 1)<=2 ^ 5:=Nat.pow_le_pow_right (by decide) (by omega);have:(2:Nat) ^ 5=32:=rfl;omega
  .next hk0 =>
   rw[if_neg hk0] at h1;have e:pts.length - k=(pts.length - k - 1)+1:=by omega
   rw[e,Nat.pow_succ];have:1<=2 ^ (pts.length - k - 1):=Nat.one_le_two_pow;have e2:pts.length - k - 1+1 - 1=pts.length - k - 1:=by omega
   omega
theorem QN {pts:List Pt}(hs:nF pts){V:Vl}(hV:VOk V){n k:Nat}{x:Prt}(h:xH pts k x):(dr pts V n x).length<=559:=by
 have:=dr_len hs hV n k x h;unfold lbd at this
 split at this
 .exact this
 .have hN:=hs.n6
  have hp:2 ^ (pts.length - k)<=2 ^ 6:=Nat.pow_le_pow_right (by decide) (by omega);have:(2:Nat) ^ 6=64:=rfl;omega
section
variable {P:Program}{w:World}{K:PySem.W.Frag}{mg:Str->Option Value}{base:Heap}{a:Adr}
def gWi (n:Nat):GC:=fun ts C Q=>∃(pts:List Pt) (vv:Addr) (V:Vl) (x:Prt) (k:Nat),ts=[.tup (pts.map Pt.pv),.ref vv,x.pv]/\nF pts/\VOk V/\C vv=some (.dP (vlP V))/\xH pts k x/\pts.length<=k+n /\
 ∀p C',C p=none->C' p=some (.lst ((dr pts V n x).map En.pv))->Gr C C'->Q (.ref p) C'
theorem Xq (T:Txt P w K mg a)(n:Nat):FnOk P w K mg base CX0 (n+30) (a.f 29) (a.d 29) U2 (spC K (gWi n)):=by
 induction n with
 |zero =>
  refine mJ fun ts C Q ⟨pts,vv,V,x,k,_,_,_,_,d,l,_⟩=>?_;have:=(List.getElem?_eq_some_iff.1 d.nm).1;unfold yJ at this;rw[List.length_map] at this;omega
 |succ n ih =>
 have S:=(T.F 29 rfl).s;have lY:=(jP (base:=base) T).mono (show 1<=n+30 by omega);have bE:=(vA (base:=base) T).mono (show 2<=n+30 by omega);have G_drawn:=(Ji (base:=base) T).mono (show 29<=n+30 by omega);have sU:=(Z9 (base:=base) T 6).mono (show 8<=n+30 by omega);have jH:=(Qy (base:=base) T).mono (show 1<=n+30 by omega);have mB:=ih
 refine(T.F 29 rfl).ok (fun ts C R h=>?_) fun cdv A outer s H E hr=>⟨_,(xQ (cs1 3 S.nd (cf (T.F 8 rfl) G_drawn hr (qQ (cf (T.F 27 rfl) lY hr (qQ (cv 0) (ca1 (cx (cv 2) zQ)))) (ca1 (cf (T.F 28 rfl) bE hr (qQ (cv 0) (qQ (cv 1) (ca1 (cv 2)))))))))
  (xQ (cs1 4 S.nd (gX (ca1 (rQ oQ tQ (cv 2) (mQ (ca1 (cv 3)))))))
  (xQ (dU PassesOwn.never rfl (cf (T.F 26 rfl) sU hr (qQ (cx (cv 3) zQ) (qQ (mQ iX) (ca1 (mQ iX))))) (iW rfl (kX (cg1 5 S.nd) (kX (cg1 6 S.nd) (kX (cg1 7 S.nd) (kX (cg1 8 S.nd) tK))))) (kQ (cs1 4 S.nd (rQ oQ tQ (cv 4) (cf (T.F 29 rfl) mB hr (qQ (cv 0) (qQ (cv 1) (ca1 (mQ (qQ (rQ oQ tQ (cx (cv 2) zQ) (cv 5)) (qQ (cv 6) (qQ (cv 7) (ca1 (cf (T.F 25 rfl) jH hr (qQ (cx (cv 2) zQ) (ca1 (cv 8)))))))))))))))))
  (kQ (bQ (cv 4)))))),?_⟩
 .obtain ⟨pts,vv,V,x,k,rfl,_⟩:=h; rfl
 rintro ts C R ⟨pts,vv,V,x,k,rfl,hs,hV,hv,du,hn,q⟩;obtain⟨y,ha⟩:=X6 hs hV du
 have hkl:k < pts.length:=by
  have:=(List.getElem?_eq_some_iff.1 du.nm).1;unfold yJ at this;rw[List.length_map] at this;exact this
 have hN:=hs.n6;have hx:x.pv=.tup [pX x.path,.str x.name,.tup (x.gives.map dQ),.tup (x.downs.map dQ)]:=rfl;have hb:=kE hV ha.ok x.path;refine yQ ?_;refine dX hx (v:=.str x.name) rfl ?_;refine⟨pts,y,by rw[ha.nm],hN,hs.nd,ha.mem,fun C1 g1=>?_⟩;refine⟨pts,vv,V,x,y,rfl,hN,hs.nd,ha.mem,ha.nm,g1 _ _ hv,⟨du.gl,by have:=du.dl; omega,hb.2⟩,fun aa C2 na ma g2=>?_⟩;refine⟨y,aa,_,_,_,rfl,ha.ok,ma,ha.ab,fun C3 g3=>?_⟩
 have ep:pcOf (yG x (mZ V y x.path)) y=nY pts V x:=by unfold nY; rw[ha.is]
 rw[ep]
 try dsimp only
 generalize hpc:nY pts V x=pc;have rowk:=ha.row;have pck:=ha.pcs;rw[hpc] at rowk pck;refine yQ ?_;refine⟨by show 1<=sizeLine; decide,?_⟩;refine kU (by show 4+1<=sizeLine; decide) ?_;refine⟨by show 1<=sizeLine; decide,fun f0 hf0=>?_⟩;have g03:Gr C C3:=(g1.trans g2).trans g3;have nf0:C f0=none:=pV g03 hf0;have g4:Gr C (gQ C3 f0 (.lst [En.pv ⟨x,pc⟩])):=xW g03 nf0 _;have m4:gQ C3 f0 (.lst [En.pv ⟨x,pc⟩]) f0=some (.lst [En.pv ⟨x,pc⟩]):=jQ
 show jE _ _ _ _ (gQ C3 f0 (.lst [En.pv ⟨x,pc⟩]));generalize gQ C3 f0 (.lst [En.pv ⟨x,pc⟩])=C4 at g4 m4 ⊢
 try dsimp only
 refine xZ ?_;refine cX (xs:=[.tup (pc.reads.map aB),.tup (Wt.pvs pc.row),.tup (pc.works.map dQ)]) (v:=.tup (Wt.pvs pc.row)) rfl ?_;refine⟨by show 0<=sizeLine; decide,?_⟩;refine⟨by show 0<=sizeLine; decide,?_⟩;have hcap:eJ k<=18:=by unfold eJ; split<;>decide
 refine⟨pc.row,[],[],_,rfl,rowk,by show 0+6<=50; decide,by show 0+6<=50; decide,by omega,fun pl C5 npl m5 g5=>?_⟩;have hpl:C pl=none:=pV g4 npl;have g45:Gr C C5:=g4.trans g5;refine⟨(Wt.prts pc.row [] []).length+1,?_⟩;have etot:dr pts V (n+1) x=⟨x,pc⟩::(Wt.prts pc.row [] []).flatMap fun q=>dr pts V n (cK x q):=by rw[dr,hpc]
 have hlen:=QN hs hV (n:=n+1) du;refine zY (xs:=(Wt.prts pc.row [] []).map Prt.pv) (fun i ρ C'=>C' pl=some (.lst ((Wt.prts pc.row [] []).map Prt.pv))/\∃(ff:Addr) (x5 x6 x7 x8:Option PV),i<=(Wt.prts pc.row [] []).length/\ρ=[some (.tup (pts.map Pt.pv)),some (.ref vv),some x.pv,some pc.pv,some (.ref ff),x5,x6,x7,x8]/\C ff=none/\C' ff=some (.lst ((⟨x,pc⟩::((Wt.prts pc.row [] []).take i).flatMap fun q=>dr pts V n (cK x q)).map En.pv))/\Gr C C') (fun _ _ _ h=>h.1) ?_ ?_ _ 0 _ _ ⟨m5,f0,_,_,_,_,Nat.zero_le _,rfl,nf0,g5 _ _ m4,g45⟩ (by rw[List.length_map]; omega) (Nat.zero_le _)
 .rintro i z ρ C6 hz ⟨m6,ff,x5,x6,x7,x8,hi,rfl,nff,mf,g6⟩ L hL
  rw[List.getElem?_map] at hz
  cases he:(Wt.prts pc.row [] [])[i]? with
  |none=>rw[he] at hz; cases hz
  |some pq =>
  rw[he] at hz;cases hz;have hmem:pq∈Wt.prts pc.row [] []:=List.mem_of_getElem? he;have hi':i < (Wt.prts pc.row [] []).length:=(List.getElem?_eq_some_iff.1 he).1;obtain⟨k',hk',dq,pn,pl6,dl6⟩:=pY du ha (q:=pq) (by rw[hpc]; exact hmem);refine⟨rfl,?_⟩;refine mX (mX (mX (mX (aW ?_))))
  try dsimp only
  refine dX hx (v:=pX x.path) rfl ?_;have hpl2:=du.pl;have hdl2:=du.dl;refine kU (eY (by rw[List.length_map,List.length_map]; omega)) ?_;refine dX hx (v:=.tup (x.downs.map dQ)) rfl ?_;refine⟨x.downs,pq.downs,rfl,by omega,fun C7 g7=>⟨by show 4<=sizeLine; decide,?_⟩⟩
  have ec:PV.tup [PV.tup (x.path.map zV++pq.path.map zV),.str pq.name,.tup (pq.gives.map dQ),.tup ((pW x.downs pq.downs).map dQ)]=(cK x pq).pv:=by
   unfold cK Prt.pv pX;rw[List.map_append]
  rw[ec];refine⟨pts,vv,V,cK x pq,k',rfl,hs,hV,g7 _ _ (g6 _ _ hv),dq,by omega,fun p8 C8 n8 m8 g8=>?_⟩;have et:(Wt.prts pc.row [] []).take (i+1)=(Wt.prts pc.row [] []).take i++[pq]:=by rw[List.take_add_one,he]; rfl
  have en:(⟨x,pc⟩::((Wt.prts pc.row [] []).take (i+1)).flatMap fun q=>dr pts V n (cK x q)).map En.pv=(⟨x,pc⟩::((Wt.prts pc.row [] []).take i).flatMap fun q=>dr pts V n (cK x q)).map En.pv++(dr pts V n (cK x pq)).map En.pv:=by
   rw[et,List.flatMap_append,List.flatMap_cons,List.flatMap_nil,List.append_nil,<- List.map_append]
   rfl
  have hle:((⟨x,pc⟩::((Wt.prts pc.row [] []).take (i+1)).flatMap fun q=>dr pts V n (cK x q)):List En).length<=559:=by
   refine Nat.le_trans ?_ hlen;rw[etot,List.length_cons,List.length_cons]
   have:((Wt.prts pc.row [] []).flatMap fun q=>dr pts V n (cK x q))=(((Wt.prts pc.row [] []).take (i+1)).flatMap fun q=>dr pts V n (cK x q))++((Wt.prts pc.row [] []).drop (i+1)).flatMap fun q=>dr pts V n (cK x q):=by
    rw[<- List.flatMap_append,List.take_append_drop]
   rw[this,List.length_append];omega
  refine vU (g8 _ _ (g7 _ _ mf)) m8 (eY ?_) fun p9 p90=>?_
  .rw [<- List.length_append,<- en,List.length_map]; omega
  have g68:Gr C C8:=(g6.trans g7).trans g8;refine hL _ _ ⟨Gr.new p90 _ _ _ (g8 _ _ (g7 _ _ m6)),p9,_,_,_,_,hi',rfl,pV g68 p90,by rw[jQ,en],g68.trans (Gr.new p90 _)⟩
 .rintro ρ C6 ⟨m6,ff,x5,x6,x7,x8,hi,rfl,nff,mf,g6⟩
  refine q ff C6 nff ?_ g6;rw[mf,etot,List.length_map,List.take_of_length_le (Nat.le_refl _)]
end
theorem dr_mem {pts:List Pt}(hs:nF pts){V:Vl}(hV:VOk V):∀(n k:Nat) (x:Prt),xH pts k x->∀e∈dr pts V n x,∃k',xH pts k' e.x/\e.pc=nY pts V e.x:=by
 intro n
 induction n with
 |zero=>intro k x _ e he; exact nomatch he
 |succ n ih =>
  intro k x h e he;rw[dr] at he
  rcases List.mem_cons.1 he with rfl | he
  .exact ⟨k,h,rfl⟩
  .obtain ⟨q,hq,he⟩:=List.mem_flatMap.1 he
   obtain⟨y,ha⟩:=X6 hs hV h;obtain⟨k',_,dq,_⟩:=pY h ha hq;exact ih k' _ dq e he
theorem Ki {pts:List Pt}{V:Vl}:∀(n:Nat) (x:Prt),∀e∈dr pts V n x,∃u,e.x.path=x.path++u:=by
 intro n
 induction n with
 |zero=>intro x e he; exact nomatch he
 |succ n ih =>
  intro x e he;rw[dr] at he
  rcases List.mem_cons.1 he with rfl | he
  .exact ⟨[],by rw[List.append_nil]⟩
  .obtain ⟨q,hq,he⟩:=List.mem_flatMap.1 he
   obtain⟨u,eu⟩:=ih _ e he;exact⟨q.path++u,by rw[eu]; show(x.path++q.path)++u=_; rw[List.append_assoc]⟩
def eZ (es:List En):List nQ:=es.map fun e=>e.x.path
theorem QJ {α:Type}{f:α->List En}{g:α->nQ}:∀(l:List α),l.Pairwise (fun x y=>Div (g x) (g y))->(∀x∈l,(eZ (f x)).Nodup/\∀e∈f x,∃u,e.x.path=g x++u)->(eZ (l.flatMap f)).Nodup
 |[],_,_=>List.nodup_nil
 |x::l,hp,h=>by
  rw[List.pairwise_cons] at hp;have ih:=QJ l hp.2 fun y hy=>h y (List.mem_cons_of_mem _ hy);obtain⟨h1,h2⟩:=h x List.mem_cons_self;unfold eZ at *
  rw[List.flatMap_cons,List.map_append,List.nodup_append];refine⟨h1,ih,fun a ha b hb e=>?_⟩;obtain⟨e1,he1,rfl⟩:=List.mem_map.1 ha;obtain⟨e2,he2,rfl⟩:=List.mem_map.1 hb;obtain⟨y,hy,he2⟩:=List.mem_flatMap.1 he2;obtain⟨u,eu⟩:=h2 e1 he1;obtain⟨v,ev⟩:=(h y (List.mem_cons_of_mem _ hy)).2 e2 he2;have d:=(hp.1 y hy).ext u v;rw[<- eu,<- ev] at d;exact d.ne e
theorem Kj {pts:List Pt}(hs:nF pts){V:Vl}(hV:VOk V):∀(n k:Nat) (x:Prt),xH pts k x->(eZ (dr pts V n x)).Nodup:=by
 intro n
 induction n with
 |zero=>intro k x _; exact List.nodup_nil
 |succ n ih =>
  intro k x h;obtain⟨y,ha⟩:=X6 hs hV h;rw[dr];show(x.path::eZ _).Nodup;rw[List.nodup_cons];have pw:=(Qs 6 _ [] [] ha.row (fun _ z=>nomatch z)).2;refine⟨fun hm=>?_,?_⟩
  .obtain ⟨e,he,ee⟩:=List.mem_map.1 hm
   obtain⟨q,hq,he⟩:=List.mem_flatMap.1 he;obtain⟨u,eu⟩:=Ki n _ e he;obtain⟨k',_,_,qn,_⟩:=pY h ha hq;rw[eu] at ee;have ee:(x.path++q.path)++u=x.path:=ee;have:=congrArg List.length ee;rw[List.length_append,List.length_append] at this;have:0 < q.path.length:=List.length_pos_iff.2 qn;omega
  .refine QJ (g:=fun q=>(cK x q).path) _ (pw.imp fun {a b} d=>?_) fun q hq=>?_
   .obtain ⟨c,u,v,p',q',e1,e2,n⟩:=d
    exact⟨x.path++c,u,v,p',q',by show x.path++a.path=_; rw[e1,List.append_assoc],by show x.path++b.path=_; rw[e2,List.append_assoc],n⟩
   .obtain ⟨k',_,dq,_⟩:=pY h ha hq
    exact⟨ih k' _ dq,Ki n _⟩
def root (pts:List Pt):Prt:=⟨[],(pts.head?.map (·.name)).getD "",[],[]⟩
theorem bV {pts:List Pt}(hs:nF pts):xH pts 0 (root pts):=by
 have:=hs.n1
 cases pts with
 |nil=>exact absurd this (by show ¬ 1<=0; omega)
 |cons y pts=>exact⟨rfl,Nat.zero_le _,(fun _ z=>nomatch z),(fun _ z=>nomatch z),Nat.zero_le _,Nat.zero_le _⟩
def dZ (pts:List Pt)(V:Vl):List En:=dr pts V 6 (root pts)
def uC (V:Vl)(p:nQ)(v:Str×List (Str×Int)):Vl:=if (V.any fun e=>decide (e.1=p))=true then V.map fun e=>if e.1=p then (e.1,v) else e else V++[(p,v)]
theorem ZI (V:Vl)(p:nQ)(v:Str×List (Str×Int)):putG (vlP V) p (vPV v)=vlP (uC V p v):=by
 have h1:((vlP V).any fun kv=>decide (kv.1=p))=V.any fun e=>decide (e.1=p):=by
  unfold vlP;rw[List.any_map]
  rfl
 unfold putG uC;rw[h1]
 split
 .unfold vlP
  rw[List.map_map,List.map_map];refine List.map_congr_left fun e _=>?_;show(if e.1=p then (e.1,vPV v) else (e.1,vPV e.2))=((if e.1=p then (e.1,v) else e).1,vPV (if e.1=p then (e.1,v) else e).2)
  split<;>rfl
 .unfold vlP
  rw[List.map_append]
  rfl
theorem Qq {V:Vl}(h:VOk V)(p:nQ){v:Str×List (Str×Int)}(hb:SBd v.2)(hl:v.2.length<=4):VOk (uC V p v):=by
 have:∀e∈uC V p v,e.2=v\/e∈V:=by
  intro e he;unfold uC at he
  split at he
  .obtain ⟨x,hx,rfl⟩:=List.mem_map.1 he
   split
   .exact .inl rfl
   .exact .inr hx
  .rcases List.mem_append.1 he with he | he
   .exact .inr he
   .cases List.mem_singleton.1 he; exact .inl rfl
 refine⟨fun e he=>?_,fun e he=>?_⟩
 .rcases this e he with z | z
  .rw [z]; exact hb
  .exact h.b e z
 .rcases this e he with z | z
  .rw [z]; exact hl
  .exact h.l e z
theorem ZL (V:Vl)(p:nQ)(v:Str×List (Str×Int)):(uC V p v).length<=V.length+1:=by
 unfold uC
 split
 .rw [List.length_map]; omega
 .rw [List.length_append,List.length_singleton]; exact Nat.le_refl _
theorem VOk.nil:VOk []:=⟨fun _ z=>(nomatch z),fun _ z=>(nomatch z)⟩
section
variable {P:Program}{w:World}{K:PySem.W.Frag}{mg:Str->Option Value}{base:Heap}{a:Adr}
def gFresh:GC:=fun ts C Q=>∃(pts:List Pt) (vv:Addr) (V:Vl),ts=[.tup (pts.map Pt.pv),.ref vv]/\nF pts/\VOk V/\C vv=some (.dP (vlP V))/\∀p C',C p=none->C' p=some (.lst ((dZ pts V).map En.pv))->Gr C C'->Q (.ref p) C'
theorem gT (T:Txt P w K mg a):FnOk P w K mg base CX0 37 (a.f 30) (a.d 30) U9 (spC K gFresh):=by
 have S:=(T.F 30 rfl).s;have mB:=Xq (base:=base) T 6;refine(T.F 30 rfl).ok (fun ts C R h=>?_) fun cdv A outer s H E hr=>⟨_,(kQ (bQ (cf (T.F 29 rfl) mB hr (qQ (cv 0) (qQ (cv 1) (ca1 (mQ (qQ (mQ iX) (qQ (cx (cx (cv 0) zQ) zQ) (qQ (mQ iX) (ca1 (mQ iX)))))))))))),?_⟩
 .obtain ⟨pts,vv,V,rfl,_⟩:=h; rfl
 rintro ts C R ⟨pts,vv,V,rfl,hs,hV,hv,q⟩;have h6:=hs.n6;have rk:=bV hs
 cases pts with
 |nil=>exact absurd hs.n1 (by show ¬ 1<=0; omega)
 |cons y pts =>
 refine⟨by show 0<=sizeLine; decide,?_⟩;refine cX (xs:=(y::pts).map Pt.pv) (v:=y.pv) sQ ?_;refine cX (xs:=[.str y.name,.tup (y.first.map dQ),.tup (y.works.map eV),.tup (Ln.pvs y.ls)]) sQ ?_;refine⟨by show 0<=sizeLine; decide,?_⟩;refine⟨by show 0<=sizeLine; decide,?_⟩;refine⟨by show 4<=sizeLine; decide,?_⟩;exact⟨y::pts,vv,V,root (y::pts),0,rfl,hs,hV,hv,rk,by omega,fun p C' np mp g=>q p C' np mp g⟩
def gBoxes:GC:=fun ts C Q=>∃(t:Addr) (y:Pt) (ns:List Int),ts=[.ref t,y.pv]/\Tp C t ns/\y.first.length<=4/\∀bs C',SBd bs->bs.length<=4->Tp C' t ns->Ex t C C'->Q (.tup (bs.map dQ)) C'
theorem Jk (T:Txt P w K mg a):FnOk P w K mg base CX0 3 (a.f 31) (a.d 31) U5 (spC K gBoxes):=by
 have S:=(T.F 31 rfl).s;have lJ:=bU (base:=base) T;refine(T.F 31 rfl).ok (fun ts C R h=>?_) fun cdv A outer s H E hr=>⟨_,(kQ (bQ (ctp T.qZ (KF rfl (show(["_law_name","_law_first","_law_tape_here","_law_part_here"]:List Str).Nodup by decide +kernel) (lP (N:=U5) (sc:=uX (top 40)) rfl rfl rfl (by decide +kernel)) (kG (cx (cv 1) zQ)) (fun _ _ _ _ _=>xJ) (fun _ _ _ _ _=>(mQ (qQ (cv 0) (ca1 (cf (T.F 12 rfl) lJ hr (ca1 (cv 2))))))))))),?_⟩
 .obtain ⟨t,y,ns,rfl,_⟩:=h; rfl
 rintro ts C R ⟨t,y,ns,rfl,hT,hl,q⟩;refine cX (xs:=[.str y.name,.tup (y.first.map dQ),.tup (y.works.map eV),.tup (Ln.pvs y.ls)]) (v:=.tup (y.first.map dQ)) rfl ?_;refine XY (fun zs acc C'=>∃(us:List (Str×Int)) (bs:List (Str×Int)),zs=us.map dQ/\acc=bs.map dQ/\SBd bs/\bs.length+us.length=y.first.length/\Tp C' t ns/\Ex t C C') ?_ ?_ _ _ _ ⟨y.first,[],rfl,rfl,(fun _ z=>nomatch z),Nat.zero_add _,hT,Ex.refl⟩
 .rintro z zs acc C1 ⟨us,bs,hz,rfl,hb,hlen,T1,e1⟩
  cases us with
  |nil=>cases hz
  |cons u us =>
  obtain⟨rfl,rfl⟩:=List.cons.inj hz;refine⟨[.str u.1,.int u.2],rfl,rfl,fun L hL=>?_⟩;rw[List.length_cons] at hlen;refine⟨t,ns,rfl,T1,fun i C2 i0 i1 T2 e2=>⟨by show 2<=sizeLine; decide,hL _ _ ⟨?_,us,bs++[(u.1,i)],rfl,by rw[List.map_append]; rfl,fun c hc=>?_,by rw[List.length_append,List.length_singleton]; omega,T2,e1.trans e2⟩⟩⟩
  .rw [List.length_map]
   exact Nat.lt_of_lt_of_le (show bs.length < 5 by omega) (by decide)
  .rcases List.mem_append.1 hc with hc | hc
   .exact hb c hc
   .cases List.mem_singleton.1 hc; exact⟨i0,i1⟩
 .rintro acc C1 ⟨us,bs,hz,rfl,hb,hlen,T1,e1⟩ p hp
  cases us with
  |cons u us=>cases hz
  |nil =>
  have hlen:bs.length+0=y.first.length:=hlen;refine rJ jQ ?_;exact q bs _ hb (by omega) (T1.new hp _) (e1.trans (Ex.new hp _))
def gValues:GC:=fun ts C Q=>∃(t:Addr) (pts:List Pt) (ns:List Int),ts=[.ref t,.tup (pts.map Pt.pv)]/\Tp C t ns/\nF pts/\∀vv V C',VOk V->C vv=none->C' vv=some (.dP (vlP V))->vv≠t->Tp C' t ns->Ex t C C'->Q (.ref vv) C'
theorem Xr (T:Txt P w K mg a):FnOk P w K mg base CX0 38 (a.f 32) (a.d 32) U16 (spC K gValues):=by
 have S:=(T.F 32 rfl).s;have oU:=gT (base:=base) T;have uQ:=(rZ (base:=base) T).mono (show 1<=37 by decide);have lY:=(jP (base:=base) T).mono (show 1<=37 by decide);have jC:=(Jk (base:=base) T).mono (show 3<=37 by decide);have lJ:=(bU (base:=base) T).mono (show 2<=37 by decide)
 refine(T.F 32 rfl).ok (fun ts C R h=>?_) fun cdv A outer s H E hr=>⟨_,(xQ (cs1 2 S.nd eD)
  (xQ (dU PassesOwn.never rfl (cf (T.F 30 rfl) oU hr (qQ (cv 1) (ca1 eD))) (iW rfl (kX (cg1 3 S.nd) (kX (cg1 4 S.nd) (kX (cg1 5 S.nd) (kX (cg1 6 S.nd) (kX (cg1 7 S.nd) tK)))))) (xQ (cs1 8 S.nd (cf (T.F 10 rfl) uQ hr (qQ (cv 0) (ca1 zQ))))
  (kQ (wX (ct2 kM jG (cv 8) zQ) (xQ (cs1 9 S.nd (cf (T.F 27 rfl) lY hr (qQ (cv 1) (ca1 (cv 4)))))
  (xQ (wX (ct2 hX jX (cv 8) zQ) (kQ (cs1 9 S.nd (cx (cv 1) (cf (T.F 10 rfl) uQ hr (qQ (cv 0) (ca1 (cln T.bJ (cv 1)))))))) qX)
  (kQ (uR (aY hr) (cv 2) (cv 3) (mQ (qQ (cx (cv 9) zQ) (ca1 (cf (T.F 31 rfl) jC hr (qQ (cv 0) (ca1 (cv 9))))))))))) qX))))
  (xQ (wX (ct2 hX jX (cf (T.F 10 rfl) uQ hr (qQ (cv 0) (ca1 zQ))) zQ) (xQ (cs1 9 S.nd (cx (cv 1) (cf (T.F 10 rfl) uQ hr (qQ (cv 0) (ca1 (cln T.bJ (cv 1)))))))
  (kQ (uR (aY hr) (cv 2) (mQ (ca1 (mQ (qQ (cf (T.F 12 rfl) lJ hr (ca1 (cv 0))) (ca1 (cf (T.F 10 rfl) uQ hr (qQ (cv 0) (ca1 zQ)))))))) (mQ (qQ (cx (cv 9) zQ) (ca1 (cf (T.F 31 rfl) jC hr (qQ (cv 0) (ca1 (cv 9)))))))))) qX)
  (kQ (bQ (cv 2)))))),?_⟩
 .obtain ⟨t,pts,ns,rfl,_⟩:=h; rfl
 rintro ts C R ⟨t,pts,ns,rfl,hT,hs,q⟩;have h6:=hs.n6;have h1:=hs.n1;refine yQ ?_;intro vv hvv;have nvt:=hT.ne hvv
 try dsimp only
 refine aQ (fun ρ' C'=>∃(V:Vl) (x3 x4 x5 x6 x7 x8 x9:Option PV),ρ'=[some (.ref t),some (.tup (pts.map Pt.pv)),some (.ref vv),x3,x4,x5,x6,x7,x8,x9]/\VOk V/\V.length<=559/\C' vv=some (.dP (vlP V))/\Tp C' t ns/\Ex t C C') (fun L0 hL0=>?_) ?_
 rotate_left
 .rintro ρ' C3 ⟨V,x3,x4,x5,x6,x7,x8,x9,rfl,hV,hVl,mv,T3,e3⟩
  try dsimp only
  refine aQ (fun ρ' C'=>∃(V:Vl) (x9:Option PV),ρ'=[some (.ref t),some (.tup (pts.map Pt.pv)),some (.ref vv),x3,x4,x5,x6,x7,x8,x9]/\VOk V/\C' vv=some (.dP (vlP V))/\Tp C' t ns/\Ex t C C') (fun L0 hL0=>?_) ?_
  .refine ⟨t,3,ns,rfl,T3,by decide,by decide,fun v C4 v00 v01 T4 e4=>?_⟩
   have mv4:=e4 _ _ nvt mv;refine yX (zZ _ _) ?_;refine pZ (fun hb=>?_) fun hb=>?_
   .refine yQ ?_
    refine uN ?_;rw[List.length_map];refine⟨t,_,ns,rfl,T4,by omega,by omega,fun j C6 j0 j1 T6 e6=>?_⟩
    obtain⟨y0,hy0⟩:∃y0,y0∈pts:=by
     cases pts with
     |nil=>exact absurd h1 (by show ¬ 1<=0; omega)
     |cons y _=>exact⟨y,List.mem_cons_self⟩
    refine cX (yK (f:=Pt.pv) (ss:=pts) y0 j0 j1) ?_
    have hzp:pts.getD j.toNat y0∈pts:=by
     rw[List.getD_eq_getElem?_getD,List.getElem?_eq_getElem (by omega)];exact List.getElem_mem _
    generalize pts.getD j.toNat y0=zp at hzp ⊢
    have hzl:zp.first.length<=4:=by
     obtain⟨j,hj,ej⟩:=List.getElem_of_mem hzp;exact(hs.ok j zp (by rw[List.getElem?_eq_getElem hj,ej])).fl
    try dsimp only
    refine cX (xs:=[.str zp.name,.tup (zp.first.map dQ),.tup (zp.works.map eV),.tup (Ln.pvs zp.ls)]) sQ ?_;refine⟨t,zp,ns,rfl,T6,hzl,fun bs C7 hbs hbl T7 e7=>⟨by show 2<=sizeLine; decide,?_⟩⟩;refine⟨t,ns,rfl,T7,fun i C8 i0 i1 T8 e8=>?_⟩;refine⟨t,3,ns,rfl,T8,by decide,by decide,fun w C9 w0 w1 T9 e9=>?_⟩;refine⟨by show 2<=sizeLine; decide,?_⟩;refine⟨by show 1<=sizeLine; decide,?_⟩;have e49:Ex t C4 C9:=fun b o n h=>e9 b o n (e8 b o n (e7 b o n (e6 b o n h)))
    have mv9:=e49 _ _ nvt mv4;refine iE (k:=[[.inl (some i),.inl (some w)]]) mv9 rfl (by unfold vlP; rw[List.length_map]; omega) ?_;rw[show PV.tup [PV.str zp.name,PV.tup (bs.map dQ)]=vPV (zp.name,bs) from rfl,ZI];refine hL0 _ _ ⟨uC V [[.inl (some i),.inl (some w)]] (zp.name,bs),_,rfl,Qq hV _ hbs hbl,jQ,T9.put nvt _,?_⟩;have x9:Ex t C C9:=(e3.trans e4).trans e49;exact x9.put hvv _
   .refine bX ?_
    exact hL0 _ _ ⟨V,_,rfl,hV,mv4,T4,e3.trans e4⟩
  .rintro ρ' C4 ⟨V,x9,rfl,hV,mv,T4,e4⟩
   try dsimp only
   exact q vv V C4 hV hvv mv nvt T4 e4
 intro v0 hv0;have nv0:vv≠v0:=fun z=>by subst z; rw[jQ] at hv0; cases hv0
 have T1:=(hT.new hvv (.dP [])).new hv0 (.dP []);have g1:Gr C (gQ (gQ C vv (.dP [])) v0 (.dP [])):=(Gr.new hvv _).trans (Gr.new hv0 _);refine⟨pts,v0,[],rfl,hs,VOk.nil,jQ,fun p C2 np mp g2=>?_⟩
 have T2:Tp C2 t ns:=by
  obtain⟨⟨a1,b1,c1,e1,r1⟩,l1⟩:=T1;exact⟨⟨a1,b1,c1,g2 _ _ e1,r1⟩,l1⟩
 have npt:p≠t:=T1.ne np;have npv:p≠vv:=fun z=>by rw[z,wQ nv0,jQ] at np; cases np
 have mv2:C2 vv=some (.dP (vlP [])):=g2 _ _ (by rw[wQ nv0]; exact jQ);have g12:Gr C C2:=g1.trans g2;have e02:Ex t C C2:=fun b o _ h=>g12 b o h;have hlen:(dZ pts []).length<=559:=QN hs VOk.nil (bV hs);refine⟨(dZ pts []).length+1,?_⟩;refine zY (xs:=(dZ pts []).map En.pv) (fun i ρ C'=>C' p=some (.lst ((dZ pts []).map En.pv))/\∃(V:Vl) (x3 x4 x5 x6 x7 x8 x9:Option PV),ρ=[some (.ref t),some (.tup (pts.map Pt.pv)),some (.ref vv),x3,x4,x5,x6,x7,x8,x9]/\VOk V/\V.length<=i/\i<=(dZ pts []).length/\C' vv=some (.dP (vlP V))/\Tp C' t ns/\Ex t C C') (fun _ _ _ h=>h.1) ?_ ?_ _ 0 _ _ ⟨mp,[],_,_,_,_,_,_,_,rfl,VOk.nil,Nat.le_refl _,Nat.zero_le _,mv2,T2,e02⟩ (by rw[List.length_map]; omega) (Nat.zero_le _)
 .rintro i z ρ C3 hz ⟨m3,V,x3,x4,x5,x6,x7,x8,x9,rfl,hV,hVl,hi,mv,T3,e3⟩ L hL
  rw[List.getElem?_map] at hz
  cases he:(dZ pts [])[i]? with
  |none=>rw[he] at hz; cases hz
  |some en =>
  rw[he] at hz;cases hz;have hmem:=List.mem_of_getElem? he;have hi':i < (dZ pts []).length:=(List.getElem?_eq_some_iff.1 he).1;obtain⟨k',du,_⟩:=dr_mem hs VOk.nil 6 0 _ (bV hs) en hmem;obtain⟨y,ha⟩:=X6 hs VOk.nil du;refine⟨rfl,?_⟩;refine mX (mX (mX (mX (mX (aW ?_)))))
  try dsimp only
  refine yQ ?_;refine⟨t,6,ns,rfl,T3,by decide,by decide,fun v C4 v00 v01 T4 e4=>?_⟩
  try dsimp only
  have m4:=e4 _ _ npt m3;have mv4:=e4 _ _ nvt mv;refine i_i ?_;refine pZ (fun hb=>?_) fun hb=>?_
  .refine yQ ?_
   refine⟨pts,y,by rw[ha.nm],h6,hs.nd,ha.mem,fun C5 g5=>?_⟩
   have T5:Tp C5 t ns:=by
    obtain⟨⟨a1,b1,c1,e1,r1⟩,l1⟩:=T4;exact⟨⟨a1,b1,c1,g5 _ _ e1,r1⟩,l1⟩
   try dsimp only
   refine aQ (fun ρ' C'=>∃z∈pts,ρ'=[some (.ref t),some (.tup (pts.map Pt.pv)),some (.ref vv),some (pX en.x.path),some (.str en.x.name),some (.tup (en.x.gives.map dQ)),some (.tup (en.x.downs.map dQ)),some en.pc.pv,some (.int v),some z.pv]/\Tp C' t ns/\Ex t C5 C') (fun L1 hL1=>?_) ?_
   .refine yX (zZ _ _) ?_
    refine pZ (fun hb2=>?_) fun hb2=>?_
    .refine uN ?_
     rw[List.length_map];refine⟨t,_,ns,rfl,T5,by omega,by omega,fun j C6 j0 j1 T6 e6=>?_⟩;refine cX (yK (f:=Pt.pv) (ss:=pts) y j0 j1) ?_;refine hL1 _ _ ⟨pts.getD j.toNat y,?_,rfl,T6,e6⟩;rw[List.getD_eq_getElem?_getD,List.getElem?_eq_getElem (by omega)];exact List.getElem_mem _
    .refine bX ?_
     exact hL1 _ _ ⟨y,ha.mem,rfl,T5,Ex.refl⟩
   rintro ρ' C6 ⟨zp,hzp,rfl,T6,e6⟩
   try dsimp only
   have hzl:zp.first.length<=4:=by
    obtain⟨j,hj,ej⟩:=List.getElem_of_mem hzp;exact(hs.ok j zp (by rw[List.getElem?_eq_getElem hj,ej])).fl
   refine cX (xs:=[.str zp.name,.tup (zp.first.map dQ),.tup (zp.works.map eV),.tup (Ln.pvs zp.ls)]) sQ ?_;refine⟨t,zp,ns,rfl,T6,hzl,fun bs C7 hbs hbl T7 e7=>⟨by show 2<=sizeLine; decide,?_⟩⟩;have mv7:=e7 _ _ nvt (e6 _ _ nvt (g5 _ _ mv4));have m7:=e7 _ _ npt (e6 _ _ npt (g5 _ _ m4));refine iE mv7 (kY _) (by unfold vlP; rw[List.length_map]; omega) ?_;rw[show PV.tup [PV.str zp.name,PV.tup (bs.map dQ)]=vPV (zp.name,bs) from rfl,ZI]
   refine hL _ _ ⟨by rw[wQ npv]; exact m7,uC V en.x.path (zp.name,bs),_,_,_,_,_,_,_,rfl,Qq hV _ hbs hbl,by have:=ZL V en.x.path (zp.name,bs); omega,hi',jQ,T7.put nvt _,?_⟩;have x7:Ex t C C7:=fun b o n h=>e7 b o n (e6 b o n (g5 b o (e4 b o n (e3 b o n h))));exact x7.put hvv _
  .refine bX ?_
   exact hL _ _ ⟨m4,V,_,_,_,_,_,_,_,rfl,hV,by omega,hi',mv4,T4,e3.trans e4⟩
 .rintro ρ C3 ⟨m3,V,x3,x4,x5,x6,x7,x8,x9,rfl,hV,hVl,hi,mv,T3,e3⟩
  exact hL0 _ _ ⟨V,_,_,_,_,_,_,_,rfl,hV,by rw[List.length_map] at hVl; omega,mv,T3,e3⟩
end
section
variable {P:Program}{w:World}{K:PySem.W.Frag}{mg:Str->Option Value}{base:Heap}{a:Adr}
def Jv:Ty->Option Str
 |.non=>some "none"
 |.bl=>some "truth"
 |.int=>some "number"
 |.str=>some "text"
 |.tup=>some "tuple"
 |.lst=>some "list"
 |_=>none
def gKind:GC:=fun ts C Q=>∃(x:PV) (n:Ty) (k:Str),ts=[x]/\tyP C x=some n/\Jv n=some k/\∀C',Gr C C'->Q (.str k) C'
theorem JP {x:PV}(h:qI x=true):x=.non:=by
 cases x<;>first | rfl | cases h
theorem ok_kind (T:Txt P w K mg a):FnOk P w K mg base CX0 1 (a.f 33) (a.d 33) ["_law_thing"] (spC K gKind):=by
 have S:=(T.F 33 rfl).s
 refine(T.F 33 rfl).ok (fun ts C R h=>?_) fun cdv A outer s H E hr=>⟨_,(xQ (wX (ct2 pC sD (cv 0) qU) (kQ (bQ vQ)) qX)
  (xQ (wX (pP (gZ iK pM rfl T.aJ rfl (qQ (cv 0) (ca1 (eO (n:="bool") rfl T.z_bool rfl))))) (kQ (bQ vQ)) qX)
  (xQ (cs1 1 S.nd (gX (qQ (gZ iK pM rfl T.aJ rfl (qQ (cv 0) (ca1 (eO (n:="int") rfl T.vS rfl)))) (qQ (gZ iK pM rfl T.aJ rfl (qQ (cv 0) (ca1 (eO (n:="str") rfl T.fB rfl)))) (qQ (gZ iK pM rfl T.aJ rfl (qQ (cv 0) (ca1 (eO (n:="tuple") rfl T.qZ rfl)))) (ca1 (gZ iK pM rfl T.aJ rfl (qQ (cv 0) (ca1 (eO (n:="list") rfl T.z_list rfl))))))))))
  (xQ (cs1 2 S.nd (gX (qQ vQ (qQ vQ (qQ vQ (ca1 vQ))))))
  (kQ (bQ (cx (rQ oQ tQ (eK rfl (S.c (by decide +kernel)) (S.k rfl rfl rfl (by decide +kernel)) (nP rfl T.gV (ca1 zQ)) (fun _ _ _ _ _=>(Ky (pP (cx (cv 2) (cv 0))))) (fun _ _ _ _ _=>(cx (cv 3) (cv 0)))) (gX (ca1 vQ))) zQ))))))),?_⟩
 .obtain ⟨x,n,k,rfl,_⟩:=h; rfl
 rintro ts C R ⟨x,n,k,rfl,hx,hk,q⟩;refine JY (fun hb=>?_) fun hb=>?_
 .have e:=JP hb
  subst e;cases hx;cases hk;exact q C Gr.refl
 refine bX ?_
 try dsimp only
 refine xO rfl hx (JY (fun hb2=>?_) fun hb2=>?_)
 .cases n with
  |bl=>cases hk; exact q C Gr.refl
  |_=>first | cases hb2 | cases hk
 refine bX ?_
 try dsimp only
 refine yQ ?_;refine xO (T:=.int) rfl hx ?_;refine xO (T:=.str) rfl hx ?_;refine xO (T:=.tup) rfl hx ?_;refine xO (T:=.lst) rfl hx ?_;refine⟨(show 4<=sizeLine by decide),fun p1 h1=>⟨by decide,fun p2 h2=>⟨by decide,by decide,?_⟩⟩⟩;have mk:gQ (gQ C p1 (.lst [.bl (zW n .int),.bl (zW n .str),.bl (zW n .tup),.bl (zW n .lst)])) p2 (.lst [.str "number",.str "text",.str "tuple",.str "list"]) p1=some (.lst [.bl (zW n .int),.bl (zW n .str),.bl (zW n .tup),.bl (zW n .lst)]):=(Gr.new h2 _) p1 _ jQ
 have mn:gQ (gQ C p1 (.lst [.bl (zW n .int),.bl (zW n .str),.bl (zW n .tup),.bl (zW n .lst)])) p2 (.lst [.str "number",.str "text",.str "tuple",.str "list"]) p2=some (.lst [.str "number",.str "text",.str "tuple",.str "list"]):=jQ;have g2:Gr C (gQ (gQ C p1 (.lst [.bl (zW n .int),.bl (zW n .str),.bl (zW n .tup),.bl (zW n .lst)])) p2 (.lst [.str "number",.str "text",.str "tuple",.str "list"])):=(Gr.new h1 _).trans (Gr.new h2 _)
 cases n with
 |non =>
  cases x with
  |non=>cases hb
  |ref a=>unfold tyP at hx; dsimp only at hx; split at hx<;>cases hx
  |_=>cases hx
 |int =>
  cases hk;refine fX (x:=.int 0) (r:=[.int 1,.int 2,.int 3]) ?_;refine sX mk rfl ?_;refine nK ?_ ?_
  .rfl
  refine sX mn rfl ?_;refine⟨by decide,?_⟩;refine fX (x:=.int 1) (r:=[.int 2,.int 3]) ?_;refine sX mk rfl ?_;refine kZ ?_ ?_
  .rfl
  refine fX (x:=.int 2) (r:=[.int 3]) ?_;refine sX mk rfl ?_;refine kZ ?_ ?_
  .rfl
  refine fX (x:=.int 3) (r:=[]) ?_;refine sX mk rfl ?_;refine kZ ?_ ?_
  .rfl
  refine vW fun p3 h3=>?_;refine⟨by decide,fun p4 h4=>vU ((Gr.new h4 _) p3 _ jQ) jQ (by decide) fun p5 h5=>sX jQ rfl ?_⟩;exact q _ ((((g2.trans (Gr.new h3 _)).trans (Gr.new h4 _)).trans (Gr.new h5 _)))
 |str =>
  cases hk;refine fX (x:=.int 0) (r:=[.int 1,.int 2,.int 3]) ?_;refine sX mk rfl ?_;refine kZ ?_ ?_
  .rfl
  refine fX (x:=.int 1) (r:=[.int 2,.int 3]) ?_;refine sX mk rfl ?_;refine nK ?_ ?_
  .rfl
  refine sX mn rfl ?_;refine⟨by decide,?_⟩;refine fX (x:=.int 2) (r:=[.int 3]) ?_;refine sX mk rfl ?_;refine kZ ?_ ?_
  .rfl
  refine fX (x:=.int 3) (r:=[]) ?_;refine sX mk rfl ?_;refine kZ ?_ ?_
  .rfl
  refine vW fun p3 h3=>?_;refine⟨by decide,fun p4 h4=>vU ((Gr.new h4 _) p3 _ jQ) jQ (by decide) fun p5 h5=>sX jQ rfl ?_⟩;exact q _ ((((g2.trans (Gr.new h3 _)).trans (Gr.new h4 _)).trans (Gr.new h5 _)))
 |tup =>
  cases hk;refine fX (x:=.int 0) (r:=[.int 1,.int 2,.int 3]) ?_;refine sX mk rfl ?_;refine kZ ?_ ?_
  .rfl
  refine fX (x:=.int 1) (r:=[.int 2,.int 3]) ?_;refine sX mk rfl ?_;refine kZ ?_ ?_
  .rfl
  refine fX (x:=.int 2) (r:=[.int 3]) ?_;refine sX mk rfl ?_;refine nK ?_ ?_
  .rfl
  refine sX mn rfl ?_;refine⟨by decide,?_⟩;refine fX (x:=.int 3) (r:=[]) ?_;refine sX mk rfl ?_;refine kZ ?_ ?_
  .rfl
  refine vW fun p3 h3=>?_;refine⟨by decide,fun p4 h4=>vU ((Gr.new h4 _) p3 _ jQ) jQ (by decide) fun p5 h5=>sX jQ rfl ?_⟩;exact q _ ((((g2.trans (Gr.new h3 _)).trans (Gr.new h4 _)).trans (Gr.new h5 _)))
 |lst =>
  cases hk;refine fX (x:=.int 0) (r:=[.int 1,.int 2,.int 3]) ?_;refine sX mk rfl ?_;refine kZ ?_ ?_
  .rfl
  refine fX (x:=.int 1) (r:=[.int 2,.int 3]) ?_;refine sX mk rfl ?_;refine kZ ?_ ?_
  .rfl
  refine fX (x:=.int 2) (r:=[.int 3]) ?_;refine sX mk rfl ?_;refine kZ ?_ ?_
  .rfl
  refine fX (x:=.int 3) (r:=[]) ?_;refine sX mk rfl ?_;refine nK ?_ ?_
  .rfl
  refine sX mn rfl ?_;refine⟨by decide,?_⟩;refine vW fun p3 h3=>?_;refine⟨by decide,fun p4 h4=>vU ((Gr.new h4 _) p3 _ jQ) jQ (by decide) fun p5 h5=>sX jQ rfl ?_⟩;exact q _ ((((g2.trans (Gr.new h3 _)).trans (Gr.new h4 _)).trans (Gr.new h5 _)))
 |bl=>cases hb2
 |_=>cases hk
end
section
variable {P:Program}{w:World}{K:PySem.W.Frag}{mg:Str->Option Value}{base:Heap}{a:Adr}
def Sq (C:CH)(x:PV)(xs:List PV)(k:Ty):Prop:=(k=.tup/\x=.tup xs)\/(k=.lst/\∃a,x=.ref a/\C a=some (.lst xs))
theorem Sq.gr {C C':CH}{x:PV}{xs:List PV}{k:Ty}(h:Sq C x xs k)(g:Gr C C'):Sq C' x xs k:=by
 rcases h with h | ⟨e,a,ea,h⟩
 .exact .inl h
 .exact .inr ⟨e,a,ea,g a _ h⟩
theorem Sq.ty {C:CH}{x:PV}{xs:List PV}{k:Ty}(h:Sq C x xs k):tyP C x=some k:=by
 rcases h with ⟨rfl,rfl⟩ | ⟨rfl,a,rfl,h⟩
 .rfl
 .show (match C a with | some (.lst _)=>some Ty.lst | some (.dK _)=>some Ty.dct | _=>none)=_
  rw[h]
theorem Sq.len {C:CH}{x:PV}{xs:List PV}{k:Ty}{Q:K1}(h:Sq C x xs k)(q:Q (.int xs.length) C):mH [x] C Q:=by
 rcases h with ⟨rfl,rfl⟩ | ⟨rfl,a,rfl,h⟩
 .exact uN q
 .exact oG h q
theorem Sq.ix {C:CH}{x v:PV}{xs:List PV}{k:Ty}{i:Int}{Q:K1}(h:Sq C x xs k)(e:atI xs i=some v)(q:Q v C):cIx x (.int i) C Q:=by
 rcases h with ⟨rfl,rfl⟩ | ⟨rfl,a,rfl,h⟩
 .exact cX e q
 .exact sX h e q
def sc:PV->Option Ty
 |.non=>some .non
 |.bl _=>some .bl
 |.int _=>some .int
 |.str _=>some .str
 |_=>none
def Al:Nat->CH->PV->PV->Prop
 |0,_,_,_=>False
 |d+1,C,x,y=>(x=y/\(sc x).isSome=true)\/∃xs k,Sq C x xs k/\Sq C y xs k/\xs.length<=200000/\∀z∈xs,∀C',Al d C' z z
def gAl (d:Nat):GC:=fun ts C Q=>∃x y,ts=[x,y]/\Al d C x y/\∀C',Gr C C'->Q (.bl true) C'
theorem bls_rep (n:Nat):yD (List.replicate n (.bl true))=some (List.replicate n true):=by
 induction n with
 |zero=>rfl
 |succ n ih=>rw[List.replicate_succ,List.replicate_succ]; show(yD _).map _=_; rw[ih]; rfl
theorem vD {c:TCE}{ρ:CSt}{Q:K1}{C0:CH}{m:Nat}(h:∀(k:Nat) C (Q':K1),k < m->Gr C0 C->(∀C',Gr C C'->Q' (.bl true) C')->c (some (.int (k:Int))::ρ) C Q')
  (q:∀p n C',Gr C0 C'->C' p=some (.lst (List.replicate n (.bl true)))->Q (.ref p) C') (L:List Nat):∀(n:Nat) (C:CH),(∀k∈L,k < m)->n+L.length<=200000->Gr C0 C->wZ aU c ρ Q (L.map fun k=>PV.int (k:Nat)) (List.replicate n (.bl true)) C:=by
 induction L with
 |nil=>intro n C _ _ g; exact vW fun p hp=>q p n _ (g.trans (Gr.new hp _)) jQ
 |cons k L ih =>
  intro n C hm hl g;have hl':n+(L.length+1)<=200000:=hl;refine fX ?_;show c (some (.int (k:Int))::ρ) C fun y C2=>(List.replicate n (PV.bl true)).length < sizeLine/\wZ aU c ρ Q (L.map fun k=>PV.int (k:Nat)) (List.replicate n (.bl true)++[y]) C2;refine h k C _ (hm k List.mem_cons_self) g fun C' g'=>⟨?_,?_⟩
  .rw [List.length_replicate]
   exact Nat.lt_of_lt_of_le (show n < 200000 by omega) (by decide)
  .have e:List.replicate n (PV.bl true)++[.bl true]=List.replicate (n+1) (.bl true):=by rw[List.replicate_succ']
   rw[e];exact ih (n+1) C' (fun j hj=>hm j (List.mem_cons_of_mem _ hj)) (by omega) (g.trans g')
theorem Q7 {p:Addr}{n:Nat}{C:CH}{Q:K1}(h:C p=some (.lst (List.replicate n (.bl true))))(q:Q (.bl true) C):cAll [.ref p] C Q:=by
 unfold cAll;show(match C p with | some (.lst xs)=>(match yD xs with | some bs=>Q (.bl (bs.all id)) C | none=>False) | _=>False);rw[h];dsimp only;rw[bls_rep];dsimp only
 have e:(List.replicate n true).all id=true:=by
  rw[List.all_eq_true];intro b hb;exact(List.eq_of_mem_replicate hb)
 rw[e];exact q
theorem sc_ty {C:CH}{x:PV}(h:(sc x).isSome=true):∃n k,tyP C x=some n/\Jv n=some k/\k ≠ "tuple"/\k ≠ "list"/\sEq x x=some true:=by
 cases x with
 |non=>exact⟨_,_,rfl,rfl,by decide,by decide,rfl⟩
 |bl i=>exact⟨_,_,rfl,rfl,by decide,by decide,by show some (decide (i=i))=_; rw[decide_eq_true rfl]⟩
 |int i=>exact⟨_,_,rfl,rfl,by decide,by decide,by show some (decide (i=i))=_; rw[decide_eq_true rfl]⟩
 |str i=>exact⟨_,_,rfl,rfl,by decide,by decide,by show some (decide (i=i))=_; rw[decide_eq_true rfl]⟩
 |_=>cases h
theorem Zl {C C':CH}{x:PV}{n:Ty}(h:tyP C x=some n)(g:Gr C C'):tyP C' x=some n:=by
 cases x with
 |ref a =>
  unfold tyP at h ⊢;dsimp only at h ⊢
  split at h
  .next e=>rw[g a _ e]; exact h
  .next e=>rw[g a _ e]; exact h
  .cases h
 |_=>exact h
theorem Jl (T:Txt P w K mg a)(d:Nat):FnOk P w K mg base CX0 (d+2) (a.f 34) (a.d 34) ["_law_one","_law_other"] (spC K (gAl d)):=by
 induction d with
 |zero=>exact⟨fun vs H Q E ⟨ts,C,R,_,_,⟨x,y,_,h,_⟩,_⟩=>h.elim,fun _ _ _ _ _ _ _ _ _ _ _ _ _ ⟨ts,C,R,_,_,⟨x,y,_,h,_⟩,_⟩=>h.elim⟩
 |succ d ih =>
 have S:=(T.F 34 rfl).s;have gE:=(ok_kind (base:=base) T).mono (show 1<=d+2 by omega);have eF:=ih
 refine(T.F 34 rfl).ok (fun ts C R h=>?_) fun cdv A outer s H E hr=>⟨_,(xQ (cs1 2 S.nd (cf (T.F 33 rfl) gE hr (ca1 (cv 0))))
  (xQ (wX (ct2 op_ne cop_ne (cv 2) (cf (T.F 33 rfl) gE hr (ca1 (cv 1)))) (kQ (bQ KG)) qX)
  (xQ (wX (cw_pt (cw_or (ct2 hX jX (cv 2) vQ) (cw_or1 (ct2 hX jX (cv 2) vQ)))) (kQ (bQ (ce_and (zU hX jX (cln T.bJ (cv 0)) (cln T.bJ (cv 1)) (oY _)) (ce_one (gZ (KI rfl) cbi_all rfl T.z_all rfl (ca1 (eK rfl (S.c (by decide +kernel)) (S.k rfl rfl rfl (by decide +kernel)) (nP rfl T.gV (ca1 (cln T.bJ (cv 0)))) (fun _ _ _ _ _=>xJ) (fun _ _ _ _ _=>(cf (T.F 34 rfl) eF hr (qQ (cx (cv 1) (cv 0)) (ca1 (cx (cv 2) (cv 0))))))))))))) qX)
  (kQ (bQ (zU hX jX (cv 0) (cv 1) (oY _))))))),?_⟩
 .obtain ⟨x,y,rfl,_⟩:=h; rfl
 rintro ts C R ⟨x,y,rfl,(⟨rfl,hs⟩ | ⟨xs,k,hx,hy,hl,hz⟩),q⟩
 .obtain ⟨n,k,h1,h2,n1,n2,e⟩:=sc_ty (C:=C) hs
  refine⟨x,n,k,rfl,h1,h2,fun C1 g1=>?_⟩;refine⟨x,n,k,rfl,Zl h1 g1,h2,fun C2 g2=>?_⟩;refine yX (pQ _ _) ?_;refine kZ (by rw[decide_eq_true rfl]; rfl) ?_;refine bX ?_
  try dsimp only
  refine yX (pQ _ _) ?_;refine kZ (by rw[decide_eq_false n1]; rfl) ?_;refine yX (pQ _ _) ?_;refine kZ (by rw[decide_eq_false n2]; rfl) ?_;refine bX ?_
  try dsimp only
  refine yX e ?_;exact q _ (g1.trans g2)
 .have hk:∃k',Jv k=some k'/\(k' = "tuple"\/k' = "list"):=by
   rcases hx with ⟨rfl,_⟩ | ⟨rfl,_⟩
   .exact ⟨_,rfl,.inl rfl⟩
   .exact ⟨_,rfl,.inr rfl⟩
  obtain⟨k',h2,ho⟩:=hk;refine⟨x,k,k',rfl,hx.ty,h2,fun C1 g1=>?_⟩;refine⟨y,k,k',rfl,Zl hy.ty g1,h2,fun C2 g2=>?_⟩;refine yX (pQ _ _) ?_;refine kZ (by rw[decide_eq_true rfl]; rfl) ?_;refine bX ?_
  try dsimp only
  have hx2:=(hx.gr g1).gr g2;have hy2:=(hy.gr g1).gr g2
  rcases ho with rfl | rfl
  .refine yX (pQ _ _) ?_
   refine nK (by decide) ?_;refine JX ?_ ?_
   .rfl
   refine hx2.len ?_;refine hy2.len ?_;refine yX (b:=true) (by show some (decide _)=_; rw[decide_eq_true rfl]) ?_;refine nK rfl ?_;refine hx2.len ?_;refine⟨by omega,by omega,?_⟩;refine vD (m:=xs.length) (C0:=C2) (fun k C3 Q' hk g3 hq=>?_) (fun p n C' g' m=>Q7 m (q _ ((g1.trans g2).trans g'))) _ 0 C2 (fun k hk=>?_) ?_ Gr.refl
   .refine (hx2.gr g3).ix (bB hk) ?_
    refine(hy2.gr g3).ix (bB hk) ?_;exact⟨xs[k],xs[k],rfl,hz _ (List.getElem_mem hk) _,hq⟩
   .have:=List.mem_range.1 hk
    omega
   .rw [List.length_range]
    omega
  .refine yX (pQ _ _) ?_
   refine kZ (by decide) ?_;refine yX (pQ _ _) ?_;refine nK (by decide) ?_;refine hx2.len ?_;refine hy2.len ?_;refine yX (b:=true) (by show some (decide _)=_; rw[decide_eq_true rfl]) ?_;refine nK rfl ?_;refine hx2.len ?_;refine⟨by omega,by omega,?_⟩;refine vD (m:=xs.length) (C0:=C2) (fun k C3 Q' hk g3 hq=>?_) (fun p n C' g' m=>Q7 m (q _ ((g1.trans g2).trans g'))) _ 0 C2 (fun k hk=>?_) ?_ Gr.refl
   .refine (hx2.gr g3).ix (bB hk) ?_
    refine(hy2.gr g3).ix (bB hk) ?_;exact⟨xs[k],xs[k],rfl,hz _ (List.getElem_mem hk) _,hq⟩
   .have:=List.mem_range.1 hk
    omega
   .rw [List.length_range]
    omega
end
def pK (path:nQ)(h:HdV):PV:=.tup [.str h.ev,.int h.rank,.bl h.last,pX path,.tup (h.ch.map uI)]
def cQ (D:List En)(p:nQ):List Wt:=((D.find? fun e=>decide (e.x.path=p)).map (·.pc.row)).getD []
theorem Qz:∀{D:List En}{e:En},(eZ D).Nodup->e∈D->cQ D e.x.path=e.pc.row
 |[],e,_,m=>nomatch m
 |z::D,e,nd,m=>by
  have nd:(z.x.path::eZ D).Nodup:=nd;rw[List.nodup_cons] at nd;unfold cQ;rw[List.find?_cons]
  rcases List.mem_cons.1 m with rfl | m
  .rw [decide_eq_true rfl]; rfl
  .have ne:¬ z.x.path=e.x.path:=fun h=>nd.1 (by rw[h]; exact List.mem_map.2 ⟨e,m,rfl⟩)
   rw[decide_eq_false ne];exact Qz nd.2 m
def bx1 (f:nQ->nQ->nQ->List Wt->List PV)(rows:nQ->List Wt)(path spots label:nQ):Wt->List PV
 |.plain sp tag s h r=>[.tup [pX (label++[sp]),.tup [.str tag,.tup (s.map dQ),.tup (h.map (pK path)),.tup (f path (spots++[sp]) [] r)]]]
 |.give sp _ _ r=>f path (spots++[sp]) (label++[sp]) r
 |.part sp _ _=>f (spots++[sp]) (spots++[sp]) (label++[sp]) (rows (spots++[sp]))
def bxs (rows:nQ->List Wt):Nat->nQ->nQ->nQ->List Wt->List PV
 |0,_,_,_,_=>[]
 |n+1,path,spots,label,row=>row.flatMap (bx1 (bxs rows n) rows path spots label)
def bl1 (f:nQ->List Wt->Nat)(rows:nQ->List Wt)(spots:nQ):Wt->Nat
 |.plain sp _ _ _ r=>1+f (spots++[sp]) r
 |.give sp _ _ r=>f (spots++[sp]) r
 |.part sp _ _=>f (spots++[sp]) (rows (spots++[sp]))
def bl (rows:nQ->List Wt):Nat->nQ->List Wt->Nat
 |0,_,_=>0
 |n+1,spots,row=>(row.map (bl1 (bl rows n) rows spots)).sum
theorem eR (rows:nQ->List Wt):∀(n:Nat) (path spots label:nQ) (row:List Wt),(bxs rows n path spots label row).length<=bl rows n spots row:=by
 intro n
 induction n with
 |zero=>intro _ _ _ _; exact Nat.le_refl _
 |succ n ih =>
  intro path spots label row;rw[bxs,bl]
  induction row with
  |nil=>exact Nat.le_refl _
  |cons x row ihr =>
   rw[List.flatMap_cons,List.length_append,List.map_cons,List.sum_cons];refine Nat.add_le_add ?_ ihr
   cases x with
   |plain sp t s h r=>exact Nat.le_add_right 1 _
   |give sp n' i r=>exact ih _ _ _ _
   |part sp n' g=>exact ih _ _ _ _
def SpB (sp:List Key):Prop:=∃k c,sp=[k,.inl (some c)]/\0<=c/\c<=1000000/\KBd k
theorem Qg:∀r:List Wt,r.length<=Wt.wcs r
 |[]=>Nat.zero_le _
 |y::r=>by
  have ih:=Qg r;have h1:1<=y.wc:=by cases y<;>(rw[Wt.wc]; omega)
  rw[List.length_cons,Wt.wcs];omega
def Ft (D:List En):Nat->nQ->List Wt->Prop
 |0,_,_=>False
 |n+1,spots,row=>bl (cQ D) (n+1) spots row<=100000/\∀x∈row,SpB x.sp/\match x with
  |.plain sp tag s h r=>Qb tag s h/\Ft D n (spots++[sp]) r
  |.give sp _ _ r=>Ft D n (spots++[sp]) r
  |.part sp _ _=>(∃e∈D,e.x.path=spots++[sp])/\Ft D n (spots++[sp]) (cQ D (spots++[sp]))
theorem ZB {D:List En}{rs:List Str}{N b:Nat}(x:nQ)(hN:1<=N):∀(d:Nat) (r:List Wt) (s:nQ) (ds:List (Str×Int)),(∀y∈r,WtOk rs d y)->SpN r->Wt.wcs r+Wt.pcs r * b<=100000 ->
  (∀q∈Wt.prts r s ds,(∃e∈D,e.x.path=x++q.path)/\∀M,N<=M->Ft D M (x++q.path) (cQ D (x++q.path))/\bl (cQ D) M (x++q.path) (cQ D (x++q.path))<=b) ->
  ∀M,N+d<=M->Ft D M (x++s) r/\bl (cQ D) M (x++s) r<=Wt.wcs r+Wt.pcs r * b:=by
 intro d
 induction d with
 |zero =>
  intro r s ds ok hsn hb hq M hM
  cases r with
  |cons y r=>exact(ok y List.mem_cons_self).elim
  |nil =>
   obtain⟨m,rfl⟩:∃m,M=m+1:=⟨M - 1,by omega⟩;exact⟨⟨Nat.zero_le _,fun _ z=>(nomatch z)⟩,Nat.zero_le _⟩
 |succ d ih =>
  intro r s ds ok hsn hb hq M hM;obtain⟨m,rfl⟩:∃m,M=m+1:=⟨M - 1,by omega⟩
  have one:∀y:Wt,WtOk rs (d+1) y->y.wc+y.pc * b<=100000->(∀q∈y.prt s ds,(∃e∈D,e.x.path=x++q.path)/\∀M,N<=M->Ft D M (x++q.path) (cQ D (x++q.path))/\bl (cQ D) M (x++q.path) (cQ D (x++q.path))<=b) ->
    (match y with
     |.plain sp tag s' h r=>Qb tag s' h/\Ft D m (x++s++[sp]) r
     |.give sp _ _ r=>Ft D m (x++s++[sp]) r
     |.part sp _ _=>(∃e∈D,e.x.path=x++s++[sp])/\Ft D m (x++s++[sp]) (cQ D (x++s++[sp])))/\bl1 (bl (cQ D) m) (cQ D) (x++s) y<=y.wc+y.pc * b:=by
   intro y oy hy hq
   cases y with
   |plain sp t ss h r' =>
    obtain⟨_,o0,o1,o2⟩:=oy;have hw:(Wt.plain sp t ss h r').wc=1+Wt.wcs r':=by rw[Wt.wc]
    have hp:(Wt.plain sp t ss h r').pc=Wt.pcs r':=by rw[Wt.pc]
    rw[hw,hp] at hy;have:=ih r' (s++[sp]) ds o1 o2.2 (by omega) (fun q hqm=>hq q (by rw[Wt.prt]; exact hqm)) m (by omega);rw[<- List.append_assoc] at this;refine⟨⟨o0,this.1⟩,?_⟩;have h2:=this.2;rw[hw,hp];show 1+bl (cQ D) m (x++s++[sp]) r'<=_;omega
   |give sp n i r' =>
    obtain⟨_,bi,o1,o2⟩:=oy;have hw:(Wt.give sp n i r').wc=1+Wt.wcs r':=by rw[Wt.wc]
    have hp:(Wt.give sp n i r').pc=Wt.pcs r':=by rw[Wt.pc]
    rw[hw,hp] at hy;have:=ih r' (s++[sp]) (pW ds [(n,i)]) o1 o2.2 (by omega) (fun q hqm=>hq q (by rw[Wt.prt]; exact hqm)) m (by omega);rw[<- List.append_assoc] at this;refine⟨this.1,?_⟩;rw[hw,hp];have h2:=this.2;show bl (cQ D) m (x++s++[sp]) r'<=_;omega
   |part sp n g =>
    obtain⟨he,hM'⟩:=hq ⟨s++[sp],n,g,ds⟩ (by rw[Wt.prt]; exact List.mem_singleton.2 rfl);have h2:=hM' m (by omega);have ea:x++(s++[sp])=x++s++[sp]:=by rw[List.append_assoc]
    have he:∃e∈D,e.x.path=x++(s++[sp]):=he;have h2:Ft D m (x++(s++[sp])) (cQ D (x++(s++[sp])))/\bl (cQ D) m (x++(s++[sp])) (cQ D (x++(s++[sp])))<=b:=h2;rw[ea] at he h2;refine⟨⟨he,h2.1⟩,?_⟩;have hw:(Wt.part sp n g).wc=1:=by rw[Wt.wc]
    have hp:(Wt.part sp n g).pc=1:=by rw[Wt.pc]
    rw[hw,hp];have:=h2.2;show bl (cQ D) m (x++s++[sp]) (cQ D (x++s++[sp]))<=_;omega
  have all:∀r:List Wt,(∀y∈r,WtOk rs (d+1) y)->Wt.wcs r+Wt.pcs r * b<=100000->(∀q∈Wt.prts r s ds,(∃e∈D,e.x.path=x++q.path)/\∀M,N<=M->Ft D M (x++q.path) (cQ D (x++q.path))/\bl (cQ D) M (x++q.path) (cQ D (x++q.path))<=b) ->
    (∀y∈r,match y with
     |.plain sp tag s' h r=>Qb tag s' h/\Ft D m (x++s++[sp]) r
     |.give sp _ _ r=>Ft D m (x++s++[sp]) r
     |.part sp _ _=>(∃e∈D,e.x.path=x++s++[sp])/\Ft D m (x++s++[sp]) (cQ D (x++s++[sp])))/\(r.map (bl1 (bl (cQ D) m) (cQ D) (x++s))).sum<=Wt.wcs r+Wt.pcs r * b:=by
   intro r
   induction r with
   |nil=>intro _ _ _; exact⟨fun _ z=>(nomatch z),Nat.zero_le _⟩
   |cons y r ihr =>
    intro ok hb hq;have hb:(y.wc+Wt.wcs r)+(y.pc+Wt.pcs r) * b<=100000:=hb;rw[Nat.add_mul] at hb;obtain⟨a1,a2⟩:=one y (ok y List.mem_cons_self) (by omega) fun q hqm=>hq q (by rw[Wt.prts]; exact List.mem_append_left _ hqm);obtain⟨b1,b2⟩:=ihr (fun z hz=>ok z (List.mem_cons_of_mem _ hz)) (by omega) fun q hqm=>hq q (by rw[Wt.prts]; exact List.mem_append_right _ hqm);refine⟨fun z hz=>?_,?_⟩
    .rcases List.mem_cons.1 hz with rfl | hz
     .exact a1
     .exact b1 z hz
    .rw [List.map_cons,List.sum_cons]
     show _<=(y.wc+Wt.wcs r)+(y.pc+Wt.pcs r) * b;rw[Nat.add_mul];omega
  obtain⟨c1,c2⟩:=all r ok hb hq;have hrl:=Qg r;refine⟨⟨?_,fun y hy=>⟨?_,c1 y hy⟩⟩,?_⟩
  .rw [bl]; omega
  .obtain ⟨k,c,e1,e2,e3,e4⟩:=hsn y hy
   exact⟨k,c,e1,e2,by omega,e4⟩
  .rw [bl]; exact c2
def bbd (m k:Nat):Nat:=if k=0 then 26832 else 48 * (2 ^ m - 1)
theorem dr_fits {pts:List Pt}(hs:nF pts){V:Vl}(hV:VOk V){D:List En}(nd:(eZ D).Nodup):∀(n k:Nat) (x:Prt),xH pts k x->pts.length<=k+n->(∀e∈dr pts V n x,e∈D) ->
  (∃e∈D,e.x.path=x.path)/\∀M,6 * (pts.length - k)+1<=M->Ft D M x.path (cQ D x.path)/\bl (cQ D) M x.path (cQ D x.path)<=bbd (pts.length - k) k:=by
 intro n
 induction n with
 |zero =>
  intro k x h hn;have:=(List.getElem?_eq_some_iff.1 h.nm).1;unfold yJ at this;rw[List.length_map] at this;omega
 |succ n ih =>
  intro k x h hn hD;obtain⟨y,ha⟩:=X6 hs hV h
  have hkl:k < pts.length:=by
   have:=(List.getElem?_eq_some_iff.1 h.nm).1;unfold yJ at this;rw[List.length_map] at this;exact this
  have hN:=hs.n6;have hmem:(⟨x,nY pts V x⟩:En)∈D:=hD _ (by rw[dr]; exact List.mem_cons_self);have hl:cQ D x.path=(nY pts V x).row:=Qz nd hmem;refine⟨⟨_,hmem,rfl⟩,fun M hM=>?_⟩;rw[hl];have hcap:eJ k<=18:=by unfold eJ; split<;>decide
  have pk:=ha.pcs;have wk:=ha.wcs;have p5:2 ^ (pts.length - k - 1)<=2 ^ 5:=Nat.pow_le_pow_right (by decide) (by omega);have e5:(2:Nat) ^ 5=32:=rfl;have hpb:Wt.pcs (nY pts V x).row * (48 * (2 ^ (pts.length - k - 1) - 1))<=eJ k * (48 * (2 ^ (pts.length - k - 1) - 1)):=Nat.mul_le_mul_right _ pk;have hcb:eJ k * (48 * (2 ^ (pts.length - k - 1) - 1))<=18 * (48 * 31):=Nat.mul_le_mul hcap (by omega)
  have R:=ZB (D:=D) (rs:=(yJ pts).drop (k+1)) (N:=6 * (pts.length - k - 1)+1) (b:=48 * (2 ^ (pts.length - k - 1) - 1)) x.path (by omega) 6 (nY pts V x).row [] [] ha.row.1 ha.row.2.2 (by omega) (fun q hq=>by
   obtain⟨k',hk',dq,qn,_⟩:=pY h ha hq;obtain⟨a1,a2⟩:=ih k' (cK x q) dq (by omega) fun e he=>hD e (by rw[dr]; exact List.mem_cons_of_mem _ (List.mem_flatMap.2 ⟨q,hq,he⟩));refine⟨a1,fun M' hM'=>?_⟩;obtain⟨b1,b2⟩:=a2 M' (by omega);refine⟨b1,Nat.le_trans b2 ?_⟩;unfold bbd;rw[if_neg (by omega)];have:2 ^ (pts.length - k')<=2 ^ (pts.length - k - 1):=Nat.pow_le_pow_right (by decide) (by omega)
   omega) M (by omega)
  rw[List.append_nil] at R;refine⟨R.1,Nat.le_trans R.2 ?_⟩;have hpb2:=Nat.le_trans hpb hcb;unfold bbd;unfold eJ at hpb
  split
  .omega
  .next hk0 =>
   rw[if_neg hk0] at hpb;have e:pts.length - k=(pts.length - k - 1)+1:=by omega
   rw[e,Nat.pow_succ];have e2:pts.length - k - 1+1 - 1=pts.length - k - 1:=by omega
   rw[e2] at *
   have:1<=2 ^ (pts.length - k - 1):=Nat.one_le_two_pow;omega
theorem kW {pts:List Pt}(hs:nF pts){V:Vl}(hV:VOk V):(∃e∈dZ pts V,e.x.path=[])/\Ft (dZ pts V) 37 [] (cQ (dZ pts V) []):=by
 have nd:=Kj hs hV 6 0 _ (bV hs);have h6:=hs.n6;obtain⟨a1,a2⟩:=dr_fits hs hV (D:=dZ pts V) nd 6 0 _ (bV hs) (by omega) fun e he=>he;exact⟨a1,(a2 37 (by omega)).1⟩
def iB (D:List En):List (nQ×PV):=D.map fun e=>(e.x.path,.tup (Wt.pvs e.pc.row))
theorem yL {p:nQ}:∀{D:List En},(∃e∈D,e.x.path=p)->rK (iB D) p=some (.tup (Wt.pvs (cQ D p)))
 |[],h=>by obtain⟨e,he,_⟩:=h; exact nomatch he
 |z::D,h=>by
  show rK ((z.x.path,PV.tup (Wt.pvs z.pc.row))::iB D) p=_;rw[lK];unfold cQ;rw[List.find?_cons]
  by_cases e:z.x.path=p
  .rw [if_pos e,decide_eq_true e]; rfl
  .rw [if_neg e,decide_eq_false e]
   refine yL ?_;obtain⟨y,hy,ey⟩:=h
   rcases List.mem_cons.1 hy with rfl | hy
   .exact absurd ey e
   .exact ⟨y,hy,ey⟩
theorem ZJ {D:List En}{e:En}(h:e.x.path∉eZ D):putG (iB D) e.x.path (.tup (Wt.pvs e.pc.row))=iB (D++[e]):=by
 unfold putG;rw[if_neg]
 .unfold iB
  rw[List.map_append]
  rfl
 .intro z
  refine h ?_;obtain⟨x,hx,ex⟩:=List.any_eq_true.1 z;unfold iB at hx;obtain⟨y,hy,rfl⟩:=List.mem_map.1 hx;exact List.mem_map.2 ⟨y,hy,of_decide_eq_true ex⟩
theorem wP {n:Nat}(h:n<=200000):n<=sizeLine:=Nat.le_trans h (by decide)
theorem Qr (s:nQ)(sp:List Key):PV.tup (s.map zV++[zV sp])=pX (s++[sp]):=by unfold pX; rw[List.map_append]; rfl
theorem sum_app (f:Wt->Nat)(us:List Wt)(u:Wt)(vs:List Wt):((us++u::vs).map f).sum=(us.map f).sum+f u+(vs.map f).sum:=by
 rw[List.map_append,List.sum_append,List.map_cons,List.sum_cons]; omega
theorem slT_s {xs:List PV}{lo hi:Option Int}{C:CH}{Q:K1}(h:¬ (HT.sIx xs.length 0 lo=0/\HT.sIx xs.length xs.length hi=xs.length))(q:Q (.tup (gD xs lo hi)) C):KK (.tup xs) lo hi C Q:=by
 unfold KK;exact⟨h,q⟩
theorem Zx {x:PV}{xs:List PV}{lo hi:Option Int}{C:CH}{Q:K1}(e:x=.tup xs)(h:¬ (HT.sIx xs.length 0 lo=0/\HT.sIx xs.length xs.length hi=xs.length))(q:Q (.tup (gD xs lo hi)) C):KK x lo hi C Q:=by
 subst e;exact slT_s h q
section
variable {P:Program}{w:World}{K:PySem.W.Frag}{mg:Str->Option Value}{base:Heap}{a:Adr}
def gTree:GC:=fun ts C Q=>∃(dd:Addr) (D:List En),ts=[.ref dd]/\C dd=some (.lst (D.map En.pv))/\(eZ D).Nodup/\D.length<=600/\(∃e∈D,e.x.path=[])/\Ft D 37 [] (cQ D [])/\∀C',Gr C C'->Q (.tup (bxs (cQ D) 37 [] [] [] (cQ D []))) C'
def gLb (n:Nat):GC:=fun ts C Q=>∃(rr:Addr) (D:List En) (path spots label:nQ) (row:List Wt),ts=[.ref rr,pX path,.tup (Wt.pvs row),pX spots,pX label]/\C rr=some (.dP (iB D))/\Ft D n spots row/\spots.length+n<=500/\label.length+n<=500 /\
 ∀C',Gr C C'->Q (.tup (bxs (cQ D) n path spots label row)) C'
theorem Xv (T:Txt P w K mg a)(n:Nat):FnOk P w K mg base CX0 n (a.f 35) (a.d 35) U6 (spC K (gLb n)):=by
 induction n with
 |zero=>exact mJ fun ts C Q ⟨rr,D,path,spots,label,row,_,_,h,_⟩=>h
 |succ n ih =>
 have S:=(T.F 35 rfl).s;have uK:=ih
 refine(T.F 35 rfl).ok (fun ts C R h=>?_) fun cdv A outer s H E hr=>⟨_,(xQ (cs1 5 S.nd (mQ iX))
  (xQ (oK PassesOwn.never rfl (cv 2) (cg1 6 S.nd) (xQ (cs1 7 S.nd (rQ oQ tQ (cv 3) (mQ (ca1 (cx (cv 6) zQ)))))
  (xQ (cs1 8 S.nd (rQ oQ tQ (cv 4) (mQ (ca1 (cx (cv 6) zQ)))))
  (kQ (wX (ct2 hX jX (cx (cv 6) zQ) vQ) (kQ (cs1 5 S.nd (rQ oQ tQ (cv 5) (cf (T.F 35 rfl) uK hr (qQ (cv 0) (qQ (cv 7) (qQ (pR (aY hr) (cv 0) (cv 7) (fun _ _=>rfl)) (qQ (cv 7) (ca1 (cv 8)))))))))) (kQ (wX (ct2 hX jX (cx (cv 6) zQ) vQ) (kQ (cs1 5 S.nd (rQ oQ tQ (cv 5) (cf (T.F 35 rfl) uK hr (qQ (cv 0) (qQ (cv 1) (qQ (cx (cv 6) zQ) (qQ (cv 7) (ca1 (cv 8)))))))))) (xQ (cs1 9 S.nd (ctp T.qZ (eK rfl (S.c (by decide +kernel)) (S.k rfl rfl rfl (by decide +kernel)) (kG (cx (cv 6) zQ)) (fun _ _ _ _ _=>xJ) (fun _ _ _ _ _=>(rQ oQ tQ (rQ oQ tQ (KA (cv 0) mM (bM zQ)) (mQ (ca1 (cv 2)))) (KA (cv 0) (bM zQ) mM))))))
  (xQ (cs1 10 S.nd (cf (T.F 35 rfl) uK hr (qQ (cv 0) (qQ (cv 1) (qQ (cx (cv 6) zQ) (qQ (cv 7) (ca1 (mQ iX))))))))
  (kQ (cs1 5 S.nd (rQ oQ tQ (cv 5) (mQ (ca1 (mQ (qQ (cv 8) (ca1 (mQ (qQ (cx (cv 6) zQ) (qQ (cx (cv 6) zQ) (qQ (cv 9) (ca1 (cv 10)))))))))))))))))))))))
  (kQ (bQ (cv 5))))),?_⟩
 .obtain ⟨rr,D,path,spots,label,row,rfl,_⟩:=h; rfl
 rintro ts C R ⟨rr,D,path,spots,label,row,rfl,mr,ft,h1,h2,q⟩;obtain⟨hb,ft⟩:=ft;rw[bl] at hb;refine yQ ?_;refine⟨by show 0<=sizeLine; decide,?_⟩
 try dsimp only
 refine xZ ?_;refine eG rfl ?_;refine yZ (fun zs ρ C'=>∃(x6 x7 x8 x9 x10:Option PV) (us vs:List Wt),row=us++vs/\zs=Wt.pvs vs/\ρ=[some (.ref rr),some (pX path),some (.tup (Wt.pvs row)),some (pX spots),some (pX label),some (.tup (us.flatMap (bx1 (bxs (cQ D) n) (cQ D) path spots label))),x6,x7,x8,x9,x10]/\Gr C C') ?_ ?_ _ _ _ ⟨_,_,_,_,_,[],row,rfl,rfl,rfl,Gr.refl⟩
 .rintro z zs ρ C1 ⟨x6,x7,x8,x9,x10,us,vs,e,hz,rfl,g1⟩ L hL
  cases vs with
  |nil=>cases hz
  |cons u vs =>
  obtain⟨rfl,rfl⟩:=List.cons.inj (show z::zs=u.pv::Wt.pvs vs from hz);have hu:=(ft u (by rw[e]; exact List.mem_append_right _ List.mem_cons_self)).2
  have hlu:(us.flatMap (bx1 (bxs (cQ D) n) (cQ D) path spots label)).length<=(us.map (bl1 (bl (cQ D) n) (cQ D) spots)).sum:=by
   have:=eR (cQ D) (n+1) path spots label us;rw[bxs,bl] at this;exact this
  rw[e,sum_app] at hb
  have fin:∀C' x6 x7 x8 x9 x10,Gr C C'->L [some (.ref rr),some (pX path),some (.tup (Wt.pvs row)),some (pX spots),some (pX label),some (.tup (us.flatMap (bx1 (bxs (cQ D) n) (cQ D) path spots label)++bx1 (bxs (cQ D) n) (cQ D) path spots label u)),x6,x7,x8,x9,x10] C':=by
   intro C' y6 y7 y8 y9 y10 hg;refine hL _ _ ⟨y6,y7,y8,y9,y10,us++[u],vs,by rw[List.append_assoc]; exact e,rfl,?_,hg⟩;rw[List.flatMap_append,List.flatMap_cons,List.flatMap_nil,List.append_nil]
  obtain⟨wd,rest,ep,hwd⟩:=wt_pv u;refine yQ ?_;refine dX ep iR ?_;refine⟨by show 1<=sizeLine; decide,?_⟩;refine kU (eY (by rw[List.length_map]; show spots.length+1<=1000; omega)) ?_;rw[Qr]
  try dsimp only
  refine yQ ?_;refine dX ep iR ?_;refine⟨by show 1<=sizeLine; decide,?_⟩;refine kU (eY (by rw[List.length_map]; show label.length+1<=1000; omega)) ?_;rw[Qr]
  try dsimp only
  cases u with
  |plain sp tag ss hs r =>
   have ep:(Wt.plain sp tag ss hs r).pv=.tup [.str "plain",zV sp,.str tag,.tup (ss.map dQ),.tup (hs.map HdV.pv),.tup (Wt.pvs r)]:=by rw[Wt.pv]
   have hhl:hs.length<=4:=hu.1.2.1;refine dX ep sQ ?_;refine yX (pQ _ _) ?_;refine kZ (by decide) ?_;refine dX ep sQ ?_;refine yX (pQ _ _) ?_;refine kZ (by decide) ?_;refine yQ ?_;refine dX ep (v:=.tup (hs.map HdV.pv)) rfl ?_;refine tJ (fun zs acc C'=>C'=C1/\∃us vs:List HdV,hs=us++vs/\zs=vs.map HdV.pv/\acc=us.map (pK path)) ?_ ?_ _ _ _ ⟨rfl,[],hs,rfl,rfl,rfl⟩
   .rintro z zs acc C2 ⟨rfl,us,vs,e,hz,rfl⟩ L2 hL2
    cases vs with
    |nil=>cases hz
    |cons v vs =>
    obtain⟨rfl,rfl⟩:=List.cons.inj hz;have hv:v.pv=.tup [.str v.ev,.int v.rank,.bl v.last,.tup (v.ch.map uI)]:=rfl;refine Zx hv (by show ¬ (HT.sIx 4 0 none=0/\HT.sIx 4 4 (some 3)=4); decide) ?_;refine⟨by show 1<=sizeLine; decide,?_⟩;refine kU (by show 3+1<=sizeLine; decide) ?_;refine Zx hv (by show ¬ (HT.sIx 4 0 (some 3)=0/\HT.sIx 4 4 none=4); decide) ?_;refine kU (by show 4+1<=sizeLine; decide) ?_;refine hL2 _ _ ⟨?_,rfl,us++[v],vs,by rw[List.append_assoc]; exact e,rfl,by rw[List.map_append]; rfl⟩
    rw[List.length_map];have:=congrArg List.length e;rw[List.length_append,List.length_cons] at this;exact Nat.lt_of_lt_of_le (show us.length < 5 by omega) (by decide)
   .rintro acc C2 ⟨rfl,us',vs',e',hz,rfl⟩ p hp
    cases vs' with
    |cons v vs=>cases hz
    |nil =>
    rw[List.append_nil] at e';subst e';refine rJ jQ ?_
    try dsimp only
    have g2:Gr C (gQ C2 p (.lst (hs.map (pK path)))):=g1.trans (Gr.new hp _);refine yQ ?_;refine dX ep (v:=.tup (Wt.pvs r)) rfl ?_;refine⟨by show 0<=sizeLine; decide,?_⟩;refine⟨rr,D,path,spots++[sp],[],r,rfl,g2 _ _ mr,hu.2,by rw[List.length_append,List.length_singleton]; omega,by show 0+n<=500; omega,fun C3 g3=>?_⟩
    try dsimp only
    refine dX ep (v:=.str tag) rfl ?_;refine dX ep (v:=.tup (ss.map dQ)) rfl ?_;refine⟨by show 4<=sizeLine; decide,?_⟩;refine⟨by show 2<=sizeLine; decide,?_⟩;refine⟨by show 1<=sizeLine; decide,?_⟩;refine kU (wP (by have hb:_+(1+bl (cQ D) n (spots++[sp]) r)+_<=100000:=hb; show _+1<=200000; omega)) ?_;exact fin _ _ _ _ _ _ (g2.trans g3)
  |give sp nm i r =>
   have ep:(Wt.give sp nm i r).pv=.tup [.str "give",zV sp,.str nm,.int i,.tup (Wt.pvs r)]:=by rw[Wt.pv]
   refine dX ep sQ ?_;refine yX (pQ _ _) ?_;refine kZ (by decide) ?_;refine dX ep sQ ?_;refine yX (pQ _ _) ?_;refine nK (by decide) ?_;refine dX ep (v:=.tup (Wt.pvs r)) rfl ?_;refine⟨rr,D,path,spots++[sp],label++[sp],r,rfl,g1 _ _ mr,hu,by rw[List.length_append,List.length_singleton]; omega,by rw[List.length_append,List.length_singleton]; omega,fun C2 g2=>?_⟩;refine kU (wP ?_) ?_
   .have hb:_+bl (cQ D) n (spots++[sp]) r+_<=100000:=hb
    have:=eR (cQ D) n path (spots++[sp]) (label++[sp]) r;omega
   exact fin _ _ _ _ _ _ (g1.trans g2)
  |part sp nm g =>
   have ep:(Wt.part sp nm g).pv=.tup [.str "part",zV sp,.str nm,.tup (g.map dQ)]:=by rw[Wt.pv]
   refine dX ep sQ ?_;refine yX (pQ _ _) ?_;refine nK (by decide) ?_;refine Qt (g1 _ _ mr) (kY _) (yL hu.1) ?_;refine⟨rr,D,spots++[sp],spots++[sp],label++[sp],cQ D (spots++[sp]),rfl,g1 _ _ mr,hu.2,by rw[List.length_append,List.length_singleton]; omega,by rw[List.length_append,List.length_singleton]; omega,fun C2 g2=>?_⟩;refine kU (wP ?_) ?_
   .have hb:_+bl (cQ D) n (spots++[sp]) (cQ D (spots++[sp]))+_<=100000:=hb
    have:=eR (cQ D) n (spots++[sp]) (spots++[sp]) (label++[sp]) (cQ D (spots++[sp]));omega
   exact fin _ _ _ _ _ _ (g1.trans g2)
 .rintro ρ C1 ⟨x6,x7,x8,x9,x10,us,vs,e,hz,rfl,g1⟩
  cases vs with
  |cons u vs=>cases hz
  |nil =>
  rw[List.append_nil] at e;subst e;exact q C1 g1
theorem Jc (T:Txt P w K mg a):FnOk P w K mg base CX0 38 (a.f 36) (a.d 36) ["_law_drawing"] (spC K gTree):=by
 have S:=(T.F 36 rfl).s;have uK:=Xv (base:=base) T 37
 refine(T.F 36 rfl).ok (fun ts C R h=>?_) fun cdv A outer s H E hr=>⟨_,(xQ (cs1 1 S.nd eD)
  (xQ (dU PassesOwn.never rfl (cv 0) (cg1 2 S.nd) (kQ (uR (aY hr) (cv 1) (cx (cv 2) zQ) (cx (cx (cv 2) zQ) zQ))))
  (kQ (bQ (cf (T.F 35 rfl) uK hr (qQ (cv 1) (qQ (mQ iX) (qQ (pR (aY hr) (cv 1) (mQ iX) (fun _ _=>rfl)) (qQ (mQ iX) (ca1 (mQ iX))))))))))),?_⟩
 .obtain ⟨dd,D,rfl,_⟩:=h; rfl
 rintro ts C R ⟨dd,D,rfl,md,nd,hl,h0,ft,q⟩;refine yQ ?_;intro rr hrr;have ndr:dd≠rr:=fun z=>by rw[z,hrr] at md; cases md
 try dsimp only
 refine xZ ?_;refine⟨D.length+1,?_⟩;refine zY (xs:=D.map En.pv) (fun i ρ C'=>C' dd=some (.lst (D.map En.pv))/\∃(x2:Option PV),i<=D.length/\ρ=[some (.ref dd),some (.ref rr),x2]/\C' rr=some (.dP (iB (D.take i)))/\Gr C C') (fun _ _ _ h=>h.1) ?_ ?_ _ 0 _ _ ⟨by rw[wQ ndr]; exact md,_,Nat.zero_le _,rfl,jQ,Gr.new hrr _⟩ (by rw[List.length_map]; omega) (Nat.zero_le _)
 .rintro i z ρ C1 hz ⟨m1,x2,hi,rfl,mr,g1⟩ L hL
  rw[List.getElem?_map] at hz
  cases he:D[i]? with
  |none=>rw[he] at hz; cases hz
  |some en =>
  rw[he] at hz;cases hz;have hi':i < D.length:=(List.getElem?_eq_some_iff.1 he).1;have hv:en.pv=.tup [pX en.x.path,.str en.x.name,.tup (en.x.gives.map dQ),.tup (en.x.downs.map dQ),en.pc.pv]:=rfl;refine dX hv (v:=en.pc.pv) rfl ?_;refine cX (xs:=[.tup (en.pc.reads.map aB),.tup (Wt.pvs en.pc.row),.tup (en.pc.works.map dQ)]) (v:=.tup (Wt.pvs en.pc.row)) rfl ?_;refine dX hv (v:=pX en.x.path) rfl ?_;refine iE mr (kY _) (by unfold iB; rw[List.length_map,List.length_take]; omega) ?_
  have et:D.take (i+1)=D.take i++[en]:=by rw[List.take_add_one,he]; rfl
  have nin:en.x.path∉eZ (D.take i):=by
   have h2:(eZ (D.take (i+1))).Nodup:=by
    unfold eZ at nd ⊢;rw[List.map_take];exact nd.sublist (List.take_sublist _ _)
   rw[et] at h2;unfold eZ at h2;rw[List.map_append,List.nodup_append] at h2;intro hm;exact h2.2.2 _ hm _ (by simp) rfl
  rw[ZJ nin,<- et];refine hL _ _ ⟨by rw[wQ ndr]; exact m1,_,hi',rfl,jQ,xW g1 hrr _⟩
 .rintro ρ C1 ⟨m1,x2,hi,rfl,mr,g1⟩
  rw[List.length_map,List.take_of_length_le (Nat.le_refl _)] at mr
  try dsimp only
  refine⟨by show 0<=sizeLine; decide,?_⟩;refine⟨by show 0<=sizeLine; decide,?_⟩;refine Qt mr (k:=[]) rfl (yL h0) ?_;refine⟨by show 0<=sizeLine; decide,?_⟩;refine⟨by show 0<=sizeLine; decide,?_⟩;exact⟨rr,D,[],[],[],_,rfl,mr,ft,by decide,by decide,fun C2 g2=>q C2 (g1.trans g2)⟩
end
inductive Bx where
 |mk (lab:nQ) (tag:Str) (ss:List (Str×Int)) (path:nQ) (hs:List HdV) (inner:List Bx)
mutual
def Bx.pv:Bx->PV
 |.mk lab tag ss path hs inner=>.tup [pX lab,.tup [.str tag,.tup (ss.map dQ),.tup (hs.map (pK path)),.tup (Bx.pvs inner)]]
def Bx.pvs:List Bx->List PV
 |[]=>[]
 |x::r=>x.pv::Bx.pvs r
end
theorem Bx.pvs_app:∀xs ys:List Bx,Bx.pvs (xs++ys)=Bx.pvs xs++Bx.pvs ys
 |[],_=>rfl
 |x::xs,ys=>by
  show x.pv::Bx.pvs (xs++ys)=x.pv::Bx.pvs xs++Bx.pvs ys;rw[Bx.pvs_app xs ys]
  rfl
def zC (lab:nQ):Prop:=lab.length<=500/\∀sp∈lab,SpB sp
mutual
def Bx.Ok:Bx->Prop
 |.mk lab tag ss _ hs inner=>zC lab/\Qb tag ss hs/\Bx.Oks inner
def Bx.Oks:List Bx->Prop
 |[]=>True
 |x::r=>x.Ok/\Bx.Oks r
end
theorem Bx.oks_app:∀{xs ys:List Bx},Bx.Oks xs->Bx.Oks ys->Bx.Oks (xs++ys)
 |[],_,_,h=>h
 |_::_,_,h,h'=>⟨h.1,Bx.oks_app h.2 h'⟩
mutual
def Bx.cnt:Bx->Nat
 |.mk _ _ _ _ _ inner=>1+Bx.cnts inner
def Bx.cnts:List Bx->Nat
 |[]=>0
 |x::r=>x.cnt+Bx.cnts r
end
theorem Bx.cnts_app:∀xs ys:List Bx,Bx.cnts (xs++ys)=Bx.cnts xs+Bx.cnts ys
 |[],_=>by show _=0+_; rw[Nat.zero_add]; rfl
 |x::xs,ys=>by
  show x.cnt+Bx.cnts (xs++ys)=x.cnt+Bx.cnts xs+Bx.cnts ys;rw[Bx.cnts_app xs ys];omega
mutual
def Bx.dep:Bx->Nat
 |.mk _ _ _ _ _ inner=>Bx.deps inner+1
def Bx.deps:List Bx->Nat
 |[]=>0
 |x::r=>max x.dep (Bx.deps r)
end
theorem Bx.deps_app:∀xs ys:List Bx,Bx.deps (xs++ys)=max (Bx.deps xs) (Bx.deps ys)
 |[],ys=>by show Bx.deps ys=max 0 (Bx.deps ys); omega
 |x::xs,ys=>by
  show max x.dep (Bx.deps (xs++ys))=max (max x.dep (Bx.deps xs)) (Bx.deps ys);rw[Bx.deps_app xs ys];omega
def bt1 (f:nQ->nQ->nQ->List Wt->List Bx)(rows:nQ->List Wt)(path spots label:nQ):Wt->List Bx
 |.plain sp tag s h r=>[.mk (label++[sp]) tag s path h (f path (spots++[sp]) [] r)]
 |.give sp _ _ r=>f path (spots++[sp]) (label++[sp]) r
 |.part sp _ _=>f (spots++[sp]) (spots++[sp]) (label++[sp]) (rows (spots++[sp]))
def bts (rows:nQ->List Wt):Nat->nQ->nQ->nQ->List Wt->List Bx
 |0,_,_,_,_=>[]
 |n+1,path,spots,label,row=>row.flatMap (bt1 (bts rows n) rows path spots label)
theorem bts_pv (rows:nQ->List Wt):∀(n:Nat) (path spots label:nQ) (row:List Wt),Bx.pvs (bts rows n path spots label row)=bxs rows n path spots label row:=by
 intro n
 induction n with
 |zero=>intro _ _ _ _; rfl
 |succ n ih =>
  intro path spots label row;rw[bts,bxs]
  induction row with
  |nil=>rfl
  |cons x row ihr =>
   rw[List.flatMap_cons,List.flatMap_cons,Bx.pvs_app,ihr]
   congr 1
   cases x with
   |plain sp t s h r =>
    show[PV.tup [pX (label++[sp]),.tup [.str t,.tup (s.map dQ),.tup (h.map (pK path)),.tup (Bx.pvs (bts rows n path (spots++[sp]) [] r))]]]=_;rw[ih]
    rfl
   |give sp n' i r=>exact ih _ _ _ _
   |part sp n' g=>exact ih _ _ _ _
theorem bts_ok {D:List En}:∀(n:Nat) (path spots label:nQ) (row:List Wt),Ft D n spots row->label.length+n<=500->(∀sp∈label,SpB sp)->Bx.Oks (bts (cQ D) n path spots label row)/\Bx.cnts (bts (cQ D) n path spots label row)=bl (cQ D) n spots row/\Bx.deps (bts (cQ D) n path spots label row)<=n:=by
 intro n
 induction n with
 |zero=>intro _ _ _ _ h; exact h.elim
 |succ n ih =>
  intro path spots label row ft hl hs
  replace ft:=ft.2
  rw[bts,bl]
  induction row with
  |nil=>exact⟨trivial,rfl,Nat.zero_le _⟩
  |cons x row ihr =>
   rw[List.flatMap_cons,List.map_cons,List.sum_cons];obtain⟨r1,r2,r3⟩:=ihr fun y hy=>ft y (List.mem_cons_of_mem _ hy);have hx:=ft x List.mem_cons_self
   have one:Bx.Oks (bt1 (bts (cQ D) n) (cQ D) path spots label x)/\Bx.cnts (bt1 (bts (cQ D) n) (cQ D) path spots label x)=bl1 (bl (cQ D) n) (cQ D) spots x/\Bx.deps (bt1 (bts (cQ D) n) (cQ D) path spots label x)<=n+1:=by
    have hs':∀sp,SpB sp->∀z∈label++[sp],SpB z:=fun sp h z hz=>by
     rcases List.mem_append.1 hz with hz | hz
     .exact hs z hz
     .cases List.mem_singleton.1 hz; exact h
    have hl':∀sp:List Key,(label++[sp]).length+n<=500:=fun sp=>by rw[List.length_append,List.length_singleton]; omega
    cases x with
    |plain sp t s h r =>
     obtain⟨h1,h2,h3⟩:=hx;obtain⟨a1,a2,a3⟩:=ih path (spots++[sp]) [] r h3 (by show 0+n<=500; omega) (fun _ z=>nomatch z);refine⟨⟨⟨⟨by have:=hl' sp; omega,hs' sp h1⟩,h2,a1⟩,trivial⟩,?_,?_⟩
     .show 1+Bx.cnts (bts (cQ D) n path (spots++[sp]) [] r)+0=1+bl (cQ D) n (spots++[sp]) r
      rw[a2,Nat.add_zero]
     .show max (Bx.deps _+1) 0<=n+1
      omega
    |give sp n' i r =>
     obtain⟨a1,a2,a3⟩:=ih path (spots++[sp]) (label++[sp]) r hx.2 (hl' sp) (hs' sp hx.1);exact⟨a1,a2,Nat.le_succ_of_le a3⟩
    |part sp n' g =>
     obtain⟨a1,a2,a3⟩:=ih (spots++[sp]) (spots++[sp]) (label++[sp]) (cQ D (spots++[sp])) hx.2.2 (hl' sp) (hs' sp hx.1);exact⟨a1,a2,Nat.le_succ_of_le a3⟩
   refine⟨Bx.oks_app one.1 r1,?_,?_⟩
   .rw [Bx.cnts_app,one.2.1,r2]
   .rw [Bx.deps_app]
    have:=one.2.2;omega
def oA:Key->Str
 |.inl (some i)=>txI i
 |_=>"-"
def spT (sp:List Key):Str:=match sp with
 |[k,.inl (some c)]=>oA k ++ "#" ++ txI c
 |_=>""
def cA (lab:nQ):Str:=Str.join "/" (lab.map spT)
def lS (c:Str×Int):Str:=c.1 ++ "=" ++ txI c.2
def pN (h:HdV):Str:="@" ++ h.ev
def cJ (deep:Int)(lab:nQ)(tag:Str)(ss:List (Str×Int))(hs:List HdV):List Str:=[txI deep,cA lab,tag]++ss.map lS++hs.map pN
mutual
def Bx.txt (deep:Int):Bx->List Str
 |.mk lab tag ss _ hs inner=>Str.join " " (cJ deep lab tag ss hs)::Bx.txts (deep+1) inner
def Bx.txts (deep:Int):List Bx->List Str
 |[]=>[]
 |x::r=>x.txt deep++Bx.txts deep r
end
theorem Bx.txts_app (deep:Int):∀xs ys:List Bx,Bx.txts deep (xs++ys)=Bx.txts deep xs++Bx.txts deep ys
 |[],_=>rfl
 |x::xs,ys=>by
  show x.txt deep++Bx.txts deep (xs++ys)=x.txt deep++Bx.txts deep xs++Bx.txts deep ys;rw[Bx.txts_app deep xs ys,List.append_assoc]
mutual
theorem Bx.txt_len (deep:Int):∀x:Bx,(x.txt deep).length=x.cnt
 |.mk lab tag ss path hs inner=>by
  show(Bx.txts (deep+1) inner).length+1=1+Bx.cnts inner;rw[Bx.txts_len (deep+1) inner];omega
theorem Bx.txts_len (deep:Int):∀xs:List Bx,(Bx.txts deep xs).length=Bx.cnts xs
 |[]=>rfl
 |x::r=>by
  show(x.txt deep++Bx.txts deep r).length=x.cnt+Bx.cnts r;rw[List.length_append,Bx.txt_len deep x,Bx.txts_len deep r]
end
theorem aC {k:Key}(h:KBd k):(oA k).length<=14:=by
 match k,h with
 |.inl none,_=>show(("-" : Str)).length<=14; decide +kernel
 |.inl (some i),h=>exact mW (by unfold KBd Bd at h; omega)
theorem sp_len {sp:List Key}(h:SpB sp):(spT sp).length<=29:=by
 obtain⟨k,c,rfl,h0,h1,hk⟩:=h;show(oA k ++ "#" ++ txI c).length<=29;rw[Str.length_append,Str.length_append];have:=aC hk;have:=mW (i:=c) (by omega);have e:(("#" : Str)).length=1:=by decide +kernel
 omega
theorem lE {α:Type}{f:α->Nat}{b:Nat}:∀{l:List α},(∀x∈l,f x<=b)->(l.map f).sum<=l.length * b
 |[],_=>Nat.zero_le _
 |x::l,h=>by
  have h1:=h x List.mem_cons_self;have h2:=lE (l:=l) fun y hy=>h y (List.mem_cons_of_mem _ hy);rw[List.map_cons,List.sum_cons,List.length_cons,Nat.succ_mul];omega
theorem oC {lab:nQ}(h:zC lab):((lab.map spT).map (·.length)).sum+(lab.map spT).length * (("/" : Str)).length<=15000:=by
 have e:(("/" : Str)).length=1:=by decide +kernel
 have h1:=lE (f:=fun s:Str=>s.length) (b:=29) (l:=lab.map spT) fun s hs=>by
  obtain⟨sp,hsp,rfl⟩:=List.mem_map.1 hs;exact sp_len (h.2 sp hsp)
 have h2:=h.1;rw[e];rw[List.length_map] at h1 ⊢;have h3:lab.length * 29<=500 * 29:=Nat.mul_le_mul_right _ h2;omega
theorem lab_len {lab:nQ}(h:zC lab):(cA lab).length<=15000:=Nat.le_trans (yP _ _) (oC h)
theorem set_len {c:Str×Int}(h:c.1.length<=8/\Bd c.2):(lS c).length<=23:=by
 unfold lS;rw[Str.length_append,Str.length_append];have:=mW (i:=c.2) (by have:=h.2; unfold Bd at this; omega);have e:(("=" : Str)).length=1:=by decide +kernel
 omega
theorem J1 {h:HdV}(e:h.ev.length<=8):(pN h).length<=9:=by
 unfold pN;rw[Str.length_append];have e2:(("@" : Str)).length=1:=by decide +kernel
 omega
theorem nH {deep:Int}{lab:nQ}{tag:Str}{ss:List (Str×Int)}{hs:List HdV}(hd:deep.natAbs<=1000)(hl:zC lab)(hp:Qb tag ss hs):((cJ deep lab tag ss hs).map (·.length)).sum+(cJ deep lab tag ss hs).length * ((" " : Str)).length<=16777216:=by
 obtain⟨p1,p2,p3,p4,p5⟩:=hp;have e:((" " : Str)).length=1:=by decide +kernel
 have h1:=lE (f:=fun s:Str=>s.length) (b:=15000) (l:=cJ deep lab tag ss hs) fun s hs'=>by
  unfold cJ at hs'
  rcases List.mem_append.1 hs' with hs' | hs'
  .rcases List.mem_append.1 hs' with hs' | hs'
   .simp only[List.mem_cons,List.not_mem_nil,or_false] at hs'
    rcases hs' with rfl | rfl | rfl
    .exact Nat.le_trans (mW (by omega)) (by decide)
    .exact lab_len hl
    .omega
   .obtain ⟨c,hc,rfl⟩:=List.mem_map.1 hs'
    exact Nat.le_trans (set_len (p5 c hc)) (by decide)
  .obtain ⟨h,hh,rfl⟩:=List.mem_map.1 hs'
   exact Nat.le_trans (J1 (p3 h hh).2) (by decide)
 have hl2:(cJ deep lab tag ss hs).length<=11:=by
  unfold cJ;rw[List.length_append,List.length_append,List.length_map,List.length_map];show 3+_+_<=11;omega
 have h3:(cJ deep lab tag ss hs).length * 15000<=11 * 15000:=Nat.mul_le_mul_right _ hl2;rw[e];omega
theorem adS {i j:Str}{C:CH}{Q:K1}(h:i.length+j.length<=100000)(q:Q (.str (i++j)) C):dF (.str i) (.str j) C Q:=by
 unfold dF;exact⟨Nat.le_trans h (by decide),q⟩
theorem l1:(("#" : Str)).length=1:=by decide +kernel
theorem l2:(("=" : Str)).length=1:=by decide +kernel
theorem l3:(("@" : Str)).length=1:=by decide +kernel
theorem aR {i:Int}(h:Bd i):i.natAbs<=1000000000000:=by unfold Bd at h; omega
section
variable {P:Program}{w:World}{K:PySem.W.Frag}{mg:Str->Option Value}{base:Heap}{a:Adr}
def gKeyT:GC:=fun ts C Q=>∃k:Key,ts=[mK k]/\KBd k/\Q (.str (oA k)) C
theorem wT (T:Txt P w K mg a):FnOk P w K mg base CX0 1 (a.f 4) (a.d 4) ["key"] (spC K gKeyT):=by
 have S:=(T.F 4 rfl).s;refine(T.F 4 rfl).ok (fun ts C R h=>?_) fun cdv A outer s H E hr=>⟨_,(kQ (bQ (sN (ct2 pC sD (cv 0) qU) vQ (eX bZ aK rfl T.fB rfl (ca1 (cv 0)))))),?_⟩
 .obtain ⟨k,rfl,_⟩:=h; rfl
 rintro ts C R ⟨k,rfl,hk,q⟩
 match k,hk,q with
 |.inl none,_,q =>
  refine XM ?_;refine fG (i:=0) rfl ?_;refine JX rfl ?_;exact q
 |.inl (some i),hk,q =>
  refine XM ?_;refine fG (i:=0) rfl ?_;refine eU rfl ?_;exact pG (aR hk) q
def gLabT:GC:=fun ts C Q=>∃lab:nQ,ts=[pX lab]/\zC lab/\∀C',Gr C C'->Q (.str (cA lab)) C'
theorem Je (T:Txt P w K mg a):FnOk P w K mg base CX0 2 (a.f 3) (a.d 3) ["label"] (spC K gLabT):=by
 have S:=(T.F 3 rfl).s;have sF:=wT (base:=base) T;refine(T.F 3 rfl).ok (fun ts C R h=>?_) fun cdv A outer s H E hr=>⟨_,(kQ (bQ (lU vQ (eK rfl (S.c (by decide +kernel)) (S.k (L:=0) rfl rfl rfl (by decide +kernel)) (kG (cv 0)) (fun _ _ _ _ _=>xJ) (fun _ _ _ _ _=>(lU vQ (gX (qQ (cf (T.F 4 rfl) sF hr (ca1 (cx (cv 0) zQ))) (ca1 (eX bZ aK rfl T.fB rfl (ca1 (cx (cv 0) zQ)))))))))))),?_⟩
 .obtain ⟨lab,rfl,_⟩:=h; rfl
 rintro ts C R ⟨lab,rfl,hl,q⟩;refine⟨⟨_,rfl⟩,?_⟩;refine tJ (fun zs acc C'=>Gr C C'/\∃us vs:nQ,lab=us++vs/\zs=vs.map zV/\acc=(us.map spT).map PV.str) ?_ ?_ _ _ _ ⟨Gr.refl,[],lab,rfl,rfl,rfl⟩
 .rintro z zs acc C1 ⟨g1,us,vs,e,hz,rfl⟩ L hL
  cases vs with
  |nil=>cases hz
  |cons sp vs =>
  obtain⟨rfl,rfl⟩:=List.cons.inj hz;obtain⟨k,c,rfl,c0,c1,hk⟩:=hl.2 sp (by rw[e]; exact List.mem_append_right _ List.mem_cons_self);have hle:=congrArg List.length e;rw[List.length_append,List.length_cons] at hle;have h5:=hl.1;refine⟨⟨_,rfl⟩,?_⟩;refine cX (xs:=[mK k,.int c]) sQ ?_;refine⟨k,rfl,hk,?_⟩;refine cX (xs:=[mK k,.int c]) (v:=.int c) rfl ?_;refine pG (by omega) ?_;refine⟨by show 2<=sizeLine; decide,fun p hp=>?_⟩
  refine gF (zs:=[oA k,txI c]) jQ ?_ ?_
  .have:=aC hk
   have:=mW (i:=c) (by omega);show(oA k).length+((txI c).length+0)+2 * (("#" : Str)).length<=_;rw[l1];omega
  refine hL _ _ ⟨?_,g1.trans (Gr.new hp _),us++[[k,.inl (some c)]],vs,by rw[List.append_assoc]; exact e,rfl,by rw[List.map_append,List.map_append]; rfl⟩;rw[List.length_map,List.length_map];exact Nat.lt_of_lt_of_le (show us.length < 501 by omega) (by decide)
 .rintro acc C1 ⟨g1,us,vs,e,hz,rfl⟩ p hp
  cases vs with
  |cons v vs=>cases hz
  |nil =>
  rw[List.append_nil] at e;subst e;refine gF jQ (Nat.le_trans (oC hl) (by decide)) ?_;exact q _ (g1.trans (Gr.new hp _))
theorem Xu (T:Txt P w K mg a):FnOk P w K mg base CX0 1 (a.f 37) (a.d 37) ["_law_label_here"] (spC K gLabT):=by
 have S:=(T.F 37 rfl).s
 refine(T.F 37 rfl).ok (fun ts C R h=>?_) fun cdv A outer s H E hr=>⟨_,(xQ (cs1 1 S.nd (gX iX))
  (xQ (oK PassesOwn.never rfl (cv 0) (iW rfl (kX (cg1 2 S.nd) (kX (cg1 3 S.nd) tK))) (kQ (vZ (cap (cv 1) (rQ oQ tQ (rQ oQ tQ (sN (ct2 pC sD (cv 2) qU) vQ (eX bZ aK rfl T.fB rfl (ca1 (cv 2)))) vQ) (eX bZ aK rfl T.fB rfl (ca1 (cv 3))))))))
  (kQ (bQ (lU vQ (cv 1)))))),?_⟩
 .obtain ⟨lab,rfl,_⟩:=h; rfl
 rintro ts C R ⟨lab,rfl,hl,q⟩;refine yQ ?_;refine⟨by show 0<=sizeLine; decide,fun wp hwp=>?_⟩
 try dsimp only
 refine aQ (fun ρ' C'=>∃(x2 x3:Option PV),ρ'=[some (pX lab),some (.ref wp),x2,x3]/\C' wp=some (.lst ((lab.map spT).map PV.str))/\Gr C C') (fun L hL=>?_) ?_
 .refine eG rfl ?_
  refine yZ (fun zs ρ C'=>∃(us vs:nQ) (x2 x3:Option PV),lab=us++vs/\zs=vs.map zV/\ρ=[some (pX lab),some (.ref wp),x2,x3]/\C' wp=some (.lst ((us.map spT).map PV.str))/\Gr C C') ?_ ?_ _ _ _ ⟨[],lab,_,_,rfl,rfl,rfl,jQ,Gr.new hwp _⟩
  .rintro z zs ρ C1 ⟨us,vs,x2,x3,e,hz,rfl,m1,g1⟩ L1 hL1
   cases vs with
   |nil=>cases hz
   |cons sp vs =>
   obtain⟨rfl,rfl⟩:=List.cons.inj hz;obtain⟨k,c,rfl,c0,c1,hk⟩:=hl.2 sp (by rw[e]; exact List.mem_append_right _ List.mem_cons_self);have hle:=congrArg List.length e;rw[List.length_append,List.length_cons] at hle;have h5:=hl.1;have k14:=aC hk;have c14:=mW (i:=c) (by omega);refine⟨rfl,?_⟩;refine mX (mX (aW ?_))
   try dsimp only
   refine⟨cW m1,?_⟩
   have fin:dF (.str (oA k)) (.str "#") C1 fun v C2=>wD zE (fJ (oZ 3) nM) [some (pX lab),some (.ref wp),some (mK k),some (.int c)] C2 fun y C3=>dF v y C3 fun v C4=>nW (.ref wp) [v] C4 fun _ C5=>L1 [some (pX lab),some (.ref wp),some (mK k),some (.int c)] C5:=by
    refine adS (by rw[l1]; omega) ?_;refine pG (by omega) ?_;refine adS (by rw[Str.length_append,l1]; omega) ?_;refine xU m1 ?_ ?_
    .rw [List.length_map,List.length_map]
     exact Nat.lt_of_lt_of_le (show us.length < 501 by omega) (by decide)
    exact hL1 _ _ ⟨us++[[k,.inl (some c)]],vs,_,_,by rw[List.append_assoc]; exact e,rfl,rfl,by rw[jQ,List.map_append,List.map_append]; rfl,xW g1 hwp _⟩
   match k,hk,fin with
   |.inl none,_,fin =>
    refine XM ?_;refine fG (i:=2) rfl ?_;refine JX rfl ?_;exact fin
   |.inl (some i),hk,fin =>
    refine XM ?_;refine fG (i:=2) rfl ?_;refine eU rfl ?_;refine pG (aR hk) ?_;exact fin
  .rintro ρ C1 ⟨us,vs,x2,x3,e,hz,rfl,m1,g1⟩
   cases vs with
   |cons v vs=>cases hz
   |nil =>
   rw[List.append_nil] at e;subst e;exact hL _ _ ⟨_,_,rfl,m1,g1⟩
 rintro ρ' C1 ⟨x2,x3,rfl,m1,g1⟩
 try dsimp only
 refine⟨⟨_,rfl⟩,?_⟩;refine gF m1 (Nat.le_trans (oC hl) (by decide)) ?_;exact q _ g1
end
theorem nO {α:Type}{c:TCE}{ρ:CSt}{Q:K1}{mk:α->PV}{tx:α->Str}{C:CH}{xs:List α}(hl:xs.length<=1000)(step:∀x∈xs,∀C1 (L:K1),Gr C C1->(∀C2,Gr C1 C2->L (.str (tx x)) C2)->c (some (mk x)::ρ) C1 L)
  (fin:∀p C',Gr C C'->C' p=some (.lst ((xs.map tx).map PV.str))->Q (.ref p) C'):wZ aU c ρ Q (xs.map mk) [] C:=by
 refine tJ (fun zs acc C'=>Gr C C'/\∃us vs:List α,xs=us++vs/\zs=vs.map mk/\acc=(us.map tx).map PV.str) ?_ ?_ _ _ _ ⟨Gr.refl,[],xs,rfl,rfl,rfl⟩
 .rintro z zs acc C1 ⟨g1,us,vs,e,hz,rfl⟩ L hL
  cases vs with
  |nil=>cases hz
  |cons v vs =>
  obtain⟨rfl,rfl⟩:=List.cons.inj hz;have hle:=congrArg List.length e;rw[List.length_append,List.length_cons] at hle;refine step v (by rw[e]; exact List.mem_append_right _ List.mem_cons_self) C1 L g1 fun C2 g2=>hL _ _ ⟨?_,g1.trans g2,us++[v],vs,by rw[List.append_assoc]; exact e,rfl,by rw[List.map_append,List.map_append]; rfl⟩;rw[List.length_map,List.length_map];exact Nat.lt_of_lt_of_le (show us.length < 1001 by omega) (by decide)
 .rintro acc C1 ⟨g1,us,vs,e,hz,rfl⟩ p hp
  cases vs with
  |cons v vs=>cases hz
  |nil =>
  rw[List.append_nil] at e;subst e;exact fin p _ (g1.trans (Gr.new hp _)) jQ
def vE (tag:Str)(ss:List (Str×Int))(path:nQ)(hs:List HdV)(inner:List PV):PV:=.tup [.str tag,.tup (ss.map dQ),.tup (hs.map (pK path)),.tup inner]
theorem xP {C:CH}{p q:Addr}{o:CO}(h:C p=some o)(h':C q=none):p≠q:=fun e=>by rw[e,h'] at h; cases h
section
variable {P:Program}{w:World}{K:PySem.W.Frag}{mg:Str->Option Value}{base:Heap}{a:Adr}
def gBoxT:GC:=fun ts C Q=>∃(deep:Int) (lab:nQ) (tag:Str) (ss:List (Str×Int)) (path:nQ) (hs:List HdV) (inner:List PV),ts=[.int deep,pX lab,vE tag ss path hs inner]/\deep.natAbs<=1000/\zC lab/\Qb tag ss hs /\
 ∀C',Gr C C'->Q (.str (Str.join " " (cJ deep lab tag ss hs))) C'
theorem ok_sbox (T:Txt P w K mg a):FnOk P w K mg base CX0 3 (a.f 2) (a.d 2) ["deep","label","box"] (spC K gBoxT):=by
 have S:=(T.F 2 rfl).s;have dH:=Je (base:=base) T
 refine(T.F 2 rfl).ok (fun ts C R h=>?_) fun cdv A outer s H E hr=>⟨_,(xQ (yR (i:=3) S.nd rfl (Or.inl rfl) rfl (S.c (by decide +kernel)) (S.k (L:=0) rfl rfl rfl (by decide +kernel)) (kG (cx (cv 2) zQ)) (fun _ _ _ _ _=>xJ) (fun _ _ _ _ _=>(lU vQ (gX (qQ (cx (cv 0) zQ) (ca1 (eX bZ aK rfl T.fB rfl (ca1 (cx (cv 0) zQ)))))))))
  (xQ (yR (i:=4) S.nd rfl (Or.inl rfl) rfl (S.c (by decide +kernel)) (S.k (L:=0) rfl rfl rfl (by decide +kernel)) (kG (cx (cv 2) zQ)) (fun _ _ _ _ _=>xJ) (fun _ _ _ _ _=>(rQ oQ tQ vQ (cx (cv 0) zQ))))
  (kQ (bQ (lU vQ (rQ oQ tQ (rQ oQ tQ (gX (qQ (eX bZ aK rfl T.fB rfl (ca1 (cv 0))) (qQ (cf (T.F 3 rfl) dH hr (ca1 (cv 1))) (ca1 (cx (cv 2) zQ))))) (cv 3)) (cv 4))))))),?_⟩
 .obtain ⟨deep,lab,tag,ss,path,hs,inner,rfl,_⟩:=h; rfl
 rintro ts C R ⟨deep,lab,tag,ss,path,hs,inner,rfl,hd,hl,hp,q⟩;obtain⟨p1,p2,p3,p4,p5⟩:=id hp;refine yQ ?_;refine cX (xs:=[.str tag,.tup (ss.map dQ),.tup (hs.map (pK path)),.tup inner]) (v:=.tup (ss.map dQ)) rfl ?_;refine nO (mk:=dQ) (tx:=lS) (by omega) (fun c hc C1 L g1 hL=>?_) fun sp C1 g1 ms=>?_
 .refine ⟨⟨_,rfl⟩,?_⟩
  refine cX (xs:=[.str c.1,.int c.2]) sQ ?_;refine cX (xs:=[.str c.1,.int c.2]) (v:=.int c.2) rfl ?_;have hb:=aR (p5 c hc).2;refine pG hb ?_;refine⟨by show 2<=sizeLine; decide,fun p hp=>?_⟩;refine gF (zs:=[c.1,txI c.2]) jQ ?_ ?_
  .have:=(p5 c hc).1
   have:=mW hb;show c.1.length+((txI c.2).length+0)+2 * (("=" : Str)).length<=_;rw[l2];omega
  exact hL _ (Gr.new hp _)
 try dsimp only
 refine yQ ?_;refine cX (xs:=[.str tag,.tup (ss.map dQ),.tup (hs.map (pK path)),.tup inner]) (v:=.tup (hs.map (pK path))) rfl ?_;refine nO (mk:=pK path) (tx:=pN) (by omega) (fun h hh C2 L g2 hL=>?_) fun hp2 C2 g2 mh=>?_
 .refine cX (xs:=[.str h.ev,.int h.rank,.bl h.last,pX path,.tup (h.ch.map uI)]) sQ ?_
  refine adS (by rw[l3]; have:=(p3 h hh).2; omega) ?_;exact hL _ Gr.refl
 try dsimp only
 refine⟨⟨_,rfl⟩,?_⟩;refine pG (by omega) ?_;refine⟨lab,rfl,hl,fun C3 g3=>?_⟩;refine cX (xs:=[.str tag,.tup (ss.map dQ),.tup (hs.map (pK path)),.tup inner]) sQ ?_;refine⟨by show 3<=sizeLine; decide,fun lp hlp=>?_⟩;have ms3:=g3 _ _ (g2 _ _ ms);have mh3:=g3 _ _ mh;refine vU jQ (Gr.new hlp _ _ _ ms3) ?_ fun lp2 hlp2=>?_
 .rw [List.length_map,List.length_map]
  exact Nat.le_trans (show 3+ss.length<=7 by omega) (by decide)
 refine vU jQ (Gr.new hlp2 _ _ _ (Gr.new hlp _ _ _ mh3)) ?_ fun lp3 hlp3=>?_
 .rw [List.length_append,List.length_map,List.length_map,List.length_map,List.length_map]
  exact Nat.le_trans (show 3+ss.length+hs.length<=11 by omega) (by decide)
 have ew:([PV.str (txI deep),.str (cA lab),.str tag]++(ss.map lS).map PV.str)++(hs.map pN).map PV.str=(cJ deep lab tag ss hs).map PV.str:=by
  unfold cJ;rw[List.map_append,List.map_append]
  rfl
 rw[ew];refine gF jQ (nH hd hl hp) ?_;exact q _ (((((g1.trans g2).trans g3).trans (Gr.new hlp _)).trans (Gr.new hlp2 _)).trans (Gr.new hlp3 _))
def uO (n:Nat):GC:=fun ts C Q=>∃(xs:List Bx) (deep:Int) (tp:Addr) (acc:List Str),ts=[.tup (Bx.pvs xs),.int deep,.ref tp]/\Bx.Oks xs/\Bx.deps xs<=n/\0<=deep/\deep+n<=1000/\acc.length+Bx.cnts xs<=200000/\C tp=some (.lst (acc.map PV.str)) /\
 ∀C',C' tp=some (.lst ((acc++Bx.txts deep xs).map PV.str))->ExS [tp] C C'->Q .non C'
theorem ok_show (T:Txt P w K mg a)(n:Nat):FnOk P w K mg base CX0 (n+4) (a.f 1) (a.d 1) ["row","deep","texts"] (spC K (uO n)):=by
 have main:∀n,FnOk P w K mg base CX0 (n+3) (a.f 1) (a.d 1) ["row","deep","texts"] (spC K (fun ts C Q=>∃m,n=m+1/\uO m ts C Q))->FnOk P w K mg base CX0 (n+4) (a.f 1) (a.d 1) ["row","deep","texts"] (spC K (uO n)):=by
  intro n Qe;have S:=(T.F 1 rfl).s;have yE:=(ok_sbox (base:=base) T).mono (show 3<=n+3 by omega)
  refine(T.F 1 rfl).ok (fun ts C R h=>?_) fun cdv A outer s H E hr=>⟨_,(kQ (oK PassesOwn.never rfl (cv 0) (iW rfl (kX (cg1 3 S.nd) (kX (cg1 4 S.nd) tK))) (xQ (vZ (cap (cv 2) (cf (T.F 2 rfl) yE hr (qQ (cv 1) (qQ (cv 3) (ca1 (cv 4)))))))
  (kQ (vZ (cf (T.F 1 rfl) Qe hr (qQ (cx (cv 4) zQ) (qQ (rQ oQ tQ (cv 1) zQ) (ca1 (cv 2)))))))))),?_⟩
  .obtain ⟨xs,deep,tp,acc,rfl,_⟩:=h; rfl
  rintro ts C R ⟨xs,deep,tp,acc,rfl,ok,hdp,hd0,hd,hl,m,q⟩;refine eG rfl ?_;refine yZ (fun zs ρ C'=>∃(us vs:List Bx) (x3 x4:Option PV),xs=us++vs/\zs=Bx.pvs vs/\Bx.Oks vs/\Bx.deps vs<=n/\ρ=[some (.tup (Bx.pvs xs)),some (.int deep),some (.ref tp),x3,x4]/\C' tp=some (.lst ((acc++Bx.txts deep us).map PV.str))/\ExS [tp] C C') ?_ ?_ _ _ _ ⟨[],xs,_,_,rfl,rfl,ok,hdp,rfl,by rw[Bx.txts,List.append_nil]; exact m,ExS.refl⟩
  .rintro z zs ρ C1 ⟨us,vs,x3,x4,e,hz,okv,hdv,rfl,m1,e1⟩ L hL
   cases vs with
   |nil=>cases hz
   |cons v vs =>
   obtain⟨rfl,rfl⟩:=List.cons.inj (show z::zs=v.pv::Bx.pvs vs from hz);obtain⟨lab,tag,ss,path,hs,inner⟩:=v;obtain⟨⟨o1,o2,o3⟩,o4⟩:=okv;have hdv:max (Bx.deps inner+1) (Bx.deps vs)<=n:=hdv;have hc:Bx.cnts xs=Bx.cnts us+((1+Bx.cnts inner)+Bx.cnts vs):=by rw[e,Bx.cnts_app]; rfl
   refine⟨rfl,?_⟩;refine mX (mX (aW ?_))
   try dsimp only
   refine xZ ?_;refine⟨cW m1,?_⟩;refine⟨deep,lab,tag,ss,path,hs,Bx.pvs inner,rfl,by omega,o1,o2,fun C2 g2=>?_⟩;have ht:=Bx.txts_len deep us;refine xU (g2 _ _ m1) ?_ ?_
   .rw [List.length_map,List.length_append,ht]
    exact Nat.lt_of_lt_of_le (show acc.length+Bx.cnts us < 200001 by omega) (by decide)
   try dsimp only
   refine cX (xs:=[.str tag,.tup (ss.map dQ),.tup (hs.map (pK path)),.tup (Bx.pvs inner)]) (v:=.tup (Bx.pvs inner)) rfl ?_;refine uW ?_;obtain⟨n',rfl⟩:∃n',n=n'+1:=⟨n - 1,by omega⟩;refine⟨n',rfl,inner,deep+1,tp,acc++Bx.txts deep us++[Str.join " " (cJ deep lab tag ss hs)],rfl,o3,by omega,by omega,by omega,?_,?_,fun C3 m3 e3=>?_⟩
   .rw [List.length_append,List.length_append,ht,List.length_singleton]
    omega
   .rw [jQ]
    simp only[List.map_append,List.map_cons,List.map_nil]
   refine hL _ _ ⟨us++[.mk lab tag ss path hs inner],vs,_,_,by rw[List.append_assoc]; exact e,rfl,o4,by omega,rfl,?_,?_⟩
   .rw [m3,Bx.txts_app]
    show _=some (CO.lst (List.map PV.str (acc++(Bx.txts deep us++(Str.join " " (cJ deep lab tag ss hs)::Bx.txts (deep+1) inner++[])))));rw[List.append_nil,List.append_assoc,List.append_assoc]
    rfl
   .refine e1.trans ?_
    refine ExS.trans ?_ e3;intro b o nb hb;rw[wQ (fun z=>nb (by rw[z]; exact List.mem_singleton.2 rfl))];exact g2 b o hb
  .rintro ρ C1 ⟨us,vs,x3,x4,e,hz,okv,hdv,rfl,m1,e1⟩
   cases vs with
   |cons v vs=>cases hz
   |nil =>
   rw[List.append_nil] at e;subst e;exact q C1 m1 e1
 induction n with
 |zero=>exact main 0 (mJ fun ts C Q ⟨m,e,_⟩=>by omega)
 |succ n ih =>
  refine main (n+1) ?_
  have e:(fun ts C Q=>∃m,n+1=m+1/\uO m ts C Q)=uO n:=by
   funext ts C Q
   refine propext ⟨fun⟨m,e,h⟩=>?_,fun h=>⟨n,rfl,h⟩⟩;cases Nat.succ.inj e;exact h
  rw[e];exact ih
def gStree:GC:=fun ts C Q=>∃xs:List Bx,ts=[.tup (Bx.pvs xs)]/\Bx.Oks xs/\Bx.deps xs<=37/\Bx.cnts xs<=100000/\∀p C',C p=none->C' p=some (.lst ((Bx.txts 0 xs).map PV.str))->Gr C C'->Q (.ref p) C'
theorem Z7 (T:Txt P w K mg a):FnOk P w K mg base CX0 42 (a.f 0) (a.d 0) ["tree"] (spC K gStree):=by
 have S:=(T.F 0 rfl).s;have Qe:=ok_show (base:=base) T 37
 refine(T.F 0 rfl).ok (fun ts C R h=>?_) fun cdv A outer s H E hr=>⟨_,(xQ (cs1 1 S.nd (gX iX))
  (xQ (vZ (cf (T.F 1 rfl) Qe hr (qQ (cv 0) (qQ zQ (ca1 (cv 1))))))
  (kQ (bQ (cv 1))))),?_⟩
 .obtain ⟨xs,rfl,_⟩:=h; rfl
 rintro ts C R ⟨xs,rfl,ok,hd,hc,q⟩;refine yQ ?_;refine⟨by show 0<=sizeLine; decide,fun tp htp=>?_⟩
 try dsimp only
 refine xZ ?_;refine⟨xs,0,tp,[],rfl,ok,hd,by decide,by decide,by show 0+_<=200000; omega,jQ,fun C1 m1 e1=>?_⟩
 try dsimp only
 refine q tp C1 htp m1 fun b o hb=>?_;have nb:b≠tp:=xP hb htp;exact e1 b o (fun z=>nb (List.mem_singleton.1 z)) (by rw[wQ nb]; exact hb)
end
section
variable {P:Program}{w:World}{K:PySem.W.Frag}{mg:Str->Option Value}{base:Heap}{a:Adr}
def J6 (n:Nat):GC:=fun ts C Q=>∃(xs:List Bx) (deep:Int),ts=[.tup (Bx.pvs xs),.int deep]/\Bx.Oks xs/\Bx.deps xs<=n/\0<=deep/\deep+n<=1000/\Bx.cnts xs<=100000 /\
 ∀p C',C p=none->C' p=some (.lst ((Bx.txts deep xs).map PV.str))->Gr C C'->Q (.ref p) C'
theorem Xt (T:Txt P w K mg a)(n:Nat):FnOk P w K mg base CX0 (n+2) (a.f 38) (a.d 38) U13 (spC K (J6 n)):=by
 have main:∀n,FnOk P w K mg base CX0 (n+1) (a.f 38) (a.d 38) U13 (spC K (fun ts C Q=>∃m,n=m+1/\J6 m ts C Q))->FnOk P w K mg base CX0 (n+2) (a.f 38) (a.d 38) U13 (spC K (J6 n)):=by
  intro n oF;have S:=(T.F 38 rfl).s;have Zd:=(Xu (base:=base) T).mono (show 1<=n+1 by omega)
  refine(T.F 38 rfl).ok (fun ts C R h=>?_) fun cdv A outer s H E hr=>⟨_,(xQ (cs1 2 S.nd (gX iX))
  (xQ (oK PassesOwn.never rfl (cv 0) (iW rfl (kX (cg1 3 S.nd) (kX (cg1 4 S.nd) tK))) (xQ (cs1 5 S.nd (gX (qQ (eX bZ aK rfl T.fB rfl (ca1 (cv 1))) (qQ (cf (T.F 37 rfl) Zd hr (ca1 (cv 3))) (ca1 (cx (cv 4) zQ))))))
  (xQ (oK PassesOwn.never rfl (cx (cv 4) zQ) (iW rfl (kX (cg1 6 S.nd) (kX (cg1 7 S.nd) tK))) (kQ (vZ (cap (cv 5) (rQ oQ tQ (rQ oQ tQ (cv 6) vQ) (eX bZ aK rfl T.fB rfl (ca1 (cv 7))))))))
  (xQ (oK PassesOwn.never rfl (cx (cv 4) zQ) (cg1 8 S.nd) (kQ (vZ (cap (cv 5) (rQ oQ tQ vQ (cx (cv 8) zQ))))))
  (kQ (cs1 2 S.nd (rQ oQ tQ (rQ oQ tQ (cv 2) (gX (ca1 (lU vQ (cv 5))))) (cf (T.F 38 rfl) oF hr (qQ (cx (cv 4) zQ) (ca1 (rQ oQ tQ (cv 1) zQ)))))))))))
  (kQ (bQ (cv 2))))),?_⟩
  .obtain ⟨xs,deep,rfl,_⟩:=h; rfl
  rintro ts C R ⟨xs,deep,rfl,ok,hdp,hd0,hd,hl,q⟩;refine yQ ?_;refine⟨by show 0<=sizeLine; decide,fun lp0 hlp0=>?_⟩
  try dsimp only
  refine aQ (fun ρ' C'=>∃(lp:Addr) (x3 x4 x5 x6 x7 x8:Option PV),ρ'=[some (.tup (Bx.pvs xs)),some (.int deep),some (.ref lp),x3,x4,x5,x6,x7,x8]/\C lp=none/\C' lp=some (.lst ((Bx.txts deep xs).map PV.str))/\Gr C C') (fun L hL=>?_) ?_
  rotate_left
  .rintro ρ' C' ⟨lp,x3,x4,x5,x6,x7,x8,rfl,l0,m,g⟩
   exact q lp C' l0 m g
  refine eG rfl ?_;refine yZ (fun zs ρ C'=>∃(us vs:List Bx) (lp:Addr) (x3 x4 x5 x6 x7 x8:Option PV),xs=us++vs/\zs=Bx.pvs vs/\Bx.Oks vs/\Bx.deps vs<=n/\ρ=[some (.tup (Bx.pvs xs)),some (.int deep),some (.ref lp),x3,x4,x5,x6,x7,x8]/\C lp=none/\C' lp=some (.lst ((Bx.txts deep us).map PV.str))/\Gr C C') ?_ ?_ _ _ _ ⟨[],xs,lp0,_,_,_,_,_,_,rfl,rfl,ok,hdp,rfl,hlp0,jQ,Gr.new hlp0 _⟩
  .rintro z zs ρ C1 ⟨us,vs,lp,x3,x4,x5,x6,x7,x8,e,hz,okv,hdv,rfl,l0,m1,g1⟩ L1 hL1
   cases vs with
   |nil=>cases hz
   |cons v vs =>
   obtain⟨rfl,rfl⟩:=List.cons.inj (show z::zs=v.pv::Bx.pvs vs from hz);obtain⟨lab,tag,ss,path,hs,inner⟩:=v;obtain⟨⟨o1,o2,o3⟩,o4⟩:=okv;obtain⟨p1,p2,p3,p4,p5⟩:=id o2;have hdv:max (Bx.deps inner+1) (Bx.deps vs)<=n:=hdv;have hc:Bx.cnts xs=Bx.cnts us+((1+Bx.cnts inner)+Bx.cnts vs):=by rw[e,Bx.cnts_app]; rfl
   have ht:=Bx.txts_len deep us;refine⟨rfl,?_⟩;refine mX (mX (aW ?_))
   try dsimp only
   refine yQ ?_;refine pG (by omega) ?_;refine⟨lab,rfl,o1,fun C2 g2=>?_⟩;refine cX (xs:=[.str tag,.tup (ss.map dQ),.tup (hs.map (pK path)),.tup (Bx.pvs inner)]) sQ ?_;refine⟨by show 3<=sizeLine; decide,fun wp hwp=>?_⟩;have g02:=g1.trans g2;have w0:C wp=none:=pV g02 hwp;have nlw:lp≠wp:=xP (g2 _ _ m1) hwp
   try dsimp only
   refine aQ (fun ρ' C'=>∃(x6 x7 x8:Option PV),ρ'=[some (.tup (Bx.pvs xs)),some (.int deep),some (.ref lp),some (pX lab),some (vE tag ss path hs (Bx.pvs inner)),some (.ref wp),x6,x7,x8]/\C' wp=some (.lst (([txI deep,cA lab,tag]++ss.map lS).map PV.str))/\C' lp=some (.lst ((Bx.txts deep us).map PV.str))/\Gr C C') (fun L2 hL2=>?_) ?_
   .refine Kb ?_
    refine cX (xs:=[.str tag,.tup (ss.map dQ),.tup (hs.map (pK path)),.tup (Bx.pvs inner)]) (v:=.tup (ss.map dQ)) rfl ?_;refine yZ (fun zs ρ C'=>∃(us' vs':List (Str×Int)) (x6 x7 x8:Option PV),ss=us'++vs'/\zs=vs'.map dQ/\ρ=[some (.tup (Bx.pvs xs)),some (.int deep),some (.ref lp),some (pX lab),some (vE tag ss path hs (Bx.pvs inner)),some (.ref wp),x6,x7,x8]/\C' wp=some (.lst (([txI deep,cA lab,tag]++us'.map lS).map PV.str))/\C' lp=some (.lst ((Bx.txts deep us).map PV.str))/\Gr C C') ?_ ?_ _ _ _ ⟨[],ss,_,_,_,rfl,rfl,rfl,jQ,by rw[wQ nlw]; exact g2 _ _ m1,xW g02 w0 _⟩
    .rintro z zs ρ C3 ⟨us',vs',y6,y7,y8,e',hz',rfl,mw,ml,g3⟩ L3 hL3
     cases vs' with
     |nil=>cases hz'
     |cons c vs' =>
     obtain⟨rfl,rfl⟩:=List.cons.inj hz';have hc5:=p5 c (by rw[e']; exact List.mem_append_right _ List.mem_cons_self);have hb:=aR hc5.2;have c8:=hc5.1;have hle:=congrArg List.length e';rw[List.length_append,List.length_cons] at hle;refine⟨rfl,?_⟩;refine mX (mX (aW ?_))
     try dsimp only
     refine⟨cW mw,?_⟩;refine adS (by rw[l2]; omega) ?_;refine pG hb ?_;have c14:=mW hb;refine adS (by rw[Str.length_append,l2]; omega) ?_;refine xU mw ?_ ?_
     .rw [List.length_map,List.length_append,List.length_map]
      exact Nat.lt_of_lt_of_le (show 3+us'.length < 8 by omega) (by decide)
     refine hL3 _ _ ⟨us'++[c],vs',_,_,_,by rw[List.append_assoc]; exact e',rfl,rfl,?_,by rw[wQ nlw]; exact ml,xW g3 w0 _⟩;rw[jQ]
     simp only[List.map_append,List.map_cons,List.map_nil,List.append_assoc]
     rfl
    .rintro ρ C3 ⟨us',vs',y6,y7,y8,e',hz',rfl,mw,ml,g3⟩
     cases vs' with
     |cons v vs=>cases hz'
     |nil =>
     rw[List.append_nil] at e';subst e';exact hL2 _ _ ⟨_,_,_,rfl,mw,ml,g3⟩
   rintro ρ' C3 ⟨y6,y7,y8,rfl,mw,ml,g3⟩
   try dsimp only
   refine aQ (fun ρ' C'=>∃(x6 x7 x8:Option PV),ρ'=[some (.tup (Bx.pvs xs)),some (.int deep),some (.ref lp),some (pX lab),some (vE tag ss path hs (Bx.pvs inner)),some (.ref wp),x6,x7,x8]/\C' wp=some (.lst ((cJ deep lab tag ss hs).map PV.str))/\C' lp=some (.lst ((Bx.txts deep us).map PV.str))/\Gr C C') (fun L2 hL2=>?_) ?_
   .refine Kb ?_
    refine cX (xs:=[.str tag,.tup (ss.map dQ),.tup (hs.map (pK path)),.tup (Bx.pvs inner)]) (v:=.tup (hs.map (pK path))) rfl ?_;refine yZ (fun zs ρ C'=>∃(us' vs':List HdV) (x6 x7 x8:Option PV),hs=us'++vs'/\zs=vs'.map (pK path)/\ρ=[some (.tup (Bx.pvs xs)),some (.int deep),some (.ref lp),some (pX lab),some (vE tag ss path hs (Bx.pvs inner)),some (.ref wp),x6,x7,x8]/\C' wp=some (.lst ((([txI deep,cA lab,tag]++ss.map lS)++us'.map pN).map PV.str))/\C' lp=some (.lst ((Bx.txts deep us).map PV.str))/\Gr C C') ?_ ?_ _ _ _ ⟨[],hs,_,_,_,rfl,rfl,rfl,by rw[List.map_nil,List.append_nil]; exact mw,ml,g3⟩
    .rintro z zs ρ C4 ⟨us',vs',y6,y7,y8,e',hz',rfl,mw,ml,g4⟩ L3 hL3
     cases vs' with
     |nil=>cases hz'
     |cons h vs' =>
     obtain⟨rfl,rfl⟩:=List.cons.inj hz';have h8:=(p3 h (by rw[e']; exact List.mem_append_right _ List.mem_cons_self)).2;have hle:=congrArg List.length e';rw[List.length_append,List.length_cons] at hle;refine⟨cW mw,?_⟩;refine cX (xs:=[.str h.ev,.int h.rank,.bl h.last,pX path,.tup (h.ch.map uI)]) sQ ?_;refine adS (by rw[l3]; omega) ?_;refine xU mw ?_ ?_
     .rw [List.length_map,List.length_append,List.length_append,List.length_map,List.length_map]
      exact Nat.lt_of_lt_of_le (show 3+ss.length+us'.length < 12 by omega) (by decide)
     refine hL3 _ _ ⟨us'++[h],vs',_,_,_,by rw[List.append_assoc]; exact e',rfl,rfl,?_,by rw[wQ nlw]; exact ml,xW g4 w0 _⟩;rw[jQ]
     simp only[List.map_append,List.map_cons,List.map_nil,List.append_assoc]
     rfl
    .rintro ρ C4 ⟨us',vs',y6,y7,y8,e',hz',rfl,mw,ml,g4⟩
     cases vs' with
     |cons v vs=>cases hz'
     |nil =>
     rw[List.append_nil] at e';subst e';exact hL2 _ _ ⟨_,_,_,rfl,mw,ml,g4⟩
   rintro ρ' C4 ⟨y6,y7,y8,rfl,mw,ml,g4⟩
   try dsimp only
   refine⟨⟨_,rfl⟩,?_⟩;refine gF mw (nH (by omega) o1 o2) ?_;refine⟨by show 1<=sizeLine; decide,fun q1 hq1=>?_⟩;refine vU (Gr.new hq1 _ _ _ ml) jQ ?_ fun q2 hq2=>?_
   .rw [List.length_map,ht]
    exact Nat.le_trans (show Bx.cnts us+1<=100001 by omega) (by decide)
   refine cX (xs:=[.str tag,.tup (ss.map dQ),.tup (hs.map (pK path)),.tup (Bx.pvs inner)]) (v:=.tup (Bx.pvs inner)) rfl ?_;refine uW ?_;obtain⟨n',rfl⟩:∃n',n=n'+1:=⟨n - 1,by omega⟩;refine⟨n',rfl,inner,deep+1,rfl,o3,by omega,by omega,by omega,by omega,fun q3 C5 q30 m3 g5=>?_⟩;have hi:=Bx.txts_len (deep+1) inner;refine vU (g5 _ _ jQ) m3 ?_ fun q4 hq4=>?_
   .rw [List.length_append,List.length_map,List.length_map,ht,hi]
    exact Nat.le_trans (show Bx.cnts us+1+Bx.cnts inner<=100001 by omega) (by decide)
   have g06:=((g4.trans (Gr.new hq1 _)).trans (Gr.new hq2 _)).trans g5;refine hL1 _ _ ⟨us++[.mk lab tag ss path hs inner],vs,q4,_,_,_,_,_,_,by rw[List.append_assoc]; exact e,rfl,o4,by omega,rfl,pV g06 hq4,?_,g06.trans (Gr.new hq4 _)⟩;rw[jQ,Bx.txts_app];show _=some (CO.lst (List.map PV.str (Bx.txts deep us++(Str.join " " (cJ deep lab tag ss hs)::Bx.txts (deep+1) inner++[]))))
   simp only[List.map_append,List.map_cons,List.map_nil,List.append_nil,List.append_assoc]
   rfl
  .rintro ρ C1 ⟨us,vs,lp,x3,x4,x5,x6,x7,x8,e,hz,okv,hdv,rfl,l0,m1,g1⟩
   cases vs with
   |cons v vs=>cases hz
   |nil =>
   rw[List.append_nil] at e;subst e;exact hL _ _ ⟨lp,_,_,_,_,_,_,rfl,l0,m1,g1⟩
 induction n with
 |zero=>exact main 0 (mJ fun ts C Q ⟨m,e,_⟩=>by omega)
 |succ n ih =>
  refine main (n+1) ?_
  have e:(fun ts C Q=>∃m,n+1=m+1/\J6 m ts C Q)=J6 n:=by
   funext ts C Q
   refine propext ⟨fun⟨m,e,h⟩=>?_,fun h=>⟨n,rfl,h⟩⟩;cases Nat.succ.inj e;exact h
  rw[e];exact ih
end
def aH (pts:List Pt)(V:Vl):List Bx:=bts (cQ (dZ pts V)) 37 [] [] [] (cQ (dZ pts V) [])
structure TrOk (xs:List Bx):Prop where
 ok:Bx.Oks xs
 dep:Bx.deps xs<=37
 cnt:Bx.cnts xs<=100000
theorem Qk {pts:List Pt}(hs:nF pts){V:Vl}(hV:VOk V):TrOk (aH pts V):=by
 have ft:=(kW hs hV).2;obtain⟨a1,a2,a3⟩:=bts_ok 37 [] [] [] _ ft (by decide) (fun _ z=>nomatch z);refine⟨a1,a3,?_⟩;unfold aH;rw[a2];exact ft.1
theorem TrOk.nil:TrOk []:=⟨trivial,Nat.zero_le _,Nat.zero_le _⟩
section
variable {P:Program}{w:World}{K:PySem.W.Frag}{mg:Str->Option Value}{base:Heap}{a:Adr}
def gLaw:GC:=fun ts C Q=>∃ns:List Int,ts=[.fz (ns.map PV.int)]/\ns.length<=63/\∀C',Q (.bl true) C'
theorem ok_law (T:Txt P w K mg a):FnOk P w K mg base CX0 120 (a.f 39) (a.d 39) ["_law_script"] (spC K gLaw):=by
 have S:=(T.F 39 rfl).s;have K0:=(ok_tape (base:=base) T).mono (show 1<=119 by decide);have Ze:=(Jf (base:=base) T).mono (show 26<=119 by decide);have Qf:=(Xr (base:=base) T).mono (show 38<=119 by decide);have oU:=(gT (base:=base) T).mono (show 37<=119 by decide);have uE:=(Jc (base:=base) T).mono (show 38<=119 by decide);have kS:=(Z7 (base:=base) T).mono (show 42<=119 by decide);have oF:=(Xt (base:=base) T 37).mono (show 39<=119 by decide)
 have eF:=(Jl (base:=base) T 3).mono (show 5<=119 by decide)
 refine(T.F 39 rfl).ok (fun ts C R h=>?_) fun cdv A outer s H E hr=>⟨_,(xQ (cs1 1 S.nd (cf (T.F 9 rfl) K0 hr (ca1 (cv 0))))
  (xQ (cs1 2 S.nd (cf (T.F 24 rfl) Ze hr (ca1 (cv 1))))
  (xQ (cs1 3 S.nd (cf (T.F 36 rfl) uE hr (ca1 (cf (T.F 30 rfl) oU hr (qQ (cv 2) (ca1 (cf (T.F 32 rfl) Qf hr (qQ (cv 1) (ca1 (cv 2))))))))))
  (xQ (cs1 4 S.nd (cf (T.F 36 rfl) uE hr (ca1 (cf (T.F 30 rfl) oU hr (qQ (cv 2) (ca1 eD))))))
  (xQ (dU PassesOwn.never rfl (gX (qQ (cv 3) (qQ (cv 4) (qQ (mQ iX) (qQ (cv 3) (ca1 (cv 4))))))) (cg1 5 S.nd) (xQ (cs1 6 S.nd (cf (T.F 0 rfl) kS hr (ca1 (cv 5))))
  (xQ (wX (ct_not (pP (cf (T.F 34 rfl) eF hr (qQ (cv 6) (ca1 (cf (T.F 38 rfl) oF hr (qQ (cv 5) (ca1 zQ)))))))) (kQ (bQ KG)) qX)
  (kQ (vZ (cap (cv 6) vQ))))))
  (kQ (bQ KG))))))),?_⟩
 .obtain ⟨ns,rfl,_⟩:=h; rfl
 rintro ts C R ⟨ns,rfl,hl,q⟩;refine yQ ?_;refine⟨ns,rfl,hl,fun t C1 n1 e1 T1=>?_⟩
 try dsimp only
 refine yQ ?_;refine⟨t,ns,rfl,T1,fun pts C2 hs T2 e2=>?_⟩
 try dsimp only
 have pv:∀V,PV.tup (bxs (cQ (dZ pts V)) 37 [] [] [] (cQ (dZ pts V) []))=.tup (Bx.pvs (aH pts V)):=fun V=>by unfold aH; rw[bts_pv]
 refine yQ ?_;refine⟨t,pts,ns,rfl,T2,hs,fun vv V C3 hV n3 m3 nvt T3 e3=>?_⟩;refine⟨pts,vv,V,rfl,hs,hV,m3,fun p1 C4 n4 m4 g4=>?_⟩;have len1:(dZ pts V).length<=559:=QN hs hV (bV hs);refine⟨p1,dZ pts V,rfl,m4,Kj hs hV 6 0 _ (bV hs),by omega,(kW hs hV).1,(kW hs hV).2,fun C5 g5=>?_⟩;rw[pv]
 try dsimp only
 refine yQ ?_;intro vv2 hvv2;have len2:(dZ pts []).length<=559:=QN hs VOk.nil (bV hs);refine⟨pts,vv2,[],rfl,hs,VOk.nil,jQ,fun p2 C6 n6 m6 g6=>?_⟩;refine⟨p2,dZ pts [],rfl,m6,Kj hs VOk.nil 6 0 _ (bV hs),by omega,(kW hs VOk.nil).1,(kW hs VOk.nil).2,fun C7 g7=>?_⟩;rw[pv];have o1:=Qk hs hV;have o2:=Qk hs VOk.nil;generalize aH pts V=b1 at o1;generalize aH pts []=b2 at o2
 try dsimp only
 refine aQ (fun ρ' C'=>True) (fun L hL=>?_) ?_
 rotate_left
 .rintro ρ' C' _
  exact q C'
 refine⟨by show 0<=sizeLine; decide,?_⟩;refine⟨by show 5<=sizeLine; decide,fun p hp=>?_⟩;refine⟨6,?_⟩;refine zY (xs:=([b1,b2,[],b1,b2]:List (List Bx)).map fun b=>PV.tup (Bx.pvs b)) (fun i ρ C'=>C' p=some (.lst (([b1,b2,[],b1,b2]:List (List Bx)).map fun b=>PV.tup (Bx.pvs b)))/\∃(x0 x1 x2 x3 x4 x5 x6:Option PV),ρ=[x0,x1,x2,x3,x4,x5,x6]) (fun _ _ _ h=>h.1) ?_ ?_ _ 0 _ _ ⟨jQ,_,_,_,_,_,_,_,rfl⟩ rfl (Nat.zero_le _)
 .rintro i z ρ C8 hx ⟨m8,x0,x1,x2,x3,x4,x5,x6,rfl⟩ L1 hL1
  have hb:∃b,z=.tup (Bx.pvs b)/\TrOk b:=by
   obtain⟨b,hb,rfl⟩:=List.mem_map.1 (List.mem_of_getElem? hx);refine⟨b,rfl,?_⟩
   simp only[List.mem_cons,List.not_mem_nil,or_false] at hb
   rcases hb with rfl | rfl | rfl | rfl | rfl
   .exact o1
   .exact o2
   .exact TrOk.nil
   .exact o1
   .exact o2
  obtain⟨b,rfl,ob⟩:=hb;refine yQ ?_;refine⟨b,rfl,ob.ok,ob.dep,ob.cnt,fun fp C9 f0 mf g9=>?_⟩
  try dsimp only
  refine xZ ?_;refine⟨b,0,rfl,ob.ok,ob.dep,by decide,by decide,ob.cnt,fun sp C10 s0 ms g10=>?_⟩;have mf10:=g10 _ _ mf;have hl:=Bx.txts_len 0 b;have hc:=ob.cnt;refine⟨.ref fp,.ref sp,rfl,.inr ⟨(Bx.txts 0 b).map PV.str,.lst,.inr ⟨rfl,fp,rfl,mf10⟩,.inr ⟨rfl,sp,rfl,ms⟩,by rw[List.length_map]; omega,fun z hz C'=>?_⟩,fun C11 g11=>?_⟩
  .obtain ⟨x,_,rfl⟩:=List.mem_map.1 hz
   exact .inl ⟨rfl,rfl⟩
  refine onot ?_;refine bX ?_
  try dsimp only
  have mf11:=g11 _ _ mf10;refine⟨cW mf11,?_⟩;refine xU mf11 ?_ ?_
  .rw [List.length_map]
   exact Nat.lt_of_lt_of_le (show(Bx.txts 0 b).length < 100001 by omega) (by decide)
  refine hL1 _ _ ⟨?_,_,_,_,_,_,_,_,rfl⟩;rw[wQ (xP m8 f0)];exact g11 _ _ (g10 _ _ (g9 _ _ m8))
 .rintro ρ C8 _
  exact hL _ _ trivial
end
theorem wO {K:PySem.W.Frag}{H:Hp}:∀ns:List Int,Reps K H (ns.map V.int) (ns.map PV.int)
 |[]=>.nil
 |n::ns=>.cons (.int n) (wO ns)
theorem walk {l:PySem.W.OpenLaw}{q:Program}{loose:List Str}{XP:(Str->Option Value)->Heap->Prop}{YP:World->Heap->Prop}{d:DefRec}{K:Params->PySem.W.Frag}(hn:l.most=some 63)(hdf:d.params.defaults=[])(hnm:d.name = "law")
  (hY:∀(w:World) (h:Heap),YP w h->(K w.params).In h)
  (F:∀(w:World) (mg:Str->Option Value) (h:Heap),(K w.params).In h->h.Ns mainGlobals mg->∃a:Adr,Txt l.prog w (K w.params) mg a) :
  PySem.W.WalkO q loose XP YP l.row.toRowW d [] (fun f vs=>PySem.call f vs):=by
 refine L2.walk_of (n:=63) (k:=120) (x:="_law_script") (CX:=fun _=>CX0) (sp:=fun w=>spC (K w.params) gLaw) hn (by decide) hdf ⟨rfl,by decide,by decide⟩ hY ?_ (fun w H a ns hl hO hS=>?_) fun _ _ _ _ _ z=>z
 .intro w mg fa h KX G hmg
  obtain⟨a,T⟩:=F w mg h KX G;rw[hnm] at hmg;have e:=hmg.symm.trans ((T.F 39 rfl).m rfl);cases e;obtain⟨_,_,_,_,_,_,_,_,_,e2,_⟩:=(T.F 39 rfl).F.ex;refine⟨a.d 39,?_,fun base _ _=>ok_law T⟩;rw[e2];exact fun s u=>.of_eq rfl
 .have hz:Fz (K w.params) H a (ns.map V.int):=by
   rcases hS with hS | hS
   .rcases hS with hS | ⟨o,hS⟩
    .rcases hO a with h | ⟨o,xs,h⟩
     .rw [hS] at h; cases h
     .rw [hS] at h; cases h
    .exact .inl ⟨o,hS⟩
   .exact .inr hS
  refine⟨[.fz (ns.map PV.int)],fun _=>none,fun v _=>v=.bl true,.cons (.fz hz (wO ns)) .nil,(fun _ _ z=>nomatch z),⟨ns,rfl,hl,fun _=>rfl⟩,?_⟩;rintro v H' t C' rfl r h' f';cases r
  rfl
end K34
open PySem PySem.W PyProof.Rows
namespace PySem.W.Fast
theorem tw10178869622063502324:True:=⟨⟩
theorem tw1024515577542472829:True:=⟨⟩
theorem tw10280771067203869433:True:=⟨⟩
theorem tw10433865642736384773:True:=⟨⟩
theorem tw10453521672484050837:True:=⟨⟩
theorem tw10676324815060711449:True:=⟨⟩
theorem tw10874119198581651580:True:=⟨⟩
theorem tw11025603109289862459:True:=⟨⟩
theorem tw11229616714630562937:True:=⟨⟩
theorem tw11262042558915433482:True:=⟨⟩
theorem tw11482263550546912823:True:=⟨⟩
theorem tw11632724508796406793:True:=⟨⟩
theorem tw11703097386455058597:True:=⟨⟩
theorem tw11782699191058513824:True:=⟨⟩
theorem tw11818614585473423905:True:=⟨⟩
theorem tw11858151641210851839:True:=⟨⟩
theorem tw1192076985519055748:True:=⟨⟩
theorem tw12144859232691075018:True:=⟨⟩
theorem tw12249541412945505437:True:=⟨⟩
theorem tw12452910407522815748:True:=⟨⟩
theorem tw12491487870377541477:True:=⟨⟩
theorem tw12492121317397320273:True:=⟨⟩
theorem tw12512571114076961915:True:=⟨⟩
theorem tw12516324800770608211:True:=⟨⟩
theorem tw12572848490033611748:True:=⟨⟩
theorem tw12608377427280237042:True:=⟨⟩
theorem tw12975922043687271839:True:=⟨⟩
theorem tw12976784958912562324:True:=⟨⟩
theorem tw13035500032220230889:True:=⟨⟩
theorem tw13529127888355086606:True:=⟨⟩
theorem tw13544654924269374565:True:=⟨⟩
theorem tw13735636720018507076:True:=⟨⟩
theorem tw13753767000756685222:True:=⟨⟩
theorem tw13831144822643533216:True:=⟨⟩
theorem tw13841706545934291122:True:=⟨⟩
theorem tw13943948968853396391:True:=⟨⟩
theorem tw14017295629356870524:True:=⟨⟩
theorem tw14236075827526203573:True:=⟨⟩
theorem tw14365735633522143418:True:=⟨⟩
theorem tw14379176810843050806:True:=⟨⟩
theorem tw14386827307263995872:True:=⟨⟩
theorem tw14390560028313202150:True:=⟨⟩
theorem tw14394484587507288801:True:=⟨⟩
theorem tw14562921398639273209:True:=⟨⟩
theorem tw14592455295663913526:True:=⟨⟩
theorem tw14840197273016847026:True:=⟨⟩
theorem tw15215614955435157831:True:=⟨⟩
theorem tw15569351085128782164:True:=⟨⟩
theorem tw15611899170049550060:True:=⟨⟩
theorem tw15709886113409987032:True:=⟨⟩
theorem tw15839470103505964786:True:=⟨⟩
theorem tw15939080500124848621:True:=⟨⟩
theorem tw16052034450251363628:True:=⟨⟩
theorem tw1611165515589494550:True:=⟨⟩
theorem tw16196654022011595615:True:=⟨⟩
theorem tw16409151670982139089:True:=⟨⟩
theorem tw16677570288049903685:True:=⟨⟩
theorem tw16848340826853636804:True:=⟨⟩
theorem tw16881573098785972627:True:=⟨⟩
theorem tw17030323857084164103:True:=⟨⟩
theorem tw1703603847239823960:True:=⟨⟩
theorem tw17097762359932403403:True:=⟨⟩
theorem tw17188768264721968839:True:=⟨⟩
theorem tw17464351843216893838:True:=⟨⟩
theorem tw17545648084802569091:True:=⟨⟩
theorem tw17623615897018981893:True:=⟨⟩
theorem tw17651249028414025613:True:=⟨⟩
theorem tw17869698028105248883:True:=⟨⟩
theorem tw17880194809265123461:True:=⟨⟩
theorem tw18102123085883935718:True:=⟨⟩
theorem tw18117533664148379166:True:=⟨⟩
theorem tw18242729766270725656:True:=⟨⟩
theorem tw1828933905597272855:True:=⟨⟩
theorem tw1978007966706924191:True:=⟨⟩
theorem tw2037419078346265370:True:=⟨⟩
theorem tw2414018097806519804:True:=⟨⟩
theorem tw2572653018224036098:True:=⟨⟩
theorem tw2754993971811959664:True:=⟨⟩
theorem tw2852788094734752837:True:=⟨⟩
theorem tw287102764315945777:True:=⟨⟩
theorem tw3002432186718919609:True:=⟨⟩
theorem tw3006710951411638386:True:=⟨⟩
theorem tw3027254879811913884:True:=⟨⟩
theorem tw3142994666357845303:True:=⟨⟩
theorem tw3221592863706616645:True:=⟨⟩
theorem tw3275544286052762422:True:=⟨⟩
theorem tw3306361070370583215:True:=⟨⟩
theorem tw3329724347533081076:True:=⟨⟩
theorem tw3388419408363175500:True:=⟨⟩
theorem tw3423051075693846149:True:=⟨⟩
theorem tw349294006541201815:True:=⟨⟩
theorem tw3523073576178019338:True:=⟨⟩
theorem tw3598175260848247574:True:=⟨⟩
theorem tw3869707133264105660:True:=⟨⟩
theorem tw4067385093385725898:True:=⟨⟩
theorem tw4176243730396113824:True:=⟨⟩
theorem tw4301228544994176920:True:=⟨⟩
theorem tw4422640688136574122:True:=⟨⟩
theorem tw4493077161390360895:True:=⟨⟩
theorem tw4614960172580165852:True:=⟨⟩
theorem tw4865118215837036804:True:=⟨⟩
theorem tw4896654332160218041:True:=⟨⟩
theorem tw4930120670646695504:True:=⟨⟩
theorem tw5245227976062135147:True:=⟨⟩
theorem tw5431567589585115304:True:=⟨⟩
theorem tw570547300099944551:True:=⟨⟩
theorem tw5836301124621029563:True:=⟨⟩
theorem tw600264597945699458:True:=⟨⟩
theorem tw622261810743107107:True:=⟨⟩
theorem tw662382657148685103:True:=⟨⟩
theorem tw6820125290407544302:True:=⟨⟩
theorem tw6841912576512500712:True:=⟨⟩
theorem tw6963193733221724515:True:=⟨⟩
theorem tw7014845574417670826:True:=⟨⟩
theorem tw721304462048366965:True:=⟨⟩
theorem tw7779396579707532259:True:=⟨⟩
theorem tw7895591128016398309:True:=⟨⟩
theorem tw8005426321202036398:True:=⟨⟩
theorem tw8121451414496510748:True:=⟨⟩
theorem tw81245173870078912:True:=⟨⟩
theorem tw8133958223048964623:True:=⟨⟩
theorem tw8274130345559315664:True:=⟨⟩
theorem tw8374482091994581597:True:=⟨⟩
theorem tw854728417388984:True:=⟨⟩
theorem tw859523103945386838:True:=⟨⟩
theorem tw8663565316449469873:True:=⟨⟩
theorem tw874105060222170830:True:=⟨⟩
theorem tw8849610494085025966:True:=⟨⟩
theorem tw8871798935487961209:True:=⟨⟩
theorem tw893541658803684819:True:=⟨⟩
theorem tw9147609570655377363:True:=⟨⟩
theorem tw9238893945971240490:True:=⟨⟩
theorem tw9261889870409764013:True:=⟨⟩
theorem tw9336255455562302561:True:=⟨⟩
theorem tw9469320310111361725:True:=⟨⟩
theorem tw9511699419803328754:True:=⟨⟩
theorem tw9885953236200747303:True:=⟨⟩
theorem tw9942298517187479167:True:=⟨⟩
theorem tw9952435065018957396:True:=⟨⟩
end PySem.W.Fast
set_option maxRecDepth 100000 in
set_option maxHeartbeats 0 in
theorem PySem.Challenge.cw_viewwood_k34_trees_shown_holds : PySem.Challenge.rw_viewwood_k34_trees_shown.Holds := by
 w_on; o_law; k_head; (case hw=>w_witness2)
 k_fill
 refine K34.walk (l:=PySem.Challenge.rw_viewwood_k34_trees_shown) rfl rfl rfl (fun w h Y=>PySem.W.kIn_of Y) ?F
 case F =>
  intro w mg h KX G;refine K34.txt_mk KX G ?_ (by k_is) (by k_is) (by k_is) (by k_is) (by k_is) (by k_is) (by k_is) (by k_is) (by k_is) (by k_is) (by k_is) (by k_is) (by k_is) (by k_is) (by k_is) (by k_is) (by k_is) (by k_is) (by k_is) (by k_is) (by k_is) (by k_is) (by k_is) (by k_is) (by k_is) (by k_is) (by k_is);unfold K34.tab
  repeat first | refine⟨⟨_,_,_,_,_,_,_,_,_,_,by k_is,by k_is,by k_is,by k_is⟩,?_⟩ | refine⟨⟨_,_,_,_,_,_,_,_,_,_,_,by k_is,by k_is,by k_is,by k_is,by k_is,by k_is⟩,?_⟩
  exact trivial
