import PyProof.Rows.All
import Wide.All
import OpenK.AllK
import Wide.FinOn
import Lean
import PyProof.EqAt
import PyProof.EqKinds
import PyProof.TupleCall
import PyProof.DictUpdate
import KE.KDictOf
import PyProof.AttrMissHeap
import KE.KSortTup
import KE.KItemsList
import PyProof.DictWalks
import PyProof.Rows.TupDisplay
import KE.KEqDict
import PyProof.NeKinds
import KE.KRevIter
import PyProof.ListRange
import KE.KDictSum
import PySem.Challenge.RW_viewwood_k21_answers_and_boxes
set_option Elab.async false
set_option linter.all false
set_option maxRecDepth 100000
set_option maxHeartbeats 4000000
namespace PySem
open Sem (wp)
section
variable {prog:Program}{w:World}{K:Type}[DecidableEq K](knd:KeyKind prog w K)
inductive ItemsTup (h:Heap):List (List K)->List Value->Prop
 |nil:ItemsTup h [] []
 |cons {k:List K} {b:Addr} {kss:List (List K)} {vs:List Value}:IsTupleKey knd h k b->ItemsTup h kss vs->ItemsTup h (k::kss) (.ref b::vs)
def IsPathKey (h:Heap)(kss:List (List K))(a:Addr):Prop:=∃o items n,h.get? a=some o/\o.cls=.type "tuple"/\o.data=.seq items n/\ItemsTup knd h kss items.toList
variable {knd}
theorem ItemsTup.inj {h:Heap}{x y:List (List K)}{vs:List Value}(hx:ItemsTup knd h x vs)(hy:ItemsTup knd h y vs):x=y:=by
 induction hx generalizing y with
 |nil=>(cases hy; rfl)
 |cons h1 _ ih=>cases hy with | cons h2 t2=>rw[h1.inj h2,ih t2]
theorem ItemsTup.keeps {h h':Heap}{d:Addr}{o:Obj}{es:Array DictEntry}{ep:Nat}{x:List (List K)}{vs:List Value}(hx:ItemsTup knd h x vs)(ho:h.get? d=some o)(hd:o.data=.dict es ep)(hs:Heap.SameBut d h h'):ItemsTup knd h' x vs:=by
 induction hx with
 |nil=>exact .nil
 |cons h1 _ ih=>exact .cons (h1.keeps ho hd hs) ih
theorem IsPathKey.typeIs {s:Shared}{kss:List (List K)}{a:Addr}(x:IsPathKey knd s.heap kss a):s.TypeIs (.ref a) "tuple":=by
 obtain⟨o,_,_,e,c,_⟩:=x;exact⟨o,e,c⟩
theorem IsPathKey.inj {h:Heap}{a:Addr}{x y:List (List K)}(hx:IsPathKey knd h x a)(hy:IsPathKey knd h y a):x=y:=by
 obtain⟨o,its,n,e1,_,e2,e3⟩:=hx;obtain⟨o',its',n',f1,_,f2,f3⟩:=hy;cases e1.symm.trans f1;cases e2.symm.trans f2;exact e3.inj f3
theorem IsPathKey.keeps {h h':Heap}{kss:List (List K)}{a d:Addr}{o:Obj}{es:Array DictEntry}{ep:Nat}(x:IsPathKey knd h kss a)(ho:h.get? d=some o)(hd:o.data=.dict es ep)(hs:Heap.SameBut d h h'):IsPathKey knd h' kss a:=by
 obtain⟨o',its,n,e1,e2,e3,e4⟩:=x
 have hne:a≠d:=by
  intro z;rw[z,ho] at e1;cases e1;rw[hd] at e3;cases e3
 exact⟨o',its,n,(hs.2 a hne).trans e1,e2,e3,e4.keeps ho hd hs⟩
def gX (knd:KeyKind prog w K)(kss:List (List K)):Int:=reduceHash (Builtin.Tuple.tupleHashOf (kss.map (tupleKeyHash knd)))
def yY (kss:List (List K)):Nat:=(kss.map fun k=>k.length+1).sum+1
variable {A:Around}{E:Value->Shared->Prop}{s:Shared}
theorem uW {kss:List (List K)}{a:Addr}{Q:Int->Shared->Prop}(hu:A.units+1 < cLine)(hk:IsPathKey knd s.heap kss a)(h:Q (gX knd kss) { s with toks:=s.toks+yY kss }):
  wpAny (model prog w) A (pyHash (.ref a)) Q E s:=by
 have hT:=hk.typeIs;obtain⟨o,items,n,ho,_,hd,hi⟩:=hk
 (unfold pyHash; first | unfold pyHashByItsType | skip)
 (first | refine wpAny_bind (wpAny_cRoomFor_or (.inr (Nat.lt_of_succ_lt hu)) ?_) | skip)
 refine wpAny_bind (wpAny_specialOf (by exact hT) F.slot_tuple_hash.lookup (?_));show wpAny _ _ (if (some (Value.builtin "tuple.__hash__")==some Value.none)=true then (_) else _) Q E s;rw[if_neg (by intro z; rw[beq_builtin_none] at z; exact Bool.false_ne_true z)];refine wpAny_bind (wpAny_specialOf (by exact hT) F.slot_tuple_hash.lookup (?_));show wpAny _ _ (callSpecialIfBoundUnlessNone? (.ref a) "__hash__" (_) >>= _) Q E s
 refine wpAny_bind (wpAny_callSpecialIfBoundUnlessNone?_slot (by exact hT) F.slot_tuple_hash (wpAny_call_entry F.slot_tuple_hash (by exact hT) F.entry_tuple_hash (?_) (F.args_tuple_hash_1 _)));show wpAny _ _ (Builtin.Tuple.tupleItemsOf (.ref a) >>= (_)) _ _ s
 (refine wpAny_bind (wpAny_tupleItemsOf ho hd (?_)); refine wpAny_bind ?_; rw[<- Array.forIn_toList])
 refine wpAny_forIn_list _ (fun rest (b:Array Int) s'=>∃done left,kss=done++left/\ItemsTup knd s.heap left rest/\b.toList=done.map (tupleKeyHash knd)/\s'={ s with toks:=s.toks+(done.map fun k=>k.length+1).sum }) _ ?_ ?_ _ _ ⟨[],kss,rfl,hi,rfl,rfl⟩
 .rintro x rest b s' ⟨done,left,rfl,hl,hb,rfl⟩
  cases hl with
  |@cons k b' ks' _ h1 hl' =>
   refine wpAny_bind (wpAny_pyHash_tuple (A:=A.in1) hu h1 ?_)
   first
    |exact wpAny_pure ⟨done++[k],ks',by simp,hl',by simp[hb],by simp[Nat.add_assoc]⟩
    |exact wpAny_bind (wpAny_pure (wpAny_pure ⟨done++[k],ks',by simp,hl',by simp[hb],by simp[Nat.add_assoc]⟩))
 .rintro b s' ⟨done,left,rfl,hl,hb,rfl⟩
  cases hl;rw[List.append_nil] at h
  (show wpAny _ _ (retInt (Builtin.Tuple.tupleHashOf b.toList)) _ _ _; rw[hb]; refine wpAny_ret_mkInt ?_)
  unfold gX reduceHash yY at h;generalize Builtin.Tuple.tupleHashOf (done.map (tupleKeyHash knd))=hh at h ⊢;show wpAny _ _ (if (decide (-(2:Int) ^ 63<=hh)&&decide (hh < 2 ^ 63))=true then _ else _) Q E _
  by_cases hr:(decide (-(2:Int) ^ 63<=hh)&&decide (hh < 2 ^ 63))=true
  ·(rw[if_pos hr]; rw[if_pos hr] at h)
   exact wpAny_pure (by simpa [Nat.add_assoc] using h)
  ·(rw[if_neg hr]; rw[if_neg hr] at h)
   exact wpAny_bind (wpAny_rule (wpAny_pure (by simpa [Nat.add_assoc] using h)))
theorem sM {x y:List (List K)}{a b:Addr}{P:Fin->Shared->Prop}(hu:A.units < cLine)(hx:IsPathKey knd s.heap x a)(hy:IsPathKey knd s.heap y b)(h:P (.done (.ret (.bool (decide (x=y))))) s):
  wpAny (model prog w) A (Builtin.«tuple.__eq__» ⟨[.ref a,.ref b],[]⟩) P E s:=by
 have hTb:=hy.typeIs;obtain⟨oa,xs,na,hoa,_,hda,hia⟩:=hx;obtain⟨ob,ys,nb,hob,_,hdb,hib⟩:=hy
 (show wpAny _ _ (isInstance (.ref b) (.type "tuple") >>= _) _ _ s; refine wpAny_bind (wpAny_isInstance hTb isSubtype_tuple_tuple ?_))
 (simp only[Bool.not_true,Bool.false_eq_true,if_false]; refine wpAny_bind (wpAny_tupleItemsOf hoa hda ?_); refine wpAny_bind (wpAny_tupleItemsOf hob hdb ?_); refine wpAny_bind ?_)
 refine wpAny_forIn_list _ (fun rest r s'=>r.1=none/\s'=s/\∃x' y' xs' ys',rest=List.zip xs' ys'/\ItemsTup knd s.heap x' xs'/\ItemsTup knd s.heap y' ys'/\decide (x'=y')=decide (x=y)/\(xs'.length==ys'.length)=(xs.size==ys.size)) _ ?_ ?_ _ _ ⟨rfl,rfl,x,y,xs.toList,ys.toList,rfl,hia,hib,rfl,by simp⟩
 .rintro ⟨u,v⟩ rest r s' ⟨hr,rfl,x',y',xs',ys',hz,hx',hy',hdec,hlen⟩
  cases hx' with
  |nil=>simp at hz
  |@cons k1 b1 x'' xs'' h1 hx'' =>
   cases hy' with
   |nil=>simp at hz
   |@cons k2 b2 y'' ys'' h2 hy'' =>
    (simp only[List.zip_cons_cons,List.cons.injEq,Prod.mk.injEq] at hz; obtain⟨⟨rfl,rfl⟩,rfl⟩:=hz)
    refine wpAny_bind (wpAny_eqBool_tuple hu h1 h2 ?_)
    by_cases hk:k1=k2
    .subst hk
     (rw[decide_eq_true rfl]; simp only[Bool.not_true,Bool.false_eq_true,if_false])
     refine wpAny_pure ⟨rfl,rfl,x'',y'',xs'',ys'',rfl,hx'',hy'',?_,by simpa using hlen⟩;rw[<- hdec]
     (by_cases hxy:x''=y''<;>simp[hxy])
    ·(rw[decide_eq_false hk]; simp only[Bool.not_false,if_true])
     have hf:decide (x=y)=false:=by (rw[<- hdec]; simp[hk])
     rw[hf] at h;exact wpAny_bind (wpAny_pure (wpAny_pure (wpAny_pure h)))
 .rintro ⟨r1,r2⟩ s' ⟨hr,rfl,x',y',xs',ys',hz,hx',hy',hdec,hlen⟩
  (simp only at hr; subst hr; refine wpAny_pure ?_)
  have hfin:(xs.size==ys.size)=decide (x=y):=by
   rw[<- hdec,<- hlen]
   cases hx' with
   |nil=>(cases hy' with | nil=>simp | cons _ _=>simp)
   |cons _ _=>(cases hy' with | nil=>simp | cons _ _=>simp at hz)
  (show P (.done (.ret (.bool (xs.size==ys.size)))) s'; rw[hfin]; exact h)
theorem gW {x y:List (List K)}{a b:Addr}{Q:Bool->Shared->Prop}(hu:A.units+1 < cLine)(hx:IsPathKey knd s.heap x a)(hy:IsPathKey knd s.heap y b)(h:Q (decide (x=y)) s):
  wpAny (model prog w) A (eqBool (.ref a) (.ref b)) Q E s:=by
 (unfold eqBool; try with_reducible refine wpAny_holding ?_)
 show wpAny _ _ (if (Value.ref a==Value.ref b)=true then (_) else _) Q E s
 by_cases hab:(Value.ref a==Value.ref b)=true
 .rw [if_pos hab]
  have e:a=b:=by (have:=eq_of_beq hab; injection this)
  subst e;obtain rfl:=hx.inj hy;exact wpAny_bind (wpAny_rule (wpAny_pure (by simpa using h)))
 .rw [if_neg hab]
  exact wpAny_bind (wpAny_richCompare_same_room (op:=.Eq) hx.typeIs hy.typeIs F.slot_tuple_eq (wpAny_call_entry F.slot_tuple_eq hx.typeIs F.entry_tuple_eq (sM (A:=A.in1) hu hx hy ⟨_,rfl,(fun e=>nomatch e),wpAny_truthy_bool h⟩) (F.args_tuple_eq_2 _ _)) (Nat.lt_of_succ_lt hu))
theorem bD (n:Nat){ks:List K}{a:Addr}{Q:Bool->Shared->Prop}(hk:IsTupleKey knd s.heap ks a)(h:Q true s):wpAny (model prog w) A (eqIsQuiet (n+1) (.ref a)) Q E s:=by
 have hT:=hk.typeIs;obtain⟨o,items,m,ho,_,hd,hi⟩:=hk
 (unfold eqIsQuiet; refine wpAny_bind (wpAny_specialOf hT F.slot_tuple_eq.lookup ?_))
 (show wpAny _ _ (isInstance (.ref a) (.type "tuple") >>= _) _ _ s; refine wpAny_bind (wpAny_isInstance hT isSubtype_tuple_tuple ?_))
 (simp only[Bool.not_true,Bool.false_eq_true,if_false]; refine wpAny_bind (wpAny_seqItems ho hd ?_); refine wpAny_bind ?_)
 (show wpAny _ _ (forIn items _ _) _ _ s; rw[<- Array.forIn_toList])
 refine wpAny_forIn_list _ (fun rest r s'=>r.1=none/\s'=s/\∀v∈rest,carriedByValue v=true) _ ?_ ?_ _ _ ⟨rfl,rfl,hi.byValue⟩
 .rintro v rest r s' ⟨hr,rfl,hall⟩
  (rw[eqIsQuiet_byValue _ (hall v List.mem_cons_self)]; refine wpAny_bind (wpAny_pure ?_))
  (simp only[Bool.not_true,Bool.false_eq_true,if_false]; exact wpAny_pure ⟨rfl,rfl,fun u hu'=>hall u (List.mem_cons_of_mem _ hu')⟩)
 .rintro ⟨r1,r2⟩ s' ⟨hr,rfl,_⟩
  (simp only at hr; subst hr; exact wpAny_pure h)
theorem lP {kss:List (List K)}{a:Addr}{Q:Bool->Shared->Prop}(hk:IsPathKey knd s.heap kss a)(h:Q true s):wpAny (model prog w) A (eqIsQuiet 8 (.ref a)) Q E s:=by
 have hT:=hk.typeIs;obtain⟨o,items,m,ho,_,hd,hi⟩:=hk
 (unfold eqIsQuiet; refine wpAny_bind (wpAny_specialOf hT F.slot_tuple_eq.lookup ?_))
 (show wpAny _ _ (isInstance (.ref a) (.type "tuple") >>= _) _ _ s; refine wpAny_bind (wpAny_isInstance hT isSubtype_tuple_tuple ?_))
 (simp only[Bool.not_true,Bool.false_eq_true,if_false]; refine wpAny_bind (wpAny_seqItems ho hd ?_); refine wpAny_bind ?_)
 (show wpAny _ _ (forIn items _ _) _ _ s; rw[<- Array.forIn_toList])
 refine wpAny_forIn_list _ (fun rest r s'=>r.1=none/\s'=s/\∃x',ItemsTup knd s.heap x' rest) _ ?_ ?_ _ _ ⟨rfl,rfl,_,hi⟩
 .rintro v rest r s' ⟨hr,rfl,x',hall⟩
  cases hall with
  |cons h1 h2 =>
   refine wpAny_bind (bD 6 h1 ?_)
   (simp only[Bool.not_true,Bool.false_eq_true,if_false]; exact wpAny_pure ⟨rfl,rfl,_,h2⟩)
 .rintro ⟨r1,r2⟩ s' ⟨hr,rfl,_⟩
  (simp only at hr; subst hr; exact wpAny_pure h)
end
def aJ {prog:Program}{w:World}{K:Type}[DecidableEq K](knd:KeyKind prog w K):HeapKind prog w (List (List K)) where
 is:=IsPathKey knd
 hash:=gX knd
 draws:=yY
 room:=fun A=>A.units+1 < cLine
 inj:=fun hx hy=>hx.inj hy
 keeps:=fun x ho hd hs=>x.keeps ho hd hs
 pyHash:=fun hu hk h=>uW hu hk h
 eqBool:=fun hu hx hy h=>gW hu hx hy h
 quiet:=fun hk h=>lP hk h
theorem uX {prog:Program}{w:World}{K:Type}[DecidableEq K]{knd:KeyKind prog w K}{A:Around}(hu:A.units+2 < cLine):(aJ knd).room A.in1:=hu
end PySem
namespace L2
open PySem PySem.Spec PyProof.Rows
abbrev Key:=Sum (Option Int) Str
def fN:Value->Bool
 |.none=>true
 |_=>false
def eB:Key->Value->Bool
 |.inl (some k),v=>Value.isInt k v
 |.inl none,v=>fN v
 |.inr x,v=>Value.isStrOf x v
def keyH (w:World):Key->Int
 |.inl (some k)=>hashInt k
 |.inl none=>4238894112
 |.inr x=>hashStr w x
theorem yB {v:Value}(h:fN v=true):v=.none:=by
 cases v<;>first | rfl | cases h
theorem oX:∀{k:Key}{v:Value},eB k v=true->(∃i t,k=Sum.inl (some i)/\v=Value.int i t)\/(∃x t,k=Sum.inr x/\v=Value.str x t)\/(k=Sum.inl none/\v=Value.none)
 |.inl (some i),v,h=>by
  obtain⟨t,e⟩:=Value.isInt_shape (k:=i) (v:=v) h;exact .inl ⟨i,t,rfl,e⟩
 |.inl none,v,h=>.inr (.inr ⟨rfl,yB h⟩)
 |.inr x,v,h=>by
  obtain⟨t,e⟩:=Value.isStrOf_shape (x:=x) (v:=v) h;exact .inr (.inl ⟨x,t,rfl,e⟩)
theorem rR (i:Int)(t:Tok):eB (.inl (some i)) (.int i t)=true:=by simp[eB,Value.isInt]
theorem lR (x:Str)(t:Tok):eB (.inr x) (.str x t)=true:=by simp[eB,Value.isStrOf]
theorem oO {a b:Key}(h:a≠b):decide (a=b)=false:=decide_eq_false h
theorem key_ii (a b:Int):decide ((Sum.inl (some a):Key)=Sum.inl (some b))=(a==b):=by
 by_cases e:a=b
 .subst e; simp
 .rw [oO fun q=>e (Option.some.inj (Sum.inl.inj q))]
  exact(beq_eq_false_iff_ne.mpr e).symm
theorem key_ss (a b:Str):decide ((Sum.inr a:Key)=Sum.inr b)=decide (a=b):=by
 by_cases e:a=b
 .subst e; simp
 .rw [oO fun q=>e (Sum.inr.inj q),decide_eq_false e]
theorem key_is (i:Int)(y:Str):decide ((Sum.inl (some i):Key)=Sum.inr y)=false:=decide_eq_false nofun
theorem key_in (i:Int):decide ((Sum.inl (some i):Key)=Sum.inl none)=false:=decide_eq_false nofun
theorem key_si (x:Str)(j:Int):decide ((Sum.inr x:Key)=Sum.inl (some j))=false:=decide_eq_false nofun
theorem key_sn (x:Str):decide ((Sum.inr x:Key)=Sum.inl none)=false:=decide_eq_false nofun
theorem key_ni (j:Int):decide ((Sum.inl none:Key)=Sum.inl (some j))=false:=decide_eq_false nofun
theorem key_ns (y:Str):decide ((Sum.inl none:Key)=Sum.inr y)=false:=decide_eq_false nofun
theorem aR {prog:Program}{w:World}{A:Around}{E:Value->Shared->Prop}{s:Shared}{Q:Int->Shared->Prop}(h:Q 4238894112 { s with toks:=s.toks+1 }):wpAny (model prog w) A (pyHash .none) Q E s:=by
 unfold pyHash;refine wpAny_bind ?_;rw[cRoomFor,if_neg (by rw[show[Value.none].any Value.onHeap=false from rfl]; exact Bool.false_ne_true)]; refine wpAny_pure ?_
 have ty:s.TypeIs .none "NoneType":=rfl;refine wpAny_bind (wpAny_specialOf ty PySem.F.slot_NoneType_hash.lookup ?_);rw[if_neg (by rw[beq_builtin_none]; exact Bool.false_ne_true)];refine wpAny_bind (wpAny_specialOf ty PySem.F.slot_NoneType_hash.lookup ?_)
 refine wpAny_bind (wpAny_callSpecialIfBoundUnlessNone?_slot ty PySem.F.slot_NoneType_hash
  (wpAny_call_entry PySem.F.slot_NoneType_hash ty PySem.F.entry_NoneType_hash
   (show wpAny _ _ (do ret (<- mkInt 4238894112)) _ _ s from wpAny_ret_mkInt ?_) (PySem.F.args_NoneType_hash_1 _)))
 show wpAny _ _ (if (decide (-(2:Int) ^ 63<=4238894112)&&decide ((4238894112:Int) < 2 ^ 63))=true then _ else _) Q E _;rw[if_pos (by decide)];exact wpAny_pure h
theorem cE {prog:Program}{w:World}{A:Around}{E:Value->Shared->Prop}{s:Shared}{Q:Bool->Shared->Prop}(h:Q true s):wpAny (model prog w) A (eqBool .none .none) Q E s:=by
 unfold eqBool;refine wpAny_holding ?_;refine wpAny_ite_split (fun _=>?_) (fun hab=>absurd rfl hab);exact wpAny_bind (wpAny_rule (wpAny_pure h))
def dQ (prog:Program)(w:World):PySem.KeyKind prog w Key where
 is:=eB
 hash:=keyH w
 inj:=fun v a b ha hb=>by
  rcases oX ha with ⟨i,t,rfl,rfl⟩ | ⟨x,t,rfl,rfl⟩ | ⟨rfl,rfl⟩<;>rcases oX hb with ⟨j,u,rfl,e⟩ | ⟨y,u,rfl,e⟩ | ⟨rfl,e⟩<;>cases e<;>rfl
 byValue:=fun k v h=>by
  rcases oX h with ⟨i,t,rfl,rfl⟩ | ⟨x,t,rfl,rfl⟩ | ⟨rfl,rfl⟩<;>rfl
 pyHash:=fun hv h=>by
  rcases oX hv with ⟨i,t,rfl,rfl⟩ | ⟨x,t,rfl,rfl⟩ | ⟨rfl,rfl⟩
  .exact wpAny_pyHash_int h
  .exact wpAny_pyHash_str h
  .exact aR h
 eqBool:=fun hu hv h=>by
  rcases oX hu with ⟨i,t,rfl,rfl⟩ | ⟨x,t,rfl,rfl⟩ | ⟨rfl,rfl⟩<;>rcases oX hv with ⟨j,u,rfl,rfl⟩ | ⟨y,u,rfl,rfl⟩ | ⟨rfl,rfl⟩
  .rw [key_ii] at h; exact wpAny_eqBool_int h
  .rw [key_is] at h; exact SeqAt.EqAt.int_str i t y u _ _ _ _ h
  .rw [key_in] at h; exact SeqAt.EqAt.int_none i t _ _ _ _ h
  .rw [key_si] at h; exact SeqAt.EqAt.str_int x t j u _ _ _ _ h
  .rw [key_ss] at h; exact wpAny_eqBool_str h
  .rw [key_sn] at h; exact SeqAt.EqAt.str_none x t _ _ _ _ h
  .rw [key_ni] at h; exact SeqAt.EqAt.none_int j u _ _ _ _ h
  .rw [key_ns] at h; exact SeqAt.EqAt.none_str y u _ _ _ _ h
  .rw [decide_eq_true (rfl:(Sum.inl none:Key)=Sum.inl none)] at h; exact cE h
 «strs»:=fun k x t v h=>by
  rcases oX h with ⟨i,u,rfl,e⟩ | ⟨y,u,rfl,e⟩ | ⟨rfl,e⟩
  .exact nomatch e
  .injection e with e1 _
   subst e1;cases v<;>rfl
  .exact nomatch e
theorem jL (prog:Program)(w:World)(i:Int)(t:Tok):(dQ prog w).is (.inl (some i)) (.int i t)=true:=rR i t
theorem aM (prog:Program)(w:World):(dQ prog w).is (.inl none) .none=true:=rfl
theorem zL (prog:Program)(w:World)(x:Str)(t:Tok):(dQ prog w).is (.inr x) (.str x t)=true:=lR x t
inductive V where
 |non | bl (b:Bool) | int (i:Int) | str (x:Str) | byt (b:Array UInt8) | flt (b:UInt64) | ref (a:Addr) | ty (n:String)
 deriving DecidableEq
def RelV:V->Value->Prop
 |.non,u=>u=Value.none
 |.bl b,u=>u=Value.bool b
 |.int i,u=>∃t,u=Value.int i t
 |.str x,u=>∃t,u=Value.str x t
 |.byt b,u=>∃t,u=Value.bytes b t
 |.flt b,u=>∃t,u=Value.float b t
 |.ref a,u=>u=Value.ref a
 |.ty n,u=>u=Value.type n
abbrev Vals:List V->List Value->Prop:=Paired RelV
theorem Vals.length {xs:List V}{us:List Value}(r:Vals xs us):xs.length=us.length:=Paired.length r
theorem Vals.get:∀{xs:List V}{us:List Value}{i:Nat}{x:V},Vals xs us->xs[i]?=some x->∃u,us[i]?=some u/\RelV x u
 |_,_,_,_,.nil,e=>by simp at e
 |_,_,0,_,.cons r _,e=>by simp at e; subst e; exact⟨_,rfl,r⟩
 |_,_,i+1,x,.cons _ t,e=>by
  obtain⟨u,h1,h2⟩:=Vals.get (i:=i) (x:=x) t (by simpa using e);exact⟨u,by simpa using h1,h2⟩
theorem Vals.set {x:V}{u:Value}(r:RelV x u):∀{xs:List V}{us:List Value}(i:Nat),Vals xs us->Vals (xs.set i x) (us.set i u)
 |_,_,_,.nil=>.nil
 |_,_,0,.cons _ t=>.cons r t
 |_,_,i+1,.cons q t=>.cons q (Vals.set r i t)
theorem Vals.append:∀{xs ys:List V}{us ws:List Value},Vals xs us->Vals ys ws->Vals (xs++ys) (us++ws)
 |_,_,_,_,.nil,s=>s
 |_,_,_,_,.cons r t,s=>.cons r (Vals.append t s)
theorem Vals.take:∀{xs:List V}{us:List Value}(n:Nat),Vals xs us->Vals (xs.take n) (us.take n)
 |_,_,0,_=>.nil
 |_,_,_+1,.nil=>.nil
 |_,_,n+1,.cons r t=>.cons r (Vals.take n t)
theorem Vals.drop:∀{xs:List V}{us:List Value}(n:Nat),Vals xs us->Vals (xs.drop n) (us.drop n)
 |_,_,0,r=>r
 |_,_,_+1,.nil=>.nil
 |_,_,n+1,.cons _ t=>Vals.drop n t
def RelO:Option V->Option Value->Prop
 |some v,some u=>RelV v u
 |none,none=>True
 |_,_=>False
def KV {κ:Type}:List (κ×V)->List (κ×Value)->Prop:=Paired fun(p:κ×V) (q:κ×Value)=>p.1=q.1/\RelV p.2 q.2
def kV:Key->V
 |.inl none=>.non
 |.inl (some i)=>.int i
 |.inr x=>.str x
inductive HO where
 |lst (xs:List V)
 |tup (xs:List V)
 |dK (kvs:List (Key×V)) | dT (kvs:List (List Key×V)) | dP (kvs:List (List (List Key)×V))
 |set (S:Int->Bool) (n:Nat)
 |ins (C dx:Addr) (fs:List (Str×V))
 |own (x:Addr)
 |xd (fs:List (Str×V))
 |met (f x:Addr)
 |rng (lo hi:Int)
 |frz (o:Obj) (u:HO)
 |tbl (ps:Array Value)
 |ext (φ:Heap->Prop)
abbrev Hp:=Addr->Option HO
def upd (H:Hp)(a:Addr)(o:HO):Hp:=fun b=>if b=a then some o else H b
theorem fQ {H:Hp}{a:Addr}{o:HO}:upd H a o a=some o:=by unfold upd; rw[if_pos rfl]
theorem nQ {H:Hp}{a b:Addr}{o:HO}(h:b≠a):upd H a o b=H b:=by unfold upd; rw[if_neg h]
theorem ne_of {H:Hp}{a b:Addr}{o u:HO}(h:H a=some o)(h':H b=some u)(d:o≠u):a≠b:=by
 intro e; subst e; rw[h] at h'; exact d (Option.some.inj h')
theorem sX {H:Hp}{a b:Addr}{o:HO}(h:H a=some o)(h':H b=none):a≠b:=by
 intro e; subst e; rw[h] at h'; cases h'
def IsTupN (h:Heap)(a:Addr)(items:Array Value):Prop:=∃o,h.get? a=some o/\o.cls=.type "tuple"/\(∃n,o.data=.seq items n)/\o.dict=none
theorem IsTupN.is {h:Heap}{a:Addr}{items:Array Value}(x:IsTupN h a items):IsTup h a items:=let ⟨o,e,c,d,_⟩:=x; ⟨o,e,c,d⟩
theorem IsTupN.new (h:Heap)(items:Array Value):IsTupN (h.push { cls:=.type "tuple",data:=.seq items }) h.objs.size items:=⟨_,Heap.get?_push_size _ rfl,rfl,⟨_,rfl⟩,rfl⟩
def PKey (H:Hp)(kss:List (List Key))(b:Addr):Prop:=∃bs:List Addr,H b=some (.tup (bs.map V.ref))/\Paired (fun(ks:List Key) (c:Addr)=>H c=some (.tup (ks.map kV))) kss bs
section
variable (P:Program)(w:World)
def ObjOk (H:Hp)(h:Heap)(a:Addr):HO->Prop
 |.lst xs=>xs.length<=sizeLine/\∃(its:List Value) (n:Nat),Vals xs its/\h.get? a=some { cls:=.type "list",data:=.seq its.toArray n }
 |.tup xs=>xs.length<=sizeLine/\∃its:List Value,Vals xs its/\IsTupN h a its.toArray
 |.dK kvs=>kvs.length<=sizeLine/\(a==sysModules)=false/\∃vs,KV kvs vs/\h.DictOf (dQ P w) a vs
 |.dT kvs=>kvs.length<=sizeLine/\(a==sysModules)=false/\∃xs:List (List Key×Addr×Value),
   Paired (fun(p:List Key×V) (q:List Key×Addr×Value)=>p.1=q.1/\H q.2.1=some (.tup (p.1.map kV))/\RelV p.2 q.2.2) kvs xs /\
   ∃o es ep,h.get? a=some o/\o.ExactDict/\o.data=.dict es ep/\es.toList=xs.map (entryOfKey (tupleKind (dQ P w)))/\(xs.map (·.1)).Nodup
 |.dP kvs=>kvs.length<=sizeLine/\(a==sysModules)=false/\∃xs:List (List (List Key)×Addr×Value),
   Paired (fun(p:List (List Key)×V) (q:List (List Key)×Addr×Value)=>p.1=q.1/\PKey H p.1 q.2.1/\RelV p.2 q.2.2) kvs xs /\
   ∃o es ep,h.get? a=some o/\o.ExactDict/\o.data=.dict es ep/\es.toList=xs.map (entryOfKey (aJ (dQ P w)))/\(xs.map (·.1)).Nodup
 |.set S n=>h.SetOf (intKind P w) a S n
 |.ins C dx fs=>H dx=some (.own a)/\fs.length<=1000/\dx≠a/\h.get? a=some (PySem.W.instObj C dx) /\
   ∃mA,h.Ns1 dx mA/\(∀f,RelO (fs.lookup f) (mA f))/\PySem.Within mA (fs.map (·.1))
 |.own _=>∃o,h.get? a=some o
 |.xd fs=>∃mA,h.Ns1 a mA/\∀f,RelO (fs.lookup f) (mA f)
 |.rng lo hi=>∃t u v,h.get? a=some { cls:=.type "range",data:=.fields #[.int lo t,.int hi u,.int 1 v] }
 |.frz o u=>h.get? a=some o/\ObjOk H h a u
 |.tbl ps=>h.get? a=some { cls:=.none,data:=.fields ps }
 |.met f x=>h.get? a=some (PySem.W.methodObj (.ref f) (.ref x))
 |.ext φ=>φ h/\(∃o,h.get? a=some o)/\∀h1 h2:Heap,φ h1->(∀o,h1.get? a=some o->h2.get? a=some o)->φ h2
def HOk (H:Hp)(h:Heap):Prop:=∀a o,H a=some o->ObjOk P w H h a o
end
section
variable {P:Program}{w:World}{H H':Hp}{h h':Heap}{a:Addr}{o:HO}
theorem ObjOk.lt (x:ObjOk P w H h a o):a < h.objs.size:=by
 cases o with
 |lst xs=>obtain⟨_,_,_,_,e⟩:=x; exact Heap.lt_size e
 |tup xs=>obtain⟨_,_,_,o,e,_⟩:=x; exact Heap.lt_size e
 |dK kvs=>obtain⟨_,_,_,_,o,_,_,e,_⟩:=x; exact Heap.lt_size e
 |dT kvs=>obtain⟨_,_,_,_,o,_,_,e,_⟩:=x; exact Heap.lt_size e
 |dP kvs=>obtain⟨_,_,_,_,o,_,_,e,_⟩:=x; exact Heap.lt_size e
 |set S n=>obtain⟨o,_,_,_,e,_⟩:=x; exact Heap.lt_size e
 |ins C dx fs=>obtain⟨_,_,_,e,_⟩:=x; exact Heap.lt_size e
 |own y=>obtain⟨_,e⟩:=x; exact Heap.lt_size e
 |xd fs=>obtain⟨_,⟨_,_,_,e,_⟩,_⟩:=x; exact Heap.lt_size e
 |rng lo hi=>obtain⟨_,_,_,e⟩:=x; exact Heap.lt_size e
 |frz ob u=>obtain⟨e,_⟩:=x; exact Heap.lt_size e
 |tbl ps=>exact Heap.lt_size (show h.get? a=some _ from x)
 |met f y=>exact Heap.lt_size (show h.get? a=some _ from x)
 |ext φ=>obtain⟨_,⟨_,e⟩,_⟩:=x; exact Heap.lt_size e
theorem Paired.mapP {α β:Type}{F G:α->β->Prop}:∀{l₁:List α}{l₂:List β},Paired F l₁ l₂->(∀a b,F a b->G a b)->Paired G l₁ l₂
 |_,_,.nil,_=>.nil
 |_,_,.cons r t,f=>.cons (f _ _ r) (Paired.mapP t f)
theorem PKey.mono {kss:List (List Key)}{b:Addr}(x:PKey H kss b)(ht:∀b xs,H b=some (.tup xs)->H' b=some (.tup xs)):PKey H' kss b :=
 let ⟨bs,e,r⟩:=x; ⟨bs,ht _ _ e,Paired.mapP r fun _ _ z=>ht _ _ z⟩
theorem ObjOk.stay (x:ObjOk P w H h a o)(k:∀b u,(b=a\/H b=some (.own a))->h.get? b=some u->h'.get? b=some u)
  (ho:∀b,H b=some (.own a)->H' b=some (.own a)) (ht:∀b xs,H b=some (.tup xs)->H' b=some (.tup xs)):ObjOk P w H' h' a o:=by
 induction o with
 |lst xs=>obtain⟨z,its,n,r,e⟩:=x; exact⟨z,its,n,r,k _ _ (.inl rfl) e⟩
 |tup xs=>obtain⟨z,its,r,ob,e,c⟩:=x; exact⟨z,its,r,ob,k _ _ (.inl rfl) e,c⟩
 |dK kvs=>obtain⟨z,y,vs,r,ob,es,ep,e,c⟩:=x; exact⟨z,y,vs,r,ob,es,ep,k _ _ (.inl rfl) e,c⟩
 |dT kvs =>
  obtain⟨z,y,xs,r,ob,es,ep,e,c⟩:=x;exact⟨z,y,xs,Paired.mapP r fun p q z=>⟨z.1,ht _ _ z.2.1,z.2.2⟩,ob,es,ep,k _ _ (.inl rfl) e,c⟩
 |dP kvs =>
  obtain⟨z,y,xs,r,ob,es,ep,e,c⟩:=x;exact⟨z,y,xs,Paired.mapP r fun p q z=>⟨z.1,z.2.1.mono ht,z.2.2⟩,ob,es,ep,k _ _ (.inl rfl) e,c⟩
 |set S n=>obtain⟨ob,es,ep,t,e,c⟩:=x; exact⟨ob,es,ep,t,k _ _ (.inl rfl) e,c⟩
 |ins C dx fs =>
  obtain⟨d,z,ne,e,mA,⟨od,es,ep,e2,c⟩,r⟩:=x;exact⟨ho _ d,z,ne,k _ _ (.inl rfl) e,mA,⟨od,es,ep,k _ _ (.inr d) e2,c⟩,r⟩
 |own y=>obtain⟨ob,e⟩:=x; exact⟨ob,k _ _ (.inl rfl) e⟩
 |xd fs=>obtain⟨mA,⟨od,es,ep,e,c⟩,r⟩:=x; exact⟨mA,⟨od,es,ep,k _ _ (.inl rfl) e,c⟩,r⟩
 |rng lo hi=>obtain⟨t,u,v,e⟩:=x; exact⟨t,u,v,k _ _ (.inl rfl) e⟩
 |frz ob u ih=>obtain⟨e,q⟩:=x; exact⟨k _ _ (.inl rfl) e,ih q⟩
 |tbl ps =>
  have e:h.get? a=some { cls:=.none,data:=.fields ps }:=x;show h'.get? a=some { cls:=.none,data:=.fields ps };exact k a _ (.inl rfl) e
 |met f y =>
  have e:h.get? a=some (PySem.W.methodObj (.ref f) (.ref y)):=x;show h'.get? a=some (PySem.W.methodObj (.ref f) (.ref y));exact k a _ (.inl rfl) e
 |ext φ=>obtain⟨p,⟨o,e⟩,st⟩:=x; exact⟨st _ _ p fun o q=>k _ _ (.inl rfl) q,⟨o,k _ _ (.inl rfl) e⟩,st⟩
theorem HOk.lt (x:HOk P w H h)(e:H a=some o):a < h.objs.size:=(x a o e).lt
theorem HOk.fresh (x:HOk P w H h)(e:h.objs.size<=a):H a=none:=by
 cases q:H a with
 |none=>rfl
 |some u=>exact absurd (Nat.lt_of_lt_of_le (x.lt q) e) (Nat.lt_irrefl _)
theorem HOk.kept (x:HOk P w H h)(k:∀b u,h.get? b=some u->h'.get? b=some u):HOk P w H h':=fun a o e =>
 (x a o e).stay (fun b u _ q=>k b u q) (fun _ q=>q) fun _ _ q=>q
theorem HOk.laid (x:HOk P w H h)(k:∀b u,h.get? b=some u->h'.get? b=some u)(hp:h.objs.size<=a)(new:ObjOk P w (upd H a o) h' a o):HOk P w (upd H a o) h':=fun b u e=>by
 have hn:=x.fresh hp
 by_cases hb:b=a
 .subst hb; rw[fQ] at e; cases e; exact new
 .rw [nQ hb] at e
  exact(x b u e).stay (fun c v _ q=>k c v q) (fun c q=>by rw[nQ (sX q hn)]; exact q) fun c xs q=>by rw[nQ (sX q hn)]; exact q
end
def Rd (H:Hp)(a:Addr)(u:HO):Prop:=H a=some u\/∃o,H a=some (.frz o u)
theorem Rd.ok {P:Program}{w:World}{H:Hp}{h:Heap}{a:Addr}{u:HO}(r:Rd H a u)(x:HOk P w H h):ObjOk P w H h a u:=by
 rcases r with r | ⟨o,r⟩
 .exact x a u r
 .obtain ⟨_,q⟩:=x a _ r
  exact q
def Mut:Option HO->Prop
 |some (.lst _)=>True
 |some (.dK _)=>True
 |some (.dT _)=>True
 |some (.dP _)=>True
 |some (.set _ _)=>True
 |some (.ins _ _ _)=>True
 |some (.ext _)=>True
 |_=>False
section
variable {P:Program}{w:World}{H:Hp}{h h':Heap}{x e:Addr}{o':HO}
theorem HOk.write (ok:HOk P w H h)(mu:Mut (H x))(he:e=x\/H e=some (.own x))(k:∀b u,b≠e->h.get? b=some u->h'.get? b=some u)(heo:∃u,h'.get? e=some u)
  (new:ObjOk P w (upd H x o') h' x o'):HOk P w (upd H x o') h':=fun b u q=>by
 have nown:∀c y,H c=some (.own y)->c≠x:=fun c y r z=>by subst z; rw[r] at mu; exact mu
 have ntup:∀c xs,H c=some (.tup xs)->c≠x:=fun c xs r z=>by subst z; rw[r] at mu; exact mu
 by_cases hb:b=x
 .subst hb; rw[fQ] at q; cases q; exact new
 .rw [nQ hb] at q
  by_cases hbe:b=e
  .have q':H b=some (.own x):=by
    rcases he with z | z
    .exact absurd (hbe.trans z) hb
    .rw [hbe]; exact z
   rw[q] at q'; cases q'
   obtain⟨v,hv⟩:=heo;exact⟨v,by rw[hbe]; exact hv⟩
  .refine (ok b u q).stay (fun c v hc r=>k c v ?_ r) (fun c r=>by rw[nQ (nown c b r)]; exact r) fun c xs r=>by rw[nQ (ntup c xs r)]; exact r
   rcases hc with rfl | hc
   .exact hbe
   .rintro rfl
    rcases he with z | z
    .exact nown c b hc z
    .rw [hc] at z; cases z; exact hb rfl
end
structure Un (fs ex:List Addr)(H H':Hp)(h h':Heap):Prop where
 keep:∀b o,h.get? b=some o->H b=none->b∉fs->b∉ex->h'.get? b=some o
 slot:∀b o,h.get? b=some o->H b=none->b∈fs->b∉ex->∃sl,h'.get? b=some { o with slots:=sl }
 free:∀b o,h.get? b=some o->H b=none->b∉ex->H' b=none
 there:∀b o,h.get? b=some o->b∉ex->∃o',h'.get? b=some o'
 tups:∀b xs,H b=some (.tup xs)->H' b=some (.tup xs)
 frzs:∀b o u,H b=some (.frz o u)->H' b=some (.frz o u)
 tbls:∀b ps,H b=some (.tbl ps)->∃more,H' b=some (.tbl (ps++more))
section
variable {fs fs' ex ex':List Addr}{H H1 H2:Hp}{h h1 h2 h':Heap}{a x e:Addr}{o:HO}
theorem Un.any (u:Un fs ex H H1 h h1){b:Addr}{ob:Obj}(q:h.get? b=some ob)(n:H b=none)(hx:b∉ex):∃sl,h1.get? b=some { ob with slots:=sl }:=by
 by_cases hb:b∈fs
 .exact u.slot b ob q n hb hx
 .exact ⟨ob.slots,u.keep b ob q n hb hx⟩
theorem Un.kept (k:∀b u,h.get? b=some u->h'.get? b=some u):Un fs ex H H h h' :=
 ⟨fun b ob q _ _ _=>k b ob q,fun b ob q _ _ _=>⟨ob.slots,k b ob q⟩,fun _ _ _ n _=>n,fun b ob q _=>⟨ob,k b ob q⟩,fun _ _ q=>q,fun _ _ _ q=>q,fun _ ps q=>⟨#[],by rw[q]; simp⟩⟩
theorem Un.refl:Un fs ex H H h h:=Un.kept fun _ _ q=>q
theorem Un.laid (k:∀b u,h.get? b=some u->h'.get? b=some u)(hp:h.objs.size<=a)(hn:H a=none):Un fs ex H (upd H a o) h h' where
 keep:=fun b u q _ _ _=>k b u q
 slot:=fun b u q _ _ _=>⟨u.slots,k b u q⟩
 free:=fun b u q n _=>by rw[nQ (Nat.ne_of_lt (Nat.lt_of_lt_of_le (Heap.lt_size q) hp))]; exact n
 there:=fun b u q _=>⟨u,k b u q⟩
 tups:=fun b xs q=>by rw[nQ (sX q hn)]; exact q
 frzs:=fun b u xs q=>by rw[nQ (sX q hn)]; exact q
 tbls:=fun b ps q=>⟨#[],by rw[nQ (sX q hn),q]; simp⟩
theorem Un.write (mu:Mut (H x))(he:e=x\/H e=some (.own x))(k:∀b u,b≠e->h.get? b=some u->h'.get? b=some u)(heo:∃u,h'.get? e=some u):Un fs ex H (upd H x o) h h':=by
 have hx:∀b,H b=none->b≠x:=fun b n z=>by subst z; rw[n] at mu; exact mu
 have hb:∀b,H b=none->b≠e:=fun b n z=>by
  subst z
  rcases he with r | r
  .exact hx b n r
  .rw [n] at r; cases r
 have hm:∀b u,H b=some u->¬ Mut (some u)->b≠x:=fun b u q nm z=>by subst z; rw[q] at mu; exact nm mu
 refine⟨fun b u q n _ _=>k b u (hb b n) q,fun b u q n _ _=>⟨u.slots,k b u (hb b n) q⟩,fun b u q n _=>by rw[nQ (hx b n)]; exact n,fun b u q _=>?_,
  fun b xs q=>by rw[nQ (hm b _ q fun z=>z)]; exact q,fun b u xs q=>by rw[nQ (hm b _ q fun z=>z)]; exact q,fun b ps q=>⟨#[],by rw[nQ (hm b _ q fun z=>z),q]; simp⟩⟩
 by_cases hbe:b=e
 .subst hbe; exact heo
 .exact ⟨u,k b u hbe q⟩
end
def trk (h:Heap)(H:Hp):List Addr:=(List.range h.objs.size).filter fun a=>(H a).isSome
def zF (h:Heap)(H:Hp):Heap:=PySem.W.hideAll h (trk h H)
theorem eR (h:Heap)(H:Hp):(zF h H).objs.size=h.objs.size:=PySem.W.hideAll_size _ _
theorem yE {h:Heap}{H:Hp}{b:Addr}{o:Obj}(e:h.get? b=some o)(n:H b=none):(zF h H).get? b=some o :=
 PySem.W.hideAll_get _ e fun hm=>by
  have q:(H b).isSome=true:=(List.mem_filter.mp hm).2;rw[n] at q; simp at q
theorem of_hidT {h:Heap}{H:Hp}{b:Addr}{o:Obj}(e:(zF h H).get? b=some o):h.get? b=some o/\H b=none:=by
 have e':h.get? b=some o:=PySem.W.of_hideAll (trk h H) e;refine⟨e',?_⟩
 cases q:H b with
 |none=>rfl
 |some x =>
  have hm:b∈trk h H:=List.mem_filter.mpr ⟨List.mem_range.mpr (Heap.lt_size e'),by simp[q]⟩;have z:(zF h H).get? b=none:=PySem.W.hideAll_none (trk h H) hm;rw[z] at e; cases e
def allNews (g h:Heap)(L:Addr):List (Addr×Obj):=(List.range h.objs.size).filterMap fun a=>if a=L\/(g.get? a).isSome=true then none else (h.get? a).map fun o=>(a,o)
def rest (g h:Heap)(L d:Addr):List (Addr×Obj):=(allNews g h L).filter fun p=>decide (p.1≠d)
structure Mod (K:PySem.W.Frag)(mg:Str->Option Value)(base:Heap):Prop where
 kin:K.In base
 glob:base.Ns mainGlobals mg
 blt:∃mb,base.Ns builtinsNs mb/\∀x:Str,x ≠ "__name__"->mb x=bootBuiltins x
 nolimit:base.NoLimit
structure Cx where
 prog:Program
 w:World
 K:PySem.W.Frag
 mg:Str->Option Value
 base:Heap
 A:Around
 N:List Str
 s₀:Shared
 H₀:Hp
 env:Env
 outer:List Env
 stack:List Env
 ex:List Addr
 fn:Str->Bool
 calm:Bool
 pn:List (Addr×Obj)
 xe:Value->Shared->Prop
def frs (l:List Env):List Addr:=l.filterMap (·.frame)
abbrev Cx.fs (X:Cx):List Addr:=frs X.outer
def Vis (sc:Scope)(x:Str):Prop:=sc.names.lookup x=some .local\/sc.names.lookup x=some .cell\/sc.names.lookup x=some .free
def Loc (sc:Scope)(x:Str):Prop:=sc.names.lookup x=some .local\/sc.names.lookup x=some .cell
def Look (env:Env)(h:Heap)(m:Str->Option Value)(x:Str)(u:Value):Prop :=
 (env.kindOf x=some .local/\m x=some u)\/((env.kindOf x=some .cell\/env.kindOf x=some .free)/\∃c,env.cells.lookup x=some c/\h.IsCell c (some u))
structure Cx.Ok (X:Cx):Prop where
 mod:Mod X.K X.mg X.base
 kind:X.env.scope.kind=.function
 glob:X.env.globals=mainGlobals
 blt:X.env.builtins=builtinsNs
 above:X.s₀.heap.objs.size<=X.env.locals
 inj:∀x y c,X.env.cells.lookup x=some c->X.env.cells.lookup y=some c->x=y
 has:∀x,(X.env.kindOf x=some .cell\/X.env.kindOf x=some .free)->∃c,X.env.cells.lookup x=some c
 cab:∀x c,X.fn x=true->X.env.cells.lookup x=some c->X.s₀.heap.objs.size<=c
 hd:X.calm=true->X.A.handled=none
 frames:X.A.frames=some X.stack
 stk:X.stack=X.outer\/(X.stack=X.env::X.outer/\X.env.frame=some X.env.locals)
 exf:∀b∈X.ex,b≠X.env.locals/\∀x c,X.env.cells.lookup x=some c->c≠b
 bs:∀b o,X.base.get? b=some o->X.s₀.heap.get? b=some o/\X.H₀ b=none
 bsz:X.base.objs.size<=X.s₀.heap.objs.size
 noex:∀b o,X.base.get? b=some o->b∉X.ex
 exfs:∀b∈X.ex,b∉X.fs
 funs:X.s₀.heap.FunFrames X.base X.outer
 frf:∀b∈X.fs,X.H₀ b=none
structure Inv (X:Cx)(pins:List (Addr×Obj))(σ:List (Option V))(H:Hp)(s:Shared):Prop where
 ok:X.Ok
 os:s.os=X.s₀.os
 bare:AllBare s.gens
 base:Un X.fs X.ex X.H₀ H X.s₀.heap s.heap
 loc:∃m,s.heap.Ns X.env.locals m/\∀(i:Nat) (x:Str) (v:V),X.N[i]?=some x->σ[i]?=some (some v)->Vis X.env.scope x->∃u,RelV v u/\Look X.env s.heap m x u
 cell:∀x c,X.env.cells.lookup x=some c->∃v,s.heap.IsCell c v
 free:H X.env.locals=none
 freeC:∀x c,X.env.cells.lookup x=some c->H c=none
 pin:∀p∈X.pn++pins,s.heap.get? p.1=some p.2/\H p.1=none/\p.1≠X.env.locals/\p.1∉X.fs/\∀v,p.2.data≠.cell v
 hok:HOk X.prog X.w H s.heap
 len:σ.length=X.N.length
section
variable {X:Cx}{pins:List (Addr×Obj)}{σ:List (Option V)}{H H':Hp}{s:Shared}{h':Heap}
theorem Cx.Ok.nofr (ok:X.Ok){b:Addr}{o:Obj}(e:X.base.get? b=some o):b∉X.fs:=fun hb=>by
 have:=(ok.funs.mem hb).1;rw[e] at this; cases this
theorem Inv.bs (I:Inv X pins σ H s):∀b o,X.base.get? b=some o->s.heap.get? b=some o/\H b=none:=fun b o e =>
 ⟨I.base.keep b o (I.ok.bs b o e).1 (I.ok.bs b o e).2 (I.ok.nofr e) (I.ok.noex b o e),I.base.free b o (I.ok.bs b o e).1 (I.ok.bs b o e).2 (I.ok.noex b o e)⟩
theorem Inv.bk (I:Inv X pins σ H s):∀b o,X.base.get? b=some o->s.heap.get? b=some o:=fun b o e=>(I.bs b o e).1
theorem Inv.mod (I:Inv X pins σ H s):Mod X.K X.mg X.base:=I.ok.mod
theorem Inv.kIn (I:Inv X pins σ H s):X.K.In s.heap:=I.ok.mod.kin.keeps I.bk
theorem Inv.lt (I:Inv X pins σ H s):X.env.locals < s.heap.objs.size:=let ⟨_,hn,_⟩:=I.loc; hn.lt
theorem Inv.sz (I:Inv X pins σ H s):X.s₀.heap.objs.size<=s.heap.objs.size:=Nat.le_trans I.ok.above (Nat.le_of_lt I.lt)
theorem Inv.nofs (I:Inv X pins σ H s){a:Addr}(h:s.heap.objs.size<=a):a∉X.fs:=fun hb=>by
 obtain⟨_,o,ho,_⟩:=I.ok.funs.mem hb;exact absurd (Nat.lt_of_lt_of_le (Heap.lt_size ho) (Nat.le_trans I.sz h)) (Nat.lt_irrefl _)
theorem Inv.cne (I:Inv X pins σ H s):∀x c,X.env.cells.lookup x=some c->c≠X.env.locals:=fun x c e z=>by
 obtain⟨v,o,ho,hd⟩:=I.cell x c e;obtain⟨m,⟨o',es,ep,ho',hd',_⟩,_⟩:=I.loc;rw[z,ho'] at ho; cases ho; rw[hd'] at hd; cases hd
theorem Inv.funs (I:Inv X pins σ H s):s.heap.FunFrames X.base X.outer:=by
 have all:∀(l:List Env),(∀b∈frs l,b∈X.fs)->X.s₀.heap.FunFrames X.base l->s.heap.FunFrames X.base l:=by
  intro l
  induction l with
  |nil=>intro _ _; trivial
  |cons env r ih =>
   intro hs hl;obtain⟨hk,⟨L,o,hf,hn,ho,hd⟩,hr⟩:=hl;have hL:L∈X.fs:=hs L (by unfold frs; rw[List.filterMap_cons,hf]; exact List.mem_cons_self);obtain⟨sl,e⟩:=I.base.slot L o ho (I.ok.frf L hL) hL fun z=>I.ok.exfs L z hL;exact⟨hk,⟨L,_,hf,hn,e,hd⟩,ih (fun b hb=>hs b (by unfold frs; rw[List.filterMap_cons,hf]; exact List.mem_cons_of_mem _ hb)) hr⟩
 exact all X.outer (fun _ hb=>hb) I.ok.funs
theorem Inv.stack (I:Inv X pins σ H s):s.heap.FunFrames X.base X.stack:=by
 rcases I.ok.stk with e | ⟨e,hf⟩
 .rw [e]; exact I.funs
 .rw [e]
  obtain⟨m,hn,_⟩:=I.loc;refine .cons (by rw[I.ok.kind]; decide) hf hn ?_ I.funs;exact Heap.get?_none_of_le (Nat.le_trans I.ok.bsz I.ok.above)
theorem Inv.stkSub (I:Inv X pins σ H s):∀b∈frs X.stack,b∈X.env.locals::X.fs:=fun b hb=>by
 rcases I.ok.stk with e | ⟨e,hf⟩
 .rw [e] at hb; exact List.mem_cons_of_mem _ hb
 .rw [e] at hb
  unfold frs at hb;rw[List.filterMap_cons,hf] at hb;exact hb
theorem Inv.stkFree (I:Inv X pins σ H s):∀b∈frs X.stack,H b=none:=fun b hb=>by
 rcases List.mem_cons.mp (I.stkSub b hb) with e | hb
 .rw [e]; exact I.free
 .obtain ⟨_,o,ho,_⟩:=I.ok.funs.mem hb
  exact I.base.free b o ho (I.ok.frf b hb) fun z=>I.ok.exfs b z hb
theorem Inv.step {g':Array GenState}{t':Nat}{d':Drawn}{ch:List Addr}(I:Inv X pins σ H s)
  (hch:∀b∈ch,(b∈X.ex\/X.s₀.heap.objs.size<=b)/\b≠X.env.locals/\(∀x c,X.env.cells.lookup x=some c->c≠b)/\∀p∈X.pn++pins,p.1≠b)
  (keep:∀b o,b≠X.env.locals->b∉X.fs->b∉ch->s.heap.get? b=some o->H b=none->h'.get? b=some o)
  (slot:∀b o,b≠X.env.locals->b∈X.fs->b∉ch->s.heap.get? b=some o->H b=none->∃sl,h'.get? b=some { o with slots:=sl }) (free:∀b o,b∉ch->s.heap.get? b=some o->H b=none->H' b=none)
  (there:∀b o,b∉ch->s.heap.get? b=some o->∃o',h'.get? b=some o')
  (tups:∀b xs,H b=some (.tup xs)->H' b=some (.tup xs)) (frzs:∀b o u,H b=some (.frz o u)->H' b=some (.frz o u)) (tbls:∀b ps,H b=some (.tbl ps)->∃more,H' b=some (.tbl (ps++more)))
  (ns:∀m,s.heap.Ns X.env.locals m->h'.Ns X.env.locals m) (hok:HOk X.prog X.w H' h') (hg:AllBare g') :
  Inv X pins σ H' { s with heap:=h',gens:=g',drawn:=d',toks:=t' }:=by
 have neL:∀b o,X.s₀.heap.get? b=some o->b≠X.env.locals:=fun b o e=>Nat.ne_of_lt (Nat.lt_of_lt_of_le (Heap.lt_size e) I.ok.above)
 have neC:∀b o,X.s₀.heap.get? b=some o->b∉X.ex->b∉ch:=fun b o e hx hb=>by
  rcases(hch b hb).1 with z | z
  .exact hx z
  .exact absurd (Nat.lt_of_lt_of_le (Heap.lt_size e) z) (Nat.lt_irrefl _)
 have cellK:∀x c,X.env.cells.lookup x=some c->∀v,s.heap.IsCell c v->h'.IsCell c v:=fun x c e v ⟨o,ho,hd⟩=>by
  have nch:c∉ch:=fun z=>(hch c z).2.2.1 x c e rfl
  by_cases hc:c∈X.fs
  .obtain ⟨sl,q⟩:=slot c o (I.cne x c e) hc nch ho (I.freeC x c e)
   exact⟨_,q,hd⟩
  .exact ⟨o,keep c o (I.cne x c e) hc nch ho (I.freeC x c e),hd⟩
 refine⟨I.ok,I.os,hg,⟨fun b o e n hb hx=>?_,fun b o e n hb hx=>?_,fun b o e n hx=>?_,fun b o e hx=>?_,fun b xs e=>tups b xs (I.base.tups b xs e),fun b o xs e=>frzs b o xs (I.base.frzs b o xs e),fun b ps e=>?_⟩,?_,fun x c e=>?_,?_,fun x c e=>?_,fun p hp=>?_,hok,I.len⟩
 .exact keep b o (neL b o e) hb (neC b o e hx) (I.base.keep b o e n hb hx) (I.base.free b o e n hx)
 .obtain ⟨sl,e1⟩:=I.base.slot b o e n hb hx
  obtain⟨sl',e2⟩:=slot b _ (neL b o e) hb (neC b o e hx) e1 (I.base.free b o e n hx);exact⟨sl',e2⟩
 .obtain ⟨o',e1⟩:=I.base.there b o e hx
  exact free b o' (neC b o e hx) e1 (I.base.free b o e n hx)
 .obtain ⟨o',e1⟩:=I.base.there b o e hx
  exact there b o' (neC b o e hx) e1
 .obtain ⟨m1,e1⟩:=I.base.tbls b ps e
  obtain⟨m2,e2⟩:=tbls b _ e1;exact⟨m1++m2,by rw[e2,Array.append_assoc]⟩
 .obtain ⟨m,hn,hl⟩:=I.loc
  refine⟨m,ns m hn,fun i x v e1 e2 e3=>?_⟩;obtain⟨u,r,l⟩:=hl i x v e1 e2 e3;refine⟨u,r,?_⟩
  rcases l with l | ⟨k,c,e,z⟩
  .exact .inl l
  .exact .inr ⟨k,c,e,cellK x c e _ z⟩
 .obtain ⟨v,z⟩:=I.cell x c e
  exact⟨v,cellK x c e v z⟩
 .obtain ⟨m,⟨o,_,_,ho,_⟩,_⟩:=I.loc
  exact free _ o (fun z=>(hch _ z).2.1 rfl) ho I.free
 .obtain ⟨v,o,ho,hd⟩:=I.cell x c e
  exact free c o (fun z=>(hch c z).2.2.1 x c e rfl) ho (I.freeC x c e)
 .obtain ⟨e,n,ne,nf,d⟩:=I.pin p hp
  have nch:p.1∉ch:=fun z=>(hch p.1 z).2.2.2 p hp rfl;exact⟨keep p.1 p.2 ne nf nch e n,free p.1 p.2 nch e n,ne,nf,d⟩
theorem Inv.un {t':Nat}(I:Inv X pins σ H s)(u:Un X.fs [] H H' s.heap h')(hok:HOk X.prog X.w H' h'):Inv X pins σ H' { s with heap:=h',toks:=t' }:=by
 obtain⟨m,⟨o,es,ep,ho,r⟩,_⟩:=id I.loc;obtain⟨sl,hL⟩:=u.any ho I.free (by simp)
 exact I.step (g':=s.gens) (d':=s.drawn) (ch:=[]) (fun _ z=>nomatch z) (fun b o _ hb _ e n=>u.keep b o e n hb (by simp)) (fun b o _ hb _ e n=>u.slot b o e n hb (by simp)) (fun b o _ e n=>u.free b o e n (by simp)) (fun b o _ e=>u.there b o e (by simp)) u.tups u.frzs u.tbls (fun m' hm=>by
  obtain⟨o',es',ep',ho',r'⟩:=hm;rw[ho] at ho'; cases ho'
  exact⟨_,es',ep',hL,r'⟩) hok I.bare
theorem Inv.call {g':Array GenState}{t':Nat}{d':Drawn}{ch:List Addr}(I:Inv X pins σ H s)(u:Un (frs X.stack) ch H H' s.heap h')(hok:HOk X.prog X.w H' h')(hg:AllBare g')
  (hch:∀b∈ch,(b∈X.ex\/X.s₀.heap.objs.size<=b)/\b≠X.env.locals/\(∀x c,X.env.cells.lookup x=some c->c≠b)/\∀p∈X.pn++pins,p.1≠b) :
  Inv X pins σ H' { s with heap:=h',gens:=g',drawn:=d',toks:=t' }:=by
 obtain⟨m,⟨o,es,ep,ho,r⟩,_⟩:=id I.loc;obtain⟨sl,hL⟩:=u.any ho I.free fun z=>(hch _ z).2.1 rfl
 exact I.step (ch:=ch) hch (fun b o hL hb hc e n=>u.keep b o e n (fun z=>(List.mem_cons.mp (I.stkSub b z)).elim hL hb) hc) (fun b o _ _ hc e n=>u.any e n hc) (fun b o hc e n=>u.free b o e n hc) (fun b o hc e=>u.there b o e hc) u.tups u.frzs u.tbls (fun m' hm=>by
  obtain⟨o',es',ep',ho',r'⟩:=hm;rw[ho] at ho'; cases ho'
  exact⟨_,es',ep',hL,r'⟩) hok hg
theorem Inv.turned {t':Nat}{it:Addr}(I:Inv X pins σ H s)(k:∀b o,b≠it->s.heap.get? b=some o->h'.get? b=some o)(hn:H it=none)(hL:it≠X.env.locals)
  (h1:it∈X.ex\/X.s₀.heap.objs.size<=it) (h2:∀x c,X.env.cells.lookup x=some c->c≠it) (h3:∀p∈X.pn++pins,p.1≠it):Inv X pins σ H { s with heap:=h',toks:=t' }:=by
 have nit:∀b u,H b=some u->b≠it:=fun b u e z=>by rw[z,hn] at e; cases e
 refine I.step (g':=s.gens) (d':=s.drawn) (ch:=[it]) (fun b hb=>?_) (fun b o _ _ hc e _=>k b o (fun z=>hc (by simp[z])) e) (fun b o _ _ hc e _=>⟨o.slots,k b o (fun z=>hc (by simp[z])) e⟩) (fun _ _ _ _ n=>n)
  (fun b o hc e=>⟨o,k b o (fun z=>hc (by simp[z])) e⟩) (fun _ _ e=>e) (fun _ _ _ e=>e) (fun b ps e=>⟨#[],by rw[e]; simp⟩) (fun m hm=>?_) (fun b u e=>?_) I.bare
 .have e:b=it:=by simpa using hb
  subst e;exact⟨h1,hL,h2,h3⟩
 .obtain ⟨o,es,ep,ho,r⟩:=hm
  exact⟨o,es,ep,k _ o (Ne.symm hL) ho,r⟩
 .refine (I.hok b u e).stay (fun c v hc q=>k c v ?_ q) (fun _ q=>q) fun _ _ q=>q
  rcases hc with z | z
  .rw [z]; exact nit b u e
  .exact nit c _ z
theorem Inv.tok (I:Inv X pins σ H s)(t:Nat):Inv X pins σ H { s with toks:=t }:=I.un (h':=s.heap) (t':=t) Un.refl I.hok
theorem Inv.kept {t':Nat}(I:Inv X pins σ H s)(k:∀b u,s.heap.get? b=some u->h'.get? b=some u):Inv X pins σ H { s with heap:=h',toks:=t' }:=I.un (Un.kept k) (I.hok.kept k)
theorem Inv.laid {a:Addr}{o:HO}{t':Nat}(I:Inv X pins σ H s)(k:∀b u,s.heap.get? b=some u->h'.get? b=some u)(hp:s.heap.objs.size<=a)(new:ObjOk X.prog X.w (upd H a o) h' a o):
  Inv X pins σ (upd H a o) { s with heap:=h',toks:=t' }:=I.un (Un.laid k hp (I.hok.fresh hp)) (I.hok.laid k hp new)
theorem Inv.write {x e:Addr}{o:HO}{t':Nat}(I:Inv X pins σ H s)(mu:Mut (H x))(he:e=x\/H e=some (.own x))(k:∀b u,b≠e->s.heap.get? b=some u->h'.get? b=some u)(heo:∃u,h'.get? e=some u)
  (new:ObjOk X.prog X.w (upd H x o) h' x o):Inv X pins σ (upd H x o) { s with heap:=h',toks:=t' }:=I.un (Un.write mu he k heo) (I.hok.write mu he k heo new)
theorem Inv.pins_of {pins':List (Addr×Obj)}(I:Inv X pins σ H s)(h:∀p∈pins',s.heap.get? p.1=some p.2/\H p.1=none/\p.1≠X.env.locals/\p.1∉X.fs/\∀v,p.2.data≠.cell v):Inv X pins' σ H s :=
 ⟨I.ok,I.os,I.bare,I.base,I.loc,I.cell,I.free,I.freeC,fun p hp=>(List.mem_append.mp hp).elim (fun z=>I.pin p (List.mem_append_left _ z)) (h p),I.hok,I.len⟩
theorem aD {N:List Str}(hN:N.Nodup){i j:Nat}{x:Str}(a:N[i]?=some x)(b:N[j]?=some x):i=j:=by
 obtain⟨h1,e1⟩:=List.getElem?_eq_some_iff.mp a;obtain⟨h2,e2⟩:=List.getElem?_eq_some_iff.mp b;exact(List.getElem_inj hN).mp (e1.trans e2.symm)
theorem gC {M:Model}{A:Around}{E:Value->Shared->Prop}{i:Nat}{x:Str}{v:V}{u:Value}{Q:Unit->Shared->Prop}(I:Inv X pins σ H s)(hN:X.N.Nodup)(hi:X.N[i]?=some x)(hx:Loc X.env.scope x)(r:RelV v u)
  (h:∀s',Inv X pins (σ.set i (some v)) H s'->(∃a,Heap.SameBut a s.heap s'.heap/\(a=X.env.locals\/X.env.cells.lookup x=some a))->Q () s') (hf:X.fn x=true\/X.env.scope.names.lookup x=some .local:=by first | exact .inl rfl | exact .inr rfl | assumption):wpAny M A (storeName X.env x u) Q E s:=by
 obtain⟨m,hn,hl⟩:=id I.loc;have hcls:(X.env.scope.kind==.class || (X.env.scope.kind==.module&&X.env.locals != X.env.globals))=false:=by rw[I.ok.kind]; rfl
 have hiσ:i < σ.length:=by rw[I.len]; exact(List.getElem?_eq_some_iff.mp hi).1
 have cne:=I.cne
 have tracked:∀{a:Addr} {h':Heap},(∃o,s.heap.get? a=some o/\H a=none)->Heap.SameBut a s.heap h'->HOk X.prog X.w H h':=fun {a h'} ha hs b ob e=>by
  obtain⟨_,_,hfree⟩:=ha;refine(I.hok b ob e).stay (fun c w' hc q=>(hs.2 c ?_).trans q) (fun _ q=>q) fun _ _ q=>q;rintro rfl
  rcases hc with rfl | hc
  .rw [hfree] at e; cases e
  .rw [hfree] at hc; cases hc
 rcases hx with hk | hk
 .refine wpAny_storeName_local hk hn (fun h' hn' hs=>?_) hcls
  obtain⟨oL,_,_,hoL,_⟩:=id hn;refine h _ ⟨I.ok,I.os,I.bare,⟨fun b o e n hb hx=>?_,fun b o e n hb hx=>?_,I.base.free,fun b o e hx=>?_,I.base.tups,I.base.frzs,I.base.tbls⟩,⟨_,hn',fun j y v' e1 e2 e3=>?_⟩,fun y c e=>?_,I.free,I.freeC,fun p hp=>?_,tracked ⟨oL,hoL,I.free⟩ hs,by simpa using I.len⟩ ⟨_,hs,.inl rfl⟩
  .exact (hs.2 b (Nat.ne_of_lt (Nat.lt_of_lt_of_le (Heap.lt_size e) I.ok.above))).trans (I.base.keep b o e n hb hx)
  .obtain ⟨sl,e1⟩:=I.base.slot b o e n hb hx
   exact⟨sl,(hs.2 b (Nat.ne_of_lt (Nat.lt_of_lt_of_le (Heap.lt_size e) I.ok.above))).trans e1⟩
  .obtain ⟨o',e1⟩:=I.base.there b o e hx
   exact⟨o',(hs.2 b (Nat.ne_of_lt (Nat.lt_of_lt_of_le (Heap.lt_size e) I.ok.above))).trans e1⟩
  .by_cases hj:j=i
   .subst hj
    rw[hi] at e1; cases e1
    rw[List.getElem?_set_self hiσ] at e2;cases e2;exact⟨u,r,.inl ⟨hk,by simp⟩⟩
   .rw [List.getElem?_set_ne (Ne.symm hj)] at e2
    obtain⟨u',r',q⟩:=hl j y v' e1 e2 e3;refine⟨u',r',?_⟩
    rcases q with ⟨k,e⟩ | ⟨k,c,e,z⟩
    .refine .inl ⟨k,?_⟩
     have:y≠x:=fun e=>hj (aD hN e1 (e▸hi))
     simp[this,e]
    .exact .inr ⟨k,c,e,z.sameBut hs (cne y c e)⟩
  .obtain ⟨w',z⟩:=I.cell y c e
   exact⟨w',z.sameBut hs (cne y c e)⟩
  .obtain ⟨e,n,ne,nf,d⟩:=I.pin p hp
   exact⟨(hs.2 p.1 ne).trans e,n,ne,nf,d⟩
 .have hfn:X.fn x=true:=by
   rcases hf with z | z
   .exact z
   .rw [z] at hk; cases hk
  obtain⟨c,hc⟩:=I.ok.has x (.inl hk);obtain⟨w',z⟩:=I.cell x c hc;refine wpAny_storeName_cell I.ok.kind hk hc z (fun h' hc' hs=>?_);obtain⟨oc,hoc,hocd⟩:=id z;refine h { s with heap:=h' } ⟨I.ok,I.os,I.bare,⟨fun b o e n hb hx=>?_,fun b o e n hb hx=>?_,I.base.free,fun b o e hx=>?_,I.base.tups,I.base.frzs,I.base.tbls⟩,⟨m,hn.sameBut hs (Ne.symm (cne x c hc)),fun j y v' e1 e2 e3=>?_⟩,fun y c' e=>?_,I.free,I.freeC,fun p hp=>?_,tracked ⟨oc,hoc,I.freeC x c hc⟩ hs,by simpa using I.len⟩ ⟨c,hs,.inr hc⟩
  .exact (hs.2 b (Nat.ne_of_lt (Nat.lt_of_lt_of_le (Heap.lt_size e) (I.ok.cab x c hfn hc)))).trans (I.base.keep b o e n hb hx)
  .obtain ⟨sl,e1⟩:=I.base.slot b o e n hb hx
   exact⟨sl,(hs.2 b (Nat.ne_of_lt (Nat.lt_of_lt_of_le (Heap.lt_size e) (I.ok.cab x c hfn hc)))).trans e1⟩
  .obtain ⟨o',e1⟩:=I.base.there b o e hx
   exact⟨o',(hs.2 b (Nat.ne_of_lt (Nat.lt_of_lt_of_le (Heap.lt_size e) (I.ok.cab x c hfn hc)))).trans e1⟩
  .by_cases hj:j=i
   .subst hj
    rw[hi] at e1; cases e1
    rw[List.getElem?_set_self hiσ] at e2;cases e2;exact⟨u,r,.inr ⟨.inl hk,c,hc,hc'⟩⟩
   .rw [List.getElem?_set_ne (Ne.symm hj)] at e2
    obtain⟨u',r',q⟩:=hl j y v' e1 e2 e3;refine⟨u',r',?_⟩
    rcases q with q | ⟨k,c',e,z'⟩
    .exact .inl q
    .refine .inr ⟨k,c',e,z'.sameBut hs ?_⟩
     rintro rfl;exact hj (aD hN e1 (I.ok.inj _ _ _ e hc▸hi))
  .by_cases hcc:c'=c
   .subst hcc; exact⟨_,hc'⟩
   .obtain ⟨w2,z2⟩:=I.cell y c' e
    exact⟨w2,z2.sameBut hs hcc⟩
  .obtain ⟨e,n,ne,nf,d⟩:=I.pin p hp
   refine⟨(hs.2 p.1 ?_).trans e,n,ne,nf,d⟩;intro q;rw[q,hoc] at e;have q':oc=p.2:=Option.some.inj e;exact d w' (by rw[<- q']; exact hocd)
theorem kD {M:Model}{A:Around}{E:Value->Shared->Prop}{i:Nat}{x:Str}{v:V}{u:Value}{Q:Unit->Shared->Prop}(I:Inv X pins σ H s)(hN:X.N.Nodup)(hi:X.N[i]?=some x)(hx:Loc X.env.scope x)(r:RelV v u)
  (h:∀s',Inv X pins (σ.set i (some v)) H s'->Q () s') (hf:X.fn x=true\/X.env.scope.names.lookup x=some .local:=by first | exact .inl rfl | exact .inr rfl | assumption):wpAny M A (storeName X.env x u) Q E s :=
 gC I hN hi hx r (fun s' I' _=>h s' I') hf
end
abbrev XK:=Value->Option Addr->Hp->Prop
abbrev St:=List (Option V)
abbrev VK:=V->Hp->Prop
abbrev TE:=St->Hp->VK->Prop
abbrev TT:=St->Hp->(Bool->Hp->Prop)->Prop
abbrev TA:=St->Hp->(List V->Hp->Prop)->Prop
structure uP where
 nx:St->Hp->Prop
 rt:VK
 bk:St->Hp->Prop:=fun _ _=>False
 ct:St->Hp->Prop:=fun _ _=>False
abbrev TS:=uP->St->Hp->Prop
def EP (X:Cx)(pins:List (Addr×Obj))(σ:St)(Q:VK)(u:Value)(s':Shared):Prop:=∃v H',Inv X pins σ H' s'/\RelV v u/\Q v H'
def TP (X:Cx)(pins:List (Addr×Obj))(σ:St)(Q:Bool->Hp->Prop)(b:Bool)(s':Shared):Prop:=∃H',Inv X pins σ H' s'/\Q b H'
def AP (X:Cx)(pins:List (Addr×Obj))(σ:St)(Q:List V->Hp->Prop)(us:List Value)(s':Shared):Prop:=∃vs H',Inv X pins σ H' s'/\Vals vs us/\Q vs H'
def SP (X:Cx)(pins:List (Addr×Obj))(D:uP)(f:Flow)(s':Shared):Prop :=
 match f with
 |.next=>∃σ' H',Inv X pins σ' H' s'/\D.nx σ' H'
 |.brk=>∃σ' H',Inv X pins σ' H' s'/\D.bk σ' H'
 |.cont=>∃σ' H',Inv X pins σ' H' s'/\D.ct σ' H'
 |.ret u=>∃v σ' H',Inv X pins σ' H' s'/\RelV v u/\D.rt v H'
def PE (X:Cx)(e:Expr)(t:TE):Prop :=
 ∀(pins:List (Addr×Obj)) (s:Shared) (σ:St) (H:Hp) (Q:VK),Inv X pins σ H s->t σ H Q->wpAny (model X.prog X.w) X.A (eval e X.env) (EP X pins σ Q) X.xe s
def PT (X:Cx)(e:Expr)(t:TT):Prop :=
 ∀(pins:List (Addr×Obj)) (s:Shared) (σ:St) (H:Hp) (Q:Bool->Hp->Prop),Inv X pins σ H s->t σ H Q->wpAny (model X.prog X.w) X.A (isTrue e X.env (eval e X.env)) (TP X pins σ Q) X.xe s
def PW (X:Cx)(e:Expr)(t:TT):Prop :=
 ∀(whole:Sem Value) (pins:List (Addr×Obj)) (s:Shared) (σ:St) (H:Hp) (Q:Bool->Hp->Prop),Inv X pins σ H s->t σ H Q->wpAny (model X.prog X.w) X.A (isTrue e X.env whole) (TP X pins σ Q) X.xe s
theorem PW.pt {X:Cx}{e:Expr}{t:TT}(h:PW X e t):PT X e t:=h _
def PA (X:Cx)(es:List Expr)(t:TA):Prop :=
 ∀(pos:Pos) (pins:List (Addr×Obj)) (s:Shared) (σ:St) (H:Hp) (Q:List V->Hp->Prop),Inv X pins σ H s->t σ H Q->wpAny (model X.prog X.w) X.A (spliced (backTo pos (starEach es X.env))) (AP X pins σ Q) X.xe s
def PS (X:Cx)(st:Stmt)(t:TS):Prop :=
 ∀(pins:List (Addr×Obj)) (s:Shared) (σ:St) (H:Hp) (D:uP),Inv X pins σ H s->t D σ H->wpAny (model X.prog X.w) X.A (exec st X.env) (SP X pins D) X.xe s
def PSs (X:Cx)(st:List Stmt)(t:TS):Prop :=
 ∀(pins:List (Addr×Obj)) (s:Shared) (σ:St) (H:Hp) (D:uP),Inv X pins σ H s->t D σ H->wpAny (model X.prog X.w) X.A (execs st X.env) (SP X pins D) X.xe s
theorem thn {α:Type}{t:Sem α}{Q Q':α->Shared->Prop}{M:Model}{A:Around}{E:Value->Shared->Prop}{s:Shared}(h:wpAny M A t Q E s)(hQ:∀a s,Q a s->Q' a s):wpAny M A t Q' E s:=wpAny_mono h hQ fun _ _ x=>x
section
variable {X:Cx}
theorem bin {a b:Expr}{ta tb:TE}(ha:PE X a ta)(hb:PE X b tb){pins:List (Addr×Obj)}{s:Shared}{σ:St}{H:Hp}{R:V->V->Hp->Prop}(I:Inv X pins σ H s)(h:ta σ H fun x H1=>tb σ H1 fun y H2=>R x y H2)
  {α:Type} {Q:α->Shared->Prop} {f:Value->Value->Sem α}
  (hf:∀v u s2 x y H2,Inv X pins σ H2 s2->RelV x v->RelV y u->R x y H2->wpAny (model X.prog X.w) X.A (f v u) Q X.xe s2) :
  wpAny (model X.prog X.w) X.A (eval a X.env) (fun v s₁=>wpAny (model X.prog X.w) X.A (eval b X.env) (fun u s₂=>wpAny (model X.prog X.w) X.A (f v u) Q X.xe s₂) X.xe s₁) X.xe s:=by
 refine thn (ha pins s σ H _ I h) fun v s1 ⟨x,H1,I1,r1,q1⟩=>?_;refine thn (hb pins s1 σ H1 _ I1 q1) fun u s2 ⟨y,H2,I2,r2,q2⟩=>?_;exact hf v u s2 x y H2 I2 r1 r2 q2
inductive IVar (i:Nat)(σ:St)(H:Hp)(Q:VK):Prop
 |mk (v:V) (h:σ[i]?=some (some v)) (q:Q v H):IVar i σ H Q
def tVar (i:Nat):TE:=fun σ H Q=>IVar i σ H Q
def tC (v:V):TE:=fun _ H Q=>Q v H
theorem tT {i:Nat}{x:Str}{pos:Pos}(hN:X.N[i]?=some x)(hv:Vis X.env.scope x)(hd:(x==("__debug__" : Str))=false:=by decide)(hcd:(x==("__classdict__" : Str))=false:=by decide):PE X (.Name x pos) (tVar i):=by
 intro pins s σ H Q I h;obtain⟨v,e,h⟩:=h;obtain⟨m,hn,hl⟩:=I.loc;obtain⟨u,r,l⟩:=hl i x v hN e hv;have fin:EP X pins σ Q u s:=⟨v,H,I,r,h⟩
 rcases l with ⟨hk,hm⟩ | ⟨hk,c,hc,hcell⟩
 .exact wpAny_Name (wpAny_loadName_local I.ok.kind hk hn hm fin) hd
 .rcases hk with hk | hk
  .exact wpAny_Name (wpAny_loadName_cell I.ok.kind hk hc hcell fin) hd
  .exact wpAny_Name (wpAny_loadName_free I.ok.kind hk hc hcell fin hcd) hd
theorem pe_int {i j pos}:PE X (.Constant (.int i) j pos) (tC (.int i)):=fun _ _ _ H _ I h=>wpAny_Constant_int ⟨.int i,H,I.tok _,⟨_,rfl⟩,h⟩
theorem pe_bl {b j pos}:PE X (.Constant (.bool b) j pos) (tC (.bl b)):=fun _ _ _ H _ I h=>Constant_bool ⟨.bl b,H,I,rfl,h⟩
theorem pe_non {j pos}:PE X (.Constant .none j pos) (tC .non):=fun _ _ _ H _ I h=>Constant_none ⟨.non,H,I,rfl,h⟩
theorem pe_str {x j pos}:PE X (.Constant (.str x) j pos) (tC (.str x)):=fun _ _ _ H _ I h=>Calls.Constant_str ⟨.str x,H,I.tok _,⟨_,rfl⟩,h⟩
def Gl (X:Cx)(x:Str):Prop:=X.env.kindOf x=some .globalImplicit
theorem ld_glob {E:Value->Shared->Prop}{pins:List (Addr×Obj)}{s:Shared}{σ:St}{H:Hp}{x:Str}{u:Value}{pos:Pos}{Q:Value->Shared->Prop}(I:Inv X pins σ H s)(hg:Gl X x)(hm:X.mg x=some u)(h:Q u s)
  (hd:(x==("__debug__" : Str))=false:=by decide):wpAny (model X.prog X.w) X.A (eval (.Name x pos) X.env) Q E s :=
 Calls.Name_function_global I.ok.kind hg (Calls.loadGlobal_global (by rw[I.ok.glob]; exact I.mod.glob.keeps I.bk) hm h) hd
theorem iM {E:Value->Shared->Prop}{pins:List (Addr×Obj)}{s:Shared}{σ:St}{H:Hp}{x:Str}{u:Value}{pos:Pos}{Q:Value->Shared->Prop}(I:Inv X pins σ H s)(hg:Gl X x)(hm:X.mg x=none)(hv:bootBuiltins x=some u)(h:Q u s)
  (hn:x ≠ "__name__":=by decide) (hd:(x==("__debug__" : Str))=false:=by decide):wpAny (model X.prog X.w) X.A (eval (.Name x pos) X.env) Q E s:=by
 obtain⟨mb,h1,h2⟩:=I.mod.blt;exact Calls.Name_function_global I.ok.kind hg (Calls.loadGlobal_builtin (by rw[I.ok.glob]; exact I.mod.glob.keeps I.bk) hm (by rw[I.ok.blt]; exact h1.keeps I.bk) ((h2 x hn).trans hv) h) hd
theorem pe_bltn {x:Str}{v:V}{u:Value}{pos:Pos}(hg:Gl X x)(hm:X.mg x=none)(hv:bootBuiltins x=some u)(r:RelV v u)(hn:x ≠ "__name__":=by decide)(hd:(x==("__debug__" : Str))=false:=by decide):PE X (.Name x pos) (tC v) :=
 fun _ _ _ H _ I h=>iM I hg hm hv ⟨v,H,I,r,h⟩ hn hd
variable {a b:Expr}{ta tb:TE}{pos:Pos}
inductive IBl (Q:Bool->Hp->Prop)(x:V)(H:Hp):Prop
 |mk (c:Bool) (h:x=.bl c) (q:Q c H):IBl Q x H
def tB (t:TE):TT:=fun σ H Q=>t σ H (IBl Q)
theorem pt_val {e:Expr}{t:TE}(h:PE X e t)(he:∀whole,isTrue e X.env whole=(do let v <- whole; standAt e.pos; holding [v] (truthy v)):=by intro _; rfl):PT X e (tB t):=by
 intro pins s σ H Q I hw;refine isTrue_plain (thn (h pins s σ H _ I hw) fun v s1 ⟨x,H1,I1,r1,q1⟩=>?_) (he _);obtain⟨d,rfl,q⟩:=q1;cases r1;exact wpAny_truthy_bool ⟨H1,I1,q⟩
variable {tA tB':TT}{rest:List Expr}
def tAnd (t u:TT):TT:=fun σ H Q=>t σ H fun c H1=>if c=true then u σ H1 Q else Q false H1
def tOr (t u:TT):TT:=fun σ H Q=>t σ H fun c H1=>if c=true then Q true H1 else u σ H1 Q
def tNot (t:TT):TT:=fun σ H Q=>t σ H fun c H1=>Q (!c) H1
theorem pw_and1 (ha:PT X a tA):PW X (.BoolOp .And [a] pos) tA:=by
 intro wh pins s σ H Q I h;refine isTrue_and (thn (ha pins s σ H Q I h) fun c s1 e=>?_)
 cases c with
 |true=>exact isTrue_and_nil e
 |false=>exact e
theorem pw_or1 (ha:PT X a tA):PW X (.BoolOp .Or [a] pos) tA:=by
 intro wh pins s σ H Q I h;refine isTrue_or (thn (ha pins s σ H Q I h) fun c s1 e=>?_)
 cases c with
 |false=>exact isTrue_or_nil e
 |true=>exact e
theorem pw_and (ha:PT X a tA)(hb:PW X (.BoolOp .And (b::rest) pos) tB'):PW X (.BoolOp .And (a::b::rest) pos) (tAnd tA tB'):=by
 intro wh pins s σ H Q I h;refine isTrue_and (thn (ha pins s σ H _ I h) fun c s1 ⟨H1,I1,q1⟩=>?_)
 cases c with
 |true=>exact hb wh pins s1 σ H1 Q I1 q1
 |false=>exact⟨H1,I1,q1⟩
theorem pw_or (ha:PT X a tA)(hb:PW X (.BoolOp .Or (b::rest) pos) tB'):PW X (.BoolOp .Or (a::b::rest) pos) (tOr tA tB'):=by
 intro wh pins s σ H Q I h;refine isTrue_or (thn (ha pins s σ H _ I h) fun c s1 ⟨H1,I1,q1⟩=>?_)
 cases c with
 |true=>exact⟨H1,I1,q1⟩
 |false=>exact hb wh pins s1 σ H1 Q I1 q1
theorem pt_not (ha:PT X a tA):PT X (.UnaryOp .Not a pos) (tNot tA):=by
 intro pins s σ H Q I h;exact isTrue_not (ha pins s σ H (fun c H1=>Q (!c) H1) I h)
def tAndV (ta tb:TE):TE:=fun σ H Q=>ta σ H fun x H1=>∃c,x=.bl c/\if c=true then tb σ H1 Q else Q (.bl false) H1
theorem pe_one {op}{t:TE}(h:PE X a t):PE X (.BoolOp op [a] pos) t:=fun pins s σ H Q I hw=>BoolOp_one (h pins s σ H Q I hw)
theorem pe_and (ha:PE X a ta)(hb:PE X (.BoolOp .And (b::rest) pos) tb):PE X (.BoolOp .And (a::b::rest) pos) (tAndV ta tb):=by
 intro pins s σ H Q I h;refine BoolOp_and (thn (ha pins s σ H _ I h) fun v s1 ⟨x,H1,I1,r1,q1⟩=>?_);obtain⟨c,rfl,q1⟩:=q1;cases r1;refine wpAny_truthy_bool ?_
 cases c with
 |true=>exact hb pins s1 σ H1 Q I1 q1
 |false=>exact⟨.bl false,H1,I1,rfl,q1⟩
end
def SqL (K:PySem.W.Frag)(H:Hp)(a:Addr)(xs:List V):Prop :=
 Rd H a (.lst xs) \/
  ∃(o:Obj) (its:Array Value) (n:Nat),K.lookup a=some o/\o.cls=.type "list"/\o.dict=none/\o.data=.seq its n/\its.size<=sizeLine/\Vals xs its.toList
def SqT (K:PySem.W.Frag)(H:Hp)(a:Addr)(xs:List V):Prop :=
 Rd H a (.tup xs) \/
  ∃(o:Obj) (its:Array Value) (n:Nat),K.lookup a=some o/\o.cls=.type "tuple"/\o.data=.seq its n/\its.size<=sizeLine/\Vals xs its.toList
def absV:Value->Option V
 |.none=>some .non
 |.bool b=>some (.bl b)
 |.int i _=>some (.int i)
 |.str x _=>some (.str x)
 |.bytes b _=>some (.byt b)
 |.float b _=>some (.flt b)
 |.ref a=>some (.ref a)
 |.type n=>some (.ty n)
 |_=>none
theorem RelV.abs {x:V}{u:Value}(r:RelV x u):absV u=some x:=by
 cases x with
 |non=>cases r; rfl
 |bl _=>cases r; rfl
 |int _=>obtain⟨t,rfl⟩:=r; rfl
 |str _=>obtain⟨t,rfl⟩:=r; rfl
 |byt _=>obtain⟨t,rfl⟩:=r; rfl
 |flt _=>obtain⟨t,rfl⟩:=r; rfl
 |ref _=>cases r; rfl
 |ty _=>cases r; rfl
theorem RelV.inj {x y:V}{u:Value}(r:RelV x u)(q:RelV y u):x=y:=Option.some.inj (r.abs.symm.trans q.abs)
theorem Vals.inj:∀{xs ys:List V}{us:List Value},Vals xs us->Vals ys us->xs=ys
 |_,_,_,.nil,.nil=>rfl
 |_,_,_,.cons r t,.cons r' t'=>by rw[r.inj r',Vals.inj t t']
section
variable {X:Cx}{pins:List (Addr×Obj)}{σ:St}{H:Hp}{s:Shared}{a:Addr}{xs ys:List V}
theorem SqL.of {K:PySem.W.Frag}(h:H a=some (.lst xs)):SqL K H a xs:=.inl (.inl h)
theorem SqT.of {K:PySem.W.Frag}(h:H a=some (.tup xs)):SqT K H a xs:=.inl (.inl h)
theorem Inv.list (I:Inv X pins σ H s)(h:SqL X.K H a xs):∃its:List Value,Vals xs its/\PlainL s.heap a its.toArray/\xs.length<=sizeLine:=by
 rcases h with h | ⟨o,its,n,hk,hc,hd,hs,hz,r⟩
 .obtain ⟨z,its,n,r,e⟩:=h.ok I.hok
  exact⟨its,r,⟨_,n,e,rfl,rfl,rfl⟩,z⟩
 .refine ⟨its.toList,r,⟨o,n,I.kIn a o hk,hc,hd,by simpa using hs⟩,?_⟩
  have e:=r.length
  simp only[Array.length_toList] at e
  omega
theorem Inv.tuple (I:Inv X pins σ H s)(h:SqT X.K H a xs):∃its:List Value,Vals xs its/\IsTup s.heap a its.toArray/\xs.length<=sizeLine:=by
 rcases h with h | ⟨o,its,n,hk,hc,hs,hz,r⟩
 .obtain ⟨z,its,r,p⟩:=h.ok I.hok
  exact⟨its,r,IsTupN.is p,z⟩
 .refine ⟨its.toList,r,⟨o,I.kIn a o hk,hc,n,by simpa using hs⟩,?_⟩
  have e:=r.length
  simp only[Array.length_toList] at e
  omega
theorem Inv.list_inj (I:Inv X pins σ H s)(h:SqL X.K H a xs)(h':SqL X.K H a ys):xs=ys:=by
 obtain⟨its,r,⟨o,n,e,_,_,d⟩,_⟩:=I.list h;obtain⟨its',r',⟨o',n',e',_,_,d'⟩,_⟩:=I.list h';rw[e] at e'; cases e'
 rw[d] at d';injection d' with d1 _
 have:its=its':=by simpa using congrArg Array.toList d1
 subst this;exact r.inj r'
theorem Inv.tuple_inj (I:Inv X pins σ H s)(h:SqT X.K H a xs)(h':SqT X.K H a ys):xs=ys:=by
 obtain⟨its,r,⟨o,e,_,n,d⟩,_⟩:=I.tuple h;obtain⟨its',r',⟨o',e',_,n',d'⟩,_⟩:=I.tuple h';rw[e] at e'; cases e'
 rw[d] at d';injection d' with d1 _
 have:its=its':=by simpa using congrArg Array.toList d1
 subst this;exact r.inj r'
end
abbrev Cx.wish (X:Cx)(E:Value->Shared->Prop):Cx:={ X with xe:=E }
abbrev Cx.nox (X:Cx):Cx:=X.wish fun _ _=>False
theorem Cx.Ok.wish {X:Cx}(ok:X.Ok)(E:Value->Shared->Prop):(X.wish E).Ok :=
 ⟨ok.mod,ok.kind,ok.glob,ok.blt,ok.above,ok.inj,ok.has,ok.cab,ok.hd,ok.frames,ok.stk,ok.exf,ok.bs,ok.bsz,ok.noex,ok.exfs,ok.funs,ok.frf⟩
theorem Cx.Ok.unwish {X:Cx}{E:Value->Shared->Prop}(ok:(X.wish E).Ok):X.Ok :=
 ⟨ok.mod,ok.kind,ok.glob,ok.blt,ok.above,ok.inj,ok.has,ok.cab,ok.hd,ok.frames,ok.stk,ok.exf,ok.bs,ok.bsz,ok.noex,ok.exfs,ok.funs,ok.frf⟩
section
variable {X:Cx}{pins:List (Addr×Obj)}{σ:St}{H:Hp}{s:Shared}{E:Value->Shared->Prop}
theorem Inv.wish (I:Inv X pins σ H s)(E:Value->Shared->Prop):Inv (X.wish E) pins σ H s:=⟨I.ok.wish E,I.os,I.bare,I.base,I.loc,I.cell,I.free,I.freeC,I.pin,I.hok,I.len⟩
theorem Inv.unwish (I:Inv (X.wish E) pins σ H s):Inv X pins σ H s:=⟨I.ok.unwish,I.os,I.bare,I.base,I.loc,I.cell,I.free,I.freeC,I.pin,I.hok,I.len⟩
theorem SP.unwish {D:uP}{f:Flow}{s':Shared}(h:SP (X.wish E) pins D f s'):SP X pins D f s':=by
 cases f with
 |next=>obtain⟨σ',H',I,q⟩:=h; exact⟨σ',H',I.unwish,q⟩
 |brk=>obtain⟨σ',H',I,q⟩:=h; exact⟨σ',H',I.unwish,q⟩
 |cont=>obtain⟨σ',H',I,q⟩:=h; exact⟨σ',H',I.unwish,q⟩
 |ret u=>obtain⟨v,σ',H',I,r,q⟩:=h; exact⟨v,σ',H',I.unwish,r,q⟩
theorem PSs.nox {st:List Stmt}{t:TS}(h:PSs X.nox st t):PSs X st t:=fun pins s σ H D I hw =>
 wpAny_mono (h pins s σ H D (I.wish _) hw) (fun _ _ q=>q.unwish) fun _ _ z=>False.elim z
end
section
variable {X:Cx}{st:Stmt}{rest:List Stmt}{t u:TS}{e:Expr}{te:TE}{pos:Pos}
def tNext:TS:=fun D σ H=>D.nx σ H
def tSeq (t u:TS):TS:=fun D σ H=>t { D with nx:=u D } σ H
theorem pss_nil:PSs X [] tNext:=fun _ _ σ H _ I h=>wpAny_execs_nil ⟨σ,H,I,h⟩
theorem cT (h1:PS X st t)(h2:PSs X rest u):PSs X (st::rest) (tSeq t u):=by
 intro pins s σ H D I h;refine wpAny_execs_cons (thn (h1 pins s σ H { D with nx:=u D } I h) fun f s1 q=>?_)
 cases f with
 |next =>
  obtain⟨σ',H',I',q⟩:=q;exact h2 pins s1 σ' H' D I' q
 |ret v=>exact q
 |brk=>exact q
 |cont=>exact q
theorem pss_one (h1:PS X st t):PSs X [st] t:=by
 intro pins s σ H D I h;refine wpAny_execs_cons (thn (h1 pins s σ H D I h) fun f s1 q=>?_)
 cases f with
 |next=>exact wpAny_execs_nil q
 |ret v=>exact q
 |brk=>exact q
 |cont=>exact q
theorem Inv.quiet {pins:List (Addr×Obj)}{σ:St}{H:Hp}{s:Shared}(I:Inv X pins σ H s):interactive X.env=false:=by simp[interactive,I.ok.kind]
def tDrop (te:TE):TS:=fun D σ H=>te σ H fun _ H1=>D.nx σ H1
theorem ps_expr (he:PE X e te)(hs:swapsWith e none pos.line X.env=pure false:=by rfl):PS X (.Expr e pos) (tDrop te):=by
 intro pins s σ H D I h;exact wpAny_Expr_any (thn (he pins s σ H _ I h) fun v s1 ⟨x,H1,I1,r1,q1⟩=>⟨σ,H1,I1,q1⟩) I.quiet hs
def tRet (te:TE):TS:=fun D σ H=>te σ H D.rt
theorem ps_ret (he:PE X e te):PS X (.Return (some e) pos) (tRet te):=by
 intro pins s σ H D I h;exact wpAny_Return_some (thn (he pins s σ H _ I h) fun v s1 ⟨x,H1,I1,r1,q1⟩=>⟨x,σ,H1,I1,r1,q1⟩)
def tIfS (c:TT)(t u:TS):TS:=fun D σ H=>c σ H fun b H1=>if b=true then t D σ H1 else u D σ H1
theorem ps_if {c:Expr}{a b:List Stmt}{tc:TT}(hc:PT X c tc)(ha:PSs X a t)(hb:PSs X b u):PS X (.If c a b pos) (tIfS tc t u):=by
 intro pins s σ H D I h;refine wpAny_If (thn (hc pins s σ H _ I h) fun d s1 ⟨H1,I1,q1⟩=>?_)
 cases d with
 |true=>exact ha pins s1 σ H1 D I1 q1
 |false=>exact hb pins s1 σ H1 D I1 q1
end
abbrev TG:=V->St->Hp->(St->Hp->Prop)->Prop
abbrev TGs:=List V->St->Hp->(St->Hp->Prop)->Prop
def PG (X:Cx)(target:Expr)(t:TG):Prop :=
 ∀(pins:List (Addr×Obj)) (s:Shared) (σ:St) (H:Hp) (v:V) (u:Value) (Q:St->Hp->Prop),Inv X pins σ H s->RelV v u->t v σ H Q ->
  wpAny (model X.prog X.w) X.A (assign target X.env u) (fun _ s'=>∃σ' H',Inv X pins σ' H' s'/\Q σ' H') X.xe s
def PGs (X:Cx)(ts:List Expr)(t:TGs):Prop :=
 ∀(pins:List (Addr×Obj)) (s:Shared) (σ:St) (H:Hp) (vs:List V) (us:List Value) (Q:St->Hp->Prop),Inv X pins σ H s->Vals vs us->t vs σ H Q ->
  wpAny (model X.prog X.w) X.A (assignInOrder ((assignEach ts X.env).map (·.2)) us) (fun _ s'=>∃σ' H',Inv X pins σ' H' s'/\Q σ' H') X.xe s
abbrev TSet:=V->V->V->Hp->(Hp->Prop)->Prop
def PSet (X:Cx)(t:TSet):Prop :=
 ∀(pins:List (Addr×Obj)) (s:Shared) (σ:St) (H:Hp) (o i v:V) (ov iv u:Value) (Q:Hp->Prop),Inv X pins σ H s->RelV o ov->RelV i iv->RelV v u->t o i v H Q ->
  wpAny (model X.prog X.w) X.A (setItem ov iv u) (fun _ s'=>∃H',Inv X pins σ H' s'/\Q H') X.xe s
section
variable {X:Cx}{pos:Pos}
def iV (i:Nat):TG:=fun v σ H Q=>Q (σ.set i (some v)) H
theorem yG {i:Nat}{x:Str}(hN:X.N.Nodup)(hi:X.N[i]?=some x)(hx:Loc X.env.scope x)(hf:X.fn x=true\/X.env.scope.names.lookup x=some .local:=by first | exact .inl rfl | exact .inr rfl | assumption):PG X (.Name x pos) (iV i):=by
 intro pins s σ H v u Q I r h;exact wpAny_assign_Name (kD I hN hi hx r (fun s' I'=>⟨_,H,I',h⟩) hf)
def gNil:TGs:=fun vs σ H Q=>vs=[]/\Q σ H
def fU (t:TG)(u:TGs):TGs:=fun vs σ H Q=>∃v r,vs=v::r/\t v σ H fun σ' H'=>u r σ' H' Q
theorem vN:PGs X [] gNil:=by
 intro pins s σ H vs us Q I r h;obtain⟨e,h⟩:=h;subst e;cases r;exact assignInOrder_nil ⟨σ,H,I,h⟩
theorem jU {e:Expr}{es:List Expr}{t:TG}{u:TGs}(h1:PG X e t)(h2:PGs X es u)
  (hs:(assignEach (e::es) X.env).map (·.2)=assign e X.env::(assignEach es X.env).map (·.2):=by rfl):PGs X (e::es) (fU t u):=by
 intro pins s σ H vs us Q I r h;obtain⟨v,vr,e1,h⟩:=h;subst e1
 cases r with
 |cons r rr =>
  rw[hs];refine assignInOrder_cons (thn (h1 pins s σ H _ _ _ I r h) fun _ s1 ⟨σ1,H1,I1,q1⟩=>?_);exact h2 pins s1 σ1 H1 _ _ Q I1 rr q1
def gTup (K:PySem.W.Frag)(n:Nat)(t:TGs):TG:=fun v σ H Q=>∃a xs,v=.ref a/\SqT K H a xs/\xs.length=n/\t xs σ H Q
theorem oT {es:List Expr}{k:Nat}{t:TGs}{n:Nat}(hc:X.calm=true)(h:PGs X es t)
  (hn:(assignEach es X.env).length=n:=by rfl) (hst:(assignEach es X.env).findIdx? (·.1)=none:=by rfl):PG X (.Tuple es k pos) (gTup X.K n t):=by
 intro pins s σ H v u Q I r hw;obtain⟨a,xs,e1,hq,hl,hw⟩:=hw;subst e1;cases r;obtain⟨its,rv,ht,hz⟩:=I.tuple hq;refine assign_Tuple_tuple (I.ok.hd hc) ht (by simp[hn,<- hl,rv.length]) hst fun h' hx=>?_;have I1:Inv X pins σ H { s with heap:=h' }:=I.kept (t':=s.toks) fun b o e=>hx b o (Nat.ne_of_lt (Heap.lt_size e)) e;exact h pins _ σ H xs _ Q I1 (by simpa using rv) hw
def gSub (to ti:TE)(t:TSet):TG:=fun v σ H Q=>to σ H fun o H1=>ti σ H1 fun i H2=>t o i v H2 fun H3=>Q σ H3
theorem pg_sub {o i:Expr}{to ti:TE}{t:TSet}(ho:PE X o to)(hi:PE X i ti)(hs:PSet X t)
  (ha:∀v,assign (.Subscript o i pos) X.env v=(do
   let ov <- holding [v] (eval o X.env)
   let iv <- holding [v,ov] (eval i X.env)
   standAt pos
   holding [v,ov,iv] (setItem ov iv v)
   release [v,ov,iv] []):=by intro _; rfl):PG X (.Subscript o i pos) (gSub to ti t):=by
 intro pins s σ H v u Q I r h;rw[ha];refine wpAny_bind (wpAny_holding (thn (ho pins s σ H _ I h) fun ov s1 ⟨x,H1,I1,r1,q1⟩=>?_));refine wpAny_bind (wpAny_holding (thn (hi pins s1 σ H1 _ I1 q1) fun iv s2 ⟨y,H2,I2,r2,q2⟩=>?_));refine wpAny_bind (wpAny_standAt (wpAny_bind (wpAny_holding (thn (hs pins s2 σ H2 x y v ov iv u _ I2 r1 r2 r q2) fun _ s3 ⟨H3,I3,q3⟩=>?_))));exact wpAny_release ⟨σ,H3,I3,q3⟩
def tAsg (te:TE)(g:TG):TS:=fun D σ H=>te σ H fun x H1=>g x σ H1 D.nx
theorem ps_asg {tg e:Expr}{te:TE}{g:TG}(he:PE X e te)(hg:PG X tg g)(hs:swapsWithSole [tg] e pos.line X.env=pure false:=by rfl)(hw:swappedStores [tg] e X.env=pure none:=by rfl)
  (h1:(assignEach [tg] X.env).map (·.2)=[assign tg X.env]:=by rfl):PS X (.Assign [tg] e pos) (tAsg te g):=by
 intro pins s σ H D I h;refine wpAny_Assign_stores (thn (he pins s σ H _ I h) fun v s1 ⟨x,H1,I1,r1,q1⟩=>?_) hs hw;rw[h1];exact thn (hg pins s1 σ H1 x v _ I1 r1 q1) fun _ s2 q=>q
theorem ps_set {i:Nat}{x:Str}{e:Expr}{te:TE}{pos':Pos}(hN:X.N.Nodup)(hi:X.N[i]?=some x)(hx:Loc X.env.scope x)(he:PE X e te)(hs:swapsWith e (some (.Name x pos')) pos.line X.env=pure false:=by rfl)(hf:X.fn x=true\/X.env.scope.names.lookup x=some .local:=by first | exact .inl rfl | exact .inr rfl | assumption):
  PS X (.Assign [.Name x pos'] e pos) (tAsg te (iV i)):=by
 intro pins s σ H D I h;refine wpAny_Assign_Name (thn (he pins s σ H _ I h) fun v s1 ⟨y,H1,I1,r1,q1⟩=>?_) hs;exact kD I1 hN hi hx r1 (fun s2 I2=>⟨_,H1,I2,q1⟩) hf
end
structure It where
 go:Nat->Hp->Prop
 yld:Nat->Hp->V->Hp->Prop
 stop:Nat->Hp->Prop
def yP (X:Cx)(pins:List (Addr×Obj))(H:Hp)(b:Addr):Prop :=
 H b=none/\b≠X.env.locals/\b∉X.fs/\(b∈X.ex\/X.s₀.heap.objs.size<=b)/\(∀x c,X.env.cells.lookup x=some c->c≠b)/\∀p∈X.pn++pins,p.1≠b
theorem Inv.fpOk {X:Cx}{pins:List (Addr×Obj)}{σ:St}{H H':Hp}{s:Shared}{b:Addr}(I:Inv X pins σ H s)(hb:s.heap.objs.size<=b)(hn:H' b=none):yP X pins H' b:=by
 refine⟨hn,Nat.ne_of_gt (Nat.lt_of_lt_of_le I.lt hb),I.nofs hb,.inr (Nat.le_trans I.sz hb),fun x c e z=>?_,fun p hp z=>?_⟩
 .obtain ⟨v,q⟩:=I.cell x c e
  exact absurd (Nat.lt_of_lt_of_le q.lt (by rw[z]; exact hb)) (Nat.lt_irrefl _)
 .exact absurd (Nat.lt_of_lt_of_le (Heap.lt_size (I.pin p hp).1) (by rw[z]; exact hb)) (Nat.lt_irrefl _)
structure rA (P:Program)(w:World)(K:PySem.W.Frag)(tg:Expr)(J:It)(fp:List Addr)(it:Addr)(tn:Nat->Heap->Prop):Prop where
 mem:it∈fp
 obj:∀i h,tn i h->∀b∈fp,∃o,h.get? b=some o/\∀v,o.data≠.cell v
 keep:∀i h h',tn i h->(∀b∈fp,∀o,h.get? b=some o->h'.get? b=some o)->tn i h'
 item:∀(X:Cx),X.prog=P->X.w=w->X.K=K->X.calm=true->∀(i:Nat) (pins:List (Addr×Obj)) (s:Shared) (σ:St) (H:Hp) (E:Value->Shared->Prop),Inv X pins σ H s->(∀b∈fp,yP X pins H b)->tn i s.heap->J.go i H ->
  wpAny (model P w) X.A (pyNext (.ref it)) (fun r s1=>∃u,r=some u /\
   wpAny (model P w) X.A (letOwnedTupleGo tg (.ref it) u) (fun _ s2=>∃x H',Inv X pins σ H' s2/\RelV x u/\J.yld i H x H'/\tn (i+1) s2.heap/\∀b∈fp,H' b=none) E s1) E s
 done:∀(X:Cx),X.prog=P->X.w=w->X.K=K->X.calm=true->∀(i:Nat) (pins:List (Addr×Obj)) (s:Shared) (σ:St) (H:Hp) (E:Value->Shared->Prop),Inv X pins σ H s->(∀b∈fp,yP X pins H b)->tn i s.heap->J.stop i H ->
  wpAny (model P w) X.A (pyNext (.ref it)) (fun r s1=>r=none/\Inv X pins σ H s1) E s
 self:∀(A:Around) (i:Nat) (s:Shared) (Q:Value->Shared->Prop) (E:Value->Shared->Prop),tn i s.heap->Q (.ref it) s->wpAny (model P w) A (pyIter (.ref it)) Q E s
abbrev TI:=St->Hp->(It->Hp->Prop)->Prop
def PIE (X:Cx)(pins:List (Addr×Obj))(σ:St)(tg:Expr)(R:It->Hp->Prop)(itv:Value)(s2:Shared):Prop :=
 ∃(it:Addr) (fp:List Addr) (tn:Nat->Heap->Prop) (J:It) (H':Hp),itv=.ref it/\Inv X pins σ H' s2/\rA X.prog X.w X.K tg J fp it tn/\tn 0 s2.heap/\(∀b∈fp,yP X pins H' b)/\R J H'
def PI (X:Cx)(tg iter:Expr)(wi:TI):Prop :=
 ∀(pins:List (Addr×Obj)) (s:Shared) (σ:St) (H:Hp) (R:It->Hp->Prop),Inv X pins σ H s->wi σ H R ->
  wpAny (model X.prog X.w) X.A (eval iter X.env) (fun v s1=>wpAny (model X.prog X.w) X.A (pyIter v) (PIE X pins σ tg R) X.xe s1) X.xe s
theorem gE {M:Model}{A:Around}{E:Value->Shared->Prop}{s:Shared}{tg:Expr}{it:Addr}{u:Value}{o:Obj}{n:String}{vs:Array Value}{Q:Unit->Shared->Prop}(ho:s.heap.get? it=some o)(hc:o.cls=.type n)(hd:o.data=.fields vs)
  (hn:["enumerate","zip","dict_itemiterator","dict_reverseitemiterator","odict_iterator","itertools.zip_longest","itertools.pairwise"].contains n=false) (hQ:Q () s):wpAny M A (letOwnedTupleGo tg (.ref it) u) Q E s:=by
 unfold letOwnedTupleGo
 cases tg<;>first
  |exact wpAny_pure hQ
  | (cases u<;>first
    |exact wpAny_pure hQ
    | (refine wpAny_bind (wpAny_load ho ?_)
       rw[hc,hd];show wpAny M A (if (["enumerate","zip","dict_itemiterator","dict_reverseitemiterator","odict_iterator","itertools.zip_longest","itertools.pairwise"].contains n&&vs[0]?==some (rawInt _))=true then _ else _) Q E s;rw[if_neg (by intro h; rw[hn,Bool.false_and] at h; cases h)]
       exact wpAny_pure hQ))
def Itl (K:PySem.W.Frag)(a:Addr):It :=
 ⟨fun i H=>∃xs x,SqL K H a xs/\xs[i]?=some x,fun i H x H'=>H'=H/\∀xs,SqL K H a xs->xs[i]?=some x,fun i H=>∃xs,SqL K H a xs/\xs.length<=i⟩
def Itt (K:PySem.W.Frag)(a:Addr):It :=
 ⟨fun i H=>∃xs x,SqT K H a xs/\xs[i]?=some x,fun i H x H'=>H'=H/\∀xs,SqT K H a xs->xs[i]?=some x,fun i H=>∃xs,SqT K H a xs/\xs.length<=i⟩
def Itr (lo:Int)(n:Nat):It:=⟨fun i _=>i < n,fun i H x H'=>H'=H/\x=.int (lo+i),fun i _=>n<=i⟩
theorem vC {P:Program}{w:World}{K:PySem.W.Frag}{tg:Expr}(a it:Addr):rA P w K tg (Itl K a) [it] it (fun i h=>h.IsListIter it a i) where
 mem:=by simp
 obj:=fun i h st b hb=>by
  have e:b=it:=by simpa using hb
  subst e;obtain⟨o,e,c,d⟩:=st;exact⟨o,e,fun v z=>by rw[d] at z; cases z⟩
 keep:=fun i h h' st k=>st.at fun o e=>k it (by simp) o e
 item:=by
  intro X hP hw hK hc i pins s σ H E I hf st hg;subst hP hw hK;obtain⟨xs,x,hq,hx⟩:=hg;obtain⟨its,rv,p,hz⟩:=I.list hq;obtain⟨u,hu,ru⟩:=rv.get hx;obtain⟨f0,f1,f2,f3,f4,f5⟩:=hf it (by simp);refine wpAny_pyNext_list_item st p.isList (x:=u) (by simpa using hu) fun h' st' sb=>?_;have I1:Inv X pins σ H { s with heap:=h' }:=I.turned (t':=s.toks) (fun b o hb e=>(sb.2 b hb).trans e) f0 f1 f3 f4 f5;obtain⟨o,e,c,d⟩:=id st'
  exact⟨u,rfl,gE (s:={ s with heap:=h' }) e c d (by decide) ⟨x,H,I1,ru,⟨rfl,fun ys hy=>by rw[I.list_inj hy hq]; exact hx⟩,st',fun b hb=>(hf b hb).1⟩⟩
 done:=by
  intro X hP hw hK hc i pins s σ H E I hf st hg;subst hP hw hK;obtain⟨xs,hq,hx⟩:=hg;obtain⟨its,rv,p,hz⟩:=I.list hq;obtain⟨f0,f1,f2,f3,f4,f5⟩:=hf it (by simp);have hl:=rv.length;exact wpAny_pyNext_list_end (I.ok.hd hc) st p.isList (by simp; omega) fun h' eb=>⟨rfl,I.turned (t':=s.toks) (fun b o hb e=>eb b o hb e) f0 f1 f3 f4 f5⟩
 self:=fun _ _ _ _ _ st h=>wpAny_pyIter_listiter st h
theorem gP {P:Program}{w:World}{K:PySem.W.Frag}{tg:Expr}(a it:Addr):rA P w K tg (Itt K a) [it] it (fun i h=>h.IsTupleIter it a i) where
 mem:=by simp
 obj:=fun i h st b hb=>by
  have e:b=it:=by simpa using hb
  subst e;obtain⟨o,e,c,d⟩:=st;exact⟨o,e,fun v z=>by rw[d] at z; cases z⟩
 keep:=fun i h h' st k=>st.at fun o e=>k it (by simp) o e
 item:=by
  intro X hP hw hK hc i pins s σ H E I hf st hg;subst hP hw hK;obtain⟨xs,x,hq,hx⟩:=hg;obtain⟨its,rv,p,hz⟩:=I.tuple hq;obtain⟨u,hu,ru⟩:=rv.get hx;obtain⟨f0,f1,f2,f3,f4,f5⟩:=hf it (by simp);refine wpAny_pyNext_tuple_item st (show s.heap.IsTuple a its.toArray from p) (x:=u) (by simpa using hu) fun h' st' sb=>?_;have I1:Inv X pins σ H { s with heap:=h' }:=I.turned (t':=s.toks) (fun b o hb e=>(sb.2 b hb).trans e) f0 f1 f3 f4 f5
  obtain⟨o,e,c,d⟩:=id st';exact⟨u,rfl,gE (s:={ s with heap:=h' }) e c d (by decide) ⟨x,H,I1,ru,⟨rfl,fun ys hy=>by rw[I.tuple_inj hy hq]; exact hx⟩,st',fun b hb=>(hf b hb).1⟩⟩
 done:=by
  intro X hP hw hK hc i pins s σ H E I hf st hg;subst hP hw hK;obtain⟨xs,hq,hx⟩:=hg;obtain⟨its,rv,p,hz⟩:=I.tuple hq;obtain⟨f0,f1,f2,f3,f4,f5⟩:=hf it (by simp);have hl:=rv.length;exact wpAny_pyNext_tuple_end (I.ok.hd hc) st (show s.heap.IsTuple a its.toArray from p) (by simp; omega) fun h' eb=>⟨rfl,I.turned (t':=s.toks) (fun b o hb e=>eb b o hb e) f0 f1 f3 f4 f5⟩
 self:=fun _ _ _ _ _ st h=>wpAny_pyIter_tupleiter st h
theorem bP {P:Program}{w:World}{K:PySem.W.Frag}{tg:Expr}(it:Addr)(lo:Int)(n:Nat):rA P w K tg (Itr lo n) [it] it (fun i h=>IsRangeIter h it (lo+(i:Nat) * 1) ((n:Int) - (i:Nat)) 1) where
 mem:=by simp
 obj:=fun i h st b hb=>by
  have e:b=it:=by simpa using hb
  subst e
  exact⟨_,st,fun v z=>by
   have z':Data.fields _=Data.cell v:=z
   cases z'⟩
 keep:=fun i h h' st k=>k it (by simp) _ st
 item:=by
  intro X hP hw hK hc i pins s σ H E I hf st hg;subst hP hw hK;obtain⟨f0,f1,f2,f3,f4,f5⟩:=hf it (by simp);have W:=Walks.range (prog:=X.prog) (w:=X.w) (I.ok.hd hc) it lo 1 n;refine W.item i s _ _ hg st fun v h' tk hv st' kk=>?_;obtain⟨t,rfl⟩:=hv;have I1:Inv X pins σ H { s with heap:=h',toks:=tk }:=I.turned (fun b o hb e=>kk b o (by simpa using hb) e) f0 f1 f3 f4 f5;refine⟨_,rfl,gE (s:={ s with heap:=h',toks:=tk }) (n:="range_iterator") st' rfl rfl (by decide) ⟨.int (lo+i),H,I1,⟨t,?_⟩,⟨rfl,rfl⟩,st',fun b hb=>(hf b hb).1⟩⟩
  rw[Int.mul_one]
 done:=by
  intro X hP hw hK hc i pins s σ H E I hf st hg;subst hP hw hK;obtain⟨f0,f1,f2,f3,f4,f5⟩:=hf it (by simp);exact wpAny_pyNext_range_end (I.ok.hd hc) st (by have:n<=i:=hg; omega) fun h' eb=>⟨rfl,I.turned (t':=s.toks) (fun b o hb e=>eb b o hb e) f0 f1 f3 f4 f5⟩
 self:=fun _ _ _ _ _ st h=>wpAny_pyIter_rangeiter st h
section
variable {X:Cx}{tg:Expr}
def iList (K:PySem.W.Frag)(tl:TE):TI:=fun σ H R=>tl σ H fun x H1=>∃a,x=.ref a/\(∃xs,SqL K H1 a xs)/\R (Itl K a) H1
def iTup (K:PySem.W.Frag)(tl:TE):TI:=fun σ H R=>tl σ H fun x H1=>∃a,x=.ref a/\(∃xs,SqT K H1 a xs)/\R (Itt K a) H1
theorem pi_list {l:Expr}{tl:TE}(hl:PE X l tl):PI X tg l (iList X.K tl):=by
 intro pins s σ H R I h;refine thn (hl pins s σ H _ I h) fun v s1 ⟨x,H1,I1,r1,q1⟩=>?_;obtain⟨a,e,⟨xs,hq⟩,q⟩:=q1;subst e;cases r1;obtain⟨its,rv,p,hz⟩:=I1.list hq;refine wpAny_pyIter_list p.isList ?_;refine⟨s1.heap.objs.size,[s1.heap.objs.size],_,_,H1,rfl,I1.kept (t':=s1.toks) fun b o e=>Heap.get?_push_of_some _ e,vC a _,⟨_,Heap.get?_push_size _ rfl,rfl,rfl⟩,fun b hb=>?_,q⟩;have e:b=s1.heap.objs.size:=by simpa using hb
 subst e;exact I1.fpOk (Nat.le_refl _) (I1.hok.fresh (Nat.le_refl _))
theorem pi_tup {l:Expr}{tl:TE}(hl:PE X l tl):PI X tg l (iTup X.K tl):=by
 intro pins s σ H R I h;refine thn (hl pins s σ H _ I h) fun v s1 ⟨x,H1,I1,r1,q1⟩=>?_;obtain⟨a,e,⟨xs,hq⟩,q⟩:=q1;subst e;cases r1;obtain⟨its,rv,p,hz⟩:=I1.tuple hq;refine wpAny_pyIter_tuple (show s1.heap.IsTuple a its.toArray from p) ?_;refine⟨s1.heap.objs.size,[s1.heap.objs.size],_,_,H1,rfl,I1.kept (t':=s1.toks) fun b o e=>Heap.get?_push_of_some _ e,gP a _,⟨_,Heap.get?_push_size _ rfl,rfl,rfl⟩,fun b hb=>?_,q⟩
 have e:b=s1.heap.objs.size:=by simpa using hb
 subst e;exact I1.fpOk (Nat.le_refl _) (I1.hok.fresh (Nat.le_refl _))
theorem gT {pins:List (Addr×Obj)}{σ:St}{H:Hp}{s:Shared}{R:It->Hp->Prop}{E:Value->Shared->Prop}{lo hi:Int}{t u v:Tok}{tk:Nat}(I:Inv X pins σ H s)(h1 : -(2 ^ 62)<=lo)(h2:lo < 2 ^ 62)(h3 : -(2 ^ 62)<=hi)(h4:hi < 2 ^ 62)
  (q:R (Itr lo (hi - lo).toNat) H):wpAny (model X.prog X.w) X.A (pyIter (.ref s.heap.objs.size)) (PIE X pins σ tg R) E { s with heap:=s.heap.push { cls:=.type "range",data:=.fields #[.int lo t,.int hi u,.int 1 v] },toks:=tk }:=by
 refine wpAny_pyIter_range (IsRange.new ..) (small_one h1 h2 h3 h4) ?_;have I1:Inv X pins σ H { s with heap:=s.heap.push { cls:=.type "range",data:=.fields #[.int lo t,.int hi u,.int 1 v] },toks:=tk }:=I.kept fun b o e=>Heap.get?_push_of_some _ e
 refine⟨(s.heap.push { cls:=.type "range",data:=.fields #[.int lo t,.int hi u,.int 1 v] }).objs.size,[(s.heap.push { cls:=.type "range",data:=.fields #[.int lo t,.int hi u,.int 1 v] }).objs.size],_,_,H,rfl,
  I1.kept (t':=tk) fun b o e=>Heap.get?_push_of_some _ e,bP _ lo (hi - lo).toNat,?_,fun b hb=>?_,q⟩
 .have e1:lo+((0:Nat):Int) * 1=lo:=by simp
  have e2:(((hi - lo).toNat:Nat):Int) - ((0:Nat):Int)=Builtin.Range.rangeSize lo hi 1:=by rw[rangeSize_one]; split<;>omega
  show IsRangeIter _ _ (lo+((0:Nat):Int) * 1) ((((hi - lo).toNat:Nat):Int) - ((0:Nat):Int)) 1;rw[e1,e2];exact Heap.get?_push_size _ rfl
 .have e:b=(s.heap.push { cls:=.type "range",data:=.fields #[.int lo t,.int hi u,.int 1 v] }).objs.size:=by simpa using hb
  subst e;exact I1.fpOk (Nat.le_refl _) (I1.hok.fresh (Nat.le_refl _))
def wE (ta:TA):TI:=fun σ H R=>ta σ H fun vs H1=>∃j:Int,vs=[.int j]/\-(2 ^ 62)<=j/\j < 2 ^ 62/\R (Itr 0 j.toNat) H1
theorem kR {a:Expr}{ta:TA}{p pos:Pos}(hg:Gl X "range")(hm:X.mg "range" = none)(ha:PA X [a] ta)(hs:starEach [a] X.env=[(false,eval a X.env)]:=by rfl):PI X tg (.Call (.Name "range" p) [a] [] pos) (wE ta):=by
 intro pins s σ H R I h;refine Call_ (iM I hg hm boot_range (PyProof.Rows.callWith_type1 (thn (ha pos pins s σ H _ I h) fun us s1 ⟨vs,H1,I1,r1,q1⟩=>?_) hs rfl));obtain⟨j,e,q1,q2,q⟩:=q1;subst e
 cases r1 with
 |cons r rr =>
  cases rr;obtain⟨t,rfl⟩:=r;exact call_range_1 (gT I1 (by omega) (by omega) q1 q2 (by simpa using q))
def tFor (wi:TI)(g:TG)(tb:TS):TS:=fun D σ H=>wi σ H fun J H1=>∃W:Nat->Nat->St->Hp->Prop,(∃m,W 0 m σ H1)/\∀i m σ H,W i m σ H ->
 (J.stop i H/\D.nx σ H)\/(J.go i H/\∃N:St->Hp->Prop,(∀σ' H',N σ' H'->∃m',m' < m/\W (i+1) m' σ' H')/\∀x H',J.yld i H x H'->g x σ H' fun σ2 H2=>tb { D with nx:=N,ct:=N,bk:=D.nx } σ2 H2)
def zU (fp:List Addr)(h:Heap):List (Addr×Obj):=fp.filterMap fun b=>(h.get? b).map fun o=>(b,o)
theorem gK {fp:List Addr}{h:Heap}{b:Addr}{o:Obj}(hb:b∈fp)(e:h.get? b=some o):(b,o)∈zU fp h:=List.mem_filterMap.mpr ⟨b,hb,by rw[e]; rfl⟩
theorem gR {fp:List Addr}{h:Heap}{p:Addr×Obj}(hp:p∈zU fp h):p.1∈fp/\h.get? p.1=some p.2:=by
 obtain⟨b,hb,e⟩:=List.mem_filterMap.mp hp
 cases q:h.get? b with
 |none=>rw[q] at e; cases e
 |some o =>
  rw[q] at e;have e':(b,o)=p:=Option.some.inj e;subst e';exact⟨hb,q⟩
theorem Inv.pinned {pins:List (Addr×Obj)}{σ:St}{H:Hp}{s:Shared}{fp:List Addr}(I:Inv X pins σ H s)(hf:∀b∈fp,yP X pins H b)(ho:∀b∈fp,∃o,s.heap.get? b=some o/\∀v,o.data≠.cell v):Inv X (pins++zU fp s.heap) σ H s :=
 I.pins_of fun p hp=>(List.mem_append.mp hp).elim (fun z=>I.pin p (List.mem_append_right _ z)) fun z=>by
  obtain⟨hb,e⟩:=gR z;obtain⟨f0,f1,f2,_⟩:=hf p.1 hb;obtain⟨o,e',d⟩:=ho p.1 hb;rw[e] at e'; cases e'
  exact⟨e,f0,f1,f2,d⟩
theorem Inv.unpinned {pins pl:List (Addr×Obj)}{σ:St}{H:Hp}{s:Shared}(I:Inv X (pins++pl) σ H s):Inv X pins σ H s:=I.pins_of fun p hp=>I.pin p (List.mem_append_right _ (List.mem_append_left _ hp))
theorem ps_for {iter:Expr}{body:List Stmt}{wi:TI}{g:TG}{tb:TS}{pos:Pos}(hp:PassesOwn (model X.prog X.w) X.A X.env X.xe)(hc:X.calm=true)(hi:PI X tg iter wi)(hg:PG X tg g)(hb:PSs X body tb)
  (hs:∀x,foldedSetIterable iter X.env x=pure x:=by intro _; rfl):PS X (.For tg iter body [] pos) (tFor wi g tb):=by
 intro pins s σ H D I h;refine wpAny_For (thn (hi pins s σ H _ I h) fun v s1 h1=>thn h1 fun itv s2 h2=>?_) hs;obtain⟨it,fp,tn,J,H2,e,I2,T,st2,f2,W,⟨m0,w0⟩,turn⟩:=h2;subst e;have stat:∀{H':Hp},(∀b∈fp,H' b=none)->∀b∈fp,yP X pins H' b:=fun hn b hb=>⟨hn b hb,(f2 b hb).2⟩;refine codeAny_forLoop_any (fun n s'=>∃i σ' H',Inv X pins σ' H' s'/\tn i s'.heap/\(∀b∈fp,H' b=none)/\W i n σ' H') ?_ m0 ⟨0,σ,H2,I2,st2,fun b hb=>(f2 b hb).1,w0⟩
 rintro n s3 ⟨i,σ3,H3,I3,st3,fr3,w3⟩
 rcases turn i n σ3 H3 w3 with ⟨stop,qn⟩ | ⟨go,N,hN,step⟩
 .refine wpAny_passesOwn hp (thn (T.done X rfl rfl rfl hc i pins s3 σ3 H3 X.xe I3 (stat fr3) st3 stop) fun r s4 ⟨hr,I4⟩=>?_)
  subst hr;exact wpAny_execs_nil ⟨σ3,H3,I4,qn⟩
 .refine wpAny_passesOwn hp (thn (T.item X rfl rfl rfl hc i pins s3 σ3 H3 X.xe I3 (stat fr3) st3 go) fun r s4 ⟨u,hr,h4⟩=>?_)
  subst hr;refine wpAny_passesOwn hp (thn h4 fun _ s5 ⟨x,H5,I5,r5,y5,st5,fr5⟩=>?_);have I5':=I5.pinned (stat fr5) (T.obj _ _ st5);refine wpAny_passesOwn hp (thn (hg _ s5 σ3 H5 x u _ I5' r5 (step x H5 y5)) fun _ s6 ⟨σ6,H6,I6,q6⟩=>?_);refine wpAny_passesOwn hp (thn (hb _ s6 σ6 H6 _ I6 q6) fun f s7 q7=>?_)
  have again:∀{σ7:St} {H7:Hp},Inv X (pins++zU fp s5.heap) σ7 H7 s7->N σ7 H7->∃m,m < n/\∃i σ' H',Inv X pins σ' H' s7/\tn i s7.heap/\(∀b∈fp,H' b=none)/\W i m σ' H':=fun {σ7 H7} I7 n7=>by
   obtain⟨m',hm,w7⟩:=hN σ7 H7 n7;refine⟨m',hm,i+1,σ7,H7,I7.unpinned,T.keep _ _ _ st5 fun b hb o e=>(I7.pin (b,o) (List.mem_append_right _ (List.mem_append_right _ (gK hb e)))).1,fun b hb=>?_,w7⟩;obtain⟨o,e,d⟩:=T.obj _ _ st5 b hb;exact(I7.pin (b,o) (List.mem_append_right _ (List.mem_append_right _ (gK hb e)))).2.1
  cases f with
  |next=>obtain⟨σ7,H7,I7,n7⟩:=q7; exact again I7 n7
  |cont=>obtain⟨σ7,H7,I7,n7⟩:=q7; exact again I7 n7
  |brk=>obtain⟨σ7,H7,I7,q7⟩:=q7; exact⟨σ7,H7,I7.unpinned,q7⟩
  |ret v=>obtain⟨x7,σ7,H7,I7,r7,q7⟩:=q7; exact⟨x7,σ7,H7,I7.unpinned,r7,q7⟩
end
abbrev R2:=V->V->Hp->VK->Prop
def OpR (X:Cx)(f:Value->Value->Sem Value)(r:R2):Prop :=
 ∀(pins:List (Addr×Obj)) (s:Shared) (σ:St) (H:Hp) (x y:V) (v u:Value) (Q:VK),Inv X pins σ H s->RelV x v->RelV y u->r x y H Q ->
  wpAny (model X.prog X.w) X.A (f v u) (EP X pins σ Q) X.xe s
def UnR (X:Cx)(f:Value->Sem Value)(r:V->Hp->VK->Prop):Prop :=
 ∀(pins:List (Addr×Obj)) (s:Shared) (σ:St) (H:Hp) (x:V) (v:Value) (Q:VK),Inv X pins σ H s->RelV x v->r x H Q ->
  wpAny (model X.prog X.w) X.A (f v) (EP X pins σ Q) X.xe s
def CallR (X:Cx)(f:Value)(r:List V->Hp->VK->Prop):Prop :=
 ∀(pins:List (Addr×Obj)) (s:Shared) (σ:St) (H:Hp) (xs:List V) (us:List Value) (Q:VK),Inv X pins σ H s->Vals xs us->r xs H Q ->
  wpAny (model X.prog X.w) X.A (call f us) (EP X pins σ Q) X.xe s
def tOp (r:R2)(ta tb:TE):TE:=fun σ H Q=>ta σ H fun x H1=>tb σ H1 fun y H2=>r x y H2 Q
def tUn (r:V->Hp->VK->Prop)(ta:TE):TE:=fun σ H Q=>ta σ H fun x H1=>r x H1 Q
inductive II (C:Int->Int->Prop)(g:Int->Int->V)(x y:V)(H:Hp)(Q:VK):Prop
 |mk (i j:Int) (h:x=.int i) (h':y=.int j) (c:C i j) (q:Q (g i j) H):II C g x y H Q
def rI (C:Int->Int->Prop)(g:Int->Int->V):R2:=II C g
inductive II0 (g:Int->Int->V)(x y:V)(H:Hp)(Q:VK):Prop
 |mk (i j:Int) (h:x=.int i) (h':y=.int j) (q:Q (g i j) H):II0 g x y H Q
def rI0 (g:Int->Int->V):R2:=II0 g
def rU (g:Int->V):V->Hp->VK->Prop:=fun x H Q=>∃i,x=.int i/\Q (g i) H
section
variable {X:Cx}{a b c:Expr}{ta tb tc:TE}{pos:Pos}
theorem binT (ha:PE X a ta)(hb:PE X b tb){pins:List (Addr×Obj)}{s:Shared}{σ:St}{H:Hp}{R:V->V->Hp->Prop}(I:Inv X pins σ H s)
  (h:ta σ H fun x H1=>tb σ H1 fun y H2=>R x y H2) {Q:Value->Shared->Prop} {f:Value->Value->Sem Value}
  (hf:∀v u s2 x y H2,Inv X pins σ H2 s2->RelV x v->RelV y u->R x y H2->wpAny (model X.prog X.w) X.A (f v u) Q X.xe s2) :
  wpAny (model X.prog X.w) X.A (eval a X.env) (fun v s₁=>wpAny (model X.prog X.w) X.A (eval b X.env) (fun u s₂=>wpAny (model X.prog X.w) X.A (f v u) Q X.xe s₂) X.xe s₁) X.xe s:=by
 refine thn (ha pins s σ H _ I h) fun v s1 ⟨x,H1,I1,r1,q1⟩=>?_;refine thn (hb pins s1 σ H1 _ I1 q1) fun u s2 ⟨y,H2,I2,r2,q2⟩=>?_;exact hf v u s2 x y H2 I2 r1 r2 q2
theorem pe_op {op:Operator}{r:R2}(ho:OpR X (binaryOp op) r)(ha:PE X a ta)(hb:PE X b tb):PE X (.BinOp a op b pos) (tOp r ta tb):=by
 intro pins s σ H Q I h;exact wpAny_BinOp (binT ha hb I h fun v u s2 x y H2 I2 rx ry q=>ho pins s2 σ H2 x y v u Q I2 rx ry q)
theorem pe_un {op:UnaryOp}{r:V->Hp->VK->Prop}(ho:UnR X (unaryOp op) r)(ha:PE X a ta):PE X (.UnaryOp op a pos) (tUn r ta):=by
 intro pins s σ H Q I h;exact UnaryOp_ (thn (ha pins s σ H _ I h) fun v s1 ⟨x,H1,I1,r1,q1⟩=>ho pins s1 σ H1 x v Q I1 r1 q1)
theorem opI {f:Value->Value->Sem Value}{C:Int->Int->Prop}{g:Int->Int->Int}
  (rule:∀(i j:Int) (t u:Tok) (s:Shared) (Q:Value->Shared->Prop) (E:Value->Shared->Prop),C i j->Q (.int (g i j) s.toks) { s with toks:=s.toks+1 }->wpAny (model X.prog X.w) X.A (f (.int i t) (.int j u)) Q E s) :
  OpR X f (rI C fun i j=>.int (g i j)):=by
 intro pins s σ H x y v u Q I rx ry h;obtain⟨i,j,rfl,rfl,hc,q⟩:=h;obtain⟨t,rfl⟩:=rx;obtain⟨t',rfl⟩:=ry;exact rule i j t t' s _ _ hc ⟨.int (g i j),H,I.tok _,⟨_,rfl⟩,q⟩
theorem opI0 {f:Value->Value->Sem Value}{g:Int->Int->Int}
  (rule:∀(i j:Int) (t u:Tok) (s:Shared) (Q:Value->Shared->Prop) (E:Value->Shared->Prop),Q (.int (g i j) s.toks) { s with toks:=s.toks+1 }->wpAny (model X.prog X.w) X.A (f (.int i t) (.int j u)) Q E s) :
  OpR X f (rI0 fun i j=>.int (g i j)):=by
 intro pins s σ H x y v u Q I rx ry h;obtain⟨i,j,rfl,rfl,q⟩:=h;obtain⟨t,rfl⟩:=rx;obtain⟨t',rfl⟩:=ry;exact rule i j t t' s _ _ ⟨.int (g i j),H,I.tok _,⟨_,rfl⟩,q⟩
theorem opB0 {f:Value->Value->Sem Value}{g:Int->Int->Bool}
  (rule:∀(i j:Int) (t u:Tok) (s:Shared) (Q:Value->Shared->Prop) (E:Value->Shared->Prop),Q (.bool (g i j)) s->wpAny (model X.prog X.w) X.A (f (.int i t) (.int j u)) Q E s) :
  OpR X f (rI0 fun i j=>.bl (g i j)):=by
 intro pins s σ H x y v u Q I rx ry h;obtain⟨i,j,rfl,rfl,q⟩:=h;obtain⟨t,rfl⟩:=rx;obtain⟨t',rfl⟩:=ry;exact rule i j t t' s _ _ ⟨.bl (g i j),H,I,rfl,q⟩
def CPow (i j:Int):Prop:=0<=j/\j<=1000000/\i.natAbs < 2 ^ 64
def CMul (i j:Int):Prop:=(-(2 ^ 64) < i/\i < 2 ^ 64)\/(-(2 ^ 64) < j/\j < 2 ^ 64)
theorem CMul.ok {i j:Int}(h:CMul i j):IntMulOk i j:=by
 rcases h with ⟨h1,h2⟩ | ⟨h1,h2⟩
 .exact .of_left (intBits_le_64 h1 h2)
 .exact .of_right (intBits_le_64 h1 h2)
theorem op_add:OpR X (binaryOp .Add) (rI0 fun i j=>.int (i+j)):=opI0 fun _ _ _ _ _ _ _ q=>add_int q
theorem sZ:OpR X (binaryOp .Sub) (rI0 fun i j=>.int (i - j)):=opI0 fun _ _ _ _ _ _ _ q=>sub_int q
theorem vU:OpR X (binaryOp .Mult) (rI CMul fun i j=>.int (i * j)):=opI fun _ _ _ _ _ _ _ hc q=>mul_int q hc.ok
theorem zV:OpR X (binaryOp .Mod) (rI (fun _ j=>0 < j) fun i j=>.int (i % j)):=opI fun i j _ _ _ _ _ hc q=>by
 have h1:(0:Int) < j:=hc;exact mod_int' (by omega) (by rw[Int.fmod_eq_emod_of_nonneg i (by omega)]; exact q)
theorem nP:OpR X (binaryOp .Pow) (rI CPow fun i j=>.int (i ^ j.toNat)):=opI fun _ _ _ _ _ _ _ hc q=>pow_int_small hc.1 hc.2.1 hc.2.2 q
theorem unI {f:Value->Sem Value}{g:Int->Int}
  (rule:∀(i:Int) (t:Tok) (s:Shared) (Q:Value->Shared->Prop) (E:Value->Shared->Prop),Q (.int (g i) s.toks) { s with toks:=s.toks+1 }->wpAny (model X.prog X.w) X.A (f (.int i t)) Q E s) :
  UnR X f (rU fun i=>.int (g i)):=by
 intro pins s σ H x v Q I rx h;obtain⟨i,rfl,q⟩:=h;obtain⟨t,rfl⟩:=rx;exact rule i t s _ _ ⟨.int (g i),H,I.tok _,⟨_,rfl⟩,q⟩
theorem fM:UnR X (unaryOp .USub) (rU fun i=>.int (-i)):=unI fun _ _ _ _ _ q=>neg_int q
end
def scal:V->V->Bool
 |.non,.non=>true | .non,.int _=>true | .int _,.non=>true | .non,.bl _=>true | .bl _,.non=>true | .non,.str _=>true | .str _,.non=>true
 |.int _,.int _=>true | .bl _,.bl _=>true | .str _,.str _=>true | .byt _,.byt _=>true
 |.int _,.str _=>true | .str _,.int _=>true | .bl _,.str _=>true | .str _,.bl _=>true
 |_,_=>false
def rEq:R2:=fun x y H Q=>scal x y=true/\Q (.bl (decide (x=y))) H
def rNe:R2:=fun x y H Q=>scal x y=true/\Q (.bl (!decide (x=y))) H
theorem nN {i j:Int}:decide (V.int i=V.int j)=(i==j):=by
 rw[Bool.eq_iff_iff]
 simp
theorem oE {i j:Bool}:decide (V.bl i=V.bl j)=(i==j):=by
 rw[Bool.eq_iff_iff]
 simp
theorem rN {i j:Str}:decide (V.str i=V.str j)=(i==j):=by
 rw[Bool.eq_iff_iff]
 simp
theorem sN {i j:Array UInt8}:decide (V.byt i=V.byt j)=(i.toList==j.toList):=by
 rw[Bool.eq_iff_iff];cases i;cases j
 simp
section
variable {X:Cx}{a b c:Expr}{ta tb tc:TE}{pos:Pos}
theorem eQ {pins:List (Addr×Obj)}{σ:St}{H:Hp}{s:Shared}{Q:VK}{k k':Bool}(I:Inv X pins σ H s)(q:Q (.bl k) H)(e:k=k'):EP X pins σ Q (.bool k') s:=by
 subst e;exact⟨.bl k,H,I,rfl,q⟩
theorem nX:OpR X (compareOp .Eq) rEq:=by
 intro pins s σ H x y v u Q I rx ry h;obtain⟨hs,q⟩:=h
 cases x with
 |non =>
  cases rx
  cases y with
  |non=>cases ry; exact PySem.EqNone.eq_none_none (eQ I q (by simp))
  |bl j=>cases ry; exact PySem.EqNone.eq_none_bool (eQ I q (by simp))
  |int j=>obtain⟨t',rfl⟩:=ry; exact PySem.EqNone.eq_none_int (eQ I q (by simp))
  |str j=>obtain⟨t',rfl⟩:=ry; exact PySem.EqNone.eq_none_str (eQ I q (by simp))
  |_=>exact absurd (show false=true from hs) Bool.false_ne_true
 |bl i =>
  cases rx
  cases y with
  |non=>cases ry; exact PySem.EqNone.eq_bool_none (eQ I q (by simp))
  |bl j=>cases ry; exact eq_bool (eQ I q oE)
  |str j=>obtain⟨t',rfl⟩:=ry; exact PySem.EqMixed.eq_bool_str (eQ I q (by simp))
  |_=>exact absurd (show false=true from hs) Bool.false_ne_true
 |int i =>
  obtain⟨t,rfl⟩:=rx
  cases y with
  |non=>cases ry; exact PySem.EqNone.eq_int_none (eQ I q (by simp))
  |int j=>obtain⟨t',rfl⟩:=ry; exact eq_int (eQ I q nN)
  |str j=>obtain⟨t',rfl⟩:=ry; exact PySem.EqMixed.eq_int_str (eQ I q (by simp))
  |_=>exact absurd (show false=true from hs) Bool.false_ne_true
 |str i =>
  obtain⟨t,rfl⟩:=rx
  cases y with
  |non=>cases ry; exact PySem.EqNone.eq_str_none (eQ I q (by simp))
  |bl j=>cases ry; exact PySem.EqMixed.eq_str_bool (eQ I q (by simp))
  |int j=>obtain⟨t',rfl⟩:=ry; exact PySem.EqMixed.eq_str_int (eQ I q (by simp))
  |str j=>obtain⟨t',rfl⟩:=ry; exact eq_str (eQ I q rN)
  |_=>exact absurd (show false=true from hs) Bool.false_ne_true
 |byt i =>
  obtain⟨t,rfl⟩:=rx
  cases y with
  |byt j=>obtain⟨t',rfl⟩:=ry; exact PySem.W.eq_bytes (eQ I q sN)
  |_=>exact absurd (show false=true from hs) Bool.false_ne_true
 |_=>cases y<;>exact absurd (show false=true from hs) Bool.false_ne_true
theorem op_ne:OpR X (compareOp .NotEq) rNe:=by
 intro pins s σ H x y v u Q I rx ry h;obtain⟨hs,q⟩:=h
 cases x with
 |non =>
  cases rx
  cases y with
  |non=>cases ry; exact PySem.EqNone.ne_none_none (eQ I q (by simp))
  |bl j=>cases ry; exact PySem.EqNone.ne_none_bool (eQ I q (by simp))
  |int j=>obtain⟨t',rfl⟩:=ry; exact PySem.EqNone.ne_none_int (eQ I q (by simp))
  |str j=>obtain⟨t',rfl⟩:=ry; exact PySem.EqNone.ne_none_str (eQ I q (by simp))
  |_=>exact absurd (show false=true from hs) Bool.false_ne_true
 |bl i =>
  cases rx
  cases y with
  |non=>cases ry; exact PySem.EqNone.ne_bool_none (eQ I q (by simp))
  |bl j=>cases ry; exact ne_bool (eQ I q (congrArg not oE))
  |str j=>obtain⟨t',rfl⟩:=ry; exact PySem.EqMixed.ne_bool_str (eQ I q (by simp))
  |_=>exact absurd (show false=true from hs) Bool.false_ne_true
 |int i =>
  obtain⟨t,rfl⟩:=rx
  cases y with
  |non=>cases ry; exact PySem.EqNone.ne_int_none (eQ I q (by simp))
  |int j=>obtain⟨t',rfl⟩:=ry; exact ne_int (eQ I q (congrArg not nN))
  |str j=>obtain⟨t',rfl⟩:=ry; exact PySem.EqMixed.ne_int_str (eQ I q (by simp))
  |_=>exact absurd (show false=true from hs) Bool.false_ne_true
 |str i =>
  obtain⟨t,rfl⟩:=rx
  cases y with
  |non=>cases ry; exact PySem.EqNone.ne_str_none (eQ I q (by simp))
  |bl j=>cases ry; exact PySem.EqMixed.ne_str_bool (eQ I q (by simp))
  |int j=>obtain⟨t',rfl⟩:=ry; exact PySem.EqMixed.ne_str_int (eQ I q (by simp))
  |str j=>obtain⟨t',rfl⟩:=ry; exact ne_str (eQ I q (congrArg not rN))
  |_=>exact absurd (show false=true from hs) Bool.false_ne_true
 |byt i =>
  obtain⟨t,rfl⟩:=rx
  cases y with
  |byt j=>obtain⟨t',rfl⟩:=ry; exact PySem.W.ne_bytes (eQ I q (congrArg not sN))
  |_=>exact absurd (show false=true from hs) Bool.false_ne_true
 |_=>cases y<;>exact absurd (show false=true from hs) Bool.false_ne_true
theorem wU:OpR X (compareOp .Lt) (rI0 fun i j=>.bl (decide (i < j))):=opB0 fun _ _ _ _ _ _ _ q=>lt_int q
theorem uZ:OpR X (compareOp .Gt) (rI0 fun i j=>.bl (decide (j < i))):=opB0 fun _ _ _ _ _ _ _ q=>gt_int q
theorem xO:OpR X (compareOp .Is) (fun x y H Q=>y=.non/\Q (.bl (decide (x=.non))) H):=by
 intro pins s σ H x y v u Q I rx ry h;obtain⟨rfl,q⟩:=h;cases ry;refine is_none_gen (eQ I q ?_)
 cases x<;>first
  | (cases rx; rfl)
  | (obtain⟨t,rfl⟩:=rx; rfl)
theorem op_notN:OpR X (compareOp .IsNot) (fun x y H Q=>y=.non/\Q (.bl (!decide (x=.non))) H):=by
 intro pins s σ H x y v u Q I rx ry h;obtain⟨rfl,q⟩:=h;cases ry;refine isnot_none_gen (eQ I q ?_)
 cases x<;>first
  | (cases rx; rfl)
  | (obtain⟨t,rfl⟩:=rx; rfl)
theorem OpR.or {f:Value->Value->Sem Value}{r r':R2}(h:OpR X f r)(h':OpR X f r'):OpR X f (fun x y H Q=>r x y H Q\/r' x y H Q):=by
 intro pins s σ H x y v u Q I rx ry q
 rcases q with q | q
 .exact h pins s σ H x y v u Q I rx ry q
 .exact h' pins s σ H x y v u Q I rx ry q
theorem uK (b:Expr){op:CmpOp}(h:op≠.In:=by decide)(h2:op≠.NotIn:=by decide):behindInMarks op b=false:=by
 have e1:(op==CmpOp.In)=false:=by cases op<;>first | rfl | exact absurd rfl h
 have e2:(op==CmpOp.NotIn)=false:=by cases op<;>first | rfl | exact absurd rfl h2
 cases b<;>simp[behindInMarks,e1,e2]
theorem pe_cmpR {op:CmpOp}{r:R2}(ho:OpR X (compareOp op) r)(ha:PE X a ta)(hb:PE X b tb)(hm:behindInMarks op b=false):PE X (.Compare a [op] [b] pos) (tOp r ta tb):=by
 intro pins s σ H Q I h;exact wpAny_Compare1 (binT ha hb I h fun v u s2 x y H2 I2 rx ry q=>ho pins s2 σ H2 x y v u Q I2 rx ry q) hm
def eS (t:TE):TT:=fun σ H Q=>t σ H (IBl Q)
theorem pt_cmpR {op:CmpOp}{r:R2}(ho:OpR X (compareOp op) r)(ha:PE X a ta)(hb:PE X b tb)(hm:behindInMarks op b=false):PT X (.Compare a [op] [b] pos) (eS (tOp r ta tb)):=by
 intro pins s σ H Q I h
 refine wpAny_isTrue_Compare1 (thn (ha pins s σ H _ I h) fun v s1 ⟨x,H1,I1,r1,q1⟩=>thn (hb pins s1 σ H1 _ I1 q1) fun u s2 ⟨y,H2,I2,r2,q2⟩ =>
  thn (ho pins s2 σ H2 x y v u _ I2 r1 r2 q2) fun c s3 ⟨z,H3,I3,r3,k,e,q3⟩=>?_) hm
 subst e;cases r3;exact wpAny_truthy_bool ⟨H3,I3,q3⟩
theorem bY:(sizeLine:Nat) < 2 ^ 63:=by rw[sizeLine_eq]; decide
theorem sP:OpR X (binaryOp .Add) (fun x y H Q=>∃i j,x=.str i/\y=.str j/\i.length+j.length<=sizeLine/\Q (.str (i++j)) H):=by
 intro pins s σ H x y v u Q I rx ry h;obtain⟨i,j,rfl,rfl,hz,q⟩:=h;obtain⟨t,rfl⟩:=rx;obtain⟨t',rfl⟩:=ry;exact add_str (fun t' tk=>⟨.str (i++j),H,I.tok _,⟨_,rfl⟩,q⟩) hz
theorem tY {x:V}{us:List Value}(r:Vals [x] us):∃u,us=[u]/\RelV x u:=by
 cases r with
 |cons r1 r2=>cases r2; exact⟨_,rfl,r1⟩
theorem sS {x y:V}{us:List Value}(r:Vals [x,y] us):∃u w',us=[u,w']/\RelV x u/\RelV y w':=by
 cases r with
 |cons r1 r2 =>
  cases r2 with
  |cons r3 r4=>cases r4; exact⟨_,_,rfl,r1,r3⟩
theorem fA:CallR X (.builtin "abs") (fun xs H Q=>∃i,xs=[.int i]/\Q (.int (if i < 0 then -i else i)) H):=by
 intro pins s σ H xs us Q I r h;obtain⟨i,rfl,q⟩:=h;obtain⟨u,rfl,t,rfl⟩:=tY r;exact call_abs_int fun u tk=>⟨.int (if i < 0 then -i else i),H,I.tok _,⟨_,rfl⟩,q⟩
theorem oV:CallR X (.type "int") (fun xs H Q=>(∃i,xs=[.int i]/\Q (.int i) H)\/∃k,xs=[.bl k]/\Q (.int (if k then 1 else 0)) H):=by
 intro pins s σ H xs us Q I r h
 rcases h with ⟨i,rfl,q⟩ | ⟨k,rfl,q⟩
 .obtain ⟨u,rfl,t,rfl⟩:=tY r
  exact call_int_int ⟨.int i,H,I,⟨_,rfl⟩,q⟩
 .obtain ⟨u,rfl,r1⟩:=tY r
  cases r1;exact call_int_bool ⟨.int (if k then 1 else 0),H,I.tok _,⟨_,rfl⟩,q⟩
end
structure ObjM (h:Heap)(x dx C:Addr)(mA:Str->Option Value):Prop where
 obj:h.get? x=some (PySem.W.instObj C dx)
 ns:h.Ns1 dx mA
 ne:dx≠x
theorem mR {h:Heap}{dx:Addr}{mA:Str->Option Value}(n:h.Ns1 dx mA):∃od,h.get? dx=some od/\∀name,PySem.W.lookIn name od=some (mA name):=by
 obtain⟨o,es,ep,ho,hd,hk,_,hm⟩:=n;refine⟨o,ho,fun name=>?_⟩;have e:=hm name;unfold nsFind findBy at e;rw[<- Array.find?_toList] at e;unfold PySem.W.lookIn;rw[hd];dsimp only
 split
 .rename_i y q
  rw[q] at e;exact congrArg some e
 .rename_i q
  rw[q] at e
  have a:es.toList.any (·.refKey)=false:=by
   rw[List.any_eq_false];intro y hy;obtain⟨z,t,hkey⟩:=hk y (Array.mem_toList_iff.mp hy)
   simp[DictEntry.refKey,hkey]
  have a':¬ es.toList.any (·.refKey)=true:=by rw[a]; exact Bool.false_ne_true
  rw[if_neg a'];exact congrArg some e
theorem ObjM.look {h:Heap}{x dx C:Addr}{mA:Str->Option Value}(I:ObjM h x dx C mA):∃od,PySem.W.InstAt h x (PySem.W.instObj C dx) C (some od)/\∀name,PySem.W.lookIn name od=some (mA name) :=
 let ⟨od,ho,hl⟩:=mR I.ns
 ⟨od,⟨I.obj,rfl,rfl,ho⟩,hl⟩
theorem RelO.some_of {v:V}{o:Option Value}(r:RelO (some v) o):∃u,o=some u/\RelV v u:=by
 cases o with
 |none=>exact(show False from r).elim
 |some u=>exact⟨u,rfl,r⟩
section
variable {P:Program}{w:World}{H H':Hp}{h h':Heap}{a C dx:Addr}{fs fs':List (Str×V)}
theorem ins_get (hok:HOk P w H h)(e:H a=some (.ins C dx fs)):∃mA,ObjM h a dx C mA/\(∀f,RelO (fs.lookup f) (mA f))/\PySem.Within mA (fs.map (·.1))/\fs.length<=1000/\H dx=some (.own a):=by
 obtain⟨d,z,ne,ob,mA,n,r,q⟩:=(show ObjOk P w H h a (.ins C dx fs) from hok a _ e);exact⟨mA,⟨ob,n,ne⟩,r,q,z,d⟩
end
structure Cls (K:PySem.W.Frag)(C:Addr):Prop where
 pg:PySem.W.plainGet K C Str.empty=true
 hd:PySem.W.hasDictIn K C=true
 po:PySem.W.plainOver K C=true
 sa:PySem.W.findIn K (.ref C) "__setattr__" = some (some (.builtin "object.__setattr__"))
theorem Cls.get {K:PySem.W.Frag}{C:Addr}(c:Cls K C)(f:Str):PySem.W.plainGet K C f=true:=c.pg
section
variable {X:Cx}{pins:List (Addr×Obj)}{σ:St}{H:Hp}{s:Shared}{A:Around}{E:Value->Shared->Prop}{Q:Value->Shared->Prop}{c:Value}{b:Bool}
inductive nY (K:PySem.W.Frag)(H:Hp):V->Value->Prop where
 |non:nY K H .non (.type "NoneType")
 |bl (x:Bool):nY K H (.bl x) (.type "bool")
 |int (i:Int):nY K H (.int i) (.type "int")
 |str (x:Str):nY K H (.str x) (.type "str")
 |flt (x:UInt64):nY K H (.flt x) (.type "float")
 |lst {a:Addr} {xs:List V} (e:H a=some (.lst xs)):nY K H (.ref a) (.type "list")
 |frz {a:Addr} {o:Obj} {xs:List V} (e:H a=some (.frz o (.lst xs))):nY K H (.ref a) (.type "list")
 |tup {a:Addr} {xs:List V} (e:H a=some (.tup xs)):nY K H (.ref a) (.type "tuple")
 |dK {a:Addr} {kvs:List (Key×V)} (e:H a=some (.dK kvs)):nY K H (.ref a) (.type "dict")
 |dT {a:Addr} {kvs:List (List Key×V)} (e:H a=some (.dT kvs)):nY K H (.ref a) (.type "dict")
 |ins {a C dx:Addr} {fs:List (Str×V)} (e:H a=some (.ins C dx fs)) (cl:Cls K C) (ha:PySem.W.findIn K (.ref C) "__class__" = some (some (.builtin "object.__class__")))
   (hn:PySem.W.specialIn K (.builtin "object.__class__") "__get__" = some (some (.builtin "getset_descriptor.__get__"))) (htk:PySem.W.takesIn K (.builtin "object.__class__")=some true)
   (hm:PySem.W.mroIn K C (.type "object")=some true):nY K H (.ref a) (.ref C)
theorem sR {x:V}{u t:Value}(I:Inv X pins σ H s)(rx:RelV x u)(ty:nY X.K H x t)(e:PySem.W.kitOne X.K t c=some b)(h:∀tk,Q (.bool b) { s with toks:=tk }):
  wpAny (model X.prog X.w) A (call (.builtin "isinstance") [u,c]) Q E s:=by
 cases ty with
 |non=>cases (show u=Value.none from rx); exact PySem.W.kia_one PySem.W.kitx_none I.kIn True.intro e (fun z=>nomatch z) h
 |bl y=>cases (show u=Value.bool y from rx); exact PySem.W.kia_one PySem.W.kitx_bool I.kIn True.intro e (fun z=>nomatch z) h
 |int i=>obtain⟨t,q⟩:=(show ∃t,u=Value.int i t from rx); cases q; exact PySem.W.kia_one PySem.W.kitx_int I.kIn True.intro e (fun z=>nomatch z) h
 |str y=>obtain⟨t,q⟩:=(show ∃t,u=Value.str y t from rx); cases q; exact PySem.W.kia_one PySem.W.kitx_str I.kIn True.intro e (fun z=>nomatch z) h
 |flt y=>obtain⟨t,q⟩:=(show ∃t,u=Value.float y t from rx); cases q; exact PySem.W.kia_one PySem.W.kitx_float I.kIn True.intro e (fun z=>nomatch z) h
 |@lst a xs ea =>
  cases (show u=Value.ref a from rx);obtain⟨_,_,n,_,h1⟩:=(show ObjOk X.prog X.w H s.heap a (.lst xs) from I.hok a _ ea);exact PySem.W.kia_one PySem.W.kitx_list I.kIn ⟨_,h1,rfl⟩ e (fun z=>nomatch z) h
 |@frz a ob xs ea =>
  cases (show u=Value.ref a from rx);obtain⟨_,_,_,n,_,h1⟩:=(show ObjOk X.prog X.w H s.heap a (.frz ob (.lst xs)) from I.hok a _ ea);exact PySem.W.kia_one PySem.W.kitx_list I.kIn ⟨_,h1,rfl⟩ e (fun z=>nomatch z) h
 |@tup a xs ea =>
  cases (show u=Value.ref a from rx);obtain⟨_,_,_,p⟩:=(show ObjOk X.prog X.w H s.heap a (.tup xs) from I.hok a _ ea);obtain⟨o,h1,h2,_⟩:=p;exact PySem.W.kia_one PySem.W.kitx_tuple I.kIn ⟨o,h1,h2⟩ e (fun z=>nomatch z) h
 |@dK a kvs ea =>
  cases (show u=Value.ref a from rx);obtain⟨_,_,vs,_,p⟩:=(show ObjOk X.prog X.w H s.heap a (.dK kvs) from I.hok a _ ea);obtain⟨o,es,ep,h1,h2,_⟩:=p;exact PySem.W.kia_one PySem.W.kitx_dict I.kIn ⟨o,h1,h2.1⟩ e (fun z=>nomatch z) h
 |@dT a kvs ea =>
  cases (show u=Value.ref a from rx);obtain⟨_,_,xs,_,o,es,ep,h1,h2,_⟩:=(show ObjOk X.prog X.w H s.heap a (.dT kvs) from I.hok a _ ea);exact PySem.W.kia_one PySem.W.kitx_dict I.kIn ⟨o,h1,h2.1⟩ e (fun z=>nomatch z) h
 |@ins a C dx fs ea cl ha hn htk hm =>
  cases (show u=Value.ref a from rx);obtain⟨mA,O,_⟩:=ins_get I.hok ea;obtain⟨od,J,_⟩:=O.look;exact PySem.W.kia_one (PySem.W.kitx_own (cl.get _) cl.hd ha hn htk hm) I.kIn J e (fun z=>nomatch z) h
end
structure Room (k:Nat)(A:Around):Prop where
 hd:A.handled=none
 dp:A.depth+3 * k+5 < recursionLimit
 un:A.units+16 * k+200 < cLine
theorem Room.mono {j k:Nat}{A:Around}(r:Room k A)(h:j<=k):Room j A:=⟨r.hd,by have:=r.dp; omega,by have:=r.un; omega⟩
theorem Room.deeper {k:Nat}{A:Around}(r:Room (k+1) A)(env:Env):Room k (A.deeper env) :=
 ⟨r.hd,by have:=r.dp; show A.depth+1+3 * k+5 < _; omega,by have:=r.un; show A.units+3+16 * k+200 < _; omega⟩
theorem Room.depth {k:Nat}{A:Around}(r:Room k A):A.depth < recursionLimit:=by have:=r.dp; omega
theorem Room.units {k:Nat}{A:Around}(r:Room k A):A.units+64 < cLine:=by have:=r.un; omega
def tNil:TA:=fun _ H Q=>Q [] H
def iS (ta:TE)(tr:TA):TA:=fun σ H Q=>ta σ H fun x H1=>tr σ H1 fun xs H2=>Q (x::xs) H2
section
variable {X:Cx}{e:Expr}{es:List Expr}{te:TE}{t:TA}{pos:Pos}
theorem pa_nil:PA X [] tNil:=fun _ _ _ _ H Q I h=>Calls.spliced_nil ⟨[],H,I,.nil,h⟩
theorem pa_cons (ha:PE X e te)(hr:PA X es t)(hs:starEach (e::es) X.env=(false,eval e X.env)::starEach es X.env:=by rfl):PA X (e::es) (iS te t):=by
 intro pos pins s σ H Q I h;rw[hs];show wpAny _ _ (spliced ((false,eval e X.env)::backTo pos (starEach es X.env))) _ _ s;refine Calls.spliced_cons (thn (ha pins s σ H _ I h) fun u s1 ⟨x,H1,I1,r1,q1⟩=>?_);exact thn (hr pos pins s1 σ H1 _ I1 q1) fun us s2 ⟨xs,H2,I2,r2,q2⟩=>⟨x::xs,H2,I2,.cons r1 r2,q2⟩
inductive INew (o:List V->HO)(Q:VK)(xs:List V)(H:Hp):Prop
 |mk (h:xs.length<=sizeLine) (q:∀p,H p=none->Q (.ref p) (upd H p (o xs))):INew o Q xs H
def tTup (t:TA):TE:=fun σ H Q=>t σ H (INew .tup Q)
def tLst (t:TA):TE:=fun σ H Q=>t σ H (INew .lst Q)
theorem pe_tup {x1}(h:PA X es t):PE X (.Tuple es x1 pos) (tTup t):=by
 intro pins s σ H Q I hq;refine wpAny_Tuple_spliced (thn (h pos pins s σ H _ I hq) fun us s1 ⟨xs,H1,I1,r,z,q⟩=>⟨by rw[<- r.length]; exact z,?_⟩);have hf:H1 s1.heap.objs.size=none:=I1.hok.fresh (Nat.le_refl _);refine⟨.ref s1.heap.objs.size,upd H1 s1.heap.objs.size (.tup xs),I1.laid (t':=s1.toks) (fun b u e=>Heap.get?_push_of_some _ e) (Nat.le_refl _) ?_,rfl,q _ hf⟩;exact⟨z,us,r,⟨_,Heap.get?_push_size _ rfl,rfl,⟨_,rfl⟩,rfl⟩⟩
theorem pe_lst (h:PA X es t):PE X (.List es pos) (tLst t):=by
 intro pins s σ H Q I hq;refine wpAny_List_spliced (thn (h pos pins s σ H _ I hq) fun us s1 ⟨xs,H1,I1,r,z,q⟩=>⟨by rw[<- r.length]; exact z,?_⟩);have hf:H1 s1.heap.objs.size=none:=I1.hok.fresh (Nat.le_refl _);refine⟨.ref s1.heap.objs.size,upd H1 s1.heap.objs.size (.lst xs),I1.laid (t':=s1.toks) (fun b u e=>Heap.get?_push_of_some _ e) (Nat.le_refl _) ?_,rfl,q _ hf⟩;exact⟨z,us,0,r,Heap.get?_push_size _ rfl⟩
end
abbrev Sp:=List V->Hp->VK->XK->Prop
abbrev CXT:=List Env->Hp->Shared->XK->Value->Shared->Prop
structure Env0 (P:Program)(w:World)(K:PySem.W.Frag)(mg:Str->Option Value)(base:Heap)(A:Around)(outer:List Env)(s:Shared)(H:Hp):Prop where
 frames:A.frames=some outer
 mod:Mod K mg base
 bs:∀b o,base.get? b=some o->s.heap.get? b=some o/\H b=none
 bsz:base.objs.size<=s.heap.objs.size
 funs:s.heap.FunFrames base outer
 frf:∀b∈frs outer,H b=none
 hok:HOk P w H s.heap
 bare:AllBare s.gens
def CE (outer:List Env)(P:Program)(w:World)(H:Hp)(s:Shared)(Q:VK)(u:Value)(s':Shared):Prop :=
 ∃v H',s'.os=s.os/\AllBare s'.gens/\Un (frs outer) [] H H' s.heap s'.heap/\HOk P w H' s'.heap/\RelV v u/\Q v H'
def CR (CX:CXT)(outer:List Env)(P:Program)(w:World)(H:Hp)(s:Shared)(Q:VK)(E:XK)(r:Result)(s':Shared):Prop :=
 match r with
 |.ok (.ret u)=>CE outer P w H s Q u s'
 |.ok _=>False
 |.error e=>CX outer H s E e s'
structure FnOk (P:Program)(w:World)(K:PySem.W.Frag)(mg:Str->Option Value)(base:Heap)(CX:CXT)(k:Nat)(f:Addr)(fd:FuncData)(ps:List Str)(sp:Sp):Prop where
 len:∀vs H Q E,sp vs H Q E->vs.length=ps.length
 run:∀(A:Around) (outer:List Env) (s:Shared) (H:Hp) (args:Args) (us:List Value) (vs:List V) (Q:VK) (E:XK),Room k A->Env0 P w K mg base A outer s H->BindsTo s fd args (ps.zip us)->Vals vs us->sp vs H Q E ->
  codeAny (model P w) A (.call (.ref f) args) (CR CX outer P w H s Q E) s
theorem FnOk.mono {P:Program}{w:World}{K:PySem.W.Frag}{mg:Str->Option Value}{base:Heap}{CX:CXT}{j k:Nat}{f:Addr}{fd:FuncData}{ps:List Str}{sp:Sp}(F:FnOk P w K mg base CX j f fd ps sp)(h:j<=k):
  FnOk P w K mg base CX k f fd ps sp:=⟨F.len,fun A outer s H args us vs Q E hr=>F.run A outer s H args us vs Q E (hr.mono h)⟩
section
variable {X:Cx}{pins:List (Addr×Obj)}{σ:St}{H:Hp}{s s':Shared}
theorem Inv.env0 (I:Inv X pins σ H s):Env0 X.prog X.w X.K X.mg X.base X.A X.stack s H :=
 ⟨I.ok.frames,I.ok.mod,I.bs,Nat.le_trans I.ok.bsz I.sz,I.stack,I.stkFree,I.hok,I.bare⟩
theorem Inv.after {Q:VK}{u:Value}(I:Inv X pins σ H s)(h:CE X.stack X.prog X.w H s Q u s'):EP X pins σ Q u s':=by
 obtain⟨v,H',os,bare,un,hok,r,q⟩:=h;obtain⟨hh,g,d,t,os'⟩:=s';obtain rfl:os'=s.os:=os;exact⟨v,H',I.call (h':=hh) (g':=g) (d':=d) (t':=t) (ch:=[]) un hok bare (fun b z=>absurd z (by simp)),r,q⟩
end
def zT (sp:Sp)(dvs:List V)(E:XK)(t:TA):TE:=fun σ H Q=>t σ H fun vs H1=>sp (vs++dvs) H1 Q E
def Binds (K:PySem.W.Frag)(fd:FuncData)(ps:List Str)(ds:List Value):Prop :=
 ∀(s:Shared) (us:List Value),K.In s.heap->(us++ds).length=ps.length->BindsTo s fd ⟨us,[]⟩ (ps.zip (us++ds))
theorem Binds.all {K:PySem.W.Frag}{fd:FuncData}{ps:List Str}(h:∀us:List Value,us.length=ps.length->bindArgs fd ⟨us,[]⟩=pure (ps.zip us)):Binds K fd ps []:=fun s us _ hl=>by
 rw[List.append_nil] at hl ⊢;exact .of_eq (h us hl)
def sY (CX:CXT)(X:Cx)(E:XK):Prop:=∀(pins:List (Addr×Obj)) (σ:St) (H:Hp) (s:Shared) (e:Value) (s':Shared),Inv X pins σ H s->CX X.stack H s E e s'->X.xe e s'
section
variable {X:Cx}{CX:CXT}{k:Nat}{f C:Addr}{fd:FuncData}{ps:List Str}{sp:Sp}{dvs:List V}{ds:List Value}{E:XK}{x m:Str}{p pos apos:Pos}{e o:Expr}{es:List Expr}{ta:TE}{t:TA}
theorem run_fn {pins:List (Addr×Obj)}{σ:St}{H:Hp}{s:Shared}{Q:VK}{us:List Value}{vs:List V}(F:FnOk X.prog X.w X.K X.mg X.base CX k f fd ps sp)(hr:Room k X.A)(hb:Binds X.K fd ps ds)(hd:Vals dvs ds)(hx:sY CX X E)
  (I:Inv X pins σ H s) (r:Vals vs us) (h:sp (vs++dvs) H Q E):wpAny (model X.prog X.w) X.A (call (.ref f) us) (EP X pins σ Q) X.xe s:=by
 have r2:Vals (vs++dvs) (us++ds):=r.append hd;have hl:(us++ds).length=ps.length:=by rw[<- r2.length]; exact F.len _ _ _ _ h
 refine wpAny_call (codeAny_mono (F.run X.A X.stack s H ⟨us,[]⟩ (us++ds) (vs++dvs) Q E hr I.env0 (hb s us I.kIn hl) r2 h) fun r s' hq=>?_)
 cases r with
 |error e=>exact hx pins σ H s e s' I hq
 |ok fl =>
  cases fl with
  |ret u=>exact I.after hq
  |next=>exact False.elim hq
  |brk=>exact False.elim hq
  |cont=>exact False.elim hq
theorem pe_call (F:FnOk X.prog X.w X.K X.mg X.base CX k f fd ps sp)(hr:Room k X.A)(hg:Gl X x)(hm:X.mg x=some (.ref f))(hk:PySem.W.keepIn X.K (.ref f)=true)(hb:Binds X.K fd ps ds)(hd:Vals dvs ds)(hx:sY CX X E)
  (ha:PA X (e::es) t) (hdb:(x==("__debug__" : Str))=false:=by decide) (he:starEach (e::es) X.env=(false,eval e X.env)::starEach es X.env:=by rfl) (hpl:(backTo pos (starEach es X.env)).any (·.1)=false:=by rfl) :
  PE X (.Call (.Name x p) (e::es) [] pos) (zT sp dvs E t):=by
 intro pins s σ H Q I h;refine wpAny_Call_Name_kw (ld_glob I hg hm ?_ hdb);refine PySem.W.callWith_K (h₀:=X.base) I.ok.mod.kin hk (thn (ha pos pins s σ H _ I h) fun us s1 ⟨vs,H1,I1,r,q⟩=>⟨I1.kIn,?_⟩) he hpl;exact run_fn F hr hb hd hx I1 r q
end
structure FnScope (N P:List Str)(sc:Scope):Prop where
 kind:sc.kind=.function
 co:sc.isCoroutine=false
 gen:sc.isGenerator=false
 nd:N.Nodup
 pre:N.take P.length=P
 par:∀x∈P,sc.names.lookup x=some .local\/sc.names.lookup x=some .cell
 nofree:∀y∈sc.names,y.2≠.free
theorem yM {kindOf:Str->Option NameKind}{x:Str}:∀{binds:List (Str×Value)}{m:Str->Option Value},(∀v,(x,v)∉binds)->bindL kindOf binds m x=m x
 |[],_,_=>rfl
 | (n,v)::r,m,h=>by
  unfold bindL;rw[yM fun w hw=>h w (List.mem_cons_of_mem _ hw)]
  split
  .have:x≠n:=by rintro rfl; exact h v List.mem_cons_self
   simp[this]
  .rfl
theorem gM {kindOf:Str->Option NameKind}{x:Str}:∀{binds:List (Str×Value)}{m:Str->Option Value},(∀v,(x,v)∉binds)->bindC kindOf binds m x=m x
 |[],_,_=>rfl
 | (n,v)::r,m,h=>by
  unfold bindC;rw[gM fun w hw=>h w (List.mem_cons_of_mem _ hw)]
  split
  .rfl
  .have:x≠n:=by rintro rfl; exact h v List.mem_cons_self
   simp[this]
theorem uM {kindOf:Str->Option NameKind}{x:Str}{v:Value}:∀{P:List Str}{vs:List Value}{i:Nat}{m:Str->Option Value},P.Nodup->P[i]?=some x->vs[i]?=some v->kindOf x=some .local ->
  bindL kindOf (P.zip vs) m x=some v
 |[],_,_,_,_,h,_,_=>by simp at h
 |_::_,[],_,_,_,_,h,_=>by simp at h
 |p::P,w::vs,0,m,nd,h1,h2,hk=>by
  simp at h1 h2; subst h1; subst h2
  show bindL kindOf ((p,w)::P.zip vs) m p=_;unfold bindL;rw[yM fun v hv=>(List.nodup_cons.mp nd).1 (List.of_mem_zip hv).1,if_pos hk]
  simp
 |p::P,w::vs,i+1,m,nd,h1,h2,hk=>by
  show bindL kindOf ((p,w)::P.zip vs) m x=_;unfold bindL;exact uM (i:=i) (List.nodup_cons.mp nd).2 (by simpa using h1) (by simpa using h2) hk
theorem bM {kindOf:Str->Option NameKind}{x:Str}{v:Value}:∀{P:List Str}{vs:List Value}{i:Nat}{m:Str->Option Value},P.Nodup->P[i]?=some x->vs[i]?=some v->kindOf x≠some .local ->
  bindC kindOf (P.zip vs) m x=some v
 |[],_,_,_,_,h,_,_=>by simp at h
 |_::_,[],_,_,_,_,h,_=>by simp at h
 |p::P,w::vs,0,m,nd,h1,h2,hk=>by
  simp at h1 h2; subst h1; subst h2
  show bindC kindOf ((p,w)::P.zip vs) m p=_;unfold bindC;rw[gM fun v hv=>(List.nodup_cons.mp nd).1 (List.of_mem_zip hv).1,if_neg hk]
  simp
 |p::P,w::vs,i+1,m,nd,h1,h2,hk=>by
  show bindC kindOf ((p,w)::P.zip vs) m x=_;unfold bindC;exact bM (i:=i) (List.nodup_cons.mp nd).2 (by simpa using h1) (by simpa using h2) hk
def start (N:List Str)(vs:List V):St:=vs.map some++List.replicate (N.length - vs.length) none
def vF (CX:CXT)(P:Program)(w:World)(K:PySem.W.Frag)(mg:Str->Option Value)(base:Heap)(N:List Str)(qual:Str)(scope:Scope)(f:Addr)(cd:Value)(A:Around)(outer:List Env)(s:Shared)(H:Hp)(E:XK):Cx where
 prog:=P
 w:=w
 K:=K
 mg:=mg
 base:=base
 A:=A.deeper (envOfC qual scope s.heap.objs.size f cd)
 N:=N
 s₀:=s
 H₀:=H
 env:=envOfC qual scope s.heap.objs.size f cd
 outer:=outer
 stack:=envOfC qual scope s.heap.objs.size f cd::outer
 ex:=[]
 calm:=true
 fn:=fun _=>true
 pn:=[]
 xe:=fun e s'=>wpAny (model P w) (A.deeper (envOfC qual scope s.heap.objs.size f cd)) (leaving (envOfC qual scope s.heap.objs.size f cd) e) (fun _ s''=>CX outer H s E e s'') (fun e' s''=>CX outer H s E e' s'') s'
theorem nU {sc:Scope}{n:Nat}{x:Str}(h:sc.names.lookup x=some .cell):∃c,(cellsFrom n sc.names []).lookup x=some c:=by
 have q:=PySem.W.cellsFrom_some sc.names n [] (.inl h);exact Option.isSome_iff_exists.mp q
theorem oR {CX:CXT}{P:Program}{w:World}{K:PySem.W.Frag}{mg:Str->Option Value}{base:Heap}{N ps:List Str}{qual:Str}{scope:Scope}{f:Addr}{cd:Value}{A:Around}{outer:List Env}{s s1:Shared}{H:Hp}{E:XK}{us:List Value}{vs:List V}
  (S:FnScope N ps scope) (hd:A.handled=none) (e0:Env0 P w K mg base A outer s H) (hl:vs.length=ps.length) (r:Vals vs us)
  (x:InCallC s s.heap.objs.size (bindL (envOfC qual scope s.heap.objs.size f cd).kindOf (ps.zip us) fun _=>none) (cellsFrom (s.heap.objs.size+1) scope.names []) (bindC (envOfC qual scope s.heap.objs.size f cd).kindOf (ps.zip us) fun _=>none) s1) :
  Inv (vF CX P w K mg base N qual scope f cd A outer s H E) [] (start N vs) H s1:=by
 have hpl:ps.length<=N.length:=by have:=congrArg List.length S.pre; rw[List.length_take] at this; omega
 obtain⟨h1,tk,rfl,hk⟩:=x.done;have noA:∀b:Addr,b∉(vF CX P w K mg base N qual scope f cd A outer s H E).ex:=fun b z=>absurd (show b∈([]:List Addr) from z) (by simp)
 refine⟨⟨e0.mod,S.kind,rfl,rfl,Nat.le_refl _,fun y z c h1 h2=>?_,fun y hy=>?_,fun y c _ h=>?_,fun _=>hd,Around.frames_deeper e0.frames,.inr ⟨rfl,rfl⟩,fun b z=>absurd z (noA b),e0.bs,e0.bsz,fun b _ _=>noA b,fun b z=>absurd z (noA b),e0.funs,e0.frf⟩,
  rfl,e0.bare,Un.kept hk,⟨_,x.toInCall.ns,fun i y v h1 h2 h3=>?_⟩,fun y c h=>⟨_,x.cell y c h⟩,e0.hok.fresh (Nat.le_refl _),fun y c h=>?_,fun p hp=>absurd (show p∈([]:List (Addr×Obj)) from hp) (by simp),e0.hok.kept hk,?_⟩
 .exact name_of_addr x.apart (PySem.mem_of_lookup h1) (PySem.mem_of_lookup h2)
 .have hy:scope.names.lookup y=some .cell\/scope.names.lookup y=some .free:=hy
  rcases hy with hy | hy
  .exact nU hy
  .exact absurd rfl (S.nofree _ (PySem.mem_of_lookup hy))
 .exact Nat.le_of_lt (x.above y c (PySem.mem_of_lookup h))
 .have hi:i < vs.length:=by
   unfold start at h2
   by_cases hi:i < vs.length
   .exact hi
   .rw [List.getElem?_append_right (by simpa using hi)] at h2
    rw[List.getElem?_replicate] at h2
    split at h2<;>cases h2
  have ha:vs[i]?=some v:=by
   unfold start at h2;rw[List.getElem?_append_left (by simpa using hi),List.getElem?_map] at h2
   cases e:vs[i]? with
   |none=>rw[e] at h2; cases h2
   |some a=>rw[e] at h2; cases h2; rfl
  obtain⟨u,hu,rv⟩:=r.get ha
  have hp:ps[i]?=some y:=by
   rw[<- S.pre,List.getElem?_take_of_lt (by omega)]; exact h1
  have ndP:ps.Nodup:=by rw[<- S.pre]; exact S.nd.sublist (List.take_sublist _ _)
  refine⟨u,rv,?_⟩
  rcases S.par y (List.mem_of_getElem? hp) with k | k
  .exact .inl ⟨k,uM ndP hp hu k⟩
  .obtain ⟨c,e⟩:=nU (n:=s.heap.objs.size+1) k
   refine .inr ⟨.inl k,c,e,?_⟩;have q:=x.cell y c e;rw[bM ndP hp hu (by show scope.names.lookup y≠_; rw[k]; decide)] at q;exact q
 .exact e0.hok.fresh (Nat.le_of_lt (x.above y c (PySem.mem_of_lookup h)))
 .unfold start
  show _=N.length;rw[List.length_append,List.length_map,List.length_replicate];omega
theorem fn_of {CX:CXT}{P:Program}{w:World}{K:PySem.W.Frag}{mg:Str->Option Value}{base:Heap}{k:Nat}{f:Addr}{name qual:Str}{params:Arguments}{body:List Stmt}{scope:Scope}{dV kV doc pm cdv ct oc:Value}{an od:Option Addr}
  {osl:Array (Option Value)} {N ps:List Str} {sp:Sp} (lk:K.lookup f=some ⟨oc,od,.func (PySem.W.fnOf name qual params body scope dV kV doc pm an cdv ct),osl⟩) (hcd:PySem.W.codeIn K cdv qual=true) (S:FnScope N ps scope)
  (len:∀vs H Q E,sp vs H Q E->vs.length=ps.length)
  (hbody:∀(A:Around) (outer:List Env) (s:Shared) (H:Hp) (vs:List V) (Q:VK) (E:XK),Room k (A.deeper (envOfC qual scope s.heap.objs.size f cdv))->sp vs H Q E ->
   ∃t,PSs (vF CX P w K mg base N qual scope f cdv A outer s H E) body t/\t { nx:=fun _ H'=>Q .non H',rt:=Q } (start N vs) H) :
  FnOk P w K mg base CX (k+1) f (PySem.W.fnOf name qual params body scope dV kV doc pm an cdv ct) ps sp:=by
 refine⟨len,fun A outer s H args us vs Q E hr e0 hb r hsp=>?_⟩;have hl:=len _ _ _ _ hsp;have KX:K.In s.heap:=e0.mod.kin.keeps fun b o e=>(e0.bs b o e).1;have lim:s.heap.NoLimit:=e0.mod.nolimit.keeps fun b o e=>(e0.bs b o e).1
 have hkind:∀y∈ps.zip us,scope.names.lookup y.1=some .local\/(scope.names.lookup y.1=some .cell/\((cellsFrom (s.heap.objs.size+1) scope.names []).lookup y.1).isSome=true):=fun⟨n,v⟩ hy=>by
  rcases S.par n (List.of_mem_zip hy).1 with q | q
  .exact .inl q
  .exact .inr ⟨q,PySem.W.cellsFrom_some _ _ _ (.inl q)⟩
 refine codeAny_call_function hr.depth (KX _ _ lk) rfl S.co S.gen rfl (PySem.W.codeRec_of KX hcd) (hb _ _ _ _ ?_);refine wpAny_newFunctionEnv_cells S.kind hkind fun env he s1 x=>?_;subst he;refine⟨lim.keeps x.toInCall.keep,codeAny_func ?_⟩;obtain⟨t,ht,hq⟩:=hbody A outer s H vs Q E (hr.deeper _) hsp;have I:Inv (vF CX P w K mg base N qual scope f cdv A outer s H E) [] (start N vs) H s1:=oR S hr.hd e0 hl r x
 refine wpAny_mono (ht [] s1 (start N vs) H _ I hq) (fun fl s' hs=>?_) fun e s' hs=>hs
 have fin:∀{σ':St} {H':Hp} {v:V} {u:Value},Inv (vF CX P w K mg base N qual scope f cdv A outer s H E) [] σ' H' s'->RelV v u->Q v H'->CE outer P w H s Q u s' :=
  fun {σ' H' v u} J rv q=>⟨v,H',J.os,J.bare,J.base,J.hok,rv,q⟩
 cases fl with
 |ret u =>
  obtain⟨v,σ',H',J,rv,q⟩:=hs;exact fin J rv q
 |next =>
  obtain⟨σ',H',J,q⟩:=hs;exact fin (v:=V.non) (u:=Value.none) J rfl q
 |brk =>
  obtain⟨_,_,_,q⟩:=hs;exact False.elim q
 |cont =>
  obtain⟨_,_,_,q⟩:=hs;exact False.elim q
section
variable {X:Cx}{x:Str}{p pos:Pos}{e:Expr}{es:List Expr}{t:TA}{id T:String}{r:List V->Hp->VK->Prop}
def tCB (r:List V->Hp->VK->Prop)(t:TA):TE:=fun σ H Q=>t σ H fun vs H1=>r vs H1 Q
theorem zO (hc:CallR X (.builtin id) r)(hg:Gl X x)(hm:X.mg x=none)(hv:bootBuiltins x=some (.builtin id))(ha:PA X (e::es) t)(hn:x ≠ "__name__":=by decide)(hdb:(x==("__debug__" : Str))=false:=by decide)
  (he:starEach (e::es) X.env=(false,eval e X.env)::starEach es X.env:=by rfl) (hpl:(backTo pos (starEach es X.env)).any (·.1)=false:=by rfl):PE X (.Call (.Name x p) (e::es) [] pos) (tCB r t):=by
 intro pins s σ H Q I h;refine wpAny_Call_Name_kw (iM I hg hm hv ?_ hn hdb);exact PyProof.Rows.callWith_builtin1 (thn (ha pos pins s σ H _ I h) fun us s1 ⟨vs,H1,I1,r1,q1⟩=>hc pins s1 σ H1 vs us Q I1 r1 q1) he hpl
theorem vR (hc:CallR X (.type T) r)(hg:Gl X x)(hm:X.mg x=none)(hv:bootBuiltins x=some (.type T))(ha:PA X (e::es) t)(hn:x ≠ "__name__":=by decide)(hdb:(x==("__debug__" : Str))=false:=by decide)
  (he:starEach (e::es) X.env=(false,eval e X.env)::starEach es X.env:=by rfl) (hpl:(backTo pos (starEach es X.env)).any (·.1)=false:=by rfl):PE X (.Call (.Name x p) (e::es) [] pos) (tCB r t):=by
 intro pins s σ H Q I h;refine wpAny_Call_Name_kw (iM I hg hm hv ?_ hn hdb);exact PyProof.Rows.callWith_type1 (thn (ha pos pins s σ H _ I h) fun us s1 ⟨vs,H1,I1,r1,q1⟩=>hc pins s1 σ H1 vs us Q I1 r1 q1) he hpl
end
end L2
namespace HT
open PySem PyProof.Rows
section
variable {prog:Program}{w:World}{A:Around}{E:Value->Shared->Prop}{s:Shared}
theorem cat_tup {t b:Addr}{vs ws:List Value}{Q:Value->Shared->Prop}(ht:IsTup s.heap t vs.toArray)(hb:IsTup s.heap b ws.toArray)(hv:vs≠[])
  (h1:ws=[]->Q (.ref t) s) (h2:ws≠[]->Q (.ref s.heap.objs.size) { s with heap:=s.heap.push { cls:=.type "tuple",data:=.seq (vs++ws).toArray } })
  (hsz:vs.length+ws.length<=sizeLine):wpAny (model prog w) A (binaryOp .Add (.ref t) (.ref b)) Q E s:=by
 obtain⟨⟨cls,dd,data,sl⟩,ho,hc,n,hd⟩:=id ht;obtain⟨⟨cls2,dd2,data2,sl2⟩,ho2,hc2,n2,hd2⟩:=id hb
 simp only at hc hd hc2 hd2
 subst hc hd hc2 hd2;have e:vs.toArray++ws.toArray=(vs++ws).toArray:=by simp
 by_cases hw:ws=[]
 .exact concat_meets ⟨_,ho,rfl⟩ ⟨_,ho2,rfl⟩ noFill_tuple_add seq_tuple_add PySem.F.slot_tuple_add PySem.F.entry_tuple_add (PySem.F.args_tuple_add_2 _ _)
   (tuple_addW1 t b vs.toArray ws.toArray n n2 dd dd2 sl sl2 (by simpa using hv) (by simp[hw])) ⟨ho,ho2,h1 hw⟩
 .refine concat_meets ⟨_,ho,rfl⟩ ⟨_,ho2,rfl⟩ noFill_tuple_add seq_tuple_add PySem.F.slot_tuple_add PySem.F.entry_tuple_add (PySem.F.args_tuple_add_2 _ _)
   (tuple_addW2 t b vs.toArray ws.toArray n n2 dd dd2 sl sl2 (by simpa using hv) (by simpa using hw) (by rw[List.size_toArray,List.size_toArray]; exact hsz)) ⟨ho,ho2,?_⟩
  rw[e];exact h2 hw
def sIx (n d:Nat):Option Int->Nat
 |none=>d
 |some v=>if v < 0 then (v+(n:Int)).toNat else min v.toNat n
theorem sIx_none (n d:Nat):sIx n d none=d:=rfl
theorem sIx_nat (n d k:Nat):sIx n d (some (k:Int))=min k n:=by
 show(if (k:Int) < 0 then ((k:Int)+(n:Int)).toNat else min (k:Int).toNat n)=min k n;rw[if_neg (by omega),Int.toNat_natCast]
end
end HT
namespace L2
open PySem PySem.Spec PyProof.Rows
abbrev TO:=St->Hp->(Option Int->Hp->Prop)->Prop
def PO (X:Cx)(e:Option Expr)(t:TO):Prop :=
 ∀(pins:List (Addr×Obj)) (s:Shared) (σ:St) (H:Hp) (Q:Option Int->Hp->Prop),Inv X pins σ H s->t σ H Q ->
  wpAny (model X.prog X.w) X.A (evalPart e X.env) (fun u s'=>∃o H',Inv X pins σ H' s'/\IsPart u o/\Q o H') X.xe s
def iH:TO:=fun _ H Q=>Q none H
def tPart (t:TE):TO:=fun σ H Q=>t σ H fun x H1=>∃i,x=.int i/\Q (some i) H1
section
variable {X:Cx}{e:Expr}{te:TE}{lo hi:Option Expr}{tl th:TO}{pos p2:Pos}
theorem po_none:PO X none iH:=by
 intro pins s σ H Q I h;rw[evalPart_none];exact wpAny_pure ⟨none,H,I,.none,h⟩
theorem po_some (h:PE X e te):PO X (some e) (tPart te):=by
 intro pins s σ H Q I hw;rw[evalPart_some];refine thn (h pins s σ H _ I hw) fun u s1 ⟨x,H1,I1,r1,q1⟩=>?_;obtain⟨i,rfl,q⟩:=q1;obtain⟨t,rfl⟩:=r1;exact⟨some i,H1,I1,.int i t,q⟩
def SlR (X:Cx)(r:V->Option Int->Option Int->Hp->VK->Prop):Prop :=
 ∀(pins:List (Addr×Obj)) (s:Shared) (σ:St) (H:Hp) (x:V) (v vl vu:Value) (lo hi:Option Int) (sl:Addr) (Q:VK),Inv X pins σ H s->RelV x v->s.heap.IsSliceOf sl vl vu .none->IsPart vl lo->IsPart vu hi->r x lo hi H Q ->
  ∃T id,typeLookup (.type T) "__getitem__" = pure (some (.builtin id))/\s.TypeIs v T/\wpAny (model X.prog X.w) X.A (getItem v (.ref sl)) (EP X pins σ Q) X.xe s
def tSl (r:V->Option Int->Option Int->Hp->VK->Prop)(te:TE)(tl th:TO):TE:=fun σ H Q=>te σ H fun x H1=>tl σ H1 fun l H2=>th σ H2 fun u H3=>r x l u H3 Q
theorem eT {r:V->Option Int->Option Int->Hp->VK->Prop}(hr:SlR X r)(he:PE X e te)(hl:PO X lo tl)(hu:PO X hi th):PE X (.Subscript e (.Slice lo hi none p2) pos) (tSl r te tl th):=by
 intro pins s σ H Q I h;refine Subscript_ (thn (he pins s σ H _ I h) fun v s1 ⟨x,H1,I1,r1,q1⟩=>?_);refine wpAny_Slice (thn (hl pins s1 σ H1 _ I1 q1) fun vl s2 ⟨l,H2,I2,pl,q2⟩=>thn (hu pins s2 σ H2 _ I2 q2) fun vu s3 ⟨u,H3,I3,pu,q3⟩=>?_);rw[evalPart_none];refine wpAny_pure ?_;have I4:Inv X pins σ H3 { s3 with heap:=s3.heap.push { cls:=.type "slice",data:=.fields #[vl,vu,.none] } }:=I3.kept (t':=s3.toks) fun b ob q=>Heap.get?_push_of_some _ q
 obtain⟨T,id,hT,ht,hg⟩:=hr pins { s3 with heap:=s3.heap.push { cls:=.type "slice",data:=.fields #[vl,vu,.none] } } σ H3 x v vl vu l u s3.heap.objs.size Q I4 r1 (Heap.IsSliceOf.new ..) pl pu q3;show wpAny (model X.prog X.w) X.A (subscriptTail e (.Slice lo hi none p2) v (.ref s3.heap.objs.size)) (EP X pins σ Q) X.xe { s3 with heap:=s3.heap.push { cls:=.type "slice",data:=.fields #[vl,vu,.none] } };exact tail_any (ops:=[.ref s3.heap.objs.size,v]) ht hT hg (by with_unfolding_all rfl)
def xS (xs:List V)(lo hi:Option Int):List V:=(xs.drop (HT.sIx xs.length 0 lo)).take (HT.sIx xs.length xs.length hi - HT.sIx xs.length 0 lo)
theorem rL (xs:List V)(lo hi:Option Int):(xS xs lo hi).length<=xs.length:=by
 unfold xS;rw[List.length_take,List.length_drop];omega
def rCatT (K:PySem.W.Frag):R2:=fun x y H Q=>∃a b xs ys,x=.ref a/\y=.ref b/\SqT K H a xs/\SqT K H b ys/\xs≠[]/\xs.length+ys.length<=sizeLine /\
 (ys=[]->Q (.ref a) H)/\(ys≠[]->∀p,H p=none->Q (.ref p) (upd H p (.tup (xs++ys))))
theorem Vals.nil_iff {xs:List V}{us:List Value}(r:Vals xs us):us=[]↔xs=[]:=by
 cases r with
 |nil=>simp
 |cons _ _=>simp
theorem op_catT:OpR X (binaryOp .Add) (rCatT X.K):=by
 intro pins s σ H x y v u Q I rx ry h;obtain⟨a,b,xs,ys,rfl,rfl,ha,hb,hx,hz,q1,q2⟩:=h;cases rx;cases ry;obtain⟨its,r1,p1,_⟩:=I.tuple ha;obtain⟨its2,r2,p2,_⟩:=I.tuple hb;refine HT.cat_tup p1 p2 (fun z=>hx (r1.nil_iff.mp z)) (fun z=>⟨.ref a,H,I,rfl,q1 (r2.nil_iff.mp z)⟩) (fun z=>?_) (by rw[<- r1.length,<- r2.length]; exact hz);refine⟨.ref s.heap.objs.size,_,I.laid (t':=s.toks) (o:=.tup (xs++ys)) (fun b ob q=>Heap.get?_push_of_some _ q) (Nat.le_refl _) ?_,rfl,q2 (fun w=>z (r2.nil_iff.mpr w)) _ (I.hok.fresh (Nat.le_refl _))⟩
 exact⟨by rw[List.length_append]; exact hz,_,r1.append r2,IsTupN.new _ _⟩
end
def ixN (n:Nat)(i:Int):Option Nat:=if 0<=i then (if i < n then some i.toNat else none) else if -(n:Int)<=i then some (i+n).toNat else none
def atI {α:Type}(xs:List α)(i:Int):Option α:=(ixN xs.length i).bind fun j=>xs[j]?
theorem bN {n:Nat}{i:Int}{j:Nat}(h:ixN n i=some j):seqIndex? i n=some j/\j < n/\-(n:Int)<=i/\i < n:=by
 unfold ixN at h
 by_cases h0:0<=i
 .rw [if_pos h0] at h
  by_cases h1:i < n
  .rw [if_pos h1] at h
   have e:i.toNat=j:=Option.some.inj h;exact⟨by rw[seqIndex_of h0 h1,e],by omega,by omega,h1⟩
  .rw [if_neg h1] at h; cases h
 .rw [if_neg h0] at h
  by_cases h1 : -(n:Int)<=i
  .rw [if_pos h1] at h
   have e:(i+n).toNat=j:=Option.some.inj h;exact⟨by rw[seqIndex_neg (by omega) h1,e],by omega,h1,by omega⟩
  .rw [if_neg h1] at h; cases h
theorem nF {α:Type}{xs:List α}{i:Int}{v:α}(h:atI xs i=some v):∃j,seqIndex? i xs.length=some j/\xs[j]?=some v/\j < xs.length/\-(xs.length:Int)<=i/\i < xs.length:=by
 unfold atI at h
 cases e:ixN xs.length i with
 |none=>rw[e] at h; cases h
 |some j =>
  rw[e] at h;obtain⟨h1,h2,h3,h4⟩:=bN e;exact⟨j,h1,h,h2,h3,h4⟩
def nG (b:Expr):Prop:=∀o i,subscripted b false o i=operate [o,i] (getItem o i)
def IxR (X:Cx)(r:R2):Prop :=
 ∀(value slice:Expr) (pins:List (Addr×Obj)) (s:Shared) (σ:St) (H:Hp) (x y:V) (v u:Value) (Q:VK),Inv X pins σ H s->RelV x v->RelV y u->r x y H Q ->
  subscripted slice false v u=operate [v,u] (getItem v u)->wpAny (model X.prog X.w) X.A (subscriptTail value slice v u) (EP X pins σ Q) X.xe s
def MtR (X:Cx)(id:String)(r:V->List V->Hp->VK->Prop):Prop :=
 ∀(pins:List (Addr×Obj)) (s:Shared) (σ:St) (H:Hp) (x:V) (xs:List V) (v:Value) (us:List Value) (Q:VK),Inv X pins σ H s->RelV x v->Vals xs us->r x xs H Q ->
  wpAny (model X.prog X.w) X.A (call (.builtin id) (v::us)) (EP X pins σ Q) X.xe s
section
variable {X:Cx}{a b:Expr}{ta tb:TE}{pos:Pos}
theorem IxR.or {r r':R2}(h:IxR X r)(h':IxR X r'):IxR X (fun x y H Q=>r x y H Q\/r' x y H Q):=by
 intro value slice pins s σ H x y v u Q I rx ry q hs
 rcases q with q | q
 .exact h value slice pins s σ H x y v u Q I rx ry q hs
 .exact h' value slice pins s σ H x y v u Q I rx ry q hs
theorem pe_ix {r:R2}(hr:IxR X r)(ha:PE X a ta)(hb:PE X b tb)(hs:nG b):PE X (.Subscript a b pos) (tOp r ta tb):=by
 intro pins s σ H Q I h;exact Subscript_ (binT ha hb I h fun v u s2 x y H2 I2 rx ry q=>hr a b pins s2 σ H2 x y v u Q I2 rx ry q (hs _ _))
inductive IIx (S:Hp->Addr->List V->Prop)(x y:V)(H:Hp)(Q:VK):Prop
 |mk (p:Addr) (xs:List V) (i:Int) (v:V) (h:x=.ref p) (h':y=.int i) (s:S H p xs) (a:atI xs i=some v) (q:Q v H):IIx S x y H Q
def rIxL (K:PySem.W.Frag):R2:=IIx (SqL K)
def rIxT (K:PySem.W.Frag):R2:=IIx (SqT K)
def rIxS:R2:=fun x y H Q=>∃z i c,x=.str z/\y=.int i/\z.length<=sizeLine/\atI z.cps.toList i=some c/\Q (.str ⟨#[c]⟩) H
theorem ix_list:IxR X (rIxL X.K):=by
 intro value slice pins s σ H x y v u Q I rx ry h hs;obtain⟨p,xs,i,z,rfl,rfl,hq,he,q⟩:=h;cases rx;obtain⟨t,rfl⟩:=ry;obtain⟨its,r,pl,hz⟩:=I.list hq;obtain⟨j,h1,h2,h3,h4,h5⟩:=nF he;obtain⟨w,ew,rw'⟩:=r.get h2;have hl:=r.length;have hn:=bY;have fin:EP X pins σ Q w s:=⟨z,H,I,rw',q⟩
 by_cases h0:0<=i
 .have hj:i.toNat=j:=by
   rw[seqIndex_of h0 h5] at h1;exact Option.some.inj h1
  exact item_listR pl.isList h0 (by omega) (by rw[hj]; simpa using ew) fin hs
 .have hj:(i+(its.toArray.size:Int)).toNat=j:=by
   rw[seqIndex_neg (by omega) h4] at h1;rw[List.size_toArray,<- hl];exact Option.some.inj h1
  exact subscriptTail_builtinR (x:=w) pl.isList.typeIs slot_list_getitem.lookup
   (wpAny_getItem_list_neg (Q:=fun r s'=>r=w/\EP X pins σ Q r s') pl.isList (by omega) (by rw[List.size_toArray]<;>omega) (by omega) (by rw[hj]; simpa using ew) ⟨rfl,fin⟩) hs
theorem ix_tup:IxR X (rIxT X.K):=by
 intro value slice pins s σ H x y v u Q I rx ry h hs;obtain⟨p,xs,i,z,rfl,rfl,hq,he,q⟩:=h;cases rx;obtain⟨t,rfl⟩:=ry;obtain⟨its,r,pl,hz⟩:=I.tuple hq;obtain⟨j,h1,h2,h3,h4,h5⟩:=nF he;obtain⟨w,ew,rw'⟩:=r.get h2;have hl:=r.length;have hn:=bY;have fin:EP X pins σ Q w s:=⟨z,H,I,rw',q⟩
 exact subscriptTail_builtinR (x:=w) pl.typeIs slot_tuple_getitem.lookup
  (getItem_tuple (j:=j) (Q:=fun r s'=>r=w/\EP X pins σ Q r s') pl (by omega) (by omega) (by rw[List.size_toArray,<- hl]; exact h1) (by simpa using ew) ⟨rfl,fin⟩) hs
theorem ix_str:IxR X rIxS:=by
 intro value slice pins s σ H x y v u Q I rx ry h hs;obtain⟨z,i,c,rfl,rfl,hz,he,q⟩:=h;obtain⟨t,rfl⟩:=rx;obtain⟨t',rfl⟩:=ry;obtain⟨j,h1,h2,h3,h4,h5⟩:=nF he;have hl:z.cps.toList.length=z.length:=by simp[Str.length]
 rw[hl] at h1 h4 h5;have hn:=bY
 exact tail_any (typeIs_str s z t) slot_str_getitem.lookup (getItem_str (c:=c) (by
  have e1:decide (i < -(2 ^ 63:Int))=false:=decide_eq_false (by omega);have e2:decide (i >= 2 ^ 63)=false:=decide_eq_false (by omega)
  rw[e1,e2,Bool.or_false]) (by rw[h1]; simpa using h2) ⟨.str ⟨#[c]⟩,H,I.tok _,⟨_,rfl⟩,q⟩) hs
def rIx (K:PySem.W.Frag):R2:=fun x y H Q=>rIxL K x y H Q\/rIxT K x y H Q\/rIxS x y H Q
theorem ix_seq:IxR X (rIx X.K):=ix_list.or (ix_tup.or ix_str)
theorem aP (its:List Value)(n j:Nat)(u:Value):Obj.mapSeq (·.setIfInBounds j u) { cls:=.type "list",data:=.seq its.toArray n }={ cls:=.type "list",data:=.seq (its.set j u).toArray n }:=by
 simp[Obj.mapSeq]
theorem Inv.lst {pins:List (Addr×Obj)}{σ:St}{H:Hp}{s:Shared}{p:Addr}{xs:List V}(I:Inv X pins σ H s)(h:H p=some (.lst xs)):
  ∃(its:List Value) (n:Nat),Vals xs its/\s.heap.get? p=some { cls:=.type "list",data:=.seq its.toArray n }/\xs.length<=sizeLine:=by
 obtain⟨z,its,n,r,e⟩:=I.hok p _ h;exact⟨its,n,r,e,z⟩
theorem Inv.lstUpd {pins:List (Addr×Obj)}{σ:St}{H:Hp}{s:Shared}{p:Addr}{xs ys:List V}{its its':List Value}{n n':Nat}{f:Obj->Obj}(I:Inv X pins σ H s)(h:H p=some (.lst xs))
  (ho:s.heap.get? p=some { cls:=.type "list",data:=.seq its.toArray n }) (hf:f { cls:=.type "list",data:=.seq its.toArray n }={ cls:=.type "list",data:=.seq its'.toArray n' }) (r:Vals ys its') (hz:ys.length<=sizeLine) (t:Nat) :
  Inv X pins σ (upd H p (.lst ys)) { s with heap:=s.heap.update p f,toks:=t }:=by
 have e:(s.heap.update p f).get? p=some { cls:=.type "list",data:=.seq its'.toArray n' }:=by
  rw[Heap.get?_update_self f ho (by rw[hf]<;>rfl),hf]
 refine I.write (x:=p) (e:=p) (by rw[h]; trivial) (.inl rfl) (fun b u hb q=>(Heap.get?_update_other _ _ (Ne.symm hb)).trans q) ⟨_,e⟩ ?_;exact⟨hz,its',n',r,e⟩
def rSetL:V->V->V->Hp->(Hp->Prop)->Prop:=fun o i v H Q=>∃p xs k j,o=.ref p/\i=.int k/\H p=some (.lst xs)/\ixN xs.length k=some j/\Q (upd H p (.lst (xs.set j v)))
theorem vT:PSet X rSetL:=by
 intro pins s σ H o i v ov iv u Q I ro ri rv h;obtain⟨p,xs,k,j,rfl,rfl,hp,hj,q⟩:=h;cases ro;obtain⟨t,rfl⟩:=ri;obtain⟨its,n,r,ho,hz⟩:=I.lst hp;obtain⟨h1,h2,h3,h4⟩:=bN hj;have hl:=r.length;have hn:=bY
 have I':Inv X pins σ (upd H p (.lst (xs.set j v))) { s with heap:=s.heap.update p (Obj.mapSeq (·.setIfInBounds j u)) } :=
  I.lstUpd hp ho (aP its n j u) (r.set rv j) (by rw[List.length_set]; exact hz) s.toks
 by_cases h0:0<=k
 .have hk:k.toNat=j:=by
   rw[seqIndex_of h0 h4] at h1;exact Option.some.inj h1
  exact PySem.W.ki_setAt ho h0 (by omega) (by rw[List.size_toArray,<- hl]; exact h4) (by rw[hk]; exact⟨_,I',q⟩)
 .have hk:(k+(its.toArray.size:Int)).toNat=j:=by
   rw[seqIndex_neg (by omega) h3] at h1;rw[List.size_toArray,<- hl];exact Option.some.inj h1
  exact PySem.W.ki_setBack ho (by omega) (by rw[List.size_toArray,<- hl]; exact h3) (by omega) (by rw[hk]; exact⟨_,I',q⟩)
theorem lM (lo hi:Option Int)(n:Nat):(sliceBounds lo hi none n).1=((HT.sIx n 0 lo:Nat):Int)/\(sliceBounds lo hi none n).2.1=((HT.sIx n n hi:Nat):Int)/\(sliceBounds lo hi none n).2.2=1:=by
 refine⟨?_,?_,rfl⟩
 .cases lo with
  |none=>simp[sliceBounds,HT.sIx]
  |some i =>
   simp only[sliceBounds,HT.sIx,Option.getD_none,show(1:Int) > 0 by decide,if_true]
   by_cases h:i < 0
   .simp only[h,if_true]<;>omega
   .simp only[h,if_false]<;>omega
 .cases hi with
  |none=>simp[sliceBounds,HT.sIx]
  |some i =>
   simp only[sliceBounds,HT.sIx,Option.getD_none,show(1:Int) > 0 by decide,if_true]
   by_cases h:i < 0
   .simp only[h,if_true]<;>omega
   .simp only[h,if_false]<;>omega
theorem jB (its:List Value)(lo hi:Option Int):slicePick its.toArray lo hi none=((its.drop (HT.sIx its.length 0 lo)).take (HT.sIx its.length its.length hi - HT.sIx its.length 0 lo)).toArray:=by
 obtain⟨h1,h2,h3⟩:=lM lo hi its.toArray.size;unfold slicePick;rw[h1,h2,h3]
 simp only[sliceRange_one,pick_run,List.size_toArray]<;>rfl
def rSlL (K:PySem.W.Frag):V->Option Int->Option Int->Hp->VK->Prop:=fun x lo hi H Q=>∃a xs,x=.ref a/\SqL K H a xs/\∀p,H p=none->Q (.ref p) (upd H p (.lst (xS xs lo hi)))
theorem sl_list:SlR X (rSlL X.K):=by
 intro pins s σ H x v vl vu lo hi sl Q I rx hs pl pu h;obtain⟨a,xs,rfl,hx,q⟩:=h;cases rx;obtain⟨its,r,ht,hz⟩:=I.list hx;have hlen:=r.length;refine⟨"list",_,slot_list_getitem.lookup,ht.isList.typeIs,?_⟩;refine wpAny_getItem_list_slice ht.isList hs pl pu .none (by simp) ?_ (by rw[List.size_toArray]<;>omega);rw[jB,<- hlen];refine⟨.ref s.heap.objs.size,_,I.laid (t':=s.toks) (o:=.lst (xS xs lo hi)) (fun b ob q=>Heap.get?_push_of_some _ q) (Nat.le_refl _) ?_,rfl,q _ (I.hok.fresh (Nat.le_refl _))⟩
 exact⟨Nat.le_trans (rL xs lo hi) hz,_,0,(r.drop (HT.sIx xs.length 0 lo)).take (HT.sIx xs.length xs.length hi - HT.sIx xs.length 0 lo),Heap.get?_push_size _ rfl⟩
def eqV:V->V->Bool
 |.non,.non=>true
 |.bl a,.bl b=>a==b
 |.bl a,.int b=>(if a then 1 else 0)==b
 |.int a,.bl b=>a==(if b then 1 else 0)
 |.int a,.int b=>a==b
 |.str a,.str b=>a==b
 |_,_=>false
def inV (x:V)(xs:List V):Bool:=xs.any fun y=>eqV y x
theorem cF:CallR X (.builtin "len") (fun xs H Q=>∃p ys,xs=[.ref p]/\(SqL X.K H p ys\/SqT X.K H p ys)/\Q (.int ys.length) H):=by
 intro pins s σ H xs us Q I r h;obtain⟨p,ys,rfl,hq,q⟩:=h;obtain⟨u,rfl,rx⟩:=tY r;cases rx;have hn:=bY
 rcases hq with hq | hq
 .obtain ⟨its,r',pl,hz⟩:=I.list hq
  have hlen:=r'.length;exact Calls.call_len_list pl.isList (by simp only[List.size_toArray]<;>omega) ⟨.int ys.length,H,I.tok _,⟨s.toks+1,by rw[List.size_toArray,hlen]⟩,q⟩
 .obtain ⟨its,r',pl,hz⟩:=I.tuple hq
  have hlen:=r'.length;exact len_tuple pl (by simp only[List.size_toArray]<;>omega) ⟨.int ys.length,H,I.tok _,⟨s.toks+1,by rw[List.size_toArray,hlen]⟩,q⟩
theorem dF:CallR X (.builtin "len") (fun xs H Q=>∃z,xs=[.str z]/\z.length<=sizeLine/\Q (.int z.length) H):=by
 intro pins s σ H xs us Q I r h;obtain⟨z,rfl,hz,q⟩:=h;obtain⟨u,rfl,t,rfl⟩:=tY r;have hn:=bY;exact len_str (by omega) ⟨.int z.length,H,I.tok _,⟨_,rfl⟩,q⟩
theorem CallR.or {f:Value}{r r':List V->Hp->VK->Prop}(h:CallR X f r)(h':CallR X f r'):CallR X f (fun xs H Q=>r xs H Q\/r' xs H Q):=by
 intro pins s σ H xs us Q I rs q
 rcases q with q | q
 .exact h pins s σ H xs us Q I rs q
 .exact h' pins s σ H xs us Q I rs q
theorem uB:CallR X (.type "tuple") (fun xs H Q=>∃p ys,xs=[.ref p]/\((SqL X.K H p ys/\∀l,H l=none->Q (.ref l) (upd H l (.tup ys)))\/(SqT X.K H p ys/\Q (.ref p) H))):=by
 intro pins s σ H xs us Q I r h;obtain⟨p,ys,rfl,h⟩:=h;obtain⟨u,rfl,rx⟩:=tY r;cases rx
 rcases h with ⟨hq,q⟩ | ⟨hq,q⟩
 .obtain ⟨its,r',pl,hz⟩:=I.list hq
  have hlen:=r'.length;refine call_tuple_list pl.isList (fun h' kp=>?_) (by simp only[List.size_toArray]<;>omega);have I1:Inv X pins σ H { s with heap:=h' }:=I.kept (t':=s.toks) kp
  have I2:Inv X pins σ (upd H h'.objs.size (.tup ys)) { s with heap:=h'.push { cls:=.type "tuple",data:=.seq its.toArray } } :=
   I1.laid (t':=s.toks) (fun b o e=>Heap.get?_push_of_some _ e) (Nat.le_refl _) (show ObjOk X.prog X.w _ _ _ (.tup ys) from⟨hz,its,r',IsTupN.new _ _⟩)
  exact⟨.ref h'.objs.size,_,I2,rfl,q _ (I1.hok.fresh (Nat.le_refl _))⟩
 .obtain ⟨its,r',pl,hz⟩:=I.tuple hq
  exact call_tuple_same pl ⟨.ref p,H,I,rfl,q⟩
def tyV (K:PySem.W.Frag)(T:String)(x:V)(H:Hp):Prop:=match x with
 |.str _=>T = "str"
 |.int _=>T = "int"
 |.ref p=>(T = "list"/\∃xs,SqL K H p xs)\/(T = "tuple"/\∃o,K.lookup p=some o/\o.cls=.type "tuple"/\o.dict=none) \/
   (T = "dict"/\((∃kvs,H p=some (.dK kvs))\/∃kvs,H p=some (.dT kvs)))\/(T = "set"/\∃S n,H p=some (.set S n))
 |_=>False
theorem oS {pins:List (Addr×Obj)}{σ:St}{H:Hp}{s:Shared}{T:String}{x:V}{v:Value}(I:Inv X pins σ H s)(r:RelV x v)(ty:tyV X.K T x H):
  s.TypeIs v T/\∀a,v=.ref a->∃ob,s.heap.get? a=some ob/\ob.dict=none:=by
 cases x with
 |str z =>
  obtain⟨t,rfl⟩:=r;cases (show T = "str" from ty);exact⟨typeIs_str s z t,fun _ e=>nomatch e⟩
 |int i =>
  obtain⟨t,rfl⟩:=r;cases (show T = "int" from ty);exact⟨typeIs_int s i t,fun _ e=>nomatch e⟩
 |ref p =>
  cases r
  rcases ty with ⟨rfl,xs,hq⟩ | ⟨rfl,o,hk,hc,hd⟩ | ⟨rfl,hk⟩ | ⟨rfl,S,n,hk⟩
  .obtain ⟨its,_,pl,_⟩:=I.list hq
   refine⟨pl.isList.typeIs,fun a e=>?_⟩;cases e;obtain⟨o,n,e,c,hd,_⟩:=pl;exact⟨o,e,hd⟩
  .refine ⟨⟨o,I.kIn p o hk,hc⟩,fun a e=>?_⟩
   cases e;exact⟨o,I.kIn _ o hk,hd⟩
  .have z:∃o,s.heap.get? p=some o/\o.ExactDict:=by
    rcases hk with ⟨kvs,hk⟩ | ⟨kvs,hk⟩
    .obtain ⟨_,_,_,_,o,_,_,e,ex,_⟩:=I.hok p _ hk
     exact⟨o,e,ex⟩
    .obtain ⟨_,_,_,_,o,_,_,e,ex,_⟩:=I.hok p _ hk
     exact⟨o,e,ex⟩
   obtain⟨o,e,ex⟩:=z;refine⟨⟨o,e,ex.1⟩,fun a e2=>?_⟩;cases e2;exact⟨o,e,ex.2.1⟩
  .obtain ⟨o,_,_,_,e,ex,_⟩:=I.hok p _ hk
   refine⟨⟨o,e,ex.1⟩,fun a e2=>?_⟩;cases e2;exact⟨o,e,ex.2.1⟩
 |_=>exact False.elim ty
def tBM0 (K:PySem.W.Frag)(T:String)(r:V->List V->Hp->VK->Prop)(to:TE):TE:=fun σ H Q=>to σ H fun x H1=>tyV K T x H1/\r x [] H1 Q
def tBM (K:PySem.W.Frag)(T:String)(r:V->List V->Hp->VK->Prop)(to:TE)(t:TA):TE:=fun σ H Q=>to σ H fun x H1=>tyV K T x H1/\t σ H1 fun xs H2=>r x xs H2 Q
variable {o e:Expr}{es:List Expr}{to:TE}{t:TA}{name:Str}{apos cpos:Pos}{T id:String}{r:V->List V->Hp->VK->Prop}
theorem pe_bm0 (pa:PlainAttrs T)(slot:Slot T name id)(hty:typeOf (.builtin id)=pure (.type "method_descriptor"))(hm:MtR X id r)(ho:PE X o to)
  (hbase:attributeBase o name X.env (eval o X.env)=eval o X.env:=by rfl) (hline:(apos.endLine==cpos.line)=true:=by rfl):PE X (.Call (.Attribute o name apos) [] [] cpos) (tBM0 X.K T r to):=by
 intro pins s σ H Q I h;refine wpAny_Call_method0_late hbase hline (thn (ho pins s σ H _ I h) fun v s1 ⟨x,H1,I1,r1,ty,q1⟩=>?_);obtain⟨h1,h2⟩:=oS I1 r1 ty;exact⟨T,id,pa,slot,hty,h1,h2,Calls.callWith_builtin rfl (PySem.evalArgs_none (hm pins s1 σ H1 x [] v [] Q I1 r1 .nil q1))⟩
theorem pe_bm (pa:PlainAttrs T)(slot:Slot T name id)(hty:typeOf (.builtin id)=pure (.type "method_descriptor"))(hm:MtR X id r)(ho:PE X o to)(ha:PA X (e::es) t)
  (hbase:attributeBase o name X.env (eval o X.env)=eval o X.env:=by rfl)
  (hfew:((backTo cpos (starEach (e::es) X.env)).all (fun x=>!x.1)&&(backToKw cpos (keywordEach [] X.env)).all (fun x=>x.1.isSome)
   && decide ((e::es).length+([]:List Keyword).length+(if ([]:List Keyword).isEmpty then 0 else 1) < 30))=true:=by rfl)
  (hline:(apos.endLine==cpos.line)=true:=by rfl) (hs:starEach (e::es) X.env=(false,eval e X.env)::starEach es X.env:=by rfl) (hplain:(backTo cpos (starEach es X.env)).any (·.1)=false:=by rfl) :
  PE X (.Call (.Attribute o name apos) (e::es) [] cpos) (tBM X.K T r to t):=by
 intro pins s σ H Q I h;refine wpAny_Call_method_late hbase hfew hline rfl (thn (ho pins s σ H _ I h) fun v s1 ⟨x,H1,I1,r1,ty,q1⟩=>?_);obtain⟨h1,h2⟩:=oS I1 r1 ty;refine⟨T,id,pa,slot,hty,h1,h2,?_⟩;have hA:=ha cpos pins s1 σ H1 _ I1 q1;rw[hs] at hA ⊢;refine Calls.callWith_builtin (by show(false || (backTo cpos (starEach es X.env)).any (·.1))=false; rw[hplain]<;>rfl) (Calls.evalArgs_plain ?_);exact thn hA fun us s2 ⟨vs,H2,I2,r2,q2⟩=>hm pins s2 σ H2 x vs v us Q I2 r1 r2 q2
end
def MtM (X:Cx)(id:String)(r:V->List V->Hp->VK->Prop):Prop :=
 ∀(pins:List (Addr×Obj)) (s:Shared) (σ:St) (H:Hp) (x:V) (xs:List V) (v:Value) (us:List Value) (Q:VK),Inv X pins σ H s->RelV x v->Vals xs us->r x xs H Q ->
  wpAny (model X.prog X.w) X.A (call (.builtin id) (v::us)) (EP X pins σ Q) X.xe s
theorem Vals.one:∀{x:V}{us:List Value},Vals [x] us->∃u,us=[u]/\RelV x u
 |_,_,.cons r .nil=>⟨_,rfl,r⟩
theorem Vals.zero:∀{us:List Value},Vals [] us->us=[]
 |_,.nil=>rfl
theorem Vals.reverse {xs:List V}{us:List Value}(h:Vals xs us):Vals xs.reverse us.reverse:=by
 induction h with
 |nil=>exact .nil
 |cons r t ih=>rw[List.reverse_cons,List.reverse_cons]; exact Vals.append ih (.cons r .nil)
section
variable {X:Cx}{pins:List (Addr×Obj)}{σ:St}{H:Hp}{s:Shared}{l b:Addr}{xs ys zs:List V}
theorem Inv.lset {its its':List Value}{n:Nat}{f:Array Value->Array Value}{t':Nat}(I:Inv X pins σ H s)(hH:H l=some (.lst xs))
  (e:s.heap.get? l=some { cls:=.type "list",data:=.seq its.toArray n }) (hf:f its.toArray=its'.toArray) (hv:Vals ys its') (hz:ys.length<=sizeLine) :
  Inv X pins σ (upd H l (.lst ys)) { s with heap:=s.heap.update l (Obj.mapSeq f),toks:=t' }:=by
 have q:=PySem.IsL.update e f;rw[hf] at q;refine I.write (x:=l) (e:=l) (by rw[hH]; exact trivial) (.inl rfl) (fun b' u hb hu=>(Heap.get?_update_other s.heap (Obj.mapSeq f) (Ne.symm hb)).trans hu) ⟨_,q⟩ ?_;exact⟨hz,its',_,hv,q⟩
theorem Inv.lnew {its:List Value}{t':Nat}(I:Inv X pins σ H s)(hv:Vals ys its)(hz:ys.length<=sizeLine):
  Inv X pins σ (upd H s.heap.objs.size (.lst ys)) { s with heap:=s.heap.push { cls:=.type "list",data:=.seq its.toArray },toks:=t' } :=
 I.laid (fun _ _ q=>Heap.get?_push_of_some _ q) (Nat.le_refl _) ⟨hz,its,0,hv,Heap.get?_push_size _ rfl⟩
theorem Inv.fresh (I:Inv X pins σ H s):H s.heap.objs.size=none:=I.hok.fresh (Nat.le_refl _)
theorem Inv.lstM (I:Inv X pins σ H s)(hH:H l=some (.lst xs)):xs.length<=sizeLine/\∃(its:List Value) (n:Nat),Vals xs its/\xs.length=its.length/\s.heap.get? l=some { cls:=.type "list",data:=.seq its.toArray n }:=by
 obtain⟨z,its,n,r,e⟩:=I.hok l _ hH;exact⟨z,its,n,r,r.length,e⟩
end
section
variable {X:Cx}
def kN:V->List V->Hp->VK->Prop:=fun x vs H Q=>∃l xs y,x=.ref l/\vs=[y]/\H l=some (.lst xs)/\xs.length < sizeLine/\Q .non (upd H l (.lst (xs++[y])))
theorem nB:MtM X "list.append" kN:=by
 intro pins s σ H x vs v us Q I rx rv h;obtain⟨l,xs,y,rfl,rfl,hH,hz,q⟩:=h;cases rx;obtain⟨u,rfl,ru⟩:=rv.one;obtain⟨z,its,n,r,hl,e⟩:=I.lstM hH;refine call_meets F.slot_list_append ⟨_,e,rfl⟩ F.entry_list_append (F.args_list_append_2 _ _) (PySem.list_append l its.toArray n u (by rw[List.size_toArray]; omega)) ⟨e,?_⟩;refine⟨.non,_,I.lset (its':=its++[u]) hH e (by simp) (r.append (.cons ru .nil)) ?_,rfl,q⟩
 rw[List.length_append,List.length_singleton];omega
def gD:V->List V->Hp->VK->Prop:=fun x vs H Q=>∃l xs,x=.ref l/\vs=[]/\H l=some (.lst xs)/\Q .non (upd H l (.lst xs.reverse))
theorem tP:MtM X "list.reverse" gD:=by
 intro pins s σ H x vs v us Q I rx rv h;obtain⟨l,xs,rfl,rfl,hH,q⟩:=h;cases rx;have hus:=rv.zero;subst hus;obtain⟨z,its,n,r,hl,e⟩:=I.lstM hH;refine call_meets F.slot_list_reverse ⟨_,e,rfl⟩ F.entry_list_reverse (F.args_list_reverse_1 _) (AutoSeq1.list_reverse_list_0 l its.toArray n (by rw[List.size_toArray]; omega)) ⟨e,?_⟩;refine⟨.non,_,I.lset (its':=its.reverse) hH e (by simp) r.reverse ?_,rfl,q⟩
 rw[List.length_reverse];omega
def rCat:R2:=fun x y H Q=>∃l b xs zs,x=.ref l/\y=.ref b/\H l=some (.lst xs)/\H b=some (.lst zs)/\xs.length+zs.length<=sizeLine/\∀p,H p=none->Q (.ref p) (upd H p (.lst (xs++zs)))
theorem op_cat:OpR X (binaryOp .Add) rCat:=by
 intro pins s σ H x y v u Q I rx ry h;obtain⟨l,b,xs,zs,rfl,rfl,hH,hB,hz,q⟩:=h;cases rx;cases ry;obtain⟨z,its,n,r,hl,e⟩:=I.lstM hH;obtain⟨z2,its2,n2,r2,hl2,e2⟩:=I.lstM hB;refine PySem.P.add_list e e2 ?_ (by rw[List.size_toArray,List.size_toArray]; omega);have ea:its.toArray++its2.toArray=(its++its2).toArray:=by simp
 rw[ea];exact⟨.ref _,_,I.lnew (t':=s.toks) (r.append r2) (by rw[List.length_append]; omega),rfl,q _ I.fresh⟩
end
section
variable {κ:Type}[DecidableEq κ]
def gJ (kvs:List (κ×V))(k:κ):Option V:=(kvs.find? fun kv=>decide (kv.1=k)).map (·.2)
def pZ (kvs:List (κ×V))(k:κ)(v:V):List (κ×V) :=
 if (kvs.any fun kv=>decide (kv.1=k))=true then kvs.map (fun kv=>if kv.1=k then (kv.1,v) else kv) else kvs++[(k,v)]
theorem fW {p:κ×V}{r:List (κ×V)}{k:κ}(e:p.1=k):gJ (p::r) k=some p.2:=by simp[gJ,List.find?_cons,e]
theorem pW {p:κ×V}{r:List (κ×V)}{k:κ}(e:¬ p.1=k):gJ (p::r) k=gJ r k:=by simp[gJ,List.find?_cons,e]
theorem eG (k:κ):∀kvs:List (κ×V),(kvs.any fun kv=>decide (kv.1=k))=(gJ kvs k).isSome
 |[]=>rfl
 |p::r=>by
  rw[List.any_cons]
  by_cases e:p.1=k
  .simp only[fW e,decide_eq_true e,Bool.true_or,Option.isSome_some]
  .rw [pW e,decide_eq_false e,Bool.false_or]; exact eG k r
theorem mJ (kvs:List (κ×V))(k:κ)(v:V):(pZ kvs k v).length<=kvs.length+1:=by
 unfold pZ
 split
 .rw [List.length_map]; omega
 .rw [List.length_append,List.length_cons,List.length_nil]; omega
theorem RelO.isSome_eq {o:Option V}{u:Option Value}(r:RelO o u):o.isSome=u.isSome:=by
 cases o with
 |none=>cases u with
  |none=>rfl
  |some _=>exact(show False from r).elim
 |some _=>cases u with
  |none=>exact(show False from r).elim
  |some _=>rfl
theorem KV.val {kvs:List (κ×V)}{vs:List (κ×Value)}(r:KV kvs vs)(k:κ):RelO (gJ kvs k) (valueAt vs k):=by
 unfold KV at r
 induction r with
 |nil=>exact True.intro
 |@cons p q ps qs h t ih =>
  obtain⟨h1,h2⟩:=h
  by_cases e:p.1=k
  .have e':q.1=k:=h1.symm.trans e
   have b:valueAt (q::qs) k=some q.2:=by simp[valueAt,List.find?_cons,e']
   rw[fW e,b]; exact h2
  .have e':¬ q.1=k:=fun z=>e (h1.trans z)
   have b:valueAt (q::qs) k=valueAt qs k:=by simp[valueAt,List.find?_cons,e']
   rw[pW e,b]; exact ih
theorem KV.any {kvs:List (κ×V)}{vs:List (κ×Value)}(r:KV kvs vs)(k:κ):(kvs.any fun kv=>decide (kv.1=k))=vs.any fun kv=>decide (kv.1=k):=by
 unfold KV at r
 induction r with
 |nil=>rfl
 |cons h t ih=>rw[List.any_cons,List.any_cons,ih,h.1]
theorem KV.repl {kvs:List (κ×V)}{vs:List (κ×Value)}(r:KV kvs vs)(k:κ){y:V}{u:Value}(ry:RelV y u):
  KV (kvs.map fun kv=>if kv.1=k then (kv.1,y) else kv) (vs.map fun kv=>if kv.1=k then (kv.1,u) else kv):=by
 unfold KV at r ⊢
 induction r with
 |nil=>exact .nil
 |@cons p q ps qs h t ih =>
  rw[List.map_cons,List.map_cons];refine .cons ?_ ih;obtain⟨h1,h2⟩:=h
  by_cases e:p.1=k
  .rw [if_pos e,if_pos (h1.symm.trans e)]; exact⟨h1,ry⟩
  .rw [if_neg e,if_neg (fun z=>e (h1.trans z))]; exact⟨h1,h2⟩
theorem KV.put {kvs:List (κ×V)}{vs:List (κ×Value)}(r:KV kvs vs)(k:κ){y:V}{u:Value}(ry:RelV y u):KV (pZ kvs k y) (stored vs k u):=by
 unfold pZ stored;rw[r.any k]
 by_cases e:(vs.any fun kv=>decide (kv.1=k))=true
 .rw [if_pos e,if_pos e]; exact r.repl k ry
 .rw [if_neg e,if_neg e]; exact Paired.snoc r ⟨rfl,ry⟩
theorem KV.length {kvs:List (κ×V)}{vs:List (κ×Value)}(r:KV kvs vs):kvs.length=vs.length:=Paired.length r
end
theorem wN {P:Program}{w:World}{k:Key}{u:Value}(r:RelV (kV k) u):(dQ P w).is k u=true:=by
 rcases k with (_ | i) | x
 .cases (show u=Value.none from r); exact aM P w
 .obtain ⟨t,e⟩:=(show ∃t,u=Value.int i t from r); subst e; exact jL P w i t
 .obtain ⟨t,e⟩:=(show ∃t,u=Value.str x t from r); subst e; exact zL P w x t
theorem iB {P:Program}{w:World}:∀{ks:List Key}{us:List Value},Vals (ks.map kV) us->ItemsAre (dQ P w) ks us
 |[],_,r=>by rw[List.map_nil] at r; cases r; exact .nil
 |k::ks,_,r=>by
  rw[List.map_cons] at r
  cases r with
  |cons h t=>exact .cons (wN h) (iB t)
abbrev KT (H:Hp):List (List Key×V)->List (List Key×Addr×Value)->Prop:=Paired fun p q=>p.1=q.1/\H q.2.1=some (.tup (p.1.map kV))/\RelV p.2 q.2.2
theorem KT.val {H:Hp}{kvs:List (List Key×V)}{xs:List (List Key×Addr×Value)}(r:KT H kvs xs)(k:List Key):RelO (gJ kvs k) ((atKey xs k).map (·.2)):=by
 induction r with
 |nil=>exact True.intro
 |@cons p q ps qs h t ih =>
  obtain⟨h1,_,h2⟩:=h
  by_cases e:p.1=k
  .have e':q.1=k:=h1.symm.trans e
   have b:atKey (q::qs) k=some q.2:=by simp[atKey,List.find?_cons,e']
   rw[fW e,b]; exact h2
  .have e':¬ q.1=k:=fun z=>e (h1.trans z)
   have b:atKey (q::qs) k=atKey qs k:=by simp[atKey,List.find?_cons,e']
   rw[pW e,b]; exact ih
theorem KT.repl {H:Hp}{kvs:List (List Key×V)}{xs:List (List Key×Addr×Value)}(r:KT H kvs xs)(k:List Key){y:V}{u:Value}(ry:RelV y u):
  KT H (kvs.map fun kv=>if kv.1=k then (kv.1,y) else kv) (xs.map (putAt k u)):=by
 induction r with
 |nil=>exact .nil
 |@cons p q ps qs h t ih =>
  rw[List.map_cons,List.map_cons];refine .cons ?_ ih;obtain⟨h1,h2,h3⟩:=h;unfold putAt
  by_cases e:p.1=k
  .rw [if_pos e,if_pos (h1.symm.trans e)]; exact⟨h1,h2,ry⟩
  .rw [if_neg e,if_neg (fun z=>e (h1.trans z))]; exact⟨h1,h2,h3⟩
theorem KT.put {H:Hp}{kvs:List (List Key×V)}{xs:List (List Key×Addr×Value)}(r:KT H kvs xs)(k:List Key){b:Addr}{y:V}{u:Value}(hb:H b=some (.tup (k.map kV)))(ry:RelV y u):
  KT H (pZ kvs k y) (storedH xs k b u):=by
 have e:(kvs.any fun kv=>decide (kv.1=k))=(atKey xs k).isSome:=by
  rw[eG,(r.val k).isSome_eq,Option.isSome_map]
 unfold pZ storedH;rw[e]
 by_cases q:(atKey xs k).isSome=true
 .rw [if_pos q,if_pos q]; exact r.repl k ry
 .rw [if_neg q,if_neg q]; exact Paired.snoc r ⟨rfl,hb,ry⟩
theorem KT.keeps {H H':Hp}{kvs:List (List Key×V)}{xs:List (List Key×Addr×Value)}(r:KT H kvs xs)(ht:∀b ys,H b=some (.tup ys)->H' b=some (.tup ys)):KT H' kvs xs :=
 Paired.mapP r fun _ _ z=>⟨z.1,ht _ _ z.2.1,z.2.2⟩
section
variable {P:Program}{w:World}{H:Hp}{h:Heap}{a:Addr}
theorem rd_of {u:HO}(ok:HOk P w H h)(e:Rd H a u):ObjOk P w H h a u:=e.ok ok
theorem lN {kvs:List (Key×V)}(ok:HOk P w H h)(e:Rd H a (.dK kvs)):kvs.length<=sizeLine/\(a==sysModules)=false/\∃vs,KV kvs vs/\h.DictOf (dQ P w) a vs :=
 show ObjOk P w H h a (.dK kvs) from rd_of ok e
theorem dk_of {kvs:List (Key×V)}(ok:HOk P w H h)(e:H a=some (.dK kvs)):kvs.length<=sizeLine/\(a==sysModules)=false/\∃vs,KV kvs vs/\h.DictOf (dQ P w) a vs:=lN ok (.inl e)
theorem mY {ks:List Key}(ok:HOk P w H h)(e:H a=some (.tup (ks.map kV))):(tupleKind (dQ P w)).is h ks a:=by
 obtain⟨_,its,r,o,h1,h2,⟨n,h3⟩,_⟩:=(show ObjOk P w H h a (.tup (ks.map kV)) from ok a _ e);exact⟨o,its.toArray,n,h1,h2,h3,by simpa using iB r⟩
theorem lE {kvs:List (List Key×V)}(ok:HOk P w H h)(e:Rd H a (.dT kvs)):kvs.length<=sizeLine/\(a==sysModules)=false /\
  ∃xs,KT H kvs xs/\h.DictOfH (tupleKind (dQ P w)) a xs:=by
 obtain⟨z,y,xs,r,o,es,ep,h1,h2,h3,h4,h5⟩:=(show ObjOk P w H h a (.dT kvs) from rd_of ok e);refine⟨z,y,xs,r,o,es,ep,h1,h2,h3,h4,fun x hx=>?_,h5⟩
 have all:∀{l:List (List Key×V)} {m:List (List Key×Addr×Value)},KT H l m->∀x∈m,(tupleKind (dQ P w)).is h x.1 x.2.1:=by
  intro l m q
  induction q with
  |nil=>intro x hx; exact nomatch hx
  |@cons p q ps qs hq t ih =>
   intro x hx
   rcases List.mem_cons.mp hx with e | hx
   .subst e
    exact mY ok (by rw[<- hq.1]; exact hq.2.1)
   .exact ih x hx
 exact all r x hx
theorem dt_of {kvs:List (List Key×V)}(ok:HOk P w H h)(e:H a=some (.dT kvs)):kvs.length<=sizeLine/\(a==sysModules)=false /\
  ∃xs,KT H kvs xs/\h.DictOfH (tupleKind (dQ P w)) a xs:=lE ok (.inl e)
end
def DGet (H:Hp)(a:Addr)(y:V)(r:Option V):Prop :=
 (∃kvs k,Rd H a (.dK kvs)/\y=kV k/\r=gJ kvs k)\/∃kvs k b,Rd H a (.dT kvs)/\y=.ref b/\H b=some (.tup (k.map kV))/\r=gJ kvs k
def DPut (H:Hp)(a:Addr)(y v:V)(H':Hp):Prop :=
 (∃kvs k,H a=some (.dK kvs)/\y=kV k/\kvs.length < sizeLine/\H'=upd H a (.dK (pZ kvs k v))) \/
 ∃kvs k b,H a=some (.dT kvs)/\y=.ref b/\H b=some (.tup (k.map kV))/\kvs.length < sizeLine/\H'=upd H a (.dT (pZ kvs k v))
theorem DGet.t {H:Hp}{a b:Addr}{kvs:List (List Key×V)}{k:List Key}(e:H a=some (.dT kvs))(eb:H b=some (.tup (k.map kV))):DGet H a (.ref b) (gJ kvs k):=.inr ⟨kvs,k,b,.inl e,rfl,eb,rfl⟩
theorem DPut.k {H:Hp}{a:Addr}{kvs:List (Key×V)}{k:Key}{v:V}(e:H a=some (.dK kvs))(hl:kvs.length < sizeLine):DPut H a (kV k) v (upd H a (.dK (pZ kvs k v))):=.inl ⟨kvs,k,e,rfl,hl,rfl⟩
theorem DPut.t {H:Hp}{a b:Addr}{kvs:List (List Key×V)}{k:List Key}{v:V}(e:H a=some (.dT kvs))(eb:H b=some (.tup (k.map kV)))(hl:kvs.length < sizeLine):
  DPut H a (.ref b) v (upd H a (.dT (pZ kvs k v))):=.inr ⟨kvs,k,b,e,rfl,eb,hl,rfl⟩
section
variable {X:Cx}{pins:List (Addr×Obj)}{σ:St}{H:Hp}{s:Shared}{a:Addr}{y v:V}{u r:Value}{o:Option V}{A:Around}{E:Value->Shared->Prop}
theorem Inv.big (I:Inv X pins σ H s):sysModules < s.heap.objs.size:=by
 have h:mainGlobals < s.heap.objs.size:=(I.mod.glob.keeps I.bk).lt;exact Nat.lt_trans (by decide) h
theorem zS {Q:Value->Shared->Prop}(hu:A.units+1 < cLine)(I:Inv X pins σ H s)(g:DGet H a y (some v))(ry:RelV y u)(h:∀w' s',Inv X pins σ H s'->RelV v w'->Q w' s'):
  wpAny (model X.prog X.w) A (getItem (.ref a) u) Q E s:=by
 rcases g with ⟨kvs,k,e,ey,l⟩ | ⟨kvs,k,b,e,ey,eb,l⟩
 .subst ey
  obtain⟨z,hd,vs,rel,dd⟩:=lN I.hok e;obtain⟨w',hw,rw'⟩:=RelO.some_of (v:=v) (o:=valueAt vs k) (by rw[l]; exact rel.val k);exact wpAny_getItem_of (wN ry) dd.mapOf hw (h w' _ (I.tok _) rw')
 .subst ey
  cases (show u=Value.ref b from ry);obtain⟨z,hd,xs,rel,dd⟩:=lE I.hok e;obtain⟨w',hw,rw'⟩:=RelO.some_of (v:=v) (o:=(atKey xs k).map (·.2)) (by rw[l]; exact rel.val k);obtain⟨p,hp,hp2⟩:=Option.map_eq_some_iff.mp hw;refine wpAny_getItem_heap (tupleKind_room_in1 hu) (mY I.hok eb) dd hp ?_;rw[hp2];exact h w' _ (I.tok _) rw'
theorem bG {h':Heap}{t':Nat}{ob:HO}(I:Inv X pins σ H s)(mu:Mut (H a))(hs:Heap.SameBut a s.heap h')(he:∃q,h'.get? a=some q)(new:ObjOk X.prog X.w (upd H a ob) h' a ob):
  Inv X pins σ (upd H a ob) { s with heap:=h',toks:=t' } :=
 I.write (x:=a) (e:=a) mu (.inl rfl) (fun b q hb z=>(hs.2 b hb).trans z) he new
theorem nE {P:Program}{w:World}{H':Hp}{h':Heap}{kvs:List (Key×V)}{vs:List (Key×Value)}(z:kvs.length<=sizeLine)(hd:(a==sysModules)=false)(rel:KV kvs vs)(dd:h'.DictOf (dQ P w) a vs):
  ObjOk P w H' h' a (.dK kvs):=⟨z,hd,vs,rel,dd⟩
theorem qS {H':Hp}{Q:Unit->Shared->Prop}(hu:A.units+1 < cLine)(I:Inv X pins σ H s)(g:DPut H a y v H')(ry:RelV y u)(rv:RelV v r)(h:∀s',Inv X pins σ H' s'->Q () s'):
  wpAny (model X.prog X.w) A (setItem (.ref a) u r) Q E s:=by
 rcases g with ⟨kvs,k,e,ey,l,eH⟩ | ⟨kvs,k,b,e,ey,eb,l,eH⟩
 .subst ey eH
  obtain⟨z,hd,vs,rel,dd⟩:=dk_of I.hok e;have hz:vs.length<=sizeLine:=by rw[<- rel.length]; exact z
  have hl:(pZ kvs k v).length<=sizeLine:=by have:=mJ kvs k v; omega
  refine wpAny_setItem_pairs (hsz:=hz) (wN ry) dd fun h' dd' hs=>h _ ?_;have he:∃q,h'.get? a=some q:=let ⟨q,_,_,hq,_⟩:=dd'; ⟨q,hq⟩
  exact bG I (by rw[e]; exact True.intro) hs he (nE hl hd (rel.put k rv) dd')
 .subst ey eH
  cases (show u=Value.ref b from ry);obtain⟨z,hd,xs,rel,dd⟩:=dt_of I.hok e;have hz:xs.length<=sizeLine:=by rw[<- Paired.length rel]; exact z
  have hl:(pZ kvs k v).length<=sizeLine:=by have:=mJ kvs k v; omega
  refine wpAny_setItem_heap (hsz:=hz) (tupleKind_room_in1 hu) (mY I.hok eb) dd fun h' dd' hs=>h _ ?_;obtain⟨q,es,ep,hq,h2,h3,h4,_,h5⟩:=dd';refine bG I (by rw[e]; exact True.intro) hs ⟨q,hq⟩ ⟨hl,hd,_,(rel.put k eb rv).keeps fun c ys ec=>?_,q,es,ep,hq,h2,h3,h4,h5⟩;rw[nQ (ne_of ec e (fun z=>nomatch z))];exact ec
end
section
variable {X:Cx}{pins:List (Addr×Obj)}{σ:St}{H:Hp}{s:Shared}{a:Addr}{kvs:List (Key×V)}{k:Key}{u:Value}{A:Around}{E:Value->Shared->Prop}
theorem d_len {Q:Value->Shared->Prop}(I:Inv X pins σ H s)(e:Rd H a (.dK kvs))(h:∀t s',Inv X pins σ H s'->Q (.int kvs.length t) s'):wpAny (model X.prog X.w) A (call (.builtin "len") [.ref a]) Q E s:=by
 obtain⟨z,hd,vs,rel,dd⟩:=lN I.hok e;refine call_len_dict hd dd (by rw[<- rel.length]; rw[sizeLine_eq] at z; omega) ?_;rw[<- rel.length];exact h _ _ (I.tok _)
end
def sH (i:Expr):Prop:=∀ov iv,subscripted i false ov iv=operate [ov,iv] (getItem ov iv)
theorem zN {prog:Program}{w:World}{A:Around}{E:Value->Shared->Prop}{s:Shared}{env:Env}{value slice:Expr}{pos:Pos}{T id:String}{Q:Value->Shared->Prop}
  (hl:typeLookup (.type T) "__getitem__" = pure (some (.builtin id))) (hs:sH slice)
  (h:wpAny (model prog w) A (eval value env) (fun o s₁=>wpAny (model prog w) A (eval slice env) (fun i s₂=>s₂.TypeIs o T/\wpAny (model prog w) A (getItem o i) Q E s₂) E s₁) E s) :
  wpAny (model prog w) A (eval (.Subscript value slice pos) env) Q E s:=by
 refine Subscript_ (wpAny_mono h (fun o s₁ h₁=>wpAny_mono h₁ (fun i s₂ h₂=>?_) fun _ _ x=>x) fun _ _ x=>x);obtain⟨hT,h₂⟩:=h₂;unfold subscriptTail;refine wpAny_bind ?_;rw[getitemInPython_of_ne hT.not_modules];refine wpAny_bind (wpAny_specialOf hT hl ?_)
 have fin:wpAny (model prog w) A (subscripted slice false o i) (fun r s₃=>wpAny (model prog w) A (letTemporaryGo value o r >>= fun _=>pure r) Q E s₃) E s₂:=by
  rw[hs o i];exact wpAny_operating (wpAny_mono h₂ (fun r s₃ h₃=>wpAny_bind (wpAny_letTemporaryGo (wpAny_pure h₃))) fun _ _ x=>x)
 first
  |exact wpAny_pure (wpAny_bind fin)
  |exact wpAny_bind (wpAny_pure (wpAny_bind fin))
  |exact wpAny_bind fin
theorem cL {X:Cx}{pins:List (Addr×Obj)}{σ:St}{H:Hp}{s:Shared}{a:Addr}{y:V}{o:Option V}(I:Inv X pins σ H s)(g:DGet H a y o):s.TypeIs (.ref a) "dict":=by
 rcases g with ⟨kvs,k,e,_,_⟩ | ⟨kvs,k,b,e,_,_,_⟩
 .obtain ⟨_,_,vs,_,dd⟩:=lN I.hok e
  exact dd.typeIs
 .obtain ⟨_,_,xs,_,dd⟩:=lE I.hok e
  exact dd.typeIs
def tDGet (td ty:TE):TE:=fun σ H Q=>td σ H fun x H1=>ty σ H1 fun y H2=>∃a v,x=.ref a/\DGet H2 a y (some v)/\Q v H2
def sDPut (td ty tv:TE):TS:=fun D σ H=>tv σ H fun v H1=>td σ H1 fun x H2=>ty σ H2 fun y H3=>∃a H4,x=.ref a/\DPut H3 a y v H4/\D.nx σ H4
section
variable {X:Cx}{o i e value:Expr}{pos pos' tpos:Pos}{td ty tv:TE}
theorem pe_dget (hu:X.A.units+1 < cLine)(ho:PE X o td)(hi:PE X i ty)(hs:sH i):PE X (.Subscript o i pos) (tDGet td ty):=by
 intro pins s σ H Q I h;refine zN PySem.F.slot_dict_getitem.lookup hs (thn (ho pins s σ H _ I h) fun u s1 ⟨x,H1,I1,rx,q1⟩=>thn (hi pins s1 σ H1 _ I1 q1) fun iv s2 ⟨y,H2,I2,ry,a,v,ex,g,q2⟩=>?_);subst ex;obtain rfl:u=Value.ref a:=rx;exact⟨cL I2 g,zS hu I2 g ry fun w' s3 I3 rw'=>⟨v,H2,I3,rw',q2⟩⟩
theorem ps_dput (hu:X.A.units+1 < cLine)(ho:PE X o td)(hi:PE X i ty)(hv:PE X value tv)(hs:swapsWith value (some (.Subscript o i pos')) pos.line X.env=pure false):
  PS X (.Assign [.Subscript o i pos'] value pos) (sDPut td ty tv):=by
 intro pins s σ H D I h;refine wpAny_Assign_Subscript (thn (hv pins s σ H _ I h) fun r s1 ⟨v,H1,I1,rv,q1⟩=>thn (ho pins s1 σ H1 _ I1 q1) fun u s2 ⟨x,H2,I2,rx,q2⟩=>thn (hi pins s2 σ H2 _ I2 q2) fun iv s3 ⟨y,H3,I3,ry,a,H4,ex,g,q3⟩=>?_) hs;subst ex;obtain rfl:u=Value.ref a:=rx;exact qS hu I3 g ry rv fun s4 I4=>⟨σ,H4,I4,q3⟩
end
theorem sE {P:Program}{w:World}{H:Hp}(h:Heap)(hb:sysModules < h.objs.size):ObjOk P w H (h.push { cls:=.type "dict",data:=.dict #[] }) h.objs.size (.dK []) :=
 ⟨Nat.zero_le _,beq_eq_false_iff_ne.mpr (Ne.symm (Nat.ne_of_lt hb)),[],.nil,Heap.DictOf.new h⟩
theorem dL {P:Program}{w:World}{H:Hp}(h:Heap)(hb:sysModules < h.objs.size):ObjOk P w H (h.push { cls:=.type "dict",data:=.dict #[] }) h.objs.size (.dT []) :=
 ⟨Nat.zero_le _,beq_eq_false_iff_ne.mpr (Ne.symm (Nat.ne_of_lt hb)),[],.nil,_,#[],0,Heap.get?_push_size _ rfl,⟨rfl,rfl,rfl⟩,rfl,rfl,List.nodup_nil⟩
def aS:TE:=fun _ H Q=>∀p,H p=none->Q (.ref p) (upd H p (.dT []))
section
variable {X:Cx}{pos:Pos}
theorem aT:PE X (.Dict [] [] pos) aS:=fun pins s σ H Q I h =>
 wpAny_Dict_empty ⟨.ref s.heap.objs.size,_,I.laid (a:=s.heap.objs.size) (o:=.dT []) (t':=s.toks) (fun _ _ q=>Heap.get?_push_of_some _ q) (Nat.le_refl _) (dL s.heap I.big),rfl,h _ (I.hok.fresh (Nat.le_refl _))⟩
end
def dM:List (TE×TE)->St->Hp->(List (V×V)->Hp->Prop)->Prop
 |[],_,H,Q=>Q [] H
 | (tk,tv)::r,σ,H,Q=>tk σ H fun x H1=>tv σ H1 fun y H2=>dM r σ H2 fun ps H3=>Q ((x,y)::ps) H3
abbrev VV:List (V×V)->List (Value×Value)->Prop:=Paired fun p q=>RelV p.1 q.1/\RelV p.2 q.2
def PPs (X:Cx)(pos:Pos)(keys:List (Option Expr))(values:List Expr)(trs:List (TE×TE)):Prop :=
 ∀(pins:List (Addr×Obj)) (s:Shared) (σ:St) (H:Hp) (Q:List (V×V)->Hp->Prop),Inv X pins σ H s->dM trs σ H Q ->
  wpAny (model X.prog X.w) X.A (evalPairs (pairTrees keys values X.env pos)) (fun vs s'=>∃ps H',Inv X pins σ H' s'/\VV ps vs/\Q ps H') X.xe s
theorem pps_nil {X:Cx}{pos:Pos}:PPs X pos [] [] []:=fun pins s σ H Q I h=>pairTrees_nil_walk ⟨[],H,I,.nil,h⟩
theorem lT {X:Cx}{pos:Pos}{k v:Expr}{ks:List (Option Expr)}{vs:List Expr}{tk tv:TE}{trs:List (TE×TE)}(hk:PE X k tk)(hv:PE X v tv)(hr:PPs X pos ks vs trs):
  PPs X pos (some k::ks) (v::vs) ((tk,tv)::trs):=fun pins s σ H Q I h =>
 pairTrees_cons_walk (thn (hk pins s σ H _ I h) fun u s1 ⟨x,H1,I1,rx,q1⟩=>thn (hv pins s1 σ H1 _ I1 q1) fun w2 s2 ⟨y,H2,I2,ry,q2⟩ =>
  thn (hr pins s2 σ H2 _ I2 q2) fun ws s3 ⟨ps,H3,I3,rel,q3⟩=>⟨(x,y)::ps,H3,I3,.cons ⟨rx,ry⟩ rel,q3⟩)
def xV (kvs more:List (Key×V)):List (Key×V):=more.foldl (fun acc kv=>pZ acc kv.1 kv.2) kvs
theorem KV.merge:∀{more:List (Key×V)}{rs:List (Key×Value)}{kvs:List (Key×V)}{vs:List (Key×Value)},KV more rs->KV kvs vs->KV (xV kvs more) (merged vs rs):=by
 intro more rs kvs vs r;unfold KV at r
 induction r generalizing kvs vs with
 |nil=>intro q; exact q
 |@cons p q ps qs h t ih =>
  intro r0
  have e:KV (pZ kvs p.1 p.2) (stored vs q.1 q.2):=by
   have:=r0.put p.1 h.2;rw[<- h.1]; exact this
  exact ih e
theorem aV:∀(more kvs:List (Key×V)),(xV kvs more).length<=kvs.length+more.length
 |[],kvs=>by show kvs.length<=kvs.length+0; omega
 |p::r,kvs=>by
  have h1:=aV r (pZ kvs p.1 p.2);have h2:=mJ kvs p.1 p.2;show(xV (pZ kvs p.1 p.2) r).length<=_;rw[List.length_cons]; omega
theorem oU {P:Program}{w:World}:∀{kvs:List (Key×V)}{ws:List (Value×Value)},VV (kvs.map fun kv=>(kV kv.1,kv.2)) ws->∃rs,Carries (dQ P w) ws rs/\KV kvs rs
 |[],_,r=>by rw[List.map_nil] at r; cases r; exact⟨[],True.intro,.nil⟩
 |p::kvs,_,r=>by
  rw[List.map_cons] at r
  cases r with
  |@cons a b as bs h t =>
   obtain⟨rs,c,q⟩:=oU (P:=P) (w:=w) t;obtain⟨b1,b2⟩:=b;exact⟨(p.1,b2)::rs,⟨wN h.1,rfl,c⟩,.cons ⟨rfl,h.2⟩ q⟩
def tDisp (trs:List (TE×TE)):TE:=fun σ H Q=>∀p,H p=none->dM trs σ (upd H p (.dK [])) fun ps H2=>H2 p=some (.dK [])/\∃kvs:List (Key×V),ps=kvs.map (fun kv=>(kV kv.1,kv.2))/\kvs.length<=15/\Q (.ref p) (upd H2 p (.dK (xV [] kvs)))
theorem pe_disp {X:Cx}{pos:Pos}{keys:List (Option Expr)}{values:List Expr}{trs:List (TE×TE)}(h:PPs X pos keys values trs)(hall:keys.all (·.isSome)=true)(hl:keys.length=values.length)(h0:keys≠[])
  (h15:keys.length<=15):PE X (.Dict keys values pos) (tDisp trs):=by
 intro pins s σ H Q I q;have hn:=I.hok.fresh (Nat.le_refl s.heap.objs.size);have I1:=I.laid (a:=s.heap.objs.size) (o:=.dK []) (h':=s.heap.push { cls:=.type "dict",data:=.dict #[] }) (t':=s.toks) (fun _ _ q=>Heap.get?_push_of_some _ q) (Nat.le_refl _) (sE s.heap I.big);refine wpAny_Dict_walk (knd:=dQ X.prog X.w) hall hl h0 h15 (thn (h pins _ σ _ _ I1 (q _ hn)) fun ws s2 ⟨ps,H2,I2,rel,e,kvs,ep,lk,q2⟩=>?_)
 subst ep;obtain⟨rs,c,rk⟩:=oU (P:=X.prog) (w:=X.w) rel;obtain⟨z,hd,vs0,r0,dd⟩:=dk_of I2.hok e;cases r0;refine⟨rs,c,dd,fun h' dd' hs=>⟨.ref s.heap.objs.size,_,?_,rfl,q2⟩⟩
 have hz:(xV [] kvs).length<=sizeLine:=by
  have h1:=aV kvs [];rw[List.length_nil] at h1;rw[sizeLine_eq]; omega
 have he:∃q,h'.get? s.heap.objs.size=some q:=let ⟨q,_,_,hq,_⟩:=dd'; ⟨q,hq⟩
 exact bG I2 (by rw[e]; exact True.intro) hs he (nE hz hd (rk.merge .nil) dd')
end L2
namespace Att
open PySem PySem.W PySem.Calls PyProof.Rows
theorem kG {P:Params}{h:Heap}:∀(ns:List Int) (vs:List Value),WellAll P h vs (ns.map WData.int)->IntsAre vs ns:=by
 intro ns
 induction ns with
 |nil =>
  intro vs w;rw[List.map_nil] at w;cases w;exact .nil
 |cons n ns ih =>
  intro vs w;rw[List.map_cons] at w
  cases w with
  |cons a b =>
   cases a;exact .cons _ _ (ih _ b)
theorem rC {l:OpenLaw}{n:Nat}(hn:l.most=some n){P:Params}{h:Heap}{args:List WData}{vals:List Value}
  (hpre:l.row.toRowW.claim.pre args=true) (hwl:WellAll P h vals args) :
  ∃a vs ns,vals=[Value.ref a]/\args=[WData.list (ns.map WData.int)]/\h.get? a=some { cls:=.type "list",data:=.seq vs.toArray }/\IntsAre vs ns/\ns.length<=n:=by
 have hsh:WShape.hasAll [] args [.list .int]=true:=(pre_splitW hpre).1;have hc:l.pre.holds [] { args:=args }=true:=(pre_splitW hpre).2;obtain⟨d,r,rfl,h1,h2⟩:=hasAllW_cons hsh;obtain rfl:=hasAllW_nil h2;obtain⟨xs,rfl,h3⟩:=hasW_list h1;obtain⟨ns,rfl⟩:=items_int h3
 have hlen:ns.length<=n:=by
  unfold OpenLaw.pre at hc
  have h4:(WTm.not (.lt (.lit (.int (n:Int))) (.len (.arg 0)))).holds [] { args:=[.list (ns.map .int)] }=true:=by
   have h4:=(holds_andW hc).1;rw[hn] at h4;exact h4
  have h5:=condW_of h4 (w_not (w_lt w_lit (w_len_list (w_arg rfl))));rw[List.length_map] at h5;refine Nat.le_of_not_lt fun q=>?_;have q':(n:Int) < ((ns.length:Nat):Int):=by omega
  first
   | (rw[decide_eq_true q'] at h5; exact absurd h5 (by decide))
   | (simp at h5; omega)
 cases hwl with
 |cons w1 w2 =>
  cases w2
  cases w1 with
  |list ho hall=>exact⟨_,_,ns,rfl,rfl,ho,kG ns _ hall,hlen⟩
theorem jR (l:OpenLaw)(args:List WData):l.row.toRowW.claim.post args (.bool true) args=true :=
 postW_of (r:=l.row.toRowW) (X:=(true==true))
  (show WShape.has [] (.bool true) .bool=true by first | rfl | decide | simp[WShape.has,WShape.arms,WShape.armsAll])
  (show(WTm.eq .res (.lit (.bool true))).value [] { args:=args,res:=some (.bool true),after:=args }=some (.bool (true==true)) from w_eq_bool (w_res rfl) w_lit) rfl
theorem attach_call {l:OpenLaw}{n:Nat}{q:Program}{loose:List Str}{XP:(Str->Option Value)->Heap->Prop}{YP:World->Heap->Prop}{d:DefRec}
  (hn:l.most=some n) (hdf:d.params.defaults=[])
  (call:∀(w:World) (s₀ s₁:Shared) (mg mb:Str->Option Value) (fa:Addr) (o:Obj) (pm cd doc:Value) (a:Addr) (vs:List Value) (ns:List Int),
   Ground q loose [] XP w s₀ mg mb s₁.heap->YP w s₁.heap ->
   s₁.heap.get? fa=some o->o.data=.func (docDef d.name d.params d.body d.scope pm cd doc)->s₁.heap.CodeRec cd d.name->mg d.name=some (.ref fa) ->
   s₁.heap.get? a=some { cls:=.type "list",data:=.seq vs.toArray }->IntsAre vs ns->ns.length<=n->s₁.gens = #[] ->
   codeAny (model l.prog w) callerA (.call (.ref fa) ⟨[.ref a],[]⟩) (fun r s'=>r=.ok (.ret (.bool true))/\OldK s₁.heap s'.heap/\s'.os=s₁.os/\AllBare s'.gens) s₁) :
  WalkO q loose XP YP l.row.toRowW d [] (fun f vs=>PySem.call f vs):=by
 intro w s₀ s₁ mg mb G Y fa o pm cd doc dV kV ho hd hcd hD hmg hg args vals as hpre hlay hrd hwl hlo;obtain rfl:dV=.none:=Dflts.none hD hdf;obtain rfl:kV=.none:=Dflts.noKw hD;obtain⟨a,vs,ns,rfl,rfl,hobj,hints,hlen⟩:=rC hn hpre hwl;refine enter_call (codeAny_mono (call w s₀ s₁ mg mb fa o pm cd doc a vs ns G Y ho (fd_plain hd) hcd hmg hobj hints hlen hg) fun r s' hq=>?_);obtain⟨rfl,h2,h3,h4⟩:=hq
 exact⟨.inl ⟨.bool true,.bool true,[],rfl,fun _=>rfl,.bool true,jR l _,fun _=>⟨List.Pairwise.nil,fun _ hm=>(nomatch hm)⟩⟩,h2,h3,h4⟩
end Att
namespace L2
open PySem PySem.Spec PyProof.Rows
theorem bB:∀{vs:List Value}{ns:List Int},IntsAre vs ns->Vals (ns.map V.int) vs
 |_,_,.nil=>.nil
 |_,_,.cons n t h=>.cons ⟨t,rfl⟩ (bB h)
def Only (H:Hp):Prop:=∀b,H b=none\/∃o xs,H b=some (.frz o (.lst xs))
theorem rO {P:Program}{w:World}{K:PySem.W.Frag}{mg mb:Str->Option Value}{CX:CXT}{k:Nat}{fa a:Addr}{fd:FuncData}{x:Str}{sp:Sp}{s₁:Shared}{vs:List Value}{ns:List Int}
  (KX:K.In s₁.heap) (hns:s₁.heap.Ns mainGlobals mg) (hb:s₁.heap.Ns builtinsNs mb) (hbb:∀x:Str,x ≠ "__name__"->mb x=bootBuiltins x) (hlim:s₁.heap.NoLimit) (hg:s₁.gens = #[])
  (ha:s₁.heap.get? a=some { cls:=.type "list",data:=.seq vs.toArray }) (hi:IntsAre vs ns) (hl:ns.length<=sizeLine) (hr:Room k callerA)
  (F:∀base:Heap,K.In base->base.Ns mainGlobals mg->FnOk P w K mg base CX k fa fd [x] sp) (hbind:∀(s:Shared) (u:Value),BindsTo s fd ⟨[u],[]⟩ [(x,u)])
  (hsp:∀H:Hp,Only H->SqL K H a (ns.map V.int)->sp [.ref a] H (fun v _=>v=.bl true) fun _ _ _=>False)
  (hCX:∀H e s',CX [] H s₁ (fun _ _ _=>False) e s'->False) :
  codeAny (model P w) callerA (.call (.ref fa) ⟨[.ref a],[]⟩) (fun r s'=>r=.ok (.ret (.bool true))/\OldK s₁.heap s'.heap/\s'.os=s₁.os/\AllBare s'.gens) s₁:=by
 have rv:=bB hi;have lenV:=hi.length
 have core:∀H:Hp,Only H->SqL K H a (ns.map V.int)->HOk P w H s₁.heap->(∀b,H b≠none->b=a)->(H a≠none->K.lookup a=none) ->
   codeAny (model P w) callerA (.call (.ref fa) ⟨[.ref a],[]⟩) (fun r s'=>r=.ok (.ret (.bool true))/\OldK s₁.heap s'.heap/\s'.os=s₁.os/\AllBare s'.gens) s₁:=by
  intro H hO hS hok hA hK;have base_of:∀{b:Addr} {o:Obj},s₁.heap.get? b=some o->H b=none->(zF s₁.heap H).get? b=some o:=fun e n=>yE e n
  have noA:∀{b:Addr} {o:Obj} {es:Array DictEntry} {ep:Nat},s₁.heap.get? b=some o->o.data=.dict es ep->H b=none:=fun {b o es ep} e d=>by
   cases q:H b with
   |none=>rfl
   |some u =>
    have e':b=a:=hA b (by rw[q]; simp);subst e';rw[ha] at e; cases e
    have d':Data.seq vs.toArray _=Data.dict es ep:=d;cases d'
  have nsK:∀{b:Addr} {m:Str->Option Value},s₁.heap.Ns b m->(zF s₁.heap H).Ns b m:=fun {b m} ⟨o,es,ep,e,d,r⟩=>⟨o,es,ep,base_of e (noA e d),d,r⟩
  have hKb:K.In (zF s₁.heap H):=fun b o e=>base_of (KX b o e) (by
   cases q:H b with
   |none=>rfl
   |some u =>
    have e':b=a:=hA b (by rw[q]; simp);subst e'
    rw[hK (by rw[q]; simp)] at e; cases e)
  have hM:Mod K mg (zF s₁.heap H):=⟨hKb,nsK hns,⟨mb,nsK hb,hbb⟩,let ⟨mc,h1,h2⟩:=hlim; ⟨mc,nsK h1,h2⟩⟩;have e0:Env0 P w K mg (zF s₁.heap H) callerA [] s₁ H:=⟨rfl,hM,fun b o e=>of_hidT e,Nat.le_of_eq (eR _ _),trivial,fun b hb=>absurd (show b∈([]:List Addr) from hb) (by simp),hok,.of_eq hg⟩;refine codeAny_mono ((F _ hKb (nsK hns)).run callerA [] s₁ H ⟨[.ref a],[]⟩ [.ref a] [.ref a] _ _ hr e0 (hbind s₁ (.ref a)) (.cons rfl .nil) (hsp H hO hS)) fun r s' h=>?_
  cases r with
  |error e=>exact(hCX H e s' h).elim
  |ok fl =>
   cases fl with
   |next=>exact False.elim h
   |brk=>exact False.elim h
   |cont=>exact False.elim h
   |ret u =>
    obtain⟨v,H',os,bare,un,hok',r',q⟩:=h;have q':v=.bl true:=q;subst q';obtain rfl:u=Value.bool true:=r';refine⟨rfl,OldK.of_keep fun b o e=>?_,os,bare⟩
    cases q:H b with
    |none=>exact un.keep b o e q (by intro z; exact absurd (show b∈([]:List Addr) from z) (by simp)) (by simp)
    |some u =>
     rcases hO b with z | ⟨ob,xs,z⟩
     .rw [q] at z; cases z
     .have z2:=un.frzs b ob _ z
      obtain⟨e1,_⟩:=hok b _ z;obtain⟨e2,_⟩:=hok' b _ z2;rw[e] at e1; cases e1
      exact e2
 cases hk:K.lookup a with
 |some o =>
  have e:=KX a o hk;rw[ha] at e;cases e;refine core (fun _=>none) (fun _=>.inl rfl) (.inr ⟨_,vs.toArray,_,hk,rfl,rfl,rfl,by rw[List.size_toArray,lenV]; exact hl,by simpa using rv⟩) (fun b u z=>by have z':(none:Option HO)=some u:=z; cases z') (fun b z=>absurd rfl z) fun z=>absurd rfl z
 |none =>
  refine core (fun b=>if b=a then some (.frz { cls:=.type "list",data:=.seq vs.toArray } (.lst (ns.map V.int))) else none) (fun b=>?_) (.inl (.inr ⟨{ cls:=.type "list",data:=.seq vs.toArray },if_pos rfl⟩)) (fun b u z=>?_) (fun b z=>?_) fun _=>hk
  .by_cases hb:b=a
   .exact .inr ⟨_,_,if_pos hb⟩
   .exact .inl (if_neg hb)
  .by_cases hb:b=a
   .have z':=(if_pos hb).symm.trans z
    cases z';subst hb;exact⟨ha,by rw[List.length_map]; exact hl,vs,_,rv,ha⟩
   .have z':=(if_neg hb).symm.trans z
    cases z'
  .by_cases hb:b=a
   .exact hb
   .exact absurd (if_neg hb) z
theorem walk_of {l:PySem.W.OpenLaw}{n k:Nat}{q:Program}{loose:List Str}{XP:(Str->Option Value)->Heap->Prop}{YP:World->Heap->Prop}{d:DefRec}{K:Params->PySem.W.Frag}{CX:World->CXT}{sp:World->Sp}{x:Str}
  (hn:l.most=some n) (hn2:n<=sizeLine) (hdf:d.params.defaults=[]) (hr:Room k callerA)
  (hY:∀(w:World) (h:Heap),YP w h->(K w.params).In h)
  (F:∀(w:World) (mg:Str->Option Value) (fa:Addr) (h:Heap),(K w.params).In h->h.Ns mainGlobals mg->mg d.name=some (.ref fa) ->
   ∃fd:FuncData,(∀(s:Shared) (u:Value),BindsTo s fd ⟨[u],[]⟩ [(x,u)]) /\
    ∀base:Heap,(K w.params).In base->base.Ns mainGlobals mg->FnOk l.prog w (K w.params) mg base (CX w) k fa fd [x] (sp w))
  (hsp:∀(w:World) (H:Hp) (a:Addr) (ns:List Int),ns.length<=n->Only H->SqL (K w.params) H a (ns.map V.int)->sp w [.ref a] H (fun v _=>v=.bl true) fun _ _ _=>False)
  (hCX:∀(w:World) (H:Hp) (s:Shared) (e:Value) (s':Shared),CX w [] H s (fun _ _ _=>False) e s'->False) :
  PySem.W.WalkO q loose XP YP l.row.toRowW d [] (fun f vs=>PySem.call f vs):=by
 refine Att.attach_call hn hdf fun w s₀ s₁ mg mb fa o pm cd doc a vs ns G Y ho hd hcd hmg hobj hints hlen hg=>?_;have KX:=hY w _ Y;obtain⟨fd,hb,hF⟩:=F w mg fa _ KX G.T.g hmg;exact rO KX G.T.g G.T.b G.T.builtins G.T.nolimit hg hobj hints (Nat.le_trans hlen hn2) hr hF hb (fun H hO hS=>hsp w H a ns hlen hO hS) fun H e s'=>hCX w H s₁ e s'
def pJ (s:Stmt):Arguments:=match s with
 |.FunctionDef _ a _ _ _ _ _ _ _ _=>a
 |_=>{ posonlyargs:=[],args:=[],vararg:=none,kwonlyargs:=[],kw_defaults:=[],kwarg:=none,defaults:=[] }
def mZ (s:Stmt):List Stmt:=match s with
 |.FunctionDef _ _ b _ _ _ _ _ _ _=>b
 |_=>[]
def lQ (s:Stmt):Scope:=match s with
 |.FunctionDef _ _ _ _ _ _ sc _ _ _=>sc
 |_=>{ kind:=.function,names:=[],isGenerator:=false,isCoroutine:=false }
abbrev CX0:CXT:=fun _ _ _ _ _ _=>False
abbrev E0:XK:=fun _ _ _=>False
theorem pass0 {X:Cx}:sY CX0 X E0:=fun _ _ _ _ _ _ _ h=>h.elim
structure Fun (K:PySem.W.Frag)(x qual:Str)(st:Stmt)(f:Addr)(fd:FuncData):Prop where
 ex:∃(oc:Value) (od:Option Addr) (kV doc pm:Value) (an:Option Addr) (cdv ct:Value) (osl:Array (Option Value)),
  fd=PySem.W.fnOf x qual (pJ st) (mZ st) (lQ st) .none kV doc pm an cdv ct/\K.lookup f=some ⟨oc,od,.func fd,osl⟩/\PySem.W.codeIn K cdv qual=true
 kp:PySem.W.keepIn K (.ref f)=true
section
variable {P:Program}{w:World}{K:PySem.W.Frag}{mg:Str->Option Value}{base:Heap}
theorem Fun.ok {x qual:Str}{st:Stmt}{f:Addr}{fd:FuncData}{N ps:List Str}{k:Nat}{sp:Sp}(F:Fun K x qual st f fd)(S:FnScope N ps (lQ st))(len:∀vs H Q E,sp vs H Q E->vs.length=ps.length)
  (hbody:∀(cdv:Value) (A:Around) (outer:List Env) (s:Shared) (H:Hp) (vs:List V) (Q:VK) (E:XK),Room k (A.deeper (envOfC qual (lQ st) s.heap.objs.size f cdv))->sp vs H Q E ->
   ∃t,PSs (vF CX0 P w K mg base N qual (lQ st) f cdv A outer s H E).nox (mZ st) t/\t { nx:=fun _ H'=>Q .non H',rt:=Q } (start N vs) H):FnOk P w K mg base CX0 (k+1) f fd ps sp:=by
 obtain⟨oc,od,kV,doc,pm,an,cdv,ct,osl,rfl,lk,hcd⟩:=F.ex;refine fn_of lk hcd S len fun A outer s H vs Q E hr hsp=>?_;obtain⟨t,h,q⟩:=hbody cdv A outer s H vs Q E hr hsp;exact⟨t,h.nox,q⟩
theorem Fun.binds {x qual:Str}{st:Stmt}{f:Addr}{fd:FuncData}{ps:List Str}(F:Fun K x qual st f fd)
  (h:∀(kV doc pm:Value) (an:Option Addr) (cdv ct:Value) (us:List Value),us.length=ps.length->bindArgs (PySem.W.fnOf x qual (pJ st) (mZ st) (lQ st) .none kV doc pm an cdv ct) ⟨us,[]⟩=pure (ps.zip us)):Binds K fd ps []:=by
 obtain⟨oc,od,kV,doc,pm,an,cdv,ct,osl,rfl,lk,hcd⟩:=F.ex;exact .all (h kV doc pm an cdv ct)
theorem xF {x qual:Str}{st:Stmt}{f:Addr}{oc:Value}{od an:Option Addr}{osl:Array (Option Value)}{kV doc pm cdv ct:Value}(l:K.lookup f=some ⟨oc,od,.func (PySem.W.fnOf x qual (pJ st) (mZ st) (lQ st) .none kV doc pm an cdv ct),osl⟩)
  (c:PySem.W.codeIn K cdv qual=true) (k:PySem.W.keepIn K (.ref f)=true):Fun K x qual st f (PySem.W.fnOf x qual (pJ st) (mZ st) (lQ st) .none kV doc pm an cdv ct):=⟨⟨oc,od,kV,doc,pm,an,cdv,ct,osl,rfl,l,c⟩,k⟩
end
theorem kX {A:Around}{k:Nat}(hr:Room k A):A.units+1 < cLine:=Nat.lt_of_le_of_lt (Nat.add_le_add_left (by decide:1<=64) _) hr.units
section
variable {X:Cx}
theorem pv (i:Nat){x:Str}{pos:Pos}(hN:X.N[i]?=some x:=by rfl)(hv:Vis X.env.scope x:=by first | exact Or.inl rfl | exact Or.inr (Or.inl rfl) | exact Or.inr (Or.inr rfl))(hd:(x==("__debug__" : Str))=false:=by decide)
  (hcd:(x==("__classdict__" : Str))=false:=by decide):PE X (.Name x pos) (tVar i):=tT hN hv hd hcd
end
def Same (H H':Hp):Prop:=∀b o,H b=some o->H' b=some o
theorem Same.refl (H:Hp):Same H H:=fun _ _ h=>h
section
variable {X:Cx}
theorem wS:CallR X (.builtin "len") (fun xs H Q=>∃a kvs,xs=[V.ref a]/\H a=some (.dK kvs)/\Q (.int kvs.length) H):=by
 intro pins s σ H xs us Q I r h;obtain⟨a,kvs,rfl,ha,q⟩:=h;obtain⟨u,rfl,ru⟩:=tY r;cases ru;exact d_len I (.inl ha) fun t s' I'=>⟨.int kvs.length,H,I',⟨t,rfl⟩,q⟩
end
def cQ:Expr->Bool
 |.Starred _ _=>false
 |_=>true
theorem jZ {e:Expr}{es:List Expr}{env:Env}(h:cQ e=true):starEach (e::es) env=(false,eval e env)::starEach es env:=by
 cases e<;>first | rfl | exact absurd h Bool.false_ne_true
theorem eJ {pos:Pos}{env:Env}:∀{es:List Expr},es.all cQ=true->(backTo pos (starEach es env)).any (·.1)=false
 |[],_=>rfl
 |e::es,h=>by
  rw[List.all_cons,Bool.and_eq_true] at h;rw[jZ h.1];show(false || (backTo pos (starEach es env)).any (·.1))=false;rw[eJ h.2]
  rfl
section
variable {X:Cx}{e:Expr}{es:List Expr}{te:TE}{t:TA}{x:Str}{p pos:Pos}
theorem qa_cons (ha:PE X e te)(hr:PA X es t)(hs:cQ e=true:=by rfl):PA X (e::es) (iS te t):=pa_cons ha hr (jZ hs)
theorem qe_call {CX:CXT}{k:Nat}{f:Addr}{fd:FuncData}{ps:List Str}{sp:Sp}{dvs:List V}{ds:List Value}{E:XK}(F:FnOk X.prog X.w X.K X.mg X.base CX k f fd ps sp)(hr:Room k X.A)(hg:Gl X x)(hm:X.mg x=some (.ref f))(hk:PySem.W.keepIn X.K (.ref f)=true)(hb:Binds X.K fd ps ds)(hd:Vals dvs ds)(hx:sY CX X E)
  (ha:PA X (e::es) t) (hdb:(x==("__debug__" : Str))=false:=by decide) (hs:cQ e=true:=by rfl) (hall:es.all cQ=true:=by rfl):PE X (.Call (.Name x p) (e::es) [] pos) (zT sp dvs E t) :=
 pe_call F hr hg hm hk hb hd hx ha hdb (jZ hs) (eJ hall)
theorem bT {id:String}{r:List V->Hp->VK->Prop}(hc:CallR X (.builtin id) r)(hg:Gl X x)(hm:X.mg x=none)(hv:bootBuiltins x=some (.builtin id))(ha:PA X (e::es) t)(hn:x ≠ "__name__":=by decide)(hdb:(x==("__debug__" : Str))=false:=by decide)
  (hs:cQ e=true:=by rfl) (hall:es.all cQ=true:=by rfl):PE X (.Call (.Name x p) (e::es) [] pos) (tCB r t):=zO hc hg hm hv ha hn hdb (jZ hs) (eJ hall)
theorem iC {T:String}{r:List V->Hp->VK->Prop}(hc:CallR X (.type T) r)(hg:Gl X x)(hm:X.mg x=none)(hv:bootBuiltins x=some (.type T))(ha:PA X (e::es) t)(hn:x ≠ "__name__":=by decide)(hdb:(x==("__debug__" : Str))=false:=by decide)
  (hs:cQ e=true:=by rfl) (hall:es.all cQ=true:=by rfl):PE X (.Call (.Name x p) (e::es) [] pos) (tCB r t):=vR hc hg hm hv ha hn hdb (jZ hs) (eJ hall)
end
section
variable {prog:Program}{w:World}{A:Around}{R:Result->Shared->Prop}{s:Shared}
theorem mF {elt target iter:Expr}{ifs:List Expr}{scope:Scope}{pos:Pos}{it acc:Value}{env:Env}(I:Nat->Shared->Prop)
  (turn:∀n s,I n s->wpAny (model prog w) A (pyNext it) (fun r s₁=>match r with
   |none=>R (.ok .next) s₁
   |some v=>wpAny (model prog w) A (letOwnedTupleGo target it v) (fun _ s₁=>wpAny (model prog w) A (assign target env v) (fun _ s₂ =>
     wpAny (model prog w) A (forIn ifs true fun c r=>if r=true then do let ok <- isTrue c env (eval c env); pure (ForInStep.yield ok) else pure (ForInStep.yield r)) (fun ok s₃ =>
      if ok=true then wpAny (model prog w) A (eval elt env) (fun x s₄ =>
       wpAny (model prog w) A (call (.builtin "list.append") [acc,x]) (fun _ s₅=>∃m,m < n/\I m s₅) (fun _ _=>False) s₄) (fun _ _=>False) s₃
      else ∃m,m < n/\I m s₃) (fun _ _=>False) s₂) (fun _ _=>False) s₁) (fun _ _=>False) s₁) (fun _ _=>False) s)
  (n:Nat) (h:I n s) :
  codeAny (model prog w) A (.compLoop (.ListComp elt [⟨target,iter,ifs,0⟩] scope pos) 0 it acc env) R s:=by
 refine codeAny_loop rfl I (fun n s hI=>?_) n h;show wpAny _ A ((compTurn (.ListComp elt [⟨target,iter,ifs,0⟩] scope pos) 0 it acc env).onRaise (fun x=>do noteFrame x env; theTreesLotGoes x)) _ _ s;refine wpAny_noted ?_;rw[compTurn_list];refine wpAny_bind (wpAny_standAt (wpAny_bind (wpAny_mono (turn n s hI) (fun r s₁ h₁=>?_) fun _ _ h'=>False.elim h')))
 cases r with
 |none=>exact wpAny_pure h₁
 |some v =>
  refine wpAny_bind (wpAny_mono h₁ (fun _ s₁' h₁'=>?_) fun _ _ h'=>False.elim h');refine wpAny_bind (wpAny_mono h₁' (fun _ s₂ h₂=>wpAny_bind (wpAny_mono h₂ (fun ok s₃ h₃=>?_) fun _ _ h'=>False.elim h')) fun _ _ h'=>False.elim h')
  cases ok with
  |false=>exact wpAny_pure ⟨rfl,h₃⟩
  |true =>
   exact wpAny_bind (wpAny_bind (wpAny_mono h₃ (fun x s₄ h₄=>wpAny_bind (wpAny_mono h₄ (fun _ s₅ h₅=>wpAny_pure (wpAny_pure ⟨rfl,h₅⟩)) fun _ _ h'=>False.elim h')) fun _ _ h'=>False.elim h'))
end
theorem xZ {env:Env}:∀{names:List (Str×NameKind)}{y:Str}{k:NameKind},
  (names.map fun(n,k)=>if (k==NameKind.free&&env.scope.kind==.function&&env.kindOf n==some .cell) then (n,NameKind.cell) else (n,k)).lookup y=some k ->
   ∃k0,(y,k0)∈names/\(k=k0\/(k0=.free/\k=.cell))
 |[],_,_,h=>by simp at h
 | (n,k1)::r,y,k,h=>by
  have ih:=@xZ env r y k;have h:List.lookup y ((if (k1==NameKind.free&&env.scope.kind==.function&&env.kindOf n==some .cell)=true then (n,NameKind.cell) else (n,k1))::_)=some k:=h
  cases hx:y==n with
  |true =>
   have e:y=n:=by simpa using hx
   subst e
   by_cases hc:(k1==NameKind.free&&env.scope.kind==.function&&env.kindOf y==some .cell)=true
   .rw [if_pos hc] at h
    simp only[List.lookup_cons,beq_self_eq_true] at h
    have hk:k1=.free:=by
     rw[Bool.and_eq_true,Bool.and_eq_true] at hc;exact beq_iff_eq.mp hc.1.1
    exact⟨k1,List.mem_cons_self,.inr ⟨hk,(Option.some.inj h).symm⟩⟩
   .rw [if_neg hc] at h
    simp only[List.lookup_cons,beq_self_eq_true] at h
    exact⟨k1,List.mem_cons_self,.inl (Option.some.inj h).symm⟩
  |false =>
   have h2:(r.map fun(n,k)=>if (k==NameKind.free&&env.scope.kind==.function&&env.kindOf n==some .cell) then (n,NameKind.cell) else (n,k)).lookup y=some k:=by
    by_cases hc:(k1==NameKind.free&&env.scope.kind==.function&&env.kindOf n==some .cell)=true
    .rw [if_pos hc] at h; simp only[List.lookup_cons,hx] at h; exact h
    .rw [if_neg hc] at h; simp only[List.lookup_cons,hx] at h; exact h
   obtain⟨k0,m,q⟩:=ih h2;exact⟨k0,List.mem_cons_of_mem _ m,q⟩
def fS (X:Cx)(ifs:List Expr)(t:TT):Prop :=
 ∀(pins:List (Addr×Obj)) (s:Shared) (σ:St) (H:Hp) (Q:Bool->Hp->Prop),Inv X pins σ H s->t σ H Q ->
  wpAny (model X.prog X.w) X.A (forIn ifs true fun c r=>if r=true then do let ok <- isTrue c X.env (eval c X.env); pure (ForInStep.yield ok) else pure (ForInStep.yield r)) (TP X pins σ Q) X.xe s
def tYes:TT:=fun _ H Q=>Q true H
theorem sT {X:Cx}:fS X [] tYes:=fun _ _ _ H _ I h=>wpAny_tests_nil ⟨H,I,h⟩
theorem nT {X:Cx}{c:Expr}{t:TT}(h:PT X c t):fS X [c] t:=fun pins s σ H Q I hw=>wpAny_tests_one (h pins s σ H Q I hw)
def cxN (X:Cx)(xs:List Str)(scope:Scope)(cl:List (Str×Addr))(fp:List Addr)(C:Addr)(s₂:Shared)(H₂:Hp):Cx where
 prog:=X.prog
 w:=X.w
 K:=X.K
 mg:=X.mg
 base:=X.base
 A:=X.A
 N:=xs++X.N
 s₀:=s₂
 H₀:=H₂
 env:=compEnvC scope cl C X.env
 outer:=X.stack
 stack:=X.stack
 ex:=fp
 fn:=fun _=>false
 calm:=X.calm
 pn:=[]
 xe:=fun _ _=>False
abbrev sJ (X:Cx)(x:Str):=cxN X [x]
def qN (wi:TI)(tc:TT)(te:TE):TE:=fun σ H Q=>wi σ H fun J H1=>∀D,H1 D=none->∃W:Nat->Nat->List V->Hp->Prop,(∃m,W 0 m [] (upd H1 D (.lst [])))/\∀i m ys H,W i m ys H ->
 (J.stop i H/\Q (.ref D) H)\/(J.go i H/\∀x H',J.yld i H x H'->tc (some x::σ) H' fun b H2 =>
  if b=true then te (some x::σ) H2 fun y H3=>H3 D=some (.lst ys)/\ys.length < sizeLine/\∃m',m' < m/\W (i+1) m' (ys++[y]) (upd H3 D (.lst (ys++[y])))
  else ∃m',m' < m/\W (i+1) m' ys H2)
section
variable {X:Cx}
structure zJ (X:Cx)(xs:List Str)(scope:Scope)(cl:List (Str×Addr)):Prop where
 clos:closureFor scope X.env=pure cl
 cell:∀y∈scope.names,y.2≠.cell
 kind:scope.kind=.function
 names:∀y∈scope.names,y.2=.local->scope.names.lookup y.1=some .local
 hx:∀x∈xs,scope.names.lookup x=some .local
 loc:∀y∈scope.names,y.2=.local->y.1∉X.N
 free:∀y∈scope.names,y.2=.free->X.env.kindOf y.1≠some .local/\(X.env.kindOf y.1=some .cell\/X.env.kindOf y.1=some .free)/\∃c,cl.lookup y.1=some c
 cl:∀y c,cl.lookup y=some c->X.env.cells.lookup y=some c
abbrev qB (X:Cx)(x:Str):=zJ X [x]
theorem jG {elt iter tg:Expr}{xs:List Str}{pos:Pos}{ifs:List Expr}{scope:Scope}{cl:List (Str×Addr)}{tc:TT}{te:TE}{g:TG}{Tk:V->Hp->List V->Prop}{RR:Value->Addr->Result->Shared->Prop}{EE:Value->Shared->Prop}
  (hc:X.calm=true) (K:zJ X xs scope cl) (hg:∀fp C s₂ H₂,PG (cxN X xs scope cl fp C s₂ H₂) tg g)
  (ht:∀fp C s₂ H₂,fS (cxN X xs scope cl fp C s₂ H₂) ifs tc) (he:∀fp C s₂ H₂,PE (cxN X xs scope cl fp C s₂ H₂) elt te)
  {pins:List (Addr×Obj)} {σ:St} {s₂:Shared} {H₂:Hp} {it:Addr} {fp:List Addr} {tn:Nat->Heap->Prop} {J:It} {Q:VK}
  (hG:∀ws vs x H Q,ws.length=xs.length->Tk x H vs->vs.length=xs.length->Q (vs.map some++σ) H->g x (ws++σ) H Q) (I₂:Inv X pins σ H₂ s₂) (T:rA X.prog X.w X.K tg J fp it tn) (st₂:tn 0 s₂.heap) (f₂:∀b∈fp,yP X pins H₂ b)
  (R:∀D,H₂ D=none->∃W:Nat->Nat->List V->Hp->Prop,(∃m,W 0 m [] (upd H₂ D (.lst [])))/\∀i m ys H,W i m ys H ->
   (J.stop i H/\Q (.ref D) H)\/(J.go i H/\∀x H',J.yld i H x H'->∃vs,Tk x H' vs/\vs.length=xs.length/\tc (vs.map some++σ) H' fun b H2 =>
    if b=true then te (vs.map some++σ) H2 fun y H3=>H3 D=some (.lst ys)/\ys.length < sizeLine/\∃m',m' < m/\W (i+1) m' (ys++[y]) (upd H3 D (.lst (ys++[y])))
    else ∃m',m' < m/\W (i+1) m' ys H2))
  (hRR:∀(D C:Addr) (H:Hp) (s4:Shared) (m:Str->Option Value),s4.heap.Ns C m->C≠X.env.locals->H C=none->(∀x c,X.env.cells.lookup x=some c->c≠C)->s₂.heap.objs.size<=C->Inv X pins σ H s4 ->
   Q (.ref D) H->RR (.ref D) C (.ok .next) s4) :
  wpAny (model X.prog X.w) X.A (newList []) (fun acc s₃=>wpAny (model X.prog X.w) X.A (newFunctionEnv scope X.env.globals cl [] X.env.qual none .none (some X.env)) (fun cenv s₄ =>
   codeAny (model X.prog X.w) X.A (.compStart (.ListComp elt [⟨tg,iter,ifs,0⟩] scope pos) 0 (.ref it) acc { cenv with scope:=relabel scope X.env }) (RR acc cenv.locals) s₄) EE s₃) EE s₂:=by
 refine wpAny_newObj_type (wpAny_newFunctionEnv K.cell (by intro y hy; simp at hy) (fun h₁ hns₁ hsb₁=>?_) K.kind);dsimp only at hns₁ hsb₁ ⊢;generalize hH2:s₂.heap.push { cls:=.type "list",dict:=none,data:=.seq ([]:List Value).toArray }=H2 at hns₁ hsb₁ ⊢;have hC:H2.objs.size=s₂.heap.objs.size+1:=by rw[<- hH2,Heap.size_push]
 have hDC:s₂.heap.objs.size≠H2.objs.size:=by rw[hC]; exact Nat.ne_of_lt (Nat.lt_succ_self _)
 have below:∀b,b < s₂.heap.objs.size->b≠H2.objs.size/\b≠s₂.heap.objs.size:=fun b hb=>⟨by rw[hC]; exact Nat.ne_of_lt (Nat.lt_succ_of_lt hb),Nat.ne_of_lt hb⟩;have old:∀b o,s₂.heap.get? b=some o->h₁.get? b=some o:=fun b o e=>hsb₁.extBut b o (below b (Heap.lt_size e)).1 (Heap.get?_push_of_some _ (hH2▸Heap.get?_push_of_some _ e));have hacc:h₁.get? s₂.heap.objs.size=some { cls:=.type "list",dict:=none,data:=.seq ([]:List Value).toArray }:=hsb₁.extBut _ _ hDC (Heap.get?_push_of_some _ (hH2▸Heap.get?_push_size _ rfl))
 have fD:H₂ s₂.heap.objs.size=none:=I₂.hok.fresh (Nat.le_refl _);have fC:H₂ H2.objs.size=none:=I₂.hok.fresh (by rw[hC]; exact Nat.le_succ _);have fpLt:∀b∈fp,b < s₂.heap.objs.size:=fun b hb=>let ⟨o,e,_⟩:=T.obj _ _ st₂ b hb; Heap.lt_size e
 obtain⟨W,⟨m0,w0⟩,turn⟩:=R s₂.heap.objs.size fD
 have okX:(cxN X xs scope cl fp H2.objs.size s₂ H₂).Ok:=by
  refine⟨I₂.ok.mod,K.kind,I₂.ok.glob,I₂.ok.blt,?_,fun y z c h1 h2=>I₂.ok.inj y z c (K.cl y c h1) (K.cl z c h2),fun y hy=>?_,fun y c h _=>?_,I₂.ok.hd,I₂.ok.frames,.inl rfl,fun b hb=>⟨(below b (fpLt b hb)).1,fun y c h=>(f₂ b hb).2.2.2.2.1 y c (K.cl y c h)⟩,I₂.bs,
   Nat.le_trans I₂.ok.bsz I₂.sz,fun b o e hb=>?_,fun b hb z=>?_,I₂.stack,I₂.stkFree⟩
  .show s₂.heap.objs.size<=H2.objs.size
   rw[hC]; exact Nat.le_succ _
  .have hy':(scope.names.map fun(n,k)=>if (k==NameKind.free&&X.env.scope.kind==.function&&X.env.kindOf n==some .cell) then (n,NameKind.cell) else (n,k)).lookup y=some .cell \/
     (scope.names.map fun(n,k)=>if (k==NameKind.free&&X.env.scope.kind==.function&&X.env.kindOf n==some .cell) then (n,NameKind.cell) else (n,k)).lookup y=some .free:=hy
   have fr:(y,NameKind.free)∈scope.names:=by
    rcases hy' with q | q
    .obtain ⟨k0,hm,z | ⟨z,_⟩⟩:=xZ q
     .subst z; exact absurd rfl (K.cell _ hm)
     .subst z; exact hm
    .obtain ⟨k0,hm,z | ⟨z,w⟩⟩:=xZ q
     .subst z; exact hm
     .cases w
   exact(K.free _ fr rfl).2.2
  .exact absurd (show false=true from h) Bool.false_ne_true
  .obtain ⟨_,_,_,f3,_⟩:=f₂ b hb
   rcases f3 with z | z
   .exact I₂.ok.noex b o e z
   .exact absurd (Nat.lt_of_lt_of_le (Heap.lt_size (I₂.ok.bs b o e).1) z) (Nat.lt_irrefl _)
  .obtain ⟨_,f1,f2',_⟩:=f₂ b hb
   rcases List.mem_cons.mp (I₂.stkSub b z) with q | q
   .exact f1 q
   .exact f2' q
 have hDne:∀b,H₂ b≠none->b≠s₂.heap.objs.size:=fun b hb z=>hb (z▸fD);have ldD:HOk X.prog X.w (upd H₂ s₂.heap.objs.size (.lst [])) h₁:=I₂.hok.laid old (Nat.le_refl _) ⟨Nat.zero_le _,[],_,.nil,hacc⟩
 have visFree:∀y,Vis (relabel scope X.env) y->y∈X.N->(y,NameKind.free)∈scope.names/\((relabel scope X.env).names.lookup y=some .cell\/(relabel scope X.env).names.lookup y=some .free):=by
  intro y hv hne
  rcases hv with q | q | q
  .obtain ⟨k0,hm,z | ⟨z,w⟩⟩:=xZ (env:=X.env) (show(scope.names.map _).lookup y=_ from q)
   .subst z; exact absurd hne (K.loc _ hm rfl)
   .cases w
  .obtain ⟨k0,hm,z | ⟨z,w⟩⟩:=xZ (env:=X.env) (show(scope.names.map _).lookup y=_ from q)
   .subst z; exact absurd rfl (K.cell _ hm)
   .subst z; exact⟨hm,.inl q⟩
  .obtain ⟨k0,hm,z | ⟨z,w⟩⟩:=xZ (env:=X.env) (show(scope.names.map _).lookup y=_ from q)
   .subst z; exact⟨hm,.inr q⟩
   .cases w
 have I':∀tk,Inv (cxN X xs scope cl fp H2.objs.size s₂ H₂) [] (List.replicate xs.length none++σ) (upd H₂ s₂.heap.objs.size (.lst [])) { s₂ with heap:=h₁,toks:=tk }:=by
  intro tk;refine⟨okX,rfl,I₂.bare,Un.laid old (Nat.le_refl _) fD,⟨_,hns₁,fun i y v h1 h2 h3=>?_⟩,fun y c h=>?_,?_,fun y c h=>?_,fun p hp=>absurd hp (by simp[cxN]),ldD,?_⟩
  .rcases Nat.lt_or_ge i xs.length with hi | hi
   .rw [List.getElem?_append_left (by rw[List.length_replicate]; exact hi),List.getElem?_replicate,if_pos hi] at h2
    cases h2
   .have h1':X.N[i - xs.length]?=some y:=by
     have h1:(xs++X.N)[i]?=some y:=h1;rw[List.getElem?_append_right hi] at h1; exact h1
    have h2':σ[i - xs.length]?=some (some v):=by
     rw[List.getElem?_append_right (by rw[List.length_replicate]; exact hi),List.length_replicate] at h2; exact h2
    have hne:y∈X.N:=List.mem_of_getElem? h1';obtain⟨fm,kk⟩:=visFree y h3 hne;obtain⟨nl,vz,c,hcl⟩:=K.free _ fm rfl;obtain⟨mm,hn,hl⟩:=I₂.loc;obtain⟨u,ru,l⟩:=hl (i - xs.length) y v h1' h2' (vz.elim (fun z=>.inr (.inl z)) fun z=>.inr (.inr z))
    rcases l with ⟨z,_⟩ | ⟨_,c',hc',hcell⟩
    .exact absurd z nl
    .have ec:c'=c:=Option.some.inj (hc'.symm.trans (K.cl _ _ hcl))
     subst ec;obtain⟨o,ho,hd⟩:=hcell;exact⟨u,ru,.inr ⟨kk,c',hcl,o,old _ _ ho,hd⟩⟩
  .obtain ⟨v,o,ho,hd⟩:=I₂.cell y c (K.cl y c h)
   exact⟨v,o,old _ _ ho,hd⟩
  .show upd H₂ _ _ H2.objs.size=none
   rw[nQ (Ne.symm hDC)]; exact fC
  .show upd H₂ _ _ c=none
   obtain⟨v,o,ho,hd⟩:=I₂.cell y c (K.cl y c h);rw[nQ (below c (Heap.lt_size ho)).2]; exact I₂.freeC y c (K.cl y c h)
  .show (List.replicate xs.length none++σ).length=(xs++X.N).length
   rw[List.length_append,List.length_append,List.length_replicate,I₂.len]
 have stat:∀{H':Hp},(∀b∈fp,H' b=none)->∀b∈fp,yP (cxN X xs scope cl fp H2.objs.size s₂ H₂) [] H' b:=fun hn b hb =>
  ⟨hn b hb,(okX.exf b hb).1,okX.exfs b hb,.inl hb,(okX.exf b hb).2,fun p hp=>absurd hp (by simp[cxN])⟩
 have tn₁:tn 0 h₁:=T.keep _ _ _ st₂ fun b _ o e=>old b o e;have fp₁:∀b∈fp,upd H₂ s₂.heap.objs.size (.lst []) b=none:=fun b hb=>by rw[nQ (below b (fpLt b hb)).2]; exact(f₂ b hb).1
 have loop:∀s₃:Shared,(∃tk,s₃={ s₂ with heap:=h₁,toks:=tk }) ->
   codeAny (model X.prog X.w) X.A (.compLoop (.ListComp elt [⟨tg,iter,ifs,0⟩] scope pos) 0 (.ref it) (.ref s₂.heap.objs.size) (compEnvC scope cl H2.objs.size X.env))
    (RR (.ref s₂.heap.objs.size) H2.objs.size) s₃:=by
  rintro s₃ ⟨tk,rfl⟩
  refine mF (fun n s'=>∃i ys H' v0,v0.length=xs.length/\Inv (cxN X xs scope cl fp H2.objs.size s₂ H₂) [] (v0++σ) H' s'/\tn i s'.heap/\(∀b∈fp,H' b=none)/\W i n ys H') ?_ m0
   ⟨0,[],_,List.replicate xs.length none,List.length_replicate,I' tk,tn₁,fp₁,w0⟩
  rintro n s3 ⟨i,ys,H3,v0,l0,I3,st3,fr3,w3⟩
  rcases turn i n ys H3 w3 with ⟨stop,qn⟩ | ⟨go,step⟩
  .refine thn (T.done (cxN X xs scope cl fp H2.objs.size s₂ H₂) rfl rfl rfl hc i [] s3 (v0++σ) H3 (fun _ _=>False) I3 (stat fr3) st3 stop) fun r s4 ⟨hr,I4⟩=>?_
   subst hr;show RR _ _ (.ok .next) s4;obtain⟨m,hn,_⟩:=I4.loc;have un:=I4.base;have os4:s4.os=s₂.os:=I4.os;refine hRR _ _ H3 s4 m hn ?_ I4.free (fun y c h z=>?_) (by rw[hC]; exact Nat.le_succ _) ?_ qn
   .exact Ne.symm (below _ I₂.lt).1
   .obtain ⟨v,o,ho,hd⟩:=I₂.cell y c h
    exact(below c (Heap.lt_size ho)).1 z
   .obtain ⟨hh,g,d,t,os'⟩:=s4
    obtain rfl:os'=s₂.os:=os4;exact I₂.call (h':=hh) (g':=g) (d':=d) (t':=t) (ch:=fp) un I4.hok I4.bare fun b hb=>⟨(f₂ b hb).2.2.2.1,(f₂ b hb).2.1,(f₂ b hb).2.2.2.2.1,(f₂ b hb).2.2.2.2.2⟩
  .refine thn (T.item (cxN X xs scope cl fp H2.objs.size s₂ H₂) rfl rfl rfl hc i [] s3 (v0++σ) H3 (fun _ _=>False) I3 (stat fr3) st3 go) fun r s4 ⟨u,hr,h4⟩=>?_
   subst hr;refine thn h4 fun _ s5 ⟨x5,H5,I5,r5,y5,st5,fr5⟩=>?_;have I5':=I5.pinned (stat fr5) (T.obj _ _ st5)
   have again:∀{H':Hp} {s':Shared} {τ:St},Inv (cxN X xs scope cl fp H2.objs.size s₂ H₂) ([]++zU fp s5.heap) τ H' s'->tn (i+1) s'.heap/\∀b∈fp,H' b=none:=fun I7 =>
    ⟨T.keep _ _ _ st5 fun b hb o e=>(I7.pin (b,o) (List.mem_append_right _ (List.mem_append_right _ (gK hb e)))).1,fun b hb=>by
     obtain⟨o,e,d⟩:=T.obj _ _ st5 b hb
     exact(I7.pin (b,o) (List.mem_append_right _ (List.mem_append_right _ (gK hb e)))).2.1⟩
   obtain⟨vs5,sq5,l5,q5⟩:=step x5 H5 y5;refine thn (hg fp _ s₂ H₂ _ s5 (v0++σ) H5 x5 u (fun σ' H'=>σ'=vs5.map some++σ/\H'=H5) I5' r5 (hG v0 vs5 x5 H5 _ l0 sq5 l5 ⟨rfl,rfl⟩)) fun _ s6 ⟨σ6,H6,I6,e6,e6'⟩=>?_;subst e6 e6';have l6:(vs5.map some).length=xs.length:=by rw[List.length_map]; exact l5
   refine thn (ht fp _ s₂ H₂ _ s6 (vs5.map some++σ) H6 _ I6 q5) fun ok s7 ⟨H7,I7,q7⟩=>?_
   cases ok with
   |false =>
    rw[if_neg Bool.false_ne_true] at q7;rw[if_neg Bool.false_ne_true];obtain⟨m',hm,w7⟩:=q7;obtain⟨k1,k2⟩:=again I7;exact⟨m',hm,i+1,ys,H7,vs5.map some,l6,I7.unpinned,k1,k2,w7⟩
   |true =>
    rw[if_pos rfl] at q7;rw[if_pos rfl];refine thn (he fp _ s₂ H₂ _ s7 (vs5.map some++σ) H7 _ I7 q7) fun y s8 ⟨y8,H8,I8,r8,hD8,hl8,m',hm,w8⟩=>?_;refine thn (nB (X:=cxN X xs scope cl fp H2.objs.size s₂ H₂) _ s8 _ H8 (.ref s₂.heap.objs.size) [y8] (.ref s₂.heap.objs.size) [y] (fun _ H9=>H9=upd H8 s₂.heap.objs.size (.lst (ys++[y8]))) I8 rfl (.cons r8 .nil) ⟨_,ys,y8,rfl,rfl,hD8,hl8,rfl⟩) fun _ s9 ⟨_,H9,I9,_,e9⟩=>?_
    subst e9;obtain⟨k1,k2⟩:=again I9;exact⟨m',hm,i+1,ys++[y8],_,vs5.map some,l6,I9.unpinned,k1,k2,w8⟩
 exact codeAny_compStart_list (loop _ ⟨_,rfl⟩) (T.self _ 0 _ _ _ tn₁ (loop _ ⟨_,rfl⟩))
theorem pe_comp {elt iter:Expr}{x:Str}{px pos:Pos}{ifs:List Expr}{scope:Scope}{cl:List (Str×Addr)}{wi:TI}{tc:TT}{te:TE}
  (hc:X.calm=true) (hN:(x::X.N).Nodup) (K:qB X x scope cl) (hi:PI X (.Name x px) iter wi)
  (ht:∀fp C s₂ H₂,fS (sJ X x scope cl fp C s₂ H₂) ifs tc) (he:∀fp C s₂ H₂,PE (sJ X x scope cl fp C s₂ H₂) elt te)
  (hs:∀v,foldedSetIterable iter X.env v=pure v:=by intro _; rfl):PE X (.ListComp elt [⟨.Name x px,iter,ifs,0⟩] scope pos) (qN wi tc te):=by
 intro pins s σ H Q I h;rw[eval_ListComp];refine wpAny_comprehension_free (use:=none) rfl hs K.clos K.kind K.names (thn (hi pins s σ H _ I h) fun xv s₁ h₁=>thn h₁ fun itv s₂ h₂=>?_);obtain⟨it,fp,tn,J,H₂,e,I₂,T,st₂,f₂,R⟩:=h₂;subst e;refine jG (g:=iV 0) (Tk:=fun x _ vs=>vs=[x]) hc K (fun _ _ _ _=>yG (i:=0) (x:=x) hN rfl (.inl (lookup_relabel_local (K.hx x (.head _)))) (.inr (lookup_relabel_local (K.hx x (.head _))))) ht he (by rintro ws vs y H Q l rfl _ q; match ws,l with | [_],_=>exact q) I₂ T st₂ f₂ (fun D hD=>let ⟨W,w0,tu⟩:=R D hD; ⟨W,w0,fun i m ys H w=>(tu i m ys H w).imp id fun⟨g,st⟩=>⟨g,fun x H' y=>⟨[x],rfl,rfl,st x H' y⟩⟩⟩) ?_
 intro D C H s4 m hn hCL hC0 hCc hCsz I4 q;refine⟨m,hn,fun h' hsb=>⟨.ref D,H,?_,rfl,q⟩⟩;refine I4.turned (it:=C) (t':=s4.toks) (fun b o hb e=>(hsb.2 b hb).trans e) hC0 hCL (.inr (Nat.le_trans I₂.sz hCsz)) hCc fun p hp z=>?_;exact absurd (Nat.lt_of_lt_of_le (Heap.lt_size (I₂.pin p hp).1) (by rw[z]; exact hCsz)) (Nat.lt_irrefl _)
end
theorem bS (ys:List Bool):((List.range ys.length).all fun i=>(ys[i]?).getD false)=ys.all id:=by
 rw[Bool.eq_iff_iff,List.all_eq_true,List.all_eq_true]
 constructor
 .intro h b hb
  obtain⟨i,hi⟩:=List.mem_iff_getElem?.mp hb;have hl:i < ys.length:=(List.getElem?_eq_some_iff.mp hi).1;have:=h i (List.mem_range.mpr hl);rw[hi] at this;exact this
 .intro h i hi
  have hl:i < ys.length:=List.mem_range.mp hi;rw[List.getElem?_eq_getElem hl];exact h _ (List.getElem_mem hl)
section
variable {X:Cx}
theorem bA (hc:X.calm=true):CallR X (.builtin "all") (fun xs H Q=>∃p ys,xs=[.ref p]/\SqL X.K H p (List.map V.bl ys)/\Q (.bl (ys.all id)) H):=by
 intro pins s σ H xs us Q I r h;obtain⟨p,ys,rfl,hq,q⟩:=h;obtain⟨u,rfl,rx⟩:=tY r;cases rx;obtain⟨its,rv,pl,hz⟩:=I.list hq;have hlen:its.length=ys.length:=by rw[<- rv.length,List.length_map]
 obtain⟨o,n,ho,_⟩:=id pl;have hlt:p < s.heap.objs.size:=Heap.lt_size ho;refine call_all_walk (wpAny_pyIter_list pl.isList ?_);refine⟨s.heap.objs.size,_,_,_,_,_,fun i=>(ys[i]?).getD false,rfl,Walks.list (A:=X.A.in1) (I.ok.hd hc) s.heap.objs.size p (Nat.ne_of_lt hlt) its.toArray,⟨⟨_,Heap.get?_push_size _ rfl,rfl,rfl⟩,pl.isList.push _⟩,fun i v s' Q' E' hP hQ=>?_,fun h' tk kk=>?_⟩
 .have hv:its[i]?=some v:=by simpa using hP
  have hi:i < ys.length:=by rw[<- hlen]; exact(List.getElem?_eq_some_iff.mp hv).1
  have hy:(List.map V.bl ys)[i]?=some (.bl ys[i]):=by rw[List.getElem?_map,List.getElem?_eq_getElem hi]; rfl
  obtain⟨u,hu,ru⟩:=rv.get hy;rw[hv] at hu;cases hu;cases (show v=Value.bool ys[i] from ru);have hQ:Q' ((ys[i]?).getD false) s':=hQ;rw[List.getElem?_eq_getElem hi] at hQ;exact wpAny_truthy_bool hQ
 .have I1:Inv X pins σ H { s with heap:=h',toks:=tk }:=I.kept fun b o e=>kk b o (by intro z; exact absurd (Heap.lt_size e) (by rw[List.mem_singleton.mp z]; exact Nat.lt_irrefl _)) (Heap.get?_push_of_some _ e)
  have e:((List.range its.toArray.size).all fun i=>(ys[i]?).getD false)=ys.all id:=by rw[List.size_toArray,hlen,bS]
  rw[e];exact⟨.bl (ys.all id),H,I1,rfl,q⟩
inductive Ty where
 |non | bl | int | str | lst | tup | dct
 deriving DecidableEq
def vK:Ty->String
 |.non=>"NoneType" | .bl=>"bool" | .int=>"int" | .str=>"str" | .lst=>"list" | .tup=>"tuple" | .dct=>"dict"
def tyH:HO->Option Ty
 |.lst _=>some .lst
 |.frz _ (.lst _)=>some .lst
 |.tup _=>some .tup
 |.dK _=>some .dct
 |.dT _=>some .dct
 |_=>none
def tyN (H:Hp):V->Option Ty
 |.non=>some .non
 |.bl _=>some .bl
 |.int _=>some .int
 |.str _=>some .str
 |.ref a=>(H a).bind tyH
 |_=>none
theorem tyOf_of {K:PySem.W.Frag}{H:Hp}{x:V}{n:Ty}(h:tyN H x=some n):nY K H x (.type (vK n)):=by
 cases x with
 |non=>cases h; exact .non
 |bl b=>cases h; exact .bl b
 |int i=>cases h; exact .int i
 |str z=>cases h; exact .str z
 |ref a =>
  have h:(H a).bind tyH=some n:=h
  cases e:H a with
  |none=>rw[e] at h; cases h
  |some o =>
   rw[e] at h;have h:tyH o=some n:=h
   cases o with
   |lst xs=>cases h; exact .lst e
   |tup xs=>cases h; exact .tup e
   |dK kvs=>cases h; exact .dK e
   |dT kvs=>cases h; exact .dT e
   |frz ob u =>
    cases u with
    |lst xs=>cases h; exact .frz e
    |_=>cases h
   |_=>cases h
 |byt b=>cases h
 |flt b=>cases h
 |ty n=>cases h
def qJ:Ty->Ty->Bool
 |.bl,.int=>true
 |a,b=>decide (a=b)
theorem kit_all (K:PySem.W.Frag)(n T:Ty):PySem.W.kitOne K (.type (vK n)) (.type (vK T))=some (qJ n T):=by
 cases n<;>cases T<;>with_unfolding_all rfl
theorem kZ:CallR X (.builtin "isinstance") (fun xs H Q=>∃x T n,xs=[x,.ty (vK T)]/\tyN H x=some n/\Q (.bl (qJ n T)) H):=by
 intro pins s σ H xs us Q I r h;obtain⟨x,T,n,rfl,hn,q⟩:=h;obtain⟨u,w',rfl,rx,rT⟩:=sS r;cases (show w'=Value.type (vK T) from rT);exact sR I rx (tyOf_of hn) (kit_all X.K n T) fun tk=>⟨.bl (qJ n T),H,I.tok tk,rfl,q⟩
theorem lD:OpR X (binaryOp .FloorDiv) (rI (fun _ j=>0 < j/\j < 18446744073709551616) fun i j=>.int (i / j)):=opI fun i j _ _ _ _ _ hc q=>by
 have h1:(0:Int) < j:=hc.1;have h2:j < 18446744073709551616:=hc.2;refine floordiv_int (by omega) (by rw[Int.fdiv_eq_ediv_of_nonneg i (by omega)]; exact q) (.inl (PyProof.noPylong_of_log2 ?_))
 have h3:j.natAbs < 2 ^ 64:=by
  have:(2:Nat) ^ 64=18446744073709551616:=by decide
  omega
 exact Nat.lt_of_lt_of_le ((Nat.log2_lt (by omega)).mpr h3) (by decide)
end
structure JE (X:Cx)(e:Expr)(t:TE):Prop where
 h:PE X e t
structure JT (X:Cx)(e:Expr)(t:TT):Prop where
 h:PT X e t
structure JW (X:Cx)(e:Expr)(t:TT):Prop where
 h:PW X e t
structure JA (X:Cx)(es:List Expr)(t:TA):Prop where
 h:PA X es t
structure JS (X:Cx)(st:Stmt)(t:TS):Prop where
 h:PS X st t
structure JB (X:Cx)(st:List Stmt)(t:TS):Prop where
 h:PSs X st t
structure JG (X:Cx)(e:Expr)(t:TG):Prop where
 h:PG X e t
structure JGs (X:Cx)(es:List Expr)(t:TGs):Prop where
 h:PGs X es t
structure JI (X:Cx)(tg e:Expr)(t:TI):Prop where
 h:PI X tg e t
structure JF (X:Cx)(ifs:List Expr)(t:TT):Prop where
 h:fS X ifs t
structure JO (X:Cx)(e:Option Expr)(t:TO):Prop where
 h:PO X e t
section
variable {X:Cx}{a b c e o i:Expr}{es:List Expr}{ta tb tc te:TE}{tA tB':TT}{t:TA}{pos:Pos}{rest:List Expr}
theorem jv (i:Nat){x:Str}{pos:Pos}(hN:X.N[i]?=some x:=by rfl)(hv:Vis X.env.scope x:=by first | exact Or.inl rfl | exact Or.inr (Or.inl rfl) | exact Or.inr (Or.inr rfl))(hd:(x==("__debug__" : Str))=false:=by decide)
  (hcd:(x==("__classdict__" : Str))=false:=by decide):JE X (.Name x pos) (tVar i):=⟨tT hN hv hd hcd⟩
theorem je_int {i j pos}:JE X (.Constant (.int i) j pos) (tC (.int i)):=⟨pe_int⟩
theorem je_bl {b j pos}:JE X (.Constant (.bool b) j pos) (tC (.bl b)):=⟨pe_bl⟩
theorem je_non {j pos}:JE X (.Constant .none j pos) (tC .non):=⟨pe_non⟩
theorem je_str {x j pos}:JE X (.Constant (.str x) j pos) (tC (.str x)):=⟨pe_str⟩
theorem je_bltn {x:Str}{v:V}{u:Value}(hg:Gl X x)(hm:X.mg x=none)(hv:bootBuiltins x=some u)(r:RelV v u)(hn:x ≠ "__name__":=by decide)(hd:(x==("__debug__" : Str))=false:=by decide):JE X (.Name x pos) (tC v):=⟨pe_bltn hg hm hv r hn hd⟩
theorem je_op {op:Operator}{r:R2}(ho:OpR X (binaryOp op) r)(ha:JE X a ta)(hb:JE X b tb):JE X (.BinOp a op b pos) (tOp r ta tb):=⟨pe_op ho ha.h hb.h⟩
theorem je_un {op:UnaryOp}{r:V->Hp->VK->Prop}(ho:UnR X (unaryOp op) r)(ha:JE X a ta):JE X (.UnaryOp op a pos) (tUn r ta):=⟨pe_un ho ha.h⟩
theorem je_cmp {op:CmpOp}{r:R2}(ho:OpR X (compareOp op) r)(ha:JE X a ta)(hb:JE X b tb)(hm:behindInMarks op b=false):JE X (.Compare a [op] [b] pos) (tOp r ta tb):=⟨pe_cmpR ho ha.h hb.h hm⟩
theorem jt_cmp {op:CmpOp}{r:R2}(ho:OpR X (compareOp op) r)(ha:JE X a ta)(hb:JE X b tb)(hm:behindInMarks op b=false):JT X (.Compare a [op] [b] pos) (eS (tOp r ta tb)):=⟨pt_cmpR ho ha.h hb.h hm⟩
theorem je_one {op}{t:TE}(h:JE X a t):JE X (.BoolOp op [a] pos) t:=⟨pe_one h.h⟩
theorem je_and (ha:JE X a ta)(hb:JE X (.BoolOp .And (b::rest) pos) tb):JE X (.BoolOp .And (a::b::rest) pos) (tAndV ta tb):=⟨pe_and ha.h hb.h⟩
theorem jw_pt {t:TT}(h:JW X e t):JT X e t:=⟨h.h.pt⟩
theorem jw_and1 (ha:JT X a tA):JW X (.BoolOp .And [a] pos) tA:=⟨pw_and1 ha.h⟩
theorem jw_or1 (ha:JT X a tA):JW X (.BoolOp .Or [a] pos) tA:=⟨pw_or1 ha.h⟩
theorem jw_and (ha:JT X a tA)(hb:JW X (.BoolOp .And (b::rest) pos) tB'):JW X (.BoolOp .And (a::b::rest) pos) (tAnd tA tB'):=⟨pw_and ha.h hb.h⟩
theorem jw_or (ha:JT X a tA)(hb:JW X (.BoolOp .Or (b::rest) pos) tB'):JW X (.BoolOp .Or (a::b::rest) pos) (tOr tA tB'):=⟨pw_or ha.h hb.h⟩
theorem jt_not (ha:JT X a tA):JT X (.UnaryOp .Not a pos) (tNot tA):=⟨pt_not ha.h⟩
def vY:Expr->Bool
 |.Name _ _=>true | .Call _ _ _ _=>true | .Subscript _ _ _=>true | .Attribute _ _ _=>true | .IfExp _ _ _ _=>false | _=>false
theorem rP {env:Env}(h:vY e=true):∀whole,isTrue e env whole=(do let v <- whole; standAt e.pos; holding [v] (truthy v)):=by
 cases e<;>first | (intro _; rfl) | exact absurd h Bool.false_ne_true
theorem jt_val {t:TE}(h:JE X e t)(he:vY e=true:=by rfl):JT X e (tB t):=⟨pt_val h.h (rP he)⟩
theorem ja_nil:JA X [] tNil:=⟨pa_nil⟩
theorem ja_cons (ha:JE X e te)(hr:JA X es t)(hs:cQ e=true:=by rfl):JA X (e::es) (iS te t):=⟨qa_cons ha.h hr.h hs⟩
theorem je_tup {x1}(h:JA X es t):JE X (.Tuple es x1 pos) (tTup t):=⟨pe_tup h.h⟩
theorem je_lst (h:JA X es t):JE X (.List es pos) (tLst t):=⟨pe_lst h.h⟩
theorem qE:JE X (.Dict [] [] pos) aS:=⟨aT⟩
theorem je_call {CX:CXT}{k:Nat}{f:Addr}{fd:FuncData}{ps:List Str}{sp:Sp}{dvs:List V}{ds:List Value}{E:XK}{x:Str}{p:Pos}(F:FnOk X.prog X.w X.K X.mg X.base CX k f fd ps sp)(hr:Room k X.A)(hg:Gl X x)(hm:X.mg x=some (.ref f))(hk:PySem.W.keepIn X.K (.ref f)=true)(hb:Binds X.K fd ps ds)(hd:Vals dvs ds)(hx:sY CX X E)
  (ha:JA X (e::es) t) (hdb:(x==("__debug__" : Str))=false:=by decide) (hs:cQ e=true:=by rfl) (hall:es.all cQ=true:=by rfl):JE X (.Call (.Name x p) (e::es) [] pos) (zT sp dvs E t):=⟨qe_call F hr hg hm hk hb hd hx ha.h hdb hs hall⟩
theorem zE {id:String}{r:List V->Hp->VK->Prop}{x:Str}{p:Pos}(hc:CallR X (.builtin id) r)(hg:Gl X x)(hm:X.mg x=none)(hv:bootBuiltins x=some (.builtin id))(ha:JA X (e::es) t)(hn:x ≠ "__name__":=by decide)(hdb:(x==("__debug__" : Str))=false:=by decide)
  (hs:cQ e=true:=by rfl) (hall:es.all cQ=true:=by rfl):JE X (.Call (.Name x p) (e::es) [] pos) (tCB r t):=⟨bT hc hg hm hv ha.h hn hdb hs hall⟩
theorem nR {T:String}{r:List V->Hp->VK->Prop}{x:Str}{p:Pos}(hc:CallR X (.type T) r)(hg:Gl X x)(hm:X.mg x=none)(hv:bootBuiltins x=some (.type T))(ha:JA X (e::es) t)(hn:x ≠ "__name__":=by decide)(hdb:(x==("__debug__" : Str))=false:=by decide)
  (hs:cQ e=true:=by rfl) (hall:es.all cQ=true:=by rfl):JE X (.Call (.Name x p) (e::es) [] pos) (tCB r t):=⟨iC hc hg hm hv ha.h hn hdb hs hall⟩
theorem je_ix {r:R2}(hr:IxR X r)(ha:JE X a ta)(hb:JE X b tb)(hs:nG b):JE X (.Subscript a b pos) (tOp r ta tb):=⟨pe_ix hr ha.h hb.h hs⟩
theorem jo_none:JO X none iH:=⟨po_none⟩
theorem jo_some (h:JE X e te):JO X (some e) (tPart te):=⟨po_some h.h⟩
theorem iO {lo hi:Option Expr}{tl th:TO}{p2:Pos}{r:V->Option Int->Option Int->Hp->VK->Prop}(hr:SlR X r)(he:JE X e te)(hl:JO X lo tl)(hu:JO X hi th):JE X (.Subscript e (.Slice lo hi none p2) pos) (tSl r te tl th):=⟨eT hr he.h hl.h hu.h⟩
theorem jf_nil:JF X [] tYes:=⟨sT⟩
theorem jf_one {t:TT}(h:JT X c t):JF X [c] t:=⟨nT h.h⟩
theorem je_comp {elt iter:Expr}{x:Str}{px:Pos}{ifs:List Expr}{scope:Scope}{cl:List (Str×Addr)}{wi:TI}{tc:TT}
  (hc:X.calm=true) (hN:(x::X.N).Nodup) (K:qB X x scope cl) (hi:JI X (.Name x px) iter wi)
  (ht:∀fp C s₂ H₂,JF (sJ X x scope cl fp C s₂ H₂) ifs tc) (he:∀fp C s₂ H₂,JE (sJ X x scope cl fp C s₂ H₂) elt te)
  (hs:∀v,foldedSetIterable iter X.env v=pure v:=by intro _; rfl):JE X (.ListComp elt [⟨.Name x px,iter,ifs,0⟩] scope pos) (qN wi tc te) :=
 ⟨pe_comp hc hN K hi.h (fun fp C s₂ H₂=>(ht fp C s₂ H₂).h) (fun fp C s₂ H₂=>(he fp C s₂ H₂).h) hs⟩
variable {tg:Expr}
theorem uN (h:JE X e te):JI X tg e (iList X.K te):=⟨pi_list h.h⟩
theorem eO (h:JE X e te):JI X tg e (iTup X.K te):=⟨pi_tup h.h⟩
theorem aB {p:Pos}(hg:Gl X "range")(hm:X.mg "range" = none)(ha:JA X [a] t)(hs:cQ a=true:=by rfl):JI X tg (.Call (.Name "range" p) [a] [] pos) (wE t):=⟨kR hg hm ha.h (jZ hs)⟩
theorem jg_name {i:Nat}{x:Str}(hN:X.N.Nodup)(hi:X.N[i]?=some x)(hx:Loc X.env.scope x)(hf:X.fn x=true\/X.env.scope.names.lookup x=some .local:=by first | exact .inl rfl | exact .inr rfl | assumption):JG X (.Name x pos) (iV i):=⟨yG hN hi hx hf⟩
theorem jgs_nil:JGs X [] gNil:=⟨vN⟩
theorem aO {t:TG}{u:TGs}(h1:JG X e t)(h2:JGs X es u)
  (hs:(assignEach (e::es) X.env).map (·.2)=assign e X.env::(assignEach es X.env).map (·.2):=by rfl):JGs X (e::es) (fU t u):=⟨jU h1.h h2.h hs⟩
theorem jg_tup {k:Nat}{t:TGs}{n:Nat}(hc:X.calm=true)(h:JGs X es t)
  (hn:(assignEach es X.env).length=n:=by rfl) (hst:(assignEach es X.env).findIdx? (·.1)=none:=by rfl):JG X (.Tuple es k pos) (gTup X.K n t):=⟨oT hc h.h hn hst⟩
theorem jg_sub {t:TSet}{to ti:TE}(ho:JE X o to)(hi:JE X i ti)(hs:PSet X t)
  (ha:∀v,assign (.Subscript o i pos) X.env v=(do
   let ov <- holding [v] (eval o X.env)
   let iv <- holding [v,ov] (eval i X.env)
   standAt pos
   holding [v,ov,iv] (setItem ov iv v)
   release [v,ov,iv] []):=by intro _; rfl):JG X (.Subscript o i pos) (gSub to ti t):=⟨pg_sub ho.h hi.h hs ha⟩
end
section
variable {X:Cx}{st:Stmt}{sts:List Stmt}{t u:TS}{e c:Expr}{te:TE}{tc:TT}{pos:Pos}
theorem jb_nil:JB X [] tNext:=⟨pss_nil⟩
theorem jb_cons (h1:JS X st t)(h2:JB X sts u):JB X (st::sts) (tSeq t u):=⟨cT h1.h h2.h⟩
theorem jb_one (h1:JS X st t):JB X [st] t:=⟨pss_one h1.h⟩
theorem js_expr (he:JE X e te)(hs:swapsWith e none pos.line X.env=pure false:=by rfl):JS X (.Expr e pos) (tDrop te):=⟨ps_expr he.h hs⟩
theorem js_ret (he:JE X e te):JS X (.Return (some e) pos) (tRet te):=⟨ps_ret he.h⟩
theorem js_if {a b:List Stmt}(hc:JT X c tc)(ha:JB X a t)(hb:JB X b u):JS X (.If c a b pos) (tIfS tc t u):=⟨ps_if hc.h ha.h hb.h⟩
theorem js_set {i:Nat}{x:Str}{pos':Pos}(hN:X.N.Nodup)(hi:X.N[i]?=some x)(hx:Loc X.env.scope x)(he:JE X e te)(hs:swapsWith e (some (.Name x pos')) pos.line X.env=pure false:=by rfl)(hf:X.fn x=true\/X.env.scope.names.lookup x=some .local:=by first | exact .inl rfl | exact .inr rfl | assumption):
  JS X (.Assign [.Name x pos'] e pos) (tAsg te (iV i)):=⟨ps_set hN hi hx he.h hs hf⟩
theorem js_asg {tg:Expr}{g:TG}(he:JE X e te)(hg:JG X tg g)(hs:swapsWithSole [tg] e pos.line X.env=pure false:=by rfl)(hw:swappedStores [tg] e X.env=pure none:=by rfl)
  (h1:(assignEach [tg] X.env).map (·.2)=[assign tg X.env]:=by rfl):JS X (.Assign [tg] e pos) (tAsg te g):=⟨ps_asg he.h hg.h hs hw h1⟩
theorem xH {tg iter:Expr}{body:List Stmt}{wi:TI}{g:TG}{tb:TS}(hp:PassesOwn (model X.prog X.w) X.A X.env X.xe)(hc:X.calm=true)(hi:JI X tg iter wi)(hg:JG X tg g)(hb:JB X body tb)
  (hs:∀x,foldedSetIterable iter X.env x=pure x:=by intro _; rfl):JS X (.For tg iter body [] pos) (tFor wi g tb):=⟨ps_for hp hc hi.h hg.h hb.h hs⟩
end
section
variable {P:Program}{w:World}{K:PySem.W.Frag}{mg:Str->Option Value}{base:Heap}
theorem Fun.okJ {x qual:Str}{st:Stmt}{f:Addr}{fd:FuncData}{N ps:List Str}{k:Nat}{sp:Sp}(F:Fun K x qual st f fd)(S:FnScope N ps (lQ st))(len:∀vs H Q E,sp vs H Q E->vs.length=ps.length)
  (hbody:∀(cdv:Value) (A:Around) (outer:List Env) (s:Shared) (H:Hp) (vs:List V) (Q:VK) (E:XK),Room k (A.deeper (envOfC qual (lQ st) s.heap.objs.size f cdv))->sp vs H Q E ->
   ∃t,JB (vF CX0 P w K mg base N qual (lQ st) f cdv A outer s H E).nox (mZ st) t/\t { nx:=fun _ H'=>Q .non H',rt:=Q } (start N vs) H):FnOk P w K mg base CX0 (k+1) f fd ps sp :=
 F.ok S len fun cdv A outer s H vs Q E hr h=>let ⟨t,ht,q⟩:=hbody cdv A outer s H vs Q E hr h; ⟨t,ht.h,q⟩
end
theorem wW {env:Env}:∀(names:List (Str×NameKind)) (acc:List (Str×Addr)),(∀y∈names,y.2=.free->∃c,env.cells.lookup y.1=some c)->(∀y c,acc.lookup y=some c->env.cells.lookup y=some c) ->
  ∃cl,(forIn names acc fun x r=>(do
    if x.2==NameKind.free then do
     let c <- cellOf env x.1
     pure (ForInStep.yield ((x.1,c)::r))
    else pure (ForInStep.yield r):Sem (ForInStep (List (Str×Addr)))))=pure cl/\(∀y c,cl.lookup y=some c->env.cells.lookup y=some c)/\(∀y∈names,y.2=.free->∃c,cl.lookup y.1=some c)/\∀y c,acc.lookup y=some c->∃c',cl.lookup y=some c'
 |[],acc,_,ha=>⟨acc,rfl,ha,fun y hy=>absurd hy (by simp),fun y c h=>⟨c,h⟩⟩
 | (n,k)::r,acc,hf,ha=>by
  cases hk:(k==NameKind.free) with
  |false =>
   obtain⟨cl,e,h1,h2,h3⟩:=wW r acc (fun y hy=>hf y (List.mem_cons_of_mem _ hy)) ha;refine⟨cl,?_,h1,fun y hy hy2=>?_,h3⟩
   .rw [List.forIn_cons]
    simp only[hk,Bool.false_eq_true,if_false]
    exact e
   .rcases List.mem_cons.mp hy with rfl | hy
    .have:k=.free:=hy2
     rw[this] at hk;exact absurd hk (by decide)
    .exact h2 y hy hy2
  |true =>
   have ek:k=.free:=by simpa using hk
   obtain⟨c,hc⟩:=hf (n,k) List.mem_cons_self ek;have hc:env.cells.lookup n=some c:=hc
   have ha':∀y c',((n,c)::acc).lookup y=some c'->env.cells.lookup y=some c':=fun y c' h=>by
    rw[List.lookup_cons] at h
    cases hy:y==n with
    |true =>
     rw[hy] at h;have:y=n:=by simpa using hy
     subst this;rw[hc]; exact h
    |false =>
     rw[hy] at h;exact ha y c' h
   obtain⟨cl,e,h1,h2,h3⟩:=wW r ((n,c)::acc) (fun y hy=>hf y (List.mem_cons_of_mem _ hy)) ha';have hco:cellOf env n=pure c:=by unfold cellOf; rw[hc]
   refine⟨cl,?_,h1,fun y hy hy2=>?_,fun y c' h=>?_⟩
   .rw [List.forIn_cons]
    simp only[hk,if_true,hco]
    exact e
   .rcases List.mem_cons.mp hy with rfl | hy
    .exact h3 n c (by simp[List.lookup_cons])
    .exact h2 y hy hy2
   .cases hy:y==n with
    |true=>exact h3 y c (by simp[List.lookup_cons,hy])
    |false=>exact h3 y c' (by simp[List.lookup_cons,hy,h])
def lU (xs:List Str)(scope:Scope)(N:List Str)(sc:Scope):Bool :=
 scope.names.all (fun y=>decide (y.2≠.cell)&&(decide (y.2≠.free) || decide (sc.names.lookup y.1=some .cell))&&(decide (y.2≠.local) || (decide (scope.names.lookup y.1=some .local)&&decide (y.1∉N))))&&decide (scope.kind=.function)&&xs.all (fun x=>decide (scope.names.lookup x=some .local))
theorem eW {X:Cx}{xs:List Str}{scope sc:Scope}{N:List Str}{L:Nat}(hN:X.N=N)(hsc:X.env.scope=sc)(hce:X.env.cells=cellsFrom L sc.names [])(h:lU xs scope N sc=true):∃cl,zJ X xs scope cl:=by
 subst hN hsc;unfold lU at h;rw[Bool.and_eq_true,Bool.and_eq_true,List.all_eq_true] at h;obtain⟨⟨h1,h2⟩,h3⟩:=h
 have get:∀y∈scope.names,y.2≠.cell/\(y.2=.free->X.env.scope.names.lookup y.1=some .cell)/\(y.2=.local->scope.names.lookup y.1=some .local/\y.1∉X.N):=fun y hy=>by
  have q:=h1 y hy;rw[Bool.and_eq_true,Bool.and_eq_true,Bool.or_eq_true,Bool.or_eq_true,Bool.and_eq_true] at q;obtain⟨⟨q1,q2⟩,q3⟩:=q;refine⟨of_decide_eq_true q1,fun e=>?_,fun e=>?_⟩
  .rcases q2 with q2 | q2
   .exact absurd e (of_decide_eq_true q2)
   .exact of_decide_eq_true q2
  .rcases q3 with q3 | ⟨q3,q4⟩
   .exact absurd e (of_decide_eq_true q3)
   .exact ⟨of_decide_eq_true q3,of_decide_eq_true q4⟩
 obtain⟨cl,e,k1,k2,_⟩:=wW (env:=X.env) scope.names [] (fun y hy hf=>by rw[hce]; exact nU ((get y hy).2.1 hf)) (fun y c z=>by simp at z);refine⟨cl,⟨?_,fun y hy=>(get y hy).1,of_decide_eq_true h2,fun y hy q=>((get y hy).2.2 q).1,fun x hx=>of_decide_eq_true (List.all_eq_true.1 h3 x hx),fun y hy q=>((get y hy).2.2 q).2,fun y hy q=>⟨?_,.inl ((get y hy).2.1 q),k2 y hy q⟩,k1⟩⟩
 .unfold closureFor
  have e':=congrArg (fun m:Sem (List (Str×Addr))=>m >>= fun cs=>(pure cs:Sem (List (Str×Addr)))) e
  simp only[pure_bind] at e'
  exact e'
 .show X.env.scope.names.lookup y.1≠some .local
  rw[(get y hy).2.1 q]
  decide
theorem yL {X:Cx}{elt iter:Expr}{x:Str}{px pos:Pos}{ifs:List Expr}{scope:Scope}{wi:TI}{tc:TT}{te:TE}
  (hc:X.calm=true) (hN:(x::X.N).Nodup) (K:∃cl,qB X x scope cl) (hi:JI X (.Name x px) iter wi)
  (ht:∀cl fp C s₂ H₂,JF (sJ X x scope cl fp C s₂ H₂) ifs tc) (he:∀cl fp C s₂ H₂,JE (sJ X x scope cl fp C s₂ H₂) elt te)
  (hs:∀v,foldedSetIterable iter X.env v=pure v:=by intro _; rfl):JE X (.ListComp elt [⟨.Name x px,iter,ifs,0⟩] scope pos) (qN wi tc te) :=
 let ⟨cl,K⟩:=K
 je_comp hc hN K hi (ht cl) (he cl) hs
section
variable {X:Cx}{o e:Expr}{es:List Expr}{to:TE}{t:TA}{name:Str}{apos cpos:Pos}{T id:String}{r:V->List V->Hp->VK->Prop}
theorem je_bm0 (pa:PlainAttrs T)(slot:Slot T name id)(hty:typeOf (.builtin id)=pure (.type "method_descriptor"))(hm:MtR X id r)(ho:JE X o to)
  (hbase:attributeBase o name X.env (eval o X.env)=eval o X.env:=by rfl) (hline:(apos.endLine==cpos.line)=true:=by rfl):JE X (.Call (.Attribute o name apos) [] [] cpos) (tBM0 X.K T r to):=⟨pe_bm0 pa slot hty hm ho.h hbase hline⟩
theorem je_bm (pa:PlainAttrs T)(slot:Slot T name id)(hty:typeOf (.builtin id)=pure (.type "method_descriptor"))(hm:MtR X id r)(ho:JE X o to)(ha:JA X (e::es) t)
  (hbase:attributeBase o name X.env (eval o X.env)=eval o X.env:=by rfl)
  (hfew:((backTo cpos (starEach (e::es) X.env)).all (fun x=>!x.1)&&(backToKw cpos (keywordEach [] X.env)).all (fun x=>x.1.isSome)
   && decide ((e::es).length+([]:List Keyword).length+(if ([]:List Keyword).isEmpty then 0 else 1) < 30))=true:=by rfl)
  (hline:(apos.endLine==cpos.line)=true:=by rfl) (hs:cQ e=true:=by rfl) (hall:es.all cQ=true:=by rfl) :
  JE X (.Call (.Attribute o name apos) (e::es) [] cpos) (tBM X.K T r to t):=⟨pe_bm pa slot hty hm ho.h ha.h hbase hfew hline (jZ hs) (eJ hall)⟩
end
section
variable {X:Cx}{pos:Pos}
theorem gN {o i:Expr}{td ty:TE}(hu:X.A.units+1 < cLine)(ho:JE X o td)(hi:JE X i ty)(hs:sH i):JE X (.Subscript o i pos) (tDGet td ty):=⟨pe_dget hu ho.h hi.h hs⟩
end
section
variable {X:Cx}{o i value:Expr}{td ty tv:TE}{pos pos':Pos}
theorem yN (hu:X.A.units+1 < cLine)(ho:JE X o td)(hi:JE X i ty)(hv:JE X value tv)(hs:swapsWith value (some (.Subscript o i pos')) pos.line X.env=pure false:=by rfl):
  JS X (.Assign [.Subscript o i pos'] value pos) (sDPut td ty tv):=⟨ps_dput hu ho.h hi.h hv.h hs⟩
end
section
variable {X:Cx}
def rCatTA (K:PySem.W.Frag):R2:=fun x y H Q=>∃a b xs ys,x=.ref a/\y=.ref b/\SqT K H a xs/\SqT K H b ys/\xs.length+ys.length<=sizeLine /\
 (xs=[]->Q (.ref b) H)/\(xs≠[]->ys=[]->Q (.ref a) H)/\(xs≠[]->ys≠[]->∀p,H p=none->Q (.ref p) (upd H p (.tup (xs++ys))))
theorem kO:OpR X (binaryOp .Add) (rCatTA X.K):=by
 intro pins s σ H x y v u Q I rx ry h;obtain⟨a,b,xs,ys,rfl,rfl,ha,hb,hz,q0,q1,q2⟩:=h
 by_cases hx:xs=[]
 .cases rx
  cases ry;obtain⟨its,r1,p1,_⟩:=I.tuple ha;obtain⟨its2,r2,p2,_⟩:=I.tuple hb;have e:=r1.nil_iff.mpr hx;subst e;obtain⟨⟨cls,dd,data,sl⟩,ho,hc,n,hd⟩:=id p1;obtain⟨⟨cls2,dd2,data2,sl2⟩,ho2,hc2,n2,hd2⟩:=id p2
  simp only at hc hd hc2 hd2
  subst hc hd hc2 hd2
  exact concat_meets ⟨_,ho,rfl⟩ ⟨_,ho2,rfl⟩ noFill_tuple_add seq_tuple_add PySem.F.slot_tuple_add PySem.F.entry_tuple_add (PySem.F.args_tuple_add_2 _ _)
   (tuple_addW0 a b _ its2.toArray n n2 dd dd2 sl sl2 rfl) ⟨ho,ho2,⟨.ref b,H,I,rfl,q0 hx⟩⟩
 .exact op_catT pins s σ H (.ref a) (.ref b) v u Q I rx ry ⟨a,b,xs,ys,rfl,rfl,ha,hb,hx,hz,q1 hx,q2 hx⟩
end
theorem sameNew {H:Hp}{p:Addr}(h:H p=none)(o:HO):Same H (upd H p o):=fun b u q=>by rw[nQ (sX q h)]; exact q
section
variable {X:Cx}
def rCatU:R2:=fun x y H Q=>∃a b xs ys,x=.ref a/\y=.ref b/\H a=some (.tup xs)/\H b=some (.tup ys)/\xs.length+ys.length<=sizeLine/\∀r H',Same H H'->H' r=some (.tup (xs++ys))->(H r=none\/r=a\/r=b)->Q (.ref r) H'
theorem op_catU:OpR X (binaryOp .Add) rCatU:=by
 intro pins s σ H x y v u Q I rx ry h;obtain⟨a,b,xs,ys,e1,e2,ha,hb,hz,q⟩:=h;refine kO pins s σ H x y v u Q I rx ry ⟨a,b,xs,ys,e1,e2,SqT.of ha,SqT.of hb,hz,fun h=>q b H (Same.refl H) (by rw[h]; exact hb) (.inr (.inr rfl)),fun _ h=>q a H (Same.refl H) (by rw[h,List.append_nil]; exact ha) (.inr (.inl rfl)),fun _ _ p hp=>q p _ (sameNew hp _) fQ (.inl hp)⟩
end
end L2
namespace L2
open PySem PySem.W PyProof.Rows
def xW {α:Type}(n:Nat)(P:α->Prop):KasT α->Prop
 |.ret a=>P a
 |.ask i j k=>i < n/\j < n/\∀b,xW n P (k b)
def jW {α:Type}(lt:Nat->Nat->Bool):KasT α->α
 |.ret a=>a
 |.ask i j k=>jW lt (k (lt i j))
theorem xJ {α β:Type}{n:Nat}{P:α->Prop}{R:β->Prop}{f:α->KasT β}:∀(t:KasT α),xW n P t->(∀a,P a->xW n R (f a))->xW n R (t.bind f)
 |.ret a,h,hf=>hf a h
 |.ask i j k,h,hf=>⟨h.1,h.2.1,fun b=>xJ (k b) (h.2.2 b) hf⟩
theorem wL {α:Type}{n:Nat}{P:α->Prop}{lt:Nat->Nat->Bool}:∀(t:KasT α),xW n P t->P (jW lt t)
 |.ret a,h=>h
 |.ask i j k,h=>wL (k (lt i j)) (h.2.2 _)
theorem kWp {α:Type}{n:Nat}{P:α->Prop}{lt:Nat->Nat->Bool}{cmp:Nat->Nat->(Bool->Shared->Prop)->Shared->Prop}{J:Shared->Prop}(hc:∀i j C s,i < n->j < n->J s->(∀s',J s'->C (lt i j) s')->cmp i j C s):
  ∀(t:KasT α) {Q:α->Shared->Prop} {s:Shared},xW n P t->J s->(∀s',J s'->P (jW lt t)->Q (jW lt t) s')->t.kasWp cmp Q s
 |.ret a,Q,s,h,hj,hq=>hq s hj h
 |.ask i j k,Q,s,h,hj,hq=>hc i j _ s h.1 h.2.1 hj fun s' hj'=>kWp hc (k (lt i j)) (h.2.2 _) hj' hq
def Ord (n:Nat)(p:Array Nat):Prop:=p.toList.Perm (List.range n)
theorem Ord.lt {n:Nat}{p:Array Nat}(h:Ord n p)(h0:0 < n)(i:Nat):p.getD i 0 < n:=by
 by_cases hi:i < p.size
 .have e:p.getD i 0=p[i]:=by simp[Array.getD,hi]
  rw[e];have hm:p[i]∈p.toList:=by simp
  exact List.mem_range.mp (h.mem_iff.mp hm)
 .have e:p.getD i 0=0:=by simp[Array.getD,hi]
  rw[e];exact h0
theorem Ord.size {n:Nat}{p:Array Nat}(h:Ord n p):p.size=n:=by
 have:=h.length_eq;rw[List.length_range,Array.length_toList] at this;exact this
theorem Ord.rev {n:Nat}{p:Array Nat}(h:Ord n p)(i j:Nat):Ord n (kas_rev p i j):=(Array.Perm.toList (mirror_perm p i j _)).trans h
theorem Ord.bubble {n:Nat}{p:Array Nat}(h:Ord n p)(i j:Nat):Ord n (bubble p i j):=(Array.Perm.toList (bubble_perm p i j)).trans h
section
variable {n:Nat}(h0:0 < n)
include h0
theorem sF {p:Array Nat}(h:Ord n p):∀f m,xW n (fun _=>True) (kas_asc p f m)
 |0,m=>trivial
 |f+1,m=>⟨h.lt h0 _,h.lt h0 _,fun b=>by
  cases b with
  |true=>exact trivial
  |false=>exact sF h f (m+1)⟩
theorem sW:∀f (p:Array Nat) m q,Ord n p->xW n (fun r=>Ord n r.1) (kas_desc f p m q)
 |0,p,m,q,h=>h
 |f+1,p,m,q,h=>⟨h.lt h0 _,h.lt h0 _,fun b=>by
  cases b with
  |true =>
   show xW n _ (if q > 0 then _ else _)
   split
   .exact sW f _ _ _ (h.rev _ _)
   .exact sW f _ _ _ h
  |false =>
   refine⟨h.lt h0 _,h.lt h0 _,fun b=>?_⟩
   cases b with
   |true=>exact h
   |false=>exact sW f _ _ _ h⟩
theorem pB {p:Array Nat}(m r:Nat)(h:Ord n p):xW n (fun r=>Ord n r.2) (kas_tail3 m r p) :=
 xJ _ (sF h0 (h.rev 0 m) _ _) fun _ _=>h.rev 0 m
theorem oW {p:Array Nat}(m r:Nat)(h:Ord n p):xW n (fun r=>Ord n r.2) (kas_descPart m r p) :=
 xJ _ (sW h0 _ _ _ _ h) fun x hx=>by
  split
  .exact pB h0 _ _ (hx.rev _ _)
  .exact pB h0 _ _ hx
theorem kS {p:Array Nat}(r:Nat)(h:Ord n p):xW n (fun r=>Ord n r.2) (kas_count r p) :=
 xJ _ (sF h0 h _ _) fun x _=>by
  split
  .exact h
  .split
   .refine ⟨h.lt h0 _,h.lt h0 _,fun b=>?_⟩
    cases b with
    |true=>exact h
    |false=>exact oW h0 _ _ (h.rev _ _)
   .exact oW h0 _ _ h
theorem wY {p:Array Nat}(k:Nat)(h:Ord n p):∀f l r,xW n (fun _=>True) (kas_place p k f l r)
 |0,l,r=>trivial
 |f+1,l,r=>by
  unfold kas_place
  split
  .exact trivial
  .refine ⟨h.lt h0 _,h.lt h0 _,fun b=>?_⟩
   cases b with
   |true=>exact wY k h f _ _
   |false=>exact wY k h f _ _
theorem jC:∀f (p:Array Nat) k,Ord n p->xW n (Ord n) (kas_bin f p k)
 |0,p,k,h=>h
 |f+1,p,k,h=>xJ _ (wY h0 k h _ _ _) fun l _=>jC f _ _ (h.bubble _ _)
theorem yD:xW n (Ord n) (kas_sort n) :=
 xJ _ (kS h0 n (show Ord n (List.toArray (List.range n)) from List.Perm.refl _)) fun r hr=>by
  split
  .exact jC h0 _ _ _ hr
  .exact hr
end
def yZ (lt:Nat->Nat->Bool)(vs:List Value):List Value:=(jW lt (kas_sort vs.length)).toList.map fun i=>vs.getD i Value.none
def uY (lt:Nat->Nat->Bool)(ys:List V):List V:=(jW lt (kas_sort ys.length)).toList.map fun i=>ys.getD i .non
theorem run0 (lt:Nat->Nat->Bool):(jW lt (kas_sort 0)).toList=[]:=rfl
theorem aY {lt:Nat->Nat->Bool}{vs:List Value}(h:vs.length < 2):yZ lt vs=vs:=by
 match vs,h with
 |[],_=>rfl
 |[v],_=>rfl
theorem wV (lt:Nat->Nat->Bool)(n:Nat)(h:0 < n):Ord n (jW lt (kas_sort n)):=wL _ (yD h)
theorem tM (lt:Nat->Nat->Bool)(vs:List Value):(yZ lt vs).length=vs.length:=by
 by_cases h:vs.length < 2
 .rw [aY h]
 .unfold yZ
  rw[List.length_map,Array.length_toList,(wV lt vs.length (by omega)).size]
def hX (h:Heap)(a:Addr)(vs:List Value):Heap:=((h.update a (Obj.mapSeq fun _=>(#[]:Array Value))).push (seqObj "tuple" vs.toArray 0)).push (seqObj "list" #[] 0)
theorem eP {h:Heap}{a:Addr}{vs us:List Value}{n:Nat}(e:h.get? a=some (seqObj "list" us.toArray n)):∃k,(h.update a (Obj.mapSeq fun _=>(#[]:Array Value))).get? a=some (seqObj "list" #[] k)/\(hX h a vs).get? a=some (seqObj "list" #[] k) :=
 ⟨_,get?_update_seq e fun _=>#[],Heap.get?_push_of_some _ (Heap.get?_push_of_some _ (get?_update_seq e fun _=>#[]))⟩
theorem xL {h:Heap}{a b:Addr}{vs:List Value}{o:Obj}(e:h.get? b=some o)(n:b≠a):(hX h a vs).get? b=some o :=
 Heap.get?_push_of_some _ (Heap.get?_push_of_some _ ((Heap.get?_update_ne _ _ _ _ n).trans e))
theorem eV {P':Program}{w:World}{A:Around}{E:Value->Shared->Prop}{s:Shared}{a:Addr}{vs:List Value}{n:Nat}{κ:SortKind}{lt:Nat->Nat->Bool}{R:PySem.Fin->Shared->Prop}(ea:s.heap.get? a=some (seqObj "list" vs.toArray n))(few:vs.length < 64)
  (hk:2<=vs.length->∀Q:SortKind->Shared->Prop,Q κ { s with heap:=hX s.heap a vs }->wpAny (model P' w) A (keyKind' vs.toArray) Q (fun _ _=>False) { s with heap:=hX s.heap a vs })
  (hc:∀i j,i < vs.length->j < vs.length->∀Q:Bool->Shared->Prop,Q (lt i j) { s with heap:=hX s.heap a vs }->wpAny (model P' w) A (keyLt' κ (vs.getD i Value.none) (vs.getD j Value.none)) Q (fun _ _=>False) { s with heap:=hX s.heap a vs })
  (done:R (.done (.ret .none)) { s with heap:=sortedHeap s.heap a vs (yZ lt vs).toArray }):wpAny (model P' w) A (Builtin.«list.sort» ⟨[.ref a],[]⟩) R E s:=by
 obtain⟨k0,e1,e2⟩:=eP (vs:=vs) ea;have zl:vs.length<=sizeLine:=by rw[sizeLine_eq]; omega
 have zo:(yZ lt vs).toArray.size<=sizeLine:=by rw[List.size_toArray,tM]; exact zl
 rw[list_sort_plain];refine wpAny_bind (listItems_at ea rfl (wpAny_bind (listUpdate_at ea rfl (wpAny_bind (seqEpoch_at e1 rfl (wpAny_bind (wpAny_newTuple (wpAny_bind (wpAny_newList (wpAny_holding ?_) (Nat.zero_le _))) zl)))) (by rw[List.size_toArray]; exact zl) (Nat.zero_le _))));show wpAny (model P' w) A _ R E { s with heap:=hX s.heap a vs };dsimp only
 have rest:∀st':SortSt,(arrOf st').map (·.2)=(yZ lt vs).toArray->failedOf st'=none->wpAny (model P' w) A (do
   let after <- seqEpoch a
   Builtin.List.listUpdate (.ref a) fun _=>(arrOf st').map (·.2)
   if let some e:=failedOf st' then rule "list.sort.comparison-raised"; throw e
   if (after != k0)=true then rule "list.sort.modified"; raiseError "ValueError" "list modified during sort"
   ret .none) R E { s with heap:=hX s.heap a vs }:=fun st' q1 q2=>by
  rw[q1,q2];refine wpAny_bind (seqEpoch_at e2 rfl (wpAny_bind (listUpdate_at e2 rfl ?_ (Nat.zero_le _) (Nat.le_succ_of_le zo))));rw[show(k0 != k0)=false by simp];exact wpAny_pure done
 have sz:vs.toArray.size=vs.length:=List.size_toArray
 by_cases h2:vs.length < 2
 .rw [sz,if_pos h2,if_pos h2]
  refine wpAny_bind (wpAny_pure (wpAny_bind (wpAny_pure (rest _ ?_ rfl))));rw[aY h2];show(vs.toArray.zip vs.toArray).map (·.2)=vs.toArray
  apply Array.toList_inj.mp
  simp
  exact List.map_snd_zip (Nat.le_refl _)
 .rw [sz,if_neg h2,if_neg h2]
  refine wpAny_bind (wpAny_mono (hk (by omega) (fun c s'=>c=κ/\s'={ s with heap:=hX s.heap a vs }) ⟨rfl,rfl⟩) (fun c s0 hs=>?_) fun _ _ x=>x.elim);obtain⟨rfl,rfl⟩:=hs
  refine wpAny_bind (wpAny_mono (kat_run (Q:=fun st' s'=>s'={ s with heap:=hX s.heap a vs }/\(arrOf st').map (·.2)=(yZ lt vs).toArray/\failedOf st'=none)
   (G:=fun p s'=>s'={ s with heap:=hX s.heap a vs }/\p=jW lt (kas_sort vs.length)) rfl (by omega) few (fun p' st' s' a1 a2 a3 a4=>⟨a4.1,?_,a3⟩)
   (kWp (n:=vs.length) (P:=Ord vs.length) (lt:=lt) (J:=fun s'=>s'={ s with heap:=hX s.heap a vs }) (fun i j C s' hi hj e hC=>?_) _ (yD (by omega)) rfl fun s' e _=>⟨e,rfl⟩)) ?_ fun _ _ e=>e)
  .rw [kat_snds rfl a2,a4.2]
   rfl
  .subst e
   exact hc i j hi hj _ (hC _ rfl)
  .rintro ⟨⟨⟩,st'⟩ s' ⟨rfl,q3,q4⟩
   exact rest st' q3 q4
def mK (h:Heap)(vs:List Value):Heap:=((h.push (seqObj "list" #[] 0)).update h.objs.size (Obj.mapSeq (· ++ vs.toArray))).push (seqObj "list" vs.toArray 0)
theorem fL (h:Heap)(vs:List Value):((h.push (seqObj "list" #[] 0)).update h.objs.size (Obj.mapSeq (· ++ vs.toArray))).objs.size=h.objs.size+1:=(Heap.size_update ..).trans (size_push' ..)
theorem wH (h:Heap)(vs:List Value):(mK h vs).get? (h.objs.size+1)=some (seqObj "list" vs.toArray 0):=by
 have q:=Heap.get?_push_size ((h.push (seqObj "list" #[] 0)).update h.objs.size (Obj.mapSeq (· ++ vs.toArray))) (o:=seqObj "list" vs.toArray 0) rfl;rw[fL] at q;exact q
theorem uE {h:Heap}{vs:List Value}{b:Addr}{o:Obj}(e:h.get? b=some o):(mK h vs).get? b=some o :=
 Heap.get?_push_of_some _ ((Heap.get?_update_ne _ _ _ _ (Nat.ne_of_lt (Heap.lt_size e))).trans (Heap.get?_push_of_some _ e))
section
variable {X:Cx}
def Srt (X:Cx)(H:Hp)(ys:List V)(lt:Nat->Nat->Bool):Prop:=∀(pins:List (Addr×Obj)) (σ:St) (s:Shared) (its:List Value) (A:Around),A.units<=X.A.units+2->Inv X pins σ H s->Vals ys its ->
 ∃κ:SortKind,(2<=ys.length->∀Q:SortKind->Shared->Prop,Q κ s->wpAny (model X.prog X.w) A (keyKind' its.toArray) Q (fun _ _=>False) s) /\
  ∀i j,i < ys.length->j < ys.length->∀Q:Bool->Shared->Prop,Q (lt i j) s->wpAny (model X.prog X.w) A (keyLt' κ (its.getD i Value.none) (its.getD j Value.none)) Q (fun _ _=>False) s
theorem tJ {ys:List V}{its:List Value}(r:Vals ys its)(i:Nat):RelV (ys.getD i .non) (its.getD i Value.none):=by
 induction r generalizing i with
 |nil=>exact rfl
 |cons a b ih =>
  cases i with
  |zero=>exact a
  |succ i=>exact ih i
theorem sG {ys:List V}{its:List Value}(r:Vals ys its):∀l:List Nat,Vals (l.map fun i=>ys.getD i .non) (l.map fun i=>its.getD i Value.none)
 |[]=>.nil
 |i::l=>.cons (tJ r i) (sG r l)
theorem iY (lt:Nat->Nat->Bool)(ys:List V):(uY lt ys).length=ys.length:=by
 unfold uY;rw[List.length_map,Array.length_toList]
 by_cases h:0 < ys.length
 .exact (wV lt ys.length h).size
 .have e:ys.length=0:=by omega
  rw[e]
  rfl
theorem qP:CallR X (.builtin "sorted") (fun xs H Q=>∃l ys lt,xs=[.ref l]/\SqL X.K H l ys/\ys.length < 64/\Srt X H ys lt/\∀p,H p=none->Q (.ref p) (upd H p (.lst (uY lt ys)))):=by
 intro pins s σ H xs us Q I r h;obtain⟨l,ys,lt,rfl,hl,h64,hs,q⟩:=h;obtain⟨u,rfl,ru⟩:=r.one;cases ru;obtain⟨vs,rv,pl,_⟩:=I.list hl;have hlen:=rv.length;have h64':vs.length < 64:=by omega
 have zl:vs.length<=sizeLine:=by rw[sizeLine_eq]; omega
 have up:∀{b:Addr} {o:Obj},s.heap.get? b=some o->b≠s.heap.objs.size+1:=fun e=>Nat.ne_of_lt (Nat.lt_succ_of_lt (Heap.lt_size e));have k1:∀b o,s.heap.get? b=some o->(hX (mK s.heap vs) (s.heap.objs.size+1) vs).get? b=some o:=fun b o e=>xL (uE e) (up e);obtain⟨κ,hk,hc⟩:=hs pins σ _ vs X.A.in1.in1 (Nat.le_refl _) (I.kept (t':=s.toks) k1) rv;obtain⟨k0,_,e2⟩:=eP (vs:=vs) (wH s.heap vs);have e3:∃c,(sortedHeap (mK s.heap vs) (s.heap.objs.size+1) vs (yZ lt vs).toArray).get? (s.heap.objs.size+1)=some (seqObj "list" (yZ lt vs).toArray c):=⟨_,get?_update_seq e2 fun _=>(yZ lt vs).toArray⟩
 obtain⟨c,e3⟩:=e3;have k2:∀b o,s.heap.get? b=some o->(sortedHeap (mK s.heap vs) (s.heap.objs.size+1) vs (yZ lt vs).toArray).get? b=some o:=fun b o e=>(Heap.get?_update_ne _ _ _ _ (up e)).trans (k1 b o e);refine Calls.call_function_entry kind_sorted plain_sorted entry_sorted (args_sorted1 _) (?_:wpAny _ _ (Builtin.«sorted» _) _ _ _);unfold Builtin.«sorted»;refine wpAny_bind (m:=checkCount "sorted" 1 1 _) (wpAny_pure (wpAny_bind (collect_list pl.isList (wpAny_bind (wpAny_newList ?_ zl)) zl)))
 show wpAny _ _ _ _ _ { s with heap:=mK s.heap vs };rw[fL];refine wpAny_bind (wpAny_holding (wpAny_call_entry slot_list_sort ⟨_,wH s.heap vs,rfl⟩ entry_list_sort ?inner (args_list_sort _)));refine eV (s:={ s with heap:=mK s.heap vs }) (κ:=κ) (lt:=lt) (wH s.heap vs) h64' (fun h2 Q' hq=>hk (by omega) Q' hq) (fun i j hi hj Q' hq=>hc i j (by omega) (by omega) Q' hq) ⟨_,rfl,wpAny_pure ⟨_,rfl,?_⟩⟩;refine⟨.ref (s.heap.objs.size+1),_,I.laid (t':=s.toks) (o:=.lst (uY lt ys)) k2 (Nat.le_succ _) ?_,rfl,q _ (I.hok.fresh (Nat.le_succ _))⟩
 refine⟨by rw[iY,sizeLine_eq]; omega,yZ lt vs,c,?_,e3⟩;unfold uY yZ;rw[hlen];exact sG rv _
end
end L2
namespace HT
open PySem PyProof.Rows
inductive TxtsAre:List Value->List Str->Prop
 |nil:TxtsAre [] []
 |cons (z:Str) (t:Tok) {vs:List Value} {zs:List Str}:TxtsAre vs zs->TxtsAre (.str z t::vs) (z::zs)
theorem TxtsAre.length {vs:List Value}{zs:List Str}(h:TxtsAre vs zs):vs.length=zs.length:=by
 induction h with
 |nil=>rfl
 |cons z t h ih=>rw[List.length_cons,List.length_cons,ih]
def lexS:List Str->List Str->Bool
 |[],[]=>false
 |[],_::_=>true
 |_::_,[]=>false
 |x::xs,y::ys=>if x=y then lexS xs ys else decide (x.cps.toList < y.cps.toList)
theorem lexS_cons (x y:Str)(xs ys:List Str):lexS (x::xs) (y::ys)=if x=y then lexS xs ys else decide (x.cps.toList < y.cps.toList):=rfl
section
open PySem.SeqAt
open PySem.AutoSeq1 (wpAny_loadPart')
open PySem.MeetsSeq PySem.MeetsSeq2 PySem.MeetsSeq3
theorem zB (l b:Addr)(items items2:Array Value)(n n2:Nat)(dd dd2:Option Addr)(sl sl2:Array (Option Value))(ns ms:List Str)(hi:TxtsAre items.toList ns)(hj:TxtsAre items2.toList ms):
  Meets (Builtin.«tuple.__lt__» ⟨[.ref l,.ref b],[]⟩)
   (fun _ R s=>s.heap.get? l=some { cls:=.type "tuple",dict:=dd,data:=.seq items n,slots:=sl }/\s.heap.get? b=some { cls:=.type "tuple",dict:=dd2,data:=.seq items2 n2,slots:=sl2 } /\
    R (.ok (.ret (.bool (lexS ns ms)))) s) :=
 .of_wp fun prog w A R s hh=>by
  obtain⟨hp,g,d,tk,os⟩:=s;obtain⟨hl,hb,h⟩:=hh;have sub:=AutoSeq1.sub_tuple_tuple;have z1:items.size=ns.length:=by rw[<- hi.length]; simp
  have z2:items2.size=ms.length:=by rw[<- hj.length]; simp
  wp_walk using wpAny_loadPart' hl,wpAny_loadPart' hb,wpAny_forIn_list _ (fun rest b s'=>b.1=none/\s'=⟨hp,g,d,tk,os⟩/\∃(vs ws:List Value) (ns' ms':List Str),rest=vs.zip ws /\
   TxtsAre vs ns'/\TxtsAre ws ms'/\ns'.length+items2.size=ms'.length+items.size/\R (.ok (.ret (.bool (lexS ns' ms')))) ⟨hp,g,d,tk,os⟩) _
  case turn =>
   rintro⟨y,x⟩ rest b s' ⟨hb',rfl,vs,ws,ns',ms',hz,hvi,hwi,hlen,hR⟩
   cases hvi with
   |nil=>rw[List.zip_nil_left] at hz; cases hz
   |cons a t hvi' =>
    cases hwi with
    |nil=>rw[List.zip_nil_right] at hz; cases hz
    |cons c u hwi' =>
     rw[List.zip_cons_cons] at hz;injection hz with hyx hrest
     injection hyx with hy hx
     subst hy hx;rw[lexS_cons] at hR
     simp only[List.length_cons] at hlen
     have he:∀(E:Value->Shared->Prop) (Q:Bool->Shared->Prop),Q (decide (a=c)) ⟨hp,g,d,tk,os⟩->wpAny (model prog w) A.in1 (eqBool (.str a t) (.str c u)) Q E ⟨hp,g,d,tk,os⟩:=fun E Q hq=>wpAny_eqBool_str hq;refine wpAny_bind (he _ _ ?_)
     by_cases hac:a=c
     .rw [decide_eq_true hac]
      rw[if_pos hac] at hR
      wp_walk
      exact⟨rfl,rfl,_,_,_,_,hrest,hvi',hwi',by omega,hR⟩
     .rw [decide_eq_false hac]
      rw[if_neg hac] at hR
      have hri:∀(E:Value->Shared->Prop) (Q:Value->Shared->Prop),Q (.bool (decide (a.cps.toList < c.cps.toList))) ⟨hp,g,d,tk,os⟩->wpAny (model prog w) A.in1 (richCompare .Lt (.str a t) (.str c u)) Q E ⟨hp,g,d,tk,os⟩ :=
       fun E Q hq=>(PyProof.Rows.lt_str hq:wpAny (model prog w) A.in1 (compareOp .Lt (.str a t) (.str c u)) Q E ⟨hp,g,d,tk,os⟩)
      wp_walk using hri
      exact⟨_,rfl,(by simpa using hR)⟩
  case fin =>
   rintro⟨b1,b2⟩ s' ⟨hb',rfl,vs,ws,ns',ms',hz,hvi,hwi,hlen,hR⟩
   simp only at hb'
   subst hb'
   have hv:lexS ns' ms'=decide (items.size < items2.size):=by
    cases hvi with
    |nil =>
     cases hwi with
     |nil =>
      simp only[List.length_nil] at hlen
      exact(decide_eq_false (by omega)).symm
     |cons c u hw =>
      simp only[List.length_nil,List.length_cons] at hlen
      exact(decide_eq_true (by omega)).symm
    |cons a t hv =>
     cases hwi with
     |nil =>
      simp only[List.length_nil,List.length_cons] at hlen
      exact(decide_eq_false (by omega)).symm
     |cons c u hw =>
      rw[List.zip_cons_cons] at hz;cases hz
   rw[hv] at hR
   wp_walk
   exact⟨_,rfl,(by simpa [Builtin.Tuple.tupleCompareSizes] using hR)⟩
  case h =>
   exact⟨rfl,rfl,items.toList,items2.toList,ns,ms,rfl,hi,hj,by omega,h⟩
end
section
theorem lt_tupStrs {prog:Program}{w:World}{A:Around}{E:Value->Shared->Prop}{s:Shared}{l b:Addr}{items items2:Array Value}{ns ms:List Str}{Q:Value->Shared->Prop}(hl:IsTup s.heap l items)(hb:IsTup s.heap b items2)(hi:TxtsAre items.toList ns)(hj:TxtsAre items2.toList ms)
  (hu:A.units < cLine) (h:Q (.bool (lexS ns ms)) s):wpAny (model prog w) A (compareOp .Lt (.ref l) (.ref b)) Q E s:=by
 obtain⟨⟨c1,dd,d1,sl⟩,ho,q1,n,q2⟩:=hl;obtain⟨⟨c2,dd2,d2,sl2⟩,ho2,q3,n2,q4⟩:=hb
 simp only at q1 q2 q3 q4
 subst q1 q2 q3 q4
 exact richCompare_meets_room (op:=.Lt) ⟨_,ho,rfl⟩ ⟨_,ho2,rfl⟩ PySem.F.slot_tuple_lt PySem.F.entry_tuple_lt (PySem.F.args_tuple_lt_2 _ _) (zB l b items items2 n n2 dd dd2 sl sl2 ns ms hi hj)
  ⟨ho,ho2,show Value.bool (lexS ns ms)≠Value.notImplemented/\Q (.bool (lexS ns ms)) s from⟨(fun x=>nomatch x),h⟩⟩ hu
end
end HT
namespace L2
open PySem PySem.W PyProof.Rows
theorem aH {zs:List Str}{its:List Value}(r:Vals (zs.map V.str) its):HT.TxtsAre its zs:=by
 induction zs generalizing its with
 |nil=>cases r; exact .nil
 |cons z zs ih =>
  rw[List.map_cons] at r
  cases r with
  |cons a b =>
   obtain⟨t,rfl⟩:=a;exact .cons z t (ih b)
def ltP (x y:List Str×Int):Bool:=if x.1=y.1 then decide (x.2 < y.2) else HT.lexS x.1 y.1
def aU (H:Hp)(v:V)(c:List Str×Int):Prop:=∃a kb,v=.ref a/\H a=some (.tup [.ref kb,.int c.2])/\H kb=some (.tup (c.1.map V.str))
theorem tO (k:List Str):(k.map (Sum.inr:Str->Key)).map kV=k.map V.str:=by
 rw[List.map_map]
 rfl
theorem gG {k k':List Str}:(k.map (Sum.inr:Str->Key)=k'.map Sum.inr)↔k=k':=by
 constructor
 .intro h
  induction k generalizing k' with
  |nil=>cases k' with
   |nil=>rfl
   |cons _ _=>cases h
  |cons x k ih=>cases k' with
   |nil=>cases h
   |cons y k' =>
    rw[List.map_cons,List.map_cons] at h;injection h with h1 h2
    rw[ih h2,Sum.inr.inj h1]
 .rintro rfl; rfl
theorem xU {X:Cx}{pins:List (Addr×Obj)}{σ:St}{H:Hp}{s:Shared}{v:V}{u:Value}{c:List Str×Int}(I:Inv X pins σ H s)(h:aU H v c)(r:RelV v u):
  ∃a kb o n t,u=.ref a/\s.heap.get? a=some o/\o.cls=.type "tuple"/\o.data=.seq #[.ref kb,.int c.2 t] n/\H kb=some (.tup (c.1.map V.str)):=by
 obtain⟨a,kb,rfl,h1,h2⟩:=h;cases (show u=Value.ref a from r);obtain⟨_,its,rv,o,e1,e2,⟨n,e3⟩,_⟩:=(show ObjOk X.prog X.w H s.heap a (.tup [.ref kb,.int c.2]) from I.hok a _ h1);obtain⟨u1,u2,rfl,r1,r2⟩:=sS rv;cases (show u1=Value.ref kb from r1);obtain⟨t,rfl⟩:=r2;exact⟨a,kb,o,n,t,rfl,e1,e2,e3,h2⟩
theorem bC {X:Cx}{H:Hp}{ys:List V}(hu:X.A.units+2 < cLine)(cs:Nat->List Str×Int)(hy:∀i,i < ys.length->aU H (ys.getD i .non) (cs i)):Srt X H ys (fun i j=>ltP (cs i) (cs j)):=by
 intro pins σ s its A hA I r;have hu':A.units < cLine:=by omega
 have all:∀v∈ys,∃c,aU H v c:=fun v hv=>by
  obtain⟨i,hi,e⟩:=List.getElem_of_mem hv;have q:=hy i hi;have eg:ys.getD i .non=v:=by simp[List.getD,hi,e]
  rw[eg] at q;exact⟨_,q⟩
 have tups:∀{ys:List V} {its:List Value},Vals ys its->(∀v∈ys,∃c,aU H v c)->∃fs,KatTups s.heap its fs/\fs.length=its.length/\∀f∈fs,Looks (model X.prog X.w) s.heap (typeOf f) (.type "tuple"):=by
  intro ys its r
  induction r with
  |nil=>exact fun _=>⟨[],.nil,rfl,fun f hf=>nomatch hf⟩
  |@cons y u ys its ry _ ih =>
   intro hall;obtain⟨fs,k1,k2,k3⟩:=ih fun v hv=>hall v (List.mem_cons_of_mem _ hv);obtain⟨c,hc⟩:=hall y List.mem_cons_self;obtain⟨a,kb,o,n,t,rfl,e1,e2,e3,e4⟩:=xU I hc ry;obtain⟨_,its2,_,o2,f1,f2,_,_⟩:=(show ObjOk X.prog X.w H s.heap kb (.tup (c.1.map V.str)) from I.hok kb _ e4);refine⟨.ref kb::fs,.cons e1 e2 e3 rfl k1,by rw[List.length_cons,List.length_cons,k2],fun f hf=>?_⟩
   rcases List.mem_cons.mp hf with rfl | hf
   .rw [<- f2]
    exact(show Looks (model X.prog X.w) s.heap (typeOf (.ref kb)) o2.cls from(Looks.ld f1).andThen .now)
   .exact k3 f hf
 have hlen:=r.length;refine⟨tuples' false,fun h2 Q hq=>?_,fun i j hi hj Q hq=>?_⟩
 .obtain ⟨fs,k1,k2,k3⟩:=tups r all
  exact kat_kind (T:=.type "tuple") k1 (by omega) k3 rfl hq
 .have hq:Q (ltP (cs i) (cs j)) s:=hq
  obtain⟨a,ka,oa,na,ta,ea,a1,a2,a3,a4⟩:=xU I (hy i hi) (tJ r i);obtain⟨b,kb,ob,nb,tb,eb,b1,b2,b3,b4⟩:=xU I (hy j hj) (tJ r j);rw[ea,eb];refine kat_lt a1 a3 b1 b3 ?_;have ka1:=mY I.hok (ks:=(cs i).1.map Sum.inr) (by rw[tO]; exact a4);have kb1:=mY I.hok (ks:=(cs j).1.map Sum.inr) (by rw[tO]; exact b4);refine kat_cons (wpAny_eqBool_tuple (knd:=dQ X.prog X.w) hu' ka1 kb1 ?_)
  by_cases hk:(cs i).1=(cs j).1
  .rw [decide_eq_true (gG.mpr hk)]
   refine kat_yes (kat_cons (wpAny_eqBool_int ?_));have hl:ltP (cs i) (cs j)=decide ((cs i).2 < (cs j).2):=if_pos hk;rw[hl] at hq
   by_cases hn:(cs i).2=(cs j).2
   .rw [show((cs i).2==(cs j).2)=true by simpa using hn]
    refine kat_yes (kat_nil ?_);rw[hn,decide_eq_false (Int.lt_irrefl _)] at hq;exact hq
   .rw [show((cs i).2==(cs j).2)=false by simpa using hn]
    refine kat_no (kat_one _ _ (PyProof.Rows.lt_int ?_));exact hq
  .rw [decide_eq_false (fun e=>hk (gG.mp e))]
   have hl:ltP (cs i) (cs j)=HT.lexS (cs i).1 (cs j).1:=if_neg hk;rw[hl] at hq;obtain⟨_,ia,ra,pa⟩:=(show ObjOk X.prog X.w H s.heap ka (.tup ((cs i).1.map V.str)) from I.hok ka _ a4);obtain⟨_,ib,rb,pb⟩:=(show ObjOk X.prog X.w H s.heap kb (.tup ((cs j).1.map V.str)) from I.hok kb _ b4);refine kat_no (kat_one _ _ (HT.lt_tupStrs pa.is pb.is (aH ra) (aH rb) hu' ?_));exact hq
def ltSI (x y:Str×Int):Bool:=if x.1=y.1 then decide (x.2 < y.2) else decide (x.1.cps.toList < y.1.cps.toList)
section
variable {X:Cx}
theorem wD {pins:List (Addr×Obj)}{σ:St}{H:Hp}{s:Shared}{A:Around}{ys:List V}{vs:List Value}{lt:Nat->Nat->Bool}{Z:PySem.Fin->Shared->Prop}{E:Value->Shared->Prop}(hA:A.in1.units<=X.A.units+2)(I:Inv X pins σ H s)(rv:Vals ys vs)(h64:ys.length < 64)(hs:Srt X H ys lt)
  (fin:∀p s',H p=none->Inv X pins σ (upd H p (.lst (uY lt ys))) s'->Z (.done (.ret (.ref p))) s') :
  wpAny (model X.prog X.w) A (newList vs >>= fun l=>holding [l] (call (.builtin "list.sort") [l] []) >>= fun _=>ret l) Z E s:=by
 have hlen:=rv.length;have h64':vs.length < 64:=by omega
 have zl:vs.length<=sizeLine:=by rw[sizeLine_eq]; omega
 refine wpAny_bind (wpAny_newList ?_ zl);have ga:(s.heap.push (seqObj "list" vs.toArray 0)).get? s.heap.objs.size=some (seqObj "list" vs.toArray 0):=Heap.get?_push_size _ rfl;have up:∀{b:Addr} {o:Obj},s.heap.get? b=some o->b≠s.heap.objs.size:=fun e=>Nat.ne_of_lt (Heap.lt_size e);have k1:∀b o,s.heap.get? b=some o->(hX (s.heap.push (seqObj "list" vs.toArray 0)) s.heap.objs.size vs).get? b=some o:=fun b o e=>xL (Heap.get?_push_of_some _ e) (up e)
 obtain⟨κ,hk,hc⟩:=hs pins σ _ vs A.in1 hA (I.kept (t':=s.toks) k1) rv;obtain⟨k0,_,e2⟩:=eP (vs:=vs) ga;have e3:∃c,(sortedHeap (s.heap.push (seqObj "list" vs.toArray 0)) s.heap.objs.size vs (yZ lt vs).toArray).get? s.heap.objs.size=some (seqObj "list" (yZ lt vs).toArray c):=⟨_,get?_update_seq e2 fun _=>(yZ lt vs).toArray⟩;obtain⟨c,e3⟩:=e3;have k2:∀b o,s.heap.get? b=some o->(sortedHeap (s.heap.push (seqObj "list" vs.toArray 0)) s.heap.objs.size vs (yZ lt vs).toArray).get? b=some o:=fun b o e=>(Heap.get?_update_ne _ _ _ _ (up e)).trans (k1 b o e)
 refine wpAny_bind (wpAny_holding (wpAny_call_entry slot_list_sort ⟨_,ga,rfl⟩ entry_list_sort ?inner (args_list_sort _)));refine eV (s:={ s with heap:=s.heap.push (seqObj "list" vs.toArray 0) }) (κ:=κ) (lt:=lt) ga h64' (fun h2 Q' hq=>hk (by omega) Q' hq) (fun i j hi hj Q' hq=>hc i j (by omega) (by omega) Q' hq) ⟨_,rfl,wpAny_pure ?_⟩;refine fin _ _ (I.hok.fresh (Nat.le_refl _)) (I.laid (t':=s.toks) (o:=.lst (uY lt ys)) k2 (Nat.le_refl _) ?_)
 refine⟨by rw[iY,sizeLine_eq]; omega,yZ lt vs,c,?_,e3⟩;unfold uY yZ;rw[hlen];exact sG rv _
abbrev isItems (v d:Addr):Heap->Prop:=fun h=>h.IsItemsView v d
end
end L2
namespace PySem.W
open PySem PySem.Calls PyProof.Rows PyProof.V PySem.Spec
def RawD (h:Heap)(d:Addr)(es:Array DictEntry)(ep:Nat):Prop:=∃o,h.get? d=some o/\o.ExactDict/\o.data=.dict es ep
theorem RawD.at {h h':Heap}{d:Addr}{es:Array DictEntry}{ep:Nat}(x:RawD h d es ep)(k:∀o,h.get? d=some o->h'.get? d=some o):RawD h' d es ep:=let ⟨o,e,r⟩:=x; ⟨o,k o e,r⟩
end PySem.W
namespace L2
open PySem PySem.W PySem.Spec PyProof.Rows
section
variable {X:Cx}
def cntK (k:Key)(ks:List Key):Nat:=ks.countP fun j=>decide (j=k)
end
end L2
namespace CL
open PySem PySem.Spec L2
open PyProof.Rows hiding St
inductive PV where
 |non | bl (b:Bool) | int (i:Int) | str (x:Str) | ty (n:String) | tup (xs:List PV) | kt (xs:List PV) | fz (xs:List PV) | vw (d:Addr) | ref (a:Addr)
def imm:HO->Bool
 |.tup _=>true
 |.frz _ (.dK _)=>false
 |.frz _ (.dT _)=>false
 |.frz _ _=>true
 |.ext _=>true
 |_=>false
def Imm (H H':Hp):Prop:=∀a o,imm o=true->H a=some o->H' a=some o
theorem Imm.new {H:Hp}{p:Addr}(hp:H p=none)(o:HO):Imm H (upd H p o):=fun a u _ e=>by
 rw[nQ (sX e hp)]; exact e
theorem Imm.mut {H:Hp}{p:Addr}{u:HO}(hp:H p=some u)(hu:imm u=false)(o:HO):Imm H (upd H p o):=fun a v i e=>by
 have:a≠p:=by
  intro z; subst z; rw[hp] at e; cases e; rw[hu] at i; cases i
 rw[nQ this]; exact e
def Fz (K:PySem.W.Frag)(H:Hp)(a:Addr)(xs:List V):Prop :=
 (∃o,H a=some (.frz o (.lst xs))) \/
  ∃(o:Obj) (its:Array Value) (n:Nat),K.lookup a=some o/\o.cls=.type "list"/\o.dict=none/\o.data=.seq its n/\its.size<=sizeLine/\Vals xs its.toList
theorem Fz.sq {K:PySem.W.Frag}{H:Hp}{a:Addr}{xs:List V}(h:Fz K H a xs):SqL K H a xs:=by
 rcases h with ⟨o,h⟩ | h
 .exact .inl (.inr ⟨o,h⟩)
 .exact .inr h
theorem Fz.imm {K:PySem.W.Frag}{H H':Hp}{a:Addr}{xs:List V}(h:Fz K H a xs)(k:Imm H H'):Fz K H' a xs:=by
 rcases h with ⟨o,h⟩ | h
 .exact .inl ⟨o,k _ _ rfl h⟩
 .exact .inr h
theorem SqT.imm {K:PySem.W.Frag}{H H':Hp}{a:Addr}{xs:List V}(h:SqT K H a xs)(k:Imm H H'):SqT K H' a xs:=by
 rcases h with (h | ⟨o,h⟩) | h
 .exact .inl (.inl (k _ _ rfl h))
 .exact .inl (.inr ⟨o,k _ _ rfl h⟩)
 .exact .inr h
mutual
inductive Rep (K:PySem.W.Frag)(H:Hp):V->PV->Prop
 |non:Rep K H .non .non
 |bl (b:Bool):Rep K H (.bl b) (.bl b)
 |int (i:Int):Rep K H (.int i) (.int i)
 |str (x:Str):Rep K H (.str x) (.str x)
 |ty (n:String):Rep K H (.ty n) (.ty n)
 |ref (a:Addr):Rep K H (.ref a) (.ref a)
 |tup {a:Addr} {vs:List V} {ts:List PV} (h:H a=some (.tup vs)) (r:Reps K H vs ts):Rep K H (.ref a) (.tup ts)
 |kt {a:Addr} {vs:List V} {ts:List PV} (h:SqT K H a vs) (r:Reps K H vs ts):Rep K H (.ref a) (.kt ts)
 |fz {a:Addr} {vs:List V} {ts:List PV} (h:Fz K H a vs) (r:Reps K H vs ts):Rep K H (.ref a) (.fz ts)
 |vw {a d:Addr} (h:H a=some (.ext (isItems a d))):Rep K H (.ref a) (.vw d)
inductive Reps (K:PySem.W.Frag)(H:Hp):List V->List PV->Prop
 |nil:Reps K H [] []
 |cons {v:V} {t:PV} {vs:List V} {ts:List PV} (h:Rep K H v t) (r:Reps K H vs ts):Reps K H (v::vs) (t::ts)
end
section
variable {K:PySem.W.Frag}{H H' H1 H2:Hp}
mutual
theorem Rep.imm {v:V}{t:PV}(k:Imm H H'):Rep K H v t->Rep K H' v t
 |.non=>.non
 |.bl b=>.bl b
 |.int i=>.int i
 |.str x=>.str x
 |.ty n=>.ty n
 |.ref a=>.ref a
 |.tup h r=>.tup (k _ _ rfl h) (Reps.imm k r)
 |.kt h r=>.kt (SqT.imm h k) (Reps.imm k r)
 |.fz h r=>.fz (Fz.imm h k) (Reps.imm k r)
 |.vw h=>.vw (k _ _ rfl h)
theorem Reps.imm {vs:List V}{ts:List PV}(k:Imm H H'):Reps K H vs ts->Reps K H' vs ts
 |.nil=>.nil
 |.cons h r=>.cons (Rep.imm k h) (Reps.imm k r)
end
theorem Reps.len {vs:List V}{ts:List PV}:Reps K H vs ts->vs.length=ts.length
 |.nil=>rfl
 |.cons _ r=>congrArg (· + 1) r.len
theorem Reps.get {vs:List V}{ts:List PV}{i:Nat}{t:PV}:Reps K H vs ts->ts[i]?=some t->∃v,vs[i]?=some v/\Rep K H v t
 |.nil,e=>by cases e
 |.cons h r,e=>by
  cases i with
  |zero=>cases e; exact⟨_,rfl,h⟩
  |succ i=>exact r.get (i:=i) e
theorem Reps.append {vs us:List V}{ts ss:List PV}:Reps K H vs ts->Reps K H us ss->Reps K H (vs++us) (ts++ss)
 |.nil,r=>r
 |.cons h t,r=>.cons h (t.append r)
theorem Reps.take {vs:List V}{ts:List PV}:∀(n:Nat),Reps K H vs ts->Reps K H (vs.take n) (ts.take n)
 |0,_=>.nil
 |_+1,.nil=>.nil
 |n+1,.cons h r=>.cons h (r.take n)
theorem Reps.drop {vs:List V}{ts:List PV}:∀(n:Nat),Reps K H vs ts->Reps K H (vs.drop n) (ts.drop n)
 |0,r=>r
 |_+1,.nil=>.nil
 |n+1,.cons _ r=>r.drop n
theorem Reps.set {vs:List V}{ts:List PV}{v:V}{t:PV}(h:Rep K H v t):∀(n:Nat),Reps K H vs ts->Reps K H (vs.set n v) (ts.set n t)
 |_,.nil=>.nil
 |0,.cons _ r=>.cons h r
 |n+1,.cons g r=>.cons g (r.set h n)
theorem Reps.reverse {vs:List V}{ts:List PV}(r:Reps K H vs ts):Reps K H vs.reverse ts.reverse:=by
 induction vs generalizing ts with
 |nil=>cases r; exact .nil
 |cons v vs ih =>
  cases r with
  |cons h r=>rw[List.reverse_cons,List.reverse_cons]; exact(ih r).append (.cons h .nil)
end
inductive CO where
 |lst (xs:List PV)
 |dK (kvs:List (Key×PV))
 |fK (kvs:List (Key×PV))
 |dT (kvs:List (List Key×PV))
 |fT (kvs:List (List Key×PV))
 |dP (kvs:List (List (List Key)×PV))
 |ins (c dx:Addr) (fs:List (Str×PV))
abbrev CH:=Addr->Option CO
def uQ (C:CH)(a:Addr)(o:CO):CH:=fun b=>if b=a then some o else C b
theorem jQ {C:CH}{a:Addr}{o:CO}:uQ C a o a=some o:=if_pos rfl
theorem yQ {C:CH}{a b:Addr}{o:CO}(h:b≠a):uQ C a o b=C b:=if_neg h
abbrev FP {κ:Type}(K:PySem.W.Frag)(H:Hp):List (κ×V)->List (κ×PV)->Prop:=Paired fun p q=>p.1=q.1/\Rep K H p.2 q.2
abbrev KP (K:PySem.W.Frag)(H:Hp):List (Key×V)->List (Key×PV)->Prop:=Paired fun p q=>p.1=q.1/\Rep K H p.2 q.2
def ORel (K:PySem.W.Frag)(H:Hp)(a:Addr):CO->Prop
 |.lst ts=>∃vs,H a=some (.lst vs)/\Reps K H vs ts
 |.dK kvs=>∃vs,H a=some (.dK vs)/\KP K H vs kvs
 |.fK kvs=>∃o vs,H a=some (.frz o (.dK vs))/\KP K H vs kvs
 |.dT kvs=>∃vs,H a=some (.dT vs)/\FP K H vs kvs
 |.fT kvs=>∃o vs,H a=some (.frz o (.dT vs))/\FP K H vs kvs
 |.dP kvs=>∃vs,H a=some (.dP vs)/\FP K H vs kvs
 |.ins c dx fs=>∃gs,H a=some (.ins c dx gs)/\FP K H gs fs
def HRel (K:PySem.W.Frag)(H:Hp)(C:CH):Prop:=∀a o,C a=some o->ORel K H a o
def still:Option CO->Bool
 |none=>true
 |some (.fK _)=>true
 |some (.fT _)=>true
 |_=>false
def Fw (H:Hp)(C:CH)(H':Hp)(C':CH):Prop:=∀a,still (C a)=true->H a≠none->C' a=C a/\H' a=H a
section
variable {K:PySem.W.Frag}{H H' H1 H2:Hp}{C C' C1 C2:CH}
theorem Fw.refl:Fw H C H C:=fun _ _ _=>⟨rfl,rfl⟩
theorem Fw.trans (f:Fw H C H1 C1)(g:Fw H1 C1 H2 C2):Fw H C H2 C2:=fun a h n=>by
 obtain⟨c,e⟩:=f a h n;obtain⟨c',e'⟩:=g a (by rw[c]; exact h) (by rw[e]; exact n);exact⟨c'.trans c,e'.trans e⟩
theorem ORel.mut {a:Addr}{o:CO}(h:ORel K H a o):∃u,H a=some u/\imm u=false:=by
 cases o with
 |lst ts=>obtain⟨vs,e,_⟩:=h; exact⟨_,e,rfl⟩
 |dK ts=>obtain⟨vs,e,_⟩:=h; exact⟨_,e,rfl⟩
 |fK ts=>obtain⟨o,vs,e,_⟩:=h; exact⟨_,e,rfl⟩
 |dT ts=>obtain⟨vs,e,_⟩:=h; exact⟨_,e,rfl⟩
 |fT ts=>obtain⟨o,vs,e,_⟩:=h; exact⟨_,e,rfl⟩
 |dP ts=>obtain⟨vs,e,_⟩:=h; exact⟨_,e,rfl⟩
 |ins c dx fs=>obtain⟨vs,e,_⟩:=h; exact⟨_,e,rfl⟩
theorem HRel.hid (h:HRel K H C){a:Addr}{o:HO}(i:imm o=true)(e:H a=some o):C a=none:=by
 cases c:C a with
 |none=>rfl
 |some u =>
  obtain⟨v,e',i'⟩:=(h a u c).mut;rw[e] at e'; cases e'; rw[i] at i'; cases i'
theorem HRel.fresh (h:HRel K H C){a:Addr}(e:H a=none):C a=none:=by
 cases c:C a with
 |none=>rfl
 |some u =>
  obtain⟨v,e',i'⟩:=(h a u c).mut;rw[e] at e'; cases e'
theorem Fw.imm (f:Fw H C H' C')(h:HRel K H C):Imm H H':=fun a o i e=>by
 rw[(f a (by rw[h.hid i e]; rfl) (by rw[e]; exact fun z=>nomatch z)).2]; exact e
theorem ORel.imm {a:Addr}{o:CO}(h:ORel K H a o)(k:Imm H H')(e:H' a=H a):ORel K H' a o:=by
 cases o with
 |lst ts=>obtain⟨vs,q,r⟩:=h; exact⟨vs,e.trans q,r.imm k⟩
 |dK ts=>obtain⟨vs,q,r⟩:=h; exact⟨vs,e.trans q,Paired.mapP r fun _ _ z=>⟨z.1,z.2.imm k⟩⟩
 |fK ts=>obtain⟨o,vs,q,r⟩:=h; exact⟨o,vs,e.trans q,Paired.mapP r fun _ _ z=>⟨z.1,z.2.imm k⟩⟩
 |dT ts=>obtain⟨vs,q,r⟩:=h; exact⟨vs,e.trans q,Paired.mapP r fun _ _ z=>⟨z.1,z.2.imm k⟩⟩
 |fT ts=>obtain⟨o,vs,q,r⟩:=h; exact⟨o,vs,e.trans q,Paired.mapP r fun _ _ z=>⟨z.1,z.2.imm k⟩⟩
 |dP ts=>obtain⟨vs,q,r⟩:=h; exact⟨vs,e.trans q,Paired.mapP r fun _ _ z=>⟨z.1,z.2.imm k⟩⟩
 |ins c dx fs=>obtain⟨vs,q,r⟩:=h; exact⟨vs,e.trans q,Paired.mapP r fun _ _ z=>⟨z.1,z.2.imm k⟩⟩
theorem HRel.new (h:HRel K H C){p:Addr}(hp:H p=none)(o:HO):HRel K (upd H p o) C:=fun a u c=>by
 obtain⟨v,e,_⟩:=(h a u c).mut;exact(h a u c).imm (Imm.new hp o) (nQ (sX e hp))
theorem Fw.new {p:Addr}(hp:H p=none)(o:HO):Fw H C (upd H p o) C:=fun a c n=>⟨rfl,nQ fun z=>n (z▸hp)⟩
theorem HRel.lay (h:HRel K H C){p:Addr}(hp:H p=none){o:HO}{u:CO}(r:ORel K (upd H p o) p u):HRel K (upd H p o) (uQ C p u):=fun a v c=>by
 by_cases e:a=p
 .subst e; rw[jQ] at c; cases c; exact r
 .rw [yQ e] at c; exact h.new hp o a v c
theorem Fw.lay {p:Addr}(hp:H p=none)(o:HO)(u:CO):Fw H C (upd H p o) (uQ C p u):=fun a c n=>by
 have e:a≠p:=fun z=>n (z▸hp);exact⟨yQ e,nQ e⟩
theorem HRel.put (h:HRel K H C){p:Addr}{o₀:HO}(hp:H p=some o₀)(hi:imm o₀=false){o:HO}{u:CO}(r:ORel K (upd H p o) p u):HRel K (upd H p o) (uQ C p u):=fun a v c=>by
 by_cases e:a=p
 .subst e; rw[jQ] at c; cases c; exact r
 .rw [yQ e] at c; exact(h a v c).imm (Imm.mut hp hi o) (nQ e)
theorem Fw.put {p:Addr}{u₀:CO}(hp:C p=some u₀)(o:HO)(u:CO)(hs:still (some u₀)=false:=by rfl):Fw H C (upd H p o) (uQ C p u):=fun a c n=>by
 have e:a≠p:=fun z=>by subst z; rw[hp,hs] at c; cases c
 exact⟨yQ e,nQ e⟩
end
abbrev CSt:=List (Option PV)
abbrev K1:=PV->CH->Prop
def RepO (K:PySem.W.Frag)(H:Hp):Option V->Option PV->Prop
 |_,none=>True
 |some v,some t=>Rep K H v t
 |none,some _=>False
def SRel (K:PySem.W.Frag)(H:Hp):St->CSt->Prop:=Paired (RepO K H)
section
variable {K:PySem.W.Frag}{H H':Hp}{C C':CH}
theorem RepO.imm {v:Option V}{t:Option PV}(k:Imm H H')(h:RepO K H v t):RepO K H' v t:=by
 cases t with
 |none=>cases v<;>trivial
 |some t=>cases v with
  |none=>exact h
  |some v=>exact Rep.imm k h
theorem SRel.imm {σ:St}{ρ:CSt}(s:SRel K H σ ρ)(k:Imm H H'):SRel K H' σ ρ:=Paired.mapP s fun _ _=>RepO.imm k
theorem SRel.get {σ:St}{ρ:CSt}{i:Nat}{t:PV}(s:SRel K H σ ρ)(e:ρ[i]?=some (some t)):∃v,σ[i]?=some (some v)/\Rep K H v t:=by
 induction s generalizing i with
 |nil=>cases e
 |@cons a b l₁ l₂ h r ih =>
  cases i with
  |zero =>
   cases e
   cases a with
   |none=>exact h.elim
   |some v=>exact⟨v,rfl,h⟩
  |succ i=>exact ih (i:=i) e
theorem SRel.set {σ:St}{ρ:CSt}{v:V}{t:PV}(s:SRel K H σ ρ)(h:Rep K H v t)(i:Nat):SRel K H (σ.set i (some v)) (ρ.set i (some t)):=by
 induction s generalizing i with
 |nil=>exact .nil
 |cons h' r ih =>
  cases i with
  |zero=>exact .cons h r
  |succ i=>exact .cons h' (ih i)
end
def gZ {α β:Type}(K:PySem.W.Frag)(rel:Hp->α->β->Prop)(c:CSt->CH->(β->CH->Prop)->Prop):St->Hp->(α->Hp->Prop)->Prop:=fun σ H Q =>
 ∃ρ C R,SRel K H σ ρ/\HRel K H C/\c ρ C R/\∀v H' t C',R t C'->rel H' v t->HRel K H' C'->Fw H C H' C'->Q v H'
abbrev TCE:=CSt->CH->K1->Prop
abbrev TCT:=CSt->CH->(Bool->CH->Prop)->Prop
abbrev TCA:=CSt->CH->(List PV->CH->Prop)->Prop
abbrev kB:Hp->Bool->Bool->Prop:=fun _ a b=>a=b
structure lJ where
 nx:CSt->CH->Prop
 rt:K1
 bk:CSt->CH->Prop:=fun _ _=>False
 ct:CSt->CH->Prop:=fun _ _=>False
abbrev TCS:=lJ->CSt->CH->Prop
structure ERel (K:PySem.W.Frag)(H:Hp)(C:CH)(E:lJ)(D:uP):Prop where
 nx:∀σ' H' ρ' C',E.nx ρ' C'->SRel K H' σ' ρ'->HRel K H' C'->Fw H C H' C'->D.nx σ' H'
 rt:∀v H' t C',E.rt t C'->Rep K H' v t->HRel K H' C'->Fw H C H' C'->D.rt v H'
 bk:∀σ' H' ρ' C',E.bk ρ' C'->SRel K H' σ' ρ'->HRel K H' C'->Fw H C H' C'->D.bk σ' H'
 ct:∀σ' H' ρ' C',E.ct ρ' C'->SRel K H' σ' ρ'->HRel K H' C'->Fw H C H' C'->D.ct σ' H'
theorem ERel.fw {K:PySem.W.Frag}{H H1:Hp}{C C1:CH}{E:lJ}{D:uP}(e:ERel K H C E D)(f:Fw H C H1 C1):ERel K H1 C1 E D :=
 ⟨fun σ' H' ρ' C' h s r g=>e.nx σ' H' ρ' C' h s r (f.trans g),fun v H' t C' h s r g=>e.rt v H' t C' h s r (f.trans g),fun σ' H' ρ' C' h s r g=>e.bk σ' H' ρ' C' h s r (f.trans g),fun σ' H' ρ' C' h s r g=>e.ct σ' H' ρ' C' h s r (f.trans g)⟩
def dO (K:PySem.W.Frag)(c:TCS):TS:=fun D σ H=>∃ρ C E,SRel K H σ ρ/\HRel K H C/\c E ρ C/\ERel K H C E D
structure CE (X:Cx)(e:Expr)(c:TCE):Prop where
 h:JE X e (gZ X.K (Rep X.K) c)
structure CT (X:Cx)(e:Expr)(c:TCT):Prop where
 h:JT X e (gZ X.K kB c)
structure CW (X:Cx)(e:Expr)(c:TCT):Prop where
 h:JW X e (gZ X.K kB c)
structure CA (X:Cx)(es:List Expr)(c:TCA):Prop where
 h:JA X es (gZ X.K (Reps X.K) c)
structure CS (X:Cx)(st:Stmt)(c:TCS):Prop where
 h:JS X st (dO X.K c)
structure CB (X:Cx)(st:List Stmt)(c:TCS):Prop where
 h:JB X st (dO X.K c)
section
variable {X:Cx}{a b c e o i:Expr}{es:List Expr}{pos:Pos}{rest:List Expr}{st:Stmt}{sts:List Stmt}
theorem JE.weak {t t':TE}(h:JE X e t)(w:∀σ H Q,t' σ H Q->t σ H Q):JE X e t':=⟨fun pins s σ H Q I q=>h.h pins s σ H Q I (w σ H Q q)⟩
theorem JT.weak {t t':TT}(h:JT X e t)(w:∀σ H Q,t' σ H Q->t σ H Q):JT X e t':=⟨fun pins s σ H Q I q=>h.h pins s σ H Q I (w σ H Q q)⟩
theorem JW.weak {t t':TT}(h:JW X e t)(w:∀σ H Q,t' σ H Q->t σ H Q):JW X e t':=⟨fun wh pins s σ H Q I q=>h.h wh pins s σ H Q I (w σ H Q q)⟩
theorem JA.weak {t t':TA}(h:JA X es t)(w:∀σ H Q,t' σ H Q->t σ H Q):JA X es t':=⟨fun p pins s σ H Q I q=>h.h p pins s σ H Q I (w σ H Q q)⟩
theorem JS.weak {t t':TS}(h:JS X st t)(w:∀D σ H,t' D σ H->t D σ H):JS X st t':=⟨fun pins s σ H D I q=>h.h pins s σ H D I (w D σ H q)⟩
theorem JB.weak {t t':TS}(h:JB X sts t)(w:∀D σ H,t' D σ H->t D σ H):JB X sts t':=⟨fun pins s σ H D I q=>h.h pins s σ H D I (w D σ H q)⟩
def qY (i:Nat):TCE:=fun ρ C Q=>match ρ[i]? with
 |some (some t)=>Q t C
 |_=>False
def cC (t:PV):TCE:=fun _ C Q=>Q t C
theorem cv (i:Nat){x:Str}{pos:Pos}(hN:X.N[i]?=some x:=by rfl)(hv:Vis X.env.scope x:=by first | exact Or.inl rfl | exact Or.inr (Or.inl rfl) | exact Or.inr (Or.inr rfl))(hd:(x==("__debug__" : Str))=false:=by decide)
  (hcd:(x==("__classdict__" : Str))=false:=by decide):CE X (.Name x pos) (qY i):=⟨JE.weak (jv i hN hv hd hcd) fun σ H Q ⟨ρ,C,R,s,h,q,f⟩=>by
 unfold qY at q
 split at q
 .next t e =>
  obtain⟨v,ev,r⟩:=s.get e;exact⟨v,ev,f v H t C q r h Fw.refl⟩
 .exact q.elim⟩
theorem uA {v:V}{t:PV}(h:JE X e (tC v))(r:∀H,Rep X.K H v t):CE X e (cC t):=⟨JE.weak h fun σ H Q ⟨ρ,C,R,s,h,q,f⟩=>f v H t C q (r H) h Fw.refl⟩
theorem zQ {i j pos}:CE X (.Constant (.int i) j pos) (cC (.int i)):=uA je_int fun _=>.int i
theorem vM {b j pos}:CE X (.Constant (.bool b) j pos) (cC (.bl b)):=uA je_bl fun _=>.bl b
theorem uV {j pos}:CE X (.Constant .none j pos) (cC .non):=uA je_non fun _=>.non
theorem kQ {x j pos}:CE X (.Constant (.str x) j pos) (cC (.str x)):=uA je_str fun _=>.str x
theorem kM {x:Str}{n:String}(hg:Gl X x)(hm:X.mg x=none)(hv:bootBuiltins x=some (.type n))(hn:x ≠ "__name__":=by decide)(hd:(x==("__debug__" : Str))=false:=by decide):CE X (.Name x pos) (cC (.ty n)):=uA (je_bltn (v:=.ty n) hg hm hv rfl hn hd) fun _=>.ty n
abbrev R2C:=PV->PV->CH->K1->Prop
def Cop (K:PySem.W.Frag)(r:R2)(cr:R2C):Prop:=∀x y px py H C Q R,Rep K H x px->Rep K H y py->HRel K H C->cr px py C R->(∀v H' t C',R t C'->Rep K H' v t->HRel K H' C'->Fw H C H' C'->Q v H')->r x y H Q
def cOp (cr:R2C)(ca cb:TCE):TCE:=fun ρ C Q=>ca ρ C fun x C1=>cb ρ C1 fun y C2=>cr x y C2 Q
theorem uG {K:PySem.W.Frag}{r:R2}{cr:R2C}{ca cb:TCE}(hr:Cop K r cr){σ:St}{H:Hp}{Q:VK}(h:gZ K (Rep K) (cOp cr ca cb) σ H Q):tOp r (gZ K (Rep K) ca) (gZ K (Rep K) cb) σ H Q:=by
 obtain⟨ρ,C,R,s,h,q,f⟩:=h
 exact⟨ρ,C,_,s,h,q,fun x H1 px C1 q1 rx h1 f1=>⟨ρ,C1,_,s.imm (f1.imm h),h1,q1,fun y H2 py C2 q2 ry h2 f2 =>
  hr x y px py H2 C2 Q R (rx.imm (f2.imm h1)) ry h2 q2 fun v H' t C' q' r' h' f'=>f v H' t C' q' r' h' (f1.trans (f2.trans f'))⟩⟩
theorem sQ {op:Operator}{r:R2}{cr:R2C}{ca cb:TCE}(ho:OpR X (binaryOp op) r)(hr:Cop X.K r cr)(ha:CE X a ca)(hb:CE X b cb):CE X (.BinOp a op b pos) (cOp cr ca cb):=⟨JE.weak (je_op ho ha.h hb.h) fun _ _ _ h=>uG hr h⟩
theorem gV {op:CmpOp}{r:R2}{cr:R2C}{ca cb:TCE}(ho:OpR X (compareOp op) r)(hr:Cop X.K r cr)(ha:CE X a ca)(hb:CE X b cb)(hm:behindInMarks op b=false):CE X (.Compare a [op] [b] pos) (cOp cr ca cb):=⟨JE.weak (je_cmp ho ha.h hb.h hm) fun _ _ _ h=>uG hr h⟩
def rD (k:Bool->CH->Prop):PV->CH->Prop
 |.bl b,C=>k b C
 |_,_=>False
def zP (c:TCE):TCT:=fun ρ C Q=>c ρ C (rD Q)
theorem dA {K:PySem.W.Frag}{H:Hp}{C:CH}{v:V}{t:PV}{Q:Bool->CH->Prop}(q:rD Q t C)(r:Rep K H v t):∃b,t=.bl b/\v=.bl b/\Q b C:=by
 cases t with
 |bl b=>cases r; exact⟨b,rfl,rfl,q⟩
 |_=>exact q.elim
theorem fR {K:PySem.W.Frag}{c:TCE}{σ:St}{H:Hp}{Q:Bool->Hp->Prop}(h:gZ K kB (zP c) σ H Q):eS (gZ K (Rep K) c) σ H Q:=by
 obtain⟨ρ,C,R,s,h,q,f⟩:=h
 exact⟨ρ,C,_,s,h,q,fun x H1 px C1 q1 rx h1 f1=>by
  obtain⟨b,rfl,rfl,q2⟩:=dA q1 rx
  exact⟨b,rfl,f b H1 b C1 q2 rfl h1 f1⟩⟩
theorem eE {op:CmpOp}{r:R2}{cr:R2C}{ca cb:TCE}(ho:OpR X (compareOp op) r)(hr:Cop X.K r cr)(ha:CE X a ca)(hb:CE X b cb)(hm:behindInMarks op b=false):CT X (.Compare a [op] [b] pos) (zP (cOp cr ca cb)) :=
 ⟨JT.weak (jt_cmp ho ha.h hb.h hm) fun σ H Q h=>by
  obtain⟨ρ,C,R,s,h,q,f⟩:=h;refine uG hr (Q:=fun x H'=>IBl Q x H') ⟨ρ,C,_,s,h,q,fun x H1 px C1 q1 rx h1 f1=>?_⟩;obtain⟨b,rfl,rfl,q2⟩:=dA q1 rx
  exact⟨b,rfl,f b H1 b C1 q2 rfl h1 f1⟩⟩
theorem pK {c:TCE}(h:CE X e c)(he:vY e=true:=by rfl):CT X e (zP c):=⟨JT.weak (jt_val h.h he) fun _ _ _ h=>fR h⟩
def cUn (cr:PV->CH->K1->Prop)(ca:TCE):TCE:=fun ρ C Q=>ca ρ C fun x C1=>cr x C1 Q
def Cun (K:PySem.W.Frag)(r:V->Hp->VK->Prop)(cr:PV->CH->K1->Prop):Prop:=∀x px H C Q R,Rep K H x px->HRel K H C->cr px C R->(∀v H' t C',R t C'->Rep K H' v t->HRel K H' C'->Fw H C H' C'->Q v H')->r x H Q
theorem tN {op:UnaryOp}{r:V->Hp->VK->Prop}{cr:PV->CH->K1->Prop}{ca:TCE}(ho:UnR X (unaryOp op) r)(hr:Cun X.K r cr)(ha:CE X a ca):CE X (.UnaryOp op a pos) (cUn cr ca):=⟨JE.weak (je_un ho ha.h) fun σ H Q ⟨ρ,C,R,s,h,q,f⟩ =>
 ⟨ρ,C,_,s,h,q,fun x H1 px C1 q1 rx h1 f1=>hr x px H1 C1 Q R rx h1 q1 fun v H' t C' q' r' h' f'=>f v H' t C' q' r' h' (f1.trans f')⟩⟩
def cAnd (t u:TCT):TCT:=fun ρ C Q=>t ρ C fun b C1=>if b=true then u ρ C1 Q else Q false C1
def cOr (t u:TCT):TCT:=fun ρ C Q=>t ρ C fun b C1=>if b=true then Q true C1 else u ρ C1 Q
def cNot (t:TCT):TCT:=fun ρ C Q=>t ρ C fun b C1=>Q (!b) C1
theorem cw_pt {t:TCT}(h:CW X e t):CT X e t:=⟨jw_pt h.h⟩
theorem cw_and1 {t:TCT}(h:CT X a t):CW X (.BoolOp .And [a] pos) t:=⟨jw_and1 h.h⟩
theorem cw_or1 {t:TCT}(h:CT X a t):CW X (.BoolOp .Or [a] pos) t:=⟨jw_or1 h.h⟩
theorem cw_and {t u:TCT}(ha:CT X a t)(hb:CW X (.BoolOp .And (b::rest) pos) u):CW X (.BoolOp .And (a::b::rest) pos) (cAnd t u):=⟨JW.weak (jw_and ha.h hb.h) fun σ H Q ⟨ρ,C,R,s,h,q,f⟩ =>
 ⟨ρ,C,_,s,h,q,fun x H1 y C1 q1 e h1 f1=>by
  cases e
  cases x with
  |true=>exact⟨ρ,C1,R,s.imm (f1.imm h),h1,q1,fun v H' t C' q' r' h' f'=>f v H' t C' q' r' h' (f1.trans f')⟩
  |false=>exact f false H1 false C1 q1 rfl h1 f1⟩⟩
theorem cw_or {t u:TCT}(ha:CT X a t)(hb:CW X (.BoolOp .Or (b::rest) pos) u):CW X (.BoolOp .Or (a::b::rest) pos) (cOr t u):=⟨JW.weak (jw_or ha.h hb.h) fun σ H Q ⟨ρ,C,R,s,h,q,f⟩ =>
 ⟨ρ,C,_,s,h,q,fun x H1 y C1 q1 e h1 f1=>by
  cases e
  cases x with
  |true=>exact f true H1 true C1 q1 rfl h1 f1
  |false=>exact⟨ρ,C1,R,s.imm (f1.imm h),h1,q1,fun v H' t C' q' r' h' f'=>f v H' t C' q' r' h' (f1.trans f')⟩⟩⟩
theorem cU {t:TCT}(ha:CT X a t):CT X (.UnaryOp .Not a pos) (cNot t):=⟨JT.weak (jt_not ha.h) fun σ H Q ⟨ρ,C,R,s,h,q,f⟩ =>
 ⟨ρ,C,_,s,h,q,fun x H1 y C1 q1 e h1 f1=>by cases e; exact f _ H1 _ C1 q1 rfl h1 f1⟩⟩
def cAndV (ca cb:TCE):TCE:=fun ρ C Q=>ca ρ C (rD fun b C1=>if b=true then cb ρ C1 Q else Q (.bl false) C1)
theorem ce_one {op}{c:TCE}(h:CE X a c):CE X (.BoolOp op [a] pos) c:=⟨je_one h.h⟩
theorem ce_and {ca cb:TCE}(ha:CE X a ca)(hb:CE X (.BoolOp .And (b::rest) pos) cb):CE X (.BoolOp .And (a::b::rest) pos) (cAndV ca cb):=⟨JE.weak (je_and ha.h hb.h) fun σ H Q ⟨ρ,C,R,s,h,q,f⟩ =>
 ⟨ρ,C,_,s,h,q,fun x H1 px C1 q1 rx h1 f1=>by
  obtain⟨b,rfl,rfl,q2⟩:=dA q1 rx;refine⟨b,rfl,?_⟩
  cases b with
  |true=>exact⟨ρ,C1,R,s.imm (f1.imm h),h1,q2,fun v H' t C' q' r' h' f'=>f v H' t C' q' r' h' (f1.trans f')⟩
  |false=>exact f _ H1 _ C1 q2 (.bl false) h1 f1⟩⟩
def xP:TCA:=fun _ C Q=>Q [] C
def bV (ca:TCE)(cr:TCA):TCA:=fun ρ C Q=>ca ρ C fun x C1=>cr ρ C1 fun xs C2=>Q (x::xs) C2
theorem oZ:CA X [] xP:=⟨JA.weak ja_nil fun σ H Q ⟨ρ,C,R,s,h,q,f⟩=>f [] H [] C q .nil h Fw.refl⟩
theorem qQ {ca:TCE}{cr:TCA}(ha:CE X e ca)(hr:CA X es cr)(hs:cQ e=true:=by rfl):CA X (e::es) (bV ca cr):=⟨JA.weak (ja_cons ha.h hr.h hs) fun σ H Q ⟨ρ,C,R,s,h,q,f⟩ =>
 ⟨ρ,C,_,s,h,q,fun x H1 px C1 q1 rx h1 f1=>⟨ρ,C1,_,s.imm (f1.imm h),h1,q1,fun xs H2 ps C2 q2 rs h2 f2=>f (x::xs) H2 (px::ps) C2 q2 (.cons (rx.imm (f2.imm h1)) rs) h2 (f1.trans f2)⟩⟩⟩
def cTup (ca:TCA):TCE:=fun ρ C Q=>ca ρ C fun xs C1=>xs.length<=sizeLine/\Q (.tup xs) C1
def cLst (ca:TCA):TCE:=fun ρ C Q=>ca ρ C fun xs C1=>xs.length<=sizeLine/\∀p,C1 p=none->Q (.ref p) (uQ C1 p (.lst xs))
theorem bQ {x1}{ca:TCA}(h:CA X es ca):CE X (.Tuple es x1 pos) (cTup ca):=⟨JE.weak (je_tup h.h) fun σ H Q ⟨ρ,C,R,s,h,q,f⟩ =>
 ⟨ρ,C,_,s,h,q,fun xs H1 ps C1 q1 rs h1 f1=>⟨by rw[rs.len]; exact q1.1,fun p hp=>f (.ref p) _ (.tup ps) C1 q1.2 (.tup fQ (rs.imm (Imm.new hp _))) (h1.new hp _) (f1.trans (Fw.new hp _))⟩⟩⟩
theorem zX {ca:TCA}(h:CA X es ca):CE X (.List es pos) (cLst ca):=⟨JE.weak (je_lst h.h) fun σ H Q ⟨ρ,C,R,s,h,q,f⟩ =>
 ⟨ρ,C,_,s,h,q,fun xs H1 ps C1 q1 rs h1 f1=>⟨by rw[rs.len]; exact q1.1,fun p hp=>f (.ref p) _ (.ref p) _ (q1.2 p (h1.fresh hp)) (.ref p) (h1.lay hp ⟨xs,fQ,rs.imm (Imm.new hp _)⟩) (f1.trans (Fw.lay hp _ _))⟩⟩⟩
abbrev GC:=List PV->CH->K1->Prop
def spC (K:PySem.W.Frag)(G:GC):Sp:=fun vs H Q _=>∃ts C R,Reps K H vs ts/\HRel K H C/\G ts C R/\∀v H' t C',R t C'->Rep K H' v t->HRel K H' C'->Fw H C H' C'->Q v H'
def eU (G:GC)(ca:TCA):TCE:=fun ρ C Q=>ca ρ C fun xs C1=>G xs C1 Q
theorem ce_call {CX:CXT}{k:Nat}{f:Addr}{fd:FuncData}{ps:List Str}{G:GC}{E:XK}{x:Str}{p:Pos}{ca:TCA}(F:FnOk X.prog X.w X.K X.mg X.base CX k f fd ps (spC X.K G))(hr:Room k X.A)(hg:Gl X x)(hm:X.mg x=some (.ref f))(hk:PySem.W.keepIn X.K (.ref f)=true)(hb:Binds X.K fd ps [])(hx:sY CX X E)
  (ha:CA X (e::es) ca) (hdb:(x==("__debug__" : Str))=false:=by decide) (hs:cQ e=true:=by rfl) (hall:es.all cQ=true:=by rfl):CE X (.Call (.Name x p) (e::es) [] pos) (eU G ca) :=
 ⟨JE.weak (je_call (dvs:=[]) (E:=E) F hr hg hm hk hb .nil hx ha.h hdb hs hall) fun σ H Q ⟨ρ,C,R,s,h,q,f⟩ =>
  ⟨ρ,C,_,s,h,q,fun xs H1 ts C1 q1 rs h1 f1=>⟨ts,C1,R,by rw[List.append_nil]; exact rs,h1,q1,fun v H' t C' q' r' h' f'=>f v H' t C' q' r' h' (f1.trans f')⟩⟩⟩
def Cbi (K:PySem.W.Frag)(r:List V->Hp->VK->Prop)(cr:GC):Prop:=∀xs ps H C Q R,Reps K H xs ps->HRel K H C->cr ps C R->(∀v H' t C',R t C'->Rep K H' v t->HRel K H' C'->Fw H C H' C'->Q v H')->r xs H Q
theorem tX {id:String}{r:List V->Hp->VK->Prop}{cr:GC}{x:Str}{p:Pos}{ca:TCA}(hc:CallR X (.builtin id) r)(hr:Cbi X.K r cr)(hg:Gl X x)(hm:X.mg x=none)(hv:bootBuiltins x=some (.builtin id))(ha:CA X (e::es) ca)(hn:x ≠ "__name__":=by decide)(hdb:(x==("__debug__" : Str))=false:=by decide)
  (hs:cQ e=true:=by rfl) (hall:es.all cQ=true:=by rfl):CE X (.Call (.Name x p) (e::es) [] pos) (eU cr ca):=⟨JE.weak (zE hc hg hm hv ha.h hn hdb hs hall) fun σ H Q ⟨ρ,C,R,s,h,q,f⟩ =>
  ⟨ρ,C,_,s,h,q,fun xs H1 ts C1 q1 rs h1 f1=>hr xs ts H1 C1 Q R rs h1 q1 fun v H' t C' q' r' h' f'=>f v H' t C' q' r' h' (f1.trans f')⟩⟩
theorem kJ {T:String}{r:List V->Hp->VK->Prop}{cr:GC}{x:Str}{p:Pos}{ca:TCA}(hc:CallR X (.type T) r)(hr:Cbi X.K r cr)(hg:Gl X x)(hm:X.mg x=none)(hv:bootBuiltins x=some (.type T))(ha:CA X (e::es) ca)(hn:x ≠ "__name__":=by decide)(hdb:(x==("__debug__" : Str))=false:=by decide)
  (hs:cQ e=true:=by rfl) (hall:es.all cQ=true:=by rfl):CE X (.Call (.Name x p) (e::es) [] pos) (eU cr ca):=⟨JE.weak (nR hc hg hm hv ha.h hn hdb hs hall) fun σ H Q ⟨ρ,C,R,s,h,q,f⟩ =>
  ⟨ρ,C,_,s,h,q,fun xs H1 ts C1 q1 rs h1 f1=>hr xs ts H1 C1 Q R rs h1 q1 fun v H' t C' q' r' h' f'=>f v H' t C' q' r' h' (f1.trans f')⟩⟩
theorem ce_ix {r:R2}{cr:R2C}{ca cb:TCE}(ho:IxR X r)(hr:Cop X.K r cr)(ha:CE X a ca)(hb:CE X b cb)(hs:nG b):CE X (.Subscript a b pos) (cOp cr ca cb):=⟨JE.weak (je_ix ho ha.h hb.h hs) fun _ _ _ h=>uG hr h⟩
end
section
variable {X:Cx}{a b c e o i:Expr}{es:List Expr}{pos:Pos}{rest:List Expr}{st:Stmt}{sts:List Stmt}
def cNext:TCS:=fun E ρ C=>E.nx ρ C
def pA (t u:TCS):TCS:=fun E ρ C=>t { E with nx:=u E } ρ C
theorem rQ:CB X [] cNext:=⟨JB.weak jb_nil fun D σ H ⟨ρ,C,E,s,h,q,f⟩=>f.nx σ H ρ C q s h Fw.refl⟩
theorem wQ {t:TCS}(h:CS X st t):CB X [st] t:=⟨jb_one h.h⟩
theorem xQ {t u:TCS}(h1:CS X st t)(h2:CB X sts u):CB X (st::sts) (pA t u):=⟨JB.weak (jb_cons h1.h h2.h) fun D σ H ⟨ρ,C,E,s,h,q,f⟩ =>
 ⟨ρ,C,_,s,h,q,⟨fun σ' H' ρ' C' n s' h' f'=>⟨ρ',C',E,s',h',n,f.fw f'⟩,f.rt,f.bk,f.ct⟩⟩⟩
def cDrop (ce:TCE):TCS:=fun E ρ C=>ce ρ C fun _ C1=>E.nx ρ C1
theorem cK {ce:TCE}(he:CE X e ce)(hs:swapsWith e none pos.line X.env=pure false:=by rfl):CS X (.Expr e pos) (cDrop ce):=⟨JS.weak (js_expr he.h hs) fun D σ H ⟨ρ,C,E,s,h,q,f⟩ =>
 ⟨ρ,C,_,s,h,q,fun x H1 px C1 q1 rx h1 f1=>f.nx σ H1 ρ C1 q1 (s.imm (f1.imm h)) h1 f1⟩⟩
def cRet (ce:TCE):TCS:=fun E ρ C=>ce ρ C E.rt
theorem mQ {ce:TCE}(he:CE X e ce):CS X (.Return (some e) pos) (cRet ce):=⟨JS.weak (js_ret he.h) fun D σ H ⟨ρ,C,E,s,h,q,f⟩ =>
 ⟨ρ,C,_,s,h,q,fun x H1 px C1 q1 rx h1 f1=>f.rt x H1 px C1 q1 rx h1 f1⟩⟩
def cIfS (t:TCT)(u v:TCS):TCS:=fun E ρ C=>t ρ C fun b C1=>if b=true then u E ρ C1 else v E ρ C1
theorem qX {x y:List Stmt}{t:TCT}{u v:TCS}(hc:CT X c t)(ha:CB X x u)(hb:CB X y v):CS X (.If c x y pos) (cIfS t u v):=⟨JS.weak (js_if hc.h ha.h hb.h) fun D σ H ⟨ρ,C,E,s,h,q,f⟩ =>
 ⟨ρ,C,_,s,h,q,fun x H1 y C1 q1 e h1 f1=>by
  cases e
  cases x with
  |true=>exact⟨ρ,C1,E,s.imm (f1.imm h),h1,q1,f.fw f1⟩
  |false=>exact⟨ρ,C1,E,s.imm (f1.imm h),h1,q1,f.fw f1⟩⟩⟩
def cSet (i:Nat)(ce:TCE):TCS:=fun E ρ C=>ce ρ C fun t C1=>E.nx (ρ.set i (some t)) C1
theorem cs_set {i:Nat}{x:Str}{pos':Pos}{ce:TCE}(hN:X.N.Nodup)(hi:X.N[i]?=some x)(hx:Loc X.env.scope x)(he:CE X e ce)(hs:swapsWith e (some (.Name x pos')) pos.line X.env=pure false:=by rfl)(hf:X.fn x=true\/X.env.scope.names.lookup x=some .local:=by first | exact .inl rfl | exact .inr rfl | assumption):
  CS X (.Assign [.Name x pos'] e pos) (cSet i ce):=⟨JS.weak (js_set hN hi hx he.h hs hf) fun D σ H ⟨ρ,C,E,s,h,q,f⟩ =>
 ⟨ρ,C,_,s,h,q,fun x H1 px C1 q1 rx h1 f1=>f.nx _ H1 _ C1 q1 ((s.imm (f1.imm h)).set rx i) h1 f1⟩⟩
abbrev TCG:=PV->CSt->CH->(CSt->CH->Prop)->Prop
abbrev oF:=List PV->CSt->CH->(CSt->CH->Prop)->Prop
def cO (K:PySem.W.Frag)(c:TCG):TG:=fun v σ H Q=>∃t ρ C R,Rep K H v t/\SRel K H σ ρ/\HRel K H C/\c t ρ C R/\∀σ' H' ρ' C',R ρ' C'->SRel K H' σ' ρ'->HRel K H' C'->Fw H C H' C'->Q σ' H'
def liftGs (K:PySem.W.Frag)(c:oF):TGs:=fun v σ H Q=>∃t ρ C R,Reps K H v t/\SRel K H σ ρ/\HRel K H C/\c t ρ C R/\∀σ' H' ρ' C',R ρ' C'->SRel K H' σ' ρ'->HRel K H' C'->Fw H C H' C'->Q σ' H'
structure CG (X:Cx)(e:Expr)(c:TCG):Prop where
 h:JG X e (cO X.K c)
structure CGs (X:Cx)(es:List Expr)(c:oF):Prop where
 h:JGs X es (liftGs X.K c)
theorem JG.weak {t t':TG}(h:JG X e t)(w:∀v σ H Q,t' v σ H Q->t v σ H Q):JG X e t':=⟨fun pins s σ H v u Q I r q=>h.h pins s σ H v u Q I r (w v σ H Q q)⟩
theorem JGs.weak {t t':TGs}(h:JGs X es t)(w:∀v σ H Q,t' v σ H Q->t v σ H Q):JGs X es t':=⟨fun pins s σ H v u Q I r q=>h.h pins s σ H v u Q I r (w v σ H Q q)⟩
def tE (i:Nat):TCG:=fun t ρ C Q=>Q (ρ.set i (some t)) C
def dNil:oF:=fun ts ρ C Q=>match ts with
 |[]=>Q ρ C
 |_=>False
def dCons (g:TCG)(u:oF):oF:=fun ts ρ C Q=>match ts with
 |t::r=>g t ρ C fun ρ' C'=>u r ρ' C' Q
 |[]=>False
def dTup (n:Nat)(u:oF):TCG:=fun t ρ C Q=>match t with
 |.tup ts=>ts.length=n/\u ts ρ C Q
 |_=>False
theorem cg_name {i:Nat}{x:Str}(hN:X.N.Nodup)(hi:X.N[i]?=some x)(hx:Loc X.env.scope x)(hf:X.fn x=true\/X.env.scope.names.lookup x=some .local:=by first | exact .inl rfl | exact .inr rfl | assumption):CG X (.Name x pos) (tE i) :=
 ⟨JG.weak (jg_name hN hi hx hf) fun v σ H Q ⟨t,ρ,C,R,r,s,h,q,f⟩=>f _ H _ C q (s.set r i) h Fw.refl⟩
theorem fF:CGs X [] dNil:=⟨JGs.weak jgs_nil fun vs σ H Q ⟨ts,ρ,C,R,r,s,h,q,f⟩=>by
 cases r with
 |nil=>exact⟨rfl,f σ H ρ C q s h Fw.refl⟩
 |cons _ _=>exact q.elim⟩
theorem jK {g:TCG}{u:oF}(h1:CG X e g)(h2:CGs X es u)
  (hs:(assignEach (e::es) X.env).map (·.2)=assign e X.env::(assignEach es X.env).map (·.2):=by rfl):CGs X (e::es) (dCons g u):=⟨JGs.weak (aO h1.h h2.h hs) fun vs σ H Q ⟨ts,ρ,C,R,r,s,h,q,f⟩=>by
 cases r with
 |nil=>exact q.elim
 |@cons v t vs ts r0 r =>
  exact⟨v,vs,rfl,t,ρ,C,_,r0,s,h,q,fun σ' H' ρ' C' q' s' h' f'=>⟨ts,ρ',C',R,r.imm (f'.imm h),s',h',q',fun σ2 H2 ρ2 C2 q2 s2 h2 f2=>f σ2 H2 ρ2 C2 q2 s2 h2 (f'.trans f2)⟩⟩⟩
theorem fH {k:Nat}{u:oF}{n:Nat}(hc:X.calm=true)(h:CGs X es u)
  (hn:(assignEach es X.env).length=n:=by rfl) (hst:(assignEach es X.env).findIdx? (·.1)=none:=by rfl):CG X (.Tuple es k pos) (dTup n u):=⟨JG.weak (jg_tup hc h.h hn hst) fun v σ H Q ⟨t,ρ,C,R,r,s,h,q,f⟩=>by
 cases r with
 |@tup a vs ts e r =>
  obtain⟨q1,q2⟩:=q;exact⟨a,vs,rfl,SqT.of e,by rw[r.len]; exact q1,ts,ρ,C,R,r,s,h,q2,f⟩
 |_=>exact q.elim⟩
def cAsg (ce:TCE)(g:TCG):TCS:=fun E ρ C=>ce ρ C fun t C1=>g t ρ C1 E.nx
theorem uF {tg:Expr}{ce:TCE}{g:TCG}(he:CE X e ce)(hg:CG X tg g)(hs:swapsWithSole [tg] e pos.line X.env=pure false:=by rfl)(hw:swappedStores [tg] e X.env=pure none:=by rfl)
  (h1:(assignEach [tg] X.env).map (·.2)=[assign tg X.env]:=by rfl):CS X (.Assign [tg] e pos) (cAsg ce g):=⟨JS.weak (js_asg he.h hg.h hs hw h1) fun D σ H ⟨ρ,C,E,s,h,q,f⟩ =>
 ⟨ρ,C,_,s,h,q,fun x H1 px C1 q1 rx h1 f1=>⟨px,ρ,C1,E.nx,rx,s.imm (f1.imm h),h1,q1,fun σ' H' ρ' C' q' s' h' f'=>f.nx σ' H' ρ' C' q' s' h' (f1.trans f')⟩⟩⟩
@[irreducible] def eN:PV->PV->PV->CH->(CH->Prop)->Prop:=fun o i v C Q=>match o,i with
 |.ref p,.int k=>match C p with
  |some (.lst xs)=>match ixN xs.length k with
   |some j=>Q (uQ C p (.lst (xs.set j v)))
   |none=>False
  |_=>False
 |_,_=>False
def dSub (co ci:TCE)(u:PV->PV->PV->CH->(CH->Prop)->Prop):TCG:=fun t ρ C Q=>co ρ C fun o C1=>ci ρ C1 fun i C2=>u o i t C2 fun C3=>Q ρ C3
theorem dG {co ci:TCE}(ho:CE X o co)(hi:CE X i ci)
  (ha:∀v,assign (.Subscript o i pos) X.env v=(do
   let ov <- holding [v] (eval o X.env)
   let iv <- holding [v,ov] (eval i X.env)
   standAt pos
   holding [v,ov,iv] (setItem ov iv v)
   release [v,ov,iv] []):=by intro _; rfl):CG X (.Subscript o i pos) (dSub co ci eN):=⟨JG.weak (jg_sub ho.h hi.h vT ha) fun v σ H Q ⟨t,ρ,C,R,r,s,h,q,f⟩ =>
 ⟨ρ,C,_,s,h,q,fun x H1 px C1 q1 rx h1 f1=>⟨ρ,C1,_,s.imm (f1.imm h),h1,q1,fun y H2 py C2 q2 ry h2 f2=>by
  have r2:=r.imm ((f1.trans f2).imm h);have s2:=s.imm ((f1.trans f2).imm h);unfold eN at q2
  split at q2
  .next p k =>
   split at q2
   .next xs e =>
    split at q2
    .next j ej =>
     obtain⟨vs,ev,rv⟩:=h2 p _ e;have rx2:=rx.imm (f2.imm h1);cases rx2;cases ry;refine⟨p,vs,k,j,rfl,rfl,ev,by rw[rv.len]; exact ej,?_⟩;exact f σ _ ρ _ q2 (s2.imm (Imm.mut ev rfl _)) (h2.put ev rfl ⟨_,fQ,(rv.set r2 j).imm (Imm.mut ev rfl _)⟩) (f1.trans (f2.trans (Fw.put e _ _)))
    .exact q2.elim
   .exact q2.elim
  .exact q2.elim⟩⟩⟩
def kK (g:TCG)(u:TCS)(E:lJ):List PV->CSt->CH->Prop
 |[],ρ,C=>E.nx ρ C
 |x::r,ρ,C=>g x ρ C fun ρ1 C1=>u { nx:=kK g u E r,ct:=kK g u E r,bk:=E.nx,rt:=E.rt } ρ1 C1
structure oH (K:PySem.W.Frag)(H:Hp)(J:It)(ps:List PV):Prop where
 go:∀i H',i < ps.length->Imm H H'->J.go i H'
 yl:∀i H' x H'',Imm H H'->J.yld i H' x H''->H''=H'/\∀t,ps[i]?=some t->Rep K H' x t
 st:∀H',Imm H H'->J.stop ps.length H'
theorem wG {K:PySem.W.Frag}{H:Hp}{C:CH}{σ:St}{ρ:CSt}{J:It}{ps:List PV}{g:TCG}{u:TCS}{E:lJ}{D:uP}(j:oH K H J ps)(s:SRel K H σ ρ)(h:HRel K H C)(q:kK g u E ps ρ C)(f:ERel K H C E D):
  ∃W:Nat->Nat->St->Hp->Prop,(∃m,W 0 m σ H)/\∀i m σ H,W i m σ H ->
   (J.stop i H/\D.nx σ H)\/(J.go i H/\∃N:St->Hp->Prop,(∀σ' H',N σ' H'->∃m',m' < m/\W (i+1) m' σ' H')/\∀x H',J.yld i H x H'->cO K g x σ H' fun σ2 H2=>dO K u { D with nx:=N,ct:=N,bk:=D.nx } σ2 H2):=by
 refine⟨fun i m σ' H'=>m=ps.length - i/\i<=ps.length/\∃ρ' C',SRel K H' σ' ρ'/\HRel K H' C'/\Fw H C H' C'/\kK g u E (ps.drop i) ρ' C',⟨ps.length,rfl,Nat.zero_le _,ρ,C,s,h,Fw.refl,q⟩,?_⟩;rintro i m σ1 H1 ⟨rfl,hi,ρ1,C1,s1,h1,f1,q1⟩;have k1:=f1.imm h
 by_cases hlt:i < ps.length
 .refine .inr ⟨j.go i H1 hlt k1,fun σ' H'=>∃ρ' C',SRel K H' σ' ρ'/\HRel K H' C'/\Fw H C H' C'/\kK g u E (ps.drop (i+1)) ρ' C',fun σ' H' z=>⟨ps.length - (i+1),by omega,rfl,hlt,z⟩,fun x H2 y=>?_⟩
  obtain⟨rfl,y⟩:=j.yl i H1 x H2 k1 y;rw[List.drop_eq_getElem_cons hlt] at q1
  exact⟨ps[i],ρ1,C1,_,y _ (List.getElem?_eq_getElem hlt),s1,h1,q1,fun σ' H' ρ' C' q' s' h' f'=>⟨ρ',C',_,s',h',q',⟨fun σ3 H3 ρ3 C3 q3 s3 h3 f3=>⟨ρ3,C3,s3,h3,f1.trans (f'.trans f3),q3⟩,fun v H3 t C3 q3 r3 h3 f3=>f.rt v H3 t C3 q3 r3 h3 (f1.trans (f'.trans f3)),
   fun σ3 H3 ρ3 C3 q3 s3 h3 f3=>f.nx σ3 H3 ρ3 C3 q3 s3 h3 (f1.trans (f'.trans f3)),fun σ3 H3 ρ3 C3 q3 s3 h3 f3=>⟨ρ3,C3,s3,h3,f1.trans (f'.trans f3),q3⟩⟩⟩⟩
 .have e:i=ps.length:=by omega
  subst e;rw[List.drop_length] at q1;exact .inl ⟨j.st H1 k1,f.nx σ1 H1 ρ1 C1 q1 s1 h1 f1⟩
theorem qF {K:PySem.W.Frag}{H:Hp}{a:Addr}{vs:List V}{ts:List PV}(h:SqT K H a vs)(r:Reps K H vs ts):oH K H (Itt K a) ts where
 go:=fun i H' l k=>⟨vs,vs[i]'(by rw[r.len]; exact l),SqT.imm h k,List.getElem?_eq_getElem _⟩
 yl:=fun i H' x H'' k y=>⟨y.1,fun t e=>by
  obtain⟨v,ev,rv⟩:=(r.imm k).get e;have:=y.2 vs (SqT.imm h k)
  rw[ev] at this; cases this; exact rv⟩
 st:=fun H' k=>⟨vs,SqT.imm h k,by rw[r.len]; exact Nat.le_refl _⟩
theorem it_fz {K:PySem.W.Frag}{H:Hp}{a:Addr}{vs:List V}{ts:List PV}(h:Fz K H a vs)(r:Reps K H vs ts):oH K H (Itl K a) ts where
 go:=fun i H' l k=>⟨vs,vs[i]'(by rw[r.len]; exact l),(h.imm k).sq,List.getElem?_eq_getElem _⟩
 yl:=fun i H' x H'' k y=>⟨y.1,fun t e=>by
  obtain⟨v,ev,rv⟩:=(r.imm k).get e;have:=y.2 vs (h.imm k).sq
  rw[ev] at this; cases this; exact rv⟩
 st:=fun H' k=>⟨vs,(h.imm k).sq,by rw[r.len]; exact Nat.le_refl _⟩
theorem jE {K:PySem.W.Frag}{H:Hp}{n:Nat}:oH K H (Itr 0 n) ((List.range n).map fun k=>PV.int (k:Nat)) where
 go:=fun i H' l k=>by rw[List.length_map,List.length_range] at l; exact l
 yl:=fun i H' x H'' k y=>⟨y.1,fun t e=>by
  rw[y.2];rw[List.getElem?_map] at e
  cases z:(List.range n)[i]? with
  |none=>rw[z] at e; cases e
  |some w =>
   rw[z] at e;cases e;have:=List.getElem?_eq_some_iff.mp z;obtain⟨l,e⟩:=this;rw[List.getElem_range] at e;subst e;rw[Int.zero_add]
   exact .int _⟩
 st:=fun H' k=>by rw[List.length_map,List.length_range]; exact Nat.le_refl _
@[irreducible] def wM (ce:TCE)(g:TCG)(u:TCS):TCS:=fun E ρ C=>ce ρ C fun t C1=>match t with
 |.tup xs=>kK g u E xs ρ C1
 |.kt xs=>kK g u E xs ρ C1
 |_=>False
theorem yF {tg iter:Expr}{body:List Stmt}{ce:TCE}{g:TCG}{u:TCS}(hp:PassesOwn (model X.prog X.w) X.A X.env X.xe)(hc:X.calm=true)(hi:CE X iter ce)(hg:CG X tg g)(hb:CB X body u)
  (hs:∀x,foldedSetIterable iter X.env x=pure x:=by intro _; rfl):CS X (.For tg iter body [] pos) (wM ce g u):=⟨JS.weak (xH hp hc (eO hi.h) hg.h hb.h hs) fun D σ H ⟨ρ,C,E,s,h,q,f⟩=>by
 unfold wM at q
 exact⟨ρ,C,_,s,h,q,fun x H1 px C1 q1 rx h1 f1=>by
  cases rx with
  |@tup a vs ts e r=>exact⟨a,rfl,⟨vs,SqT.of e⟩,wG (qF (SqT.of e) r) (s.imm (f1.imm h)) h1 q1 (f.fw f1)⟩
  |@kt a vs ts e r=>exact⟨a,rfl,⟨vs,e⟩,wG (qF e r) (s.imm (f1.imm h)) h1 q1 (f.fw f1)⟩
  |_=>exact q1.elim⟩⟩
def cForR (ca:TCA)(g:TCG)(u:TCS):TCS:=fun E ρ C=>ca ρ C fun ts C1=>match ts with
 |[.int j]=>-(2 ^ 62)<=j/\j < 2 ^ 62/\kK g u E ((List.range j.toNat).map fun k=>PV.int (k:Nat)) ρ C1
 |_=>False
theorem fG {tg:Expr}{body:List Stmt}{ca:TCA}{g:TCG}{u:TCS}{p pos2:Pos}(hp:PassesOwn (model X.prog X.w) X.A X.env X.xe)(hc:X.calm=true)(hgl:Gl X "range")(hm:X.mg "range" = none)(ha:CA X [a] ca)(hg:CG X tg g)(hb:CB X body u)
  (hst:cQ a=true:=by rfl) (hs:∀x,foldedSetIterable (.Call (.Name "range" p) [a] [] pos2) X.env x=pure x:=by intro _; rfl):CS X (.For tg (.Call (.Name "range" p) [a] [] pos2) body [] pos) (cForR ca g u):=⟨JS.weak (xH hp hc (aB hgl hm ha.h hst) hg.h hb.h hs) fun D σ H ⟨ρ,C,E,s,h,q,f⟩ =>
 ⟨ρ,C,_,s,h,q,fun xs H1 ts C1 q1 rs h1 f1=>by
  split at q1
  .next j =>
   cases rs with
   |cons r0 r =>
    cases r;cases r0;exact⟨j,rfl,q1.1,q1.2.1,wG jE (s.imm (f1.imm h)) h1 q1.2.2 (f.fw f1)⟩
  .exact q1.elim⟩⟩
def lK (a:Addr)(g:TCG)(u:TCS)(E:lJ):Nat->Nat->CSt->CH->Prop
 |0,_,_,_=>False
 |n+1,i,ρ,C=>match C a with
  |some (.lst xs)=>match xs[i]? with
   |some x=>g x ρ C fun ρ1 C1=>u { nx:=lK a g u E n (i+1),ct:=lK a g u E n (i+1),bk:=E.nx,rt:=E.rt } ρ1 C1
   |none=>E.nx ρ C
  |_=>False
def cForL (ce:TCE)(g:TCG)(u:TCS):TCS:=fun E ρ C=>ce ρ C fun t C1=>match t with
 |.ref a=>∃n,lK a g u E n 0 ρ C1
 |.fz xs=>kK g u E xs ρ C1
 |_=>False
theorem pG {tg iter:Expr}{body:List Stmt}{ce:TCE}{g:TCG}{u:TCS}(hp:PassesOwn (model X.prog X.w) X.A X.env X.xe)(hc:X.calm=true)(hi:CE X iter ce)(hg:CG X tg g)(hb:CB X body u)
  (hs:∀x,foldedSetIterable iter X.env x=pure x:=by intro _; rfl):CS X (.For tg iter body [] pos) (cForL ce g u):=⟨JS.weak (xH hp hc (uN hi.h) hg.h hb.h hs) fun D σ H ⟨ρ,C,E,s,h,q,f⟩ =>
 ⟨ρ,C,_,s,h,q,fun x H1 px C1 q1 rx h1 f1=>by
  cases rx with
  |@fz a vs ts e r=>exact⟨a,rfl,⟨vs,e.sq⟩,wG (it_fz e r) (s.imm (f1.imm h)) h1 q1 (f.fw f1)⟩
  |ref a =>
   obtain⟨n,q1⟩:=q1
   have ex:∃ys,SqL X.K H1 a ys:=by
    cases n with
    |zero=>exact q1.elim
    |succ n =>
     unfold lK at q1
     split at q1
     .next xs e=>obtain⟨vs,ev,_⟩:=h1 a _ e; exact⟨vs,SqL.of ev⟩
     .exact q1.elim
   refine⟨a,rfl,ex,fun i m σ' H'=>∃ρ' C',SRel X.K H' σ' ρ'/\HRel X.K H' C'/\Fw H1 C1 H' C'/\lK a g u E m i ρ' C',⟨n,ρ,C1,s.imm (f1.imm h),h1,Fw.refl,q1⟩,?_⟩;rintro i m σ2 H2 ⟨ρ2,C2,s2,h2,f2,q2⟩
   cases m with
   |zero=>exact q2.elim
   |succ m =>
    unfold lK at q2
    split at q2
    .next xs e =>
     obtain⟨vs,ev,rv⟩:=h2 a _ e
     split at q2
     .next x ex =>
      obtain⟨v,ev',rx⟩:=rv.get ex;refine .inr ⟨⟨vs,v,SqL.of ev,ev'⟩,fun σ' H'=>∃ρ' C',SRel X.K H' σ' ρ'/\HRel X.K H' C'/\Fw H1 C1 H' C'/\lK a g u E m (i+1) ρ' C',fun σ' H' z=>⟨m,Nat.lt_succ_self m,z⟩,fun y H3 hy=>?_⟩;obtain⟨rfl,hy⟩:=hy;have:=hy vs (SqL.of ev);rw[ev'] at this; cases this
      exact⟨x,ρ2,C2,_,rx,s2,h2,q2,fun σ' H' ρ' C' q' s' h' f'=>⟨ρ',C',_,s',h',q',⟨fun σ3 H3 ρ3 C3 q3 s3 h3 f3=>⟨ρ3,C3,s3,h3,f2.trans (f'.trans f3),q3⟩,fun v H3 t C3 q3 r3 h3 f3=>f.rt v H3 t C3 q3 r3 h3 (f1.trans (f2.trans (f'.trans f3))),
       fun σ3 H3 ρ3 C3 q3 s3 h3 f3=>f.nx σ3 H3 ρ3 C3 q3 s3 h3 (f1.trans (f2.trans (f'.trans f3))),fun σ3 H3 ρ3 C3 q3 s3 h3 f3=>⟨ρ3,C3,s3,h3,f2.trans (f'.trans f3),q3⟩⟩⟩⟩
     .next ex =>
      refine .inl ⟨⟨vs,SqL.of ev,?_⟩,f.nx σ2 H2 ρ2 C2 q2 s2 h2 (f1.trans f2)⟩;rw[rv.len];exact List.getElem?_eq_none_iff.mp ex
    .exact q2.elim
  |_=>exact q1.elim⟩⟩
def cX (t:TCT)(c:TCE)(ρ:CSt)(Q:K1):List PV->List PV->CH->Prop
 |[],acc,C=>∀p,C p=none->Q (.ref p) (uQ C p (.lst acc))
 |x::r,acc,C=>t (some x::ρ) C fun b C1=>if b=true then c (some x::ρ) C1 fun y C2=>acc.length < sizeLine/\cX t c ρ Q r (acc++[y]) C2 else cX t c ρ Q r acc C1
structure CF (X:Cx)(ifs:List Expr)(c:TCT):Prop where
 h:JF X ifs (gZ X.K kB c)
def cY:TCT:=fun _ C Q=>Q true C
theorem JF.weak {ifs:List Expr}{t t':TT}(h:JF X ifs t)(w:∀σ H Q,t' σ H Q->t σ H Q):JF X ifs t':=⟨fun pins s σ H Q I q=>h.h pins s σ H Q I (w σ H Q q)⟩
theorem hZ:CF X [] cY:=⟨JF.weak jf_nil fun σ H Q ⟨ρ,C,R,s,h,q,f⟩=>f true H true C q rfl h Fw.refl⟩
theorem cf_one {t:TCT}(h:CT X c t):CF X [c] t:=⟨jf_one h.h⟩
theorem comp_it {K:PySem.W.Frag}{H H0:Hp}{C C0:CH}{σ:St}{ρ:CSt}{J:It}{ps:List PV}{t:TCT}{c:TCE}{R:K1}{Q:VK}(j:oH K H J ps)(s:SRel K H σ ρ)(h:HRel K H C)(q:cX t c ρ R ps [] C)
  (h0:HRel K H0 C0) (f0:Fw H0 C0 H C) (f:∀v H' p C',R p C'->Rep K H' v p->HRel K H' C'->Fw H0 C0 H' C'->Q v H') {D:Addr} (hD:H D=none) :
  ∃W:Nat->Nat->List V->Hp->Prop,(∃m,W 0 m [] (upd H D (.lst [])))/\∀i m ys H,W i m ys H ->
   (J.stop i H/\Q (.ref D) H)\/(J.go i H/\∀x H',J.yld i H x H'->gZ K kB t (some x::σ) H' fun b H2 =>
    if b=true then gZ K (Rep K) c (some x::σ) H2 fun y H3=>H3 D=some (.lst ys)/\ys.length < sizeLine/\∃m',m' < m/\W (i+1) m' (ys++[y]) (upd H3 D (.lst (ys++[y])))
    else ∃m',m' < m/\W (i+1) m' ys H2):=by
 have fD:∀{H':Hp} {C':CH},Fw H C H' C'->True:=fun _=>trivial
 refine⟨fun i m ys H'=>m=ps.length - i/\i<=ps.length/\∃acc C',H' D=some (.lst ys)/\C' D=none/\Reps K H' ys acc/\HRel K H' C'/\Fw H C H' C'/\cX t c ρ R (ps.drop i) acc C',
  ⟨ps.length,rfl,Nat.zero_le _,[],C,fQ,h.fresh hD,.nil,h.new hD _,Fw.new hD _,q⟩,?_⟩
 rintro i m ys H1 ⟨rfl,hi,acc,C1,e1,n1,r1,h1,f1,q1⟩;have k1:Imm H H1:=f1.imm h
 by_cases hlt:i < ps.length
 .refine .inr ⟨j.go i H1 hlt k1,fun x H2 y=>?_⟩
  obtain⟨rfl,y⟩:=j.yl i H1 x H2 k1 y;have rx:=y _ (List.getElem?_eq_getElem hlt);rw[List.drop_eq_getElem_cons hlt] at q1;refine⟨some ps[i]::ρ,C1,_,.cons rx (s.imm k1),h1,q1,fun b H3 b' C3 q3 e h3 f3=>?_⟩;cases e;obtain⟨n3,e3⟩:=f3 D (by rw[n1]; rfl) (by rw[e1]; exact fun z=>nomatch z);rw[e1] at e3;rw[n1] at n3;have k3:=f3.imm h1
  cases b with
  |true =>
   rw[if_pos rfl] at q3 ⊢;refine⟨some ps[i]::ρ,C3,_,.cons (rx.imm k3) ((s.imm k1).imm k3),h3,q3,fun v H4 p C4 q4 r4 h4 f4=>?_⟩;obtain⟨n4,e4⟩:=f4 D (by rw[n3]; rfl) (by rw[e3]; exact fun z=>nomatch z);rw[e3] at e4;rw[n3] at n4;have k4:=f4.imm h3;have m4:Imm H4 (upd H4 D (.lst (ys++[v]))):=Imm.mut e4 rfl _;refine⟨e4,by rw[r1.len]; exact q4.1,ps.length - (i+1),by omega,rfl,hlt,acc++[p],C4,fQ,n4,?_,?_,?_,q4.2⟩
   .exact (((r1.imm k3).imm k4).append (.cons r4 .nil)).imm m4
   .intro a o ca
    have ne:a≠D:=fun z=>by subst z; rw[n4] at ca; cases ca
    exact(h4 a o ca).imm m4 (nQ ne)
   .intro a ca na
    have ne:a≠D:=fun z=>na (z▸hD);obtain⟨x1,x2⟩:=(f1.trans (f3.trans f4)) a ca na;exact⟨x1,(nQ ne).trans x2⟩
  |false =>
   rw[if_neg Bool.false_ne_true] at q3 ⊢;exact⟨ps.length - (i+1),by omega,rfl,hlt,acc,C3,e3,n3,r1.imm k3,h3,f1.trans f3,q3⟩
 .have e:i=ps.length:=by omega
  subst e;rw[List.drop_length] at q1;refine .inl ⟨j.st H1 k1,f (.ref D) H1 (.ref D) _ (q1 D n1) (.ref D) ?_ ?_⟩
  .intro a o ca
   by_cases z:a=D
   .subst z; rw[jQ] at ca; cases ca; exact⟨ys,e1,r1⟩
   .rw [yQ z] at ca; exact h1 a o ca
  .intro a ca na
   obtain⟨x1,x2⟩:=f0 a ca na;have na':H a≠none:=by rw[x2]; exact na
   have ne:a≠D:=fun z=>na' (z▸hD);obtain⟨y1,y2⟩:=f1 a (by rw[x1]; exact ca) na';exact⟨(yQ ne).trans (y1.trans x1),y2.trans x2⟩
structure CI (X:Cx)(tg it:Expr)(wi:TI)(c:CSt->CH->(List PV->CH->Prop)->Prop):Prop where
 j:JI X tg it wi
 w:∀σ H ρ C R Q,SRel X.K H σ ρ->HRel X.K H C->c ρ C R->(∀J H' ps C',R ps C'->oH X.K H' J ps->HRel X.K H' C'->Fw H C H' C'->Q J H')->wi σ H Q
def cItT (ce:TCE):CSt->CH->(List PV->CH->Prop)->Prop:=fun ρ C Q=>ce ρ C fun t C1=>match t with
 |.tup xs=>Q xs C1
 |.kt xs=>Q xs C1
 |_=>False
theorem mH {tg:Expr}{ce:TCE}(h:CE X e ce):CI X tg e (iTup X.K (gZ X.K (Rep X.K) ce)) (cItT ce):=⟨eO h.h,fun σ H ρ C R Q s h q f=>⟨ρ,C,_,s,h,q,fun x H1 px C1 q1 rx h1 f1=>by
  cases rx with
  |@tup a vs ts e r=>exact⟨a,rfl,⟨vs,SqT.of e⟩,f _ H1 ts C1 q1 (qF (SqT.of e) r) h1 f1⟩
  |@kt a vs ts e r=>exact⟨a,rfl,⟨vs,e⟩,f _ H1 ts C1 q1 (qF e r) h1 f1⟩
  |_=>exact q1.elim⟩⟩
def cItR (ca:TCA):CSt->CH->(List PV->CH->Prop)->Prop:=fun ρ C Q=>ca ρ C fun ts C1=>match ts with
 |[.int j]=>-(2 ^ 62)<=j/\j < 2 ^ 62/\Q ((List.range j.toNat).map fun k=>PV.int (k:Nat)) C1
 |_=>False
theorem hU {tg:Expr}{ca:TCA}{p pos2:Pos}(hgl:Gl X "range")(hm:X.mg "range" = none)(ha:CA X [a] ca)(hst:cQ a=true:=by rfl):CI X tg (.Call (.Name "range" p) [a] [] pos2) (wE (gZ X.K (Reps X.K) ca)) (cItR ca):=⟨aB hgl hm ha.h hst,fun σ H ρ C R Q s h q f=>⟨ρ,C,_,s,h,q,fun xs H1 ts C1 q1 rs h1 f1=>by
  split at q1
  .next j =>
   cases rs with
   |cons r0 r =>
    cases r;cases r0;exact⟨j,rfl,q1.1,q1.2.1,f _ H1 _ C1 q1.2.2 jE h1 f1⟩
  .exact q1.elim⟩⟩
def cComp (ci:CSt->CH->(List PV->CH->Prop)->Prop)(t:TCT)(c:TCE):TCE:=fun ρ C Q=>ci ρ C fun ps C1=>cX t c ρ Q ps [] C1
theorem pR {wi:TI}{tg it:Expr}{ci:CSt->CH->(List PV->CH->Prop)->Prop}{t:TCT}{c:TCE}(hi:CI X tg it wi ci){σ:St}{H:Hp}{Q:VK}(h:gZ X.K (Rep X.K) (cComp ci t c) σ H Q):qN wi (gZ X.K kB t) (gZ X.K (Rep X.K) c) σ H Q:=by
 obtain⟨ρ,C,R,s,h,q,f⟩:=h;exact hi.w σ H ρ C _ _ s h q fun J H' ps C' q' j h' f' D hD=>comp_it j (s.imm (f'.imm h)) h' q' h f' f hD
theorem aW {elt iter:Expr}{x:Str}{px:Pos}{ifs:List Expr}{scope:Scope}{wi:TI}{ci:CSt->CH->(List PV->CH->Prop)->Prop}{t:TCT}{c:TCE}
  (hc:X.calm=true) (hN:(x::X.N).Nodup) (K:∃cl,qB X x scope cl) (hi:CI X (.Name x px) iter wi ci)
  (ht:∀cl fp C s₂ H₂,CF (sJ X x scope cl fp C s₂ H₂) ifs t) (he:∀cl fp C s₂ H₂,CE (sJ X x scope cl fp C s₂ H₂) elt c)
  (hs:∀v,foldedSetIterable iter X.env v=pure v:=by intro _; rfl):CE X (.ListComp elt [⟨.Name x px,iter,ifs,0⟩] scope pos) (cComp ci t c) :=
 ⟨JE.weak (yL hc hN K hi.j (fun cl fp C s₂ H₂=>(ht cl fp C s₂ H₂).h) (fun cl fp C s₂ H₂=>(he cl fp C s₂ H₂).h) hs) fun _ _ _ h=>pR hi h⟩
end
def iG (N:List Str)(ts:List PV):CSt:=ts.map some++List.replicate (N.length - ts.length) none
theorem cB {K:PySem.W.Frag}{H:Hp}:∀n,SRel K H (List.replicate n none) (List.replicate n none)
 |0=>.nil
 |n+1=>.cons trivial (cB n)
theorem vD {K:PySem.W.Frag}{H:Hp}{σ:St}{ρ:CSt}(s:SRel K H σ ρ):∀{vs:List V}{ts:List PV},Reps K H vs ts->SRel K H (vs.map some++σ) (ts.map some++ρ)
 |_,_,.nil=>s
 |_,_,.cons h r=>.cons h (vD s r)
theorem cP {K:PySem.W.Frag}{H:Hp}{N:List Str}{vs:List V}{ts:List PV}(r:Reps K H vs ts):SRel K H (L2.start N vs) (iG N ts):=by
 unfold L2.start iG;rw[r.len];exact vD (cB _) r
section
variable {P:Program}{w:World}{K:PySem.W.Frag}{mg:Str->Option Value}{base:Heap}
theorem Fun.okC {x qual:Str}{st:Stmt}{f:Addr}{fd:FuncData}{N ps:List Str}{k:Nat}{G:GC}(F:Fun K x qual st f fd)(S:FnScope N ps (lQ st))(len:∀ts C R,G ts C R->ts.length=ps.length)
  (hbody:∀(cdv:Value) (A:Around) (outer:List Env) (s:Shared) (H:Hp) (E:XK),Room k (A.deeper (envOfC qual (lQ st) s.heap.objs.size f cdv)) ->
   ∃c,CB (vF CX0 P w K mg base N qual (lQ st) f cdv A outer s H E).nox (mZ st) c/\∀ts C R,G ts C R->c { nx:=fun _ C'=>R .non C',rt:=R } (iG N ts) C):FnOk P w K mg base CX0 (k+1) f fd ps (spC K G):=by
 refine F.okJ S ?_ ?_
 .rintro vs H Q E ⟨ts,C,R,r,h,g,f⟩
  rw[r.len]; exact len ts C R g
 .rintro cdv A outer s H vs Q E hr ⟨ts,C,R,r,h,g,f⟩
  obtain⟨c,hc,q⟩:=hbody cdv A outer s H E hr;refine⟨_,hc.h,iG N ts,C,_,cP r,h,q ts C R g,⟨fun σ' H' ρ' C' q' s' h' f'=>f .non H' .non C' q' .non h' f',f,fun _ _ _ _ q' _ _ _=>q'.elim,fun _ _ _ _ q' _ _ _=>q'.elim⟩⟩
end
section
variable {X:Cx}{a b c e o i:Expr}{es:List Expr}{pos:Pos}
@[irreducible] def cI (g:Int->Int->PV):R2C:=fun x y C Q=>match x,y with
 |.int i,.int j=>Q (g i j) C
 |_,_=>False
def cIc (P:Int->Int->Prop)(g:Int->Int->PV):R2C:=fun x y C Q=>match x,y with
 |.int i,.int j=>P i j/\Q (g i j) C
 |_,_=>False
theorem qA {K:PySem.W.Frag}{g:Int->Int->V}{g':Int->Int->PV}(hg:∀i j H,Rep K H (g i j) (g' i j)):Cop K (rI0 g) (cI g'):=fun x y px py H C Q R rx ry h q f=>by
 unfold cI at q
 split at q
 .cases rx; cases ry
  exact⟨_,_,rfl,rfl,f _ H _ C q (hg _ _ _) h Fw.refl⟩
 .exact q.elim
theorem bF {K:PySem.W.Frag}{P:Int->Int->Prop}{g:Int->Int->V}{g':Int->Int->PV}(hg:∀i j H,Rep K H (g i j) (g' i j)):Cop K (rI P g) (cIc P g'):=fun x y px py H C Q R rx ry h q f=>by
 unfold cIc at q
 split at q
 .cases rx; cases ry
  exact⟨_,_,rfl,rfl,q.1,f _ H _ C q.2 (hg _ _ _) h Fw.refl⟩
 .exact q.elim
theorem iX {K:PySem.W.Frag}:Cop K (rI0 fun i j=>.int (i - j)) (cI fun i j=>.int (i - j)):=qA fun _ _ _=>.int _
theorem tW {K:PySem.W.Frag}:Cop K (rI CMul fun i j=>.int (i * j)) (cIc CMul fun i j=>.int (i * j)):=bF fun _ _ _=>.int _
theorem nL {K:PySem.W.Frag}:Cop K (rI (fun _ j=>0 < j/\j < 18446744073709551616) fun i j=>.int (i / j)) (cIc (fun _ j=>0 < j/\j < 18446744073709551616) fun i j=>.int (i / j)):=bF fun _ _ _=>.int _
theorem cJ {K:PySem.W.Frag}:Cop K (rI (fun _ j=>0 < j) fun i j=>.int (i % j)) (cIc (fun _ j=>0 < j) fun i j=>.int (i % j)):=bF fun _ _ _=>.int _
theorem gF {K:PySem.W.Frag}:Cop K (rI CPow fun i j=>.int (i ^ j.toNat)) (cIc CPow fun i j=>.int (i ^ j.toNat)):=bF fun _ _ _=>.int _
theorem vW {K:PySem.W.Frag}:Cop K (rI0 fun i j=>.bl (decide (i < j))) (cI fun i j=>.bl (decide (i < j))):=qA fun _ _ _=>.bl _
theorem mX {K:PySem.W.Frag}:Cop K (rI0 fun i j=>.bl (decide (j < i))) (cI fun i j=>.bl (decide (j < i))):=qA fun _ _ _=>.bl _
def cNeg:PV->CH->K1->Prop:=fun x C Q=>match x with
 |.int i=>Q (.int (-i)) C
 |_=>False
theorem mG {K:PySem.W.Frag}:Cun K (rU fun i=>.int (-i)) cNeg:=fun x px H C Q R rx h q f=>by
 unfold cNeg at q
 split at q
 .cases rx; exact⟨_,rfl,f _ H _ C q (.int _) h Fw.refl⟩
 .exact q.elim
theorem fw_same {H H':Hp}{C:CH}(s:Same H H'):Fw H C H' C:=fun a c n=>⟨rfl,by
 cases e:H a with
 |none=>exact absurd e n
 |some o=>exact s a o e⟩
theorem tR {K:PySem.W.Frag}{H H':Hp}{C:CH}(h:HRel K H C)(s:Same H H'):HRel K H' C:=fun a o c=>by
 obtain⟨u,e,_⟩:=(h a o c).mut;exact(h a o c).imm (fun b v _ e=>s b v e) ((s a u e).trans e.symm)
@[irreducible] def kP:R2C:=fun x y C Q=>match x,y with
 |.int i,.int j=>Q (.int (i+j)) C
 |.str i,.str j=>i.length+j.length<=sizeLine/\Q (.str (i++j)) C
 |.tup xs,.tup ys=>xs.length+ys.length<=sizeLine/\Q (.tup (xs++ys)) C
 |.ref a,.ref b=>match C a,C b with
  |some (.lst xs),some (.lst ys)=>xs.length+ys.length<=sizeLine/\∀p,C p=none->Q (.ref p) (uQ C p (.lst (xs++ys)))
  |_,_=>False
 |_,_=>False
abbrev rAddC:R2:=fun x y H Q=>rI0 (fun i j=>.int (i+j)) x y H Q\/((∃i j,x=.str i/\y=.str j/\i.length+j.length<=sizeLine/\Q (.str (i++j)) H)\/(rCatU x y H Q\/rCat x y H Q))
theorem lX:OpR X (binaryOp .Add) rAddC:=OpR.or op_add (OpR.or sP (OpR.or op_catU op_cat))
theorem rX {K:PySem.W.Frag}:Cop K rAddC kP:=fun x y px py H C Q R rx ry h q f=>by
 unfold kP at q
 split at q
 .cases rx; cases ry
  exact .inl ⟨_,_,rfl,rfl,f _ H _ C q (.int _) h Fw.refl⟩
 .cases rx; cases ry
  exact .inr (.inl ⟨_,_,rfl,rfl,q.1,f _ H _ C q.2 (.str _) h Fw.refl⟩)
 .cases rx with
  |tup e r=>cases ry with
   |tup e' r' =>
    refine .inr (.inr (.inl ⟨_,_,_,_,rfl,rfl,e,e',by rw[r.len,r'.len]; exact q.1,fun z H' s hz _=>?_⟩));exact f _ H' _ C q.2 (.tup hz ((r.append r').imm fun b v _ e=>s b v e)) (tR h s) (fw_same s)
 .split at q
  .next xs ys e1 e2 =>
   obtain⟨vs,ev,rv⟩:=h _ _ e1;obtain⟨us,eu,ru⟩:=h _ _ e2;cases rx; cases ry
   refine .inr (.inr (.inr ⟨_,_,_,_,rfl,rfl,ev,eu,by rw[rv.len,ru.len]; exact q.1,fun p hp=>?_⟩));exact f _ _ _ _ (q.2 p (h.fresh hp)) (.ref p) (h.lay hp ⟨_,fQ,(rv.append ru).imm (Imm.new hp _)⟩) (Fw.lay hp _ _)
  .exact q.elim
 .exact q.elim
def sEq:PV->PV->Option Bool
 |.non,.non=>some true | .non,.int _=>some false | .int _,.non=>some false | .non,.bl _=>some false | .bl _,.non=>some false | .non,.str _=>some false | .str _,.non=>some false
 |.int i,.int j=>some (decide (i=j)) | .bl b,.bl c=>some (decide (b=c)) | .str x,.str y=>some (decide (x=y))
 |.int _,.str _=>some false | .str _,.int _=>some false | .bl _,.str _=>some false | .str _,.bl _=>some false
 |_,_=>none
@[irreducible] def cEq (k:Bool->Bool):R2C:=fun x y C Q=>match sEq x y with
 |some b=>Q (.bl (k b)) C
 |none=>False
theorem jN {K:PySem.W.Frag}{H:Hp}{x y:V}{px py:PV}{b:Bool}(rx:Rep K H x px)(ry:Rep K H y py)(e:sEq px py=some b):scal x y=true/\decide (x=y)=b:=by
 cases rx<;>cases ry<;>cases e<;>exact⟨rfl,by simp⟩
theorem vX {K:PySem.W.Frag}:Cop K rEq (cEq id):=fun x y px py H C Q R rx ry h q f=>by
 unfold cEq at q
 split at q
 .next b e =>
  obtain⟨h1,h2⟩:=jN rx ry e;refine⟨h1,?_⟩;rw[h2];exact f _ H _ C q (.bl _) h Fw.refl
 .exact q.elim
theorem iE {K:PySem.W.Frag}:Cop K rNe (cEq not):=fun x y px py H C Q R rx ry h q f=>by
 unfold cEq at q
 split at q
 .next b e =>
  obtain⟨h1,h2⟩:=jN rx ry e;refine⟨h1,?_⟩;rw[h2];exact f _ H _ C q (.bl _) h Fw.refl
 .exact q.elim
def vH:PV->Bool
 |.non=>true
 |_=>false
def cIs (k:Bool->Bool):R2C:=fun x y C Q=>match y with
 |.non=>Q (.bl (k (vH x))) C
 |_=>False
theorem bL {K:PySem.W.Frag}{H:Hp}{x:V}{px:PV}(r:Rep K H x px):decide (x=.non)=vH px:=by
 cases r<;>simp[vH]
theorem oN {K:PySem.W.Frag}:Cop K (fun x y H Q=>y=.non/\Q (.bl (decide (x=.non))) H) (cIs id):=fun x y px py H C Q R rx ry h q f=>by
 cases ry with
 |non=>exact⟨rfl,by rw[bL rx]; exact f _ H _ C q (.bl _) h Fw.refl⟩
 |_=>exact q.elim
theorem aE {K:PySem.W.Frag}:Cop K (fun x y H Q=>y=.non/\Q (.bl (!decide (x=.non))) H) (cIs not):=fun x y px py H C Q R rx ry h q f=>by
 cases ry with
 |non=>exact⟨rfl,by rw[bL rx]; exact f _ H _ C q (.bl _) h Fw.refl⟩
 |_=>exact q.elim
def cAt (xs:List PV)(i:Int)(C:CH)(Q:K1):Prop:=match atI xs i with
 |some v=>Q v C
 |none=>False
@[irreducible] def cIx:R2C:=fun x y C Q=>match x,y with
 |.tup xs,.int i=>cAt xs i C Q
 |.kt xs,.int i=>cAt xs i C Q
 |.fz xs,.int i=>cAt xs i C Q
 |.ref a,.int i=>match C a with
  |some (.lst xs)=>cAt xs i C Q
  |_=>False
 |.str z,.int i=>z.length<=sizeLine/\match atI z.cps.toList i with
  |some c=>Q (.str ⟨#[c]⟩) C
  |none=>False
 |_,_=>False
theorem Reps.at {K:PySem.W.Frag}{H:Hp}{vs:List V}{ts:List PV}{i:Int}{t:PV}(r:Reps K H vs ts)(e:atI ts i=some t):∃v,atI vs i=some v/\Rep K H v t:=by
 unfold atI at e ⊢;rw[r.len]
 cases z:ixN ts.length i with
 |none=>rw[z] at e; cases e
 |some j =>
  rw[z] at e;exact r.get e
theorem rF {K:PySem.W.Frag}{H:Hp}{C:CH}{vs:List V}{ts:List PV}{i:Int}{R:K1}(r:Reps K H vs ts)(q:cAt ts i C R):∃v t,atI vs i=some v/\Rep K H v t/\R t C:=by
 unfold cAt at q
 split at q
 .next t e =>
  obtain⟨v,e',r'⟩:=r.at e;exact⟨v,t,e',r',q⟩
 .exact q.elim
theorem cop_ix {K:PySem.W.Frag}:Cop K (rIx K) cIx:=fun x y px py H C Q R rx ry h q f=>by
 unfold cIx at q
 split at q
 .cases ry
  cases rx with
  |tup e r =>
   obtain⟨v,t,e',r',q⟩:=rF r q;exact .inr (.inl ⟨_,_,_,v,rfl,rfl,SqT.of e,e',f _ H _ C q r' h Fw.refl⟩)
 .cases ry
  cases rx with
  |kt e r =>
   obtain⟨v,t,e',r',q⟩:=rF r q;exact .inr (.inl ⟨_,_,_,v,rfl,rfl,e,e',f _ H _ C q r' h Fw.refl⟩)
 .cases ry
  cases rx with
  |fz e r =>
   obtain⟨v,t,e',r',q⟩:=rF r q;exact .inl ⟨_,_,_,v,rfl,rfl,e.sq,e',f _ H _ C q r' h Fw.refl⟩
 .cases ry
  split at q
  .next xs e =>
   obtain⟨vs,ev,rv⟩:=h _ _ e;cases rx;obtain⟨v,t,e',r',q⟩:=rF rv q;exact .inl ⟨_,_,_,v,rfl,rfl,SqL.of ev,e',f _ H _ C q r' h Fw.refl⟩
  .exact q.elim
 .cases ry; cases rx
  obtain⟨q1,q2⟩:=q
  split at q2
  .next c e=>exact .inr (.inr ⟨_,_,c,rfl,rfl,q1,e,f _ H _ C q2 (.str _) h Fw.refl⟩)
  .exact q2.elim
 .exact q.elim
theorem ix_seqC:IxR X (rIx X.K):=ix_seq
@[irreducible] def gB:GC:=fun ts C Q=>match ts with
 |[.tup xs]=>Q (.int xs.length) C
 |[.kt xs]=>Q (.int xs.length) C
 |[.fz xs]=>Q (.int xs.length) C
 |[.ref a]=>match C a with
  |some (.lst xs)=>Q (.int xs.length) C
  |some (.dK kvs)=>Q (.int kvs.length) C
  |_=>False
 |[.str z]=>z.length<=sizeLine/\Q (.int z.length) C
 |_=>False
abbrev rLenC (K:PySem.W.Frag):List V->Hp->VK->Prop:=fun xs H Q=>(∃p ys,xs=[.ref p]/\(SqL K H p ys\/SqT K H p ys)/\Q (.int ys.length) H)\/((∃a kvs,xs=[V.ref a]/\H a=some (.dK kvs)/\Q (.int kvs.length) H)\/∃z,xs=[.str z]/\z.length<=sizeLine/\Q (.int z.length) H)
theorem yS:CallR X (.builtin "len") (rLenC X.K):=CallR.or cF (CallR.or wS dF)
theorem yX {K:PySem.W.Frag}{H:Hp}{xs:List V}{t:PV}(r:Reps K H xs [t]):∃v,xs=[v]/\Rep K H v t:=by
 cases r with
 |cons h r=>cases r; exact⟨_,rfl,h⟩
theorem rM {K:PySem.W.Frag}{H:Hp}{xs:List V}{t u:PV}(r:Reps K H xs [t,u]):∃v w,xs=[v,w]/\Rep K H v t/\Rep K H w u:=by
 cases r with
 |cons h r=>obtain⟨w,rfl,h'⟩:=yX r; exact⟨_,w,rfl,h,h'⟩
theorem cbi_len {K:PySem.W.Frag}:Cbi K (rLenC K) gB:=fun xs ps H C Q R rs h q f=>by
 unfold gB at q
 split at q
 .obtain ⟨v,rfl,r⟩:=yX rs
  cases r with
  |tup e r=>exact .inl ⟨_,_,rfl,.inr (SqT.of e),f _ H _ C (by rw[r.len]; exact q) (.int _) h Fw.refl⟩
 .obtain ⟨v,rfl,r⟩:=yX rs
  cases r with
  |kt e r=>exact .inl ⟨_,_,rfl,.inr e,f _ H _ C (by rw[r.len]; exact q) (.int _) h Fw.refl⟩
 .obtain ⟨v,rfl,r⟩:=yX rs
  cases r with
  |fz e r=>exact .inl ⟨_,_,rfl,.inl e.sq,f _ H _ C (by rw[r.len]; exact q) (.int _) h Fw.refl⟩
 .obtain ⟨v,rfl,r⟩:=yX rs
  split at q
  .next xs e =>
   obtain⟨vs,ev,rv⟩:=h _ _ e;cases r;exact .inl ⟨_,_,rfl,.inl (SqL.of ev),f _ H _ C (by rw[rv.len]; exact q) (.int _) h Fw.refl⟩
  .next kvs e =>
   obtain⟨vs,ev,rv⟩:=h _ _ e;cases r;exact .inr (.inl ⟨_,_,rfl,ev,f _ H _ C (by rw[Paired.length rv]; exact q) (.int _) h Fw.refl⟩)
  .exact q.elim
 .obtain ⟨v,rfl,r⟩:=yX rs
  cases r;exact .inr (.inr ⟨_,rfl,q.1,f _ H _ C q.2 (.int _) h Fw.refl⟩)
 .exact q.elim
def tyP (C:CH):PV->Option Ty
 |.non=>some .non
 |.bl _=>some .bl
 |.int _=>some .int
 |.str _=>some .str
 |.tup _=>some .tup
 |.ref a=>match C a with
  |some (.lst _)=>some .lst
  |some (.dK _)=>some .dct
  |_=>none
 |_=>none
theorem tyP_rep {K:PySem.W.Frag}{H:Hp}{C:CH}{x:V}{t:PV}{n:Ty}(r:Rep K H x t)(h:HRel K H C)(e:tyP C t=some n):tyN H x=some n:=by
 cases r with
 |tup e' _=>cases e; show(H _).bind tyH=_; rw[e']; rfl
 |ref a =>
  unfold tyP at e;dsimp only at e
  split at e
  .next xs c=>cases e; obtain⟨vs,ev,_⟩:=h _ _ c; show(H _).bind tyH=_; rw[ev]; rfl
  .next xs c=>cases e; obtain⟨vs,ev,_⟩:=h _ _ c; show(H _).bind tyH=_; rw[ev]; rfl
  .cases e
 |kt _ _=>cases e
 |fz _ _=>cases e
 |ty _=>cases e
 |vw _=>cases e
 |_=>cases e; rfl
def dW (n:String):Option Ty:=[Ty.non,.bl,.int,.str,.lst,.tup,.dct].find? fun t=>vK t==n
theorem zD {n:String}{t:Ty}(h:dW n=some t):n=vK t:=by
 have:=List.find?_some h;exact(eq_of_beq this).symm
@[irreducible] def cIsi:GC:=fun ts C Q=>match ts with
 |[x,.ty n]=>match dW n,tyP C x with
  |some T,some k=>Q (.bl (qJ k T)) C
  |_,_=>False
 |_=>False
theorem iW {K:PySem.W.Frag}:Cbi K (fun xs H Q=>∃x T n,xs=[x,.ty (vK T)]/\tyN H x=some n/\Q (.bl (qJ n T)) H) cIsi:=fun xs ps H C Q R rs h q f=>by
 unfold cIsi at q
 split at q
 .split at q
  .next T k e1 e2 =>
   obtain⟨v,w,rfl,r1,r2⟩:=rM rs;cases r2;rw[zD e1];exact⟨v,T,k,rfl,tyP_rep r1 h e2,f _ H _ C q (.bl _) h Fw.refl⟩
  .exact q.elim
 .exact q.elim
def cAbs:GC:=fun ts C Q=>match ts with
 |[.int i]=>Q (.int (if i < 0 then -i else i)) C
 |_=>False
theorem cbi_abs {K:PySem.W.Frag}:Cbi K (fun xs H Q=>∃i,xs=[.int i]/\Q (.int (if i < 0 then -i else i)) H) cAbs:=fun xs ps H C Q R rs h q f=>by
 unfold cAbs at q
 split at q
 .obtain ⟨v,rfl,r⟩:=yX rs
  cases r;exact⟨_,rfl,f _ H _ C q (.int _) h Fw.refl⟩
 .exact q.elim
@[irreducible] def lY:GC:=fun ts C Q=>match ts with
 |[.tup xs]=>Q (.tup xs) C
 |[.ref a]=>match C a with
  |some (.lst xs)=>Q (.tup xs) C
  |_=>False
 |_=>False
theorem cbi_tup {K:PySem.W.Frag}:Cbi K (fun xs H Q=>∃p ys,xs=[.ref p]/\((SqL K H p ys/\∀l,H l=none->Q (.ref l) (upd H l (.tup ys)))\/(SqT K H p ys/\Q (.ref p) H))) lY:=fun xs ps H C Q R rs h q f=>by
 unfold lY at q
 split at q
 .obtain ⟨v,rfl,r⟩:=yX rs
  cases r with
  |tup e r=>exact⟨_,_,rfl,.inr ⟨SqT.of e,f _ H _ C q (.tup e r) h Fw.refl⟩⟩
 .obtain ⟨v,rfl,r⟩:=yX rs
  split at q
  .next xs e =>
   obtain⟨vs,ev,rv⟩:=h _ _ e;cases r;exact⟨_,_,rfl,.inl ⟨SqL.of ev,fun l hl=>f _ _ _ C q (.tup fQ (rv.imm (Imm.new hl _))) (h.new hl _) (Fw.new hl _)⟩⟩
  .exact q.elim
 .exact q.elim
def xG:List PV->Option (List Bool)
 |[]=>some []
 |.bl b::r=>(xG r).map (b :: ·)
 |_=>none
@[irreducible] def cAll:GC:=fun ts C Q=>match ts with
 |[.ref a]=>match C a with
  |some (.lst xs)=>match xG xs with
   |some bs=>Q (.bl (bs.all id)) C
   |none=>False
  |_=>False
 |_=>False
theorem gS {K:PySem.W.Frag}{H:Hp}{vs:List V}{ts:List PV}{bs:List Bool}(r:Reps K H vs ts)(e:xG ts=some bs):vs=bs.map V.bl:=by
 induction ts generalizing vs bs with
 |nil=>cases r; cases e; rfl
 |cons t ts ih =>
  cases r with
  |@cons v _ vs _ h r =>
   cases t with
   |bl b =>
    unfold xG at e
    cases z:xG ts with
    |none=>rw[z] at e; cases e
    |some cs =>
     rw[z] at e;injection e with e
     subst e;cases h;rw[ih r z]; rfl
   |_=>cases e
theorem cbi_all {K:PySem.W.Frag}:Cbi K (fun xs H Q=>∃p ys,xs=[.ref p]/\SqL K H p (List.map V.bl ys)/\Q (.bl (ys.all id)) H) cAll:=fun xs ps H C Q R rs h q f=>by
 unfold cAll at q
 split at q
 .obtain ⟨v,rfl,r⟩:=yX rs
  split at q
  .next xs e =>
   split at q
   .next bs eb =>
    obtain⟨vs,ev,rv⟩:=h _ _ e;cases r;have:=gS rv eb;subst this;exact⟨_,bs,rfl,SqL.of ev,f _ H _ C q (.bl _) h Fw.refl⟩
   .exact q.elim
  .exact q.elim
 .exact q.elim
def isL (x:PV)(C:CH):Prop:=match x with
 |.ref a=>match C a with
  |some (.lst _)=>True
  |_=>False
 |_=>False
def cBM (cr:PV->List PV->CH->K1->Prop)(co:TCE)(ca:TCA):TCE:=fun ρ C Q=>co ρ C fun x C1=>isL x C1/\ca ρ C1 fun xs C2=>cr x xs C2 Q
def Cmt (K:PySem.W.Frag)(r:V->List V->Hp->VK->Prop)(cr:PV->List PV->CH->K1->Prop):Prop:=∀x px xs ps H C Q R,Rep K H x px->Reps K H xs ps->HRel K H C->cr px ps C R->(∀v H' t C',R t C'->Rep K H' v t->HRel K H' C'->Fw H C H' C'->Q v H')->r x xs H Q
theorem kE {K:PySem.W.Frag}{H:Hp}{C:CH}{x:V}{t:PV}(l:isL t C)(r:Rep K H x t)(h:HRel K H C):tyV K "list" x H:=by
 unfold isL at l
 split at l
 .split at l
  .next e=>obtain⟨vs,ev,_⟩:=h _ _ e; cases r; exact .inl ⟨rfl,vs,SqL.of ev⟩
  .exact l.elim
 .exact l.elim
theorem ce_bm {name:Str}{id:String}{apos cpos:Pos}{r:V->List V->Hp->VK->Prop}{cr:PV->List PV->CH->K1->Prop}{co:TCE}{ca:TCA}(pa:PlainAttrs "list")(slot:Slot "list" name id)(hty:typeOf (.builtin id)=pure (.type "method_descriptor"))(hm:MtR X id r)(hr:Cmt X.K r cr)(ho:CE X o co)(ha:CA X (e::es) ca)
  (hbase:attributeBase o name X.env (eval o X.env)=eval o X.env:=by rfl)
  (hfew:((backTo cpos (starEach (e::es) X.env)).all (fun x=>!x.1)&&(backToKw cpos (keywordEach [] X.env)).all (fun x=>x.1.isSome)
   && decide ((e::es).length+([]:List Keyword).length+(if ([]:List Keyword).isEmpty then 0 else 1) < 30))=true:=by rfl)
  (hline:(apos.endLine==cpos.line)=true:=by rfl) (hs:cQ e=true:=by rfl) (hall:es.all cQ=true:=by rfl) :
  CE X (.Call (.Attribute o name apos) (e::es) [] cpos) (cBM cr co ca):=⟨JE.weak (je_bm pa slot hty hm ho.h ha.h hbase hfew hline hs hall) fun σ H Q ⟨ρ,C,R,s,h,q,f⟩ =>
 ⟨ρ,C,_,s,h,q,fun x H1 px C1 q1 rx h1 f1=>⟨kE q1.1 rx h1,ρ,C1,_,s.imm (f1.imm h),h1,q1.2,fun xs H2 ps C2 q2 rs h2 f2 =>
  hr x px xs ps H2 C2 Q R (rx.imm (f2.imm h1)) rs h2 q2 fun v H' t C' q' r' h' f'=>f v H' t C' q' r' h' (f1.trans (f2.trans f'))⟩⟩⟩
@[irreducible] def nK:PV->List PV->CH->K1->Prop:=fun x ts C Q=>match x,ts with
 |.ref a,[y]=>match C a with
  |some (.lst xs)=>xs.length < sizeLine/\Q .non (uQ C a (.lst (xs++[y])))
  |_=>False
 |_,_=>False
theorem bH {K:PySem.W.Frag}:Cmt K kN nK:=fun x px xs ps H C Q R rx rs h q f=>by
 unfold nK at q
 split at q
 .split at q
  .next ys e =>
   obtain⟨vs,ev,rv⟩:=h _ _ e;obtain⟨v,rfl,r⟩:=yX rs;cases rx;exact⟨_,vs,v,rfl,rfl,ev,by rw[rv.len]; exact q.1,f _ _ _ _ q.2 .non (h.put ev rfl ⟨_,fQ,(rv.append (.cons r .nil)).imm (Imm.mut ev rfl _)⟩) (Fw.put e _ _)⟩
  .exact q.elim
 .exact q.elim
end
def fJ:PV->Option Key
 |.non=>some (.inl none)
 |.int i=>some (.inl (some i))
 |.str x=>some (.inr x)
 |_=>none
def oB:Key->PV
 |.inl none=>.non
 |.inl (some i)=>.int i
 |.inr x=>.str x
theorem keyOf_keyPV (k:Key):fJ (oB k)=some k:=by rcases k with (_ | i) | x<;>rfl
theorem lV {K:PySem.W.Frag}{H:Hp}{v:V}{t:PV}{k:Key}(r:Rep K H v t)(e:fJ t=some k):v=kV k:=by
 cases r<;>cases e<;>rfl
def qW (kvs:List (Key×PV))(k:Key):Option PV:=(kvs.find? fun kv=>decide (kv.1=k)).map (·.2)
def nM (kvs:List (Key×PV))(k:Key)(v:PV):List (Key×PV):=if (kvs.any fun kv=>decide (kv.1=k))=true then kvs.map fun kv=>if kv.1=k then (kv.1,v) else kv else kvs++[(k,v)]
def zW (kvs more:List (Key×PV)):List (Key×PV):=more.foldl (fun acc kv=>nM acc kv.1 kv.2) kvs
section
variable {K:PySem.W.Frag}{H:Hp}{vs:List (Key×V)}{kvs:List (Key×PV)}
theorem KP.val (r:KP K H vs kvs)(k:Key):(∃v t,gJ vs k=some v/\qW kvs k=some t/\Rep K H v t)\/(gJ vs k=none/\qW kvs k=none):=by
 induction r with
 |nil=>exact .inr ⟨rfl,rfl⟩
 |@cons p q l1 l2 h r ih =>
  unfold gJ qW;rw[List.find?_cons,List.find?_cons,h.1]
  by_cases e:q.1=k
  .rw [decide_eq_true e]
   exact .inl ⟨p.2,q.2,rfl,rfl,h.2⟩
  .rw [decide_eq_false e]
   exact ih
theorem KP.any (r:KP K H vs kvs)(k:Key):(vs.any fun kv=>decide (kv.1=k))=(kvs.any fun kv=>decide (kv.1=k)):=by
 induction r with
 |nil=>rfl
 |@cons p q l1 l2 h r ih=>rw[List.any_cons,List.any_cons,h.1,ih]
theorem KP.put (r:KP K H vs kvs)(k:Key){v:V}{t:PV}(h:Rep K H v t):KP K H (pZ vs k v) (nM kvs k t):=by
 unfold pZ nM;rw[r.any k]
 have upd:KP K H (vs.map fun kv=>if kv.1=k then (kv.1,v) else kv) (kvs.map fun kv=>if kv.1=k then (kv.1,t) else kv):=by
  induction r with
  |nil=>exact .nil
  |@cons p q l1 l2 h' r ih =>
   refine .cons ?_ ih;dsimp only
   by_cases e:q.1=k
   .rw [if_pos (h'.1.trans e),if_pos e]; exact⟨h'.1,h⟩
   .rw [if_neg (fun z=>e (h'.1.symm.trans z)),if_neg e]; exact h'
 split
 .exact upd
 .exact Paired.snoc r ⟨rfl,h⟩
theorem KP.merge {ws:List (Key×V)}{more:List (Key×PV)}(r:KP K H vs kvs)(m:KP K H ws more):KP K H (xV vs ws) (zW kvs more):=by
 induction m generalizing vs kvs with
 |nil=>exact r
 |@cons p q l1 l2 h _ ih =>
  have e:p.1=q.1:=h.1;show KP K H (xV (pZ vs p.1 p.2) l1) (zW (nM kvs q.1 q.2) l2);rw[e];exact ih (r.put q.1 h.2)
end
def dOf:Option CO->Option (List (Key×PV))
 |some (.dK kvs)=>some kvs
 |some (.fK kvs)=>some kvs
 |_=>none
theorem dOf_rd {K:PySem.W.Frag}{H:Hp}{C:CH}{a:Addr}{kvs:List (Key×PV)}(h:HRel K H C)(e:dOf (C a)=some kvs):∃vs,Rd H a (.dK vs)/\KP K H vs kvs:=by
 cases c:C a with
 |none=>rw[c] at e; cases e
 |some o =>
  rw[c] at e
  cases o with
  |lst xs=>cases e
  |dT l=>cases e
  |fT l=>cases e
  |dP l=>cases e
  |ins c dx fs=>cases e
  |dK l=>cases e; obtain⟨vs,q,r⟩:=h a _ c; exact⟨vs,.inl q,r⟩
  |fK l=>cases e; obtain⟨o,vs,q,r⟩:=h a _ c; exact⟨vs,.inr ⟨o,q⟩,r⟩
section
variable {X:Cx}{a b c e o i f:Expr}{es:List Expr}{pos:Pos}{value:Expr}
@[irreducible] def cDIx:R2C:=fun x y C Q=>match x with
 |.ref a=>match dOf (C a),fJ y with
  |some kvs,some k=>match qW kvs k with
   |some v=>Q v C
   |none=>False
  |_,_=>False
 |_=>False
theorem dget_of {K:PySem.W.Frag}{H:Hp}{C:CH}{a:Addr}{y:V}{py:PV}{kvs:List (Key×PV)}{k:Key}(h:HRel K H C)(e1:dOf (C a)=some kvs)(ry:Rep K H y py)(e2:fJ py=some k):
  (∃v t,DGet H a y (some v)/\qW kvs k=some t/\Rep K H v t)\/(DGet H a y none/\qW kvs k=none):=by
 obtain⟨vs,q,r⟩:=dOf_rd h e1;have ey:=lV ry e2;subst ey
 rcases r.val k with ⟨v,t,h1,h2,h3⟩ | ⟨h1,h2⟩
 .exact .inl ⟨v,t,.inl ⟨vs,k,q,rfl,h1.symm⟩,h2,h3⟩
 .exact .inr ⟨.inl ⟨vs,k,q,rfl,h1.symm⟩,h2⟩
theorem fX {co ci:TCE}(hu:X.A.units+1 < cLine)(ho:CE X o co)(hi:CE X i ci)(hs:sH i):CE X (.Subscript o i pos) (cOp cDIx co ci):=⟨JE.weak (gN hu ho.h hi.h hs) fun σ H Q ⟨ρ,C,R,s,h,q,f⟩ =>
 ⟨ρ,C,_,s,h,q,fun x H1 px C1 q1 rx h1 f1=>⟨ρ,C1,_,s.imm (f1.imm h),h1,q1,fun y H2 py C2 q2 ry h2 f2=>by
  unfold cDIx at q2
  split at q2
  .next a =>
   split at q2
   .next kvs k e1 e2 =>
    split at q2
    .next t e3 =>
     have rx2:=rx.imm (f2.imm h1);cases rx2
     rcases dget_of h2 e1 ry e2 with ⟨v,t',g,e4,r⟩ | ⟨_,e4⟩
     .rw [e3] at e4
      cases e4;exact⟨a,v,rfl,g,f v H2 t C2 q2 r h2 (f1.trans f2)⟩
     .rw [e3] at e4; cases e4
    .exact q2.elim
   .exact q2.elim
  .exact q2.elim⟩⟩⟩
@[irreducible] def cGetD:PV->PV->PV->CH->K1->Prop:=fun x y z C Q=>match x with
 |.ref a=>match dOf (C a),fJ y with
  |some kvs,some k=>Q ((qW kvs k).getD z) C
  |_,_=>False
 |_=>False
@[irreducible] def jP:PV->PV->PV->CH->(CH->Prop)->Prop:=fun x y v C Q=>match x with
 |.ref a=>match C a,fJ y with
  |some (.dK kvs),some k=>kvs.length < sizeLine/\Q (uQ C a (.dK (nM kvs k v)))
  |_,_=>False
 |_=>False
def cDPut (co ck cv:TCE):TCS:=fun E ρ C=>cv ρ C fun v C1=>co ρ C1 fun x C2=>ck ρ C2 fun y C3=>jP x y v C3 fun C4=>E.nx ρ C4
theorem dJ {pos':Pos}{co ck cv:TCE}(hu:X.A.units+1 < cLine)(ho:CE X o co)(hi:CE X i ck)(hv:CE X value cv)(hs:swapsWith value (some (.Subscript o i pos')) pos.line X.env=pure false:=by rfl):
  CS X (.Assign [.Subscript o i pos'] value pos) (cDPut co ck cv):=⟨JS.weak (yN hu ho.h hi.h hv.h hs) fun D σ H ⟨ρ,C,E,s,h,q,f⟩ =>
 ⟨ρ,C,_,s,h,q,fun v H1 pv C1 q1 rv h1 f1=>⟨ρ,C1,_,s.imm (f1.imm h),h1,q1,fun x H2 px C2 q2 rx h2 f2=>⟨ρ,C2,_,(s.imm (f1.imm h)).imm (f2.imm h1),h2,q2,fun y H3 py C3 q3 ry h3 f3=>by
  have s3:=((s.imm (f1.imm h)).imm (f2.imm h1)).imm (f3.imm h2);have rv3:=rv.imm ((f2.trans f3).imm h1);unfold jP at q3
  split at q3
  .next a =>
   split at q3
   .next kvs k e1 e2 =>
    have rx3:=rx.imm (f3.imm h2);cases rx3;obtain⟨vs,ev,r⟩:=h3 a _ e1;have ey:=lV ry e2;subst ey;have hl:vs.length=kvs.length:=Paired.length r;have m:Imm H3 (upd H3 a (.dK (pZ vs k v))):=Imm.mut ev rfl _;refine⟨a,_,rfl,DPut.k ev (by rw[hl]; exact q3.1),f.nx σ _ ρ _ q3.2 (s3.imm m) (h3.put ev rfl ⟨_,fQ,Paired.mapP (r.put k rv3) fun _ _ z=>⟨z.1,z.2.imm m⟩⟩) (f1.trans (f2.trans (f3.trans (Fw.put e1 _ _))))⟩
   .exact q3.elim
  .exact q3.elim⟩⟩⟩⟩
def oM:List PV->Option (List (Key×PV))
 |[]=>some []
 |.tup [k,v]::r=>match fJ k,oM r with
  |some k,some ps=>some ((k,v)::ps)
  |_,_=>none
 |_=>none
@[irreducible] def cDictOf:GC:=fun ts C Q=>match ts with
 |[.tup xs]=>match oM xs with
  |some ps=>ps.length<=sizeLine/\∀p,C p=none->Q (.ref p) (uQ C p (.dK (zW [] ps)))
  |none=>False
 |_=>False
@[irreducible] def cUpdP:PV->List PV->CH->K1->Prop:=fun x ts C Q=>match x,ts with
 |.ref a,[.tup xs]=>match C a,oM xs with
  |some (.dK kvs),some ps=>kvs.length+ps.length<=sizeLine/\Q .non (uQ C a (.dK (zW kvs ps)))
  |_,_=>False
 |_,_=>False
@[irreducible] def cItems (co:TCE):TCE:=fun ρ C Q=>co ρ C fun x C1=>match x with
 |.ref a=>match C1 a with
  |some (.dK _)=>Q (.vw a) C1
  |_=>False
 |_=>False
end
end CL
namespace CL
open PySem PySem.Spec L2 PySem.W
open PyProof.Rows hiding St
def oQ (c:Str×Int):PV:=.tup [.str c.1,.int c.2]
def siOf:List PV->Option (List (Str×Int))
 |[]=>some []
 |.tup [.str x,.int i]::r=>(siOf r).map ((x,i) :: ·)
 |_=>none
def siK:List (Key×PV)->Option (List (Str×Int))
 |[]=>some []
 | (.inr x,.int i)::r=>(siK r).map ((x,i) :: ·)
 |_=>none
def siLt (cs:List (Str×Int)):Nat->Nat->Bool:=fun i j=>ltSI (cs.getD i ("",0)) (cs.getD j ("",0))
def ordC (cs:List (Str×Int)):List (Str×Int):=(jW (siLt cs) (kas_sort cs.length)).toList.map fun i=>cs.getD i ("",0)
section
variable {K:PySem.W.Frag}{H:Hp}{X:Cx}
theorem Reps.getD {ys:List V}{ts:List PV}(r:Reps K H ys ts){d:PV}:∀i,i < ys.length->Rep K H (ys.getD i .non) (ts.getD i d):=by
 induction ts generalizing ys with
 |nil=>cases r; intro i hi; exact absurd hi (Nat.not_lt_zero i)
 |cons c cs ih =>
  cases r with
  |@cons v _ vs _ h r =>
   intro i hi
   cases i with
   |zero=>exact h
   |succ i=>exact ih r i (Nat.lt_of_succ_lt_succ hi)
@[irreducible] def cSorted:GC:=fun ts C Q=>match ts with
 |[.ref a]=>match C a with
  |some (.lst xs)=>match siOf xs with
   |some cs=>cs.length < 64/\∀p,C p=none->Q (.ref p) (uQ C p (.lst ((ordC cs).map oQ)))
   |none=>False
  |_=>False
 |[.vw a]=>match C a with
  |some (.dK kvs)=>match siK kvs with
   |some cs=>cs.length < 64/\∀p,C p=none->Q (.ref p) (uQ C p (.lst ((ordC cs).map oQ)))
   |none=>False
  |_=>False
 |_=>False
end
section
variable {X:Cx}{pos:Pos}
@[irreducible] def cCompD (ce:TCE)(t:TCT)(c:TCE):TCE:=fun ρ C Q=>ce ρ C fun x C1=>match x with
 |.ref d=>match C1 d with
  |some (.dK kvs)=>cX t c ρ (fun v C2=>C2 d=some (.fK kvs)/\Q v (uQ C2 d (.dK kvs))) (kvs.map fun p=>oB p.1) [] (uQ C1 d (.fK kvs))
  |_=>False
 |_=>False
end
section
variable {X:Cx}{a b c e o i f:Expr}{es:List Expr}{pos:Pos}{value:Expr}
abbrev relO:Hp->Option Int->Option Int->Prop:=fun _ a b=>a=b
abbrev TCO:=CSt->CH->(Option Int->CH->Prop)->Prop
structure CPt (X:Cx)(e:Option Expr)(c:TCO):Prop where
 h:JO X e (gZ X.K relO c)
theorem JO.weak {e:Option Expr}{t t':TO}(h:JO X e t)(w:∀σ H Q,t' σ H Q->t σ H Q):JO X e t':=⟨fun pins s σ H Q I q=>h.h pins s σ H Q I (w σ H Q q)⟩
def cNoPart:TCO:=fun _ C Q=>Q none C
def cPart (ce:TCE):TCO:=fun ρ C Q=>ce ρ C fun t C1=>match t with
 |.int i=>Q (some i) C1
 |_=>False
theorem sV:CPt X none cNoPart:=⟨JO.weak jo_none fun σ H Q ⟨ρ,C,R,s,h,q,f⟩=>f none H none C q rfl h Fw.refl⟩
theorem nV {ce:TCE}(h:CE X e ce):CPt X (some e) (cPart ce):=⟨JO.weak (jo_some h.h) fun σ H Q ⟨ρ,C,R,s,h,q,f⟩=>⟨ρ,C,_,s,h,q,fun x H1 px C1 q1 rx h1 f1=>by
 split at q1
 .cases rx; exact⟨_,rfl,f _ H1 _ C1 q1 rfl h1 f1⟩
 .exact q1.elim⟩⟩
def pY (xs:List PV)(lo hi:Option Int):List PV:=(xs.drop (HT.sIx xs.length 0 lo)).take (HT.sIx xs.length xs.length hi - HT.sIx xs.length 0 lo)
theorem Reps.cut {K:PySem.W.Frag}{H:Hp}{vs:List V}{ts:List PV}(r:Reps K H vs ts)(lo hi:Option Int):Reps K H (xS vs lo hi) (pY ts lo hi):=by
 unfold xS pY;rw[r.len];exact(r.drop _).take _
@[irreducible] def cSlL:PV->Option Int->Option Int->CH->K1->Prop:=fun x lo hi C Q=>match x with
 |.ref a=>match C a with
  |some (.lst xs)=>∀p,C p=none->Q (.ref p) (uQ C p (.lst (pY xs lo hi)))
  |_=>False
 |_=>False
def cSl (cr:PV->Option Int->Option Int->CH->K1->Prop)(ce:TCE)(cl ch:TCO):TCE:=fun ρ C Q=>ce ρ C fun x C1=>cl ρ C1 fun l C2=>ch ρ C2 fun u C3=>cr x l u C3 Q
theorem dY {lo hi:Option Expr}{ce:TCE}{cl ch:TCO}{p2:Pos}(he:CE X e ce)(hl:CPt X lo cl)(hu:CPt X hi ch):CE X (.Subscript e (.Slice lo hi none p2) pos) (cSl cSlL ce cl ch):=⟨JE.weak (iO sl_list he.h hl.h hu.h) fun σ H Q ⟨ρ,C,R,s,h,q,f⟩ =>
 ⟨ρ,C,_,s,h,q,fun x H1 px C1 q1 rx h1 f1=>⟨ρ,C1,_,s.imm (f1.imm h),h1,q1,fun l H2 l' C2 q2 e2 h2 f2=>⟨ρ,C2,_,(s.imm (f1.imm h)).imm (f2.imm h1),h2,q2,fun u H3 u' C3 q3 e3 h3 f3=>by
  cases e2; cases e3
  unfold cSlL at q3
  split at q3
  .split at q3
   .next xs e =>
    obtain⟨vs,ev,r⟩:=h3 _ _ e;have rx3:=rx.imm ((f2.trans f3).imm h1);cases rx3;exact⟨_,vs,rfl,SqL.of ev,fun p hp=>f _ _ _ _ (q3 p (h3.fresh hp)) (.ref p) (h3.lay hp ⟨_,fQ,(r.cut l u).imm (Imm.new hp _)⟩) (f1.trans (f2.trans (f3.trans (Fw.lay hp _ _))))⟩
   .exact q3.elim
  .exact q3.elim⟩⟩⟩⟩
def mV (S:CH->Prop)(t:TCT)(c:TCE)(ρ:CSt)(Q:K1):List PV->List PV->CH->Prop
 |[],acc,C=>S C/\∀p,C p=none->Q (.ref p) (uQ C p (.lst acc))
 |x::r,acc,C=>S C/\t (some x::ρ) C fun b C1=>if b=true then c (some x::ρ) C1 fun y C2=>acc.length < sizeLine/\mV S t c ρ Q r (acc++[y]) C2 else mV S t c ρ Q r acc C1
structure ItS (K:PySem.W.Frag)(S:CH->Prop)(J:It)(ps:List PV):Prop where
 go:∀i H' C',i < ps.length->HRel K H' C'->S C'->J.go i H'
 yl:∀i H' C' x H'',HRel K H' C'->S C'->J.yld i H' x H''->H''=H'/\∀t,ps[i]?=some t->Rep K H' x t
 st:∀H' C',HRel K H' C'->S C'->J.stop ps.length H'
theorem comp_S {K:PySem.W.Frag}{H H0:Hp}{C C0:CH}{σ:St}{ρ:CSt}{J:It}{ps:List PV}{t:TCT}{c:TCE}{R:K1}{Q:VK}{S:CH->Prop}(j:ItS K S J ps)(s:SRel K H σ ρ)(h:HRel K H C)(q:mV S t c ρ R ps [] C)
  (h0:HRel K H0 C0) (f0:Fw H0 C0 H C) (f:∀v H' p C',R p C'->Rep K H' v p->HRel K H' C'->Fw H0 C0 H' C'->Q v H') {D:Addr} (hD:H D=none) :
  ∃W:Nat->Nat->List V->Hp->Prop,(∃m,W 0 m [] (upd H D (.lst [])))/\∀i m ys H,W i m ys H ->
   (J.stop i H/\Q (.ref D) H)\/(J.go i H/\∀x H',J.yld i H x H'->gZ K kB t (some x::σ) H' fun b H2 =>
    if b=true then gZ K (Rep K) c (some x::σ) H2 fun y H3=>H3 D=some (.lst ys)/\ys.length < sizeLine/\∃m',m' < m/\W (i+1) m' (ys++[y]) (upd H3 D (.lst (ys++[y])))
    else ∃m',m' < m/\W (i+1) m' ys H2):=by
 have fD:∀{H':Hp} {C':CH},Fw H C H' C'->True:=fun _=>trivial
 refine⟨fun i m ys H'=>m=ps.length - i/\i<=ps.length/\∃acc C',H' D=some (.lst ys)/\C' D=none/\Reps K H' ys acc/\HRel K H' C'/\Fw H C H' C'/\mV S t c ρ R (ps.drop i) acc C',
  ⟨ps.length,rfl,Nat.zero_le _,[],C,fQ,h.fresh hD,.nil,h.new hD _,Fw.new hD _,q⟩,?_⟩
 rintro i m ys H1 ⟨rfl,hi,acc,C1,e1,n1,r1,h1,f1,q1⟩;have k1:Imm H H1:=f1.imm h
 have q0:S C1:=by
  cases z:ps.drop i with
  |nil=>rw[z] at q1; exact q1.1
  |cons x r=>rw[z] at q1; exact q1.1
 by_cases hlt:i < ps.length
 .refine .inr ⟨j.go i H1 C1 hlt h1 q0,fun x H2 y=>?_⟩
  obtain⟨rfl,y⟩:=j.yl i H1 C1 x H2 h1 q0 y;have rx:=y _ (List.getElem?_eq_getElem hlt);rw[List.drop_eq_getElem_cons hlt] at q1
  replace q1:=q1.2
  refine⟨some ps[i]::ρ,C1,_,.cons rx (s.imm k1),h1,q1,fun b H3 b' C3 q3 e h3 f3=>?_⟩;cases e;obtain⟨n3,e3⟩:=f3 D (by rw[n1]; rfl) (by rw[e1]; exact fun z=>nomatch z);rw[e1] at e3;rw[n1] at n3;have k3:=f3.imm h1
  cases b with
  |true =>
   rw[if_pos rfl] at q3 ⊢;refine⟨some ps[i]::ρ,C3,_,.cons (rx.imm k3) ((s.imm k1).imm k3),h3,q3,fun v H4 p C4 q4 r4 h4 f4=>?_⟩;obtain⟨n4,e4⟩:=f4 D (by rw[n3]; rfl) (by rw[e3]; exact fun z=>nomatch z);rw[e3] at e4;rw[n3] at n4;have k4:=f4.imm h3;have m4:Imm H4 (upd H4 D (.lst (ys++[v]))):=Imm.mut e4 rfl _;refine⟨e4,by rw[r1.len]; exact q4.1,ps.length - (i+1),by omega,rfl,hlt,acc++[p],C4,fQ,n4,?_,?_,?_,q4.2⟩
   .exact (((r1.imm k3).imm k4).append (.cons r4 .nil)).imm m4
   .intro a o ca
    have ne:a≠D:=fun z=>by subst z; rw[n4] at ca; cases ca
    exact(h4 a o ca).imm m4 (nQ ne)
   .intro a ca na
    have ne:a≠D:=fun z=>na (z▸hD);obtain⟨x1,x2⟩:=(f1.trans (f3.trans f4)) a ca na;exact⟨x1,(nQ ne).trans x2⟩
  |false =>
   rw[if_neg Bool.false_ne_true] at q3 ⊢;exact⟨ps.length - (i+1),by omega,rfl,hlt,acc,C3,e3,n3,r1.imm k3,h3,f1.trans f3,q3⟩
 .have e:i=ps.length:=by omega
  subst e;rw[List.drop_length] at q1
  replace q1:=q1.2
  refine .inl ⟨j.st H1 C1 h1 q0,f (.ref D) H1 (.ref D) _ (q1 D n1) (.ref D) ?_ ?_⟩
  .intro a o ca
   by_cases z:a=D
   .subst z; rw[jQ] at ca; cases ca; exact⟨ys,e1,r1⟩
   .rw [yQ z] at ca; exact h1 a o ca
  .intro a ca na
   obtain⟨x1,x2⟩:=f0 a ca na;have na':H a≠none:=by rw[x2]; exact na
   have ne:a≠D:=fun z=>na' (z▸hD);obtain⟨y1,y2⟩:=f1 a (by rw[x1]; exact ca) na';exact⟨(yQ ne).trans (y1.trans x1),y2.trans x2⟩
theorem it_lst {K:PySem.W.Frag}{a:Addr}{xs:List PV}:ItS K (fun C=>C a=some (.lst xs)) (Itl K a) xs where
 go:=fun i H' C' l h s=>by
  obtain⟨vs,e,r⟩:=h a _ s;obtain⟨v,ev,_⟩:=r.get (List.getElem?_eq_getElem l);exact⟨vs,v,SqL.of e,ev⟩
 yl:=fun i H' C' x H'' h s y=>⟨y.1,fun t et=>by
  obtain⟨vs,e,r⟩:=h a _ s;obtain⟨v,ev,rv⟩:=r.get et;have:=y.2 vs (SqL.of e)
  rw[ev] at this; cases this; exact rv⟩
 st:=fun H' C' h s=>by
  obtain⟨vs,e,r⟩:=h a _ s;exact⟨vs,SqL.of e,by rw[r.len]; exact Nat.le_refl _⟩
@[irreducible] def rY (ce:TCE)(t:TCT)(c:TCE):TCE:=fun ρ C Q=>ce ρ C fun x C1=>match x with
 |.ref a=>match C1 a with
  |some (.lst xs)=>mV (fun C=>C a=some (.lst xs)) t c ρ Q xs [] C1
  |_=>False
 |_=>False
theorem xK {elt iter:Expr}{x:Str}{px:Pos}{ifs:List Expr}{scope:Scope}{ce:TCE}{t:TCT}{c:TCE}
  (hc:X.calm=true) (hN:(x::X.N).Nodup) (K:∃cl,qB X x scope cl) (hi:CE X iter ce)
  (ht:∀cl fp C s₂ H₂,CF (sJ X x scope cl fp C s₂ H₂) ifs t) (he:∀cl fp C s₂ H₂,CE (sJ X x scope cl fp C s₂ H₂) elt c)
  (hs:∀v,foldedSetIterable iter X.env v=pure v:=by intro _; rfl):CE X (.ListComp elt [⟨.Name x px,iter,ifs,0⟩] scope pos) (rY ce t c) :=
 ⟨JE.weak (yL (te:=gZ X.K (Rep X.K) c) (tc:=gZ X.K kB t) hc hN K (uN hi.h) (fun cl fp C s₂ H₂=>(ht cl fp C s₂ H₂).h) (fun cl fp C s₂ H₂=>(he cl fp C s₂ H₂).h) hs) fun σ H Q ⟨ρ,C,R,s,h,q,f⟩=>by
  unfold rY at q
  exact⟨ρ,C,_,s,h,q,fun xv H1 px C1 q1 rx h1 f1=>by
   split at q1
   .next a =>
    split at q1
    .next xs e =>
     obtain⟨vs,ev,r⟩:=h1 a _ e;cases rx;exact⟨a,rfl,⟨vs,SqL.of ev⟩,fun D hD=>comp_S (Q:=Q) it_lst (s.imm (f1.imm h)) h1 q1 h f1 f hD⟩
    .exact q1.elim
   .exact q1.elim⟩⟩
end
section
variable {C:CH}{a p:Addr}{xs ys:List PV}{i:Int}{v:PV}{Q:K1}
theorem iQ (h:C a=some (.lst xs))(e:atI xs i=some v)(q:Q v C):cIx (.ref a) (.int i) C Q:=by
 unfold cIx;show(match C a with | some (.lst xs)=>cAt xs i C Q | _=>False);rw[h];show cAt xs i C Q;unfold cAt;rw[e];exact q
theorem ix_f (e:atI xs i=some v)(q:Q v C):cIx (.fz xs) (.int i) C Q:=by
 unfold cIx;show cAt xs i C Q;unfold cAt;rw[e];exact q
theorem yV (e:atI xs i=some v)(q:Q v C):cIx (.tup xs) (.int i) C Q:=by
 unfold cIx;show cAt xs i C Q;unfold cAt;rw[e];exact q
theorem setL {k:Int}{j:Nat}{Q:CH->Prop}(h:C p=some (.lst xs))(e:ixN xs.length k=some j)(q:Q (uQ C p (.lst (xs.set j v)))):eN (.ref p) (.int k) v C Q:=by
 unfold eN;dsimp only;rw[h];dsimp only;rw[e];exact q
theorem vV (h:C a=some (.lst xs))(q:Q (.int xs.length) C):gB [.ref a] C Q:=by
 unfold gB;show(match C a with | some (.lst xs)=>Q (.int xs.length) C | some (.dK kvs)=>Q (.int kvs.length) C | _=>False);rw[h];exact q
theorem lO (q:Q (.int xs.length) C):gB [.fz xs] C Q:=by
 unfold gB;exact q
theorem kL (q:Q (.int xs.length) C):gB [.tup xs] C Q:=by
 unfold gB;exact q
theorem xC (h:C a=some (.lst xs))(z:xs.length < sizeLine)(q:Q .non (uQ C a (.lst (xs++[v])))):nK (.ref a) [v] C Q:=by
 unfold nK;show(match C a with | some (.lst xs)=>xs.length < sizeLine/\Q .non (uQ C a (.lst (xs++[v]))) | _=>False);rw[h];exact⟨z,q⟩
theorem bU (h:C a=some (.lst xs)):isL (.ref a) C:=by
 show(match C a with | some (.lst _)=>True | _=>False);rw[h]
 trivial
end
theorem i_i {g:Int->Int->PV}{i j:Int}{C:CH}{Q:K1}(q:Q (g i j) C):cI g (.int i) (.int j) C Q:=by
 unfold cI;exact q
theorem fV {i j:Int}{C:CH}{Q:K1}(q:Q (.int (i+j)) C):kP (.int i) (.int j) C Q:=by
 unfold kP;exact q
theorem add_t {xs ys:List PV}{C:CH}{Q:K1}(h:xs.length+ys.length<=sizeLine)(q:Q (.tup (xs++ys)) C):kP (.tup xs) (.tup ys) C Q:=by
 unfold kP;exact⟨h,q⟩
theorem vE {b:Bool}{p q:Prop}(h1:b=true->p)(h2:b=false->q):if b=true then p else q:=by
 cases b with
 |true=>exact h1 rfl
 |false=>exact h2 rfl
theorem if_y {b:Bool}{p q:Prop}(e:b=true)(h:p):if b=true then p else q:=by rw[if_pos e]; exact h
theorem nW {b:Bool}{p q:Prop}(e:b=false)(h:q):if b=true then p else q:=by rw[if_neg (by rw[e]; exact Bool.false_ne_true)]; exact h
theorem yU {b:Bool}{p q:CH->Prop}{C:CH}(e:b=true)(h:p C):rD (fun b C1=>if b=true then p C1 else q C1) (.bl b) C:=by cases e; exact h
theorem nJ {b:Bool}{p q:CH->Prop}{C:CH}(e:b=false)(h:q C):rD (fun b C1=>if b=true then p C1 else q C1) (.bl b) C:=by cases e; exact h
theorem pX {b:Bool}{p q:CH->Prop}{C:CH}(h1:b=true->p C)(h2:b=false->q C):rD (fun b C1=>if b=true then p C1 else q C1) (.bl b) C:=by
 cases b with
 |true=>exact h1 rfl
 |false=>exact h2 rfl
theorem vO {p q:CH->Prop}{C:CH}(h:q C):rD (fun b C1=>if (!b)=true then p C1 else q C1) (.bl true) C:=by
 show if (!true)=true then p C else q C
 rw[if_neg (by decide)];exact h
theorem wZ {k:Bool->Bool}{x y:PV}{C:CH}{Q:K1}{b:Bool}(e:sEq x y=some b)(q:Q (.bl (k b)) C):cEq k x y C Q:=by
 unfold cEq;rw[e];exact q
theorem nZ (x y:Str):sEq (.str x) (.str y)=some (decide (x=y)):=rfl
theorem wX (x y:Int):sEq (.int x) (.int y)=some (decide (x=y)):=rfl
theorem tQ {t:TCT}{c:TCE}{ρ:CSt}{Q:K1}{x:PV}{r acc:List PV}{C:CH}(h:t (some x::ρ) C fun b C1=>if b=true then c (some x::ρ) C1 fun y C2=>acc.length < sizeLine/\cX t c ρ Q r (acc++[y]) C2 else cX t c ρ Q r acc C1):cX t c ρ Q (x::r) acc C:=h
theorem zK {t:TCT}{c:TCE}{ρ:CSt}{Q:K1}{acc:List PV}{C:CH}(h:∀p,C p=none->Q (.ref p) (uQ C p (.lst acc))):cX t c ρ Q [] acc C:=h
theorem gL {n:String}{T k:Ty}{x:PV}{C:CH}{Q:K1}(e1:dW n=some T)(e2:tyP C x=some k)(q:Q (.bl (qJ k T)) C):cIsi [x,.ty n] C Q:=by
 unfold cIsi;show(match dW n,tyP C x with | some T,some k=>Q (.bl (qJ k T)) C | _,_=>False);rw[e1,e2];exact q
theorem vP {a b:Addr}{xs ys:List PV}{C:CH}{Q:K1}(h1:C a=some (.lst xs))(h2:C b=some (.lst ys))(z:xs.length+ys.length<=sizeLine)(q:∀p,C p=none->Q (.ref p) (uQ C p (.lst (xs++ys)))):kP (.ref a) (.ref b) C Q:=by
 unfold kP;show(match C a,C b with | some (.lst xs),some (.lst ys)=>xs.length+ys.length<=sizeLine/\∀p,C p=none->Q (.ref p) (uQ C p (.lst (xs++ys))) | _,_=>False);rw[h1,h2];exact⟨z,q⟩
theorem tK {xs:List PV}{p:Addr}{C:CH}{Q:K1}(m:C p=some (.lst xs))(q:Q (.tup xs) C):lY [.ref p] C Q:=by
 unfold lY;show(match C p with | some (.lst xs)=>Q (.tup xs) C | _=>False);rw[m];exact q
def Gr (C C':CH):Prop:=∀b o,C b=some o->C' b=some o
theorem Gr.refl {C:CH}:Gr C C:=fun _ _ h=>h
theorem Gr.trans {C C1 C2:CH}(h:Gr C C1)(h':Gr C1 C2):Gr C C2:=fun b o e=>h' b o (h b o e)
theorem Gr.new {C:CH}{p:Addr}(hp:C p=none)(o:CO):Gr C (uQ C p o):=fun b u e=>by
 rw[yQ (fun z=>by subst z; rw[hp] at e; cases e)]; exact e
theorem xX {E:lJ}{ρ:CSt}{C:CH}(h:E.nx ρ C):cNext E ρ C:=h
theorem gQ {i:Nat}{ce:TCE}{u:TCS}{E:lJ}{ρ:CSt}{C:CH}(h:ce ρ C fun v C1=>u E (ρ.set i (some v)) C1):pA (cSet i ce) u E ρ C:=h
theorem bJ {t u:TCS}{E:lJ}{ρ:CSt}{C:CH}(h:t { E with nx:=u E } ρ C):pA t u E ρ C:=h
theorem c_i {v:PV}{ρ:CSt}{C:CH}{Q:K1}(h:Q v C):cC v ρ C Q:=h
theorem pQ {t u:TCS}{E:lJ}{ρ:CSt}{C:CH}(P:CSt->CH->Prop)(h1:∀K:CSt->CH->Prop,(∀ρ' C',P ρ' C'->K ρ' C')->t { E with nx:=K } ρ C)(h2:∀ρ' C',P ρ' C'->u E ρ' C'):pA t u E ρ C:=h1 _ h2
section
variable {X:Cx}{o e value i f:Expr}{es:List Expr}{pos pos':Pos}
def putFP (f:Str)(v:PV):List (Str×PV)->List (Str×PV)
 |[]=>[(f,v)]
 | (g,x)::r=>if g=f then (g,v)::r else (g,x)::putFP f v r
@[irreducible] def cFld (c:Addr)(f:Str):PV->CH->K1->Prop:=fun x C Q=>match x with
 |.ref p=>match C p with
  |some (.ins c' _ fs)=>c'=c/\match fs.lookup f with
   |some v=>Q v C
   |none=>False
  |_=>False
 |_=>False
@[irreducible] def cPutF (c:Addr)(f:Str):PV->PV->CH->(CH->Prop)->Prop:=fun x v C Q=>match x with
 |.ref p=>match C p with
  |some (.ins c' dx fs)=>c'=c/\fs.length < 1000/\Q (uQ C p (.ins c' dx (putFP f v fs)))
  |_=>False
 |_=>False
end
def bK:List PV->Option (List Key)
 |[]=>some []
 |t::r=>match fJ t,bK r with
  |some k,some ks=>some (k::ks)
  |_,_=>none
def cW:PV->Option (List Key)
 |.tup ts=>bK ts
 |_=>none
theorem jH {K:PySem.W.Frag}{H:Hp}{vs:List V}{ts:List PV}{ks:List Key}(r:Reps K H vs ts)(e:bK ts=some ks):vs=ks.map kV:=by
 induction ts generalizing vs ks with
 |nil=>cases r; cases e; rfl
 |cons t ts ih =>
  cases r with
  |cons h r =>
   unfold bK at e
   split at e
   .next k ks' e1 e2=>cases e; rw[lV h e1,ih r e2]; rfl
   .cases e
theorem aG {K:PySem.W.Frag}{H:Hp}{v:V}{t:PV}{ks:List Key}(r:Rep K H v t)(e:cW t=some ks):∃b,v=.ref b/\H b=some (.tup (ks.map kV)):=by
 cases r<;>try (cases e)
 next a vs ts h r=>exact⟨a,rfl,by rw[h,jH r e]⟩
section
variable {κ:Type}[DecidableEq κ]
def rJ (kvs:List (κ×PV))(k:κ):Option PV:=(kvs.find? fun kv=>decide (kv.1=k)).map (·.2)
def putG (kvs:List (κ×PV))(k:κ)(v:PV):List (κ×PV):=if (kvs.any fun kv=>decide (kv.1=k))=true then kvs.map fun kv=>if kv.1=k then (kv.1,v) else kv else kvs++[(k,v)]
def mergeG (kvs more:List (κ×PV)):List (κ×PV):=more.foldl (fun acc kv=>putG acc kv.1 kv.2) kvs
theorem FP.val {K:PySem.W.Frag}{H:Hp}{vs:List (κ×V)}{kvs:List (κ×PV)}(r:FP K H vs kvs)(k:κ):(∃v t,gJ vs k=some v/\rJ kvs k=some t/\Rep K H v t)\/(gJ vs k=none/\rJ kvs k=none):=by
 induction r with
 |nil=>exact .inr ⟨rfl,rfl⟩
 |@cons p q l1 l2 h r ih =>
  unfold gJ rJ;rw[List.find?_cons,List.find?_cons,h.1]
  by_cases e:q.1=k
  .rw [decide_eq_true e]
   exact .inl ⟨p.2,q.2,rfl,rfl,h.2⟩
  .rw [decide_eq_false e]
   exact ih
theorem FP.anyG {K:PySem.W.Frag}{H:Hp}{vs:List (κ×V)}{kvs:List (κ×PV)}(r:FP K H vs kvs)(k:κ):(vs.any fun kv=>decide (kv.1=k))=(kvs.any fun kv=>decide (kv.1=k)):=by
 induction r with
 |nil=>rfl
 |@cons p q l1 l2 h r ih=>rw[List.any_cons,List.any_cons,h.1,ih]
theorem FP.putG {K:PySem.W.Frag}{H:Hp}{vs:List (κ×V)}{kvs:List (κ×PV)}(r:FP K H vs kvs)(k:κ){v:V}{t:PV}(h:Rep K H v t):FP K H (pZ vs k v) (CL.putG kvs k t):=by
 unfold pZ CL.putG;rw[FP.anyG r k]
 have upd:FP K H (vs.map fun kv=>if kv.1=k then (kv.1,v) else kv) (kvs.map fun kv=>if kv.1=k then (kv.1,t) else kv):=by
  induction r with
  |nil=>exact .nil
  |@cons p q l1 l2 h' r ih =>
   refine .cons ?_ ih;dsimp only
   by_cases e:q.1=k
   .rw [if_pos (h'.1.trans e),if_pos e]; exact⟨h'.1,h⟩
   .rw [if_neg (fun z=>e (h'.1.symm.trans z)),if_neg e]; exact h'
 split
 .exact upd
 .exact Paired.snoc r ⟨rfl,h⟩
end
section
variable {X:Cx}{a b c e o i f value:Expr}{es:List Expr}{pos pos':Pos}
def cTNew:TCE:=fun _ C Q=>∀p,C p=none->Q (.ref p) (uQ C p (.dT []))
theorem ce_tnew:CE X (.Dict [] [] pos) cTNew:=⟨JE.weak qE fun σ H Q ⟨ρ,C,R,s,h,q,f⟩=>fun p hp=>f (.ref p) _ (.ref p) _ (q p (h.fresh hp)) (.ref p) (h.lay hp ⟨[],fQ,.nil⟩) (Fw.lay hp _ _)⟩
@[irreducible] def cTIx:R2C:=fun x y C Q=>match x with
 |.ref a=>match C a,cW y with
  |some (.dT kvs),some k=>match rJ kvs k with
   |some v=>Q v C
   |none=>False
  |_,_=>False
 |_=>False
theorem ce_tix {co ci:TCE}(hu:X.A.units+1 < cLine)(ho:CE X o co)(hi:CE X i ci)(hs:sH i):CE X (.Subscript o i pos) (cOp cTIx co ci):=⟨JE.weak (gN hu ho.h hi.h hs) fun σ H Q ⟨ρ,C,R,s,h,q,f⟩ =>
 ⟨ρ,C,_,s,h,q,fun x H1 px C1 q1 rx h1 f1=>⟨ρ,C1,_,s.imm (f1.imm h),h1,q1,fun y H2 py C2 q2 ry h2 f2=>by
  unfold cTIx at q2
  split at q2
  .next a =>
   split at q2
   .next kvs k e1 e2 =>
    split at q2
    .next t e3 =>
     have rx2:=rx.imm (f2.imm h1);cases rx2;obtain⟨vs,ev,r⟩:=h2 a _ e1;obtain⟨b,rfl,eb⟩:=aG ry e2
     rcases FP.val r k with ⟨v,t',l1,l2,rv⟩ | ⟨_,l2⟩
     .rw [e3] at l2
      cases l2;exact⟨a,v,rfl,by rw[<- l1]; exact DGet.t ev eb,f v H2 t C2 q2 rv h2 (f1.trans f2)⟩
     .rw [e3] at l2; cases l2
    .exact q2.elim
   .exact q2.elim
  .exact q2.elim⟩⟩⟩
@[irreducible] def cTGet:PV->PV->PV->CH->K1->Prop:=fun x y z C Q=>match x with
 |.ref a=>match C a,cW y with
  |some (.dT kvs),some k=>Q ((rJ kvs k).getD z) C
  |_,_=>False
 |_=>False
@[irreducible] def aN:PV->PV->PV->CH->(CH->Prop)->Prop:=fun x y v C Q=>match x with
 |.ref a=>match C a,cW y with
  |some (.dT kvs),some k=>kvs.length < sizeLine/\Q (uQ C a (.dT (putG kvs k v)))
  |_,_=>False
 |_=>False
def cTPut (co ck cv:TCE):TCS:=fun E ρ C=>cv ρ C fun v C1=>co ρ C1 fun x C2=>ck ρ C2 fun y C3=>aN x y v C3 fun C4=>E.nx ρ C4
theorem wF {co ck cv:TCE}(hu:X.A.units+1 < cLine)(ho:CE X o co)(hi:CE X i ck)(hv:CE X value cv)(hs:swapsWith value (some (.Subscript o i pos')) pos.line X.env=pure false:=by rfl):
  CS X (.Assign [.Subscript o i pos'] value pos) (cTPut co ck cv):=⟨JS.weak (yN hu ho.h hi.h hv.h hs) fun D σ H ⟨ρ,C,E,s,h,q,f⟩ =>
 ⟨ρ,C,_,s,h,q,fun v H1 pv C1 q1 rv h1 f1=>⟨ρ,C1,_,s.imm (f1.imm h),h1,q1,fun x H2 px C2 q2 rx h2 f2=>⟨ρ,C2,_,(s.imm (f1.imm h)).imm (f2.imm h1),h2,q2,fun y H3 py C3 q3 ry h3 f3=>by
  have s3:=((s.imm (f1.imm h)).imm (f2.imm h1)).imm (f3.imm h2);have rv3:=rv.imm ((f2.trans f3).imm h1);unfold aN at q3
  split at q3
  .next a =>
   split at q3
   .next kvs k e1 e2 =>
    have rx3:=rx.imm (f3.imm h2);cases rx3;obtain⟨vs,ev,r⟩:=h3 a _ e1;obtain⟨b,rfl,eb⟩:=aG ry e2;have hl:vs.length=kvs.length:=Paired.length r;have m:Imm H3 (upd H3 a (.dT (pZ vs k v))):=Imm.mut ev rfl _;refine⟨a,_,rfl,DPut.t ev eb (by rw[hl]; exact q3.1),f.nx σ _ ρ _ q3.2 (s3.imm m) (h3.put ev rfl ⟨_,fQ,Paired.mapP (FP.putG r k rv3) fun _ _ z=>⟨z.1,z.2.imm m⟩⟩) (f1.trans (f2.trans (f3.trans (Fw.put e1 _ _))))⟩
   .exact q3.elim
  .exact q3.elim⟩⟩⟩⟩
end
section
variable {X:Cx}{a b c e o i f value:Expr}{es:List Expr}{pos pos':Pos}
@[irreducible] def cMax:GC:=fun ts C Q=>match ts with
 |[.int i,.int j]=>Q (.int (if j > i then j else i)) C
 |_=>False
@[irreducible] def cMin:GC:=fun ts C Q=>match ts with
 |[.int i,.int j]=>Q (.int (if j < i then j else i)) C
 |_=>False
@[irreducible] def cDictK:GC:=fun ts C Q=>match ts with
 |[.ref a]=>match C a with
  |some (.dK kvs)=>∀p,C p=none->Q (.ref p) (uQ C p (.dK kvs))
  |_=>False
 |_=>False
@[irreducible] def cCount:PV->List PV->CH->K1->Prop:=fun x ts C Q=>match x,ts with
 |.ref a,[y]=>match C a,fJ y with
  |some (.lst xs),some k=>match bK xs with
   |some ks=>Q (.int (cntK k ks:Nat)) C
   |none=>False
  |_,_=>False
 |_,_=>False
@[irreducible] def cIndexT:PV->List PV->CH->K1->Prop:=fun x ts C Q=>match x,ts with
 |.ref a,[.bl true]=>match C a with
  |some (.lst xs)=>∃(bs:List Bool) (j:Nat),xs=bs.map PV.bl/\bs[j]?=some true/\(∀m,m < j->bs[m]?=some false)/\Q (.int (j:Nat)) C
  |_=>False
 |_,_=>False
@[irreducible] def cEqT (k:Bool->Bool):R2C:=fun x y C Q=>match cW x,cW y with
 |some ks,some js=>Q (.bl (k (decide (ks=js)))) C
 |_,_=>False
def flatP:PV->Option V
 |.non=>some .non
 |.bl b=>some (.bl b)
 |.int i=>some (.int i)
 |.str x=>some (.str x)
 |_=>none
def dE:List PV->Option (List V)
 |[]=>some []
 |t::r=>match flatP t,dE r with
  |some v,some vs=>some (v::vs)
  |_,_=>none
def seqP (C:CH):PV->Option (List PV)
 |.tup xs=>some xs
 |.kt xs=>some xs
 |.ref a=>match C a with
  |some (.lst xs)=>some xs
  |_=>none
 |_=>none
@[irreducible] def cInS (neg:Bool):R2C:=fun x y C Q=>match seqP C y,flatP x with
 |some ts,some v=>match dE ts with
  |some vs=>Q (.bl (if neg then !inV v vs else inV v vs)) C
  |none=>False
 |_,_=>False
@[irreducible] def cRepL:R2C:=fun x y C Q=>match x,y with
 |.ref a,.int k=>match C a with
  |some (.lst xs)=>-(2 ^ 63)<=k/\k < 2 ^ 63/\xs.length * k.toNat<=sizeLine/\∀p,C p=none->Q (.ref p) (uQ C p (.lst (List.replicate k.toNat xs).flatten))
  |_=>False
 |.tup [z],.int k=>0<=k/\k < 64/\Q (.tup (List.replicate k.toNat z)) C
 |_,_=>False
end
def xT:List Key->Option (List Str)
 |[]=>some []
 |.inr x::r=>(xT r).map (x :: ·)
 |_=>none
def tiK:List (List Key×PV)->Option (List (List Str×Int))
 |[]=>some []
 | (k,.int i)::r=>match xT k,tiK r with
  |some zs,some cs=>some ((zs,i)::cs)
  |_,_=>none
 |_=>none
def lZ (c:List Str×Int):PV:=.tup [.tup (c.1.map PV.str),.int c.2]
def fP (cs:List (List Str×Int)):Nat->Nat->Bool:=fun i j=>ltP (cs.getD i ([],0)) (cs.getD j ([],0))
def qV (cs:List (List Str×Int)):List (List Str×Int):=(jW (fP cs) (kas_sort cs.length)).toList.map fun i=>cs.getD i ([],0)
section
variable {K:PySem.W.Frag}{H:Hp}{X:Cx}
theorem pD {ys:List V}{ts:List PV}(d:PV)(lt:Nat->Nat->Bool)(r:Reps K H ys ts):Reps K H (uY lt ys) ((jW lt (kas_sort ts.length)).toList.map fun i=>ts.getD i d):=by
 have hl:ys.length=ts.length:=r.len;unfold uY;rw[hl]
 have mem:∀i∈(jW lt (kas_sort ts.length)).toList,i < ys.length:=by
  intro i hi
  by_cases h:0 < ts.length
  .rw [hl]; exact List.mem_range.mp ((wV lt ts.length h).mem_iff.mp hi)
  .have e:ts.length=0:=by omega
   rw[e,run0] at hi;cases hi
 generalize (jW lt (kas_sort ts.length)).toList=l at mem ⊢
 induction l with
 |nil=>exact .nil
 |cons i l ih=>exact .cons (r.getD (d:=d) i (mem i List.mem_cons_self)) (ih fun j hj=>mem j (List.mem_cons_of_mem _ hj))
theorem ti_ord (cs:List (List Str×Int))(l:List Nat):(l.map fun i=>(cs.map lZ).getD i (lZ ([],0)))=(l.map fun i=>cs.getD i ([],0)).map lZ:=by
 rw[List.map_map]
 congr 1
 funext i
 show(cs.map lZ).getD i (lZ ([],0))=lZ (cs.getD i ([],0));rw[List.getD_eq_getElem?_getD,List.getElem?_map,List.getD_eq_getElem?_getD];cases cs[i]?<;>rfl
@[irreducible] def cItemsT (co:TCE):TCE:=fun ρ C Q=>co ρ C fun x C1=>match x with
 |.ref a=>match C1 a with
  |some (.dT _)=>Q (.vw a) C1
  |_=>False
 |_=>False
@[irreducible] def cSortedT:GC:=fun ts C Q=>match ts with
 |[.vw a]=>match C a with
  |some (.dT kvs)=>match tiK kvs with
   |some cs=>cs.length < 64/\∀p,C p=none->Q (.ref p) (uQ C p (.lst ((qV cs).map lZ)))
   |none=>False
  |_=>False
 |_=>False
end
def dH:List (TCE×TCE)->CSt->CH->(List (PV×PV)->CH->Prop)->Prop
 |[],_,C,Q=>Q [] C
 | (ck,cv)::r,ρ,C,Q=>ck ρ C fun x C1=>cv ρ C1 fun y C2=>dH r ρ C2 fun ps C3=>Q ((x,y)::ps) C3
abbrev RPs (K:PySem.W.Frag)(H:Hp):List (V×V)->List (PV×PV)->Prop:=Paired fun p q=>Rep K H p.1 q.1/\Rep K H p.2 q.2
def liftP (K:PySem.W.Frag)(cs:List (TCE×TCE)):List (TE×TE):=cs.map fun p=>(gZ K (Rep K) p.1,gZ K (Rep K) p.2)
structure CPs (X:Cx)(pos:Pos)(keys:List (Option Expr))(values:List Expr)(cs:List (TCE×TCE)):Prop where
 h:PPs X pos keys values (liftP X.K cs)
theorem cps_nil {X:Cx}{pos:Pos}:CPs X pos [] [] []:=⟨pps_nil⟩
theorem qK {X:Cx}{pos:Pos}{k v:Expr}{ks:List (Option Expr)}{vs:List Expr}{ck cv:TCE}{cs:List (TCE×TCE)}(hk:CE X k ck)(hv:CE X v cv)(hr:CPs X pos ks vs cs):CPs X pos (some k::ks) (v::vs) ((ck,cv)::cs):=⟨lT hk.h.h hv.h.h hr.h⟩
theorem iP {K:PySem.W.Frag}{σ:St}{ρ:CSt}:∀{cs:List (TCE×TCE)}{H:Hp}{C:CH}{R:List (PV×PV)->CH->Prop}{Q:List (V×V)->Hp->Prop},SRel K H σ ρ->HRel K H C->dH cs ρ C R ->
  (∀vs H' ts C',R ts C'->RPs K H' vs ts->HRel K H' C'->Fw H C H' C'->Q vs H')->dM (liftP K cs) σ H Q:=by
 intro cs
 induction cs with
 |nil=>intro H C R Q s h q f; exact f [] H [] C q .nil h Fw.refl
 |cons p cs ih =>
  obtain⟨ck,cv⟩:=p;intro H C R Q s h q f;refine⟨ρ,C,_,s,h,q,fun x H1 px C1 q1 rx h1 f1=>⟨ρ,C1,_,s.imm (f1.imm h),h1,q1,fun y H2 py C2 q2 ry h2 f2=>?_⟩⟩;refine ih ((s.imm (f1.imm h)).imm (f2.imm h1)) h2 q2 fun vs H3 ts C3 q3 r3 h3 f3=>?_;exact f _ H3 _ C3 q3 (.cons ⟨(rx.imm (f2.imm h1)).imm (f3.imm h2),ry.imm (f3.imm h2)⟩ r3) h3 (f1.trans (f2.trans f3))
def prK:List (PV×PV)->Option (List (Key×PV))
 |[]=>some []
 | (x,y)::r=>match fJ x,prK r with
  |some k,some ps=>some ((k,y)::ps)
  |_,_=>none
theorem prK_rep {K:PySem.W.Frag}{H:Hp}{vs:List (V×V)}{ts:List (PV×PV)}{ps:List (Key×PV)}(r:RPs K H vs ts)(e:prK ts=some ps):∃kvs:List (Key×V),vs=kvs.map (fun kv=>(kV kv.1,kv.2))/\KP K H kvs ps:=by
 induction r generalizing ps with
 |nil=>cases e; exact⟨[],rfl,.nil⟩
 |@cons p q l1 l2 h r ih =>
  obtain⟨x,y⟩:=q;unfold prK at e
  split at e
  .next k ps' e1 e2 =>
   cases e;obtain⟨kvs,rfl,r2⟩:=ih e2;obtain⟨v1,v2⟩:=p;have ek:v1=kV k:=lV h.1 e1;subst ek;exact⟨(k,v2)::kvs,rfl,.cons ⟨rfl,h.2⟩ r2⟩
  .cases e
def prT:List (PV×PV)->Option (List (List Key×PV))
 |[]=>some []
 | (x,y)::r=>match cW x,prT r with
  |some k,some ps=>some ((k,y)::ps)
  |_,_=>none
section
variable {X:Cx}{pos:Pos}{keys:List (Option Expr)}{values:List Expr}{cs:List (TCE×TCE)}
@[irreducible] def lG (p:Addr):List (PV×PV)->CH->K1->Prop:=fun ts C Q=>C p=some (.dK [])/\match prK ts with
 |some ps=>ps.length<=15/\Q (.ref p) (uQ C p (.dK (zW [] ps)))
 |none=>False
def cDisp (cs:List (TCE×TCE)):TCE:=fun ρ C Q=>∀p,C p=none->dH cs ρ (uQ C p (.dK [])) fun ts C2=>lG p ts C2 Q
theorem ce_disp (h:CPs X pos keys values cs)(hall:keys.all (·.isSome)=true:=by rfl)(hl:keys.length=values.length:=by rfl)(h0:keys≠[]:=by exact fun z=>nomatch z)(h15:keys.length<=15:=by decide):CE X (.Dict keys values pos) (cDisp cs) :=
 ⟨JE.weak ⟨pe_disp h.h hall hl h0 h15⟩ fun σ H Q ⟨ρ,C,R,s,hh,q,f⟩=>fun p hp=>by
  have k0:Imm H (upd H p (.dK [])):=Imm.new hp _;refine iP (C:=uQ C p (.dK [])) (s.imm k0) (hh.lay hp ⟨[],fQ,.nil⟩) (q p (hh.fresh hp)) fun vs H2 ts C2 q2 r2 h2 f2=>?_;unfold lG at q2;obtain⟨e1,q2⟩:=q2
  split at q2
  .next ps e2 =>
   obtain⟨kvs,rfl,rk⟩:=prK_rep r2 e2;obtain⟨us,eu,ru⟩:=h2 p _ e1;have z:us=[]:=by cases ru; rfl
   subst z;have m:Imm H2 (upd H2 p (.dK (xV [] kvs))):=Imm.mut eu rfl _;refine⟨eu,kvs,rfl,by rw[Paired.length rk]; exact q2.1,?_⟩;exact f _ _ _ _ q2.2 (.ref p) (h2.put eu rfl ⟨_,fQ,Paired.mapP (KP.merge .nil rk) fun _ _ z=>⟨z.1,z.2.imm m⟩⟩) ((Fw.lay hp _ _).trans (f2.trans (Fw.put e1 _ _)))
  .exact q2.elim⟩
@[irreducible] def cPutAllT (p:Addr):List (PV×PV)->CH->K1->Prop:=fun ts C Q=>C p=some (.dT [])/\match prT ts with
 |some ps=>ps.length<=15/\Q (.ref p) (uQ C p (.dT (mergeG [] ps)))
 |none=>False
end
theorem fY {A:Around}{k:Nat}(hr:Room k A):A.units+2 < cLine:=by have:=hr.un; omega
section
variable {C:CH}{p:Addr}{Q:K1}{x y v z:PV}
theorem tix_s {kvs:List (List Key×PV)}{k:List Key}(m:C p=some (.dT kvs))(hk:cW y=some k)(hv:rJ kvs k=some v)(q:Q v C):cTIx (.ref p) y C Q:=by
 unfold cTIx;dsimp only;rw[m,hk];dsimp only;rw[hv];exact q
theorem mP {kvs:List (List Key×PV)}{k:List Key}{Q:CH->Prop}(m:C p=some (.dT kvs))(hk:cW y=some k)(h:kvs.length<=1000)(q:Q (uQ C p (.dT (putG kvs k v)))):aN (.ref p) y v C Q:=by
 unfold aN;dsimp only;rw[m,hk];exact⟨Nat.lt_of_le_of_lt h (by decide),q⟩
theorem bZ {kvs:List (Key×PV)}{k:Key}(m:C p=some (.dK kvs))(hk:fJ y=some k)(hv:qW kvs k=some v)(q:Q v C):cDIx (.ref p) y C Q:=by
 unfold cDIx;dsimp only;rw[m,hk];show(match qW kvs k with | some v=>Q v C | none=>False);rw[hv];exact q
theorem eK {kvs:List (Key×PV)}{k:Key}{Q:CH->Prop}(m:C p=some (.dK kvs))(hk:fJ y=some k)(h:kvs.length<=1000)(q:Q (uQ C p (.dK (nM kvs k v)))):jP (.ref p) y v C Q:=by
 unfold jP;dsimp only;rw[m,hk];exact⟨Nat.lt_of_le_of_lt h (by decide),q⟩
theorem forT_g {ce:TCE}{g:TCG}{u:TCS}{E:lJ}{ρ:CSt}(h:ce ρ C fun t C1=>match t with | .tup xs=>kK g u E xs ρ C1 | .kt xs=>kK g u E xs ρ C1 | _=>False):wM ce g u E ρ C:=by
 unfold wM;exact h
end
theorem fE {i:Nat}{g:TCG}{u:TCS}{E:lJ}{ρ:CSt}{C:CH}{xs:List PV}(hv:ρ[i]?=some (some (.tup xs)))(h:kK g u E xs ρ C):wM (qY i) g u E ρ C:=by
 unfold wM qY;rw[hv];exact h
theorem yW {xs:List PV}{k:Nat}(h:k < xs.length):atI xs (k:Int)=some xs[k]:=by
 unfold atI ixN;rw[if_pos (by omega),if_pos (by omega)];show xs[(k:Int).toNat]?=_;rw[Int.toNat_natCast,List.getElem?_eq_getElem h]
theorem sK {x:PV}{r:List PV}:atI (x::r) 0=some x:=yW (xs:=x::r) (k:=0) (Nat.zero_lt_succ _)
theorem xD {k:Bool->Bool}{i:Nat}{x:PV}{ρ:CSt}{C:CH}{Q:Bool->CH->Prop}(hv:ρ[i]?=some (some x))(q:Q (k (vH x)) C):zP (cOp (cIs k) (qY i) (cC .non)) ρ C Q:=by
 show qY i ρ C fun x C1=>rD Q (.bl (k (vH x))) C1;unfold qY;rw[hv];exact q
theorem wJ {g:TCG}{u:TCS}{E:lJ}(I:List PV->CSt->CH->Prop)(step:∀x r ρ C,I (x::r) ρ C->∀L:CSt->CH->Prop,(∀ρ' C',I r ρ' C'->L ρ' C')->g x ρ C fun ρ1 C1=>u { nx:=L,ct:=L,bk:=E.nx,rt:=E.rt } ρ1 C1)(fin:∀ρ C,I [] ρ C->E.nx ρ C):
  ∀xs ρ C,I xs ρ C->kK g u E xs ρ C:=by
 intro xs
 induction xs with
 |nil=>intro ρ C h; exact fin ρ C h
 |cons x r ih=>intro ρ C h; exact step x r ρ C h _ ih
theorem zM {c:TCE}{ρ:CSt}{Q:K1}(I:List PV->List PV->CH->Prop)(step:∀x r acc C,I (x::r) acc C->∀L:K1,(∀y C2,acc.length < sizeLine/\I r (acc++[y]) C2->L y C2)->c (some x::ρ) C L)(fin:∀acc C,I [] acc C->∀p,C p=none->Q (.ref p) (uQ C p (.lst acc))):
  ∀xs acc C,I xs acc C->cX cY c ρ Q xs acc C:=by
 intro xs
 induction xs with
 |nil=>intro acc C h; exact fin acc C h
 |cons x r ih =>
  intro acc C h;exact step x r acc C h _ fun y C2 z=>⟨z.1,ih _ _ z.2⟩
theorem jM {S:CH->Prop}{c:TCE}{ρ:CSt}{Q:K1}(I:List PV->List PV->CH->Prop)(hS:∀r acc C,I r acc C->S C)(step:∀x r acc C,I (x::r) acc C->∀L:K1,(∀y C2,acc.length < sizeLine/\I r (acc++[y]) C2->L y C2)->c (some x::ρ) C L)(fin:∀acc C,I [] acc C->∀p,C p=none->Q (.ref p) (uQ C p (.lst acc))):
  ∀xs acc C,I xs acc C->mV S cY c ρ Q xs acc C:=by
 intro xs
 induction xs with
 |nil=>intro acc C h; exact⟨hS _ _ _ h,fin acc C h⟩
 |cons x r ih =>
  intro acc C h;exact⟨hS _ _ _ h,step x r acc C h _ fun y C2 z=>⟨z.1,ih _ _ z.2⟩⟩
theorem gr_put {C C1:CH}{p:Addr}(g:Gr C C1)(hp:C p=none)(o:CO):Gr C (uQ C1 p o):=fun b u e=>by
 rw[yQ (fun z=>by subst z; rw[hp] at e; cases e)];exact g b u e
theorem gr_none {C C':CH}{p:Addr}(g:Gr C C')(h:C' p=none):C p=none:=by
 cases e:C p with
 |none=>rfl
 |some o=>rw[g p o e] at h; cases h
def ExS (S:List Addr)(C C':CH):Prop:=∀b o,b∉S->C b=some o->C' b=some o
theorem ExS.refl {S:List Addr}{C:CH}:ExS S C C:=fun _ _ _ h=>h
theorem ExS.trans {S:List Addr}{C C1 C2:CH}(h:ExS S C C1)(h':ExS S C1 C2):ExS S C C2:=fun b o n e=>h' b o n (h b o n e)
theorem ExS.at {S:List Addr}{C C1:CH}{p:Addr}(h:ExS S C C1)(hp:p∈S)(o:CO):ExS S C (uQ C1 p o):=fun b u n e=>by
 rw[yQ (fun z=>n (by rw[z]; exact hp))];exact h b u n e
theorem ExS.put {S:List Addr}{C C1:CH}{p:Addr}(h:ExS S C C1)(hp:C p=none)(o:CO):ExS S C (uQ C1 p o):=fun b u n e=>by
 rw[yQ (fun z=>by subst z; rw[hp] at e; cases e)];exact h b u n e
theorem ExS.none {S:List Addr}{C C':CH}{p:Addr}(g:ExS S C C')(n:p∉S)(h:C' p=none):C p=none:=by
 cases e:C p with
 |none=>rfl
 |some o=>rw[g p o n e] at h; cases h
end CL
namespace L2
open PySem PySem.Spec PyProof.Rows
def qT (K:PySem.W.Frag)(n:Nat)(wi:TI)(tc:TT)(te:TE):TE:=fun σ H Q=>wi σ H fun J H1=>∀D,H1 D=none->∃W:Nat->Nat->List V->Hp->Prop,(∃m,W 0 m [] (upd H1 D (.lst [])))/\∀i m ys H,W i m ys H ->
 (J.stop i H/\Q (.ref D) H)\/(J.go i H/\∀x H',J.yld i H x H'->∃a vs,x=.ref a/\SqT K H' a vs/\vs.length=n/\tc (vs.map some++σ) H' fun b H2 =>
  if b=true then te (vs.map some++σ) H2 fun y H3=>H3 D=some (.lst ys)/\ys.length < sizeLine/\∃m',m' < m/\W (i+1) m' (ys++[y]) (upd H3 D (.lst (ys++[y])))
  else ∃m',m' < m/\W (i+1) m' ys H2)
section
variable {X:Cx}
theorem qO {elt iter tg:Expr}{xs:List Str}{pos:Pos}{ifs:List Expr}{scope:Scope}{cl:List (Str×Addr)}{wi:TI}{tc:TT}{te:TE}{g:TG}
  (hc:X.calm=true) (K:zJ X xs scope cl) (hg:∀fp C s₂ H₂,PG (cxN X xs scope cl fp C s₂ H₂) tg g) (hG:∀ws vs a σ H Q,ws.length=xs.length->SqT X.K H a vs->vs.length=xs.length->Q (vs.map some++σ) H->g (.ref a) (ws++σ) H Q) (hi:PI X tg iter wi)
  (ht:∀fp C s₂ H₂,fS (cxN X xs scope cl fp C s₂ H₂) ifs tc) (he:∀fp C s₂ H₂,PE (cxN X xs scope cl fp C s₂ H₂) elt te)
  (hs:∀v,foldedSetIterable iter X.env v=pure v:=by intro _; rfl):PE X (.ListComp elt [⟨tg,iter,ifs,0⟩] scope pos) (qT X.K xs.length wi tc te):=by
 intro pins s σ H Q I h;rw[eval_ListComp];refine wpAny_comprehension_free (use:=none) rfl hs K.clos K.kind K.names (thn (hi pins s σ H _ I h) fun xv s₁ h₁=>thn h₁ fun itv s₂ h₂=>?_);obtain⟨it,fp,tn,J,H₂,e,I₂,T,st₂,f₂,R⟩:=h₂;subst e;refine jG (Tk:=fun x H vs=>∃a,x=.ref a/\SqT X.K H a vs) hc K hg ht he (fun ws vs x H Q l ⟨a,e,sq⟩ l' q=>by rw[e]; exact hG ws vs a σ H Q l sq l' q) I₂ T st₂ f₂ (fun D hD=>let ⟨W,w0,tu⟩:=R D hD; ⟨W,w0,fun i m ys H w=>(tu i m ys H w).imp id fun⟨g,st⟩=>⟨g,fun x H' y=>let ⟨a,vs,e,sq,l,q⟩:=st x H' y; ⟨vs,⟨a,e,sq⟩,l,q⟩⟩⟩) ?_
 intro D C H s4 m hn hCL hC0 hCc hCsz I4 q;refine⟨m,hn,fun h' hsb=>⟨.ref D,H,?_,rfl,q⟩⟩;refine I4.turned (it:=C) (t':=s4.toks) (fun b o hb e=>(hsb.2 b hb).trans e) hC0 hCL (.inr (Nat.le_trans I₂.sz hCsz)) hCc fun p hp z=>?_;exact absurd (Nat.lt_of_lt_of_le (Heap.lt_size (I₂.pin p hp).1) (by rw[z]; exact hCsz)) (Nat.lt_irrefl _)
end
end L2
namespace CL
open PySem PySem.Spec L2 PySem.W
open PyProof.Rows hiding St
def rK (n:Nat)(t:TCT)(c:TCE)(ρ:CSt)(Q:K1):List PV->List PV->CH->Prop
 |[],acc,C=>∀p,C p=none->Q (.ref p) (uQ C p (.lst acc))
 |x::r,acc,C=>∃ts,x=.tup ts/\ts.length=n/\t (ts.map some++ρ) C fun b C1=>if b=true then c (ts.map some++ρ) C1 fun y C2=>acc.length < sizeLine/\rK n t c ρ Q r (acc++[y]) C2 else rK n t c ρ Q r acc C1
theorem cM {K:PySem.W.Frag}{H:Hp}:∀{vs:List V}{ts:List PV},Reps K H vs ts->SRel K H (vs.map some) (ts.map some)
 |_,_,.nil=>.nil
 |_,_,.cons h r=>.cons h (cM r)
theorem SRel.app {K:PySem.W.Frag}{H:Hp}{σ τ:St}{ρ π:CSt}(h:SRel K H σ ρ)(h':SRel K H τ π):SRel K H (σ++τ) (ρ++π):=by
 induction h with
 |nil=>exact h'
 |cons a _ ih=>exact .cons a ih
theorem jA {n:Nat}{K:PySem.W.Frag}{H H0:Hp}{C C0:CH}{σ:St}{ρ:CSt}{J:It}{ps:List PV}{t:TCT}{c:TCE}{R:K1}{Q:VK}(j:oH K H J ps)(s:SRel K H σ ρ)(h:HRel K H C)(q:rK n t c ρ R ps [] C)
  (h0:HRel K H0 C0) (f0:Fw H0 C0 H C) (f:∀v H' p C',R p C'->Rep K H' v p->HRel K H' C'->Fw H0 C0 H' C'->Q v H') {D:Addr} (hD:H D=none) :
  ∃W:Nat->Nat->List V->Hp->Prop,(∃m,W 0 m [] (upd H D (.lst [])))/\∀i m ys H,W i m ys H ->
   (J.stop i H/\Q (.ref D) H)\/(J.go i H/\∀x H',J.yld i H x H'->∃a vs,x=.ref a/\SqT K H' a vs/\vs.length=n/\gZ K kB t (vs.map some++σ) H' fun b H2 =>
    if b=true then gZ K (Rep K) c (vs.map some++σ) H2 fun y H3=>H3 D=some (.lst ys)/\ys.length < sizeLine/\∃m',m' < m/\W (i+1) m' (ys++[y]) (upd H3 D (.lst (ys++[y])))
    else ∃m',m' < m/\W (i+1) m' ys H2):=by
 have fD:∀{H':Hp} {C':CH},Fw H C H' C'->True:=fun _=>trivial
 refine⟨fun i m ys H'=>m=ps.length - i/\i<=ps.length/\∃acc C',H' D=some (.lst ys)/\C' D=none/\Reps K H' ys acc/\HRel K H' C'/\Fw H C H' C'/\rK n t c ρ R (ps.drop i) acc C',
  ⟨ps.length,rfl,Nat.zero_le _,[],C,fQ,h.fresh hD,.nil,h.new hD _,Fw.new hD _,q⟩,?_⟩
 rintro i m ys H1 ⟨rfl,hi,acc,C1,e1,n1,r1,h1,f1,q1⟩;have k1:Imm H H1:=f1.imm h
 by_cases hlt:i < ps.length
 .refine .inr ⟨j.go i H1 hlt k1,fun x H2 y=>?_⟩
  obtain⟨rfl,y⟩:=j.yl i H1 x H2 k1 y;have rx:=y _ (List.getElem?_eq_getElem hlt);rw[List.drop_eq_getElem_cons hlt] at q1;obtain⟨ts,ets,hn,q1⟩:=q1;rw[ets] at rx
  obtain⟨a5,vs5,z5,sq5,rs5⟩:∃a vs,x=.ref a/\SqT K H2 a vs/\Reps K H2 vs ts:=by
   cases rx with
   |tup e r=>exact⟨_,_,rfl,SqT.of e,r⟩
  refine⟨a5,vs5,z5,sq5,rs5.len.trans hn,?_⟩;refine⟨ts.map some++ρ,C1,_,(cM rs5).app (s.imm k1),h1,q1,fun b H3 b' C3 q3 e h3 f3=>?_⟩;cases e;obtain⟨n3,e3⟩:=f3 D (by rw[n1]; rfl) (by rw[e1]; exact fun z=>nomatch z);rw[e1] at e3;rw[n1] at n3;have k3:=f3.imm h1
  cases b with
  |true =>
   rw[if_pos rfl] at q3 ⊢;refine⟨ts.map some++ρ,C3,_,(cM (rs5.imm k3)).app ((s.imm k1).imm k3),h3,q3,fun v H4 p C4 q4 r4 h4 f4=>?_⟩;obtain⟨n4,e4⟩:=f4 D (by rw[n3]; rfl) (by rw[e3]; exact fun z=>nomatch z);rw[e3] at e4;rw[n3] at n4;have k4:=f4.imm h3;have m4:Imm H4 (upd H4 D (.lst (ys++[v]))):=Imm.mut e4 rfl _;refine⟨e4,by rw[r1.len]; exact q4.1,ps.length - (i+1),by omega,rfl,hlt,acc++[p],C4,fQ,n4,?_,?_,?_,q4.2⟩
   .exact (((r1.imm k3).imm k4).append (.cons r4 .nil)).imm m4
   .intro a o ca
    have ne:a≠D:=fun z=>by subst z; rw[n4] at ca; cases ca
    exact(h4 a o ca).imm m4 (nQ ne)
   .intro a ca na
    have ne:a≠D:=fun z=>na (z▸hD);obtain⟨x1,x2⟩:=(f1.trans (f3.trans f4)) a ca na;exact⟨x1,(nQ ne).trans x2⟩
  |false =>
   rw[if_neg Bool.false_ne_true] at q3 ⊢;exact⟨ps.length - (i+1),by omega,rfl,hlt,acc,C3,e3,n3,r1.imm k3,h3,f1.trans f3,q3⟩
 .have e:i=ps.length:=by omega
  subst e;rw[List.drop_length] at q1;refine .inl ⟨j.st H1 k1,f (.ref D) H1 (.ref D) _ (q1 D n1) (.ref D) ?_ ?_⟩
  .intro a o ca
   by_cases z:a=D
   .subst z; rw[jQ] at ca; cases ca; exact⟨ys,e1,r1⟩
   .rw [yQ z] at ca; exact h1 a o ca
  .intro a ca na
   obtain⟨x1,x2⟩:=f0 a ca na;have na':H a≠none:=by rw[x2]; exact na
   have ne:a≠D:=fun z=>na' (z▸hD);obtain⟨y1,y2⟩:=f1 a (by rw[x1]; exact ca) na';exact⟨(yQ ne).trans (y1.trans x1),y2.trans x2⟩
section
variable {X:Cx}{pos:Pos}
def cH (n:Nat)(ci:CSt->CH->(List PV->CH->Prop)->Prop)(t:TCT)(c:TCE):TCE:=fun ρ C Q=>ci ρ C fun ps C1=>rK n t c ρ Q ps [] C1
theorem qH {n:Nat}{wi:TI}{tg it:Expr}{ci:CSt->CH->(List PV->CH->Prop)->Prop}{t:TCT}{c:TCE}(hi:CI X tg it wi ci){σ:St}{H:Hp}{Q:VK}(h:gZ X.K (Rep X.K) (cH n ci t c) σ H Q):qT X.K n wi (gZ X.K kB t) (gZ X.K (Rep X.K) c) σ H Q:=by
 obtain⟨ρ,C,R,s,h,q,f⟩:=h;exact hi.w σ H ρ C _ _ s h q fun J H' ps C' q' j h' f' D hD=>jA j (s.imm (f'.imm h)) h' q' h f' f hD
def GOk (K:PySem.W.Frag)(n:Nat)(g:TG):Prop:=∀(ws:St) (vs:List V) (a:Addr) (σ:St) (H:Hp) (Q:St->Hp->Prop),ws.length=n->SqT K H a vs->vs.length=n->Q (vs.map some++σ) H->g (.ref a) (ws++σ) H Q
theorem yA {elt iter tg:Expr}{xs:List Str}{ifs:List Expr}{scope:Scope}{wi:TI}{ci:CSt->CH->(List PV->CH->Prop)->Prop}{t:TCT}{c:TCE}{g:TG}
  (hc:X.calm=true) (K:∃cl,zJ X xs scope cl) (hg:∀cl fp C s₂ H₂,zJ X xs scope cl->PG (cxN X xs scope cl fp C s₂ H₂) tg g) (hG:GOk X.K xs.length g) (hi:CI X tg iter wi ci)
  (ht:∀cl fp C s₂ H₂,CF (cxN X xs scope cl fp C s₂ H₂) ifs t) (he:∀cl fp C s₂ H₂,CE (cxN X xs scope cl fp C s₂ H₂) elt c)
  (hs:∀v,foldedSetIterable iter X.env v=pure v:=by intro _; rfl):CE X (.ListComp elt [⟨tg,iter,ifs,0⟩] scope pos) (cH xs.length ci t c):=by
 obtain⟨cl,K⟩:=K;exact⟨JE.weak ⟨qO (pos:=pos) hc K (fun fp C s₂ H₂=>hg cl fp C s₂ H₂ K) hG hi.j.h (fun fp C s₂ H₂=>(ht cl fp C s₂ H₂).h.h) (fun fp C s₂ H₂=>(he cl fp C s₂ H₂).h.h) hs⟩ fun _ _ _ h=>qH hi h⟩
abbrev g2 (K:PySem.W.Frag):TG:=gTup K 2 (fU (iV 0) (fU (iV 1) gNil))
abbrev g3 (K:PySem.W.Frag):TG:=gTup K 3 (fU (iV 0) (fU (iV 1) (fU (iV 2) gNil)))
theorem gok2 {K:PySem.W.Frag}:GOk K 2 (g2 K):=by
 intro ws vs a σ H Q h1 h2 h3 q
 obtain⟨w0,w1,rfl⟩:∃w0 w1,ws=[w0,w1]:=by
  match ws,h1 with
  |[w0,w1],_=>exact⟨w0,w1,rfl⟩
 match vs,h3 with
 |[v0,v1],_=>exact⟨a,[v0,v1],rfl,h2,rfl,v0,[v1],rfl,v1,[],rfl,rfl,q⟩
theorem pg2 {x y:Str}{scope:Scope}{cl:List (Str×Addr)}{fp:List Addr}{C:Addr}{s₂:Shared}{H₂:Hp}{p1 p2 p:Pos}{k:Nat}(hc:X.calm=true)(hN:(x::y::X.N).Nodup)(K:zJ X [x,y] scope cl):
  PG (cxN X [x,y] scope cl fp C s₂ H₂) (.Tuple [.Name x p1,.Name y p2] k p) (g2 X.K) :=
 have l1:=lookup_relabel_local (env:=X.env) (K.hx x (by simp));have l2:=lookup_relabel_local (env:=X.env) (K.hx y (by simp))
 oT (X:=cxN X [x,y] scope cl fp C s₂ H₂) hc (jU (yG (i:=0) hN rfl (.inl l1) (.inr l1)) (jU (yG (i:=1) hN rfl (.inl l2) (.inr l2)) vN))
theorem sU {elt iter:Expr}{x y:Str}{ifs:List Expr}{scope:Scope}{wi:TI}{ci:CSt->CH->(List PV->CH->Prop)->Prop}{t:TCT}{c:TCE}{p1 p2 p:Pos}{k:Nat}
  (hc:X.calm=true) (hN:(x::y::X.N).Nodup) (K:∃cl,zJ X [x,y] scope cl) (hi:CI X (.Tuple [.Name x p1,.Name y p2] k p) iter wi ci)
  (ht:∀cl fp C s₂ H₂,CF (cxN X [x,y] scope cl fp C s₂ H₂) ifs t) (he:∀cl fp C s₂ H₂,CE (cxN X [x,y] scope cl fp C s₂ H₂) elt c)
  (hs:∀v,foldedSetIterable iter X.env v=pure v:=by intro _; rfl):CE X (.ListComp elt [⟨.Tuple [.Name x p1,.Name y p2] k p,iter,ifs,0⟩] scope pos) (cH 2 ci t c) :=
 yA (xs:=[x,y]) hc K (fun _ _ _ _ _ K'=>pg2 hc hN K') gok2 hi ht he hs
end
end CL
namespace L2
open PySem PySem.W PySem.Spec PyProof.Rows
abbrev jX:=List (List Key)
abbrev KPt (H:Hp):List (jX×V)->List (jX×Addr×Value)->Prop:=Paired fun p q=>p.1=q.1/\PKey H p.1 q.2.1/\RelV p.2 q.2.2
theorem KPt.val {H:Hp}{kvs:List (jX×V)}{xs:List (jX×Addr×Value)}(r:KPt H kvs xs)(k:jX):RelO (gJ kvs k) ((atKey xs k).map (·.2)):=by
 induction r with
 |nil=>exact True.intro
 |@cons p q ps qs h t ih =>
  obtain⟨h1,_,h2⟩:=h
  by_cases e:p.1=k
  .have b:atKey (q::qs) k=some q.2:=by simp[atKey,List.find?_cons,h1.symm.trans e]
   rw[fW e,b]; exact h2
  .have b:atKey (q::qs) k=atKey qs k:=by
    have e':¬ q.1=k:=fun z=>e (h1.trans z)
    simp[atKey,List.find?_cons,e']
   rw[pW e,b]; exact ih
theorem KPt.repl {H:Hp}{kvs:List (jX×V)}{xs:List (jX×Addr×Value)}(r:KPt H kvs xs)(k:jX){y:V}{u:Value}(ry:RelV y u):
  KPt H (kvs.map fun kv=>if kv.1=k then (kv.1,y) else kv) (xs.map (putAt k u)):=by
 induction r with
 |nil=>exact .nil
 |@cons p q ps qs h t ih =>
  rw[List.map_cons,List.map_cons];refine .cons ?_ ih;obtain⟨h1,h2,h3⟩:=h;unfold putAt
  by_cases e:p.1=k
  .rw [if_pos e,if_pos (h1.symm.trans e)]; exact⟨h1,h2,ry⟩
  .rw [if_neg e,if_neg (fun z=>e (h1.trans z))]; exact⟨h1,h2,h3⟩
theorem KPt.put {H:Hp}{kvs:List (jX×V)}{xs:List (jX×Addr×Value)}(r:KPt H kvs xs)(k:jX){b:Addr}{y:V}{u:Value}(hb:PKey H k b)(ry:RelV y u):
  KPt H (pZ kvs k y) (storedH xs k b u):=by
 have e:(kvs.any fun kv=>decide (kv.1=k))=(atKey xs k).isSome:=by
  rw[eG,(r.val k).isSome_eq,Option.isSome_map]
 unfold pZ storedH;rw[e]
 by_cases q:(atKey xs k).isSome=true
 .rw [if_pos q,if_pos q]; exact r.repl k ry
 .rw [if_neg q,if_neg q]; exact Paired.snoc r ⟨rfl,hb,ry⟩
theorem KPt.keeps {H H':Hp}{kvs:List (jX×V)}{xs:List (jX×Addr×Value)}(r:KPt H kvs xs)(ht:∀b ys,H b=some (.tup ys)->H' b=some (.tup ys)):KPt H' kvs xs :=
 Paired.mapP r fun _ _ z=>⟨z.1,z.2.1.mono ht,z.2.2⟩
section
variable {P:Program}{w:World}{H:Hp}{h:Heap}{a:Addr}
theorem uL (ok:HOk P w H h):∀{kss:List (List Key)}{bs:List Addr}{its:List Value},Paired (fun(ks:List Key) (c:Addr)=>H c=some (.tup (ks.map kV))) kss bs->Vals (bs.map V.ref) its->ItemsTup (dQ P w) h kss its
 |_,_,_,.nil,r=>by cases r; exact .nil
 |_,_,_,.cons (b:=c) e t,r=>by
  cases r with
  |cons r1 r2 =>
   cases r1;exact .cons (mY ok e) (uL ok t r2)
theorem cV {kss:jX}(ok:HOk P w H h)(e:PKey H kss a):(aJ (dQ P w)).is h kss a:=by
 obtain⟨bs,e1,pr⟩:=e;obtain⟨_,its,r,o,h1,h2,⟨n,h3⟩,_⟩:=(show ObjOk P w H h a (.tup (bs.map V.ref)) from ok a _ e1);exact⟨o,its.toArray,n,h1,h2,h3,by rw[List.toList_toArray]; exact uL ok pr r⟩
theorem pU {kvs:List (jX×V)}(ok:HOk P w H h)(e:H a=some (.dP kvs)):kvs.length<=sizeLine/\(a==sysModules)=false /\
  ∃xs,KPt H kvs xs/\h.DictOfH (aJ (dQ P w)) a xs:=by
 obtain⟨z,y,xs,r,o,es,ep,h1,h2,h3,h4,h5⟩:=(show ObjOk P w H h a (.dP kvs) from ok a _ e);refine⟨z,y,xs,r,o,es,ep,h1,h2,h3,h4,fun x hx=>?_,h5⟩
 have all:∀{l:List (jX×V)} {m:List (jX×Addr×Value)},KPt H l m->∀x∈m,(aJ (dQ P w)).is h x.1 x.2.1:=by
  intro l m q
  induction q with
  |nil=>intro x hx; exact nomatch hx
  |@cons p q ps qs hq t ih =>
   intro x hx
   rcases List.mem_cons.mp hx with e | hx
   .subst e
    exact cV ok (by rw[<- hq.1]; exact hq.2.1)
   .exact ih x hx
 exact all r x hx
end
def rH (H:Hp)(a:Addr)(y:V)(r:Option V):Prop:=∃kvs k b,H a=some (.dP kvs)/\y=.ref b/\PKey H k b/\r=gJ kvs k
def QPut (H:Hp)(a:Addr)(y v:V)(H':Hp):Prop:=∃kvs k b,H a=some (.dP kvs)/\y=.ref b/\PKey H k b/\kvs.length < sizeLine/\H'=upd H a (.dP (pZ kvs k v))
section
variable {X:Cx}{pins:List (Addr×Obj)}{σ:St}{H:Hp}{s:Shared}{a:Addr}{y v:V}{u r:Value}{o:Option V}{A:Around}{E:Value->Shared->Prop}
theorem yR {Q:Value->Shared->Prop}(hu:A.units+2 < cLine)(I:Inv X pins σ H s)(g:rH H a y (some v))(ry:RelV y u)(h:∀w' s',Inv X pins σ H s'->RelV v w'->Q w' s'):
  wpAny (model X.prog X.w) A (getItem (.ref a) u) Q E s:=by
 obtain⟨kvs,k,b,e,ey,eb,l⟩:=g;subst ey;cases (show u=Value.ref b from ry);obtain⟨z,hd,xs,rel,dd⟩:=pU I.hok e;obtain⟨w',hw,rw'⟩:=RelO.some_of (v:=v) (o:=(atKey xs k).map (·.2)) (by rw[l]; exact rel.val k);obtain⟨p,hp,hp2⟩:=Option.map_eq_some_iff.mp hw;refine wpAny_getItem_heap (uX hu) (cV I.hok eb) dd hp ?_;rw[hp2];exact h w' _ (I.tok _) rw'
theorem p_in {Q:Value->Shared->Prop}(hu:A.units+2 < cLine)(I:Inv X pins σ H s)(g:rH H a y o)(ry:RelV y u)(h:∀s',Inv X pins σ H s'->Q (.bool o.isSome) s'):
  wpAny (model X.prog X.w) A (compareOp .In u (.ref a)) Q E s:=by
 obtain⟨kvs,k,b,e,ey,eb,l⟩:=g;subst ey;cases (show u=Value.ref b from ry);obtain⟨z,hd,xs,rel,dd⟩:=pU I.hok e;refine wpAny_in_heap (uX hu) (cV I.hok eb) hd dd ?_;have q:=(rel.val k).isSome_eq;rw[Option.isSome_map] at q;rw[<- q,<- l];exact h _ (I.tok _)
theorem wR {H':Hp}{Q:Unit->Shared->Prop}(hu:A.units+2 < cLine)(I:Inv X pins σ H s)(g:QPut H a y v H')(ry:RelV y u)(rv:RelV v r)(h:∀s',Inv X pins σ H' s'->Q () s'):
  wpAny (model X.prog X.w) A (setItem (.ref a) u r) Q E s:=by
 obtain⟨kvs,k,b,e,ey,eb,l,eH⟩:=g;subst ey eH;cases (show u=Value.ref b from ry);obtain⟨z,hd,xs,rel,dd⟩:=pU I.hok e;have hz:xs.length<=sizeLine:=by rw[<- Paired.length rel]; exact z
 have hl:(pZ kvs k v).length<=sizeLine:=by have:=mJ kvs k v; omega
 refine wpAny_setItem_heap (hsz:=hz) (uX hu) (cV I.hok eb) dd fun h' dd' hs=>h _ ?_;obtain⟨q,es,ep,hq,h2,h3,h4,_,h5⟩:=dd';refine bG I (by rw[e]; exact True.intro) hs ⟨q,hq⟩ ⟨hl,hd,_,(rel.put k eb rv).keeps fun c ys ec=>?_,q,es,ep,hq,h2,h3,h4,h5⟩;rw[nQ (ne_of ec e (fun z=>nomatch z))];exact ec
theorem p_get1 {Q:Value->Shared->Prop}(hu:A.units+2 < cLine)(I:Inv X pins σ H s)(g:rH H a y o)(ry:RelV y u)(h:∀w' s',Inv X pins σ H s'->RelV (o.getD .non) w'->Q w' s'):
  wpAny (model X.prog X.w) A (call (.builtin "dict.get") [.ref a,u]) Q E s:=by
 obtain⟨kvs,k,b,e,ey,eb,l⟩:=g;subst ey;cases (show u=Value.ref b from ry);obtain⟨z,hd,xs,rel,dd⟩:=pU I.hok e;refine call_meetsIn PySem.F.slot_dict_get dd.typeIs PySem.F.entry_dict_get (PySem.F.args_dict_get_2 _ _) (meetsH_dict_get (aJ (dQ X.prog X.w)) a b hd) ⟨uX hu,k,xs,cV I.hok eb,dd,h _ _ (I.tok _) ?_⟩;rw[l];have q:=rel.val k
 cases z:gJ kvs k with
 |none =>
  cases z2:atKey xs k with
  |none=>rfl
  |some p=>rw[z,z2] at q; exact q.elim
 |some v' =>
  cases z2:atKey xs k with
  |none=>rw[z,z2] at q; exact q.elim
  |some p=>rw[z,z2] at q; exact q
theorem kF {kvs:List (jX×V)}(I:Inv X pins σ H s)(e:H a=some (.dP kvs)):s.TypeIs (.ref a) "dict":=by
 obtain⟨_,_,xs,_,dd⟩:=pU I.hok e;exact dd.typeIs
end
section
variable {X:Cx}{o i e value:Expr}{pos pos':Pos}{td ty tv:TE}
def tPGet (td ty:TE):TE:=fun σ H Q=>td σ H fun x H1=>ty σ H1 fun y H2=>∃a v,x=.ref a/\rH H2 a y (some v)/\Q v H2
def sPPut (td ty tv:TE):TS:=fun D σ H=>tv σ H fun v H1=>td σ H1 fun x H2=>ty σ H2 fun y H3=>∃a H4,x=.ref a/\QPut H3 a y v H4/\D.nx σ H4
theorem pe_pget (hu:X.A.units+2 < cLine)(ho:PE X o td)(hi:PE X i ty)(hs:sH i):PE X (.Subscript o i pos) (tPGet td ty):=by
 intro pins s σ H Q I h;refine zN PySem.F.slot_dict_getitem.lookup hs (thn (ho pins s σ H _ I h) fun u s1 ⟨x,H1,I1,rx,q1⟩=>thn (hi pins s1 σ H1 _ I1 q1) fun iv s2 ⟨y,H2,I2,ry,a,v,ex,g,q2⟩=>?_);subst ex;obtain rfl:u=Value.ref a:=rx;exact⟨let ⟨_,_,_,e,_⟩:=g; kF I2 e,yR hu I2 g ry fun w' s3 I3 rw'=>⟨v,H2,I3,rw',q2⟩⟩
theorem op_pin (hu:X.A.units+2 < cLine):OpR X (compareOp .In) (fun y x H Q=>∃a o,x=.ref a/\rH H a y o/\Q (.bl o.isSome) H):=by
 intro pins s σ H y x v u Q I ry rx h;obtain⟨a,o,rfl,g,q⟩:=h;cases (show u=Value.ref a from rx);exact p_in hu I g ry fun s3 I3=>⟨.bl o.isSome,H,I3,rfl,q⟩
theorem ps_pput (hu:X.A.units+2 < cLine)(ho:PE X o td)(hi:PE X i ty)(hv:PE X value tv)(hs:swapsWith value (some (.Subscript o i pos')) pos.line X.env=pure false):
  PS X (.Assign [.Subscript o i pos'] value pos) (sPPut td ty tv):=by
 intro pins s σ H D I h;refine wpAny_Assign_Subscript (thn (hv pins s σ H _ I h) fun r s1 ⟨v,H1,I1,rv,q1⟩=>thn (ho pins s1 σ H1 _ I1 q1) fun u s2 ⟨x,H2,I2,rx,q2⟩=>thn (hi pins s2 σ H2 _ I2 q2) fun iv s3 ⟨y,H3,I3,ry,a,H4,ex,g,q3⟩=>?_) hs;subst ex;obtain rfl:u=Value.ref a:=rx;exact wR hu I3 g ry rv fun s4 I4=>⟨σ,H4,I4,q3⟩
def tPNew:TE:=fun _ H Q=>∀p,H p=none->Q (.ref p) (upd H p (.dP []))
theorem rE {P:Program}{w:World}{H:Hp}(h:Heap)(hb:sysModules < h.objs.size):ObjOk P w H (h.push { cls:=.type "dict",data:=.dict #[] }) h.objs.size (.dP []):=by
 obtain⟨z,y,xs,r,rest⟩:=(show ObjOk P w H (h.push { cls:=.type "dict",data:=.dict #[] }) h.objs.size (.dT []) from dL h hb);obtain⟨o,es,ep,h1,h2,h3,h4,h5⟩:=rest;cases r;exact⟨z,y,[],.nil,o,es,ep,h1,h2,h3,h4,List.nodup_nil⟩
theorem pe_pnew:PE X (.Dict [] [] pos) tPNew:=by
 intro pins s σ H Q I h;exact wpAny_Dict_empty ⟨.ref s.heap.objs.size,_,I.laid (a:=s.heap.objs.size) (o:=.dP []) (t':=s.toks) (fun _ _ q=>Heap.get?_push_of_some _ q) (Nat.le_refl _) (rE s.heap I.big),rfl,h _ (I.hok.fresh (Nat.le_refl _))⟩
end
end L2
namespace CL
open PySem PySem.Spec L2 PySem.W
open PyProof.Rows hiding St
section
variable {X:Cx}{a b c e o i f value:Expr}{es:List Expr}{pos pos':Pos}
@[irreducible] def cInt:GC:=fun ts C Q=>match ts with
 |[.bl b]=>Q (.int (if b then 1 else 0)) C
 |[.int i]=>Q (.int i) C
 |_=>False
theorem cG {K:PySem.W.Frag}:Cbi K (fun xs H Q=>(∃i,xs=[.int i]/\Q (.int i) H)\/∃k,xs=[.bl k]/\Q (.int (if k then 1 else 0)) H) cInt:=fun xs ts H C Q R rs h q f=>by
 unfold cInt at q
 split at q
 .obtain ⟨v,rfl,r⟩:=yX rs
  cases r;exact .inr ⟨_,rfl,f _ H _ C q (.int _) h Fw.refl⟩
 .obtain ⟨v,rfl,r⟩:=yX rs
  cases r;exact .inl ⟨_,rfl,f _ H _ C q (.int _) h Fw.refl⟩
 .exact q.elim
@[irreducible] def cCatT:R2C:=fun x y C Q=>match x,y with
 |.tup xs,.tup ys=>xs.length+ys.length<=sizeLine/\Q (.tup (xs++ys)) C
 |_,_=>False
@[irreducible] def cExtend:PV->List PV->CH->K1->Prop:=fun x ts C Q=>match x,ts with
 |.ref a,[.ref b]=>match C a,C b with
  |some (.lst xs),some (.lst ys)=>xs.length+ys.length<=sizeLine/\Q .non (uQ C a (.lst (xs++ys)))
  |_,_=>False
 |_,_=>False
def cBM0 (cr:PV->List PV->CH->K1->Prop)(co:TCE):TCE:=fun ρ C Q=>co ρ C fun x C1=>isL x C1/\cr x [] C1 Q
theorem ce_bm0 {name:Str}{id:String}{apos cpos:Pos}{r:V->List V->Hp->VK->Prop}{cr:PV->List PV->CH->K1->Prop}{co:TCE}(pa:PlainAttrs "list")(slot:Slot "list" name id)(hty:typeOf (.builtin id)=pure (.type "method_descriptor"))(hm:MtR X id r)(hr:Cmt X.K r cr)(ho:CE X o co)
  (hbase:attributeBase o name X.env (eval o X.env)=eval o X.env:=by rfl) (hline:(apos.endLine==cpos.line)=true:=by rfl):CE X (.Call (.Attribute o name apos) [] [] cpos) (cBM0 cr co):=⟨JE.weak (je_bm0 pa slot hty hm ho.h hbase hline) fun σ H Q ⟨ρ,C,R,s,h,q,f⟩ =>
 ⟨ρ,C,_,s,h,q,fun x H1 px C1 q1 rx h1 f1=>⟨kE q1.1 rx h1,hr x px [] [] H1 C1 Q R rx .nil h1 q1.2 fun v H' t C' q' r' h' f'=>f v H' t C' q' r' h' (f1.trans f')⟩⟩⟩
@[irreducible] def xY:PV->List PV->CH->K1->Prop:=fun x ts C Q=>match x,ts with
 |.ref a,[]=>match C a with
  |some (.lst xs)=>Q .non (uQ C a (.lst xs.reverse))
  |_=>False
 |_,_=>False
theorem tL {K:PySem.W.Frag}:Cmt K gD xY:=fun x px xs ps H C Q R rx rs h q f=>by
 unfold xY at q
 split at q
 .split at q
  .next ys e1 =>
   obtain⟨vs,ev,rv⟩:=h _ _ e1;cases rs;cases rx;exact⟨_,vs,rfl,rfl,ev,f _ _ _ _ q .non (h.put ev rfl ⟨_,fQ,rv.reverse.imm (Imm.mut ev rfl _)⟩) (Fw.put e1 _ _)⟩
  .exact q.elim
 .exact q.elim
@[irreducible] def cClear:PV->List PV->CH->K1->Prop:=fun x ts C Q=>match x,ts with
 |.ref a,[]=>match C a with
  |some (.lst xs)=>Q .non (uQ C a (.lst []))
  |_=>False
 |_,_=>False
@[irreducible] def cSlT:PV->Option Int->Option Int->CH->K1->Prop:=fun x lo hi C Q=>match x with
 |.tup xs=>¬ (HT.sIx xs.length 0 lo=0/\HT.sIx xs.length xs.length hi=xs.length)/\Q (.tup (pY xs lo hi)) C
 |_=>False
def lB:List PV->Option jX
 |[]=>some []
 |t::r=>match cW t,lB r with
  |some k,some ks=>some (k::ks)
  |_,_=>none
def vB:PV->Option jX
 |.tup ts=>lB ts
 |_=>none
theorem xR {K:PySem.W.Frag}{H:Hp}{vs:List V}{ts:List PV}{kss:jX}(r:Reps K H vs ts)(e:lB ts=some kss):∃bs:List Addr,vs=bs.map V.ref/\Paired (fun(ks:List Key) (c:Addr)=>H c=some (.tup (ks.map kV))) kss bs:=by
 induction ts generalizing vs kss with
 |nil=>cases r; cases e; exact⟨[],rfl,.nil⟩
 |cons t ts ih =>
  cases r with
  |cons h r =>
   unfold lB at e
   split at e
   .next k ks e1 e2 =>
    cases e;obtain⟨b,rfl,eb⟩:=aG h e1;obtain⟨bs,rfl,p⟩:=ih r e2;exact⟨b::bs,rfl,.cons eb p⟩
   .cases e
theorem lW {K:PySem.W.Frag}{H:Hp}{v:V}{t:PV}{kss:jX}(r:Rep K H v t)(e:vB t=some kss):∃b,v=.ref b/\PKey H kss b:=by
 cases r<;>try (cases e)
 next a vs ts h r =>
  obtain⟨bs,rfl,p⟩:=xR r e;exact⟨a,rfl,bs,h,p⟩
def cPNew:TCE:=fun _ C Q=>∀p,C p=none->Q (.ref p) (uQ C p (.dP []))
theorem ce_pnew:CE X (.Dict [] [] pos) cPNew:=⟨JE.weak ⟨pe_pnew⟩ fun σ H Q ⟨ρ,C,R,s,h,q,f⟩=>fun p hp=>f (.ref p) _ (.ref p) _ (q p (h.fresh hp)) (.ref p) (h.lay hp ⟨[],fQ,.nil⟩) (Fw.lay hp _ _)⟩
@[irreducible] def cPIx:R2C:=fun x y C Q=>match x with
 |.ref a=>match C a,vB y with
  |some (.dP kvs),some k=>match rJ kvs k with
   |some v=>Q v C
   |none=>False
  |_,_=>False
 |_=>False
theorem wA {co ci:TCE}(hu:X.A.units+2 < cLine)(ho:CE X o co)(hi:CE X i ci)(hs:sH i):CE X (.Subscript o i pos) (cOp cPIx co ci):=⟨JE.weak ⟨pe_pget hu ho.h.h hi.h.h hs⟩ fun σ H Q ⟨ρ,C,R,s,h,q,f⟩ =>
 ⟨ρ,C,_,s,h,q,fun x H1 px C1 q1 rx h1 f1=>⟨ρ,C1,_,s.imm (f1.imm h),h1,q1,fun y H2 py C2 q2 ry h2 f2=>by
  unfold cPIx at q2
  split at q2
  .next a =>
   split at q2
   .next kvs k e1 e2 =>
    split at q2
    .next t e3 =>
     have rx2:=rx.imm (f2.imm h1);cases rx2;obtain⟨vs,ev,r⟩:=h2 a _ e1;obtain⟨b,rfl,eb⟩:=lW ry e2
     rcases FP.val r k with ⟨v,t',l1,l2,rv⟩ | ⟨_,l2⟩
     .rw [e3] at l2
      cases l2;exact⟨a,v,rfl,⟨vs,k,b,ev,rfl,eb,l1.symm⟩,f v H2 t C2 q2 rv h2 (f1.trans f2)⟩
     .rw [e3] at l2; cases l2
    .exact q2.elim
   .exact q2.elim
  .exact q2.elim⟩⟩⟩
@[irreducible] def cPIn:R2C:=fun y x C Q=>match x with
 |.ref a=>match C a,vB y with
  |some (.dP kvs),some k=>Q (.bl (rJ kvs k).isSome) C
  |_,_=>False
 |_=>False
theorem cop_pin {K:PySem.W.Frag}:Cop K (fun y x H Q=>∃a o,x=.ref a/\rH H a y o/\Q (.bl o.isSome) H) cPIn:=fun y x py px H C Q R ry rx h q f=>by
 unfold cPIn at q
 split at q
 .next a =>
  split at q
  .next kvs k e1 e2 =>
   cases rx;obtain⟨vs,ev,r⟩:=h a _ e1;obtain⟨b,rfl,eb⟩:=lW ry e2;refine⟨a,gJ vs k,rfl,⟨vs,k,b,ev,rfl,eb,rfl⟩,?_⟩
   rcases FP.val r k with ⟨v,t',l1,l2,rv⟩ | ⟨l1,l2⟩
   .rw [l2] at q; rw[l1]; exact f _ H _ C q (.bl _) h Fw.refl
   .rw [l2] at q; rw[l1]; exact f _ H _ C q (.bl _) h Fw.refl
  .exact q.elim
 .exact q.elim
@[irreducible] def iN:PV->PV->PV->CH->(CH->Prop)->Prop:=fun x y v C Q=>match x with
 |.ref a=>match C a,vB y with
  |some (.dP kvs),some k=>kvs.length < sizeLine/\Q (uQ C a (.dP (putG kvs k v)))
  |_,_=>False
 |_=>False
def cPPut (co ck cv:TCE):TCS:=fun E ρ C=>cv ρ C fun v C1=>co ρ C1 fun x C2=>ck ρ C2 fun y C3=>iN x y v C3 fun C4=>E.nx ρ C4
theorem cs_pput {co ck cv:TCE}(hu:X.A.units+2 < cLine)(ho:CE X o co)(hi:CE X i ck)(hv:CE X value cv)(hs:swapsWith value (some (.Subscript o i pos')) pos.line X.env=pure false:=by rfl):
  CS X (.Assign [.Subscript o i pos'] value pos) (cPPut co ck cv):=⟨JS.weak ⟨ps_pput hu ho.h.h hi.h.h hv.h.h hs⟩ fun D σ H ⟨ρ,C,E,s,h,q,f⟩ =>
 ⟨ρ,C,_,s,h,q,fun v H1 pv C1 q1 rv h1 f1=>⟨ρ,C1,_,s.imm (f1.imm h),h1,q1,fun x H2 px C2 q2 rx h2 f2=>⟨ρ,C2,_,(s.imm (f1.imm h)).imm (f2.imm h1),h2,q2,fun y H3 py C3 q3 ry h3 f3=>by
  have s3:=((s.imm (f1.imm h)).imm (f2.imm h1)).imm (f3.imm h2);have rv3:=rv.imm ((f2.trans f3).imm h1);unfold iN at q3
  split at q3
  .next a =>
   split at q3
   .next kvs k e1 e2 =>
    have rx3:=rx.imm (f3.imm h2);cases rx3;obtain⟨vs,ev,r⟩:=h3 a _ e1;obtain⟨b,rfl,eb⟩:=lW ry e2;have hl:vs.length=kvs.length:=Paired.length r;have m:Imm H3 (upd H3 a (.dP (pZ vs k v))):=Imm.mut ev rfl _;refine⟨a,_,rfl,⟨vs,k,b,ev,rfl,eb,by rw[hl]; exact q3.1,rfl⟩,f.nx σ _ ρ _ q3.2 (s3.imm m) (h3.put ev rfl ⟨_,fQ,Paired.mapP (FP.putG r k rv3) fun _ _ z=>⟨z.1,z.2.imm m⟩⟩) (f1.trans (f2.trans (f3.trans (Fw.put e1 _ _))))⟩
   .exact q3.elim
  .exact q3.elim⟩⟩⟩⟩
end
inductive Pl:Nat->PV->Prop
 |non {d:Nat}:Pl d .non
 |bl {d:Nat} (b:Bool):Pl d (.bl b)
 |int {d:Nat} (i:Int):Pl d (.int i)
 |str {d:Nat} (x:Str):Pl d (.str x)
 |tup {d:Nat} {ts:List PV} (h:∀t∈ts,Pl d t):Pl (d+1) (.tup ts)
section
variable {X:Cx}{pins:List (Addr×Obj)}{σ:St}{H:Hp}{s:Shared}
theorem kH {d:Nat}{ts:List PV}(ih:∀t∈ts,∀{A:Around}{v v':V}{u u':Value},Rep X.K H v t->Rep X.K H v' t->RelV v u->RelV v' u'->A.units+d < cLine->SeqAt.EqAt A s u u' true){A:Around}(hu:A.units+d < cLine){vs ws:List V}{its its2:List Value}(r1:Reps X.K H vs ts)(r2:Reps X.K H ws ts)(v1:Vals vs its)(v2:Vals ws its2):
  its.length=its2.length/\∀j (h1:j < its.toArray.size) (h2:j < its2.toArray.size),SeqAt.EqAt A s its.toArray[j] its2.toArray[j] true:=by
 induction ts generalizing vs ws its its2 with
 |nil =>
  cases r1; cases r2; cases v1; cases v2
  exact⟨rfl,fun j h1=>absurd h1 (by simp)⟩
 |cons t ts iht =>
  cases r1 with
  |cons a1 r1 =>
   cases r2 with
   |cons a2 r2 =>
    cases v1 with
    |cons b1 v1 =>
     cases v2 with
     |cons b2 v2 =>
      obtain⟨l,k⟩:=iht (fun t' m=>ih t' (List.mem_cons_of_mem _ m)) r1 r2 v1 v2;refine⟨by rw[List.length_cons,List.length_cons,l],fun j h1 h2=>?_⟩
      cases j with
      |zero=>exact ih t List.mem_cons_self a1 a2 b1 b2 hu
      |succ j =>
       have:=k j (by simpa using h1) (by simpa using h2)
       simpa using this
theorem eq_deep (I:Inv X pins σ H s){d:Nat}{t:PV}(p:Pl d t):∀{A:Around}{v v':V}{u u':Value},Rep X.K H v t->Rep X.K H v' t->RelV v u->RelV v' u'->A.units+d < cLine->SeqAt.EqAt A s u u' true:=by
 induction p with
 |non =>
  intro A v v' u u' r r' e e' hu;cases r; cases r'
  cases (show u=Value.none from e); cases (show u'=Value.none from e')
  exact SeqAt.EqAt.same _
 |bl b =>
  intro A v v' u u' r r' e e' hu;cases r; cases r'
  cases (show u=Value.bool b from e); cases (show u'=Value.bool b from e')
  exact SeqAt.EqAt.same _
 |int i =>
  intro A v v' u u' r r' e e' hu;cases r; cases r'
  obtain⟨t1,rfl⟩:=(show ∃t,u=Value.int i t from e);obtain⟨t2,rfl⟩:=(show ∃t,u'=Value.int i t from e');have:=SeqAt.EqAt.int_int (A:=A) (s:=s) i t1 i t2;rw[beq_self_eq_true] at this;exact this
 |str x =>
  intro A v v' u u' r r' e e' hu;cases r; cases r'
  obtain⟨t1,rfl⟩:=(show ∃t,u=Value.str x t from e);obtain⟨t2,rfl⟩:=(show ∃t,u'=Value.str x t from e');have:=SeqAt.EqAt.str_str (A:=A) (s:=s) x t1 x t2;rw[beq_self_eq_true] at this;exact this
 |@tup d ts hp ih =>
  intro A v v' u u' r r' e e' hu
  cases r with
  |@tup a1 vs _ e1 r1 =>
   cases r' with
   |@tup a2 ws _ e2 r2 =>
    cases (show u=Value.ref a1 from e); cases (show u'=Value.ref a2 from e')
    by_cases hab:a1=a2
    .subst hab; exact SeqAt.EqAt.same _
    .obtain ⟨its,w1,p1,_⟩:=I.tuple (SqT.of e1)
     obtain⟨its2,w2,p2,_⟩:=I.tuple (SqT.of e2)
     have hu':A.in1.units+d < cLine:=by
      show A.units+1+d < cLine;omega
     obtain⟨hl,he⟩:=kH (A:=A.in1) (d:=d) (fun t m=>ih t m) hu' r1 r2 w1 w2;have R:=SeqAt.RcAt.tuples (A:=A) (e:=fun _=>true) p1 p2 (by omega) he;rw[show((List.range (min its.toArray.size its2.toArray.size)).all (fun _=>true)&&its.toArray.size==its2.toArray.size)=true by simp[hl]] at R;exact SeqAt.EqAt.of_refs hab R
end
section
variable {X:Cx}
@[irreducible] def cNeD (d:Nat):R2C:=fun x y C Q=>match x,y with
 |.ref a,.ref b=>match C a,C b with
  |some (.lst xs),some (.lst ys)=>xs=ys/\(∀t∈xs,Pl d t)/\Q (.bl false) C
  |_,_=>False
 |_,_=>False
def eY:List PV->Option (List Str)
 |[]=>some []
 |.str x::r=>(eY r).map (x :: ·)
 |_=>none
def yC:List PV->Option (List (List Str×Int))
 |[]=>some []
 |.tup [.tup ks,.int i]::r=>match eY ks,yC r with
  |some zs,some cs=>some ((zs,i)::cs)
  |_,_=>none
 |_=>none
theorem jT {ts:List PV}{zs:List Str}(e:eY ts=some zs):ts=zs.map PV.str:=by
 induction ts generalizing zs with
 |nil=>cases e; rfl
 |cons t ts ih =>
  unfold eY at e
  split at e
  .rename_i h; cases h
  .rename_i x r h
   cases h
   cases z:eY ts with
   |none=>rw[z] at e; cases e
   |some ds=>rw[z] at e; cases e; rw[ih z]; rfl
  .cases e
theorem dB:∀zs:List Str,eY (zs.map PV.str)=some zs
 |[]=>rfl
 |z::zs=>by
  show(eY (zs.map PV.str)).map _=_;rw[dB zs]; rfl
theorem tiOf_eq {ts:List PV}{cs:List (List Str×Int)}(e:yC ts=some cs):ts=cs.map lZ:=by
 induction ts generalizing cs with
 |nil=>cases e; rfl
 |cons t ts ih =>
  unfold yC at e
  split at e
  .rename_i h; cases h
  .rename_i ks i r h
   cases h
   split at e
   .next zs cs' e1 e2 =>
    cases e;rw[ih e2,jT e1]; rfl
   .cases e
  .cases e
theorem jD:∀cs:List (List Str×Int),yC (cs.map lZ)=some cs
 |[]=>rfl
 |c::cs=>by
  show(match eY (c.1.map PV.str),yC (cs.map lZ) with | some zs,some cs=>some ((zs,c.2)::cs) | _,_=>none)=_;rw[dB,jD cs]
theorem uC {K:PySem.W.Frag}{H:Hp}{zs:List Str}{vs:List V}(r:Reps K H vs (zs.map PV.str)):vs=zs.map V.str:=by
 induction zs generalizing vs with
 |nil=>cases r; rfl
 |cons z zs ih =>
  cases r with
  |cons h r=>cases h; rw[ih r]; rfl
theorem tp_at {K:PySem.W.Frag}{H:Hp}{ys:List V}{cs:List (List Str×Int)}(r:Reps K H ys (cs.map lZ)):∀i,i < ys.length->aU H (ys.getD i .non) (cs.getD i ([],0)):=by
 induction cs generalizing ys with
 |nil=>cases r; intro i hi; exact absurd hi (Nat.not_lt_zero i)
 |cons c cs ih =>
  cases r with
  |@cons v _ vs _ h r =>
   intro i hi
   cases i with
   |zero =>
    cases h with
    |tup e r1 =>
     obtain⟨v1,v2,rfl,r2,r3⟩:=rM r1;cases r3
     cases r2 with
     |tup e2 r4 =>
      rw[uC r4] at e2;exact⟨_,_,rfl,e,e2⟩
   |succ i=>exact ih r i (Nat.lt_of_succ_lt_succ hi)
@[irreducible] def zY:GC:=fun ts C Q=>match ts with
 |[.ref a]=>match C a with
  |some (.lst xs)=>match yC xs with
   |some cs=>cs.length < 64/\∀p,C p=none->Q (.ref p) (uQ C p (.lst ((qV cs).map lZ)))
   |none=>False
  |_=>False
 |_=>False
theorem eL (hu:X.A.units+2 < cLine):Cbi X.K (fun xs H Q=>∃l ys lt,xs=[.ref l]/\SqL X.K H l ys/\ys.length < 64/\Srt X H ys lt/\∀p,H p=none->Q (.ref p) (upd H p (.lst (uY lt ys)))) zY:=fun xs ts H C Q R rs h q f=>by
 unfold zY at q
 split at q
 .obtain ⟨v,rfl,r⟩:=yX rs
  split at q
  .next xs e =>
   split at q
   .next cs e2 =>
    have ex:=tiOf_eq e2;subst ex;obtain⟨vs,ev,rv⟩:=h _ _ e;cases r;have hl:vs.length=cs.length:=by rw[rv.len,List.length_map]
    have ro:=pD (lZ ([],0)) (fP cs) rv;rw[List.length_map,ti_ord] at ro;exact⟨_,vs,fP cs,rfl,SqL.of ev,by rw[hl]; exact q.1,bC hu _ (tp_at rv),fun p hp=>f _ _ _ _ (q.2 p (h.fresh hp)) (.ref p) (h.lay hp ⟨_,fQ,ro.imm (Imm.new hp _)⟩) (Fw.lay hp _ _)⟩
   .exact q.elim
  .exact q.elim
 .exact q.elim
end
end CL
namespace PySem.W
open PySem PySem.Calls PyProof.Rows PyProof.V PySem.Spec
section
variable {prog:Program}{w:World}{A:Around}{E:Value->Shared->Prop}{s:Shared}{d it:Addr}{es:Array DictEntry}{ep i:Nat}
theorem RawD.ty (x:RawD s.heap d es ep):s.TypeIs (.ref d) "dict":=let ⟨o,e,c,_⟩:=x; ⟨o,e,c.1⟩
theorem oC {Q:Value->Shared->Prop}(hd:(d==sysModules)=false)(hm:RawD s.heap d es ep)
  (hQ:Q (.ref s.heap.objs.size) { s with heap:=s.heap.push { cls:=.type "dict_keyiterator",data:=.fields #[.ref d,.int 0 0,.int es.size 0,.int ep 0] } }):wpAny (model prog w) A (pyIter (.ref d)) Q E s:=by
 have hT:=hm.ty;obtain⟨o,ho,hc,hdat⟩:=hm;refine wpAny_pyIter_slot (by exact hT) F.slot_dict_iter (wpAny_call_entry F.slot_dict_iter (by exact hT) F.entry_dict_iter ?_ (F.args_dict_iter_1 _))
 (unfold Builtin.«dict.__iter__»; refine wpAny_bind ?_; unfold Builtin.Dict.dictSlotNone; refine wpAny_bind (wpAny_notOrdered_dict hT ?_))
 (show wpAny _ _ (pure (Value.ref d)) _ _ s; refine wpAny_pure ?_; show wpAny _ _ (Builtin.Dict.showsAll d >>= _) _ _ s; unfold Builtin.Dict.showsAll)
 (rw[if_neg (by rw[hd]; exact Bool.false_ne_true)]; refine wpAny_bind (wpAny_pure ?_); refine wpAny_bind (wpAny_dictEntries ho hdat ?_); refine wpAny_bind (wpAny_dictEpoch ho hdat ?_))
 refine wpAny_bind (wpAny_newObj_type (wpAny_pure ⟨_,rfl,"dict_keyiterator",(_),⟨_,Heap.get?_push_size _ rfl,rfl⟩,F.slot_dict_keyiterator_next.lookup,(?_)⟩))
 (simpa [rawInt] using hQ)
theorem sC {e:DictEntry}{Q:Option Value->Shared->Prop}(hit:s.heap.IsKeyIter it d i es.size ep)(hm:RawD s.heap d es ep)(hx:es[i]?=some e)
  (hQ:∀h',h'.IsKeyIter it d (i+1) es.size ep->Heap.SameBut it s.heap h'->Q (some e.key) { s with heap:=h' }):wpAny (model prog w) A (pyNext (.ref it)) Q E s:=by
 have hT:=hit.typeIs;obtain⟨o,ho,hc,hd⟩:=id hit;obtain⟨od,hod,hcd,hdd⟩:=id hm
 have hlt:i < es.size:=by
  rcases Nat.lt_or_ge i es.size with h | h
  .exact h
  .rw [Array.getElem?_eq_none h] at hx; cases hx
 have he:es[i]=e:=by rw[Array.getElem?_eq_getElem hlt] at hx; exact Option.some.inj hx
 have hown:Builtin.Dict_items.ownsTuple "dict_keyiterator" = false:=by (decide)
 (unfold pyNext; refine wpAny_bind (wpAny_attempt (wpAny_callSpecial?_slot (name:=Str.ofString "__next__") hT F.slot_dict_keyiterator_next (wpAny_call_entry F.slot_dict_keyiterator_next hT F.entry_dict_keyiterator_next ?_ (F.args_dict_keyiterator_next_1 _)))))
 (refine wpAny_bind (wpAny_pure ?_); refine wpAny_bind ?_; refine wpAny_bind ?_; first | refine wpAny_bind (wpAny_typeNameOfWhole_keyiter hT (wpAny_pure ?_)) | refine wpAny_bind (wpAny_typeNameOf_keyiter hT (wpAny_pure ?_)))
 (refine wpAny_bind (wpAny_fieldsOf ho hd ?_); simp only[hown,Bool.false_eq_true,if_false]; show wpAny _ _ (if (Value.ref d==Value.none)=true then _ else _) _ _ s)
 (rw[if_neg (show ¬ ((Value.ref d==Value.none)=true) from Bool.false_ne_true)]; refine wpAny_bind (wpAny_pure ?_); refine wpAny_bind (wpAny_dictEntries hod hdd ?_))
 (rw[if_neg (by simp)]; refine wpAny_bind (wpAny_pure ?_); refine wpAny_bind (wpAny_dictEpoch hod hdd ?_); rw[if_neg (by simp)]; refine wpAny_pure ?_)
 (simp only[show ¬ ((i:Int) < 0) from by omega,if_false,Int.toNat_natCast,Array.getElem?_eq_getElem hlt]; refine wpAny_bind ?_)
 (first | refine wpAny_bind (wpAny_typeNameOfWhole_keyiter hT (wpAny_pure ?_)) | refine wpAny_bind (wpAny_typeNameOf_keyiter hT (wpAny_pure ?_)))
 (refine wpAny_bind (wpAny_isOneOf_keyiter hT ?_); show wpAny _ _ (setField (.ref it) 1 (rawInt ((i:Int)+1)) >>= _) _ _ s; refine wpAny_bind (wpAny_setField ho hd (by simp) ?_))
 have hit':(s.heap.update it (Obj.mapFields (·.setIfInBounds 1 (rawInt ((i:Int)+1))))).IsKeyIter it d (i+1) es.size ep:=⟨_,Heap.get?_update_self _ ho (Obj.isFreed_of_fields (Obj.data_mapFields hd _)),(Obj.cls_mapFields ..).trans hc,by rw[Obj.data_mapFields hd]; simp[rawInt]⟩
 (refine wpAny_bind (wpAny_holding ?_); refine wpAny_bind (wpAny_isOneOf_keyiter (s:={ s with heap:=s.heap.update it (Obj.mapFields (·.setIfInBounds 1 (rawInt ((i:Int)+1)))) }) hit'.typeIs ?_))
 (show wpAny _ _ (pure es[i].key) _ _ _; rw[he]; exact wpAny_pure (wpAny_pure ⟨_,rfl,wpAny_pure (hQ _ hit' (Heap.SameBut.update ..))⟩))
theorem yT {Q:Option Value->Shared->Prop}(hh:A.handled=none)(hit:s.heap.IsKeyIter it d i es.size ep)(hm:RawD s.heap d es ep)(hge:es.size<=i)
  (hQ:∀h',Heap.ExtBut it s.heap h'->Q none { s with heap:=h' }):wpAny (model prog w) A (pyNext (.ref it)) Q E s:=by
 have hT:=hit.typeIs;obtain⟨o,ho,hc,hd⟩:=id hit;obtain⟨od,hod,hcd,hdd⟩:=id hm;have hown:Builtin.Dict_items.ownsTuple "dict_keyiterator" = false:=by (decide)
 (unfold pyNext; refine wpAny_bind (wpAny_attempt (wpAny_callSpecial?_slot (name:=Str.ofString "__next__") hT F.slot_dict_keyiterator_next (wpAny_call_entry F.slot_dict_keyiterator_next hT F.entry_dict_keyiterator_next ?_ (F.args_dict_keyiterator_next_1 _)))))
 (refine wpAny_bind (wpAny_pure ?_); refine wpAny_bind ?_; refine wpAny_bind ?_; first | refine wpAny_bind (wpAny_typeNameOfWhole_keyiter hT (wpAny_pure ?_)) | refine wpAny_bind (wpAny_typeNameOf_keyiter hT (wpAny_pure ?_)))
 (refine wpAny_bind (wpAny_fieldsOf ho hd ?_); simp only[hown,Bool.false_eq_true,if_false]; show wpAny _ _ (if (Value.ref d==Value.none)=true then _ else _) _ _ s)
 (rw[if_neg (show ¬ ((Value.ref d==Value.none)=true) from Bool.false_ne_true)]; refine wpAny_bind (wpAny_pure ?_); refine wpAny_bind (wpAny_dictEntries hod hdd ?_))
 (rw[if_neg (by simp)]; refine wpAny_bind (wpAny_pure ?_); refine wpAny_bind (wpAny_dictEpoch hod hdd ?_); rw[if_neg (by simp)]; refine wpAny_pure ?_)
 (simp only[show ¬ ((i:Int) < 0) from by omega,if_false,Int.toNat_natCast,Array.getElem?_eq_none hge]; refine wpAny_bind ?_)
 (first | refine wpAny_bind (wpAny_typeNameOfWhole_keyiter hT (wpAny_pure ?_)) | refine wpAny_bind (wpAny_typeNameOf_keyiter hT (wpAny_pure ?_)))
 (show wpAny _ _ (setField (.ref it) 0 .none >>= _) _ _ s; refine wpAny_bind (wpAny_setField ho hd (by simp) ?_); show wpAny _ _ (newExc (.type "StopIteration") [] >>= _) _ _ _)
 (refine wpAny_bind ?_; simp only[newExc,newTuple]; refine wpAny_bind (wpAny_newObj_type ?_ (by size_fits)))
 (refine wpAny_bind (m:=firstArgMember _ _) (wpAny_of_eq (a:=Value.none) (by first | rfl | (simp only[firstArgMember]; rfl)) ?_); refine wpAny_newObj_type ?_ (by size_fits))
 (simp only[raiseNew]; refine wpAny_bind (wpAny_handled ?_); rw[show A.in1.handled=none from hh]; refine wpAny_bind (wpAny_pure (wpAny_throw ?_)))
 (refine wpAny_bind (wpAny_isInstance (T:="StopIteration") (b:=true) ⟨_,Heap.get?_push_size _ rfl,rfl⟩ isSubtype_stop ?_); exact wpAny_pure (hQ _ (((Heap.SameBut.update ..).extBut.push _).push _)))
end
end PySem.W
namespace CL
open PySem PySem.Spec L2 PySem.W
open PyProof.Rows hiding St
section
variable {X:Cx}{pos:Pos}
def wC (k:List Key):PV:=.tup (k.map oB)
@[irreducible] def cCompT (ce:TCE)(t:TCT)(c:TCE):TCE:=fun ρ C Q=>ce ρ C fun x C1=>match x with
 |.ref d=>match C1 d with
  |some (.dT kvs)=>cX t c ρ (fun v C2=>C2 d=some (.fT kvs)/\Q v (uQ C2 d (.dT kvs))) (kvs.map fun p=>wC p.1) [] (uQ C1 d (.fT kvs))
  |_=>False
 |_=>False
theorem FP.keys {κ:Type}{K:PySem.W.Frag}{H:Hp}{vs:List (κ×V)}{kvs:List (κ×PV)}(r:FP K H vs kvs):vs.map (·.1)=kvs.map (·.1):=by
 induction r with
 |nil=>rfl
 |cons h _ ih=>rw[List.map_cons,List.map_cons,h.1,ih]
def tOf:Option CO->Option (List (List Key×PV))
 |some (.dT kvs)=>some kvs
 |some (.fT kvs)=>some kvs
 |_=>none
@[irreducible] def cTIy:R2C:=fun x y C Q=>match x with
 |.ref a=>match tOf (C a),cW y with
  |some kvs,some k=>match rJ kvs k with
   |some v=>Q v C
   |none=>False
  |_,_=>False
 |_=>False
end
end CL
namespace L2
open PySem PySem.W PyProof.Rows
def drop (H:Hp)(a:Addr):Hp:=fun b=>if b=a then none else H b
end L2
namespace CL
open PySem PySem.Spec L2 PySem.W
open PyProof.Rows hiding St
section
variable {X:Cx}{a b c e o i f value:Expr}{es:List Expr}{pos pos':Pos}
@[irreducible] def cRev:PV->CH->K1->Prop:=fun x C Q=>match x with
 |.ref a=>match C a with
  |some (.lst xs)=>∀p,C p=none->Q (.ref p) (uQ C p (.lst xs.reverse))
  |_=>False
 |_=>False
def rngPV (n:Nat):List PV:=(List.range n).map fun k=>PV.int (k:Nat)
@[irreducible] def cRng:PV->CH->K1->Prop:=fun x C Q=>match x with
 |.int j=>0<=j/\j<=100000/\∀p,C p=none->Q (.ref p) (uQ C p (.lst (rngPV j.toNat)))
 |_=>False
@[irreducible] def cPop:PV->List PV->CH->K1->Prop:=fun x ts C Q=>match x,ts with
 |.ref a,[]=>match C a with
  |some (.lst xs)=>match xs[xs.length - 1]? with
   |some y=>Q y (uQ C a (.lst xs.dropLast))
   |none=>False
  |_=>False
 |_,_=>False
@[irreducible] def cTru (c:TCE):TCT:=fun ρ C Q=>c ρ C fun x C1=>match x with
 |.ref a=>match C1 a with
  |some (.lst xs)=>Q (!xs.isEmpty) C1
  |_=>False
 |_=>False
end
structure Row where
 k:Option Str
 nm:Str
 q:Str
 st:Stmt
 ps:List Str
 N:List Str
def AllR (p:Row->Prop):List Row->Prop
 |[]=>True
 |r::rs=>p r/\AllR p rs
def FH (K:PySem.W.Frag)(r:Row):Prop:=match r with
 |⟨none,nm,q,st,_,_⟩=>∃(f:Addr) (oc:Value) (od:Option Addr) (kV dc pm:Value) (an:Option Addr) (cd ct:Value) (sl:Array (Option Value)),
  PySem.W.nsIn K mainGlobals nm=some (some (.ref f))/\K.lookup f=some ⟨oc,od,.func (PySem.W.fnOf nm q (pJ st) (mZ st) (lQ st) .none kV dc pm an cd ct),sl⟩/\PySem.W.codeIn K cd q=true/\PySem.W.keepIn K (.ref f)=true
 |⟨some c,nm,q,st,_,_⟩=>∃(cc f:Addr) (oc:Value) (od:Option Addr) (kV dc pm:Value) (an:Option Addr) (cd ct:Value) (sl:Array (Option Value)),
  PySem.W.nsIn K mainGlobals c=some (some (.ref cc))/\PySem.W.findIn K (.ref cc) nm=some (some (.ref f))/\K.lookup f=some ⟨oc,od,.func (PySem.W.fnOf nm q (pJ st) (mZ st) (lQ st) .none kV dc pm an cd ct),sl⟩/\PySem.W.codeIn K cd q=true/\PySem.W.keepIn K (.ref f)=true/\PySem.W.isFn K (.ref f)=true
def RB (r:Row):Prop:=FnScope r.N r.ps (lQ r.st)/\∀(kV doc pm:Value) (an:Option Addr) (cdv ct:Value) (us:List Value),us.length=r.ps.length->bindArgs (PySem.W.fnOf r.nm r.q (pJ r.st) (mZ r.st) (lQ r.st) .none kV doc pm an cdv ct) ⟨us,[]⟩=pure (r.ps.zip us)
structure FI (K:PySem.W.Frag)(mg:Str->Option Value)(k:Option Str)(nm q:Str)(st:Stmt)(ps N:List Str)(f:Addr)(d:FuncData):Prop where
 m:k=none->mg nm=some (.ref f)
 M:∀c ca,k=some c->mg c=some (.ref ca)->PySem.W.findIn K (.ref ca) nm=some (some (.ref f))/\PySem.W.isFn K (.ref f)=true
 F:Fun K nm q st f d
 s:FnScope N ps (lQ st)
 b:Binds K d ps []
section
variable {P:List Value->Prop}
theorem args1 (h:∀a,P [a]):∀us:List Value,us.length=1->P us
 |[a],_=>h a
theorem args2 (h:∀a b,P [a,b]):∀us:List Value,us.length=2->P us
 |[a,b],_=>h a b
theorem args3 (h:∀a b c,P [a,b,c]):∀us:List Value,us.length=3->P us
 |[a,b,c],_=>h a b c
theorem args4 (h:∀a b c d,P [a,b,c,d]):∀us:List Value,us.length=4->P us
 |[a,b,c,d],_=>h a b c d
end
theorem fi_one {K:PySem.W.Frag}{h:Heap}{mg:Str->Option Value}(X:K.In h)(G:h.Ns mainGlobals mg){r:Row}(x:FH K r)(y:RB r):∃f d,FI K mg r.k r.nm r.q r.st r.ps r.N f d:=by
 obtain⟨k,nm,q,st,ps,N⟩:=r;obtain⟨y1,y2⟩:=y
 cases k with
 |none =>
  obtain⟨f,oc,od,kV,dc,pm,an,cd,ct,sl,h1,h2,h3,h4⟩:=x;exact⟨f,_,⟨fun _=>PySem.W.mg_of X G h1,fun _ _ e=>(nomatch e),xF h2 h3 h4,y1,Fun.binds (xF h2 h3 h4) y2⟩⟩
 |some c =>
  obtain⟨cc,f,oc,od,kV,dc,pm,an,cd,ct,sl,h0,h1,h2,h3,h4,h5⟩:=x;refine⟨f,_,⟨fun e=>(nomatch e),fun c' ca e e'=>?_,xF h2 h3 h4,y1,Fun.binds (xF h2 h3 h4) y2⟩⟩;cases e;have:=(PySem.W.mg_of X G h0).symm.trans e';cases this;exact⟨h1,h5⟩
theorem fi_all {K:PySem.W.Frag}{h:Heap}{mg:Str->Option Value}(X:K.In h)(G:h.Ns mainGlobals mg):∀{t:List Row},AllR (FH K) t->AllR RB t->∃(f:Nat->Addr) (d:Nat->FuncData),∀(i:Nat) {k:Option Str}{nm q:Str}{st:Stmt}{ps N:List Str},t[i]?=some ⟨k,nm,q,st,ps,N⟩->FI K mg k nm q st ps N (f i) (d i)
 |[],_,_=>⟨fun _=>mainGlobals,fun _=>PySem.W.fnOf "" "" (pJ (.Pass ⟨0,0,0,0⟩)) [] (lQ (.Pass ⟨0,0,0,0⟩)) .none .none .none .none none .none .none,fun i _ _ _ _ _ _ e=>by simp at e⟩
 |r::t,x,y=>by
  obtain⟨f0,d0,h0⟩:=fi_one X G x.1 y.1;obtain⟨f,d,h⟩:=fi_all X G x.2 y.2;refine⟨fun i=>match i with | 0=>f0 | i+1=>f i,fun i=>match i with | 0=>d0 | i+1=>d i,fun i=>?_⟩
  cases i with
  |zero=>intro k nm q st ps N e; cases e; exact h0
  |succ i=>intro k nm q st ps N e; exact h i e
section
variable {P:Program}{w:World}{K:PySem.W.Frag}{mg:Str->Option Value}{base:Heap}
theorem FI.ok {kk:Option Str}{x qual:Str}{st:Stmt}{f:Addr}{fd:FuncData}{N ps:List Str}{k:Nat}{G:GC}(F:FI K mg kk x qual st ps N f fd)(len:∀ts C R,G ts C R->ts.length=ps.length)
  (hbody:∀(cdv:Value) (A:Around) (outer:List Env) (s:Shared) (H:Hp) (E:XK),Room k (A.deeper (envOfC qual (lQ st) s.heap.objs.size f cdv)) ->
   ∃c,CB (vF CX0 P w K mg base N qual (lQ st) f cdv A outer s H E).nox (mZ st) c/\∀ts C R,G ts C R->c { nx:=fun _ C'=>R .non C',rt:=R } (iG N ts) C):FnOk P w K mg base CX0 (k+1) f fd ps (spC K G):=Fun.okC F.F F.s len hbody
end
section
variable {X:Cx}{e o:Expr}{es:List Expr}{pos:Pos}
theorem cf {k:Nat}{f:Addr}{fd:FuncData}{ps N:List Str}{G:GC}{x q:Str}{st:Stmt}{p:Pos}{ca:TCA}(T:FI X.K X.mg none x q st ps N f fd)(F:FnOk X.prog X.w X.K X.mg X.base CX0 k f fd ps (spC X.K G))(hr:Room k X.A)
  (ha:CA X (e::es) ca) (hg:Gl X x:=by rfl) (hdb:(x==("__debug__" : Str))=false:=by decide) (hs:cQ e=true:=by rfl) (hall:es.all cQ=true:=by rfl):CE X (.Call (.Name x p) (e::es) [] pos) (eU G ca) :=
 ce_call F hr hg (T.m rfl) T.F.kp T.b pass0 ha hdb hs hall
theorem cx {a b:Expr}{ca cb:TCE}(ha:CE X a ca)(hb:CE X b cb)(hs:nG b:=by exact fun _ _=>rfl):CE X (.Subscript a b pos) (cOp cIx ca cb):=ce_ix (r:=rIx X.K) ix_seqC cop_ix ha hb hs
theorem ca1 {ca:TCE}(ha:CE X e ca)(hs:cQ e=true:=by rfl):CA X [e] (bV ca xP):=qQ ha oZ hs
theorem cs1 (i:Nat){x:Str}{pos':Pos}{ce:TCE}(hN:X.N.Nodup)(he:CE X e ce)(hi:X.N[i]?=some x:=by rfl)(hx:Loc X.env.scope x:=by first | exact Or.inl rfl | exact Or.inr rfl)(hs:swapsWith e (some (.Name x pos')) pos.line X.env=pure false:=by rfl)(hf:X.fn x=true\/X.env.scope.names.lookup x=some .local:=by first | exact .inl rfl | exact .inr rfl | assumption):
  CS X (.Assign [.Name x pos'] e pos) (cSet i ce):=cs_set hN hi hx he hs hf
theorem cg1 (i:Nat){x:Str}(hN:X.N.Nodup)(hi:X.N[i]?=some x:=by rfl)(hx:Loc X.env.scope x:=by first | exact Or.inl rfl | exact Or.inr rfl)(hf:X.fn x=true\/X.env.scope.names.lookup x=some .local:=by first | exact .inl rfl | exact .inr rfl | assumption):CG X (.Name x pos) (tE i):=cg_name hN hi hx hf
theorem cln {p:Pos}{ca:TCE}(hm:X.mg "len" = none)(ha:CE X e ca)(hg:Gl X "len":=by rfl)(hs:cQ e=true:=by rfl):CE X (.Call (.Name "len" p) [e] [] pos) (eU gB (bV ca xP)):=tX yS cbi_len hg hm rfl (ca1 ha hs) (hs:=hs)
theorem ctp {p:Pos}{ca:TCE}(hm:X.mg "tuple" = none)(ha:CE X e ca)(hg:Gl X "tuple":=by rfl)(hs:cQ e=true:=by rfl):CE X (.Call (.Name "tuple" p) [e] [] pos) (eU lY (bV ca xP)):=kJ uB cbi_tup hg hm rfl (ca1 ha hs) (hs:=hs)
theorem cap {apos cpos:Pos}{co ca:TCE}(ho:CE X o co)(ha:CE X e ca)
  (hbase:attributeBase o "append" X.env (eval o X.env)=eval o X.env:=by rfl)
  (hfew:((backTo cpos (starEach [e] X.env)).all (fun x=>!x.1)&&(backToKw cpos (keywordEach [] X.env)).all (fun x=>x.1.isSome)
   && decide ([e].length+([]:List Keyword).length+(if ([]:List Keyword).isEmpty then 0 else 1) < 30))=true:=by rfl)
  (hline:(apos.endLine==cpos.line)=true:=by rfl) (hs:cQ e=true:=by rfl):CE X (.Call (.Attribute o "append" apos) [e] [] cpos) (cBM nK co (bV ca xP)) :=
 ce_bm PySem.F.plainAttrs_list PySem.F.slot_list_append PySem.F.type_list_append nB bH ho (ca1 ha hs) hbase hfew hline hs
theorem ct2 {a b:Expr}{op:CmpOp}{r:R2}{cr:R2C}{ca cb:TCE}(ho:OpR X (compareOp op) r)(hr:Cop X.K r cr)(ha:CE X a ca)(hb:CE X b cb)(hm:behindInMarks op b=false:=by exact uK _):CT X (.Compare a [op] [b] pos) (zP (cOp cr ca cb)):=eE ho hr ha hb hm
end
end CL
namespace L2
open PySem
theorem FnScope.c {N ps:List Str}{sc:Scope}{x:Str}(S:FnScope N ps sc)(h:N.contains x=false):(x::N).Nodup:=by
 refine List.nodup_cons.2 ⟨fun m=>?_,S.nd⟩;rw[List.contains_iff_mem.2 m] at h;cases h
theorem FnScope.k {X:Cx}{xs:List Str}{scope sc:Scope}{N ps:List Str}{L:Nat}(S:FnScope N ps sc)(hN:X.N=N)(hsc:X.env.scope=sc)(hce:X.env.cells=cellsFrom L sc.names [])(h:lU xs scope N sc=true):∃cl,zJ X xs scope cl:=eW hN hsc hce h
end L2
namespace L2
open PySem PySem.W PyProof.Rows
def SSAt (H:Hp)(v:V)(c:Str×Str):Prop:=∃a,v=.ref a/\H a=some (.tup [.str c.1,.str c.2])
def ltSS (x y:Str×Str):Bool:=HT.lexS [x.1,x.2] [y.1,y.2]
theorem pP {X:Cx}{pins:List (Addr×Obj)}{σ:St}{H:Hp}{s:Shared}{v:V}{u:Value}{c:Str×Str}(I:Inv X pins σ H s)(h:SSAt H v c)(r:RelV v u):
  ∃a o n t t',u=.ref a/\s.heap.get? a=some o/\o.cls=.type "tuple"/\o.data=.seq #[.str c.1 t',.str c.2 t] n:=by
 obtain⟨a,rfl,h1⟩:=h;cases (show u=Value.ref a from r);obtain⟨_,its,rv,o,e1,e2,⟨n,e3⟩,_⟩:=(show ObjOk X.prog X.w H s.heap a (.tup [.str c.1,.str c.2]) from I.hok a _ h1);obtain⟨u1,u2,rfl,r1,r2⟩:=sS rv;obtain⟨t',rfl⟩:=r1;obtain⟨t,rfl⟩:=r2;exact⟨a,o,n,t,t',rfl,e1,e2,e3⟩
theorem srt_ss {X:Cx}{H:Hp}{ys:List V}(cs:Nat->Str×Str)(hy:∀i,i < ys.length->SSAt H (ys.getD i .non) (cs i)):Srt X H ys (fun i j=>ltSS (cs i) (cs j)):=by
 intro pins σ s its A hA I r
 have all:∀v∈ys,∃c,SSAt H v c:=fun v hv=>by
  obtain⟨i,hi,e⟩:=List.getElem_of_mem hv;have q:=hy i hi;have eg:ys.getD i .non=v:=by simp[List.getD,hi,e]
  rw[eg] at q;exact⟨_,q⟩
 have tups:∀{ys:List V} {its:List Value},Vals ys its->(∀v∈ys,∃c,SSAt H v c)->∃fs,KatTups s.heap its fs/\fs.length=its.length/\∀f∈fs,Looks (model X.prog X.w) s.heap (typeOf f) (.type "str"):=by
  intro ys its r
  induction r with
  |nil=>exact fun _=>⟨[],.nil,rfl,fun f hf=>nomatch hf⟩
  |@cons y u ys its ry _ ih =>
   intro hall;obtain⟨fs,k1,k2,k3⟩:=ih fun v hv=>hall v (List.mem_cons_of_mem _ hv);obtain⟨c,hc⟩:=hall y List.mem_cons_self;obtain⟨a,o,n,t,t',rfl,e1,e2,e3⟩:=pP I hc ry;refine⟨.str c.1 t'::fs,.cons e1 e2 e3 rfl k1,by rw[List.length_cons,List.length_cons,k2],fun f hf=>?_⟩
   rcases List.mem_cons.mp hf with rfl | hf
   .exact .now
   .exact k3 f hf
 have hlen:=r.length;refine⟨tuples' true,fun h2 Q hq=>?_,fun i j hi hj Q hq=>?_⟩
 .obtain ⟨fs,k1,k2,k3⟩:=tups r all
  exact kat_kind (T:=.type "str") k1 (by omega) k3 rfl hq
 .have hq:Q (ltSS (cs i) (cs j)) s:=hq
  obtain⟨a,oa,na,ta,ta',ea,a1,a2,a3⟩:=pP I (hy i hi) (tJ r i);obtain⟨b,ob,nb,tb,tb',eb,b1,b2,b3⟩:=pP I (hy j hj) (tJ r j);rw[ea,eb];refine kat_lt a1 a3 b1 b3 ?_;refine kat_cons (wpAny_eqBool_str ?_);unfold ltSS at hq;rw[HT.lexS_cons] at hq
  by_cases hk:(cs i).1=(cs j).1
  .rw [decide_eq_true hk]
   rw[if_pos hk,HT.lexS_cons] at hq;refine kat_yes (kat_cons (wpAny_eqBool_str ?_))
   by_cases hn:(cs i).2=(cs j).2
   .rw [decide_eq_true hn]
    rw[if_pos hn] at hq;exact kat_yes (kat_nil hq)
   .rw [decide_eq_false hn]
    rw[if_neg hn] at hq;exact kat_no (kat_one _ _ (PyProof.Rows.lt_str hq))
  .rw [decide_eq_false hk]
   rw[if_neg hk] at hq;exact kat_no (kas_lt_str hq)
end L2
namespace PySem.W
open PySem PySem.Calls PyProof.Rows PyProof.V PySem.Spec
theorem kdl_raw {prog:Program}{w:World}{d:Addr}{es:Array DictEntry}{ep:Nat}(lo:(d==sysModules)=false):KdlSrc prog w "dict" d d es.size (fun i v=>∃e,es[i]?=some e/\v=e.key) (fun h=>RawD h d es ep) where
 type:=fun _ hm=>RawD.ty hm
 there:=fun _ hm=>let ⟨_,e,_⟩:=hm; ⟨Heap.lt_size e,Heap.lt_size e⟩
 keep:=fun _ _ hm hk=>hm.at fun o e=>hk d (.inl rfl) o e
 notList:=by decide
 notTuple:=by decide
 hint:=fun _ _ _ _ hm hq=>kdl_hint_dict (RawD.ty hm) hq
 iter:=fun A s hh hm=>by
  have hdI:d≠s.heap.objs.size:=let ⟨_,e,_⟩:=hm; Nat.ne_of_lt (Heap.lt_size e)
  refine⟨_,fun i h=>h.IsKeyIter s.heap.objs.size d i es.size ep/\RawD h d es ep,(fun _ _ hq=>oC lo hm hq),?_,⟨_,Heap.get?_push_size _ rfl,rfl,rfl⟩,hm.at fun o e=>Heap.get?_push_of_some _ e⟩;refine⟨fun b hb=>by simp_all,fun i h h' ⟨k,r⟩ hk=>⟨let ⟨o,e,x⟩:=k; ⟨o,hk _ (by simp) o e,x⟩,r.at fun o e=>hk d (by simp) o e⟩,?_,?_,fun i s Q E ⟨k,_⟩ h=>wpAny_pyIter_keyiter k h⟩
  .rintro i s' Q E hi ⟨k,r⟩ hQ
   refine sC k r (Array.getElem?_eq_getElem hi) fun h' k' sb=>?_;exact hQ _ h' s'.toks ⟨_,Array.getElem?_eq_getElem hi,rfl⟩ ⟨k',r.at fun o e=>(sb.2 d hdI).trans e⟩ fun b o hb e=>(sb.2 b (by simpa using hb)).trans e
  .rintro s' Q E ⟨k,r⟩ hQ
   exact yT hh k r (Nat.le_refl _) fun h' eb=>hQ h' s'.toks fun b o hb e=>eb b o (by simpa using hb) e
end PySem.W
namespace L2
open PySem PySem.W PyProof.Rows
section
variable {X:Cx}
theorem pF (hc:X.calm=true):CallR X (.builtin "sorted") (fun xs H Q=>∃d kvs lt,xs=[.ref d]/\H d=some (.dT kvs)/\kvs.length < 64 /\
  ∀as:List Addr,Paired (fun(p:List Key×V) (b:Addr)=>H b=some (.tup (p.1.map kV))) kvs as->Srt X H (as.map V.ref) lt/\∀p,H p=none->Q (.ref p) (upd H p (.lst (uY lt (as.map V.ref))))):=by
 intro pins s σ H xs us Q I r h;obtain⟨d,kvs,lt,rfl,hd,h64,hq⟩:=h;obtain⟨u,rfl,ru⟩:=r.one;cases ru;obtain⟨z,hS,ys,rel,o,es,ep,g1,g2,g3,g4,g5⟩:=(show ObjOk X.prog X.w H s.heap d (.dT kvs) from I.hok d _ hd);have hl:es.size=kvs.length:=by rw[<- Array.length_toList,g4,List.length_map,<- Paired.length rel]
 refine Calls.call_function_entry kind_sorted plain_sorted entry_sorted (args_sorted1 _) (?_:wpAny _ _ (Builtin.«sorted» _) _ _ _);unfold Builtin.«sorted»;refine wpAny_bind (m:=checkCount "sorted" 1 1 _) (wpAny_pure (wpAny_bind (kdu_collect (kdl_raw hS) (by simp[I.ok.hd hc]) ⟨o,g1,g2,g3⟩ (by rw[hl]; exact z) fun h' tk acc keep G=>?_)))
 have pr:∀{kvs:List (List Key×V)} {ys:List (List Key×Addr×Value)},Paired (fun(p:List Key×V) (q:List Key×Addr×Value)=>p.1=q.1/\H q.2.1=some (.tup (p.1.map kV))/\RelV p.2 q.2.2) kvs ys->Paired (fun(p:List Key×V) (b:Addr)=>H b=some (.tup (p.1.map kV))) kvs (ys.map (·.2.1)):=by
  intro kvs ys r
  induction r with
  |nil=>exact .nil
  |cons h _ ih=>exact .cons h.2.1 ih
 obtain⟨hs,q⟩:=hq _ (pr rel)
 have ea:acc.toList=(ys.map (·.2.1)).map Value.ref:=by
  apply List.ext_getElem?
  intro i;rw[List.getElem?_map,List.getElem?_map]
  rcases Nat.lt_or_ge i acc.size with hi | hi
  .obtain ⟨e,e1,e2⟩:=G.2 i _ (Array.getElem?_eq_getElem hi)
   rw[<- Array.getElem?_toList,g4,List.getElem?_map] at e1;obtain⟨y,y1,y2⟩:=Option.map_eq_some_iff.mp e1;rw[Array.getElem?_toList,Array.getElem?_eq_getElem hi,e2,y1,<- y2]
   rfl
  .have h2:ys.length<=i:=by rw[<- Paired.length rel,<- hl,<- G.1]; exact hi
   rw[Array.getElem?_toList,Array.getElem?_eq_none hi,List.getElem?_eq_none h2]
   rfl
 have rv:Vals ((ys.map (·.2.1)).map V.ref) acc.toList:=by
  rw[ea];generalize ys.map (·.2.1)=as
  induction as with
  |nil=>exact .nil
  |cons a as ih=>exact .cons rfl ih
 exact wD (Nat.le_refl _) (I.kept (t':=tk) keep) rv (by rw[List.length_map,List.length_map,<- Paired.length rel]; exact h64) hs fun p s' hp I'=>⟨_,rfl,.ref p,_,I',rfl,q p hp⟩
end
end L2
namespace PySem.W
open PySem PySem.Calls PyProof.Rows PyProof.V PySem.Spec
section
variable {prog:Program}{w:World}{A:Around}{E:Value->Shared->Prop}{s:Shared}
theorem aC {d:Addr}:MeetsIn prog w (Builtin.«dict.clear» ⟨[.ref d],[]⟩) (fun _ R s=>∃es ep,RawD s.heap d es ep/\es.size<=sizeLine /\
   ∀h',RawD h' d #[] (ep+1)->Heap.SameBut d s.heap h'->R (.ok (.ret .none)) { s with heap:=h' }) :=
 .of_wp fun A R s ⟨es,ep,hm,hes,h⟩=>by
  have hT:=RawD.ty hm;obtain⟨o,ho,hc,hdat⟩:=id hm;unfold Builtin.«dict.clear»;refine wpAny_bind ?_;unfold Builtin.Dict.noArgs;refine wpAny_bind (wpAny_notOrdered_dict hT ?_);show wpAny _ _ (pure d) _ _ s;refine wpAny_pure ?_;refine wpAny_bind (wpAny_dictEntries ho hdat ?_);refine wpAny_bind ?_;unfold bearsInstanceDictMark;refine wpAny_bind (wpAny_load ho (wpAny_pure ?_));refine wpAny_bind (wpAny_updateDictKeys (hz:=hes) ho hdat ?_)
  have hnew:RawD (s.heap.update d (Obj.mapDictKeys fun _=>#[])) d #[] (ep+1) :=
   ⟨_,Heap.get?_update_self _ ho (Obj.isFreed_of_dict (Obj.data_mapDictKeys hdat _)),hc.mapDictKeys _,Obj.data_mapDictKeys hdat _⟩
  split
  .exact wpAny_bind (wpAny_letGo (wpAny_pure ⟨.none,rfl,h _ hnew (Heap.SameBut.update ..)⟩))
  .exact wpAny_bind (wpAny_pure (wpAny_pure ⟨.none,rfl,h _ hnew (Heap.SameBut.update ..)⟩))
theorem eC {nm:String}{o:Addr}{es:Array DictEntry}{ep:Nat}{Q:Array DictEntry->Shared->Prop}(ho:RawD s.heap o es ep)(hk:∀e∈es.toList,∃b,e.key=.ref b/\s.TypeIs (.ref b) "tuple")(hh:(es.toList.map (·.hash)).Nodup)
  (h:Q es s):wpAny (model prog w) A (Builtin.Dict.entriesForEmpty nm o) Q E s:=by
 obtain⟨ob,ho,hc,hdat⟩:=ho;unfold Builtin.Dict.entriesForEmpty;refine wpAny_bind (wpAny_dictEntries ho hdat ?_);refine wpAny_bind ?_;rw[<- Array.forIn_toList];refine wpAny_forIn_list _ (fun rest r s'=>s'=s/\r=()/\∀e∈rest,e∈es.toList) _ ?_ ?_ _ _ ⟨rfl,rfl,fun _ h=>h⟩
 .rintro e rest r s' ⟨rfl,rfl,hr⟩
  obtain⟨b,eb,hb⟩:=hk e (hr e List.mem_cons_self)
  have hs:¬ (es.filter fun x=>x.hash==e.hash).size > 1:=by
   rw[<- Array.length_toList,Array.toList_filter];have hm:=hr e List.mem_cons_self;clear hdat ho hk hr;generalize es.toList=l at hh hm
   induction l with
   |nil=>simp
   |cons y l ih =>
    rw[List.map_cons,List.nodup_cons] at hh;rw[List.filter_cons]
    rcases List.mem_cons.mp hm with e1 | hm
    .subst e1
     have z:l.filter (fun x=>x.hash==e.hash)=[]:=List.filter_eq_nil_iff.mpr fun x hx q=>hh.1 (List.mem_map.mpr ⟨x,hx,eq_of_beq q⟩);rw[z]
     split<;>simp
    .have z:(y.hash==e.hash)=false:=beq_false_of_ne fun q=>hh.1 (List.mem_map.mpr ⟨e,hm,q.symm⟩)
     rw[z];exact ih hh.2 hm
  refine wpAny_bind (?_:wpAny _ _ (Builtin.Dict.quietEq e.key) _ _ _);rw[eb];refine wpAny_bind (wpAny_specialOf hb F.slot_tuple_eq.lookup (wpAny_pure ?_));show wpAny _ _ (if (!(some (Value.builtin "tuple.__eq__")==some (Value.builtin "object.__eq__")))=true then _ else _) _ _ _;rw[if_pos (by decide)];rw[if_neg hs];exact wpAny_pure ⟨rfl,rfl,fun e' he=>hr e' (List.mem_cons_of_mem _ he)⟩
 .rintro r s' ⟨rfl,rfl,_⟩
  exact wpAny_pure h
theorem uT {o:Addr}{es:Array DictEntry}{ep:Nat}{Q:Value->Shared->Prop}(hoS:(o==sysModules)=false)(ho:RawD s.heap o es ep)(hz:es.size<=sizeLine)(hk:∀e∈es.toList,∃b,e.key=.ref b/\s.TypeIs (.ref b) "tuple")(hh:(es.toList.map (·.hash)).Nodup)
  (h:∀h' ep',RawD h' s.heap.objs.size es ep'->Heap.SameBut s.heap.objs.size (s.heap.push { cls:=.type "dict",data:=.dict #[] }) h'->Q (.ref s.heap.objs.size) { s with heap:=h' }) :
  wpAny (model prog w) A (call (.type "dict") [.ref o]) Q E s:=by
 refine callType_codes (Q₁:=fun obj s₁=>obj=.ref s.heap.objs.size/\s₁={ s with heap:=s.heap.push { cls:=.type "dict",data:=.dict #[] } }) F.kt_called_dict (F.kt_typeCall_dict_1 _) F.entry_dict_init (kt_code_dict_new _ ⟨rfl,rfl⟩) ?_;rintro obj s₁ ⟨rfl,rfl⟩;have hnew:RawD (s.heap.push { cls:=.type "dict",data:=.dict #[] }) s.heap.objs.size #[] 0:=⟨_,Heap.get?_push_size _ rfl,⟨rfl,rfl,rfl⟩,rfl⟩;have ho':RawD (s.heap.push { cls:=.type "dict",data:=.dict #[] }) o es ep:=ho.at fun o e=>Heap.get?_push_of_some _ e
 have hdo:s.heap.objs.size≠o:=by
  obtain⟨_,hg,_⟩:=ho;exact fun e=>absurd (Heap.lt_size hg) (by rw[e]; exact Nat.lt_irrefl _)
 have tn:Shared.TypeIs { s with heap:=s.heap.push { cls:=.type "dict",data:=.dict #[] } } (.ref s.heap.objs.size) "dict":=RawD.ty hnew;have to':Shared.TypeIs { s with heap:=s.heap.push { cls:=.type "dict",data:=.dict #[] } } (.ref o) "dict":=RawD.ty ho';refine⟨tn,F.args_dict_init_2 _ _,?_⟩;unfold Builtin.«dict.__init__»;refine wpAny_bind ?_;unfold Builtin.Dict.selfAndRest;refine wpAny_bind (wpAny_notOrdered_dict tn ?_)
 show wpAny _ _ (pure (s.heap.objs.size,[Value.ref o])) _ _ _;refine wpAny_pure ?_;show wpAny _ _ (Builtin.Dict.updateFrom "dict.__init__" s.heap.objs.size (.ref o) [] .none) _ _ _;unfold Builtin.Dict.updateFrom;refine wpAny_bind (wpAny_typeOf to' ?_);rw[if_neg (by decide)];refine wpAny_bind ?_;unfold Builtin.Dict.merge;refine wpAny_bind ?_;unfold Builtin.Dict.readDirectly;refine wpAny_bind (wpAny_isInstance to' isSubtype_dict_dict ?_)
 simp only[Bool.not_true,Bool.false_eq_true,if_false]
 refine wpAny_bind (wpAny_specialOf to' F.slot_dict_iter.lookup (wpAny_pure ?_))
 simp only[beq_self_eq_true,if_true]
 refine wpAny_bind (wpAny_pure ?_);unfold Builtin.Dict.mergeDict;rw[if_neg (by simpa using hdo)];unfold Builtin.Dict.showsAll;rw[if_neg (by rw[hoS]; exact Bool.false_ne_true)];refine wpAny_bind (wpAny_pure ?_);obtain⟨oo,hoo,hco,hdo'⟩:=id ho';refine wpAny_bind (wpAny_dictEntries hoo hdo' ?_)
 by_cases hE:es = #[]
 .subst hE
  dsimp only;rw[if_neg (by simp)];refine wpAny_bind (wpAny_dictEpoch hoo hdo' (wpAny_bind (wpAny_dictEntries hoo hdo' (wpAny_bind ?_))));rw[Std.Legacy.Range.forIn_eq_forIn_range'];show wpAny _ _ (forIn ([]:List Nat) _ _) _ _ _;rw[List.forIn_nil];refine wpAny_pure (wpAny_pure ?_);show wpAny _ _ (Builtin.Dict.addKeywords s.heap.objs.size [] >>= _) _ _ _;exact wpAny_bind (wpAny_pure (wpAny_pure ⟨rfl,h _ 0 hnew (Heap.SameBut.refl _ _)⟩))
 .have h0:0 < es.size:=Nat.pos_of_ne_zero fun z=>hE (Array.eq_empty_of_size_eq_zero z)
  have hf:(decide (es.size<=8)&&es.all fun e=>(keyPart e.key).isSome)=false:=by
   rw[Bool.and_eq_false_iff];refine .inr ?_;rw[<- Array.all_toList,List.all_eq_false];obtain⟨b,e1,_⟩:=hk es[0] (Array.getElem_mem_toList h0);exact⟨es[0],Array.getElem_mem_toList h0,by rw[e1]; exact Bool.false_ne_true⟩
  rw[hf];dsimp only;rw[if_pos (show(!false)=true from rfl)];obtain⟨on,hn0,hn1,hn2⟩:=id hnew;refine wpAny_bind (wpAny_dictEntries hn0 hn2 ?_);rw[if_pos (show(#[]:Array DictEntry).isEmpty=true from rfl)]
  have hk':∀e∈es.toList,∃b,e.key=.ref b/\Shared.TypeIs { s with heap:=s.heap.push { cls:=.type "dict",data:=.dict #[] } } (.ref b) "tuple":=fun e m=>by
   obtain⟨b,e1,o',e2,e3⟩:=hk e m;exact⟨b,e1,o',Heap.get?_push_of_some _ e2,e3⟩
  refine wpAny_bind (eC ho' hk' hh ?_);rw[if_pos (by simpa [Array.isEmpty_iff] using hE)];refine wpAny_bind (wpAny_updateDictKeysTo hn0 hn2 ?_ (Nat.le_succ_of_le hz));refine wpAny_pure ?_;show wpAny _ _ (Builtin.Dict.addKeywords s.heap.objs.size [] >>= _) _ _ _;refine wpAny_bind (wpAny_pure (wpAny_pure ⟨rfl,h _ _ ⟨_,Heap.get?_update_self _ hn0 (Obj.isFreed_of_dict (Obj.data_mapDictKeys hn2 _)),hn1.mapDictKeys _,Obj.data_mapDictKeys hn2 _⟩ (Heap.SameBut.update ..)⟩))
theorem nC {K:Type}[DecidableEq K]{knd:HeapKind prog w K}{nm:String}{a b:Addr}{xs ys:List (K×Addr×Value)}{Q:Bool->Shared->Prop}(hu:knd.room A)(ha:(a==sysModules)=false)(hb:(b==sysModules)=false)
  (da:s.heap.DictOfH knd a xs) (db:s.heap.DictOfH knd b ys) (hl:xs.length=ys.length) (hits:∀x∈xs,∃(j:Nat) (p:Addr×Value),ys[j]?=some (x.1,p)/\SeqAt.EqAt A s x.2.2 p.2 true) (h:Q true s) :
  wpAny (model prog w) A (Builtin.Dict.samePairs nm a b) Q E s:=by
 obtain⟨oa,es,ep,hoa,_,hda,hea,hia,hna⟩:=da;obtain⟨ob,es',ep',hob,_,hdb,heb,hib,hnb⟩:=db;have sa:es.size=xs.length:=size_of_entries hea;have sb:es'.size=ys.length:=size_of_entries heb;unfold Builtin.Dict.samePairs Builtin.Dict.showsAll;rw[if_neg (show ¬ (a==sysModules)=true by rw[ha]; exact Bool.false_ne_true),if_neg (show ¬ (b==sysModules)=true by rw[hb]; exact Bool.false_ne_true)];refine wpAny_bind (wpAny_pure (wpAny_bind (wpAny_pure ?_)))
 refine wpAny_bind (wpAny_dictEntries hoa hda ?_);dsimp only;refine wpAny_bind (wpAny_dictEntries hob hdb ?_);have hsz:es.size=es'.size:=by rw[sa,sb,hl]
 rw[if_neg (by rw[hsz]; simp)];refine wpAny_bind (wpAny_dictEpoch hoa hda ?_);refine wpAny_bind ?_;rw[Std.Legacy.Range.forIn_eq_forIn_range']
 simp only[Std.Legacy.Range.size,Nat.sub_zero,Nat.add_sub_cancel,Nat.div_one]
 refine wpAny_forIn_list _ (fun rest q s'=>s'=s/\q=(none,())/\∀i∈rest,i < es.size) _ ?_ ?_ _ _ ⟨rfl,rfl,fun i hi=>by rw[List.mem_range'_1] at hi; omega⟩
 .rintro x rest q s' ⟨rfl,rfl,hr⟩
  have hlt:=hr x List.mem_cons_self;have hx:xs[x]?=some xs[x]:=List.getElem?_eq_getElem (by omega)
  have he:es[x]=entryOfKey knd (xs[x]'(by omega)):=by
   have:=entry_at hea x;rw[hx,Array.getElem?_eq_getElem hlt] at this;exact Option.some.inj this
  refine wpAny_bind (wpAny_dictEntries hoa hda ?_);rw[Array.getElem?_eq_getElem hlt];have mx:(xs[x]'(by omega))∈xs:=List.getElem_mem _;obtain⟨j,p,hj,heq⟩:=hits _ mx;show wpAny _ _ (holding [es[x].key,es[x].val] _ >>= _) _ _ _;rw[he]
  have atj:∀(j':Nat) (p':Addr×Value),ys[j']?=some ((xs[x]'(by omega)).1,p')->j'=j:=fun j' p' h'=>by
   have hj1:j < ys.length:=(List.getElem?_eq_some_iff.1 hj).1;have hj2:j' < ys.length:=(List.getElem?_eq_some_iff.1 h').1;refine(List.getElem_inj (h₀:=by rw[List.length_map]; exact hj2) (h₁:=by rw[List.length_map]; exact hj1) hnb).1 ?_;rw[List.getElem_map,List.getElem_map,(List.getElem?_eq_some_iff.1 h').2,(List.getElem?_eq_some_iff.1 hj).2]
  refine wpAny_bind (wpAny_holding (wpAny_bind (wpAny_dictFind_heap hu (hia _ mx) hob hdb heb hib hnb (fun z=>absurd hj (z j p)) fun j' p' h'=>?_)));have ej:=atj j' p' h';subst ej;have ejs:es'[j']?=some (entryOfKey knd ((xs[x]'(by omega)).1,p)):=by rw[entry_at heb,hj]; rfl
  refine wpAny_bind (wpAny_dictEntries hob hdb ?_);rw[ejs];refine wpAny_holding (heq prog w _ _ ?_);show wpAny _ _ (if (!true)=true then _ else _) _ _ _;rw[if_neg (by decide)];refine wpAny_bind (wpAny_dictEpoch hoa hda ?_);rw[if_neg (by simp)];exact wpAny_pure ⟨rfl,rfl,fun i hi=>hr i (List.mem_cons_of_mem _ hi)⟩
 .rintro q s' ⟨rfl,rfl,_⟩
  exact wpAny_pure h
theorem ne_heap {K:Type}[DecidableEq K]{knd:HeapKind prog w K}{a b:Addr}{xs ys:List (K×Addr×Value)}{Q:Value->Shared->Prop}(hr:knd.room A.in1)(hu:A.units < cLine)(ha:(a==sysModules)=false)(hb:(b==sysModules)=false)
  (da:s.heap.DictOfH knd a xs) (db:s.heap.DictOfH knd b ys) (hl:xs.length=ys.length) (hits:∀x∈xs,∃(j:Nat) (p:Addr×Value),ys[j]?=some (x.1,p)/\SeqAt.EqAt A.in1 s x.2.2 p.2 true) (h:Q (.bool false) s) :
  wpAny (model prog w) A (compareOp .NotEq (.ref a) (.ref b)) Q E s:=by
 refine wpAny_richCompare_same_room (op:=.NotEq) da.typeIs db.typeIs PySem.F.slot_dict_ne (wpAny_call_entry PySem.F.slot_dict_ne da.typeIs PySem.F.entry_dict_ne ?_ (PySem.F.args_dict_ne_2 _ _)) hu;show wpAny _ _ (Builtin.Dict.dictSlotArgs "__ne__" ⟨[.ref a,.ref b],[]⟩ >>= _) _ _ s;refine wpAny_bind ?_;unfold Builtin.Dict.dictSlotArgs;refine wpAny_bind (wpAny_notOrdered_dict da.typeIs ?_);show wpAny _ _ (pure (Value.ref a,Value.ref b)) _ _ s
 refine wpAny_pure ?_;refine wpAny_bind (wpAny_isInstance (T:="dict") db.typeIs PySem.F.sub_dict_dict ?_)
 simp only[Bool.not_true,Bool.false_eq_true,if_false]
 refine wpAny_bind (wpAny_pure (wpAny_bind (wpAny_pure ?_)));refine wpAny_bind (nC hr ha hb da db hl hits ?_);refine wpAny_pure ⟨_,rfl,?_,?_⟩
 .exact fun x=>nomatch x
 .exact h
end
end PySem.W
namespace L2
open PySem PySem.W PyProof.Rows
section
variable {X:Cx}
theorem pH:CallR X (.type "dict") (fun xs H Q=>∃a kvs,xs=[.ref a]/\H a=some (.dP kvs)/\(kvs.map fun p=>gX (dQ X.prog X.w) p.1).Nodup/\∀p,H p=none->Q (.ref p) (upd H p (.dP kvs))):=by
 intro pins s σ H xs us Q I r h;obtain⟨a,kvs,rfl,ha,nd,q⟩:=h;obtain⟨u,rfl,ru⟩:=r.one;cases (show u=Value.ref a from ru);obtain⟨z,hS,ys,rel,o,es,ep,g1,g2,g3,g4,g5⟩:=(show ObjOk X.prog X.w H s.heap a (.dP kvs) from I.hok a _ ha);have hl:es.size=kvs.length:=by rw[<- Array.length_toList,g4,List.length_map,<- Paired.length rel]
 have key:∀{kvs:List (jX×V)} {ys:List (jX×Addr×Value)},Paired (fun(p:jX×V) (q:jX×Addr×Value)=>p.1=q.1/\PKey H p.1 q.2.1/\RelV p.2 q.2.2) kvs ys->kvs.map (·.1)=ys.map (·.1)/\∀y∈ys,PKey H y.1 y.2.1:=by
  intro kvs ys r
  induction r with
  |nil=>exact⟨rfl,fun _ h=>nomatch h⟩
  |cons h _ ih =>
   refine⟨by rw[List.map_cons,List.map_cons,h.1,ih.1],fun y m=>?_⟩
   rcases List.mem_cons.mp m with rfl | m
   .exact h.1▸h.2.1
   .exact ih.2 y m
 obtain⟨k1,k2⟩:=key rel;refine uT hS ⟨o,g1,g2,g3⟩ (by rw[hl]; exact z) (fun e m=>?_) ?_ fun h' ep' hm hs=>?_
 .rw [g4] at m
  obtain⟨y,my,rfl⟩:=List.mem_map.mp m;exact⟨y.2.1,rfl,(cV I.hok (k2 y my)).typeIs⟩
 .rw [g4,List.map_map]
  have:(ys.map fun y=>gX (dQ X.prog X.w) y.1)=kvs.map fun p=>gX (dQ X.prog X.w) p.1:=by
   have e:=congrArg (List.map (gX (dQ X.prog X.w))) k1;rw[List.map_map,List.map_map] at e;exact e.symm
  exact(show(ys.map fun y=>gX (dQ X.prog X.w) y.1).Nodup by rw[this]; exact nd)
 .obtain ⟨o',h1,h2,h3⟩:=hm
  refine⟨.ref s.heap.objs.size,_,I.laid (t':=s.toks) (o:=.dP kvs) (fun b o e=>hs.extBut b o (Nat.ne_of_lt (Heap.lt_size e)) (Heap.get?_push_of_some _ e)) (Nat.le_refl _) ?_,rfl,q _ (I.hok.fresh (Nat.le_refl _))⟩;refine⟨z,beq_false_of_ne (Nat.ne_of_gt I.big),ys,KPt.keeps rel fun b zs e=>?_,o',es,ep',h1,h2,h3,g4,g5⟩;rw[nQ (fun zz=>by subst zz; rw[I.hok.fresh (Nat.le_refl _)] at e; cases e)];exact e
def xN:V->List V->Hp->VK->Prop:=fun x vs H Q=>∃a kvs,x=.ref a/\vs=[]/\H a=some (.dP kvs)/\Q .non (upd H a (.dP []))
theorem bR:MtR X "dict.clear" xN:=by
 intro pins s σ H x vs v us Q I rx rv h;obtain⟨a,kvs,rfl,rfl,ha,q⟩:=h;cases (show v=Value.ref a from rx);have hus:=rv.zero;subst hus;obtain⟨z,hS,ys,rel,o,es,ep,g1,g2,g3,g4,g5⟩:=(show ObjOk X.prog X.w H s.heap a (.dP kvs) from I.hok a _ ha);have hl:es.size=kvs.length:=by rw[<- Array.length_toList,g4,List.length_map,<- Paired.length rel]
 refine call_meetsIn PySem.F.slot_dict_clear (kF I ha) PySem.F.entry_dict_clear (PySem.F.args_dict_clear_1 _) aC ⟨es,ep,⟨o,g1,g2,g3⟩,by rw[hl]; exact z,fun h' hm hs=>?_⟩;obtain⟨o',h1,h2,h3⟩:=hm;refine⟨.non,_,I.write (x:=a) (e:=a) (o:=.dP []) (t':=s.toks) (by rw[ha]; trivial) (.inl rfl) (fun b u hb e=>hs.extBut b u hb e) ⟨_,h1⟩ ?_,rfl,q⟩;exact⟨Nat.zero_le _,hS,[],.nil,o',#[],ep+1,h1,h2,h3,rfl,List.nodup_nil⟩
def rGetQ:V->List V->Hp->VK->Prop:=fun x vs H Q=>∃a y o,x=.ref a/\vs=[y]/\rH H a y o/\Q (o.getD .non) H
theorem mt_getQ (hu:X.A.units+2 < cLine):MtR X "dict.get" rGetQ:=by
 intro pins s σ H x vs v us Q I rx rv h;obtain⟨a,y,o,rfl,rfl,g,q⟩:=h;cases (show v=Value.ref a from rx);obtain⟨u,rfl,ru⟩:=rv.one;exact p_get1 hu I g ru fun w' s' I' r'=>⟨_,H,I',r',q⟩
def TyOk (X:Cx)(T:String)(x:V)(H:Hp):Prop:=∀(pins:List (Addr×Obj)) (σ:St) (s:Shared) (v:Value),Inv X pins σ H s->RelV x v->s.TypeIs v T/\∀a,v=.ref a->∃ob,s.heap.get? a=some ob/\ob.dict=none
theorem dp_ty {H:Hp}{a:Addr}{kvs:List (jX×V)}(e:H a=some (.dP kvs)):TyOk X "dict" (.ref a) H:=by
 intro pins σ s v I r;cases (show v=Value.ref a from r);refine⟨kF I e,fun b eb=>?_⟩;cases eb;obtain⟨_,_,_,_,o,_,_,g1,g2,_⟩:=(show ObjOk X.prog X.w H s.heap a (.dP kvs) from I.hok a _ e);exact⟨o,g1,g2.2.1⟩
variable {o e:Expr}{es:List Expr}{to:TE}{t:TA}{name:Str}{apos cpos:Pos}{T id:String}{r:V->List V->Hp->VK->Prop}
theorem pe_bmG0 (pa:PlainAttrs T)(slot:Slot T name id)(hty:typeOf (.builtin id)=pure (.type "method_descriptor"))(hm:MtR X id r)(ho:PE X o to)
  (hbase:attributeBase o name X.env (eval o X.env)=eval o X.env) (hline:(apos.endLine==cpos.line)=true):PE X (.Call (.Attribute o name apos) [] [] cpos) (fun σ H Q=>to σ H fun x H1=>TyOk X T x H1/\r x [] H1 Q):=by
 intro pins s σ H Q I h;refine wpAny_Call_method0_late hbase hline (thn (ho pins s σ H _ I h) fun v s1 ⟨x,H1,I1,r1,ty,q1⟩=>?_);obtain⟨h1,h2⟩:=ty _ _ _ _ I1 r1;exact⟨T,id,pa,slot,hty,h1,h2,Calls.callWith_builtin rfl (PySem.evalArgs_none (hm pins s1 σ H1 x [] v [] Q I1 r1 .nil q1))⟩
theorem pe_bmG (pa:PlainAttrs T)(slot:Slot T name id)(hty:typeOf (.builtin id)=pure (.type "method_descriptor"))(hm:MtR X id r)(ho:PE X o to)(ha:PA X (e::es) t)
  (hbase:attributeBase o name X.env (eval o X.env)=eval o X.env)
  (hfew:((backTo cpos (starEach (e::es) X.env)).all (fun x=>!x.1)&&(backToKw cpos (keywordEach [] X.env)).all (fun x=>x.1.isSome)
   && decide ((e::es).length+([]:List Keyword).length+(if ([]:List Keyword).isEmpty then 0 else 1) < 30))=true)
  (hline:(apos.endLine==cpos.line)=true) (hs:starEach (e::es) X.env=(false,eval e X.env)::starEach es X.env) (hplain:(backTo cpos (starEach es X.env)).any (·.1)=false) :
  PE X (.Call (.Attribute o name apos) (e::es) [] cpos) (fun σ H Q=>to σ H fun x H1=>TyOk X T x H1/\t σ H1 fun xs H2=>r x xs H2 Q):=by
 intro pins s σ H Q I h;refine wpAny_Call_method_late hbase hfew hline rfl (thn (ho pins s σ H _ I h) fun v s1 ⟨x,H1,I1,r1,ty,q1⟩=>?_);obtain⟨h1,h2⟩:=ty _ _ _ _ I1 r1;refine⟨T,id,pa,slot,hty,h1,h2,?_⟩;have hA:=ha cpos pins s1 σ H1 _ I1 q1;rw[hs] at hA ⊢;refine Calls.callWith_builtin (by show(false || (backTo cpos (starEach es X.env)).any (·.1))=false; rw[hplain]<;>rfl) (Calls.evalArgs_plain ?_)
 exact thn hA fun us s2 ⟨vs,H2,I2,r2,q2⟩=>hm pins s2 σ H2 x vs v us Q I2 r1 r2 q2
end
end L2
namespace CL
open PySem PySem.Spec L2 PySem.W
open PyProof.Rows hiding St
section
variable {X:Cx}{a b c e o i f value:Expr}{es:List Expr}{pos pos':Pos}
def isPd (x:PV)(C:CH):Prop:=∃a kvs,x=.ref a/\C a=some (.dP kvs)
theorem mN {H:Hp}{C:CH}{x:V}{t:PV}(d:isPd t C)(r:Rep X.K H x t)(h:HRel X.K H C):TyOk X "dict" x H:=by
 obtain⟨a,kvs,rfl,e⟩:=d;cases r;obtain⟨vs,ev,_⟩:=h a _ e;exact dp_ty ev
def cBMQ0 (cr:PV->List PV->CH->K1->Prop)(co:TCE):TCE:=fun ρ C Q=>co ρ C fun x C1=>isPd x C1/\cr x [] C1 Q
def cBMQ (cr:PV->List PV->CH->K1->Prop)(co:TCE)(ca:TCA):TCE:=fun ρ C Q=>co ρ C fun x C1=>isPd x C1/\ca ρ C1 fun xs C2=>cr x xs C2 Q
theorem ce_bmQ0 {name:Str}{id:String}{apos cpos:Pos}{r:V->List V->Hp->VK->Prop}{cr:PV->List PV->CH->K1->Prop}{co:TCE}(pa:PlainAttrs "dict")(slot:Slot "dict" name id)(hty:typeOf (.builtin id)=pure (.type "method_descriptor"))(hm:MtR X id r)(hr:Cmt X.K r cr)(ho:CE X o co)
  (hbase:attributeBase o name X.env (eval o X.env)=eval o X.env:=by rfl) (hline:(apos.endLine==cpos.line)=true:=by rfl):CE X (.Call (.Attribute o name apos) [] [] cpos) (cBMQ0 cr co) :=
 ⟨JE.weak ⟨pe_bmG0 pa slot hty hm ho.h.h hbase hline⟩ fun σ H Q ⟨ρ,C,R,s,h,q,f⟩ =>
  ⟨ρ,C,_,s,h,q,fun x H1 px C1 q1 rx h1 f1=>⟨mN q1.1 rx h1,hr x px [] [] H1 C1 Q R rx .nil h1 q1.2 fun v H' t C' q' r' h' f'=>f v H' t C' q' r' h' (f1.trans f')⟩⟩⟩
theorem ce_bmQ {name:Str}{id:String}{apos cpos:Pos}{r:V->List V->Hp->VK->Prop}{cr:PV->List PV->CH->K1->Prop}{co:TCE}{ca:TCA}(pa:PlainAttrs "dict")(slot:Slot "dict" name id)(hty:typeOf (.builtin id)=pure (.type "method_descriptor"))(hm:MtR X id r)(hr:Cmt X.K r cr)(ho:CE X o co)(ha:CA X (e::es) ca)
  (hbase:attributeBase o name X.env (eval o X.env)=eval o X.env:=by rfl)
  (hfew:((backTo cpos (starEach (e::es) X.env)).all (fun x=>!x.1)&&(backToKw cpos (keywordEach [] X.env)).all (fun x=>x.1.isSome)
   && decide ((e::es).length+([]:List Keyword).length+(if ([]:List Keyword).isEmpty then 0 else 1) < 30))=true:=by rfl)
  (hline:(apos.endLine==cpos.line)=true:=by rfl) (hs:cQ e=true:=by rfl) (hall:es.all cQ=true:=by rfl) :
  CE X (.Call (.Attribute o name apos) (e::es) [] cpos) (cBMQ cr co ca) :=
 ⟨JE.weak ⟨pe_bmG pa slot hty hm ho.h.h ha.h.h hbase hfew hline (jZ hs) (eJ hall)⟩ fun σ H Q ⟨ρ,C,R,s,h,q,f⟩ =>
 ⟨ρ,C,_,s,h,q,fun x H1 px C1 q1 rx h1 f1=>⟨mN q1.1 rx h1,ρ,C1,_,s.imm (f1.imm h),h1,q1.2,fun xs H2 ps C2 q2 rs h2 f2 =>
  hr x px xs ps H2 C2 Q R (rx.imm (f2.imm h1)) rs h2 q2 fun v H' t C' q' r' h' f'=>f v H' t C' q' r' h' (f1.trans (f2.trans f'))⟩⟩⟩
@[irreducible] def zC:PV->List PV->CH->K1->Prop:=fun x ts C Q=>match x,ts with
 |.ref a,[y]=>match C a,vB y with
  |some (.dP kvs),some k=>Q ((rJ kvs k).getD .non) C
  |_,_=>False
 |_,_=>False
theorem xA {K:PySem.W.Frag}:Cmt K rGetQ zC:=fun x px xs ps H C Q R rx rs h q f=>by
 unfold zC at q
 split at q
 .next a y =>
  split at q
  .next kvs k e1 e2 =>
   obtain⟨v,rfl,ry⟩:=yX rs;cases rx;obtain⟨vs,ev,r⟩:=h a _ e1;obtain⟨b,rfl,eb⟩:=lW ry e2;refine⟨a,.ref b,gJ vs k,rfl,rfl,⟨vs,k,b,ev,rfl,eb,rfl⟩,?_⟩
   rcases FP.val r k with ⟨v,t',l1,l2,rv⟩ | ⟨l1,l2⟩
   .rw [l2] at q; rw[l1]; exact f _ H _ C q rv h Fw.refl
   .rw [l2] at q; rw[l1]; exact f _ H _ C q .non h Fw.refl
  .exact q.elim
 .exact q.elim
@[irreducible] def rG:PV->List PV->CH->K1->Prop:=fun x ts C Q=>match x,ts with
 |.ref a,[]=>match C a with
  |some (.dP kvs)=>Q .non (uQ C a (.dP []))
  |_=>False
 |_,_=>False
theorem gH {K:PySem.W.Frag}:Cmt K xN rG:=fun x px xs ps H C Q R rx rs h q f=>by
 unfold rG at q
 split at q
 .next a =>
  split at q
  .next kvs e1 =>
   cases rs;cases rx;obtain⟨vs,ev,r⟩:=h a _ e1;exact⟨a,vs,rfl,rfl,ev,f .non _ .non _ q .non (h.put ev rfl ⟨[],fQ,.nil⟩) (Fw.put e1 _ _)⟩
  .exact q.elim
 .exact q.elim
def hK:Key->Int
 |.inl (some k)=>hashInt k
 |.inl none=>4238894112
 |.inr _=>0
def kU (k:jX):Int:=reduceHash (Builtin.Tuple.tupleHashOf (k.map fun ks=>reduceHash (Builtin.Tuple.tupleHashOf (ks.map hK))))
def noT:Key->Bool
 |.inr _=>false
 |_=>true
theorem jO {P:Program}{w:World}{k:jX}(h:k.all (fun ks=>ks.all noT)=true):gX (dQ P w) k=kU k:=by
 unfold gX kU
 congr 2
 refine List.map_congr_left fun ks hk=>?_;have h1:=List.all_eq_true.1 h ks hk;unfold tupleKeyHash
 congr 2
 refine List.map_congr_left fun x hx=>?_;have h2:=List.all_eq_true.1 h1 x hx
 match x,h2 with
 |.inl none,_=>rfl
 |.inl (some _),_=>rfl
@[irreducible] def lF:GC:=fun ts C Q=>match ts with
 |[.ref a]=>match C a with
  |some (.dP kvs)=>(∀p∈kvs,p.1.all (fun ks=>ks.all noT)=true)/\(kvs.map fun p=>kU p.1).Nodup/\∀p,C p=none->Q (.ref p) (uQ C p (.dP kvs))
  |_=>False
 |_=>False
theorem vS:Cbi X.K (fun xs H Q=>∃a kvs,xs=[.ref a]/\H a=some (.dP kvs)/\(kvs.map fun p=>gX (dQ X.prog X.w) p.1).Nodup/\∀p,H p=none->Q (.ref p) (upd H p (.dP kvs))) lF:=fun xs ts H C Q R rs h q f=>by
 unfold lF at q
 split at q
 .obtain ⟨v,rfl,r⟩:=yX rs
  split at q
  .next kvs e =>
   cases r;obtain⟨vs,ev,r⟩:=h _ _ e;obtain⟨h1,h2,q⟩:=q;refine⟨_,vs,rfl,ev,?_,fun p hp=>f _ _ _ _ (q p (h.fresh hp)) (.ref p) (h.lay hp ⟨vs,fQ,Paired.mapP r fun _ _ z=>⟨z.1,z.2.imm (Imm.new hp _)⟩⟩) (Fw.lay hp _ _)⟩;have ke:=FP.keys r
   have e1:(vs.map fun p=>gX (dQ X.prog X.w) p.1)=kvs.map fun p=>gX (dQ X.prog X.w) p.1:=by
    have e:=congrArg (List.map (gX (dQ X.prog X.w))) ke;rw[List.map_map,List.map_map] at e;exact e
   rw[e1,List.map_congr_left fun p m=>jO (h1 p m)];exact h2
  .exact q.elim
 .exact q.elim
theorem yK {α β:Type}{F:α->β->Prop}:∀{l:List α}{m:List β},Paired F l m->∀{j:Nat}{a:α},l[j]?=some a->∃b,m[j]?=some b/\F a b
 |_,_,.nil,j,a,e=>by simp at e
 |_,_,.cons h t,0,a,e=>by cases e; exact⟨_,rfl,h⟩
 |_,_,.cons h t,j+1,a,e=>yK t (j:=j) e
theorem iK {α β:Type}{F:α->β->Prop}:∀{l:List α}{m:List β},Paired F l m->∀{j:Nat}{b:β},m[j]?=some b->∃a,l[j]?=some a/\F a b
 |_,_,.nil,j,a,e=>by simp at e
 |_,_,.cons h t,0,a,e=>by cases e; exact⟨_,rfl,h⟩
 |_,_,.cons h t,j+1,a,e=>iK t (j:=j) e
abbrev rNeQ (K:PySem.W.Frag)(d:Nat):R2:=fun x y H Q=>∃a b vs ws kvs,x=.ref a/\y=.ref b/\H a=some (.dP vs)/\H b=some (.dP ws)/\FP K H vs kvs/\FP K H ws kvs/\(∀p∈kvs,Pl d p.2)/\Q (.bl false) H
theorem op_neQ {d:Nat}(hu:X.A.units+2+d < cLine):OpR X (compareOp .NotEq) (rNeQ X.K d):=by
 intro pins s σ H x y v u Q I rx ry h;obtain⟨a,b,vs,ws,kvs,rfl,rfl,ha,hb,r1,r2,hp,q⟩:=h;cases rx;cases ry;obtain⟨_,na,xs,ra,da⟩:=pU I.hok ha;obtain⟨_,nb,ys,rb,db⟩:=pU I.hok hb;refine ne_heap (uX (by omega)) (by omega) na nb da db (by rw[<- Paired.length ra,<- Paired.length rb,Paired.length r1,Paired.length r2]) (fun x mx=>?_) ⟨.bl false,H,I,rfl,q⟩;obtain⟨j,hj⟩:=List.mem_iff_getElem?.mp mx;obtain⟨p,p1,p2⟩:=iK ra hj
 obtain⟨k,k1,k2⟩:=yK r1 p1;obtain⟨p',p1',p2'⟩:=iK r2 k1;obtain⟨y,y1,y2⟩:=yK rb p1';refine⟨j,y.2,?_,?_⟩
 .rw [y1,<- p2.1,k2.1,<- p2'.1,y2.1]
 .exact eq_deep I (hp k (List.mem_of_getElem? k1)) k2.2 p2'.2 p2.2.2 y2.2.2 (show X.A.units+1+d < cLine by omega)
@[irreducible] def cNeQ (d:Nat):R2C:=fun x y C Q=>match x,y with
 |.ref a,.ref b=>match C a,C b with
  |some (.dP xs),some (.dP ys)=>xs=ys/\(∀p∈xs,Pl d p.2)/\Q (.bl false) C
  |_,_=>False
 |_,_=>False
theorem cop_neQ {K:PySem.W.Frag}{d:Nat}:Cop K (rNeQ K d) (cNeQ d):=fun x y px py H C Q R rx ry h q f=>by
 unfold cNeQ at q
 split at q
 .split at q
  .next xs ys e1 e2 =>
   obtain⟨rfl,hp,q⟩:=q;obtain⟨vs,ev,rv⟩:=h _ _ e1;obtain⟨ws,ew,rw'⟩:=h _ _ e2;cases rx; cases ry
   exact⟨_,_,vs,ws,xs,rfl,rfl,ev,ew,rv,rw',hp,f _ H _ C q (.bl _) h Fw.refl⟩
  .exact q.elim
 .exact q.elim
def cR (ks:List (List Str)):Nat->Nat->Bool:=fun i j=>HT.lexS (ks.getD i []) (ks.getD j [])
def ordK (ks:List (List Str)):List (List Str):=(jW (cR ks) (kas_sort ks.length)).toList.map fun i=>ks.getD i []
def gU (k:List Str):PV:=.tup (k.map PV.str)
def vL:List (List Key×PV)->Option (List (List Str))
 |[]=>some []
 | ([.inr x,.inr y],_)::r=>(vL r).map ([x,y] :: ·)
 |_=>none
theorem kkOf_at {kvs:List (List Key×PV)}{ks:List (List Str)}(e:vL kvs=some ks):kvs.map (·.1)=ks.map (fun k=>k.map Sum.inr)/\∀k∈ks,∃x y,k=[x,y]:=by
 induction kvs generalizing ks with
 |nil=>cases e; exact⟨rfl,fun _ h=>nomatch h⟩
 |cons p r ih =>
  unfold vL at e
  split at e
  .next h=>cases h
  .next x y v r' h =>
   cases h
   cases z:vL r with
   |none=>rw[z] at e; cases e
   |some ds =>
    rw[z] at e;cases e;obtain⟨h1,h2⟩:=ih z;refine⟨by rw[List.map_cons,List.map_cons,h1]; rfl,fun k m=>?_⟩
    rcases List.mem_cons.mp m with rfl | m
    .exact ⟨x,y,rfl⟩
    .exact h2 k m
  .cases e
@[irreducible] def jY:GC:=fun ts C Q=>match ts with
 |[.ref a]=>match C a with
  |some (.dT kvs)=>match vL kvs with
   |some ks=>ks.length < 64/\∀p,C p=none->Q (.ref p) (uQ C p (.lst ((ordK ks).map gU)))
   |none=>False
  |_=>False
 |_=>False
theorem mC {H:Hp}{ys:List V}{lt lt':Nat->Nat->Bool}(h:Srt X H ys lt)(e:∀i j,i < ys.length->j < ys.length->lt i j=lt' i j):Srt X H ys lt':=by
 intro pins σ s its A hA I r;obtain⟨κ,h1,h2⟩:=h pins σ s its A hA I r;exact⟨κ,h1,fun i j hi hj Q hq=>h2 i j hi hj Q (by rw[e i j hi hj]; exact hq)⟩
theorem kk_ord (ks:List (List Str))(l:List Nat):(l.map fun i=>(ks.map gU).getD i (gU []))=(l.map fun i=>ks.getD i []).map gU:=by
 rw[List.map_map];refine List.map_congr_left fun i _=>?_
 simp only[Function.comp,List.getD_eq_getElem?_getD,List.getElem?_map]
 cases ks[i]?<;>rfl
theorem iL:Cbi X.K (fun xs H Q=>∃d kvs lt,xs=[.ref d]/\H d=some (.dT kvs)/\kvs.length < 64 /\
  ∀as:List Addr,Paired (fun(p:List Key×V) (b:Addr)=>H b=some (.tup (p.1.map kV))) kvs as->Srt X H (as.map V.ref) lt/\∀p,H p=none->Q (.ref p) (upd H p (.lst (uY lt (as.map V.ref))))) jY:=fun xs ts H C Q R rs h q f=>by
 unfold jY at q
 split at q
 .obtain ⟨v,rfl,r⟩:=yX rs
  split at q
  .next kvs e =>
   split at q
   .next ks e2 =>
    cases r;obtain⟨vs,ev,r⟩:=h _ _ e;obtain⟨k1,k2⟩:=kkOf_at e2;have ke:=(FP.keys r).trans k1;have hl:vs.length=ks.length:=by have:=congrArg List.length ke; simpa using this
    refine⟨_,vs,cR ks,rfl,ev,by rw[hl]; exact q.1,fun as pr=>?_⟩;have la:as.length=ks.length:=by rw[<- Paired.length pr,hl]
    have at':∀i,i < as.length->∃b x y,as[i]?=some b/\ks[i]?=some [x,y]/\H b=some (.tup [.str x,.str y]):=fun i hi=>by
     have hk:ks[i]?=some (ks[i]'(by omega)):=List.getElem?_eq_getElem _;obtain⟨x,y,exy⟩:=k2 _ (List.getElem_mem (by omega:i < ks.length));rw[exy] at hk;have hv:vs[i]?=some (vs[i]'(by omega)):=List.getElem?_eq_getElem _;obtain⟨b,b1,b2⟩:=yK pr hv;have e3:=congrArg (fun l=>l[i]?) ke
     simp only[List.getElem?_map,hv,hk,Option.map_some,Option.some.injEq] at e3
     rw[e3] at b2;exact⟨b,x,y,b1,hk,b2⟩
    have rv:Reps X.K H (as.map V.ref) (ks.map gU):=by
     have:∀(as:List Addr) (ks:List (List Str)),as.length=ks.length->(∀i,i < as.length->∃b x y,as[i]?=some b/\ks[i]?=some [x,y]/\H b=some (.tup [.str x,.str y]))->Reps X.K H (as.map V.ref) (ks.map gU):=by
      intro as
      induction as with
      |nil=>intro ks hl _; cases ks with
       |nil=>exact .nil
       |cons _ _=>cases hl
      |cons a as ih=>intro ks hl ha; cases ks with
       |nil=>cases hl
       |cons k ks =>
        obtain⟨b,x,y,e1,e2,e3⟩:=ha 0 (Nat.zero_lt_succ _);cases e1; cases e2
        exact .cons (.tup e3 (.cons (.str x) (.cons (.str y) .nil))) (ih ks (Nat.succ.inj hl) fun i hi=>ha (i+1) (Nat.succ_lt_succ hi))
     exact this as ks la at'
    refine⟨mC (srt_ss (fun i=>match ks.getD i [] with | [x,y]=>(x,y) | _=>("","")) fun i hi=>?_) fun i j hi hj=>?_,fun p hp=>?_⟩
    .rw [List.length_map] at hi
     obtain⟨b,x,y,e1,e2,e3⟩:=at' i hi
     simp only[List.getD_eq_getElem?_getD,List.getElem?_map,e1,e2,Option.map_some,Option.getD_some]
     exact⟨b,rfl,e3⟩
    .rw [List.length_map] at hi hj
     obtain⟨b,x,y,e1,e2,e3⟩:=at' i hi;obtain⟨b',x',y',e1',e2',e3'⟩:=at' j hj;unfold cR ltSS
     simp only[List.getD_eq_getElem?_getD,e2,e2',Option.getD_some]
    .have ro:=pD (gU []) (cR ks) rv
     rw[List.length_map,kk_ord] at ro;exact f _ _ _ _ (q.2 p (h.fresh hp)) (.ref p) (h.lay hp ⟨_,fQ,ro.imm (Imm.new hp _)⟩) (Fw.lay hp _ _)
   .exact q.elim
  .exact q.elim
 .exact q.elim
@[irreducible] def qC:GC:=fun ts C Q=>match ts with
 |[.ref a,.ty n]=>match C a with
  |some (.dT _)=>n = "dict"/\Q (.bl true) C
  |_=>False
 |_=>False
theorem gA {K:PySem.W.Frag}:Cbi K (fun xs H Q=>∃x T n,xs=[x,.ty (vK T)]/\tyN H x=some n/\Q (.bl (qJ n T)) H) qC:=fun xs ps H C Q R rs h q f=>by
 unfold qC at q
 split at q
 .split at q
  .next kvs e1 =>
   obtain⟨v,w,rfl,r1,r2⟩:=rM rs;cases r2;cases r1;obtain⟨rfl,q⟩:=q;obtain⟨vs,ev,_⟩:=h _ _ e1;exact⟨_,.dct,.dct,rfl,by show(H _).bind tyH=_; rw[ev]; rfl,f _ H _ C q (.bl _) h Fw.refl⟩
  .exact q.elim
 .exact q.elim
theorem isiT_s {a:Addr}{kvs:List (List Key×PV)}{C:CH}{Q:K1}(m:C a=some (.dT kvs))(q:Q (.bl true) C):qC [.ref a,.ty "dict"] C Q:=by
 unfold qC; dsimp only; rw[m]; exact⟨rfl,q⟩
theorem getQ_s {a:Addr}{kvs:List (jX×PV)}{y:PV}{k:jX}{C:CH}{Q:K1}(m:C a=some (.dP kvs))(e:vB y=some k)(q:Q ((rJ kvs k).getD .non) C):zC (.ref a) [y] C Q:=by
 unfold zC; dsimp only; rw[m,e]; exact q
theorem kA {a:Addr}{kvs:List (jX×PV)}{C:CH}{Q:K1}(m:C a=some (.dP kvs))(q:Q .non (uQ C a (.dP []))):rG (.ref a) [] C Q:=by
 unfold rG; dsimp only; rw[m]; exact q
theorem dictQ_s {a:Addr}{kvs:List (jX×PV)}{C:CH}{Q:K1}(m:C a=some (.dP kvs))(h1:∀p∈kvs,p.1.all (fun ks=>ks.all noT)=true)(h2:(kvs.map fun p=>kU p.1).Nodup)(q:∀p,C p=none->Q (.ref p) (uQ C p (.dP kvs))):lF [.ref a] C Q:=by
 unfold lF; dsimp only; rw[m]; exact⟨h1,h2,q⟩
theorem neQ_s {a b:Addr}{d:Nat}{kvs:List (jX×PV)}{C:CH}{Q:K1}(m:C a=some (.dP kvs))(m':C b=some (.dP kvs))(h:∀p∈kvs,Pl d p.2)(q:Q (.bl false) C):cNeQ d (.ref a) (.ref b) C Q:=by
 unfold cNeQ; dsimp only; rw[m,m']; exact⟨rfl,h,q⟩
theorem dC {a:Addr}{kvs:List (List Key×PV)}{ks:List (List Str)}{C:CH}{Q:K1}(m:C a=some (.dT kvs))(e:vL kvs=some ks)(h:ks.length < 64)(q:∀p,C p=none->Q (.ref p) (uQ C p (.lst ((ordK ks).map gU)))):jY [.ref a] C Q:=by
 unfold jY; dsimp only; rw[m]; dsimp only; rw[e]; exact⟨h,q⟩
end
end CL
namespace K21
open PySem L2
abbrev U0:List Str:=["_law_tape_here","_law_kit","_law_turns","_law_deep"]
abbrev U1:List Str:=["_law_tape_here","_law_part_here","_law_names_here","_law_gives","_law_downs","_law_boxes","_law_due","_law_sort","_law_pairs_here","_law_turn","_law_found_here"]
abbrev U2:List Str:=["_law_tape_here","_law_house_here","_law_part_here","_law_paths","_law_values","_law_path","_law_other","_law_held","_law_due"]
abbrev U3:List Str:=["_law_tape_here","_law_kit","_law_turns"]
abbrev U4:List Str:=["_law_tape_here","_law_kit","_law_deep"]
abbrev U5:List Str:=["_law_tape_here","_law_many"]
abbrev U6:List Str:=["_law_tape_here","_law_names_here","_law_k","_law_keyed"]
abbrev U7:List Str:=["_law_tape_here","_law_kit","_law_turns","_law_most"]
abbrev U8:List Str:=["_law_tape_here","_law_kit","_law_turns","_law_name"]
abbrev U9:List Str:=["_law_tape_here","_law_names_here"]
abbrev U10:List Str:=["_law_tape_here","_law_kit","_law_turns","_law_way"]
abbrev U11:List Str:=["_law_tape_here","_law_house_here","_law_part_here"]
abbrev U12:List Str:=["_law_tape_here"]
def top (i:Nat):Stmt:=PySem.Challenge.pw_viewwood_k21_answers_and_boxes.main.body.getD i (.Pass ⟨0,0,0,0⟩)
def tab:List CL.Row:=[
 ⟨none,"answers_at","answers_at",(top 1),["gives","downs","boxes"],["gives","downs","boxes","answers","sort","pairs","name","number"]⟩,
 ⟨none,"boxes_at","boxes_at",(top 2),["part","values","path"],["part","values","path","kept"]⟩,
 ⟨none,"_law_tape","_law_tape",(top 4),["_law_script"],["_law_script"]⟩,
 ⟨none,"_law_draw","_law_draw",(top 5),U5,["_law_tape_here","_law_many","_law_script","_law_digit","_law_cell","_law_mixed"]⟩,
 ⟨none,"_law_names","_law_names",(top 6),U5,["_law_tape_here","_law_many","_law_pool","_law_start","_law_stride"]⟩,
 ⟨none,"_law_number","_law_number",(top 7),U12,U12⟩,
 ⟨none,"_law_leaf","_law_leaf",(top 8),U3,U10⟩,
 ⟨none,"_law_sum","_law_sum",(top 9),U0,["_law_tape_here","_law_kit","_law_turns","_law_deep","_law_way","_law_word","_law_many"]⟩,
 ⟨none,"_law_key","_law_key",(top 10),U3,U10⟩,
 ⟨none,"_law_pairs","_law_pairs",(top 11),U7,["_law_tape_here","_law_kit","_law_turns","_law_most","_law_names_here"]⟩,
 ⟨none,"_law_hands","_law_hands",(top 12),U3,["_law_tape_here","_law_kit","_law_turns","_law_hands_here","_law_event","_law_changes","_law_k","_law_box","_law_word"]⟩,
 ⟨none,"_law_plain","_law_plain",(top 13),U0,["_law_tape_here","_law_kit","_law_turns","_law_deep","_law_key_here","_law_tag","_law_sets","_law_hands_here","_law_lines_here"]⟩,
 ⟨none,"_law_part_line","_law_part_line",(top 14),U8,["_law_tape_here","_law_kit","_law_turns","_law_name","_law_key_here","_law_names_here"]⟩,
 ⟨none,"_law_each","_law_each",(top 15),U4,["_law_tape_here","_law_kit","_law_deep","_law_name","_law_number_here","_law_lines_here","_law_k"]⟩,
 ⟨none,"_law_line","_law_line",(top 16),U0,["_law_tape_here","_law_kit","_law_turns","_law_deep","_law_way","_law_name","_law_key_here","_law_number_here","_law_lines_here"]⟩,
 ⟨none,"_law_lines","_law_lines",(top 17),U0,["_law_tape_here","_law_kit","_law_turns","_law_deep","_law_lines_here","_law_k"]⟩,
 ⟨none,"_law_part","_law_part",(top 18),U6,["_law_tape_here","_law_names_here","_law_k","_law_keyed","_law_many","_law_boxes","_law_kit","_law_first","_law_lines_here","_law_work_names","_law_works"]⟩,
 ⟨none,"_law_house","_law_house",(top 19),U12,["_law_tape_here","_law_names_here","_law_keyed"]⟩,
 ⟨none,"_law_kind","_law_kind",(top 20),["_law_thing"],["_law_thing","_law_kinds","_law_names_here"]⟩,
 ⟨none,"_law_alike","_law_alike",(top 21),["_law_one","_law_other"],["_law_one","_law_other","_law_kind_here"]⟩,
 ⟨none,"_law_numbered","_law_numbered",(top 22),U9,U9⟩,
 ⟨none,"_law_rows","_law_rows",(top 23),["_law_answers"],["_law_answers"]⟩,
 ⟨none,"_law_answered","_law_answered",(top 24),["_law_tape_here","_law_part_here"],U1⟩,
 ⟨none,"_law_found","_law_found",(top 25),U11,U2⟩,
 ⟨none,"law","law",(top 26),["_law_script"],["_law_script","_law_tape_here","_law_house_here","_law_part_here"]⟩]
set_option genInjectivity false in
structure Adr where
 f:Nat->Addr
 d:Nat->FuncData
structure Txt (P:Program)(w:World)(K:PySem.W.Frag)(mg:Str->Option Value)(a:Adr):Prop where
 F:∀(i:Nat) {k:Option Str} {nm q:Str} {st:Stmt} {ps N:List Str},tab[i]?=some ⟨k,nm,q,st,ps,N⟩->CL.FI K mg k nm q st ps N (a.f i) (a.d i)
 z_abs:mg "abs" = none
 z_all:mg "all" = none
 z_bool:mg "bool" = none
 rS:mg "dict" = none
 iF:mg "int" = none
 eX:mg "isinstance" = none
 zZ:mg "len" = none
 z_list:mg "list" = none
 aZ:mg "range" = none
 aF:mg "sorted" = none
 z_str:mg "str" = none
 aX:mg "tuple" = none
theorem tab_ok:CL.AllR CL.RB tab:=by
 unfold tab
 repeat refine⟨⟨⟨rfl,rfl,rfl,by decide +kernel,rfl,by decide +kernel,by decide +kernel⟩,fun _ _ _ _ _ _=>by first | (refine CL.args1 ?_; exact fun _=>rfl) | (refine CL.args2 ?_; exact fun _ _=>rfl) | (refine CL.args3 ?_; exact fun _ _ _=>rfl) | (refine CL.args4 ?_; exact fun _ _ _ _=>rfl)⟩,?_⟩
 exact trivial
theorem txt_mk {P:Program}{w:World}{K:PySem.W.Frag}{h:Heap}{mg:Str->Option Value}(X:K.In h)(G:h.Ns mainGlobals mg)
  (hf:CL.AllR (CL.FH K) tab)
  (z0:PySem.W.nsIn K mainGlobals "abs" = some none)
  (z1:PySem.W.nsIn K mainGlobals "all" = some none)
  (z2:PySem.W.nsIn K mainGlobals "bool" = some none)
  (z3:PySem.W.nsIn K mainGlobals "dict" = some none)
  (z4:PySem.W.nsIn K mainGlobals "int" = some none)
  (z5:PySem.W.nsIn K mainGlobals "isinstance" = some none)
  (z6:PySem.W.nsIn K mainGlobals "len" = some none)
  (z7:PySem.W.nsIn K mainGlobals "list" = some none)
  (z8:PySem.W.nsIn K mainGlobals "range" = some none)
  (z9:PySem.W.nsIn K mainGlobals "sorted" = some none)
  (z10:PySem.W.nsIn K mainGlobals "str" = some none)
  (z11:PySem.W.nsIn K mainGlobals "tuple" = some none)
  : ∃a:Adr,Txt P w K mg a:=by
 obtain⟨f,d,F⟩:=CL.fi_all X G hf tab_ok
 exact⟨⟨f,d⟩,F,
  PySem.W.mg_none_of X G z0,
  PySem.W.mg_none_of X G z1,
  PySem.W.mg_none_of X G z2,
  PySem.W.mg_none_of X G z3,
  PySem.W.mg_none_of X G z4,
  PySem.W.mg_none_of X G z5,
  PySem.W.mg_none_of X G z6,
  PySem.W.mg_none_of X G z7,
  PySem.W.mg_none_of X G z8,
  PySem.W.mg_none_of X G z9,
  PySem.W.mg_none_of X G z10,
  PySem.W.mg_none_of X G z11⟩
end K21
namespace K21
open PySem L2 CL
section
variable {P:Program}{w:World}{K:PySem.W.Frag}{mg:Str->Option Value}{base:Heap}{a:Adr}
structure Tp (C:CH)(t:Addr)(ns:List Int):Prop where
 at_:∃a b c:Int,C t=some (.lst [.fz (ns.map PV.int),.int a,.int b,.int c])/\0<=a/\0<=b/\0<=c
 len:ns.length<=63
def Ex (t:Addr)(C C':CH):Prop:=∀b o,b≠t->C b=some o->C' b=some o
theorem Ex.refl {t:Addr}{C:CH}:Ex t C C:=fun _ _ _ h=>h
theorem Ex.trans {t:Addr}{C C1 C2:CH}(h:Ex t C C1)(h':Ex t C1 C2):Ex t C C2:=fun b o n e=>h' b o n (h b o n e)
theorem Ex.new {t p:Addr}{C:CH}(hp:C p=none)(o:CO):Ex t C (uQ C p o):=fun b u _ e=>by
 rw[yQ (fun z=>by subst z; rw[hp] at e; cases e)]; exact e
def gTape:GC:=fun ts C Q=>∃ns:List Int,ts=[.fz (ns.map PV.int)]/\ns.length<=63/\∀t C',C t=none->Ex t C C'->Tp C' t ns->Q (.ref t) C'
theorem ok_tape (T:Txt P w K mg a):FnOk P w K mg base CX0 1 (a.f 2) (a.d 2) ["_law_script"] (spC K gTape):=by
 have S:=(T.F 2 rfl).s;refine(T.F 2 rfl).ok (fun ts C R h=>?_) fun cdv A outer s H E hr=>⟨_,(wQ (mQ (zX (qQ (cv 0) (qQ zQ (qQ zQ (ca1 zQ))))))),?_⟩
 .obtain ⟨ns,rfl,_⟩:=h; rfl
 rintro ts C R ⟨ns,rfl,hl,q⟩;show 4<=sizeLine/\∀p,C p=none->R (.ref p) (uQ C p (.lst [.fz (ns.map PV.int),.int 0,.int 0,.int 0]));exact⟨by decide,fun p hp=>q p _ hp (Ex.new hp _) ⟨⟨0,0,0,jQ,by decide,by decide,by decide⟩,hl⟩⟩
end
section
variable {P:Program}{w:World}{K:PySem.W.Frag}{mg:Str->Option Value}{base:Heap}{a:Adr}
theorem Ex.tape {t:Addr}{C:CH}(o:CO):Ex t C (uQ C t o):=fun b u n e=>by rw[yQ n]; exact e
theorem lA {ns:List Int}{k:Int}(h0:0<=k)(h1:k < ((ns.map PV.int).length:Int)):∃v,atI (ns.map PV.int) k=some (.int v):=by
 unfold atI ixN;rw[if_pos h0,if_pos h1];rw[List.length_map] at h1;show ∃v,(ns.map PV.int)[k.toNat]?=some (.int v);rw[List.getElem?_map,List.getElem?_eq_getElem (by omega)];exact⟨_,rfl⟩
def gDraw:GC:=fun ts C Q=>∃(t:Addr) (m:Int) (ns:List Int),ts=[.ref t,.int m]/\Tp C t ns/\0 < m/\m < 4611686018427387904/\∀(v:Int) (C':CH),0<=v->v < m->Tp C' t ns->Ex t C C'->Q (.int v) C'
theorem bX (T:Txt P w K mg a):FnOk P w K mg base CX0 1 (a.f 3) (a.d 3) U5 (spC K gDraw):=by
 have S:=(T.F 3 rfl).s
 refine(T.F 3 rfl).ok (fun ts C R h=>?_) fun cdv A outer s H E hr=>⟨_,(xQ (cs1 2 S.nd (cx (cv 0) zQ))
  (xQ (uF (sQ lX rX (cx (cv 0) zQ) zQ) (dG (cv 0) zQ))
  (xQ (qX (cw_pt (cw_and (ct2 nX vX (cx (cv 0) zQ) zQ) (cw_and1 (ct2 wU vW (cx (cv 0) zQ) (cln T.zZ (cv 2)))))) (xQ (uF (sQ lD nL (tX fA cbi_abs rfl T.z_abs rfl (ca1 (cx (cv 2) (cx (cv 0) zQ)))) (sQ nP gF zQ zQ)) (dG (cv 0) zQ))
  (wQ (uF (sQ lX rX (cx (cv 0) zQ) zQ) (dG (cv 0) zQ)))) rQ)
  (xQ (qX (ct2 uZ mX (cx (cv 0) zQ) zQ) (xQ (cs1 3 S.nd (sQ zV cJ (cx (cv 0) zQ) (cv 1)))
  (xQ (uF (sQ lD nL (cx (cv 0) zQ) (cv 1)) (dG (cv 0) zQ))
  (wQ (mQ (cv 3))))) rQ)
  (xQ (cs1 4 S.nd zQ)
  (xQ (qX (ct2 uZ mX (cln T.zZ (cv 2)) zQ) (wQ (cs1 4 S.nd (cx (cv 2) (sQ zV cJ (cx (cv 0) zQ) (cln T.zZ (cv 2)))))) rQ)
  (xQ (cs1 5 S.nd (sQ zV cJ (sQ lX rX (sQ lX rX (sQ vU tW (sQ zV cJ (cv 4) zQ) zQ) (sQ vU tW (cx (cv 0) zQ) zQ)) zQ) zQ))
  (xQ (cs1 5 S.nd (sQ zV cJ (sQ vU tW (cv 5) (sQ lX rX (cv 5) zQ)) zQ))
  (wQ (mQ (sQ zV cJ (sQ zV cJ (sQ vU tW (cv 5) zQ) zQ) (cv 1)))))))))))),?_⟩
 .obtain ⟨t,m,ns,rfl,_⟩:=h; rfl
 rintro ts C R ⟨t,m,ns,rfl,⟨⟨x,y,z,h,hx,hy,hz⟩,hl⟩,m0,m1,q⟩;refine iQ h rfl ?_;refine iQ h rfl ?_;refine fV ?_;refine setL h rfl ?_;dsimp only;have h1:(uQ C t (.lst [.fz (ns.map PV.int),.int (x+1),.int y,.int z])) t=_:=jQ;have e1:Ex t C (uQ C t (.lst [.fz (ns.map PV.int),.int (x+1),.int y,.int z])):=Ex.tape _;refine pQ (fun ρ' C'=>ρ'=[some (.ref t),some (.int m),some (.fz (ns.map PV.int)),none,none,none]/\∃y z:Int,C' t=some (.lst [.fz (ns.map PV.int),.int (x+1),.int y,.int z])/\0<=y/\0<=z/\Ex t C C') (fun L hL=>?_) ?_
 .refine iQ h1 rfl ?_
  refine wZ (wX _ _) ?_;refine pX (fun hb=>?_) fun hb=>?_
  .refine iQ h1 rfl ?_
   refine lO ?_;refine i_i ?_;refine pX (fun hb2=>?_) fun hb2=>?_
   .obtain ⟨c,ea⟩:=lA hz (of_decide_eq_true hb2)
    refine iQ h1 rfl ?_;refine ix_f ea ?_;refine⟨⟨by decide,by decide,by decide⟩,⟨by decide,by decide⟩,?_⟩;refine setL h1 rfl ?_;refine iQ jQ rfl ?_;refine fV ?_;refine setL jQ rfl ?_;refine hL _ _ ⟨rfl,_,_,jQ,?_,by omega,(e1.trans (Ex.tape _)).trans (Ex.tape _)⟩;refine Int.ediv_nonneg ?_ (by decide)
    split<;>omega
   .refine xX ?_
    exact hL _ _ ⟨rfl,y,z,h1,hy,hz,e1⟩
  .refine nW rfl ?_
   refine xX ?_;exact hL _ _ ⟨rfl,y,z,h1,hy,hz,e1⟩
 clear h1 e1;rintro ρ' C1 ⟨rfl,y',z',h1,hy',hz',e1⟩
 try dsimp only
 refine bJ ?_;refine iQ h1 rfl ?_;refine i_i ?_;refine pX (fun hb=>?_) fun hb=>?_
 .refine iQ h1 rfl ?_
  refine⟨m0,?_⟩;refine iQ h1 rfl ?_;refine⟨⟨m0,by omega⟩,?_⟩;refine setL h1 rfl ?_;exact q _ _ (Int.emod_nonneg _ (by omega)) (Int.emod_lt_of_pos _ m0) ⟨⟨_,_,_,jQ,by omega,Int.ediv_nonneg hy' (by omega),hz'⟩,hl⟩ (e1.trans (Ex.tape _))
 .refine xX ?_
  try dsimp only
  refine gQ (c_i ?_)
  try dsimp only
  refine pQ (fun ρ' C'=>C'=C1/\∃v:Int,ρ'=[some (.ref t),some (.int m),some (.fz (ns.map PV.int)),none,some (.int v),none]) (fun L hL=>?_) ?_
  .refine lO ?_
   refine i_i ?_;refine pX (fun hb2=>?_) fun hb2=>?_
   .have hn:(0:Int) < ((ns.map PV.int).length:Int):=of_decide_eq_true hb2
    obtain⟨c,ea⟩:=lA (Int.emod_nonneg (x+1) (b:=((ns.map PV.int).length:Int)) (by omega)) (Int.emod_lt_of_pos (x+1) hn);refine iQ h1 rfl ?_;refine lO ?_;refine⟨hn,?_⟩;refine ix_f ea ?_;exact hL _ _ ⟨rfl,_,rfl⟩
   .refine xX ?_
    exact hL _ _ ⟨rfl,0,rfl⟩
  .rintro ρ' C2 ⟨rfl,v,rfl⟩
   try dsimp only
   refine gQ ?_;refine⟨(by show(0:Int) < _; decide),?_⟩;refine⟨.inr ⟨by decide,by decide⟩,?_⟩;refine iQ h1 rfl ?_;refine⟨.inr ⟨by decide,by decide⟩,?_⟩;refine fV ?_;refine fV ?_;refine⟨(by show(0:Int) < _; decide),?_⟩;have b0:=Int.emod_nonneg (v % 2147483647 * 48271+(x+1) * 7919+12345) (b:=2147483629) (by decide);have b1:=Int.emod_lt_of_pos (v % 2147483647 * 48271+(x+1) * 7919+12345) (b:=2147483629) (by decide)
   try dsimp only
   refine gQ ?_;refine fV ?_;refine⟨.inl ⟨by omega,by omega⟩,?_⟩;refine⟨(by show(0:Int) < _; decide),?_⟩
   try dsimp only
   refine⟨.inr ⟨by decide,by decide⟩,?_⟩;refine⟨(by show(0:Int) < _; decide),?_⟩;refine⟨m0,?_⟩;exact q _ _ (Int.emod_nonneg _ (by omega)) (Int.emod_lt_of_pos _ m0) ⟨⟨_,_,_,h1,by omega,hy',hz'⟩,hl⟩ e1
end
section
variable {P:Program}{w:World}{K:PySem.W.Frag}{mg:Str->Option Value}{base:Heap}{a:Adr}
theorem Tp.ne {C:CH}{t p:Addr}{ns:List Int}(h:Tp C t ns)(hp:C p=none):p≠t:=fun e=>by
 obtain⟨⟨x,y,z,h,_⟩,_⟩:=h;rw[<- e,hp] at h;cases h
theorem Tp.new {C:CH}{t p:Addr}{ns:List Int}(h:Tp C t ns)(hp:C p=none)(o:CO):Tp (uQ C p o) t ns:=by
 have n:=h.ne hp;obtain⟨⟨x,y,z,h,q⟩,l⟩:=h;exact⟨⟨x,y,z,(yQ (Ne.symm n)).trans h,q⟩,l⟩
def POOL:List Str:=["a","ab","abc","b","ba","box","end","give","part","plain","turn","abcdefgh"]
theorem tZ {α:Type}{f:α->PV}{ss:List α}{k:Int}(d:α)(h0:0<=k)(h1:k < (ss.length:Int)):atI (ss.map f) k=some (f (ss.getD k.toNat d)):=by
 unfold atI ixN;rw[if_pos h0,if_pos (by rw[List.length_map]; exact h1)];show(ss.map f)[k.toNat]?=_;rw[List.getElem?_map,List.getD_eq_getElem?_getD,List.getElem?_eq_getElem (by omega)]
 rfl
def pO (v c:Int)(i:Nat):Str:=POOL.getD ((v+c * (i:Int)) % 12).toNat ""
def iZ (v c:Int)(m:Nat):List Str:=(List.range m).map (pO v c)
theorem mS:∀v∈List.range 12,∀c∈[1,5,7,11],(iZ (v:Nat) (c:Nat) 12).Nodup:=by decide +kernel
theorem qL {v c:Int}{m:Nat}(v0:0<=v)(v1:v < 12)(hc:c=1\/c=5\/c=7\/c=11)(hm:m<=12):(iZ v c m).Nodup:=by
 have h12:(iZ v c 12).Nodup:=by
  have:=mS v.toNat (List.mem_range.2 (by omega));have ev:((v.toNat:Nat):Int)=v:=Int.toNat_of_nonneg v0
  rcases hc with rfl | rfl | rfl | rfl
  .have:=this 1 (by decide); rw[ev] at this; exact this
  .have:=this 5 (by decide); rw[ev] at this; exact this
  .have:=this 7 (by decide); rw[ev] at this; exact this
  .have:=this 11 (by decide); rw[ev] at this; exact this
 have e:iZ v c m=(iZ v c 12).take m:=by
  unfold iZ;rw[<- List.map_take,List.take_range];rw[Nat.min_eq_left hm]
 rw[e];exact h12.sublist (List.take_sublist _ _)
theorem zA {c:TCE}{ρ:CSt}{Q:K1}(f:Nat->PV)(I:CH->Prop)(m:Nat)(h:∀(k:Nat) C (Q':K1),k < m->I C->(∀C',I C'->Q' (f k) C')->c (some (.int (k:Int))::ρ) C Q')
  (q:∀p C',I C'->C' p=none->Q (.ref p) (uQ C' p (.lst ((List.range m).map f)))):∀(n:Nat) (C:CH),n<=m->m<=1000->I C->cX cY c ρ Q ((List.range m).drop n |>.map fun k=>PV.int (k:Nat)) ((List.range n).map f) C:=by
 suffices ∀j n C,n+j=m->m<=1000->I C->cX cY c ρ Q ((List.range m).drop n |>.map fun k=>PV.int (k:Nat)) ((List.range n).map f) C by
  intro n C hn hm hI;exact this (m - n) n C (by omega) hm hI
 intro j
 induction j with
 |zero =>
  intro n C hn hm hI;have e:n=m:=by omega
  subst e;rw[List.drop_of_length_le (by rw[List.length_range]; exact Nat.le_refl _)];exact zK fun p hp=>q p C hI hp
 |succ j ih =>
  intro n C hn hm hI;rw[List.drop_eq_getElem_cons (by rw[List.length_range]; omega),List.map_cons,List.getElem_range];refine tQ ?_;show c (some (.int (n:Int))::ρ) C fun y C2=>((List.range n).map f).length < sizeLine/\cX cY c ρ Q _ ((List.range n).map f++[y]) C2;refine h n C _ (by omega) hI fun C' hI'=>⟨?_,?_⟩
  .rw [List.length_map,List.length_range]
   exact Nat.lt_of_lt_of_le (show n < 1001 by omega) (by decide)
  .have e:(List.range n).map f++[f n]=(List.range (n+1)).map f:=by rw[List.range_succ,List.map_append]; rfl
   rw[e];exact ih (n+1) C' (by omega) hm hI'
def bE:GC:=fun ts C Q=>∃(t:Addr) (m:Int) (ns:List Int),ts=[.ref t,.int m]/\Tp C t ns/\0<=m/\m<=12/\∀(p:Addr) (ss:List Str) (C':CH),C' p=some (.lst (ss.map PV.str))->C p=none->p≠t->ss.length=m.toNat->ss.Nodup->Tp C' t ns->Ex t C C'->Q (.ref p) C'
theorem jV (T:Txt P w K mg a):FnOk P w K mg base CX0 2 (a.f 4) (a.d 4) U5 (spC K bE):=by
 have S:=(T.F 4 rfl).s;have vQ:=bX (base:=base) T
 refine(T.F 4 rfl).ok (fun ts C R h=>?_) fun cdv A outer s H E hr=>⟨_,(xQ (cs1 2 S.nd (zX (qQ kQ (qQ kQ (qQ kQ (qQ kQ (qQ kQ (qQ kQ (qQ kQ (qQ kQ (qQ kQ (qQ kQ (qQ kQ (ca1 kQ))))))))))))))
  (xQ (cs1 3 S.nd (cf (T.F 3 rfl) vQ hr (qQ (cv 0) (ca1 zQ))))
  (xQ (cs1 4 S.nd (cx (zX (qQ zQ (qQ zQ (qQ zQ (ca1 zQ))))) (cf (T.F 3 rfl) vQ hr (qQ (cv 0) (ca1 zQ)))))
  (wQ (mQ (aW rfl (S.c (by decide +kernel)) (S.k rfl rfl rfl (by decide +kernel)) (hU rfl T.aZ (ca1 (cv 1))) (fun _ _ _ _ _=>hZ) (fun _ _ _ _ _=>(cx (cv 3) (sQ zV cJ (sQ lX rX (cv 4) (sQ vU tW (cv 5) (cv 0))) zQ))))))))),?_⟩
 .obtain ⟨t,m,ns,rfl,_⟩:=h; rfl
 rintro ts C R ⟨t,m,ns,rfl,hT,m0,m1,q⟩;refine⟨by decide,fun p hp=>?_⟩;dsimp only;refine⟨t,12,ns,rfl,hT.new hp _,by decide,by decide,fun v C1 v0 v1 T1 e1=>?_⟩;dsimp only;refine⟨by decide,fun p2 hp2=>⟨t,4,ns,rfl,T1.new hp2 _,by decide,by decide,fun k C2 k0 k1 T2 e2=>?_⟩⟩;have m1':C1 p=_:=e1 p _ (hT.ne hp) jQ;have e12:Ex t C1 C2:=(Ex.new hp2 _).trans e2;have m2:C2 p2=_:=e2 p2 _ (T1.ne hp2) jQ
 have ec:=tZ (f:=PV.int) (ss:=[1,5,7,11]) 0 k0 k1
 have hc:[1,5,7,11].getD k.toNat (0:Int)=1\/[1,5,7,11].getD k.toNat (0:Int)=5\/[1,5,7,11].getD k.toNat (0:Int)=7\/[1,5,7,11].getD k.toNat (0:Int)=11:=by
  have:k=0\/k=1\/k=2\/k=3:=by omega
  rcases this with rfl | rfl | rfl | rfl
  .exact .inl rfl
  .exact .inr (.inl rfl)
  .exact .inr (.inr (.inl rfl))
  .exact .inr (.inr (.inr rfl))
 revert ec hc;generalize [1,5,7,11].getD k.toNat (0:Int)=c;intro ec hc;refine iQ m2 ec ?_;dsimp only;refine⟨by omega,by omega,?_⟩;have m3:C2 p=_:=e12 p _ (hT.ne hp) m1';have e02:Ex t C C2:=((Ex.new hp _).trans e1).trans e12;have hb:c<=11/\1<=c:=by rcases hc with rfl | rfl | rfl | rfl<;>omega
 refine zA (fun i=>.str (pO v c i)) (fun C'=>C'=C2) m.toNat (fun i C3 Q' hi e hq=>?_) (fun p3 C3 e hp3=>?_) 0 C2 (Nat.zero_le _) (by omega) rfl
 .subst e
  refine⟨.inr ⟨by omega,by omega⟩,?_⟩;refine fV ?_;refine⟨(by show(0:Int) < _; decide),?_⟩;have r0:=Int.emod_nonneg (v+c * (i:Int)) (b:=12) (by decide);have r1:=Int.emod_lt_of_pos (v+c * (i:Int)) (b:=12) (by decide);refine iQ m3 (tZ (f:=PV.str) (ss:=POOL) "" r0 r1) ?_;exact hq _ rfl
 .subst e
  have hp0:C p3=none:=by
   cases z:C p3 with
   |none=>rfl
   |some o =>
    have n1:p3≠t:=T2.ne hp3;rw[e02 p3 o n1 z] at hp3;cases hp3
  refine q p3 (iZ v c m.toNat) _ ?_ hp0 (T2.ne hp3) ?_ (qL v0 v1 hc (by omega)) (T2.new hp3 _) (e02.trans (Ex.new hp3 _))
  .rw [jQ]
   unfold iZ;rw[List.map_map]
   rfl
  .unfold iZ
   rw[List.length_map,List.length_range]
def dN:GC:=fun ts C Q=>∃(t:Addr) (ns:List Int),ts=[.ref t]/\Tp C t ns/\∀(i:Int) (C':CH),-1000000000<=i->i<=1000000000->Tp C' t ns->Ex t C C'->Q (.int i) C'
theorem at_ints {ns:List Int}{k:Int}{lo hi:Int}(hb:∀x∈ns,lo<=x/\x<=hi)(h0:0<=k)(h1:k < ((ns.map PV.int).length:Int)):∃v,atI (ns.map PV.int) k=some (.int v)/\lo<=v/\v<=hi:=by
 unfold atI ixN;rw[if_pos h0,if_pos h1];rw[List.length_map] at h1;show ∃v,(ns.map PV.int)[k.toNat]?=some (.int v)/\lo<=v/\v<=hi;rw[List.getElem?_map,List.getElem?_eq_getElem (by omega)];exact⟨_,rfl,hb _ (List.getElem_mem _)⟩
theorem gY (T:Txt P w K mg a):FnOk P w K mg base CX0 2 (a.f 5) (a.d 5) U12 (spC K dN):=by
 have S:=(T.F 5 rfl).s;have vQ:=bX (base:=base) T
 refine(T.F 5 rfl).ok (fun ts C R h=>?_) fun cdv A outer s H E hr=>⟨_,(xQ (qX (ct2 uZ mX (cf (T.F 3 rfl) vQ hr (qQ (cv 0) (ca1 zQ))) zQ) (wQ (mQ (sQ sZ iX (cf (T.F 3 rfl) vQ hr (qQ (cv 0) (ca1 zQ))) zQ))) rQ)
  (wQ (mQ (cx (zX (qQ (sQ nP gF zQ zQ) (qQ (tN fM mG (sQ nP gF zQ zQ)) (qQ zQ (ca1 (tN fM mG zQ)))))) (cf (T.F 3 rfl) vQ hr (qQ (cv 0) (ca1 zQ))))))),?_⟩
 .obtain ⟨t,ns,rfl,_⟩:=h; rfl
 rintro ts C R ⟨t,ns,rfl,hT,q⟩;refine⟨t,8,ns,rfl,hT,by decide,by decide,fun v C1 v0 v1 T1 e1=>?_⟩;refine i_i ?_;refine pX (fun hb=>?_) fun hb=>?_
 .refine ⟨t,9,ns,rfl,T1,by decide,by decide,fun v C2 v0 v1 T2 e2=>?_⟩
  refine i_i ?_;exact q (v - 3) C2 (by omega) (by omega) T2 (e1.trans e2)
 .refine xX ?_
  try dsimp only
  refine⟨⟨by decide,by decide,by decide⟩,?_⟩;refine⟨⟨by decide,by decide,by decide⟩,?_⟩;refine⟨by decide,fun p2 hp2=>?_⟩;refine⟨t,4,ns,rfl,T1.new hp2 _,by decide,by decide,fun k C2 k0 k1 T2 e2=>?_⟩;have m2:C2 p2=_:=e2 p2 _ (T1.ne hp2) jQ;obtain⟨c,ec,c0,c1⟩:=at_ints (ns:=[10 ^ 9,-10 ^ 9,999983,-70001]) (lo:=-1000000000) (hi:=1000000000) (by decide) k0 k1;refine iQ m2 ec ?_;exact q c C2 c0 c1 T2 ((e1.trans (Ex.new hp2 _)).trans e2)
end
inductive Rk where
 |num (i:Int) | turn (n:Str) | ask (s n:Str) | bin (w:Str) (x y:Rk) | pick (x y z:Rk)
def Rk.pv:Rk->PV
 |.num i=>.tup [.str "num",.int i]
 |.turn n=>.tup [.str "turn",.str n]
 |.ask s n=>.tup [.str s,.str n]
 |.bin w x y=>.tup [.str w,x.pv,y.pv]
 |.pick x y z=>.tup [.str "pick",x.pv,y.pv,z.pv]
def askOk (bs:List Str)(s n:Str):Prop:=((s = "take"\/s = "down")/\n∈(["a","ab","b"]:List Str))\/(s = "box"/\n∈bs)
def Rk.ok (bs τ:List Str):Nat->Rk->Prop
 |_,.num i=>-1000000000<=i/\i<=1000000000
 |_,.turn n=>n∈τ
 |_,.ask s n=>askOk bs s n
 |0,.bin _ _ _=>False
 |0,.pick _ _ _=>False
 |d+1,.bin w x y=>(w = "add"\/w = "times"\/w = "less")/\x.ok bs τ d/\y.ok bs τ d
 |d+1,.pick x y z=>x.ok bs τ d/\y.ok bs τ d/\z.ok bs τ d
theorem Rk.ok.up {bs τ:List Str}:∀{d:Nat}{r:Rk},r.ok bs τ d->r.ok bs τ (d+1)
 |d,.num i,h=>by unfold Rk.ok at h ⊢; exact h
 |d,.turn n,h=>by unfold Rk.ok at h ⊢; exact h
 |d,.ask s n,h=>by unfold Rk.ok at h ⊢; exact h
 |0,.bin _ _ _,h=>by unfold Rk.ok at h; exact h.elim
 |0,.pick _ _ _,h=>by unfold Rk.ok at h; exact h.elim
 |d+1,.bin w x y,h=>by
  unfold Rk.ok at h ⊢;exact⟨h.1,h.2.1.up,h.2.2.up⟩
 |d+1,.pick x y z,h=>by
  unfold Rk.ok at h ⊢;exact⟨h.1.up,h.2.1.up,h.2.2.up⟩
theorem Rk.ok.mono {bs τ:List Str}{d e:Nat}{r:Rk}(h:r.ok bs τ d)(l:d<=e):r.ok bs τ e:=by
 induction l with
 |refl=>exact h
 |step _ ih=>exact ih.up
structure Kt where
 b:Addr
 r:Addr
 bs:List Str
 rs:List Str
 l:Int
 p:Int
 e:Int
 la:Option Str
def oK:Option Str->PV
 |none=>.non
 |some s=>.str s
def aQ (b r:Addr)(l p e:Int)(la:PV):List (Key×PV):=[(.inr "boxes",.ref b),(.inr "rest",.ref r),(.inr "left",.int l),(.inr "parts",.int p),(.inr "eaches",.int e),(.inr "last",la)]
structure KAt (C:CH)(t k:Addr)(κ:Kt):Prop where
 at_:C k=some (.dK (aQ κ.b κ.r κ.l κ.p κ.e (oK κ.la)))
 bx:C κ.b=some (.lst (κ.bs.map PV.str))
 rx:C κ.r=some (.lst (κ.rs.map PV.str))
 nk:k≠t
 nb:κ.b≠t
 nr:κ.r≠t
 lb:κ.bs.length<=4
 lr:κ.rs.length<=6
theorem KAt.ex {C C':CH}{t k:Addr}{κ:Kt}(h:KAt C t k κ)(e:Ex t C C'):KAt C' t k κ :=
 ⟨e _ _ h.nk h.at_,e _ _ h.nb h.bx,e _ _ h.nr h.rx,h.nk,h.nb,h.nr,h.lb,h.lr⟩
section
variable {b r:Addr}{l p e:Int}{la:PV}
theorem jJ:qW (aQ b r l p e la) (.inr "boxes")=some (.ref b):=rfl
theorem oG:qW (aQ b r l p e la) (.inr "rest")=some (.ref r):=rfl
theorem mW:qW (aQ b r l p e la) (.inr "left")=some (.int l):=rfl
theorem mB:qW (aQ b r l p e la) (.inr "parts")=some (.int p):=rfl
theorem tG:qW (aQ b r l p e la) (.inr "eaches")=some (.int e):=rfl
theorem qD:qW (aQ b r l p e la) (.inr "last")=some la:=rfl
theorem mD {l':Int}:nM (aQ b r l p e la) (.inr "left") (.int l')=aQ b r l' p e la:=rfl
theorem qR {l':Int}:nM (aQ b r l p e la) (.inr "parts") (.int l')=aQ b r l l' e la:=rfl
theorem qU {l':Int}:nM (aQ b r l p e la) (.inr "eaches") (.int l')=aQ b r l p l' la:=rfl
end
theorem iJ {ss:List Str}{i:Int}(h0:0<=i)(h1:i < (ss.length:Int)):ss.getD i.toNat "" ∈ ss:=by
 rw[List.getD_eq_getElem?_getD,List.getElem?_eq_getElem (by omega)];exact List.getElem_mem _
section
variable {P:Program}{w:World}{K:PySem.W.Frag}{mg:Str->Option Value}{base:Heap}{a:Adr}
def gLeaf:GC:=fun ts C Q=>∃(t k:Addr) (τ:List Str) (ns:List Int) (κ:Kt),ts=[.ref t,.ref k,.tup (τ.map PV.str)]/\Tp C t ns/\KAt C t k κ/\τ.length<=4/\∀(r:Rk) (C':CH),r.ok κ.bs τ 0->Tp C' t ns->Ex t C C'->Q r.pv C'
theorem eM (T:Txt P w K mg a):FnOk P w K mg base CX0 3 (a.f 6) (a.d 6) U3 (spC K gLeaf):=by
 have S:=(T.F 6 rfl).s;have vQ:=(bX (base:=base) T).mono (show 1<=2 by decide);have uJ:=gY (base:=base) T
 refine(T.F 6 rfl).ok (fun ts C R h=>?_) fun cdv A outer s H E hr=>⟨_,(xQ (cs1 3 S.nd (cf (T.F 3 rfl) vQ hr (qQ (cv 0) (ca1 zQ))))
  (xQ (qX (ct2 nX vX (cv 3) zQ) (wQ (mQ (bQ (qQ kQ (ca1 (cx (zX (qQ kQ (qQ kQ (ca1 kQ)))) (cf (T.F 3 rfl) vQ hr (qQ (cv 0) (ca1 zQ))))))))) rQ)
  (xQ (qX (ct2 nX vX (cv 3) zQ) (wQ (mQ (bQ (qQ kQ (ca1 (cx (zX (qQ kQ (qQ kQ (ca1 kQ)))) (cf (T.F 3 rfl) vQ hr (qQ (cv 0) (ca1 zQ))))))))) rQ)
  (xQ (qX (cw_pt (cw_and (ct2 wU vW (cv 3) zQ) (cw_and1 (ct2 uZ mX (cln T.zZ (fX (kX hr) (cv 1) kQ (fun _ _=>rfl))) zQ)))) (wQ (mQ (bQ (qQ kQ (ca1 (cx (fX (kX hr) (cv 1) kQ (fun _ _=>rfl)) (cf (T.F 3 rfl) vQ hr (qQ (cv 0) (ca1 (cln T.zZ (fX (kX hr) (cv 1) kQ (fun _ _=>rfl)))))))))))) rQ)
  (xQ (qX (cw_pt (cw_and (ct2 nX vX (cv 3) zQ) (cw_and1 (ct2 uZ mX (cln T.zZ (cv 2)) zQ)))) (wQ (mQ (bQ (qQ kQ (ca1 (cx (cv 2) (cf (T.F 3 rfl) vQ hr (qQ (cv 0) (ca1 (cln T.zZ (cv 2))))))))))) rQ)
  (wQ (mQ (bQ (qQ kQ (ca1 (cf (T.F 5 rfl) uJ hr (ca1 (cv 0))))))))))))),?_⟩
 .obtain ⟨t,k,τ,ns,κ,rfl,_⟩:=h; rfl
 rintro ts C R ⟨t,k,τ,ns,κ,rfl,hT,hk,hτ,q⟩;refine⟨t,6,ns,rfl,hT,by decide,by decide,fun v C1 v0 v1 T1 e1=>?_⟩
 try dsimp only
 have hk1:=hk.ex e1
 have tail:∀C2,Tp C2 t ns->Ex t C C2->dN [.ref t] C2 fun x C3=>2<=sizeLine/\R (.tup [.str "num",x]) C3:=by
  intro C2 T2 e2;refine⟨t,ns,rfl,T2,fun i C3 i0 i1 T3 e3=>⟨by decide,?_⟩⟩;exact q (.num i) C3 ⟨i0,i1⟩ T3 (e2.trans e3)
 refine bJ ?_;refine wZ (wX _ _) ?_;refine pX (fun hb=>?_) fun hb=>?_
 .refine ⟨by decide,fun p hp=>?_⟩
  refine⟨t,3,ns,rfl,T1.new hp _,by decide,by decide,fun i C2 i0 i1 T2 e2=>?_⟩;refine iQ (e2 p _ (T1.ne hp) jQ) (tZ (f:=PV.str) (ss:=["a","ab","b"]) "" i0 i1) ?_;refine⟨by show 2<=sizeLine; decide,?_⟩;exact q (.ask "take" _) C2 (.inl ⟨.inl rfl,iJ (ss:=["a","ab","b"]) i0 i1⟩) T2 ((e1.trans (Ex.new hp _)).trans e2)
 refine xX ?_
 try dsimp only
 refine bJ ?_;refine wZ (wX _ _) ?_;refine pX (fun hb=>?_) fun hb=>?_
 .refine ⟨by decide,fun p hp=>?_⟩
  refine⟨t,3,ns,rfl,T1.new hp _,by decide,by decide,fun i C2 i0 i1 T2 e2=>?_⟩;refine iQ (e2 p _ (T1.ne hp) jQ) (tZ (f:=PV.str) (ss:=["a","ab","b"]) "" i0 i1) ?_;refine⟨by show 2<=sizeLine; decide,?_⟩;exact q (.ask "down" _) C2 (.inl ⟨.inr rfl,iJ (ss:=["a","ab","b"]) i0 i1⟩) T2 ((e1.trans (Ex.new hp _)).trans e2)
 refine xX ?_
 try dsimp only
 refine pQ (fun ρ' C'=>C'=C1/\ρ'=[some (.ref t),some (.ref k),some (.tup (τ.map PV.str)),some (.int v)]) (fun L hL=>?_) ?_
 .refine i_i ?_
  refine pX (fun hb=>?_) fun hb=>?_
  .refine bZ hk1.at_ rfl jJ ?_
   refine vV hk1.bx ?_;refine i_i ?_;refine pX (fun hb2=>?_) fun hb2=>?_
   .refine bZ hk1.at_ rfl jJ ?_
    refine bZ hk1.at_ rfl jJ ?_;refine vV hk1.bx ?_;have hl:=hk1.lb;rw[List.length_map] at hb2 ⊢;have hb3:=of_decide_eq_true hb2;refine⟨t,_,ns,rfl,T1,hb3,by omega,fun i C2 i0 i1 T2 e2=>?_⟩;refine iQ ((hk1.ex e2).bx) (tZ (f:=PV.str) "" i0 i1) ?_;refine⟨by show 2<=sizeLine; decide,?_⟩;exact q (.ask "box" _) C2 (.inr ⟨rfl,iJ i0 i1⟩) T2 (e1.trans e2)
   .refine xX ?_
    exact hL _ _ ⟨rfl,rfl⟩
  .refine nW rfl ?_
   refine xX ?_;exact hL _ _ ⟨rfl,rfl⟩
 rintro ρ' C' ⟨rfl,rfl⟩
 try dsimp only
 refine pQ (fun ρ' C''=>C''=C'/\ρ'=[some (.ref t),some (.ref k),some (.tup (τ.map PV.str)),some (.int v)]) (fun L hL=>?_) ?_
 .refine wZ (wX _ _) ?_
  refine pX (fun hb=>?_) fun hb=>?_
  .refine kL ?_
   refine i_i ?_;refine pX (fun hb2=>?_) fun hb2=>?_
   .refine kL ?_
    rw[List.length_map] at hb2 ⊢;have hb3:=of_decide_eq_true hb2;refine⟨t,_,ns,rfl,T1,hb3,by omega,fun i C2 i0 i1 T2 e2=>?_⟩;refine yV (tZ (f:=PV.str) "" i0 i1) ?_;refine⟨by show 2<=sizeLine; decide,?_⟩;exact q (.turn _) C2 (iJ i0 i1) T2 (e1.trans e2)
   .refine xX ?_
    exact hL _ _ ⟨rfl,rfl⟩
  .refine nW rfl ?_
   refine xX ?_;exact hL _ _ ⟨rfl,rfl⟩
 rintro ρ' C'' ⟨rfl,rfl⟩
 try dsimp only
 exact tail _ T1 e1
end
theorem pN {b:Bool}{C:CH}{Q:K1}(q:Q (.int (if b then 1 else 0)) C):cInt [.bl b] C Q:=by
 unfold cInt;exact q
def rngP (m:Nat):List PV:=(List.range m).map fun k=>PV.int (k:Nat)
theorem wT (m:Nat):(rngP m).length=m:=by unfold rngP; rw[List.length_map,List.length_range]
section
variable {P:Program}{w:World}{K:PySem.W.Frag}{mg:Str->Option Value}{base:Heap}{a:Adr}
def yH (d:Nat):GC:=fun ts C Q=>∃(t k:Addr) (τ:List Str) (ns:List Int) (κ:Kt),ts=[.ref t,.ref k,.tup (τ.map PV.str),.int (d:Nat)]/\Tp C t ns/\KAt C t k κ/\τ.length<=4/\∀(r:Rk) (C':CH),r.ok κ.bs τ d->Tp C' t ns->Ex t C C'->Q r.pv C'
theorem uU (T:Txt P w K mg a)(d:Nat):FnOk P w K mg base CX0 (d+4) (a.f 7) (a.d 7) U0 (spC K (yH d)):=by
 have main:∀n,(∀d',n=d'+1->FnOk P w K mg base CX0 (d'+4) (a.f 7) (a.d 7) U0 (spC K (yH d')))->FnOk P w K mg base CX0 (n+4) (a.f 7) (a.d 7) U0 (spC K (yH n)):=by
  intro n ih;have S:=(T.F 7 rfl).s;have vQ:=(bX (base:=base) T).mono (show 1<=n+3 by omega);have pV:=(eM (base:=base) T).mono (show 3<=n+3 by omega)
  have qZ:FnOk P w K mg base CX0 (n+3) (a.f 7) (a.d 7) U0 (spC K (fun ts C Q=>∃d',n=d'+1/\yH d' ts C Q)):=by
   cases n with
   |zero=>exact⟨fun vs H Q E ⟨ts,C,R,_,_,⟨d',e,_⟩,_⟩=>by omega,fun _ _ _ _ _ _ _ _ _ _ _ _ _ ⟨ts,C,R,_,_,⟨d',e,_⟩,_⟩=>by omega⟩
   |succ d' =>
    have:=ih d' rfl
    have e:(fun ts C Q=>∃d'',d'+1=d''+1/\yH d'' ts C Q)=yH d':=by
     funext ts C Q
     refine propext ⟨fun⟨d'',e,h⟩=>?_,fun h=>⟨d',rfl,h⟩⟩;cases Nat.succ.inj e;exact h
    rw[e];exact this
  refine(T.F 7 rfl).ok (fun ts C R h=>?_) fun cdv A outer s H E hr=>⟨_,(xQ (cs1 4 S.nd (cf (T.F 3 rfl) vQ hr (qQ (cv 0) (ca1 zQ))))
  (xQ (qX (cw_pt (cw_or (ct2 nX vX (cv 3) zQ) (cw_or1 (ct2 wU vW (cv 4) zQ)))) (wQ (mQ (cf (T.F 6 rfl) pV hr (qQ (cv 0) (qQ (cv 1) (ca1 (cv 2))))))) rQ)
  (xQ (cs1 5 S.nd (cx (zX (qQ kQ (qQ kQ (qQ kQ (ca1 kQ))))) (sQ sZ iX (cv 4) zQ)))
  (xQ (cs1 6 S.nd (cx (zX (qQ zQ (ca1 zQ))) (kJ oV cG rfl T.iF rfl (ca1 (gV nX vX (cv 5) kQ (uK _))))))
  (wQ (mQ (sQ lX rX (bQ (ca1 (cv 5))) (ctp T.aX (aW rfl (S.c (by decide +kernel)) (S.k rfl rfl rfl (by decide +kernel)) (hU rfl T.aZ (ca1 (cv 6))) (fun _ _ _ _ _=>hZ) (fun _ _ _ _ _=>(cf (T.F 7 rfl) qZ hr (qQ (cv 1) (qQ (cv 2) (qQ (cv 3) (ca1 (sQ sZ iX (cv 4) zQ)))))))))))))))),?_⟩
  .obtain ⟨t,k,τ,ns,κ,rfl,_⟩:=h; rfl
  rintro ts C R ⟨t,k,τ,ns,κ,rfl,hT,hk,hτ,q⟩;refine⟨t,8,ns,rfl,hT,by decide,by decide,fun v C1 v0 v1 T1 e1=>?_⟩
  try dsimp only
  have hk1:=hk.ex e1
  have leaf:∀E':K1,E'=R->gLeaf [.ref t,.ref k,.tup (τ.map PV.str)] C1 E':=by
   rintro E' rfl;exact⟨t,k,τ,ns,κ,rfl,T1,hk1,hτ,fun r C2 hr T2 e2=>q r C2 (hr.mono (Nat.zero_le _)) T2 (e1.trans e2)⟩
  refine pQ (fun ρ' C'=>C'=C1/\0 < n/\4<=v/\ρ'=[some (.ref t),some (.ref k),some (.tup (τ.map PV.str)),some (.int (n:Nat)),some (.int v),none,none]) (fun L hL=>?_) ?_
  .refine wZ (wX _ _) ?_
   refine pX (fun hb=>?_) fun hb=>?_
   .refine if_y rfl ?_
    exact leaf _ rfl
   .refine i_i ?_
    refine pX (fun hb2=>?_) fun hb2=>?_
    .exact leaf _ rfl
    .refine xX ?_
     have:=of_decide_eq_false hb;have:=of_decide_eq_false hb2;exact hL _ _ ⟨rfl,by omega,by omega,rfl⟩
  rintro ρ' C' ⟨rfl,hn,hv,rfl⟩
  try dsimp only
  obtain⟨d',rfl⟩:∃d',n=d'+1:=⟨n - 1,by omega⟩
  have fin:∀(wd:Str) (m:Nat) (C2:CH),(m=2/\(wd = "add"\/wd = "times"\/wd = "less"))\/(m=3/\wd = "pick")->Tp C2 t ns->Ex t C C2 ->
    ∀(c:TCE) (ρ:CSt) (Q:K1),(∀x C3 (L:K1),Tp C3 t ns->Ex t C C3->(∀r C4,Rk.ok κ.bs τ d' r->Tp C4 t ns->Ex t C C4->L r.pv C4)->c (some x::ρ) C3 L)->(∀(p:Addr) (rs:List Rk) (C3:CH),Tp C3 t ns->Ex t C C3->C3 p=some (.lst (rs.map Rk.pv))->(∃r:Rk,r.ok κ.bs τ (d'+1)/\r.pv=.tup (.str wd::rs.map Rk.pv)/\rs.length<=3)->Q (.ref p) C3) ->
    cX cY c ρ Q (rngP m) [] C2:=by
   intro wd m C2 hw T2 e2 c ρ Q step fin;refine zM (fun zs acc C3=>Tp C3 t ns/\Ex t C C3/\∃rs:List Rk,acc=rs.map Rk.pv/\rs.length+zs.length=m/\∀r∈rs,Rk.ok κ.bs τ d' r) ?_ ?_ _ _ _ ⟨T2,e2,[],rfl,by rw[wT]; exact Nat.zero_add _,fun r hr=>nomatch hr⟩
   .rintro x r acc C3 ⟨T3,e3,rs,rfl,hl,ho⟩ L hL
    refine step x C3 L T3 e3 fun r4 C4 ok4 T4 e4=>hL _ _ ⟨?_,T4,e4,rs++[r4],by rw[List.map_append]; rfl,by rw[List.length_append,List.length_singleton]; rw[List.length_cons] at hl; omega,fun r hr=>?_⟩
    .rw [List.length_map]
     exact Nat.lt_of_lt_of_le (show rs.length < 4 by omega) (by decide)
    .rcases List.mem_append.1 hr with hr | hr
     .exact ho r hr
     .cases List.mem_singleton.1 hr; exact ok4
   .rintro acc C3 ⟨T3,e3,rs,rfl,hl,ho⟩ p hp
    refine fin p rs _ (T3.new hp _) (e3.trans (Ex.new hp _)) jQ ?_;rw[List.length_nil,Nat.add_zero] at hl
    rcases hw with ⟨rfl,hw⟩ | ⟨rfl,hw⟩
    .match rs,hl with
     |[x,y],_=>exact⟨.bin wd x y,by unfold Rk.ok; exact⟨hw,ho x (by simp),ho y (by simp)⟩,rfl,by show 2<=3; decide⟩
    .match rs,hl with
     |[x,y,z],_=>exact⟨.pick x y z,by unfold Rk.ok; exact⟨ho x (by simp),ho y (by simp),ho z (by simp)⟩,by rw[hw]; rfl,by show 3<=3; decide⟩
  refine gQ ?_;refine⟨by decide,fun p hp=>?_⟩;refine i_i ?_;have T2:=T1.new hp (.lst [PV.str "add",PV.str "times",PV.str "less",PV.str "pick"]);have e2:=e1.trans (Ex.new hp (.lst [PV.str "add",PV.str "times",PV.str "less",PV.str "pick"]));have cases4:v=4\/v=5\/v=6\/v=7:=by omega
  obtain⟨wd,m,hat,hw⟩:∃(wd:Str) (m:Nat),atI ([PV.str "add",PV.str "times",PV.str "less",PV.str "pick"]) (v - 4)=some (.str wd)/\((m=2/\(wd = "add"\/wd = "times"\/wd = "less"))\/(m=3/\wd = "pick")):=by
   rcases cases4 with rfl | rfl | rfl | rfl
   .exact ⟨"add",2,rfl,.inl ⟨rfl,.inl rfl⟩⟩
   .exact ⟨"times",2,rfl,.inl ⟨rfl,.inr (.inl rfl)⟩⟩
   .exact ⟨"less",2,rfl,.inl ⟨rfl,.inr (.inr rfl)⟩⟩
   .exact ⟨"pick",3,rfl,.inr ⟨rfl,rfl⟩⟩
  refine iQ jQ hat ?_
  try dsimp only
  refine gQ ?_;refine⟨by decide,fun p2 hp2=>?_⟩;refine wZ (nZ _ _) ?_;refine pN ?_
  have hat2:atI [PV.int 2,PV.int 3] (if decide (wd = "pick") then 1 else 0)=some (.int (m:Nat)):=by
   rcases hw with ⟨rfl,hw⟩ | ⟨rfl,rfl⟩
   .have:¬ wd = "pick":=by rcases hw with rfl | rfl | rfl<;>decide
    rw[decide_eq_false this]; rfl
   .rfl
  refine iQ jQ hat2 ?_
  try dsimp only
  refine⟨by show 1<=sizeLine; decide,?_⟩;have hm:m<=3:=by rcases hw with ⟨rfl,_⟩ | ⟨rfl,_⟩<;>decide
  refine⟨by omega,by omega,?_⟩;refine fin wd m _ hw (T2.new hp2 _) (e2.trans (Ex.new hp2 _)) _ _ _ (fun x C3 L T3 e3 hL=>?_) fun p3 rs C3 T3 e3 m3 hr=>?_
  .refine i_i ?_
   refine⟨d',rfl,t,k,τ,ns,κ,?_,T3,hk.ex e3,hτ,fun r C4 ok4 T4 e4=>hL r C4 ok4 T4 (e3.trans e4)⟩;have:((d'+1:Nat):Int) - 1=(d':Nat):=by omega
   rw[this]
  .obtain ⟨r,ok,ep,lr⟩:=hr
   refine tK m3 ?_;refine add_t (by show 1+_<=sizeLine; rw[List.length_map]; exact Nat.le_trans (show 1+rs.length<=4 by omega) (by decide)) ?_;have:=q r C3 ok T3 e3;rw[ep] at this;exact this
 induction d with
 |zero=>exact main 0 fun d' e=>by omega
 |succ d ih=>exact main (d+1) fun d' e=>by cases Nat.succ.inj e; exact ih
end
def zH:Option Rk->PV
 |none=>.non
 |some r=>r.pv
def dR (bs τ:List Str):Option Rk->Prop
 |none=>True
 |some r=>r.ok bs τ 0
def wK (c:Str×Rk):PV:=.tup [.str c.1,c.2.pv]
def nH (bs τ:List Str)(d:Nat)(ps:List (Str×Rk)):Prop:=∀c∈ps,c.2.ok bs τ d
theorem at_last {τ:List Str}(h:0 < τ.length):∃s∈τ,atI (τ.map PV.str) (-1)=some (.str s):=by
 unfold atI ixN;rw[if_neg (by decide),List.length_map,if_pos (by omega)];have:((τ.length:Int) + -1).toNat < τ.length:=by omega
 refine⟨τ[((τ.length:Int) + -1).toNat],List.getElem_mem _,?_⟩;show(τ.map PV.str)[((τ.length:Int) + -1).toNat]?=_;rw[List.getElem?_map,List.getElem?_eq_getElem this]
 rfl
theorem vA {t:TCT}{c:TCE}{i:Nat}{a:Addr}{xs:List PV}{ρ:CSt}{C:CH}{Q:K1}(h:C a=some (.lst xs))(hv:ρ[i]?=some (some (.ref a)))(q:mV (fun C=>C a=some (.lst xs)) t c ρ Q xs [] C):rY (qY i) t c ρ C Q:=by
 unfold rY qY;rw[hv];dsimp only;rw[h];exact q
theorem yJ {β:Type}{c:TCE}{ρ:CSt}{Q:K1}{p:Addr}{ss:List Str}(mk:Str×β->PV)(ok:β->Prop)(J:CH->Prop)(hJ:∀C,J C->C p=some (.lst (ss.map PV.str)))(hl:ss.length<=1000)
  (step:∀z C (L:K1),J C->(∀b C',ok b->J C'->L (mk (z,b)) C')->c (some (.str z)::ρ) C L)
  (fin:∀(bs:List (Str×β)) C p',J C->C p'=none->bs.map (·.1)=ss->(∀x∈bs,ok x.2)->Q (.ref p') (uQ C p' (.lst (bs.map mk)))) {C:CH} (hC:J C) :
  mV (fun C=>C p=some (.lst (ss.map PV.str))) cY c ρ Q (ss.map PV.str) [] C:=by
 refine jM (fun zs acc C=>J C/\∃(bs:List (Str×β)) (us:List Str),zs=us.map PV.str/\acc=bs.map mk/\bs.map (·.1)++us=ss/\∀x∈bs,ok x.2) (fun _ _ _ h=>hJ _ h.1) ?_ ?_ _ _ _ ⟨hC,[],ss,rfl,rfl,rfl,fun x h=>nomatch h⟩
 .rintro x r acc C1 ⟨j1,bs,us,hz,rfl,e,o⟩ L hL
  cases us with
  |nil=>cases hz
  |cons u us =>
   obtain⟨rfl,rfl⟩:=List.cons.inj hz;refine step u C1 L j1 fun b C' ob j'=>hL _ _ ⟨?_,j',bs++[(u,b)],us,rfl,by rw[List.map_append]; rfl,by rw[List.map_append,List.append_assoc]; exact e,fun x hx=>?_⟩
   .have:=congrArg List.length e
    rw[List.length_append,List.length_map,List.length_cons] at this;rw[List.length_map];exact Nat.lt_of_lt_of_le (show bs.length < 1001 by omega) (by decide)
   .rcases List.mem_append.1 hx with hx | hx
    .exact o x hx
    .cases List.mem_singleton.1 hx; exact ob
 .rintro acc C1 ⟨j1,bs,us,hz,rfl,e,o⟩ p' hp
  cases us with
  |nil=>rw[List.append_nil] at e; exact fin bs C1 p' j1 hp e o
  |cons u us=>cases hz
section
variable {P:Program}{w:World}{K:PySem.W.Frag}{mg:Str->Option Value}{base:Heap}{a:Adr}
def gKey:GC:=fun ts C Q=>∃(t k:Addr) (τ:List Str) (ns:List Int) (κ:Kt),ts=[.ref t,.ref k,.tup (τ.map PV.str)]/\Tp C t ns/\KAt C t k κ/\τ.length<=4/\∀(o:Option Rk) (C':CH),dR κ.bs τ o->Tp C' t ns->Ex t C C'->Q (zH o) C'
theorem oP (T:Txt P w K mg a):FnOk P w K mg base CX0 4 (a.f 8) (a.d 8) U3 (spC K gKey):=by
 have S:=(T.F 8 rfl).s;have vQ:=(bX (base:=base) T).mono (show 1<=3 by decide);have pV:=eM (base:=base) T
 refine(T.F 8 rfl).ok (fun ts C R h=>?_) fun cdv A outer s H E hr=>⟨_,(xQ (cs1 3 S.nd (cf (T.F 3 rfl) vQ hr (qQ (cv 0) (ca1 zQ))))
  (xQ (qX (ct2 wU vW (cv 3) zQ) (wQ (mQ uV)) rQ)
  (xQ (qX (cw_pt (cw_and (ct2 nX vX (cv 3) zQ) (cw_and1 (ct2 uZ mX (cln T.zZ (cv 2)) zQ)))) (wQ (mQ (bQ (qQ kQ (ca1 (cx (cv 2) (tN fM mG zQ))))))) rQ)
  (wQ (mQ (cf (T.F 6 rfl) pV hr (qQ (cv 0) (qQ (cv 1) (ca1 (cv 2)))))))))),?_⟩
 .obtain ⟨t,k,τ,ns,κ,rfl,_⟩:=h; rfl
 rintro ts C R ⟨t,k,τ,ns,κ,rfl,hT,hk,hτ,q⟩;refine⟨t,4,ns,rfl,hT,by decide,by decide,fun v C1 v0 v1 T1 e1=>?_⟩
 try dsimp only
 have hk1:=hk.ex e1;refine bJ ?_;refine i_i ?_;refine pX (fun hb=>?_) fun hb=>?_
 .exact q none C1 trivial T1 e1
 refine xX ?_
 try dsimp only
 refine pQ (fun ρ' C'=>C'=C1/\ρ'=[some (.ref t),some (.ref k),some (.tup (τ.map PV.str)),some (.int v)]) (fun L hL=>?_) ?_
 .refine wZ (wX _ _) ?_
  refine pX (fun hb=>?_) fun hb=>?_
  .refine kL ?_
   refine i_i ?_;refine pX (fun hb2=>?_) fun hb2=>?_
   .rw [List.length_map] at hb2
    have hb3:=of_decide_eq_true hb2;obtain⟨s,hs,es⟩:=at_last (τ:=τ) (by omega);refine yV es ?_;refine⟨by show 2<=sizeLine; decide,?_⟩;exact q (some (.turn s)) C1 hs T1 e1
   .refine xX ?_
    exact hL _ _ ⟨rfl,rfl⟩
  .refine nW rfl ?_
   refine xX ?_;exact hL _ _ ⟨rfl,rfl⟩
 rintro ρ' C' ⟨rfl,rfl⟩
 try dsimp only
 exact⟨t,k,τ,ns,κ,rfl,T1,hk1,hτ,fun r C2 hr T2 e2=>q (some r) C2 hr T2 (e1.trans e2)⟩
def gPairs:GC:=fun ts C Q=>∃(t k:Addr) (τ:List Str) (ns:List Int) (κ:Kt),ts=[.ref t,.ref k,.tup (τ.map PV.str),.int 2]/\Tp C t ns/\KAt C t k κ/\τ.length<=4/\∀(ps:List (Str×Rk)) (C':CH),nH κ.bs τ 2 ps->ps.length<=4->Tp C' t ns->Ex t C C'->Q (.tup (ps.map wK)) C'
theorem wO (T:Txt P w K mg a):FnOk P w K mg base CX0 7 (a.f 9) (a.d 9) U7 (spC K gPairs):=by
 have S:=(T.F 9 rfl).s;have vQ:=(bX (base:=base) T).mono (show 1<=6 by decide);have dX:=(jV (base:=base) T).mono (show 2<=6 by decide);have qZ:=uU (base:=base) T 2
 refine(T.F 9 rfl).ok (fun ts C R h=>?_) fun cdv A outer s H E hr=>⟨_,(xQ (cs1 4 S.nd (cf (T.F 4 rfl) dX hr (qQ (cv 0) (ca1 (cf (T.F 3 rfl) vQ hr (qQ (cv 0) (ca1 (sQ lX rX (cv 3) zQ))))))))
  (wQ (mQ (ctp T.aX (xK rfl (S.c (by decide +kernel)) (S.k rfl rfl rfl (by decide +kernel)) (cv 4) (fun _ _ _ _ _=>hZ) (fun _ _ _ _ _=>(bQ (qQ (cv 0) (ca1 (cf (T.F 7 rfl) qZ hr (qQ (cv 1) (qQ (cv 2) (qQ (cv 3) (ca1 zQ)))))))))))))),?_⟩
 .obtain ⟨t,k,τ,ns,κ,rfl,_⟩:=h; rfl
 rintro ts C R ⟨t,k,τ,ns,κ,rfl,hT,hk,hτ,q⟩;refine fV ?_;refine⟨t,3,ns,rfl,hT,by decide,by decide,fun v C1 v0 v1 T1 e1=>?_⟩;refine⟨t,v,ns,rfl,T1,v0,by omega,fun p ss C2 m2 n2 pt hl nd T2 e2=>?_⟩
 try dsimp only
 refine vA m2 rfl ?_;refine yJ (β:=Rk) wK (fun r=>r.ok κ.bs τ 2) (fun C'=>Tp C' t ns/\Ex t C C'/\C' p=some (.lst (ss.map PV.str))) (fun _ h=>h.2.2) (by omega) (fun z C3 L ⟨T3,e3,m3⟩ hL=>?_) (fun bs C3 p3 ⟨T3,e3,m3⟩ hp3 hb ho=>?_) ⟨T2,e1.trans e2,m2⟩
 .refine ⟨t,k,τ,ns,κ,rfl,T3,hk.ex e3,hτ,fun r C4 hr T4 e4=>⟨by show 2<=sizeLine; decide,hL r C4 hr ⟨T4,e3.trans e4,e4 _ _ pt m3⟩⟩⟩
 .refine tK jQ ?_
  exact q bs _ ho (by have:=congrArg List.length hb; rw[List.length_map] at this; omega) (T3.new hp3 _) (e3.trans (Ex.new hp3 _))
end
structure Hd where
 ev:Str
 rank:Int
 last:Bool
 ch:List (Str×Str×Rk)
def chPV (c:Str×Str×Rk):PV:=.tup [.str c.1,.str c.2.1,c.2.2.pv]
def Hd.pv (h:Hd):PV:=.tup [.str h.ev,.int h.rank,.bl h.last,.tup (h.ch.map chPV)]
def Hd.ok (bs τ:List Str)(h:Hd):Prop:=h.ch.length<=4/\∀c∈h.ch,c.2.2.ok bs τ 1
theorem Ex.put {t:Addr}{C C1:CH}{p:Addr}(g:Ex t C C1)(hp:C p=none)(o:CO):Ex t C (uQ C1 p o):=fun b u n e=>by
 rw[yQ (fun z=>by subst z; rw[hp] at e; cases e)];exact g b u n e
theorem Tp.put {C:CH}{t p:Addr}{ns:List Int}(h:Tp C t ns)(hp:p≠t)(o:CO):Tp (uQ C p o) t ns:=by
 obtain⟨⟨a,b,c,e,r⟩,l⟩:=h;exact⟨⟨a,b,c,by rw[yQ (Ne.symm hp)]; exact e,r⟩,l⟩
theorem Ex.none {t:Addr}{C C':CH}{p:Addr}(g:Ex t C C')(n:p≠t)(h:C' p=none):C p=none:=by
 cases e:C p with
 |none=>rfl
 |some o=>rw[g p o n e] at h; cases h
theorem bW {b:Addr}{xs:List PV}{g:TCG}{u:TCS}{E:lJ}(I:Nat->CSt->CH->Prop)(hm:∀i ρ C,I i ρ C->C b=some (.lst xs))(step:∀i x ρ C,xs[i]?=some x->I i ρ C->∀L:CSt->CH->Prop,(∀ρ' C',I (i+1) ρ' C'->L ρ' C')->g x ρ C fun ρ1 C1=>u { nx:=L,ct:=L,bk:=E.nx,rt:=E.rt } ρ1 C1)(fin:∀ρ C,I xs.length ρ C->E.nx ρ C):
  ∀n i ρ C,I i ρ C->i+n=xs.length+1->i<=xs.length->lK b g u E n i ρ C:=by
 intro n
 induction n with
 |zero=>intro i ρ C h h1 h2; omega
 |succ n ih =>
  intro i ρ C h h1 h2;unfold lK;rw[hm i ρ C h];dsimp only
  cases e:xs[i]? with
  |none =>
   have:xs.length<=i:=List.getElem?_eq_none_iff.1 e;have:i=xs.length:=by omega
   subst this;exact fin ρ C h
  |some x =>
   have hi:i < xs.length:=(List.getElem?_eq_some_iff.1 e).1;exact step i x ρ C e h _ fun ρ' C' h'=>ih (i+1) ρ' C' h' (by omega) (by omega)
theorem lC {b:Addr}{xs:List PV}{lo hi:Option Int}{C:CH}{Q:K1}(h:C b=some (.lst xs))(q:∀p,C p=none->Q (.ref p) (uQ C p (.lst (pY xs lo hi)))):cSlL (.ref b) lo hi C Q:=by
 unfold cSlL;dsimp only;rw[h];exact q
theorem cut_two (v:Int)(h0:0<=v)(h1:v < 3):pY [PV.str "tap",PV.str "key"] none (some v)=((["tap","key"]:List Str).take v.toNat).map PV.str:=by
 have:v=0\/v=1\/v=2:=by omega
 rcases this with rfl | rfl | rfl<;>rfl
section
variable {P:Program}{w:World}{K:PySem.W.Frag}{mg:Str->Option Value}{base:Heap}{a:Adr}
def gHands:GC:=fun ts C Q=>∃(t k:Addr) (τ:List Str) (ns:List Int) (κ:Kt),ts=[.ref t,.ref k,.tup (τ.map PV.str)]/\Tp C t ns/\KAt C t k κ/\τ.length<=4/\∀(hs:List Hd) (C':CH),(∀h∈hs,h.ok κ.bs τ)->hs.length<=4->Tp C' t ns->Ex t C C'->Q (.tup (hs.map Hd.pv)) C'
theorem bO (T:Txt P w K mg a):FnOk P w K mg base CX0 6 (a.f 10) (a.d 10) U3 (spC K gHands):=by
 have S:=(T.F 10 rfl).s;have vQ:=(bX (base:=base) T).mono (show 1<=5 by decide);have qZ:=uU (base:=base) T 1
 refine(T.F 10 rfl).ok (fun ts C R h=>?_) fun cdv A outer s H E hr=>⟨_,(xQ (cs1 3 S.nd (zX oZ))
  (xQ (pG PassesOwn.never rfl (dY (zX (qQ kQ (ca1 kQ))) sV (nV (cf (T.F 3 rfl) vQ hr (qQ (cv 0) (ca1 zQ))))) (cg1 4 S.nd) (xQ (cs1 5 S.nd (zX oZ))
  (xQ (qX (ct2 uZ mX (cln T.zZ (fX (kX hr) (cv 1) kQ (fun _ _=>rfl))) zQ) (wQ (fG PassesOwn.never rfl rfl T.aZ (ca1 (cf (T.F 3 rfl) vQ hr (qQ (cv 0) (ca1 zQ)))) (cg1 6 S.nd) (xQ (cs1 7 S.nd (cx (fX (kX hr) (cv 1) kQ (fun _ _=>rfl)) (cf (T.F 3 rfl) vQ hr (qQ (cv 0) (ca1 (cln T.zZ (fX (kX hr) (cv 1) kQ (fun _ _=>rfl))))))))
  (xQ (cs1 8 S.nd (cx (zX (qQ kQ (qQ kQ (ca1 kQ)))) (cf (T.F 3 rfl) vQ hr (qQ (cv 0) (ca1 zQ)))))
  (wQ (cK (cap (cv 5) (bQ (qQ (cv 7) (qQ (cv 8) (ca1 (cf (T.F 7 rfl) qZ hr (qQ (cv 0) (qQ (cv 1) (qQ (cv 2) (ca1 zQ)))))))))))))))) rQ)
  (wQ (cK (cap (cv 3) (bQ (qQ (cv 4) (qQ (sQ lX rX zQ (cf (T.F 3 rfl) vQ hr (qQ (cv 0) (ca1 zQ)))) (qQ (gV nX vX (cf (T.F 3 rfl) vQ hr (qQ (cv 0) (ca1 zQ))) zQ (uK _)) (ca1 (ctp T.aX (cv 5)))))))))))))
  (wQ (mQ (ctp T.aX (cv 3)))))),?_⟩
 .obtain ⟨t,k,τ,ns,κ,rfl,_⟩:=h; rfl
 rintro ts C R ⟨t,k,τ,ns,κ,rfl,hT,hk,hτ,q⟩;refine gQ ?_;refine⟨by show 0<=sizeLine; decide,fun h hh=>?_⟩;have nht:=hT.ne hh
 try dsimp only
 refine pQ (fun ρ' C'=>∃(hs:List Hd) (x4 x5 x6 x7 x8:Option PV),ρ'=[some (.ref t),some (.ref k),some (.tup (τ.map PV.str)),some (.ref h),x4,x5,x6,x7,x8]/\C' h=some (.lst (hs.map Hd.pv))/\hs.length<=2/\(∀h∈hs,h.ok κ.bs τ)/\Tp C' t ns/\Ex t C C') (fun L hL=>?_) ?_
 .refine ⟨by show 2<=sizeLine; decide,fun p1 hp1=>?_⟩
  have T1:=(hT.new hh (.lst [])).new hp1 (.lst [PV.str "tap",PV.str "key"]);refine⟨t,3,ns,rfl,T1,by decide,by decide,fun v C2 v0 v1 T2 e2=>?_⟩;have np1:p1≠t:=(hT.new hh (.lst [])).ne hp1;have m2:C2 p1=_:=e2 p1 _ np1 jQ;have nhp:h≠p1:=fun z=>by subst z; rw[jQ] at hp1; cases hp1
  have mh2:C2 h=some (.lst []):=e2 h _ nht (by rw[yQ nhp]; exact jQ);refine lC m2 fun p2 hp2=>?_;rw[cut_two v v0 v1];have np2:p2≠t:=T2.ne hp2;have nhp2:h≠p2:=fun z=>by subst z; rw[hp2] at mh2; cases mh2
  have e02:Ex t C C2:=fun b o n e=>e2 b o n (Gr.new hp1 _ _ _ (Gr.new hh _ _ _ e));generalize hss:(["tap","key"]:List Str).take v.toNat=ss;have hsl:ss.length<=2:=by rw[<- hss,List.length_take]; exact Nat.min_le_right _ _
  refine⟨ss.length+1,?_⟩;refine bW (xs:=ss.map PV.str) (fun i ρ C'=>C' p2=some (.lst (ss.map PV.str))/\∃(hs:List Hd) (x4 x5 x6 x7 x8:Option PV),ρ=[some (.ref t),some (.ref k),some (.tup (τ.map PV.str)),some (.ref h),x4,x5,x6,x7,x8]/\C' h=some (.lst (hs.map Hd.pv))/\hs.length=i/\i<=ss.length/\(∀h∈hs,h.ok κ.bs τ)/\Tp C' t ns/\Ex t C C') (fun _ _ _ h=>h.1) ?_ ?_ _ 0 _ _ ⟨jQ,[],_,_,_,_,_,rfl,?_,rfl,Nat.zero_le _,(fun _ z=>nomatch z),T2.new hp2 _,e02.trans (Ex.new hp2 _)⟩ (by rw[List.length_map]; omega) (Nat.zero_le _)
  .rintro i x ρ C3 hx ⟨m3,hs,x4,x5,x6,x7,x8,rfl,mh,hl,hi,ho,T3,e3⟩ L1 hL1
   have hx':∃z:Str,x=.str z:=by
    rw[List.getElem?_map] at hx
    cases z:ss[i]? with
    |none=>rw[z] at hx; cases hx
    |some u=>rw[z] at hx; cases hx; exact⟨u,rfl⟩
   have hi':i < ss.length:=by
    have:=(List.getElem?_eq_some_iff.1 hx).1;rw[List.length_map] at this;exact this
   obtain⟨ev,rfl⟩:=hx';refine gQ ?_;refine⟨by show 0<=sizeLine; decide,fun c hc=>?_⟩;have nct:=T3.ne hc;have nch:c≠h:=fun z=>by subst z; rw[mh] at hc; cases hc
   have ncp:c≠p2:=fun z=>by subst z; rw[m3] at hc; cases hc
   have hc0:C c=none:=e3.none nct hc
   try dsimp only
   refine pQ (fun ρ' C'=>∃(cs:List (Str×Str×Rk)) (x6 x7 x8:Option PV),ρ'=[some (.ref t),some (.ref k),some (.tup (τ.map PV.str)),some (.ref h),some (.str ev),some (.ref c),x6,x7,x8]/\C' c=some (.lst (cs.map chPV))/\cs.length<=2/\(∀c∈cs,c.2.2.ok κ.bs τ 1)/\C' h=some (.lst (hs.map Hd.pv))/\C' p2=some (.lst (ss.map PV.str))/\Tp C' t ns/\Ex t C C') (fun L2 hL2=>?_) ?_
   .have k3:=hk.ex (e3.put hc0 (.lst []))
    refine bZ k3.at_ rfl jJ ?_;refine vV k3.bx ?_;refine i_i ?_;have T3':=T3.new hc (.lst []);have e3':Ex t C (uQ C3 c (.lst [])):=e3.put hc0 _;have mh':uQ C3 c (.lst []) h=some (.lst (hs.map Hd.pv)):=by rw[yQ (Ne.symm nch)]; exact mh
    have mp':uQ C3 c (.lst []) p2=some (.lst (ss.map PV.str)):=by rw[yQ (Ne.symm ncp)]; exact m3
    refine pX (fun hb=>?_) fun hb=>?_
    .rw [List.length_map] at hb
     have hb3:=of_decide_eq_true hb;refine⟨t,3,ns,rfl,T3',by decide,by decide,fun n C4 n0 n1 T4 e4=>?_⟩;refine⟨by omega,by omega,?_⟩;refine wJ (fun zs ρ C'=>∃(cs:List (Str×Str×Rk)) (x6 x7 x8:Option PV),ρ=[some (.ref t),some (.ref k),some (.tup (τ.map PV.str)),some (.ref h),some (.str ev),some (.ref c),x6,x7,x8]/\C' c=some (.lst (cs.map chPV))/\cs.length+zs.length<=2/\(∀c∈cs,c.2.2.ok κ.bs τ 1)/\C' h=some (.lst (hs.map Hd.pv))/\C' p2=some (.lst (ss.map PV.str))/\Tp C' t ns/\Ex t C C') ?_ ?_ _ _ _ ⟨[],_,_,_,rfl,e4 _ _ nct jQ,by rw[List.length_map,List.length_range]; show 0+_<=2; omega,(fun _ z=>nomatch z),e4 _ _ nht mh',e4 _ _ np2 mp',T4,e3'.trans e4⟩
     .rintro z zs ρ C5 ⟨cs,y6,y7,y8,rfl,mc,hcl,hco,mh5,mp5,T5,e5⟩ L3 hL3
      have k5:=hk.ex e5;refine gQ ?_;refine bZ k5.at_ rfl jJ ?_;refine bZ k5.at_ rfl jJ ?_;refine vV k5.bx ?_;have lb:=hk.lb;rw[List.length_map];refine⟨t,_,ns,rfl,T5,hb3,by omega,fun i C6 i0 i1 T6 e6=>?_⟩;refine iQ ((k5.ex e6).bx) (tZ (f:=PV.str) "" i0 i1) ?_
      try dsimp only
      refine gQ ?_;refine⟨by show 3<=sizeLine; decide,fun p4 hp4=>?_⟩;refine⟨t,3,ns,rfl,T6.new hp4 _,by decide,by decide,fun j C7 j0 j1 T7 e7=>?_⟩;refine iQ (e7 p4 _ (T6.ne hp4) jQ) (tZ (f:=PV.str) (ss:=["set","add","times"]) "" j0 j1) ?_;have e67:Ex t C6 C7:=(Ex.new hp4 _).trans e7;have e57:Ex t C5 C7:=e6.trans e67
      try dsimp only
      refine⟨bU (e57 _ _ nct mc),?_⟩;refine⟨t,k,τ,ns,κ,rfl,T7,k5.ex e57,hτ,fun r C8 hr T8 e8=>⟨by show 3<=sizeLine; decide,?_⟩⟩;have e58:Ex t C5 C8:=e57.trans e8;refine xC (e58 _ _ nct mc) (by rw[List.length_map]; exact Nat.lt_of_lt_of_le (show cs.length < 3 by rw[List.length_cons] at hcl; omega) (by decide)) ?_;refine hL3 _ _ ⟨cs++[(_,_,r)],_,_,_,rfl,by rw[jQ,List.map_append]; rfl,by rw[List.length_append,List.length_singleton]; rw[List.length_cons] at hcl; omega,fun c' hc'=>?_,?_,?_,T8.put nct _,(e5.trans e58).put hc0 _⟩
      .rcases List.mem_append.1 hc' with hc' | hc'
       .exact hco c' hc'
       .cases List.mem_singleton.1 hc'; exact hr
      .rw [yQ (Ne.symm nch)]; exact e58 _ _ nht mh5
      .rw [yQ (Ne.symm ncp)]; exact e58 _ _ np2 mp5
     .rintro ρ C5 ⟨cs,y6,y7,y8,rfl,mc,hcl,hco,mh5,mp5,T5,e5⟩
      exact hL2 _ _ ⟨cs,_,_,_,rfl,mc,by omega,hco,mh5,mp5,T5,e5⟩
    .refine xX ?_
     exact hL2 _ _ ⟨[],_,_,_,rfl,jQ,Nat.zero_le _,(fun _ z=>nomatch z),mh',mp',T3',e3'⟩
   rintro ρ' C4 ⟨cs,y6,y7,y8,rfl,mc,hcl,hco,mh4,mp4,T4,e4⟩
   try dsimp only
   refine⟨bU mh4,?_⟩;refine⟨t,3,ns,rfl,T4,by decide,by decide,fun rk C5 r0 r1 T5 e5=>?_⟩;refine fV ?_;refine⟨t,2,ns,rfl,T5,by decide,by decide,fun z C6 z0 z1 T6 e6=>?_⟩;refine wZ (wX _ _) ?_;have e46:=e5.trans e6;refine tK (e46 _ _ nct mc) ?_;refine⟨by show 4<=sizeLine; decide,?_⟩;refine xC (e46 _ _ nht mh4) (by rw[List.length_map]; exact Nat.lt_of_lt_of_le (show hs.length < 3 by omega) (by decide)) ?_
   refine hL1 _ _ ⟨by rw[yQ (Ne.symm nhp2)]; exact e46 _ _ np2 mp4,hs++[⟨ev,1+rk,decide (z=0),cs⟩],_,_,_,_,_,rfl,by rw[jQ,List.map_append]; rfl,by rw[List.length_append,List.length_singleton,hl],hi',fun h' hh'=>?_,T6.put nht _,(e4.trans e46).put hh _⟩
   rcases List.mem_append.1 hh' with hh' | hh'
   .exact ho h' hh'
   .cases List.mem_singleton.1 hh'; exact⟨by show cs.length<=4; omega,hco⟩
  .rintro ρ C3 ⟨m3,hs,x4,x5,x6,x7,x8,rfl,mh,hl,hi,ho,T3,e3⟩
   exact hL _ _ ⟨hs,_,_,_,_,_,rfl,mh,by omega,ho,T3,e3⟩
  .rw [yQ nhp2]; exact mh2
 rintro ρ' C' ⟨hs,x4,x5,x6,x7,x8,rfl,mh,hl,ho,T',e'⟩
 try dsimp only
 refine tK mh ?_;exact q hs C' ho (by omega) T' e'
end
inductive Ln where
 |plain (k:Option Rk) (tag:Str) (sets:List (Str×Rk)) (hands:List Hd) (ls:List Ln)
 |part (k:Option Rk) (name:Str) (gives:List (Str×Rk))
 |give (k:Option Rk) (name:Str) (r:Rk) (ls:List Ln)
 |when (r:Rk) (l1 l2:List Ln)
 |each (name:Str) (r:Rk) (ls:List Ln)
mutual
def Ln.pv:Ln->PV
 |.plain k tag s h ls=>.tup [.str "plain",zH k,.str tag,.tup (s.map wK),.tup (h.map Hd.pv),.tup (Ln.pvs ls)]
 |.part k n g=>.tup [.str "part",zH k,.str n,.tup (g.map wK)]
 |.give k n r ls=>.tup [.str "give",zH k,.str n,r.pv,.tup (Ln.pvs ls)]
 |.when r l1 l2=>.tup [.str "when",r.pv,.tup (Ln.pvs l1),.tup (Ln.pvs l2)]
 |.each n r ls=>.tup [.str "each",.str n,r.pv,.tup (Ln.pvs ls)]
def Ln.pvs:List Ln->List PV
 |[]=>[]
 |l::ls=>l.pv::Ln.pvs ls
end
theorem Ln.pvs_map (ls:List Ln):Ln.pvs ls=ls.map Ln.pv:=by
 induction ls with
 |nil=>rfl
 |cons l ls ih=>rw[List.map_cons,<- ih]; rfl
mutual
def Ln.tw:Ln->Nat
 |.plain _ _ _ _ ls=>1+Ln.tws ls
 |.part _ _ _=>1
 |.give _ _ _ ls=>1+Ln.tws ls
 |.when _ l1 l2=>Ln.tws l1+Ln.tws l2
 |.each _ _ ls=>8 * Ln.tws ls
def Ln.tws:List Ln->Nat
 |[]=>0
 |l::ls=>l.tw+Ln.tws ls
end
mutual
def Ln.pw:Ln->Nat
 |.plain _ _ _ _ ls=>Ln.pws ls
 |.part _ _ _=>1
 |.give _ _ _ ls=>Ln.pws ls
 |.when _ l1 l2=>Ln.pws l1+Ln.pws l2
 |.each _ _ ls=>8 * Ln.pws ls
def Ln.pws:List Ln->Nat
 |[]=>0
 |l::ls=>l.pw+Ln.pws ls
end
theorem Ln.tws_app (xs ys:List Ln):Ln.tws (xs++ys)=Ln.tws xs+Ln.tws ys:=by
 induction xs with
 |nil=>show _=0+_; rw[Nat.zero_add]; rfl
 |cons x xs ih=>show x.tw+Ln.tws (xs++ys)=x.tw+Ln.tws xs+Ln.tws ys; rw[ih]; omega
theorem Ln.pws_app (xs ys:List Ln):Ln.pws (xs++ys)=Ln.pws xs+Ln.pws ys:=by
 induction xs with
 |nil=>show _=0+_; rw[Nat.zero_add]; rfl
 |cons x xs ih=>show x.pw+Ln.pws (xs++ys)=x.pw+Ln.pws xs+Ln.pws ys; rw[ih]; omega
def LnOk (bs rs:List Str):Nat->List Str->Ln->Prop
 |0,_,_=>False
 |d+1,τ,.plain k _ s h ls=>dR bs τ k/\(nH bs τ 2 s/\s.length<=4)/\((∀x∈h,x.ok bs τ)/\h.length<=4)/\(∀x∈ls,LnOk bs rs d τ x)/\ls.length<=6
 |_+1,τ,.part k n g=>dR bs τ k/\n∈rs/\nH bs τ 1 g/\g.length<=4
 |d+1,τ,.give k n r ls=>dR bs τ k/\n∈(["a","ab","b"]:List Str)/\r.ok bs τ 1/\(∀x∈ls,LnOk bs rs d τ x)/\ls.length<=6
 |d+1,τ,.when r l1 l2=>r.ok bs τ 1/\((∀x∈l1,LnOk bs rs d τ x)/\l1.length<=6)/\(∀x∈l2,LnOk bs rs d τ x)/\l2.length<=6
 |d+1,_,.each n r ls=>r.ok bs [] 0/\(∀x∈ls,LnOk bs rs d [n] x)/\ls.length<=6
theorem LnOk.up {bs rs:List Str}:∀{d:Nat}{τ:List Str}{l:Ln},LnOk bs rs d τ l->LnOk bs rs (d+1) τ l:=by
 intro d
 induction d with
 |zero=>intro τ l h; exact h.elim
 |succ d ih =>
  intro τ l h
  cases l with
  |plain k t s hh ls=>obtain⟨h1,h2,h3,h4,h5⟩:=h; exact⟨h1,h2,h3,fun x hx=>ih (h4 x hx),h5⟩
  |part k n g=>exact h
  |give k n r ls=>obtain⟨h1,h2,h3,h4,h5⟩:=h; exact⟨h1,h2,h3,fun x hx=>ih (h4 x hx),h5⟩
  |when r l1 l2=>obtain⟨h1,⟨h2,h3⟩,h4,h5⟩:=h; exact⟨h1,⟨fun x hx=>ih (h2 x hx),h3⟩,fun x hx=>ih (h4 x hx),h5⟩
  |each n r ls=>obtain⟨h1,h2,h3⟩:=h; exact⟨h1,fun x hx=>ih (h2 x hx),h3⟩
theorem LnOk.mono {bs rs:List Str}{d e:Nat}{τ:List Str}{l:Ln}(h:LnOk bs rs d τ l)(le:d<=e):LnOk bs rs e τ l:=by
 induction le with
 |refl=>exact h
 |step _ ih=>exact ih.up
structure Chg (κ κ':Kt):Prop where
 b:κ'.b=κ.b
 r:κ'.r=κ.r
 bs:κ'.bs=κ.bs
 rs:κ'.rs=κ.rs
 la:κ'.la=κ.la
 l0:0<=κ'.l
 l1:κ'.l<=κ.l
 p0:0<=κ'.p
 p1:κ'.p<=κ.p
 e0:0<=κ'.e
 e1:κ'.e<=κ.e
structure Kok (κ:Kt)(e:Nat)(τ:List Str):Prop where
 l0:0<=κ.l
 l1:κ.l<=6
 p0:0<=κ.p
 p1:κ.p<=2
 e0:0<=κ.e
 e1:κ.e<=(e:Nat)
 t:0 < e->τ=[]
 ly:0 < κ.e->∀s,κ.la=some s->s∈κ.rs
 tl:τ.length<=4
theorem Chg.refl {κ:Kt}{e:Nat}{τ:List Str}(h:Kok κ e τ):Chg κ κ:=⟨rfl,rfl,rfl,rfl,rfl,h.l0,Int.le_refl _,h.p0,Int.le_refl _,h.e0,Int.le_refl _⟩
theorem Chg.trans {κ κ1 κ2:Kt}(h:Chg κ κ1)(g:Chg κ1 κ2):Chg κ κ2:=⟨g.b.trans h.b,g.r.trans h.r,g.bs.trans h.bs,g.rs.trans h.rs,g.la.trans h.la,g.l0,Int.le_trans g.l1 h.l1,g.p0,Int.le_trans g.p1 h.p1,g.e0,Int.le_trans g.e1 h.e1⟩
theorem Kok.chg {κ κ':Kt}{e:Nat}{τ:List Str}(h:Kok κ e τ)(g:Chg κ κ'):Kok κ' e τ:=⟨g.l0,Int.le_trans g.l1 h.l1,g.p0,Int.le_trans g.p1 h.p1,g.e0,Int.le_trans g.e1 h.e1,h.t,fun z s hs=>by rw[g.rs]; exact h.ly (Int.lt_of_lt_of_le z g.e1) s (by rw[<- g.la]; exact hs),h.tl⟩
def zOf (κ:Kt):Int:=if κ.la.isSome then 16 else 0
theorem zOf_chg {κ κ':Kt}(g:Chg κ κ'):zOf κ'=zOf κ:=by unfold zOf; rw[g.la]
def mOf (e:Nat):Int:=if e=0 then 1 else 8
def eZ (e d:Nat):Nat:=if e=0 then d+1 else d+3
structure Wgt (e:Nat)(τ:List Str)(κ κ':Kt)(extra:Int)(tw pw:Nat):Prop where
 t:(tw:Int)<=mOf e * (extra+(κ.l - κ'.l))
 p:(pw:Int)<=(κ.p - κ'.p)+zOf κ * (κ.e - κ'.e)
 n:τ≠[]->pw=0/\κ'.p=κ.p
theorem ExS.ofEx {t k:Addr}{C C':CH}(h:Ex t C C'):ExS [t,k] C C':=fun b o n e=>h b o (fun z=>n (by rw[z]; exact List.mem_cons_self)) e
section
variable {P:Program}{w:World}{K:PySem.W.Frag}{mg:Str->Option Value}{base:Heap}{a:Adr}
def iR:GC:=fun ts C Q=>∃(t k:Addr) (τ:List Str) (ns:List Int) (κ:Kt) (name:Str),ts=[.ref t,.ref k,.tup (τ.map PV.str),.str name]/\Tp C t ns/\KAt C t k κ/\τ.length<=4/\∀(o:Option Rk) (g:List (Str×Rk)) (C':CH),dR κ.bs τ o->nH κ.bs τ 1 g->g.length<=4->Tp C' t ns->Ex t C C'->Q (Ln.part o name g).pv C'
theorem jS (v:Int)(h0:0<=v)(h1:v < 4):pY [PV.str "a",PV.str "ab",PV.str "b"] none (some v)=((["a","ab","b"]:List Str).take v.toNat).map PV.str:=by
 have:v=0\/v=1\/v=2\/v=3:=by omega
 rcases this with rfl | rfl | rfl | rfl<;>rfl
theorem rev_s {b:Addr}{xs:List PV}{C:CH}{Q:K1}(h:C b=some (.lst xs))(q:Q .non (uQ C b (.lst xs.reverse))):xY (.ref b) [] C Q:=by
 unfold xY;dsimp only;rw[h];exact q
theorem hW (T:Txt P w K mg a):FnOk P w K mg base CX0 6 (a.f 12) (a.d 12) U8 (spC K iR):=by
 have S:=(T.F 12 rfl).s;have vQ:=(bX (base:=base) T).mono (show 1<=5 by decide);have kY:=(oP (base:=base) T).mono (show 4<=5 by decide);have qZ:=uU (base:=base) T 1
 refine(T.F 12 rfl).ok (fun ts C R h=>?_) fun cdv A outer s H E hr=>⟨_,(xQ (cs1 4 S.nd (cf (T.F 8 rfl) kY hr (qQ (cv 0) (qQ (cv 1) (ca1 (cv 2))))))
  (xQ (cs1 5 S.nd (dY (zX (qQ kQ (qQ kQ (ca1 kQ)))) sV (nV (cf (T.F 3 rfl) vQ hr (qQ (cv 0) (ca1 zQ))))))
  (xQ (qX (ct2 nX vX (cf (T.F 3 rfl) vQ hr (qQ (cv 0) (ca1 zQ))) zQ) (wQ (cK (ce_bm0 PySem.F.plainAttrs_list PySem.F.slot_list_reverse PySem.F.type_list_reverse tP tL (cv 5)))) rQ)
  (wQ (mQ (bQ (qQ kQ (qQ (cv 4) (qQ (cv 3) (ca1 (ctp T.aX (xK rfl (S.c (by decide +kernel)) (S.k rfl rfl rfl (by decide +kernel)) (cv 5) (fun _ _ _ _ _=>hZ) (fun _ _ _ _ _=>(bQ (qQ (cv 0) (ca1 (cf (T.F 7 rfl) qZ hr (qQ (cv 1) (qQ (cv 2) (qQ (cv 3) (ca1 zQ))))))))))))))))))))),?_⟩
 .obtain ⟨t,k,τ,ns,κ,name,rfl,_⟩:=h; rfl
 rintro ts C R ⟨t,k,τ,ns,κ,name,rfl,hT,hk,hτ,q⟩;refine gQ ?_;refine⟨t,k,τ,ns,κ,rfl,hT,hk,hτ,fun o C1 ho T1 e1=>?_⟩
 try dsimp only
 refine gQ ?_;refine⟨by show 3<=sizeLine; decide,fun p1 hp1=>?_⟩;refine⟨t,4,ns,rfl,T1.new hp1 _,by decide,by decide,fun v C2 v0 v1 T2 e2=>?_⟩;have m2:C2 p1=_:=e2 p1 _ (T1.ne hp1) jQ;have e02:Ex t C C2:=fun b o n e=>e2 b o n (Gr.new hp1 _ _ _ (e1 b o n e));refine lC m2 fun p2 hp2=>?_;rw[jS v v0 v1];have np2:p2≠t:=T2.ne hp2;have hp20:C p2=none:=e02.none np2 hp2;generalize hss:(["a","ab","b"]:List Str).take v.toNat=ss
 have hsl:ss.length<=3:=by rw[<- hss,List.length_take]; exact Nat.min_le_right _ _
 try dsimp only
 refine pQ (fun ρ' C'=>∃us:List Str,us.length=ss.length/\ρ'=[some (.ref t),some (.ref k),some (.tup (τ.map PV.str)),some (.str name),some (zH o),some (.ref p2)]/\C' p2=some (.lst (us.map PV.str))/\Tp C' t ns/\Ex t C C') (fun L hL=>?_) ?_
 .refine ⟨t,2,ns,rfl,T2.new hp2 _,by decide,by decide,fun z C3 z0 z1 T3 e3=>?_⟩
  have m3:C3 p2=_:=e3 p2 _ np2 jQ;have e03:Ex t C C3:=(e02.put hp20 _).trans e3;refine wZ (wX _ _) ?_;refine pX (fun hb=>?_) fun hb=>?_
  .refine ⟨bU m3,?_⟩
   refine rev_s m3 ?_;exact hL _ _ ⟨ss.reverse,List.length_reverse,rfl,by rw[jQ,List.map_reverse],T3.put np2 _,e03.put hp20 _⟩
  .refine xX ?_
   exact hL _ _ ⟨ss,rfl,rfl,m3,T3,e03⟩
 rintro ρ' C3 ⟨us,hus,rfl,m3,T3,e3⟩
 try dsimp only
 refine vA m3 rfl ?_;refine yJ (β:=Rk) wK (fun r=>r.ok κ.bs τ 1) (fun C'=>Tp C' t ns/\Ex t C C'/\C' p2=some (.lst (us.map PV.str))) (fun _ h=>h.2.2) (by omega) (fun z C4 L ⟨T4,e4,m4⟩ hL=>?_) (fun bs C4 p3 ⟨T4,e4,m4⟩ hp3 hb hbo=>?_) ⟨T3,e3,m3⟩
 .refine ⟨t,k,τ,ns,κ,rfl,T4,hk.ex e4,hτ,fun r C5 hr T5 e5=>⟨by show 2<=sizeLine; decide,hL r C5 hr ⟨T5,e4.trans e5,e5 _ _ np2 m4⟩⟩⟩
 .refine tK jQ ?_
  refine⟨by show 4<=sizeLine; decide,?_⟩;exact q o bs _ ho hbo (by have:=congrArg List.length hb; rw[List.length_map] at this; omega) (T4.new hp3 _) (e4.trans (Ex.new hp3 _))
end
theorem rW (e:Nat):mOf e=1\/mOf e=8:=by unfold mOf; split; exact .inl rfl; exact .inr rfl
theorem Wgt.one {e:Nat}{τ:List Str}{κ κ':Kt}{tw pw:Nat}(h:Wgt e τ κ κ' 0 tw pw):Wgt e τ κ κ' 1 (1+tw) pw:=by
 refine⟨?_,h.p,h.n⟩;have:=h.t
 rcases rW e with z | z<;>rw[z] at this ⊢ <;> omega
theorem Wgt.up {e:Nat}{τ:List Str}{κ κ':Kt}{tw pw:Nat}(h:Wgt e τ κ κ' 0 tw pw):Wgt e τ κ κ' 1 tw pw:=by
 refine⟨?_,h.p,h.n⟩;have:=h.t
 rcases rW e with z | z<;>rw[z] at this ⊢ <;> omega
theorem Wgt.add {e:Nat}{τ:List Str}{κ κ1 κ2:Kt}{x y:Int}{t1 t2 p1 p2:Nat}(h:Wgt e τ κ κ1 x t1 p1)(g:Wgt e τ κ1 κ2 y t2 p2)(c:Chg κ κ1):Wgt e τ κ κ2 (x+y) (t1+t2) (p1+p2):=by
 refine⟨?_,?_,fun z=>?_⟩
 .have h1:=h.t
  have h2:=g.t
  rcases rW e with z | z<;>rw[z] at h1 h2 ⊢ <;> omega
 .have h1:=h.p
  have h2:=g.p;rw[zOf_chg c] at h2
  have:zOf κ * (κ.e - κ1.e)+zOf κ * (κ1.e - κ2.e)=zOf κ * (κ.e - κ2.e):=by
   rw[<- Int.mul_add]
   congr 1
   omega
  omega
 .obtain ⟨a1,a2⟩:=h.n z
  obtain⟨b1,b2⟩:=g.n z;exact⟨by omega,b2.trans a2⟩
theorem Wgt.nil {e:Nat}{τ:List Str}{κ:Kt}:Wgt e τ κ κ 0 0 0:=by
 refine⟨?_,?_,fun _=>⟨rfl,rfl⟩⟩
 .rcases rW e with z | z<;>rw[z]<;>omega
 .rw [Int.sub_self,Int.sub_self,Int.mul_zero]; decide
theorem KAt.put {C:CH}{t k:Addr}{κ:Kt}(h:KAt C t k κ)(l p e:Int)(la:Option Str):KAt (uQ C k (.dK (aQ κ.b κ.r l p e (oK la)))) t k { κ with l:=l,p:=p,e:=e,la:=la }:=by
 have n1:κ.b≠k:=fun z=>by have:=h.bx; rw[z,h.at_] at this; cases this
 have n2:κ.r≠k:=fun z=>by have:=h.rx; rw[z,h.at_] at this; cases this
 exact⟨jQ,by show uQ C k _ κ.b=_; rw[yQ n1]; exact h.bx,by show uQ C k _ κ.r=_; rw[yQ n2]; exact h.rx,h.nk,h.nb,h.nr,h.lb,h.lr⟩
def kW (e d:Nat):GC:=fun ts C Q=>∃(t k:Addr) (τ:List Str) (ns:List Int) (κ:Kt),ts=[.ref t,.ref k,.tup (τ.map PV.str),.int (d:Nat)]/\Tp C t ns/\KAt C t k κ/\Kok κ e τ /\
 ∀(ls:List Ln) (κ':Kt) (C':CH),(∀x∈ls,LnOk κ.bs κ.rs (eZ e d) τ x)->ls.length<=6->Wgt e τ κ κ' 0 (Ln.tws ls) (Ln.pws ls)->Chg κ κ'->Tp C' t ns->KAt C' t k κ'->ExS [t,k] C C'->Q (.tup (Ln.pvs ls)) C'
def mU (e d:Nat):GC:=fun ts C Q=>∃(t k:Addr) (τ:List Str) (ns:List Int) (κ:Kt),ts=[.ref t,.ref k,.tup (τ.map PV.str),.int (d:Nat)]/\Tp C t ns/\KAt C t k κ/\Kok κ e τ /\
 ∀(l:Ln) (κ':Kt) (C':CH),LnOk κ.bs κ.rs (eZ e d) τ l->Wgt e τ κ κ' 1 l.tw l.pw->Chg κ κ'->Tp C' t ns->KAt C' t k κ'->ExS [t,k] C C'->Q l.pv C'
def jF (e d:Nat):GC:=fun ts C Q=>∃d',d=d'+1/\kW e d' ts C Q
theorem dU (e d:Nat):eZ e (d+1)=eZ e d+1:=by unfold eZ; split<;>rfl
theorem qM (e d:Nat):∃n,eZ e d=n+1:=by unfold eZ; split; exact⟨_,rfl⟩; exact⟨d+2,rfl⟩
section
variable {P:Program}{w:World}{K:PySem.W.Frag}{mg:Str->Option Value}{base:Heap}{a:Adr}
theorem nD (T:Txt P w K mg a)(e d r:Nat)(h7:7<=r)(rZ:FnOk P w K mg base CX0 r (a.f 15) (a.d 15) U0 (spC K (jF e d))):
  FnOk P w K mg base CX0 (r+1) (a.f 11) (a.d 11) U0 (spC K (mU e d)):=by
 have S:=(T.F 11 rfl).s;have vQ:=(bX (base:=base) T).mono (show 1<=r by omega);have dX:=(jV (base:=base) T).mono (show 2<=r by omega);have kY:=(oP (base:=base) T).mono (show 4<=r by omega);have pS:=(wO (base:=base) T).mono (show 7<=r by omega);have cS:=(bO (base:=base) T).mono (show 6<=r by omega)
 refine(T.F 11 rfl).ok (fun ts C R h=>?_) fun cdv A outer s H E hr=>⟨_,(xQ (cs1 4 S.nd (cf (T.F 8 rfl) kY hr (qQ (cv 0) (qQ (cv 1) (ca1 (cv 2))))))
  (xQ (cs1 5 S.nd (cx (cf (T.F 4 rfl) dX hr (qQ (cv 0) (ca1 zQ))) zQ))
  (xQ (cs1 6 S.nd (cf (T.F 9 rfl) pS hr (qQ (cv 0) (qQ (cv 1) (qQ (cv 2) (ca1 zQ))))))
  (xQ (cs1 7 S.nd (cf (T.F 10 rfl) cS hr (qQ (cv 0) (qQ (cv 1) (ca1 (cv 2))))))
  (xQ (cs1 8 S.nd (bQ oZ))
  (xQ (qX (cw_pt (cw_and (ct2 uZ mX (cv 3) zQ) (cw_and1 (ct2 nX vX (cf (T.F 3 rfl) vQ hr (qQ (cv 0) (ca1 zQ))) zQ)))) (wQ (cs1 8 S.nd (cf (T.F 15 rfl) rZ hr (qQ (cv 0) (qQ (cv 1) (qQ (cv 2) (ca1 (sQ sZ iX (cv 3) zQ)))))))) rQ)
  (wQ (mQ (bQ (qQ kQ (qQ (cv 4) (qQ (cv 5) (qQ (cv 6) (qQ (cv 7) (ca1 (cv 8)))))))))))))))),?_⟩
 .obtain ⟨t,k,τ,ns,κ,rfl,_⟩:=h; rfl
 rintro ts C R ⟨t,k,τ,ns,κ,rfl,hT,hk,ok,q⟩;refine gQ ?_;refine⟨t,k,τ,ns,κ,rfl,hT,hk,ok.tl,fun o C1 ho T1 e1=>?_⟩
 try dsimp only
 refine gQ ?_;refine⟨t,1,ns,rfl,T1,by decide,by decide,fun p ss C2 m2 _ pt hl nd T2 e2=>?_⟩;have hl:ss.length=1:=hl
 obtain⟨tag,rfl⟩:∃tag,ss=[tag]:=by
  match ss,hl with
  |[x],_=>exact⟨x,rfl⟩
 refine iQ m2 sK ?_
 try dsimp only
 refine gQ ?_;refine⟨t,k,τ,ns,κ,rfl,T2,(hk.ex e1).ex e2,ok.tl,fun ps C3 hps hpl T3 e3=>?_⟩
 try dsimp only
 refine gQ ?_;refine⟨t,k,τ,ns,κ,rfl,T3,((hk.ex e1).ex e2).ex e3,ok.tl,fun hs C4 hhs hhl T4 e4=>?_⟩
 try dsimp only
 refine gQ ?_;refine⟨by show 0<=sizeLine; decide,?_⟩
 try dsimp only
 have e04:Ex t C C4:=((e1.trans e2).trans e3).trans e4;have k4:=hk.ex e04
 have fin:∀(ls:List Ln) (κ':Kt) (C':CH),(∀x∈ls,∃d',d=d'+1/\LnOk κ.bs κ.rs (eZ e d') τ x)->ls.length<=6->Wgt e τ κ κ' 0 (Ln.tws ls) (Ln.pws ls)->Chg κ κ'->Tp C' t ns->KAt C' t k κ'->ExS [t,k] C C' ->
   R (.tup [.str "plain",zH o,.str tag,.tup (ps.map wK),.tup (hs.map Hd.pv),.tup (Ln.pvs ls)]) C':=by
  intro ls κ' C' hls hll hw hc T' k' x';refine q (.plain o tag ps hs ls) κ' C' ?_ hw.one hc T' k' x';obtain⟨n,en⟩:=qM e d;rw[en];refine⟨ho,⟨hps,hpl⟩,⟨hhs,hhl⟩,fun x hx=>?_,hll⟩;obtain⟨d',rfl,hx'⟩:=hls x hx;rw[dU] at en;have:n=eZ e d':=by omega
  rw[this];exact hx'
 refine pQ (fun ρ' C'=>∃(ls:List Ln) (κ':Kt),ρ'=[some (.ref t),some (.ref k),some (.tup (τ.map PV.str)),some (.int (d:Nat)),some (zH o),some (.str tag),some (.tup (ps.map wK)),some (.tup (hs.map Hd.pv)),some (.tup (Ln.pvs ls))]/\(∀x∈ls,∃d',d=d'+1/\LnOk κ.bs κ.rs (eZ e d') τ x)/\ls.length<=6/\Wgt e τ κ κ' 0 (Ln.tws ls) (Ln.pws ls)/\Chg κ κ'/\Tp C' t ns/\KAt C' t k κ'/\ExS [t,k] C C') (fun L hL=>?_) ?_
 .refine i_i ?_
  refine pX (fun hb=>?_) fun hb=>?_
  .have hb:=of_decide_eq_true hb
   refine⟨t,2,ns,rfl,T4,by decide,by decide,fun z C5 z0 z1 T5 e5=>?_⟩;refine wZ (wX _ _) ?_;refine pX (fun hb2=>?_) fun hb2=>?_
   .refine i_i ?_
    obtain⟨d',rfl⟩:∃d',d=d'+1:=⟨d - 1,by omega⟩;refine⟨d',rfl,t,k,τ,ns,κ,?_,T5,k4.ex e5,ok,fun ls κ' C6 h1 h2 h3 h4 T6 k6 x6=>?_⟩
    .have:((d'+1:Nat):Int) - 1=(d':Nat):=by omega
     rw[this]
    .exact hL _ _ ⟨ls,κ',rfl,fun x hx=>⟨d',rfl,h1 x hx⟩,h2,h3,h4,T6,k6,(ExS.ofEx (e04.trans e5)).trans x6⟩
   .refine xX ?_
    exact hL _ _ ⟨[],κ,rfl,(fun _ z=>nomatch z),Nat.zero_le _,Wgt.nil,Chg.refl ok,T5,k4.ex e5,ExS.ofEx (e04.trans e5)⟩
  .refine nW rfl ?_
   refine xX ?_;exact hL _ _ ⟨[],κ,rfl,(fun _ z=>nomatch z),Nat.zero_le _,Wgt.nil,Chg.refl ok,T4,k4,ExS.ofEx e04⟩
 rintro ρ' C5 ⟨ls,κ',rfl,h1,h2,h3,h4,T5,k5,x5⟩
 try dsimp only
 refine⟨by show 6<=sizeLine; decide,?_⟩;exact fin ls κ' C5 h1 h2 h3 h4 T5 k5 x5
end
def mE (e:Nat):GC:=fun ts C Q=>∃(t k:Addr) (d:Nat) (ns:List Int) (κ:Kt),ts=[.ref t,.ref k,.int (d:Nat)]/\Tp C t ns/\KAt C t k κ/\Kok κ e []/\0 < κ.e /\
 ∀(l:Ln) (κ':Kt) (C':CH),LnOk κ.bs κ.rs 3 [] l->Wgt e [] κ κ' 1 l.tw l.pw->Chg κ κ'->Tp C' t ns->KAt C' t k κ'->ExS [t,k] C C'->Q l.pv C'
section
variable {P:Program}{w:World}{K:PySem.W.Frag}{mg:Str->Option Value}{base:Heap}{a:Adr}
theorem ok_line (T:Txt P w K mg a)(e d r:Nat)(he:0 < e)(h7:7<=r)
  (rZ:FnOk P w K mg base CX0 r (a.f 15) (a.d 15) U0 (spC K (jF e d)))
  (oY:FnOk P w K mg base CX0 r (a.f 11) (a.d 11) U0 (spC K (mU e d)))
  (aA:FnOk P w K mg base CX0 r (a.f 13) (a.d 13) U4 (spC K (mE e))) :
  FnOk P w K mg base CX0 (r+1) (a.f 14) (a.d 14) U0 (spC K (mU e d)):=by
 have S:=(T.F 14 rfl).s;have vQ:=(bX (base:=base) T).mono (show 1<=r by omega);have kY:=(oP (base:=base) T).mono (show 4<=r by omega);have qZ:=(uU (base:=base) T 1).mono (show 5<=r by omega);have oJ:=(hW (base:=base) T).mono (show 6<=r by omega)
 refine(T.F 14 rfl).ok (fun ts C R h=>?_) fun cdv A outer s H E hr=>⟨_,(xQ (cs1 4 S.nd (cf (T.F 3 rfl) vQ hr (qQ (cv 0) (ca1 zQ))))
  (xQ (qX (cw_pt (cw_and (ct2 wU vW (cv 4) zQ) (cw_and (ct2 uZ mX (fX (kX hr) (cv 1) kQ (fun _ _=>rfl)) zQ) (cw_and1 (ct2 uZ mX (cln T.zZ (fX (kX hr) (cv 1) kQ (fun _ _=>rfl))) zQ))))) (xQ (dJ (kX hr) (cv 1) kQ (sQ sZ iX (fX (kX hr) (cv 1) kQ (fun _ _=>rfl)) zQ))
  (wQ (mQ (cf (T.F 12 rfl) oJ hr (qQ (cv 0) (qQ (cv 1) (qQ (cv 2) (ca1 (cx (fX (kX hr) (cv 1) kQ (fun _ _=>rfl)) (cf (T.F 3 rfl) vQ hr (qQ (cv 0) (ca1 (cln T.zZ (fX (kX hr) (cv 1) kQ (fun _ _=>rfl))))))))))))))) rQ)
  (xQ (qX (cw_pt (cw_and (ct2 nX vX (cv 4) zQ) (cw_and1 (ct2 uZ mX (cv 3) zQ)))) (xQ (cs1 5 S.nd (cx (zX (qQ kQ (qQ kQ (ca1 kQ)))) (cf (T.F 3 rfl) vQ hr (qQ (cv 0) (ca1 zQ)))))
  (xQ (cs1 6 S.nd (cf (T.F 8 rfl) kY hr (qQ (cv 0) (qQ (cv 1) (ca1 (cv 2))))))
  (wQ (mQ (bQ (qQ kQ (qQ (cv 6) (qQ (cv 5) (qQ (cf (T.F 7 rfl) qZ hr (qQ (cv 0) (qQ (cv 1) (qQ (cv 2) (ca1 zQ))))) (ca1 (cf (T.F 15 rfl) rZ hr (qQ (cv 0) (qQ (cv 1) (qQ (cv 2) (ca1 (sQ sZ iX (cv 3) zQ)))))))))))))))) rQ)
  (xQ (qX (cw_pt (cw_and (ct2 nX vX (cv 4) zQ) (cw_and1 (ct2 uZ mX (cv 3) zQ)))) (xQ (cs1 7 S.nd (cf (T.F 7 rfl) qZ hr (qQ (cv 0) (qQ (cv 1) (qQ (cv 2) (ca1 zQ))))))
  (xQ (cs1 8 S.nd (cf (T.F 15 rfl) rZ hr (qQ (cv 0) (qQ (cv 1) (qQ (cv 2) (ca1 (sQ sZ iX (cv 3) zQ)))))))
  (wQ (mQ (bQ (qQ kQ (qQ (cv 7) (qQ (cv 8) (ca1 (cf (T.F 15 rfl) rZ hr (qQ (cv 0) (qQ (cv 1) (qQ (cv 2) (ca1 (sQ sZ iX (cv 3) zQ))))))))))))))) rQ)
  (xQ (qX (cw_pt (cw_and (ct2 uZ mX (cv 4) zQ) (cw_and1 (ct2 uZ mX (fX (kX hr) (cv 1) kQ (fun _ _=>rfl)) zQ)))) (wQ (mQ (cf (T.F 13 rfl) aA hr (qQ (cv 0) (qQ (cv 1) (ca1 (cv 3))))))) rQ)
  (wQ (mQ (cf (T.F 11 rfl) oY hr (qQ (cv 0) (qQ (cv 1) (qQ (cv 2) (ca1 (cv 3))))))))))))),?_⟩
 .obtain ⟨t,k,τ,ns,κ,rfl,_⟩:=h; rfl
 rintro ts C R ⟨t,k,τ,ns,κ,rfl,hT,hk,ok,q⟩;have hτ:=ok.t he;refine gQ ?_;refine⟨t,9,ns,rfl,hT,by decide,by decide,fun v C1 v0 v1 T1 e1=>?_⟩
 try dsimp only
 have k1:=hk.ex e1;obtain⟨dn,edn⟩:=qM e d
 have low:∀(ls:List Ln),(∀x∈ls,∃d',d=d'+1/\LnOk κ.bs κ.rs (eZ e d') τ x)->∀x∈ls,LnOk κ.bs κ.rs dn τ x:=by
  intro ls h x hx;obtain⟨d',rfl,h'⟩:=h x hx;rw[dU] at edn;have:dn=eZ e d':=by omega
  rw[this]; exact h'
 refine pQ (fun ρ' C'=>C'=C1/\ρ'=[some (.ref t),some (.ref k),some (.tup (τ.map PV.str)),some (.int (d:Nat)),some (.int v),none,none,none,none]) (fun L hL=>?_) ?_
 .refine i_i ?_
  refine pX (fun hb=>?_) fun hb=>?_
  .refine bZ k1.at_ rfl mB ?_
   refine i_i ?_;refine pX (fun hb2=>?_) fun hb2=>?_
   .refine bZ k1.at_ rfl oG ?_
    refine vV k1.rx ?_;refine i_i ?_;refine pX (fun hb3=>?_) fun hb3=>?_
    .have hb2:=of_decide_eq_true hb2
     rw[List.length_map] at hb3;have hb3:=of_decide_eq_true hb3;refine bJ ?_;refine bZ k1.at_ rfl mB ?_;refine i_i ?_;refine eK k1.at_ rfl (by show 6<=1000; decide) ?_;rw[qR]
     try dsimp only
     have k2:=k1.put κ.l (κ.p - 1) κ.e κ.la;have T2:=T1.put k1.nk (.dK (aQ κ.b κ.r κ.l (κ.p - 1) κ.e (oK κ.la)));refine bZ k2.at_ rfl oG ?_;refine bZ k2.at_ rfl oG ?_;refine vV k2.rx ?_;have lr:=hk.lr;have el:(κ.rs.map PV.str).length=κ.rs.length:=List.length_map _;refine⟨t,_,ns,rfl,T2,by show(0:Int) < (((κ.rs.map PV.str).length:Nat):Int); rw[el]; exact hb3,by show(((κ.rs.map PV.str).length:Nat):Int) < _; rw[el]; omega,fun i C3 i0 i1 T3 e3=>?_⟩
     have i1:i < (((κ.rs.map PV.str).length:Nat):Int):=i1;rw[el] at i1;have k3:=k2.ex e3;refine iQ k3.rx (tZ (f:=PV.str) "" i0 i1) ?_;refine⟨t,k,τ,ns,{ κ with p:=κ.p - 1 },_,rfl,T3,k3,ok.tl,fun o g C4 ho hg hgl T4 e4=>?_⟩;have p0:=ok.p0;refine q _ { κ with p:=κ.p - 1 } C4 ?_ ?_ ?_ T4 (k3.ex e4) ?_
     .rw [edn]; exact⟨ho,iJ i0 i1,hg,hgl⟩
     .refine ⟨?_,?_,fun z=>absurd hτ z⟩
      .show ((1:Nat):Int)<=mOf e * (1+(κ.l - κ.l))
       rcases rW e with z | z<;>rw[z]<;>omega
      .show ((1:Nat):Int)<=(κ.p - (κ.p - 1))+zOf κ * (κ.e - κ.e)
       rw[Int.sub_self κ.e,Int.mul_zero]; omega
     .exact ⟨rfl,rfl,rfl,rfl,rfl,ok.l0,Int.le_refl _,by show 0<=κ.p - 1; omega,by show κ.p - 1<=κ.p; omega,ok.e0,Int.le_refl _⟩
     .exact (((ExS.ofEx e1).at (by simp) _).trans (ExS.ofEx e3)).trans (ExS.ofEx e4)
    .refine xX ?_
     exact hL _ _ ⟨rfl,rfl⟩
   .refine nW rfl ?_
    refine xX ?_;exact hL _ _ ⟨rfl,rfl⟩
  .refine nW rfl ?_
   refine xX ?_;exact hL _ _ ⟨rfl,rfl⟩
 rintro ρ' C' ⟨rfl,rfl⟩
 try dsimp only
 refine pQ (fun ρ' C''=>C''=C'/\ρ'=[some (.ref t),some (.ref k),some (.tup (τ.map PV.str)),some (.int (d:Nat)),some (.int v),none,none,none,none]) (fun L hL=>?_) ?_
 .refine wZ (wX _ _) ?_
  refine pX (fun hb=>?_) fun hb=>?_
  .refine i_i ?_
   refine pX (fun hb2=>?_) fun hb2=>?_
   .have hb2:=of_decide_eq_true hb2
    obtain⟨d',rfl⟩:∃d',d=d'+1:=⟨d - 1,by omega⟩;refine gQ ?_;refine⟨by show 3<=sizeLine; decide,fun p hp=>?_⟩;refine⟨t,3,ns,rfl,T1.new hp _,by decide,by decide,fun i C2 i0 i1 T2 e2=>?_⟩;refine iQ (e2 p _ (T1.ne hp) jQ) (tZ (f:=PV.str) (ss:=["a","ab","b"]) "" i0 i1) ?_;have e02:Ex t C C2:=fun b o n z=>e2 b o n (Gr.new hp _ _ _ (e1 b o n z))
    try dsimp only
    refine gQ ?_;refine⟨t,k,τ,ns,κ,rfl,T2,hk.ex e02,ok.tl,fun o C3 ho T3 e3=>?_⟩
    try dsimp only
    refine⟨t,k,τ,ns,κ,rfl,T3,(hk.ex e02).ex e3,ok.tl,fun rk C4 hrk T4 e4=>?_⟩;refine i_i ?_;refine⟨d',rfl,t,k,τ,ns,κ,?_,T4,((hk.ex e02).ex e3).ex e4,ok,fun ls κ' C5 h1 h2 h3 h4 T5 k5 x5=>⟨by show 5<=sizeLine; decide,?_⟩⟩
    .have:((d'+1:Nat):Int) - 1=(d':Nat):=by omega
     rw[this]
    refine q (.give o _ rk ls) κ' C5 ?_ h3.one h4 T5 k5 ((ExS.ofEx ((e02.trans e3).trans e4)).trans x5);rw[edn];exact⟨ho,iJ (ss:=["a","ab","b"]) i0 i1,hrk,low ls fun x hx=>⟨d',rfl,h1 x hx⟩,h2⟩
   .refine xX ?_
    exact hL _ _ ⟨rfl,rfl⟩
  .refine nW rfl ?_
   refine xX ?_;exact hL _ _ ⟨rfl,rfl⟩
 rintro ρ' C'' ⟨rfl,rfl⟩
 try dsimp only
 refine pQ (fun ρ' C'=>C'=C''/\ρ'=[some (.ref t),some (.ref k),some (.tup (τ.map PV.str)),some (.int (d:Nat)),some (.int v),none,none,none,none]) (fun L hL=>?_) ?_
 .refine wZ (wX _ _) ?_
  refine pX (fun hb=>?_) fun hb=>?_
  .refine i_i ?_
   refine pX (fun hb2=>?_) fun hb2=>?_
   .have hb2:=of_decide_eq_true hb2
    obtain⟨d',rfl⟩:∃d',d=d'+1:=⟨d - 1,by omega⟩;have ed:((d'+1:Nat):Int) - 1=(d':Nat):=by omega
    refine gQ ?_;refine⟨t,k,τ,ns,κ,rfl,T1,k1,ok.tl,fun rk C4 hrk T4 e4=>?_⟩
    try dsimp only
    refine gQ ?_;refine i_i ?_;refine⟨d',rfl,t,k,τ,ns,κ,by rw[ed],T4,k1.ex e4,ok,fun ls κ' C5 h1 h2 h3 h4 T5 k5 x5=>?_⟩
    try dsimp only
    refine i_i ?_;refine⟨d',rfl,t,k,τ,ns,κ',by rw[ed],T5,k5,ok.chg h4,fun ls2 κ2 C6 g1 g2 g3 g4 T6 k6 x6=>⟨by show 4<=sizeLine; decide,?_⟩⟩;refine q (.when rk ls ls2) κ2 C6 ?_ (Wgt.up (h3.add g3 h4)) (h4.trans g4) T6 k6 (((ExS.ofEx (e1.trans e4)).trans x5).trans x6);rw[edn];refine⟨hrk,⟨low ls fun x hx=>⟨d',rfl,h1 x hx⟩,h2⟩,low ls2 fun x hx=>⟨d',rfl,?_⟩,g2⟩;have:=g1 x hx;rw[h4.bs,h4.rs] at this
    exact this
   .refine xX ?_
    exact hL _ _ ⟨rfl,rfl⟩
  .refine nW rfl ?_
   refine xX ?_;exact hL _ _ ⟨rfl,rfl⟩
 rintro ρ' C2 ⟨rfl,rfl⟩
 try dsimp only
 refine pQ (fun ρ' C'=>C'=C2/\ρ'=[some (.ref t),some (.ref k),some (.tup (τ.map PV.str)),some (.int (d:Nat)),some (.int v),none,none,none,none]) (fun L hL=>?_) ?_
 .refine i_i ?_
  refine pX (fun hb=>?_) fun hb=>?_
  .refine bZ k1.at_ rfl tG ?_
   refine i_i ?_;refine pX (fun hb2=>?_) fun hb2=>?_
   .have hb2:=of_decide_eq_true hb2
    subst hτ;refine⟨t,k,d,ns,κ,rfl,T1,k1,ok,hb2,fun l κ' C5 h1 h2 h3 T5 k5 x5=>?_⟩;refine q l κ' C5 (h1.mono ?_) h2 h3 T5 k5 ((ExS.ofEx e1).trans x5);have:=ok.e1;unfold eZ;rw[if_neg (by omega)];omega
   .refine xX ?_
    exact hL _ _ ⟨rfl,rfl⟩
  .refine nW rfl ?_
   refine xX ?_;exact hL _ _ ⟨rfl,rfl⟩
 rintro ρ' C3 ⟨rfl,rfl⟩
 try dsimp only
 exact⟨t,k,τ,ns,κ,rfl,T1,k1,ok,fun l κ' C5 h1 h2 h3 T5 k5 x5=>q l κ' C5 h1 h2 h3 T5 k5 ((ExS.ofEx e1).trans x5)⟩
end
theorem Ln.pvs_app (xs ys:List Ln):Ln.pvs (xs++ys)=Ln.pvs xs++Ln.pvs ys:=by
 rw[Ln.pvs_map,Ln.pvs_map,Ln.pvs_map,List.map_append]
theorem Ln.pvs_len (xs:List Ln):(Ln.pvs xs).length=xs.length:=by rw[Ln.pvs_map,List.length_map]
theorem Wgt.pay {e:Nat}{τ:List Str}{κ κ':Kt}{tw pw:Nat}(h:Wgt e τ { κ with l:=κ.l - 1 } κ' 1 tw pw):Wgt e τ κ κ' 0 tw pw:=by
 refine⟨?_,h.p,h.n⟩;have:=h.t;have this:(tw:Int)<=mOf e * (1+(κ.l - 1 - κ'.l)):=this;have e2:1+(κ.l - 1 - κ'.l)=0+(κ.l - κ'.l):=by omega
 rw[e2] at this;exact this
theorem KAt.upd {C:CH}{t k p:Addr}{κ:Kt}(h:KAt C t k κ)(n1:p≠k)(n2:p≠κ.b)(n3:p≠κ.r)(o:CO):KAt (uQ C p o) t k κ :=
 ⟨by rw[yQ (Ne.symm n1)]; exact h.at_,by rw[yQ (Ne.symm n2)]; exact h.bx,by rw[yQ (Ne.symm n3)]; exact h.rx,h.nk,h.nb,h.nr,h.lb,h.lr⟩
section
variable {P:Program}{w:World}{K:PySem.W.Frag}{mg:Str->Option Value}{base:Heap}{a:Adr}
theorem uO (T:Txt P w K mg a)(e d r:Nat)(h1:1<=r)
  (eA:FnOk P w K mg base CX0 r (a.f 14) (a.d 14) U0 (spC K (mU e d))) :
  FnOk P w K mg base CX0 (r+1) (a.f 15) (a.d 15) U0 (spC K (kW e d)):=by
 have S:=(T.F 15 rfl).s;have vQ:=(bX (base:=base) T).mono (show 1<=r by omega)
 refine(T.F 15 rfl).ok (fun ts C R h=>?_) fun cdv A outer s H E hr=>⟨_,(xQ (cs1 4 S.nd (zX oZ))
  (xQ (fG PassesOwn.never rfl rfl T.aZ (ca1 (sQ sZ iX (sQ lX rX zQ (cf (T.F 3 rfl) vQ hr (qQ (cv 0) (ca1 zQ)))) (kJ oV cG rfl T.iF rfl (ca1 (gV wU vW (cv 3) zQ (uK _)))))) (cg1 5 S.nd) (wQ (qX (ct2 uZ mX (fX (kX hr) (cv 1) kQ (fun _ _=>rfl)) zQ) (xQ (dJ (kX hr) (cv 1) kQ (sQ sZ iX (fX (kX hr) (cv 1) kQ (fun _ _=>rfl)) zQ))
  (wQ (cK (cap (cv 4) (cf (T.F 14 rfl) eA hr (qQ (cv 0) (qQ (cv 1) (qQ (cv 2) (ca1 (cv 3)))))))))) rQ)))
  (wQ (mQ (ctp T.aX (cv 4)))))),?_⟩
 .obtain ⟨t,k,τ,ns,κ,rfl,_⟩:=h; rfl
 rintro ts C R ⟨t,k,τ,ns,κ,rfl,hT,hk,ok,q⟩;refine gQ ?_;refine⟨by show 0<=sizeLine; decide,fun h hh=>?_⟩;have nht:=hT.ne hh;have nhk:h≠k:=fun z=>by subst z; rw[hk.at_] at hh; cases hh
 have nS:h∉[t,k]:=fun z=>by
  rcases List.mem_cons.1 z with z | z
  .exact nht z
  .exact nhk (List.mem_singleton.1 z)
 have nb:h≠κ.b:=fun z=>by rw[z,hk.bx] at hh; cases hh
 have nr:h≠κ.r:=fun z=>by rw[z,hk.rx] at hh; cases hh
 try dsimp only
 have e1:Ex t C (uQ C h (.lst [])):=Ex.new hh _;refine pQ (fun ρ' C'=>∃(ls:List Ln) (κ':Kt) (x5:Option PV),ρ'=[some (.ref t),some (.ref k),some (.tup (τ.map PV.str)),some (.int (d:Nat)),some (.ref h),x5]/\C' h=some (.lst (Ln.pvs ls))/\(∀x∈ls,LnOk κ.bs κ.rs (eZ e d) τ x)/\ls.length<=3/\Wgt e τ κ κ' 0 (Ln.tws ls) (Ln.pws ls)/\Chg κ κ'/\Tp C' t ns/\KAt C' t k κ'/\ExS [t,k] C C') (fun L hL=>?_) ?_
 .refine ⟨t,3,ns,rfl,hT.new hh _,by decide,by decide,fun v C2 v0 v1 T2 e2=>?_⟩
  refine fV ?_;refine i_i ?_;refine pN ?_;refine i_i ?_;generalize hn:1+v - (if decide ((d:Int) < 2)=true then (1:Int) else 0)=n;have hn3:n<=3/\0<=n:=by rw[<- hn]; split<;>omega
  refine⟨by omega,by omega,?_⟩;refine wJ (fun zs ρ C'=>∃(ls:List Ln) (κ':Kt) (x5:Option PV),ρ=[some (.ref t),some (.ref k),some (.tup (τ.map PV.str)),some (.int (d:Nat)),some (.ref h),x5]/\C' h=some (.lst (Ln.pvs ls))/\(∀x∈ls,LnOk κ.bs κ.rs (eZ e d) τ x)/\ls.length+zs.length<=3/\Wgt e τ κ κ' 0 (Ln.tws ls) (Ln.pws ls)/\Chg κ κ'/\Tp C' t ns/\KAt C' t k κ'/\ExS [t,k] C C') ?_ ?_ _ _ _ ⟨[],κ,_,rfl,e2 _ _ nht jQ,(fun _ z=>nomatch z),by rw[List.length_map,List.length_range]; show 0+_<=3; omega,Wgt.nil,Chg.refl ok,T2,(hk.ex e1).ex e2,ExS.ofEx (e1.trans e2)⟩
  .rintro z zs ρ C3 ⟨ls,κ1,x5,rfl,mh,hls,hll,hw,hc,T3,k3,x3⟩ L3 hL3
   have ok3:=ok.chg hc;refine bZ k3.at_ rfl mW ?_;refine i_i ?_;refine pX (fun hb=>?_) fun hb=>?_
   .have hb:=of_decide_eq_true hb
    refine bJ ?_;refine bZ k3.at_ rfl mW ?_;refine i_i ?_;refine eK k3.at_ rfl (by show 6<=1000; decide) ?_;rw[mD]
    try dsimp only
    have k4:=k3.put (κ1.l - 1) κ1.p κ1.e κ1.la;have T4:=T3.put k3.nk (.dK (aQ κ1.b κ1.r (κ1.l - 1) κ1.p κ1.e (oK κ1.la)));have mh4:uQ C3 k (.dK (aQ κ1.b κ1.r (κ1.l - 1) κ1.p κ1.e (oK κ1.la))) h=some (.lst (Ln.pvs ls)):=by rw[yQ nhk]; exact mh
    have c4:Chg κ1 { κ1 with l:=κ1.l - 1 }:=⟨rfl,rfl,rfl,rfl,rfl,by show 0<=κ1.l - 1; omega,by show κ1.l - 1<=κ1.l; omega,hc.p0,Int.le_refl _,hc.e0,Int.le_refl _⟩;refine⟨bU mh4,?_⟩;refine⟨t,k,τ,ns,_,rfl,T4,k4,ok3.chg c4,fun l κ2 C5 g1 g2 g3 T5 k5 x5=>?_⟩;have mh5:=x5 h _ nS mh4;refine xC mh5 (by rw[Ln.pvs_len]; exact Nat.lt_of_lt_of_le (show ls.length < 4 by omega) (by decide)) ?_;refine hL3 _ _ ⟨ls++[l],κ2,_,rfl,by rw[jQ,Ln.pvs_app]; rfl,fun x hx=>?_,by rw[List.length_append,List.length_singleton]; rw[List.length_cons] at hll; omega,?_,hc.trans (c4.trans g3),T5.put nht _,?_,?_⟩
    .rcases List.mem_append.1 hx with hx | hx
     .exact hls x hx
     .cases List.mem_singleton.1 hx
      have:LnOk κ1.bs κ1.rs (eZ e d) τ l:=g1;rw[hc.bs,hc.rs] at this;exact this
    .rw [Ln.tws_app,Ln.pws_app]
     have:=hw.add g2.pay hc;exact this
    .exact k5.upd nhk (by rw[g3.b]; show h≠κ1.b; rw[hc.b]; exact nb) (by rw[g3.r]; show h≠κ1.r; rw[hc.r]; exact nr) _
    .exact (((x3.at (by simp) _).trans x5).put hh _)
   .refine xX ?_
    exact hL3 _ _ ⟨ls,κ1,_,rfl,mh,hls,by rw[List.length_cons] at hll; omega,hw,hc,T3,k3,x3⟩
  .rintro ρ C3 ⟨ls,κ1,x5,rfl,mh,hls,hll,hw,hc,T3,k3,x3⟩
   exact hL _ _ ⟨ls,κ1,_,rfl,mh,hls,by omega,hw,hc,T3,k3,x3⟩
 rintro ρ' C3 ⟨ls,κ1,x5,rfl,mh,hls,hll,hw,hc,T3,k3,x3⟩
 try dsimp only
 refine tK mh ?_;exact q ls κ1 C3 hls (by omega) hw hc T3 k3 x3
end
section
variable {P:Program}{w:World}{K:PySem.W.Frag}{mg:Str->Option Value}{base:Heap}{a:Adr}
structure EI (C0 C:CH)(t k h:Addr)(ns:List Int)(κ κ':Kt)(name:Str)(ls:List Ln)(m:Nat):Prop where
 mh:C h=some (.lst (Ln.pvs ls))
 ok:∀x∈ls,LnOk κ.bs κ.rs 1 [name] x
 len:ls.length+m<=2
 tw:(Ln.tws ls:Int)<=κ.l - κ'.l
 pw:Ln.pws ls<=if κ.la.isSome then ls.length else 0
 ch:Chg κ κ'
 p:κ'.p=κ.p
 e:κ'.e=κ.e
 tp:Tp C t ns
 kt:KAt C t k κ'
 ex:ExS [t,k] C0 C
theorem ok_each (T:Txt P w K mg a)(r:Nat)(h1:6<=r)
  (oY:FnOk P w K mg base CX0 r (a.f 11) (a.d 11) U0 (spC K (mU 0 0))) :
  FnOk P w K mg base CX0 (r+1) (a.f 13) (a.d 13) U4 (spC K (mE 1)):=by
 have S:=(T.F 13 rfl).s;have vQ:=(bX (base:=base) T).mono (show 1<=r by omega);have dX:=(jV (base:=base) T).mono (show 2<=r by omega);have pV:=(eM (base:=base) T).mono (show 3<=r by omega);have oJ:=(hW (base:=base) T).mono (show 6<=r by omega)
 refine(T.F 13 rfl).ok (fun ts C R h=>?_) fun cdv A outer s H E hr=>⟨_,(xQ (dJ (kX hr) (cv 1) kQ (sQ sZ iX (fX (kX hr) (cv 1) kQ (fun _ _=>rfl)) zQ))
  (xQ (cs1 3 S.nd (cx (cf (T.F 4 rfl) dX hr (qQ (cv 0) (ca1 zQ))) zQ))
  (xQ (cs1 4 S.nd (bQ (qQ kQ (ca1 (cf (T.F 3 rfl) vQ hr (qQ (cv 0) (ca1 zQ)))))))
  (xQ (qX (ct2 nX vX (cf (T.F 3 rfl) vQ hr (qQ (cv 0) (ca1 zQ))) zQ) (wQ (cs1 4 S.nd (cf (T.F 6 rfl) pV hr (qQ (cv 0) (qQ (cv 1) (ca1 (bQ oZ))))))) rQ)
  (xQ (cs1 5 S.nd (zX oZ))
  (xQ (fG PassesOwn.never rfl rfl T.aZ (ca1 (sQ lX rX zQ (cf (T.F 3 rfl) vQ hr (qQ (cv 0) (ca1 zQ))))) (cg1 6 S.nd) (wQ (qX (ct2 uZ mX (fX (kX hr) (cv 1) kQ (fun _ _=>rfl)) zQ) (xQ (dJ (kX hr) (cv 1) kQ (sQ sZ iX (fX (kX hr) (cv 1) kQ (fun _ _=>rfl)) zQ))
  (wQ (qX (cw_pt (cw_and (ct2 op_notN aE (fX (kX hr) (cv 1) kQ (fun _ _=>rfl)) uV) (cw_and1 (ct2 nX vX (cf (T.F 3 rfl) vQ hr (qQ (cv 0) (ca1 zQ))) zQ)))) (wQ (cK (cap (cv 5) (cf (T.F 12 rfl) oJ hr (qQ (cv 0) (qQ (cv 1) (qQ (bQ (ca1 (cv 3))) (ca1 (fX (kX hr) (cv 1) kQ (fun _ _=>rfl)))))))))) (wQ (cK (cap (cv 5) (cf (T.F 11 rfl) oY hr (qQ (cv 0) (qQ (cv 1) (qQ (bQ (ca1 (cv 3))) (ca1 zQ))))))))))) rQ)))
  (wQ (mQ (bQ (qQ kQ (qQ (cv 3) (qQ (cv 4) (ca1 (ctp T.aX (cv 5))))))))))))))),?_⟩
 .obtain ⟨t,k,d,ns,κ,rfl,_⟩:=h; rfl
 rintro ts C R ⟨t,k,d,ns,κ,rfl,hT,hk,ok,he,q⟩;have he1:κ.e=1:=by have:=ok.e1; omega
 refine bJ ?_;refine bZ hk.at_ rfl tG ?_;refine i_i ?_;refine eK hk.at_ rfl (by show 6<=1000; decide) ?_;rw[qU]
 try dsimp only
 have k1:=hk.put κ.l κ.p (κ.e - 1) κ.la;have T1:=hT.put hk.nk (.dK (aQ κ.b κ.r κ.l κ.p (κ.e - 1) (oK κ.la)));have x1:ExS [t,k] C (uQ C k (.dK (aQ κ.b κ.r κ.l κ.p (κ.e - 1) (oK κ.la)))):=ExS.refl.at (by simp) _;refine gQ ?_;refine⟨t,1,ns,rfl,T1,by decide,by decide,fun p ss C2 m2 _ pt hl nd T2 e2=>?_⟩;have hl:ss.length=1:=hl
 obtain⟨name,rfl⟩:∃tag,ss=[tag]:=by
  match ss,hl with
  |[x],_=>exact⟨x,rfl⟩
 refine iQ m2 sK ?_
 try dsimp only
 refine gQ ?_;refine⟨t,4,ns,rfl,T2,by decide,by decide,fun v C3 v0 v1 T3 e3=>⟨by show 2<=sizeLine; decide,?_⟩⟩
 try dsimp only
 have k3:=(k1.ex e2).ex e3;have x3:ExS [t,k] C C3:=x1.trans (ExS.ofEx (e2.trans e3));refine pQ (fun ρ' C'=>∃rk:Rk,rk.ok κ.bs [] 0/\ρ'=[some (.ref t),some (.ref k),some (.int (d:Nat)),some (.str name),some rk.pv,none,none]/\Tp C' t ns/\Ex t C3 C') (fun L hL=>?_) ?_
 .refine ⟨t,3,ns,rfl,T3,by decide,by decide,fun z C4 z0 z1 T4 e4=>?_⟩
  refine wZ (wX _ _) ?_;refine pX (fun hb=>?_) fun hb=>?_
  .refine ⟨by show 0<=sizeLine; decide,?_⟩
   refine⟨t,k,[],ns,_,rfl,T4,k3.ex e4,Nat.zero_le _,fun rk C5 hrk T5 e5=>?_⟩;exact hL _ _ ⟨rk,hrk,rfl,T5,e4.trans e5⟩
  .refine xX ?_
   exact hL _ _ ⟨.num v,⟨by omega,by omega⟩,rfl,T4,e4⟩
 rintro ρ' C4 ⟨rk,hrk,rfl,T4,e4⟩
 try dsimp only
 have k4:=k3.ex e4;have x4:ExS [t,k] C C4:=x3.trans (ExS.ofEx e4);have k5:KAt C4 t k { κ with l:=κ.l,e:=κ.e - 1 }:=k4;have T5:=T4;have x5:=x4;generalize C4=C5 at k5 T5 x5 ⊢;refine gQ ?_;refine⟨by show 0<=sizeLine; decide,fun h hh=>?_⟩;have nht:=T5.ne hh;have nhk:h≠k:=fun z=>by subst z; rw[k5.at_] at hh; cases hh
 have nb:h≠κ.b:=fun z=>by have:=k5.bx; rw[<- z,hh] at this; cases this
 have nr:h≠κ.r:=fun z=>by have:=k5.rx; rw[<- z,hh] at this; cases this
 have nS:h∉[t,k]:=fun z=>by
  rcases List.mem_cons.1 z with z | z
  .exact nht z
  .exact nhk (List.mem_singleton.1 z)
 have hh0:C h=none:=x5.none nS hh
 try dsimp only
 have c5:Chg κ { κ with l:=κ.l,e:=κ.e - 1 }:=⟨rfl,rfl,rfl,rfl,rfl,ok.l0,Int.le_refl _,ok.p0,Int.le_refl _,by show 0<=κ.e - 1; omega,by show κ.e - 1<=κ.e; omega⟩;have ok5:Kok { κ with l:=κ.l,e:=κ.e - 1 } 0 [name]:=⟨c5.l0,Int.le_trans c5.l1 ok.l1,ok.p0,ok.p1,c5.e0,by show κ.e - 1<=0; omega,fun z=>absurd z (by decide),fun z=>absurd (show(0:Int) < κ.e - 1 from z) (by omega),by show 1<=4; decide⟩;refine pQ (fun ρ' C'=>∃(ls:List Ln) (κ':Kt) (x7:Option PV),ρ'=[some (.ref t),some (.ref k),some (.int (d:Nat)),some (.str name),some rk.pv,some (.ref h),x7]/\EI C C' t k h ns { κ with l:=κ.l,e:=κ.e - 1 } κ' name ls 0) (fun L hL=>?_) ?_
 .refine ⟨t,2,ns,rfl,T5.new hh _,by decide,by decide,fun v2 C6 v20 v21 T6 e6=>?_⟩
  refine fV ?_;refine⟨by omega,by omega,?_⟩;have k6:KAt C6 t k { κ with l:=κ.l,e:=κ.e - 1 }:=(k5.upd nhk nb nr _).ex e6;refine wJ (fun zs ρ C'=>∃(ls:List Ln) (κ':Kt) (x7:Option PV),ρ=[some (.ref t),some (.ref k),some (.int (d:Nat)),some (.str name),some rk.pv,some (.ref h),x7]/\EI C C' t k h ns { κ with l:=κ.l,e:=κ.e - 1 } κ' name ls zs.length) ?_ ?_ _ _ _ ⟨[],_,_,rfl,⟨e6 _ _ nht jQ,(fun _ z=>nomatch z),by rw[List.length_map,List.length_range]; show 0+_<=2; omega,by show(0:Int)<=_ - _; omega,Nat.zero_le _,Chg.refl ok5,rfl,rfl,T6,k6,(x5.put hh0 _).trans (ExS.ofEx e6)⟩⟩
  .rintro z zs ρ C7 ⟨ls,κ1,x7,rfl,I⟩ L3 hL3
   have ok7:=ok5.chg I.ch;have hll:=I.len;rw[List.length_cons] at hll;refine bZ I.kt.at_ rfl mW ?_;refine i_i ?_;refine pX (fun hb=>?_) fun hb=>?_
   .have hb:=of_decide_eq_true hb
    refine bJ ?_;refine bZ I.kt.at_ rfl mW ?_;refine i_i ?_;refine eK I.kt.at_ rfl (by show 6<=1000; decide) ?_;rw[mD]
    try dsimp only
    have k8:=I.kt.put (κ1.l - 1) κ1.p κ1.e κ1.la;have T8:=I.tp.put hk.nk (.dK (aQ κ1.b κ1.r (κ1.l - 1) κ1.p κ1.e (oK κ1.la)));have mh8:uQ C7 k (.dK (aQ κ1.b κ1.r (κ1.l - 1) κ1.p κ1.e (oK κ1.la))) h=some (.lst (Ln.pvs ls)):=by rw[yQ nhk]; exact I.mh
    have x8:ExS [t,k] C (uQ C7 k (.dK (aQ κ1.b κ1.r (κ1.l - 1) κ1.p κ1.e (oK κ1.la)))):=I.ex.at (by simp) _;generalize uQ C7 k (.dK (aQ κ1.b κ1.r (κ1.l - 1) κ1.p κ1.e (oK κ1.la)))=C8 at k8 T8 mh8 x8 ⊢;have k8:KAt C8 t k { κ1 with l:=κ1.l - 1 }:=k8;have c8:Chg κ1 { κ1 with l:=κ1.l - 1 }:=⟨rfl,rfl,rfl,rfl,rfl,by show 0<=κ1.l - 1; omega,by show κ1.l - 1<=κ1.l; omega,I.ch.p0,Int.le_refl _,I.ch.e0,Int.le_refl _⟩
    have ela:κ1.la=κ.la:=I.ch.la
    have more:∀(l:Ln) (κ2:Kt) (C9:CH),LnOk κ.bs κ.rs 1 [name] l->(l.tw:Int)<=1+(κ1.l - 1 - κ2.l)->(l.pw<=if κ.la.isSome then 1 else 0)->Chg { κ1 with l:=κ1.l - 1 } κ2->κ2.p=κ1.p->κ2.e=κ1.e->Tp C9 t ns->KAt C9 t k κ2->ExS [t,k] C8 C9->(∀ρ' C',(∃(ls:List Ln) (κ':Kt) (x7:Option PV),ρ'=[some (.ref t),some (.ref k),some (.int (d:Nat)),some (.str name),some rk.pv,some (.ref h),x7]/\EI C C' t k h ns { κ with l:=κ.l,e:=κ.e - 1 } κ' name ls zs.length)->L3 ρ' C') ->
      nK (.ref h) [l.pv] C9 fun _ C'=>L3 [some (.ref t),some (.ref k),some (.int (d:Nat)),some (.str name),some rk.pv,some (.ref h),some z] C':=by
     intro l κ2 C9 h1 h2 h3 h4 h5 h6 T9 k9 x9 hL';have mh9:=x9 h _ nS mh8;refine xC mh9 (by rw[Ln.pvs_len]; exact Nat.lt_of_lt_of_le (show ls.length < 4 by omega) (by decide)) ?_;have b2:h≠κ2.b:=by rw[h4.b]; show h≠κ1.b; rw[I.ch.b]; exact nb
     have r2:h≠κ2.r:=by rw[h4.r]; show h≠κ1.r; rw[I.ch.r]; exact nr
     refine hL' _ _ ⟨ls++[l],κ2,_,rfl,⟨by rw[jQ,Ln.pvs_app]; rfl,fun x hx=>?_,by rw[List.length_append,List.length_singleton]; omega,?_,?_,I.ch.trans (c8.trans h4),h5.trans I.p,h6.trans I.e,T9.put nht _,k9.upd nhk b2 r2 _,(x8.trans x9).put hh0 _⟩⟩
     .rcases List.mem_append.1 hx with hx | hx
      .exact I.ok x hx
      .cases List.mem_singleton.1 hx; exact h1
     .rw [Ln.tws_app]
      have:=I.tw;show((Ln.tws ls+(l.tw+0):Nat):Int)<=_;omega
     .rw [Ln.pws_app,List.length_append,List.length_singleton]
      have g:=I.pw;have g:Ln.pws ls<=if κ.la.isSome then ls.length else 0:=g
      show Ln.pws ls+(l.pw+0)<=if κ.la.isSome then ls.length+1 else 0
      cases hz:κ.la.isSome with
      |true=>rw[hz,if_pos rfl] at g h3; rw[if_pos rfl]; omega
      |false=>rw[hz,if_neg Bool.false_ne_true] at g h3; rw[if_neg Bool.false_ne_true]; omega
    have e1z:κ1.e=0:=by have:=I.e; have:κ1.e=κ.e - 1:=this; omega
    have elseB:∀C9,Tp C9 t ns->Ex t C8 C9->mU 0 0 [.ref t,.ref k,.tup [.str name],.int 0] C9 fun v C'=>nK (.ref h) [v] C' fun _ C''=>L3 [some (.ref t),some (.ref k),some (.int (d:Nat)),some (.str name),some rk.pv,some (.ref h),some z] C'':=by
     intro C9 T9 e9;refine⟨t,k,[name],ns,_,rfl,T9,k8.ex e9,ok7.chg c8,fun l κ2 C10 g1 g2 g3 T10 k10 x10=>?_⟩;obtain⟨n1,n2⟩:=g2.n (fun z=>nomatch z);refine more l κ2 C10 ?_ ?_ (by rw[n1]; exact Nat.zero_le _) g3 n2 ?_ T10 k10 ((ExS.ofEx e9).trans x10) hL3
     .have:LnOk κ1.bs κ1.rs 1 [name] l:=g1
      rw[I.ch.bs,I.ch.rs] at this;exact this
     .have:=g2.t
      have this:(l.tw:Int)<=1 * (1+(κ1.l - 1 - κ2.l)):=this;omega
     .have a1:=g3.e0
      have a2:=g3.e1;have a2:κ2.e<=κ1.e:=a2;omega
    refine bZ k8.at_ rfl qD ?_;refine c_i ?_;refine vE (fun hb2=>?_) fun hb2=>?_
    .refine ⟨t,2,ns,rfl,T8,by decide,by decide,fun z2 C9 z20 z21 T9 e9=>?_⟩
     refine wZ (wX _ _) ?_;refine pX (fun hb3=>?_) fun hb3=>?_
     .have hb2:(!vH (oK κ1.la))=true:=hb2
      obtain⟨sl,hsl⟩:∃sl,κ1.la=some sl:=by
       cases hz:κ1.la with
       |none=>rw[hz] at hb2; cases hb2
       |some sl=>exact⟨sl,rfl⟩
      have k9:=k8.ex e9;refine⟨bU (e9 _ _ nht mh8),?_⟩;refine⟨by show 1<=sizeLine; decide,?_⟩;refine bZ k9.at_ rfl (v:=.str sl) (by rw[qD]; show some (oK κ1.la)=_; rw[hsl]; rfl) ?_;refine⟨t,k,[name],ns,_,sl,rfl,T9,k9,by show 1<=4; decide,fun o g C10 ho hg hgl T10 e10=>?_⟩;refine more (.part o sl g) { κ1 with l:=κ1.l - 1 } C10 ?_ ?_ ?_ (Chg.refl (ok7.chg c8)) rfl rfl T10 (k9.ex e10) ((ExS.ofEx e9).trans (ExS.ofEx e10)) hL3
      .have ho:dR κ1.bs [name] o:=ho
       have hg:nH κ1.bs [name] 1 g:=hg;rw[I.ch.bs] at ho hg;exact⟨ho,ok.ly he sl (by rw[<- ela]; exact hsl),hg,hgl⟩
      .show ((1:Nat):Int)<=1+(κ1.l - 1 - (κ1.l - 1)); omega
      .rw [<- ela,hsl]; exact Nat.le_refl _
     .refine ⟨bU (e9 _ _ nht mh8),?_⟩
      refine⟨by show 1<=sizeLine; decide,?_⟩;exact elseB C9 T9 e9
    .refine nW rfl ?_
     refine⟨bU mh8,?_⟩;refine⟨by show 1<=sizeLine; decide,?_⟩;exact elseB C8 T8 Ex.refl
   .refine xX ?_
    exact hL3 _ _ ⟨ls,κ1,_,rfl,⟨I.mh,I.ok,by omega,I.tw,I.pw,I.ch,I.p,I.e,I.tp,I.kt,I.ex⟩⟩
  .rintro ρ C7 ⟨ls,κ1,x7,rfl,I⟩
   exact hL _ _ ⟨ls,κ1,_,rfl,I⟩
 rintro ρ' C7 ⟨ls,κ1,x7,rfl,I⟩
 try dsimp only
 refine tK I.mh ?_;refine⟨by show 4<=sizeLine; decide,?_⟩;have cl0:=I.ch.l0;have cl1:κ1.l<=κ.l:=I.ch.l1;have ce:κ1.e=κ.e - 1:=I.e;have cp:κ1.p=κ.p:=I.p;have ctw:(Ln.tws ls:Int)<=κ.l - κ1.l:=I.tw;have cpw:Ln.pws ls<=if κ.la.isSome then ls.length else 0:=I.pw
 have cll:ls.length+0<=2:=I.len;refine q (.each name rk ls) κ1 _ ?_ ?_ ?_ I.tp I.kt I.ex
 .exact ⟨hrk,fun x hx=>(I.ok x hx).mono (by decide),by omega⟩
 .refine ⟨?_,?_,fun z=>absurd rfl z⟩
  .show ((8 * Ln.tws ls:Nat):Int)<=8 * (1+(κ.l - κ1.l))
   omega
  .show ((8 * Ln.pws ls:Nat):Int)<=(κ.p - κ1.p)+zOf κ * (κ.e - κ1.e)
   have e1:κ.e - κ1.e=1:=by omega
   rw[e1,Int.mul_one];unfold zOf
   cases hz:κ.la.isSome with
   |true=>rw[hz,if_pos rfl] at cpw; rw[if_pos rfl]; omega
   |false=>rw[hz,if_neg Bool.false_ne_true] at cpw; rw[if_neg Bool.false_ne_true]; omega
 .exact ⟨I.ch.b,I.ch.r,I.ch.bs,I.ch.rs,I.ch.la,I.ch.l0,by omega,I.ch.p0,I.ch.p1,I.ch.e0,by show κ1.e<=κ.e; omega⟩
end
structure Pt where
 name:Str
 first:List (Str×Int)
 works:List (Str×Rk)
 ls:List Ln
def Pt.pv (x:Pt):PV:=.tup [.str x.name,.tup (x.first.map oQ),.tup (x.works.map wK),.tup (Ln.pvs x.ls)]
structure PtOk (rs:List Str)(cap:Nat)(x:Pt):Prop where
 fl:x.first.length<=4
 wk:nH (x.first.map (·.1)) [] 1 x.works
 wl:x.works.length<=4
 ls:∀l∈x.ls,LnOk (x.first.map (·.1)) rs 6 [] l
 ll:x.ls.length<=6
 tw:Ln.tws x.ls<=48
 pw:Ln.pws x.ls<=cap
 fb:∀c∈x.first,-1000000000<=c.2/\c.2<=1000000000
 fd:(x.first.map (·.1)).Nodup
theorem pT {p:Addr}{ts:List (PV×PV)}{ps:List (Key×PV)}{C:CH}{Q:K1}(m:C p=some (.dK []))(e:prK ts=some ps)(h:ps.length<=15)(q:Q (.ref p) (uQ C p (.dK (zW [] ps)))):lG p ts C Q:=by
 unfold lG;refine⟨m,?_⟩;rw[e];exact⟨h,q⟩
theorem lL {ss:List Str}(n:Nat):pY (ss.map PV.str) (some ((n:Int)+1)) none=(ss.drop (n+1)).map PV.str:=by
 unfold pY
 have e:HT.sIx (ss.map PV.str).length 0 (some ((n:Int)+1))=min (n+1) ss.length:=by
  have:((n:Int)+1)=((n+1:Nat):Int):=by omega
  rw[this,HT.sIx_nat,List.length_map]
 rw[e,HT.sIx_none,List.length_map,<- List.map_drop,List.take_of_length_le (by rw[List.length_map,List.length_drop]; exact Nat.le_refl _)]
 congr 1
 by_cases h:n+1<=ss.length
 .rw [Nat.min_eq_left h]
 .rw [Nat.min_eq_right (by omega),List.drop_of_length_le (Nat.le_refl _),List.drop_of_length_le (by omega)]
theorem cA {ss:List Str}(h:1 < ss.length):∃s∈ss.drop 1,atI (ss.map PV.str) (-1)=some (.str s):=by
 unfold atI ixN;rw[if_neg (by decide),List.length_map,if_pos (by omega)];have e:((ss.length:Int) + -1).toNat=ss.length - 1:=by omega
 refine⟨ss[ss.length - 1],?_,?_⟩
 .have:ss[ss.length - 1]=(ss.drop 1)[ss.length - 2]'(by rw[List.length_drop]; omega):=by
   rw[List.getElem_drop]
   congr 1
   omega
  rw[this];exact List.getElem_mem _
 .show (ss.map PV.str)[((ss.length:Int) + -1).toNat]?=_
  rw[e,List.getElem?_map,List.getElem?_eq_getElem (by omega)]
  rfl
theorem lH {ss:List Str}{n:Nat}(h:n < ss.length):atI (ss.map PV.str) (n:Int)=some (.str ss[n]):=by
 have:=yW (xs:=ss.map PV.str) (k:=n) (by rw[List.length_map]; exact h);rw[List.getElem_map] at this;exact this
section
variable {P:Program}{w:World}{K:PySem.W.Frag}{mg:Str->Option Value}{base:Heap}{a:Adr}
theorem yO {f:Addr}{fd:FuncData}{ps:List Str}{r:Nat}{G:GC}(h:∀ts C Q,¬ G ts C Q):FnOk P w K mg base CX0 r f fd ps (spC K G) :=
 ⟨fun vs H Q E ⟨ts,C,R,_,_,z,_⟩=>(h _ _ _ z).elim,fun _ _ _ _ _ _ _ _ _ _ _ _ _ ⟨ts,C,R,_,_,z,_⟩=>(h _ _ _ z).elim⟩
theorem sD {e d r:Nat}(h:∀d',d=d'+1->FnOk P w K mg base CX0 r (a.f 15) (a.d 15) U0 (spC K (kW e d'))):FnOk P w K mg base CX0 r (a.f 15) (a.d 15) U0 (spC K (jF e d)):=by
 cases d with
 |zero=>exact yO fun ts C Q ⟨d',e,_⟩=>by omega
 |succ d' =>
  have e:jF e (d'+1)=kW e d':=by
   funext ts C Q
   refine propext ⟨fun⟨d'',z,h⟩=>?_,fun h=>⟨d',rfl,h⟩⟩;cases Nat.succ.inj z;exact h
  rw[e];exact h d' rfl
theorem uR (T:Txt P w K mg a):FnOk P w K mg base CX0 8 (a.f 11) (a.d 11) U0 (spC K (mU 0 0)) :=
 nD (base:=base) T 0 0 7 (by decide) (sD fun d' e=>by omega)
theorem fO (T:Txt P w K mg a):FnOk P w K mg base CX0 13 (a.f 13) (a.d 13) U4 (spC K (mE 1)) :=
 (ok_each (base:=base) T 8 (by decide) (uR T)).mono (by decide)
theorem rB (T:Txt P w K mg a)(d:Nat):FnOk P w K mg base CX0 (15+3 * d) (a.f 15) (a.d 15) U0 (spC K (kW 1 d)):=by
 have step:∀d,(∀d',d=d'+1->FnOk P w K mg base CX0 (12+3 * d) (a.f 15) (a.d 15) U0 (spC K (kW 1 d')))->FnOk P w K mg base CX0 (15+3 * d) (a.f 15) (a.d 15) U0 (spC K (kW 1 d)):=by
  intro d h;have lo:=sD (e:=1) (d:=d) (r:=12+3 * d) h;have pl:=nD (base:=base) T 1 d (12+3 * d) (by omega) lo;have ln:=ok_line (base:=base) T 1 d (12+3 * d+1) (by decide) (by omega) (lo.mono (by omega)) pl ((fO T).mono (by omega));have:=uO (base:=base) T 1 d (12+3 * d+1+1) (by omega) ln;have e:12+3 * d+1+1+1=15+3 * d:=by omega
  rw[e] at this;exact this
 induction d with
 |zero=>exact step 0 fun d' e=>by omega
 |succ d ih=>exact step (d+1) fun d' e=>by cases Nat.succ.inj e; exact ih.mono (by omega)
end
section
variable {P:Program}{w:World}{K:PySem.W.Frag}{mg:Str->Option Value}{base:Heap}{a:Adr}
theorem ok_or {f:Addr}{fd:FuncData}{ps:List Str}{r:Nat}{G1 G2:GC}(h1:FnOk P w K mg base CX0 r f fd ps (spC K G1))(h2:FnOk P w K mg base CX0 r f fd ps (spC K G2)):FnOk P w K mg base CX0 r f fd ps (spC K (fun ts C Q=>G1 ts C Q\/G2 ts C Q)) :=
 ⟨fun vs H Q E ⟨ts,C,R,x,y,z,u⟩=>by
  rcases z with z | z
  .exact h1.len vs H Q E ⟨ts,C,R,x,y,z,u⟩
  .exact h2.len vs H Q E ⟨ts,C,R,x,y,z,u⟩,fun A outer s H args us vs Q E rm e0 bt vl ⟨ts,C,R,x,y,z,u⟩=>by
  rcases z with z | z
  .exact h1.run A outer s H args us vs Q E rm e0 bt vl ⟨ts,C,R,x,y,z,u⟩
  .exact h2.run A outer s H args us vs Q E rm e0 bt vl ⟨ts,C,R,x,y,z,u⟩⟩
def tU (k:Nat):Nat:=if k=0 then 18 else 2
structure KS (κ:Kt)(bl rl:Addr)(bs rs:List Str)(k:Nat):Prop where
 b:κ.b=bl
 r:κ.r=rl
 bs:κ.bs=bs
 rs:κ.rs=rs
 l:κ.l=6
 p0:1<=κ.p
 p1:κ.p<=2
 e0:0<=κ.e
 e1:κ.e<=1
 ly:0 < κ.e->∀s,κ.la=some s->s∈κ.rs
 cap:κ.p+zOf κ * κ.e<=(tU k:Nat)
def gPart:GC:=fun ts C Q=>∃(t nl:Addr) (ns:List Int) (names:List Str) (k:Nat) (keyed:Bool),ts=[.ref t,.ref nl,.int (k:Nat),.bl keyed]/\Tp C t ns/\C nl=some (.lst (names.map PV.str))/\nl≠t/\names.length<=6/\k < names.length /\
 ∀(x:Pt) (C':CH),names[k]?=some x.name->PtOk (names.drop (k+1)) (tU k) x->Tp C' t ns->Ex t C C'->Q x.pv C'
theorem ok_part (T:Txt P w K mg a):FnOk P w K mg base CX0 25 (a.f 16) (a.d 16) U6 (spC K gPart):=by
 have S:=(T.F 16 rfl).s;have vQ:=(bX (base:=base) T).mono (show 1<=24 by decide);have dX:=(jV (base:=base) T).mono (show 2<=24 by decide);have uJ:=(gY (base:=base) T).mono (show 2<=24 by decide);have qZ:=(uU (base:=base) T 1).mono (show 5<=24 by decide);have rZ:=ok_or (rB (base:=base) T 3) ((rB (base:=base) T 1).mono (show 15+3 * 1<=24 by decide))
 refine(T.F 16 rfl).ok (fun ts C R h=>?_) fun cdv A outer s H E hr=>⟨_,(xQ (cs1 4 S.nd (cx (zX (qQ zQ (qQ zQ (qQ zQ (qQ zQ (qQ zQ (ca1 zQ))))))) (cf (T.F 3 rfl) vQ hr (qQ (cv 0) (ca1 zQ)))))
  (xQ (cs1 5 S.nd (cf (T.F 4 rfl) dX hr (qQ (cv 0) (ca1 (cv 4)))))
  (xQ (cs1 6 S.nd (ce_disp (qK kQ (cv 5) (qK kQ (dY (cv 1) (nV (sQ lX rX (cv 2) zQ)) sV) (qK kQ zQ (qK kQ zQ (qK kQ zQ (qK kQ uV cps_nil))))))))
  (xQ (qX (cw_pt (cw_or (ct2 wU vW (cln T.zZ (cv 1)) zQ) (cw_or1 (cw_pt (cw_and (pK (cv 3)) (cw_and1 (ct2 nX vX (cv 2) zQ))))))) (wQ (dJ (kX hr) (cv 6) kQ zQ)) rQ)
  (xQ (qX (pK (cv 3)) (xQ (dJ (kX hr) (cv 6) kQ (kJ oV cG rfl T.iF rfl (ca1 (gV nX vX (cv 2) zQ (uK _)))))
  (xQ (qX (ct2 uZ mX (cln T.zZ (cv 1)) zQ) (wQ (dJ (kX hr) (cv 6) kQ (cx (cv 1) (tN fM mG zQ)))) rQ)
  (wQ (qX (ct2 uZ mX (cv 2) zQ) (wQ (dJ (kX hr) (cv 6) kQ zQ)) rQ)))) rQ)
  (xQ (cs1 7 S.nd (ctp T.aX (xK rfl (S.c (by decide +kernel)) (S.k rfl rfl rfl (by decide +kernel)) (cv 5) (fun _ _ _ _ _=>hZ) (fun _ _ _ _ _=>(bQ (qQ (cv 0) (ca1 (cf (T.F 5 rfl) uJ hr (ca1 (cv 1))))))))))
  (xQ (cs1 8 S.nd (cf (T.F 15 rfl) rZ hr (qQ (cv 0) (qQ (cv 6) (qQ (bQ oZ) (ca1 (cx (zX (qQ zQ (ca1 zQ))) (kJ oV cG rfl T.iF rfl (ca1 (gV uZ mX (cln T.zZ (cv 1)) zQ (uK _)))))))))))
  (xQ (cs1 9 S.nd (cf (T.F 4 rfl) dX hr (qQ (cv 0) (ca1 (cf (T.F 3 rfl) vQ hr (qQ (cv 0) (ca1 zQ)))))))
  (xQ (cs1 10 S.nd (ctp T.aX (xK rfl (S.c (by decide +kernel)) (S.k rfl rfl rfl (by decide +kernel)) (cv 9) (fun _ _ _ _ _=>hZ) (fun _ _ _ _ _=>(bQ (qQ (cv 0) (ca1 (cf (T.F 7 rfl) qZ hr (qQ (cv 1) (qQ (cv 7) (qQ (bQ oZ) (ca1 zQ))))))))))))
  (wQ (mQ (bQ (qQ (cx (cv 1) (cv 2)) (qQ (cv 7) (qQ (cv 10) (ca1 (cv 8))))))))))))))))),?_⟩
 .obtain ⟨t,nl,ns,names,k,keyed,rfl,_⟩:=h; rfl
 rintro ts C R ⟨t,nl,ns,names,k,keyed,rfl,hT,mn,nt,hnl,hkn,q⟩;refine gQ ?_;refine⟨by show 6<=sizeLine; decide,fun p1 hp1=>?_⟩;refine⟨t,6,ns,rfl,hT.new hp1 _,by decide,by decide,fun v C1 v0 v1 T1 e1=>?_⟩;have e01:Ex t C C1:=(Ex.new hp1 _).trans e1;refine iQ (e1 p1 _ (hT.ne hp1) jQ) (tZ (f:=PV.int) (ss:=[0,1,1,2,2,4]) 0 v0 v1) ?_
 have hm:0<=([0,1,1,2,2,4]:List Int).getD v.toNat 0/\([0,1,1,2,2,4]:List Int).getD v.toNat 0<=4:=by
  have:v=0\/v=1\/v=2\/v=3\/v=4\/v=5:=by omega
  rcases this with rfl | rfl | rfl | rfl | rfl | rfl<;>decide
 generalize ([0,1,1,2,2,4]:List Int).getD v.toNat 0=m at hm ⊢
 try dsimp only
 refine gQ ?_;refine⟨t,m,ns,rfl,T1,hm.1,by omega,fun bl bs C2 m2 n2 bt hbl nd T2 e2=>?_⟩;have e02:=e01.trans e2;have hbs:bs.length<=4:=by omega
 try dsimp only
 refine gQ ?_;intro kd hkd;have T3:=T2.new hkd (.dK []);have nkt:=T2.ne hkd;refine fV ?_;refine lC (Gr.new hkd _ _ _ (e02 _ _ nt mn)) fun rl hrl=>?_;have T4:=T3.new hrl (.lst (pY (names.map PV.str) (some ((k:Int)+1)) none));have nrt:=T3.ne hrl;have nkr:kd≠rl:=fun z=>by subst z; rw[jQ] at hrl; cases hrl
 have hrl2:C2 rl=none:=by rw[yQ (Ne.symm nkr)] at hrl; exact hrl
 have nbk:bl≠kd:=fun z=>by rw[z,hkd] at m2; cases m2
 have nbr:bl≠rl:=fun z=>by rw[z,hrl2] at m2; cases m2
 rw[lL];rw[lL] at T4;refine pT (ps:=aQ bl rl 6 1 1 .non) (by rw[yQ nkr]; exact jQ) rfl (by show 6<=15; decide) ?_;rw[show zW [] (aQ bl rl 6 1 1 .non)=aQ bl rl 6 1 1 .non from rfl]
 try dsimp only
 have T5:=T4.put nkt (.dK (aQ bl rl 6 1 1 .non))
 have x5:Ex t C (uQ (uQ (uQ C2 kd (.dK [])) rl (.lst ((names.drop (k+1)).map PV.str))) kd (.dK (aQ bl rl 6 1 1 .non))) :=
  ((e02.trans (Ex.new hkd _)).trans (Ex.new hrl _)).put (e02.none nkt hkd) _
 have k5:KAt (uQ (uQ (uQ C2 kd (.dK [])) rl (.lst ((names.drop (k+1)).map PV.str))) kd (.dK (aQ bl rl 6 1 1 .non))) t kd ⟨bl,rl,bs,names.drop (k+1),6,1,1,none⟩:=by
  refine⟨jQ,?_,?_,nkt,bt,nrt,hbs,?_⟩
  .show uQ (uQ (uQ C2 kd (.dK [])) rl (.lst ((names.drop (k+1)).map PV.str))) kd (.dK (aQ bl rl 6 1 1 .non)) bl=_
   rw[yQ nbk,yQ nbr,yQ nbk]; exact m2
  .show uQ (uQ (uQ C2 kd (.dK [])) rl (.lst ((names.drop (k+1)).map PV.str))) kd (.dK (aQ bl rl 6 1 1 .non)) rl=_
   rw[yQ (Ne.symm nkr)]; exact jQ
  .show (names.drop (k+1)).length<=6
   rw[List.length_drop]; omega
 have kd0:C kd=none:=e02.none nkt hkd;generalize uQ (uQ (uQ C2 kd (.dK [])) rl (.lst ((names.drop (k+1)).map PV.str))) kd (.dK (aQ bl rl 6 1 1 .non))=C5 at T5 x5 k5 ⊢;refine pQ (fun ρ' C'=>∃p:Int,1<=p/\p<=2/\ρ'=[some (.ref t),some (.ref nl),some (.int (k:Nat)),some (.bl keyed),some (.int m),some (.ref bl),some (.ref kd),none,none,none,none]/\Tp C' t ns/\Ex t C C'/\KAt C' t kd ⟨bl,rl,bs,names.drop (k+1),6,p,1,none⟩) (fun L hL=>?_) ?_
 .have yes:∀L':CSt->CH->Prop,L'=L->jP (.ref kd) (.str "parts") (.int 2) C5 fun C4=>L' [some (.ref t),some (.ref nl),some (.int (k:Nat)),some (.bl keyed),some (.int m),some (.ref bl),some (.ref kd),none,none,none,none] C4:=by
   rintro L' rfl;refine eK k5.at_ rfl (by show 6<=1000; decide) ?_;exact hL _ _ ⟨2,by decide,by decide,rfl,T5.put nkt _,x5.put kd0 _,k5.put 6 2 1 none⟩
  refine vV (x5 _ _ nt mn) ?_;refine i_i ?_;refine pX (fun hb=>?_) fun hb=>?_
  .refine if_y rfl ?_
   exact yes _ rfl
  .refine vE (fun hb2=>?_) fun hb2=>?_
   .refine wZ (wX _ _) ?_
    refine pX (fun hb3=>?_) fun hb3=>?_
    .exact yes _ rfl
    .refine xX ?_
     exact hL _ _ ⟨1,by decide,by decide,rfl,T5,x5,k5⟩
   .refine nW rfl ?_
    refine xX ?_;exact hL _ _ ⟨1,by decide,by decide,rfl,T5,x5,k5⟩
 clear k5 T5 x5;rintro ρ' C6 ⟨p,p0,p1,rfl,T6,x6,k6⟩
 try dsimp only
 have zle:∀κ:Kt,zOf κ<=16:=fun κ=>by unfold zOf; split<;>decide
 refine pQ (fun ρ' C'=>∃κ:Kt,KS κ bl rl bs (names.drop (k+1)) k/\ρ'=[some (.ref t),some (.ref nl),some (.int (k:Nat)),some (.bl keyed),some (.int m),some (.ref bl),some (.ref kd),none,none,none,none]/\Tp C' t ns/\Ex t C C'/\KAt C' t kd κ) (fun L hL=>?_) ?_
 .refine vE (fun hb=>?_) fun hb=>?_
  .refine bJ ?_
   refine wZ (wX _ _) ?_;refine pN ?_;refine eK k6.at_ rfl (by show 6<=1000; decide) ?_;rw[qU]
   try dsimp only
   have he:∃e:Int,(if id (decide ((k:Int)=0))=true then (1:Int) else 0)=e/\((k=0/\e=1)\/(0 < k/\e=0)):=by
    by_cases hk0:k=0
    .refine ⟨1,?_,.inl ⟨hk0,rfl⟩⟩
     rw[if_pos (by show decide ((k:Int)=0)=true; exact decide_eq_true (by omega))]
    .refine ⟨0,?_,.inr ⟨by omega,rfl⟩⟩
     rw[if_neg (by show ¬ decide ((k:Int)=0)=true; rw[decide_eq_false (by omega)]; decide)]
   obtain⟨e,ee,hek⟩:=he;rw[ee];have k7:=k6.put 6 p e none;have T7:=T6.put nkt (.dK (aQ bl rl 6 p e (oK none)));have x7:=x6.put kd0 (.dK (aQ bl rl 6 p e (oK none)));have e7:(CO.dK (aQ bl rl 6 p e .non))=.dK (aQ bl rl 6 p e (oK none)):=rfl;show pA _ _ _ _ (uQ C6 kd (CO.dK (aQ bl rl 6 p e (oK none))));generalize uQ C6 kd (CO.dK (aQ bl rl 6 p e (oK none)))=C7 at k7 T7 x7 ⊢;refine pQ (fun ρ' C'=>∃la:Option Str,(k=0->∀s,la=some s->s∈names.drop (k+1))/\ρ'=[some (.ref t),some (.ref nl),some (.int (k:Nat)),some (.bl keyed),some (.int m),some (.ref bl),some (.ref kd),none,none,none,none]/\Tp C' t ns/\Ex t C C'/\KAt C' t kd ⟨bl,rl,bs,names.drop (k+1),6,p,e,la⟩) (fun L1 hL1=>?_) ?_
   .refine vV (x7 _ _ nt mn) ?_
    refine i_i ?_;refine pX (fun hb2=>?_) fun hb2=>?_
    .have hb2:=of_decide_eq_true hb2
     rw[List.length_map] at hb2;obtain⟨sl,hsl,esl⟩:=cA (ss:=names) (by omega);refine iQ (x7 _ _ nt mn) esl ?_;refine eK k7.at_ rfl (by show 6<=1000; decide) ?_;exact hL1 _ _ ⟨some sl,fun hk0 s hs=>by cases hs; rw[hk0]; exact hsl,rfl,T7.put nkt _,x7.put kd0 _,k7.put 6 p e (some sl)⟩
    .refine xX ?_
     exact hL1 _ _ ⟨none,(fun _ _ z=>nomatch z),rfl,T7,x7,k7⟩
   rintro ρ' C8 ⟨la,hla,rfl,T8,x8,k8⟩
   try dsimp only
   refine i_i ?_;refine pX (fun hb2=>?_) fun hb2=>?_
   .have hb2:=of_decide_eq_true hb2
    have e0:e=0:=by omega
    subst e0;refine eK k8.at_ rfl (by show 6<=1000; decide) ?_;refine hL _ _ ⟨⟨bl,rl,bs,names.drop (k+1),6,1,0,la⟩,⟨rfl,rfl,rfl,rfl,rfl,Int.le_refl _,(by show(1:Int)<=2; decide),Int.le_refl _,(by show(0:Int)<=1; decide),fun z=>absurd (show(0:Int) < 0 from z) (by decide),?_⟩,rfl,T8.put nkt _,x8.put kd0 _,k8.put 6 1 0 la⟩;show(1:Int)+zOf _ * 0<=_;rw[Int.mul_zero];unfold tU
    split<;>decide
   .refine xX ?_
    have hb2:=of_decide_eq_false hb2;have hk0:k=0:=by omega
    have e1:e=1:=by omega
    subst e1;refine hL _ _ ⟨⟨bl,rl,bs,names.drop (k+1),6,p,1,la⟩,⟨rfl,rfl,rfl,rfl,rfl,p0,p1,(by show(0:Int)<=1; decide),Int.le_refl _,fun _=>hla hk0,?_⟩,rfl,T8,x8,k8⟩;show p+zOf _ * 1<=_;rw[Int.mul_one];have:=zle ⟨bl,rl,bs,names.drop (k+1),6,p,1,la⟩;unfold tU;rw[if_pos hk0];omega
  .refine xX ?_
   refine hL _ _ ⟨⟨bl,rl,bs,names.drop (k+1),6,p,1,none⟩,⟨rfl,rfl,rfl,rfl,rfl,p0,p1,(by show(0:Int)<=1; decide),Int.le_refl _,(fun _ _ z=>nomatch z),?_⟩,rfl,T6,x6,k6⟩;show p+0 * 1<=_;unfold tU
   split<;>omega
 clear k6 T6 x6;rintro ρ' C7 ⟨κ,ks,rfl,T7,x7,k7⟩
 try dsimp only
 have mb7:C7 bl=some (.lst (bs.map PV.str)):=by have:=k7.bx; rw[ks.b,ks.bs] at this; exact this
 refine gQ ?_;refine vA mb7 rfl ?_;refine yJ (β:=Int) oQ (fun i:Int=>-1000000000<=i/\i<=1000000000) (fun C'=>Tp C' t ns/\Ex t C7 C') (fun C' h=>h.2 _ _ bt mb7) (by omega) (fun z C8 L ⟨T8,e8⟩ hL=>?_) (fun fs C8 p8 ⟨T8,e8⟩ hp8 hfs hfo=>?_) ⟨T7,Ex.refl⟩
 .exact ⟨t,ns,rfl,T8,fun i C9 i0 i1 T9 e9=>⟨by show 2<=sizeLine; decide,hL i C9 ⟨i0,i1⟩ ⟨T9,e8.trans e9⟩⟩⟩
 refine tK jQ ?_;have T9:=T8.new hp8 (.lst (fs.map oQ));have e9:Ex t C7 (uQ C8 p8 (.lst (fs.map oQ))):=e8.trans (Ex.new hp8 _);generalize uQ C8 p8 (.lst (fs.map oQ))=C9 at T9 e9 ⊢
 try dsimp only
 have k9:=k7.ex e9;have x9:Ex t C C9:=x7.trans e9;have ok9:Kok κ 1 []:=⟨by rw[ks.l]; decide,by rw[ks.l]; decide,by have:=ks.p0; omega,ks.p1,ks.e0,ks.e1,fun _=>rfl,ks.ly,Nat.zero_le _⟩;refine gQ ?_;refine⟨by show 0<=sizeLine; decide,?_⟩;refine⟨by show 2<=sizeLine; decide,fun p10 hp10=>?_⟩;have T10:=T9.new hp10 (.lst [PV.int 3,PV.int 1]);have k10:=k9.ex (Ex.new hp10 (.lst [PV.int 3,PV.int 1]));have x10:Ex t C (uQ C9 p10 (.lst [PV.int 3,PV.int 1])):=x9.trans (Ex.new hp10 _)
 refine vV (x10 _ _ nt mn) ?_;refine i_i ?_;refine pN ?_
 have fin:∀(ls:List Ln) (κ':Kt) (C':CH),(∀x∈ls,LnOk κ.bs κ.rs 6 [] x)->ls.length<=6->Wgt 1 [] κ κ' 0 (Ln.tws ls) (Ln.pws ls)->Chg κ κ'->Tp C' t ns->KAt C' t kd κ'->ExS [t,kd] (uQ C9 p10 (.lst [PV.int 3,PV.int 1])) C'->∀(x:Pt),x.name=names[k]->x.first=fs->x.ls=ls->nH bs [] 1 x.works->x.works.length<=4->∀C'',Tp C'' t ns->Ex t C' C''->R x.pv C'':=by
  intro ls κ' C' h1 h2 h3 h4 T' k' x' x xn xf xl xw xwl C'' T'' e'';refine q x C'' (by rw[List.getElem?_eq_getElem hkn,xn]) ?_ T'' ?_
  .have hfb:x.first.map (·.1)=bs:=by rw[xf]; exact hfs
   refine⟨by rw[xf,<- List.length_map (f:=(·.1)),hfs]; exact hbs,by rw[hfb]; exact xw,xwl,?_,by rw[xl]; exact h2,?_,?_,by rw[xf]; exact hfo,by rw[hfb]; exact nd⟩
   .rw [xl,hfb]
    intro l hl;have:=h1 l hl;rw[ks.bs,ks.rs] at this;exact this
   .rw [xl]
    have:=h3.t;have l0:=h4.l0;have kl:=ks.l;have this:(Ln.tws ls:Int)<=8 * (0+(κ.l - κ'.l)):=this;omega
   .rw [xl]
    have g:=h3.p;have c:=ks.cap;have e0:=h4.e0;have e1:=h4.e1;have q0:=h4.p0;have z:zOf κ=0\/zOf κ=16:=by unfold zOf; split; exact .inr rfl; exact .inl rfl
    rcases z with z | z<;>rw[z] at g c<;>omega
  .intro b o nb hb
   have nk:b≠kd:=fun z=>by rw[z,kd0] at hb; cases hb
   exact e'' b o nb (x' b o (fun z=>by
    rcases List.mem_cons.1 z with z | z
    .exact nb z
    .exact nk (List.mem_singleton.1 z)) (x10 b o nb hb))
 have rest:∀(ls:List Ln) (κ':Kt) (C':CH),(∀x∈ls,LnOk κ.bs κ.rs 6 [] x)->ls.length<=6->Wgt 1 [] κ κ' 0 (Ln.tws ls) (Ln.pws ls)->Chg κ κ'->Tp C' t ns->KAt C' t kd κ'->ExS [t,kd] (uQ C9 p10 (.lst [PV.int 3,PV.int 1])) C' ->
   gDraw [.ref t,.int 3] C' fun v C1=>bE [.ref t,v] C1 fun wn C2=>rY (qY 9) cY (cTup (bV (qY 0) (bV (eU (yH 1) (bV (qY 1) (bV (qY 7) (bV (cTup xP) (bV (cC (.int 1)) xP))))) xP))) [some (.ref t),some (.ref nl),some (.int (k:Nat)),some (.bl keyed),some (.int m),some (.ref bl),some (.ref kd),some (.tup (fs.map oQ)),some (.tup (Ln.pvs ls)),some wn,none] C2 fun lv C3=>lY [lv] C3 fun wv C4=>cIx (.ref nl) (.int (k:Nat)) C4 fun nm C5=>4<=sizeLine/\R (.tup [nm,.tup (fs.map oQ),wv,.tup (Ln.pvs ls)]) C5:=by
  intro ls κ' C' h1 h2 h3 h4 T' k' x';refine⟨t,3,ns,rfl,T',by decide,by decide,fun v C11 v0 v1 T11 e11=>?_⟩;refine⟨t,v,ns,rfl,T11,v0,by omega,fun wl ws C12 m12 n12 wt hwl nd T12 e12=>?_⟩;refine vA m12 rfl ?_;have e1112:=e11.trans e12;refine yJ (β:=Rk) wK (fun r=>r.ok bs [] 1) (fun C''=>Tp C'' t ns/\Ex t C12 C'') (fun C'' h=>h.2 _ _ wt m12) (by omega) (fun z C13 L ⟨T13,e13⟩ hL=>?_) (fun bs' C13 p13 ⟨T13,e13⟩ hp13 hb ho=>?_) ⟨T12,Ex.refl⟩
  .refine ⟨by show 0<=sizeLine; decide,?_⟩
   refine⟨t,kd,[],ns,κ',rfl,T13,k'.ex (e1112.trans e13),Nat.zero_le _,fun r C14 hr T14 e14=>⟨by show 2<=sizeLine; decide,hL r C14 ?_ ⟨T14,e13.trans e14⟩⟩⟩;rw[h4.bs,ks.bs] at hr;exact hr
  .refine tK jQ ?_
   have e013:Ex t C' (uQ C13 p13 (.lst (bs'.map wK))):=(e1112.trans e13).trans (Ex.new hp13 _);have nnk:nl≠kd:=fun z=>by rw[z,kd0] at mn; cases mn
   have mn':C' nl=some (.lst (names.map PV.str)):=x' nl _ (fun z=>by
    rcases List.mem_cons.1 z with z | z
    .exact nt z
    .exact nnk (List.mem_singleton.1 z)) (x10 _ _ nt mn)
   refine iQ (e013 _ _ nt mn') (lH hkn) ?_;refine⟨by decide,?_⟩;exact fin ls κ' C' h1 h2 h3 h4 T' k' x' ⟨names[k],fs,bs',ls⟩ rfl rfl rfl ho (by show bs'.length<=4; have:=congrArg List.length hb; rw[List.length_map] at this; omega) _ (T13.new hp13 _) e013
 have hd3:atI [PV.int 3,PV.int 1] (if decide ((((names.map PV.str).length:Nat):Int) > 3)=true then (1:Int) else 0)=some (.int 3)\/atI [PV.int 3,PV.int 1] (if decide ((((names.map PV.str).length:Nat):Int) > 3)=true then (1:Int) else 0)=some (.int 1):=by
  cases decide ((((names.map PV.str).length:Nat):Int) > 3) with
  |false=>exact .inl rfl
  |true=>exact .inr rfl
 rcases hd3 with hd | hd
 .refine iQ jQ hd ?_
  refine .inl ⟨t,kd,[],ns,κ,rfl,T10,k10,ok9,fun ls κ' C' h1 h2 h3 h4 T' k' x'=>?_⟩;exact rest ls κ' C' (fun x hx=>(h1 x hx).mono (by decide)) h2 h3 h4 T' k' x'
 .refine iQ jQ hd ?_
  refine .inr ⟨t,kd,[],ns,κ,rfl,T10,k10,ok9,fun ls κ' C' h1 h2 h3 h4 T' k' x'=>?_⟩;exact rest ls κ' C' (fun x hx=>(h1 x hx).mono (by decide)) h2 h3 h4 T' k' x'
end
def iD (pts:List Pt):List Str:=pts.map (·.name)
structure HsOk (pts:List Pt):Prop where
 n1:1<=pts.length
 n6:pts.length<=6
 nd:(iD pts).Nodup
 ok:∀k x,pts[k]?=some x->PtOk ((iD pts).drop (k+1)) (tU k) x
theorem xB {N j:Nat}{z:PV}{zs:List PV}(h:z::zs=((List.range N).drop j).map (fun k:Nat=>PV.int (k:Nat))):j < N/\z=.int (j:Nat)/\zs=((List.range N).drop (j+1)).map (fun k:Nat=>PV.int (k:Nat)):=by
 have hj:j < (List.range N).length:=by
  rcases Nat.lt_or_ge j (List.range N).length with h' | h'
  .exact h'
  .rw [List.drop_of_length_le h'] at h; cases h
 rw[List.drop_eq_getElem_cons hj,List.map_cons,List.getElem_range] at h;injection h with h1 h2
 exact⟨by rw[List.length_range] at hj; exact hj,h1,h2⟩
section
variable {P:Program}{w:World}{K:PySem.W.Frag}{mg:Str->Option Value}{base:Heap}{a:Adr}
def gHouse:GC:=fun ts C Q=>∃(t:Addr) (ns:List Int),ts=[.ref t]/\Tp C t ns/\∀(pts:List Pt) (C':CH),HsOk pts->Tp C' t ns->Ex t C C'->Q (.tup (pts.map Pt.pv)) C'
theorem gO (T:Txt P w K mg a):FnOk P w K mg base CX0 26 (a.f 17) (a.d 17) U12 (spC K gHouse):=by
 have S:=(T.F 17 rfl).s;have vQ:=(bX (base:=base) T).mono (show 1<=25 by decide);have dX:=(jV (base:=base) T).mono (show 2<=25 by decide);have oA:=ok_part (base:=base) T
 refine(T.F 17 rfl).ok (fun ts C R h=>?_) fun cdv A outer s H E hr=>⟨_,(xQ (cs1 1 S.nd (cf (T.F 4 rfl) dX hr (qQ (cv 0) (ca1 (cx (zX (qQ zQ (qQ zQ (qQ zQ (qQ zQ (qQ zQ (qQ zQ (qQ zQ (ca1 zQ))))))))) (cf (T.F 3 rfl) vQ hr (qQ (cv 0) (ca1 zQ))))))))
  (xQ (cs1 2 S.nd (gV nX vX (cf (T.F 3 rfl) vQ hr (qQ (cv 0) (ca1 zQ))) zQ (uK _)))
  (wQ (mQ (ctp T.aX (aW rfl (S.c (by decide +kernel)) (S.k rfl rfl rfl (by decide +kernel)) (hU rfl T.aZ (ca1 (cln T.zZ (cv 1)))) (fun _ _ _ _ _=>hZ) (fun _ _ _ _ _=>(cf (T.F 16 rfl) oA hr (qQ (cv 1) (qQ (cv 2) (qQ (cv 0) (ca1 (cv 3))))))))))))),?_⟩
 .obtain ⟨t,ns,rfl,_⟩:=h; rfl
 rintro ts C R ⟨t,ns,rfl,hT,q⟩;refine gQ ?_;refine⟨by show 8<=sizeLine; decide,fun p1 hp1=>?_⟩;refine⟨t,8,ns,rfl,hT.new hp1 _,by decide,by decide,fun v C1 v0 v1 T1 e1=>?_⟩;have e01:Ex t C C1:=(Ex.new hp1 _).trans e1;refine iQ (e1 p1 _ (hT.ne hp1) jQ) (tZ (f:=PV.int) (ss:=[1,2,2,3,3,4,2,6]) 0 v0 v1) ?_
 have hm:1<=([1,2,2,3,3,4,2,6]:List Int).getD v.toNat 0/\([1,2,2,3,3,4,2,6]:List Int).getD v.toNat 0<=6:=by
  have:v=0\/v=1\/v=2\/v=3\/v=4\/v=5\/v=6\/v=7:=by omega
  rcases this with rfl | rfl | rfl | rfl | rfl | rfl | rfl | rfl<;>decide
 generalize ([1,2,2,3,3,4,2,6]:List Int).getD v.toNat 0=m at hm ⊢;refine⟨t,m,ns,rfl,T1,by omega,by omega,fun nl names C2 m2 n2 nt hnl nd T2 e2=>?_⟩
 try dsimp only
 refine gQ ?_;refine⟨t,2,ns,rfl,T2,by decide,by decide,fun z C3 z0 z1 T3 e3=>?_⟩;refine wZ (wX _ _) ?_
 try dsimp only
 have e03:=(e01.trans e2).trans e3;have m3:=e3 _ _ nt m2;refine vV m3 ?_;rw[List.length_map];refine⟨by omega,by omega,?_⟩;rw[Int.toNat_natCast];refine zM (fun zs acc C'=>Tp C' t ns/\Ex t C3 C'/\∃pts:List Pt,acc=pts.map Pt.pv/\zs=((List.range names.length).drop pts.length).map (fun k:Nat=>PV.int (k:Nat))/\pts.length<=names.length/\iD pts=names.take pts.length/\∀k x,pts[k]?=some x->PtOk (names.drop (k+1)) (tU k) x) ?_ ?_ _ _ _ ⟨T3,Ex.refl,[],rfl,rfl,Nat.zero_le _,rfl,(fun k x h=>by simp at h)⟩
 .rintro x r acc C4 ⟨T4,e4,pts,rfl,hz,hpl,hpn,hpo⟩ L hL
  obtain⟨hj,rfl,rfl⟩:=xB hz;refine⟨t,nl,ns,names,pts.length,_,rfl,T4,e4 _ _ nt m3,nt,by omega,hj,fun x C5 hx ok5 T5 e5=>hL _ _ ⟨?_,T5,e4.trans e5,pts++[x],by rw[List.map_append]; rfl,by rw[List.length_append,List.length_singleton],by rw[List.length_append,List.length_singleton]; omega,?_,fun k y hy=>?_⟩⟩
  .rw [List.length_map]
   exact Nat.lt_of_lt_of_le (show pts.length < 7 by omega) (by decide)
  .rw [List.length_append,List.length_singleton,List.take_add_one,<- hpn,hx]
   unfold iD;rw[List.map_append]
   rfl
  .rcases Nat.lt_trichotomy k pts.length with h | h | h
   .rw [List.getElem?_append_left h] at hy
    exact hpo k y hy
   .subst h
    rw[List.getElem?_append_right (Nat.le_refl _),Nat.sub_self] at hy;cases hy;exact ok5
   .rw [List.getElem?_eq_none (by rw[List.length_append,List.length_singleton]; omega)] at hy
    cases hy
 .rintro acc C4 ⟨T4,e4,pts,rfl,hz,hpl,hpn,hpo⟩ p hp
  have he:pts.length=names.length:=by
   rcases Nat.lt_or_ge pts.length names.length with h | h
   .rw [List.drop_eq_getElem_cons (by rw[List.length_range]; exact h)] at hz
    cases hz
   .omega
  refine tK jQ ?_;have hn:iD pts=names:=by rw[hpn,he,List.take_of_length_le (Nat.le_refl _)]
  exact q pts _ ⟨by omega,by omega,by rw[hn]; exact nd,fun k x hk=>by rw[hn]; exact hpo k x hk⟩ (T4.new hp _) ((e03.trans e4).trans (Ex.new hp _))
end
section
variable {P:Program}{w:World}{K:PySem.W.Frag}{mg:Str->Option Value}{base:Heap}{a:Adr}
def nO:Ty->Option Str
 |.non=>some "none"
 |.bl=>some "truth"
 |.int=>some "number"
 |.str=>some "text"
 |.tup=>some "tuple"
 |.lst=>some "list"
 |_=>none
def gKind:GC:=fun ts C Q=>∃(x:PV) (n:Ty) (k:Str),ts=[x]/\tyP C x=some n/\nO n=some k/\∀C',Gr C C'->Q (.str k) C'
theorem xE {x:PV}(h:vH x=true):x=.non:=by
 cases x<;>first | rfl | cases h
theorem ok_kind (T:Txt P w K mg a):FnOk P w K mg base CX0 1 (a.f 18) (a.d 18) ["_law_thing"] (spC K gKind):=by
 have S:=(T.F 18 rfl).s
 refine(T.F 18 rfl).ok (fun ts C R h=>?_) fun cdv A outer s H E hr=>⟨_,(xQ (qX (ct2 xO oN (cv 0) uV) (wQ (mQ kQ)) rQ)
  (xQ (qX (pK (tX kZ iW rfl T.eX rfl (qQ (cv 0) (ca1 (kM (n:="bool") rfl T.z_bool rfl))))) (wQ (mQ kQ)) rQ)
  (xQ (cs1 1 S.nd (zX (qQ (tX kZ iW rfl T.eX rfl (qQ (cv 0) (ca1 (kM (n:="int") rfl T.iF rfl)))) (qQ (tX kZ iW rfl T.eX rfl (qQ (cv 0) (ca1 (kM (n:="str") rfl T.z_str rfl)))) (qQ (tX kZ iW rfl T.eX rfl (qQ (cv 0) (ca1 (kM (n:="tuple") rfl T.aX rfl)))) (ca1 (tX kZ iW rfl T.eX rfl (qQ (cv 0) (ca1 (kM (n:="list") rfl T.z_list rfl))))))))))
  (xQ (cs1 2 S.nd (zX (qQ kQ (qQ kQ (qQ kQ (ca1 kQ))))))
  (wQ (mQ (cx (sQ lX rX (aW rfl (S.c (by decide +kernel)) (S.k rfl rfl rfl (by decide +kernel)) (hU rfl T.aZ (ca1 zQ)) (fun _ _ _ _ _=>(cf_one (pK (cx (cv 2) (cv 0))))) (fun _ _ _ _ _=>(cx (cv 3) (cv 0)))) (zX (ca1 kQ))) zQ))))))),?_⟩
 .obtain ⟨x,n,k,rfl,_⟩:=h; rfl
 rintro ts C R ⟨x,n,k,rfl,hx,hk,q⟩;refine vE (fun hb=>?_) fun hb=>?_
 .have e:=xE hb
  subst e;cases hx;cases hk;exact q C Gr.refl
 refine xX ?_
 try dsimp only
 refine gL rfl hx (vE (fun hb2=>?_) fun hb2=>?_)
 .cases n with
  |bl=>cases hk; exact q C Gr.refl
  |_=>first | cases hb2 | cases hk
 refine xX ?_
 try dsimp only
 refine gQ ?_;refine gL (T:=.int) rfl hx ?_;refine gL (T:=.str) rfl hx ?_;refine gL (T:=.tup) rfl hx ?_;refine gL (T:=.lst) rfl hx ?_;refine⟨(show 4<=sizeLine by decide),fun p1 h1=>⟨by decide,fun p2 h2=>⟨by decide,by decide,?_⟩⟩⟩;have mk:uQ (uQ C p1 (.lst [.bl (qJ n .int),.bl (qJ n .str),.bl (qJ n .tup),.bl (qJ n .lst)])) p2 (.lst [.str "number",.str "text",.str "tuple",.str "list"]) p1=some (.lst [.bl (qJ n .int),.bl (qJ n .str),.bl (qJ n .tup),.bl (qJ n .lst)]):=(Gr.new h2 _) p1 _ jQ
 have mn:uQ (uQ C p1 (.lst [.bl (qJ n .int),.bl (qJ n .str),.bl (qJ n .tup),.bl (qJ n .lst)])) p2 (.lst [.str "number",.str "text",.str "tuple",.str "list"]) p2=some (.lst [.str "number",.str "text",.str "tuple",.str "list"]):=jQ;have g2:Gr C (uQ (uQ C p1 (.lst [.bl (qJ n .int),.bl (qJ n .str),.bl (qJ n .tup),.bl (qJ n .lst)])) p2 (.lst [.str "number",.str "text",.str "tuple",.str "list"])):=(Gr.new h1 _).trans (Gr.new h2 _)
 cases n with
 |non =>
  cases x with
  |non=>cases hb
  |ref a=>unfold tyP at hx; dsimp only at hx; split at hx<;>cases hx
  |_=>cases hx
 |int =>
  cases hk;refine tQ (x:=.int 0) (r:=[.int 1,.int 2,.int 3]) ?_;refine iQ mk rfl ?_;refine yU ?_ ?_
  .rfl
  refine iQ mn rfl ?_;refine⟨by decide,?_⟩;refine tQ (x:=.int 1) (r:=[.int 2,.int 3]) ?_;refine iQ mk rfl ?_;refine nJ ?_ ?_
  .rfl
  refine tQ (x:=.int 2) (r:=[.int 3]) ?_;refine iQ mk rfl ?_;refine nJ ?_ ?_
  .rfl
  refine tQ (x:=.int 3) (r:=[]) ?_;refine iQ mk rfl ?_;refine nJ ?_ ?_
  .rfl
  refine zK fun p3 h3=>?_;refine⟨by decide,fun p4 h4=>vP ((Gr.new h4 _) p3 _ jQ) jQ (by decide) fun p5 h5=>iQ jQ rfl ?_⟩;exact q _ ((((g2.trans (Gr.new h3 _)).trans (Gr.new h4 _)).trans (Gr.new h5 _)))
 |str =>
  cases hk;refine tQ (x:=.int 0) (r:=[.int 1,.int 2,.int 3]) ?_;refine iQ mk rfl ?_;refine nJ ?_ ?_
  .rfl
  refine tQ (x:=.int 1) (r:=[.int 2,.int 3]) ?_;refine iQ mk rfl ?_;refine yU ?_ ?_
  .rfl
  refine iQ mn rfl ?_;refine⟨by decide,?_⟩;refine tQ (x:=.int 2) (r:=[.int 3]) ?_;refine iQ mk rfl ?_;refine nJ ?_ ?_
  .rfl
  refine tQ (x:=.int 3) (r:=[]) ?_;refine iQ mk rfl ?_;refine nJ ?_ ?_
  .rfl
  refine zK fun p3 h3=>?_;refine⟨by decide,fun p4 h4=>vP ((Gr.new h4 _) p3 _ jQ) jQ (by decide) fun p5 h5=>iQ jQ rfl ?_⟩;exact q _ ((((g2.trans (Gr.new h3 _)).trans (Gr.new h4 _)).trans (Gr.new h5 _)))
 |tup =>
  cases hk;refine tQ (x:=.int 0) (r:=[.int 1,.int 2,.int 3]) ?_;refine iQ mk rfl ?_;refine nJ ?_ ?_
  .rfl
  refine tQ (x:=.int 1) (r:=[.int 2,.int 3]) ?_;refine iQ mk rfl ?_;refine nJ ?_ ?_
  .rfl
  refine tQ (x:=.int 2) (r:=[.int 3]) ?_;refine iQ mk rfl ?_;refine yU ?_ ?_
  .rfl
  refine iQ mn rfl ?_;refine⟨by decide,?_⟩;refine tQ (x:=.int 3) (r:=[]) ?_;refine iQ mk rfl ?_;refine nJ ?_ ?_
  .rfl
  refine zK fun p3 h3=>?_;refine⟨by decide,fun p4 h4=>vP ((Gr.new h4 _) p3 _ jQ) jQ (by decide) fun p5 h5=>iQ jQ rfl ?_⟩;exact q _ ((((g2.trans (Gr.new h3 _)).trans (Gr.new h4 _)).trans (Gr.new h5 _)))
 |lst =>
  cases hk;refine tQ (x:=.int 0) (r:=[.int 1,.int 2,.int 3]) ?_;refine iQ mk rfl ?_;refine nJ ?_ ?_
  .rfl
  refine tQ (x:=.int 1) (r:=[.int 2,.int 3]) ?_;refine iQ mk rfl ?_;refine nJ ?_ ?_
  .rfl
  refine tQ (x:=.int 2) (r:=[.int 3]) ?_;refine iQ mk rfl ?_;refine nJ ?_ ?_
  .rfl
  refine tQ (x:=.int 3) (r:=[]) ?_;refine iQ mk rfl ?_;refine yU ?_ ?_
  .rfl
  refine iQ mn rfl ?_;refine⟨by decide,?_⟩;refine zK fun p3 h3=>?_;refine⟨by decide,fun p4 h4=>vP ((Gr.new h4 _) p3 _ jQ) jQ (by decide) fun p5 h5=>iQ jQ rfl ?_⟩;exact q _ ((((g2.trans (Gr.new h3 _)).trans (Gr.new h4 _)).trans (Gr.new h5 _)))
 |bl=>cases hb2
 |_=>cases hk
end
section
variable {P:Program}{w:World}{K:PySem.W.Frag}{mg:Str->Option Value}{base:Heap}{a:Adr}
def Sq (C:CH)(x:PV)(xs:List PV)(k:Ty):Prop:=(k=.tup/\x=.tup xs)\/(k=.lst/\∃a,x=.ref a/\C a=some (.lst xs))
theorem Sq.gr {C C':CH}{x:PV}{xs:List PV}{k:Ty}(h:Sq C x xs k)(g:Gr C C'):Sq C' x xs k:=by
 rcases h with h | ⟨e,a,ea,h⟩
 .exact .inl h
 .exact .inr ⟨e,a,ea,g a _ h⟩
theorem Sq.ty {C:CH}{x:PV}{xs:List PV}{k:Ty}(h:Sq C x xs k):tyP C x=some k:=by
 rcases h with ⟨rfl,rfl⟩ | ⟨rfl,a,rfl,h⟩
 .rfl
 .show (match C a with | some (.lst _)=>some Ty.lst | some (.dK _)=>some Ty.dct | _=>none)=_
  rw[h]
theorem Sq.len {C:CH}{x:PV}{xs:List PV}{k:Ty}{Q:K1}(h:Sq C x xs k)(q:Q (.int xs.length) C):gB [x] C Q:=by
 rcases h with ⟨rfl,rfl⟩ | ⟨rfl,a,rfl,h⟩
 .exact kL q
 .exact vV h q
theorem Sq.ix {C:CH}{x v:PV}{xs:List PV}{k:Ty}{i:Int}{Q:K1}(h:Sq C x xs k)(e:atI xs i=some v)(q:Q v C):cIx x (.int i) C Q:=by
 rcases h with ⟨rfl,rfl⟩ | ⟨rfl,a,rfl,h⟩
 .exact yV e q
 .exact iQ h e q
def sc:PV->Option Ty
 |.non=>some .non
 |.bl _=>some .bl
 |.int _=>some .int
 |.str _=>some .str
 |_=>none
def Al:Nat->CH->PV->PV->Prop
 |0,_,_,_=>False
 |d+1,C,x,y=>(x=y/\(sc x).isSome=true)\/∃xs k,Sq C x xs k/\Sq C y xs k/\xs.length<=200000/\∀z∈xs,∀C',Al d C' z z
def gAl (d:Nat):GC:=fun ts C Q=>∃x y,ts=[x,y]/\Al d C x y/\∀C',Gr C C'->Q (.bl true) C'
theorem bls_rep (n:Nat):xG (List.replicate n (.bl true))=some (List.replicate n true):=by
 induction n with
 |zero=>rfl
 |succ n ih=>rw[List.replicate_succ,List.replicate_succ]; show(xG _).map _=_; rw[ih]; rfl
theorem zG {c:TCE}{ρ:CSt}{Q:K1}{C0:CH}{m:Nat}(h:∀(k:Nat) C (Q':K1),k < m->Gr C0 C->(∀C',Gr C C'->Q' (.bl true) C')->c (some (.int (k:Int))::ρ) C Q')
  (q:∀p n C',Gr C0 C'->C' p=some (.lst (List.replicate n (.bl true)))->Q (.ref p) C') (L:List Nat):∀(n:Nat) (C:CH),(∀k∈L,k < m)->n+L.length<=200000->Gr C0 C->cX cY c ρ Q (L.map fun k=>PV.int (k:Nat)) (List.replicate n (.bl true)) C:=by
 induction L with
 |nil=>intro n C _ _ g; exact zK fun p hp=>q p n _ (g.trans (Gr.new hp _)) jQ
 |cons k L ih =>
  intro n C hm hl g;have hl':n+(L.length+1)<=200000:=hl;refine tQ ?_;show c (some (.int (k:Int))::ρ) C fun y C2=>(List.replicate n (PV.bl true)).length < sizeLine/\cX cY c ρ Q (L.map fun k=>PV.int (k:Nat)) (List.replicate n (.bl true)++[y]) C2;refine h k C _ (hm k List.mem_cons_self) g fun C' g'=>⟨?_,?_⟩
  .rw [List.length_replicate]
   exact Nat.lt_of_lt_of_le (show n < 200000 by omega) (by decide)
  .have e:List.replicate n (PV.bl true)++[.bl true]=List.replicate (n+1) (.bl true):=by rw[List.replicate_succ']
   rw[e];exact ih (n+1) C' (fun j hj=>hm j (List.mem_cons_of_mem _ hj)) (by omega) (g.trans g')
theorem kC {p:Addr}{n:Nat}{C:CH}{Q:K1}(h:C p=some (.lst (List.replicate n (.bl true))))(q:Q (.bl true) C):cAll [.ref p] C Q:=by
 unfold cAll;show(match C p with | some (.lst xs)=>(match xG xs with | some bs=>Q (.bl (bs.all id)) C | none=>False) | _=>False);rw[h];dsimp only;rw[bls_rep];dsimp only
 have e:(List.replicate n true).all id=true:=by
  rw[List.all_eq_true];intro b hb;exact(List.eq_of_mem_replicate hb)
 rw[e];exact q
theorem sc_ty {C:CH}{x:PV}(h:(sc x).isSome=true):∃n k,tyP C x=some n/\nO n=some k/\k ≠ "tuple"/\k ≠ "list"/\sEq x x=some true:=by
 cases x with
 |non=>exact⟨_,_,rfl,rfl,by decide,by decide,rfl⟩
 |bl i=>exact⟨_,_,rfl,rfl,by decide,by decide,by show some (decide (i=i))=_; rw[decide_eq_true rfl]⟩
 |int i=>exact⟨_,_,rfl,rfl,by decide,by decide,by show some (decide (i=i))=_; rw[decide_eq_true rfl]⟩
 |str i=>exact⟨_,_,rfl,rfl,by decide,by decide,by show some (decide (i=i))=_; rw[decide_eq_true rfl]⟩
 |_=>cases h
theorem tS {C C':CH}{x:PV}{n:Ty}(h:tyP C x=some n)(g:Gr C C'):tyP C' x=some n:=by
 cases x with
 |ref a =>
  unfold tyP at h ⊢;dsimp only at h ⊢
  split at h
  .next e=>rw[g a _ e]; exact h
  .next e=>rw[g a _ e]; exact h
  .cases h
 |_=>exact h
theorem eD (T:Txt P w K mg a)(d:Nat):FnOk P w K mg base CX0 (d+2) (a.f 19) (a.d 19) ["_law_one","_law_other"] (spC K (gAl d)):=by
 induction d with
 |zero=>exact⟨fun vs H Q E ⟨ts,C,R,_,_,⟨x,y,_,h,_⟩,_⟩=>h.elim,fun _ _ _ _ _ _ _ _ _ _ _ _ _ ⟨ts,C,R,_,_,⟨x,y,_,h,_⟩,_⟩=>h.elim⟩
 |succ d ih =>
 have S:=(T.F 19 rfl).s;have wP:=(ok_kind (base:=base) T).mono (show 1<=d+2 by omega);have vJ:=ih
 refine(T.F 19 rfl).ok (fun ts C R h=>?_) fun cdv A outer s H E hr=>⟨_,(xQ (cs1 2 S.nd (cf (T.F 18 rfl) wP hr (ca1 (cv 0))))
  (xQ (qX (ct2 op_ne iE (cv 2) (cf (T.F 18 rfl) wP hr (ca1 (cv 1)))) (wQ (mQ vM)) rQ)
  (xQ (qX (cw_pt (cw_or (ct2 nX vX (cv 2) kQ) (cw_or1 (ct2 nX vX (cv 2) kQ)))) (wQ (mQ (ce_and (gV nX vX (cln T.zZ (cv 0)) (cln T.zZ (cv 1)) (uK _)) (ce_one (tX (bA rfl) cbi_all rfl T.z_all rfl (ca1 (aW rfl (S.c (by decide +kernel)) (S.k rfl rfl rfl (by decide +kernel)) (hU rfl T.aZ (ca1 (cln T.zZ (cv 0)))) (fun _ _ _ _ _=>hZ) (fun _ _ _ _ _=>(cf (T.F 19 rfl) vJ hr (qQ (cx (cv 1) (cv 0)) (ca1 (cx (cv 2) (cv 0))))))))))))) rQ)
  (wQ (mQ (gV nX vX (cv 0) (cv 1) (uK _))))))),?_⟩
 .obtain ⟨x,y,rfl,_⟩:=h; rfl
 rintro ts C R ⟨x,y,rfl,(⟨rfl,hs⟩ | ⟨xs,k,hx,hy,hl,hz⟩),q⟩
 .obtain ⟨n,k,h1,h2,n1,n2,e⟩:=sc_ty (C:=C) hs
  refine⟨x,n,k,rfl,h1,h2,fun C1 g1=>?_⟩;refine⟨x,n,k,rfl,tS h1 g1,h2,fun C2 g2=>?_⟩;refine wZ (nZ _ _) ?_;refine nJ (by rw[decide_eq_true rfl]; rfl) ?_;refine xX ?_
  try dsimp only
  refine wZ (nZ _ _) ?_;refine nJ (by rw[decide_eq_false n1]; rfl) ?_;refine wZ (nZ _ _) ?_;refine nJ (by rw[decide_eq_false n2]; rfl) ?_;refine xX ?_
  try dsimp only
  refine wZ e ?_;exact q _ (g1.trans g2)
 .have hk:∃k',nO k=some k'/\(k' = "tuple"\/k' = "list"):=by
   rcases hx with ⟨rfl,_⟩ | ⟨rfl,_⟩
   .exact ⟨_,rfl,.inl rfl⟩
   .exact ⟨_,rfl,.inr rfl⟩
  obtain⟨k',h2,ho⟩:=hk;refine⟨x,k,k',rfl,hx.ty,h2,fun C1 g1=>?_⟩;refine⟨y,k,k',rfl,tS hy.ty g1,h2,fun C2 g2=>?_⟩;refine wZ (nZ _ _) ?_;refine nJ (by rw[decide_eq_true rfl]; rfl) ?_;refine xX ?_
  try dsimp only
  have hx2:=(hx.gr g1).gr g2;have hy2:=(hy.gr g1).gr g2
  rcases ho with rfl | rfl
  .refine wZ (nZ _ _) ?_
   refine yU (by decide) ?_;refine if_y ?_ ?_
   .rfl
   refine hx2.len ?_;refine hy2.len ?_;refine wZ (b:=true) (by show some (decide _)=_; rw[decide_eq_true rfl]) ?_;refine yU rfl ?_;refine hx2.len ?_;refine⟨by omega,by omega,?_⟩;refine zG (m:=xs.length) (C0:=C2) (fun k C3 Q' hk g3 hq=>?_) (fun p n C' g' m=>kC m (q _ ((g1.trans g2).trans g'))) _ 0 C2 (fun k hk=>?_) ?_ Gr.refl
   .refine (hx2.gr g3).ix (yW hk) ?_
    refine(hy2.gr g3).ix (yW hk) ?_;exact⟨xs[k],xs[k],rfl,hz _ (List.getElem_mem hk) _,hq⟩
   .have:=List.mem_range.1 hk
    omega
   .rw [List.length_range]
    omega
  .refine wZ (nZ _ _) ?_
   refine nJ (by decide) ?_;refine wZ (nZ _ _) ?_;refine yU (by decide) ?_;refine hx2.len ?_;refine hy2.len ?_;refine wZ (b:=true) (by show some (decide _)=_; rw[decide_eq_true rfl]) ?_;refine yU rfl ?_;refine hx2.len ?_;refine⟨by omega,by omega,?_⟩;refine zG (m:=xs.length) (C0:=C2) (fun k C3 Q' hk g3 hq=>?_) (fun p n C' g' m=>kC m (q _ ((g1.trans g2).trans g'))) _ 0 C2 (fun k hk=>?_) ?_ Gr.refl
   .refine (hx2.gr g3).ix (yW hk) ?_
    refine(hy2.gr g3).ix (yW hk) ?_;exact⟨xs[k],xs[k],rfl,hz _ (List.getElem_mem hk) _,hq⟩
   .have:=List.mem_range.1 hk
    omega
   .rw [List.length_range]
    omega
end
theorem rV {i:Nat}{u:oF}{t:PV}{r:List PV}{ρ:CSt}{C:CH}{Q:CSt->CH->Prop}(h:u r (ρ.set i (some t)) C Q):dCons (tE i) u (t::r) ρ C Q:=h
theorem uH {ρ:CSt}{C:CH}{Q:CSt->CH->Prop}(h:Q ρ C):dNil [] ρ C Q:=h
abbrev An:=List (List Str×Int)
def dOf (cs:An):List (List Key×PV):=cs.map fun c=>(c.1.map Sum.inr,.int c.2)
def vZ (L:List (Str×List (Str×Int))):An:=L.flatMap fun e=>e.2.map fun c=>([e.1,c.1],c.2)
def aL (g d b:List (Str×Int)):List (Str×List (Str×Int)):=[("take",g),("down",d),("box",b)]
def srPV (e:Str×List (Str×Int)):PV:=.tup [.str e.1,.tup (e.2.map oQ)]
theorem put_new {ds:An}{k:List Str}{n:Int}(h:k∉ds.map (·.1)):putG (dOf ds) (k.map Sum.inr) (.int n)=dOf (ds++[(k,n)]):=by
 have e:((dOf ds).any fun kv=>decide (kv.1=k.map Sum.inr))=false:=by
  rw[List.any_eq_false];intro x hx;obtain⟨c,hc,rfl⟩:=List.mem_map.1 hx;show ¬ decide (c.1.map (Sum.inr:Str->Key)=k.map Sum.inr)=true;rw[decide_eq_false fun z=>h (by rw[<- gG.1 z]; exact List.mem_map.2 ⟨c,hc,rfl⟩)]
  decide
 unfold putG;rw[e,if_neg (by decide)];unfold dOf;rw[List.map_append]
 rfl
theorem flat_nd {g d b:List (Str×Int)}(h1:(g.map (·.1)).Nodup)(h2:(d.map (·.1)).Nodup)(h3:(b.map (·.1)).Nodup):((vZ (aL g d b)).map (·.1)).Nodup:=by
 have one:∀(s:Str) (l:List (Str×Int)),(l.map (·.1)).Nodup->((l.map fun c=>(([s,c.1]:List Str),c.2)).map (·.1)).Nodup:=by
  intro s l h;rw[List.map_map];have:((fun x:List Str×Int=>x.1) ∘ fun c:Str×Int=>(([s,c.1]:List Str),c.2))=(fun n:Str=>[s,n]) ∘ fun c:Str×Int=>c.1:=rfl;rw[this,<- List.map_map];exact List.Pairwise.map _ (fun x y n z=>n (by injection z with _ z; injection z)) h
 have hd:∀(s:Str) (l:List (Str×Int)) (x:List Str),x∈(l.map fun c=>(([s,c.1]:List Str),c.2)).map (·.1)->x.head?=some s:=by
  intro s l x hx;obtain⟨y,hy,rfl⟩:=List.mem_map.1 hx;obtain⟨c,_,rfl⟩:=List.mem_map.1 hy
  rfl
 have e:vZ (aL g d b)=(g.map fun c=>((["take",c.1]:List Str),c.2))++((d.map fun c=>((["down",c.1]:List Str),c.2))++(b.map fun c=>((["box",c.1]:List Str),c.2))):=by
  show _++(_++(_++[]))=_;rw[List.append_nil]
 rw[e,List.map_append,List.map_append];refine List.nodup_append.2 ⟨one _ _ h1,List.nodup_append.2 ⟨one _ _ h2,one _ _ h3,fun x hx y hy z=>?_⟩,fun x hx y hy z=>?_⟩
 .subst z
  have:=(hd _ _ _ hx).symm.trans (hd _ _ _ hy);exact absurd this (by decide)
 .subst z
  rcases List.mem_append.1 hy with hy | hy
  .have:=(hd _ _ _ hx).symm.trans (hd _ _ _ hy)
   exact absurd this (by decide)
  .have:=(hd _ _ _ hx).symm.trans (hd _ _ _ hy)
   exact absurd this (by decide)
theorem pL (g d b:List (Str×Int)):(vZ (aL g d b)).length=g.length+d.length+b.length:=by
 show(_++(_++(_++[]))).length=_;rw[List.length_append,List.length_append,List.length_append,List.length_map,List.length_map,List.length_map,List.length_nil];show g.length+(d.length+(b.length+0))=_;omega
theorem pE {L:List (Str×List (Str×Int))}:∀k∈(vZ L).map (·.1),∃x y,k=[x,y]:=by
 intro k hk;obtain⟨c,hc,rfl⟩:=List.mem_map.1 hk;obtain⟨e,_,hc⟩:=List.mem_flatMap.1 hc;obtain⟨x,_,rfl⟩:=List.mem_map.1 hc;exact⟨_,_,rfl⟩
section
variable {P:Program}{w:World}{K:PySem.W.Frag}{mg:Str->Option Value}{base:Heap}{a:Adr}
def gAt:GC:=fun ts C Q=>∃(g d b:List (Str×Int)),ts=[.tup (g.map oQ),.tup (d.map oQ),.tup (b.map oQ)]/\g.length+d.length+b.length<=60/\((vZ (aL g d b)).map (·.1)).Nodup /\
 ∀aa C',C aa=none->C' aa=some (.dT (dOf (vZ (aL g d b))))->Gr C C'->Q (.ref aa) C'
theorem wB (T:Txt P w K mg a):FnOk P w K mg base CX0 1 (a.f 0) (a.d 0) ["gives","downs","boxes"] (spC K gAt):=by
 have S:=(T.F 0 rfl).s
 refine(T.F 0 rfl).ok (fun ts C R h=>?_) fun cdv A outer s H E hr=>⟨_,(xQ (cs1 3 S.nd ce_tnew)
  (xQ (yF PassesOwn.never rfl (bQ (qQ (bQ (qQ kQ (ca1 (cv 0)))) (qQ (bQ (qQ kQ (ca1 (cv 1)))) (ca1 (bQ (qQ kQ (ca1 (cv 2)))))))) (fH rfl (jK (cg1 4 S.nd) (jK (cg1 5 S.nd) fF))) (wQ (yF PassesOwn.never rfl (cv 5) (fH rfl (jK (cg1 6 S.nd) (jK (cg1 7 S.nd) fF))) (wQ (wF (kX hr) (cv 3) (bQ (qQ (cv 4) (ca1 (cv 6)))) (cv 7))))))
  (wQ (mQ (cv 3))))),?_⟩
 .obtain ⟨g,d,b,rfl,_⟩:=h; rfl
 rintro ts C R ⟨g,d,b,rfl,hl,nd,q⟩;refine gQ ?_;intro aa haa
 try dsimp only
 refine pQ (fun ρ' C'=>∃(x4 x5 x6 x7:Option PV),ρ'=[some (.tup (g.map oQ)),some (.tup (d.map oQ)),some (.tup (b.map oQ)),some (.ref aa),x4,x5,x6,x7]/\C' aa=some (.dT (dOf (vZ (aL g d b))))/\Gr C C') (fun L hL=>?_) ?_
 .refine forT_g ?_
  refine⟨by show 2<=sizeLine; decide,?_⟩;refine⟨by show 2<=sizeLine; decide,?_⟩;refine⟨by show 2<=sizeLine; decide,?_⟩;refine⟨by show 3<=sizeLine; decide,?_⟩;refine wJ (fun zs ρ C'=>∃(us vs:List (Str×List (Str×Int))) (x4 x5 x6 x7:Option PV),aL g d b=us++vs/\zs=vs.map srPV/\ρ=[some (.tup (g.map oQ)),some (.tup (d.map oQ)),some (.tup (b.map oQ)),some (.ref aa),x4,x5,x6,x7]/\C' aa=some (.dT (dOf (vZ us)))/\Gr C C') ?_ ?_ _ _ _ ⟨[],aL g d b,_,_,_,_,rfl,rfl,rfl,jQ,Gr.new haa _⟩
  .rintro z zs ρ C3 ⟨us,vs,x4,x5,x6,x7,e,hz,rfl,ma,g3⟩ L1 hL1
   cases vs with
   |nil=>cases hz
   |cons v vs =>
   obtain⟨rfl,rfl⟩:=List.cons.inj hz;refine⟨rfl,?_⟩;refine rV (rV (uH ?_))
   try dsimp only
   refine fE rfl ?_;have ef:vZ (aL g d b)=vZ us++((v.2.map fun c=>(([v.1,c.1]:List Str),c.2))++vZ vs):=by rw[e]; unfold vZ; rw[List.flatMap_append]; rfl
   have len:=pL g d b;refine wJ (fun zs ρ C'=>∃(ps qs:List (Str×Int)) (x6 x7:Option PV),v.2=ps++qs/\zs=qs.map oQ/\ρ=[some (.tup (g.map oQ)),some (.tup (d.map oQ)),some (.tup (b.map oQ)),some (.ref aa),some (.str v.1),some (.tup (v.2.map oQ)),x6,x7]/\C' aa=some (.dT (dOf (vZ us++ps.map fun c=>([v.1,c.1],c.2))))/\Gr C C') ?_ ?_ _ _ _ ⟨[],v.2,_,_,rfl,rfl,rfl,by rw[List.map_nil,List.append_nil]; exact ma,g3⟩
   .rintro z zs ρ C4 ⟨ps,qs,y6,y7,ep,hz,rfl,m4,g4⟩ L2 hL2
    cases qs with
    |nil=>cases hz
    |cons c qs =>
    obtain⟨rfl,rfl⟩:=List.cons.inj hz;refine⟨rfl,?_⟩;refine rV (rV (uH ?_))
    try dsimp only
    refine⟨by show 2<=sizeLine; decide,?_⟩
    have ef2:vZ (aL g d b)=(vZ us++ps.map fun c=>(([v.1,c.1]:List Str),c.2))++((([v.1,c.1]:List Str),c.2)::((qs.map fun c=>(([v.1,c.1]:List Str),c.2))++vZ vs)):=by
     rw[ef,ep,List.map_append,List.map_cons]
     simp only[List.append_assoc,List.cons_append]
    have nk:[v.1,c.1]∉(vZ us++ps.map fun c=>(([v.1,c.1]:List Str),c.2)).map (·.1):=by
     intro z;rw[ef2,List.map_append,List.map_cons] at nd;exact(List.nodup_append.1 nd).2.2 _ z _ List.mem_cons_self rfl
    have hlen:(vZ us++ps.map fun c=>(([v.1,c.1]:List Str),c.2)).length<=60:=by
     rw[ef2,List.length_append,List.length_cons] at len;omega
    refine mP (k:=[v.1,c.1].map Sum.inr) m4 rfl (by unfold dOf; rw[List.length_map]; omega) ?_;refine hL2 _ _ ⟨ps++[c],qs,_,_,by rw[List.append_assoc]; exact ep,rfl,rfl,?_,gr_put g4 haa _⟩;rw[jQ,put_new nk,List.map_append,List.append_assoc]
    rfl
   .rintro ρ C4 ⟨ps,qs,y6,y7,ep,hz,rfl,m4,g4⟩
    cases qs with
    |cons c qs=>cases hz
    |nil =>
    rw[List.append_nil] at ep;subst ep;refine hL1 _ _ ⟨us++[v],vs,_,_,_,_,by rw[List.append_assoc]; exact e,rfl,rfl,?_,g4⟩;rw[m4];unfold vZ;rw[List.flatMap_append];show _=some (CO.dT (dOf (_++(_++[]))));rw[List.append_nil]
  .rintro ρ C3 ⟨us,vs,x4,x5,x6,x7,e,hz,rfl,ma,g3⟩
   cases vs with
   |cons v vs=>cases hz
   |nil =>
   rw[List.append_nil] at e;subst e;exact hL _ _ ⟨_,_,_,_,rfl,ma,g3⟩
 rintro ρ' C3 ⟨x4,x5,x6,x7,rfl,ma,g3⟩
 try dsimp only
 exact q aa C3 haa ma g3
end
abbrev Vl:=List (jX×(Str×List (Str×Int)))
def vPV (v:Str×List (Str×Int)):PV:=.tup [.str v.1,.tup (v.2.map oQ)]
def vlP (V:Vl):List (jX×PV):=V.map fun e=>(e.1,vPV e.2)
def sB (V:Vl)(p:jX):Option (Str×List (Str×Int)):=(V.find? fun e=>decide (e.1=p)).map (·.2)
theorem fB {κ:Type}[DecidableEq κ](x:κ×PV)(l:List (κ×PV))(k:κ):rJ (x::l) k=if x.1=k then some x.2 else rJ l k:=by
 unfold rJ;rw[List.find?_cons]
 by_cases h:x.1=k
 .rw [if_pos h,decide_eq_true h]; rfl
 .rw [if_neg h,decide_eq_false h]
theorem mM (V:Vl)(p:jX):rJ (vlP V) p=(sB V p).map vPV:=by
 induction V with
 |nil=>rfl
 |cons e V ih =>
  show rJ ((e.1,vPV e.2)::vlP V) p=_;rw[fB];unfold sB;rw[List.find?_cons]
  by_cases h:e.1=p
  .rw [if_pos h,decide_eq_true h]; rfl
  .rw [if_neg h,decide_eq_false h,ih]; rfl
def tV (V:Vl)(y:Pt)(p:jX):List (Str×Int):=match sB V p with
 |some v=>if v.1=y.name then v.2 else y.first
 |none=>y.first
def cZ (p:jX):PV:=.tup (p.map wC)
theorem aK:∀p:jX,vB (cZ p)=some p:=by
 intro p;show lB (p.map wC)=some p
 induction p with
 |nil=>rfl
 |cons k p ih =>
  have hk:cW (wC k)=some k:=by
   show bK (k.map oB)=some k
   induction k with
   |nil=>rfl
   |cons a k ihk =>
    show(match fJ (oB a),bK (k.map oB) with | some k,some ks=>some (k::ks) | _,_=>none)=_;rw[CL.keyOf_keyPV,ihk]
  show(match cW (wC k),lB (p.map wC) with | some k,some ks=>some (k::ks) | _,_=>none)=_;rw[hk,ih]
theorem pin_s {p:Addr}{y:PV}{k:jX}{kvs:List (jX×PV)}{C:CH}{Q:K1}(m:C p=some (.dP kvs))(hk:vB y=some k)(q:Q (.bl (rJ kvs k).isSome) C):cPIn y (.ref p) C Q:=by
 unfold cPIn;dsimp only;rw[m,hk];exact q
theorem pix_s {p:Addr}{y v:PV}{k:jX}{kvs:List (jX×PV)}{C:CH}{Q:K1}(m:C p=some (.dP kvs))(hk:vB y=some k)(hv:rJ kvs k=some v)(q:Q v C):cPIx (.ref p) y C Q:=by
 unfold cPIx;dsimp only;rw[m,hk];show(match rJ kvs k with | some v=>Q v C | none=>False);rw[hv];exact q
theorem pput_s {p:Addr}{y v:PV}{k:jX}{kvs:List (jX×PV)}{C:CH}{Q:CH->Prop}(m:C p=some (.dP kvs))(hk:vB y=some k)(h:kvs.length<=100000)(q:Q (uQ C p (.dP (putG kvs k v)))):iN (.ref p) y v C Q:=by
 unfold iN;dsimp only;rw[m,hk];exact⟨Nat.lt_of_le_of_lt h (by decide),q⟩
section
variable {P:Program}{w:World}{K:PySem.W.Frag}{mg:Str->Option Value}{base:Heap}{a:Adr}
def gBx:GC:=fun ts C Q=>∃(y:Pt) (vv:Addr) (V:Vl) (p:jX),ts=[y.pv,.ref vv,cZ p]/\C vv=some (.dP (vlP V))/\Q (.tup ((tV V y p).map oQ)) C
theorem oD (T:Txt P w K mg a):FnOk P w K mg base CX0 1 (a.f 1) (a.d 1) ["part","values","path"] (spC K gBx):=by
 have S:=(T.F 1 rfl).s
 refine(T.F 1 rfl).ok (fun ts C R h=>?_) fun cdv A outer s H E hr=>⟨_,(xQ (cs1 3 S.nd (ce_bmQ PySem.F.plainAttrs_dict PySem.F.slot_dict_get PySem.F.type_dict_get (mt_getQ (fY hr)) xA (cv 1) (ca1 (cv 2))))
  (xQ (qX (cw_pt (cw_or (ct2 xO oN (cv 3) uV) (cw_or1 (ct2 op_ne iE (cx (cv 3) zQ) (cx (cv 0) zQ))))) (wQ (mQ (cx (cv 0) zQ))) rQ)
  (wQ (mQ (cx (cv 3) zQ))))),?_⟩
 .obtain ⟨y,vv,V,p,rfl,_⟩:=h; rfl
 rintro ts C R ⟨y,vv,V,p,rfl,mv,q⟩;refine gQ ?_;refine⟨⟨vv,_,rfl,mv⟩,?_⟩;refine getQ_s mv (aK p) ?_;rw[mM];unfold tV at q
 cases e:sB V p with
 |none =>
  rw[e] at q;refine bJ ?_;unfold cIfS cOr;refine xD (i:=3) (x:=.non) ?_ ?_
  .rfl
  refine if_y rfl ?_;refine yV (xs:=[.str y.name,.tup (y.first.map oQ),.tup (y.works.map wK),.tup (Ln.pvs y.ls)]) (v:=.tup (y.first.map oQ)) rfl ?_;exact q
 |some v =>
  rw[e] at q;dsimp only at q;refine bJ ?_;unfold cIfS cOr;refine xD (i:=3) (x:=vPV v) ?_ ?_
  .rfl
  refine nW rfl ?_;refine yV (xs:=[.str v.1,.tup (v.2.map oQ)]) sK ?_;refine yV (xs:=[.str y.name,.tup (y.first.map oQ),.tup (y.works.map wK),.tup (Ln.pvs y.ls)]) sK ?_;refine wZ (nZ _ _) ?_
  by_cases h:v.1=y.name
  .rw [if_pos h] at q
   refine nJ (by rw[decide_eq_true h]; rfl) ?_;refine xX ?_
   try dsimp only
   refine yV (xs:=[.str v.1,.tup (v.2.map oQ)]) (v:=.tup (v.2.map oQ)) rfl ?_;exact q
  .rw [if_neg h] at q
   refine yU (by rw[decide_eq_false h]; rfl) ?_;refine yV (xs:=[.str y.name,.tup (y.first.map oQ),.tup (y.works.map wK),.tup (Ln.pvs y.ls)]) (v:=.tup (y.first.map oQ)) rfl ?_;exact q
end
abbrev Two (cs:An):Prop:=∀k∈cs.map (·.1),∃x y,k=[x,y]
theorem tiLt_kk {cs:An}(nd:(cs.map (·.1)).Nodup)(h2:Two cs):fP cs=cR (cs.map (·.1)):=by
 funext i j
 unfold fP cR ltP
 have g:∀i,((cs.map (·.1)).getD i [])=(cs.getD i ([],0)).1:=fun i=>by
  rw[List.getD_eq_getElem?_getD,List.getElem?_map,List.getD_eq_getElem?_getD];cases cs[i]?<;>rfl
 rw[g i,g j]
 by_cases h:(cs.getD i ([],0)).1=(cs.getD j ([],0)).1
 .rw [if_pos h,h]
  have irr:∀l:List Str,HT.lexS l l=false:=by
   intro l
   induction l with
   |nil=>rfl
   |cons x l ih=>rw[HT.lexS_cons,if_pos rfl,ih]
  rw[irr];refine decide_eq_false ?_
  have e:cs.getD i ([],0)=cs.getD j ([],0):=by
   rw[List.getD_eq_getElem?_getD,List.getD_eq_getElem?_getD] at h ⊢
   cases hi:cs[i]? with
   |none =>
    cases hj:cs[j]? with
    |none=>rfl
    |some y =>
     rw[hi,hj] at h;obtain⟨a,b,e⟩:=h2 y.1 (List.mem_map.2 ⟨y,List.mem_of_getElem? hj,rfl⟩);have h:[]=y.1:=h;rw[e] at h;cases h
   |some x =>
    cases hj:cs[j]? with
    |none =>
     rw[hi,hj] at h;obtain⟨a,b,e⟩:=h2 x.1 (List.mem_map.2 ⟨x,List.mem_of_getElem? hi,rfl⟩);have h:x.1=[]:=h;rw[e] at h;cases h
    |some y =>
     rw[hi,hj] at h;have li:=(List.getElem?_eq_some_iff.1 hi).1;have lj:=(List.getElem?_eq_some_iff.1 hj).1
     have:i=j:=(List.getElem_inj (h₀:=by rw[List.length_map]; exact li) (h₁:=by rw[List.length_map]; exact lj) nd).1 (by
      rw[List.getElem_map,List.getElem_map,(List.getElem?_eq_some_iff.1 hi).2,(List.getElem?_eq_some_iff.1 hj).2]
      exact h)
     subst this;rw[hi] at hj;rw[Option.some.inj hj]
  rw[e];exact Int.lt_irrefl _
 .rw [if_neg h]
theorem ordK_eq {cs:An}(nd:(cs.map (·.1)).Nodup)(h2:Two cs):ordK (cs.map (·.1))=(qV cs).map (·.1):=by
 unfold ordK qV;rw[<- tiLt_kk nd h2,List.length_map,List.map_map];refine List.map_congr_left fun i _=>?_;show(cs.map (·.1)).getD i []=(cs.getD i ([],0)).1;rw[List.getD_eq_getElem?_getD,List.getElem?_map,List.getD_eq_getElem?_getD];cases cs[i]?<;>rfl
theorem dD {cs:An}{c:List Str×Int}(h:c∈qV cs):c∈cs:=by
 unfold qV at h;obtain⟨i,hi,rfl⟩:=List.mem_map.1 h
 by_cases h0:0 < cs.length
 .have hi:=List.mem_range.1 ((wV (fP cs) cs.length h0).mem_iff.1 hi)
  rw[List.getD_eq_getElem?_getD,List.getElem?_eq_getElem hi];exact List.getElem_mem hi
 .have e:cs.length=0:=by omega
  rw[e,run0] at hi;cases hi
theorem cD (cs:An):(qV cs).length=cs.length:=by
 unfold qV;rw[List.length_map]
 by_cases h0:0 < cs.length
 .have:=(wV (fP cs) cs.length h0).length_eq
  rw[List.length_range] at this;exact this
 .have e:cs.length=0:=by omega
  rw[e,run0]
  rfl
theorem sO:∀{cs:An},Two cs->vL (dOf cs)=some (cs.map (·.1))
 |[],_=>rfl
 |c::cs,h=>by
  obtain⟨x,y,e⟩:=h c.1 List.mem_cons_self;have ih:=sO (cs:=cs) fun k m=>h k (List.mem_cons_of_mem _ m);obtain⟨k,n⟩:=c;have e:k=[x,y]:=e;subst e;show(vL (dOf cs)).map _=_;rw[ih]
  rfl
theorem tH:∀{cs:An},(cs.map (·.1)).Nodup->∀{c:List Str×Int},c∈cs->rJ (dOf cs) (c.1.map Sum.inr)=some (.int c.2)
 |[],_,_,m=>nomatch m
 |x::cs,nd,c,m=>by
  show rJ ((x.1.map Sum.inr,PV.int x.2)::dOf cs) _=_;rw[List.map_cons,List.nodup_cons] at nd;rw[fB]
  rcases List.mem_cons.1 m with rfl | m
  .rw [if_pos rfl]
  .rw [if_neg fun z=>nd.1 (by rw[gG.1 z]; exact List.mem_map.2 ⟨c,m,rfl⟩)]
   exact tH nd.2 m
theorem tk_kk (k:List Str):cW (gU k)=some (k.map Sum.inr):=by
 show bK (k.map PV.str)=_
 induction k with
 |nil=>rfl
 |cons x k ih =>
  show(match fJ (.str x),bK (k.map PV.str) with | some k,some ks=>some (k::ks) | _,_=>none)=_;rw[ih]
  rfl
section
variable {P:Program}{w:World}{K:PySem.W.Frag}{mg:Str->Option Value}{base:Heap}{a:Adr}
def gNmd:GC:=fun ts C Q=>∃(t nl:Addr) (ss:List Str) (ns:List Int),ts=[.ref t,.ref nl]/\Tp C t ns/\C nl=some (.lst (ss.map PV.str))/\nl≠t/\ss.length<=20 /\
 ∀(cs:List (Str×Int)) C',cs.map (·.1)=ss->Tp C' t ns->Ex t C C'->Q (.tup (cs.map oQ)) C'
theorem qG (T:Txt P w K mg a):FnOk P w K mg base CX0 3 (a.f 20) (a.d 20) U9 (spC K gNmd):=by
 have S:=(T.F 20 rfl).s;have uJ:=gY (base:=base) T;refine(T.F 20 rfl).ok (fun ts C R h=>?_) fun cdv A outer s H E hr=>⟨_,(wQ (mQ (ctp T.aX (xK rfl (S.c (by decide +kernel)) (S.k rfl rfl rfl (by decide +kernel)) (cv 1) (fun _ _ _ _ _=>hZ) (fun _ _ _ _ _=>(bQ (qQ (cv 0) (ca1 (cf (T.F 5 rfl) uJ hr (ca1 (cv 1))))))))))),?_⟩
 .obtain ⟨t,nl,ss,ns,rfl,_⟩:=h; rfl
 rintro ts C R ⟨t,nl,ss,ns,rfl,hT,mn,nt,hl,q⟩;refine vA mn rfl ?_;refine yJ (β:=Int) oQ (fun _=>True) (fun C''=>Tp C'' t ns/\Ex t C C'') (fun C'' h=>h.2 _ _ nt mn) (by omega) (fun z C1 L ⟨T1,e1⟩ hL=>?_) (fun bs C1 p1 ⟨T1,e1⟩ hp1 hb _=>?_) ⟨hT,Ex.refl⟩
 .exact ⟨t,ns,rfl,T1,fun i C2 i0 i1 T2 e2=>⟨by show 2<=sizeLine; decide,hL i C2 trivial ⟨T2,e1.trans e2⟩⟩⟩
 .refine tK jQ ?_
  exact q bs _ hb (T1.new hp1 _) (e1.trans (Ex.new hp1 _))
def gRows:GC:=fun ts C Q=>∃(p:Addr) (cs:An),ts=[.ref p]/\C p=some (.dT (dOf cs))/\(cs.map (·.1)).Nodup/\Two cs/\cs.length < 64/\∀l C',C l=none->C' l=some (.lst ((qV cs).map lZ))->Gr C C'->Q (.ref l) C'
theorem ok_rows (T:Txt P w K mg a):FnOk P w K mg base CX0 1 (a.f 21) (a.d 21) ["_law_answers"] (spC K gRows):=by
 have S:=(T.F 21 rfl).s;refine(T.F 21 rfl).ok (fun ts C R h=>?_) fun cdv A outer s H E hr=>⟨_,(wQ (mQ (xK rfl (S.c (by decide +kernel)) (S.k rfl rfl rfl (by decide +kernel)) (tX (pF rfl) iL rfl T.aF rfl (ca1 (cv 0))) (fun _ _ _ _ _=>hZ) (fun _ _ _ _ _=>(bQ (qQ (cv 0) (ca1 (ce_tix (kX hr) (cv 1) (cv 0) (fun _ _=>rfl))))))))),?_⟩
 .obtain ⟨p,cs,rfl,_⟩:=h; rfl
 rintro ts C R ⟨p,cs,rfl,mp,nd,h2,hl,q⟩
 .unfold rY
  refine dC mp (sO h2) (by rw[List.length_map]; exact hl) fun l hp=>?_;dsimp only;rw[jQ];dsimp only;rw[ordK_eq nd h2,List.map_map];have npl:p≠l:=fun z=>by subst z; rw[mp] at hp; cases hp
  refine jM (fun zs acc C'=>C'=uQ C l (.lst ((qV cs).map fun c=>gU c.1))/\∃ds es:An,qV cs=ds++es/\zs=es.map (fun c=>gU c.1)/\acc=ds.map lZ) (fun _ _ _ h=>by rw[h.1]; exact jQ) ?_ ?_ _ _ _ ⟨rfl,[],qV cs,rfl,rfl,rfl⟩
  .rintro z zs acc C1 ⟨rfl,ds,es,e,hz,rfl⟩ L hL
   cases es with
   |nil=>cases hz
   |cons c es =>
   obtain⟨rfl,rfl⟩:=List.cons.inj hz;refine tix_s (p:=p) (by rw[yQ npl]; exact mp) (tk_kk c.1) (tH nd (dD (by rw[e]; exact List.mem_append_right _ List.mem_cons_self))) ?_;have hlen:=cD cs;rw[e,List.length_append] at hlen;refine⟨by show 2<=sizeLine; decide,hL _ _ ⟨?_,rfl,ds++[c],es,by rw[List.append_assoc]; exact e,rfl,by rw[List.map_append]; rfl⟩⟩;rw[List.length_map];exact Nat.lt_of_lt_of_le (show ds.length < 64 by omega) (by decide)
  .rintro acc C1 ⟨rfl,ds,es,e,hz,rfl⟩ p' hp'
   cases es with
   |cons c es=>cases hz
   |nil =>
   rw[List.append_nil] at e;subst e;exact q p' _ (gr_none (Gr.new hp _) hp') jQ ((Gr.new hp _).trans (Gr.new hp' _))
end
theorem xM {n:Nat}{c:TCE}{ρ:CSt}{Q:K1}(I:List PV->List PV->CH->Prop)(step:∀x r acc C,I (x::r) acc C->∃ts,x=.tup ts/\ts.length=n/\∀L:K1,(∀y C2,acc.length < sizeLine/\I r (acc++[y]) C2->L y C2)->c (ts.map some++ρ) C L)(fin:∀acc C,I [] acc C->∀p,C p=none->Q (.ref p) (uQ C p (.lst acc))):
  ∀xs acc C,I xs acc C->rK n cY c ρ Q xs acc C:=by
 intro xs
 induction xs with
 |nil=>intro acc C h; exact fin acc C h
 |cons x r ih =>
  intro acc C h;obtain⟨ts,e,hn,st⟩:=step x r acc C h;exact⟨ts,e,hn,st _ fun y C2 z=>⟨z.1,ih _ _ z.2⟩⟩
theorem pC {cs:List (List Str×Int)}{p:Addr}{C:CH}{Q:K1}(m:C p=some (.lst (cs.map lZ)))(h:cs.length < 64)(q:∀p',C p'=none->Q (.ref p') (uQ C p' (.lst ((qV cs).map lZ)))):zY [.ref p] C Q:=by
 unfold zY;dsimp only;rw[m];dsimp only;rw[jD];exact⟨h,q⟩
abbrev vG:List Str:=["a","ab","b","box"]
theorem cut_to (v:Int)(h0:0<=v)(h1:v < 5):pY (vG.map PV.str) none (some v)=(vG.take v.toNat).map PV.str:=by
 have:v=0\/v=1\/v=2\/v=3\/v=4:=by omega
 rcases this with rfl | rfl | rfl | rfl | rfl<;>rfl
theorem cut_at (v:Int)(h0:0<=v)(h1:v < 4):pY (vG.map PV.str) (some v) none=(vG.drop v.toNat).map PV.str:=by
 have:v=0\/v=1\/v=2\/v=3:=by omega
 rcases this with rfl | rfl | rfl | rfl<;>rfl
theorem cN:vG.Nodup:=by decide +kernel
theorem sL {ρ:CSt}{Q:K1}{cs:List (Str×Int)}{C:CH}(hl:cs.length<=20)(q:∀p,C p=none->Q (.ref p) (uQ C p (.lst ((cs.map (·.1)).map PV.str)))):rK 2 cY (qY 0) ρ Q (cs.map oQ) [] C:=by
 refine xM (fun zs acc C'=>C'=C/\∃us vs:List (Str×Int),cs=us++vs/\zs=vs.map oQ/\acc=(us.map (·.1)).map PV.str) ?_ ?_ _ _ _ ⟨rfl,[],cs,rfl,rfl,rfl⟩
 .rintro z zs acc C1 ⟨rfl,us,vs,e,hz,rfl⟩
  cases vs with
  |nil=>cases hz
  |cons v vs =>
  obtain⟨rfl,rfl⟩:=List.cons.inj hz;refine⟨[.str v.1,.int v.2],rfl,rfl,fun L hL=>?_⟩;have hle:=congrArg List.length e;rw[List.length_append,List.length_cons] at hle;refine hL (.str v.1) _ ⟨?_,rfl,us++[v],vs,by rw[List.append_assoc]; exact e,rfl,by rw[List.map_append,List.map_append]; rfl⟩;rw[List.length_map,List.length_map];exact Nat.lt_of_lt_of_le (show us.length < 21 by omega) (by decide)
 .rintro acc C1 ⟨rfl,us,vs,e,hz,rfl⟩ p hp
  cases vs with
  |cons v vs=>cases hz
  |nil =>
  rw[List.append_nil] at e;subst e;exact q p hp
theorem mT {κ:Type}[DecidableEq κ](R:List (κ×PV))(k:κ)(v:PV):(putG R k v).length<=R.length+1:=by
 unfold putG
 split
 .rw [List.length_map]; omega
 .rw [List.length_append,List.length_singleton]; exact Nat.le_refl _
theorem Tp.gr {C C':CH}{t:Addr}{ns:List Int}(h:Tp C t ns)(g:Gr C C'):Tp C' t ns:=by
 obtain⟨⟨a,b,c,e,r⟩,l⟩:=h;exact⟨⟨a,b,c,g t _ e,r⟩,l⟩
theorem Ex.ofGr {t:Addr}{C C':CH}(g:Gr C C'):Ex t C C':=fun b o _ e=>g b o e
theorem uD {d:Nat}{C:CH}{x:PV}(h:(sc x).isSome=true):Al (d+1) C x x:=.inl ⟨rfl,h⟩
theorem pM {d:Nat}{C:CH}{xs:List PV}(h:xs.length<=200000)(hz:∀z∈xs,∀C',Al d C' z z):Al (d+1) C (.tup xs) (.tup xs):=.inr ⟨xs,.tup,.inl ⟨rfl,rfl⟩,.inl ⟨rfl,rfl⟩,h,hz⟩
theorem ti_al {d:Nat}{C:CH}{x y:Str}{n:Int}:Al (d+3) C (lZ ([x,y],n)) (lZ ([x,y],n)):=by
 refine pM (by decide:2<=200000) fun z hz C'=>?_
 rcases List.mem_cons.1 hz with rfl | hz
 .refine pM (by decide:2<=200000) fun z hz C'=>?_
  rcases List.mem_cons.1 hz with rfl | hz
  .exact uD rfl
  .rcases List.mem_cons.1 hz with rfl | hz
   .exact uD rfl
   .cases hz
 .cases List.mem_singleton.1 hz
  exact uD rfl
section
variable {P:Program}{w:World}{K:PySem.W.Frag}{mg:Str->Option Value}{base:Heap}{a:Adr}
def gAnd:GC:=fun ts C Q=>∃(t:Addr) (y:Pt) (ns:List Int),ts=[.ref t,y.pv]/\Tp C t ns/\y.first.length<=4/\(y.first.map (·.1)).Nodup/\∀C',Tp C' t ns->Ex t C C'->Q (.bl true) C'
theorem tD (T:Txt P w K mg a):FnOk P w K mg base CX0 9 (a.f 22) (a.d 22) ["_law_tape_here","_law_part_here"] (spC K gAnd):=by
 have S:=(T.F 22 rfl).s;have vQ:=(bX (base:=base) T).mono (show 1<=8 by decide);have fZ:=(qG (base:=base) T).mono (show 3<=8 by decide);have eF:=(wB (base:=base) T).mono (show 1<=8 by decide);have sA:=(ok_rows (base:=base) T).mono (show 1<=8 by decide);have vJ:=(eD (base:=base) T 5).mono (show 7<=8 by decide)
 refine(T.F 22 rfl).ok (fun ts C R h=>?_) fun cdv A outer s H E hr=>⟨_,(xQ (cs1 2 S.nd (zX (qQ kQ (qQ kQ (qQ kQ (ca1 kQ))))))
  (xQ (cs1 3 S.nd (cf (T.F 20 rfl) fZ hr (qQ (cv 0) (ca1 (dY (cv 2) sV (nV (cf (T.F 3 rfl) vQ hr (qQ (cv 0) (ca1 zQ)))))))))
  (xQ (cs1 4 S.nd (cf (T.F 20 rfl) fZ hr (qQ (cv 0) (ca1 (dY (cv 2) (nV (cf (T.F 3 rfl) vQ hr (qQ (cv 0) (ca1 zQ)))) sV)))))
  (xQ (cs1 5 S.nd (cf (T.F 20 rfl) fZ hr (qQ (cv 0) (ca1 (sU rfl (show(["_law_name","_law_first","_law_tape_here","_law_part_here","_law_names_here","_law_gives","_law_downs","_law_boxes","_law_due","_law_sort","_law_pairs_here","_law_turn","_law_found_here"]:List Str).Nodup by decide +kernel) (eW (N:=U1) (sc:=lQ (top 24)) rfl rfl rfl (by decide +kernel)) (mH (cx (cv 1) zQ)) (fun _ _ _ _ _=>hZ) (fun _ _ _ _ _=>(cv 0)))))))
  (xQ (cs1 6 S.nd (zX oZ))
  (xQ (pG PassesOwn.never rfl (zX (qQ (bQ (qQ kQ (ca1 (cv 3)))) (qQ (bQ (qQ kQ (ca1 (cv 4)))) (ca1 (bQ (qQ kQ (ca1 (cv 5)))))))) (fH rfl (jK (cg1 7 S.nd) (jK (cg1 8 S.nd) fF))) (wQ (cs1 6 S.nd (sQ lX rX (cv 6) (sU rfl (show(["_law_one","_law_number_here","_law_tape_here","_law_part_here","_law_names_here","_law_gives","_law_downs","_law_boxes","_law_due","_law_sort","_law_pairs_here","_law_turn","_law_found_here"]:List Str).Nodup by decide +kernel) (eW (N:=U1) (sc:=lQ (top 24)) rfl rfl rfl (by decide +kernel)) (mH (cv 8)) (fun _ _ _ _ _=>hZ) (fun _ _ _ _ _=>(bQ (qQ (bQ (qQ (cv 9) (ca1 (cv 0)))) (ca1 (cv 1))))))))))
  (xQ (cs1 6 S.nd (tX qP (eL (fY hr)) rfl T.aF rfl (ca1 (cv 6))))
  (xQ (fG PassesOwn.never rfl rfl T.aZ (ca1 zQ) (cg1 9 S.nd) (xQ (cs1 10 S.nd (cf (T.F 0 rfl) eF hr (qQ (cv 3) (qQ (cv 4) (ca1 (cv 5))))))
  (xQ (qX (cw_pt (cw_or (cU (pK (tX kZ gA rfl T.eX rfl (qQ (cv 10) (ca1 (kM (n:="dict") rfl T.rS rfl)))))) (cw_or1 (cU (pK (cf (T.F 19 rfl) vJ hr (qQ (cf (T.F 21 rfl) sA hr (ca1 (cv 10))) (ca1 (cv 6))))))))) (wQ (mQ vM)) rQ)
  (xQ (wF (kX hr) (cv 10) (bQ (qQ kQ (ca1 kQ))) zQ)
  (wQ (wF (kX hr) (cv 10) (bQ (qQ kQ (ca1 kQ))) zQ))))))
  (wQ (mQ vM)))))))))),?_⟩
 .obtain ⟨t,y,ns,rfl,_⟩:=h; rfl
 rintro ts C R ⟨t,y,ns,rfl,hT,hyl,hyn,q⟩;refine gQ ?_;refine⟨by show 4<=sizeLine; decide,fun nl hnl=>?_⟩;have nnt:=hT.ne hnl;have T1:=hT.new hnl (.lst (vG.map PV.str));have e1:Ex t C (uQ C nl (.lst (vG.map PV.str))):=Ex.new hnl _
 try dsimp only
 refine gQ ?_;refine⟨t,5,ns,rfl,T1,by decide,by decide,fun v C2 v0 v1 T2 e2=>?_⟩;have m2:C2 nl=some (.lst (vG.map PV.str)):=e2 nl _ nnt jQ;refine lC m2 fun p2 hp2=>?_;rw[cut_to v v0 v1];refine⟨t,p2,vG.take v.toNat,ns,rfl,T2.new hp2 _,jQ,T2.ne hp2,by rw[List.length_take]; exact Nat.le_trans (Nat.min_le_right _ _) (by decide),fun g C3 hg T3 e3=>?_⟩;have e03:Ex t C C3:=((e1.trans e2).trans (Ex.new hp2 _)).trans e3
 have m3:C3 nl=some (.lst (vG.map PV.str)):=((Ex.new hp2 _).trans e3) nl _ nnt m2;have gn:(g.map (·.1)).Nodup:=by rw[hg]; exact cN.sublist (List.take_sublist _ _)
 have gl:g.length<=4:=by rw[<- List.length_map (f:=(·.1)),hg,List.length_take]; exact Nat.min_le_right _ _
 try dsimp only
 refine gQ ?_;refine⟨t,4,ns,rfl,T3,by decide,by decide,fun v C4 v0 v1 T4 e4=>?_⟩;have m4:C4 nl=some (.lst (vG.map PV.str)):=e4 nl _ nnt m3;refine lC m4 fun p4 hp4=>?_;rw[cut_at v v0 v1];refine⟨t,p4,vG.drop v.toNat,ns,rfl,T4.new hp4 _,jQ,T4.ne hp4,by rw[List.length_drop]; exact Nat.le_trans (Nat.sub_le _ _) (by decide),fun d C5 hd T5 e5=>?_⟩;have e05:Ex t C C5:=((e03.trans e4).trans (Ex.new hp4 _)).trans e5
 have dn:(d.map (·.1)).Nodup:=by rw[hd]; exact cN.sublist (List.drop_sublist _ _)
 have dl:d.length<=4:=by rw[<- List.length_map (f:=(·.1)),hd,List.length_drop]; exact Nat.sub_le _ _
 try dsimp only
 refine gQ ?_;refine yV (xs:=[.str y.name,.tup (y.first.map oQ),.tup (y.works.map wK),.tup (Ln.pvs y.ls)]) (v:=.tup (y.first.map oQ)) rfl ?_;refine sL (by omega) fun p5 hp5=>?_;refine⟨t,p5,y.first.map (·.1),ns,rfl,T5.new hp5 _,jQ,T5.ne hp5,by rw[List.length_map]; omega,fun b C6 hb T6 e6=>?_⟩;have e06:Ex t C C6:=(e05.trans (Ex.new hp5 _)).trans e6;have bn:(b.map (·.1)).Nodup:=by rw[hb]; exact hyn
 have bl:b.length<=4:=by rw[<- List.length_map (f:=(·.1)),hb,List.length_map]; exact hyl
 have nd:=flat_nd gn dn bn;have fl:=pL g d b;have two:Two (vZ (aL g d b)):=pE;generalize hcs:vZ (aL g d b)=cs at nd fl two
 try dsimp only
 refine gQ ?_;refine⟨by show 0<=sizeLine; decide,fun p6 hp6=>?_⟩;have np6:=T6.ne hp6;have p60:C p6=none:=e06.none np6 hp6
 try dsimp only
 refine pQ (fun ρ' C'=>∃(dp:Addr) (x7 x8 x9 x10:Option PV),ρ'=[some (.ref t),some y.pv,some (.ref nl),some (.tup (g.map oQ)),some (.tup (d.map oQ)),some (.tup (b.map oQ)),some (.ref dp),x7,x8,x9,x10]/\C' dp=some (.lst (cs.map lZ))/\dp≠t/\Tp C' t ns/\Ex t C C') (fun L hL=>?_) ?_
 .refine ⟨by show 2<=sizeLine; decide,?_⟩
  refine⟨by show 2<=sizeLine; decide,?_⟩;refine⟨by show 2<=sizeLine; decide,?_⟩;refine⟨by show 3<=sizeLine; decide,fun p7 hp7=>?_⟩;have T7:=T6.new hp6 (.lst []);have np7:=T7.ne hp7;have n67:p6≠p7:=fun z=>by subst z; rw[jQ] at hp7; cases hp7
  refine⟨4,?_⟩;refine bW (xs:=(aL g d b).map srPV) (fun i ρ C'=>C' p7=some (.lst ((aL g d b).map srPV))/\∃(dp:Addr) (x7 x8 x9 x10:Option PV),ρ=[some (.ref t),some y.pv,some (.ref nl),some (.tup (g.map oQ)),some (.tup (d.map oQ)),some (.tup (b.map oQ)),some (.ref dp),x7,x8,x9,x10]/\C' dp=some (.lst ((vZ ((aL g d b).take i)).map lZ))/\dp≠t/\Tp C' t ns/\Ex t C C') (fun _ _ _ h=>h.1) ?_ ?_ _ 0 _ _ ⟨jQ,p6,_,_,_,_,rfl,by rw[yQ n67]; exact jQ,np6,T7.new hp7 _,(e06.trans (Ex.new hp6 _)).trans (Ex.new hp7 _)⟩ rfl (Nat.zero_le _)
  .rintro i z ρ C8 hx ⟨m8,dp,x7,x8,x9,x10,rfl,md,ndt,T8,e8⟩ L1 hL1
   rw[List.getElem?_map] at hx
   cases he:(aL g d b)[i]? with
   |none=>rw[he] at hx; cases hx
   |some e =>
   rw[he] at hx;cases hx;have et:(aL g d b).take (i+1)=(aL g d b).take i++[e]:=by rw[List.take_add_one,he]; rfl
   have ef:vZ ((aL g d b).take (i+1))=vZ ((aL g d b).take i)++e.2.map fun c=>(([e.1,c.1]:List Str),c.2):=by
    rw[et];unfold vZ;rw[List.flatMap_append];show _++(_++[])=_;rw[List.append_nil]
   have fle:(vZ ((aL g d b).take (i+1))).length<=12:=by
    have:vZ (aL g d b)=vZ ((aL g d b).take (i+1))++vZ ((aL g d b).drop (i+1)):=by
     rw[<- List.take_append_drop (i+1) (aL g d b)];unfold vZ;rw[List.flatMap_append,List.take_append_drop]
    have h2:=congrArg List.length this;rw[hcs,List.length_append] at h2;omega
   rw[ef,List.length_append,List.length_map] at fle;refine⟨rfl,?_⟩;refine rV (rV (uH ?_))
   try dsimp only
   refine xM (fun zs acc C'=>C'=C8/\∃us vs:List (Str×Int),e.2=us++vs/\zs=vs.map oQ/\acc=(us.map fun c=>(([e.1,c.1]:List Str),c.2)).map lZ) ?_ ?_ _ _ _ ⟨rfl,[],e.2,rfl,rfl,rfl⟩
   .rintro z zs acc C9 ⟨rfl,us,vs,eu,hz,rfl⟩
    cases vs with
    |nil=>cases hz
    |cons v vs =>
    obtain⟨rfl,rfl⟩:=List.cons.inj hz;refine⟨[.str v.1,.int v.2],rfl,rfl,fun L2 hL2=>?_⟩;have hle:=congrArg List.length eu;rw[List.length_append,List.length_cons] at hle;refine⟨by show 2<=sizeLine; decide,?_⟩;refine⟨by show 2<=sizeLine; decide,?_⟩;refine hL2 _ _ ⟨?_,rfl,us++[v],vs,by rw[List.append_assoc]; exact eu,rfl,by rw[List.map_append,List.map_append]; rfl⟩;rw[List.length_map,List.length_map]
    exact Nat.lt_of_lt_of_le (show us.length < 13 by omega) (by decide)
   .rintro acc C9 ⟨rfl,us,vs,eu,hz,rfl⟩ p9 hp9
    cases vs with
    |cons v vs=>cases hz
    |nil =>
    rw[List.append_nil] at eu;subst eu;have n9:dp≠p9:=fun z=>by subst z; rw[md] at hp9; cases hp9
    refine vP (by rw[yQ n9]; exact md) jQ ?_ fun p10 hp10=>?_
    .rw [List.length_map,List.length_map,List.length_map]
     exact Nat.le_trans fle (by decide)
    have T9:=T8.new hp9 (.lst ((e.2.map fun c=>(([e.1,c.1]:List Str),c.2)).map lZ));have n7:p7≠p9:=fun z=>by subst z; rw[m8] at hp9; cases hp9
    have n710:p7≠p10:=fun z=>by subst z; rw[yQ n7,m8] at hp10; cases hp10
    refine hL1 _ _ ⟨by rw[yQ n710,yQ n7]; exact m8,p10,_,_,_,_,rfl,?_,T9.ne hp10,T9.new hp10 _,(e8.trans (Ex.new hp9 _)).trans (Ex.new hp10 _)⟩;rw[jQ,ef,List.map_append]
  .rintro ρ C8 ⟨m8,dp,x7,x8,x9,x10,rfl,md,ndt,T8,e8⟩
   rw[List.length_map,List.take_of_length_le (by exact Nat.le_refl _),hcs] at md;exact hL _ _ ⟨dp,_,_,_,_,rfl,md,ndt,T8,e8⟩
 rintro ρ' C8 ⟨dp,x7,x8,x9,x10,rfl,md,ndt,T8,e8⟩
 try dsimp only
 refine gQ ?_;refine pC md (by omega) fun sp hsp=>?_;have nst:=T8.ne hsp;have T9:=T8.new hsp (.lst ((qV cs).map lZ));have e9:=e8.trans (Ex.new hsp (.lst ((qV cs).map lZ)))
 try dsimp only
 refine pQ (fun ρ' C'=>Tp C' t ns/\Ex t C C') (fun L hL=>?_) ?_
 rotate_left
 .rintro ρ' C' ⟨T',e'⟩
  exact q C' T' e'
 refine⟨by decide,by decide,?_⟩;refine wJ (fun zs ρ C'=>∃(x7 x8 x9 x10:Option PV),ρ=[some (.ref t),some y.pv,some (.ref nl),some (.tup (g.map oQ)),some (.tup (d.map oQ)),some (.tup (b.map oQ)),some (.ref sp),x7,x8,x9,x10]/\C' sp=some (.lst ((qV cs).map lZ))/\Tp C' t ns/\Ex t C C') ?_ ?_ _ _ _ ⟨_,_,_,_,rfl,jQ,T9,e9⟩
 .rintro z zs ρ C10 ⟨x7,x8,x9,x10,rfl,ms,T10,e10⟩ L1 hL1
  refine gQ ?_;refine⟨g,d,b,rfl,by omega,by rw[hcs]; exact nd,fun aa C11 a0 ma g11=>?_⟩;rw[hcs] at ma;have nat:aa≠t:=T10.ne a0;have nas:sp≠aa:=fun z=>by subst z; rw[ms] at a0; cases a0
  have aa0:C aa=none:=e10.none nat a0
  try dsimp only
  refine bJ ?_;refine isiT_s ma ?_;refine vO ?_;refine⟨aa,cs,rfl,ma,nd,two,by omega,fun l C12 l0 ml g12=>?_⟩;refine⟨.ref l,.ref sp,rfl,.inr ⟨(qV cs).map lZ,.lst,.inr ⟨rfl,l,rfl,ml⟩,.inr ⟨rfl,sp,rfl,g12 _ _ (g11 _ _ ms)⟩,?_,fun z hz C'=>?_⟩,fun C13 g13=>?_⟩
  .rw [List.length_map,cD]; omega
  .obtain ⟨c,hc,rfl⟩:=List.mem_map.1 hz
   obtain⟨x,z,e⟩:=two c.1 (List.mem_map.2 ⟨c,dD hc,rfl⟩);obtain⟨k,n⟩:=c;have e:k=[x,z]:=e;subst e;exact ti_al
  refine vO ?_;refine xX ?_
  try dsimp only
  have g1013:=(g11.trans g12).trans g13;have ma13:C13 aa=some (.dT (dOf cs)):=(g12.trans g13) _ _ ma;refine bJ ?_;refine⟨by show 2<=sizeLine; decide,?_⟩;refine mP (k:=[.inr "take",.inr "a"]) ma13 rfl (by unfold dOf; rw[List.length_map]; omega) ?_;refine⟨by show 2<=sizeLine; decide,?_⟩;refine mP (k:=[.inr "box",.inr "zz"]) jQ rfl ?_ ?_
  .have:=mT (dOf cs) [.inr "take",.inr "a"] (.int 17)
   have l2:(dOf cs).length=cs.length:=by unfold dOf; rw[List.length_map]
   omega
  refine hL1 _ _ ⟨_,_,_,_,rfl,by rw[yQ nas,yQ nas]; exact g1013 _ _ ms,?_,?_⟩
  .exact ((T10.gr g1013).put nat _).put nat _
  .exact ((e10.trans (Ex.ofGr g1013)).put aa0 _).put aa0 _
 .rintro ρ C10 ⟨x7,x8,x9,x10,rfl,ms,T10,e10⟩
  exact hL _ _ ⟨T10,e10⟩
end
def dZ:List jX:=[[],[[.inl none,.inl (some 0)]],[[.inl (some 0),.inl (some 0)]],[[.inl none,.inl (some 0)],[.inl (some 3),.inl (some 1)]],[[.inl none,.inl (some 1)]]]
theorem pths_nd:dZ.Nodup:=by decide +kernel
theorem zR:(dZ.map kU).Nodup:=by decide +kernel
theorem pths_no:∀p∈dZ,p.all (fun ks=>ks.all noT)=true:=by decide +kernel
theorem cut_p (v:Int)(h0:0<=v)(h1:v < 6):pY (dZ.map cZ) none (some v)=(dZ.take v.toNat).map cZ:=by
 have:v=0\/v=1\/v=2\/v=3\/v=4\/v=5:=by omega
 rcases this with rfl | rfl | rfl | rfl | rfl | rfl<;>rfl
theorem put_vl {V:Vl}{p:jX}{x:Str×List (Str×Int)}(h:p∉V.map (·.1)):putG (vlP V) p (vPV x)=vlP (V++[(p,x)]):=by
 have e:((vlP V).any fun kv=>decide (kv.1=p))=false:=by
  rw[List.any_eq_false];intro z hz;obtain⟨c,hc,rfl⟩:=List.mem_map.1 hz;show ¬ decide (c.1=p)=true;rw[decide_eq_false fun z=>h (by rw[<- z]; exact List.mem_map.2 ⟨c,hc,rfl⟩)]
  decide
 unfold putG;rw[e,if_neg (by decide)];unfold vlP;rw[List.map_append]
 rfl
theorem hu21_of {A:Around}{k:Nat}(hr:Room k A):A.units+2+19 < cLine:=by have:=hr.un; omega
theorem si_al {d:Nat}{C:CH}(c:Str×Int):Al (d+2) C (oQ c) (oQ c):=by
 refine pM (by decide:2<=200000) fun z hz C'=>?_
 rcases List.mem_cons.1 hz with rfl | hz
 .exact uD rfl
 .cases List.mem_singleton.1 hz
  exact uD rfl
theorem kT {d:Nat}{C:CH}{cs:List (Str×Int)}(h:cs.length<=20):Al (d+3) C (.tup (cs.map oQ)) (.tup (cs.map oQ)):=by
 refine pM (by rw[List.length_map]; omega) fun z hz C'=>?_;obtain⟨c,_,rfl⟩:=List.mem_map.1 hz;exact si_al c
def VOk (V:Vl):Prop:=∀e∈V,e.2.2.length<=4
theorem uS {V:Vl}(hV:VOk V){y:Pt}(hy:y.first.length<=4)(p:jX):(tV V y p).length<=4:=by
 unfold tV sB
 cases e:V.find? fun e=>decide (e.1=p) with
 |none=>exact hy
 |some x =>
  dsimp only[Option.map]
  split
  .exact hV x (List.mem_of_find?_eq_some e)
  .exact hy
section
variable {P:Program}{w:World}{K:PySem.W.Frag}{mg:Str->Option Value}{base:Heap}{a:Adr}
def gFound:GC:=fun ts C Q=>∃(t:Addr) (pts:List Pt) (y:Pt) (ns:List Int),ts=[.ref t,.tup (pts.map Pt.pv),y.pv]/\Tp C t ns/\1<=pts.length/\pts.length<=6/\y∈pts/\(∀x∈pts,x.first.length<=4)/\∀C',Tp C' t ns->Ex t C C'->Q (.bl true) C'
theorem mO (T:Txt P w K mg a):FnOk P w K mg base CX0 9 (a.f 23) (a.d 23) U11 (spC K gFound):=by
 have S:=(T.F 23 rfl).s;have vQ:=(bX (base:=base) T).mono (show 1<=8 by decide);have fZ:=(qG (base:=base) T).mono (show 3<=8 by decide);have iU:=(oD (base:=base) T).mono (show 1<=8 by decide);have vJ:=(eD (base:=base) T 5).mono (show 7<=8 by decide)
 refine(T.F 23 rfl).ok (fun ts C R h=>?_) fun cdv A outer s H E hr=>⟨_,(xQ (cs1 3 S.nd (zX (qQ (bQ oZ) (qQ (bQ (ca1 (bQ (qQ uV (ca1 zQ))))) (qQ (bQ (ca1 (bQ (qQ zQ (ca1 zQ))))) (qQ (bQ (qQ (bQ (qQ uV (ca1 zQ))) (ca1 (bQ (qQ zQ (ca1 zQ)))))) (ca1 (bQ (ca1 (bQ (qQ uV (ca1 zQ))))))))))))
  (xQ (cs1 4 S.nd ce_pnew)
  (xQ (pG PassesOwn.never rfl (dY (cv 3) sV (nV (cf (T.F 3 rfl) vQ hr (qQ (cv 0) (ca1 zQ))))) (cg1 5 S.nd) (xQ (cs1 6 S.nd (cx (cv 1) (cf (T.F 3 rfl) vQ hr (qQ (cv 0) (ca1 (cln T.zZ (cv 1)))))))
  (xQ (qX (ct2 nX vX (cf (T.F 3 rfl) vQ hr (qQ (cv 0) (ca1 zQ))) zQ) (wQ (cs1 6 S.nd (cv 2))) rQ)
  (wQ (cs_pput (fY hr) (cv 4) (cv 5) (bQ (qQ (cx (cv 6) zQ) (ca1 (cf (T.F 20 rfl) fZ hr (qQ (cv 0) (ca1 (sU rfl (show(["_law_name","_law_first","_law_tape_here","_law_house_here","_law_part_here","_law_paths","_law_values","_law_path","_law_other","_law_held","_law_due"]:List Str).Nodup by decide +kernel) (eW (N:=U2) (sc:=lQ (top 25)) (L:=0) rfl rfl rfl (by decide +kernel)) (mH (cx (cv 6) zQ)) (fun _ _ _ _ _=>hZ) (fun _ _ _ _ _=>(cv 0))))))))))))))
  (xQ (cs1 7 S.nd (kJ pH vS rfl T.rS rfl (ca1 (cv 4))))
  (xQ (pG PassesOwn.never rfl (cv 3) (cg1 5 S.nd) (xQ (cs1 8 S.nd (cx (cv 2) zQ))
  (xQ (qX (cw_pt (cw_and (eE (op_pin (fY hr)) cop_pin (cv 5) (cv 7) rfl) (cw_and1 (ct2 nX vX (cx (wA (fY hr) (cv 7) (cv 5) (fun _ _=>rfl)) zQ) (cx (cv 2) zQ))))) (wQ (cs1 8 S.nd (cx (wA (fY hr) (cv 7) (cv 5) (fun _ _=>rfl)) zQ))) rQ)
  (wQ (qX (cw_pt (cw_or (cU (pK (cf (T.F 19 rfl) vJ hr (qQ (cf (T.F 1 rfl) iU hr (qQ (cv 2) (qQ (cv 4) (ca1 (cv 5))))) (ca1 (cv 8)))))) (cw_or1 (ct2 (op_neQ (d:=19) (hu21_of hr)) cop_neQ (cv 4) (cv 7))))) (wQ (mQ vM)) rQ)))))
  (xQ (cK (ce_bmQ0 PySem.F.plainAttrs_dict PySem.F.slot_dict_clear PySem.F.type_dict_clear bR gH (cv 4)))
  (wQ (mQ (cf (T.F 19 rfl) vJ hr (qQ (cf (T.F 1 rfl) iU hr (qQ (cv 2) (qQ (cv 4) (ca1 (bQ oZ))))) (ca1 (cx (cv 2) zQ)))))))))))),?_⟩
 .obtain ⟨t,pts,y,ns,rfl,_⟩:=h; rfl
 rintro ts C R ⟨t,pts,y,ns,rfl,hT,h1,h6,hy,hf,q⟩;refine gQ ?_;refine⟨by decide,by decide,by decide,by decide,by decide,by decide,by decide,by decide,by decide,by decide,by decide,fun p1 hp1=>?_⟩;have n1:=hT.ne hp1;have T1:=hT.new hp1 (.lst (dZ.map cZ));have e1:Ex t C (uQ C p1 (.lst (dZ.map cZ))):=Ex.new hp1 _;have m1:uQ C p1 (.lst (dZ.map cZ)) p1=some (.lst (dZ.map cZ)):=jQ;generalize hC1:uQ C p1 (.lst (dZ.map cZ))=C1 at T1 e1 m1
 have hC1:uQ C p1 (.lst [PV.tup [],PV.tup [PV.tup [PV.non,PV.int 0]],PV.tup [PV.tup [PV.int 0,PV.int 0]],PV.tup [PV.tup [PV.non,PV.int 0],PV.tup [PV.int 3,PV.int 1]],PV.tup [PV.tup [PV.non,PV.int 1]]])=C1:=hC1;rw[hC1]
 try dsimp only
 refine gQ ?_;intro vv hvv;have nv:=T1.ne hvv;have nv1:p1≠vv:=fun z=>by subst z; rw[m1] at hvv; cases hvv
 have T2:=T1.new hvv (.dP []);have vv0:C vv=none:=e1.none nv hvv
 try dsimp only
 refine pQ (fun ρ' C'=>∃(V:Vl) (k:Nat) (x5 x6 x7 x8:Option PV),ρ'=[some (.ref t),some (.tup (pts.map Pt.pv)),some y.pv,some (.ref p1),some (.ref vv),x5,x6,x7,x8]/\C' vv=some (.dP (vlP V))/\V.map (·.1)=dZ.take k/\VOk V/\C' p1=some (.lst (dZ.map cZ))/\Tp C' t ns/\Ex t C C') (fun L hL=>?_) ?_
 .refine ⟨t,6,ns,rfl,T2,by decide,by decide,fun v C3 v0 v1 T3 e3=>?_⟩
  have m3:C3 p1=some (.lst (dZ.map cZ)):=e3 p1 _ n1 (by rw[yQ nv1]; exact m1);have mv3:C3 vv=some (.dP []):=e3 vv _ nv jQ;refine lC m3 fun p3 hp3=>?_;rw[cut_p v v0 v1];have n3:=T3.ne hp3;have n13:p1≠p3:=fun z=>by subst z; rw[m3] at hp3; cases hp3
  have nv3:vv≠p3:=fun z=>by subst z; rw[mv3] at hp3; cases hp3
  have e03:Ex t C C3:=(e1.trans (Ex.new hvv _)).trans e3;refine⟨(dZ.take v.toNat).length+1,?_⟩;refine bW (xs:=(dZ.take v.toNat).map cZ) (fun i ρ C'=>C' p3=some (.lst ((dZ.take v.toNat).map cZ))/\∃(V:Vl) (x5 x6 x7 x8:Option PV),ρ=[some (.ref t),some (.tup (pts.map Pt.pv)),some y.pv,some (.ref p1),some (.ref vv),x5,x6,x7,x8]/\C' vv=some (.dP (vlP V))/\V.map (·.1)=(dZ.take v.toNat).take i/\VOk V/\C' p1=some (.lst (dZ.map cZ))/\Tp C' t ns/\Ex t C C') (fun _ _ _ h=>h.1) ?_ ?_ _ 0 _ _ ⟨jQ,[],_,_,_,_,rfl,by rw[yQ nv3]; exact mv3,rfl,(fun _ z=>nomatch z),by rw[yQ n13]; exact m3,T3.new hp3 _,e03.trans (Ex.new hp3 _)⟩ (by rw[List.length_map,Nat.zero_add]) (Nat.zero_le _)
  .rintro i z ρ C4 hx ⟨m4,V,x5,x6,x7,x8,rfl,mv4,hk4,hV4,mp4,T4,e4⟩ L1 hL1
   rw[List.getElem?_map] at hx
   cases he:(dZ.take v.toNat)[i]? with
   |none=>rw[he] at hx; cases hx
   |some p =>
   rw[he] at hx;cases hx;have et:(dZ.take v.toNat).take (i+1)=(dZ.take v.toNat).take i++[p]:=by rw[List.take_add_one,he]; rfl
   have np:p∉V.map (·.1):=by
    rw[hk4];intro z;have nd:((dZ.take v.toNat).take (i+1)).Nodup:=(pths_nd.sublist (List.take_sublist _ _)).sublist (List.take_sublist _ _);rw[et] at nd;exact(List.nodup_append.1 nd).2.2 _ z _ List.mem_cons_self rfl
   refine gQ ?_;refine kL ?_;rw[List.length_map];refine⟨t,_,ns,rfl,T4,by omega,by omega,fun j C5 j0 j1 T5 e5=>?_⟩;obtain⟨k,rfl⟩:=Int.eq_ofNat_of_zero_le j0;have hk:k < pts.length:=by omega
   refine yV (xs:=pts.map Pt.pv) (yW (by rw[List.length_map]; exact hk)) ?_;rw[List.getElem_map]
   try dsimp only
   refine pQ (fun ρ' C'=>∃z:Pt,z∈pts/\ρ'=[some (.ref t),some (.tup (pts.map Pt.pv)),some y.pv,some (.ref p1),some (.ref vv),some (cZ p),some z.pv,x7,x8]/\Tp C' t ns/\Ex t C4 C') (fun L2 hL2=>?_) ?_
   .refine ⟨t,2,ns,rfl,T5,by decide,by decide,fun j C6 j0 j1 T6 e6=>?_⟩
    refine wZ (wX _ _) ?_;refine pX (fun hb=>?_) fun hb=>?_
    .exact hL2 _ _ ⟨y,hy,rfl,T6,e5.trans e6⟩
    .refine xX ?_
     exact hL2 _ _ ⟨pts[k],List.getElem_mem hk,rfl,T6,e5.trans e6⟩
   rintro ρ' C6 ⟨z,hz,rfl,T6,e6⟩
   try dsimp only
   refine yV (xs:=[.str z.name,.tup (z.first.map oQ),.tup (z.works.map wK),.tup (Ln.pvs z.ls)]) sK ?_;refine yV (xs:=[.str z.name,.tup (z.first.map oQ),.tup (z.works.map wK),.tup (Ln.pvs z.ls)]) (v:=.tup (z.first.map oQ)) rfl ?_;have hzf:=hf z hz;refine sL (by omega) fun p5 hp5=>?_;refine⟨t,p5,z.first.map (·.1),ns,rfl,T6.new hp5 _,jQ,T6.ne hp5,by rw[List.length_map]; omega,fun cs C7 hcs T7 e7=>?_⟩
   refine⟨by show 2<=sizeLine; decide,?_⟩;have e47:Ex t C4 C7:=(e6.trans (Ex.new hp5 _)).trans e7
   have hl5:V.length<=5:=by
    rw[<- List.length_map (f:=(·.1)),hk4,List.length_take,List.length_take];exact Nat.le_trans (Nat.min_le_right _ _) (Nat.min_le_right _ _)
   refine pput_s (e47 _ _ nv mv4) (aK p) (by unfold vlP; rw[List.length_map]; omega) ?_;have n1v:p1≠vv:=nv1;have n3v:p3≠vv:=Ne.symm nv3;refine hL1 _ _ ⟨by rw[yQ n3v]; exact e47 _ _ n3 m4,V++[(p,(z.name,cs))],_,_,_,_,rfl,?_,?_,fun e he=>?_,by rw[yQ n1v]; exact e47 _ _ n1 mp4,T7.put nv _,(e4.trans e47).put vv0 _⟩
   .rw [jQ]
    show some (CO.dP (putG (vlP V) p (vPV (z.name,cs))))=_;rw[put_vl np]
   .rw [List.map_append,hk4,et]
    rfl
   .rcases List.mem_append.1 he with he | he
    .exact hV4 e he
    .cases List.mem_singleton.1 he
     show cs.length<=4;rw[<- List.length_map (f:=(·.1)),hcs,List.length_map];exact hzf
  .rintro ρ C4 ⟨m4,V,x5,x6,x7,x8,rfl,mv4,hk4,hV4,mp4,T4,e4⟩
   rw[List.length_map,List.take_of_length_le (Nat.le_refl _)] at hk4;exact hL _ _ ⟨V,v.toNat,_,_,_,_,rfl,mv4,hk4,hV4,mp4,T4,e4⟩
 rintro ρ' C3 ⟨V,k,x5,x6,x7,x8,rfl,mv,hk,hV,mp,T3,e3⟩
 try dsimp only
 refine gQ ?_
 have keys:(vlP V).map (·.1)=dZ.take k:=by
  rw[<- hk];unfold vlP;rw[List.map_map]
  rfl
 refine dictQ_s mv (fun e he=>pths_no e.1 ?_) ?_ fun hh hhh=>?_
 .have:e.1∈(vlP V).map (·.1):=List.mem_map.2 ⟨e,he,rfl⟩
  rw[keys] at this;exact List.mem_of_mem_take this
 .have e:(vlP V).map (fun p=>kU p.1)=(dZ.map kU).take k:=by
   rw[<- List.map_take,<- keys,List.map_map]
   rfl
  rw[e];exact zR.sublist (List.take_sublist _ _)
 have nh:=T3.ne hhh;have nhv:vv≠hh:=fun z=>by subst z; rw[mv] at hhh; cases hhh
 have nh1:p1≠hh:=fun z=>by subst z; rw[mp] at hhh; cases hhh
 try dsimp only
 refine pQ (fun ρ' C'=>∃(x5 x6 x7 x8:Option PV),ρ'=[some (.ref t),some (.tup (pts.map Pt.pv)),some y.pv,some (.ref p1),some (.ref vv),x5,x6,x7,x8]/\C' vv=some (.dP (vlP V))/\Tp C' t ns/\Ex t C C') (fun L hL=>?_) ?_
 .refine ⟨dZ.length+1,?_⟩
  refine bW (xs:=dZ.map cZ) (fun i ρ C'=>C' p1=some (.lst (dZ.map cZ))/\∃(x5 x6 x8:Option PV),ρ=[some (.ref t),some (.tup (pts.map Pt.pv)),some y.pv,some (.ref p1),some (.ref vv),x5,x6,some (.ref hh),x8]/\C' vv=some (.dP (vlP V))/\C' hh=some (.dP (vlP V))/\Tp C' t ns/\Ex t C C') (fun _ _ _ h=>h.1) ?_ ?_ _ 0 _ _ ⟨by rw[yQ nh1]; exact mp,_,_,_,rfl,by rw[yQ nhv]; exact mv,jQ,T3.new hhh _,e3.trans (Ex.new hhh _)⟩ rfl (Nat.zero_le _)
  .rintro i z ρ C4 hx ⟨m4,x5,x6,x8,rfl,mv4,mh4,T4,e4⟩ L1 hL1
   rw[List.getElem?_map] at hx
   cases he:dZ[i]? with
   |none=>rw[he] at hx; cases hx
   |some p =>
   rw[he] at hx;cases hx;refine gQ ?_;refine yV (xs:=[.str y.name,.tup (y.first.map oQ),.tup (y.works.map wK),.tup (Ln.pvs y.ls)]) (v:=.tup (y.first.map oQ)) rfl ?_
   try dsimp only
   refine pQ (fun ρ' C'=>C'=C4/\ρ'=[some (.ref t),some (.tup (pts.map Pt.pv)),some y.pv,some (.ref p1),some (.ref vv),some (cZ p),x6,some (.ref hh),some (.tup ((tV V y p).map oQ))]) (fun L2 hL2=>?_) ?_
   .refine pin_s mh4 (aK _) ?_
    rw[mM];unfold tV at hL2
    cases e:sB V p with
    |none =>
     rw[e] at hL2;refine nJ rfl ?_;refine nW rfl ?_;refine xX ?_;exact hL2 _ _ ⟨rfl,rfl⟩
    |some v =>
     rw[e] at hL2;dsimp only at hL2;refine yU rfl ?_;refine pix_s mh4 (aK _) (v:=vPV v) (by rw[mM,e]; rfl) ?_;refine yV (xs:=[.str v.1,.tup (v.2.map oQ)]) sK ?_;refine yV (xs:=[.str y.name,.tup (y.first.map oQ),.tup (y.works.map wK),.tup (Ln.pvs y.ls)]) sK ?_;refine wZ (nZ _ _) ?_
     by_cases h:v.1=y.name
     .rw [if_pos h] at hL2
      refine yU (decide_eq_true h) ?_;refine pix_s mh4 (aK _) (v:=vPV v) (by rw[mM,e]; rfl) ?_;refine yV (xs:=[.str v.1,.tup (v.2.map oQ)]) (v:=.tup (v.2.map oQ)) rfl ?_;exact hL2 _ _ ⟨rfl,rfl⟩
     .rw [if_neg h] at hL2
      refine nJ (decide_eq_false h) ?_;refine xX ?_;exact hL2 _ _ ⟨rfl,rfl⟩
   rintro ρ' C' ⟨rfl,rfl⟩
   try dsimp only
   have hbl:=uS hV (hf y hy) p;refine⟨y,vv,V,p,rfl,mv4,?_⟩;refine⟨_,_,rfl,kT (by omega),fun C5 g5=>?_⟩;refine vO ?_;refine neQ_s (g5 _ _ mv4) (g5 _ _ mh4) (fun e he=>?_) ?_
   .obtain ⟨x,_,rfl⟩:=List.mem_map.1 he
    refine .tup fun t ht=>?_
    rcases List.mem_cons.1 ht with rfl | ht
    .exact .str _
    cases List.mem_singleton.1 ht;refine .tup fun t ht=>?_;obtain⟨c,_,rfl⟩:=List.mem_map.1 ht;refine .tup fun t ht=>?_
    rcases List.mem_cons.1 ht with rfl | ht
    .exact .str _
    cases List.mem_singleton.1 ht;exact .int _
   refine nJ rfl ?_;refine xX ?_;exact hL1 _ _ ⟨g5 _ _ m4,_,_,_,rfl,g5 _ _ mv4,g5 _ _ mh4,T4.gr g5,e4.trans (Ex.ofGr g5)⟩
  .rintro ρ C4 ⟨m4,x5,x6,x8,rfl,mv4,mh4,T4,e4⟩
   exact hL _ _ ⟨_,_,_,_,rfl,mv4,T4,e4⟩
 rintro ρ' C4 ⟨x5,x6,x7,x8,rfl,mv4,T4,e4⟩
 try dsimp only
 refine bJ ?_;refine⟨⟨vv,_,rfl,mv4⟩,?_⟩;refine kA mv4 ?_
 try dsimp only
 refine⟨by show 0<=sizeLine; decide,?_⟩;refine⟨y,vv,[],[],rfl,jQ,?_⟩;refine yV (xs:=[.str y.name,.tup (y.first.map oQ),.tup (y.works.map wK),.tup (Ln.pvs y.ls)]) (v:=.tup (y.first.map oQ)) rfl ?_;have hyf:=hf y hy;refine⟨_,_,rfl,kT (cs:=y.first) (by omega),fun C5 g5=>?_⟩;exact q C5 ((T4.put nv _).gr g5) ((e4.put vv0 _).trans (Ex.ofGr g5))
end
section
variable {P:Program}{w:World}{K:PySem.W.Frag}{mg:Str->Option Value}{base:Heap}{a:Adr}
def gLaw:GC:=fun ts C Q=>∃ns:List Int,ts=[.fz (ns.map PV.int)]/\ns.length<=63/\∀C',Q (.bl true) C'
theorem ok_law (T:Txt P w K mg a):FnOk P w K mg base CX0 120 (a.f 24) (a.d 24) ["_law_script"] (spC K gLaw):=by
 have S:=(T.F 24 rfl).s;have nA:=(ok_tape (base:=base) T).mono (show 1<=119 by decide);have dS:=(gO (base:=base) T).mono (show 26<=119 by decide);have tF:=(tD (base:=base) T).mono (show 9<=119 by decide);have lS:=(mO (base:=base) T).mono (show 9<=119 by decide)
 refine(T.F 24 rfl).ok (fun ts C R h=>?_) fun cdv A outer s H E hr=>⟨_,(xQ (cs1 1 S.nd (cf (T.F 2 rfl) nA hr (ca1 (cv 0))))
  (xQ (cs1 2 S.nd (cf (T.F 17 rfl) dS hr (ca1 (cv 1))))
  (xQ (yF PassesOwn.never rfl (cv 2) (cg1 3 S.nd) (wQ (qX (cw_pt (cw_or (cU (pK (cf (T.F 22 rfl) tF hr (qQ (cv 1) (ca1 (cv 3)))))) (cw_or1 (cU (pK (cf (T.F 23 rfl) lS hr (qQ (cv 1) (qQ (cv 2) (ca1 (cv 3)))))))))) (wQ (mQ vM)) rQ)))
  (wQ (mQ vM))))),?_⟩
 .obtain ⟨ns,rfl,_⟩:=h; rfl
 rintro ts C R ⟨ns,rfl,hl,q⟩;refine gQ ?_;refine⟨ns,rfl,hl,fun t C1 n1 e1 T1=>?_⟩
 try dsimp only
 refine gQ ?_;refine⟨t,ns,rfl,T1,fun pts C2 hs T2 e2=>?_⟩
 try dsimp only
 have pok:∀x∈pts,∃rs cap,PtOk rs cap x:=fun x hx=>by
  obtain⟨k,hk⟩:=List.mem_iff_getElem?.1 hx;exact⟨_,_,hs.ok k x hk⟩
 have hf:∀x∈pts,x.first.length<=4:=fun x hx=>let ⟨_,_,h⟩:=pok x hx; h.fl
 refine pQ (fun ρ' C'=>True) (fun L hL=>?_) ?_
 .refine fE rfl ?_
  refine wJ (fun zs ρ C'=>∃(us vs:List Pt) (x3:Option PV),pts=us++vs/\zs=vs.map Pt.pv/\ρ=[some (.fz (ns.map PV.int)),some (.ref t),some (.tup (pts.map Pt.pv)),x3]/\Tp C' t ns) ?_ ?_ _ _ _ ⟨[],pts,_,rfl,rfl,rfl,T2⟩
  .rintro z zs ρ C3 ⟨us,vs,x3,e,hz,rfl,T3⟩ L1 hL1
   cases vs with
   |nil=>cases hz
   |cons y vs =>
   obtain⟨rfl,rfl⟩:=List.cons.inj hz;have hy:y∈pts:=by rw[e]; exact List.mem_append_right _ List.mem_cons_self
   obtain⟨rs,cap,oy⟩:=pok y hy;refine⟨t,y,ns,rfl,T3,oy.fl,oy.fd,fun C4 T4 e4=>?_⟩;refine vO ?_;refine⟨t,pts,y,ns,rfl,T4,hs.n1,hs.n6,hy,hf,fun C5 T5 e5=>?_⟩;refine vO ?_;refine xX ?_;exact hL1 _ _ ⟨us++[y],vs,_,by rw[List.append_assoc]; exact e,rfl,rfl,T5⟩
  .rintro ρ C3 ⟨us,vs,x3,e,hz,rfl,T3⟩
   exact hL _ _ trivial
 rintro ρ' C' _;exact q C'
end
theorem mL {K:PySem.W.Frag}{H:Hp}:∀ns:List Int,Reps K H (ns.map V.int) (ns.map PV.int)
 |[]=>.nil
 |n::ns=>.cons (.int n) (mL ns)
theorem walk {l:PySem.W.OpenLaw}{q:Program}{loose:List Str}{XP:(Str->Option Value)->Heap->Prop}{YP:World->Heap->Prop}{d:DefRec}{K:Params->PySem.W.Frag}(hn:l.most=some 63)(hdf:d.params.defaults=[])(hnm:d.name = "law")
  (hY:∀(w:World) (h:Heap),YP w h->(K w.params).In h)
  (F:∀(w:World) (mg:Str->Option Value) (h:Heap),(K w.params).In h->h.Ns mainGlobals mg->∃a:Adr,Txt l.prog w (K w.params) mg a) :
  PySem.W.WalkO q loose XP YP l.row.toRowW d [] (fun f vs=>PySem.call f vs):=by
 refine L2.walk_of (n:=63) (k:=120) (x:="_law_script") (CX:=fun _=>CX0) (sp:=fun w=>spC (K w.params) gLaw) hn (by decide) hdf ⟨rfl,by decide,by decide⟩ hY ?_ (fun w H a ns hl hO hS=>?_) fun _ _ _ _ _ z=>z
 .intro w mg fa h KX G hmg
  obtain⟨a,T⟩:=F w mg h KX G;rw[hnm] at hmg;have e:=hmg.symm.trans ((T.F 24 rfl).m rfl);cases e;obtain⟨_,_,_,_,_,_,_,_,_,e2,_⟩:=(T.F 24 rfl).F.ex;refine⟨a.d 24,?_,fun base _ _=>ok_law T⟩;rw[e2];exact fun s u=>.of_eq rfl
 .have hz:Fz (K w.params) H a (ns.map V.int):=by
   rcases hS with hS | hS
   .rcases hS with hS | ⟨o,hS⟩
    .rcases hO a with h | ⟨o,xs,h⟩
     .rw [hS] at h; cases h
     .rw [hS] at h; cases h
    .exact .inl ⟨o,hS⟩
   .exact .inr hS
  refine⟨[.fz (ns.map PV.int)],fun _=>none,fun v _=>v=.bl true,.cons (.fz hz (mL ns)) .nil,(fun _ _ z=>nomatch z),⟨ns,rfl,hl,fun _=>rfl⟩,?_⟩;rintro v H' t C' rfl r h' f';cases r
  rfl
end K21
open PySem PySem.W PyProof.Rows
namespace PySem.W.Fast
theorem tw10435300118041529635:True:=⟨⟩
theorem tw10863312672527824721:True:=⟨⟩
theorem tw11715510441486994837:True:=⟨⟩
theorem tw11851336891188507449:True:=⟨⟩
theorem tw12271211268167734503:True:=⟨⟩
theorem tw12439617173752001738:True:=⟨⟩
theorem tw12626311036116369847:True:=⟨⟩
theorem tw12673201900923685687:True:=⟨⟩
theorem tw13020422664345134648:True:=⟨⟩
theorem tw13075531983038283533:True:=⟨⟩
theorem tw13113183249304870055:True:=⟨⟩
theorem tw1332282489558270993:True:=⟨⟩
theorem tw13844702602401168554:True:=⟨⟩
theorem tw14302355299735997451:True:=⟨⟩
theorem tw14349147369396335241:True:=⟨⟩
theorem tw14596055772349926378:True:=⟨⟩
theorem tw14700676365122111000:True:=⟨⟩
theorem tw15530497804441706459:True:=⟨⟩
theorem tw15561891572084655780:True:=⟨⟩
theorem tw16107217084648529735:True:=⟨⟩
theorem tw16358299235434815935:True:=⟨⟩
theorem tw16519438756287641904:True:=⟨⟩
theorem tw1669989585635974073:True:=⟨⟩
theorem tw17329205379465966937:True:=⟨⟩
theorem tw17505812005934209501:True:=⟨⟩
theorem tw17672977156119696001:True:=⟨⟩
theorem tw17881205388195337545:True:=⟨⟩
theorem tw17966936631734994329:True:=⟨⟩
theorem tw17976793840274898820:True:=⟨⟩
theorem tw18316895458733341565:True:=⟨⟩
theorem tw2007281949755408798:True:=⟨⟩
theorem tw2147441054059133249:True:=⟨⟩
theorem tw2346025990836273095:True:=⟨⟩
theorem tw2355018585655699922:True:=⟨⟩
theorem tw2355642521406094630:True:=⟨⟩
theorem tw2434010140673490008:True:=⟨⟩
theorem tw2737414948386885709:True:=⟨⟩
theorem tw3225501891343497374:True:=⟨⟩
theorem tw3326797620189950272:True:=⟨⟩
theorem tw3357552625864687572:True:=⟨⟩
theorem tw3443937060064385504:True:=⟨⟩
theorem tw3857171651581193117:True:=⟨⟩
theorem tw4019661492784720125:True:=⟨⟩
theorem tw4465338411429356288:True:=⟨⟩
theorem tw4540539944178096732:True:=⟨⟩
theorem tw473642086660052396:True:=⟨⟩
theorem tw4883384025288900252:True:=⟨⟩
theorem tw4949722835338767779:True:=⟨⟩
theorem tw5204382852417836785:True:=⟨⟩
theorem tw5902883950187248978:True:=⟨⟩
theorem tw5942602858431463588:True:=⟨⟩
theorem tw5964123470104395694:True:=⟨⟩
theorem tw7135651815406460988:True:=⟨⟩
theorem tw7803025764497081463:True:=⟨⟩
theorem tw7833920672007220953:True:=⟨⟩
theorem tw7967257811058795708:True:=⟨⟩
theorem tw8010705113283074792:True:=⟨⟩
theorem tw8322779272700674902:True:=⟨⟩
theorem tw8581184226341134841:True:=⟨⟩
theorem tw8763370425113953044:True:=⟨⟩
theorem tw8845971563424002754:True:=⟨⟩
theorem tw8912948410000258809:True:=⟨⟩
theorem tw9056954913929775660:True:=⟨⟩
theorem tw9067053010163389694:True:=⟨⟩
theorem tw918089249835567213:True:=⟨⟩
theorem tw9182885702849100389:True:=⟨⟩
theorem tw9332091771510835394:True:=⟨⟩
end PySem.W.Fast
set_option maxRecDepth 100000 in
set_option maxHeartbeats 0 in
theorem PySem.Challenge.cw_viewwood_k21_answers_and_boxes_holds : PySem.Challenge.rw_viewwood_k21_answers_and_boxes.Holds := by
 w_on; o_law; k_head; (case hw=>w_witness2)
 k_fill
 refine K21.walk (l:=PySem.Challenge.rw_viewwood_k21_answers_and_boxes) rfl rfl rfl (fun w h Y=>PySem.W.kIn_of Y) ?F
 case F =>
  intro w mg h KX G;refine K21.txt_mk KX G ?_ (by k_is) (by k_is) (by k_is) (by k_is) (by k_is) (by k_is) (by k_is) (by k_is) (by k_is) (by k_is) (by k_is) (by k_is);unfold K21.tab
  repeat first | refine⟨⟨_,_,_,_,_,_,_,_,_,_,by k_is,by k_is,by k_is,by k_is⟩,?_⟩ | refine⟨⟨_,_,_,_,_,_,_,_,_,_,_,by k_is,by k_is,by k_is,by k_is,by k_is,by k_is⟩,?_⟩
  exact trivial
