import PyProof.Rows.All
import Wide.All
import OpenK.AllK
import Wide.FinOn
import Lean
import PyProof.EqAt
import PyProof.EqKinds
import PyProof.TupleCall
import PyProof.DictUpdate
import KE.KDictOf
import PyProof.AttrMissHeap
import KE.KSortTup
import KE.KItemsList
import PyProof.DictWalks
import PyProof.Rows.TupDisplay
import KE.KEqDict
import PyProof.NeKinds
import KE.KRevIter
import PyProof.ListRange
import PySem.Challenge.RW_viewwood_k32_labels_and_hands
noncomputable section
set_option Elab.async false
set_option linter.all false
set_option maxRecDepth 100000
set_option maxHeartbeats 4000000
theorem zz(n:Nat)(h:n.ble 99=true):n<=PySem.sizeLine:=Nat.le_trans (Nat.le_of_ble_eq_true h) (by decide)
abbrev AA:=@List.length_map
abbrev AB:=@PySem.wpAny_bind
abbrev AC:=@List.length_append
abbrev AD:=@List.mem_cons_self
abbrev AE:=@PySem.wpAny_pure
abbrev AF:=@PySem.Heap.get?_push_of_some
abbrev AG:=@List.mem_cons_of_mem
abbrev AH:=@List.mem_singleton
abbrev AI:=@List.length_cons
abbrev AJ:=@Nat.le_refl
abbrev AK:=@List.append_assoc
abbrev AL:=@Bool.false_ne_true
abbrev AM:=@List.getElem?_eq_getElem
abbrev AN:=@PySem.Heap.lt_size
abbrev AO:=@List.length_singleton
abbrev AQ:=@List.map_append
abbrev AR:=@Nat.lt_of_lt_of_le
abbrev AS:=@decide_eq_false
abbrev AT:=@if_neg
abbrev AU:=@List.getElem?_eq_some_iff
abbrev AV:=@Nat.zero_le
abbrev AW:=@if_pos
abbrev AX:=@of_decide_eq_true
abbrev AY:=@List.mem_append_right
abbrev AZ:=@List.append_nil
abbrev Aa:=@PySem.Heap.get?_push_size
abbrev Ab:=@List.mem_map
abbrev Ac:=@List.map_cons
abbrev Ae:=@Nat.le_trans
abbrev Af:=@decide_eq_true
abbrev Ag:=@Nat.ne_of_lt
abbrev Ah:=@List.mem_cons
abbrev Ai:=@List.size_toArray
abbrev Aj:=@List.getElem?_map
abbrev Ak:=@List.length_range
abbrev Al:=@List.mem_of_getElem?
abbrev Am:=@List.nodup_cons
abbrev An:=@List.mem_append
abbrev Ao:=@List.getD_eq_getElem?_getD
abbrev Ap:=@List.find?_cons
abbrev Aq:=@List.drop_eq_getElem_cons
abbrev Ar:=@Option.some.inj
abbrev As:=@Nat.lt_of_le_of_lt
abbrev At:=@Nat.succ.inj
abbrev Au:=@Array.length_toList
abbrev Av:=@List.flatMap_cons
abbrev Aw:=@PySem.wpAny_holding
abbrev Ax:=@Array.getD_eq_getD_getElem?
abbrev Ay:=@beq_eq_false_iff_ne
abbrev Az:=@List.mem_range
abbrev A0:=@List.mem_append_left
abbrev A1:=@PySem.W.mg_none_of
abbrev A2:=@Nat.mul_le_mul_right
abbrev A3:=@Int.le_refl
abbrev A4:=@List.cons.inj
abbrev A5:=@Nat.ne_of_gt
abbrev A6:=@List.take_of_length_le
abbrev A7:=@List.filterMap_cons
abbrev A8:=@List.nodup_append
abbrev A9:=@List.length_replicate
abbrev BA:=@List.any_cons
abbrev BB:=@PySem.wpAny_forIn_list
abbrev BC:=@Bool.and_eq_true
abbrev BD:=@PySem.Around.under_plainId
abbrev BE:=@congrArg
abbrev BF:=@Nat.zero_add
abbrev BG:=@Nat.pow_succ
abbrev BH:=@PySem.wpAny_mono
abbrev BI:=@List.getElem_mem
abbrev BJ:=@Nat.lt_irrefl
abbrev BK:=@PySem.sizeLine_eq
abbrev BL:=@Nat.pow_le_pow_right
abbrev BM:=@List.nodup_nil
abbrev BN:=@PySem.wpAny_specialOf
abbrev BO:=@PySem.codeAny_builtin
abbrev BP:=@List.not_mem_nil
abbrev BQ:=@List.length_take
abbrev BR:=@List.getElem?_append_right
abbrev BS:=@Int.emod_lt_of_pos
abbrev BU:=@PySem.Heap.size_push
abbrev BV:=@Array.forIn_toList
abbrev BW:=@PySem.F.plain_extend_loop
abbrev BX:=@List.mem_of_find?_eq_some
abbrev BY:=@PySem.lookup_relabel_local
abbrev BZ:=@List.foldl_append
abbrev Ba:=@List.flatMap_append
abbrev Bb:=@PySem.wpAny_call_entry
abbrev Bc:=@PySem.wpAny_setField_rec
abbrev Be:=@Nat.lt_of_succ_lt_succ
abbrev Bf:=@List.map_map
abbrev Bg:=@PySem.Heap.get?_update_other
abbrev Bh:=@Int.emod_nonneg
abbrev Bi:=@PySem.W.mg_of
abbrev Bj:=@PySem.Heap.get?_update_self
abbrev Bk:=@PySem.wpAny_newObj_type
abbrev Bl:=@List.take_add_one
abbrev Bm:=@PySem.F.slot_tuple_hash
abbrev Bn:=@PySem.wpAny_seqItems
abbrev Bo:=@PySem.F.slot_NoneType_hash
abbrev Bp:=@List.getElem?_set_ne
abbrev Bq:=@List.mem_flatMap
abbrev Br:=@List.drop_length
abbrev Bs:=@List.any_eq_true
abbrev Bt:=@List.getElem?_append_left
abbrev Bu:=@PySem.Calls.call_function_entry
abbrev Bv:=@PySem.mem_of_lookup
abbrev Bw:=@List.getElem_of_mem
abbrev By:=@PySem.wpAny_comprehension_free
abbrev Bz:=@PySem.plainId_quiet
abbrev B0:=@PySem.F.slot_dict_itemiterator_next
abbrev B1:=@PySem.F.plainAttrs_list
abbrev B2:=@List.drop_of_length_le
abbrev B3:=@Int.le_trans
abbrev B4:=@List.mem_iff_getElem?
abbrev B5:=@PySem.wpAny_typeNameOfWhole_itemiter
abbrev B6:=@Nat.lt_succ_self
abbrev B7:=@Nat.le_add_right
abbrev B8:=@List.length_drop
abbrev B9:=@List.cons_append
abbrev CC:=@List.all_eq_true
abbrev CD:=@Nat.le_succ
abbrev CJ:=@PySem.wpAny_passesOwn
abbrev CK:=@Nat.not_lt_zero
abbrev CM:=@Bool.eq_iff_iff
abbrev CN:=@List.map_congr_left
abbrev CP:=@PySem.Heap.get?_update_ne
abbrev CQ:=@PySem.codeAny_mono
abbrev CU:=@PySem.wpAny_Call_Name_kw
abbrev CV:=@of_decide_eq_false
abbrev CY:=@List.zip_cons_cons
abbrev CZ:=@List.map_filterMap
abbrev Ca:=@List.getElem?_eq_none_iff
abbrev Cb:=@PySem.F.slot_tuple_getattribute
abbrev Cc:=@Array.getElem?_eq_getElem
abbrev Cd:=@PySem.wpAny_truthy_bool
abbrev Ce:=@Option.isSome_map
abbrev Cf:=@Nat.lt_succ_of_lt
abbrev Cg:=@List.take_sublist
abbrev Ch:=@List.reverse_cons
abbrev Ci:=@Int.toNat_natCast
abbrev Cj:=@PySem.F.args_tuple_add_2
abbrev Ck:=@PySem.wpAny_isInstance
abbrev Cl:=@PySem.F.entry_tuple_add
abbrev Cm:=@List.filter_cons
abbrev Cn:=@PyProof.Rows.F.plain_set_update_loop
abbrev Co:=@PySem.wpAny_typeOf
abbrev Cp:=@PySem.wpAny_isOneOf_itemiter
abbrev Cq:=@beq_iff_eq
abbrev Cr:=@PySem.F.slot_tuple_add
abbrev Cs:=@Nat.lt_or_ge
abbrev Ct:=@Nat.le_of_lt
abbrev Cu:=@PySem.Calls.callWith_builtin
abbrev Cv:=@beq_false_of_ne
abbrev Cw:=@PySem.SeqAt.EqAt.same
abbrev Cy:=@List.nil_append
abbrev Cz:=@List.length_set
abbrev DA:=@PySem.F.slot_tuple_eq
abbrev DB:=@PySem.wpAny_callSpecialIfBoundUnlessNone?_slot
abbrev DC:=@PySem.isSubtype_tuple_tuple
abbrev DD:=@PySem.F.slot_dict_get
abbrev DE:=@List.take_append_drop
abbrev DF:=@List.perm_append_comm
abbrev DG:=@PySem.wpAny_field
abbrev DH:=@Nat.add_mul
abbrev DI:=@List.Perm.refl
abbrev DJ:=@Array.mem_toList_iff
abbrev DK:=PySem.W.Frag
namespace PySem
open Sem (wp)
section
variable {prog:Program}{w:World}{K:Type}[DecidableEq K](knd:KeyKind prog w K)
inductive ItemsTup (h:Heap):List (List K)->List Value->Prop
 |nil:ItemsTup h [] []
 |cons {k:List K} {b:Addr} {kss:List (List K)} {vs:List Value}:IsTupleKey knd h k b->ItemsTup h kss vs->ItemsTup h (k::kss) (.ref b::vs)
def IsPathKey (h:Heap)(kss:List (List K))(a:Addr):Prop:=∃o items n,h.get? a=some o/\o.cls=.type "tuple"/\o.data=.seq items n/\ItemsTup knd h kss items.toList
variable {knd}
theorem ItemsTup.inj {h:Heap}{x y:List (List K)}{vs:List Value}(hx:ItemsTup knd h x vs)(hy:ItemsTup knd h y vs):x=y:=by
 induction hx generalizing y with
 |nil=>(cases hy; rfl)
 |cons h1 _ ih=>cases hy with | cons h2 t2=>rw[h1.inj h2,ih t2]
theorem ItemsTup.keeps {h h':Heap}{d:Addr}{o:Obj}{es:Array DictEntry}{ep:Nat}{x:List (List K)}{vs:List Value}(hx:ItemsTup knd h x vs)(ho:h.get? d=some o)(hd:o.data=.dict es ep)(hs:Heap.SameBut d h h'):ItemsTup knd h' x vs:=by
 induction hx with
 |nil=>exact .nil
 |cons h1 _ ih=>exact .cons (h1.keeps ho hd hs) ih
theorem IsPathKey.typeIs {s:Shared}{kss:List (List K)}{a:Addr}(x:IsPathKey knd s.heap kss a):s.TypeIs (.ref a) "tuple":=by
 obtain⟨o,_,_,e,c,_⟩:=x;exact⟨o,e,c⟩
theorem IsPathKey.inj {h:Heap}{a:Addr}{x y:List (List K)}(hx:IsPathKey knd h x a)(hy:IsPathKey knd h y a):x=y:=by
 obtain⟨o,its,n,e1,_,e2,e3⟩:=hx;obtain⟨o',its',n',f1,_,f2,f3⟩:=hy;cases e1.symm.trans f1;cases e2.symm.trans f2;exact e3.inj f3
theorem IsPathKey.keeps {h h':Heap}{kss:List (List K)}{a d:Addr}{o:Obj}{es:Array DictEntry}{ep:Nat}(x:IsPathKey knd h kss a)(ho:h.get? d=some o)(hd:o.data=.dict es ep)(hs:Heap.SameBut d h h'):IsPathKey knd h' kss a:=by
 obtain⟨o',its,n,e1,e2,e3,e4⟩:=x
 have hne:a≠d:=by
  intro z;rw[z,ho] at e1;cases e1;rw[hd] at e3;cases e3
 exact⟨o',its,n,(hs.2 a hne).trans e1,e2,e3,e4.keeps ho hd hs⟩
def iX (knd:KeyKind prog w K)(kss:List (List K)):Int:=reduceHash (Builtin.Tuple.tupleHashOf (kss.map (tupleKeyHash knd)))
def vU (kss:List (List K)):Nat:=(kss.map fun k=>k.length+1).sum+1
variable {A:Around}{E:Value->Shared->Prop}{s:Shared}
theorem vW {kss:List (List K)}{a:Addr}{Q:Int->Shared->Prop}(hu:A.units+1 < cLine)(hk:IsPathKey knd s.heap kss a)(h:Q (iX knd kss) { s with toks:=s.toks+vU kss }):
  wpAny (model prog w) A (pyHash (.ref a)) Q E s:=by
 have hT:=hk.typeIs;obtain⟨o,items,n,ho,_,hd,hi⟩:=hk
 (unfold pyHash; first | unfold pyHashByItsType | skip)
 (first | refine AB (wpAny_cRoomFor_or (.inr (Nat.lt_of_succ_lt hu)) ?_) | skip)
 refine AB (BN (by exact hT) Bm.lookup (?_));show wpAny _ _ (if (some (Value.builtin "tuple.__hash__")==some Value.none)=true then (_) else _) Q E s;rw[AT (by intro z; rw[beq_builtin_none] at z; exact AL z)];refine AB (BN (by exact hT) Bm.lookup (?_));show wpAny _ _ (callSpecialIfBoundUnlessNone? (.ref a) "__hash__" (_) >>= _) Q E s
 refine AB (DB (by exact hT) Bm (Bb Bm (by exact hT) F.entry_tuple_hash (?_) (F.args_tuple_hash_1 _)));show wpAny _ _ (Builtin.Tuple.tupleItemsOf (.ref a) >>= (_)) _ _ s
 (refine AB (wpAny_tupleItemsOf ho hd (?_)); refine AB ?_; rw[<- BV])
 refine BB _ (fun rest (b:Array Int) s'=>∃done left,kss=done++left/\ItemsTup knd s.heap left rest/\b.toList=done.map (tupleKeyHash knd)/\s'={ s with toks:=s.toks+(done.map fun k=>k.length+1).sum }) _ ?_ ?_ _ _ ⟨[],kss,rfl,hi,rfl,rfl⟩
 .rintro x rest b s' ⟨done,left,rfl,hl,hb,rfl⟩
  cases hl with
  |@cons k b' ks' _ h1 hl' =>
   refine AB (wpAny_pyHash_tuple (A:=A.in1) hu h1 ?_)
   first
    |exact AE ⟨done++[k],ks',by simp,hl',by simp[hb],by simp[Nat.add_assoc]⟩
    |exact AB (AE (AE ⟨done++[k],ks',by simp,hl',by simp[hb],by simp[Nat.add_assoc]⟩))
 .rintro b s' ⟨done,left,rfl,hl,hb,rfl⟩
  cases hl;rw[AZ] at h
  (show wpAny _ _ (retInt (Builtin.Tuple.tupleHashOf b.toList)) _ _ _; rw[hb]; refine wpAny_ret_mkInt ?_)
  unfold iX reduceHash vU at h;generalize Builtin.Tuple.tupleHashOf (done.map (tupleKeyHash knd))=hh at h ⊢;show wpAny _ _ (if (decide (-(2:Int) ^ 63<=hh)&&decide (hh < 2 ^ 63))=true then _ else _) Q E _
  by_cases hr:(decide (-(2:Int) ^ 63<=hh)&&decide (hh < 2 ^ 63))=true
  ·(rw[AW hr]; rw[AW hr] at h)
   exact AE (by simpa [Nat.add_assoc] using h)
  ·(rw[AT hr]; rw[AT hr] at h)
   exact AB (wpAny_rule (AE (by simpa [Nat.add_assoc] using h)))
theorem kC {x y:List (List K)}{a b:Addr}{P:Fin->Shared->Prop}(hu:A.units < cLine)(hx:IsPathKey knd s.heap x a)(hy:IsPathKey knd s.heap y b)(h:P (.done (.ret (.bool (decide (x=y))))) s):
  wpAny (model prog w) A (Builtin.«tuple.__eq__» ⟨[.ref a,.ref b],[]⟩) P E s:=by
 have hTb:=hy.typeIs;obtain⟨oa,xs,na,hoa,_,hda,hia⟩:=hx;obtain⟨ob,ys,nb,hob,_,hdb,hib⟩:=hy
 (show wpAny _ _ (isInstance (.ref b) (.type "tuple") >>= _) _ _ s; refine AB (Ck hTb DC ?_))
 (simp only[Bool.not_true,Bool.false_eq_true,if_false]; refine AB (wpAny_tupleItemsOf hoa hda ?_); refine AB (wpAny_tupleItemsOf hob hdb ?_); refine AB ?_)
 refine BB _ (fun rest r s'=>r.1=none/\s'=s/\∃x' y' xs' ys',rest=List.zip xs' ys'/\ItemsTup knd s.heap x' xs'/\ItemsTup knd s.heap y' ys'/\decide (x'=y')=decide (x=y)/\(xs'.length==ys'.length)=(xs.size==ys.size)) _ ?_ ?_ _ _ ⟨rfl,rfl,x,y,xs.toList,ys.toList,rfl,hia,hib,rfl,by simp⟩
 .rintro ⟨u,v⟩ rest r s' ⟨hr,rfl,x',y',xs',ys',hz,hx',hy',hdec,hlen⟩
  cases hx' with
  |nil=>simp at hz
  |@cons k1 b1 x'' xs'' h1 hx'' =>
   cases hy' with
   |nil=>simp at hz
   |@cons k2 b2 y'' ys'' h2 hy'' =>
    (simp only[List.zip_cons_cons,List.cons.injEq,Prod.mk.injEq] at hz; obtain⟨⟨rfl,rfl⟩,rfl⟩:=hz)
    refine AB (wpAny_eqBool_tuple hu h1 h2 ?_)
    by_cases hk:k1=k2
    .subst hk
     (rw[Af rfl]; simp only[Bool.not_true,Bool.false_eq_true,if_false])
     refine AE ⟨rfl,rfl,x'',y'',xs'',ys'',rfl,hx'',hy'',?_,by simpa using hlen⟩;rw[<- hdec]
     (by_cases hxy:x''=y''<;>simp[hxy])
    ·(rw[AS hk]; simp only[Bool.not_false,if_true])
     have hf:decide (x=y)=false:=by (rw[<- hdec]; simp[hk])
     rw[hf] at h;exact AB (AE (AE (AE h)))
 .rintro ⟨r1,r2⟩ s' ⟨hr,rfl,x',y',xs',ys',hz,hx',hy',hdec,hlen⟩
  (simp only at hr; subst hr; refine AE ?_)
  have hfin:(xs.size==ys.size)=decide (x=y):=by
   rw[<- hdec,<- hlen]
   cases hx' with
   |nil=>(cases hy' with | nil=>simp | cons _ _=>simp)
   |cons _ _=>(cases hy' with | nil=>simp | cons _ _=>simp at hz)
  (show P (.done (.ret (.bool (xs.size==ys.size)))) s'; rw[hfin]; exact h)
theorem wW {x y:List (List K)}{a b:Addr}{Q:Bool->Shared->Prop}(hu:A.units+1 < cLine)(hx:IsPathKey knd s.heap x a)(hy:IsPathKey knd s.heap y b)(h:Q (decide (x=y)) s):
  wpAny (model prog w) A (eqBool (.ref a) (.ref b)) Q E s:=by
 (unfold eqBool; try with_reducible refine Aw ?_)
 show wpAny _ _ (if (Value.ref a==Value.ref b)=true then (_) else _) Q E s
 by_cases hab:(Value.ref a==Value.ref b)=true
 .rw [AW hab]
  have e:a=b:=by (have:=eq_of_beq hab; injection this)
  subst e;obtain rfl:=hx.inj hy;exact AB (wpAny_rule (AE (by simpa using h)))
 .rw [AT hab]
  exact AB (wpAny_richCompare_same_room (op:=.Eq) hx.typeIs hy.typeIs DA (Bb DA hx.typeIs F.entry_tuple_eq (kC (A:=A.in1) hu hx hy ⟨_,rfl,(fun e=>nomatch e),Cd h⟩) (F.args_tuple_eq_2 _ _)) (Nat.lt_of_succ_lt hu))
theorem iS (n:Nat){ks:List K}{a:Addr}{Q:Bool->Shared->Prop}(hk:IsTupleKey knd s.heap ks a)(h:Q true s):wpAny (model prog w) A (eqIsQuiet (n+1) (.ref a)) Q E s:=by
 have hT:=hk.typeIs;obtain⟨o,items,m,ho,_,hd,hi⟩:=hk
 (unfold eqIsQuiet; refine AB (BN hT DA.lookup ?_))
 (show wpAny _ _ (isInstance (.ref a) (.type "tuple") >>= _) _ _ s; refine AB (Ck hT DC ?_))
 (simp only[Bool.not_true,Bool.false_eq_true,if_false]; refine AB (Bn ho hd ?_); refine AB ?_)
 (show wpAny _ _ (forIn items _ _) _ _ s; rw[<- BV])
 refine BB _ (fun rest r s'=>r.1=none/\s'=s/\∀v∈rest,carriedByValue v=true) _ ?_ ?_ _ _ ⟨rfl,rfl,hi.byValue⟩
 .rintro v rest r s' ⟨hr,rfl,hall⟩
  (rw[eqIsQuiet_byValue _ (hall v AD)]; refine AB (AE ?_))
  (simp only[Bool.not_true,Bool.false_eq_true,if_false]; exact AE ⟨rfl,rfl,fun u hu'=>hall u (AG _ hu')⟩)
 .rintro ⟨r1,r2⟩ s' ⟨hr,rfl,_⟩
  (simp only at hr; subst hr; exact AE h)
theorem eU {kss:List (List K)}{a:Addr}{Q:Bool->Shared->Prop}(hk:IsPathKey knd s.heap kss a)(h:Q true s):wpAny (model prog w) A (eqIsQuiet 8 (.ref a)) Q E s:=by
 have hT:=hk.typeIs;obtain⟨o,items,m,ho,_,hd,hi⟩:=hk
 (unfold eqIsQuiet; refine AB (BN hT DA.lookup ?_))
 (show wpAny _ _ (isInstance (.ref a) (.type "tuple") >>= _) _ _ s; refine AB (Ck hT DC ?_))
 (simp only[Bool.not_true,Bool.false_eq_true,if_false]; refine AB (Bn ho hd ?_); refine AB ?_)
 (show wpAny _ _ (forIn items _ _) _ _ s; rw[<- BV])
 refine BB _ (fun rest r s'=>r.1=none/\s'=s/\∃x',ItemsTup knd s.heap x' rest) _ ?_ ?_ _ _ ⟨rfl,rfl,_,hi⟩
 .rintro v rest r s' ⟨hr,rfl,x',hall⟩
  cases hall with
  |cons h1 h2 =>
   refine AB (iS 6 h1 ?_)
   (simp only[Bool.not_true,Bool.false_eq_true,if_false]; exact AE ⟨rfl,rfl,_,h2⟩)
 .rintro ⟨r1,r2⟩ s' ⟨hr,rfl,_⟩
  (simp only at hr; subst hr; exact AE h)
end
def lG {prog:Program}{w:World}{K:Type}[DecidableEq K](knd:KeyKind prog w K):HeapKind prog w (List (List K)) where
 is:=IsPathKey knd
 hash:=iX knd
 draws:=vU
 room:=fun A=>A.units+1 < cLine
 inj:=fun hx hy=>hx.inj hy
 keeps:=fun x ho hd hs=>x.keeps ho hd hs
 pyHash:=fun hu hk h=>vW hu hk h
 eqBool:=fun hu hx hy h=>wW hu hx hy h
 quiet:=fun hk h=>eU hk h
theorem oZ {prog:Program}{w:World}{K:Type}[DecidableEq K]{knd:KeyKind prog w K}{A:Around}(hu:A.units+2 < cLine):(lG knd).room A.in1:=hu
end PySem
namespace L2
open PySem PySem.Spec PyProof.Rows
abbrev Key:=Sum (Option Int) Str
def QR:Value->Bool
 |.none=>true
 |_=>false
def qN:Key->Value->Bool
 |.inl (some k),v=>Value.isInt k v
 |.inl none,v=>QR v
 |.inr x,v=>Value.isStrOf x v
def keyH (w:World):Key->Int
 |.inl (some k)=>hashInt k
 |.inl none=>4238894112
 |.inr x=>hashStr w x
theorem zH {v:Value}(h:QR v=true):v=.none:=by
 cases v<;>first | rfl | cases h
theorem mZ:∀{k:Key}{v:Value},qN k v=true->(∃i t,k=Sum.inl (some i)/\v=Value.int i t)\/(∃x t,k=Sum.inr x/\v=Value.str x t)\/(k=Sum.inl none/\v=Value.none)
 |.inl (some i),v,h=>by
  obtain⟨t,e⟩:=Value.isInt_shape (k:=i) (v:=v) h;exact .inl ⟨i,t,rfl,e⟩
 |.inl none,v,h=>.inr (.inr ⟨rfl,zH h⟩)
 |.inr x,v,h=>by
  obtain⟨t,e⟩:=Value.isStrOf_shape (x:=x) (v:=v) h;exact .inr (.inl ⟨x,t,rfl,e⟩)
theorem X1 (i:Int)(t:Tok):qN (.inl (some i)) (.int i t)=true:=by simp[qN,Value.isInt]
theorem X0 (x:Str)(t:Tok):qN (.inr x) (.str x t)=true:=by simp[qN,Value.isStrOf]
theorem J4 {a b:Key}(h:a≠b):decide (a=b)=false:=AS h
theorem key_ii (a b:Int):decide ((Sum.inl (some a):Key)=Sum.inl (some b))=(a==b):=by
 by_cases e:a=b
 .subst e; simp
 .rw [J4 fun q=>e (Ar (Sum.inl.inj q))]
  exact(Ay.mpr e).symm
theorem key_ss (a b:Str):decide ((Sum.inr a:Key)=Sum.inr b)=decide (a=b):=by
 by_cases e:a=b
 .subst e; simp
 .rw [J4 fun q=>e (Sum.inr.inj q),AS e]
theorem key_is (i:Int)(y:Str):decide ((Sum.inl (some i):Key)=Sum.inr y)=false:=AS nofun
theorem key_in (i:Int):decide ((Sum.inl (some i):Key)=Sum.inl none)=false:=AS nofun
theorem key_si (x:Str)(j:Int):decide ((Sum.inr x:Key)=Sum.inl (some j))=false:=AS nofun
theorem key_sn (x:Str):decide ((Sum.inr x:Key)=Sum.inl none)=false:=AS nofun
theorem key_ni (j:Int):decide ((Sum.inl none:Key)=Sum.inl (some j))=false:=AS nofun
theorem key_ns (y:Str):decide ((Sum.inl none:Key)=Sum.inr y)=false:=AS nofun
theorem X6 {prog:Program}{w:World}{A:Around}{E:Value->Shared->Prop}{s:Shared}{Q:Int->Shared->Prop}(h:Q 4238894112 { s with toks:=s.toks+1 }):wpAny (model prog w) A (pyHash .none) Q E s:=by
 unfold pyHash;refine AB ?_;rw[cRoomFor,AT (by rw[show[Value.none].any Value.onHeap=false from rfl]; exact AL)]; refine AE ?_
 have ty:s.TypeIs .none "NoneType":=rfl;refine AB (BN ty Bo.lookup ?_);rw[AT (by rw[beq_builtin_none]; exact AL)];refine AB (BN ty Bo.lookup ?_)
 refine AB (DB ty Bo
  (Bb Bo ty PySem.F.entry_NoneType_hash
   (show wpAny _ _ (do ret (<- mkInt 4238894112)) _ _ s from wpAny_ret_mkInt ?_) (PySem.F.args_NoneType_hash_1 _)))
 show wpAny _ _ (if (decide (-(2:Int) ^ 63<=4238894112)&&decide ((4238894112:Int) < 2 ^ 63))=true then _ else _) Q E _;rw[AW (by decide)];exact AE h
theorem KD {prog:Program}{w:World}{A:Around}{E:Value->Shared->Prop}{s:Shared}{Q:Bool->Shared->Prop}(h:Q true s):wpAny (model prog w) A (eqBool .none .none) Q E s:=by
 unfold eqBool;refine Aw ?_;refine wpAny_ite_split (fun _=>?_) (fun hab=>absurd rfl hab);exact AB (wpAny_rule (AE h))
def qX (prog:Program)(w:World):PySem.KeyKind prog w Key where
 is:=qN
 hash:=keyH w
 inj:=fun v a b ha hb=>by
  rcases mZ ha with ⟨i,t,rfl,rfl⟩ | ⟨x,t,rfl,rfl⟩ | ⟨rfl,rfl⟩<;>rcases mZ hb with ⟨j,u,rfl,e⟩ | ⟨y,u,rfl,e⟩ | ⟨rfl,e⟩<;>cases e<;>rfl
 byValue:=fun k v h=>by
  rcases mZ h with ⟨i,t,rfl,rfl⟩ | ⟨x,t,rfl,rfl⟩ | ⟨rfl,rfl⟩<;>rfl
 pyHash:=fun hv h=>by
  rcases mZ hv with ⟨i,t,rfl,rfl⟩ | ⟨x,t,rfl,rfl⟩ | ⟨rfl,rfl⟩
  .exact wpAny_pyHash_int h
  .exact wpAny_pyHash_str h
  .exact X6 h
 eqBool:=fun hu hv h=>by
  rcases mZ hu with ⟨i,t,rfl,rfl⟩ | ⟨x,t,rfl,rfl⟩ | ⟨rfl,rfl⟩<;>rcases mZ hv with ⟨j,u,rfl,rfl⟩ | ⟨y,u,rfl,rfl⟩ | ⟨rfl,rfl⟩
  .rw [key_ii] at h; exact wpAny_eqBool_int h
  .rw [key_is] at h; exact SeqAt.EqAt.int_str i t y u _ _ _ _ h
  .rw [key_in] at h; exact SeqAt.EqAt.int_none i t _ _ _ _ h
  .rw [key_si] at h; exact SeqAt.EqAt.str_int x t j u _ _ _ _ h
  .rw [key_ss] at h; exact wpAny_eqBool_str h
  .rw [key_sn] at h; exact SeqAt.EqAt.str_none x t _ _ _ _ h
  .rw [key_ni] at h; exact SeqAt.EqAt.none_int j u _ _ _ _ h
  .rw [key_ns] at h; exact SeqAt.EqAt.none_str y u _ _ _ _ h
  .rw [Af (rfl:(Sum.inl none:Key)=Sum.inl none)] at h; exact KD h
 «strs»:=fun k x t v h=>by
  rcases mZ h with ⟨i,u,rfl,e⟩ | ⟨y,u,rfl,e⟩ | ⟨rfl,e⟩
  .exact nomatch e
  .injection e with e1 _
   subst e1;cases v<;>rfl
  .exact nomatch e
theorem zO (prog:Program)(w:World)(i:Int)(t:Tok):(qX prog w).is (.inl (some i)) (.int i t)=true:=X1 i t
theorem bC (prog:Program)(w:World):(qX prog w).is (.inl none) .none=true:=rfl
theorem qO (prog:Program)(w:World)(x:Str)(t:Tok):(qX prog w).is (.inr x) (.str x t)=true:=X0 x t
inductive V where
 |non | bl (b:Bool) | int (i:Int) | str (x:Str) | byt (b:Array UInt8) | flt (b:UInt64) | ref (a:Addr) | ty (n:String)
 deriving DecidableEq
def RelV:V->Value->Prop
 |.non,u=>u=Value.none
 |.bl b,u=>u=Value.bool b
 |.int i,u=>∃t,u=Value.int i t
 |.str x,u=>∃t,u=Value.str x t
 |.byt b,u=>∃t,u=Value.bytes b t
 |.flt b,u=>∃t,u=Value.float b t
 |.ref a,u=>u=Value.ref a
 |.ty n,u=>u=Value.type n
abbrev Vals:List V->List Value->Prop:=Paired RelV
theorem Vals.length {xs:List V}{us:List Value}(r:Vals xs us):xs.length=us.length:=Paired.length r
theorem Vals.get:∀{xs:List V}{us:List Value}{i:Nat}{x:V},Vals xs us->xs[i]?=some x->∃u,us[i]?=some u/\RelV x u
 |_,_,_,_,.nil,e=>by simp at e
 |_,_,0,_,.cons r _,e=>by simp at e; subst e; exact⟨_,rfl,r⟩
 |_,_,i+1,x,.cons _ t,e=>by
  obtain⟨u,h1,h2⟩:=Vals.get (i:=i) (x:=x) t (by simpa using e);exact⟨u,by simpa using h1,h2⟩
theorem Vals.set {x:V}{u:Value}(r:RelV x u):∀{xs:List V}{us:List Value}(i:Nat),Vals xs us->Vals (xs.set i x) (us.set i u)
 |_,_,_,.nil=>.nil
 |_,_,0,.cons _ t=>.cons r t
 |_,_,i+1,.cons q t=>.cons q (Vals.set r i t)
theorem Vals.append:∀{xs ys:List V}{us ws:List Value},Vals xs us->Vals ys ws->Vals (xs++ys) (us++ws)
 |_,_,_,_,.nil,s=>s
 |_,_,_,_,.cons r t,s=>.cons r (Vals.append t s)
theorem Vals.take:∀{xs:List V}{us:List Value}(n:Nat),Vals xs us->Vals (xs.take n) (us.take n)
 |_,_,0,_=>.nil
 |_,_,_+1,.nil=>.nil
 |_,_,n+1,.cons r t=>.cons r (Vals.take n t)
theorem Vals.drop:∀{xs:List V}{us:List Value}(n:Nat),Vals xs us->Vals (xs.drop n) (us.drop n)
 |_,_,0,r=>r
 |_,_,_+1,.nil=>.nil
 |_,_,n+1,.cons _ t=>Vals.drop n t
def RelO:Option V->Option Value->Prop
 |some v,some u=>RelV v u
 |none,none=>True
 |_,_=>False
def KV {κ:Type}:List (κ×V)->List (κ×Value)->Prop:=Paired fun(p:κ×V) (q:κ×Value)=>p.1=q.1/\RelV p.2 q.2
def kV:Key->V
 |.inl none=>.non
 |.inl (some i)=>.int i
 |.inr x=>.str x
inductive HO where
 |lst (xs:List V)
 |tup (xs:List V)
 |dK (kvs:List (Key×V)) | dT (kvs:List (List Key×V)) | dP (kvs:List (List (List Key)×V))
 |set (S:Int->Bool) (n:Nat)
 |ins (C dx:Addr) (fs:List (Str×V))
 |own (x:Addr)
 |xd (fs:List (Str×V))
 |met (f x:Addr)
 |rng (lo hi:Int)
 |frz (o:Obj) (u:HO)
 |tbl (ps:Array Value)
 |ext (φ:Heap->Prop)
abbrev Hp:=Addr->Option HO
def upd (H:Hp)(a:Addr)(o:HO):Hp:=fun b=>if b=a then some o else H b
theorem dQ {H:Hp}{a:Addr}{o:HO}:upd H a o a=some o:=by unfold upd; rw[AW rfl]
theorem nQ {H:Hp}{a b:Addr}{o:HO}(h:b≠a):upd H a o b=H b:=by unfold upd; rw[AT h]
theorem ne_of {H:Hp}{a b:Addr}{o u:HO}(h:H a=some o)(h':H b=some u)(d:o≠u):a≠b:=by
 intro e; subst e; rw[h] at h'; exact d (Ar h')
theorem qJ {H:Hp}{a b:Addr}{o:HO}(h:H a=some o)(h':H b=none):a≠b:=by
 intro e; subst e; rw[h] at h'; cases h'
def IsTupN (h:Heap)(a:Addr)(items:Array Value):Prop:=∃o,h.get? a=some o/\o.cls=.type "tuple"/\(∃n,o.data=.seq items n)/\o.dict=none
theorem IsTupN.is {h:Heap}{a:Addr}{items:Array Value}(x:IsTupN h a items):IsTup h a items:=let ⟨o,e,c,d,_⟩:=x; ⟨o,e,c,d⟩
theorem IsTupN.new (h:Heap)(items:Array Value):IsTupN (h.push { cls:=.type "tuple",data:=.seq items }) h.objs.size items:=⟨_,Aa _ rfl,rfl,⟨_,rfl⟩,rfl⟩
def PKey (H:Hp)(kss:List (List Key))(b:Addr):Prop:=∃bs:List Addr,H b=some (.tup (bs.map V.ref))/\Paired (fun(ks:List Key) (c:Addr)=>H c=some (.tup (ks.map kV))) kss bs
section
variable (P:Program)(w:World)
def ObjOk (H:Hp)(h:Heap)(a:Addr):HO->Prop
 |.lst xs=>xs.length<=sizeLine/\∃(its:List Value) (n:Nat),Vals xs its/\h.get? a=some { cls:=.type "list",data:=.seq its.toArray n }
 |.tup xs=>xs.length<=sizeLine/\∃its:List Value,Vals xs its/\IsTupN h a its.toArray
 |.dK kvs=>kvs.length<=sizeLine/\(a==sysModules)=false/\∃vs,KV kvs vs/\h.DictOf (qX P w) a vs
 |.dT kvs=>kvs.length<=sizeLine/\(a==sysModules)=false/\∃xs:List (List Key×Addr×Value),
   Paired (fun(p:List Key×V) (q:List Key×Addr×Value)=>p.1=q.1/\H q.2.1=some (.tup (p.1.map kV))/\RelV p.2 q.2.2) kvs xs /\
   ∃o es ep,h.get? a=some o/\o.ExactDict/\o.data=.dict es ep/\es.toList=xs.map (entryOfKey (tupleKind (qX P w)))/\(xs.map (·.1)).Nodup
 |.dP kvs=>kvs.length<=sizeLine/\(a==sysModules)=false/\∃xs:List (List (List Key)×Addr×Value),
   Paired (fun(p:List (List Key)×V) (q:List (List Key)×Addr×Value)=>p.1=q.1/\PKey H p.1 q.2.1/\RelV p.2 q.2.2) kvs xs /\
   ∃o es ep,h.get? a=some o/\o.ExactDict/\o.data=.dict es ep/\es.toList=xs.map (entryOfKey (lG (qX P w)))/\(xs.map (·.1)).Nodup
 |.set S n=>h.SetOf (intKind P w) a S n
 |.ins C dx fs=>H dx=some (.own a)/\fs.length<=1000/\dx≠a/\h.get? a=some (PySem.W.instObj C dx) /\
   ∃mA,h.Ns1 dx mA/\(∀f,RelO (fs.lookup f) (mA f))/\PySem.Within mA (fs.map (·.1))
 |.own _=>∃o,h.get? a=some o
 |.xd fs=>∃mA,h.Ns1 a mA/\∀f,RelO (fs.lookup f) (mA f)
 |.rng lo hi=>∃t u v,h.get? a=some { cls:=.type "range",data:=.fields #[.int lo t,.int hi u,.int 1 v] }
 |.frz o u=>h.get? a=some o/\ObjOk H h a u
 |.tbl ps=>h.get? a=some { cls:=.none,data:=.fields ps }
 |.met f x=>h.get? a=some (PySem.W.methodObj (.ref f) (.ref x))
 |.ext φ=>φ h/\(∃o,h.get? a=some o)/\∀h1 h2:Heap,φ h1->(∀o,h1.get? a=some o->h2.get? a=some o)->φ h2
def HOk (H:Hp)(h:Heap):Prop:=∀a o,H a=some o->ObjOk P w H h a o
end
section
variable {P:Program}{w:World}{H H':Hp}{h h':Heap}{a:Addr}{o:HO}
theorem ObjOk.lt (x:ObjOk P w H h a o):a < h.objs.size:=by
 cases o with
 |lst xs=>obtain⟨_,_,_,_,e⟩:=x; exact AN e
 |tup xs=>obtain⟨_,_,_,o,e,_⟩:=x; exact AN e
 |dK kvs=>obtain⟨_,_,_,_,o,_,_,e,_⟩:=x; exact AN e
 |dT kvs=>obtain⟨_,_,_,_,o,_,_,e,_⟩:=x; exact AN e
 |dP kvs=>obtain⟨_,_,_,_,o,_,_,e,_⟩:=x; exact AN e
 |set S n=>obtain⟨o,_,_,_,e,_⟩:=x; exact AN e
 |ins C dx fs=>obtain⟨_,_,_,e,_⟩:=x; exact AN e
 |own y=>obtain⟨_,e⟩:=x; exact AN e
 |xd fs=>obtain⟨_,⟨_,_,_,e,_⟩,_⟩:=x; exact AN e
 |rng lo hi=>obtain⟨_,_,_,e⟩:=x; exact AN e
 |frz ob u=>obtain⟨e,_⟩:=x; exact AN e
 |tbl ps=>exact AN (show h.get? a=some _ from x)
 |met f y=>exact AN (show h.get? a=some _ from x)
 |ext φ=>obtain⟨_,⟨_,e⟩,_⟩:=x; exact AN e
theorem Paired.mapP {α β:Type}{F G:α->β->Prop}:∀{l₁:List α}{l₂:List β},Paired F l₁ l₂->(∀a b,F a b->G a b)->Paired G l₁ l₂
 |_,_,.nil,_=>.nil
 |_,_,.cons r t,f=>.cons (f _ _ r) (Paired.mapP t f)
theorem PKey.mono {kss:List (List Key)}{b:Addr}(x:PKey H kss b)(ht:∀b xs,H b=some (.tup xs)->H' b=some (.tup xs)):PKey H' kss b :=
 let ⟨bs,e,r⟩:=x; ⟨bs,ht _ _ e,Paired.mapP r fun _ _ z=>ht _ _ z⟩
theorem ObjOk.stay (x:ObjOk P w H h a o)(k:∀b u,(b=a\/H b=some (.own a))->h.get? b=some u->h'.get? b=some u)
  (ho:∀b,H b=some (.own a)->H' b=some (.own a)) (ht:∀b xs,H b=some (.tup xs)->H' b=some (.tup xs)):ObjOk P w H' h' a o:=by
 induction o with
 |lst xs=>obtain⟨z,its,n,r,e⟩:=x; exact⟨z,its,n,r,k _ _ (.inl rfl) e⟩
 |tup xs=>obtain⟨z,its,r,ob,e,c⟩:=x; exact⟨z,its,r,ob,k _ _ (.inl rfl) e,c⟩
 |dK kvs=>obtain⟨z,y,vs,r,ob,es,ep,e,c⟩:=x; exact⟨z,y,vs,r,ob,es,ep,k _ _ (.inl rfl) e,c⟩
 |dT kvs =>
  obtain⟨z,y,xs,r,ob,es,ep,e,c⟩:=x;exact⟨z,y,xs,Paired.mapP r fun p q z=>⟨z.1,ht _ _ z.2.1,z.2.2⟩,ob,es,ep,k _ _ (.inl rfl) e,c⟩
 |dP kvs =>
  obtain⟨z,y,xs,r,ob,es,ep,e,c⟩:=x;exact⟨z,y,xs,Paired.mapP r fun p q z=>⟨z.1,z.2.1.mono ht,z.2.2⟩,ob,es,ep,k _ _ (.inl rfl) e,c⟩
 |set S n=>obtain⟨ob,es,ep,t,e,c⟩:=x; exact⟨ob,es,ep,t,k _ _ (.inl rfl) e,c⟩
 |ins C dx fs =>
  obtain⟨d,z,ne,e,mA,⟨od,es,ep,e2,c⟩,r⟩:=x;exact⟨ho _ d,z,ne,k _ _ (.inl rfl) e,mA,⟨od,es,ep,k _ _ (.inr d) e2,c⟩,r⟩
 |own y=>obtain⟨ob,e⟩:=x; exact⟨ob,k _ _ (.inl rfl) e⟩
 |xd fs=>obtain⟨mA,⟨od,es,ep,e,c⟩,r⟩:=x; exact⟨mA,⟨od,es,ep,k _ _ (.inl rfl) e,c⟩,r⟩
 |rng lo hi=>obtain⟨t,u,v,e⟩:=x; exact⟨t,u,v,k _ _ (.inl rfl) e⟩
 |frz ob u ih=>obtain⟨e,q⟩:=x; exact⟨k _ _ (.inl rfl) e,ih q⟩
 |tbl ps =>
  have e:h.get? a=some { cls:=.none,data:=.fields ps }:=x;show h'.get? a=some { cls:=.none,data:=.fields ps };exact k a _ (.inl rfl) e
 |met f y =>
  have e:h.get? a=some (PySem.W.methodObj (.ref f) (.ref y)):=x;show h'.get? a=some (PySem.W.methodObj (.ref f) (.ref y));exact k a _ (.inl rfl) e
 |ext φ=>obtain⟨p,⟨o,e⟩,st⟩:=x; exact⟨st _ _ p fun o q=>k _ _ (.inl rfl) q,⟨o,k _ _ (.inl rfl) e⟩,st⟩
theorem HOk.lt (x:HOk P w H h)(e:H a=some o):a < h.objs.size:=(x a o e).lt
theorem HOk.fresh (x:HOk P w H h)(e:h.objs.size<=a):H a=none:=by
 cases q:H a with
 |none=>rfl
 |some u=>exact absurd (AR (x.lt q) e) (BJ _)
theorem HOk.kept (x:HOk P w H h)(k:∀b u,h.get? b=some u->h'.get? b=some u):HOk P w H h':=fun a o e =>
 (x a o e).stay (fun b u _ q=>k b u q) (fun _ q=>q) fun _ _ q=>q
theorem HOk.laid (x:HOk P w H h)(k:∀b u,h.get? b=some u->h'.get? b=some u)(hp:h.objs.size<=a)(new:ObjOk P w (upd H a o) h' a o):HOk P w (upd H a o) h':=fun b u e=>by
 have hn:=x.fresh hp
 by_cases hb:b=a
 .subst hb; rw[dQ] at e; cases e; exact new
 .rw [nQ hb] at e
  exact(x b u e).stay (fun c v _ q=>k c v q) (fun c q=>by rw[nQ (qJ q hn)]; exact q) fun c xs q=>by rw[nQ (qJ q hn)]; exact q
end
def Rd (H:Hp)(a:Addr)(u:HO):Prop:=H a=some u\/∃o,H a=some (.frz o u)
theorem Rd.ok {P:Program}{w:World}{H:Hp}{h:Heap}{a:Addr}{u:HO}(r:Rd H a u)(x:HOk P w H h):ObjOk P w H h a u:=by
 rcases r with r | ⟨o,r⟩
 .exact x a u r
 .obtain ⟨_,q⟩:=x a _ r
  exact q
def Mut:Option HO->Prop
 |some (.lst _)=>True
 |some (.dK _)=>True
 |some (.dT _)=>True
 |some (.dP _)=>True
 |some (.set _ _)=>True
 |some (.ins _ _ _)=>True
 |some (.ext _)=>True
 |_=>False
section
variable {P:Program}{w:World}{H:Hp}{h h':Heap}{x e:Addr}{o':HO}
theorem HOk.write (ok:HOk P w H h)(mu:Mut (H x))(he:e=x\/H e=some (.own x))(k:∀b u,b≠e->h.get? b=some u->h'.get? b=some u)(heo:∃u,h'.get? e=some u)
  (new:ObjOk P w (upd H x o') h' x o'):HOk P w (upd H x o') h':=fun b u q=>by
 have nown:∀c y,H c=some (.own y)->c≠x:=fun c y r z=>by subst z; rw[r] at mu; exact mu
 have ntup:∀c xs,H c=some (.tup xs)->c≠x:=fun c xs r z=>by subst z; rw[r] at mu; exact mu
 by_cases hb:b=x
 .subst hb; rw[dQ] at q; cases q; exact new
 .rw [nQ hb] at q
  by_cases hbe:b=e
  .have q':H b=some (.own x):=by
    rcases he with z | z
    .exact absurd (hbe.trans z) hb
    .rw [hbe]; exact z
   rw[q] at q'; cases q'
   obtain⟨v,hv⟩:=heo;exact⟨v,by rw[hbe]; exact hv⟩
  .refine (ok b u q).stay (fun c v hc r=>k c v ?_ r) (fun c r=>by rw[nQ (nown c b r)]; exact r) fun c xs r=>by rw[nQ (ntup c xs r)]; exact r
   rcases hc with rfl | hc
   .exact hbe
   .rintro rfl
    rcases he with z | z
    .exact nown c b hc z
    .rw [hc] at z; cases z; exact hb rfl
end
structure Un (fs ex:List Addr)(H H':Hp)(h h':Heap):Prop where
 keep:∀b o,h.get? b=some o->H b=none->b∉fs->b∉ex->h'.get? b=some o
 slot:∀b o,h.get? b=some o->H b=none->b∈fs->b∉ex->∃sl,h'.get? b=some { o with slots:=sl }
 free:∀b o,h.get? b=some o->H b=none->b∉ex->H' b=none
 there:∀b o,h.get? b=some o->b∉ex->∃o',h'.get? b=some o'
 tups:∀b xs,H b=some (.tup xs)->H' b=some (.tup xs)
 frzs:∀b o u,H b=some (.frz o u)->H' b=some (.frz o u)
 tbls:∀b ps,H b=some (.tbl ps)->∃more,H' b=some (.tbl (ps++more))
section
variable {fs fs' ex ex':List Addr}{H H1 H2:Hp}{h h1 h2 h':Heap}{a x e:Addr}{o:HO}
theorem Un.any (u:Un fs ex H H1 h h1){b:Addr}{ob:Obj}(q:h.get? b=some ob)(n:H b=none)(hx:b∉ex):∃sl,h1.get? b=some { ob with slots:=sl }:=by
 by_cases hb:b∈fs
 .exact u.slot b ob q n hb hx
 .exact ⟨ob.slots,u.keep b ob q n hb hx⟩
theorem Un.kept (k:∀b u,h.get? b=some u->h'.get? b=some u):Un fs ex H H h h' :=
 ⟨fun b ob q _ _ _=>k b ob q,fun b ob q _ _ _=>⟨ob.slots,k b ob q⟩,fun _ _ _ n _=>n,fun b ob q _=>⟨ob,k b ob q⟩,fun _ _ q=>q,fun _ _ _ q=>q,fun _ ps q=>⟨#[],by rw[q]; simp⟩⟩
theorem Un.refl:Un fs ex H H h h:=Un.kept fun _ _ q=>q
theorem Un.laid (k:∀b u,h.get? b=some u->h'.get? b=some u)(hp:h.objs.size<=a)(hn:H a=none):Un fs ex H (upd H a o) h h' where
 keep:=fun b u q _ _ _=>k b u q
 slot:=fun b u q _ _ _=>⟨u.slots,k b u q⟩
 free:=fun b u q n _=>by rw[nQ (Ag (AR (AN q) hp))]; exact n
 there:=fun b u q _=>⟨u,k b u q⟩
 tups:=fun b xs q=>by rw[nQ (qJ q hn)]; exact q
 frzs:=fun b u xs q=>by rw[nQ (qJ q hn)]; exact q
 tbls:=fun b ps q=>⟨#[],by rw[nQ (qJ q hn),q]; simp⟩
theorem Un.write (mu:Mut (H x))(he:e=x\/H e=some (.own x))(k:∀b u,b≠e->h.get? b=some u->h'.get? b=some u)(heo:∃u,h'.get? e=some u):Un fs ex H (upd H x o) h h':=by
 have hx:∀b,H b=none->b≠x:=fun b n z=>by subst z; rw[n] at mu; exact mu
 have hb:∀b,H b=none->b≠e:=fun b n z=>by
  subst z
  rcases he with r | r
  .exact hx b n r
  .rw [n] at r; cases r
 have hm:∀b u,H b=some u->¬ Mut (some u)->b≠x:=fun b u q nm z=>by subst z; rw[q] at mu; exact nm mu
 refine⟨fun b u q n _ _=>k b u (hb b n) q,fun b u q n _ _=>⟨u.slots,k b u (hb b n) q⟩,fun b u q n _=>by rw[nQ (hx b n)]; exact n,fun b u q _=>?_,
  fun b xs q=>by rw[nQ (hm b _ q fun z=>z)]; exact q,fun b u xs q=>by rw[nQ (hm b _ q fun z=>z)]; exact q,fun b ps q=>⟨#[],by rw[nQ (hm b _ q fun z=>z),q]; simp⟩⟩
 by_cases hbe:b=e
 .subst hbe; exact heo
 .exact ⟨u,k b u hbe q⟩
end
def trk (h:Heap)(H:Hp):List Addr:=(List.range h.objs.size).filter fun a=>(H a).isSome
def eC (h:Heap)(H:Hp):Heap:=PySem.W.hideAll h (trk h H)
theorem X4 (h:Heap)(H:Hp):(eC h H).objs.size=h.objs.size:=PySem.W.hideAll_size _ _
theorem Kn {h:Heap}{H:Hp}{b:Addr}{o:Obj}(e:h.get? b=some o)(n:H b=none):(eC h H).get? b=some o :=
 PySem.W.hideAll_get _ e fun hm=>by
  have q:(H b).isSome=true:=(List.mem_filter.mp hm).2;rw[n] at q; simp at q
theorem of_hidT {h:Heap}{H:Hp}{b:Addr}{o:Obj}(e:(eC h H).get? b=some o):h.get? b=some o/\H b=none:=by
 have e':h.get? b=some o:=PySem.W.of_hideAll (trk h H) e;refine⟨e',?_⟩
 cases q:H b with
 |none=>rfl
 |some x =>
  have hm:b∈trk h H:=List.mem_filter.mpr ⟨Az.mpr (AN e'),by simp[q]⟩;have z:(eC h H).get? b=none:=PySem.W.hideAll_none (trk h H) hm;rw[z] at e; cases e
noncomputable def allNews (g h:Heap)(L:Addr):List (Addr×Obj):=(List.range h.objs.size).filterMap fun a=>if a=L\/(g.get? a).isSome=true then none else (h.get? a).map fun o=>(a,o)
def rest (g h:Heap)(L d:Addr):List (Addr×Obj):=(allNews g h L).filter fun p=>decide (p.1≠d)
structure Mod (K:DK)(mg:Str->Option Value)(base:Heap):Prop where
 kin:K.In base
 glob:base.Ns mainGlobals mg
 blt:∃mb,base.Ns builtinsNs mb/\∀x:Str,x ≠ "__name__"->mb x=bootBuiltins x
 nolimit:base.NoLimit
structure Cx where
 prog:Program
 w:World
 K:DK
 mg:Str->Option Value
 base:Heap
 A:Around
 N:List Str
 s₀:Shared
 H₀:Hp
 env:Env
 outer:List Env
 stack:List Env
 ex:List Addr
 fn:Str->Bool
 calm:Bool
 pn:List (Addr×Obj)
 xe:Value->Shared->Prop
def frs (l:List Env):List Addr:=l.filterMap (·.frame)
abbrev Cx.fs (X:Cx):List Addr:=frs X.outer
def Vis (sc:Scope)(x:Str):Prop:=sc.names.lookup x=some .local\/sc.names.lookup x=some .cell\/sc.names.lookup x=some .free
def Loc (sc:Scope)(x:Str):Prop:=sc.names.lookup x=some .local\/sc.names.lookup x=some .cell
def Look (env:Env)(h:Heap)(m:Str->Option Value)(x:Str)(u:Value):Prop :=
 (env.kindOf x=some .local/\m x=some u)\/((env.kindOf x=some .cell\/env.kindOf x=some .free)/\∃c,env.cells.lookup x=some c/\h.IsCell c (some u))
structure Cx.Ok (X:Cx):Prop where
 mod:Mod X.K X.mg X.base
 kind:X.env.scope.kind=.function
 glob:X.env.globals=mainGlobals
 blt:X.env.builtins=builtinsNs
 above:X.s₀.heap.objs.size<=X.env.locals
 inj:∀x y c,X.env.cells.lookup x=some c->X.env.cells.lookup y=some c->x=y
 has:∀x,(X.env.kindOf x=some .cell\/X.env.kindOf x=some .free)->∃c,X.env.cells.lookup x=some c
 cab:∀x c,X.fn x=true->X.env.cells.lookup x=some c->X.s₀.heap.objs.size<=c
 hd:X.calm=true->X.A.handled=none
 frames:X.A.frames=some X.stack
 stk:X.stack=X.outer\/(X.stack=X.env::X.outer/\X.env.frame=some X.env.locals)
 exf:∀b∈X.ex,b≠X.env.locals/\∀x c,X.env.cells.lookup x=some c->c≠b
 bs:∀b o,X.base.get? b=some o->X.s₀.heap.get? b=some o/\X.H₀ b=none
 bsz:X.base.objs.size<=X.s₀.heap.objs.size
 noex:∀b o,X.base.get? b=some o->b∉X.ex
 exfs:∀b∈X.ex,b∉X.fs
 funs:X.s₀.heap.FunFrames X.base X.outer
 frf:∀b∈X.fs,X.H₀ b=none
structure Inv (X:Cx)(pins:List (Addr×Obj))(σ:List (Option V))(H:Hp)(s:Shared):Prop where
 ok:X.Ok
 os:s.os=X.s₀.os
 bare:AllBare s.gens
 base:Un X.fs X.ex X.H₀ H X.s₀.heap s.heap
 loc:∃m,s.heap.Ns X.env.locals m/\∀(i:Nat) (x:Str) (v:V),X.N[i]?=some x->σ[i]?=some (some v)->Vis X.env.scope x->∃u,RelV v u/\Look X.env s.heap m x u
 cell:∀x c,X.env.cells.lookup x=some c->∃v,s.heap.IsCell c v
 free:H X.env.locals=none
 freeC:∀x c,X.env.cells.lookup x=some c->H c=none
 pin:∀p∈X.pn++pins,s.heap.get? p.1=some p.2/\H p.1=none/\p.1≠X.env.locals/\p.1∉X.fs/\∀v,p.2.data≠.cell v
 hok:HOk X.prog X.w H s.heap
 len:σ.length=X.N.length
section
variable {X:Cx}{pins:List (Addr×Obj)}{σ:List (Option V)}{H H':Hp}{s:Shared}{h':Heap}
theorem Cx.Ok.nofr (ok:X.Ok){b:Addr}{o:Obj}(e:X.base.get? b=some o):b∉X.fs:=fun hb=>by
 have:=(ok.funs.mem hb).1;rw[e] at this; cases this
theorem Inv.bs (I:Inv X pins σ H s):∀b o,X.base.get? b=some o->s.heap.get? b=some o/\H b=none:=fun b o e =>
 ⟨I.base.keep b o (I.ok.bs b o e).1 (I.ok.bs b o e).2 (I.ok.nofr e) (I.ok.noex b o e),I.base.free b o (I.ok.bs b o e).1 (I.ok.bs b o e).2 (I.ok.noex b o e)⟩
theorem Inv.bk (I:Inv X pins σ H s):∀b o,X.base.get? b=some o->s.heap.get? b=some o:=fun b o e=>(I.bs b o e).1
theorem Inv.mod (I:Inv X pins σ H s):Mod X.K X.mg X.base:=I.ok.mod
theorem Inv.kIn (I:Inv X pins σ H s):X.K.In s.heap:=I.ok.mod.kin.keeps I.bk
theorem Inv.fr (I:Inv X pins σ H s):∃m,Fr X.base X.env.locals s.heap m :=
 let ⟨m,hn,_⟩:=I.loc
 ⟨m,hn,I.bk,Ae I.ok.bsz I.ok.above⟩
theorem Inv.lt (I:Inv X pins σ H s):X.env.locals < s.heap.objs.size:=let ⟨_,hn,_⟩:=I.loc; hn.lt
theorem Inv.sz (I:Inv X pins σ H s):X.s₀.heap.objs.size<=s.heap.objs.size:=Ae I.ok.above (Ct I.lt)
theorem Inv.nofs (I:Inv X pins σ H s){a:Addr}(h:s.heap.objs.size<=a):a∉X.fs:=fun hb=>by
 obtain⟨_,o,ho,_⟩:=I.ok.funs.mem hb;exact absurd (AR (AN ho) (Ae I.sz h)) (BJ _)
theorem Inv.cne (I:Inv X pins σ H s):∀x c,X.env.cells.lookup x=some c->c≠X.env.locals:=fun x c e z=>by
 obtain⟨v,o,ho,hd⟩:=I.cell x c e;obtain⟨m,⟨o',es,ep,ho',hd',_⟩,_⟩:=I.loc;rw[z,ho'] at ho; cases ho; rw[hd'] at hd; cases hd
theorem Inv.funs (I:Inv X pins σ H s):s.heap.FunFrames X.base X.outer:=by
 have all:∀(l:List Env),(∀b∈frs l,b∈X.fs)->X.s₀.heap.FunFrames X.base l->s.heap.FunFrames X.base l:=by
  intro l
  induction l with
  |nil=>intro _ _; trivial
  |cons env r ih =>
   intro hs hl;obtain⟨hk,⟨L,o,hf,hn,ho,hd⟩,hr⟩:=hl;have hL:L∈X.fs:=hs L (by unfold frs; rw[A7,hf]; exact AD);obtain⟨sl,e⟩:=I.base.slot L o ho (I.ok.frf L hL) hL fun z=>I.ok.exfs L z hL;exact⟨hk,⟨L,_,hf,hn,e,hd⟩,ih (fun b hb=>hs b (by unfold frs; rw[A7,hf]; exact AG _ hb)) hr⟩
 exact all X.outer (fun _ hb=>hb) I.ok.funs
theorem Inv.stack (I:Inv X pins σ H s):s.heap.FunFrames X.base X.stack:=by
 rcases I.ok.stk with e | ⟨e,hf⟩
 .rw [e]; exact I.funs
 .rw [e]
  obtain⟨m,hn,_⟩:=I.loc;refine .cons (by rw[I.ok.kind]; decide) hf hn ?_ I.funs;exact Heap.get?_none_of_le (Ae I.ok.bsz I.ok.above)
theorem Inv.stkSub (I:Inv X pins σ H s):∀b∈frs X.stack,b∈X.env.locals::X.fs:=fun b hb=>by
 rcases I.ok.stk with e | ⟨e,hf⟩
 .rw [e] at hb; exact AG _ hb
 .rw [e] at hb
  unfold frs at hb;rw[A7,hf] at hb;exact hb
theorem Inv.stkFree (I:Inv X pins σ H s):∀b∈frs X.stack,H b=none:=fun b hb=>by
 rcases Ah.mp (I.stkSub b hb) with e | hb
 .rw [e]; exact I.free
 .obtain ⟨_,o,ho,_⟩:=I.ok.funs.mem hb
  exact I.base.free b o ho (I.ok.frf b hb) fun z=>I.ok.exfs b z hb
theorem Inv.step {g':Array GenState}{t':Nat}{d':Drawn}{ch:List Addr}(I:Inv X pins σ H s)
  (hch:∀b∈ch,(b∈X.ex\/X.s₀.heap.objs.size<=b)/\b≠X.env.locals/\(∀x c,X.env.cells.lookup x=some c->c≠b)/\∀p∈X.pn++pins,p.1≠b)
  (keep:∀b o,b≠X.env.locals->b∉X.fs->b∉ch->s.heap.get? b=some o->H b=none->h'.get? b=some o)
  (slot:∀b o,b≠X.env.locals->b∈X.fs->b∉ch->s.heap.get? b=some o->H b=none->∃sl,h'.get? b=some { o with slots:=sl }) (free:∀b o,b∉ch->s.heap.get? b=some o->H b=none->H' b=none)
  (there:∀b o,b∉ch->s.heap.get? b=some o->∃o',h'.get? b=some o')
  (tups:∀b xs,H b=some (.tup xs)->H' b=some (.tup xs)) (frzs:∀b o u,H b=some (.frz o u)->H' b=some (.frz o u)) (tbls:∀b ps,H b=some (.tbl ps)->∃more,H' b=some (.tbl (ps++more)))
  (ns:∀m,s.heap.Ns X.env.locals m->h'.Ns X.env.locals m) (hok:HOk X.prog X.w H' h') (hg:AllBare g') :
  Inv X pins σ H' { s with heap:=h',gens:=g',drawn:=d',toks:=t' }:=by
 have neL:∀b o,X.s₀.heap.get? b=some o->b≠X.env.locals:=fun b o e=>Ag (AR (AN e) I.ok.above)
 have neC:∀b o,X.s₀.heap.get? b=some o->b∉X.ex->b∉ch:=fun b o e hx hb=>by
  rcases(hch b hb).1 with z | z
  .exact hx z
  .exact absurd (AR (AN e) z) (BJ _)
 have cellK:∀x c,X.env.cells.lookup x=some c->∀v,s.heap.IsCell c v->h'.IsCell c v:=fun x c e v ⟨o,ho,hd⟩=>by
  have nch:c∉ch:=fun z=>(hch c z).2.2.1 x c e rfl
  by_cases hc:c∈X.fs
  .obtain ⟨sl,q⟩:=slot c o (I.cne x c e) hc nch ho (I.freeC x c e)
   exact⟨_,q,hd⟩
  .exact ⟨o,keep c o (I.cne x c e) hc nch ho (I.freeC x c e),hd⟩
 refine⟨I.ok,I.os,hg,⟨fun b o e n hb hx=>?_,fun b o e n hb hx=>?_,fun b o e n hx=>?_,fun b o e hx=>?_,fun b xs e=>tups b xs (I.base.tups b xs e),fun b o xs e=>frzs b o xs (I.base.frzs b o xs e),fun b ps e=>?_⟩,?_,fun x c e=>?_,?_,fun x c e=>?_,fun p hp=>?_,hok,I.len⟩
 .exact keep b o (neL b o e) hb (neC b o e hx) (I.base.keep b o e n hb hx) (I.base.free b o e n hx)
 .obtain ⟨sl,e1⟩:=I.base.slot b o e n hb hx
  obtain⟨sl',e2⟩:=slot b _ (neL b o e) hb (neC b o e hx) e1 (I.base.free b o e n hx);exact⟨sl',e2⟩
 .obtain ⟨o',e1⟩:=I.base.there b o e hx
  exact free b o' (neC b o e hx) e1 (I.base.free b o e n hx)
 .obtain ⟨o',e1⟩:=I.base.there b o e hx
  exact there b o' (neC b o e hx) e1
 .obtain ⟨m1,e1⟩:=I.base.tbls b ps e
  obtain⟨m2,e2⟩:=tbls b _ e1;exact⟨m1++m2,by rw[e2,Array.append_assoc]⟩
 .obtain ⟨m,hn,hl⟩:=I.loc
  refine⟨m,ns m hn,fun i x v e1 e2 e3=>?_⟩;obtain⟨u,r,l⟩:=hl i x v e1 e2 e3;refine⟨u,r,?_⟩
  rcases l with l | ⟨k,c,e,z⟩
  .exact .inl l
  .exact .inr ⟨k,c,e,cellK x c e _ z⟩
 .obtain ⟨v,z⟩:=I.cell x c e
  exact⟨v,cellK x c e v z⟩
 .obtain ⟨m,⟨o,_,_,ho,_⟩,_⟩:=I.loc
  exact free _ o (fun z=>(hch _ z).2.1 rfl) ho I.free
 .obtain ⟨v,o,ho,hd⟩:=I.cell x c e
  exact free c o (fun z=>(hch c z).2.2.1 x c e rfl) ho (I.freeC x c e)
 .obtain ⟨e,n,ne,nf,d⟩:=I.pin p hp
  have nch:p.1∉ch:=fun z=>(hch p.1 z).2.2.2 p hp rfl;exact⟨keep p.1 p.2 ne nf nch e n,free p.1 p.2 nch e n,ne,nf,d⟩
theorem Inv.un {t':Nat}(I:Inv X pins σ H s)(u:Un X.fs [] H H' s.heap h')(hok:HOk X.prog X.w H' h'):Inv X pins σ H' { s with heap:=h',toks:=t' }:=by
 obtain⟨m,⟨o,es,ep,ho,r⟩,_⟩:=id I.loc;obtain⟨sl,hL⟩:=u.any ho I.free (by simp)
 exact I.step (g':=s.gens) (d':=s.drawn) (ch:=[]) (fun _ z=>nomatch z) (fun b o _ hb _ e n=>u.keep b o e n hb (by simp)) (fun b o _ hb _ e n=>u.slot b o e n hb (by simp)) (fun b o _ e n=>u.free b o e n (by simp)) (fun b o _ e=>u.there b o e (by simp)) u.tups u.frzs u.tbls (fun m' hm=>by
  obtain⟨o',es',ep',ho',r'⟩:=hm;rw[ho] at ho'; cases ho'
  exact⟨_,es',ep',hL,r'⟩) hok I.bare
theorem Inv.call {g':Array GenState}{t':Nat}{d':Drawn}{ch:List Addr}(I:Inv X pins σ H s)(u:Un (frs X.stack) ch H H' s.heap h')(hok:HOk X.prog X.w H' h')(hg:AllBare g')
  (hch:∀b∈ch,(b∈X.ex\/X.s₀.heap.objs.size<=b)/\b≠X.env.locals/\(∀x c,X.env.cells.lookup x=some c->c≠b)/\∀p∈X.pn++pins,p.1≠b) :
  Inv X pins σ H' { s with heap:=h',gens:=g',drawn:=d',toks:=t' }:=by
 obtain⟨m,⟨o,es,ep,ho,r⟩,_⟩:=id I.loc;obtain⟨sl,hL⟩:=u.any ho I.free fun z=>(hch _ z).2.1 rfl
 exact I.step (ch:=ch) hch (fun b o hL hb hc e n=>u.keep b o e n (fun z=>(Ah.mp (I.stkSub b z)).elim hL hb) hc) (fun b o _ _ hc e n=>u.any e n hc) (fun b o hc e n=>u.free b o e n hc) (fun b o hc e=>u.there b o e hc) u.tups u.frzs u.tbls (fun m' hm=>by
  obtain⟨o',es',ep',ho',r'⟩:=hm;rw[ho] at ho'; cases ho'
  exact⟨_,es',ep',hL,r'⟩) hok hg
theorem Inv.turned {t':Nat}{it:Addr}(I:Inv X pins σ H s)(k:∀b o,b≠it->s.heap.get? b=some o->h'.get? b=some o)(hn:H it=none)(hL:it≠X.env.locals)
  (h1:it∈X.ex\/X.s₀.heap.objs.size<=it) (h2:∀x c,X.env.cells.lookup x=some c->c≠it) (h3:∀p∈X.pn++pins,p.1≠it):Inv X pins σ H { s with heap:=h',toks:=t' }:=by
 have nit:∀b u,H b=some u->b≠it:=fun b u e z=>by rw[z,hn] at e; cases e
 refine I.step (g':=s.gens) (d':=s.drawn) (ch:=[it]) (fun b hb=>?_) (fun b o _ _ hc e _=>k b o (fun z=>hc (by simp[z])) e) (fun b o _ _ hc e _=>⟨o.slots,k b o (fun z=>hc (by simp[z])) e⟩) (fun _ _ _ _ n=>n)
  (fun b o hc e=>⟨o,k b o (fun z=>hc (by simp[z])) e⟩) (fun _ _ e=>e) (fun _ _ _ e=>e) (fun b ps e=>⟨#[],by rw[e]; simp⟩) (fun m hm=>?_) (fun b u e=>?_) I.bare
 .have e:b=it:=by simpa using hb
  subst e;exact⟨h1,hL,h2,h3⟩
 .obtain ⟨o,es,ep,ho,r⟩:=hm
  exact⟨o,es,ep,k _ o (Ne.symm hL) ho,r⟩
 .refine (I.hok b u e).stay (fun c v hc q=>k c v ?_ q) (fun _ q=>q) fun _ _ q=>q
  rcases hc with z | z
  .rw [z]; exact nit b u e
  .exact nit c _ z
theorem Inv.tok (I:Inv X pins σ H s)(t:Nat):Inv X pins σ H { s with toks:=t }:=I.un (h':=s.heap) (t':=t) Un.refl I.hok
theorem Inv.kept {t':Nat}(I:Inv X pins σ H s)(k:∀b u,s.heap.get? b=some u->h'.get? b=some u):Inv X pins σ H { s with heap:=h',toks:=t' }:=I.un (Un.kept k) (I.hok.kept k)
theorem Inv.laid {a:Addr}{o:HO}{t':Nat}(I:Inv X pins σ H s)(k:∀b u,s.heap.get? b=some u->h'.get? b=some u)(hp:s.heap.objs.size<=a)(new:ObjOk X.prog X.w (upd H a o) h' a o):
  Inv X pins σ (upd H a o) { s with heap:=h',toks:=t' }:=I.un (Un.laid k hp (I.hok.fresh hp)) (I.hok.laid k hp new)
theorem Inv.write {x e:Addr}{o:HO}{t':Nat}(I:Inv X pins σ H s)(mu:Mut (H x))(he:e=x\/H e=some (.own x))(k:∀b u,b≠e->s.heap.get? b=some u->h'.get? b=some u)(heo:∃u,h'.get? e=some u)
  (new:ObjOk X.prog X.w (upd H x o) h' x o):Inv X pins σ (upd H x o) { s with heap:=h',toks:=t' }:=I.un (Un.write mu he k heo) (I.hok.write mu he k heo new)
theorem Inv.weak {σ':List (Option V)}(I:Inv X pins σ H s)(hl:σ'.length=σ.length)(w:∀(i:Nat) v,σ'[i]?=some (some v)->σ[i]?=some (some v)):Inv X pins σ' H s :=
 ⟨I.ok,I.os,I.bare,I.base,let ⟨m,hn,hl'⟩:=I.loc; ⟨m,hn,fun i x v e1 e2 e3=>hl' i x v e1 (w i v e2) e3⟩,I.cell,I.free,I.freeC,I.pin,I.hok,hl.trans I.len⟩
theorem Inv.pins_of {pins':List (Addr×Obj)}(I:Inv X pins σ H s)(h:∀p∈pins',s.heap.get? p.1=some p.2/\H p.1=none/\p.1≠X.env.locals/\p.1∉X.fs/\∀v,p.2.data≠.cell v):Inv X pins' σ H s :=
 ⟨I.ok,I.os,I.bare,I.base,I.loc,I.cell,I.free,I.freeC,fun p hp=>(An.mp hp).elim (fun z=>I.pin p (A0 _ z)) (h p),I.hok,I.len⟩
theorem oT {N:List Str}(hN:N.Nodup){i j:Nat}{x:Str}(a:N[i]?=some x)(b:N[j]?=some x):i=j:=by
 obtain⟨h1,e1⟩:=AU.mp a;obtain⟨h2,e2⟩:=AU.mp b;exact(List.getElem_inj hN).mp (e1.trans e2.symm)
theorem dM {M:Model}{A:Around}{E:Value->Shared->Prop}{i:Nat}{x:Str}{v:V}{u:Value}{Q:Unit->Shared->Prop}(I:Inv X pins σ H s)(hN:X.N.Nodup)(hi:X.N[i]?=some x)(hx:Loc X.env.scope x)(r:RelV v u)
  (h:∀s',Inv X pins (σ.set i (some v)) H s'->(∃a,Heap.SameBut a s.heap s'.heap/\(a=X.env.locals\/X.env.cells.lookup x=some a))->Q () s') (hf:X.fn x=true\/X.env.scope.names.lookup x=some .local:=by first | exact .inl rfl | exact .inr rfl | assumption):wpAny M A (storeName X.env x u) Q E s:=by
 obtain⟨m,hn,hl⟩:=id I.loc;have hcls:(X.env.scope.kind==.class || (X.env.scope.kind==.module&&X.env.locals != X.env.globals))=false:=by rw[I.ok.kind]; rfl
 have hiσ:i < σ.length:=by rw[I.len]; exact(AU.mp hi).1
 have cne:=I.cne
 have tracked:∀{a:Addr} {h':Heap},(∃o,s.heap.get? a=some o/\H a=none)->Heap.SameBut a s.heap h'->HOk X.prog X.w H h':=fun {a h'} ha hs b ob e=>by
  obtain⟨_,_,hfree⟩:=ha;refine(I.hok b ob e).stay (fun c w' hc q=>(hs.2 c ?_).trans q) (fun _ q=>q) fun _ _ q=>q;rintro rfl
  rcases hc with rfl | hc
  .rw [hfree] at e; cases e
  .rw [hfree] at hc; cases hc
 rcases hx with hk | hk
 .refine wpAny_storeName_local hk hn (fun h' hn' hs=>?_) hcls
  obtain⟨oL,_,_,hoL,_⟩:=id hn;refine h _ ⟨I.ok,I.os,I.bare,⟨fun b o e n hb hx=>?_,fun b o e n hb hx=>?_,I.base.free,fun b o e hx=>?_,I.base.tups,I.base.frzs,I.base.tbls⟩,⟨_,hn',fun j y v' e1 e2 e3=>?_⟩,fun y c e=>?_,I.free,I.freeC,fun p hp=>?_,tracked ⟨oL,hoL,I.free⟩ hs,by simpa using I.len⟩ ⟨_,hs,.inl rfl⟩
  .exact (hs.2 b (Ag (AR (AN e) I.ok.above))).trans (I.base.keep b o e n hb hx)
  .obtain ⟨sl,e1⟩:=I.base.slot b o e n hb hx
   exact⟨sl,(hs.2 b (Ag (AR (AN e) I.ok.above))).trans e1⟩
  .obtain ⟨o',e1⟩:=I.base.there b o e hx
   exact⟨o',(hs.2 b (Ag (AR (AN e) I.ok.above))).trans e1⟩
  .by_cases hj:j=i
   .subst hj
    rw[hi] at e1; cases e1
    rw[List.getElem?_set_self hiσ] at e2;cases e2;exact⟨u,r,.inl ⟨hk,by simp⟩⟩
   .rw [Bp (Ne.symm hj)] at e2
    obtain⟨u',r',q⟩:=hl j y v' e1 e2 e3;refine⟨u',r',?_⟩
    rcases q with ⟨k,e⟩ | ⟨k,c,e,z⟩
    .refine .inl ⟨k,?_⟩
     have:y≠x:=fun e=>hj (oT hN e1 (e▸hi))
     simp[this,e]
    .exact .inr ⟨k,c,e,z.sameBut hs (cne y c e)⟩
  .obtain ⟨w',z⟩:=I.cell y c e
   exact⟨w',z.sameBut hs (cne y c e)⟩
  .obtain ⟨e,n,ne,nf,d⟩:=I.pin p hp
   exact⟨(hs.2 p.1 ne).trans e,n,ne,nf,d⟩
 .have hfn:X.fn x=true:=by
   rcases hf with z | z
   .exact z
   .rw [z] at hk; cases hk
  obtain⟨c,hc⟩:=I.ok.has x (.inl hk);obtain⟨w',z⟩:=I.cell x c hc;refine wpAny_storeName_cell I.ok.kind hk hc z (fun h' hc' hs=>?_);obtain⟨oc,hoc,hocd⟩:=id z;refine h { s with heap:=h' } ⟨I.ok,I.os,I.bare,⟨fun b o e n hb hx=>?_,fun b o e n hb hx=>?_,I.base.free,fun b o e hx=>?_,I.base.tups,I.base.frzs,I.base.tbls⟩,⟨m,hn.sameBut hs (Ne.symm (cne x c hc)),fun j y v' e1 e2 e3=>?_⟩,fun y c' e=>?_,I.free,I.freeC,fun p hp=>?_,tracked ⟨oc,hoc,I.freeC x c hc⟩ hs,by simpa using I.len⟩ ⟨c,hs,.inr hc⟩
  .exact (hs.2 b (Ag (AR (AN e) (I.ok.cab x c hfn hc)))).trans (I.base.keep b o e n hb hx)
  .obtain ⟨sl,e1⟩:=I.base.slot b o e n hb hx
   exact⟨sl,(hs.2 b (Ag (AR (AN e) (I.ok.cab x c hfn hc)))).trans e1⟩
  .obtain ⟨o',e1⟩:=I.base.there b o e hx
   exact⟨o',(hs.2 b (Ag (AR (AN e) (I.ok.cab x c hfn hc)))).trans e1⟩
  .by_cases hj:j=i
   .subst hj
    rw[hi] at e1; cases e1
    rw[List.getElem?_set_self hiσ] at e2;cases e2;exact⟨u,r,.inr ⟨.inl hk,c,hc,hc'⟩⟩
   .rw [Bp (Ne.symm hj)] at e2
    obtain⟨u',r',q⟩:=hl j y v' e1 e2 e3;refine⟨u',r',?_⟩
    rcases q with q | ⟨k,c',e,z'⟩
    .exact .inl q
    .refine .inr ⟨k,c',e,z'.sameBut hs ?_⟩
     rintro rfl;exact hj (oT hN e1 (I.ok.inj _ _ _ e hc▸hi))
  .by_cases hcc:c'=c
   .subst hcc; exact⟨_,hc'⟩
   .obtain ⟨w2,z2⟩:=I.cell y c' e
    exact⟨w2,z2.sameBut hs hcc⟩
  .obtain ⟨e,n,ne,nf,d⟩:=I.pin p hp
   refine⟨(hs.2 p.1 ?_).trans e,n,ne,nf,d⟩;intro q;rw[q,hoc] at e;have q':oc=p.2:=Ar e;exact d w' (by rw[<- q']; exact hocd)
theorem bS {M:Model}{A:Around}{E:Value->Shared->Prop}{i:Nat}{x:Str}{v:V}{u:Value}{Q:Unit->Shared->Prop}(I:Inv X pins σ H s)(hN:X.N.Nodup)(hi:X.N[i]?=some x)(hx:Loc X.env.scope x)(r:RelV v u)
  (h:∀s',Inv X pins (σ.set i (some v)) H s'->Q () s') (hf:X.fn x=true\/X.env.scope.names.lookup x=some .local:=by first | exact .inl rfl | exact .inr rfl | assumption):wpAny M A (storeName X.env x u) Q E s :=
 dM I hN hi hx r (fun s' I' _=>h s' I') hf
end
abbrev XK:=Value->Option Addr->Hp->Prop
abbrev St:=List (Option V)
abbrev VK:=V->Hp->Prop
abbrev TE:=St->Hp->VK->Prop
abbrev TT:=St->Hp->(Bool->Hp->Prop)->Prop
abbrev TA:=St->Hp->(List V->Hp->Prop)->Prop
structure cE where
 nx:St->Hp->Prop
 rt:VK
 bk:St->Hp->Prop:=fun _ _=>False
 ct:St->Hp->Prop:=fun _ _=>False
abbrev TS:=cE->St->Hp->Prop
def EP (X:Cx)(pins:List (Addr×Obj))(σ:St)(Q:VK)(u:Value)(s':Shared):Prop:=∃v H',Inv X pins σ H' s'/\RelV v u/\Q v H'
def TP (X:Cx)(pins:List (Addr×Obj))(σ:St)(Q:Bool->Hp->Prop)(b:Bool)(s':Shared):Prop:=∃H',Inv X pins σ H' s'/\Q b H'
def AP (X:Cx)(pins:List (Addr×Obj))(σ:St)(Q:List V->Hp->Prop)(us:List Value)(s':Shared):Prop:=∃vs H',Inv X pins σ H' s'/\Vals vs us/\Q vs H'
def SP (X:Cx)(pins:List (Addr×Obj))(D:cE)(f:Flow)(s':Shared):Prop :=
 match f with
 |.next=>∃σ' H',Inv X pins σ' H' s'/\D.nx σ' H'
 |.brk=>∃σ' H',Inv X pins σ' H' s'/\D.bk σ' H'
 |.cont=>∃σ' H',Inv X pins σ' H' s'/\D.ct σ' H'
 |.ret u=>∃v σ' H',Inv X pins σ' H' s'/\RelV v u/\D.rt v H'
def PE (X:Cx)(e:Expr)(t:TE):Prop :=
 ∀(pins:List (Addr×Obj)) (s:Shared) (σ:St) (H:Hp) (Q:VK),Inv X pins σ H s->t σ H Q->wpAny (model X.prog X.w) X.A (eval e X.env) (EP X pins σ Q) X.xe s
def PT (X:Cx)(e:Expr)(t:TT):Prop :=
 ∀(pins:List (Addr×Obj)) (s:Shared) (σ:St) (H:Hp) (Q:Bool->Hp->Prop),Inv X pins σ H s->t σ H Q->wpAny (model X.prog X.w) X.A (isTrue e X.env (eval e X.env)) (TP X pins σ Q) X.xe s
def PW (X:Cx)(e:Expr)(t:TT):Prop :=
 ∀(whole:Sem Value) (pins:List (Addr×Obj)) (s:Shared) (σ:St) (H:Hp) (Q:Bool->Hp->Prop),Inv X pins σ H s->t σ H Q->wpAny (model X.prog X.w) X.A (isTrue e X.env whole) (TP X pins σ Q) X.xe s
theorem PW.pt {X:Cx}{e:Expr}{t:TT}(h:PW X e t):PT X e t:=h _
def PA (X:Cx)(es:List Expr)(t:TA):Prop :=
 ∀(pos:Pos) (pins:List (Addr×Obj)) (s:Shared) (σ:St) (H:Hp) (Q:List V->Hp->Prop),Inv X pins σ H s->t σ H Q->wpAny (model X.prog X.w) X.A (spliced (backTo pos (starEach es X.env))) (AP X pins σ Q) X.xe s
def PS (X:Cx)(st:Stmt)(t:TS):Prop :=
 ∀(pins:List (Addr×Obj)) (s:Shared) (σ:St) (H:Hp) (D:cE),Inv X pins σ H s->t D σ H->wpAny (model X.prog X.w) X.A (exec st X.env) (SP X pins D) X.xe s
def PSs (X:Cx)(st:List Stmt)(t:TS):Prop :=
 ∀(pins:List (Addr×Obj)) (s:Shared) (σ:St) (H:Hp) (D:cE),Inv X pins σ H s->t D σ H->wpAny (model X.prog X.w) X.A (execs st X.env) (SP X pins D) X.xe s
theorem thn {α:Type}{t:Sem α}{Q Q':α->Shared->Prop}{M:Model}{A:Around}{E:Value->Shared->Prop}{s:Shared}(h:wpAny M A t Q E s)(hQ:∀a s,Q a s->Q' a s):wpAny M A t Q' E s:=BH h hQ fun _ _ x=>x
section
variable {X:Cx}
theorem bin {a b:Expr}{ta tb:TE}(ha:PE X a ta)(hb:PE X b tb){pins:List (Addr×Obj)}{s:Shared}{σ:St}{H:Hp}{R:V->V->Hp->Prop}(I:Inv X pins σ H s)(h:ta σ H fun x H1=>tb σ H1 fun y H2=>R x y H2)
  {α:Type} {Q:α->Shared->Prop} {f:Value->Value->Sem α}
  (hf:∀v u s2 x y H2,Inv X pins σ H2 s2->RelV x v->RelV y u->R x y H2->wpAny (model X.prog X.w) X.A (f v u) Q X.xe s2) :
  wpAny (model X.prog X.w) X.A (eval a X.env) (fun v s₁=>wpAny (model X.prog X.w) X.A (eval b X.env) (fun u s₂=>wpAny (model X.prog X.w) X.A (f v u) Q X.xe s₂) X.xe s₁) X.xe s:=by
 refine thn (ha pins s σ H _ I h) fun v s1 ⟨x,H1,I1,r1,q1⟩=>?_;refine thn (hb pins s1 σ H1 _ I1 q1) fun u s2 ⟨y,H2,I2,r2,q2⟩=>?_;exact hf v u s2 x y H2 I2 r1 r2 q2
inductive IVar (i:Nat)(σ:St)(H:Hp)(Q:VK):Prop
 |mk (v:V) (h:σ[i]?=some (some v)) (q:Q v H):IVar i σ H Q
def tVar (i:Nat):TE:=fun σ H Q=>IVar i σ H Q
def tC (v:V):TE:=fun _ H Q=>Q v H
theorem Jn {i:Nat}{x:Str}{pos:Pos}(hN:X.N[i]?=some x)(hv:Vis X.env.scope x)(hd:(x==("__debug__" : Str))=false:=by decide)(hcd:(x==("__classdict__" : Str))=false:=by decide):PE X (.Name x pos) (tVar i):=by
 intro pins s σ H Q I h;obtain⟨v,e,h⟩:=h;obtain⟨m,hn,hl⟩:=I.loc;obtain⟨u,r,l⟩:=hl i x v hN e hv;have fin:EP X pins σ Q u s:=⟨v,H,I,r,h⟩
 rcases l with ⟨hk,hm⟩ | ⟨hk,c,hc,hcell⟩
 .exact wpAny_Name (wpAny_loadName_local I.ok.kind hk hn hm fin) hd
 .rcases hk with hk | hk
  .exact wpAny_Name (wpAny_loadName_cell I.ok.kind hk hc hcell fin) hd
  .exact wpAny_Name (wpAny_loadName_free I.ok.kind hk hc hcell fin hcd) hd
theorem pe_int {i j pos}:PE X (.Constant (.int i) j pos) (tC (.int i)):=fun _ _ _ H _ I h=>wpAny_Constant_int ⟨.int i,H,I.tok _,⟨_,rfl⟩,h⟩
theorem pe_bl {b j pos}:PE X (.Constant (.bool b) j pos) (tC (.bl b)):=fun _ _ _ H _ I h=>Constant_bool ⟨.bl b,H,I,rfl,h⟩
theorem pe_non {j pos}:PE X (.Constant .none j pos) (tC .non):=fun _ _ _ H _ I h=>Constant_none ⟨.non,H,I,rfl,h⟩
theorem pe_str {x j pos}:PE X (.Constant (.str x) j pos) (tC (.str x)):=fun _ _ _ H _ I h=>Calls.Constant_str ⟨.str x,H,I.tok _,⟨_,rfl⟩,h⟩
def Gl (X:Cx)(x:Str):Prop:=X.env.kindOf x=some .globalImplicit
theorem pC {E:Value->Shared->Prop}{pins:List (Addr×Obj)}{s:Shared}{σ:St}{H:Hp}{x:Str}{u:Value}{pos:Pos}{Q:Value->Shared->Prop}(I:Inv X pins σ H s)(hg:Gl X x)(hm:X.mg x=some u)(h:Q u s)
  (hd:(x==("__debug__" : Str))=false:=by decide):wpAny (model X.prog X.w) X.A (eval (.Name x pos) X.env) Q E s :=
 Calls.Name_function_global I.ok.kind hg (Calls.loadGlobal_global (by rw[I.ok.glob]; exact I.mod.glob.keeps I.bk) hm h) hd
theorem eA {E:Value->Shared->Prop}{pins:List (Addr×Obj)}{s:Shared}{σ:St}{H:Hp}{x:Str}{u:Value}{pos:Pos}{Q:Value->Shared->Prop}(I:Inv X pins σ H s)(hg:Gl X x)(hm:X.mg x=none)(hv:bootBuiltins x=some u)(h:Q u s)
  (hn:x ≠ "__name__":=by decide) (hd:(x==("__debug__" : Str))=false:=by decide):wpAny (model X.prog X.w) X.A (eval (.Name x pos) X.env) Q E s:=by
 obtain⟨mb,h1,h2⟩:=I.mod.blt;exact Calls.Name_function_global I.ok.kind hg (Calls.loadGlobal_builtin (by rw[I.ok.glob]; exact I.mod.glob.keeps I.bk) hm (by rw[I.ok.blt]; exact h1.keeps I.bk) ((h2 x hn).trans hv) h) hd
theorem pe_glob {x:Str}{v:V}{u:Value}{pos:Pos}(hg:Gl X x)(hm:X.mg x=some u)(r:RelV v u)(hd:(x==("__debug__" : Str))=false:=by decide):PE X (.Name x pos) (tC v) :=
 fun _ _ _ H _ I h=>pC I hg hm ⟨v,H,I,r,h⟩ hd
variable {a b:Expr}{ta tb:TE}{pos:Pos}
inductive IBl (Q:Bool->Hp->Prop)(x:V)(H:Hp):Prop
 |mk (c:Bool) (h:x=.bl c) (q:Q c H):IBl Q x H
def tB (t:TE):TT:=fun σ H Q=>t σ H (IBl Q)
theorem pt_val {e:Expr}{t:TE}(h:PE X e t)(he:∀whole,isTrue e X.env whole=(do let v <- whole; standAt e.pos; holding [v] (truthy v)):=by intro _; rfl):PT X e (tB t):=by
 intro pins s σ H Q I hw;refine isTrue_plain (thn (h pins s σ H _ I hw) fun v s1 ⟨x,H1,I1,r1,q1⟩=>?_) (he _);obtain⟨d,rfl,q⟩:=q1;cases r1;exact Cd ⟨H1,I1,q⟩
variable {tA tB':TT}{rest:List Expr}
def tAnd (t u:TT):TT:=fun σ H Q=>t σ H fun c H1=>if c=true then u σ H1 Q else Q false H1
def tOr (t u:TT):TT:=fun σ H Q=>t σ H fun c H1=>if c=true then Q true H1 else u σ H1 Q
def tNot (t:TT):TT:=fun σ H Q=>t σ H fun c H1=>Q (!c) H1
theorem pw_and1 (ha:PT X a tA):PW X (.BoolOp .And [a] pos) tA:=by
 intro wh pins s σ H Q I h;refine isTrue_and (thn (ha pins s σ H Q I h) fun c s1 e=>?_)
 cases c with
 |true=>exact isTrue_and_nil e
 |false=>exact e
theorem pw_or1 (ha:PT X a tA):PW X (.BoolOp .Or [a] pos) tA:=by
 intro wh pins s σ H Q I h;refine isTrue_or (thn (ha pins s σ H Q I h) fun c s1 e=>?_)
 cases c with
 |false=>exact isTrue_or_nil e
 |true=>exact e
theorem pw_and (ha:PT X a tA)(hb:PW X (.BoolOp .And (b::rest) pos) tB'):PW X (.BoolOp .And (a::b::rest) pos) (tAnd tA tB'):=by
 intro wh pins s σ H Q I h;refine isTrue_and (thn (ha pins s σ H _ I h) fun c s1 ⟨H1,I1,q1⟩=>?_)
 cases c with
 |true=>exact hb wh pins s1 σ H1 Q I1 q1
 |false=>exact⟨H1,I1,q1⟩
theorem pw_or (ha:PT X a tA)(hb:PW X (.BoolOp .Or (b::rest) pos) tB'):PW X (.BoolOp .Or (a::b::rest) pos) (tOr tA tB'):=by
 intro wh pins s σ H Q I h;refine isTrue_or (thn (ha pins s σ H _ I h) fun c s1 ⟨H1,I1,q1⟩=>?_)
 cases c with
 |true=>exact⟨H1,I1,q1⟩
 |false=>exact hb wh pins s1 σ H1 Q I1 q1
theorem pt_not (ha:PT X a tA):PT X (.UnaryOp .Not a pos) (tNot tA):=by
 intro pins s σ H Q I h;exact isTrue_not (ha pins s σ H (fun c H1=>Q (!c) H1) I h)
def tIf (t:TT)(ta tb:TE):TE:=fun σ H Q=>t σ H fun c H1=>if c=true then ta σ H1 Q else tb σ H1 Q
theorem Jp {c:Expr}(hc:PT X c tA)(ha:PE X a ta)(hb:PE X b tb):PE X (.IfExp c a b pos) (tIf tA ta tb):=by
 intro pins s σ H Q I h;refine wpAny_IfExp (thn (hc pins s σ H _ I h) fun d s1 ⟨H1,I1,q1⟩=>?_)
 cases d with
 |true=>exact ha pins s1 σ H1 Q I1 q1
 |false=>exact hb pins s1 σ H1 Q I1 q1
end
def SqL (K:DK)(H:Hp)(a:Addr)(xs:List V):Prop :=
 Rd H a (.lst xs) \/
  ∃(o:Obj) (its:Array Value) (n:Nat),K.lookup a=some o/\o.cls=.type "list"/\o.dict=none/\o.data=.seq its n/\its.size<=sizeLine/\Vals xs its.toList
def SqT (K:DK)(H:Hp)(a:Addr)(xs:List V):Prop :=
 Rd H a (.tup xs) \/
  ∃(o:Obj) (its:Array Value) (n:Nat),K.lookup a=some o/\o.cls=.type "tuple"/\o.data=.seq its n/\its.size<=sizeLine/\Vals xs its.toList
noncomputable def absV:Value->Option V
 |.none=>some .non
 |.bool b=>some (.bl b)
 |.int i _=>some (.int i)
 |.str x _=>some (.str x)
 |.bytes b _=>some (.byt b)
 |.float b _=>some (.flt b)
 |.ref a=>some (.ref a)
 |.type n=>some (.ty n)
 |_=>none
theorem RelV.abs {x:V}{u:Value}(r:RelV x u):absV u=some x:=by
 cases x with
 |non=>cases r; rfl
 |bl _=>cases r; rfl
 |int _=>obtain⟨t,rfl⟩:=r; rfl
 |str _=>obtain⟨t,rfl⟩:=r; rfl
 |byt _=>obtain⟨t,rfl⟩:=r; rfl
 |flt _=>obtain⟨t,rfl⟩:=r; rfl
 |ref _=>cases r; rfl
 |ty _=>cases r; rfl
theorem RelV.inj {x y:V}{u:Value}(r:RelV x u)(q:RelV y u):x=y:=Ar (r.abs.symm.trans q.abs)
theorem Vals.inj:∀{xs ys:List V}{us:List Value},Vals xs us->Vals ys us->xs=ys
 |_,_,_,.nil,.nil=>rfl
 |_,_,_,.cons r t,.cons r' t'=>by rw[r.inj r',Vals.inj t t']
section
variable {X:Cx}{pins:List (Addr×Obj)}{σ:St}{H:Hp}{s:Shared}{a:Addr}{xs ys:List V}
theorem SqL.of {K:DK}(h:H a=some (.lst xs)):SqL K H a xs:=.inl (.inl h)
theorem SqT.of {K:DK}(h:H a=some (.tup xs)):SqT K H a xs:=.inl (.inl h)
theorem Inv.list (I:Inv X pins σ H s)(h:SqL X.K H a xs):∃its:List Value,Vals xs its/\PlainL s.heap a its.toArray/\xs.length<=sizeLine:=by
 rcases h with h | ⟨o,its,n,hk,hc,hd,hs,hz,r⟩
 .obtain ⟨z,its,n,r,e⟩:=h.ok I.hok
  exact⟨its,r,⟨_,n,e,rfl,rfl,rfl⟩,z⟩
 .refine ⟨its.toList,r,⟨o,n,I.kIn a o hk,hc,hd,by simpa using hs⟩,?_⟩
  have e:=r.length
  simp only[Array.length_toList] at e
  omega
theorem Inv.tuple (I:Inv X pins σ H s)(h:SqT X.K H a xs):∃its:List Value,Vals xs its/\IsTup s.heap a its.toArray/\xs.length<=sizeLine:=by
 rcases h with h | ⟨o,its,n,hk,hc,hs,hz,r⟩
 .obtain ⟨z,its,r,p⟩:=h.ok I.hok
  exact⟨its,r,IsTupN.is p,z⟩
 .refine ⟨its.toList,r,⟨o,I.kIn a o hk,hc,n,by simpa using hs⟩,?_⟩
  have e:=r.length
  simp only[Array.length_toList] at e
  omega
theorem Inv.list_inj (I:Inv X pins σ H s)(h:SqL X.K H a xs)(h':SqL X.K H a ys):xs=ys:=by
 obtain⟨its,r,⟨o,n,e,_,_,d⟩,_⟩:=I.list h;obtain⟨its',r',⟨o',n',e',_,_,d'⟩,_⟩:=I.list h';rw[e] at e'; cases e'
 rw[d] at d';injection d' with d1 _
 have:its=its':=by simpa using BE Array.toList d1
 subst this;exact r.inj r'
theorem Inv.tuple_inj (I:Inv X pins σ H s)(h:SqT X.K H a xs)(h':SqT X.K H a ys):xs=ys:=by
 obtain⟨its,r,⟨o,e,_,n,d⟩,_⟩:=I.tuple h;obtain⟨its',r',⟨o',e',_,n',d'⟩,_⟩:=I.tuple h';rw[e] at e'; cases e'
 rw[d] at d';injection d' with d1 _
 have:its=its':=by simpa using BE Array.toList d1
 subst this;exact r.inj r'
end
abbrev Cx.wish (X:Cx)(E:Value->Shared->Prop):Cx:={ X with xe:=E }
abbrev Cx.nox (X:Cx):Cx:=X.wish fun _ _=>False
theorem Cx.Ok.wish {X:Cx}(ok:X.Ok)(E:Value->Shared->Prop):(X.wish E).Ok :=
 ⟨ok.mod,ok.kind,ok.glob,ok.blt,ok.above,ok.inj,ok.has,ok.cab,ok.hd,ok.frames,ok.stk,ok.exf,ok.bs,ok.bsz,ok.noex,ok.exfs,ok.funs,ok.frf⟩
theorem Cx.Ok.unwish {X:Cx}{E:Value->Shared->Prop}(ok:(X.wish E).Ok):X.Ok :=
 ⟨ok.mod,ok.kind,ok.glob,ok.blt,ok.above,ok.inj,ok.has,ok.cab,ok.hd,ok.frames,ok.stk,ok.exf,ok.bs,ok.bsz,ok.noex,ok.exfs,ok.funs,ok.frf⟩
section
variable {X:Cx}{pins:List (Addr×Obj)}{σ:St}{H:Hp}{s:Shared}{E:Value->Shared->Prop}
theorem Inv.wish (I:Inv X pins σ H s)(E:Value->Shared->Prop):Inv (X.wish E) pins σ H s:=⟨I.ok.wish E,I.os,I.bare,I.base,I.loc,I.cell,I.free,I.freeC,I.pin,I.hok,I.len⟩
theorem Inv.unwish (I:Inv (X.wish E) pins σ H s):Inv X pins σ H s:=⟨I.ok.unwish,I.os,I.bare,I.base,I.loc,I.cell,I.free,I.freeC,I.pin,I.hok,I.len⟩
theorem SP.unwish {D:cE}{f:Flow}{s':Shared}(h:SP (X.wish E) pins D f s'):SP X pins D f s':=by
 cases f with
 |next=>obtain⟨σ',H',I,q⟩:=h; exact⟨σ',H',I.unwish,q⟩
 |brk=>obtain⟨σ',H',I,q⟩:=h; exact⟨σ',H',I.unwish,q⟩
 |cont=>obtain⟨σ',H',I,q⟩:=h; exact⟨σ',H',I.unwish,q⟩
 |ret u=>obtain⟨v,σ',H',I,r,q⟩:=h; exact⟨v,σ',H',I.unwish,r,q⟩
theorem PSs.nox {st:List Stmt}{t:TS}(h:PSs X.nox st t):PSs X st t:=fun pins s σ H D I hw =>
 BH (h pins s σ H D (I.wish _) hw) (fun _ _ q=>q.unwish) fun _ _ z=>False.elim z
end
section
variable {X:Cx}{st:Stmt}{rest:List Stmt}{t u:TS}{e:Expr}{te:TE}{pos:Pos}
def tNext:TS:=fun D σ H=>D.nx σ H
def tSeq (t u:TS):TS:=fun D σ H=>t { D with nx:=u D } σ H
theorem pss_nil:PSs X [] tNext:=fun _ _ σ H _ I h=>wpAny_execs_nil ⟨σ,H,I,h⟩
theorem Jg (h1:PS X st t)(h2:PSs X rest u):PSs X (st::rest) (tSeq t u):=by
 intro pins s σ H D I h;refine wpAny_execs_cons (thn (h1 pins s σ H { D with nx:=u D } I h) fun f s1 q=>?_)
 cases f with
 |next =>
  obtain⟨σ',H',I',q⟩:=q;exact h2 pins s1 σ' H' D I' q
 |ret v=>exact q
 |brk=>exact q
 |cont=>exact q
theorem pss_one (h1:PS X st t):PSs X [st] t:=by
 intro pins s σ H D I h;refine wpAny_execs_cons (thn (h1 pins s σ H D I h) fun f s1 q=>?_)
 cases f with
 |next=>exact wpAny_execs_nil q
 |ret v=>exact q
 |brk=>exact q
 |cont=>exact q
theorem Inv.quiet {pins:List (Addr×Obj)}{σ:St}{H:Hp}{s:Shared}(I:Inv X pins σ H s):interactive X.env=false:=by simp[interactive,I.ok.kind]
def tDrop (te:TE):TS:=fun D σ H=>te σ H fun _ H1=>D.nx σ H1
theorem ps_expr (he:PE X e te)(hs:swapsWith e none pos.line X.env=pure false:=by rfl):PS X (.Expr e pos) (tDrop te):=by
 intro pins s σ H D I h;exact wpAny_Expr_any (thn (he pins s σ H _ I h) fun v s1 ⟨x,H1,I1,r1,q1⟩=>⟨σ,H1,I1,q1⟩) I.quiet hs
def tRet (te:TE):TS:=fun D σ H=>te σ H D.rt
theorem ps_ret (he:PE X e te):PS X (.Return (some e) pos) (tRet te):=by
 intro pins s σ H D I h;exact wpAny_Return_some (thn (he pins s σ H _ I h) fun v s1 ⟨x,H1,I1,r1,q1⟩=>⟨x,σ,H1,I1,r1,q1⟩)
def tIfS (c:TT)(t u:TS):TS:=fun D σ H=>c σ H fun b H1=>if b=true then t D σ H1 else u D σ H1
theorem ps_if {c:Expr}{a b:List Stmt}{tc:TT}(hc:PT X c tc)(ha:PSs X a t)(hb:PSs X b u):PS X (.If c a b pos) (tIfS tc t u):=by
 intro pins s σ H D I h;refine wpAny_If (thn (hc pins s σ H _ I h) fun d s1 ⟨H1,I1,q1⟩=>?_)
 cases d with
 |true=>exact ha pins s1 σ H1 D I1 q1
 |false=>exact hb pins s1 σ H1 D I1 q1
end
abbrev TG:=V->St->Hp->(St->Hp->Prop)->Prop
abbrev TGs:=List V->St->Hp->(St->Hp->Prop)->Prop
def PG (X:Cx)(target:Expr)(t:TG):Prop :=
 ∀(pins:List (Addr×Obj)) (s:Shared) (σ:St) (H:Hp) (v:V) (u:Value) (Q:St->Hp->Prop),Inv X pins σ H s->RelV v u->t v σ H Q ->
  wpAny (model X.prog X.w) X.A (assign target X.env u) (fun _ s'=>∃σ' H',Inv X pins σ' H' s'/\Q σ' H') X.xe s
def PGs (X:Cx)(ts:List Expr)(t:TGs):Prop :=
 ∀(pins:List (Addr×Obj)) (s:Shared) (σ:St) (H:Hp) (vs:List V) (us:List Value) (Q:St->Hp->Prop),Inv X pins σ H s->Vals vs us->t vs σ H Q ->
  wpAny (model X.prog X.w) X.A (assignInOrder ((assignEach ts X.env).map (·.2)) us) (fun _ s'=>∃σ' H',Inv X pins σ' H' s'/\Q σ' H') X.xe s
abbrev TSet:=V->V->V->Hp->(Hp->Prop)->Prop
def PSet (X:Cx)(t:TSet):Prop :=
 ∀(pins:List (Addr×Obj)) (s:Shared) (σ:St) (H:Hp) (o i v:V) (ov iv u:Value) (Q:Hp->Prop),Inv X pins σ H s->RelV o ov->RelV i iv->RelV v u->t o i v H Q ->
  wpAny (model X.prog X.w) X.A (setItem ov iv u) (fun _ s'=>∃H',Inv X pins σ H' s'/\Q H') X.xe s
section
variable {X:Cx}{pos:Pos}
def eV (i:Nat):TG:=fun v σ H Q=>Q (σ.set i (some v)) H
theorem aB {i:Nat}{x:Str}(hN:X.N.Nodup)(hi:X.N[i]?=some x)(hx:Loc X.env.scope x)(hf:X.fn x=true\/X.env.scope.names.lookup x=some .local:=by first | exact .inl rfl | exact .inr rfl | assumption):PG X (.Name x pos) (eV i):=by
 intro pins s σ H v u Q I r h;exact wpAny_assign_Name (bS I hN hi hx r (fun s' I'=>⟨_,H,I',h⟩) hf)
def gNil:TGs:=fun vs σ H Q=>vs=[]/\Q σ H
def qP (t:TG)(u:TGs):TGs:=fun vs σ H Q=>∃v r,vs=v::r/\t v σ H fun σ' H'=>u r σ' H' Q
theorem QF:PGs X [] gNil:=by
 intro pins s σ H vs us Q I r h;obtain⟨e,h⟩:=h;subst e;cases r;exact assignInOrder_nil ⟨σ,H,I,h⟩
theorem mL {e:Expr}{es:List Expr}{t:TG}{u:TGs}(h1:PG X e t)(h2:PGs X es u)
  (hs:(assignEach (e::es) X.env).map (·.2)=assign e X.env::(assignEach es X.env).map (·.2):=by rfl):PGs X (e::es) (qP t u):=by
 intro pins s σ H vs us Q I r h;obtain⟨v,vr,e1,h⟩:=h;subst e1
 cases r with
 |cons r rr =>
  rw[hs];refine assignInOrder_cons (thn (h1 pins s σ H _ _ _ I r h) fun _ s1 ⟨σ1,H1,I1,q1⟩=>?_);exact h2 pins s1 σ1 H1 _ _ Q I1 rr q1
def gTup (K:DK)(n:Nat)(t:TGs):TG:=fun v σ H Q=>∃a xs,v=.ref a/\SqT K H a xs/\xs.length=n/\t xs σ H Q
theorem Jm {es:List Expr}{k:Nat}{t:TGs}{n:Nat}(hc:X.calm=true)(h:PGs X es t)
  (hn:(assignEach es X.env).length=n:=by rfl) (hst:(assignEach es X.env).findIdx? (·.1)=none:=by rfl):PG X (.Tuple es k pos) (gTup X.K n t):=by
 intro pins s σ H v u Q I r hw;obtain⟨a,xs,e1,hq,hl,hw⟩:=hw;subst e1;cases r;obtain⟨its,rv,ht,hz⟩:=I.tuple hq;refine assign_Tuple_tuple (I.ok.hd hc) ht (by simp[hn,<- hl,rv.length]) hst fun h' hx=>?_;have I1:Inv X pins σ H { s with heap:=h' }:=I.kept (t':=s.toks) fun b o e=>hx b o (Ag (AN e)) e;exact h pins _ σ H xs _ Q I1 (by simpa using rv) hw
def gSub (to ti:TE)(t:TSet):TG:=fun v σ H Q=>to σ H fun o H1=>ti σ H1 fun i H2=>t o i v H2 fun H3=>Q σ H3
theorem pg_sub {o i:Expr}{to ti:TE}{t:TSet}(ho:PE X o to)(hi:PE X i ti)(hs:PSet X t)
  (ha:∀v,assign (.Subscript o i pos) X.env v=(do
   let ov <- holding [v] (eval o X.env)
   let iv <- holding [v,ov] (eval i X.env)
   standAt pos
   holding [v,ov,iv] (setItem ov iv v)
   release [v,ov,iv] []):=by intro _; rfl):PG X (.Subscript o i pos) (gSub to ti t):=by
 intro pins s σ H v u Q I r h;rw[ha];refine AB (Aw (thn (ho pins s σ H _ I h) fun ov s1 ⟨x,H1,I1,r1,q1⟩=>?_));refine AB (Aw (thn (hi pins s1 σ H1 _ I1 q1) fun iv s2 ⟨y,H2,I2,r2,q2⟩=>?_));refine AB (wpAny_standAt (AB (Aw (thn (hs pins s2 σ H2 x y v ov iv u _ I2 r1 r2 r q2) fun _ s3 ⟨H3,I3,q3⟩=>?_))));exact wpAny_release ⟨σ,H3,I3,q3⟩
def Xs (te:TE)(g:TG):TS:=fun D σ H=>te σ H fun x H1=>g x σ H1 D.nx
theorem ps_asg {tg e:Expr}{te:TE}{g:TG}(he:PE X e te)(hg:PG X tg g)(hs:swapsWithSole [tg] e pos.line X.env=pure false:=by rfl)(hw:swappedStores [tg] e X.env=pure none:=by rfl)
  (h1:(assignEach [tg] X.env).map (·.2)=[assign tg X.env]:=by rfl):PS X (.Assign [tg] e pos) (Xs te g):=by
 intro pins s σ H D I h;refine wpAny_Assign_stores (thn (he pins s σ H _ I h) fun v s1 ⟨x,H1,I1,r1,q1⟩=>?_) hs hw;rw[h1];exact thn (hg pins s1 σ H1 x v _ I1 r1 q1) fun _ s2 q=>q
theorem ps_set {i:Nat}{x:Str}{e:Expr}{te:TE}{pos':Pos}(hN:X.N.Nodup)(hi:X.N[i]?=some x)(hx:Loc X.env.scope x)(he:PE X e te)(hs:swapsWith e (some (.Name x pos')) pos.line X.env=pure false:=by rfl)(hf:X.fn x=true\/X.env.scope.names.lookup x=some .local:=by first | exact .inl rfl | exact .inr rfl | assumption):
  PS X (.Assign [.Name x pos'] e pos) (Xs te (eV i)):=by
 intro pins s σ H D I h;refine wpAny_Assign_Name (thn (he pins s σ H _ I h) fun v s1 ⟨y,H1,I1,r1,q1⟩=>?_) hs;exact bS I1 hN hi hx r1 (fun s2 I2=>⟨_,H1,I2,q1⟩) hf
end
structure It where
 go:Nat->Hp->Prop
 yld:Nat->Hp->V->Hp->Prop
 stop:Nat->Hp->Prop
def dE (X:Cx)(pins:List (Addr×Obj))(H:Hp)(b:Addr):Prop :=
 H b=none/\b≠X.env.locals/\b∉X.fs/\(b∈X.ex\/X.s₀.heap.objs.size<=b)/\(∀x c,X.env.cells.lookup x=some c->c≠b)/\∀p∈X.pn++pins,p.1≠b
theorem Inv.fpOk {X:Cx}{pins:List (Addr×Obj)}{σ:St}{H H':Hp}{s:Shared}{b:Addr}(I:Inv X pins σ H s)(hb:s.heap.objs.size<=b)(hn:H' b=none):dE X pins H' b:=by
 refine⟨hn,A5 (AR I.lt hb),I.nofs hb,.inr (Ae I.sz hb),fun x c e z=>?_,fun p hp z=>?_⟩
 .obtain ⟨v,q⟩:=I.cell x c e
  exact absurd (AR q.lt (by rw[z]; exact hb)) (BJ _)
 .exact absurd (AR (AN (I.pin p hp).1) (by rw[z]; exact hb)) (BJ _)
structure Zt (P:Program)(w:World)(K:DK)(tg:Expr)(J:It)(fp:List Addr)(it:Addr)(tn:Nat->Heap->Prop):Prop where
 mem:it∈fp
 obj:∀i h,tn i h->∀b∈fp,∃o,h.get? b=some o/\∀v,o.data≠.cell v
 keep:∀i h h',tn i h->(∀b∈fp,∀o,h.get? b=some o->h'.get? b=some o)->tn i h'
 item:∀(X:Cx),X.prog=P->X.w=w->X.K=K->X.calm=true->∀(i:Nat) (pins:List (Addr×Obj)) (s:Shared) (σ:St) (H:Hp) (E:Value->Shared->Prop),Inv X pins σ H s->(∀b∈fp,dE X pins H b)->tn i s.heap->J.go i H ->
  wpAny (model P w) X.A (pyNext (.ref it)) (fun r s1=>∃u,r=some u /\
   wpAny (model P w) X.A (letOwnedTupleGo tg (.ref it) u) (fun _ s2=>∃x H',Inv X pins σ H' s2/\RelV x u/\J.yld i H x H'/\tn (i+1) s2.heap/\∀b∈fp,H' b=none) E s1) E s
 done:∀(X:Cx),X.prog=P->X.w=w->X.K=K->X.calm=true->∀(i:Nat) (pins:List (Addr×Obj)) (s:Shared) (σ:St) (H:Hp) (E:Value->Shared->Prop),Inv X pins σ H s->(∀b∈fp,dE X pins H b)->tn i s.heap->J.stop i H ->
  wpAny (model P w) X.A (pyNext (.ref it)) (fun r s1=>r=none/\Inv X pins σ H s1) E s
 self:∀(A:Around) (i:Nat) (s:Shared) (Q:Value->Shared->Prop) (E:Value->Shared->Prop),tn i s.heap->Q (.ref it) s->wpAny (model P w) A (pyIter (.ref it)) Q E s
abbrev TI:=St->Hp->(It->Hp->Prop)->Prop
def PIE (X:Cx)(pins:List (Addr×Obj))(σ:St)(tg:Expr)(R:It->Hp->Prop)(itv:Value)(s2:Shared):Prop :=
 ∃(it:Addr) (fp:List Addr) (tn:Nat->Heap->Prop) (J:It) (H':Hp),itv=.ref it/\Inv X pins σ H' s2/\Zt X.prog X.w X.K tg J fp it tn/\tn 0 s2.heap/\(∀b∈fp,dE X pins H' b)/\R J H'
def PI (X:Cx)(tg iter:Expr)(wi:TI):Prop :=
 ∀(pins:List (Addr×Obj)) (s:Shared) (σ:St) (H:Hp) (R:It->Hp->Prop),Inv X pins σ H s->wi σ H R ->
  wpAny (model X.prog X.w) X.A (eval iter X.env) (fun v s1=>wpAny (model X.prog X.w) X.A (pyIter v) (PIE X pins σ tg R) X.xe s1) X.xe s
theorem QT {M:Model}{A:Around}{E:Value->Shared->Prop}{s:Shared}{tg:Expr}{it:Addr}{u:Value}{o:Obj}{n:String}{vs:Array Value}{Q:Unit->Shared->Prop}(ho:s.heap.get? it=some o)(hc:o.cls=.type n)(hd:o.data=.fields vs)
  (hn:["enumerate","zip","dict_itemiterator","dict_reverseitemiterator","odict_iterator","itertools.zip_longest","itertools.pairwise"].contains n=false) (hQ:Q () s):wpAny M A (letOwnedTupleGo tg (.ref it) u) Q E s:=by
 unfold letOwnedTupleGo
 cases tg<;>first
  |exact AE hQ
  | (cases u<;>first
    |exact AE hQ
    | (refine AB (wpAny_load ho ?_)
       rw[hc,hd];show wpAny M A (if (["enumerate","zip","dict_itemiterator","dict_reverseitemiterator","odict_iterator","itertools.zip_longest","itertools.pairwise"].contains n&&vs[0]?==some (rawInt _))=true then _ else _) Q E s;rw[AT (by intro h; rw[hn,Bool.false_and] at h; cases h)]
       exact AE hQ))
def Itl (K:DK)(a:Addr):It :=
 ⟨fun i H=>∃xs x,SqL K H a xs/\xs[i]?=some x,fun i H x H'=>H'=H/\∀xs,SqL K H a xs->xs[i]?=some x,fun i H=>∃xs,SqL K H a xs/\xs.length<=i⟩
def Itt (K:DK)(a:Addr):It :=
 ⟨fun i H=>∃xs x,SqT K H a xs/\xs[i]?=some x,fun i H x H'=>H'=H/\∀xs,SqT K H a xs->xs[i]?=some x,fun i H=>∃xs,SqT K H a xs/\xs.length<=i⟩
def Itr (lo:Int)(n:Nat):It:=⟨fun i _=>i < n,fun i H x H'=>H'=H/\x=.int (lo+i),fun i _=>n<=i⟩
theorem Xp {P:Program}{w:World}{K:DK}{tg:Expr}(a it:Addr):Zt P w K tg (Itl K a) [it] it (fun i h=>h.IsListIter it a i) where
 mem:=by simp
 obj:=fun i h st b hb=>by
  have e:b=it:=by simpa using hb
  subst e;obtain⟨o,e,c,d⟩:=st;exact⟨o,e,fun v z=>by rw[d] at z; cases z⟩
 keep:=fun i h h' st k=>st.at fun o e=>k it (by simp) o e
 item:=by
  intro X hP hw hK hc i pins s σ H E I hf st hg;subst hP hw hK;obtain⟨xs,x,hq,hx⟩:=hg;obtain⟨its,rv,p,hz⟩:=I.list hq;obtain⟨u,hu,ru⟩:=rv.get hx;obtain⟨f0,f1,f2,f3,f4,f5⟩:=hf it (by simp);refine wpAny_pyNext_list_item st p.isList (x:=u) (by simpa using hu) fun h' st' sb=>?_;have I1:Inv X pins σ H { s with heap:=h' }:=I.turned (t':=s.toks) (fun b o hb e=>(sb.2 b hb).trans e) f0 f1 f3 f4 f5;obtain⟨o,e,c,d⟩:=id st'
  exact⟨u,rfl,QT (s:={ s with heap:=h' }) e c d (by decide) ⟨x,H,I1,ru,⟨rfl,fun ys hy=>by rw[I.list_inj hy hq]; exact hx⟩,st',fun b hb=>(hf b hb).1⟩⟩
 done:=by
  intro X hP hw hK hc i pins s σ H E I hf st hg;subst hP hw hK;obtain⟨xs,hq,hx⟩:=hg;obtain⟨its,rv,p,hz⟩:=I.list hq;obtain⟨f0,f1,f2,f3,f4,f5⟩:=hf it (by simp);have hl:=rv.length;exact wpAny_pyNext_list_end (I.ok.hd hc) st p.isList (by simp; omega) fun h' eb=>⟨rfl,I.turned (t':=s.toks) (fun b o hb e=>eb b o hb e) f0 f1 f3 f4 f5⟩
 self:=fun _ _ _ _ _ st h=>wpAny_pyIter_listiter st h
theorem rE {P:Program}{w:World}{K:DK}{tg:Expr}(a it:Addr):Zt P w K tg (Itt K a) [it] it (fun i h=>h.IsTupleIter it a i) where
 mem:=by simp
 obj:=fun i h st b hb=>by
  have e:b=it:=by simpa using hb
  subst e;obtain⟨o,e,c,d⟩:=st;exact⟨o,e,fun v z=>by rw[d] at z; cases z⟩
 keep:=fun i h h' st k=>st.at fun o e=>k it (by simp) o e
 item:=by
  intro X hP hw hK hc i pins s σ H E I hf st hg;subst hP hw hK;obtain⟨xs,x,hq,hx⟩:=hg;obtain⟨its,rv,p,hz⟩:=I.tuple hq;obtain⟨u,hu,ru⟩:=rv.get hx;obtain⟨f0,f1,f2,f3,f4,f5⟩:=hf it (by simp);refine wpAny_pyNext_tuple_item st (show s.heap.IsTuple a its.toArray from p) (x:=u) (by simpa using hu) fun h' st' sb=>?_;have I1:Inv X pins σ H { s with heap:=h' }:=I.turned (t':=s.toks) (fun b o hb e=>(sb.2 b hb).trans e) f0 f1 f3 f4 f5
  obtain⟨o,e,c,d⟩:=id st';exact⟨u,rfl,QT (s:={ s with heap:=h' }) e c d (by decide) ⟨x,H,I1,ru,⟨rfl,fun ys hy=>by rw[I.tuple_inj hy hq]; exact hx⟩,st',fun b hb=>(hf b hb).1⟩⟩
 done:=by
  intro X hP hw hK hc i pins s σ H E I hf st hg;subst hP hw hK;obtain⟨xs,hq,hx⟩:=hg;obtain⟨its,rv,p,hz⟩:=I.tuple hq;obtain⟨f0,f1,f2,f3,f4,f5⟩:=hf it (by simp);have hl:=rv.length;exact wpAny_pyNext_tuple_end (I.ok.hd hc) st (show s.heap.IsTuple a its.toArray from p) (by simp; omega) fun h' eb=>⟨rfl,I.turned (t':=s.toks) (fun b o hb e=>eb b o hb e) f0 f1 f3 f4 f5⟩
 self:=fun _ _ _ _ _ st h=>wpAny_pyIter_tupleiter st h
theorem nE {P:Program}{w:World}{K:DK}{tg:Expr}(it:Addr)(lo:Int)(n:Nat):Zt P w K tg (Itr lo n) [it] it (fun i h=>IsRangeIter h it (lo+(i:Nat) * 1) ((n:Int) - (i:Nat)) 1) where
 mem:=by simp
 obj:=fun i h st b hb=>by
  have e:b=it:=by simpa using hb
  subst e
  exact⟨_,st,fun v z=>by
   have z':Data.fields _=Data.cell v:=z
   cases z'⟩
 keep:=fun i h h' st k=>k it (by simp) _ st
 item:=by
  intro X hP hw hK hc i pins s σ H E I hf st hg;subst hP hw hK;obtain⟨f0,f1,f2,f3,f4,f5⟩:=hf it (by simp);have W:=Walks.range (prog:=X.prog) (w:=X.w) (I.ok.hd hc) it lo 1 n;refine W.item i s _ _ hg st fun v h' tk hv st' kk=>?_;obtain⟨t,rfl⟩:=hv;have I1:Inv X pins σ H { s with heap:=h',toks:=tk }:=I.turned (fun b o hb e=>kk b o (by simpa using hb) e) f0 f1 f3 f4 f5;refine⟨_,rfl,QT (s:={ s with heap:=h',toks:=tk }) (n:="range_iterator") st' rfl rfl (by decide) ⟨.int (lo+i),H,I1,⟨t,?_⟩,⟨rfl,rfl⟩,st',fun b hb=>(hf b hb).1⟩⟩
  rw[Int.mul_one]
 done:=by
  intro X hP hw hK hc i pins s σ H E I hf st hg;subst hP hw hK;obtain⟨f0,f1,f2,f3,f4,f5⟩:=hf it (by simp);exact wpAny_pyNext_range_end (I.ok.hd hc) st (by have:n<=i:=hg; omega) fun h' eb=>⟨rfl,I.turned (t':=s.toks) (fun b o hb e=>eb b o hb e) f0 f1 f3 f4 f5⟩
 self:=fun _ _ _ _ _ st h=>wpAny_pyIter_rangeiter st h
section
variable {X:Cx}{tg:Expr}
def iList (K:DK)(tl:TE):TI:=fun σ H R=>tl σ H fun x H1=>∃a,x=.ref a/\(∃xs,SqL K H1 a xs)/\R (Itl K a) H1
def iTup (K:DK)(tl:TE):TI:=fun σ H R=>tl σ H fun x H1=>∃a,x=.ref a/\(∃xs,SqT K H1 a xs)/\R (Itt K a) H1
theorem pi_list {l:Expr}{tl:TE}(hl:PE X l tl):PI X tg l (iList X.K tl):=by
 intro pins s σ H R I h;refine thn (hl pins s σ H _ I h) fun v s1 ⟨x,H1,I1,r1,q1⟩=>?_;obtain⟨a,e,⟨xs,hq⟩,q⟩:=q1;subst e;cases r1;obtain⟨its,rv,p,hz⟩:=I1.list hq;refine wpAny_pyIter_list p.isList ?_;refine⟨s1.heap.objs.size,[s1.heap.objs.size],_,_,H1,rfl,I1.kept (t':=s1.toks) fun b o e=>AF _ e,Xp a _,⟨_,Aa _ rfl,rfl,rfl⟩,fun b hb=>?_,q⟩;have e:b=s1.heap.objs.size:=by simpa using hb
 subst e;exact I1.fpOk (AJ _) (I1.hok.fresh (AJ _))
theorem pi_tup {l:Expr}{tl:TE}(hl:PE X l tl):PI X tg l (iTup X.K tl):=by
 intro pins s σ H R I h;refine thn (hl pins s σ H _ I h) fun v s1 ⟨x,H1,I1,r1,q1⟩=>?_;obtain⟨a,e,⟨xs,hq⟩,q⟩:=q1;subst e;cases r1;obtain⟨its,rv,p,hz⟩:=I1.tuple hq;refine wpAny_pyIter_tuple (show s1.heap.IsTuple a its.toArray from p) ?_;refine⟨s1.heap.objs.size,[s1.heap.objs.size],_,_,H1,rfl,I1.kept (t':=s1.toks) fun b o e=>AF _ e,rE a _,⟨_,Aa _ rfl,rfl,rfl⟩,fun b hb=>?_,q⟩
 have e:b=s1.heap.objs.size:=by simpa using hb
 subst e;exact I1.fpOk (AJ _) (I1.hok.fresh (AJ _))
theorem Z4 {pins:List (Addr×Obj)}{σ:St}{H:Hp}{s:Shared}{R:It->Hp->Prop}{E:Value->Shared->Prop}{lo hi:Int}{t u v:Tok}{tk:Nat}(I:Inv X pins σ H s)(h1 : -(2 ^ 62)<=lo)(h2:lo < 2 ^ 62)(h3 : -(2 ^ 62)<=hi)(h4:hi < 2 ^ 62)
  (q:R (Itr lo (hi - lo).toNat) H):wpAny (model X.prog X.w) X.A (pyIter (.ref s.heap.objs.size)) (PIE X pins σ tg R) E { s with heap:=s.heap.push { cls:=.type "range",data:=.fields #[.int lo t,.int hi u,.int 1 v] },toks:=tk }:=by
 refine wpAny_pyIter_range (IsRange.new ..) (small_one h1 h2 h3 h4) ?_;have I1:Inv X pins σ H { s with heap:=s.heap.push { cls:=.type "range",data:=.fields #[.int lo t,.int hi u,.int 1 v] },toks:=tk }:=I.kept fun b o e=>AF _ e
 refine⟨(s.heap.push { cls:=.type "range",data:=.fields #[.int lo t,.int hi u,.int 1 v] }).objs.size,[(s.heap.push { cls:=.type "range",data:=.fields #[.int lo t,.int hi u,.int 1 v] }).objs.size],_,_,H,rfl,
  I1.kept (t':=tk) fun b o e=>AF _ e,nE _ lo (hi - lo).toNat,?_,fun b hb=>?_,q⟩
 .have e1:lo+((0:Nat):Int) * 1=lo:=by simp
  have e2:(((hi - lo).toNat:Nat):Int) - ((0:Nat):Int)=Builtin.Range.rangeSize lo hi 1:=by rw[rangeSize_one]; split<;>omega
  show IsRangeIter _ _ (lo+((0:Nat):Int) * 1) ((((hi - lo).toNat:Nat):Int) - ((0:Nat):Int)) 1;rw[e1,e2];exact Aa _ rfl
 .have e:b=(s.heap.push { cls:=.type "range",data:=.fields #[.int lo t,.int hi u,.int 1 v] }).objs.size:=by simpa using hb
  subst e;exact I1.fpOk (AJ _) (I1.hok.fresh (AJ _))
def Km (ta:TA):TI:=fun σ H R=>ta σ H fun vs H1=>∃j:Int,vs=[.int j]/\-(2 ^ 62)<=j/\j < 2 ^ 62/\R (Itr 0 j.toNat) H1
theorem XD {a:Expr}{ta:TA}{p pos:Pos}(hg:Gl X "range")(hm:X.mg "range" = none)(ha:PA X [a] ta)(hs:starEach [a] X.env=[(false,eval a X.env)]:=by rfl):PI X tg (.Call (.Name "range" p) [a] [] pos) (Km ta):=by
 intro pins s σ H R I h;refine Call_ (eA I hg hm boot_range (PyProof.Rows.callWith_type1 (thn (ha pos pins s σ H _ I h) fun us s1 ⟨vs,H1,I1,r1,q1⟩=>?_) hs rfl));obtain⟨j,e,q1,q2,q⟩:=q1;subst e
 cases r1 with
 |cons r rr =>
  cases rr;obtain⟨t,rfl⟩:=r;exact call_range_1 (Z4 I1 (by omega) (by omega) q1 q2 (by simpa using q))
def tFor (wi:TI)(g:TG)(tb:TS):TS:=fun D σ H=>wi σ H fun J H1=>∃W:Nat->Nat->St->Hp->Prop,(∃m,W 0 m σ H1)/\∀i m σ H,W i m σ H ->
 (J.stop i H/\D.nx σ H)\/(J.go i H/\∃N:St->Hp->Prop,(∀σ' H',N σ' H'->∃m',m' < m/\W (i+1) m' σ' H')/\∀x H',J.yld i H x H'->g x σ H' fun σ2 H2=>tb { D with nx:=N,ct:=N,bk:=D.nx } σ2 H2)
def bL (fp:List Addr)(h:Heap):List (Addr×Obj):=fp.filterMap fun b=>(h.get? b).map fun o=>(b,o)
theorem cY {fp:List Addr}{h:Heap}{b:Addr}{o:Obj}(hb:b∈fp)(e:h.get? b=some o):(b,o)∈bL fp h:=List.mem_filterMap.mpr ⟨b,hb,by rw[e]; rfl⟩
theorem XR {fp:List Addr}{h:Heap}{p:Addr×Obj}(hp:p∈bL fp h):p.1∈fp/\h.get? p.1=some p.2:=by
 obtain⟨b,hb,e⟩:=List.mem_filterMap.mp hp
 cases q:h.get? b with
 |none=>rw[q] at e; cases e
 |some o =>
  rw[q] at e;have e':(b,o)=p:=Ar e;subst e';exact⟨hb,q⟩
theorem Inv.pinned {pins:List (Addr×Obj)}{σ:St}{H:Hp}{s:Shared}{fp:List Addr}(I:Inv X pins σ H s)(hf:∀b∈fp,dE X pins H b)(ho:∀b∈fp,∃o,s.heap.get? b=some o/\∀v,o.data≠.cell v):Inv X (pins++bL fp s.heap) σ H s :=
 I.pins_of fun p hp=>(An.mp hp).elim (fun z=>I.pin p (AY _ z)) fun z=>by
  obtain⟨hb,e⟩:=XR z;obtain⟨f0,f1,f2,_⟩:=hf p.1 hb;obtain⟨o,e',d⟩:=ho p.1 hb;rw[e] at e'; cases e'
  exact⟨e,f0,f1,f2,d⟩
theorem Inv.unpinned {pins pl:List (Addr×Obj)}{σ:St}{H:Hp}{s:Shared}(I:Inv X (pins++pl) σ H s):Inv X pins σ H s:=I.pins_of fun p hp=>I.pin p (AY _ (A0 _ hp))
theorem ps_for {iter:Expr}{body:List Stmt}{wi:TI}{g:TG}{tb:TS}{pos:Pos}(hp:PassesOwn (model X.prog X.w) X.A X.env X.xe)(hc:X.calm=true)(hi:PI X tg iter wi)(hg:PG X tg g)(hb:PSs X body tb)
  (hs:∀x,foldedSetIterable iter X.env x=pure x:=by intro _; rfl):PS X (.For tg iter body [] pos) (tFor wi g tb):=by
 intro pins s σ H D I h;refine wpAny_For (thn (hi pins s σ H _ I h) fun v s1 h1=>thn h1 fun itv s2 h2=>?_) hs;obtain⟨it,fp,tn,J,H2,e,I2,T,st2,f2,W,⟨m0,w0⟩,turn⟩:=h2;subst e;have stat:∀{H':Hp},(∀b∈fp,H' b=none)->∀b∈fp,dE X pins H' b:=fun hn b hb=>⟨hn b hb,(f2 b hb).2⟩;refine codeAny_forLoop_any (fun n s'=>∃i σ' H',Inv X pins σ' H' s'/\tn i s'.heap/\(∀b∈fp,H' b=none)/\W i n σ' H') ?_ m0 ⟨0,σ,H2,I2,st2,fun b hb=>(f2 b hb).1,w0⟩
 rintro n s3 ⟨i,σ3,H3,I3,st3,fr3,w3⟩
 rcases turn i n σ3 H3 w3 with ⟨stop,qn⟩ | ⟨go,N,hN,step⟩
 .refine CJ hp (thn (T.done X rfl rfl rfl hc i pins s3 σ3 H3 X.xe I3 (stat fr3) st3 stop) fun r s4 ⟨hr,I4⟩=>?_)
  subst hr;exact wpAny_execs_nil ⟨σ3,H3,I4,qn⟩
 .refine CJ hp (thn (T.item X rfl rfl rfl hc i pins s3 σ3 H3 X.xe I3 (stat fr3) st3 go) fun r s4 ⟨u,hr,h4⟩=>?_)
  subst hr;refine CJ hp (thn h4 fun _ s5 zq=>?_);obtain⟨x,H5,I5,r5,y5,st5,fr5⟩:=zq;have I5':=I5.pinned (stat fr5) (T.obj _ _ st5);refine CJ hp (thn (hg _ s5 σ3 H5 x u _ I5' r5 (step x H5 y5)) fun _ s6 ⟨σ6,H6,I6,q6⟩=>?_);refine CJ hp (thn (hb _ s6 σ6 H6 _ I6 q6) fun f s7 q7=>?_)
  have again:∀{σ7:St} {H7:Hp},Inv X (pins++bL fp s5.heap) σ7 H7 s7->N σ7 H7->∃m,m < n/\∃i σ' H',Inv X pins σ' H' s7/\tn i s7.heap/\(∀b∈fp,H' b=none)/\W i m σ' H':=fun {σ7 H7} I7 n7=>by
   obtain⟨m',hm,w7⟩:=hN σ7 H7 n7;refine⟨m',hm,i+1,σ7,H7,I7.unpinned,T.keep _ _ _ st5 fun b hb o e=>(I7.pin (b,o) (AY _ (AY _ (cY hb e)))).1,fun b hb=>?_,w7⟩;obtain⟨o,e,d⟩:=T.obj _ _ st5 b hb;exact(I7.pin (b,o) (AY _ (AY _ (cY hb e)))).2.1
  cases f with
  |next=>obtain⟨σ7,H7,I7,n7⟩:=q7; exact again I7 n7
  |cont=>obtain⟨σ7,H7,I7,n7⟩:=q7; exact again I7 n7
  |brk=>obtain⟨σ7,H7,I7,q7⟩:=q7; exact⟨σ7,H7,I7.unpinned,q7⟩
  |ret v=>obtain⟨x7,σ7,H7,I7,r7,q7⟩:=q7; exact⟨x7,σ7,H7,I7.unpinned,r7,q7⟩
end
abbrev R2:=V->V->Hp->VK->Prop
def OpR (X:Cx)(f:Value->Value->Sem Value)(r:R2):Prop :=
 ∀(pins:List (Addr×Obj)) (s:Shared) (σ:St) (H:Hp) (x y:V) (v u:Value) (Q:VK),Inv X pins σ H s->RelV x v->RelV y u->r x y H Q ->
  wpAny (model X.prog X.w) X.A (f v u) (EP X pins σ Q) X.xe s
def UnR (X:Cx)(f:Value->Sem Value)(r:V->Hp->VK->Prop):Prop :=
 ∀(pins:List (Addr×Obj)) (s:Shared) (σ:St) (H:Hp) (x:V) (v:Value) (Q:VK),Inv X pins σ H s->RelV x v->r x H Q ->
  wpAny (model X.prog X.w) X.A (f v) (EP X pins σ Q) X.xe s
def CallR (X:Cx)(f:Value)(r:List V->Hp->VK->Prop):Prop :=
 ∀(pins:List (Addr×Obj)) (s:Shared) (σ:St) (H:Hp) (xs:List V) (us:List Value) (Q:VK),Inv X pins σ H s->Vals xs us->r xs H Q ->
  wpAny (model X.prog X.w) X.A (call f us) (EP X pins σ Q) X.xe s
def tOp (r:R2)(ta tb:TE):TE:=fun σ H Q=>ta σ H fun x H1=>tb σ H1 fun y H2=>r x y H2 Q
def tUn (r:V->Hp->VK->Prop)(ta:TE):TE:=fun σ H Q=>ta σ H fun x H1=>r x H1 Q
inductive II (C:Int->Int->Prop)(g:Int->Int->V)(x y:V)(H:Hp)(Q:VK):Prop
 |mk (i j:Int) (h:x=.int i) (h':y=.int j) (c:C i j) (q:Q (g i j) H):II C g x y H Q
def rI (C:Int->Int->Prop)(g:Int->Int->V):R2:=II C g
inductive II0 (g:Int->Int->V)(x y:V)(H:Hp)(Q:VK):Prop
 |mk (i j:Int) (h:x=.int i) (h':y=.int j) (q:Q (g i j) H):II0 g x y H Q
def rI0 (g:Int->Int->V):R2:=II0 g
def rU (g:Int->V):V->Hp->VK->Prop:=fun x H Q=>∃i,x=.int i/\Q (g i) H
section
variable {X:Cx}{a b c:Expr}{ta tb tc:TE}{pos:Pos}
theorem binT (ha:PE X a ta)(hb:PE X b tb){pins:List (Addr×Obj)}{s:Shared}{σ:St}{H:Hp}{R:V->V->Hp->Prop}(I:Inv X pins σ H s)
  (h:ta σ H fun x H1=>tb σ H1 fun y H2=>R x y H2) {Q:Value->Shared->Prop} {f:Value->Value->Sem Value}
  (hf:∀v u s2 x y H2,Inv X pins σ H2 s2->RelV x v->RelV y u->R x y H2->wpAny (model X.prog X.w) X.A (f v u) Q X.xe s2) :
  wpAny (model X.prog X.w) X.A (eval a X.env) (fun v s₁=>wpAny (model X.prog X.w) X.A (eval b X.env) (fun u s₂=>wpAny (model X.prog X.w) X.A (f v u) Q X.xe s₂) X.xe s₁) X.xe s:=by
 refine thn (ha pins s σ H _ I h) fun v s1 ⟨x,H1,I1,r1,q1⟩=>?_;refine thn (hb pins s1 σ H1 _ I1 q1) fun u s2 ⟨y,H2,I2,r2,q2⟩=>?_;exact hf v u s2 x y H2 I2 r1 r2 q2
theorem pe_op {op:Operator}{r:R2}(ho:OpR X (binaryOp op) r)(ha:PE X a ta)(hb:PE X b tb):PE X (.BinOp a op b pos) (tOp r ta tb):=by
 intro pins s σ H Q I h;exact wpAny_BinOp (binT ha hb I h fun v u s2 x y H2 I2 rx ry q=>ho pins s2 σ H2 x y v u Q I2 rx ry q)
theorem pe_un {op:UnaryOp}{r:V->Hp->VK->Prop}(ho:UnR X (unaryOp op) r)(ha:PE X a ta):PE X (.UnaryOp op a pos) (tUn r ta):=by
 intro pins s σ H Q I h;exact UnaryOp_ (thn (ha pins s σ H _ I h) fun v s1 ⟨x,H1,I1,r1,q1⟩=>ho pins s1 σ H1 x v Q I1 r1 q1)
theorem opI {f:Value->Value->Sem Value}{C:Int->Int->Prop}{g:Int->Int->Int}
  (rule:∀(i j:Int) (t u:Tok) (s:Shared) (Q:Value->Shared->Prop) (E:Value->Shared->Prop),C i j->Q (.int (g i j) s.toks) { s with toks:=s.toks+1 }->wpAny (model X.prog X.w) X.A (f (.int i t) (.int j u)) Q E s) :
  OpR X f (rI C fun i j=>.int (g i j)):=by
 intro pins s σ H x y v u Q I rx ry h;obtain⟨i,j,rfl,rfl,hc,q⟩:=h;obtain⟨t,rfl⟩:=rx;obtain⟨t',rfl⟩:=ry;exact rule i j t t' s _ _ hc ⟨.int (g i j),H,I.tok _,⟨_,rfl⟩,q⟩
theorem opI0 {f:Value->Value->Sem Value}{g:Int->Int->Int}
  (rule:∀(i j:Int) (t u:Tok) (s:Shared) (Q:Value->Shared->Prop) (E:Value->Shared->Prop),Q (.int (g i j) s.toks) { s with toks:=s.toks+1 }->wpAny (model X.prog X.w) X.A (f (.int i t) (.int j u)) Q E s) :
  OpR X f (rI0 fun i j=>.int (g i j)):=by
 intro pins s σ H x y v u Q I rx ry h;obtain⟨i,j,rfl,rfl,q⟩:=h;obtain⟨t,rfl⟩:=rx;obtain⟨t',rfl⟩:=ry;exact rule i j t t' s _ _ ⟨.int (g i j),H,I.tok _,⟨_,rfl⟩,q⟩
theorem opB0 {f:Value->Value->Sem Value}{g:Int->Int->Bool}
  (rule:∀(i j:Int) (t u:Tok) (s:Shared) (Q:Value->Shared->Prop) (E:Value->Shared->Prop),Q (.bool (g i j)) s->wpAny (model X.prog X.w) X.A (f (.int i t) (.int j u)) Q E s) :
  OpR X f (rI0 fun i j=>.bl (g i j)):=by
 intro pins s σ H x y v u Q I rx ry h;obtain⟨i,j,rfl,rfl,q⟩:=h;obtain⟨t,rfl⟩:=rx;obtain⟨t',rfl⟩:=ry;exact rule i j t t' s _ _ ⟨.bl (g i j),H,I,rfl,q⟩
def CPow (i j:Int):Prop:=0<=j/\j<=1000000/\i.natAbs < 2 ^ 64
def CMul (i j:Int):Prop:=(-(2 ^ 64) < i/\i < 2 ^ 64)\/(-(2 ^ 64) < j/\j < 2 ^ 64)
theorem CMul.ok {i j:Int}(h:CMul i j):IntMulOk i j:=by
 rcases h with ⟨h1,h2⟩ | ⟨h1,h2⟩
 .exact .of_left (intBits_le_64 h1 h2)
 .exact .of_right (intBits_le_64 h1 h2)
theorem op_add:OpR X (binaryOp .Add) (rI0 fun i j=>.int (i+j)):=opI0 fun _ _ _ _ _ _ _ q=>add_int q
theorem qV:OpR X (binaryOp .Sub) (rI0 fun i j=>.int (i - j)):=opI0 fun _ _ _ _ _ _ _ q=>sub_int q
theorem sM:OpR X (binaryOp .Mult) (rI CMul fun i j=>.int (i * j)):=opI fun _ _ _ _ _ _ _ hc q=>mul_int q hc.ok
theorem nG:OpR X (binaryOp .Mod) (rI (fun _ j=>0 < j) fun i j=>.int (i % j)):=opI fun i j _ _ _ _ _ hc q=>by
 have h1:(0:Int) < j:=hc;exact mod_int' (by omega) (by rw[Int.fmod_eq_emod_of_nonneg i (by omega)]; exact q)
theorem wA:OpR X (binaryOp .Pow) (rI CPow fun i j=>.int (i ^ j.toNat)):=opI fun _ _ _ _ _ _ _ hc q=>pow_int_small hc.1 hc.2.1 hc.2.2 q
theorem unI {f:Value->Sem Value}{g:Int->Int}
  (rule:∀(i:Int) (t:Tok) (s:Shared) (Q:Value->Shared->Prop) (E:Value->Shared->Prop),Q (.int (g i) s.toks) { s with toks:=s.toks+1 }->wpAny (model X.prog X.w) X.A (f (.int i t)) Q E s) :
  UnR X f (rU fun i=>.int (g i)):=by
 intro pins s σ H x v Q I rx h;obtain⟨i,rfl,q⟩:=h;obtain⟨t,rfl⟩:=rx;exact rule i t s _ _ ⟨.int (g i),H,I.tok _,⟨_,rfl⟩,q⟩
theorem jL:UnR X (unaryOp .USub) (rU fun i=>.int (-i)):=unI fun _ _ _ _ _ q=>neg_int q
end
def scal:V->V->Bool
 |.non,.non=>true | .non,.int _=>true | .int _,.non=>true | .non,.bl _=>true | .bl _,.non=>true | .non,.str _=>true | .str _,.non=>true
 |.int _,.int _=>true | .bl _,.bl _=>true | .str _,.str _=>true | .byt _,.byt _=>true
 |.int _,.str _=>true | .str _,.int _=>true | .bl _,.str _=>true | .str _,.bl _=>true
 |_,_=>false
def rEq:R2:=fun x y H Q=>scal x y=true/\Q (.bl (decide (x=y))) H
def rNe:R2:=fun x y H Q=>scal x y=true/\Q (.bl (!decide (x=y))) H
theorem Q4 {i j:Int}:decide (V.int i=V.int j)=(i==j):=by
 rw[CM]
 simp
theorem KM {i j:Bool}:decide (V.bl i=V.bl j)=(i==j):=by
 rw[CM]
 simp
theorem Q3 {i j:Str}:decide (V.str i=V.str j)=(i==j):=by
 rw[CM]
 simp
theorem Q5 {i j:Array UInt8}:decide (V.byt i=V.byt j)=(i.toList==j.toList):=by
 rw[CM];cases i;cases j
 simp
section
variable {X:Cx}{a b c:Expr}{ta tb tc:TE}{pos:Pos}
theorem pX {pins:List (Addr×Obj)}{σ:St}{H:Hp}{s:Shared}{Q:VK}{k k':Bool}(I:Inv X pins σ H s)(q:Q (.bl k) H)(e:k=k'):EP X pins σ Q (.bool k') s:=by
 subst e;exact⟨.bl k,H,I,rfl,q⟩
theorem cX:OpR X (compareOp .Eq) rEq:=by
 intro pins s σ H x y v u Q I rx ry h;obtain⟨hs,q⟩:=h
 cases x with
 |non =>
  cases rx
  cases y with
  |non=>cases ry; exact PySem.EqNone.eq_none_none (pX I q (by simp))
  |bl j=>cases ry; exact PySem.EqNone.eq_none_bool (pX I q (by simp))
  |int j=>obtain⟨t',rfl⟩:=ry; exact PySem.EqNone.eq_none_int (pX I q (by simp))
  |str j=>obtain⟨t',rfl⟩:=ry; exact PySem.EqNone.eq_none_str (pX I q (by simp))
  |_=>exact absurd (show false=true from hs) AL
 |bl i =>
  cases rx
  cases y with
  |non=>cases ry; exact PySem.EqNone.eq_bool_none (pX I q (by simp))
  |bl j=>cases ry; exact eq_bool (pX I q KM)
  |str j=>obtain⟨t',rfl⟩:=ry; exact PySem.EqMixed.eq_bool_str (pX I q (by simp))
  |_=>exact absurd (show false=true from hs) AL
 |int i =>
  obtain⟨t,rfl⟩:=rx
  cases y with
  |non=>cases ry; exact PySem.EqNone.eq_int_none (pX I q (by simp))
  |int j=>obtain⟨t',rfl⟩:=ry; exact eq_int (pX I q Q4)
  |str j=>obtain⟨t',rfl⟩:=ry; exact PySem.EqMixed.eq_int_str (pX I q (by simp))
  |_=>exact absurd (show false=true from hs) AL
 |str i =>
  obtain⟨t,rfl⟩:=rx
  cases y with
  |non=>cases ry; exact PySem.EqNone.eq_str_none (pX I q (by simp))
  |bl j=>cases ry; exact PySem.EqMixed.eq_str_bool (pX I q (by simp))
  |int j=>obtain⟨t',rfl⟩:=ry; exact PySem.EqMixed.eq_str_int (pX I q (by simp))
  |str j=>obtain⟨t',rfl⟩:=ry; exact eq_str (pX I q Q3)
  |_=>exact absurd (show false=true from hs) AL
 |byt i =>
  obtain⟨t,rfl⟩:=rx
  cases y with
  |byt j=>obtain⟨t',rfl⟩:=ry; exact PySem.W.eq_bytes (pX I q Q5)
  |_=>exact absurd (show false=true from hs) AL
 |_=>cases y<;>exact absurd (show false=true from hs) AL
theorem Jx:OpR X (compareOp .NotEq) rNe:=by
 intro pins s σ H x y v u Q I rx ry h;obtain⟨hs,q⟩:=h
 cases x with
 |non =>
  cases rx
  cases y with
  |non=>cases ry; exact PySem.EqNone.ne_none_none (pX I q (by simp))
  |bl j=>cases ry; exact PySem.EqNone.ne_none_bool (pX I q (by simp))
  |int j=>obtain⟨t',rfl⟩:=ry; exact PySem.EqNone.ne_none_int (pX I q (by simp))
  |str j=>obtain⟨t',rfl⟩:=ry; exact PySem.EqNone.ne_none_str (pX I q (by simp))
  |_=>exact absurd (show false=true from hs) AL
 |bl i =>
  cases rx
  cases y with
  |non=>cases ry; exact PySem.EqNone.ne_bool_none (pX I q (by simp))
  |bl j=>cases ry; exact ne_bool (pX I q (BE not KM))
  |str j=>obtain⟨t',rfl⟩:=ry; exact PySem.EqMixed.ne_bool_str (pX I q (by simp))
  |_=>exact absurd (show false=true from hs) AL
 |int i =>
  obtain⟨t,rfl⟩:=rx
  cases y with
  |non=>cases ry; exact PySem.EqNone.ne_int_none (pX I q (by simp))
  |int j=>obtain⟨t',rfl⟩:=ry; exact ne_int (pX I q (BE not Q4))
  |str j=>obtain⟨t',rfl⟩:=ry; exact PySem.EqMixed.ne_int_str (pX I q (by simp))
  |_=>exact absurd (show false=true from hs) AL
 |str i =>
  obtain⟨t,rfl⟩:=rx
  cases y with
  |non=>cases ry; exact PySem.EqNone.ne_str_none (pX I q (by simp))
  |bl j=>cases ry; exact PySem.EqMixed.ne_str_bool (pX I q (by simp))
  |int j=>obtain⟨t',rfl⟩:=ry; exact PySem.EqMixed.ne_str_int (pX I q (by simp))
  |str j=>obtain⟨t',rfl⟩:=ry; exact ne_str (pX I q (BE not Q3))
  |_=>exact absurd (show false=true from hs) AL
 |byt i =>
  obtain⟨t,rfl⟩:=rx
  cases y with
  |byt j=>obtain⟨t',rfl⟩:=ry; exact PySem.W.ne_bytes (pX I q (BE not Q5))
  |_=>exact absurd (show false=true from hs) AL
 |_=>cases y<;>exact absurd (show false=true from hs) AL
theorem iB:OpR X (compareOp .Lt) (rI0 fun i j=>.bl (decide (i < j))):=opB0 fun _ _ _ _ _ _ _ q=>lt_int q
theorem zK:OpR X (compareOp .Gt) (rI0 fun i j=>.bl (decide (j < i))):=opB0 fun _ _ _ _ _ _ _ q=>gt_int q
theorem op_isN:OpR X (compareOp .Is) (fun x y H Q=>y=.non/\Q (.bl (decide (x=.non))) H):=by
 intro pins s σ H x y v u Q I rx ry h;obtain⟨rfl,q⟩:=h;cases ry;refine is_none_gen (pX I q ?_)
 cases x<;>first
  | (cases rx; rfl)
  | (obtain⟨t,rfl⟩:=rx; rfl)
theorem op_notN:OpR X (compareOp .IsNot) (fun x y H Q=>y=.non/\Q (.bl (!decide (x=.non))) H):=by
 intro pins s σ H x y v u Q I rx ry h;obtain⟨rfl,q⟩:=h;cases ry;refine isnot_none_gen (pX I q ?_)
 cases x<;>first
  | (cases rx; rfl)
  | (obtain⟨t,rfl⟩:=rx; rfl)
theorem OpR.or {f:Value->Value->Sem Value}{r r':R2}(h:OpR X f r)(h':OpR X f r'):OpR X f (fun x y H Q=>r x y H Q\/r' x y H Q):=by
 intro pins s σ H x y v u Q I rx ry q
 rcases q with q | q
 .exact h pins s σ H x y v u Q I rx ry q
 .exact h' pins s σ H x y v u Q I rx ry q
theorem aU (b:Expr){op:CmpOp}(h:op≠.In:=by decide)(h2:op≠.NotIn:=by decide):behindInMarks op b=false:=by
 have e1:(op==CmpOp.In)=false:=by cases op<;>first | rfl | exact absurd rfl h
 have e2:(op==CmpOp.NotIn)=false:=by cases op<;>first | rfl | exact absurd rfl h2
 cases b<;>simp[behindInMarks,e1,e2]
theorem pe_cmpR {op:CmpOp}{r:R2}(ho:OpR X (compareOp op) r)(ha:PE X a ta)(hb:PE X b tb)(hm:behindInMarks op b=false):PE X (.Compare a [op] [b] pos) (tOp r ta tb):=by
 intro pins s σ H Q I h;exact wpAny_Compare1 (binT ha hb I h fun v u s2 x y H2 I2 rx ry q=>ho pins s2 σ H2 x y v u Q I2 rx ry q) hm
def ZM (t:TE):TT:=fun σ H Q=>t σ H (IBl Q)
theorem pt_cmpR {op:CmpOp}{r:R2}(ho:OpR X (compareOp op) r)(ha:PE X a ta)(hb:PE X b tb)(hm:behindInMarks op b=false):PT X (.Compare a [op] [b] pos) (ZM (tOp r ta tb)):=by
 intro pins s σ H Q I h
 refine wpAny_isTrue_Compare1 (thn (ha pins s σ H _ I h) fun v s1 ⟨x,H1,I1,r1,q1⟩=>thn (hb pins s1 σ H1 _ I1 q1) fun u s2 ⟨y,H2,I2,r2,q2⟩ =>
  thn (ho pins s2 σ H2 x y v u _ I2 r1 r2 q2) fun c s3 ⟨z,H3,I3,r3,k,e,q3⟩=>?_) hm
 subst e;cases r3;exact Cd ⟨H3,I3,q3⟩
theorem oM:(sizeLine:Nat) < 2 ^ 63:=by rw[BK]; decide
theorem yA:OpR X (binaryOp .Add) (fun x y H Q=>∃i j,x=.str i/\y=.str j/\i.length+j.length<=sizeLine/\Q (.str (i++j)) H):=by
 intro pins s σ H x y v u Q I rx ry h;obtain⟨i,j,rfl,rfl,hz,q⟩:=h;obtain⟨t,rfl⟩:=rx;obtain⟨t',rfl⟩:=ry;exact add_str (fun t' tk=>⟨.str (i++j),H,I.tok _,⟨_,rfl⟩,q⟩) hz
theorem pG {x:V}{us:List Value}(r:Vals [x] us):∃u,us=[u]/\RelV x u:=by
 cases r with
 |cons r1 r2=>cases r2; exact⟨_,rfl,r1⟩
theorem Qo {x y:V}{us:List Value}(r:Vals [x,y] us):∃u w',us=[u,w']/\RelV x u/\RelV y w':=by
 cases r with
 |cons r1 r2 =>
  cases r2 with
  |cons r3 r4=>cases r4; exact⟨_,_,rfl,r1,r3⟩
theorem Vh:CallR X (.builtin "abs") (fun xs H Q=>∃i,xs=[.int i]/\Q (.int (if i < 0 then -i else i)) H):=by
 intro pins s σ H xs us Q I r h;obtain⟨i,rfl,q⟩:=h;obtain⟨u,rfl,t,rfl⟩:=pG r;exact call_abs_int fun u tk=>⟨.int (if i < 0 then -i else i),H,I.tok _,⟨_,rfl⟩,q⟩
theorem Zl (hc:X.calm=true):CallR X (.builtin "max") (fun xs H Q=>∃i j,xs=[.int i,.int j]/\Q (.int (if j > i then j else i)) H):=by
 intro pins s σ H xs us Q I r h;obtain⟨i,j,rfl,q⟩:=h;obtain⟨u,w',rfl,⟨t,rfl⟩,⟨t',rfl⟩⟩:=Qo r;refine max_two_ints (I.ok.hd hc) fun h' tk k=>⟨_,H,I.kept k,?_,q⟩
 by_cases hj:j > i
 .rw [AW hj,AW hj]; exact⟨_,rfl⟩
 .rw [AT hj,AT hj]; exact⟨_,rfl⟩
theorem pN (hc:X.calm=true):CallR X (.builtin "min") (fun xs H Q=>∃i j,xs=[.int i,.int j]/\Q (.int (if j < i then j else i)) H):=by
 intro pins s σ H xs us Q I r h;obtain⟨i,j,rfl,q⟩:=h;obtain⟨u,w',rfl,⟨t,rfl⟩,⟨t',rfl⟩⟩:=Qo r;refine min_two_ints (I.ok.hd hc) fun h' tk k=>⟨_,H,I.kept k,?_,q⟩
 by_cases hj:j < i
 .rw [AW hj,AW hj]; exact⟨_,rfl⟩
 .rw [AT hj,AT hj]; exact⟨_,rfl⟩
theorem mU:CallR X (.type "int") (fun xs H Q=>(∃i,xs=[.int i]/\Q (.int i) H)\/∃k,xs=[.bl k]/\Q (.int (if k then 1 else 0)) H):=by
 intro pins s σ H xs us Q I r h
 rcases h with ⟨i,rfl,q⟩ | ⟨k,rfl,q⟩
 .obtain ⟨u,rfl,t,rfl⟩:=pG r
  exact call_int_int ⟨.int i,H,I,⟨_,rfl⟩,q⟩
 .obtain ⟨u,rfl,r1⟩:=pG r
  cases r1;exact call_int_bool ⟨.int (if k then 1 else 0),H,I.tok _,⟨_,rfl⟩,q⟩
end
structure ObjM (h:Heap)(x dx C:Addr)(mA:Str->Option Value):Prop where
 obj:h.get? x=some (PySem.W.instObj C dx)
 ns:h.Ns1 dx mA
 ne:dx≠x
theorem XX {h:Heap}{dx:Addr}{mA:Str->Option Value}(n:h.Ns1 dx mA):∃od,h.get? dx=some od/\∀name,PySem.W.lookIn name od=some (mA name):=by
 obtain⟨o,es,ep,ho,hd,hk,_,hm⟩:=n;refine⟨o,ho,fun name=>?_⟩;have e:=hm name;unfold nsFind findBy at e;rw[<- Array.find?_toList] at e;unfold PySem.W.lookIn;rw[hd];dsimp only
 split
 .rename_i y q
  rw[q] at e;exact BE some e
 .rename_i q
  rw[q] at e
  have a:es.toList.any (·.refKey)=false:=by
   rw[List.any_eq_false];intro y hy;obtain⟨z,t,hkey⟩:=hk y (DJ.mp hy)
   simp[DictEntry.refKey,hkey]
  have a':¬ es.toList.any (·.refKey)=true:=by rw[a]; exact AL
  rw[AT a'];exact BE some e
theorem ObjM.look {h:Heap}{x dx C:Addr}{mA:Str->Option Value}(I:ObjM h x dx C mA):∃od,PySem.W.InstAt h x (PySem.W.instObj C dx) C (some od)/\∀name,PySem.W.lookIn name od=some (mA name) :=
 let ⟨od,ho,hl⟩:=XX I.ns
 ⟨od,⟨I.obj,rfl,rfl,ho⟩,hl⟩
section
variable {prog:Program}{w:World}{A:Around}{E:Value->Shared->Prop}{s:Shared}{K:DK}{x dx C f:Addr}{mA:Str->Option Value}{name:Str}{v:Value}
theorem get_map {expr:Bool}{Q:Value->Shared->Prop}(X:K.In s.heap)(I:ObjM s.heap x dx C mA)(hg:PySem.W.plainGet K C name=true)(hh:PySem.W.hasDictIn K C=true)
  (ha:PySem.W.findIn K (.ref C) name=some none) (hv:mA name=some v) (hv':PySem.W.handedIn v=true) (h:Q v { s with toks:=s.toks+1 }) :
  wpAny (model prog w) A (getAttr (.ref x) name expr) Q E s:=by
 obtain⟨od,J,hl⟩:=I.look;exact PySem.W.get_value X J (PySem.W.plainGet_of hg).1 (PySem.W.findObj_own hh ha rfl (by rw[hl,hv])) hv' h
theorem Ks {pl:Sem Bool}{Q:Value×List Value->Shared->Prop}(X:K.In s.heap)(I:ObjM s.heap x dx C mA)(hg:PySem.W.plainGet K C name=true)
  (hf:PySem.W.findIn K (.ref C) name=some (some (.ref f))) (ht:PySem.W.isFn K (.ref f)=true) (hv:mA name=none) (h:Q (.ref f,[.ref x]) s) :
  wpAny (model prog w) A (getMethod (.ref x) name pl) Q E s:=by
 obtain⟨od,J,hl⟩:=I.look;exact PySem.W.method_fn X J (PySem.W.plainGet_of hg).1 (PySem.W.plainGet_of hg).2 hf (Cq.mp ht) (by show(PySem.W.lookIn name od).map (·.isSome)=some false; rw[hl,hv]; rfl) h
theorem set_map {ns:List Str}{Q:Unit->Shared->Prop}(X:K.In s.heap)(I:ObjM s.heap x dx C mA)
  (hs:PySem.W.findIn K (.ref C) "__setattr__" = some (some (.builtin "object.__setattr__"))) (hp:PySem.W.plainOver K C=true) (ht:PySem.W.takerIn K C name=some none) (hh:PySem.W.hasDictIn K C=true)
  (hw:PySem.Within mA ns) (hsz:ns.length<=sizeLine)
  (h:∀h',ObjM h' x dx C (fun y=>if y=name then some v else mA y)->Heap.SameBut dx s.heap h'->Q () { s with heap:=h',toks:=s.toks+2 }) :
  wpAny (model prog w) A (setAttr (.ref x) name v) Q E s:=by
 obtain⟨od,J,hl⟩:=I.look;refine PySem.W.set_plain X J hs (PySem.W.osa_open (s:={ s with toks:=s.toks+1 }) (r:=none) X J hp ht fun b=>?_);obtain⟨cd,hc,hd'⟩:=PySem.W.any_some hh;have hx:s.heap.get? x=some ⟨.ref C,some dx,.plain,#[]⟩:=I.obj;refine AB (AE (AB (AB (wpAny_loadPart hx (AB (PySem.W.Looks.here (s:={ s with toks:=s.toks+1 }) (PySem.W.looks_clsIn X hc) ?_))))))
 rw[hd'];refine AE (a:=some dx) (AB (AE (AB ?_)));refine wpAny_nsSet1 (s:={ s with toks:=s.toks+1 }) I.ns fun h' hn2 hs2=>?_;obtain⟨oD,esD,epD,hoD,hdD,hcD⟩:=hn2.count (PySem.Within.cons name v hw);refine AB (wpAny_lookBehind hoD (by rw[hdD]; exact pastItsLine_dict (Ae hcD (by rw[AI]; omega))) ?_);exact AE (h _ ⟨(hs2.2 _ (Ne.symm I.ne)).trans I.obj,hn2,I.ne⟩ hs2)
theorem JU {R:Result->Shared->Prop}{vs:List Value}{kw:List (Str×Value)}(X:K.In s.heap)(hm:PySem.W.makesIn K C=true)
  (hi:PySem.W.findIn K (.ref C) "__init__" = some (some (.ref f))) (hf:PySem.W.typeIn K (.ref f)=some (.type "function"))
  (h:codeAny (model prog w) (A.under (.builtin "type.__call__" ⟨.ref C::vs,kw⟩)) (.call (.ref f) ⟨.ref (s.heap.objs.size+1)::vs,kw⟩) (PySem.W.InitBack (s.heap.objs.size+1) R)
   { s with heap:=(s.heap.push PySem.W.emptyDict).push (PySem.W.instObj C s.heap.objs.size) }) :
  codeAny (model prog w) A (.call (.ref C) ⟨vs,kw⟩) R s:=by
 obtain⟨hh,g,d,t,os⟩:=s;exact PySem.W.make_core (PySem.W.makes_of X hm) (PySem.W.looks_findIn X hi) (fun self=>PySem.W.bind_fn X self hf) (.inl rfl) h
end
def pY (f:Str)(v:V):List (Str×V)->List (Str×V)
 |[]=>[(f,v)]
 | (g,x)::r=>if g=f then (g,v)::r else (g,x)::pY f v r
theorem cF (f g:Str)(v:V):∀fs:List (Str×V),(pY f v fs).lookup g=if g=f then some v else fs.lookup g
 |[]=>by
  show List.lookup g [(f,v)]=_
  by_cases h:g=f
  .have hb:(g==f)=true:=Cq.mpr h
   simp only[List.lookup,hb,if_pos h]
  .have hb:(g==f)=false:=Ay.mpr h
   simp only[List.lookup,hb,if_neg h]
 | (k,x)::r=>by
  have ih:=cF f g v r;rw[show pY f v ((k,x)::r)=(if k=f then (k,v)::r else (k,x)::pY f v r) from rfl]
  by_cases hk:k=f
  .rw [AW hk]
   by_cases h:g=k
   .have hb:(g==k)=true:=Cq.mpr h
    simp only[List.lookup,hb,if_pos (h.trans hk)]
   .have hb:(g==k)=false:=Ay.mpr h
    simp only[List.lookup,hb,if_neg (fun e:g=f=>h (e.trans hk.symm))]
  .rw [AT hk]
   by_cases h:g=k
   .have hb:(g==k)=true:=Cq.mpr h
    simp only[List.lookup,hb,if_neg (fun e:g=f=>hk (h.symm.trans e))]
   .have hb:(g==k)=false:=Ay.mpr h
    simp only[List.lookup,hb]
    exact ih
theorem aM (f:Str)(v:V):∀fs:List (Str×V),f∈(pY f v fs).map (·.1)/\∀g,g∈fs.map (·.1)->g∈(pY f v fs).map (·.1)
 |[]=>⟨by simp[pY],fun g h=>by simp at h⟩
 | (k,x)::r=>by
  obtain⟨i1,i2⟩:=aM f v r;rw[show pY f v ((k,x)::r)=(if k=f then (k,v)::r else (k,x)::pY f v r) from rfl]
  by_cases hk:k=f
  .rw [AW hk]
   subst hk;exact⟨by simp,fun g h=>by simpa using h⟩
  .rw [AT hk]
   refine⟨?_,fun g h=>?_⟩
   .rw [Ac]
    exact AG _ i1
   .rw [Ac] at h ⊢
    rcases Ah.mp h with e | e
    .exact Ah.mpr (.inl e)
    .exact AG _ (i2 g e)
theorem lF (f:Str)(v:V):∀fs:List (Str×V),(pY f v fs).length<=fs.length+1
 |[]=>by simp[pY]
 | (k,x)::r=>by
  have ih:=lF f v r;rw[show pY f v ((k,x)::r)=(if k=f then (k,v)::r else (k,x)::pY f v r) from rfl]
  by_cases hk:k=f
  .rw [AW hk,AI,AI]; omega
  .rw [AT hk,AI,AI]; omega
theorem RelO.some_of {v:V}{o:Option Value}(r:RelO (some v) o):∃u,o=some u/\RelV v u:=by
 cases o with
 |none=>exact(show False from r).elim
 |some u=>exact⟨u,rfl,r⟩
theorem RelO.none_of {o:Option Value}(r:RelO none o):o=none:=by
 cases o with
 |none=>rfl
 |some u=>exact(show False from r).elim
theorem X7 {v:V}{u:Value}(r:RelV v u):PySem.W.handedIn u=true:=by
 cases v with
 |non=>cases (show u=Value.none from r); rfl
 |bl b=>cases (show u=Value.bool b from r); rfl
 |int i=>obtain⟨t,e⟩:=(show ∃t,u=Value.int i t from r); cases e; rfl
 |str x=>obtain⟨t,e⟩:=(show ∃t,u=Value.str x t from r); cases e; rfl
 |byt b=>obtain⟨t,e⟩:=(show ∃t,u=Value.bytes b t from r); cases e; rfl
 |flt b=>obtain⟨t,e⟩:=(show ∃t,u=Value.float b t from r); cases e; rfl
 |ref a=>cases (show u=Value.ref a from r); rfl
 |ty n=>cases (show u=Value.type n from r); rfl
section
variable {P:Program}{w:World}{H H':Hp}{h h':Heap}{a C dx:Addr}{fs fs':List (Str×V)}
theorem oC (hok:HOk P w H h)(e:H a=some (.ins C dx fs)):∃mA,ObjM h a dx C mA/\(∀f,RelO (fs.lookup f) (mA f))/\PySem.Within mA (fs.map (·.1))/\fs.length<=1000/\H dx=some (.own a):=by
 obtain⟨d,z,ne,ob,mA,n,r,q⟩:=(show ObjOk P w H h a (.ins C dx fs) from hok a _ e);exact⟨mA,⟨ob,n,ne⟩,r,q,z,d⟩
end
structure Cls (K:DK)(C:Addr):Prop where
 pg:PySem.W.plainGet K C Str.empty=true
 hd:PySem.W.hasDictIn K C=true
 po:PySem.W.plainOver K C=true
 sa:PySem.W.findIn K (.ref C) "__setattr__" = some (some (.builtin "object.__setattr__"))
theorem Cls.get {K:DK}{C:Addr}(c:Cls K C)(f:Str):PySem.W.plainGet K C f=true:=c.pg
def NoAttr (K:DK)(C:Addr)(f:Str):Prop:=PySem.W.findIn K (.ref C) f=some none
theorem NoAttr.taker {K:DK}{C:Addr}{f:Str}(n:NoAttr K C f):PySem.W.takerIn K C f=some none:=by
 unfold PySem.W.takerIn;rw[show PySem.W.findIn K (.ref C) f=some none from n]
 rfl
structure Meth (K:DK)(C:Addr)(m:Str)(f:Addr):Prop where
 at_:PySem.W.findIn K (.ref C) m=some (some (.ref f))
 fn:PySem.W.isFn K (.ref f)=true
 kp:PySem.W.keepIn K (.ref f)=true
section
variable {X:Cx}{pins:List (Addr×Obj)}{σ:St}{H:Hp}{s:Shared}{a C dx:Addr}{fs:List (Str×V)}{f:Str}{v:V}{A:Around}{E:Value->Shared->Prop}
theorem uI {b:Bool}{Q:Value->Shared->Prop}(I:Inv X pins σ H s)(e:H a=some (.ins C dx fs))(c:Cls X.K C)(n:NoAttr X.K C f)(l:fs.lookup f=some v)
  (h:∀u s',Inv X pins σ H s'->RelV v u->Q u s'):wpAny (model X.prog X.w) A (getAttr (.ref a) f b) Q E s:=by
 obtain⟨mA,O,r,_,_,_⟩:=oC I.hok e;obtain⟨u,hu,ru⟩:=RelO.some_of (v:=v) (o:=mA f) (by rw[<- l]; exact r f);exact get_map I.kIn O (c.get f) c.hd n hu (X7 ru) (h u _ (I.tok _) ru)
theorem yI {m:Str}{g:Addr}{pl:Sem Bool}{Q:Value×List Value->Shared->Prop}(I:Inv X pins σ H s)(e:H a=some (.ins C dx fs))(c:Cls X.K C)(k:Meth X.K C m g)(l:fs.lookup m=none)
  (h:Q (.ref g,[.ref a]) s):wpAny (model X.prog X.w) A (getMethod (.ref a) m pl) Q E s:=by
 obtain⟨mA,O,r,_,_,_⟩:=oC I.hok e;have hn:mA m=none:=RelO.none_of (by rw[<- l]; exact r m);exact Ks I.kIn O (c.get m) k.at_ k.fn hn h
theorem iE {y:V}{u:Value}{Q:Unit->Shared->Prop}(I:Inv X pins σ H s)(e:H a=some (.ins C dx fs))(c:Cls X.K C)(n:NoAttr X.K C f)(hl:fs.length < 1000)(ry:RelV y u)
  (h:∀s',Inv X pins σ (upd H a (.ins C dx (pY f y fs))) s'->Q () s'):wpAny (model X.prog X.w) A (setAttr (.ref a) f u) Q E s:=by
 obtain⟨mA,O,r,wi,_,ho⟩:=oC I.hok e;have hz:(fs.map (·.1)).length<=sizeLine:=by rw[AA,BK]; omega
 refine set_map I.kIn O c.sa c.po n.taker c.hd wi hz fun h' O' sb=>h _ ?_;have hd:∃o,h'.get? dx=some o:=let ⟨o,_,_,e',_⟩:=O'.ns; ⟨o,e'⟩
 refine I.write (x:=a) (e:=dx) (by rw[e]; exact True.intro) (.inr ho) (fun b q hb z=>(sb.2 b hb).trans z) hd ?_;refine⟨by rw[nQ O.ne]; exact ho,?_,O.ne,O'.obj,_,O'.ns,fun g=>?_,fun g hg=>?_⟩
 .have:=lF f y fs; omega
 .show RelO ((pY f y fs).lookup g) (if g=f then some u else mA g)
  rw[cF]
  by_cases q:g=f
  .rw [AW q,AW q]; exact ry
  .rw [AT q,AT q]; exact r g
 .by_cases q:g=f
  .rw [q]; exact(aM f y fs).1
  .refine (aM f y fs).2 g (wi g fun z=>hg ?_)
   show(if g=f then some u else mA g)=none;rw[AT q]; exact z
theorem Inv.made (I:Inv X pins σ H s):Inv X pins σ (upd (upd H s.heap.objs.size (.own (s.heap.objs.size+1))) (s.heap.objs.size+1) (.ins C s.heap.objs.size []))
  { s with heap:=(s.heap.push PySem.W.emptyDict).push (PySem.W.instObj C s.heap.objs.size) }:=by
 have e1:(s.heap.push PySem.W.emptyDict).get? s.heap.objs.size=some PySem.W.emptyDict:=Aa s.heap rfl
 have e2:((s.heap.push PySem.W.emptyDict).push (PySem.W.instObj C s.heap.objs.size)).get? (s.heap.objs.size+1)=some (PySem.W.instObj C s.heap.objs.size):=by
  have:=Aa (s.heap.push PySem.W.emptyDict) (o:=PySem.W.instObj C s.heap.objs.size) rfl
  rwa [BU] at this
 have e3:(s.heap.push PySem.W.emptyDict).Ns s.heap.objs.size (fun _=>none):=⟨PySem.W.emptyDict,#[],_,e1,rfl,(fun e he=>absurd he (by simp)),fun _=>rfl⟩;have I1:=I.laid (a:=s.heap.objs.size) (o:=.own (s.heap.objs.size+1)) (h':=s.heap.push PySem.W.emptyDict) (t':=s.toks) (fun b u q=>AF _ q) (AJ _) ⟨_,e1⟩;refine I1.laid (a:=s.heap.objs.size+1) (o:=.ins C s.heap.objs.size []) (t':=s.toks) (fun b u q=>AF _ q) (Nat.le_of_eq (BU _ _)) ?_
 have ne:s.heap.objs.size≠s.heap.objs.size+1:=Ag (B6 _);refine⟨by rw[nQ ne,dQ],AV _,ne,e2,fun _=>none,(Heap.Ns1.of_empty e3).at fun o q=>AF _ q,fun _=>True.intro,fun y hy=>absurd rfl hy⟩
theorem attr_of {prog:Program}{w:World}{env:Env}{e:Expr}{f:Str}{pos:Pos}{s:Shared}{Q:Value->Shared->Prop}(hb:attributeBase e f env (eval e env)=eval e env)
  (h:wpAny (model prog w) A (eval e env) (fun o s₁=>wpAny (model prog w) A (getAttr o f true) Q E s₁) E s):wpAny (model prog w) A (eval (.Attribute e f pos) env) Q E s :=
 Attribute_any_ h (by rw[arm_eval_Attribute,hb])
end
def tFld (K:DK)(ta:TE)(f:Str):TE:=fun σ H Q=>ta σ H fun x H1=>∃a C dx fs v,x=.ref a/\H1 a=some (.ins C dx fs)/\Cls K C/\NoAttr K C f/\fs.lookup f=some v/\Q v H1
def sFld (K:DK)(ta tv:TE)(f:Str):TS:=fun D σ H=>tv σ H fun y H1=>ta σ H1 fun x H2=>∃a C dx fs,x=.ref a/\H2 a=some (.ins C dx fs)/\Cls K C/\NoAttr K C f/\fs.length < 1000 /\
 D.nx σ (upd H2 a (.ins C dx (pY f y fs)))
section
variable {X:Cx}{o e value:Expr}{f:Str}{pos pos' tpos:Pos}{ta tv:TE}
theorem pe_fld (he:PE X e ta)(hb:attributeBase e f X.env (eval e X.env)=eval e X.env):PE X (.Attribute e f pos) (tFld X.K ta f):=by
 intro pins s σ H Q I h;refine attr_of hb (thn (he pins s σ H _ I h) fun u s1 zq=>?_);obtain⟨x,H1,I1,rx,a,C,dx,fs,v,ex,ea,c,n,l,q⟩:=zq;subst ex;obtain rfl:u=Value.ref a:=rx;exact uI I1 ea c n l fun u' s2 I2 ru=>⟨v,H1,I2,ru,q⟩
theorem ps_fld (ha:PE X o ta)(hv:PE X value tv)(hs:swapsWith value (some (.Attribute o f pos')) pos.line X.env=pure false):PS X (.Assign [.Attribute o f pos'] value pos) (sFld X.K ta tv f):=by
 intro pins s σ H D I h;refine plainObj_wpAny_Assign_Attribute (thn (hv pins s σ H _ I h) fun u s1 ⟨y,H1,I1,ry,q⟩=>thn (ha pins s1 σ H1 _ I1 q) fun ov s2 zq=>?_) hs;obtain⟨x,H2,I2,rx,a,C,dx,fs,ex,ea,c,n,l,q2⟩:=zq;subst ex;obtain rfl:ov=Value.ref a:=rx;exact iE I2 ea c n l ry fun s3 I3=>⟨σ,_,I3,q2⟩
end
structure Room (k:Nat)(A:Around):Prop where
 hd:A.handled=none
 dp:A.depth+3 * k+5 < recursionLimit
 un:A.units+16 * k+200 < cLine
theorem Room.mono {j k:Nat}{A:Around}(r:Room k A)(h:j<=k):Room j A:=⟨r.hd,by have:=r.dp; omega,by have:=r.un; omega⟩
theorem Room.deeper {k:Nat}{A:Around}(r:Room (k+1) A)(env:Env):Room k (A.deeper env) :=
 ⟨r.hd,by have:=r.dp; show A.depth+1+3 * k+5 < _; omega,by have:=r.un; show A.units+3+16 * k+200 < _; omega⟩
theorem sA {A:Around}{C:Addr}{us:List Value}{kw:List (Str×Value)}:(A.under (.builtin "type.__call__" ⟨.ref C::us,kw⟩)).depth=A.depth+1:=by
 first | rfl | simp[Around.under,Code.weight,Code.isCreation,Code.isGuard,Code.isCaller,Code.frames,Code.isFrame,guardIds]
theorem rA {A:Around}{C:Addr}{us:List Value}{kw:List (Str×Value)}:(A.under (.builtin "type.__call__" ⟨.ref C::us,kw⟩)).units=A.units+1:=by
 first | rfl | simp[Around.under,Code.cUnits,Code.frames,Code.isFrame]
theorem Room.make {k:Nat}{A:Around}(r:Room (k+1) A)(C:Addr)(us:List Value)(kw:List (Str×Value)):Room k (A.under (.builtin "type.__call__" ⟨.ref C::us,kw⟩)) :=
 ⟨r.hd,by have:=r.dp; rw[sA]; omega,by have:=r.un; rw[rA]; omega⟩
theorem Room.depth {k:Nat}{A:Around}(r:Room k A):A.depth < recursionLimit:=by have:=r.dp; omega
theorem Room.units {k:Nat}{A:Around}(r:Room k A):A.units+64 < cLine:=by have:=r.un; omega
def tNil:TA:=fun _ H Q=>Q [] H
def ZQ (ta:TE)(tr:TA):TA:=fun σ H Q=>ta σ H fun x H1=>tr σ H1 fun xs H2=>Q (x::xs) H2
section
variable {X:Cx}{e:Expr}{es:List Expr}{te:TE}{t:TA}{pos:Pos}
theorem pa_nil:PA X [] tNil:=fun _ _ _ _ H Q I h=>Calls.spliced_nil ⟨[],H,I,.nil,h⟩
theorem pa_cons (ha:PE X e te)(hr:PA X es t)(hs:starEach (e::es) X.env=(false,eval e X.env)::starEach es X.env:=by rfl):PA X (e::es) (ZQ te t):=by
 intro pos pins s σ H Q I h;rw[hs];show wpAny _ _ (spliced ((false,eval e X.env)::backTo pos (starEach es X.env))) _ _ s;refine Calls.spliced_cons (thn (ha pins s σ H _ I h) fun u s1 ⟨x,H1,I1,r1,q1⟩=>?_);exact thn (hr pos pins s1 σ H1 _ I1 q1) fun us s2 ⟨xs,H2,I2,r2,q2⟩=>⟨x::xs,H2,I2,.cons r1 r2,q2⟩
inductive INew (o:List V->HO)(Q:VK)(xs:List V)(H:Hp):Prop
 |mk (h:xs.length<=sizeLine) (q:∀p,H p=none->Q (.ref p) (upd H p (o xs))):INew o Q xs H
def tTup (t:TA):TE:=fun σ H Q=>t σ H (INew .tup Q)
def tLst (t:TA):TE:=fun σ H Q=>t σ H (INew .lst Q)
theorem pe_tup {x1}(h:PA X es t):PE X (.Tuple es x1 pos) (tTup t):=by
 intro pins s σ H Q I hq;refine wpAny_Tuple_spliced (thn (h pos pins s σ H _ I hq) fun us s1 ⟨xs,H1,I1,r,z,q⟩=>⟨by rw[<- r.length]; exact z,?_⟩);have hf:H1 s1.heap.objs.size=none:=I1.hok.fresh (AJ _);refine⟨.ref s1.heap.objs.size,upd H1 s1.heap.objs.size (.tup xs),I1.laid (t':=s1.toks) (fun b u e=>AF _ e) (AJ _) ?_,rfl,q _ hf⟩;exact⟨z,us,r,⟨_,Aa _ rfl,rfl,⟨_,rfl⟩,rfl⟩⟩
theorem pe_lst (h:PA X es t):PE X (.List es pos) (tLst t):=by
 intro pins s σ H Q I hq;refine wpAny_List_spliced (thn (h pos pins s σ H _ I hq) fun us s1 ⟨xs,H1,I1,r,z,q⟩=>⟨by rw[<- r.length]; exact z,?_⟩);have hf:H1 s1.heap.objs.size=none:=I1.hok.fresh (AJ _);refine⟨.ref s1.heap.objs.size,upd H1 s1.heap.objs.size (.lst xs),I1.laid (t':=s1.toks) (fun b u e=>AF _ e) (AJ _) ?_,rfl,q _ hf⟩;exact⟨z,us,0,r,Aa _ rfl⟩
end
abbrev Sp:=List V->Hp->VK->XK->Prop
abbrev CXT:=List Env->Hp->Shared->XK->Value->Shared->Prop
structure Env0 (P:Program)(w:World)(K:DK)(mg:Str->Option Value)(base:Heap)(A:Around)(outer:List Env)(s:Shared)(H:Hp):Prop where
 frames:A.frames=some outer
 mod:Mod K mg base
 bs:∀b o,base.get? b=some o->s.heap.get? b=some o/\H b=none
 bsz:base.objs.size<=s.heap.objs.size
 funs:s.heap.FunFrames base outer
 frf:∀b∈frs outer,H b=none
 hok:HOk P w H s.heap
 bare:AllBare s.gens
def CE (outer:List Env)(P:Program)(w:World)(H:Hp)(s:Shared)(Q:VK)(u:Value)(s':Shared):Prop :=
 ∃v H',s'.os=s.os/\AllBare s'.gens/\Un (frs outer) [] H H' s.heap s'.heap/\HOk P w H' s'.heap/\RelV v u/\Q v H'
def CR (CX:CXT)(outer:List Env)(P:Program)(w:World)(H:Hp)(s:Shared)(Q:VK)(E:XK)(r:Result)(s':Shared):Prop :=
 match r with
 |.ok (.ret u)=>CE outer P w H s Q u s'
 |.ok _=>False
 |.error e=>CX outer H s E e s'
structure FnOk (P:Program)(w:World)(K:DK)(mg:Str->Option Value)(base:Heap)(CX:CXT)(k:Nat)(f:Addr)(fd:FuncData)(ps:List Str)(sp:Sp):Prop where
 len:∀vs H Q E,sp vs H Q E->vs.length=ps.length
 run:∀(A:Around) (outer:List Env) (s:Shared) (H:Hp) (args:Args) (us:List Value) (vs:List V) (Q:VK) (E:XK),Room k A->Env0 P w K mg base A outer s H->BindsTo s fd args (ps.zip us)->Vals vs us->sp vs H Q E ->
  codeAny (model P w) A (.call (.ref f) args) (CR CX outer P w H s Q E) s
theorem FnOk.mono {P:Program}{w:World}{K:DK}{mg:Str->Option Value}{base:Heap}{CX:CXT}{j k:Nat}{f:Addr}{fd:FuncData}{ps:List Str}{sp:Sp}(F:FnOk P w K mg base CX j f fd ps sp)(h:j<=k):
  FnOk P w K mg base CX k f fd ps sp:=⟨F.len,fun A outer s H args us vs Q E hr=>F.run A outer s H args us vs Q E (hr.mono h)⟩
theorem Env0.make {P:Program}{w:World}{K:DK}{mg:Str->Option Value}{base:Heap}{A:Around}{outer:List Env}{s:Shared}{H:Hp}(e:Env0 P w K mg base A outer s H)(C:Addr)(us:List Value)(kw:List (Str×Value)):
  Env0 P w K mg base (A.under (.builtin "type.__call__" ⟨.ref C::us,kw⟩)) outer s H:=⟨by first | exact e.frames | (simpa [Around.under,Code.envs,Code.isFrame,pushEnvs] using e.frames),e.mod,e.bs,e.bsz,e.funs,e.frf,e.hok,e.bare⟩
section
variable {X:Cx}{pins:List (Addr×Obj)}{σ:St}{H:Hp}{s s':Shared}
theorem Inv.env0 (I:Inv X pins σ H s):Env0 X.prog X.w X.K X.mg X.base X.A X.stack s H :=
 ⟨I.ok.frames,I.ok.mod,I.bs,Ae I.ok.bsz I.sz,I.stack,I.stkFree,I.hok,I.bare⟩
theorem Inv.after {Q:VK}{u:Value}(I:Inv X pins σ H s)(h:CE X.stack X.prog X.w H s Q u s'):EP X pins σ Q u s':=by
 obtain⟨v,H',os,bare,un,hok,r,q⟩:=h;obtain⟨hh,g,d,t,os'⟩:=s';obtain rfl:os'=s.os:=os;exact⟨v,H',I.call (h':=hh) (g':=g) (d':=d) (t':=t) (ch:=[]) un hok bare (fun b z=>absurd z (by simp)),r,q⟩
end
def ZR (sp:Sp)(dvs:List V)(E:XK)(t:TA):TE:=fun σ H Q=>t σ H fun vs H1=>sp (vs++dvs) H1 Q E
def tMeth (C:Addr)(m:Str)(sp:Sp)(dvs:List V)(E:XK)(ta:TE)(t:TA):TE:=fun σ H Q=>ta σ H fun x H1=>∃a dx fs,x=.ref a/\H1 a=some (.ins C dx fs)/\fs.lookup m=none /\
 t σ H1 fun vs H2=>sp (x::(vs++dvs)) H2 Q E
def tMake (C:Addr)(sp:Sp)(dvs:List V)(E:XK)(t:TA):TE:=fun σ H Q=>t σ H fun vs H1=>∀x dx,H1 x=none->H1 dx=none->dx≠x ->
 sp (.ref x::(vs++dvs)) (upd (upd H1 dx (.own x)) x (.ins C dx [])) (fun v H2=>v=.non/\Q (.ref x) H2) E
def Binds (K:DK)(fd:FuncData)(ps:List Str)(ds:List Value):Prop :=
 ∀(s:Shared) (us:List Value),K.In s.heap->(us++ds).length=ps.length->BindsTo s fd ⟨us,[]⟩ (ps.zip (us++ds))
theorem Binds.all {K:DK}{fd:FuncData}{ps:List Str}(h:∀us:List Value,us.length=ps.length->bindArgs fd ⟨us,[]⟩=pure (ps.zip us)):Binds K fd ps []:=fun s us _ hl=>by
 rw[AZ] at hl ⊢;exact .of_eq (h us hl)
def jW (CX:CXT)(X:Cx)(E:XK):Prop:=∀(pins:List (Addr×Obj)) (σ:St) (H:Hp) (s:Shared) (e:Value) (s':Shared),Inv X pins σ H s->CX X.stack H s E e s'->X.xe e s'
section
variable {X:Cx}{CX:CXT}{k:Nat}{f C:Addr}{fd:FuncData}{ps:List Str}{sp:Sp}{dvs:List V}{ds:List Value}{E:XK}{x m:Str}{p pos apos:Pos}{e o:Expr}{es:List Expr}{ta:TE}{t:TA}
theorem ZX {pins:List (Addr×Obj)}{σ:St}{H:Hp}{s:Shared}{Q:VK}{us:List Value}{vs:List V}(F:FnOk X.prog X.w X.K X.mg X.base CX k f fd ps sp)(hr:Room k X.A)(hb:Binds X.K fd ps ds)(hd:Vals dvs ds)(hx:jW CX X E)
  (I:Inv X pins σ H s) (r:Vals vs us) (h:sp (vs++dvs) H Q E):wpAny (model X.prog X.w) X.A (call (.ref f) us) (EP X pins σ Q) X.xe s:=by
 have r2:Vals (vs++dvs) (us++ds):=r.append hd;have hl:(us++ds).length=ps.length:=by rw[<- r2.length]; exact F.len _ _ _ _ h
 refine wpAny_call (CQ (F.run X.A X.stack s H ⟨us,[]⟩ (us++ds) (vs++dvs) Q E hr I.env0 (hb s us I.kIn hl) r2 h) fun r s' hq=>?_)
 cases r with
 |error e=>exact hx pins σ H s e s' I hq
 |ok fl =>
  cases fl with
  |ret u=>exact I.after hq
  |next=>exact False.elim hq
  |brk=>exact False.elim hq
  |cont=>exact False.elim hq
theorem pe_call (F:FnOk X.prog X.w X.K X.mg X.base CX k f fd ps sp)(hr:Room k X.A)(hg:Gl X x)(hm:X.mg x=some (.ref f))(hk:PySem.W.keepIn X.K (.ref f)=true)(hb:Binds X.K fd ps ds)(hd:Vals dvs ds)(hx:jW CX X E)
  (ha:PA X (e::es) t) (hdb:(x==("__debug__" : Str))=false:=by decide) (he:starEach (e::es) X.env=(false,eval e X.env)::starEach es X.env:=by rfl) (hpl:(backTo pos (starEach es X.env)).any (·.1)=false:=by rfl) :
  PE X (.Call (.Name x p) (e::es) [] pos) (ZR sp dvs E t):=by
 intro pins s σ H Q I h;refine CU (pC I hg hm ?_ hdb);refine PySem.W.callWith_K (h₀:=X.base) I.ok.mod.kin hk (thn (ha pos pins s σ H _ I h) fun us s1 ⟨vs,H1,I1,r,q⟩=>⟨I1.kIn,?_⟩) he hpl;exact ZX F hr hb hd hx I1 r q
theorem pe_meth {pl:Sem Bool}(he:PE X o ta)(c:Cls X.K C)(hm:Meth X.K C m f)(F:FnOk X.prog X.w X.K X.mg X.base CX k f fd ps sp)(hr:Room k X.A)(hb:Binds X.K fd ps ds)(hd:Vals dvs ds)(hx:jW CX X E)(ha:PA X (e::es) t)
  (hst:starEach (e::es) X.env=(false,eval e X.env)::starEach es X.env:=by rfl) (hpl:(backTo pos (starEach es X.env)).any (·.1)=false:=by rfl)
  (ht:eval (.Call (.Attribute o m apos) (e::es) [] pos) X.env=(do
   let ov <- eval o X.env
   standAt apos.atName
   let (f,first) <- holding [ov] (getMethod ov m pl)
   callWith pos f first (backTo pos (starEach (e::es) X.env)) (backToKw pos (keywordEach [] X.env))):=by rfl) :
  PE X (.Call (.Attribute o m apos) (e::es) [] pos) (tMeth C m sp dvs E ta t):=by
 intro pins s σ H Q I h;refine PySem.W.methodCall_KW (pl:=pl) (thn (he pins s σ H _ I h) fun u s1 zq=>?_) ht;obtain⟨x,H1,I1,rx,a,dx,fs,ex,ea,l,q⟩:=zq;subst ex;obtain rfl:u=Value.ref a:=rx;refine yI I1 ea c hm l ?_;refine PySem.W.callWith_K (first:=[.ref a]) (h₀:=X.base) I.ok.mod.kin hm.kp (thn (ha pos pins s1 σ H1 _ I1 q) fun us s2 ⟨vs,H2,I2,r,q2⟩=>⟨I2.kIn,?_⟩) hst hpl;exact ZX (us:=.ref a::us) (vs:=.ref a::vs) F hr hb hd hx I2 (.cons rfl r) q2
structure Mk (K:DK)(C f:Addr):Prop where
 makes:PySem.W.makesIn K C=true
 init:PySem.W.findIn K (.ref C) "__init__" = some (some (.ref f))
 fn:PySem.W.isFn K (.ref f)=true
 kp:PySem.W.keepIn K (.ref C)=true
theorem ZW {pins:List (Addr×Obj)}{σ:St}{H:Hp}{s:Shared}{Q:VK}{us:List Value}{vs:List V}(M:Mk X.K C f)(F:FnOk X.prog X.w X.K X.mg X.base CX k f fd ps sp)(hr:Room (k+1) X.A)(hb:Binds X.K fd ps ds)(hd:Vals dvs ds)
  (hx:jW CX X E) (I:Inv X pins σ H s) (r:Vals vs us)
  (h:∀x dx,H x=none->H dx=none->dx≠x->sp (.ref x::(vs++dvs)) (upd (upd H dx (.own x)) x (.ins C dx [])) (fun v H2=>v=.non/\Q (.ref x) H2) E) :
  wpAny (model X.prog X.w) X.A (call (.ref C) us) (EP X pins σ Q) X.xe s:=by
 have hq:=h (s.heap.objs.size+1) s.heap.objs.size (I.hok.fresh (CD _)) (I.hok.fresh (AJ _)) (Ag (B6 _));have I2:=Inv.made (C:=C) I;have r2:Vals (V.ref (s.heap.objs.size+1)::(vs++dvs)) (Value.ref (s.heap.objs.size+1)::(us++ds)):=.cons rfl (r.append hd)
 have hl:(Value.ref (s.heap.objs.size+1)::us++ds).length=ps.length:=by
  have e:=r2.length;rw[F.len _ _ _ _ hq] at e;exact e.symm
 refine wpAny_call (JU (f:=f) I.kIn M.makes M.init (Cq.mp M.fn) (CQ (F.run _ X.stack _ _ ⟨Value.ref (s.heap.objs.size+1)::us,[]⟩ (Value.ref (s.heap.objs.size+1)::(us++ds)) _ _ E (hr.make C us [])
  (I2.env0.make C us []) (hb _ (Value.ref (s.heap.objs.size+1)::us) I2.kIn hl) r2 hq) fun r s' hq'=>?_))
 cases r with
 |error e=>exact hx pins σ _ _ e s' I2 hq'
 |ok fl =>
  cases fl with
  |ret u =>
   obtain⟨v,H',I3,rv,ev,q3⟩:=I2.after hq';subst ev;exact⟨rv,⟨V.ref (s.heap.objs.size+1),H',I3,rfl,q3⟩⟩
  |next=>exact False.elim hq'
  |brk=>exact False.elim hq'
  |cont=>exact False.elim hq'
theorem pe_make (M:Mk X.K C f)(F:FnOk X.prog X.w X.K X.mg X.base CX k f fd ps sp)(hr:Room (k+1) X.A)(hg:Gl X x)(hm:X.mg x=some (.ref C))(hb:Binds X.K fd ps ds)(hd:Vals dvs ds)(hx:jW CX X E)
  (ha:PA X (e::es) t) (hdb:(x==("__debug__" : Str))=false:=by decide) (he:starEach (e::es) X.env=(false,eval e X.env)::starEach es X.env:=by rfl) (hpl:(backTo pos (starEach es X.env)).any (·.1)=false:=by rfl) :
  PE X (.Call (.Name x p) (e::es) [] pos) (tMake C sp dvs E t):=by
 intro pins s σ H Q I h;refine CU (pC I hg hm ?_ hdb);refine PySem.W.callWith_K (h₀:=X.base) I.ok.mod.kin M.kp (thn (ha pos pins s σ H _ I h) fun us s1 ⟨vs,H1,I1,r,q⟩=>⟨I1.kIn,?_⟩) he hpl;exact ZW M F hr hb hd hx I1 r q
end
structure FnScope (N P:List Str)(sc:Scope):Prop where
 kind:sc.kind=.function
 co:sc.isCoroutine=false
 gen:sc.isGenerator=false
 nd:N.Nodup
 pre:N.take P.length=P
 par:∀x∈P,sc.names.lookup x=some .local\/sc.names.lookup x=some .cell
 nofree:∀y∈sc.names,y.2≠.free
theorem dN {kindOf:Str->Option NameKind}{x:Str}:∀{binds:List (Str×Value)}{m:Str->Option Value},(∀v,(x,v)∉binds)->bindL kindOf binds m x=m x
 |[],_,_=>rfl
 | (n,v)::r,m,h=>by
  unfold bindL;rw[dN fun w hw=>h w (AG _ hw)]
  split
  .have:x≠n:=by rintro rfl; exact h v AD
   simp[this]
  .rfl
theorem lN {kindOf:Str->Option NameKind}{x:Str}:∀{binds:List (Str×Value)}{m:Str->Option Value},(∀v,(x,v)∉binds)->bindC kindOf binds m x=m x
 |[],_,_=>rfl
 | (n,v)::r,m,h=>by
  unfold bindC;rw[lN fun w hw=>h w (AG _ hw)]
  split
  .rfl
  .have:x≠n:=by rintro rfl; exact h v AD
   simp[this]
theorem cN {kindOf:Str->Option NameKind}{x:Str}{v:Value}:∀{P:List Str}{vs:List Value}{i:Nat}{m:Str->Option Value},P.Nodup->P[i]?=some x->vs[i]?=some v->kindOf x=some .local ->
  bindL kindOf (P.zip vs) m x=some v
 |[],_,_,_,_,h,_,_=>by simp at h
 |_::_,[],_,_,_,_,h,_=>by simp at h
 |p::P,w::vs,0,m,nd,h1,h2,hk=>by
  simp at h1 h2; subst h1; subst h2
  show bindL kindOf ((p,w)::P.zip vs) m p=_;unfold bindL;rw[dN fun v hv=>(Am.mp nd).1 (List.of_mem_zip hv).1,AW hk]
  simp
 |p::P,w::vs,i+1,m,nd,h1,h2,hk=>by
  show bindL kindOf ((p,w)::P.zip vs) m x=_;unfold bindL;exact cN (i:=i) (Am.mp nd).2 (by simpa using h1) (by simpa using h2) hk
theorem rN {kindOf:Str->Option NameKind}{x:Str}{v:Value}:∀{P:List Str}{vs:List Value}{i:Nat}{m:Str->Option Value},P.Nodup->P[i]?=some x->vs[i]?=some v->kindOf x≠some .local ->
  bindC kindOf (P.zip vs) m x=some v
 |[],_,_,_,_,h,_,_=>by simp at h
 |_::_,[],_,_,_,_,h,_=>by simp at h
 |p::P,w::vs,0,m,nd,h1,h2,hk=>by
  simp at h1 h2; subst h1; subst h2
  show bindC kindOf ((p,w)::P.zip vs) m p=_;unfold bindC;rw[lN fun v hv=>(Am.mp nd).1 (List.of_mem_zip hv).1,AT hk]
  simp
 |p::P,w::vs,i+1,m,nd,h1,h2,hk=>by
  show bindC kindOf ((p,w)::P.zip vs) m x=_;unfold bindC;exact rN (i:=i) (Am.mp nd).2 (by simpa using h1) (by simpa using h2) hk
def start (N:List Str)(vs:List V):St:=vs.map some++List.replicate (N.length - vs.length) none
noncomputable def xR (CX:CXT)(P:Program)(w:World)(K:DK)(mg:Str->Option Value)(base:Heap)(N:List Str)(qual:Str)(scope:Scope)(f:Addr)(cd:Value)(A:Around)(outer:List Env)(s:Shared)(H:Hp)(E:XK):Cx where
 prog:=P
 w:=w
 K:=K
 mg:=mg
 base:=base
 A:=A.deeper (envOfC qual scope s.heap.objs.size f cd)
 N:=N
 s₀:=s
 H₀:=H
 env:=envOfC qual scope s.heap.objs.size f cd
 outer:=outer
 stack:=envOfC qual scope s.heap.objs.size f cd::outer
 ex:=[]
 calm:=true
 fn:=fun _=>true
 pn:=[]
 xe:=fun e s'=>wpAny (model P w) (A.deeper (envOfC qual scope s.heap.objs.size f cd)) (leaving (envOfC qual scope s.heap.objs.size f cd) e) (fun _ s''=>CX outer H s E e s'') (fun e' s''=>CX outer H s E e' s'') s'
theorem yP {sc:Scope}{n:Nat}{x:Str}(h:sc.names.lookup x=some .cell):∃c,(cellsFrom n sc.names []).lookup x=some c:=by
 have q:=PySem.W.cellsFrom_some sc.names n [] (.inl h);exact Option.isSome_iff_exists.mp q
theorem X3 {CX:CXT}{P:Program}{w:World}{K:DK}{mg:Str->Option Value}{base:Heap}{N ps:List Str}{qual:Str}{scope:Scope}{f:Addr}{cd:Value}{A:Around}{outer:List Env}{s s1:Shared}{H:Hp}{E:XK}{us:List Value}{vs:List V}
  (S:FnScope N ps scope) (hd:A.handled=none) (e0:Env0 P w K mg base A outer s H) (hl:vs.length=ps.length) (r:Vals vs us)
  (x:InCallC s s.heap.objs.size (bindL (envOfC qual scope s.heap.objs.size f cd).kindOf (ps.zip us) fun _=>none) (cellsFrom (s.heap.objs.size+1) scope.names []) (bindC (envOfC qual scope s.heap.objs.size f cd).kindOf (ps.zip us) fun _=>none) s1) :
  Inv (xR CX P w K mg base N qual scope f cd A outer s H E) [] (start N vs) H s1:=by
 have hpl:ps.length<=N.length:=by have:=BE List.length S.pre; rw[BQ] at this; omega
 obtain⟨h1,tk,rfl,hk⟩:=x.done;have noA:∀b:Addr,b∉(xR CX P w K mg base N qual scope f cd A outer s H E).ex:=fun b z=>absurd (show b∈([]:List Addr) from z) (by simp)
 refine⟨⟨e0.mod,S.kind,rfl,rfl,AJ _,fun y z c h1 h2=>?_,fun y hy=>?_,fun y c _ h=>?_,fun _=>hd,Around.frames_deeper e0.frames,.inr ⟨rfl,rfl⟩,fun b z=>absurd z (noA b),e0.bs,e0.bsz,fun b _ _=>noA b,fun b z=>absurd z (noA b),e0.funs,e0.frf⟩,
  rfl,e0.bare,Un.kept hk,⟨_,x.toInCall.ns,fun i y v h1 h2 h3=>?_⟩,fun y c h=>⟨_,x.cell y c h⟩,e0.hok.fresh (AJ _),fun y c h=>?_,fun p hp=>absurd (show p∈([]:List (Addr×Obj)) from hp) (by simp),e0.hok.kept hk,?_⟩
 .exact name_of_addr x.apart (Bv h1) (Bv h2)
 .have hy:scope.names.lookup y=some .cell\/scope.names.lookup y=some .free:=hy
  rcases hy with hy | hy
  .exact yP hy
  .exact absurd rfl (S.nofree _ (Bv hy))
 .exact Ct (x.above y c (Bv h))
 .have hi:i < vs.length:=by
   unfold start at h2
   by_cases hi:i < vs.length
   .exact hi
   .rw [BR (by simpa using hi)] at h2
    rw[List.getElem?_replicate] at h2
    split at h2<;>cases h2
  have ha:vs[i]?=some v:=by
   unfold start at h2;rw[Bt (by simpa using hi),Aj] at h2
   cases e:vs[i]? with
   |none=>rw[e] at h2; cases h2
   |some a=>rw[e] at h2; cases h2; rfl
  obtain⟨u,hu,rv⟩:=r.get ha
  have hp:ps[i]?=some y:=by
   rw[<- S.pre,List.getElem?_take_of_lt (by omega)]; exact h1
  have ndP:ps.Nodup:=by rw[<- S.pre]; exact S.nd.sublist (Cg _ _)
  refine⟨u,rv,?_⟩
  rcases S.par y (Al hp) with k | k
  .exact .inl ⟨k,cN ndP hp hu k⟩
  .obtain ⟨c,e⟩:=yP (n:=s.heap.objs.size+1) k
   refine .inr ⟨.inl k,c,e,?_⟩;have q:=x.cell y c e;rw[rN ndP hp hu (by show scope.names.lookup y≠_; rw[k]; decide)] at q;exact q
 .exact e0.hok.fresh (Ct (x.above y c (Bv h)))
 .unfold start
  show _=N.length;rw[AC,AA,A9];omega
theorem fn_of {CX:CXT}{P:Program}{w:World}{K:DK}{mg:Str->Option Value}{base:Heap}{k:Nat}{f:Addr}{name qual:Str}{params:Arguments}{body:List Stmt}{scope:Scope}{dV kV doc pm cdv ct oc:Value}{an od:Option Addr}
  {osl:Array (Option Value)} {N ps:List Str} {sp:Sp} (lk:K.lookup f=some ⟨oc,od,.func (PySem.W.fnOf name qual params body scope dV kV doc pm an cdv ct),osl⟩) (hcd:PySem.W.codeIn K cdv qual=true) (S:FnScope N ps scope)
  (len:∀vs H Q E,sp vs H Q E->vs.length=ps.length)
  (hbody:∀(A:Around) (outer:List Env) (s:Shared) (H:Hp) (vs:List V) (Q:VK) (E:XK),Room k (A.deeper (envOfC qual scope s.heap.objs.size f cdv))->sp vs H Q E ->
   ∃t,PSs (xR CX P w K mg base N qual scope f cdv A outer s H E) body t/\t { nx:=fun _ H'=>Q .non H',rt:=Q } (start N vs) H) :
  FnOk P w K mg base CX (k+1) f (PySem.W.fnOf name qual params body scope dV kV doc pm an cdv ct) ps sp:=by
 refine⟨len,fun A outer s H args us vs Q E hr e0 hb r hsp=>?_⟩;have hl:=len _ _ _ _ hsp;have KX:K.In s.heap:=e0.mod.kin.keeps fun b o e=>(e0.bs b o e).1;have lim:s.heap.NoLimit:=e0.mod.nolimit.keeps fun b o e=>(e0.bs b o e).1
 have hkind:∀y∈ps.zip us,scope.names.lookup y.1=some .local\/(scope.names.lookup y.1=some .cell/\((cellsFrom (s.heap.objs.size+1) scope.names []).lookup y.1).isSome=true):=fun⟨n,v⟩ hy=>by
  rcases S.par n (List.of_mem_zip hy).1 with q | q
  .exact .inl q
  .exact .inr ⟨q,PySem.W.cellsFrom_some _ _ _ (.inl q)⟩
 refine codeAny_call_function hr.depth (KX _ _ lk) rfl S.co S.gen rfl (PySem.W.codeRec_of KX hcd) (hb _ _ _ _ ?_);refine wpAny_newFunctionEnv_cells S.kind hkind fun env he s1 x=>?_;subst he;refine⟨lim.keeps x.toInCall.keep,codeAny_func ?_⟩;obtain⟨t,ht,hq⟩:=hbody A outer s H vs Q E (hr.deeper _) hsp;have I:Inv (xR CX P w K mg base N qual scope f cdv A outer s H E) [] (start N vs) H s1:=X3 S hr.hd e0 hl r x
 refine BH (ht [] s1 (start N vs) H _ I hq) (fun fl s' hs=>?_) fun e s' hs=>hs
 have fin:∀{σ':St} {H':Hp} {v:V} {u:Value},Inv (xR CX P w K mg base N qual scope f cdv A outer s H E) [] σ' H' s'->RelV v u->Q v H'->CE outer P w H s Q u s' :=
  fun {σ' H' v u} J rv q=>⟨v,H',J.os,J.bare,J.base,J.hok,rv,q⟩
 cases fl with
 |ret u =>
  obtain⟨v,σ',H',J,rv,q⟩:=hs;exact fin J rv q
 |next =>
  obtain⟨σ',H',J,q⟩:=hs;exact fin (v:=V.non) (u:=Value.none) J rfl q
 |brk =>
  obtain⟨_,_,_,q⟩:=hs;exact False.elim q
 |cont =>
  obtain⟨_,_,_,q⟩:=hs;exact False.elim q
section
variable {X:Cx}{x:Str}{p pos:Pos}{e:Expr}{es:List Expr}{t:TA}{id T:String}{r:List V->Hp->VK->Prop}
def tCB (r:List V->Hp->VK->Prop)(t:TA):TE:=fun σ H Q=>t σ H fun vs H1=>r vs H1 Q
theorem Ju (hc:CallR X (.builtin id) r)(hg:Gl X x)(hm:X.mg x=none)(hv:bootBuiltins x=some (.builtin id))(ha:PA X (e::es) t)(hn:x ≠ "__name__":=by decide)(hdb:(x==("__debug__" : Str))=false:=by decide)
  (he:starEach (e::es) X.env=(false,eval e X.env)::starEach es X.env:=by rfl) (hpl:(backTo pos (starEach es X.env)).any (·.1)=false:=by rfl):PE X (.Call (.Name x p) (e::es) [] pos) (tCB r t):=by
 intro pins s σ H Q I h;refine CU (eA I hg hm hv ?_ hn hdb);exact PyProof.Rows.callWith_builtin1 (thn (ha pos pins s σ H _ I h) fun us s1 ⟨vs,H1,I1,r1,q1⟩=>hc pins s1 σ H1 vs us Q I1 r1 q1) he hpl
theorem XE (hc:CallR X (.type T) r)(hg:Gl X x)(hm:X.mg x=none)(hv:bootBuiltins x=some (.type T))(ha:PA X (e::es) t)(hn:x ≠ "__name__":=by decide)(hdb:(x==("__debug__" : Str))=false:=by decide)
  (he:starEach (e::es) X.env=(false,eval e X.env)::starEach es X.env:=by rfl) (hpl:(backTo pos (starEach es X.env)).any (·.1)=false:=by rfl):PE X (.Call (.Name x p) (e::es) [] pos) (tCB r t):=by
 intro pins s σ H Q I h;refine CU (eA I hg hm hv ?_ hn hdb);exact PyProof.Rows.callWith_type1 (thn (ha pos pins s σ H _ I h) fun us s1 ⟨vs,H1,I1,r1,q1⟩=>hc pins s1 σ H1 vs us Q I1 r1 q1) he hpl
end
end L2
namespace HT
open PySem PyProof.Rows
section
variable {prog:Program}{w:World}{A:Around}{E:Value->Shared->Prop}{s:Shared}
theorem cat_tup {t b:Addr}{vs ws:List Value}{Q:Value->Shared->Prop}(ht:IsTup s.heap t vs.toArray)(hb:IsTup s.heap b ws.toArray)(hv:vs≠[])
  (h1:ws=[]->Q (.ref t) s) (h2:ws≠[]->Q (.ref s.heap.objs.size) { s with heap:=s.heap.push { cls:=.type "tuple",data:=.seq (vs++ws).toArray } })
  (hsz:vs.length+ws.length<=sizeLine):wpAny (model prog w) A (binaryOp .Add (.ref t) (.ref b)) Q E s:=by
 obtain⟨⟨cls,dd,data,sl⟩,ho,hc,n,hd⟩:=id ht;obtain⟨⟨cls2,dd2,data2,sl2⟩,ho2,hc2,n2,hd2⟩:=id hb
 simp only at hc hd hc2 hd2
 subst hc hd hc2 hd2;have e:vs.toArray++ws.toArray=(vs++ws).toArray:=by simp
 by_cases hw:ws=[]
 .exact concat_meets ⟨_,ho,rfl⟩ ⟨_,ho2,rfl⟩ noFill_tuple_add seq_tuple_add Cr Cl (Cj _ _)
   (tuple_addW1 t b vs.toArray ws.toArray n n2 dd dd2 sl sl2 (by simpa using hv) (by simp[hw])) ⟨ho,ho2,h1 hw⟩
 .refine concat_meets ⟨_,ho,rfl⟩ ⟨_,ho2,rfl⟩ noFill_tuple_add seq_tuple_add Cr Cl (Cj _ _)
   (tuple_addW2 t b vs.toArray ws.toArray n n2 dd dd2 sl sl2 (by simpa using hv) (by simpa using hw) (by rw[Ai,Ai]; exact hsz)) ⟨ho,ho2,?_⟩
  rw[e];exact h2 hw
def sIx (n d:Nat):Option Int->Nat
 |none=>d
 |some v=>if v < 0 then (v+(n:Int)).toNat else min v.toNat n
theorem sIx_none (n d:Nat):sIx n d none=d:=rfl
theorem sIx_nat (n d k:Nat):sIx n d (some (k:Int))=min k n:=by
 show(if (k:Int) < 0 then ((k:Int)+(n:Int)).toNat else min (k:Int).toNat n)=min k n;rw[AT (by omega),Ci]
end
end HT
namespace L2
open PySem PySem.Spec PyProof.Rows
abbrev TO:=St->Hp->(Option Int->Hp->Prop)->Prop
def PO (X:Cx)(e:Option Expr)(t:TO):Prop :=
 ∀(pins:List (Addr×Obj)) (s:Shared) (σ:St) (H:Hp) (Q:Option Int->Hp->Prop),Inv X pins σ H s->t σ H Q ->
  wpAny (model X.prog X.w) X.A (evalPart e X.env) (fun u s'=>∃o H',Inv X pins σ H' s'/\IsPart u o/\Q o H') X.xe s
def Qu:TO:=fun _ H Q=>Q none H
def tPart (t:TE):TO:=fun σ H Q=>t σ H fun x H1=>∃i,x=.int i/\Q (some i) H1
section
variable {X:Cx}{e:Expr}{te:TE}{lo hi:Option Expr}{tl th:TO}{pos p2:Pos}
theorem po_none:PO X none Qu:=by
 intro pins s σ H Q I h;rw[evalPart_none];exact AE ⟨none,H,I,.none,h⟩
theorem po_some (h:PE X e te):PO X (some e) (tPart te):=by
 intro pins s σ H Q I hw;rw[evalPart_some];refine thn (h pins s σ H _ I hw) fun u s1 ⟨x,H1,I1,r1,q1⟩=>?_;obtain⟨i,rfl,q⟩:=q1;obtain⟨t,rfl⟩:=r1;exact⟨some i,H1,I1,.int i t,q⟩
def SlR (X:Cx)(r:V->Option Int->Option Int->Hp->VK->Prop):Prop :=
 ∀(pins:List (Addr×Obj)) (s:Shared) (σ:St) (H:Hp) (x:V) (v vl vu:Value) (lo hi:Option Int) (sl:Addr) (Q:VK),Inv X pins σ H s->RelV x v->s.heap.IsSliceOf sl vl vu .none->IsPart vl lo->IsPart vu hi->r x lo hi H Q ->
  ∃T id,typeLookup (.type T) "__getitem__" = pure (some (.builtin id))/\s.TypeIs v T/\wpAny (model X.prog X.w) X.A (getItem v (.ref sl)) (EP X pins σ Q) X.xe s
def tSl (r:V->Option Int->Option Int->Hp->VK->Prop)(te:TE)(tl th:TO):TE:=fun σ H Q=>te σ H fun x H1=>tl σ H1 fun l H2=>th σ H2 fun u H3=>r x l u H3 Q
theorem Jo {r:V->Option Int->Option Int->Hp->VK->Prop}(hr:SlR X r)(he:PE X e te)(hl:PO X lo tl)(hu:PO X hi th):PE X (.Subscript e (.Slice lo hi none p2) pos) (tSl r te tl th):=by
 intro pins s σ H Q I h;refine Subscript_ (thn (he pins s σ H _ I h) fun v s1 ⟨x,H1,I1,r1,q1⟩=>?_);refine wpAny_Slice (thn (hl pins s1 σ H1 _ I1 q1) fun vl s2 ⟨l,H2,I2,pl,q2⟩=>thn (hu pins s2 σ H2 _ I2 q2) fun vu s3 ⟨u,H3,I3,pu,q3⟩=>?_);rw[evalPart_none];refine AE ?_;have I4:Inv X pins σ H3 { s3 with heap:=s3.heap.push { cls:=.type "slice",data:=.fields #[vl,vu,.none] } }:=I3.kept (t':=s3.toks) fun b ob q=>AF _ q
 obtain⟨T,id,hT,ht,hg⟩:=hr pins { s3 with heap:=s3.heap.push { cls:=.type "slice",data:=.fields #[vl,vu,.none] } } σ H3 x v vl vu l u s3.heap.objs.size Q I4 r1 (Heap.IsSliceOf.new ..) pl pu q3;show wpAny (model X.prog X.w) X.A (subscriptTail e (.Slice lo hi none p2) v (.ref s3.heap.objs.size)) (EP X pins σ Q) X.xe { s3 with heap:=s3.heap.push { cls:=.type "slice",data:=.fields #[vl,vu,.none] } };exact tail_any (ops:=[.ref s3.heap.objs.size,v]) ht hT hg (by with_unfolding_all rfl)
def Zf (xs:List V)(lo hi:Option Int):List V:=(xs.drop (HT.sIx xs.length 0 lo)).take (HT.sIx xs.length xs.length hi - HT.sIx xs.length 0 lo)
theorem eO (xs:List V)(lo hi:Option Int):(Zf xs lo hi).length<=xs.length:=by
 unfold Zf;rw[BQ,B8];omega
def rCatT (K:DK):R2:=fun x y H Q=>∃a b xs ys,x=.ref a/\y=.ref b/\SqT K H a xs/\SqT K H b ys/\xs≠[]/\xs.length+ys.length<=sizeLine /\
 (ys=[]->Q (.ref a) H)/\(ys≠[]->∀p,H p=none->Q (.ref p) (upd H p (.tup (xs++ys))))
theorem Vals.nil_iff {xs:List V}{us:List Value}(r:Vals xs us):us=[]↔xs=[]:=by
 cases r with
 |nil=>simp
 |cons _ _=>simp
theorem op_catT:OpR X (binaryOp .Add) (rCatT X.K):=by
 intro pins s σ H x y v u Q I rx ry h;obtain⟨a,b,xs,ys,rfl,rfl,ha,hb,hx,hz,q1,q2⟩:=h;cases rx;cases ry;obtain⟨its,r1,p1,_⟩:=I.tuple ha;obtain⟨its2,r2,p2,_⟩:=I.tuple hb;refine HT.cat_tup p1 p2 (fun z=>hx (r1.nil_iff.mp z)) (fun z=>⟨.ref a,H,I,rfl,q1 (r2.nil_iff.mp z)⟩) (fun z=>?_) (by rw[<- r1.length,<- r2.length]; exact hz);refine⟨.ref s.heap.objs.size,_,I.laid (t':=s.toks) (o:=.tup (xs++ys)) (fun b ob q=>AF _ q) (AJ _) ?_,rfl,q2 (fun w=>z (r2.nil_iff.mpr w)) _ (I.hok.fresh (AJ _))⟩
 exact⟨by rw[AC]; exact hz,_,r1.append r2,IsTupN.new _ _⟩
end
def ixN (n:Nat)(i:Int):Option Nat:=if 0<=i then (if i < n then some i.toNat else none) else if -(n:Int)<=i then some (i+n).toNat else none
def atI {α:Type}(xs:List α)(i:Int):Option α:=(ixN xs.length i).bind fun j=>xs[j]?
theorem QO {n:Nat}{i:Int}{j:Nat}(h:ixN n i=some j):seqIndex? i n=some j/\j < n/\-(n:Int)<=i/\i < n:=by
 unfold ixN at h
 by_cases h0:0<=i
 .rw [AW h0] at h
  by_cases h1:i < n
  .rw [AW h1] at h
   have e:i.toNat=j:=Ar h;exact⟨by rw[seqIndex_of h0 h1,e],by omega,by omega,h1⟩
  .rw [AT h1] at h; cases h
 .rw [AT h0] at h
  by_cases h1 : -(n:Int)<=i
  .rw [AW h1] at h
   have e:(i+n).toNat=j:=Ar h;exact⟨by rw[seqIndex_neg (by omega) h1,e],by omega,h1,by omega⟩
  .rw [AT h1] at h; cases h
theorem qS {α:Type}{xs:List α}{i:Int}{v:α}(h:atI xs i=some v):∃j,seqIndex? i xs.length=some j/\xs[j]?=some v/\j < xs.length/\-(xs.length:Int)<=i/\i < xs.length:=by
 unfold atI at h
 cases e:ixN xs.length i with
 |none=>rw[e] at h; cases h
 |some j =>
  rw[e] at h;obtain⟨h1,h2,h3,h4⟩:=QO e;exact⟨j,h1,h,h2,h3,h4⟩
def sD (b:Expr):Prop:=∀o i,subscripted b false o i=operate [o,i] (getItem o i)
def IxR (X:Cx)(r:R2):Prop :=
 ∀(value slice:Expr) (pins:List (Addr×Obj)) (s:Shared) (σ:St) (H:Hp) (x y:V) (v u:Value) (Q:VK),Inv X pins σ H s->RelV x v->RelV y u->r x y H Q ->
  subscripted slice false v u=operate [v,u] (getItem v u)->wpAny (model X.prog X.w) X.A (subscriptTail value slice v u) (EP X pins σ Q) X.xe s
def MtR (X:Cx)(id:String)(r:V->List V->Hp->VK->Prop):Prop :=
 ∀(pins:List (Addr×Obj)) (s:Shared) (σ:St) (H:Hp) (x:V) (xs:List V) (v:Value) (us:List Value) (Q:VK),Inv X pins σ H s->RelV x v->Vals xs us->r x xs H Q ->
  wpAny (model X.prog X.w) X.A (call (.builtin id) (v::us)) (EP X pins σ Q) X.xe s
section
variable {X:Cx}{a b:Expr}{ta tb:TE}{pos:Pos}
theorem IxR.or {r r':R2}(h:IxR X r)(h':IxR X r'):IxR X (fun x y H Q=>r x y H Q\/r' x y H Q):=by
 intro value slice pins s σ H x y v u Q I rx ry q hs
 rcases q with q | q
 .exact h value slice pins s σ H x y v u Q I rx ry q hs
 .exact h' value slice pins s σ H x y v u Q I rx ry q hs
theorem pe_ix {r:R2}(hr:IxR X r)(ha:PE X a ta)(hb:PE X b tb)(hs:sD b):PE X (.Subscript a b pos) (tOp r ta tb):=by
 intro pins s σ H Q I h;exact Subscript_ (binT ha hb I h fun v u s2 x y H2 I2 rx ry q=>hr a b pins s2 σ H2 x y v u Q I2 rx ry q (hs _ _))
inductive IIx (S:Hp->Addr->List V->Prop)(x y:V)(H:Hp)(Q:VK):Prop
 |mk (p:Addr) (xs:List V) (i:Int) (v:V) (h:x=.ref p) (h':y=.int i) (s:S H p xs) (a:atI xs i=some v) (q:Q v H):IIx S x y H Q
def rIxL (K:DK):R2:=IIx (SqL K)
def rIxT (K:DK):R2:=IIx (SqT K)
def rIxS:R2:=fun x y H Q=>∃z i c,x=.str z/\y=.int i/\z.length<=sizeLine/\atI z.cps.toList i=some c/\Q (.str ⟨#[c]⟩) H
theorem ix_list:IxR X (rIxL X.K):=by
 intro value slice pins s σ H x y v u Q I rx ry h hs;obtain⟨p,xs,i,z,rfl,rfl,hq,he,q⟩:=h;cases rx;obtain⟨t,rfl⟩:=ry;obtain⟨its,r,pl,hz⟩:=I.list hq;obtain⟨j,h1,h2,h3,h4,h5⟩:=qS he;obtain⟨w,ew,rw'⟩:=r.get h2;have hl:=r.length;have hn:=oM;have fin:EP X pins σ Q w s:=⟨z,H,I,rw',q⟩
 by_cases h0:0<=i
 .have hj:i.toNat=j:=by
   rw[seqIndex_of h0 h5] at h1;exact Ar h1
  exact item_listR pl.isList h0 (by omega) (by rw[hj]; simpa using ew) fin hs
 .have hj:(i+(its.toArray.size:Int)).toNat=j:=by
   rw[seqIndex_neg (by omega) h4] at h1;rw[Ai,<- hl];exact Ar h1
  exact subscriptTail_builtinR (x:=w) pl.isList.typeIs slot_list_getitem.lookup
   (wpAny_getItem_list_neg (Q:=fun r s'=>r=w/\EP X pins σ Q r s') pl.isList (by omega) (by rw[Ai]<;>omega) (by omega) (by rw[hj]; simpa using ew) ⟨rfl,fin⟩) hs
theorem ix_tup:IxR X (rIxT X.K):=by
 intro value slice pins s σ H x y v u Q I rx ry h hs;obtain⟨p,xs,i,z,rfl,rfl,hq,he,q⟩:=h;cases rx;obtain⟨t,rfl⟩:=ry;obtain⟨its,r,pl,hz⟩:=I.tuple hq;obtain⟨j,h1,h2,h3,h4,h5⟩:=qS he;obtain⟨w,ew,rw'⟩:=r.get h2;have hl:=r.length;have hn:=oM;have fin:EP X pins σ Q w s:=⟨z,H,I,rw',q⟩
 exact subscriptTail_builtinR (x:=w) pl.typeIs slot_tuple_getitem.lookup
  (getItem_tuple (j:=j) (Q:=fun r s'=>r=w/\EP X pins σ Q r s') pl (by omega) (by omega) (by rw[Ai,<- hl]; exact h1) (by simpa using ew) ⟨rfl,fin⟩) hs
theorem ix_str:IxR X rIxS:=by
 intro value slice pins s σ H x y v u Q I rx ry h hs;obtain⟨z,i,c,rfl,rfl,hz,he,q⟩:=h;obtain⟨t,rfl⟩:=rx;obtain⟨t',rfl⟩:=ry;obtain⟨j,h1,h2,h3,h4,h5⟩:=qS he;have hl:z.cps.toList.length=z.length:=by simp[Str.length]
 rw[hl] at h1 h4 h5;have hn:=oM
 exact tail_any (typeIs_str s z t) slot_str_getitem.lookup (getItem_str (c:=c) (by
  have e1:decide (i < -(2 ^ 63:Int))=false:=AS (by omega);have e2:decide (i >= 2 ^ 63)=false:=AS (by omega)
  rw[e1,e2,Bool.or_false]) (by rw[h1]; simpa using h2) ⟨.str ⟨#[c]⟩,H,I.tok _,⟨_,rfl⟩,q⟩) hs
def rIx (K:DK):R2:=fun x y H Q=>rIxL K x y H Q\/rIxT K x y H Q\/rIxS x y H Q
theorem ix_seq:IxR X (rIx X.K):=ix_list.or (ix_tup.or ix_str)
theorem lA (its:List Value)(n j:Nat)(u:Value):Obj.mapSeq (·.setIfInBounds j u) { cls:=.type "list",data:=.seq its.toArray n }={ cls:=.type "list",data:=.seq (its.set j u).toArray n }:=by
 simp[Obj.mapSeq]
theorem Inv.lst {pins:List (Addr×Obj)}{σ:St}{H:Hp}{s:Shared}{p:Addr}{xs:List V}(I:Inv X pins σ H s)(h:H p=some (.lst xs)):
  ∃(its:List Value) (n:Nat),Vals xs its/\s.heap.get? p=some { cls:=.type "list",data:=.seq its.toArray n }/\xs.length<=sizeLine:=by
 obtain⟨z,its,n,r,e⟩:=I.hok p _ h;exact⟨its,n,r,e,z⟩
theorem Inv.lstUpd {pins:List (Addr×Obj)}{σ:St}{H:Hp}{s:Shared}{p:Addr}{xs ys:List V}{its its':List Value}{n n':Nat}{f:Obj->Obj}(I:Inv X pins σ H s)(h:H p=some (.lst xs))
  (ho:s.heap.get? p=some { cls:=.type "list",data:=.seq its.toArray n }) (hf:f { cls:=.type "list",data:=.seq its.toArray n }={ cls:=.type "list",data:=.seq its'.toArray n' }) (r:Vals ys its') (hz:ys.length<=sizeLine) (t:Nat) :
  Inv X pins σ (upd H p (.lst ys)) { s with heap:=s.heap.update p f,toks:=t }:=by
 have e:(s.heap.update p f).get? p=some { cls:=.type "list",data:=.seq its'.toArray n' }:=by
  rw[Bj f ho (by rw[hf]<;>rfl),hf]
 refine I.write (x:=p) (e:=p) (by rw[h]; trivial) (.inl rfl) (fun b u hb q=>(Bg _ _ (Ne.symm hb)).trans q) ⟨_,e⟩ ?_;exact⟨hz,its',n',r,e⟩
def rSetL:V->V->V->Hp->(Hp->Prop)->Prop:=fun o i v H Q=>∃p xs k j,o=.ref p/\i=.int k/\H p=some (.lst xs)/\ixN xs.length k=some j/\Q (upd H p (.lst (xs.set j v)))
theorem ZT:PSet X rSetL:=by
 intro pins s σ H o i v ov iv u Q I ro ri rv h;obtain⟨p,xs,k,j,rfl,rfl,hp,hj,q⟩:=h;cases ro;obtain⟨t,rfl⟩:=ri;obtain⟨its,n,r,ho,hz⟩:=I.lst hp;obtain⟨h1,h2,h3,h4⟩:=QO hj;have hl:=r.length;have hn:=oM
 have I':Inv X pins σ (upd H p (.lst (xs.set j v))) { s with heap:=s.heap.update p (Obj.mapSeq (·.setIfInBounds j u)) } :=
  I.lstUpd hp ho (lA its n j u) (r.set rv j) (by rw[Cz]; exact hz) s.toks
 by_cases h0:0<=k
 .have hk:k.toNat=j:=by
   rw[seqIndex_of h0 h4] at h1;exact Ar h1
  exact PySem.W.ki_setAt ho h0 (by omega) (by rw[Ai,<- hl]; exact h4) (by rw[hk]; exact⟨_,I',q⟩)
 .have hk:(k+(its.toArray.size:Int)).toNat=j:=by
   rw[seqIndex_neg (by omega) h3] at h1;rw[Ai,<- hl];exact Ar h1
  exact PySem.W.ki_setBack ho (by omega) (by rw[Ai,<- hl]; exact h3) (by omega) (by rw[hk]; exact⟨_,I',q⟩)
theorem aN (lo hi:Option Int)(n:Nat):(sliceBounds lo hi none n).1=((HT.sIx n 0 lo:Nat):Int)/\(sliceBounds lo hi none n).2.1=((HT.sIx n n hi:Nat):Int)/\(sliceBounds lo hi none n).2.2=1:=by
 refine⟨?_,?_,rfl⟩
 .cases lo with
  |none=>simp[sliceBounds,HT.sIx]
  |some i =>
   simp only[sliceBounds,HT.sIx,Option.getD_none,show(1:Int) > 0 by decide,if_true]
   by_cases h:i < 0
   .simp only[h,if_true]<;>omega
   .simp only[h,if_false]<;>omega
 .cases hi with
  |none=>simp[sliceBounds,HT.sIx]
  |some i =>
   simp only[sliceBounds,HT.sIx,Option.getD_none,show(1:Int) > 0 by decide,if_true]
   by_cases h:i < 0
   .simp only[h,if_true]<;>omega
   .simp only[h,if_false]<;>omega
theorem aP (its:List Value)(lo hi:Option Int):slicePick its.toArray lo hi none=((its.drop (HT.sIx its.length 0 lo)).take (HT.sIx its.length its.length hi - HT.sIx its.length 0 lo)).toArray:=by
 obtain⟨h1,h2,h3⟩:=aN lo hi its.toArray.size;unfold slicePick;rw[h1,h2,h3]
 simp only[sliceRange_one,pick_run,List.size_toArray]<;>rfl
def rSlL (K:DK):V->Option Int->Option Int->Hp->VK->Prop:=fun x lo hi H Q=>∃a xs,x=.ref a/\SqL K H a xs/\∀p,H p=none->Q (.ref p) (upd H p (.lst (Zf xs lo hi)))
theorem sl_list:SlR X (rSlL X.K):=by
 intro pins s σ H x v vl vu lo hi sl Q I rx hs pl pu h;obtain⟨a,xs,rfl,hx,q⟩:=h;cases rx;obtain⟨its,r,ht,hz⟩:=I.list hx;have hlen:=r.length;refine⟨"list",_,slot_list_getitem.lookup,ht.isList.typeIs,?_⟩;refine wpAny_getItem_list_slice ht.isList hs pl pu .none (by simp) ?_ (by rw[Ai]<;>omega);rw[aP,<- hlen];refine⟨.ref s.heap.objs.size,_,I.laid (t':=s.toks) (o:=.lst (Zf xs lo hi)) (fun b ob q=>AF _ q) (AJ _) ?_,rfl,q _ (I.hok.fresh (AJ _))⟩
 exact⟨Ae (eO xs lo hi) hz,_,0,(r.drop (HT.sIx xs.length 0 lo)).take (HT.sIx xs.length xs.length hi - HT.sIx xs.length 0 lo),Aa _ rfl⟩
def oU:V->Bool
 |.non=>true
 |.bl _=>true
 |.int _=>true
 |.str _=>true
 |_=>false
noncomputable def eqV:V->V->Bool
 |.non,.non=>true
 |.bl a,.bl b=>a==b
 |.bl a,.int b=>(if a then 1 else 0)==b
 |.int a,.bl b=>a==(if b then 1 else 0)
 |.int a,.int b=>a==b
 |.str a,.str b=>a==b
 |_,_=>false
theorem eqAt_V {A:Around}{s:Shared}{y x:V}{u v:Value}(ry:RelV y u)(rx:RelV x v)(fy:oU y=true)(fx:oU x=true):SeqAt.EqAt A s u v (eqV y x):=by
 cases y with
 |non =>
  cases ry
  cases x with
  |non=>cases rx; exact Cw _
  |bl b=>cases rx; exact SeqAt.EqAt.none_bool b
  |int b=>obtain⟨t,rfl⟩:=rx; exact SeqAt.EqAt.none_int b t
  |str b=>obtain⟨t,rfl⟩:=rx; exact SeqAt.EqAt.none_str b t
  |_=>exact absurd (show false=true from fx) AL
 |bl a =>
  cases ry
  cases x with
  |non=>cases rx; exact SeqAt.EqAt.bool_none a
  |bl b=>cases rx; exact SeqAt.EqAt.bool_bool a b
  |int b=>obtain⟨t,rfl⟩:=rx; exact SeqAt.EqAt.bool_int a b t
  |str b=>obtain⟨t,rfl⟩:=rx; exact SeqAt.EqAt.bool_str a b t
  |_=>exact absurd (show false=true from fx) AL
 |int a =>
  obtain⟨t',rfl⟩:=ry
  cases x with
  |non=>cases rx; exact SeqAt.EqAt.int_none a t'
  |bl b=>cases rx; exact SeqAt.EqAt.int_bool a t' b
  |int b=>obtain⟨t,rfl⟩:=rx; exact SeqAt.EqAt.int_int a t' b t
  |str b=>obtain⟨t,rfl⟩:=rx; exact SeqAt.EqAt.int_str a t' b t
  |_=>exact absurd (show false=true from fx) AL
 |str a =>
  obtain⟨t',rfl⟩:=ry
  cases x with
  |non=>cases rx; exact SeqAt.EqAt.str_none a t'
  |bl b=>cases rx; exact SeqAt.EqAt.str_bool a t' b
  |int b=>obtain⟨t,rfl⟩:=rx; exact SeqAt.EqAt.str_int a t' b t
  |str b=>obtain⟨t,rfl⟩:=rx; exact SeqAt.EqAt.str_str a t' b t
  |_=>exact absurd (show false=true from fx) AL
 |_=>exact absurd (show false=true from fy) AL
def eqU (x:V)(u:Value):Bool:=match u with
 |.none=>eqV .non x
 |.bool b=>eqV (.bl b) x
 |.int i _=>eqV (.int i) x
 |.str z _=>eqV (.str z) x
 |_=>false
theorem KF {x y:V}{u:Value}(r:RelV y u)(f:oU y=true):eqU x u=eqV y x:=by
 cases y with
 |non=>cases r; rfl
 |bl b=>cases r; rfl
 |int i=>obtain⟨t,rfl⟩:=r; rfl
 |str z=>obtain⟨t,rfl⟩:=r; rfl
 |_=>exact absurd (show false=true from f) AL
theorem jS {x:V}:∀{xs:List V}{us:List Value},Vals xs us->xs.all oU=true->us.any (eqU x)=xs.any fun y=>eqV y x
 |_,_,.nil,_=>rfl
 |y::xs,u::us,.cons r t,f=>by
  rw[List.all_cons,BC] at f;rw[BA,BA,KF r f.1,jS t f.2]
theorem nL {A:Around}{s:Shared}{x:V}{v:Value}(rx:RelV x v)(fx:oU x=true):∀{xs:List V}{us:List Value},Vals xs us->xs.all oU=true->∀u∈us,SeqAt.EqAt A s u v (eqU x u)
 |_,_,.nil,_=>fun u hu=>by cases hu
 |y::xs,u::us,.cons r t,f=>fun u' hu=>by
  rw[List.all_cons,BC] at f
  rcases Ah.mp hu with rfl | hu
  .rw [KF r f.1]; exact eqAt_V r rx f.1 fx
  .exact nL rx fx t f.2 u' hu
def inV (x:V)(xs:List V):Bool:=xs.any fun y=>eqV y x
def rIn (K:DK)(neg:Bool):R2:=fun x y H Q=>∃p xs,y=.ref p/\(SqL K H p xs\/SqT K H p xs)/\oU x=true/\xs.all oU=true/\Q (.bl (if neg then !inV x xs else inV x xs)) H
theorem XH:OpR X (compareOp .In) (rIn X.K false):=by
 intro pins s σ H x y v u Q I rx ry h;obtain⟨p,xs,rfl,hq,fx,fs,q⟩:=h;cases ry
 rcases hq with hq | hq
 .obtain ⟨its,r,pl,hz⟩:=I.list hq
  refine SeqAt.in_listAt (eqU x) pl.isList (fun w hw=>nL rx fx r fs w (by simpa using hw)) ⟨.bl _,H,I,rfl,?_⟩;rw[show its.toArray.any (eqU x)=its.any (eqU x) by simp,jS r fs];exact q
 .obtain ⟨its,r,pl,hz⟩:=I.tuple hq
  refine SeqAt.in_tupleAt (eqU x) pl (fun w hw=>nL rx fx r fs w (by simpa using hw)) ⟨.bl _,H,I,rfl,?_⟩;rw[show its.toArray.any (eqU x)=its.any (eqU x) by simp,jS r fs];exact q
theorem cR:CallR X (.builtin "len") (fun xs H Q=>∃p ys,xs=[.ref p]/\(SqL X.K H p ys\/SqT X.K H p ys)/\Q (.int ys.length) H):=by
 intro pins s σ H xs us Q I r h;obtain⟨p,ys,rfl,hq,q⟩:=h;obtain⟨u,rfl,rx⟩:=pG r;cases rx;have hn:=oM
 rcases hq with hq | hq
 .obtain ⟨its,r',pl,hz⟩:=I.list hq
  have hlen:=r'.length;exact Calls.call_len_list pl.isList (by simp only[List.size_toArray]<;>omega) ⟨.int ys.length,H,I.tok _,⟨s.toks+1,by rw[Ai,hlen]⟩,q⟩
 .obtain ⟨its,r',pl,hz⟩:=I.tuple hq
  have hlen:=r'.length;exact len_tuple pl (by simp only[List.size_toArray]<;>omega) ⟨.int ys.length,H,I.tok _,⟨s.toks+1,by rw[Ai,hlen]⟩,q⟩
theorem dR:CallR X (.builtin "len") (fun xs H Q=>∃z,xs=[.str z]/\z.length<=sizeLine/\Q (.int z.length) H):=by
 intro pins s σ H xs us Q I r h;obtain⟨z,rfl,hz,q⟩:=h;obtain⟨u,rfl,t,rfl⟩:=pG r;have hn:=oM;exact len_str (by omega) ⟨.int z.length,H,I.tok _,⟨_,rfl⟩,q⟩
theorem CallR.or {f:Value}{r r':List V->Hp->VK->Prop}(h:CallR X f r)(h':CallR X f r'):CallR X f (fun xs H Q=>r xs H Q\/r' xs H Q):=by
 intro pins s σ H xs us Q I rs q
 rcases q with q | q
 .exact h pins s σ H xs us Q I rs q
 .exact h' pins s σ H xs us Q I rs q
theorem vH:CallR X (.type "tuple") (fun xs H Q=>∃p ys,xs=[.ref p]/\((SqL X.K H p ys/\∀l,H l=none->Q (.ref l) (upd H l (.tup ys)))\/(SqT X.K H p ys/\Q (.ref p) H))):=by
 intro pins s σ H xs us Q I r h;obtain⟨p,ys,rfl,h⟩:=h;obtain⟨u,rfl,rx⟩:=pG r;cases rx
 rcases h with ⟨hq,q⟩ | ⟨hq,q⟩
 .obtain ⟨its,r',pl,hz⟩:=I.list hq
  have hlen:=r'.length;refine call_tuple_list pl.isList (fun h' kp=>?_) (by simp only[List.size_toArray]<;>omega);have I1:Inv X pins σ H { s with heap:=h' }:=I.kept (t':=s.toks) kp
  have I2:Inv X pins σ (upd H h'.objs.size (.tup ys)) { s with heap:=h'.push { cls:=.type "tuple",data:=.seq its.toArray } } :=
   I1.laid (t':=s.toks) (fun b o e=>AF _ e) (AJ _) (show ObjOk X.prog X.w _ _ _ (.tup ys) from⟨hz,its,r',IsTupN.new _ _⟩)
  exact⟨.ref h'.objs.size,_,I2,rfl,q _ (I1.hok.fresh (AJ _))⟩
 .obtain ⟨its,r',pl,hz⟩:=I.tuple hq
  exact call_tuple_same pl ⟨.ref p,H,I,rfl,q⟩
def tyV (K:DK)(T:String)(x:V)(H:Hp):Prop:=match x with
 |.str _=>T = "str"
 |.int _=>T = "int"
 |.ref p=>(T = "list"/\∃xs,SqL K H p xs)\/(T = "tuple"/\∃o,K.lookup p=some o/\o.cls=.type "tuple"/\o.dict=none) \/
   (T = "dict"/\((∃kvs,H p=some (.dK kvs))\/∃kvs,H p=some (.dT kvs)))\/(T = "set"/\∃S n,H p=some (.set S n))
 |_=>False
theorem ZG {pins:List (Addr×Obj)}{σ:St}{H:Hp}{s:Shared}{T:String}{x:V}{v:Value}(I:Inv X pins σ H s)(r:RelV x v)(ty:tyV X.K T x H):
  s.TypeIs v T/\∀a,v=.ref a->∃ob,s.heap.get? a=some ob/\ob.dict=none:=by
 cases x with
 |str z =>
  obtain⟨t,rfl⟩:=r;cases (show T = "str" from ty);exact⟨typeIs_str s z t,fun _ e=>nomatch e⟩
 |int i =>
  obtain⟨t,rfl⟩:=r;cases (show T = "int" from ty);exact⟨typeIs_int s i t,fun _ e=>nomatch e⟩
 |ref p =>
  cases r
  rcases ty with ⟨rfl,xs,hq⟩ | ⟨rfl,o,hk,hc,hd⟩ | ⟨rfl,hk⟩ | ⟨rfl,S,n,hk⟩
  .obtain ⟨its,_,pl,_⟩:=I.list hq
   refine⟨pl.isList.typeIs,fun a e=>?_⟩;cases e;obtain⟨o,n,e,c,hd,_⟩:=pl;exact⟨o,e,hd⟩
  .refine ⟨⟨o,I.kIn p o hk,hc⟩,fun a e=>?_⟩
   cases e;exact⟨o,I.kIn _ o hk,hd⟩
  .have z:∃o,s.heap.get? p=some o/\o.ExactDict:=by
    rcases hk with ⟨kvs,hk⟩ | ⟨kvs,hk⟩
    .obtain ⟨_,_,_,_,o,_,_,e,ex,_⟩:=I.hok p _ hk
     exact⟨o,e,ex⟩
    .obtain ⟨_,_,_,_,o,_,_,e,ex,_⟩:=I.hok p _ hk
     exact⟨o,e,ex⟩
   obtain⟨o,e,ex⟩:=z;refine⟨⟨o,e,ex.1⟩,fun a e2=>?_⟩;cases e2;exact⟨o,e,ex.2.1⟩
  .obtain ⟨o,_,_,_,e,ex,_⟩:=I.hok p _ hk
   refine⟨⟨o,e,ex.1⟩,fun a e2=>?_⟩;cases e2;exact⟨o,e,ex.2.1⟩
 |_=>exact False.elim ty
def tBM0 (K:DK)(T:String)(r:V->List V->Hp->VK->Prop)(to:TE):TE:=fun σ H Q=>to σ H fun x H1=>tyV K T x H1/\r x [] H1 Q
def tBM (K:DK)(T:String)(r:V->List V->Hp->VK->Prop)(to:TE)(t:TA):TE:=fun σ H Q=>to σ H fun x H1=>tyV K T x H1/\t σ H1 fun xs H2=>r x xs H2 Q
variable {o e:Expr}{es:List Expr}{to:TE}{t:TA}{name:Str}{apos cpos:Pos}{T id:String}{r:V->List V->Hp->VK->Prop}
theorem pe_bm0 (pa:PlainAttrs T)(slot:Slot T name id)(hty:typeOf (.builtin id)=pure (.type "method_descriptor"))(hm:MtR X id r)(ho:PE X o to)
  (hbase:attributeBase o name X.env (eval o X.env)=eval o X.env:=by rfl) (hline:(apos.endLine==cpos.line)=true:=by rfl):PE X (.Call (.Attribute o name apos) [] [] cpos) (tBM0 X.K T r to):=by
 intro pins s σ H Q I h;refine wpAny_Call_method0_late hbase hline (thn (ho pins s σ H _ I h) fun v s1 zq=>?_);obtain⟨x,H1,I1,r1,ty,q1⟩:=zq;obtain⟨h1,h2⟩:=ZG I1 r1 ty;exact⟨T,id,pa,slot,hty,h1,h2,Cu rfl (PySem.evalArgs_none (hm pins s1 σ H1 x [] v [] Q I1 r1 .nil q1))⟩
theorem pe_bm (pa:PlainAttrs T)(slot:Slot T name id)(hty:typeOf (.builtin id)=pure (.type "method_descriptor"))(hm:MtR X id r)(ho:PE X o to)(ha:PA X (e::es) t)
  (hbase:attributeBase o name X.env (eval o X.env)=eval o X.env:=by rfl)
  (hfew:((backTo cpos (starEach (e::es) X.env)).all (fun x=>!x.1)&&(backToKw cpos (keywordEach [] X.env)).all (fun x=>x.1.isSome)
   && decide ((e::es).length+([]:List Keyword).length+(if ([]:List Keyword).isEmpty then 0 else 1) < 30))=true:=by rfl)
  (hline:(apos.endLine==cpos.line)=true:=by rfl) (hs:starEach (e::es) X.env=(false,eval e X.env)::starEach es X.env:=by rfl) (hplain:(backTo cpos (starEach es X.env)).any (·.1)=false:=by rfl) :
  PE X (.Call (.Attribute o name apos) (e::es) [] cpos) (tBM X.K T r to t):=by
 intro pins s σ H Q I h;refine wpAny_Call_method_late hbase hfew hline rfl (thn (ho pins s σ H _ I h) fun v s1 zq=>?_);obtain⟨x,H1,I1,r1,ty,q1⟩:=zq;obtain⟨h1,h2⟩:=ZG I1 r1 ty;refine⟨T,id,pa,slot,hty,h1,h2,?_⟩;have hA:=ha cpos pins s1 σ H1 _ I1 q1;rw[hs] at hA ⊢;refine Cu (by show(false || (backTo cpos (starEach es X.env)).any (·.1))=false; rw[hplain]<;>rfl) (Calls.evalArgs_plain ?_)
 exact thn hA fun us s2 ⟨vs,H2,I2,r2,q2⟩=>hm pins s2 σ H2 x vs v us Q I2 r1 r2 q2
end
def MtM (X:Cx)(id:String)(r:V->List V->Hp->VK->Prop):Prop :=
 ∀(pins:List (Addr×Obj)) (s:Shared) (σ:St) (H:Hp) (x:V) (xs:List V) (v:Value) (us:List Value) (Q:VK),Inv X pins σ H s->RelV x v->Vals xs us->r x xs H Q ->
  wpAny (model X.prog X.w) X.A (call (.builtin id) (v::us)) (EP X pins σ Q) X.xe s
theorem Vals.one {x:V}{us:List Value}(h:Vals [x] us):∃u,us=[u]/\RelV x u:=by
 cases h with
 |cons r h =>
  cases h;exact⟨_,rfl,r⟩
theorem Vals.zero:∀{us:List Value},Vals [] us->us=[]
 |_,.nil=>rfl
theorem Vals.reverse {xs:List V}{us:List Value}(h:Vals xs us):Vals xs.reverse us.reverse:=by
 induction h with
 |nil=>exact .nil
 |cons r t ih=>rw[Ch,Ch]; exact Vals.append ih (.cons r .nil)
section
variable {X:Cx}{pins:List (Addr×Obj)}{σ:St}{H:Hp}{s:Shared}{l b:Addr}{xs ys zs:List V}
theorem Inv.lset {its its':List Value}{n:Nat}{f:Array Value->Array Value}{t':Nat}(I:Inv X pins σ H s)(hH:H l=some (.lst xs))
  (e:s.heap.get? l=some { cls:=.type "list",data:=.seq its.toArray n }) (hf:f its.toArray=its'.toArray) (hv:Vals ys its') (hz:ys.length<=sizeLine) :
  Inv X pins σ (upd H l (.lst ys)) { s with heap:=s.heap.update l (Obj.mapSeq f),toks:=t' }:=by
 have q:=PySem.IsL.update e f;rw[hf] at q;refine I.write (x:=l) (e:=l) (by rw[hH]; exact trivial) (.inl rfl) (fun b' u hb hu=>(Bg s.heap (Obj.mapSeq f) (Ne.symm hb)).trans hu) ⟨_,q⟩ ?_;exact⟨hz,its',_,hv,q⟩
theorem Inv.lnew {its:List Value}{t':Nat}(I:Inv X pins σ H s)(hv:Vals ys its)(hz:ys.length<=sizeLine):
  Inv X pins σ (upd H s.heap.objs.size (.lst ys)) { s with heap:=s.heap.push { cls:=.type "list",data:=.seq its.toArray },toks:=t' } :=
 I.laid (fun _ _ q=>AF _ q) (AJ _) ⟨hz,its,0,hv,Aa _ rfl⟩
theorem Inv.fresh (I:Inv X pins σ H s):H s.heap.objs.size=none:=I.hok.fresh (AJ _)
theorem Inv.lstM (I:Inv X pins σ H s)(hH:H l=some (.lst xs)):xs.length<=sizeLine/\∃(its:List Value) (n:Nat),Vals xs its/\xs.length=its.length/\s.heap.get? l=some { cls:=.type "list",data:=.seq its.toArray n }:=by
 obtain⟨z,its,n,r,e⟩:=I.hok l _ hH;exact⟨z,its,n,r,r.length,e⟩
theorem JR {n:Nat}(h:n<=sizeLine):Builtin.List.listTooLong n=false:=by
 unfold Builtin.List.listTooLong;exact AS (by omega)
end
section
variable {X:Cx}
def QB:V->List V->Hp->VK->Prop:=fun x vs H Q=>∃l xs y,x=.ref l/\vs=[y]/\H l=some (.lst xs)/\xs.length < sizeLine/\Q .non (upd H l (.lst (xs++[y])))
theorem aH:MtM X "list.append" QB:=by
 intro pins s σ H x vs v us Q I rx rv h;obtain⟨l,xs,y,rfl,rfl,hH,hz,q⟩:=h;cases rx;obtain⟨u,rfl,ru⟩:=rv.one;obtain⟨z,its,n,r,hl,e⟩:=I.lstM hH;refine call_meets F.slot_list_append ⟨_,e,rfl⟩ F.entry_list_append (F.args_list_append_2 _ _) (PySem.list_append l its.toArray n u (by rw[Ai]; omega)) ⟨e,?_⟩;refine⟨.non,_,I.lset (its':=its++[u]) hH e (by simp) (r.append (.cons ru .nil)) ?_,rfl,q⟩
 rw[AC,AO];omega
def QA:V->List V->Hp->VK->Prop:=fun x vs H Q=>∃l b xs zs,x=.ref l/\vs=[.ref b]/\H l=some (.lst xs)/\H b=some (.lst zs)/\xs.length+zs.length<=sizeLine/\Q .non (upd H l (.lst (xs++zs)))
theorem tH:MtM X "list.extend" QA:=by
 intro pins s σ H x vs v us Q I rx rv h;obtain⟨l,b,xs,zs,rfl,rfl,hH,hB,hz,q⟩:=h;cases rx;obtain⟨u,rfl,ru⟩:=rv.one;cases ru;obtain⟨z,its,n,r,hl,e⟩:=I.lstM hH;obtain⟨z2,its2,n2,r2,hl2,e2⟩:=I.lstM hB;have hsz:its.toArray.size+its2.toArray.size<=sizeLine:=by rw[Ai,Ai]; omega
 have hlong:¬ (!its.toArray.isEmpty&&Builtin.List.listTooLong (its.toArray.size+its2.toArray.size))=true:=by
  rw[JR hsz,Bool.and_false];exact AL
 refine call_meets F.slot_list_extend ⟨_,e,rfl⟩ F.entry_list_extend (F.args_list_extend_2 _ _)
  (AutoSeq1.list_extend_list_list_0 l its.toArray n b its2.toArray n2 hlong (by rw[Ai]; omega) (by omega)) ⟨e,e2,?_⟩
 refine⟨.non,_,I.lset (its':=its++its2) hH e (by simp) (r.append r2) ?_,rfl,q⟩;rw[AC];omega
def aS:V->List V->Hp->VK->Prop:=fun x vs H Q=>∃l xs,x=.ref l/\vs=[]/\H l=some (.lst xs)/\Q .non (upd H l (.lst xs.reverse))
theorem dA:MtM X "list.reverse" aS:=by
 intro pins s σ H x vs v us Q I rx rv h;obtain⟨l,xs,rfl,rfl,hH,q⟩:=h;cases rx;have hus:=rv.zero;subst hus;obtain⟨z,its,n,r,hl,e⟩:=I.lstM hH;refine call_meets F.slot_list_reverse ⟨_,e,rfl⟩ F.entry_list_reverse (F.args_list_reverse_1 _) (AutoSeq1.list_reverse_list_0 l its.toArray n (by rw[Ai]; omega)) ⟨e,?_⟩;refine⟨.non,_,I.lset (its':=its.reverse) hH e (by simp) r.reverse ?_,rfl,q⟩
 rw[List.length_reverse];omega
def rCat:R2:=fun x y H Q=>∃l b xs zs,x=.ref l/\y=.ref b/\H l=some (.lst xs)/\H b=some (.lst zs)/\xs.length+zs.length<=sizeLine/\∀p,H p=none->Q (.ref p) (upd H p (.lst (xs++zs)))
theorem op_cat:OpR X (binaryOp .Add) rCat:=by
 intro pins s σ H x y v u Q I rx ry h;obtain⟨l,b,xs,zs,rfl,rfl,hH,hB,hz,q⟩:=h;cases rx;cases ry;obtain⟨z,its,n,r,hl,e⟩:=I.lstM hH;obtain⟨z2,its2,n2,r2,hl2,e2⟩:=I.lstM hB;refine PySem.P.add_list e e2 ?_ (by rw[Ai,Ai]; omega);have ea:its.toArray++its2.toArray=(its++its2).toArray:=by simp
 rw[ea];exact⟨.ref _,_,I.lnew (t':=s.toks) (r.append r2) (by rw[AC]; omega),rfl,q _ I.fresh⟩
end
section
variable {κ:Type}[DecidableEq κ]
def dW (kvs:List (κ×V))(k:κ):Option V:=(kvs.find? fun kv=>decide (kv.1=k)).map (·.2)
noncomputable def pK (kvs:List (κ×V))(k:κ)(v:V):List (κ×V) :=
 if (kvs.any fun kv=>decide (kv.1=k))=true then kvs.map (fun kv=>if kv.1=k then (kv.1,v) else kv) else kvs++[(k,v)]
theorem pB {p:κ×V}{r:List (κ×V)}{k:κ}(e:p.1=k):dW (p::r) k=some p.2:=by simp[dW,List.find?_cons,e]
theorem dB {p:κ×V}{r:List (κ×V)}{k:κ}(e:¬ p.1=k):dW (p::r) k=dW r k:=by simp[dW,List.find?_cons,e]
theorem zL (k:κ):∀kvs:List (κ×V),(kvs.any fun kv=>decide (kv.1=k))=(dW kvs k).isSome
 |[]=>rfl
 |p::r=>by
  rw[BA]
  by_cases e:p.1=k
  .simp only[pB e,decide_eq_true e,Bool.true_or,Option.isSome_some]
  .rw [dB e,AS e,Bool.false_or]; exact zL k r
theorem uW (kvs:List (κ×V))(k:κ)(v:V):(pK kvs k v).length<=kvs.length+1:=by
 unfold pK
 split
 .rw [AA]; omega
 .rw [AC,AI,List.length_nil]; omega
theorem RelO.isSome_eq {o:Option V}{u:Option Value}(r:RelO o u):o.isSome=u.isSome:=by
 cases o with
 |none=>cases u with
  |none=>rfl
  |some _=>exact(show False from r).elim
 |some _=>cases u with
  |none=>exact(show False from r).elim
  |some _=>rfl
theorem RelO.getD {o:Option V}{u:Option Value}{d:V}{d':Value}(r:RelO o u)(rd:RelV d d'):RelV (o.getD d) (u.getD d'):=by
 cases o with
 |none=>cases u with
  |none=>exact rd
  |some _=>exact(show False from r).elim
 |some _=>cases u with
  |none=>exact(show False from r).elim
  |some _=>exact r
theorem KV.val {kvs:List (κ×V)}{vs:List (κ×Value)}(r:KV kvs vs)(k:κ):RelO (dW kvs k) (valueAt vs k):=by
 unfold KV at r
 induction r with
 |nil=>exact True.intro
 |@cons p q ps qs h t ih =>
  obtain⟨h1,h2⟩:=h
  by_cases e:p.1=k
  .have e':q.1=k:=h1.symm.trans e
   have b:valueAt (q::qs) k=some q.2:=by simp[valueAt,List.find?_cons,e']
   rw[pB e,b]; exact h2
  .have e':¬ q.1=k:=fun z=>e (h1.trans z)
   have b:valueAt (q::qs) k=valueAt qs k:=by simp[valueAt,List.find?_cons,e']
   rw[dB e,b]; exact ih
theorem KV.any {kvs:List (κ×V)}{vs:List (κ×Value)}(r:KV kvs vs)(k:κ):(kvs.any fun kv=>decide (kv.1=k))=vs.any fun kv=>decide (kv.1=k):=by
 unfold KV at r
 induction r with
 |nil=>rfl
 |cons h t ih=>rw[BA,BA,ih,h.1]
theorem KV.repl {kvs:List (κ×V)}{vs:List (κ×Value)}(r:KV kvs vs)(k:κ){y:V}{u:Value}(ry:RelV y u):
  KV (kvs.map fun kv=>if kv.1=k then (kv.1,y) else kv) (vs.map fun kv=>if kv.1=k then (kv.1,u) else kv):=by
 unfold KV at r ⊢
 induction r with
 |nil=>exact .nil
 |@cons p q ps qs h t ih =>
  rw[Ac,Ac];refine .cons ?_ ih;obtain⟨h1,h2⟩:=h
  by_cases e:p.1=k
  .rw [AW e,AW (h1.symm.trans e)]; exact⟨h1,ry⟩
  .rw [AT e,AT (fun z=>e (h1.trans z))]; exact⟨h1,h2⟩
theorem KV.put {kvs:List (κ×V)}{vs:List (κ×Value)}(r:KV kvs vs)(k:κ){y:V}{u:Value}(ry:RelV y u):KV (pK kvs k y) (stored vs k u):=by
 unfold pK stored;rw[r.any k]
 by_cases e:(vs.any fun kv=>decide (kv.1=k))=true
 .rw [AW e,AW e]; exact r.repl k ry
 .rw [AT e,AT e]; exact Paired.snoc r ⟨rfl,ry⟩
theorem KV.length {kvs:List (κ×V)}{vs:List (κ×Value)}(r:KV kvs vs):kvs.length=vs.length:=Paired.length r
end
theorem zN {P:Program}{w:World}{k:Key}{u:Value}(r:RelV (kV k) u):(qX P w).is k u=true:=by
 rcases k with (_ | i) | x
 .cases (show u=Value.none from r); exact bC P w
 .obtain ⟨t,e⟩:=(show ∃t,u=Value.int i t from r); subst e; exact zO P w i t
 .obtain ⟨t,e⟩:=(show ∃t,u=Value.str x t from r); subst e; exact qO P w x t
theorem kN {P:Program}{w:World}:∀{ks:List Key}{us:List Value},Vals (ks.map kV) us->ItemsAre (qX P w) ks us
 |[],_,r=>by rw[List.map_nil] at r; cases r; exact .nil
 |k::ks,_,r=>by
  rw[Ac] at r
  cases r with
  |cons h t=>exact .cons (zN h) (kN t)
abbrev KT (H:Hp):List (List Key×V)->List (List Key×Addr×Value)->Prop:=Paired fun p q=>p.1=q.1/\H q.2.1=some (.tup (p.1.map kV))/\RelV p.2 q.2.2
theorem KT.val {H:Hp}{kvs:List (List Key×V)}{xs:List (List Key×Addr×Value)}(r:KT H kvs xs)(k:List Key):RelO (dW kvs k) ((atKey xs k).map (·.2)):=by
 induction r with
 |nil=>exact True.intro
 |@cons p q ps qs h t ih =>
  obtain⟨h1,_,h2⟩:=h
  by_cases e:p.1=k
  .have e':q.1=k:=h1.symm.trans e
   have b:atKey (q::qs) k=some q.2:=by simp[atKey,List.find?_cons,e']
   rw[pB e,b]; exact h2
  .have e':¬ q.1=k:=fun z=>e (h1.trans z)
   have b:atKey (q::qs) k=atKey qs k:=by simp[atKey,List.find?_cons,e']
   rw[dB e,b]; exact ih
theorem KT.repl {H:Hp}{kvs:List (List Key×V)}{xs:List (List Key×Addr×Value)}(r:KT H kvs xs)(k:List Key){y:V}{u:Value}(ry:RelV y u):
  KT H (kvs.map fun kv=>if kv.1=k then (kv.1,y) else kv) (xs.map (putAt k u)):=by
 induction r with
 |nil=>exact .nil
 |@cons p q ps qs h t ih =>
  rw[Ac,Ac];refine .cons ?_ ih;obtain⟨h1,h2,h3⟩:=h;unfold putAt
  by_cases e:p.1=k
  .rw [AW e,AW (h1.symm.trans e)]; exact⟨h1,h2,ry⟩
  .rw [AT e,AT (fun z=>e (h1.trans z))]; exact⟨h1,h2,h3⟩
theorem KT.put {H:Hp}{kvs:List (List Key×V)}{xs:List (List Key×Addr×Value)}(r:KT H kvs xs)(k:List Key){b:Addr}{y:V}{u:Value}(hb:H b=some (.tup (k.map kV)))(ry:RelV y u):
  KT H (pK kvs k y) (storedH xs k b u):=by
 have e:(kvs.any fun kv=>decide (kv.1=k))=(atKey xs k).isSome:=by
  rw[zL,(r.val k).isSome_eq,Ce]
 unfold pK storedH;rw[e]
 by_cases q:(atKey xs k).isSome=true
 .rw [AW q,AW q]; exact r.repl k ry
 .rw [AT q,AT q]; exact Paired.snoc r ⟨rfl,hb,ry⟩
theorem KT.keeps {H H':Hp}{kvs:List (List Key×V)}{xs:List (List Key×Addr×Value)}(r:KT H kvs xs)(ht:∀b ys,H b=some (.tup ys)->H' b=some (.tup ys)):KT H' kvs xs :=
 Paired.mapP r fun _ _ z=>⟨z.1,ht _ _ z.2.1,z.2.2⟩
section
variable {P:Program}{w:World}{H:Hp}{h:Heap}{a:Addr}
theorem rd_of {u:HO}(ok:HOk P w H h)(e:Rd H a u):ObjOk P w H h a u:=e.ok ok
theorem bN {kvs:List (Key×V)}(ok:HOk P w H h)(e:Rd H a (.dK kvs)):kvs.length<=sizeLine/\(a==sysModules)=false/\∃vs,KV kvs vs/\h.DictOf (qX P w) a vs :=
 show ObjOk P w H h a (.dK kvs) from rd_of ok e
theorem nO {kvs:List (Key×V)}(ok:HOk P w H h)(e:H a=some (.dK kvs)):kvs.length<=sizeLine/\(a==sysModules)=false/\∃vs,KV kvs vs/\h.DictOf (qX P w) a vs:=bN ok (.inl e)
theorem zB {ks:List Key}(ok:HOk P w H h)(e:H a=some (.tup (ks.map kV))):(tupleKind (qX P w)).is h ks a:=by
 obtain⟨_,its,r,o,h1,h2,⟨n,h3⟩,_⟩:=(show ObjOk P w H h a (.tup (ks.map kV)) from ok a _ e);exact⟨o,its.toArray,n,h1,h2,h3,by simpa using kN r⟩
theorem lO {kvs:List (List Key×V)}(ok:HOk P w H h)(e:Rd H a (.dT kvs)):kvs.length<=sizeLine/\(a==sysModules)=false /\
  ∃xs,KT H kvs xs/\h.DictOfH (tupleKind (qX P w)) a xs:=by
 obtain⟨z,y,xs,r,o,es,ep,h1,h2,h3,h4,h5⟩:=(show ObjOk P w H h a (.dT kvs) from rd_of ok e);refine⟨z,y,xs,r,o,es,ep,h1,h2,h3,h4,fun x hx=>?_,h5⟩
 have all:∀{l:List (List Key×V)} {m:List (List Key×Addr×Value)},KT H l m->∀x∈m,(tupleKind (qX P w)).is h x.1 x.2.1:=by
  intro l m q
  induction q with
  |nil=>intro x hx; exact nomatch hx
  |@cons p q ps qs hq t ih =>
   intro x hx
   rcases Ah.mp hx with e | hx
   .subst e
    exact zB ok (by rw[<- hq.1]; exact hq.2.1)
   .exact ih x hx
 exact all r x hx
theorem KG {kvs:List (List Key×V)}(ok:HOk P w H h)(e:H a=some (.dT kvs)):kvs.length<=sizeLine/\(a==sysModules)=false /\
  ∃xs,KT H kvs xs/\h.DictOfH (tupleKind (qX P w)) a xs:=lO ok (.inl e)
end
def DGet (H:Hp)(a:Addr)(y:V)(r:Option V):Prop :=
 (∃kvs k,Rd H a (.dK kvs)/\y=kV k/\r=dW kvs k)\/∃kvs k b,Rd H a (.dT kvs)/\y=.ref b/\H b=some (.tup (k.map kV))/\r=dW kvs k
def DPut (H:Hp)(a:Addr)(y v:V)(H':Hp):Prop :=
 (∃kvs k,H a=some (.dK kvs)/\y=kV k/\kvs.length < sizeLine/\H'=upd H a (.dK (pK kvs k v))) \/
 ∃kvs k b,H a=some (.dT kvs)/\y=.ref b/\H b=some (.tup (k.map kV))/\kvs.length < sizeLine/\H'=upd H a (.dT (pK kvs k v))
theorem DGet.t {H:Hp}{a b:Addr}{kvs:List (List Key×V)}{k:List Key}(e:H a=some (.dT kvs))(eb:H b=some (.tup (k.map kV))):DGet H a (.ref b) (dW kvs k):=.inr ⟨kvs,k,b,.inl e,rfl,eb,rfl⟩
theorem DPut.k {H:Hp}{a:Addr}{kvs:List (Key×V)}{k:Key}{v:V}(e:H a=some (.dK kvs))(hl:kvs.length < sizeLine):DPut H a (kV k) v (upd H a (.dK (pK kvs k v))):=.inl ⟨kvs,k,e,rfl,hl,rfl⟩
theorem DPut.t {H:Hp}{a b:Addr}{kvs:List (List Key×V)}{k:List Key}{v:V}(e:H a=some (.dT kvs))(eb:H b=some (.tup (k.map kV)))(hl:kvs.length < sizeLine):
  DPut H a (.ref b) v (upd H a (.dT (pK kvs k v))):=.inr ⟨kvs,k,b,e,rfl,eb,hl,rfl⟩
section
variable {X:Cx}{pins:List (Addr×Obj)}{σ:St}{H:Hp}{s:Shared}{a:Addr}{y v:V}{u r:Value}{o:Option V}{A:Around}{E:Value->Shared->Prop}
theorem Inv.big (I:Inv X pins σ H s):sysModules < s.heap.objs.size:=by
 have h:mainGlobals < s.heap.objs.size:=(I.mod.glob.keeps I.bk).lt;exact Nat.lt_trans (by decide) h
theorem Zd {Q:Value->Shared->Prop}(hu:A.units+1 < cLine)(I:Inv X pins σ H s)(g:DGet H a y (some v))(ry:RelV y u)(h:∀w' s',Inv X pins σ H s'->RelV v w'->Q w' s'):
  wpAny (model X.prog X.w) A (getItem (.ref a) u) Q E s:=by
 rcases g with ⟨kvs,k,e,ey,l⟩ | ⟨kvs,k,b,e,ey,eb,l⟩
 .subst ey
  obtain⟨z,hd,vs,rel,dd⟩:=bN I.hok e;obtain⟨w',hw,rw'⟩:=RelO.some_of (v:=v) (o:=valueAt vs k) (by rw[l]; exact rel.val k);exact wpAny_getItem_of (zN ry) dd.mapOf hw (h w' _ (I.tok _) rw')
 .subst ey
  cases (show u=Value.ref b from ry);obtain⟨z,hd,xs,rel,dd⟩:=lO I.hok e;obtain⟨w',hw,rw'⟩:=RelO.some_of (v:=v) (o:=(atKey xs k).map (·.2)) (by rw[l]; exact rel.val k);obtain⟨p,hp,hp2⟩:=Option.map_eq_some_iff.mp hw;refine wpAny_getItem_heap (tupleKind_room_in1 hu) (zB I.hok eb) dd hp ?_;rw[hp2];exact h w' _ (I.tok _) rw'
theorem vD {h':Heap}{t':Nat}{ob:HO}(I:Inv X pins σ H s)(mu:Mut (H a))(hs:Heap.SameBut a s.heap h')(he:∃q,h'.get? a=some q)(new:ObjOk X.prog X.w (upd H a ob) h' a ob):
  Inv X pins σ (upd H a ob) { s with heap:=h',toks:=t' } :=
 I.write (x:=a) (e:=a) mu (.inl rfl) (fun b q hb z=>(hs.2 b hb).trans z) he new
theorem fI {P:Program}{w:World}{H':Hp}{h':Heap}{kvs:List (Key×V)}{vs:List (Key×Value)}(z:kvs.length<=sizeLine)(hd:(a==sysModules)=false)(rel:KV kvs vs)(dd:h'.DictOf (qX P w) a vs):
  ObjOk P w H' h' a (.dK kvs):=⟨z,hd,vs,rel,dd⟩
theorem Zc {H':Hp}{Q:Unit->Shared->Prop}(hu:A.units+1 < cLine)(I:Inv X pins σ H s)(g:DPut H a y v H')(ry:RelV y u)(rv:RelV v r)(h:∀s',Inv X pins σ H' s'->Q () s'):
  wpAny (model X.prog X.w) A (setItem (.ref a) u r) Q E s:=by
 rcases g with ⟨kvs,k,e,ey,l,eH⟩ | ⟨kvs,k,b,e,ey,eb,l,eH⟩
 .subst ey eH
  obtain⟨z,hd,vs,rel,dd⟩:=nO I.hok e;have hz:vs.length<=sizeLine:=by rw[<- rel.length]; exact z
  have hl:(pK kvs k v).length<=sizeLine:=by have:=uW kvs k v; omega
  refine wpAny_setItem_pairs (hsz:=hz) (zN ry) dd fun h' dd' hs=>h _ ?_;have he:∃q,h'.get? a=some q:=let ⟨q,_,_,hq,_⟩:=dd'; ⟨q,hq⟩
  exact vD I (by rw[e]; exact True.intro) hs he (fI hl hd (rel.put k rv) dd')
 .subst ey eH
  cases (show u=Value.ref b from ry);obtain⟨z,hd,xs,rel,dd⟩:=KG I.hok e;have hz:xs.length<=sizeLine:=by rw[<- Paired.length rel]; exact z
  have hl:(pK kvs k v).length<=sizeLine:=by have:=uW kvs k v; omega
  refine wpAny_setItem_heap (hsz:=hz) (tupleKind_room_in1 hu) (zB I.hok eb) dd fun h' dd' hs=>h _ ?_;obtain⟨q,es,ep,hq,h2,h3,h4,_,h5⟩:=dd';refine vD I (by rw[e]; exact True.intro) hs ⟨q,hq⟩ ⟨hl,hd,_,(rel.put k eb rv).keeps fun c ys ec=>?_,q,es,ep,hq,h2,h3,h4,h5⟩;rw[nQ (ne_of ec e (fun z=>nomatch z))];exact ec
end
section
variable {X:Cx}{pins:List (Addr×Obj)}{σ:St}{H:Hp}{s:Shared}{a:Addr}{kvs:List (Key×V)}{k:Key}{u:Value}{A:Around}{E:Value->Shared->Prop}
theorem d_len {Q:Value->Shared->Prop}(I:Inv X pins σ H s)(e:Rd H a (.dK kvs))(h:∀t s',Inv X pins σ H s'->Q (.int kvs.length t) s'):wpAny (model X.prog X.w) A (call (.builtin "len") [.ref a]) Q E s:=by
 obtain⟨z,hd,vs,rel,dd⟩:=bN I.hok e;refine call_len_dict hd dd (by rw[<- rel.length]; rw[BK] at z; omega) ?_;rw[<- rel.length];exact h _ _ (I.tok _)
end
def Qj (i:Expr):Prop:=∀ov iv,subscripted i false ov iv=operate [ov,iv] (getItem ov iv)
theorem Qv {prog:Program}{w:World}{A:Around}{E:Value->Shared->Prop}{s:Shared}{env:Env}{value slice:Expr}{pos:Pos}{T id:String}{Q:Value->Shared->Prop}
  (hl:typeLookup (.type T) "__getitem__" = pure (some (.builtin id))) (hs:Qj slice)
  (h:wpAny (model prog w) A (eval value env) (fun o s₁=>wpAny (model prog w) A (eval slice env) (fun i s₂=>s₂.TypeIs o T/\wpAny (model prog w) A (getItem o i) Q E s₂) E s₁) E s) :
  wpAny (model prog w) A (eval (.Subscript value slice pos) env) Q E s:=by
 refine Subscript_ (BH h (fun o s₁ h₁=>BH h₁ (fun i s₂ h₂=>?_) fun _ _ x=>x) fun _ _ x=>x);obtain⟨hT,h₂⟩:=h₂;unfold subscriptTail;refine AB ?_;rw[getitemInPython_of_ne hT.not_modules];refine AB (BN hT hl ?_)
 have fin:wpAny (model prog w) A (subscripted slice false o i) (fun r s₃=>wpAny (model prog w) A (letTemporaryGo value o r >>= fun _=>pure r) Q E s₃) E s₂:=by
  rw[hs o i];exact wpAny_operating (BH h₂ (fun r s₃ h₃=>AB (wpAny_letTemporaryGo (AE h₃))) fun _ _ x=>x)
 first
  |exact AE (AB fin)
  |exact AB (AE (AB fin))
  |exact AB fin
theorem oO {X:Cx}{pins:List (Addr×Obj)}{σ:St}{H:Hp}{s:Shared}{a:Addr}{y:V}{o:Option V}(I:Inv X pins σ H s)(g:DGet H a y o):s.TypeIs (.ref a) "dict":=by
 rcases g with ⟨kvs,k,e,_,_⟩ | ⟨kvs,k,b,e,_,_,_⟩
 .obtain ⟨_,_,vs,_,dd⟩:=bN I.hok e
  exact dd.typeIs
 .obtain ⟨_,_,xs,_,dd⟩:=lO I.hok e
  exact dd.typeIs
def tDGet (td ty:TE):TE:=fun σ H Q=>td σ H fun x H1=>ty σ H1 fun y H2=>∃a v,x=.ref a/\DGet H2 a y (some v)/\Q v H2
def sDPut (td ty tv:TE):TS:=fun D σ H=>tv σ H fun v H1=>td σ H1 fun x H2=>ty σ H2 fun y H3=>∃a H4,x=.ref a/\DPut H3 a y v H4/\D.nx σ H4
section
variable {X:Cx}{o i e value:Expr}{pos pos' tpos:Pos}{td ty tv:TE}
theorem pe_dget (hu:X.A.units+1 < cLine)(ho:PE X o td)(hi:PE X i ty)(hs:Qj i):PE X (.Subscript o i pos) (tDGet td ty):=by
 intro pins s σ H Q I h;refine Qv PySem.F.slot_dict_getitem.lookup hs (thn (ho pins s σ H _ I h) fun u s1 ⟨x,H1,I1,rx,q1⟩=>thn (hi pins s1 σ H1 _ I1 q1) fun iv s2 zq=>?_);obtain⟨y,H2,I2,ry,a,v,ex,g,q2⟩:=zq;subst ex;obtain rfl:u=Value.ref a:=rx;exact⟨oO I2 g,Zd hu I2 g ry fun w' s3 I3 rw'=>⟨v,H2,I3,rw',q2⟩⟩
theorem ps_dput (hu:X.A.units+1 < cLine)(ho:PE X o td)(hi:PE X i ty)(hv:PE X value tv)(hs:swapsWith value (some (.Subscript o i pos')) pos.line X.env=pure false):
  PS X (.Assign [.Subscript o i pos'] value pos) (sDPut td ty tv):=by
 intro pins s σ H D I h;refine wpAny_Assign_Subscript (thn (hv pins s σ H _ I h) fun r s1 ⟨v,H1,I1,rv,q1⟩=>thn (ho pins s1 σ H1 _ I1 q1) fun u s2 ⟨x,H2,I2,rx,q2⟩=>thn (hi pins s2 σ H2 _ I2 q2) fun iv s3 zq=>?_) hs;obtain⟨y,H3,I3,ry,a,H4,ex,g,q3⟩:=zq;subst ex;obtain rfl:u=Value.ref a:=rx;exact Zc hu I3 g ry rv fun s4 I4=>⟨σ,H4,I4,q3⟩
end
theorem sO {P:Program}{w:World}{H:Hp}(h:Heap)(hb:sysModules < h.objs.size):ObjOk P w H (h.push { cls:=.type "dict",data:=.dict #[] }) h.objs.size (.dK []) :=
 ⟨AV _,Ay.mpr (Ne.symm (Ag hb)),[],.nil,Heap.DictOf.new h⟩
theorem rO {P:Program}{w:World}{H:Hp}(h:Heap)(hb:sysModules < h.objs.size):ObjOk P w H (h.push { cls:=.type "dict",data:=.dict #[] }) h.objs.size (.dT []) :=
 ⟨AV _,Ay.mpr (Ne.symm (Ag hb)),[],.nil,_,#[],0,Aa _ rfl,⟨rfl,rfl,rfl⟩,rfl,rfl,BM⟩
def ZO:TE:=fun _ H Q=>∀p,H p=none->Q (.ref p) (upd H p (.dK []))
def ZN:TE:=fun _ H Q=>∀p,H p=none->Q (.ref p) (upd H p (.dT []))
section
variable {X:Cx}{pos:Pos}
theorem Jr:PE X (.Dict [] [] pos) ZO:=fun pins s σ H Q I h =>
 wpAny_Dict_empty ⟨.ref s.heap.objs.size,_,I.laid (a:=s.heap.objs.size) (o:=.dK []) (t':=s.toks) (fun _ _ q=>AF _ q) (AJ _) (sO s.heap I.big),rfl,h _ (I.hok.fresh (AJ _))⟩
theorem Jq:PE X (.Dict [] [] pos) ZN:=fun pins s σ H Q I h =>
 wpAny_Dict_empty ⟨.ref s.heap.objs.size,_,I.laid (a:=s.heap.objs.size) (o:=.dT []) (t':=s.toks) (fun _ _ q=>AF _ q) (AJ _) (rO s.heap I.big),rfl,h _ (I.hok.fresh (AJ _))⟩
end
def tN:List (TE×TE)->St->Hp->(List (V×V)->Hp->Prop)->Prop
 |[],_,H,Q=>Q [] H
 | (tk,tv)::r,σ,H,Q=>tk σ H fun x H1=>tv σ H1 fun y H2=>tN r σ H2 fun ps H3=>Q ((x,y)::ps) H3
abbrev VV:List (V×V)->List (Value×Value)->Prop:=Paired fun p q=>RelV p.1 q.1/\RelV p.2 q.2
def PPs (X:Cx)(pos:Pos)(keys:List (Option Expr))(values:List Expr)(trs:List (TE×TE)):Prop :=
 ∀(pins:List (Addr×Obj)) (s:Shared) (σ:St) (H:Hp) (Q:List (V×V)->Hp->Prop),Inv X pins σ H s->tN trs σ H Q ->
  wpAny (model X.prog X.w) X.A (evalPairs (pairTrees keys values X.env pos)) (fun vs s'=>∃ps H',Inv X pins σ H' s'/\VV ps vs/\Q ps H') X.xe s
theorem pps_nil {X:Cx}{pos:Pos}:PPs X pos [] [] []:=fun pins s σ H Q I h=>pairTrees_nil_walk ⟨[],H,I,.nil,h⟩
theorem Ji {X:Cx}{pos:Pos}{k v:Expr}{ks:List (Option Expr)}{vs:List Expr}{tk tv:TE}{trs:List (TE×TE)}(hk:PE X k tk)(hv:PE X v tv)(hr:PPs X pos ks vs trs):
  PPs X pos (some k::ks) (v::vs) ((tk,tv)::trs):=fun pins s σ H Q I h =>
 pairTrees_cons_walk (thn (hk pins s σ H _ I h) fun u s1 ⟨x,H1,I1,rx,q1⟩=>thn (hv pins s1 σ H1 _ I1 q1) fun w2 s2 ⟨y,H2,I2,ry,q2⟩ =>
  thn (hr pins s2 σ H2 _ I2 q2) fun ws s3 ⟨ps,H3,I3,rel,q3⟩=>⟨(x,y)::ps,H3,I3,.cons ⟨rx,ry⟩ rel,q3⟩)
def sV (kvs more:List (Key×V)):List (Key×V):=more.foldl (fun acc kv=>pK acc kv.1 kv.2) kvs
theorem KV.merge:∀{more:List (Key×V)}{rs:List (Key×Value)}{kvs:List (Key×V)}{vs:List (Key×Value)},KV more rs->KV kvs vs->KV (sV kvs more) (merged vs rs):=by
 intro more rs kvs vs r;unfold KV at r
 induction r generalizing kvs vs with
 |nil=>intro q; exact q
 |@cons p q ps qs h t ih =>
  intro r0
  have e:KV (pK kvs p.1 p.2) (stored vs q.1 q.2):=by
   have:=r0.put p.1 h.2;rw[<- h.1]; exact this
  exact ih e
theorem rW:∀(more kvs:List (Key×V)),(sV kvs more).length<=kvs.length+more.length
 |[],kvs=>by show kvs.length<=kvs.length+0; omega
 |p::r,kvs=>by
  have h1:=rW r (pK kvs p.1 p.2);have h2:=uW kvs p.1 p.2;show(sV (pK kvs p.1 p.2) r).length<=_;rw[AI]; omega
theorem bP {P:Program}{w:World}:∀{kvs:List (Key×V)}{ws:List (Value×Value)},VV (kvs.map fun kv=>(kV kv.1,kv.2)) ws->∃rs,Carries (qX P w) ws rs/\KV kvs rs
 |[],_,r=>by rw[List.map_nil] at r; cases r; exact⟨[],True.intro,.nil⟩
 |p::kvs,_,r=>by
  rw[Ac] at r
  cases r with
  |@cons a b as bs h t =>
   obtain⟨rs,c,q⟩:=bP (P:=P) (w:=w) t;obtain⟨b1,b2⟩:=b;exact⟨(p.1,b2)::rs,⟨zN h.1,rfl,c⟩,.cons ⟨rfl,h.2⟩ q⟩
def tDisp (trs:List (TE×TE)):TE:=fun σ H Q=>∀p,H p=none->tN trs σ (upd H p (.dK [])) fun ps H2=>H2 p=some (.dK [])/\∃kvs:List (Key×V),ps=kvs.map (fun kv=>(kV kv.1,kv.2))/\kvs.length<=15/\Q (.ref p) (upd H2 p (.dK (sV [] kvs)))
theorem pe_disp {X:Cx}{pos:Pos}{keys:List (Option Expr)}{values:List Expr}{trs:List (TE×TE)}(h:PPs X pos keys values trs)(hall:keys.all (·.isSome)=true)(hl:keys.length=values.length)(h0:keys≠[])
  (h15:keys.length<=15):PE X (.Dict keys values pos) (tDisp trs):=by
 intro pins s σ H Q I q;have hn:=I.hok.fresh (AJ s.heap.objs.size);have I1:=I.laid (a:=s.heap.objs.size) (o:=.dK []) (h':=s.heap.push { cls:=.type "dict",data:=.dict #[] }) (t':=s.toks) (fun _ _ q=>AF _ q) (AJ _) (sO s.heap I.big);refine wpAny_Dict_walk (knd:=qX X.prog X.w) hall hl h0 h15 (thn (h pins _ σ _ _ I1 (q _ hn)) fun ws s2 zq=>?_);obtain⟨ps,H2,I2,rel,e,kvs,ep,lk,q2⟩:=zq
 subst ep;obtain⟨rs,c,rk⟩:=bP (P:=X.prog) (w:=X.w) rel;obtain⟨z,hd,vs0,r0,dd⟩:=nO I2.hok e;cases r0;refine⟨rs,c,dd,fun h' dd' hs=>⟨.ref s.heap.objs.size,_,?_,rfl,q2⟩⟩
 have hz:(sV [] kvs).length<=sizeLine:=by
  have h1:=rW kvs [];rw[List.length_nil] at h1;rw[BK]; omega
 have he:∃q,h'.get? s.heap.objs.size=some q:=let ⟨q,_,_,hq,_⟩:=dd'; ⟨q,hq⟩
 exact vD I2 (by rw[e]; exact True.intro) hs he (fI hz hd (rk.merge .nil) dd')
structure M2 (X:Cx)(o:Expr)(m:Str)(apos:Pos)(e f:Expr)(cpos:Pos):Prop where
 base:attributeBase o m X.env (eval o X.env)=eval o X.env
 few:((backTo cpos (starEach [e,f] X.env)).all (fun x=>!x.1)&&(backToKw cpos (keywordEach [] X.env)).all (fun x=>x.1.isSome)
  && decide (([e,f]:List Expr).length+([]:List Keyword).length+(if ([]:List Keyword).isEmpty then 0 else 1) < 30))=true
 line:(apos.endLine==cpos.line)=true
 trees:backTo cpos (starEach [e,f] X.env)=[(false,eval e X.env),(false,eval f X.env)]
def IsD (H:Hp)(a:Addr):Prop:=(∃kvs,Rd H a (.dK kvs))\/∃kvs,Rd H a (.dT kvs)
theorem isD_at {X:Cx}{pins:List (Addr×Obj)}{σ:St}{H:Hp}{s:Shared}{a:Addr}(I:Inv X pins σ H s)(d:IsD H a):
  s.TypeIs (.ref a) "dict"/\(∀b,Value.ref a=.ref b->∃ob,s.heap.get? b=some ob/\ob.dict=none)/\(a==sysModules)=false:=by
 rcases d with ⟨kvs,e⟩ | ⟨kvs,e⟩
 .obtain ⟨_,hd,vs,_,dd⟩:=bN I.hok e
  refine⟨dd.typeIs,fun b q=>?_,hd⟩;cases q;obtain⟨ob,_,_,h1,h2,_⟩:=dd;exact⟨ob,h1,h2.2.1⟩
 .obtain ⟨_,hd,xs,_,dd⟩:=lO I.hok e
  refine⟨dd.typeIs,fun b q=>?_,hd⟩;cases q;obtain⟨ob,_,_,h1,h2,_⟩:=dd;exact⟨ob,h1,h2.2.1⟩
section
variable {X:Cx}{pins:List (Addr×Obj)}{σ:St}{H:Hp}{s:Shared}{a:Addr}{y d:V}{u r:Value}{o:Option V}{A:Around}{E:Value->Shared->Prop}
theorem d_get2 {Q:Value->Shared->Prop}(hu:A.units+1 < cLine)(I:Inv X pins σ H s)(g:DGet H a y o)(ry:RelV y u)(rd:RelV d r)(h:∀w' s',Inv X pins σ H s'->RelV (o.getD d) w'->Q w' s'):
  wpAny (model X.prog X.w) A (call (.builtin "dict.get") [.ref a,u,r]) Q E s:=by
 rcases g with ⟨kvs,k,e,ey,l⟩ | ⟨kvs,k,b,e,ey,eb,l⟩
 .subst ey
  obtain⟨z,hd,vs,rel,dd⟩:=bN I.hok e;refine call_meetsIn DD dd.typeIs PySem.F.entry_dict_get (PySem.F.args_dict_get_3 _ _ _) (meets_dict_get_default (qX X.prog X.w) a (zN ry) hd r) ⟨_,dd.mapOf,h _ _ (I.tok _) ?_⟩;rw[l];exact(rel.val k).getD rd
 .subst ey
  cases (show u=Value.ref b from ry);obtain⟨z,hd,xs,rel,dd⟩:=lO I.hok e;refine call_meetsIn DD dd.typeIs PySem.F.entry_dict_get (PySem.F.args_dict_get_3 _ _ _) (meetsH_dict_get_default (tupleKind (qX X.prog X.w)) a b hd r) ⟨tupleKind_room_in1 hu,k,xs,zB I.hok eb,dd,h _ _ (I.tok _) ?_⟩;rw[l];exact(rel.val k).getD rd
end
def ZP (td ty tx:TE):TE:=fun σ H Q=>td σ H fun x H1=>∃a,x=.ref a/\IsD H1 a/\ty σ H1 fun y H2=>tx σ H2 fun z H3=>∃o,DGet H3 a y o/\Q (o.getD z) H3
section
variable {X:Cx}{o e f:Expr}{apos cpos:Pos}{td ty tx:TE}
theorem Js (hu:X.A.units+1 < cLine)(ho:PE X o td)(he:PE X e ty)(hf:PE X f tx)(m:M2 X o "get" apos e f cpos):PE X (.Call (.Attribute o "get" apos) [e,f] [] cpos) (ZP td ty tx):=by
 intro pins s σ H Q I h;refine wpAny_Call_method m.base m.few m.line PySem.F.plainAttrs_dict DD PySem.F.type_dict_get (thn (ho pins s σ H _ I h) fun u s1 zq=>?_);obtain⟨x,H1,I1,rx,a,ex,d,q1⟩:=zq;subst ex;obtain rfl:u=Value.ref a:=rx;obtain⟨t1,t2,_⟩:=isD_at I1 d;refine⟨t1,t2,?_⟩;rw[m.trees]
 refine Cu rfl (Calls.evalArgs_plain (Calls.spliced_cons (thn (he pins s1 σ H1 _ I1 q1) fun iv s2 ⟨y,H2,I2,ry,q2⟩ =>
  Calls.spliced_cons (thn (hf pins s2 σ H2 _ I2 q2) fun fv s3 ⟨z,H3,I3,rz,ov,g,q3⟩=>Calls.spliced_nil ?_))))
 exact d_get2 hu I3 g ry rz fun w' s4 I4 rw'=>⟨_,H3,I4,rw',q3⟩
end
end L2
namespace Att
open PySem PySem.W PySem.Calls PyProof.Rows
theorem tF {P:Params}{h:Heap}:∀(ns:List Int) (vs:List Value),WellAll P h vs (ns.map WData.int)->IntsAre vs ns:=by
 intro ns
 induction ns with
 |nil =>
  intro vs w;rw[List.map_nil] at w;cases w;exact .nil
 |cons n ns ih =>
  intro vs w;rw[Ac] at w
  cases w with
  |cons a b =>
   cases a;exact .cons _ _ (ih _ b)
theorem Xw {l:OpenLaw}{n:Nat}(hn:l.most=some n){P:Params}{h:Heap}{args:List WData}{vals:List Value}
  (hpre:l.row.toRowW.claim.pre args=true) (hwl:WellAll P h vals args) :
  ∃a vs ns,vals=[Value.ref a]/\args=[WData.list (ns.map WData.int)]/\h.get? a=some { cls:=.type "list",data:=.seq vs.toArray }/\IntsAre vs ns/\ns.length<=n:=by
 have hsh:WShape.hasAll [] args [.list .int]=true:=(pre_splitW hpre).1;have hc:l.pre.holds [] { args:=args }=true:=(pre_splitW hpre).2;obtain⟨d,r,rfl,h1,h2⟩:=hasAllW_cons hsh;obtain rfl:=hasAllW_nil h2;obtain⟨xs,rfl,h3⟩:=hasW_list h1;obtain⟨ns,rfl⟩:=items_int h3
 have hlen:ns.length<=n:=by
  unfold OpenLaw.pre at hc
  have h4:(WTm.not (.lt (.lit (.int (n:Int))) (.len (.arg 0)))).holds [] { args:=[.list (ns.map .int)] }=true:=by
   have h4:=(holds_andW hc).1;rw[hn] at h4;exact h4
  have h5:=condW_of h4 (w_not (w_lt w_lit (w_len_list (w_arg rfl))));rw[AA] at h5;refine Nat.le_of_not_lt fun q=>?_;have q':(n:Int) < ((ns.length:Nat):Int):=by omega
  first
   | (rw[Af q'] at h5; exact absurd h5 (by decide))
   | (simp at h5; omega)
 cases hwl with
 |cons w1 w2 =>
  cases w2
  cases w1 with
  |list ho hall=>exact⟨_,_,ns,rfl,rfl,ho,tF ns _ hall,hlen⟩
theorem XB (l:OpenLaw)(args:List WData):l.row.toRowW.claim.post args (.bool true) args=true :=
 postW_of (r:=l.row.toRowW) (X:=(true==true))
  (show WShape.has [] (.bool true) .bool=true by first | rfl | decide | simp[WShape.has,WShape.arms,WShape.armsAll])
  (show(WTm.eq .res (.lit (.bool true))).value [] { args:=args,res:=some (.bool true),after:=args }=some (.bool (true==true)) from w_eq_bool (w_res rfl) w_lit) rfl
theorem attach_call {l:OpenLaw}{n:Nat}{q:Program}{loose:List Str}{XP:(Str->Option Value)->Heap->Prop}{YP:World->Heap->Prop}{d:DefRec}
  (hn:l.most=some n) (hdf:d.params.defaults=[])
  (call:∀(w:World) (s₀ s₁:Shared) (mg mb:Str->Option Value) (fa:Addr) (o:Obj) (pm cd doc:Value) (a:Addr) (vs:List Value) (ns:List Int),
   Ground q loose [] XP w s₀ mg mb s₁.heap->YP w s₁.heap ->
   s₁.heap.get? fa=some o->o.data=.func (docDef d.name d.params d.body d.scope pm cd doc)->s₁.heap.CodeRec cd d.name->mg d.name=some (.ref fa) ->
   s₁.heap.get? a=some { cls:=.type "list",data:=.seq vs.toArray }->IntsAre vs ns->ns.length<=n->s₁.gens = #[] ->
   codeAny (model l.prog w) callerA (.call (.ref fa) ⟨[.ref a],[]⟩) (fun r s'=>r=.ok (.ret (.bool true))/\OldK s₁.heap s'.heap/\s'.os=s₁.os/\AllBare s'.gens) s₁) :
  WalkO q loose XP YP l.row.toRowW d [] (fun f vs=>PySem.call f vs):=by
 intro w s₀ s₁ mg mb G Y fa o pm cd doc dV kV ho hd hcd hD hmg hg args vals as hpre hlay hrd hwl hlo;obtain rfl:dV=.none:=Dflts.none hD hdf;obtain rfl:kV=.none:=Dflts.noKw hD;obtain⟨a,vs,ns,rfl,rfl,hobj,hints,hlen⟩:=Xw hn hpre hwl;refine enter_call (CQ (call w s₀ s₁ mg mb fa o pm cd doc a vs ns G Y ho (fd_plain hd) hcd hmg hobj hints hlen hg) fun r s' hq=>?_);obtain⟨rfl,h2,h3,h4⟩:=hq
 exact⟨.inl ⟨.bool true,.bool true,[],rfl,fun _=>rfl,.bool true,XB l _,fun _=>⟨List.Pairwise.nil,fun _ hm=>(nomatch hm)⟩⟩,h2,h3,h4⟩
end Att
namespace L2
open PySem PySem.Spec PyProof.Rows
theorem fH:∀{vs:List Value}{ns:List Int},IntsAre vs ns->Vals (ns.map V.int) vs
 |_,_,.nil=>.nil
 |_,_,.cons n t h=>.cons ⟨t,rfl⟩ (fH h)
def Only (H:Hp):Prop:=∀b,H b=none\/∃o xs,H b=some (.frz o (.lst xs))
theorem J0 {P:Program}{w:World}{K:DK}{mg mb:Str->Option Value}{CX:CXT}{k:Nat}{fa a:Addr}{fd:FuncData}{x:Str}{sp:Sp}{s₁:Shared}{vs:List Value}{ns:List Int}
  (KX:K.In s₁.heap) (hns:s₁.heap.Ns mainGlobals mg) (hb:s₁.heap.Ns builtinsNs mb) (hbb:∀x:Str,x ≠ "__name__"->mb x=bootBuiltins x) (hlim:s₁.heap.NoLimit) (hg:s₁.gens = #[])
  (ha:s₁.heap.get? a=some { cls:=.type "list",data:=.seq vs.toArray }) (hi:IntsAre vs ns) (hl:ns.length<=sizeLine) (hr:Room k callerA)
  (F:∀base:Heap,K.In base->base.Ns mainGlobals mg->FnOk P w K mg base CX k fa fd [x] sp) (hbind:∀(s:Shared) (u:Value),BindsTo s fd ⟨[u],[]⟩ [(x,u)])
  (hsp:∀H:Hp,Only H->SqL K H a (ns.map V.int)->sp [.ref a] H (fun v _=>v=.bl true) fun _ _ _=>False)
  (hCX:∀H e s',CX [] H s₁ (fun _ _ _=>False) e s'->False) :
  codeAny (model P w) callerA (.call (.ref fa) ⟨[.ref a],[]⟩) (fun r s'=>r=.ok (.ret (.bool true))/\OldK s₁.heap s'.heap/\s'.os=s₁.os/\AllBare s'.gens) s₁:=by
 have rv:=fH hi;have lenV:=hi.length
 have core:∀H:Hp,Only H->SqL K H a (ns.map V.int)->HOk P w H s₁.heap->(∀b,H b≠none->b=a)->(H a≠none->K.lookup a=none) ->
   codeAny (model P w) callerA (.call (.ref fa) ⟨[.ref a],[]⟩) (fun r s'=>r=.ok (.ret (.bool true))/\OldK s₁.heap s'.heap/\s'.os=s₁.os/\AllBare s'.gens) s₁:=by
  intro H hO hS hok hA hK;have base_of:∀{b:Addr} {o:Obj},s₁.heap.get? b=some o->H b=none->(eC s₁.heap H).get? b=some o:=fun e n=>Kn e n
  have noA:∀{b:Addr} {o:Obj} {es:Array DictEntry} {ep:Nat},s₁.heap.get? b=some o->o.data=.dict es ep->H b=none:=fun {b o es ep} e d=>by
   cases q:H b with
   |none=>rfl
   |some u =>
    have e':b=a:=hA b (by rw[q]; simp);subst e';rw[ha] at e; cases e
    have d':Data.seq vs.toArray _=Data.dict es ep:=d;cases d'
  have nsK:∀{b:Addr} {m:Str->Option Value},s₁.heap.Ns b m->(eC s₁.heap H).Ns b m:=fun {b m} ⟨o,es,ep,e,d,r⟩=>⟨o,es,ep,base_of e (noA e d),d,r⟩
  have hKb:K.In (eC s₁.heap H):=fun b o e=>base_of (KX b o e) (by
   cases q:H b with
   |none=>rfl
   |some u =>
    have e':b=a:=hA b (by rw[q]; simp);subst e'
    rw[hK (by rw[q]; simp)] at e; cases e)
  have hM:Mod K mg (eC s₁.heap H):=⟨hKb,nsK hns,⟨mb,nsK hb,hbb⟩,let ⟨mc,h1,h2⟩:=hlim; ⟨mc,nsK h1,h2⟩⟩;have e0:Env0 P w K mg (eC s₁.heap H) callerA [] s₁ H:=⟨rfl,hM,fun b o e=>of_hidT e,Nat.le_of_eq (X4 _ _),trivial,fun b hb=>absurd (show b∈([]:List Addr) from hb) (by simp),hok,.of_eq hg⟩;refine CQ ((F _ hKb (nsK hns)).run callerA [] s₁ H ⟨[.ref a],[]⟩ [.ref a] [.ref a] _ _ hr e0 (hbind s₁ (.ref a)) (.cons rfl .nil) (hsp H hO hS)) fun r s' h=>?_
  cases r with
  |error e=>exact(hCX H e s' h).elim
  |ok fl =>
   cases fl with
   |next=>exact False.elim h
   |brk=>exact False.elim h
   |cont=>exact False.elim h
   |ret u =>
    obtain⟨v,H',os,bare,un,hok',r',q⟩:=h;have q':v=.bl true:=q;subst q';obtain rfl:u=Value.bool true:=r';refine⟨rfl,OldK.of_keep fun b o e=>?_,os,bare⟩
    cases q:H b with
    |none=>exact un.keep b o e q (by intro z; exact absurd (show b∈([]:List Addr) from z) (by simp)) (by simp)
    |some u =>
     rcases hO b with z | ⟨ob,xs,z⟩
     .rw [q] at z; cases z
     .have z2:=un.frzs b ob _ z
      obtain⟨e1,_⟩:=hok b _ z;obtain⟨e2,_⟩:=hok' b _ z2;rw[e] at e1; cases e1
      exact e2
 cases hk:K.lookup a with
 |some o =>
  have e:=KX a o hk;rw[ha] at e;cases e;refine core (fun _=>none) (fun _=>.inl rfl) (.inr ⟨_,vs.toArray,_,hk,rfl,rfl,rfl,by rw[Ai,lenV]; exact hl,by simpa using rv⟩) (fun b u z=>by have z':(none:Option HO)=some u:=z; cases z') (fun b z=>absurd rfl z) fun z=>absurd rfl z
 |none =>
  refine core (fun b=>if b=a then some (.frz { cls:=.type "list",data:=.seq vs.toArray } (.lst (ns.map V.int))) else none) (fun b=>?_) (.inl (.inr ⟨{ cls:=.type "list",data:=.seq vs.toArray },AW rfl⟩)) (fun b u z=>?_) (fun b z=>?_) fun _=>hk
  .by_cases hb:b=a
   .exact .inr ⟨_,_,AW hb⟩
   .exact .inl (AT hb)
  .by_cases hb:b=a
   .have z':=(AW hb).symm.trans z
    cases z';subst hb;exact⟨ha,by rw[AA]; exact hl,vs,_,rv,ha⟩
   .have z':=(AT hb).symm.trans z
    cases z'
  .by_cases hb:b=a
   .exact hb
   .exact absurd (AT hb) z
theorem walk_of {l:PySem.W.OpenLaw}{n k:Nat}{q:Program}{loose:List Str}{XP:(Str->Option Value)->Heap->Prop}{YP:World->Heap->Prop}{d:DefRec}{K:Params->DK}{CX:World->CXT}{sp:World->Sp}{x:Str}
  (hn:l.most=some n) (hn2:n<=sizeLine) (hdf:d.params.defaults=[]) (hr:Room k callerA)
  (hY:∀(w:World) (h:Heap),YP w h->(K w.params).In h)
  (F:∀(w:World) (mg:Str->Option Value) (fa:Addr) (h:Heap),(K w.params).In h->h.Ns mainGlobals mg->mg d.name=some (.ref fa) ->
   ∃fd:FuncData,(∀(s:Shared) (u:Value),BindsTo s fd ⟨[u],[]⟩ [(x,u)]) /\
    ∀base:Heap,(K w.params).In base->base.Ns mainGlobals mg->FnOk l.prog w (K w.params) mg base (CX w) k fa fd [x] (sp w))
  (hsp:∀(w:World) (H:Hp) (a:Addr) (ns:List Int),ns.length<=n->Only H->SqL (K w.params) H a (ns.map V.int)->sp w [.ref a] H (fun v _=>v=.bl true) fun _ _ _=>False)
  (hCX:∀(w:World) (H:Hp) (s:Shared) (e:Value) (s':Shared),CX w [] H s (fun _ _ _=>False) e s'->False) :
  PySem.W.WalkO q loose XP YP l.row.toRowW d [] (fun f vs=>PySem.call f vs):=by
 refine Att.attach_call hn hdf fun w s₀ s₁ mg mb fa o pm cd doc a vs ns G Y ho hd hcd hmg hobj hints hlen hg=>?_;have KX:=hY w _ Y;obtain⟨fd,hb,hF⟩:=F w mg fa _ KX G.T.g hmg;exact J0 KX G.T.g G.T.b G.T.builtins G.T.nolimit hg hobj hints (Ae hlen hn2) hr hF hb (fun H hO hS=>hsp w H a ns hlen hO hS) fun H e s'=>hCX w H s₁ e s'
def yV (s:Stmt)(j:Nat):Stmt:=match s with
 |.ClassDef _ _ _ body _ _ _ _ _ _ _=>body.getD j (.Pass ⟨0,0,0,0⟩)
 |_=>.Pass ⟨0,0,0,0⟩
def bW (s:Stmt):Arguments:=match s with
 |.FunctionDef _ a _ _ _ _ _ _ _ _=>a
 |_=>{ posonlyargs:=[],args:=[],vararg:=none,kwonlyargs:=[],kw_defaults:=[],kwarg:=none,defaults:=[] }
def wK (s:Stmt):List Stmt:=match s with
 |.FunctionDef _ _ b _ _ _ _ _ _ _=>b
 |_=>[]
def xX (s:Stmt):Scope:=match s with
 |.FunctionDef _ _ _ _ _ _ sc _ _ _=>sc
 |_=>{ kind:=.function,names:=[],isGenerator:=false,isCoroutine:=false }
abbrev CX0:CXT:=fun _ _ _ _ _ _=>False
abbrev E0:XK:=fun _ _ _=>False
theorem Jv {X:Cx}:jW CX0 X E0:=fun _ _ _ _ _ _ _ h=>h.elim
structure Fun (K:DK)(x qual:Str)(st:Stmt)(f:Addr)(fd:FuncData):Prop where
 ex:∃(oc:Value) (od:Option Addr) (kV doc pm:Value) (an:Option Addr) (cdv ct:Value) (osl:Array (Option Value)),
  fd=PySem.W.fnOf x qual (bW st) (wK st) (xX st) .none kV doc pm an cdv ct/\K.lookup f=some ⟨oc,od,.func fd,osl⟩/\PySem.W.codeIn K cdv qual=true
 kp:PySem.W.keepIn K (.ref f)=true
section
variable {P:Program}{w:World}{K:DK}{mg:Str->Option Value}{base:Heap}
theorem Fun.ok {x qual:Str}{st:Stmt}{f:Addr}{fd:FuncData}{N ps:List Str}{k:Nat}{sp:Sp}(F:Fun K x qual st f fd)(S:FnScope N ps (xX st))(len:∀vs H Q E,sp vs H Q E->vs.length=ps.length)
  (hbody:∀(cdv:Value) (A:Around) (outer:List Env) (s:Shared) (H:Hp) (vs:List V) (Q:VK) (E:XK),Room k (A.deeper (envOfC qual (xX st) s.heap.objs.size f cdv))->sp vs H Q E ->
   ∃t,PSs (xR CX0 P w K mg base N qual (xX st) f cdv A outer s H E).nox (wK st) t/\t { nx:=fun _ H'=>Q .non H',rt:=Q } (start N vs) H):FnOk P w K mg base CX0 (k+1) f fd ps sp:=by
 obtain⟨oc,od,kV,doc,pm,an,cdv,ct,osl,rfl,lk,hcd⟩:=F.ex;refine fn_of lk hcd S len fun A outer s H vs Q E hr hsp=>?_;obtain⟨t,h,q⟩:=hbody cdv A outer s H vs Q E hr hsp;exact⟨t,h.nox,q⟩
theorem Fun.binds {x qual:Str}{st:Stmt}{f:Addr}{fd:FuncData}{ps:List Str}(F:Fun K x qual st f fd)
  (h:∀(kV doc pm:Value) (an:Option Addr) (cdv ct:Value) (us:List Value),us.length=ps.length->bindArgs (PySem.W.fnOf x qual (bW st) (wK st) (xX st) .none kV doc pm an cdv ct) ⟨us,[]⟩=pure (ps.zip us)):Binds K fd ps []:=by
 obtain⟨oc,od,kV,doc,pm,an,cdv,ct,osl,rfl,lk,hcd⟩:=F.ex;exact .all (h kV doc pm an cdv ct)
theorem qR {x qual:Str}{st:Stmt}{f:Addr}{oc:Value}{od an:Option Addr}{osl:Array (Option Value)}{kV doc pm cdv ct:Value}(l:K.lookup f=some ⟨oc,od,.func (PySem.W.fnOf x qual (bW st) (wK st) (xX st) .none kV doc pm an cdv ct),osl⟩)
  (c:PySem.W.codeIn K cdv qual=true) (k:PySem.W.keepIn K (.ref f)=true):Fun K x qual st f (PySem.W.fnOf x qual (bW st) (wK st) (xX st) .none kV doc pm an cdv ct):=⟨⟨oc,od,kV,doc,pm,an,cdv,ct,osl,rfl,l,c⟩,k⟩
end
theorem rX {A:Around}{k:Nat}(hr:Room k A):A.units+1 < cLine:=As (Nat.add_le_add_left (by decide:1<=64) _) hr.units
section
variable {X:Cx}
theorem pv (i:Nat){x:Str}{pos:Pos}(hN:X.N[i]?=some x:=by rfl)(hv:Vis X.env.scope x:=by first | exact Or.inl rfl | exact Or.inr (Or.inl rfl) | exact Or.inr (Or.inr rfl))(hd:(x==("__debug__" : Str))=false:=by decide)
  (hcd:(x==("__classdict__" : Str))=false:=by decide):PE X (.Name x pos) (tVar i):=Jn hN hv hd hcd
end
def Same (H H':Hp):Prop:=∀b o,H b=some o->H' b=some o
theorem Same.refl (H:Hp):Same H H:=fun _ _ h=>h
section
variable {X:Cx}
theorem Zo:CallR X (.builtin "len") (fun xs H Q=>∃a kvs,xs=[V.ref a]/\H a=some (.dK kvs)/\Q (.int kvs.length) H):=by
 intro pins s σ H xs us Q I r h;obtain⟨a,kvs,rfl,ha,q⟩:=h;obtain⟨u,rfl,ru⟩:=pG r;cases ru;exact d_len I (.inl ha) fun t s' I'=>⟨.int kvs.length,H,I',⟨t,rfl⟩,q⟩
end
def eQ:Expr->Bool
 |.Starred _ _=>false
 |_=>true
theorem kJ {e:Expr}{es:List Expr}{env:Env}(h:eQ e=true):starEach (e::es) env=(false,eval e env)::starEach es env:=by
 cases e<;>first | rfl | exact absurd h AL
theorem dG {pos:Pos}{env:Env}:∀{es:List Expr},es.all eQ=true->(backTo pos (starEach es env)).any (·.1)=false
 |[],_=>rfl
 |e::es,h=>by
  rw[List.all_cons,BC] at h;rw[kJ h.1];show(false || (backTo pos (starEach es env)).any (·.1))=false;rw[dG h.2]
  rfl
section
variable {X:Cx}{e:Expr}{es:List Expr}{te:TE}{t:TA}{x:Str}{p pos:Pos}
theorem qa_cons (ha:PE X e te)(hr:PA X es t)(hs:eQ e=true:=by rfl):PA X (e::es) (ZQ te t):=pa_cons ha hr (kJ hs)
theorem qe_call {CX:CXT}{k:Nat}{f:Addr}{fd:FuncData}{ps:List Str}{sp:Sp}{dvs:List V}{ds:List Value}{E:XK}(F:FnOk X.prog X.w X.K X.mg X.base CX k f fd ps sp)(hr:Room k X.A)(hg:Gl X x)(hm:X.mg x=some (.ref f))(hk:PySem.W.keepIn X.K (.ref f)=true)(hb:Binds X.K fd ps ds)(hd:Vals dvs ds)(hx:jW CX X E)
  (ha:PA X (e::es) t) (hdb:(x==("__debug__" : Str))=false:=by decide) (hs:eQ e=true:=by rfl) (hall:es.all eQ=true:=by rfl):PE X (.Call (.Name x p) (e::es) [] pos) (ZR sp dvs E t) :=
 pe_call F hr hg hm hk hb hd hx ha hdb (kJ hs) (dG hall)
theorem Z6 {id:String}{r:List V->Hp->VK->Prop}(hc:CallR X (.builtin id) r)(hg:Gl X x)(hm:X.mg x=none)(hv:bootBuiltins x=some (.builtin id))(ha:PA X (e::es) t)(hn:x ≠ "__name__":=by decide)(hdb:(x==("__debug__" : Str))=false:=by decide)
  (hs:eQ e=true:=by rfl) (hall:es.all eQ=true:=by rfl):PE X (.Call (.Name x p) (e::es) [] pos) (tCB r t):=Ju hc hg hm hv ha hn hdb (kJ hs) (dG hall)
theorem Xz {T:String}{r:List V->Hp->VK->Prop}(hc:CallR X (.type T) r)(hg:Gl X x)(hm:X.mg x=none)(hv:bootBuiltins x=some (.type T))(ha:PA X (e::es) t)(hn:x ≠ "__name__":=by decide)(hdb:(x==("__debug__" : Str))=false:=by decide)
  (hs:eQ e=true:=by rfl) (hall:es.all eQ=true:=by rfl):PE X (.Call (.Name x p) (e::es) [] pos) (tCB r t):=XE hc hg hm hv ha hn hdb (kJ hs) (dG hall)
end
section
variable {prog:Program}{w:World}{A:Around}{R:Result->Shared->Prop}{s:Shared}
theorem wR {elt target iter:Expr}{ifs:List Expr}{scope:Scope}{pos:Pos}{it acc:Value}{env:Env}(I:Nat->Shared->Prop)
  (turn:∀n s,I n s->wpAny (model prog w) A (pyNext it) (fun r s₁=>match r with
   |none=>R (.ok .next) s₁
   |some v=>wpAny (model prog w) A (letOwnedTupleGo target it v) (fun _ s₁=>wpAny (model prog w) A (assign target env v) (fun _ s₂ =>
     wpAny (model prog w) A (forIn ifs true fun c r=>if r=true then do let ok <- isTrue c env (eval c env); pure (ForInStep.yield ok) else pure (ForInStep.yield r)) (fun ok s₃ =>
      if ok=true then wpAny (model prog w) A (eval elt env) (fun x s₄ =>
       wpAny (model prog w) A (call (.builtin "list.append") [acc,x]) (fun _ s₅=>∃m,m < n/\I m s₅) (fun _ _=>False) s₄) (fun _ _=>False) s₃
      else ∃m,m < n/\I m s₃) (fun _ _=>False) s₂) (fun _ _=>False) s₁) (fun _ _=>False) s₁) (fun _ _=>False) s)
  (n:Nat) (h:I n s) :
  codeAny (model prog w) A (.compLoop (.ListComp elt [⟨target,iter,ifs,0⟩] scope pos) 0 it acc env) R s:=by
 refine codeAny_loop rfl I (fun n s hI=>?_) n h;show wpAny _ A ((compTurn (.ListComp elt [⟨target,iter,ifs,0⟩] scope pos) 0 it acc env).onRaise (fun x=>do noteFrame x env; theTreesLotGoes x)) _ _ s;refine wpAny_noted ?_;rw[compTurn_list];refine AB (wpAny_standAt (AB (BH (turn n s hI) (fun r s₁ h₁=>?_) fun _ _ h'=>False.elim h')))
 cases r with
 |none=>exact AE h₁
 |some v =>
  refine AB (BH h₁ (fun _ s₁' h₁'=>?_) fun _ _ h'=>False.elim h');refine AB (BH h₁' (fun _ s₂ h₂=>AB (BH h₂ (fun ok s₃ h₃=>?_) fun _ _ h'=>False.elim h')) fun _ _ h'=>False.elim h')
  cases ok with
  |false=>exact AE ⟨rfl,h₃⟩
  |true =>
   exact AB (AB (BH h₃ (fun x s₄ h₄=>AB (BH h₄ (fun _ s₅ h₅=>AE (AE ⟨rfl,h₅⟩)) fun _ _ h'=>False.elim h')) fun _ _ h'=>False.elim h'))
end
theorem nJ {env:Env}:∀{names:List (Str×NameKind)}{y:Str}{k:NameKind},
  (names.map fun(n,k)=>if (k==NameKind.free&&env.scope.kind==.function&&env.kindOf n==some .cell) then (n,NameKind.cell) else (n,k)).lookup y=some k ->
   ∃k0,(y,k0)∈names/\(k=k0\/(k0=.free/\k=.cell))
 |[],_,_,h=>by simp at h
 | (n,k1)::r,y,k,h=>by
  have ih:=@nJ env r y k;have h:List.lookup y ((if (k1==NameKind.free&&env.scope.kind==.function&&env.kindOf n==some .cell)=true then (n,NameKind.cell) else (n,k1))::_)=some k:=h
  cases hx:y==n with
  |true =>
   have e:y=n:=by simpa using hx
   subst e
   by_cases hc:(k1==NameKind.free&&env.scope.kind==.function&&env.kindOf y==some .cell)=true
   .rw [AW hc] at h
    simp only[List.lookup_cons,beq_self_eq_true] at h
    have hk:k1=.free:=by
     rw[BC,BC] at hc;exact Cq.mp hc.1.1
    exact⟨k1,AD,.inr ⟨hk,(Ar h).symm⟩⟩
   .rw [AT hc] at h
    simp only[List.lookup_cons,beq_self_eq_true] at h
    exact⟨k1,AD,.inl (Ar h).symm⟩
  |false =>
   have h2:(r.map fun(n,k)=>if (k==NameKind.free&&env.scope.kind==.function&&env.kindOf n==some .cell) then (n,NameKind.cell) else (n,k)).lookup y=some k:=by
    by_cases hc:(k1==NameKind.free&&env.scope.kind==.function&&env.kindOf n==some .cell)=true
    .rw [AW hc] at h; simp only[List.lookup_cons,hx] at h; exact h
    .rw [AT hc] at h; simp only[List.lookup_cons,hx] at h; exact h
   obtain⟨k0,m,q⟩:=ih h2;exact⟨k0,AG _ m,q⟩
def Zv (X:Cx)(ifs:List Expr)(t:TT):Prop :=
 ∀(pins:List (Addr×Obj)) (s:Shared) (σ:St) (H:Hp) (Q:Bool->Hp->Prop),Inv X pins σ H s->t σ H Q ->
  wpAny (model X.prog X.w) X.A (forIn ifs true fun c r=>if r=true then do let ok <- isTrue c X.env (eval c X.env); pure (ForInStep.yield ok) else pure (ForInStep.yield r)) (TP X pins σ Q) X.xe s
def tYes:TT:=fun _ H Q=>Q true H
theorem Jl {X:Cx}:Zv X [] tYes:=fun _ _ _ H _ I h=>wpAny_tests_nil ⟨H,I,h⟩
theorem Jk {X:Cx}{c:Expr}{t:TT}(h:PT X c t):Zv X [c] t:=fun pins s σ H Q I hw=>wpAny_tests_one (h pins s σ H Q I hw)
def cxN (X:Cx)(xs:List Str)(scope:Scope)(cl:List (Str×Addr))(fp:List Addr)(C:Addr)(s₂:Shared)(H₂:Hp):Cx where
 prog:=X.prog
 w:=X.w
 K:=X.K
 mg:=X.mg
 base:=X.base
 A:=X.A
 N:=xs++X.N
 s₀:=s₂
 H₀:=H₂
 env:=compEnvC scope cl C X.env
 outer:=X.stack
 stack:=X.stack
 ex:=fp
 fn:=fun _=>false
 calm:=X.calm
 pn:=[]
 xe:=fun _ _=>False
abbrev gJ (X:Cx)(x:Str):=cxN X [x]
def uS (wi:TI)(tc:TT)(te:TE):TE:=fun σ H Q=>wi σ H fun J H1=>∀D,H1 D=none->∃W:Nat->Nat->List V->Hp->Prop,(∃m,W 0 m [] (upd H1 D (.lst [])))/\∀i m ys H,W i m ys H ->
 (J.stop i H/\Q (.ref D) H)\/(J.go i H/\∀x H',J.yld i H x H'->tc (some x::σ) H' fun b H2 =>
  if b=true then te (some x::σ) H2 fun y H3=>H3 D=some (.lst ys)/\ys.length < sizeLine/\∃m',m' < m/\W (i+1) m' (ys++[y]) (upd H3 D (.lst (ys++[y])))
  else ∃m',m' < m/\W (i+1) m' ys H2)
section
variable {X:Cx}
structure mK (X:Cx)(xs:List Str)(scope:Scope)(cl:List (Str×Addr)):Prop where
 clos:closureFor scope X.env=pure cl
 cell:∀y∈scope.names,y.2≠.cell
 kind:scope.kind=.function
 names:∀y∈scope.names,y.2=.local->scope.names.lookup y.1=some .local
 hx:∀x∈xs,scope.names.lookup x=some .local
 loc:∀y∈scope.names,y.2=.local->y.1∉X.N
 free:∀y∈scope.names,y.2=.free->X.env.kindOf y.1≠some .local/\(X.env.kindOf y.1=some .cell\/X.env.kindOf y.1=some .free)/\∃c,cl.lookup y.1=some c
 cl:∀y c,cl.lookup y=some c->X.env.cells.lookup y=some c
abbrev zU (X:Cx)(x:Str):=mK X [x]
theorem pW {elt iter tg:Expr}{xs:List Str}{pos:Pos}{ifs:List Expr}{scope:Scope}{cl:List (Str×Addr)}{tc:TT}{te:TE}{g:TG}{Tk:V->Hp->List V->Prop}{RR:Value->Addr->Result->Shared->Prop}{EE:Value->Shared->Prop}
  (hc:X.calm=true) (K:mK X xs scope cl) (hg:∀fp C s₂ H₂,PG (cxN X xs scope cl fp C s₂ H₂) tg g)
  (ht:∀fp C s₂ H₂,Zv (cxN X xs scope cl fp C s₂ H₂) ifs tc) (he:∀fp C s₂ H₂,PE (cxN X xs scope cl fp C s₂ H₂) elt te)
  {pins:List (Addr×Obj)} {σ:St} {s₂:Shared} {H₂:Hp} {it:Addr} {fp:List Addr} {tn:Nat->Heap->Prop} {J:It} {Q:VK}
  (hG:∀ws vs x H Q,ws.length=xs.length->Tk x H vs->vs.length=xs.length->Q (vs.map some++σ) H->g x (ws++σ) H Q) (I₂:Inv X pins σ H₂ s₂) (T:Zt X.prog X.w X.K tg J fp it tn) (st₂:tn 0 s₂.heap) (f₂:∀b∈fp,dE X pins H₂ b)
  (R:∀D,H₂ D=none->∃W:Nat->Nat->List V->Hp->Prop,(∃m,W 0 m [] (upd H₂ D (.lst [])))/\∀i m ys H,W i m ys H ->
   (J.stop i H/\Q (.ref D) H)\/(J.go i H/\∀x H',J.yld i H x H'->∃vs,Tk x H' vs/\vs.length=xs.length/\tc (vs.map some++σ) H' fun b H2 =>
    if b=true then te (vs.map some++σ) H2 fun y H3=>H3 D=some (.lst ys)/\ys.length < sizeLine/\∃m',m' < m/\W (i+1) m' (ys++[y]) (upd H3 D (.lst (ys++[y])))
    else ∃m',m' < m/\W (i+1) m' ys H2))
  (hRR:∀(D C:Addr) (H:Hp) (s4:Shared) (m:Str->Option Value),s4.heap.Ns C m->C≠X.env.locals->H C=none->(∀x c,X.env.cells.lookup x=some c->c≠C)->s₂.heap.objs.size<=C->Inv X pins σ H s4 ->
   Q (.ref D) H->RR (.ref D) C (.ok .next) s4) :
  wpAny (model X.prog X.w) X.A (newList []) (fun acc s₃=>wpAny (model X.prog X.w) X.A (newFunctionEnv scope X.env.globals cl [] X.env.qual none .none (some X.env)) (fun cenv s₄ =>
   codeAny (model X.prog X.w) X.A (.compStart (.ListComp elt [⟨tg,iter,ifs,0⟩] scope pos) 0 (.ref it) acc { cenv with scope:=relabel scope X.env }) (RR acc cenv.locals) s₄) EE s₃) EE s₂:=by
 refine Bk (wpAny_newFunctionEnv K.cell (by intro y hy; simp at hy) (fun h₁ hns₁ hsb₁=>?_) K.kind);dsimp only at hns₁ hsb₁ ⊢;generalize hH2:s₂.heap.push { cls:=.type "list",dict:=none,data:=.seq ([]:List Value).toArray }=H2 at hns₁ hsb₁ ⊢;have hC:H2.objs.size=s₂.heap.objs.size+1:=by rw[<- hH2,BU]
 have hDC:s₂.heap.objs.size≠H2.objs.size:=by rw[hC]; exact Ag (B6 _)
 have below:∀b,b < s₂.heap.objs.size->b≠H2.objs.size/\b≠s₂.heap.objs.size:=fun b hb=>⟨by rw[hC]; exact Ag (Cf hb),Ag hb⟩;have old:∀b o,s₂.heap.get? b=some o->h₁.get? b=some o:=fun b o e=>hsb₁.extBut b o (below b (AN e)).1 (AF _ (hH2▸AF _ e));have hacc:h₁.get? s₂.heap.objs.size=some { cls:=.type "list",dict:=none,data:=.seq ([]:List Value).toArray }:=hsb₁.extBut _ _ hDC (AF _ (hH2▸Aa _ rfl))
 have fD:H₂ s₂.heap.objs.size=none:=I₂.hok.fresh (AJ _);have fC:H₂ H2.objs.size=none:=I₂.hok.fresh (by rw[hC]; exact CD _);have fpLt:∀b∈fp,b < s₂.heap.objs.size:=fun b hb=>let ⟨o,e,_⟩:=T.obj _ _ st₂ b hb; AN e
 obtain⟨W,⟨m0,w0⟩,turn⟩:=R s₂.heap.objs.size fD
 have okX:(cxN X xs scope cl fp H2.objs.size s₂ H₂).Ok:=by
  refine⟨I₂.ok.mod,K.kind,I₂.ok.glob,I₂.ok.blt,?_,fun y z c h1 h2=>I₂.ok.inj y z c (K.cl y c h1) (K.cl z c h2),fun y hy=>?_,fun y c h _=>?_,I₂.ok.hd,I₂.ok.frames,.inl rfl,fun b hb=>⟨(below b (fpLt b hb)).1,fun y c h=>(f₂ b hb).2.2.2.2.1 y c (K.cl y c h)⟩,I₂.bs,
   Ae I₂.ok.bsz I₂.sz,fun b o e hb=>?_,fun b hb z=>?_,I₂.stack,I₂.stkFree⟩
  .show s₂.heap.objs.size<=H2.objs.size
   rw[hC]; exact CD _
  .have hy':(scope.names.map fun(n,k)=>if (k==NameKind.free&&X.env.scope.kind==.function&&X.env.kindOf n==some .cell) then (n,NameKind.cell) else (n,k)).lookup y=some .cell \/
     (scope.names.map fun(n,k)=>if (k==NameKind.free&&X.env.scope.kind==.function&&X.env.kindOf n==some .cell) then (n,NameKind.cell) else (n,k)).lookup y=some .free:=hy
   have fr:(y,NameKind.free)∈scope.names:=by
    rcases hy' with q | q
    .obtain ⟨k0,hm,z | ⟨z,_⟩⟩:=nJ q
     .subst z; exact absurd rfl (K.cell _ hm)
     .subst z; exact hm
    .obtain ⟨k0,hm,z | ⟨z,w⟩⟩:=nJ q
     .subst z; exact hm
     .cases w
   exact(K.free _ fr rfl).2.2
  .exact absurd (show false=true from h) AL
  .obtain ⟨_,_,_,f3,_⟩:=f₂ b hb
   rcases f3 with z | z
   .exact I₂.ok.noex b o e z
   .exact absurd (AR (AN (I₂.ok.bs b o e).1) z) (BJ _)
  .obtain ⟨_,f1,f2',_⟩:=f₂ b hb
   rcases Ah.mp (I₂.stkSub b z) with q | q
   .exact f1 q
   .exact f2' q
 have hDne:∀b,H₂ b≠none->b≠s₂.heap.objs.size:=fun b hb z=>hb (z▸fD);have ldD:HOk X.prog X.w (upd H₂ s₂.heap.objs.size (.lst [])) h₁:=I₂.hok.laid old (AJ _) ⟨AV _,[],_,.nil,hacc⟩
 have visFree:∀y,Vis (relabel scope X.env) y->y∈X.N->(y,NameKind.free)∈scope.names/\((relabel scope X.env).names.lookup y=some .cell\/(relabel scope X.env).names.lookup y=some .free):=by
  intro y hv hne
  rcases hv with q | q | q
  .obtain ⟨k0,hm,z | ⟨z,w⟩⟩:=nJ (env:=X.env) (show(scope.names.map _).lookup y=_ from q)
   .subst z; exact absurd hne (K.loc _ hm rfl)
   .cases w
  .obtain ⟨k0,hm,z | ⟨z,w⟩⟩:=nJ (env:=X.env) (show(scope.names.map _).lookup y=_ from q)
   .subst z; exact absurd rfl (K.cell _ hm)
   .subst z; exact⟨hm,.inl q⟩
  .obtain ⟨k0,hm,z | ⟨z,w⟩⟩:=nJ (env:=X.env) (show(scope.names.map _).lookup y=_ from q)
   .subst z; exact⟨hm,.inr q⟩
   .cases w
 have I':∀tk,Inv (cxN X xs scope cl fp H2.objs.size s₂ H₂) [] (List.replicate xs.length none++σ) (upd H₂ s₂.heap.objs.size (.lst [])) { s₂ with heap:=h₁,toks:=tk }:=by
  intro tk;refine⟨okX,rfl,I₂.bare,Un.laid old (AJ _) fD,⟨_,hns₁,fun i y v h1 h2 h3=>?_⟩,fun y c h=>?_,?_,fun y c h=>?_,fun p hp=>absurd hp (by simp[cxN]),ldD,?_⟩
  .rcases Cs i xs.length with hi | hi
   .rw [Bt (by rw[A9]; exact hi),List.getElem?_replicate,AW hi] at h2
    cases h2
   .have h1':X.N[i - xs.length]?=some y:=by
     have h1:(xs++X.N)[i]?=some y:=h1;rw[BR hi] at h1; exact h1
    have h2':σ[i - xs.length]?=some (some v):=by
     rw[BR (by rw[A9]; exact hi),A9] at h2; exact h2
    have hne:y∈X.N:=Al h1';obtain⟨fm,kk⟩:=visFree y h3 hne;obtain⟨nl,vz,c,hcl⟩:=K.free _ fm rfl;obtain⟨mm,hn,hl⟩:=I₂.loc;obtain⟨u,ru,l⟩:=hl (i - xs.length) y v h1' h2' (vz.elim (fun z=>.inr (.inl z)) fun z=>.inr (.inr z))
    rcases l with ⟨z,_⟩ | ⟨_,c',hc',hcell⟩
    .exact absurd z nl
    .have ec:c'=c:=Ar (hc'.symm.trans (K.cl _ _ hcl))
     subst ec;obtain⟨o,ho,hd⟩:=hcell;exact⟨u,ru,.inr ⟨kk,c',hcl,o,old _ _ ho,hd⟩⟩
  .obtain ⟨v,o,ho,hd⟩:=I₂.cell y c (K.cl y c h)
   exact⟨v,o,old _ _ ho,hd⟩
  .show upd H₂ _ _ H2.objs.size=none
   rw[nQ (Ne.symm hDC)]; exact fC
  .show upd H₂ _ _ c=none
   obtain⟨v,o,ho,hd⟩:=I₂.cell y c (K.cl y c h);rw[nQ (below c (AN ho)).2]; exact I₂.freeC y c (K.cl y c h)
  .show (List.replicate xs.length none++σ).length=(xs++X.N).length
   rw[AC,AC,A9,I₂.len]
 have stat:∀{H':Hp},(∀b∈fp,H' b=none)->∀b∈fp,dE (cxN X xs scope cl fp H2.objs.size s₂ H₂) [] H' b:=fun hn b hb =>
  ⟨hn b hb,(okX.exf b hb).1,okX.exfs b hb,.inl hb,(okX.exf b hb).2,fun p hp=>absurd hp (by simp[cxN])⟩
 have tn₁:tn 0 h₁:=T.keep _ _ _ st₂ fun b _ o e=>old b o e;have fp₁:∀b∈fp,upd H₂ s₂.heap.objs.size (.lst []) b=none:=fun b hb=>by rw[nQ (below b (fpLt b hb)).2]; exact(f₂ b hb).1
 have loop:∀s₃:Shared,(∃tk,s₃={ s₂ with heap:=h₁,toks:=tk }) ->
   codeAny (model X.prog X.w) X.A (.compLoop (.ListComp elt [⟨tg,iter,ifs,0⟩] scope pos) 0 (.ref it) (.ref s₂.heap.objs.size) (compEnvC scope cl H2.objs.size X.env))
    (RR (.ref s₂.heap.objs.size) H2.objs.size) s₃:=by
  rintro s₃ ⟨tk,rfl⟩
  refine wR (fun n s'=>∃i ys H' v0,v0.length=xs.length/\Inv (cxN X xs scope cl fp H2.objs.size s₂ H₂) [] (v0++σ) H' s'/\tn i s'.heap/\(∀b∈fp,H' b=none)/\W i n ys H') ?_ m0
   ⟨0,[],_,List.replicate xs.length none,A9,I' tk,tn₁,fp₁,w0⟩
  rintro n s3 ⟨i,ys,H3,v0,l0,I3,st3,fr3,w3⟩
  rcases turn i n ys H3 w3 with ⟨stop,qn⟩ | ⟨go,step⟩
  .refine thn (T.done (cxN X xs scope cl fp H2.objs.size s₂ H₂) rfl rfl rfl hc i [] s3 (v0++σ) H3 (fun _ _=>False) I3 (stat fr3) st3 stop) fun r s4 ⟨hr,I4⟩=>?_
   subst hr;show RR _ _ (.ok .next) s4;obtain⟨m,hn,_⟩:=I4.loc;have un:=I4.base;have os4:s4.os=s₂.os:=I4.os;refine hRR _ _ H3 s4 m hn ?_ I4.free (fun y c h z=>?_) (by rw[hC]; exact CD _) ?_ qn
   .exact Ne.symm (below _ I₂.lt).1
   .obtain ⟨v,o,ho,hd⟩:=I₂.cell y c h
    exact(below c (AN ho)).1 z
   .obtain ⟨hh,g,d,t,os'⟩:=s4
    obtain rfl:os'=s₂.os:=os4;exact I₂.call (h':=hh) (g':=g) (d':=d) (t':=t) (ch:=fp) un I4.hok I4.bare fun b hb=>⟨(f₂ b hb).2.2.2.1,(f₂ b hb).2.1,(f₂ b hb).2.2.2.2.1,(f₂ b hb).2.2.2.2.2⟩
  .refine thn (T.item (cxN X xs scope cl fp H2.objs.size s₂ H₂) rfl rfl rfl hc i [] s3 (v0++σ) H3 (fun _ _=>False) I3 (stat fr3) st3 go) fun r s4 ⟨u,hr,h4⟩=>?_
   subst hr;refine thn h4 fun _ s5 ⟨x5,H5,I5,r5,y5,st5,fr5⟩=>?_;have I5':=I5.pinned (stat fr5) (T.obj _ _ st5)
   have again:∀{H':Hp} {s':Shared} {τ:St},Inv (cxN X xs scope cl fp H2.objs.size s₂ H₂) ([]++bL fp s5.heap) τ H' s'->tn (i+1) s'.heap/\∀b∈fp,H' b=none:=fun I7 =>
    ⟨T.keep _ _ _ st5 fun b hb o e=>(I7.pin (b,o) (AY _ (AY _ (cY hb e)))).1,fun b hb=>by
     obtain⟨o,e,d⟩:=T.obj _ _ st5 b hb
     exact(I7.pin (b,o) (AY _ (AY _ (cY hb e)))).2.1⟩
   obtain⟨vs5,sq5,l5,q5⟩:=step x5 H5 y5;refine thn (hg fp _ s₂ H₂ _ s5 (v0++σ) H5 x5 u (fun σ' H'=>σ'=vs5.map some++σ/\H'=H5) I5' r5 (hG v0 vs5 x5 H5 _ l0 sq5 l5 ⟨rfl,rfl⟩)) fun _ s6 ⟨σ6,H6,I6,e6,e6'⟩=>?_;subst e6 e6';have l6:(vs5.map some).length=xs.length:=by rw[AA]; exact l5
   refine thn (ht fp _ s₂ H₂ _ s6 (vs5.map some++σ) H6 _ I6 q5) fun ok s7 ⟨H7,I7,q7⟩=>?_
   cases ok with
   |false =>
    rw[AT AL] at q7;rw[AT AL];obtain⟨m',hm,w7⟩:=q7;obtain⟨k1,k2⟩:=again I7;exact⟨m',hm,i+1,ys,H7,vs5.map some,l6,I7.unpinned,k1,k2,w7⟩
   |true =>
    rw[AW rfl] at q7;rw[AW rfl];refine thn (he fp _ s₂ H₂ _ s7 (vs5.map some++σ) H7 _ I7 q7) fun y s8 ⟨y8,H8,I8,r8,hD8,hl8,m',hm,w8⟩=>?_;refine thn (aH (X:=cxN X xs scope cl fp H2.objs.size s₂ H₂) _ s8 _ H8 (.ref s₂.heap.objs.size) [y8] (.ref s₂.heap.objs.size) [y] (fun _ H9=>H9=upd H8 s₂.heap.objs.size (.lst (ys++[y8]))) I8 rfl (.cons r8 .nil) ⟨_,ys,y8,rfl,rfl,hD8,hl8,rfl⟩) fun _ s9 ⟨_,H9,I9,_,e9⟩=>?_
    subst e9;obtain⟨k1,k2⟩:=again I9;exact⟨m',hm,i+1,ys++[y8],_,vs5.map some,l6,I9.unpinned,k1,k2,w8⟩
 exact codeAny_compStart_list (loop _ ⟨_,rfl⟩) (T.self _ 0 _ _ _ tn₁ (loop _ ⟨_,rfl⟩))
theorem pe_comp {elt iter:Expr}{x:Str}{px pos:Pos}{ifs:List Expr}{scope:Scope}{cl:List (Str×Addr)}{wi:TI}{tc:TT}{te:TE}
  (hc:X.calm=true) (hN:(x::X.N).Nodup) (K:zU X x scope cl) (hi:PI X (.Name x px) iter wi)
  (ht:∀fp C s₂ H₂,Zv (gJ X x scope cl fp C s₂ H₂) ifs tc) (he:∀fp C s₂ H₂,PE (gJ X x scope cl fp C s₂ H₂) elt te)
  (hs:∀v,foldedSetIterable iter X.env v=pure v:=by intro _; rfl):PE X (.ListComp elt [⟨.Name x px,iter,ifs,0⟩] scope pos) (uS wi tc te):=by
 intro pins s σ H Q I h;rw[eval_ListComp];refine By (use:=none) rfl hs K.clos K.kind K.names (thn (hi pins s σ H _ I h) fun xv s₁ h₁=>thn h₁ fun itv s₂ h₂=>?_);obtain⟨it,fp,tn,J,H₂,e,I₂,T,st₂,f₂,R⟩:=h₂;subst e;refine pW (g:=eV 0) (Tk:=fun x _ vs=>vs=[x]) hc K (fun _ _ _ _=>aB (i:=0) (x:=x) hN rfl (.inl (BY (K.hx x (.head _)))) (.inr (BY (K.hx x (.head _))))) ht he (by rintro ws vs y H Q l rfl _ q; match ws,l with | [_],_=>exact q) I₂ T st₂ f₂ (fun D hD=>let ⟨W,w0,tu⟩:=R D hD; ⟨W,w0,fun i m ys H w=>(tu i m ys H w).imp id fun⟨g,st⟩=>⟨g,fun x H' y=>⟨[x],rfl,rfl,st x H' y⟩⟩⟩) ?_
 intro D C H s4 m hn hCL hC0 hCc hCsz I4 q;refine⟨m,hn,fun h' hsb=>⟨.ref D,H,?_,rfl,q⟩⟩;refine I4.turned (it:=C) (t':=s4.toks) (fun b o hb e=>(hsb.2 b hb).trans e) hC0 hCL (.inr (Ae I₂.sz hCsz)) hCc fun p hp z=>?_;exact absurd (AR (AN (I₂.pin p hp).1) (by rw[z]; exact hCsz)) (BJ _)
end
theorem Zr (ys:List Bool):((List.range ys.length).all fun i=>(ys[i]?).getD false)=ys.all id:=by
 rw[CM,CC,CC]
 constructor
 .intro h b hb
  obtain⟨i,hi⟩:=B4.mp hb;have hl:i < ys.length:=(AU.mp hi).1;have:=h i (Az.mpr hl);rw[hi] at this;exact this
 .intro h i hi
  have hl:i < ys.length:=Az.mp hi;rw[AM hl];exact h _ (BI hl)
section
variable {X:Cx}
theorem Vg (hc:X.calm=true):CallR X (.builtin "all") (fun xs H Q=>∃p ys,xs=[.ref p]/\SqL X.K H p (List.map V.bl ys)/\Q (.bl (ys.all id)) H):=by
 intro pins s σ H xs us Q I r h;obtain⟨p,ys,rfl,hq,q⟩:=h;obtain⟨u,rfl,rx⟩:=pG r;cases rx;obtain⟨its,rv,pl,hz⟩:=I.list hq;have hlen:its.length=ys.length:=by rw[<- rv.length,AA]
 obtain⟨o,n,ho,_⟩:=id pl;have hlt:p < s.heap.objs.size:=AN ho;refine call_all_walk (wpAny_pyIter_list pl.isList ?_);refine⟨s.heap.objs.size,_,_,_,_,_,fun i=>(ys[i]?).getD false,rfl,Walks.list (A:=X.A.in1) (I.ok.hd hc) s.heap.objs.size p (Ag hlt) its.toArray,⟨⟨_,Aa _ rfl,rfl,rfl⟩,pl.isList.push _⟩,fun i v s' Q' E' hP hQ=>?_,fun h' tk kk=>?_⟩
 .have hv:its[i]?=some v:=by simpa using hP
  have hi:i < ys.length:=by rw[<- hlen]; exact(AU.mp hv).1
  have hy:(List.map V.bl ys)[i]?=some (.bl ys[i]):=by rw[Aj,AM hi]; rfl
  obtain⟨u,hu,ru⟩:=rv.get hy;rw[hv] at hu;cases hu;cases (show v=Value.bool ys[i] from ru);have hQ:Q' ((ys[i]?).getD false) s':=hQ;rw[AM hi] at hQ;exact Cd hQ
 .have I1:Inv X pins σ H { s with heap:=h',toks:=tk }:=I.kept fun b o e=>kk b o (by intro z; exact absurd (AN e) (by rw[AH.mp z]; exact BJ _)) (AF _ e)
  have e:((List.range its.toArray.size).all fun i=>(ys[i]?).getD false)=ys.all id:=by rw[Ai,hlen,Zr]
  rw[e];exact⟨.bl (ys.all id),H,I1,rfl,q⟩
inductive Ty where
 |non | bl | int | str | lst | tup | dct
 deriving DecidableEq
def tyName:Ty->String
 |.non=>"NoneType" | .bl=>"bool" | .int=>"int" | .str=>"str" | .lst=>"list" | .tup=>"tuple" | .dct=>"dict"
def isIn:Ty->Ty->Bool
 |.bl,.int=>true
 |a,b=>decide (a=b)
theorem gT:OpR X (binaryOp .FloorDiv) (rI (fun _ j=>0 < j/\j < 18446744073709551616) fun i j=>.int (i / j)):=opI fun i j _ _ _ _ _ hc q=>by
 have h1:(0:Int) < j:=hc.1;have h2:j < 18446744073709551616:=hc.2;refine floordiv_int (by omega) (by rw[Int.fdiv_eq_ediv_of_nonneg i (by omega)]; exact q) (.inl (PyProof.noPylong_of_log2 ?_))
 have h3:j.natAbs < 2 ^ 64:=by
  have:(2:Nat) ^ 64=18446744073709551616:=by decide
  omega
 exact AR ((Nat.log2_lt (by omega)).mpr h3) (by decide)
end
structure JE (X:Cx)(e:Expr)(t:TE):Prop where
 h:PE X e t
structure JT (X:Cx)(e:Expr)(t:TT):Prop where
 h:PT X e t
structure JW (X:Cx)(e:Expr)(t:TT):Prop where
 h:PW X e t
structure JA (X:Cx)(es:List Expr)(t:TA):Prop where
 h:PA X es t
structure JS (X:Cx)(st:Stmt)(t:TS):Prop where
 h:PS X st t
structure JB (X:Cx)(st:List Stmt)(t:TS):Prop where
 h:PSs X st t
structure JG (X:Cx)(e:Expr)(t:TG):Prop where
 h:PG X e t
structure JGs (X:Cx)(es:List Expr)(t:TGs):Prop where
 h:PGs X es t
structure JI (X:Cx)(tg e:Expr)(t:TI):Prop where
 h:PI X tg e t
structure JF (X:Cx)(ifs:List Expr)(t:TT):Prop where
 h:Zv X ifs t
structure JO (X:Cx)(e:Option Expr)(t:TO):Prop where
 h:PO X e t
section
variable {X:Cx}{a b c e o i:Expr}{es:List Expr}{ta tb tc te:TE}{tA tB':TT}{t:TA}{pos:Pos}{rest:List Expr}
theorem jv (i:Nat){x:Str}{pos:Pos}(hN:X.N[i]?=some x:=by rfl)(hv:Vis X.env.scope x:=by first | exact Or.inl rfl | exact Or.inr (Or.inl rfl) | exact Or.inr (Or.inr rfl))(hd:(x==("__debug__" : Str))=false:=by decide)
  (hcd:(x==("__classdict__" : Str))=false:=by decide):JE X (.Name x pos) (tVar i):=⟨Jn hN hv hd hcd⟩
theorem je_int {i j pos}:JE X (.Constant (.int i) j pos) (tC (.int i)):=⟨pe_int⟩
theorem je_bl {b j pos}:JE X (.Constant (.bool b) j pos) (tC (.bl b)):=⟨pe_bl⟩
theorem je_non {j pos}:JE X (.Constant .none j pos) (tC .non):=⟨pe_non⟩
theorem je_str {x j pos}:JE X (.Constant (.str x) j pos) (tC (.str x)):=⟨pe_str⟩
theorem je_glob {x:Str}{v:V}{u:Value}(hg:Gl X x)(hm:X.mg x=some u)(r:RelV v u)(hd:(x==("__debug__" : Str))=false:=by decide):JE X (.Name x pos) (tC v):=⟨pe_glob hg hm r hd⟩
theorem je_op {op:Operator}{r:R2}(ho:OpR X (binaryOp op) r)(ha:JE X a ta)(hb:JE X b tb):JE X (.BinOp a op b pos) (tOp r ta tb):=⟨pe_op ho ha.h hb.h⟩
theorem je_un {op:UnaryOp}{r:V->Hp->VK->Prop}(ho:UnR X (unaryOp op) r)(ha:JE X a ta):JE X (.UnaryOp op a pos) (tUn r ta):=⟨pe_un ho ha.h⟩
theorem je_cmp {op:CmpOp}{r:R2}(ho:OpR X (compareOp op) r)(ha:JE X a ta)(hb:JE X b tb)(hm:behindInMarks op b=false):JE X (.Compare a [op] [b] pos) (tOp r ta tb):=⟨pe_cmpR ho ha.h hb.h hm⟩
theorem jt_cmp {op:CmpOp}{r:R2}(ho:OpR X (compareOp op) r)(ha:JE X a ta)(hb:JE X b tb)(hm:behindInMarks op b=false):JT X (.Compare a [op] [b] pos) (ZM (tOp r ta tb)):=⟨pt_cmpR ho ha.h hb.h hm⟩
theorem jw_pt {t:TT}(h:JW X e t):JT X e t:=⟨h.h.pt⟩
theorem jw_and1 (ha:JT X a tA):JW X (.BoolOp .And [a] pos) tA:=⟨pw_and1 ha.h⟩
theorem jw_or1 (ha:JT X a tA):JW X (.BoolOp .Or [a] pos) tA:=⟨pw_or1 ha.h⟩
theorem jw_and (ha:JT X a tA)(hb:JW X (.BoolOp .And (b::rest) pos) tB'):JW X (.BoolOp .And (a::b::rest) pos) (tAnd tA tB'):=⟨pw_and ha.h hb.h⟩
theorem jw_or (ha:JT X a tA)(hb:JW X (.BoolOp .Or (b::rest) pos) tB'):JW X (.BoolOp .Or (a::b::rest) pos) (tOr tA tB'):=⟨pw_or ha.h hb.h⟩
theorem jt_not (ha:JT X a tA):JT X (.UnaryOp .Not a pos) (tNot tA):=⟨pt_not ha.h⟩
def lM:Expr->Bool
 |.Name _ _=>true | .Call _ _ _ _=>true | .Subscript _ _ _=>true | .Attribute _ _ _=>true | .IfExp _ _ _ _=>false | _=>false
theorem xA {env:Env}(h:lM e=true):∀whole,isTrue e env whole=(do let v <- whole; standAt e.pos; holding [v] (truthy v)):=by
 cases e<;>first | (intro _; rfl) | exact absurd h AL
theorem jt_val {t:TE}(h:JE X e t)(he:lM e=true:=by rfl):JT X e (tB t):=⟨pt_val h.h (xA he)⟩
theorem je_if (hc:JT X c tA)(ha:JE X a ta)(hb:JE X b tb):JE X (.IfExp c a b pos) (tIf tA ta tb):=⟨Jp hc.h ha.h hb.h⟩
theorem kI:JA X [] tNil:=⟨pa_nil⟩
theorem rC (ha:JE X e te)(hr:JA X es t)(hs:eQ e=true:=by rfl):JA X (e::es) (ZQ te t):=⟨qa_cons ha.h hr.h hs⟩
theorem je_tup {x1}(h:JA X es t):JE X (.Tuple es x1 pos) (tTup t):=⟨pe_tup h.h⟩
theorem je_lst (h:JA X es t):JE X (.List es pos) (tLst t):=⟨pe_lst h.h⟩
theorem Kb:JE X (.Dict [] [] pos) ZO:=⟨Jr⟩
theorem Ka:JE X (.Dict [] [] pos) ZN:=⟨Jq⟩
theorem je_call {CX:CXT}{k:Nat}{f:Addr}{fd:FuncData}{ps:List Str}{sp:Sp}{dvs:List V}{ds:List Value}{E:XK}{x:Str}{p:Pos}(F:FnOk X.prog X.w X.K X.mg X.base CX k f fd ps sp)(hr:Room k X.A)(hg:Gl X x)(hm:X.mg x=some (.ref f))(hk:PySem.W.keepIn X.K (.ref f)=true)(hb:Binds X.K fd ps ds)(hd:Vals dvs ds)(hx:jW CX X E)
  (ha:JA X (e::es) t) (hdb:(x==("__debug__" : Str))=false:=by decide) (hs:eQ e=true:=by rfl) (hall:es.all eQ=true:=by rfl):JE X (.Call (.Name x p) (e::es) [] pos) (ZR sp dvs E t):=⟨qe_call F hr hg hm hk hb hd hx ha.h hdb hs hall⟩
theorem uO {id:String}{r:List V->Hp->VK->Prop}{x:Str}{p:Pos}(hc:CallR X (.builtin id) r)(hg:Gl X x)(hm:X.mg x=none)(hv:bootBuiltins x=some (.builtin id))(ha:JA X (e::es) t)(hn:x ≠ "__name__":=by decide)(hdb:(x==("__debug__" : Str))=false:=by decide)
  (hs:eQ e=true:=by rfl) (hall:es.all eQ=true:=by rfl):JE X (.Call (.Name x p) (e::es) [] pos) (tCB r t):=⟨Z6 hc hg hm hv ha.h hn hdb hs hall⟩
theorem xN {T:String}{r:List V->Hp->VK->Prop}{x:Str}{p:Pos}(hc:CallR X (.type T) r)(hg:Gl X x)(hm:X.mg x=none)(hv:bootBuiltins x=some (.type T))(ha:JA X (e::es) t)(hn:x ≠ "__name__":=by decide)(hdb:(x==("__debug__" : Str))=false:=by decide)
  (hs:eQ e=true:=by rfl) (hall:es.all eQ=true:=by rfl):JE X (.Call (.Name x p) (e::es) [] pos) (tCB r t):=⟨Xz hc hg hm hv ha.h hn hdb hs hall⟩
theorem je_ix {r:R2}(hr:IxR X r)(ha:JE X a ta)(hb:JE X b tb)(hs:sD b):JE X (.Subscript a b pos) (tOp r ta tb):=⟨pe_ix hr ha.h hb.h hs⟩
theorem jo_none:JO X none Qu:=⟨po_none⟩
theorem jo_some (h:JE X e te):JO X (some e) (tPart te):=⟨po_some h.h⟩
theorem J9 {lo hi:Option Expr}{tl th:TO}{p2:Pos}{r:V->Option Int->Option Int->Hp->VK->Prop}(hr:SlR X r)(he:JE X e te)(hl:JO X lo tl)(hu:JO X hi th):JE X (.Subscript e (.Slice lo hi none p2) pos) (tSl r te tl th):=⟨Jo hr he.h hl.h hu.h⟩
theorem jf_nil:JF X [] tYes:=⟨Jl⟩
theorem jf_one {t:TT}(h:JT X c t):JF X [c] t:=⟨Jk h.h⟩
theorem je_comp {elt iter:Expr}{x:Str}{px:Pos}{ifs:List Expr}{scope:Scope}{cl:List (Str×Addr)}{wi:TI}{tc:TT}
  (hc:X.calm=true) (hN:(x::X.N).Nodup) (K:zU X x scope cl) (hi:JI X (.Name x px) iter wi)
  (ht:∀fp C s₂ H₂,JF (gJ X x scope cl fp C s₂ H₂) ifs tc) (he:∀fp C s₂ H₂,JE (gJ X x scope cl fp C s₂ H₂) elt te)
  (hs:∀v,foldedSetIterable iter X.env v=pure v:=by intro _; rfl):JE X (.ListComp elt [⟨.Name x px,iter,ifs,0⟩] scope pos) (uS wi tc te) :=
 ⟨pe_comp hc hN K hi.h (fun fp C s₂ H₂=>(ht fp C s₂ H₂).h) (fun fp C s₂ H₂=>(he fp C s₂ H₂).h) hs⟩
variable {tg:Expr}
theorem QM (h:JE X e te):JI X tg e (iList X.K te):=⟨pi_list h.h⟩
theorem J7 (h:JE X e te):JI X tg e (iTup X.K te):=⟨pi_tup h.h⟩
theorem jN {p:Pos}(hg:Gl X "range")(hm:X.mg "range" = none)(ha:JA X [a] t)(hs:eQ a=true:=by rfl):JI X tg (.Call (.Name "range" p) [a] [] pos) (Km t):=⟨XD hg hm ha.h (kJ hs)⟩
theorem jg_name {i:Nat}{x:Str}(hN:X.N.Nodup)(hi:X.N[i]?=some x)(hx:Loc X.env.scope x)(hf:X.fn x=true\/X.env.scope.names.lookup x=some .local:=by first | exact .inl rfl | exact .inr rfl | assumption):JG X (.Name x pos) (eV i):=⟨aB hN hi hx hf⟩
theorem jgs_nil:JGs X [] gNil:=⟨QF⟩
theorem J8 {t:TG}{u:TGs}(h1:JG X e t)(h2:JGs X es u)
  (hs:(assignEach (e::es) X.env).map (·.2)=assign e X.env::(assignEach es X.env).map (·.2):=by rfl):JGs X (e::es) (qP t u):=⟨mL h1.h h2.h hs⟩
theorem jg_tup {k:Nat}{t:TGs}{n:Nat}(hc:X.calm=true)(h:JGs X es t)
  (hn:(assignEach es X.env).length=n:=by rfl) (hst:(assignEach es X.env).findIdx? (·.1)=none:=by rfl):JG X (.Tuple es k pos) (gTup X.K n t):=⟨Jm hc h.h hn hst⟩
theorem jg_sub {t:TSet}{to ti:TE}(ho:JE X o to)(hi:JE X i ti)(hs:PSet X t)
  (ha:∀v,assign (.Subscript o i pos) X.env v=(do
   let ov <- holding [v] (eval o X.env)
   let iv <- holding [v,ov] (eval i X.env)
   standAt pos
   holding [v,ov,iv] (setItem ov iv v)
   release [v,ov,iv] []):=by intro _; rfl):JG X (.Subscript o i pos) (gSub to ti t):=⟨pg_sub ho.h hi.h hs ha⟩
end
section
variable {X:Cx}{st:Stmt}{sts:List Stmt}{t u:TS}{e c:Expr}{te:TE}{tc:TT}{pos:Pos}
theorem jb_nil:JB X [] tNext:=⟨pss_nil⟩
theorem jb_cons (h1:JS X st t)(h2:JB X sts u):JB X (st::sts) (tSeq t u):=⟨Jg h1.h h2.h⟩
theorem jb_one (h1:JS X st t):JB X [st] t:=⟨pss_one h1.h⟩
theorem js_expr (he:JE X e te)(hs:swapsWith e none pos.line X.env=pure false:=by rfl):JS X (.Expr e pos) (tDrop te):=⟨ps_expr he.h hs⟩
theorem J6 (he:JE X e te):JS X (.Return (some e) pos) (tRet te):=⟨ps_ret he.h⟩
theorem js_if {a b:List Stmt}(hc:JT X c tc)(ha:JB X a t)(hb:JB X b u):JS X (.If c a b pos) (tIfS tc t u):=⟨ps_if hc.h ha.h hb.h⟩
theorem js_set {i:Nat}{x:Str}{pos':Pos}(hN:X.N.Nodup)(hi:X.N[i]?=some x)(hx:Loc X.env.scope x)(he:JE X e te)(hs:swapsWith e (some (.Name x pos')) pos.line X.env=pure false:=by rfl)(hf:X.fn x=true\/X.env.scope.names.lookup x=some .local:=by first | exact .inl rfl | exact .inr rfl | assumption):
  JS X (.Assign [.Name x pos'] e pos) (Xs te (eV i)):=⟨ps_set hN hi hx he.h hs hf⟩
theorem js_asg {tg:Expr}{g:TG}(he:JE X e te)(hg:JG X tg g)(hs:swapsWithSole [tg] e pos.line X.env=pure false:=by rfl)(hw:swappedStores [tg] e X.env=pure none:=by rfl)
  (h1:(assignEach [tg] X.env).map (·.2)=[assign tg X.env]:=by rfl):JS X (.Assign [tg] e pos) (Xs te g):=⟨ps_asg he.h hg.h hs hw h1⟩
theorem xI {tg iter:Expr}{body:List Stmt}{wi:TI}{g:TG}{tb:TS}(hp:PassesOwn (model X.prog X.w) X.A X.env X.xe)(hc:X.calm=true)(hi:JI X tg iter wi)(hg:JG X tg g)(hb:JB X body tb)
  (hs:∀x,foldedSetIterable iter X.env x=pure x:=by intro _; rfl):JS X (.For tg iter body [] pos) (tFor wi g tb):=⟨ps_for hp hc hi.h hg.h hb.h hs⟩
end
section
variable {P:Program}{w:World}{K:DK}{mg:Str->Option Value}{base:Heap}
theorem Fun.okJ {x qual:Str}{st:Stmt}{f:Addr}{fd:FuncData}{N ps:List Str}{k:Nat}{sp:Sp}(F:Fun K x qual st f fd)(S:FnScope N ps (xX st))(len:∀vs H Q E,sp vs H Q E->vs.length=ps.length)
  (hbody:∀(cdv:Value) (A:Around) (outer:List Env) (s:Shared) (H:Hp) (vs:List V) (Q:VK) (E:XK),Room k (A.deeper (envOfC qual (xX st) s.heap.objs.size f cdv))->sp vs H Q E ->
   ∃t,JB (xR CX0 P w K mg base N qual (xX st) f cdv A outer s H E).nox (wK st) t/\t { nx:=fun _ H'=>Q .non H',rt:=Q } (start N vs) H):FnOk P w K mg base CX0 (k+1) f fd ps sp :=
 F.ok S len fun cdv A outer s H vs Q E hr h=>let ⟨t,ht,q⟩:=hbody cdv A outer s H vs Q E hr h; ⟨t,ht.h,q⟩
end
theorem uB {env:Env}:∀(names:List (Str×NameKind)) (acc:List (Str×Addr)),(∀y∈names,y.2=.free->∃c,env.cells.lookup y.1=some c)->(∀y c,acc.lookup y=some c->env.cells.lookup y=some c) ->
  ∃cl,(forIn names acc fun x r=>(do
    if x.2==NameKind.free then do
     let c <- cellOf env x.1
     pure (ForInStep.yield ((x.1,c)::r))
    else pure (ForInStep.yield r):Sem (ForInStep (List (Str×Addr)))))=pure cl/\(∀y c,cl.lookup y=some c->env.cells.lookup y=some c)/\(∀y∈names,y.2=.free->∃c,cl.lookup y.1=some c)/\∀y c,acc.lookup y=some c->∃c',cl.lookup y=some c'
 |[],acc,_,ha=>⟨acc,rfl,ha,fun y hy=>absurd hy (by simp),fun y c h=>⟨c,h⟩⟩
 | (n,k)::r,acc,hf,ha=>by
  cases hk:(k==NameKind.free) with
  |false =>
   obtain⟨cl,e,h1,h2,h3⟩:=uB r acc (fun y hy=>hf y (AG _ hy)) ha;refine⟨cl,?_,h1,fun y hy hy2=>?_,h3⟩
   .rw [List.forIn_cons]
    simp only[hk,Bool.false_eq_true,if_false]
    exact e
   .rcases Ah.mp hy with rfl | hy
    .have:k=.free:=hy2
     rw[this] at hk;exact absurd hk (by decide)
    .exact h2 y hy hy2
  |true =>
   have ek:k=.free:=by simpa using hk
   obtain⟨c,hc⟩:=hf (n,k) AD ek;have hc:env.cells.lookup n=some c:=hc
   have ha':∀y c',((n,c)::acc).lookup y=some c'->env.cells.lookup y=some c':=fun y c' h=>by
    rw[List.lookup_cons] at h
    cases hy:y==n with
    |true =>
     rw[hy] at h;have:y=n:=by simpa using hy
     subst this;rw[hc]; exact h
    |false =>
     rw[hy] at h;exact ha y c' h
   obtain⟨cl,e,h1,h2,h3⟩:=uB r ((n,c)::acc) (fun y hy=>hf y (AG _ hy)) ha';have hco:cellOf env n=pure c:=by unfold cellOf; rw[hc]
   refine⟨cl,?_,h1,fun y hy hy2=>?_,fun y c' h=>?_⟩
   .rw [List.forIn_cons]
    simp only[hk,if_true,hco]
    exact e
   .rcases Ah.mp hy with rfl | hy
    .exact h3 n c (by simp[List.lookup_cons])
    .exact h2 y hy hy2
   .cases hy:y==n with
    |true=>exact h3 y c (by simp[List.lookup_cons,hy])
    |false=>exact h3 y c' (by simp[List.lookup_cons,hy,h])
noncomputable def vP (xs:List Str)(scope:Scope)(N:List Str)(sc:Scope):Bool :=
 scope.names.all (fun y=>decide (y.2≠.cell)&&(decide (y.2≠.free) || decide (sc.names.lookup y.1=some .cell))&&(decide (y.2≠.local) || (decide (scope.names.lookup y.1=some .local)&&decide (y.1∉N))))&&decide (scope.kind=.function)&&xs.all (fun x=>decide (scope.names.lookup x=some .local))
theorem wY {X:Cx}{xs:List Str}{scope sc:Scope}{N:List Str}{L:Nat}(hN:X.N=N)(hsc:X.env.scope=sc)(hce:X.env.cells=cellsFrom L sc.names [])(h:vP xs scope N sc=true):∃cl,mK X xs scope cl:=by
 subst hN hsc;unfold vP at h;rw[BC,BC,CC] at h;obtain⟨⟨h1,h2⟩,h3⟩:=h
 have get:∀y∈scope.names,y.2≠.cell/\(y.2=.free->X.env.scope.names.lookup y.1=some .cell)/\(y.2=.local->scope.names.lookup y.1=some .local/\y.1∉X.N):=fun y hy=>by
  have q:=h1 y hy;rw[BC,BC,Bool.or_eq_true,Bool.or_eq_true,BC] at q;obtain⟨⟨q1,q2⟩,q3⟩:=q;refine⟨AX q1,fun e=>?_,fun e=>?_⟩
  .rcases q2 with q2 | q2
   .exact absurd e (AX q2)
   .exact AX q2
  .rcases q3 with q3 | ⟨q3,q4⟩
   .exact absurd e (AX q3)
   .exact ⟨AX q3,AX q4⟩
 obtain⟨cl,e,k1,k2,_⟩:=uB (env:=X.env) scope.names [] (fun y hy hf=>by rw[hce]; exact yP ((get y hy).2.1 hf)) (fun y c z=>by simp at z);refine⟨cl,⟨?_,fun y hy=>(get y hy).1,AX h2,fun y hy q=>((get y hy).2.2 q).1,fun x hx=>AX (CC.1 h3 x hx),fun y hy q=>((get y hy).2.2 q).2,fun y hy q=>⟨?_,.inl ((get y hy).2.1 q),k2 y hy q⟩,k1⟩⟩
 .unfold closureFor
  have e':=BE (fun m:Sem (List (Str×Addr))=>m >>= fun cs=>(pure cs:Sem (List (Str×Addr)))) e
  simp only[pure_bind] at e'
  exact e'
 .show X.env.scope.names.lookup y.1≠some .local
  rw[(get y hy).2.1 q]
  decide
theorem aL {X:Cx}{elt iter:Expr}{x:Str}{px pos:Pos}{ifs:List Expr}{scope:Scope}{wi:TI}{tc:TT}{te:TE}
  (hc:X.calm=true) (hN:(x::X.N).Nodup) (K:∃cl,zU X x scope cl) (hi:JI X (.Name x px) iter wi)
  (ht:∀cl fp C s₂ H₂,JF (gJ X x scope cl fp C s₂ H₂) ifs tc) (he:∀cl fp C s₂ H₂,JE (gJ X x scope cl fp C s₂ H₂) elt te)
  (hs:∀v,foldedSetIterable iter X.env v=pure v:=by intro _; rfl):JE X (.ListComp elt [⟨.Name x px,iter,ifs,0⟩] scope pos) (uS wi tc te) :=
 let ⟨cl,K⟩:=K
 je_comp hc hN K hi (ht cl) (he cl) hs
section
variable {X:Cx}{o e:Expr}{es:List Expr}{to:TE}{t:TA}{name:Str}{apos cpos:Pos}{T id:String}{r:V->List V->Hp->VK->Prop}
theorem Kc (pa:PlainAttrs T)(slot:Slot T name id)(hty:typeOf (.builtin id)=pure (.type "method_descriptor"))(hm:MtR X id r)(ho:JE X o to)
  (hbase:attributeBase o name X.env (eval o X.env)=eval o X.env:=by rfl) (hline:(apos.endLine==cpos.line)=true:=by rfl):JE X (.Call (.Attribute o name apos) [] [] cpos) (tBM0 X.K T r to):=⟨pe_bm0 pa slot hty hm ho.h hbase hline⟩
theorem je_bm (pa:PlainAttrs T)(slot:Slot T name id)(hty:typeOf (.builtin id)=pure (.type "method_descriptor"))(hm:MtR X id r)(ho:JE X o to)(ha:JA X (e::es) t)
  (hbase:attributeBase o name X.env (eval o X.env)=eval o X.env:=by rfl)
  (hfew:((backTo cpos (starEach (e::es) X.env)).all (fun x=>!x.1)&&(backToKw cpos (keywordEach [] X.env)).all (fun x=>x.1.isSome)
   && decide ((e::es).length+([]:List Keyword).length+(if ([]:List Keyword).isEmpty then 0 else 1) < 30))=true:=by rfl)
  (hline:(apos.endLine==cpos.line)=true:=by rfl) (hs:eQ e=true:=by rfl) (hall:es.all eQ=true:=by rfl) :
  JE X (.Call (.Attribute o name apos) (e::es) [] cpos) (tBM X.K T r to t):=⟨pe_bm pa slot hty hm ho.h ha.h hbase hfew hline (kJ hs) (dG hall)⟩
end
section
variable {X:Cx}{pos:Pos}
theorem QN {o i:Expr}{td ty:TE}(hu:X.A.units+1 < cLine)(ho:JE X o td)(hi:JE X i ty)(hs:Qj i):JE X (.Subscript o i pos) (tDGet td ty):=⟨pe_dget hu ho.h hi.h hs⟩
theorem m2_of {o e f:Expr}{m:Str}{apos cpos:Pos}(hb:attributeBase o m X.env (eval o X.env)=eval o X.env)(hl:(apos.endLine==cpos.line)=true)(he:eQ e=true)(hf:eQ f=true):M2 X o m apos e f cpos:=by
 have e1:starEach [e,f] X.env=[(false,eval e X.env),(false,eval f X.env)]:=by
  rw[kJ he,kJ hf]
  rfl
 refine⟨hb,?_,hl,?_⟩
 .rw [e1]; rfl
 .rw [e1]; rfl
theorem yO {o e f:Expr}{td ty tx:TE}{apos cpos:Pos}(hu:X.A.units+1 < cLine)(ho:JE X o td)(he:JE X e ty)(hf:JE X f tx)(hb:attributeBase o "get" X.env (eval o X.env)=eval o X.env:=by rfl)(hl:(apos.endLine==cpos.line)=true:=by rfl)
  (h1:eQ e=true:=by rfl) (h2:eQ f=true:=by rfl):JE X (.Call (.Attribute o "get" apos) [e,f] [] cpos) (ZP td ty tx):=⟨Js hu ho.h he.h hf.h (m2_of hb hl h1 h2)⟩
end
section
variable {X:Cx}{o i value:Expr}{td ty tv:TE}{pos pos':Pos}
theorem QL (hu:X.A.units+1 < cLine)(ho:JE X o td)(hi:JE X i ty)(hv:JE X value tv)(hs:swapsWith value (some (.Subscript o i pos')) pos.line X.env=pure false:=by rfl):
  JS X (.Assign [.Subscript o i pos'] value pos) (sDPut td ty tv):=⟨ps_dput hu ho.h hi.h hv.h hs⟩
end
section
variable {X:Cx}
def rCatTA (K:DK):R2:=fun x y H Q=>∃a b xs ys,x=.ref a/\y=.ref b/\SqT K H a xs/\SqT K H b ys/\xs.length+ys.length<=sizeLine /\
 (xs=[]->Q (.ref b) H)/\(xs≠[]->ys=[]->Q (.ref a) H)/\(xs≠[]->ys≠[]->∀p,H p=none->Q (.ref p) (upd H p (.tup (xs++ys))))
theorem Jy:OpR X (binaryOp .Add) (rCatTA X.K):=by
 intro pins s σ H x y v u Q I rx ry h;obtain⟨a,b,xs,ys,rfl,rfl,ha,hb,hz,q0,q1,q2⟩:=h
 by_cases hx:xs=[]
 .cases rx
  cases ry;obtain⟨its,r1,p1,_⟩:=I.tuple ha;obtain⟨its2,r2,p2,_⟩:=I.tuple hb;have e:=r1.nil_iff.mpr hx;subst e;obtain⟨⟨cls,dd,data,sl⟩,ho,hc,n,hd⟩:=id p1;obtain⟨⟨cls2,dd2,data2,sl2⟩,ho2,hc2,n2,hd2⟩:=id p2
  simp only at hc hd hc2 hd2
  subst hc hd hc2 hd2
  exact concat_meets ⟨_,ho,rfl⟩ ⟨_,ho2,rfl⟩ noFill_tuple_add seq_tuple_add Cr Cl (Cj _ _)
   (tuple_addW0 a b _ its2.toArray n n2 dd dd2 sl sl2 rfl) ⟨ho,ho2,⟨.ref b,H,I,rfl,q0 hx⟩⟩
 .exact op_catT pins s σ H (.ref a) (.ref b) v u Q I rx ry ⟨a,b,xs,ys,rfl,rfl,ha,hb,hx,hz,q1 hx,q2 hx⟩
end
end L2
namespace PySem
open PySem.Spec PyProof.Rows PyProof.Rows.F
abbrev hW (led:Bool):Obj:={ cls:=.type "set",dict:=none,data:=.set #[] 0 (.fresh 0 0 led) }
end PySem
namespace L2
open PySem PySem.Spec PyProof.Rows
abbrev Cx.at_ (X:Cx)(k:Nat):Cx:={ X with N:=X.N.set k "?" }
def Vs (k:Nat)(σ:St):Prop:=∀v,σ[k]?≠some (some v)
section
variable {X:Cx}{pins:List (Addr×Obj)}{σ:St}{H:Hp}{s:Shared}{k:Nat}{e:Expr}{te:TE}{st:Stmt}{t:TS}
theorem ok_at (ok:X.Ok):(X.at_ k).Ok:=by
 obtain⟨h1,h2,h3,h4,h5,h6,h7,h8,h9,h10,h11,h12,h13,h14,h15,h16,h17,h18⟩:=ok;exact⟨h1,h2,h3,h4,h5,h6,h7,h8,h9,h10,h11,h12,h13,h14,h15,h16,h17,h18⟩
theorem JH (ok:(X.at_ k).Ok):X.Ok:=by
 obtain⟨h1,h2,h3,h4,h5,h6,h7,h8,h9,h10,h11,h12,h13,h14,h15,h16,h17,h18⟩:=ok;exact⟨h1,h2,h3,h4,h5,h6,h7,h8,h9,h10,h11,h12,h13,h14,h15,h16,h17,h18⟩
theorem Kj (n:Vs k σ)(I:Inv X pins σ H s):Inv (X.at_ k) pins σ H s:=by
 obtain⟨m,hm,hl⟩:=I.loc;refine⟨ok_at I.ok,I.os,I.bare,I.base,⟨m,hm,fun i x v e1 e2 e3=>?_⟩,I.cell,I.free,I.freeC,I.pin,I.hok,?_⟩
 .by_cases hi:k=i
  .subst hi; exact absurd e2 (n v)
  .have e1:(X.N.set k "?")[i]?=some x:=e1
   rw[Bp hi] at e1;exact hl i x v e1 e2 e3
 .show σ.length=(X.N.set k "?").length
  rw[Cz];exact I.len
theorem vN (n:Vs k σ)(I:Inv (X.at_ k) pins σ H s):Inv X pins σ H s:=by
 obtain⟨m,hm,hl⟩:=I.loc;refine⟨JH I.ok,I.os,I.bare,I.base,⟨m,hm,fun i x v e1 e2 e3=>?_⟩,I.cell,I.free,I.freeC,I.pin,I.hok,?_⟩
 .by_cases hi:k=i
  .subst hi; exact absurd e2 (n v)
  .refine hl i x v ?_ e2 e3
   show(X.N.set k "?")[i]?=some x;rw[Bp hi];exact e1
 .have:=I.len
  rw[this];show(X.N.set k "?").length=_;rw[Cz]
theorem je_drop (k:Nat)(he:JE (X.at_ k) e te):JE X e (fun σ H Q=>Vs k σ/\te σ H Q) :=
 ⟨fun pins s σ H Q I h=>thn (he.h pins s σ H Q (Kj h.1 I) h.2) fun v s1 ⟨x,H1,I1,r1,q1⟩=>⟨x,H1,vN h.1 I1,r1,q1⟩⟩
theorem js_fg (k:Nat)(h:JS X st t):JS X st (fun D σ H=>t D (σ.set k none) H) :=
 ⟨fun pins s σ H D I q=>h.h pins s (σ.set k none) H D (I.weak (by rw[Cz]) fun i v e=>by
  by_cases hi:k=i
  .subst hi
   rw[List.getElem?_set_self'] at e
   cases hk:σ[k]? with
   |none=>rw[hk] at e; cases e
   |some x=>rw[hk] at e; cases e
  .rw [Bp hi] at e
   exact e) q⟩
end
section
variable {X:Cx}
theorem js_setC {i:Nat}{y x:Str}{py px pos spos:Pos}{elt iter:Expr}{ifs:List Expr}{scope:Scope}{cl:List (Str×Addr)}{wi:TI}{tc:TT}{te:TE}
  (hNd:X.N.Nodup) (hi:X.N[i]?=some y) (hy:Loc X.env.scope y) (hc:X.calm=true) (hN:(x::X.N).Nodup) (K:zU X x scope cl) (hI:JI X (.Name x px) iter wi)
  (ht:∀fp C s₂ H₂,JF (gJ X x scope cl fp C s₂ H₂) ifs tc) (he:∀fp C s₂ H₂,JE (gJ X x scope cl fp C s₂ H₂) elt te)
  (hs:∀v,foldedSetIterable iter X.env v=pure v:=by intro _; rfl)
  (hsw:swapsWith (.ListComp elt [⟨.Name x px,iter,ifs,0⟩] scope pos) (some (.Name y py)) spos.line X.env=pure true:=by rfl)
  (hf:X.fn y=true\/X.env.scope.names.lookup y=some .local:=by first | exact .inl rfl | exact .inr rfl | assumption) :
  JS X (.Assign [.Name y py] (.ListComp elt [⟨.Name x px,iter,ifs,0⟩] scope pos) spos) (Xs (uS wi tc te) (eV i)):=by
 refine⟨fun pins s σ H D I h=>?_⟩;rw[exec_Assign_Name_used _ _ _ _ hsw];refine AB (wpAny_standAt (AB (AB (By (use:=some (assign (.Name y py) X.env)) rfl hs K.clos K.kind K.names (thn (hI.h pins s σ H _ I h) fun xv s₁ h₁=>thn h₁ fun itv s₂ h₂=>?_)))));obtain⟨it,fp,tn,J,H₂,e,I₂,T,st₂,f₂,R⟩:=h₂;subst e;refine pW (g:=eV 0) (Tk:=fun x _ vs=>vs=[x]) (Q:=fun x H1=>eV i x σ H1 D.nx) hc K (fun _ _ _ _=>aB (i:=0) (x:=x) hN rfl (.inl (BY (K.hx x (.head _)))) (.inr (BY (K.hx x (.head _))))) (fun fp C s₂ H₂=>(ht fp C s₂ H₂).h) (fun fp C s₂ H₂=>(he fp C s₂ H₂).h) (by rintro ws vs y H Q l rfl _ q; match ws,l with | [_],_=>exact q) I₂ T st₂ f₂ (fun D hD=>let ⟨W,w0,tu⟩:=R D hD; ⟨W,w0,fun i m ys H w=>(tu i m ys H w).imp id fun⟨g,st⟩=>⟨g,fun x H' y=>⟨[x],rfl,rfl,st x H' y⟩⟩⟩) ?_
 intro D' C H' s4 m hn hCL hC0 hCc hCsz I4 q;refine wpAny_assign_Name (dM I4 hNd hi hy (v:=.ref D') rfl (fun s5 I5 hsb=>?_) hf);obtain⟨b,hsb,hb⟩:=hsb
 have hbC:C≠b:=by
  rcases hb with rfl | hb
  .exact hCL
  .exact fun z=>hCc _ _ hb z.symm
 refine⟨m,hn.at' fun o e=>(hsb.2 C hbC).trans e,fun h' hsb'=>AE (AE ?_)⟩;refine⟨_,H',?_,q⟩;refine I5.turned (it:=C) (t':=s5.toks) (fun b o hb e=>(hsb'.2 b hb).trans e) hC0 hCL (.inr (Ae I₂.sz hCsz)) hCc fun p hp z=>?_;exact absurd (AR (AN (I₂.pin p hp).1) (by rw[z]; exact hCsz)) (BJ _)
end
theorem sameNew {H:Hp}{p:Addr}(h:H p=none)(o:HO):Same H (upd H p o):=fun b u q=>by rw[nQ (qJ q h)]; exact q
section
variable {X:Cx}
def rCatU:R2:=fun x y H Q=>∃a b xs ys,x=.ref a/\y=.ref b/\H a=some (.tup xs)/\H b=some (.tup ys)/\xs.length+ys.length<=sizeLine/\∀r H',Same H H'->H' r=some (.tup (xs++ys))->(H r=none\/r=a\/r=b)->Q (.ref r) H'
theorem op_catU:OpR X (binaryOp .Add) rCatU:=by
 intro pins s σ H x y v u Q I rx ry h;obtain⟨a,b,xs,ys,e1,e2,ha,hb,hz,q⟩:=h;refine Jy pins s σ H x y v u Q I rx ry ⟨a,b,xs,ys,e1,e2,SqT.of ha,SqT.of hb,hz,fun h=>q b H (Same.refl H) (by rw[h]; exact hb) (.inr (.inr rfl)),fun _ h=>q a H (Same.refl H) (by rw[h,AZ]; exact ha) (.inr (.inl rfl)),fun _ _ p hp=>q p _ (sameNew hp _) dQ (.inl hp)⟩
end
end L2
namespace PySem
open PySem.Spec PyProof.Rows PyProof.Rows.F
theorem uN:entryFor table "dict.update.loop" = some Builtin.«dict.update.loop»:=entryFor_of_tree (by kernel_rfl)
theorem xU:plainId "dict.update.loop" = true:=by decide +kernel
section
variable {prog:Program}{w:World}{κ:Type}[DecidableEq κ]{knd:KeyKind prog w κ}{A:Around}{d it t:Addr}{items:Array Value}{ps:List (κ×Value)}{res:Value}
theorem oV {h h':Heap}{p:Addr}{xs:Array Value}(x:h.IsTuple p xs)(e:∀o,h.get? p=some o->h'.get? p=some o):h'.IsTuple p xs:=let ⟨o,q,r⟩:=x; ⟨o,e o q,r⟩
theorem vI {h h':Heap}{p:Addr}{i:Nat}(x:h.IsTupleIter it p i)(e:∀o,h.get? it=some o->h'.get? it=some o):h'.IsTupleIter it p i:=let ⟨o,q,r⟩:=x; ⟨o,e o q,r⟩
theorem zF {h h':Heap}{kvs:List (κ×Value)}(x:h.DictOf knd d kvs)(e:∀o,h.get? d=some o->h'.get? d=some o):h'.DictOf knd d kvs:=let ⟨o,es,ep,q,r⟩:=x; ⟨o,es,ep,e o q,r⟩
theorem yT {R:Result->Shared->Prop}(calm:A.in1.handled=none)(ndi:d≠it)(ndt:d≠t)(nti:t≠it)(stop:items[ps.length]?=none):∀(r i:Nat) (s:Shared) (acc:List (κ×Value)),i+r=ps.length ->
   s.heap.IsTupleIter it t i->s.heap.IsTuple t items->s.heap.DictOf knd d acc->acc.length+r<=sizeLine ->
   (∀j (h:j < ps.length),∃p kv,items[j]?=some (.ref p)/\p≠d/\p≠it/\s.heap.IsTuple p #[kv,ps[j].2]/\knd.is ps[j].1 kv=true) ->
   (∀(h:Heap) (tk:Nat),(∀b o,b≠d->b≠it->s.heap.get? b=some o->h.get? b=some o)->h.DictOf knd d (merged acc (ps.drop i))->R (.ok (.ret res)) { s with heap:=h,toks:=tk }) ->
   codeAny (model prog w) A (.builtin "dict.update.loop" ⟨[.ref d,.ref it,rawInt i,res],[]⟩) R s:=by
 intro r
 induction r with
 |zero =>
  intro i s acc e iti tt dd hz key fin;have ei:i=ps.length:=by omega
  subst ei;rw[Br] at fin;refine BO uN ?_;rw[BD xU _];exact AB (wpAny_pyNext_tuple_end calm iti tt stop fun h x=>AB (AE (AE (fin h s.toks (fun b o _ nb q=>x b o nb q) (zF dd fun o q=>x d o ndi q)))))
 |succ r ih =>
  intro i s acc e iti tt dd hz key fin;have hi:i < ps.length:=by omega
  obtain⟨p,kv,hp,npd,npi,tp,kk⟩:=key i hi;refine BO uN ?_;rw[BD xU _];refine AB (wpAny_pyNext_tuple_item iti tt hp fun h1 it1 b1=>?_);have dd1:=zF dd fun o q=>b1.extBut d o ndi q;have tp1:=oV tp fun o q=>b1.extBut p o npi q;refine AB (m:=holding [.ref p] _) (Aw ?_);refine AB (wpAny_tryCatch ?_);unfold Builtin.Dict.pairItems;refine AB (Co tp1.typeIs ?_)
  rw[AW (by decide)];obtain⟨op,e1,e2,n,e3⟩:=id tp1;refine AB (Bn e1 e3 (AE ?_));show wpAny _ _ (holding [kv,ps[i].2] (dictSet d kv ps[i].2)) _ _ _;refine Aw (wpAny_dictSet_pairs kk dd1 (fun h2 dd2 b2=>?_) (by omega))
  have em:merged acc (ps.drop i)=merged (stored acc ps[i].1 ps[i].2) (ps.drop (i+1)):=by
   rw[Aq hi]; rfl
  refine AE ⟨Bz xU _,?_⟩;have ek:rawInt ((i:Int)+1)=rawInt ((i+1:Nat):Int):=by rw[Int.natCast_add]; rfl
  rw[ek];refine ih (i+1) _ (stored acc ps[i].1 ps[i].2) (by omega) (vI it1 fun o q=>(b2.2 it (Ne.symm ndi)).trans q) (oV (oV tt fun o q=>b1.extBut t o nti q) fun o q=>(b2.2 t (Ne.symm ndt)).trans q) dd2 ?_ (fun j hj=>?_) fun h tk keep dd3=>?_
  .have:=stored_length_le acc ps[i].1 ps[i].2
   omega
  .obtain ⟨p',kv',a1,a2,a3,a4,a5⟩:=key j hj
   exact⟨p',kv',a1,a2,a3,oV (oV a4 fun o q=>b1.extBut p' o a3 q) fun o q=>(b2.2 p' a2).trans q,a5⟩
  .rw [<- em] at dd3
   exact fin h tk (fun b o n1 n2 q=>keep b o n1 n2 ((b2.2 b n1).trans (b1.extBut b o n2 q))) dd3
end
theorem tP:typeLookup (.type "tuple") "keys" = pure none:=by rw[typeLookup_type,builtinLookup_eq_fast]; kernel_rfl
theorem iP {prog:Program}{w:World}{A:Around}{E:Value->Shared->Prop}{s:Shared}{a:Addr}{o:Obj}{xs:Array Value}{k:Nat}{Q:Option Value->Shared->Prop}
  (hx:s.heap.get? a=some o) (hc:o.cls=.type "tuple") (hdat:o.data=.seq xs k) (hd:o.dict=none) (hA:A.handled=none)
  (h:∀(h':Heap) (tk:Nat),(∀b u,s.heap.get? b=some u->h'.get? b=some u)->Q none { s with heap:=h',toks:=tk }):wpAny (model prog w) A (getAttr? (.ref a) "keys") Q E s:=by
 obtain⟨c,dct,dat,sl⟩:=o
 simp only at hc hdat hd
 subst hc hdat hd;obtain⟨hp,g,d,tk,os⟩:=s;have hT:∀tk',(⟨hp,g,d,tk',os⟩:Shared).TypeIs (.ref a) "tuple":=fun _=>⟨_,hx,rfl⟩;have f1:=sub_AttributeError;have f3:=Cb.lookup;have f4:=Cb.bind (.ref a);have f5:=am_tuple_getattr_none;unfold getAttr? getAttrBy? getAttrBy
 repeat (any_goals (first | assumption | exact hT _ | ((with_reducible show wpAny _ _ (call (Value.builtin "tuple.__getattribute__") _ _) _ _ _); refine call_meets Cb (hT _) am_entry_tuple_getattribute (F.args_tuple_getattribute_2 _ _) (meets_getattribute_miss_tuple a xs k sl "keys" _ tP (by decide) (by decide)) ⟨hx,hA,fun h' tk' e hx'=>?_⟩) | wp_step))
 obtain⟨t',u',he⟩:=hx'.there;show wpAny _ _ (getattributeRaised _ _ _ _ _ _ _) _ _ _;unfold getattributeRaised
 repeat (any_goals (first | assumption | wp_step))
 exact h h' tk' hx'.of.keeps
section
variable {prog:Program}{w:World}{κ:Type}[DecidableEq κ]{knd:KeyKind prog w κ}{A:Around}{E:Value->Shared->Prop}{s:Shared}{d t:Addr}{items:Array Value}{ps acc:List (κ×Value)}{res:Value}
theorem bI {id:String}{A₀:Around}{R:Result->Shared->Prop}{o:Obj}{n:Nat}(calm:A.handled=none)(calm0:A₀.in1.handled=none)(ndt:d≠t)(ho:s.heap.get? t=some o)(hc:o.cls=.type "tuple")(hdat:o.data=.seq items n)(hno:o.dict=none)(dd:s.heap.DictOf knd d acc)
  (hz:acc.length+ps.length<=sizeLine) (stop:items[ps.length]?=none) (key:∀j (h:j < ps.length),∃p kv,items[j]?=some (.ref p)/\p≠d/\s.heap.IsTuple p #[kv,ps[j].2]/\knd.is ps[j].1 kv=true)
  (fin:∀(h:Heap) (tk:Nat),(∀b o,b≠d->s.heap.get? b=some o->h.get? b=some o)->h.DictOf knd d (merged acc ps)->R (.ok (.ret res)) { s with heap:=h,toks:=tk }) :
  wpAny (model prog w) A (Builtin.Dict.updateFrom id d (.ref t) [] res) (fun fin s'=>match fin with | .done f=>R (.ok f) s' | .again c'=>c'.quiet=true/\codeAny (model prog w) A₀ c' R s') E s:=by
 have tt:s.heap.IsTuple t items:=⟨o,ho,hc,n,hdat⟩;unfold Builtin.Dict.updateFrom;refine AB (Co tt.typeIs ?_);rw[AW (by decide)];refine AB (iP ho hc hdat hno calm fun h1 tk1 k1=>?_);rw[AW (show(none:Option Value).isNone=true from rfl)];refine AB (wpAny_rule ?_);have tt1:h1.IsTuple t items:=oV tt fun o q=>k1 t o q;refine AB (wpAny_pyIter_tuple tt1 ?_)
 have hd1:d < h1.objs.size:=by
  obtain⟨od,es,ep,q,_⟩:=dd;exact AN (k1 d od q)
 have ht1:t < h1.objs.size:=AN (k1 t o ho);refine AE ⟨Bz xU _,yT (knd:=knd) (ps:=ps) calm0 (Ag hd1) ndt (Ag ht1) stop ps.length 0 _ acc (BF _) ⟨_,Aa _ rfl,rfl,rfl⟩ (tt1.push _) ?_ hz (fun j hj=>?_) fun h tk keep dd'=>?_⟩
 .exact zF dd fun o q=>AF _ (k1 d o q)
 .obtain ⟨p,kv,a1,a2,a3,a4⟩:=key j hj
  have hp:p < h1.objs.size:=by
   obtain⟨op,q,_⟩:=a3;exact AN (k1 p op q)
  exact⟨p,kv,a1,a2,Ag hp,oV a3 fun o q=>AF _ (k1 p o q),a4⟩
 .rw [List.drop_zero] at dd'
  exact fin h tk (fun b o nb q=>keep b o nb (Ag (AN (k1 b o q))) (AF _ (k1 b o q))) dd'
end
end PySem
namespace L2
open PySem PySem.Spec PyProof.Rows
abbrev xG (H:Hp):List Addr->List (Key×V)->Prop:=Paired fun a p=>H a=some (.tup [kV p.1,p.2])
theorem mH:∀{pa:List Addr}{its:List Value},Vals (pa.map V.ref) its->its=pa.map Value.ref
 |[],_,.nil=>rfl
 |_::_,_,.cons h r=>by
  cases (show _=Value.ref _ from h);rw[mH r]; rfl
theorem pL {P:Program}{w:World}{H:Hp}{h:Heap}(ok:HOk P w H h):∀{pa:List Addr}{ps:List (Key×V)},xG H pa ps->∃rs:List (Key×Value),KV ps rs/\pa.length=rs.length /\
  ∀j (hj:j < rs.length),∃p kv,pa[j]?=some p/\h.IsTuple p #[kv,rs[j].2]/\(qX P w).is rs[j].1 kv=true
 |_,_,.nil=>⟨[],.nil,rfl,fun j hj=>absurd hj (CK j)⟩
 |_,_,@Paired.cons _ _ _ a p l1 l2 e r=>by
  obtain⟨rs,q1,q2,q3⟩:=pL ok r;obtain⟨_,its,rv,tp⟩:=(show ObjOk P w H h a (.tup [kV p.1,p.2]) from ok a _ e)
  cases rv with
  |@cons _ ku _ its' rk rv =>
   cases rv with
   |@cons _ vu _ its'' rvv rv =>
    cases rv;refine⟨(p.1,vu)::rs,.cons ⟨rfl,rvv⟩ q1,by rw[AI,AI,q2],fun j hj=>?_⟩
    cases j with
    |zero=>exact⟨a,ku,rfl,tp.is,zN rk⟩
    |succ j=>exact q3 j (Be hj)
section
variable {X:Cx}
theorem iI (hc:X.calm=true):CallR X (.type "dict") (fun xs H Q=>∃t pa ps,xs=[.ref t]/\H t=some (.tup (List.map V.ref pa))/\xG H pa ps/\ps.length<=sizeLine/\∀d,H d=none->Q (.ref d) (upd H d (.dK (sV [] ps)))):=by
 intro pins s σ H xs us Q I r h;obtain⟨t,pa,ps,rfl,ht,hp,hz,q⟩:=h;obtain⟨u,rfl,ru⟩:=r.one;cases (show u=Value.ref t from ru);obtain⟨_,its,rv,o,h1,h2,⟨n,h3⟩,h4⟩:=(show ObjOk X.prog X.w H s.heap t (.tup _) from I.hok t _ ht);have ei:=mH rv;subst ei;obtain⟨rs,q1,q2,q3⟩:=pL I.hok hp;have hl:ps.length=rs.length:=KV.length q1;refine callType_codes (Q₁:=fun obj s₁=>obj=.ref s.heap.objs.size/\s₁={ s with heap:=s.heap.push { cls:=.type "dict",data:=.dict #[] } }) F.kt_called_dict (F.kt_typeCall_dict_1 _) F.entry_dict_init (kt_code_dict_new _ ⟨rfl,rfl⟩) ?_
 rintro obj s₁ ⟨rfl,rfl⟩;have hnew:(s.heap.push { cls:=.type "dict",data:=.dict #[] }).DictOf (qX X.prog X.w) s.heap.objs.size []:=Heap.DictOf.new s.heap;refine⟨hnew.typeIs,F.args_dict_init_2 _ _,?_⟩;unfold Builtin.«dict.__init__»;refine AB ?_;unfold Builtin.Dict.selfAndRest;refine AB (wpAny_notOrdered_dict hnew.typeIs ?_);show wpAny _ _ (pure (s.heap.objs.size,[Value.ref t])) _ _ _
 refine AE ?_;show wpAny _ _ (Builtin.Dict.updateFrom "dict.__init__" s.heap.objs.size (.ref t) [] .none) _ _ _;have calm:=I.ok.hd hc;refine bI (s:={ s with heap:=s.heap.push { cls:=.type "dict",data:=.dict #[] } }) (A₀:=X.A.in1) (knd:=qX X.prog X.w) (ps:=rs) (acc:=[]) (by simp[calm]) (by simp[calm]) (A5 (AN h1)) (AF _ h1) h2 h3 h4 hnew ?_ ?_ (fun j hj=>?_) fun h' tk keep dd=>?_
 .rw [<- hl]; simpa using hz
 .rw [<- q2]; simp
 .obtain ⟨p,kv,e1,e2,e3⟩:=q3 j hj
  have hps:p < s.heap.objs.size:=by obtain⟨op,z,_⟩:=e2; exact AN z
  refine⟨p,kv,?_,Ag hps,e2.push _,e3⟩;rw[List.getElem?_toArray,Aj,e1]; rfl
 .refine ⟨rfl,.ref s.heap.objs.size,_,I.laid (t':=tk) (o:=.dK (sV [] ps)) (fun b ob e=>keep b ob (Ag (AN e)) (AF _ e)) (AJ _) ?_,rfl,q _ (I.hok.fresh (AJ _))⟩
  refine fI ?_ (Cv (A5 I.big)) (KV.merge q1 .nil) dd;have:=rW ps []
  simp at this
  omega
end
end L2
namespace L2
open PySem PySem.W PyProof.Rows
def jB {α:Type}(n:Nat)(P:α->Prop):KasT α->Prop
 |.ret a=>P a
 |.ask i j k=>i < n/\j < n/\∀b,jB n P (k b)
def eG {α:Type}(lt:Nat->Nat->Bool):KasT α->α
 |.ret a=>a
 |.ask i j k=>eG lt (k (lt i j))
theorem mV {α β:Type}{n:Nat}{P:α->Prop}{R:β->Prop}{f:α->KasT β}:∀(t:KasT α),jB n P t->(∀a,P a->jB n R (f a))->jB n R (t.bind f)
 |.ret a,h,hf=>hf a h
 |.ask i j k,h,hf=>⟨h.1,h.2.1,fun b=>mV (k b) (h.2.2 b) hf⟩
theorem wO {α:Type}{n:Nat}{P:α->Prop}{lt:Nat->Nat->Bool}:∀(t:KasT α),jB n P t->P (eG lt t)
 |.ret a,h=>h
 |.ask i j k,h=>wO (k (lt i j)) (h.2.2 _)
theorem kWp {α:Type}{n:Nat}{P:α->Prop}{lt:Nat->Nat->Bool}{cmp:Nat->Nat->(Bool->Shared->Prop)->Shared->Prop}{J:Shared->Prop}(hc:∀i j C s,i < n->j < n->J s->(∀s',J s'->C (lt i j) s')->cmp i j C s):
  ∀(t:KasT α) {Q:α->Shared->Prop} {s:Shared},jB n P t->J s->(∀s',J s'->P (eG lt t)->Q (eG lt t) s')->t.kasWp cmp Q s
 |.ret a,Q,s,h,hj,hq=>hq s hj h
 |.ask i j k,Q,s,h,hj,hq=>hc i j _ s h.1 h.2.1 hj fun s' hj'=>kWp hc (k (lt i j)) (h.2.2 _) hj' hq
def Ord (n:Nat)(p:Array Nat):Prop:=p.toList.Perm (List.range n)
theorem Ord.lt {n:Nat}{p:Array Nat}(h:Ord n p)(h0:0 < n)(i:Nat):p.getD i 0 < n:=by
 by_cases hi:i < p.size
 .have e:p.getD i 0=p[i]:=by simp[Array.getD,hi]
  rw[e];have hm:p[i]∈p.toList:=by simp
  exact Az.mp (h.mem_iff.mp hm)
 .have e:p.getD i 0=0:=by simp[Array.getD,hi]
  rw[e];exact h0
theorem Ord.size {n:Nat}{p:Array Nat}(h:Ord n p):p.size=n:=by
 have:=h.length_eq;rw[Ak,Au] at this;exact this
theorem Ord.rev {n:Nat}{p:Array Nat}(h:Ord n p)(i j:Nat):Ord n (kas_rev p i j):=(Array.Perm.toList (mirror_perm p i j _)).trans h
theorem Ord.bubble {n:Nat}{p:Array Nat}(h:Ord n p)(i j:Nat):Ord n (bubble p i j):=(Array.Perm.toList (bubble_perm p i j)).trans h
section
variable {n:Nat}(h0:0 < n)
include h0
theorem zS {p:Array Nat}(h:Ord n p):∀f m,jB n (fun _=>True) (kas_asc p f m)
 |0,m=>trivial
 |f+1,m=>⟨h.lt h0 _,h.lt h0 _,fun b=>by
  cases b with
  |true=>exact trivial
  |false=>exact zS h f (m+1)⟩
theorem xM:∀f (p:Array Nat) m q,Ord n p->jB n (fun r=>Ord n r.1) (kas_desc f p m q)
 |0,p,m,q,h=>h
 |f+1,p,m,q,h=>⟨h.lt h0 _,h.lt h0 _,fun b=>by
  cases b with
  |true =>
   show jB n _ (if q > 0 then _ else _)
   split
   .exact xM f _ _ _ (h.rev _ _)
   .exact xM f _ _ _ h
  |false =>
   refine⟨h.lt h0 _,h.lt h0 _,fun b=>?_⟩
   cases b with
   |true=>exact h
   |false=>exact xM f _ _ _ h⟩
theorem dH {p:Array Nat}(m r:Nat)(h:Ord n p):jB n (fun r=>Ord n r.2) (kas_tail3 m r p) :=
 mV _ (zS h0 (h.rev 0 m) _ _) fun _ _=>h.rev 0 m
theorem kM {p:Array Nat}(m r:Nat)(h:Ord n p):jB n (fun r=>Ord n r.2) (kas_descPart m r p) :=
 mV _ (xM h0 _ _ _ _ h) fun x hx=>by
  split
  .exact dH h0 _ _ (hx.rev _ _)
  .exact dH h0 _ _ hx
theorem Zg {p:Array Nat}(r:Nat)(h:Ord n p):jB n (fun r=>Ord n r.2) (kas_count r p) :=
 mV _ (zS h0 h _ _) fun x _=>by
  split
  .exact h
  .split
   .refine ⟨h.lt h0 _,h.lt h0 _,fun b=>?_⟩
    cases b with
    |true=>exact h
    |false=>exact kM h0 _ _ (h.rev _ _)
   .exact kM h0 _ _ h
theorem rM {p:Array Nat}(k:Nat)(h:Ord n p):∀f l r,jB n (fun _=>True) (kas_place p k f l r)
 |0,l,r=>trivial
 |f+1,l,r=>by
  unfold kas_place
  split
  .exact trivial
  .refine ⟨h.lt h0 _,h.lt h0 _,fun b=>?_⟩
   cases b with
   |true=>exact rM k h f _ _
   |false=>exact rM k h f _ _
theorem Xl:∀f (p:Array Nat) k,Ord n p->jB n (Ord n) (kas_bin f p k)
 |0,p,k,h=>h
 |f+1,p,k,h=>mV _ (rM h0 k h _ _ _) fun l _=>Xl f _ _ (h.bubble _ _)
theorem fS:jB n (Ord n) (kas_sort n) :=
 mV _ (Zg h0 n (show Ord n (List.toArray (List.range n)) from DI _)) fun r hr=>by
  split
  .exact Xl h0 _ _ _ hr
  .exact hr
end
def iJ (lt:Nat->Nat->Bool)(vs:List Value):List Value:=(eG lt (kas_sort vs.length)).toList.map fun i=>vs.getD i Value.none
def rG (lt:Nat->Nat->Bool)(ys:List V):List V:=(eG lt (kas_sort ys.length)).toList.map fun i=>ys.getD i .non
theorem run0 (lt:Nat->Nat->Bool):(eG lt (kas_sort 0)).toList=[]:=rfl
theorem fF {lt:Nat->Nat->Bool}{vs:List Value}(h:vs.length < 2):iJ lt vs=vs:=by
 cases vs with
 |nil=>rfl
 |cons v vs =>
  cases vs with
  |nil=>rfl
  |cons u vs=>exact absurd h (Nat.not_lt.2 (Nat.le_add_left 2 vs.length))
theorem xY (lt:Nat->Nat->Bool)(n:Nat)(h:0 < n):Ord n (eG lt (kas_sort n)):=wO _ (fS h)
theorem vC (lt:Nat->Nat->Bool)(vs:List Value):(iJ lt vs).length=vs.length:=by
 by_cases h:vs.length < 2
 .rw [fF h]
 .unfold iJ
  rw[AA,Au,(xY lt vs.length (by omega)).size]
noncomputable def tZ (h:Heap)(a:Addr)(vs:List Value):Heap:=((h.update a (Obj.mapSeq fun _=>(#[]:Array Value))).push (seqObj "tuple" vs.toArray 0)).push (seqObj "list" #[] 0)
theorem cA {h:Heap}{a:Addr}{vs us:List Value}{n:Nat}(e:h.get? a=some (seqObj "list" us.toArray n)):∃k,(h.update a (Obj.mapSeq fun _=>(#[]:Array Value))).get? a=some (seqObj "list" #[] k)/\(tZ h a vs).get? a=some (seqObj "list" #[] k) :=
 ⟨_,get?_update_seq e fun _=>#[],AF _ (AF _ (get?_update_seq e fun _=>#[]))⟩
theorem jO {h:Heap}{a b:Addr}{vs:List Value}{o:Obj}(e:h.get? b=some o)(n:b≠a):(tZ h a vs).get? b=some o :=
 AF _ (AF _ ((CP _ _ _ _ n).trans e))
theorem nU {P':Program}{w:World}{A:Around}{E:Value->Shared->Prop}{s:Shared}{a:Addr}{vs:List Value}{n:Nat}{κ:SortKind}{lt:Nat->Nat->Bool}{R:PySem.Fin->Shared->Prop}(ea:s.heap.get? a=some (seqObj "list" vs.toArray n))(few:vs.length < 64)
  (hk:2<=vs.length->∀Q:SortKind->Shared->Prop,Q κ { s with heap:=tZ s.heap a vs }->wpAny (model P' w) A (keyKind' vs.toArray) Q (fun _ _=>False) { s with heap:=tZ s.heap a vs })
  (hc:∀i j,i < vs.length->j < vs.length->∀Q:Bool->Shared->Prop,Q (lt i j) { s with heap:=tZ s.heap a vs }->wpAny (model P' w) A (keyLt' κ (vs.getD i Value.none) (vs.getD j Value.none)) Q (fun _ _=>False) { s with heap:=tZ s.heap a vs })
  (done:R (.done (.ret .none)) { s with heap:=sortedHeap s.heap a vs (iJ lt vs).toArray }):wpAny (model P' w) A (Builtin.«list.sort» ⟨[.ref a],[]⟩) R E s:=by
 obtain⟨k0,e1,e2⟩:=cA (vs:=vs) ea;have zl:vs.length<=sizeLine:=by rw[BK]; omega
 have zo:(iJ lt vs).toArray.size<=sizeLine:=by rw[Ai,vC]; exact zl
 rw[list_sort_plain];refine AB (listItems_at ea rfl (AB (listUpdate_at ea rfl (AB (seqEpoch_at e1 rfl (AB (wpAny_newTuple (AB (wpAny_newList (Aw ?_) (AV _))) zl)))) (by rw[Ai]; exact zl) (AV _))));show wpAny (model P' w) A _ R E { s with heap:=tZ s.heap a vs };dsimp only
 have rest:∀st':SortSt,(arrOf st').map (·.2)=(iJ lt vs).toArray->failedOf st'=none->wpAny (model P' w) A (do
   let after <- seqEpoch a
   Builtin.List.listUpdate (.ref a) fun _=>(arrOf st').map (·.2)
   if let some e:=failedOf st' then rule "list.sort.comparison-raised"; throw e
   if (after != k0)=true then rule "list.sort.modified"; raiseError "ValueError" "list modified during sort"
   ret .none) R E { s with heap:=tZ s.heap a vs }:=fun st' q1 q2=>by
  rw[q1,q2];refine AB (seqEpoch_at e2 rfl (AB (listUpdate_at e2 rfl ?_ (AV _) (Nat.le_succ_of_le zo))));rw[show(k0 != k0)=false by simp];exact AE done
 have sz:vs.toArray.size=vs.length:=Ai
 by_cases h2:vs.length < 2
 .rw [sz,AW h2,AW h2]
  refine AB (AE (AB (AE (rest _ ?_ rfl))));rw[fF h2];show(vs.toArray.zip vs.toArray).map (·.2)=vs.toArray
  apply Array.toList_inj.mp
  simp
  exact List.map_snd_zip (AJ _)
 .rw [sz,AT h2,AT h2]
  refine AB (BH (hk (by omega) (fun c s'=>c=κ/\s'={ s with heap:=tZ s.heap a vs }) ⟨rfl,rfl⟩) (fun c s0 hs=>?_) fun _ _ x=>x.elim);obtain⟨rfl,rfl⟩:=hs
  refine AB (BH (kat_run (Q:=fun st' s'=>s'={ s with heap:=tZ s.heap a vs }/\(arrOf st').map (·.2)=(iJ lt vs).toArray/\failedOf st'=none)
   (G:=fun p s'=>s'={ s with heap:=tZ s.heap a vs }/\p=eG lt (kas_sort vs.length)) rfl (by omega) few (fun p' st' s' a1 a2 a3 a4=>⟨a4.1,?_,a3⟩)
   (kWp (n:=vs.length) (P:=Ord vs.length) (lt:=lt) (J:=fun s'=>s'={ s with heap:=tZ s.heap a vs }) (fun i j C s' hi hj e hC=>?_) _ (fS (by omega)) rfl fun s' e _=>⟨e,rfl⟩)) ?_ fun _ _ e=>e)
  .rw [kat_snds rfl a2,a4.2]
   rfl
  .subst e
   exact hc i j hi hj _ (hC _ rfl)
  .rintro ⟨⟨⟩,st'⟩ s' ⟨rfl,q3,q4⟩
   exact rest st' q3 q4
noncomputable def lY (h:Heap)(vs:List Value):Heap:=((h.push (seqObj "list" #[] 0)).update h.objs.size (Obj.mapSeq (· ++ vs.toArray))).push (seqObj "list" vs.toArray 0)
theorem pO (h:Heap)(vs:List Value):((h.push (seqObj "list" #[] 0)).update h.objs.size (Obj.mapSeq (· ++ vs.toArray))).objs.size=h.objs.size+1:=(Heap.size_update ..).trans (size_push' ..)
theorem wI (h:Heap)(vs:List Value):(lY h vs).get? (h.objs.size+1)=some (seqObj "list" vs.toArray 0):=by
 have q:=Aa ((h.push (seqObj "list" #[] 0)).update h.objs.size (Obj.mapSeq (· ++ vs.toArray))) (o:=seqObj "list" vs.toArray 0) rfl;rw[pO] at q;exact q
theorem Kq {h:Heap}{vs:List Value}{b:Addr}{o:Obj}(e:h.get? b=some o):(lY h vs).get? b=some o :=
 AF _ ((CP _ _ _ _ (Ag (AN e))).trans (AF _ e))
section
variable {X:Cx}
def Srt (X:Cx)(H:Hp)(ys:List V)(lt:Nat->Nat->Bool):Prop:=∀(pins:List (Addr×Obj)) (σ:St) (s:Shared) (its:List Value) (A:Around),A.units<=X.A.units+2->Inv X pins σ H s->Vals ys its ->
 ∃κ:SortKind,(2<=ys.length->∀Q:SortKind->Shared->Prop,Q κ s->wpAny (model X.prog X.w) A (keyKind' its.toArray) Q (fun _ _=>False) s) /\
  ∀i j,i < ys.length->j < ys.length->∀Q:Bool->Shared->Prop,Q (lt i j) s->wpAny (model X.prog X.w) A (keyLt' κ (its.getD i Value.none) (its.getD j Value.none)) Q (fun _ _=>False) s
theorem eW {ys:List V}{its:List Value}(r:Vals ys its)(i:Nat):RelV (ys.getD i .non) (its.getD i Value.none):=by
 induction r generalizing i with
 |nil=>exact rfl
 |cons a b ih =>
  cases i with
  |zero=>exact a
  |succ i=>exact ih i
theorem eD {ys:List V}{its:List Value}(r:Vals ys its):∀l:List Nat,Vals (l.map fun i=>ys.getD i .non) (l.map fun i=>its.getD i Value.none)
 |[]=>.nil
 |i::l=>.cons (eW r i) (eD r l)
theorem pF (lt:Nat->Nat->Bool)(ys:List V):(rG lt ys).length=ys.length:=by
 unfold rG;rw[AA,Au]
 by_cases h:0 < ys.length
 .exact (xY lt ys.length h).size
 .have e:ys.length=0:=by omega
  rw[e]
  rfl
theorem wE:CallR X (.builtin "sorted") (fun xs H Q=>∃l ys lt,xs=[.ref l]/\SqL X.K H l ys/\ys.length < 64/\Srt X H ys lt/\∀p,H p=none->Q (.ref p) (upd H p (.lst (rG lt ys)))):=by
 intro pins s σ H xs us Q I r h;obtain⟨l,ys,lt,rfl,hl,h64,hs,q⟩:=h;obtain⟨u,rfl,ru⟩:=r.one;cases ru;obtain⟨vs,rv,pl,_⟩:=I.list hl;have hlen:=rv.length;have h64':vs.length < 64:=by omega
 have zl:vs.length<=sizeLine:=by rw[BK]; omega
 have up:∀{b:Addr} {o:Obj},s.heap.get? b=some o->b≠s.heap.objs.size+1:=fun e=>Ag (Cf (AN e));have k1:∀b o,s.heap.get? b=some o->(tZ (lY s.heap vs) (s.heap.objs.size+1) vs).get? b=some o:=fun b o e=>jO (Kq e) (up e);obtain⟨κ,hk,hc⟩:=hs pins σ _ vs X.A.in1.in1 (AJ _) (I.kept (t':=s.toks) k1) rv;obtain⟨k0,_,e2⟩:=cA (vs:=vs) (wI s.heap vs);have e3:∃c,(sortedHeap (lY s.heap vs) (s.heap.objs.size+1) vs (iJ lt vs).toArray).get? (s.heap.objs.size+1)=some (seqObj "list" (iJ lt vs).toArray c):=⟨_,get?_update_seq e2 fun _=>(iJ lt vs).toArray⟩
 obtain⟨c,e3⟩:=e3;have k2:∀b o,s.heap.get? b=some o->(sortedHeap (lY s.heap vs) (s.heap.objs.size+1) vs (iJ lt vs).toArray).get? b=some o:=fun b o e=>(CP _ _ _ _ (up e)).trans (k1 b o e);refine Bu kind_sorted plain_sorted entry_sorted (args_sorted1 _) (?_:wpAny _ _ (Builtin.«sorted» _) _ _ _);unfold Builtin.«sorted»;refine AB (m:=checkCount "sorted" 1 1 _) (AE (AB (collect_list pl.isList (AB (wpAny_newList ?_ zl)) zl)))
 show wpAny _ _ _ _ _ { s with heap:=lY s.heap vs };rw[pO];refine AB (Aw (Bb slot_list_sort ⟨_,wI s.heap vs,rfl⟩ entry_list_sort ?inner (args_list_sort _)));refine nU (s:={ s with heap:=lY s.heap vs }) (κ:=κ) (lt:=lt) (wI s.heap vs) h64' (fun h2 Q' hq=>hk (by omega) Q' hq) (fun i j hi hj Q' hq=>hc i j (by omega) (by omega) Q' hq) ⟨_,rfl,AE ⟨_,rfl,?_⟩⟩;refine⟨.ref (s.heap.objs.size+1),_,I.laid (t':=s.toks) (o:=.lst (rG lt ys)) k2 (CD _) ?_,rfl,q _ (I.hok.fresh (CD _))⟩
 refine⟨by rw[pF,BK]; omega,iJ lt vs,c,?_,e3⟩;unfold rG iJ;rw[hlen];exact eD rv _
end
end L2
namespace HT
open PySem PyProof.Rows
inductive TxtsAre:List Value->List Str->Prop
 |nil:TxtsAre [] []
 |cons (z:Str) (t:Tok) {vs:List Value} {zs:List Str}:TxtsAre vs zs->TxtsAre (.str z t::vs) (z::zs)
theorem TxtsAre.length {vs:List Value}{zs:List Str}(h:TxtsAre vs zs):vs.length=zs.length:=by
 induction h with
 |nil=>rfl
 |cons z t h ih=>rw[AI,AI,ih]
def lexS:List Str->List Str->Bool
 |[],[]=>false
 |[],_::_=>true
 |_::_,[]=>false
 |x::xs,y::ys=>if x=y then lexS xs ys else decide (x.cps.toList < y.cps.toList)
theorem XZ (x y:Str)(xs ys:List Str):lexS (x::xs) (y::ys)=if x=y then lexS xs ys else decide (x.cps.toList < y.cps.toList):=rfl
section
open PySem.SeqAt
open PySem.AutoSeq1 (wpAny_loadPart')
open PySem.MeetsSeq PySem.MeetsSeq2 PySem.MeetsSeq3
theorem eP (l b:Addr)(items items2:Array Value)(n n2:Nat)(dd dd2:Option Addr)(sl sl2:Array (Option Value))(ns ms:List Str)(hi:TxtsAre items.toList ns)(hj:TxtsAre items2.toList ms):
  Meets (Builtin.«tuple.__lt__» ⟨[.ref l,.ref b],[]⟩)
   (fun _ R s=>s.heap.get? l=some { cls:=.type "tuple",dict:=dd,data:=.seq items n,slots:=sl }/\s.heap.get? b=some { cls:=.type "tuple",dict:=dd2,data:=.seq items2 n2,slots:=sl2 } /\
    R (.ok (.ret (.bool (lexS ns ms)))) s) :=
 .of_wp fun prog w A R s hh=>by
  obtain⟨hp,g,d,tk,os⟩:=s;obtain⟨hl,hb,h⟩:=hh;have sub:=AutoSeq1.sub_tuple_tuple;have z1:items.size=ns.length:=by rw[<- hi.length]; simp
  have z2:items2.size=ms.length:=by rw[<- hj.length]; simp
  wp_walk using wpAny_loadPart' hl,wpAny_loadPart' hb,BB _ (fun rest b s'=>b.1=none/\s'=⟨hp,g,d,tk,os⟩/\∃(vs ws:List Value) (ns' ms':List Str),rest=vs.zip ws /\
   TxtsAre vs ns'/\TxtsAre ws ms'/\ns'.length+items2.size=ms'.length+items.size/\R (.ok (.ret (.bool (lexS ns' ms')))) ⟨hp,g,d,tk,os⟩) _
  case turn =>
   rintro⟨y,x⟩ rest b s' ⟨hb',rfl,vs,ws,ns',ms',hz,hvi,hwi,hlen,hR⟩
   cases hvi with
   |nil=>rw[List.zip_nil_left] at hz; cases hz
   |cons a t hvi' =>
    cases hwi with
    |nil=>rw[List.zip_nil_right] at hz; cases hz
    |cons c u hwi' =>
     rw[CY] at hz;injection hz with hyx hrest
     injection hyx with hy hx
     subst hy hx;rw[XZ] at hR
     simp only[List.length_cons] at hlen
     have he:∀(E:Value->Shared->Prop) (Q:Bool->Shared->Prop),Q (decide (a=c)) ⟨hp,g,d,tk,os⟩->wpAny (model prog w) A.in1 (eqBool (.str a t) (.str c u)) Q E ⟨hp,g,d,tk,os⟩:=fun E Q hq=>wpAny_eqBool_str hq;refine AB (he _ _ ?_)
     by_cases hac:a=c
     .rw [Af hac]
      rw[AW hac] at hR
      wp_walk
      exact⟨rfl,rfl,_,_,_,_,hrest,hvi',hwi',by omega,hR⟩
     .rw [AS hac]
      rw[AT hac] at hR
      have hri:∀(E:Value->Shared->Prop) (Q:Value->Shared->Prop),Q (.bool (decide (a.cps.toList < c.cps.toList))) ⟨hp,g,d,tk,os⟩->wpAny (model prog w) A.in1 (richCompare .Lt (.str a t) (.str c u)) Q E ⟨hp,g,d,tk,os⟩ :=
       fun E Q hq=>(PyProof.Rows.lt_str hq:wpAny (model prog w) A.in1 (compareOp .Lt (.str a t) (.str c u)) Q E ⟨hp,g,d,tk,os⟩)
      wp_walk using hri
      exact⟨_,rfl,(by simpa using hR)⟩
  case fin =>
   rintro⟨b1,b2⟩ s' ⟨hb',rfl,vs,ws,ns',ms',hz,hvi,hwi,hlen,hR⟩
   simp only at hb'
   subst hb'
   have hv:lexS ns' ms'=decide (items.size < items2.size):=by
    cases hvi with
    |nil =>
     cases hwi with
     |nil =>
      simp only[List.length_nil] at hlen
      exact(AS (by omega)).symm
     |cons c u hw =>
      simp only[List.length_nil,List.length_cons] at hlen
      exact(Af (by omega)).symm
    |cons a t hv =>
     cases hwi with
     |nil =>
      simp only[List.length_nil,List.length_cons] at hlen
      exact(AS (by omega)).symm
     |cons c u hw =>
      rw[CY] at hz;cases hz
   rw[hv] at hR
   wp_walk
   exact⟨_,rfl,(by simpa [Builtin.Tuple.tupleCompareSizes] using hR)⟩
  case h =>
   exact⟨rfl,rfl,items.toList,items2.toList,ns,ms,rfl,hi,hj,by omega,h⟩
end
section
theorem lt_tupStrs {prog:Program}{w:World}{A:Around}{E:Value->Shared->Prop}{s:Shared}{l b:Addr}{items items2:Array Value}{ns ms:List Str}{Q:Value->Shared->Prop}(hl:IsTup s.heap l items)(hb:IsTup s.heap b items2)(hi:TxtsAre items.toList ns)(hj:TxtsAre items2.toList ms)
  (hu:A.units < cLine) (h:Q (.bool (lexS ns ms)) s):wpAny (model prog w) A (compareOp .Lt (.ref l) (.ref b)) Q E s:=by
 obtain⟨⟨c1,dd,d1,sl⟩,ho,q1,n,q2⟩:=hl;obtain⟨⟨c2,dd2,d2,sl2⟩,ho2,q3,n2,q4⟩:=hb
 simp only at q1 q2 q3 q4
 subst q1 q2 q3 q4
 exact richCompare_meets_room (op:=.Lt) ⟨_,ho,rfl⟩ ⟨_,ho2,rfl⟩ PySem.F.slot_tuple_lt PySem.F.entry_tuple_lt (PySem.F.args_tuple_lt_2 _ _) (eP l b items items2 n n2 dd dd2 sl sl2 ns ms hi hj)
  ⟨ho,ho2,show Value.bool (lexS ns ms)≠Value.notImplemented/\Q (.bool (lexS ns ms)) s from⟨(fun x=>nomatch x),h⟩⟩ hu
end
end HT
namespace L2
open PySem PySem.W PyProof.Rows
theorem Qq {zs:List Str}{its:List Value}(r:Vals (zs.map V.str) its):HT.TxtsAre its zs:=by
 induction zs generalizing its with
 |nil=>cases r; exact .nil
 |cons z zs ih =>
  rw[Ac] at r
  cases r with
  |cons a b =>
   obtain⟨t,rfl⟩:=a;exact .cons z t (ih b)
def ltP (x y:List Str×Int):Bool:=if x.1=y.1 then decide (x.2 < y.2) else HT.lexS x.1 y.1
def sP (H:Hp)(v:V)(c:List Str×Int):Prop:=∃a kb,v=.ref a/\H a=some (.tup [.ref kb,.int c.2])/\H kb=some (.tup (c.1.map V.str))
theorem jI (k:List Str):(k.map (Sum.inr:Str->Key)).map kV=k.map V.str:=by
 rw[Bf]
 rfl
theorem QK {k k':List Str}:(k.map (Sum.inr:Str->Key)=k'.map Sum.inr)↔k=k':=by
 constructor
 .intro h
  induction k generalizing k' with
  |nil=>cases k' with
   |nil=>rfl
   |cons _ _=>cases h
  |cons x k ih=>cases k' with
   |nil=>cases h
   |cons y k' =>
    rw[Ac,Ac] at h;injection h with h1 h2
    rw[ih h2,Sum.inr.inj h1]
 .rintro rfl; rfl
theorem dL {X:Cx}{pins:List (Addr×Obj)}{σ:St}{H:Hp}{s:Shared}{v:V}{u:Value}{c:List Str×Int}(I:Inv X pins σ H s)(h:sP H v c)(r:RelV v u):
  ∃a kb o n t,u=.ref a/\s.heap.get? a=some o/\o.cls=.type "tuple"/\o.data=.seq #[.ref kb,.int c.2 t] n/\H kb=some (.tup (c.1.map V.str)):=by
 obtain⟨a,kb,rfl,h1,h2⟩:=h;cases (show u=Value.ref a from r);obtain⟨_,its,rv,o,e1,e2,⟨n,e3⟩,_⟩:=(show ObjOk X.prog X.w H s.heap a (.tup [.ref kb,.int c.2]) from I.hok a _ h1);obtain⟨u1,u2,rfl,r1,r2⟩:=Qo rv;cases (show u1=Value.ref kb from r1);obtain⟨t,rfl⟩:=r2;exact⟨a,kb,o,n,t,rfl,e1,e2,e3,h2⟩
theorem Xu {X:Cx}{H:Hp}{ys:List V}(hu:X.A.units+2 < cLine)(cs:Nat->List Str×Int)(hy:∀i,i < ys.length->sP H (ys.getD i .non) (cs i)):Srt X H ys (fun i j=>ltP (cs i) (cs j)):=by
 intro pins σ s its A hA I r;have hu':A.units < cLine:=by omega
 have all:∀v∈ys,∃c,sP H v c:=fun v hv=>by
  obtain⟨i,hi,e⟩:=Bw hv;have q:=hy i hi;have eg:ys.getD i .non=v:=by simp[List.getD,hi,e]
  rw[eg] at q;exact⟨_,q⟩
 have tups:∀{ys:List V} {its:List Value},Vals ys its->(∀v∈ys,∃c,sP H v c)->∃fs,KatTups s.heap its fs/\fs.length=its.length/\∀f∈fs,Looks (model X.prog X.w) s.heap (typeOf f) (.type "tuple"):=by
  intro ys its r
  induction r with
  |nil=>exact fun _=>⟨[],.nil,rfl,fun f hf=>nomatch hf⟩
  |@cons y u ys its ry _ ih =>
   intro hall;obtain⟨fs,k1,k2,k3⟩:=ih fun v hv=>hall v (AG _ hv);obtain⟨c,hc⟩:=hall y AD;obtain⟨a,kb,o,n,t,rfl,e1,e2,e3,e4⟩:=dL I hc ry;obtain⟨_,its2,_,o2,f1,f2,_,_⟩:=(show ObjOk X.prog X.w H s.heap kb (.tup (c.1.map V.str)) from I.hok kb _ e4);refine⟨.ref kb::fs,.cons e1 e2 e3 rfl k1,by rw[AI,AI,k2],fun f hf=>?_⟩
   rcases Ah.mp hf with rfl | hf
   .rw [<- f2]
    exact(show Looks (model X.prog X.w) s.heap (typeOf (.ref kb)) o2.cls from(Looks.ld f1).andThen .now)
   .exact k3 f hf
 have hlen:=r.length;refine⟨tuples' false,fun h2 Q hq=>?_,fun i j hi hj Q hq=>?_⟩
 .obtain ⟨fs,k1,k2,k3⟩:=tups r all
  exact kat_kind (T:=.type "tuple") k1 (by omega) k3 rfl hq
 .have hq:Q (ltP (cs i) (cs j)) s:=hq
  obtain⟨a,ka,oa,na,ta,ea,a1,a2,a3,a4⟩:=dL I (hy i hi) (eW r i);obtain⟨b,kb,ob,nb,tb,eb,b1,b2,b3,b4⟩:=dL I (hy j hj) (eW r j);rw[ea,eb];refine kat_lt a1 a3 b1 b3 ?_;have ka1:=zB I.hok (ks:=(cs i).1.map Sum.inr) (by rw[jI]; exact a4);have kb1:=zB I.hok (ks:=(cs j).1.map Sum.inr) (by rw[jI]; exact b4);refine kat_cons (wpAny_eqBool_tuple (knd:=qX X.prog X.w) hu' ka1 kb1 ?_)
  by_cases hk:(cs i).1=(cs j).1
  .rw [Af (QK.mpr hk)]
   refine kat_yes (kat_cons (wpAny_eqBool_int ?_));have hl:ltP (cs i) (cs j)=decide ((cs i).2 < (cs j).2):=AW hk;rw[hl] at hq
   by_cases hn:(cs i).2=(cs j).2
   .rw [show((cs i).2==(cs j).2)=true by simpa using hn]
    refine kat_yes (kat_nil ?_);rw[hn,AS (Int.lt_irrefl _)] at hq;exact hq
   .rw [show((cs i).2==(cs j).2)=false by simpa using hn]
    refine kat_no (kat_one _ _ (PyProof.Rows.lt_int ?_));exact hq
  .rw [AS (fun e=>hk (QK.mp e))]
   have hl:ltP (cs i) (cs j)=HT.lexS (cs i).1 (cs j).1:=AT hk;rw[hl] at hq;obtain⟨_,ia,ra,pa⟩:=(show ObjOk X.prog X.w H s.heap ka (.tup ((cs i).1.map V.str)) from I.hok ka _ a4);obtain⟨_,ib,rb,pb⟩:=(show ObjOk X.prog X.w H s.heap kb (.tup ((cs j).1.map V.str)) from I.hok kb _ b4);refine kat_no (kat_one _ _ (HT.lt_tupStrs pa.is pb.is (Qq ra) (Qq rb) hu' ?_));exact hq
def JV (x y:Str×Int):Bool:=if x.1=y.1 then decide (x.2 < y.2) else decide (x.1.cps.toList < y.1.cps.toList)
def Vp (H:Hp)(v:V)(c:Str×Int):Prop:=∃a,v=.ref a/\H a=some (.tup [.str c.1,.int c.2])
theorem tE {X:Cx}{pins:List (Addr×Obj)}{σ:St}{H:Hp}{s:Shared}{v:V}{u:Value}{c:Str×Int}(I:Inv X pins σ H s)(h:Vp H v c)(r:RelV v u):
  ∃a o n t t',u=.ref a/\s.heap.get? a=some o/\o.cls=.type "tuple"/\o.data=.seq #[.str c.1 t',.int c.2 t] n:=by
 obtain⟨a,rfl,h1⟩:=h;cases (show u=Value.ref a from r);obtain⟨_,its,rv,o,e1,e2,⟨n,e3⟩,_⟩:=(show ObjOk X.prog X.w H s.heap a (.tup [.str c.1,.int c.2]) from I.hok a _ h1);obtain⟨u1,u2,rfl,r1,r2⟩:=Qo rv;obtain⟨t',rfl⟩:=r1;obtain⟨t,rfl⟩:=r2;exact⟨a,o,n,t,t',rfl,e1,e2,e3⟩
theorem ZS {X:Cx}{H:Hp}{ys:List V}(cs:Nat->Str×Int)(hy:∀i,i < ys.length->Vp H (ys.getD i .non) (cs i)):Srt X H ys (fun i j=>JV (cs i) (cs j)):=by
 intro pins σ s its A hA I r
 have all:∀v∈ys,∃c,Vp H v c:=fun v hv=>by
  obtain⟨i,hi,e⟩:=Bw hv;have q:=hy i hi;have eg:ys.getD i .non=v:=by simp[List.getD,hi,e]
  rw[eg] at q;exact⟨_,q⟩
 have tups:∀{ys:List V} {its:List Value},Vals ys its->(∀v∈ys,∃c,Vp H v c)->∃fs,KatTups s.heap its fs/\fs.length=its.length/\∀f∈fs,Looks (model X.prog X.w) s.heap (typeOf f) (.type "str"):=by
  intro ys its r
  induction r with
  |nil=>exact fun _=>⟨[],.nil,rfl,fun f hf=>nomatch hf⟩
  |@cons y u ys its ry _ ih =>
   intro hall;obtain⟨fs,k1,k2,k3⟩:=ih fun v hv=>hall v (AG _ hv);obtain⟨c,hc⟩:=hall y AD;obtain⟨a,o,n,t,t',rfl,e1,e2,e3⟩:=tE I hc ry;refine⟨.str c.1 t'::fs,.cons e1 e2 e3 rfl k1,by rw[AI,AI,k2],fun f hf=>?_⟩
   rcases Ah.mp hf with rfl | hf
   .exact .now
   .exact k3 f hf
 have hlen:=r.length;refine⟨tuples' true,fun h2 Q hq=>?_,fun i j hi hj Q hq=>?_⟩
 .obtain ⟨fs,k1,k2,k3⟩:=tups r all
  exact kat_kind (T:=.type "str") k1 (by omega) k3 rfl hq
 .have hq:Q (JV (cs i) (cs j)) s:=hq
  obtain⟨a,oa,na,ta,ta',ea,a1,a2,a3⟩:=tE I (hy i hi) (eW r i);obtain⟨b,ob,nb,tb,tb',eb,b1,b2,b3⟩:=tE I (hy j hj) (eW r j);rw[ea,eb];refine kat_lt a1 a3 b1 b3 ?_;refine kat_cons (wpAny_eqBool_str ?_)
  by_cases hk:(cs i).1=(cs j).1
  .rw [Af hk]
   refine kat_yes (kat_cons (wpAny_eqBool_int ?_));have hl:JV (cs i) (cs j)=decide ((cs i).2 < (cs j).2):=AW hk;rw[hl] at hq
   by_cases hn:(cs i).2=(cs j).2
   .rw [show((cs i).2==(cs j).2)=true by simpa using hn]
    refine kat_yes (kat_nil ?_);rw[hn,AS (Int.lt_irrefl _)] at hq;exact hq
   .rw [show((cs i).2==(cs j).2)=false by simpa using hn]
    refine kat_no (kat_one _ _ (PyProof.Rows.lt_int ?_));exact hq
  .rw [AS hk]
   have hl:JV (cs i) (cs j)=decide ((cs i).1.cps.toList < (cs j).1.cps.toList):=AT hk;rw[hl] at hq;exact kat_no (kas_lt_str hq)
def qH (H:Hp)(f:Addr->Option (List V)):Hp:=fun b=>match f b with
 |some xs=>some (.tup xs)
 |none=>H b
theorem eM {H:Hp}{f:Addr->Option (List V)}{b:Addr}{xs:List V}(e:f b=some xs):qH H f b=some (.tup xs):=by unfold qH; rw[e]
theorem qY {H:Hp}{f:Addr->Option (List V)}{b:Addr}(e:f b=none):qH H f b=H b:=by unfold qH; rw[e]
theorem sJ {H:Hp}{f:Addr->Option (List V)}(hf:∀b xs,f b=some xs->H b=none){b:Addr}{o:HO}(e:H b=some o):qH H f b=some o:=by
 cases z:f b with
 |none=>rw[qY z]; exact e
 |some xs=>rw[hf b xs z] at e; cases e
section
variable {X:Cx}{pins:List (Addr×Obj)}{σ:St}{H:Hp}{s:Shared}{h':Heap}
theorem Inv.tups {f:Addr->Option (List V)}{t':Nat}(I:Inv X pins σ H s)(k:∀b u,s.heap.get? b=some u->h'.get? b=some u)
  (hf:∀b xs,f b=some xs->s.heap.objs.size<=b/\xs.length<=sizeLine/\∃its:List Value,Vals xs its/\IsTupN h' b its.toArray):Inv X pins σ (qH H f) { s with heap:=h',toks:=t' }:=by
 have fr:∀b xs,f b=some xs->H b=none:=fun b xs e=>I.hok.fresh (hf b xs e).1
 have nf:∀{b:Addr} {o:Obj},s.heap.get? b=some o->f b=none:=fun {b o} e=>by
  cases z:f b with
  |none=>rfl
  |some xs=>exact absurd (AN e) (Nat.not_lt.mpr (hf b xs z).1)
 refine I.un ⟨fun b o q _ _ _=>k b o q,fun b o q _ _ _=>⟨o.slots,k b o q⟩,fun b o q n _=>by rw[qY (nf q)]; exact n,fun b o q _=>⟨o,k b o q⟩,fun b xs q=>sJ fr q,fun b o u q=>sJ fr q,fun b ps q=>⟨#[],by rw[sJ fr q]; simp⟩⟩ fun b u e=>?_
 cases z:f b with
 |some xs =>
  rw[eM z] at e;cases e;obtain⟨_,h2,its,h3,h4⟩:=hf b xs z;exact⟨h2,its,h3,h4⟩
 |none =>
  rw[qY z] at e;exact(I.hok b u e).stay (fun c v _ q=>k c v q) (fun c q=>sJ fr q) fun c xs q=>sJ fr q
end
section
variable {X:Cx}
theorem mF {pins:List (Addr×Obj)}{σ:St}{H:Hp}{s:Shared}{A:Around}{ys:List V}{vs:List Value}{lt:Nat->Nat->Bool}{Z:PySem.Fin->Shared->Prop}{E:Value->Shared->Prop}(hA:A.in1.units<=X.A.units+2)(I:Inv X pins σ H s)(rv:Vals ys vs)(h64:ys.length < 64)(hs:Srt X H ys lt)
  (fin:∀p s',H p=none->Inv X pins σ (upd H p (.lst (rG lt ys))) s'->Z (.done (.ret (.ref p))) s') :
  wpAny (model X.prog X.w) A (newList vs >>= fun l=>holding [l] (call (.builtin "list.sort") [l] []) >>= fun _=>ret l) Z E s:=by
 have hlen:=rv.length;have h64':vs.length < 64:=by omega
 have zl:vs.length<=sizeLine:=by rw[BK]; omega
 refine AB (wpAny_newList ?_ zl);have ga:(s.heap.push (seqObj "list" vs.toArray 0)).get? s.heap.objs.size=some (seqObj "list" vs.toArray 0):=Aa _ rfl;have up:∀{b:Addr} {o:Obj},s.heap.get? b=some o->b≠s.heap.objs.size:=fun e=>Ag (AN e);have k1:∀b o,s.heap.get? b=some o->(tZ (s.heap.push (seqObj "list" vs.toArray 0)) s.heap.objs.size vs).get? b=some o:=fun b o e=>jO (AF _ e) (up e)
 obtain⟨κ,hk,hc⟩:=hs pins σ _ vs A.in1 hA (I.kept (t':=s.toks) k1) rv;obtain⟨k0,_,e2⟩:=cA (vs:=vs) ga;have e3:∃c,(sortedHeap (s.heap.push (seqObj "list" vs.toArray 0)) s.heap.objs.size vs (iJ lt vs).toArray).get? s.heap.objs.size=some (seqObj "list" (iJ lt vs).toArray c):=⟨_,get?_update_seq e2 fun _=>(iJ lt vs).toArray⟩;obtain⟨c,e3⟩:=e3;have k2:∀b o,s.heap.get? b=some o->(sortedHeap (s.heap.push (seqObj "list" vs.toArray 0)) s.heap.objs.size vs (iJ lt vs).toArray).get? b=some o:=fun b o e=>(CP _ _ _ _ (up e)).trans (k1 b o e)
 refine AB (Aw (Bb slot_list_sort ⟨_,ga,rfl⟩ entry_list_sort ?inner (args_list_sort _)));refine nU (s:={ s with heap:=s.heap.push (seqObj "list" vs.toArray 0) }) (κ:=κ) (lt:=lt) ga h64' (fun h2 Q' hq=>hk (by omega) Q' hq) (fun i j hi hj Q' hq=>hc i j (by omega) (by omega) Q' hq) ⟨_,rfl,AE ?_⟩;refine fin _ _ (I.hok.fresh (AJ _)) (I.laid (t':=s.toks) (o:=.lst (rG lt ys)) k2 (AJ _) ?_)
 refine⟨by rw[pF,BK]; omega,iJ lt vs,c,?_,e3⟩;unfold rG iJ;rw[hlen];exact eD rv _
abbrev wV (v d:Addr):Heap->Prop:=fun h=>h.IsItemsView v d
def mkF (as:List Addr)(kvs:List (Key×V)):Addr->Option (List V):=fun b=>((as.zip kvs).find? fun p=>p.1==b).map fun p=>[kV p.2.1,p.2.2]
theorem KB {as:List Addr}{kvs:List (Key×V)}(nd:as.Nodup){j:Nat}{a:Addr}{p:Key×V}(ha:as[j]?=some a)(hp:kvs[j]?=some p):(as.zip kvs).find? (fun q=>q.1==a)=some (a,p):=by
 induction as generalizing kvs j with
 |nil=>cases ha
 |cons x as ih =>
  cases kvs with
  |nil=>cases hp
  |cons y kvs =>
   rw[Am] at nd;rw[CY,Ap]
   cases j with
   |zero=>cases ha; cases hp; simp
   |succ j =>
    have ha:as[j]?=some a:=ha;have ne:(x==a)=false:=Cv fun e=>nd.1 (e▸Al ha);rw[ne];exact ih nd.2 ha hp
theorem nY {as:List Addr}{kvs:List (Key×V)}{b:Addr}{q:Addr×(Key×V)}(h:(as.zip kvs).find? (fun q=>q.1==b)=some q):q.1=b/\∃j:Nat,as[j]?=some b/\kvs[j]?=some q.2:=by
 have h1:=List.find?_some h;have h1:q.1=b:=eq_of_beq h1;have h2:=BX h;obtain⟨j,hj⟩:=B4.mp h2;rw[List.getElem?_zip_eq_some] at hj;exact⟨h1,j,by rw[<- h1]; exact hj.1,hj.2⟩
theorem sH {H:Hp}:∀{as:List Addr}{kvs:List (Key×V)},as.length=kvs.length->(∀(j:Nat) (a:Addr) (p:Key×V),as[j]?=some a->kvs[j]?=some p->H a=some (.tup [kV p.1,p.2]))->xG H as kvs
 |[],[],_,_=>.nil
 |[],_::_,h,_=>nomatch h
 |_::_,[],h,_=>nomatch h
 |a::as,p::kvs,h,k=>.cons (k 0 a p rfl rfl) (sH (At h) fun j a' p' h1 h2=>k (j+1) a' p' h1 h2)
theorem rS {P:Program}{w:World}{k:Key}{u:Value}(h:(qX P w).is k u=true):RelV (kV k) u:=by
 rcases mZ h with ⟨i,t,rfl,rfl⟩ | ⟨x,t,rfl,rfl⟩ | ⟨rfl,rfl⟩
 .exact ⟨t,rfl⟩
 .exact ⟨t,rfl⟩
 .exact rfl
theorem J2 {kvs:List (Key×V)}{vs:List (Key×Value)}(r:KV kvs vs):∀{j:Nat}{p:Key×V}{q:Key×Value},kvs[j]?=some p->vs[j]?=some q->p.1=q.1/\RelV p.2 q.2:=by
 induction r with
 |nil=>intro j p q h; cases h
 |cons h _ ih =>
  intro j p q h1 h2
  cases j with
  |zero=>cases h1; cases h2; exact h
  |succ j=>exact ih (j:=j) h1 h2
theorem pR (hc:X.calm=true):CallR X (.builtin "sorted") (fun xs H Q=>∃v d kvs lt,xs=[.ref v]/\H v=some (.ext (wV v d))/\H d=some (.dK kvs)/\kvs.length < 64 /\
  ∀as H1,Same H H1->xG H1 as kvs->(∀a∈as,H a=none)->(∀a,H a=none->H1 a≠none->a∈as)->Srt X H1 (List.map V.ref as) lt/\∀p,H1 p=none->Q (.ref p) (upd H1 p (.lst (rG lt (List.map V.ref as))))):=by
 intro pins s σ H xs us Q I r h;obtain⟨v,d,kvs,lt,rfl,hv,hd,h64,hq⟩:=h;obtain⟨u,rfl,ru⟩:=r.one;cases ru;obtain⟨z,hS,vs,rel,dd⟩:=nO I.hok hd;obtain⟨hview,_,_⟩:=(show ObjOk X.prog X.w H s.heap v (.ext (wV v d)) from I.hok v _ hv);obtain⟨ep,da⟩:=dd.dictAt;have hl:kvs.length=vs.length:=rel.length;refine Bu kind_sorted plain_sorted entry_sorted (args_sorted1 _) (?_:wpAny _ _ (Builtin.«sorted» _) _ _ _)
 unfold Builtin.«sorted»;refine AB (m:=checkCount "sorted" 1 1 _) (AE (AB (kdx_collect (knd:=qX X.prog X.w) (by simp[I.ok.hd hc]) hview da (by rw[<- hl]; exact z) fun h' tk as keep hlen G=>?_)));have nd:as.Nodup:=G.rise.imp fun h=>Ag h;have hlen':as.length=kvs.length:=hlen.trans hl.symm;have up:∀a∈as,s.heap.objs.size<=a:=fun a ha=>Ct (G.above a ha)
 have I1:Inv X pins σ (qH H (mkF as kvs)) { s with heap:=h',toks:=tk }:=I.tups keep fun b xs e=>by
  unfold mkF at e
  cases z:(as.zip kvs).find? fun p=>p.1==b with
  |none=>rw[z] at e; cases e
  |some q =>
   rw[z] at e;cases e;obtain⟨e1,j,e2,e3⟩:=nY z;obtain⟨key,k,x,g1,g2,g3⟩:=G.pairs j b e2;obtain⟨r1,r2⟩:=J2 rel e3 g1;have r1:q.2.1=k:=r1;refine⟨up b (Al e2),zz 2 rfl,[key,x],.cons (by rw[r1]; exact rS g2) (.cons r2 .nil),⟨_,g3,rfl,⟨_,rfl⟩,rfl⟩⟩
 have fr:∀b xs,mkF as kvs b=some xs->H b=none:=fun b xs e=>by
  unfold mkF at e
  cases z:(as.zip kvs).find? fun p=>p.1==b with
  |none=>rw[z] at e; cases e
  |some q =>
   obtain⟨_,j,e2,_⟩:=nY z;exact I.hok.fresh (up b (Al e2))
 obtain⟨hs,q⟩:=hq as (qH H (mkF as kvs)) (fun b o e=>sJ fr e) (sH hlen' fun j a p h1 h2=>eM (by unfold mkF; rw[KB nd h1 h2]; rfl)) (fun a ha=>I.hok.fresh (up a ha)) fun a n1 n2=>by
  cases z:mkF as kvs a with
  |none=>rw[qY z] at n2; exact absurd n1 n2
  |some xs =>
   unfold mkF at z
   cases y:(as.zip kvs).find? fun p=>p.1==a with
   |none=>rw[y] at z; cases z
   |some q =>
    obtain⟨_,j,e2,_⟩:=nY y;exact Al e2
 have rv:Vals (as.map V.ref) (as.map Value.ref):=by
  clear nd hlen' up I1 fr hs q hlen G hq
  induction as with
  |nil=>exact .nil
  |cons a as ih=>exact .cons rfl ih
 exact mF (AJ _) I1 rv (by rw[AA]; omega) hs fun p s' hp I'=>⟨_,rfl,.ref p,_,I',rfl,q p hp⟩
end
end L2
namespace L2
open PySem PySem.Spec PyProof.Rows
section
variable {X:Cx}{pins:List (Addr×Obj)}{σ:St}{H:Hp}{s:Shared}{d:Addr}{o:Obj}{kvs:List (Key×V)}
theorem Inv.freeze {t':Nat}(I:Inv X pins σ H s)(hd:H d=some (.dK kvs))(ho:s.heap.get? d=some o):Inv X pins σ (upd H d (.frz o (.dK kvs))) { s with toks:=t' }:=by
 have ne:∀{b:Addr} {u:HO},H b=some u->u≠.dK kvs->b≠d:=fun e n z=>by subst z; rw[hd] at e; cases e; exact n rfl
 refine I.un (h':=s.heap) ⟨fun b u q _ _ _=>q,fun b u q _ _ _=>⟨u.slots,q⟩,fun b u q n _=>by rw[nQ (fun z=>by subst z; rw[hd] at n; cases n)]; exact n,fun b u q _=>⟨u,q⟩,
  fun b xs q=>by rw[nQ (ne q nofun)]; exact q,fun b u v q=>by rw[nQ (ne q nofun)]; exact q,fun b ps q=>⟨#[],by rw[nQ (ne q nofun),q]; simp⟩⟩ fun b u e=>?_
 have st:∀{b:Addr} {u:HO},H b=some u->ObjOk X.prog X.w (upd H d (.frz o (.dK kvs))) s.heap b u:=fun {b u} e=>(I.hok b u e).stay (fun c v _ q=>q) (fun c q=>by rw[nQ (ne q nofun)]; exact q) fun c xs q=>by rw[nQ (ne q nofun)]; exact q
 by_cases hb:b=d
 .subst hb
  rw[dQ] at e;cases e;exact⟨ho,st hd⟩
 .rw [nQ hb] at e
  exact st e
def NF (X:Cx)(d:Addr):Prop:=∀ob u,X.H₀ d≠some (.frz ob u)
theorem Inv.nf (I:Inv X pins σ H s)(hd:H d=some (.dK kvs)):NF X d:=fun ob u e=>by
 have:=I.base.frzs d ob u e;rw[hd] at this; cases this
theorem Inv.thaw (I:Inv X pins σ H s)(hd:H d=some (.frz o (.dK kvs)))(nf:NF X d):Inv X pins σ (upd H d (.dK kvs)) s:=by
 have ne:∀{b:Addr} {u:HO},H b=some u->u≠.frz o (.dK kvs)->b≠d:=fun e n z=>by subst z; rw[hd] at e; cases e; exact n rfl
 have nn:∀{b:Addr},H b=none->b≠d:=fun e z=>by subst z; rw[hd] at e; cases e
 obtain⟨m,hm,hl⟩:=I.loc;have B:=I.base;have st:∀{b:Addr} {u:HO},H b=some u->ObjOk X.prog X.w (upd H d (.dK kvs)) s.heap b u:=fun {b u} e=>(I.hok b u e).stay (fun c v _ q=>q) (fun c q=>by rw[nQ (ne q nofun)]; exact q) fun c xs q=>by rw[nQ (ne q nofun)]; exact q
 refine⟨I.ok,I.os,I.bare,⟨B.keep,B.slot,fun b u q n x=>by rw[nQ (nn (B.free b u q n x))]; exact B.free b u q n x,B.there,fun b xs q=>?_,fun b ob u q=>?_,fun b ps q=>?_⟩,⟨m,hm,hl⟩,I.cell,by rw[nQ (nn I.free)]; exact I.free,fun x c e=>by rw[nQ (nn (I.freeC x c e))]; exact I.freeC x c e,fun p hp=>?_,fun b u e=>?_,I.len⟩
 .have:=B.tups b xs q
  rw[nQ (ne this nofun)]; exact this
 .have:=B.frzs b ob u q
  have hb:b≠d:=fun z=>by subst z; exact nf ob u q
  rw[nQ hb]; exact this
 .obtain ⟨more,e⟩:=B.tbls b ps q
  exact⟨more,by rw[nQ (ne e nofun)]; exact e⟩
 .obtain ⟨a1,a2,a3⟩:=I.pin p hp
  exact⟨a1,by rw[nQ (nn a2)]; exact a2,a3⟩
 .by_cases hb:b=d
  .subst hb
   rw[dQ] at e;cases e;exact(show ObjOk X.prog X.w _ s.heap b (.frz o (.dK kvs)) from st hd).2
  .rw [nQ hb] at e
   exact st e
theorem je_thaw {e:Expr}{t:TE}(h:JE X e t):JE X e (fun σ H Q=>t σ H fun v H'=>∃d o kvs,H' d=some (.frz o (.dK kvs))/\NF X d/\Q v (upd H' d (.dK kvs))) :=
 ⟨fun pins s σ H Q I q=>thn (h.h pins s σ H _ I q) fun u s1 ⟨v,H1,I1,r1,d,o,kvs,q1,q2,q3⟩=>⟨v,_,I1.thaw q1 q2,r1,q3⟩⟩
end
def Itd (o:Obj)(d:Addr)(kvs:List (Key×V)):It :=
 ⟨fun i H=>i < kvs.length/\H d=some (.frz o (.dK kvs)),fun i H x H'=>H'=H/\∃p,kvs[i]?=some p/\x=kV p.1,fun i H=>kvs.length<=i/\H d=some (.frz o (.dK kvs))⟩
theorem Ky {X:Cx}{pins:List (Addr×Obj)}{σ:St}{H:Hp}{s:Shared}{d:Addr}{o:Obj}{kvs:List (Key×V)}{es:Array DictEntry}{ep:Nat}(I:Inv X pins σ H s)(hd:H d=some (.frz o (.dK kvs)))(ho:o.data=.dict es ep):
  ∃vs,KV kvs vs/\s.heap.DictAt (qX X.prog X.w) d vs ep/\(d==sysModules)=false:=by
 obtain⟨e,_,hS,vs,rel,o',es',ep',q1,q2,q3,q4⟩:=(show ObjOk X.prog X.w H s.heap d (.frz o (.dK kvs)) from I.hok d _ hd);rw[e] at q1;cases q1;rw[ho] at q3;cases q3;exact⟨vs,rel,⟨o,es,e,q2,ho,q4⟩,hS⟩
theorem Xq {P:Program}{w:World}{K:DK}{tg:Expr}(o:Obj)(d it:Addr)(kvs:List (Key×V))(es:Array DictEntry)(ep:Nat)(ho:o.data=.dict es ep):Zt P w K tg (Itd o d kvs) [it] it (fun i h=>h.IsKeyIter it d i kvs.length ep) where
 mem:=by simp
 obj:=fun i h st b hb=>by
  have e:b=it:=by simpa using hb
  subst e;obtain⟨o,e,c,d⟩:=st;exact⟨o,e,fun v z=>by rw[d] at z; cases z⟩
 keep:=fun i h h' st k=>let ⟨ob,e,r⟩:=st; ⟨ob,k it (by simp) ob e,r⟩
 item:=by
  intro X hP hw hK hc i pins s σ H E I hf st hg;subst hP hw hK;obtain⟨hi,hd⟩:=hg;obtain⟨vs,rel,da,_⟩:=Ky I hd ho;have hl:kvs.length=vs.length:=rel.length;obtain⟨f0,f1,f2,f3,f4,f5⟩:=hf it (by simp);have hv:vs[i]?=some (vs[i]'(by omega)):=AM _;have hk:kvs[i]?=some kvs[i]:=AM _;obtain⟨r1,_⟩:=J2 rel hk hv;rw[hl] at st;refine wpAny_pyNext_dict_item (knd:=qX X.prog X.w) st da hv fun key h' ik st' sb=>?_
  have I1:Inv X pins σ H { s with heap:=h' }:=I.turned (t':=s.toks) (fun b o hb e=>(sb.2 b hb).trans e) f0 f1 f3 f4 f5;obtain⟨ob,e,c,dt⟩:=id st';exact⟨key,rfl,QT (s:={ s with heap:=h' }) e c dt (by decide) ⟨kV kvs[i].1,H,I1,by rw[r1]; exact rS ik,⟨rfl,_,hk,rfl⟩,by rw[hl]; exact st',fun b hb=>(hf b hb).1⟩⟩
 done:=by
  intro X hP hw hK hc i pins s σ H E I hf st hg;subst hP hw hK;obtain⟨hi,hd⟩:=hg;obtain⟨vs,rel,da,_⟩:=Ky I hd ho;have hl:kvs.length=vs.length:=rel.length;obtain⟨f0,f1,f2,f3,f4,f5⟩:=hf it (by simp);rw[hl] at st;exact wpAny_pyNext_dict_end (knd:=qX X.prog X.w) (I.ok.hd hc) st da (Ca.mpr (by omega)) fun h' eb=>⟨rfl,I.turned (t':=s.toks) (fun b o hb e=>eb b o hb e) f0 f1 f3 f4 f5⟩
 self:=fun _ _ _ _ _ st h=>wpAny_pyIter_keyiter st h
section
variable {X:Cx}{tg:Expr}
def iDict (X:Cx)(td:TE):TI:=fun σ H R=>td σ H fun x H1=>∃d kvs,x=.ref d/\H1 d=some (.dK kvs)/\∀o,NF X d->R (Itd o d kvs) (upd H1 d (.frz o (.dK kvs)))
theorem ji_dict {e:Expr}{td:TE}(he:JE X e td):JI X tg e (iDict X td):=by
 refine⟨fun pins s σ H R I h=>?_⟩;refine thn (he.h pins s σ H _ I h) fun v s1 ⟨x,H1,I1,r1,q1⟩=>?_;obtain⟨d,kvs,rfl,hd,q⟩:=q1;cases (show v=Value.ref d from r1);obtain⟨z,hS,vs,rel,dd⟩:=nO I1.hok hd;obtain⟨ep,da⟩:=dd.dictAt;obtain⟨o,es,g1,g2,g3,g4⟩:=id da;have hl:kvs.length=vs.length:=rel.length;have I2:=I1.freeze (t':=s1.toks) hd g1;refine wpAny_pyIter_dict (knd:=qX X.prog X.w) hS da ?_;refine⟨s1.heap.objs.size,[s1.heap.objs.size],_,_,_,rfl,I2.kept (t':=s1.toks) fun b o e=>AF _ e,Xq o d _ kvs es ep g3,⟨_,Aa _ rfl,rfl,by rw[hl]; rfl⟩,fun b hb=>?_,q o (I1.nf hd)⟩
 have e:b=s1.heap.objs.size:=by simpa using hb
 subst e;exact I2.fpOk (AJ _) (I2.hok.fresh (AJ _))
end
end L2
namespace PySem.W
open PySem PySem.Calls PyProof.Rows PyProof.V PySem.Spec
def RawD (h:Heap)(d:Addr)(es:Array DictEntry)(ep:Nat):Prop:=∃o,h.get? d=some o/\o.ExactDict/\o.data=.dict es ep
theorem RawD.at {h h':Heap}{d:Addr}{es:Array DictEntry}{ep:Nat}(x:RawD h d es ep)(k:∀o,h.get? d=some o->h'.get? d=some o):RawD h' d es ep:=let ⟨o,e,r⟩:=x; ⟨o,k o e,r⟩
abbrev RIt (h:Heap)(it d:Addr)(i n ep:Nat)(x0 ok ov:Value)(f:Bool):Prop:=h.get? it=some { cls:=.type "dict_itemiterator",dict:=none,data:=.fields #[x0,.bool f,.ref d,.int i 0,.int n 0,.int ep 0,ok,ov],slots:=#[] }
def RSt (h:Heap)(it d S:Addr)(i n ep:Nat):Prop:=∃x0 ok ov f,RIt h it d i n ep x0 ok ov f/\((x0=.none/\f=false)\/∃a oa,x0=rawInt (a:Nat)/\h.get? a=some oa/\a≠it/\a≠S)
theorem RSt.keep {h h':Heap}{it d S:Addr}{i n ep:Nat}(x:RSt h it d S i n ep)(k:∀b o,b≠S->h.get? b=some o->h'.get? b=some o)(ne:it≠S):RSt h' it d S i n ep:=by
 obtain⟨x0,ok,ov,f,e,r⟩:=x;refine⟨x0,ok,ov,f,k _ _ ne e,r.imp id ?_⟩;rintro⟨a,oa,r1,r2,r3,r4⟩;exact⟨a,oa,r1,k _ _ r4 r2,r3,r4⟩
section
variable {prog:Program}{w:World}{A:Around}{E:Value->Shared->Prop}{s:Shared}
theorem sS {it d S:Addr}{i n ep:Nat}{es:Array DictEntry}{Q:Option Value->Shared->Prop}(hh:A.handled=none)(hst:RSt s.heap it d S i n ep)(hS:S < s.heap.objs.size)(hD:RawD s.heap d es ep)(hn:es.size=n)
  (hItem:∀e h',es[i]?=some e->RSt h' it d S (i+1) n ep->h'.get? s.heap.objs.size=some { cls:=.type "tuple",data:=.seq #[e.key,e.val] }->h'.objs.size=s.heap.objs.size+1->(∀b o,b≠it->s.heap.get? b=some o->h'.get? b=some o)->Q (some (.ref s.heap.objs.size)) { s with heap:=h' })
  (hEnd:es[i]?=none->∀h',(∀b o,b≠it->s.heap.get? b=some o->h'.get? b=some o)->Q none { s with heap:=h' }):wpAny (model prog w) A (pyNext (.ref it)) Q E s:=by
 obtain⟨hp,g,dr,tk,os⟩:=s;obtain⟨od,d1,d2,d3⟩:=hD;obtain⟨x0,ok,ov,f,hit,hx0⟩:=hst;subst hn;have hT:Shared.TypeIs ⟨hp,g,dr,tk,os⟩ (.ref it) "dict_itemiterator":=⟨_,hit,rfl⟩;have hown:Builtin.Dict_items.ownsTuple "dict_itemiterator" = true:=by decide
 unfold pyNext;refine AB (wpAny_attempt (wpAny_callSpecial?_slot (name:=Str.ofString "__next__") hT B0 (Bb B0 hT PySem.F.entry_dict_itemiterator_next (AB (AE ?_)) (PySem.F.args_dict_itemiterator_next_1 _))));refine AB (AB (AB (B5 hT (AE ?_))))
 refine AB (wpAny_fieldsOf hit rfl ?_)
 (simp only[hown,if_true]; show wpAny _ _ (if (Value.ref d==Value.none)=true then _ else _) _ _ _; rw[AT (show ¬ ((Value.ref d==Value.none)=true) from AL)])
 refine AB (AE (AB (wpAny_dictEntries d1 d3 ?_)))
 (rw[AT (by simp)]; refine AB (AE (AB (wpAny_dictEpoch d1 d3 ?_))); rw[AT (by simp)]; refine AE ?_)
 cases hx:es[i]? with
 |none =>
  (simp only[show ¬ ((i:Int) < 0) from by omega,if_false,Int.toNat_natCast,hx]; refine AB (AB (B5 hT (AE ?_))))
  (show wpAny _ _ (setField (.ref it) 2 .none >>= _) _ _ _; refine AB (wpAny_setField hit rfl (by simp) ?_))
  (show wpAny _ _ (newExc (.type "StopIteration") [] >>= _) _ _ _; refine AB ?_; simp only[newExc,newTuple]; refine AB (Bk ?_ (by size_fits)))
  refine AB (m:=firstArgMember _ _) (wpAny_of_eq (a:=Value.none) (by first | rfl | (simp only[firstArgMember]; rfl)) (Bk ?_ (by size_fits)))
  (simp only[raiseNew]; refine AB (wpAny_handled ?_); rw[show A.in1.handled=none from hh]; refine AB (AE (wpAny_throw ?_)))
  (refine AB (Ck (T:="StopIteration") (b:=true) ⟨_,Aa _ rfl,rfl⟩ isSubtype_stop ?_))
  exact AE (hEnd hx _ fun b o nb e=>(((Heap.SameBut.update ..).extBut.push _).push _) b o nb e)
 |some e =>
  have hil:it < hp.objs.size:=AN hit
  (simp only[show ¬ ((i:Int) < 0) from by omega,if_false,Int.toNat_natCast,hx]; refine AB (AB (B5 hT (AE ?_))))
  (refine AB (Cp hT ?_); show wpAny _ _ (setField (.ref it) 3 (rawInt ((i:Int)+1)) >>= _) _ _ ⟨hp,g,dr,tk,os⟩)
  refine AB (Bc hit (by simp) fun h₁ he₁ hs₁=>?_);have hs₁:Heap.SameBut it hp h₁:=hs₁
  have he₁:RIt h₁ it d (i+1) es.size ep x0 ok ov f:=by
   have z:((i+1:Nat):Int)=(i:Int)+1:=by omega
   (unfold RIt; rw[z]; simpa [rawInt] using he₁)
  have hT₁:Shared.TypeIs ⟨h₁,g,dr,tk,os⟩ (.ref it) "dict_itemiterator":=⟨_,he₁,rfl⟩;refine AB (Aw (AB (Cp hT₁ (AB (Cp hT₁ ?_)))))
  (show wpAny _ _ (Builtin.Dict_items.pairFromOwner (.ref it) 6 e.key e.val) _ _ ⟨h₁,g,dr,tk,os⟩; unfold Builtin.Dict_items.pairFromOwner; refine AB (wpAny_newTuple ?_))
  obtain⟨h₂,eh₂⟩:∃h₂,h₂=h₁.push { cls:=.type "tuple",data:=.seq #[e.key,e.val] }:=⟨_,rfl⟩;have z1:h₁.objs.size=hp.objs.size:=hs₁.1;have he₂:RIt h₂ it d (i+1) es.size ep x0 ok ov f:=by rw[eh₂]; exact AF _ he₁
  have t2:h₂.get? hp.objs.size=some { cls:=.type "tuple",data:=.seq #[e.key,e.val] }:=by rw[eh₂,<- z1]; exact Aa _ rfl
  have z2:h₂.objs.size=hp.objs.size+1:=by rw[eh₂,BU,z1]
  have k2:∀b o,b≠it->hp.get? b=some o->h₂.get? b=some o:=fun b o nb q=>by rw[eh₂]; exact AF _ (hs₁.extBut b o nb q)
  have fin:∀h3:Heap,Heap.SameBut it h₂ h3->RSt h3 it d S (i+1) es.size ep->Q (some (.ref hp.objs.size)) ⟨h3,g,dr,tk,os⟩:=fun h3 sb r=>hItem e h3 hx r (sb.extBut _ _ (A5 hil) t2) (by show h3.objs.size=hp.objs.size+1; rw[sb.1,z2]) fun b o nb q=>sb.extBut b o nb (k2 b o nb q)
  (show wpAny _ _ (Builtin.Dict_items.ownedTupleIsFree (.ref it) >>= _) _ _ ⟨h₁.push { cls:=.type "tuple",data:=.seq #[e.key,e.val] },g,dr,tk,os⟩; rw[<- eh₂])
  clear eh₂ he₁ hT₁
  (refine AB ?_; unfold Builtin.Dict_items.ownedTupleIsFree; refine AB (DG he₂ rfl (x:=x0) rfl ?_))
  rcases hx0 with ⟨rfl,rfl⟩ | ⟨a,oa,rfl,ha,nai,naS⟩
  ·(refine AE ?_; simp only[if_true])
   refine AB (DG he₂ rfl (x:=ok) rfl (AB (DG he₂ rfl (x:=ov) rfl ?_)));refine AB (Bc he₂ (by simp) fun h3 e3 s3=>?_);refine AB (Bc e3 (by simp) fun h4 e4 s4=>?_);refine AB (Bc e4 (by simp) fun h5 e5 s5=>?_);refine AB (Bc e5 (by simp) fun h6 e6 s6=>?_);have sb:Heap.SameBut it h₂ h6:=((Heap.SameBut.trans s3 s4).trans s5).trans s6
   have r6:RIt h6 it d (i+1) es.size ep (rawInt (h₁.objs.size:Nat)) e.key e.val false:=e6;have a6:h6.get? h₁.objs.size=some { cls:=.type "tuple",data:=.seq #[e.key,e.val] }:=by rw[z1]; exact sb.extBut _ _ (A5 hil) t2
   have rs:RSt h6 it d S (i+1) es.size ep:=⟨_,_,_,_,r6,.inr ⟨_,_,rfl,a6,by rw[z1]; exact A5 hil,by rw[z1]; exact A5 hS⟩⟩;have q6:=fin h6 sb rs;rw[<- z1] at q6;exact AB (wpAny_letGo (AE (AE ⟨_,rfl,AE q6⟩)))
  .have a2:h₂.get? a=some oa:=k2 a oa nai ha
   have rs:∀h3 fl,Heap.SameBut it h₂ h3->RIt h3 it d (i+1) es.size ep (rawInt (a:Nat)) ok ov fl->RSt h3 it d S (i+1) es.size ep:=fun h3 fl sb r=>⟨_,_,_,_,r,.inr ⟨a,oa,rfl,sb.extBut a oa nai a2,nai,naS⟩⟩
   (show wpAny _ _ (loadIfAlive ((a:Int).toNat) >>= _) _ _ _; rw[Ci])
   (refine AB (kdx_alive a2 ?_); simp only[Option.isNone_some,Bool.false_eq_true,if_false]; refine AB (DG he₂ rfl (x:=.bool f) rfl ?_))
   cases f with
   |true =>
    (rw[AT (show ¬ ((Value.bool true != Value.bool true)=true) from AL)]; refine AE ?_; simp only[Bool.false_eq_true,if_false])
    have q6:=fin h₂ (Heap.SameBut.refl _ _) (rs h₂ true (Heap.SameBut.refl _ _) he₂);rw[<- z1] at q6;exact AE (AE ⟨_,rfl,AE q6⟩)
   |false =>
    (rw[AW (show(Value.bool false != Value.bool true)=true from rfl)]; refine AB (Bc he₂ (by simp) fun h3 e3 s3=>?_))
    have q6:=fin h3 s3 (rs h3 true s3 e3);rw[<- z1] at q6
    (refine AE ?_; simp only[Bool.false_eq_true,if_false])
    exact AE (AE ⟨_,rfl,AE q6⟩)
structure RawG (es:Array DictEntry)(lo:Addr)(h:Heap)(as:List Addr):Prop where
 rise:as.Pairwise (· < ·)
 above:∀a∈as,lo < a
 pairs:∀(j:Nat) (a:Addr),as[j]?=some a->∃e,es[j]?=some e/\h.get? a=some { cls:=.type "tuple",data:=.seq #[e.key,e.val] }
theorem RawG.there {es:Array DictEntry}{lo:Addr}{h:Heap}{as:List Addr}(g:RawG es lo h as){a:Addr}(ha:a∈as):a < h.objs.size:=by
 obtain⟨j,hj⟩:=B4.mp ha;obtain⟨e,_,q⟩:=g.pairs j a hj;exact AN q
theorem RawG.snoc {es:Array DictEntry}{lo:Addr}{h h':Heap}{as:List Addr}{e:DictEntry}{p:Addr}(g:RawG es lo h as)(k:∀b o,lo < b->h.get? b=some o->h'.get? b=some o)(hp:h.objs.size=p)(hlo:lo < p)(he:es[as.length]?=some e)(ht:h'.get? p=some { cls:=.type "tuple",data:=.seq #[e.key,e.val] }):RawG es lo h' (as++[p]) where
 rise:=List.pairwise_append.mpr ⟨g.rise,List.pairwise_singleton _ _,fun a ha b hb=>by
  cases AH.mp hb;rw[<- hp]
  exact g.there ha⟩
 above:=fun a ha=>by
  rcases An.mp ha with ha | ha
  .exact g.above a ha
  .cases AH.mp ha; exact hlo
 pairs:=fun j a hj=>by
  by_cases h1:j < as.length
  .rw [Bt h1] at hj
   obtain⟨e',q1,q2⟩:=g.pairs j a hj;exact⟨e',q1,k a _ (g.above a (Al hj)) q2⟩
  .rw [BR (by omega)] at hj
   by_cases h2:j=as.length
   .subst h2
    rw[Nat.sub_self] at hj;cases hj;exact⟨e,he,ht⟩
   .have:j - as.length=(j - as.length - 1)+1:=by omega
    rw[this] at hj;cases hj
theorem Z2 {R:Result->Shared->Prop}{S I d:Addr}{es:Array DictEntry}{ep:Nat}{h₁:Heap}{res:Value}(hh:A.handled=none)(hSI:S < I)(hSd:d≠S)(hId:d≠I)(hz:es.size<=sizeLine)
  (hR:∀h' tk acc c as,(∀b o,b≠S->b≠I->h₁.get? b=some o->h'.get? b=some o)->h'.get? S=some { cls:=.type "list",dict:=none,data:=.seq acc c,slots:=#[] }->as.length=es.size->RawG es I h' as->acc.toList=as.map Value.ref->R (.ok (.ret res)) { s with heap:=h',toks:=tk }) :
  ∀(k:Nat) (h:Heap) (tk c:Nat) (acc:Array Value) (as:List Addr),as.length+k=es.size->RSt h I d S as.length es.size ep->RawD h d es ep->(∀b o,b≠S->b≠I->h₁.get? b=some o->h.get? b=some o) ->
   h.get? S=some { cls:=.type "list",dict:=none,data:=.seq acc c,slots:=#[] }->acc.toList=as.map Value.ref->RawG es I h as->I < h.objs.size ->
   codeAny (model prog w) A (.builtin "list.extend.loop" ⟨[.ref S,.ref I,res],[]⟩) R { s with heap:=h,toks:=tk }:=by
 have ne:S≠I:=Ag hSI;intro k
 induction k with
 |zero =>
  intro h tk c acc as hk hst hD keep hS hacc hG hIs
  (refine BO PySem.F.entry_extend_loop ?_; rw[BD BW _])
  (show wpAny _ A.in1 (pyNext (.ref I) >>= _) _ _ _; refine AB (sS (s:={ s with heap:=h,toks:=tk }) (A:=A.in1) hh hst (AN hS) hD rfl (fun e h' hx=>?_) fun _ h' kp=>?_))
  .rw [Array.getElem?_eq_none (by omega)] at hx; cases hx
  .exact AE (hR h' tk acc c as (fun b o h1 h2 e=>kp b o h2 (keep b o h1 h2 e)) (kp S _ ne hS) (by omega) ⟨hG.rise,hG.above,fun j a hj=>let ⟨e,q1,q2⟩:=hG.pairs j a hj; ⟨e,q1,kp a _ (A5 (hG.above a (Al hj))) q2⟩⟩ hacc)
 |succ k ih =>
  intro h tk c acc as hk hst hD keep hS hacc hG hIs;have hsz:acc.size=as.length:=by rw[<- Au,hacc,AA]
  (refine BO PySem.F.entry_extend_loop ?_; rw[BD BW _])
  (show wpAny _ A.in1 (pyNext (.ref I) >>= _) _ _ _; refine AB (sS (s:={ s with heap:=h,toks:=tk }) (A:=A.in1) hh hst (AN hS) hD rfl (fun e h' hx hst' ht hz' kp=>?_) fun hx=>?_))
  .have hx:es[as.length]?=some e:=hx
   have ht:h'.get? h.objs.size=some { cls:=.type "tuple",data:=.seq #[e.key,e.val] }:=ht;have kp:∀b o,b≠I->h.get? b=some o->h'.get? b=some o:=kp;have hS':=kp S _ ne hS;have hSl:S < h.objs.size:=AN hS;have up:∀b o,b≠S->h'.get? b=some o->(h'.update S (Obj.mapSeq (·.push (Value.ref h.objs.size)))).get? b=some o:=fun b o nb e=>(Bg _ _ (Ne.symm nb)).trans e;have up2:∀b o,b≠S->b≠I->h.get? b=some o->(h'.update S (Obj.mapSeq (·.push (Value.ref h.objs.size)))).get? b=some o:=fun b o n1 n2 e=>up b o n1 (kp b o n2 e)
   have ht':=up _ _ (A5 hSl) ht;have hG':RawG es I (h'.update S (Obj.mapSeq (·.push (Value.ref h.objs.size)))) (as++[h.objs.size]):=hG.snoc (fun b o lb e=>up2 b o (A5 (Nat.lt_trans hSI lb)) (A5 lb) e) rfl hIs hx ht';have hl:(as++[h.objs.size]).length=as.length+1:=by rw[AC,AO]
   have step:=ih _ tk _ (acc.push (Value.ref h.objs.size)) (as++[h.objs.size]) (by rw[hl]; omega) (by rw[hl]; exact hst'.keep up (Ne.symm ne)) (hD.at fun o e=>up2 d o hSd hId e) (fun b o h1 h2 e=>up2 b o h1 h2 (keep b o h1 h2 e)) (Bj _ hS' rfl) (by rw[Array.toList_push,hacc,AQ]; rfl) hG' (Nat.lt_trans hIs (AN ht'))
   (show wpAny _ A.in1 (updateSeq S (·.push (Value.ref h.objs.size)) >>= _) _ _ _; refine AB ?_)
   exact wpAny_updateSeq hS' rfl (AE ⟨Bz BW _,step⟩) (by rw[hsz]; omega) (by show(acc.push (Value.ref h.objs.size)).size<=sizeLine+1; rw[Array.size_push,hsz]; omega)
  .have:as.length < es.size:=by omega
   rw[Cc this] at hx;cases hx
end
section
variable {prog:Program}{w:World}{A:Around}{E:Value->Shared->Prop}{s:Shared}{v d:Addr}{es:Array DictEntry}{ep:Nat}
theorem Z3 {Q:Value->Shared->Prop}(hv:s.heap.IsItemsView v d)(hD:RawD s.heap d es ep)(hQ:∀h':Heap,(∀b o,s.heap.get? b=some o->h'.get? b=some o)->h'.objs.size=s.heap.objs.size+1->RIt h' s.heap.objs.size d 0 es.size ep .none .none .none false->Q (.ref s.heap.objs.size) { s with heap:=h' }):
  wpAny (model prog w) A (pyIter (.ref v)) Q E s:=by
 obtain⟨ov,v1,v2,v3⟩:=id hv;obtain⟨od,d1,d2,d3⟩:=hD;have hown:Builtin.Dict_items.ownsTuple "dict_itemiterator" = true:=by decide
 refine wpAny_pyIter_slot hv.typeIs PySem.F.slot_dict_items_iter (Bb PySem.F.slot_dict_items_iter hv.typeIs PySem.F.entry_dict_items_iter ?_ (PySem.F.args_dict_items_iter_1 _))
 (unfold Builtin.«dict_items.__iter__»; refine AB (AE (AB ?_)); unfold Builtin.Dict_items.dictOf; refine AB (DG v1 v3 (x:=.ref d) rfl (AE (AB ?_))))
 (unfold Builtin.Dict_items.newIterator; refine AB (wpAny_dictEntries d1 d3 (AB (wpAny_dictEpoch d1 d3 ?_))); simp only[hown,if_true])
 refine Bk (AE ⟨_,rfl,"dict_itemiterator",_,⟨_,Aa _ rfl,rfl⟩,B0.lookup,?_⟩) (by simp only[sizeOk,Builtin.Dict_items.ownedTupleFields,List.size_toArray,List.length_append,List.length_cons,List.length_nil,sizeLine_eq]; omega)
 exact hQ _ (fun b o e=>AF _ e) (BU _ _) (by
  have e:=Aa (o:={ cls:=.type "dict_itemiterator",data:=.fields #[.none,.bool false,.ref d,.int 0 0,.int es.size 0,.int ep 0,.none,.none] }) s.heap rfl
  simpa [RIt,rawInt,Builtin.Dict_items.ownedTupleFields] using e)
theorem jA {R:Result->Shared->Prop}{S:Addr}{res:Value}{c₀:Nat}(hh:A.handled=none)(hv:s.heap.IsItemsView v d)(hD:RawD s.heap d es ep)(hSv:S≠v)(hSd:d≠S)(hS:s.heap.get? S=some { cls:=.type "list",data:=.seq #[] c₀ })(hz:es.size<=sizeLine)
  (hR:∀h' tk acc c as,(∀b o,b≠S->s.heap.get? b=some o->h'.get? b=some o)->h'.get? S=some { cls:=.type "list",dict:=none,data:=.seq acc c,slots:=#[] }->as.length=es.size->RawG es s.heap.objs.size h' as->acc.toList=as.map Value.ref->R (.ok (.ret res)) { s with heap:=h',toks:=tk }) :
  wpAny (model prog w) A.in1 (Builtin.List.listExtendWith (.ref S) (.ref v) res) (fun fin s'=>match fin with | .done f=>R (.ok f) s' | .again c'=>c'.quiet=true/\codeAny (model prog w) A c' R s') (fun e s'=>R (.error e) s') s:=by
 have hSI:S < s.heap.objs.size:=AN hS;have hdI:d < s.heap.objs.size:=let ⟨_,e,_⟩:=hD; AN e
 unfold Builtin.List.listExtendWith;refine AB (Co (T:="dict_items") hv.typeIs ?_);have f1:Builtin.List.listSameRef (.ref S) (.ref v)=false:=by simp[Builtin.List.listSameRef,hSv]
 have f2:(Value.type "dict_items" == Value.type "list")=false:=by decide
 have f3:(Value.type "dict_items" == Value.type "tuple")=false:=by decide
 (simp only[f1,f2,f3,Bool.or_false,Bool.false_eq_true,if_false]; refine AB (Z3 hv hD fun h1 k1 z1 r1=>?_))
 have key:∀(h:Heap) (c₁ tk:Nat),(∀b o,b≠S->h1.get? b=some o->h.get? b=some o)->h.get? S=some { cls:=.type "list",data:=.seq #[] c₁ }->codeAny (model prog w) A (.builtin "list.extend.loop" ⟨[.ref S,.ref s.heap.objs.size,res],[]⟩) R { s with heap:=h,toks:=tk }:=by
  intro h c₁ tk hk hS1;have hI:=hk _ _ (A5 hSI) r1;refine Z2 (h₁:=s.heap) (s:=s) hh hSI hSd (Ag hdI) hz (fun h' tk' acc c as kk hS' hl hG hacc=>hR h' tk' acc c as (fun b o nb e=>kk b o nb (Ag (AN e)) e) hS' hl hG hacc) es.size h tk c₁ #[] [] (BF _) ⟨_,_,_,_,hI,.inl ⟨rfl,rfl⟩⟩ (hD.at fun o e=>hk d o hSd (k1 d o e)) (fun b o nb _ e=>hk b o nb (k1 b o e)) hS1 rfl ⟨.nil,(fun _ z=>nomatch z),(fun j a z=>by simp at z)⟩ (AN hI)
 have hS1:=k1 _ _ hS;refine AB (Aw (kdx_hint (let ⟨o,ho,hc,_⟩:=hv; ⟨o,k1 _ _ ho,hc⟩) ?_));refine wpAny_ite_split (fun _=>?_) (fun _=>AE ⟨Bz BW _,key _ c₀ _ (fun b o _ e=>e) hS1⟩)
 (refine AB (wpAny_rule (AB ?_)); show wpAny _ _ (updateSeq S (·.push .none) >>= fun _=>updateSeq S (·.pop)) _ _ _; refine AB (wpAny_updateSeq hS1 rfl ?_))
 have hS2:=Bj (Obj.mapSeq (·.push Value.none)) hS1 rfl;refine wpAny_updateSeq (hz:=by seq_fits) hS2 rfl (AE ⟨Bz BW _,key _ _ _ (fun b o nb e=>?_) (Bj (Obj.mapSeq (·.pop)) hS2 rfl)⟩);exact(Bg _ _ (Ne.symm nb)).trans ((Bg _ _ (Ne.symm nb)).trans e)
theorem RawG.low {lo lo':Addr}{h:Heap}{as:List Addr}(g:RawG es lo h as)(hl:lo'<=lo):RawG es lo' h as:=⟨g.rise,fun a ha=>As hl (g.above a ha),g.pairs⟩
theorem tS {R:List Value->Shared->Prop}(hh:A.handled=none)(hv:s.heap.IsItemsView v d)(hD:RawD s.heap d es ep)(hz:es.size<=sizeLine)
  (hR:∀(h':Heap) (tk:Nat) (as:List Addr),(∀b o,s.heap.get? b=some o->h'.get? b=some o)->as.length=es.size->RawG es s.heap.objs.size h' as->R (as.map Value.ref) { s with heap:=h',toks:=tk }):wpAny (model prog w) A (collect (.ref v)) R E s:=by
 have hvl:v < s.heap.objs.size:=let ⟨_,ho,_⟩:=hv; AN ho
 have hdl:d < s.heap.objs.size:=let ⟨_,e,_⟩:=hD; AN e
 (unfold collect; refine AB (wpAny_runValue (BO entry_proto_collect' ?_)); rw[BD PySem.F.plain_proto_collect _])
 (show wpAny _ A.in1 (newList [] >>= fun l=>again (.builtin "list.__iadd__" ⟨[l,.ref v],[]⟩)) _ _ s; refine AB (Bk (AE ⟨Bz PySem.F.plain_list_iadd _,BO entry_list_iadd' ?_⟩)))
 rw[BD PySem.F.plain_list_iadd _];have up:∀b o,s.heap.get? b=some o->(s.heap.push { cls:=.type "list",data:=.seq ([]:List Value).toArray }).get? b=some o:=fun b o e=>AF _ e;have hS1:(s.heap.push { cls:=.type "list",data:=.seq ([]:List Value).toArray }).get? s.heap.objs.size=some { cls:=.type "list",data:=.seq #[] }:=Aa _ rfl;show wpAny _ A.in1 (Builtin.List.listExtendWith (.ref s.heap.objs.size) (.ref v) (.ref s.heap.objs.size)) _ _ _
 have key:=jA (prog:=prog) (w:=w) (A:=A) (s:={ s with heap:=s.heap.push { cls:=.type "list",data:=.seq ([]:List Value).toArray } }) (es:=es) (ep:=ep) (res:=.ref s.heap.objs.size)
  (R:=fun(q:Result) (s':Shared)=>∃(h':Heap) (tk:Nat) (acc:Array Value) (c:Nat) (as:List Addr),q=.ok (.ret (.ref s.heap.objs.size))/\s'={ s with heap:=h',toks:=tk }/\(∀b o,s.heap.get? b=some o->h'.get? b=some o)/\h'.get? s.heap.objs.size=some { cls:=.type "list",dict:=none,data:=.seq acc c,slots:=#[] }/\as.length=es.size/\RawG es s.heap.objs.size h' as/\acc.toList=as.map Value.ref)
  hh (let ⟨o,ho,x⟩:=hv; ⟨o,up _ _ ho,x⟩) (hD.at fun o e=>up d o e) (A5 hvl) (Ag hdl) hS1 hz fun h' tk acc c as hk hS' hl hG hacc=>⟨h',tk,acc,c,as,rfl,rfl,fun b o e=>hk b o (Ag (AN e)) (up b o e),hS',hl,hG.low (by show s.heap.objs.size<=(s.heap.push _).objs.size; rw[BU]; exact CD _),hacc⟩
 refine BH key (fun fin s' x=>?_) fun e s' x=>?_
 .have last:∀(h':Heap) (tk:Nat) (acc:Array Value) (c:Nat) (as:List Addr),(∀b o,s.heap.get? b=some o->h'.get? b=some o)->h'.get? s.heap.objs.size=some { cls:=.type "list",dict:=none,data:=.seq acc c,slots:=#[] }->as.length=es.size->RawG es s.heap.objs.size h' as->acc.toList=as.map Value.ref->R acc.toList { s with heap:=h',toks:=tk }:=fun h' tk acc c as y1 _ y3 y4 y5=>by
   rw[y5]; exact hR h' tk as y1 y3 y4
  cases fin with
  |done f =>
   obtain⟨h',tk,acc,c,as,e,rfl,y1,y2,y3,y4,y5⟩:=x;cases e
   (show wpAny _ A (load s.heap.objs.size >>= _) _ _ _; exact AB (wpAny_load y2 (AE (last h' tk acc c as y1 y2 y3 y4 y5))))
  |again c1 =>
   refine⟨x.1,CQ x.2 ?_⟩;rintro q s2 ⟨h',tk,acc,c,as,rfl,rfl,y1,y2,y3,y4,y5⟩
   (show wpAny _ A (load s.heap.objs.size >>= _) _ _ _; exact AB (wpAny_load y2 (AE (last h' tk acc c as y1 y2 y3 y4 y5))))
 .obtain ⟨_,_,_,_,_,z,_⟩:=x
  cases z
end
end PySem.W
namespace L2
open PySem PySem.W PyProof.Rows
section
variable {α:Type}{as:List Addr}{ps:List α}
theorem zip_at (nd:as.Nodup){j:Nat}{a:Addr}{p:α}(ha:as[j]?=some a)(hp:ps[j]?=some p):(as.zip ps).find? (fun q=>q.1==a)=some (a,p):=by
 induction as generalizing ps j with
 |nil=>cases ha
 |cons x as ih =>
  cases ps with
  |nil=>cases hp
  |cons y ps =>
   have nd:=Am.mp nd;rw[CY,Ap]
   cases j with
   |zero=>cases ha; cases hp; simp
   |succ j =>
    have ha:as[j]?=some a:=ha;rw[show(x==a)=false from Cv fun e=>nd.1 (e▸Al ha)];exact ih nd.2 ha hp
theorem zip_of {b:Addr}{q:Addr×α}(h:(as.zip ps).find? (fun q=>q.1==b)=some q):∃j:Nat,as[j]?=some b/\ps[j]?=some q.2:=by
 have h0:=List.find?_some h;have h1:q.1=b:=eq_of_beq h0;obtain⟨j,hj⟩:=B4.mp (BX h);rw[List.getElem?_zip_eq_some] at hj;exact⟨j,by rw[<- h1]; exact hj.1,hj.2⟩
end
inductive TPs (H:Hp):List Addr->List (List Key×V)->Prop
 |nil:TPs H [] []
 |cons {a b:Addr} {k:List Key} {v:V} {as:List Addr} {kvs:List (List Key×V)} (h1:H a=some (.tup [.ref b,v])) (h2:H b=some (.tup (k.map kV))) (r:TPs H as kvs):TPs H (a::as) ((k,v)::kvs)
noncomputable def mkT (as:List Addr)(ps:List (Addr×V)):Addr->Option (List V):=fun b=>((as.zip ps).find? fun p=>p.1==b).map fun p=>[.ref p.2.1,p.2.2]
theorem ZK {H:Hp}:∀{as:List Addr}{kvs:List (List Key×V)},as.length=kvs.length->(∀(j:Nat) (a:Addr) (p:List Key×V),as[j]?=some a->kvs[j]?=some p->∃b,H a=some (.tup [.ref b,p.2])/\H b=some (.tup (p.1.map kV)))->TPs H as kvs
 |[],[],_,_=>.nil
 |[],_::_,h,_=>nomatch h
 |_::_,[],h,_=>nomatch h
 |a::as,p::kvs,h,k=>let ⟨b,e1,e2⟩:=k 0 a p rfl rfl; .cons e1 e2 (ZK (At h) fun j a' p' h1 h2=>k (j+1) a' p' h1 h2)
theorem kt_raw {H:Hp}{kvs:List (List Key×V)}{xs:List (List Key×Addr×Value)}(r:KT H kvs xs):∃ps:List (Addr×V),ps.length=kvs.length/\∀j:Nat,∀p∈ps[j]?,∃k u,kvs[j]?=some (k,p.2)/\xs[j]?=some (k,p.1,u)/\H p.1=some (.tup (k.map kV))/\RelV p.2 u:=by
 induction r with
 |nil=>exact⟨[],rfl,fun j p h=>by cases h⟩
 |@cons p q l1 l2 h r ih =>
  obtain⟨ps,e,f⟩:=ih;obtain⟨k,v⟩:=p;obtain⟨k',b,u⟩:=q;obtain⟨z1,z2,z3⟩:=h;cases (show k=k' from z1);refine⟨(b,v)::ps,by rw[AI,AI,e],fun j p hp=>?_⟩
  cases j with
  |zero=>cases hp; exact⟨k,u,rfl,rfl,z2,z3⟩
  |succ j=>exact f j p hp
section
variable {X:Cx}
theorem kO {prog:Program}{w:World}(d:Addr)(hd:(d==sysModules)=false):MeetsIn prog w (Builtin.«dict.items» ⟨[.ref d],[]⟩) (fun _ R s=>s.TypeIs (.ref d) "dict"/\R (.ok (.ret (.ref s.heap.objs.size))) { s with heap:=s.heap.push { cls:=.type "dict_items",data:=.fields #[.ref d] } }) :=
 .of_wp fun A R s ⟨hT,h⟩=>by
  (unfold Builtin.«dict.items»; refine AB ?_; unfold Builtin.Dict.noArgs; refine AB (wpAny_notOrdered_dict hT ?_))
  (show wpAny _ _ (pure d) _ _ s; refine AE ?_; show wpAny _ _ (Builtin.Dict.showsAll d >>= _) _ _ s; unfold Builtin.Dict.showsAll)
  (rw[AT (by rw[hd]; exact AL)]; exact AB (AE (AB (Bk (AE ⟨_,rfl,h⟩)))))
def rItemsT:V->List V->Hp->VK->Prop:=fun x vs H Q=>∃d kvs,x=.ref d/\vs=[]/\H d=some (.dT kvs)/\∀v,H v=none->Q (.ref v) (upd H v (.ext (wV v d)))
theorem XU:MtR X "dict.items" rItemsT:=by
 intro pins s σ H x xs v us Q I rx rv h;obtain⟨d,kvs,rfl,rfl,hd,q⟩:=h;cases (show v=Value.ref d from rx);cases rv;obtain⟨z,hS,ys,rel,dd⟩:=KG I.hok hd;refine call_meetsIn F.slot_dict_items dd.typeIs F.entry_dict_items (F.args_dict_items_1 _) (kO d hS) ⟨dd.typeIs,?_⟩;refine⟨.ref s.heap.objs.size,_,I.laid (t':=s.toks) (o:=.ext (wV s.heap.objs.size d)) (fun b o e=>AF _ e) (AJ _) ⟨⟨_,Aa _ rfl,rfl,rfl⟩,⟨_,Aa _ rfl⟩,?_⟩,rfl,q _ (I.hok.fresh (AJ _))⟩
 rintro h1 h2 ⟨o,e1,e2⟩ e;exact⟨o,e o e1,e2⟩
theorem fR (hc:X.calm=true):CallR X (.builtin "sorted") (fun xs H Q=>∃v d kvs lt,xs=[.ref v]/\H v=some (.ext (wV v d))/\H d=some (.dT kvs)/\kvs.length < 64 /\
  ∀as H1,Same H H1->TPs H1 as kvs->(∀a∈as,H a=none)->(∀a,H a=none->H1 a≠none->a∈as)->Srt X H1 (List.map V.ref as) lt/\∀p,H1 p=none->Q (.ref p) (upd H1 p (.lst (rG lt (List.map V.ref as))))):=by
 intro pins s σ H xs us Q I r h;obtain⟨v,d,kvs,lt,rfl,hv,hd,h64,hq⟩:=h;obtain⟨u,rfl,ru⟩:=r.one;cases ru;obtain⟨z,hS,ys,rel,dd⟩:=KG I.hok hd;obtain⟨hview,_,_⟩:=(show ObjOk X.prog X.w H s.heap v (.ext (wV v d)) from I.hok v _ hv);obtain⟨od,es,ep,d1,d2,d3,d4,_,_⟩:=dd;obtain⟨ps,pl,pf⟩:=kt_raw rel;have hl:kvs.length=ys.length:=Paired.length rel;have hes:es.size=kvs.length:=by rw[size_of_entries d4,hl]
 refine Bu kind_sorted plain_sorted entry_sorted (args_sorted1 _) (?_:wpAny _ _ (Builtin.«sorted» _) _ _ _);unfold Builtin.«sorted»;refine AB (m:=checkCount "sorted" 1 1 _) (AE (AB (tS (by simp[I.ok.hd hc]) hview ⟨od,d1,d2,d3⟩ (by rw[hes]; exact z) fun h' tk as keep hlen G=>?_)));have nd:as.Nodup:=G.rise.imp fun h=>Ag h;have hlen':as.length=kvs.length:=hlen.trans hes
 have up:∀a∈as,s.heap.objs.size<=a:=fun a ha=>Ct (G.above a ha)
 have inv:∀b xs,mkT as ps b=some xs->∃(j:Nat) (p:Addr×V),as[j]?=some b/\ps[j]?=some p/\xs=[.ref p.1,p.2]:=fun b xs e=>by
  unfold mkT at e
  cases y:(as.zip ps).find? fun p=>p.1==b with
  |none=>rw[y] at e; cases e
  |some q =>
   rw[y] at e;cases e;obtain⟨j,e1,e2⟩:=zip_of y;exact⟨j,q.2,e1,e2,rfl⟩
 have I1:Inv X pins σ (qH H (mkT as ps)) { s with heap:=h',toks:=tk }:=I.tups keep fun b xs e=>by
  obtain⟨j,p,e1,e2,rfl⟩:=inv b xs e;obtain⟨k,u,f1,f2,f3,f4⟩:=pf j p e2;obtain⟨en,g1,g2⟩:=G.pairs j b e1;have g3:es[j]?=some (entryOfKey (tupleKind (qX X.prog X.w)) (k,p.1,u)):=by rw[entry_at d4,f2]; rfl
  rw[g3] at g1;cases g1;exact⟨up b (Al e1),zz 2 rfl,[.ref p.1,u],.cons rfl (.cons f4 .nil),⟨_,g2,rfl,⟨_,rfl⟩,rfl⟩⟩
 have fr:∀b xs,mkT as ps b=some xs->H b=none:=fun b xs e=>by
  obtain⟨j,p,e1,_⟩:=inv b xs e;exact I.hok.fresh (up b (Al e1))
 obtain⟨hs,q⟩:=hq as (qH H (mkT as ps)) (fun b o e=>sJ fr e) (ZK hlen' fun j a p h1 h2=>by
   obtain⟨p',hp'⟩:∃p',ps[j]?=some p':=⟨ps[j]'(by rw[pl]; exact(AU.1 h2).1),AM _⟩;obtain⟨k,u,f1,f2,f3,f4⟩:=pf j p' hp';rw[h2] at f1;cases f1
   exact⟨p'.1,eM (by unfold mkT; rw[zip_at nd h1 hp']; rfl),sJ fr f3⟩) (fun a ha=>I.hok.fresh (up a ha)) fun a n1 n2=>by
  cases y:mkT as ps a with
  |none=>rw[qY y] at n2; exact absurd n1 n2
  |some xs=>obtain⟨j,p,e1,_⟩:=inv a xs y; exact Al e1
 have rv:Vals (as.map V.ref) (as.map Value.ref):=by
  clear nd hlen' up I1 fr hs q hlen G hq inv
  induction as with
  |nil=>exact .nil
  |cons a as ih=>exact .cons rfl ih
 exact mF (AJ _) I1 rv (by rw[AA]; omega) hs fun p s' hp I'=>⟨_,rfl,.ref p,_,I',rfl,q p hp⟩
end
end L2
namespace L2
open PySem PySem.W PySem.Spec PyProof.Rows
section
variable {X:Cx}
def cntK (k:Key)(ks:List Key):Nat:=ks.countP fun j=>decide (j=k)
end
end L2
namespace CL
open PySem PySem.Spec L2
open PyProof.Rows hiding St
inductive PV where
 |non | bl (b:Bool) | int (i:Int) | str (x:Str) | ty (n:String) | tup (xs:List PV) | kt (xs:List PV) | fz (xs:List PV) | vw (d:Addr) | ref (a:Addr)
def imm:HO->Bool
 |.tup _=>true
 |.frz _ (.dK _)=>false
 |.frz _ (.dT _)=>false
 |.frz _ _=>true
 |.ext _=>true
 |_=>false
def Imm (H H':Hp):Prop:=∀a o,imm o=true->H a=some o->H' a=some o
theorem Imm.new {H:Hp}{p:Addr}(hp:H p=none)(o:HO):Imm H (upd H p o):=fun a u _ e=>by
 rw[nQ (qJ e hp)]; exact e
theorem Imm.mut {H:Hp}{p:Addr}{u:HO}(hp:H p=some u)(hu:imm u=false)(o:HO):Imm H (upd H p o):=fun a v i e=>by
 have:a≠p:=by
  intro z; subst z; rw[hp] at e; cases e; rw[hu] at i; cases i
 rw[nQ this]; exact e
def Fz (K:DK)(H:Hp)(a:Addr)(xs:List V):Prop :=
 (∃o,H a=some (.frz o (.lst xs))) \/
  ∃(o:Obj) (its:Array Value) (n:Nat),K.lookup a=some o/\o.cls=.type "list"/\o.dict=none/\o.data=.seq its n/\its.size<=sizeLine/\Vals xs its.toList
theorem Fz.sq {K:DK}{H:Hp}{a:Addr}{xs:List V}(h:Fz K H a xs):SqL K H a xs:=by
 rcases h with ⟨o,h⟩ | h
 .exact .inl (.inr ⟨o,h⟩)
 .exact .inr h
theorem Fz.imm {K:DK}{H H':Hp}{a:Addr}{xs:List V}(h:Fz K H a xs)(k:Imm H H'):Fz K H' a xs:=by
 rcases h with ⟨o,h⟩ | h
 .exact .inl ⟨o,k _ _ rfl h⟩
 .exact .inr h
theorem SqT.imm {K:DK}{H H':Hp}{a:Addr}{xs:List V}(h:SqT K H a xs)(k:Imm H H'):SqT K H' a xs:=by
 rcases h with (h | ⟨o,h⟩) | h
 .exact .inl (.inl (k _ _ rfl h))
 .exact .inl (.inr ⟨o,k _ _ rfl h⟩)
 .exact .inr h
mutual
inductive Rep (K:DK)(H:Hp):V->PV->Prop
 |non:Rep K H .non .non
 |bl (b:Bool):Rep K H (.bl b) (.bl b)
 |int (i:Int):Rep K H (.int i) (.int i)
 |str (x:Str):Rep K H (.str x) (.str x)
 |ty (n:String):Rep K H (.ty n) (.ty n)
 |ref (a:Addr):Rep K H (.ref a) (.ref a)
 |tup {a:Addr} {vs:List V} {ts:List PV} (h:H a=some (.tup vs)) (r:Reps K H vs ts):Rep K H (.ref a) (.tup ts)
 |kt {a:Addr} {vs:List V} {ts:List PV} (h:SqT K H a vs) (r:Reps K H vs ts):Rep K H (.ref a) (.kt ts)
 |fz {a:Addr} {vs:List V} {ts:List PV} (h:Fz K H a vs) (r:Reps K H vs ts):Rep K H (.ref a) (.fz ts)
 |vw {a d:Addr} (h:H a=some (.ext (wV a d))):Rep K H (.ref a) (.vw d)
inductive Reps (K:DK)(H:Hp):List V->List PV->Prop
 |nil:Reps K H [] []
 |cons {v:V} {t:PV} {vs:List V} {ts:List PV} (h:Rep K H v t) (r:Reps K H vs ts):Reps K H (v::vs) (t::ts)
end
section
variable {K:DK}{H H' H1 H2:Hp}
mutual
theorem Rep.imm {v:V}{t:PV}(k:Imm H H'):Rep K H v t->Rep K H' v t
 |.non=>.non
 |.bl b=>.bl b
 |.int i=>.int i
 |.str x=>.str x
 |.ty n=>.ty n
 |.ref a=>.ref a
 |.tup h r=>.tup (k _ _ rfl h) (Reps.imm k r)
 |.kt h r=>.kt (SqT.imm h k) (Reps.imm k r)
 |.fz h r=>.fz (Fz.imm h k) (Reps.imm k r)
 |.vw h=>.vw (k _ _ rfl h)
theorem Reps.imm {vs:List V}{ts:List PV}(k:Imm H H'):Reps K H vs ts->Reps K H' vs ts
 |.nil=>.nil
 |.cons h r=>.cons (Rep.imm k h) (Reps.imm k r)
end
theorem Reps.len {vs:List V}{ts:List PV}:Reps K H vs ts->vs.length=ts.length
 |.nil=>rfl
 |.cons _ r=>BE (· + 1) r.len
theorem Reps.get {vs:List V}{ts:List PV}{i:Nat}{t:PV}:Reps K H vs ts->ts[i]?=some t->∃v,vs[i]?=some v/\Rep K H v t
 |.nil,e=>by cases e
 |.cons h r,e=>by
  cases i with
  |zero=>cases e; exact⟨_,rfl,h⟩
  |succ i=>exact r.get (i:=i) e
theorem Reps.append {vs us:List V}{ts ss:List PV}:Reps K H vs ts->Reps K H us ss->Reps K H (vs++us) (ts++ss)
 |.nil,r=>r
 |.cons h t,r=>.cons h (t.append r)
theorem Reps.take {vs:List V}{ts:List PV}:∀(n:Nat),Reps K H vs ts->Reps K H (vs.take n) (ts.take n)
 |0,_=>.nil
 |_+1,.nil=>.nil
 |n+1,.cons h r=>.cons h (r.take n)
theorem Reps.drop {vs:List V}{ts:List PV}:∀(n:Nat),Reps K H vs ts->Reps K H (vs.drop n) (ts.drop n)
 |0,r=>r
 |_+1,.nil=>.nil
 |n+1,.cons _ r=>r.drop n
theorem Reps.set {vs:List V}{ts:List PV}{v:V}{t:PV}(h:Rep K H v t):∀(n:Nat),Reps K H vs ts->Reps K H (vs.set n v) (ts.set n t)
 |_,.nil=>.nil
 |0,.cons _ r=>.cons h r
 |n+1,.cons g r=>.cons g (r.set h n)
theorem Reps.reverse {vs:List V}{ts:List PV}(r:Reps K H vs ts):Reps K H vs.reverse ts.reverse:=by
 induction vs generalizing ts with
 |nil=>cases r; exact .nil
 |cons v vs ih =>
  cases r with
  |cons h r=>rw[Ch,Ch]; exact(ih r).append (.cons h .nil)
end
inductive CO where
 |lst (xs:List PV)
 |dK (kvs:List (Key×PV))
 |fK (kvs:List (Key×PV))
 |dT (kvs:List (List Key×PV))
 |fT (kvs:List (List Key×PV))
 |dP (kvs:List (List (List Key)×PV))
 |ins (c dx:Addr) (fs:List (Str×PV))
abbrev CH:=Addr->Option CO
def uQ (C:CH)(a:Addr)(o:CO):CH:=fun b=>if b=a then some o else C b
theorem jQ {C:CH}{a:Addr}{o:CO}:uQ C a o a=some o:=AW rfl
theorem wQ {C:CH}{a b:Addr}{o:CO}(h:b≠a):uQ C a o b=C b:=AT h
abbrev FP {κ:Type}(K:DK)(H:Hp):List (κ×V)->List (κ×PV)->Prop:=Paired fun p q=>p.1=q.1/\Rep K H p.2 q.2
abbrev KP (K:DK)(H:Hp):List (Key×V)->List (Key×PV)->Prop:=Paired fun p q=>p.1=q.1/\Rep K H p.2 q.2
def ORel (K:DK)(H:Hp)(a:Addr):CO->Prop
 |.lst ts=>∃vs,H a=some (.lst vs)/\Reps K H vs ts
 |.dK kvs=>∃vs,H a=some (.dK vs)/\KP K H vs kvs
 |.fK kvs=>∃o vs,H a=some (.frz o (.dK vs))/\KP K H vs kvs
 |.dT kvs=>∃vs,H a=some (.dT vs)/\FP K H vs kvs
 |.fT kvs=>∃o vs,H a=some (.frz o (.dT vs))/\FP K H vs kvs
 |.dP kvs=>∃vs,H a=some (.dP vs)/\FP K H vs kvs
 |.ins c dx fs=>∃gs,H a=some (.ins c dx gs)/\FP K H gs fs
def HRel (K:DK)(H:Hp)(C:CH):Prop:=∀a o,C a=some o->ORel K H a o
def Qw:Option CO->Bool
 |none=>true
 |some (.fK _)=>true
 |some (.fT _)=>true
 |_=>false
def Fw (H:Hp)(C:CH)(H':Hp)(C':CH):Prop:=∀a,Qw (C a)=true->H a≠none->C' a=C a/\H' a=H a
section
variable {K:DK}{H H' H1 H2:Hp}{C C' C1 C2:CH}
theorem Fw.refl:Fw H C H C:=fun _ _ _=>⟨rfl,rfl⟩
theorem Fw.trans (f:Fw H C H1 C1)(g:Fw H1 C1 H2 C2):Fw H C H2 C2:=fun a h n=>by
 obtain⟨c,e⟩:=f a h n;obtain⟨c',e'⟩:=g a (by rw[c]; exact h) (by rw[e]; exact n);exact⟨c'.trans c,e'.trans e⟩
theorem ORel.mut {a:Addr}{o:CO}(h:ORel K H a o):∃u,H a=some u/\imm u=false:=by
 cases o with
 |lst ts=>obtain⟨vs,e,_⟩:=h; exact⟨_,e,rfl⟩
 |dK ts=>obtain⟨vs,e,_⟩:=h; exact⟨_,e,rfl⟩
 |fK ts=>obtain⟨o,vs,e,_⟩:=h; exact⟨_,e,rfl⟩
 |dT ts=>obtain⟨vs,e,_⟩:=h; exact⟨_,e,rfl⟩
 |fT ts=>obtain⟨o,vs,e,_⟩:=h; exact⟨_,e,rfl⟩
 |dP ts=>obtain⟨vs,e,_⟩:=h; exact⟨_,e,rfl⟩
 |ins c dx fs=>obtain⟨vs,e,_⟩:=h; exact⟨_,e,rfl⟩
theorem HRel.hid (h:HRel K H C){a:Addr}{o:HO}(i:imm o=true)(e:H a=some o):C a=none:=by
 cases c:C a with
 |none=>rfl
 |some u =>
  obtain⟨v,e',i'⟩:=(h a u c).mut;rw[e] at e'; cases e'; rw[i] at i'; cases i'
theorem HRel.fresh (h:HRel K H C){a:Addr}(e:H a=none):C a=none:=by
 cases c:C a with
 |none=>rfl
 |some u =>
  obtain⟨v,e',i'⟩:=(h a u c).mut;rw[e] at e'; cases e'
theorem Fw.imm (f:Fw H C H' C')(h:HRel K H C):Imm H H':=fun a o i e=>by
 rw[(f a (by rw[h.hid i e]; rfl) (by rw[e]; exact fun z=>nomatch z)).2]; exact e
theorem ORel.imm {a:Addr}{o:CO}(h:ORel K H a o)(k:Imm H H')(e:H' a=H a):ORel K H' a o:=by
 cases o with
 |lst ts=>obtain⟨vs,q,r⟩:=h; exact⟨vs,e.trans q,r.imm k⟩
 |dK ts=>obtain⟨vs,q,r⟩:=h; exact⟨vs,e.trans q,Paired.mapP r fun _ _ z=>⟨z.1,z.2.imm k⟩⟩
 |fK ts=>obtain⟨o,vs,q,r⟩:=h; exact⟨o,vs,e.trans q,Paired.mapP r fun _ _ z=>⟨z.1,z.2.imm k⟩⟩
 |dT ts=>obtain⟨vs,q,r⟩:=h; exact⟨vs,e.trans q,Paired.mapP r fun _ _ z=>⟨z.1,z.2.imm k⟩⟩
 |fT ts=>obtain⟨o,vs,q,r⟩:=h; exact⟨o,vs,e.trans q,Paired.mapP r fun _ _ z=>⟨z.1,z.2.imm k⟩⟩
 |dP ts=>obtain⟨vs,q,r⟩:=h; exact⟨vs,e.trans q,Paired.mapP r fun _ _ z=>⟨z.1,z.2.imm k⟩⟩
 |ins c dx fs=>obtain⟨vs,q,r⟩:=h; exact⟨vs,e.trans q,Paired.mapP r fun _ _ z=>⟨z.1,z.2.imm k⟩⟩
theorem HRel.new (h:HRel K H C){p:Addr}(hp:H p=none)(o:HO):HRel K (upd H p o) C:=fun a u c=>by
 obtain⟨v,e,_⟩:=(h a u c).mut;exact(h a u c).imm (Imm.new hp o) (nQ (qJ e hp))
theorem Fw.new {p:Addr}(hp:H p=none)(o:HO):Fw H C (upd H p o) C:=fun a c n=>⟨rfl,nQ fun z=>n (z▸hp)⟩
theorem HRel.lay (h:HRel K H C){p:Addr}(hp:H p=none){o:HO}{u:CO}(r:ORel K (upd H p o) p u):HRel K (upd H p o) (uQ C p u):=fun a v c=>by
 by_cases e:a=p
 .subst e; rw[jQ] at c; cases c; exact r
 .rw [wQ e] at c; exact h.new hp o a v c
theorem Fw.lay {p:Addr}(hp:H p=none)(o:HO)(u:CO):Fw H C (upd H p o) (uQ C p u):=fun a c n=>by
 have e:a≠p:=fun z=>n (z▸hp);exact⟨wQ e,nQ e⟩
theorem HRel.put (h:HRel K H C){p:Addr}{o₀:HO}(hp:H p=some o₀)(hi:imm o₀=false){o:HO}{u:CO}(r:ORel K (upd H p o) p u):HRel K (upd H p o) (uQ C p u):=fun a v c=>by
 by_cases e:a=p
 .subst e; rw[jQ] at c; cases c; exact r
 .rw [wQ e] at c; exact(h a v c).imm (Imm.mut hp hi o) (nQ e)
theorem Fw.put {p:Addr}{u₀:CO}(hp:C p=some u₀)(o:HO)(u:CO)(hs:Qw (some u₀)=false:=by rfl):Fw H C (upd H p o) (uQ C p u):=fun a c n=>by
 have e:a≠p:=fun z=>by subst z; rw[hp,hs] at c; cases c
 exact⟨wQ e,nQ e⟩
end
abbrev CSt:=List (Option PV)
abbrev K1:=PV->CH->Prop
def RepO (K:DK)(H:Hp):Option V->Option PV->Prop
 |_,none=>True
 |some v,some t=>Rep K H v t
 |none,some _=>False
def SRel (K:DK)(H:Hp):St->CSt->Prop:=Paired (RepO K H)
section
variable {K:DK}{H H':Hp}{C C':CH}
theorem RepO.imm {v:Option V}{t:Option PV}(k:Imm H H')(h:RepO K H v t):RepO K H' v t:=by
 cases t with
 |none=>cases v<;>trivial
 |some t=>cases v with
  |none=>exact h
  |some v=>exact Rep.imm k h
theorem SRel.imm {σ:St}{ρ:CSt}(s:SRel K H σ ρ)(k:Imm H H'):SRel K H' σ ρ:=Paired.mapP s fun _ _=>RepO.imm k
theorem SRel.get {σ:St}{ρ:CSt}{i:Nat}{t:PV}(s:SRel K H σ ρ)(e:ρ[i]?=some (some t)):∃v,σ[i]?=some (some v)/\Rep K H v t:=by
 induction s generalizing i with
 |nil=>cases e
 |@cons a b l₁ l₂ h r ih =>
  cases i with
  |zero =>
   cases e
   cases a with
   |none=>exact h.elim
   |some v=>exact⟨v,rfl,h⟩
  |succ i=>exact ih (i:=i) e
theorem SRel.set {σ:St}{ρ:CSt}{v:V}{t:PV}(s:SRel K H σ ρ)(h:Rep K H v t)(i:Nat):SRel K H (σ.set i (some v)) (ρ.set i (some t)):=by
 induction s generalizing i with
 |nil=>exact .nil
 |cons h' r ih =>
  cases i with
  |zero=>exact .cons h r
  |succ i=>exact .cons h' (ih i)
end
def sZ {α β:Type}(K:DK)(rel:Hp->α->β->Prop)(c:CSt->CH->(β->CH->Prop)->Prop):St->Hp->(α->Hp->Prop)->Prop:=fun σ H Q =>
 ∃ρ C R,SRel K H σ ρ/\HRel K H C/\c ρ C R/\∀v H' t C',R t C'->rel H' v t->HRel K H' C'->Fw H C H' C'->Q v H'
abbrev TCE:=CSt->CH->K1->Prop
abbrev TCT:=CSt->CH->(Bool->CH->Prop)->Prop
abbrev TCA:=CSt->CH->(List PV->CH->Prop)->Prop
abbrev sB:Hp->Bool->Bool->Prop:=fun _ a b=>a=b
structure mY where
 nx:CSt->CH->Prop
 rt:K1
 bk:CSt->CH->Prop:=fun _ _=>False
 ct:CSt->CH->Prop:=fun _ _=>False
abbrev TCS:=mY->CSt->CH->Prop
structure ERel (K:DK)(H:Hp)(C:CH)(E:mY)(D:cE):Prop where
 nx:∀σ' H' ρ' C',E.nx ρ' C'->SRel K H' σ' ρ'->HRel K H' C'->Fw H C H' C'->D.nx σ' H'
 rt:∀v H' t C',E.rt t C'->Rep K H' v t->HRel K H' C'->Fw H C H' C'->D.rt v H'
 bk:∀σ' H' ρ' C',E.bk ρ' C'->SRel K H' σ' ρ'->HRel K H' C'->Fw H C H' C'->D.bk σ' H'
 ct:∀σ' H' ρ' C',E.ct ρ' C'->SRel K H' σ' ρ'->HRel K H' C'->Fw H C H' C'->D.ct σ' H'
theorem ERel.fw {K:DK}{H H1:Hp}{C C1:CH}{E:mY}{D:cE}(e:ERel K H C E D)(f:Fw H C H1 C1):ERel K H1 C1 E D :=
 ⟨fun σ' H' ρ' C' h s r g=>e.nx σ' H' ρ' C' h s r (f.trans g),fun v H' t C' h s r g=>e.rt v H' t C' h s r (f.trans g),fun σ' H' ρ' C' h s r g=>e.bk σ' H' ρ' C' h s r (f.trans g),fun σ' H' ρ' C' h s r g=>e.ct σ' H' ρ' C' h s r (f.trans g)⟩
def JX (K:DK)(c:TCS):TS:=fun D σ H=>∃ρ C E,SRel K H σ ρ/\HRel K H C/\c E ρ C/\ERel K H C E D
structure CE (X:Cx)(e:Expr)(c:TCE):Prop where
 h:JE X e (sZ X.K (Rep X.K) c)
structure CT (X:Cx)(e:Expr)(c:TCT):Prop where
 h:JT X e (sZ X.K sB c)
structure CW (X:Cx)(e:Expr)(c:TCT):Prop where
 h:JW X e (sZ X.K sB c)
structure CA (X:Cx)(es:List Expr)(c:TCA):Prop where
 h:JA X es (sZ X.K (Reps X.K) c)
structure CS (X:Cx)(st:Stmt)(c:TCS):Prop where
 h:JS X st (JX X.K c)
structure CB (X:Cx)(st:List Stmt)(c:TCS):Prop where
 h:JB X st (JX X.K c)
section
variable {X:Cx}{a b c e o i:Expr}{es:List Expr}{pos:Pos}{rest:List Expr}{st:Stmt}{sts:List Stmt}
theorem JE.weak {t t':TE}(h:JE X e t)(w:∀σ H Q,t' σ H Q->t σ H Q):JE X e t':=⟨fun pins s σ H Q I q=>h.h pins s σ H Q I (w σ H Q q)⟩
theorem JT.weak {t t':TT}(h:JT X e t)(w:∀σ H Q,t' σ H Q->t σ H Q):JT X e t':=⟨fun pins s σ H Q I q=>h.h pins s σ H Q I (w σ H Q q)⟩
theorem JW.weak {t t':TT}(h:JW X e t)(w:∀σ H Q,t' σ H Q->t σ H Q):JW X e t':=⟨fun wh pins s σ H Q I q=>h.h wh pins s σ H Q I (w σ H Q q)⟩
theorem JA.weak {t t':TA}(h:JA X es t)(w:∀σ H Q,t' σ H Q->t σ H Q):JA X es t':=⟨fun p pins s σ H Q I q=>h.h p pins s σ H Q I (w σ H Q q)⟩
theorem JS.weak {t t':TS}(h:JS X st t)(w:∀D σ H,t' D σ H->t D σ H):JS X st t':=⟨fun pins s σ H D I q=>h.h pins s σ H D I (w D σ H q)⟩
theorem JB.weak {t t':TS}(h:JB X sts t)(w:∀D σ H,t' D σ H->t D σ H):JB X sts t':=⟨fun pins s σ H D I q=>h.h pins s σ H D I (w D σ H q)⟩
def rZ (i:Nat):TCE:=fun ρ C Q=>match ρ[i]? with
 |some (some t)=>Q t C
 |_=>False
def cC (t:PV):TCE:=fun _ C Q=>Q t C
theorem cv (i:Nat){x:Str}{pos:Pos}(hN:X.N[i]?=some x:=by rfl)(hv:Vis X.env.scope x:=by first | exact Or.inl rfl | exact Or.inr (Or.inl rfl) | exact Or.inr (Or.inr rfl))(hd:(x==("__debug__" : Str))=false:=by decide)
  (hcd:(x==("__classdict__" : Str))=false:=by decide):CE X (.Name x pos) (rZ i):=⟨JE.weak (jv i hN hv hd hcd) fun σ H Q ⟨ρ,C,R,s,h,q,f⟩=>by
 unfold rZ at q
 split at q
 .next t e =>
  obtain⟨v,ev,r⟩:=s.get e;exact⟨v,ev,f v H t C q r h Fw.refl⟩
 .exact q.elim⟩
theorem Vc {v:V}{t:PV}(h:JE X e (tC v))(r:∀H,Rep X.K H v t):CE X e (cC t):=⟨JE.weak h fun σ H Q ⟨ρ,C,R,s,h,q,f⟩=>f v H t C q (r H) h Fw.refl⟩
theorem zQ {i j pos}:CE X (.Constant (.int i) j pos) (cC (.int i)):=Vc je_int fun _=>.int i
theorem Xa {b j pos}:CE X (.Constant (.bool b) j pos) (cC (.bl b)):=Vc je_bl fun _=>.bl b
theorem uP {j pos}:CE X (.Constant .none j pos) (cC .non):=Vc je_non fun _=>.non
theorem vQ {x j pos}:CE X (.Constant (.str x) j pos) (cC (.str x)):=Vc je_str fun _=>.str x
theorem bD {x:Str}{v:V}{u:Value}{t:PV}(hg:Gl X x)(hm:X.mg x=some u)(r:RelV v u)(q:∀H,Rep X.K H v t)(hd:(x==("__debug__" : Str))=false:=by decide):CE X (.Name x pos) (cC t):=Vc (je_glob hg hm r hd) q
abbrev R2C:=PV->PV->CH->K1->Prop
def Cop (K:DK)(r:R2)(cr:R2C):Prop:=∀x y px py H C Q R,Rep K H x px->Rep K H y py->HRel K H C->cr px py C R->(∀v H' t C',R t C'->Rep K H' v t->HRel K H' C'->Fw H C H' C'->Q v H')->r x y H Q
def cOp (cr:R2C)(ca cb:TCE):TCE:=fun ρ C Q=>ca ρ C fun x C1=>cb ρ C1 fun y C2=>cr x y C2 Q
theorem kD {K:DK}{r:R2}{cr:R2C}{ca cb:TCE}(hr:Cop K r cr){σ:St}{H:Hp}{Q:VK}(h:sZ K (Rep K) (cOp cr ca cb) σ H Q):tOp r (sZ K (Rep K) ca) (sZ K (Rep K) cb) σ H Q:=by
 obtain⟨ρ,C,R,s,h,q,f⟩:=h
 exact⟨ρ,C,_,s,h,q,fun x H1 px C1 q1 rx h1 f1=>⟨ρ,C1,_,s.imm (f1.imm h),h1,q1,fun y H2 py C2 q2 ry h2 f2 =>
  hr x y px py H2 C2 Q R (rx.imm (f2.imm h1)) ry h2 q2 fun v H' t C' q' r' h' f'=>f v H' t C' q' r' h' (f1.trans (f2.trans f'))⟩⟩
theorem iQ {op:Operator}{r:R2}{cr:R2C}{ca cb:TCE}(ho:OpR X (binaryOp op) r)(hr:Cop X.K r cr)(ha:CE X a ca)(hb:CE X b cb):CE X (.BinOp a op b pos) (cOp cr ca cb):=⟨JE.weak (je_op ho ha.h hb.h) fun _ _ _ h=>kD hr h⟩
theorem kF {op:CmpOp}{r:R2}{cr:R2C}{ca cb:TCE}(ho:OpR X (compareOp op) r)(hr:Cop X.K r cr)(ha:CE X a ca)(hb:CE X b cb)(hm:behindInMarks op b=false):CE X (.Compare a [op] [b] pos) (cOp cr ca cb):=⟨JE.weak (je_cmp ho ha.h hb.h hm) fun _ _ _ h=>kD hr h⟩
def uA (k:Bool->CH->Prop):PV->CH->Prop
 |.bl b,C=>k b C
 |_,_=>False
def yE (c:TCE):TCT:=fun ρ C Q=>c ρ C (uA Q)
theorem bl_of {K:DK}{H:Hp}{C:CH}{v:V}{t:PV}{Q:Bool->CH->Prop}(q:uA Q t C)(r:Rep K H v t):∃b,t=.bl b/\v=.bl b/\Q b C:=by
 cases t with
 |bl b=>cases r; exact⟨b,rfl,rfl,q⟩
 |_=>exact q.elim
theorem XY {K:DK}{c:TCE}{σ:St}{H:Hp}{Q:Bool->Hp->Prop}(h:sZ K sB (yE c) σ H Q):ZM (sZ K (Rep K) c) σ H Q:=by
 obtain⟨ρ,C,R,s,h,q,f⟩:=h
 exact⟨ρ,C,_,s,h,q,fun x H1 px C1 q1 rx h1 f1=>by
  obtain⟨b,rfl,rfl,q2⟩:=bl_of q1 rx
  exact⟨b,rfl,f b H1 b C1 q2 rfl h1 f1⟩⟩
theorem xP {op:CmpOp}{r:R2}{cr:R2C}{ca cb:TCE}(ho:OpR X (compareOp op) r)(hr:Cop X.K r cr)(ha:CE X a ca)(hb:CE X b cb)(hm:behindInMarks op b=false):CT X (.Compare a [op] [b] pos) (yE (cOp cr ca cb)) :=
 ⟨JT.weak (jt_cmp ho ha.h hb.h hm) fun σ H Q h=>by
  obtain⟨ρ,C,R,s,h,q,f⟩:=h;refine kD hr (Q:=fun x H'=>IBl Q x H') ⟨ρ,C,_,s,h,q,fun x H1 px C1 q1 rx h1 f1=>?_⟩;obtain⟨b,rfl,rfl,q2⟩:=bl_of q1 rx
  exact⟨b,rfl,f b H1 b C1 q2 rfl h1 f1⟩⟩
theorem lI {c:TCE}(h:CE X e c)(he:lM e=true:=by rfl):CT X e (yE c):=⟨JT.weak (jt_val h.h he) fun _ _ _ h=>XY h⟩
def cUn (cr:PV->CH->K1->Prop)(ca:TCE):TCE:=fun ρ C Q=>ca ρ C fun x C1=>cr x C1 Q
def Cun (K:DK)(r:V->Hp->VK->Prop)(cr:PV->CH->K1->Prop):Prop:=∀x px H C Q R,Rep K H x px->HRel K H C->cr px C R->(∀v H' t C',R t C'->Rep K H' v t->HRel K H' C'->Fw H C H' C'->Q v H')->r x H Q
theorem xE {op:UnaryOp}{r:V->Hp->VK->Prop}{cr:PV->CH->K1->Prop}{ca:TCE}(ho:UnR X (unaryOp op) r)(hr:Cun X.K r cr)(ha:CE X a ca):CE X (.UnaryOp op a pos) (cUn cr ca):=⟨JE.weak (je_un ho ha.h) fun σ H Q ⟨ρ,C,R,s,h,q,f⟩ =>
 ⟨ρ,C,_,s,h,q,fun x H1 px C1 q1 rx h1 f1=>hr x px H1 C1 Q R rx h1 q1 fun v H' t C' q' r' h' f'=>f v H' t C' q' r' h' (f1.trans f')⟩⟩
def cAnd (t u:TCT):TCT:=fun ρ C Q=>t ρ C fun b C1=>if b=true then u ρ C1 Q else Q false C1
def cOr (t u:TCT):TCT:=fun ρ C Q=>t ρ C fun b C1=>if b=true then Q true C1 else u ρ C1 Q
def cNot (t:TCT):TCT:=fun ρ C Q=>t ρ C fun b C1=>Q (!b) C1
theorem cw_pt {t:TCT}(h:CW X e t):CT X e t:=⟨jw_pt h.h⟩
theorem cw_and1 {t:TCT}(h:CT X a t):CW X (.BoolOp .And [a] pos) t:=⟨jw_and1 h.h⟩
theorem cw_or1 {t:TCT}(h:CT X a t):CW X (.BoolOp .Or [a] pos) t:=⟨jw_or1 h.h⟩
theorem cw_and {t u:TCT}(ha:CT X a t)(hb:CW X (.BoolOp .And (b::rest) pos) u):CW X (.BoolOp .And (a::b::rest) pos) (cAnd t u):=⟨JW.weak (jw_and ha.h hb.h) fun σ H Q ⟨ρ,C,R,s,h,q,f⟩ =>
 ⟨ρ,C,_,s,h,q,fun x H1 y C1 q1 e h1 f1=>by
  cases e
  cases x with
  |true=>exact⟨ρ,C1,R,s.imm (f1.imm h),h1,q1,fun v H' t C' q' r' h' f'=>f v H' t C' q' r' h' (f1.trans f')⟩
  |false=>exact f false H1 false C1 q1 rfl h1 f1⟩⟩
theorem cw_or {t u:TCT}(ha:CT X a t)(hb:CW X (.BoolOp .Or (b::rest) pos) u):CW X (.BoolOp .Or (a::b::rest) pos) (cOr t u):=⟨JW.weak (jw_or ha.h hb.h) fun σ H Q ⟨ρ,C,R,s,h,q,f⟩ =>
 ⟨ρ,C,_,s,h,q,fun x H1 y C1 q1 e h1 f1=>by
  cases e
  cases x with
  |true=>exact f true H1 true C1 q1 rfl h1 f1
  |false=>exact⟨ρ,C1,R,s.imm (f1.imm h),h1,q1,fun v H' t C' q' r' h' f'=>f v H' t C' q' r' h' (f1.trans f')⟩⟩⟩
theorem ct_not {t:TCT}(ha:CT X a t):CT X (.UnaryOp .Not a pos) (cNot t):=⟨JT.weak (jt_not ha.h) fun σ H Q ⟨ρ,C,R,s,h,q,f⟩ =>
 ⟨ρ,C,_,s,h,q,fun x H1 y C1 q1 e h1 f1=>by cases e; exact f _ H1 _ C1 q1 rfl h1 f1⟩⟩
def cIf (t:TCT)(ca cb:TCE):TCE:=fun ρ C Q=>t ρ C fun b C1=>if b=true then ca ρ C1 Q else cb ρ C1 Q
theorem Q9 {t:TCT}{ca cb:TCE}(hc:CT X c t)(ha:CE X a ca)(hb:CE X b cb):CE X (.IfExp c a b pos) (cIf t ca cb):=⟨JE.weak (je_if hc.h ha.h hb.h) fun σ H Q ⟨ρ,C,R,s,h,q,f⟩ =>
 ⟨ρ,C,_,s,h,q,fun x H1 y C1 q1 e h1 f1=>by
  cases e
  cases x with
  |true=>exact⟨ρ,C1,R,s.imm (f1.imm h),h1,q1,fun v H' t C' q' r' h' f'=>f v H' t C' q' r' h' (f1.trans f')⟩
  |false=>exact⟨ρ,C1,R,s.imm (f1.imm h),h1,q1,fun v H' t C' q' r' h' f'=>f v H' t C' q' r' h' (f1.trans f')⟩⟩⟩
def iF:TCA:=fun _ C Q=>Q [] C
def uK (ca:TCE)(cr:TCA):TCA:=fun ρ C Q=>ca ρ C fun x C1=>cr ρ C1 fun xs C2=>Q (x::xs) C2
theorem eX:CA X [] iF:=⟨JA.weak kI fun σ H Q ⟨ρ,C,R,s,h,q,f⟩=>f [] H [] C q .nil h Fw.refl⟩
theorem qQ {ca:TCE}{cr:TCA}(ha:CE X e ca)(hr:CA X es cr)(hs:eQ e=true:=by rfl):CA X (e::es) (uK ca cr):=⟨JA.weak (rC ha.h hr.h hs) fun σ H Q ⟨ρ,C,R,s,h,q,f⟩ =>
 ⟨ρ,C,_,s,h,q,fun x H1 px C1 q1 rx h1 f1=>⟨ρ,C1,_,s.imm (f1.imm h),h1,q1,fun xs H2 ps C2 q2 rs h2 f2=>f (x::xs) H2 (px::ps) C2 q2 (.cons (rx.imm (f2.imm h1)) rs) h2 (f1.trans f2)⟩⟩⟩
def Qb (ca:TCA):TCE:=fun ρ C Q=>ca ρ C fun xs C1=>xs.length<=sizeLine/\Q (.tup xs) C1
def cLst (ca:TCA):TCE:=fun ρ C Q=>ca ρ C fun xs C1=>xs.length<=sizeLine/\∀p,C1 p=none->Q (.ref p) (uQ C1 p (.lst xs))
theorem bQ {x1}{ca:TCA}(h:CA X es ca):CE X (.Tuple es x1 pos) (Qb ca):=⟨JE.weak (je_tup h.h) fun σ H Q ⟨ρ,C,R,s,h,q,f⟩ =>
 ⟨ρ,C,_,s,h,q,fun xs H1 ps C1 q1 rs h1 f1=>⟨by rw[rs.len]; exact q1.1,fun p hp=>f (.ref p) _ (.tup ps) C1 q1.2 (.tup dQ (rs.imm (Imm.new hp _))) (h1.new hp _) (f1.trans (Fw.new hp _))⟩⟩⟩
theorem nX {ca:TCA}(h:CA X es ca):CE X (.List es pos) (cLst ca):=⟨JE.weak (je_lst h.h) fun σ H Q ⟨ρ,C,R,s,h,q,f⟩ =>
 ⟨ρ,C,_,s,h,q,fun xs H1 ps C1 q1 rs h1 f1=>⟨by rw[rs.len]; exact q1.1,fun p hp=>f (.ref p) _ (.ref p) _ (q1.2 p (h1.fresh hp)) (.ref p) (h1.lay hp ⟨xs,dQ,rs.imm (Imm.new hp _)⟩) (f1.trans (Fw.lay hp _ _))⟩⟩⟩
def cDNew:TCE:=fun _ C Q=>∀p,C p=none->Q (.ref p) (uQ C p (.dK []))
theorem bR:CE X (.Dict [] [] pos) cDNew:=⟨JE.weak Kb fun σ H Q ⟨ρ,C,R,s,h,q,f⟩=>fun p hp=>f (.ref p) _ (.ref p) _ (q p (h.fresh hp)) (.ref p) (h.lay hp ⟨[],dQ,.nil⟩) (Fw.lay hp _ _)⟩
abbrev GC:=List PV->CH->K1->Prop
def spC (K:DK)(G:GC):Sp:=fun vs H Q _=>∃ts C R,Reps K H vs ts/\HRel K H C/\G ts C R/\∀v H' t C',R t C'->Rep K H' v t->HRel K H' C'->Fw H C H' C'->Q v H'
def cP (G:GC)(ca:TCA):TCE:=fun ρ C Q=>ca ρ C fun xs C1=>G xs C1 Q
theorem ce_call {CX:CXT}{k:Nat}{f:Addr}{fd:FuncData}{ps:List Str}{G:GC}{E:XK}{x:Str}{p:Pos}{ca:TCA}(F:FnOk X.prog X.w X.K X.mg X.base CX k f fd ps (spC X.K G))(hr:Room k X.A)(hg:Gl X x)(hm:X.mg x=some (.ref f))(hk:PySem.W.keepIn X.K (.ref f)=true)(hb:Binds X.K fd ps [])(hx:jW CX X E)
  (ha:CA X (e::es) ca) (hdb:(x==("__debug__" : Str))=false:=by decide) (hs:eQ e=true:=by rfl) (hall:es.all eQ=true:=by rfl):CE X (.Call (.Name x p) (e::es) [] pos) (cP G ca) :=
 ⟨JE.weak (je_call (dvs:=[]) (E:=E) F hr hg hm hk hb .nil hx ha.h hdb hs hall) fun σ H Q ⟨ρ,C,R,s,h,q,f⟩ =>
  ⟨ρ,C,_,s,h,q,fun xs H1 ts C1 q1 rs h1 f1=>⟨ts,C1,R,by rw[AZ]; exact rs,h1,q1,fun v H' t C' q' r' h' f'=>f v H' t C' q' r' h' (f1.trans f')⟩⟩⟩
def Cbi (K:DK)(r:List V->Hp->VK->Prop)(cr:GC):Prop:=∀xs ps H C Q R,Reps K H xs ps->HRel K H C->cr ps C R->(∀v H' t C',R t C'->Rep K H' v t->HRel K H' C'->Fw H C H' C'->Q v H')->r xs H Q
theorem fJ {id:String}{r:List V->Hp->VK->Prop}{cr:GC}{x:Str}{p:Pos}{ca:TCA}(hc:CallR X (.builtin id) r)(hr:Cbi X.K r cr)(hg:Gl X x)(hm:X.mg x=none)(hv:bootBuiltins x=some (.builtin id))(ha:CA X (e::es) ca)(hn:x ≠ "__name__":=by decide)(hdb:(x==("__debug__" : Str))=false:=by decide)
  (hs:eQ e=true:=by rfl) (hall:es.all eQ=true:=by rfl):CE X (.Call (.Name x p) (e::es) [] pos) (cP cr ca):=⟨JE.weak (uO hc hg hm hv ha.h hn hdb hs hall) fun σ H Q ⟨ρ,C,R,s,h,q,f⟩ =>
  ⟨ρ,C,_,s,h,q,fun xs H1 ts C1 q1 rs h1 f1=>hr xs ts H1 C1 Q R rs h1 q1 fun v H' t C' q' r' h' f'=>f v H' t C' q' r' h' (f1.trans f')⟩⟩
theorem lK {T:String}{r:List V->Hp->VK->Prop}{cr:GC}{x:Str}{p:Pos}{ca:TCA}(hc:CallR X (.type T) r)(hr:Cbi X.K r cr)(hg:Gl X x)(hm:X.mg x=none)(hv:bootBuiltins x=some (.type T))(ha:CA X (e::es) ca)(hn:x ≠ "__name__":=by decide)(hdb:(x==("__debug__" : Str))=false:=by decide)
  (hs:eQ e=true:=by rfl) (hall:es.all eQ=true:=by rfl):CE X (.Call (.Name x p) (e::es) [] pos) (cP cr ca):=⟨JE.weak (xN hc hg hm hv ha.h hn hdb hs hall) fun σ H Q ⟨ρ,C,R,s,h,q,f⟩ =>
  ⟨ρ,C,_,s,h,q,fun xs H1 ts C1 q1 rs h1 f1=>hr xs ts H1 C1 Q R rs h1 q1 fun v H' t C' q' r' h' f'=>f v H' t C' q' r' h' (f1.trans f')⟩⟩
theorem ce_ix {r:R2}{cr:R2C}{ca cb:TCE}(ho:IxR X r)(hr:Cop X.K r cr)(ha:CE X a ca)(hb:CE X b cb)(hs:sD b):CE X (.Subscript a b pos) (cOp cr ca cb):=⟨JE.weak (je_ix ho ha.h hb.h hs) fun _ _ _ h=>kD hr h⟩
end
section
variable {X:Cx}{a b c e o i:Expr}{es:List Expr}{pos:Pos}{rest:List Expr}{st:Stmt}{sts:List Stmt}
def cNext:TCS:=fun E ρ C=>E.nx ρ C
def lR (t u:TCS):TCS:=fun E ρ C=>t { E with nx:=u E } ρ C
theorem aQ:CB X [] cNext:=⟨JB.weak jb_nil fun D σ H ⟨ρ,C,E,s,h,q,f⟩=>f.nx σ H ρ C q s h Fw.refl⟩
theorem kQ {t:TCS}(h:CS X st t):CB X [st] t:=⟨jb_one h.h⟩
theorem xQ {t u:TCS}(h1:CS X st t)(h2:CB X sts u):CB X (st::sts) (lR t u):=⟨JB.weak (jb_cons h1.h h2.h) fun D σ H ⟨ρ,C,E,s,h,q,f⟩ =>
 ⟨ρ,C,_,s,h,q,⟨fun σ' H' ρ' C' n s' h' f'=>⟨ρ',C',E,s',h',n,f.fw f'⟩,f.rt,f.bk,f.ct⟩⟩⟩
def cDrop (ce:TCE):TCS:=fun E ρ C=>ce ρ C fun _ C1=>E.nx ρ C1
theorem cZ {ce:TCE}(he:CE X e ce)(hs:swapsWith e none pos.line X.env=pure false:=by rfl):CS X (.Expr e pos) (cDrop ce):=⟨JS.weak (js_expr he.h hs) fun D σ H ⟨ρ,C,E,s,h,q,f⟩ =>
 ⟨ρ,C,_,s,h,q,fun x H1 px C1 q1 rx h1 f1=>f.nx σ H1 ρ C1 q1 (s.imm (f1.imm h)) h1 f1⟩⟩
def cRet (ce:TCE):TCS:=fun E ρ C=>ce ρ C E.rt
theorem cQ {ce:TCE}(he:CE X e ce):CS X (.Return (some e) pos) (cRet ce):=⟨JS.weak (J6 he.h) fun D σ H ⟨ρ,C,E,s,h,q,f⟩ =>
 ⟨ρ,C,_,s,h,q,fun x H1 px C1 q1 rx h1 f1=>f.rt x H1 px C1 q1 rx h1 f1⟩⟩
def cIfS (t:TCT)(u v:TCS):TCS:=fun E ρ C=>t ρ C fun b C1=>if b=true then u E ρ C1 else v E ρ C1
theorem uX {x y:List Stmt}{t:TCT}{u v:TCS}(hc:CT X c t)(ha:CB X x u)(hb:CB X y v):CS X (.If c x y pos) (cIfS t u v):=⟨JS.weak (js_if hc.h ha.h hb.h) fun D σ H ⟨ρ,C,E,s,h,q,f⟩ =>
 ⟨ρ,C,_,s,h,q,fun x H1 y C1 q1 e h1 f1=>by
  cases e
  cases x with
  |true=>exact⟨ρ,C1,E,s.imm (f1.imm h),h1,q1,f.fw f1⟩
  |false=>exact⟨ρ,C1,E,s.imm (f1.imm h),h1,q1,f.fw f1⟩⟩⟩
def Qc (i:Nat)(ce:TCE):TCS:=fun E ρ C=>ce ρ C fun t C1=>E.nx (ρ.set i (some t)) C1
theorem cs_set {i:Nat}{x:Str}{pos':Pos}{ce:TCE}(hN:X.N.Nodup)(hi:X.N[i]?=some x)(hx:Loc X.env.scope x)(he:CE X e ce)(hs:swapsWith e (some (.Name x pos')) pos.line X.env=pure false:=by rfl)(hf:X.fn x=true\/X.env.scope.names.lookup x=some .local:=by first | exact .inl rfl | exact .inr rfl | assumption):
  CS X (.Assign [.Name x pos'] e pos) (Qc i ce):=⟨JS.weak (js_set hN hi hx he.h hs hf) fun D σ H ⟨ρ,C,E,s,h,q,f⟩ =>
 ⟨ρ,C,_,s,h,q,fun x H1 px C1 q1 rx h1 f1=>f.nx _ H1 _ C1 q1 ((s.imm (f1.imm h)).set rx i) h1 f1⟩⟩
abbrev TCG:=PV->CSt->CH->(CSt->CH->Prop)->Prop
abbrev kS:=List PV->CSt->CH->(CSt->CH->Prop)->Prop
def JY (K:DK)(c:TCG):TG:=fun v σ H Q=>∃t ρ C R,Rep K H v t/\SRel K H σ ρ/\HRel K H C/\c t ρ C R/\∀σ' H' ρ' C',R ρ' C'->SRel K H' σ' ρ'->HRel K H' C'->Fw H C H' C'->Q σ' H'
def liftGs (K:DK)(c:kS):TGs:=fun v σ H Q=>∃t ρ C R,Reps K H v t/\SRel K H σ ρ/\HRel K H C/\c t ρ C R/\∀σ' H' ρ' C',R ρ' C'->SRel K H' σ' ρ'->HRel K H' C'->Fw H C H' C'->Q σ' H'
structure CG (X:Cx)(e:Expr)(c:TCG):Prop where
 h:JG X e (JY X.K c)
structure CGs (X:Cx)(es:List Expr)(c:kS):Prop where
 h:JGs X es (liftGs X.K c)
theorem JG.weak {t t':TG}(h:JG X e t)(w:∀v σ H Q,t' v σ H Q->t v σ H Q):JG X e t':=⟨fun pins s σ H v u Q I r q=>h.h pins s σ H v u Q I r (w v σ H Q q)⟩
theorem JGs.weak {t t':TGs}(h:JGs X es t)(w:∀v σ H Q,t' v σ H Q->t v σ H Q):JGs X es t':=⟨fun pins s σ H v u Q I r q=>h.h pins s σ H v u Q I r (w v σ H Q q)⟩
def KN (i:Nat):TCG:=fun t ρ C Q=>Q (ρ.set i (some t)) C
def dNil:kS:=fun ts ρ C Q=>match ts with
 |[]=>Q ρ C
 |_=>False
def dCons (g:TCG)(u:kS):kS:=fun ts ρ C Q=>match ts with
 |t::r=>g t ρ C fun ρ' C'=>u r ρ' C' Q
 |[]=>False
def dTup (n:Nat)(u:kS):TCG:=fun t ρ C Q=>match t with
 |.tup ts=>ts.length=n/\u ts ρ C Q
 |_=>False
theorem cg_name {i:Nat}{x:Str}(hN:X.N.Nodup)(hi:X.N[i]?=some x)(hx:Loc X.env.scope x)(hf:X.fn x=true\/X.env.scope.names.lookup x=some .local:=by first | exact .inl rfl | exact .inr rfl | assumption):CG X (.Name x pos) (KN i) :=
 ⟨JG.weak (jg_name hN hi hx hf) fun v σ H Q ⟨t,ρ,C,R,r,s,h,q,f⟩=>f _ H _ C q (s.set r i) h Fw.refl⟩
theorem uV:CGs X [] dNil:=⟨JGs.weak jgs_nil fun vs σ H Q ⟨ts,ρ,C,R,r,s,h,q,f⟩=>by
 cases r with
 |nil=>exact⟨rfl,f σ H ρ C q s h Fw.refl⟩
 |cons _ _=>exact q.elim⟩
theorem jX {g:TCG}{u:kS}(h1:CG X e g)(h2:CGs X es u)
  (hs:(assignEach (e::es) X.env).map (·.2)=assign e X.env::(assignEach es X.env).map (·.2):=by rfl):CGs X (e::es) (dCons g u):=⟨JGs.weak (J8 h1.h h2.h hs) fun vs σ H Q ⟨ts,ρ,C,R,r,s,h,q,f⟩=>by
 cases r with
 |nil=>exact q.elim
 |@cons v t vs ts r0 r =>
  exact⟨v,vs,rfl,t,ρ,C,_,r0,s,h,q,fun σ' H' ρ' C' q' s' h' f'=>⟨ts,ρ',C',R,r.imm (f'.imm h),s',h',q',fun σ2 H2 ρ2 C2 q2 s2 h2 f2=>f σ2 H2 ρ2 C2 q2 s2 h2 (f'.trans f2)⟩⟩⟩
theorem iY {k:Nat}{u:kS}{n:Nat}(hc:X.calm=true)(h:CGs X es u)
  (hn:(assignEach es X.env).length=n:=by rfl) (hst:(assignEach es X.env).findIdx? (·.1)=none:=by rfl):CG X (.Tuple es k pos) (dTup n u):=⟨JG.weak (jg_tup hc h.h hn hst) fun v σ H Q ⟨t,ρ,C,R,r,s,h,q,f⟩=>by
 cases r with
 |@tup a vs ts e r =>
  obtain⟨q1,q2⟩:=q;exact⟨a,vs,rfl,SqT.of e,by rw[r.len]; exact q1,ts,ρ,C,R,r,s,h,q2,f⟩
 |_=>exact q.elim⟩
def cAsg (ce:TCE)(g:TCG):TCS:=fun E ρ C=>ce ρ C fun t C1=>g t ρ C1 E.nx
theorem kP {tg:Expr}{ce:TCE}{g:TCG}(he:CE X e ce)(hg:CG X tg g)(hs:swapsWithSole [tg] e pos.line X.env=pure false:=by rfl)(hw:swappedStores [tg] e X.env=pure none:=by rfl)
  (h1:(assignEach [tg] X.env).map (·.2)=[assign tg X.env]:=by rfl):CS X (.Assign [tg] e pos) (cAsg ce g):=⟨JS.weak (js_asg he.h hg.h hs hw h1) fun D σ H ⟨ρ,C,E,s,h,q,f⟩ =>
 ⟨ρ,C,_,s,h,q,fun x H1 px C1 q1 rx h1 f1=>⟨px,ρ,C1,E.nx,rx,s.imm (f1.imm h),h1,q1,fun σ' H' ρ' C' q' s' h' f'=>f.nx σ' H' ρ' C' q' s' h' (f1.trans f')⟩⟩⟩
@[irreducible] def Xd:PV->PV->PV->CH->(CH->Prop)->Prop:=fun o i v C Q=>match o,i with
 |.ref p,.int k=>match C p with
  |some (.lst xs)=>match ixN xs.length k with
   |some j=>Q (uQ C p (.lst (xs.set j v)))
   |none=>False
  |_=>False
 |_,_=>False
def dSub (co ci:TCE)(u:PV->PV->PV->CH->(CH->Prop)->Prop):TCG:=fun t ρ C Q=>co ρ C fun o C1=>ci ρ C1 fun i C2=>u o i t C2 fun C3=>Q ρ C3
theorem uD {co ci:TCE}(ho:CE X o co)(hi:CE X i ci)
  (ha:∀v,assign (.Subscript o i pos) X.env v=(do
   let ov <- holding [v] (eval o X.env)
   let iv <- holding [v,ov] (eval i X.env)
   standAt pos
   holding [v,ov,iv] (setItem ov iv v)
   release [v,ov,iv] []):=by intro _; rfl):CG X (.Subscript o i pos) (dSub co ci Xd):=⟨JG.weak (jg_sub ho.h hi.h ZT ha) fun v σ H Q ⟨t,ρ,C,R,r,s,h,q,f⟩ =>
 ⟨ρ,C,_,s,h,q,fun x H1 px C1 q1 rx h1 f1=>⟨ρ,C1,_,s.imm (f1.imm h),h1,q1,fun y H2 py C2 q2 ry h2 f2=>by
  have r2:=r.imm ((f1.trans f2).imm h);have s2:=s.imm ((f1.trans f2).imm h);unfold Xd at q2
  split at q2
  .next p k =>
   split at q2
   .next xs e =>
    split at q2
    .next j ej =>
     obtain⟨vs,ev,rv⟩:=h2 p _ e;have rx2:=rx.imm (f2.imm h1);cases rx2;cases ry;refine⟨p,vs,k,j,rfl,rfl,ev,by rw[rv.len]; exact ej,?_⟩;exact f σ _ ρ _ q2 (s2.imm (Imm.mut ev rfl _)) (h2.put ev rfl ⟨_,dQ,(rv.set r2 j).imm (Imm.mut ev rfl _)⟩) (f1.trans (f2.trans (Fw.put e _ _)))
    .exact q2.elim
   .exact q2.elim
  .exact q2.elim⟩⟩⟩
def uG (g:TCG)(u:TCS)(E:mY):List PV->CSt->CH->Prop
 |[],ρ,C=>E.nx ρ C
 |x::r,ρ,C=>g x ρ C fun ρ1 C1=>u { nx:=uG g u E r,ct:=uG g u E r,bk:=E.nx,rt:=E.rt } ρ1 C1
structure Qk (K:DK)(H:Hp)(J:It)(ps:List PV):Prop where
 go:∀i H',i < ps.length->Imm H H'->J.go i H'
 yl:∀i H' x H'',Imm H H'->J.yld i H' x H''->H''=H'/\∀t,ps[i]?=some t->Rep K H' x t
 st:∀H',Imm H H'->J.stop ps.length H'
theorem zD {K:DK}{H:Hp}{C:CH}{σ:St}{ρ:CSt}{J:It}{ps:List PV}{g:TCG}{u:TCS}{E:mY}{D:cE}(j:Qk K H J ps)(s:SRel K H σ ρ)(h:HRel K H C)(q:uG g u E ps ρ C)(f:ERel K H C E D):
  ∃W:Nat->Nat->St->Hp->Prop,(∃m,W 0 m σ H)/\∀i m σ H,W i m σ H ->
   (J.stop i H/\D.nx σ H)\/(J.go i H/\∃N:St->Hp->Prop,(∀σ' H',N σ' H'->∃m',m' < m/\W (i+1) m' σ' H')/\∀x H',J.yld i H x H'->JY K g x σ H' fun σ2 H2=>JX K u { D with nx:=N,ct:=N,bk:=D.nx } σ2 H2):=by
 refine⟨fun i m σ' H'=>m=ps.length - i/\i<=ps.length/\∃ρ' C',SRel K H' σ' ρ'/\HRel K H' C'/\Fw H C H' C'/\uG g u E (ps.drop i) ρ' C',⟨ps.length,rfl,AV _,ρ,C,s,h,Fw.refl,q⟩,?_⟩;rintro i m σ1 H1 ⟨rfl,hi,ρ1,C1,s1,h1,f1,q1⟩;have k1:=f1.imm h
 by_cases hlt:i < ps.length
 .refine .inr ⟨j.go i H1 hlt k1,fun σ' H'=>∃ρ' C',SRel K H' σ' ρ'/\HRel K H' C'/\Fw H C H' C'/\uG g u E (ps.drop (i+1)) ρ' C',fun σ' H' z=>⟨ps.length - (i+1),by omega,rfl,hlt,z⟩,fun x H2 y=>?_⟩
  obtain⟨rfl,y⟩:=j.yl i H1 x H2 k1 y;rw[Aq hlt] at q1
  exact⟨ps[i],ρ1,C1,_,y _ (AM hlt),s1,h1,q1,fun σ' H' ρ' C' q' s' h' f'=>⟨ρ',C',_,s',h',q',⟨fun σ3 H3 ρ3 C3 q3 s3 h3 f3=>⟨ρ3,C3,s3,h3,f1.trans (f'.trans f3),q3⟩,fun v H3 t C3 q3 r3 h3 f3=>f.rt v H3 t C3 q3 r3 h3 (f1.trans (f'.trans f3)),
   fun σ3 H3 ρ3 C3 q3 s3 h3 f3=>f.nx σ3 H3 ρ3 C3 q3 s3 h3 (f1.trans (f'.trans f3)),fun σ3 H3 ρ3 C3 q3 s3 h3 f3=>⟨ρ3,C3,s3,h3,f1.trans (f'.trans f3),q3⟩⟩⟩⟩
 .have e:i=ps.length:=by omega
  subst e;rw[Br] at q1;exact .inl ⟨j.st H1 k1,f.nx σ1 H1 ρ1 C1 q1 s1 h1 f1⟩
theorem nC {K:DK}{H:Hp}{a:Addr}{vs:List V}{ts:List PV}(h:SqT K H a vs)(r:Reps K H vs ts):Qk K H (Itt K a) ts where
 go:=fun i H' l k=>⟨vs,vs[i]'(by rw[r.len]; exact l),SqT.imm h k,AM _⟩
 yl:=fun i H' x H'' k y=>⟨y.1,fun t e=>by
  obtain⟨v,ev,rv⟩:=(r.imm k).get e;have:=y.2 vs (SqT.imm h k)
  rw[ev] at this; cases this; exact rv⟩
 st:=fun H' k=>⟨vs,SqT.imm h k,by rw[r.len]; exact AJ _⟩
theorem it_fz {K:DK}{H:Hp}{a:Addr}{vs:List V}{ts:List PV}(h:Fz K H a vs)(r:Reps K H vs ts):Qk K H (Itl K a) ts where
 go:=fun i H' l k=>⟨vs,vs[i]'(by rw[r.len]; exact l),(h.imm k).sq,AM _⟩
 yl:=fun i H' x H'' k y=>⟨y.1,fun t e=>by
  obtain⟨v,ev,rv⟩:=(r.imm k).get e;have:=y.2 vs (h.imm k).sq
  rw[ev] at this; cases this; exact rv⟩
 st:=fun H' k=>⟨vs,(h.imm k).sq,by rw[r.len]; exact AJ _⟩
theorem Ke {K:DK}{H:Hp}{n:Nat}:Qk K H (Itr 0 n) ((List.range n).map fun k=>PV.int (k:Nat)) where
 go:=fun i H' l k=>by rw[AA,Ak] at l; exact l
 yl:=fun i H' x H'' k y=>⟨y.1,fun t e=>by
  rw[y.2];rw[Aj] at e
  cases z:(List.range n)[i]? with
  |none=>rw[z] at e; cases e
  |some w =>
   rw[z] at e;cases e;have:=AU.mp z;obtain⟨l,e⟩:=this;rw[List.getElem_range] at e;subst e;rw[Int.zero_add]
   exact .int _⟩
 st:=fun H' k=>by rw[AA,Ak]; exact AJ _
@[irreducible] def Xk (ce:TCE)(g:TCG)(u:TCS):TCS:=fun E ρ C=>ce ρ C fun t C1=>match t with
 |.tup xs=>uG g u E xs ρ C1
 |.kt xs=>uG g u E xs ρ C1
 |_=>False
theorem oY {tg iter:Expr}{body:List Stmt}{ce:TCE}{g:TCG}{u:TCS}(hp:PassesOwn (model X.prog X.w) X.A X.env X.xe)(hc:X.calm=true)(hi:CE X iter ce)(hg:CG X tg g)(hb:CB X body u)
  (hs:∀x,foldedSetIterable iter X.env x=pure x:=by intro _; rfl):CS X (.For tg iter body [] pos) (Xk ce g u):=⟨JS.weak (xI hp hc (J7 hi.h) hg.h hb.h hs) fun D σ H ⟨ρ,C,E,s,h,q,f⟩=>by
 unfold Xk at q
 exact⟨ρ,C,_,s,h,q,fun x H1 px C1 q1 rx h1 f1=>by
  cases rx with
  |@tup a vs ts e r=>exact⟨a,rfl,⟨vs,SqT.of e⟩,zD (nC (SqT.of e) r) (s.imm (f1.imm h)) h1 q1 (f.fw f1)⟩
  |@kt a vs ts e r=>exact⟨a,rfl,⟨vs,e⟩,zD (nC e r) (s.imm (f1.imm h)) h1 q1 (f.fw f1)⟩
  |_=>exact q1.elim⟩⟩
def cForR (ca:TCA)(g:TCG)(u:TCS):TCS:=fun E ρ C=>ca ρ C fun ts C1=>match ts with
 |[.int j]=>-(2 ^ 62)<=j/\j < 2 ^ 62/\uG g u E ((List.range j.toNat).map fun k=>PV.int (k:Nat)) ρ C1
 |_=>False
theorem yD {tg:Expr}{body:List Stmt}{ca:TCA}{g:TCG}{u:TCS}{p pos2:Pos}(hp:PassesOwn (model X.prog X.w) X.A X.env X.xe)(hc:X.calm=true)(hgl:Gl X "range")(hm:X.mg "range" = none)(ha:CA X [a] ca)(hg:CG X tg g)(hb:CB X body u)
  (hst:eQ a=true:=by rfl) (hs:∀x,foldedSetIterable (.Call (.Name "range" p) [a] [] pos2) X.env x=pure x:=by intro _; rfl):CS X (.For tg (.Call (.Name "range" p) [a] [] pos2) body [] pos) (cForR ca g u):=⟨JS.weak (xI hp hc (jN hgl hm ha.h hst) hg.h hb.h hs) fun D σ H ⟨ρ,C,E,s,h,q,f⟩ =>
 ⟨ρ,C,_,s,h,q,fun xs H1 ts C1 q1 rs h1 f1=>by
  split at q1
  .next j =>
   cases rs with
   |cons r0 r =>
    cases r;cases r0;exact⟨j,rfl,q1.1,q1.2.1,zD Ke (s.imm (f1.imm h)) h1 q1.2.2 (f.fw f1)⟩
  .exact q1.elim⟩⟩
noncomputable def zG (a:Addr)(g:TCG)(u:TCS)(E:mY):Nat->Nat->CSt->CH->Prop
 |0,_,_,_=>False
 |n+1,i,ρ,C=>match C a with
  |some (.lst xs)=>match xs[i]? with
   |some x=>g x ρ C fun ρ1 C1=>u { nx:=zG a g u E n (i+1),ct:=zG a g u E n (i+1),bk:=E.nx,rt:=E.rt } ρ1 C1
   |none=>E.nx ρ C
  |_=>False
def cForL (ce:TCE)(g:TCG)(u:TCS):TCS:=fun E ρ C=>ce ρ C fun t C1=>match t with
 |.ref a=>∃n,zG a g u E n 0 ρ C1
 |.fz xs=>uG g u E xs ρ C1
 |_=>False
theorem mW {tg iter:Expr}{body:List Stmt}{ce:TCE}{g:TCG}{u:TCS}(hp:PassesOwn (model X.prog X.w) X.A X.env X.xe)(hc:X.calm=true)(hi:CE X iter ce)(hg:CG X tg g)(hb:CB X body u)
  (hs:∀x,foldedSetIterable iter X.env x=pure x:=by intro _; rfl):CS X (.For tg iter body [] pos) (cForL ce g u):=⟨JS.weak (xI hp hc (QM hi.h) hg.h hb.h hs) fun D σ H ⟨ρ,C,E,s,h,q,f⟩ =>
 ⟨ρ,C,_,s,h,q,fun x H1 px C1 q1 rx h1 f1=>by
  cases rx with
  |@fz a vs ts e r=>exact⟨a,rfl,⟨vs,e.sq⟩,zD (it_fz e r) (s.imm (f1.imm h)) h1 q1 (f.fw f1)⟩
  |ref a =>
   obtain⟨n,q1⟩:=q1
   have ex:∃ys,SqL X.K H1 a ys:=by
    cases n with
    |zero=>exact q1.elim
    |succ n =>
     unfold zG at q1
     split at q1
     .next xs e=>obtain⟨vs,ev,_⟩:=h1 a _ e; exact⟨vs,SqL.of ev⟩
     .exact q1.elim
   refine⟨a,rfl,ex,fun i m σ' H'=>∃ρ' C',SRel X.K H' σ' ρ'/\HRel X.K H' C'/\Fw H1 C1 H' C'/\zG a g u E m i ρ' C',⟨n,ρ,C1,s.imm (f1.imm h),h1,Fw.refl,q1⟩,?_⟩;rintro i m σ2 H2 ⟨ρ2,C2,s2,h2,f2,q2⟩
   cases m with
   |zero=>exact q2.elim
   |succ m =>
    unfold zG at q2
    split at q2
    .next xs e =>
     obtain⟨vs,ev,rv⟩:=h2 a _ e
     split at q2
     .next x ex =>
      obtain⟨v,ev',rx⟩:=rv.get ex;refine .inr ⟨⟨vs,v,SqL.of ev,ev'⟩,fun σ' H'=>∃ρ' C',SRel X.K H' σ' ρ'/\HRel X.K H' C'/\Fw H1 C1 H' C'/\zG a g u E m (i+1) ρ' C',fun σ' H' z=>⟨m,B6 m,z⟩,fun y H3 hy=>?_⟩;obtain⟨rfl,hy⟩:=hy;have:=hy vs (SqL.of ev);rw[ev'] at this; cases this
      exact⟨x,ρ2,C2,_,rx,s2,h2,q2,fun σ' H' ρ' C' q' s' h' f'=>⟨ρ',C',_,s',h',q',⟨fun σ3 H3 ρ3 C3 q3 s3 h3 f3=>⟨ρ3,C3,s3,h3,f2.trans (f'.trans f3),q3⟩,fun v H3 t C3 q3 r3 h3 f3=>f.rt v H3 t C3 q3 r3 h3 (f1.trans (f2.trans (f'.trans f3))),
       fun σ3 H3 ρ3 C3 q3 s3 h3 f3=>f.nx σ3 H3 ρ3 C3 q3 s3 h3 (f1.trans (f2.trans (f'.trans f3))),fun σ3 H3 ρ3 C3 q3 s3 h3 f3=>⟨ρ3,C3,s3,h3,f2.trans (f'.trans f3),q3⟩⟩⟩⟩
     .next ex =>
      refine .inl ⟨⟨vs,SqL.of ev,?_⟩,f.nx σ2 H2 ρ2 C2 q2 s2 h2 (f1.trans f2)⟩;rw[rv.len];exact Ca.mp ex
    .exact q2.elim
  |_=>exact q1.elim⟩⟩
def yZ (t:TCT)(c:TCE)(ρ:CSt)(Q:K1):List PV->List PV->CH->Prop
 |[],acc,C=>∀p,C p=none->Q (.ref p) (uQ C p (.lst acc))
 |x::r,acc,C=>t (some x::ρ) C fun b C1=>if b=true then c (some x::ρ) C1 fun y C2=>acc.length < sizeLine/\yZ t c ρ Q r (acc++[y]) C2 else yZ t c ρ Q r acc C1
structure CF (X:Cx)(ifs:List Expr)(c:TCT):Prop where
 h:JF X ifs (sZ X.K sB c)
def vF:TCT:=fun _ C Q=>Q true C
theorem JF.weak {ifs:List Expr}{t t':TT}(h:JF X ifs t)(w:∀σ H Q,t' σ H Q->t σ H Q):JF X ifs t':=⟨fun pins s σ H Q I q=>h.h pins s σ H Q I (w σ H Q q)⟩
theorem bJ:CF X [] vF:=⟨JF.weak jf_nil fun σ H Q ⟨ρ,C,R,s,h,q,f⟩=>f true H true C q rfl h Fw.refl⟩
theorem K7 {t:TCT}(h:CT X c t):CF X [c] t:=⟨jf_one h.h⟩
theorem comp_it {K:DK}{H H0:Hp}{C C0:CH}{σ:St}{ρ:CSt}{J:It}{ps:List PV}{t:TCT}{c:TCE}{R:K1}{Q:VK}(j:Qk K H J ps)(s:SRel K H σ ρ)(h:HRel K H C)(q:yZ t c ρ R ps [] C)
  (h0:HRel K H0 C0) (f0:Fw H0 C0 H C) (f:∀v H' p C',R p C'->Rep K H' v p->HRel K H' C'->Fw H0 C0 H' C'->Q v H') {D:Addr} (hD:H D=none) :
  ∃W:Nat->Nat->List V->Hp->Prop,(∃m,W 0 m [] (upd H D (.lst [])))/\∀i m ys H,W i m ys H ->
   (J.stop i H/\Q (.ref D) H)\/(J.go i H/\∀x H',J.yld i H x H'->sZ K sB t (some x::σ) H' fun b H2 =>
    if b=true then sZ K (Rep K) c (some x::σ) H2 fun y H3=>H3 D=some (.lst ys)/\ys.length < sizeLine/\∃m',m' < m/\W (i+1) m' (ys++[y]) (upd H3 D (.lst (ys++[y])))
    else ∃m',m' < m/\W (i+1) m' ys H2):=by
 have fD:∀{H':Hp} {C':CH},Fw H C H' C'->True:=fun _=>trivial
 refine⟨fun i m ys H'=>m=ps.length - i/\i<=ps.length/\∃acc C',H' D=some (.lst ys)/\C' D=none/\Reps K H' ys acc/\HRel K H' C'/\Fw H C H' C'/\yZ t c ρ R (ps.drop i) acc C',
  ⟨ps.length,rfl,AV _,[],C,dQ,h.fresh hD,.nil,h.new hD _,Fw.new hD _,q⟩,?_⟩
 rintro i m ys H1 ⟨rfl,hi,acc,C1,e1,n1,r1,h1,f1,q1⟩;have k1:Imm H H1:=f1.imm h
 by_cases hlt:i < ps.length
 .refine .inr ⟨j.go i H1 hlt k1,fun x H2 y=>?_⟩
  obtain⟨rfl,y⟩:=j.yl i H1 x H2 k1 y;have rx:=y _ (AM hlt);rw[Aq hlt] at q1;refine⟨some ps[i]::ρ,C1,_,.cons rx (s.imm k1),h1,q1,fun b H3 b' C3 q3 e h3 f3=>?_⟩;cases e;obtain⟨n3,e3⟩:=f3 D (by rw[n1]; rfl) (by rw[e1]; exact fun z=>nomatch z);rw[e1] at e3;rw[n1] at n3;have k3:=f3.imm h1
  cases b with
  |true =>
   rw[AW rfl] at q3 ⊢;refine⟨some ps[i]::ρ,C3,_,.cons (rx.imm k3) ((s.imm k1).imm k3),h3,q3,fun v H4 p C4 q4 r4 h4 f4=>?_⟩;obtain⟨n4,e4⟩:=f4 D (by rw[n3]; rfl) (by rw[e3]; exact fun z=>nomatch z);rw[e3] at e4;rw[n3] at n4;have k4:=f4.imm h3;have m4:Imm H4 (upd H4 D (.lst (ys++[v]))):=Imm.mut e4 rfl _;refine⟨e4,by rw[r1.len]; exact q4.1,ps.length - (i+1),by omega,rfl,hlt,acc++[p],C4,dQ,n4,?_,?_,?_,q4.2⟩
   .exact (((r1.imm k3).imm k4).append (.cons r4 .nil)).imm m4
   .intro a o ca
    have ne:a≠D:=fun z=>by subst z; rw[n4] at ca; cases ca
    exact(h4 a o ca).imm m4 (nQ ne)
   .intro a ca na
    have ne:a≠D:=fun z=>na (z▸hD);obtain⟨x1,x2⟩:=(f1.trans (f3.trans f4)) a ca na;exact⟨x1,(nQ ne).trans x2⟩
  |false =>
   rw[AT AL] at q3 ⊢;exact⟨ps.length - (i+1),by omega,rfl,hlt,acc,C3,e3,n3,r1.imm k3,h3,f1.trans f3,q3⟩
 .have e:i=ps.length:=by omega
  subst e;rw[Br] at q1;refine .inl ⟨j.st H1 k1,f (.ref D) H1 (.ref D) _ (q1 D n1) (.ref D) ?_ ?_⟩
  .intro a o ca
   by_cases z:a=D
   .subst z; rw[jQ] at ca; cases ca; exact⟨ys,e1,r1⟩
   .rw [wQ z] at ca; exact h1 a o ca
  .intro a ca na
   obtain⟨x1,x2⟩:=f0 a ca na;have na':H a≠none:=by rw[x2]; exact na
   have ne:a≠D:=fun z=>na' (z▸hD);obtain⟨y1,y2⟩:=f1 a (by rw[x1]; exact ca) na';exact⟨(wQ ne).trans (y1.trans x1),y2.trans x2⟩
structure CI (X:Cx)(tg it:Expr)(wi:TI)(c:CSt->CH->(List PV->CH->Prop)->Prop):Prop where
 j:JI X tg it wi
 w:∀σ H ρ C R Q,SRel X.K H σ ρ->HRel X.K H C->c ρ C R->(∀J H' ps C',R ps C'->Qk X.K H' J ps->HRel X.K H' C'->Fw H C H' C'->Q J H')->wi σ H Q
def cItT (ce:TCE):CSt->CH->(List PV->CH->Prop)->Prop:=fun ρ C Q=>ce ρ C fun t C1=>match t with
 |.tup xs=>Q xs C1
 |.kt xs=>Q xs C1
 |_=>False
theorem aY {tg:Expr}{ce:TCE}(h:CE X e ce):CI X tg e (iTup X.K (sZ X.K (Rep X.K) ce)) (cItT ce):=⟨J7 h.h,fun σ H ρ C R Q s h q f=>⟨ρ,C,_,s,h,q,fun x H1 px C1 q1 rx h1 f1=>by
  cases rx with
  |@tup a vs ts e r=>exact⟨a,rfl,⟨vs,SqT.of e⟩,f _ H1 ts C1 q1 (nC (SqT.of e) r) h1 f1⟩
  |@kt a vs ts e r=>exact⟨a,rfl,⟨vs,e⟩,f _ H1 ts C1 q1 (nC e r) h1 f1⟩
  |_=>exact q1.elim⟩⟩
def cItR (ca:TCA):CSt->CH->(List PV->CH->Prop)->Prop:=fun ρ C Q=>ca ρ C fun ts C1=>match ts with
 |[.int j]=>-(2 ^ 62)<=j/\j < 2 ^ 62/\Q ((List.range j.toNat).map fun k=>PV.int (k:Nat)) C1
 |_=>False
theorem oI {tg:Expr}{ca:TCA}{p pos2:Pos}(hgl:Gl X "range")(hm:X.mg "range" = none)(ha:CA X [a] ca)(hst:eQ a=true:=by rfl):CI X tg (.Call (.Name "range" p) [a] [] pos2) (Km (sZ X.K (Reps X.K) ca)) (cItR ca):=⟨jN hgl hm ha.h hst,fun σ H ρ C R Q s h q f=>⟨ρ,C,_,s,h,q,fun xs H1 ts C1 q1 rs h1 f1=>by
  split at q1
  .next j =>
   cases rs with
   |cons r0 r =>
    cases r;cases r0;exact⟨j,rfl,q1.1,q1.2.1,f _ H1 _ C1 q1.2.2 Ke h1 f1⟩
  .exact q1.elim⟩⟩
def Vj (ci:CSt->CH->(List PV->CH->Prop)->Prop)(t:TCT)(c:TCE):TCE:=fun ρ C Q=>ci ρ C fun ps C1=>yZ t c ρ Q ps [] C1
theorem iH {wi:TI}{tg it:Expr}{ci:CSt->CH->(List PV->CH->Prop)->Prop}{t:TCT}{c:TCE}(hi:CI X tg it wi ci){σ:St}{H:Hp}{Q:VK}(h:sZ X.K (Rep X.K) (Vj ci t c) σ H Q):uS wi (sZ X.K sB t) (sZ X.K (Rep X.K) c) σ H Q:=by
 obtain⟨ρ,C,R,s,h,q,f⟩:=h;exact hi.w σ H ρ C _ _ s h q fun J H' ps C' q' j h' f' D hD=>comp_it j (s.imm (f'.imm h)) h' q' h f' f hD
theorem qG {elt iter:Expr}{x:Str}{px:Pos}{ifs:List Expr}{scope:Scope}{wi:TI}{ci:CSt->CH->(List PV->CH->Prop)->Prop}{t:TCT}{c:TCE}
  (hc:X.calm=true) (hN:(x::X.N).Nodup) (K:∃cl,zU X x scope cl) (hi:CI X (.Name x px) iter wi ci)
  (ht:∀cl fp C s₂ H₂,CF (gJ X x scope cl fp C s₂ H₂) ifs t) (he:∀cl fp C s₂ H₂,CE (gJ X x scope cl fp C s₂ H₂) elt c)
  (hs:∀v,foldedSetIterable iter X.env v=pure v:=by intro _; rfl):CE X (.ListComp elt [⟨.Name x px,iter,ifs,0⟩] scope pos) (Vj ci t c) :=
 ⟨JE.weak (aL hc hN K hi.j (fun cl fp C s₂ H₂=>(ht cl fp C s₂ H₂).h) (fun cl fp C s₂ H₂=>(he cl fp C s₂ H₂).h) hs) fun _ _ _ h=>iH hi h⟩
end
def kL (N:List Str)(ts:List PV):CSt:=ts.map some++List.replicate (N.length - ts.length) none
theorem cH {K:DK}{H:Hp}:∀n,SRel K H (List.replicate n none) (List.replicate n none)
 |0=>.nil
 |n+1=>.cons trivial (cH n)
theorem mS {K:DK}{H:Hp}{σ:St}{ρ:CSt}(s:SRel K H σ ρ):∀{vs:List V}{ts:List PV},Reps K H vs ts->SRel K H (vs.map some++σ) (ts.map some++ρ)
 |_,_,.nil=>s
 |_,_,.cons h r=>.cons h (mS s r)
theorem oE {K:DK}{H:Hp}{N:List Str}{vs:List V}{ts:List PV}(r:Reps K H vs ts):SRel K H (L2.start N vs) (kL N ts):=by
 unfold L2.start kL;rw[r.len];exact mS (cH _) r
section
variable {P:Program}{w:World}{K:DK}{mg:Str->Option Value}{base:Heap}
theorem Fun.okC {x qual:Str}{st:Stmt}{f:Addr}{fd:FuncData}{N ps:List Str}{k:Nat}{G:GC}(F:Fun K x qual st f fd)(S:FnScope N ps (xX st))(len:∀ts C R,G ts C R->ts.length=ps.length)
  (hbody:∀(cdv:Value) (A:Around) (outer:List Env) (s:Shared) (H:Hp) (E:XK),Room k (A.deeper (envOfC qual (xX st) s.heap.objs.size f cdv)) ->
   ∃c,CB (xR CX0 P w K mg base N qual (xX st) f cdv A outer s H E).nox (wK st) c/\∀ts C R,G ts C R->c { nx:=fun _ C'=>R .non C',rt:=R } (kL N ts) C):FnOk P w K mg base CX0 (k+1) f fd ps (spC K G):=by
 refine F.okJ S ?_ ?_
 .rintro vs H Q E ⟨ts,C,R,r,h,g,f⟩
  rw[r.len]; exact len ts C R g
 .rintro cdv A outer s H vs Q E hr ⟨ts,C,R,r,h,g,f⟩
  obtain⟨c,hc,q⟩:=hbody cdv A outer s H E hr;refine⟨_,hc.h,kL N ts,C,_,oE r,h,q ts C R g,⟨fun σ' H' ρ' C' q' s' h' f'=>f .non H' .non C' q' .non h' f',f,fun _ _ _ _ q' _ _ _=>q'.elim,fun _ _ _ _ q' _ _ _=>q'.elim⟩⟩
end
section
variable {X:Cx}{a b c e o i:Expr}{es:List Expr}{pos:Pos}
@[irreducible] def cI (g:Int->Int->PV):R2C:=fun x y C Q=>match x,y with
 |.int i,.int j=>Q (g i j) C
 |_,_=>False
def cIc (P:Int->Int->Prop)(g:Int->Int->PV):R2C:=fun x y C Q=>match x,y with
 |.int i,.int j=>P i j/\Q (g i j) C
 |_,_=>False
theorem KY {K:DK}{g:Int->Int->V}{g':Int->Int->PV}(hg:∀i j H,Rep K H (g i j) (g' i j)):Cop K (rI0 g) (cI g'):=fun x y px py H C Q R rx ry h q f=>by
 unfold cI at q
 split at q
 .cases rx; cases ry
  exact⟨_,_,rfl,rfl,f _ H _ C q (hg _ _ _) h Fw.refl⟩
 .exact q.elim
theorem vR {K:DK}{P:Int->Int->Prop}{g:Int->Int->V}{g':Int->Int->PV}(hg:∀i j H,Rep K H (g i j) (g' i j)):Cop K (rI P g) (cIc P g'):=fun x y px py H C Q R rx ry h q f=>by
 unfold cIc at q
 split at q
 .cases rx; cases ry
  exact⟨_,_,rfl,rfl,q.1,f _ H _ C q.2 (hg _ _ _) h Fw.refl⟩
 .exact q.elim
theorem pJ {K:DK}:Cop K (rI0 fun i j=>.int (i - j)) (cI fun i j=>.int (i - j)):=KY fun _ _ _=>.int _
theorem bU {K:DK}:Cop K (rI CMul fun i j=>.int (i * j)) (cIc CMul fun i j=>.int (i * j)):=vR fun _ _ _=>.int _
theorem aO {K:DK}:Cop K (rI (fun _ j=>0 < j/\j < 18446744073709551616) fun i j=>.int (i / j)) (cIc (fun _ j=>0 < j/\j < 18446744073709551616) fun i j=>.int (i / j)):=vR fun _ _ _=>.int _
theorem fW {K:DK}:Cop K (rI (fun _ j=>0 < j) fun i j=>.int (i % j)) (cIc (fun _ j=>0 < j) fun i j=>.int (i % j)):=vR fun _ _ _=>.int _
theorem kR {K:DK}:Cop K (rI CPow fun i j=>.int (i ^ j.toNat)) (cIc CPow fun i j=>.int (i ^ j.toNat)):=vR fun _ _ _=>.int _
theorem tY {K:DK}:Cop K (rI0 fun i j=>.bl (decide (i < j))) (cI fun i j=>.bl (decide (i < j))):=KY fun _ _ _=>.bl _
theorem lZ {K:DK}:Cop K (rI0 fun i j=>.bl (decide (j < i))) (cI fun i j=>.bl (decide (j < i))):=KY fun _ _ _=>.bl _
def cNeg:PV->CH->K1->Prop:=fun x C Q=>match x with
 |.int i=>Q (.int (-i)) C
 |_=>False
theorem vM {K:DK}:Cun K (rU fun i=>.int (-i)) cNeg:=fun x px H C Q R rx h q f=>by
 unfold cNeg at q
 split at q
 .cases rx; exact⟨_,rfl,f _ H _ C q (.int _) h Fw.refl⟩
 .exact q.elim
theorem iC {H H':Hp}{C:CH}(s:Same H H'):Fw H C H' C:=fun a c n=>⟨rfl,by
 cases e:H a with
 |none=>exact absurd e n
 |some o=>exact s a o e⟩
theorem iM {K:DK}{H H':Hp}{C:CH}(h:HRel K H C)(s:Same H H'):HRel K H' C:=fun a o c=>by
 obtain⟨u,e,_⟩:=(h a o c).mut;exact(h a o c).imm (fun b v _ e=>s b v e) ((s a u e).trans e.symm)
@[irreducible] def aR:R2C:=fun x y C Q=>match x,y with
 |.int i,.int j=>Q (.int (i+j)) C
 |.str i,.str j=>i.length+j.length<=sizeLine/\Q (.str (i++j)) C
 |.tup xs,.tup ys=>xs.length+ys.length<=sizeLine/\Q (.tup (xs++ys)) C
 |.ref a,.ref b=>match C a,C b with
  |some (.lst xs),some (.lst ys)=>xs.length+ys.length<=sizeLine/\∀p,C p=none->Q (.ref p) (uQ C p (.lst (xs++ys)))
  |_,_=>False
 |_,_=>False
abbrev rAddC:R2:=fun x y H Q=>rI0 (fun i j=>.int (i+j)) x y H Q\/((∃i j,x=.str i/\y=.str j/\i.length+j.length<=sizeLine/\Q (.str (i++j)) H)\/(rCatU x y H Q\/rCat x y H Q))
theorem yX:OpR X (binaryOp .Add) rAddC:=OpR.or op_add (OpR.or yA (OpR.or op_catU op_cat))
theorem gX {K:DK}:Cop K rAddC aR:=fun x y px py H C Q R rx ry h q f=>by
 unfold aR at q
 split at q
 .cases rx; cases ry
  exact .inl ⟨_,_,rfl,rfl,f _ H _ C q (.int _) h Fw.refl⟩
 .cases rx; cases ry
  exact .inr (.inl ⟨_,_,rfl,rfl,q.1,f _ H _ C q.2 (.str _) h Fw.refl⟩)
 .cases rx with
  |tup e r=>cases ry with
   |tup e' r' =>
    refine .inr (.inr (.inl ⟨_,_,_,_,rfl,rfl,e,e',by rw[r.len,r'.len]; exact q.1,fun z H' s hz _=>?_⟩));exact f _ H' _ C q.2 (.tup hz ((r.append r').imm fun b v _ e=>s b v e)) (iM h s) (iC s)
 .split at q
  .next xs ys e1 e2 =>
   obtain⟨vs,ev,rv⟩:=h _ _ e1;obtain⟨us,eu,ru⟩:=h _ _ e2;cases rx; cases ry
   refine .inr (.inr (.inr ⟨_,_,_,_,rfl,rfl,ev,eu,by rw[rv.len,ru.len]; exact q.1,fun p hp=>?_⟩));exact f _ _ _ _ (q.2 p (h.fresh hp)) (.ref p) (h.lay hp ⟨_,dQ,(rv.append ru).imm (Imm.new hp _)⟩) (Fw.lay hp _ _)
  .exact q.elim
 .exact q.elim
noncomputable def sEq:PV->PV->Option Bool
 |.non,.non=>some true | .non,.int _=>some false | .int _,.non=>some false | .non,.bl _=>some false | .bl _,.non=>some false | .non,.str _=>some false | .str _,.non=>some false
 |.int i,.int j=>some (decide (i=j)) | .bl b,.bl c=>some (decide (b=c)) | .str x,.str y=>some (decide (x=y))
 |.int _,.str _=>some false | .str _,.int _=>some false | .bl _,.str _=>some false | .str _,.bl _=>some false
 |_,_=>none
@[irreducible] def cEq (k:Bool->Bool):R2C:=fun x y C Q=>match sEq x y with
 |some b=>Q (.bl (k b)) C
 |none=>False
def toV:PV->Option V
 |.non=>some .non | .bl b=>some (.bl b) | .int i=>some (.int i) | .str x=>some (.str x) | _=>none
theorem Qt {K:DK}{H:Hp}{x v:V}{px:PV}(r:Rep K H x px)(e:toV px=some v):x=v:=by
 cases r<;>cases e<;>rfl
theorem sEq_toV {px py:PV}{b:Bool}(e:sEq px py=some b):∃v u,toV px=some v/\toV py=some u/\scal v u=true/\decide (v=u)=b:=by
 cases px<;>cases py<;>cases e<;>exact⟨_,_,rfl,rfl,rfl,by simp⟩
theorem Qx {K:DK}{H:Hp}{x y:V}{px py:PV}{b:Bool}(rx:Rep K H x px)(ry:Rep K H y py)(e:sEq px py=some b):scal x y=true/\decide (x=y)=b:=by
 obtain⟨v,u,h1,h2,h3,h4⟩:=sEq_toV e;cases Qt rx h1;cases Qt ry h2;exact⟨h3,h4⟩
theorem kX {K:DK}:Cop K rEq (cEq id):=fun x y px py H C Q R rx ry h q f=>by
 unfold cEq at q
 split at q
 .next b e =>
  obtain⟨h1,h2⟩:=Qx rx ry e;refine⟨h1,?_⟩;rw[h2];exact f _ H _ C q (.bl _) h Fw.refl
 .exact q.elim
theorem nI {K:DK}:Cop K rNe (cEq not):=fun x y px py H C Q R rx ry h q f=>by
 unfold cEq at q
 split at q
 .next b e =>
  obtain⟨h1,h2⟩:=Qx rx ry e;refine⟨h1,?_⟩;rw[h2];exact f _ H _ C q (.bl _) h Fw.refl
 .exact q.elim
def X2:PV->Bool
 |.non=>true
 |_=>false
def cIs (k:Bool->Bool):R2C:=fun x y C Q=>match y with
 |.non=>Q (.bl (k (X2 x))) C
 |_=>False
theorem bO {K:DK}{H:Hp}{x:V}{px:PV}(r:Rep K H x px):decide (x=.non)=X2 px:=by
 cases r<;>simp[X2]
theorem cop_isN {K:DK}:Cop K (fun x y H Q=>y=.non/\Q (.bl (decide (x=.non))) H) (cIs id):=fun x y px py H C Q R rx ry h q f=>by
 cases ry with
 |non=>exact⟨rfl,by rw[bO rx]; exact f _ H _ C q (.bl _) h Fw.refl⟩
 |_=>exact q.elim
theorem KW {K:DK}:Cop K (fun x y H Q=>y=.non/\Q (.bl (!decide (x=.non))) H) (cIs not):=fun x y px py H C Q R rx ry h q f=>by
 cases ry with
 |non=>exact⟨rfl,by rw[bO rx]; exact f _ H _ C q (.bl _) h Fw.refl⟩
 |_=>exact q.elim
def cAt (xs:List PV)(i:Int)(C:CH)(Q:K1):Prop:=match atI xs i with
 |some v=>Q v C
 |none=>False
@[irreducible] def cIx:R2C:=fun x y C Q=>match x,y with
 |.tup xs,.int i=>cAt xs i C Q
 |.kt xs,.int i=>cAt xs i C Q
 |.fz xs,.int i=>cAt xs i C Q
 |.ref a,.int i=>match C a with
  |some (.lst xs)=>cAt xs i C Q
  |_=>False
 |.str z,.int i=>z.length<=sizeLine/\match atI z.cps.toList i with
  |some c=>Q (.str ⟨#[c]⟩) C
  |none=>False
 |_,_=>False
theorem Reps.at {K:DK}{H:Hp}{vs:List V}{ts:List PV}{i:Int}{t:PV}(r:Reps K H vs ts)(e:atI ts i=some t):∃v,atI vs i=some v/\Rep K H v t:=by
 unfold atI at e ⊢;rw[r.len]
 cases z:ixN ts.length i with
 |none=>rw[z] at e; cases e
 |some j =>
  rw[z] at e;exact r.get e
theorem eR {K:DK}{H:Hp}{C:CH}{vs:List V}{ts:List PV}{i:Int}{R:K1}(r:Reps K H vs ts)(q:cAt ts i C R):∃v t,atI vs i=some v/\Rep K H v t/\R t C:=by
 unfold cAt at q
 split at q
 .next t e =>
  obtain⟨v,e',r'⟩:=r.at e;exact⟨v,t,e',r',q⟩
 .exact q.elim
theorem cop_ix {K:DK}:Cop K (rIx K) cIx:=fun x y px py H C Q R rx ry h q f=>by
 unfold cIx at q
 split at q
 .cases ry
  cases rx with
  |tup e r =>
   obtain⟨v,t,e',r',q⟩:=eR r q;exact .inr (.inl ⟨_,_,_,v,rfl,rfl,SqT.of e,e',f _ H _ C q r' h Fw.refl⟩)
 .cases ry
  cases rx with
  |kt e r =>
   obtain⟨v,t,e',r',q⟩:=eR r q;exact .inr (.inl ⟨_,_,_,v,rfl,rfl,e,e',f _ H _ C q r' h Fw.refl⟩)
 .cases ry
  cases rx with
  |fz e r =>
   obtain⟨v,t,e',r',q⟩:=eR r q;exact .inl ⟨_,_,_,v,rfl,rfl,e.sq,e',f _ H _ C q r' h Fw.refl⟩
 .cases ry
  split at q
  .next xs e =>
   obtain⟨vs,ev,rv⟩:=h _ _ e;cases rx;obtain⟨v,t,e',r',q⟩:=eR rv q;exact .inl ⟨_,_,_,v,rfl,rfl,SqL.of ev,e',f _ H _ C q r' h Fw.refl⟩
  .exact q.elim
 .cases ry; cases rx
  obtain⟨q1,q2⟩:=q
  split at q2
  .next c e=>exact .inr (.inr ⟨_,_,c,rfl,rfl,q1,e,f _ H _ C q2 (.str _) h Fw.refl⟩)
  .exact q2.elim
 .exact q.elim
theorem ix_seqC:IxR X (rIx X.K):=ix_seq
@[irreducible] def nR:GC:=fun ts C Q=>match ts with
 |[.tup xs]=>Q (.int xs.length) C
 |[.kt xs]=>Q (.int xs.length) C
 |[.fz xs]=>Q (.int xs.length) C
 |[.ref a]=>match C a with
  |some (.lst xs)=>Q (.int xs.length) C
  |some (.dK kvs)=>Q (.int kvs.length) C
  |_=>False
 |[.str z]=>z.length<=sizeLine/\Q (.int z.length) C
 |_=>False
abbrev rLenC (K:DK):List V->Hp->VK->Prop:=fun xs H Q=>(∃p ys,xs=[.ref p]/\(SqL K H p ys\/SqT K H p ys)/\Q (.int ys.length) H)\/((∃a kvs,xs=[V.ref a]/\H a=some (.dK kvs)/\Q (.int kvs.length) H)\/∃z,xs=[.str z]/\z.length<=sizeLine/\Q (.int z.length) H)
theorem Zp:CallR X (.builtin "len") (rLenC X.K):=CallR.or cR (CallR.or Zo dR)
theorem zZ {K:DK}{H:Hp}{xs:List V}{t:PV}(r:Reps K H xs [t]):∃v,xs=[v]/\Rep K H v t:=by
 cases r with
 |cons h r=>cases r; exact⟨_,rfl,h⟩
theorem jD {K:DK}{H:Hp}{xs:List V}{t u:PV}(r:Reps K H xs [t,u]):∃v w,xs=[v,w]/\Rep K H v t/\Rep K H w u:=by
 cases r with
 |cons h r=>obtain⟨w,rfl,h'⟩:=zZ r; exact⟨_,w,rfl,h,h'⟩
theorem cbi_len {K:DK}:Cbi K (rLenC K) nR:=fun xs ps H C Q R rs h q f=>by
 unfold nR at q
 split at q
 .obtain ⟨v,rfl,r⟩:=zZ rs
  cases r with
  |tup e r=>exact .inl ⟨_,_,rfl,.inr (SqT.of e),f _ H _ C (by rw[r.len]; exact q) (.int _) h Fw.refl⟩
 .obtain ⟨v,rfl,r⟩:=zZ rs
  cases r with
  |kt e r=>exact .inl ⟨_,_,rfl,.inr e,f _ H _ C (by rw[r.len]; exact q) (.int _) h Fw.refl⟩
 .obtain ⟨v,rfl,r⟩:=zZ rs
  cases r with
  |fz e r=>exact .inl ⟨_,_,rfl,.inl e.sq,f _ H _ C (by rw[r.len]; exact q) (.int _) h Fw.refl⟩
 .obtain ⟨v,rfl,r⟩:=zZ rs
  split at q
  .next xs e =>
   obtain⟨vs,ev,rv⟩:=h _ _ e;cases r;exact .inl ⟨_,_,rfl,.inl (SqL.of ev),f _ H _ C (by rw[rv.len]; exact q) (.int _) h Fw.refl⟩
  .next kvs e =>
   obtain⟨vs,ev,rv⟩:=h _ _ e;cases r;exact .inr (.inl ⟨_,_,rfl,ev,f _ H _ C (by rw[Paired.length rv]; exact q) (.int _) h Fw.refl⟩)
  .exact q.elim
 .obtain ⟨v,rfl,r⟩:=zZ rs
  cases r;exact .inr (.inr ⟨_,rfl,q.1,f _ H _ C q.2 (.int _) h Fw.refl⟩)
 .exact q.elim
noncomputable def tyP (C:CH):PV->Option Ty
 |.non=>some .non
 |.bl _=>some .bl
 |.int _=>some .int
 |.str _=>some .str
 |.tup _=>some .tup
 |.ref a=>match C a with
  |some (.lst _)=>some .lst
  |some (.dK _)=>some .dct
  |_=>none
 |_=>none
noncomputable def ZH (n:String):Option Ty:=[Ty.non,.bl,.int,.str,.lst,.tup,.dct].find? fun t=>tyName t==n
@[irreducible] def cIsi:GC:=fun ts C Q=>match ts with
 |[x,.ty n]=>match ZH n,tyP C x with
  |some T,some k=>Q (.bl (isIn k T)) C
  |_,_=>False
 |_=>False
def cAbs:GC:=fun ts C Q=>match ts with
 |[.int i]=>Q (.int (if i < 0 then -i else i)) C
 |_=>False
theorem cbi_abs {K:DK}:Cbi K (fun xs H Q=>∃i,xs=[.int i]/\Q (.int (if i < 0 then -i else i)) H) cAbs:=fun xs ps H C Q R rs h q f=>by
 unfold cAbs at q
 split at q
 .obtain ⟨v,rfl,r⟩:=zZ rs
  cases r;exact⟨_,rfl,f _ H _ C q (.int _) h Fw.refl⟩
 .exact q.elim
@[irreducible] def wF:GC:=fun ts C Q=>match ts with
 |[.tup xs]=>Q (.tup xs) C
 |[.ref a]=>match C a with
  |some (.lst xs)=>Q (.tup xs) C
  |_=>False
 |_=>False
theorem cbi_tup {K:DK}:Cbi K (fun xs H Q=>∃p ys,xs=[.ref p]/\((SqL K H p ys/\∀l,H l=none->Q (.ref l) (upd H l (.tup ys)))\/(SqT K H p ys/\Q (.ref p) H))) wF:=fun xs ps H C Q R rs h q f=>by
 unfold wF at q
 split at q
 .obtain ⟨v,rfl,r⟩:=zZ rs
  cases r with
  |tup e r=>exact⟨_,_,rfl,.inr ⟨SqT.of e,f _ H _ C q (.tup e r) h Fw.refl⟩⟩
 .obtain ⟨v,rfl,r⟩:=zZ rs
  split at q
  .next xs e =>
   obtain⟨vs,ev,rv⟩:=h _ _ e;cases r;exact⟨_,_,rfl,.inl ⟨SqL.of ev,fun l hl=>f _ _ _ C q (.tup dQ (rv.imm (Imm.new hl _))) (h.new hl _) (Fw.new hl _)⟩⟩
  .exact q.elim
 .exact q.elim
noncomputable def rF:List PV->Option (List Bool)
 |[]=>some []
 |.bl b::r=>(rF r).map (b :: ·)
 |_=>none
@[irreducible] def cAll:GC:=fun ts C Q=>match ts with
 |[.ref a]=>match C a with
  |some (.lst xs)=>match rF xs with
   |some bs=>Q (.bl (bs.all id)) C
   |none=>False
  |_=>False
 |_=>False
theorem Zq {K:DK}{H:Hp}{vs:List V}{ts:List PV}{bs:List Bool}(r:Reps K H vs ts)(e:rF ts=some bs):vs=bs.map V.bl:=by
 induction ts generalizing vs bs with
 |nil=>cases r; cases e; rfl
 |cons t ts ih =>
  cases r with
  |@cons v _ vs _ h r =>
   cases t with
   |bl b =>
    unfold rF at e
    cases z:rF ts with
    |none=>rw[z] at e; cases e
    |some cs =>
     rw[z] at e;injection e with e
     subst e;cases h;rw[ih r z]; rfl
   |_=>cases e
theorem cbi_all {K:DK}:Cbi K (fun xs H Q=>∃p ys,xs=[.ref p]/\SqL K H p (List.map V.bl ys)/\Q (.bl (ys.all id)) H) cAll:=fun xs ps H C Q R rs h q f=>by
 unfold cAll at q
 split at q
 .obtain ⟨v,rfl,r⟩:=zZ rs
  split at q
  .next xs e =>
   split at q
   .next bs eb =>
    obtain⟨vs,ev,rv⟩:=h _ _ e;cases r;have:=Zq rv eb;subst this;exact⟨_,bs,rfl,SqL.of ev,f _ H _ C q (.bl _) h Fw.refl⟩
   .exact q.elim
  .exact q.elim
 .exact q.elim
def isL (x:PV)(C:CH):Prop:=match x with
 |.ref a=>match C a with
  |some (.lst _)=>True
  |_=>False
 |_=>False
def cBM (cr:PV->List PV->CH->K1->Prop)(co:TCE)(ca:TCA):TCE:=fun ρ C Q=>co ρ C fun x C1=>isL x C1/\ca ρ C1 fun xs C2=>cr x xs C2 Q
def Cmt (K:DK)(r:V->List V->Hp->VK->Prop)(cr:PV->List PV->CH->K1->Prop):Prop:=∀x px xs ps H C Q R,Rep K H x px->Reps K H xs ps->HRel K H C->cr px ps C R->(∀v H' t C',R t C'->Rep K H' v t->HRel K H' C'->Fw H C H' C'->Q v H')->r x xs H Q
theorem Kg {K:DK}{H:Hp}{C:CH}{x:V}{t:PV}(l:isL t C)(r:Rep K H x t)(h:HRel K H C):tyV K "list" x H:=by
 unfold isL at l
 split at l
 .split at l
  .next e=>obtain⟨vs,ev,_⟩:=h _ _ e; cases r; exact .inl ⟨rfl,vs,SqL.of ev⟩
  .exact l.elim
 .exact l.elim
theorem Vd {name:Str}{id:String}{apos cpos:Pos}{r:V->List V->Hp->VK->Prop}{cr:PV->List PV->CH->K1->Prop}{co:TCE}{ca:TCA}(pa:PlainAttrs "list")(slot:Slot "list" name id)(hty:typeOf (.builtin id)=pure (.type "method_descriptor"))(hm:MtR X id r)(hr:Cmt X.K r cr)(ho:CE X o co)(ha:CA X (e::es) ca)
  (hbase:attributeBase o name X.env (eval o X.env)=eval o X.env:=by rfl)
  (hfew:((backTo cpos (starEach (e::es) X.env)).all (fun x=>!x.1)&&(backToKw cpos (keywordEach [] X.env)).all (fun x=>x.1.isSome)
   && decide ((e::es).length+([]:List Keyword).length+(if ([]:List Keyword).isEmpty then 0 else 1) < 30))=true:=by rfl)
  (hline:(apos.endLine==cpos.line)=true:=by rfl) (hs:eQ e=true:=by rfl) (hall:es.all eQ=true:=by rfl) :
  CE X (.Call (.Attribute o name apos) (e::es) [] cpos) (cBM cr co ca):=⟨JE.weak (je_bm pa slot hty hm ho.h ha.h hbase hfew hline hs hall) fun σ H Q ⟨ρ,C,R,s,h,q,f⟩ =>
 ⟨ρ,C,_,s,h,q,fun x H1 px C1 q1 rx h1 f1=>⟨Kg q1.1 rx h1,ρ,C1,_,s.imm (f1.imm h),h1,q1.2,fun xs H2 ps C2 q2 rs h2 f2 =>
  hr x px xs ps H2 C2 Q R (rx.imm (f2.imm h1)) rs h2 q2 fun v H' t C' q' r' h' f'=>f v H' t C' q' r' h' (f1.trans (f2.trans f'))⟩⟩⟩
@[irreducible] def jG:PV->List PV->CH->K1->Prop:=fun x ts C Q=>match x,ts with
 |.ref a,[y]=>match C a with
  |some (.lst xs)=>xs.length < sizeLine/\Q .non (uQ C a (.lst (xs++[y])))
  |_=>False
 |_,_=>False
theorem sI {K:DK}:Cmt K QB jG:=fun x px xs ps H C Q R rx rs h q f=>by
 unfold jG at q
 split at q
 .split at q
  .next ys e =>
   obtain⟨vs,ev,rv⟩:=h _ _ e;obtain⟨v,rfl,r⟩:=zZ rs;cases rx;exact⟨_,vs,v,rfl,rfl,ev,by rw[rv.len]; exact q.1,f _ _ _ _ q.2 .non (h.put ev rfl ⟨_,dQ,(rv.append (.cons r .nil)).imm (Imm.mut ev rfl _)⟩) (Fw.put e _ _)⟩
  .exact q.elim
 .exact q.elim
end
def kK:PV->Option Key
 |.non=>some (.inl none)
 |.int i=>some (.inl (some i))
 |.str x=>some (.inr x)
 |_=>none
def zY:Key->PV
 |.inl none=>.non
 |.inl (some i)=>.int i
 |.inr x=>.str x
theorem keyOf_keyPV (k:Key):kK (zY k)=some k:=by rcases k with (_ | i) | x<;>rfl
theorem Xx {K:DK}{H:Hp}(k:Key):Rep K H (kV k) (zY k):=by
 rcases k with (_ | i) | x
 .exact .non
 .exact .int i
 .exact .str x
theorem jY {K:DK}{H:Hp}{v:V}{t:PV}{k:Key}(r:Rep K H v t)(e:kK t=some k):v=kV k:=by
 cases r<;>cases e<;>rfl
def fZ (kvs:List (Key×PV))(k:Key):Option PV:=(kvs.find? fun kv=>decide (kv.1=k)).map (·.2)
def gZ (kvs:List (Key×PV))(k:Key)(v:PV):List (Key×PV):=if (kvs.any fun kv=>decide (kv.1=k))=true then kvs.map fun kv=>if kv.1=k then (kv.1,v) else kv else kvs++[(k,v)]
def nV (kvs more:List (Key×PV)):List (Key×PV):=more.foldl (fun acc kv=>gZ acc kv.1 kv.2) kvs
section
variable {K:DK}{H:Hp}{vs:List (Key×V)}{kvs:List (Key×PV)}
theorem KP.val (r:KP K H vs kvs)(k:Key):(∃v t,dW vs k=some v/\fZ kvs k=some t/\Rep K H v t)\/(dW vs k=none/\fZ kvs k=none):=by
 induction r with
 |nil=>exact .inr ⟨rfl,rfl⟩
 |@cons p q l1 l2 h r ih =>
  unfold dW fZ;rw[Ap,Ap,h.1]
  by_cases e:q.1=k
  .rw [Af e]
   exact .inl ⟨p.2,q.2,rfl,rfl,h.2⟩
  .rw [AS e]
   exact ih
theorem KP.any (r:KP K H vs kvs)(k:Key):(vs.any fun kv=>decide (kv.1=k))=(kvs.any fun kv=>decide (kv.1=k)):=by
 induction r with
 |nil=>rfl
 |@cons p q l1 l2 h r ih=>rw[BA,BA,h.1,ih]
theorem KP.put (r:KP K H vs kvs)(k:Key){v:V}{t:PV}(h:Rep K H v t):KP K H (pK vs k v) (gZ kvs k t):=by
 unfold pK gZ;rw[r.any k]
 have upd:KP K H (vs.map fun kv=>if kv.1=k then (kv.1,v) else kv) (kvs.map fun kv=>if kv.1=k then (kv.1,t) else kv):=by
  induction r with
  |nil=>exact .nil
  |@cons p q l1 l2 h' r ih =>
   refine .cons ?_ ih;dsimp only
   by_cases e:q.1=k
   .rw [AW (h'.1.trans e),AW e]; exact⟨h'.1,h⟩
   .rw [AT (fun z=>e (h'.1.symm.trans z)),AT e]; exact h'
 split
 .exact upd
 .exact Paired.snoc r ⟨rfl,h⟩
theorem KP.merge {ws:List (Key×V)}{more:List (Key×PV)}(r:KP K H vs kvs)(m:KP K H ws more):KP K H (sV vs ws) (nV kvs more):=by
 induction m generalizing vs kvs with
 |nil=>exact r
 |@cons p q l1 l2 h _ ih =>
  have e:p.1=q.1:=h.1;show KP K H (sV (pK vs p.1 p.2) l1) (nV (gZ kvs q.1 q.2) l2);rw[e];exact ih (r.put q.1 h.2)
end
def dOf:Option CO->Option (List (Key×PV))
 |some (.dK kvs)=>some kvs
 |some (.fK kvs)=>some kvs
 |_=>none
theorem dOf_rd {K:DK}{H:Hp}{C:CH}{a:Addr}{kvs:List (Key×PV)}(h:HRel K H C)(e:dOf (C a)=some kvs):∃vs,Rd H a (.dK vs)/\KP K H vs kvs:=by
 cases c:C a with
 |none=>rw[c] at e; cases e
 |some o =>
  rw[c] at e
  cases o with
  |lst xs=>cases e
  |dT l=>cases e
  |fT l=>cases e
  |dP l=>cases e
  |ins c dx fs=>cases e
  |dK l=>cases e; obtain⟨vs,q,r⟩:=h a _ c; exact⟨vs,.inl q,r⟩
  |fK l=>cases e; obtain⟨o,vs,q,r⟩:=h a _ c; exact⟨vs,.inr ⟨o,q⟩,r⟩
section
variable {X:Cx}{a b c e o i f:Expr}{es:List Expr}{pos:Pos}{value:Expr}
@[irreducible] def wH:R2C:=fun x y C Q=>match x with
 |.ref a=>match dOf (C a),kK y with
  |some kvs,some k=>match fZ kvs k with
   |some v=>Q v C
   |none=>False
  |_,_=>False
 |_=>False
theorem Q0 {K:DK}{H:Hp}{C:CH}{a:Addr}{y:V}{py:PV}{kvs:List (Key×PV)}{k:Key}(h:HRel K H C)(e1:dOf (C a)=some kvs)(ry:Rep K H y py)(e2:kK py=some k):
  (∃v t,DGet H a y (some v)/\fZ kvs k=some t/\Rep K H v t)\/(DGet H a y none/\fZ kvs k=none):=by
 obtain⟨vs,q,r⟩:=dOf_rd h e1;have ey:=jY ry e2;subst ey
 rcases r.val k with ⟨v,t,h1,h2,h3⟩ | ⟨h1,h2⟩
 .exact .inl ⟨v,t,.inl ⟨vs,k,q,rfl,h1.symm⟩,h2,h3⟩
 .exact .inr ⟨.inl ⟨vs,k,q,rfl,h1.symm⟩,h2⟩
theorem wZ {co ci:TCE}(hu:X.A.units+1 < cLine)(ho:CE X o co)(hi:CE X i ci)(hs:Qj i):CE X (.Subscript o i pos) (cOp wH co ci):=⟨JE.weak (QN hu ho.h hi.h hs) fun σ H Q ⟨ρ,C,R,s,h,q,f⟩ =>
 ⟨ρ,C,_,s,h,q,fun x H1 px C1 q1 rx h1 f1=>⟨ρ,C1,_,s.imm (f1.imm h),h1,q1,fun y H2 py C2 q2 ry h2 f2=>by
  unfold wH at q2
  split at q2
  .next a =>
   split at q2
   .next kvs k e1 e2 =>
    split at q2
    .next t e3 =>
     have rx2:=rx.imm (f2.imm h1);cases rx2
     rcases Q0 h2 e1 ry e2 with ⟨v,t',g,e4,r⟩ | ⟨_,e4⟩
     .rw [e3] at e4
      cases e4;exact⟨a,v,rfl,g,f v H2 t C2 q2 r h2 (f1.trans f2)⟩
     .rw [e3] at e4; cases e4
    .exact q2.elim
   .exact q2.elim
  .exact q2.elim⟩⟩⟩
def Ki (x:PV)(C:CH):Prop:=match x with
 |.ref a=>match C a with
  |some (.dK _)=>True
  |_=>False
 |_=>False
@[irreducible] def Xj:PV->PV->PV->CH->K1->Prop:=fun x y z C Q=>match x with
 |.ref a=>match dOf (C a),kK y with
  |some kvs,some k=>Q ((fZ kvs k).getD z) C
  |_,_=>False
 |_=>False
def Vi (co ck cz:TCE):TCE:=fun ρ C Q=>co ρ C fun x C1=>Ki x C1/\ck ρ C1 fun y C2=>cz ρ C2 fun z C3=>Xj x y z C3 Q
theorem isDk_of {K:DK}{H:Hp}{C:CH}{x:V}{t:PV}(d:Ki t C)(r:Rep K H x t)(h:HRel K H C):∃a kvs,x=.ref a/\t=.ref a/\H a=some (.dK kvs):=by
 unfold Ki at d
 split at d
 .split at d
  .next e=>obtain⟨vs,ev,_⟩:=h _ _ e; cases r; exact⟨_,vs,rfl,rfl,ev⟩
  .exact d.elim
 .exact d.elim
theorem K9 {co ck cz:TCE}{apos cpos:Pos}(hu:X.A.units+1 < cLine)(ho:CE X o co)(he:CE X e ck)(hf:CE X f cz)(hb:attributeBase o "get" X.env (eval o X.env)=eval o X.env:=by rfl)(hl:(apos.endLine==cpos.line)=true:=by rfl)
  (h1:eQ e=true:=by rfl) (h2:eQ f=true:=by rfl):CE X (.Call (.Attribute o "get" apos) [e,f] [] cpos) (Vi co ck cz):=⟨JE.weak (yO hu ho.h he.h hf.h hb hl h1 h2) fun σ H Q ⟨ρ,C,R,s,h,q,f⟩ =>
 ⟨ρ,C,_,s,h,q,fun x H1 px C1 q1 rx h1 f1=>by
  obtain⟨a,kvs,rfl,rfl,e1⟩:=isDk_of q1.1 rx h1;refine⟨a,rfl,.inl ⟨kvs,.inl e1⟩,ρ,C1,_,s.imm (f1.imm h),h1,q1.2,fun y H2 py C2 q2 ry h2 f2=>⟨ρ,C2,_,(s.imm (f1.imm h)).imm (f2.imm h1),h2,q2,fun z H3 pz C3 q3 rz h3 f3=>?_⟩⟩;unfold Xj at q3;dsimp only at q3
  split at q3
  .next kvs' k d1 d2 =>
   rcases Q0 h3 d1 (ry.imm (f3.imm h2)) d2 with ⟨v,t',g,e4,r⟩ | ⟨g,e4⟩
   .rw [e4] at q3
    exact⟨some v,g,f v H3 t' C3 q3 r h3 (f1.trans (f2.trans f3))⟩
   .rw [e4] at q3
    exact⟨none,g,f z H3 pz C3 q3 rz h3 (f1.trans (f2.trans f3))⟩
  .exact q3.elim⟩⟩
@[irreducible] def fP:PV->PV->PV->CH->(CH->Prop)->Prop:=fun x y v C Q=>match x with
 |.ref a=>match C a,kK y with
  |some (.dK kvs),some k=>kvs.length < sizeLine/\Q (uQ C a (.dK (gZ kvs k v)))
  |_,_=>False
 |_=>False
def cDPut (co ck cv:TCE):TCS:=fun E ρ C=>cv ρ C fun v C1=>co ρ C1 fun x C2=>ck ρ C2 fun y C3=>fP x y v C3 fun C4=>E.nx ρ C4
theorem yK {pos':Pos}{co ck cv:TCE}(hu:X.A.units+1 < cLine)(ho:CE X o co)(hi:CE X i ck)(hv:CE X value cv)(hs:swapsWith value (some (.Subscript o i pos')) pos.line X.env=pure false:=by rfl):
  CS X (.Assign [.Subscript o i pos'] value pos) (cDPut co ck cv):=⟨JS.weak (QL hu ho.h hi.h hv.h hs) fun D σ H ⟨ρ,C,E,s,h,q,f⟩ =>
 ⟨ρ,C,_,s,h,q,fun v H1 pv C1 q1 rv h1 f1=>⟨ρ,C1,_,s.imm (f1.imm h),h1,q1,fun x H2 px C2 q2 rx h2 f2=>⟨ρ,C2,_,(s.imm (f1.imm h)).imm (f2.imm h1),h2,q2,fun y H3 py C3 q3 ry h3 f3=>by
  have s3:=((s.imm (f1.imm h)).imm (f2.imm h1)).imm (f3.imm h2);have rv3:=rv.imm ((f2.trans f3).imm h1);unfold fP at q3
  split at q3
  .next a =>
   split at q3
   .next kvs k e1 e2 =>
    have rx3:=rx.imm (f3.imm h2);cases rx3;obtain⟨vs,ev,r⟩:=h3 a _ e1;have ey:=jY ry e2;subst ey;have hl:vs.length=kvs.length:=Paired.length r;have m:Imm H3 (upd H3 a (.dK (pK vs k v))):=Imm.mut ev rfl _;refine⟨a,_,rfl,DPut.k ev (by rw[hl]; exact q3.1),f.nx σ _ ρ _ q3.2 (s3.imm m) (h3.put ev rfl ⟨_,dQ,Paired.mapP (r.put k rv3) fun _ _ z=>⟨z.1,z.2.imm m⟩⟩) (f1.trans (f2.trans (f3.trans (Fw.put e1 _ _))))⟩
   .exact q3.elim
  .exact q3.elim⟩⟩⟩⟩
noncomputable def yW:List PV->Option (List (Key×PV))
 |[]=>some []
 |.tup [k,v]::r=>match kK k,yW r with
  |some k,some ps=>some ((k,v)::ps)
  |_,_=>none
 |_=>none
theorem uT {K:DK}{H:Hp}{vs:List V}{ts:List PV}{ps:List (Key×PV)}(r:Reps K H vs ts)(e:yW ts=some ps):∃pa ws,vs=List.map V.ref pa/\xG H pa ws/\KP K H ws ps:=by
 induction ts generalizing vs ps with
 |nil=>cases r; cases e; exact⟨[],[],rfl,.nil,.nil⟩
 |cons t ts ih =>
  cases r with
  |@cons v _ vs _ h r =>
   cases h with
   |@tup a ws xs e1 r1 =>
    rcases xs with _ | ⟨k,_ | ⟨u,_ | ⟨z,xs⟩⟩⟩
    .cases e
    .cases e
    .unfold yW at e
     split at e
     .next k' ps' k1 k2 =>
      cases e;obtain⟨pa,ws',rfl,p1,p2⟩:=ih r k2;obtain⟨v1,v2,rfl,r2,r3⟩:=jD r1;have ek:=jY r2 k1;subst ek;exact⟨a::pa,(k',v2)::ws',rfl,.cons e1 p1,.cons ⟨rfl,r3⟩ p2⟩
     .cases e
    .cases e
   |_=>cases e
@[irreducible] def rD:GC:=fun ts C Q=>match ts with
 |[.tup xs]=>match yW xs with
  |some ps=>ps.length<=sizeLine/\∀p,C p=none->Q (.ref p) (uQ C p (.dK (nV [] ps)))
  |none=>False
 |_=>False
theorem Vf {K:DK}:Cbi K (fun xs H Q=>∃t pa ps,xs=[.ref t]/\H t=some (.tup (List.map V.ref pa))/\xG H pa ps/\ps.length<=sizeLine/\∀d,H d=none->Q (.ref d) (upd H d (.dK (sV [] ps)))) rD:=fun xs ts H C Q R rs h q f=>by
 unfold rD at q
 split at q
 .split at q
  .next ps e =>
   obtain⟨v,rfl,r⟩:=zZ rs
   cases r with
   |@tup a vs xs e1 r1 =>
    obtain⟨pa,ws,rfl,p1,p2⟩:=uT r1 e;refine⟨a,pa,ws,rfl,e1,p1,by rw[Paired.length p2]; exact q.1,fun d hd=>?_⟩;exact f _ _ _ _ (q.2 d (h.fresh hd)) (.ref d) (h.lay hd ⟨_,dQ,Paired.mapP (KP.merge .nil p2) fun _ _ z=>⟨z.1,z.2.imm (Imm.new hd _)⟩⟩) (Fw.lay hd _ _)
  .exact q.elim
 .exact q.elim
@[irreducible] def cUpdP:PV->List PV->CH->K1->Prop:=fun x ts C Q=>match x,ts with
 |.ref a,[.tup xs]=>match C a,yW xs with
  |some (.dK kvs),some ps=>kvs.length+ps.length<=sizeLine/\Q .non (uQ C a (.dK (nV kvs ps)))
  |_,_=>False
 |_,_=>False
@[irreducible] def cItems (co:TCE):TCE:=fun ρ C Q=>co ρ C fun x C1=>match x with
 |.ref a=>match C1 a with
  |some (.dK _)=>Q (.vw a) C1
  |_=>False
 |_=>False
end
end CL
namespace CL
open PySem PySem.Spec L2 PySem.W
open PyProof.Rows hiding St
def rQ (c:Str×Int):PV:=.tup [.str c.1,.int c.2]
noncomputable def eE:List PV->Option (List (Str×Int))
 |[]=>some []
 |.tup [.str x,.int i]::r=>(eE r).map ((x,i) :: ·)
 |_=>none
noncomputable def siK:List (Key×PV)->Option (List (Str×Int))
 |[]=>some []
 | (.inr x,.int i)::r=>(siK r).map ((x,i) :: ·)
 |_=>none
def aE (cs:List (Str×Int)):Nat->Nat->Bool:=fun i j=>JV (cs.getD i ("",0)) (cs.getD j ("",0))
def dY (cs:List (Str×Int)):List (Str×Int):=(eG (aE cs) (kas_sort cs.length)).toList.map fun i=>cs.getD i ("",0)
theorem pS:∀cs:List (Str×Int),eE (cs.map rQ)=some cs
 |[]=>rfl
 |c::cs=>by
  show(eE (cs.map rQ)).map _=_;rw[pS cs]; rfl
theorem siOf_eq {ts:List PV}{cs:List (Str×Int)}(e:eE ts=some cs):ts=cs.map rQ:=by
 induction ts generalizing cs with
 |nil=>cases e; rfl
 |cons t ts ih =>
  unfold eE at e
  split at e
  .rename_i h; cases h
  .rename_i x i r h
   cases h
   cases z:eE ts with
   |none=>rw[z] at e; cases e
   |some ds =>
    rw[z] at e;cases e;rw[ih z]; rfl
  .cases e
theorem siK_eq {ts:List (Key×PV)}{cs:List (Str×Int)}(e:siK ts=some cs):ts=cs.map fun c=>(Sum.inr c.1,PV.int c.2):=by
 induction ts generalizing cs with
 |nil=>cases e; rfl
 |cons t ts ih =>
  unfold siK at e
  split at e
  .rename_i h; cases h
  .rename_i x i r h
   cases h
   cases z:siK ts with
   |none=>rw[z] at e; cases e
   |some ds =>
    rw[z] at e;cases e;rw[ih z]; rfl
  .cases e
section
variable {K:DK}{H:Hp}{X:Cx}
theorem si_at {ys:List V}{cs:List (Str×Int)}(r:Reps K H ys (cs.map rQ)):∀i,i < ys.length->Vp H (ys.getD i .non) (cs.getD i ("",0)):=by
 induction cs generalizing ys with
 |nil=>cases r; intro i hi; exact absurd hi (CK i)
 |cons c cs ih =>
  cases r with
  |@cons v _ vs _ h r =>
   intro i hi
   cases i with
   |zero =>
    cases h with
    |tup e r1 =>
     obtain⟨v1,v2,rfl,r2,r3⟩:=jD r1;cases r2; cases r3
     exact⟨_,rfl,e⟩
   |succ i=>exact ih r i (Be hi)
theorem Reps.getD {ys:List V}{ts:List PV}(r:Reps K H ys ts){d:PV}:∀i,i < ys.length->Rep K H (ys.getD i .non) (ts.getD i d):=by
 induction ts generalizing ys with
 |nil=>cases r; intro i hi; exact absurd hi (CK i)
 |cons c cs ih =>
  cases r with
  |@cons v _ vs _ h r =>
   intro i hi
   cases i with
   |zero=>exact h
   |succ i=>exact ih r i (Be hi)
theorem QI {ys:List V}{cs:List (Str×Int)}(lt:Nat->Nat->Bool)(r:Reps K H ys (cs.map rQ)):Reps K H (rG lt ys) (((eG lt (kas_sort cs.length)).toList.map fun i=>cs.getD i ("",0)).map rQ):=by
 have hl:ys.length=cs.length:=by rw[r.len,AA]
 unfold rG;rw[hl]
 have mem:∀i∈(eG lt (kas_sort cs.length)).toList,i < ys.length:=by
  intro i hi
  by_cases h:0 < cs.length
  .have:=(xY lt cs.length h).mem_iff.mp hi
   rw[hl]; exact Az.mp this
  .have e:cs.length=0:=by omega
   rw[e] at hi;rw[run0] at hi;cases hi
 generalize (eG lt (kas_sort cs.length)).toList=l at mem ⊢
 induction l with
 |nil=>exact .nil
 |cons i l ih =>
  refine .cons ?_ (ih fun j hj=>mem j (AG _ hj));have h1:=r.getD (d:=rQ ("",0)) i (mem i AD)
  have h2:(cs.map rQ).getD i (rQ ("",0))=rQ (cs.getD i ("",0)):=by
   rw[Ao,Aj,Ao];cases cs[i]?<;>rfl
  rw[h2] at h1;exact h1
@[irreducible] def pD:GC:=fun ts C Q=>match ts with
 |[.ref a]=>match C a with
  |some (.lst xs)=>match eE xs with
   |some cs=>cs.length < 64/\∀p,C p=none->Q (.ref p) (uQ C p (.lst ((dY cs).map rQ)))
   |none=>False
  |_=>False
 |[.vw a]=>match C a with
  |some (.dK kvs)=>match siK kvs with
   |some cs=>cs.length < 64/\∀p,C p=none->Q (.ref p) (uQ C p (.lst ((dY cs).map rQ)))
   |none=>False
  |_=>False
 |_=>False
abbrev Qz (X:Cx):List V->Hp->VK->Prop:=fun xs H Q=>(∃l ys lt,xs=[.ref l]/\SqL X.K H l ys/\ys.length < 64/\Srt X H ys lt/\∀p,H p=none->Q (.ref p) (upd H p (.lst (rG lt ys)))) \/
 (∃v d kvs lt,xs=[.ref v]/\H v=some (.ext (wV v d))/\H d=some (.dK kvs)/\kvs.length < 64 /\
  ∀as H1,Same H H1->xG H1 as kvs->(∀a∈as,H a=none)->(∀a,H a=none->H1 a≠none->a∈as)->Srt X H1 (List.map V.ref as) lt/\∀p,H1 p=none->Q (.ref p) (upd H1 p (.lst (rG lt (List.map V.ref as)))))
theorem yM (hc:X.calm=true):CallR X (.builtin "sorted") (Qz X):=CallR.or wE (pR hc)
theorem gP:Cbi X.K (Qz X) pD:=fun xs ts H C Q R rs h q f=>by
 unfold pD at q
 split at q
 .obtain ⟨v,rfl,r⟩:=zZ rs
  split at q
  .next xs e =>
   split at q
   .next cs e2 =>
    have ex:=siOf_eq e2;subst ex;obtain⟨vs,ev,rv⟩:=h _ _ e;cases r;have hl:vs.length=cs.length:=by rw[rv.len,AA]
    refine .inl ⟨_,vs,aE cs,rfl,SqL.of ev,by rw[hl]; exact q.1,ZS _ (si_at rv),fun p hp=>?_⟩;exact f _ _ _ _ (q.2 p (h.fresh hp)) (.ref p) (h.lay hp ⟨_,dQ,(QI (aE cs) rv).imm (Imm.new hp _)⟩) (Fw.lay hp _ _)
   .exact q.elim
  .exact q.elim
 .obtain ⟨v,rfl,r⟩:=zZ rs
  split at q
  .next kvs e =>
   split at q
   .next cs e2 =>
    have ex:=siK_eq e2;subst ex;obtain⟨vs,ev,rv⟩:=h _ _ e
    cases r with
    |vw hv =>
     have hl:vs.length=cs.length:=by rw[Paired.length rv,AA]
     refine .inr ⟨_,_,vs,aE cs,rfl,hv,ev,by rw[hl]; exact q.1,fun as H1 sm pa fr on=>?_⟩
     have rr:Reps X.K H1 (List.map V.ref as) (cs.map rQ):=by
      clear hl fr on q e ev e2
      induction cs generalizing vs as with
      |nil=>cases rv; cases pa; exact .nil
      |cons c cs ih =>
       cases rv with
       |@cons p q l1 l2 h' rv =>
        cases pa with
        |@cons a _ l _ e1 pa =>
         obtain⟨k,v'⟩:=p;obtain⟨e3,e4⟩:=h';cases e3;cases e4;exact .cons (.tup e1 (.cons (.str _) (.cons (.int _) .nil))) (ih (vs:=l1) rv l pa)
     refine⟨ZS _ (si_at rr),fun p hp=>?_⟩;have h1:=iM h sm;exact f _ _ _ _ (q.2 p (h1.fresh hp)) (.ref p) (h1.lay hp ⟨_,dQ,(QI (aE cs) rr).imm (Imm.new hp _)⟩) ((iC sm).trans (Fw.lay hp _ _))
   .exact q.elim
  .exact q.elim
 .exact q.elim
end
section
variable {X:Cx}{pos:Pos}
@[irreducible] def tR (ce:TCE)(t:TCT)(c:TCE):TCE:=fun ρ C Q=>ce ρ C fun x C1=>match x with
 |.ref d=>match C1 d with
  |some (.dK kvs)=>yZ t c ρ (fun v C2=>C2 d=some (.fK kvs)/\Q v (uQ C2 d (.dK kvs))) (kvs.map fun p=>zY p.1) [] (uQ C1 d (.fK kvs))
  |_=>False
 |_=>False
structure ItOn (K:DK)(S:Hp->Prop)(J:It)(ps:List PV):Prop where
 go:∀i H',i < ps.length->S H'->J.go i H'
 yl:∀i H' x H'',S H'->J.yld i H' x H''->H''=H'/\∀t,ps[i]?=some t->Rep K H' x t
 st:∀H',S H'->J.stop ps.length H'
theorem comp_on {K:DK}{H H0:Hp}{C C0:CH}{σ:St}{ρ:CSt}{J:It}{ps:List PV}{t:TCT}{c:TCE}{R:K1}{Q:VK}{S:Hp->Prop}(j:ItOn K S J ps)(hS:∀H' C',HRel K H' C'->Fw H C H' C'->S H')(s:SRel K H σ ρ)(h:HRel K H C)(q:yZ t c ρ R ps [] C)
  (h0:HRel K H0 C0) (f0:Fw H0 C0 H C) (f:∀v H' p C',R p C'->Rep K H' v p->HRel K H' C'->Fw H0 C0 H' C'->Q v H') {D:Addr} (hD:H D=none) :
  ∃W:Nat->Nat->List V->Hp->Prop,(∃m,W 0 m [] (upd H D (.lst [])))/\∀i m ys H,W i m ys H ->
   (J.stop i H/\Q (.ref D) H)\/(J.go i H/\∀x H',J.yld i H x H'->sZ K sB t (some x::σ) H' fun b H2 =>
    if b=true then sZ K (Rep K) c (some x::σ) H2 fun y H3=>H3 D=some (.lst ys)/\ys.length < sizeLine/\∃m',m' < m/\W (i+1) m' (ys++[y]) (upd H3 D (.lst (ys++[y])))
    else ∃m',m' < m/\W (i+1) m' ys H2):=by
 have fD:∀{H':Hp} {C':CH},Fw H C H' C'->True:=fun _=>trivial
 refine⟨fun i m ys H'=>m=ps.length - i/\i<=ps.length/\∃acc C',H' D=some (.lst ys)/\C' D=none/\Reps K H' ys acc/\HRel K H' C'/\Fw H C H' C'/\yZ t c ρ R (ps.drop i) acc C',
  ⟨ps.length,rfl,AV _,[],C,dQ,h.fresh hD,.nil,h.new hD _,Fw.new hD _,q⟩,?_⟩
 rintro i m ys H1 ⟨rfl,hi,acc,C1,e1,n1,r1,h1,f1,q1⟩;have k1:Imm H H1:=f1.imm h
 by_cases hlt:i < ps.length
 .refine .inr ⟨j.go i H1 hlt (hS H1 C1 h1 f1),fun x H2 y=>?_⟩
  obtain⟨rfl,y⟩:=j.yl i H1 x H2 (hS H1 C1 h1 f1) y;have rx:=y _ (AM hlt);rw[Aq hlt] at q1;refine⟨some ps[i]::ρ,C1,_,.cons rx (s.imm k1),h1,q1,fun b H3 b' C3 q3 e h3 f3=>?_⟩;cases e;obtain⟨n3,e3⟩:=f3 D (by rw[n1]; rfl) (by rw[e1]; exact fun z=>nomatch z);rw[e1] at e3;rw[n1] at n3;have k3:=f3.imm h1
  cases b with
  |true =>
   rw[AW rfl] at q3 ⊢;refine⟨some ps[i]::ρ,C3,_,.cons (rx.imm k3) ((s.imm k1).imm k3),h3,q3,fun v H4 p C4 q4 r4 h4 f4=>?_⟩;obtain⟨n4,e4⟩:=f4 D (by rw[n3]; rfl) (by rw[e3]; exact fun z=>nomatch z);rw[e3] at e4;rw[n3] at n4;have k4:=f4.imm h3;have m4:Imm H4 (upd H4 D (.lst (ys++[v]))):=Imm.mut e4 rfl _;refine⟨e4,by rw[r1.len]; exact q4.1,ps.length - (i+1),by omega,rfl,hlt,acc++[p],C4,dQ,n4,?_,?_,?_,q4.2⟩
   .exact (((r1.imm k3).imm k4).append (.cons r4 .nil)).imm m4
   .intro a o ca
    have ne:a≠D:=fun z=>by subst z; rw[n4] at ca; cases ca
    exact(h4 a o ca).imm m4 (nQ ne)
   .intro a ca na
    have ne:a≠D:=fun z=>na (z▸hD);obtain⟨x1,x2⟩:=(f1.trans (f3.trans f4)) a ca na;exact⟨x1,(nQ ne).trans x2⟩
  |false =>
   rw[AT AL] at q3 ⊢;exact⟨ps.length - (i+1),by omega,rfl,hlt,acc,C3,e3,n3,r1.imm k3,h3,f1.trans f3,q3⟩
 .have e:i=ps.length:=by omega
  subst e;rw[Br] at q1;refine .inl ⟨j.st H1 (hS H1 C1 h1 f1),f (.ref D) H1 (.ref D) _ (q1 D n1) (.ref D) ?_ ?_⟩
  .intro a o ca
   by_cases z:a=D
   .subst z; rw[jQ] at ca; cases ca; exact⟨ys,e1,r1⟩
   .rw [wQ z] at ca; exact h1 a o ca
  .intro a ca na
   obtain⟨x1,x2⟩:=f0 a ca na;have na':H a≠none:=by rw[x2]; exact na
   have ne:a≠D:=fun z=>na' (z▸hD);obtain⟨y1,y2⟩:=f1 a (by rw[x1]; exact ca) na';exact⟨(wQ ne).trans (y1.trans x1),y2.trans x2⟩
theorem it_dict {K:DK}{o:Obj}{d:Addr}{vs:List (Key×V)}{kvs:List (Key×PV)}(e:vs.map (·.1)=kvs.map (·.1)):ItOn K (fun H'=>H' d=some (.frz o (.dK vs))) (Itd o d vs) (kvs.map fun p=>zY p.1) where
 go:=fun i H' l s=>⟨by
  have:(vs.map (·.1)).length=(kvs.map (·.1)).length:=by rw[e]
  rw[AA,AA] at this;rw[AA] at l
  omega,s⟩
 yl:=fun i H' x H'' s y=>⟨y.1,fun t et=>by
  obtain⟨p,hp,rfl⟩:=y.2;have h1:(vs.map (·.1))[i]?=some p.1:=by rw[Aj,hp]; rfl
  rw[e,Aj] at h1;rw[Aj] at et
  cases z:kvs[i]? with
  |none=>rw[z] at et; cases et
  |some q =>
   rw[z] at et h1;cases et;have h1:q.1=p.1:=Ar h1;show Rep K H' (kV p.1) (zY q.1);rw[h1]
   exact Xx p.1⟩
 st:=fun H' s=>⟨by
  have:(vs.map (·.1)).length=(kvs.map (·.1)).length:=by rw[e]
  rw[AA,AA] at this;rw[AA]
  omega,s⟩
theorem KP.keys {K:DK}{H:Hp}{vs:List (Key×V)}{kvs:List (Key×PV)}(r:KP K H vs kvs):vs.map (·.1)=kvs.map (·.1):=by
 induction r with
 |nil=>rfl
 |cons h _ ih=>rw[Ac,Ac,h.1,ih]
theorem Vb {elt iter:Expr}{x:Str}{px:Pos}{ifs:List Expr}{scope:Scope}{ce:TCE}{t:TCT}{c:TCE}
  (hc:X.calm=true) (hN:(x::X.N).Nodup) (K:∃cl,zU X x scope cl) (hi:CE X iter ce)
  (ht:∀cl fp C s₂ H₂,CF (gJ X x scope cl fp C s₂ H₂) ifs t) (he:∀cl fp C s₂ H₂,CE (gJ X x scope cl fp C s₂ H₂) elt c)
  (hs:∀v,foldedSetIterable iter X.env v=pure v:=by intro _; rfl):CE X (.ListComp elt [⟨.Name x px,iter,ifs,0⟩] scope pos) (tR ce t c) :=
 ⟨JE.weak (je_thaw (aL (te:=sZ X.K (Rep X.K) c) (tc:=sZ X.K sB t) hc hN K (ji_dict hi.h) (fun cl fp C s₂ H₂=>(ht cl fp C s₂ H₂).h) (fun cl fp C s₂ H₂=>(he cl fp C s₂ H₂).h) hs)) fun σ H Q ⟨ρ,C,R,s,h,q,f⟩=>by
  unfold tR at q
  exact⟨ρ,C,_,s,h,q,fun xv H1 px C1 q1 rx h1 f1=>by
   split at q1
   .next d =>
    split at q1
    .next kvs e =>
     obtain⟨vs,ev,r⟩:=h1 d _ e;cases rx;refine⟨d,vs,rfl,ev,fun o nf D hD=>?_⟩;have m:Imm H1 (upd H1 d (.frz o (.dK vs))):=Imm.mut ev rfl _;have h2:HRel X.K (upd H1 d (.frz o (.dK vs))) (uQ C1 d (.fK kvs)):=h1.put ev rfl ⟨o,vs,dQ,Paired.mapP r fun _ _ z=>⟨z.1,z.2.imm m⟩⟩;have f2:Fw H1 C1 (upd H1 d (.frz o (.dK vs))) (uQ C1 d (.fK kvs)):=Fw.put e _ _
     have stays:∀H' C',Fw (upd H1 d (.frz o (.dK vs))) (uQ C1 d (.fK kvs)) H' C'->H' d=some (.frz o (.dK vs)):=fun H' C' g=>by
      have:=(g d (by rw[jQ]; rfl) (by rw[dQ]; exact fun z=>nomatch z)).2;rw[this,dQ]
     refine comp_on (Q:=fun v H'=>∃d o kvs,H' d=some (.frz o (.dK kvs))/\NF X d/\Q v (upd H' d (.dK kvs))) (H0:=upd H1 d (.frz o (.dK vs))) (C0:=uQ C1 d (.fK kvs)) (it_dict r.keys) (fun H' C' _ g=>stays H' C' g) ((s.imm (f1.imm h)).imm m) h2 q1 h2 Fw.refl (fun v H' p C' q' r' h' f'=>?_) hD;obtain⟨e1,q2⟩:=q';have e2:=stays H' C' f';refine⟨d,o,vs,e2,nf,?_⟩;have m':Imm H' (upd H' d (.dK vs)):=Imm.mut e2 rfl _
     obtain⟨o',vs',e3,r3⟩:=h' d _ e1;rw[e2] at e3;cases e3;refine f v _ p _ q2 (r'.imm m') (h'.put e2 rfl ⟨vs,dQ,Paired.mapP r3 fun _ _ z=>⟨z.1,z.2.imm m'⟩⟩) ?_;intro a ca na;obtain⟨x1,x2⟩:=(f1.trans (f2.trans f')) a ca na
     have ne:a≠d:=fun z=>by
      subst z;obtain⟨y1,y2⟩:=f1 a ca na;rw[<- y1,e] at ca;cases ca
     exact⟨(wQ ne).trans x1,(nQ ne).trans x2⟩
    .exact q1.elim
   .exact q1.elim⟩⟩
end
section
variable {X:Cx}{a b c e o i f:Expr}{es:List Expr}{pos:Pos}{value:Expr}
abbrev relO:Hp->Option Int->Option Int->Prop:=fun _ a b=>a=b
abbrev TCO:=CSt->CH->(Option Int->CH->Prop)->Prop
structure CPt (X:Cx)(e:Option Expr)(c:TCO):Prop where
 h:JO X e (sZ X.K relO c)
theorem JO.weak {e:Option Expr}{t t':TO}(h:JO X e t)(w:∀σ H Q,t' σ H Q->t σ H Q):JO X e t':=⟨fun pins s σ H Q I q=>h.h pins s σ H Q I (w σ H Q q)⟩
def cNoPart:TCO:=fun _ C Q=>Q none C
def cPart (ce:TCE):TCO:=fun ρ C Q=>ce ρ C fun t C1=>match t with
 |.int i=>Q (some i) C1
 |_=>False
theorem uR:CPt X none cNoPart:=⟨JO.weak jo_none fun σ H Q ⟨ρ,C,R,s,h,q,f⟩=>f none H none C q rfl h Fw.refl⟩
theorem yR {ce:TCE}(h:CE X e ce):CPt X (some e) (cPart ce):=⟨JO.weak (jo_some h.h) fun σ H Q ⟨ρ,C,R,s,h,q,f⟩=>⟨ρ,C,_,s,h,q,fun x H1 px C1 q1 rx h1 f1=>by
 split at q1
 .cases rx; exact⟨_,rfl,f _ H1 _ C1 q1 rfl h1 f1⟩
 .exact q1.elim⟩⟩
def kH (xs:List PV)(lo hi:Option Int):List PV:=(xs.drop (HT.sIx xs.length 0 lo)).take (HT.sIx xs.length xs.length hi - HT.sIx xs.length 0 lo)
theorem Reps.cut {K:DK}{H:Hp}{vs:List V}{ts:List PV}(r:Reps K H vs ts)(lo hi:Option Int):Reps K H (Zf vs lo hi) (kH ts lo hi):=by
 unfold Zf kH;rw[r.len];exact(r.drop _).take _
@[irreducible] def cSlL:PV->Option Int->Option Int->CH->K1->Prop:=fun x lo hi C Q=>match x with
 |.ref a=>match C a with
  |some (.lst xs)=>∀p,C p=none->Q (.ref p) (uQ C p (.lst (kH xs lo hi)))
  |_=>False
 |_=>False
def cSl (cr:PV->Option Int->Option Int->CH->K1->Prop)(ce:TCE)(cl ch:TCO):TCE:=fun ρ C Q=>ce ρ C fun x C1=>cl ρ C1 fun l C2=>ch ρ C2 fun u C3=>cr x l u C3 Q
theorem eI {lo hi:Option Expr}{ce:TCE}{cl ch:TCO}{p2:Pos}(he:CE X e ce)(hl:CPt X lo cl)(hu:CPt X hi ch):CE X (.Subscript e (.Slice lo hi none p2) pos) (cSl cSlL ce cl ch):=⟨JE.weak (J9 sl_list he.h hl.h hu.h) fun σ H Q ⟨ρ,C,R,s,h,q,f⟩ =>
 ⟨ρ,C,_,s,h,q,fun x H1 px C1 q1 rx h1 f1=>⟨ρ,C1,_,s.imm (f1.imm h),h1,q1,fun l H2 l' C2 q2 e2 h2 f2=>⟨ρ,C2,_,(s.imm (f1.imm h)).imm (f2.imm h1),h2,q2,fun u H3 u' C3 q3 e3 h3 f3=>by
  cases e2; cases e3
  unfold cSlL at q3
  split at q3
  .split at q3
   .next xs e =>
    obtain⟨vs,ev,r⟩:=h3 _ _ e;have rx3:=rx.imm ((f2.trans f3).imm h1);cases rx3;exact⟨_,vs,rfl,SqL.of ev,fun p hp=>f _ _ _ _ (q3 p (h3.fresh hp)) (.ref p) (h3.lay hp ⟨_,dQ,(r.cut l u).imm (Imm.new hp _)⟩) (f1.trans (f2.trans (f3.trans (Fw.lay hp _ _))))⟩
   .exact q3.elim
  .exact q3.elim⟩⟩⟩⟩
theorem Q7 {i:Nat}{y x:Str}{py px pos spos:Pos}{elt iter:Expr}{ifs:List Expr}{scope:Scope}{wi:TI}{ci:CSt->CH->(List PV->CH->Prop)->Prop}{t:TCT}{c:TCE}
  (hNd:X.N.Nodup) (hi:X.N[i]?=some y) (hy:Loc X.env.scope y) (hc:X.calm=true) (hN:(x::X.N).Nodup) (K:∃cl,zU X x scope cl) (hI:CI X (.Name x px) iter wi ci)
  (ht:∀cl fp C s₂ H₂,CF (gJ X x scope cl fp C s₂ H₂) ifs t) (he:∀cl fp C s₂ H₂,CE (gJ X x scope cl fp C s₂ H₂) elt c)
  (hs:∀v,foldedSetIterable iter X.env v=pure v:=by intro _; rfl)
  (hsw:swapsWith (.ListComp elt [⟨.Name x px,iter,ifs,0⟩] scope pos) (some (.Name y py)) spos.line X.env=pure true:=by rfl)
  (hf:X.fn y=true\/X.env.scope.names.lookup y=some .local:=by first | exact .inl rfl | exact .inr rfl | assumption) :
  CS X (.Assign [.Name y py] (.ListComp elt [⟨.Name x px,iter,ifs,0⟩] scope pos) spos) (Qc i (Vj ci t c)):=by
 obtain⟨cl,K⟩:=K;refine⟨JS.weak (js_setC (te:=sZ X.K (Rep X.K) c) (tc:=sZ X.K sB t) hNd hi hy hc hN K hI.j (fun fp C s₂ H₂=>(ht cl fp C s₂ H₂).h) (fun fp C s₂ H₂=>(he cl fp C s₂ H₂).h) hs hsw hf) fun D σ H ⟨ρ,C,E,s,h,q,f⟩=>?_⟩;exact iH (Q:=fun x H'=>D.nx (σ.set i (some x)) H') hI ⟨ρ,C,_,s,h,q,fun x H1 px C1 q1 rx h1 f1=>f.nx _ H1 _ C1 q1 ((s.imm (f1.imm h)).set rx i) h1 f1⟩
theorem tT (k:Nat)(σ:St):Vs k (σ.set k none):=fun v e=>by
 rw[List.getElem?_set_self'] at e
 cases hk:σ[k]? with
 |none=>rw[hk] at e; cases e
 |some x=>rw[hk] at e; cases e
theorem SRel.unset {K:DK}{H:Hp}{σ:St}{ρ:CSt}(s:SRel K H σ ρ)(k:Nat):SRel K H (σ.set k none) (ρ.set k none):=by
 induction s generalizing k with
 |nil=>exact .nil
 |cons h' r ih =>
  cases k with
  |zero=>exact .cons trivial r
  |succ k=>exact .cons h' (ih k)
def cRetAt (k:Nat)(ce:TCE):TCS:=fun E ρ C=>ce (ρ.set k none) C E.rt
theorem KQ (k:Nat){ce:TCE}(he:CE (X.at_ k) e ce):CS X (.Return (some e) pos) (cRetAt k ce):=⟨JS.weak (js_fg k (J6 (je_drop k he.h))) fun D σ H ⟨ρ,C,E,s,h,q,f⟩ =>
 ⟨tT k σ,ρ.set k none,C,_,s.unset k,h,q,fun x H1 px C1 q1 rx h1 f1=>f.rt x H1 px C1 q1 rx h1 f1⟩⟩
def iV (S:CH->Prop)(t:TCT)(c:TCE)(ρ:CSt)(Q:K1):List PV->List PV->CH->Prop
 |[],acc,C=>S C/\∀p,C p=none->Q (.ref p) (uQ C p (.lst acc))
 |x::r,acc,C=>S C/\t (some x::ρ) C fun b C1=>if b=true then c (some x::ρ) C1 fun y C2=>acc.length < sizeLine/\iV S t c ρ Q r (acc++[y]) C2 else iV S t c ρ Q r acc C1
structure ItS (K:DK)(S:CH->Prop)(J:It)(ps:List PV):Prop where
 go:∀i H' C',i < ps.length->HRel K H' C'->S C'->J.go i H'
 yl:∀i H' C' x H'',HRel K H' C'->S C'->J.yld i H' x H''->H''=H'/\∀t,ps[i]?=some t->Rep K H' x t
 st:∀H' C',HRel K H' C'->S C'->J.stop ps.length H'
theorem comp_S {K:DK}{H H0:Hp}{C C0:CH}{σ:St}{ρ:CSt}{J:It}{ps:List PV}{t:TCT}{c:TCE}{R:K1}{Q:VK}{S:CH->Prop}(j:ItS K S J ps)(s:SRel K H σ ρ)(h:HRel K H C)(q:iV S t c ρ R ps [] C)
  (h0:HRel K H0 C0) (f0:Fw H0 C0 H C) (f:∀v H' p C',R p C'->Rep K H' v p->HRel K H' C'->Fw H0 C0 H' C'->Q v H') {D:Addr} (hD:H D=none) :
  ∃W:Nat->Nat->List V->Hp->Prop,(∃m,W 0 m [] (upd H D (.lst [])))/\∀i m ys H,W i m ys H ->
   (J.stop i H/\Q (.ref D) H)\/(J.go i H/\∀x H',J.yld i H x H'->sZ K sB t (some x::σ) H' fun b H2 =>
    if b=true then sZ K (Rep K) c (some x::σ) H2 fun y H3=>H3 D=some (.lst ys)/\ys.length < sizeLine/\∃m',m' < m/\W (i+1) m' (ys++[y]) (upd H3 D (.lst (ys++[y])))
    else ∃m',m' < m/\W (i+1) m' ys H2):=by
 have fD:∀{H':Hp} {C':CH},Fw H C H' C'->True:=fun _=>trivial
 refine⟨fun i m ys H'=>m=ps.length - i/\i<=ps.length/\∃acc C',H' D=some (.lst ys)/\C' D=none/\Reps K H' ys acc/\HRel K H' C'/\Fw H C H' C'/\iV S t c ρ R (ps.drop i) acc C',
  ⟨ps.length,rfl,AV _,[],C,dQ,h.fresh hD,.nil,h.new hD _,Fw.new hD _,q⟩,?_⟩
 rintro i m ys H1 ⟨rfl,hi,acc,C1,e1,n1,r1,h1,f1,q1⟩;have k1:Imm H H1:=f1.imm h
 have q0:S C1:=by
  cases z:ps.drop i with
  |nil=>rw[z] at q1; exact q1.1
  |cons x r=>rw[z] at q1; exact q1.1
 by_cases hlt:i < ps.length
 .refine .inr ⟨j.go i H1 C1 hlt h1 q0,fun x H2 y=>?_⟩
  obtain⟨rfl,y⟩:=j.yl i H1 C1 x H2 h1 q0 y;have rx:=y _ (AM hlt);rw[Aq hlt] at q1
  replace q1:=q1.2
  refine⟨some ps[i]::ρ,C1,_,.cons rx (s.imm k1),h1,q1,fun b H3 b' C3 q3 e h3 f3=>?_⟩;cases e;obtain⟨n3,e3⟩:=f3 D (by rw[n1]; rfl) (by rw[e1]; exact fun z=>nomatch z);rw[e1] at e3;rw[n1] at n3;have k3:=f3.imm h1
  cases b with
  |true =>
   rw[AW rfl] at q3 ⊢;refine⟨some ps[i]::ρ,C3,_,.cons (rx.imm k3) ((s.imm k1).imm k3),h3,q3,fun v H4 p C4 q4 r4 h4 f4=>?_⟩;obtain⟨n4,e4⟩:=f4 D (by rw[n3]; rfl) (by rw[e3]; exact fun z=>nomatch z);rw[e3] at e4;rw[n3] at n4;have k4:=f4.imm h3;have m4:Imm H4 (upd H4 D (.lst (ys++[v]))):=Imm.mut e4 rfl _;refine⟨e4,by rw[r1.len]; exact q4.1,ps.length - (i+1),by omega,rfl,hlt,acc++[p],C4,dQ,n4,?_,?_,?_,q4.2⟩
   .exact (((r1.imm k3).imm k4).append (.cons r4 .nil)).imm m4
   .intro a o ca
    have ne:a≠D:=fun z=>by subst z; rw[n4] at ca; cases ca
    exact(h4 a o ca).imm m4 (nQ ne)
   .intro a ca na
    have ne:a≠D:=fun z=>na (z▸hD);obtain⟨x1,x2⟩:=(f1.trans (f3.trans f4)) a ca na;exact⟨x1,(nQ ne).trans x2⟩
  |false =>
   rw[AT AL] at q3 ⊢;exact⟨ps.length - (i+1),by omega,rfl,hlt,acc,C3,e3,n3,r1.imm k3,h3,f1.trans f3,q3⟩
 .have e:i=ps.length:=by omega
  subst e;rw[Br] at q1
  replace q1:=q1.2
  refine .inl ⟨j.st H1 C1 h1 q0,f (.ref D) H1 (.ref D) _ (q1 D n1) (.ref D) ?_ ?_⟩
  .intro a o ca
   by_cases z:a=D
   .subst z; rw[jQ] at ca; cases ca; exact⟨ys,e1,r1⟩
   .rw [wQ z] at ca; exact h1 a o ca
  .intro a ca na
   obtain⟨x1,x2⟩:=f0 a ca na;have na':H a≠none:=by rw[x2]; exact na
   have ne:a≠D:=fun z=>na' (z▸hD);obtain⟨y1,y2⟩:=f1 a (by rw[x1]; exact ca) na';exact⟨(wQ ne).trans (y1.trans x1),y2.trans x2⟩
theorem it_lst {K:DK}{a:Addr}{xs:List PV}:ItS K (fun C=>C a=some (.lst xs)) (Itl K a) xs where
 go:=fun i H' C' l h s=>by
  obtain⟨vs,e,r⟩:=h a _ s;obtain⟨v,ev,_⟩:=r.get (AM l);exact⟨vs,v,SqL.of e,ev⟩
 yl:=fun i H' C' x H'' h s y=>⟨y.1,fun t et=>by
  obtain⟨vs,e,r⟩:=h a _ s;obtain⟨v,ev,rv⟩:=r.get et;have:=y.2 vs (SqL.of e)
  rw[ev] at this; cases this; exact rv⟩
 st:=fun H' C' h s=>by
  obtain⟨vs,e,r⟩:=h a _ s;exact⟨vs,SqL.of e,by rw[r.len]; exact AJ _⟩
@[irreducible] def pP (ce:TCE)(t:TCT)(c:TCE):TCE:=fun ρ C Q=>ce ρ C fun x C1=>match x with
 |.ref a=>match C1 a with
  |some (.lst xs)=>iV (fun C=>C a=some (.lst xs)) t c ρ Q xs [] C1
  |_=>False
 |_=>False
theorem iG {elt iter:Expr}{x:Str}{px:Pos}{ifs:List Expr}{scope:Scope}{ce:TCE}{t:TCT}{c:TCE}
  (hc:X.calm=true) (hN:(x::X.N).Nodup) (K:∃cl,zU X x scope cl) (hi:CE X iter ce)
  (ht:∀cl fp C s₂ H₂,CF (gJ X x scope cl fp C s₂ H₂) ifs t) (he:∀cl fp C s₂ H₂,CE (gJ X x scope cl fp C s₂ H₂) elt c)
  (hs:∀v,foldedSetIterable iter X.env v=pure v:=by intro _; rfl):CE X (.ListComp elt [⟨.Name x px,iter,ifs,0⟩] scope pos) (pP ce t c) :=
 ⟨JE.weak (aL (te:=sZ X.K (Rep X.K) c) (tc:=sZ X.K sB t) hc hN K (QM hi.h) (fun cl fp C s₂ H₂=>(ht cl fp C s₂ H₂).h) (fun cl fp C s₂ H₂=>(he cl fp C s₂ H₂).h) hs) fun σ H Q ⟨ρ,C,R,s,h,q,f⟩=>by
  unfold pP at q
  exact⟨ρ,C,_,s,h,q,fun xv H1 px C1 q1 rx h1 f1=>by
   split at q1
   .next a =>
    split at q1
    .next xs e =>
     obtain⟨vs,ev,r⟩:=h1 a _ e;cases rx;exact⟨a,rfl,⟨vs,SqL.of ev⟩,fun D hD=>comp_S (Q:=Q) it_lst (s.imm (f1.imm h)) h1 q1 h f1 f hD⟩
    .exact q1.elim
   .exact q1.elim⟩⟩
end
section
variable {C:CH}{a p:Addr}{xs ys:List PV}{i:Int}{v:PV}{Q:K1}
theorem mJ (h:C a=some (.lst xs))(e:atI xs i=some v)(q:Q v C):cIx (.ref a) (.int i) C Q:=by
 unfold cIx;show(match C a with | some (.lst xs)=>cAt xs i C Q | _=>False);rw[h];show cAt xs i C Q;unfold cAt;rw[e];exact q
theorem ix_f (e:atI xs i=some v)(q:Q v C):cIx (.fz xs) (.int i) C Q:=by
 unfold cIx;show cAt xs i C Q;unfold cAt;rw[e];exact q
theorem hX (e:atI xs i=some v)(q:Q v C):cIx (.tup xs) (.int i) C Q:=by
 unfold cIx;show cAt xs i C Q;unfold cAt;rw[e];exact q
theorem setL {k:Int}{j:Nat}{Q:CH->Prop}(h:C p=some (.lst xs))(e:ixN xs.length k=some j)(q:Q (uQ C p (.lst (xs.set j v)))):Xd (.ref p) (.int k) v C Q:=by
 unfold Xd;dsimp only;rw[h];dsimp only;rw[e];exact q
theorem wG (h:C a=some (.lst xs))(q:Q (.int xs.length) C):nR [.ref a] C Q:=by
 unfold nR;show(match C a with | some (.lst xs)=>Q (.int xs.length) C | some (.dK kvs)=>Q (.int kvs.length) C | _=>False);rw[h];exact q
theorem JZ (q:Q (.int xs.length) C):nR [.fz xs] C Q:=by
 unfold nR;exact q
theorem vO (q:Q (.int xs.length) C):nR [.tup xs] C Q:=by
 unfold nR;exact q
theorem nP (h:C a=some (.lst xs))(z:xs.length < sizeLine)(q:Q .non (uQ C a (.lst (xs++[v])))):jG (.ref a) [v] C Q:=by
 unfold jG;show(match C a with | some (.lst xs)=>xs.length < sizeLine/\Q .non (uQ C a (.lst (xs++[v]))) | _=>False);rw[h];exact⟨z,q⟩
theorem yG (h:C a=some (.lst xs)):isL (.ref a) C:=by
 show(match C a with | some (.lst _)=>True | _=>False);rw[h]
 trivial
end
theorem i_i {g:Int->Int->PV}{i j:Int}{C:CH}{Q:K1}(q:Q (g i j) C):cI g (.int i) (.int j) C Q:=by
 unfold cI;exact q
theorem uY {i j:Int}{C:CH}{Q:K1}(q:Q (.int (i+j)) C):aR (.int i) (.int j) C Q:=by
 unfold aR;exact q
theorem nF {xs ys:List PV}{C:CH}{Q:K1}(h:xs.length+ys.length<=sizeLine)(q:Q (.tup (xs++ys)) C):aR (.tup xs) (.tup ys) C Q:=by
 unfold aR;exact⟨h,q⟩
theorem if_b {b:Bool}{p q:Prop}(h1:b=true->p)(h2:b=false->q):if b=true then p else q:=by
 cases b with
 |true=>exact h1 rfl
 |false=>exact h2 rfl
theorem if_y {b:Bool}{p q:Prop}(e:b=true)(h:p):if b=true then p else q:=by rw[AW e]; exact h
theorem jM {b:Bool}{p q:Prop}(e:b=false)(h:q):if b=true then p else q:=by rw[AT (by rw[e]; exact AL)]; exact h
theorem lW {b:Bool}{p q:CH->Prop}{C:CH}(e:b=true)(h:p C):uA (fun b C1=>if b=true then p C1 else q C1) (.bl b) C:=by cases e; exact h
theorem vZ {b:Bool}{p q:CH->Prop}{C:CH}(e:b=false)(h:q C):uA (fun b C1=>if b=true then p C1 else q C1) (.bl b) C:=by cases e; exact h
theorem uZ {b:Bool}{p q:CH->Prop}{C:CH}(h1:b=true->p C)(h2:b=false->q C):uA (fun b C1=>if b=true then p C1 else q C1) (.bl b) C:=by
 cases b with
 |true=>exact h1 rfl
 |false=>exact h2 rfl
theorem onot {p q:CH->Prop}{C:CH}(h:q C):uA (fun b C1=>if (!b)=true then p C1 else q C1) (.bl true) C:=by
 show if (!true)=true then p C else q C
 rw[AT (by decide)];exact h
theorem mX {k:Bool->Bool}{x y:PV}{C:CH}{Q:K1}{b:Bool}(e:sEq x y=some b)(q:Q (.bl (k b)) C):cEq k x y C Q:=by
 unfold cEq;rw[e];exact q
theorem lQ (x y:Str):sEq (.str x) (.str y)=some (decide (x=y)):=rfl
theorem oX (x y:Int):sEq (.int x) (.int y)=some (decide (x=y)):=rfl
theorem fN {t:TCT}{c:TCE}{ρ:CSt}{Q:K1}{x:PV}{r acc:List PV}{C:CH}(h:t (some x::ρ) C fun b C1=>if b=true then c (some x::ρ) C1 fun y C2=>acc.length < sizeLine/\yZ t c ρ Q r (acc++[y]) C2 else yZ t c ρ Q r acc C1):yZ t c ρ Q (x::r) acc C:=h
theorem iO {t:TCT}{c:TCE}{ρ:CSt}{Q:K1}{acc:List PV}{C:CH}(h:∀p,C p=none->Q (.ref p) (uQ C p (.lst acc))):yZ t c ρ Q [] acc C:=h
theorem sF {a b:Addr}{xs ys:List PV}{C:CH}{Q:K1}(h1:C a=some (.lst xs))(h2:C b=some (.lst ys))(z:xs.length+ys.length<=sizeLine)(q:∀p,C p=none->Q (.ref p) (uQ C p (.lst (xs++ys)))):aR (.ref a) (.ref b) C Q:=by
 unfold aR;show(match C a,C b with | some (.lst xs),some (.lst ys)=>xs.length+ys.length<=sizeLine/\∀p,C p=none->Q (.ref p) (uQ C p (.lst (xs++ys))) | _,_=>False);rw[h1,h2];exact⟨z,q⟩
theorem wJ {xs:List PV}{p:Addr}{C:CH}{Q:K1}(m:C p=some (.lst xs))(q:Q (.tup xs) C):wF [.ref p] C Q:=by
 unfold wF;show(match C p with | some (.lst xs)=>Q (.tup xs) C | _=>False);rw[m];exact q
def Gr (C C':CH):Prop:=∀b o,C b=some o->C' b=some o
theorem Gr.refl {C:CH}:Gr C C:=fun _ _ h=>h
theorem Gr.trans {C C1 C2:CH}(h:Gr C C1)(h':Gr C1 C2):Gr C C2:=fun b o e=>h' b o (h b o e)
theorem Gr.new {C:CH}{p:Addr}(hp:C p=none)(o:CO):Gr C (uQ C p o):=fun b u e=>by
 rw[wQ (fun z=>by subst z; rw[hp] at e; cases e)]; exact e
theorem bX {E:mY}{ρ:CSt}{C:CH}(h:E.nx ρ C):cNext E ρ C:=h
theorem yQ {i:Nat}{ce:TCE}{u:TCS}{E:mY}{ρ:CSt}{C:CH}(h:ce ρ C fun v C1=>u E (ρ.set i (some v)) C1):lR (Qc i ce) u E ρ C:=h
theorem dX {t u:TCS}{E:mY}{ρ:CSt}{C:CH}(h:t { E with nx:=u E } ρ C):lR t u E ρ C:=h
theorem c_i {v:PV}{ρ:CSt}{C:CH}{Q:K1}(h:Q v C):cC v ρ C Q:=h
theorem vX {t u:TCS}{E:mY}{ρ:CSt}{C:CH}(P:CSt->CH->Prop)(h1:∀K:CSt->CH->Prop,(∀ρ' C',P ρ' C'->K ρ' C')->t { E with nx:=K } ρ C)(h2:∀ρ' C',P ρ' C'->u E ρ' C'):lR t u E ρ C:=h1 _ h2
section
variable {X:Cx}{o e value i f:Expr}{es:List Expr}{pos pos':Pos}
noncomputable def jT (f:Str)(v:PV):List (Str×PV)->List (Str×PV)
 |[]=>[(f,v)]
 | (g,x)::r=>if g=f then (g,v)::r else (g,x)::jT f v r
theorem FP.put {K:DK}{H:Hp}{f:Str}{v:V}{t:PV}(h:Rep K H v t):∀{gs:List (Str×V)}{fs:List (Str×PV)},FP K H gs fs->FP K H (pY f v gs) (jT f t fs):=by
 intro gs fs r
 induction r with
 |nil=>exact .cons ⟨rfl,h⟩ .nil
 |@cons p q l1 l2 h' r ih =>
  obtain⟨g,x⟩:=p;obtain⟨g',y⟩:=q;obtain⟨rfl,h2⟩:=h';unfold pY jT
  by_cases e:g=f
  .rw [AW e,AW e]; exact .cons ⟨rfl,h⟩ r
  .rw [AT e,AT e]; exact .cons ⟨rfl,h2⟩ ih
theorem FP.look {K:DK}{H:Hp}{f:Str}:∀{gs:List (Str×V)}{fs:List (Str×PV)},FP K H gs fs->(∃v t,gs.lookup f=some v/\fs.lookup f=some t/\Rep K H v t)\/(gs.lookup f=none/\fs.lookup f=none):=by
 intro gs fs r
 induction r with
 |nil=>exact .inr ⟨rfl,rfl⟩
 |@cons p q l1 l2 h' r ih =>
  obtain⟨g,x⟩:=p;obtain⟨g',y⟩:=q;obtain⟨rfl,h2⟩:=h';unfold List.lookup
  cases e:(f==g) with
  |true=>exact .inl ⟨x,y,rfl,rfl,h2⟩
  |false=>exact ih
@[irreducible] def Qe (c:Addr)(f:Str):PV->CH->K1->Prop:=fun x C Q=>match x with
 |.ref p=>match C p with
  |some (.ins c' _ fs)=>c'=c/\match fs.lookup f with
   |some v=>Q v C
   |none=>False
  |_=>False
 |_=>False
theorem aI {f:Str}{c:Addr}{co:TCE}(hc:Cls X.K c)(hn:NoAttr X.K c f)(ho:CE X o co)(hb:attributeBase o f X.env (eval o X.env)=eval o X.env:=by rfl):CE X (.Attribute o f pos) (fun ρ C Q=>co ρ C fun x C1=>Qe c f x C1 Q) :=
 ⟨JE.weak ⟨pe_fld ho.h.h hb⟩ fun σ H Q ⟨ρ,C,R,s,h,q,f'⟩=>⟨ρ,C,_,s,h,q,fun x H1 px C1 q1 rx h1 f1=>by
  unfold Qe at q1
  split at q1
  .next p =>
   split at q1
   .next c' dx fs e1 =>
    obtain⟨rfl,q1⟩:=q1
    split at q1
    .next t e2 =>
     obtain⟨gs,eg,r⟩:=h1 p _ e1;cases rx
     rcases FP.look r with ⟨v,t',l1,l2,rv⟩ | ⟨l1,l2⟩
     .rw [e2] at l2
      cases l2;exact⟨p,c',dx,gs,v,rfl,eg,hc,hn,l1,f' v H1 t C1 q1 rv h1 f1⟩
     .rw [e2] at l2; cases l2
    .exact q1.elim
   .exact q1.elim
  .exact q1.elim⟩⟩
@[irreducible] def Xg (c:Addr)(f:Str):PV->PV->CH->(CH->Prop)->Prop:=fun x v C Q=>match x with
 |.ref p=>match C p with
  |some (.ins c' dx fs)=>c'=c/\fs.length < 1000/\Q (uQ C p (.ins c' dx (jT f v fs)))
  |_=>False
 |_=>False
theorem KR {f:Str}{c:Addr}{co cv:TCE}(hc:Cls X.K c)(hn:NoAttr X.K c f)(ho:CE X o co)(hv:CE X value cv)(hs:swapsWith value (some (.Attribute o f pos')) pos.line X.env=pure false:=by rfl):
  CS X (.Assign [.Attribute o f pos'] value pos) (fun E ρ C=>cv ρ C fun v C1=>co ρ C1 fun x C2=>Xg c f x v C2 fun C3=>E.nx ρ C3):=⟨JS.weak ⟨ps_fld ho.h.h hv.h.h hs⟩ fun D σ H ⟨ρ,C,E,s,h,q,f'⟩ =>
 ⟨ρ,C,_,s,h,q,fun v H1 pv C1 q1 rv h1 f1=>⟨ρ,C1,_,s.imm (f1.imm h),h1,q1,fun x H2 px C2 q2 rx h2 f2=>by
  have s2:=(s.imm (f1.imm h)).imm (f2.imm h1);have rv2:=rv.imm (f2.imm h1);unfold Xg at q2
  split at q2
  .next p =>
   split at q2
   .next c' dx fs e1 =>
    obtain⟨rfl,ql,q2⟩:=q2;obtain⟨gs,eg,r⟩:=h2 p _ e1;cases rx;have m:Imm H2 (upd H2 p (.ins c' dx (pY f v gs))):=Imm.mut eg rfl _;exact⟨p,c',dx,gs,rfl,eg,hc,hn,by rw[Paired.length r]; exact ql,f'.nx σ _ ρ _ q2 (s2.imm m) (h2.put eg rfl ⟨_,dQ,Paired.mapP (FP.put rv2 r) fun _ _ z=>⟨z.1,z.2.imm m⟩⟩) (f1.trans (f2.trans (Fw.put e1 _ _)))⟩
   .exact q2.elim
  .exact q2.elim⟩⟩⟩
def mO (c:Addr)(m:Str)(x:PV)(C:CH):Prop:=match x with
 |.ref p=>match C p with
  |some (.ins c' _ fs)=>c'=c/\fs.lookup m=none
  |_=>False
 |_=>False
theorem Kh {c:Addr}{m:Str}{K:DK}{H:Hp}{C:CH}{x:V}{t:PV}(d:mO c m t C)(r:Rep K H x t)(h:HRel K H C):∃a dx gs,x=.ref a/\t=.ref a/\H a=some (.ins c dx gs)/\gs.lookup m=none:=by
 unfold mO at d
 split at d
 .split at d
  .next e =>
   obtain⟨rfl,d⟩:=d;obtain⟨gs,eg,rf⟩:=h _ _ e;cases r;refine⟨_,_,gs,rfl,rfl,eg,?_⟩
   rcases FP.look (f:=m) rf with ⟨v,t',l1,l2,_⟩ | ⟨l1,l2⟩
   .rw [l2] at d; cases d
   .exact l1
  .exact d.elim
 .exact d.elim
def cMeth (c:Addr)(m:Str)(G:GC)(co:TCE)(ca:TCA):TCE:=fun ρ C Q=>co ρ C fun x C1=>mO c m x C1/\ca ρ C1 fun xs C2=>G (x::xs) C2 Q
theorem ce_meth {CX:CXT}{k:Nat}{c fa:Addr}{fd:FuncData}{ps:List Str}{G:GC}{E:XK}{m:Str}{apos:Pos}{co:TCE}{ca:TCA}{pl:Sem Bool}(hc:Cls X.K c)(hm:Meth X.K c m fa)(F:FnOk X.prog X.w X.K X.mg X.base CX k fa fd ps (spC X.K G))(hr:Room k X.A)(hb:Binds X.K fd ps [])(hx:jW CX X E)(ho:CE X o co)(ha:CA X (e::es) ca)
  (hst:starEach (e::es) X.env=(false,eval e X.env)::starEach es X.env:=by rfl) (hpl:(backTo pos (starEach es X.env)).any (·.1)=false:=by rfl)
  (ht:eval (.Call (.Attribute o m apos) (e::es) [] pos) X.env=(do
   let ov <- eval o X.env
   standAt apos.atName
   let (f,first) <- holding [ov] (getMethod ov m pl)
   callWith pos f first (backTo pos (starEach (e::es) X.env)) (backToKw pos (keywordEach [] X.env))):=by rfl) :
  CE X (.Call (.Attribute o m apos) (e::es) [] pos) (cMeth c m G co ca) :=
 ⟨JE.weak ⟨pe_meth (dvs:=[]) (E:=E) ho.h.h hc hm F hr hb .nil hx ha.h.h hst hpl ht⟩ fun σ H Q ⟨ρ,C,R,s,h,q,f⟩=>⟨ρ,C,_,s,h,q,fun x H1 px C1 q1 rx h1 f1=>by
  obtain⟨a,dx,gs,rfl,rfl,eg,lk⟩:=Kh q1.1 rx h1;refine⟨a,dx,gs,rfl,eg,lk,ρ,C1,_,s.imm (f1.imm h),h1,q1.2,fun xs H2 ts C2 q2 rs h2 f2=>?_⟩
  exact⟨.ref a::ts,C2,R,.cons (.ref a) (by rw[AZ]; exact rs),h2,q2,fun v H' t C' q' r' h' f'=>f v H' t C' q' r' h' (f1.trans (f2.trans f'))⟩⟩⟩
def cMake (c:Addr)(G:GC)(ca:TCA):TCE:=fun ρ C Q=>ca ρ C fun xs C1=>∀x dx,C1 x=none->C1 dx=none->dx≠x->G (.ref x::xs) (uQ C1 x (.ins c dx [])) fun v C2=>v=.non/\Q (.ref x) C2
theorem ce_make {CX:CXT}{k:Nat}{c fa:Addr}{fd:FuncData}{ps:List Str}{G:GC}{E:XK}{x:Str}{p:Pos}{ca:TCA}(M:Mk X.K c fa)(F:FnOk X.prog X.w X.K X.mg X.base CX k fa fd ps (spC X.K G))(hr:Room (k+1) X.A)(hg:Gl X x)(hm:X.mg x=some (.ref c))(hb:Binds X.K fd ps [])(hx:jW CX X E)(ha:CA X (e::es) ca)
  (hdb:(x==("__debug__" : Str))=false:=by decide) (hst:starEach (e::es) X.env=(false,eval e X.env)::starEach es X.env:=by rfl) (hpl:(backTo pos (starEach es X.env)).any (·.1)=false:=by rfl):CE X (.Call (.Name x p) (e::es) [] pos) (cMake c G ca) :=
 ⟨JE.weak ⟨pe_make (dvs:=[]) (E:=E) M F hr hg hm hb .nil hx ha.h.h hdb hst hpl⟩ fun σ H Q ⟨ρ,C,R,s,h,q,f⟩=>⟨ρ,C,_,s,h,q,fun xs H1 ts C1 q1 rs h1 f1=>fun y dx hy hd nd=>by
  have h2:=h1.new hd (.own y);have hy':upd H1 dx (.own y) y=none:=by rw[nQ (Ne.symm nd)]; exact hy
  have k1:Imm H1 (upd H1 dx (.own y)):=Imm.new hd _;have k2:Imm (upd H1 dx (.own y)) (upd (upd H1 dx (.own y)) y (.ins c dx [])):=Imm.new hy' _;refine⟨.ref y::ts,uQ C1 y (.ins c dx []),_,.cons (.ref y) (by rw[AZ]; exact(rs.imm k1).imm k2),h2.lay hy' ⟨[],dQ,.nil⟩,q1 y dx (h1.fresh hy) (h1.fresh hd) nd,fun v H' t C' q' r' h' f'=>?_⟩;obtain⟨rfl,q'⟩:=q';cases r'
  exact⟨rfl,f _ H' _ C' q' (.ref y) h' (f1.trans (((Fw.new hd _).trans (Fw.lay hy' _ _)).trans f'))⟩⟩⟩
end
end CL
namespace L2
open PySem PySem.Spec PyProof.Rows PySem.W
section
variable {X:Cx}
theorem Qa:CallR X (.type "dict") (fun xs H Q=>∃a kvs,xs=[.ref a]/\H a=some (.dK kvs)/\∀p,H p=none->Q (.ref p) (upd H p (.dK kvs))):=by
 intro pins s σ H xs us Q I r h;obtain⟨a,kvs,rfl,ha,q⟩:=h;obtain⟨u,rfl,ru⟩:=r.one;cases (show u=Value.ref a from ru);obtain⟨z,hd,vs,rel,dd⟩:=nO I.hok ha;refine kt_call_dict hd dd (by rw[<- rel.length]; exact z) fun h' hm hs=>?_;refine⟨.ref s.heap.objs.size,_,I.laid (t':=s.toks) (o:=.dK kvs) (fun b o e=>hs.extBut b o (Ag (AN e)) (AF _ e)) (AJ _) ?_,rfl,q _ (I.hok.fresh (AJ _))⟩
 exact⟨z,Cv (A5 I.big),vs,rel,hm⟩
end
end L2
namespace CL
open PySem PySem.Spec L2 PySem.W
open PyProof.Rows hiding St
noncomputable def qB:List PV->Option (List Key)
 |[]=>some []
 |t::r=>match kK t,qB r with
  |some k,some ks=>some (k::ks)
  |_,_=>none
def lB:PV->Option (List Key)
 |.tup ts=>qB ts
 |_=>none
theorem qI {K:DK}{H:Hp}{vs:List V}{ts:List PV}{ks:List Key}(r:Reps K H vs ts)(e:qB ts=some ks):vs=ks.map kV:=by
 induction ts generalizing vs ks with
 |nil=>cases r; cases e; rfl
 |cons t ts ih =>
  cases r with
  |cons h r =>
   unfold qB at e
   split at e
   .next k ks' e1 e2=>cases e; rw[jY h e1,ih r e2]; rfl
   .cases e
theorem cB {K:DK}{H:Hp}{v:V}{t:PV}{ks:List Key}(r:Rep K H v t)(e:lB t=some ks):∃b,v=.ref b/\H b=some (.tup (ks.map kV)):=by
 cases r<;>try (cases e)
 next a vs ts h r=>exact⟨a,rfl,by rw[h,qI r e]⟩
section
variable {κ:Type}[DecidableEq κ]
noncomputable def cJ (kvs:List (κ×PV))(k:κ):Option PV:=(kvs.find? fun kv=>decide (kv.1=k)).map (·.2)
noncomputable def putG (kvs:List (κ×PV))(k:κ)(v:PV):List (κ×PV):=if (kvs.any fun kv=>decide (kv.1=k))=true then kvs.map fun kv=>if kv.1=k then (kv.1,v) else kv else kvs++[(k,v)]
def mergeG (kvs more:List (κ×PV)):List (κ×PV):=more.foldl (fun acc kv=>putG acc kv.1 kv.2) kvs
theorem FP.val {K:DK}{H:Hp}{vs:List (κ×V)}{kvs:List (κ×PV)}(r:FP K H vs kvs)(k:κ):(∃v t,dW vs k=some v/\cJ kvs k=some t/\Rep K H v t)\/(dW vs k=none/\cJ kvs k=none):=by
 induction r with
 |nil=>exact .inr ⟨rfl,rfl⟩
 |@cons p q l1 l2 h r ih =>
  unfold dW cJ;rw[Ap,Ap,h.1]
  by_cases e:q.1=k
  .rw [Af e]
   exact .inl ⟨p.2,q.2,rfl,rfl,h.2⟩
  .rw [AS e]
   exact ih
theorem FP.anyG {K:DK}{H:Hp}{vs:List (κ×V)}{kvs:List (κ×PV)}(r:FP K H vs kvs)(k:κ):(vs.any fun kv=>decide (kv.1=k))=(kvs.any fun kv=>decide (kv.1=k)):=by
 induction r with
 |nil=>rfl
 |@cons p q l1 l2 h r ih=>rw[BA,BA,h.1,ih]
theorem FP.putG {K:DK}{H:Hp}{vs:List (κ×V)}{kvs:List (κ×PV)}(r:FP K H vs kvs)(k:κ){v:V}{t:PV}(h:Rep K H v t):FP K H (pK vs k v) (CL.putG kvs k t):=by
 unfold pK CL.putG;rw[FP.anyG r k]
 have upd:FP K H (vs.map fun kv=>if kv.1=k then (kv.1,v) else kv) (kvs.map fun kv=>if kv.1=k then (kv.1,t) else kv):=by
  induction r with
  |nil=>exact .nil
  |@cons p q l1 l2 h' r ih =>
   refine .cons ?_ ih;dsimp only
   by_cases e:q.1=k
   .rw [AW (h'.1.trans e),AW e]; exact⟨h'.1,h⟩
   .rw [AT (fun z=>e (h'.1.symm.trans z)),AT e]; exact h'
 split
 .exact upd
 .exact Paired.snoc r ⟨rfl,h⟩
end
section
variable {X:Cx}{a b c e o i f value:Expr}{es:List Expr}{pos pos':Pos}
def cTNew:TCE:=fun _ C Q=>∀p,C p=none->Q (.ref p) (uQ C p (.dT []))
theorem Q8:CE X (.Dict [] [] pos) cTNew:=⟨JE.weak Ka fun σ H Q ⟨ρ,C,R,s,h,q,f⟩=>fun p hp=>f (.ref p) _ (.ref p) _ (q p (h.fresh hp)) (.ref p) (h.lay hp ⟨[],dQ,.nil⟩) (Fw.lay hp _ _)⟩
@[irreducible] def cTIx:R2C:=fun x y C Q=>match x with
 |.ref a=>match C a,lB y with
  |some (.dT kvs),some k=>match cJ kvs k with
   |some v=>Q v C
   |none=>False
  |_,_=>False
 |_=>False
theorem ce_tix {co ci:TCE}(hu:X.A.units+1 < cLine)(ho:CE X o co)(hi:CE X i ci)(hs:Qj i):CE X (.Subscript o i pos) (cOp cTIx co ci):=⟨JE.weak (QN hu ho.h hi.h hs) fun σ H Q ⟨ρ,C,R,s,h,q,f⟩ =>
 ⟨ρ,C,_,s,h,q,fun x H1 px C1 q1 rx h1 f1=>⟨ρ,C1,_,s.imm (f1.imm h),h1,q1,fun y H2 py C2 q2 ry h2 f2=>by
  unfold cTIx at q2
  split at q2
  .next a =>
   split at q2
   .next kvs k e1 e2 =>
    split at q2
    .next t e3 =>
     have rx2:=rx.imm (f2.imm h1);cases rx2;obtain⟨vs,ev,r⟩:=h2 a _ e1;obtain⟨b,rfl,eb⟩:=cB ry e2
     rcases FP.val r k with ⟨v,t',l1,l2,rv⟩ | ⟨_,l2⟩
     .rw [e3] at l2
      cases l2;exact⟨a,v,rfl,by rw[<- l1]; exact DGet.t ev eb,f v H2 t C2 q2 rv h2 (f1.trans f2)⟩
     .rw [e3] at l2; cases l2
    .exact q2.elim
   .exact q2.elim
  .exact q2.elim⟩⟩⟩
def Kf (x:PV)(C:CH):Prop:=match x with
 |.ref a=>match C a with
  |some (.dT _)=>True
  |_=>False
 |_=>False
theorem isTd_of {K:DK}{H:Hp}{C:CH}{x:V}{t:PV}(d:Kf t C)(r:Rep K H x t)(h:HRel K H C):∃a kvs,x=.ref a/\t=.ref a/\H a=some (.dT kvs):=by
 unfold Kf at d
 split at d
 .split at d
  .next e=>obtain⟨vs,ev,_⟩:=h _ _ e; cases r; exact⟨_,vs,rfl,rfl,ev⟩
  .exact d.elim
 .exact d.elim
@[irreducible] def Xc:PV->PV->PV->CH->K1->Prop:=fun x y z C Q=>match x with
 |.ref a=>match C a,lB y with
  |some (.dT kvs),some k=>Q ((cJ kvs k).getD z) C
  |_,_=>False
 |_=>False
def cTGet2 (co ck cz:TCE):TCE:=fun ρ C Q=>co ρ C fun x C1=>Kf x C1/\ck ρ C1 fun y C2=>cz ρ C2 fun z C3=>Xc x y z C3 Q
theorem K8 {co ck cz:TCE}{apos cpos:Pos}(hu:X.A.units+1 < cLine)(ho:CE X o co)(he:CE X e ck)(hf:CE X f cz)(hb:attributeBase o "get" X.env (eval o X.env)=eval o X.env:=by rfl)(hl:(apos.endLine==cpos.line)=true:=by rfl)
  (h1:eQ e=true:=by rfl) (h2:eQ f=true:=by rfl):CE X (.Call (.Attribute o "get" apos) [e,f] [] cpos) (cTGet2 co ck cz):=⟨JE.weak (yO hu ho.h he.h hf.h hb hl h1 h2) fun σ H Q ⟨ρ,C,R,s,h,q,f⟩ =>
 ⟨ρ,C,_,s,h,q,fun x H1 px C1 q1 rx h1 f1=>by
  obtain⟨a,kvs,rfl,rfl,e1⟩:=isTd_of q1.1 rx h1;refine⟨a,rfl,.inr ⟨kvs,.inl e1⟩,ρ,C1,_,s.imm (f1.imm h),h1,q1.2,fun y H2 py C2 q2 ry h2 f2=>⟨ρ,C2,_,(s.imm (f1.imm h)).imm (f2.imm h1),h2,q2,fun z H3 pz C3 q3 rz h3 f3=>?_⟩⟩;unfold Xc at q3;dsimp only at q3
  split at q3
  .next kvs' k d1 d2 =>
   obtain⟨vs,ev,r⟩:=h3 a _ d1;obtain⟨b,rfl,eb⟩:=cB (ry.imm (f3.imm h2)) d2
   rcases FP.val r k with ⟨v,t',l1,l2,rv⟩ | ⟨l1,l2⟩
   .rw [l2] at q3
    exact⟨some v,by rw[<- l1]; exact DGet.t ev eb,f v H3 t' C3 q3 rv h3 (f1.trans (f2.trans f3))⟩
   .rw [l2] at q3
    exact⟨none,by rw[<- l1]; exact DGet.t ev eb,f z H3 pz C3 q3 rz h3 (f1.trans (f2.trans f3))⟩
  .exact q3.elim⟩⟩
@[irreducible] def Xe:PV->PV->PV->CH->(CH->Prop)->Prop:=fun x y v C Q=>match x with
 |.ref a=>match C a,lB y with
  |some (.dT kvs),some k=>kvs.length < sizeLine/\Q (uQ C a (.dT (putG kvs k v)))
  |_,_=>False
 |_=>False
def cTPut (co ck cv:TCE):TCS:=fun E ρ C=>cv ρ C fun v C1=>co ρ C1 fun x C2=>ck ρ C2 fun y C3=>Xe x y v C3 fun C4=>E.nx ρ C4
theorem Q6 {co ck cv:TCE}(hu:X.A.units+1 < cLine)(ho:CE X o co)(hi:CE X i ck)(hv:CE X value cv)(hs:swapsWith value (some (.Subscript o i pos')) pos.line X.env=pure false:=by rfl):
  CS X (.Assign [.Subscript o i pos'] value pos) (cTPut co ck cv):=⟨JS.weak (QL hu ho.h hi.h hv.h hs) fun D σ H ⟨ρ,C,E,s,h,q,f⟩ =>
 ⟨ρ,C,_,s,h,q,fun v H1 pv C1 q1 rv h1 f1=>⟨ρ,C1,_,s.imm (f1.imm h),h1,q1,fun x H2 px C2 q2 rx h2 f2=>⟨ρ,C2,_,(s.imm (f1.imm h)).imm (f2.imm h1),h2,q2,fun y H3 py C3 q3 ry h3 f3=>by
  have s3:=((s.imm (f1.imm h)).imm (f2.imm h1)).imm (f3.imm h2);have rv3:=rv.imm ((f2.trans f3).imm h1);unfold Xe at q3
  split at q3
  .next a =>
   split at q3
   .next kvs k e1 e2 =>
    have rx3:=rx.imm (f3.imm h2);cases rx3;obtain⟨vs,ev,r⟩:=h3 a _ e1;obtain⟨b,rfl,eb⟩:=cB ry e2;have hl:vs.length=kvs.length:=Paired.length r;have m:Imm H3 (upd H3 a (.dT (pK vs k v))):=Imm.mut ev rfl _;refine⟨a,_,rfl,DPut.t ev eb (by rw[hl]; exact q3.1),f.nx σ _ ρ _ q3.2 (s3.imm m) (h3.put ev rfl ⟨_,dQ,Paired.mapP (FP.putG r k rv3) fun _ _ z=>⟨z.1,z.2.imm m⟩⟩) (f1.trans (f2.trans (f3.trans (Fw.put e1 _ _))))⟩
   .exact q3.elim
  .exact q3.elim⟩⟩⟩⟩
end
section
variable {X:Cx}{a b c e o i f value:Expr}{es:List Expr}{pos pos':Pos}
@[irreducible] def cMax:GC:=fun ts C Q=>match ts with
 |[.int i,.int j]=>Q (.int (if j > i then j else i)) C
 |_=>False
@[irreducible] def cMin:GC:=fun ts C Q=>match ts with
 |[.int i,.int j]=>Q (.int (if j < i then j else i)) C
 |_=>False
theorem cbi_max {K:DK}:Cbi K (fun xs H Q=>∃i j,xs=[.int i,.int j]/\Q (.int (if j > i then j else i)) H) cMax:=fun xs ts H C Q R rs h q f=>by
 unfold cMax at q
 split at q
 .obtain ⟨v1,v2,rfl,r1,r2⟩:=jD rs
  cases r1; cases r2
  exact⟨_,_,rfl,f _ H _ C q (.int _) h Fw.refl⟩
 .exact q.elim
theorem Xb {K:DK}:Cbi K (fun xs H Q=>∃i j,xs=[.int i,.int j]/\Q (.int (if j < i then j else i)) H) cMin:=fun xs ts H C Q R rs h q f=>by
 unfold cMin at q
 split at q
 .obtain ⟨v1,v2,rfl,r1,r2⟩:=jD rs
  cases r1; cases r2
  exact⟨_,_,rfl,f _ H _ C q (.int _) h Fw.refl⟩
 .exact q.elim
@[irreducible] def sR:GC:=fun ts C Q=>match ts with
 |[.ref a]=>match C a with
  |some (.dK kvs)=>∀p,C p=none->Q (.ref p) (uQ C p (.dK kvs))
  |_=>False
 |_=>False
theorem Zj {K:DK}:Cbi K (fun xs H Q=>∃a kvs,xs=[.ref a]/\H a=some (.dK kvs)/\∀p,H p=none->Q (.ref p) (upd H p (.dK kvs))) sR:=fun xs ts H C Q R rs h q f=>by
 unfold sR at q
 split at q
 .split at q
  .next kvs e =>
   obtain⟨v,rfl,r⟩:=zZ rs;obtain⟨vs,ev,rv⟩:=h _ _ e;cases r;exact⟨_,vs,rfl,ev,fun p hp=>f _ _ _ _ (q p (h.fresh hp)) (.ref p) (h.lay hp ⟨vs,dQ,Paired.mapP rv fun _ _ z=>⟨z.1,z.2.imm (Imm.new hp _)⟩⟩) (Fw.lay hp _ _)⟩
  .exact q.elim
 .exact q.elim
@[irreducible] def cCount:PV->List PV->CH->K1->Prop:=fun x ts C Q=>match x,ts with
 |.ref a,[y]=>match C a,kK y with
  |some (.lst xs),some k=>match qB xs with
   |some ks=>Q (.int (cntK k ks:Nat)) C
   |none=>False
  |_,_=>False
 |_,_=>False
@[irreducible] def cIndexT:PV->List PV->CH->K1->Prop:=fun x ts C Q=>match x,ts with
 |.ref a,[.bl true]=>match C a with
  |some (.lst xs)=>∃(bs:List Bool) (j:Nat),xs=bs.map PV.bl/\bs[j]?=some true/\(∀m,m < j->bs[m]?=some false)/\Q (.int (j:Nat)) C
  |_=>False
 |_,_=>False
@[irreducible] def cEqT (k:Bool->Bool):R2C:=fun x y C Q=>match lB x,lB y with
 |some ks,some js=>Q (.bl (k (decide (ks=js)))) C
 |_,_=>False
def QX:PV->Option V
 |.non=>some .non
 |.bl b=>some (.bl b)
 |.int i=>some (.int i)
 |.str x=>some (.str x)
 |_=>none
theorem wN {K:DK}{H:Hp}{v w:V}{t:PV}(r:Rep K H v t)(e:QX t=some w):v=w/\oU w=true:=by
 cases r<;>cases e<;>exact⟨rfl,rfl⟩
def zP:List PV->Option (List V)
 |[]=>some []
 |t::r=>match QX t,zP r with
  |some v,some vs=>some (v::vs)
  |_,_=>none
theorem mI {K:DK}{H:Hp}{ts:List PV}{vs ws:List V}(r:Reps K H vs ts)(e:zP ts=some ws):vs=ws/\ws.all oU=true:=by
 induction ts generalizing vs ws with
 |nil=>cases r; cases e; exact⟨rfl,rfl⟩
 |cons t ts ih =>
  cases r with
  |cons h r =>
   unfold zP at e
   split at e
   .next v us e1 e2 =>
    cases e;obtain⟨rfl,f1⟩:=wN h e1;obtain⟨rfl,f2⟩:=ih r e2;exact⟨rfl,by rw[List.all_cons,f1,f2]; rfl⟩
   .cases e
def seqP (C:CH):PV->Option (List PV)
 |.tup xs=>some xs
 |.kt xs=>some xs
 |.ref a=>match C a with
  |some (.lst xs)=>some xs
  |_=>none
 |_=>none
@[irreducible] def cInS (neg:Bool):R2C:=fun x y C Q=>match seqP C y,QX x with
 |some ts,some v=>match zP ts with
  |some vs=>Q (.bl (if neg then !inV v vs else inV v vs)) C
  |none=>False
 |_,_=>False
theorem cop_inS {K:DK}{neg:Bool}:Cop K (rIn K neg) (cInS neg):=fun x y px py H C Q R rx ry h q f=>by
 unfold cInS at q
 split at q
 .next ts v e1 e2 =>
  split at q
  .next vs e3 =>
   obtain⟨rfl,fx⟩:=wN rx e2
   have key:∃p ws,y=.ref p/\(SqL K H p ws\/SqT K H p ws)/\Reps K H ws ts:=by
    cases ry<;>try (cases e1)
    .next a =>
     unfold seqP at e1;dsimp only at e1
     split at e1
     .next xs e =>
      cases e1;obtain⟨us,eu,ru⟩:=h _ _ e;exact⟨a,us,rfl,.inl (SqL.of eu),ru⟩
     .cases e1
    .next p us hp r=>exact⟨p,us,rfl,.inr (SqT.of hp),r⟩
    .next p us hp r=>exact⟨p,us,rfl,.inr hp,r⟩
   obtain⟨p,ws,rfl,hs,rs⟩:=key;obtain⟨rfl,fs⟩:=mI rs e3;exact⟨p,ws,rfl,hs,fx,fs,f _ H _ C q (.bl _) h Fw.refl⟩
  .exact q.elim
 .exact q.elim
@[irreducible] def cRepL:R2C:=fun x y C Q=>match x,y with
 |.ref a,.int k=>match C a with
  |some (.lst xs)=>-(2 ^ 63)<=k/\k < 2 ^ 63/\xs.length * k.toNat<=sizeLine/\∀p,C p=none->Q (.ref p) (uQ C p (.lst (List.replicate k.toNat xs).flatten))
  |_=>False
 |.tup [z],.int k=>0<=k/\k < 64/\Q (.tup (List.replicate k.toNat z)) C
 |_,_=>False
end
def xL:List Key->Option (List Str)
 |[]=>some []
 |.inr x::r=>(xL r).map (x :: ·)
 |_=>none
theorem Xt {ks:List Key}{zs:List Str}(e:xL ks=some zs):ks=zs.map Sum.inr:=by
 induction ks generalizing zs with
 |nil=>cases e; rfl
 |cons k ks ih =>
  rcases k with k | x
  .cases e
  .unfold xL at e
   cases z:xL ks with
   |none=>rw[z] at e; cases e
   |some ws=>rw[z] at e; cases e; rw[ih z]; rfl
noncomputable def tiK:List (List Key×PV)->Option (List (List Str×Int))
 |[]=>some []
 | (k,.int i)::r=>match xL k,tiK r with
  |some zs,some cs=>some ((zs,i)::cs)
  |_,_=>none
 |_=>none
theorem tiK_eq {kvs:List (List Key×PV)}{cs:List (List Str×Int)}(e:tiK kvs=some cs):kvs=cs.map fun c=>(c.1.map Sum.inr,PV.int c.2):=by
 induction kvs generalizing cs with
 |nil=>cases e; rfl
 |cons p kvs ih =>
  unfold tiK at e
  split at e
  .rename_i h; cases h
  .rename_i k i r h
   cases h
   split at e
   .next zs ds e1 e2=>cases e; rw[ih e2,Xt e1]; rfl
   .cases e
  .cases e
def tU (c:List Str×Int):PV:=.tup [.tup (c.1.map PV.str),.int c.2]
def tiLt (cs:List (List Str×Int)):Nat->Nat->Bool:=fun i j=>ltP (cs.getD i ([],0)) (cs.getD j ([],0))
def ordT (cs:List (List Str×Int)):List (List Str×Int):=(eG (tiLt cs) (kas_sort cs.length)).toList.map fun i=>cs.getD i ([],0)
section
variable {K:DK}{H:Hp}{X:Cx}
theorem gS:∀zs:List Str,Reps K H (zs.map V.str) (zs.map PV.str)
 |[]=>.nil
 |z::zs=>.cons (.str z) (gS zs)
theorem Jw {ys:List V}{ts:List PV}(d:PV)(lt:Nat->Nat->Bool)(r:Reps K H ys ts):Reps K H (rG lt ys) ((eG lt (kas_sort ts.length)).toList.map fun i=>ts.getD i d):=by
 have hl:ys.length=ts.length:=r.len;unfold rG;rw[hl]
 have mem:∀i∈(eG lt (kas_sort ts.length)).toList,i < ys.length:=by
  intro i hi
  by_cases h:0 < ts.length
  .rw [hl]; exact Az.mp ((xY lt ts.length h).mem_iff.mp hi)
  .have e:ts.length=0:=by omega
   rw[e,run0] at hi;cases hi
 generalize (eG lt (kas_sort ts.length)).toList=l at mem ⊢
 induction l with
 |nil=>exact .nil
 |cons i l ih=>exact .cons (r.getD (d:=d) i (mem i AD)) (ih fun j hj=>mem j (AG _ hj))
theorem ti_ord (cs:List (List Str×Int))(l:List Nat):(l.map fun i=>(cs.map tU).getD i (tU ([],0)))=(l.map fun i=>cs.getD i ([],0)).map tU:=by
 rw[Bf]
 congr 1
 funext i
 show(cs.map tU).getD i (tU ([],0))=tU (cs.getD i ([],0));rw[Ao,Aj,Ao];cases cs[i]?<;>rfl
@[irreducible] def cD (co:TCE):TCE:=fun ρ C Q=>co ρ C fun x C1=>match x with
 |.ref a=>match C1 a with
  |some (.dT _)=>Q (.vw a) C1
  |_=>False
 |_=>False
theorem Zi {o:Expr}{apos cpos:Pos}{co:TCE}(ho:CE X o co)(hbase:attributeBase o "items" X.env (eval o X.env)=eval o X.env:=by rfl)(hline:(apos.endLine==cpos.line)=true:=by rfl):CE X (.Call (.Attribute o "items" apos) [] [] cpos) (cD co) :=
 ⟨JE.weak (Kc F.plainAttrs_dict F.slot_dict_items F.type_dict_items XU ho.h hbase hline) fun σ H Q ⟨ρ,C,R,s,h,q,f⟩=>by
 unfold cD at q
 exact⟨ρ,C,_,s,h,q,fun x H1 px C1 q1 rx h1 f1=>by
  split at q1
  .split at q1
   .next kvs e =>
    obtain⟨vs,ev,r⟩:=h1 _ _ e;cases rx;exact⟨.inr (.inr (.inl ⟨rfl,.inr ⟨vs,ev⟩⟩)),_,vs,rfl,rfl,ev,fun v hv=>f _ _ _ _ q1 (.vw dQ) (h1.new hv _) (f1.trans (Fw.new hv _))⟩
   .exact q1.elim
  .exact q1.elim⟩⟩
@[irreducible] def uM:GC:=fun ts C Q=>match ts with
 |[.vw a]=>match C a with
  |some (.dT kvs)=>match tiK kvs with
   |some cs=>cs.length < 64/\∀p,C p=none->Q (.ref p) (uQ C p (.lst ((ordT cs).map tU)))
   |none=>False
  |_=>False
 |_=>False
abbrev Z5 (X:Cx):List V->Hp->VK->Prop:=fun xs H Q=>∃v d kvs lt,xs=[.ref v]/\H v=some (.ext (wV v d))/\H d=some (.dT kvs)/\kvs.length < 64 /\
  ∀as H1,Same H H1->TPs H1 as kvs->(∀a∈as,H a=none)->(∀a,H a=none->H1 a≠none->a∈as)->Srt X H1 (List.map V.ref as) lt/\∀p,H1 p=none->Q (.ref p) (upd H1 p (.lst (rG lt (List.map V.ref as))))
theorem ti_at {as:List Addr}{kvs:List (List Key×V)}{cs:List (List Str×Int)}(r:TPs H as kvs)(e:FP K H kvs (cs.map fun c=>(c.1.map Sum.inr,PV.int c.2))):
  Reps K H (as.map V.ref) (cs.map tU)/\∀i,i < as.length->sP H ((as.map V.ref).getD i .non) (cs.getD i ([],0)):=by
 induction r generalizing cs with
 |nil =>
  cases cs with
  |nil=>exact⟨.nil,fun i hi=>absurd hi (CK i)⟩
  |cons c cs=>cases e
 |@cons a b k v as kvs h1 h2 r ih =>
  cases cs with
  |nil=>cases e
  |cons c cs =>
   cases e with
   |cons h e =>
    obtain⟨e1,e2⟩:=h;obtain⟨i1,i2⟩:=ih e;have e1:k=c.1.map Sum.inr:=e1;have e2:Rep K H v (.int c.2):=e2;subst e1;cases e2;rw[jI] at h2;refine⟨.cons (.tup h1 (.cons (.tup h2 (gS c.1)) (.cons (.int _) .nil))) i1,fun i hi=>?_⟩
    cases i with
    |zero=>exact⟨a,b,rfl,h1,h2⟩
    |succ i=>exact i2 i (Be hi)
theorem vE (hu:X.A.units+2 < cLine):Cbi X.K (Z5 X) uM:=fun xs ts H C Q R rs h q f=>by
 unfold uM at q
 split at q
 .obtain ⟨v,rfl,r⟩:=zZ rs
  split at q
  .next kvs e =>
   split at q
   .next cs e2 =>
    have ex:=tiK_eq e2;subst ex;obtain⟨vs,ev,rv⟩:=h _ _ e
    cases r with
    |vw hv =>
     have hl:vs.length=cs.length:=by rw[Paired.length rv,AA]
     refine⟨_,_,vs,tiLt cs,rfl,hv,ev,by rw[hl]; exact q.1,fun as H1 sm pa fr on=>?_⟩;have rv1:FP X.K H1 vs (cs.map fun c=>(c.1.map Sum.inr,PV.int c.2)):=Paired.mapP rv fun _ _ z=>⟨z.1,z.2.imm fun b v _ e=>sm b v e⟩;obtain⟨rr,pp⟩:=ti_at pa rv1;refine⟨Xu hu _ (fun i hi=>pp i (by rw[AA] at hi; exact hi)),fun p hp=>?_⟩;have h1:=iM h sm;have ro:=Jw (tU ([],0)) (tiLt cs) rr;rw[AA,ti_ord] at ro
     exact f _ _ _ _ (q.2 p (h1.fresh hp)) (.ref p) (h1.lay hp ⟨_,dQ,ro.imm (Imm.new hp _)⟩) ((iC sm).trans (Fw.lay hp _ _))
   .exact q.elim
  .exact q.elim
 .exact q.elim
end
def Qd:List (TCE×TCE)->CSt->CH->(List (PV×PV)->CH->Prop)->Prop
 |[],_,C,Q=>Q [] C
 | (ck,cv)::r,ρ,C,Q=>ck ρ C fun x C1=>cv ρ C1 fun y C2=>Qd r ρ C2 fun ps C3=>Q ((x,y)::ps) C3
abbrev RPs (K:DK)(H:Hp):List (V×V)->List (PV×PV)->Prop:=Paired fun p q=>Rep K H p.1 q.1/\Rep K H p.2 q.2
def liftP (K:DK)(cs:List (TCE×TCE)):List (TE×TE):=cs.map fun p=>(sZ K (Rep K) p.1,sZ K (Rep K) p.2)
structure CPs (X:Cx)(pos:Pos)(keys:List (Option Expr))(values:List Expr)(cs:List (TCE×TCE)):Prop where
 h:PPs X pos keys values (liftP X.K cs)
theorem cps_nil {X:Cx}{pos:Pos}:CPs X pos [] [] []:=⟨pps_nil⟩
theorem vY {X:Cx}{pos:Pos}{k v:Expr}{ks:List (Option Expr)}{vs:List Expr}{ck cv:TCE}{cs:List (TCE×TCE)}(hk:CE X k ck)(hv:CE X v cv)(hr:CPs X pos ks vs cs):CPs X pos (some k::ks) (v::vs) ((ck,cv)::cs):=⟨Ji hk.h.h hv.h.h hr.h⟩
theorem oA {K:DK}{σ:St}{ρ:CSt}:∀{cs:List (TCE×TCE)}{H:Hp}{C:CH}{R:List (PV×PV)->CH->Prop}{Q:List (V×V)->Hp->Prop},SRel K H σ ρ->HRel K H C->Qd cs ρ C R ->
  (∀vs H' ts C',R ts C'->RPs K H' vs ts->HRel K H' C'->Fw H C H' C'->Q vs H')->tN (liftP K cs) σ H Q:=by
 intro cs
 induction cs with
 |nil=>intro H C R Q s h q f; exact f [] H [] C q .nil h Fw.refl
 |cons p cs ih =>
  obtain⟨ck,cv⟩:=p;intro H C R Q s h q f;refine⟨ρ,C,_,s,h,q,fun x H1 px C1 q1 rx h1 f1=>⟨ρ,C1,_,s.imm (f1.imm h),h1,q1,fun y H2 py C2 q2 ry h2 f2=>?_⟩⟩;refine ih ((s.imm (f1.imm h)).imm (f2.imm h1)) h2 q2 fun vs H3 ts C3 q3 r3 h3 f3=>?_;exact f _ H3 _ C3 q3 (.cons ⟨(rx.imm (f2.imm h1)).imm (f3.imm h2),ry.imm (f3.imm h2)⟩ r3) h3 (f1.trans (f2.trans f3))
def prK:List (PV×PV)->Option (List (Key×PV))
 |[]=>some []
 | (x,y)::r=>match kK x,prK r with
  |some k,some ps=>some ((k,y)::ps)
  |_,_=>none
theorem prK_rep {K:DK}{H:Hp}{vs:List (V×V)}{ts:List (PV×PV)}{ps:List (Key×PV)}(r:RPs K H vs ts)(e:prK ts=some ps):∃kvs:List (Key×V),vs=kvs.map (fun kv=>(kV kv.1,kv.2))/\KP K H kvs ps:=by
 induction r generalizing ps with
 |nil=>cases e; exact⟨[],rfl,.nil⟩
 |@cons p q l1 l2 h r ih =>
  obtain⟨x,y⟩:=q;unfold prK at e
  split at e
  .next k ps' e1 e2 =>
   cases e;obtain⟨kvs,rfl,r2⟩:=ih e2;obtain⟨v1,v2⟩:=p;have ek:v1=kV k:=jY h.1 e1;subst ek;exact⟨(k,v2)::kvs,rfl,.cons ⟨rfl,h.2⟩ r2⟩
  .cases e
def prT:List (PV×PV)->Option (List (List Key×PV))
 |[]=>some []
 | (x,y)::r=>match lB x,prT r with
  |some k,some ps=>some ((k,y)::ps)
  |_,_=>none
section
variable {X:Cx}{pos:Pos}{keys:List (Option Expr)}{values:List Expr}{cs:List (TCE×TCE)}
@[irreducible] def dD (p:Addr):List (PV×PV)->CH->K1->Prop:=fun ts C Q=>C p=some (.dK [])/\match prK ts with
 |some ps=>ps.length<=15/\Q (.ref p) (uQ C p (.dK (nV [] ps)))
 |none=>False
def cDisp (cs:List (TCE×TCE)):TCE:=fun ρ C Q=>∀p,C p=none->Qd cs ρ (uQ C p (.dK [])) fun ts C2=>dD p ts C2 Q
theorem ce_disp (h:CPs X pos keys values cs)(hall:keys.all (·.isSome)=true:=by rfl)(hl:keys.length=values.length:=by rfl)(h0:keys≠[]:=by exact fun z=>nomatch z)(h15:keys.length<=15:=by decide):CE X (.Dict keys values pos) (cDisp cs) :=
 ⟨JE.weak ⟨pe_disp h.h hall hl h0 h15⟩ fun σ H Q ⟨ρ,C,R,s,hh,q,f⟩=>fun p hp=>by
  have k0:Imm H (upd H p (.dK [])):=Imm.new hp _;refine oA (C:=uQ C p (.dK [])) (s.imm k0) (hh.lay hp ⟨[],dQ,.nil⟩) (q p (hh.fresh hp)) fun vs H2 ts C2 q2 r2 h2 f2=>?_;unfold dD at q2;obtain⟨e1,q2⟩:=q2
  split at q2
  .next ps e2 =>
   obtain⟨kvs,rfl,rk⟩:=prK_rep r2 e2;obtain⟨us,eu,ru⟩:=h2 p _ e1;have z:us=[]:=by cases ru; rfl
   subst z;have m:Imm H2 (upd H2 p (.dK (sV [] kvs))):=Imm.mut eu rfl _;refine⟨eu,kvs,rfl,by rw[Paired.length rk]; exact q2.1,?_⟩;exact f _ _ _ _ q2.2 (.ref p) (h2.put eu rfl ⟨_,dQ,Paired.mapP (KP.merge .nil rk) fun _ _ z=>⟨z.1,z.2.imm m⟩⟩) ((Fw.lay hp _ _).trans (f2.trans (Fw.put e1 _ _)))
  .exact q2.elim⟩
@[irreducible] def cPutAllT (p:Addr):List (PV×PV)->CH->K1->Prop:=fun ts C Q=>C p=some (.dT [])/\match prT ts with
 |some ps=>ps.length<=15/\Q (.ref p) (uQ C p (.dT (mergeG [] ps)))
 |none=>False
end
theorem vK {A:Around}{k:Nat}(hr:Room k A):A.units+2 < cLine:=by have:=hr.un; omega
section
variable {C:CH}{p:Addr}{Q:K1}{x y v z:PV}
theorem Kz {c dx:Addr}{f:Str}{fs:List (Str×PV)}(m:C p=some (.ins c dx fs))(e:fs.lookup f=some v)(q:Q v C):Qe c f (.ref p) C Q:=by
 unfold Qe;dsimp only;rw[m];refine⟨rfl,?_⟩;rw[e];exact q
theorem Jd {c dx:Addr}{f:Str}{fs:List (Str×PV)}{Q:CH->Prop}(m:C p=some (.ins c dx fs))(h:fs.length < 1000)(q:Q (uQ C p (.ins c dx (jT f v fs)))):Xg c f (.ref p) v C Q:=by
 unfold Xg;dsimp only;rw[m];exact⟨rfl,h,q⟩
theorem tX {c dx:Addr}{f:Str}{fs:List (Str×PV)}(m:C p=some (.ins c dx fs))(e:fs.lookup f=none):mO c f (.ref p) C:=by
 unfold mO;dsimp only;rw[m];exact⟨rfl,e⟩
theorem isTd_s {kvs:List (List Key×PV)}(m:C p=some (.dT kvs)):Kf (.ref p) C:=by
 unfold Kf;dsimp only;rw[m]
 trivial
theorem tix_s {kvs:List (List Key×PV)}{k:List Key}(m:C p=some (.dT kvs))(hk:lB y=some k)(hv:cJ kvs k=some v)(q:Q v C):cTIx (.ref p) y C Q:=by
 unfold cTIx;dsimp only;rw[m,hk];dsimp only;rw[hv];exact q
theorem tget_s {kvs:List (List Key×PV)}{k:List Key}(m:C p=some (.dT kvs))(hk:lB y=some k)(hv:(cJ kvs k).getD z=v)(q:Q v C):Xc (.ref p) y z C Q:=by
 unfold Xc;dsimp only;rw[m,hk];dsimp only;rw[hv];exact q
theorem ZJ {kvs:List (List Key×PV)}{k:List Key}{Q:CH->Prop}(m:C p=some (.dT kvs))(hk:lB y=some k)(h:kvs.length<=1000)(q:Q (uQ C p (.dT (putG kvs k v)))):Xe (.ref p) y v C Q:=by
 unfold Xe;dsimp only;rw[m,hk];exact⟨As h (by decide),q⟩
theorem oJ {kvs:List (Key×PV)}{k:Key}(m:C p=some (.dK kvs))(hk:kK y=some k)(hv:fZ kvs k=some v)(q:Q v C):wH (.ref p) y C Q:=by
 unfold wH;dsimp only;rw[m,hk];show(match fZ kvs k with | some v=>Q v C | none=>False);rw[hv];exact q
theorem getD_g {kvs:List (Key×PV)}{k:Key}(m:C p=some (.dK kvs))(hk:kK y=some k)(hv:(fZ kvs k).getD z=v)(q:Q v C):Xj (.ref p) y z C Q:=by
 unfold Xj;dsimp only;rw[m,hk];show Q ((fZ kvs k).getD z) C;rw[hv];exact q
theorem cW {kvs:List (Key×PV)}{k:Key}{Q:CH->Prop}(m:C p=some (.dK kvs))(hk:kK y=some k)(h:kvs.length<=1000)(q:Q (uQ C p (.dK (gZ kvs k v)))):fP (.ref p) y v C Q:=by
 unfold fP;dsimp only;rw[m,hk];exact⟨As h (by decide),q⟩
theorem isDk_g {kvs:List (Key×PV)}(m:C p=some (.dK kvs)):Ki (.ref p) C:=by
 unfold Ki;dsimp only;rw[m]
 trivial
theorem dictK_s {kvs:List (Key×PV)}(m:C p=some (.dK kvs))(q:∀p',C p'=none->Q (.ref p') (uQ C p' (.dK kvs))):sR [.ref p] C Q:=by
 unfold sR;dsimp only;rw[m];exact q
theorem Kl {neg:Bool}{ts:List PV}{w:V}{vs:List V}(h1:seqP C y=some ts)(h2:QX x=some w)(h3:zP ts=some vs)(q:Q (.bl (if neg then !inV w vs else inV w vs)) C):cInS neg x y C Q:=by
 unfold cInS;rw[h1,h2];dsimp only;rw[h3];exact q
end
theorem vL {cs:List (Str×Int)}{p:Addr}{C:CH}{Q:K1}(m:C p=some (.lst (cs.map rQ)))(h:cs.length < 64)(q:∀p',C p'=none->Q (.ref p') (uQ C p' (.lst ((dY cs).map rQ)))):pD [.ref p] C Q:=by
 unfold pD;dsimp only;rw[m];dsimp only;rw[pS];exact⟨h,q⟩
theorem vB {i:Nat}{g:TCG}{u:TCS}{E:mY}{ρ:CSt}{C:CH}{xs:List PV}(hv:ρ[i]?=some (some (.tup xs)))(h:uG g u E xs ρ C):Xk (rZ i) g u E ρ C:=by
 unfold Xk rZ;rw[hv];exact h
theorem tQ {x v:PV}{xs:List PV}{i:Int}{C:CH}{Q:K1}(h:x=.tup xs)(e:atI xs i=some v)(q:Q v C):cIx x (.int i) C Q:=by
 subst h;exact hX e q
theorem min_s {i j:Int}{C:CH}{Q:K1}(q:Q (.int (if j < i then j else i)) C):cMin [.int i,.int j] C Q:=by
 unfold cMin;exact q
theorem max_s {i j:Int}{C:CH}{Q:K1}(q:Q (.int (if j > i then j else i)) C):cMax [.int i,.int j] C Q:=by
 unfold cMax;exact q
theorem Qg {xs:List PV}{k:Nat}(h:k < xs.length):atI xs (k:Int)=some xs[k]:=by
 unfold atI ixN;rw[AW (by omega),AW (by omega)];show xs[(k:Int).toNat]?=_;rw[Ci,AM h]
theorem sQ {x:PV}{r:List PV}:atI (x::r) 0=some x:=Qg (xs:=x::r) (k:=0) (Nat.zero_lt_succ _)
theorem if_i {t:TCT}{ca cb:TCE}{ρ:CSt}{C:CH}{Q:K1}(h:t ρ C fun b C1=>if b=true then ca ρ C1 Q else cb ρ C1 Q):cIf t ca cb ρ C Q:=h
theorem ZL {k:Bool->Bool}{i:Nat}{x:PV}{ρ:CSt}{C:CH}{Q:Bool->CH->Prop}(hv:ρ[i]?=some (some x))(q:Q (k (X2 x)) C):yE (cOp (cIs k) (rZ i) (cC .non)) ρ C Q:=by
 show rZ i ρ C fun x C1=>uA Q (.bl (k (X2 x))) C1;unfold rZ;rw[hv];exact q
theorem eZ {g:TCG}{u:TCS}{E:mY}(I:List PV->CSt->CH->Prop)(step:∀x r ρ C,I (x::r) ρ C->∀L:CSt->CH->Prop,(∀ρ' C',I r ρ' C'->L ρ' C')->g x ρ C fun ρ1 C1=>u { nx:=L,ct:=L,bk:=E.nx,rt:=E.rt } ρ1 C1)(fin:∀ρ C,I [] ρ C->E.nx ρ C):
  ∀xs ρ C,I xs ρ C->uG g u E xs ρ C:=by
 intro xs
 induction xs with
 |nil=>intro ρ C h; exact fin ρ C h
 |cons x r ih=>intro ρ C h; exact step x r ρ C h _ ih
theorem cK {c:TCE}{ρ:CSt}{Q:K1}(I:List PV->List PV->CH->Prop)(step:∀x r acc C,I (x::r) acc C->∀L:K1,(∀y C2,acc.length < sizeLine/\I r (acc++[y]) C2->L y C2)->c (some x::ρ) C L)(fin:∀acc C,I [] acc C->∀p,C p=none->Q (.ref p) (uQ C p (.lst acc))):
  ∀xs acc C,I xs acc C->yZ vF c ρ Q xs acc C:=by
 intro xs
 induction xs with
 |nil=>intro acc C h; exact fin acc C h
 |cons x r ih =>
  intro acc C h;exact step x r acc C h _ fun y C2 z=>⟨z.1,ih _ _ z.2⟩
theorem Zh {S:CH->Prop}{c:TCE}{ρ:CSt}{Q:K1}(I:List PV->List PV->CH->Prop)(hS:∀r acc C,I r acc C->S C)(step:∀x r acc C,I (x::r) acc C->∀L:K1,(∀y C2,acc.length < sizeLine/\I r (acc++[y]) C2->L y C2)->c (some x::ρ) C L)(fin:∀acc C,I [] acc C->∀p,C p=none->Q (.ref p) (uQ C p (.lst acc))):
  ∀xs acc C,I xs acc C->iV S vF c ρ Q xs acc C:=by
 intro xs
 induction xs with
 |nil=>intro acc C h; exact⟨hS _ _ _ h,fin acc C h⟩
 |cons x r ih =>
  intro acc C h;exact⟨hS _ _ _ h,step x r acc C h _ fun y C2 z=>⟨z.1,ih _ _ z.2⟩⟩
theorem sW {C C1:CH}{p:Addr}(g:Gr C C1)(hp:C p=none)(o:CO):Gr C (uQ C1 p o):=fun b u e=>by
 rw[wQ (fun z=>by subst z; rw[hp] at e; cases e)];exact g b u e
theorem oK {C C':CH}{p:Addr}(g:Gr C C')(h:C' p=none):C p=none:=by
 cases e:C p with
 |none=>rfl
 |some o=>rw[g p o e] at h; cases h
theorem xK {n:Nat}(h:n<=1000):n<=sizeLine:=Ae h (by decide)
theorem oB (kvs:List (Key×PV))(k:Key)(v:PV):(gZ kvs k v).length<=kvs.length+1:=by
 unfold gZ
 split
 .rw [AA]; omega
 .rw [AC,AO]; exact AJ _
theorem sN (kvs:List (Key×PV))(k:Key)(v:PV)(k':Key):fZ (gZ kvs k v) k'=if k'=k then some v else fZ kvs k':=by
 have up:∀l:List (Key×PV),(l.any fun kv=>decide (kv.1=k))=true->fZ (l.map fun kv=>if kv.1=k then (kv.1,v) else kv) k'=if k'=k then some v else fZ l k':=by
  intro l
  induction l with
  |nil=>intro h; cases h
  |cons x l ih =>
   intro h;unfold fZ;rw[Ac,Ap,Ap]
   by_cases e:x.1=k
   .rw [AW e]
    by_cases e2:k'=k
    .rw [AW e2]
     show(match decide (x.1=k') with | true=>some (x.1,v) | false=>_).map _=_;rw[Af (e.trans e2.symm)]; rfl
    .rw [AT e2]
     have ne:¬ x.1=k':=fun z=>e2 (z.symm.trans e);show(match decide (x.1=k') with | true=>some (x.1,v) | false=>_).map _=(match decide (x.1=k') with | true=>some x | false=>_).map _;rw[AS ne]
     by_cases h3:(l.any fun kv=>decide (kv.1=k))=true
     .have:=ih h3
      rw[AT e2] at this;exact this
     .have:(l.map fun kv=>if kv.1=k then (kv.1,v) else kv)=l:=by
       have h4:∀y∈l,¬ y.1=k:=fun y hy z=>h3 (Bs.2 ⟨y,hy,Af z⟩);exact(CN fun y hy=>AT (h4 y hy)).trans (List.map_id l)
      rw[this]
   .rw [AT e]
    have h3:(l.any fun kv=>decide (kv.1=k))=true:=by
     rw[BA,AS e,Bool.false_or] at h;exact h
    have:=ih h3
    by_cases e3:x.1=k'
    .rw [Af e3]
     have e2:¬ k'=k:=fun z=>e (e3.trans z);rw[AT e2]
    .rw [AS e3]
     exact this
 unfold gZ
 by_cases b:(kvs.any fun kv=>decide (kv.1=k))=true
 .rw [AW b]; exact up kvs b
 .rw [AT b]
  induction kvs with
  |nil =>
   unfold fZ;rw[Cy,Ap]
   by_cases e2:k'=k
   .rw [AW e2]
    show(match decide (k=k') with | true=>some (k,v) | false=>_).map _=_;rw[Af e2.symm]; rfl
   .rw [AT e2]
    show(match decide (k=k') with | true=>some (k,v) | false=>_).map _=_;rw[AS (fun z=>e2 z.symm)]
  |cons x l ih =>
   rw[BA] at b;have e:¬ x.1=k:=fun e=>b (by rw[Af e]; rfl);rw[AS e,Bool.false_or] at b;have:=ih b;unfold fZ at this ⊢;rw[B9,Ap,Ap]
   by_cases e3:x.1=k'
   .rw [Af e3]
    have e2:¬ k'=k:=fun z=>e (e3.trans z);rw[AT e2]
   .rw [AS e3]
    exact this
def ExS (S:List Addr)(C C':CH):Prop:=∀b o,b∉S->C b=some o->C' b=some o
theorem ExS.refl {S:List Addr}{C:CH}:ExS S C C:=fun _ _ _ h=>h
theorem ExS.trans {S:List Addr}{C C1 C2:CH}(h:ExS S C C1)(h':ExS S C1 C2):ExS S C C2:=fun b o n e=>h' b o n (h b o n e)
theorem ExS.mono {S S':List Addr}{C C1:CH}(h:ExS S C C1)(s:∀b∈S,b∈S'):ExS S' C C1:=fun b o n e=>h b o (fun z=>n (s b z)) e
theorem ExS.at {S:List Addr}{C C1:CH}{p:Addr}(h:ExS S C C1)(hp:p∈S)(o:CO):ExS S C (uQ C1 p o):=fun b u n e=>by
 rw[wQ (fun z=>n (by rw[z]; exact hp))];exact h b u n e
theorem ExS.put {S:List Addr}{C C1:CH}{p:Addr}(h:ExS S C C1)(hp:C p=none)(o:CO):ExS S C (uQ C1 p o):=fun b u n e=>by
 rw[wQ (fun z=>by subst z; rw[hp] at e; cases e)];exact h b u n e
theorem ExS.none {S:List Addr}{C C':CH}{p:Addr}(g:ExS S C C')(n:p∉S)(h:C' p=none):C p=none:=by
 cases e:C p with
 |none=>rfl
 |some o=>rw[g p o n e] at h; cases h
end CL
namespace L2
open PySem PySem.Spec PyProof.Rows
def sE (K:DK)(n:Nat)(wi:TI)(tc:TT)(te:TE):TE:=fun σ H Q=>wi σ H fun J H1=>∀D,H1 D=none->∃W:Nat->Nat->List V->Hp->Prop,(∃m,W 0 m [] (upd H1 D (.lst [])))/\∀i m ys H,W i m ys H ->
 (J.stop i H/\Q (.ref D) H)\/(J.go i H/\∀x H',J.yld i H x H'->∃a vs,x=.ref a/\SqT K H' a vs/\vs.length=n/\tc (vs.map some++σ) H' fun b H2 =>
  if b=true then te (vs.map some++σ) H2 fun y H3=>H3 D=some (.lst ys)/\ys.length < sizeLine/\∃m',m' < m/\W (i+1) m' (ys++[y]) (upd H3 D (.lst (ys++[y])))
  else ∃m',m' < m/\W (i+1) m' ys H2)
section
variable {X:Cx}
theorem Jt {elt iter tg:Expr}{xs:List Str}{pos:Pos}{ifs:List Expr}{scope:Scope}{cl:List (Str×Addr)}{wi:TI}{tc:TT}{te:TE}{g:TG}
  (hc:X.calm=true) (K:mK X xs scope cl) (hg:∀fp C s₂ H₂,PG (cxN X xs scope cl fp C s₂ H₂) tg g) (hG:∀ws vs a σ H Q,ws.length=xs.length->SqT X.K H a vs->vs.length=xs.length->Q (vs.map some++σ) H->g (.ref a) (ws++σ) H Q) (hi:PI X tg iter wi)
  (ht:∀fp C s₂ H₂,Zv (cxN X xs scope cl fp C s₂ H₂) ifs tc) (he:∀fp C s₂ H₂,PE (cxN X xs scope cl fp C s₂ H₂) elt te)
  (hs:∀v,foldedSetIterable iter X.env v=pure v:=by intro _; rfl):PE X (.ListComp elt [⟨tg,iter,ifs,0⟩] scope pos) (sE X.K xs.length wi tc te):=by
 intro pins s σ H Q I h;rw[eval_ListComp];refine By (use:=none) rfl hs K.clos K.kind K.names (thn (hi pins s σ H _ I h) fun xv s₁ h₁=>thn h₁ fun itv s₂ h₂=>?_);obtain⟨it,fp,tn,J,H₂,e,I₂,T,st₂,f₂,R⟩:=h₂;subst e;refine pW (Tk:=fun x H vs=>∃a,x=.ref a/\SqT X.K H a vs) hc K hg ht he (fun ws vs x H Q l ⟨a,e,sq⟩ l' q=>by rw[e]; exact hG ws vs a σ H Q l sq l' q) I₂ T st₂ f₂ (fun D hD=>let ⟨W,w0,tu⟩:=R D hD; ⟨W,w0,fun i m ys H w=>(tu i m ys H w).imp id fun⟨g,st⟩=>⟨g,fun x H' y=>let ⟨a,vs,e,sq,l,q⟩:=st x H' y; ⟨vs,⟨a,e,sq⟩,l,q⟩⟩⟩) ?_
 intro D C H s4 m hn hCL hC0 hCc hCsz I4 q;refine⟨m,hn,fun h' hsb=>⟨.ref D,H,?_,rfl,q⟩⟩;refine I4.turned (it:=C) (t':=s4.toks) (fun b o hb e=>(hsb.2 b hb).trans e) hC0 hCL (.inr (Ae I₂.sz hCsz)) hCc fun p hp z=>?_;exact absurd (AR (AN (I₂.pin p hp).1) (by rw[z]; exact hCsz)) (BJ _)
end
end L2
namespace CL
open PySem PySem.Spec L2 PySem.W
open PyProof.Rows hiding St
def fU (n:Nat)(t:TCT)(c:TCE)(ρ:CSt)(Q:K1):List PV->List PV->CH->Prop
 |[],acc,C=>∀p,C p=none->Q (.ref p) (uQ C p (.lst acc))
 |x::r,acc,C=>∃ts,x=.tup ts/\ts.length=n/\t (ts.map some++ρ) C fun b C1=>if b=true then c (ts.map some++ρ) C1 fun y C2=>acc.length < sizeLine/\fU n t c ρ Q r (acc++[y]) C2 else fU n t c ρ Q r acc C1
theorem eN {K:DK}{H:Hp}:∀{vs:List V}{ts:List PV},Reps K H vs ts->SRel K H (vs.map some) (ts.map some)
 |_,_,.nil=>.nil
 |_,_,.cons h r=>.cons h (eN r)
theorem SRel.app {K:DK}{H:Hp}{σ τ:St}{ρ π:CSt}(h:SRel K H σ ρ)(h':SRel K H τ π):SRel K H (σ++τ) (ρ++π):=by
 induction h with
 |nil=>exact h'
 |cons a _ ih=>exact .cons a ih
theorem K2 {n:Nat}{K:DK}{H H0:Hp}{C C0:CH}{σ:St}{ρ:CSt}{J:It}{ps:List PV}{t:TCT}{c:TCE}{R:K1}{Q:VK}(j:Qk K H J ps)(s:SRel K H σ ρ)(h:HRel K H C)(q:fU n t c ρ R ps [] C)
  (h0:HRel K H0 C0) (f0:Fw H0 C0 H C) (f:∀v H' p C',R p C'->Rep K H' v p->HRel K H' C'->Fw H0 C0 H' C'->Q v H') {D:Addr} (hD:H D=none) :
  ∃W:Nat->Nat->List V->Hp->Prop,(∃m,W 0 m [] (upd H D (.lst [])))/\∀i m ys H,W i m ys H ->
   (J.stop i H/\Q (.ref D) H)\/(J.go i H/\∀x H',J.yld i H x H'->∃a vs,x=.ref a/\SqT K H' a vs/\vs.length=n/\sZ K sB t (vs.map some++σ) H' fun b H2 =>
    if b=true then sZ K (Rep K) c (vs.map some++σ) H2 fun y H3=>H3 D=some (.lst ys)/\ys.length < sizeLine/\∃m',m' < m/\W (i+1) m' (ys++[y]) (upd H3 D (.lst (ys++[y])))
    else ∃m',m' < m/\W (i+1) m' ys H2):=by
 have fD:∀{H':Hp} {C':CH},Fw H C H' C'->True:=fun _=>trivial
 refine⟨fun i m ys H'=>m=ps.length - i/\i<=ps.length/\∃acc C',H' D=some (.lst ys)/\C' D=none/\Reps K H' ys acc/\HRel K H' C'/\Fw H C H' C'/\fU n t c ρ R (ps.drop i) acc C',
  ⟨ps.length,rfl,AV _,[],C,dQ,h.fresh hD,.nil,h.new hD _,Fw.new hD _,q⟩,?_⟩
 rintro i m ys H1 ⟨rfl,hi,acc,C1,e1,n1,r1,h1,f1,q1⟩;have k1:Imm H H1:=f1.imm h
 by_cases hlt:i < ps.length
 .refine .inr ⟨j.go i H1 hlt k1,fun x H2 y=>?_⟩
  obtain⟨rfl,y⟩:=j.yl i H1 x H2 k1 y;have rx:=y _ (AM hlt);rw[Aq hlt] at q1;obtain⟨ts,ets,hn,q1⟩:=q1;rw[ets] at rx
  obtain⟨a5,vs5,z5,sq5,rs5⟩:∃a vs,x=.ref a/\SqT K H2 a vs/\Reps K H2 vs ts:=by
   cases rx with
   |tup e r=>exact⟨_,_,rfl,SqT.of e,r⟩
  refine⟨a5,vs5,z5,sq5,rs5.len.trans hn,?_⟩;refine⟨ts.map some++ρ,C1,_,(eN rs5).app (s.imm k1),h1,q1,fun b H3 b' C3 q3 e h3 f3=>?_⟩;cases e;obtain⟨n3,e3⟩:=f3 D (by rw[n1]; rfl) (by rw[e1]; exact fun z=>nomatch z);rw[e1] at e3;rw[n1] at n3;have k3:=f3.imm h1
  cases b with
  |true =>
   rw[AW rfl] at q3 ⊢;refine⟨ts.map some++ρ,C3,_,(eN (rs5.imm k3)).app ((s.imm k1).imm k3),h3,q3,fun v H4 p C4 q4 r4 h4 f4=>?_⟩;obtain⟨n4,e4⟩:=f4 D (by rw[n3]; rfl) (by rw[e3]; exact fun z=>nomatch z);rw[e3] at e4;rw[n3] at n4;have k4:=f4.imm h3;have m4:Imm H4 (upd H4 D (.lst (ys++[v]))):=Imm.mut e4 rfl _;refine⟨e4,by rw[r1.len]; exact q4.1,ps.length - (i+1),by omega,rfl,hlt,acc++[p],C4,dQ,n4,?_,?_,?_,q4.2⟩
   .exact (((r1.imm k3).imm k4).append (.cons r4 .nil)).imm m4
   .intro a o ca
    have ne:a≠D:=fun z=>by subst z; rw[n4] at ca; cases ca
    exact(h4 a o ca).imm m4 (nQ ne)
   .intro a ca na
    have ne:a≠D:=fun z=>na (z▸hD);obtain⟨x1,x2⟩:=(f1.trans (f3.trans f4)) a ca na;exact⟨x1,(nQ ne).trans x2⟩
  |false =>
   rw[AT AL] at q3 ⊢;exact⟨ps.length - (i+1),by omega,rfl,hlt,acc,C3,e3,n3,r1.imm k3,h3,f1.trans f3,q3⟩
 .have e:i=ps.length:=by omega
  subst e;rw[Br] at q1;refine .inl ⟨j.st H1 k1,f (.ref D) H1 (.ref D) _ (q1 D n1) (.ref D) ?_ ?_⟩
  .intro a o ca
   by_cases z:a=D
   .subst z; rw[jQ] at ca; cases ca; exact⟨ys,e1,r1⟩
   .rw [wQ z] at ca; exact h1 a o ca
  .intro a ca na
   obtain⟨x1,x2⟩:=f0 a ca na;have na':H a≠none:=by rw[x2]; exact na
   have ne:a≠D:=fun z=>na' (z▸hD);obtain⟨y1,y2⟩:=f1 a (by rw[x1]; exact ca) na';exact⟨(wQ ne).trans (y1.trans x1),y2.trans x2⟩
section
variable {X:Cx}{pos:Pos}
def oR (n:Nat)(ci:CSt->CH->(List PV->CH->Prop)->Prop)(t:TCT)(c:TCE):TCE:=fun ρ C Q=>ci ρ C fun ps C1=>fU n t c ρ Q ps [] C1
theorem tL {n:Nat}{wi:TI}{tg it:Expr}{ci:CSt->CH->(List PV->CH->Prop)->Prop}{t:TCT}{c:TCE}(hi:CI X tg it wi ci){σ:St}{H:Hp}{Q:VK}(h:sZ X.K (Rep X.K) (oR n ci t c) σ H Q):sE X.K n wi (sZ X.K sB t) (sZ X.K (Rep X.K) c) σ H Q:=by
 obtain⟨ρ,C,R,s,h,q,f⟩:=h;exact hi.w σ H ρ C _ _ s h q fun J H' ps C' q' j h' f' D hD=>K2 j (s.imm (f'.imm h)) h' q' h f' f hD
def GOk (K:DK)(n:Nat)(g:TG):Prop:=∀(ws:St) (vs:List V) (a:Addr) (σ:St) (H:Hp) (Q:St->Hp->Prop),ws.length=n->SqT K H a vs->vs.length=n->Q (vs.map some++σ) H->g (.ref a) (ws++σ) H Q
theorem Va {elt iter tg:Expr}{xs:List Str}{ifs:List Expr}{scope:Scope}{wi:TI}{ci:CSt->CH->(List PV->CH->Prop)->Prop}{t:TCT}{c:TCE}{g:TG}
  (hc:X.calm=true) (K:∃cl,mK X xs scope cl) (hg:∀cl fp C s₂ H₂,mK X xs scope cl->PG (cxN X xs scope cl fp C s₂ H₂) tg g) (hG:GOk X.K xs.length g) (hi:CI X tg iter wi ci)
  (ht:∀cl fp C s₂ H₂,CF (cxN X xs scope cl fp C s₂ H₂) ifs t) (he:∀cl fp C s₂ H₂,CE (cxN X xs scope cl fp C s₂ H₂) elt c)
  (hs:∀v,foldedSetIterable iter X.env v=pure v:=by intro _; rfl):CE X (.ListComp elt [⟨tg,iter,ifs,0⟩] scope pos) (oR xs.length ci t c):=by
 obtain⟨cl,K⟩:=K;exact⟨JE.weak ⟨Jt (pos:=pos) hc K (fun fp C s₂ H₂=>hg cl fp C s₂ H₂ K) hG hi.j.h (fun fp C s₂ H₂=>(ht cl fp C s₂ H₂).h.h) (fun fp C s₂ H₂=>(he cl fp C s₂ H₂).h.h) hs⟩ fun _ _ _ h=>tL hi h⟩
abbrev g2 (K:DK):TG:=gTup K 2 (qP (eV 0) (qP (eV 1) gNil))
abbrev g3 (K:DK):TG:=gTup K 3 (qP (eV 0) (qP (eV 1) (qP (eV 2) gNil)))
theorem tM {α:Type}{l:List α}(h:l.length=1):∃a,l=[a]:=by
 cases l with
 |nil=>cases h
 |cons a l =>
  cases l with
  |nil=>exact⟨a,rfl⟩
  |cons b l=>cases h
theorem len2 {α:Type}{l:List α}(h:l.length=2):∃a b,l=[a,b]:=by
 cases l with
 |nil=>cases h
 |cons a l =>
  obtain⟨b,rfl⟩:=tM (At h);exact⟨a,b,rfl⟩
theorem gok2 {K:DK}:GOk K 2 (g2 K):=by
 intro ws vs a σ H Q h1 h2 h3 q;obtain⟨w0,w1,rfl⟩:=len2 h1;obtain⟨v0,v1,rfl⟩:=len2 h3;exact⟨a,[v0,v1],rfl,h2,rfl,v0,[v1],rfl,v1,[],rfl,rfl,q⟩
theorem pg2 {x y:Str}{scope:Scope}{cl:List (Str×Addr)}{fp:List Addr}{C:Addr}{s₂:Shared}{H₂:Hp}{p1 p2 p:Pos}{k:Nat}(hc:X.calm=true)(hN:(x::y::X.N).Nodup)(K:mK X [x,y] scope cl):
  PG (cxN X [x,y] scope cl fp C s₂ H₂) (.Tuple [.Name x p1,.Name y p2] k p) (g2 X.K) :=
 have l1:=BY (env:=X.env) (K.hx x (by simp));have l2:=BY (env:=X.env) (K.hx y (by simp))
 Jm (X:=cxN X [x,y] scope cl fp C s₂ H₂) hc (mL (aB (i:=0) hN rfl (.inl l1) (.inr l1)) (mL (aB (i:=1) hN rfl (.inl l2) (.inr l2)) QF))
theorem kE {elt iter:Expr}{x y:Str}{ifs:List Expr}{scope:Scope}{wi:TI}{ci:CSt->CH->(List PV->CH->Prop)->Prop}{t:TCT}{c:TCE}{p1 p2 p:Pos}{k:Nat}
  (hc:X.calm=true) (hN:(x::y::X.N).Nodup) (K:∃cl,mK X [x,y] scope cl) (hi:CI X (.Tuple [.Name x p1,.Name y p2] k p) iter wi ci)
  (ht:∀cl fp C s₂ H₂,CF (cxN X [x,y] scope cl fp C s₂ H₂) ifs t) (he:∀cl fp C s₂ H₂,CE (cxN X [x,y] scope cl fp C s₂ H₂) elt c)
  (hs:∀v,foldedSetIterable iter X.env v=pure v:=by intro _; rfl):CE X (.ListComp elt [⟨.Tuple [.Name x p1,.Name y p2] k p,iter,ifs,0⟩] scope pos) (oR 2 ci t c) :=
 Va (xs:=[x,y]) hc K (fun _ _ _ _ _ K'=>pg2 hc hN K') gok2 hi ht he hs
end
end CL
namespace L2
open PySem PySem.W PySem.Spec PyProof.Rows
abbrev mQ:=List (List Key)
abbrev KPt (H:Hp):List (mQ×V)->List (mQ×Addr×Value)->Prop:=Paired fun p q=>p.1=q.1/\PKey H p.1 q.2.1/\RelV p.2 q.2.2
theorem KPt.val {H:Hp}{kvs:List (mQ×V)}{xs:List (mQ×Addr×Value)}(r:KPt H kvs xs)(k:mQ):RelO (dW kvs k) ((atKey xs k).map (·.2)):=by
 induction r with
 |nil=>exact True.intro
 |@cons p q ps qs h t ih =>
  obtain⟨h1,_,h2⟩:=h
  by_cases e:p.1=k
  .have b:atKey (q::qs) k=some q.2:=by simp[atKey,List.find?_cons,h1.symm.trans e]
   rw[pB e,b]; exact h2
  .have b:atKey (q::qs) k=atKey qs k:=by
    have e':¬ q.1=k:=fun z=>e (h1.trans z)
    simp[atKey,List.find?_cons,e']
   rw[dB e,b]; exact ih
theorem KPt.repl {H:Hp}{kvs:List (mQ×V)}{xs:List (mQ×Addr×Value)}(r:KPt H kvs xs)(k:mQ){y:V}{u:Value}(ry:RelV y u):
  KPt H (kvs.map fun kv=>if kv.1=k then (kv.1,y) else kv) (xs.map (putAt k u)):=by
 induction r with
 |nil=>exact .nil
 |@cons p q ps qs h t ih =>
  rw[Ac,Ac];refine .cons ?_ ih;obtain⟨h1,h2,h3⟩:=h;unfold putAt
  by_cases e:p.1=k
  .rw [AW e,AW (h1.symm.trans e)]; exact⟨h1,h2,ry⟩
  .rw [AT e,AT (fun z=>e (h1.trans z))]; exact⟨h1,h2,h3⟩
theorem KPt.put {H:Hp}{kvs:List (mQ×V)}{xs:List (mQ×Addr×Value)}(r:KPt H kvs xs)(k:mQ){b:Addr}{y:V}{u:Value}(hb:PKey H k b)(ry:RelV y u):
  KPt H (pK kvs k y) (storedH xs k b u):=by
 have e:(kvs.any fun kv=>decide (kv.1=k))=(atKey xs k).isSome:=by
  rw[zL,(r.val k).isSome_eq,Ce]
 unfold pK storedH;rw[e]
 by_cases q:(atKey xs k).isSome=true
 .rw [AW q,AW q]; exact r.repl k ry
 .rw [AT q,AT q]; exact Paired.snoc r ⟨rfl,hb,ry⟩
theorem KPt.keeps {H H':Hp}{kvs:List (mQ×V)}{xs:List (mQ×Addr×Value)}(r:KPt H kvs xs)(ht:∀b ys,H b=some (.tup ys)->H' b=some (.tup ys)):KPt H' kvs xs :=
 Paired.mapP r fun _ _ z=>⟨z.1,z.2.1.mono ht,z.2.2⟩
section
variable {P:Program}{w:World}{H:Hp}{h:Heap}{a:Addr}
theorem gO (ok:HOk P w H h):∀{kss:List (List Key)}{bs:List Addr}{its:List Value},Paired (fun(ks:List Key) (c:Addr)=>H c=some (.tup (ks.map kV))) kss bs->Vals (bs.map V.ref) its->ItemsTup (qX P w) h kss its
 |_,_,_,.nil,r=>by cases r; exact .nil
 |_,_,_,.cons (b:=c) e t,r=>by
  cases r with
  |cons r1 r2 =>
   cases r1;exact .cons (zB ok e) (gO ok t r2)
theorem kU {kss:mQ}(ok:HOk P w H h)(e:PKey H kss a):(lG (qX P w)).is h kss a:=by
 obtain⟨bs,e1,pr⟩:=e;obtain⟨_,its,r,o,h1,h2,⟨n,h3⟩,_⟩:=(show ObjOk P w H h a (.tup (bs.map V.ref)) from ok a _ e1);exact⟨o,its.toArray,n,h1,h2,h3,by rw[List.toList_toArray]; exact gO ok pr r⟩
theorem gN {kvs:List (mQ×V)}(ok:HOk P w H h)(e:H a=some (.dP kvs)):kvs.length<=sizeLine/\(a==sysModules)=false /\
  ∃xs,KPt H kvs xs/\h.DictOfH (lG (qX P w)) a xs:=by
 obtain⟨z,y,xs,r,o,es,ep,h1,h2,h3,h4,h5⟩:=(show ObjOk P w H h a (.dP kvs) from ok a _ e);refine⟨z,y,xs,r,o,es,ep,h1,h2,h3,h4,fun x hx=>?_,h5⟩
 have all:∀{l:List (mQ×V)} {m:List (mQ×Addr×Value)},KPt H l m->∀x∈m,(lG (qX P w)).is h x.1 x.2.1:=by
  intro l m q
  induction q with
  |nil=>intro x hx; exact nomatch hx
  |@cons p q ps qs hq t ih =>
   intro x hx
   rcases Ah.mp hx with e | hx
   .subst e
    exact kU ok (by rw[<- hq.1]; exact hq.2.1)
   .exact ih x hx
 exact all r x hx
end
def Qi (H:Hp)(a:Addr)(y:V)(r:Option V):Prop:=∃kvs k b,H a=some (.dP kvs)/\y=.ref b/\PKey H k b/\r=dW kvs k
def QPut (H:Hp)(a:Addr)(y v:V)(H':Hp):Prop:=∃kvs k b,H a=some (.dP kvs)/\y=.ref b/\PKey H k b/\kvs.length < sizeLine/\H'=upd H a (.dP (pK kvs k v))
section
variable {X:Cx}{pins:List (Addr×Obj)}{σ:St}{H:Hp}{s:Shared}{a:Addr}{y v:V}{u r:Value}{o:Option V}{A:Around}{E:Value->Shared->Prop}
theorem XG {Q:Value->Shared->Prop}(hu:A.units+2 < cLine)(I:Inv X pins σ H s)(g:Qi H a y (some v))(ry:RelV y u)(h:∀w' s',Inv X pins σ H s'->RelV v w'->Q w' s'):
  wpAny (model X.prog X.w) A (getItem (.ref a) u) Q E s:=by
 obtain⟨kvs,k,b,e,ey,eb,l⟩:=g;subst ey;cases (show u=Value.ref b from ry);obtain⟨z,hd,xs,rel,dd⟩:=gN I.hok e;obtain⟨w',hw,rw'⟩:=RelO.some_of (v:=v) (o:=(atKey xs k).map (·.2)) (by rw[l]; exact rel.val k);obtain⟨p,hp,hp2⟩:=Option.map_eq_some_iff.mp hw;refine wpAny_getItem_heap (oZ hu) (kU I.hok eb) dd hp ?_;rw[hp2];exact h w' _ (I.tok _) rw'
theorem p_in {Q:Value->Shared->Prop}(hu:A.units+2 < cLine)(I:Inv X pins σ H s)(g:Qi H a y o)(ry:RelV y u)(h:∀s',Inv X pins σ H s'->Q (.bool o.isSome) s'):
  wpAny (model X.prog X.w) A (compareOp .In u (.ref a)) Q E s:=by
 obtain⟨kvs,k,b,e,ey,eb,l⟩:=g;subst ey;cases (show u=Value.ref b from ry);obtain⟨z,hd,xs,rel,dd⟩:=gN I.hok e;refine wpAny_in_heap (oZ hu) (kU I.hok eb) hd dd ?_;have q:=(rel.val k).isSome_eq;rw[Ce] at q;rw[<- q,<- l];exact h _ (I.tok _)
theorem XF {H':Hp}{Q:Unit->Shared->Prop}(hu:A.units+2 < cLine)(I:Inv X pins σ H s)(g:QPut H a y v H')(ry:RelV y u)(rv:RelV v r)(h:∀s',Inv X pins σ H' s'->Q () s'):
  wpAny (model X.prog X.w) A (setItem (.ref a) u r) Q E s:=by
 obtain⟨kvs,k,b,e,ey,eb,l,eH⟩:=g;subst ey eH;cases (show u=Value.ref b from ry);obtain⟨z,hd,xs,rel,dd⟩:=gN I.hok e;have hz:xs.length<=sizeLine:=by rw[<- Paired.length rel]; exact z
 have hl:(pK kvs k v).length<=sizeLine:=by have:=uW kvs k v; omega
 refine wpAny_setItem_heap (hsz:=hz) (oZ hu) (kU I.hok eb) dd fun h' dd' hs=>h _ ?_;obtain⟨q,es,ep,hq,h2,h3,h4,_,h5⟩:=dd';refine vD I (by rw[e]; exact True.intro) hs ⟨q,hq⟩ ⟨hl,hd,_,(rel.put k eb rv).keeps fun c ys ec=>?_,q,es,ep,hq,h2,h3,h4,h5⟩;rw[nQ (ne_of ec e (fun z=>nomatch z))];exact ec
theorem dp_type {kvs:List (mQ×V)}(I:Inv X pins σ H s)(e:H a=some (.dP kvs)):s.TypeIs (.ref a) "dict":=by
 obtain⟨_,_,xs,_,dd⟩:=gN I.hok e;exact dd.typeIs
end
section
variable {X:Cx}{o i e value:Expr}{pos pos':Pos}{td ty tv:TE}
def tPGet (td ty:TE):TE:=fun σ H Q=>td σ H fun x H1=>ty σ H1 fun y H2=>∃a v,x=.ref a/\Qi H2 a y (some v)/\Q v H2
def sPPut (td ty tv:TE):TS:=fun D σ H=>tv σ H fun v H1=>td σ H1 fun x H2=>ty σ H2 fun y H3=>∃a H4,x=.ref a/\QPut H3 a y v H4/\D.nx σ H4
theorem pe_pget (hu:X.A.units+2 < cLine)(ho:PE X o td)(hi:PE X i ty)(hs:Qj i):PE X (.Subscript o i pos) (tPGet td ty):=by
 intro pins s σ H Q I h;refine Qv PySem.F.slot_dict_getitem.lookup hs (thn (ho pins s σ H _ I h) fun u s1 ⟨x,H1,I1,rx,q1⟩=>thn (hi pins s1 σ H1 _ I1 q1) fun iv s2 zq=>?_);obtain⟨y,H2,I2,ry,a,v,ex,g,q2⟩:=zq;subst ex;obtain rfl:u=Value.ref a:=rx;exact⟨let ⟨_,_,_,e,_⟩:=g; dp_type I2 e,XG hu I2 g ry fun w' s3 I3 rw'=>⟨v,H2,I3,rw',q2⟩⟩
theorem op_pin (hu:X.A.units+2 < cLine):OpR X (compareOp .In) (fun y x H Q=>∃a o,x=.ref a/\Qi H a y o/\Q (.bl o.isSome) H):=by
 intro pins s σ H y x v u Q I ry rx h;obtain⟨a,o,rfl,g,q⟩:=h;cases (show u=Value.ref a from rx);exact p_in hu I g ry fun s3 I3=>⟨.bl o.isSome,H,I3,rfl,q⟩
theorem ps_pput (hu:X.A.units+2 < cLine)(ho:PE X o td)(hi:PE X i ty)(hv:PE X value tv)(hs:swapsWith value (some (.Subscript o i pos')) pos.line X.env=pure false):
  PS X (.Assign [.Subscript o i pos'] value pos) (sPPut td ty tv):=by
 intro pins s σ H D I h;refine wpAny_Assign_Subscript (thn (hv pins s σ H _ I h) fun r s1 ⟨v,H1,I1,rv,q1⟩=>thn (ho pins s1 σ H1 _ I1 q1) fun u s2 ⟨x,H2,I2,rx,q2⟩=>thn (hi pins s2 σ H2 _ I2 q2) fun iv s3 zq=>?_) hs;obtain⟨y,H3,I3,ry,a,H4,ex,g,q3⟩:=zq;subst ex;obtain rfl:u=Value.ref a:=rx;exact XF hu I3 g ry rv fun s4 I4=>⟨σ,H4,I4,q3⟩
def tPNew:TE:=fun _ H Q=>∀p,H p=none->Q (.ref p) (upd H p (.dP []))
theorem KL {P:Program}{w:World}{H:Hp}(h:Heap)(hb:sysModules < h.objs.size):ObjOk P w H (h.push { cls:=.type "dict",data:=.dict #[] }) h.objs.size (.dP []):=by
 obtain⟨z,y,xs,r,rest⟩:=(show ObjOk P w H (h.push { cls:=.type "dict",data:=.dict #[] }) h.objs.size (.dT []) from rO h hb);obtain⟨o,es,ep,h1,h2,h3,h4,h5⟩:=rest;cases r;exact⟨z,y,[],.nil,o,es,ep,h1,h2,h3,h4,BM⟩
theorem pe_pnew:PE X (.Dict [] [] pos) tPNew:=by
 intro pins s σ H Q I h;exact wpAny_Dict_empty ⟨.ref s.heap.objs.size,_,I.laid (a:=s.heap.objs.size) (o:=.dP []) (t':=s.toks) (fun _ _ q=>AF _ q) (AJ _) (KL s.heap I.big),rfl,h _ (I.hok.fresh (AJ _))⟩
end
end L2
namespace CL
open PySem PySem.Spec L2 PySem.W
open PyProof.Rows hiding St
section
variable {X:Cx}{a b c e o i f value:Expr}{es:List Expr}{pos pos':Pos}
@[irreducible] def cInt:GC:=fun ts C Q=>match ts with
 |[.bl b]=>Q (.int (if b then 1 else 0)) C
 |[.int i]=>Q (.int i) C
 |_=>False
theorem mD {K:DK}:Cbi K (fun xs H Q=>(∃i,xs=[.int i]/\Q (.int i) H)\/∃k,xs=[.bl k]/\Q (.int (if k then 1 else 0)) H) cInt:=fun xs ts H C Q R rs h q f=>by
 unfold cInt at q
 split at q
 .obtain ⟨v,rfl,r⟩:=zZ rs
  cases r;exact .inr ⟨_,rfl,f _ H _ C q (.int _) h Fw.refl⟩
 .obtain ⟨v,rfl,r⟩:=zZ rs
  cases r;exact .inl ⟨_,rfl,f _ H _ C q (.int _) h Fw.refl⟩
 .exact q.elim
@[irreducible] def cCatT:R2C:=fun x y C Q=>match x,y with
 |.tup xs,.tup ys=>xs.length+ys.length<=sizeLine/\Q (.tup (xs++ys)) C
 |_,_=>False
@[irreducible] def lD:PV->List PV->CH->K1->Prop:=fun x ts C Q=>match x,ts with
 |.ref a,[.ref b]=>match C a,C b with
  |some (.lst xs),some (.lst ys)=>xs.length+ys.length<=sizeLine/\Q .non (uQ C a (.lst (xs++ys)))
  |_,_=>False
 |_,_=>False
theorem wP {K:DK}:Cmt K QA lD:=fun x px xs ps H C Q R rx rs h q f=>by
 unfold lD at q
 split at q
 .split at q
  .next ys zs e1 e2 =>
   obtain⟨vs,ev,rv⟩:=h _ _ e1;obtain⟨ws,ew,rw'⟩:=h _ _ e2;obtain⟨v,rfl,r⟩:=zZ rs;cases rx; cases r
   exact⟨_,_,vs,ws,rfl,rfl,ev,ew,by rw[rv.len,rw'.len]; exact q.1,f _ _ _ _ q.2 .non (h.put ev rfl ⟨_,dQ,(rv.append rw').imm (Imm.mut ev rfl _)⟩) (Fw.put e1 _ _)⟩
  .exact q.elim
 .exact q.elim
def cBM0 (cr:PV->List PV->CH->K1->Prop)(co:TCE):TCE:=fun ρ C Q=>co ρ C fun x C1=>isL x C1/\cr x [] C1 Q
theorem ce_bm0 {name:Str}{id:String}{apos cpos:Pos}{r:V->List V->Hp->VK->Prop}{cr:PV->List PV->CH->K1->Prop}{co:TCE}(pa:PlainAttrs "list")(slot:Slot "list" name id)(hty:typeOf (.builtin id)=pure (.type "method_descriptor"))(hm:MtR X id r)(hr:Cmt X.K r cr)(ho:CE X o co)
  (hbase:attributeBase o name X.env (eval o X.env)=eval o X.env:=by rfl) (hline:(apos.endLine==cpos.line)=true:=by rfl):CE X (.Call (.Attribute o name apos) [] [] cpos) (cBM0 cr co):=⟨JE.weak (Kc pa slot hty hm ho.h hbase hline) fun σ H Q ⟨ρ,C,R,s,h,q,f⟩ =>
 ⟨ρ,C,_,s,h,q,fun x H1 px C1 q1 rx h1 f1=>⟨Kg q1.1 rx h1,hr x px [] [] H1 C1 Q R rx .nil h1 q1.2 fun v H' t C' q' r' h' f'=>f v H' t C' q' r' h' (f1.trans f')⟩⟩⟩
@[irreducible] def gM:PV->List PV->CH->K1->Prop:=fun x ts C Q=>match x,ts with
 |.ref a,[]=>match C a with
  |some (.lst xs)=>Q .non (uQ C a (.lst xs.reverse))
  |_=>False
 |_,_=>False
theorem jE {K:DK}:Cmt K aS gM:=fun x px xs ps H C Q R rx rs h q f=>by
 unfold gM at q
 split at q
 .split at q
  .next ys e1 =>
   obtain⟨vs,ev,rv⟩:=h _ _ e1;cases rs;cases rx;exact⟨_,vs,rfl,rfl,ev,f _ _ _ _ q .non (h.put ev rfl ⟨_,dQ,rv.reverse.imm (Imm.mut ev rfl _)⟩) (Fw.put e1 _ _)⟩
  .exact q.elim
 .exact q.elim
@[irreducible] def cClear:PV->List PV->CH->K1->Prop:=fun x ts C Q=>match x,ts with
 |.ref a,[]=>match C a with
  |some (.lst xs)=>Q .non (uQ C a (.lst []))
  |_=>False
 |_,_=>False
@[irreducible] def cSlT:PV->Option Int->Option Int->CH->K1->Prop:=fun x lo hi C Q=>match x with
 |.tup xs=>¬ (HT.sIx xs.length 0 lo=0/\HT.sIx xs.length xs.length hi=xs.length)/\Q (.tup (kH xs lo hi)) C
 |_=>False
noncomputable def rH:List PV->Option mQ
 |[]=>some []
 |t::r=>match lB t,rH r with
  |some k,some ks=>some (k::ks)
  |_,_=>none
def gL:PV->Option mQ
 |.tup ts=>rH ts
 |_=>none
theorem XC {K:DK}{H:Hp}{vs:List V}{ts:List PV}{kss:mQ}(r:Reps K H vs ts)(e:rH ts=some kss):∃bs:List Addr,vs=bs.map V.ref/\Paired (fun(ks:List Key) (c:Addr)=>H c=some (.tup (ks.map kV))) kss bs:=by
 induction ts generalizing vs kss with
 |nil=>cases r; cases e; exact⟨[],rfl,.nil⟩
 |cons t ts ih =>
  cases r with
  |cons h r =>
   unfold rH at e
   split at e
   .next k ks e1 e2 =>
    cases e;obtain⟨b,rfl,eb⟩:=cB h e1;obtain⟨bs,rfl,p⟩:=ih r e2;exact⟨b::bs,rfl,.cons eb p⟩
   .cases e
theorem cG {K:DK}{H:Hp}{v:V}{t:PV}{kss:mQ}(r:Rep K H v t)(e:gL t=some kss):∃b,v=.ref b/\PKey H kss b:=by
 cases r<;>try (cases e)
 next a vs ts h r =>
  obtain⟨bs,rfl,p⟩:=XC r e;exact⟨a,rfl,bs,h,p⟩
def cPNew:TCE:=fun _ C Q=>∀p,C p=none->Q (.ref p) (uQ C p (.dP []))
theorem gD:CE X (.Dict [] [] pos) cPNew:=⟨JE.weak ⟨pe_pnew⟩ fun σ H Q ⟨ρ,C,R,s,h,q,f⟩=>fun p hp=>f (.ref p) _ (.ref p) _ (q p (h.fresh hp)) (.ref p) (h.lay hp ⟨[],dQ,.nil⟩) (Fw.lay hp _ _)⟩
@[irreducible] def cPIx:R2C:=fun x y C Q=>match x with
 |.ref a=>match C a,gL y with
  |some (.dP kvs),some k=>match cJ kvs k with
   |some v=>Q v C
   |none=>False
  |_,_=>False
 |_=>False
theorem xF {co ci:TCE}(hu:X.A.units+2 < cLine)(ho:CE X o co)(hi:CE X i ci)(hs:Qj i):CE X (.Subscript o i pos) (cOp cPIx co ci):=⟨JE.weak ⟨pe_pget hu ho.h.h hi.h.h hs⟩ fun σ H Q ⟨ρ,C,R,s,h,q,f⟩ =>
 ⟨ρ,C,_,s,h,q,fun x H1 px C1 q1 rx h1 f1=>⟨ρ,C1,_,s.imm (f1.imm h),h1,q1,fun y H2 py C2 q2 ry h2 f2=>by
  unfold cPIx at q2
  split at q2
  .next a =>
   split at q2
   .next kvs k e1 e2 =>
    split at q2
    .next t e3 =>
     have rx2:=rx.imm (f2.imm h1);cases rx2;obtain⟨vs,ev,r⟩:=h2 a _ e1;obtain⟨b,rfl,eb⟩:=cG ry e2
     rcases FP.val r k with ⟨v,t',l1,l2,rv⟩ | ⟨_,l2⟩
     .rw [e3] at l2
      cases l2;exact⟨a,v,rfl,⟨vs,k,b,ev,rfl,eb,l1.symm⟩,f v H2 t C2 q2 rv h2 (f1.trans f2)⟩
     .rw [e3] at l2; cases l2
    .exact q2.elim
   .exact q2.elim
  .exact q2.elim⟩⟩⟩
@[irreducible] def cPIn:R2C:=fun y x C Q=>match x with
 |.ref a=>match C a,gL y with
  |some (.dP kvs),some k=>Q (.bl (cJ kvs k).isSome) C
  |_,_=>False
 |_=>False
theorem cop_pin {K:DK}:Cop K (fun y x H Q=>∃a o,x=.ref a/\Qi H a y o/\Q (.bl o.isSome) H) cPIn:=fun y x py px H C Q R ry rx h q f=>by
 unfold cPIn at q
 split at q
 .next a =>
  split at q
  .next kvs k e1 e2 =>
   cases rx;obtain⟨vs,ev,r⟩:=h a _ e1;obtain⟨b,rfl,eb⟩:=cG ry e2;refine⟨a,dW vs k,rfl,⟨vs,k,b,ev,rfl,eb,rfl⟩,?_⟩
   rcases FP.val r k with ⟨v,t',l1,l2,rv⟩ | ⟨l1,l2⟩
   .rw [l2] at q; rw[l1]; exact f _ H _ C q (.bl _) h Fw.refl
   .rw [l2] at q; rw[l1]; exact f _ H _ C q (.bl _) h Fw.refl
  .exact q.elim
 .exact q.elim
@[irreducible] def Xf:PV->PV->PV->CH->(CH->Prop)->Prop:=fun x y v C Q=>match x with
 |.ref a=>match C a,gL y with
  |some (.dP kvs),some k=>kvs.length < sizeLine/\Q (uQ C a (.dP (putG kvs k v)))
  |_,_=>False
 |_=>False
def cPPut (co ck cv:TCE):TCS:=fun E ρ C=>cv ρ C fun v C1=>co ρ C1 fun x C2=>ck ρ C2 fun y C3=>Xf x y v C3 fun C4=>E.nx ρ C4
theorem wD {co ck cv:TCE}(hu:X.A.units+2 < cLine)(ho:CE X o co)(hi:CE X i ck)(hv:CE X value cv)(hs:swapsWith value (some (.Subscript o i pos')) pos.line X.env=pure false:=by rfl):
  CS X (.Assign [.Subscript o i pos'] value pos) (cPPut co ck cv):=⟨JS.weak ⟨ps_pput hu ho.h.h hi.h.h hv.h.h hs⟩ fun D σ H ⟨ρ,C,E,s,h,q,f⟩ =>
 ⟨ρ,C,_,s,h,q,fun v H1 pv C1 q1 rv h1 f1=>⟨ρ,C1,_,s.imm (f1.imm h),h1,q1,fun x H2 px C2 q2 rx h2 f2=>⟨ρ,C2,_,(s.imm (f1.imm h)).imm (f2.imm h1),h2,q2,fun y H3 py C3 q3 ry h3 f3=>by
  have s3:=((s.imm (f1.imm h)).imm (f2.imm h1)).imm (f3.imm h2);have rv3:=rv.imm ((f2.trans f3).imm h1);unfold Xf at q3
  split at q3
  .next a =>
   split at q3
   .next kvs k e1 e2 =>
    have rx3:=rx.imm (f3.imm h2);cases rx3;obtain⟨vs,ev,r⟩:=h3 a _ e1;obtain⟨b,rfl,eb⟩:=cG ry e2;have hl:vs.length=kvs.length:=Paired.length r;have m:Imm H3 (upd H3 a (.dP (pK vs k v))):=Imm.mut ev rfl _;refine⟨a,_,rfl,⟨vs,k,b,ev,rfl,eb,by rw[hl]; exact q3.1,rfl⟩,f.nx σ _ ρ _ q3.2 (s3.imm m) (h3.put ev rfl ⟨_,dQ,Paired.mapP (FP.putG r k rv3) fun _ _ z=>⟨z.1,z.2.imm m⟩⟩) (f1.trans (f2.trans (f3.trans (Fw.put e1 _ _))))⟩
   .exact q3.elim
  .exact q3.elim⟩⟩⟩⟩
end
inductive Pl:Nat->PV->Prop
 |non {d:Nat}:Pl d .non
 |bl {d:Nat} (b:Bool):Pl d (.bl b)
 |int {d:Nat} (i:Int):Pl d (.int i)
 |str {d:Nat} (x:Str):Pl d (.str x)
 |tup {d:Nat} {ts:List PV} (h:∀t∈ts,Pl d t):Pl (d+1) (.tup ts)
section
variable {X:Cx}{pins:List (Addr×Obj)}{σ:St}{H:Hp}{s:Shared}
theorem xB {d:Nat}{ts:List PV}(ih:∀t∈ts,∀{A:Around}{v v':V}{u u':Value},Rep X.K H v t->Rep X.K H v' t->RelV v u->RelV v' u'->A.units+d < cLine->SeqAt.EqAt A s u u' true){A:Around}(hu:A.units+d < cLine){vs ws:List V}{its its2:List Value}(r1:Reps X.K H vs ts)(r2:Reps X.K H ws ts)(v1:Vals vs its)(v2:Vals ws its2):
  its.length=its2.length/\∀j (h1:j < its.toArray.size) (h2:j < its2.toArray.size),SeqAt.EqAt A s its.toArray[j] its2.toArray[j] true:=by
 induction ts generalizing vs ws its its2 with
 |nil =>
  cases r1; cases r2; cases v1; cases v2
  exact⟨rfl,fun j h1=>absurd h1 (by simp)⟩
 |cons t ts iht =>
  cases r1 with
  |cons a1 r1 =>
   cases r2 with
   |cons a2 r2 =>
    cases v1 with
    |cons b1 v1 =>
     cases v2 with
     |cons b2 v2 =>
      obtain⟨l,k⟩:=iht (fun t' m=>ih t' (AG _ m)) r1 r2 v1 v2;refine⟨by rw[AI,AI,l],fun j h1 h2=>?_⟩
      cases j with
      |zero=>exact ih t AD a1 a2 b1 b2 hu
      |succ j =>
       have:=k j (by simpa using h1) (by simpa using h2)
       simpa using this
theorem QZ (I:Inv X pins σ H s){d:Nat}{t:PV}(p:Pl d t):∀{A:Around}{v v':V}{u u':Value},Rep X.K H v t->Rep X.K H v' t->RelV v u->RelV v' u'->A.units+d < cLine->SeqAt.EqAt A s u u' true:=by
 induction p with
 |non =>
  intro A v v' u u' r r' e e' hu;cases r; cases r'
  cases (show u=Value.none from e); cases (show u'=Value.none from e')
  exact Cw _
 |bl b =>
  intro A v v' u u' r r' e e' hu;cases r; cases r'
  cases (show u=Value.bool b from e); cases (show u'=Value.bool b from e')
  exact Cw _
 |int i =>
  intro A v v' u u' r r' e e' hu;cases r; cases r'
  obtain⟨t1,rfl⟩:=(show ∃t,u=Value.int i t from e);obtain⟨t2,rfl⟩:=(show ∃t,u'=Value.int i t from e');have:=SeqAt.EqAt.int_int (A:=A) (s:=s) i t1 i t2;rw[beq_self_eq_true] at this;exact this
 |str x =>
  intro A v v' u u' r r' e e' hu;cases r; cases r'
  obtain⟨t1,rfl⟩:=(show ∃t,u=Value.str x t from e);obtain⟨t2,rfl⟩:=(show ∃t,u'=Value.str x t from e');have:=SeqAt.EqAt.str_str (A:=A) (s:=s) x t1 x t2;rw[beq_self_eq_true] at this;exact this
 |@tup d ts hp ih =>
  intro A v v' u u' r r' e e' hu
  cases r with
  |@tup a1 vs _ e1 r1 =>
   cases r' with
   |@tup a2 ws _ e2 r2 =>
    cases (show u=Value.ref a1 from e); cases (show u'=Value.ref a2 from e')
    by_cases hab:a1=a2
    .subst hab; exact Cw _
    .obtain ⟨its,w1,p1,_⟩:=I.tuple (SqT.of e1)
     obtain⟨its2,w2,p2,_⟩:=I.tuple (SqT.of e2)
     have hu':A.in1.units+d < cLine:=by
      show A.units+1+d < cLine;omega
     obtain⟨hl,he⟩:=xB (A:=A.in1) (d:=d) (fun t m=>ih t m) hu' r1 r2 w1 w2;have R:=SeqAt.RcAt.tuples (A:=A) (e:=fun _=>true) p1 p2 (by omega) he;rw[show((List.range (min its.toArray.size its2.toArray.size)).all (fun _=>true)&&its.toArray.size==its2.toArray.size)=true by simp[hl]] at R;exact SeqAt.EqAt.of_refs hab R
end
section
variable {X:Cx}
abbrev rNeD (K:DK)(d:Nat):R2:=fun x y H Q=>∃a b vs ws ts,x=.ref a/\y=.ref b/\H a=some (.lst vs)/\H b=some (.lst ws)/\Reps K H vs ts/\Reps K H ws ts/\(∀t∈ts,Pl d t)/\Q (.bl false) H
theorem op_neD {d:Nat}(hu:X.A.units+1+d < cLine):OpR X (compareOp .NotEq) (rNeD X.K d):=by
 intro pins s σ H x y v u Q I rx ry h;obtain⟨a,b,vs,ws,ts,rfl,rfl,ha,hb,r1,r2,hp,q⟩:=h;cases rx;cases ry;obtain⟨its,w1,p1,_⟩:=I.list (SqL.of ha);obtain⟨its2,w2,p2,_⟩:=I.list (SqL.of hb);obtain⟨hl,he⟩:=xB (A:=X.A.in1) (d:=d) (fun t m=>QZ I (hp t m)) (show X.A.units+1+d < cLine from hu) r1 r2 w1 w2;have R:=SeqAt.RcNeAt.lists (A:=X.A) (e:=fun _=>true) p1.isList p2.isList (by simpa using hl) (by omega) he
 rw[show(!(List.range its.toArray.size).all fun _=>true)=false by simp] at R;exact R _ _ _ _ ⟨.bl false,H,I,rfl,q⟩
@[irreducible] def cNeD (d:Nat):R2C:=fun x y C Q=>match x,y with
 |.ref a,.ref b=>match C a,C b with
  |some (.lst xs),some (.lst ys)=>xs=ys/\(∀t∈xs,Pl d t)/\Q (.bl false) C
  |_,_=>False
 |_,_=>False
theorem cop_neD {K:DK}{d:Nat}:Cop K (rNeD K d) (cNeD d):=fun x y px py H C Q R rx ry h q f=>by
 unfold cNeD at q
 split at q
 .split at q
  .next xs ys e1 e2 =>
   obtain⟨rfl,hp,q⟩:=q;obtain⟨vs,ev,rv⟩:=h _ _ e1;obtain⟨ws,ew,rw'⟩:=h _ _ e2;cases rx; cases ry
   exact⟨_,_,vs,ws,xs,rfl,rfl,ev,ew,rv,rw',hp,f _ H _ C q (.bl _) h Fw.refl⟩
  .exact q.elim
 .exact q.elim
def strsP:List PV->Option (List Str)
 |[]=>some []
 |.str x::r=>(strsP r).map (x :: ·)
 |_=>none
noncomputable def tiOf:List PV->Option (List (List Str×Int))
 |[]=>some []
 |.tup [.tup ks,.int i]::r=>match strsP ks,tiOf r with
  |some zs,some cs=>some ((zs,i)::cs)
  |_,_=>none
 |_=>none
@[irreducible] def cSortedL:GC:=fun ts C Q=>match ts with
 |[.ref a]=>match C a with
  |some (.lst xs)=>match tiOf xs with
   |some cs=>cs.length < 64/\∀p,C p=none->Q (.ref p) (uQ C p (.lst ((ordT cs).map tU)))
   |none=>False
  |_=>False
 |_=>False
end
section
variable {X:Cx}{pos:Pos}
def aJ (k:List Key):PV:=.tup (k.map zY)
@[irreducible] def cCompT (ce:TCE)(t:TCT)(c:TCE):TCE:=fun ρ C Q=>ce ρ C fun x C1=>match x with
 |.ref d=>match C1 d with
  |some (.dT kvs)=>yZ t c ρ (fun v C2=>C2 d=some (.fT kvs)/\Q v (uQ C2 d (.dT kvs))) (kvs.map fun p=>aJ p.1) [] (uQ C1 d (.fT kvs))
  |_=>False
 |_=>False
def tOf:Option CO->Option (List (List Key×PV))
 |some (.dT kvs)=>some kvs
 |some (.fT kvs)=>some kvs
 |_=>none
@[irreducible] def cTIy:R2C:=fun x y C Q=>match x with
 |.ref a=>match tOf (C a),lB y with
  |some kvs,some k=>match cJ kvs k with
   |some v=>Q v C
   |none=>False
  |_,_=>False
 |_=>False
end
end CL
namespace L2
open PySem PySem.Spec PyProof.Rows
section
variable {X:Cx}
theorem J5 {i:Nat}{y:Str}{xs:List Str}{tg:Expr}{g:TG}{py pos spos:Pos}{elt iter:Expr}{ifs:List Expr}{scope:Scope}{cl:List (Str×Addr)}{wi:TI}{tc:TT}{te:TE}
  (hNd:X.N.Nodup) (hi:X.N[i]?=some y) (hy:Loc X.env.scope y) (hc:X.calm=true) (K:mK X xs scope cl) (hg:∀fp C s₂ H₂,PG (cxN X xs scope cl fp C s₂ H₂) tg g) (hG:∀ws vs a σ H Q,ws.length=xs.length->SqT X.K H a vs->vs.length=xs.length->Q (vs.map some++σ) H->g (.ref a) (ws++σ) H Q) (hI:JI X tg iter wi)
  (ht:∀fp C s₂ H₂,JF (cxN X xs scope cl fp C s₂ H₂) ifs tc) (he:∀fp C s₂ H₂,JE (cxN X xs scope cl fp C s₂ H₂) elt te)
  (hs:∀v,foldedSetIterable iter X.env v=pure v:=by intro _; rfl)
  (hsw:swapsWith (.ListComp elt [⟨tg,iter,ifs,0⟩] scope pos) (some (.Name y py)) spos.line X.env=pure true:=by rfl)
  (hf:X.fn y=true\/X.env.scope.names.lookup y=some .local:=by first | exact .inl rfl | exact .inr rfl | assumption) :
  JS X (.Assign [.Name y py] (.ListComp elt [⟨tg,iter,ifs,0⟩] scope pos) spos) (Xs (sE X.K xs.length wi tc te) (eV i)):=by
 refine⟨fun pins s σ H D I h=>?_⟩;rw[exec_Assign_Name_used _ _ _ _ hsw];refine AB (wpAny_standAt (AB (AB (By (use:=some (assign (.Name y py) X.env)) rfl hs K.clos K.kind K.names (thn (hI.h pins s σ H _ I h) fun xv s₁ h₁=>thn h₁ fun itv s₂ h₂=>?_)))));obtain⟨it,fp,tn,J,H₂,e,I₂,T,st₂,f₂,R⟩:=h₂;subst e;refine pW (Tk:=fun x H vs=>∃a,x=.ref a/\SqT X.K H a vs) (Q:=fun x H1=>eV i x σ H1 D.nx) hc K hg (fun fp C s₂ H₂=>(ht fp C s₂ H₂).h) (fun fp C s₂ H₂=>(he fp C s₂ H₂).h) (fun ws vs x H Q l ⟨a,e,sq⟩ l' q=>by rw[e]; exact hG ws vs a σ H Q l sq l' q) I₂ T st₂ f₂ (fun D hD=>let ⟨W,w0,tu⟩:=R D hD; ⟨W,w0,fun i m ys H w=>(tu i m ys H w).imp id fun⟨g,st⟩=>⟨g,fun x H' y=>let ⟨a,vs,e,sq,l,q⟩:=st x H' y; ⟨vs,⟨a,e,sq⟩,l,q⟩⟩⟩) ?_
 intro D' C H' s4 m hn hCL hC0 hCc hCsz I4 q;refine wpAny_assign_Name (dM I4 hNd hi hy (v:=.ref D') rfl (fun s5 I5 hsb=>?_) hf);obtain⟨b,hsb,hb⟩:=hsb
 have hbC:C≠b:=by
  rcases hb with rfl | hb
  .exact hCL
  .exact fun z=>hCc _ _ hb z.symm
 refine⟨m,hn.at' fun o e=>(hsb.2 C hbC).trans e,fun h' hsb'=>AE (AE ?_)⟩;refine⟨_,H',?_,q⟩;refine I5.turned (it:=C) (t':=s5.toks) (fun b o hb e=>(hsb'.2 b hb).trans e) hC0 hCL (.inr (Ae I₂.sz hCsz)) hCc fun p hp z=>?_;exact absurd (AR (AN (I₂.pin p hp).1) (by rw[z]; exact hCsz)) (BJ _)
end
end L2
namespace L2
open PySem PySem.W PyProof.Rows
def drop (H:Hp)(a:Addr):Hp:=fun b=>if b=a then none else H b
end L2
namespace CL
open PySem PySem.Spec L2 PySem.W
open PyProof.Rows hiding St
section
variable {X:Cx}{a b c e o i f value:Expr}{es:List Expr}{pos pos':Pos}
@[irreducible] def cRev:PV->CH->K1->Prop:=fun x C Q=>match x with
 |.ref a=>match C a with
  |some (.lst xs)=>∀p,C p=none->Q (.ref p) (uQ C p (.lst xs.reverse))
  |_=>False
 |_=>False
def rngPV (n:Nat):List PV:=(List.range n).map fun k=>PV.int (k:Nat)
@[irreducible] def cRng:PV->CH->K1->Prop:=fun x C Q=>match x with
 |.int j=>0<=j/\j<=100000/\∀p,C p=none->Q (.ref p) (uQ C p (.lst (rngPV j.toNat)))
 |_=>False
@[irreducible] def cPop:PV->List PV->CH->K1->Prop:=fun x ts C Q=>match x,ts with
 |.ref a,[]=>match C a with
  |some (.lst xs)=>match xs[xs.length - 1]? with
   |some y=>Q y (uQ C a (.lst xs.dropLast))
   |none=>False
  |_=>False
 |_,_=>False
@[irreducible] def cTru (c:TCE):TCT:=fun ρ C Q=>c ρ C fun x C1=>match x with
 |.ref a=>match C1 a with
  |some (.lst xs)=>Q (!xs.isEmpty) C1
  |_=>False
 |_=>False
end
structure Row where
 k:Option Str
 nm:Str
 q:Str
 st:Stmt
 ps:List Str
 N:List Str
def AllR (p:Row->Prop):List Row->Prop
 |[]=>True
 |r::rs=>p r/\AllR p rs
def FH (K:DK)(r:Row):Prop:=match r with
 |⟨none,nm,q,st,_,_⟩=>∃(f:Addr) (oc:Value) (od:Option Addr) (kV dc pm:Value) (an:Option Addr) (cd ct:Value) (sl:Array (Option Value)),
  PySem.W.nsIn K mainGlobals nm=some (some (.ref f))/\K.lookup f=some ⟨oc,od,.func (PySem.W.fnOf nm q (bW st) (wK st) (xX st) .none kV dc pm an cd ct),sl⟩/\PySem.W.codeIn K cd q=true/\PySem.W.keepIn K (.ref f)=true
 |⟨some c,nm,q,st,_,_⟩=>∃(cc f:Addr) (oc:Value) (od:Option Addr) (kV dc pm:Value) (an:Option Addr) (cd ct:Value) (sl:Array (Option Value)),
  PySem.W.nsIn K mainGlobals c=some (some (.ref cc))/\PySem.W.findIn K (.ref cc) nm=some (some (.ref f))/\K.lookup f=some ⟨oc,od,.func (PySem.W.fnOf nm q (bW st) (wK st) (xX st) .none kV dc pm an cd ct),sl⟩/\PySem.W.codeIn K cd q=true/\PySem.W.keepIn K (.ref f)=true/\PySem.W.isFn K (.ref f)=true
def RB (r:Row):Prop:=FnScope r.N r.ps (xX r.st)/\∀(kV doc pm:Value) (an:Option Addr) (cdv ct:Value) (us:List Value),us.length=r.ps.length->bindArgs (PySem.W.fnOf r.nm r.q (bW r.st) (wK r.st) (xX r.st) .none kV doc pm an cdv ct) ⟨us,[]⟩=pure (r.ps.zip us)
structure FI (K:DK)(mg:Str->Option Value)(k:Option Str)(nm q:Str)(st:Stmt)(ps N:List Str)(f:Addr)(d:FuncData):Prop where
 m:k=none->mg nm=some (.ref f)
 M:∀c ca,k=some c->mg c=some (.ref ca)->PySem.W.findIn K (.ref ca) nm=some (some (.ref f))/\PySem.W.isFn K (.ref f)=true
 F:Fun K nm q st f d
 s:FnScope N ps (xX st)
 b:Binds K d ps []
section
variable {P:List Value->Prop}
theorem fE {n:Nat}(h:∀a (us:List Value),us.length=n->P (a::us))(us:List Value)(e:us.length=n+1):P us:=by
 cases us with
 |nil=>cases e
 |cons a us=>exact h a us (At e)
theorem args0 (h:P [])(us:List Value)(e:us.length=0):P us:=by
 cases us with
 |nil=>exact h
 |cons a us=>cases e
theorem args1 (h:∀a,P [a]):∀us:List Value,us.length=1->P us:=fE fun a=>args0 (P:=fun us=>P (a::us)) (h a)
theorem args2 (h:∀a b,P [a,b]):∀us:List Value,us.length=2->P us:=fE fun a=>args1 (P:=fun us=>P (a::us)) (h a)
theorem args3 (h:∀a b c,P [a,b,c]):∀us:List Value,us.length=3->P us:=fE fun a=>args2 (P:=fun us=>P (a::us)) (h a)
theorem args4 (h:∀a b c d,P [a,b,c,d]):∀us:List Value,us.length=4->P us:=fE fun a=>args3 (P:=fun us=>P (a::us)) (h a)
theorem args5 (h:∀a b c d e,P [a,b,c,d,e]):∀us:List Value,us.length=5->P us:=fE fun a=>args4 (P:=fun us=>P (a::us)) (h a)
end
theorem fi_one {K:DK}{h:Heap}{mg:Str->Option Value}(X:K.In h)(G:h.Ns mainGlobals mg){r:Row}(x:FH K r)(y:RB r):∃f d,FI K mg r.k r.nm r.q r.st r.ps r.N f d:=by
 obtain⟨k,nm,q,st,ps,N⟩:=r;obtain⟨y1,y2⟩:=y
 cases k with
 |none =>
  obtain⟨f,oc,od,kV,dc,pm,an,cd,ct,sl,h1,h2,h3,h4⟩:=x;exact⟨f,_,⟨fun _=>Bi X G h1,fun _ _ e=>(nomatch e),qR h2 h3 h4,y1,Fun.binds (qR h2 h3 h4) y2⟩⟩
 |some c =>
  obtain⟨cc,f,oc,od,kV,dc,pm,an,cd,ct,sl,h0,h1,h2,h3,h4,h5⟩:=x;refine⟨f,_,⟨fun e=>(nomatch e),fun c' ca e e'=>?_,qR h2 h3 h4,y1,Fun.binds (qR h2 h3 h4) y2⟩⟩;cases e;have:=(Bi X G h0).symm.trans e';cases this;exact⟨h1,h5⟩
theorem fi_all {K:DK}{h:Heap}{mg:Str->Option Value}(X:K.In h)(G:h.Ns mainGlobals mg):∀{t:List Row},AllR (FH K) t->AllR RB t->∃(f:Nat->Addr) (d:Nat->FuncData),∀(i:Nat) {k:Option Str}{nm q:Str}{st:Stmt}{ps N:List Str},t[i]?=some ⟨k,nm,q,st,ps,N⟩->FI K mg k nm q st ps N (f i) (d i)
 |[],_,_=>⟨fun _=>mainGlobals,fun _=>PySem.W.fnOf "" "" (bW (.Pass ⟨0,0,0,0⟩)) [] (xX (.Pass ⟨0,0,0,0⟩)) .none .none .none .none none .none .none,fun i _ _ _ _ _ _ e=>by simp at e⟩
 |r::t,x,y=>by
  obtain⟨f0,d0,h0⟩:=fi_one X G x.1 y.1;obtain⟨f,d,h⟩:=fi_all X G x.2 y.2;refine⟨fun i=>match i with | 0=>f0 | i+1=>f i,fun i=>match i with | 0=>d0 | i+1=>d i,fun i=>?_⟩
  cases i with
  |zero=>intro k nm q st ps N e; cases e; exact h0
  |succ i=>intro k nm q st ps N e; exact h i e
section
variable {P:Program}{w:World}{K:DK}{mg:Str->Option Value}{base:Heap}
theorem FI.ok {kk:Option Str}{x qual:Str}{st:Stmt}{f:Addr}{fd:FuncData}{N ps:List Str}{k:Nat}{G:GC}(F:FI K mg kk x qual st ps N f fd)(len:∀ts C R,G ts C R->ts.length=ps.length)
  (hbody:∀(cdv:Value) (A:Around) (outer:List Env) (s:Shared) (H:Hp) (E:XK),Room k (A.deeper (envOfC qual (xX st) s.heap.objs.size f cdv)) ->
   ∃c,CB (xR CX0 P w K mg base N qual (xX st) f cdv A outer s H E).nox (wK st) c/\∀ts C R,G ts C R->c { nx:=fun _ C'=>R .non C',rt:=R } (kL N ts) C):FnOk P w K mg base CX0 (k+1) f fd ps (spC K G):=Fun.okC F.F F.s len hbody
end
section
variable {X:Cx}{e o:Expr}{es:List Expr}{pos:Pos}
theorem cf {k:Nat}{f:Addr}{fd:FuncData}{ps N:List Str}{G:GC}{x q:Str}{st:Stmt}{p:Pos}{ca:TCA}(T:FI X.K X.mg none x q st ps N f fd)(F:FnOk X.prog X.w X.K X.mg X.base CX0 k f fd ps (spC X.K G))(hr:Room k X.A)
  (ha:CA X (e::es) ca) (hg:Gl X x:=by rfl) (hdb:(x==("__debug__" : Str))=false:=by decide) (hs:eQ e=true:=by rfl) (hall:es.all eQ=true:=by rfl):CE X (.Call (.Name x p) (e::es) [] pos) (cP G ca) :=
 ce_call F hr hg (T.m rfl) T.F.kp T.b Jv ha hdb hs hall
theorem cm {k:Nat}{c fa:Addr}{cn q:Str}{st:Stmt}{fd:FuncData}{ps N:List Str}{G:GC}{m:Str}{apos:Pos}{co:TCE}{ca:TCA}{pl:Sem Bool}(hc:Cls X.K c)(T:FI X.K X.mg (some cn) m q st ps N fa fd)(hm:X.mg cn=some (.ref c))(F:FnOk X.prog X.w X.K X.mg X.base CX0 k fa fd ps (spC X.K G))(hr:Room k X.A)(ho:CE X o co)(ha:CA X (e::es) ca)
  (hst:starEach (e::es) X.env=(false,eval e X.env)::starEach es X.env:=by rfl) (hpl:(backTo pos (starEach es X.env)).any (·.1)=false:=by rfl)
  (ht:eval (.Call (.Attribute o m apos) (e::es) [] pos) X.env=(do
   let ov <- eval o X.env
   standAt apos.atName
   let (f,first) <- holding [ov] (getMethod ov m pl)
   callWith pos f first (backTo pos (starEach (e::es) X.env)) (backToKw pos (keywordEach [] X.env))):=by rfl) :
  CE X (.Call (.Attribute o m apos) (e::es) [] pos) (cMeth c m G co ca) :=
 ce_meth hc ⟨(T.M _ _ rfl hm).1,(T.M _ _ rfl hm).2,T.F.kp⟩ F hr T.b Jv ho ha hst hpl ht
theorem cx {a b:Expr}{ca cb:TCE}(ha:CE X a ca)(hb:CE X b cb)(hs:sD b:=by exact fun _ _=>rfl):CE X (.Subscript a b pos) (cOp cIx ca cb):=ce_ix (r:=rIx X.K) ix_seqC cop_ix ha hb hs
theorem ca1 {ca:TCE}(ha:CE X e ca)(hs:eQ e=true:=by rfl):CA X [e] (uK ca iF):=qQ ha eX hs
theorem cs1 (i:Nat){x:Str}{pos':Pos}{ce:TCE}(hN:X.N.Nodup)(he:CE X e ce)(hi:X.N[i]?=some x:=by rfl)(hx:Loc X.env.scope x:=by first | exact Or.inl rfl | exact Or.inr rfl)(hs:swapsWith e (some (.Name x pos')) pos.line X.env=pure false:=by rfl)(hf:X.fn x=true\/X.env.scope.names.lookup x=some .local:=by first | exact .inl rfl | exact .inr rfl | assumption):
  CS X (.Assign [.Name x pos'] e pos) (Qc i ce):=cs_set hN hi hx he hs hf
theorem cg1 (i:Nat){x:Str}(hN:X.N.Nodup)(hi:X.N[i]?=some x:=by rfl)(hx:Loc X.env.scope x:=by first | exact Or.inl rfl | exact Or.inr rfl)(hf:X.fn x=true\/X.env.scope.names.lookup x=some .local:=by first | exact .inl rfl | exact .inr rfl | assumption):CG X (.Name x pos) (KN i):=cg_name hN hi hx hf
theorem cln {p:Pos}{ca:TCE}(hm:X.mg "len" = none)(ha:CE X e ca)(hg:Gl X "len":=by rfl)(hs:eQ e=true:=by rfl):CE X (.Call (.Name "len" p) [e] [] pos) (cP nR (uK ca iF)):=fJ Zp cbi_len hg hm rfl (ca1 ha hs) (hs:=hs)
theorem ctp {p:Pos}{ca:TCE}(hm:X.mg "tuple" = none)(ha:CE X e ca)(hg:Gl X "tuple":=by rfl)(hs:eQ e=true:=by rfl):CE X (.Call (.Name "tuple" p) [e] [] pos) (cP wF (uK ca iF)):=lK vH cbi_tup hg hm rfl (ca1 ha hs) (hs:=hs)
theorem cap {apos cpos:Pos}{co ca:TCE}(ho:CE X o co)(ha:CE X e ca)
  (hbase:attributeBase o "append" X.env (eval o X.env)=eval o X.env:=by rfl)
  (hfew:((backTo cpos (starEach [e] X.env)).all (fun x=>!x.1)&&(backToKw cpos (keywordEach [] X.env)).all (fun x=>x.1.isSome)
   && decide ([e].length+([]:List Keyword).length+(if ([]:List Keyword).isEmpty then 0 else 1) < 30))=true:=by rfl)
  (hline:(apos.endLine==cpos.line)=true:=by rfl) (hs:eQ e=true:=by rfl):CE X (.Call (.Attribute o "append" apos) [e] [] cpos) (cBM jG co (uK ca iF)) :=
 Vd B1 PySem.F.slot_list_append PySem.F.type_list_append aH sI ho (ca1 ha hs) hbase hfew hline hs
theorem ct2 {a b:Expr}{op:CmpOp}{r:R2}{cr:R2C}{ca cb:TCE}(ho:OpR X (compareOp op) r)(hr:Cop X.K r cr)(ha:CE X a ca)(hb:CE X b cb)(hm:behindInMarks op b=false:=by exact aU _):CT X (.Compare a [op] [b] pos) (yE (cOp cr ca cb)):=xP ho hr ha hb hm
end
end CL
namespace L2
open PySem
theorem FnScope.c {N ps:List Str}{sc:Scope}{x:Str}(S:FnScope N ps sc)(h:N.contains x=false):(x::N).Nodup:=by
 refine Am.2 ⟨fun m=>?_,S.nd⟩;rw[List.contains_iff_mem.2 m] at h;cases h
theorem FnScope.k {X:Cx}{xs:List Str}{scope sc:Scope}{N ps:List Str}{L:Nat}(S:FnScope N ps sc)(hN:X.N=N)(hsc:X.env.scope=sc)(hce:X.env.cells=cellsFrom L sc.names [])(h:vP xs scope N sc=true):∃cl,mK X xs scope cl:=wY hN hsc hce h
end L2
namespace TB
theorem sq_id (c u:Nat):(1+4 * c * (2 * u+1)) * (1+4 * c * (2 * u+1))=1+8 * c * (2 * (u+c * ((2 * u+1) * (2 * u+1)))+1):=by grind
theorem pow_odd (k:Nat):∃u,5 ^ 2 ^ k=1+4 * 2 ^ k * (2 * u+1):=by
 induction k with
 |zero=>exact⟨0,rfl⟩
 |succ k ih =>
  obtain⟨u,h⟩:=ih;rw[show(2:Nat) ^ (k+1)=2 ^ k * 2 from BG ..,Nat.pow_mul,h,Nat.pow_two,sq_id];refine⟨u+2 ^ k * ((2 * u+1) * (2 * u+1)),?_⟩;rw[show 4 * (2 ^ k * 2)=8 * 2 ^ k by omega]
theorem QE (c u:Nat):∀e,∃m,(1+4 * c * u) ^ e=1+4 * c * (e * u)+16 * c * c * m
 |0=>⟨0,by simp⟩
 |e+1=>by
  obtain⟨m,h⟩:=QE c u e;refine⟨m+(e * u) * u+4 * c * u * m,?_⟩;rw[BG,h]
  grind
theorem vG (k:Nat):∀d,4 * 2 ^ k ∣ 5 ^ d - 1->2 ^ k ∣ d:=by
 induction k with
 |zero=>intro d _; exact Nat.one_dvd _
 |succ k ih =>
  intro d h;have e1:(2:Nat) ^ (k+1)=2 * 2 ^ k:=by rw[BG]; omega
  obtain⟨e,rfl⟩:=ih d (Nat.dvd_trans ⟨2,by rw[e1]; omega⟩ h);obtain⟨u,hu⟩:=pow_odd k;obtain⟨m,hm⟩:=QE (2 ^ k) (2 * u+1) e;rw[Nat.pow_mul,hu,hm] at h;obtain⟨q,hq⟩:=h;rw[e1] at hq ⊢;have hc:0 < (2:Nat) ^ k:=Nat.two_pow_pos k;generalize (2:Nat) ^ k=c at *
  have h2:4 * c * (e * (2 * u+1))+16 * c * c * m=4 * (2 * c) * q:=by omega
  have h3:4 * c * (e * (2 * u+1)+4 * c * m)=4 * c * (2 * q):=by grind
  have h4:e * (2 * u+1)+4 * c * m=2 * q:=Nat.eq_of_mul_eq_mul_left (by omega) h3
  have h5:e % 2=0:=by
   have a1:(e * (2 * u+1)) % 2=e % 2:=by
    rw[Nat.mul_add,Nat.mul_one,<- Nat.mul_assoc,Nat.mul_comm e 2,Nat.mul_assoc];omega
   have a2:4 * c * m=2 * (2 * c * m):=by grind
   omega
  obtain⟨f,hf⟩:∃f,e=2 * f:=⟨e / 2,by omega⟩;subst hf;exact⟨f,by grind⟩
def step (M i:Nat):Nat:=(i * 5+1) % M
def itr (M:Nat):Nat->Nat->Nat
 |i,0=>i
 |i,n+1=>itr M (step M i) n
theorem odd_dvd (k a b:Nat)(h:2 ^ k ∣ a * b)(ha:a % 2=1):2 ^ k ∣ b:=by
 induction k generalizing b with
 |zero=>exact Nat.one_dvd _
 |succ k ih =>
  obtain⟨q,hq⟩:=h;have e1:(2:Nat) ^ (k+1)=2 * 2 ^ k:=by rw[BG]; omega
  rw[e1] at hq ⊢
  have hb:b % 2=0:=by
   have h0:(a * b) % 2=0:=by rw[hq,Nat.mul_assoc]; omega
   rw[Nat.mul_mod,ha] at h0;omega
  obtain⟨c,rfl⟩:∃c,b=2 * c:=⟨b / 2,by omega⟩
  have h2:2 ^ k ∣ a * c:=⟨q,by
   have:2 * (a * c)=2 * (2 ^ k * q):=by grind
   omega⟩
  obtain⟨r,hr⟩:=ih c h2;exact⟨r,by rw[hr]; grind⟩
theorem QP (M:Nat)(hM:0 < M):∀(n i:Nat),∃a b,4 * itr M i n+1+4 * M * a=5 ^ n * (4 * i+1)+4 * M * b
 |0,i=>⟨0,0,by simp[itr]⟩
 |n+1,i=>by
  obtain⟨a,b,h⟩:=QP M hM n (step M i)
  have hs:step M i+M * ((i * 5+1) / M)=i * 5+1:=by
   unfold step;have:=Nat.mod_add_div (i * 5+1) M;exact this
  refine⟨a+5 ^ n * ((i * 5+1) / M),b,?_⟩;show 4 * itr M (step M i) n+1+_=_;generalize (i * 5+1) / M=q at *
  generalize step M i=s at *
  generalize itr M s n=r at *
  rw[BG];generalize 5 ^ n=p at *
  have h2:4 * r+1+4 * M * (a+p * q)=(4 * r+1+4 * M * a)+p * (4 * (M * q)):=by grind
  rw[h2,h];have h3:4 * (M * q)=4 * (i * 5+1) - 4 * s:=by omega
  have h4:s<=i * 5+1:=by omega
  have h5:p * (4 * s+1)+p * (4 * (i * 5+1) - 4 * s)=p * (4 * (i * 5+1)+1):=by
   rw[<- Nat.mul_add]
   congr 1
   omega
  rw[h3]
  grind
theorem itr_add (M i:Nat):∀n m,itr M i (n+m)=itr M (itr M i n) m:=by
 intro n
 induction n generalizing i with
 |zero=>intro m; rw[BF]; rfl
 |succ n ih=>intro m; rw[show n+1+m=(n+m)+1 by omega]; exact ih (step M i) m
theorem QQ (k i n d:Nat)(h:itr (2 ^ k) i n=itr (2 ^ k) i (n+d))(hd:d < 2 ^ k):d=0:=by
 have hM:0 < 2 ^ k:=Nat.two_pow_pos k;rw[itr_add] at h;generalize itr (2 ^ k) i n=x at h;obtain⟨a,b,e⟩:=QP (2 ^ k) hM d x;rw[<- h] at e;have p1:1<=5 ^ d:=Nat.one_le_pow _ _ (by decide)
 have dv:4 * 2 ^ k ∣ (4 * x+1) * (5 ^ d - 1):=by
  obtain⟨p,hp⟩:∃p,5 ^ d=p+1:=⟨5 ^ d - 1,by omega⟩;rw[hp] at e ⊢;rw[Nat.add_sub_cancel];have e2:4 * 2 ^ k * a=p * (4 * x+1)+4 * 2 ^ k * b:=by grind
  have le:b<=a:=by
   have:4 * 2 ^ k * b<=4 * 2 ^ k * a:=by omega
   exact Nat.le_of_mul_le_mul_left this (by omega)
  refine⟨a - b,?_⟩;rw[Nat.mul_sub];have:(4 * x+1) * p=p * (4 * x+1):=Nat.mul_comm ..;omega
 have e4:4 * 2 ^ k=2 ^ (k+2):=by rw[BG,BG]; omega
 rw[e4] at dv;have:=odd_dvd (k+2) (4 * x+1) (5 ^ d - 1) dv (by omega);rw[<- e4] at this;obtain⟨q,hq⟩:=vG k d this
 cases q with
 |zero=>simpa using hq
 |succ q =>
  have:2 ^ k * (q+1)=2 ^ k * q+2 ^ k:=Nat.mul_succ ..;omega
end TB
namespace TB
open PySem SetTable
theorem Jj {f:Nat->Nat}:∀(l:List Nat),(∀n d,n+d<=l.length->f n=f (n+d)->d=0)->∃m,m<=l.length/\f m∉l:=by
 intro l hf
 by_cases h:∃m,m<=l.length/\f m∉l
 .exact h
 .exfalso
  have hin:∀m,m<=l.length->f m∈l:=fun m hm=>by
   by_cases hl:f m∈l
   .exact hl
   .exact absurd ⟨m,hm,hl⟩ h
  have nd:((List.range (l.length+1)).map f).Nodup:=by
   rw[List.Nodup,List.pairwise_map];refine List.Pairwise.imp_of_mem ?_ List.pairwise_lt_range;intro a b ha hb hab e;rw[Az] at ha hb;have:=hf a (b - a) (by omega) (by rw[show a+(b - a)=b by omega]; exact e);omega
  have sub:∀x∈(List.range (l.length+1)).map f,x∈l:=fun x hx=>by
   obtain⟨m,hm,rfl⟩:=Ab.1 hx;rw[Az] at hm;exact hin m (by omega)
  have len:∀(xs ys:List Nat),xs.Nodup->(∀x∈xs,x∈ys)->xs.length<=ys.length:=by
   intro xs
   induction xs with
   |nil=>intro ys _ _; exact AV _
   |cons x xs ih =>
    intro ys nd hs;rw[Am] at nd;have hx:=hs x AD
    have:=ih (ys.erase x) nd.2 fun y hy=>by
     have hne:y≠x:=fun e=>nd.1 (e▸hy);exact(List.mem_erase_of_ne hne).2 (hs y (AG _ hy))
    rw[List.length_erase_of_mem hx] at this;have:=List.length_pos_of_mem hx;rw[AI];omega
  have:=len _ _ nd sub;rw[AA,Ak] at this;omega
structure TOk (t:SetTable)(k:Nat):Prop where
 mask:t.mask+1=2 ^ k
 dum:t.dummies = #[]
 few:t.place.size<=t.mask
theorem TOk.slot_out {t:SetTable}{k j:Nat}(h:TOk t k)(hj:j∉t.place.toList):t.slot j=.empty:=by
 unfold SetTable.slot
 have e1:(t.place[below t.place j]?==some j)=false:=by
  rw[Ay];intro e;exact hj (by rw[DJ]; exact Array.mem_of_getElem? e)
 have e2:has t.dummies j=false:=by
  rw[h.dum];unfold has;rw[Ay]
  simp
 simp[e1,e2]
theorem TOk.slot_is {t:SetTable}{k j:Nat}(h:TOk t k):t.slot j=.empty\/∃i,t.slot j=.live i/\i < t.place.size:=by
 unfold SetTable.slot
 by_cases e:(t.place[below t.place j]?==some j)=true
 .refine .inr ⟨below t.place j,by simp[e],?_⟩
  have:=eq_of_beq e;rw[Array.getElem?_eq_some_iff] at this;exact this.1
 .have e2:has t.dummies j=false:=by
   rw[h.dum];unfold has;rw[Ay]
   simp
  exact .inl (by simp[e,e2])
def adv (t:SetTable):Nat->Probe->Probe
 |0,p=>p
 |n+1,p=>adv t n (t.advance p)
theorem xS (t:SetTable):∀n m p,adv t (n+m) p=adv t m (adv t n p)
 |0,m,p=>by rw[BF]; rfl
 |n+1,m,p=>by rw[show n+1+m=(n+m)+1 by omega]; exact xS t n m (t.advance p)
theorem Xn (t:SetTable):∀n p,(adv t n p).dummy=p.dummy
 |0,p=>rfl
 |n+1,p=>by
  show(adv t n (t.advance p)).dummy=_;rw[Xn t n];unfold advance
  split<;>rfl
def at0 (t:SetTable)(i q:Nat)(d:Option Nat):Probe:={ j:=i,more:=runEnd t.mask i - i,i,perturb:=q,dummy:=d }
theorem cS (t:SetTable):∀(m:Nat) (p:Probe),p.more=m->adv t (m+1) p=at0 t (leap t.mask p.i p.perturb).1 (leap t.mask p.i p.perturb).2 p.dummy
 |0,p,h=>by
  show t.advance p=_;unfold advance;rw[AT (by omega)]
  rfl
 |m+1,p,h=>by
  show adv t (m+1) (t.advance p)=_;have e:t.advance p={ p with j:=p.j+1,more:=p.more - 1 }:=by unfold advance; rw[AW (by omega)]
  rw[e,cS t m _ (by show p.more - 1=m; omega)]
theorem more_le (t:SetTable)(i:Nat):runEnd t.mask i - i<=9:=by
 unfold runEnd
 split<;>omega
def aK (t:SetTable):Nat->Nat->Nat->Nat×Nat
 |0,i,q=>(i,q)
 |n+1,i,q=>aK t n (leap t.mask i q).1 (leap t.mask i q).2
theorem dS (t:SetTable)(d:Option Nat):∀n i q,∃r,r<=10 * n/\adv t r (at0 t i q d)=at0 t (aK t n i q).1 (aK t n i q).2 d
 |0,i,q=>⟨0,AV _,rfl⟩
 |n+1,i,q=>by
  obtain⟨r,hr,e⟩:=dS t d n (leap t.mask i q).1 (leap t.mask i q).2;refine⟨(runEnd t.mask i - i+1)+r,by have:=more_le t i; omega,?_⟩;rw[xS,cS t (runEnd t.mask i - i) (at0 t i q d) rfl];exact e
theorem zA (t:SetTable):∀n i q,(aK t n i q).2=q / 32 ^ n
 |0,i,q=>by simp[aK]
 |n+1,i,q=>by
  show(aK t n _ (q / 32)).2=_;rw[zA t n,Nat.div_div_eq_div_mul,BG,Nat.mul_comm]
theorem yL (t:SetTable):∀n m i q,aK t (n+m) i q=aK t m (aK t n i q).1 (aK t n i q).2
 |0,m,i,q=>by rw[BF]; rfl
 |n+1,m,i,q=>by rw[show n+1+m=(n+m)+1 by omega]; exact yL t n m _ _
theorem wL (t:SetTable):∀n i,(aK t n i 0).1=itr (t.mask+1) i n
 |0,i=>rfl
 |n+1,i=>by
  show(aK t n ((i * 5+1+0 / 32) % (t.mask+1)) (0 / 32)).1=itr _ (step (t.mask+1) i) n;rw[Nat.zero_div,Nat.add_zero];exact wL t n _
theorem ZC {t:SetTable}{k:Nat}(h:TOk t k)(hs:Int):∃r,r<=10 * (13+t.place.size)/\t.slot (adv t r (t.probeStart hs)).j=.empty:=by
 have e0:t.probeStart hs=at0 t (bits hs % (t.mask+1)) (bits hs) none:=rfl;rw[e0];generalize bits hs % (t.mask+1)=i
 have hb:bits hs < 2 ^ 64:=by
  unfold bits;have h1:=BS hs (b:=(2 ^ 64:Int)) (by decide);have h2:=Bh hs (b:=(2 ^ 64:Int)) (by decide);omega
 generalize bits hs=q at hb
 have q13:(aK t 13 i q).2=0:=by
  rw[zA];exact Nat.div_eq_of_lt (AR hb (by decide))
 obtain⟨m,hm,hout⟩:=Jj (f:=fun m=>itr (t.mask+1) (aK t 13 i q).1 m) t.place.toList (fun n d hn e=>by
  rw[h.mask] at e;refine QQ k _ n d e ?_;rw[<- h.mask];rw[Au] at hn;have:=h.few
  omega)
 rw[Au] at hm;obtain⟨r,hr,e⟩:=dS t none (13+m) i q;refine⟨r,by omega,?_⟩;rw[e,yL,q13];show t.slot (aK t m (aK t 13 i q).1 0).1=.empty;rw[wL];exact h.slot_out hout
theorem Kr {t:SetTable}{k:Nat}(h:TOk t k)(hashAt:Nat->Int)(hs:Int):∀(r fuel:Nat) (p:Probe),r < fuel->t.slot (adv t r p).j=.empty ->
  (∃j,probe.go t hashAt hs fuel p=some (.empty j p.dummy))\/∃s i,s < r/\probe.go t hashAt hs fuel p=some (.candidate (adv t s p).j i (adv t (s+1) p))/\t.slot (adv t s p).j=.live i/\i < t.place.size/\hashAt i=hs:=by
 intro r
 induction r with
 |zero =>
  intro fuel p hf he;obtain⟨f,rfl⟩:∃f,fuel=f+1:=⟨fuel - 1,by omega⟩;have he:t.slot p.j=.empty:=he;refine .inl ⟨p.j,?_⟩;unfold probe.go;rw[he]
 |succ r ih =>
  intro fuel p hf he;obtain⟨f,rfl⟩:∃f,fuel=f+1:=⟨fuel - 1,by omega⟩
  rcases h.slot_is (j:=p.j) with e | ⟨i,e,hi⟩
  .refine .inl ⟨p.j,?_⟩
   unfold probe.go;rw[e]
  .by_cases hh:(hashAt i==hs)=true
   .refine .inr ⟨0,i,by omega,?_,e,hi,eq_of_beq hh⟩
    unfold probe.go;rw[e]
    simp only[hh,if_true]
    rfl
   .have step:probe.go t hashAt hs (f+1) p=probe.go t hashAt hs f (t.advance p):=by
     conv=>lhs; unfold probe.go
     rw[e]
     simp[hh]
    rw[step];have ed:(t.advance p).dummy=p.dummy:=by unfold advance; split<;>rfl
    rcases ih f (t.advance p) (by omega) he with ⟨j,ej⟩ | ⟨s,i',hs',e1,e2,e3⟩
    .exact .inl ⟨j,by rw[ej,ed]⟩
    .exact .inr ⟨s+1,i',by omega,e1,e2,e3⟩
theorem gE (xs:Array Nat)(j:Nat):below xs j<=xs.size:=by
 have:∀f lo hi,lo<=hi->below.go xs j f lo hi<=hi:=by
  intro f
  induction f with
  |zero=>intro lo hi h; exact h
  |succ f ih =>
   intro lo hi h;unfold below.go
   split
   .next hlt =>
    dsimp only
    split
    .exact ih _ _ (by omega)
    .exact Ae (ih lo ((lo+hi) / 2) (by omega)) (by omega)
   .exact h
 exact this _ _ _ (AV _)
theorem sU {α:Type}(xs:Array α)(p:Nat)(x:α)(h:p<=xs.size):(insertAt xs p x).size=xs.size+1:=by
 unfold insertAt;rw[Array.size_append,Array.size_push,Array.size_extract,Array.size_extract];omega
theorem TOk.put {t:SetTable}{k j:Nat}(h:TOk t k)(few:t.place.size+1<=t.mask):TOk (t.put j).1 k/\(t.put j).1.place.size=t.place.size+1/\(t.put j).2<=t.place.size/\(t.put j).1.mask=t.mask:=by
 have hs:(insertAt t.place (below t.place j) j).size=t.place.size+1:=sU _ _ _ (gE _ _);refine⟨⟨h.mask,?_,?_⟩,hs,gE _ _,rfl⟩
 .show (if has t.dummies j=true then _ else t.dummies) = #[]
  have e2:has t.dummies j=false:=by
   rw[h.dum];unfold has;rw[Ay]
   simp
  rw[AT (by rw[e2]; exact AL)];exact h.dum
 .show (insertAt t.place (below t.place j) j).size<=t.mask
  rw[hs];exact few
theorem rB (n:Nat)(h:n < 2 ^ 60):∃k,3<=k/\sizeAbove n=2 ^ k/\n < 2 ^ k/\2 ^ k<=8+2 * n:=by
 have:∀f k,3<=k->n < 2 ^ (k+f)->2 ^ k<=8+2 * n->∃k',3<=k'/\sizeAbove.go n f (2 ^ k)=2 ^ k'/\n < 2 ^ k'/\2 ^ k'<=8+2 * n:=by
  intro f
  induction f with
  |zero=>intro k h3 hn hl; exact⟨k,h3,rfl,hn,hl⟩
  |succ f ih =>
   intro k h3 hn hl;unfold sizeAbove.go
   split
   .next hle =>
    rw[show 2 ^ k * 2=2 ^ (k+1) from(BG ..).symm];refine ih (k+1) (by omega) (by rw[show k+1+f=k+(f+1) by omega]; exact hn) ?_;rw[BG];omega
   .exact ⟨k,h3,rfl,by omega,hl⟩
 exact this 64 3 (by omega) (AR h (BL (by decide) (by decide))) (by show 8<=_; omega)
def got (N:Nat)(owner:Array (Option Nat)):List Nat:=(List.range N).filterMap fun j=>owner.getD j none
theorem got_set {N:Nat}{owner:Array (Option Nat)}(hN:owner.size=N){j c:Nat}(hj:owner[j]?=some none):(got N (owner.setIfInBounds j (some c))).Perm (c::got N owner):=by
 have hlt:j < owner.size:=(Array.getElem?_eq_some_iff.1 hj).1;have hsplit:∃A B,List.range N=A++j::B:=List.append_of_mem (Az.2 (by omega));obtain⟨A,B,e⟩:=hsplit;have nd:(A++j::B).Nodup:=by rw[<- e]; exact List.nodup_range
 rw[A8] at nd;have nA:∀x∈A,x≠j:=fun x hx=>nd.2.2 x hx j AD;have nB:∀x∈B,x≠j:=fun x hx z=>(Am.1 nd.2.1).1 (z▸hx)
 have same:∀L:List Nat,(∀x∈L,x≠j)->L.filterMap (fun x=>(owner.setIfInBounds j (some c)).getD x none)=L.filterMap fun x=>owner.getD x none:=by
  intro L hL
  induction L with
  |nil=>rfl
  |cons x L ih =>
   have ex:(owner.setIfInBounds j (some c)).getD x none=owner.getD x none:=by
    have:=hL x AD;rw[Ax,Ax,Array.getElem?_setIfInBounds_ne (Ne.symm this)]
   rw[A7,A7,ex,ih fun y hy=>hL y (AG _ hy)]
 unfold got;rw[e,List.filterMap_append,List.filterMap_append,A7,A7,same A nA,same B nB]
 have e1:(owner.setIfInBounds j (some c)).getD j none=some c:=by
  rw[Ax,Array.getElem?_setIfInBounds_self_of_lt hlt]
  rfl
 have e2:owner.getD j none=none:=by rw[Ax,hj]; rfl
 rw[e1,e2];exact List.perm_middle
theorem Za {mask:Nat}{owner:Array (Option Nat)}(t:SetTable)(ht:t.mask=mask):∀(m fuel i q:Nat),m < fuel->owner[(aK t m i q).1]?=some none->∃j,layClean.free mask owner fuel i q=some j/\owner[j]?=some none:=by
 subst ht;intro m
 have first:∀i j,(List.range (runEnd t.mask i+1 - i)).find? (fun k=>(owner.getD (i+k) (some 0)).isNone)=some j->owner[i+j]?=some none:=by
  intro i j h;have:=List.find?_some h
  replace this:(owner.getD (i+j) (some 0)).isNone=true:=this
  rw[Ax] at this
  cases e:owner[i+j]? with
  |none=>rw[e] at this; cases this
  |some o=>rw[e] at this; cases o with
   |none=>rfl
   |some _=>cases this
 induction m with
 |zero =>
  intro fuel i q hf ho;obtain⟨f,rfl⟩:∃f,fuel=f+1:=⟨fuel - 1,by omega⟩;have ho:owner[i]?=some none:=ho;unfold layClean.free
  cases e:(List.range (runEnd t.mask i+1 - i)).find? (fun k=>(owner.getD (i+k) (some 0)).isNone) with
  |some j=>exact⟨i+j,rfl,first i j e⟩
  |none =>
   exfalso
   rw[List.find?_eq_none] at e;refine e 0 (Az.2 ?_) ?_
   .unfold runEnd
    split<;>omega
   .rw [Nat.add_zero,Ax,ho]
    rfl
 |succ m ih =>
  intro fuel i q hf ho;obtain⟨f,rfl⟩:∃f,fuel=f+1:=⟨fuel - 1,by omega⟩;unfold layClean.free
  cases e:(List.range (runEnd t.mask i+1 - i)).find? (fun k=>(owner.getD (i+k) (some 0)).isNone) with
  |some j=>exact⟨i+j,rfl,first i j e⟩
  |none=>exact ih f _ _ (by omega) ho
theorem leap_lt (mask i q:Nat):(leap mask i q).1 < mask+1:=Nat.mod_lt _ (by omega)
theorem Qy (t:SetTable):∀n i q,(aK t (n+1) i q).1 < t.mask+1
 |0,i,q=>leap_lt _ _ _
 |n+1,i,q=>Qy t n _ _
theorem KC {N:Nat}{owner:Array (Option Nat)}:((List.range N).filter fun j=>(owner.getD j none).isSome).length=(got N owner).length:=by
 unfold got;generalize List.range N=L
 induction L with
 |nil=>rfl
 |cons x L ih =>
  rw[Cm,A7]
  cases e:owner.getD x none with
  |none=>exact ih
  |some y=>exact BE (· + 1) ih
theorem Zb {k mask:Nat}(hk:mask+1=2 ^ k){owner:Array (Option Nat)}(hN:owner.size=mask+1)(few:(got (mask+1) owner).length<=mask)(h:Int):∃j,layClean.free mask owner (turns mask) (bits h % (mask+1)) (bits h)=some j/\owner[j]?=some none:=by
 let t:SetTable:={ mask:=mask,place:=#[],dummies:=#[],finger:=0,led:=true,moves:=0,plain:=true }
 have hb:bits h < 2 ^ 64:=by
  unfold bits;have h1:=BS h (b:=(2 ^ 64:Int)) (by decide);have h2:=Bh h (b:=(2 ^ 64:Int)) (by decide);omega
 generalize bits h=q at hb;generalize q % (mask+1)=i
 have q13:(aK t 13 i q).2=0:=by
  rw[zA];exact Nat.div_eq_of_lt (AR hb (by decide))
 have fl:=KC (N:=mask+1) (owner:=owner)
 obtain⟨m,hm,hout⟩:=Jj (f:=fun m=>itr (mask+1) (aK t 13 i q).1 m) ((List.range (mask+1)).filter fun j=>(owner.getD j none).isSome) (fun n d hn e=>by
  rw[hk] at e;refine QQ k _ n d e ?_;rw[<- hk]
  omega)
 refine Za t rfl (13+m) (turns mask) i q (by unfold turns; omega) ?_
 have e1:(aK t (13+m) i q).1=itr (mask+1) (aK t 13 i q).1 m:=by
  rw[yL,q13];exact wL t m _
 have lt:(aK t (13+m) i q).1 < mask+1:=by
  rw[show 13+m=(12+m)+1 by omega];exact Qy t (12+m) i q
 rw[e1] at lt ⊢;have hout2:=hout;rw[List.mem_filter] at hout2;have hno:¬ (owner.getD (itr (mask+1) (aK t 13 i q).1 m) none).isSome=true:=fun z=>hout2 ⟨Az.2 lt,z⟩;rw[Ax,Cc (by omega)] at hno;rw[Cc (by omega)]
 cases e:owner[itr (mask+1) (aK t 13 i q).1 m]'(by omega) with
 |none=>rfl
 |some x=>rw[e] at hno; exact absurd rfl hno
theorem K3 {k mask:Nat}(hk:mask+1=2 ^ k)(hashes:Array Int)(few:hashes.size<=mask):∃owner,layClean mask hashes=some owner/\(got (mask+1) owner).Perm (List.range hashes.size):=by
 have fold:∀(l:List Int) (owner:Array (Option Nat)) (c:Nat),owner.size=mask+1->(got (mask+1) owner).Perm (List.range c)->c+l.length<=mask ->
   ∃owner',l.foldl (fun acc h=>do
    let (owner,k) <- acc
    let j <- layClean.free mask owner (turns mask) (bits h % (mask+1)) (bits h)
    pure (owner.setIfInBounds j (some k),k+1)) (some (owner,c))=some (owner',c+l.length)/\(got (mask+1) owner').Perm (List.range (c+l.length)):=by
  intro l
  induction l with
  |nil=>intro owner c _ hp _; exact⟨owner,rfl,hp⟩
  |cons h l ih =>
   intro owner c hN hp hl;rw[AI] at hl;have hlen:=hp.length_eq;rw[Ak] at hlen;obtain⟨j,hj,ho⟩:=Zb hk hN (by omega) h
   have hp2:(got (mask+1) (owner.setIfInBounds j (some c))).Perm (List.range (c+1)):=by
    refine(got_set hN ho).trans ?_;rw[List.range_succ];exact(List.Perm.cons c hp).trans (DF (l₁:=[c]))
   obtain⟨o',e1,e2⟩:=ih (owner.setIfInBounds j (some c)) (c+1) (by rw[Array.size_setIfInBounds]; exact hN) hp2 (by omega);refine⟨o',?_,?_⟩
   .rw [List.foldl_cons]
    have:(do
      let (owner,k) <- some (owner,c)
      let j <- layClean.free mask owner (turns mask) (bits h % (mask+1)) (bits h)
      pure (owner.setIfInBounds j (some k),k+1))=some (owner.setIfInBounds j (some c),c+1):=by
     show(layClean.free mask owner (turns mask) (bits h % (mask+1)) (bits h)).bind _=_;rw[hj]
     rfl
    rw[this,e1,AI]
    congr 2
    omega
   .rw [AI,show c+(l.length+1)=c+1+l.length by omega]
    exact e2
 have g0:(got (mask+1) (Array.replicate (mask+1) none)).Perm (List.range 0):=by
  have:got (mask+1) (Array.replicate (mask+1) none)=[]:=by
   unfold got;rw[List.filterMap_eq_nil_iff];intro j hj;rw[Az] at hj;rw[Ax,Array.getElem?_replicate]
   simp[hj]
  rw[this];exact DI _
 obtain⟨o',e1,e2⟩:=fold hashes.toList (Array.replicate (mask+1) none) 0 (by rw[Array.size_replicate]) g0 (by rw[Au]; omega);rw[Au,BF] at e1 e2;refine⟨o',?_,e2⟩;unfold layClean;rw[<- Array.foldl_toList,e1]
 rfl
theorem Xy {t:SetTable}(hashes:Array Int)(n:Nat)(hn:n < 2 ^ 60)(few:hashes.size<=n):∃t' vG k,t.relaid hashes n=some (t',vG)/\vG.toList.Perm (List.range hashes.size)/\TOk t' k/\t'.place.size=hashes.size/\n<=t'.mask/\t'.mask<=8+2 * n/\t'.plain=t.plain/\t'.led=t.led:=by
 obtain⟨k,k3,e,lt,le⟩:=rB n hn;have hk:(2 ^ k - 1)+1=2 ^ k:=by have:=Nat.two_pow_pos k; omega
 obtain⟨owner,o1,o2⟩:=K3 hk hashes (by omega);unfold SetTable.relaid laid;rw[e,o1];refine⟨_,_,k,rfl,?_,⟨hk,rfl,?_⟩,?_,by show n<=2 ^ k - 1; omega,by show 2 ^ k - 1<=_; omega,rfl,rfl⟩
 .have:(((List.range (2 ^ k - 1+1)).filterMap fun j=>(owner.getD j none).map fun x=>(j,x)).map (·.2))=got (2 ^ k - 1+1) owner:=by
   unfold got;rw[CZ]
   congr 1
   funext j
   cases owner.getD j none<;>rfl
  rw[List.toList_toArray,this];exact o2
 .show (List.toArray _).size<=2 ^ k - 1
  rw[Ai,AA]
  have:((List.range (2 ^ k - 1+1)).filterMap fun j=>(owner.getD j none).map fun x=>(j,x)).length=(got (2 ^ k - 1+1) owner).length:=by
   unfold got;rw[<- AA (f:=(·.2)),CZ]
   congr 2
   funext j
   cases owner.getD j none<;>rfl
  rw[this,o2.length_eq,Ak];omega
 .show (List.toArray _).size=_
  rw[Ai,AA]
  have:((List.range (2 ^ k - 1+1)).filterMap fun j=>(owner.getD j none).map fun x=>(j,x)).length=(got (2 ^ k - 1+1) owner).length:=by
   unfold got;rw[<- AA (f:=(·.2)),CZ]
   congr 2
   funext j
   cases owner.getD j none<;>rfl
  rw[this,o2.length_eq,Ak]
end TB
namespace PySem
open Sem (wp)
section
variable {prog:Program}{w:World}{K:Type}[DecidableEq K]{knd:KeyKind prog w K}{A:Around}{E:Value->Shared->Prop}{s:Shared}
theorem hbv_val (n:Nat){v:Value}(h:carriedByValue v=true):∃b,hashByValue n v=pure b:=by
 cases v with
 |ref a=>simp[carriedByValue] at h
 |_=>cases n<;>exact⟨_,rfl⟩
theorem oac_val (n:Nat){v:Value}(h:carriedByValue v=true):ofAClassStatement n v=pure false:=by
 cases v with
 |ref a=>simp[carriedByValue] at h
 |_=>cases n<;>rfl
theorem X5 (n:Nat){ks:List K}{a:Addr}{Q:Bool->Shared->Prop}(hk:IsTupleKey knd s.heap ks a)(h:∀b,Q b s):wpAny (model prog w) A (hashByValue (n+1) (.ref a)) Q E s:=by
 have hT:=hk.typeIs;obtain⟨o,items,m,ho,_,hd,hi⟩:=hk
 (unfold hashByValue; refine AB (BN hT Bm.lookup ?_))
 show wpAny _ _ (seqItems? (.ref a) >>= _) _ _ s
 (refine AB (Bn ho hd ?_); refine AB ?_)
 (show wpAny _ _ (forIn items _ _) _ _ s; rw[<- BV])
 refine BB _ (fun rest r s'=>r.1=none/\s'=s/\∀v∈rest,carriedByValue v=true) _ ?_ ?_ _ _ ⟨rfl,rfl,hi.byValue⟩
 .rintro v rest r s' ⟨hr,rfl,hall⟩
  obtain⟨b,eb⟩:=hbv_val n (hall v AD)
  (rw[eb]; refine AB (AE ?_))
  cases b
  .refine AE ?_
   exact AE (h _)
  .exact AE ⟨rfl,rfl,fun u hu'=>hall u (AG _ hu')⟩
 .rintro ⟨r1,r2⟩ s' ⟨hr,rfl,_⟩
  (simp only at hr; subst hr; exact AE (h _))
theorem Ko {kss:List (List K)}{a:Addr}{Q:Bool->Shared->Prop}(hk:IsPathKey knd s.heap kss a)(h:∀b,Q b s):wpAny (model prog w) A (hashByValue 8 (.ref a)) Q E s:=by
 have hT:=hk.typeIs;obtain⟨o,items,m,ho,_,hd,hi⟩:=hk
 (unfold hashByValue; refine AB (BN hT Bm.lookup ?_))
 show wpAny _ _ (seqItems? (.ref a) >>= _) _ _ s
 (refine AB (Bn ho hd ?_); refine AB ?_)
 (show wpAny _ _ (forIn items _ _) _ _ s; rw[<- BV])
 refine BB _ (fun rest r s'=>r.1=none/\s'=s/\∃x',ItemsTup knd s.heap x' rest) _ ?_ ?_ _ _ ⟨rfl,rfl,_,hi⟩
 .rintro v rest r s' ⟨hr,rfl,x',hall⟩
  cases hall with
  |cons h1 h2 =>
   refine AB (X5 6 h1 fun b=>?_);cases b
   .refine AE ?_
    exact AE (h _)
   .exact AE ⟨rfl,rfl,_,h2⟩
 .rintro ⟨r1,r2⟩ s' ⟨hr,rfl,_⟩
  (simp only at hr; subst hr; exact AE (h _))
theorem XS (n:Nat){ks:List K}{a:Addr}{Q:Bool->Shared->Prop}(hk:IsTupleKey knd s.heap ks a)(h:Q false s):wpAny (model prog w) A (ofAClassStatement (n+1) (.ref a)) Q E s:=by
 have hT:=hk.typeIs;obtain⟨o,items,m,ho,_,hd,hi⟩:=hk
 (unfold ofAClassStatement; refine AB (Co hT ?_))
 show wpAny _ _ (pure true >>= _) _ _ s;refine AB (AE ?_);show wpAny _ _ (seqItems? (.ref a) >>= _) _ _ s
 (refine AB (Bn ho hd ?_); refine AB ?_)
 (show wpAny _ _ (forIn items _ _) _ _ s; rw[<- BV])
 refine BB _ (fun rest r s'=>r.1=none/\s'=s/\∀v∈rest,carriedByValue v=true) _ ?_ ?_ _ _ ⟨rfl,rfl,hi.byValue⟩
 .rintro v rest r s' ⟨hr,rfl,hall⟩
  (rw[oac_val _ (hall v AD)]; refine AB (AE ?_))
  exact AE ⟨rfl,rfl,fun u hu'=>hall u (AG _ hu')⟩
 .rintro ⟨r1,r2⟩ s' ⟨hr,rfl,_⟩
  (simp only at hr; subst hr; exact AE h)
theorem rT {kss:List (List K)}{a:Addr}{Q:Bool->Shared->Prop}(hk:IsPathKey knd s.heap kss a)(h:Q false s):wpAny (model prog w) A (ofAClassStatement 8 (.ref a)) Q E s:=by
 have hT:=hk.typeIs;obtain⟨o,items,m,ho,_,hd,hi⟩:=hk
 (unfold ofAClassStatement; refine AB (Co hT ?_))
 show wpAny _ _ (pure true >>= _) _ _ s;refine AB (AE ?_);show wpAny _ _ (seqItems? (.ref a) >>= _) _ _ s
 (refine AB (Bn ho hd ?_); refine AB ?_)
 (show wpAny _ _ (forIn items _ _) _ _ s; rw[<- BV])
 refine BB _ (fun rest r s'=>r.1=none/\s'=s/\∃x',ItemsTup knd s.heap x' rest) _ ?_ ?_ _ _ ⟨rfl,rfl,_,hi⟩
 .rintro v rest r s' ⟨hr,rfl,x',hall⟩
  cases hall with
  |cons h1 h2 =>
   refine AB (XS 6 h1 ?_);exact AE ⟨rfl,rfl,_,h2⟩
 .rintro ⟨r1,r2⟩ s' ⟨hr,rfl,_⟩
  (simp only at hr; subst hr; exact AE h)
theorem ZU {kss:List (List K)}{a:Addr}{vs:List Value}{Q:Bool->Shared->Prop}(hk:IsPathKey knd s.heap kss a)(hv:∀v∈vs,∃b k,v=.ref b/\IsPathKey knd s.heap k b)(h:Q false s):wpAny (model prog w) A (searchCouldBeSeen (.ref a) vs) Q E s:=by
 unfold searchCouldBeSeen;refine AB ?_;refine BB _ (fun rest r s'=>r.1=none/\s'=s/\∀v∈rest,∃b k,v=.ref b/\IsPathKey knd s.heap k b) _ ?_ ?_ _ _ ⟨rfl,rfl,hv⟩
 .rintro v rest r s' ⟨hr,rfl,hall⟩
  obtain⟨b,k,rfl,hb⟩:=hall v AD;have tl:∀v∈rest,∃b k,v=.ref b/\IsPathKey knd s'.heap k b:=fun u hu'=>hall u (AG _ hu')
  by_cases e:(a==b)=true
  .simp only[e,Bool.true_or,if_true]
   exact AE ⟨rfl,rfl,tl⟩
  .simp only[e,carriedByValue,Bool.false_or,Bool.and_self,Bool.false_eq_true,if_false]
   refine AB (eU hk ?_)
   simp only[Bool.not_true,Bool.false_eq_true,if_false]
   refine AB (eU hb ?_)
   simp only[Bool.not_true,Bool.false_eq_true,if_false]
   refine AB (rT hk ?_)
   simp only[Bool.false_eq_true,if_false]
   refine AB (rT hb ?_);exact AE ⟨rfl,rfl,tl⟩
 .rintro ⟨r1,r2⟩ s' ⟨hr,rfl,_⟩
  (simp only at hr; subst hr; exact AE h)
end
end PySem
namespace PySem
open Sem (wp)
open TB
def SeqKept (h h':Heap):Prop:=∀b o items n,h.get? b=some o->o.data=.seq items n->h'.get? b=some o
section
variable {prog:Program}{w:World}{K:Type}[DecidableEq K]{knd:KeyKind prog w K}
theorem IsTupleKey.kept {h h':Heap}{k:List K}{a:Addr}(x:IsTupleKey knd h k a)(s:SeqKept h h'):IsTupleKey knd h' k a:=by
 obtain⟨o,items,n,ho,hc,hd,hi⟩:=x;exact⟨o,items,n,s _ _ _ _ ho hd,hc,hd,hi⟩
theorem ItemsTup.kept {h h':Heap}{x:List (List K)}{vs:List Value}(hx:ItemsTup knd h x vs)(s:SeqKept h h'):ItemsTup knd h' x vs:=by
 induction hx with
 |nil=>exact .nil
 |cons h1 _ ih=>exact .cons (h1.kept s) ih
theorem IsPathKey.kept {h h':Heap}{k:List (List K)}{a:Addr}(x:IsPathKey knd h k a)(s:SeqKept h h'):IsPathKey knd h' k a:=by
 obtain⟨o,items,n,ho,hc,hd,hi⟩:=x;exact⟨o,items,n,s _ _ _ _ ho hd,hc,hd,hi.kept s⟩
theorem SeqKept.but {h h':Heap}{a:Addr}{o:Obj}{es:Array (Int×Value)}{ep:Nat}{t:SetTable}(ho:h.get? a=some o)(hd:o.data=.set es ep t)(b:Heap.SameBut a h h'):SeqKept h h':=by
 intro c o' items n hc hd'
 have hne:c≠a:=by
  intro z;rw[z,ho] at hc;cases hc;rw[hd] at hd';cases hd'
 exact(b.2 c hne).trans hc
variable (knd)
def jR (x:List (List K)×Addr):Int×Value:=(iX knd x.1,.ref x.2)
structure PSet (h:Heap)(a:Addr)(xs:List (List (List K)×Addr))(o:Obj)(es:Array (Int×Value))(ep:Nat)(t:SetTable)(k:Nat):Prop where
 at':h.get? a=some o
 ex:o.ExactSet
 dat:o.data=.set es ep t
 tok:TOk t k
 size:t.place.size=es.size
 ents:es.toList=xs.map (jR knd)
 keys:∀x∈xs,IsPathKey knd h x.1 x.2
 big:2<=t.mask
variable {knd}{A:Around}{E:Value->Shared->Prop}{s:Shared}{a:Addr}{xs:List (List (List K)×Addr)}{o:Obj}{es:Array (Int×Value)}{ep:Nat}{t:SetTable}{k:Nat}
theorem cO (h:TOk t k)(hs:t.place.size=es.size):t.fits es.size=true:=by
 have:=h.few
 simp only[SetTable.fits,SetTable.fill,h.dum,hs,Bool.and_eq_true,beq_iff_eq,decide_eq_true_eq]
 refine⟨trivial,?_⟩;show es.size+0<=t.mask;omega
theorem odd_tok (h:TOk t k)(hm:1<=t.mask):t.gaveWay=false:=by
 unfold SetTable.gaveWay;have:=h.mask
 cases k with
 |zero=>simp at this; omega
 |succ k =>
  rw[BG] at this;rw[Ay];omega
theorem PSet.size_eq (p:PSet knd s.heap a xs o es ep t k):es.size=xs.length:=by
 rw[<- Au,p.ents,AA]
theorem PSet.state (p:PSet knd s.heap a xs o es ep t k){Q:(Array (Int×Value)×Nat×SetTable)->Shared->Prop}(h:Q (es,ep,t) s):wpAny (model prog w) A (setState a) Q E s :=
 wpAny_setState_of p.at' p.dat (cO p.tok p.size) h
theorem qA {kss:List (List K)}{b:Addr}{Q:SetFound->Shared->Prop}(hu:A.units+1 < cLine)(p:PSet knd s.heap a xs o es ep t k)(hb:IsPathKey knd s.heap kss b)(new:∀x∈xs,x.1≠kss)
  (fin:∀j,Q (.free j false) s):∀(fuel r:Nat) (pr:SetTable.Probe) (st:Option SetTable.Probe),r < fuel->r<=10 * (13+t.place.size)->t.slot (adv t r pr).j=.empty->pr.dummy=none->st.getD (t.probeStart (iX knd kss))=pr ->
   wpAny (model prog w) A (setSearchFrom a (.ref b) (iX knd kss) true fuel st) Q E s:=by
 intro fuel
 induction fuel with
 |zero=>intro r pr st hr; omega
 |succ f ih =>
  intro r pr st hr hl he hd hst;unfold setSearchFrom;refine AB (p.state ?_);dsimp only;rw[odd_tok p.tok (Nat.le_of_succ_le p.big),hst]
  simp only[Bool.false_eq_true,if_false]
  generalize hp:t.probe _ (iX knd kss) pr=met
  have key:∀g,t.probe g (iX knd kss) pr=met->(∃j,met=some (.empty j none))\/∃s i,s < r/\met=some (.candidate (adv t s pr).j i (adv t (s+1) pr))/\t.slot (adv t s pr).j=.live i/\i < t.place.size:=by
   intro g e;have hf:=p.tok.few
   rcases Kr p.tok g (iX knd kss) r (10 * SetTable.turns t.mask) pr (by unfold SetTable.turns; omega) he with ⟨j,e1⟩ | ⟨s',i,h1,h2,h3,h4,_⟩
   .exact .inl ⟨j,by rw[<- e,<- hd]; exact e1⟩
   .exact .inr ⟨s',i,h1,by rw[<- e]; exact h2,h3,h4⟩
  rcases key _ hp with ⟨j,rfl⟩ | ⟨s',i,h1,rfl,h3,h4⟩
  .exact AE (fin j)
  .dsimp only
   have hi:i < xs.length:=by rw[<- p.size_eq,<- p.size]; exact h4
   have hg:es[i]?=some (jR knd xs[i]):=by
    rw[<- Array.getElem?_toList,p.ents,Aj,AM hi]
    rfl
   have hm:xs[i]∈xs:=BI hi
   have rest:wpAny (model prog w) A (do
     let some (_,y):=es[i]? | unsupported "internal:set-entry"
     let equal <- holding [y] (eqBool y (.ref b))
     let (es',_,t') <- setState a
     if true&&equal then return .there none
     let some same:=t'.sameMemory t.moves t.mask | unsupported "set.changed-during-lookup:is-the-new-block-at-the-old-address"
     let Qw <- match (if same then t'.slot (adv t s' pr).j else .empty) with
      |.live i'=>match es'[i']? with
       |some (_,y')=>do pure (if <- isSame y' y then some i' else none)
       |none=>pure none
      |_=>pure none
     match Qw with
     |none=>rule "set.search.anew"; setSearchFrom a (.ref b) (iX knd kss) true f none
     |some i'=>if equal then return .there (some i') else setSearchFrom a (.ref b) (iX knd kss) true f (some (adv t (s'+1) pr))) Q E s:=by
    rw[hg];show wpAny _ _ (holding [Value.ref xs[i].2] (eqBool (.ref xs[i].2) (.ref b)) >>= _) _ _ _;refine AB (Aw (wW hu (p.keys _ hm) hb ?_));rw[AS (new _ hm)];refine AB (p.state ?_);dsimp only;have sm:t.sameMemory t.moves t.mask=some true:=by unfold SetTable.sameMemory; simp
    rw[sm]
    simp only[Bool.and_false,Bool.false_eq_true,if_false,if_true]
    rw[h3];dsimp only;rw[hg];dsimp only[jR]
    have same:∀{Q':Bool->Shared->Prop},Q' true s->wpAny (model prog w) A (isSame (.ref xs[i].2) (.ref xs[i].2)) Q' E s:=by
     intro Q' q;unfold isSame
     simp only[beq_self_eq_true,if_true]
     exact AE q
    refine AB (same (AB (AE ?_)))
    simp only[if_true]
    refine ih (r - (s'+1)) (adv t (s'+1) pr) (some (adv t (s'+1) pr)) (by omega) (by omega) ?_ ?_ rfl
    .rw [<- xS,show s'+1+(r - (s'+1))=r by omega]
     exact he
    .rw [Xn]
     exact hd
   by_cases hled:t.led=true
   .simp only[hled,Bool.not_true,Bool.false_eq_true,if_false]
    exact rest
   .simp only[hled,Bool.not_false,if_true]
    refine AB (ZU hb ?_ ?_)
    .intro v hv
     rw[Ab] at hv;obtain⟨e,he1,rfl⟩:=hv
     have he2:e∈es.toList:=by
      rw[DJ] at he1 ⊢;exact(Array.mem_filter.1 he1).1
     rw[p.ents,Ab] at he2;obtain⟨x,hx,rfl⟩:=he2;exact⟨x.2,x.1,rfl,p.keys x hx⟩
    .simp only[Bool.false_eq_true,if_false]
     exact rest
end
theorem eS {α:Type}:∀L:List α,(List.range L.length).filterMap (fun i=>L[i]?)=L
 |[]=>rfl
 |x::L=>by
  rw[AI,List.range_succ_eq_map,A7,List.filterMap_map];show x::(List.range L.length).filterMap (fun i=>L[i]?)=_;rw[eS L]
section
variable {prog:Program}{w:World}{K:Type}[DecidableEq K]{knd:KeyKind prog w K}{A:Around}{E:Value->Shared->Prop}{s:Shared}{a:Addr}{xs:List (List (List K)×Addr)}{o:Obj}{es:Array (Int×Value)}{ep:Nat}{t:SetTable}{k:Nat}
theorem Kk {x:List (List K)×Addr}{p:Nat}(he:es.toList=xs.map (jR knd)):∃L:List (List (List K)×Addr),(SetTable.insertAt es p (jR knd x)).toList=L.map (jR knd)/\L.Perm (x::xs):=by
 refine⟨xs.take p++x::xs.drop p,?_,?_⟩
 .unfold SetTable.insertAt
  simp only[Array.toList_append,Array.toList_push,Array.toList_extract,he]
  have hs:es.size=xs.length:=by rw[<- Au,he,AA]
  rw[AQ,Ac,List.extract_eq_take_drop,List.extract_eq_take_drop,List.drop_zero,AK,List.map_take,List.map_drop,Nat.sub_zero,he];rw[A6 (i:=es.size - p) (l:=List.drop p (List.map (jR knd) xs)) (by rw[B8,AA]; omega)]
  rfl
 .refine List.perm_middle.trans ?_
  rw[DE]
theorem Ja {es':Array (Int×Value)}{t':SetTable}{k':Nat}{xs':List (List (List K)×Addr)}(p:PSet knd s.heap a xs o es ep t k)(tok:TOk t' k')(hs:t'.place.size=es'.size)(he:es'.toList=xs'.map (jR knd))(hk:∀x∈xs',IsPathKey knd s.heap x.1 x.2)(big:2<=t'.mask):
  PSet knd (s.heap.update a (Obj.putSet es' t')) a xs' { o with data:=.set es' (ep+1) t' } es' (ep+1) t' k'/\Heap.SameBut a s.heap (s.heap.update a (Obj.putSet es' t')):=by
 have hg:(s.heap.update a (Obj.putSet es' t')).get? a=some { o with data:=.set es' (ep+1) t' }:=by
  have:=Bj (Obj.putSet es' t') p.at' (by rw[putSet_of es' t' p.dat]; rfl);rw[putSet_of es' t' p.dat] at this;exact this
 have sb:=Heap.SameBut.update s.heap a (Obj.putSet es' t');exact⟨⟨hg,p.ex,rfl,tok,hs,he,fun x hx=>(hk x hx).kept (.but p.at' p.dat sb),big⟩,sb⟩
theorem Z1 {Q:Unit->Shared->Prop}(p:PSet knd s.heap a xs o es ep t k)(n:Nat)(hn:4 * xs.length=n)(h1:1<=n)(small:xs.length<=9900)
  (fin:∀h' xs' o' es' ep' t' k',Heap.SameBut a s.heap h'->PSet knd h' a xs' o' es' ep' t' k'->xs'.Perm xs->t'.place.size * 5 < t'.mask * 3->Q () { s with heap:=h' }) :
  wpAny (model prog w) A (setRelay a n) Q E s:=by
 unfold setRelay;refine AB (p.state ?_);dsimp only;have sz:=p.size_eq;obtain⟨kk,k3,e,lt,le⟩:=rB n (by omega);rw[AT (by rw[e,BK]; omega)];obtain⟨t',vG,k',r1,r2,r3,r4,r5,r6,_,_⟩:=Xy (t:=t) (es.map (·.1)) n (by omega) (by rw[Array.size_map]; omega);rw[Array.size_map] at r2 r4;rw[r1]
 have hL:(vG.filterMap (es[·]?)).toList=(vG.toList.filterMap (xs[·]?)).map (jR knd):=by
  rw[Array.toList_filterMap,CZ]
  congr 1
  funext i
  rw[<- Array.getElem?_toList,p.ents,Aj]
 have hP:(vG.toList.filterMap (xs[·]?)).Perm xs:=by
  rw[sz] at r2;have:=r2.filterMap (fun i=>xs[i]?);rw[eS] at this;exact this
 have hZ:(vG.filterMap (es[·]?)).size=es.size:=by
  rw[<- Au,hL,AA,hP.length_eq,sz]
 refine AB ?_;show wpAny _ _ (if ((vG.filterMap (es[·]?)).size != es.size)=true then _ else pure (vG.filterMap (es[·]?),t')) _ _ _;rw[AT (by rw[hZ,bne_self_eq_false]; exact AL)];refine AE ?_;dsimp only;obtain⟨p2,sb⟩:=Ja (es':=vG.filterMap (es[·]?)) (t':=t') p r3 (by rw[r4,hZ]) hL (fun x hx=>p.keys x (hP.mem_iff.1 hx)) (by omega);refine wpAny_storeSet_of p.at' p.dat (fin _ _ _ _ _ _ _ sb p2 hP (by omega)) ?_
 rw[hZ,BK];omega
theorem add_new {kss:List (List K)}{b:Addr}{Q:Bool->Shared->Prop}(hu:A.units+1 < cLine)(p:PSet knd s.heap a xs o es ep t k)(hb:IsPathKey knd s.heap kss b)(new:∀x∈xs,x.1≠kss)(few:t.place.size * 5 < t.mask * 3)(small:xs.length+1<=9900)
  (fin:∀h' xs' o' es' ep' t' k',Heap.SameBut a s.heap h'->PSet knd h' a xs' o' es' ep' t' k'->xs'.Perm ((kss,b)::xs)->t'.place.size * 5 < t'.mask * 3->Q true { s with heap:=h' }) :
  wpAny (model prog w) A (setAddHashed a (.ref b) (iX knd kss)) Q E s:=by
 have sz:=p.size_eq;have sz2:=p.size;unfold setAddHashed setAddHashedIn;refine Aw (AB (p.state ?_));dsimp only;have nos:byScan (.ref b) es=false:=rfl;rw[nos]
 simp only[Bool.false_eq_true,if_false]
 obtain⟨r,hr,he⟩:=ZC p.tok (iX knd kss);refine AB (qA hu p hb new (fun j=>?_) 100000 r (t.probeStart (iX knd kss)) none (by omega) hr he rfl rfl);dsimp only;refine AB (p.state ?_);dsimp only;obtain⟨q1,q2,q3,q4⟩:=p.tok.put (j:=j) (by have:=p.big; omega);generalize t.put j=tp at q1 q2 q3 q4;obtain⟨t1,pos⟩:=tp;dsimp only at q1 q2 q3 q4 ⊢
 have tail:∀t2:SetTable,TOk t2 k->t2.place.size=t.place.size+1->t2.mask=t.mask->wpAny (model prog w) A (do
   storeSet a (SetTable.insertAt es pos (iX knd kss,.ref b)) t2
   if (!false&&t2.tooFull)=true then do
     setRelay a (SetTable.grown (es.size+1))
     pure true
    else pure true) Q E s:=by
  intro t2 k1 k2 k3;obtain⟨L,l1,l2⟩:=Kk (knd:=knd) (x:=(kss,b)) (p:=pos) p.ents;have zs:(SetTable.insertAt es pos (iX knd kss,Value.ref b)).size=es.size+1:=sU _ _ _ (by omega)
  obtain⟨p2,sb⟩:=Ja (es':=SetTable.insertAt es pos (iX knd kss,.ref b)) (t':=t2) p k1 (by rw[k2,zs,sz2]) l1 (fun x hx=>by
   rcases Ah.1 (l2.mem_iff.1 hx) with rfl | hx
   .exact hb
   .exact p.keys x hx) (by rw[k3]; exact p.big)
  refine AB (wpAny_storeSet_of p.at' p.dat ?_ (by rw[zs,BK]; omega));have ll:L.length=xs.length+1:=by rw[l2.length_eq,AI]
  by_cases tf:t2.tooFull=true
  .rw [AW (by rw[tf]; rfl)]
   refine AB (Z1 p2 _ ?_ ?_ (by omega) fun h' xs' o' es' ep' t' k' sb' p' pm lt=>AE (fin h' xs' o' es' ep' t' k' (sb.trans sb') p' (pm.trans l2) lt))
   .unfold SetTable.grown
    rw[AT (by omega)];omega
   .unfold SetTable.grown
    rw[AT (by omega)];omega
  .rw [AT (by rw[Bool.not_eq_true] at tf; rw[tf]; exact AL)]
   refine AE (fin _ _ _ _ _ _ _ sb p2 l2 ?_);unfold SetTable.tooFull SetTable.fill at tf;rw[k1.dum] at tf
   simp only[Array.size_empty,Nat.add_zero,ge_iff_le,decide_eq_true_eq,Nat.not_le] at tf
   exact tf
 split
 .refine AB (Ko hb fun bv=>?_)
  cases bv
  .exact tail { t1 with plain:=false } ⟨q1.mask,q1.dum,q1.few⟩ q2 q4
  .exact tail t1 q1 q2 q4
 .exact AB (AE (tail t1 q1 q2 q4))
end
end PySem
namespace PySem
open PySem.Spec PyProof.Rows PyProof.Rows.F
open TB
section
variable {prog:Program}{w:World}{K:Type}[DecidableEq K]{knd:KeyKind prog w K}{A:Around}{S I l:Addr}{items:Array Value}{ks:List (List (List K))}
theorem xT {R:Result->Shared->Prop}(few:ks.length<=9900)(nd:ks.Nodup)(calm:A.in1.handled=none)(hu:A.in1.units+1 < cLine)(nSI:S≠I)(nSl:S≠l)(nlI:l≠I)(stop:items[ks.length]?=none):∀(r i:Nat) (s:Shared) (xs:List (List (List K)×Addr)) (o:Obj) (es:Array (Int×Value)) (ep:Nat) (t:SetTable) (k:Nat),i+r=ks.length->s.heap.IsListIter I l i->s.heap.IsList l items ->
   PSet knd s.heap S xs o es ep t k->t.place.size * 5 < t.mask * 3->(xs.map (·.1)).Perm (ks.take i) ->
   (∀i (h:i < ks.length),∃b,items[i]?=some (.ref b)/\IsPathKey knd s.heap ks[i] b) ->
   (∀(h:Heap) (tk:Nat) xs o es ep t k,(∀b o,b≠S->b≠I->s.heap.get? b=some o->h.get? b=some o)->PSet knd h S xs o es ep t k->xs.length=ks.length->R (.ok (.ret .none)) { s with heap:=h,toks:=tk }) ->
   codeAny (model prog w) A (.builtin "set.update.loop" ⟨[.ref S,.ref I],[]⟩) R s:=by
 intro r
 induction r with
 |zero =>
  intro i s xs o es ep t k e it li st fw pm key fin;have ei:i=ks.length:=by omega
  subst ei;refine BO F.entry_set_update_loop ?_;have u:A.under (.builtin "set.update.loop" ⟨[.ref S,.ref I],[]⟩)=A.in1:=BD Cn _;rw[u];have hl:=pm.length_eq;rw[List.take_length,AA] at hl;have it0:=it;obtain⟨oi,hi1,_,hi2⟩:=it0;refine AB (wpAny_pyNext_list_end calm it li stop fun h x=>AE (fin h s.toks xs o es ep t k (fun b o _ nb q=>x b o nb q) ⟨x S _ nSI st.at',st.ex,st.dat,st.tok,st.size,st.ents,fun y hy=>(st.keys y hy).kept ?_,st.big⟩ hl))
  intro b o' its n q1 q2;refine x b o' ?_ q1;intro z;rw[z,hi1] at q1;cases q1;rw[hi2] at q2;cases q2
 |succ r ih =>
  intro i s xs o es ep t k e it li st fw pm key fin;have hi:i < ks.length:=by omega
  obtain⟨b,hv,kv⟩:=key i hi;refine BO F.entry_set_update_loop ?_;have u:A.under (.builtin "set.update.loop" ⟨[.ref S,.ref I],[]⟩)=A.in1:=BD Cn _;rw[u];have it0:=it;obtain⟨oi,hi1,_,hi2⟩:=it0;refine AB (wpAny_pyNext_list_item it li hv fun h1 it1 b1=>?_)
  have sk:SeqKept s.heap h1:=by
   intro b' o' its n q1 q2;refine(b1.2 b' ?_).trans q1;intro z;rw[z,hi1] at q1;cases q1;rw[hi2] at q2;cases q2
  have st1:PSet knd h1 S xs o es ep t k:=⟨(b1.2 S nSI).trans st.at',st.ex,st.dat,st.tok,st.size,st.ents,fun y hy=>(st.keys y hy).kept sk,st.big⟩;have li1:=li.at fun o q=>(b1.2 l nlI).trans q;have hlx:=pm.length_eq;rw[AA,BQ] at hlx;refine AB (m:=holding [.ref b] (setAdd S (.ref b))) (Aw ?_);unfold setAdd;refine Aw (AB (vW (s:={ s with heap:=h1 }) hu (kv.kept sk) ?_))
  have new:∀x∈xs,x.1≠ks[i]:=by
   intro x hx z;have h1:x.1∈ks.take i:=pm.mem_iff.1 (Ab.2 ⟨x,hx,rfl⟩);rw[z] at h1;obtain⟨j,hj,ej⟩:=List.mem_iff_getElem.1 h1;rw[BQ] at hj;rw[List.getElem_take] at ej;have g1:ks[j]?=ks[i]?:=by rw[AM hi,AM (show j < ks.length by omega),ej]
   have:=(List.getElem?_inj (show j < ks.length by omega) nd).1 g1;omega
  refine add_new (s:={ s with heap:=h1,toks:=s.toks+vU ks[i] }) hu st1 (kv.kept sk) new fw (by omega) fun h2 xs' o' es' ep' t' k' b2 st2 pm2 fw2=>?_;have sk2:SeqKept h1 h2:=.but st1.at' st1.dat b2;refine AE ⟨Bz Cn _,ih (i+1) _ xs' o' es' ep' t' k' (by omega) (it1.at fun o q=>(b2.2 I nSI.symm).trans q) (li1.at fun o q=>(b2.2 l nSl.symm).trans q) st2 fw2 ?_ ?_ fun h tk xs o es ep t k keep st4 e4=>fin h tk xs o es ep t k (fun b o n1 n2 q=>keep b o n1 n2 ((b2.2 b n1).trans ((b1.2 b n2).trans q))) st4 e4⟩
  .rw [<- List.take_append_getElem hi]
   refine(pm2.map (·.1)).trans ?_;rw[Ac];exact(List.Perm.cons _ pm).trans (DF (l₁:=[ks[i]]))
  .intro i hi
   obtain⟨b,q1,q2⟩:=key i hi;exact⟨b,q1,(q2.kept sk).kept sk2⟩
end
section
variable {prog:Program}{w:World}{K:Type}[DecidableEq K]{knd:KeyKind prog w K}{A:Around}{E:Value->Shared->Prop}{s:Shared}{l:Addr}{items:Array Value}{ks:List (List (List K))}
theorem jH {Z:Fin->Shared->Prop}(led:Bool)(calm:A.handled=none)(hu:A.units+2 < cLine)(few:ks.length<=9900)(nd:ks.Nodup)(li:s.heap.IsList l items)(stop:items[ks.length]?=none)
  (key:∀i (h:i < ks.length),∃b,items[i]?=some (.ref b)/\IsPathKey knd s.heap ks[i] b)
  (fin:∀(h:Heap) (tk:Nat) xs o es ep t k,(∀b o,s.heap.get? b=some o->h.get? b=some o)->PSet knd h s.heap.objs.size xs o es ep t k->xs.length=ks.length->Z (.done (.ret .none)) { s with heap:=h,toks:=tk }) :
  wpAny (model prog w) A (Builtin.«set.__init__» ⟨[.ref s.heap.objs.size,.ref l],[]⟩) Z E { s with heap:=s.heap.push (hW led) }:=by
 have oS:(s.heap.push (hW led)).get? s.heap.objs.size=some (hW led):=Aa _ rfl;obtain⟨⟨c1,d1,x1,y1⟩,q1,q2,nl,q3⟩:=li
 simp only at q2 q3
 subst q2;subst q3;have q4:(s.heap.push (hW led)).get? l=some { cls:=.type "list",dict:=d1,data:=.seq items nl,slots:=y1 }:=AF _ q1;have q5:=F.sub_list_set;have q6:=F.sub_list_frozenset;have q7:(Value.type "list" == Value.type "dict")=false:=by decide
 unfold Builtin.«set.__init__» noKeywords Builtin.Frozenset.updateFrom;generalize hP:pyIter=p
 wp_walk
 subst hP;have li1:(s.heap.push (hW led)).IsList l items:=⟨_,q4,rfl,nl,rfl⟩;refine wpAny_pyIter_list li1 (AB (wpAny_runValue ?_));have hl:=AN q1
 have nSI:s.heap.objs.size≠(s.heap.push (hW led)).objs.size:=by
  rw[BU];exact Ag (B6 _)
 have nlI:l≠(s.heap.push (hW led)).objs.size:=by
  rw[BU];exact Ag (Cf hl)
 refine xT (knd:=knd) few nd (by simp[calm]) (by simpa using hu) nSI (A5 hl) nlI stop ks.length 0 _ [] (hW led) #[] 0 (.fresh 0 0 led) 3 (BF _) ⟨_,Aa _ rfl,rfl,rfl⟩ (li1.push _) ?_ (show 0 * 5 < 7 * 3 by decide) (by simp) ?_ fun h tk xs o es ep t k keep st el=>?_
 .exact ⟨AF _ oS,⟨rfl,rfl,rfl⟩,rfl,⟨rfl,rfl,show 0<=7 by decide⟩,rfl,rfl,fun x hx=>absurd hx BP,show 2<=7 by decide⟩
 .intro i hi
  obtain⟨b,k1,k2⟩:=key i hi;exact⟨b,k1,k2.kept fun b o its n q1 q2=>AF _ (AF _ q1)⟩
 .refine AE (AE (fin h tk xs o es ep t k (fun b o q=>?_) st el))
  have hb:=AN q;refine keep b o (Ag hb) ?_ (AF _ (AF _ q));rw[BU];exact Ag (Cf hb)
theorem iN {Q:Value->Shared->Prop}(calm:A.handled=none)(hu:A.units+4 < cLine)(few:ks.length<=9900)(nd:ks.Nodup)(li:s.heap.IsList l items)(stop:items[ks.length]?=none)
  (key:∀i (h:i < ks.length),∃b,items[i]?=some (.ref b)/\IsPathKey knd s.heap ks[i] b)
  (fin:∀(h:Heap) (tk:Nat) xs o es ep t k,(∀b o,s.heap.get? b=some o->h.get? b=some o)->PSet knd h s.heap.objs.size xs o es ep t k->xs.length=ks.length->Q (.ref s.heap.objs.size) { s with heap:=h,toks:=tk }) :
  wpAny (model prog w) A (call (.type "set") [.ref l]) Q E s:=by
 obtain⟨c,tl,e1⟩:=F.called_set.mro;obtain⟨e2,e3,e4,e5,e6⟩:_/\_/\_/\_/\_:=⟨F.called_set.made,F.called_set.sub,F.called_set.notType,F.called_set.canCreate,F.typeCall_set_1 (.ref l)⟩;refine wpAny_call (codeAny_of_tree (AE ⟨Code.quiet_builtin _ (by decide +kernel),BO F.entry_type_call ?_⟩));have u:A.under (.builtin "type.__call__" ⟨[.type "set",.ref l],[]⟩)=A.in1:=Around.under_plain (weight_type_call_type "set" [.ref l] []) rfl
 rw[u]
 repeat (any_goals (first | assumption | wp_step))
 refine CQ (code_set_new_1 (.ref l) (E:=E) (Q₁:=fun o s₁=>∃led:Bool,o=.ref s.heap.objs.size/\s₁={ s with heap:=s.heap.push (hW led) }) fun led=>⟨led,rfl,rfl⟩) fun r s₁ hr=>?_
 match r,hr with
 |.error e,h=>exact h
 |.ok (.ret o),h =>
  obtain⟨led,rfl,rfl⟩:=h;have ty:Shared.TypeIs { s with heap:=s.heap.push (hW led) } (.ref s.heap.objs.size) "set":=⟨_,Aa _ rfl,rfl⟩;obtain⟨e7,e8⟩:=And.intro F.called_set.init.lookup (F.called_set.init.bind (.ref s.heap.objs.size))
  repeat (any_goals (first | assumption | wp_step))
  refine codeAny_call_builtin F.called_set.init.plain F.entry_set_init (check_set_init_1 ty (jH led (by simp[calm]) ?_ few nd li stop key fun h tk xs o es ep t k keep st el=>?_))
  .show A.units+1+1+2 < cLine
   omega
  repeat (any_goals (first | assumption | wp_step))
  exact fin h tk xs o es ep t k keep st el
end
end PySem
namespace L2
open PySem PySem.Spec PyProof.Rows PySem.W
def sC (d:Addr)(n:Nat):Heap->Prop:=fun h=>∃o es ep t,h.get? d=some o/\o.ExactSet/\o.data=.set es ep t/\t.fits es.size=true/\es.size=n/\n<=9900
abbrev rSetP (K:DK):List V->Hp->VK->Prop:=fun xs H Q=>∃p ys ks,xs=[.ref p]/\SqL K H p ys/\Paired (fun(k:mQ) (v:V)=>∃b,v=.ref b/\PKey H k b) ks ys/\ks.Nodup/\ks.length<=9900/\∀d,H d=none->Q (.ref d) (upd H d (.ext (sC d ks.length)))
section
variable {X:Cx}
theorem kT {H:Hp}:∀{ks:List mQ}{ys:List V}{us:List Value},Paired (fun(k:mQ) (v:V)=>∃b,v=.ref b/\PKey H k b) ks ys->Vals ys us->∀i (h:i < ks.length),∃b,us[i]?=some (.ref b)/\PKey H ks[i] b
 |_,_,_,.nil,_,i,h=>absurd h (CK i)
 |_,_,_,.cons e t,r,i,h=>by
  cases r with
  |cons r1 r2 =>
   obtain⟨b,rfl,pk⟩:=e;cases r1
   cases i with
   |zero=>exact⟨b,rfl,pk⟩
   |succ i =>
    obtain⟨b',e1,e2⟩:=kT t r2 i (Be h);exact⟨b',by simpa using e1,e2⟩
theorem Zk (hc:X.calm=true)(hu:X.A.units+4 < cLine):CallR X (.type "set") (rSetP X.K):=by
 intro pins s σ H xs us Q I r h;obtain⟨p,ys,ks,rfl,hq,pr,nd,hl,q⟩:=h;obtain⟨u,rfl,rx⟩:=pG r;cases rx;obtain⟨its,rv,pl,hz⟩:=I.list hq;have hlen:its.length=ks.length:=by rw[<- rv.length,<- Paired.length pr]
 refine iN (knd:=qX X.prog X.w) (ks:=ks) (I.ok.hd hc) hu hl nd pl.isList (by simp[hlen]) (fun i hi=>?_) fun h' tk xs o es ep t k hk hS el=>?_
 .obtain ⟨b,e1,e2⟩:=kT pr rv i hi
  exact⟨b,by simpa using e1,kU I.hok e2⟩
 have fr:H s.heap.objs.size=none:=I.fresh;refine⟨.ref s.heap.objs.size,_,I.laid (t':=tk) (o:=.ext (sC s.heap.objs.size ks.length)) (fun b ob e=>hk b ob e) (AJ _) ?_,rfl,q _ fr⟩;have sz:es.size=ks.length:=by rw[<- Au,hS.ents,AA,el]
 refine⟨⟨o,es,ep,t,hS.at',hS.ex,hS.dat,cO hS.tok hS.size,sz,hl⟩,⟨o,hS.at'⟩,?_⟩;rintro h1' h2' ⟨o',es',ep',t',k1,k2⟩ e;exact⟨o',es',ep',t',e _ k1,k2⟩
abbrev rLenP:List V->Hp->VK->Prop:=fun xs H Q=>∃d n,xs=[.ref d]/\H d=some (.ext (sC d n))/\Q (.int (n:Nat)) H
theorem Zn:CallR X (.builtin "len") rLenP:=by
 intro pins s σ H xs us Q I r h;obtain⟨d,n,rfl,hd,q⟩:=h;obtain⟨u,rfl,rx⟩:=pG r;cases rx;obtain⟨⟨o,es,ep,t,h1,h2,h3,h4,rfl,h5⟩,_,_⟩:=(show ObjOk X.prog X.w H s.heap d (.ext (sC d n)) from I.hok d _ hd);exact call_len_set h1 h2 h3 h4 (by omega) ⟨.int _,H,I.tok _,⟨_,rfl⟩,q⟩
theorem op_pnin (hu:X.A.units+2 < cLine):OpR X (compareOp .NotIn) (fun y x H Q=>∃a o,x=.ref a/\Qi H a y o/\Q (.bl (!o.isSome)) H):=by
 intro pins s σ H y x v u Q I ry rx h;obtain⟨a,o,rfl,g,q⟩:=h;cases (show u=Value.ref a from rx);obtain⟨kvs,k,b,e,ey,eb,l⟩:=g;subst ey;cases (show v=Value.ref b from ry);obtain⟨z,hd,xs,rel,dd⟩:=gN I.hok e;refine wpAny_notIn_heap (oZ hu) (kU I.hok eb) hd dd ?_;have q2:=(rel.val k).isSome_eq;rw[Ce] at q2;rw[<- q2,<- l];exact⟨.bl (!o.isSome),H,I.tok _,rfl,q⟩
end
end L2
namespace CL
open PySem PySem.Spec L2 PySem.W
open PyProof.Rows hiding St
section
variable {X:Cx}{e:Expr}{pos:Pos}
def pathsOf:List PV->Option (List mQ)
 |[]=>some []
 |t::r=>match gL t,pathsOf r with
  |some k,some ks=>some (k::ks)
  |_,_=>none
theorem vT {K:DK}{H:Hp}{vs:List V}{ts:List PV}{ks:List mQ}(r:Reps K H vs ts)(e:pathsOf ts=some ks):Paired (fun(k:mQ) (v:V)=>∃b,v=.ref b/\PKey H k b) ks vs:=by
 induction ts generalizing vs ks with
 |nil=>cases r; cases e; exact .nil
 |cons t ts ih =>
  cases r with
  |cons h r =>
   unfold pathsOf at e
   split at e
   .next k ks e1 e2 =>
    cases e;exact .cons (cG h e1) (ih r e2)
   .cases e
@[irreducible] def rR:PV->CH->K1->Prop:=fun x C Q=>match x with
 |.ref a=>match C a with
  |some (.lst xs)=>∃ks,pathsOf xs=some ks/\ks.Nodup/\ks.length<=9900/\Q (.int ks.length) C
  |_=>False
 |_=>False
def cLenS (ce:TCE):TCE:=fun ρ C Q=>ce ρ C fun t C1=>rR t C1 Q
theorem ce_lenS {p p2 pos2:Pos}{ce:TCE}(hc:X.calm=true)(hu:X.A.units+4 < cLine)(hm:X.mg "len" = none)(hm2:X.mg "set" = none)(he:CE X e ce)(hg:Gl X "len":=by rfl)(hg2:Gl X "set":=by rfl)(hs:eQ e=true:=by rfl):
  CE X (.Call (.Name "len" p) [.Call (.Name "set" p2) [e] [] pos2] [] pos) (cLenS ce) :=
 ⟨JE.weak (uO Zn hg hm rfl (rC (xN (Zk hc hu) hg2 hm2 rfl (rC he.h kI hs) (hs:=hs)) kI)) fun σ H Q ⟨ρ,C,R,s,h,q,f⟩ =>
  ⟨ρ,C,_,s,h,q,fun x H1 px C1 q1 rx h1 f1=>by
   unfold rR at q1
   split at q1
   .next a =>
    split at q1
    .next xs e1 =>
     obtain⟨ks,g1,g2,g3,q1⟩:=q1;obtain⟨vs,ev,rv⟩:=h1 _ _ e1;cases rx;exact⟨a,vs,ks,rfl,SqL.of ev,vT rv g1,g2,g3,fun d hd=>⟨d,ks.length,rfl,dQ,f _ _ _ C1 q1 (.int _) (h1.new hd _) (f1.trans (Fw.new hd _))⟩⟩
    .exact q1.elim
   .exact q1.elim⟩⟩
@[irreducible] def Xh:R2C:=fun y x C Q=>match x with
 |.ref a=>match C a,gL y with
  |some (.dP kvs),some k=>Q (.bl (!(cJ kvs k).isSome)) C
  |_,_=>False
 |_=>False
theorem KU {K:DK}:Cop K (fun y x H Q=>∃a o,x=.ref a/\Qi H a y o/\Q (.bl (!o.isSome)) H) Xh:=fun y x py px H C Q R ry rx h q f=>by
 unfold Xh at q
 split at q
 .next a =>
  split at q
  .next kvs k e1 e2 =>
   cases rx;obtain⟨vs,ev,r⟩:=h a _ e1;obtain⟨b,rfl,eb⟩:=cG ry e2;refine⟨a,dW vs k,rfl,⟨vs,k,b,ev,rfl,eb,rfl⟩,?_⟩
   rcases FP.val r k with ⟨v,t',l1,l2,rv⟩ | ⟨l1,l2⟩
   .rw [l2] at q; rw[l1]; exact f _ H _ C q (.bl _) h Fw.refl
   .rw [l2] at q; rw[l1]; exact f _ H _ C q (.bl _) h Fw.refl
  .exact q.elim
 .exact q.elim
abbrev rInE (K:DK):R2:=fun x y H Q=>∃p a ys,x=.ref p/\y=.ref a/\H p=some (.tup [])/\H a=some (.lst ys)/\(∀v∈ys,∃b u us,v=.ref b/\H b=some (.tup (u::us)))/\Q (.bl false) H
theorem op_inE (hu:X.A.units+1 < cLine):OpR X (compareOp .In) (rInE X.K):=by
 intro pins s σ H x y v u Q I rx ry h;obtain⟨p,a,ys,rfl,rfl,hp,ha,hy,q⟩:=h;cases rx;cases ry;obtain⟨its,w1,p1,_⟩:=I.list (SqL.of ha);obtain⟨it0,w0,p0,_⟩:=I.tuple (SqT.of hp);cases w0
 have al:∀{ys:List V} {its:List Value},Vals ys its->(∀v∈ys,∃b u us,v=.ref b/\H b=some (.tup (u::us)))->∀w∈its,SeqAt.EqAt X.A.in1 s w (.ref p) false:=by
  intro ys its w1
  induction w1 with
  |nil=>intro _ w hw; cases hw
  |cons r1 _ ih =>
   intro hy w hw
   rcases Ah.1 hw with rfl | hw
   .obtain ⟨b,u,us,rfl,hb⟩:=hy _ AD
    cases r1;obtain⟨it2,w2,p2,_⟩:=I.tuple (SqT.of hb)
    cases w2 with
    |cons z1 z2 =>
     have hne:b≠p:=by
      intro z;rw[z,hp] at hb;cases hb
     have R:=SeqAt.RcAt.tuples (A:=X.A.in1) (e:=fun _=>false) p2 p0 hu (fun j h1 h2=>absurd h2 (by simp))
     simp at R
     exact SeqAt.EqAt.of_refs hne R
   .exact ih (fun v hv=>hy v (AG _ hv)) w hw
 refine SeqAt.in_listAt (fun _=>false) p1.isList (fun w hw=>al w1 hy w (by simpa using hw)) ⟨.bl _,H,I,rfl,?_⟩;rw[show its.toArray.any (fun _=>false)=false by rw[Array.any_eq_false]; intro i h; exact AL];exact q
@[irreducible] def cInE:R2C:=fun x y C Q=>match x,y with
 |.tup [],.ref a=>match C a with
  |some (.lst xs)=>(∀t∈xs,∃u us,t=.tup (u::us))/\Q (.bl false) C
  |_=>False
 |_,_=>False
theorem cop_inE {K:DK}:Cop K (rInE K) cInE:=fun x y px py H C Q R rx ry h q f=>by
 unfold cInE at q
 split at q
 .split at q
  .next xs e1 =>
   obtain⟨vs,ev,rv⟩:=h _ _ e1;cases ry
   cases rx with
   |@tup p _ _ ep rp =>
    cases rp
    have al:∀{vs:List V} {xs:List PV},Reps K H vs xs->(∀t∈xs,∃u us,t=.tup (u::us))->∀v∈vs,∃b u us,v=.ref b/\H b=some (.tup (u::us)):=by
     intro vs xs r
     induction xs generalizing vs with
     |nil=>cases r; intro _ v hv; cases hv
     |cons t ts ih =>
      intro ht v hv
      cases r with
      |cons h1 r =>
       rcases Ah.1 hv with rfl | hv
       .obtain ⟨u,us,rfl⟩:=ht _ AD
        cases h1 with
        |tup e2 r2=>cases r2 with | cons _ _=>exact⟨_,_,_,rfl,e2⟩
       .exact ih r (fun t ht'=>ht t (AG _ ht')) v hv
    exact⟨p,_,vs,rfl,rfl,ep,ev,al rv q.1,f _ H _ C q.2 (.bl _) h Fw.refl⟩
  .exact q.elim
 .exact q.elim
abbrev rNeU (K:DK)(d:Nat):R2:=fun x y H Q=>∃a b vs ws ts,x=.ref a/\y=.ref b/\H a=some (.tup vs)/\H b=some (.tup ws)/\Reps K H vs ts/\Reps K H ws ts/\(∀t∈ts,Pl d t)/\Q (.bl false) H
theorem op_neU {d:Nat}(hu:X.A.units+1+d < cLine):OpR X (compareOp .NotEq) (rNeU X.K d):=by
 intro pins s σ H x y v u Q I rx ry h;obtain⟨a,b,vs,ws,ts,rfl,rfl,ha,hb,r1,r2,hp,q⟩:=h;cases rx;cases ry;obtain⟨its,w1,p1,_⟩:=I.tuple (SqT.of ha);obtain⟨its2,w2,p2,_⟩:=I.tuple (SqT.of hb);obtain⟨hl,he⟩:=xB (A:=X.A.in1) (d:=d) (fun t m=>QZ I (hp t m)) (show X.A.units+1+d < cLine from hu) r1 r2 w1 w2;have R:=SeqAt.RcNeAt.tuples (A:=X.A) (e:=fun _=>true) p1 p2 (by omega) he;rw[show(!((List.range (min its.toArray.size its2.toArray.size)).all (fun _=>true)&&its.toArray.size==its2.toArray.size))=false by simp[hl]] at R
 exact R _ _ _ _ ⟨.bl false,H,I,rfl,q⟩
@[irreducible] def cNeU (d:Nat):R2C:=fun x y C Q=>match x,y with
 |.tup xs,.tup ys=>xs=ys/\(∀t∈xs,Pl d t)/\Q (.bl false) C
 |_,_=>False
theorem cop_neU {K:DK}{d:Nat}:Cop K (rNeU K d) (cNeU d):=fun x y px py H C Q R rx ry h q f=>by
 unfold cNeU at q
 split at q
 .obtain ⟨rfl,hp,q⟩:=q
  cases rx with
  |tup e1 r1=>cases ry with
   |tup e2 r2=>exact⟨_,_,_,_,_,rfl,rfl,e1,e2,r1,r2,hp,f _ H _ C q (.bl _) h Fw.refl⟩
 .exact q.elim
end
end CL
namespace PySem
open Sem (wp)
section
variable {prog:Program}{w:World}{K:Type}[DecidableEq K]{knd:HeapKind prog w K}{A:Around}{E:Value->Shared->Prop}{s:Shared}
theorem oF (d:Addr)(hd:(d==sysModules)=false):
  MeetsIn prog w (Builtin.«dict.__len__» ⟨[.ref d],[]⟩) (fun _ R s=>∃xs,s.heap.DictOfH knd d xs/\R (.ok (.ret (.int xs.length s.toks))) { s with toks:=s.toks+1 }) :=
 .of_wp fun A R s ⟨xs,hm,h⟩=>by
  obtain⟨o,es,ep,ho,hc,hdat,hk,_,_⟩:=hm;show wpAny _ _ (dictSize d >>= _) _ _ s;unfold dictSize;refine AB (AB (wpAny_dictEntries ho hdat (AE ?_)));show wpAny _ _ (Builtin.Dict.pendingCount d >>= _) _ _ s;refine AB (wpAny_pendingCount_other hd ?_);refine wpAny_ret_mkInt ?_;have:es.size=xs.length:=size_of_entries hk;rw[Nat.add_zero,this]; exact h
theorem mP {d:Addr}{xs:List (K×Addr×Value)}{Q:Value->Shared->Prop}(hd:(d==sysModules)=false)(hm:s.heap.DictOfH knd d xs)(hfit:(xs.length:Int) < 2 ^ 63)
  (h:Q (.int xs.length (s.toks+1)) { s with toks:=s.toks+1+1 }):wpAny (model prog w) A (call (.builtin "len") [.ref d]) Q E s:=by
 refine Bu kind_len plain_len entry_len (args_len1 _) ?_;unfold Builtin.«len»;refine AB (m:=oneArg "len" _) (AE ?_)
 refine AB (m:=callSpecial? (.ref d) (Str.ofString "__len__")) (wpAny_callSpecial?_slot (name:=Str.ofString "__len__") hm.typeIs F.slot_dict_len
  (call_meetsIn F.slot_dict_len hm.typeIs F.entry_dict_len (F.args_dict_len_1 _) (oF (knd:=knd) d hd) ⟨xs,hm,?_⟩))
 show wpAny _ _ _ _ _ { s with toks:=s.toks+1 };refine AB (Aw (AE ?_));refine AB (wpAny_letGo ?_);show wpAny _ _ (if ((xs.length:Nat):Int) < 0 then _ else _) _ _ _;rw[AT (by omega)];show wpAny _ _ (if ((xs.length:Nat):Int) >= 2 ^ 63 then _ else _) _ _ _;rw[AT (by omega)];exact AB (wpAny_mkInt (AE ⟨_,rfl,h⟩))
end
end PySem
namespace L2
open PySem PySem.Spec PyProof.Rows PySem.W
section
variable {X:Cx}
theorem jt_drop {e:Expr}{t:TT}(k:Nat)(h:JT (X.at_ k) e t):JT X e (fun σ H Q=>Vs k σ/\t σ H Q) :=
 ⟨fun pins s σ H Q I q=>thn (h.h pins s σ H Q (Kj q.1 I) q.2) fun v s1 ⟨H1,I1,q1⟩=>⟨H1,vN q.1 I1,q1⟩⟩
abbrev rLenQ:List V->Hp->VK->Prop:=fun xs H Q=>∃a kvs,xs=[V.ref a]/\H a=some (.dP kvs)/\Q (.int kvs.length) H
theorem Zm:CallR X (.builtin "len") rLenQ:=by
 intro pins s σ H xs us Q I r h;obtain⟨a,kvs,rfl,ha,q⟩:=h;obtain⟨u,rfl,ru⟩:=pG r;cases ru;obtain⟨z,hd,xs,rel,dd⟩:=gN I.hok ha;refine mP hd dd (by rw[<- Paired.length rel]; rw[BK] at z; omega) ?_;rw[<- Paired.length rel];exact⟨.int kvs.length,H,I.tok _,⟨_,rfl⟩,q⟩
end
end L2
namespace CL
open PySem PySem.Spec L2 PySem.W
open PyProof.Rows hiding St
@[irreducible] def Xi:GC:=fun ts C Q=>match ts with
 |[.ref a]=>match C a with
  |some (.dP kvs)=>Q (.int kvs.length) C
  |_=>False
 |_=>False
theorem Ve {K:DK}:Cbi K rLenQ Xi:=fun xs ps H C Q R rs h q f=>by
 unfold Xi at q
 split at q
 .obtain ⟨v,rfl,r⟩:=zZ rs
  split at q
  .next kvs e =>
   obtain⟨vs,ev,rv⟩:=h _ _ e;cases r;exact⟨_,_,rfl,ev,f _ H _ C (by rw[Paired.length rv]; exact q) (.int _) h Fw.refl⟩
  .exact q.elim
 .exact q.elim
theorem hu4_of {A:Around}{k:Nat}(hr:Room k A):A.units+4 < cLine:=by have:=hr.un; omega
theorem lenQ_s {a:Addr}{kvs:List (mQ×PV)}{C:CH}{Q:K1}(e:C a=some (.dP kvs))(q:Q (.int kvs.length) C):Xi [.ref a] C Q:=by
 unfold Xi;dsimp only;rw[e];exact q
theorem lenS_s {a:Addr}{xs:List PV}{ks:List mQ}{C:CH}{Q:K1}(e:C a=some (.lst xs))(p:pathsOf xs=some ks)(nd:ks.Nodup)(le:ks.length<=9900)(q:Q (.int ks.length) C):rR (.ref a) C Q:=by
 unfold rR;dsimp only;rw[e];exact⟨ks,p,nd,le,q⟩
theorem pnin_s {a:Addr}{kvs:List (mQ×PV)}{y:PV}{k:mQ}{C:CH}{Q:K1}(e:C a=some (.dP kvs))(p:gL y=some k)(q:Q (.bl (!(cJ kvs k).isSome)) C):Xh y (.ref a) C Q:=by
 unfold Xh;dsimp only;rw[e,p];exact q
theorem inE_s {a:Addr}{xs:List PV}{C:CH}{Q:K1}(e:C a=some (.lst xs))(h:∀t∈xs,∃u us,t=.tup (u::us))(q:Q (.bl false) C):cInE (.tup []) (.ref a) C Q:=by
 unfold cInE;dsimp only;rw[e];exact⟨h,q⟩
theorem neU_s {d:Nat}{xs:List PV}{C:CH}{Q:K1}(h:∀t∈xs,Pl d t)(q:Q (.bl false) C):cNeU d (.tup xs) (.tup xs) C Q:=by
 unfold cNeU;exact⟨rfl,h,q⟩
theorem KO {X:Cx}{i:Nat}{w x y:Str}{py p1 p2 p pos spos:Pos}{k:Nat}{elt iter:Expr}{ifs:List Expr}{scope:Scope}{wi:TI}{ci:CSt->CH->(List PV->CH->Prop)->Prop}{t:TCT}{c:TCE}
  (hNd:X.N.Nodup) (hi:X.N[i]?=some w) (hy:Loc X.env.scope w) (hc:X.calm=true) (hN:(x::y::X.N).Nodup) (K:∃cl,mK X [x,y] scope cl) (hI:CI X (.Tuple [.Name x p1,.Name y p2] k p) iter wi ci)
  (ht:∀cl fp C s₂ H₂,CF (cxN X [x,y] scope cl fp C s₂ H₂) ifs t) (he:∀cl fp C s₂ H₂,CE (cxN X [x,y] scope cl fp C s₂ H₂) elt c)
  (hs:∀v,foldedSetIterable iter X.env v=pure v:=by intro _; rfl)
  (hsw:swapsWith (.ListComp elt [⟨.Tuple [.Name x p1,.Name y p2] k p,iter,ifs,0⟩] scope pos) (some (.Name w py)) spos.line X.env=pure true:=by rfl)
  (hf:X.fn w=true\/X.env.scope.names.lookup w=some .local:=by first | exact .inl rfl | exact .inr rfl | assumption) :
  CS X (.Assign [.Name w py] (.ListComp elt [⟨.Tuple [.Name x p1,.Name y p2] k p,iter,ifs,0⟩] scope pos) spos) (Qc i (oR 2 ci t c)):=by
 obtain⟨cl,K⟩:=K;refine⟨JS.weak (J5 (te:=sZ X.K (Rep X.K) c) (tc:=sZ X.K sB t) (xs:=[x,y]) hNd hi hy hc K (fun _ _ _ _=>pg2 hc hN K) gok2 hI.j (fun fp C s₂ H₂=>(ht cl fp C s₂ H₂).h) (fun fp C s₂ H₂=>(he cl fp C s₂ H₂).h) hs hsw hf) fun D σ H ⟨ρ,C,E,s,h,q,f⟩=>?_⟩;exact tL (Q:=fun x H'=>D.nx (σ.set i (some x)) H') hI ⟨ρ,C,_,s,h,q,fun x H1 px C1 q1 rx h1 f1=>f.nx _ H1 _ C1 q1 ((s.imm (f1.imm h)).set rx i) h1 f1⟩
theorem cs_ifAt {X:Cx}{e:Expr}{pos:Pos}(k:Nat){x y:List Stmt}{t:TCT}{u v:TCS}(hc:CT (X.at_ k) e t)(ha:CB X x u)(hb:CB X y v):CS X (.If e x y pos) (fun E ρ C=>cIfS t u v E (ρ.set k none) C):=⟨JS.weak (js_fg k (js_if (jt_drop k hc.h) ha.h hb.h)) fun D σ H ⟨ρ,C,E,s,h,q,f⟩ =>
 ⟨tT k σ,ρ.set k none,C,_,s.unset k,h,q,fun x H1 y C1 q1 e h1 f1=>by
  cases e
  cases x with
  |true=>exact⟨ρ.set k none,C1,E,(s.unset k).imm (f1.imm h),h1,q1,f.fw f1⟩
  |false=>exact⟨ρ.set k none,C1,E,(s.unset k).imm (f1.imm h),h1,q1,f.fw f1⟩⟩⟩
end CL
namespace K32
open PySem L2
abbrev U0:List Str:=["_law_tape_here","_law_kit","_law_turns","_law_deep"]
abbrev U1:List Str:=["_law_tape_here","_law_kit","_law_turns"]
abbrev U2:List Str:=["_law_house_here","_law_values_here","_law_due"]
abbrev U3:List Str:=["_law_row","_law_spots","_law_downs"]
abbrev U4:List Str:=["_law_path","_law_row","_law_base"]
abbrev U5:List Str:=["_law_tape_here","_law_kit","_law_deep"]
abbrev U6:List Str:=["_law_tape_here","_law_part_here"]
abbrev U7:List Str:=["_law_row","_law_spots"]
abbrev U8:List Str:=["_law_tape_here","_law_many"]
abbrev U9:List Str:=["_law_tape_here","_law_names_here","_law_k","_law_keyed"]
abbrev U10:List Str:=["_law_house_here","_law_values_here"]
abbrev U11:List Str:=["rows","path","spots","label","row"]
abbrev U12:List Str:=["_law_tape_here","_law_kit","_law_turns","_law_most"]
abbrev U13:List Str:=["_law_tape_here","_law_kit","_law_turns","_law_name"]
abbrev U14:List Str:=["_law_tape_here","_law_kit","_law_turns","_law_way"]
abbrev U15:List Str:=["_law_label","_law_box","_law_row","_law_labels"]
abbrev U16:List Str:=["_law_house_here","_law_name"]
abbrev U17:List Str:=["_law_tape_here"]
abbrev U18:List Str:=["_law_row","_law_labels"]
abbrev U19:List Str:=["_law_tape_here","_law_house_here"]
def top (i:Nat):Stmt:=PySem.Challenge.pw_viewwood_k32_labels_and_hands.main.body.getD i (.Pass ⟨0,0,0,0⟩)
noncomputable def tab:List CL.Row:=[
 ⟨none,"tree_of","tree_of",(top 1),["drawing"],["drawing","rows","entry"]⟩,
 ⟨none,"boxes_in","boxes_in",(top 2),U11,["rows","path","spots","label","row","told","want","here","under"]⟩,
 ⟨none,"box_of","box_of",(top 3),["rows","path","spots","want"],["rows","path","spots","want","hands"]⟩,
 ⟨none,"cut","cut",(top 6),["number"],["number"]⟩,
 ⟨none,"number_of","number_of",(top 9),["reckoning","answers","turns","asked"],["reckoning","answers","turns","asked","word","question","first","taken","second"]⟩,
 ⟨none,"joined","joined",(top 10),["word","first","second"],["word","first","second"]⟩,
 ⟨none,"drawn","drawn",(top 14),["part","answers"],["part","answers","drawer","row","works"]⟩,
 ⟨none,"_law_tape","_law_tape",(top 16),["_law_script"],["_law_script"]⟩,
 ⟨none,"_law_draw","_law_draw",(top 17),U8,["_law_tape_here","_law_many","_law_script","_law_digit","_law_cell","_law_mixed"]⟩,
 ⟨none,"_law_names","_law_names",(top 18),U8,["_law_tape_here","_law_many","_law_pool","_law_start","_law_stride"]⟩,
 ⟨none,"_law_number","_law_number",(top 19),U17,U17⟩,
 ⟨none,"_law_leaf","_law_leaf",(top 20),U1,U14⟩,
 ⟨none,"_law_sum","_law_sum",(top 21),U0,["_law_tape_here","_law_kit","_law_turns","_law_deep","_law_way","_law_word","_law_many"]⟩,
 ⟨none,"_law_key","_law_key",(top 22),U1,U14⟩,
 ⟨none,"_law_pairs","_law_pairs",(top 23),U12,["_law_tape_here","_law_kit","_law_turns","_law_most","_law_names_here"]⟩,
 ⟨none,"_law_hands","_law_hands",(top 24),U1,["_law_tape_here","_law_kit","_law_turns","_law_hands_here","_law_event","_law_changes","_law_k","_law_box","_law_word"]⟩,
 ⟨none,"_law_plain","_law_plain",(top 25),U0,["_law_tape_here","_law_kit","_law_turns","_law_deep","_law_key_here","_law_tag","_law_sets","_law_hands_here","_law_lines_here"]⟩,
 ⟨none,"_law_part_line","_law_part_line",(top 26),U13,["_law_tape_here","_law_kit","_law_turns","_law_name","_law_key_here","_law_names_here"]⟩,
 ⟨none,"_law_each","_law_each",(top 27),U5,["_law_tape_here","_law_kit","_law_deep","_law_name","_law_number_here","_law_lines_here","_law_k"]⟩,
 ⟨none,"_law_line","_law_line",(top 28),U0,["_law_tape_here","_law_kit","_law_turns","_law_deep","_law_way","_law_name","_law_key_here","_law_number_here","_law_lines_here"]⟩,
 ⟨none,"_law_lines","_law_lines",(top 29),U0,["_law_tape_here","_law_kit","_law_turns","_law_deep","_law_lines_here","_law_k"]⟩,
 ⟨none,"_law_part","_law_part",(top 30),U9,["_law_tape_here","_law_names_here","_law_k","_law_keyed","_law_many","_law_boxes_here","_law_kit","_law_first","_law_lines_here","_law_work_names","_law_works"]⟩,
 ⟨none,"_law_house","_law_house",(top 31),U17,["_law_tape_here","_law_names_here","_law_keyed"]⟩,
 ⟨none,"_law_over","_law_over",(top 32),["_law_downs","_law_more"],["_law_downs","_law_more","_law_found","_law_name","_law_number_here"]⟩,
 ⟨none,"_law_parts","_law_parts",(top 33),U3,["_law_row","_law_spots","_law_downs","_law_found","_law_want","_law_here"]⟩,
 ⟨none,"_law_named","_law_named",(top 34),U16,U16⟩,
 ⟨none,"_law_answers","_law_answers",(top 35),U2,["_law_house_here","_law_values_here","_law_due","_law_path","_law_name","_law_gives","_law_downs","_law_boxes_here","_law_answers_here","_law_sort","_law_pairs_here","_law_one","_law_number_here"]⟩,
 ⟨none,"_law_within","_law_within",(top 36),U2,["_law_house_here","_law_values_here","_law_due","_law_piece","_law_found","_law_spots","_law_name","_law_gives","_law_downs"]⟩,
 ⟨none,"_law_fresh","_law_fresh",(top 37),U10,U10⟩,
 ⟨none,"_law_boxes","_law_boxes",(top 38),U6,U6⟩,
 ⟨none,"_law_values","_law_values",(top 39),U19,["_law_tape_here","_law_house_here","_law_values_here","_law_path","_law_name","_law_gives","_law_downs","_law_piece","_law_way","_law_part_here"]⟩,
 ⟨none,"_law_plains","_law_plains",(top 40),U4,["_law_path","_law_row","_law_base","_law_found","_law_want","_law_here"]⟩,
 ⟨none,"_law_addressed","_law_addressed",(top 41),U7,["_law_row","_law_spots","_law_found","_law_label","_law_box","_law_here","_law_paths"]⟩,
 ⟨none,"_law_unlike","_law_unlike",(top 42),["_law_row"],U18⟩,
 ⟨none,"law","law",(top 43),["_law_script"],["_law_script","_law_tape_here","_law_house_here","_law_drawing","_law_tree","_law_due","_law_entry","_law_spots","_law_path","_law_tag","_law_rows","_law_paths"]⟩,
 ⟨some "Drawer","__init__","Drawer.__init__",(yV (top 13) 0),["self","answers"],["self","answers"]⟩,
 ⟨some "Drawer","number","Drawer.number",(yV (top 13) 1),["self","reckoning","turns"],["self","reckoning","turns"]⟩,
 ⟨some "Drawer","numbered","Drawer.numbered",(yV (top 13) 2),["self","pairs","turns"],["self","pairs","turns"]⟩,
 ⟨some "Drawer","row","Drawer.row",(yV (top 13) 3),["self","lines","turns"],["self","lines","turns","row"]⟩,
 ⟨some "Drawer","bring","Drawer.bring",(yV (top 13) 4),["self","lines","turns","row","counts"],["self","lines","turns","row","counts","line","taken"]⟩,
 ⟨some "Drawer","bring_each","Drawer.bring_each",(yV (top 13) 5),["self","line","turns","row","counts"],["self","line","turns","row","counts","count","turn","inner"]⟩,
 ⟨some "Drawer","want","Drawer.want",(yV (top 13) 6),["self","line","turns","counts"],["self","line","turns","counts","spot","pairs","hands"]⟩,
 ⟨some "Drawer","spot","Drawer.spot",(yV (top 13) 7),["self","key","turns","counts"],["self","key","turns","counts","told","nth"]⟩,
 ⟨some "Drawer","hand","Drawer.hand",(yV (top 13) 8),["self","hand","turns"],["self","hand","turns","changes"]⟩]
set_option genInjectivity false in
structure Adr where
 f:Nat->Addr
 d:Nat->FuncData
 t_BOUND:Tok
 ASKING:Addr
 oN:Tok
 Drawer:Addr
structure Txt (P:Program)(w:World)(K:DK)(mg:Str->Option Value)(a:Adr):Prop where
 F:∀(i:Nat) {k:Option Str} {nm q:Str} {st:Stmt} {ps N:List Str},tab[i]?=some ⟨k,nm,q,st,ps,N⟩->CL.FI K mg k nm q st ps N (a.f i) (a.d i)
 Kx:mg "BOUND" = some (.int 1000000000 a.t_BOUND)
 gASKING:mg "ASKING" = some (.ref a.ASKING)
 qASKING:∀H:Hp,SqT K H a.ASKING [.str "take",.str "box",.str "down"]
 dO:mg "MOST_TURNS" = some (.int 8 a.oN)
 z_abs:mg "abs" = none
 z_all:mg "all" = none
 ZA:mg "dict" = none
 Qm:mg "int" = none
 vJ:mg "len" = none
 z_max:mg "max" = none
 z_min:mg "min" = none
 fY:mg "range" = none
 z_set:mg "set" = none
 tD:mg "sorted" = none
 aX:mg "tuple" = none
 lX:mg "Drawer" = some (.ref a.Drawer)
 zX:Cls K a.Drawer
 XV:Mk K a.Drawer (a.f 35)
 gY:NoAttr K a.Drawer "answers"
 xW:NoAttr K a.Drawer "asked"
theorem tab_ok:CL.AllR CL.RB tab:=by
 unfold tab
 repeat refine⟨⟨⟨rfl,rfl,rfl,by decide +kernel,rfl,by decide +kernel,by decide +kernel⟩,fun _ _ _ _ _ _=>by first | (refine CL.args1 ?_; exact fun _=>rfl) | (refine CL.args2 ?_; exact fun _ _=>rfl) | (refine CL.args3 ?_; exact fun _ _ _=>rfl) | (refine CL.args4 ?_; exact fun _ _ _ _=>rfl) | (refine CL.args5 ?_; exact fun _ _ _ _ _=>rfl)⟩,?_⟩
 exact trivial
theorem txt_mk {P:Program}{w:World}{K:DK}{h:Heap}{mg:Str->Option Value}(X:K.In h)(G:h.Ns mainGlobals mg){ga1 cc0:Addr}{t0 t1_0 t1_1 t1_2 t2:Tok}{gn1:Nat}
  (hf:CL.AllR (CL.FH K) tab)
  (gl0:PySem.W.nsIn K mainGlobals "BOUND" = some (some (.int 1000000000 t0)))
  (gl1:PySem.W.nsIn K mainGlobals "ASKING" = some (some (.ref ga1)))
  (ql1:K.lookup ga1=some { cls:=.type "tuple",data:=.seq #[.str "take" t1_0,.str "box" t1_1,.str "down" t1_2] gn1 })
  (gl2:PySem.W.nsIn K mainGlobals "MOST_TURNS" = some (some (.int 8 t2)))
  (z0:PySem.W.nsIn K mainGlobals "abs" = some none)
  (z1:PySem.W.nsIn K mainGlobals "all" = some none)
  (z2:PySem.W.nsIn K mainGlobals "dict" = some none)
  (z3:PySem.W.nsIn K mainGlobals "int" = some none)
  (z4:PySem.W.nsIn K mainGlobals "len" = some none)
  (z5:PySem.W.nsIn K mainGlobals "max" = some none)
  (z6:PySem.W.nsIn K mainGlobals "min" = some none)
  (z7:PySem.W.nsIn K mainGlobals "range" = some none)
  (z8:PySem.W.nsIn K mainGlobals "set" = some none)
  (z9:PySem.W.nsIn K mainGlobals "sorted" = some none)
  (z10:PySem.W.nsIn K mainGlobals "tuple" = some none)
  (ca0:PySem.W.nsIn K mainGlobals "Drawer" = some (some (.ref cc0)))
  (cb0:PySem.W.plainGet K cc0 Str.empty=true)
  (cd_0:PySem.W.hasDictIn K cc0=true)
  (ce0:PySem.W.plainOver K cc0=true)
  (cf0:PySem.W.findIn K (.ref cc0) "__setattr__" = some (some (.builtin "object.__setattr__")))
  (cg0:PySem.W.makesIn K cc0=true)
  (ch0:PySem.W.keepIn K (.ref cc0)=true)
  (n0_answers:PySem.W.findIn K (.ref cc0) "answers" = some none)
  (n0_asked:PySem.W.findIn K (.ref cc0) "asked" = some none)
  : ∃a:Adr,Txt P w K mg a:=by
 obtain⟨f,d,F⟩:=CL.fi_all X G hf tab_ok
 exact⟨⟨f,d,t0,ga1,t2,cc0⟩,F,
  Bi X G gl0,
  Bi X G gl1,
  fun _=>.inr ⟨_,_,_,ql1,rfl,rfl,zz 3 rfl,(.cons ⟨_,rfl⟩ (.cons ⟨_,rfl⟩ (.cons ⟨_,rfl⟩ .nil)))⟩,
  Bi X G gl2,
  A1 X G z0,
  A1 X G z1,
  A1 X G z2,
  A1 X G z3,
  A1 X G z4,
  A1 X G z5,
  A1 X G z6,
  A1 X G z7,
  A1 X G z8,
  A1 X G z9,
  A1 X G z10,
  Bi X G ca0,
  ⟨cb0,cd_0,ce0,cf0⟩,
  ⟨cg0,((F 35 rfl).M _ _ rfl (Bi X G ca0)).1,((F 35 rfl).M _ _ rfl (Bi X G ca0)).2,ch0⟩,
  n0_answers,
  n0_asked⟩
end K32
namespace K32
open PySem L2 CL
section
variable {P:Program}{w:World}{K:DK}{mg:Str->Option Value}{base:Heap}{a:Adr}
structure Tp (C:CH)(t:Addr)(ns:List Int):Prop where
 at_:∃a b c:Int,C t=some (.lst [.fz (ns.map PV.int),.int a,.int b,.int c])/\0<=a/\0<=b/\0<=c
 len:ns.length<=63
def Ex (t:Addr)(C C':CH):Prop:=∀b o,b≠t->C b=some o->C' b=some o
theorem Ex.refl {t:Addr}{C:CH}:Ex t C C:=fun _ _ _ h=>h
theorem Ex.trans {t:Addr}{C C1 C2:CH}(h:Ex t C C1)(h':Ex t C1 C2):Ex t C C2:=fun b o n e=>h' b o n (h b o n e)
theorem Ex.new {t p:Addr}{C:CH}(hp:C p=none)(o:CO):Ex t C (uQ C p o):=fun b u _ e=>by
 rw[wQ (fun z=>by subst z; rw[hp] at e; cases e)]; exact e
def gTape:GC:=fun ts C Q=>∃ns:List Int,ts=[.fz (ns.map PV.int)]/\ns.length<=63/\∀t C',C t=none->Ex t C C'->Tp C' t ns->Q (.ref t) C'
theorem ok_tape (T:Txt P w K mg a):FnOk P w K mg base CX0 1 (a.f 7) (a.d 7) ["_law_script"] (spC K gTape):=by
 have S:=(T.F 7 rfl).s;refine(T.F 7 rfl).ok (fun ts C R h=>?_) fun cdv A outer s H E hr=>⟨_,(kQ (cQ (nX (qQ (cv 0) (qQ zQ (qQ zQ (ca1 zQ))))))),?_⟩
 .obtain ⟨ns,rfl,_⟩:=h; rfl
 rintro ts C R ⟨ns,rfl,hl,q⟩;show 4<=sizeLine/\∀p,C p=none->R (.ref p) (uQ C p (.lst [.fz (ns.map PV.int),.int 0,.int 0,.int 0]));exact⟨by decide,fun p hp=>q p _ hp (Ex.new hp _) ⟨⟨0,0,0,jQ,by decide,by decide,by decide⟩,hl⟩⟩
end
section
variable {P:Program}{w:World}{K:DK}{mg:Str->Option Value}{base:Heap}{a:Adr}
theorem Ex.tape {t:Addr}{C:CH}(o:CO):Ex t C (uQ C t o):=fun b u n e=>by rw[wQ n]; exact e
theorem Vn {ns:List Int}{k:Int}(h0:0<=k)(h1:k < ((ns.map PV.int).length:Int)):∃v,atI (ns.map PV.int) k=some (.int v):=by
 unfold atI ixN;rw[AW h0,AW h1];rw[AA] at h1;show ∃v,(ns.map PV.int)[k.toNat]?=some (.int v);rw[Aj,AM (by omega)];exact⟨_,rfl⟩
def gDraw:GC:=fun ts C Q=>∃(t:Addr) (m:Int) (ns:List Int),ts=[.ref t,.int m]/\Tp C t ns/\0 < m/\m < 4611686018427387904/\∀(v:Int) (C':CH),0<=v->v < m->Tp C' t ns->Ex t C C'->Q (.int v) C'
theorem pZ (T:Txt P w K mg a):FnOk P w K mg base CX0 1 (a.f 8) (a.d 8) U8 (spC K gDraw):=by
 have S:=(T.F 8 rfl).s
 refine(T.F 8 rfl).ok (fun ts C R h=>?_) fun cdv A outer s H E hr=>⟨_,(xQ (cs1 2 S.nd (cx (cv 0) zQ))
  (xQ (kP (iQ yX gX (cx (cv 0) zQ) zQ) (uD (cv 0) zQ))
  (xQ (uX (cw_pt (cw_and (ct2 cX kX (cx (cv 0) zQ) zQ) (cw_and1 (ct2 iB tY (cx (cv 0) zQ) (cln T.vJ (cv 2)))))) (xQ (kP (iQ gT aO (fJ Vh cbi_abs rfl T.z_abs rfl (ca1 (cx (cv 2) (cx (cv 0) zQ)))) (iQ wA kR zQ zQ)) (uD (cv 0) zQ))
  (kQ (kP (iQ yX gX (cx (cv 0) zQ) zQ) (uD (cv 0) zQ)))) aQ)
  (xQ (uX (ct2 zK lZ (cx (cv 0) zQ) zQ) (xQ (cs1 3 S.nd (iQ nG fW (cx (cv 0) zQ) (cv 1)))
  (xQ (kP (iQ gT aO (cx (cv 0) zQ) (cv 1)) (uD (cv 0) zQ))
  (kQ (cQ (cv 3))))) aQ)
  (xQ (cs1 4 S.nd zQ)
  (xQ (uX (ct2 zK lZ (cln T.vJ (cv 2)) zQ) (kQ (cs1 4 S.nd (cx (cv 2) (iQ nG fW (cx (cv 0) zQ) (cln T.vJ (cv 2)))))) aQ)
  (xQ (cs1 5 S.nd (iQ nG fW (iQ yX gX (iQ yX gX (iQ sM bU (iQ nG fW (cv 4) zQ) zQ) (iQ sM bU (cx (cv 0) zQ) zQ)) zQ) zQ))
  (xQ (cs1 5 S.nd (iQ nG fW (iQ sM bU (cv 5) (iQ yX gX (cv 5) zQ)) zQ))
  (kQ (cQ (iQ nG fW (iQ nG fW (iQ sM bU (cv 5) zQ) zQ) (cv 1)))))))))))),?_⟩
 .obtain ⟨t,m,ns,rfl,_⟩:=h; rfl
 rintro ts C R ⟨t,m,ns,rfl,⟨⟨x,y,z,h,hx,hy,hz⟩,hl⟩,m0,m1,q⟩;refine mJ h rfl ?_;refine mJ h rfl ?_;refine uY ?_;refine setL h rfl ?_;dsimp only;have h1:(uQ C t (.lst [.fz (ns.map PV.int),.int (x+1),.int y,.int z])) t=_:=jQ;have e1:Ex t C (uQ C t (.lst [.fz (ns.map PV.int),.int (x+1),.int y,.int z])):=Ex.tape _;refine vX (fun ρ' C'=>ρ'=[some (.ref t),some (.int m),some (.fz (ns.map PV.int)),none,none,none]/\∃y z:Int,C' t=some (.lst [.fz (ns.map PV.int),.int (x+1),.int y,.int z])/\0<=y/\0<=z/\Ex t C C') (fun L hL=>?_) ?_
 .refine mJ h1 rfl ?_
  refine mX (oX _ _) ?_;refine uZ (fun hb=>?_) fun hb=>?_
  .refine mJ h1 rfl ?_
   refine JZ ?_;refine i_i ?_;refine uZ (fun hb2=>?_) fun hb2=>?_
   .obtain ⟨c,ea⟩:=Vn hz (AX hb2)
    refine mJ h1 rfl ?_;refine ix_f ea ?_;refine⟨⟨by decide,by decide,by decide⟩,⟨by decide,by decide⟩,?_⟩;refine setL h1 rfl ?_;refine mJ jQ rfl ?_;refine uY ?_;refine setL jQ rfl ?_;refine hL _ _ ⟨rfl,_,_,jQ,?_,by omega,(e1.trans (Ex.tape _)).trans (Ex.tape _)⟩;refine Int.ediv_nonneg ?_ (by decide)
    split<;>omega
   .refine bX ?_
    exact hL _ _ ⟨rfl,y,z,h1,hy,hz,e1⟩
  .refine jM rfl ?_
   refine bX ?_;exact hL _ _ ⟨rfl,y,z,h1,hy,hz,e1⟩
 clear h1 e1;rintro ρ' C1 ⟨rfl,y',z',h1,hy',hz',e1⟩
 try dsimp only
 refine dX ?_;refine mJ h1 rfl ?_;refine i_i ?_;refine uZ (fun hb=>?_) fun hb=>?_
 .refine mJ h1 rfl ?_
  refine⟨m0,?_⟩;refine mJ h1 rfl ?_;refine⟨⟨m0,by omega⟩,?_⟩;refine setL h1 rfl ?_;exact q _ _ (Bh _ (by omega)) (BS _ m0) ⟨⟨_,_,_,jQ,by omega,Int.ediv_nonneg hy' (by omega),hz'⟩,hl⟩ (e1.trans (Ex.tape _))
 .refine bX ?_
  try dsimp only
  refine yQ (c_i ?_)
  try dsimp only
  refine vX (fun ρ' C'=>C'=C1/\∃v:Int,ρ'=[some (.ref t),some (.int m),some (.fz (ns.map PV.int)),none,some (.int v),none]) (fun L hL=>?_) ?_
  .refine JZ ?_
   refine i_i ?_;refine uZ (fun hb2=>?_) fun hb2=>?_
   .have hn:(0:Int) < ((ns.map PV.int).length:Int):=AX hb2
    obtain⟨c,ea⟩:=Vn (Bh (x+1) (b:=((ns.map PV.int).length:Int)) (by omega)) (BS (x+1) hn);refine mJ h1 rfl ?_;refine JZ ?_;refine⟨hn,?_⟩;refine ix_f ea ?_;exact hL _ _ ⟨rfl,_,rfl⟩
   .refine bX ?_
    exact hL _ _ ⟨rfl,0,rfl⟩
  .rintro ρ' C2 ⟨rfl,v,rfl⟩
   try dsimp only
   refine yQ ?_;refine⟨(by show(0:Int) < _; decide),?_⟩;refine⟨.inr ⟨by decide,by decide⟩,?_⟩;refine mJ h1 rfl ?_;refine⟨.inr ⟨by decide,by decide⟩,?_⟩;refine uY ?_;refine uY ?_;refine⟨(by show(0:Int) < _; decide),?_⟩;have b0:=Bh (v % 2147483647 * 48271+(x+1) * 7919+12345) (b:=2147483629) (by decide);have b1:=BS (v % 2147483647 * 48271+(x+1) * 7919+12345) (b:=2147483629) (by decide)
   try dsimp only
   refine yQ ?_;refine uY ?_;refine⟨.inl ⟨by omega,by omega⟩,?_⟩;refine⟨(by show(0:Int) < _; decide),?_⟩
   try dsimp only
   refine⟨.inr ⟨by decide,by decide⟩,?_⟩;refine⟨(by show(0:Int) < _; decide),?_⟩;refine⟨m0,?_⟩;exact q _ _ (Bh _ (by omega)) (BS _ m0) ⟨⟨_,_,_,h1,by omega,hy',hz'⟩,hl⟩ e1
end
section
variable {P:Program}{w:World}{K:DK}{mg:Str->Option Value}{base:Heap}{a:Adr}
theorem Tp.ne {C:CH}{t p:Addr}{ns:List Int}(h:Tp C t ns)(hp:C p=none):p≠t:=fun e=>by
 obtain⟨⟨x,y,z,h,_⟩,_⟩:=h;rw[<- e,hp] at h;cases h
theorem Tp.new {C:CH}{t p:Addr}{ns:List Int}(h:Tp C t ns)(hp:C p=none)(o:CO):Tp (uQ C p o) t ns:=by
 have n:=h.ne hp;obtain⟨⟨x,y,z,h,q⟩,l⟩:=h;exact⟨⟨x,y,z,(wQ (Ne.symm n)).trans h,q⟩,l⟩
noncomputable def POOL:List Str:=["a","ab","abc","b","ba","box","end","give","part","plain","turn","abcdefgh"]
theorem gK {α:Type}{f:α->PV}{ss:List α}{k:Int}(d:α)(h0:0<=k)(h1:k < (ss.length:Int)):atI (ss.map f) k=some (f (ss.getD k.toNat d)):=by
 unfold atI ixN;rw[AW h0,AW (by rw[AA]; exact h1)];show(ss.map f)[k.toNat]?=_;rw[Aj,Ao,AM (by omega)]
 rfl
def pA (v c:Int)(i:Nat):Str:=POOL.getD ((v+c * (i:Int)) % 12).toNat ""
def jK (v c:Int)(m:Nat):List Str:=(List.range m).map (pA v c)
theorem Zs:∀v∈List.range 12,∀c∈[1,5,7,11],(jK (v:Nat) (c:Nat) 12).Nodup:=by decide +kernel
theorem aT {v c:Int}{m:Nat}(v0:0<=v)(v1:v < 12)(hc:c=1\/c=5\/c=7\/c=11)(hm:m<=12):(jK v c m).Nodup:=by
 have h12:(jK v c 12).Nodup:=by
  have:=Zs v.toNat (Az.2 (by omega));have ev:((v.toNat:Nat):Int)=v:=Int.toNat_of_nonneg v0
  rcases hc with rfl | rfl | rfl | rfl
  .have:=this 1 (by decide); rw[ev] at this; exact this
  .have:=this 5 (by decide); rw[ev] at this; exact this
  .have:=this 7 (by decide); rw[ev] at this; exact this
  .have:=this 11 (by decide); rw[ev] at this; exact this
 have e:jK v c m=(jK v c 12).take m:=by
  unfold jK;rw[<- List.map_take,List.take_range];rw[Nat.min_eq_left hm]
 rw[e];exact h12.sublist (Cg _ _)
theorem K0 {c:TCE}{ρ:CSt}{Q:K1}(f:Nat->PV)(I:CH->Prop)(m:Nat)(h:∀(k:Nat) C (Q':K1),k < m->I C->(∀C',I C'->Q' (f k) C')->c (some (.int (k:Int))::ρ) C Q')
  (q:∀p C',I C'->C' p=none->Q (.ref p) (uQ C' p (.lst ((List.range m).map f)))):∀(n:Nat) (C:CH),n<=m->m<=1000->I C->yZ vF c ρ Q ((List.range m).drop n |>.map fun k=>PV.int (k:Nat)) ((List.range n).map f) C:=by
 suffices ∀j n C,n+j=m->m<=1000->I C->yZ vF c ρ Q ((List.range m).drop n |>.map fun k=>PV.int (k:Nat)) ((List.range n).map f) C by
  intro n C hn hm hI;exact this (m - n) n C (by omega) hm hI
 intro j
 induction j with
 |zero =>
  intro n C hn hm hI;have e:n=m:=by omega
  subst e;rw[B2 (by rw[Ak]; exact AJ _)];exact iO fun p hp=>q p C hI hp
 |succ j ih =>
  intro n C hn hm hI;rw[Aq (by rw[Ak]; omega),Ac,List.getElem_range];refine fN ?_;show c (some (.int (n:Int))::ρ) C fun y C2=>((List.range n).map f).length < sizeLine/\yZ vF c ρ Q _ ((List.range n).map f++[y]) C2;refine h n C _ (by omega) hI fun C' hI'=>⟨?_,?_⟩
  .rw [AA,Ak]
   exact AR (show n < 1001 by omega) (by decide)
  .have e:(List.range n).map f++[f n]=(List.range (n+1)).map f:=by rw[List.range_succ,AQ]; rfl
   rw[e];exact ih (n+1) C' (by omega) hm hI'
theorem XT (v c:Int)(n:Nat):∀s∈jK v c n,s.length<=8:=by
 intro s hs;unfold jK at hs;obtain⟨i,_,rfl⟩:=Ab.1 hs;unfold pA
 have all:∀k:Nat,(POOL.getD k "").length<=8:=by
  intro k;have small:∀k < 12,(POOL.getD k "").length<=8:=by decide +kernel
  rcases Cs k 12 with h | h
  .exact small k h
  .rw [Ao,List.getElem?_eq_none (by exact h)]
   decide
 exact all _
def Ku:GC:=fun ts C Q=>∃(t:Addr) (m:Int) (ns:List Int),ts=[.ref t,.int m]/\Tp C t ns/\0<=m/\m<=12/\∀(p:Addr) (ss:List Str) (C':CH),C' p=some (.lst (ss.map PV.str))->C p=none->p≠t->ss.length=m.toNat->(ss.Nodup/\∀s∈ss,s.length<=8)->Tp C' t ns->Ex t C C'->Q (.ref p) C'
theorem sG (T:Txt P w K mg a):FnOk P w K mg base CX0 2 (a.f 9) (a.d 9) U8 (spC K Ku):=by
 have S:=(T.F 9 rfl).s;have gQ:=pZ (base:=base) T
 refine(T.F 9 rfl).ok (fun ts C R h=>?_) fun cdv A outer s H E hr=>⟨_,(xQ (cs1 2 S.nd (nX (qQ vQ (qQ vQ (qQ vQ (qQ vQ (qQ vQ (qQ vQ (qQ vQ (qQ vQ (qQ vQ (qQ vQ (qQ vQ (ca1 vQ))))))))))))))
  (xQ (cs1 3 S.nd (cf (T.F 8 rfl) gQ hr (qQ (cv 0) (ca1 zQ))))
  (xQ (cs1 4 S.nd (cx (nX (qQ zQ (qQ zQ (qQ zQ (ca1 zQ))))) (cf (T.F 8 rfl) gQ hr (qQ (cv 0) (ca1 zQ)))))
  (kQ (cQ (qG rfl (S.c (by decide +kernel)) (S.k rfl rfl rfl (by decide +kernel)) (oI rfl T.fY (ca1 (cv 1))) (fun _ _ _ _ _=>bJ) (fun _ _ _ _ _=>(cx (cv 3) (iQ nG fW (iQ yX gX (cv 4) (iQ sM bU (cv 5) (cv 0))) zQ))))))))),?_⟩
 .obtain ⟨t,m,ns,rfl,_⟩:=h; rfl
 rintro ts C R ⟨t,m,ns,rfl,hT,m0,m1,q⟩;refine⟨by decide,fun p hp=>?_⟩;dsimp only;refine⟨t,12,ns,rfl,hT.new hp _,by decide,by decide,fun v C1 v0 v1 T1 e1=>?_⟩;dsimp only;refine⟨by decide,fun p2 hp2=>⟨t,4,ns,rfl,T1.new hp2 _,by decide,by decide,fun k C2 k0 k1 T2 e2=>?_⟩⟩;have m1':C1 p=_:=e1 p _ (hT.ne hp) jQ;have e12:Ex t C1 C2:=(Ex.new hp2 _).trans e2;have m2:C2 p2=_:=e2 p2 _ (T1.ne hp2) jQ
 have ec:=gK (f:=PV.int) (ss:=[1,5,7,11]) 0 k0 k1
 have hc:[1,5,7,11].getD k.toNat (0:Int)=1\/[1,5,7,11].getD k.toNat (0:Int)=5\/[1,5,7,11].getD k.toNat (0:Int)=7\/[1,5,7,11].getD k.toNat (0:Int)=11:=by
  have:k=0\/k=1\/k=2\/k=3:=by omega
  rcases this with rfl | rfl | rfl | rfl
  .exact .inl rfl
  .exact .inr (.inl rfl)
  .exact .inr (.inr (.inl rfl))
  .exact .inr (.inr (.inr rfl))
 revert ec hc;generalize [1,5,7,11].getD k.toNat (0:Int)=c;intro ec hc;refine mJ m2 ec ?_;dsimp only;refine⟨by omega,by omega,?_⟩;have m3:C2 p=_:=e12 p _ (hT.ne hp) m1';have e02:Ex t C C2:=((Ex.new hp _).trans e1).trans e12;have hb:c<=11/\1<=c:=by rcases hc with rfl | rfl | rfl | rfl<;>omega
 refine K0 (fun i=>.str (pA v c i)) (fun C'=>C'=C2) m.toNat (fun i C3 Q' hi e hq=>?_) (fun p3 C3 e hp3=>?_) 0 C2 (AV _) (by omega) rfl
 .subst e
  refine⟨.inr ⟨by omega,by omega⟩,?_⟩;refine uY ?_;refine⟨(by show(0:Int) < _; decide),?_⟩;have r0:=Bh (v+c * (i:Int)) (b:=12) (by decide);have r1:=BS (v+c * (i:Int)) (b:=12) (by decide);refine mJ m3 (gK (f:=PV.str) (ss:=POOL) "" r0 r1) ?_;exact hq _ rfl
 .subst e
  have hp0:C p3=none:=by
   cases z:C p3 with
   |none=>rfl
   |some o =>
    have n1:p3≠t:=T2.ne hp3;rw[e02 p3 o n1 z] at hp3;cases hp3
  refine q p3 (jK v c m.toNat) _ ?_ hp0 (T2.ne hp3) ?_ ⟨aT v0 v1 hc (by omega),XT v c m.toNat⟩ (T2.new hp3 _) (e02.trans (Ex.new hp3 _))
  .rw [jQ]
   unfold jK;rw[Bf]
   rfl
  .unfold jK
   rw[AA,Ak]
def QU:GC:=fun ts C Q=>∃(t:Addr) (ns:List Int),ts=[.ref t]/\Tp C t ns/\∀(i:Int) (C':CH),-1000000000<=i->i<=1000000000->Tp C' t ns->Ex t C C'->Q (.int i) C'
theorem at_ints {ns:List Int}{k:Int}{lo hi:Int}(hb:∀x∈ns,lo<=x/\x<=hi)(h0:0<=k)(h1:k < ((ns.map PV.int).length:Int)):∃v,atI (ns.map PV.int) k=some (.int v)/\lo<=v/\v<=hi:=by
 unfold atI ixN;rw[AW h0,AW h1];rw[AA] at h1;show ∃v,(ns.map PV.int)[k.toNat]?=some (.int v)/\lo<=v/\v<=hi;rw[Aj,AM (by omega)];exact⟨_,rfl,hb _ (BI _)⟩
theorem wU (T:Txt P w K mg a):FnOk P w K mg base CX0 2 (a.f 10) (a.d 10) U17 (spC K QU):=by
 have S:=(T.F 10 rfl).s;have gQ:=pZ (base:=base) T
 refine(T.F 10 rfl).ok (fun ts C R h=>?_) fun cdv A outer s H E hr=>⟨_,(xQ (uX (ct2 zK lZ (cf (T.F 8 rfl) gQ hr (qQ (cv 0) (ca1 zQ))) zQ) (kQ (cQ (iQ qV pJ (cf (T.F 8 rfl) gQ hr (qQ (cv 0) (ca1 zQ))) zQ))) aQ)
  (kQ (cQ (cx (nX (qQ (iQ wA kR zQ zQ) (qQ (xE jL vM (iQ wA kR zQ zQ)) (qQ zQ (ca1 (xE jL vM zQ)))))) (cf (T.F 8 rfl) gQ hr (qQ (cv 0) (ca1 zQ))))))),?_⟩
 .obtain ⟨t,ns,rfl,_⟩:=h; rfl
 rintro ts C R ⟨t,ns,rfl,hT,q⟩;refine⟨t,8,ns,rfl,hT,by decide,by decide,fun v C1 v0 v1 T1 e1=>?_⟩;refine i_i ?_;refine uZ (fun hb=>?_) fun hb=>?_
 .refine ⟨t,9,ns,rfl,T1,by decide,by decide,fun v C2 v0 v1 T2 e2=>?_⟩
  refine i_i ?_;exact q (v - 3) C2 (by omega) (by omega) T2 (e1.trans e2)
 .refine bX ?_
  try dsimp only
  refine⟨⟨by decide,by decide,by decide⟩,?_⟩;refine⟨⟨by decide,by decide,by decide⟩,?_⟩;refine⟨by decide,fun p2 hp2=>?_⟩;refine⟨t,4,ns,rfl,T1.new hp2 _,by decide,by decide,fun k C2 k0 k1 T2 e2=>?_⟩;have m2:C2 p2=_:=e2 p2 _ (T1.ne hp2) jQ;obtain⟨c,ec,c0,c1⟩:=at_ints (ns:=[10 ^ 9,-10 ^ 9,999983,-70001]) (lo:=-1000000000) (hi:=1000000000) (by decide) k0 k1;refine mJ m2 ec ?_;exact q c C2 c0 c1 T2 ((e1.trans (Ex.new hp2 _)).trans e2)
end
inductive Rk where
 |num (i:Int) | turn (n:Str) | ask (s n:Str) | bin (w:Str) (x y:Rk) | pick (x y z:Rk)
noncomputable def Rk.pv:Rk->PV
 |.num i=>.tup [.str "num",.int i]
 |.turn n=>.tup [.str "turn",.str n]
 |.ask s n=>.tup [.str s,.str n]
 |.bin w x y=>.tup [.str w,x.pv,y.pv]
 |.pick x y z=>.tup [.str "pick",x.pv,y.pv,z.pv]
def mE (bs:List Str)(s n:Str):Prop:=((s = "take"\/s = "down")/\n∈(["a","ab","b"]:List Str))\/(s = "box"/\n∈bs)
noncomputable def Rk.ok (bs τ:List Str):Nat->Rk->Prop
 |_,.num i=>-1000000000<=i/\i<=1000000000
 |_,.turn n=>n∈τ
 |_,.ask s n=>mE bs s n
 |0,.bin _ _ _=>False
 |0,.pick _ _ _=>False
 |d+1,.bin w x y=>(w = "add"\/w = "times"\/w = "less")/\x.ok bs τ d/\y.ok bs τ d
 |d+1,.pick x y z=>x.ok bs τ d/\y.ok bs τ d/\z.ok bs τ d
theorem Rk.ok.up {bs τ:List Str}:∀{d:Nat}{r:Rk},r.ok bs τ d->r.ok bs τ (d+1)
 |d,.num i,h=>by unfold Rk.ok at h ⊢; exact h
 |d,.turn n,h=>by unfold Rk.ok at h ⊢; exact h
 |d,.ask s n,h=>by unfold Rk.ok at h ⊢; exact h
 |0,.bin _ _ _,h=>by unfold Rk.ok at h; exact h.elim
 |0,.pick _ _ _,h=>by unfold Rk.ok at h; exact h.elim
 |d+1,.bin w x y,h=>by
  unfold Rk.ok at h ⊢;exact⟨h.1,h.2.1.up,h.2.2.up⟩
 |d+1,.pick x y z,h=>by
  unfold Rk.ok at h ⊢;exact⟨h.1.up,h.2.1.up,h.2.2.up⟩
theorem Rk.ok.mono {bs τ:List Str}{d e:Nat}{r:Rk}(h:r.ok bs τ d)(l:d<=e):r.ok bs τ e:=by
 induction l with
 |refl=>exact h
 |step _ ih=>exact ih.up
structure Kt where
 b:Addr
 r:Addr
 bs:List Str
 rs:List Str
 l:Int
 p:Int
 e:Int
 la:Option Str
def bG:Option Str->PV
 |none=>.non
 |some s=>.str s
noncomputable def sX (b r:Addr)(l p e:Int)(la:PV):List (Key×PV):=[(.inr "boxes",.ref b),(.inr "rest",.ref r),(.inr "left",.int l),(.inr "parts",.int p),(.inr "eaches",.int e),(.inr "last",la)]
structure KAt (C:CH)(t k:Addr)(κ:Kt):Prop where
 at_:C k=some (.dK (sX κ.b κ.r κ.l κ.p κ.e (bG κ.la)))
 bx:C κ.b=some (.lst (κ.bs.map PV.str))
 rx:C κ.r=some (.lst (κ.rs.map PV.str))
 nk:k≠t
 nb:κ.b≠t
 nr:κ.r≠t
 lb:κ.bs.length<=4
 lr:κ.rs.length<=6
theorem KAt.ex {C C':CH}{t k:Addr}{κ:Kt}(h:KAt C t k κ)(e:Ex t C C'):KAt C' t k κ :=
 ⟨e _ _ h.nk h.at_,e _ _ h.nb h.bx,e _ _ h.nr h.rx,h.nk,h.nb,h.nr,h.lb,h.lr⟩
section
variable {b r:Addr}{l p e:Int}{la:PV}
theorem bV:fZ (sX b r l p e la) (.inr "boxes")=some (.ref b):=rfl
theorem iD:fZ (sX b r l p e la) (.inr "rest")=some (.ref r):=rfl
theorem fB:fZ (sX b r l p e la) (.inr "left")=some (.int l):=rfl
theorem pH:fZ (sX b r l p e la) (.inr "parts")=some (.int p):=rfl
theorem qL:fZ (sX b r l p e la) (.inr "eaches")=some (.int e):=rfl
theorem vS:fZ (sX b r l p e la) (.inr "last")=some la:=rfl
theorem qT {l':Int}:gZ (sX b r l p e la) (.inr "left") (.int l')=sX b r l' p e la:=rfl
theorem XA {l':Int}:gZ (sX b r l p e la) (.inr "parts") (.int l')=sX b r l l' e la:=rfl
theorem uL {l':Int}:gZ (sX b r l p e la) (.inr "eaches") (.int l')=sX b r l p l' la:=rfl
end
theorem kY {ss:List Str}{i:Int}(h0:0<=i)(h1:i < (ss.length:Int)):ss.getD i.toNat "" ∈ ss:=by
 rw[Ao,AM (by omega)];exact BI _
section
variable {P:Program}{w:World}{K:DK}{mg:Str->Option Value}{base:Heap}{a:Adr}
def gLeaf:GC:=fun ts C Q=>∃(t k:Addr) (τ:List Str) (ns:List Int) (κ:Kt),ts=[.ref t,.ref k,.tup (τ.map PV.str)]/\Tp C t ns/\KAt C t k κ/\τ.length<=4/\∀(r:Rk) (C':CH),r.ok κ.bs τ 0->Tp C' t ns->Ex t C C'->Q r.pv C'
theorem uC (T:Txt P w K mg a):FnOk P w K mg base CX0 3 (a.f 11) (a.d 11) U1 (spC K gLeaf):=by
 have S:=(T.F 11 rfl).s;have gQ:=(pZ (base:=base) T).mono (show 1<=2 by decide);have lJ:=wU (base:=base) T
 refine(T.F 11 rfl).ok (fun ts C R h=>?_) fun cdv A outer s H E hr=>⟨_,(xQ (cs1 3 S.nd (cf (T.F 8 rfl) gQ hr (qQ (cv 0) (ca1 zQ))))
  (xQ (uX (ct2 cX kX (cv 3) zQ) (kQ (cQ (bQ (qQ vQ (ca1 (cx (nX (qQ vQ (qQ vQ (ca1 vQ)))) (cf (T.F 8 rfl) gQ hr (qQ (cv 0) (ca1 zQ))))))))) aQ)
  (xQ (uX (ct2 cX kX (cv 3) zQ) (kQ (cQ (bQ (qQ vQ (ca1 (cx (nX (qQ vQ (qQ vQ (ca1 vQ)))) (cf (T.F 8 rfl) gQ hr (qQ (cv 0) (ca1 zQ))))))))) aQ)
  (xQ (uX (cw_pt (cw_and (ct2 iB tY (cv 3) zQ) (cw_and1 (ct2 zK lZ (cln T.vJ (wZ (rX hr) (cv 1) vQ (fun _ _=>rfl))) zQ)))) (kQ (cQ (bQ (qQ vQ (ca1 (cx (wZ (rX hr) (cv 1) vQ (fun _ _=>rfl)) (cf (T.F 8 rfl) gQ hr (qQ (cv 0) (ca1 (cln T.vJ (wZ (rX hr) (cv 1) vQ (fun _ _=>rfl)))))))))))) aQ)
  (xQ (uX (cw_pt (cw_and (ct2 cX kX (cv 3) zQ) (cw_and1 (ct2 zK lZ (cln T.vJ (cv 2)) zQ)))) (kQ (cQ (bQ (qQ vQ (ca1 (cx (cv 2) (cf (T.F 8 rfl) gQ hr (qQ (cv 0) (ca1 (cln T.vJ (cv 2))))))))))) aQ)
  (kQ (cQ (bQ (qQ vQ (ca1 (cf (T.F 10 rfl) lJ hr (ca1 (cv 0))))))))))))),?_⟩
 .obtain ⟨t,k,τ,ns,κ,rfl,_⟩:=h; rfl
 rintro ts C R ⟨t,k,τ,ns,κ,rfl,hT,hk,hτ,q⟩;refine⟨t,6,ns,rfl,hT,by decide,by decide,fun v C1 v0 v1 T1 e1=>?_⟩
 try dsimp only
 have hk1:=hk.ex e1
 have tail:∀C2,Tp C2 t ns->Ex t C C2->QU [.ref t] C2 fun x C3=>2<=sizeLine/\R (.tup [.str "num",x]) C3:=by
  intro C2 T2 e2;refine⟨t,ns,rfl,T2,fun i C3 i0 i1 T3 e3=>⟨by decide,?_⟩⟩;exact q (.num i) C3 ⟨i0,i1⟩ T3 (e2.trans e3)
 refine dX ?_;refine mX (oX _ _) ?_;refine uZ (fun hb=>?_) fun hb=>?_
 .refine ⟨by decide,fun p hp=>?_⟩
  refine⟨t,3,ns,rfl,T1.new hp _,by decide,by decide,fun i C2 i0 i1 T2 e2=>?_⟩;refine mJ (e2 p _ (T1.ne hp) jQ) (gK (f:=PV.str) (ss:=["a","ab","b"]) "" i0 i1) ?_;refine⟨zz 2 rfl,?_⟩;exact q (.ask "take" _) C2 (.inl ⟨.inl rfl,kY (ss:=["a","ab","b"]) i0 i1⟩) T2 ((e1.trans (Ex.new hp _)).trans e2)
 refine bX ?_
 try dsimp only
 refine dX ?_;refine mX (oX _ _) ?_;refine uZ (fun hb=>?_) fun hb=>?_
 .refine ⟨by decide,fun p hp=>?_⟩
  refine⟨t,3,ns,rfl,T1.new hp _,by decide,by decide,fun i C2 i0 i1 T2 e2=>?_⟩;refine mJ (e2 p _ (T1.ne hp) jQ) (gK (f:=PV.str) (ss:=["a","ab","b"]) "" i0 i1) ?_;refine⟨zz 2 rfl,?_⟩;exact q (.ask "down" _) C2 (.inl ⟨.inr rfl,kY (ss:=["a","ab","b"]) i0 i1⟩) T2 ((e1.trans (Ex.new hp _)).trans e2)
 refine bX ?_
 try dsimp only
 refine vX (fun ρ' C'=>C'=C1/\ρ'=[some (.ref t),some (.ref k),some (.tup (τ.map PV.str)),some (.int v)]) (fun L hL=>?_) ?_
 .refine i_i ?_
  refine uZ (fun hb=>?_) fun hb=>?_
  .refine oJ hk1.at_ rfl bV ?_
   refine wG hk1.bx ?_;refine i_i ?_;refine uZ (fun hb2=>?_) fun hb2=>?_
   .refine oJ hk1.at_ rfl bV ?_
    refine oJ hk1.at_ rfl bV ?_;refine wG hk1.bx ?_;have hl:=hk1.lb;rw[AA] at hb2 ⊢;have hb3:=AX hb2;refine⟨t,_,ns,rfl,T1,hb3,by omega,fun i C2 i0 i1 T2 e2=>?_⟩;refine mJ ((hk1.ex e2).bx) (gK (f:=PV.str) "" i0 i1) ?_;refine⟨zz 2 rfl,?_⟩;exact q (.ask "box" _) C2 (.inr ⟨rfl,kY i0 i1⟩) T2 (e1.trans e2)
   .refine bX ?_
    exact hL _ _ ⟨rfl,rfl⟩
  .refine jM rfl ?_
   refine bX ?_;exact hL _ _ ⟨rfl,rfl⟩
 rintro ρ' C' ⟨rfl,rfl⟩
 try dsimp only
 refine vX (fun ρ' C''=>C''=C'/\ρ'=[some (.ref t),some (.ref k),some (.tup (τ.map PV.str)),some (.int v)]) (fun L hL=>?_) ?_
 .refine mX (oX _ _) ?_
  refine uZ (fun hb=>?_) fun hb=>?_
  .refine vO ?_
   refine i_i ?_;refine uZ (fun hb2=>?_) fun hb2=>?_
   .refine vO ?_
    rw[AA] at hb2 ⊢;have hb3:=AX hb2;refine⟨t,_,ns,rfl,T1,hb3,by omega,fun i C2 i0 i1 T2 e2=>?_⟩;refine hX (gK (f:=PV.str) "" i0 i1) ?_;refine⟨zz 2 rfl,?_⟩;exact q (.turn _) C2 (kY i0 i1) T2 (e1.trans e2)
   .refine bX ?_
    exact hL _ _ ⟨rfl,rfl⟩
  .refine jM rfl ?_
   refine bX ?_;exact hL _ _ ⟨rfl,rfl⟩
 rintro ρ' C'' ⟨rfl,rfl⟩
 try dsimp only
 exact tail _ T1 e1
end
theorem QS {b:Bool}{C:CH}{Q:K1}(q:Q (.int (if b then 1 else 0)) C):cInt [.bl b] C Q:=by
 unfold cInt;exact q
def rngP (m:Nat):List PV:=(List.range m).map fun k=>PV.int (k:Nat)
theorem Z0 (m:Nat):(rngP m).length=m:=by unfold rngP; rw[AA,Ak]
section
variable {P:Program}{w:World}{K:DK}{mg:Str->Option Value}{base:Heap}{a:Adr}
def gI (d:Nat):GC:=fun ts C Q=>∃(t k:Addr) (τ:List Str) (ns:List Int) (κ:Kt),ts=[.ref t,.ref k,.tup (τ.map PV.str),.int (d:Nat)]/\Tp C t ns/\KAt C t k κ/\τ.length<=4/\∀(r:Rk) (C':CH),r.ok κ.bs τ d->Tp C' t ns->Ex t C C'->Q r.pv C'
theorem lL (T:Txt P w K mg a)(d:Nat):FnOk P w K mg base CX0 (d+4) (a.f 12) (a.d 12) U0 (spC K (gI d)):=by
 have main:∀n,(∀d',n=d'+1->FnOk P w K mg base CX0 (d'+4) (a.f 12) (a.d 12) U0 (spC K (gI d')))->FnOk P w K mg base CX0 (n+4) (a.f 12) (a.d 12) U0 (spC K (gI n)):=by
  intro n ih;have S:=(T.F 12 rfl).s;have gQ:=(pZ (base:=base) T).mono (show 1<=n+3 by omega);have qU:=(uC (base:=base) T).mono (show 3<=n+3 by omega)
  have dJ:FnOk P w K mg base CX0 (n+3) (a.f 12) (a.d 12) U0 (spC K (fun ts C Q=>∃d',n=d'+1/\gI d' ts C Q)):=by
   cases n with
   |zero=>exact⟨fun vs H Q E ⟨ts,C,R,_,_,⟨d',e,_⟩,_⟩=>by omega,fun _ _ _ _ _ _ _ _ _ _ _ _ _ ⟨ts,C,R,_,_,⟨d',e,_⟩,_⟩=>by omega⟩
   |succ d' =>
    have:=ih d' rfl
    have e:(fun ts C Q=>∃d'',d'+1=d''+1/\gI d'' ts C Q)=gI d':=by
     funext ts C Q
     refine propext ⟨fun⟨d'',e,h⟩=>?_,fun h=>⟨d',rfl,h⟩⟩;cases At e;exact h
    rw[e];exact this
  refine(T.F 12 rfl).ok (fun ts C R h=>?_) fun cdv A outer s H E hr=>⟨_,(xQ (cs1 4 S.nd (cf (T.F 8 rfl) gQ hr (qQ (cv 0) (ca1 zQ))))
  (xQ (uX (cw_pt (cw_or (ct2 cX kX (cv 3) zQ) (cw_or1 (ct2 iB tY (cv 4) zQ)))) (kQ (cQ (cf (T.F 11 rfl) qU hr (qQ (cv 0) (qQ (cv 1) (ca1 (cv 2))))))) aQ)
  (xQ (cs1 5 S.nd (cx (nX (qQ vQ (qQ vQ (qQ vQ (ca1 vQ))))) (iQ qV pJ (cv 4) zQ)))
  (xQ (cs1 6 S.nd (cx (nX (qQ zQ (ca1 zQ))) (lK mU mD rfl T.Qm rfl (ca1 (kF cX kX (cv 5) vQ (aU _))))))
  (kQ (cQ (iQ yX gX (bQ (ca1 (cv 5))) (ctp T.aX (qG rfl (S.c (by decide +kernel)) (S.k rfl rfl rfl (by decide +kernel)) (oI rfl T.fY (ca1 (cv 6))) (fun _ _ _ _ _=>bJ) (fun _ _ _ _ _=>(cf (T.F 12 rfl) dJ hr (qQ (cv 1) (qQ (cv 2) (qQ (cv 3) (ca1 (iQ qV pJ (cv 4) zQ)))))))))))))))),?_⟩
  .obtain ⟨t,k,τ,ns,κ,rfl,_⟩:=h; rfl
  rintro ts C R ⟨t,k,τ,ns,κ,rfl,hT,hk,hτ,q⟩;refine⟨t,8,ns,rfl,hT,by decide,by decide,fun v C1 v0 v1 T1 e1=>?_⟩
  try dsimp only
  have hk1:=hk.ex e1
  have leaf:∀E':K1,E'=R->gLeaf [.ref t,.ref k,.tup (τ.map PV.str)] C1 E':=by
   rintro E' rfl;exact⟨t,k,τ,ns,κ,rfl,T1,hk1,hτ,fun r C2 hr T2 e2=>q r C2 (hr.mono (AV _)) T2 (e1.trans e2)⟩
  refine vX (fun ρ' C'=>C'=C1/\0 < n/\4<=v/\ρ'=[some (.ref t),some (.ref k),some (.tup (τ.map PV.str)),some (.int (n:Nat)),some (.int v),none,none]) (fun L hL=>?_) ?_
  .refine mX (oX _ _) ?_
   refine uZ (fun hb=>?_) fun hb=>?_
   .refine if_y rfl ?_
    exact leaf _ rfl
   .refine i_i ?_
    refine uZ (fun hb2=>?_) fun hb2=>?_
    .exact leaf _ rfl
    .refine bX ?_
     have:=CV hb;have:=CV hb2;exact hL _ _ ⟨rfl,by omega,by omega,rfl⟩
  rintro ρ' C' ⟨rfl,hn,hv,rfl⟩
  try dsimp only
  obtain⟨d',rfl⟩:∃d',n=d'+1:=⟨n - 1,by omega⟩
  have fin:∀(wd:Str) (m:Nat) (C2:CH),(m=2/\(wd = "add"\/wd = "times"\/wd = "less"))\/(m=3/\wd = "pick")->Tp C2 t ns->Ex t C C2 ->
    ∀(c:TCE) (ρ:CSt) (Q:K1),(∀x C3 (L:K1),Tp C3 t ns->Ex t C C3->(∀r C4,Rk.ok κ.bs τ d' r->Tp C4 t ns->Ex t C C4->L r.pv C4)->c (some x::ρ) C3 L)->(∀(p:Addr) (rs:List Rk) (C3:CH),Tp C3 t ns->Ex t C C3->C3 p=some (.lst (rs.map Rk.pv))->(∃r:Rk,r.ok κ.bs τ (d'+1)/\r.pv=.tup (.str wd::rs.map Rk.pv)/\rs.length<=3)->Q (.ref p) C3) ->
    yZ vF c ρ Q (rngP m) [] C2:=by
   intro wd m C2 hw T2 e2 c ρ Q step fin;refine cK (fun zs acc C3=>Tp C3 t ns/\Ex t C C3/\∃rs:List Rk,acc=rs.map Rk.pv/\rs.length+zs.length=m/\∀r∈rs,Rk.ok κ.bs τ d' r) ?_ ?_ _ _ _ ⟨T2,e2,[],rfl,by rw[Z0]; exact BF _,fun r hr=>nomatch hr⟩
   .rintro x r acc C3 ⟨T3,e3,rs,rfl,hl,ho⟩ L hL
    refine step x C3 L T3 e3 fun r4 C4 ok4 T4 e4=>hL _ _ ⟨?_,T4,e4,rs++[r4],by rw[AQ]; rfl,by rw[AC,AO]; rw[AI] at hl; omega,fun r hr=>?_⟩
    .rw [AA]
     exact AR (show rs.length < 4 by omega) (by decide)
    .rcases An.1 hr with hr | hr
     .exact ho r hr
     .cases AH.1 hr; exact ok4
   .rintro acc C3 ⟨T3,e3,rs,rfl,hl,ho⟩ p hp
    refine fin p rs _ (T3.new hp _) (e3.trans (Ex.new hp _)) jQ ?_;rw[List.length_nil,Nat.add_zero] at hl
    rcases hw with ⟨rfl,hw⟩ | ⟨rfl,hw⟩
    .match rs,hl with
     |[x,y],_=>exact⟨.bin wd x y,by unfold Rk.ok; exact⟨hw,ho x (by simp),ho y (by simp)⟩,rfl,by show 2<=3; decide⟩
    .match rs,hl with
     |[x,y,z],_=>exact⟨.pick x y z,by unfold Rk.ok; exact⟨ho x (by simp),ho y (by simp),ho z (by simp)⟩,by rw[hw]; rfl,by show 3<=3; decide⟩
  refine yQ ?_;refine⟨by decide,fun p hp=>?_⟩;refine i_i ?_;have T2:=T1.new hp (.lst [PV.str "add",PV.str "times",PV.str "less",PV.str "pick"]);have e2:=e1.trans (Ex.new hp (.lst [PV.str "add",PV.str "times",PV.str "less",PV.str "pick"]));have cases4:v=4\/v=5\/v=6\/v=7:=by omega
  obtain⟨wd,m,hat,hw⟩:∃(wd:Str) (m:Nat),atI ([PV.str "add",PV.str "times",PV.str "less",PV.str "pick"]) (v - 4)=some (.str wd)/\((m=2/\(wd = "add"\/wd = "times"\/wd = "less"))\/(m=3/\wd = "pick")):=by
   rcases cases4 with rfl | rfl | rfl | rfl
   .exact ⟨"add",2,rfl,.inl ⟨rfl,.inl rfl⟩⟩
   .exact ⟨"times",2,rfl,.inl ⟨rfl,.inr (.inl rfl)⟩⟩
   .exact ⟨"less",2,rfl,.inl ⟨rfl,.inr (.inr rfl)⟩⟩
   .exact ⟨"pick",3,rfl,.inr ⟨rfl,rfl⟩⟩
  refine mJ jQ hat ?_
  try dsimp only
  refine yQ ?_;refine⟨by decide,fun p2 hp2=>?_⟩;refine mX (lQ _ _) ?_;refine QS ?_
  have hat2:atI [PV.int 2,PV.int 3] (if decide (wd = "pick") then 1 else 0)=some (.int (m:Nat)):=by
   rcases hw with ⟨rfl,hw⟩ | ⟨rfl,rfl⟩
   .have:¬ wd = "pick":=by rcases hw with rfl | rfl | rfl<;>decide
    rw[AS this]; rfl
   .rfl
  refine mJ jQ hat2 ?_
  try dsimp only
  refine⟨zz 1 rfl,?_⟩;have hm:m<=3:=by rcases hw with ⟨rfl,_⟩ | ⟨rfl,_⟩<;>decide
  refine⟨by omega,by omega,?_⟩;refine fin wd m _ hw (T2.new hp2 _) (e2.trans (Ex.new hp2 _)) _ _ _ (fun x C3 L T3 e3 hL=>?_) fun p3 rs C3 T3 e3 m3 hr=>?_
  .refine i_i ?_
   refine⟨d',rfl,t,k,τ,ns,κ,?_,T3,hk.ex e3,hτ,fun r C4 ok4 T4 e4=>hL r C4 ok4 T4 (e3.trans e4)⟩;have:((d'+1:Nat):Int) - 1=(d':Nat):=by omega
   rw[this]
  .obtain ⟨r,ok,ep,lr⟩:=hr
   refine wJ m3 ?_;refine nF (by show 1+_<=sizeLine; rw[AA]; exact Ae (show 1+rs.length<=4 by omega) (by decide)) ?_;have:=q r C3 ok T3 e3;rw[ep] at this;exact this
 induction d with
 |zero=>exact main 0 fun d' e=>by omega
 |succ d ih=>exact main (d+1) fun d' e=>by cases At e; exact ih
end
def dU:Option Rk->PV
 |none=>.non
 |some r=>r.pv
def dC (bs τ:List Str):Option Rk->Prop
 |none=>True
 |some r=>r.ok bs τ 0
def lV (c:Str×Rk):PV:=.tup [.str c.1,c.2.pv]
def yH (bs τ:List Str)(d:Nat)(ps:List (Str×Rk)):Prop:=∀c∈ps,c.2.ok bs τ d
theorem at_last {τ:List Str}(h:0 < τ.length):∃s∈τ,atI (τ.map PV.str) (-1)=some (.str s):=by
 unfold atI ixN;rw[AT (by decide),AA,AW (by omega)];have:((τ.length:Int) + -1).toNat < τ.length:=by omega
 refine⟨τ[((τ.length:Int) + -1).toNat],BI _,?_⟩;show(τ.map PV.str)[((τ.length:Int) + -1).toNat]?=_;rw[Aj,AM this]
 rfl
theorem K4 {t:TCT}{c:TCE}{i:Nat}{a:Addr}{xs:List PV}{ρ:CSt}{C:CH}{Q:K1}(h:C a=some (.lst xs))(hv:ρ[i]?=some (some (.ref a)))(q:iV (fun C=>C a=some (.lst xs)) t c ρ Q xs [] C):pP (rZ i) t c ρ C Q:=by
 unfold pP rZ;rw[hv];dsimp only;rw[h];exact q
theorem eY {β:Type}{c:TCE}{ρ:CSt}{Q:K1}{p:Addr}{ss:List Str}(mk:Str×β->PV)(ok:β->Prop)(J:CH->Prop)(hJ:∀C,J C->C p=some (.lst (ss.map PV.str)))(hl:ss.length<=1000)
  (step:∀z C (L:K1),J C->(∀b C',ok b->J C'->L (mk (z,b)) C')->c (some (.str z)::ρ) C L)
  (fin:∀(bs:List (Str×β)) C p',J C->C p'=none->bs.map (·.1)=ss->(∀x∈bs,ok x.2)->Q (.ref p') (uQ C p' (.lst (bs.map mk)))) {C:CH} (hC:J C) :
  iV (fun C=>C p=some (.lst (ss.map PV.str))) vF c ρ Q (ss.map PV.str) [] C:=by
 refine Zh (fun zs acc C=>J C/\∃(bs:List (Str×β)) (us:List Str),zs=us.map PV.str/\acc=bs.map mk/\bs.map (·.1)++us=ss/\∀x∈bs,ok x.2) (fun _ _ _ h=>hJ _ h.1) ?_ ?_ _ _ _ ⟨hC,[],ss,rfl,rfl,rfl,fun x h=>nomatch h⟩
 .rintro x r acc C1 ⟨j1,bs,us,hz,rfl,e,o⟩ L hL
  cases us with
  |nil=>cases hz
  |cons u us =>
   obtain⟨rfl,rfl⟩:=A4 hz;refine step u C1 L j1 fun b C' ob j'=>hL _ _ ⟨?_,j',bs++[(u,b)],us,rfl,by rw[AQ]; rfl,by rw[AQ,AK]; exact e,fun x hx=>?_⟩
   .have:=BE List.length e
    rw[AC,AA,AI] at this;rw[AA];exact AR (show bs.length < 1001 by omega) (by decide)
   .rcases An.1 hx with hx | hx
    .exact o x hx
    .cases AH.1 hx; exact ob
 .rintro acc C1 ⟨j1,bs,us,hz,rfl,e,o⟩ p' hp
  cases us with
  |nil=>rw[AZ] at e; exact fin bs C1 p' j1 hp e o
  |cons u us=>cases hz
section
variable {P:Program}{w:World}{K:DK}{mg:Str->Option Value}{base:Heap}{a:Adr}
def gKey:GC:=fun ts C Q=>∃(t k:Addr) (τ:List Str) (ns:List Int) (κ:Kt),ts=[.ref t,.ref k,.tup (τ.map PV.str)]/\Tp C t ns/\KAt C t k κ/\τ.length<=4/\∀(o:Option Rk) (C':CH),dC κ.bs τ o->Tp C' t ns->Ex t C C'->Q (dU o) C'
theorem bA (T:Txt P w K mg a):FnOk P w K mg base CX0 4 (a.f 13) (a.d 13) U1 (spC K gKey):=by
 have S:=(T.F 13 rfl).s;have gQ:=(pZ (base:=base) T).mono (show 1<=3 by decide);have qU:=uC (base:=base) T
 refine(T.F 13 rfl).ok (fun ts C R h=>?_) fun cdv A outer s H E hr=>⟨_,(xQ (cs1 3 S.nd (cf (T.F 8 rfl) gQ hr (qQ (cv 0) (ca1 zQ))))
  (xQ (uX (ct2 iB tY (cv 3) zQ) (kQ (cQ uP)) aQ)
  (xQ (uX (cw_pt (cw_and (ct2 cX kX (cv 3) zQ) (cw_and1 (ct2 zK lZ (cln T.vJ (cv 2)) zQ)))) (kQ (cQ (bQ (qQ vQ (ca1 (cx (cv 2) (xE jL vM zQ))))))) aQ)
  (kQ (cQ (cf (T.F 11 rfl) qU hr (qQ (cv 0) (qQ (cv 1) (ca1 (cv 2)))))))))),?_⟩
 .obtain ⟨t,k,τ,ns,κ,rfl,_⟩:=h; rfl
 rintro ts C R ⟨t,k,τ,ns,κ,rfl,hT,hk,hτ,q⟩;refine⟨t,4,ns,rfl,hT,by decide,by decide,fun v C1 v0 v1 T1 e1=>?_⟩
 try dsimp only
 have hk1:=hk.ex e1;refine dX ?_;refine i_i ?_;refine uZ (fun hb=>?_) fun hb=>?_
 .exact q none C1 trivial T1 e1
 refine bX ?_
 try dsimp only
 refine vX (fun ρ' C'=>C'=C1/\ρ'=[some (.ref t),some (.ref k),some (.tup (τ.map PV.str)),some (.int v)]) (fun L hL=>?_) ?_
 .refine mX (oX _ _) ?_
  refine uZ (fun hb=>?_) fun hb=>?_
  .refine vO ?_
   refine i_i ?_;refine uZ (fun hb2=>?_) fun hb2=>?_
   .rw [AA] at hb2
    have hb3:=AX hb2;obtain⟨s,hs,es⟩:=at_last (τ:=τ) (by omega);refine hX es ?_;refine⟨zz 2 rfl,?_⟩;exact q (some (.turn s)) C1 hs T1 e1
   .refine bX ?_
    exact hL _ _ ⟨rfl,rfl⟩
  .refine jM rfl ?_
   refine bX ?_;exact hL _ _ ⟨rfl,rfl⟩
 rintro ρ' C' ⟨rfl,rfl⟩
 try dsimp only
 exact⟨t,k,τ,ns,κ,rfl,T1,hk1,hτ,fun r C2 hr T2 e2=>q (some r) C2 hr T2 (e1.trans e2)⟩
def gPairs:GC:=fun ts C Q=>∃(t k:Addr) (τ:List Str) (ns:List Int) (κ:Kt),ts=[.ref t,.ref k,.tup (τ.map PV.str),.int 2]/\Tp C t ns/\KAt C t k κ/\τ.length<=4/\∀(ps:List (Str×Rk)) (C':CH),yH κ.bs τ 2 ps->(ps.length<=4/\∀c∈ps,c.1.length<=8)->Tp C' t ns->Ex t C C'->Q (.tup (ps.map lV)) C'
theorem JD (T:Txt P w K mg a):FnOk P w K mg base CX0 7 (a.f 14) (a.d 14) U12 (spC K gPairs):=by
 have S:=(T.F 14 rfl).s;have gQ:=(pZ (base:=base) T).mono (show 1<=6 by decide);have nZ:=(sG (base:=base) T).mono (show 2<=6 by decide);have dJ:=lL (base:=base) T 2
 refine(T.F 14 rfl).ok (fun ts C R h=>?_) fun cdv A outer s H E hr=>⟨_,(xQ (cs1 4 S.nd (cf (T.F 9 rfl) nZ hr (qQ (cv 0) (ca1 (cf (T.F 8 rfl) gQ hr (qQ (cv 0) (ca1 (iQ yX gX (cv 3) zQ))))))))
  (kQ (cQ (ctp T.aX (iG rfl (S.c (by decide +kernel)) (S.k rfl rfl rfl (by decide +kernel)) (cv 4) (fun _ _ _ _ _=>bJ) (fun _ _ _ _ _=>(bQ (qQ (cv 0) (ca1 (cf (T.F 12 rfl) dJ hr (qQ (cv 1) (qQ (cv 2) (qQ (cv 3) (ca1 zQ)))))))))))))),?_⟩
 .obtain ⟨t,k,τ,ns,κ,rfl,_⟩:=h; rfl
 rintro ts C R ⟨t,k,τ,ns,κ,rfl,hT,hk,hτ,q⟩;refine uY ?_;refine⟨t,3,ns,rfl,hT,by decide,by decide,fun v C1 v0 v1 T1 e1=>?_⟩;refine⟨t,v,ns,rfl,T1,v0,by omega,fun p ss C2 m2 n2 pt hl nd T2 e2=>?_⟩
 try dsimp only
 refine K4 m2 rfl ?_;refine eY (β:=Rk) lV (fun r=>r.ok κ.bs τ 2) (fun C'=>Tp C' t ns/\Ex t C C'/\C' p=some (.lst (ss.map PV.str))) (fun _ h=>h.2.2) (by omega) (fun z C3 L ⟨T3,e3,m3⟩ hL=>?_) (fun bs C3 p3 ⟨T3,e3,m3⟩ hp3 hb ho=>?_) ⟨T2,e1.trans e2,m2⟩
 .refine ⟨t,k,τ,ns,κ,rfl,T3,hk.ex e3,hτ,fun r C4 hr T4 e4=>⟨zz 2 rfl,hL r C4 hr ⟨T4,e3.trans e4,e4 _ _ pt m3⟩⟩⟩
 .refine wJ jQ ?_
  exact q bs _ ho ⟨by have:=BE List.length hb; rw[AA] at this; omega,fun c hc=>nd.2 c.1 (by rw[<- hb]; exact Ab.2 ⟨c,hc,rfl⟩)⟩ (T3.new hp3 _) (e3.trans (Ex.new hp3 _))
end
structure Hd where
 ev:Str
 rank:Int
 last:Bool
 ch:List (Str×Str×Rk)
def K6 (c:Str×Str×Rk):PV:=.tup [.str c.1,.str c.2.1,c.2.2.pv]
def Hd.pv (h:Hd):PV:=.tup [.str h.ev,.int h.rank,.bl h.last,.tup (h.ch.map K6)]
def Hd.ok (bs τ:List Str)(h:Hd):Prop:=(h.ch.length<=4/\h.ev.length<=8)/\∀c∈h.ch,c.2.2.ok bs τ 1
theorem Ex.put {t:Addr}{C C1:CH}{p:Addr}(g:Ex t C C1)(hp:C p=none)(o:CO):Ex t C (uQ C1 p o):=fun b u n e=>by
 rw[wQ (fun z=>by subst z; rw[hp] at e; cases e)];exact g b u n e
theorem Tp.put {C:CH}{t p:Addr}{ns:List Int}(h:Tp C t ns)(hp:p≠t)(o:CO):Tp (uQ C p o) t ns:=by
 obtain⟨⟨a,b,c,e,r⟩,l⟩:=h;exact⟨⟨a,b,c,by rw[wQ (Ne.symm hp)]; exact e,r⟩,l⟩
theorem Ex.none {t:Addr}{C C':CH}{p:Addr}(g:Ex t C C')(n:p≠t)(h:C' p=none):C p=none:=by
 cases e:C p with
 |none=>rfl
 |some o=>rw[g p o n e] at h; cases h
theorem tK {b:Addr}{xs:List PV}{g:TCG}{u:TCS}{E:mY}(I:Nat->CSt->CH->Prop)(hm:∀i ρ C,I i ρ C->C b=some (.lst xs))(step:∀i x ρ C,xs[i]?=some x->I i ρ C->∀L:CSt->CH->Prop,(∀ρ' C',I (i+1) ρ' C'->L ρ' C')->g x ρ C fun ρ1 C1=>u { nx:=L,ct:=L,bk:=E.nx,rt:=E.rt } ρ1 C1)(fin:∀ρ C,I xs.length ρ C->E.nx ρ C):
  ∀n i ρ C,I i ρ C->i+n=xs.length+1->i<=xs.length->zG b g u E n i ρ C:=by
 intro n
 induction n with
 |zero=>intro i ρ C h h1 h2; omega
 |succ n ih =>
  intro i ρ C h h1 h2;unfold zG;rw[hm i ρ C h];dsimp only
  cases e:xs[i]? with
  |none =>
   have:xs.length<=i:=Ca.1 e;have:i=xs.length:=by omega
   subst this;exact fin ρ C h
  |some x =>
   have hi:i < xs.length:=(AU.1 e).1;exact step i x ρ C e h _ fun ρ' C' h'=>ih (i+1) ρ' C' h' (by omega) (by omega)
theorem sl_l {b:Addr}{xs:List PV}{lo hi:Option Int}{C:CH}{Q:K1}(h:C b=some (.lst xs))(q:∀p,C p=none->Q (.ref p) (uQ C p (.lst (kH xs lo hi)))):cSlL (.ref b) lo hi C Q:=by
 unfold cSlL;dsimp only;rw[h];exact q
theorem cut_two (v:Int)(h0:0<=v)(h1:v < 3):kH [PV.str "tap",PV.str "key"] none (some v)=((["tap","key"]:List Str).take v.toNat).map PV.str:=by
 have:v=0\/v=1\/v=2:=by omega
 rcases this with rfl | rfl | rfl<;>rfl
section
variable {P:Program}{w:World}{K:DK}{mg:Str->Option Value}{base:Heap}{a:Adr}
def gHands:GC:=fun ts C Q=>∃(t k:Addr) (τ:List Str) (ns:List Int) (κ:Kt),ts=[.ref t,.ref k,.tup (τ.map PV.str)]/\Tp C t ns/\KAt C t k κ/\τ.length<=4/\∀(hs:List Hd) (C':CH),(∀h∈hs,h.ok κ.bs τ)->hs.length<=4->Tp C' t ns->Ex t C C'->Q (.tup (hs.map Hd.pv)) C'
theorem JL (T:Txt P w K mg a):FnOk P w K mg base CX0 6 (a.f 15) (a.d 15) U1 (spC K gHands):=by
 have S:=(T.F 15 rfl).s;have gQ:=(pZ (base:=base) T).mono (show 1<=5 by decide);have dJ:=lL (base:=base) T 1
 refine(T.F 15 rfl).ok (fun ts C R h=>?_) fun cdv A outer s H E hr=>⟨_,(xQ (cs1 3 S.nd (nX eX))
  (xQ (mW PassesOwn.never rfl (eI (nX (qQ vQ (ca1 vQ))) uR (yR (cf (T.F 8 rfl) gQ hr (qQ (cv 0) (ca1 zQ))))) (cg1 4 S.nd) (xQ (cs1 5 S.nd (nX eX))
  (xQ (uX (ct2 zK lZ (cln T.vJ (wZ (rX hr) (cv 1) vQ (fun _ _=>rfl))) zQ) (kQ (yD PassesOwn.never rfl rfl T.fY (ca1 (cf (T.F 8 rfl) gQ hr (qQ (cv 0) (ca1 zQ)))) (cg1 6 S.nd) (xQ (cs1 7 S.nd (cx (wZ (rX hr) (cv 1) vQ (fun _ _=>rfl)) (cf (T.F 8 rfl) gQ hr (qQ (cv 0) (ca1 (cln T.vJ (wZ (rX hr) (cv 1) vQ (fun _ _=>rfl))))))))
  (xQ (cs1 8 S.nd (cx (nX (qQ vQ (qQ vQ (ca1 vQ)))) (cf (T.F 8 rfl) gQ hr (qQ (cv 0) (ca1 zQ)))))
  (kQ (cZ (cap (cv 5) (bQ (qQ (cv 7) (qQ (cv 8) (ca1 (cf (T.F 12 rfl) dJ hr (qQ (cv 0) (qQ (cv 1) (qQ (cv 2) (ca1 zQ)))))))))))))))) aQ)
  (kQ (cZ (cap (cv 3) (bQ (qQ (cv 4) (qQ (iQ yX gX zQ (cf (T.F 8 rfl) gQ hr (qQ (cv 0) (ca1 zQ)))) (qQ (kF cX kX (cf (T.F 8 rfl) gQ hr (qQ (cv 0) (ca1 zQ))) zQ (aU _)) (ca1 (ctp T.aX (cv 5)))))))))))))
  (kQ (cQ (ctp T.aX (cv 3)))))),?_⟩
 .obtain ⟨t,k,τ,ns,κ,rfl,_⟩:=h; rfl
 rintro ts C R ⟨t,k,τ,ns,κ,rfl,hT,hk,hτ,q⟩;refine yQ ?_;refine⟨zz 0 rfl,fun h hh=>?_⟩;have nht:=hT.ne hh
 try dsimp only
 refine vX (fun ρ' C'=>∃(hs:List Hd) (x4 x5 x6 x7 x8:Option PV),ρ'=[some (.ref t),some (.ref k),some (.tup (τ.map PV.str)),some (.ref h),x4,x5,x6,x7,x8]/\C' h=some (.lst (hs.map Hd.pv))/\hs.length<=2/\(∀h∈hs,h.ok κ.bs τ)/\Tp C' t ns/\Ex t C C') (fun L hL=>?_) ?_
 .refine ⟨zz 2 rfl,fun p1 hp1=>?_⟩
  have T1:=(hT.new hh (.lst [])).new hp1 (.lst [PV.str "tap",PV.str "key"]);refine⟨t,3,ns,rfl,T1,by decide,by decide,fun v C2 v0 v1 T2 e2=>?_⟩;have np1:p1≠t:=(hT.new hh (.lst [])).ne hp1;have m2:C2 p1=_:=e2 p1 _ np1 jQ;have nhp:h≠p1:=fun z=>by subst z; rw[jQ] at hp1; cases hp1
  have mh2:C2 h=some (.lst []):=e2 h _ nht (by rw[wQ nhp]; exact jQ);refine sl_l m2 fun p2 hp2=>?_;rw[cut_two v v0 v1];have np2:p2≠t:=T2.ne hp2;have nhp2:h≠p2:=fun z=>by subst z; rw[hp2] at mh2; cases mh2
  have e02:Ex t C C2:=fun b o n e=>e2 b o n (Gr.new hp1 _ _ _ (Gr.new hh _ _ _ e));generalize hss:(["tap","key"]:List Str).take v.toNat=ss;have hsl:ss.length<=2:=by rw[<- hss,BQ]; exact Nat.min_le_right _ _
  refine⟨ss.length+1,?_⟩;refine tK (xs:=ss.map PV.str) (fun i ρ C'=>C' p2=some (.lst (ss.map PV.str))/\∃(hs:List Hd) (x4 x5 x6 x7 x8:Option PV),ρ=[some (.ref t),some (.ref k),some (.tup (τ.map PV.str)),some (.ref h),x4,x5,x6,x7,x8]/\C' h=some (.lst (hs.map Hd.pv))/\hs.length=i/\i<=ss.length/\(∀h∈hs,h.ok κ.bs τ)/\Tp C' t ns/\Ex t C C') (fun _ _ _ h=>h.1) ?_ ?_ _ 0 _ _ ⟨jQ,[],_,_,_,_,_,rfl,?_,rfl,AV _,(fun _ z=>nomatch z),T2.new hp2 _,e02.trans (Ex.new hp2 _)⟩ (by rw[AA]; omega) (AV _)
  .rintro i x ρ C3 hx ⟨m3,hs,x4,x5,x6,x7,x8,rfl,mh,hl,hi,ho,T3,e3⟩ L1 hL1
   have hx':∃z:Str,x=.str z/\z.length<=8:=by
    rw[Aj] at hx
    cases z:ss[i]? with
    |none=>rw[z] at hx; cases hx
    |some u =>
     rw[z] at hx;cases hx;refine⟨u,rfl,?_⟩;have hm:=Al z;rw[<- hss] at hm;have hm:=List.mem_of_mem_take hm
     simp only[List.mem_cons,List.not_mem_nil,or_false] at hm
     rcases hm with rfl | rfl<;>decide +kernel
   have hi':i < ss.length:=by
    have:=(AU.1 hx).1;rw[AA] at this;exact this
   obtain⟨ev,rfl,hev⟩:=hx';refine yQ ?_;refine⟨zz 0 rfl,fun c hc=>?_⟩;have nct:=T3.ne hc;have nch:c≠h:=fun z=>by subst z; rw[mh] at hc; cases hc
   have ncp:c≠p2:=fun z=>by subst z; rw[m3] at hc; cases hc
   have hc0:C c=none:=e3.none nct hc
   try dsimp only
   refine vX (fun ρ' C'=>∃(cs:List (Str×Str×Rk)) (x6 x7 x8:Option PV),ρ'=[some (.ref t),some (.ref k),some (.tup (τ.map PV.str)),some (.ref h),some (.str ev),some (.ref c),x6,x7,x8]/\C' c=some (.lst (cs.map K6))/\cs.length<=2/\(∀c∈cs,c.2.2.ok κ.bs τ 1)/\C' h=some (.lst (hs.map Hd.pv))/\C' p2=some (.lst (ss.map PV.str))/\Tp C' t ns/\Ex t C C') (fun L2 hL2=>?_) ?_
   .have k3:=hk.ex (e3.put hc0 (.lst []))
    refine oJ k3.at_ rfl bV ?_;refine wG k3.bx ?_;refine i_i ?_;have T3':=T3.new hc (.lst []);have e3':Ex t C (uQ C3 c (.lst [])):=e3.put hc0 _;have mh':uQ C3 c (.lst []) h=some (.lst (hs.map Hd.pv)):=by rw[wQ (Ne.symm nch)]; exact mh
    have mp':uQ C3 c (.lst []) p2=some (.lst (ss.map PV.str)):=by rw[wQ (Ne.symm ncp)]; exact m3
    refine uZ (fun hb=>?_) fun hb=>?_
    .rw [AA] at hb
     have hb3:=AX hb;refine⟨t,3,ns,rfl,T3',by decide,by decide,fun n C4 n0 n1 T4 e4=>?_⟩;refine⟨by omega,by omega,?_⟩;refine eZ (fun zs ρ C'=>∃(cs:List (Str×Str×Rk)) (x6 x7 x8:Option PV),ρ=[some (.ref t),some (.ref k),some (.tup (τ.map PV.str)),some (.ref h),some (.str ev),some (.ref c),x6,x7,x8]/\C' c=some (.lst (cs.map K6))/\cs.length+zs.length<=2/\(∀c∈cs,c.2.2.ok κ.bs τ 1)/\C' h=some (.lst (hs.map Hd.pv))/\C' p2=some (.lst (ss.map PV.str))/\Tp C' t ns/\Ex t C C') ?_ ?_ _ _ _ ⟨[],_,_,_,rfl,e4 _ _ nct jQ,by rw[AA,Ak]; show 0+_<=2; omega,(fun _ z=>nomatch z),e4 _ _ nht mh',e4 _ _ np2 mp',T4,e3'.trans e4⟩
     .rintro z zs ρ C5 ⟨cs,y6,y7,y8,rfl,mc,hcl,hco,mh5,mp5,T5,e5⟩ L3 hL3
      have k5:=hk.ex e5;refine yQ ?_;refine oJ k5.at_ rfl bV ?_;refine oJ k5.at_ rfl bV ?_;refine wG k5.bx ?_;have lb:=hk.lb;rw[AA];refine⟨t,_,ns,rfl,T5,hb3,by omega,fun i C6 i0 i1 T6 e6=>?_⟩;refine mJ ((k5.ex e6).bx) (gK (f:=PV.str) "" i0 i1) ?_
      try dsimp only
      refine yQ ?_;refine⟨zz 3 rfl,fun p4 hp4=>?_⟩;refine⟨t,3,ns,rfl,T6.new hp4 _,by decide,by decide,fun j C7 j0 j1 T7 e7=>?_⟩;refine mJ (e7 p4 _ (T6.ne hp4) jQ) (gK (f:=PV.str) (ss:=["set","add","times"]) "" j0 j1) ?_;have e67:Ex t C6 C7:=(Ex.new hp4 _).trans e7;have e57:Ex t C5 C7:=e6.trans e67
      try dsimp only
      refine⟨yG (e57 _ _ nct mc),?_⟩;refine⟨t,k,τ,ns,κ,rfl,T7,k5.ex e57,hτ,fun r C8 hr T8 e8=>⟨zz 3 rfl,?_⟩⟩;have e58:Ex t C5 C8:=e57.trans e8;refine nP (e58 _ _ nct mc) (by rw[AA]; exact AR (show cs.length < 3 by rw[AI] at hcl; omega) (by decide)) ?_;refine hL3 _ _ ⟨cs++[(_,_,r)],_,_,_,rfl,by rw[jQ,AQ]; rfl,by rw[AC,AO]; rw[AI] at hcl; omega,fun c' hc'=>?_,?_,?_,T8.put nct _,(e5.trans e58).put hc0 _⟩
      .rcases An.1 hc' with hc' | hc'
       .exact hco c' hc'
       .cases AH.1 hc'; exact hr
      .rw [wQ (Ne.symm nch)]; exact e58 _ _ nht mh5
      .rw [wQ (Ne.symm ncp)]; exact e58 _ _ np2 mp5
     .rintro ρ C5 ⟨cs,y6,y7,y8,rfl,mc,hcl,hco,mh5,mp5,T5,e5⟩
      exact hL2 _ _ ⟨cs,_,_,_,rfl,mc,by omega,hco,mh5,mp5,T5,e5⟩
    .refine bX ?_
     exact hL2 _ _ ⟨[],_,_,_,rfl,jQ,AV _,(fun _ z=>nomatch z),mh',mp',T3',e3'⟩
   rintro ρ' C4 ⟨cs,y6,y7,y8,rfl,mc,hcl,hco,mh4,mp4,T4,e4⟩
   try dsimp only
   refine⟨yG mh4,?_⟩;refine⟨t,3,ns,rfl,T4,by decide,by decide,fun rk C5 r0 r1 T5 e5=>?_⟩;refine uY ?_;refine⟨t,2,ns,rfl,T5,by decide,by decide,fun z C6 z0 z1 T6 e6=>?_⟩;refine mX (oX _ _) ?_;have e46:=e5.trans e6;refine wJ (e46 _ _ nct mc) ?_;refine⟨zz 4 rfl,?_⟩;refine nP (e46 _ _ nht mh4) (by rw[AA]; exact AR (show hs.length < 3 by omega) (by decide)) ?_
   refine hL1 _ _ ⟨by rw[wQ (Ne.symm nhp2)]; exact e46 _ _ np2 mp4,hs++[⟨ev,1+rk,decide (z=0),cs⟩],_,_,_,_,_,rfl,by rw[jQ,AQ]; rfl,by rw[AC,AO,hl],hi',fun h' hh'=>?_,T6.put nht _,(e4.trans e46).put hh _⟩
   rcases An.1 hh' with hh' | hh'
   .exact ho h' hh'
   .cases AH.1 hh'; exact⟨⟨by show cs.length<=4; omega,hev⟩,hco⟩
  .rintro ρ C3 ⟨m3,hs,x4,x5,x6,x7,x8,rfl,mh,hl,hi,ho,T3,e3⟩
   exact hL _ _ ⟨hs,_,_,_,_,_,rfl,mh,by omega,ho,T3,e3⟩
  .rw [wQ nhp2]; exact mh2
 rintro ρ' C' ⟨hs,x4,x5,x6,x7,x8,rfl,mh,hl,ho,T',e'⟩
 try dsimp only
 refine wJ mh ?_;exact q hs C' ho (by omega) T' e'
end
inductive Ln where
 |plain (k:Option Rk) (tag:Str) (sets:List (Str×Rk)) (hands:List Hd) (ls:List Ln)
 |part (k:Option Rk) (name:Str) (gives:List (Str×Rk))
 |give (k:Option Rk) (name:Str) (r:Rk) (ls:List Ln)
 |when (r:Rk) (l1 l2:List Ln)
 |each (name:Str) (r:Rk) (ls:List Ln)
mutual
def Ln.pv:Ln->PV
 |.plain k tag s h ls=>.tup [.str "plain",dU k,.str tag,.tup (s.map lV),.tup (h.map Hd.pv),.tup (Ln.pvs ls)]
 |.part k n g=>.tup [.str "part",dU k,.str n,.tup (g.map lV)]
 |.give k n r ls=>.tup [.str "give",dU k,.str n,r.pv,.tup (Ln.pvs ls)]
 |.when r l1 l2=>.tup [.str "when",r.pv,.tup (Ln.pvs l1),.tup (Ln.pvs l2)]
 |.each n r ls=>.tup [.str "each",.str n,r.pv,.tup (Ln.pvs ls)]
def Ln.pvs:List Ln->List PV
 |[]=>[]
 |l::ls=>l.pv::Ln.pvs ls
end
theorem Ln.pvs_map (ls:List Ln):Ln.pvs ls=ls.map Ln.pv:=by
 induction ls with
 |nil=>rfl
 |cons l ls ih=>rw[Ac,<- ih]; rfl
mutual
def Ln.tw:Ln->Nat
 |.plain _ _ _ _ ls=>1+Ln.tws ls
 |.part _ _ _=>1
 |.give _ _ _ ls=>1+Ln.tws ls
 |.when _ l1 l2=>Ln.tws l1+Ln.tws l2
 |.each _ _ ls=>8 * Ln.tws ls
def Ln.tws:List Ln->Nat
 |[]=>0
 |l::ls=>l.tw+Ln.tws ls
end
mutual
def Ln.pw:Ln->Nat
 |.plain _ _ _ _ ls=>Ln.pws ls
 |.part _ _ _=>1
 |.give _ _ _ ls=>Ln.pws ls
 |.when _ l1 l2=>Ln.pws l1+Ln.pws l2
 |.each _ _ ls=>8 * Ln.pws ls
def Ln.pws:List Ln->Nat
 |[]=>0
 |l::ls=>l.pw+Ln.pws ls
end
theorem Ln.tws_app (xs ys:List Ln):Ln.tws (xs++ys)=Ln.tws xs+Ln.tws ys:=by
 induction xs with
 |nil=>show _=0+_; rw[BF]; rfl
 |cons x xs ih=>show x.tw+Ln.tws (xs++ys)=x.tw+Ln.tws xs+Ln.tws ys; rw[ih]; omega
theorem Ln.pws_app (xs ys:List Ln):Ln.pws (xs++ys)=Ln.pws xs+Ln.pws ys:=by
 induction xs with
 |nil=>show _=0+_; rw[BF]; rfl
 |cons x xs ih=>show x.pw+Ln.pws (xs++ys)=x.pw+Ln.pws xs+Ln.pws ys; rw[ih]; omega
def LnOk (bs rs:List Str):Nat->List Str->Ln->Prop
 |0,_,_=>False
 |d+1,τ,.plain k t s h ls=>dC bs τ k/\(yH bs τ 2 s/\s.length<=4/\(∀c∈s,c.1.length<=8)/\t.length<=8)/\((∀x∈h,x.ok bs τ)/\h.length<=4)/\(∀x∈ls,LnOk bs rs d τ x)/\ls.length<=6
 |_+1,τ,.part k n g=>dC bs τ k/\n∈rs/\yH bs τ 1 g/\g.length<=4
 |d+1,τ,.give k n r ls=>dC bs τ k/\n∈(["a","ab","b"]:List Str)/\r.ok bs τ 1/\(∀x∈ls,LnOk bs rs d τ x)/\ls.length<=6
 |d+1,τ,.when r l1 l2=>r.ok bs τ 1/\((∀x∈l1,LnOk bs rs d τ x)/\l1.length<=6)/\(∀x∈l2,LnOk bs rs d τ x)/\l2.length<=6
 |d+1,_,.each n r ls=>r.ok bs [] 0/\(∀x∈ls,LnOk bs rs d [n] x)/\ls.length<=6
theorem LnOk.up {bs rs:List Str}:∀{d:Nat}{τ:List Str}{l:Ln},LnOk bs rs d τ l->LnOk bs rs (d+1) τ l:=by
 intro d
 induction d with
 |zero=>intro τ l h; exact h.elim
 |succ d ih =>
  intro τ l h
  cases l with
  |plain k t s hh ls=>obtain⟨h1,h2,h3,h4,h5⟩:=h; exact⟨h1,h2,h3,fun x hx=>ih (h4 x hx),h5⟩
  |part k n g=>exact h
  |give k n r ls=>obtain⟨h1,h2,h3,h4,h5⟩:=h; exact⟨h1,h2,h3,fun x hx=>ih (h4 x hx),h5⟩
  |when r l1 l2=>obtain⟨h1,⟨h2,h3⟩,h4,h5⟩:=h; exact⟨h1,⟨fun x hx=>ih (h2 x hx),h3⟩,fun x hx=>ih (h4 x hx),h5⟩
  |each n r ls=>obtain⟨h1,h2,h3⟩:=h; exact⟨h1,fun x hx=>ih (h2 x hx),h3⟩
theorem LnOk.mono {bs rs:List Str}{d e:Nat}{τ:List Str}{l:Ln}(h:LnOk bs rs d τ l)(le:d<=e):LnOk bs rs e τ l:=by
 induction le with
 |refl=>exact h
 |step _ ih=>exact ih.up
structure Chg (κ κ':Kt):Prop where
 b:κ'.b=κ.b
 r:κ'.r=κ.r
 bs:κ'.bs=κ.bs
 rs:κ'.rs=κ.rs
 la:κ'.la=κ.la
 l0:0<=κ'.l
 l1:κ'.l<=κ.l
 p0:0<=κ'.p
 p1:κ'.p<=κ.p
 e0:0<=κ'.e
 e1:κ'.e<=κ.e
structure Kok (κ:Kt)(e:Nat)(τ:List Str):Prop where
 l0:0<=κ.l
 l1:κ.l<=6
 p0:0<=κ.p
 p1:κ.p<=2
 e0:0<=κ.e
 e1:κ.e<=(e:Nat)
 t:0 < e->τ=[]
 ly:0 < κ.e->∀s,κ.la=some s->s∈κ.rs
 tl:τ.length<=4
theorem Chg.refl {κ:Kt}{e:Nat}{τ:List Str}(h:Kok κ e τ):Chg κ κ:=⟨rfl,rfl,rfl,rfl,rfl,h.l0,A3 _,h.p0,A3 _,h.e0,A3 _⟩
theorem Chg.trans {κ κ1 κ2:Kt}(h:Chg κ κ1)(g:Chg κ1 κ2):Chg κ κ2:=⟨g.b.trans h.b,g.r.trans h.r,g.bs.trans h.bs,g.rs.trans h.rs,g.la.trans h.la,g.l0,B3 g.l1 h.l1,g.p0,B3 g.p1 h.p1,g.e0,B3 g.e1 h.e1⟩
theorem Kok.chg {κ κ':Kt}{e:Nat}{τ:List Str}(h:Kok κ e τ)(g:Chg κ κ'):Kok κ' e τ:=⟨g.l0,B3 g.l1 h.l1,g.p0,B3 g.p1 h.p1,g.e0,B3 g.e1 h.e1,h.t,fun z s hs=>by rw[g.rs]; exact h.ly (Int.lt_of_lt_of_le z g.e1) s (by rw[<- g.la]; exact hs),h.tl⟩
def zOf (κ:Kt):Int:=if κ.la.isSome then 16 else 0
theorem zOf_chg {κ κ':Kt}(g:Chg κ κ'):zOf κ'=zOf κ:=by unfold zOf; rw[g.la]
def mOf (e:Nat):Int:=if e=0 then 1 else 8
def vV (e d:Nat):Nat:=if e=0 then d+1 else d+3
structure Wgt (e:Nat)(τ:List Str)(κ κ':Kt)(extra:Int)(tw pw:Nat):Prop where
 t:(tw:Int)<=mOf e * (extra+(κ.l - κ'.l))
 p:(pw:Int)<=(κ.p - κ'.p)+zOf κ * (κ.e - κ'.e)
 n:τ≠[]->pw=0/\κ'.p=κ.p
theorem ExS.ofEx {t k:Addr}{C C':CH}(h:Ex t C C'):ExS [t,k] C C':=fun b o n e=>h b o (fun z=>n (by rw[z]; exact AD)) e
section
variable {P:Program}{w:World}{K:DK}{mg:Str->Option Value}{base:Heap}{a:Adr}
def X8:GC:=fun ts C Q=>∃(t k:Addr) (τ:List Str) (ns:List Int) (κ:Kt) (name:Str),ts=[.ref t,.ref k,.tup (τ.map PV.str),.str name]/\Tp C t ns/\KAt C t k κ/\τ.length<=4/\∀(o:Option Rk) (g:List (Str×Rk)) (C':CH),dC κ.bs τ o->yH κ.bs τ 1 g->g.length<=4->Tp C' t ns->Ex t C C'->Q (Ln.part o name g).pv C'
theorem Ze (v:Int)(h0:0<=v)(h1:v < 4):kH [PV.str "a",PV.str "ab",PV.str "b"] none (some v)=((["a","ab","b"]:List Str).take v.toNat).map PV.str:=by
 have:v=0\/v=1\/v=2\/v=3:=by omega
 rcases this with rfl | rfl | rfl | rfl<;>rfl
theorem rev_s {b:Addr}{xs:List PV}{C:CH}{Q:K1}(h:C b=some (.lst xs))(q:Q .non (uQ C b (.lst xs.reverse))):gM (.ref b) [] C Q:=by
 unfold gM;dsimp only;rw[h];exact q
theorem qM (T:Txt P w K mg a):FnOk P w K mg base CX0 6 (a.f 17) (a.d 17) U13 (spC K X8):=by
 have S:=(T.F 17 rfl).s;have gQ:=(pZ (base:=base) T).mono (show 1<=5 by decide);have mM:=(bA (base:=base) T).mono (show 4<=5 by decide);have dJ:=lL (base:=base) T 1
 refine(T.F 17 rfl).ok (fun ts C R h=>?_) fun cdv A outer s H E hr=>⟨_,(xQ (cs1 4 S.nd (cf (T.F 13 rfl) mM hr (qQ (cv 0) (qQ (cv 1) (ca1 (cv 2))))))
  (xQ (cs1 5 S.nd (eI (nX (qQ vQ (qQ vQ (ca1 vQ)))) uR (yR (cf (T.F 8 rfl) gQ hr (qQ (cv 0) (ca1 zQ))))))
  (xQ (uX (ct2 cX kX (cf (T.F 8 rfl) gQ hr (qQ (cv 0) (ca1 zQ))) zQ) (kQ (cZ (ce_bm0 B1 PySem.F.slot_list_reverse PySem.F.type_list_reverse dA jE (cv 5)))) aQ)
  (kQ (cQ (bQ (qQ vQ (qQ (cv 4) (qQ (cv 3) (ca1 (ctp T.aX (iG rfl (S.c (by decide +kernel)) (S.k rfl rfl rfl (by decide +kernel)) (cv 5) (fun _ _ _ _ _=>bJ) (fun _ _ _ _ _=>(bQ (qQ (cv 0) (ca1 (cf (T.F 12 rfl) dJ hr (qQ (cv 1) (qQ (cv 2) (qQ (cv 3) (ca1 zQ))))))))))))))))))))),?_⟩
 .obtain ⟨t,k,τ,ns,κ,name,rfl,_⟩:=h; rfl
 rintro ts C R ⟨t,k,τ,ns,κ,name,rfl,hT,hk,hτ,q⟩;refine yQ ?_;refine⟨t,k,τ,ns,κ,rfl,hT,hk,hτ,fun o C1 ho T1 e1=>?_⟩
 try dsimp only
 refine yQ ?_;refine⟨zz 3 rfl,fun p1 hp1=>?_⟩;refine⟨t,4,ns,rfl,T1.new hp1 _,by decide,by decide,fun v C2 v0 v1 T2 e2=>?_⟩;have m2:C2 p1=_:=e2 p1 _ (T1.ne hp1) jQ;have e02:Ex t C C2:=fun b o n e=>e2 b o n (Gr.new hp1 _ _ _ (e1 b o n e));refine sl_l m2 fun p2 hp2=>?_;rw[Ze v v0 v1];have np2:p2≠t:=T2.ne hp2;have hp20:C p2=none:=e02.none np2 hp2;generalize hss:(["a","ab","b"]:List Str).take v.toNat=ss
 have hsl:ss.length<=3:=by rw[<- hss,BQ]; exact Nat.min_le_right _ _
 try dsimp only
 refine vX (fun ρ' C'=>∃us:List Str,us.length=ss.length/\ρ'=[some (.ref t),some (.ref k),some (.tup (τ.map PV.str)),some (.str name),some (dU o),some (.ref p2)]/\C' p2=some (.lst (us.map PV.str))/\Tp C' t ns/\Ex t C C') (fun L hL=>?_) ?_
 .refine ⟨t,2,ns,rfl,T2.new hp2 _,by decide,by decide,fun z C3 z0 z1 T3 e3=>?_⟩
  have m3:C3 p2=_:=e3 p2 _ np2 jQ;have e03:Ex t C C3:=(e02.put hp20 _).trans e3;refine mX (oX _ _) ?_;refine uZ (fun hb=>?_) fun hb=>?_
  .refine ⟨yG m3,?_⟩
   refine rev_s m3 ?_;exact hL _ _ ⟨ss.reverse,List.length_reverse,rfl,by rw[jQ,List.map_reverse],T3.put np2 _,e03.put hp20 _⟩
  .refine bX ?_
   exact hL _ _ ⟨ss,rfl,rfl,m3,T3,e03⟩
 rintro ρ' C3 ⟨us,hus,rfl,m3,T3,e3⟩
 try dsimp only
 refine K4 m3 rfl ?_;refine eY (β:=Rk) lV (fun r=>r.ok κ.bs τ 1) (fun C'=>Tp C' t ns/\Ex t C C'/\C' p2=some (.lst (us.map PV.str))) (fun _ h=>h.2.2) (by omega) (fun z C4 L ⟨T4,e4,m4⟩ hL=>?_) (fun bs C4 p3 ⟨T4,e4,m4⟩ hp3 hb hbo=>?_) ⟨T3,e3,m3⟩
 .refine ⟨t,k,τ,ns,κ,rfl,T4,hk.ex e4,hτ,fun r C5 hr T5 e5=>⟨zz 2 rfl,hL r C5 hr ⟨T5,e4.trans e5,e5 _ _ np2 m4⟩⟩⟩
 .refine wJ jQ ?_
  refine⟨zz 4 rfl,?_⟩;exact q o bs _ ho hbo (by have:=BE List.length hb; rw[AA] at this; omega) (T4.new hp3 _) (e4.trans (Ex.new hp3 _))
end
theorem zM (e:Nat):mOf e=1\/mOf e=8:=by unfold mOf; split; exact .inl rfl; exact .inr rfl
theorem Wgt.one {e:Nat}{τ:List Str}{κ κ':Kt}{tw pw:Nat}(h:Wgt e τ κ κ' 0 tw pw):Wgt e τ κ κ' 1 (1+tw) pw:=by
 refine⟨?_,h.p,h.n⟩;have:=h.t
 rcases zM e with z | z<;>rw[z] at this ⊢ <;> omega
theorem Wgt.up {e:Nat}{τ:List Str}{κ κ':Kt}{tw pw:Nat}(h:Wgt e τ κ κ' 0 tw pw):Wgt e τ κ κ' 1 tw pw:=by
 refine⟨?_,h.p,h.n⟩;have:=h.t
 rcases zM e with z | z<;>rw[z] at this ⊢ <;> omega
theorem Wgt.add {e:Nat}{τ:List Str}{κ κ1 κ2:Kt}{x y:Int}{t1 t2 p1 p2:Nat}(h:Wgt e τ κ κ1 x t1 p1)(g:Wgt e τ κ1 κ2 y t2 p2)(c:Chg κ κ1):Wgt e τ κ κ2 (x+y) (t1+t2) (p1+p2):=by
 refine⟨?_,?_,fun z=>?_⟩
 .have h1:=h.t
  have h2:=g.t
  rcases zM e with z | z<;>rw[z] at h1 h2 ⊢ <;> omega
 .have h1:=h.p
  have h2:=g.p;rw[zOf_chg c] at h2
  have:zOf κ * (κ.e - κ1.e)+zOf κ * (κ1.e - κ2.e)=zOf κ * (κ.e - κ2.e):=by
   rw[<- Int.mul_add]
   congr 1
   omega
  omega
 .obtain ⟨a1,a2⟩:=h.n z
  obtain⟨b1,b2⟩:=g.n z;exact⟨by omega,b2.trans a2⟩
theorem Wgt.nil {e:Nat}{τ:List Str}{κ:Kt}:Wgt e τ κ κ 0 0 0:=by
 refine⟨?_,?_,fun _=>⟨rfl,rfl⟩⟩
 .rcases zM e with z | z<;>rw[z]<;>omega
 .rw [Int.sub_self,Int.sub_self,Int.mul_zero]; decide
theorem KAt.put {C:CH}{t k:Addr}{κ:Kt}(h:KAt C t k κ)(l p e:Int)(la:Option Str):KAt (uQ C k (.dK (sX κ.b κ.r l p e (bG la)))) t k { κ with l:=l,p:=p,e:=e,la:=la }:=by
 have n1:κ.b≠k:=fun z=>by have:=h.bx; rw[z,h.at_] at this; cases this
 have n2:κ.r≠k:=fun z=>by have:=h.rx; rw[z,h.at_] at this; cases this
 exact⟨jQ,by show uQ C k _ κ.b=_; rw[wQ n1]; exact h.bx,by show uQ C k _ κ.r=_; rw[wQ n2]; exact h.rx,h.nk,h.nb,h.nr,h.lb,h.lr⟩
def kB (e d:Nat):GC:=fun ts C Q=>∃(t k:Addr) (τ:List Str) (ns:List Int) (κ:Kt),ts=[.ref t,.ref k,.tup (τ.map PV.str),.int (d:Nat)]/\Tp C t ns/\KAt C t k κ/\Kok κ e τ /\
 ∀(ls:List Ln) (κ':Kt) (C':CH),(∀x∈ls,LnOk κ.bs κ.rs (vV e d) τ x)->ls.length<=6->Wgt e τ κ κ' 0 (Ln.tws ls) (Ln.pws ls)->Chg κ κ'->Tp C' t ns->KAt C' t k κ'->ExS [t,k] C C'->Q (.tup (Ln.pvs ls)) C'
def iL (e d:Nat):GC:=fun ts C Q=>∃(t k:Addr) (τ:List Str) (ns:List Int) (κ:Kt),ts=[.ref t,.ref k,.tup (τ.map PV.str),.int (d:Nat)]/\Tp C t ns/\KAt C t k κ/\Kok κ e τ /\
 ∀(l:Ln) (κ':Kt) (C':CH),LnOk κ.bs κ.rs (vV e d) τ l->Wgt e τ κ κ' 1 l.tw l.pw->Chg κ κ'->Tp C' t ns->KAt C' t k κ'->ExS [t,k] C C'->Q l.pv C'
def aC (e d:Nat):GC:=fun ts C Q=>∃d',d=d'+1/\kB e d' ts C Q
theorem jP (e d:Nat):vV e (d+1)=vV e d+1:=by unfold vV; split<;>rfl
theorem mN (e d:Nat):∃n,vV e d=n+1:=by unfold vV; split; exact⟨_,rfl⟩; exact⟨d+2,rfl⟩
section
variable {P:Program}{w:World}{K:DK}{mg:Str->Option Value}{base:Heap}{a:Adr}
theorem bT (T:Txt P w K mg a)(e d r:Nat)(h7:7<=r)(rK:FnOk P w K mg base CX0 r (a.f 20) (a.d 20) U0 (spC K (aC e d))):
  FnOk P w K mg base CX0 (r+1) (a.f 16) (a.d 16) U0 (spC K (iL e d)):=by
 have S:=(T.F 16 rfl).s;have gQ:=(pZ (base:=base) T).mono (show 1<=r by omega);have nZ:=(sG (base:=base) T).mono (show 2<=r by omega);have mM:=(bA (base:=base) T).mono (show 4<=r by omega);have Zx:=(JD (base:=base) T).mono (show 7<=r by omega);have Zz:=(JL (base:=base) T).mono (show 6<=r by omega)
 refine(T.F 16 rfl).ok (fun ts C R h=>?_) fun cdv A outer s H E hr=>⟨_,(xQ (cs1 4 S.nd (cf (T.F 13 rfl) mM hr (qQ (cv 0) (qQ (cv 1) (ca1 (cv 2))))))
  (xQ (cs1 5 S.nd (cx (cf (T.F 9 rfl) nZ hr (qQ (cv 0) (ca1 zQ))) zQ))
  (xQ (cs1 6 S.nd (cf (T.F 14 rfl) Zx hr (qQ (cv 0) (qQ (cv 1) (qQ (cv 2) (ca1 zQ))))))
  (xQ (cs1 7 S.nd (cf (T.F 15 rfl) Zz hr (qQ (cv 0) (qQ (cv 1) (ca1 (cv 2))))))
  (xQ (cs1 8 S.nd (bQ eX))
  (xQ (uX (cw_pt (cw_and (ct2 zK lZ (cv 3) zQ) (cw_and1 (ct2 cX kX (cf (T.F 8 rfl) gQ hr (qQ (cv 0) (ca1 zQ))) zQ)))) (kQ (cs1 8 S.nd (cf (T.F 20 rfl) rK hr (qQ (cv 0) (qQ (cv 1) (qQ (cv 2) (ca1 (iQ qV pJ (cv 3) zQ)))))))) aQ)
  (kQ (cQ (bQ (qQ vQ (qQ (cv 4) (qQ (cv 5) (qQ (cv 6) (qQ (cv 7) (ca1 (cv 8)))))))))))))))),?_⟩
 .obtain ⟨t,k,τ,ns,κ,rfl,_⟩:=h; rfl
 rintro ts C R ⟨t,k,τ,ns,κ,rfl,hT,hk,ok,q⟩;refine yQ ?_;refine⟨t,k,τ,ns,κ,rfl,hT,hk,ok.tl,fun o C1 ho T1 e1=>?_⟩
 try dsimp only
 refine yQ ?_;refine⟨t,1,ns,rfl,T1,by decide,by decide,fun p ss C2 m2 _ pt hl nd T2 e2=>?_⟩;have hl:ss.length=1:=hl
 obtain⟨tag,rfl⟩:∃tag,ss=[tag]:=by
  match ss,hl with
  |[x],_=>exact⟨x,rfl⟩
 refine mJ m2 sQ ?_
 try dsimp only
 refine yQ ?_;refine⟨t,k,τ,ns,κ,rfl,T2,(hk.ex e1).ex e2,ok.tl,fun ps C3 hps hpl T3 e3=>?_⟩
 try dsimp only
 refine yQ ?_;refine⟨t,k,τ,ns,κ,rfl,T3,((hk.ex e1).ex e2).ex e3,ok.tl,fun hs C4 hhs hhl T4 e4=>?_⟩
 try dsimp only
 refine yQ ?_;refine⟨zz 0 rfl,?_⟩
 try dsimp only
 have e04:Ex t C C4:=((e1.trans e2).trans e3).trans e4;have k4:=hk.ex e04
 have fin:∀(ls:List Ln) (κ':Kt) (C':CH),(∀x∈ls,∃d',d=d'+1/\LnOk κ.bs κ.rs (vV e d') τ x)->ls.length<=6->Wgt e τ κ κ' 0 (Ln.tws ls) (Ln.pws ls)->Chg κ κ'->Tp C' t ns->KAt C' t k κ'->ExS [t,k] C C' ->
   R (.tup [.str "plain",dU o,.str tag,.tup (ps.map lV),.tup (hs.map Hd.pv),.tup (Ln.pvs ls)]) C':=by
  intro ls κ' C' hls hll hw hc T' k' x';refine q (.plain o tag ps hs ls) κ' C' ?_ hw.one hc T' k' x';obtain⟨n,en⟩:=mN e d;rw[en];refine⟨ho,⟨hps,hpl.1,hpl.2,nd.2 tag AD⟩,⟨hhs,hhl⟩,fun x hx=>?_,hll⟩;obtain⟨d',rfl,hx'⟩:=hls x hx;rw[jP] at en;have:n=vV e d':=by omega
  rw[this];exact hx'
 refine vX (fun ρ' C'=>∃(ls:List Ln) (κ':Kt),ρ'=[some (.ref t),some (.ref k),some (.tup (τ.map PV.str)),some (.int (d:Nat)),some (dU o),some (.str tag),some (.tup (ps.map lV)),some (.tup (hs.map Hd.pv)),some (.tup (Ln.pvs ls))]/\(∀x∈ls,∃d',d=d'+1/\LnOk κ.bs κ.rs (vV e d') τ x)/\ls.length<=6/\Wgt e τ κ κ' 0 (Ln.tws ls) (Ln.pws ls)/\Chg κ κ'/\Tp C' t ns/\KAt C' t k κ'/\ExS [t,k] C C') (fun L hL=>?_) ?_
 .refine i_i ?_
  refine uZ (fun hb=>?_) fun hb=>?_
  .have hb:=AX hb
   refine⟨t,2,ns,rfl,T4,by decide,by decide,fun z C5 z0 z1 T5 e5=>?_⟩;refine mX (oX _ _) ?_;refine uZ (fun hb2=>?_) fun hb2=>?_
   .refine i_i ?_
    obtain⟨d',rfl⟩:∃d',d=d'+1:=⟨d - 1,by omega⟩;refine⟨d',rfl,t,k,τ,ns,κ,?_,T5,k4.ex e5,ok,fun ls κ' C6 h1 h2 h3 h4 T6 k6 x6=>?_⟩
    .have:((d'+1:Nat):Int) - 1=(d':Nat):=by omega
     rw[this]
    .exact hL _ _ ⟨ls,κ',rfl,fun x hx=>⟨d',rfl,h1 x hx⟩,h2,h3,h4,T6,k6,(ExS.ofEx (e04.trans e5)).trans x6⟩
   .refine bX ?_
    exact hL _ _ ⟨[],κ,rfl,(fun _ z=>nomatch z),AV _,Wgt.nil,Chg.refl ok,T5,k4.ex e5,ExS.ofEx (e04.trans e5)⟩
  .refine jM rfl ?_
   refine bX ?_;exact hL _ _ ⟨[],κ,rfl,(fun _ z=>nomatch z),AV _,Wgt.nil,Chg.refl ok,T4,k4,ExS.ofEx e04⟩
 rintro ρ' C5 ⟨ls,κ',rfl,h1,h2,h3,h4,T5,k5,x5⟩
 try dsimp only
 refine⟨zz 6 rfl,?_⟩;exact fin ls κ' C5 h1 h2 h3 h4 T5 k5 x5
end
def Kv (e:Nat):GC:=fun ts C Q=>∃(t k:Addr) (d:Nat) (ns:List Int) (κ:Kt),ts=[.ref t,.ref k,.int (d:Nat)]/\Tp C t ns/\KAt C t k κ/\Kok κ e []/\0 < κ.e /\
 ∀(l:Ln) (κ':Kt) (C':CH),LnOk κ.bs κ.rs 3 [] l->Wgt e [] κ κ' 1 l.tw l.pw->Chg κ κ'->Tp C' t ns->KAt C' t k κ'->ExS [t,k] C C'->Q l.pv C'
section
variable {P:Program}{w:World}{K:DK}{mg:Str->Option Value}{base:Heap}{a:Adr}
theorem ok_line (T:Txt P w K mg a)(e d r:Nat)(he:0 < e)(h7:7<=r)
  (rK:FnOk P w K mg base CX0 r (a.f 20) (a.d 20) U0 (spC K (aC e d)))
  (gF:FnOk P w K mg base CX0 r (a.f 16) (a.d 16) U0 (spC K (iL e d)))
  (Vw:FnOk P w K mg base CX0 r (a.f 18) (a.d 18) U5 (spC K (Kv e))) :
  FnOk P w K mg base CX0 (r+1) (a.f 19) (a.d 19) U0 (spC K (iL e d)):=by
 have S:=(T.F 19 rfl).s;have gQ:=(pZ (base:=base) T).mono (show 1<=r by omega);have mM:=(bA (base:=base) T).mono (show 4<=r by omega);have dJ:=(lL (base:=base) T 1).mono (show 5<=r by omega);have oW:=(qM (base:=base) T).mono (show 6<=r by omega)
 refine(T.F 19 rfl).ok (fun ts C R h=>?_) fun cdv A outer s H E hr=>⟨_,(xQ (cs1 4 S.nd (cf (T.F 8 rfl) gQ hr (qQ (cv 0) (ca1 zQ))))
  (xQ (uX (cw_pt (cw_and (ct2 iB tY (cv 4) zQ) (cw_and (ct2 zK lZ (wZ (rX hr) (cv 1) vQ (fun _ _=>rfl)) zQ) (cw_and1 (ct2 zK lZ (cln T.vJ (wZ (rX hr) (cv 1) vQ (fun _ _=>rfl))) zQ))))) (xQ (yK (rX hr) (cv 1) vQ (iQ qV pJ (wZ (rX hr) (cv 1) vQ (fun _ _=>rfl)) zQ))
  (kQ (cQ (cf (T.F 17 rfl) oW hr (qQ (cv 0) (qQ (cv 1) (qQ (cv 2) (ca1 (cx (wZ (rX hr) (cv 1) vQ (fun _ _=>rfl)) (cf (T.F 8 rfl) gQ hr (qQ (cv 0) (ca1 (cln T.vJ (wZ (rX hr) (cv 1) vQ (fun _ _=>rfl))))))))))))))) aQ)
  (xQ (uX (cw_pt (cw_and (ct2 cX kX (cv 4) zQ) (cw_and1 (ct2 zK lZ (cv 3) zQ)))) (xQ (cs1 5 S.nd (cx (nX (qQ vQ (qQ vQ (ca1 vQ)))) (cf (T.F 8 rfl) gQ hr (qQ (cv 0) (ca1 zQ)))))
  (xQ (cs1 6 S.nd (cf (T.F 13 rfl) mM hr (qQ (cv 0) (qQ (cv 1) (ca1 (cv 2))))))
  (kQ (cQ (bQ (qQ vQ (qQ (cv 6) (qQ (cv 5) (qQ (cf (T.F 12 rfl) dJ hr (qQ (cv 0) (qQ (cv 1) (qQ (cv 2) (ca1 zQ))))) (ca1 (cf (T.F 20 rfl) rK hr (qQ (cv 0) (qQ (cv 1) (qQ (cv 2) (ca1 (iQ qV pJ (cv 3) zQ)))))))))))))))) aQ)
  (xQ (uX (cw_pt (cw_and (ct2 cX kX (cv 4) zQ) (cw_and1 (ct2 zK lZ (cv 3) zQ)))) (xQ (cs1 7 S.nd (cf (T.F 12 rfl) dJ hr (qQ (cv 0) (qQ (cv 1) (qQ (cv 2) (ca1 zQ))))))
  (xQ (cs1 8 S.nd (cf (T.F 20 rfl) rK hr (qQ (cv 0) (qQ (cv 1) (qQ (cv 2) (ca1 (iQ qV pJ (cv 3) zQ)))))))
  (kQ (cQ (bQ (qQ vQ (qQ (cv 7) (qQ (cv 8) (ca1 (cf (T.F 20 rfl) rK hr (qQ (cv 0) (qQ (cv 1) (qQ (cv 2) (ca1 (iQ qV pJ (cv 3) zQ))))))))))))))) aQ)
  (xQ (uX (cw_pt (cw_and (ct2 zK lZ (cv 4) zQ) (cw_and1 (ct2 zK lZ (wZ (rX hr) (cv 1) vQ (fun _ _=>rfl)) zQ)))) (kQ (cQ (cf (T.F 18 rfl) Vw hr (qQ (cv 0) (qQ (cv 1) (ca1 (cv 3))))))) aQ)
  (kQ (cQ (cf (T.F 16 rfl) gF hr (qQ (cv 0) (qQ (cv 1) (qQ (cv 2) (ca1 (cv 3))))))))))))),?_⟩
 .obtain ⟨t,k,τ,ns,κ,rfl,_⟩:=h; rfl
 rintro ts C R ⟨t,k,τ,ns,κ,rfl,hT,hk,ok,q⟩;have hτ:=ok.t he;refine yQ ?_;refine⟨t,9,ns,rfl,hT,by decide,by decide,fun v C1 v0 v1 T1 e1=>?_⟩
 try dsimp only
 have k1:=hk.ex e1;obtain⟨dn,edn⟩:=mN e d
 have low:∀(ls:List Ln),(∀x∈ls,∃d',d=d'+1/\LnOk κ.bs κ.rs (vV e d') τ x)->∀x∈ls,LnOk κ.bs κ.rs dn τ x:=by
  intro ls h x hx;obtain⟨d',rfl,h'⟩:=h x hx;rw[jP] at edn;have:dn=vV e d':=by omega
  rw[this]; exact h'
 refine vX (fun ρ' C'=>C'=C1/\ρ'=[some (.ref t),some (.ref k),some (.tup (τ.map PV.str)),some (.int (d:Nat)),some (.int v),none,none,none,none]) (fun L hL=>?_) ?_
 .refine i_i ?_
  refine uZ (fun hb=>?_) fun hb=>?_
  .refine oJ k1.at_ rfl pH ?_
   refine i_i ?_;refine uZ (fun hb2=>?_) fun hb2=>?_
   .refine oJ k1.at_ rfl iD ?_
    refine wG k1.rx ?_;refine i_i ?_;refine uZ (fun hb3=>?_) fun hb3=>?_
    .have hb2:=AX hb2
     rw[AA] at hb3;have hb3:=AX hb3;refine dX ?_;refine oJ k1.at_ rfl pH ?_;refine i_i ?_;refine cW k1.at_ rfl (by show 6<=1000; decide) ?_;rw[XA]
     try dsimp only
     have k2:=k1.put κ.l (κ.p - 1) κ.e κ.la;have T2:=T1.put k1.nk (.dK (sX κ.b κ.r κ.l (κ.p - 1) κ.e (bG κ.la)));refine oJ k2.at_ rfl iD ?_;refine oJ k2.at_ rfl iD ?_;refine wG k2.rx ?_;have lr:=hk.lr;have el:(κ.rs.map PV.str).length=κ.rs.length:=AA _;refine⟨t,_,ns,rfl,T2,by show(0:Int) < (((κ.rs.map PV.str).length:Nat):Int); rw[el]; exact hb3,by show(((κ.rs.map PV.str).length:Nat):Int) < _; rw[el]; omega,fun i C3 i0 i1 T3 e3=>?_⟩
     have i1:i < (((κ.rs.map PV.str).length:Nat):Int):=i1;rw[el] at i1;have k3:=k2.ex e3;refine mJ k3.rx (gK (f:=PV.str) "" i0 i1) ?_;refine⟨t,k,τ,ns,{ κ with p:=κ.p - 1 },_,rfl,T3,k3,ok.tl,fun o g C4 ho hg hgl T4 e4=>?_⟩;have p0:=ok.p0;refine q _ { κ with p:=κ.p - 1 } C4 ?_ ?_ ?_ T4 (k3.ex e4) ?_
     .rw [edn]; exact⟨ho,kY i0 i1,hg,hgl⟩
     .refine ⟨?_,?_,fun z=>absurd hτ z⟩
      .show ((1:Nat):Int)<=mOf e * (1+(κ.l - κ.l))
       rcases zM e with z | z<;>rw[z]<;>omega
      .show ((1:Nat):Int)<=(κ.p - (κ.p - 1))+zOf κ * (κ.e - κ.e)
       rw[Int.sub_self κ.e,Int.mul_zero]; omega
     .exact ⟨rfl,rfl,rfl,rfl,rfl,ok.l0,A3 _,by show 0<=κ.p - 1; omega,by show κ.p - 1<=κ.p; omega,ok.e0,A3 _⟩
     .exact (((ExS.ofEx e1).at (by simp) _).trans (ExS.ofEx e3)).trans (ExS.ofEx e4)
    .refine bX ?_
     exact hL _ _ ⟨rfl,rfl⟩
   .refine jM rfl ?_
    refine bX ?_;exact hL _ _ ⟨rfl,rfl⟩
  .refine jM rfl ?_
   refine bX ?_;exact hL _ _ ⟨rfl,rfl⟩
 rintro ρ' C' ⟨rfl,rfl⟩
 try dsimp only
 refine vX (fun ρ' C''=>C''=C'/\ρ'=[some (.ref t),some (.ref k),some (.tup (τ.map PV.str)),some (.int (d:Nat)),some (.int v),none,none,none,none]) (fun L hL=>?_) ?_
 .refine mX (oX _ _) ?_
  refine uZ (fun hb=>?_) fun hb=>?_
  .refine i_i ?_
   refine uZ (fun hb2=>?_) fun hb2=>?_
   .have hb2:=AX hb2
    obtain⟨d',rfl⟩:∃d',d=d'+1:=⟨d - 1,by omega⟩;refine yQ ?_;refine⟨zz 3 rfl,fun p hp=>?_⟩;refine⟨t,3,ns,rfl,T1.new hp _,by decide,by decide,fun i C2 i0 i1 T2 e2=>?_⟩;refine mJ (e2 p _ (T1.ne hp) jQ) (gK (f:=PV.str) (ss:=["a","ab","b"]) "" i0 i1) ?_;have e02:Ex t C C2:=fun b o n z=>e2 b o n (Gr.new hp _ _ _ (e1 b o n z))
    try dsimp only
    refine yQ ?_;refine⟨t,k,τ,ns,κ,rfl,T2,hk.ex e02,ok.tl,fun o C3 ho T3 e3=>?_⟩
    try dsimp only
    refine⟨t,k,τ,ns,κ,rfl,T3,(hk.ex e02).ex e3,ok.tl,fun rk C4 hrk T4 e4=>?_⟩;refine i_i ?_;refine⟨d',rfl,t,k,τ,ns,κ,?_,T4,((hk.ex e02).ex e3).ex e4,ok,fun ls κ' C5 h1 h2 h3 h4 T5 k5 x5=>⟨zz 5 rfl,?_⟩⟩
    .have:((d'+1:Nat):Int) - 1=(d':Nat):=by omega
     rw[this]
    refine q (.give o _ rk ls) κ' C5 ?_ h3.one h4 T5 k5 ((ExS.ofEx ((e02.trans e3).trans e4)).trans x5);rw[edn];exact⟨ho,kY (ss:=["a","ab","b"]) i0 i1,hrk,low ls fun x hx=>⟨d',rfl,h1 x hx⟩,h2⟩
   .refine bX ?_
    exact hL _ _ ⟨rfl,rfl⟩
  .refine jM rfl ?_
   refine bX ?_;exact hL _ _ ⟨rfl,rfl⟩
 rintro ρ' C'' ⟨rfl,rfl⟩
 try dsimp only
 refine vX (fun ρ' C'=>C'=C''/\ρ'=[some (.ref t),some (.ref k),some (.tup (τ.map PV.str)),some (.int (d:Nat)),some (.int v),none,none,none,none]) (fun L hL=>?_) ?_
 .refine mX (oX _ _) ?_
  refine uZ (fun hb=>?_) fun hb=>?_
  .refine i_i ?_
   refine uZ (fun hb2=>?_) fun hb2=>?_
   .have hb2:=AX hb2
    obtain⟨d',rfl⟩:∃d',d=d'+1:=⟨d - 1,by omega⟩;have ed:((d'+1:Nat):Int) - 1=(d':Nat):=by omega
    refine yQ ?_;refine⟨t,k,τ,ns,κ,rfl,T1,k1,ok.tl,fun rk C4 hrk T4 e4=>?_⟩
    try dsimp only
    refine yQ ?_;refine i_i ?_;refine⟨d',rfl,t,k,τ,ns,κ,by rw[ed],T4,k1.ex e4,ok,fun ls κ' C5 h1 h2 h3 h4 T5 k5 x5=>?_⟩
    try dsimp only
    refine i_i ?_;refine⟨d',rfl,t,k,τ,ns,κ',by rw[ed],T5,k5,ok.chg h4,fun ls2 κ2 C6 g1 g2 g3 g4 T6 k6 x6=>⟨zz 4 rfl,?_⟩⟩;refine q (.when rk ls ls2) κ2 C6 ?_ (Wgt.up (h3.add g3 h4)) (h4.trans g4) T6 k6 (((ExS.ofEx (e1.trans e4)).trans x5).trans x6);rw[edn];refine⟨hrk,⟨low ls fun x hx=>⟨d',rfl,h1 x hx⟩,h2⟩,low ls2 fun x hx=>⟨d',rfl,?_⟩,g2⟩;have:=g1 x hx;rw[h4.bs,h4.rs] at this
    exact this
   .refine bX ?_
    exact hL _ _ ⟨rfl,rfl⟩
  .refine jM rfl ?_
   refine bX ?_;exact hL _ _ ⟨rfl,rfl⟩
 rintro ρ' C2 ⟨rfl,rfl⟩
 try dsimp only
 refine vX (fun ρ' C'=>C'=C2/\ρ'=[some (.ref t),some (.ref k),some (.tup (τ.map PV.str)),some (.int (d:Nat)),some (.int v),none,none,none,none]) (fun L hL=>?_) ?_
 .refine i_i ?_
  refine uZ (fun hb=>?_) fun hb=>?_
  .refine oJ k1.at_ rfl qL ?_
   refine i_i ?_;refine uZ (fun hb2=>?_) fun hb2=>?_
   .have hb2:=AX hb2
    subst hτ;refine⟨t,k,d,ns,κ,rfl,T1,k1,ok,hb2,fun l κ' C5 h1 h2 h3 T5 k5 x5=>?_⟩;refine q l κ' C5 (h1.mono ?_) h2 h3 T5 k5 ((ExS.ofEx e1).trans x5);have:=ok.e1;unfold vV;rw[AT (by omega)];omega
   .refine bX ?_
    exact hL _ _ ⟨rfl,rfl⟩
  .refine jM rfl ?_
   refine bX ?_;exact hL _ _ ⟨rfl,rfl⟩
 rintro ρ' C3 ⟨rfl,rfl⟩
 try dsimp only
 exact⟨t,k,τ,ns,κ,rfl,T1,k1,ok,fun l κ' C5 h1 h2 h3 T5 k5 x5=>q l κ' C5 h1 h2 h3 T5 k5 ((ExS.ofEx e1).trans x5)⟩
end
theorem Ln.pvs_app (xs ys:List Ln):Ln.pvs (xs++ys)=Ln.pvs xs++Ln.pvs ys:=by
 rw[Ln.pvs_map,Ln.pvs_map,Ln.pvs_map,AQ]
theorem Ln.pvs_len (xs:List Ln):(Ln.pvs xs).length=xs.length:=by rw[Ln.pvs_map,AA]
theorem Wgt.pay {e:Nat}{τ:List Str}{κ κ':Kt}{tw pw:Nat}(h:Wgt e τ { κ with l:=κ.l - 1 } κ' 1 tw pw):Wgt e τ κ κ' 0 tw pw:=by
 refine⟨?_,h.p,h.n⟩;have:=h.t;have this:(tw:Int)<=mOf e * (1+(κ.l - 1 - κ'.l)):=this;have e2:1+(κ.l - 1 - κ'.l)=0+(κ.l - κ'.l):=by omega
 rw[e2] at this;exact this
theorem KAt.upd {C:CH}{t k p:Addr}{κ:Kt}(h:KAt C t k κ)(n1:p≠k)(n2:p≠κ.b)(n3:p≠κ.r)(o:CO):KAt (uQ C p o) t k κ :=
 ⟨by rw[wQ (Ne.symm n1)]; exact h.at_,by rw[wQ (Ne.symm n2)]; exact h.bx,by rw[wQ (Ne.symm n3)]; exact h.rx,h.nk,h.nb,h.nr,h.lb,h.lr⟩
section
variable {P:Program}{w:World}{K:DK}{mg:Str->Option Value}{base:Heap}{a:Adr}
theorem JJ (T:Txt P w K mg a)(e d r:Nat)(h1:1<=r)
  (Vv:FnOk P w K mg base CX0 r (a.f 19) (a.d 19) U0 (spC K (iL e d))) :
  FnOk P w K mg base CX0 (r+1) (a.f 20) (a.d 20) U0 (spC K (kB e d)):=by
 have S:=(T.F 20 rfl).s;have gQ:=(pZ (base:=base) T).mono (show 1<=r by omega)
 refine(T.F 20 rfl).ok (fun ts C R h=>?_) fun cdv A outer s H E hr=>⟨_,(xQ (cs1 4 S.nd (nX eX))
  (xQ (yD PassesOwn.never rfl rfl T.fY (ca1 (iQ qV pJ (iQ yX gX zQ (cf (T.F 8 rfl) gQ hr (qQ (cv 0) (ca1 zQ)))) (lK mU mD rfl T.Qm rfl (ca1 (kF iB tY (cv 3) zQ (aU _)))))) (cg1 5 S.nd) (kQ (uX (ct2 zK lZ (wZ (rX hr) (cv 1) vQ (fun _ _=>rfl)) zQ) (xQ (yK (rX hr) (cv 1) vQ (iQ qV pJ (wZ (rX hr) (cv 1) vQ (fun _ _=>rfl)) zQ))
  (kQ (cZ (cap (cv 4) (cf (T.F 19 rfl) Vv hr (qQ (cv 0) (qQ (cv 1) (qQ (cv 2) (ca1 (cv 3)))))))))) aQ)))
  (kQ (cQ (ctp T.aX (cv 4)))))),?_⟩
 .obtain ⟨t,k,τ,ns,κ,rfl,_⟩:=h; rfl
 rintro ts C R ⟨t,k,τ,ns,κ,rfl,hT,hk,ok,q⟩;refine yQ ?_;refine⟨zz 0 rfl,fun h hh=>?_⟩;have nht:=hT.ne hh;have nhk:h≠k:=fun z=>by subst z; rw[hk.at_] at hh; cases hh
 have nS:h∉[t,k]:=fun z=>by
  rcases Ah.1 z with z | z
  .exact nht z
  .exact nhk (AH.1 z)
 have nb:h≠κ.b:=fun z=>by rw[z,hk.bx] at hh; cases hh
 have nr:h≠κ.r:=fun z=>by rw[z,hk.rx] at hh; cases hh
 try dsimp only
 have e1:Ex t C (uQ C h (.lst [])):=Ex.new hh _;refine vX (fun ρ' C'=>∃(ls:List Ln) (κ':Kt) (x5:Option PV),ρ'=[some (.ref t),some (.ref k),some (.tup (τ.map PV.str)),some (.int (d:Nat)),some (.ref h),x5]/\C' h=some (.lst (Ln.pvs ls))/\(∀x∈ls,LnOk κ.bs κ.rs (vV e d) τ x)/\ls.length<=3/\Wgt e τ κ κ' 0 (Ln.tws ls) (Ln.pws ls)/\Chg κ κ'/\Tp C' t ns/\KAt C' t k κ'/\ExS [t,k] C C') (fun L hL=>?_) ?_
 .refine ⟨t,3,ns,rfl,hT.new hh _,by decide,by decide,fun v C2 v0 v1 T2 e2=>?_⟩
  refine uY ?_;refine i_i ?_;refine QS ?_;refine i_i ?_;generalize hn:1+v - (if decide ((d:Int) < 2)=true then (1:Int) else 0)=n;have hn3:n<=3/\0<=n:=by rw[<- hn]; split<;>omega
  refine⟨by omega,by omega,?_⟩;refine eZ (fun zs ρ C'=>∃(ls:List Ln) (κ':Kt) (x5:Option PV),ρ=[some (.ref t),some (.ref k),some (.tup (τ.map PV.str)),some (.int (d:Nat)),some (.ref h),x5]/\C' h=some (.lst (Ln.pvs ls))/\(∀x∈ls,LnOk κ.bs κ.rs (vV e d) τ x)/\ls.length+zs.length<=3/\Wgt e τ κ κ' 0 (Ln.tws ls) (Ln.pws ls)/\Chg κ κ'/\Tp C' t ns/\KAt C' t k κ'/\ExS [t,k] C C') ?_ ?_ _ _ _ ⟨[],κ,_,rfl,e2 _ _ nht jQ,(fun _ z=>nomatch z),by rw[AA,Ak]; show 0+_<=3; omega,Wgt.nil,Chg.refl ok,T2,(hk.ex e1).ex e2,ExS.ofEx (e1.trans e2)⟩
  .rintro z zs ρ C3 ⟨ls,κ1,x5,rfl,mh,hls,hll,hw,hc,T3,k3,x3⟩ L3 hL3
   have ok3:=ok.chg hc;refine oJ k3.at_ rfl fB ?_;refine i_i ?_;refine uZ (fun hb=>?_) fun hb=>?_
   .have hb:=AX hb
    refine dX ?_;refine oJ k3.at_ rfl fB ?_;refine i_i ?_;refine cW k3.at_ rfl (by show 6<=1000; decide) ?_;rw[qT]
    try dsimp only
    have k4:=k3.put (κ1.l - 1) κ1.p κ1.e κ1.la;have T4:=T3.put k3.nk (.dK (sX κ1.b κ1.r (κ1.l - 1) κ1.p κ1.e (bG κ1.la)));have mh4:uQ C3 k (.dK (sX κ1.b κ1.r (κ1.l - 1) κ1.p κ1.e (bG κ1.la))) h=some (.lst (Ln.pvs ls)):=by rw[wQ nhk]; exact mh
    have c4:Chg κ1 { κ1 with l:=κ1.l - 1 }:=⟨rfl,rfl,rfl,rfl,rfl,by show 0<=κ1.l - 1; omega,by show κ1.l - 1<=κ1.l; omega,hc.p0,A3 _,hc.e0,A3 _⟩;refine⟨yG mh4,?_⟩;refine⟨t,k,τ,ns,_,rfl,T4,k4,ok3.chg c4,fun l κ2 C5 g1 g2 g3 T5 k5 x5=>?_⟩;have mh5:=x5 h _ nS mh4;refine nP mh5 (by rw[Ln.pvs_len]; exact AR (show ls.length < 4 by omega) (by decide)) ?_;refine hL3 _ _ ⟨ls++[l],κ2,_,rfl,by rw[jQ,Ln.pvs_app]; rfl,fun x hx=>?_,by rw[AC,AO]; rw[AI] at hll; omega,?_,hc.trans (c4.trans g3),T5.put nht _,?_,?_⟩
    .rcases An.1 hx with hx | hx
     .exact hls x hx
     .cases AH.1 hx
      have:LnOk κ1.bs κ1.rs (vV e d) τ l:=g1;rw[hc.bs,hc.rs] at this;exact this
    .rw [Ln.tws_app,Ln.pws_app]
     have:=hw.add g2.pay hc;exact this
    .exact k5.upd nhk (by rw[g3.b]; show h≠κ1.b; rw[hc.b]; exact nb) (by rw[g3.r]; show h≠κ1.r; rw[hc.r]; exact nr) _
    .exact (((x3.at (by simp) _).trans x5).put hh _)
   .refine bX ?_
    exact hL3 _ _ ⟨ls,κ1,_,rfl,mh,hls,by rw[AI] at hll; omega,hw,hc,T3,k3,x3⟩
  .rintro ρ C3 ⟨ls,κ1,x5,rfl,mh,hls,hll,hw,hc,T3,k3,x3⟩
   exact hL _ _ ⟨ls,κ1,_,rfl,mh,hls,by omega,hw,hc,T3,k3,x3⟩
 rintro ρ' C3 ⟨ls,κ1,x5,rfl,mh,hls,hll,hw,hc,T3,k3,x3⟩
 try dsimp only
 refine wJ mh ?_;exact q ls κ1 C3 hls (by omega) hw hc T3 k3 x3
end
section
variable {P:Program}{w:World}{K:DK}{mg:Str->Option Value}{base:Heap}{a:Adr}
structure EI (C0 C:CH)(t k h:Addr)(ns:List Int)(κ κ':Kt)(name:Str)(ls:List Ln)(m:Nat):Prop where
 mh:C h=some (.lst (Ln.pvs ls))
 ok:∀x∈ls,LnOk κ.bs κ.rs 1 [name] x
 len:ls.length+m<=2
 tw:(Ln.tws ls:Int)<=κ.l - κ'.l
 pw:Ln.pws ls<=if κ.la.isSome then ls.length else 0
 ch:Chg κ κ'
 p:κ'.p=κ.p
 e:κ'.e=κ.e
 tp:Tp C t ns
 kt:KAt C t k κ'
 ex:ExS [t,k] C0 C
theorem ok_each (T:Txt P w K mg a)(r:Nat)(h1:6<=r)
  (gF:FnOk P w K mg base CX0 r (a.f 16) (a.d 16) U0 (spC K (iL 0 0))) :
  FnOk P w K mg base CX0 (r+1) (a.f 18) (a.d 18) U5 (spC K (Kv 1)):=by
 have S:=(T.F 18 rfl).s;have gQ:=(pZ (base:=base) T).mono (show 1<=r by omega);have nZ:=(sG (base:=base) T).mono (show 2<=r by omega);have qU:=(uC (base:=base) T).mono (show 3<=r by omega);have oW:=(qM (base:=base) T).mono (show 6<=r by omega)
 refine(T.F 18 rfl).ok (fun ts C R h=>?_) fun cdv A outer s H E hr=>⟨_,(xQ (yK (rX hr) (cv 1) vQ (iQ qV pJ (wZ (rX hr) (cv 1) vQ (fun _ _=>rfl)) zQ))
  (xQ (cs1 3 S.nd (cx (cf (T.F 9 rfl) nZ hr (qQ (cv 0) (ca1 zQ))) zQ))
  (xQ (cs1 4 S.nd (bQ (qQ vQ (ca1 (cf (T.F 8 rfl) gQ hr (qQ (cv 0) (ca1 zQ)))))))
  (xQ (uX (ct2 cX kX (cf (T.F 8 rfl) gQ hr (qQ (cv 0) (ca1 zQ))) zQ) (kQ (cs1 4 S.nd (cf (T.F 11 rfl) qU hr (qQ (cv 0) (qQ (cv 1) (ca1 (bQ eX))))))) aQ)
  (xQ (cs1 5 S.nd (nX eX))
  (xQ (yD PassesOwn.never rfl rfl T.fY (ca1 (iQ yX gX zQ (cf (T.F 8 rfl) gQ hr (qQ (cv 0) (ca1 zQ))))) (cg1 6 S.nd) (kQ (uX (ct2 zK lZ (wZ (rX hr) (cv 1) vQ (fun _ _=>rfl)) zQ) (xQ (yK (rX hr) (cv 1) vQ (iQ qV pJ (wZ (rX hr) (cv 1) vQ (fun _ _=>rfl)) zQ))
  (kQ (uX (cw_pt (cw_and (ct2 op_notN KW (wZ (rX hr) (cv 1) vQ (fun _ _=>rfl)) uP) (cw_and1 (ct2 cX kX (cf (T.F 8 rfl) gQ hr (qQ (cv 0) (ca1 zQ))) zQ)))) (kQ (cZ (cap (cv 5) (cf (T.F 17 rfl) oW hr (qQ (cv 0) (qQ (cv 1) (qQ (bQ (ca1 (cv 3))) (ca1 (wZ (rX hr) (cv 1) vQ (fun _ _=>rfl)))))))))) (kQ (cZ (cap (cv 5) (cf (T.F 16 rfl) gF hr (qQ (cv 0) (qQ (cv 1) (qQ (bQ (ca1 (cv 3))) (ca1 zQ))))))))))) aQ)))
  (kQ (cQ (bQ (qQ vQ (qQ (cv 3) (qQ (cv 4) (ca1 (ctp T.aX (cv 5))))))))))))))),?_⟩
 .obtain ⟨t,k,d,ns,κ,rfl,_⟩:=h; rfl
 rintro ts C R ⟨t,k,d,ns,κ,rfl,hT,hk,ok,he,q⟩;have he1:κ.e=1:=by have:=ok.e1; omega
 refine dX ?_;refine oJ hk.at_ rfl qL ?_;refine i_i ?_;refine cW hk.at_ rfl (by show 6<=1000; decide) ?_;rw[uL]
 try dsimp only
 have k1:=hk.put κ.l κ.p (κ.e - 1) κ.la;have T1:=hT.put hk.nk (.dK (sX κ.b κ.r κ.l κ.p (κ.e - 1) (bG κ.la)));have x1:ExS [t,k] C (uQ C k (.dK (sX κ.b κ.r κ.l κ.p (κ.e - 1) (bG κ.la)))):=ExS.refl.at (by simp) _;refine yQ ?_;refine⟨t,1,ns,rfl,T1,by decide,by decide,fun p ss C2 m2 _ pt hl nd T2 e2=>?_⟩;have hl:ss.length=1:=hl
 obtain⟨name,rfl⟩:∃tag,ss=[tag]:=by
  match ss,hl with
  |[x],_=>exact⟨x,rfl⟩
 refine mJ m2 sQ ?_
 try dsimp only
 refine yQ ?_;refine⟨t,4,ns,rfl,T2,by decide,by decide,fun v C3 v0 v1 T3 e3=>⟨zz 2 rfl,?_⟩⟩
 try dsimp only
 have k3:=(k1.ex e2).ex e3;have x3:ExS [t,k] C C3:=x1.trans (ExS.ofEx (e2.trans e3));refine vX (fun ρ' C'=>∃rk:Rk,rk.ok κ.bs [] 0/\ρ'=[some (.ref t),some (.ref k),some (.int (d:Nat)),some (.str name),some rk.pv,none,none]/\Tp C' t ns/\Ex t C3 C') (fun L hL=>?_) ?_
 .refine ⟨t,3,ns,rfl,T3,by decide,by decide,fun z C4 z0 z1 T4 e4=>?_⟩
  refine mX (oX _ _) ?_;refine uZ (fun hb=>?_) fun hb=>?_
  .refine ⟨zz 0 rfl,?_⟩
   refine⟨t,k,[],ns,_,rfl,T4,k3.ex e4,AV _,fun rk C5 hrk T5 e5=>?_⟩;exact hL _ _ ⟨rk,hrk,rfl,T5,e4.trans e5⟩
  .refine bX ?_
   exact hL _ _ ⟨.num v,⟨by omega,by omega⟩,rfl,T4,e4⟩
 rintro ρ' C4 ⟨rk,hrk,rfl,T4,e4⟩
 try dsimp only
 have k4:=k3.ex e4;have x4:ExS [t,k] C C4:=x3.trans (ExS.ofEx e4);have k5:KAt C4 t k { κ with l:=κ.l,e:=κ.e - 1 }:=k4;have T5:=T4;have x5:=x4;generalize C4=C5 at k5 T5 x5 ⊢;refine yQ ?_;refine⟨zz 0 rfl,fun h hh=>?_⟩;have nht:=T5.ne hh;have nhk:h≠k:=fun z=>by subst z; rw[k5.at_] at hh; cases hh
 have nb:h≠κ.b:=fun z=>by have:=k5.bx; rw[<- z,hh] at this; cases this
 have nr:h≠κ.r:=fun z=>by have:=k5.rx; rw[<- z,hh] at this; cases this
 have nS:h∉[t,k]:=fun z=>by
  rcases Ah.1 z with z | z
  .exact nht z
  .exact nhk (AH.1 z)
 have hh0:C h=none:=x5.none nS hh
 try dsimp only
 have c5:Chg κ { κ with l:=κ.l,e:=κ.e - 1 }:=⟨rfl,rfl,rfl,rfl,rfl,ok.l0,A3 _,ok.p0,A3 _,by show 0<=κ.e - 1; omega,by show κ.e - 1<=κ.e; omega⟩;have ok5:Kok { κ with l:=κ.l,e:=κ.e - 1 } 0 [name]:=⟨c5.l0,B3 c5.l1 ok.l1,ok.p0,ok.p1,c5.e0,by show κ.e - 1<=0; omega,fun z=>absurd z (by decide),fun z=>absurd (show(0:Int) < κ.e - 1 from z) (by omega),by show 1<=4; decide⟩;refine vX (fun ρ' C'=>∃(ls:List Ln) (κ':Kt) (x7:Option PV),ρ'=[some (.ref t),some (.ref k),some (.int (d:Nat)),some (.str name),some rk.pv,some (.ref h),x7]/\EI C C' t k h ns { κ with l:=κ.l,e:=κ.e - 1 } κ' name ls 0) (fun L hL=>?_) ?_
 .refine ⟨t,2,ns,rfl,T5.new hh _,by decide,by decide,fun v2 C6 v20 v21 T6 e6=>?_⟩
  refine uY ?_;refine⟨by omega,by omega,?_⟩;have k6:KAt C6 t k { κ with l:=κ.l,e:=κ.e - 1 }:=(k5.upd nhk nb nr _).ex e6;refine eZ (fun zs ρ C'=>∃(ls:List Ln) (κ':Kt) (x7:Option PV),ρ=[some (.ref t),some (.ref k),some (.int (d:Nat)),some (.str name),some rk.pv,some (.ref h),x7]/\EI C C' t k h ns { κ with l:=κ.l,e:=κ.e - 1 } κ' name ls zs.length) ?_ ?_ _ _ _ ⟨[],_,_,rfl,⟨e6 _ _ nht jQ,(fun _ z=>nomatch z),by rw[AA,Ak]; show 0+_<=2; omega,by show(0:Int)<=_ - _; omega,AV _,Chg.refl ok5,rfl,rfl,T6,k6,(x5.put hh0 _).trans (ExS.ofEx e6)⟩⟩
  .rintro z zs ρ C7 ⟨ls,κ1,x7,rfl,I⟩ L3 hL3
   have ok7:=ok5.chg I.ch;have hll:=I.len;rw[AI] at hll;refine oJ I.kt.at_ rfl fB ?_;refine i_i ?_;refine uZ (fun hb=>?_) fun hb=>?_
   .have hb:=AX hb
    refine dX ?_;refine oJ I.kt.at_ rfl fB ?_;refine i_i ?_;refine cW I.kt.at_ rfl (by show 6<=1000; decide) ?_;rw[qT]
    try dsimp only
    have k8:=I.kt.put (κ1.l - 1) κ1.p κ1.e κ1.la;have T8:=I.tp.put hk.nk (.dK (sX κ1.b κ1.r (κ1.l - 1) κ1.p κ1.e (bG κ1.la)));have mh8:uQ C7 k (.dK (sX κ1.b κ1.r (κ1.l - 1) κ1.p κ1.e (bG κ1.la))) h=some (.lst (Ln.pvs ls)):=by rw[wQ nhk]; exact I.mh
    have x8:ExS [t,k] C (uQ C7 k (.dK (sX κ1.b κ1.r (κ1.l - 1) κ1.p κ1.e (bG κ1.la)))):=I.ex.at (by simp) _;generalize uQ C7 k (.dK (sX κ1.b κ1.r (κ1.l - 1) κ1.p κ1.e (bG κ1.la)))=C8 at k8 T8 mh8 x8 ⊢;have k8:KAt C8 t k { κ1 with l:=κ1.l - 1 }:=k8;have c8:Chg κ1 { κ1 with l:=κ1.l - 1 }:=⟨rfl,rfl,rfl,rfl,rfl,by show 0<=κ1.l - 1; omega,by show κ1.l - 1<=κ1.l; omega,I.ch.p0,A3 _,I.ch.e0,A3 _⟩
    have ela:κ1.la=κ.la:=I.ch.la
    have more:∀(l:Ln) (κ2:Kt) (C9:CH),LnOk κ.bs κ.rs 1 [name] l->(l.tw:Int)<=1+(κ1.l - 1 - κ2.l)->(l.pw<=if κ.la.isSome then 1 else 0)->Chg { κ1 with l:=κ1.l - 1 } κ2->κ2.p=κ1.p->κ2.e=κ1.e->Tp C9 t ns->KAt C9 t k κ2->ExS [t,k] C8 C9->(∀ρ' C',(∃(ls:List Ln) (κ':Kt) (x7:Option PV),ρ'=[some (.ref t),some (.ref k),some (.int (d:Nat)),some (.str name),some rk.pv,some (.ref h),x7]/\EI C C' t k h ns { κ with l:=κ.l,e:=κ.e - 1 } κ' name ls zs.length)->L3 ρ' C') ->
      jG (.ref h) [l.pv] C9 fun _ C'=>L3 [some (.ref t),some (.ref k),some (.int (d:Nat)),some (.str name),some rk.pv,some (.ref h),some z] C':=by
     intro l κ2 C9 h1 h2 h3 h4 h5 h6 T9 k9 x9 hL';have mh9:=x9 h _ nS mh8;refine nP mh9 (by rw[Ln.pvs_len]; exact AR (show ls.length < 4 by omega) (by decide)) ?_;have b2:h≠κ2.b:=by rw[h4.b]; show h≠κ1.b; rw[I.ch.b]; exact nb
     have r2:h≠κ2.r:=by rw[h4.r]; show h≠κ1.r; rw[I.ch.r]; exact nr
     refine hL' _ _ ⟨ls++[l],κ2,_,rfl,⟨by rw[jQ,Ln.pvs_app]; rfl,fun x hx=>?_,by rw[AC,AO]; omega,?_,?_,I.ch.trans (c8.trans h4),h5.trans I.p,h6.trans I.e,T9.put nht _,k9.upd nhk b2 r2 _,(x8.trans x9).put hh0 _⟩⟩
     .rcases An.1 hx with hx | hx
      .exact I.ok x hx
      .cases AH.1 hx; exact h1
     .rw [Ln.tws_app]
      have:=I.tw;show((Ln.tws ls+(l.tw+0):Nat):Int)<=_;omega
     .rw [Ln.pws_app,AC,AO]
      have g:=I.pw;have g:Ln.pws ls<=if κ.la.isSome then ls.length else 0:=g
      show Ln.pws ls+(l.pw+0)<=if κ.la.isSome then ls.length+1 else 0
      cases hz:κ.la.isSome with
      |true=>rw[hz,AW rfl] at g h3; rw[AW rfl]; omega
      |false=>rw[hz,AT AL] at g h3; rw[AT AL]; omega
    have e1z:κ1.e=0:=by have:=I.e; have:κ1.e=κ.e - 1:=this; omega
    have elseB:∀C9,Tp C9 t ns->Ex t C8 C9->iL 0 0 [.ref t,.ref k,.tup [.str name],.int 0] C9 fun v C'=>jG (.ref h) [v] C' fun _ C''=>L3 [some (.ref t),some (.ref k),some (.int (d:Nat)),some (.str name),some rk.pv,some (.ref h),some z] C'':=by
     intro C9 T9 e9;refine⟨t,k,[name],ns,_,rfl,T9,k8.ex e9,ok7.chg c8,fun l κ2 C10 g1 g2 g3 T10 k10 x10=>?_⟩;obtain⟨n1,n2⟩:=g2.n (fun z=>nomatch z);refine more l κ2 C10 ?_ ?_ (by rw[n1]; exact AV _) g3 n2 ?_ T10 k10 ((ExS.ofEx e9).trans x10) hL3
     .have:LnOk κ1.bs κ1.rs 1 [name] l:=g1
      rw[I.ch.bs,I.ch.rs] at this;exact this
     .have:=g2.t
      have this:(l.tw:Int)<=1 * (1+(κ1.l - 1 - κ2.l)):=this;omega
     .have a1:=g3.e0
      have a2:=g3.e1;have a2:κ2.e<=κ1.e:=a2;omega
    refine oJ k8.at_ rfl vS ?_;refine c_i ?_;refine if_b (fun hb2=>?_) fun hb2=>?_
    .refine ⟨t,2,ns,rfl,T8,by decide,by decide,fun z2 C9 z20 z21 T9 e9=>?_⟩
     refine mX (oX _ _) ?_;refine uZ (fun hb3=>?_) fun hb3=>?_
     .have hb2:(!X2 (bG κ1.la))=true:=hb2
      obtain⟨sl,hsl⟩:∃sl,κ1.la=some sl:=by
       cases hz:κ1.la with
       |none=>rw[hz] at hb2; cases hb2
       |some sl=>exact⟨sl,rfl⟩
      have k9:=k8.ex e9;refine⟨yG (e9 _ _ nht mh8),?_⟩;refine⟨zz 1 rfl,?_⟩;refine oJ k9.at_ rfl (v:=.str sl) (by rw[vS]; show some (bG κ1.la)=_; rw[hsl]; rfl) ?_;refine⟨t,k,[name],ns,_,sl,rfl,T9,k9,by show 1<=4; decide,fun o g C10 ho hg hgl T10 e10=>?_⟩;refine more (.part o sl g) { κ1 with l:=κ1.l - 1 } C10 ?_ ?_ ?_ (Chg.refl (ok7.chg c8)) rfl rfl T10 (k9.ex e10) ((ExS.ofEx e9).trans (ExS.ofEx e10)) hL3
      .have ho:dC κ1.bs [name] o:=ho
       have hg:yH κ1.bs [name] 1 g:=hg;rw[I.ch.bs] at ho hg;exact⟨ho,ok.ly he sl (by rw[<- ela]; exact hsl),hg,hgl⟩
      .show ((1:Nat):Int)<=1+(κ1.l - 1 - (κ1.l - 1)); omega
      .rw [<- ela,hsl]; exact AJ _
     .refine ⟨yG (e9 _ _ nht mh8),?_⟩
      refine⟨zz 1 rfl,?_⟩;exact elseB C9 T9 e9
    .refine jM rfl ?_
     refine⟨yG mh8,?_⟩;refine⟨zz 1 rfl,?_⟩;exact elseB C8 T8 Ex.refl
   .refine bX ?_
    exact hL3 _ _ ⟨ls,κ1,_,rfl,⟨I.mh,I.ok,by omega,I.tw,I.pw,I.ch,I.p,I.e,I.tp,I.kt,I.ex⟩⟩
  .rintro ρ C7 ⟨ls,κ1,x7,rfl,I⟩
   exact hL _ _ ⟨ls,κ1,_,rfl,I⟩
 rintro ρ' C7 ⟨ls,κ1,x7,rfl,I⟩
 try dsimp only
 refine wJ I.mh ?_;refine⟨zz 4 rfl,?_⟩;have cl0:=I.ch.l0;have cl1:κ1.l<=κ.l:=I.ch.l1;have ce:κ1.e=κ.e - 1:=I.e;have cp:κ1.p=κ.p:=I.p;have ctw:(Ln.tws ls:Int)<=κ.l - κ1.l:=I.tw;have cpw:Ln.pws ls<=if κ.la.isSome then ls.length else 0:=I.pw
 have cll:ls.length+0<=2:=I.len;refine q (.each name rk ls) κ1 _ ?_ ?_ ?_ I.tp I.kt I.ex
 .exact ⟨hrk,fun x hx=>(I.ok x hx).mono (by decide),by omega⟩
 .refine ⟨?_,?_,fun z=>absurd rfl z⟩
  .show ((8 * Ln.tws ls:Nat):Int)<=8 * (1+(κ.l - κ1.l))
   omega
  .show ((8 * Ln.pws ls:Nat):Int)<=(κ.p - κ1.p)+zOf κ * (κ.e - κ1.e)
   have e1:κ.e - κ1.e=1:=by omega
   rw[e1,Int.mul_one];unfold zOf
   cases hz:κ.la.isSome with
   |true=>rw[hz,AW rfl] at cpw; rw[AW rfl]; omega
   |false=>rw[hz,AT AL] at cpw; rw[AT AL]; omega
 .exact ⟨I.ch.b,I.ch.r,I.ch.bs,I.ch.rs,I.ch.la,I.ch.l0,by omega,I.ch.p0,I.ch.p1,I.ch.e0,by show κ1.e<=κ.e; omega⟩
end
structure Pt where
 name:Str
 first:List (Str×Int)
 works:List (Str×Rk)
 ls:List Ln
def Pt.pv (x:Pt):PV:=.tup [.str x.name,.tup (x.first.map rQ),.tup (x.works.map lV),.tup (Ln.pvs x.ls)]
structure Zu (rs:List Str)(cap:Nat)(x:Pt):Prop where
 fl:x.first.length<=4
 wk:yH (x.first.map (·.1)) [] 1 x.works
 wl:x.works.length<=4
 ls:∀l∈x.ls,LnOk (x.first.map (·.1)) rs 6 [] l
 ll:x.ls.length<=6
 tw:Ln.tws x.ls<=48
 pw:Ln.pws x.ls<=cap
 fb:∀c∈x.first,-1000000000<=c.2/\c.2<=1000000000
theorem Je {p:Addr}{ts:List (PV×PV)}{ps:List (Key×PV)}{C:CH}{Q:K1}(m:C p=some (.dK []))(e:prK ts=some ps)(h:ps.length<=15)(q:Q (.ref p) (uQ C p (.dK (nV [] ps)))):dD p ts C Q:=by
 unfold dD;refine⟨m,?_⟩;rw[e];exact⟨h,q⟩
theorem tO {ss:List Str}(n:Nat):kH (ss.map PV.str) (some ((n:Int)+1)) none=(ss.drop (n+1)).map PV.str:=by
 unfold kH
 have e:HT.sIx (ss.map PV.str).length 0 (some ((n:Int)+1))=min (n+1) ss.length:=by
  have:((n:Int)+1)=((n+1:Nat):Int):=by omega
  rw[this,HT.sIx_nat,AA]
 rw[e,HT.sIx_none,AA,<- List.map_drop,A6 (by rw[AA,B8]; exact AJ _)]
 congr 1
 by_cases h:n+1<=ss.length
 .rw [Nat.min_eq_left h]
 .rw [Nat.min_eq_right (by omega),B2 (AJ _),B2 (by omega)]
theorem Vm {ss:List Str}(h:1 < ss.length):∃s∈ss.drop 1,atI (ss.map PV.str) (-1)=some (.str s):=by
 unfold atI ixN;rw[AT (by decide),AA,AW (by omega)];have e:((ss.length:Int) + -1).toNat=ss.length - 1:=by omega
 refine⟨ss[ss.length - 1],?_,?_⟩
 .have:ss[ss.length - 1]=(ss.drop 1)[ss.length - 2]'(by rw[B8]; omega):=by
   rw[List.getElem_drop]
   congr 1
   omega
  rw[this];exact BI _
 .show (ss.map PV.str)[((ss.length:Int) + -1).toNat]?=_
  rw[e,Aj,AM (by omega)]
  rfl
theorem Qf {ss:List Str}{n:Nat}(h:n < ss.length):atI (ss.map PV.str) (n:Int)=some (.str ss[n]):=by
 have:=Qg (xs:=ss.map PV.str) (k:=n) (by rw[AA]; exact h);rw[List.getElem_map] at this;exact this
section
variable {P:Program}{w:World}{K:DK}{mg:Str->Option Value}{base:Heap}{a:Adr}
theorem iZ {f:Addr}{fd:FuncData}{ps:List Str}{r:Nat}{G:GC}(h:∀ts C Q,¬ G ts C Q):FnOk P w K mg base CX0 r f fd ps (spC K G) :=
 ⟨fun vs H Q E ⟨ts,C,R,_,_,z,_⟩=>(h _ _ _ z).elim,fun _ _ _ _ _ _ _ _ _ _ _ _ _ ⟨ts,C,R,_,_,z,_⟩=>(h _ _ _ z).elim⟩
theorem mT {e d r:Nat}(h:∀d',d=d'+1->FnOk P w K mg base CX0 r (a.f 20) (a.d 20) U0 (spC K (kB e d'))):FnOk P w K mg base CX0 r (a.f 20) (a.d 20) U0 (spC K (aC e d)):=by
 cases d with
 |zero=>exact iZ fun ts C Q ⟨d',e,_⟩=>by omega
 |succ d' =>
  have e:aC e (d'+1)=kB e d':=by
   funext ts C Q
   refine propext ⟨fun⟨d'',z,h⟩=>?_,fun h=>⟨d',rfl,h⟩⟩;cases At z;exact h
  rw[e];exact h d' rfl
theorem XN (T:Txt P w K mg a):FnOk P w K mg base CX0 8 (a.f 16) (a.d 16) U0 (spC K (iL 0 0)) :=
 bT (base:=base) T 0 0 7 (by decide) (mT fun d' e=>by omega)
theorem JM (T:Txt P w K mg a):FnOk P w K mg base CX0 13 (a.f 18) (a.d 18) U5 (spC K (Kv 1)) :=
 (ok_each (base:=base) T 8 (by decide) (XN T)).mono (by decide)
theorem oH (T:Txt P w K mg a)(d:Nat):FnOk P w K mg base CX0 (15+3 * d) (a.f 20) (a.d 20) U0 (spC K (kB 1 d)):=by
 have step:∀d,(∀d',d=d'+1->FnOk P w K mg base CX0 (12+3 * d) (a.f 20) (a.d 20) U0 (spC K (kB 1 d')))->FnOk P w K mg base CX0 (15+3 * d) (a.f 20) (a.d 20) U0 (spC K (kB 1 d)):=by
  intro d h;have lo:=mT (e:=1) (d:=d) (r:=12+3 * d) h;have pl:=bT (base:=base) T 1 d (12+3 * d) (by omega) lo;have ln:=ok_line (base:=base) T 1 d (12+3 * d+1) (by decide) (by omega) (lo.mono (by omega)) pl ((JM T).mono (by omega));have:=JJ (base:=base) T 1 d (12+3 * d+1+1) (by omega) ln;have e:12+3 * d+1+1+1=15+3 * d:=by omega
  rw[e] at this;exact this
 induction d with
 |zero=>exact step 0 fun d' e=>by omega
 |succ d ih=>exact step (d+1) fun d' e=>by cases At e; exact ih.mono (by omega)
end
section
variable {P:Program}{w:World}{K:DK}{mg:Str->Option Value}{base:Heap}{a:Adr}
theorem ok_or {f:Addr}{fd:FuncData}{ps:List Str}{r:Nat}{G1 G2:GC}(h1:FnOk P w K mg base CX0 r f fd ps (spC K G1))(h2:FnOk P w K mg base CX0 r f fd ps (spC K G2)):FnOk P w K mg base CX0 r f fd ps (spC K (fun ts C Q=>G1 ts C Q\/G2 ts C Q)) :=
 ⟨fun vs H Q E ⟨ts,C,R,x,y,z,u⟩=>by
  rcases z with z | z
  .exact h1.len vs H Q E ⟨ts,C,R,x,y,z,u⟩
  .exact h2.len vs H Q E ⟨ts,C,R,x,y,z,u⟩,fun A outer s H args us vs Q E rm e0 bt vl ⟨ts,C,R,x,y,z,u⟩=>by
  rcases z with z | z
  .exact h1.run A outer s H args us vs Q E rm e0 bt vl ⟨ts,C,R,x,y,z,u⟩
  .exact h2.run A outer s H args us vs Q E rm e0 bt vl ⟨ts,C,R,x,y,z,u⟩⟩
def eJ (N k:Nat):Nat:=if k=0 then 18 else if N < 4 then 2 else 1
theorem mR (N k:Nat):eJ N k<=18/\(0 < k->eJ N k<=2)/\(0 < k->4<=N->eJ N k<=1):=by
 unfold eJ
 split
 .omega
 .split<;>omega
structure KS (κ:Kt)(bl rl:Addr)(bs rs:List Str)(N k:Nat):Prop where
 b:κ.b=bl
 r:κ.r=rl
 bs:κ.bs=bs
 rs:κ.rs=rs
 l:κ.l=6
 p0:1<=κ.p
 p1:κ.p<=2
 e0:0<=κ.e
 e1:κ.e<=1
 ly:0 < κ.e->∀s,κ.la=some s->s∈κ.rs
 cap:κ.p+zOf κ * κ.e<=(eJ N k:Nat)
def gPart:GC:=fun ts C Q=>∃(t nl:Addr) (ns:List Int) (names:List Str) (k:Nat) (keyed:Bool),ts=[.ref t,.ref nl,.int (k:Nat),.bl keyed]/\Tp C t ns/\C nl=some (.lst (names.map PV.str))/\nl≠t/\names.length<=6/\k < names.length /\
 ∀(x:Pt) (C':CH),names[k]?=some x.name->Zu (names.drop (k+1)) (eJ names.length k) x->Tp C' t ns->Ex t C C'->Q x.pv C'
theorem ok_part (T:Txt P w K mg a):FnOk P w K mg base CX0 25 (a.f 21) (a.d 21) U9 (spC K gPart):=by
 have S:=(T.F 21 rfl).s;have gQ:=(pZ (base:=base) T).mono (show 1<=24 by decide);have nZ:=(sG (base:=base) T).mono (show 2<=24 by decide);have lJ:=(wU (base:=base) T).mono (show 2<=24 by decide);have dJ:=(lL (base:=base) T 1).mono (show 5<=24 by decide);have rK:=ok_or (oH (base:=base) T 3) ((oH (base:=base) T 1).mono (show 15+3 * 1<=24 by decide))
 refine(T.F 21 rfl).ok (fun ts C R h=>?_) fun cdv A outer s H E hr=>⟨_,(xQ (cs1 4 S.nd (cx (nX (qQ zQ (qQ zQ (qQ zQ (qQ zQ (qQ zQ (ca1 zQ))))))) (cf (T.F 8 rfl) gQ hr (qQ (cv 0) (ca1 zQ)))))
  (xQ (cs1 5 S.nd (cf (T.F 9 rfl) nZ hr (qQ (cv 0) (ca1 (cv 4)))))
  (xQ (cs1 6 S.nd (ce_disp (vY vQ (cv 5) (vY vQ (eI (cv 1) (yR (iQ yX gX (cv 2) zQ)) uR) (vY vQ zQ (vY vQ zQ (vY vQ zQ (vY vQ uP cps_nil))))))))
  (xQ (uX (cw_pt (cw_or (ct2 iB tY (cln T.vJ (cv 1)) zQ) (cw_or1 (cw_pt (cw_and (lI (cv 3)) (cw_and1 (ct2 cX kX (cv 2) zQ))))))) (kQ (yK (rX hr) (cv 6) vQ zQ)) aQ)
  (xQ (uX (lI (cv 3)) (xQ (yK (rX hr) (cv 6) vQ (lK mU mD rfl T.Qm rfl (ca1 (kF cX kX (cv 2) zQ (aU _)))))
  (xQ (uX (ct2 zK lZ (cln T.vJ (cv 1)) zQ) (kQ (yK (rX hr) (cv 6) vQ (cx (cv 1) (xE jL vM zQ)))) aQ)
  (kQ (uX (ct2 zK lZ (cv 2) zQ) (kQ (yK (rX hr) (cv 6) vQ zQ)) aQ)))) aQ)
  (xQ (cs1 7 S.nd (ctp T.aX (iG rfl (S.c (by decide +kernel)) (S.k rfl rfl rfl (by decide +kernel)) (cv 5) (fun _ _ _ _ _=>bJ) (fun _ _ _ _ _=>(bQ (qQ (cv 0) (ca1 (cf (T.F 10 rfl) lJ hr (ca1 (cv 1))))))))))
  (xQ (cs1 8 S.nd (cf (T.F 20 rfl) rK hr (qQ (cv 0) (qQ (cv 6) (qQ (bQ eX) (ca1 (cx (nX (qQ zQ (ca1 zQ))) (lK mU mD rfl T.Qm rfl (ca1 (kF zK lZ (cln T.vJ (cv 1)) zQ (aU _)))))))))))
  (xQ (cs1 9 S.nd (cf (T.F 9 rfl) nZ hr (qQ (cv 0) (ca1 (cf (T.F 8 rfl) gQ hr (qQ (cv 0) (ca1 zQ)))))))
  (xQ (cs1 10 S.nd (ctp T.aX (iG rfl (S.c (by decide +kernel)) (S.k rfl rfl rfl (by decide +kernel)) (cv 9) (fun _ _ _ _ _=>bJ) (fun _ _ _ _ _=>(bQ (qQ (cv 0) (ca1 (cf (T.F 12 rfl) dJ hr (qQ (cv 1) (qQ (cv 7) (qQ (bQ eX) (ca1 zQ))))))))))))
  (kQ (cQ (bQ (qQ (cx (cv 1) (cv 2)) (qQ (cv 7) (qQ (cv 10) (ca1 (cv 8))))))))))))))))),?_⟩
 .obtain ⟨t,nl,ns,names,k,keyed,rfl,_⟩:=h; rfl
 rintro ts C R ⟨t,nl,ns,names,k,keyed,rfl,hT,mn,nt,hnl,hkn,q⟩;refine yQ ?_;refine⟨zz 6 rfl,fun p1 hp1=>?_⟩;refine⟨t,6,ns,rfl,hT.new hp1 _,by decide,by decide,fun v C1 v0 v1 T1 e1=>?_⟩;have e01:Ex t C C1:=(Ex.new hp1 _).trans e1;refine mJ (e1 p1 _ (hT.ne hp1) jQ) (gK (f:=PV.int) (ss:=[0,1,1,2,2,4]) 0 v0 v1) ?_
 have hm:0<=([0,1,1,2,2,4]:List Int).getD v.toNat 0/\([0,1,1,2,2,4]:List Int).getD v.toNat 0<=4:=by
  have:v=0\/v=1\/v=2\/v=3\/v=4\/v=5:=by omega
  rcases this with rfl | rfl | rfl | rfl | rfl | rfl<;>decide
 generalize ([0,1,1,2,2,4]:List Int).getD v.toNat 0=m at hm ⊢
 try dsimp only
 refine yQ ?_;refine⟨t,m,ns,rfl,T1,hm.1,by omega,fun bl bs C2 m2 n2 bt hbl nd T2 e2=>?_⟩;have e02:=e01.trans e2;have hbs:bs.length<=4:=by omega
 try dsimp only
 refine yQ ?_;intro kd hkd;have T3:=T2.new hkd (.dK []);have nkt:=T2.ne hkd;refine uY ?_;refine sl_l (Gr.new hkd _ _ _ (e02 _ _ nt mn)) fun rl hrl=>?_;have T4:=T3.new hrl (.lst (kH (names.map PV.str) (some ((k:Int)+1)) none));have nrt:=T3.ne hrl;have nkr:kd≠rl:=fun z=>by subst z; rw[jQ] at hrl; cases hrl
 have hrl2:C2 rl=none:=by rw[wQ (Ne.symm nkr)] at hrl; exact hrl
 have nbk:bl≠kd:=fun z=>by rw[z,hkd] at m2; cases m2
 have nbr:bl≠rl:=fun z=>by rw[z,hrl2] at m2; cases m2
 rw[tO];rw[tO] at T4;refine Je (ps:=sX bl rl 6 1 1 .non) (by rw[wQ nkr]; exact jQ) rfl (by show 6<=15; decide) ?_;rw[show nV [] (sX bl rl 6 1 1 .non)=sX bl rl 6 1 1 .non from rfl]
 try dsimp only
 have T5:=T4.put nkt (.dK (sX bl rl 6 1 1 .non))
 have x5:Ex t C (uQ (uQ (uQ C2 kd (.dK [])) rl (.lst ((names.drop (k+1)).map PV.str))) kd (.dK (sX bl rl 6 1 1 .non))) :=
  ((e02.trans (Ex.new hkd _)).trans (Ex.new hrl _)).put (e02.none nkt hkd) _
 have k5:KAt (uQ (uQ (uQ C2 kd (.dK [])) rl (.lst ((names.drop (k+1)).map PV.str))) kd (.dK (sX bl rl 6 1 1 .non))) t kd ⟨bl,rl,bs,names.drop (k+1),6,1,1,none⟩:=by
  refine⟨jQ,?_,?_,nkt,bt,nrt,hbs,?_⟩
  .show uQ (uQ (uQ C2 kd (.dK [])) rl (.lst ((names.drop (k+1)).map PV.str))) kd (.dK (sX bl rl 6 1 1 .non)) bl=_
   rw[wQ nbk,wQ nbr,wQ nbk]; exact m2
  .show uQ (uQ (uQ C2 kd (.dK [])) rl (.lst ((names.drop (k+1)).map PV.str))) kd (.dK (sX bl rl 6 1 1 .non)) rl=_
   rw[wQ (Ne.symm nkr)]; exact jQ
  .show (names.drop (k+1)).length<=6
   rw[B8]; omega
 have kd0:C kd=none:=e02.none nkt hkd;generalize uQ (uQ (uQ C2 kd (.dK [])) rl (.lst ((names.drop (k+1)).map PV.str))) kd (.dK (sX bl rl 6 1 1 .non))=C5 at T5 x5 k5 ⊢;refine vX (fun ρ' C'=>∃p:Int,1<=p/\p<=2/\(0 < k->4<=names.length->p<=1)/\ρ'=[some (.ref t),some (.ref nl),some (.int (k:Nat)),some (.bl keyed),some (.int m),some (.ref bl),some (.ref kd),none,none,none,none]/\Tp C' t ns/\Ex t C C'/\KAt C' t kd ⟨bl,rl,bs,names.drop (k+1),6,p,1,none⟩) (fun L hL=>?_) ?_
 .have yes:∀L':CSt->CH->Prop,L'=L->¬ (0 < k/\4<=names.length)->fP (.ref kd) (.str "parts") (.int 2) C5 fun C4=>L' [some (.ref t),some (.ref nl),some (.int (k:Nat)),some (.bl keyed),some (.int m),some (.ref bl),some (.ref kd),none,none,none,none] C4:=by
   rintro L' rfl hn;refine cW k5.at_ rfl (by show 6<=1000; decide) ?_;exact hL _ _ ⟨2,by decide,by decide,fun h1 h2=>absurd ⟨h1,h2⟩ hn,rfl,T5.put nkt _,x5.put kd0 _,k5.put 6 2 1 none⟩
  refine wG (x5 _ _ nt mn) ?_;refine i_i ?_;refine uZ (fun hb=>?_) fun hb=>?_
  .refine if_y rfl ?_
   exact yes _ rfl (by have hb:=AX hb; rw[AA] at hb; omega)
  .refine if_b (fun hb2=>?_) fun hb2=>?_
   .refine mX (oX _ _) ?_
    refine uZ (fun hb3=>?_) fun hb3=>?_
    .exact yes _ rfl (by have hb3:=AX hb3; omega)
    .refine bX ?_
     exact hL _ _ ⟨1,by decide,by decide,fun _ _=>by decide,rfl,T5,x5,k5⟩
   .refine jM rfl ?_
    refine bX ?_;exact hL _ _ ⟨1,by decide,by decide,fun _ _=>by decide,rfl,T5,x5,k5⟩
 clear k5 T5 x5;rintro ρ' C6 ⟨p,p0,p1,p2,rfl,T6,x6,k6⟩
 try dsimp only
 have zle:∀κ:Kt,zOf κ<=16:=fun κ=>by unfold zOf; split<;>decide
 refine vX (fun ρ' C'=>∃κ:Kt,KS κ bl rl bs (names.drop (k+1)) names.length k/\ρ'=[some (.ref t),some (.ref nl),some (.int (k:Nat)),some (.bl keyed),some (.int m),some (.ref bl),some (.ref kd),none,none,none,none]/\Tp C' t ns/\Ex t C C'/\KAt C' t kd κ) (fun L hL=>?_) ?_
 .refine if_b (fun hb=>?_) fun hb=>?_
  .refine dX ?_
   refine mX (oX _ _) ?_;refine QS ?_;refine cW k6.at_ rfl (by show 6<=1000; decide) ?_;rw[uL]
   try dsimp only
   have he:∃e:Int,(if id (decide ((k:Int)=0))=true then (1:Int) else 0)=e/\((k=0/\e=1)\/(0 < k/\e=0)):=by
    by_cases hk0:k=0
    .refine ⟨1,?_,.inl ⟨hk0,rfl⟩⟩
     rw[AW (by show decide ((k:Int)=0)=true; exact Af (by omega))]
    .refine ⟨0,?_,.inr ⟨by omega,rfl⟩⟩
     rw[AT (by show ¬ decide ((k:Int)=0)=true; rw[AS (by omega)]; decide)]
   obtain⟨e,ee,hek⟩:=he;rw[ee];have k7:=k6.put 6 p e none;have T7:=T6.put nkt (.dK (sX bl rl 6 p e (bG none)));have x7:=x6.put kd0 (.dK (sX bl rl 6 p e (bG none)));have e7:(CO.dK (sX bl rl 6 p e .non))=.dK (sX bl rl 6 p e (bG none)):=rfl;show lR _ _ _ _ (uQ C6 kd (CO.dK (sX bl rl 6 p e (bG none))));generalize uQ C6 kd (CO.dK (sX bl rl 6 p e (bG none)))=C7 at k7 T7 x7 ⊢;refine vX (fun ρ' C'=>∃la:Option Str,(k=0->∀s,la=some s->s∈names.drop (k+1))/\ρ'=[some (.ref t),some (.ref nl),some (.int (k:Nat)),some (.bl keyed),some (.int m),some (.ref bl),some (.ref kd),none,none,none,none]/\Tp C' t ns/\Ex t C C'/\KAt C' t kd ⟨bl,rl,bs,names.drop (k+1),6,p,e,la⟩) (fun L1 hL1=>?_) ?_
   .refine wG (x7 _ _ nt mn) ?_
    refine i_i ?_;refine uZ (fun hb2=>?_) fun hb2=>?_
    .have hb2:=AX hb2
     rw[AA] at hb2;obtain⟨sl,hsl,esl⟩:=Vm (ss:=names) (by omega);refine mJ (x7 _ _ nt mn) esl ?_;refine cW k7.at_ rfl (by show 6<=1000; decide) ?_;exact hL1 _ _ ⟨some sl,fun hk0 s hs=>by cases hs; rw[hk0]; exact hsl,rfl,T7.put nkt _,x7.put kd0 _,k7.put 6 p e (some sl)⟩
    .refine bX ?_
     exact hL1 _ _ ⟨none,(fun _ _ z=>nomatch z),rfl,T7,x7,k7⟩
   rintro ρ' C8 ⟨la,hla,rfl,T8,x8,k8⟩
   try dsimp only
   refine i_i ?_;refine uZ (fun hb2=>?_) fun hb2=>?_
   .have hb2:=AX hb2
    have e0:e=0:=by omega
    subst e0;refine cW k8.at_ rfl (by show 6<=1000; decide) ?_;refine hL _ _ ⟨⟨bl,rl,bs,names.drop (k+1),6,1,0,la⟩,⟨rfl,rfl,rfl,rfl,rfl,A3 _,(by show(1:Int)<=2; decide),A3 _,(by show(0:Int)<=1; decide),fun z=>absurd (show(0:Int) < 0 from z) (by decide),?_⟩,rfl,T8.put nkt _,x8.put kd0 _,k8.put 6 1 0 la⟩;show(1:Int)+zOf _ * 0<=_;rw[Int.mul_zero];unfold eJ
    split
    .decide
    .split<;>decide
   .refine bX ?_
    have hb2:=CV hb2;have hk0:k=0:=by omega
    have e1:e=1:=by omega
    subst e1;refine hL _ _ ⟨⟨bl,rl,bs,names.drop (k+1),6,p,1,la⟩,⟨rfl,rfl,rfl,rfl,rfl,p0,p1,(by show(0:Int)<=1; decide),A3 _,fun _=>hla hk0,?_⟩,rfl,T8,x8,k8⟩;show p+zOf _ * 1<=_;rw[Int.mul_one];have:=zle ⟨bl,rl,bs,names.drop (k+1),6,p,1,la⟩;unfold eJ;rw[AW hk0];omega
  .refine bX ?_
   refine hL _ _ ⟨⟨bl,rl,bs,names.drop (k+1),6,p,1,none⟩,⟨rfl,rfl,rfl,rfl,rfl,p0,p1,(by show(0:Int)<=1; decide),A3 _,(fun _ _ z=>nomatch z),?_⟩,rfl,T6,x6,k6⟩;show p+0 * 1<=_;unfold eJ
   split
   .omega
   .split<;>omega
 clear k6 T6 x6;rintro ρ' C7 ⟨κ,ks,rfl,T7,x7,k7⟩
 try dsimp only
 have mb7:C7 bl=some (.lst (bs.map PV.str)):=by have:=k7.bx; rw[ks.b,ks.bs] at this; exact this
 refine yQ ?_;refine K4 mb7 rfl ?_;refine eY (β:=Int) rQ (fun i:Int=>-1000000000<=i/\i<=1000000000) (fun C'=>Tp C' t ns/\Ex t C7 C') (fun C' h=>h.2 _ _ bt mb7) (by omega) (fun z C8 L ⟨T8,e8⟩ hL=>?_) (fun fs C8 p8 ⟨T8,e8⟩ hp8 hfs hfo=>?_) ⟨T7,Ex.refl⟩
 .exact ⟨t,ns,rfl,T8,fun i C9 i0 i1 T9 e9=>⟨zz 2 rfl,hL i C9 ⟨i0,i1⟩ ⟨T9,e8.trans e9⟩⟩⟩
 refine wJ jQ ?_;have T9:=T8.new hp8 (.lst (fs.map rQ));have e9:Ex t C7 (uQ C8 p8 (.lst (fs.map rQ))):=e8.trans (Ex.new hp8 _);generalize uQ C8 p8 (.lst (fs.map rQ))=C9 at T9 e9 ⊢
 try dsimp only
 have k9:=k7.ex e9;have x9:Ex t C C9:=x7.trans e9;have ok9:Kok κ 1 []:=⟨by rw[ks.l]; decide,by rw[ks.l]; decide,by have:=ks.p0; omega,ks.p1,ks.e0,ks.e1,fun _=>rfl,ks.ly,AV _⟩;refine yQ ?_;refine⟨zz 0 rfl,?_⟩;refine⟨zz 2 rfl,fun p10 hp10=>?_⟩;have T10:=T9.new hp10 (.lst [PV.int 3,PV.int 1]);have k10:=k9.ex (Ex.new hp10 (.lst [PV.int 3,PV.int 1]));have x10:Ex t C (uQ C9 p10 (.lst [PV.int 3,PV.int 1])):=x9.trans (Ex.new hp10 _)
 refine wG (x10 _ _ nt mn) ?_;refine i_i ?_;refine QS ?_
 have fin:∀(ls:List Ln) (κ':Kt) (C':CH),(∀x∈ls,LnOk κ.bs κ.rs 6 [] x)->ls.length<=6->Wgt 1 [] κ κ' 0 (Ln.tws ls) (Ln.pws ls)->Chg κ κ'->Tp C' t ns->KAt C' t kd κ'->ExS [t,kd] (uQ C9 p10 (.lst [PV.int 3,PV.int 1])) C'->∀(x:Pt),x.name=names[k]->x.first=fs->x.ls=ls->yH bs [] 1 x.works->x.works.length<=4->∀C'',Tp C'' t ns->Ex t C' C''->R x.pv C'':=by
  intro ls κ' C' h1 h2 h3 h4 T' k' x' x xn xf xl xw xwl C'' T'' e'';refine q x C'' (by rw[AM hkn,xn]) ?_ T'' ?_
  .have hfb:x.first.map (·.1)=bs:=by rw[xf]; exact hfs
   refine⟨by rw[xf,<- AA (f:=(·.1)),hfs]; exact hbs,by rw[hfb]; exact xw,xwl,?_,by rw[xl]; exact h2,?_,?_,by rw[xf]; exact hfo⟩
   .rw [xl,hfb]
    intro l hl;have:=h1 l hl;rw[ks.bs,ks.rs] at this;exact this
   .rw [xl]
    have:=h3.t;have l0:=h4.l0;have kl:=ks.l;have this:(Ln.tws ls:Int)<=8 * (0+(κ.l - κ'.l)):=this;omega
   .rw [xl]
    have g:=h3.p;have c:=ks.cap;have e0:=h4.e0;have e1:=h4.e1;have q0:=h4.p0;have z:zOf κ=0\/zOf κ=16:=by unfold zOf; split; exact .inr rfl; exact .inl rfl
    rcases z with z | z<;>rw[z] at g c<;>omega
  .intro b o nb hb
   have nk:b≠kd:=fun z=>by rw[z,kd0] at hb; cases hb
   exact e'' b o nb (x' b o (fun z=>by
    rcases Ah.1 z with z | z
    .exact nb z
    .exact nk (AH.1 z)) (x10 b o nb hb))
 have rest:∀(ls:List Ln) (κ':Kt) (C':CH),(∀x∈ls,LnOk κ.bs κ.rs 6 [] x)->ls.length<=6->Wgt 1 [] κ κ' 0 (Ln.tws ls) (Ln.pws ls)->Chg κ κ'->Tp C' t ns->KAt C' t kd κ'->ExS [t,kd] (uQ C9 p10 (.lst [PV.int 3,PV.int 1])) C' ->
   gDraw [.ref t,.int 3] C' fun v C1=>Ku [.ref t,v] C1 fun wn C2=>pP (rZ 9) vF (Qb (uK (rZ 0) (uK (cP (gI 1) (uK (rZ 1) (uK (rZ 7) (uK (Qb iF) (uK (cC (.int 1)) iF))))) iF))) [some (.ref t),some (.ref nl),some (.int (k:Nat)),some (.bl keyed),some (.int m),some (.ref bl),some (.ref kd),some (.tup (fs.map rQ)),some (.tup (Ln.pvs ls)),some wn,none] C2 fun lv C3=>wF [lv] C3 fun wv C4=>cIx (.ref nl) (.int (k:Nat)) C4 fun nm C5=>4<=sizeLine/\R (.tup [nm,.tup (fs.map rQ),wv,.tup (Ln.pvs ls)]) C5:=by
  intro ls κ' C' h1 h2 h3 h4 T' k' x';refine⟨t,3,ns,rfl,T',by decide,by decide,fun v C11 v0 v1 T11 e11=>?_⟩;refine⟨t,v,ns,rfl,T11,v0,by omega,fun wl ws C12 m12 n12 wt hwl nd T12 e12=>?_⟩;refine K4 m12 rfl ?_;have e1112:=e11.trans e12;refine eY (β:=Rk) lV (fun r=>r.ok bs [] 1) (fun C''=>Tp C'' t ns/\Ex t C12 C'') (fun C'' h=>h.2 _ _ wt m12) (by omega) (fun z C13 L ⟨T13,e13⟩ hL=>?_) (fun bs' C13 p13 ⟨T13,e13⟩ hp13 hb ho=>?_) ⟨T12,Ex.refl⟩
  .refine ⟨zz 0 rfl,?_⟩
   refine⟨t,kd,[],ns,κ',rfl,T13,k'.ex (e1112.trans e13),AV _,fun r C14 hr T14 e14=>⟨zz 2 rfl,hL r C14 ?_ ⟨T14,e13.trans e14⟩⟩⟩;rw[h4.bs,ks.bs] at hr;exact hr
  .refine wJ jQ ?_
   have e013:Ex t C' (uQ C13 p13 (.lst (bs'.map lV))):=(e1112.trans e13).trans (Ex.new hp13 _);have nnk:nl≠kd:=fun z=>by rw[z,kd0] at mn; cases mn
   have mn':C' nl=some (.lst (names.map PV.str)):=x' nl _ (fun z=>by
    rcases Ah.1 z with z | z
    .exact nt z
    .exact nnk (AH.1 z)) (x10 _ _ nt mn)
   refine mJ (e013 _ _ nt mn') (Qf hkn) ?_;refine⟨by decide,?_⟩;exact fin ls κ' C' h1 h2 h3 h4 T' k' x' ⟨names[k],fs,bs',ls⟩ rfl rfl rfl ho (by show bs'.length<=4; have:=BE List.length hb; rw[AA] at this; omega) _ (T13.new hp13 _) e013
 have hd3:atI [PV.int 3,PV.int 1] (if decide ((((names.map PV.str).length:Nat):Int) > 3)=true then (1:Int) else 0)=some (.int 3)\/atI [PV.int 3,PV.int 1] (if decide ((((names.map PV.str).length:Nat):Int) > 3)=true then (1:Int) else 0)=some (.int 1):=by
  cases decide ((((names.map PV.str).length:Nat):Int) > 3) with
  |false=>exact .inl rfl
  |true=>exact .inr rfl
 rcases hd3 with hd | hd
 .refine mJ jQ hd ?_
  refine .inl ⟨t,kd,[],ns,κ,rfl,T10,k10,ok9,fun ls κ' C' h1 h2 h3 h4 T' k' x'=>?_⟩;exact rest ls κ' C' (fun x hx=>(h1 x hx).mono (by decide)) h2 h3 h4 T' k' x'
 .refine mJ jQ hd ?_
  refine .inr ⟨t,kd,[],ns,κ,rfl,T10,k10,ok9,fun ls κ' C' h1 h2 h3 h4 T' k' x'=>?_⟩;exact rest ls κ' C' (fun x hx=>(h1 x hx).mono (by decide)) h2 h3 h4 T' k' x'
end
def bZ (pts:List Pt):List Str:=pts.map (·.name)
structure gB (pts:List Pt):Prop where
 n1:1<=pts.length
 n6:pts.length<=6
 nd:(bZ pts).Nodup
 ok:∀k x,pts[k]?=some x->Zu ((bZ pts).drop (k+1)) (eJ pts.length k) x
theorem hU {N j:Nat}{z:PV}{zs:List PV}(h:z::zs=((List.range N).drop j).map (fun k:Nat=>PV.int (k:Nat))):j < N/\z=.int (j:Nat)/\zs=((List.range N).drop (j+1)).map (fun k:Nat=>PV.int (k:Nat)):=by
 have hj:j < (List.range N).length:=by
  rcases Cs j (List.range N).length with h' | h'
  .exact h'
  .rw [B2 h'] at h; cases h
 rw[Aq hj,Ac,List.getElem_range] at h;injection h with h1 h2
 exact⟨by rw[Ak] at hj; exact hj,h1,h2⟩
section
variable {P:Program}{w:World}{K:DK}{mg:Str->Option Value}{base:Heap}{a:Adr}
def gHouse:GC:=fun ts C Q=>∃(t:Addr) (ns:List Int),ts=[.ref t]/\Tp C t ns/\∀(pts:List Pt) (C':CH),gB pts->Tp C' t ns->Ex t C C'->Q (.tup (pts.map Pt.pv)) C'
theorem JK (T:Txt P w K mg a):FnOk P w K mg base CX0 26 (a.f 22) (a.d 22) U17 (spC K gHouse):=by
 have S:=(T.F 22 rfl).s;have gQ:=(pZ (base:=base) T).mono (show 1<=25 by decide);have nZ:=(sG (base:=base) T).mono (show 2<=25 by decide);have Vu:=ok_part (base:=base) T
 refine(T.F 22 rfl).ok (fun ts C R h=>?_) fun cdv A outer s H E hr=>⟨_,(xQ (cs1 1 S.nd (cf (T.F 9 rfl) nZ hr (qQ (cv 0) (ca1 (cx (nX (qQ zQ (qQ zQ (qQ zQ (qQ zQ (qQ zQ (qQ zQ (qQ zQ (ca1 zQ))))))))) (cf (T.F 8 rfl) gQ hr (qQ (cv 0) (ca1 zQ))))))))
  (xQ (cs1 2 S.nd (kF cX kX (cf (T.F 8 rfl) gQ hr (qQ (cv 0) (ca1 zQ))) zQ (aU _)))
  (kQ (cQ (ctp T.aX (qG rfl (S.c (by decide +kernel)) (S.k rfl rfl rfl (by decide +kernel)) (oI rfl T.fY (ca1 (cln T.vJ (cv 1)))) (fun _ _ _ _ _=>bJ) (fun _ _ _ _ _=>(cf (T.F 21 rfl) Vu hr (qQ (cv 1) (qQ (cv 2) (qQ (cv 0) (ca1 (cv 3))))))))))))),?_⟩
 .obtain ⟨t,ns,rfl,_⟩:=h; rfl
 rintro ts C R ⟨t,ns,rfl,hT,q⟩;refine yQ ?_;refine⟨zz 8 rfl,fun p1 hp1=>?_⟩;refine⟨t,8,ns,rfl,hT.new hp1 _,by decide,by decide,fun v C1 v0 v1 T1 e1=>?_⟩;have e01:Ex t C C1:=(Ex.new hp1 _).trans e1;refine mJ (e1 p1 _ (hT.ne hp1) jQ) (gK (f:=PV.int) (ss:=[1,2,2,3,3,4,2,6]) 0 v0 v1) ?_
 have hm:1<=([1,2,2,3,3,4,2,6]:List Int).getD v.toNat 0/\([1,2,2,3,3,4,2,6]:List Int).getD v.toNat 0<=6:=by
  have:v=0\/v=1\/v=2\/v=3\/v=4\/v=5\/v=6\/v=7:=by omega
  rcases this with rfl | rfl | rfl | rfl | rfl | rfl | rfl | rfl<;>decide
 generalize ([1,2,2,3,3,4,2,6]:List Int).getD v.toNat 0=m at hm ⊢;refine⟨t,m,ns,rfl,T1,by omega,by omega,fun nl names C2 m2 n2 nt hnl nd T2 e2=>?_⟩
 try dsimp only
 refine yQ ?_;refine⟨t,2,ns,rfl,T2,by decide,by decide,fun z C3 z0 z1 T3 e3=>?_⟩;refine mX (oX _ _) ?_
 try dsimp only
 have e03:=(e01.trans e2).trans e3;have m3:=e3 _ _ nt m2;refine wG m3 ?_;rw[AA];refine⟨by omega,by omega,?_⟩;rw[Ci];refine cK (fun zs acc C'=>Tp C' t ns/\Ex t C3 C'/\∃pts:List Pt,acc=pts.map Pt.pv/\zs=((List.range names.length).drop pts.length).map (fun k:Nat=>PV.int (k:Nat))/\pts.length<=names.length/\bZ pts=names.take pts.length/\∀k x,pts[k]?=some x->Zu (names.drop (k+1)) (eJ names.length k) x) ?_ ?_ _ _ _ ⟨T3,Ex.refl,[],rfl,rfl,AV _,rfl,(fun k x h=>by simp at h)⟩
 .rintro x r acc C4 ⟨T4,e4,pts,rfl,hz,hpl,hpn,hpo⟩ L hL
  obtain⟨hj,rfl,rfl⟩:=hU hz;refine⟨t,nl,ns,names,pts.length,_,rfl,T4,e4 _ _ nt m3,nt,by omega,hj,fun x C5 hx ok5 T5 e5=>hL _ _ ⟨?_,T5,e4.trans e5,pts++[x],by rw[AQ]; rfl,by rw[AC,AO],by rw[AC,AO]; omega,?_,fun k y hy=>?_⟩⟩
  .rw [AA]
   exact AR (show pts.length < 7 by omega) (by decide)
  .rw [AC,AO,Bl,<- hpn,hx]
   unfold bZ;rw[AQ]
   rfl
  .rcases Nat.lt_trichotomy k pts.length with h | h | h
   .rw [Bt h] at hy
    exact hpo k y hy
   .subst h
    rw[BR (AJ _),Nat.sub_self] at hy;cases hy;exact ok5
   .rw [List.getElem?_eq_none (by rw[AC,AO]; omega)] at hy
    cases hy
 .rintro acc C4 ⟨T4,e4,pts,rfl,hz,hpl,hpn,hpo⟩ p hp
  have he:pts.length=names.length:=by
   rcases Cs pts.length names.length with h | h
   .rw [Aq (by rw[Ak]; exact h)] at hz
    cases hz
   .omega
  refine wJ jQ ?_;have hn:bZ pts=names:=by rw[hpn,he,A6 (AJ _)]
  exact q pts _ ⟨by omega,by omega,by rw[hn]; exact nd.1,fun k x hk=>by rw[hn,he]; exact hpo k x hk⟩ (T4.new hp _) ((e03.trans e4).trans (Ex.new hp _))
end
abbrev Rds:=List (List Key×PV)
abbrev Tns:=List (Key×PV)
abbrev qK (s n:Str):List Key:=[.inr s,.inr n]
def Bd (i:Int):Prop:=-1000000000<=i/\i<=1000000000
def ABd (A:Rds):Prop:=∀kv∈A,∃i,kv.2=.int i/\Bd i
def TBd (τ:Tns):Prop:=∀kv∈τ,∃i,kv.2=.int i/\Bd i
def Vo (A:Rds)(s n:Str):Int:=match cJ A (qK s n) with
 |some (.int i)=>i
 |_=>0
def Qs (τ:Tns)(n:Str):Int:=match fZ τ (.inr n) with
 |some (.int i)=>i
 |_=>0
def HasT (τ:Tns)(ns:List Str):Prop:=∀n∈ns,(fZ τ (.inr n)).isSome=true
def dI (i:Int):Int:=if (if i < 1000000000 then i else 1000000000) > -1000000000 then (if i < 1000000000 then i else 1000000000) else -1000000000
noncomputable def Rk.val (A:Rds)(τ:Tns):Rk->Int
 |.num i=>i
 |.turn n=>Qs τ n
 |.ask s n=>Vo A s n
 |.bin w x y=>if w = "less" then (if x.val A τ < y.val A τ then 1 else 0) else if w = "times" then dI (x.val A τ * y.val A τ) else dI (x.val A τ+y.val A τ)
 |.pick x y z=>if x.val A τ=0 then z.val A τ else y.val A τ
noncomputable def Rk.rds (A:Rds)(τ:Tns):Rk->Rds->Rds
 |.num _,R=>R
 |.turn _,R=>R
 |.ask s n,R=>putG R (qK s n) (.int (Vo A s n))
 |.bin _ x y,R=>y.rds A τ (x.rds A τ R)
 |.pick x y z,R=>if x.val A τ=0 then z.rds A τ (x.rds A τ R) else y.rds A τ (x.rds A τ R)
theorem cutI_bd (i:Int):Bd (dI i):=by unfold dI Bd; split<;>split<;>omega
theorem ZF {κ:Type}[DecidableEq κ]{A:List (κ×PV)}{k:κ}{v:PV}(h:cJ A k=some v):∃kv∈A,kv.2=v:=by
 unfold cJ at h
 cases e:A.find? fun kv=>decide (kv.1=k) with
 |none=>rw[e] at h; cases h
 |some x=>rw[e] at h; cases h; exact⟨x,BX e,rfl⟩
theorem wS {A:Tns}{k:Key}{v:PV}(h:fZ A k=some v):∃kv∈A,kv.2=v:=by
 unfold fZ at h
 cases e:A.find? fun kv=>decide (kv.1=k) with
 |none=>rw[e] at h; cases h
 |some x=>rw[e] at h; cases h; exact⟨x,BX e,rfl⟩
theorem Qh {A:Rds}(h:ABd A)(s n:Str):(cJ A (qK s n)).getD (.int 0)=.int (Vo A s n)/\Bd (Vo A s n):=by
 unfold Vo
 cases e:cJ A (qK s n) with
 |none=>exact⟨rfl,by unfold Bd; decide⟩
 |some v =>
  obtain⟨kv,hm,rfl⟩:=ZF e;obtain⟨i,ei,bi⟩:=h kv hm;rw[ei];exact⟨rfl,bi⟩
theorem Qr {τ:Tns}(h:TBd τ){n:Str}(hh:(fZ τ (.inr n)).isSome=true):fZ τ (.inr n)=some (.int (Qs τ n))/\Bd (Qs τ n):=by
 unfold Qs
 cases e:fZ τ (.inr n) with
 |none=>rw[e] at hh; cases hh
 |some v =>
  obtain⟨kv,hm,rfl⟩:=wS e;obtain⟨i,ei,bi⟩:=h kv hm;rw[ei];exact⟨rfl,bi⟩
theorem pM {A:Rds}{τ:Tns}(hA:ABd A)(hT:TBd τ){bs ts:List Str}(hh:HasT τ ts):∀{d:Nat}{r:Rk},r.ok bs ts d->Bd (r.val A τ):=by
 intro d r
 induction r generalizing d with
 |num i=>intro h; unfold Rk.ok at h; exact h
 |turn n=>intro h; unfold Rk.ok at h; exact(Qr hT (hh n h)).2
 |ask s n=>intro h; exact(Qh hA s n).2
 |bin w x y ihx ihy =>
  intro h
  cases d with
  |zero=>unfold Rk.ok at h; exact h.elim
  |succ d =>
   unfold Rk.val
   split
   .split<;>(unfold Bd; decide)
   .split<;>exact cutI_bd _
 |pick x y z ihx ihy ihz =>
  intro h
  cases d with
  |zero=>unfold Rk.ok at h; exact h.elim
  |succ d =>
   unfold Rk.ok at h;unfold Rk.val
   split
   .exact ihz h.2.2
   .exact ihy h.2.1
structure RdOk (bs:List Str)(R:Rds):Prop where
 nd:(R.map (·.1)).Nodup
 ks:∀k∈R.map (·.1),∃s n,k=qK s n/\mE bs s n
 vs:ABd R
theorem Xm {κ:Type}[DecidableEq κ](R:List (κ×PV))(k:κ):(R.any fun kv=>decide (kv.1=k))=true↔k∈R.map (·.1):=by
 rw[Bs,Ab];exact⟨fun⟨x,hx,e⟩=>⟨x,hx,AX e⟩,fun⟨x,hx,e⟩=>⟨x,hx,Af e⟩⟩
theorem lH {κ:Type}[DecidableEq κ](R:List (κ×PV))(k:κ)(v:PV):(putG R k v).map (·.1)=if k∈R.map (·.1) then R.map (·.1) else R.map (·.1)++[k]:=by
 unfold putG
 by_cases h:k∈R.map (·.1)
 .rw [AW ((Xm R k).2 h),AW h,Bf]
  refine CN fun x _=>?_;show(if x.1=k then (x.1,v) else x).1=x.1
  split<;>rfl
 .rw [AT (fun z=>h ((Xm R k).1 z)),AT h,AQ]
  rfl
theorem zT {κ:Type}[DecidableEq κ]{R:List (κ×PV)}{k:κ}{v:PV}{x:κ×PV}(h:x∈putG R k v):x.2=v\/x∈R:=by
 unfold putG at h
 split at h
 .obtain ⟨y,hy,rfl⟩:=Ab.1 h
  split
  .exact .inl rfl
  .exact .inr hy
 .rcases An.1 h with h | h
  .exact .inr h
  .cases AH.1 h; exact .inl rfl
theorem RdOk.put {bs:List Str}{R:Rds}(h:RdOk bs R){s n:Str}(hq:mE bs s n){i:Int}(hi:Bd i):RdOk bs (putG R (qK s n) (.int i)):=by
 refine⟨?_,?_,fun kv hkv=>?_⟩
 .rw [lH]
  split
  .exact h.nd
  .next hn =>
   rw[A8];refine⟨h.nd,by simp,fun a ha b hb e=>?_⟩;cases AH.1 hb;exact hn (e▸ha)
 .rw [lH]
  intro k hk
  split at hk
  .exact h.ks k hk
  .rcases An.1 hk with hk | hk
   .exact h.ks k hk
   .cases AH.1 hk; exact⟨s,n,rfl,hq⟩
 .rcases zT hkv with e | e
  .exact ⟨i,e,hi⟩
  .exact h.vs kv e
theorem sT {α:Type}[DecidableEq α]:∀(l m:List α),l.Nodup->(∀x∈l,x∈m)->l.length<=m.length
 |[],_,_,_=>AV _
 |x::l,m,hd,hs=>by
  have hx:=hs x AD;rw[Am] at hd
  have ih:=sT l (m.erase x) hd.2 fun y hy=>by
   have ne:y≠x:=fun e=>hd.1 (e▸hy);exact(List.mem_erase_of_ne ne).2 (hs y (AG _ hy))
  rw[List.length_erase_of_mem hx] at ih;have:0 < m.length:=List.length_pos_of_mem hx;rw[AI];omega
noncomputable def bM (bs:List Str):List (List Key):=(["a","ab","b"]:List Str).map (qK "take")++((["a","ab","b"]:List Str).map (qK "down")++bs.map (qK "box"))
theorem ask_in {bs:List Str}{s n:Str}(h:mE bs s n):qK s n∈bM bs:=by
 unfold bM
 rcases h with ⟨rfl | rfl,h⟩ | ⟨rfl,h⟩
 .exact A0 _ (Ab.2 ⟨n,h,rfl⟩)
 .exact AY _ (A0 _ (Ab.2 ⟨n,h,rfl⟩))
 .exact AY _ (AY _ (Ab.2 ⟨n,h,rfl⟩))
theorem RdOk.len {bs:List Str}{R:Rds}(h:RdOk bs R):R.length<=6+bs.length:=by
 have:=sT (R.map (·.1)) (bM bs) h.nd fun k hk=>by
  obtain⟨s,n,rfl,hq⟩:=h.ks k hk;exact ask_in hq
 rw[AA] at this
 have e:(bM bs).length=6+bs.length:=by
  unfold bM;rw[AC,AC,AA,AA,AA];show 3+(3+_)=_;omega
 omega
theorem iK {A:Rds}{τ:Tns}(hA:ABd A){bs ts:List Str}:∀{d:Nat}{r:Rk}{R:Rds},r.ok bs ts d->RdOk bs R->RdOk bs (r.rds A τ R):=by
 intro d r
 induction r generalizing d with
 |num i=>intro R _ h; exact h
 |turn n=>intro R _ h; exact h
 |ask s n=>intro R h hR; unfold Rk.ok at h; exact hR.put h (Qh hA s n).2
 |bin w x y ihx ihy =>
  intro R h hR
  cases d with
  |zero=>unfold Rk.ok at h; exact h.elim
  |succ d =>
   unfold Rk.ok at h;exact ihy h.2.2 (ihx h.2.1 hR)
 |pick x y z ihx ihy ihz =>
  intro R h hR
  cases d with
  |zero=>unfold Rk.ok at h; exact h.elim
  |succ d =>
   unfold Rk.ok at h;unfold Rk.rds
   split
   .exact ihz h.2.2 (ihx h.1 hR)
   .exact ihy h.2.1 (ihx h.1 hR)
structure Env (C:CH)(aa tt rr:Addr)(A:Rds)(τ:Tns)(R:Rds):Prop where
 ha:C aa=some (.dT A)
 ht:C tt=some (.dK τ)
 hr:C rr=some (.dT R)
 ne:aa≠rr
theorem Env.nt {C:CH}{aa tt rr:Addr}{A:Rds}{τ:Tns}{R:Rds}(h:Env C aa tt rr A τ R):tt≠rr:=fun z=>by have:=h.ht; rw[z,h.hr] at this; cases this
theorem Env.ex {C C':CH}{aa tt rr:Addr}{A:Rds}{τ:Tns}{R R':Rds}(h:Env C aa tt rr A τ R)(e:ExS [rr] C C')(hr:C' rr=some (.dT R')):Env C' aa tt rr A τ R' :=
 ⟨e _ _ (fun z=>h.ne (AH.1 z)) h.ha,e _ _ (fun z=>h.nt (AH.1 z)) h.ht,hr,h.ne⟩
theorem rJ {κ:Type}[DecidableEq κ](x:κ×PV)(l:List (κ×PV))(k:κ):cJ (x::l) k=if x.1=k then some x.2 else cJ l k:=by
 unfold cJ;rw[Ap]
 by_cases e:x.1=k
 .rw [Af e,AW e]; rfl
 .rw [AS e,AT e]
theorem ZE {κ:Type}[DecidableEq κ](R:List (κ×PV))(k:κ)(v:PV)(k':κ):cJ (putG R k v) k'=if k'=k then some v else cJ R k':=by
 unfold putG
 by_cases b:(R.any fun kv=>decide (kv.1=k))=true
 .rw [AW b]
  induction R with
  |nil=>cases b
  |cons x l ih =>
   rw[Ac,rJ,rJ];have e1:(if x.1=k then (x.1,v) else x).1=x.1:=by split<;>rfl
   rw[e1]
   by_cases e:x.1=k'
   .rw [AW e,AW e]
    by_cases e2:k'=k
    .rw [AW e2,AW (e.trans e2)]
    .rw [AT e2,AT (fun z=>e2 (e.symm.trans z))]
   .rw [AT e,AT e]
    by_cases h3:(l.any fun kv=>decide (kv.1=k))=true
    .exact ih h3
    .have h4:∀y∈l,¬ y.1=k:=fun y hy z=>h3 (Bs.2 ⟨y,hy,Af z⟩)
     have:(l.map fun kv=>if kv.1=k then (kv.1,v) else kv)=l:=(CN fun y hy=>AT (h4 y hy)).trans (List.map_id l);rw[this]
     have hx:x.1=k:=by
      rw[BA,Bool.or_eq_true] at b
      rcases b with b | b
      .exact AX b
      .exact absurd b h3
     rw[AT (fun z=>e (hx.trans z.symm))]
 .rw [AT b]
  induction R with
  |nil =>
   rw[Cy,rJ]
   by_cases e:k=k'
   .rw [AW e,AW e.symm]
   .rw [AT e,AT (fun z=>e z.symm)]
  |cons x l ih =>
   rw[BA] at b;have e:¬ x.1=k:=fun e=>b (by rw[Af e]; rfl);rw[AS e,Bool.false_or] at b;rw[B9,rJ,rJ]
   by_cases e2:x.1=k'
   .rw [AW e2,AW e2,AT (fun z=>e (e2.trans z))]
   .rw [AT e2,AT e2]; exact ih b
structure fG (A:Rds)(τ:Tns)(bs ns:List Str):Prop where
 a:ABd A
 t:TBd τ
 h:HasT τ ns
 b:bs.length<=4
section
variable {P:Program}{w:World}{K:DK}{mg:Str->Option Value}{base:Heap}{a:Adr}
def gCut:GC:=fun ts C Q=>∃i:Int,ts=[.int i]/\Q (.int (dI i)) C
theorem ok_cut (T:Txt P w K mg a):FnOk P w K mg base CX0 1 (a.f 3) (a.d 3) ["number"] (spC K gCut):=by
 have S:=(T.F 3 rfl).s;refine(T.F 3 rfl).ok (fun ts C R h=>?_) fun cdv A outer s H E hr=>⟨_,(kQ (cQ (fJ (Zl rfl) cbi_max rfl T.z_max rfl (qQ (xE jL vM (bD (v:=.int 1000000000) (t:=.int 1000000000) rfl T.Kx ⟨_,rfl⟩ (fun _=>.int _))) (ca1 (fJ (pN rfl) Xb rfl T.z_min rfl (qQ (bD (v:=.int 1000000000) (t:=.int 1000000000) rfl T.Kx ⟨_,rfl⟩ (fun _=>.int _)) (ca1 (cv 0))))))))),?_⟩
 .obtain ⟨i,rfl,_⟩:=h; rfl
 rintro ts C R ⟨i,rfl,q⟩;refine min_s ?_;refine max_s ?_;exact q
def joinI (w:Str)(i j:Int):Int:=if w = "less" then (if i < j then 1 else 0) else if w = "times" then dI (i * j) else dI (i+j)
def gJoin:GC:=fun ts C Q=>∃(w:Str) (i j:Int),ts=[.str w,.int i,.int j]/\(w = "add"\/w = "times"\/w = "less")/\Bd i/\Bd j/\Q (.int (joinI w i j)) C
theorem XO (T:Txt P w K mg a):FnOk P w K mg base CX0 2 (a.f 5) (a.d 5) ["word","first","second"] (spC K gJoin):=by
 have S:=(T.F 5 rfl).s;have G_cut:=ok_cut (base:=base) T
 refine(T.F 5 rfl).ok (fun ts C R h=>?_) fun cdv A outer s H E hr=>⟨_,(xQ (uX (ct2 cX kX (cv 0) vQ) (kQ (cQ (cf (T.F 3 rfl) G_cut hr (ca1 (iQ yX gX (cv 1) (cv 2)))))) aQ)
  (xQ (uX (ct2 cX kX (cv 0) vQ) (kQ (cQ (cf (T.F 3 rfl) G_cut hr (ca1 (iQ sM bU (cv 1) (cv 2)))))) aQ)
  (kQ (cQ (Q9 (ct2 iB tY (cv 1) (cv 2)) zQ zQ))))),?_⟩
 .obtain ⟨w,i,j,rfl,_⟩:=h; rfl
 rintro ts C R ⟨w,i,j,rfl,hw,bi,bj,q⟩;unfold joinI at q;refine mX (lQ _ _) ?_
 rcases hw with rfl | rfl | rfl
 .refine lW (by decide) ?_
  refine uY ?_;exact⟨_,rfl,q⟩
 .refine vZ (by decide) ?_
  refine bX ?_
  try dsimp only
  refine mX (lQ _ _) ?_;refine lW (by decide) ?_;unfold Bd at bi bj;refine⟨.inr ⟨by omega,by omega⟩,?_⟩;exact⟨_,rfl,q⟩
 .refine vZ (by decide) ?_
  refine bX ?_
  try dsimp only
  refine mX (lQ _ _) ?_;refine vZ (by decide) ?_;refine bX ?_
  try dsimp only
  rw[AW rfl] at q;refine i_i ?_;refine uZ (fun hb=>?_) fun hb=>?_
  .rw [AW (AX hb)] at q; exact q
  .rw [AT (CV hb)] at q; exact q
def gRk (d:Nat):GC:=fun ts C Q=>∃(r:Rk) (aa tt rr:Addr) (A:Rds) (τ:Tns) (R:Rds) (bs ns:List Str),ts=[r.pv,.ref aa,.ref tt,.ref rr]/\r.ok bs ns d/\Env C aa tt rr A τ R/\fG A τ bs ns/\RdOk bs R /\
 ∀C',C' rr=some (.dT (r.rds A τ R))->ExS [rr] C C'->Q (.int (r.val A τ)) C'
theorem yC (T:Txt P w K mg a)(d:Nat):FnOk P w K mg base CX0 (d+3) (a.f 4) (a.d 4) ["reckoning","answers","turns","asked"] (spC K (gRk d)):=by
 have main:∀n,(∀d',n=d'+1->FnOk P w K mg base CX0 (d'+3) (a.f 4) (a.d 4) ["reckoning","answers","turns","asked"] (spC K (gRk d')))->FnOk P w K mg base CX0 (n+3) (a.f 4) (a.d 4) ["reckoning","answers","turns","asked"] (spC K (gRk n)):=by
  intro n ih;have S:=(T.F 4 rfl).s;have Vx:=(XO (base:=base) T).mono (show 2<=n+2 by omega)
  have eK:FnOk P w K mg base CX0 (n+2) (a.f 4) (a.d 4) ["reckoning","answers","turns","asked"] (spC K (fun ts C Q=>∃d',n=d'+1/\gRk d' ts C Q)):=by
   cases n with
   |zero=>exact iZ fun ts C Q ⟨d',e,_⟩=>by omega
   |succ d' =>
    have:=ih d' rfl
    have e:(fun ts C Q=>∃d'',d'+1=d''+1/\gRk d'' ts C Q)=gRk d':=by
     funext ts C Q
     refine propext ⟨fun⟨d'',e,h⟩=>?_,fun h=>⟨d',rfl,h⟩⟩;cases At e;exact h
    rw[e];exact this
  refine(T.F 4 rfl).ok (fun ts C R h=>?_) fun cdv A outer s H E hr=>⟨_,(xQ (cs1 4 S.nd (cx (cv 0) zQ))
  (xQ (uX (ct2 cX kX (cv 4) vQ) (kQ (cQ (cx (cv 0) zQ))) aQ)
  (xQ (uX (ct2 cX kX (cv 4) vQ) (kQ (cQ (wZ (rX hr) (cv 2) (cx (cv 0) zQ) (fun _ _=>rfl)))) aQ)
  (xQ (uX (xP XH cop_inS (cv 4) (bD (v:=.ref a.ASKING) (t:=.kt [.str "take",.str "box",.str "down"]) rfl T.gASKING rfl (fun H=>.kt (T.qASKING H) (.cons (.str _) (.cons (.str _) (.cons (.str _) .nil))))) rfl) (xQ (cs1 5 S.nd (bQ (qQ (cv 4) (ca1 (cx (cv 0) zQ)))))
  (xQ (Q6 (rX hr) (cv 3) (cv 5) (K8 (rX hr) (cv 1) (cv 5) zQ))
  (kQ (cQ (ce_tix (rX hr) (cv 3) (cv 5) (fun _ _=>rfl)))))) aQ)
  (xQ (cs1 6 S.nd (cf (T.F 4 rfl) eK hr (qQ (cx (cv 0) zQ) (qQ (cv 1) (qQ (cv 2) (ca1 (cv 3)))))))
  (xQ (uX (ct2 cX kX (cv 4) vQ) (xQ (cs1 7 S.nd (Q9 (ct2 cX kX (cv 6) zQ) (cx (cv 0) zQ) (cx (cv 0) zQ)))
  (kQ (cQ (cf (T.F 4 rfl) eK hr (qQ (cv 7) (qQ (cv 1) (qQ (cv 2) (ca1 (cv 3))))))))) aQ)
  (xQ (cs1 8 S.nd (cf (T.F 4 rfl) eK hr (qQ (cx (cv 0) zQ) (qQ (cv 1) (qQ (cv 2) (ca1 (cv 3)))))))
  (kQ (cQ (cf (T.F 5 rfl) Vx hr (qQ (cv 4) (qQ (cv 6) (ca1 (cv 8)))))))))))))),?_⟩
  .obtain ⟨r,aa,tt,rr,A,τ,R,bs,ns,rfl,_⟩:=h; rfl
  rintro ts C Q ⟨r,aa,tt,rr,A,τ,R,bs,ns,rfl,ok,hE,hS,hR,q⟩;refine yQ ?_
  cases r with
  |num i =>
   refine hX sQ ?_
   try dsimp only
   refine mX (lQ _ _) ?_;refine lW (by decide) ?_;refine hX (v:=.int i) rfl ?_;exact q C hE.hr ExS.refl
  |turn m =>
   unfold Rk.ok at ok;refine hX sQ ?_
   try dsimp only
   refine mX (lQ _ _) ?_;refine vZ (by decide) ?_;refine bX ?_
   try dsimp only
   refine mX (lQ _ _) ?_;refine lW (by decide) ?_;refine hX (v:=.str m) rfl ?_;refine oJ hE.ht rfl (Qr hS.t (hS.h m ok)).1 ?_;exact q C hE.hr ExS.refl
  |ask s m =>
   unfold Rk.ok at ok;refine hX sQ ?_
   try dsimp only
   refine mX (lQ _ _) ?_
   have hs:s = "take"\/s = "down"\/s = "box":=by
    rcases ok with ⟨h | h,_⟩ | ⟨h,_⟩
    .exact .inl h
    .exact .inr (.inl h)
    .exact .inr (.inr h)
   have hn1:decide (s = "num")=false:=by rcases hs with rfl | rfl | rfl<;>decide
   have hn2:decide (s = "turn")=false:=by rcases hs with rfl | rfl | rfl<;>decide
   refine vZ (by rw[hn1]; rfl) ?_;refine bX ?_
   try dsimp only
   refine mX (lQ _ _) ?_;refine vZ (by rw[hn2]; rfl) ?_;refine bX ?_
   try dsimp only
   refine Kl (ts:=[.str "take",.str "box",.str "down"]) (w:=.str s) (vs:=[.str "take",.str "box",.str "down"]) rfl rfl rfl ?_;refine lW (by rcases hs with rfl | rfl | rfl<;>rfl) ?_;refine yQ ?_;refine hX (v:=.str m) rfl ?_;refine⟨zz 2 rfl,?_⟩
   try dsimp only
   refine dX ?_;refine⟨isTd_s hE.ha,?_⟩;refine tget_s (k:=qK s m) hE.ha rfl (Qh hS.a s m).1 ?_;have hb:=hS.b;refine ZJ (k:=qK s m) hE.hr rfl (by have:=hR.len; omega) ?_
   try dsimp only
   refine tix_s (k:=qK s m) jQ rfl (by rw[ZE,AW rfl]) ?_;exact q _ jQ (ExS.refl.at (by simp) _)
  |bin w x y =>
   cases n with
   |zero=>unfold Rk.ok at ok; exact ok.elim
   |succ d' =>
   unfold Rk.ok at ok;obtain⟨hw,ox,oy⟩:=ok;have hn1:decide (w = "num")=false:=by rcases hw with rfl | rfl | rfl<;>decide
   have hn2:decide (w = "turn")=false:=by rcases hw with rfl | rfl | rfl<;>decide
   refine hX sQ ?_
   try dsimp only
   refine mX (lQ _ _) ?_;refine vZ (by rw[hn1]; rfl) ?_;refine bX ?_
   try dsimp only
   refine mX (lQ _ _) ?_;refine vZ (by rw[hn2]; rfl) ?_;refine bX ?_
   try dsimp only
   refine Kl (ts:=[.str "take",.str "box",.str "down"]) (w:=.str w) (vs:=[.str "take",.str "box",.str "down"]) rfl rfl rfl ?_;refine vZ (by rcases hw with rfl | rfl | rfl<;>rfl) ?_;refine bX ?_
   try dsimp only
   refine yQ ?_;refine hX (v:=x.pv) rfl ?_;refine⟨d',rfl,x,aa,tt,rr,A,τ,R,bs,ns,rfl,ox,hE,hS,hR,fun C1 m1 e1=>?_⟩;have E1:=hE.ex e1 m1;have R1:=iK (τ:=τ) hS.a ox hR
   try dsimp only
   refine mX (lQ _ _) ?_;refine vZ (by rcases hw with rfl | rfl | rfl<;>decide) ?_;refine bX ?_
   try dsimp only
   refine yQ ?_;refine hX (v:=y.pv) rfl ?_;refine⟨d',rfl,y,aa,tt,rr,A,τ,_,bs,ns,rfl,oy,E1,hS,R1,fun C2 m2 e2=>?_⟩
   try dsimp only
   have bx:=pM hS.a hS.t hS.h ox;have by':=pM hS.a hS.t hS.h oy
   exact⟨w,_,_,rfl,hw,bx,by',q C2 m2 (e1.trans e2)⟩
  |pick x y z =>
   cases n with
   |zero=>unfold Rk.ok at ok; exact ok.elim
   |succ d' =>
   unfold Rk.ok at ok;obtain⟨ox,oy,oz⟩:=ok;refine hX sQ ?_
   try dsimp only
   refine mX (lQ _ _) ?_;refine vZ (by decide) ?_;refine bX ?_
   try dsimp only
   refine mX (lQ _ _) ?_;refine vZ (by decide) ?_;refine bX ?_
   try dsimp only
   refine Kl (ts:=[.str "take",.str "box",.str "down"]) (w:=.str "pick") (vs:=[.str "take",.str "box",.str "down"]) rfl rfl rfl ?_;refine vZ rfl ?_;refine bX ?_
   try dsimp only
   refine yQ ?_;refine hX (v:=x.pv) rfl ?_;refine⟨d',rfl,x,aa,tt,rr,A,τ,R,bs,ns,rfl,ox,hE,hS,hR,fun C1 m1 e1=>?_⟩;have E1:=hE.ex e1 m1;have R1:=iK (τ:=τ) hS.a ox hR
   try dsimp only
   refine mX (lQ _ _) ?_;refine lW (by decide) ?_;refine yQ ?_;refine mX (oX _ _) ?_
   by_cases h0:x.val A τ=0
   .refine lW (Af h0) ?_
    refine hX (v:=z.pv) rfl ?_
    try dsimp only
    refine⟨d',rfl,z,aa,tt,rr,A,τ,_,bs,ns,rfl,oz,E1,hS,R1,fun C2 m2 e2=>?_⟩;have:=q C2 (by unfold Rk.rds; rw[AW h0]; exact m2) (e1.trans e2);unfold Rk.val at this;rw[AW h0] at this;exact this
   .refine vZ (AS h0) ?_
    refine hX (v:=y.pv) rfl ?_
    try dsimp only
    refine⟨d',rfl,y,aa,tt,rr,A,τ,_,bs,ns,rfl,oy,E1,hS,R1,fun C2 m2 e2=>?_⟩;have:=q C2 (by unfold Rk.rds; rw[AT h0]; exact m2) (e1.trans e2);unfold Rk.val at this;rw[AT h0] at this;exact this
 induction d with
 |zero=>exact main 0 fun d' e=>by omega
 |succ d ih=>exact main (d+1) fun d' e=>by cases At e; exact ih
end
structure HdV where
 ev:Str
 rank:Int
 last:Bool
 ch:List (Str×Str×Int)
inductive Wt where
 |plain (sp:List Key) (tag:Str) (sets:List (Str×Int)) (hands:List HdV) (row:List Wt)
 |part (sp:List Key) (name:Str) (gives:List (Str×Int))
 |give (sp:List Key) (name:Str) (num:Int) (row:List Wt)
def pI (c:Str×Str×Int):PV:=.tup [.str c.1,.str c.2.1,.int c.2.2]
def HdV.pv (h:HdV):PV:=.tup [.str h.ev,.int h.rank,.bl h.last,.tup (h.ch.map pI)]
mutual
def Wt.pv:Wt->PV
 |.plain sp tag s h r=>.tup [.str "plain",aJ sp,.str tag,.tup (s.map rQ),.tup (h.map HdV.pv),.tup (Wt.pvs r)]
 |.part sp n g=>.tup [.str "part",aJ sp,.str n,.tup (g.map rQ)]
 |.give sp n i r=>.tup [.str "give",aJ sp,.str n,.int i,.tup (Wt.pvs r)]
def Wt.pvs:List Wt->List PV
 |[]=>[]
 |w::ws=>w.pv::Wt.pvs ws
end
theorem Wt.pvs_map (ls:List Wt):Wt.pvs ls=ls.map Wt.pv:=by
 induction ls with
 |nil=>rfl
 |cons l ls ih=>rw[Ac,<- ih]; rfl
theorem Wt.pvs_app (xs ys:List Wt):Wt.pvs (xs++ys)=Wt.pvs xs++Wt.pvs ys:=by
 rw[Wt.pvs_map,Wt.pvs_map,Wt.pvs_map,AQ]
theorem Wt.pvs_len (xs:List Wt):(Wt.pvs xs).length=xs.length:=by rw[Wt.pvs_map,AA]
section
variable (A:Rds)(τ:Tns)
def yJ (ps:List (Str×Rk)):List (Str×Int):=ps.map fun c=>(c.1,c.2.val A τ)
def xV (ps:List (Str×Rk))(R:Rds):Rds:=ps.foldl (fun R c=>c.2.rds A τ R) R
def tI (cs:List (Str×Str×Rk)):List (Str×Str×Int):=cs.map fun c=>(c.1,c.2.1,c.2.2.val A τ)
def K5 (cs:List (Str×Str×Rk))(R:Rds):Rds:=cs.foldl (fun R c=>c.2.2.rds A τ R) R
def Kp (h:Hd):HdV:=⟨h.ev,h.rank,h.last,tI A τ h.ch⟩
def zV (hs:List Hd):List HdV:=hs.map (Kp A τ)
def tV (hs:List Hd)(R:Rds):Rds:=hs.foldl (fun R h=>K5 A τ h.ch R) R
def mG:Option Rk->Key
 |none=>.inl none
 |some r=>.inl (some (r.val A τ))
def nW:Option Rk->Rds->Rds
 |none,R=>R
 |some r,R=>r.rds A τ R
end
def eF (N:Tns)(k:Key):Int:=match fZ N k with
 |some (.int i)=>i
 |_=>0
def aF (i:Int):Nat:=(if i < 8 then i else 8).toNat
theorem wM (i:Int):aF i<=8:=by unfold aF; split<;>omega
abbrev DSt:=List Wt×Tns×Rds
def fV (N:Tns)(k:Key):List Key:=[k,.inl (some (eF N k))]
def jV (N:Tns)(k:Key):Tns:=gZ N k (.int (eF N k+1))
mutual
def qZ (A:Rds):Ln->Tns->DSt->DSt
 |.when r l1 l2,τ,st=>if r.val A τ=0 then oQ A l2 τ (st.1,st.2.1,r.rds A τ st.2.2) else oQ A l1 τ (st.1,st.2.1,r.rds A τ st.2.2)
 |.each n r ls,τ,st=>(List.range (aF (r.val A τ))).foldl (fun st k=>oQ A ls (gZ τ (.inr n) (.int (k:Nat))) st) (st.1,st.2.1,r.rds A τ st.2.2)
 |.part k n g,τ,st=>(st.1++[.part (fV st.2.1 (mG A τ k)) n (dY (yJ A τ g))],jV st.2.1 (mG A τ k),xV A τ g (nW A τ k st.2.2))
 |.give k n r ls,τ,st =>
  let d:=oQ A ls τ ([],[],r.rds A τ (nW A τ k st.2.2))
  (st.1++[.give (fV st.2.1 (mG A τ k)) n (r.val A τ) d.1],jV st.2.1 (mG A τ k),d.2.2)
 |.plain k tag s hs ls,τ,st =>
  let d:=oQ A ls τ ([],[],tV A τ hs (xV A τ s (nW A τ k st.2.2)))
  (st.1++[.plain (fV st.2.1 (mG A τ k)) tag (dY (yJ A τ s)) (zV A τ hs) d.1],jV st.2.1 (mG A τ k),d.2.2)
def oQ (A:Rds):List Ln->Tns->DSt->DSt
 |[],_,st=>st
 |l::ls,τ,st=>oQ A ls τ (qZ A l τ st)
end
noncomputable def iU (A:Rds)(τ:Tns)(sp:List Key):Ln->Rds->Wt×Rds
 |.part _ n g,R=>(.part sp n (dY (yJ A τ g)),xV A τ g R)
 |.give _ n r ls,R=>(.give sp n (r.val A τ) (oQ A ls τ ([],[],r.rds A τ R)).1,(oQ A ls τ ([],[],r.rds A τ R)).2.2)
 |.plain _ tag s hs ls,R=>(.plain sp tag (dY (yJ A τ s)) (zV A τ hs) (oQ A ls τ ([],[],tV A τ hs (xV A τ s R))).1,(oQ A ls τ ([],[],tV A τ hs (xV A τ s R))).2.2)
 |_,R=>(.part sp "" [],R)
theorem dZ (A:Rds)(τ:Tns)(st:DSt):oQ A [] τ st=st:=by unfold oQ; rfl
theorem xZ (A:Rds)(l:Ln)(ls:List Ln)(τ:Tns)(st:DSt):oQ A (l::ls) τ st=oQ A ls τ (qZ A l τ st):=by rw[oQ]
theorem iA (A:Rds)(xs ys:List Ln)(τ:Tns)(st:DSt):oQ A (xs++ys) τ st=oQ A ys τ (oQ A xs τ st):=by
 induction xs generalizing st with
 |nil=>rw[dZ]; rfl
 |cons x xs ih=>rw[B9,xZ,xZ,ih]
def isTh:Ln->Bool
 |.when _ _ _=>false
 |.each _ _ _=>false
 |_=>true
def oG:Ln->Option Rk
 |.plain k _ _ _ _=>k
 |.part k _ _=>k
 |.give k _ _ _=>k
 |_=>none
theorem aA (A:Rds)(τ:Tns)(l:Ln)(F:List Wt)(N:Tns)(R:Rds)(h:isTh l=true):
  qZ A l τ (F,N,R)=(F++[(iU A τ (fV N (mG A τ (oG l))) l (nW A τ (oG l) R)).1],jV N (mG A τ (oG l)),(iU A τ (fV N (mG A τ (oG l))) l (nW A τ (oG l) R)).2):=by
 cases l with
 |plain k tag s hs ls=>rw[qZ]; rfl
 |part k n g=>rw[qZ]; rfl
 |give k n r ls=>rw[qZ]; rfl
 |when r l1 l2=>cases h
 |each n r ls=>cases h
theorem rY {α:Type}{f:α->Nat->α}{m:α->Nat}{c:Nat}(h:∀x k,m (f x k)<=m x+c):∀(l:List Nat) (x:α),m (l.foldl f x)<=m x+l.length * c
 |[],x=>by show m x<=m x+0 * c; omega
 |k::l,x=>by
  have h1:=rY h l (f x k);have h2:=h x k;rw[List.foldl_cons,AI,DH,Nat.one_mul];omega
mutual
theorem J1 (A:Rds):∀(l:Ln) (τ:Tns) (st:DSt),(qZ A l τ st).1.length<=st.1.length+l.tw/\(qZ A l τ st).2.1.length<=st.2.1.length+l.tw
 |.when r l1 l2,τ,st=>by
  rw[qZ];have h1:=jJ A l1 τ (st.1,st.2.1,r.rds A τ st.2.2);have h2:=jJ A l2 τ (st.1,st.2.1,r.rds A τ st.2.2);show _<=_+(Ln.tws l1+Ln.tws l2)/\_<=_+(Ln.tws l1+Ln.tws l2)
  split
  .exact ⟨Ae h2.1 (by show st.1.length+_<=_; omega),Ae h2.2 (by show st.2.1.length+_<=_; omega)⟩
  .exact ⟨Ae h1.1 (by show st.1.length+_<=_; omega),Ae h1.2 (by show st.2.1.length+_<=_; omega)⟩
 |.each n r ls,τ,st=>by
  rw[qZ];have c:=wM (r.val A τ);have f1:=rY (f:=fun st k=>oQ A ls (gZ τ (.inr n) (.int (k:Nat))) st) (m:=fun st=>st.1.length) (c:=Ln.tws ls) (fun x k=>(jJ A ls _ x).1) (List.range (aF (r.val A τ))) (st.1,st.2.1,r.rds A τ st.2.2);have f2:=rY (f:=fun st k=>oQ A ls (gZ τ (.inr n) (.int (k:Nat))) st) (m:=fun st=>st.2.1.length) (c:=Ln.tws ls) (fun x k=>(jJ A ls _ x).2) (List.range (aF (r.val A τ))) (st.1,st.2.1,r.rds A τ st.2.2)
  rw[Ak] at f1 f2;have hm:aF (r.val A τ) * Ln.tws ls<=8 * Ln.tws ls:=A2 _ c;show _<=st.1.length+8 * Ln.tws ls/\_<=st.2.1.length+8 * Ln.tws ls;exact⟨Ae f1 (by show st.1.length+_<=_; omega),Ae f2 (by show st.2.1.length+_<=_; omega)⟩
 |.part k n g,τ,st=>by
  rw[qZ];refine⟨by show(st.1++[_]).length<=st.1.length+1; rw[AC,AO]; exact AJ _,oB _ _ _⟩
 |.give k n r ls,τ,st=>by
  rw[qZ];refine⟨by show(st.1++[_]).length<=st.1.length+(1+_); rw[AC,AO]; omega,Ae (oB _ _ _) (by show _<=_+(1+_); omega)⟩
 |.plain k tag s hs ls,τ,st=>by
  rw[qZ];refine⟨by show(st.1++[_]).length<=st.1.length+(1+_); rw[AC,AO]; omega,Ae (oB _ _ _) (by show _<=_+(1+_); omega)⟩
theorem jJ (A:Rds):∀(ls:List Ln) (τ:Tns) (st:DSt),(oQ A ls τ st).1.length<=st.1.length+Ln.tws ls/\(oQ A ls τ st).2.1.length<=st.2.1.length+Ln.tws ls
 |[],τ,st=>by rw[dZ]; exact⟨B7 _ _,B7 _ _⟩
 |l::ls,τ,st=>by
  rw[xZ];have h1:=J1 A l τ st;have h2:=jJ A ls τ (qZ A l τ st);show _<=_+(l.tw+Ln.tws ls)/\_<=_+(l.tw+Ln.tws ls);omega
end
theorem aW {A:Rds}{τ:Tns}(hA:ABd A){bs ns:List Str}{d:Nat}:∀{ps:List (Str×Rk)}{R:Rds},yH bs ns d ps->RdOk bs R->RdOk bs (xV A τ ps R)
 |[],R,_,h=>h
 |c::ps,R,hp,h=>aW (ps:=ps) hA (fun x hx=>hp x (AG _ hx)) (iK hA (hp c AD) h)
theorem gR {A:Rds}{τ:Tns}(hA:ABd A){bs ns:List Str}{d:Nat}:∀{cs:List (Str×Str×Rk)}{R:Rds},(∀c∈cs,c.2.2.ok bs ns d)->RdOk bs R->RdOk bs (K5 A τ cs R)
 |[],R,_,h=>h
 |c::ps,R,hp,h=>gR (cs:=ps) hA (fun x hx=>hp x (AG _ hx)) (iK hA (hp c AD) h)
theorem gU {A:Rds}{τ:Tns}(hA:ABd A){bs ns:List Str}:∀{hs:List Hd}{R:Rds},(∀h∈hs,h.ok bs ns)->RdOk bs R->RdOk bs (tV A τ hs R)
 |[],R,_,h=>h
 |c::ps,R,hp,h=>gU (hs:=ps) hA (fun x hx=>hp x (AG _ hx)) (gR hA (hp c AD).2 h)
theorem uU {A:Rds}{τ:Tns}(hA:ABd A){bs ns:List Str}{k:Option Rk}{R:Rds}(h:dC bs ns k)(hR:RdOk bs R):RdOk bs (nW A τ k R):=by
 cases k with
 |none=>exact hR
 |some r=>exact iK hA h hR
theorem rP {A:Rds}{bs rs:List Str}{d:Nat}(h1:∀l ns τ st,LnOk bs rs d ns l->RdOk bs st.2.2->RdOk bs (qZ A l τ st).2.2):∀(ls:List Ln) (ns:List Str) (τ:Tns) (st:DSt),(∀x∈ls,LnOk bs rs d ns x)->RdOk bs st.2.2->RdOk bs (oQ A ls τ st).2.2
 |[],ns,τ,st,_,h=>by rw[dZ]; exact h
 |l::ls,ns,τ,st,hl,h=>by
  rw[xZ];exact rP h1 ls ns τ _ (fun x hx=>hl x (AG _ hx)) (h1 l ns τ st (hl l AD) h)
theorem aG {α β:Type}{f:α->β->α}{P:α->Prop}(h:∀x k,P x->P (f x k)):∀(l:List β) (x:α),P x->P (l.foldl f x)
 |[],x,p=>p
 |k::l,x,p=>aG h l _ (h x k p)
theorem one_rd {A:Rds}(hA:ABd A){bs rs:List Str}:∀(d:Nat) (l:Ln) (ns:List Str) (τ:Tns) (st:DSt),LnOk bs rs d ns l->RdOk bs st.2.2->RdOk bs (qZ A l τ st).2.2:=by
 intro d
 induction d with
 |zero=>intro l ns τ st h; exact h.elim
 |succ d ih =>
  intro l ns τ st h hR;have br:=rP ih
  cases l with
  |plain k tag s hs ls =>
   obtain⟨h1,h2,h3,h4,h5⟩:=h;rw[qZ];exact br ls ns τ _ h4 (gU hA h3.1 (aW hA h2.1 (uU hA h1 hR)))
  |part k n g =>
   obtain⟨h1,h2,h3,h4⟩:=h;rw[qZ];exact aW hA h3 (uU hA h1 hR)
  |give k n r ls =>
   obtain⟨h1,h2,h3,h4,h5⟩:=h;rw[qZ];exact br ls ns τ _ h4 (iK hA h3 (uU hA h1 hR))
  |when r l1 l2 =>
   obtain⟨h1,⟨h2,h3⟩,h4,h5⟩:=h;rw[qZ]
   split
   .exact br l2 ns τ _ h4 (iK hA h1 hR)
   .exact br l1 ns τ _ h2 (iK hA h1 hR)
  |each n r ls =>
   obtain⟨h1,h2,h3⟩:=h;rw[qZ];exact aG (P:=fun st:DSt=>RdOk bs st.2.2) (fun x k p=>br ls [n] _ x h2 p) _ _ (iK hA h1 hR)
theorem yF {A:Rds}(hA:ABd A){bs rs:List Str}{d:Nat}{ls:List Ln}{ns:List Str}{τ:Tns}{st:DSt}(h:∀x∈ls,LnOk bs rs d ns x)(hR:RdOk bs st.2.2):RdOk bs (oQ A ls τ st).2.2:=rP (one_rd hA d) ls ns τ st h hR
def CInts (N:Tns):Prop:=∀kv∈N,∃i,kv.2=.int i
theorem CInts.put {N:Tns}(h:CInts N)(k:Key)(i:Int):CInts (gZ N k (.int i)):=by
 intro kv hk;unfold gZ at hk
 split at hk
 .obtain ⟨x,hx,rfl⟩:=Ab.1 hk
  split
  .exact ⟨i,rfl⟩
  .exact h x hx
 .rcases An.1 hk with hk | hk
  .exact h kv hk
  .cases AH.1 hk; exact⟨i,rfl⟩
theorem cnt_is {N:Tns}(h:CInts N)(k:Key):(fZ N k).getD (.int 0)=.int (eF N k):=by
 unfold eF
 cases e:fZ N k with
 |none=>rfl
 |some v =>
  obtain⟨kv,hm,rfl⟩:=wS e;obtain⟨i,ei⟩:=h kv hm;rw[ei]
  rfl
mutual
theorem one_ci (A:Rds):∀(l:Ln) (τ:Tns) (st:DSt),CInts st.2.1->CInts (qZ A l τ st).2.1
 |.when r l1 l2,τ,st,h=>by
  rw[qZ]
  split
  .exact yY A l2 τ _ h
  .exact yY A l1 τ _ h
 |.each n r ls,τ,st,h=>by
  rw[qZ];exact aG (P:=fun st:DSt=>CInts st.2.1) (fun x k p=>yY A ls _ x p) _ _ h
 |.part k n g,τ,st,h=>by rw[qZ]; exact h.put _ _
 |.give k n r ls,τ,st,h=>by rw[qZ]; exact h.put _ _
 |.plain k tag s hs ls,τ,st,h=>by rw[qZ]; exact h.put _ _
theorem yY (A:Rds):∀(ls:List Ln) (τ:Tns) (st:DSt),CInts st.2.1->CInts (oQ A ls τ st).2.1
 |[],τ,st,h=>by rw[dZ]; exact h
 |l::ls,τ,st,h=>by rw[xZ]; exact yY A ls τ _ (one_ci A l τ st h)
end
theorem jF {n:Nat}{c:TCE}{ρ:CSt}{Q:K1}(I:List PV->List PV->CH->Prop)(step:∀x r acc C,I (x::r) acc C->∃ts,x=.tup ts/\ts.length=n/\∀L:K1,(∀y C2,acc.length < sizeLine/\I r (acc++[y]) C2->L y C2)->c (ts.map some++ρ) C L)(fin:∀acc C,I [] acc C->∀p,C p=none->Q (.ref p) (uQ C p (.lst acc))):
  ∀xs acc C,I xs acc C->fU n vF c ρ Q xs acc C:=by
 intro xs
 induction xs with
 |nil=>intro acc C h; exact fin acc C h
 |cons x r ih =>
  intro acc C h;obtain⟨ts,e,hn,st⟩:=step x r acc C h;exact⟨ts,e,hn,st _ fun y C2 z=>⟨z.1,ih _ _ z.2⟩⟩
section
variable {P:Program}{w:World}{K:DK}{mg:Str->Option Value}{base:Heap}{a:Adr}
structure Sf (a:Adr)(C:CH)(x aa rr:Addr)(A R:Rds):Prop where
 ins:∃dx,C x=some (.ins a.Drawer dx [("answers",.ref aa),("asked",.ref rr)])
 ans:C aa=some (.dT A)
 ask:C rr=some (.dT R)
 ne:aa≠rr
theorem Sf.nx {C:CH}{x aa rr:Addr}{A R:Rds}(h:Sf a C x aa rr A R):x≠rr:=fun e=>by
 obtain⟨dx,h1⟩:=h.ins;rw[e,h.ask] at h1; cases h1
theorem Sf.keep {C C':CH}{x aa rr:Addr}{A R R':Rds}{S:List Addr}(h:Sf a C x aa rr A R)(e:ExS S C C')(hx:x∉S)(hn:aa∉S)(hk:C' rr=some (.dT R')):Sf a C' x aa rr A R' :=
 ⟨let ⟨dx,h1⟩:=h.ins; ⟨dx,e _ _ hx h1⟩,e _ _ hn h.ans,hk,h.ne⟩
theorem Sf.keep' {C C':CH}{x aa rr:Addr}{A R:Rds}{S:List Addr}(h:Sf a C x aa rr A R)(e:ExS S C C')(hx:x∉S)(hn:aa∉S)(hk:rr∉S):Sf a C' x aa rr A R :=
 h.keep e hx hn (e _ _ hk h.ask)
theorem Sf.rd {C C':CH}{x aa rr:Addr}{A R R':Rds}(h:Sf a C x aa rr A R)(e:ExS [rr] C C')(hk:C' rr=some (.dT R')):Sf a C' x aa rr A R' :=
 h.keep e (fun z=>h.nx (AH.1 z)) (fun z=>h.ne (AH.1 z)) hk
theorem Sf.new {C:CH}{x aa rr p:Addr}{A R:Rds}(h:Sf a C x aa rr A R)(hp:C p=none)(o:CO):Sf a (uQ C p o) x aa rr A R:=by
 have e:ExS [] C (uQ C p o):=ExS.refl.put hp o;exact h.keep' e (BP) (BP) (BP)
theorem Sf.nd {C:CH}{x aa rr ct:Addr}{A R:Rds}{cs:List (Key×PV)}(h:Sf a C x aa rr A R)(m:C ct=some (.dK cs)):x≠ct/\aa≠ct/\rr≠ct:=by
 obtain⟨dx,h1⟩:=h.ins;refine⟨fun e=>?_,fun e=>?_,fun e=>?_⟩
 .rw [e,m] at h1; cases h1
 .have:=h.ans; rw[e,m] at this; cases this
 .have:=h.ask; rw[e,m] at this; cases this
theorem Sf.nl {C:CH}{x aa rr p:Addr}{A R:Rds}{xs:List PV}(h:Sf a C x aa rr A R)(m:C p=some (.lst xs)):x≠p/\aa≠p/\rr≠p:=by
 obtain⟨dx,h1⟩:=h.ins;refine⟨fun e=>?_,fun e=>?_,fun e=>?_⟩
 .rw [e,m] at h1; cases h1
 .have:=h.ans; rw[e,m] at this; cases this
 .have:=h.ask; rw[e,m] at this; cases this
theorem Sf.nn {C:CH}{x aa rr p:Addr}{A R:Rds}(h:Sf a C x aa rr A R)(m:C p=none):x≠p/\aa≠p/\rr≠p:=by
 obtain⟨dx,h1⟩:=h.ins;refine⟨fun e=>?_,fun e=>?_,fun e=>?_⟩
 .rw [e,m] at h1; cases h1
 .have:=h.ans; rw[e,m] at this; cases this
 .have:=h.ask; rw[e,m] at this; cases this
def gInit (a:Adr):GC:=fun ts C Q=>∃(x dx aa:Addr) (A:Rds),ts=[.ref x,.ref aa]/\C x=some (.ins a.Drawer dx [])/\C aa=some (.dT A)/\∀C' rr,C rr=none->Sf a C' x aa rr A []->ExS [x] C C'->Q .non C'
theorem ok_init (T:Txt P w K mg a):FnOk P w K mg base CX0 1 (a.f 35) (a.d 35) ["self","answers"] (spC K (gInit a)):=by
 have S:=(T.F 35 rfl).s
 refine(T.F 35 rfl).ok (fun ts C R h=>?_) fun cdv A outer s H E hr=>⟨_,(xQ (KR T.zX T.gY (cv 0) (cv 1))
  (kQ (KR T.zX T.xW (cv 0) Q8))),?_⟩
 .obtain ⟨_,_,_,_,rfl,_⟩:=h; rfl
 rintro ts C R ⟨x,dx,an,A,rfl,mx,man,q⟩;have ne:an≠x:=fun e=>by rw[e,mx] at man; cases man
 refine Jd mx (by decide) ?_
 try dsimp only
 intro ak hak
 have hak0:C ak=none:=by
  rw[wQ (fun z=>by rw[z,jQ] at hak; cases hak)] at hak;exact hak
 have nk:ak≠x:=fun e=>by rw[e,mx] at hak0; cases hak0
 refine Jd (p:=x) (by rw[wQ (Ne.symm nk)]; exact jQ) (by show 1 < 1000; decide) ?_;refine q _ ak hak0 ⟨⟨dx,?_⟩,?_,?_,fun e=>by rw[e,hak0] at man; cases man⟩ ?_
 .rw [jQ]
  rfl
 .rw [wQ ne,wQ (fun e=>by rw[e,hak0] at man; cases man),wQ ne]; exact man
 .rw [wQ nk]; exact jQ
 .exact ((ExS.refl.at AD _).put hak0 _).at AD _
def gDnum (a:Adr)(d:Nat):GC:=fun ts C Q=>∃(r:Rk) (x aa tt rr:Addr) (A:Rds) (τ:Tns) (R:Rds) (bs ns:List Str),ts=[.ref x,r.pv,.ref tt]/\r.ok bs ns d/\Sf a C x aa rr A R/\C tt=some (.dK τ)/\fG A τ bs ns/\RdOk bs R/\∀C',Sf a C' x aa rr A (r.rds A τ R)->ExS [rr] C C'->Q (.int (r.val A τ)) C'
theorem yU (T:Txt P w K mg a)(d:Nat):FnOk P w K mg base CX0 (d+4) (a.f 36) (a.d 36) ["self","reckoning","turns"] (spC K (gDnum a d)):=by
 have S:=(T.F 36 rfl).s;have eK:=yC (base:=base) T d;refine(T.F 36 rfl).ok (fun ts C R h=>?_) fun cdv A outer s H E hr=>⟨_,(kQ (cQ (cf (T.F 4 rfl) eK hr (qQ (cv 1) (qQ (aI T.zX T.gY (cv 0)) (qQ (cv 2) (ca1 (aI T.zX T.xW (cv 0))))))))),?_⟩
 .obtain ⟨r,_,_,_,_,_,_,_,_,_,rfl,_⟩:=h; rfl
 rintro ts C Q ⟨r,x,aa,tt,rr,A,τ,R,bs,ns,rfl,ok,sf,mtn,hS,hR,q⟩;obtain⟨dx,mx⟩:=sf.ins;refine Kz mx rfl ?_;refine Kz mx rfl ?_;refine⟨r,aa,tt,rr,A,τ,R,bs,ns,rfl,ok,⟨sf.ans,mtn,sf.ask,sf.ne⟩,hS,hR,fun C1 m1 x1=>?_⟩;exact q C1 (sf.rd x1 m1) x1
def X9 (a:Adr):GC:=fun ts C Q=>∃(ps:List (Str×Rk)) (x aa tt rr:Addr) (A:Rds) (τ:Tns) (R:Rds) (bs ns:List Str),ts=[.ref x,.tup (ps.map lV),.ref tt]/\yH bs ns 2 ps/\ps.length<=4/\Sf a C x aa rr A R/\C tt=some (.dK τ)/\fG A τ bs ns/\RdOk bs R /\
 ∀C' l,C l=none->C' l=some (.lst ((yJ A τ ps).map rQ))->Sf a C' x aa rr A (xV A τ ps R)->ExS [rr] C C'->Q (.ref l) C'
theorem dF (T:Txt P w K mg a):FnOk P w K mg base CX0 7 (a.f 37) (a.d 37) ["self","pairs","turns"] (spC K (X9 a)):=by
 have S:=(T.F 37 rfl).s;have wX:=yU (base:=base) T 2;refine(T.F 37 rfl).ok (fun ts C R h=>?_) fun cdv A outer s H E hr=>⟨_,(kQ (cQ (qG rfl (S.c (by decide +kernel)) (S.k rfl rfl rfl (by decide +kernel)) (aY (cv 1)) (fun _ _ _ _ _=>bJ) (fun _ _ _ _ _=>(bQ (qQ (cx (cv 0) zQ) (ca1 (cm T.zX (T.F 36 rfl) T.lX wX hr (cv 1) (qQ (cx (cv 0) zQ) (ca1 (cv 3))))))))))),?_⟩
 .obtain ⟨_,_,_,_,_,_,_,_,_,_,rfl,_⟩:=h; rfl
 rintro ts C Q ⟨ps,x,aa,tt,rr,A,τ,R,bs,ns,rfl,hp,hl,sf,mtn,hS,hR,q⟩;have nt:tt∉[rr]:=fun z=>(sf.nd mtn).2.2 (AH.1 z).symm;refine cK (fun zs acc C1=>∃ds es:List (Str×Rk),ps=ds++es/\zs=es.map lV/\acc=(yJ A τ ds).map rQ/\Sf a C1 x aa rr A (xV A τ ds R)/\ExS [rr] C C1) ?_ ?_ _ _ _ ⟨[],ps,rfl,rfl,rfl,sf,ExS.refl⟩
 .rintro z zs acc C1 ⟨ds,es,e1,e2,rfl,sf1,x1⟩ L hL
  cases es with
  |nil=>cases e2
  |cons p es =>
   rw[Ac] at e2;injection e2 with e2 e3
   subst e2 e3;obtain⟨dx,mx⟩:=sf1.ins;refine hX rfl ?_;refine⟨tX mx rfl,?_⟩;refine hX rfl ?_;refine⟨p.2,x,aa,tt,rr,A,τ,_,bs,ns,rfl,hp p (by rw[e1]; exact AY _ AD),sf1,x1 _ _ nt mtn,hS,aW hS.a (fun y hy=>hp y (by rw[e1]; exact A0 _ hy)) hR,fun C2 sf2 x2=>?_⟩;refine⟨zz 2 rfl,?_⟩;refine hL _ _ ⟨?_,ds++[p],es,by rw[e1,AK]; rfl,rfl,by unfold yJ; rw[AQ,AQ]; rfl,?_,x1.trans x2⟩
   .rw [AA]
    unfold yJ;rw[AA];have:ds.length<=4:=by rw[e1,AC] at hl; omega
    exact As this (by decide)
   .unfold xV at sf2 ⊢
    rw[BZ];exact sf2
 .rintro acc C1 ⟨ds,es,e1,e2,rfl,sf1,x1⟩ p hp0
  cases es with
  |cons _ _=>cases e2
  |nil =>
   rw[AZ] at e1;subst e1;have p0:C p=none:=x1.none (fun z=>(sf1.nn hp0).2.2 (AH.1 z).symm) hp0;exact q _ p p0 jQ (sf1.new hp0 _) (x1.put p0 _)
theorem keyOf_keyPV (k:Key):kK (zY k)=some k:=by
 rcases k with (_ | i) | x<;>rfl
def gSpot (a:Adr):GC:=fun ts C Q=>∃(k:Option Rk) (x aa tt rr cc:Addr) (A:Rds) (τ:Tns) (R:Rds) (N:Tns) (bs ns:List Str),ts=[.ref x,dU k,.ref tt,.ref cc]/\dC bs ns k/\Sf a C x aa rr A R/\C tt=some (.dK τ)/\C cc=some (.dK N)/\CInts N/\N.length<=900/\fG A τ bs ns/\RdOk bs R /\
 ∀C',C' cc=some (.dK (jV N (mG A τ k)))->Sf a C' x aa rr A (nW A τ k R)->ExS [rr,cc] C C'->Q (aJ (fV N (mG A τ k))) C'
theorem ok_spot (T:Txt P w K mg a):FnOk P w K mg base CX0 5 (a.f 42) (a.d 42) ["self","key","turns","counts"] (spC K (gSpot a)):=by
 have S:=(T.F 42 rfl).s;have wX:=yU (base:=base) T 0
 refine(T.F 42 rfl).ok (fun ts C R h=>?_) fun cdv A outer s H E hr=>⟨_,(xQ (cs1 4 S.nd (Q9 (ct2 op_isN cop_isN (cv 1) uP) uP (cm T.zX (T.F 36 rfl) T.lX wX hr (cv 0) (qQ (cv 1) (ca1 (cv 2))))))
  (xQ (cs1 5 S.nd (K9 (rX hr) (cv 3) (cv 4) zQ))
  (xQ (yK (rX hr) (cv 3) (cv 4) (iQ yX gX (cv 5) zQ))
  (kQ (cQ (bQ (qQ (cv 4) (ca1 (cv 5))))))))),?_⟩
 .obtain ⟨_,_,_,_,_,_,_,_,_,_,_,_,rfl,_⟩:=h; rfl
 rintro ts C Q ⟨ke,x,aa,tt,rr,cc,A,τ,R,N,bs,ns,rfl,hk,sf,mtn,mct,hc,hs,hS,hR,q⟩;obtain⟨n1,n2,n3⟩:=sf.nd mct
 have rest:∀C1,Sf a C1 x aa rr A (nW A τ ke R)->ExS [rr] C C1->lR (Qc 5 (Vi (rZ 3) (rZ 4) (cC (.int 0)))) (lR (cDPut (rZ 3) (rZ 4) (cOp aR (rZ 5) (cC (.int 1)))) (cRet (Qb (uK (rZ 4) (uK (rZ 5) iF))))) { nx:=fun _ C'=>Q .non C',rt:=Q } [some (.ref x),some (dU ke),some (.ref tt),some (.ref cc),some (zY (mG A τ ke)),none] C1:=by
  intro C1 sf1 x1;have mct1:=x1 _ _ (fun z=>n3 (AH.1 z).symm) mct;refine yQ (i:=5) ?_;refine⟨isDk_g mct1,?_⟩;refine getD_g mct1 (keyOf_keyPV _) (cnt_is hc _) ?_
  try dsimp only
  refine dX ?_;refine uY ?_;refine cW mct1 (keyOf_keyPV _) (by omega) ?_
  try dsimp only
  refine⟨zz 2 rfl,?_⟩;refine q _ jQ ?_ ((x1.mono fun b hb=>Ah.2 (.inl (AH.1 hb))).at (AG _ AD) _);refine sf1.keep' (S:=[cc]) (ExS.refl.at AD _) ?_ ?_ ?_
  .exact fun z=>n1 (AH.1 z)
  .exact fun z=>n2 (AH.1 z)
  .exact fun z=>n3 (AH.1 z)
 cases ke with
 |none=>exact rest C sf ExS.refl
 |some r =>
   obtain⟨dx,mx⟩:=sf.ins;have hr:∃xs,r.pv=.tup xs:=by cases r<;>exact⟨_,rfl⟩
   obtain⟨xs,hr⟩:=hr;have rest':=rest
   simp only[dU,hr] at rest' ⊢
   refine yQ (i:=4) ?_;refine if_i ?_;refine ZL rfl ?_;refine jM rfl ?_;refine⟨tX mx rfl,?_⟩;refine⟨r,x,aa,tt,rr,A,τ,R,bs,ns,by rw[hr],hk,sf,mtn,hS,hR,fun C1 sf1 x1=>?_⟩;exact rest' C1 sf1 x1
def gHand (a:Adr):GC:=fun ts C Q=>∃(h:Hd) (x aa tt rr:Addr) (A:Rds) (τ:Tns) (R:Rds) (bs ns:List Str),ts=[.ref x,h.pv,.ref tt]/\h.ok bs ns/\Sf a C x aa rr A R/\C tt=some (.dK τ)/\fG A τ bs ns/\RdOk bs R /\
 ∀C',Sf a C' x aa rr A (K5 A τ h.ch R)->ExS [rr] C C'->Q (Kp A τ h).pv C'
theorem ok_hand (T:Txt P w K mg a):FnOk P w K mg base CX0 6 (a.f 43) (a.d 43) ["self","hand","turns"] (spC K (gHand a)):=by
 have S:=(T.F 43 rfl).s;have wX:=yU (base:=base) T 1
 refine(T.F 43 rfl).ok (fun ts C R h=>?_) fun cdv A outer s H E hr=>⟨_,(xQ (Q7 (i:=3) S.nd rfl (Or.inl rfl) rfl (S.c (by decide +kernel)) (S.k rfl rfl rfl (by decide +kernel)) (aY (cx (cv 1) zQ)) (fun _ _ _ _ _=>bJ) (fun _ _ _ _ _=>(bQ (qQ (cx (cv 0) zQ) (qQ (cx (cv 0) zQ) (ca1 (cm T.zX (T.F 36 rfl) T.lX wX hr (cv 1) (qQ (cx (cv 0) zQ) (ca1 (cv 3))))))))))
  (kQ (cQ (bQ (qQ (cx (cv 1) zQ) (qQ (cx (cv 1) zQ) (qQ (cx (cv 1) zQ) (ca1 (ctp T.aX (cv 3)))))))))),?_⟩
 .obtain ⟨_,_,_,_,_,_,_,_,_,_,rfl,_⟩:=h; rfl
 rintro ts C Q ⟨h,x,aa,tt,rr,A,τ,R,bs,ns,rfl,hh,sf,mtn,hS,hR,q⟩;have nt:tt∉[rr]:=fun z=>(sf.nd mtn).2.2 (AH.1 z).symm;refine yQ ?_;refine hX (v:=.tup (h.ch.map K6)) rfl ?_;refine cK (fun zs acc C1=>∃ds es:List (Str×Str×Rk),h.ch=ds++es/\zs=es.map K6/\acc=(tI A τ ds).map pI/\Sf a C1 x aa rr A (K5 A τ ds R)/\ExS [rr] C C1) ?_ ?_ _ _ _ ⟨[],h.ch,rfl,rfl,rfl,sf,ExS.refl⟩
 .rintro z zs acc C1 ⟨ds,es,e1,e2,rfl,sf1,x1⟩ L hL
  cases es with
  |nil=>cases e2
  |cons p es =>
   rw[Ac] at e2;injection e2 with e2 e3
   subst e2 e3;obtain⟨dx,mx⟩:=sf1.ins;refine hX rfl ?_;refine hX rfl ?_;refine⟨tX mx rfl,?_⟩;refine hX rfl ?_;refine⟨p.2.2,x,aa,tt,rr,A,τ,_,bs,ns,rfl,hh.2 p (by rw[e1]; exact AY _ AD),sf1,x1 _ _ nt mtn,hS,gR hS.a (fun y hy=>hh.2 y (by rw[e1]; exact A0 _ hy)) hR,fun C2 sf2 x2=>?_⟩;refine⟨zz 3 rfl,?_⟩;refine hL _ _ ⟨?_,ds++[p],es,by rw[e1,AK]; rfl,rfl,by unfold tI; rw[AQ,AQ]; rfl,?_,x1.trans x2⟩
   .rw [AA]
    unfold tI;rw[AA];have hl:=hh.1;have:ds.length<=4:=by rw[e1,AC] at hl; omega
    exact As this (by decide)
   .unfold K5 at sf2 ⊢
    rw[BZ];exact sf2
 .rintro acc C1 ⟨ds,es,e1,e2,rfl,sf1,x1⟩ p hp0
  cases es with
  |cons _ _=>cases e2
  |nil =>
   rw[AZ] at e1;have p0:C p=none:=x1.none (fun z=>(sf1.nn hp0).2.2 (AH.1 z).symm) hp0
   try dsimp only
   refine hX (v:=.str h.ev) rfl ?_;refine hX (v:=.int h.rank) rfl ?_;refine hX (v:=.bl h.last) rfl ?_;refine wJ jQ ?_;refine⟨zz 4 rfl,?_⟩;have:=q _ (by rw[e1]; exact sf1.new hp0 _) (x1.put p0 (.lst ((tI A τ ds).map pI)));unfold HdV.pv Kp at this;rw[e1] at this;exact this
end
structure S6 (a:Adr)(C:CH)(x aa rr tt ff cc:Addr)(A:Rds)(τ:Tns)(st:DSt):Prop where
 sf:Sf a C x aa rr A st.2.2
 mt:C tt=some (.dK τ)
 mf:C ff=some (.lst (Wt.pvs st.1))
 mc:C cc=some (.dK st.2.1)
 tc:tt≠cc
section
variable {a:Adr}{C C':CH}{x aa rr tt ff cc:Addr}{A:Rds}{τ:Tns}{st st':DSt}
theorem S6.fc (h:S6 a C x aa rr tt ff cc A τ st):ff≠cc:=fun z=>by have:=h.mf; rw[z,h.mc] at this; cases this
theorem S6.tf (h:S6 a C x aa rr tt ff cc A τ st):tt≠ff:=fun z=>by have:=h.mt; rw[z,h.mf] at this; cases this
theorem S6.fr (h:S6 a C x aa rr tt ff cc A τ st):ff≠rr:=fun z=>(h.sf.nl h.mf).2.2 z.symm
theorem S6.cr (h:S6 a C x aa rr tt ff cc A τ st):cc≠rr:=fun z=>(h.sf.nd h.mc).2.2 z.symm
theorem S6.tr (h:S6 a C x aa rr tt ff cc A τ st):tt≠rr:=fun z=>(h.sf.nd h.mt).2.2 z.symm
theorem S6.nt (h:S6 a C x aa rr tt ff cc A τ st):tt∉[ff,cc,rr]:=fun z=>by
 simp only[List.mem_cons,List.not_mem_nil,or_false] at z
 rcases z with z | z | z
 .exact h.tf z
 .exact h.tc z
 .exact h.tr z
theorem S6.rd (h:S6 a C x aa rr tt ff cc A τ st)(e:ExS [rr] C C'){R:Rds}(s:Sf a C' x aa rr A R):S6 a C' x aa rr tt ff cc A τ (st.1,st.2.1,R) :=
 ⟨s,e _ _ (fun z=>h.tr (AH.1 z)) h.mt,e _ _ (fun z=>h.fr (AH.1 z)) h.mf,e _ _ (fun z=>h.cr (AH.1 z)) h.mc,h.tc⟩
end
theorem zR {ff cc rr:Addr}{C C':CH}(h:ExS [rr] C C'):ExS [ff,cc,rr] C C':=h.mono fun b z=>by rw[AH.1 z]; simp
theorem qF {cc rr:Addr}{C C':CH}(h:ExS [rr] C C'):ExS [rr,cc] C C':=h.mono fun b z=>by rw[AH.1 z]; simp
theorem QY {ff cc rr:Addr}{C C':CH}(h:ExS [rr,cc] C C'):ExS [ff,cc,rr] C C':=h.mono fun b z=>by
 simp only[List.mem_cons,List.not_mem_nil,or_false] at z ⊢
 rcases z with z | z
 .exact .inr (.inr z)
 .exact .inr (.inl z)
theorem nD {x y:PV}{r:List PV}:atI (x::y::r) 1=some y:=Qg (xs:=x::y::r) (k:=1) (by simp)
theorem th_pv {l:Ln}(h:isTh l=true):∃(wd:Str) (rest:List PV),l.pv=.tup (.str wd::dU (oG l)::rest)/\decide (wd = "when")=false/\decide (wd = "each")=false:=by
 cases l with
 |plain k tag s hs ls=>exact⟨"plain",_,by rw[Ln.pv]; rfl,by decide,by decide⟩
 |part k n g=>exact⟨"part",_,by rw[Ln.pv]; rfl,by decide,by decide⟩
 |give k n r ls=>exact⟨"give",_,by rw[Ln.pv]; rfl,by decide,by decide⟩
 |when r l1 l2=>cases h
 |each n r ls=>cases h
def gBr (a:Adr)(d:Nat):GC:=fun ts C Q=>∃(ls:List Ln) (x aa tt rr ff cc:Addr) (A:Rds) (τ:Tns) (st:DSt) (bs rs ns:List Str),ts=[.ref x,.tup (Ln.pvs ls),.ref tt,.ref ff,.ref cc]/\(∀x∈ls,LnOk bs rs d ns x)/\st.1.length+Ln.tws ls<=400/\st.2.1.length+Ln.tws ls<=400/\τ.length+d<=50/\S6 a C x aa rr tt ff cc A τ st/\fG A τ bs ns/\RdOk bs st.2.2/\CInts st.2.1 /\
 ∀C',S6 a C' x aa rr tt ff cc A τ (oQ A ls τ st)->ExS [ff,cc,rr] C C'->Q .non C'
def gBrL (a:Adr)(d:Nat):GC:=fun ts C Q=>∃d',d=d'+1/\gBr a d' ts C Q
def gRow (a:Adr)(d:Nat):GC:=fun ts C Q=>∃(ls:List Ln) (x aa tt rr:Addr) (A:Rds) (τ:Tns) (R:Rds) (bs rs ns:List Str),ts=[.ref x,.tup (Ln.pvs ls),.ref tt]/\(∀x∈ls,LnOk bs rs d ns x)/\Ln.tws ls<=400/\τ.length+d<=50/\Sf a C x aa rr A R/\C tt=some (.dK τ)/\fG A τ bs ns/\RdOk bs R /\
 ∀C',Sf a C' x aa rr A (oQ A ls τ ([],[],R)).2.2->ExS [rr] C C'->Q (.tup (Wt.pvs (oQ A ls τ ([],[],R)).1)) C'
def gRowL (a:Adr)(d:Nat):GC:=fun ts C Q=>∃d',d=d'+1/\gRow a d' ts C Q
def gWant (a:Adr)(d:Nat):GC:=fun ts C Q=>∃(l:Ln) (x aa tt rr cc:Addr) (A:Rds) (τ:Tns) (R:Rds) (N:Tns) (bs rs ns:List Str),ts=[.ref x,l.pv,.ref tt,.ref cc]/\isTh l=true/\LnOk bs rs d ns l/\l.tw<=400/\τ.length+d<=50/\Sf a C x aa rr A R/\C tt=some (.dK τ)/\C cc=some (.dK N)/\tt≠cc/\CInts N/\N.length<=900/\fG A τ bs ns/\RdOk bs R /\
 ∀C',C' cc=some (.dK (jV N (mG A τ (oG l))))->Sf a C' x aa rr A (iU A τ (fV N (mG A τ (oG l))) l (nW A τ (oG l) R)).2->ExS [rr,cc] C C'->Q (iU A τ (fV N (mG A τ (oG l))) l (nW A τ (oG l) R)).1.pv C'
section
variable {P:Program}{w:World}{K:DK}{mg:Str->Option Value}{base:Heap}{a:Adr}
theorem Jz (T:Txt P w K mg a){d k:Nat}(xJ:FnOk P w K mg base CX0 k (a.f 39) (a.d 39) ["self","lines","turns","row","counts"] (spC K (gBr a d))):FnOk P w K mg base CX0 (k+1) (a.f 38) (a.d 38) ["self","lines","turns"] (spC K (gRow a d)):=by
 have S:=(T.F 38 rfl).s
 refine(T.F 38 rfl).ok (fun ts C R h=>?_) fun cdv A outer s H E hr=>⟨_,(xQ (cs1 3 S.nd (nX eX))
  (xQ (cZ (cm T.zX (T.F 39 rfl) T.lX xJ hr (cv 0) (qQ (cv 1) (qQ (cv 2) (qQ (cv 3) (ca1 bR))))))
  (kQ (cQ (ctp T.aX (cv 3)))))),?_⟩
 .obtain ⟨_,_,_,_,_,_,_,_,_,_,_,rfl,_⟩:=h; rfl
 rintro ts C Q ⟨ls,x,aa,tt,rr,A,τ,R,bs,rs,ns,rfl,ok,htw,hτ,sf,mtn,hS,hR,q⟩;refine⟨zz 0 rfl,fun ff ff0=>?_⟩
 try dsimp only
 have sf1:=sf.new ff0 (.lst []);obtain⟨dx,mx⟩:=sf1.ins;refine dX ?_;refine⟨tX mx rfl,?_⟩;intro cc cc0;have ncr:cc≠ff:=fun z=>by rw[z,jQ] at cc0; cases cc0
 have cc0':C cc=none:=by rw[wQ ncr] at cc0; exact cc0
 have sf2:=sf1.new cc0 (.dK []);have ntr:tt≠ff:=fun z=>by rw[z,ff0] at mtn; cases mtn
 have ntc:tt≠cc:=fun z=>by rw[z,cc0'] at mtn; cases mtn
 refine⟨ls,x,aa,tt,rr,ff,cc,A,τ,([],[],R),bs,rs,ns,rfl,ok,by show 0+_<=400; omega,by show 0+_<=400; omega,hτ,⟨sf2,by rw[wQ ntc,wQ ntr]; exact mtn,by rw[wQ (Ne.symm ncr)]; exact jQ,jQ,ntc⟩,hS,hR,(fun _ z=>nomatch z),fun C2 s2 e2=>?_⟩
 try dsimp only
 refine wJ s2.mf ?_;refine q C2 s2.sf fun b o hb hbo=>?_;have b1:b≠ff:=fun z=>by rw[z,ff0] at hbo; cases hbo
 have b2:b≠cc:=fun z=>by rw[z,cc0'] at hbo; cases hbo
 refine e2 b o (fun z=>?_) (by rw[wQ b2,wQ b1]; exact hbo)
 simp only[List.mem_cons,List.not_mem_nil,or_false] at z
 rcases z with z | z | z
 .exact b1 z
 .exact b2 z
 .exact hb (by rw[z]; exact AH.2 rfl)
theorem ok_want (T:Txt P w K mg a)(d k:Nat)(h7:7<=k)(gV:FnOk P w K mg base CX0 k (a.f 38) (a.d 38) ["self","lines","turns"] (spC K (gRowL a d))):FnOk P w K mg base CX0 (k+1) (a.f 41) (a.d 41) ["self","line","turns","counts"] (spC K (gWant a d)):=by
 have S:=(T.F 41 rfl).s;have gH:=(ok_spot (base:=base) T).mono (show 5<=k by omega);have wX:=(yU (base:=base) T 1).mono (show 5<=k by omega);have bK:=(dF (base:=base) T).mono h7;have bH:=(ok_hand (base:=base) T).mono (show 6<=k by omega)
 refine(T.F 41 rfl).ok (fun ts C R h=>?_) fun cdv A outer s H E hr=>⟨_,(xQ (cs1 4 S.nd (cm T.zX (T.F 42 rfl) T.lX gH hr (cv 0) (qQ (cx (cv 1) zQ) (qQ (cv 2) (ca1 (cv 3))))))
  (xQ (uX (ct2 cX kX (cx (cv 1) zQ) vQ) (kQ (cQ (bQ (qQ vQ (qQ (cv 4) (qQ (cx (cv 1) zQ) (qQ (cm T.zX (T.F 36 rfl) T.lX wX hr (cv 0) (qQ (cx (cv 1) zQ) (ca1 (cv 2)))) (ca1 (cm T.zX (T.F 38 rfl) T.lX gV hr (cv 0) (qQ (cx (cv 1) zQ) (ca1 (cv 2)))))))))))) aQ)
  (xQ (cs1 5 S.nd (ctp T.aX (fJ (yM rfl) gP rfl T.tD rfl (ca1 (cm T.zX (T.F 37 rfl) T.lX bK hr (cv 0) (qQ (cx (cv 1) zQ) (ca1 (cv 2))))))))
  (xQ (uX (ct2 cX kX (cx (cv 1) zQ) vQ) (kQ (cQ (bQ (qQ vQ (qQ (cv 4) (qQ (cx (cv 1) zQ) (ca1 (cv 5)))))))) aQ)
  (xQ (cs1 6 S.nd (ctp T.aX (qG rfl (S.c (by decide +kernel)) (S.k rfl rfl rfl (by decide +kernel)) (aY (cx (cv 1) zQ)) (fun _ _ _ _ _=>bJ) (fun _ _ _ _ _=>(cm T.zX (T.F 43 rfl) T.lX bH hr (cv 1) (qQ (cv 0) (ca1 (cv 3))))))))
  (kQ (cQ (bQ (qQ vQ (qQ (cv 4) (qQ (cx (cv 1) zQ) (qQ (cv 5) (qQ (cv 6) (ca1 (cm T.zX (T.F 38 rfl) T.lX gV hr (cv 0) (qQ (cx (cv 1) zQ) (ca1 (cv 2)))))))))))))))))),?_⟩
 .obtain ⟨_,_,_,_,_,_,_,_,_,_,_,_,_,rfl,_⟩:=h; rfl
 rintro ts C Q ⟨l,x,aa,tt,rr,cc,A,τ,R,N,bs,rs,ns,rfl,hth,ok,htw,hτ,sf,mtn,mct,ntc,hc,hs,hS,hR,q⟩;obtain⟨dx,mx⟩:=sf.ins;obtain⟨n1,n2,n3⟩:=sf.nd mct
 have nta:tt∉[rr,cc]:=fun z=>by
  rcases Ah.1 z with z | z
  .exact (sf.nd mtn).2.2 z.symm
  .exact ntc (AH.1 z)
 have nta':tt∉[rr]:=fun z=>nta (Ah.2 (.inl (AH.1 z)));have nca:cc∉[rr]:=fun z=>n3 (AH.1 z).symm
 cases d with
 |zero=>exact ok.elim
 |succ d =>
 cases l with
 |when r l1 l2=>cases hth
 |each n r ls=>cases hth
 |give kk n rk ls =>
  obtain⟨h1,h2,h3,h4',h5⟩:=ok;unfold Ln.pv;refine⟨tX mx rfl,?_⟩;refine hX (v:=dU kk) rfl ?_;refine⟨kk,x,aa,tt,rr,cc,A,τ,R,N,bs,ns,rfl,h1,sf,mtn,mct,hc,hs,hS,hR,fun C1 m1 sf1 x1=>?_⟩
  try dsimp only
  have mtn1:=x1 _ _ nta mtn;have R1:=uU (τ:=τ) hS.a h1 hR;obtain⟨dx1,mx1⟩:=sf1.ins;refine dX ?_;refine hX sQ ?_;refine mX (lQ _ _) ?_;refine lW (by decide) ?_;refine hX (v:=.str n) rfl ?_;refine⟨tX mx1 rfl,?_⟩;refine hX (v:=rk.pv) rfl ?_;refine⟨rk,x,aa,tt,rr,A,τ,_,bs,ns,rfl,h3,sf1,mtn1,hS,R1,fun C2 sf2 x2=>?_⟩;have mtn2:=x2 _ _ nta' mtn1;obtain⟨dx2,mx2⟩:=sf2.ins;refine⟨tX mx2 rfl,?_⟩;refine hX (v:=.tup (Ln.pvs ls)) rfl ?_
  have htw':1+Ln.tws ls<=400:=htw;refine⟨d,rfl,ls,x,aa,tt,rr,A,τ,_,bs,rs,ns,rfl,h4',by omega,by omega,sf2,mtn2,hS,iK hS.a h3 R1,fun C3 sf3 x3=>?_⟩;refine⟨zz 5 rfl,?_⟩;have:=q C3 (x3 _ _ nca (x2 _ _ nca m1)) sf3 ((x1.trans (qF x2)).trans (qF x3));unfold iU Wt.pv at this;exact this
 |part kk n g =>
  obtain⟨h1,h2,h3,h4'⟩:=ok;unfold Ln.pv;refine⟨tX mx rfl,?_⟩;refine hX (v:=dU kk) rfl ?_;refine⟨kk,x,aa,tt,rr,cc,A,τ,R,N,bs,ns,rfl,h1,sf,mtn,mct,hc,hs,hS,hR,fun C1 m1 sf1 x1=>?_⟩
  try dsimp only
  have mtn1:=x1 _ _ nta mtn;have R1:=uU (τ:=τ) hS.a h1 hR;obtain⟨dx1,mx1⟩:=sf1.ins;refine dX ?_;refine hX sQ ?_;refine mX (lQ _ _) ?_;refine vZ (by decide) ?_;refine bX ?_
  try dsimp only
  refine yQ (i:=5) ?_;refine⟨tX mx1 rfl,?_⟩;refine hX (v:=.tup (g.map lV)) rfl ?_;refine⟨g,x,aa,tt,rr,A,τ,_,bs,ns,rfl,fun y hy=>(h3 y hy).mono (by decide),h4',sf1,mtn1,hS,R1,fun C2 p p0 m2 sf2 x2=>?_⟩;refine vL m2 (by unfold yJ; rw[AA]; omega) fun p2 p20=>?_;refine wJ jQ ?_
  try dsimp only
  refine dX ?_;refine hX sQ ?_;refine mX (lQ _ _) ?_;refine lW (by decide) ?_;refine hX (v:=.str n) rfl ?_;refine⟨zz 4 rfl,?_⟩;have npc:cc≠p2:=fun z=>by have:=x2 _ _ nca m1; rw[z,p20] at this; cases this
  have:=q (uQ C2 p2 (.lst ((dY (yJ A τ g)).map rQ))) (by rw[wQ npc]; exact x2 _ _ nca m1) (sf2.new p20 _) (by
   intro b o hb hbo;have h2:=(x1.trans (qF x2)) b o hb hbo;rw[wQ (fun z=>by rw[z,p20] at h2; cases h2)]
   exact h2)
  unfold iU Wt.pv at this;exact this
 |plain kk tag ss hs' ls =>
  obtain⟨h1,h2,h3,h4',h5⟩:=ok;unfold Ln.pv;generalize hl0:PV.tup [PV.str "plain",dU kk,PV.str tag,PV.tup (List.map lV ss),PV.tup (List.map Hd.pv hs'),PV.tup (Ln.pvs ls)]=lp
  have ilp:∀(i:Int) (v:PV) (C':CH) (Q':K1),atI [PV.str "plain",dU kk,PV.str tag,PV.tup (List.map lV ss),PV.tup (List.map Hd.pv hs'),PV.tup (Ln.pvs ls)] i=some v->Q' v C'->cIx lp (.int i) C' Q':=by
   intro i v C' Q' e h;rw[<- hl0];exact hX e h
  refine⟨tX mx rfl,?_⟩;refine ilp 1 (dU kk) _ _ rfl ?_;refine⟨kk,x,aa,tt,rr,cc,A,τ,R,N,bs,ns,rfl,h1,sf,mtn,mct,hc,hs,hS,hR,fun C1 m1 sf1 x1=>?_⟩
  try dsimp only
  have mtn1:=x1 _ _ nta mtn;have R1:=uU (τ:=τ) hS.a h1 hR;obtain⟨dx1,mx1⟩:=sf1.ins;refine dX ?_;refine ilp 0 (.str "plain") _ _ rfl ?_;refine mX (lQ _ _) ?_;refine vZ (by decide) ?_;refine bX ?_
  try dsimp only
  refine yQ (i:=5) ?_;refine⟨tX mx1 rfl,?_⟩;refine ilp 3 (.tup (ss.map lV)) _ _ rfl ?_;refine⟨ss,x,aa,tt,rr,A,τ,_,bs,ns,rfl,h2.1,h2.2.1,sf1,mtn1,hS,R1,fun C2 p p0 m2 sf2 x2=>?_⟩;have hl2:=h2.2;refine vL m2 (by unfold yJ; rw[AA]; omega) fun p2 p20=>?_;refine wJ jQ ?_
  try dsimp only
  refine dX ?_;refine ilp 0 (.str "plain") _ _ rfl ?_;refine mX (lQ _ _) ?_;refine vZ (by decide) ?_;refine bX ?_
  try dsimp only
  have R2:=aW (τ:=τ) hS.a h2.1 R1;have mct2:=x2 _ _ nca m1;have mtn2:=x2 _ _ nta' mtn1;have x12:=x1.trans (qF (cc:=cc) x2);have sf3:=sf2.new p20 (.lst ((dY (yJ A τ ss)).map rQ));have mct3:(uQ C2 p2 (.lst ((dY (yJ A τ ss)).map rQ))) cc=some (.dK (jV N (mG A τ kk))):=Gr.new p20 _ _ _ mct2;have mtn3:(uQ C2 p2 (.lst ((dY (yJ A τ ss)).map rQ))) tt=some (.dK τ):=Gr.new p20 _ _ _ mtn2;have x3:ExS [rr,cc] C (uQ C2 p2 (.lst ((dY (yJ A τ ss)).map rQ))):=fun b o hb hbo=>Gr.new p20 _ _ _ (x12 b o hb hbo)
  generalize uQ C2 p2 (.lst ((dY (yJ A τ ss)).map rQ))=C3 at sf3 mct3 mtn3 x3 ⊢;refine yQ (i:=6) ?_;refine ilp 4 (.tup (hs'.map Hd.pv)) _ _ rfl ?_;refine cK (fun zs acc C4=>∃ds es:List Hd,hs'=ds++es/\zs=es.map Hd.pv/\acc=(zV A τ ds).map HdV.pv/\Sf a C4 x aa rr A (tV A τ ds (xV A τ ss (nW A τ kk R)))/\ExS [rr] C3 C4) ?_ ?_ _ _ _ ⟨[],hs',rfl,rfl,rfl,sf3,ExS.refl⟩
  .rintro z zs acc C4 ⟨ds,es,e1,e2,rfl,sf4,x4⟩ L hL
   cases es with
   |nil=>cases e2
   |cons u es =>
    obtain⟨rfl,rfl⟩:=A4 e2;obtain⟨dx4,mx4⟩:=sf4.ins;refine⟨tX mx4 rfl,?_⟩;refine⟨u,x,aa,tt,rr,A,τ,_,bs,ns,rfl,h3.1 u (by rw[e1]; exact AY _ AD),sf4,x4 _ _ nta' mtn3,hS,gU hS.a (fun y hy=>h3.1 y (by rw[e1]; exact A0 _ hy)) R2,fun C5 sf5 x5=>?_⟩;refine hL _ _ ⟨?_,ds++[u],es,by rw[e1,AK]; rfl,rfl,by unfold zV; rw[AQ,AQ]; rfl,?_,x4.trans x5⟩
    .rw [AA]
     unfold zV;rw[AA];have hl:=h3.2;have:ds.length<=4:=by rw[e1,AC] at hl; omega
     exact As this (by decide)
    .unfold tV at sf5 ⊢
     rw[BZ];exact sf5
  .rintro acc C4 ⟨ds,es,e1,e2,rfl,sf4,x4⟩ p4 p40
   cases es with
   |cons _ _=>cases e2
   |nil =>
    rw[AZ] at e1;subst e1;refine wJ jQ ?_
    try dsimp only
    have sf5:=sf4.new p40 (.lst ((zV A τ hs').map HdV.pv));have mct5:(uQ C4 p4 (.lst ((zV A τ hs').map HdV.pv))) cc=some (.dK (jV N (mG A τ kk))):=Gr.new p40 _ _ _ (x4 _ _ nca mct3);have mtn5:(uQ C4 p4 (.lst ((zV A τ hs').map HdV.pv))) tt=some (.dK τ):=Gr.new p40 _ _ _ (x4 _ _ nta' mtn3);have x5:ExS [rr,cc] C (uQ C4 p4 (.lst ((zV A τ hs').map HdV.pv))):=fun b o hb hbo=>Gr.new p40 _ _ _ ((qF (cc:=cc) x4) b o hb (x3 b o hb hbo))
    generalize uQ C4 p4 (.lst ((zV A τ hs').map HdV.pv))=C5 at sf5 mct5 mtn5 x5 ⊢;obtain⟨dx5,mx5⟩:=sf5.ins;refine ilp 2 (.str tag) _ _ rfl ?_;refine⟨tX mx5 rfl,?_⟩;refine ilp 5 (.tup (Ln.pvs ls)) _ _ rfl ?_;have htw':1+Ln.tws ls<=400:=htw;refine⟨d,rfl,ls,x,aa,tt,rr,A,τ,_,bs,rs,ns,rfl,h4',by omega,by omega,sf5,mtn5,hS,gU hS.a h3.1 R2,fun C6 sf6 x6=>?_⟩;refine⟨zz 6 rfl,?_⟩;have:=q C6 (x6 _ _ nca mct5) sf6 (x5.trans (qF x6))
    unfold iU Wt.pv at this;exact this
end
theorem TBd.put {τ:Tns}(h:TBd τ)(k:Key){i:Int}(hi:Bd i):TBd (gZ τ k (.int i)):=by
 intro kv hk;unfold gZ at hk
 split at hk
 .obtain ⟨x,hx,rfl⟩:=Ab.1 hk
  split
  .exact ⟨i,rfl,hi⟩
  .exact h x hx
 .rcases An.1 hk with hk | hk
  .exact h kv hk
  .cases AH.1 hk; exact⟨i,rfl,hi⟩
def Kw (a:Adr)(d:Nat):GC:=fun ts C Q=>∃(n:Str) (rk:Rk) (l1:List Ln) (x aa tt rr ff cc:Addr) (A:Rds) (τ:Tns) (st:DSt) (bs rs ns:List Str),ts=[.ref x,(Ln.each n rk l1).pv,.ref tt,.ref ff,.ref cc]/\LnOk bs rs d ns (.each n rk l1)/\st.1.length+(Ln.each n rk l1).tw<=400/\st.2.1.length+(Ln.each n rk l1).tw<=400/\τ.length+d<=50/\S6 a C x aa rr tt ff cc A τ st/\fG A τ bs ns/\RdOk bs st.2.2/\CInts st.2.1 /\
 ∀C',S6 a C' x aa rr tt ff cc A τ (qZ A (.each n rk l1) τ st)->ExS [ff,cc,rr] C C'->Q .non C'
section
variable {P:Program}{w:World}{K:DK}{mg:Str->Option Value}{base:Heap}{a:Adr}
theorem JP (T:Txt P w K mg a)(d k:Nat)(h7:7<=k)(xJ:FnOk P w K mg base CX0 k (a.f 39) (a.d 39) ["self","lines","turns","row","counts"] (spC K (gBrL a d))):FnOk P w K mg base CX0 (k+1) (a.f 40) (a.d 40) ["self","line","turns","row","counts"] (spC K (Kw a d)):=by
 have S:=(T.F 40 rfl).s;have wX:=(yU (base:=base) T 2).mono (show 6<=k by omega)
 refine(T.F 40 rfl).ok (fun ts C R h=>?_) fun cdv A outer s H E hr=>⟨_,(xQ (cs1 5 S.nd (fJ (pN rfl) Xb rfl T.z_min rfl (qQ (bD (v:=.int 8) (t:=.int 8) rfl T.dO ⟨_,rfl⟩ (fun _=>.int _)) (ca1 (cm T.zX (T.F 36 rfl) T.lX wX hr (cv 0) (qQ (cx (cv 1) zQ) (ca1 (cv 2))))))))
  (kQ (yD PassesOwn.never rfl rfl T.fY (ca1 (cv 5)) (cg1 6 S.nd) (xQ (cs1 7 S.nd (lK Qa Zj rfl T.ZA rfl (ca1 (cv 2))))
  (xQ (yK (rX hr) (cv 7) (cx (cv 1) zQ) (cv 6))
  (kQ (cZ (cm T.zX (T.F 39 rfl) T.lX xJ hr (cv 0) (qQ (cx (cv 1) zQ) (qQ (cv 7) (qQ (cv 3) (ca1 (cv 4))))))))))))),?_⟩
 .obtain ⟨_,_,_,_,_,_,_,_,_,_,_,_,_,_,_,rfl,_⟩:=h; rfl
 rintro ts C Q ⟨n,rk,l1,x,aa,tt,rr,ff,cc,A,τ,st1,bs,rs,ns,rfl,hu,hF,hN,hτ,s1,hS,R1,C1i,q⟩
 cases d with
 |zero=>exact hu.elim
 |succ d' =>
 obtain⟨ork,o1,_⟩:=hu;have ep:(Ln.each n rk l1).pv=.tup [.str "each",.str n,rk.pv,.tup (Ln.pvs l1)]:=by rw[Ln.pv]
 have etw:(Ln.each n rk l1).tw=8 * Ln.tws l1:=by rw[Ln.tw]
 have hS0:fG A τ bs []:=⟨hS.a,hS.t,(fun _ z=>nomatch z),hS.b⟩;obtain⟨dx,mx⟩:=s1.sf.ins;refine⟨tX mx rfl,?_⟩;refine tQ ep (v:=rk.pv) rfl ?_;refine⟨rk,x,aa,tt,rr,A,τ,_,bs,[],rfl,ork.mono (by decide),s1.sf,s1.mt,hS0,R1,fun C2 sf2 e2=>?_⟩;refine min_s ?_
 try dsimp only
 have bd:=pM hS0.a hS0.t hS0.h ork;unfold Bd at bd;refine⟨by split<;>omega,by split<;>omega,?_⟩;have R2:=iK (τ:=τ) hS.a ork R1;have s2:=s1.rd e2 sf2;show uG _ _ _ ((List.range (aF (rk.val A τ))).map fun k=>PV.int (k:Nat)) _ _;generalize hcap:aF (rk.val A τ)=n8;have hn8:n8<=8:=by rw[<- hcap]; exact wM _
 let f:DSt->Nat->DSt:=fun st k=>oQ A l1 (gZ τ (.inr n) (.int (k:Nat))) st
 let st0:DSt:=(st1.1,st1.2.1,rk.rds A τ st1.2.2)
 refine eZ (fun zs ρ C'=>∃(j:Nat) (x6 x7:Option PV),j<=n8/\zs=((List.range n8).drop j).map (fun k:Nat=>PV.int (k:Nat))/\ρ=[some (.ref x),some (Ln.each n rk l1).pv,some (.ref tt),some (.ref ff),some (.ref cc),some (.int (if rk.val A τ < 8 then rk.val A τ else 8)),x6,x7]/\S6 a C' x aa rr tt ff cc A τ ((List.range j).foldl f st0)/\ExS [ff,cc,rr] C C') ?_ ?_ _ _ _ ⟨0,_,_,AV _,rfl,rfl,s2,zR e2⟩
 .rintro z zs ρ C3 ⟨j,y9,y10,hj,hz,rfl,s3,e3⟩ L3 hL3
  obtain⟨hjn,rfl,rfl⟩:=hU hz;refine yQ ?_;refine dictK_s s3.mt fun ia hia=>?_
  try dsimp only
  refine dX ?_;refine tQ ep (v:=.str n) rfl ?_;refine cW (k:=.inr n) jQ rfl (by omega) ?_
  try dsimp only
  have ne1:∀b o,C3 b=some o->b≠ia:=fun b o h z=>by rw[z,hia] at h; cases h
  have g1:=rY (f:=f) (m:=fun st=>st.1.length) (c:=Ln.tws l1) (fun x k=>(jJ A l1 _ x).1) (List.range j) st0;have g2:=rY (f:=f) (m:=fun st=>st.2.1.length) (c:=Ln.tws l1) (fun x k=>(jJ A l1 _ x).2) (List.range j) st0;rw[Ak] at g1 g2
  have hm:j * Ln.tws l1+Ln.tws l1<=8 * Ln.tws l1:=by
   have:(j+1) * Ln.tws l1<=8 * Ln.tws l1:=A2 _ (by omega);rw[DH,Nat.one_mul] at this;exact this
  have g1:((List.range j).foldl f st0).1.length<=st1.1.length+j * Ln.tws l1:=g1;have g2:((List.range j).foldl f st0).2.1.length<=st1.2.1.length+j * Ln.tws l1:=g2;have R3:RdOk bs ((List.range j).foldl f st0).2.2:=aG (P:=fun st:DSt=>RdOk bs st.2.2) (fun x k p=>yF hS.a o1 p) _ _ R2;have N3:CInts ((List.range j).foldl f st0).2.1:=aG (P:=fun st:DSt=>CInts st.2.1) (fun x k p=>yY A l1 _ x p) _ _ C1i;have t3:TBd (gZ τ (.inr n) (.int (j:Nat))):=hS.t.put _ (by unfold Bd; omega)
  have hS3:fG A (gZ τ (.inr n) (.int (j:Nat))) bs [n]:=⟨hS.a,t3,fun m hm=>by
   cases AH.1 hm
   rw[sN,AW rfl]; rfl,hS.b⟩
  have hlen:(gZ τ (.inr n) (.int (j:Nat))).length<=τ.length+1:=oB _ _ _;have x4:ExS [ff,cc,rr] C3 (uQ (uQ C3 ia (.dK τ)) ia (.dK (gZ τ (.inr n) (.int (j:Nat))))):=(ExS.refl.put hia _).put hia _;have up:∀b o,C3 b=some o->uQ (uQ C3 ia (.dK τ)) ia (.dK (gZ τ (.inr n) (.int (j:Nat)))) b=some o:=fun b o h=>by rw[wQ (ne1 b o h),wQ (ne1 b o h)]; exact h
  have m4:uQ (uQ C3 ia (.dK τ)) ia (.dK (gZ τ (.inr n) (.int (j:Nat)))) ia=some (.dK (gZ τ (.inr n) (.int (j:Nat)))):=jQ;generalize uQ (uQ C3 ia (.dK τ)) ia (.dK (gZ τ (.inr n) (.int (j:Nat))))=C4 at x4 up m4 ⊢;have sf4:Sf a C4 x aa rr A ((List.range j).foldl f st0).2.2:=s3.sf.keep' (S:=[]) (fun b o _ h=>up b o h) BP BP BP;have s4:S6 a C4 x aa rr ia ff cc A (gZ τ (.inr n) (.int (j:Nat))) ((List.range j).foldl f st0):=⟨sf4,m4,up _ _ s3.mf,up _ _ s3.mc,Ne.symm (ne1 _ _ s3.mc)⟩
  obtain⟨dx4,mx4⟩:=sf4.ins;refine⟨tX mx4 rfl,?_⟩;refine tQ ep (v:=.tup (Ln.pvs l1)) rfl ?_;refine⟨d',rfl,l1,x,aa,ia,rr,ff,cc,A,_,_,bs,rs,[n],rfl,o1,by omega,by omega,by omega,s4,hS3,R3,N3,fun C5 s5 e5=>?_⟩;refine hL3 _ _ ⟨j+1,_,_,hjn,rfl,rfl,?_,e3.trans (x4.trans e5)⟩;have ef:(List.range (j+1)).foldl f st0=f ((List.range j).foldl f st0) j:=by rw[List.range_succ,BZ]; rfl
  rw[ef];exact⟨s5.sf,(x4.trans e5) _ _ s3.nt s3.mt,s5.mf,s5.mc,s3.tc⟩
 .rintro ρ C3 ⟨j,y9,y10,hj,hz,rfl,s3,e3⟩
  have ej:j=n8:=by
   rcases Cs j n8 with h | h
   .rw [Aq (by rw[Ak]; exact h)] at hz
    cases hz
   .omega
  subst ej;refine q C3 ?_ e3;rw[qZ,hcap];exact s3
theorem cT (T:Txt P w K mg a)(d k:Nat)(h7:7<=k)
  (xJ:FnOk P w K mg base CX0 k (a.f 39) (a.d 39) ["self","lines","turns","row","counts"] (spC K (gBrL a d)))
  (uH:FnOk P w K mg base CX0 k (a.f 41) (a.d 41) ["self","line","turns","counts"] (spC K (gWant a d)))
  (cU:FnOk P w K mg base CX0 k (a.f 40) (a.d 40) ["self","line","turns","row","counts"] (spC K (Kw a d))) :
  FnOk P w K mg base CX0 (k+1) (a.f 39) (a.d 39) ["self","lines","turns","row","counts"] (spC K (gBr a d)):=by
 have S:=(T.F 39 rfl).s;have wX:=(yU (base:=base) T 2).mono (show 6<=k by omega)
 refine(T.F 39 rfl).ok (fun ts C R h=>?_) fun cdv A outer s H E hr=>⟨_,(kQ (oY PassesOwn.never rfl (cv 1) (cg1 5 S.nd) (kQ (uX (ct2 cX kX (cx (cv 5) zQ) vQ) (xQ (cs1 6 S.nd (Q9 (ct2 cX kX (cm T.zX (T.F 36 rfl) T.lX wX hr (cv 0) (qQ (cx (cv 5) zQ) (ca1 (cv 2)))) zQ) (cx (cv 5) zQ) (cx (cv 5) zQ)))
  (kQ (cZ (cm T.zX (T.F 39 rfl) T.lX xJ hr (cv 0) (qQ (cv 6) (qQ (cv 2) (qQ (cv 3) (ca1 (cv 4))))))))) (kQ (uX (ct2 cX kX (cx (cv 5) zQ) vQ) (kQ (cZ (cm T.zX (T.F 40 rfl) T.lX cU hr (cv 0) (qQ (cv 5) (qQ (cv 2) (qQ (cv 3) (ca1 (cv 4)))))))) (kQ (cZ (cap (cv 3) (cm T.zX (T.F 41 rfl) T.lX uH hr (cv 0) (qQ (cv 5) (qQ (cv 2) (ca1 (cv 4)))))))))))))),?_⟩
 .obtain ⟨_,_,_,_,_,_,_,_,_,_,_,_,_,rfl,_⟩:=h; rfl
 rintro ts C Q ⟨ls,x,aa,tt,rr,ff,cc,A,τ,st,bs,rs,ns,rfl,ok,hF,hN,hτ,hE,hS,hR,hC,q⟩;refine vB rfl ?_;refine eZ (fun zs ρ C'=>∃(ds us:List Ln) (x5 x6:Option PV),ls=ds++us/\zs=Ln.pvs us/\ρ=[some (.ref x),some (.tup (Ln.pvs ls)),some (.ref tt),some (.ref ff),some (.ref cc),x5,x6]/\S6 a C' x aa rr tt ff cc A τ (oQ A ds τ st)/\ExS [ff,cc,rr] C C') ?_ ?_ _ _ _ ⟨[],ls,_,_,rfl,rfl,rfl,by rw[dZ]; exact hE,ExS.refl⟩
 .rintro z zs ρ C1 ⟨ds,us,x5,x6,e,hz,rfl,s1,e1⟩ L hL
  cases us with
  |nil=>cases hz
  |cons u us =>
  obtain⟨rfl,rfl⟩:=A4 (show z::zs=u.pv::Ln.pvs us from hz);have hu:LnOk bs rs d ns u:=ok u (by rw[e]; exact AY _ AD);have htw:Ln.tws ls=Ln.tws ds+(u.tw+Ln.tws us):=by rw[e,Ln.tws_app]; rfl
  have tM:=jJ A ds τ st;have R1:RdOk bs (oQ A ds τ st).2.2:=yF hS.a (fun x hx=>ok x (by rw[e]; exact A0 _ hx)) hR;have C1i:=yY A ds τ st hC
  have fin:∀C' x5 x6,S6 a C' x aa rr tt ff cc A τ (qZ A u τ (oQ A ds τ st))->ExS [ff,cc,rr] C1 C'->L [some (.ref x),some (.tup (Ln.pvs ls)),some (.ref tt),some (.ref ff),some (.ref cc),x5,x6] C':=by
   intro C' y5 y6 h1 h2;refine hL _ _ ⟨ds++[u],us,y5,y6,by rw[AK]; exact e,rfl,rfl,?_,e1.trans h2⟩;rw[iA,xZ,dZ];exact h1
  clear hL;generalize hst:oQ A ds τ st=st1 at s1 tM R1 C1i fin;obtain⟨dx1,mx1⟩:=s1.sf.ins
  by_cases hth:isTh u=true
  .obtain ⟨wd,rest,ep,n1,n2⟩:=th_pv hth
   refine tQ ep sQ ?_;refine mX (lQ _ _) ?_;refine vZ (by rw[n1]; rfl) ?_;refine tQ ep sQ ?_;refine mX (lQ _ _) ?_;refine vZ (by rw[n2]; rfl) ?_;refine⟨yG s1.mf,?_⟩;refine⟨tX mx1 rfl,?_⟩;refine⟨u,x,aa,tt,rr,cc,A,τ,_,_,bs,rs,ns,rfl,hth,hu,by omega,hτ,s1.sf,s1.mt,s1.mc,s1.tc,C1i,by have:=tM.2; omega,hS,R1,fun C2 m2 sf2 x2=>?_⟩
   have nf:ff∉[rr,cc]:=fun z=>by
    simp only[List.mem_cons,List.not_mem_nil,or_false] at z
    rcases z with z | z
    .exact s1.fr z
    .exact s1.fc z
   have mf2:=x2 _ _ nf s1.mf;refine nP mf2 (by rw[Wt.pvs_len]; have:=tM.1; exact As (show st1.1.length<=400 by omega) (by decide)) ?_;have eo:=aA A τ u st1.1 st1.2.1 st1.2.2 hth;have nl:=sf2.nl mf2;refine fin _ _ _ ?_ ((QY x2).at (by simp) _);rw[show st1=(st1.1,st1.2.1,st1.2.2) from rfl,eo];refine⟨sf2.keep' (S:=[ff]) (ExS.refl.at AD _) (fun z=>nl.1 (AH.1 z)) (fun z=>nl.2.1 (AH.1 z)) (fun z=>nl.2.2 (AH.1 z)),?_,by rw[jQ,Wt.pvs_app]; rfl,by rw[wQ (Ne.symm s1.fc)]; exact m2,s1.tc⟩
   rw[wQ s1.tf];exact(QY x2) _ _ s1.nt s1.mt
  .cases u with
   |plain k tag s hs ls=>exact absurd rfl hth
   |part k n g=>exact absurd rfl hth
   |give k n r ls=>exact absurd rfl hth
   |when rk l1 l2 =>
    cases d with
    |zero=>exact hu.elim
    |succ d' =>
    obtain⟨ork,⟨o1,_⟩,o2,_⟩:=hu;have ep:(Ln.when rk l1 l2).pv=.tup [.str "when",rk.pv,.tup (Ln.pvs l1),.tup (Ln.pvs l2)]:=by rw[Ln.pv]
    have etw:(Ln.when rk l1 l2).tw=Ln.tws l1+Ln.tws l2:=by rw[Ln.tw]
    refine tQ ep sQ ?_;refine mX (lQ _ _) ?_;refine lW (by decide) ?_;refine yQ ?_;refine if_i ?_;refine⟨tX mx1 rfl,?_⟩;refine tQ ep (v:=rk.pv) rfl ?_;refine⟨rk,x,aa,tt,rr,A,τ,_,bs,ns,rfl,ork.mono (by decide),s1.sf,s1.mt,hS,R1,fun C2 sf2 e2=>?_⟩;have R2:=iK (τ:=τ) hS.a ork R1;have s2:=s1.rd e2 sf2;obtain⟨dx2,mx2⟩:=sf2.ins;refine mX (oX _ _) ?_
    by_cases h0:rk.val A τ=0
    .refine lW (Af h0) ?_
     refine tQ ep (v:=.tup (Ln.pvs l2)) rfl ?_
     try dsimp only
     refine⟨tX mx2 rfl,?_⟩;refine⟨d',rfl,l2,x,aa,tt,rr,ff,cc,A,τ,(st1.1,st1.2.1,rk.rds A τ st1.2.2),bs,rs,ns,rfl,o2,by have:=tM.1; show st1.1.length+_<=400; omega,by have:=tM.2; show st1.2.1.length+_<=400; omega,by omega,s2,hS,R2,C1i,fun C3 s3 e3=>?_⟩;refine fin C3 _ _ ?_ ((zR e2).trans e3);rw[qZ,AW h0];exact s3
    .refine vZ (AS h0) ?_
     refine tQ ep (v:=.tup (Ln.pvs l1)) rfl ?_
     try dsimp only
     refine⟨tX mx2 rfl,?_⟩;refine⟨d',rfl,l1,x,aa,tt,rr,ff,cc,A,τ,(st1.1,st1.2.1,rk.rds A τ st1.2.2),bs,rs,ns,rfl,o1,by have:=tM.1; show st1.1.length+_<=400; omega,by have:=tM.2; show st1.2.1.length+_<=400; omega,by omega,s2,hS,R2,C1i,fun C3 s3 e3=>?_⟩;refine fin C3 _ _ ?_ ((zR e2).trans e3);rw[qZ,AT h0];exact s3
   |each n rk l1 =>
    have ep:(Ln.each n rk l1).pv=.tup [.str "each",.str n,rk.pv,.tup (Ln.pvs l1)]:=by rw[Ln.pv]
    refine tQ ep sQ ?_;refine mX (lQ _ _) ?_;refine vZ (by decide) ?_;refine tQ ep sQ ?_;refine mX (lQ _ _) ?_;refine lW (by decide) ?_;refine⟨tX mx1 rfl,?_⟩;refine⟨n,rk,l1,x,aa,tt,rr,ff,cc,A,τ,st1,bs,rs,ns,rfl,hu,by have:=tM.1; omega,by have:=tM.2; omega,hτ,s1,hS,R1,C1i,fun C3 s3 e3=>?_⟩;exact fin C3 _ _ s3 e3
 .rintro ρ C1 ⟨ds,us,x5,x6,e,hz,rfl,s1,e1⟩
  cases us with
  |cons u us=>cases hz
  |nil =>
   rw[AZ] at e;subst e;exact q C1 s1 e1
theorem ok_br (T:Txt P w K mg a)(d:Nat):FnOk P w K mg base CX0 (3 * d+9) (a.f 39) (a.d 39) ["self","lines","turns","row","counts"] (spC K (gBr a d)):=by
 induction d with
 |zero =>
  exact cT (base:=base) T 0 8 (by decide) (iZ fun ts C Q ⟨d',e,_⟩=>by omega) (iZ fun ts C Q z=>by obtain⟨l,x,aa,tt,rr,cc,A,τ,R,N,bs,rs,ns,_,_,h,_⟩:=z; exact h) (iZ fun ts C Q z=>by obtain⟨n,rk,l1,x,aa,tt,rr,ff,cc,A,τ,st1,bs,rs,ns,_,h,_⟩:=z; exact h)
 |succ d ih =>
  have row:=Jz (base:=base) T ih
  have e1:gRowL a (d+1)=gRow a d:=by
   funext ts C Q
   refine propext ⟨fun⟨d'',z,h⟩=>?_,fun h=>⟨d,rfl,h⟩⟩;cases At z;exact h
  have e2:gBrL a (d+1)=gBr a d:=by
   funext ts C Q
   refine propext ⟨fun⟨d'',z,h⟩=>?_,fun h=>⟨d,rfl,h⟩⟩;cases At z;exact h
  have th:=ok_want (base:=base) T (d+1) (3 * d+9+1) (by omega) (by rw[e1]; exact row);have ea:=JP (base:=base) T (d+1) (3 * d+9) (by omega) (by rw[e2]; exact ih);have:=cT (base:=base) T (d+1) (3 * d+9+1+1) (by omega) (by rw[e2]; exact ih.mono (by omega)) th (ea.mono (by omega));have e:3 * d+9+1+1+1=3 * (d+1)+9:=by omega
  rw[e] at this;exact this
end
def stOf:Key->Str
 |.inr x=>x
 |_=>""
def ciOf:PV->Int
 |.int i=>i
 |_=>0
def rdC (kv:List Key×PV):List Str×Int:=(kv.1.map stOf,ciOf kv.2)
structure Pc where
 reads:List (List Str×Int)
 row:List Wt
 works:List (Str×Int)
def Pc.pv (x:Pc):PV:=.tup [.tup (x.reads.map tU),.tup (Wt.pvs x.row),.tup (x.works.map rQ)]
def pcRd (A:Rds)(x:Pt):Rds:=xV A [] x.works (oQ A x.ls [] ([],[],[])).2.2
def pcOf (A:Rds)(x:Pt):Pc:=⟨ordT ((pcRd A x).map rdC),(oQ A x.ls [] ([],[],[])).1,yJ A [] x.works⟩
theorem Kd {co:TCE}{ρ:CSt}{C:CH}{Q:K1}(h:co ρ C fun x C1=>∃b kvs,x=.ref b/\C1 b=some (.dT kvs)/\Q (.vw b) C1)(mono:∀(Q1 Q2:K1),(∀v C1,Q1 v C1->Q2 v C1)->co ρ C Q1->co ρ C Q2):cD co ρ C Q:=by
 unfold cD;refine mono _ _ ?_ h;rintro v C1 ⟨b,kvs,rfl,m,q⟩;dsimp only;rw[m];exact q
theorem Xv {p:Addr}{C:CH}{Q:K1}{kvs:List (List Key×PV)}{cs:List (List Str×Int)}(m:C p=some (.dT kvs))(e:tiK kvs=some cs)(h:cs.length < 64)(q:∀p',C p'=none->Q (.ref p') (uQ C p' (.lst ((ordT cs).map tU)))):uM [.vw p] C Q:=by
 unfold uM;dsimp only;rw[m];dsimp only;rw[e];exact⟨h,q⟩
theorem KA {c:Addr}{f:Str}{x:PV}{C:CH}(Q1 Q2:K1)(h:∀v C1,Q1 v C1->Q2 v C1)(q:Qe c f x C Q1):Qe c f x C Q2:=by
 unfold Qe at q ⊢
 split at q
 .split at q
  .refine ⟨q.1,?_⟩
   have q:=q.2
   split at q
   .exact h _ _ q
   .exact q
  .exact q
 .exact q
theorem ZD {i:Nat}{ρ:CSt}{C:CH}(Q1 Q2:K1)(h:∀v C1,Q1 v C1->Q2 v C1)(q:rZ i ρ C Q1):rZ i ρ C Q2:=by
 unfold rZ at q ⊢
 split at q
 .exact h _ _ q
 .exact q
theorem ti_rd {bs:List Str}:∀{R:Rds},(∀k∈R.map (·.1),∃s n,k=qK s n/\mE bs s n)->ABd R->tiK R=some (R.map rdC)
 |[],_,_=>rfl
 |x::R,h1,h2=>by
  obtain⟨s,n,e,_⟩:=h1 x.1 AD;obtain⟨i,ei,_⟩:=h2 x AD;have ih:=ti_rd (R:=R) (fun k hk=>h1 k (AG _ hk)) fun kv hk=>h2 kv (AG _ hk);obtain⟨k,v⟩:=x;cases e;cases ei;show _=some (([s,n],i)::R.map rdC);unfold tiK;rw[ih]
  rfl
section
variable {P:Program}{w:World}{K:DK}{mg:Str->Option Value}{base:Heap}{a:Adr}
def gDrawn:GC:=fun ts C Q=>∃(x:Pt) (aa:Addr) (A:Rds) (rs:List Str) (cap:Nat),ts=[x.pv,.ref aa]/\Zu rs cap x/\C aa=some (.dT A)/\ABd A/\∀C',Gr C C'->Q (pcOf A x).pv C'
theorem JN (T:Txt P w K mg a):FnOk P w K mg base CX0 29 (a.f 6) (a.d 6) ["part","answers"] (spC K gDrawn):=by
 have S:=(T.F 6 rfl).s;have fM:=(ok_init (base:=base) T).mono (show 1<=27 by decide);have gV:=Jz T (ok_br (base:=base) T 6);have bK:=(dF (base:=base) T).mono (show 7<=28 by decide)
 refine(T.F 6 rfl).ok (fun ts C R h=>?_) fun cdv A outer s H E hr=>⟨_,(xQ (cs1 2 S.nd (ce_make T.XV fM hr rfl T.lX (T.F 35 rfl).b Jv (ca1 (cv 1))))
  (xQ (cs1 3 S.nd (cm T.zX (T.F 38 rfl) T.lX gV hr (cv 2) (qQ (cx (cv 0) zQ) (ca1 bR))))
  (xQ (cs1 4 S.nd (ctp T.aX (cm T.zX (T.F 37 rfl) T.lX bK hr (cv 2) (qQ (cx (cv 0) zQ) (ca1 bR)))))
  (kQ (cQ (bQ (qQ (ctp T.aX (fJ (fR rfl) (vE (vK hr)) rfl T.tD rfl (ca1 (Zi (aI T.zX T.xW (cv 2)))))) (qQ (cv 3) (ca1 (cv 4)))))))))),?_⟩
 .obtain ⟨_,_,_,_,_,rfl,_⟩:=h; rfl
 rintro ts C Q ⟨pt,aa,A,rs,cap,rfl,ok,ha,hA,q⟩;have hS:fG A [] (pt.first.map (·.1)) []:=⟨hA,(fun _ z=>nomatch z),(fun _ z=>nomatch z),by rw[AA]; exact ok.fl⟩;have hR0:RdOk (pt.first.map (·.1)) []:=⟨BM,(fun _ z=>nomatch z),(fun _ z=>nomatch z)⟩;intro x dx x0 dx0 ndx;have nax:aa≠x:=fun z=>by rw[z,x0] at ha; cases ha
 refine⟨x,dx,aa,A,rfl,jQ,by rw[wQ nax]; exact ha,fun C1 rr rr0 sf1 x1=>⟨rfl,?_⟩⟩
 try dsimp only
 have g1:Gr C C1:=fun b o h=>by
  have:b≠x:=fun z=>by rw[z,x0] at h; cases h
  exact x1 b o (fun z=>this (AH.1 z)) (by rw[wQ this]; exact h)
 have rr0':C rr=none:=by
  rw[wQ (Ne.symm sf1.nx)] at rr0;exact rr0
 have exg:∀{C2 C3:CH},Gr C C2->ExS [rr] C2 C3->Gr C C3:=fun g e b o h=>e b o (fun z=>by rw[AH.1 z,rr0'] at h; cases h) (g b o h);obtain⟨dx1,mx1⟩:=sf1.ins;refine yQ (i:=3) ?_;refine⟨tX mx1 rfl,?_⟩;refine hX (v:=.tup (Ln.pvs pt.ls)) rfl ?_;intro p p00;have sf2:=sf1.new p00 (.dK []);have tw:=ok.tw;refine⟨pt.ls,x,aa,p,rr,A,[],[],_,rs,[],rfl,ok.ls,by omega,by show 0+6<=50; decide,sf2,jQ,hS,hR0,fun C3 sf3 x3=>?_⟩
 try dsimp only
 have R3:=yF (τ:=[]) (st:=([],[],[])) hA ok.ls hR0;have g3:Gr C C3:=exg (g1.trans (Gr.new p00 _)) x3;obtain⟨dx3,mx3⟩:=sf3.ins;refine yQ (i:=4) ?_;refine⟨tX mx3 rfl,?_⟩;refine hX (v:=.tup (pt.works.map lV)) rfl ?_;intro p2 p20;have sf4:=sf3.new p20 (.dK []);refine⟨pt.works,x,aa,p2,rr,A,[],_,_,[],rfl,fun y hy=>(ok.wk y hy).mono (by decide),ok.wl,sf4,jQ,hS,R3,fun C5 l l0 m5 sf5 x5=>?_⟩;have g5:Gr C C5:=exg (g3.trans (Gr.new p20 _)) x5
 refine wJ m5 ?_
 try dsimp only
 obtain⟨dx5,mx5⟩:=sf5.ins;have R5:RdOk (pt.first.map (·.1)) (pcRd A pt):=aW hA ok.wk R3;have mk5:C5 rr=some (.dT (pcRd A pt)):=sf5.ask;have hb:=hS.b;refine Kd ?_ ?_
 .refine Kz mx5 rfl ?_
  refine⟨rr,pcRd A pt,rfl,mk5,?_⟩;refine Xv mk5 (ti_rd R5.ks R5.vs) (by rw[AA]; have:=R5.len; omega) fun p6 p60=>?_;refine wJ jQ ?_;refine⟨zz 3 rfl,?_⟩;exact q _ (g5.trans (Gr.new p60 _))
 .intro Q1 Q2 h q
  exact ZD _ _ (fun v C1 q=>KA _ _ h q) q
end
theorem fX {i:Nat}{u:kS}{t:PV}{r:List PV}{ρ:CSt}{C:CH}{Q:CSt->CH->Prop}(h:u r (ρ.set i (some t)) C Q):dCons (KN i) u (t::r) ρ C Q:=h
theorem sY {ρ:CSt}{C:CH}{Q:CSt->CH->Prop}(h:Q ρ C):dNil [] ρ C Q:=h
def kOf (c:Str×Int):Key×PV:=(.inr c.1,.int c.2)
def eB (ds:List (Str×Int))(n:Str)(i:Int):List (Str×Int):=if (ds.any fun c=>decide (c.1=n))=true then ds.map fun c=>if c.1=n then (c.1,i) else c else ds++[(n,i)]
def zJ (cs ds:List (Str×Int)):List (Str×Int):=ds.foldl (fun acc c=>eB acc c.1 c.2) cs
theorem lC {x y:Str}:((Sum.inr x:Key)=Sum.inr y)↔x=y:=⟨fun h=>Sum.inr.inj h,fun h=>by rw[h]⟩
theorem put_k (ds:List (Str×Int))(n:Str)(i:Int):gZ (ds.map kOf) (.inr n) (.int i)=(eB ds n i).map kOf:=by
 have h1:((ds.map kOf).any fun kv=>decide (kv.1=(Sum.inr n:Key)))=ds.any fun c=>decide (c.1=n):=by
  rw[List.any_map]
  congr 1
  funext c
  show decide ((Sum.inr c.1:Key)=Sum.inr n)=decide (c.1=n);exact decide_eq_decide.2 lC
 have h2:((ds.map kOf).map fun kv=>if kv.1=(Sum.inr n:Key) then (kv.1,PV.int i) else kv)=(ds.map fun c=>if c.1=n then (c.1,i) else c).map kOf:=by
  rw[Bf,Bf]
  congr 1
  funext c
  show(if (Sum.inr c.1:Key)=Sum.inr n then ((Sum.inr c.1:Key),PV.int i) else kOf c)=kOf (if c.1=n then (c.1,i) else c)
  by_cases e:c.1=n
  .rw [AW (lC.2 e),AW e]; rfl
  .rw [AT (fun z=>e (lC.1 z)),AT e]
 unfold gZ eB;rw[h1]
 by_cases b:(ds.any fun c=>decide (c.1=n))=true
 .rw [AW b,AW b,h2]
 .rw [AT b,AT b,AQ]; rfl
theorem merge_k (ds:List (Str×Int)):∀cs:List (Str×Int),nV (cs.map kOf) (ds.map kOf)=(zJ cs ds).map kOf:=by
 induction ds with
 |nil=>intro cs; rfl
 |cons d ds ih =>
  intro cs;show nV (gZ (cs.map kOf) (.inr d.1) (.int d.2)) (ds.map kOf)=(zJ (eB cs d.1 d.2) ds).map kOf;rw[put_k,ih]
theorem QH:∀ds:List (Str×Int),yW (ds.map rQ)=some (ds.map kOf)
 |[]=>rfl
 |d::ds=>by
  show(match kK (.str d.1),yW (ds.map rQ) with | some k,some ps=>some ((k,PV.int d.2)::ps) | _,_=>none)=_;rw[QH ds]; rfl
theorem put_len (ds:List (Str×Int))(n:Str)(i:Int):(eB ds n i).length<=ds.length+1:=by
 unfold eB
 split
 .rw [AA]; omega
 .rw [AC,AO]; exact AJ _
theorem iW (ds:List (Str×Int)):∀cs:List (Str×Int),(zJ cs ds).length<=cs.length+ds.length:=by
 induction ds with
 |nil=>intro cs; exact AJ _
 |cons d ds ih =>
  intro cs;have h1:=ih (eB cs d.1 d.2);have h2:=put_len cs d.1 d.2;show(zJ (eB cs d.1 d.2) ds).length<=_;rw[AI];omega
theorem wC (cs:List (Str×Int)):(dY cs).length=cs.length:=by
 unfold dY;rw[AA]
 by_cases h:0 < cs.length
 .have:=(xY (aE cs) cs.length h).length_eq
  rw[this,Ak]
 .have e:cs.length=0:=by omega
  rw[e,run0]; rfl
theorem Z9 (ds:List (Str×Int))(n:Str)(i:Int):(eB ds n i).map (·.1)=if n∈ds.map (·.1) then ds.map (·.1) else ds.map (·.1)++[n]:=by
 have h:(ds.any fun c=>decide (c.1=n))=true↔n∈ds.map (·.1):=by
  rw[Bs,Ab]
  constructor
  .rintro ⟨c,h1,h2⟩; exact⟨c,h1,AX h2⟩
  .rintro ⟨c,h1,h2⟩; exact⟨c,h1,Af h2⟩
 unfold eB
 by_cases b:(ds.any fun c=>decide (c.1=n))=true
 .rw [AW b,AW (h.1 b),Bf]
  congr 1
  funext c
  show(if c.1=n then (c.1,i) else c).1=c.1
  split<;>rfl
 .rw [AT b,AT (fun z=>b (h.2 z)),AQ]; rfl
theorem put_nd {ds:List (Str×Int)}(h:(ds.map (·.1)).Nodup)(n:Str)(i:Int):((eB ds n i).map (·.1)).Nodup:=by
 rw[Z9]
 split
 .exact h
 .next z =>
  rw[A8]
  exact⟨h,Am.2 ⟨BP,BM⟩,fun x hx y hy=>by
   cases AH.1 hy
   exact fun e=>z (e▸hx)⟩
theorem xO (ds:List (Str×Int)):∀{cs:List (Str×Int)},(cs.map (·.1)).Nodup->((zJ cs ds).map (·.1)).Nodup:=by
 induction ds with
 |nil=>intro cs h; exact h
 |cons d ds ih=>intro cs h; exact ih (put_nd h d.1 d.2)
theorem val_k {cs:List (Str×Int)}(h:(cs.map (·.1)).Nodup){c:Str×Int}(hc:c∈cs):fZ (cs.map kOf) (.inr c.1)=some (.int c.2):=by
 induction cs with
 |nil=>cases hc
 |cons d cs ih =>
  have h':=Am.1 (show(d.1::cs.map (·.1)).Nodup from h);unfold fZ;rw[Ac,Ap];show(match decide ((Sum.inr d.1:Key)=Sum.inr c.1) with | true=>some (kOf d) | false=>(cs.map kOf).find? fun kv=>decide (kv.1=Sum.inr c.1)).map (fun kv:Key×PV=>kv.2)=_
  rcases Ah.1 hc with rfl | hc
  .rw [Af rfl]; rfl
  .have ne:d.1≠c.1:=fun e=>h'.1 (Ab.2 ⟨c,hc,e.symm⟩)
   rw[AS (fun z=>ne (lC.1 z))];exact ih h'.2 hc
theorem dict_s {ds:List (Str×Int)}{C:CH}{Q:K1}(h:ds.length<=1000)(q:∀p,C p=none->Q (.ref p) (uQ C p (.dK ((zJ [] ds).map kOf)))):rD [.tup (ds.map rQ)] C Q:=by
 unfold rD;show(match yW (ds.map rQ) with | some ps=>ps.length<=sizeLine/\∀p,C p=none->Q (.ref p) (uQ C p (.dK (nV [] ps))) | none=>False);rw[QH];dsimp only;rw[show nV [] (ds.map kOf)=(zJ [] ds).map kOf from merge_k ds []];exact⟨by rw[AA]; exact Ae h (by decide),q⟩
theorem putD_s {cs:List (Str×Int)}{n:Str}{i:Int}{p:Addr}{C:CH}{Q:CH->Prop}(m:C p=some (.dK (cs.map kOf)))(h:cs.length<=1000)(q:Q (uQ C p (.dK ((eB cs n i).map kOf)))):fP (.ref p) (.str n) (.int i) C Q:=by
 unfold fP;show(match C p,kK (.str n) with | some (.dK kvs),some k=>kvs.length < sizeLine/\Q (uQ C p (.dK (gZ kvs k (.int i)))) | _,_=>False);rw[m];show(cs.map kOf).length < sizeLine/\Q (uQ C p (.dK (gZ (cs.map kOf) (.inr n) (.int i))));rw[put_k,AA];exact⟨As h (by decide),q⟩
theorem dix_s {kvs:List (Key×PV)}{k:Key}{y v:PV}{p:Addr}{C:CH}{Q:K1}(m:dOf (C p)=some kvs)(hk:kK y=some k)(hv:fZ kvs k=some v)(q:Q v C):wH (.ref p) y C Q:=by
 unfold wH;show(match dOf (C p),kK y with | some kvs,some k=>(match fZ kvs k with | some v=>Q v C | none=>False) | _,_=>False);rw[m,hk];dsimp only;rw[hv];exact q
theorem KZ {cs:List (Str×Int)}(nd:(cs.map (·.1)).Nodup){ρ:CSt}{j:Nat}{d:Addr}{R:K1}{C:CH}(hl:cs.length<=1000)(hj:ρ[j]?=some (some (.ref d)))(m:C d=some (.fK (cs.map kOf)))(q:∀p,C p=none->R (.ref p) (uQ C p (.lst (cs.map rQ))))(zs:List (Str×Int)):
  ∀done:List (Str×Int),cs=done++zs->yZ vF (Qb (uK (rZ 0) (uK (cOp wH (rZ (j+1)) (rZ 0)) iF))) ρ R (zs.map fun c=>PV.str c.1) (done.map rQ) C:=by
 induction zs with
 |nil =>
  intro done e;rw[AZ] at e;subst e;exact q
 |cons z zs ih =>
  intro done e;have hz:z∈cs:=by rw[e]; exact AY _ AD
  show rZ (j+1) (some (.str z.1)::ρ) C fun x C1=>rZ 0 (some (.str z.1)::ρ) C1 fun y C2=>wH x y C2 fun v C3=>[PV.str z.1,v].length<=sizeLine/\(done.map rQ).length < sizeLine/\yZ vF (Qb (uK (rZ 0) (uK (cOp wH (rZ (j+1)) (rZ 0)) iF))) ρ R (zs.map fun c=>PV.str c.1) (done.map rQ++[.tup [.str z.1,v]]) C3;unfold rZ;rw[show(some (PV.str z.1)::ρ)[j+1]?=some (some (.ref d)) from hj];dsimp only;refine dix_s (kvs:=cs.map kOf) (k:=.inr z.1) (v:=.int z.2) (by rw[m]; rfl) rfl (val_k nd hz) ⟨zz 2 rfl,?_,?_⟩
  .rw [AA]
   have:done.length<=cs.length:=by rw[e,AC]; omega
   exact As (Ae this hl) (by decide)
  .rw [show done.map rQ++[.tup [.str z.1,.int z.2]]=(done++[z]).map rQ by rw[AQ]; rfl]
   exact ih (done++[z]) (by rw[e,AK]; rfl)
theorem J3:∀cs:List (Str×Int),((cs.map kOf).map fun p=>zY p.1)=cs.map fun c=>PV.str c.1
 |[]=>rfl
 |c::cs=>by
  show PV.str c.1::((cs.map kOf).map fun p=>zY p.1)=_;rw[J3 cs]; rfl
theorem compD_s {cs:List (Str×Int)}(nd:(cs.map (·.1)).Nodup){ρ:CSt}{j:Nat}{d:Addr}{Q:K1}{C:CH}(hl:cs.length<=1000)(hj:ρ[j]?=some (some (.ref d)))(m:C d=some (.dK (cs.map kOf)))(q:∀p C',C' p=some (.lst (cs.map rQ))->Gr C C'->Q (.ref p) C'):
  tR (rZ j) vF (Qb (uK (rZ 0) (uK (cOp wH (rZ (j+1)) (rZ 0)) iF))) ρ C Q:=by
 unfold tR;have hv:∀(Q:K1),Q (.ref d) C->rZ j ρ C Q:=fun Q h=>by unfold rZ; rw[hj]; exact h
 refine hv _ ?_;dsimp only;rw[m];dsimp only;rw[J3];refine KZ nd hl hj jQ (fun p hp=>?_) cs [] rfl;have ne:p≠d:=fun e=>by subst e; rw[jQ] at hp; cases hp
 have hp':C p=none:=by rw[wQ ne] at hp; exact hp
 refine⟨by rw[wQ (Ne.symm ne),jQ],q p _ (by rw[wQ ne,jQ]) fun b o e=>?_⟩
 by_cases h1:b=d
 .subst h1; rw[m] at e; cases e; exact jQ
 .by_cases h2:b=p
  .subst h2; rw[hp'] at e; cases e
  .rw [wQ h1,wQ h2,wQ h1]; exact e
def rV (ds ms:List (Str×Int)):List (Str×Int):=dY (zJ (zJ [] ds) ms)
theorem nM (ds ms:List (Str×Int)):(rV ds ms).length<=ds.length+ms.length:=by
 unfold rV;rw[wC];have h1:=iW ms (zJ [] ds);have h2:=iW ds [];have:([]:List (Str×Int)).length=0:=rfl;omega
def SBd (cs:List (Str×Int)):Prop:=∀c∈cs,Bd c.2
theorem cL {cs:List (Str×Int)}{c:Str×Int}(h:c∈dY cs):c∈cs:=by
 unfold dY at h;obtain⟨i,hi,rfl⟩:=Ab.1 h
 have hl:0 < cs.length:=by
  rcases Nat.eq_zero_or_pos cs.length with z | z
  .rw [z,run0] at hi; cases hi
  .exact z
 have:=(xY (aE cs) cs.length hl).mem_iff.mp hi;rw[Az] at this;rw[Ao,AM this];exact BI _
theorem SBd.put {cs:List (Str×Int)}(h:SBd cs)(n:Str){i:Int}(hi:Bd i):SBd (eB cs n i):=by
 intro c hc;unfold eB at hc
 split at hc
 .obtain ⟨x,hx,rfl⟩:=Ab.1 hc
  split
  .exact hi
  .exact h x hx
 .rcases An.1 hc with hc | hc
  .exact h c hc
  .cases AH.1 hc; exact hi
theorem SBd.merge {ms:List (Str×Int)}(hm:SBd ms):∀{cs:List (Str×Int)},SBd cs->SBd (zJ cs ms):=by
 induction ms with
 |nil=>intro cs h; exact h
 |cons m ms ih =>
  intro cs h;exact ih (fun c hc=>hm c (AG _ hc)) (h.put m.1 (hm m AD))
theorem SBd.over {ds ms:List (Str×Int)}(hd:SBd ds)(hm:SBd ms):SBd (rV ds ms):=fun c hc=>(SBd.merge hm (SBd.merge hd (cs:=[]) (fun _ z=>nomatch z))) c (cL hc)
section
variable {P:Program}{w:World}{K:DK}{mg:Str->Option Value}{base:Heap}{a:Adr}
def gOver:GC:=fun ts C Q=>∃(ds ms:List (Str×Int)),ts=[.tup (ds.map rQ),.tup (ms.map rQ)]/\ds.length+ms.length<=60/\∀C',Gr C C'->Q (.tup ((rV ds ms).map rQ)) C'
theorem QJ (T:Txt P w K mg a):FnOk P w K mg base CX0 1 (a.f 23) (a.d 23) ["_law_downs","_law_more"] (spC K gOver):=by
 have S:=(T.F 23 rfl).s
 refine(T.F 23 rfl).ok (fun ts C R h=>?_) fun cdv A outer s H E hr=>⟨_,(xQ (cs1 2 S.nd (lK (iI rfl) Vf rfl T.ZA rfl (ca1 (cv 0))))
  (xQ (oY PassesOwn.never rfl (cv 1) (iY rfl (jX (cg1 3 S.nd) (jX (cg1 4 S.nd) uV))) (kQ (yK (rX hr) (cv 2) (cv 3) (cv 4))))
  (kQ (KQ 3 (ctp T.aX (fJ (yM rfl) gP rfl T.tD rfl (ca1 (Vb rfl (show(["_law_name","_law_downs","_law_more","_law_found","?","_law_number_here"]:List Str).Nodup by decide +kernel) (wY (N:=["_law_downs","_law_more","_law_found","?","_law_number_here"]) (sc:=xX (top 32)) rfl rfl rfl (by decide +kernel)) (cv 2) (fun _ _ _ _ _=>bJ) (fun _ _ _ _ _=>(bQ (qQ (cv 0) (ca1 (wZ (rX hr) (cv 3) (cv 0) (fun _ _=>rfl)))))))))))))),?_⟩
 .obtain ⟨ds,ms,rfl,_⟩:=h; rfl
 rintro ts C R ⟨ds,ms,rfl,hd,q⟩;have hm:(zJ [] ds).length<=ds.length:=Ae (iW ds []) (by show 0+ds.length<=ds.length; omega);refine yQ ?_;refine dict_s (by omega) fun p p0=>?_
 try dsimp only
 refine dX ?_;refine vB rfl ?_;refine eZ (fun zs ρ C'=>∃(x3 x4:Option PV) (us vs:List (Str×Int)),ms=us++vs/\zs=vs.map rQ/\ρ=[some (.tup (ds.map rQ)),some (.tup (ms.map rQ)),some (.ref p),x3,x4]/\C' p=some (.dK ((zJ (zJ [] ds) us).map kOf))/\Gr C C') ?_ ?_ _ _ _ ⟨_,_,[],ms,rfl,rfl,rfl,jQ,Gr.new p0 _⟩
 .rintro z zs ρ C1 ⟨x3,x4,us,vs,e,hz,rfl,m1,g1⟩ L hL
  cases vs with
  |nil=>cases hz
  |cons v vs =>
   obtain⟨rfl,rfl⟩:=A4 hz;refine⟨rfl,?_⟩;refine fX (fX (sY ?_))
   try dsimp only
   have hl:=iW us (zJ [] ds);have hul:us.length<=ms.length:=by rw[e,AC]; omega
   refine putD_s (i:=v.2) m1 (by omega) ?_;refine hL _ _ ⟨_,_,us++[v],vs,by rw[AK]; exact e,rfl,rfl,?_,sW g1 p0 _⟩;rw[jQ];unfold zJ;rw[BZ]
   rfl
 .rintro ρ C1 ⟨x3,x4,us,vs,e,hz,rfl,m1,g1⟩
  cases vs with
  |cons v vs=>cases hz
  |nil =>
  rw[AZ] at e;subst e
  try dsimp only
  have hl:=iW ms (zJ [] ds);refine compD_s (xO ms (xO ds (cs:=[]) BM)) (by omega) rfl m1 fun p2 C2 m2 g2=>?_;refine vL m2 (by omega) fun p3 p30=>?_;refine wJ jQ ?_;exact q _ ((g1.trans g2).trans (Gr.new p30 _))
end
def Wt.sp:Wt->List Key
 |.plain s _ _ _ _=>s
 |.part s _ _=>s
 |.give s _ _ _=>s
def KBd:Key->Prop
 |.inl none=>True
 |.inl (some i)=>Bd i
 |.inr _=>False
def SpN (r:List Wt):Prop:=∀x∈r,∃k c,x.sp=[k,.inl (some c)]/\0<=c/\c < r.length/\KBd k
def Vq (r:List Wt):Prop:=(r.map Wt.sp).Nodup/\SpN r
def PlOk (tag:Str)(ss:List (Str×Int))(h:List HdV):Prop:=ss.length<=4/\h.length<=4/\(∀x∈h,x.ch.length<=4/\x.ev.length<=8)/\tag.length<=8/\∀c∈ss,c.1.length<=8/\Bd c.2
def WtOk (rs:List Str):Nat->Wt->Prop
 |0,_=>False
 |_+1,.part sp n g=>sp.length<=2/\n∈rs/\g.length<=4/\SBd g
 |d+1,.give sp _ i r=>sp.length<=2/\Bd i/\(∀x∈r,WtOk rs d x)/\Vq r
 |d+1,.plain sp tag ss h r=>sp.length<=2/\PlOk tag ss h/\(∀x∈r,WtOk rs d x)/\Vq r
def Xo (rs:List Str)(d:Nat)(r:List Wt):Prop:=(∀x∈r,WtOk rs d x)/\Vq r
theorem WtOk.up {rs:List Str}:∀{d:Nat}{x:Wt},WtOk rs d x->WtOk rs (d+1) x:=by
 intro d
 induction d with
 |zero=>intro x h; exact h.elim
 |succ d ih =>
  intro x h
  cases x with
  |plain s t g hs r=>exact⟨h.1,h.2.1,fun y hy=>ih (h.2.2.1 y hy),h.2.2.2⟩
  |part s n g=>exact h
  |give s n i r=>exact⟨h.1,h.2.1,fun y hy=>ih (h.2.2.1 y hy),h.2.2.2⟩
theorem WtOk.mono {rs:List Str}{d e:Nat}{x:Wt}(h:WtOk rs d x)(le:d<=e):WtOk rs e x:=by
 induction le with
 |refl=>exact h
 |step _ ih=>exact ih.up
def SpInv (F:List Wt)(N:Tns):Prop:=(F.map Wt.sp).Nodup/\(∀x∈F,∃k c,x.sp=[k,.inl (some c)]/\c < eF N k/\0<=c/\KBd k)/\∀k,0<=eF N k/\eF N k<=F.length
theorem SpInv.row {F:List Wt}{N:Tns}(h:SpInv F N):Vq F:=⟨h.1,fun x hx=>by
 obtain⟨k,c,e,h1,h2,h3⟩:=h.2.1 x hx;have:=(h.2.2 k).2
 exact⟨k,c,e,h2,by omega,h3⟩⟩
def StOk (rs:List Str)(e:Nat)(st:DSt):Prop:=(∀x∈st.1,WtOk rs e x)/\SpInv st.1 st.2.1
theorem yB (N:Tns)(k k':Key):eF (jV N k) k'=if k'=k then eF N k+1 else eF N k':=by
 unfold jV;show(match fZ (gZ N k (.int (eF N k+1))) k' with | some (.int i)=>i | _=>0)=_;rw[sN]
 by_cases e:k'=k
 .rw [AW e,AW e]
 .rw [AT e,AT e]; rfl
theorem SpInv.add {F:List Wt}{N:Tns}(h:SpInv F N){x:Wt}{k:Key}(hk:KBd k)(hx:x.sp=fV N k):SpInv (F++[x]) (jV N k):=by
 refine⟨?_,fun y hy=>?_,fun k'=>?_⟩
 .rw [AQ,A8]
  refine⟨h.1,by simp,fun a ha b hb e=>?_⟩;have hb:b=x.sp:=by simpa using hb
  obtain⟨y,hy,rfl⟩:=Ab.1 ha;obtain⟨k',c,e1,e2,_⟩:=h.2.1 y hy;rw[hb,hx] at e;rw[e1] at e;unfold fV at e;injection e with e3 e4
  injection e4 with e5
  injection e5 with e5
  injection e5 with e5
  rw[e3,e5] at e2;omega
 .rcases An.1 hy with hy | hy
  .obtain ⟨k',c,e1,e2,e3⟩:=h.2.1 y hy
   refine⟨k',c,e1,?_,e3⟩;rw[yB]
   split
   .next z=>rw[<- z]; omega
   .exact e2
  .cases AH.1 hy
   exact⟨k,eF N k,hx,by rw[yB,AW rfl]; omega,(h.2.2 k).1,hk⟩
 .rw [yB,AC,AO]
  have h1:=h.2.2 k;have h2:=h.2.2 k'
  split<;>omega
theorem nT {A:Rds}{τ:Tns}{bs ns:List Str}(hS:fG A τ bs ns){d:Nat}{ps:List (Str×Rk)}(h:yH bs ns d ps):SBd (dY (yJ A τ ps)):=fun c hc=>by
 have:=cL hc;unfold yJ at this;obtain⟨p,hp,rfl⟩:=Ab.1 this;exact pM hS.a hS.t hS.h (h p hp)
theorem lP {A:Rds}{bs rs:List Str}{d:Nat}(h1:∀e,d<=e->∀l ns τ st,LnOk bs rs d ns l->fG A τ bs ns->StOk rs e st->StOk rs e (qZ A l τ st)):∀e,d<=e->∀(ls:List Ln) (ns:List Str) (τ:Tns) (st:DSt),(∀x∈ls,LnOk bs rs d ns x)->fG A τ bs ns->StOk rs e st->StOk rs e (oQ A ls τ st)
 |e,le,[],ns,τ,st,_,_,h=>by rw[dZ]; exact h
 |e,le,l::ls,ns,τ,st,hl,hS,h=>by
  rw[xZ];exact lP h1 e le ls ns τ _ (fun x hx=>hl x (AG _ hx)) hS (h1 e le l ns τ st (hl l AD) hS h)
theorem StOk.nil {rs:List Str}{e:Nat}{R:Rds}:StOk rs e ([],[],R):=⟨fun _ z=>(nomatch z),BM,(fun _ z=>(nomatch z)),fun _=>⟨A3 0,A3 0⟩⟩
theorem zI {A:Rds}{τ:Tns}{bs ns:List Str}(hS:fG A τ bs ns){k:Option Rk}(h:dC bs ns k):KBd (mG A τ k):=by
 cases k with
 |none=>exact trivial
 |some r=>exact pM hS.a hS.t hS.h h
theorem one_st {A:Rds}{bs rs:List Str}:∀(d e:Nat),d<=e->∀(l:Ln) (ns:List Str) (τ:Tns) (st:DSt),LnOk bs rs d ns l->fG A τ bs ns->StOk rs e st->StOk rs e (qZ A l τ st):=by
 intro d
 induction d with
 |zero=>intro e le l ns τ st h; exact h.elim
 |succ d ih =>
  intro e le l ns τ st h hS hst;have br:=lP ih
  have add:∀(x:Wt) (k:Key) (R:Rds),KBd k->WtOk rs (d+1) x->x.sp=fV st.2.1 k->StOk rs e (st.1++[x],jV st.2.1 k,R):=by
   intro x k R hk hx hsp;refine⟨fun y hy=>?_,hst.2.add hk hsp⟩
   rcases An.1 hy with hy | hy
   .exact hst.1 y hy
   .cases AH.1 hy; exact hx.mono le
  cases l with
  |plain k tag s hs ls =>
   obtain⟨h1,h2,h3,h4,h5⟩:=h;rw[qZ];have b:=br d (AJ _) ls ns τ ([],[],tV A τ hs (xV A τ s (nW A τ k st.2.2))) h4 hS StOk.nil;refine add _ _ _ (zI hS h1) ⟨AJ 2,⟨?_,?_,fun x hx=>?_,h2.2.2.2,fun c hc=>⟨?_,nT hS h2.1 c hc⟩⟩,b.1,b.2.row⟩ rfl
   .rw [wC]; unfold yJ; rw[AA]; exact h2.2.1
   .unfold zV; rw[AA]; exact h3.2
   .unfold zV at hx
    obtain⟨y,hy,rfl⟩:=Ab.1 hx;refine⟨?_,(h3.1 y hy).1.2⟩;show(tI A τ y.ch).length<=4;unfold tI;rw[AA];exact(h3.1 y hy).1.1
   .have:=cL hc
    unfold yJ at this;obtain⟨p,hp,rfl⟩:=Ab.1 this;exact h2.2.2.1 p hp
  |part k n g =>
   obtain⟨h1,h2,h3,h4⟩:=h;rw[qZ];refine add _ _ _ (zI hS h1) ⟨AJ 2,h2,?_,nT hS h3⟩ rfl;rw[wC];unfold yJ;rw[AA];exact h4
  |give k n r ls =>
   obtain⟨h1,h2,h3,h4,h5⟩:=h;rw[qZ];have b:=br d (AJ _) ls ns τ ([],[],r.rds A τ (nW A τ k st.2.2)) h4 hS StOk.nil;exact add _ _ _ (zI hS h1) ⟨AJ 2,pM hS.a hS.t hS.h h3,b.1,b.2.row⟩ rfl
  |when r l1 l2 =>
   obtain⟨h1,⟨h2,h3⟩,h4,h5⟩:=h;rw[qZ]
   split
   .exact br e (by omega) l2 ns τ _ h4 hS hst
   .exact br e (by omega) l1 ns τ _ h2 hS hst
  |each n r ls =>
   obtain⟨h1,h2,h3⟩:=h;rw[qZ]
   have:∀(l:List Nat),(∀k∈l,k < 8)->∀x:DSt,StOk rs e x->StOk rs e (l.foldl (fun st k=>oQ A ls (gZ τ (.inr n) (.int (k:Nat))) st) x):=by
    intro l
    induction l with
    |nil=>intro _ x hx; exact hx
    |cons k l ihl =>
     intro hk x hx;have k8:=hk k AD;refine ihl (fun j hj=>hk j (AG _ hj)) _ (br e (by omega) ls [n] _ x h2 ⟨hS.a,hS.t.put _ (by unfold Bd; omega),fun m hm=>?_,hS.b⟩ hx);cases AH.1 hm;rw[sN,AW rfl]; rfl
   refine this _ (fun k hk=>?_) _ hst;rw[Az] at hk;have:=wM (r.val A τ);omega
theorem row_ok {A:Rds}{τ:Tns}{bs rs ns:List Str}{d:Nat}{ls:List Ln}{R:Rds}(h:∀x∈ls,LnOk bs rs d ns x)(hS:fG A τ bs ns):Xo rs d (oQ A ls τ ([],[],R)).1:=by
 have b:=lP (one_st d) d (AJ _) ls ns τ ([],[],R) h hS StOk.nil;exact⟨b.1,b.2.row⟩
mutual
def Wt.pc:Wt->Nat
 |.plain _ _ _ _ r=>Wt.pcs r
 |.part _ _ _=>1
 |.give _ _ _ r=>Wt.pcs r
def Wt.pcs:List Wt->Nat
 |[]=>0
 |x::r=>x.pc+Wt.pcs r
end
theorem Wt.pcs_app (xs ys:List Wt):Wt.pcs (xs++ys)=Wt.pcs xs+Wt.pcs ys:=by
 induction xs with
 |nil=>show _=0+_; rw[BF]; rfl
 |cons x xs ih=>show x.pc+Wt.pcs (xs++ys)=x.pc+Wt.pcs xs+Wt.pcs ys; rw[ih]; omega
mutual
theorem one_pc (A:Rds):∀(l:Ln) (τ:Tns) (st:DSt),Wt.pcs (qZ A l τ st).1<=Wt.pcs st.1+l.pw
 |.when r l1 l2,τ,st=>by
  rw[qZ];have h1:=zW A l1 τ (st.1,st.2.1,r.rds A τ st.2.2);have h2:=zW A l2 τ (st.1,st.2.1,r.rds A τ st.2.2);show _<=_+(Ln.pws l1+Ln.pws l2)
  split
  .exact Ae h2 (by show Wt.pcs st.1+_<=_; omega)
  .exact Ae h1 (by show Wt.pcs st.1+_<=_; omega)
 |.each n r ls,τ,st=>by
  rw[qZ];have c:=wM (r.val A τ);have f1:=rY (f:=fun st k=>oQ A ls (gZ τ (.inr n) (.int (k:Nat))) st) (m:=fun st=>Wt.pcs st.1) (c:=Ln.pws ls) (fun x k=>zW A ls _ x) (List.range (aF (r.val A τ))) (st.1,st.2.1,r.rds A τ st.2.2);rw[Ak] at f1;have hm:aF (r.val A τ) * Ln.pws ls<=8 * Ln.pws ls:=A2 _ c;show _<=Wt.pcs st.1+8 * Ln.pws ls;exact Ae f1 (by show Wt.pcs st.1+_<=_; omega)
 |.part k n g,τ,st=>by
  rw[qZ];show Wt.pcs (st.1++[_])<=_;rw[Wt.pcs_app];exact AJ _
 |.give k n r ls,τ,st=>by
  rw[qZ];have h:=zW A ls τ ([],[],r.rds A τ (nW A τ k st.2.2));show Wt.pcs (st.1++[_])<=_;rw[Wt.pcs_app];show Wt.pcs st.1+(Wt.pcs _+0)<=Wt.pcs st.1+Ln.pws ls;have h:Wt.pcs (oQ A ls τ ([],[],r.rds A τ (nW A τ k st.2.2))).1<=0+Ln.pws ls:=h;omega
 |.plain k tag s hs ls,τ,st=>by
  rw[qZ];have h:=zW A ls τ ([],[],tV A τ hs (xV A τ s (nW A τ k st.2.2)));show Wt.pcs (st.1++[_])<=_;rw[Wt.pcs_app];show Wt.pcs st.1+(Wt.pcs _+0)<=Wt.pcs st.1+Ln.pws ls;have h:Wt.pcs (oQ A ls τ ([],[],tV A τ hs (xV A τ s (nW A τ k st.2.2)))).1<=0+Ln.pws ls:=h;omega
theorem zW (A:Rds):∀(ls:List Ln) (τ:Tns) (st:DSt),Wt.pcs (oQ A ls τ st).1<=Wt.pcs st.1+Ln.pws ls
 |[],τ,st=>by rw[dZ]; exact B7 _ _
 |l::ls,τ,st=>by
  rw[xZ];have h1:=one_pc A l τ st;have h2:=zW A ls τ (qZ A l τ st);show _<=_+(l.pw+Ln.pws ls);omega
end
mutual
def Wt.wc:Wt->Nat
 |.plain _ _ _ _ r=>1+Wt.wcs r
 |.part _ _ _=>1
 |.give _ _ _ r=>1+Wt.wcs r
def Wt.wcs:List Wt->Nat
 |[]=>0
 |x::r=>x.wc+Wt.wcs r
end
theorem Wt.wcs_app (xs ys:List Wt):Wt.wcs (xs++ys)=Wt.wcs xs+Wt.wcs ys:=by
 induction xs with
 |nil=>show _=0+_; rw[BF]; rfl
 |cons x xs ih=>show x.wc+Wt.wcs (xs++ys)=x.wc+Wt.wcs xs+Wt.wcs ys; rw[ih]; omega
mutual
theorem one_wc (A:Rds):∀(l:Ln) (τ:Tns) (st:DSt),Wt.wcs (qZ A l τ st).1<=Wt.wcs st.1+l.tw
 |.when r l1 l2,τ,st=>by
  rw[qZ];have h1:=qW A l1 τ (st.1,st.2.1,r.rds A τ st.2.2);have h2:=qW A l2 τ (st.1,st.2.1,r.rds A τ st.2.2);show _<=_+(Ln.tws l1+Ln.tws l2)
  split
  .exact Ae h2 (by show Wt.wcs st.1+_<=_; omega)
  .exact Ae h1 (by show Wt.wcs st.1+_<=_; omega)
 |.each n r ls,τ,st=>by
  rw[qZ];have c:=wM (r.val A τ);have f1:=rY (f:=fun st k=>oQ A ls (gZ τ (.inr n) (.int (k:Nat))) st) (m:=fun st=>Wt.wcs st.1) (c:=Ln.tws ls) (fun x k=>qW A ls _ x) (List.range (aF (r.val A τ))) (st.1,st.2.1,r.rds A τ st.2.2);rw[Ak] at f1;have hm:aF (r.val A τ) * Ln.tws ls<=8 * Ln.tws ls:=A2 _ c;show _<=Wt.wcs st.1+8 * Ln.tws ls;exact Ae f1 (by show Wt.wcs st.1+_<=_; omega)
 |.part k n g,τ,st=>by
  rw[qZ];show Wt.wcs (st.1++[_])<=_;rw[Wt.wcs_app];exact AJ _
 |.give k n r ls,τ,st=>by
  rw[qZ];have h:=qW A ls τ ([],[],r.rds A τ (nW A τ k st.2.2));show Wt.wcs (st.1++[_])<=_;rw[Wt.wcs_app];show Wt.wcs st.1+((1+Wt.wcs _)+0)<=Wt.wcs st.1+(1+Ln.tws ls);have h:Wt.wcs (oQ A ls τ ([],[],r.rds A τ (nW A τ k st.2.2))).1<=0+Ln.tws ls:=h;omega
 |.plain k tag s hs ls,τ,st=>by
  rw[qZ];have h:=qW A ls τ ([],[],tV A τ hs (xV A τ s (nW A τ k st.2.2)));show Wt.wcs (st.1++[_])<=_;rw[Wt.wcs_app];show Wt.wcs st.1+((1+Wt.wcs _)+0)<=Wt.wcs st.1+(1+Ln.tws ls);have h:Wt.wcs (oQ A ls τ ([],[],tV A τ hs (xV A τ s (nW A τ k st.2.2)))).1<=0+Ln.tws ls:=h;omega
theorem qW (A:Rds):∀(ls:List Ln) (τ:Tns) (st:DSt),Wt.wcs (oQ A ls τ st).1<=Wt.wcs st.1+Ln.tws ls
 |[],τ,st=>by rw[dZ]; exact B7 _ _
 |l::ls,τ,st=>by
  rw[xZ];have h1:=one_wc A l τ st;have h2:=qW A ls τ (qZ A l τ st);show _<=_+(l.tw+Ln.tws ls);omega
end
structure Prt where
 path:mQ
 name:Str
 gives:List (Str×Int)
 downs:List (Str×Int)
def fQ (p:mQ):PV:=.tup (p.map aJ)
def Prt.pv (x:Prt):PV:=.tup [fQ x.path,.str x.name,.tup (x.gives.map rQ),.tup (x.downs.map rQ)]
mutual
def Wt.prt:Wt->mQ->List (Str×Int)->List Prt
 |.part sp n g,s,ds=>[⟨s++[sp],n,g,ds⟩]
 |.give sp n i r,s,ds=>Wt.prts r (s++[sp]) (rV ds [(n,i)])
 |.plain sp _ _ _ r,s,ds=>Wt.prts r (s++[sp]) ds
def Wt.prts:List Wt->mQ->List (Str×Int)->List Prt
 |[],_,_=>[]
 |x::r,s,ds=>x.prt s ds++Wt.prts r s ds
end
mutual
theorem prt_len:∀(x:Wt) (s:mQ) (ds:List (Str×Int)),(x.prt s ds).length=x.pc
 |.part _ _ _,_,_=>rfl
 |.give sp n i r,s,ds=>by rw[Wt.prt,Wt.pc]; exact cV r _ _
 |.plain sp _ _ _ r,s,ds=>by rw[Wt.prt,Wt.pc]; exact cV r _ _
theorem cV:∀(r:List Wt) (s:mQ) (ds:List (Str×Int)),(Wt.prts r s ds).length=Wt.pcs r
 |[],_,_=>rfl
 |x::r,s,ds=>by rw[Wt.prts,Wt.pcs,AC,prt_len x,cV r]
end
theorem Jh (xs ys:List Wt)(s:mQ)(ds:List (Str×Int)):Wt.prts (xs++ys) s ds=Wt.prts xs s ds++Wt.prts ys s ds:=by
 induction xs with
 |nil=>rfl
 |cons x xs ih=>rw[B9,Wt.prts,Wt.prts,ih,AK]
theorem ZB (x:Wt):∃(wd:Str) (rest:List PV),x.pv=.tup (.str wd::aJ x.sp::rest)/\(wd = "plain"\/wd = "part"\/wd = "give"):=by
 cases x with
 |plain s t g h r=>exact⟨"plain",_,by rw[Wt.pv]; rfl,.inl rfl⟩
 |part s n g=>exact⟨"part",_,by rw[Wt.pv]; rfl,.inr (.inl rfl)⟩
 |give s n i r=>exact⟨"give",_,by rw[Wt.pv]; rfl,.inr (.inr rfl)⟩
section
variable {P:Program}{w:World}{K:DK}{mg:Str->Option Value}{base:Heap}{a:Adr}
def gPs (d:Nat):GC:=fun ts C Q=>∃(r:List Wt) (s:mQ) (ds:List (Str×Int)) (rs:List Str),ts=[.tup (Wt.pvs r),fQ s,.tup (ds.map rQ)]/\Xo rs d r/\s.length+d<=50/\ds.length+d<=50/\Wt.pcs r<=1000 /\
 ∀p C',C p=none->C' p=some (.lst ((Wt.prts r s ds).map Prt.pv))->Gr C C'->Q (.ref p) C'
theorem JC (T:Txt P w K mg a)(d:Nat):FnOk P w K mg base CX0 (d+2) (a.f 24) (a.d 24) U3 (spC K (gPs d)):=by
 have main:∀n,(∀d',n=d'+1->FnOk P w K mg base CX0 (n+1) (a.f 24) (a.d 24) U3 (spC K (gPs d')))->FnOk P w K mg base CX0 (n+2) (a.f 24) (a.d 24) U3 (spC K (gPs n)):=by
  intro n ih;have S:=(T.F 24 rfl).s;have oP:=(QJ (base:=base) T).mono (show 1<=n+1 by omega)
  have pU:FnOk P w K mg base CX0 (n+1) (a.f 24) (a.d 24) U3 (spC K (fun ts C Q=>∃d',n=d'+1/\gPs d' ts C Q)):=by
   cases n with
   |zero=>exact iZ fun ts C Q ⟨d',e,_⟩=>by omega
   |succ d' =>
    have:=ih d' rfl
    have e:(fun ts C Q=>∃d'',d'+1=d''+1/\gPs d'' ts C Q)=gPs d':=by
     funext ts C Q
     refine propext ⟨fun⟨d'',e,h⟩=>?_,fun h=>⟨d',rfl,h⟩⟩;cases At e;exact h
    rw[e];exact this
  refine(T.F 24 rfl).ok (fun ts C R h=>?_) fun cdv A outer s H E hr=>⟨_,(xQ (cs1 3 S.nd (nX eX))
  (xQ (oY PassesOwn.never rfl (cv 0) (cg1 4 S.nd) (xQ (cs1 5 S.nd (iQ yX gX (cv 1) (bQ (ca1 (cx (cv 4) zQ)))))
  (xQ (uX (ct2 cX kX (cx (cv 4) zQ) vQ) (kQ (cZ (cap (cv 3) (bQ (qQ (cv 5) (qQ (cx (cv 4) zQ) (qQ (cx (cv 4) zQ) (ca1 (cv 2))))))))) aQ)
  (xQ (uX (ct2 cX kX (cx (cv 4) zQ) vQ) (kQ (cs1 3 S.nd (iQ yX gX (cv 3) (cf (T.F 24 rfl) pU hr (qQ (cx (cv 4) zQ) (qQ (cv 5) (ca1 (cf (T.F 23 rfl) oP hr (qQ (cv 2) (ca1 (bQ (ca1 (bQ (qQ (cx (cv 4) zQ) (ca1 (cx (cv 4) zQ)))))))))))))))) aQ)
  (kQ (uX (ct2 cX kX (cx (cv 4) zQ) vQ) (kQ (cs1 3 S.nd (iQ yX gX (cv 3) (cf (T.F 24 rfl) pU hr (qQ (cx (cv 4) zQ) (qQ (cv 5) (ca1 (cv 2)))))))) aQ))))))
  (kQ (cQ (cv 3))))),?_⟩
  .obtain ⟨r,s,ds,rs,rfl,_⟩:=h; rfl
  rintro ts C R ⟨r,s,ds,rs,rfl,ok,hs,hd,hpc,q⟩;refine yQ ?_;refine⟨zz 0 rfl,fun p p0=>?_⟩
  try dsimp only
  refine dX ?_;refine vB rfl ?_;refine eZ (fun zs ρ C'=>∃(p:Addr) (x4 x5:Option PV) (us vs:List Wt),r=us++vs/\zs=Wt.pvs vs/\ρ=[some (.tup (Wt.pvs r)),some (fQ s),some (.tup (ds.map rQ)),some (.ref p),x4,x5]/\C p=none/\C' p=some (.lst ((Wt.prts us s ds).map Prt.pv))/\Gr C C') ?_ ?_ _ _ _ ⟨p,_,_,[],r,rfl,rfl,rfl,p0,jQ,Gr.new p0 _⟩
  .rintro z zs ρ C1 ⟨p,x4,x5,us,vs,e,hz,rfl,p0,m1,g1⟩ L hL
   cases vs with
   |nil=>cases hz
   |cons u vs =>
   obtain⟨rfl,rfl⟩:=A4 (show z::zs=u.pv::Wt.pvs vs from hz);have hu:=ok.1 u (by rw[e]; exact AY _ AD);have hpc2:Wt.pcs us+(u.pc+Wt.pcs vs)<=1000:=by have:=hpc; rw[e,Wt.pcs_app] at this; exact this
   have hus:((Wt.prts us s ds).map Prt.pv).length=Wt.pcs us:=by rw[AA,cV]
   have ea:Wt.prts (us++[u]) s ds=Wt.prts us s ds++u.prt s ds:=by rw[Jh,Wt.prts,Wt.prts,AZ]
   obtain⟨wd,rest,ep,hwd⟩:=ZB u;refine yQ ?_;refine tQ ep nD ?_;refine⟨zz 1 rfl,?_⟩;refine nF (xK (by rw[AA]; show s.length+1<=1000; omega)) ?_
   try dsimp only
   have eh:PV.tup (s.map aJ++[aJ u.sp])=fQ (s++[u.sp]):=by unfold fQ; rw[AQ]; rfl
   rw[eh]
   cases n with
   |zero=>exact hu.elim
   |succ d' =>
   cases u with
   |part sp nm g =>
    have ep:(Wt.part sp nm g).pv=.tup [.str "part",aJ sp,.str nm,.tup (g.map rQ)]:=by rw[Wt.pv]
    refine dX ?_;refine tQ ep sQ ?_;refine mX (lQ _ _) ?_;refine lW (by decide) ?_;refine⟨yG m1,?_⟩;refine tQ ep (v:=.str nm) rfl ?_;refine tQ ep (v:=.tup (g.map rQ)) rfl ?_;refine⟨zz 4 rfl,?_⟩;refine nP m1 (by rw[hus]; exact As (show Wt.pcs us<=1000 by omega) (by decide)) ?_
    try dsimp only
    refine dX ?_;refine tQ ep sQ ?_;refine mX (lQ _ _) ?_;refine vZ (by decide) ?_;refine bX ?_
    try dsimp only
    refine tQ ep sQ ?_;refine mX (lQ _ _) ?_;refine vZ (by decide) ?_;refine bX ?_;refine hL _ _ ⟨p,_,_,us++[.part sp nm g],vs,by rw[AK]; exact e,rfl,rfl,p0,?_,sW g1 p0 _⟩;rw[jQ,ea,AQ,Wt.prt]
    rfl
   |give sp nm i rw_ =>
    obtain⟨_,bi,o1,o2⟩:=hu;have ep:(Wt.give sp nm i rw_).pv=.tup [.str "give",aJ sp,.str nm,.int i,.tup (Wt.pvs rw_)]:=by rw[Wt.pv]
    have hpcu:Wt.pcs rw_=(Wt.give sp nm i rw_).pc:=by rw[Wt.pc]
    refine dX ?_;refine tQ ep sQ ?_;refine mX (lQ _ _) ?_;refine vZ (by decide) ?_;refine bX ?_
    try dsimp only
    refine dX ?_;refine tQ ep sQ ?_;refine mX (lQ _ _) ?_;refine lW (by decide) ?_;refine tQ ep (v:=.tup (Wt.pvs rw_)) rfl ?_;refine tQ ep (v:=.str nm) rfl ?_;refine tQ ep (v:=.int i) rfl ?_;refine⟨zz 2 rfl,?_⟩;refine⟨zz 1 rfl,?_⟩;refine⟨ds,[(nm,i)],rfl,by show ds.length+1<=60; omega,fun C2 g2=>?_⟩;have hol:=nM ds [(nm,i)];have hol:(rV ds [(nm,i)]).length<=ds.length+1:=hol
    refine⟨d',rfl,rw_,s++[sp],rV ds [(nm,i)],rs,rfl,⟨o1,o2⟩,by rw[AC,AO]; omega,by omega,by omega,fun p3 C3 n3 m3 g3=>?_⟩;refine sF (g3 _ _ (g2 _ _ m1)) m3 (xK (by rw[hus,AA,cV]; omega)) fun p4 p40=>?_
    try dsimp only
    refine tQ ep sQ ?_;refine mX (lQ _ _) ?_;refine vZ (by decide) ?_;refine bX ?_;have g13:Gr C C3:=(g1.trans g2).trans g3;refine hL _ _ ⟨p4,_,_,us++[.give sp nm i rw_],vs,by rw[AK]; exact e,rfl,rfl,oK g13 p40,?_,g13.trans (Gr.new p40 _)⟩;rw[jQ,ea,AQ,Wt.prt]
   |plain sp tag sets hs rw_ =>
    obtain⟨_,_,o1,o2⟩:=hu;have ep:(Wt.plain sp tag sets hs rw_).pv=.tup [.str "plain",aJ sp,.str tag,.tup (sets.map rQ),.tup (hs.map HdV.pv),.tup (Wt.pvs rw_)]:=by rw[Wt.pv]
    have hpcu:Wt.pcs rw_=(Wt.plain sp tag sets hs rw_).pc:=by rw[Wt.pc]
    refine dX ?_;refine tQ ep sQ ?_;refine mX (lQ _ _) ?_;refine vZ (by decide) ?_;refine bX ?_
    try dsimp only
    refine dX ?_;refine tQ ep sQ ?_;refine mX (lQ _ _) ?_;refine vZ (by decide) ?_;refine bX ?_
    try dsimp only
    refine tQ ep sQ ?_;refine mX (lQ _ _) ?_;refine lW (by decide) ?_;refine tQ ep (v:=.tup (Wt.pvs rw_)) rfl ?_;refine⟨d',rfl,rw_,s++[sp],ds,rs,rfl,⟨o1,o2⟩,by rw[AC,AO]; omega,by omega,by omega,fun p3 C3 n3 m3 g3=>?_⟩;refine sF (g3 _ _ m1) m3 (xK (by rw[hus,AA,cV]; omega)) fun p4 p40=>?_;have g13:Gr C C3:=g1.trans g3;refine hL _ _ ⟨p4,_,_,us++[.plain sp tag sets hs rw_],vs,by rw[AK]; exact e,rfl,rfl,oK g13 p40,?_,g13.trans (Gr.new p40 _)⟩
    rw[jQ,ea,AQ,Wt.prt]
  .rintro ρ C1 ⟨p,x4,x5,us,vs,e,hz,rfl,p0,m1,g1⟩
   cases vs with
   |cons u vs=>cases hz
   |nil =>
   rw[AZ] at e;subst e;exact q p C1 p0 m1 g1
 induction d with
 |zero=>exact main 0 fun d' e=>by omega
 |succ d ih=>exact main (d+1) fun d' e=>by cases At e; exact ih
end
def Div (p q:mQ):Prop:=∃c x y p' q',p=c++x::p'/\q=c++y::q'/\x≠y
theorem Div.ext {p q:mQ}(h:Div p q)(u v:mQ):Div (p++u) (q++v):=by
 obtain⟨c,x,y,p',q',rfl,rfl,n⟩:=h;exact⟨c,x,y,p'++u,q'++v,by rw[AK]; rfl,by rw[AK]; rfl,n⟩
theorem Div.ne {p q:mQ}(h:Div p q):p≠q:=by
 obtain⟨c,x,y,p',q',rfl,rfl,n⟩:=h;intro e;have:=List.append_cancel_left e;injection this with h1 _
 exact n h1
structure Vr (rs:List Str)(s:mQ)(nd:Nat)(x:Prt)(d:Nat):Prop where
 name:x.name∈rs
 gl:x.gives.length<=4
 gb:SBd x.gives
 db:SBd x.downs
 dl:x.downs.length<=nd+d
 path:∃u,x.path=s++u/\u≠[]/\u.length<=d
theorem QD {rs:List Str}:∀(d:Nat) (r:List Wt) (s:mQ) (ds:List (Str×Int)),Xo rs d r->SBd ds->(∀x∈Wt.prts r s ds,Vr rs s ds.length x d)/\(Wt.prts r s ds).Pairwise (fun x y=>Div x.path y.path):=by
 intro d
 induction d with
 |zero =>
  intro r s ds ok hb
  cases r with
  |nil=>exact⟨fun _ z=>(nomatch z),.nil⟩
  |cons x r=>exact(ok.1 x AD).elim
 |succ d ih =>
  intro r s ds ok hb
  have one:∀x:Wt,WtOk rs (d+1) x->(∀y∈x.prt s ds,Vr rs s ds.length y (d+1)/\∃u,y.path=s++x.sp::u)/\(x.prt s ds).Pairwise (fun x y=>Div x.path y.path):=by
   intro x hx
   cases x with
   |part sp n g =>
    rw[Wt.prt];refine⟨fun y hy=>?_,List.pairwise_singleton _ _⟩;cases AH.1 hy;exact⟨⟨hx.2.1,hx.2.2.1,hx.2.2.2,hb,by show ds.length<=_; omega,[sp],rfl,by simp,by show 1<=d+1; omega⟩,[],rfl⟩
   |give sp n i r' =>
    rw[Wt.prt];obtain⟨_,bi,o1,o2⟩:=hx;have hob:SBd (rV ds [(n,i)]):=hb.over fun c hc=>by cases AH.1 hc; exact bi
    have hol:(rV ds [(n,i)]).length<=ds.length+1:=nM ds [(n,i)];obtain⟨h1,h2⟩:=ih r' (s++[sp]) (rV ds [(n,i)]) ⟨o1,o2⟩ hob;refine⟨fun y hy=>?_,h2⟩;have o:=h1 y hy;obtain⟨u,e,_,ul⟩:=o.path;have e':y.path=s++sp::u:=by rw[e,AK]; rfl
    exact⟨⟨o.name,o.gl,o.gb,o.db,by have:=o.dl; omega,sp::u,e',by simp,by rw[List.length_cons]; omega⟩,u,e'⟩
   |plain sp tag ss hs r' =>
    rw[Wt.prt];obtain⟨_,_,o1,o2⟩:=hx;obtain⟨h1,h2⟩:=ih r' (s++[sp]) ds ⟨o1,o2⟩ hb;refine⟨fun y hy=>?_,h2⟩;have o:=h1 y hy;obtain⟨u,e,_,ul⟩:=o.path;have e':y.path=s++sp::u:=by rw[e,AK]; rfl
    exact⟨⟨o.name,o.gl,o.gb,o.db,by have:=o.dl; omega,sp::u,e',by simp,by rw[List.length_cons]; omega⟩,u,e'⟩
  have all:∀r:List Wt,(∀x∈r,WtOk rs (d+1) x)->(r.map Wt.sp).Nodup->(∀x∈Wt.prts r s ds,Vr rs s ds.length x (d+1)/\∃y∈r,∃u,x.path=s++y.sp::u)/\(Wt.prts r s ds).Pairwise (fun x y=>Div x.path y.path):=by
   intro r
   induction r with
   |nil=>intro _ _; exact⟨fun _ z=>(nomatch z),.nil⟩
   |cons x r ihr =>
    intro h nd;rw[Ac,Am] at nd;obtain⟨a1,a2⟩:=one x (h x AD);obtain⟨b1,b2⟩:=ihr (fun y hy=>h y (AG _ hy)) nd.2;rw[Wt.prts];refine⟨fun y hy=>?_,?_⟩
    .rcases An.1 hy with hy | hy
     .exact ⟨(a1 y hy).1,x,AD,(a1 y hy).2⟩
     .obtain ⟨c1,z,hz,c2⟩:=b1 y hy
      exact⟨c1,z,AG _ hz,c2⟩
    .rw [List.pairwise_append]
     refine⟨a2,b2,fun y hy z hz=>?_⟩;obtain⟨_,u,e1⟩:=a1 y hy;obtain⟨_,t,ht,v,e2⟩:=b1 z hz;refine⟨s,x.sp,t.sp,u,v,e1,e2,fun e=>nd.1 ?_⟩;rw[e];exact Ab.2 ⟨t,ht,rfl⟩
  obtain⟨c1,c2⟩:=all r ok.1 ok.2.1;exact⟨fun x hx=>(c1 x hx).1,c2⟩
theorem qE {t:TCT}{c:TCE}{ρ:CSt}{Q:K1}(b:PV->Bool):∀(xs acc:List PV) (C:CH),(∀x∈xs,∀(K:Bool->CH->Prop),K (b x) C->t (some x::ρ) C K)->(∀x∈xs,∀(L:K1),L x C->c (some x::ρ) C L)->acc.length+xs.length<=1000->(∀p,C p=none->Q (.ref p) (uQ C p (.lst (acc++xs.filter b))))->yZ t c ρ Q xs acc C:=by
 intro xs
 induction xs with
 |nil =>
  intro acc C _ _ _ q;rw[List.filter_nil,AZ] at q;exact iO q
 |cons x xs ih =>
  intro acc C ht hc hl q;rw[AI] at hl;refine fN ?_;refine ht x AD _ ?_
  cases e:b x with
  |true =>
   rw[AW rfl];refine hc x AD _ ⟨AR (show acc.length < 1000 by omega) (by decide),?_⟩;refine ih (acc++[x]) C (fun y hy=>ht y (AG _ hy)) (fun y hy=>hc y (AG _ hy)) (by rw[AC,AO]; omega) fun p hp=>?_;have:=q p hp;rw[Cm,e,AW rfl] at this;rw[AK];exact this
  |false =>
   rw[AT (by decide)];refine ih acc C (fun y hy=>ht y (AG _ hy)) (fun y hy=>hc y (AG _ hy)) (by omega) fun p hp=>?_;have:=q p hp;rw[Cm,e,AT (by decide)] at this;exact this
def isNm (nm:Str):PV->Bool
 |.tup (.str s::_)=>decide (s=nm)
 |_=>false
theorem yN {nm:Str}:∀{pts:List Pt}{x:Pt},(bZ pts).Nodup->x∈pts->x.name=nm->(pts.map Pt.pv).filter (isNm nm)=[x.pv]
 |[],x,_,m,_=>nomatch m
 |y::pts,x,nd,m,e=>by
  have nd:(y.name::bZ pts).Nodup:=nd;rw[Am] at nd
  have none:∀l:List Pt,(∀z∈l,z.name≠nm)->(l.map Pt.pv).filter (isNm nm)=[]:=by
   intro l h;rw[List.filter_eq_nil_iff];intro z hz;obtain⟨w,hw,rfl⟩:=Ab.1 hz;show ¬ decide (w.name=nm)=true;rw[AS (h w hw)]
   decide
  rw[Ac,Cm];have ei:isNm nm y.pv=decide (y.name=nm):=rfl
  rcases Ah.1 m with rfl | m
  .rw [ei,Af e,AW rfl,none pts fun z hz hzn=>nd.1 (by rw[e,<- hzn]; exact Ab.2 ⟨z,hz,rfl⟩)]
  .have ne:¬ y.name=nm:=fun z=>nd.1 (by rw[z,<- e]; exact Ab.2 ⟨x,m,rfl⟩)
   rw[ei,AS ne,AT (by decide)];exact yN nd.2 m e
abbrev Vl:=List (mQ×(Str×List (Str×Int)))
def vPV (v:Str×List (Str×Int)):PV:=.tup [.str v.1,.tup (v.2.map rQ)]
def vlP (V:Vl):List (mQ×PV):=V.map fun e=>(e.1,vPV e.2)
def sL (V:Vl)(p:mQ):Option (Str×List (Str×Int)):=(V.find? fun e=>decide (e.1=p)).map (·.2)
theorem lE (V:Vl)(p:mQ):cJ (vlP V) p=(sL V p).map vPV:=by
 induction V with
 |nil=>rfl
 |cons e V ih =>
  show cJ ((e.1,vPV e.2)::vlP V) p=_;rw[rJ];unfold sL;rw[Ap]
  by_cases h:e.1=p
  .rw [AW h,Af h]; rfl
  .rw [AT h,AS h,ih]; rfl
def kZ (V:Vl)(y:Pt)(p:mQ):List (Str×Int):=match sL V p with
 |some v=>if v.1=y.name then v.2 else y.first
 |none=>y.first
def uJ (s:Str)(ps:List (Str×Int))(A:Rds):Rds:=ps.foldl (fun A c=>putG A (qK s c.1) (.int c.2)) A
def cM (L:List (Str×List (Str×Int)))(A:Rds):Rds:=L.foldl (fun A e=>uJ e.1 e.2 A) A
def uF (x:Prt)(bx:List (Str×Int)):List (Str×List (Str×Int)):=[("take",x.gives),("down",x.downs),("box",bx)]
def gG (x:Prt)(bx:List (Str×Int)):Rds:=cM (uF x bx) []
def srPV (e:Str×List (Str×Int)):PV:=.tup [.str e.1,.tup (e.2.map rQ)]
structure VOk (V:Vl):Prop where
 b:∀e∈V,SBd e.2.2
 l:∀e∈V,e.2.2.length<=4
theorem XW {V:Vl}{p:mQ}{v:Str×List (Str×Int)}(h:sL V p=some v):∃e∈V,e.2=v:=by
 unfold sL at h
 cases e:V.find? fun e=>decide (e.1=p) with
 |none=>rw[e] at h; cases h
 |some x=>rw[e] at h; cases h; exact⟨x,BX e,rfl⟩
theorem uE {V:Vl}(hV:VOk V){y:Pt}{rs:List Str}{cap:Nat}(ok:Zu rs cap y)(p:mQ):SBd (kZ V y p)/\(kZ V y p).length<=4:=by
 unfold kZ
 cases e:sL V p with
 |none=>exact⟨fun c hc=>ok.fb c hc,ok.fl⟩
 |some v =>
  obtain⟨x,hx,rfl⟩:=XW e;dsimp only
  split
  .exact ⟨hV.b x hx,hV.l x hx⟩
  .exact ⟨fun c hc=>ok.fb c hc,ok.fl⟩
theorem ABd.put {A:Rds}(h:ABd A)(k:List Key){i:Int}(hi:Bd i):ABd (putG A k (.int i)):=fun kv hkv=>by
 rcases zT hkv with e | e
 .exact ⟨i,e,hi⟩
 .exact h kv e
theorem jU {s:Str}:∀{ps:List (Str×Int)}{A:Rds},SBd ps->ABd A->ABd (uJ s ps A)
 |[],A,_,h=>h
 |c::ps,A,hp,h=>jU (ps:=ps) (fun x hx=>hp x (AG _ hx)) (h.put _ (hp c AD))
theorem ans_bd {x:Prt}{bx:List (Str×Int)}(h1:SBd x.gives)(h2:SBd x.downs)(h3:SBd bx):ABd (gG x bx):=jU h3 (jU h2 (jU h1 (A:=[]) fun _ z=>(nomatch z)))
theorem Jc {κ:Type}[DecidableEq κ](R:List (κ×PV))(k:κ)(v:PV):(putG R k v).length<=R.length+1:=by
 unfold putG
 split
 .rw [AA]; omega
 .rw [AC,AO]; exact AJ _
theorem pV {s:Str}:∀(ps:List (Str×Int)) (A:Rds),(uJ s ps A).length<=A.length+ps.length
 |[],A=>AJ _
 |c::ps,A=>by
  have h1:=pV (s:=s) ps (putG A (qK s c.1) (.int c.2));have h2:=Jc A (qK s c.1) (.int c.2);show(uJ s ps (putG A (qK s c.1) (.int c.2))).length<=_;rw[AI];omega
theorem aZ:∀p:mQ,gL (fQ p)=some p:=by
 intro p;show rH (p.map aJ)=some p
 induction p with
 |nil=>rfl
 |cons k p ih =>
  have hk:lB (aJ k)=some k:=by
   show qB (k.map zY)=some k
   induction k with
   |nil=>rfl
   |cons a k ihk =>
    show(match kK (zY a),qB (k.map zY) with | some k,some ks=>some (k::ks) | _,_=>none)=_;rw[CL.keyOf_keyPV,ihk]
  show(match lB (aJ k),rH (p.map aJ) with | some k,some ks=>some (k::ks) | _,_=>none)=_;rw[hk,ih]
theorem pin_s {p:Addr}{y:PV}{k:mQ}{kvs:List (mQ×PV)}{C:CH}{Q:K1}(m:C p=some (.dP kvs))(hk:gL y=some k)(q:Q (.bl (cJ kvs k).isSome) C):cPIn y (.ref p) C Q:=by
 unfold cPIn;dsimp only;rw[m,hk];exact q
theorem nH {p:Addr}{y v:PV}{k:mQ}{kvs:List (mQ×PV)}{C:CH}{Q:K1}(m:C p=some (.dP kvs))(hk:gL y=some k)(hv:cJ kvs k=some v)(q:Q v C):cPIx (.ref p) y C Q:=by
 unfold cPIx;dsimp only;rw[m,hk];show(match cJ kvs k with | some v=>Q v C | none=>False);rw[hv];exact q
theorem jC {p:Addr}{y v:PV}{k:mQ}{kvs:List (mQ×PV)}{C:CH}{Q:CH->Prop}(m:C p=some (.dP kvs))(hk:gL y=some k)(h:kvs.length<=100000)(q:Q (uQ C p (.dP (putG kvs k v)))):Xf (.ref p) y v C Q:=by
 unfold Xf;dsimp only;rw[m,hk];exact⟨As h (by decide),q⟩
section
variable {P:Program}{w:World}{K:DK}{mg:Str->Option Value}{base:Heap}{a:Adr}
def gNamed:GC:=fun ts C Q=>∃(pts:List Pt) (x:Pt),ts=[.tup (pts.map Pt.pv),.str x.name]/\pts.length<=6/\(bZ pts).Nodup/\x∈pts/\∀C',Gr C C'->Q x.pv C'
theorem rL (T:Txt P w K mg a):FnOk P w K mg base CX0 1 (a.f 25) (a.d 25) U16 (spC K gNamed):=by
 have S:=(T.F 25 rfl).s;refine(T.F 25 rfl).ok (fun ts C R h=>?_) fun cdv A outer s H E hr=>⟨_,(kQ (cQ (cx (qG rfl (S.c (by decide +kernel)) (S.k rfl rfl rfl (by decide +kernel)) (aY (cv 0)) (fun _ _ _ _ _=>(K7 (ct2 cX kX (cx (cv 0) zQ) (cv 2)))) (fun _ _ _ _ _=>(cv 0))) zQ))),?_⟩
 .obtain ⟨pts,x,rfl,_⟩:=h; rfl
 rintro ts C R ⟨pts,x,rfl,hl,nd,hx,q⟩;refine qE (isNm x.name) _ [] C (fun y hy K hK=>?_) (fun y hy L hL=>hL) (by rw[AA]; show 0+pts.length<=1000; omega) fun p hp=>?_
 .obtain ⟨z,hz,rfl⟩:=Ab.1 hy
  refine hX (xs:=[.str z.name,.tup (z.first.map rQ),.tup (z.works.map lV),.tup (Ln.pvs z.ls)]) sQ ?_;refine mX (lQ _ _) ?_;exact hK
 .rw [Cy,yN nd hx rfl]
  refine mJ jQ sQ ?_;exact q _ (Gr.new hp _)
def gAns:GC:=fun ts C Q=>∃(pts:List Pt) (vv:Addr) (V:Vl) (x:Prt) (y:Pt),ts=[.tup (pts.map Pt.pv),.ref vv,x.pv]/\pts.length<=6/\(bZ pts).Nodup/\y∈pts/\y.name=x.name/\C vv=some (.dP (vlP V))/\(x.gives.length<=4/\x.downs.length<=60/\(kZ V y x.path).length<=4) /\
 ∀aa C',C aa=none->C' aa=some (.dT (gG x (kZ V y x.path)))->Gr C C'->Q (.ref aa) C'
theorem fA (T:Txt P w K mg a):FnOk P w K mg base CX0 2 (a.f 26) (a.d 26) U2 (spC K gAns):=by
 have S:=(T.F 26 rfl).s;have bY:=rL (base:=base) T
 refine(T.F 26 rfl).ok (fun ts C R h=>?_) fun cdv A outer s H E hr=>⟨_,(xQ (kP (cv 2) (iY rfl (jX (cg1 3 S.nd) (jX (cg1 4 S.nd) (jX (cg1 5 S.nd) (jX (cg1 6 S.nd) uV))))))
  (xQ (cs1 7 S.nd (cx (cf (T.F 25 rfl) bY hr (qQ (cv 0) (ca1 (cv 4)))) zQ))
  (xQ (uX (cw_pt (cw_and (xP (op_pin (vK hr)) cop_pin (cv 3) (cv 1) rfl) (cw_and1 (ct2 cX kX (cx (xF (vK hr) (cv 1) (cv 3) (fun _ _=>rfl)) zQ) (cv 4))))) (kQ (cs1 7 S.nd (cx (xF (vK hr) (cv 1) (cv 3) (fun _ _=>rfl)) zQ))) aQ)
  (xQ (cs1 8 S.nd Q8)
  (xQ (mW PassesOwn.never rfl (nX (qQ (bQ (qQ vQ (ca1 (cv 5)))) (qQ (bQ (qQ vQ (ca1 (cv 6)))) (ca1 (bQ (qQ vQ (ca1 (cv 7)))))))) (iY rfl (jX (cg1 9 S.nd) (jX (cg1 10 S.nd) uV))) (kQ (oY PassesOwn.never rfl (cv 10) (iY rfl (jX (cg1 11 S.nd) (jX (cg1 12 S.nd) uV))) (kQ (Q6 (rX hr) (cv 8) (bQ (qQ (cv 9) (ca1 (cv 11)))) (cv 12))))))
  (kQ (cQ (cv 8)))))))),?_⟩
 .obtain ⟨pts,vv,V,x,y,rfl,_⟩:=h; rfl
 rintro ts C R ⟨pts,vv,V,x,y,rfl,hl,nd,hy,hn,hv,⟨l1,l2,l3⟩,q⟩;refine dX ?_;refine⟨rfl,?_⟩;refine fX (fX (fX (fX (sY ?_))))
 try dsimp only
 refine yQ ?_;refine⟨pts,y,by rw[hn],hl,nd,hy,fun C1 g1=>?_⟩;refine hX (xs:=[.str y.name,.tup (y.first.map rQ),.tup (y.works.map lV),.tup (Ln.pvs y.ls)]) (v:=.tup (y.first.map rQ)) rfl ?_
 try dsimp only
 have v1:=g1 _ _ hv;refine vX (fun ρ' C'=>C'=C1/\ρ'=[some (.tup (pts.map Pt.pv)),some (.ref vv),some x.pv,some (fQ x.path),some (.str x.name),some (.tup (x.gives.map rQ)),some (.tup (x.downs.map rQ)),some (.tup ((kZ V y x.path).map rQ)),none,none,none,none,none]) (fun L hL=>?_) ?_
 .refine pin_s v1 (aZ _) ?_
  rw[lE];unfold kZ at hL
  cases e:sL V x.path with
  |none =>
   rw[e] at hL;refine vZ rfl ?_;refine jM rfl ?_;refine bX ?_;exact hL _ _ ⟨rfl,rfl⟩
  |some v =>
   rw[e] at hL;dsimp only at hL;refine lW rfl ?_;refine nH v1 (aZ _) (v:=vPV v) (by rw[lE,e]; rfl) ?_;refine hX (xs:=[.str v.1,.tup (v.2.map rQ)]) sQ ?_;refine mX (lQ _ _) ?_
   by_cases h:v.1=x.name
   .rw [AW (h.trans hn.symm)] at hL
    refine lW (Af h) ?_;refine nH v1 (aZ _) (v:=vPV v) (by rw[lE,e]; rfl) ?_;refine hX (xs:=[.str v.1,.tup (v.2.map rQ)]) (v:=.tup (v.2.map rQ)) rfl ?_;exact hL _ _ ⟨rfl,rfl⟩
   .rw [AT (fun z=>h (z.trans hn))] at hL
    refine vZ (AS h) ?_;refine bX ?_;exact hL _ _ ⟨rfl,rfl⟩
 generalize hbx:kZ V y x.path=bx at l3 q;rintro ρ' C' ⟨rfl,rfl⟩
 try dsimp only
 refine yQ ?_;intro aa haa;have haa0:C aa=none:=oK g1 haa
 try dsimp only
 refine vX (fun ρ' C''=>∃(x9 x10 x11 x12:Option PV),ρ'=[some (.tup (pts.map Pt.pv)),some (.ref vv),some x.pv,some (fQ x.path),some (.str x.name),some (.tup (x.gives.map rQ)),some (.tup (x.downs.map rQ)),some (.tup (bx.map rQ)),some (.ref aa),x9,x10,x11,x12]/\C'' aa=some (.dT (gG x bx))/\Gr C C'') (fun L hL=>?_) ?_
 .refine ⟨zz 2 rfl,?_⟩
  refine⟨zz 2 rfl,?_⟩;refine⟨zz 2 rfl,?_⟩;refine⟨zz 3 rfl,fun p hp=>?_⟩;have npa:p≠aa:=fun z=>by subst z; rw[jQ] at hp; cases hp
  have hp0:C p=none:=by rw[wQ npa] at hp; exact oK g1 hp
  refine⟨4,?_⟩
  have hlen:∀i,(cM ((uF x bx).take i) []).length<=100:=by
   intro i;have f1:=pV (s:="take") x.gives [];have f2:=pV (s:="down") x.downs (uJ "take" x.gives []);have f3:=pV (s:="box") bx (uJ "down" x.downs (uJ "take" x.gives []));have f1:(uJ "take" x.gives []).length<=0+x.gives.length:=f1
   match i with
   |0=>exact AV _
   |1=>show(uJ "take" x.gives []).length<=100; omega
   |2=>show(uJ "down" x.downs (uJ "take" x.gives [])).length<=100; omega
   |i+3=>rw[A6 (by show 3<=i+3; omega)]; show(uJ "box" bx (uJ "down" x.downs (uJ "take" x.gives []))).length<=100; omega
  refine tK (xs:=(uF x bx).map srPV) (fun i ρ C'=>C' p=some (.lst ((uF x bx).map srPV))/\∃(x9 x10 x11 x12:Option PV),ρ=[some (.tup (pts.map Pt.pv)),some (.ref vv),some x.pv,some (fQ x.path),some (.str x.name),some (.tup (x.gives.map rQ)),some (.tup (x.downs.map rQ)),some (.tup (bx.map rQ)),some (.ref aa),x9,x10,x11,x12]/\C' aa=some (.dT (cM ((uF x bx).take i) []))/\Gr C C') (fun _ _ _ h=>h.1) ?_ ?_ _ 0 _ _ ⟨jQ,_,_,_,_,rfl,by rw[wQ (Ne.symm npa)]; exact jQ,sW (sW g1 haa0 _) hp0 _⟩ rfl (AV _)
  .rintro i z ρ C3 hx ⟨m3,x9,x10,x11,x12,rfl,ma,g3⟩ L1 hL1
   rw[Aj] at hx
   cases he:(uF x bx)[i]? with
   |none=>rw[he] at hx; cases hx
   |some e =>
   rw[he] at hx;cases hx;have hi:i < (uF x bx).length:=(AU.1 he).1
   have hel:e.2.length<=60:=by
    have hm:=Al he;unfold uF at hm
    simp only[List.mem_cons,List.not_mem_nil,or_false] at hm
    rcases hm with rfl | rfl | rfl
    .show x.gives.length<=60; omega
    .exact l2
    .show bx.length<=60; omega
   refine⟨rfl,?_⟩;refine fX (fX (sY ?_))
   try dsimp only
   refine vB rfl ?_;refine eZ (fun zs ρ C'=>∃(us vs:List (Str×Int)) (x11 x12:Option PV),e.2=us++vs/\zs=vs.map rQ/\ρ=[some (.tup (pts.map Pt.pv)),some (.ref vv),some x.pv,some (fQ x.path),some (.str x.name),some (.tup (x.gives.map rQ)),some (.tup (x.downs.map rQ)),some (.tup (bx.map rQ)),some (.ref aa),some (.str e.1),some (.tup (e.2.map rQ)),x11,x12]/\C' p=some (.lst ((uF x bx).map srPV))/\C' aa=some (.dT (uJ e.1 us (cM ((uF x bx).take i) [])))/\Gr C C') ?_ ?_ _ _ _ ⟨[],e.2,_,_,rfl,rfl,rfl,m3,ma,g3⟩
   .rintro z zs ρ C4 ⟨us,vs,y11,y12,eu,hz,rfl,m4,ma4,g4⟩ L2 hL2
    cases vs with
    |nil=>cases hz
    |cons v vs =>
    obtain⟨rfl,rfl⟩:=A4 hz;refine⟨rfl,?_⟩;refine fX (fX (sY ?_))
    try dsimp only
    refine⟨zz 2 rfl,?_⟩;have hul:us.length<=e.2.length:=by rw[eu,AC]; omega
    refine ZJ (k:=qK e.1 v.1) ma4 rfl (by have:=pV (s:=e.1) us (cM ((uF x bx).take i) []); have:=hlen i; omega) ?_;refine hL2 _ _ ⟨us++[v],vs,_,_,by rw[AK]; exact eu,rfl,rfl,by rw[wQ npa]; exact m4,?_,sW g4 haa0 _⟩;rw[jQ];unfold uJ;rw[BZ]
    rfl
   .rintro ρ C4 ⟨us,vs,y11,y12,eu,hz,rfl,m4,ma4,g4⟩
    cases vs with
    |cons v vs=>cases hz
    |nil =>
    rw[AZ] at eu;subst eu;refine hL1 _ _ ⟨m4,_,_,_,_,rfl,?_,g4⟩;rw[ma4];have et:(uF x bx).take (i+1)=(uF x bx).take i++[e]:=by rw[Bl,he]; rfl
    rw[et];unfold cM;rw[BZ]
    rfl
  .rintro ρ C3 ⟨m3,x9,x10,x11,x12,rfl,ma,g3⟩
   exact hL _ _ ⟨_,_,_,_,rfl,ma,g3⟩
 rintro ρ' C3 ⟨x9,x10,x11,x12,rfl,ma,g3⟩
 try dsimp only
 exact q aa C3 haa0 ma g3
end
structure En where
 x:Prt
 pc:Pc
def En.pv (e:En):PV:=.tup [fQ e.x.path,.str e.x.name,.tup (e.x.gives.map rQ),.tup (e.x.downs.map rQ),e.pc.pv]
def fL (pts:List Pt)(nm:Str):Pt:=(pts.find? fun y=>decide (y.name=nm)).getD ⟨"",[],[],[]⟩
theorem QG {nm:Str}:∀{pts:List Pt}{y:Pt},(bZ pts).Nodup->y∈pts->y.name=nm->fL pts nm=y
 |[],y,_,m,_=>nomatch m
 |z::pts,y,nd,m,e=>by
  have nd:(z.name::bZ pts).Nodup:=nd;rw[Am] at nd;unfold fL;rw[Ap]
  rcases Ah.1 m with rfl | m
  .rw [Af e]; rfl
  .have ne:¬ z.name=nm:=fun h=>nd.1 (by rw[h,<- e]; exact Ab.2 ⟨y,m,rfl⟩)
   rw[AS ne];exact QG nd.2 m e
def kW (pts:List Pt)(V:Vl)(x:Prt):Pc:=pcOf (gG x (kZ V (fL pts x.name) x.path)) (fL pts x.name)
def tJ (x q:Prt):Prt:=⟨x.path++q.path,q.name,q.gives,rV x.downs q.downs⟩
noncomputable def dr (pts:List Pt)(V:Vl):Nat->Prt->List En
 |0,_=>[]
 |n+1,x=>⟨x,kW pts V x⟩::(Wt.prts (kW pts V x).row [] []).flatMap fun q=>dr pts V n (tJ x q)
structure qD (pts:List Pt)(k:Nat)(x:Prt):Prop where
 nm:(bZ pts)[k]?=some x.name
 gl:x.gives.length<=4
 gb:SBd x.gives
 db:SBd x.downs
 pl:x.path.length<=6 * k
 dl:x.downs.length<=6 * k
structure AtK (pts:List Pt)(V:Vl)(k:Nat)(x:Prt)(y:Pt):Prop where
 mem:y∈pts
 nm:y.name=x.name
 is:fL pts x.name=y
 ok:Zu ((bZ pts).drop (k+1)) (eJ pts.length k) y
 ab:ABd (gG x (kZ V y x.path))
 row:Xo ((bZ pts).drop (k+1)) 6 (kW pts V x).row
 pcs:Wt.pcs (kW pts V x).row<=eJ pts.length k
 wcs:Wt.wcs (kW pts V x).row<=48
theorem bE {pts:List Pt}(hs:gB pts){V:Vl}(hV:VOk V){k:Nat}{x:Prt}(h:qD pts k x):∃y,AtK pts V k x y:=by
 have hk:=h.nm;unfold bZ at hk;rw[Aj] at hk
 cases e:pts[k]? with
 |none=>rw[e] at hk; cases hk
 |some y =>
  rw[e] at hk;have hn:y.name=x.name:=Ar hk;have hm:=Al e;have ip:=QG hs.nd hm hn;have ok:=hs.ok k y e;have hb:=uE hV ok x.path;have ab:=ans_bd h.gb h.db hb.1;refine⟨y,hm,hn,ip,ok,ab,?_,?_,?_⟩
  .unfold kW
   rw[ip];exact row_ok ok.ls ⟨ab,(fun _ z=>nomatch z),(fun _ z=>nomatch z),by rw[AA]; exact ok.fl⟩
  .unfold kW
   rw[ip];have:=zW (gG x (kZ V y x.path)) y.ls [] ([],[],[]);have this:Wt.pcs (oQ (gG x (kZ V y x.path)) y.ls [] ([],[],[])).1<=0+Ln.pws y.ls:=this;show Wt.pcs (oQ (gG x (kZ V y x.path)) y.ls [] ([],[],[])).1<=eJ pts.length k;have:=ok.pw;omega
  .unfold kW
   rw[ip];have:=qW (gG x (kZ V y x.path)) y.ls [] ([],[],[]);have this:Wt.wcs (oQ (gG x (kZ V y x.path)) y.ls [] ([],[],[])).1<=0+Ln.tws y.ls:=this;show Wt.wcs (oQ (gG x (kZ V y x.path)) y.ls [] ([],[],[])).1<=48;have:=ok.tw;omega
theorem aV {pts:List Pt}{V:Vl}{k:Nat}{x:Prt}{y:Pt}(h:qD pts k x)(ha:AtK pts V k x y){q:Prt}(hq:q∈Wt.prts (kW pts V x).row [] []):∃k',k < k'/\qD pts k' (tJ x q)/\q.path≠[]/\q.path.length<=6/\q.downs.length<=6:=by
 have o:=(QD 6 _ [] [] ha.row (fun _ z=>nomatch z)).1 q hq;obtain⟨u,e,un,ul⟩:=o.path;have e:q.path=u:=e;obtain⟨j,hj,ej⟩:=Bw o.name;have hd:q.downs.length<=0+6:=o.dl;refine⟨k+1+j,by omega,⟨?_,o.gl,o.gb,h.db.over o.db,?_,?_⟩,by rw[e]; exact un,by rw[e]; exact ul,by omega⟩
 .have:((bZ pts).drop (k+1))[j]?=some q.name:=by rw[AM hj,ej]
  rw[List.getElem?_drop] at this;exact this
 .show (x.path++q.path).length<=_
  rw[AC,e];have:=h.pl;omega
 .have:=nM x.downs q.downs
  have:=h.dl;show(rV x.downs q.downs).length<=_;omega
theorem QW {α β:Type}{f:α->List β}{b:Nat}:∀(l:List α),(∀x∈l,(f x).length<=b)->(l.flatMap f).length<=l.length * b
 |[],_=>by simp
 |x::l,h=>by
  have h1:=QW l fun y hy=>h y (AG _ hy);have h2:=h x AD;rw[Av,AC,AI,DH,Nat.one_mul];omega
def lbd (m k:Nat):Nat:=if k=0 then 559 else 2 ^ m - 1
theorem dr_len {pts:List Pt}(hs:gB pts){V:Vl}(hV:VOk V):∀(n k:Nat) (x:Prt),qD pts k x->(dr pts V n x).length<=lbd (pts.length - k) k:=by
 intro n
 induction n with
 |zero=>intro k x _; exact AV _
 |succ n ih =>
  intro k x h;obtain⟨y,ha⟩:=bE hs hV h
  have hkl:k < pts.length:=by
   have:=(AU.1 h.nm).1;unfold bZ at this;rw[AA] at this;exact this
  have hN:=hs.n6
  have h1:(dr pts V (n+1) x).length<=1+eJ pts.length k * (2 ^ (pts.length - k - 1) - 1):=by
   rw[dr,AI]
   have hf:=QW (f:=fun q=>dr pts V n (tJ x q)) (b:=2 ^ (pts.length - k - 1) - 1) (Wt.prts (kW pts V x).row [] []) fun q hq=>by
    obtain⟨k',hk',dq,_⟩:=aV h ha hq;have:=ih k' (tJ x q) dq;unfold lbd at this;rw[AT (by omega)] at this;have hp:2 ^ (pts.length - k')<=2 ^ (pts.length - k - 1):=BL (by decide) (by omega);omega
   rw[cV] at hf;have:Wt.pcs (kW pts V x).row * (2 ^ (pts.length - k - 1) - 1)<=eJ pts.length k * (2 ^ (pts.length - k - 1) - 1):=A2 _ ha.pcs;omega
  unfold lbd
  replace h1:=Ae h1 (Nat.add_le_add_left (A2 _ (show eJ pts.length k<=if k=0 then 18 else 2 by have:=mR pts.length k; split<;>omega)) 1)
  split
  .next hk0 =>
   rw[AW hk0] at h1;have hp:2 ^ (pts.length - k - 1)<=2 ^ 5:=BL (by decide) (by omega);have:(2:Nat) ^ 5=32:=rfl;omega
  .next hk0 =>
   rw[AT hk0] at h1;have e:pts.length - k=(pts.length - k - 1)+1:=by omega
   rw[e,BG];have:1<=2 ^ (pts.length - k - 1):=Nat.one_le_two_pow;have e2:pts.length - k - 1+1 - 1=pts.length - k - 1:=by omega
   omega
theorem KK {pts:List Pt}(hs:gB pts){V:Vl}(hV:VOk V){n k:Nat}{x:Prt}(h:qD pts k x):(dr pts V n x).length<=559:=by
 have:=dr_len hs hV n k x h;unfold lbd at this
 split at this
 .exact this
 .have hN:=hs.n6
  have hp:2 ^ (pts.length - k)<=2 ^ 6:=BL (by decide) (by omega);have:(2:Nat) ^ 6=64:=rfl;omega
section
variable {P:Program}{w:World}{K:DK}{mg:Str->Option Value}{base:Heap}{a:Adr}
def gWi (n:Nat):GC:=fun ts C Q=>∃(pts:List Pt) (vv:Addr) (V:Vl) (x:Prt) (k:Nat),ts=[.tup (pts.map Pt.pv),.ref vv,x.pv]/\gB pts/\VOk V/\C vv=some (.dP (vlP V))/\qD pts k x/\pts.length<=k+n /\
 ∀p C',C p=none->C' p=some (.lst ((dr pts V n x).map En.pv))->Gr C C'->Q (.ref p) C'
theorem XI (T:Txt P w K mg a)(n:Nat):FnOk P w K mg base CX0 (n+30) (a.f 27) (a.d 27) U2 (spC K (gWi n)):=by
 induction n with
 |zero =>
  refine iZ fun ts C Q zq=>?_;obtain⟨pts,vv,V,x,k,_,_,_,_,d,l,_⟩:=zq;have:=(AU.1 d.nm).1;unfold bZ at this;rw[AA] at this;omega
 |succ n ih =>
 have S:=(T.F 27 rfl).s;have bY:=(rL (base:=base) T).mono (show 1<=n+30 by omega);have pE:=(fA (base:=base) T).mono (show 2<=n+30 by omega);have G_drawn:=(JN (base:=base) T).mono (show 29<=n+30 by omega);have pU:=(JC (base:=base) T 6).mono (show 8<=n+30 by omega);have oP:=(QJ (base:=base) T).mono (show 1<=n+30 by omega);have bB:=ih
 refine(T.F 27 rfl).ok (fun ts C R h=>?_) fun cdv A outer s H E hr=>⟨_,(xQ (cs1 3 S.nd (cf (T.F 6 rfl) G_drawn hr (qQ (cf (T.F 25 rfl) bY hr (qQ (cv 0) (ca1 (cx (cv 2) zQ)))) (ca1 (cf (T.F 26 rfl) pE hr (qQ (cv 0) (qQ (cv 1) (ca1 (cv 2)))))))))
  (xQ (cs1 4 S.nd (nX (ca1 (iQ yX gX (cv 2) (bQ (ca1 (cv 3)))))))
  (xQ (mW PassesOwn.never rfl (cf (T.F 24 rfl) pU hr (qQ (cx (cv 3) zQ) (qQ (bQ eX) (ca1 (bQ eX))))) (iY rfl (jX (cg1 5 S.nd) (jX (cg1 6 S.nd) (jX (cg1 7 S.nd) (jX (cg1 8 S.nd) uV))))) (kQ (cs1 4 S.nd (iQ yX gX (cv 4) (cf (T.F 27 rfl) bB hr (qQ (cv 0) (qQ (cv 1) (ca1 (bQ (qQ (iQ yX gX (cx (cv 2) zQ) (cv 5)) (qQ (cv 6) (qQ (cv 7) (ca1 (cf (T.F 23 rfl) oP hr (qQ (cx (cv 2) zQ) (ca1 (cv 8)))))))))))))))))
  (kQ (cQ (cv 4)))))),?_⟩
 .obtain ⟨pts,vv,V,x,k,rfl,_⟩:=h; rfl
 rintro ts C R ⟨pts,vv,V,x,k,rfl,hs,hV,hv,du,hn,q⟩;obtain⟨y,ha⟩:=bE hs hV du
 have hkl:k < pts.length:=by
  have:=(AU.1 du.nm).1;unfold bZ at this;rw[AA] at this;exact this
 have hN:=hs.n6;have hx:x.pv=.tup [fQ x.path,.str x.name,.tup (x.gives.map rQ),.tup (x.downs.map rQ)]:=rfl;have hb:=uE hV ha.ok x.path;refine yQ ?_;refine tQ hx (v:=.str x.name) rfl ?_;refine⟨pts,y,by rw[ha.nm],hN,hs.nd,ha.mem,fun C1 g1=>?_⟩;refine⟨pts,vv,V,x,y,rfl,hN,hs.nd,ha.mem,ha.nm,g1 _ _ hv,⟨du.gl,by have:=du.dl; omega,hb.2⟩,fun aa C2 na ma g2=>?_⟩;refine⟨y,aa,_,_,_,rfl,ha.ok,ma,ha.ab,fun C3 g3=>?_⟩
 have ep:pcOf (gG x (kZ V y x.path)) y=kW pts V x:=by unfold kW; rw[ha.is]
 rw[ep]
 try dsimp only
 generalize hpc:kW pts V x=pc;have rowk:=ha.row;have pck:=ha.pcs;rw[hpc] at rowk pck;refine yQ ?_;refine⟨zz 1 rfl,?_⟩;refine nF (by show 4+1<=sizeLine; decide) ?_;refine⟨zz 1 rfl,fun f0 hf0=>?_⟩;have g03:Gr C C3:=(g1.trans g2).trans g3;have nf0:C f0=none:=oK g03 hf0;have g4:Gr C (uQ C3 f0 (.lst [En.pv ⟨x,pc⟩])):=sW g03 nf0 _;have m4:uQ C3 f0 (.lst [En.pv ⟨x,pc⟩]) f0=some (.lst [En.pv ⟨x,pc⟩]):=jQ
 show lR _ _ _ _ (uQ C3 f0 (.lst [En.pv ⟨x,pc⟩]));generalize uQ C3 f0 (.lst [En.pv ⟨x,pc⟩])=C4 at g4 m4 ⊢
 try dsimp only
 refine dX ?_;refine hX (xs:=[.tup (pc.reads.map tU),.tup (Wt.pvs pc.row),.tup (pc.works.map rQ)]) (v:=.tup (Wt.pvs pc.row)) rfl ?_;refine⟨zz 0 rfl,?_⟩;refine⟨zz 0 rfl,?_⟩;have hcap:eJ pts.length k<=18:=(mR _ _).1;refine⟨pc.row,[],[],_,rfl,rowk,by show 0+6<=50; decide,by show 0+6<=50; decide,by omega,fun pl C5 npl m5 g5=>?_⟩;have hpl:C pl=none:=oK g4 npl;have g45:Gr C C5:=g4.trans g5
 refine⟨(Wt.prts pc.row [] []).length+1,?_⟩;have etot:dr pts V (n+1) x=⟨x,pc⟩::(Wt.prts pc.row [] []).flatMap fun q=>dr pts V n (tJ x q):=by rw[dr,hpc]
 have hlen:=KK hs hV (n:=n+1) du;refine tK (xs:=(Wt.prts pc.row [] []).map Prt.pv) (fun i ρ C'=>C' pl=some (.lst ((Wt.prts pc.row [] []).map Prt.pv))/\∃(ff:Addr) (x5 x6 x7 x8:Option PV),i<=(Wt.prts pc.row [] []).length/\ρ=[some (.tup (pts.map Pt.pv)),some (.ref vv),some x.pv,some pc.pv,some (.ref ff),x5,x6,x7,x8]/\C ff=none/\C' ff=some (.lst ((⟨x,pc⟩::((Wt.prts pc.row [] []).take i).flatMap fun q=>dr pts V n (tJ x q)).map En.pv))/\Gr C C') (fun _ _ _ h=>h.1) ?_ ?_ _ 0 _ _ ⟨m5,f0,_,_,_,_,AV _,rfl,nf0,g5 _ _ m4,g45⟩ (by rw[AA]; omega) (AV _)
 .rintro i z ρ C6 hz ⟨m6,ff,x5,x6,x7,x8,hi,rfl,nff,mf,g6⟩ L hL
  rw[Aj] at hz
  cases he:(Wt.prts pc.row [] [])[i]? with
  |none=>rw[he] at hz; cases hz
  |some pq =>
  rw[he] at hz;cases hz;have hmem:pq∈Wt.prts pc.row [] []:=Al he;have hi':i < (Wt.prts pc.row [] []).length:=(AU.1 he).1;obtain⟨k',hk',dq,pn,pl6,dl6⟩:=aV du ha (q:=pq) (by rw[hpc]; exact hmem);refine⟨rfl,?_⟩;refine fX (fX (fX (fX (sY ?_))))
  try dsimp only
  refine tQ hx (v:=fQ x.path) rfl ?_;have hpl2:=du.pl;have hdl2:=du.dl;refine nF (xK (by rw[AA,AA]; omega)) ?_;refine tQ hx (v:=.tup (x.downs.map rQ)) rfl ?_;refine⟨x.downs,pq.downs,rfl,by omega,fun C7 g7=>⟨zz 4 rfl,?_⟩⟩
  have ec:PV.tup [PV.tup (x.path.map aJ++pq.path.map aJ),.str pq.name,.tup (pq.gives.map rQ),.tup ((rV x.downs pq.downs).map rQ)]=(tJ x pq).pv:=by
   unfold tJ Prt.pv fQ;rw[AQ]
  rw[ec];refine⟨pts,vv,V,tJ x pq,k',rfl,hs,hV,g7 _ _ (g6 _ _ hv),dq,by omega,fun p8 C8 n8 m8 g8=>?_⟩;have et:(Wt.prts pc.row [] []).take (i+1)=(Wt.prts pc.row [] []).take i++[pq]:=by rw[Bl,he]; rfl
  have en:(⟨x,pc⟩::((Wt.prts pc.row [] []).take (i+1)).flatMap fun q=>dr pts V n (tJ x q)).map En.pv=(⟨x,pc⟩::((Wt.prts pc.row [] []).take i).flatMap fun q=>dr pts V n (tJ x q)).map En.pv++(dr pts V n (tJ x pq)).map En.pv:=by
   rw[et,Ba,Av,List.flatMap_nil,AZ,<- AQ]
   rfl
  have hle:((⟨x,pc⟩::((Wt.prts pc.row [] []).take (i+1)).flatMap fun q=>dr pts V n (tJ x q)):List En).length<=559:=by
   refine Ae ?_ hlen;rw[etot,AI,AI]
   have:((Wt.prts pc.row [] []).flatMap fun q=>dr pts V n (tJ x q))=(((Wt.prts pc.row [] []).take (i+1)).flatMap fun q=>dr pts V n (tJ x q))++((Wt.prts pc.row [] []).drop (i+1)).flatMap fun q=>dr pts V n (tJ x q):=by
    rw[<- Ba,DE]
   rw[this,AC];omega
  refine sF (g8 _ _ (g7 _ _ mf)) m8 (xK ?_) fun p9 p90=>?_
  .rw [<- AC,<- en,AA]; omega
  have g68:Gr C C8:=(g6.trans g7).trans g8;refine hL _ _ ⟨Gr.new p90 _ _ _ (g8 _ _ (g7 _ _ m6)),p9,_,_,_,_,hi',rfl,oK g68 p90,by rw[jQ,en],g68.trans (Gr.new p90 _)⟩
 .rintro ρ C6 ⟨m6,ff,x5,x6,x7,x8,hi,rfl,nff,mf,g6⟩
  refine q ff C6 nff ?_ g6;rw[mf,etot,AA,A6 (AJ _)]
end
theorem KJ {pts:List Pt}(hs:gB pts){V:Vl}(hV:VOk V):∀(n k:Nat) (x:Prt),qD pts k x->∀e∈dr pts V n x,∃k',qD pts k' e.x/\e.pc=kW pts V e.x:=by
 intro n
 induction n with
 |zero=>intro k x _ e he; exact nomatch he
 |succ n ih =>
  intro k x h e he;rw[dr] at he
  rcases Ah.1 he with rfl | he
  .exact ⟨k,h,rfl⟩
  .obtain ⟨q,hq,he⟩:=Bq.1 he
   obtain⟨y,ha⟩:=bE hs hV h;obtain⟨k',_,dq,_⟩:=aV h ha hq;exact ih k' _ dq e he
theorem KH {pts:List Pt}{V:Vl}:∀(n:Nat) (x:Prt),∀e∈dr pts V n x,∃u,e.x.path=x.path++u:=by
 intro n
 induction n with
 |zero=>intro x e he; exact nomatch he
 |succ n ih =>
  intro x e he;rw[dr] at he
  rcases Ah.1 he with rfl | he
  .exact ⟨[],by rw[AZ]⟩
  .obtain ⟨q,hq,he⟩:=Bq.1 he
   obtain⟨u,eu⟩:=ih _ e he;exact⟨q.path++u,by rw[eu]; show(x.path++q.path)++u=_; rw[AK]⟩
def pathsOf (es:List En):List mQ:=es.map fun e=>e.x.path
theorem QV {α:Type}{f:α->List En}{g:α->mQ}:∀(l:List α),l.Pairwise (fun x y=>Div (g x) (g y))->(∀x∈l,(pathsOf (f x)).Nodup/\∀e∈f x,∃u,e.x.path=g x++u)->(pathsOf (l.flatMap f)).Nodup
 |[],_,_=>BM
 |x::l,hp,h=>by
  rw[List.pairwise_cons] at hp;have ih:=QV l hp.2 fun y hy=>h y (AG _ hy);obtain⟨h1,h2⟩:=h x AD;unfold pathsOf at *
  rw[Av,AQ,A8];refine⟨h1,ih,fun a ha b hb e=>?_⟩;obtain⟨e1,he1,rfl⟩:=Ab.1 ha;obtain⟨e2,he2,rfl⟩:=Ab.1 hb;obtain⟨y,hy,he2⟩:=Bq.1 he2;obtain⟨u,eu⟩:=h2 e1 he1;obtain⟨v,ev⟩:=(h y (AG _ hy)).2 e2 he2;have d:=(hp.1 y hy).ext u v;rw[<- eu,<- ev] at d;exact d.ne e
theorem KI {pts:List Pt}(hs:gB pts){V:Vl}(hV:VOk V):∀(n k:Nat) (x:Prt),qD pts k x->(pathsOf (dr pts V n x)).Nodup:=by
 intro n
 induction n with
 |zero=>intro k x _; exact BM
 |succ n ih =>
  intro k x h;obtain⟨y,ha⟩:=bE hs hV h;rw[dr];show(x.path::pathsOf _).Nodup;rw[Am];have pw:=(QD 6 _ [] [] ha.row (fun _ z=>nomatch z)).2;refine⟨fun hm=>?_,?_⟩
  .obtain ⟨e,he,ee⟩:=Ab.1 hm
   obtain⟨q,hq,he⟩:=Bq.1 he;obtain⟨u,eu⟩:=KH n _ e he;obtain⟨k',_,_,qn,_⟩:=aV h ha hq;rw[eu] at ee;have ee:(x.path++q.path)++u=x.path:=ee;have:=BE List.length ee;rw[AC,AC] at this;have:0 < q.path.length:=List.length_pos_iff.2 qn;omega
  .refine QV (g:=fun q=>(tJ x q).path) _ (pw.imp fun {a b} d=>?_) fun q hq=>?_
   .obtain ⟨c,u,v,p',q',e1,e2,n⟩:=d
    exact⟨x.path++c,u,v,p',q',by show x.path++a.path=_; rw[e1,AK],by show x.path++b.path=_; rw[e2,AK],n⟩
   .obtain ⟨k',_,dq,_⟩:=aV h ha hq
    exact⟨ih k' _ dq,KH n _⟩
def root (pts:List Pt):Prt:=⟨[],(pts.head?.map (·.name)).getD "",[],[]⟩
theorem sK {pts:List Pt}(hs:gB pts):qD pts 0 (root pts):=by
 have:=hs.n1
 cases pts with
 |nil=>exact absurd this (by show ¬ 1<=0; omega)
 |cons y pts=>exact⟨rfl,AV _,(fun _ z=>nomatch z),(fun _ z=>nomatch z),AV _,AV _⟩
def jZ (pts:List Pt)(V:Vl):List En:=dr pts V 6 (root pts)
noncomputable def qC (V:Vl)(p:mQ)(v:Str×List (Str×Int)):Vl:=if (V.any fun e=>decide (e.1=p))=true then V.map fun e=>if e.1=p then (e.1,v) else e else V++[(p,v)]
theorem Z7 (V:Vl)(p:mQ)(v:Str×List (Str×Int)):putG (vlP V) p (vPV v)=vlP (qC V p v):=by
 have h1:((vlP V).any fun kv=>decide (kv.1=p))=V.any fun e=>decide (e.1=p):=by
  unfold vlP;rw[List.any_map]
  rfl
 unfold putG qC;rw[h1]
 split
 .unfold vlP
  rw[Bf,Bf];refine CN fun e _=>?_;show(if e.1=p then (e.1,vPV v) else (e.1,vPV e.2))=((if e.1=p then (e.1,v) else e).1,vPV (if e.1=p then (e.1,v) else e).2)
  split<;>rfl
 .unfold vlP
  rw[AQ]
  rfl
theorem QC {V:Vl}(h:VOk V)(p:mQ){v:Str×List (Str×Int)}(hb:SBd v.2)(hl:v.2.length<=4):VOk (qC V p v):=by
 have:∀e∈qC V p v,e.2=v\/e∈V:=by
  intro e he;unfold qC at he
  split at he
  .obtain ⟨x,hx,rfl⟩:=Ab.1 he
   split
   .exact .inl rfl
   .exact .inr hx
  .rcases An.1 he with he | he
   .exact .inr he
   .cases AH.1 he; exact .inl rfl
 refine⟨fun e he=>?_,fun e he=>?_⟩
 .rcases this e he with z | z
  .rw [z]; exact hb
  .exact h.b e z
 .rcases this e he with z | z
  .rw [z]; exact hl
  .exact h.l e z
theorem Jb (V:Vl)(p:mQ)(v:Str×List (Str×Int)):(qC V p v).length<=V.length+1:=by
 unfold qC
 split
 .rw [AA]; omega
 .rw [AC,AO]; exact AJ _
theorem VOk.nil:VOk []:=⟨fun _ z=>(nomatch z),fun _ z=>(nomatch z)⟩
section
variable {P:Program}{w:World}{K:DK}{mg:Str->Option Value}{base:Heap}{a:Adr}
def gFresh:GC:=fun ts C Q=>∃(pts:List Pt) (vv:Addr) (V:Vl),ts=[.tup (pts.map Pt.pv),.ref vv]/\gB pts/\VOk V/\C vv=some (.dP (vlP V))/\∀p C',C p=none->C' p=some (.lst ((jZ pts V).map En.pv))->Gr C C'->Q (.ref p) C'
theorem pT (T:Txt P w K mg a):FnOk P w K mg base CX0 37 (a.f 28) (a.d 28) U10 (spC K gFresh):=by
 have S:=(T.F 28 rfl).s;have bB:=XI (base:=base) T 6;refine(T.F 28 rfl).ok (fun ts C R h=>?_) fun cdv A outer s H E hr=>⟨_,(kQ (cQ (cf (T.F 27 rfl) bB hr (qQ (cv 0) (qQ (cv 1) (ca1 (bQ (qQ (bQ eX) (qQ (cx (cx (cv 0) zQ) zQ) (qQ (bQ eX) (ca1 (bQ eX)))))))))))),?_⟩
 .obtain ⟨pts,vv,V,rfl,_⟩:=h; rfl
 rintro ts C R ⟨pts,vv,V,rfl,hs,hV,hv,q⟩;have h6:=hs.n6;have rk:=sK hs
 cases pts with
 |nil=>exact absurd hs.n1 (by show ¬ 1<=0; omega)
 |cons y pts =>
 refine⟨zz 0 rfl,?_⟩;refine hX (xs:=(y::pts).map Pt.pv) (v:=y.pv) sQ ?_;refine hX (xs:=[.str y.name,.tup (y.first.map rQ),.tup (y.works.map lV),.tup (Ln.pvs y.ls)]) sQ ?_;refine⟨zz 0 rfl,?_⟩;refine⟨zz 0 rfl,?_⟩;refine⟨zz 4 rfl,?_⟩;exact⟨y::pts,vv,V,root (y::pts),0,rfl,hs,hV,hv,rk,by omega,fun p C' np mp g=>q p C' np mp g⟩
def gBoxes:GC:=fun ts C Q=>∃(t:Addr) (y:Pt) (ns:List Int),ts=[.ref t,y.pv]/\Tp C t ns/\y.first.length<=4/\∀bs C',SBd bs->bs.length<=4->Tp C' t ns->Ex t C C'->Q (.tup (bs.map rQ)) C'
theorem JQ (T:Txt P w K mg a):FnOk P w K mg base CX0 3 (a.f 29) (a.d 29) U6 (spC K gBoxes):=by
 have S:=(T.F 29 rfl).s;have lJ:=wU (base:=base) T;refine(T.F 29 rfl).ok (fun ts C R h=>?_) fun cdv A outer s H E hr=>⟨_,(kQ (cQ (ctp T.aX (kE rfl (show(["_law_name","_law_first","_law_tape_here","_law_part_here"]:List Str).Nodup by decide +kernel) (wY (N:=U6) (sc:=xX (top 38)) rfl rfl rfl (by decide +kernel)) (aY (cx (cv 1) zQ)) (fun _ _ _ _ _=>bJ) (fun _ _ _ _ _=>(bQ (qQ (cv 0) (ca1 (cf (T.F 10 rfl) lJ hr (ca1 (cv 2))))))))))),?_⟩
 .obtain ⟨t,y,ns,rfl,_⟩:=h; rfl
 rintro ts C R ⟨t,y,ns,rfl,hT,hl,q⟩;refine hX (xs:=[.str y.name,.tup (y.first.map rQ),.tup (y.works.map lV),.tup (Ln.pvs y.ls)]) (v:=.tup (y.first.map rQ)) rfl ?_;refine jF (fun zs acc C'=>∃(us:List (Str×Int)) (bs:List (Str×Int)),zs=us.map rQ/\acc=bs.map rQ/\SBd bs/\bs.length+us.length=y.first.length/\Tp C' t ns/\Ex t C C') ?_ ?_ _ _ _ ⟨y.first,[],rfl,rfl,(fun _ z=>nomatch z),BF _,hT,Ex.refl⟩
 .rintro z zs acc C1 ⟨us,bs,hz,rfl,hb,hlen,T1,e1⟩
  cases us with
  |nil=>cases hz
  |cons u us =>
  obtain⟨rfl,rfl⟩:=A4 hz;refine⟨[.str u.1,.int u.2],rfl,rfl,fun L hL=>?_⟩;rw[AI] at hlen;refine⟨t,ns,rfl,T1,fun i C2 i0 i1 T2 e2=>⟨zz 2 rfl,hL _ _ ⟨?_,us,bs++[(u.1,i)],rfl,by rw[AQ]; rfl,fun c hc=>?_,by rw[AC,AO]; omega,T2,e1.trans e2⟩⟩⟩
  .rw [AA]
   exact AR (show bs.length < 5 by omega) (by decide)
  .rcases An.1 hc with hc | hc
   .exact hb c hc
   .cases AH.1 hc; exact⟨i0,i1⟩
 .rintro acc C1 ⟨us,bs,hz,rfl,hb,hlen,T1,e1⟩ p hp
  cases us with
  |cons u us=>cases hz
  |nil =>
  have hlen:bs.length+0=y.first.length:=hlen;refine wJ jQ ?_;exact q bs _ hb (by omega) (T1.new hp _) (e1.trans (Ex.new hp _))
def gValues:GC:=fun ts C Q=>∃(t:Addr) (pts:List Pt) (ns:List Int),ts=[.ref t,.tup (pts.map Pt.pv)]/\Tp C t ns/\gB pts/\∀vv V C',VOk V->C vv=none->C' vv=some (.dP (vlP V))->vv≠t->Tp C' t ns->Ex t C C'->Q (.ref vv) C'
theorem XJ (T:Txt P w K mg a):FnOk P w K mg base CX0 38 (a.f 30) (a.d 30) U19 (spC K gValues):=by
 have S:=(T.F 30 rfl).s;have bF:=pT (base:=base) T;have gQ:=(pZ (base:=base) T).mono (show 1<=37 by decide);have bY:=(rL (base:=base) T).mono (show 1<=37 by decide);have nN:=(JQ (base:=base) T).mono (show 3<=37 by decide);have lJ:=(wU (base:=base) T).mono (show 2<=37 by decide)
 refine(T.F 30 rfl).ok (fun ts C R h=>?_) fun cdv A outer s H E hr=>⟨_,(xQ (cs1 2 S.nd gD)
  (xQ (mW PassesOwn.never rfl (cf (T.F 28 rfl) bF hr (qQ (cv 1) (ca1 gD))) (iY rfl (jX (cg1 3 S.nd) (jX (cg1 4 S.nd) (jX (cg1 5 S.nd) (jX (cg1 6 S.nd) (jX (cg1 7 S.nd) uV)))))) (xQ (cs1 8 S.nd (cf (T.F 8 rfl) gQ hr (qQ (cv 0) (ca1 zQ))))
  (kQ (uX (ct2 iB tY (cv 8) zQ) (xQ (cs1 9 S.nd (cf (T.F 25 rfl) bY hr (qQ (cv 1) (ca1 (cv 4)))))
  (xQ (uX (ct2 cX kX (cv 8) zQ) (kQ (cs1 9 S.nd (cx (cv 1) (cf (T.F 8 rfl) gQ hr (qQ (cv 0) (ca1 (cln T.vJ (cv 1)))))))) aQ)
  (kQ (wD (vK hr) (cv 2) (cv 3) (bQ (qQ (cx (cv 9) zQ) (ca1 (cf (T.F 29 rfl) nN hr (qQ (cv 0) (ca1 (cv 9))))))))))) aQ))))
  (xQ (uX (ct2 cX kX (cf (T.F 8 rfl) gQ hr (qQ (cv 0) (ca1 zQ))) zQ) (xQ (cs1 9 S.nd (cx (cv 1) (cf (T.F 8 rfl) gQ hr (qQ (cv 0) (ca1 (cln T.vJ (cv 1)))))))
  (kQ (wD (vK hr) (cv 2) (bQ (ca1 (bQ (qQ (cf (T.F 10 rfl) lJ hr (ca1 (cv 0))) (ca1 (cf (T.F 8 rfl) gQ hr (qQ (cv 0) (ca1 zQ)))))))) (bQ (qQ (cx (cv 9) zQ) (ca1 (cf (T.F 29 rfl) nN hr (qQ (cv 0) (ca1 (cv 9)))))))))) aQ)
  (kQ (cQ (cv 2)))))),?_⟩
 .obtain ⟨t,pts,ns,rfl,_⟩:=h; rfl
 rintro ts C R ⟨t,pts,ns,rfl,hT,hs,q⟩;have h6:=hs.n6;have h1:=hs.n1;refine yQ ?_;intro vv hvv;have nvt:=hT.ne hvv
 try dsimp only
 refine vX (fun ρ' C'=>∃(V:Vl) (x3 x4 x5 x6 x7 x8 x9:Option PV),ρ'=[some (.ref t),some (.tup (pts.map Pt.pv)),some (.ref vv),x3,x4,x5,x6,x7,x8,x9]/\VOk V/\V.length<=559/\C' vv=some (.dP (vlP V))/\Tp C' t ns/\Ex t C C') (fun L0 hL0=>?_) ?_
 rotate_left
 .rintro ρ' C3 ⟨V,x3,x4,x5,x6,x7,x8,x9,rfl,hV,hVl,mv,T3,e3⟩
  try dsimp only
  refine vX (fun ρ' C'=>∃(V:Vl) (x9:Option PV),ρ'=[some (.ref t),some (.tup (pts.map Pt.pv)),some (.ref vv),x3,x4,x5,x6,x7,x8,x9]/\VOk V/\C' vv=some (.dP (vlP V))/\Tp C' t ns/\Ex t C C') (fun L0 hL0=>?_) ?_
  .refine ⟨t,3,ns,rfl,T3,by decide,by decide,fun v C4 v00 v01 T4 e4=>?_⟩
   have mv4:=e4 _ _ nvt mv;refine mX (oX _ _) ?_;refine uZ (fun hb=>?_) fun hb=>?_
   .refine yQ ?_
    refine vO ?_;rw[AA];refine⟨t,_,ns,rfl,T4,by omega,by omega,fun j C6 j0 j1 T6 e6=>?_⟩
    obtain⟨y0,hy0⟩:∃y0,y0∈pts:=by
     cases pts with
     |nil=>exact absurd h1 (by show ¬ 1<=0; omega)
     |cons y _=>exact⟨y,AD⟩
    refine hX (gK (f:=Pt.pv) (ss:=pts) y0 j0 j1) ?_
    have hzp:pts.getD j.toNat y0∈pts:=by
     rw[Ao,AM (by omega)];exact BI _
    generalize pts.getD j.toNat y0=zp at hzp ⊢
    have hzl:zp.first.length<=4:=by
     obtain⟨j,hj,ej⟩:=Bw hzp;exact(hs.ok j zp (by rw[AM hj,ej])).fl
    try dsimp only
    refine hX (xs:=[.str zp.name,.tup (zp.first.map rQ),.tup (zp.works.map lV),.tup (Ln.pvs zp.ls)]) sQ ?_;refine⟨t,zp,ns,rfl,T6,hzl,fun bs C7 hbs hbl T7 e7=>⟨zz 2 rfl,?_⟩⟩;refine⟨t,ns,rfl,T7,fun i C8 i0 i1 T8 e8=>?_⟩;refine⟨t,3,ns,rfl,T8,by decide,by decide,fun w C9 w0 w1 T9 e9=>?_⟩;refine⟨zz 2 rfl,?_⟩;refine⟨zz 1 rfl,?_⟩;have e49:Ex t C4 C9:=fun b o n h=>e9 b o n (e8 b o n (e7 b o n (e6 b o n h)))
    have mv9:=e49 _ _ nvt mv4;refine jC (k:=[[.inl (some i),.inl (some w)]]) mv9 rfl (by unfold vlP; rw[AA]; omega) ?_;rw[show PV.tup [PV.str zp.name,PV.tup (bs.map rQ)]=vPV (zp.name,bs) from rfl,Z7];refine hL0 _ _ ⟨qC V [[.inl (some i),.inl (some w)]] (zp.name,bs),_,rfl,QC hV _ hbs hbl,jQ,T9.put nvt _,?_⟩;have x9:Ex t C C9:=(e3.trans e4).trans e49;exact x9.put hvv _
   .refine bX ?_
    exact hL0 _ _ ⟨V,_,rfl,hV,mv4,T4,e3.trans e4⟩
  .rintro ρ' C4 ⟨V,x9,rfl,hV,mv,T4,e4⟩
   try dsimp only
   exact q vv V C4 hV hvv mv nvt T4 e4
 intro v0 hv0;have nv0:vv≠v0:=fun z=>by subst z; rw[jQ] at hv0; cases hv0
 have T1:=(hT.new hvv (.dP [])).new hv0 (.dP []);have g1:Gr C (uQ (uQ C vv (.dP [])) v0 (.dP [])):=(Gr.new hvv _).trans (Gr.new hv0 _);refine⟨pts,v0,[],rfl,hs,VOk.nil,jQ,fun p C2 np mp g2=>?_⟩
 have T2:Tp C2 t ns:=by
  obtain⟨⟨a1,b1,c1,e1,r1⟩,l1⟩:=T1;exact⟨⟨a1,b1,c1,g2 _ _ e1,r1⟩,l1⟩
 have npt:p≠t:=T1.ne np;have npv:p≠vv:=fun z=>by rw[z,wQ nv0,jQ] at np; cases np
 have mv2:C2 vv=some (.dP (vlP [])):=g2 _ _ (by rw[wQ nv0]; exact jQ);have g12:Gr C C2:=g1.trans g2;have e02:Ex t C C2:=fun b o _ h=>g12 b o h;have hlen:(jZ pts []).length<=559:=KK hs VOk.nil (sK hs);refine⟨(jZ pts []).length+1,?_⟩;refine tK (xs:=(jZ pts []).map En.pv) (fun i ρ C'=>C' p=some (.lst ((jZ pts []).map En.pv))/\∃(V:Vl) (x3 x4 x5 x6 x7 x8 x9:Option PV),ρ=[some (.ref t),some (.tup (pts.map Pt.pv)),some (.ref vv),x3,x4,x5,x6,x7,x8,x9]/\VOk V/\V.length<=i/\i<=(jZ pts []).length/\C' vv=some (.dP (vlP V))/\Tp C' t ns/\Ex t C C') (fun _ _ _ h=>h.1) ?_ ?_ _ 0 _ _ ⟨mp,[],_,_,_,_,_,_,_,rfl,VOk.nil,AJ _,AV _,mv2,T2,e02⟩ (by rw[AA]; omega) (AV _)
 .rintro i z ρ C3 hz ⟨m3,V,x3,x4,x5,x6,x7,x8,x9,rfl,hV,hVl,hi,mv,T3,e3⟩ L hL
  rw[Aj] at hz
  cases he:(jZ pts [])[i]? with
  |none=>rw[he] at hz; cases hz
  |some en =>
  rw[he] at hz;cases hz;have hmem:=Al he;have hi':i < (jZ pts []).length:=(AU.1 he).1;obtain⟨k',du,_⟩:=KJ hs VOk.nil 6 0 _ (sK hs) en hmem;obtain⟨y,ha⟩:=bE hs VOk.nil du;refine⟨rfl,?_⟩;refine fX (fX (fX (fX (fX (sY ?_)))))
  try dsimp only
  refine yQ ?_;refine⟨t,6,ns,rfl,T3,by decide,by decide,fun v C4 v00 v01 T4 e4=>?_⟩
  try dsimp only
  have m4:=e4 _ _ npt m3;have mv4:=e4 _ _ nvt mv;refine i_i ?_;refine uZ (fun hb=>?_) fun hb=>?_
  .refine yQ ?_
   refine⟨pts,y,by rw[ha.nm],h6,hs.nd,ha.mem,fun C5 g5=>?_⟩
   have T5:Tp C5 t ns:=by
    obtain⟨⟨a1,b1,c1,e1,r1⟩,l1⟩:=T4;exact⟨⟨a1,b1,c1,g5 _ _ e1,r1⟩,l1⟩
   try dsimp only
   refine vX (fun ρ' C'=>∃z∈pts,ρ'=[some (.ref t),some (.tup (pts.map Pt.pv)),some (.ref vv),some (fQ en.x.path),some (.str en.x.name),some (.tup (en.x.gives.map rQ)),some (.tup (en.x.downs.map rQ)),some en.pc.pv,some (.int v),some z.pv]/\Tp C' t ns/\Ex t C5 C') (fun L1 hL1=>?_) ?_
   .refine mX (oX _ _) ?_
    refine uZ (fun hb2=>?_) fun hb2=>?_
    .refine vO ?_
     rw[AA];refine⟨t,_,ns,rfl,T5,by omega,by omega,fun j C6 j0 j1 T6 e6=>?_⟩;refine hX (gK (f:=Pt.pv) (ss:=pts) y j0 j1) ?_;refine hL1 _ _ ⟨pts.getD j.toNat y,?_,rfl,T6,e6⟩;rw[Ao,AM (by omega)];exact BI _
    .refine bX ?_
     exact hL1 _ _ ⟨y,ha.mem,rfl,T5,Ex.refl⟩
   rintro ρ' C6 ⟨zp,hzp,rfl,T6,e6⟩
   try dsimp only
   have hzl:zp.first.length<=4:=by
    obtain⟨j,hj,ej⟩:=Bw hzp;exact(hs.ok j zp (by rw[AM hj,ej])).fl
   refine hX (xs:=[.str zp.name,.tup (zp.first.map rQ),.tup (zp.works.map lV),.tup (Ln.pvs zp.ls)]) sQ ?_;refine⟨t,zp,ns,rfl,T6,hzl,fun bs C7 hbs hbl T7 e7=>⟨zz 2 rfl,?_⟩⟩;have mv7:=e7 _ _ nvt (e6 _ _ nvt (g5 _ _ mv4));have m7:=e7 _ _ npt (e6 _ _ npt (g5 _ _ m4));refine jC mv7 (aZ _) (by unfold vlP; rw[AA]; omega) ?_;rw[show PV.tup [PV.str zp.name,PV.tup (bs.map rQ)]=vPV (zp.name,bs) from rfl,Z7]
   refine hL _ _ ⟨by rw[wQ npv]; exact m7,qC V en.x.path (zp.name,bs),_,_,_,_,_,_,_,rfl,QC hV _ hbs hbl,by have:=Jb V en.x.path (zp.name,bs); omega,hi',jQ,T7.put nvt _,?_⟩;have x7:Ex t C C7:=fun b o n h=>e7 b o n (e6 b o n (g5 b o (e4 b o n (e3 b o n h))));exact x7.put hvv _
  .refine bX ?_
   exact hL _ _ ⟨m4,V,_,_,_,_,_,_,_,rfl,hV,by omega,hi',mv4,T4,e3.trans e4⟩
 .rintro ρ C3 ⟨m3,V,x3,x4,x5,x6,x7,x8,x9,rfl,hV,hVl,hi,mv,T3,e3⟩
  exact hL0 _ _ ⟨V,_,_,_,_,_,_,_,rfl,hV,by rw[AA] at hVl; omega,mv,T3,e3⟩
end
def gW (path:mQ)(h:HdV):PV:=.tup [.str h.ev,.int h.rank,.bl h.last,fQ path,.tup (h.ch.map pI)]
def pQ (D:List En)(p:mQ):List Wt:=((D.find? fun e=>decide (e.x.path=p)).map (·.pc.row)).getD []
theorem mC:∀{D:List En}{e:En},(pathsOf D).Nodup->e∈D->pQ D e.x.path=e.pc.row
 |[],e,_,m=>nomatch m
 |z::D,e,nd,m=>by
  have nd:(z.x.path::pathsOf D).Nodup:=nd;rw[Am] at nd;unfold pQ;rw[Ap]
  rcases Ah.1 m with rfl | m
  .rw [Af rfl]; rfl
  .have ne:¬ z.x.path=e.x.path:=fun h=>nd.1 (by rw[h]; exact Ab.2 ⟨e,m,rfl⟩)
   rw[AS ne];exact mC nd.2 m
noncomputable def bx1 (f:mQ->mQ->mQ->List Wt->List PV)(rows:mQ->List Wt)(path spots label:mQ):Wt->List PV
 |.plain sp tag s h r=>[.tup [fQ (label++[sp]),.tup [.str tag,.tup (s.map rQ),.tup (h.map (gW path)),.tup (f path (spots++[sp]) [] r)]]]
 |.give sp _ _ r=>f path (spots++[sp]) (label++[sp]) r
 |.part sp _ _=>f (spots++[sp]) (spots++[sp]) (label++[sp]) (rows (spots++[sp]))
noncomputable def bxs (rows:mQ->List Wt):Nat->mQ->mQ->mQ->List Wt->List PV
 |0,_,_,_,_=>[]
 |n+1,path,spots,label,row=>row.flatMap (bx1 (bxs rows n) rows path spots label)
def bl1 (f:mQ->List Wt->Nat)(rows:mQ->List Wt)(spots:mQ):Wt->Nat
 |.plain sp _ _ _ r=>1+f (spots++[sp]) r
 |.give sp _ _ r=>f (spots++[sp]) r
 |.part sp _ _=>f (spots++[sp]) (rows (spots++[sp]))
noncomputable def bl (rows:mQ->List Wt):Nat->mQ->List Wt->Nat
 |0,_,_=>0
 |n+1,spots,row=>(row.map (bl1 (bl rows n) rows spots)).sum
theorem iR (rows:mQ->List Wt):∀(n:Nat) (path spots label:mQ) (row:List Wt),(bxs rows n path spots label row).length<=bl rows n spots row:=by
 intro n
 induction n with
 |zero=>intro _ _ _ _; exact AJ _
 |succ n ih =>
  intro path spots label row;rw[bxs,bl]
  induction row with
  |nil=>exact AJ _
  |cons x row ihr =>
   rw[Av,AC,Ac,List.sum_cons];refine Nat.add_le_add ?_ ihr
   cases x with
   |plain sp t s h r=>exact B7 1 _
   |give sp n' i r=>exact ih _ _ _ _
   |part sp n' g=>exact ih _ _ _ _
def SpB (sp:List Key):Prop:=∃k c,sp=[k,.inl (some c)]/\0<=c/\c<=99000/\KBd k
theorem Qn:∀r:List Wt,r.length<=Wt.wcs r
 |[]=>AV _
 |y::r=>by
  have ih:=Qn r;have h1:1<=y.wc:=by cases y<;>(rw[Wt.wc]; omega)
  rw[AI,Wt.wcs];omega
def Ft (D:List En):Nat->mQ->List Wt->Prop
 |0,_,_=>False
 |n+1,spots,row=>bl (pQ D) (n+1) spots row<=9900/\(row.map Wt.sp).Nodup/\∀x∈row,SpB x.sp/\match x with
  |.plain sp tag s h r=>PlOk tag s h/\Ft D n (spots++[sp]) r
  |.give sp _ _ r=>Ft D n (spots++[sp]) r
  |.part sp _ _=>(∃e∈D,e.x.path=spots++[sp])/\Ft D n (spots++[sp]) (pQ D (spots++[sp]))
theorem ZZ {D:List En}{rs:List Str}{N b:Nat}(x:mQ)(hN:1<=N):∀(d:Nat) (r:List Wt) (s:mQ) (ds:List (Str×Int)),(∀y∈r,WtOk rs d y)->Vq r->Wt.wcs r+Wt.pcs r * b<=9900 ->
  (∀q∈Wt.prts r s ds,(∃e∈D,e.x.path=x++q.path)/\∀M,N<=M->Ft D M (x++q.path) (pQ D (x++q.path))/\bl (pQ D) M (x++q.path) (pQ D (x++q.path))<=b) ->
  ∀M,N+d<=M->Ft D M (x++s) r/\bl (pQ D) M (x++s) r<=Wt.wcs r+Wt.pcs r * b:=by
 intro d
 induction d with
 |zero =>
  intro r s ds ok hsn hb hq M hM
  cases r with
  |cons y r=>exact(ok y AD).elim
  |nil =>
   obtain⟨m,rfl⟩:∃m,M=m+1:=⟨M - 1,by omega⟩;exact⟨⟨AV _,BM,fun _ z=>(nomatch z)⟩,AV _⟩
 |succ d ih =>
  intro r s ds ok hsn hb hq M hM;obtain⟨m,rfl⟩:∃m,M=m+1:=⟨M - 1,by omega⟩
  have one:∀y:Wt,WtOk rs (d+1) y->y.wc+y.pc * b<=9900->(∀q∈y.prt s ds,(∃e∈D,e.x.path=x++q.path)/\∀M,N<=M->Ft D M (x++q.path) (pQ D (x++q.path))/\bl (pQ D) M (x++q.path) (pQ D (x++q.path))<=b) ->
    (match y with
     |.plain sp tag s' h r=>PlOk tag s' h/\Ft D m (x++s++[sp]) r
     |.give sp _ _ r=>Ft D m (x++s++[sp]) r
     |.part sp _ _=>(∃e∈D,e.x.path=x++s++[sp])/\Ft D m (x++s++[sp]) (pQ D (x++s++[sp])))/\bl1 (bl (pQ D) m) (pQ D) (x++s) y<=y.wc+y.pc * b:=by
   intro y oy hy hq
   cases y with
   |plain sp t ss h r' =>
    obtain⟨_,o0,o1,o2⟩:=oy;have hw:(Wt.plain sp t ss h r').wc=1+Wt.wcs r':=by rw[Wt.wc]
    have hp:(Wt.plain sp t ss h r').pc=Wt.pcs r':=by rw[Wt.pc]
    rw[hw,hp] at hy;have:=ih r' (s++[sp]) ds o1 o2 (by omega) (fun q hqm=>hq q (by rw[Wt.prt]; exact hqm)) m (by omega);rw[<- AK] at this;refine⟨⟨o0,this.1⟩,?_⟩;have h2:=this.2;rw[hw,hp];show 1+bl (pQ D) m (x++s++[sp]) r'<=_;omega
   |give sp n i r' =>
    obtain⟨_,bi,o1,o2⟩:=oy;have hw:(Wt.give sp n i r').wc=1+Wt.wcs r':=by rw[Wt.wc]
    have hp:(Wt.give sp n i r').pc=Wt.pcs r':=by rw[Wt.pc]
    rw[hw,hp] at hy;have:=ih r' (s++[sp]) (rV ds [(n,i)]) o1 o2 (by omega) (fun q hqm=>hq q (by rw[Wt.prt]; exact hqm)) m (by omega);rw[<- AK] at this;refine⟨this.1,?_⟩;rw[hw,hp];have h2:=this.2;show bl (pQ D) m (x++s++[sp]) r'<=_;omega
   |part sp n g =>
    obtain⟨he,hM'⟩:=hq ⟨s++[sp],n,g,ds⟩ (by rw[Wt.prt]; exact AH.2 rfl);have h2:=hM' m (by omega);have ea:x++(s++[sp])=x++s++[sp]:=by rw[AK]
    have he:∃e∈D,e.x.path=x++(s++[sp]):=he;have h2:Ft D m (x++(s++[sp])) (pQ D (x++(s++[sp])))/\bl (pQ D) m (x++(s++[sp])) (pQ D (x++(s++[sp])))<=b:=h2;rw[ea] at he h2;refine⟨⟨he,h2.1⟩,?_⟩;have hw:(Wt.part sp n g).wc=1:=by rw[Wt.wc]
    have hp:(Wt.part sp n g).pc=1:=by rw[Wt.pc]
    rw[hw,hp];have:=h2.2;show bl (pQ D) m (x++s++[sp]) (pQ D (x++s++[sp]))<=_;omega
  have all:∀r:List Wt,(∀y∈r,WtOk rs (d+1) y)->Wt.wcs r+Wt.pcs r * b<=9900->(∀q∈Wt.prts r s ds,(∃e∈D,e.x.path=x++q.path)/\∀M,N<=M->Ft D M (x++q.path) (pQ D (x++q.path))/\bl (pQ D) M (x++q.path) (pQ D (x++q.path))<=b) ->
    (∀y∈r,match y with
     |.plain sp tag s' h r=>PlOk tag s' h/\Ft D m (x++s++[sp]) r
     |.give sp _ _ r=>Ft D m (x++s++[sp]) r
     |.part sp _ _=>(∃e∈D,e.x.path=x++s++[sp])/\Ft D m (x++s++[sp]) (pQ D (x++s++[sp])))/\(r.map (bl1 (bl (pQ D) m) (pQ D) (x++s))).sum<=Wt.wcs r+Wt.pcs r * b:=by
   intro r
   induction r with
   |nil=>intro _ _ _; exact⟨fun _ z=>(nomatch z),AV _⟩
   |cons y r ihr =>
    intro ok hb hq;have hb:(y.wc+Wt.wcs r)+(y.pc+Wt.pcs r) * b<=9900:=hb;rw[DH] at hb;obtain⟨a1,a2⟩:=one y (ok y AD) (by omega) fun q hqm=>hq q (by rw[Wt.prts]; exact A0 _ hqm);obtain⟨b1,b2⟩:=ihr (fun z hz=>ok z (AG _ hz)) (by omega) fun q hqm=>hq q (by rw[Wt.prts]; exact AY _ hqm);refine⟨fun z hz=>?_,?_⟩
    .rcases Ah.1 hz with rfl | hz
     .exact a1
     .exact b1 z hz
    .rw [Ac,List.sum_cons]
     show _<=(y.wc+Wt.wcs r)+(y.pc+Wt.pcs r) * b;rw[DH];omega
  obtain⟨c1,c2⟩:=all r ok hb hq;have hrl:=Qn r;refine⟨⟨?_,hsn.1,fun y hy=>⟨?_,c1 y hy⟩⟩,?_⟩
  .rw [bl]; omega
  .obtain ⟨k,c,e1,e2,e3,e4⟩:=hsn.2 y hy
   exact⟨k,c,e1,e2,by omega,e4⟩
  .rw [bl]; exact c2
def sbd (N m:Nat):Nat:=if N < 4 then 48 * (2 ^ m - 1) else 48 * m
theorem ZV {N m m':Nat}(h:m'<=m):sbd N m'<=sbd N m:=by
 unfold sbd
 split
 .have:2 ^ m'<=2 ^ m:=BL (by decide) h
  omega
 .omega
def bbd (N k:Nat):Nat:=if k=0 then 4368 else sbd N (N - k)
theorem Vk {N k:Nat}(h6:N<=6)(hk:k < N):48+eJ N k * sbd N (N - k - 1)<=bbd N k:=by
 have hc:=mR N k;unfold bbd
 split
 .have h1:sbd N (N - k - 1)<=240:=by
   unfold sbd
   split
   .have:2 ^ (N - k - 1)<=2 ^ 2:=BL (by decide) (by omega)
    have e:(2:Nat) ^ 2=4:=rfl;omega
   .omega
  have:=Nat.mul_le_mul hc.1 h1;omega
 .obtain ⟨m,hm⟩:∃m,N - k=m+1:=⟨N - k - 1,by omega⟩
  rw[hm,show m+1 - 1=m by omega];unfold sbd
  split
  .have:=A2 (48 * (2 ^ m - 1)) (hc.2.1 (by omega))
   rw[BG];have:1<=2 ^ m:=Nat.one_le_two_pow;omega
  .have:=A2 (48 * m) (hc.2.2 (by omega) (by omega))
   omega
theorem bbd_le {N k:Nat}(h6:N<=6):bbd N k<=4368:=by
 unfold bbd sbd
 split
 .omega
 .split
  .have:2 ^ (N - k)<=2 ^ 3:=BL (by decide) (by omega)
   have e:(2:Nat) ^ 3=8:=rfl;omega
  .omega
theorem dr_fits {pts:List Pt}(hs:gB pts){V:Vl}(hV:VOk V){D:List En}(nd:(pathsOf D).Nodup):∀(n k:Nat) (x:Prt),qD pts k x->pts.length<=k+n->(∀e∈dr pts V n x,e∈D) ->
  (∃e∈D,e.x.path=x.path)/\∀M,6 * (pts.length - k)+1<=M->Ft D M x.path (pQ D x.path)/\bl (pQ D) M x.path (pQ D x.path)<=bbd pts.length k:=by
 intro n
 induction n with
 |zero =>
  intro k x h hn;have:=(AU.1 h.nm).1;unfold bZ at this;rw[AA] at this;omega
 |succ n ih =>
  intro k x h hn hD;obtain⟨y,ha⟩:=bE hs hV h
  have hkl:k < pts.length:=by
   have:=(AU.1 h.nm).1;unfold bZ at this;rw[AA] at this;exact this
  have hN:=hs.n6;have hmem:(⟨x,kW pts V x⟩:En)∈D:=hD _ (by rw[dr]; exact AD);have hl:pQ D x.path=(kW pts V x).row:=mC nd hmem;refine⟨⟨_,hmem,rfl⟩,fun M hM=>?_⟩;rw[hl];have pk:=ha.pcs;have wk:=ha.wcs;have hpb:Wt.pcs (kW pts V x).row * sbd pts.length (pts.length - k - 1)<=eJ pts.length k * sbd pts.length (pts.length - k - 1):=A2 _ pk;have st:=Vk hN hkl;have le:=bbd_le (N:=pts.length) (k:=k) hN
  have R:=ZZ (D:=D) (rs:=(bZ pts).drop (k+1)) (N:=6 * (pts.length - k - 1)+1) (b:=sbd pts.length (pts.length - k - 1)) x.path (by omega) 6 (kW pts V x).row [] [] ha.row.1 ha.row.2 (by omega) (fun q hq=>by
   obtain⟨k',hk',dq,qn,_⟩:=aV h ha hq;obtain⟨a1,a2⟩:=ih k' (tJ x q) dq (by omega) fun e he=>hD e (by rw[dr]; exact AG _ (Bq.2 ⟨q,hq,he⟩));refine⟨a1,fun M' hM'=>?_⟩;obtain⟨b1,b2⟩:=a2 M' (by omega);refine⟨b1,Ae b2 ?_⟩;unfold bbd;rw[AT (by omega)]
   exact ZV (by omega)) M (by omega)
  rw[AZ] at R;exact⟨R.1,by have:=R.2; omega⟩
theorem wB {pts:List Pt}(hs:gB pts){V:Vl}(hV:VOk V):(∃e∈jZ pts V,e.x.path=[])/\Ft (jZ pts V) 37 [] (pQ (jZ pts V) []):=by
 have nd:=KI hs hV 6 0 _ (sK hs);have h6:=hs.n6;obtain⟨a1,a2⟩:=dr_fits hs hV (D:=jZ pts V) nd 6 0 _ (sK hs) (by omega) fun e he=>he;exact⟨a1,(a2 37 (by omega)).1⟩
def lU (D:List En):List (mQ×PV):=D.map fun e=>(e.x.path,.tup (Wt.pvs e.pc.row))
theorem aD {p:mQ}:∀{D:List En},(∃e∈D,e.x.path=p)->cJ (lU D) p=some (.tup (Wt.pvs (pQ D p)))
 |[],h=>by obtain⟨e,he,_⟩:=h; exact nomatch he
 |z::D,h=>by
  show cJ ((z.x.path,PV.tup (Wt.pvs z.pc.row))::lU D) p=_;rw[rJ];unfold pQ;rw[Ap]
  by_cases e:z.x.path=p
  .rw [AW e,Af e]; rfl
  .rw [AT e,AS e]
   refine aD ?_;obtain⟨y,hy,ey⟩:=h
   rcases Ah.1 hy with rfl | hy
   .exact absurd ey e
   .exact ⟨y,hy,ey⟩
theorem Z8 {D:List En}{e:En}(h:e.x.path∉pathsOf D):putG (lU D) e.x.path (.tup (Wt.pvs e.pc.row))=lU (D++[e]):=by
 unfold putG;rw[AT]
 .unfold lU
  rw[AQ]
  rfl
 .intro z
  refine h ?_;obtain⟨x,hx,ex⟩:=Bs.1 z;unfold lU at hx;obtain⟨y,hy,rfl⟩:=Ab.1 hx;exact Ab.2 ⟨y,hy,AX ex⟩
theorem ext_l {a b:Addr}{xs ys:List PV}{C:CH}{Q:K1}(h1:C a=some (.lst xs))(h2:C b=some (.lst ys))(z:xs.length+ys.length<=sizeLine)(q:Q .non (uQ C a (.lst (xs++ys)))):lD (.ref a) [.ref b] C Q:=by
 unfold lD;dsimp only;rw[h1,h2];exact⟨z,q⟩
theorem tG {n:Nat}(h:n<=200000):n<=sizeLine:=Ae h (by decide)
theorem zC (s:mQ)(sp:List Key):PV.tup (s.map aJ++[aJ sp])=fQ (s++[sp]):=by unfold fQ; rw[AQ]; rfl
theorem sum_app (f:Wt->Nat)(us:List Wt)(u:Wt)(vs:List Wt):((us++u::vs).map f).sum=(us.map f).sum+f u+(vs.map f).sum:=by
 rw[AQ,List.sum_append,Ac,List.sum_cons]; omega
section
variable {P:Program}{w:World}{K:DK}{mg:Str->Option Value}{base:Heap}{a:Adr}
def gBx (n:Nat):GC:=fun ts C Q=>∃(rr:Addr) (D:List En) (path spots label:mQ) (row:List Wt),ts=[.ref rr,fQ path,fQ spots,fQ label,.tup (Wt.pvs row)]/\C rr=some (.dP (lU D))/\Ft D n spots row/\spots.length+n<=500/\label.length+n<=500 /\
 ∀p C',C p=none->C' p=some (.lst (bxs (pQ D) n path spots label row))->Gr C C'->Q (.ref p) C'
def gBo (n:Nat):GC:=fun ts C Q=>∃(rr:Addr) (D:List En) (path spots:mQ) (sp:List Key) (tag:Str) (ss:List (Str×Int)) (hs:List HdV) (row:List Wt),ts=[.ref rr,fQ path,fQ spots,(Wt.plain sp tag ss hs row).pv]/\C rr=some (.dP (lU D))/\Ft D n spots row/\spots.length+n<=500/\n<=500/\hs.length<=4 /\
 ∀C',Gr C C'->Q (.tup [.str tag,.tup (ss.map rQ),.tup (hs.map (gW path)),.tup (bxs (pQ D) n path spots [] row)]) C'
theorem XQ (T:Txt P w K mg a)(n r:Nat)(nK:FnOk P w K mg base CX0 r (a.f 1) (a.d 1) U11 (spC K (gBx n))):FnOk P w K mg base CX0 (r+1) (a.f 2) (a.d 2) ["rows","path","spots","want"] (spC K (gBo n)):=by
 have S:=(T.F 2 rfl).s
 refine(T.F 2 rfl).ok (fun ts C R h=>?_) fun cdv A outer s H E hr=>⟨_,(xQ (cs1 4 S.nd (ctp T.aX (qG rfl (S.c (by decide +kernel)) (S.k rfl rfl rfl (by decide +kernel)) (aY (cx (cv 3) zQ)) (fun _ _ _ _ _=>bJ) (fun _ _ _ _ _=>(bQ (qQ (cx (cv 0) zQ) (qQ (cx (cv 0) zQ) (qQ (cx (cv 0) zQ) (qQ (cv 2) (ca1 (cx (cv 0) zQ)))))))))))
  (kQ (cQ (bQ (qQ (cx (cv 3) zQ) (qQ (cx (cv 3) zQ) (qQ (cv 4) (ca1 (ctp T.aX (cf (T.F 1 rfl) nK hr (qQ (cv 0) (qQ (cv 1) (qQ (cv 2) (qQ (bQ eX) (ca1 (cx (cv 3) zQ)))))))))))))))),?_⟩
 .obtain ⟨rr,D,path,spots,sp,tag,ss,hs,row,rfl,_⟩:=h; rfl
 rintro ts C R ⟨rr,D,path,spots,sp,tag,ss,hs,row,rfl,mr,ft,h1,h2,hl,q⟩;have ep:(Wt.plain sp tag ss hs row).pv=.tup [.str "plain",aJ sp,.str tag,.tup (ss.map rQ),.tup (hs.map HdV.pv),.tup (Wt.pvs row)]:=by rw[Wt.pv]
 refine yQ ?_;refine tQ ep (v:=.tup (hs.map HdV.pv)) rfl ?_;refine cK (fun zs acc C'=>C'=C/\∃us vs:List HdV,hs=us++vs/\zs=vs.map HdV.pv/\acc=us.map (gW path)) ?_ ?_ _ _ _ ⟨rfl,[],hs,rfl,rfl,rfl⟩
 .rintro z zs acc C1 ⟨rfl,us,vs,e,hz,rfl⟩ L hL
  cases vs with
  |nil=>cases hz
  |cons v vs =>
  obtain⟨rfl,rfl⟩:=A4 hz;have hv:v.pv=.tup [.str v.ev,.int v.rank,.bl v.last,.tup (v.ch.map pI)]:=rfl;refine tQ hv (v:=.str v.ev) rfl ?_;refine tQ hv (v:=.int v.rank) rfl ?_;refine tQ hv (v:=.bl v.last) rfl ?_;refine tQ hv (v:=.tup (v.ch.map pI)) rfl ?_;refine⟨zz 5 rfl,?_⟩;refine hL _ _ ⟨?_,rfl,us++[v],vs,by rw[AK]; exact e,rfl,by rw[AQ]; rfl⟩
  rw[AA];have:=BE List.length e;rw[AC,AI] at this;exact AR (show us.length < 5 by omega) (by decide)
 .rintro acc C1 ⟨rfl,us,vs,e,hz,rfl⟩ p hp
  cases vs with
  |cons v vs=>cases hz
  |nil =>
  rw[AZ] at e;subst e;refine wJ jQ ?_
  try dsimp only
  have g1:Gr C1 (uQ C1 p (.lst (hs.map (gW path)))):=Gr.new hp _;refine tQ ep (v:=.str tag) rfl ?_;refine tQ ep (v:=.tup (ss.map rQ)) rfl ?_;refine⟨zz 0 rfl,?_⟩;refine tQ ep (v:=.tup (Wt.pvs row)) rfl ?_;refine⟨rr,D,path,spots,[],row,rfl,g1 _ _ mr,ft,h1,by show 0+n<=500; omega,fun p2 C2 n2 m2 g2=>?_⟩;refine wJ m2 ?_;refine⟨zz 4 rfl,?_⟩;exact q C2 (g1.trans g2)
theorem lT (T:Txt P w K mg a)(n:Nat):FnOk P w K mg base CX0 (2 * n) (a.f 1) (a.d 1) U11 (spC K (gBx n)):=by
 induction n with
 |zero =>
  refine iZ fun ts C Q zq=>?_;obtain⟨rr,D,path,spots,label,row,_,_,h,_⟩:=zq;exact h
 |succ n ih =>
 have S:=(T.F 1 rfl).s;have Vy:=XQ (base:=base) T n (2 * n) ih;have nK:=ih.mono (show 2 * n<=2 * n+1 by omega);have e2n:2 * (n+1)=2 * n+1+1:=by omega
 rw[e2n]
 refine(T.F 1 rfl).ok (fun ts C R h=>?_) fun cdv A outer s H E hr=>⟨_,(xQ (cs1 5 S.nd (nX eX))
  (xQ (oY PassesOwn.never rfl (cv 4) (cg1 6 S.nd) (xQ (cs1 7 S.nd (iQ yX gX (cv 2) (bQ (ca1 (cx (cv 6) zQ)))))
  (xQ (cs1 8 S.nd (iQ yX gX (cv 3) (bQ (ca1 (cx (cv 6) zQ)))))
  (kQ (uX (ct2 cX kX (cx (cv 6) zQ) vQ) (kQ (cZ (cap (cv 5) (bQ (qQ (cv 8) (ca1 (cf (T.F 2 rfl) Vy hr (qQ (cv 0) (qQ (cv 1) (qQ (cv 7) (ca1 (cv 6)))))))))))) (kQ (uX (ct2 cX kX (cx (cv 6) zQ) vQ) (kQ (cZ (Vd B1 PySem.F.slot_list_extend PySem.F.type_list_extend (fun p s σ H x vs v us Q=>tH p s σ H x vs v us Q) wP (cv 5) (ca1 (cf (T.F 1 rfl) nK hr (qQ (cv 0) (qQ (cv 1) (qQ (cv 7) (qQ (cv 8) (ca1 (cx (cv 6) zQ))))))))))) (kQ (cZ (Vd B1 PySem.F.slot_list_extend PySem.F.type_list_extend (fun p s σ H x vs v us Q=>tH p s σ H x vs v us Q) wP (cv 5) (ca1 (cf (T.F 1 rfl) nK hr (qQ (cv 0) (qQ (cv 7) (qQ (cv 7) (qQ (cv 8) (ca1 (xF (vK hr) (cv 0) (cv 7) (fun _ _=>rfl)))))))))))))))))))
  (kQ (cQ (cv 5))))),?_⟩
 .obtain ⟨rr,D,path,spots,label,row,rfl,_⟩:=h; rfl
 rintro ts C R ⟨rr,D,path,spots,label,row,rfl,mr,ft,h1,h2,q⟩;obtain⟨hb,_,ft⟩:=ft;rw[bl] at hb;refine yQ ?_;refine⟨zz 0 rfl,fun ff hff=>?_⟩
 try dsimp only
 refine dX ?_;refine vB rfl ?_;refine eZ (fun zs ρ C'=>∃(x6 x7 x8:Option PV) (us vs:List Wt),row=us++vs/\zs=Wt.pvs vs/\ρ=[some (.ref rr),some (fQ path),some (fQ spots),some (fQ label),some (.tup (Wt.pvs row)),some (.ref ff),x6,x7,x8]/\C' ff=some (.lst (us.flatMap (bx1 (bxs (pQ D) n) (pQ D) path spots label)))/\Gr C C') ?_ ?_ _ _ _ ⟨_,_,_,[],row,rfl,rfl,rfl,jQ,Gr.new hff _⟩
 .rintro z zs ρ C1 ⟨x6,x7,x8,us,vs,e,hz,rfl,m1,g1⟩ L hL
  cases vs with
  |nil=>cases hz
  |cons u vs =>
  obtain⟨rfl,rfl⟩:=A4 (show z::zs=u.pv::Wt.pvs vs from hz);have hu:=(ft u (by rw[e]; exact AY _ AD)).2
  have hlu:(us.flatMap (bx1 (bxs (pQ D) n) (pQ D) path spots label)).length<=(us.map (bl1 (bl (pQ D) n) (pQ D) spots)).sum:=by
   have:=iR (pQ D) (n+1) path spots label us;rw[bxs,bl] at this;exact this
  rw[e,sum_app] at hb
  have fin:∀C' x6 x7 x8,C' ff=some (.lst (us.flatMap (bx1 (bxs (pQ D) n) (pQ D) path spots label)++bx1 (bxs (pQ D) n) (pQ D) path spots label u))->Gr C C'->L [some (.ref rr),some (fQ path),some (fQ spots),some (fQ label),some (.tup (Wt.pvs row)),some (.ref ff),x6,x7,x8] C':=by
   intro C' y6 y7 y8 hm hg;refine hL _ _ ⟨y6,y7,y8,us++[u],vs,by rw[AK]; exact e,rfl,rfl,?_,hg⟩;rw[hm,Ba,Av,List.flatMap_nil,AZ]
  obtain⟨wd,rest,ep,hwd⟩:=ZB u;refine yQ ?_;refine tQ ep nD ?_;refine⟨zz 1 rfl,?_⟩;refine nF (xK (by rw[AA]; show spots.length+1<=1000; omega)) ?_;rw[zC]
  try dsimp only
  refine yQ ?_;refine tQ ep nD ?_;refine⟨zz 1 rfl,?_⟩;refine nF (xK (by rw[AA]; show label.length+1<=1000; omega)) ?_;rw[zC]
  try dsimp only
  cases u with
  |plain sp tag ss hs r =>
   have ep:(Wt.plain sp tag ss hs r).pv=.tup [.str "plain",aJ sp,.str tag,.tup (ss.map rQ),.tup (hs.map HdV.pv),.tup (Wt.pvs r)]:=by rw[Wt.pv]
   refine tQ ep sQ ?_;refine mX (lQ _ _) ?_;refine lW (by decide) ?_;refine⟨yG m1,?_⟩;refine⟨rr,D,path,spots++[sp],sp,tag,ss,hs,r,rfl,g1 _ _ mr,hu.2,by rw[AC,AO]; omega,by omega,hu.1.2.1,fun C2 g2=>⟨zz 2 rfl,?_⟩⟩;refine nP (g2 _ _ m1) (As (show _<=200000 by omega) (by decide)) ?_;exact fin _ _ _ _ (by rw[jQ]; rfl) (sW (g1.trans g2) hff _)
  |give sp nm i r =>
   have ep:(Wt.give sp nm i r).pv=.tup [.str "give",aJ sp,.str nm,.int i,.tup (Wt.pvs r)]:=by rw[Wt.pv]
   refine tQ ep sQ ?_;refine mX (lQ _ _) ?_;refine vZ (by decide) ?_;refine tQ ep sQ ?_;refine mX (lQ _ _) ?_;refine lW (by decide) ?_;refine⟨yG m1,?_⟩;refine tQ ep (v:=.tup (Wt.pvs r)) rfl ?_;refine⟨rr,D,path,spots++[sp],label++[sp],r,rfl,g1 _ _ mr,hu,by rw[AC,AO]; omega,by rw[AC,AO]; omega,fun p2 C2 n2 m2 g2=>?_⟩;refine ext_l (g2 _ _ m1) m2 (tG ?_) ?_
   .have hb:_+bl (pQ D) n (spots++[sp]) r+_<=9900:=hb
    have:=iR (pQ D) n path (spots++[sp]) (label++[sp]) r;omega
   exact fin _ _ _ _ (by rw[jQ]; rfl) (sW (g1.trans g2) hff _)
  |part sp nm g =>
   have ep:(Wt.part sp nm g).pv=.tup [.str "part",aJ sp,.str nm,.tup (g.map rQ)]:=by rw[Wt.pv]
   refine tQ ep sQ ?_;refine mX (lQ _ _) ?_;refine vZ (by decide) ?_;refine tQ ep sQ ?_;refine mX (lQ _ _) ?_;refine vZ (by decide) ?_;refine⟨yG m1,?_⟩;refine nH (g1 _ _ mr) (aZ _) (aD hu.1) ?_;refine⟨rr,D,spots++[sp],spots++[sp],label++[sp],pQ D (spots++[sp]),rfl,g1 _ _ mr,hu.2,by rw[AC,AO]; omega,by rw[AC,AO]; omega,fun p2 C2 n2 m2 g2=>?_⟩
   refine ext_l (g2 _ _ m1) m2 (tG ?_) ?_
   .have hb:_+bl (pQ D) n (spots++[sp]) (pQ D (spots++[sp]))+_<=9900:=hb
    have:=iR (pQ D) n (spots++[sp]) (spots++[sp]) (label++[sp]) (pQ D (spots++[sp]));omega
   exact fin _ _ _ _ (by rw[jQ]; rfl) (sW (g1.trans g2) hff _)
 .rintro ρ C1 ⟨x6,x7,x8,us,vs,e,hz,rfl,m1,g1⟩
  cases vs with
  |cons u vs=>cases hz
  |nil =>
  rw[AZ] at e;subst e;exact q ff C1 hff m1 g1
def gTree:GC:=fun ts C Q=>∃(dd:Addr) (D:List En),ts=[.ref dd]/\C dd=some (.lst (D.map En.pv))/\(pathsOf D).Nodup/\D.length<=600/\(∃e∈D,e.x.path=[])/\Ft D 37 [] (pQ D [])/\∀C',Gr C C'->Q (.tup (bxs (pQ D) 37 [] [] [] (pQ D []))) C'
theorem gA (T:Txt P w K mg a):FnOk P w K mg base CX0 75 (a.f 0) (a.d 0) ["drawing"] (spC K gTree):=by
 have S:=(T.F 0 rfl).s;have nK:=lT (base:=base) T 37
 refine(T.F 0 rfl).ok (fun ts C R h=>?_) fun cdv A outer s H E hr=>⟨_,(xQ (cs1 1 S.nd gD)
  (xQ (mW PassesOwn.never rfl (cv 0) (cg1 2 S.nd) (kQ (wD (vK hr) (cv 1) (cx (cv 2) zQ) (cx (cx (cv 2) zQ) zQ))))
  (kQ (cQ (ctp T.aX (cf (T.F 1 rfl) nK hr (qQ (cv 1) (qQ (bQ eX) (qQ (bQ eX) (qQ (bQ eX) (ca1 (xF (vK hr) (cv 1) (bQ eX) (fun _ _=>rfl))))))))))))),?_⟩
 .obtain ⟨dd,D,rfl,_⟩:=h; rfl
 rintro ts C R ⟨dd,D,rfl,md,nd,hl,h0,ft,q⟩;refine yQ ?_;intro rr hrr;have ndr:dd≠rr:=fun z=>by rw[z,hrr] at md; cases md
 try dsimp only
 refine dX ?_;refine⟨D.length+1,?_⟩;refine tK (xs:=D.map En.pv) (fun i ρ C'=>C' dd=some (.lst (D.map En.pv))/\∃(x2:Option PV),i<=D.length/\ρ=[some (.ref dd),some (.ref rr),x2]/\C' rr=some (.dP (lU (D.take i)))/\Gr C C') (fun _ _ _ h=>h.1) ?_ ?_ _ 0 _ _ ⟨by rw[wQ ndr]; exact md,_,AV _,rfl,jQ,Gr.new hrr _⟩ (by rw[AA]; omega) (AV _)
 .rintro i z ρ C1 hz ⟨m1,x2,hi,rfl,mr,g1⟩ L hL
  rw[Aj] at hz
  cases he:D[i]? with
  |none=>rw[he] at hz; cases hz
  |some en =>
  rw[he] at hz;cases hz;have hi':i < D.length:=(AU.1 he).1;have hv:en.pv=.tup [fQ en.x.path,.str en.x.name,.tup (en.x.gives.map rQ),.tup (en.x.downs.map rQ),en.pc.pv]:=rfl;refine tQ hv (v:=en.pc.pv) rfl ?_;refine hX (xs:=[.tup (en.pc.reads.map tU),.tup (Wt.pvs en.pc.row),.tup (en.pc.works.map rQ)]) (v:=.tup (Wt.pvs en.pc.row)) rfl ?_;refine tQ hv (v:=fQ en.x.path) rfl ?_;refine jC mr (aZ _) (by unfold lU; rw[AA,BQ]; omega) ?_
  have et:D.take (i+1)=D.take i++[en]:=by rw[Bl,he]; rfl
  have nin:en.x.path∉pathsOf (D.take i):=by
   have h2:(pathsOf (D.take (i+1))).Nodup:=by
    unfold pathsOf at nd ⊢;rw[List.map_take];exact nd.sublist (Cg _ _)
   rw[et] at h2;unfold pathsOf at h2;rw[AQ,A8] at h2;intro hm;exact h2.2.2 _ hm _ (by simp) rfl
  rw[Z8 nin,<- et];refine hL _ _ ⟨by rw[wQ ndr]; exact m1,_,hi',rfl,jQ,sW g1 hrr _⟩
 .rintro ρ C1 ⟨m1,x2,hi,rfl,mr,g1⟩
  rw[AA,A6 (AJ _)] at mr
  try dsimp only
  refine⟨zz 0 rfl,?_⟩;refine⟨zz 0 rfl,?_⟩;refine⟨zz 0 rfl,?_⟩;refine⟨zz 0 rfl,?_⟩;refine nH mr (k:=[]) rfl (aD h0) ?_;refine⟨rr,D,[],[],[],_,rfl,mr,ft,by decide,by decide,fun p2 C2 n2 m2 g2=>?_⟩;refine wJ m2 ?_;exact q C2 (g1.trans g2)
end
inductive Bx where
 |mk (lab:mQ) (tag:Str) (ss:List (Str×Int)) (path:mQ) (hs:List HdV) (inner:List Bx)
def Bx.lab:Bx->mQ
 |.mk lab _ _ _ _ _=>lab
def Bx.inn:Bx->List Bx
 |.mk _ _ _ _ _ inner=>inner
mutual
def Bx.pv:Bx->PV
 |.mk lab tag ss path hs inner=>.tup [fQ lab,.tup [.str tag,.tup (ss.map rQ),.tup (hs.map (gW path)),.tup (Bx.pvs inner)]]
def Bx.pvs:List Bx->List PV
 |[]=>[]
 |x::r=>x.pv::Bx.pvs r
end
theorem Bx.pvs_app:∀xs ys:List Bx,Bx.pvs (xs++ys)=Bx.pvs xs++Bx.pvs ys
 |[],_=>rfl
 |x::xs,ys=>by
  show x.pv::Bx.pvs (xs++ys)=x.pv::Bx.pvs xs++Bx.pvs ys;rw[Bx.pvs_app xs ys]
  rfl
mutual
def Bx.Ok:Bx->Prop
 |.mk lab _ _ _ hs inner=>lab≠[]/\lab.length<=500/\hs.length<=4/\Bx.Oks inner
def Bx.Oks:List Bx->Prop
 |[]=>True
 |x::r=>x.Ok/\Bx.Oks r
end
theorem Bx.oks_app:∀{xs ys:List Bx},Bx.Oks xs->Bx.Oks ys->Bx.Oks (xs++ys)
 |[],_,_,h=>h
 |_::_,_,h,h'=>⟨h.1,Bx.oks_app h.2 h'⟩
theorem Bx.oks_mem:∀{xs:List Bx},Bx.Oks xs->∀x∈xs,x.Ok
 |_::_,h,x,hx=>by
  rcases Ah.1 hx with rfl | hx
  .exact h.1
  .exact Bx.oks_mem h.2 x hx
mutual
def Bx.dep:Bx->Nat
 |.mk _ _ _ _ _ inner=>Bx.deps inner+1
def Bx.deps:List Bx->Nat
 |[]=>0
 |x::r=>max x.dep (Bx.deps r)
end
theorem Bx.deps_app:∀xs ys:List Bx,Bx.deps (xs++ys)=max (Bx.deps xs) (Bx.deps ys)
 |[],ys=>(Nat.zero_max _).symm
 |x::xs,ys=>by
  show max x.dep (Bx.deps (xs++ys))=max (max x.dep (Bx.deps xs)) (Bx.deps ys);rw[Bx.deps_app xs ys,Nat.max_assoc]
theorem Bx.deps_mem:∀{xs:List Bx}{x:Bx},x∈xs->Bx.deps x.inn+1<=Bx.deps xs
 |y::xs,x,h=>by
  show _<=max y.dep (Bx.deps xs)
  rcases Ah.1 h with rfl | h
  .cases x with
   |mk lab tag ss path hs inner =>
    show Bx.deps inner+1<=max (Bx.deps inner+1) _;omega
  .have:=Bx.deps_mem h
   omega
structure Ad where
 at_:mQ
 path:mQ
 tag:Str
 n:Nat
mutual
def Bx.ad (base:mQ):Bx->List Ad
 |.mk lab tag _ path hs inner=>⟨base++lab,path,tag,hs.length⟩::Bx.ads (base++lab) inner
def Bx.ads (base:mQ):List Bx->List Ad
 |[]=>[]
 |x::r=>x.ad base++Bx.ads base r
end
theorem Bx.ads_app (base:mQ):∀xs ys:List Bx,Bx.ads base (xs++ys)=Bx.ads base xs++Bx.ads base ys
 |[],_=>rfl
 |x::xs,ys=>by
  show x.ad base++Bx.ads base (xs++ys)=x.ad base++Bx.ads base xs++Bx.ads base ys;rw[Bx.ads_app base xs ys,AK]
noncomputable def bt1 (f:mQ->mQ->mQ->List Wt->List Bx)(rows:mQ->List Wt)(path spots label:mQ):Wt->List Bx
 |.plain sp tag s h r=>[.mk (label++[sp]) tag s path h (f path (spots++[sp]) [] r)]
 |.give sp _ _ r=>f path (spots++[sp]) (label++[sp]) r
 |.part sp _ _=>f (spots++[sp]) (spots++[sp]) (label++[sp]) (rows (spots++[sp]))
def bts (rows:mQ->List Wt):Nat->mQ->mQ->mQ->List Wt->List Bx
 |0,_,_,_,_=>[]
 |n+1,path,spots,label,row=>row.flatMap (bt1 (bts rows n) rows path spots label)
theorem bts_pv (rows:mQ->List Wt):∀(n:Nat) (path spots label:mQ) (row:List Wt),Bx.pvs (bts rows n path spots label row)=bxs rows n path spots label row:=by
 intro n
 induction n with
 |zero=>intro _ _ _ _; rfl
 |succ n ih =>
  intro path spots label row;rw[bts,bxs]
  induction row with
  |nil=>rfl
  |cons x row ihr =>
   rw[Av,Av,Bx.pvs_app,ihr]
   congr 1
   cases x with
   |plain sp t s h r =>
    show[PV.tup [fQ (label++[sp]),.tup [.str t,.tup (s.map rQ),.tup (h.map (gW path)),.tup (Bx.pvs (bts rows n path (spots++[sp]) [] r))]]]=_;rw[ih]
    rfl
   |give sp n' i r=>exact ih _ _ _ _
   |part sp n' g=>exact ih _ _ _ _
def wk1 (f:mQ->mQ->List Wt->List Ad)(rows:mQ->List Wt)(path spots:mQ):Wt->List Ad
 |.plain sp tag _ h r=>⟨spots++[sp],path,tag,h.length⟩::f path (spots++[sp]) r
 |.give sp _ _ r=>f path (spots++[sp]) r
 |.part sp _ _=>f (spots++[sp]) (spots++[sp]) (rows (spots++[sp]))
noncomputable def wk (rows:mQ->List Wt):Nat->mQ->mQ->List Wt->List Ad
 |0,_,_,_=>[]
 |n+1,path,spots,row=>row.flatMap (wk1 (wk rows n) rows path spots)
theorem ads_wk (rows:mQ->List Wt):∀(n:Nat) (path spots label base:mQ) (row:List Wt),base++label=spots->Bx.ads base (bts rows n path spots label row)=wk rows n path spots row:=by
 intro n
 induction n with
 |zero=>intro _ _ _ _ _ _; rfl
 |succ n ih =>
  intro path spots label base row hb;rw[bts,wk]
  induction row with
  |nil=>rfl
  |cons x row ihr =>
   rw[Av,Av,Bx.ads_app,ihr]
   congr 1
   have ha:∀sp,base++(label++[sp])=spots++[sp]:=fun sp=>by rw[<- AK,hb]
   cases x with
   |plain sp t s h r =>
    show((⟨base++(label++[sp]),path,t,h.length⟩:Ad)::Bx.ads (base++(label++[sp])) (bts rows n path (spots++[sp]) [] r))++[]=_;rw[AZ,ha,ih path (spots++[sp]) [] (spots++[sp]) r (AZ _)]
    rfl
   |give sp n' i r=>exact ih _ _ _ _ _ (ha sp)
   |part sp n' g=>exact ih _ _ _ _ _ (ha sp)
theorem bts_ok {D:List En}:∀(n:Nat) (path spots label:mQ) (row:List Wt),Ft D n spots row->label.length+n<=500->Bx.Oks (bts (pQ D) n path spots label row)/\Bx.deps (bts (pQ D) n path spots label row)<=n:=by
 intro n
 induction n with
 |zero=>intro _ _ _ _ h; exact h.elim
 |succ n ih =>
  intro path spots label row ft hl
  replace ft:=ft.2.2
  rw[bts]
  induction row with
  |nil=>exact⟨trivial,AV _⟩
  |cons x row ihr =>
   rw[Av];obtain⟨r1,r3⟩:=ihr fun y hy=>ft y (AG _ hy);have hx:=(ft x AD).2;have hl':∀sp:List Key,(label++[sp]).length+n<=500:=fun sp=>by rw[AC,AO]; omega
   have one:Bx.Oks (bt1 (bts (pQ D) n) (pQ D) path spots label x)/\Bx.deps (bt1 (bts (pQ D) n) (pQ D) path spots label x)<=n+1:=by
    cases x with
    |plain sp t s h r =>
     obtain⟨h2,h3⟩:=hx;obtain⟨a1,a3⟩:=ih path (spots++[sp]) [] r h3 (by show 0+n<=500; omega);refine⟨⟨⟨by simp,by have:=hl' sp; omega,h2.2.1,a1⟩,trivial⟩,?_⟩;show max (Bx.deps _+1) 0<=n+1;omega
    |give sp n' i r =>
     obtain⟨a1,a3⟩:=ih path (spots++[sp]) (label++[sp]) r hx (hl' sp);exact⟨a1,Nat.le_succ_of_le a3⟩
    |part sp n' g =>
     obtain⟨a1,a3⟩:=ih (spots++[sp]) (spots++[sp]) (label++[sp]) (pQ D (spots++[sp])) hx.2 (hl' sp);exact⟨a1,Nat.le_succ_of_le a3⟩
   refine⟨Bx.oks_app one.1 r1,?_⟩;rw[Bx.deps_app];have:=one.2;omega
theorem wk_ok {D:List En}:∀(n:Nat) (path spots:mQ) (row:List Wt),Ft D n spots row->((wk (pQ D) n path spots row).map (·.at_)).Nodup/\(wk (pQ D) n path spots row).length=bl (pQ D) n spots row/\∀x∈wk (pQ D) n path spots row,∃y∈row,∃u,x.at_=spots++y.sp::u:=by
 intro n
 induction n with
 |zero=>intro _ _ _ h; exact h.elim
 |succ n ih =>
  intro path spots row ft;obtain⟨hz0,nd,ft⟩:=ft;clear hz0;rw[wk,bl]
  induction row with
  |nil=>exact⟨BM,rfl,fun _ z=>nomatch z⟩
  |cons x row ihr =>
   rw[Ac,Am] at nd;rw[Av,AQ,AC,Ac,List.sum_cons];obtain⟨r1,r2,r3⟩:=ihr nd.2 fun y hy=>ft y (AG _ hy);have hx:=(ft x AD).2
   have one:((wk1 (wk (pQ D) n) (pQ D) path spots x).map (·.at_)).Nodup/\(wk1 (wk (pQ D) n) (pQ D) path spots x).length=bl1 (bl (pQ D) n) (pQ D) spots x/\∀z∈wk1 (wk (pQ D) n) (pQ D) path spots x,∃u,z.at_=spots++x.sp::u:=by
    have sub:∀{sp:List Key} {r:List Wt} {L:List Ad},(∀z∈L,∃y∈r,∃u,z.at_=spots++[sp]++y.sp::u)->∀z∈L,∃u,z.at_=spots++sp::u:=by
     intro sp r L h z hz;obtain⟨y,_,u,e⟩:=h z hz;exact⟨y.sp::u,by rw[e,AK]; rfl⟩
    cases x with
    |plain sp t s h r =>
     obtain⟨a1,a2,a3⟩:=ih path (spots++[sp]) r hx.2;refine⟨?_,?_,?_⟩
     .show (((⟨spots++[sp],path,t,h.length⟩:Ad)::wk (pQ D) n path (spots++[sp]) r).map (·.at_)).Nodup
      rw[Ac,Am];refine⟨fun hm=>?_,a1⟩;obtain⟨z,hz,ez⟩:=Ab.1 hm;obtain⟨y,_,u,e⟩:=a3 z hz;have:(spots++[sp]++y.sp::u).length=(spots++[sp]).length:=by rw[<- e,ez]
      rw[AC,AI] at this;omega
     .show (wk (pQ D) n path (spots++[sp]) r).length+1=1+bl (pQ D) n (spots++[sp]) r
      omega
     .intro z hz
      rcases Ah.1 hz with rfl | hz
      .exact ⟨[],rfl⟩
      .exact sub a3 z hz
    |give sp n' i r =>
     obtain⟨a1,a2,a3⟩:=ih path (spots++[sp]) r hx;exact⟨a1,a2,sub a3⟩
    |part sp n' g =>
     obtain⟨a1,a2,a3⟩:=ih (spots++[sp]) (spots++[sp]) (pQ D (spots++[sp])) hx.2;exact⟨a1,a2,sub a3⟩
   refine⟨?_,by rw[one.2.1,r2],?_⟩
   .rw [A8]
    refine⟨one.1,r1,fun p hp q hq e=>?_⟩;obtain⟨z,hz,rfl⟩:=Ab.1 hp;obtain⟨z',hz',rfl⟩:=Ab.1 hq;obtain⟨u,eu⟩:=one.2.2 z hz;obtain⟨y,hy,u',eu'⟩:=r3 z' hz';rw[eu,eu'] at e;have:=List.append_cancel_left e;injection this with e1 _
    exact nd.1 (Ab.2 ⟨y,hy,e1.symm⟩)
   .intro z hz
    rcases An.1 hz with hz | hz
    .obtain ⟨u,eu⟩:=one.2.2 z hz
     exact⟨x,AD,u,eu⟩
    .obtain ⟨y,hy,u,eu⟩:=r3 z hz
     exact⟨y,AG _ hy,u,eu⟩
mutual
def Wt.pl (path base:mQ):Wt->List Ad
 |.plain sp tag _ h r=>⟨base++[sp],path,tag,h.length⟩::Wt.pls path (base++[sp]) r
 |.give sp _ _ r=>Wt.pls path (base++[sp]) r
 |.part _ _ _=>[]
def Wt.pls (path base:mQ):List Wt->List Ad
 |[]=>[]
 |x::r=>x.pl path base++Wt.pls path base r
end
theorem Wt.pls_app (path base:mQ):∀xs ys:List Wt,Wt.pls path base (xs++ys)=Wt.pls path base xs++Wt.pls path base ys
 |[],_=>rfl
 |x::xs,ys=>by
  show x.pl path base++Wt.pls path base (xs++ys)=x.pl path base++Wt.pls path base xs++Wt.pls path base ys;rw[Wt.pls_app path base xs ys,AK]
theorem perm4 {α:Type}(a1 b1 a2 b2:List α):(a1++b1++(a2++b2)).Perm (a1++a2++(b1++b2)):=by
 rw[AK,AK];refine List.Perm.append_left a1 ?_;rw[<- AK,<- AK];exact List.Perm.append_right b2 DF
theorem ZY {rows:mQ->List Wt}{rs:List Str}{N:Nat}(x:mQ)(hN:1<=N)(T:Prt->List Ad):∀(d:Nat) (r:List Wt) (s:mQ) (ds:List (Str×Int)),(∀y∈r,WtOk rs d y) ->
  (∀q∈Wt.prts r s ds,∀M,N<=M->(wk rows M (x++q.path) (x++q.path) (rows (x++q.path))).Perm (T q))->∀M,N+d<=M->(wk rows M x (x++s) r).Perm (Wt.pls x (x++s) r++(Wt.prts r s ds).flatMap T):=by
 intro d
 induction d with
 |zero =>
  intro r s ds ok hq M hM
  cases r with
  |cons y r=>exact(ok y AD).elim
  |nil =>
   obtain⟨m,rfl⟩:∃m,M=m+1:=⟨M - 1,by omega⟩;exact DI _
 |succ d ih =>
  intro r s ds ok hq M hM;obtain⟨m,rfl⟩:∃m,M=m+1:=⟨M - 1,by omega⟩;rw[wk]
  have one:∀y:Wt,WtOk rs (d+1) y->(∀q∈y.prt s ds,∀M,N<=M->(wk rows M (x++q.path) (x++q.path) (rows (x++q.path))).Perm (T q))->(wk1 (wk rows m) rows x (x++s) y).Perm (y.pl x (x++s)++(y.prt s ds).flatMap T):=by
   intro y oy hq
   cases y with
   |plain sp t ss h r' =>
    obtain⟨_,o0,o1,o2⟩:=oy;have:=ih r' (s++[sp]) ds o1 (fun q hqm=>hq q (by rw[Wt.prt]; exact hqm)) m (by omega);rw[<- AK] at this;rw[Wt.prt,Wt.pl];exact List.Perm.cons _ this
   |give sp n i r' =>
    obtain⟨_,bi,o1,o2⟩:=oy;have:=ih r' (s++[sp]) (rV ds [(n,i)]) o1 (fun q hqm=>hq q (by rw[Wt.prt]; exact hqm)) m (by omega);rw[<- AK] at this;rw[Wt.prt,Wt.pl];exact this
   |part sp n g =>
    have:=hq ⟨s++[sp],n,g,ds⟩ (by rw[Wt.prt]; exact AH.2 rfl) m (by omega);have ea:x++(s++[sp])=x++s++[sp]:=by rw[AK]
    have this:(wk rows m (x++(s++[sp])) (x++(s++[sp])) (rows (x++(s++[sp])))).Perm (T ⟨s++[sp],n,g,ds⟩):=this;rw[ea] at this;rw[Wt.prt,Wt.pl];show(wk rows m (x++s++[sp]) (x++s++[sp]) (rows (x++s++[sp]))).Perm ([]++(T ⟨s++[sp],n,g,ds⟩++[]));rw[Cy,AZ];exact this
  clear hM
  induction r with
  |nil=>exact DI _
  |cons y r ihr =>
   rw[Av,Wt.prts,Wt.pls,Ba];refine List.Perm.trans ?_ (perm4 _ _ _ _);exact(one y (ok y AD) fun q hqm=>hq q (by rw[Wt.prts]; exact A0 _ hqm)).append (ihr (fun z hz=>ok z (AG _ hz)) fun q hqm=>hq q (by rw[Wt.prts]; exact AY _ hqm))
def plE (e:En):List Ad:=Wt.pls e.x.path e.x.path e.pc.row
theorem dr_perm {pts:List Pt}(hs:gB pts){V:Vl}(hV:VOk V){D:List En}(nd:(pathsOf D).Nodup):∀(n k:Nat) (x:Prt),qD pts k x->pts.length<=k+n->(∀e∈dr pts V n x,e∈D) ->
  ∀M,6 * (pts.length - k)+1<=M->(wk (pQ D) M x.path x.path (pQ D x.path)).Perm ((dr pts V n x).flatMap plE):=by
 intro n
 induction n with
 |zero =>
  intro k x h hn;have:=(AU.1 h.nm).1;unfold bZ at this;rw[AA] at this;omega
 |succ n ih =>
  intro k x h hn hD M hM;obtain⟨y,ha⟩:=bE hs hV h
  have hkl:k < pts.length:=by
   have:=(AU.1 h.nm).1;unfold bZ at this;rw[AA] at this;exact this
  have hmem:(⟨x,kW pts V x⟩:En)∈D:=hD _ (by rw[dr]; exact AD);have hl:pQ D x.path=(kW pts V x).row:=mC nd hmem
  have R:=ZY (rows:=pQ D) (rs:=(bZ pts).drop (k+1)) (N:=6 * (pts.length - k - 1)+1) x.path (by omega) (fun q=>(dr pts V n (tJ x q)).flatMap plE) 6 (kW pts V x).row [] [] ha.row.1 (fun q hq M' hM'=>by
   obtain⟨k',hk',dq,qn,_⟩:=aV h ha hq
   exact ih k' (tJ x q) dq (by omega) (fun e he=>hD e (by rw[dr]; exact AG _ (Bq.2 ⟨q,hq,he⟩))) M' (by omega)) M (by omega)
  rw[AZ] at R;rw[hl,dr,Av,List.flatMap_assoc];exact R
def ZI (pts:List Pt)(V:Vl):List Ad:=wk (pQ (jZ pts V)) 37 [] [] (pQ (jZ pts V) [])
theorem Xr {pts:List Pt}(hs:gB pts){V:Vl}(hV:VOk V):(ZI pts V).Perm ((jZ pts V).flatMap plE):=by
 have nd:=KI hs hV 6 0 _ (sK hs);have h6:=hs.n6;exact dr_perm hs hV (D:=jZ pts V) nd 6 0 _ (sK hs) (by omega) (fun e he=>he) 37 (by omega)
def xC (x:Ad):PV:=.tup [fQ x.at_,fQ x.path,.str x.tag]
theorem pls_one (path base:mQ)(us:List Wt)(u:Wt):Wt.pls path base (us++[u])=Wt.pls path base us++u.pl path base:=by
 rw[Wt.pls_app];show _++(u.pl path base++[])=_;rw[AZ]
section
variable {P:Program}{w:World}{K:DK}{mg:Str->Option Value}{base:Heap}{a:Adr}
def gPl (d:Nat):GC:=fun ts C Q=>∃(path:mQ) (r:List Wt) (s:mQ) (rs:List Str),ts=[fQ path,.tup (Wt.pvs r),fQ s]/\(∀x∈r,WtOk rs d x)/\s.length+d<=600/\(Wt.pls path s r).length<=900 /\
 ∀p C',C p=none->C' p=some (.lst ((Wt.pls path s r).map xC))->Gr C C'->Q (.ref p) C'
theorem XM (T:Txt P w K mg a)(d:Nat):FnOk P w K mg base CX0 (d+2) (a.f 31) (a.d 31) U4 (spC K (gPl d)):=by
 have main:∀n,(∀d',n=d'+1->FnOk P w K mg base CX0 (n+1) (a.f 31) (a.d 31) U4 (spC K (gPl d')))->FnOk P w K mg base CX0 (n+2) (a.f 31) (a.d 31) U4 (spC K (gPl n)):=by
  intro n ih;have S:=(T.F 31 rfl).s
  have kG:FnOk P w K mg base CX0 (n+1) (a.f 31) (a.d 31) U4 (spC K (fun ts C Q=>∃d',n=d'+1/\gPl d' ts C Q)):=by
   cases n with
   |zero=>exact iZ fun ts C Q ⟨d',e,_⟩=>by omega
   |succ d' =>
    have:=ih d' rfl
    have e:(fun ts C Q=>∃d'',d'+1=d''+1/\gPl d'' ts C Q)=gPl d':=by
     funext ts C Q
     refine propext ⟨fun⟨d'',e,h⟩=>?_,fun h=>⟨d',rfl,h⟩⟩;cases At e;exact h
    rw[e];exact this
  refine(T.F 31 rfl).ok (fun ts C R h=>?_) fun cdv A outer s H E hr=>⟨_,(xQ (cs1 3 S.nd (nX eX))
  (xQ (oY PassesOwn.never rfl (cv 1) (cg1 4 S.nd) (xQ (cs1 5 S.nd (iQ yX gX (cv 2) (bQ (ca1 (cx (cv 4) zQ)))))
  (xQ (uX (ct2 cX kX (cx (cv 4) zQ) vQ) (kQ (cs1 3 S.nd (iQ yX gX (iQ yX gX (cv 3) (nX (ca1 (bQ (qQ (cv 5) (qQ (cv 0) (ca1 (cx (cv 4) zQ)))))))) (cf (T.F 31 rfl) kG hr (qQ (cv 0) (qQ (cx (cv 4) zQ) (ca1 (cv 5)))))))) aQ)
  (kQ (uX (ct2 cX kX (cx (cv 4) zQ) vQ) (kQ (cs1 3 S.nd (iQ yX gX (cv 3) (cf (T.F 31 rfl) kG hr (qQ (cv 0) (qQ (cx (cv 4) zQ) (ca1 (cv 5)))))))) aQ)))))
  (kQ (cQ (cv 3))))),?_⟩
  .obtain ⟨path,r,s,rs,rfl,_⟩:=h; rfl
  rintro ts C R ⟨path,r,s,rs,rfl,ok,hs,hpc,q⟩;refine yQ ?_;refine⟨zz 0 rfl,fun p p0=>?_⟩
  try dsimp only
  refine dX ?_;refine vB rfl ?_;refine eZ (fun zs ρ C'=>∃(p:Addr) (x4 x5:Option PV) (us vs:List Wt),r=us++vs/\zs=Wt.pvs vs/\ρ=[some (fQ path),some (.tup (Wt.pvs r)),some (fQ s),some (.ref p),x4,x5]/\C p=none/\C' p=some (.lst ((Wt.pls path s us).map xC))/\Gr C C') ?_ ?_ _ _ _ ⟨p,_,_,[],r,rfl,rfl,rfl,p0,jQ,Gr.new p0 _⟩
  .rintro z zs ρ C1 ⟨p,x4,x5,us,vs,e,hz,rfl,p0,m1,g1⟩ L hL
   cases vs with
   |nil=>cases hz
   |cons u vs =>
   obtain⟨rfl,rfl⟩:=A4 (show z::zs=u.pv::Wt.pvs vs from hz);have hu:=ok u (by rw[e]; exact AY _ AD)
   have hpc2:(Wt.pls path s us).length+((u.pl path s).length+(Wt.pls path s vs).length)<=900:=by
    have:=hpc;rw[e,Wt.pls_app,AC,Wt.pls,AC] at this;exact this
   have ea:=pls_one path s us u;obtain⟨wd,rest,ep,hwd⟩:=ZB u;refine yQ ?_;refine tQ ep nD ?_;refine⟨zz 1 rfl,?_⟩;refine nF (xK (by rw[AA]; show s.length+1<=1000; omega)) ?_
   try dsimp only
   rw[zC]
   cases n with
   |zero=>exact hu.elim
   |succ d' =>
   cases u with
   |part sp nm g =>
    have ep:(Wt.part sp nm g).pv=.tup [.str "part",aJ sp,.str nm,.tup (g.map rQ)]:=by rw[Wt.pv]
    refine dX ?_;refine tQ ep sQ ?_;refine mX (lQ _ _) ?_;refine vZ (by decide) ?_;refine bX ?_
    try dsimp only
    refine tQ ep sQ ?_;refine mX (lQ _ _) ?_;refine vZ (by decide) ?_;refine bX ?_;refine hL _ _ ⟨p,_,_,us++[.part sp nm g],vs,by rw[AK]; exact e,rfl,rfl,p0,?_,g1⟩;rw[m1,ea,Wt.pl,AZ]
   |give sp nm i rw_ =>
    obtain⟨_,bi,o1,o2⟩:=hu;have ep:(Wt.give sp nm i rw_).pv=.tup [.str "give",aJ sp,.str nm,.int i,.tup (Wt.pvs rw_)]:=by rw[Wt.pv]
    rw[Wt.pl] at ea hpc2;refine dX ?_;refine tQ ep sQ ?_;refine mX (lQ _ _) ?_;refine vZ (by decide) ?_;refine bX ?_
    try dsimp only
    refine tQ ep sQ ?_;refine mX (lQ _ _) ?_;refine lW (by decide) ?_;refine tQ ep (v:=.tup (Wt.pvs rw_)) rfl ?_;refine⟨d',rfl,path,rw_,s++[sp],rs,rfl,o1,by rw[AC,AO]; omega,by omega,fun p3 C3 n3 m3 g3=>?_⟩;refine sF (g3 _ _ m1) m3 (xK (by rw[AA,AA]; omega)) fun p4 p40=>?_;have g13:Gr C C3:=g1.trans g3;refine hL _ _ ⟨p4,_,_,us++[.give sp nm i rw_],vs,by rw[AK]; exact e,rfl,rfl,oK g13 p40,?_,g13.trans (Gr.new p40 _)⟩
    rw[jQ,ea,AQ]
   |plain sp tag sets hs rw_ =>
    generalize hsp:(Wt.plain sp tag sets hs rw_).sp=sp';obtain rfl:sp=sp':=by rw[<- hsp]; rfl
    clear hsp;obtain⟨_,_,o1,o2⟩:=hu;have ep:(Wt.plain sp tag sets hs rw_).pv=.tup [.str "plain",aJ sp,.str tag,.tup (sets.map rQ),.tup (hs.map HdV.pv),.tup (Wt.pvs rw_)]:=by rw[Wt.pv]
    rw[Wt.pl] at ea hpc2;rw[AI] at hpc2;refine dX ?_;refine tQ ep sQ ?_;refine mX (lQ _ _) ?_;refine lW (by decide) ?_;refine tQ ep (v:=.str tag) rfl ?_;refine⟨zz 3 rfl,?_⟩;refine⟨zz 1 rfl,fun p2 p20=>?_⟩;have g2:Gr C1 (uQ C1 p2 (.lst [.tup [fQ (s++[sp]),fQ path,.str tag]])):=Gr.new p20 _;refine sF (g2 _ _ m1) jQ (xK (by rw[AA]; show _+1<=1000; omega)) fun p3 p30=>?_
    have g3:=g2.trans (Gr.new p30 (.lst ((Wt.pls path s us).map xC++[.tup [fQ (s++[sp]),fQ path,.str tag]])));have m3:uQ (uQ C1 p2 (.lst [.tup [fQ (s++[sp]),fQ path,.str tag]])) p3 (.lst ((Wt.pls path s us).map xC++[.tup [fQ (s++[sp]),fQ path,.str tag]])) p3=some (.lst ((Wt.pls path s us).map xC++[.tup [fQ (s++[sp]),fQ path,.str tag]])):=jQ;generalize uQ (uQ C1 p2 (.lst [.tup [fQ (s++[sp]),fQ path,.str tag]])) p3 (.lst ((Wt.pls path s us).map xC++[.tup [fQ (s++[sp]),fQ path,.str tag]]))=C3 at g3 m3 ⊢
    refine tQ ep (v:=.tup (Wt.pvs rw_)) rfl ?_;refine⟨d',rfl,path,rw_,s++[sp],rs,rfl,o1,by rw[AC,AO]; omega,by omega,fun p4 C4 n4 m4 g4=>?_⟩;refine sF (g4 _ _ m3) m4 (xK (by rw[AC,AA,AA]; show _+1+_<=1000; omega)) fun p5 p50=>?_
    try dsimp only
    refine tQ ep sQ ?_;refine mX (lQ _ _) ?_;refine vZ (by decide) ?_;refine bX ?_;have g14:Gr C C4:=(g1.trans g3).trans g4;refine hL _ _ ⟨p5,_,_,us++[.plain sp tag sets hs rw_],vs,by rw[AK]; exact e,rfl,rfl,oK g14 p50,?_,g14.trans (Gr.new p50 _)⟩;rw[jQ,ea,AQ,AK]
    rfl
  .rintro ρ C1 ⟨p,x4,x5,us,vs,e,hz,rfl,p0,m1,g1⟩
   cases vs with
   |cons u vs=>cases hz
   |nil =>
   rw[AZ] at e;subst e;exact q p C1 p0 m1 g1
 induction d with
 |zero=>exact main 0 fun d' e=>by omega
 |succ d ih=>exact main (d+1) fun d' e=>by cases At e; exact ih
end
theorem vA {α β:Type}{R:α->β->Prop}{xs xs':List α}{ys ys':List β}(h:Paired R xs ys)(h':Paired R xs' ys'):Paired R (xs++xs') (ys++ys'):=by
 induction h with
 |nil=>exact h'
 |cons e _ ih=>exact .cons e ih
def AdR (C:CH)(rows:List PV)(ads:List Ad):Prop:=Paired (fun(r:PV) (x:Ad)=>∃lp,r=.tup [fQ x.at_,.ref lp,.str x.tag]/\C lp=some (.lst (List.replicate x.n (fQ x.path)))) rows ads
theorem AdR.gr {C C':CH}{rows:List PV}{ads:List Ad}(h:AdR C rows ads)(g:Gr C C'):AdR C' rows ads:=Paired.mapP h fun _ _ ⟨lp,e,m⟩=>⟨lp,e,g _ _ m⟩
theorem Jf (s u:mQ):PV.tup (s.map aJ++u.map aJ)=fQ (s++u):=by unfold fQ; rw[AQ]
theorem lS {α:Type}(n:Nat)(x:α):List.replicate (n+1) x=List.replicate n x++[x]:=by rw[List.replicate_succ']
theorem ads_one (base:mQ)(us:List Bx)(u:Bx):Bx.ads base (us++[u])=Bx.ads base us++u.ad base:=by
 rw[Bx.ads_app];show _++(u.ad base++[])=_;rw[AZ]
section
variable {P:Program}{w:World}{K:DK}{mg:Str->Option Value}{base:Heap}{a:Adr}
def gAd (n:Nat):GC:=fun ts C Q=>∃(xs:List Bx) (s:mQ),ts=[.tup (Bx.pvs xs),fQ s]/\Bx.Oks xs/\Bx.deps xs<=n/\s.length+500 * n<=50000/\(Bx.ads s xs).length<=9900 /\
 ∀p C' rows,C p=none->C' p=some (.lst rows)->AdR C' rows (Bx.ads s xs)->Gr C C'->Q (.ref p) C'
theorem gC (T:Txt P w K mg a)(d:Nat):FnOk P w K mg base CX0 (d+2) (a.f 32) (a.d 32) U7 (spC K (gAd d)):=by
 have main:∀n,(∀d',n=d'+1->FnOk P w K mg base CX0 (n+1) (a.f 32) (a.d 32) U7 (spC K (gAd d')))->FnOk P w K mg base CX0 (n+2) (a.f 32) (a.d 32) U7 (spC K (gAd n)):=by
  intro n ih;have S:=(T.F 32 rfl).s
  have tW:FnOk P w K mg base CX0 (n+1) (a.f 32) (a.d 32) U7 (spC K (fun ts C Q=>∃d',n=d'+1/\gAd d' ts C Q)):=by
   cases n with
   |zero=>exact iZ fun ts C Q ⟨d',e,_⟩=>by omega
   |succ d' =>
    have:=ih d' rfl
    have e:(fun ts C Q=>∃d'',d'+1=d''+1/\gAd d'' ts C Q)=gAd d':=by
     funext ts C Q
     refine propext ⟨fun⟨d'',e,h⟩=>?_,fun h=>⟨d',rfl,h⟩⟩;cases At e;exact h
    rw[e];exact this
  refine(T.F 32 rfl).ok (fun ts C R h=>?_) fun cdv A outer s H E hr=>⟨_,(xQ (cs1 2 S.nd (nX eX))
  (xQ (oY PassesOwn.never rfl (cv 0) (iY rfl (jX (cg1 3 S.nd) (jX (cg1 4 S.nd) uV))) (xQ (cs1 5 S.nd (iQ yX gX (cv 1) (cv 3)))
  (xQ (Q7 (i:=6) S.nd rfl (Or.inl rfl) rfl (S.c (by decide +kernel)) (S.k (L:=0) rfl rfl rfl (by decide +kernel)) (aY (cx (cv 4) zQ)) (fun _ _ _ _ _=>bJ) (fun _ _ _ _ _=>(cx (cv 0) zQ)))
  (kQ (cs1 2 S.nd (iQ yX gX (iQ yX gX (cv 2) (nX (ca1 (bQ (qQ (cv 5) (qQ (cv 6) (ca1 (cx (cv 4) zQ)))))))) (cf (T.F 32 rfl) tW hr (qQ (cx (cv 4) zQ) (ca1 (cv 5))))))))))
  (kQ (cQ (cv 2))))),?_⟩
  .obtain ⟨xs,s,rfl,_⟩:=h; rfl
  rintro ts C R ⟨xs,s,rfl,ok,hdp,hsl,hl,q⟩;refine yQ ?_;refine⟨zz 0 rfl,fun p p0=>?_⟩
  try dsimp only
  refine dX ?_;refine vB rfl ?_;refine eZ (fun zs ρ C'=>∃(p:Addr) (x3 x4 x5 x6:Option PV) (us vs:List Bx) (rows:List PV),xs=us++vs/\zs=Bx.pvs vs/\ρ=[some (.tup (Bx.pvs xs)),some (fQ s),some (.ref p),x3,x4,x5,x6]/\C p=none/\C' p=some (.lst rows)/\AdR C' rows (Bx.ads s us)/\Gr C C') ?_ ?_ _ _ _ ⟨p,_,_,_,_,[],xs,[],rfl,rfl,rfl,p0,jQ,.nil,Gr.new p0 _⟩
  .rintro z zs ρ C1 ⟨p,x3,x4,x5,x6,us,vs,rows,e,hz,rfl,p0,m1,ar,g1⟩ L hL
   cases vs with
   |nil=>cases hz
   |cons v vs =>
   obtain⟨rfl,rfl⟩:=A4 (show z::zs=v.pv::Bx.pvs vs from hz);have hv:v∈xs:=by rw[e]; exact AY _ AD
   have okv:=Bx.oks_mem ok v hv;have dpv:=Bx.deps_mem hv;have ea:=ads_one s us v
   have hl2:(Bx.ads s us).length+((v.ad s).length+(Bx.ads s vs).length)<=9900:=by
    have:=hl;rw[e,Bx.ads_app,AC,Bx.ads,AC] at this;exact this
   obtain⟨lab,tag,ss,path,hs,inner⟩:=v;obtain⟨o1,o2,o3,o4⟩:=okv;have dpv:Bx.deps inner+1<=Bx.deps xs:=dpv;rw[Bx.ad] at ea hl2;rw[AI] at hl2;obtain⟨d',rfl⟩:∃d',n=d'+1:=⟨n - 1,by omega⟩;refine⟨rfl,?_⟩;refine fX (fX (sY ?_))
   try dsimp only
   refine yQ ?_;refine nF (tG (by rw[AA,AA]; omega)) ?_;rw[Jf]
   try dsimp only
   refine yQ ?_;refine hX (xs:=[.str tag,.tup (ss.map rQ),.tup (hs.map (gW path)),.tup (Bx.pvs inner)]) (v:=.tup (hs.map (gW path))) rfl ?_;refine cK (fun zs acc C'=>C'=C1/\∃us vs:List HdV,hs=us++vs/\zs=vs.map (gW path)/\acc=List.replicate us.length (fQ path)) ?_ ?_ _ _ _ ⟨rfl,[],hs,rfl,rfl,rfl⟩
   .rintro z zs acc C2 ⟨rfl,us,vs,e,hz,rfl⟩ L2 hL2
    cases vs with
    |nil=>cases hz
    |cons v vs =>
    obtain⟨rfl,rfl⟩:=A4 hz;refine hX (xs:=[.str v.ev,.int v.rank,.bl v.last,fQ path,.tup (v.ch.map pI)]) (v:=fQ path) rfl ?_;refine hL2 _ _ ⟨?_,rfl,us++[v],vs,by rw[AK]; exact e,rfl,by rw[AC,AO,lS]⟩;rw[A9];have:=BE List.length e;rw[AC,AI] at this;exact AR (show us.length < 5 by omega) (by decide)
   .rintro acc C2 ⟨rfl,us',vs',e',hz,rfl⟩ lp hlp
    cases vs' with
    |cons v vs=>cases hz
    |nil =>
    rw[AZ] at e';subst e';have g2:Gr C2 (uQ C2 lp (.lst (List.replicate hs.length (fQ path)))):=Gr.new hlp _;have ml:uQ C2 lp (.lst (List.replicate hs.length (fQ path))) lp=some (.lst (List.replicate hs.length (fQ path))):=jQ;show Qc _ _ _ _ (uQ C2 lp (.lst (List.replicate hs.length (fQ path))));generalize uQ C2 lp (.lst (List.replicate hs.length (fQ path)))=C3 at g2 ml ⊢
    try dsimp only
    refine hX (xs:=[.str tag,.tup (ss.map rQ),.tup (hs.map (gW path)),.tup (Bx.pvs inner)]) sQ ?_;refine⟨zz 3 rfl,?_⟩;refine⟨zz 1 rfl,fun p2 p20=>?_⟩;have hrl:rows.length=(Bx.ads s us).length:=Paired.length ar;refine sF (Gr.new p20 _ _ _ (g2 _ _ m1)) jQ (tG (by show rows.length+1<=_; omega)) fun p3 p30=>?_;have g3:Gr C3 (uQ (uQ C3 p2 (.lst [.tup [fQ (s++lab),.ref lp,.str tag]])) p3 (.lst (rows++[.tup [fQ (s++lab),.ref lp,.str tag]]))):=(Gr.new p20 _).trans (Gr.new p30 _)
    have m3:uQ (uQ C3 p2 (.lst [.tup [fQ (s++lab),.ref lp,.str tag]])) p3 (.lst (rows++[.tup [fQ (s++lab),.ref lp,.str tag]])) p3=some (.lst (rows++[.tup [fQ (s++lab),.ref lp,.str tag]])):=jQ;generalize uQ (uQ C3 p2 (.lst [.tup [fQ (s++lab),.ref lp,.str tag]])) p3 (.lst (rows++[.tup [fQ (s++lab),.ref lp,.str tag]]))=C4 at g3 m3 ⊢;refine hX (xs:=[.str tag,.tup (ss.map rQ),.tup (hs.map (gW path)),.tup (Bx.pvs inner)]) (v:=.tup (Bx.pvs inner)) rfl ?_
    refine⟨d',rfl,inner,s++lab,rfl,o4,by omega,by rw[AC]; omega,by omega,fun p5 C5 rows5 n5 m5 ar5 g5=>?_⟩;have hr5:rows5.length=(Bx.ads (s++lab) inner).length:=Paired.length ar5;refine sF (g5 _ _ m3) m5 (tG (by rw[AC]; show rows.length+1+_<=_; omega)) fun p6 p60=>?_;have g15:Gr C C5:=((g1.trans g2).trans g3).trans g5;have g25:Gr C2 C5:=(g2.trans g3).trans g5;refine hL _ _ ⟨p6,_,_,_,_,us++[.mk lab tag ss path hs inner],vs,_,by rw[AK]; exact e,rfl,rfl,oK g15 p60,jQ,?_,g15.trans (Gr.new p60 _)⟩
    rw[ea,AK];refine AdR.gr ?_ (Gr.new p60 _);exact vA (AdR.gr ar g25) (.cons ⟨lp,rfl,g5 _ _ (g3 _ _ ml)⟩ ar5)
  .rintro ρ C1 ⟨p,x3,x4,x5,x6,us,vs,rows,e,hz,rfl,p0,m1,ar,g1⟩
   cases vs with
   |cons u vs=>cases hz
   |nil =>
   rw[AZ] at e;subst e;exact q p C1 rows p0 m1 ar g1
 induction d with
 |zero=>exact main 0 fun d' e=>by omega
 |succ d ih=>exact main (d+1) fun d' e=>by cases At e; exact ih
end
theorem wT (ks:List mQ):CL.pathsOf (ks.map fQ)=some ks:=by
 induction ks with
 |nil=>rfl
 |cons k ks ih =>
  rw[Ac];unfold CL.pathsOf;rw[aZ,ih]
theorem bls_rep (n:Nat):rF (List.replicate n (.bl true))=some (List.replicate n true):=by
 induction n with
 |zero=>rfl
 |succ n ih=>rw[List.replicate_succ,List.replicate_succ]; show(rF _).map _=_; rw[ih]; rfl
theorem all_rep {p:Addr}{n:Nat}{C:CH}{Q:K1}(h:C p=some (.lst (List.replicate n (.bl true))))(q:Q (.bl true) C):cAll [.ref p] C Q:=by
 unfold cAll;show(match C p with | some (.lst xs)=>(match rF xs with | some bs=>Q (.bl (bs.all id)) C | none=>False) | _=>False);rw[h];dsimp only;rw[bls_rep];dsimp only
 have e:(List.replicate n true).all id=true:=by
  rw[CC];intro b hb;exact(List.eq_of_mem_replicate hb)
 rw[e];exact q
theorem eL (base:mQ):∀xs:List Bx,((xs.map Bx.lab).map (base ++ ·)).Sublist ((Bx.ads base xs).map (·.at_))
 |[]=>List.Sublist.refl _
 |.mk lab tag ss path hs inner::xs=>by
  show(((base++lab)::(xs.map Bx.lab).map (base ++ ·))).Sublist ((((⟨base++lab,path,tag,hs.length⟩:Ad)::Bx.ads (base++lab) inner)++Bx.ads base xs).map (·.at_));rw[B9,Ac,AQ];exact((eL base xs).trans (List.sublist_append_right _ _)).cons₂ _
theorem labs_nd {base:mQ}{xs:List Bx}(h:((Bx.ads base xs).map (·.at_)).Nodup):(xs.map Bx.lab).Nodup:=by
 have:=h.sublist (eL base xs);rw[List.Nodup,List.pairwise_map] at this;exact this.imp fun hne z=>hne (by rw[z])
theorem inn_nd {base:mQ}{xs:List Bx}{lab:mQ}{tag:Str}{ss:List (Str×Int)}{path:mQ}{hs:List HdV}{inner:List Bx}(h:((Bx.ads base xs).map (·.at_)).Nodup)(m:Bx.mk lab tag ss path hs inner∈xs):((Bx.ads (base++lab) inner).map (·.at_)).Nodup/\(Bx.ads (base++lab) inner).length<=(Bx.ads base xs).length:=by
 obtain⟨us,vs,rfl⟩:=List.append_of_mem m;rw[Bx.ads_app,Bx.ads,Bx.ad] at h ⊢;rw[AQ,AQ,Ac,A8] at h;have h2:=(A8.1 h.2.1).1;rw[Am] at h2;refine⟨h2.2,?_⟩;rw[AC,AC,AI];omega
section
variable {P:Program}{w:World}{K:DK}{mg:Str->Option Value}{base:Heap}{a:Adr}
def gUn (n:Nat):GC:=fun ts C Q=>∃(xs:List Bx) (s:mQ),ts=[.tup (Bx.pvs xs)]/\Bx.Oks xs/\Bx.deps xs<=n/\((Bx.ads s xs).map (·.at_)).Nodup/\(Bx.ads s xs).length<=9900 /\
 ∀C',Gr C C'->Q (.bl true) C'
theorem XL (T:Txt P w K mg a)(d:Nat):FnOk P w K mg base CX0 (d+2) (a.f 33) (a.d 33) ["_law_row"] (spC K (gUn d)):=by
 have main:∀n,(∀d',n=d'+1->FnOk P w K mg base CX0 (n+1) (a.f 33) (a.d 33) ["_law_row"] (spC K (gUn d')))->FnOk P w K mg base CX0 (n+2) (a.f 33) (a.d 33) ["_law_row"] (spC K (gUn n)):=by
  intro n ih;have S:=(T.F 33 rfl).s
  have mB:FnOk P w K mg base CX0 (n+1) (a.f 33) (a.d 33) ["_law_row"] (spC K (fun ts C Q=>∃d',n=d'+1/\gUn d' ts C Q)):=by
   cases n with
   |zero=>exact iZ fun ts C Q ⟨d',e,_⟩=>by omega
   |succ d' =>
    have:=ih d' rfl
    have e:(fun ts C Q=>∃d'',d'+1=d''+1/\gUn d'' ts C Q)=gUn d':=by
     funext ts C Q
     refine propext ⟨fun⟨d'',e,h⟩=>?_,fun h=>⟨d',rfl,h⟩⟩;cases At e;exact h
    rw[e];exact this
  refine(T.F 33 rfl).ok (fun ts C R h=>?_) fun cdv A outer s H E hr=>⟨_,(xQ (KO (i:=1) S.nd rfl (Or.inl rfl) rfl (show(U15:List Str).Nodup by decide +kernel) (wY (N:=U18) (sc:=xX (top 42)) (L:=0) rfl rfl rfl (by decide +kernel)) (aY (cv 0)) (fun _ _ _ _ _=>bJ) (fun _ _ _ _ _=>(cv 0)))
  (xQ (uX (cw_pt (cw_or (ct2 Jx nI (ce_lenS rfl (hu4_of hr) T.vJ T.z_set (cv 1)) (cln T.vJ (cv 1))) (cw_or1 (xP (op_inE (rX hr)) cop_inE (bQ eX) (cv 1) rfl)))) (kQ (cQ Xa)) aQ)
  (kQ (cQ (fJ (Vg rfl) cbi_all rfl T.z_all rfl (ca1 (kE rfl (show(U15:List Str).Nodup by decide +kernel) (wY (N:=U18) (sc:=xX (top 42)) (L:=0) rfl rfl rfl (by decide +kernel)) (aY (cv 0)) (fun _ _ _ _ _=>bJ) (fun _ _ _ _ _=>(cf (T.F 33 rfl) mB hr (ca1 (cx (cv 1) zQ))))))))))),?_⟩
  .obtain ⟨xs,s,rfl,_⟩:=h; rfl
  rintro ts C R ⟨xs,s,rfl,ok,hdp,nd,hl,q⟩
  have hlen:xs.length<=(Bx.ads s xs).length:=by
   have:=(eL s xs).length_le;rw[AA,AA,AA] at this;exact this
  refine yQ ?_;refine jF (fun zs acc C'=>C'=C/\∃us vs:List Bx,xs=us++vs/\zs=Bx.pvs vs/\acc=(us.map Bx.lab).map fQ) ?_ ?_ _ _ _ ⟨rfl,[],xs,rfl,rfl,rfl⟩
  .rintro z zs acc C1 ⟨rfl,us,vs,e,hz,rfl⟩
   cases vs with
   |nil=>cases hz
   |cons v vs =>
   obtain⟨rfl,rfl⟩:=A4 (show z::zs=v.pv::Bx.pvs vs from hz);obtain⟨lab,tag,ss,path,hs,inner⟩:=v;refine⟨[fQ lab,.tup [.str tag,.tup (ss.map rQ),.tup (hs.map (gW path)),.tup (Bx.pvs inner)]],rfl,rfl,fun L hL=>?_⟩;refine hL _ _ ⟨?_,rfl,us++[.mk lab tag ss path hs inner],vs,by rw[AK]; exact e,rfl,by rw[AQ,AQ]; rfl⟩;rw[AA,AA]
   have:=BE List.length e;rw[AC,AI] at this;exact AR (show us.length < 9901 by omega) (by decide)
  .rintro acc C1 ⟨rfl,us,vs,e,hz,rfl⟩ lp hlp
   cases vs with
   |cons v vs=>cases hz
   |nil =>
   rw[AZ] at e;subst e;have g1:Gr C1 (uQ C1 lp (.lst ((xs.map Bx.lab).map fQ))):=Gr.new hlp _;have m1:uQ C1 lp (.lst ((xs.map Bx.lab).map fQ)) lp=some (.lst ((xs.map Bx.lab).map fQ)):=jQ
   try dsimp only
   show lR _ _ _ _ (uQ C1 lp (.lst ((xs.map Bx.lab).map fQ)));generalize uQ C1 lp (.lst ((xs.map Bx.lab).map fQ))=C2 at g1 m1 ⊢;refine dX ?_;refine lenS_s m1 (wT _) (labs_nd nd) (by rw[AA]; omega) ?_;refine wG m1 ?_;refine mX (oX _ _) ?_;refine vZ (by rw[Af (by rw[AA,AA,AA])]; rfl) ?_;refine⟨zz 0 rfl,?_⟩;refine inE_s m1 (fun t ht=>?_) ?_
   .obtain ⟨lab,hlab,rfl⟩:=Ab.1 ht
    obtain⟨x,hx,rfl⟩:=Ab.1 hlab;have okx:=Bx.oks_mem ok x hx;obtain⟨lab,tag,ss,path,hs,inner⟩:=x
    cases lab with
    |nil=>exact absurd rfl okx.1
    |cons sp lab=>exact⟨_,_,rfl⟩
   refine vZ rfl ?_;refine bX ?_
   try dsimp only
   refine jF (fun zs acc C'=>Gr C1 C'/\∃us vs:List Bx,xs=us++vs/\zs=Bx.pvs vs/\acc=List.replicate us.length (.bl true)) ?_ ?_ _ _ _ ⟨g1,[],xs,rfl,rfl,rfl⟩
   .rintro z zs acc C3 ⟨g3,us,vs,e,hz,rfl⟩
    cases vs with
    |nil=>cases hz
    |cons v vs =>
    obtain⟨rfl,rfl⟩:=A4 (show z::zs=v.pv::Bx.pvs vs from hz);have hv:v∈xs:=by rw[e]; exact AY _ AD
    have okv:=Bx.oks_mem ok v hv;have dpv:=Bx.deps_mem hv;obtain⟨lab,tag,ss,path,hs,inner⟩:=v;obtain⟨n1,n2⟩:=inn_nd nd hv;have dpv:Bx.deps inner+1<=Bx.deps xs:=dpv;refine⟨[fQ lab,.tup [.str tag,.tup (ss.map rQ),.tup (hs.map (gW path)),.tup (Bx.pvs inner)]],rfl,rfl,fun L hL=>?_⟩;refine hX (xs:=[.str tag,.tup (ss.map rQ),.tup (hs.map (gW path)),.tup (Bx.pvs inner)]) (v:=.tup (Bx.pvs inner)) rfl ?_
    refine⟨n - 1,by omega,inner,s++lab,rfl,okv.2.2.2,by omega,n1,by omega,fun C4 g4=>?_⟩;refine hL _ _ ⟨?_,g3.trans g4,us++[.mk lab tag ss path hs inner],vs,by rw[AK]; exact e,rfl,by rw[AC,AO,lS]⟩;rw[A9];have:=BE List.length e;rw[AC,AI] at this;exact AR (show us.length < 9901 by omega) (by decide)
   .rintro acc C3 ⟨g3,us,vs,e,hz,rfl⟩ bp hbp
    refine all_rep jQ ?_;exact q _ (g3.trans (Gr.new hbp _))
 induction d with
 |zero=>exact main 0 fun d' e=>by omega
 |succ d ih=>exact main (d+1) fun d' e=>by cases At e; exact ih
end
def xH (L:List Ad):List (mQ×PV):=L.map fun x=>(x.at_,.tup [fQ x.path,.str x.tag])
theorem Qp {x:Ad}:∀{L:List Ad},(L.map (·.at_)).Nodup->x∈L->cJ (xH L) x.at_=some (.tup [fQ x.path,.str x.tag])
 |y::L,nd,h=>by
  rw[Ac,Am] at nd;show cJ ((y.at_,PV.tup [fQ y.path,.str y.tag])::xH L) x.at_=_;rw[rJ]
  rcases Ah.1 h with rfl | h
  .rw [AW rfl]
  .rw [AT fun e=>nd.1 (by have e:y.at_=x.at_:=e; rw[e]; exact Ab.2 ⟨x,h,rfl⟩)]
   exact Qp nd.2 h
theorem put_due {L:List Ad}{x:Ad}(h:x.at_∉L.map (·.at_)):putG (xH L) x.at_ (.tup [fQ x.path,.str x.tag])=xH (L++[x]):=by
 unfold putG;rw[AT]
 .unfold xH
  rw[AQ]
  rfl
 .intro z
  refine h ?_;obtain⟨y,hy,ey⟩:=Bs.1 z;unfold xH at hy;obtain⟨u,hu,rfl⟩:=Ab.1 hy;exact Ab.2 ⟨u,hu,AX ey⟩
mutual
theorem pl_len (path:mQ):∀(x:Wt) (base:mQ),(x.pl path base).length<=x.wc
 |.plain sp tag s h r,base=>by
  rw[Wt.pl,Wt.wc,AI];have:=xD path r (base++[sp]);omega
 |.give sp n i r,base=>by
  rw[Wt.pl,Wt.wc];have:=xD path r (base++[sp]);omega
 |.part sp n g,base=>by rw[Wt.pl]; exact AV _
theorem xD (path:mQ):∀(r:List Wt) (base:mQ),(Wt.pls path base r).length<=Wt.wcs r
 |[],_=>AV _
 |x::r,base=>by
  rw[Wt.pls,Wt.wcs,AC];have:=pl_len path x base;have:=xD path r base;omega
end
theorem kA {α β:Type}{R:α->β->Prop}{xs:List α}{ys:List β}(h:Paired R xs ys):∀{i:Nat}{x:α},xs[i]?=some x->∃y,ys[i]?=some y/\R x y:=by
 induction h with
 |nil=>intro i x e; simp at e
 |cons r _ ih =>
  intro i x e
  cases i with
  |zero=>cases e; exact⟨_,rfl,r⟩
  |succ i=>exact ih e
theorem zE {S:CH->Prop}{t:TCT}{c:TCE}{ρ:CSt}{Q:K1}{C:CH}(hS:S C)(q:∀p,C p=none->Q (.ref p) (uQ C p (.lst []))):∀xs:List PV,(∀x∈xs,∀(p r:CH->Prop),r C->t (some x::ρ) C fun b C1=>if b=true then p C1 else r C1)->iV S t c ρ Q xs [] C
 |[],_=>⟨hS,q⟩
 |x::xs,h=>⟨hS,h x AD (fun C1=>c (some x::ρ) C1 fun y C2=>([]:List PV).length < sizeLine/\iV S t c ρ Q xs ([]++[y]) C2) (fun C1=>iV S t c ρ Q xs [] C1) (zE hS q xs fun y hy=>h y (AG _ hy))⟩
theorem neD_e {d:Nat}{a b:Addr}{C:CH}{Q:K1}(e1:C a=some (.lst []))(e2:C b=some (.lst []))(q:Q (.bl false) C):cNeD d (.ref a) (.ref b) C Q:=by
 unfold cNeD;dsimp only;rw[e1,e2];exact⟨rfl,fun _ z=>(nomatch z),q⟩
theorem eT {C:CH}{x y:Addr}{o:CO}(h:C x=some o)(h':C y=none):x≠y:=fun z=>by rw[z,h'] at h; cases h
theorem tk_pl {sp:List Key}:Pl 1 (aJ sp):=by
 refine .tup fun t ht=>?_;obtain⟨k,hk,rfl⟩:=Ab.1 ht
 match k with
 |.inl none=>exact .non
 |.inl (some i)=>exact .int i
 |.inr s=>exact .str s
def yS (pts:List Pt)(V:Vl):List Bx:=bts (pQ (jZ pts V)) 37 [] [] [] (pQ (jZ pts V) [])
structure TrOk (xs:List Bx)(L:List Ad):Prop where
 ok:Bx.Oks xs
 dep:Bx.deps xs<=37
 nd:((Bx.ads [] xs).map (·.at_)).Nodup
 len:(Bx.ads [] xs).length<=9900
 pm:(Bx.ads [] xs).Perm L
theorem tree_ok {pts:List Pt}(hs:gB pts){V:Vl}(hV:VOk V):TrOk (yS pts V) ((jZ pts V).flatMap plE):=by
 have ft:=(wB hs hV).2;obtain⟨a1,a3⟩:=bts_ok 37 [] [] [] _ ft (by decide);obtain⟨w1,w2,_⟩:=wk_ok 37 [] [] _ ft;have e:Bx.ads [] (yS pts V)=ZI pts V:=ads_wk _ 37 [] [] [] [] _ rfl;refine⟨a1,a3,?_,?_,?_⟩
 .rw [e]; exact w1
 .rw [e]
  unfold ZI;rw[w2];exact ft.1
 .rw [e]; exact Xr hs hV
section
variable {P:Program}{w:World}{K:DK}{mg:Str->Option Value}{base:Heap}{a:Adr}
def gLaw:GC:=fun ts C Q=>∃ns:List Int,ts=[.fz (ns.map PV.int)]/\ns.length<=63/\∀C',Q (.bl true) C'
theorem ok_law (T:Txt P w K mg a):FnOk P w K mg base CX0 120 (a.f 34) (a.d 34) ["_law_script"] (spC K gLaw):=by
 have S:=(T.F 34 rfl).s;have Vt:=(ok_tape (base:=base) T).mono (show 1<=119 by decide);have Zy:=(JK (base:=base) T).mono (show 26<=119 by decide);have Ql:=(XJ (base:=base) T).mono (show 38<=119 by decide);have bF:=(pT (base:=base) T).mono (show 37<=119 by decide);have Zw:=(gA (base:=base) T).mono (show 75<=119 by decide);have kG:=(XM (base:=base) T 6).mono (show 8<=119 by decide);have tW:=(gC (base:=base) T 37).mono (show 39<=119 by decide)
 have mB:=(XL (base:=base) T 37).mono (show 39<=119 by decide)
 refine(T.F 34 rfl).ok (fun ts C R h=>?_) fun cdv A outer s H E hr=>⟨_,(xQ (cs1 1 S.nd (cf (T.F 7 rfl) Vt hr (ca1 (cv 0))))
  (xQ (cs1 2 S.nd (cf (T.F 22 rfl) Zy hr (ca1 (cv 1))))
  (xQ (cs1 3 S.nd (cf (T.F 28 rfl) bF hr (qQ (cv 2) (ca1 (cf (T.F 30 rfl) Ql hr (qQ (cv 1) (ca1 (cv 2))))))))
  (xQ (cs1 4 S.nd (cf (T.F 0 rfl) Zw hr (ca1 (cv 3))))
  (xQ (cs1 5 S.nd gD)
  (xQ (mW PassesOwn.never rfl (cv 3) (cg1 6 S.nd) (kQ (mW PassesOwn.never rfl (cf (T.F 31 rfl) kG hr (qQ (cx (cv 6) zQ) (qQ (cx (cx (cv 6) zQ) zQ) (ca1 (cx (cv 6) zQ))))) (iY rfl (jX (cg1 7 S.nd) (jX (cg1 8 S.nd) (jX (cg1 9 S.nd) uV)))) (kQ (wD (vK hr) (cv 5) (cv 7) (bQ (qQ (cv 8) (ca1 (cv 9)))))))))
  (xQ (cs1 10 S.nd (cf (T.F 32 rfl) tW hr (qQ (cv 4) (ca1 (bQ eX)))))
  (xQ (uX (cw_pt (cw_or (ct_not (lI (cf (T.F 33 rfl) mB hr (ca1 (cv 4))))) (cw_or1 (ct2 Jx nI (cln T.vJ (cv 10)) (fJ Zm Ve rfl T.vJ rfl (ca1 (cv 5))))))) (kQ (cQ Xa)) aQ)
  (xQ (mW PassesOwn.never rfl (cv 10) (iY rfl (jX (cg1 7 S.nd) (jX (cg1 11 S.nd) (jX (cg1 9 S.nd) uV)))) (kQ (cs_ifAt 8 (cw_pt (cw_or (xP (op_pnin (vK hr)) KU (cv 7) (cv 5) rfl) (cw_or (ct2 Jx nI (cx (xF (vK hr) (cv 5) (cv 7) (fun _ _=>rfl)) zQ) (cv 9)) (cw_or1 (ct2 (op_neD (d:=0) (rX hr)) cop_neD (iG rfl (show(["_law_path","_law_script","_law_tape_here","_law_house_here","_law_drawing","_law_tree","_law_due","_law_entry","_law_spots","?","_law_tag","_law_rows","_law_paths"]:List Str).Nodup by decide +kernel) (wY (N:=["_law_script","_law_tape_here","_law_house_here","_law_drawing","_law_tree","_law_due","_law_entry","_law_spots","?","_law_tag","_law_rows","_law_paths"]) (sc:=xX (top 43)) rfl rfl rfl (by decide +kernel)) (cv 11) (fun _ _ _ _ _=>(K7 (ct2 (op_neU (d:=1) (vK hr)) cop_neU (cv 0) (cx (xF (vK hr) (cv 6) (cv 8) (fun _ _=>rfl)) zQ)))) (fun _ _ _ _ _=>(cv 0))) (nX eX)))))) (kQ (cQ Xa)) aQ)))
  (kQ (cQ Xa))))))))))),?_⟩
 .obtain ⟨ns,rfl,_⟩:=h; rfl
 rintro ts C R ⟨ns,rfl,hl,q⟩;refine yQ ?_;refine⟨ns,rfl,hl,fun t C1 n1 e1 T1=>?_⟩
 try dsimp only
 refine yQ ?_;refine⟨t,ns,rfl,T1,fun pts C2 hs T2 e2=>?_⟩
 try dsimp only
 have pv:∀V,PV.tup (bxs (pQ (jZ pts V)) 37 [] [] [] (pQ (jZ pts V) []))=.tup (Bx.pvs (yS pts V)):=fun V=>by unfold yS; rw[bts_pv]
 refine yQ ?_;refine⟨t,pts,ns,rfl,T2,hs,fun vv V C3 hV n3 m3 nvt T3 e3=>?_⟩;refine⟨pts,vv,V,rfl,hs,hV,m3,fun p1 C4 n4 m4 g4=>?_⟩;have tM:(jZ pts V).length<=559:=KK hs hV (sK hs)
 try dsimp only
 refine yQ ?_;refine⟨p1,jZ pts V,rfl,m4,KI hs hV 6 0 _ (sK hs),by omega,(wB hs hV).1,(wB hs hV).2,fun C5 g5=>?_⟩;rw[pv]
 try dsimp only
 refine yQ ?_;intro dd hdd;have m5:=g5 _ _ m4;have ndd:p1≠dd:=eT m5 hdd
 have mem:∀e∈jZ pts V,(∃rs,∀x∈e.pc.row,WtOk rs 6 x)/\e.x.path.length+6<=600/\(plE e).length<=48:=by
  intro e he;obtain⟨k',du,epc⟩:=KJ hs hV 6 0 _ (sK hs) e he;obtain⟨y,ha⟩:=bE hs hV du
  have hkl:k' < pts.length:=by
   have:=(AU.1 du.nm).1;unfold bZ at this;rw[AA] at this;exact this
  have h6:=hs.n6;have hpl:=du.pl;refine⟨⟨_,by rw[epc]; exact ha.row.1⟩,by omega,?_⟩;have h1:=xD e.x.path e.pc.row e.x.path;have h2:=ha.wcs;rw[<- epc] at h2;exact Ae h1 h2
 have tok:=tree_ok hs hV;generalize yS pts V=tb at tok ⊢;clear pv;generalize jZ pts V=D at m4 m5 tM mem tok;have ndL:((D.flatMap plE).map (·.at_)).Nodup:=(tok.pm.map (·.at_)).nodup_iff.1 tok.nd;have lenL:(D.flatMap plE).length<=9900:=by rw[<- tok.pm.length_eq]; exact tok.len
 have tk1:∀{i:Nat} {en:En},D[i]?=some en->(D.take (i+1)).flatMap plE=(D.take i).flatMap plE++plE en:=by
  intro i en he;rw[Bl,he,Ba];show _++(plE en++[])=_;rw[AZ]
 have sub:∀i,((D.take i).flatMap plE).Sublist (D.flatMap plE):=by
  intro i;have e:D.flatMap plE=(D.take i).flatMap plE++(D.drop i).flatMap plE:=by rw[<- Ba,DE]
  rw[e];exact List.sublist_append_left _ _
 try dsimp only
 refine dX ?_;refine⟨D.length+1,?_⟩;refine tK (xs:=D.map En.pv) (fun i ρ C'=>C' p1=some (.lst (D.map En.pv))/\∃(x0 x1 x2 x6 x7 x8 x9:Option PV),i<=D.length/\ρ=[x0,x1,x2,some (.ref p1),some (.tup (Bx.pvs tb)),some (.ref dd),x6,x7,x8,x9,none,none]/\C' dd=some (.dP (xH ((D.take i).flatMap plE)))) (fun _ _ _ h=>h.1) ?_ ?_ _ 0 _ _ ⟨by rw[wQ ndd]; exact m5,_,_,_,_,_,_,_,AV _,rfl,jQ⟩ (by rw[AA]; omega) (AV _)
 .rintro i z ρ C6 hz ⟨m6,x0,x1,x2,x6,x7,x8,x9,hi,rfl,md⟩ L1 hL
  rw[Aj] at hz
  cases he:D[i]? with
  |none=>rw[he] at hz; cases hz
  |some en =>
  rw[he] at hz;cases hz;have hmem:=Al he;have hi':i < D.length:=(AU.1 he).1;obtain⟨⟨rs,w6⟩,hpl,ln⟩:=mem en hmem;have hv:en.pv=.tup [fQ en.x.path,.str en.x.name,.tup (en.x.gives.map rQ),.tup (en.x.downs.map rQ),en.pc.pv]:=rfl;have s1:=sub (i+1);rw[tk1 he] at s1;have l1:=s1.length_le;rw[AC] at l1;refine tQ hv (v:=fQ en.x.path) rfl ?_;refine tQ hv (v:=en.pc.pv) rfl ?_
  refine hX (xs:=[.tup (en.pc.reads.map tU),.tup (Wt.pvs en.pc.row),.tup (en.pc.works.map rQ)]) (v:=.tup (Wt.pvs en.pc.row)) rfl ?_;refine tQ hv (v:=fQ en.x.path) rfl ?_;refine⟨en.x.path,en.pc.row,en.x.path,rs,rfl,w6,hpl,Ae ln (by decide),fun pp C7 n7 m7 g7=>?_⟩;have m7:C7 pp=some (.lst ((plE en).map xC)):=m7;have npd:pp≠dd:=(eT md n7).symm;refine⟨(plE en).length+1,?_⟩;refine tK (xs:=(plE en).map xC) (fun j ρ C'=>C' pp=some (.lst ((plE en).map xC))/\C' p1=some (.lst (D.map En.pv))/\∃(x0 x1 x2 x6 x7 x8 x9:Option PV),j<=(plE en).length/\ρ=[x0,x1,x2,some (.ref p1),some (.tup (Bx.pvs tb)),some (.ref dd),x6,x7,x8,x9,none,none]/\C' dd=some (.dP (xH ((D.take i).flatMap plE++(plE en).take j)))) (fun _ _ _ h=>h.1) ?_ ?_ _ 0 _ _ ⟨m7,g7 _ _ m6,_,_,_,_,_,_,_,AV _,rfl,by rw[List.take_zero,AZ]; exact g7 _ _ md⟩ (by rw[AA]; omega) (AV _)
  .rintro j z ρ C8 hz ⟨m8,q8,y0,y1,y2,y6,y7,y8,y9,hj,rfl,d8⟩ L2 hL2
   rw[Aj] at hz
   cases hx:(plE en)[j]? with
   |none=>rw[hx] at hz; cases hz
   |some x =>
   rw[hx] at hz;cases hz;have hj':j < (plE en).length:=(AU.1 hx).1;have ej:(plE en).take (j+1)=(plE en).take j++[x]:=by rw[Bl,hx]; rfl
   have nin:x.at_∉((D.take i).flatMap plE++(plE en).take j).map (·.at_):=by
    have s2:((D.take i).flatMap plE++(plE en).take j++[x]).Sublist (D.flatMap plE):=by
     rw[AK,<- ej];exact((List.Sublist.refl _).append (Cg _ _)).trans s1
    have n2:=ndL.sublist (s2.map (·.at_));rw[AQ,A8] at n2;intro hm;exact n2.2.2 _ hm _ (by simp) rfl
   refine⟨rfl,?_⟩;refine fX (fX (fX (sY ?_)))
   try dsimp only
   refine⟨zz 2 rfl,?_⟩;refine jC d8 (aZ _) ?_ ?_
   .unfold xH
    rw[AA,AC,BQ];omega
   rw[put_due nin,AK,<- ej];refine hL2 _ _ ⟨by rw[wQ npd]; exact m8,by rw[wQ ndd]; exact q8,_,_,_,_,_,_,_,hj',rfl,jQ⟩
  .rintro ρ C8 ⟨m8,q8,y0,y1,y2,y6,y7,y8,y9,hj,rfl,d8⟩
   rw[AA,A6 (AJ _),<- tk1 he] at d8;exact hL _ _ ⟨q8,_,_,_,_,_,_,_,hi',rfl,d8⟩
 .rintro ρ C6 ⟨m6,x0,x1,x2,x6,x7,x8,x9,hi,rfl,md⟩
  rw[AA,A6 (AJ _)] at md
  try dsimp only
  refine yQ ?_;refine⟨zz 0 rfl,?_⟩;refine⟨tb,[],rfl,tok.ok,tok.dep,by decide,tok.len,fun rp C7 rows r0 mr ar g7=>?_⟩;have md7:=g7 _ _ md
  try dsimp only
  refine dX ?_;refine⟨tb,[],rfl,tok.ok,tok.dep,tok.nd,tok.len,fun C8 g8=>?_⟩;refine onot ?_;have mr8:=g8 _ _ mr;have md8:=g8 _ _ md7;have ar8:=ar.gr g8;have hrl:rows.length=(D.flatMap plE).length:=by rw[<- tok.pm.length_eq]; exact Paired.length ar
  refine wG mr8 ?_;refine lenQ_s md8 ?_;refine mX (oX _ _) ?_;refine vZ (by rw[Af (by unfold xH; rw[AA,hrl])]; rfl) ?_;refine bX ?_
  try dsimp only
  refine dX ?_;refine⟨rows.length+1,?_⟩;refine tK (xs:=rows) (fun i ρ C'=>C' rp=some (.lst rows)/\Gr C8 C'/\∃(x0 x1 x2 x3 x4 x6 x7 x8 x9 x10 x11:Option PV),ρ=[x0,x1,x2,x3,x4,some (.ref dd),x6,x7,x8,x9,x10,x11]) (fun _ _ _ h=>h.1) ?_ ?_ _ 0 _ _ ⟨mr8,Gr.refl,_,_,_,_,_,_,_,_,_,_,_,rfl⟩ (by omega) (AV _)
  .rintro i z ρ C9 hz ⟨m9,g9,y0,y1,y2,y3,y4,y6,y7,y8,y9,y10,y11,rfl⟩ L1 hL
   obtain⟨x,hx,lp,rfl,ml⟩:=kA ar8 hz;have hxm:x∈D.flatMap plE:=tok.pm.mem_iff.1 (Al hx);have md9:=g9 _ _ md8;have ml9:=g9 _ _ ml;have hv:=Qp ndL hxm;refine⟨rfl,?_⟩;refine fX (fX (fX (sY ?_)))
   try dsimp only
   refine pnin_s md9 (aZ _) ?_;refine vZ (by rw[hv]; rfl) ?_;refine nH md9 (aZ _) hv ?_;refine hX (xs:=[fQ x.path,.str x.tag]) (v:=.str x.tag) rfl ?_;refine mX (lQ _ _) ?_;refine vZ (by rw[Af rfl]; rfl) ?_;refine K4 ml9 rfl ?_;refine zE ml9 (fun ep hep=>?_) _ fun u hu p r hr'=>?_
   .refine ⟨zz 0 rfl,fun fp hfp=>?_⟩
    have g10:Gr C9 (uQ (uQ C9 ep (.lst [])) fp (.lst [])):=(Gr.new hep _).trans (Gr.new hfp _);refine neD_e (Gr.new hfp _ _ _ jQ) jQ ?_;refine vZ rfl ?_;refine bX ?_;exact hL _ _ ⟨g10 _ _ m9,g9.trans g10,_,_,_,_,_,_,_,_,_,_,_,rfl⟩
   .cases List.eq_of_mem_replicate hu
    refine nH md9 (aZ _) hv ?_;refine hX (xs:=[fQ x.path,.str x.tag]) (v:=fQ x.path) rfl ?_;refine neU_s (fun t ht=>?_) ?_
    .obtain ⟨sp,_,rfl⟩:=Ab.1 ht
     exact tk_pl
    exact vZ rfl hr'
  .rintro ρ C9 _
   exact q C9
end
theorem fO {K:DK}{H:Hp}:∀ns:List Int,Reps K H (ns.map V.int) (ns.map PV.int)
 |[]=>.nil
 |n::ns=>.cons (.int n) (fO ns)
theorem walk {l:PySem.W.OpenLaw}{q:Program}{loose:List Str}{XP:(Str->Option Value)->Heap->Prop}{YP:World->Heap->Prop}{d:DefRec}{K:Params->DK}(hn:l.most=some 63)(hdf:d.params.defaults=[])(hnm:d.name = "law")
  (hY:∀(w:World) (h:Heap),YP w h->(K w.params).In h)
  (F:∀(w:World) (mg:Str->Option Value) (h:Heap),(K w.params).In h->h.Ns mainGlobals mg->∃a:Adr,Txt l.prog w (K w.params) mg a) :
  PySem.W.WalkO q loose XP YP l.row.toRowW d [] (fun f vs=>PySem.call f vs):=by
 refine L2.walk_of (n:=63) (k:=120) (x:="_law_script") (CX:=fun _=>CX0) (sp:=fun w=>spC (K w.params) gLaw) hn (by decide) hdf ⟨rfl,by decide,by decide⟩ hY ?_ (fun w H a ns hl hO hS=>?_) fun _ _ _ _ _ z=>z
 .intro w mg fa h KX G hmg
  obtain⟨a,T⟩:=F w mg h KX G;rw[hnm] at hmg;have e:=hmg.symm.trans ((T.F 34 rfl).m rfl);cases e;obtain⟨_,_,_,_,_,_,_,_,_,e2,_⟩:=(T.F 34 rfl).F.ex;refine⟨a.d 34,?_,fun base _ _=>ok_law T⟩;rw[e2];exact fun s u=>.of_eq rfl
 .have hz:Fz (K w.params) H a (ns.map V.int):=by
   rcases hS with hS | hS
   .rcases hS with hS | ⟨o,hS⟩
    .rcases hO a with h | ⟨o,xs,h⟩
     .rw [hS] at h; cases h
     .rw [hS] at h; cases h
    .exact .inl ⟨o,hS⟩
   .exact .inr hS
  refine⟨[.fz (ns.map PV.int)],fun _=>none,fun v _=>v=.bl true,.cons (.fz hz (fO ns)) .nil,(fun _ _ z=>nomatch z),⟨ns,rfl,hl,fun _=>rfl⟩,?_⟩;rintro v H' t C' rfl r h' f';cases r
  rfl
end K32
open PySem PySem.W PyProof.Rows
namespace PySem.W.Fast
theorem tw10046418371643358008:True:=⟨⟩
theorem tw10407798517144737655:True:=⟨⟩
theorem tw10587688457047646702:True:=⟨⟩
theorem tw10765831665536407457:True:=⟨⟩
theorem tw11008794475540121048:True:=⟨⟩
theorem tw11217194909082878970:True:=⟨⟩
theorem tw11414446999210752712:True:=⟨⟩
theorem tw11529208720142331989:True:=⟨⟩
theorem tw11529908132147008590:True:=⟨⟩
theorem tw11744414776538251818:True:=⟨⟩
theorem tw11805441638818429670:True:=⟨⟩
theorem tw11903747463262075540:True:=⟨⟩
theorem tw12043401014030896238:True:=⟨⟩
theorem tw12084905652594328648:True:=⟨⟩
theorem tw12110252628735368357:True:=⟨⟩
theorem tw12178367047412225474:True:=⟨⟩
theorem tw12179697184609989923:True:=⟨⟩
theorem tw12235472452649563299:True:=⟨⟩
theorem tw12260405867390140073:True:=⟨⟩
theorem tw12602338322974371569:True:=⟨⟩
theorem tw12841896640446528621:True:=⟨⟩
theorem tw12978216647467577474:True:=⟨⟩
theorem tw13015712270356497022:True:=⟨⟩
theorem tw13137233876766981170:True:=⟨⟩
theorem tw1337001705347487989:True:=⟨⟩
theorem tw13485196878927809187:True:=⟨⟩
theorem tw13650435312003030012:True:=⟨⟩
theorem tw13868902281856665035:True:=⟨⟩
theorem tw14002976521247035401:True:=⟨⟩
theorem tw14507304672593007834:True:=⟨⟩
theorem tw14563056137124163237:True:=⟨⟩
theorem tw14690258744678005640:True:=⟨⟩
theorem tw14713599684022112553:True:=⟨⟩
theorem tw15481764010660529379:True:=⟨⟩
theorem tw15547095184443995230:True:=⟨⟩
theorem tw15588183883771926518:True:=⟨⟩
theorem tw15928829792727839746:True:=⟨⟩
theorem tw15948363235736229097:True:=⟨⟩
theorem tw15961757648326718344:True:=⟨⟩
theorem tw15985268889178344750:True:=⟨⟩
theorem tw15996726450916599519:True:=⟨⟩
theorem tw16099078412877317854:True:=⟨⟩
theorem tw16270903720269907079:True:=⟨⟩
theorem tw16463591347963176801:True:=⟨⟩
theorem tw16524844890219163356:True:=⟨⟩
theorem tw16804215771458607832:True:=⟨⟩
theorem tw16848358008484789344:True:=⟨⟩
theorem tw17050711789039650501:True:=⟨⟩
theorem tw17164681853542126823:True:=⟨⟩
theorem tw1726403567341494513:True:=⟨⟩
theorem tw17421508237949047761:True:=⟨⟩
theorem tw17425924456553439143:True:=⟨⟩
theorem tw17468633880071992780:True:=⟨⟩
theorem tw17707851206969929090:True:=⟨⟩
theorem tw18075704336659957685:True:=⟨⟩
theorem tw18100976044874748313:True:=⟨⟩
theorem tw18120853090987502143:True:=⟨⟩
theorem tw18145147233193669837:True:=⟨⟩
theorem tw18157431409718493698:True:=⟨⟩
theorem tw18233803886779344537:True:=⟨⟩
theorem tw18404350763146646434:True:=⟨⟩
theorem tw2159584840162751321:True:=⟨⟩
theorem tw2280682659130216636:True:=⟨⟩
theorem tw2408101065964313533:True:=⟨⟩
theorem tw2447189513168886678:True:=⟨⟩
theorem tw2563335673436015331:True:=⟨⟩
theorem tw2719312683141753677:True:=⟨⟩
theorem tw2913376154728956580:True:=⟨⟩
theorem tw2918313076724701421:True:=⟨⟩
theorem tw2923231403294241386:True:=⟨⟩
theorem tw3048056837055350399:True:=⟨⟩
theorem tw3068836936511500126:True:=⟨⟩
theorem tw3436938008646666773:True:=⟨⟩
theorem tw3459584859260063982:True:=⟨⟩
theorem tw3514252374048106826:True:=⟨⟩
theorem tw3563790996268100320:True:=⟨⟩
theorem tw3575735528200780806:True:=⟨⟩
theorem tw3697561039448919983:True:=⟨⟩
theorem tw4024509575989756539:True:=⟨⟩
theorem tw4247062635111531335:True:=⟨⟩
theorem tw4418665575195691330:True:=⟨⟩
theorem tw4648985775148530907:True:=⟨⟩
theorem tw4731991133599053080:True:=⟨⟩
theorem tw474644231824325316:True:=⟨⟩
theorem tw4881185164689907432:True:=⟨⟩
theorem tw5069481669584530093:True:=⟨⟩
theorem tw5309827599715325140:True:=⟨⟩
theorem tw5380412705773824625:True:=⟨⟩
theorem tw540311506710103687:True:=⟨⟩
theorem tw5483797741459322731:True:=⟨⟩
theorem tw5604922583789004566:True:=⟨⟩
theorem tw5806640838309314441:True:=⟨⟩
theorem tw5897642563716852773:True:=⟨⟩
theorem tw5983505670712192493:True:=⟨⟩
theorem tw6188812382878329124:True:=⟨⟩
theorem tw647078357555505567:True:=⟨⟩
theorem tw6654472012702196275:True:=⟨⟩
theorem tw6971685366387541385:True:=⟨⟩
theorem tw7109872965136872284:True:=⟨⟩
theorem tw7153323629415560482:True:=⟨⟩
theorem tw7252554929880408616:True:=⟨⟩
theorem tw7254061311905902886:True:=⟨⟩
theorem tw7318564628908695180:True:=⟨⟩
theorem tw749573690892037707:True:=⟨⟩
theorem tw7621482829339120513:True:=⟨⟩
theorem tw7750870837059657586:True:=⟨⟩
theorem tw8252497660219047514:True:=⟨⟩
theorem tw8270633673806325995:True:=⟨⟩
theorem tw8443999526286738337:True:=⟨⟩
theorem tw8489234633330069010:True:=⟨⟩
theorem tw8545864837163520730:True:=⟨⟩
theorem tw8597836583673518982:True:=⟨⟩
theorem tw8699360380407727437:True:=⟨⟩
theorem tw891634316015815349:True:=⟨⟩
theorem tw9319048938251090684:True:=⟨⟩
theorem tw9379241006141192587:True:=⟨⟩
theorem tw9392234555609787126:True:=⟨⟩
theorem tw9545518788745340709:True:=⟨⟩
theorem tw9558962341699049747:True:=⟨⟩
theorem tw9581622135500254340:True:=⟨⟩
theorem tw9625282422690799303:True:=⟨⟩
theorem tw9777506401107601917:True:=⟨⟩
theorem tw9809921208886016072:True:=⟨⟩
theorem tw9851376403064964835:True:=⟨⟩
theorem tw9978008473872365968:True:=⟨⟩
end PySem.W.Fast
set_option maxRecDepth 100000 in
set_option maxHeartbeats 0 in
theorem PySem.Challenge.cw_viewwood_k32_labels_and_hands_holds : PySem.Challenge.rw_viewwood_k32_labels_and_hands.Holds := by
 w_on; o_law; k_head; (case hw=>w_witness2)
 k_fill
 refine K32.walk (l:=PySem.Challenge.rw_viewwood_k32_labels_and_hands) rfl rfl rfl (fun w h Y=>PySem.W.kIn_of Y) ?F
 case F =>
  intro w mg h KX G;refine K32.txt_mk KX G ?_ (by k_is) (by k_is) (by k_is) (by k_is) (by k_is) (by k_is) (by k_is) (by k_is) (by k_is) (by k_is) (by k_is) (by k_is) (by k_is) (by k_is) (by k_is) (by k_is) (by k_is) (by k_is) (by k_is) (by k_is) (by k_is) (by k_is) (by k_is) (by k_is);unfold K32.tab
  repeat first | refine⟨⟨_,_,_,_,_,_,_,_,_,_,by k_is,by k_is,by k_is,by k_is⟩,?_⟩ | refine⟨⟨_,_,_,_,_,_,_,_,_,_,_,by k_is,by k_is,by k_is,by k_is,by k_is,by k_is⟩,?_⟩
  exact trivial
