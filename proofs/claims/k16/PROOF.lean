import PyProof.Rows.All
import Wide.All
import OpenK.AllK
import Wide.FinOn
import Lean
import PyProof.EqAt
import PyProof.EqKinds
import PyProof.TupleCall
import PyProof.DictUpdate
import KE.KDictOf
import PyProof.AttrMissHeap
import KE.KSortTup
import KE.KItemsList
import PyProof.DictWalks
import PyProof.Rows.TupDisplay
import KE.KEqDict
import PyProof.NeKinds
import KE.KRevIter
import PyProof.ListRange
import PyProof.MeetsStr
import PyProof.StrLawsJoin
import PyProof.FitsInt
import PyProof.ZipIter
import KE.KDictSum
import PyProof.ExcBaseAll.ValueError
import PyProof.FString
import PyProof.RaisesMany
import PyProof.RulesDel
import PyProof.RulesAs
import KE.KTryMore
import PyProof.ExcArgs
import PyProof.ReprNest
import PyProof.ReprReads
import PyProof.StrCalls2
import PyProof.EnumMake
import KE.KIntText
import PySem.Challenge.RW_viewwood_k16_refusals_apart
theorem nI {p q:Prop}{g:Prop}(h:p/\q)(k:p->q->g):g:=by obtain⟨x0,x1⟩:=h;exact k x0 x1
theorem el04 {p q r s:Prop}{g:Prop}(h:p/\q/\r/\s)(k:p->q->r->s->g):g:=by obtain⟨x0,x1,x2,x3⟩:=h;exact k x0 x1 x2 x3
theorem el05 {p q r s t:Prop}{g:Prop}(h:p/\q/\r/\s/\t)(k:p->q->r->s->t->g):g:=by obtain⟨x0,x1,x2,x3,x4⟩:=h;exact k x0 x1 x2 x3 x4
theorem el06 {p q r s t o:Prop}{g:Prop}(h:p/\q/\r/\s/\t/\o)(k:p->q->r->s->t->o->g):g:=by obtain⟨x0,x1,x2,x3,x4,x5⟩:=h;exact k x0 x1 x2 x3 x4 x5
theorem el11 {A:Sort _}{p:A->Prop}{g:Prop}(h:∃a,p a)(k:∀a,p a->g):g:=by obtain⟨a,x0⟩:=h;exact k a x0
theorem wJ {A:Sort _}{p q:A->Prop}{g:Prop}(h:∃a,p a/\q a)(k:∀a,p a->q a->g):g:=by obtain⟨a,x0,x1⟩:=h;exact k a x0 x1
theorem lI {A:Sort _}{p q r:A->Prop}{g:Prop}(h:∃a,p a/\q a/\r a)(k:∀a,p a->q a->r a->g):g:=by obtain⟨a,x0,x1,x2⟩:=h;exact k a x0 x1 x2
theorem el14 {A:Sort _}{p q r s:A->Prop}{g:Prop}(h:∃a,p a/\q a/\r a/\s a)(k:∀a,p a->q a->r a->s a->g):g:=by obtain⟨a,x0,x1,x2,x3⟩:=h;exact k a x0 x1 x2 x3
theorem el21 {A:Sort _}{B:Sort _}{p:A->B->Prop}{g:Prop}(h:∃a b,p a b)(k:∀a b,p a b->g):g:=by obtain⟨a,b,x0⟩:=h;exact k a b x0
theorem el22 {A:Sort _}{B:Sort _}{p q:A->B->Prop}{g:Prop}(h:∃a b,p a b/\q a b)(k:∀a b,p a b->q a b->g):g:=by obtain⟨a,b,x0,x1⟩:=h;exact k a b x0 x1
theorem XU {A:Sort _}{B:Sort _}{p q r:A->B->Prop}{g:Prop}(h:∃a b,p a b/\q a b/\r a b)(k:∀a b,p a b->q a b->r a b->g):g:=by obtain⟨a,b,x0,x1,x2⟩:=h;exact k a b x0 x1 x2
theorem el24 {A:Sort _}{B:Sort _}{p q r s:A->B->Prop}{g:Prop}(h:∃a b,p a b/\q a b/\r a b/\s a b)(k:∀a b,p a b->q a b->r a b->s a b->g):g:=by obtain⟨a,b,x0,x1,x2,x3⟩:=h;exact k a b x0 x1 x2 x3
theorem el25 {A:Sort _}{B:Sort _}{p q r s t:A->B->Prop}{g:Prop}(h:∃a b,p a b/\q a b/\r a b/\s a b/\t a b)(k:∀a b,p a b->q a b->r a b->s a b->t a b->g):g:=by obtain⟨a,b,x0,x1,x2,x3,x4⟩:=h;exact k a b x0 x1 x2 x3 x4
theorem el33 {A:Sort _}{B:Sort _}{C:Sort _}{p q r:A->B->C->Prop}{g:Prop}(h:∃a b c,p a b c/\q a b c/\r a b c)(k:∀a b c,p a b c->q a b c->r a b c->g):g:=by obtain⟨a,b,c,x0,x1,x2⟩:=h;exact k a b c x0 x1 x2
theorem qX {A:Sort _}{B:Sort _}{C:Sort _}{p q r s:A->B->C->Prop}{g:Prop}(h:∃a b c,p a b c/\q a b c/\r a b c/\s a b c)(k:∀a b c,p a b c->q a b c->r a b c->s a b c->g):g:=by obtain⟨a,b,c,x0,x1,x2,x3⟩:=h;exact k a b c x0 x1 x2 x3
theorem el45 {A:Sort _}{B:Sort _}{C:Sort _}{D:Sort _}{p q r s t:A->B->C->D->Prop}{g:Prop}(h:∃a b c d,p a b c d/\q a b c d/\r a b c d/\s a b c d/\t a b c d)(k:∀a b c d,p a b c d->q a b c d->r a b c d->s a b c d->t a b c d->g):g:=by obtain⟨a,b,c,d,x0,x1,x2,x3,x4⟩:=h;exact k a b c d x0 x1 x2 x3 x4
theorem el46 {A:Sort _}{B:Sort _}{C:Sort _}{D:Sort _}{p q r s t o:A->B->C->D->Prop}{g:Prop}(h:∃a b c d,p a b c d/\q a b c d/\r a b c d/\s a b c d/\t a b c d/\o a b c d)(k:∀a b c d,p a b c d->q a b c d->r a b c d->s a b c d->t a b c d->o a b c d->g):g:=by obtain⟨a,b,c,d,x0,x1,x2,x3,x4,x5⟩:=h;exact k a b c d x0 x1 x2 x3 x4 x5
set_option Elab.async false
set_option linter.all false
set_option maxRecDepth 100000
set_option maxHeartbeats 4000000
theorem zS0(n:Nat)(h:n.ble 99=true):n<=PySem.sizeLine:=Nat.le_trans (Nat.le_of_ble_eq_true h) (by decide)
abbrev AA:=@PySem.wpAny_bind
abbrev AB:=@PySem.wpAny_pure
abbrev AC:=@PySem.Heap.get?_push_of_some
abbrev AD:=@Nat.lt_of_lt_of_le
abbrev AE:=@Bool.false_ne_true
abbrev AF:=@PySem.Heap.lt_size
abbrev AG:=@PySem.W.mg_of
abbrev AH:=@of_decide_eq_true
abbrev AI:=@Nat.le_refl
abbrev AJ:=@List.mem_cons_of_mem
abbrev AK:=@List.size_toArray
abbrev AL:=@List.length_map
abbrev AM:=@Nat.ne_of_lt
abbrev AN:=@List.getElem?_eq_getElem
abbrev AO:=@Nat.le_trans
abbrev AQ:=@PySem.Heap.get?_push_size
abbrev AR:=@if_neg
abbrev AS:=@PySem.wpAny_ite_split
abbrev AU:=@decide_eq_false
abbrev AV:=@if_pos
abbrev AW:=@List.mem_cons_self
abbrev AX:=@List.getElem?_eq_some_iff
abbrev AY:=@PySem.Heap.get?_update_other
abbrev AZ:=@List.length_cons
abbrev Aa:=@Nat.zero_le
abbrev Ab:=@PySem.W.mg_none_of
abbrev Ac:=@List.mem_append_right
abbrev Ad:=@List.append_nil
abbrev Ae:=@Option.some.inj
abbrev Af:=@PySem.wpAny_truthy_bool
abbrev Ag:=@List.mem_cons
abbrev Ah:=@List.getElem?_map
abbrev Ai:=@PySem.wpAny_specialOf
abbrev Aj:=@PySem.wpAny_mono
abbrev Ak:=@List.mem_of_getElem?
abbrev Al:=@List.length_append
abbrev Am:=@Array.getElem?_eq_some_iff
abbrev An:=@PySem.wpAny_holding
abbrev Ao:=@PySem.wpAny_forIn_list
abbrev Ap:=@List.length_replicate
abbrev Aq:=@PySem.W.kia_one
abbrev Ar:=@PySem.wpAny_Call_Name_kw
abbrev As:=@PySem.W.Looks.here
abbrev Au:=@List.map_cons
abbrev Av:=@List.replicate_succ
abbrev Aw:=@PySem.wpAny_callSpecialIfBoundUnlessNone?_slot
abbrev Ax:=@PySem.Heap.get?_update_self
abbrev Ay:=@PySem.F.slot_tuple_hash
abbrev Az:=@PySem.call_meets
abbrev A0:=@PySem.wpAny_call_entry
abbrev A1:=@Bool.and_eq_true
abbrev A2:=@of_decide_eq_false
abbrev A3:=@PySem.W.callWith_K
abbrev A4:=@PySem.isSubtype_tuple_tuple
abbrev A5:=@PySem.F.slot_tuple_eq
abbrev A6:=@PySem.wpAny_call
abbrev A7:=@decide_eq_true
abbrev A8:=@PySem.wpAny_tupleItemsOf
abbrev A9:=@Nat.lt_of_le_of_lt
abbrev BA:=@List.mem_map
abbrev BB:=@List.getElem?_set_self
abbrev BC:=@Array.forIn_toList
abbrev BD:=@PySem.wpAny_passesOwn
abbrev BE:=@congrArg
abbrev BF:=@Nat.lt_irrefl
abbrev BG:=@PyProof.Rows.callWith_type1
abbrev BH:=@List.flatten_cons
abbrev BI:=@PySem.wpAny_rule
abbrev BJ:=@PySem.wpAny_load
abbrev BK:=@beq_iff_eq
abbrev BL:=@PySem.F.slot_NoneType_hash
abbrev BM:=@PySem.F.excBase_ValueError
abbrev BN:=@Nat.le_succ
abbrev BO:=@PySem.wpAny_isInstance
abbrev BP:=@PySem.codeAny_mono
abbrev BQ:=@List.all_eq_true
abbrev BR:=@List.drop_eq_getElem_cons
abbrev BS:=@beq_eq_false_iff_ne
abbrev BU:=@PySem.mem_of_lookup
abbrev BV:=@PySem.wpAny_standAt
abbrev BW:=@PySem.wpAny_execs_nil
abbrev BX:=@PySem.wpAny_dictEpoch
abbrev BY:=@List.nodup_cons
abbrev BZ:=@Bool.eq_iff_iff
abbrev Ba:=@PySem.F.plainAttrs_list
abbrev Bb:=@PySem.wpAny_loadPart_at
abbrev Bc:=@PySem.wpAny_loadPart
abbrev Bd:=@PySem.eqIsQuiet_byValue
abbrev Be:=@PySem.F.slot_bool_hash
abbrev Bf:=@List.map_map
abbrev Bg:=@PySem.Heap.size_push
abbrev Bh:=@PySem.plainObj_wpAny_Assign_Attribute
abbrev Bi:=@Array.getElem?_toList
abbrev Bj:=@PySem.typeIs_str
abbrev Bk:=@PySem.F.slot_tuple_mul
abbrev Bl:=@List.any_cons
abbrev Bm:=@PySem.W.looks_mroIn
abbrev Bn:=@PySem.codeAny_call_builtin
abbrev Bo:=@List.getElem?_set_ne
abbrev Bp:=@PySem.SeqAt.EqAt.same
abbrev Bq:=@Nat.ne_of_gt
abbrev Br:=@Nat.le_of_eq
abbrev Bs:=@PySem.tupleKind_room_in1
abbrev Bt:=@List.mem_range
abbrev Bu:=@List.getElem?_append_right
abbrev Bv:=@Int.emod_lt_of_pos
abbrev Bw:=@PySem.F.args_tuple_add_2
abbrev Bx:=@PySem.F.entry_tuple_add
abbrev By:=@Nat.lt_succ_self
abbrev Bz:=@List.drop_length
abbrev B0:=@PySem.F.slot_str_split
abbrev B1:=@PySem.W.looks_findIn
abbrev B2:=@PySem.W.cellsFrom_some
abbrev B3:=@PySem.F.slot_tuple_add
abbrev B4:=@PySem.Calls.callWith_builtin
abbrev B5:=@List.of_mem_zip
abbrev B6:=@List.mem_filter
abbrev B7:=@List.length_nil
abbrev B8:=@Int.emod_nonneg
abbrev B9:=@PySem.F.slot_int_rmul
abbrev CC:=@PySem.W.methodCall_KW
abbrev CD:=@List.mem_iff_getElem?
abbrev CJ:=@List.getElem?_eq_none
abbrev CK:=@PySem.wpAny_seqItems
abbrev CM:=@PySem.sizeLine_eq
abbrev CN:=@Nat.pow_le_pow_right
abbrev CP:=@List.mem_append_left
abbrev CQ:=@Array.mem_toList_iff
abbrev CU:=PySem.W.Frag
namespace PySem
open Sem (wp)
section
variable {prog:Program}{w:World}{K:Type}[DecidableEq K](knd:KeyKind prog w K)
inductive ItemsTup (h:Heap):List (List K)->List Value->Prop
 |nil:ItemsTup h [] []
 |cons {k:List K} {b:Addr} {kss:List (List K)} {vs:List Value}:IsTupleKey knd h k b->ItemsTup h kss vs->ItemsTup h (k::kss) (.ref b::vs)
def IsPathKey (h:Heap)(kss:List (List K))(a:Addr):Prop:=∃o items n,h.get? a=some o/\o.cls=.type "tuple"/\o.data=.seq items n/\ItemsTup knd h kss items.toList
variable {knd}
theorem ItemsTup.inj    (hx:ItemsTup knd h x vs)(hy:ItemsTup knd h y vs):x=y:=by
 induction hx generalizing y with
 |nil=>(cases hy; rfl)
 |cons h1 _ ih=>cases hy with | cons h2 t2=>rw[h1.inj h2,ih t2]
theorem ItemsTup.keeps        (hx:ItemsTup knd h x vs)(ho:h.get? d=some o)(hd:o.data=.dict es ep)(hs:Heap.SameBut d h h'):ItemsTup knd h' x vs:=by
 induction hx with
 |nil=>exact .nil
 |cons h1 _ ih=>exact .cons (h1.keeps ho hd hs) ih
theorem IsPathKey.typeIs {s:Shared}   (x:IsPathKey knd s.heap kss a):s.TypeIs (.ref a) "tuple" :=el33 x fun o _ _ e c _=>⟨o,e,c⟩
theorem IsPathKey.inj    (hx:IsPathKey knd h x a)(hy:IsPathKey knd h y a):x=y:=by
 refine qX hx fun o its n e1 _ e2 e3=>qX hy fun o' its' n' f1 _ f2 f3=>?_;cases e1.symm.trans f1;cases e2.symm.trans f2;exact e3.inj f3
theorem IsPathKey.keeps       (x:IsPathKey knd h kss a)(ho:h.get? d=some o)(hd:o.data=.dict es ep)(hs:Heap.SameBut d h h'):IsPathKey knd h' kss a:=by
 refine qX x fun o' its n e1 e2 e3 e4=>?_;have hne:a≠d :=by lia
 exact⟨o',its,n,(hs.2 a hne).trans e1,e2,e3,e4.keeps ho hd hs⟩
def hJ (knd:KeyKind prog w K)(kss:List (List K)):Int:=reduceHash (Builtin.Tuple.tupleHashOf (kss.map (tupleKeyHash knd)))
def uK (kss:List (List K)):Nat:=(kss.map fun k=>k.length+1).sum+1
variable {A:Around}{E:Value->Shared->Prop}{s:Shared}
theorem oJ    (hu:A.units+1 < cLine)(hk:IsPathKey knd s.heap kss a)(h:Q (hJ knd kss) { s with toks:=s.toks+uK kss }):
  wpAny (model prog w) A (pyHash (.ref a)) Q E s:=by
 have hT:=hk.typeIs;obtain⟨o,items,n,ho,_,hd,hi⟩:=hk
 (first | delta pyHashByItsType | skip)
 (first | refine AA (wpAny_cRoomFor_or (.inr (Nat.lt_of_succ_lt hu)) ?_) | skip)
 refine AA (Ai (by exact hT) Ay.lookup (?_));refine AA (Ai (by exact hT) Ay.lookup (?_));refine AA (Aw (by exact hT) Ay (A0 Ay (by exact hT) F.entry_tuple_hash (?_) (F.args_tuple_hash_1 _)));show wpAny _ _ (Builtin.Tuple.tupleItemsOf (.ref a) >>= (_)) _ _ s
 (refine AA (A8 ho hd (AA ?_)); rw[<- BC])
 refine Ao _ (fun rQ b s'=>∃done left,kss=done++left/\ItemsTup knd s.heap left rQ/\b.toList=done.map (tupleKeyHash knd)/\s'={ s with toks:=s.toks+(done.map fun k=>k.length+1).sum }) _ ?_ ?_ _ _ ⟨[],kss,rfl,hi,rfl,rfl⟩
 .rintro x rQ b s' ⟨done,left,rfl,hl,hb,rfl⟩
  cases hl with
  |@cons k b' ks' _ h1 hl' =>
   refine AA (wpAny_pyHash_tuple hu h1 ?_)
   first
    |exact AB ⟨done++[k],ks',by simp,hl',by simp[hb],by simp[Nat.add_assoc]⟩
    |exact AA (AB (AB ⟨done++[k],ks',by simp,hl',by simp[hb],by simp[Nat.add_assoc]⟩))
 .rintro b s' ⟨done,left,rfl,hl,hb,rfl⟩
  cases hl;rw[Ad] at h
  (show wpAny _ _ (retInt (Builtin.Tuple.tupleHashOf b.toList)) _ _ _; rw[hb]; apply wpAny_ret_mkInt)
  delta hJ reduceHash uK at h
  generalize Builtin.Tuple.tupleHashOf (done.map (tupleKeyHash knd))=hh at h ⊢;show wpAny _ _ (if (decide (-(2:Int) ^ 63<=hh)&&decide (hh < 2 ^ 63))=true then _ else _) Q E _
  by_cases hr:(decide (-(2:Int) ^ 63<=hh)&&decide (hh < 2 ^ 63))=true
  ·(rw[AV hr]; rw[AV hr] at h)
   exact AB (by lia)
  ·(rw[AR hr]; rw[AR hr] at h)
   exact AA (BI (AB (by simpa [Nat.add_assoc] using h)))
theorem gP    (hu:A.units < cLine)(hx:IsPathKey knd s.heap x a)(hy:IsPathKey knd s.heap y b)(h:P (.done (.ret (.bool (decide (x=y))))) s):
  wpAny (model prog w) A (Builtin.«tuple.__eq__» ⟨[.ref a,.ref b],[]⟩) P E s:=by
 refine qX hx fun oa xs na hoa _ hda hia=>qX hy fun ob ys nb hob _ hdb hib=>?_
 (show wpAny _ _ (isInstance (.ref b) (.type "tuple") >>= _) _ _ s; refine AA (BO hy.typeIs A4 ?_))
 (refine AA (A8 hoa hda (AA (A8 hob hdb (AA ?_)))))
 refine Ao _ (fun rQ r s'=>r.1=none/\s'=s/\∃x' y' xs' ys',rQ=List.zip xs' ys'/\ItemsTup knd s.heap x' xs'/\ItemsTup knd s.heap y' ys'/\decide (x'=y')=decide (x=y)/\(xs'.length==ys'.length)=(xs.size==ys.size)) _ ?_ ?_ _ _ ⟨rfl,rfl,x,y,xs.toList,ys.toList,rfl,hia,hib,rfl,by simp⟩
 .rintro ⟨u,v⟩ rQ r s' ⟨hr,rfl,x',y',xs',ys',hz,hx',hy',hdec,hlen⟩
  cases hx' with
  |nil=>simp at hz
  |@cons k1 b1 x'' xs'' h1 hx'' =>
   cases hy' with
   |nil=>simp at hz
   |@cons k2 b2 y'' ys'' h2 hy'' =>
    (obtain⟨⟨rfl,rfl⟩,rfl⟩:=hz)
    refine AA (wpAny_eqBool_tuple hu h1 h2 ?_)
    by_cases hk:k1=k2
    .subst hk
     (simp only[ Bool.false_eq_true])
     refine AB ⟨rfl,rfl,x'',y'',xs'',ys'',rfl,hx'',hy'',?_,by simpa using hlen⟩;rw[<- hdec]
     (by_cases hxy:x''=y''<;>simp[hxy])
    ·(rw[AU hk]; simp only[ if_true])
     have hf:decide (x=y)=false :=by lia
     rw[hf] at h;exact AA (AB (AB (AB h)))
 .rintro ⟨r1,r2⟩ s' ⟨hr,rfl,x',y',xs',ys',hz,hx',hy',hdec,hlen⟩
  (subst hr; apply AB)
  have hfin:(xs.size==ys.size)=decide (x=y):=by
   rw[<- hdec,<- hlen]
   cases hx' with
   |nil=>(cases hy' with | nil=>simp | cons _ _=>simp)
   |cons _ _=>(cases hy' with | nil=>simp | cons _ _=>simp at hz)
  (show P (.done (.ret (.bool (xs.size==ys.size)))) s'; rwa [hfin])
theorem tJ    (hu:A.units+1 < cLine)(hx:IsPathKey knd s.heap x a)(hy:IsPathKey knd s.heap y b)(h:Q (decide (x=y)) s):
  wpAny (model prog w) A (eqBool (.ref a) (.ref b)) Q E s:=by
 (delta eqBool; try with_reducible refine An ?_)
 by_cases hab:(Value.ref a==Value.ref b)=true
 .rw [AV hab]
  have e:a=b :=by lia
  subst e;obtain rfl:=hx.inj hy;exact AA (BI (AB (by lia)))
 .exact (AR hab)▸AA (wpAny_richCompare_same_room hx.typeIs hy.typeIs A5 (A0 A5 hx.typeIs F.entry_tuple_eq (gP hu hx hy ⟨_,rfl,(fun e=>nomatch e),Af h⟩) (F.args_tuple_eq_2 _ _)) (Nat.lt_of_succ_lt hu))
theorem nV n    (hk:IsTupleKey knd s.heap ks a)(h:Q true s):wpAny (model prog w) A (eqIsQuiet (n+1) (.ref a)) Q E s:=by
 have hT:=hk.typeIs;refine qX hk fun o items m ho _ hd hi=>?_
 (unfold eqIsQuiet; refine AA (Ai hT A5.lookup ?_))
 (refine AA (BO hT A4 ?_))
 (refine AA (CK ho hd (AA ?_)))
 (rw[<- BC])
 refine Ao _ (fun rQ r s'=>r.1=none/\s'=s/\∀v∈rQ,carriedByValue v=true) _ ?_ ?_ _ _ ⟨rfl,rfl,hi.byValue⟩
 .rintro v rQ r s' ⟨hr,rfl,hall⟩
  (rw[Bd _ (hall v AW)]; refine AA (AB ?_))
  (exact AB ⟨rfl,rfl,fun u hu'=>hall u (AJ _ hu')⟩)
 .rintro ⟨r1,r2⟩ s' ⟨hr,rfl,_⟩
  (subst hr; exact AB h)
theorem xS    (hk:IsPathKey knd s.heap kss a)(h:Q true s):wpAny (model prog w) A (eqIsQuiet 8 (.ref a)) Q E s:=by
 have hT:=hk.typeIs;obtain⟨o,items,m,ho,_,hd,hi⟩:=hk
 (unfold eqIsQuiet; refine AA (Ai hT A5.lookup ?_))
 (refine AA (BO hT A4 ?_))
 (refine AA (CK ho hd (AA ?_)))
 (rw[<- BC])
 refine Ao _ (fun rQ r s'=>r.1=none/\s'=s/\∃x',ItemsTup knd s.heap x' rQ) _ ?_ ?_ _ _ ⟨rfl,rfl,_,hi⟩
 .rintro v rQ r s' ⟨hr,rfl,x',hall⟩
  cases hall with
  |cons h1 h2 =>
   refine AA (nV 6 h1 ?_)
   (exact AB ⟨rfl,rfl,_,h2⟩)
 .rintro ⟨r1,r2⟩ s' ⟨hr,rfl,_⟩
  (subst hr; exact AB h)
end
def Q9    [DecidableEq K](knd:KeyKind prog w K):HeapKind prog w (List (List K)) where
 is:=IsPathKey knd
 hash:=hJ knd
 draws:=uK
 room:=fun A=>A.units+1 < cLine
 inj:=fun hx hy=>hx.inj hy
 keeps:=fun x ho hd hs=>x.keeps ho hd hs
 pyHash:=fun hu hk h=>oJ hu hk h
 eqBool:=fun hu hx hy h=>tJ hu hx hy h
 quiet:=fun hk h=>xS hk h
section
variable {prog:Program}{w:World}{K:Type}[DecidableEq K](knd:KeyKind prog w K)
inductive ItemsPth (h:Heap):List (List (List K))->List Value->Prop
 |nil:ItemsPth h [] []
 |cons {k:List (List K)} {b:Addr} {kss:List (List (List K))} {vs:List Value}:IsPathKey knd h k b->ItemsPth h kss vs->ItemsPth h (k::kss) (.ref b::vs)
def IsAddrKey (h:Heap)(kss:List (List (List K)))(a:Addr):Prop:=∃o items n,h.get? a=some o/\o.cls=.type "tuple"/\o.data=.seq items n/\ItemsPth knd h kss items.toList
variable {knd}
theorem ItemsPth.inj    (hx:ItemsPth knd h x vs)(hy:ItemsPth knd h y vs):x=y:=by
 induction hx generalizing y with
 |nil=>(cases hy; rfl)
 |cons h1 _ ih=>cases hy with | cons h2 t2=>rw[h1.inj h2,ih t2]
theorem ItemsPth.keeps        (hx:ItemsPth knd h x vs)(ho:h.get? d=some o)(hd:o.data=.dict es ep)(hs:Heap.SameBut d h h'):ItemsPth knd h' x vs:=by
 induction hx with
 |nil=>exact .nil
 |cons h1 _ ih=>exact .cons (h1.keeps ho hd hs) ih
theorem IsAddrKey.typeIs {s:Shared}   (x:IsAddrKey knd s.heap kss a):s.TypeIs (.ref a) "tuple" :=el33 x fun o _ _ e c _=>⟨o,e,c⟩
theorem IsAddrKey.inj    (hx:IsAddrKey knd h x a)(hy:IsAddrKey knd h y a):x=y:=by
 refine qX hx fun o its n e1 _ e2 e3=>qX hy fun o' its' n' f1 _ f2 f3=>?_;cases e1.symm.trans f1;cases e2.symm.trans f2;exact e3.inj f3
theorem IsAddrKey.keeps       (x:IsAddrKey knd h kss a)(ho:h.get? d=some o)(hd:o.data=.dict es ep)(hs:Heap.SameBut d h h'):IsAddrKey knd h' kss a:=by
 refine qX x fun o' its n e1 e2 e3 e4=>?_;have hne:a≠d :=by lia
 exact⟨o',its,n,(hs.2 a hne).trans e1,e2,e3,e4.keeps ho hd hs⟩
def rF (knd:KeyKind prog w K)(kss:List (List (List K))):Int:=reduceHash (Builtin.Tuple.tupleHashOf (kss.map (hJ knd)))
def mU (kss:List (List (List K))):Nat:=(kss.map uK).sum+1
variable {A:Around}{E:Value->Shared->Prop}{s:Shared}
theorem eY    (hu:A.units+2 < cLine)(hk:IsAddrKey knd s.heap kss a)(h:Q (rF knd kss) { s with toks:=s.toks+mU kss }):
  wpAny (model prog w) A (pyHash (.ref a)) Q E s:=by
 have hT:=hk.typeIs;obtain⟨o,items,n,ho,_,hd,hi⟩:=hk
 (first | delta pyHashByItsType | skip)
 (first | refine AA (wpAny_cRoomFor_or (.inr (by omega)) ?_) | skip)
 refine AA (Ai (by exact hT) Ay.lookup (?_));refine AA (Ai (by exact hT) Ay.lookup (?_));refine AA (Aw (by exact hT) Ay (A0 Ay (by exact hT) F.entry_tuple_hash (?_) (F.args_tuple_hash_1 _)));show wpAny _ _ (Builtin.Tuple.tupleItemsOf (.ref a) >>= (_)) _ _ s
 (refine AA (A8 ho hd (AA ?_)); rw[<- BC])
 refine Ao _ (fun rQ b s'=>∃done left,kss=done++left/\ItemsPth knd s.heap left rQ/\b.toList=done.map (hJ knd)/\s'={ s with toks:=s.toks+(done.map uK).sum }) _ ?_ ?_ _ _ ⟨[],kss,rfl,hi,rfl,rfl⟩
 .rintro x rQ b s' ⟨done,left,rfl,hl,hb,rfl⟩
  cases hl with
  |@cons k b' ks' _ h1 hl' =>
   refine AA (oJ hu h1 ?_)
   first
    |exact AB ⟨done++[k],ks',by simp,hl',by simp[hb],by simp[Nat.add_assoc]⟩
    |exact AA (AB (AB ⟨done++[k],ks',by simp,hl',by simp[hb],by simp[Nat.add_assoc]⟩))
 .rintro b s' ⟨done,left,rfl,hl,hb,rfl⟩
  cases hl;rw[Ad] at h
  (show wpAny _ _ (retInt (Builtin.Tuple.tupleHashOf b.toList)) _ _ _; rw[hb]; apply wpAny_ret_mkInt)
  delta rF reduceHash mU at h
  generalize Builtin.Tuple.tupleHashOf (done.map (hJ knd))=hh at h ⊢;show wpAny _ _ (if (decide (-(2:Int) ^ 63<=hh)&&decide (hh < 2 ^ 63))=true then _ else _) Q E _
  by_cases hr:(decide (-(2:Int) ^ 63<=hh)&&decide (hh < 2 ^ 63))=true
  ·(rw[AV hr]; rw[AV hr] at h)
   exact AB (by lia)
  ·(rw[AR hr]; rw[AR hr] at h)
   exact AA (BI (AB (by simpa [Nat.add_assoc] using h)))
theorem cH    (hu:A.units+1 < cLine)(hx:IsAddrKey knd s.heap x a)(hy:IsAddrKey knd s.heap y b)(h:P (.done (.ret (.bool (decide (x=y))))) s):
  wpAny (model prog w) A (Builtin.«tuple.__eq__» ⟨[.ref a,.ref b],[]⟩) P E s:=by
 refine qX hx fun oa xs na hoa _ hda hia=>qX hy fun ob ys nb hob _ hdb hib=>?_
 (show wpAny _ _ (isInstance (.ref b) (.type "tuple") >>= _) _ _ s; refine AA (BO hy.typeIs A4 ?_))
 (refine AA (A8 hoa hda (AA (A8 hob hdb (AA ?_)))))
 refine Ao _ (fun rQ r s'=>r.1=none/\s'=s/\∃x' y' xs' ys',rQ=List.zip xs' ys'/\ItemsPth knd s.heap x' xs'/\ItemsPth knd s.heap y' ys'/\decide (x'=y')=decide (x=y)/\(xs'.length==ys'.length)=(xs.size==ys.size)) _ ?_ ?_ _ _ ⟨rfl,rfl,x,y,xs.toList,ys.toList,rfl,hia,hib,rfl,by simp⟩
 .rintro ⟨u,v⟩ rQ r s' ⟨hr,rfl,x',y',xs',ys',hz,hx',hy',hdec,hlen⟩
  cases hx' with
  |nil=>simp at hz
  |@cons k1 b1 x'' xs'' h1 hx'' =>
   cases hy' with
   |nil=>simp at hz
   |@cons k2 b2 y'' ys'' h2 hy'' =>
    (obtain⟨⟨rfl,rfl⟩,rfl⟩:=hz)
    refine AA (tJ hu h1 h2 ?_)
    by_cases hk:k1=k2
    .subst hk
     (simp only[ Bool.false_eq_true])
     refine AB ⟨rfl,rfl,x'',y'',xs'',ys'',rfl,hx'',hy'',?_,by simpa using hlen⟩;rw[<- hdec]
     (by_cases hxy:x''=y''<;>simp[hxy])
    ·(rw[AU hk]; simp only[ if_true])
     have hf:decide (x=y)=false :=by lia
     rw[hf] at h;exact AA (AB (AB (AB h)))
 .rintro ⟨r1,r2⟩ s' ⟨hr,rfl,x',y',xs',ys',hz,hx',hy',hdec,hlen⟩
  (subst hr; apply AB)
  have hfin:(xs.size==ys.size)=decide (x=y):=by
   rw[<- hdec,<- hlen]
   cases hx' with
   |nil=>(cases hy' with | nil=>simp | cons _ _=>simp)
   |cons _ _=>(cases hy' with | nil=>simp | cons _ _=>simp at hz)
  (show P (.done (.ret (.bool (xs.size==ys.size)))) s'; rwa [hfin])
theorem aY    (hu:A.units+2 < cLine)(hx:IsAddrKey knd s.heap x a)(hy:IsAddrKey knd s.heap y b)(h:Q (decide (x=y)) s):
  wpAny (model prog w) A (eqBool (.ref a) (.ref b)) Q E s:=by
 (delta eqBool; try with_reducible refine An ?_)
 by_cases hab:(Value.ref a==Value.ref b)=true
 .rw [AV hab]
  have e:a=b :=by lia
  subst e;obtain rfl:=hx.inj hy;exact AA (BI (AB (by lia)))
 .exact (AR hab)▸AA (wpAny_richCompare_same_room hx.typeIs hy.typeIs A5 (A0 A5 hx.typeIs F.entry_tuple_eq (cH hu hx hy ⟨_,rfl,(fun e=>nomatch e),Af h⟩) (F.args_tuple_eq_2 _ _)) (by omega))
theorem eN n    (hk:IsPathKey knd s.heap kss a)(h:Q true s):wpAny (model prog w) A (eqIsQuiet (n+2) (.ref a)) Q E s:=by
 have hT:=hk.typeIs;obtain⟨o,items,m,ho,_,hd,hi⟩:=hk
 (unfold eqIsQuiet; refine AA (Ai hT A5.lookup ?_))
 (refine AA (BO hT A4 ?_))
 (refine AA (CK ho hd (AA ?_)))
 (rw[<- BC])
 refine Ao _ (fun rQ r s'=>r.1=none/\s'=s/\∃x',ItemsTup knd s.heap x' rQ) _ ?_ ?_ _ _ ⟨rfl,rfl,_,hi⟩
 .rintro v rQ r s' ⟨hr,rfl,x',hall⟩
  cases hall with
  |cons h1 h2 =>
   refine AA (nV n h1 ?_)
   (exact AB ⟨rfl,rfl,_,h2⟩)
 .rintro ⟨r1,r2⟩ s' ⟨hr,rfl,_⟩
  (subst hr; exact AB h)
theorem kS    (hk:IsAddrKey knd s.heap kss a)(h:Q true s):wpAny (model prog w) A (eqIsQuiet 8 (.ref a)) Q E s:=by
 have hT:=hk.typeIs;obtain⟨o,items,m,ho,_,hd,hi⟩:=hk
 (unfold eqIsQuiet; refine AA (Ai hT A5.lookup ?_))
 (refine AA (BO hT A4 ?_))
 (refine AA (CK ho hd (AA ?_)))
 (rw[<- BC])
 refine Ao _ (fun rQ r s'=>r.1=none/\s'=s/\∃x',ItemsPth knd s.heap x' rQ) _ ?_ ?_ _ _ ⟨rfl,rfl,_,hi⟩
 .rintro v rQ r s' ⟨hr,rfl,x',hall⟩
  cases hall with
  |cons h1 h2 =>
   refine AA (eN 5 h1 ?_)
   (exact AB ⟨rfl,rfl,_,h2⟩)
 .rintro ⟨r1,r2⟩ s' ⟨hr,rfl,_⟩
  (subst hr; exact AB h)
end
def Zn    [DecidableEq K](knd:KeyKind prog w K):HeapKind prog w (List (List (List K))) where
 is:=IsAddrKey knd
 hash:=rF knd
 draws:=mU
 room:=fun A=>A.units+2 < cLine
 inj:=fun hx hy=>hx.inj hy
 keeps:=fun x ho hd hs=>x.keeps ho hd hs
 pyHash:=fun hu hk h=>eY hu hk h
 eqBool:=fun hu hx hy h=>aY hu hx hy h
 quiet:=fun hk h=>kS hk h
end PySem
namespace L2
open PySem PySem.Spec PyProof.Rows
abbrev Key:=Sum (Option Int) Str
def cO:Value->Bool
 |.none=>true
 |_=>false
def lU:Key->Value->Bool
 |.inl (some k),v=>Value.isInt k v
 |.inl none,v=>cO v
 |.inr x,v=>Value.isStrOf x v
def keyH (w:World):Key->Int
 |.inl (some k)=>hashInt k
 |.inl none=>4238894112
 |.inr x=>hashStr w x
theorem iF {v:Value}(h:cO v=true):v=.none:=by
 cases v<;>first | rfl | cases h
theorem pX:∀{k:Key}{v:Value},lU k v=true->(∃i t,k=Sum.inl (some i)/\v=Value.int i t)\/(∃x t,k=Sum.inr x/\v=Value.str x t)\/(k=Sum.inl none/\v=Value.none)
 |.inl (some i),v,h=>by
  obtain⟨t,e⟩:=Value.isInt_shape (k:=i) (v:=v) h;exact .inl ⟨i,t,rfl,e⟩
 |.inl none,v,h=>.inr (.inr ⟨rfl,iF h⟩)
 |.inr x,v,h=>by
  obtain⟨t,e⟩:=Value.isStrOf_shape (x:=x) (v:=v) h;exact .inr (.inl ⟨x,t,rfl,e⟩)
theorem vI (i:Int)(t:Tok):lU (.inl (some i)) (.int i t)=true:=by simp[lU,Value.isInt]
theorem lK (x:Str)(t:Tok):lU (.inr x) (.str x t)=true:=by simp[lU,Value.isStrOf]
theorem Xq {a b:Key}(h:a≠b):decide (a=b)=false:=AU h
theorem key_ii (a b:Int):decide ((Sum.inl (some a):Key)=Sum.inl (some b))=(a==b):=by
 by_cases e:a=b
 .subst e; simp
 .rw [Xq fun q=>e (Ae (Sum.inl.inj q))]
  exact(BS.mpr e).symm
theorem key_ss (a b:Str):decide ((Sum.inr a:Key)=Sum.inr b)=decide (a=b):=by
 by_cases e:a=b
 .subst e; simp
 .rw [Xq fun q=>e (Sum.inr.inj q),AU e]
theorem key_is (i:Int)(y:Str):decide ((Sum.inl (some i):Key)=Sum.inr y)=false:=AU nofun
theorem key_in (i:Int):decide ((Sum.inl (some i):Key)=Sum.inl none)=false:=AU nofun
theorem key_si (x:Str)(j:Int):decide ((Sum.inr x:Key)=Sum.inl (some j))=false:=AU nofun
theorem key_sn (x:Str):decide ((Sum.inr x:Key)=Sum.inl none)=false:=AU nofun
theorem key_ni (j:Int):decide ((Sum.inl none:Key)=Sum.inl (some j))=false:=AU nofun
theorem key_ns (y:Str):decide ((Sum.inl none:Key)=Sum.inr y)=false:=AU nofun
theorem yL {prog:Program}{w:World}{A:Around}{E:Value->Shared->Prop}{s:Shared}{Q:Int->Shared->Prop}(h:Q 4238894112 { s with toks:=s.toks+1 }):wpAny (model prog w) A (pyHash .none) Q E s:=by
 unfold pyHash;refine AA ?_;rw[cRoomFor,AR (by rw[show[Value.none].any Value.onHeap=false from rfl]; exact AE)]; refine AB ?_
 have ty:s.TypeIs .none "NoneType":=rfl;refine AA (Ai ty BL.lookup ?_);rw[AR (by rw[beq_builtin_none]; exact AE)];refine AA (Ai ty BL.lookup ?_)
 refine AA (Aw ty BL
  (A0 BL ty PySem.F.entry_NoneType_hash
   (show wpAny _ _ (do ret (<- mkInt 4238894112)) _ _ s from wpAny_ret_mkInt ?_) (PySem.F.args_NoneType_hash_1 _)))
 show wpAny _ _ (if (decide (-(2:Int) ^ 63<=4238894112)&&decide ((4238894112:Int) < 2 ^ 63))=true then _ else _) Q E _;rw[AV (by decide)];exact AB h
theorem xR {prog:Program}{w:World}{A:Around}{E:Value->Shared->Prop}{s:Shared}{Q:Bool->Shared->Prop}(h:Q true s):wpAny (model prog w) A (eqBool .none .none) Q E s:=by
 unfold eqBool;refine An ?_;refine AS (fun _=>?_) (fun hab=>absurd rfl hab);exact AA (BI (AB h))
def sQ (prog:Program)(w:World):PySem.KeyKind prog w Key where
 is:=lU
 hash:=keyH w
 inj:=fun v a b ha hb=>by
  rcases pX ha with ⟨i,t,rfl,rfl⟩ | ⟨x,t,rfl,rfl⟩ | ⟨rfl,rfl⟩<;>rcases pX hb with ⟨j,u,rfl,e⟩ | ⟨y,u,rfl,e⟩ | ⟨rfl,e⟩<;>cases e<;>rfl
 byValue:=fun k v h=>by
  rcases pX h with ⟨i,t,rfl,rfl⟩ | ⟨x,t,rfl,rfl⟩ | ⟨rfl,rfl⟩<;>rfl
 pyHash:=fun hv h=>by
  rcases pX hv with ⟨i,t,rfl,rfl⟩ | ⟨x,t,rfl,rfl⟩ | ⟨rfl,rfl⟩
  .exact wpAny_pyHash_int h
  .exact wpAny_pyHash_str h
  .exact yL h
 eqBool:=fun hu hv h=>by
  rcases pX hu with ⟨i,t,rfl,rfl⟩ | ⟨x,t,rfl,rfl⟩ | ⟨rfl,rfl⟩<;>rcases pX hv with ⟨j,u,rfl,rfl⟩ | ⟨y,u,rfl,rfl⟩ | ⟨rfl,rfl⟩
  .rw [key_ii] at h; exact wpAny_eqBool_int h
  .rw [key_is] at h; exact SeqAt.EqAt.int_str i t y u _ _ _ _ h
  .rw [key_in] at h; exact SeqAt.EqAt.int_none i t _ _ _ _ h
  .rw [key_si] at h; exact SeqAt.EqAt.str_int x t j u _ _ _ _ h
  .rw [key_ss] at h; exact wpAny_eqBool_str h
  .rw [key_sn] at h; exact SeqAt.EqAt.str_none x t _ _ _ _ h
  .rw [key_ni] at h; exact SeqAt.EqAt.none_int j u _ _ _ _ h
  .rw [key_ns] at h; exact SeqAt.EqAt.none_str y u _ _ _ _ h
  .rw [A7 (rfl:(Sum.inl none:Key)=Sum.inl none)] at h; exact xR h
 «strs»:=fun k x t v h=>by
  rcases pX h with ⟨i,u,rfl,e⟩ | ⟨y,u,rfl,e⟩ | ⟨rfl,e⟩
  .exact nomatch e
  .injection e with e1 _
   subst e1;cases v<;>rfl
  .exact nomatch e
theorem yC (prog:Program)(w:World)(i:Int)(t:Tok):(sQ prog w).is (.inl (some i)) (.int i t)=true:=vI i t
theorem nP (prog:Program)(w:World):(sQ prog w).is (.inl none) .none=true:=rfl
theorem wC (prog:Program)(w:World)(x:Str)(t:Tok):(sQ prog w).is (.inr x) (.str x t)=true:=lK x t
inductive V where
 |non | bl (b:Bool) | int (i:Int) | str (x:Str) | byt (b:Array UInt8) | flt (b:UInt64) | ref (a:Addr) | ty (n:String)
 deriving DecidableEq
def RelV:V->Value->Prop
 |.non,u=>u=Value.none
 |.bl b,u=>u=Value.bool b
 |.int i,u=>∃t,u=Value.int i t
 |.str x,u=>∃t,u=Value.str x t
 |.byt b,u=>∃t,u=Value.bytes b t
 |.flt b,u=>∃t,u=Value.float b t
 |.ref a,u=>u=Value.ref a
 |.ty n,u=>u=Value.type n
abbrev Vals:List V->List Value->Prop:=Paired RelV
theorem Vals.length {xs:List V}{us:List Value}(r:Vals xs us):xs.length=us.length:=Paired.length r
theorem Vals.get:∀{xs:List V}{us:List Value}{i:Nat}{x:V},Vals xs us->xs[i]?=some x->∃u,us[i]?=some u/\RelV x u
 |_,_,_,_,.nil,e=>by simp at e
 |_,_,0,_,.cons r _,e=>by simp at e; subst e; exact⟨_,rfl,r⟩
 |_,_,i+1,x,.cons _ t,e=>by
  obtain⟨u,h1,h2⟩:=Vals.get (i:=i) (x:=x) t (by simpa using e);exact⟨u,by simpa using h1,h2⟩
theorem Vals.set {x:V}{u:Value}(r:RelV x u):∀{xs:List V}{us:List Value}(i:Nat),Vals xs us->Vals (xs.set i x) (us.set i u)
 |_,_,_,.nil=>.nil
 |_,_,0,.cons _ t=>.cons r t
 |_,_,i+1,.cons q t=>.cons q (Vals.set r i t)
theorem Vals.append:∀{xs ys:List V}{us ws:List Value},Vals xs us->Vals ys ws->Vals (xs++ys) (us++ws)
 |_,_,_,_,.nil,s=>s
 |_,_,_,_,.cons r t,s=>.cons r (Vals.append t s)
def RelO:Option V->Option Value->Prop
 |some v,some u=>RelV v u
 |none,none=>True
 |_,_=>False
def KV {κ:Type}:List (κ×V)->List (κ×Value)->Prop:=Paired fun(p:κ×V) (q:κ×Value)=>p.1=q.1/\RelV p.2 q.2
def kV:Key->V
 |.inl none=>.non
 |.inl (some i)=>.int i
 |.inr x=>.str x
inductive HO where
 |lst (xs:List V)
 |tup (xs:List V)
 |dK (kvs:List (Key×V)) | dT (kvs:List (List Key×V)) | dP (kvs:List (List (List Key)×V)) | dA (kvs:List (List (List (List Key))×V))
 |set (S:Int->Bool) (n:Nat)
 |ins (C dx:Addr) (fs:List (Str×V))
 |own (x:Addr)
 |xd (fs:List (Str×V))
 |met (f x:Addr)
 |rng (lo hi:Int)
 |frz (o:Obj) (u:HO)
 |tbl (ps:Array Value)
 |ext (φ:Heap->Prop)
abbrev Hp:=Addr->Option HO
def upd (H:Hp)(a:Addr)(o:HO):Hp:=fun b=>if b=a then some o else H b
theorem vQ {H:Hp}{a:Addr}{o:HO}:upd H a o a=some o:=by unfold upd; rw[AV rfl]
theorem wQ {H:Hp}{a b:Addr}{o:HO}(h:b≠a):upd H a o b=H b:=by unfold upd; rw[AR h]
theorem ne_of {H:Hp}{a b:Addr}{o u:HO}(h:H a=some o)(h':H b=some u)(d:o≠u):a≠b:=by
 intro e; subst e; rw[h] at h'; exact d (Ae h')
theorem zZ {H:Hp}{a b:Addr}{o:HO}(h:H a=some o)(h':H b=none):a≠b:=by
 intro e; subst e; rw[h] at h'; cases h'
def IsTupN (h:Heap)(a:Addr)(items:Array Value):Prop:=∃o,h.get? a=some o/\o.cls=.type "tuple"/\(∃n,o.data=.seq items n)/\o.dict=none
theorem IsTupN.is {h:Heap}{a:Addr}{items:Array Value}(x:IsTupN h a items):IsTup h a items:=let ⟨o,e,c,d,_⟩:=x; ⟨o,e,c,d⟩
theorem IsTupN.new (h:Heap)(items:Array Value):IsTupN (h.push { cls:=.type "tuple",data:=.seq items }) h.objs.size items:=⟨_,AQ _ rfl,rfl,⟨_,rfl⟩,rfl⟩
def PKey (H:Hp)(kss:List (List Key))(b:Addr):Prop:=∃bs:List Addr,H b=some (.tup (bs.map V.ref))/\Paired (fun(ks:List Key) (c:Addr)=>H c=some (.tup (ks.map kV))) kss bs
def AKey (H:Hp)(k:List (List (List Key)))(b:Addr):Prop:=∃bs:List Addr,H b=some (.tup (bs.map V.ref))/\Paired (fun(ks:List (List Key)) (c:Addr)=>PKey H ks c) k bs
section
variable (P:Program)(w:World)
def ObjOk (H:Hp)(h:Heap)(a:Addr):HO->Prop
 |.lst xs=>xs.length<=sizeLine/\∃(its:List Value) (n:Nat),Vals xs its/\h.get? a=some { cls:=.type "list",data:=.seq its.toArray n }
 |.tup xs=>xs.length<=sizeLine/\∃its:List Value,Vals xs its/\IsTupN h a its.toArray
 |.dK kvs=>kvs.length<=sizeLine/\(a==sysModules)=false/\∃vs,KV kvs vs/\h.DictOf (sQ P w) a vs
 |.dT kvs=>kvs.length<=sizeLine/\(a==sysModules)=false/\∃xs:List (List Key×Addr×Value),
   Paired (fun(p:List Key×V) (q:List Key×Addr×Value)=>p.1=q.1/\H q.2.1=some (.tup (p.1.map kV))/\RelV p.2 q.2.2) kvs xs /\
   ∃o es ep,h.get? a=some o/\o.ExactDict/\o.data=.dict es ep/\es.toList=xs.map (entryOfKey (tupleKind (sQ P w)))/\(xs.map (·.1)).Nodup
 |.dA kvs=>kvs.length<=sizeLine/\(a==sysModules)=false/\∃xs:List (List (List (List Key))×Addr×Value),
   Paired (fun(p:List (List (List Key))×V) (q:List (List (List Key))×Addr×Value)=>p.1=q.1/\AKey H p.1 q.2.1/\RelV p.2 q.2.2) kvs xs /\
   ∃o es ep,h.get? a=some o/\o.ExactDict/\o.data=.dict es ep/\es.toList=xs.map (entryOfKey (Zn (sQ P w)))/\(xs.map (·.1)).Nodup
 |.dP kvs=>kvs.length<=sizeLine/\(a==sysModules)=false/\∃xs:List (List (List Key)×Addr×Value),
   Paired (fun(p:List (List Key)×V) (q:List (List Key)×Addr×Value)=>p.1=q.1/\PKey H p.1 q.2.1/\RelV p.2 q.2.2) kvs xs /\
   ∃o es ep,h.get? a=some o/\o.ExactDict/\o.data=.dict es ep/\es.toList=xs.map (entryOfKey (Q9 (sQ P w)))/\(xs.map (·.1)).Nodup
 |.set S n=>h.SetOf (intKind P w) a S n
 |.ins C dx fs=>H dx=some (.own a)/\fs.length<=1000/\dx≠a/\h.get? a=some (PySem.W.instObj C dx) /\
   ∃mA,h.Ns1 dx mA/\(∀f,RelO (fs.lookup f) (mA f))/\PySem.Within mA (fs.map (·.1))
 |.own _=>∃o,h.get? a=some o
 |.xd fs=>∃mA,h.Ns1 a mA/\∀f,RelO (fs.lookup f) (mA f)
 |.rng lo hi=>∃t u v,h.get? a=some { cls:=.type "range",data:=.fields #[.int lo t,.int hi u,.int 1 v] }
 |.frz o u=>h.get? a=some o/\ObjOk H h a u
 |.tbl ps=>h.get? a=some { cls:=.none,data:=.fields ps }
 |.met f x=>h.get? a=some (PySem.W.methodObj (.ref f) (.ref x))
 |.ext φ=>φ h/\(∃o,h.get? a=some o)/\∀h1 h2:Heap,φ h1->(∀o,h1.get? a=some o->h2.get? a=some o)->φ h2
def HOk (H:Hp)(h:Heap):Prop:=∀a o,H a=some o->ObjOk P w H h a o
end
section
variable {P:Program}{w:World}{H H':Hp}{h h':Heap}{a:Addr}{o:HO}
theorem ObjOk.lt (x:ObjOk P w H h a o):a < h.objs.size:=by
 cases o with
 |lst xs=>obtain⟨_,_,_,_,e⟩:=x; exact AF e
 |tup xs=>obtain⟨_,_,_,o,e,_⟩:=x; exact AF e
 |dK kvs=>obtain⟨_,_,_,_,o,_,_,e,_⟩:=x; exact AF e
 |dT kvs=>obtain⟨_,_,_,_,o,_,_,e,_⟩:=x; exact AF e
 |dP kvs=>obtain⟨_,_,_,_,o,_,_,e,_⟩:=x; exact AF e
 |dA kvs=>obtain⟨_,_,_,_,o,_,_,e,_⟩:=x; exact AF e
 |set S n=>obtain⟨o,_,_,_,e,_⟩:=x; exact AF e
 |ins C dx fs=>obtain⟨_,_,_,e,_⟩:=x; exact AF e
 |own y=>obtain⟨_,e⟩:=x; exact AF e
 |xd fs=>obtain⟨_,⟨_,_,_,e,_⟩,_⟩:=x; exact AF e
 |rng lo hi=>obtain⟨_,_,_,e⟩:=x; exact AF e
 |frz ob u=>obtain⟨e,_⟩:=x; exact AF e
 |tbl ps=>exact AF (show h.get? a=some _ from x)
 |met f y=>exact AF (show h.get? a=some _ from x)
 |ext φ=>obtain⟨_,⟨_,e⟩,_⟩:=x; exact AF e
theorem Paired.mapP {α β:Type}{F G:α->β->Prop}:∀{l₁:List α}{l₂:List β},Paired F l₁ l₂->(∀a b,F a b->G a b)->Paired G l₁ l₂
 |_,_,.nil,_=>.nil
 |_,_,.cons r t,f=>.cons (f _ _ r) (Paired.mapP t f)
theorem PKey.mono {kss:List (List Key)}{b:Addr}(x:PKey H kss b)(ht:∀b xs,H b=some (.tup xs)->H' b=some (.tup xs)):PKey H' kss b :=
 let ⟨bs,e,r⟩:=x; ⟨bs,ht _ _ e,Paired.mapP r fun _ _ z=>ht _ _ z⟩
theorem AKey.mono {H H':Hp}{k:List (List (List Key))}{b:Addr}(x:AKey H k b)(ht:∀b xs,H b=some (.tup xs)->H' b=some (.tup xs)):AKey H' k b :=
 let ⟨bs,e,r⟩:=x; ⟨bs,ht _ _ e,Paired.mapP r fun _ _ z=>z.mono ht⟩
theorem ObjOk.stay (x:ObjOk P w H h a o)(k:∀b u,(b=a\/H b=some (.own a))->h.get? b=some u->h'.get? b=some u)
  (ho:∀b,H b=some (.own a)->H' b=some (.own a)) (ht:∀b xs,H b=some (.tup xs)->H' b=some (.tup xs)):ObjOk P w H' h' a o:=by
 induction o with
 |lst xs=>obtain⟨z,its,n,r,e⟩:=x; exact⟨z,its,n,r,k _ _ (.inl rfl) e⟩
 |tup xs=>obtain⟨z,its,r,ob,e,c⟩:=x; exact⟨z,its,r,ob,k _ _ (.inl rfl) e,c⟩
 |dK kvs=>obtain⟨z,y,vs,r,ob,es,ep,e,c⟩:=x; exact⟨z,y,vs,r,ob,es,ep,k _ _ (.inl rfl) e,c⟩
 |dT kvs =>
  obtain⟨z,y,xs,r,ob,es,ep,e,c⟩:=x;exact⟨z,y,xs,Paired.mapP r fun p q z=>⟨z.1,ht _ _ z.2.1,z.2.2⟩,ob,es,ep,k _ _ (.inl rfl) e,c⟩
 |dA kvs =>
  obtain⟨z,y,xs,r,ob,es,ep,e,c⟩:=x;exact⟨z,y,xs,Paired.mapP r fun p q z=>⟨z.1,z.2.1.mono ht,z.2.2⟩,ob,es,ep,k _ _ (.inl rfl) e,c⟩
 |dP kvs =>
  obtain⟨z,y,xs,r,ob,es,ep,e,c⟩:=x;exact⟨z,y,xs,Paired.mapP r fun p q z=>⟨z.1,z.2.1.mono ht,z.2.2⟩,ob,es,ep,k _ _ (.inl rfl) e,c⟩
 |set S n=>obtain⟨ob,es,ep,t,e,c⟩:=x; exact⟨ob,es,ep,t,k _ _ (.inl rfl) e,c⟩
 |ins C dx fs =>
  obtain⟨d,z,ne,e,mA,⟨od,es,ep,e2,c⟩,r⟩:=x;exact⟨ho _ d,z,ne,k _ _ (.inl rfl) e,mA,⟨od,es,ep,k _ _ (.inr d) e2,c⟩,r⟩
 |own y=>obtain⟨ob,e⟩:=x; exact⟨ob,k _ _ (.inl rfl) e⟩
 |xd fs=>obtain⟨mA,⟨od,es,ep,e,c⟩,r⟩:=x; exact⟨mA,⟨od,es,ep,k _ _ (.inl rfl) e,c⟩,r⟩
 |rng lo hi=>obtain⟨t,u,v,e⟩:=x; exact⟨t,u,v,k _ _ (.inl rfl) e⟩
 |frz ob u ih=>obtain⟨e,q⟩:=x; exact⟨k _ _ (.inl rfl) e,ih q⟩
 |tbl ps =>
  have e:h.get? a=some { cls:=.none,data:=.fields ps }:=x;show h'.get? a=some { cls:=.none,data:=.fields ps };exact k a _ (.inl rfl) e
 |met f y =>
  have e:h.get? a=some (PySem.W.methodObj (.ref f) (.ref y)):=x;show h'.get? a=some (PySem.W.methodObj (.ref f) (.ref y));exact k a _ (.inl rfl) e
 |ext φ=>obtain⟨p,⟨o,e⟩,st⟩:=x; exact⟨st _ _ p fun o q=>k _ _ (.inl rfl) q,⟨o,k _ _ (.inl rfl) e⟩,st⟩
theorem HOk.lt (x:HOk P w H h)(e:H a=some o):a < h.objs.size:=(x a o e).lt
theorem HOk.fresh (x:HOk P w H h)(e:h.objs.size<=a):H a=none:=by
 cases q:H a with
 |none=>rfl
 |some u=>exact absurd (AD (x.lt q) e) (BF _)
theorem HOk.kept (x:HOk P w H h)(k:∀b u,h.get? b=some u->h'.get? b=some u):HOk P w H h':=fun a o e =>
 (x a o e).stay (fun b u _ q=>k b u q) (fun _ q=>q) fun _ _ q=>q
theorem HOk.laid (x:HOk P w H h)(k:∀b u,h.get? b=some u->h'.get? b=some u)(hp:h.objs.size<=a)(new:ObjOk P w (upd H a o) h' a o):HOk P w (upd H a o) h':=fun b u e=>by
 have hn:=x.fresh hp
 by_cases hb:b=a
 .subst hb; rw[vQ] at e; cases e; exact new
 .rw [wQ hb] at e
  exact(x b u e).stay (fun c v _ q=>k c v q) (fun c q=>by rw[wQ (zZ q hn)]; exact q) fun c xs q=>by rw[wQ (zZ q hn)]; exact q
end
def Rd (H:Hp)(a:Addr)(u:HO):Prop:=H a=some u\/∃o,H a=some (.frz o u)
theorem Rd.of {H:Hp}{a:Addr}{u:HO}(h:H a=some u):Rd H a u:=.inl h
theorem Rd.ok {P:Program}{w:World}{H:Hp}{h:Heap}{a:Addr}{u:HO}(r:Rd H a u)(x:HOk P w H h):ObjOk P w H h a u:=by
 rcases r with r | ⟨o,r⟩
 .exact x a u r
 .obtain ⟨_,q⟩:=x a _ r
  exact q
def Mut:Option HO->Prop
 |some (.lst _)=>True
 |some (.dK _)=>True
 |some (.dT _)=>True
 |some (.dP _)=>True
 |some (.dA _)=>True
 |some (.set _ _)=>True
 |some (.ins _ _ _)=>True
 |some (.ext _)=>True
 |_=>False
section
variable {P:Program}{w:World}{H:Hp}{h h':Heap}{x e:Addr}{o':HO}
theorem HOk.write (ok:HOk P w H h)(mu:Mut (H x))(he:e=x\/H e=some (.own x))(k:∀b u,b≠e->h.get? b=some u->h'.get? b=some u)(heo:∃u,h'.get? e=some u)
  (new:ObjOk P w (upd H x o') h' x o'):HOk P w (upd H x o') h':=fun b u q=>by
 have nown:∀c y,H c=some (.own y)->c≠x:=fun c y r z=>by subst z; rw[r] at mu; exact mu
 have ntup:∀c xs,H c=some (.tup xs)->c≠x:=fun c xs r z=>by subst z; rw[r] at mu; exact mu
 by_cases hb:b=x
 .subst hb; rw[vQ] at q; cases q; exact new
 .rw [wQ hb] at q
  by_cases hbe:b=e
  .have q':H b=some (.own x):=by
    rcases he with z | z
    .exact absurd (hbe.trans z) hb
    .rw [hbe]; exact z
   rw[q] at q'; cases q'
   obtain⟨v,hv⟩:=heo;exact⟨v,by rw[hbe]; exact hv⟩
  .refine (ok b u q).stay (fun c v hc r=>k c v ?_ r) (fun c r=>by rw[wQ (nown c b r)]; exact r) fun c xs r=>by rw[wQ (ntup c xs r)]; exact r
   rcases hc with rfl | hc
   .exact hbe
   .rintro rfl
    rcases he with z | z
    .exact nown c b hc z
    .rw [hc] at z; cases z; exact hb rfl
end
structure Un (fs ex:List Addr)(H H':Hp)(h h':Heap):Prop where
 keep:∀b o,h.get? b=some o->H b=none->b∉fs->b∉ex->h'.get? b=some o
 slot:∀b o,h.get? b=some o->H b=none->b∈fs->b∉ex->∃sl,h'.get? b=some { o with slots:=sl }
 free:∀b o,h.get? b=some o->H b=none->b∉ex->H' b=none
 there:∀b o,h.get? b=some o->b∉ex->∃o',h'.get? b=some o'
 tups:∀b xs,H b=some (.tup xs)->H' b=some (.tup xs)
 frzs:∀b o u,H b=some (.frz o u)->H' b=some (.frz o u)
 tbls:∀b ps,H b=some (.tbl ps)->∃more,H' b=some (.tbl (ps++more))
section
variable {fs fs' ex ex':List Addr}{H H1 H2:Hp}{h h1 h2 h':Heap}{a x e:Addr}{o:HO}
theorem Un.any (u:Un fs ex H H1 h h1){b:Addr}{ob:Obj}(q:h.get? b=some ob)(n:H b=none)(hx:b∉ex):∃sl,h1.get? b=some { ob with slots:=sl }:=by
 by_cases hb:b∈fs
 .exact u.slot b ob q n hb hx
 .exact ⟨ob.slots,u.keep b ob q n hb hx⟩
theorem Un.kept (k:∀b u,h.get? b=some u->h'.get? b=some u):Un fs ex H H h h' :=
 ⟨fun b ob q _ _ _=>k b ob q,fun b ob q _ _ _=>⟨ob.slots,k b ob q⟩,fun _ _ _ n _=>n,fun b ob q _=>⟨ob,k b ob q⟩,fun _ _ q=>q,fun _ _ _ q=>q,fun _ ps q=>⟨#[],by rw[q]; simp⟩⟩
theorem Un.refl:Un fs ex H H h h:=Un.kept fun _ _ q=>q
theorem Un.laid (k:∀b u,h.get? b=some u->h'.get? b=some u)(hp:h.objs.size<=a)(hn:H a=none):Un fs ex H (upd H a o) h h' where
 keep:=fun b u q _ _ _=>k b u q
 slot:=fun b u q _ _ _=>⟨u.slots,k b u q⟩
 free:=fun b u q n _=>by rw[wQ (AM (AD (AF q) hp))]; exact n
 there:=fun b u q _=>⟨u,k b u q⟩
 tups:=fun b xs q=>by rw[wQ (zZ q hn)]; exact q
 frzs:=fun b u xs q=>by rw[wQ (zZ q hn)]; exact q
 tbls:=fun b ps q=>⟨#[],by rw[wQ (zZ q hn),q]; simp⟩
theorem Un.write (mu:Mut (H x))(he:e=x\/H e=some (.own x))(k:∀b u,b≠e->h.get? b=some u->h'.get? b=some u)(heo:∃u,h'.get? e=some u):Un fs ex H (upd H x o) h h':=by
 have hx:∀b,H b=none->b≠x:=fun b n z=>by subst z; rw[n] at mu; exact mu
 have hb:∀b,H b=none->b≠e:=fun b n z=>by
  subst z
  rcases he with r | r
  .exact hx b n r
  .rw [n] at r; cases r
 have hm:∀b u,H b=some u->¬ Mut (some u)->b≠x:=fun b u q nm z=>by subst z; rw[q] at mu; exact nm mu
 refine⟨fun b u q n _ _=>k b u (hb b n) q,fun b u q n _ _=>⟨u.slots,k b u (hb b n) q⟩,fun b u q n _=>by rw[wQ (hx b n)]; exact n,fun b u q _=>?_,
  fun b xs q=>by rw[wQ (hm b _ q fun z=>z)]; exact q,fun b u xs q=>by rw[wQ (hm b _ q fun z=>z)]; exact q,fun b ps q=>⟨#[],by rw[wQ (hm b _ q fun z=>z),q]; simp⟩⟩
 by_cases hbe:b=e
 .subst hbe; exact heo
 .exact ⟨u,k b u hbe q⟩
end
def trk (h:Heap)(H:Hp):List Addr:=(List.range h.objs.size).filter fun a=>(H a).isSome
def tP (h:Heap)(H:Hp):Heap:=PySem.W.hideAll h (trk h H)
theorem gI (h:Heap)(H:Hp):(tP h H).objs.size=h.objs.size:=PySem.W.hideAll_size _ _
theorem Xy {h:Heap}{H:Hp}{b:Addr}{o:Obj}(e:h.get? b=some o)(n:H b=none):(tP h H).get? b=some o :=
 PySem.W.hideAll_get _ e fun hm=>by
  have q:(H b).isSome=true:=(B6.mp hm).2;rw[n] at q; simp at q
theorem of_hidT {h:Heap}{H:Hp}{b:Addr}{o:Obj}(e:(tP h H).get? b=some o):h.get? b=some o/\H b=none:=by
 have e':h.get? b=some o:=PySem.W.of_hideAll (trk h H) e;refine⟨e',?_⟩
 cases q:H b with
 |none=>rfl
 |some x =>
  have hm:b∈trk h H:=B6.mpr ⟨Bt.mpr (AF e'),by simp[q]⟩;have z:(tP h H).get? b=none:=PySem.W.hideAll_none (trk h H) hm;rw[z] at e; cases e
def allNews (g h:Heap)(L:Addr):List (Addr×Obj):=(List.range h.objs.size).filterMap fun a=>if a=L\/(g.get? a).isSome=true then none else (h.get? a).map fun o=>(a,o)
def rQ (g h:Heap)(L d:Addr):List (Addr×Obj):=(allNews g h L).filter fun p=>decide (p.1≠d)
structure Mod (K:CU)(mg:Str->Option Value)(base:Heap):Prop where
 kin:K.In base
 glob:base.Ns mainGlobals mg
 blt:∃mb,base.Ns builtinsNs mb/\∀x:Str,x ≠ "__name__"->mb x=bootBuiltins x
 nolimit:base.NoLimit
structure Cx where
 prog:Program
 w:World
 K:CU
 mg:Str->Option Value
 base:Heap
 A:Around
 N:List Str
 s₀:Shared
 H₀:Hp
 env:Env
 outer:List Env
 stack:List Env
 ex:List Addr
 fn:Str->Bool
 calm:Bool
 pn:List (Addr×Obj)
 xe:Value->Shared->Prop
def frs (l:List Env):List Addr:=l.filterMap (·.frame)
abbrev Cx.fs (X:Cx):List Addr:=frs X.outer
def Vis (sc:Scope)(x:Str):Prop:=sc.names.lookup x=some .local\/sc.names.lookup x=some .cell\/sc.names.lookup x=some .free
def Loc (sc:Scope)(x:Str):Prop:=sc.names.lookup x=some .local\/sc.names.lookup x=some .cell
def Look (env:Env)(h:Heap)(m:Str->Option Value)(x:Str)(u:Value):Prop :=
 (env.kindOf x=some .local/\m x=some u)\/((env.kindOf x=some .cell\/env.kindOf x=some .free)/\∃c,env.cells.lookup x=some c/\h.IsCell c (some u))
structure Cx.Ok (X:Cx):Prop where
 mod:Mod X.K X.mg X.base
 kind:X.env.scope.kind=.function
 glob:X.env.globals=mainGlobals
 blt:X.env.builtins=builtinsNs
 above:X.s₀.heap.objs.size<=X.env.locals
 inj:∀x y c,X.env.cells.lookup x=some c->X.env.cells.lookup y=some c->x=y
 has:∀x,(X.env.kindOf x=some .cell\/X.env.kindOf x=some .free)->∃c,X.env.cells.lookup x=some c
 cab:∀x c,X.fn x=true->X.env.cells.lookup x=some c->X.s₀.heap.objs.size<=c
 hd:X.calm=true->X.A.handled=none
 frames:X.A.frames=some X.stack
 stk:X.stack=X.outer\/(X.stack=X.env::X.outer/\X.env.frame=some X.env.locals)
 exf:∀b∈X.ex,b≠X.env.locals/\∀x c,X.env.cells.lookup x=some c->c≠b
 bs:∀b o,X.base.get? b=some o->X.s₀.heap.get? b=some o/\X.H₀ b=none
 bsz:X.base.objs.size<=X.s₀.heap.objs.size
 noex:∀b o,X.base.get? b=some o->b∉X.ex
 exfs:∀b∈X.ex,b∉X.fs
 funs:X.s₀.heap.FunFrames X.base X.outer
 frf:∀b∈X.fs,X.H₀ b=none
structure Inv (X:Cx)(pins:List (Addr×Obj))(σ:List (Option V))(H:Hp)(s:Shared):Prop where
 ok:X.Ok
 os:s.os=X.s₀.os
 bare:AllBare s.gens
 base:Un X.fs X.ex X.H₀ H X.s₀.heap s.heap
 loc:∃m,s.heap.Ns X.env.locals m/\∀(i:Nat) (x:Str) (v:V),X.N[i]?=some x->σ[i]?=some (some v)->Vis X.env.scope x->∃u,RelV v u/\Look X.env s.heap m x u
 cell:∀x c,X.env.cells.lookup x=some c->∃v,s.heap.IsCell c v
 free:H X.env.locals=none
 freeC:∀x c,X.env.cells.lookup x=some c->H c=none
 pin:∀p∈X.pn++pins,s.heap.get? p.1=some p.2/\H p.1=none/\p.1≠X.env.locals/\p.1∉X.fs/\∀v,p.2.data≠.cell v
 hok:HOk X.prog X.w H s.heap
 len:σ.length=X.N.length
section
variable {X:Cx}{pins:List (Addr×Obj)}{σ:List (Option V)}{H H':Hp}{s:Shared}{h':Heap}
theorem Cx.Ok.nofr (ok:X.Ok){b:Addr}{o:Obj}(e:X.base.get? b=some o):b∉X.fs:=fun hb=>by
 have:=(ok.funs.mem hb).1;rw[e] at this; cases this
theorem Inv.bs (I:Inv X pins σ H s):∀b o,X.base.get? b=some o->s.heap.get? b=some o/\H b=none:=fun b o e =>
 ⟨I.base.keep b o (I.ok.bs b o e).1 (I.ok.bs b o e).2 (I.ok.nofr e) (I.ok.noex b o e),I.base.free b o (I.ok.bs b o e).1 (I.ok.bs b o e).2 (I.ok.noex b o e)⟩
theorem Inv.bk (I:Inv X pins σ H s):∀b o,X.base.get? b=some o->s.heap.get? b=some o:=fun b o e=>(I.bs b o e).1
theorem Inv.mod (I:Inv X pins σ H s):Mod X.K X.mg X.base:=I.ok.mod
theorem Inv.kIn (I:Inv X pins σ H s):X.K.In s.heap:=I.ok.mod.kin.keeps I.bk
theorem Inv.fr (I:Inv X pins σ H s):∃m,Fr X.base X.env.locals s.heap m :=
 let ⟨m,hn,_⟩:=I.loc
 ⟨m,hn,I.bk,AO I.ok.bsz I.ok.above⟩
theorem Inv.lt (I:Inv X pins σ H s):X.env.locals < s.heap.objs.size:=let ⟨_,hn,_⟩:=I.loc; hn.lt
theorem Inv.sz (I:Inv X pins σ H s):X.s₀.heap.objs.size<=s.heap.objs.size:=AO I.ok.above (Nat.le_of_lt I.lt)
theorem Inv.nofs (I:Inv X pins σ H s){a:Addr}(h:s.heap.objs.size<=a):a∉X.fs:=fun hb=>by
 obtain⟨_,o,ho,_⟩:=I.ok.funs.mem hb;exact absurd (AD (AF ho) (AO I.sz h)) (BF _)
theorem Inv.cne (I:Inv X pins σ H s):∀x c,X.env.cells.lookup x=some c->c≠X.env.locals:=fun x c e z=>by
 obtain⟨v,o,ho,hd⟩:=I.cell x c e;obtain⟨m,⟨o',es,ep,ho',hd',_⟩,_⟩:=I.loc;rw[z,ho'] at ho; cases ho; rw[hd'] at hd; cases hd
theorem Inv.funs (I:Inv X pins σ H s):s.heap.FunFrames X.base X.outer:=by
 have all:∀(l:List Env),(∀b∈frs l,b∈X.fs)->X.s₀.heap.FunFrames X.base l->s.heap.FunFrames X.base l:=by
  intro l
  induction l with
  |nil=>intro _ _; trivial
  |cons env r ih =>
   intro hs hl;obtain⟨hk,⟨L,o,hf,hn,ho,hd⟩,hr⟩:=hl;have hL:L∈X.fs:=hs L (by unfold frs; rw[List.filterMap_cons,hf]; exact AW);obtain⟨sl,e⟩:=I.base.slot L o ho (I.ok.frf L hL) hL fun z=>I.ok.exfs L z hL;exact⟨hk,⟨L,_,hf,hn,e,hd⟩,ih (fun b hb=>hs b (by unfold frs; rw[List.filterMap_cons,hf]; exact AJ _ hb)) hr⟩
 exact all X.outer (fun _ hb=>hb) I.ok.funs
theorem Inv.stack (I:Inv X pins σ H s):s.heap.FunFrames X.base X.stack:=by
 rcases I.ok.stk with e | ⟨e,hf⟩
 .rw [e]; exact I.funs
 .rw [e]
  obtain⟨m,hn,_⟩:=I.loc;refine .cons (by rw[I.ok.kind]; decide) hf hn ?_ I.funs;exact Heap.get?_none_of_le (AO I.ok.bsz I.ok.above)
theorem Inv.stkSub (I:Inv X pins σ H s):∀b∈frs X.stack,b∈X.env.locals::X.fs:=fun b hb=>by
 rcases I.ok.stk with e | ⟨e,hf⟩
 .rw [e] at hb; exact AJ _ hb
 .rw [e] at hb
  unfold frs at hb;rw[List.filterMap_cons,hf] at hb;exact hb
theorem Inv.stkFree (I:Inv X pins σ H s):∀b∈frs X.stack,H b=none:=fun b hb=>by
 rcases Ag.mp (I.stkSub b hb) with e | hb
 .rw [e]; exact I.free
 .obtain ⟨_,o,ho,_⟩:=I.ok.funs.mem hb
  exact I.base.free b o ho (I.ok.frf b hb) fun z=>I.ok.exfs b z hb
theorem Inv.step {g':Array GenState}{t':Nat}{d':Drawn}{ch:List Addr}(I:Inv X pins σ H s)
  (hch:∀b∈ch,(b∈X.ex\/X.s₀.heap.objs.size<=b)/\b≠X.env.locals/\(∀x c,X.env.cells.lookup x=some c->c≠b)/\∀p∈X.pn++pins,p.1≠b)
  (keep:∀b o,b≠X.env.locals->b∉X.fs->b∉ch->s.heap.get? b=some o->H b=none->h'.get? b=some o)
  (slot:∀b o,b≠X.env.locals->b∈X.fs->b∉ch->s.heap.get? b=some o->H b=none->∃sl,h'.get? b=some { o with slots:=sl }) (free:∀b o,b∉ch->s.heap.get? b=some o->H b=none->H' b=none)
  (there:∀b o,b∉ch->s.heap.get? b=some o->∃o',h'.get? b=some o')
  (tups:∀b xs,H b=some (.tup xs)->H' b=some (.tup xs)) (frzs:∀b o u,H b=some (.frz o u)->H' b=some (.frz o u)) (tbls:∀b ps,H b=some (.tbl ps)->∃more,H' b=some (.tbl (ps++more)))
  (ns:∀m,s.heap.Ns X.env.locals m->h'.Ns X.env.locals m) (hok:HOk X.prog X.w H' h') (hg:AllBare g') :
  Inv X pins σ H' { s with heap:=h',gens:=g',drawn:=d',toks:=t' }:=by
 have neL:∀b o,X.s₀.heap.get? b=some o->b≠X.env.locals:=fun b o e=>AM (AD (AF e) I.ok.above)
 have neC:∀b o,X.s₀.heap.get? b=some o->b∉X.ex->b∉ch:=fun b o e hx hb=>by
  rcases(hch b hb).1 with z | z
  .exact hx z
  .exact absurd (AD (AF e) z) (BF _)
 have cellK:∀x c,X.env.cells.lookup x=some c->∀v,s.heap.IsCell c v->h'.IsCell c v:=fun x c e v ⟨o,ho,hd⟩=>by
  have nch:c∉ch:=fun z=>(hch c z).2.2.1 x c e rfl
  by_cases hc:c∈X.fs
  .obtain ⟨sl,q⟩:=slot c o (I.cne x c e) hc nch ho (I.freeC x c e)
   exact⟨_,q,hd⟩
  .exact ⟨o,keep c o (I.cne x c e) hc nch ho (I.freeC x c e),hd⟩
 refine⟨I.ok,I.os,hg,⟨fun b o e n hb hx=>?_,fun b o e n hb hx=>?_,fun b o e n hx=>?_,fun b o e hx=>?_,fun b xs e=>tups b xs (I.base.tups b xs e),fun b o xs e=>frzs b o xs (I.base.frzs b o xs e),fun b ps e=>?_⟩,?_,fun x c e=>?_,?_,fun x c e=>?_,fun p hp=>?_,hok,I.len⟩
 .exact keep b o (neL b o e) hb (neC b o e hx) (I.base.keep b o e n hb hx) (I.base.free b o e n hx)
 .obtain ⟨sl,e1⟩:=I.base.slot b o e n hb hx
  obtain⟨sl',e2⟩:=slot b _ (neL b o e) hb (neC b o e hx) e1 (I.base.free b o e n hx);exact⟨sl',e2⟩
 .obtain ⟨o',e1⟩:=I.base.there b o e hx
  exact free b o' (neC b o e hx) e1 (I.base.free b o e n hx)
 .obtain ⟨o',e1⟩:=I.base.there b o e hx
  exact there b o' (neC b o e hx) e1
 .obtain ⟨m1,e1⟩:=I.base.tbls b ps e
  obtain⟨m2,e2⟩:=tbls b _ e1;exact⟨m1++m2,by rw[e2,Array.append_assoc]⟩
 .obtain ⟨m,hn,hl⟩:=I.loc
  refine⟨m,ns m hn,fun i x v e1 e2 e3=>?_⟩;obtain⟨u,r,l⟩:=hl i x v e1 e2 e3;refine⟨u,r,?_⟩
  rcases l with l | ⟨k,c,e,z⟩
  .exact .inl l
  .exact .inr ⟨k,c,e,cellK x c e _ z⟩
 .obtain ⟨v,z⟩:=I.cell x c e
  exact⟨v,cellK x c e v z⟩
 .obtain ⟨m,⟨o,_,_,ho,_⟩,_⟩:=I.loc
  exact free _ o (fun z=>(hch _ z).2.1 rfl) ho I.free
 .obtain ⟨v,o,ho,hd⟩:=I.cell x c e
  exact free c o (fun z=>(hch c z).2.2.1 x c e rfl) ho (I.freeC x c e)
 .obtain ⟨e,n,ne,nf,d⟩:=I.pin p hp
  have nch:p.1∉ch:=fun z=>(hch p.1 z).2.2.2 p hp rfl;exact⟨keep p.1 p.2 ne nf nch e n,free p.1 p.2 nch e n,ne,nf,d⟩
theorem Inv.un {t':Nat}(I:Inv X pins σ H s)(u:Un X.fs [] H H' s.heap h')(hok:HOk X.prog X.w H' h'):Inv X pins σ H' { s with heap:=h',toks:=t' }:=by
 obtain⟨m,⟨o,es,ep,ho,r⟩,_⟩:=id I.loc;obtain⟨sl,hL⟩:=u.any ho I.free (by simp)
 exact I.step (g':=s.gens) (d':=s.drawn) (ch:=[]) (fun _ z=>nomatch z) (fun b o _ hb _ e n=>u.keep b o e n hb (by simp)) (fun b o _ hb _ e n=>u.slot b o e n hb (by simp)) (fun b o _ e n=>u.free b o e n (by simp)) (fun b o _ e=>u.there b o e (by simp)) u.tups u.frzs u.tbls (fun m' hm=>by
  obtain⟨o',es',ep',ho',r'⟩:=hm;rw[ho] at ho'; cases ho'
  exact⟨_,es',ep',hL,r'⟩) hok I.bare
theorem Inv.call {g':Array GenState}{t':Nat}{d':Drawn}{ch:List Addr}(I:Inv X pins σ H s)(u:Un (frs X.stack) ch H H' s.heap h')(hok:HOk X.prog X.w H' h')(hg:AllBare g')
  (hch:∀b∈ch,(b∈X.ex\/X.s₀.heap.objs.size<=b)/\b≠X.env.locals/\(∀x c,X.env.cells.lookup x=some c->c≠b)/\∀p∈X.pn++pins,p.1≠b) :
  Inv X pins σ H' { s with heap:=h',gens:=g',drawn:=d',toks:=t' }:=by
 obtain⟨m,⟨o,es,ep,ho,r⟩,_⟩:=id I.loc;obtain⟨sl,hL⟩:=u.any ho I.free fun z=>(hch _ z).2.1 rfl
 exact I.step (ch:=ch) hch (fun b o hL hb hc e n=>u.keep b o e n (fun z=>(Ag.mp (I.stkSub b z)).elim hL hb) hc) (fun b o _ _ hc e n=>u.any e n hc) (fun b o hc e n=>u.free b o e n hc) (fun b o hc e=>u.there b o e hc) u.tups u.frzs u.tbls (fun m' hm=>by
  obtain⟨o',es',ep',ho',r'⟩:=hm;rw[ho] at ho'; cases ho'
  exact⟨_,es',ep',hL,r'⟩) hok hg
theorem Inv.turned {t':Nat}{it:Addr}(I:Inv X pins σ H s)(k:∀b o,b≠it->s.heap.get? b=some o->h'.get? b=some o)(hn:H it=none)(hL:it≠X.env.locals)
  (h1:it∈X.ex\/X.s₀.heap.objs.size<=it) (h2:∀x c,X.env.cells.lookup x=some c->c≠it) (h3:∀p∈X.pn++pins,p.1≠it):Inv X pins σ H { s with heap:=h',toks:=t' }:=by
 have nit:∀b u,H b=some u->b≠it:=fun b u e z=>by rw[z,hn] at e; cases e
 refine I.step (g':=s.gens) (d':=s.drawn) (ch:=[it]) (fun b hb=>?_) (fun b o _ _ hc e _=>k b o (fun z=>hc (by simp[z])) e) (fun b o _ _ hc e _=>⟨o.slots,k b o (fun z=>hc (by simp[z])) e⟩) (fun _ _ _ _ n=>n)
  (fun b o hc e=>⟨o,k b o (fun z=>hc (by simp[z])) e⟩) (fun _ _ e=>e) (fun _ _ _ e=>e) (fun b ps e=>⟨#[],by rw[e]; simp⟩) (fun m hm=>?_) (fun b u e=>?_) I.bare
 .have e:b=it:=by simpa using hb
  subst e;exact⟨h1,hL,h2,h3⟩
 .obtain ⟨o,es,ep,ho,r⟩:=hm
  exact⟨o,es,ep,k _ o (Ne.symm hL) ho,r⟩
 .refine (I.hok b u e).stay (fun c v hc q=>k c v ?_ q) (fun _ q=>q) fun _ _ q=>q
  rcases hc with z | z
  .rw [z]; exact nit b u e
  .exact nit c _ z
theorem Inv.tok (I:Inv X pins σ H s)(t:Nat):Inv X pins σ H { s with toks:=t }:=I.un (h':=s.heap) (t':=t) Un.refl I.hok
theorem Inv.kept {t':Nat}(I:Inv X pins σ H s)(k:∀b u,s.heap.get? b=some u->h'.get? b=some u):Inv X pins σ H { s with heap:=h',toks:=t' }:=I.un (Un.kept k) (I.hok.kept k)
theorem Inv.laid {a:Addr}{o:HO}{t':Nat}(I:Inv X pins σ H s)(k:∀b u,s.heap.get? b=some u->h'.get? b=some u)(hp:s.heap.objs.size<=a)(new:ObjOk X.prog X.w (upd H a o) h' a o):
  Inv X pins σ (upd H a o) { s with heap:=h',toks:=t' }:=I.un (Un.laid k hp (I.hok.fresh hp)) (I.hok.laid k hp new)
theorem Inv.write {x e:Addr}{o:HO}{t':Nat}(I:Inv X pins σ H s)(mu:Mut (H x))(he:e=x\/H e=some (.own x))(k:∀b u,b≠e->s.heap.get? b=some u->h'.get? b=some u)(heo:∃u,h'.get? e=some u)
  (new:ObjOk X.prog X.w (upd H x o) h' x o):Inv X pins σ (upd H x o) { s with heap:=h',toks:=t' }:=I.un (Un.write mu he k heo) (I.hok.write mu he k heo new)
theorem Inv.weak {σ':List (Option V)}(I:Inv X pins σ H s)(hl:σ'.length=σ.length)(w:∀(i:Nat) v,σ'[i]?=some (some v)->σ[i]?=some (some v)):Inv X pins σ' H s :=
 ⟨I.ok,I.os,I.bare,I.base,let ⟨m,hn,hl'⟩:=I.loc; ⟨m,hn,fun i x v e1 e2 e3=>hl' i x v e1 (w i v e2) e3⟩,I.cell,I.free,I.freeC,I.pin,I.hok,hl.trans I.len⟩
theorem Inv.pins_of {pins':List (Addr×Obj)}(I:Inv X pins σ H s)(h:∀p∈pins',s.heap.get? p.1=some p.2/\H p.1=none/\p.1≠X.env.locals/\p.1∉X.fs/\∀v,p.2.data≠.cell v):Inv X pins' σ H s :=
 ⟨I.ok,I.os,I.bare,I.base,I.loc,I.cell,I.free,I.freeC,fun p hp=>(List.mem_append.mp hp).elim (fun z=>I.pin p (CP _ z)) (h p),I.hok,I.len⟩
theorem fM {N:List Str}(hN:N.Nodup){i j:Nat}{x:Str}(a:N[i]?=some x)(b:N[j]?=some x):i=j:=by
 obtain⟨h1,e1⟩:=AX.mp a;obtain⟨h2,e2⟩:=AX.mp b;exact(List.getElem_inj hN).mp (e1.trans e2.symm)
theorem zA {M:Model}{A:Around}{E:Value->Shared->Prop}{i:Nat}{x:Str}{v:V}{u:Value}{Q:Unit->Shared->Prop}(I:Inv X pins σ H s)(hN:X.N.Nodup)(hi:X.N[i]?=some x)(hx:Loc X.env.scope x)(r:RelV v u)
  (h:∀s',Inv X pins (σ.set i (some v)) H s'->(∃a,Heap.SameBut a s.heap s'.heap/\(a=X.env.locals\/X.env.cells.lookup x=some a))->Q () s') (hf:X.fn x=true\/X.env.scope.names.lookup x=some .local:=by first | exact .inl rfl | exact .inr rfl | assumption):wpAny M A (storeName X.env x u) Q E s:=by
 obtain⟨m,hn,hl⟩:=id I.loc;have hcls:(X.env.scope.kind==.class || (X.env.scope.kind==.module&&X.env.locals != X.env.globals))=false:=by rw[I.ok.kind]; rfl
 have hiσ:i < σ.length:=by rw[I.len]; exact(AX.mp hi).1
 have cne:=I.cne
 have tracked:∀{a:Addr} {h':Heap},(∃o,s.heap.get? a=some o/\H a=none)->Heap.SameBut a s.heap h'->HOk X.prog X.w H h':=fun {a h'} ha hs b ob e=>by
  obtain⟨_,_,hfree⟩:=ha;refine(I.hok b ob e).stay (fun c w' hc q=>(hs.2 c ?_).trans q) (fun _ q=>q) fun _ _ q=>q;rintro rfl
  rcases hc with rfl | hc
  .rw [hfree] at e; cases e
  .rw [hfree] at hc; cases hc
 rcases hx with hk | hk
 .refine wpAny_storeName_local hk hn (fun h' hn' hs=>?_) hcls
  obtain⟨oL,_,_,hoL,_⟩:=id hn;refine h _ ⟨I.ok,I.os,I.bare,⟨fun b o e n hb hx=>?_,fun b o e n hb hx=>?_,I.base.free,fun b o e hx=>?_,I.base.tups,I.base.frzs,I.base.tbls⟩,⟨_,hn',fun j y v' e1 e2 e3=>?_⟩,fun y c e=>?_,I.free,I.freeC,fun p hp=>?_,tracked ⟨oL,hoL,I.free⟩ hs,by simpa using I.len⟩ ⟨_,hs,.inl rfl⟩
  .exact (hs.2 b (AM (AD (AF e) I.ok.above))).trans (I.base.keep b o e n hb hx)
  .obtain ⟨sl,e1⟩:=I.base.slot b o e n hb hx
   exact⟨sl,(hs.2 b (AM (AD (AF e) I.ok.above))).trans e1⟩
  .obtain ⟨o',e1⟩:=I.base.there b o e hx
   exact⟨o',(hs.2 b (AM (AD (AF e) I.ok.above))).trans e1⟩
  .by_cases hj:j=i
   .subst hj
    rw[hi] at e1; cases e1
    rw[BB hiσ] at e2;cases e2;exact⟨u,r,.inl ⟨hk,by simp⟩⟩
   .rw [Bo (Ne.symm hj)] at e2
    obtain⟨u',r',q⟩:=hl j y v' e1 e2 e3;refine⟨u',r',?_⟩
    rcases q with ⟨k,e⟩ | ⟨k,c,e,z⟩
    .refine .inl ⟨k,?_⟩
     have:y≠x:=fun e=>hj (fM hN e1 (e▸hi))
     simp[this,e]
    .exact .inr ⟨k,c,e,z.sameBut hs (cne y c e)⟩
  .obtain ⟨w',z⟩:=I.cell y c e
   exact⟨w',z.sameBut hs (cne y c e)⟩
  .obtain ⟨e,n,ne,nf,d⟩:=I.pin p hp
   exact⟨(hs.2 p.1 ne).trans e,n,ne,nf,d⟩
 .have hfn:X.fn x=true:=by
   rcases hf with z | z
   .exact z
   .rw [z] at hk; cases hk
  obtain⟨c,hc⟩:=I.ok.has x (.inl hk);obtain⟨w',z⟩:=I.cell x c hc;refine wpAny_storeName_cell I.ok.kind hk hc z (fun h' hc' hs=>?_);obtain⟨oc,hoc,hocd⟩:=id z;refine h { s with heap:=h' } ⟨I.ok,I.os,I.bare,⟨fun b o e n hb hx=>?_,fun b o e n hb hx=>?_,I.base.free,fun b o e hx=>?_,I.base.tups,I.base.frzs,I.base.tbls⟩,⟨m,hn.sameBut hs (Ne.symm (cne x c hc)),fun j y v' e1 e2 e3=>?_⟩,fun y c' e=>?_,I.free,I.freeC,fun p hp=>?_,tracked ⟨oc,hoc,I.freeC x c hc⟩ hs,by simpa using I.len⟩ ⟨c,hs,.inr hc⟩
  .exact (hs.2 b (AM (AD (AF e) (I.ok.cab x c hfn hc)))).trans (I.base.keep b o e n hb hx)
  .obtain ⟨sl,e1⟩:=I.base.slot b o e n hb hx
   exact⟨sl,(hs.2 b (AM (AD (AF e) (I.ok.cab x c hfn hc)))).trans e1⟩
  .obtain ⟨o',e1⟩:=I.base.there b o e hx
   exact⟨o',(hs.2 b (AM (AD (AF e) (I.ok.cab x c hfn hc)))).trans e1⟩
  .by_cases hj:j=i
   .subst hj
    rw[hi] at e1; cases e1
    rw[BB hiσ] at e2;cases e2;exact⟨u,r,.inr ⟨.inl hk,c,hc,hc'⟩⟩
   .rw [Bo (Ne.symm hj)] at e2
    obtain⟨u',r',q⟩:=hl j y v' e1 e2 e3;refine⟨u',r',?_⟩
    rcases q with q | ⟨k,c',e,z'⟩
    .exact .inl q
    .refine .inr ⟨k,c',e,z'.sameBut hs ?_⟩
     rintro rfl;exact hj (fM hN e1 (I.ok.inj _ _ _ e hc▸hi))
  .by_cases hcc:c'=c
   .subst hcc; exact⟨_,hc'⟩
   .obtain ⟨w2,z2⟩:=I.cell y c' e
    exact⟨w2,z2.sameBut hs hcc⟩
  .obtain ⟨e,n,ne,nf,d⟩:=I.pin p hp
   refine⟨(hs.2 p.1 ?_).trans e,n,ne,nf,d⟩;intro q;rw[q,hoc] at e;have q':oc=p.2:=Ae e;exact d w' (by rw[<- q']; exact hocd)
theorem lV {M:Model}{A:Around}{E:Value->Shared->Prop}{i:Nat}{x:Str}{v:V}{u:Value}{Q:Unit->Shared->Prop}(I:Inv X pins σ H s)(hN:X.N.Nodup)(hi:X.N[i]?=some x)(hx:Loc X.env.scope x)(r:RelV v u)
  (h:∀s',Inv X pins (σ.set i (some v)) H s'->Q () s') (hf:X.fn x=true\/X.env.scope.names.lookup x=some .local:=by first | exact .inl rfl | exact .inr rfl | assumption):wpAny M A (storeName X.env x u) Q E s :=
 zA I hN hi hx r (fun s' I' _=>h s' I') hf
theorem Inv.call' {s':Shared}{ch:List Addr}(I:Inv X pins σ H s)(ho:s'.os=s.os)(u:Un (frs X.stack) ch H H' s.heap s'.heap)(hok:HOk X.prog X.w H' s'.heap)(hg:AllBare s'.gens)
  (hch:∀b∈ch,(b∈X.ex\/X.s₀.heap.objs.size<=b)/\b≠X.env.locals/\(∀x c,X.env.cells.lookup x=some c->c≠b)/\∀p∈X.pn++pins,p.1≠b):Inv X pins σ H' s':=by
 obtain⟨h',g',d',t',o'⟩:=s';have e:o'=s.os:=ho;subst e;exact I.call (g':=g') (t':=t') (d':=d') u hok hg hch
end
abbrev XK:=Value->Option Addr->Hp->Prop
abbrev St:=List (Option V)
abbrev VK:=V->Hp->Prop
abbrev TE:=St->Hp->VK->Prop
abbrev TT:=St->Hp->(Bool->Hp->Prop)->Prop
abbrev TA:=St->Hp->(List V->Hp->Prop)->Prop
structure Ends where
 nx:St->Hp->Prop
 rt:VK
 bk:St->Hp->Prop:=fun _ _=>False
 ct:St->Hp->Prop:=fun _ _=>False
abbrev TS:=Ends->St->Hp->Prop
def EP (X:Cx)(pins:List (Addr×Obj))(σ:St)(Q:VK)(u:Value)(s':Shared):Prop:=∃v H',Inv X pins σ H' s'/\RelV v u/\Q v H'
def TP (X:Cx)(pins:List (Addr×Obj))(σ:St)(Q:Bool->Hp->Prop)(b:Bool)(s':Shared):Prop:=∃H',Inv X pins σ H' s'/\Q b H'
def AP (X:Cx)(pins:List (Addr×Obj))(σ:St)(Q:List V->Hp->Prop)(us:List Value)(s':Shared):Prop:=∃vs H',Inv X pins σ H' s'/\Vals vs us/\Q vs H'
def SP (X:Cx)(pins:List (Addr×Obj))(D:Ends)(f:Flow)(s':Shared):Prop :=
 match f with
 |.next=>∃σ' H',Inv X pins σ' H' s'/\D.nx σ' H'
 |.brk=>∃σ' H',Inv X pins σ' H' s'/\D.bk σ' H'
 |.cont=>∃σ' H',Inv X pins σ' H' s'/\D.ct σ' H'
 |.ret u=>∃v σ' H',Inv X pins σ' H' s'/\RelV v u/\D.rt v H'
def PE (X:Cx)(e:Expr)(t:TE):Prop :=
 ∀(pins:List (Addr×Obj)) (s:Shared) (σ:St) (H:Hp) (Q:VK),Inv X pins σ H s->t σ H Q->wpAny (model X.prog X.w) X.A (eval e X.env) (EP X pins σ Q) X.xe s
def PT (X:Cx)(e:Expr)(t:TT):Prop :=
 ∀(pins:List (Addr×Obj)) (s:Shared) (σ:St) (H:Hp) (Q:Bool->Hp->Prop),Inv X pins σ H s->t σ H Q->wpAny (model X.prog X.w) X.A (isTrue e X.env (eval e X.env)) (TP X pins σ Q) X.xe s
def PW (X:Cx)(e:Expr)(t:TT):Prop :=
 ∀(whole:Sem Value) (pins:List (Addr×Obj)) (s:Shared) (σ:St) (H:Hp) (Q:Bool->Hp->Prop),Inv X pins σ H s->t σ H Q->wpAny (model X.prog X.w) X.A (isTrue e X.env whole) (TP X pins σ Q) X.xe s
theorem PW.pt {X:Cx}{e:Expr}{t:TT}(h:PW X e t):PT X e t:=h _
def PA (X:Cx)(es:List Expr)(t:TA):Prop :=
 ∀(pos:Pos) (pins:List (Addr×Obj)) (s:Shared) (σ:St) (H:Hp) (Q:List V->Hp->Prop),Inv X pins σ H s->t σ H Q->wpAny (model X.prog X.w) X.A (spliced (backTo pos (starEach es X.env))) (AP X pins σ Q) X.xe s
def PS (X:Cx)(st:Stmt)(t:TS):Prop :=
 ∀(pins:List (Addr×Obj)) (s:Shared) (σ:St) (H:Hp) (D:Ends),Inv X pins σ H s->t D σ H->wpAny (model X.prog X.w) X.A (exec st X.env) (SP X pins D) X.xe s
def PSs (X:Cx)(st:List Stmt)(t:TS):Prop :=
 ∀(pins:List (Addr×Obj)) (s:Shared) (σ:St) (H:Hp) (D:Ends),Inv X pins σ H s->t D σ H->wpAny (model X.prog X.w) X.A (execs st X.env) (SP X pins D) X.xe s
theorem thn {α:Type}{t:Sem α}{Q Q':α->Shared->Prop}{M:Model}{A:Around}{E:Value->Shared->Prop}{s:Shared}(h:wpAny M A t Q E s)(hQ:∀a s,Q a s->Q' a s):wpAny M A t Q' E s:=Aj h hQ fun _ _ x=>x
section
variable {X:Cx}
inductive IVar (i:Nat)(σ:St)(H:Hp)(Q:VK):Prop
 |mk (v:V) (h:σ[i]?=some (some v)) (q:Q v H):IVar i σ H Q
def qA (i:Nat):TE:=fun σ H Q=>IVar i σ H Q
def tC (v:V):TE:=fun _ H Q=>Q v H
theorem nQ {i:Nat}{x:Str}{pos:Pos}(hN:X.N[i]?=some x)(hv:Vis X.env.scope x)(hd:(x==("__debug__" : Str))=false:=by decide)(hcd:(x==("__classdict__" : Str))=false:=by decide):PE X (.Name x pos) (qA i):=by
 intro pins s σ H Q I h;obtain⟨v,e,h⟩:=h;obtain⟨m,hn,hl⟩:=I.loc;obtain⟨u,r,l⟩:=hl i x v hN e hv;have fin:EP X pins σ Q u s:=⟨v,H,I,r,h⟩
 rcases l with ⟨hk,hm⟩ | ⟨hk,c,hc,hcell⟩
 .exact wpAny_Name (wpAny_loadName_local I.ok.kind hk hn hm fin) hd
 .rcases hk with hk | hk
  .exact wpAny_Name (wpAny_loadName_cell I.ok.kind hk hc hcell fin) hd
  .exact wpAny_Name (wpAny_loadName_free I.ok.kind hk hc hcell fin hcd) hd
theorem sG {i j pos}:PE X (.Constant (.int i) j pos) (tC (.int i)):=fun _ _ _ H _ I h=>wpAny_Constant_int ⟨.int i,H,I.tok _,⟨_,rfl⟩,h⟩
theorem pe_bl {b j pos}:PE X (.Constant (.bool b) j pos) (tC (.bl b)):=fun _ _ _ H _ I h=>Constant_bool ⟨.bl b,H,I,rfl,h⟩
theorem Q3 {j pos}:PE X (.Constant .none j pos) (tC .non):=fun _ _ _ H _ I h=>Constant_none ⟨.non,H,I,rfl,h⟩
theorem uS {x j pos}:PE X (.Constant (.str x) j pos) (tC (.str x)):=fun _ _ _ H _ I h=>Calls.Constant_str ⟨.str x,H,I.tok _,⟨_,rfl⟩,h⟩
def Gl (X:Cx)(x:Str):Prop:=X.env.kindOf x=some .globalImplicit
theorem iZ {E:Value->Shared->Prop}{pins:List (Addr×Obj)}{s:Shared}{σ:St}{H:Hp}{x:Str}{u:Value}{pos:Pos}{Q:Value->Shared->Prop}(I:Inv X pins σ H s)(hg:Gl X x)(hm:X.mg x=some u)(h:Q u s)
  (hd:(x==("__debug__" : Str))=false:=by decide):wpAny (model X.prog X.w) X.A (eval (.Name x pos) X.env) Q E s :=
 Calls.Name_function_global I.ok.kind hg (Calls.loadGlobal_global (by rw[I.ok.glob]; exact I.mod.glob.keeps I.bk) hm h) hd
theorem kU {E:Value->Shared->Prop}{pins:List (Addr×Obj)}{s:Shared}{σ:St}{H:Hp}{x:Str}{u:Value}{pos:Pos}{Q:Value->Shared->Prop}(I:Inv X pins σ H s)(hg:Gl X x)(hm:X.mg x=none)(hv:bootBuiltins x=some u)(h:Q u s)
  (hn:x ≠ "__name__":=by decide) (hd:(x==("__debug__" : Str))=false:=by decide):wpAny (model X.prog X.w) X.A (eval (.Name x pos) X.env) Q E s:=by
 obtain⟨mb,h1,h2⟩:=I.mod.blt;exact Calls.Name_function_global I.ok.kind hg (Calls.loadGlobal_builtin (by rw[I.ok.glob]; exact I.mod.glob.keeps I.bk) hm (by rw[I.ok.blt]; exact h1.keeps I.bk) ((h2 x hn).trans hv) h) hd
theorem aK {x:Str}{v:V}{u:Value}{pos:Pos}(hg:Gl X x)(hm:X.mg x=some u)(r:RelV v u)(hd:(x==("__debug__" : Str))=false:=by decide):PE X (.Name x pos) (tC v) :=
 fun _ _ _ H _ I h=>iZ I hg hm ⟨v,H,I,r,h⟩ hd
theorem vO {x:Str}{v:V}{u:Value}{pos:Pos}(hg:Gl X x)(hm:X.mg x=none)(hv:bootBuiltins x=some u)(r:RelV v u)(hn:x ≠ "__name__":=by decide)(hd:(x==("__debug__" : Str))=false:=by decide):PE X (.Name x pos) (tC v) :=
 fun _ _ _ H _ I h=>kU I hg hm hv ⟨v,H,I,r,h⟩ hn hd
variable {a b:Expr}{ta tb:TE}{pos:Pos}
inductive IBl (Q:Bool->Hp->Prop)(x:V)(H:Hp):Prop
 |mk (c:Bool) (h:x=.bl c) (q:Q c H):IBl Q x H
def tB (t:TE):TT:=fun σ H Q=>t σ H (IBl Q)
theorem pt_val {e:Expr}{t:TE}(h:PE X e t)(he:∀whole,isTrue e X.env whole=(do let v <- whole; standAt e.pos; holding [v] (truthy v)):=by intro _; rfl):PT X e (tB t):=by
 intro pins s σ H Q I hw;refine isTrue_plain (thn (h pins s σ H _ I hw) fun v s1 ⟨x,H1,I1,r1,q1⟩=>?_) (he _);obtain⟨d,rfl,q⟩:=q1;cases r1;exact Af ⟨H1,I1,q⟩
variable {tA tB':TT}{rQ:List Expr}
def tAnd (t u:TT):TT:=fun σ H Q=>t σ H fun c H1=>if c=true then u σ H1 Q else Q false H1
def tOr (t u:TT):TT:=fun σ H Q=>t σ H fun c H1=>if c=true then Q true H1 else u σ H1 Q
def tNot (t:TT):TT:=fun σ H Q=>t σ H fun c H1=>Q (!c) H1
theorem pw_and1 (ha:PT X a tA):PW X (.BoolOp .And [a] pos) tA:=by
 intro wh pins s σ H Q I h;refine isTrue_and (thn (ha pins s σ H Q I h) fun c s1 e=>?_)
 cases c with
 |true=>exact isTrue_and_nil e
 |false=>exact e
theorem QX (ha:PT X a tA):PW X (.BoolOp .Or [a] pos) tA:=by
 intro wh pins s σ H Q I h;refine isTrue_or (thn (ha pins s σ H Q I h) fun c s1 e=>?_)
 cases c with
 |false=>exact isTrue_or_nil e
 |true=>exact e
theorem pw_and (ha:PT X a tA)(hb:PW X (.BoolOp .And (b::rQ) pos) tB'):PW X (.BoolOp .And (a::b::rQ) pos) (tAnd tA tB'):=by
 intro wh pins s σ H Q I h;refine isTrue_and (thn (ha pins s σ H _ I h) fun c s1 ⟨H1,I1,q1⟩=>?_)
 cases c with
 |true=>exact hb wh pins s1 σ H1 Q I1 q1
 |false=>exact⟨H1,I1,q1⟩
theorem pw_or (ha:PT X a tA)(hb:PW X (.BoolOp .Or (b::rQ) pos) tB'):PW X (.BoolOp .Or (a::b::rQ) pos) (tOr tA tB'):=by
 intro wh pins s σ H Q I h;refine isTrue_or (thn (ha pins s σ H _ I h) fun c s1 ⟨H1,I1,q1⟩=>?_)
 cases c with
 |true=>exact⟨H1,I1,q1⟩
 |false=>exact hb wh pins s1 σ H1 Q I1 q1
theorem pt_not (ha:PT X a tA):PT X (.UnaryOp .Not a pos) (tNot tA):=by
 intro pins s σ H Q I h;exact isTrue_not (ha pins s σ H (fun c H1=>Q (!c) H1) I h)
def tIf (t:TT)(ta tb:TE):TE:=fun σ H Q=>t σ H fun c H1=>if c=true then ta σ H1 Q else tb σ H1 Q
theorem Q5 {c:Expr}(hc:PT X c tA)(ha:PE X a ta)(hb:PE X b tb):PE X (.IfExp c a b pos) (tIf tA ta tb):=by
 intro pins s σ H Q I h;refine wpAny_IfExp (thn (hc pins s σ H _ I h) fun d s1 ⟨H1,I1,q1⟩=>?_)
 cases d with
 |true=>exact ha pins s1 σ H1 Q I1 q1
 |false=>exact hb pins s1 σ H1 Q I1 q1
end
def SqL (K:CU)(H:Hp)(a:Addr)(xs:List V):Prop :=
 Rd H a (.lst xs) \/
  ∃(o:Obj) (its:Array Value) (n:Nat),K.lookup a=some o/\o.cls=.type "list"/\o.dict=none/\o.data=.seq its n/\its.size<=sizeLine/\Vals xs its.toList
def SqT (K:CU)(H:Hp)(a:Addr)(xs:List V):Prop :=
 Rd H a (.tup xs) \/
  ∃(o:Obj) (its:Array Value) (n:Nat),K.lookup a=some o/\o.cls=.type "tuple"/\o.data=.seq its n/\its.size<=sizeLine/\Vals xs its.toList
def absV:Value->Option V
 |.none=>some .non
 |.bool b=>some (.bl b)
 |.int i _=>some (.int i)
 |.str x _=>some (.str x)
 |.bytes b _=>some (.byt b)
 |.float b _=>some (.flt b)
 |.ref a=>some (.ref a)
 |.type n=>some (.ty n)
 |_=>none
theorem RelV.abs {x:V}{u:Value}(r:RelV x u):absV u=some x:=by
 cases x with
 |non=>cases r; rfl
 |bl _=>cases r; rfl
 |int _=>obtain⟨t,rfl⟩:=r; rfl
 |str _=>obtain⟨t,rfl⟩:=r; rfl
 |byt _=>obtain⟨t,rfl⟩:=r; rfl
 |flt _=>obtain⟨t,rfl⟩:=r; rfl
 |ref _=>cases r; rfl
 |ty _=>cases r; rfl
theorem RelV.inj {x y:V}{u:Value}(r:RelV x u)(q:RelV y u):x=y:=Ae (r.abs.symm.trans q.abs)
theorem Vals.inj:∀{xs ys:List V}{us:List Value},Vals xs us->Vals ys us->xs=ys
 |_,_,_,.nil,.nil=>rfl
 |_,_,_,.cons r t,.cons r' t'=>by rw[r.inj r',Vals.inj t t']
section
variable {X:Cx}{pins:List (Addr×Obj)}{σ:St}{H:Hp}{s:Shared}{a:Addr}{xs ys:List V}
theorem SqL.of {K:CU}(h:H a=some (.lst xs)):SqL K H a xs:=.inl (.inl h)
theorem SqT.of {K:CU}(h:H a=some (.tup xs)):SqT K H a xs:=.inl (.inl h)
theorem Inv.list (I:Inv X pins σ H s)(h:SqL X.K H a xs):∃its:List Value,Vals xs its/\PlainL s.heap a its.toArray/\xs.length<=sizeLine:=by
 rcases h with h | ⟨o,its,n,hk,hc,hd,hs,hz,r⟩
 .obtain ⟨z,its,n,r,e⟩:=h.ok I.hok
  exact⟨its,r,⟨_,n,e,rfl,rfl,rfl⟩,z⟩
 .refine ⟨its.toList,r,⟨o,n,I.kIn a o hk,hc,hd,by simpa using hs⟩,?_⟩
  have e:=r.length
  simp only[Array.length_toList] at e
  omega
theorem Inv.tuple (I:Inv X pins σ H s)(h:SqT X.K H a xs):∃its:List Value,Vals xs its/\IsTup s.heap a its.toArray/\xs.length<=sizeLine:=by
 rcases h with h | ⟨o,its,n,hk,hc,hs,hz,r⟩
 .obtain ⟨z,its,r,p⟩:=h.ok I.hok
  exact⟨its,r,IsTupN.is p,z⟩
 .refine ⟨its.toList,r,⟨o,I.kIn a o hk,hc,n,by simpa using hs⟩,?_⟩
  have e:=r.length
  simp only[Array.length_toList] at e
  omega
theorem Inv.list_inj (I:Inv X pins σ H s)(h:SqL X.K H a xs)(h':SqL X.K H a ys):xs=ys:=by
 obtain⟨its,r,⟨o,n,e,_,_,d⟩,_⟩:=I.list h;obtain⟨its',r',⟨o',n',e',_,_,d'⟩,_⟩:=I.list h';rw[e] at e'; cases e'
 rw[d] at d';injection d' with d1 _
 have:its=its':=by simpa using BE Array.toList d1
 subst this;exact r.inj r'
theorem Inv.tuple_inj (I:Inv X pins σ H s)(h:SqT X.K H a xs)(h':SqT X.K H a ys):xs=ys:=by
 obtain⟨its,r,⟨o,e,_,n,d⟩,_⟩:=I.tuple h;obtain⟨its',r',⟨o',e',_,n',d'⟩,_⟩:=I.tuple h';rw[e] at e'; cases e'
 rw[d] at d';injection d' with d1 _
 have:its=its':=by simpa using BE Array.toList d1
 subst this;exact r.inj r'
end
abbrev Cx.wish (X:Cx)(E:Value->Shared->Prop):Cx:={ X with xe:=E }
abbrev Cx.nox (X:Cx):Cx:=X.wish fun _ _=>False
theorem Cx.Ok.wish {X:Cx}(ok:X.Ok)(E:Value->Shared->Prop):(X.wish E).Ok :=
 ⟨ok.mod,ok.kind,ok.glob,ok.blt,ok.above,ok.inj,ok.has,ok.cab,ok.hd,ok.frames,ok.stk,ok.exf,ok.bs,ok.bsz,ok.noex,ok.exfs,ok.funs,ok.frf⟩
theorem Cx.Ok.unwish {X:Cx}{E:Value->Shared->Prop}(ok:(X.wish E).Ok):X.Ok :=
 ⟨ok.mod,ok.kind,ok.glob,ok.blt,ok.above,ok.inj,ok.has,ok.cab,ok.hd,ok.frames,ok.stk,ok.exf,ok.bs,ok.bsz,ok.noex,ok.exfs,ok.funs,ok.frf⟩
section
variable {X:Cx}{pins:List (Addr×Obj)}{σ:St}{H:Hp}{s:Shared}{E:Value->Shared->Prop}
theorem Inv.wish (I:Inv X pins σ H s)(E:Value->Shared->Prop):Inv (X.wish E) pins σ H s:=⟨I.ok.wish E,I.os,I.bare,I.base,I.loc,I.cell,I.free,I.freeC,I.pin,I.hok,I.len⟩
theorem Inv.unwish (I:Inv (X.wish E) pins σ H s):Inv X pins σ H s:=⟨I.ok.unwish,I.os,I.bare,I.base,I.loc,I.cell,I.free,I.freeC,I.pin,I.hok,I.len⟩
theorem SP.unwish {D:Ends}{f:Flow}{s':Shared}(h:SP (X.wish E) pins D f s'):SP X pins D f s':=by
 cases f with
 |next=>obtain⟨σ',H',I,q⟩:=h; exact⟨σ',H',I.unwish,q⟩
 |brk=>obtain⟨σ',H',I,q⟩:=h; exact⟨σ',H',I.unwish,q⟩
 |cont=>obtain⟨σ',H',I,q⟩:=h; exact⟨σ',H',I.unwish,q⟩
 |ret u=>obtain⟨v,σ',H',I,r,q⟩:=h; exact⟨v,σ',H',I.unwish,r,q⟩
theorem PT.nox {e:Expr}{t:TT}(h:PT X.nox e t):PT X e t:=fun pins s σ H Q I hw =>
 Aj (h pins s σ H Q (I.wish _) hw) (fun _ _ ⟨H',I',q⟩=>⟨H',I'.unwish,q⟩) fun _ _ z=>False.elim z
theorem PSs.nox {st:List Stmt}{t:TS}(h:PSs X.nox st t):PSs X st t:=fun pins s σ H D I hw =>
 Aj (h pins s σ H D (I.wish _) hw) (fun _ _ q=>q.unwish) fun _ _ z=>False.elim z
end
section
variable {X:Cx}{st:Stmt}{rQ:List Stmt}{t u:TS}{e:Expr}{te:TE}{pos:Pos}
def tNext:TS:=fun D σ H=>D.nx σ H
def tSeq (t u:TS):TS:=fun D σ H=>t { D with nx:=u D } σ H
theorem cX:PSs X [] tNext:=fun _ _ σ H _ I h=>BW ⟨σ,H,I,h⟩
theorem gQ (h1:PS X st t)(h2:PSs X rQ u):PSs X (st::rQ) (tSeq t u):=by
 intro pins s σ H D I h;refine wpAny_execs_cons (thn (h1 pins s σ H { D with nx:=u D } I h) fun f s1 q=>?_)
 cases f with
 |next =>
  obtain⟨σ',H',I',q⟩:=q;exact h2 pins s1 σ' H' D I' q
 |ret v=>exact q
 |brk=>exact q
 |cont=>exact q
theorem mQ (h1:PS X st t):PSs X [st] t:=by
 intro pins s σ H D I h;refine wpAny_execs_cons (thn (h1 pins s σ H D I h) fun f s1 q=>?_)
 cases f with
 |next=>exact BW q
 |ret v=>exact q
 |brk=>exact q
 |cont=>exact q
theorem Inv.quiet {pins:List (Addr×Obj)}{σ:St}{H:Hp}{s:Shared}(I:Inv X pins σ H s):interactive X.env=false:=by simp[interactive,I.ok.kind]
def QO (te:TE):TS:=fun D σ H=>te σ H fun _ H1=>D.nx σ H1
theorem vZ (he:PE X e te)(hs:swapsWith e none pos.line X.env=pure false:=by rfl):PS X (.Expr e pos) (QO te):=by
 intro pins s σ H D I h;exact wpAny_Expr_any (thn (he pins s σ H _ I h) fun v s1 ⟨x,H1,I1,r1,q1⟩=>⟨σ,H1,I1,q1⟩) I.quiet hs
def tRet (te:TE):TS:=fun D σ H=>te σ H D.rt
theorem kP (he:PE X e te):PS X (.Return (some e) pos) (tRet te):=by
 intro pins s σ H D I h;exact wpAny_Return_some (thn (he pins s σ H _ I h) fun v s1 ⟨x,H1,I1,r1,q1⟩=>⟨x,σ,H1,I1,r1,q1⟩)
def tIfS (c:TT)(t u:TS):TS:=fun D σ H=>c σ H fun b H1=>if b=true then t D σ H1 else u D σ H1
theorem pZ {c:Expr}{a b:List Stmt}{tc:TT}(hc:PT X c tc)(ha:PSs X a t)(hb:PSs X b u):PS X (.If c a b pos) (tIfS tc t u):=by
 intro pins s σ H D I h;refine wpAny_If (thn (hc pins s σ H _ I h) fun d s1 ⟨H1,I1,q1⟩=>?_)
 cases d with
 |true=>exact ha pins s1 σ H1 D I1 q1
 |false=>exact hb pins s1 σ H1 D I1 q1
def tNever:TS:=fun _ _ _=>False
theorem oZ {sts:List Stmt}:PSs X sts tNever:=fun _ _ _ _ _ _ h=>h.elim
end
abbrev TG:=V->St->Hp->(St->Hp->Prop)->Prop
abbrev TGs:=List V->St->Hp->(St->Hp->Prop)->Prop
def PG (X:Cx)(target:Expr)(t:TG):Prop :=
 ∀(pins:List (Addr×Obj)) (s:Shared) (σ:St) (H:Hp) (v:V) (u:Value) (Q:St->Hp->Prop),Inv X pins σ H s->RelV v u->t v σ H Q ->
  wpAny (model X.prog X.w) X.A (assign target X.env u) (fun _ s'=>∃σ' H',Inv X pins σ' H' s'/\Q σ' H') X.xe s
def PGs (X:Cx)(ts:List Expr)(t:TGs):Prop :=
 ∀(pins:List (Addr×Obj)) (s:Shared) (σ:St) (H:Hp) (vs:List V) (us:List Value) (Q:St->Hp->Prop),Inv X pins σ H s->Vals vs us->t vs σ H Q ->
  wpAny (model X.prog X.w) X.A (assignInOrder ((assignEach ts X.env).map (·.2)) us) (fun _ s'=>∃σ' H',Inv X pins σ' H' s'/\Q σ' H') X.xe s
abbrev TSet:=V->V->V->Hp->(Hp->Prop)->Prop
def PSet (X:Cx)(t:TSet):Prop :=
 ∀(pins:List (Addr×Obj)) (s:Shared) (σ:St) (H:Hp) (o i v:V) (ov iv u:Value) (Q:Hp->Prop),Inv X pins σ H s->RelV o ov->RelV i iv->RelV v u->t o i v H Q ->
  wpAny (model X.prog X.w) X.A (setItem ov iv u) (fun _ s'=>∃H',Inv X pins σ H' s'/\Q H') X.xe s
abbrev TIp:=V->V->Hp->VK->Prop
def PIp (X:Cx)(op:Operator)(t:TIp):Prop :=
 ∀(pins:List (Addr×Obj)) (s:Shared) (σ:St) (H:Hp) (x y:V) (v u:Value) (Q:VK),Inv X pins σ H s->RelV x v->RelV y u->t x y H Q ->
  wpAny (model X.prog X.w) X.A (inplaceOp op v u) (EP X pins σ Q) X.xe s
section
variable {X:Cx}{pos:Pos}
def gV (i:Nat):TG:=fun v σ H Q=>Q (σ.set i (some v)) H
theorem wB {i:Nat}{x:Str}(hN:X.N.Nodup)(hi:X.N[i]?=some x)(hx:Loc X.env.scope x)(hf:X.fn x=true\/X.env.scope.names.lookup x=some .local:=by first | exact .inl rfl | exact .inr rfl | assumption):PG X (.Name x pos) (gV i):=by
 intro pins s σ H v u Q I r h;exact wpAny_assign_Name (lV I hN hi hx r (fun s' I'=>⟨_,H,I',h⟩) hf)
def gNil:TGs:=fun vs σ H Q=>vs=[]/\Q σ H
def sU (t:TG)(u:TGs):TGs:=fun vs σ H Q=>∃v r,vs=v::r/\t v σ H fun σ' H'=>u r σ' H' Q
theorem pgs_nil:PGs X [] gNil:=by
 intro pins s σ H vs us Q I r h;obtain⟨e,h⟩:=h;subst e;cases r;exact assignInOrder_nil ⟨σ,H,I,h⟩
theorem jC {e:Expr}{es:List Expr}{t:TG}{u:TGs}(h1:PG X e t)(h2:PGs X es u)
  (hs:(assignEach (e::es) X.env).map (·.2)=assign e X.env::(assignEach es X.env).map (·.2):=by rfl):PGs X (e::es) (sU t u):=by
 intro pins s σ H vs us Q I r h;obtain⟨v,vr,e1,h⟩:=h;subst e1
 cases r with
 |cons r rr =>
  rw[hs];refine assignInOrder_cons (thn (h1 pins s σ H _ _ _ I r h) fun _ s1 ⟨σ1,H1,I1,q1⟩=>?_);exact h2 pins s1 σ1 H1 _ _ Q I1 rr q1
def gTup (K:CU)(n:Nat)(t:TGs):TG:=fun v σ H Q=>∃a xs,v=.ref a/\SqT K H a xs/\xs.length=n/\t xs σ H Q
theorem pg_tup {es:List Expr}{k:Nat}{t:TGs}{n:Nat}(hc:X.calm=true)(h:PGs X es t)
  (hn:(assignEach es X.env).length=n:=by rfl) (hst:(assignEach es X.env).findIdx? (·.1)=none:=by rfl):PG X (.Tuple es k pos) (gTup X.K n t):=by
 intro pins s σ H v u Q I r hw;obtain⟨a,xs,e1,hq,hl,hw⟩:=hw;subst e1;cases r;obtain⟨its,rv,ht,hz⟩:=I.tuple hq;refine assign_Tuple_tuple (I.ok.hd hc) ht (by simp[hn,<- hl,rv.length]) hst fun h' hx=>?_;have I1:Inv X pins σ H { s with heap:=h' }:=I.kept (t':=s.toks) fun b o e=>hx b o (AM (AF e)) e;exact h pins _ σ H xs _ Q I1 (by simpa using rv) hw
def gSub (to ti:TE)(t:TSet):TG:=fun v σ H Q=>to σ H fun o H1=>ti σ H1 fun i H2=>t o i v H2 fun H3=>Q σ H3
theorem pg_sub {o i:Expr}{to ti:TE}{t:TSet}(ho:PE X o to)(hi:PE X i ti)(hs:PSet X t)
  (ha:∀v,assign (.Subscript o i pos) X.env v=(do
   let ov <- holding [v] (eval o X.env)
   let iv <- holding [v,ov] (eval i X.env)
   standAt pos
   holding [v,ov,iv] (setItem ov iv v)
   release [v,ov,iv] []):=by intro _; rfl):PG X (.Subscript o i pos) (gSub to ti t):=by
 intro pins s σ H v u Q I r h;rw[ha];refine AA (An (thn (ho pins s σ H _ I h) fun ov s1 ⟨x,H1,I1,r1,q1⟩=>?_));refine AA (An (thn (hi pins s1 σ H1 _ I1 q1) fun iv s2 ⟨y,H2,I2,r2,q2⟩=>?_));refine AA (BV (AA (An (thn (hs pins s2 σ H2 x y v ov iv u _ I2 r1 r2 r q2) fun _ s3 ⟨H3,I3,q3⟩=>?_))));exact wpAny_release ⟨σ,H3,I3,q3⟩
def tAsg (te:TE)(g:TG):TS:=fun D σ H=>te σ H fun x H1=>g x σ H1 D.nx
theorem ps_asg {tg e:Expr}{te:TE}{g:TG}(he:PE X e te)(hg:PG X tg g)(hs:swapsWithSole [tg] e pos.line X.env=pure false:=by rfl)(hw:swappedStores [tg] e X.env=pure none:=by rfl)
  (h1:(assignEach [tg] X.env).map (·.2)=[assign tg X.env]:=by rfl):PS X (.Assign [tg] e pos) (tAsg te g):=by
 intro pins s σ H D I h;refine wpAny_Assign_stores (thn (he pins s σ H _ I h) fun v s1 ⟨x,H1,I1,r1,q1⟩=>?_) hs hw;rw[h1];exact thn (hg pins s1 σ H1 x v _ I1 r1 q1) fun _ s2 q=>q
theorem zK {i:Nat}{x:Str}{e:Expr}{te:TE}{pos':Pos}(hN:X.N.Nodup)(hi:X.N[i]?=some x)(hx:Loc X.env.scope x)(he:PE X e te)(hs:swapsWith e (some (.Name x pos')) pos.line X.env=pure false:=by rfl)(hf:X.fn x=true\/X.env.scope.names.lookup x=some .local:=by first | exact .inl rfl | exact .inr rfl | assumption):
  PS X (.Assign [.Name x pos'] e pos) (tAsg te (gV i)):=by
 intro pins s σ H D I h;refine wpAny_Assign_Name (thn (he pins s σ H _ I h) fun v s1 ⟨y,H1,I1,r1,q1⟩=>?_) hs;exact lV I1 hN hi hx r1 (fun s2 I2=>⟨_,H1,I2,q1⟩) hf
def tAug (i:Nat)(te:TE)(ti:TIp):TS:=fun D σ H=>∃x,σ[i]?=some (some x)/\te σ H fun y H1=>ti x y H1 fun z H2=>D.nx (σ.set i (some z)) H2
theorem ps_aug {i:Nat}{x:Str}{e:Expr}{te:TE}{op:Operator}{ti:TIp}{pos':Pos}(hN:X.N.Nodup)(hi:X.N[i]?=some x)(hx:Loc X.env.scope x)(he:PE X e te)(ho:PIp X op ti)(hf:X.fn x=true\/X.env.scope.names.lookup x=some .local:=by first | exact .inl rfl | exact .inr rfl | assumption):
  PS X (.AugAssign (.Name x pos') op e pos) (tAug i te ti):=by
 intro pins s σ H D I h;obtain⟨v,e1,h⟩:=h;obtain⟨m,hn,hl⟩:=I.loc;have vis:Vis X.env.scope x:=by rcases hx with k | k; exact .inl k; exact .inr (.inl k)
 obtain⟨u,r,l⟩:=hl i x v hi e1 vis;refine wpAny_AugAssign_Name ?_
 have go:wpAny (model X.prog X.w) X.A (eval e X.env) (fun w s₂=>wpAny (model X.prog X.w) X.A (inplaceOp op u w) (fun r s₃=>wpAny (model X.prog X.w) X.A (storeName X.env x r) (fun _=>SP X pins D .next) X.xe s₃) X.xe s₂) X.xe s:=by
  refine thn (he pins s σ H _ I h) fun w s1 ⟨y,H1,I1,r1,q1⟩=>?_;refine thn (ho pins s1 σ H1 v y u w _ I1 r r1 q1) fun z s2 ⟨zv,H2,I2,r2,q2⟩=>?_;exact lV I2 hN hi hx r2 (fun s3 I3=>⟨_,H2,I3,q2⟩) hf
 rcases l with ⟨hk,hm⟩ | ⟨hk,c,hc,hcell⟩
 .exact wpAny_loadName_local I.ok.kind hk hn hm go
 .rcases hk with hk | hk
  .exact wpAny_loadName_cell I.ok.kind hk hc hcell go
  .rcases hx with k | k
   .have:X.env.scope.names.lookup x=some .free:=hk
    rw[k] at this; cases this
   .have:X.env.scope.names.lookup x=some .free:=hk
    rw[k] at this; cases this
end
section
variable {X:Cx}{pos:Pos}
def tWhile (c:TT)(tb:TS):TS:=fun D σ H=>∃W:Nat->St->Hp->Prop,(∃m,W m σ H)/\∀m σ H,W m σ H ->
 c σ H fun b H1=>if b=true then ∃N:St->Hp->Prop,(∀σ' H',N σ' H'->∃m',m' < m/\W m' σ' H')/\tb { D with nx:=N,ct:=N,bk:=D.nx } σ H1 else D.nx σ H1
theorem iN {c:Expr}{body:List Stmt}{tc:TT}{tb:TS}(hp:PassesOwn (model X.prog X.w) X.A X.env X.xe)(hc:PT X c tc)(hb:PSs X body tb):PS X (.While c body [] pos) (tWhile tc tb):=by
 intro pins s σ H D I h;obtain⟨W,⟨m0,w0⟩,turn⟩:=h;refine wpAny_While (codeAny_whileLoop (fun n s'=>∃σ' H',Inv X pins σ' H' s'/\W n σ' H') ?_ m0 ⟨σ,H,I,w0⟩);rintro n s1 ⟨σ1,H1,I1,w1⟩;refine BD hp (thn (hc pins s1 σ1 H1 _ I1 (turn n σ1 H1 w1)) fun b s2 ⟨H2,I2,q2⟩=>?_)
 cases b with
 |true =>
  obtain⟨N,hN,q2⟩:=q2;rw[AV rfl];refine BD hp (thn (hb pins s2 σ1 H2 _ I2 q2) fun f s3 q3=>?_)
  cases f with
  |next =>
   obtain⟨σ3,H3,I3,n3⟩:=q3;obtain⟨m',hm,w3⟩:=hN σ3 H3 n3;exact⟨m',hm,σ3,H3,I3,w3⟩
  |cont =>
   obtain⟨σ3,H3,I3,n3⟩:=q3;obtain⟨m',hm,w3⟩:=hN σ3 H3 n3;exact⟨m',hm,σ3,H3,I3,w3⟩
  |brk=>exact q3
  |ret v=>exact q3
 |false =>
  rw[AR AE];exact BW ⟨σ1,H2,I2,q2⟩
end
structure It where
 go:Nat->Hp->Prop
 yld:Nat->Hp->V->Hp->Prop
 stop:Nat->Hp->Prop
def nH (X:Cx)(pins:List (Addr×Obj))(H:Hp)(b:Addr):Prop :=
 H b=none/\b≠X.env.locals/\b∉X.fs/\(b∈X.ex\/X.s₀.heap.objs.size<=b)/\(∀x c,X.env.cells.lookup x=some c->c≠b)/\∀p∈X.pn++pins,p.1≠b
theorem Inv.fpOk {X:Cx}{pins:List (Addr×Obj)}{σ:St}{H H':Hp}{s:Shared}{b:Addr}(I:Inv X pins σ H s)(hb:s.heap.objs.size<=b)(hn:H' b=none):nH X pins H' b:=by
 refine⟨hn,Bq (AD I.lt hb),I.nofs hb,.inr (AO I.sz hb),fun x c e z=>?_,fun p hp z=>?_⟩
 .obtain ⟨v,q⟩:=I.cell x c e
  exact absurd (AD q.lt (by rw[z]; exact hb)) (BF _)
 .exact absurd (AD (AF (I.pin p hp).1) (by rw[z]; exact hb)) (BF _)
structure dR (P:Program)(w:World)(K:CU)(tg:Expr)(J:It)(fp:List Addr)(it:Addr)(tn:Nat->Heap->Prop):Prop where
 mem:it∈fp
 obj:∀i h,tn i h->∀b∈fp,∃o,h.get? b=some o/\∀v,o.data≠.cell v
 keep:∀i h h',tn i h->(∀b∈fp,∀o,h.get? b=some o->h'.get? b=some o)->tn i h'
 item:∀(X:Cx),X.prog=P->X.w=w->X.K=K->X.calm=true->∀(i:Nat) (pins:List (Addr×Obj)) (s:Shared) (σ:St) (H:Hp) (E:Value->Shared->Prop),Inv X pins σ H s->(∀b∈fp,nH X pins H b)->tn i s.heap->J.go i H ->
  wpAny (model P w) X.A (pyNext (.ref it)) (fun r s1=>∃u,r=some u /\
   wpAny (model P w) X.A (letOwnedTupleGo tg (.ref it) u) (fun _ s2=>∃x H',Inv X pins σ H' s2/\RelV x u/\J.yld i H x H'/\tn (i+1) s2.heap/\∀b∈fp,H' b=none) E s1) E s
 done:∀(X:Cx),X.prog=P->X.w=w->X.K=K->X.calm=true->∀(i:Nat) (pins:List (Addr×Obj)) (s:Shared) (σ:St) (H:Hp) (E:Value->Shared->Prop),Inv X pins σ H s->(∀b∈fp,nH X pins H b)->tn i s.heap->J.stop i H ->
  wpAny (model P w) X.A (pyNext (.ref it)) (fun r s1=>r=none/\Inv X pins σ H s1) E s
 self:∀(A:Around) (i:Nat) (s:Shared) (Q:Value->Shared->Prop) (E:Value->Shared->Prop),tn i s.heap->Q (.ref it) s->wpAny (model P w) A (pyIter (.ref it)) Q E s
abbrev TI:=St->Hp->(It->Hp->Prop)->Prop
def PIE (X:Cx)(pins:List (Addr×Obj))(σ:St)(tg:Expr)(R:It->Hp->Prop)(itv:Value)(s2:Shared):Prop :=
 ∃(it:Addr) (fp:List Addr) (tn:Nat->Heap->Prop) (J:It) (H':Hp),itv=.ref it/\Inv X pins σ H' s2/\dR X.prog X.w X.K tg J fp it tn/\tn 0 s2.heap/\(∀b∈fp,nH X pins H' b)/\R J H'
def PI (X:Cx)(tg iter:Expr)(wi:TI):Prop :=
 ∀(pins:List (Addr×Obj)) (s:Shared) (σ:St) (H:Hp) (R:It->Hp->Prop),Inv X pins σ H s->wi σ H R ->
  wpAny (model X.prog X.w) X.A (eval iter X.env) (fun v s1=>wpAny (model X.prog X.w) X.A (pyIter v) (PIE X pins σ tg R) X.xe s1) X.xe s
theorem eC {M:Model}{A:Around}{E:Value->Shared->Prop}{s:Shared}{tg:Expr}{it:Addr}{u:Value}{o:Obj}{n:String}{vs:Array Value}{Q:Unit->Shared->Prop}(ho:s.heap.get? it=some o)(hc:o.cls=.type n)(hd:o.data=.fields vs)
  (hn:["enumerate","zip","dict_itemiterator","dict_reverseitemiterator","odict_iterator","itertools.zip_longest","itertools.pairwise"].contains n=false) (hQ:Q () s):wpAny M A (letOwnedTupleGo tg (.ref it) u) Q E s:=by
 unfold letOwnedTupleGo
 cases tg<;>first
  |exact AB hQ
  | (cases u<;>first
    |exact AB hQ
    | (refine AA (BJ ho ?_)
       rw[hc,hd];show wpAny M A (if (["enumerate","zip","dict_itemiterator","dict_reverseitemiterator","odict_iterator","itertools.zip_longest","itertools.pairwise"].contains n&&vs[0]?==some (rawInt _))=true then _ else _) Q E s;rw[AR (by intro h; rw[hn,Bool.false_and] at h; cases h)]
       exact AB hQ))
def Itl (K:CU)(a:Addr):It :=
 ⟨fun i H=>∃xs x,SqL K H a xs/\xs[i]?=some x,fun i H x H'=>H'=H/\∀xs,SqL K H a xs->xs[i]?=some x,fun i H=>∃xs,SqL K H a xs/\xs.length<=i⟩
def Itt (K:CU)(a:Addr):It :=
 ⟨fun i H=>∃xs x,SqT K H a xs/\xs[i]?=some x,fun i H x H'=>H'=H/\∀xs,SqT K H a xs->xs[i]?=some x,fun i H=>∃xs,SqT K H a xs/\xs.length<=i⟩
def Itr (lo:Int)(n:Nat):It:=⟨fun i _=>i < n,fun i H x H'=>H'=H/\x=.int (lo+i),fun i _=>n<=i⟩
theorem tE {P:Program}{w:World}{K:CU}{tg:Expr}(a it:Addr):dR P w K tg (Itl K a) [it] it (fun i h=>h.IsListIter it a i) where
 mem:=by simp
 obj:=fun i h st b hb=>by
  have e:b=it:=by simpa using hb
  subst e;obtain⟨o,e,c,d⟩:=st;exact⟨o,e,fun v z=>by rw[d] at z; cases z⟩
 keep:=fun i h h' st k=>st.at fun o e=>k it (by simp) o e
 item:=by
  intro X hP hw hK hc i pins s σ H E I hf st hg;subst hP hw hK;obtain⟨xs,x,hq,hx⟩:=hg;obtain⟨its,rv,p,hz⟩:=I.list hq;obtain⟨u,hu,ru⟩:=rv.get hx;obtain⟨f0,f1,f2,f3,f4,f5⟩:=hf it (by simp);refine wpAny_pyNext_list_item st p.isList (x:=u) (by simpa using hu) fun h' st' sb=>?_;have I1:Inv X pins σ H { s with heap:=h' }:=I.turned (t':=s.toks) (fun b o hb e=>(sb.2 b hb).trans e) f0 f1 f3 f4 f5;obtain⟨o,e,c,d⟩:=id st'
  exact⟨u,rfl,eC (s:={ s with heap:=h' }) e c d (by decide) ⟨x,H,I1,ru,⟨rfl,fun ys hy=>by rw[I.list_inj hy hq]; exact hx⟩,st',fun b hb=>(hf b hb).1⟩⟩
 done:=by
  intro X hP hw hK hc i pins s σ H E I hf st hg;subst hP hw hK;obtain⟨xs,hq,hx⟩:=hg;obtain⟨its,rv,p,hz⟩:=I.list hq;obtain⟨f0,f1,f2,f3,f4,f5⟩:=hf it (by simp);have hl:=rv.length;exact wpAny_pyNext_list_end (I.ok.hd hc) st p.isList (by simp; omega) fun h' eb=>⟨rfl,I.turned (t':=s.toks) (fun b o hb e=>eb b o hb e) f0 f1 f3 f4 f5⟩
 self:=fun _ _ _ _ _ st h=>wpAny_pyIter_listiter st h
theorem eR {P:Program}{w:World}{K:CU}{tg:Expr}(a it:Addr):dR P w K tg (Itt K a) [it] it (fun i h=>h.IsTupleIter it a i) where
 mem:=by simp
 obj:=fun i h st b hb=>by
  have e:b=it:=by simpa using hb
  subst e;obtain⟨o,e,c,d⟩:=st;exact⟨o,e,fun v z=>by rw[d] at z; cases z⟩
 keep:=fun i h h' st k=>st.at fun o e=>k it (by simp) o e
 item:=by
  intro X hP hw hK hc i pins s σ H E I hf st hg;subst hP hw hK;obtain⟨xs,x,hq,hx⟩:=hg;obtain⟨its,rv,p,hz⟩:=I.tuple hq;obtain⟨u,hu,ru⟩:=rv.get hx;obtain⟨f0,f1,f2,f3,f4,f5⟩:=hf it (by simp);refine wpAny_pyNext_tuple_item st (show s.heap.IsTuple a its.toArray from p) (x:=u) (by simpa using hu) fun h' st' sb=>?_;have I1:Inv X pins σ H { s with heap:=h' }:=I.turned (t':=s.toks) (fun b o hb e=>(sb.2 b hb).trans e) f0 f1 f3 f4 f5
  obtain⟨o,e,c,d⟩:=id st';exact⟨u,rfl,eC (s:={ s with heap:=h' }) e c d (by decide) ⟨x,H,I1,ru,⟨rfl,fun ys hy=>by rw[I.tuple_inj hy hq]; exact hx⟩,st',fun b hb=>(hf b hb).1⟩⟩
 done:=by
  intro X hP hw hK hc i pins s σ H E I hf st hg;subst hP hw hK;obtain⟨xs,hq,hx⟩:=hg;obtain⟨its,rv,p,hz⟩:=I.tuple hq;obtain⟨f0,f1,f2,f3,f4,f5⟩:=hf it (by simp);have hl:=rv.length;exact wpAny_pyNext_tuple_end (I.ok.hd hc) st (show s.heap.IsTuple a its.toArray from p) (by simp; omega) fun h' eb=>⟨rfl,I.turned (t':=s.toks) (fun b o hb e=>eb b o hb e) f0 f1 f3 f4 f5⟩
 self:=fun _ _ _ _ _ st h=>wpAny_pyIter_tupleiter st h
theorem aR {P:Program}{w:World}{K:CU}{tg:Expr}(it:Addr)(lo:Int)(n:Nat):dR P w K tg (Itr lo n) [it] it (fun i h=>IsRangeIter h it (lo+(i:Nat) * 1) ((n:Int) - (i:Nat)) 1) where
 mem:=by simp
 obj:=fun i h st b hb=>by
  have e:b=it:=by simpa using hb
  subst e
  exact⟨_,st,fun v z=>by
   have z':Data.fields _=Data.cell v:=z
   cases z'⟩
 keep:=fun i h h' st k=>k it (by simp) _ st
 item:=by
  intro X hP hw hK hc i pins s σ H E I hf st hg;subst hP hw hK;obtain⟨f0,f1,f2,f3,f4,f5⟩:=hf it (by simp);have W:=Walks.range (prog:=X.prog) (w:=X.w) (I.ok.hd hc) it lo 1 n;refine W.item i s _ _ hg st fun v h' tk hv st' kk=>?_;obtain⟨t,rfl⟩:=hv;have I1:Inv X pins σ H { s with heap:=h',toks:=tk }:=I.turned (fun b o hb e=>kk b o (by simpa using hb) e) f0 f1 f3 f4 f5;refine⟨_,rfl,eC (s:={ s with heap:=h',toks:=tk }) (n:="range_iterator") st' rfl rfl (by decide) ⟨.int (lo+i),H,I1,⟨t,?_⟩,⟨rfl,rfl⟩,st',fun b hb=>(hf b hb).1⟩⟩
  rw[Int.mul_one]
 done:=by
  intro X hP hw hK hc i pins s σ H E I hf st hg;subst hP hw hK;obtain⟨f0,f1,f2,f3,f4,f5⟩:=hf it (by simp);exact wpAny_pyNext_range_end (I.ok.hd hc) st (by have:n<=i:=hg; omega) fun h' eb=>⟨rfl,I.turned (t':=s.toks) (fun b o hb e=>eb b o hb e) f0 f1 f3 f4 f5⟩
 self:=fun _ _ _ _ _ st h=>wpAny_pyIter_rangeiter st h
section
variable {X:Cx}{tg:Expr}
def iList (K:CU)(tl:TE):TI:=fun σ H R=>tl σ H fun x H1=>∃a,x=.ref a/\(∃xs,SqL K H1 a xs)/\R (Itl K a) H1
def iTup (K:CU)(tl:TE):TI:=fun σ H R=>tl σ H fun x H1=>∃a,x=.ref a/\(∃xs,SqT K H1 a xs)/\R (Itt K a) H1
theorem pi_list {l:Expr}{tl:TE}(hl:PE X l tl):PI X tg l (iList X.K tl):=by
 intro pins s σ H R I h;refine thn (hl pins s σ H _ I h) fun v s1 ⟨x,H1,I1,r1,q1⟩=>?_;obtain⟨a,e,⟨xs,hq⟩,q⟩:=q1;subst e;cases r1;obtain⟨its,rv,p,hz⟩:=I1.list hq;refine wpAny_pyIter_list p.isList ?_;refine⟨s1.heap.objs.size,[s1.heap.objs.size],_,_,H1,rfl,I1.kept (t':=s1.toks) fun b o e=>AC _ e,tE a _,⟨_,AQ _ rfl,rfl,rfl⟩,fun b hb=>?_,q⟩;have e:b=s1.heap.objs.size:=by simpa using hb
 subst e;exact I1.fpOk (AI _) (I1.hok.fresh (AI _))
theorem Q1 {l:Expr}{tl:TE}(hl:PE X l tl):PI X tg l (iTup X.K tl):=by
 intro pins s σ H R I h;refine thn (hl pins s σ H _ I h) fun v s1 ⟨x,H1,I1,r1,q1⟩=>?_;obtain⟨a,e,⟨xs,hq⟩,q⟩:=q1;subst e;cases r1;obtain⟨its,rv,p,hz⟩:=I1.tuple hq;refine wpAny_pyIter_tuple (show s1.heap.IsTuple a its.toArray from p) ?_;refine⟨s1.heap.objs.size,[s1.heap.objs.size],_,_,H1,rfl,I1.kept (t':=s1.toks) fun b o e=>AC _ e,eR a _,⟨_,AQ _ rfl,rfl,rfl⟩,fun b hb=>?_,q⟩
 have e:b=s1.heap.objs.size:=by simpa using hb
 subst e;exact I1.fpOk (AI _) (I1.hok.fresh (AI _))
theorem QT {pins:List (Addr×Obj)}{σ:St}{H:Hp}{s:Shared}{R:It->Hp->Prop}{E:Value->Shared->Prop}{lo hi:Int}{t u v:Tok}{tk:Nat}(I:Inv X pins σ H s)(h1 : -(2 ^ 62)<=lo)(h2:lo < 2 ^ 62)(h3 : -(2 ^ 62)<=hi)(h4:hi < 2 ^ 62)
  (q:R (Itr lo (hi - lo).toNat) H):wpAny (model X.prog X.w) X.A (pyIter (.ref s.heap.objs.size)) (PIE X pins σ tg R) E { s with heap:=s.heap.push { cls:=.type "range",data:=.fields #[.int lo t,.int hi u,.int 1 v] },toks:=tk }:=by
 refine wpAny_pyIter_range (IsRange.new ..) (small_one h1 h2 h3 h4) ?_;have I1:Inv X pins σ H { s with heap:=s.heap.push { cls:=.type "range",data:=.fields #[.int lo t,.int hi u,.int 1 v] },toks:=tk }:=I.kept fun b o e=>AC _ e
 refine⟨(s.heap.push { cls:=.type "range",data:=.fields #[.int lo t,.int hi u,.int 1 v] }).objs.size,[(s.heap.push { cls:=.type "range",data:=.fields #[.int lo t,.int hi u,.int 1 v] }).objs.size],_,_,H,rfl,
  I1.kept (t':=tk) fun b o e=>AC _ e,aR _ lo (hi - lo).toNat,?_,fun b hb=>?_,q⟩
 .have e1:lo+((0:Nat):Int) * 1=lo:=by simp
  have e2:(((hi - lo).toNat:Nat):Int) - ((0:Nat):Int)=Builtin.Range.rangeSize lo hi 1:=by rw[rangeSize_one]; split<;>omega
  show IsRangeIter _ _ (lo+((0:Nat):Int) * 1) ((((hi - lo).toNat:Nat):Int) - ((0:Nat):Int)) 1;rw[e1,e2];exact AQ _ rfl
 .have e:b=(s.heap.push { cls:=.type "range",data:=.fields #[.int lo t,.int hi u,.int 1 v] }).objs.size:=by simpa using hb
  subst e;exact I1.fpOk (AI _) (I1.hok.fresh (AI _))
def iRng1 (ta:TA):TI:=fun σ H R=>ta σ H fun vs H1=>∃j:Int,vs=[.int j]/\-(2 ^ 62)<=j/\j < 2 ^ 62/\R (Itr 0 j.toNat) H1
theorem uA {a:Expr}{ta:TA}{p pos:Pos}(hg:Gl X "range")(hm:X.mg "range" = none)(ha:PA X [a] ta)(hs:starEach [a] X.env=[(false,eval a X.env)]:=by rfl):PI X tg (.Call (.Name "range" p) [a] [] pos) (iRng1 ta):=by
 intro pins s σ H R I h;refine Call_ (kU I hg hm boot_range (BG (thn (ha pos pins s σ H _ I h) fun us s1 ⟨vs,H1,I1,r1,q1⟩=>?_) hs rfl));obtain⟨j,e,q1,q2,q⟩:=q1;subst e
 cases r1 with
 |cons r rr =>
  cases rr;obtain⟨t,rfl⟩:=r;exact call_range_1 (QT I1 (by omega) (by omega) q1 q2 (by simpa using q))
def tFor (wi:TI)(g:TG)(tb:TS):TS:=fun D σ H=>wi σ H fun J H1=>∃W:Nat->Nat->St->Hp->Prop,(∃m,W 0 m σ H1)/\∀i m σ H,W i m σ H ->
 (J.stop i H/\D.nx σ H)\/(J.go i H/\∃N:St->Hp->Prop,(∀σ' H',N σ' H'->∃m',m' < m/\W (i+1) m' σ' H')/\∀x H',J.yld i H x H'->g x σ H' fun σ2 H2=>tb { D with nx:=N,ct:=N,bk:=D.nx } σ2 H2)
def yM (fp:List Addr)(h:Heap):List (Addr×Obj):=fp.filterMap fun b=>(h.get? b).map fun o=>(b,o)
theorem jV {fp:List Addr}{h:Heap}{b:Addr}{o:Obj}(hb:b∈fp)(e:h.get? b=some o):(b,o)∈yM fp h:=List.mem_filterMap.mpr ⟨b,hb,by rw[e]; rfl⟩
theorem qI {fp:List Addr}{h:Heap}{p:Addr×Obj}(hp:p∈yM fp h):p.1∈fp/\h.get? p.1=some p.2:=by
 obtain⟨b,hb,e⟩:=List.mem_filterMap.mp hp
 cases q:h.get? b with
 |none=>rw[q] at e; cases e
 |some o =>
  rw[q] at e;have e':(b,o)=p:=Ae e;subst e';exact⟨hb,q⟩
theorem Inv.pinned {pins:List (Addr×Obj)}{σ:St}{H:Hp}{s:Shared}{fp:List Addr}(I:Inv X pins σ H s)(hf:∀b∈fp,nH X pins H b)(ho:∀b∈fp,∃o,s.heap.get? b=some o/\∀v,o.data≠.cell v):Inv X (pins++yM fp s.heap) σ H s :=
 I.pins_of fun p hp=>(List.mem_append.mp hp).elim (fun z=>I.pin p (Ac _ z)) fun z=>by
  obtain⟨hb,e⟩:=qI z;obtain⟨f0,f1,f2,_⟩:=hf p.1 hb;obtain⟨o,e',d⟩:=ho p.1 hb;rw[e] at e'; cases e'
  exact⟨e,f0,f1,f2,d⟩
theorem Inv.unpinned {pins pl:List (Addr×Obj)}{σ:St}{H:Hp}{s:Shared}(I:Inv X (pins++pl) σ H s):Inv X pins σ H s:=I.pins_of fun p hp=>I.pin p (Ac _ (CP _ hp))
theorem vP {iter:Expr}{body:List Stmt}{wi:TI}{g:TG}{tb:TS}{pos:Pos}(hp:PassesOwn (model X.prog X.w) X.A X.env X.xe)(hc:X.calm=true)(hi:PI X tg iter wi)(hg:PG X tg g)(hb:PSs X body tb)
  (hs:∀x,foldedSetIterable iter X.env x=pure x:=by intro _; rfl):PS X (.For tg iter body [] pos) (tFor wi g tb):=by
 intro pins s σ H D I h;refine wpAny_For (thn (hi pins s σ H _ I h) fun v s1 h1=>thn h1 fun itv s2 h2=>?_) hs;obtain⟨it,fp,tn,J,H2,e,I2,T,st2,f2,W,⟨m0,w0⟩,turn⟩:=h2;subst e;have stat:∀{H':Hp},(∀b∈fp,H' b=none)->∀b∈fp,nH X pins H' b:=fun hn b hb=>⟨hn b hb,(f2 b hb).2⟩;refine codeAny_forLoop_any (fun n s'=>∃i σ' H',Inv X pins σ' H' s'/\tn i s'.heap/\(∀b∈fp,H' b=none)/\W i n σ' H') ?_ m0 ⟨0,σ,H2,I2,st2,fun b hb=>(f2 b hb).1,w0⟩
 rintro n s3 ⟨i,σ3,H3,I3,st3,fr3,w3⟩
 rcases turn i n σ3 H3 w3 with ⟨stop,qn⟩ | ⟨go,N,hN,step⟩
 .refine BD hp (thn (T.done X rfl rfl rfl hc i pins s3 σ3 H3 X.xe I3 (stat fr3) st3 stop) fun r s4 ⟨hr,I4⟩=>?_)
  subst hr;exact BW ⟨σ3,H3,I4,qn⟩
 .refine BD hp (thn (T.item X rfl rfl rfl hc i pins s3 σ3 H3 X.xe I3 (stat fr3) st3 go) fun r s4 ⟨u,hr,h4⟩=>?_)
  subst hr;refine BD hp (thn h4 fun _ s5 ⟨x,H5,I5,r5,y5,st5,fr5⟩=>?_);have I5':=I5.pinned (stat fr5) (T.obj _ _ st5);refine BD hp (thn (hg _ s5 σ3 H5 x u _ I5' r5 (step x H5 y5)) fun _ s6 ⟨σ6,H6,I6,q6⟩=>?_);refine BD hp (thn (hb _ s6 σ6 H6 _ I6 q6) fun f s7 q7=>?_)
  have again:∀{σ7:St} {H7:Hp},Inv X (pins++yM fp s5.heap) σ7 H7 s7->N σ7 H7->∃m,m < n/\∃i σ' H',Inv X pins σ' H' s7/\tn i s7.heap/\(∀b∈fp,H' b=none)/\W i m σ' H':=fun {σ7 H7} I7 n7=>by
   obtain⟨m',hm,w7⟩:=hN σ7 H7 n7;refine⟨m',hm,i+1,σ7,H7,I7.unpinned,T.keep _ _ _ st5 fun b hb o e=>(I7.pin (b,o) (Ac _ (Ac _ (jV hb e)))).1,fun b hb=>?_,w7⟩;obtain⟨o,e,d⟩:=T.obj _ _ st5 b hb;exact(I7.pin (b,o) (Ac _ (Ac _ (jV hb e)))).2.1
  cases f with
  |next=>obtain⟨σ7,H7,I7,n7⟩:=q7; exact again I7 n7
  |cont=>obtain⟨σ7,H7,I7,n7⟩:=q7; exact again I7 n7
  |brk=>obtain⟨σ7,H7,I7,q7⟩:=q7; exact⟨σ7,H7,I7.unpinned,q7⟩
  |ret v=>obtain⟨x7,σ7,H7,I7,r7,q7⟩:=q7; exact⟨x7,σ7,H7,I7.unpinned,r7,q7⟩
end
abbrev R2:=V->V->Hp->VK->Prop
def OpR (X:Cx)(f:Value->Value->Sem Value)(r:R2):Prop :=
 ∀(pins:List (Addr×Obj)) (s:Shared) (σ:St) (H:Hp) (x y:V) (v u:Value) (Q:VK),Inv X pins σ H s->RelV x v->RelV y u->r x y H Q ->
  wpAny (model X.prog X.w) X.A (f v u) (EP X pins σ Q) X.xe s
def UnR (X:Cx)(f:Value->Sem Value)(r:V->Hp->VK->Prop):Prop :=
 ∀(pins:List (Addr×Obj)) (s:Shared) (σ:St) (H:Hp) (x:V) (v:Value) (Q:VK),Inv X pins σ H s->RelV x v->r x H Q ->
  wpAny (model X.prog X.w) X.A (f v) (EP X pins σ Q) X.xe s
def CallR (X:Cx)(f:Value)(r:List V->Hp->VK->Prop):Prop :=
 ∀(pins:List (Addr×Obj)) (s:Shared) (σ:St) (H:Hp) (xs:List V) (us:List Value) (Q:VK),Inv X pins σ H s->Vals xs us->r xs H Q ->
  wpAny (model X.prog X.w) X.A (call f us) (EP X pins σ Q) X.xe s
def TruR (X:Cx)(r:V->Hp->(Bool->Hp->Prop)->Prop):Prop :=
 ∀(pins:List (Addr×Obj)) (s:Shared) (σ:St) (H:Hp) (x:V) (v:Value) (Q:Bool->Hp->Prop),Inv X pins σ H s->RelV x v->r x H Q ->
  wpAny (model X.prog X.w) X.A (truthy v) (TP X pins σ Q) X.xe s
def tOp (r:R2)(ta tb:TE):TE:=fun σ H Q=>ta σ H fun x H1=>tb σ H1 fun y H2=>r x y H2 Q
def tUn (r:V->Hp->VK->Prop)(ta:TE):TE:=fun σ H Q=>ta σ H fun x H1=>r x H1 Q
inductive II (C:Int->Int->Prop)(g:Int->Int->V)(x y:V)(H:Hp)(Q:VK):Prop
 |mk (i j:Int) (h:x=.int i) (h':y=.int j) (c:C i j) (q:Q (g i j) H):II C g x y H Q
def rI (C:Int->Int->Prop)(g:Int->Int->V):R2:=II C g
inductive II0 (g:Int->Int->V)(x y:V)(H:Hp)(Q:VK):Prop
 |mk (i j:Int) (h:x=.int i) (h':y=.int j) (q:Q (g i j) H):II0 g x y H Q
def rI0 (g:Int->Int->V):R2:=II0 g
def rU (g:Int->V):V->Hp->VK->Prop:=fun x H Q=>∃i,x=.int i/\Q (g i) H
section
variable {X:Cx}{a b c:Expr}{ta tb tc:TE}{pos:Pos}
theorem binT (ha:PE X a ta)(hb:PE X b tb){pins:List (Addr×Obj)}{s:Shared}{σ:St}{H:Hp}{R:V->V->Hp->Prop}(I:Inv X pins σ H s)
  (h:ta σ H fun x H1=>tb σ H1 fun y H2=>R x y H2) {Q:Value->Shared->Prop} {f:Value->Value->Sem Value}
  (hf:∀v u s2 x y H2,Inv X pins σ H2 s2->RelV x v->RelV y u->R x y H2->wpAny (model X.prog X.w) X.A (f v u) Q X.xe s2) :
  wpAny (model X.prog X.w) X.A (eval a X.env) (fun v s₁=>wpAny (model X.prog X.w) X.A (eval b X.env) (fun u s₂=>wpAny (model X.prog X.w) X.A (f v u) Q X.xe s₂) X.xe s₁) X.xe s:=by
 refine thn (ha pins s σ H _ I h) fun v s1 ⟨x,H1,I1,r1,q1⟩=>?_;refine thn (hb pins s1 σ H1 _ I1 q1) fun u s2 ⟨y,H2,I2,r2,q2⟩=>?_;exact hf v u s2 x y H2 I2 r1 r2 q2
theorem pe_op {op:Operator}{r:R2}(ho:OpR X (binaryOp op) r)(ha:PE X a ta)(hb:PE X b tb):PE X (.BinOp a op b pos) (tOp r ta tb):=by
 intro pins s σ H Q I h;exact wpAny_BinOp (binT ha hb I h fun v u s2 x y H2 I2 rx ry q=>ho pins s2 σ H2 x y v u Q I2 rx ry q)
theorem pe_un {op:UnaryOp}{r:V->Hp->VK->Prop}(ho:UnR X (unaryOp op) r)(ha:PE X a ta):PE X (.UnaryOp op a pos) (tUn r ta):=by
 intro pins s σ H Q I h;exact UnaryOp_ (thn (ha pins s σ H _ I h) fun v s1 ⟨x,H1,I1,r1,q1⟩=>ho pins s1 σ H1 x v Q I1 r1 q1)
theorem opI {f:Value->Value->Sem Value}{C:Int->Int->Prop}{g:Int->Int->Int}
  (rule:∀(i j:Int) (t u:Tok) (s:Shared) (Q:Value->Shared->Prop) (E:Value->Shared->Prop),C i j->Q (.int (g i j) s.toks) { s with toks:=s.toks+1 }->wpAny (model X.prog X.w) X.A (f (.int i t) (.int j u)) Q E s) :
  OpR X f (rI C fun i j=>.int (g i j)):=by
 intro pins s σ H x y v u Q I rx ry h;obtain⟨i,j,rfl,rfl,hc,q⟩:=h;obtain⟨t,rfl⟩:=rx;obtain⟨t',rfl⟩:=ry;exact rule i j t t' s _ _ hc ⟨.int (g i j),H,I.tok _,⟨_,rfl⟩,q⟩
theorem opI0 {f:Value->Value->Sem Value}{g:Int->Int->Int}
  (rule:∀(i j:Int) (t u:Tok) (s:Shared) (Q:Value->Shared->Prop) (E:Value->Shared->Prop),Q (.int (g i j) s.toks) { s with toks:=s.toks+1 }->wpAny (model X.prog X.w) X.A (f (.int i t) (.int j u)) Q E s) :
  OpR X f (rI0 fun i j=>.int (g i j)):=by
 intro pins s σ H x y v u Q I rx ry h;obtain⟨i,j,rfl,rfl,q⟩:=h;obtain⟨t,rfl⟩:=rx;obtain⟨t',rfl⟩:=ry;exact rule i j t t' s _ _ ⟨.int (g i j),H,I.tok _,⟨_,rfl⟩,q⟩
theorem opB0 {f:Value->Value->Sem Value}{g:Int->Int->Bool}
  (rule:∀(i j:Int) (t u:Tok) (s:Shared) (Q:Value->Shared->Prop) (E:Value->Shared->Prop),Q (.bool (g i j)) s->wpAny (model X.prog X.w) X.A (f (.int i t) (.int j u)) Q E s) :
  OpR X f (rI0 fun i j=>.bl (g i j)):=by
 intro pins s σ H x y v u Q I rx ry h;obtain⟨i,j,rfl,rfl,q⟩:=h;obtain⟨t,rfl⟩:=rx;obtain⟨t',rfl⟩:=ry;exact rule i j t t' s _ _ ⟨.bl (g i j),H,I,rfl,q⟩
def CPow (i j:Int):Prop:=0<=j/\j<=1000000/\i.natAbs < 2 ^ 64
def CMul (i j:Int):Prop:=(-(2 ^ 64) < i/\i < 2 ^ 64)\/(-(2 ^ 64) < j/\j < 2 ^ 64)
theorem CMul.ok {i j:Int}(h:CMul i j):IntMulOk i j:=by
 rcases h with ⟨h1,h2⟩ | ⟨h1,h2⟩
 .exact .of_left (intBits_le_64 h1 h2)
 .exact .of_right (intBits_le_64 h1 h2)
theorem op_add:OpR X (binaryOp .Add) (rI0 fun i j=>.int (i+j)):=opI0 fun _ _ _ _ _ _ _ q=>add_int q
theorem bS:OpR X (binaryOp .Sub) (rI0 fun i j=>.int (i - j)):=opI0 fun _ _ _ _ _ _ _ q=>sub_int q
theorem mP:OpR X (binaryOp .Mult) (rI CMul fun i j=>.int (i * j)):=opI fun _ _ _ _ _ _ _ hc q=>mul_int q hc.ok
theorem tV:OpR X (binaryOp .Mod) (rI (fun _ j=>0 < j) fun i j=>.int (i % j)):=opI fun i j _ _ _ _ _ hc q=>by
 have h1:(0:Int) < j:=hc;exact mod_int' (by omega) (by rw[Int.fmod_eq_emod_of_nonneg i (by omega)]; exact q)
theorem Xa:OpR X (binaryOp .Pow) (rI CPow fun i j=>.int (i ^ j.toNat)):=opI fun _ _ _ _ _ _ _ hc q=>pow_int_small hc.1 hc.2.1 hc.2.2 q
theorem unI {f:Value->Sem Value}{g:Int->Int}
  (rule:∀(i:Int) (t:Tok) (s:Shared) (Q:Value->Shared->Prop) (E:Value->Shared->Prop),Q (.int (g i) s.toks) { s with toks:=s.toks+1 }->wpAny (model X.prog X.w) X.A (f (.int i t)) Q E s) :
  UnR X f (rU fun i=>.int (g i)):=by
 intro pins s σ H x v Q I rx h;obtain⟨i,rfl,q⟩:=h;obtain⟨t,rfl⟩:=rx;exact rule i t s _ _ ⟨.int (g i),H,I.tok _,⟨_,rfl⟩,q⟩
theorem un_neg:UnR X (unaryOp .USub) (rU fun i=>.int (-i)):=unI fun _ _ _ _ _ q=>neg_int q
end
def scal:V->V->Bool
 |.non,.non=>true | .non,.int _=>true | .int _,.non=>true | .non,.bl _=>true | .bl _,.non=>true | .non,.str _=>true | .str _,.non=>true
 |.int _,.int _=>true | .bl _,.bl _=>true | .str _,.str _=>true | .byt _,.byt _=>true
 |.int _,.str _=>true | .str _,.int _=>true | .bl _,.str _=>true | .str _,.bl _=>true
 |_,_=>false
def rEq:R2:=fun x y H Q=>scal x y=true/\Q (.bl (decide (x=y))) H
def rNe:R2:=fun x y H Q=>scal x y=true/\Q (.bl (!decide (x=y))) H
theorem iO {i j:Int}:decide (V.int i=V.int j)=(i==j):=by
 rw[BZ]
 simp
theorem XZ {i j:Bool}:decide (V.bl i=V.bl j)=(i==j):=by
 rw[BZ]
 simp
theorem aO {i j:Str}:decide (V.str i=V.str j)=(i==j):=by
 rw[BZ]
 simp
theorem qE {i j:Array UInt8}:decide (V.byt i=V.byt j)=(i.toList==j.toList):=by
 rw[BZ];cases i;cases j
 simp
section
variable {X:Cx}{a b c:Expr}{ta tb tc:TE}{pos:Pos}
theorem tQ {pins:List (Addr×Obj)}{σ:St}{H:Hp}{s:Shared}{Q:VK}{k k':Bool}(I:Inv X pins σ H s)(q:Q (.bl k) H)(e:k=k'):EP X pins σ Q (.bool k') s:=by
 subst e;exact⟨.bl k,H,I,rfl,q⟩
theorem bJ:OpR X (compareOp .Eq) rEq:=by
 intro pins s σ H x y v u Q I rx ry h;obtain⟨hs,q⟩:=h
 cases x with
 |non =>
  cases rx
  cases y with
  |non=>cases ry; exact PySem.EqNone.eq_none_none (tQ I q (by simp))
  |bl j=>cases ry; exact PySem.EqNone.eq_none_bool (tQ I q (by simp))
  |int j=>obtain⟨t',rfl⟩:=ry; exact PySem.EqNone.eq_none_int (tQ I q (by simp))
  |str j=>obtain⟨t',rfl⟩:=ry; exact PySem.EqNone.eq_none_str (tQ I q (by simp))
  |_=>exact absurd (show false=true from hs) AE
 |bl i =>
  cases rx
  cases y with
  |non=>cases ry; exact PySem.EqNone.eq_bool_none (tQ I q (by simp))
  |bl j=>cases ry; exact eq_bool (tQ I q XZ)
  |str j=>obtain⟨t',rfl⟩:=ry; exact PySem.EqMixed.eq_bool_str (tQ I q (by simp))
  |_=>exact absurd (show false=true from hs) AE
 |int i =>
  obtain⟨t,rfl⟩:=rx
  cases y with
  |non=>cases ry; exact PySem.EqNone.eq_int_none (tQ I q (by simp))
  |int j=>obtain⟨t',rfl⟩:=ry; exact eq_int (tQ I q iO)
  |str j=>obtain⟨t',rfl⟩:=ry; exact PySem.EqMixed.eq_int_str (tQ I q (by simp))
  |_=>exact absurd (show false=true from hs) AE
 |str i =>
  obtain⟨t,rfl⟩:=rx
  cases y with
  |non=>cases ry; exact PySem.EqNone.eq_str_none (tQ I q (by simp))
  |bl j=>cases ry; exact PySem.EqMixed.eq_str_bool (tQ I q (by simp))
  |int j=>obtain⟨t',rfl⟩:=ry; exact PySem.EqMixed.eq_str_int (tQ I q (by simp))
  |str j=>obtain⟨t',rfl⟩:=ry; exact eq_str (tQ I q aO)
  |_=>exact absurd (show false=true from hs) AE
 |byt i =>
  obtain⟨t,rfl⟩:=rx
  cases y with
  |byt j=>obtain⟨t',rfl⟩:=ry; exact PySem.W.eq_bytes (tQ I q qE)
  |_=>exact absurd (show false=true from hs) AE
 |_=>cases y<;>exact absurd (show false=true from hs) AE
theorem Xb:OpR X (compareOp .NotEq) rNe:=by
 intro pins s σ H x y v u Q I rx ry h;obtain⟨hs,q⟩:=h
 cases x with
 |non =>
  cases rx
  cases y with
  |non=>cases ry; exact PySem.EqNone.ne_none_none (tQ I q (by simp))
  |bl j=>cases ry; exact PySem.EqNone.ne_none_bool (tQ I q (by simp))
  |int j=>obtain⟨t',rfl⟩:=ry; exact PySem.EqNone.ne_none_int (tQ I q (by simp))
  |str j=>obtain⟨t',rfl⟩:=ry; exact PySem.EqNone.ne_none_str (tQ I q (by simp))
  |_=>exact absurd (show false=true from hs) AE
 |bl i =>
  cases rx
  cases y with
  |non=>cases ry; exact PySem.EqNone.ne_bool_none (tQ I q (by simp))
  |bl j=>cases ry; exact ne_bool (tQ I q (BE not XZ))
  |str j=>obtain⟨t',rfl⟩:=ry; exact PySem.EqMixed.ne_bool_str (tQ I q (by simp))
  |_=>exact absurd (show false=true from hs) AE
 |int i =>
  obtain⟨t,rfl⟩:=rx
  cases y with
  |non=>cases ry; exact PySem.EqNone.ne_int_none (tQ I q (by simp))
  |int j=>obtain⟨t',rfl⟩:=ry; exact ne_int (tQ I q (BE not iO))
  |str j=>obtain⟨t',rfl⟩:=ry; exact PySem.EqMixed.ne_int_str (tQ I q (by simp))
  |_=>exact absurd (show false=true from hs) AE
 |str i =>
  obtain⟨t,rfl⟩:=rx
  cases y with
  |non=>cases ry; exact PySem.EqNone.ne_str_none (tQ I q (by simp))
  |bl j=>cases ry; exact PySem.EqMixed.ne_str_bool (tQ I q (by simp))
  |int j=>obtain⟨t',rfl⟩:=ry; exact PySem.EqMixed.ne_str_int (tQ I q (by simp))
  |str j=>obtain⟨t',rfl⟩:=ry; exact ne_str (tQ I q (BE not aO))
  |_=>exact absurd (show false=true from hs) AE
 |byt i =>
  obtain⟨t,rfl⟩:=rx
  cases y with
  |byt j=>obtain⟨t',rfl⟩:=ry; exact PySem.W.ne_bytes (tQ I q (BE not qE))
  |_=>exact absurd (show false=true from hs) AE
 |_=>cases y<;>exact absurd (show false=true from hs) AE
theorem yO:OpR X (compareOp .Lt) (rI0 fun i j=>.bl (decide (i < j))):=opB0 fun _ _ _ _ _ _ _ q=>lt_int q
theorem pU:OpR X (compareOp .LtE) (rI0 fun i j=>.bl (decide (i<=j))):=opB0 fun _ _ _ _ _ _ _ q=>le_int q
theorem sD:OpR X (compareOp .Gt) (rI0 fun i j=>.bl (decide (j < i))):=opB0 fun _ _ _ _ _ _ _ q=>gt_int q
theorem nD:OpR X (compareOp .In) (fun x y H Q=>∃i j,x=.str i/\y=.str j/\Q (.bl (!(Builtin.Str.occurrences j i 0 j.length 1).isEmpty)) H):=by
 intro pins s σ H x y v u Q I rx ry h;obtain⟨i,j,rfl,rfl,q⟩:=h;obtain⟨t,rfl⟩:=rx;obtain⟨t',rfl⟩:=ry;exact in_str (tQ I q rfl)
theorem Xc:OpR X (compareOp .Is) (fun x y H Q=>y=.non/\Q (.bl (decide (x=.non))) H):=by
 intro pins s σ H x y v u Q I rx ry h;obtain⟨rfl,q⟩:=h;cases ry;refine is_none_gen (tQ I q ?_)
 cases x<;>first
  | (cases rx; rfl)
  | (obtain⟨t,rfl⟩:=rx; rfl)
theorem OpR.or {f:Value->Value->Sem Value}{r r':R2}(h:OpR X f r)(h':OpR X f r'):OpR X f (fun x y H Q=>r x y H Q\/r' x y H Q):=by
 intro pins s σ H x y v u Q I rx ry q
 rcases q with q | q
 .exact h pins s σ H x y v u Q I rx ry q
 .exact h' pins s σ H x y v u Q I rx ry q
theorem rY (b:Expr){op:CmpOp}(h:op≠.In:=by decide)(h2:op≠.NotIn:=by decide):behindInMarks op b=false:=by
 have e1:(op==CmpOp.In)=false:=by cases op<;>first | rfl | exact absurd rfl h
 have e2:(op==CmpOp.NotIn)=false:=by cases op<;>first | rfl | exact absurd rfl h2
 cases b<;>simp[behindInMarks,e1,e2]
theorem pe_cmpR {op:CmpOp}{r:R2}(ho:OpR X (compareOp op) r)(ha:PE X a ta)(hb:PE X b tb)(hm:behindInMarks op b=false):PE X (.Compare a [op] [b] pos) (tOp r ta tb):=by
 intro pins s σ H Q I h;exact wpAny_Compare1 (binT ha hb I h fun v u s2 x y H2 I2 rx ry q=>ho pins s2 σ H2 x y v u Q I2 rx ry q) hm
def mT (t:TE):TT:=fun σ H Q=>t σ H (IBl Q)
theorem kG {op:CmpOp}{r:R2}(ho:OpR X (compareOp op) r)(ha:PE X a ta)(hb:PE X b tb)(hm:behindInMarks op b=false):PT X (.Compare a [op] [b] pos) (mT (tOp r ta tb)):=by
 intro pins s σ H Q I h
 refine wpAny_isTrue_Compare1 (thn (ha pins s σ H _ I h) fun v s1 ⟨x,H1,I1,r1,q1⟩=>thn (hb pins s1 σ H1 _ I1 q1) fun u s2 ⟨y,H2,I2,r2,q2⟩ =>
  thn (ho pins s2 σ H2 x y v u _ I2 r1 r2 q2) fun c s3 ⟨z,H3,I3,r3,k,e,q3⟩=>?_) hm
 subst e;cases r3;exact Af ⟨H3,I3,q3⟩
def iR (r r':R2)(ta tb tc:TE):TE:=fun σ H Q=>ta σ H fun x H1=>tb σ H1 fun y H2=>r x y H2 fun z H3=>∃k,z=.bl k /\
 (if k=true then tc σ H3 fun w' H4=>r' y w' H4 Q else Q (.bl false) H3)
theorem Q7 {op op':CmpOp}{r r':R2}(ho:OpR X (compareOp op) r)(ho':OpR X (compareOp op') r')(ha:PE X a ta)(hb:PE X b tb)(hc:PE X c tc)
  (hm:lastMarks [op,op'] [b,c]=false:=by with_unfolding_all rfl):PE X (.Compare a [op,op'] [b,c] pos) (iR r r' ta tb tc):=by
 intro pins s σ H Q I h
 refine Compare_chain (thn (ha pins s σ H _ I h) fun v s1 ⟨x,H1,I1,r1,q1⟩=>chain_link (thn (hb pins s1 σ H1 _ I1 q1) fun u s2 ⟨y,H2,I2,r2,q2⟩ =>
  thn (ho pins s2 σ H2 x y v u _ I2 r1 r2 q2) fun d s3 ⟨z,H3,I3,r3,k,e,q3⟩=>?_)) hm
 subst e;cases r3;refine Af ?_
 cases k with
 |false=>exact ite_ff ⟨.bl false,H3,I3,rfl,q3⟩
 |true=>exact ite_tt (chain_last (thn (hc pins s3 σ H3 _ I3 q3) fun w' s4 ⟨z',H4,I4,r4,q4⟩=>ho' pins s4 σ H4 y z' u w' Q I4 r2 r4 q4))
theorem QZ {op op':CmpOp}{r r':R2}(ho:OpR X (compareOp op) r)(ho':OpR X (compareOp op') r')(ha:PE X a ta)(hb:PE X b tb)(hc:PE X c tc)
  (hm:lastMarks [op,op'] [b,c]=false:=by with_unfolding_all rfl):PT X (.Compare a [op,op'] [b,c] pos) (mT (iR r r' ta tb tc)):=by
 intro pins s σ H Q I h
 refine isTrue_chain (thn (ha pins s σ H _ I h) fun v s1 ⟨x,H1,I1,r1,q1⟩=>test_link (thn (hb pins s1 σ H1 _ I1 q1) fun u s2 ⟨y,H2,I2,r2,q2⟩ =>
  thn (ho pins s2 σ H2 x y v u _ I2 r1 r2 q2) fun d s3 ⟨z,H3,I3,r3,k,e,q3⟩=>?_)) hm
 subst e;cases r3;refine Af ?_
 cases k with
 |false =>
  obtain⟨k',e',q'⟩:=q3;cases e';exact ite_ff ⟨H3,I3,q'⟩
 |true =>
  refine ite_tt (test_last (thn (hc pins s3 σ H3 _ I3 q3) fun w' s4 ⟨z',H4,I4,r4,q4⟩=>thn (ho' pins s4 σ H4 y z' u w' _ I4 r2 r4 q4) fun d' s5 ⟨z2,H5,I5,r5,k2,e2,q5⟩=>?_));subst e2;cases r5;exact Af ⟨H5,I5,q5⟩
def TruV (K:CU)(x:V)(H:Hp)(k:Bool):Prop :=
 match x with
 |.non=>k=false
 |.bl b=>k=b
 |.int i=>k=(i != 0)
 |.str y=>y.length<=sizeLine/\k=((y.length:Int) != 0)
 |.byt y=>y.size<=sizeLine/\k=((y.size:Int) != 0)
 |.ref p=>(∃xs,SqL K H p xs/\k = !xs.isEmpty)\/(∃xs,SqT K H p xs/\k = !xs.isEmpty)\/∃kvs,H p=some (.dK kvs)/\k = !kvs.isEmpty
 |_=>False
theorem oS {κ:Type}{kvs:List (κ×V)}{vs:List (κ×Value)}(r:KV kvs vs):(!vs.isEmpty) = !kvs.isEmpty:=by
 cases r<;>rfl
theorem eM {xs:List V}{its:List Value}(r:Vals xs its):(!its.toArray.isEmpty) = !xs.isEmpty:=by
 cases r<;>simp
theorem nY:(sizeLine:Nat) < 2 ^ 63:=by rw[CM]; decide
theorem tru_ok:TruR X (fun x H Q=>∃k,TruV X.K x H k/\Q k H):=by
 intro pins s σ H x v Q I rx h;obtain⟨k,e,q⟩:=h;have hl:=nY;have hs:sizeLine=16777216:=CM
 cases x with
 |non =>
  cases rx;have e':k=false:=e;subst e';exact truthy_none ⟨H,I,q⟩
 |bl b =>
  cases rx;have e':k=b:=e;subst e';exact Af ⟨H,I,q⟩
 |int i =>
  obtain⟨t,rfl⟩:=rx;have e':k=(i != 0):=e;subst e';exact PySem.P.truthy_int ⟨H,I,q⟩
 |str y =>
  obtain⟨t,rfl⟩:=rx;obtain⟨hy,e'⟩:y.length<=sizeLine/\k=((y.length:Int) != 0):=e;subst e';exact PySem.P.truthy_str (by omega) ⟨H,I.tok _,q⟩
 |byt y =>
  obtain⟨t,rfl⟩:=rx;obtain⟨hy,e'⟩:y.size<=sizeLine/\k=((y.size:Int) != 0):=e;subst e';exact PySem.W.truthy_bytes (by omega) ⟨H,I.tok _,q⟩
 |ref p =>
  cases rx;have e':(∃xs,SqL X.K H p xs/\k = !xs.isEmpty)\/(∃xs,SqT X.K H p xs/\k = !xs.isEmpty)\/∃kvs,H p=some (.dK kvs)/\k = !kvs.isEmpty:=e
  rcases e' with ⟨xs,hx,e'⟩ | ⟨xs,hx,e'⟩ | ⟨kvs,hx,e'⟩
  .subst e'
   obtain⟨its,r,pl,hz⟩:=I.list hx;have hlen:=r.length;exact wpAny_truthy_list pl.isList (by simp only[List.size_toArray]; omega) ⟨H,I.tok _,by rw[eM r]; exact q⟩
  .subst e'
   obtain⟨its,r,pl,hz⟩:=I.tuple hx;have hlen:=r.length;exact truthy_tuple pl (by simp only[List.size_toArray]; omega) ⟨H,I.tok _,by rw[eM r]; exact q⟩
  .subst e'
   obtain⟨hz,hS,vs,r,m⟩:kvs.length<=sizeLine/\(p==sysModules)=false/\∃vs,KV kvs vs/\s.heap.DictOf (sQ X.prog X.w) p vs:=I.hok p _ hx;have hlen:kvs.length=vs.length:=Paired.length r;exact wpAny_truthy_dict hS m (by omega) ⟨H,I.tok _,by rw[oS r]; exact q⟩
 |_=>exact(show False from e).elim
theorem QY (ha:PE X a ta)(he:∀whole,isTrue a X.env whole=(do let v <- whole; standAt a.pos; holding [v] (truthy v))):
  PT X a (fun σ H Q=>ta σ H fun x H'=>∃k,TruV X.K x H' k/\Q k H'):=by
 intro pins s σ H Q I h;exact isTrue_plain (thn (ha pins s σ H _ I h) fun v s1 ⟨x,H1,I1,r1,q1⟩=>tru_ok pins s1 σ H1 x v Q I1 r1 q1) (he _)
theorem mS:OpR X (binaryOp .Add) (fun x y H Q=>∃i j,x=.str i/\y=.str j/\i.length+j.length<=sizeLine/\Q (.str (i++j)) H):=by
 intro pins s σ H x y v u Q I rx ry h;obtain⟨i,j,rfl,rfl,hz,q⟩:=h;obtain⟨t,rfl⟩:=rx;obtain⟨t',rfl⟩:=ry;exact add_str (fun t' tk=>⟨.str (i++j),H,I.tok _,⟨_,rfl⟩,q⟩) hz
theorem iY {x:V}{us:List Value}(r:Vals [x] us):∃u,us=[u]/\RelV x u:=by
 cases r with
 |cons r1 r2=>cases r2; exact⟨_,rfl,r1⟩
theorem vals2 {x y:V}{us:List Value}(r:Vals [x,y] us):∃u w',us=[u,w']/\RelV x u/\RelV y w':=by
 cases r with
 |cons r1 r2 =>
  cases r2 with
  |cons r3 r4=>cases r4; exact⟨_,_,rfl,r1,r3⟩
theorem Zf:CallR X (.builtin "abs") (fun xs H Q=>∃i,xs=[.int i]/\Q (.int (if i < 0 then -i else i)) H):=by
 intro pins s σ H xs us Q I r h;obtain⟨i,rfl,q⟩:=h;obtain⟨u,rfl,t,rfl⟩:=iY r;exact call_abs_int fun u tk=>⟨.int (if i < 0 then -i else i),H,I.tok _,⟨_,rfl⟩,q⟩
theorem gH:CallR X (.type "str") (fun xs H Q=>∃i,xs=[.int i]/\i.natAbs.log2 < 1920/\Q (.str (toString i)) H):=by
 intro pins s σ H xs us Q I r h;obtain⟨i,rfl,hz,q⟩:=h;obtain⟨u,rfl,t,rfl⟩:=iY r;exact PySem.P.str_of_int hz ⟨.str _,H,I.tok _,⟨_,rfl⟩,q⟩
end
structure ObjM (h:Heap)(x dx C:Addr)(mA:Str->Option Value):Prop where
 obj:h.get? x=some (PySem.W.instObj C dx)
 ns:h.Ns1 dx mA
 ne:dx≠x
theorem aD {h:Heap}{dx:Addr}{mA:Str->Option Value}(n:h.Ns1 dx mA):∃od,h.get? dx=some od/\∀name,PySem.W.lookIn name od=some (mA name):=by
 obtain⟨o,es,ep,ho,hd,hk,_,hm⟩:=n;refine⟨o,ho,fun name=>?_⟩;have e:=hm name;unfold nsFind findBy at e;rw[<- Array.find?_toList] at e;unfold PySem.W.lookIn;rw[hd];dsimp only
 split
 .rename_i y q
  rw[q] at e;exact BE some e
 .rename_i q
  rw[q] at e
  have a:es.toList.any (·.refKey)=false:=by
   rw[List.any_eq_false];intro y hy;obtain⟨z,t,hkey⟩:=hk y (CQ.mp hy)
   simp[DictEntry.refKey,hkey]
  have a':¬ es.toList.any (·.refKey)=true:=by rw[a]; exact AE
  rw[AR a'];exact BE some e
theorem ObjM.look {h:Heap}{x dx C:Addr}{mA:Str->Option Value}(I:ObjM h x dx C mA):∃od,PySem.W.InstAt h x (PySem.W.instObj C dx) C (some od)/\∀name,PySem.W.lookIn name od=some (mA name) :=
 let ⟨od,ho,hl⟩:=aD I.ns
 ⟨od,⟨I.obj,rfl,rfl,ho⟩,hl⟩
section
variable {prog:Program}{w:World}{A:Around}{E:Value->Shared->Prop}{s:Shared}{K:CU}{x dx C f:Addr}{mA:Str->Option Value}{name:Str}{v:Value}
theorem get_map {expr:Bool}{Q:Value->Shared->Prop}(X:K.In s.heap)(I:ObjM s.heap x dx C mA)(hg:PySem.W.plainGet K C name=true)(hh:PySem.W.hasDictIn K C=true)
  (ha:PySem.W.findIn K (.ref C) name=some none) (hv:mA name=some v) (hv':PySem.W.handedIn v=true) (h:Q v { s with toks:=s.toks+1 }) :
  wpAny (model prog w) A (getAttr (.ref x) name expr) Q E s:=by
 obtain⟨od,J,hl⟩:=I.look;exact PySem.W.get_value X J (PySem.W.plainGet_of hg).1 (PySem.W.findObj_own hh ha rfl (by rw[hl,hv])) hv' h
theorem XE {pl:Sem Bool}{Q:Value×List Value->Shared->Prop}(X:K.In s.heap)(I:ObjM s.heap x dx C mA)(hg:PySem.W.plainGet K C name=true)
  (hf:PySem.W.findIn K (.ref C) name=some (some (.ref f))) (ht:PySem.W.isFn K (.ref f)=true) (hv:mA name=none) (h:Q (.ref f,[.ref x]) s) :
  wpAny (model prog w) A (getMethod (.ref x) name pl) Q E s:=by
 obtain⟨od,J,hl⟩:=I.look;exact PySem.W.method_fn X J (PySem.W.plainGet_of hg).1 (PySem.W.plainGet_of hg).2 hf (BK.mp ht) (by show(PySem.W.lookIn name od).map (·.isSome)=some false; rw[hl,hv]; rfl) h
theorem set_map {ns:List Str}{Q:Unit->Shared->Prop}(X:K.In s.heap)(I:ObjM s.heap x dx C mA)
  (hs:PySem.W.findIn K (.ref C) "__setattr__" = some (some (.builtin "object.__setattr__"))) (hp:PySem.W.plainOver K C=true) (ht:PySem.W.takerIn K C name=some none) (hh:PySem.W.hasDictIn K C=true)
  (hw:PySem.Within mA ns) (hsz:ns.length<=sizeLine)
  (h:∀h',ObjM h' x dx C (fun y=>if y=name then some v else mA y)->Heap.SameBut dx s.heap h'->Q () { s with heap:=h',toks:=s.toks+2 }) :
  wpAny (model prog w) A (setAttr (.ref x) name v) Q E s:=by
 obtain⟨od,J,hl⟩:=I.look;refine PySem.W.set_plain X J hs (PySem.W.osa_open (s:={ s with toks:=s.toks+1 }) (r:=none) X J hp ht fun b=>?_);obtain⟨cd,hc,hd'⟩:=PySem.W.any_some hh;have hx:s.heap.get? x=some ⟨.ref C,some dx,.plain,#[]⟩:=I.obj;refine AA (AB (AA (AA (Bc hx (AA (As (s:={ s with toks:=s.toks+1 }) (PySem.W.looks_clsIn X hc) ?_))))))
 rw[hd'];refine AB (a:=some dx) (AA (AB (AA ?_)));refine wpAny_nsSet1 (s:={ s with toks:=s.toks+1 }) I.ns fun h' hn2 hs2=>?_;obtain⟨oD,esD,epD,hoD,hdD,hcD⟩:=hn2.count (PySem.Within.cons name v hw);refine AA (wpAny_lookBehind hoD (by rw[hdD]; exact pastItsLine_dict (AO hcD (by rw[AZ]; omega))) ?_);exact AB (h _ ⟨(hs2.2 _ (Ne.symm I.ne)).trans I.obj,hn2,I.ne⟩ hs2)
theorem Xn {R:Result->Shared->Prop}{vs:List Value}{kw:List (Str×Value)}(X:K.In s.heap)(hm:PySem.W.makesIn K C=true)
  (hi:PySem.W.findIn K (.ref C) "__init__" = some (some (.ref f))) (hf:PySem.W.typeIn K (.ref f)=some (.type "function"))
  (h:codeAny (model prog w) (A.under (.builtin "type.__call__" ⟨.ref C::vs,kw⟩)) (.call (.ref f) ⟨.ref (s.heap.objs.size+1)::vs,kw⟩) (PySem.W.InitBack (s.heap.objs.size+1) R)
   { s with heap:=(s.heap.push PySem.W.emptyDict).push (PySem.W.instObj C s.heap.objs.size) }) :
  codeAny (model prog w) A (.call (.ref C) ⟨vs,kw⟩) R s:=by
 obtain⟨hh,g,d,t,os⟩:=s;exact PySem.W.make_core (PySem.W.makes_of X hm) (PySem.W.looks_findIn X hi) (fun self=>PySem.W.bind_fn X self hf) (.inl rfl) h
end
def yJ (f:Str)(v:V):List (Str×V)->List (Str×V)
 |[]=>[(f,v)]
 | (g,x)::r=>if g=f then (g,v)::r else (g,x)::yJ f v r
theorem zW (f g:Str)(v:V):∀fs:List (Str×V),(yJ f v fs).lookup g=if g=f then some v else fs.lookup g
 |[]=>by
  show List.lookup g [(f,v)]=_
  by_cases h:g=f
  .have hb:(g==f)=true:=BK.mpr h
   simp only[List.lookup,hb,if_pos h]
  .have hb:(g==f)=false:=BS.mpr h
   simp only[List.lookup,hb,if_neg h]
 | (k,x)::r=>by
  have ih:=zW f g v r;rw[show yJ f v ((k,x)::r)=(if k=f then (k,v)::r else (k,x)::yJ f v r) from rfl]
  by_cases hk:k=f
  .rw [AV hk]
   by_cases h:g=k
   .have hb:(g==k)=true:=BK.mpr h
    simp only[List.lookup,hb,if_pos (h.trans hk)]
   .have hb:(g==k)=false:=BS.mpr h
    simp only[List.lookup,hb,if_neg (fun e:g=f=>h (e.trans hk.symm))]
  .rw [AR hk]
   by_cases h:g=k
   .have hb:(g==k)=true:=BK.mpr h
    simp only[List.lookup,hb,if_neg (fun e:g=f=>hk (h.symm.trans e))]
   .have hb:(g==k)=false:=BS.mpr h
    simp only[List.lookup,hb]
    exact ih
theorem pK (f:Str)(v:V):∀fs:List (Str×V),f∈(yJ f v fs).map (·.1)/\∀g,g∈fs.map (·.1)->g∈(yJ f v fs).map (·.1)
 |[]=>⟨by simp[yJ],fun g h=>by simp at h⟩
 | (k,x)::r=>by
  obtain⟨i1,i2⟩:=pK f v r;rw[show yJ f v ((k,x)::r)=(if k=f then (k,v)::r else (k,x)::yJ f v r) from rfl]
  by_cases hk:k=f
  .rw [AV hk]
   subst hk;exact⟨by simp,fun g h=>by simpa using h⟩
  .rw [AR hk]
   refine⟨?_,fun g h=>?_⟩
   .rw [Au]
    exact AJ _ i1
   .rw [Au] at h ⊢
    rcases Ag.mp h with e | e
    .exact Ag.mpr (.inl e)
    .exact AJ _ (i2 g e)
theorem cU (f:Str)(v:V):∀fs:List (Str×V),(yJ f v fs).length<=fs.length+1
 |[]=>by simp[yJ]
 | (k,x)::r=>by
  have ih:=cU f v r;rw[show yJ f v ((k,x)::r)=(if k=f then (k,v)::r else (k,x)::yJ f v r) from rfl]
  by_cases hk:k=f
  .rw [AV hk,AZ,AZ]; omega
  .rw [AR hk,AZ,AZ]; omega
theorem RelO.some_of {v:V}{o:Option Value}(r:RelO (some v) o):∃u,o=some u/\RelV v u:=by
 cases o with
 |none=>exact(show False from r).elim
 |some u=>exact⟨u,rfl,r⟩
theorem RelO.none_of {o:Option Value}(r:RelO none o):o=none:=by
 cases o with
 |none=>rfl
 |some u=>exact(show False from r).elim
theorem uL {v:V}{u:Value}(r:RelV v u):PySem.W.handedIn u=true:=by
 cases v with
 |non=>cases (show u=Value.none from r); rfl
 |bl b=>cases (show u=Value.bool b from r); rfl
 |int i=>obtain⟨t,e⟩:=(show ∃t,u=Value.int i t from r); cases e; rfl
 |str x=>obtain⟨t,e⟩:=(show ∃t,u=Value.str x t from r); cases e; rfl
 |byt b=>obtain⟨t,e⟩:=(show ∃t,u=Value.bytes b t from r); cases e; rfl
 |flt b=>obtain⟨t,e⟩:=(show ∃t,u=Value.float b t from r); cases e; rfl
 |ref a=>cases (show u=Value.ref a from r); rfl
 |ty n=>cases (show u=Value.type n from r); rfl
section
variable {P:Program}{w:World}{H H':Hp}{h h':Heap}{a C dx:Addr}{fs fs':List (Str×V)}
theorem mB (hok:HOk P w H h)(e:H a=some (.ins C dx fs)):∃mA,ObjM h a dx C mA/\(∀f,RelO (fs.lookup f) (mA f))/\PySem.Within mA (fs.map (·.1))/\fs.length<=1000/\H dx=some (.own a):=by
 obtain⟨d,z,ne,ob,mA,n,r,q⟩:=(show ObjOk P w H h a (.ins C dx fs) from hok a _ e);exact⟨mA,⟨ob,n,ne⟩,r,q,z,d⟩
end
structure Cls (K:CU)(C:Addr):Prop where
 pg:PySem.W.plainGet K C Str.empty=true
 hd:PySem.W.hasDictIn K C=true
 po:PySem.W.plainOver K C=true
 sa:PySem.W.findIn K (.ref C) "__setattr__" = some (some (.builtin "object.__setattr__"))
theorem Cls.get {K:CU}{C:Addr}(c:Cls K C)(f:Str):PySem.W.plainGet K C f=true:=c.pg
def NoAttr (K:CU)(C:Addr)(f:Str):Prop:=PySem.W.findIn K (.ref C) f=some none
theorem NoAttr.taker {K:CU}{C:Addr}{f:Str}(n:NoAttr K C f):PySem.W.takerIn K C f=some none:=by
 unfold PySem.W.takerIn;rw[show PySem.W.findIn K (.ref C) f=some none from n]
 rfl
structure Qi (K:CU)(C:Addr)(m:Str)(f:Addr):Prop where
 at_:PySem.W.findIn K (.ref C) m=some (some (.ref f))
 fn:PySem.W.isFn K (.ref f)=true
 kp:PySem.W.keepIn K (.ref f)=true
section
variable {X:Cx}{pins:List (Addr×Obj)}{σ:St}{H:Hp}{s:Shared}{a C dx:Addr}{fs:List (Str×V)}{f:Str}{v:V}{A:Around}{E:Value->Shared->Prop}
theorem qF {b:Bool}{Q:Value->Shared->Prop}(I:Inv X pins σ H s)(e:H a=some (.ins C dx fs))(c:Cls X.K C)(n:NoAttr X.K C f)(l:fs.lookup f=some v)
  (h:∀u s',Inv X pins σ H s'->RelV v u->Q u s'):wpAny (model X.prog X.w) A (getAttr (.ref a) f b) Q E s:=by
 obtain⟨mA,O,r,_,_,_⟩:=mB I.hok e;obtain⟨u,hu,ru⟩:=RelO.some_of (v:=v) (o:=mA f) (by rw[<- l]; exact r f);exact get_map I.kIn O (c.get f) c.hd n hu (uL ru) (h u _ (I.tok _) ru)
theorem iM {m:Str}{g:Addr}{pl:Sem Bool}{Q:Value×List Value->Shared->Prop}(I:Inv X pins σ H s)(e:H a=some (.ins C dx fs))(c:Cls X.K C)(k:Qi X.K C m g)(l:fs.lookup m=none)
  (h:Q (.ref g,[.ref a]) s):wpAny (model X.prog X.w) A (getMethod (.ref a) m pl) Q E s:=by
 obtain⟨mA,O,r,_,_,_⟩:=mB I.hok e;have hn:mA m=none:=RelO.none_of (by rw[<- l]; exact r m);exact XE I.kIn O (c.get m) k.at_ k.fn hn h
theorem zM {y:V}{u:Value}{Q:Unit->Shared->Prop}(I:Inv X pins σ H s)(e:H a=some (.ins C dx fs))(c:Cls X.K C)(n:NoAttr X.K C f)(hl:fs.length < 1000)(ry:RelV y u)
  (h:∀s',Inv X pins σ (upd H a (.ins C dx (yJ f y fs))) s'->Q () s'):wpAny (model X.prog X.w) A (setAttr (.ref a) f u) Q E s:=by
 obtain⟨mA,O,r,wi,_,ho⟩:=mB I.hok e;have hz:(fs.map (·.1)).length<=sizeLine:=by rw[AL,CM]; omega
 refine set_map I.kIn O c.sa c.po n.taker c.hd wi hz fun h' O' sb=>h _ ?_;have hd:∃o,h'.get? dx=some o:=let ⟨o,_,_,e',_⟩:=O'.ns; ⟨o,e'⟩
 refine I.write (x:=a) (e:=dx) (by rw[e]; exact True.intro) (.inr ho) (fun b q hb z=>(sb.2 b hb).trans z) hd ?_;refine⟨by rw[wQ O.ne]; exact ho,?_,O.ne,O'.obj,_,O'.ns,fun g=>?_,fun g hg=>?_⟩
 .have:=cU f y fs; omega
 .show RelO ((yJ f y fs).lookup g) (if g=f then some u else mA g)
  rw[zW]
  by_cases q:g=f
  .rw [AV q,AV q]; exact ry
  .rw [AR q,AR q]; exact r g
 .by_cases q:g=f
  .rw [q]; exact(pK f y fs).1
  .refine (pK f y fs).2 g (wi g fun z=>hg ?_)
   show(if g=f then some u else mA g)=none;rw[AR q]; exact z
theorem Inv.made (I:Inv X pins σ H s):Inv X pins σ (upd (upd H s.heap.objs.size (.own (s.heap.objs.size+1))) (s.heap.objs.size+1) (.ins C s.heap.objs.size []))
  { s with heap:=(s.heap.push PySem.W.emptyDict).push (PySem.W.instObj C s.heap.objs.size) }:=by
 have e1:(s.heap.push PySem.W.emptyDict).get? s.heap.objs.size=some PySem.W.emptyDict:=AQ s.heap rfl
 have e2:((s.heap.push PySem.W.emptyDict).push (PySem.W.instObj C s.heap.objs.size)).get? (s.heap.objs.size+1)=some (PySem.W.instObj C s.heap.objs.size):=by
  have:=AQ (s.heap.push PySem.W.emptyDict) (o:=PySem.W.instObj C s.heap.objs.size) rfl
  rwa [Bg] at this
 have e3:(s.heap.push PySem.W.emptyDict).Ns s.heap.objs.size (fun _=>none):=⟨PySem.W.emptyDict,#[],_,e1,rfl,(fun e he=>absurd he (by simp)),fun _=>rfl⟩;have I1:=I.laid (a:=s.heap.objs.size) (o:=.own (s.heap.objs.size+1)) (h':=s.heap.push PySem.W.emptyDict) (t':=s.toks) (fun b u q=>AC _ q) (AI _) ⟨_,e1⟩;refine I1.laid (a:=s.heap.objs.size+1) (o:=.ins C s.heap.objs.size []) (t':=s.toks) (fun b u q=>AC _ q) (Br (Bg _ _)) ?_
 have ne:s.heap.objs.size≠s.heap.objs.size+1:=AM (By _);refine⟨by rw[wQ ne,vQ],Aa _,ne,e2,fun _=>none,(Heap.Ns1.of_empty e3).at fun o q=>AC _ q,fun _=>True.intro,fun y hy=>absurd rfl hy⟩
theorem lE {prog:Program}{w:World}{env:Env}{e:Expr}{f:Str}{pos:Pos}{s:Shared}{Q:Value->Shared->Prop}(hb:attributeBase e f env (eval e env)=eval e env)
  (h:wpAny (model prog w) A (eval e env) (fun o s₁=>wpAny (model prog w) A (getAttr o f true) Q E s₁) E s):wpAny (model prog w) A (eval (.Attribute e f pos) env) Q E s :=
 Attribute_any_ h (by rw[arm_eval_Attribute,hb])
end
def tFld (K:CU)(ta:TE)(f:Str):TE:=fun σ H Q=>ta σ H fun x H1=>∃a C dx fs v,x=.ref a/\H1 a=some (.ins C dx fs)/\Cls K C/\NoAttr K C f/\fs.lookup f=some v/\Q v H1
def sFld (K:CU)(ta tv:TE)(f:Str):TS:=fun D σ H=>tv σ H fun y H1=>ta σ H1 fun x H2=>∃a C dx fs,x=.ref a/\H2 a=some (.ins C dx fs)/\Cls K C/\NoAttr K C f/\fs.length < 1000 /\
 D.nx σ (upd H2 a (.ins C dx (yJ f y fs)))
def InOp (X:Cx)(op:Operator)(rd:V->V->Hp->VK->Prop):Prop :=
 ∀(pins:List (Addr×Obj)) (s:Shared) (σ:St) (H:Hp) (x y:V) (u v:Value) (Q:VK),Inv X pins σ H s->RelV x u->RelV y v->rd x y H Q->wpAny (model X.prog X.w) X.A (inplaceOp op u v) (EP X pins σ Q) X.xe s
def sFldAug (K:CU)(ta tv:TE)(rd:V->V->Hp->VK->Prop)(f:Str):TS:=fun D σ H=>ta σ H fun x H1=>∃a C dx fs v,x=.ref a/\H1 a=some (.ins C dx fs)/\Cls K C/\NoAttr K C f/\fs.lookup f=some v /\
 tv σ H1 fun y H2=>rd v y H2 fun z H3=>∃dx' fs',H3 a=some (.ins C dx' fs')/\fs'.length < 1000/\D.nx σ (upd H3 a (.ins C dx' (yJ f z fs')))
section
variable {X:Cx}{o e value:Expr}{f:Str}{pos pos' tpos:Pos}{ta tv:TE}
theorem pe_fld (he:PE X e ta)(hb:attributeBase e f X.env (eval e X.env)=eval e X.env):PE X (.Attribute e f pos) (tFld X.K ta f):=by
 intro pins s σ H Q I h;refine lE hb (thn (he pins s σ H _ I h) fun u s1 ⟨x,H1,I1,rx,a,C,dx,fs,v,ex,ea,c,n,l,q⟩=>?_);subst ex;obtain rfl:u=Value.ref a:=rx;exact qF I1 ea c n l fun u' s2 I2 ru=>⟨v,H1,I2,ru,q⟩
theorem ps_fld (ha:PE X o ta)(hv:PE X value tv)(hs:swapsWith value (some (.Attribute o f pos')) pos.line X.env=pure false):PS X (.Assign [.Attribute o f pos'] value pos) (sFld X.K ta tv f):=by
 intro pins s σ H D I h;refine Bh (thn (hv pins s σ H _ I h) fun u s1 ⟨y,H1,I1,ry,q⟩=>thn (ha pins s1 σ H1 _ I1 q) fun ov s2 ⟨x,H2,I2,rx,a,C,dx,fs,ex,ea,c,n,l,q2⟩=>?_) hs;subst ex;obtain rfl:ov=Value.ref a:=rx;exact zM I2 ea c n l ry fun s3 I3=>⟨σ,_,I3,q2⟩
theorem wA {op:Operator}{rd:V->V->Hp->VK->Prop}(ha:PE X o ta)(hv:PE X value tv)(hop:InOp X op rd):PS X (.AugAssign (.Attribute o f tpos) op value pos) (sFldAug X.K ta tv rd f):=by
 intro pins s σ H D I h;refine wpAny_AugAssign_AttributeAny (thn (ha pins s σ H _ I h) fun ov s1 ⟨x,H1,I1,rx,a,C,dx,fs,v,ex,ea,c,n,l,q⟩=>?_);subst ex;obtain rfl:ov=Value.ref a:=rx;refine qF I1 ea c n l fun u s2 I2 ru=>thn (hv pins s2 σ H1 _ I2 q) fun w3 s3 ⟨y,H2,I3,ry,q3⟩=>thn (hop pins s3 σ H2 v y u w3 _ I3 ru ry q3) fun w4 s4 ⟨z,H3,I4,rz,dx',fs',ea',l',q4⟩=>?_;exact zM I4 ea' c n l' rz fun s5 I5=>⟨σ,_,I5,q4⟩
def rAdd:V->V->Hp->VK->Prop:=fun x y H Q=>∃i j,x=.int i/\y=.int j/\Q (.int (i+j)) H
theorem Xx:InOp X .Add rAdd:=by
 rintro pins s σ H x y u v Q I rx ry ⟨i,j,rfl,rfl,q⟩;obtain⟨t,rfl⟩:=(show ∃t,u=Value.int i t from rx);obtain⟨t',rfl⟩:=(show ∃t',v=Value.int j t' from ry);exact PyProof.Rows.iadd_int ⟨.int (i+j),H,I.tok _,⟨_,rfl⟩,q⟩
end
section
variable {X:Cx}{pins:List (Addr×Obj)}{σ:St}{H:Hp}{s:Shared}{A:Around}{E:Value->Shared->Prop}{Q:Value->Shared->Prop}{c:Value}{b:Bool}
inductive fU (K:CU)(H:Hp):V->Value->Prop where
 |non:fU K H .non (.type "NoneType")
 |bl (x:Bool):fU K H (.bl x) (.type "bool")
 |int (i:Int):fU K H (.int i) (.type "int")
 |str (x:Str):fU K H (.str x) (.type "str")
 |flt (x:UInt64):fU K H (.flt x) (.type "float")
 |lst {a:Addr} {xs:List V} (e:H a=some (.lst xs)):fU K H (.ref a) (.type "list")
 |frz {a:Addr} {o:Obj} {xs:List V} (e:H a=some (.frz o (.lst xs))):fU K H (.ref a) (.type "list")
 |tup {a:Addr} {xs:List V} (e:H a=some (.tup xs)):fU K H (.ref a) (.type "tuple")
 |dK {a:Addr} {kvs:List (Key×V)} (e:H a=some (.dK kvs)):fU K H (.ref a) (.type "dict")
 |dT {a:Addr} {kvs:List (List Key×V)} (e:H a=some (.dT kvs)):fU K H (.ref a) (.type "dict")
 |ins {a C dx:Addr} {fs:List (Str×V)} (e:H a=some (.ins C dx fs)) (cl:Cls K C) (ha:PySem.W.findIn K (.ref C) "__class__" = some (some (.builtin "object.__class__")))
   (hn:PySem.W.specialIn K (.builtin "object.__class__") "__get__" = some (some (.builtin "getset_descriptor.__get__"))) (htk:PySem.W.takesIn K (.builtin "object.__class__")=some true)
   (hm:PySem.W.mroIn K C (.type "object")=some true):fU K H (.ref a) (.ref C)
theorem uI {x:V}{u t:Value}(I:Inv X pins σ H s)(rx:RelV x u)(ty:fU X.K H x t)(e:PySem.W.kitOne X.K t c=some b)(h:∀tk,Q (.bool b) { s with toks:=tk }):
  wpAny (model X.prog X.w) A (call (.builtin "isinstance") [u,c]) Q E s:=by
 cases ty with
 |non=>cases (show u=Value.none from rx); exact Aq PySem.W.kitx_none I.kIn True.intro e (fun z=>nomatch z) h
 |bl y=>cases (show u=Value.bool y from rx); exact Aq PySem.W.kitx_bool I.kIn True.intro e (fun z=>nomatch z) h
 |int i=>obtain⟨t,q⟩:=(show ∃t,u=Value.int i t from rx); cases q; exact Aq PySem.W.kitx_int I.kIn True.intro e (fun z=>nomatch z) h
 |str y=>obtain⟨t,q⟩:=(show ∃t,u=Value.str y t from rx); cases q; exact Aq PySem.W.kitx_str I.kIn True.intro e (fun z=>nomatch z) h
 |flt y=>obtain⟨t,q⟩:=(show ∃t,u=Value.float y t from rx); cases q; exact Aq PySem.W.kitx_float I.kIn True.intro e (fun z=>nomatch z) h
 |@lst a xs ea =>
  cases (show u=Value.ref a from rx);obtain⟨_,_,n,_,h1⟩:=(show ObjOk X.prog X.w H s.heap a (.lst xs) from I.hok a _ ea);exact Aq PySem.W.kitx_list I.kIn ⟨_,h1,rfl⟩ e (fun z=>nomatch z) h
 |@frz a ob xs ea =>
  cases (show u=Value.ref a from rx);obtain⟨_,_,_,n,_,h1⟩:=(show ObjOk X.prog X.w H s.heap a (.frz ob (.lst xs)) from I.hok a _ ea);exact Aq PySem.W.kitx_list I.kIn ⟨_,h1,rfl⟩ e (fun z=>nomatch z) h
 |@tup a xs ea =>
  cases (show u=Value.ref a from rx);obtain⟨_,_,_,p⟩:=(show ObjOk X.prog X.w H s.heap a (.tup xs) from I.hok a _ ea);obtain⟨o,h1,h2,_⟩:=p;exact Aq PySem.W.kitx_tuple I.kIn ⟨o,h1,h2⟩ e (fun z=>nomatch z) h
 |@dK a kvs ea =>
  cases (show u=Value.ref a from rx);obtain⟨_,_,vs,_,p⟩:=(show ObjOk X.prog X.w H s.heap a (.dK kvs) from I.hok a _ ea);obtain⟨o,es,ep,h1,h2,_⟩:=p;exact Aq PySem.W.kitx_dict I.kIn ⟨o,h1,h2.1⟩ e (fun z=>nomatch z) h
 |@dT a kvs ea =>
  cases (show u=Value.ref a from rx);obtain⟨_,_,xs,_,o,es,ep,h1,h2,_⟩:=(show ObjOk X.prog X.w H s.heap a (.dT kvs) from I.hok a _ ea);exact Aq PySem.W.kitx_dict I.kIn ⟨o,h1,h2.1⟩ e (fun z=>nomatch z) h
 |@ins a C dx fs ea cl ha hn htk hm =>
  cases (show u=Value.ref a from rx);obtain⟨mA,O,_⟩:=mB I.hok ea;obtain⟨od,J,_⟩:=O.look;exact Aq (PySem.W.kitx_own (cl.get _) cl.hd ha hn htk hm) I.kIn J e (fun z=>nomatch z) h
end
structure Room (k:Nat)(A:Around):Prop where
 hd:A.handled=none
 dp:A.depth+3 * k+5 < recursionLimit
 un:A.units+16 * k+200 < cLine
 gd:A.guards=some []
theorem Room.deeper {k:Nat}{A:Around}(r:Room (k+1) A)(env:Env):Room k (A.deeper env) :=
 ⟨r.hd,by have:=r.dp; show A.depth+1+3 * k+5 < _; omega,by have:=r.un; show A.units+3+16 * k+200 < _; omega,r.gd⟩
theorem rS {A:Around}{C:Addr}{us:List Value}{kw:List (Str×Value)}:(A.under (.builtin "type.__call__" ⟨.ref C::us,kw⟩)).depth=A.depth+1:=by
 first | rfl | simp[Around.under,Code.weight,Code.isCreation,Code.isGuard,Code.isCaller,Code.frames,Code.isFrame,guardIds]
theorem lS {A:Around}{C:Addr}{us:List Value}{kw:List (Str×Value)}:(A.under (.builtin "type.__call__" ⟨.ref C::us,kw⟩)).units=A.units+1:=by
 first | rfl | simp[Around.under,Code.cUnits,Code.frames,Code.isFrame]
theorem uC {A:Around}{C:Addr}{us:List Value}{kw:List (Str×Value)}:(A.under (.builtin "type.__call__" ⟨.ref C::us,kw⟩)).guards=A.guards:=by
 first | rfl | simp[Around.under,Code.isGuard,guardIds]
theorem Room.make {k:Nat}{A:Around}(r:Room (k+1) A)(C:Addr)(us:List Value)(kw:List (Str×Value)):Room k (A.under (.builtin "type.__call__" ⟨.ref C::us,kw⟩)) :=
 ⟨r.hd,by have:=r.dp; rw[rS]; omega,by have:=r.un; rw[lS]; omega,by rw[uC]; exact r.gd⟩
theorem Room.depth {k:Nat}{A:Around}(r:Room k A):A.depth < recursionLimit:=by have:=r.dp; omega
theorem Room.units {k:Nat}{A:Around}(r:Room k A):A.units+64 < cLine:=by have:=r.un; omega
def pN:TA:=fun _ H Q=>Q [] H
def bD (ta:TE)(tr:TA):TA:=fun σ H Q=>ta σ H fun x H1=>tr σ H1 fun xs H2=>Q (x::xs) H2
section
variable {X:Cx}{e:Expr}{es:List Expr}{te:TE}{t:TA}{pos:Pos}
theorem rX:PA X [] pN:=fun _ _ _ _ H Q I h=>Calls.spliced_nil ⟨[],H,I,.nil,h⟩
theorem yX (ha:PE X e te)(hr:PA X es t)(hs:starEach (e::es) X.env=(false,eval e X.env)::starEach es X.env:=by rfl):PA X (e::es) (bD te t):=by
 intro pos pins s σ H Q I h;rw[hs];show wpAny _ _ (spliced ((false,eval e X.env)::backTo pos (starEach es X.env))) _ _ s;refine Calls.spliced_cons (thn (ha pins s σ H _ I h) fun u s1 ⟨x,H1,I1,r1,q1⟩=>?_);exact thn (hr pos pins s1 σ H1 _ I1 q1) fun us s2 ⟨xs,H2,I2,r2,q2⟩=>⟨x::xs,H2,I2,.cons r1 r2,q2⟩
inductive INew (o:List V->HO)(Q:VK)(xs:List V)(H:Hp):Prop
 |mk (h:xs.length<=sizeLine) (q:∀p,H p=none->Q (.ref p) (upd H p (o xs))):INew o Q xs H
def tTup (t:TA):TE:=fun σ H Q=>t σ H (INew .tup Q)
def tLst (t:TA):TE:=fun σ H Q=>t σ H (INew .lst Q)
theorem Q2 {x1}(h:PA X es t):PE X (.Tuple es x1 pos) (tTup t):=by
 intro pins s σ H Q I hq;refine wpAny_Tuple_spliced (thn (h pos pins s σ H _ I hq) fun us s1 ⟨xs,H1,I1,r,z,q⟩=>⟨by rw[<- r.length]; exact z,?_⟩);have hf:H1 s1.heap.objs.size=none:=I1.hok.fresh (AI _);refine⟨.ref s1.heap.objs.size,upd H1 s1.heap.objs.size (.tup xs),I1.laid (t':=s1.toks) (fun b u e=>AC _ e) (AI _) ?_,rfl,q _ hf⟩;exact⟨z,us,r,⟨_,AQ _ rfl,rfl,⟨_,rfl⟩,rfl⟩⟩
theorem nG (h:PA X es t):PE X (.List es pos) (tLst t):=by
 intro pins s σ H Q I hq;refine wpAny_List_spliced (thn (h pos pins s σ H _ I hq) fun us s1 ⟨xs,H1,I1,r,z,q⟩=>⟨by rw[<- r.length]; exact z,?_⟩);have hf:H1 s1.heap.objs.size=none:=I1.hok.fresh (AI _);refine⟨.ref s1.heap.objs.size,upd H1 s1.heap.objs.size (.lst xs),I1.laid (t':=s1.toks) (fun b u e=>AC _ e) (AI _) ?_,rfl,q _ hf⟩;exact⟨z,us,0,r,AQ _ rfl⟩
end
abbrev Sp:=List V->Hp->VK->XK->Prop
abbrev CXT:=List Env->Hp->Shared->XK->Value->Shared->Prop
structure Env0 (P:Program)(w:World)(K:CU)(mg:Str->Option Value)(base:Heap)(A:Around)(outer:List Env)(s:Shared)(H:Hp):Prop where
 frames:A.frames=some outer
 mod:Mod K mg base
 bs:∀b o,base.get? b=some o->s.heap.get? b=some o/\H b=none
 bsz:base.objs.size<=s.heap.objs.size
 funs:s.heap.FunFrames base outer
 frf:∀b∈frs outer,H b=none
 hok:HOk P w H s.heap
 bare:AllBare s.gens
def CE (outer:List Env)(P:Program)(w:World)(H:Hp)(s:Shared)(Q:VK)(u:Value)(s':Shared):Prop :=
 ∃v H',s'.os=s.os/\AllBare s'.gens/\Un (frs outer) [] H H' s.heap s'.heap/\HOk P w H' s'.heap/\RelV v u/\Q v H'
def CR (CX:CXT)(outer:List Env)(P:Program)(w:World)(H:Hp)(s:Shared)(Q:VK)(E:XK)(r:Result)(s':Shared):Prop :=
 match r with
 |.ok (.ret u)=>CE outer P w H s Q u s'
 |.ok _=>False
 |.error e=>CX outer H s E e s'
structure eX (P:Program)(w:World)(K:CU)(mg:Str->Option Value)(base:Heap)(CX:CXT)(k:Nat)(f:Addr)(fd:FuncData)(ps:List Str)(sp:Sp):Prop where
 len:∀vs H Q E,sp vs H Q E->vs.length=ps.length
 run:∀(A:Around) (outer:List Env) (s:Shared) (H:Hp) (args:Args) (us:List Value) (vs:List V) (Q:VK) (E:XK),Room k A->Env0 P w K mg base A outer s H->BindsTo s fd args (ps.zip us)->Vals vs us->sp vs H Q E ->
  codeAny (model P w) A (.call (.ref f) args) (CR CX outer P w H s Q E) s
theorem Env0.make {P:Program}{w:World}{K:CU}{mg:Str->Option Value}{base:Heap}{A:Around}{outer:List Env}{s:Shared}{H:Hp}(e:Env0 P w K mg base A outer s H)(C:Addr)(us:List Value)(kw:List (Str×Value)):
  Env0 P w K mg base (A.under (.builtin "type.__call__" ⟨.ref C::us,kw⟩)) outer s H:=⟨by first | exact e.frames | (simpa [Around.under,Code.envs,Code.isFrame,pushEnvs] using e.frames),e.mod,e.bs,e.bsz,e.funs,e.frf,e.hok,e.bare⟩
section
variable {X:Cx}{pins:List (Addr×Obj)}{σ:St}{H:Hp}{s s':Shared}
theorem Inv.env0 (I:Inv X pins σ H s):Env0 X.prog X.w X.K X.mg X.base X.A X.stack s H :=
 ⟨I.ok.frames,I.ok.mod,I.bs,AO I.ok.bsz I.sz,I.stack,I.stkFree,I.hok,I.bare⟩
theorem Inv.after {Q:VK}{u:Value}(I:Inv X pins σ H s)(h:CE X.stack X.prog X.w H s Q u s'):EP X pins σ Q u s':=by
 obtain⟨v,H',os,bare,un,hok,r,q⟩:=h;obtain⟨hh,g,d,t,os'⟩:=s';obtain rfl:os'=s.os:=os;exact⟨v,H',I.call (h':=hh) (g':=g) (d':=d) (t':=t) (ch:=[]) un hok bare (fun b z=>absurd z (by simp)),r,q⟩
end
def cN (sp:Sp)(dvs:List V)(E:XK)(t:TA):TE:=fun σ H Q=>t σ H fun vs H1=>sp (vs++dvs) H1 Q E
def dN (C:Addr)(m:Str)(sp:Sp)(dvs:List V)(E:XK)(ta:TE)(t:TA):TE:=fun σ H Q=>ta σ H fun x H1=>∃a dx fs,x=.ref a/\H1 a=some (.ins C dx fs)/\fs.lookup m=none /\
 t σ H1 fun vs H2=>sp (x::(vs++dvs)) H2 Q E
def tMake (C:Addr)(sp:Sp)(dvs:List V)(E:XK)(t:TA):TE:=fun σ H Q=>t σ H fun vs H1=>∀x dx,H1 x=none->H1 dx=none->dx≠x ->
 sp (.ref x::(vs++dvs)) (upd (upd H1 dx (.own x)) x (.ins C dx [])) (fun v H2=>v=.non/\Q (.ref x) H2) E
def Binds (K:CU)(fd:FuncData)(ps:List Str)(ds:List Value):Prop :=
 ∀(s:Shared) (us:List Value),K.In s.heap->(us++ds).length=ps.length->BindsTo s fd ⟨us,[]⟩ (ps.zip (us++ds))
theorem Binds.all {K:CU}{fd:FuncData}{ps:List Str}(h:∀us:List Value,us.length=ps.length->bindArgs fd ⟨us,[]⟩=pure (ps.zip us)):Binds K fd ps []:=fun s us _ hl=>by
 rw[Ad] at hl ⊢;exact .of_eq (h us hl)
def mZ (CX:CXT)(X:Cx)(E:XK):Prop:=∀(pins:List (Addr×Obj)) (σ:St) (H:Hp) (s:Shared) (e:Value) (s':Shared),Inv X pins σ H s->CX X.stack H s E e s'->X.xe e s'
section
variable {X:Cx}{CX:CXT}{k:Nat}{f C:Addr}{fd:FuncData}{ps:List Str}{sp:Sp}{dvs:List V}{ds:List Value}{E:XK}{x m:Str}{p pos apos:Pos}{e o:Expr}{es:List Expr}{ta:TE}{t:TA}
theorem zS {pins:List (Addr×Obj)}{σ:St}{H:Hp}{s:Shared}{Q:VK}{us:List Value}{vs:List V}(F:eX X.prog X.w X.K X.mg X.base CX k f fd ps sp)(hr:Room k X.A)(hb:Binds X.K fd ps ds)(hd:Vals dvs ds)(hx:mZ CX X E)
  (I:Inv X pins σ H s) (r:Vals vs us) (h:sp (vs++dvs) H Q E):wpAny (model X.prog X.w) X.A (call (.ref f) us) (EP X pins σ Q) X.xe s:=by
 have r2:Vals (vs++dvs) (us++ds):=r.append hd;have hl:(us++ds).length=ps.length:=by rw[<- r2.length]; exact F.len _ _ _ _ h
 refine A6 (BP (F.run X.A X.stack s H ⟨us,[]⟩ (us++ds) (vs++dvs) Q E hr I.env0 (hb s us I.kIn hl) r2 h) fun r s' hq=>?_)
 cases r with
 |error e=>exact hx pins σ H s e s' I hq
 |ok fl =>
  cases fl with
  |ret u=>exact I.after hq
  |next=>exact False.elim hq
  |brk=>exact False.elim hq
  |cont=>exact False.elim hq
theorem uP (F:eX X.prog X.w X.K X.mg X.base CX k f fd ps sp)(hr:Room k X.A)(hg:Gl X x)(hm:X.mg x=some (.ref f))(hk:PySem.W.keepIn X.K (.ref f)=true)(hb:Binds X.K fd ps ds)(hd:Vals dvs ds)(hx:mZ CX X E)
  (ha:PA X (e::es) t) (hdb:(x==("__debug__" : Str))=false:=by decide) (he:starEach (e::es) X.env=(false,eval e X.env)::starEach es X.env:=by rfl) (hpl:(backTo pos (starEach es X.env)).any (·.1)=false:=by rfl) :
  PE X (.Call (.Name x p) (e::es) [] pos) (cN sp dvs E t):=by
 intro pins s σ H Q I h;refine Ar (iZ I hg hm ?_ hdb);refine A3 (h₀:=X.base) I.ok.mod.kin hk (thn (ha pos pins s σ H _ I h) fun us s1 ⟨vs,H1,I1,r,q⟩=>⟨I1.kIn,?_⟩) he hpl;exact zS F hr hb hd hx I1 r q
theorem yB {pl:Sem Bool}(he:PE X o ta)(c:Cls X.K C)(hm:Qi X.K C m f)(F:eX X.prog X.w X.K X.mg X.base CX k f fd ps sp)(hr:Room k X.A)(hb:Binds X.K fd ps ds)(hd:Vals dvs ds)(hx:mZ CX X E)(ha:PA X (e::es) t)
  (hst:starEach (e::es) X.env=(false,eval e X.env)::starEach es X.env:=by rfl) (hpl:(backTo pos (starEach es X.env)).any (·.1)=false:=by rfl)
  (ht:eval (.Call (.Attribute o m apos) (e::es) [] pos) X.env=(do
   let ov <- eval o X.env
   standAt apos.atName
   let (f,first) <- holding [ov] (getMethod ov m pl)
   callWith pos f first (backTo pos (starEach (e::es) X.env)) (backToKw pos (keywordEach [] X.env))):=by rfl) :
  PE X (.Call (.Attribute o m apos) (e::es) [] pos) (dN C m sp dvs E ta t):=by
 intro pins s σ H Q I h;refine CC (pl:=pl) (thn (he pins s σ H _ I h) fun u s1 ⟨x,H1,I1,rx,a,dx,fs,ex,ea,l,q⟩=>?_) ht;subst ex;obtain rfl:u=Value.ref a:=rx;refine iM I1 ea c hm l ?_;refine A3 (first:=[.ref a]) (h₀:=X.base) I.ok.mod.kin hm.kp (thn (ha pos pins s1 σ H1 _ I1 q) fun us s2 ⟨vs,H2,I2,r,q2⟩=>⟨I2.kIn,?_⟩) hst hpl;exact zS (us:=.ref a::us) (vs:=.ref a::vs) F hr hb hd hx I2 (.cons rfl r) q2
theorem lZ {pl:Sem Bool}(he:PE X o ta)(c:Cls X.K C)(hm:Qi X.K C m f)(F:eX X.prog X.w X.K X.mg X.base CX k f fd ps sp)(hr:Room k X.A)(hb:Binds X.K fd ps ds)(hd:Vals dvs ds)(hx:mZ CX X E)
  (ht:eval (.Call (.Attribute o m apos) [] [] pos) X.env=(do
   let ov <- eval o X.env
   standAt apos.atName
   let (f,first) <- holding [ov] (getMethod ov m pl)
   callWith pos f first (backTo pos (starEach [] X.env)) (backToKw pos (keywordEach [] X.env))):=by rfl) :
  PE X (.Call (.Attribute o m apos) [] [] pos) (dN C m sp dvs E ta pN):=by
 intro pins s σ H Q I h;refine CC (pl:=pl) (thn (he pins s σ H _ I h) fun u s1 ⟨x,H1,I1,rx,a,dx,fs,ex,ea,l,q⟩=>?_) ht;subst ex;obtain rfl:u=Value.ref a:=rx;refine iM I1 ea c hm l ?_;exact PySem.W.callWith_K0 (first:=[.ref a]) I1.kIn hm.kp (zS (us:=[.ref a]) (vs:=[.ref a]) F hr hb hd hx I1 (.cons rfl .nil) q)
structure Mk (K:CU)(C f:Addr):Prop where
 makes:PySem.W.makesIn K C=true
 init:PySem.W.findIn K (.ref C) "__init__" = some (some (.ref f))
 fn:PySem.W.isFn K (.ref f)=true
 kp:PySem.W.keepIn K (.ref C)=true
theorem oN {pins:List (Addr×Obj)}{σ:St}{H:Hp}{s:Shared}{Q:VK}{us:List Value}{vs:List V}(M:Mk X.K C f)(F:eX X.prog X.w X.K X.mg X.base CX k f fd ps sp)(hr:Room (k+1) X.A)(hb:Binds X.K fd ps ds)(hd:Vals dvs ds)
  (hx:mZ CX X E) (I:Inv X pins σ H s) (r:Vals vs us)
  (h:∀x dx,H x=none->H dx=none->dx≠x->sp (.ref x::(vs++dvs)) (upd (upd H dx (.own x)) x (.ins C dx [])) (fun v H2=>v=.non/\Q (.ref x) H2) E) :
  wpAny (model X.prog X.w) X.A (call (.ref C) us) (EP X pins σ Q) X.xe s:=by
 have hq:=h (s.heap.objs.size+1) s.heap.objs.size (I.hok.fresh (BN _)) (I.hok.fresh (AI _)) (AM (By _));have I2:=Inv.made (C:=C) I;have r2:Vals (V.ref (s.heap.objs.size+1)::(vs++dvs)) (Value.ref (s.heap.objs.size+1)::(us++ds)):=.cons rfl (r.append hd)
 have hl:(Value.ref (s.heap.objs.size+1)::us++ds).length=ps.length:=by
  have e:=r2.length;rw[F.len _ _ _ _ hq] at e;exact e.symm
 refine A6 (Xn (f:=f) I.kIn M.makes M.init (BK.mp M.fn) (BP (F.run _ X.stack _ _ ⟨Value.ref (s.heap.objs.size+1)::us,[]⟩ (Value.ref (s.heap.objs.size+1)::(us++ds)) _ _ E (hr.make C us [])
  (I2.env0.make C us []) (hb _ (Value.ref (s.heap.objs.size+1)::us) I2.kIn hl) r2 hq) fun r s' hq'=>?_))
 cases r with
 |error e=>exact hx pins σ _ _ e s' I2 hq'
 |ok fl =>
  cases fl with
  |ret u =>
   obtain⟨v,H',I3,rv,ev,q3⟩:=I2.after hq';subst ev;exact⟨rv,⟨V.ref (s.heap.objs.size+1),H',I3,rfl,q3⟩⟩
  |next=>exact False.elim hq'
  |brk=>exact False.elim hq'
  |cont=>exact False.elim hq'
theorem pe_make (M:Mk X.K C f)(F:eX X.prog X.w X.K X.mg X.base CX k f fd ps sp)(hr:Room (k+1) X.A)(hg:Gl X x)(hm:X.mg x=some (.ref C))(hb:Binds X.K fd ps ds)(hd:Vals dvs ds)(hx:mZ CX X E)
  (ha:PA X (e::es) t) (hdb:(x==("__debug__" : Str))=false:=by decide) (he:starEach (e::es) X.env=(false,eval e X.env)::starEach es X.env:=by rfl) (hpl:(backTo pos (starEach es X.env)).any (·.1)=false:=by rfl) :
  PE X (.Call (.Name x p) (e::es) [] pos) (tMake C sp dvs E t):=by
 intro pins s σ H Q I h;refine Ar (iZ I hg hm ?_ hdb);refine A3 (h₀:=X.base) I.ok.mod.kin M.kp (thn (ha pos pins s σ H _ I h) fun us s1 ⟨vs,H1,I1,r,q⟩=>⟨I1.kIn,?_⟩) he hpl;exact oN M F hr hb hd hx I1 r q
theorem Q4 (M:Mk X.K C f)(F:eX X.prog X.w X.K X.mg X.base CX k f fd ps sp)(hr:Room (k+1) X.A)(hg:Gl X x)(hm:X.mg x=some (.ref C))(hb:Binds X.K fd ps ds)(hd:Vals dvs ds)(hx:mZ CX X E)
  (hdb:(x==("__debug__" : Str))=false:=by decide):PE X (.Call (.Name x p) [] [] pos) (tMake C sp dvs E pN):=by
 intro pins s σ H Q I h;refine Ar (iZ I hg hm ?_ hdb);exact PySem.W.callWith_K0 I.kIn M.kp (oN (us:=[]) M F hr hb hd hx I .nil h)
end
structure FnScope (N P:List Str)(sc:Scope):Prop where
 kind:sc.kind=.function
 co:sc.isCoroutine=false
 gen:sc.isGenerator=false
 nd:N.Nodup
 pre:N.take P.length=P
 par:∀x∈P,sc.names.lookup x=some .local\/sc.names.lookup x=some .cell
 nofree:∀y∈sc.names,y.2≠.free
theorem pL {kindOf:Str->Option NameKind}{x:Str}:∀{binds:List (Str×Value)}{m:Str->Option Value},(∀v,(x,v)∉binds)->bindL kindOf binds m x=m x
 |[],_,_=>rfl
 | (n,v)::r,m,h=>by
  unfold bindL;rw[pL fun w hw=>h w (AJ _ hw)]
  split
  .have:x≠n:=by rintro rfl; exact h v AW
   simp[this]
  .rfl
theorem lL {kindOf:Str->Option NameKind}{x:Str}:∀{binds:List (Str×Value)}{m:Str->Option Value},(∀v,(x,v)∉binds)->bindC kindOf binds m x=m x
 |[],_,_=>rfl
 | (n,v)::r,m,h=>by
  unfold bindC;rw[lL fun w hw=>h w (AJ _ hw)]
  split
  .rfl
  .have:x≠n:=by rintro rfl; exact h v AW
   simp[this]
theorem cL {kindOf:Str->Option NameKind}{x:Str}{v:Value}:∀{P:List Str}{vs:List Value}{i:Nat}{m:Str->Option Value},P.Nodup->P[i]?=some x->vs[i]?=some v->kindOf x=some .local ->
  bindL kindOf (P.zip vs) m x=some v
 |[],_,_,_,_,h,_,_=>by simp at h
 |_::_,[],_,_,_,_,h,_=>by simp at h
 |p::P,w::vs,0,m,nd,h1,h2,hk=>by
  simp at h1 h2; subst h1; subst h2
  show bindL kindOf ((p,w)::P.zip vs) m p=_;unfold bindL;rw[pL fun v hv=>(BY.mp nd).1 (B5 hv).1,AV hk]
  simp
 |p::P,w::vs,i+1,m,nd,h1,h2,hk=>by
  show bindL kindOf ((p,w)::P.zip vs) m x=_;unfold bindL;exact cL (i:=i) (BY.mp nd).2 (by simpa using h1) (by simpa using h2) hk
theorem rL {kindOf:Str->Option NameKind}{x:Str}{v:Value}:∀{P:List Str}{vs:List Value}{i:Nat}{m:Str->Option Value},P.Nodup->P[i]?=some x->vs[i]?=some v->kindOf x≠some .local ->
  bindC kindOf (P.zip vs) m x=some v
 |[],_,_,_,_,h,_,_=>by simp at h
 |_::_,[],_,_,_,_,h,_=>by simp at h
 |p::P,w::vs,0,m,nd,h1,h2,hk=>by
  simp at h1 h2; subst h1; subst h2
  show bindC kindOf ((p,w)::P.zip vs) m p=_;unfold bindC;rw[lL fun v hv=>(BY.mp nd).1 (B5 hv).1,AR hk]
  simp
 |p::P,w::vs,i+1,m,nd,h1,h2,hk=>by
  show bindC kindOf ((p,w)::P.zip vs) m x=_;unfold bindC;exact rL (i:=i) (BY.mp nd).2 (by simpa using h1) (by simpa using h2) hk
def start (N:List Str)(vs:List V):St:=vs.map some++List.replicate (N.length - vs.length) none
def bX (CX:CXT)(P:Program)(w:World)(K:CU)(mg:Str->Option Value)(base:Heap)(N:List Str)(qual:Str)(scope:Scope)(f:Addr)(cd:Value)(A:Around)(outer:List Env)(s:Shared)(H:Hp)(E:XK):Cx where
 prog:=P
 w:=w
 K:=K
 mg:=mg
 base:=base
 A:=A.deeper (envOfC qual scope s.heap.objs.size f cd)
 N:=N
 s₀:=s
 H₀:=H
 env:=envOfC qual scope s.heap.objs.size f cd
 outer:=outer
 stack:=envOfC qual scope s.heap.objs.size f cd::outer
 ex:=[]
 calm:=true
 fn:=fun _=>true
 pn:=[]
 xe:=fun e s'=>wpAny (model P w) (A.deeper (envOfC qual scope s.heap.objs.size f cd)) (leaving (envOfC qual scope s.heap.objs.size f cd) e) (fun _ s''=>CX outer H s E e s'') (fun e' s''=>CX outer H s E e' s'') s'
theorem bF {sc:Scope}{n:Nat}{x:Str}(h:sc.names.lookup x=some .cell):∃c,(cellsFrom n sc.names []).lookup x=some c:=by
 have q:=B2 sc.names n [] (.inl h);exact Option.isSome_iff_exists.mp q
theorem kL {CX:CXT}{P:Program}{w:World}{K:CU}{mg:Str->Option Value}{base:Heap}{N ps:List Str}{qual:Str}{scope:Scope}{f:Addr}{cd:Value}{A:Around}{outer:List Env}{s s1:Shared}{H:Hp}{E:XK}{us:List Value}{vs:List V}
  (S:FnScope N ps scope) (hd:A.handled=none) (e0:Env0 P w K mg base A outer s H) (hl:vs.length=ps.length) (r:Vals vs us)
  (x:InCallC s s.heap.objs.size (bindL (envOfC qual scope s.heap.objs.size f cd).kindOf (ps.zip us) fun _=>none) (cellsFrom (s.heap.objs.size+1) scope.names []) (bindC (envOfC qual scope s.heap.objs.size f cd).kindOf (ps.zip us) fun _=>none) s1) :
  Inv (bX CX P w K mg base N qual scope f cd A outer s H E) [] (start N vs) H s1:=by
 have hpl:ps.length<=N.length:=by have:=BE List.length S.pre; rw[List.length_take] at this; omega
 obtain⟨h1,tk,rfl,hk⟩:=x.done;have noA:∀b:Addr,b∉(bX CX P w K mg base N qual scope f cd A outer s H E).ex:=fun b z=>absurd (show b∈([]:List Addr) from z) (by simp)
 refine⟨⟨e0.mod,S.kind,rfl,rfl,AI _,fun y z c h1 h2=>?_,fun y hy=>?_,fun y c _ h=>?_,fun _=>hd,Around.frames_deeper e0.frames,.inr ⟨rfl,rfl⟩,fun b z=>absurd z (noA b),e0.bs,e0.bsz,fun b _ _=>noA b,fun b z=>absurd z (noA b),e0.funs,e0.frf⟩,
  rfl,e0.bare,Un.kept hk,⟨_,x.toInCall.ns,fun i y v h1 h2 h3=>?_⟩,fun y c h=>⟨_,x.cell y c h⟩,e0.hok.fresh (AI _),fun y c h=>?_,fun p hp=>absurd (show p∈([]:List (Addr×Obj)) from hp) (by simp),e0.hok.kept hk,?_⟩
 .exact name_of_addr x.apart (BU h1) (BU h2)
 .have hy:scope.names.lookup y=some .cell\/scope.names.lookup y=some .free:=hy
  rcases hy with hy | hy
  .exact bF hy
  .exact absurd rfl (S.nofree _ (BU hy))
 .exact Nat.le_of_lt (x.above y c (BU h))
 .have hi:i < vs.length:=by
   unfold start at h2
   by_cases hi:i < vs.length
   .exact hi
   .rw [Bu (by simpa using hi)] at h2
    rw[List.getElem?_replicate] at h2
    split at h2<;>cases h2
  have ha:vs[i]?=some v:=by
   unfold start at h2;rw[List.getElem?_append_left (by simpa using hi),Ah] at h2
   cases e:vs[i]? with
   |none=>rw[e] at h2; cases h2
   |some a=>rw[e] at h2; cases h2; rfl
  obtain⟨u,hu,rv⟩:=r.get ha
  have hp:ps[i]?=some y:=by
   rw[<- S.pre,List.getElem?_take_of_lt (by omega)]; exact h1
  have ndP:ps.Nodup:=by rw[<- S.pre]; exact S.nd.sublist (List.take_sublist _ _)
  refine⟨u,rv,?_⟩
  rcases S.par y (Ak hp) with k | k
  .exact .inl ⟨k,cL ndP hp hu k⟩
  .obtain ⟨c,e⟩:=bF (n:=s.heap.objs.size+1) k
   refine .inr ⟨.inl k,c,e,?_⟩;have q:=x.cell y c e;rw[rL ndP hp hu (by show scope.names.lookup y≠_; rw[k]; decide)] at q;exact q
 .exact e0.hok.fresh (Nat.le_of_lt (x.above y c (BU h)))
 .unfold start
  show _=N.length;rw[Al,AL,Ap];omega
theorem fn_of {CX:CXT}{P:Program}{w:World}{K:CU}{mg:Str->Option Value}{base:Heap}{k:Nat}{f:Addr}{name qual:Str}{params:Arguments}{body:List Stmt}{scope:Scope}{dV kV doc pm cdv ct oc:Value}{an od:Option Addr}
  {osl:Array (Option Value)} {N ps:List Str} {sp:Sp} (lk:K.lookup f=some ⟨oc,od,.func (PySem.W.fnOf name qual params body scope dV kV doc pm an cdv ct),osl⟩) (hcd:PySem.W.codeIn K cdv qual=true) (S:FnScope N ps scope)
  (len:∀vs H Q E,sp vs H Q E->vs.length=ps.length)
  (hbody:∀(A:Around) (outer:List Env) (s:Shared) (H:Hp) (vs:List V) (Q:VK) (E:XK),Room k (A.deeper (envOfC qual scope s.heap.objs.size f cdv))->sp vs H Q E ->
   ∃t,PSs (bX CX P w K mg base N qual scope f cdv A outer s H E) body t/\t { nx:=fun _ H'=>Q .non H',rt:=Q } (start N vs) H) :
  eX P w K mg base CX (k+1) f (PySem.W.fnOf name qual params body scope dV kV doc pm an cdv ct) ps sp:=by
 refine⟨len,fun A outer s H args us vs Q E hr e0 hb r hsp=>?_⟩;have hl:=len _ _ _ _ hsp;have KX:K.In s.heap:=e0.mod.kin.keeps fun b o e=>(e0.bs b o e).1;have lim:s.heap.NoLimit:=e0.mod.nolimit.keeps fun b o e=>(e0.bs b o e).1
 have hkind:∀y∈ps.zip us,scope.names.lookup y.1=some .local\/(scope.names.lookup y.1=some .cell/\((cellsFrom (s.heap.objs.size+1) scope.names []).lookup y.1).isSome=true):=fun⟨n,v⟩ hy=>by
  rcases S.par n (B5 hy).1 with q | q
  .exact .inl q
  .exact .inr ⟨q,B2 _ _ _ (.inl q)⟩
 refine codeAny_call_function hr.depth (KX _ _ lk) rfl S.co S.gen rfl (PySem.W.codeRec_of KX hcd) (hb _ _ _ _ ?_);refine wpAny_newFunctionEnv_cells S.kind hkind fun env he s1 x=>?_;subst he;refine⟨lim.keeps x.toInCall.keep,codeAny_func ?_⟩;obtain⟨t,ht,hq⟩:=hbody A outer s H vs Q E (hr.deeper _) hsp;have I:Inv (bX CX P w K mg base N qual scope f cdv A outer s H E) [] (start N vs) H s1:=kL S hr.hd e0 hl r x
 refine Aj (ht [] s1 (start N vs) H _ I hq) (fun fl s' hs=>?_) fun e s' hs=>hs
 have fin:∀{σ':St} {H':Hp} {v:V} {u:Value},Inv (bX CX P w K mg base N qual scope f cdv A outer s H E) [] σ' H' s'->RelV v u->Q v H'->CE outer P w H s Q u s' :=
  fun {σ' H' v u} J rv q=>⟨v,H',J.os,J.bare,J.base,J.hok,rv,q⟩
 cases fl with
 |ret u =>
  obtain⟨v,σ',H',J,rv,q⟩:=hs;exact fin J rv q
 |next =>
  obtain⟨σ',H',J,q⟩:=hs;exact fin (v:=V.non) (u:=Value.none) J rfl q
 |brk =>
  obtain⟨_,_,_,q⟩:=hs;exact False.elim q
 |cont =>
  obtain⟨_,_,_,q⟩:=hs;exact False.elim q
section
variable {X:Cx}{x:Str}{p pos:Pos}{e:Expr}{es:List Expr}{t:TA}{id T:String}{r:List V->Hp->VK->Prop}
def tCB (r:List V->Hp->VK->Prop)(t:TA):TE:=fun σ H Q=>t σ H fun vs H1=>r vs H1 Q
theorem xJ (hc:CallR X (.builtin id) r)(hg:Gl X x)(hm:X.mg x=none)(hv:bootBuiltins x=some (.builtin id))(ha:PA X (e::es) t)(hn:x ≠ "__name__":=by decide)(hdb:(x==("__debug__" : Str))=false:=by decide)
  (he:starEach (e::es) X.env=(false,eval e X.env)::starEach es X.env:=by rfl) (hpl:(backTo pos (starEach es X.env)).any (·.1)=false:=by rfl):PE X (.Call (.Name x p) (e::es) [] pos) (tCB r t):=by
 intro pins s σ H Q I h;refine Ar (kU I hg hm hv ?_ hn hdb);exact PyProof.Rows.callWith_builtin1 (thn (ha pos pins s σ H _ I h) fun us s1 ⟨vs,H1,I1,r1,q1⟩=>hc pins s1 σ H1 vs us Q I1 r1 q1) he hpl
theorem cA (hc:CallR X (.type T) r)(hg:Gl X x)(hm:X.mg x=none)(hv:bootBuiltins x=some (.type T))(ha:PA X (e::es) t)(hn:x ≠ "__name__":=by decide)(hdb:(x==("__debug__" : Str))=false:=by decide)
  (he:starEach (e::es) X.env=(false,eval e X.env)::starEach es X.env:=by rfl) (hpl:(backTo pos (starEach es X.env)).any (·.1)=false:=by rfl):PE X (.Call (.Name x p) (e::es) [] pos) (tCB r t):=by
 intro pins s σ H Q I h;refine Ar (kU I hg hm hv ?_ hn hdb);exact BG (thn (ha pos pins s σ H _ I h) fun us s1 ⟨vs,H1,I1,r1,q1⟩=>hc pins s1 σ H1 vs us Q I1 r1 q1) he hpl
end
end L2
namespace HT
open PySem PyProof.Rows
section
variable {prog:Program}{w:World}{A:Around}{E:Value->Shared->Prop}{s:Shared}
theorem cat_tup {t b:Addr}{vs ws:List Value}{Q:Value->Shared->Prop}(ht:IsTup s.heap t vs.toArray)(hb:IsTup s.heap b ws.toArray)(hv:vs≠[])
  (h1:ws=[]->Q (.ref t) s) (h2:ws≠[]->Q (.ref s.heap.objs.size) { s with heap:=s.heap.push { cls:=.type "tuple",data:=.seq (vs++ws).toArray } })
  (hsz:vs.length+ws.length<=sizeLine):wpAny (model prog w) A (binaryOp .Add (.ref t) (.ref b)) Q E s:=by
 obtain⟨⟨cls,dd,data,sl⟩,ho,hc,n,hd⟩:=id ht;obtain⟨⟨cls2,dd2,data2,sl2⟩,ho2,hc2,n2,hd2⟩:=id hb
 simp only at hc hd hc2 hd2
 subst hc hd hc2 hd2;have e:vs.toArray++ws.toArray=(vs++ws).toArray:=by simp
 by_cases hw:ws=[]
 .exact concat_meets ⟨_,ho,rfl⟩ ⟨_,ho2,rfl⟩ noFill_tuple_add seq_tuple_add B3 Bx (Bw _ _)
   (tuple_addW1 t b vs.toArray ws.toArray n n2 dd dd2 sl sl2 (by simpa using hv) (by simp[hw])) ⟨ho,ho2,h1 hw⟩
 .refine concat_meets ⟨_,ho,rfl⟩ ⟨_,ho2,rfl⟩ noFill_tuple_add seq_tuple_add B3 Bx (Bw _ _)
   (tuple_addW2 t b vs.toArray ws.toArray n n2 dd dd2 sl sl2 (by simpa using hv) (by simpa using hw) (by rw[AK,AK]; exact hsz)) ⟨ho,ho2,?_⟩
  rw[e];exact h2 hw
def sIx (n d:Nat):Option Int->Nat
 |none=>d
 |some v=>if v < 0 then (v+(n:Int)).toNat else min v.toNat n
end
end HT
namespace L2
open PySem PySem.Spec PyProof.Rows
abbrev TO:=St->Hp->(Option Int->Hp->Prop)->Prop
section
variable {X:Cx}{e:Expr}{te:TE}{lo hi:Option Expr}{tl th:TO}{pos p2:Pos}
def rCatT (K:CU):R2:=fun x y H Q=>∃a b xs ys,x=.ref a/\y=.ref b/\SqT K H a xs/\SqT K H b ys/\xs≠[]/\xs.length+ys.length<=sizeLine /\
 (ys=[]->Q (.ref a) H)/\(ys≠[]->∀p,H p=none->Q (.ref p) (upd H p (.tup (xs++ys))))
theorem Vals.nil_iff {xs:List V}{us:List Value}(r:Vals xs us):us=[]↔xs=[]:=by
 cases r with
 |nil=>simp
 |cons _ _=>simp
theorem op_catT:OpR X (binaryOp .Add) (rCatT X.K):=by
 intro pins s σ H x y v u Q I rx ry h;obtain⟨a,b,xs,ys,rfl,rfl,ha,hb,hx,hz,q1,q2⟩:=h;cases rx;cases ry;obtain⟨its,r1,p1,_⟩:=I.tuple ha;obtain⟨its2,r2,p2,_⟩:=I.tuple hb;refine HT.cat_tup p1 p2 (fun z=>hx (r1.nil_iff.mp z)) (fun z=>⟨.ref a,H,I,rfl,q1 (r2.nil_iff.mp z)⟩) (fun z=>?_) (by rw[<- r1.length,<- r2.length]; exact hz);refine⟨.ref s.heap.objs.size,_,I.laid (t':=s.toks) (o:=.tup (xs++ys)) (fun b ob q=>AC _ q) (AI _) ?_,rfl,q2 (fun w=>z (r2.nil_iff.mpr w)) _ (I.hok.fresh (AI _))⟩
 exact⟨by rw[Al]; exact hz,_,r1.append r2,IsTupN.new _ _⟩
end
def ixN (n:Nat)(i:Int):Option Nat:=if 0<=i then (if i < n then some i.toNat else none) else if -(n:Int)<=i then some (i+n).toNat else none
def atI {α:Type}(xs:List α)(i:Int):Option α:=(ixN xs.length i).bind fun j=>xs[j]?
theorem dO {n:Nat}{i:Int}{j:Nat}(h:ixN n i=some j):seqIndex? i n=some j/\j < n/\-(n:Int)<=i/\i < n:=by
 unfold ixN at h
 by_cases h0:0<=i
 .rw [AV h0] at h
  by_cases h1:i < n
  .rw [AV h1] at h
   have e:i.toNat=j:=Ae h;exact⟨by rw[seqIndex_of h0 h1,e],by omega,by omega,h1⟩
  .rw [AR h1] at h; cases h
 .rw [AR h0] at h
  by_cases h1 : -(n:Int)<=i
  .rw [AV h1] at h
   have e:(i+n).toNat=j:=Ae h;exact⟨by rw[seqIndex_neg (by omega) h1,e],by omega,h1,by omega⟩
  .rw [AR h1] at h; cases h
theorem dH {α:Type}{xs:List α}{i:Int}{v:α}(h:atI xs i=some v):∃j,seqIndex? i xs.length=some j/\xs[j]?=some v/\j < xs.length/\-(xs.length:Int)<=i/\i < xs.length:=by
 unfold atI at h
 cases e:ixN xs.length i with
 |none=>rw[e] at h; cases h
 |some j =>
  rw[e] at h;obtain⟨h1,h2,h3,h4⟩:=dO e;exact⟨j,h1,h,h2,h3,h4⟩
theorem cB {α:Type}{xs:List α}{j:Nat}{v:α}(h:xs[j]?=some v):atI xs (j:Int)=some v:=by
 have hj:j < xs.length:=(AX.mp h).1
 have e:ixN xs.length (j:Int)=some j:=by
  unfold ixN;rw[AV (by omega),AV (by omega)]; simp
 unfold atI; rw[e]; exact h
def rH (b:Expr):Prop:=∀o i,subscripted b false o i=operate [o,i] (getItem o i)
def IxR (X:Cx)(r:R2):Prop :=
 ∀(value slice:Expr) (pins:List (Addr×Obj)) (s:Shared) (σ:St) (H:Hp) (x y:V) (v u:Value) (Q:VK),Inv X pins σ H s->RelV x v->RelV y u->r x y H Q ->
  subscripted slice false v u=operate [v,u] (getItem v u)->wpAny (model X.prog X.w) X.A (subscriptTail value slice v u) (EP X pins σ Q) X.xe s
def MtR (X:Cx)(id:String)(r:V->List V->Hp->VK->Prop):Prop :=
 ∀(pins:List (Addr×Obj)) (s:Shared) (σ:St) (H:Hp) (x:V) (xs:List V) (v:Value) (us:List Value) (Q:VK),Inv X pins σ H s->RelV x v->Vals xs us->r x xs H Q ->
  wpAny (model X.prog X.w) X.A (call (.builtin id) (v::us)) (EP X pins σ Q) X.xe s
section
variable {X:Cx}{a b:Expr}{ta tb:TE}{pos:Pos}
theorem IxR.or {r r':R2}(h:IxR X r)(h':IxR X r'):IxR X (fun x y H Q=>r x y H Q\/r' x y H Q):=by
 intro value slice pins s σ H x y v u Q I rx ry q hs
 rcases q with q | q
 .exact h value slice pins s σ H x y v u Q I rx ry q hs
 .exact h' value slice pins s σ H x y v u Q I rx ry q hs
theorem pe_ix {r:R2}(hr:IxR X r)(ha:PE X a ta)(hb:PE X b tb)(hs:rH b):PE X (.Subscript a b pos) (tOp r ta tb):=by
 intro pins s σ H Q I h;exact Subscript_ (binT ha hb I h fun v u s2 x y H2 I2 rx ry q=>hr a b pins s2 σ H2 x y v u Q I2 rx ry q (hs _ _))
inductive IIx (S:Hp->Addr->List V->Prop)(x y:V)(H:Hp)(Q:VK):Prop
 |mk (p:Addr) (xs:List V) (i:Int) (v:V) (h:x=.ref p) (h':y=.int i) (s:S H p xs) (a:atI xs i=some v) (q:Q v H):IIx S x y H Q
def rIxL (K:CU):R2:=IIx (SqL K)
def rIxT (K:CU):R2:=IIx (SqT K)
def rIxS:R2:=fun x y H Q=>∃z i c,x=.str z/\y=.int i/\z.length<=sizeLine/\atI z.cps.toList i=some c/\Q (.str ⟨#[c]⟩) H
theorem ix_list:IxR X (rIxL X.K):=by
 intro value slice pins s σ H x y v u Q I rx ry h hs;obtain⟨p,xs,i,z,rfl,rfl,hq,he,q⟩:=h;cases rx;obtain⟨t,rfl⟩:=ry;obtain⟨its,r,pl,hz⟩:=I.list hq;obtain⟨j,h1,h2,h3,h4,h5⟩:=dH he;obtain⟨w,ew,rw'⟩:=r.get h2;have hl:=r.length;have hn:=nY;have fin:EP X pins σ Q w s:=⟨z,H,I,rw',q⟩
 by_cases h0:0<=i
 .have hj:i.toNat=j:=by
   rw[seqIndex_of h0 h5] at h1;exact Ae h1
  exact item_listR pl.isList h0 (by omega) (by rw[hj]; simpa using ew) fin hs
 .have hj:(i+(its.toArray.size:Int)).toNat=j:=by
   rw[seqIndex_neg (by omega) h4] at h1;rw[AK,<- hl];exact Ae h1
  exact subscriptTail_builtinR (x:=w) pl.isList.typeIs slot_list_getitem.lookup
   (wpAny_getItem_list_neg (Q:=fun r s'=>r=w/\EP X pins σ Q r s') pl.isList (by omega) (by rw[AK]<;>omega) (by omega) (by rw[hj]; simpa using ew) ⟨rfl,fin⟩) hs
theorem ix_tup:IxR X (rIxT X.K):=by
 intro value slice pins s σ H x y v u Q I rx ry h hs;obtain⟨p,xs,i,z,rfl,rfl,hq,he,q⟩:=h;cases rx;obtain⟨t,rfl⟩:=ry;obtain⟨its,r,pl,hz⟩:=I.tuple hq;obtain⟨j,h1,h2,h3,h4,h5⟩:=dH he;obtain⟨w,ew,rw'⟩:=r.get h2;have hl:=r.length;have hn:=nY;have fin:EP X pins σ Q w s:=⟨z,H,I,rw',q⟩
 exact subscriptTail_builtinR (x:=w) pl.typeIs slot_tuple_getitem.lookup
  (getItem_tuple (j:=j) (Q:=fun r s'=>r=w/\EP X pins σ Q r s') pl (by omega) (by omega) (by rw[AK,<- hl]; exact h1) (by simpa using ew) ⟨rfl,fin⟩) hs
theorem ix_str:IxR X rIxS:=by
 intro value slice pins s σ H x y v u Q I rx ry h hs;obtain⟨z,i,c,rfl,rfl,hz,he,q⟩:=h;obtain⟨t,rfl⟩:=rx;obtain⟨t',rfl⟩:=ry;obtain⟨j,h1,h2,h3,h4,h5⟩:=dH he;have hl:z.cps.toList.length=z.length:=by simp[Str.length]
 rw[hl] at h1 h4 h5;have hn:=nY
 exact tail_any (Bj s z t) slot_str_getitem.lookup (getItem_str (c:=c) (by
  have e1:decide (i < -(2 ^ 63:Int))=false:=AU (by omega);have e2:decide (i >= 2 ^ 63)=false:=AU (by omega)
  rw[e1,e2,Bool.or_false]) (by rw[h1]; simpa using h2) ⟨.str ⟨#[c]⟩,H,I.tok _,⟨_,rfl⟩,q⟩) hs
def rIx (K:CU):R2:=fun x y H Q=>rIxL K x y H Q\/rIxT K x y H Q\/rIxS x y H Q
theorem ix_seq:IxR X (rIx X.K):=ix_list.or (ix_tup.or ix_str)
theorem cS (its:List Value)(n j:Nat)(u:Value):Obj.mapSeq (·.setIfInBounds j u) { cls:=.type "list",data:=.seq its.toArray n }={ cls:=.type "list",data:=.seq (its.set j u).toArray n }:=by
 simp[Obj.mapSeq]
theorem Inv.lst {pins:List (Addr×Obj)}{σ:St}{H:Hp}{s:Shared}{p:Addr}{xs:List V}(I:Inv X pins σ H s)(h:H p=some (.lst xs)):
  ∃(its:List Value) (n:Nat),Vals xs its/\s.heap.get? p=some { cls:=.type "list",data:=.seq its.toArray n }/\xs.length<=sizeLine:=by
 obtain⟨z,its,n,r,e⟩:=I.hok p _ h;exact⟨its,n,r,e,z⟩
theorem Inv.lstUpd {pins:List (Addr×Obj)}{σ:St}{H:Hp}{s:Shared}{p:Addr}{xs ys:List V}{its its':List Value}{n n':Nat}{f:Obj->Obj}(I:Inv X pins σ H s)(h:H p=some (.lst xs))
  (ho:s.heap.get? p=some { cls:=.type "list",data:=.seq its.toArray n }) (hf:f { cls:=.type "list",data:=.seq its.toArray n }={ cls:=.type "list",data:=.seq its'.toArray n' }) (r:Vals ys its') (hz:ys.length<=sizeLine) (t:Nat) :
  Inv X pins σ (upd H p (.lst ys)) { s with heap:=s.heap.update p f,toks:=t }:=by
 have e:(s.heap.update p f).get? p=some { cls:=.type "list",data:=.seq its'.toArray n' }:=by
  rw[Ax f ho (by rw[hf]<;>rfl),hf]
 refine I.write (x:=p) (e:=p) (by rw[h]; trivial) (.inl rfl) (fun b u hb q=>(AY _ _ (Ne.symm hb)).trans q) ⟨_,e⟩ ?_;exact⟨hz,its',n',r,e⟩
def rSetL:V->V->V->Hp->(Hp->Prop)->Prop:=fun o i v H Q=>∃p xs k j,o=.ref p/\i=.int k/\H p=some (.lst xs)/\ixN xs.length k=some j/\Q (upd H p (.lst (xs.set j v)))
theorem QR:PSet X rSetL:=by
 intro pins s σ H o i v ov iv u Q I ro ri rv h;obtain⟨p,xs,k,j,rfl,rfl,hp,hj,q⟩:=h;cases ro;obtain⟨t,rfl⟩:=ri;obtain⟨its,n,r,ho,hz⟩:=I.lst hp;obtain⟨h1,h2,h3,h4⟩:=dO hj;have hl:=r.length;have hn:=nY
 have I':Inv X pins σ (upd H p (.lst (xs.set j v))) { s with heap:=s.heap.update p (Obj.mapSeq (·.setIfInBounds j u)) } :=
  I.lstUpd hp ho (cS its n j u) (r.set rv j) (by rw[List.length_set]; exact hz) s.toks
 by_cases h0:0<=k
 .have hk:k.toNat=j:=by
   rw[seqIndex_of h0 h4] at h1;exact Ae h1
  exact PySem.W.ki_setAt ho h0 (by omega) (by rw[AK,<- hl]; exact h4) (by rw[hk]; exact⟨_,I',q⟩)
 .have hk:(k+(its.toArray.size:Int)).toNat=j:=by
   rw[seqIndex_neg (by omega) h3] at h1;rw[AK,<- hl];exact Ae h1
  exact PySem.W.ki_setBack ho (by omega) (by rw[AK,<- hl]; exact h3) (by omega) (by rw[hk]; exact⟨_,I',q⟩)
def flatV:V->Bool
 |.non=>true
 |.bl _=>true
 |.int _=>true
 |.str _=>true
 |_=>false
def eqV:V->V->Bool
 |.non,.non=>true
 |.bl a,.bl b=>a==b
 |.bl a,.int b=>(if a then 1 else 0)==b
 |.int a,.bl b=>a==(if b then 1 else 0)
 |.int a,.int b=>a==b
 |.str a,.str b=>a==b
 |_,_=>false
theorem qH {A:Around}{s:Shared}{y x:V}{u v:Value}(ry:RelV y u)(rx:RelV x v)(fy:flatV y=true)(fx:flatV x=true):SeqAt.EqAt A s u v (eqV y x):=by
 cases y with
 |non =>
  cases ry
  cases x with
  |non=>cases rx; exact Bp _
  |bl b=>cases rx; exact SeqAt.EqAt.none_bool b
  |int b=>obtain⟨t,rfl⟩:=rx; exact SeqAt.EqAt.none_int b t
  |str b=>obtain⟨t,rfl⟩:=rx; exact SeqAt.EqAt.none_str b t
  |_=>exact absurd (show false=true from fx) AE
 |bl a =>
  cases ry
  cases x with
  |non=>cases rx; exact SeqAt.EqAt.bool_none a
  |bl b=>cases rx; exact SeqAt.EqAt.bool_bool a b
  |int b=>obtain⟨t,rfl⟩:=rx; exact SeqAt.EqAt.bool_int a b t
  |str b=>obtain⟨t,rfl⟩:=rx; exact SeqAt.EqAt.bool_str a b t
  |_=>exact absurd (show false=true from fx) AE
 |int a =>
  obtain⟨t',rfl⟩:=ry
  cases x with
  |non=>cases rx; exact SeqAt.EqAt.int_none a t'
  |bl b=>cases rx; exact SeqAt.EqAt.int_bool a t' b
  |int b=>obtain⟨t,rfl⟩:=rx; exact SeqAt.EqAt.int_int a t' b t
  |str b=>obtain⟨t,rfl⟩:=rx; exact SeqAt.EqAt.int_str a t' b t
  |_=>exact absurd (show false=true from fx) AE
 |str a =>
  obtain⟨t',rfl⟩:=ry
  cases x with
  |non=>cases rx; exact SeqAt.EqAt.str_none a t'
  |bl b=>cases rx; exact SeqAt.EqAt.str_bool a t' b
  |int b=>obtain⟨t,rfl⟩:=rx; exact SeqAt.EqAt.str_int a t' b t
  |str b=>obtain⟨t,rfl⟩:=rx; exact SeqAt.EqAt.str_str a t' b t
  |_=>exact absurd (show false=true from fx) AE
 |_=>exact absurd (show false=true from fy) AE
def eqU (x:V)(u:Value):Bool:=match u with
 |.none=>eqV .non x
 |.bool b=>eqV (.bl b) x
 |.int i _=>eqV (.int i) x
 |.str z _=>eqV (.str z) x
 |_=>false
def inV (x:V)(xs:List V):Bool:=xs.any fun y=>eqV y x
theorem mH:CallR X (.builtin "len") (fun xs H Q=>∃p ys,xs=[.ref p]/\(SqL X.K H p ys\/SqT X.K H p ys)/\Q (.int ys.length) H):=by
 intro pins s σ H xs us Q I r h;obtain⟨p,ys,rfl,hq,q⟩:=h;obtain⟨u,rfl,rx⟩:=iY r;cases rx;have hn:=nY
 rcases hq with hq | hq
 .obtain ⟨its,r',pl,hz⟩:=I.list hq
  have hlen:=r'.length;exact Calls.call_len_list pl.isList (by simp only[List.size_toArray]<;>omega) ⟨.int ys.length,H,I.tok _,⟨s.toks+1,by rw[AK,hlen]⟩,q⟩
 .obtain ⟨its,r',pl,hz⟩:=I.tuple hq
  have hlen:=r'.length;exact len_tuple pl (by simp only[List.size_toArray]<;>omega) ⟨.int ys.length,H,I.tok _,⟨s.toks+1,by rw[AK,hlen]⟩,q⟩
theorem bH:CallR X (.builtin "len") (fun xs H Q=>∃z,xs=[.str z]/\z.length<=sizeLine/\Q (.int z.length) H):=by
 intro pins s σ H xs us Q I r h;obtain⟨z,rfl,hz,q⟩:=h;obtain⟨u,rfl,t,rfl⟩:=iY r;have hn:=nY;exact len_str (by omega) ⟨.int z.length,H,I.tok _,⟨_,rfl⟩,q⟩
theorem CallR.or {f:Value}{r r':List V->Hp->VK->Prop}(h:CallR X f r)(h':CallR X f r'):CallR X f (fun xs H Q=>r xs H Q\/r' xs H Q):=by
 intro pins s σ H xs us Q I rs q
 rcases q with q | q
 .exact h pins s σ H xs us Q I rs q
 .exact h' pins s σ H xs us Q I rs q
theorem jD:CallR X (.type "tuple") (fun xs H Q=>∃p ys,xs=[.ref p]/\((SqL X.K H p ys/\∀l,H l=none->Q (.ref l) (upd H l (.tup ys)))\/(SqT X.K H p ys/\Q (.ref p) H))):=by
 intro pins s σ H xs us Q I r h;obtain⟨p,ys,rfl,h⟩:=h;obtain⟨u,rfl,rx⟩:=iY r;cases rx
 rcases h with ⟨hq,q⟩ | ⟨hq,q⟩
 .obtain ⟨its,r',pl,hz⟩:=I.list hq
  have hlen:=r'.length;refine call_tuple_list pl.isList (fun h' kp=>?_) (by simp only[List.size_toArray]<;>omega);have I1:Inv X pins σ H { s with heap:=h' }:=I.kept (t':=s.toks) kp
  have I2:Inv X pins σ (upd H h'.objs.size (.tup ys)) { s with heap:=h'.push { cls:=.type "tuple",data:=.seq its.toArray } } :=
   I1.laid (t':=s.toks) (fun b o e=>AC _ e) (AI _) (show ObjOk X.prog X.w _ _ _ (.tup ys) from⟨hz,its,r',IsTupN.new _ _⟩)
  exact⟨.ref h'.objs.size,_,I2,rfl,q _ (I1.hok.fresh (AI _))⟩
 .obtain ⟨its,r',pl,hz⟩:=I.tuple hq
  exact call_tuple_same pl ⟨.ref p,H,I,rfl,q⟩
def tyV (K:CU)(T:String)(x:V)(H:Hp):Prop:=match x with
 |.str _=>T = "str"
 |.int _=>T = "int"
 |.ref p=>(T = "list"/\∃xs,SqL K H p xs)\/(T = "tuple"/\∃o,K.lookup p=some o/\o.cls=.type "tuple"/\o.dict=none) \/
   (T = "dict"/\((∃kvs,H p=some (.dK kvs))\/∃kvs,H p=some (.dT kvs)))\/(T = "set"/\∃S n,H p=some (.set S n))
 |_=>False
theorem QL {pins:List (Addr×Obj)}{σ:St}{H:Hp}{s:Shared}{T:String}{x:V}{v:Value}(I:Inv X pins σ H s)(r:RelV x v)(ty:tyV X.K T x H):
  s.TypeIs v T/\∀a,v=.ref a->∃ob,s.heap.get? a=some ob/\ob.dict=none:=by
 cases x with
 |str z =>
  obtain⟨t,rfl⟩:=r;cases (show T = "str" from ty);exact⟨Bj s z t,fun _ e=>nomatch e⟩
 |int i =>
  obtain⟨t,rfl⟩:=r;cases (show T = "int" from ty);exact⟨typeIs_int s i t,fun _ e=>nomatch e⟩
 |ref p =>
  cases r
  rcases ty with ⟨rfl,xs,hq⟩ | ⟨rfl,o,hk,hc,hd⟩ | ⟨rfl,hk⟩ | ⟨rfl,S,n,hk⟩
  .obtain ⟨its,_,pl,_⟩:=I.list hq
   refine⟨pl.isList.typeIs,fun a e=>?_⟩;cases e;obtain⟨o,n,e,c,hd,_⟩:=pl;exact⟨o,e,hd⟩
  .refine ⟨⟨o,I.kIn p o hk,hc⟩,fun a e=>?_⟩
   cases e;exact⟨o,I.kIn _ o hk,hd⟩
  .have z:∃o,s.heap.get? p=some o/\o.ExactDict:=by
    rcases hk with ⟨kvs,hk⟩ | ⟨kvs,hk⟩
    .obtain ⟨_,_,_,_,o,_,_,e,ex,_⟩:=I.hok p _ hk
     exact⟨o,e,ex⟩
    .obtain ⟨_,_,_,_,o,_,_,e,ex,_⟩:=I.hok p _ hk
     exact⟨o,e,ex⟩
   obtain⟨o,e,ex⟩:=z;refine⟨⟨o,e,ex.1⟩,fun a e2=>?_⟩;cases e2;exact⟨o,e,ex.2.1⟩
  .obtain ⟨o,_,_,_,e,ex,_⟩:=I.hok p _ hk
   refine⟨⟨o,e,ex.1⟩,fun a e2=>?_⟩;cases e2;exact⟨o,e,ex.2.1⟩
 |_=>exact False.elim ty
def tBM0 (K:CU)(T:String)(r:V->List V->Hp->VK->Prop)(to:TE):TE:=fun σ H Q=>to σ H fun x H1=>tyV K T x H1/\r x [] H1 Q
def tBM (K:CU)(T:String)(r:V->List V->Hp->VK->Prop)(to:TE)(t:TA):TE:=fun σ H Q=>to σ H fun x H1=>tyV K T x H1/\t σ H1 fun xs H2=>r x xs H2 Q
variable {o e:Expr}{es:List Expr}{to:TE}{t:TA}{name:Str}{apos cpos:Pos}{T id:String}{r:V->List V->Hp->VK->Prop}
theorem pe_bm0 (pa:PlainAttrs T)(slot:Slot T name id)(hty:typeOf (.builtin id)=pure (.type "method_descriptor"))(hm:MtR X id r)(ho:PE X o to)
  (hbase:attributeBase o name X.env (eval o X.env)=eval o X.env:=by rfl) (hline:(apos.endLine==cpos.line)=true:=by rfl):PE X (.Call (.Attribute o name apos) [] [] cpos) (tBM0 X.K T r to):=by
 intro pins s σ H Q I h;refine wpAny_Call_method0_late hbase hline (thn (ho pins s σ H _ I h) fun v s1 ⟨x,H1,I1,r1,ty,q1⟩=>?_);obtain⟨h1,h2⟩:=QL I1 r1 ty;exact⟨T,id,pa,slot,hty,h1,h2,B4 rfl (PySem.evalArgs_none (hm pins s1 σ H1 x [] v [] Q I1 r1 .nil q1))⟩
theorem kO (pa:PlainAttrs T)(slot:Slot T name id)(hty:typeOf (.builtin id)=pure (.type "method_descriptor"))(hm:MtR X id r)(ho:PE X o to)(ha:PA X (e::es) t)
  (hbase:attributeBase o name X.env (eval o X.env)=eval o X.env:=by rfl)
  (hfew:((backTo cpos (starEach (e::es) X.env)).all (fun x=>!x.1)&&(backToKw cpos (keywordEach [] X.env)).all (fun x=>x.1.isSome)
   && decide ((e::es).length+([]:List Keyword).length+(if ([]:List Keyword).isEmpty then 0 else 1) < 30))=true:=by rfl)
  (hline:(apos.endLine==cpos.line)=true:=by rfl) (hs:starEach (e::es) X.env=(false,eval e X.env)::starEach es X.env:=by rfl) (hplain:(backTo cpos (starEach es X.env)).any (·.1)=false:=by rfl) :
  PE X (.Call (.Attribute o name apos) (e::es) [] cpos) (tBM X.K T r to t):=by
 intro pins s σ H Q I h;refine wpAny_Call_method_late hbase hfew hline rfl (thn (ho pins s σ H _ I h) fun v s1 ⟨x,H1,I1,r1,ty,q1⟩=>?_);obtain⟨h1,h2⟩:=QL I1 r1 ty;refine⟨T,id,pa,slot,hty,h1,h2,?_⟩;have hA:=ha cpos pins s1 σ H1 _ I1 q1;rw[hs] at hA ⊢;refine B4 (by show(false || (backTo cpos (starEach es X.env)).any (·.1))=false; rw[hplain]<;>rfl) (Calls.evalArgs_plain ?_);exact thn hA fun us s2 ⟨vs,H2,I2,r2,q2⟩=>hm pins s2 σ H2 x vs v us Q I2 r1 r2 q2
end
def MtM (X:Cx)(id:String)(r:V->List V->Hp->VK->Prop):Prop :=
 ∀(pins:List (Addr×Obj)) (s:Shared) (σ:St) (H:Hp) (x:V) (xs:List V) (v:Value) (us:List Value) (Q:VK),Inv X pins σ H s->RelV x v->Vals xs us->r x xs H Q ->
  wpAny (model X.prog X.w) X.A (call (.builtin id) (v::us)) (EP X pins σ Q) X.xe s
theorem Vals.one:∀{x:V}{us:List Value},Vals [x] us->∃u,us=[u]/\RelV x u
 |_,_,.cons r .nil=>⟨_,rfl,r⟩
theorem Vals.zero:∀{us:List Value},Vals [] us->us=[]
 |_,.nil=>rfl
theorem Vals.dropLast {xs:List V}{us:List Value}(h:Vals xs us):Vals xs.dropLast us.dropLast:=by
 induction h with
 |nil=>exact .nil
 |cons r t ih =>
  cases t with
  |nil=>exact .nil
  |cons q t'=>exact .cons r ih
theorem Vals.rep {xs:List V}{us:List Value}(h:Vals xs us):∀k:Nat,Vals (List.replicate k xs).flatten (List.replicate k us).flatten
 |0=>.nil
 |k+1=>by
  rw[Av,Av,BH,BH];exact Vals.append h (Vals.rep h k)
theorem eS {α:Type}(l:List α):l.eraseIdx (l.length - 1)=l.dropLast:=by
 induction l with
 |nil=>rfl
 |cons a r ih =>
  cases r with
  |nil=>rfl
  |cons b r =>
   have e:(a::b::r).length - 1=((b::r).length - 1)+1:=by
    have h1:(a::b::r).length=r.length+2:=rfl;have h2:(b::r).length=r.length+1:=rfl;omega
   rw[e,List.eraseIdx_cons_succ,ih]
   all_goals rfl
theorem gL (its:List Value):∀(k:Nat) (acc:List Value),
  List.foldl (fun x1 x2=>x1++x2) acc.toArray (List.replicate k its.toArray)=(acc++(List.replicate k its).flatten).toArray
 |0,acc=>by simp
 |k+1,acc=>by
  have e:acc.toArray++its.toArray=(acc++its).toArray:=by simp
  have e2:(acc++its)++(List.replicate k its).flatten=acc++(List.replicate (k+1) its).flatten:=by
   rw[Av,BH,List.append_assoc]
  rw[<- e2,<- gL its k (acc++its),<- e,Av,List.foldl_cons]
section
variable {X:Cx}{pins:List (Addr×Obj)}{σ:St}{H:Hp}{s:Shared}{l b:Addr}{xs ys zs:List V}
theorem Inv.lset {its its':List Value}{n:Nat}{f:Array Value->Array Value}{t':Nat}(I:Inv X pins σ H s)(hH:H l=some (.lst xs))
  (e:s.heap.get? l=some { cls:=.type "list",data:=.seq its.toArray n }) (hf:f its.toArray=its'.toArray) (hv:Vals ys its') (hz:ys.length<=sizeLine) :
  Inv X pins σ (upd H l (.lst ys)) { s with heap:=s.heap.update l (Obj.mapSeq f),toks:=t' }:=by
 have q:=PySem.IsL.update e f;rw[hf] at q;refine I.write (x:=l) (e:=l) (by rw[hH]; exact trivial) (.inl rfl) (fun b' u hb hu=>(AY s.heap (Obj.mapSeq f) (Ne.symm hb)).trans hu) ⟨_,q⟩ ?_;exact⟨hz,its',_,hv,q⟩
theorem Inv.lnew {its:List Value}{t':Nat}(I:Inv X pins σ H s)(hv:Vals ys its)(hz:ys.length<=sizeLine):
  Inv X pins σ (upd H s.heap.objs.size (.lst ys)) { s with heap:=s.heap.push { cls:=.type "list",data:=.seq its.toArray },toks:=t' } :=
 I.laid (fun _ _ q=>AC _ q) (AI _) ⟨hz,its,0,hv,AQ _ rfl⟩
theorem Inv.fresh (I:Inv X pins σ H s):H s.heap.objs.size=none:=I.hok.fresh (AI _)
theorem Inv.lstM (I:Inv X pins σ H s)(hH:H l=some (.lst xs)):xs.length<=sizeLine/\∃(its:List Value) (n:Nat),Vals xs its/\xs.length=its.length/\s.heap.get? l=some { cls:=.type "list",data:=.seq its.toArray n }:=by
 obtain⟨z,its,n,r,e⟩:=I.hok l _ hH;exact⟨z,its,n,r,r.length,e⟩
theorem vC {n:Nat}(h:n<=sizeLine):Builtin.List.listTooLong n=false:=by
 unfold Builtin.List.listTooLong;exact AU (by omega)
end
section
variable {X:Cx}
def vB:V->List V->Hp->VK->Prop:=fun x vs H Q=>∃l xs y,x=.ref l/\vs=[y]/\H l=some (.lst xs)/\xs.length < sizeLine/\Q .non (upd H l (.lst (xs++[y])))
theorem xU:MtM X "list.append" vB:=by
 intro pins s σ H x vs v us Q I rx rv h;obtain⟨l,xs,y,rfl,rfl,hH,hz,q⟩:=h;cases rx;obtain⟨u,rfl,ru⟩:=rv.one;obtain⟨z,its,n,r,hl,e⟩:=I.lstM hH;refine Az F.slot_list_append ⟨_,e,rfl⟩ F.entry_list_append (F.args_list_append_2 _ _) (PySem.list_append l its.toArray n u (by rw[AK]; omega)) ⟨e,?_⟩;refine⟨.non,_,I.lset (its':=its++[u]) hH e (by simp) (r.append (.cons ru .nil)) ?_,rfl,q⟩
 rw[Al,List.length_singleton];omega
def xO:V->List V->Hp->VK->Prop:=fun x vs H Q=>∃l b xs zs,x=.ref l/\vs=[.ref b]/\H l=some (.lst xs)/\H b=some (.lst zs)/\xs.length+zs.length<=sizeLine/\Q .non (upd H l (.lst (xs++zs)))
theorem jI:MtM X "list.extend" xO:=by
 intro pins s σ H x vs v us Q I rx rv h;obtain⟨l,b,xs,zs,rfl,rfl,hH,hB,hz,q⟩:=h;cases rx;obtain⟨u,rfl,ru⟩:=rv.one;cases ru;obtain⟨z,its,n,r,hl,e⟩:=I.lstM hH;obtain⟨z2,its2,n2,r2,hl2,e2⟩:=I.lstM hB;have hsz:its.toArray.size+its2.toArray.size<=sizeLine:=by rw[AK,AK]; omega
 have hlong:¬ (!its.toArray.isEmpty&&Builtin.List.listTooLong (its.toArray.size+its2.toArray.size))=true:=by
  rw[vC hsz,Bool.and_false];exact AE
 refine Az F.slot_list_extend ⟨_,e,rfl⟩ F.entry_list_extend (F.args_list_extend_2 _ _)
  (AutoSeq1.list_extend_list_list_0 l its.toArray n b its2.toArray n2 hlong (by rw[AK]; omega) (by omega)) ⟨e,e2,?_⟩
 refine⟨.non,_,I.lset (its':=its++its2) hH e (by simp) (r.append r2) ?_,rfl,q⟩;rw[Al];omega
def rPop:V->List V->Hp->VK->Prop:=fun x vs H Q=>∃l xs y,x=.ref l/\vs=[]/\H l=some (.lst xs)/\xs[xs.length - 1]?=some y/\Q y (upd H l (.lst xs.dropLast))
theorem mt_pop:MtM X "list.pop" rPop:=by
 intro pins s σ H x vs v us Q I rx rv h;obtain⟨l,xs,y,rfl,rfl,hH,hy,q⟩:=h;cases rx;have hus:=rv.zero;subst hus;obtain⟨z,its,n,r,hl,e⟩:=I.lstM hH;obtain⟨u,hu,ru⟩:=r.get hy
 have hy':its.toArray[its.toArray.size - 1]?=some u:=by
  show its.toArray[its.length - 1]?=some u;rw[<- Bi,<- hl];exact hu
 refine Az F.slot_list_pop ⟨_,e,rfl⟩ F.entry_list_pop (F.args_list_pop_1 _) (MeetsSeq.list_pop_last l its.toArray n u hy' (by rw[AK]; omega)) ⟨e,?_⟩;refine⟨y,_,I.lset (its':=its.dropLast) hH e ?_ r.dropLast ?_,ru,q⟩
 .show its.toArray.eraseIdxIfInBounds (its.toArray.size - 1)=its.dropLast.toArray
  rw[AK,List.eraseIdxIfInBounds_toArray,eS]
 .rw [List.length_dropLast]
  omega
def rCat:R2:=fun x y H Q=>∃l b xs zs,x=.ref l/\y=.ref b/\H l=some (.lst xs)/\H b=some (.lst zs)/\xs.length+zs.length<=sizeLine/\∀p,H p=none->Q (.ref p) (upd H p (.lst (xs++zs)))
theorem Xe:OpR X (binaryOp .Add) rCat:=by
 intro pins s σ H x y v u Q I rx ry h;obtain⟨l,b,xs,zs,rfl,rfl,hH,hB,hz,q⟩:=h;cases rx;cases ry;obtain⟨z,its,n,r,hl,e⟩:=I.lstM hH;obtain⟨z2,its2,n2,r2,hl2,e2⟩:=I.lstM hB;refine PySem.P.add_list e e2 ?_ (by rw[AK,AK]; omega);have ea:its.toArray++its2.toArray=(its++its2).toArray:=by simp
 rw[ea];exact⟨.ref _,_,I.lnew (t':=s.toks) (r.append r2) (by rw[Al]; omega),rfl,q _ I.fresh⟩
def rRep:R2:=fun x y H Q=>∃l k xs,x=.ref l/\y=.int k/\H l=some (.lst xs)/\-(2 ^ 63)<=k/\k < 2 ^ 63/\xs.length * k.toNat<=sizeLine /\
 ∀p,H p=none->Q (.ref p) (upd H p (.lst (List.replicate k.toNat xs).flatten))
theorem len_rep {α:Type}(xs:List α)(k:Nat):(List.replicate k xs).flatten.length=k * xs.length:=by
 induction k with
 |zero=>simp
 |succ k ih=>rw[Av,BH,Al,ih,Nat.succ_mul,Nat.add_comm]
theorem op_rep:OpR X (binaryOp .Mult) rRep:=by
 intro pins s σ H x y v u Q I rx ry h;obtain⟨l,k,xs,rfl,rfl,hH,h1,h2,hz,q⟩:=h;cases rx;obtain⟨t,rfl⟩:=ry;obtain⟨z,its,n,r,hl,e⟩:=I.lstM hH;have hlen:its.toArray.size * k.toNat<=sizeLine:=by rw[AK,<- hl]; exact hz
 have hcap:¬ its.toArray.size * k.toNat > (2 ^ 63 - 1) / 8:=by
  have:(sizeLine:Nat)<=(2 ^ 63 - 1) / 8:=by decide
  omega
 have hfit:¬ (!Builtin.List.listFitsIndex k)=true:=by
  rw[fitsIndex_both h1 h2];exact AE
 have hlong:¬ Builtin.List.listTooLong (its.toArray.size * k.toNat)=true:=by
  rw[vC hlen];exact AE
 have hnew:List.foldl (fun x1 x2=>x1++x2) #[] (List.replicate (if its.toArray.isEmpty=true then 0 else k.toNat) its.toArray)=(List.replicate k.toNat its).flatten.toArray:=by
  have f0:∀m:Nat,List.foldl (fun x1 x2=>x1++x2) #[] (List.replicate m its.toArray)=(List.replicate m its).flatten.toArray:=fun m=>by
   have:=gL its m [];rw[List.nil_append] at this;exact this
  rw[f0]
  cases its with
  |nil=>simp
  |cons a r'=>rw[AR (by simp)]
 refine wpAny_binaryOp_repeat_ref (T:="list") (U:="int") (by decide) ⟨_,e,rfl⟩ (fun s'=>typeIs_int s' k t) noFill_list_mul F.fills_int_mul B9 repeat_list F.slot_int_index.lookup
  (Az B9 (typeIs_int s k t) F.entry_int_rmul (F.args_int_rmul_2 _ _) (int___rmul___int_list k t l its.toArray n)
   ⟨e,rfl,⟨_,e,rfl⟩,Az F.slot_list_mul ⟨_,e,rfl⟩ F.entry_list_mul (F.args_list_mul_2 _ _) (AutoListH.list___mul___list_int_3 l its.toArray n k t hfit hcap hlong) ⟨e,?_⟩⟩)
 rw[hnew];exact⟨.ref _,_,I.lnew (t':=s.toks) (r.rep k.toNat) (by rw[len_rep,Nat.mul_comm]; exact hz),rfl,q _ I.fresh⟩
end
section
variable {κ:Type}[DecidableEq κ]
def bV (kvs:List (κ×V))(k:κ):Option V:=(kvs.find? fun kv=>decide (kv.1=k)).map (·.2)
def xG (kvs:List (κ×V))(k:κ)(v:V):List (κ×V) :=
 if (kvs.any fun kv=>decide (kv.1=k))=true then kvs.map (fun kv=>if kv.1=k then (kv.1,v) else kv) else kvs++[(k,v)]
theorem oB {p:κ×V}{r:List (κ×V)}{k:κ}(e:p.1=k):bV (p::r) k=some p.2:=by simp[bV,List.find?_cons,e]
theorem eB {p:κ×V}{r:List (κ×V)}{k:κ}(e:¬ p.1=k):bV (p::r) k=bV r k:=by simp[bV,List.find?_cons,e]
theorem yN (k:κ):∀kvs:List (κ×V),(kvs.any fun kv=>decide (kv.1=k))=(bV kvs k).isSome
 |[]=>rfl
 |p::r=>by
  rw[Bl]
  by_cases e:p.1=k
  .simp only[oB e,decide_eq_true e,Bool.true_or,Option.isSome_some]
  .rw [eB e,AU e,Bool.false_or]; exact yN k r
theorem dU (kvs:List (κ×V))(k:κ)(v:V):(xG kvs k v).length<=kvs.length+1:=by
 unfold xG
 split
 .rw [AL]; omega
 .rw [Al,AZ,B7]; omega
theorem RelO.isSome_eq {o:Option V}{u:Option Value}(r:RelO o u):o.isSome=u.isSome:=by
 cases o with
 |none=>cases u with
  |none=>rfl
  |some _=>exact(show False from r).elim
 |some _=>cases u with
  |none=>exact(show False from r).elim
  |some _=>rfl
theorem KV.val {kvs:List (κ×V)}{vs:List (κ×Value)}(r:KV kvs vs)(k:κ):RelO (bV kvs k) (valueAt vs k):=by
 unfold KV at r
 induction r with
 |nil=>exact True.intro
 |@cons p q ps qs h t ih =>
  obtain⟨h1,h2⟩:=h
  by_cases e:p.1=k
  .have e':q.1=k:=h1.symm.trans e
   have b:valueAt (q::qs) k=some q.2:=by simp[valueAt,List.find?_cons,e']
   rw[oB e,b]; exact h2
  .have e':¬ q.1=k:=fun z=>e (h1.trans z)
   have b:valueAt (q::qs) k=valueAt qs k:=by simp[valueAt,List.find?_cons,e']
   rw[eB e,b]; exact ih
theorem KV.any {kvs:List (κ×V)}{vs:List (κ×Value)}(r:KV kvs vs)(k:κ):(kvs.any fun kv=>decide (kv.1=k))=vs.any fun kv=>decide (kv.1=k):=by
 unfold KV at r
 induction r with
 |nil=>rfl
 |cons h t ih=>rw[Bl,Bl,ih,h.1]
theorem KV.repl {kvs:List (κ×V)}{vs:List (κ×Value)}(r:KV kvs vs)(k:κ){y:V}{u:Value}(ry:RelV y u):
  KV (kvs.map fun kv=>if kv.1=k then (kv.1,y) else kv) (vs.map fun kv=>if kv.1=k then (kv.1,u) else kv):=by
 unfold KV at r ⊢
 induction r with
 |nil=>exact .nil
 |@cons p q ps qs h t ih =>
  rw[Au,Au];refine .cons ?_ ih;obtain⟨h1,h2⟩:=h
  by_cases e:p.1=k
  .rw [AV e,AV (h1.symm.trans e)]; exact⟨h1,ry⟩
  .rw [AR e,AR (fun z=>e (h1.trans z))]; exact⟨h1,h2⟩
theorem KV.put {kvs:List (κ×V)}{vs:List (κ×Value)}(r:KV kvs vs)(k:κ){y:V}{u:Value}(ry:RelV y u):KV (xG kvs k y) (stored vs k u):=by
 unfold xG stored;rw[r.any k]
 by_cases e:(vs.any fun kv=>decide (kv.1=k))=true
 .rw [AV e,AV e]; exact r.repl k ry
 .rw [AR e,AR e]; exact Paired.snoc r ⟨rfl,ry⟩
theorem KV.length {kvs:List (κ×V)}{vs:List (κ×Value)}(r:KV kvs vs):kvs.length=vs.length:=Paired.length r
end
theorem fO {P:Program}{w:World}{k:Key}{u:Value}(r:RelV (kV k) u):(sQ P w).is k u=true:=by
 rcases k with (_ | i) | x
 .cases (show u=Value.none from r); exact nP P w
 .obtain ⟨t,e⟩:=(show ∃t,u=Value.int i t from r); subst e; exact yC P w i t
 .obtain ⟨t,e⟩:=(show ∃t,u=Value.str x t from r); subst e; exact wC P w x t
theorem jL {P:Program}{w:World}:∀{ks:List Key}{us:List Value},Vals (ks.map kV) us->ItemsAre (sQ P w) ks us
 |[],_,r=>by rw[List.map_nil] at r; cases r; exact .nil
 |k::ks,_,r=>by
  rw[Au] at r
  cases r with
  |cons h t=>exact .cons (fO h) (jL t)
abbrev KT (H:Hp):List (List Key×V)->List (List Key×Addr×Value)->Prop:=Paired fun p q=>p.1=q.1/\H q.2.1=some (.tup (p.1.map kV))/\RelV p.2 q.2.2
theorem KT.val {H:Hp}{kvs:List (List Key×V)}{xs:List (List Key×Addr×Value)}(r:KT H kvs xs)(k:List Key):RelO (bV kvs k) ((atKey xs k).map (·.2)):=by
 induction r with
 |nil=>exact True.intro
 |@cons p q ps qs h t ih =>
  obtain⟨h1,_,h2⟩:=h
  by_cases e:p.1=k
  .have e':q.1=k:=h1.symm.trans e
   have b:atKey (q::qs) k=some q.2:=by simp[atKey,List.find?_cons,e']
   rw[oB e,b]; exact h2
  .have e':¬ q.1=k:=fun z=>e (h1.trans z)
   have b:atKey (q::qs) k=atKey qs k:=by simp[atKey,List.find?_cons,e']
   rw[eB e,b]; exact ih
theorem KT.repl {H:Hp}{kvs:List (List Key×V)}{xs:List (List Key×Addr×Value)}(r:KT H kvs xs)(k:List Key){y:V}{u:Value}(ry:RelV y u):
  KT H (kvs.map fun kv=>if kv.1=k then (kv.1,y) else kv) (xs.map (putAt k u)):=by
 induction r with
 |nil=>exact .nil
 |@cons p q ps qs h t ih =>
  rw[Au,Au];refine .cons ?_ ih;obtain⟨h1,h2,h3⟩:=h;unfold putAt
  by_cases e:p.1=k
  .rw [AV e,AV (h1.symm.trans e)]; exact⟨h1,h2,ry⟩
  .rw [AR e,AR (fun z=>e (h1.trans z))]; exact⟨h1,h2,h3⟩
theorem KT.put {H:Hp}{kvs:List (List Key×V)}{xs:List (List Key×Addr×Value)}(r:KT H kvs xs)(k:List Key){b:Addr}{y:V}{u:Value}(hb:H b=some (.tup (k.map kV)))(ry:RelV y u):
  KT H (xG kvs k y) (storedH xs k b u):=by
 have e:(kvs.any fun kv=>decide (kv.1=k))=(atKey xs k).isSome:=by
  rw[yN,(r.val k).isSome_eq,Option.isSome_map]
 unfold xG storedH;rw[e]
 by_cases q:(atKey xs k).isSome=true
 .rw [AV q,AV q]; exact r.repl k ry
 .rw [AR q,AR q]; exact Paired.snoc r ⟨rfl,hb,ry⟩
theorem KT.keeps {H H':Hp}{kvs:List (List Key×V)}{xs:List (List Key×Addr×Value)}(r:KT H kvs xs)(ht:∀b ys,H b=some (.tup ys)->H' b=some (.tup ys)):KT H' kvs xs :=
 Paired.mapP r fun _ _ z=>⟨z.1,ht _ _ z.2.1,z.2.2⟩
section
variable {P:Program}{w:World}{H:Hp}{h:Heap}{a:Addr}
theorem rd_of {u:HO}(ok:HOk P w H h)(e:Rd H a u):ObjOk P w H h a u:=e.ok ok
theorem XW {kvs:List (Key×V)}(ok:HOk P w H h)(e:Rd H a (.dK kvs)):kvs.length<=sizeLine/\(a==sysModules)=false/\∃vs,KV kvs vs/\h.DictOf (sQ P w) a vs :=
 show ObjOk P w H h a (.dK kvs) from rd_of ok e
theorem dk_of {kvs:List (Key×V)}(ok:HOk P w H h)(e:H a=some (.dK kvs)):kvs.length<=sizeLine/\(a==sysModules)=false/\∃vs,KV kvs vs/\h.DictOf (sQ P w) a vs:=XW ok (.inl e)
theorem oM {ks:List Key}(ok:HOk P w H h)(e:H a=some (.tup (ks.map kV))):(tupleKind (sQ P w)).is h ks a:=by
 obtain⟨_,its,r,o,h1,h2,⟨n,h3⟩,_⟩:=(show ObjOk P w H h a (.tup (ks.map kV)) from ok a _ e);exact⟨o,its.toArray,n,h1,h2,h3,by simpa using jL r⟩
theorem dt_rd {kvs:List (List Key×V)}(ok:HOk P w H h)(e:Rd H a (.dT kvs)):kvs.length<=sizeLine/\(a==sysModules)=false /\
  ∃xs,KT H kvs xs/\h.DictOfH (tupleKind (sQ P w)) a xs:=by
 obtain⟨z,y,xs,r,o,es,ep,h1,h2,h3,h4,h5⟩:=(show ObjOk P w H h a (.dT kvs) from rd_of ok e);refine⟨z,y,xs,r,o,es,ep,h1,h2,h3,h4,fun x hx=>?_,h5⟩
 have all:∀{l:List (List Key×V)} {m:List (List Key×Addr×Value)},KT H l m->∀x∈m,(tupleKind (sQ P w)).is h x.1 x.2.1:=by
  intro l m q
  induction q with
  |nil=>intro x hx; exact nomatch hx
  |@cons p q ps qs hq t ih =>
   intro x hx
   rcases Ag.mp hx with e | hx
   .subst e
    exact oM ok (by rw[<- hq.1]; exact hq.2.1)
   .exact ih x hx
 exact all r x hx
theorem dt_of {kvs:List (List Key×V)}(ok:HOk P w H h)(e:H a=some (.dT kvs)):kvs.length<=sizeLine/\(a==sysModules)=false /\
  ∃xs,KT H kvs xs/\h.DictOfH (tupleKind (sQ P w)) a xs:=dt_rd ok (.inl e)
end
def DGet (H:Hp)(a:Addr)(y:V)(r:Option V):Prop :=
 (∃kvs k,Rd H a (.dK kvs)/\y=kV k/\r=bV kvs k)\/∃kvs k b,Rd H a (.dT kvs)/\y=.ref b/\H b=some (.tup (k.map kV))/\r=bV kvs k
def DPut (H:Hp)(a:Addr)(y v:V)(H':Hp):Prop :=
 (∃kvs k,H a=some (.dK kvs)/\y=kV k/\kvs.length < sizeLine/\H'=upd H a (.dK (xG kvs k v))) \/
 ∃kvs k b,H a=some (.dT kvs)/\y=.ref b/\H b=some (.tup (k.map kV))/\kvs.length < sizeLine/\H'=upd H a (.dT (xG kvs k v))
theorem DPut.k {H:Hp}{a:Addr}{kvs:List (Key×V)}{k:Key}{v:V}(e:H a=some (.dK kvs))(hl:kvs.length < sizeLine):DPut H a (kV k) v (upd H a (.dK (xG kvs k v))):=.inl ⟨kvs,k,e,rfl,hl,rfl⟩
section
variable {X:Cx}{pins:List (Addr×Obj)}{σ:St}{H:Hp}{s:Shared}{a:Addr}{y v:V}{u r:Value}{o:Option V}{A:Around}{E:Value->Shared->Prop}
theorem Inv.big (I:Inv X pins σ H s):sysModules < s.heap.objs.size:=by
 have h:mainGlobals < s.heap.objs.size:=(I.mod.glob.keeps I.bk).lt;exact Nat.lt_trans (by decide) h
theorem d_in {Q:Value->Shared->Prop}(hu:A.units+1 < cLine)(I:Inv X pins σ H s)(g:DGet H a y o)(ry:RelV y u)(h:∀s',Inv X pins σ H s'->Q (.bool o.isSome) s'):
  wpAny (model X.prog X.w) A (compareOp .In u (.ref a)) Q E s:=by
 rcases g with ⟨kvs,k,e,ey,l⟩ | ⟨kvs,k,b,e,ey,eb,l⟩
 .subst ey
  obtain⟨z,hd,vs,rel,dd⟩:=XW I.hok e;refine wpAny_in_of (fO ry) hd dd.mapOf ?_;rw[<- (rel.val k).isSome_eq,<- l];exact h _ (I.tok _)
 .subst ey
  cases (show u=Value.ref b from ry);obtain⟨z,hd,xs,rel,dd⟩:=dt_rd I.hok e;refine wpAny_in_heap (Bs hu) (oM I.hok eb) hd dd ?_;have q:=(rel.val k).isSome_eq;rw[Option.isSome_map] at q;rw[<- q,<- l];exact h _ (I.tok _)
theorem zE {h':Heap}{t':Nat}{ob:HO}(I:Inv X pins σ H s)(mu:Mut (H a))(hs:Heap.SameBut a s.heap h')(he:∃q,h'.get? a=some q)(new:ObjOk X.prog X.w (upd H a ob) h' a ob):
  Inv X pins σ (upd H a ob) { s with heap:=h',toks:=t' } :=
 I.write (x:=a) (e:=a) mu (.inl rfl) (fun b q hb z=>(hs.2 b hb).trans z) he new
theorem dk_new {P:Program}{w:World}{H':Hp}{h':Heap}{kvs:List (Key×V)}{vs:List (Key×Value)}(z:kvs.length<=sizeLine)(hd:(a==sysModules)=false)(rel:KV kvs vs)(dd:h'.DictOf (sQ P w) a vs):
  ObjOk P w H' h' a (.dK kvs):=⟨z,hd,vs,rel,dd⟩
theorem sI {H':Hp}{Q:Unit->Shared->Prop}(hu:A.units+1 < cLine)(I:Inv X pins σ H s)(g:DPut H a y v H')(ry:RelV y u)(rv:RelV v r)(h:∀s',Inv X pins σ H' s'->Q () s'):
  wpAny (model X.prog X.w) A (setItem (.ref a) u r) Q E s:=by
 rcases g with ⟨kvs,k,e,ey,l,eH⟩ | ⟨kvs,k,b,e,ey,eb,l,eH⟩
 .subst ey eH
  obtain⟨z,hd,vs,rel,dd⟩:=dk_of I.hok e;have hz:vs.length<=sizeLine:=by rw[<- rel.length]; exact z
  have hl:(xG kvs k v).length<=sizeLine:=by have:=dU kvs k v; omega
  refine wpAny_setItem_pairs (hsz:=hz) (fO ry) dd fun h' dd' hs=>h _ ?_;have he:∃q,h'.get? a=some q:=let ⟨q,_,_,hq,_⟩:=dd'; ⟨q,hq⟩
  exact zE I (by rw[e]; exact True.intro) hs he (dk_new hl hd (rel.put k rv) dd')
 .subst ey eH
  cases (show u=Value.ref b from ry);obtain⟨z,hd,xs,rel,dd⟩:=dt_of I.hok e;have hz:xs.length<=sizeLine:=by rw[<- Paired.length rel]; exact z
  have hl:(xG kvs k v).length<=sizeLine:=by have:=dU kvs k v; omega
  refine wpAny_setItem_heap (hsz:=hz) (Bs hu) (oM I.hok eb) dd fun h' dd' hs=>h _ ?_;obtain⟨q,es,ep,hq,h2,h3,h4,_,h5⟩:=dd';refine zE I (by rw[e]; exact True.intro) hs ⟨q,hq⟩ ⟨hl,hd,_,(rel.put k eb rv).keeps fun c ys ec=>?_,q,es,ep,hq,h2,h3,h4,h5⟩;rw[wQ (ne_of ec e (fun z=>nomatch z))];exact ec
end
section
variable {X:Cx}{pins:List (Addr×Obj)}{σ:St}{H:Hp}{s:Shared}{a:Addr}{kvs:List (Key×V)}{k:Key}{u:Value}{A:Around}{E:Value->Shared->Prop}
theorem d_len {Q:Value->Shared->Prop}(I:Inv X pins σ H s)(e:Rd H a (.dK kvs))(h:∀t s',Inv X pins σ H s'->Q (.int kvs.length t) s'):wpAny (model X.prog X.w) A (call (.builtin "len") [.ref a]) Q E s:=by
 obtain⟨z,hd,vs,rel,dd⟩:=XW I.hok e;refine call_len_dict hd dd (by rw[<- rel.length]; rw[CM] at z; omega) ?_;rw[<- rel.length];exact h _ _ (I.tok _)
end
def sDPut (td ty tv:TE):TS:=fun D σ H=>tv σ H fun v H1=>td σ H1 fun x H2=>ty σ H2 fun y H3=>∃a H4,x=.ref a/\DPut H3 a y v H4/\D.nx σ H4
section
variable {X:Cx}{o i e value:Expr}{pos pos' tpos:Pos}{td ty tv:TE}
theorem ps_dput (hu:X.A.units+1 < cLine)(ho:PE X o td)(hi:PE X i ty)(hv:PE X value tv)(hs:swapsWith value (some (.Subscript o i pos')) pos.line X.env=pure false):
  PS X (.Assign [.Subscript o i pos'] value pos) (sDPut td ty tv):=by
 intro pins s σ H D I h;refine wpAny_Assign_Subscript (thn (hv pins s σ H _ I h) fun r s1 ⟨v,H1,I1,rv,q1⟩=>thn (ho pins s1 σ H1 _ I1 q1) fun u s2 ⟨x,H2,I2,rx,q2⟩=>thn (hi pins s2 σ H2 _ I2 q2) fun iv s3 ⟨y,H3,I3,ry,a,H4,ex,g,q3⟩=>?_) hs;subst ex;obtain rfl:u=Value.ref a:=rx;exact sI hu I3 g ry rv fun s4 I4=>⟨σ,H4,I4,q3⟩
end
theorem XX {P:Program}{w:World}{H:Hp}(h:Heap)(hb:sysModules < h.objs.size):ObjOk P w H (h.push { cls:=.type "dict",data:=.dict #[] }) h.objs.size (.dK []) :=
 ⟨Aa _,BS.mpr (Ne.symm (AM hb)),[],.nil,Heap.DictOf.new h⟩
def tDNewK:TE:=fun _ H Q=>∀p,H p=none->Q (.ref p) (upd H p (.dK []))
section
variable {X:Cx}{pos:Pos}
theorem Q6:PE X (.Dict [] [] pos) tDNewK:=fun pins s σ H Q I h =>
 wpAny_Dict_empty ⟨.ref s.heap.objs.size,_,I.laid (a:=s.heap.objs.size) (o:=.dK []) (t':=s.toks) (fun _ _ q=>AC _ q) (AI _) (XX s.heap I.big),rfl,h _ (I.hok.fresh (AI _))⟩
end
structure M2 (X:Cx)(o:Expr)(m:Str)(apos:Pos)(e f:Expr)(cpos:Pos):Prop where
 base:attributeBase o m X.env (eval o X.env)=eval o X.env
 few:((backTo cpos (starEach [e,f] X.env)).all (fun x=>!x.1)&&(backToKw cpos (keywordEach [] X.env)).all (fun x=>x.1.isSome)
  && decide (([e,f]:List Expr).length+([]:List Keyword).length+(if ([]:List Keyword).isEmpty then 0 else 1) < 30))=true
 line:(apos.endLine==cpos.line)=true
 trees:backTo cpos (starEach [e,f] X.env)=[(false,eval e X.env),(false,eval f X.env)]
end L2
namespace Att
open PySem PySem.W PySem.Calls PyProof.Rows
theorem zB {P:Params}{h:Heap}:∀(ns:List Int) (vs:List Value),WellAll P h vs (ns.map WData.int)->IntsAre vs ns:=by
 intro ns
 induction ns with
 |nil =>
  intro vs w;rw[List.map_nil] at w;cases w;exact .nil
 |cons n ns ih =>
  intro vs w;rw[Au] at w
  cases w with
  |cons a b =>
   cases a;exact .cons _ _ (ih _ b)
theorem jA {l:OpenLaw}{n:Nat}(hn:l.most=some n){P:Params}{h:Heap}{args:List WData}{vals:List Value}
  (hpre:l.row.toRowW.claim.pre args=true) (hwl:WellAll P h vals args) :
  ∃a vs ns,vals=[Value.ref a]/\args=[WData.list (ns.map WData.int)]/\h.get? a=some { cls:=.type "list",data:=.seq vs.toArray }/\IntsAre vs ns/\ns.length<=n:=by
 have hsh:WShape.hasAll [] args [.list .int]=true:=(pre_splitW hpre).1;have hc:l.pre.holds [] { args:=args }=true:=(pre_splitW hpre).2;obtain⟨d,r,rfl,h1,h2⟩:=hasAllW_cons hsh;obtain rfl:=hasAllW_nil h2;obtain⟨xs,rfl,h3⟩:=hasW_list h1;obtain⟨ns,rfl⟩:=items_int h3
 have hlen:ns.length<=n:=by
  unfold OpenLaw.pre at hc
  have h4:(WTm.not (.lt (.lit (.int (n:Int))) (.len (.arg 0)))).holds [] { args:=[.list (ns.map .int)] }=true:=by
   have h4:=(holds_andW hc).1;rw[hn] at h4;exact h4
  have h5:=condW_of h4 (w_not (w_lt w_lit (w_len_list (w_arg rfl))));rw[AL] at h5;refine Nat.le_of_not_lt fun q=>?_;have q':(n:Int) < ((ns.length:Nat):Int):=by omega
  first
   | (rw[A7 q'] at h5; exact absurd h5 (by decide))
   | (simp at h5; omega)
 cases hwl with
 |cons w1 w2 =>
  cases w2
  cases w1 with
  |list ho hall=>exact⟨_,_,ns,rfl,rfl,ho,zB ns _ hall,hlen⟩
theorem yA (l:OpenLaw)(args:List WData):l.row.toRowW.claim.post args (.bool true) args=true :=
 postW_of (r:=l.row.toRowW) (X:=(true==true))
  (show WShape.has [] (.bool true) .bool=true by first | rfl | decide | simp[WShape.has,WShape.arms,WShape.armsAll])
  (show(WTm.eq .res (.lit (.bool true))).value [] { args:=args,res:=some (.bool true),after:=args }=some (.bool (true==true)) from w_eq_bool (w_res rfl) w_lit) rfl
theorem attach_call {l:OpenLaw}{n:Nat}{q:Program}{loose:List Str}{XP:(Str->Option Value)->Heap->Prop}{YP:World->Heap->Prop}{d:DefRec}
  (hn:l.most=some n) (hdf:d.params.defaults=[])
  (call:∀(w:World) (s₀ s₁:Shared) (mg mb:Str->Option Value) (fa:Addr) (o:Obj) (pm cd doc:Value) (a:Addr) (vs:List Value) (ns:List Int),
   Ground q loose [] XP w s₀ mg mb s₁.heap->YP w s₁.heap ->
   s₁.heap.get? fa=some o->o.data=.func (docDef d.name d.params d.body d.scope pm cd doc)->s₁.heap.CodeRec cd d.name->mg d.name=some (.ref fa) ->
   s₁.heap.get? a=some { cls:=.type "list",data:=.seq vs.toArray }->IntsAre vs ns->ns.length<=n->s₁.gens = #[] ->
   codeAny (model l.prog w) callerA (.call (.ref fa) ⟨[.ref a],[]⟩) (fun r s'=>r=.ok (.ret (.bool true))/\OldK s₁.heap s'.heap/\s'.os=s₁.os/\AllBare s'.gens) s₁) :
  WalkO q loose XP YP l.row.toRowW d [] (fun f vs=>PySem.call f vs):=by
 intro w s₀ s₁ mg mb G Y fa o pm cd doc dV kV ho hd hcd hD hmg hg args vals as hpre hlay hrd hwl hlo;obtain rfl:dV=.none:=Dflts.none hD hdf;obtain rfl:kV=.none:=Dflts.noKw hD;obtain⟨a,vs,ns,rfl,rfl,hobj,hints,hlen⟩:=jA hn hpre hwl;refine enter_call (BP (call w s₀ s₁ mg mb fa o pm cd doc a vs ns G Y ho (fd_plain hd) hcd hmg hobj hints hlen hg) fun r s' hq=>?_);obtain⟨rfl,h2,h3,h4⟩:=hq
 exact⟨.inl ⟨.bool true,.bool true,[],rfl,fun _=>rfl,.bool true,yA l _,fun _=>⟨List.Pairwise.nil,fun _ hm=>(nomatch hm)⟩⟩,h2,h3,h4⟩
end Att
namespace L2
open PySem PySem.Spec PyProof.Rows
theorem uD:∀{vs:List Value}{ns:List Int},IntsAre vs ns->Vals (ns.map V.int) vs
 |_,_,.nil=>.nil
 |_,_,.cons n t h=>.cons ⟨t,rfl⟩ (uD h)
def Only (H:Hp):Prop:=∀b,H b=none\/∃o xs,H b=some (.frz o (.lst xs))
theorem Xp {P:Program}{w:World}{K:CU}{mg mb:Str->Option Value}{CX:CXT}{k:Nat}{fa a:Addr}{fd:FuncData}{x:Str}{sp:Sp}{s₁:Shared}{vs:List Value}{ns:List Int}
  (KX:K.In s₁.heap) (hns:s₁.heap.Ns mainGlobals mg) (hb:s₁.heap.Ns builtinsNs mb) (hbb:∀x:Str,x ≠ "__name__"->mb x=bootBuiltins x) (hlim:s₁.heap.NoLimit) (hg:s₁.gens = #[])
  (ha:s₁.heap.get? a=some { cls:=.type "list",data:=.seq vs.toArray }) (hi:IntsAre vs ns) (hl:ns.length<=sizeLine) (hr:Room k callerA)
  (F:∀base:Heap,K.In base->base.Ns mainGlobals mg->eX P w K mg base CX k fa fd [x] sp) (hbind:∀(s:Shared) (u:Value),BindsTo s fd ⟨[u],[]⟩ [(x,u)])
  (hsp:∀H:Hp,Only H->SqL K H a (ns.map V.int)->sp [.ref a] H (fun v _=>v=.bl true) fun _ _ _=>False)
  (hCX:∀H e s',CX [] H s₁ (fun _ _ _=>False) e s'->False) :
  codeAny (model P w) callerA (.call (.ref fa) ⟨[.ref a],[]⟩) (fun r s'=>r=.ok (.ret (.bool true))/\OldK s₁.heap s'.heap/\s'.os=s₁.os/\AllBare s'.gens) s₁:=by
 have rv:=uD hi;have lenV:=hi.length
 have core:∀H:Hp,Only H->SqL K H a (ns.map V.int)->HOk P w H s₁.heap->(∀b,H b≠none->b=a)->(H a≠none->K.lookup a=none) ->
   codeAny (model P w) callerA (.call (.ref fa) ⟨[.ref a],[]⟩) (fun r s'=>r=.ok (.ret (.bool true))/\OldK s₁.heap s'.heap/\s'.os=s₁.os/\AllBare s'.gens) s₁:=by
  intro H hO hS hok hA hK;have base_of:∀{b:Addr} {o:Obj},s₁.heap.get? b=some o->H b=none->(tP s₁.heap H).get? b=some o:=fun e n=>Xy e n
  have noA:∀{b:Addr} {o:Obj} {es:Array DictEntry} {ep:Nat},s₁.heap.get? b=some o->o.data=.dict es ep->H b=none:=fun {b o es ep} e d=>by
   cases q:H b with
   |none=>rfl
   |some u =>
    have e':b=a:=hA b (by rw[q]; simp);subst e';rw[ha] at e; cases e
    have d':Data.seq vs.toArray _=Data.dict es ep:=d;cases d'
  have nsK:∀{b:Addr} {m:Str->Option Value},s₁.heap.Ns b m->(tP s₁.heap H).Ns b m:=fun {b m} ⟨o,es,ep,e,d,r⟩=>⟨o,es,ep,base_of e (noA e d),d,r⟩
  have hKb:K.In (tP s₁.heap H):=fun b o e=>base_of (KX b o e) (by
   cases q:H b with
   |none=>rfl
   |some u =>
    have e':b=a:=hA b (by rw[q]; simp);subst e'
    rw[hK (by rw[q]; simp)] at e; cases e)
  have hM:Mod K mg (tP s₁.heap H):=⟨hKb,nsK hns,⟨mb,nsK hb,hbb⟩,let ⟨mc,h1,h2⟩:=hlim; ⟨mc,nsK h1,h2⟩⟩;have e0:Env0 P w K mg (tP s₁.heap H) callerA [] s₁ H:=⟨rfl,hM,fun b o e=>of_hidT e,Br (gI _ _),trivial,fun b hb=>absurd (show b∈([]:List Addr) from hb) (by simp),hok,.of_eq hg⟩;refine BP ((F _ hKb (nsK hns)).run callerA [] s₁ H ⟨[.ref a],[]⟩ [.ref a] [.ref a] _ _ hr e0 (hbind s₁ (.ref a)) (.cons rfl .nil) (hsp H hO hS)) fun r s' h=>?_
  cases r with
  |error e=>exact(hCX H e s' h).elim
  |ok fl =>
   cases fl with
   |next=>exact False.elim h
   |brk=>exact False.elim h
   |cont=>exact False.elim h
   |ret u =>
    obtain⟨v,H',os,bare,un,hok',r',q⟩:=h;have q':v=.bl true:=q;subst q';obtain rfl:u=Value.bool true:=r';refine⟨rfl,OldK.of_keep fun b o e=>?_,os,bare⟩
    cases q:H b with
    |none=>exact un.keep b o e q (by intro z; exact absurd (show b∈([]:List Addr) from z) (by simp)) (by simp)
    |some u =>
     rcases hO b with z | ⟨ob,xs,z⟩
     .rw [q] at z; cases z
     .have z2:=un.frzs b ob _ z
      obtain⟨e1,_⟩:=hok b _ z;obtain⟨e2,_⟩:=hok' b _ z2;rw[e] at e1; cases e1
      exact e2
 cases hk:K.lookup a with
 |some o =>
  have e:=KX a o hk;rw[ha] at e;cases e;refine core (fun _=>none) (fun _=>.inl rfl) (.inr ⟨_,vs.toArray,_,hk,rfl,rfl,rfl,by rw[AK,lenV]; exact hl,by simpa using rv⟩) (fun b u z=>by have z':(none:Option HO)=some u:=z; cases z') (fun b z=>absurd rfl z) fun z=>absurd rfl z
 |none =>
  refine core (fun b=>if b=a then some (.frz { cls:=.type "list",data:=.seq vs.toArray } (.lst (ns.map V.int))) else none) (fun b=>?_) (.inl (.inr ⟨{ cls:=.type "list",data:=.seq vs.toArray },AV rfl⟩)) (fun b u z=>?_) (fun b z=>?_) fun _=>hk
  .by_cases hb:b=a
   .exact .inr ⟨_,_,AV hb⟩
   .exact .inl (AR hb)
  .by_cases hb:b=a
   .have z':=(AV hb).symm.trans z
    cases z';subst hb;exact⟨ha,by rw[AL]; exact hl,vs,_,rv,ha⟩
   .have z':=(AR hb).symm.trans z
    cases z'
  .by_cases hb:b=a
   .exact hb
   .exact absurd (AR hb) z
theorem walk_of {l:PySem.W.OpenLaw}{n k:Nat}{q:Program}{loose:List Str}{XP:(Str->Option Value)->Heap->Prop}{YP:World->Heap->Prop}{d:DefRec}{K:Params->CU}{CX:World->CXT}{sp:World->Sp}{x:Str}
  (hn:l.most=some n) (hn2:n<=sizeLine) (hdf:d.params.defaults=[]) (hr:Room k callerA)
  (hY:∀(w:World) (h:Heap),YP w h->(K w.params).In h)
  (F:∀(w:World) (mg:Str->Option Value) (fa:Addr) (h:Heap),(K w.params).In h->h.Ns mainGlobals mg->mg d.name=some (.ref fa) ->
   ∃fd:FuncData,(∀(s:Shared) (u:Value),BindsTo s fd ⟨[u],[]⟩ [(x,u)]) /\
    ∀base:Heap,(K w.params).In base->base.Ns mainGlobals mg->eX l.prog w (K w.params) mg base (CX w) k fa fd [x] (sp w))
  (hsp:∀(w:World) (H:Hp) (a:Addr) (ns:List Int),ns.length<=n->Only H->SqL (K w.params) H a (ns.map V.int)->sp w [.ref a] H (fun v _=>v=.bl true) fun _ _ _=>False)
  (hCX:∀(w:World) (H:Hp) (s:Shared) (e:Value) (s':Shared),CX w [] H s (fun _ _ _=>False) e s'->False) :
  PySem.W.WalkO q loose XP YP l.row.toRowW d [] (fun f vs=>PySem.call f vs):=by
 refine Att.attach_call hn hdf fun w s₀ s₁ mg mb fa o pm cd doc a vs ns G Y ho hd hcd hmg hobj hints hlen hg=>?_;have KX:=hY w _ Y;obtain⟨fd,hb,hF⟩:=F w mg fa _ KX G.T.g hmg;exact Xp KX G.T.g G.T.b G.T.builtins G.T.nolimit hg hobj hints (AO hlen hn2) hr hF hb (fun H hO hS=>hsp w H a ns hlen hO hS) fun H e s'=>hCX w H s₁ e s'
def jX (s:Stmt)(j:Nat):Stmt:=match s with
 |.ClassDef _ _ _ body _ _ _ _ _ _ _=>body.getD j (.Pass ⟨0,0,0,0⟩)
 |_=>.Pass ⟨0,0,0,0⟩
def iJ (s:Stmt):Arguments:=match s with
 |.FunctionDef _ a _ _ _ _ _ _ _ _=>a
 |_=>{ posonlyargs:=[],args:=[],vararg:=none,kwonlyargs:=[],kw_defaults:=[],kwarg:=none,defaults:=[] }
def yZ (s:Stmt):List Stmt:=match s with
 |.FunctionDef _ _ b _ _ _ _ _ _ _=>b
 |_=>[]
def dQ (s:Stmt):Scope:=match s with
 |.FunctionDef _ _ _ _ _ _ sc _ _ _=>sc
 |_=>{ kind:=.function,names:=[],isGenerator:=false,isCoroutine:=false }
abbrev CX0:CXT:=fun _ _ _ _ _ _=>False
abbrev E0:XK:=fun _ _ _=>False
theorem gM {X:Cx}:mZ CX0 X E0:=fun _ _ _ _ _ _ _ h=>h.elim
structure Fun (K:CU)(x qual:Str)(st:Stmt)(f:Addr)(fd:FuncData):Prop where
 ex:∃(oc:Value) (od:Option Addr) (kV doc pm:Value) (an:Option Addr) (cdv ct:Value) (osl:Array (Option Value)),
  fd=PySem.W.fnOf x qual (iJ st) (yZ st) (dQ st) .none kV doc pm an cdv ct/\K.lookup f=some ⟨oc,od,.func fd,osl⟩/\PySem.W.codeIn K cdv qual=true
 kp:PySem.W.keepIn K (.ref f)=true
section
variable {P:Program}{w:World}{K:CU}{mg:Str->Option Value}{base:Heap}
theorem Fun.ok {x qual:Str}{st:Stmt}{f:Addr}{fd:FuncData}{N ps:List Str}{k:Nat}{sp:Sp}(F:Fun K x qual st f fd)(S:FnScope N ps (dQ st))(len:∀vs H Q E,sp vs H Q E->vs.length=ps.length)
  (hbody:∀(cdv:Value) (A:Around) (outer:List Env) (s:Shared) (H:Hp) (vs:List V) (Q:VK) (E:XK),Room k (A.deeper (envOfC qual (dQ st) s.heap.objs.size f cdv))->sp vs H Q E ->
   ∃t,PSs (bX CX0 P w K mg base N qual (dQ st) f cdv A outer s H E).nox (yZ st) t/\t { nx:=fun _ H'=>Q .non H',rt:=Q } (start N vs) H):eX P w K mg base CX0 (k+1) f fd ps sp:=by
 obtain⟨oc,od,kV,doc,pm,an,cdv,ct,osl,rfl,lk,hcd⟩:=F.ex;refine fn_of lk hcd S len fun A outer s H vs Q E hr hsp=>?_;obtain⟨t,h,q⟩:=hbody cdv A outer s H vs Q E hr hsp;exact⟨t,h.nox,q⟩
theorem Fun.binds {x qual:Str}{st:Stmt}{f:Addr}{fd:FuncData}{ps:List Str}(F:Fun K x qual st f fd)
  (h:∀(kV doc pm:Value) (an:Option Addr) (cdv ct:Value) (us:List Value),us.length=ps.length->bindArgs (PySem.W.fnOf x qual (iJ st) (yZ st) (dQ st) .none kV doc pm an cdv ct) ⟨us,[]⟩=pure (ps.zip us)):Binds K fd ps []:=by
 obtain⟨oc,od,kV,doc,pm,an,cdv,ct,osl,rfl,lk,hcd⟩:=F.ex;exact .all (h kV doc pm an cdv ct)
theorem iP {x qual:Str}{st:Stmt}{f:Addr}{oc:Value}{od an:Option Addr}{osl:Array (Option Value)}{kV doc pm cdv ct:Value}(l:K.lookup f=some ⟨oc,od,.func (PySem.W.fnOf x qual (iJ st) (yZ st) (dQ st) .none kV doc pm an cdv ct),osl⟩)
  (c:PySem.W.codeIn K cdv qual=true) (k:PySem.W.keepIn K (.ref f)=true):Fun K x qual st f (PySem.W.fnOf x qual (iJ st) (yZ st) (dQ st) .none kV doc pm an cdv ct):=⟨⟨oc,od,kV,doc,pm,an,cdv,ct,osl,rfl,l,c⟩,k⟩
end
theorem aM {A:Around}{k:Nat}(hr:Room k A):A.units+1 < cLine:=A9 (Nat.add_le_add_left (by decide:1<=64) _) hr.units
section
variable {X:Cx}
theorem pv (i:Nat){x:Str}{pos:Pos}(hN:X.N[i]?=some x:=by rfl)(hv:Vis X.env.scope x:=by first | exact Or.inl rfl | exact Or.inr (Or.inl rfl) | exact Or.inr (Or.inr rfl))(hd:(x==("__debug__" : Str))=false:=by decide)
  (hcd:(x==("__classdict__" : Str))=false:=by decide):PE X (.Name x pos) (qA i):=nQ hN hv hd hcd
end
def Same (H H':Hp):Prop:=∀b o,H b=some o->H' b=some o
theorem Same.refl (H:Hp):Same H H:=fun _ _ h=>h
section
variable {X:Cx}
theorem Qa:CallR X (.builtin "len") (fun xs H Q=>∃a kvs,xs=[V.ref a]/\H a=some (.dK kvs)/\Q (.int kvs.length) H):=by
 intro pins s σ H xs us Q I r h;obtain⟨a,kvs,rfl,ha,q⟩:=h;obtain⟨u,rfl,ru⟩:=iY r;cases ru;exact d_len I (.inl ha) fun t s' I'=>⟨.int kvs.length,H,I',⟨t,rfl⟩,q⟩
end
def noStar:Expr->Bool
 |.Starred _ _=>false
 |_=>true
theorem vX    (h:noStar e=true):starEach (e::es) env=(false,eval e env)::starEach es env:=by
 cases e<;>first | rfl | exact absurd h AE
theorem hV   : ∀{es},es.all noStar=true->(backTo pos (starEach es env)).any (·.1)=false
 |[],_=>rfl
 |e::es,h=>by
  rw[List.all_cons,A1] at h;rw[vX h.1];show(false || (backTo pos (starEach es env)).any (·.1))=false;rw[hV h.2]
  rfl
section
variable {X:Cx}{e:Expr}{es:List Expr}{te:TE}{t:TA}{x:Str}{p pos:Pos}
theorem wX (ha:PE X e te)(hr:PA X es t)(hs:noStar e=true:=by rfl):PA X (e::es) (bD te t):=yX ha hr (vX hs)
theorem qe_call          (F:eX X.prog X.w X.K X.mg X.base CX k f fd ps sp)(hr:Room k X.A)(hg:Gl X x)(hm:X.mg x=some (.ref f))(hk:PySem.W.keepIn X.K (.ref f)=true)(hb:Binds X.K fd ps ds)(hd:Vals dvs ds)(hx:mZ CX X E)
  (ha:PA X (e::es) t) (hdb:(x==("__debug__" : Str))=false:=by decide) (hs:noStar e=true:=by rfl) (hall:es.all noStar=true:=by rfl):PE X (.Call (.Name x p) (e::es) [] pos) (cN sp dvs E t) :=
 uP F hr hg hm hk hb hd hx ha hdb (vX hs) (hV hall)
theorem QW {id}  (hc:CallR X (.builtin id) r)(hg:Gl X x)(hm:X.mg x=none)(hv:bootBuiltins x=some (.builtin id))(ha:PA X (e::es) t)(hn:x ≠ "__name__":=by decide)(hdb:(x==("__debug__" : Str))=false:=by decide)
  (hs:noStar e=true:=by rfl) (hall:es.all noStar=true:=by rfl):PE X (.Call (.Name x p) (e::es) [] pos) (tCB r t):=xJ hc hg hm hv ha hn hdb (vX hs) (hV hall)
theorem kA   (hc:CallR X (.type T) r)(hg:Gl X x)(hm:X.mg x=none)(hv:bootBuiltins x=some (.type T))(ha:PA X (e::es) t)(hn:x ≠ "__name__":=by decide)(hdb:(x==("__debug__" : Str))=false:=by decide)
  (hs:noStar e=true:=by rfl) (hall:es.all noStar=true:=by rfl):PE X (.Call (.Name x p) (e::es) [] pos) (tCB r t):=cA hc hg hm hv ha hn hdb (vX hs) (hV hall)
end
section
variable {prog:Program}{w:World}{A:Around}{R:Result->Shared->Prop}{s:Shared}
theorem wH       (I:Nat->Shared->Prop)
  (turn:∀n s,I n s->wpAny (model prog w) A (pyNext it) (fun r s₁=>match r with
   |none=>R (.ok .next) s₁
   |some v=>wpAny (model prog w) A (letOwnedTupleGo target it v) (fun _ s₁=>wpAny (model prog w) A (assign target env v) (fun _ s₂ =>
     wpAny (model prog w) A (forIn ifs true fun c r=>if r=true then do let ok <- isTrue c env (eval c env); pure (ForInStep.yield ok) else pure (ForInStep.yield r)) (fun ok s₃ =>
      if ok=true then wpAny (model prog w) A (eval elt env) (fun x s₄ =>
       wpAny (model prog w) A (call (.builtin "list.append") [acc,x]) (fun _ s₅=>∃m,m < n/\I m s₅) (fun _ _=>False) s₄) (fun _ _=>False) s₃
      else ∃m,m < n/\I m s₃) (fun _ _=>False) s₂) (fun _ _=>False) s₁) (fun _ _=>False) s₁) (fun _ _=>False) s)
  n (h:I n s) :
  codeAny (model prog w) A (.compLoop (.ListComp elt [⟨target,iter,ifs,0⟩] scope pos) 0 it acc env) R s:=by
 refine codeAny_loop rfl I (fun n s hI=>wpAny_noted (AA (BV (AA (Aj (turn n s hI) (fun r s₁ h₁=>?_) fun _ _ h'=>False.elim h'))))) n h
 cases r with
 |none=>exact AB h₁
 |some v =>
  refine AA (Aj h₁ (fun _ s₁' h₁'=>AA (Aj h₁' (fun _ s₂ h₂=>AA (Aj h₂ (fun ok s₃ h₃=>?_) fun _ _ h'=>False.elim h')) fun _ _ h'=>False.elim h')) fun _ _ h'=>False.elim h')
  cases ok with
  |false=>exact AB ⟨rfl,h₃⟩
  |true =>
   exact AA (AA (Aj h₃ (fun x s₄ h₄=>AA (Aj h₄ (fun _ s₅ h₅=>AB (AB ⟨rfl,h₅⟩)) fun _ _ h'=>False.elim h')) fun _ _ h'=>False.elim h'))
end
theorem sZ {env:Env}:∀{names:List (Str×NameKind)}{y:Str}{k:NameKind},
  (names.map fun(n,k)=>if (k==NameKind.free&&env.scope.kind==.function&&env.kindOf n==some .cell) then (n,NameKind.cell) else (n,k)).lookup y=some k ->
   ∃k0,(y,k0)∈names/\(k=k0\/(k0=.free/\k=.cell))
 |[],_,_,h=>by simp at h
 | (n,k1)::r,y,k,h=>by
  cases hx:y==n with
  |true =>
   by_cases hc:(k1==NameKind.free&&env.scope.kind==.function&&env.kindOf y==some .cell)=true
   .grind
   .grind
  |false =>
   have h2:(r.map fun(n,k)=>if (k==NameKind.free&&env.scope.kind==.function&&env.kindOf n==some .cell) then (n,NameKind.cell) else (n,k)).lookup y=some k :=by grind
   exact wJ ((@sZ env r y k) h2) fun k0 m q=>⟨k0,AJ _ m,q⟩
def PIfs (X:Cx)(ifs:List Expr)(t:TT):Prop :=
 ∀(pins:List (Addr×Obj)) (s:Shared) (σ:St) (H:Hp) (Q:Bool->Hp->Prop),Inv X pins σ H s->t σ H Q ->
  wpAny (model X.prog X.w) X.A (forIn ifs true fun c r=>if r=true then do let ok <- isTrue c X.env (eval c X.env); pure (ForInStep.yield ok) else pure (ForInStep.yield r)) (TP X pins σ Q) X.xe s
def tYes:TT:=fun _ H Q=>Q true H
theorem Q0  : PIfs X [] tYes:=fun _ _ _ H _ I h=>wpAny_tests_nil ⟨H,I,h⟩
def cxN (X:Cx)(xs:List Str)(scope:Scope)(cl:List (Str×Addr))(fp:List Addr)(C:Addr)(s₂:Shared)(H₂:Hp):Cx where
 prog:=X.prog
 w:=X.w
 K:=X.K
 mg:=X.mg
 base:=X.base
 A:=X.A
 N:=xs++X.N
 s₀:=s₂
 H₀:=H₂
 env:=compEnvC scope cl C X.env
 outer:=X.stack
 stack:=X.stack
 ex:=fp
 fn:=fun _=>false
 calm:=X.calm
 pn:=[]
 xe:=fun _ _=>False
abbrev xK X x:=cxN X [x]
def rT (wi:TI)(tc:TT)(te:TE):TE:=fun σ H Q=>wi σ H fun J H1=>∀D,H1 D=none->∃W:Nat->Nat->List V->Hp->Prop,(∃m,W 0 m [] (upd H1 D (.lst [])))/\∀i m ys H,W i m ys H ->
 (J.stop i H/\Q (.ref D) H)\/(J.go i H/\∀x H',J.yld i H x H'->tc (some x::σ) H' fun b H2 =>
  if b=true then te (some x::σ) H2 fun y H3=>H3 D=some (.lst ys)/\ys.length < sizeLine/\∃m',m' < m/\W (i+1) m' (ys++[y]) (upd H3 D (.lst (ys++[y])))
  else ∃m',m' < m/\W (i+1) m' ys H2)
section
variable {X:Cx}
structure rB (X:Cx)(xs:List Str)(scope:Scope)(cl:List (Str×Addr)):Prop where
 clos:closureFor scope X.env=pure cl
 cell:∀y∈scope.names,y.2≠.cell
 kind:scope.kind=.function
 names:∀y∈scope.names,y.2=.local->scope.names.lookup y.1=some .local
 hx:∀x∈xs,scope.names.lookup x=some .local
 loc:∀y∈scope.names,y.2=.local->y.1∉X.N
 free:∀y∈scope.names,y.2=.free->X.env.kindOf y.1≠some .local/\(X.env.kindOf y.1=some .cell\/X.env.kindOf y.1=some .free)/\∃c,cl.lookup y.1=some c
 cl:∀y c,cl.lookup y=some c->X.env.cells.lookup y=some c
abbrev sF X x:=rB X [x]
theorem uR        {te:TE}{g:TG}{Tk:V->Hp->List V->Prop}{RR:Value->Addr->Result->Shared->Prop}{EE:Value->Shared->Prop}
  (hc:X.calm=true) (K:rB X xs scope cl) (hg:∀fp C s₂ H₂,PG (cxN X xs scope cl fp C s₂ H₂) tg g)
  (ht:∀fp C s₂ H₂,PIfs (cxN X xs scope cl fp C s₂ H₂) ifs tc) (he:∀fp C s₂ H₂,PE (cxN X xs scope cl fp C s₂ H₂) elt te)
  {pins:List (Addr×Obj)} {σ:St} {s₂:Shared} {H₂:Hp} {it:Addr} {fp:List Addr} {tn:Nat->Heap->Prop} {J:It} {Q:VK}
  (hG:∀ws vs x H Q,ws.length=xs.length->Tk x H vs->vs.length=xs.length->Q (vs.map some++σ) H->g x (ws++σ) H Q) (I₂:Inv X pins σ H₂ s₂) (T:dR X.prog X.w X.K tg J fp it tn) (st₂:tn 0 s₂.heap) (f₂:∀b∈fp,nH X pins H₂ b)
  (R:∀D,H₂ D=none->∃W:Nat->Nat->List V->Hp->Prop,(∃m,W 0 m [] (upd H₂ D (.lst [])))/\∀i m ys H,W i m ys H ->
   (J.stop i H/\Q (.ref D) H)\/(J.go i H/\∀x H',J.yld i H x H'->∃vs,Tk x H' vs/\vs.length=xs.length/\tc (vs.map some++σ) H' fun b H2 =>
    if b=true then te (vs.map some++σ) H2 fun y H3=>H3 D=some (.lst ys)/\ys.length < sizeLine/\∃m',m' < m/\W (i+1) m' (ys++[y]) (upd H3 D (.lst (ys++[y])))
    else ∃m',m' < m/\W (i+1) m' ys H2))
  (hRR:∀(D C:Addr) (H:Hp) (s4:Shared) (m:Str->Option Value),s4.heap.Ns C m->C≠X.env.locals->H C=none->(∀x c,X.env.cells.lookup x=some c->c≠C)->s₂.heap.objs.size<=C->Inv X pins σ H s4 ->
   Q (.ref D) H->RR (.ref D) C (.ok .next) s4) :
  wpAny (model X.prog X.w) X.A (newList []) (fun acc s₃=>wpAny (model X.prog X.w) X.A (newFunctionEnv scope X.env.globals cl [] X.env.qual none .none (some X.env)) (fun cenv s₄ =>
   codeAny (model X.prog X.w) X.A (.compStart (.ListComp elt [⟨tg,iter,ifs,0⟩] scope pos) 0 (.ref it) acc { cenv with scope:=relabel scope X.env }) (RR acc cenv.locals) s₄) EE s₃) EE s₂:=by
 refine wpAny_newObj_type (wpAny_newFunctionEnv K.cell (by intro y hy; simp at hy) (fun h₁ hns₁ hsb₁=>?_) K.kind);dsimp only at hns₁ hsb₁ ⊢;generalize hH2:s₂.heap.push { cls:=.type "list",dict:=none,data:=.seq ([]:List Value).toArray }=H2 at hns₁ hsb₁ ⊢;have hC:H2.objs.size=s₂.heap.objs.size+1:=by rw[<- hH2,Bg]
 have hDC:s₂.heap.objs.size≠H2.objs.size :=hC▸AM (By _);have below:∀b,b < s₂.heap.objs.size->b≠H2.objs.size/\b≠s₂.heap.objs.size:=fun b hb=>⟨by exact hC▸AM (Nat.lt_succ_of_lt hb),AM hb⟩;have old:∀b o,s₂.heap.get? b=some o->h₁.get? b=some o:=fun b o e=>hsb₁.extBut b o (below b (AF e)).1 (AC _ (hH2▸AC _ e));have fD:=I₂.hok.fresh (AI _)
 have fC:H₂ H2.objs.size=none:=I₂.hok.fresh (hC▸BN _);have fpLt:∀b∈fp,b < s₂.heap.objs.size:=fun b hb=>let ⟨o,e,_⟩:=T.obj _ _ st₂ b hb; AF e
 obtain⟨W,⟨m0,w0⟩,turn⟩:=R s₂.heap.objs.size fD
 have okX:(cxN X xs scope cl fp H2.objs.size s₂ H₂).Ok:=by
  refine⟨I₂.ok.mod,K.kind,I₂.ok.glob,I₂.ok.blt,?_,fun y z c h1 h2=>I₂.ok.inj y z c (K.cl y c h1) (K.cl z c h2),fun y hy=>?_,fun y c h _=>?_,I₂.ok.hd,I₂.ok.frames,.inl rfl,fun b hb=>⟨(below b (fpLt b hb)).1,fun y c h=>(f₂ b hb).2.2.2.2.1 y c (K.cl y c h)⟩,I₂.bs,
   AO I₂.ok.bsz I₂.sz,fun b o e hb=>?_,fun b hb z=>?_,I₂.stack,I₂.stkFree⟩
  .exact hC▸BN _
  .have fr:(y,NameKind.free)∈scope.names:=by
    rcases hy with q | q
    .obtain ⟨k0,hm,z | ⟨z,_⟩⟩:=sZ q
     .subst z; exact absurd rfl (K.cell _ hm)
     .subst z; exact hm
    .obtain ⟨k0,hm,z | ⟨z,w⟩⟩:=sZ q
     .subst z; exact hm
     .cases w
   exact(K.free _ fr rfl).2.2
  .exact absurd h AE
  .refine el05 (f₂ b hb) fun _ _ _ f3 _=>?_
   rcases f3 with z | z
   .exact I₂.ok.noex b o e z
   .exact absurd (AD (AF (I₂.ok.bs b o e).1) z) (BF _)
  .refine el04 (f₂ b hb) fun _ f1 f2' _=>?_
   rcases Ag.mp (I₂.stkSub b z) with q | q
   .exact f1 q
   .exact f2' q
 have hDne:∀b,H₂ b≠none->b≠s₂.heap.objs.size:=fun b hb z=>hb (z▸fD);have ldD:HOk X.prog X.w (upd H₂ s₂.heap.objs.size (.lst [])) h₁:=I₂.hok.laid old (AI _) ⟨Aa _,[],_,.nil,(hsb₁.extBut _ _ hDC (AC _ (hH2▸AQ _ rfl)))⟩
 have visFree:∀y,Vis (relabel scope X.env) y->y∈X.N->(y,NameKind.free)∈scope.names/\((relabel scope X.env).names.lookup y=some .cell\/(relabel scope X.env).names.lookup y=some .free):=by
  intro y hv hne
  rcases hv with q | q | q
  .obtain ⟨k0,hm,z | ⟨z,w⟩⟩:=sZ q
   .subst z; exact absurd hne (K.loc _ hm rfl)
   .cases w
  .obtain ⟨k0,hm,z | ⟨z,w⟩⟩:=sZ q
   .subst z; exact absurd rfl (K.cell _ hm)
   .subst z; exact⟨hm,.inl q⟩
  .obtain ⟨k0,hm,z | ⟨z,w⟩⟩:=sZ q
   .subst z; exact⟨hm,.inr q⟩
   .cases w
 have I':∀tk,Inv (cxN X xs scope cl fp H2.objs.size s₂ H₂) [] (List.replicate xs.length none++σ) (upd H₂ s₂.heap.objs.size (.lst [])) { s₂ with heap:=h₁,toks:=tk }:=by
  intro tk;refine⟨okX,rfl,I₂.bare,Un.laid old (AI _) fD,⟨_,hns₁,fun i y v h1 h2 h3=>?_⟩,fun y c h=>?_,?_,fun y c h=>?_,fun p hp=>absurd hp (by simp[cxN]),ldD,?_⟩
  .rcases Nat.lt_or_ge i xs.length with hi | hi
   .rw [List.getElem?_append_left (by rwa [Ap]),List.getElem?_replicate,AV hi] at h2
    cases h2
   .have h1':X.N[i - xs.length]?=some y:=by
     have h1:(xs++X.N)[i]?=some y:=h1
     rwa [Bu hi] at h1
    have h2':σ[i - xs.length]?=some (some v):=by
     rw[Bu (by rwa [Ap]),Ap] at h2; exact h2
    obtain⟨fm,kk⟩:=visFree y h3 (Ak h1');obtain⟨nl,vz,c,hcl⟩:=K.free _ fm rfl;refine wJ I₂.loc fun mm hn hl=>wJ (hl (i - xs.length) y v h1' h2' (vz.elim (fun z=>.inr (.inl z)) fun z=>.inr (.inr z))) fun u ru l=>?_
    rcases l with ⟨z,_⟩ | ⟨_,c',hc',hcell⟩
    .exact absurd z nl
    .have ec:=Ae (hc'.symm.trans (K.cl _ _ hcl))
     subst ec;obtain⟨o,ho,hd⟩:=hcell;exact⟨u,ru,.inr ⟨kk,c',hcl,o,old _ _ ho,hd⟩⟩
  .obtain ⟨v,o,ho,hd⟩:=I₂.cell y c (K.cl y c h)
   exact⟨v,o,old _ _ ho,hd⟩
  .show upd H₂ _ _ H2.objs.size=none
   rwa [wQ (Ne.symm hDC)]
  .obtain ⟨v,o,ho,hd⟩:=I₂.cell y c (K.cl y c h)
   exact(wQ (below c (AF ho)).2)▸I₂.freeC y c (K.cl y c h)
  .show (List.replicate xs.length none++σ).length=(xs++X.N).length
   rw[Al,Al,Ap,I₂.len]
 have stat:∀{H':Hp},(∀b∈fp,H' b=none)->∀b∈fp,nH (cxN X xs scope cl fp H2.objs.size s₂ H₂) [] H' b:=fun hn b hb =>
  ⟨hn b hb,(okX.exf b hb).1,okX.exfs b hb,.inl hb,(okX.exf b hb).2,fun p hp=>absurd hp (by simp[cxN])⟩
 have tn₁:=T.keep _ _ _ st₂ fun b _ o e=>old b o e;have fp₁:∀b∈fp,upd H₂ s₂.heap.objs.size (.lst []) b=none:=fun b hb =>(wQ (below b (fpLt b hb)).2)▸(f₂ b hb).1
 have loop:∀s₃:Shared,(∃tk,s₃={ s₂ with heap:=h₁,toks:=tk }) ->
   codeAny (model X.prog X.w) X.A (.compLoop (.ListComp elt [⟨tg,iter,ifs,0⟩] scope pos) 0 (.ref it) (.ref s₂.heap.objs.size) (compEnvC scope cl H2.objs.size X.env))
    (RR (.ref s₂.heap.objs.size) H2.objs.size) s₃:=by
  rintro s₃ ⟨tk,rfl⟩
  refine wH (fun n s'=>∃i ys H' v0,v0.length=xs.length/\Inv (cxN X xs scope cl fp H2.objs.size s₂ H₂) [] (v0++σ) H' s'/\tn i s'.heap/\(∀b∈fp,H' b=none)/\W i n ys H') ?_ m0
   ⟨0,[],_,List.replicate xs.length none,Ap,I' tk,tn₁,fp₁,w0⟩
  rintro n s3 ⟨i,ys,H3,v0,l0,I3,st3,fr3,w3⟩
  rcases turn i n ys H3 w3 with ⟨stop,qn⟩ | ⟨go,step⟩
  .refine thn (T.done (cxN X xs scope cl fp H2.objs.size s₂ H₂) rfl rfl rfl hc i [] s3 (v0++σ) H3 (fun _ _=>False) I3 (stat fr3) st3 stop) fun r s4 zz=>nI zz fun hr I4=> ?_
   subst hr;show RR _ _ (.ok .next) s4;refine wJ I4.loc fun m hn _=>?_;have os4:=I4.os;refine hRR _ _ H3 s4 m hn ?_ I4.free (fun y c h z=>?_) (hC▸BN _) ?_ qn
   .exact Ne.symm (below _ I₂.lt).1
   .exact el22 (I₂.cell y c h) fun v o ho hd=>(below c (AF ho)).1 z
   .obtain ⟨hh,g,d,t,os'⟩:=s4
    obtain rfl:os'=s₂.os:=os4;exact I₂.call (h':=hh) (g':=g) (d':=d) (t':=t) I4.base I4.hok I4.bare fun b hb=>⟨(f₂ b hb).2.2.2.1,(f₂ b hb).2.1,(f₂ b hb).2.2.2.2.1,(f₂ b hb).2.2.2.2.2⟩
  .refine thn (T.item (cxN X xs scope cl fp H2.objs.size s₂ H₂) rfl rfl rfl hc i [] s3 (v0++σ) H3 (fun _ _=>False) I3 (stat fr3) st3 go) fun r s4 zz=>wJ zz fun u hr h4=> ?_
   subst hr;refine thn h4 fun _ s5 zz=>el25 zz fun x5 H5 I5 r5 y5 st5 fr5=> ?_
   have again:∀{H':Hp} {s':Shared} {τ:St},Inv (cxN X xs scope cl fp H2.objs.size s₂ H₂) ([]++yM fp s5.heap) τ H' s'->tn (i+1) s'.heap/\∀b∈fp,H' b=none:=fun I7 =>
    ⟨T.keep _ _ _ st5 fun b hb o e=>(I7.pin (b,o) (Ac _ (Ac _ (jV hb e)))).1,fun b hb =>wJ (T.obj _ _ st5 b hb) fun o e d=>(I7.pin (b,o) (Ac _ (Ac _ (jV hb e)))).2.1⟩
   refine lI (step x5 H5 y5) fun vs5 sq5 l5 q5=>thn (hg fp _ s₂ H₂ _ s5 (v0++σ) H5 x5 u (fun σ' H'=>σ'=vs5.map some++σ/\H'=H5) (I5.pinned (stat fr5) (T.obj _ _ st5)) r5 (hG v0 vs5 x5 H5 _ l0 sq5 l5 ⟨rfl,rfl⟩)) fun _ s6 zz=>XU zz fun σ6 H6 I6 e6 e6'=> ?_;subst e6 e6';have l6:(vs5.map some).length=xs.length:=by rwa [AL]
   refine thn (ht fp _ s₂ H₂ _ s6 (vs5.map some++σ) H6 _ I6 q5) fun ok s7 zz=>wJ zz fun H7 I7 q7=> ?_
   cases ok with
   |false =>
    rw[AR AE] at q7;rw[AR AE];refine wJ q7 fun m' hm w7=>?_;obtain⟨k1,k2⟩:=again I7;exact⟨m',hm,i+1,ys,H7,vs5.map some,l6,I7.unpinned,k1,k2,w7⟩
   |true =>
    rw[AV rfl] at q7;rw[AV rfl];refine thn (he fp _ s₂ H₂ _ s7 (vs5.map some++σ) H7 _ I7 q7) fun y s8 ⟨y8,H8,I8,r8,hD8,hl8,m',hm,w8⟩=>thn (xU _ s8 _ H8 (.ref s₂.heap.objs.size) [y8] (.ref s₂.heap.objs.size) [y] (fun _ H9=>H9=upd H8 s₂.heap.objs.size (.lst (ys++[y8]))) I8 rfl (.cons r8 .nil) ⟨_,ys,y8,rfl,rfl,hD8,hl8,rfl⟩) fun _ s9 zz=>XU zz fun _ H9 I9 _ e9=> ?_;subst e9;obtain⟨k1,k2⟩:=again I9
    exact⟨m',hm,i+1,ys++[y8],_,vs5.map some,l6,I9.unpinned,k1,k2,w8⟩
 exact codeAny_compStart_list (loop _ ⟨_,rfl⟩) (T.self _ 0 _ _ _ tn₁ (loop _ ⟨_,rfl⟩))
theorem pe_comp {elt iter:Expr}{x:Str}{px pos:Pos}{ifs:List Expr}{scope:Scope}{cl:List (Str×Addr)}{wi:TI}{tc:TT}{te:TE}
  (hc:X.calm=true) (hN:(x::X.N).Nodup) (K:sF X x scope cl) (hi:PI X (.Name x px) iter wi)
  (ht:∀fp C s₂ H₂,PIfs (xK X x scope cl fp C s₂ H₂) ifs tc) (he:∀fp C s₂ H₂,PE (xK X x scope cl fp C s₂ H₂) elt te)
  (hs:∀v,foldedSetIterable iter X.env v=pure v:=by intro _; rfl):PE X (.ListComp elt [⟨.Name x px,iter,ifs,0⟩] scope pos) (rT wi tc te):=by
 intro pins s σ H Q I h;rw[eval_ListComp];refine wpAny_comprehension_free (use:=none) rfl hs K.clos K.kind K.names (thn (hi pins s σ H _ I h) fun xv s₁ h₁=>thn h₁ fun itv s₂ h₂=>?_);obtain⟨it,fp,tn,J,H₂,e,I₂,T,st₂,f₂,R⟩:=h₂;subst e;refine uR (g:=gV 0) (Tk:=fun x _ vs=>vs=[x]) hc K (fun _ _ _ _=>wB (i:=0) (x:=x) hN rfl (.inl (lookup_relabel_local (K.hx x (.head _)))) (.inr (lookup_relabel_local (K.hx x (.head _))))) ht he (by rintro ws vs y H Q l rfl _ q; match ws,l with | [_],_=>exact q) I₂ T st₂ f₂ (fun D hD=>let ⟨W,w0,tu⟩:=R D hD; ⟨W,w0,fun i m ys H w=>(tu i m ys H w).imp id fun zz=>nI zz fun g st=> ⟨g,fun x H' y=>⟨[x],rfl,rfl,st x H' y⟩⟩⟩) ?_
 intro D C H s4 m hn hCL hC0 hCc hCsz I4 q;refine⟨m,hn,fun h' hsb=>⟨.ref D,H,?_,rfl,q⟩⟩;refine I4.turned (it:=C) (t':=s4.toks) (fun b o hb e=>(hsb.2 b hb).trans e) hC0 hCL (.inr (AO I₂.sz hCsz)) hCc fun p hp z=>?_;exact absurd (AD (AF (I₂.pin p hp).1) (by rw[z]; exact hCsz)) (BF _)
end
def Its (x:Str):It:=⟨fun i _=>i < x.cps.size,fun i H v H'=>H'=H/\∃c,x.cps[i]?=some c/\v=.str ⟨#[c]⟩,fun i _=>x.cps.size<=i⟩
theorem wD     (hty:ty = "str_ascii_iterator"\/ty = "str_iterator")(hh:A.handled=none) it x t :
  Walks P w A it [it] [it] x.cps.size (SignAt x) (fun i h=>h.IsStrIter it ty x t i):=by
 rcases hty with rfl | rfl
 .exact Walks.strAscii hh it x t
 .exact Walks.strWide hh it x t
theorem QM   {K}   (hty:ty = "str_ascii_iterator"\/ty = "str_iterator") x t it :
  dR P w K tg (Its x) [it] it (fun i h=>h.IsStrIter it ty x t i/\i<=x.cps.size) where
 mem:=by simp
 obj:=fun i h st b hb=>by
  have e:b=it :=by grind
  subst e;obtain⟨⟨o,e,c,d⟩,_⟩:=st;exact⟨o,e,fun v z=>by rw[d] at z; cases z⟩
 keep:=fun i h h' st k=>⟨let ⟨o,ho,r⟩:=st.1; ⟨o,k it (by simp) o ho,r⟩,st.2⟩
 item:=by
  intro X hP hw hK hc i pins s σ H E I hf st hg;refine el06 (hf it (by simp)) fun f0 f1 f2 f3 f4 f5=>?_;refine(wD hty (I.ok.hd hc) it x t).item i s _ _ hg st.1 fun v h' tk hv st' kk=>?_;obtain⟨c,u,hx,rfl⟩:=hv;have I1:Inv X pins σ H { s with heap:=h',toks:=tk }:=I.turned (fun b o hb e=>kk b o (by simp_all) e) f0 f1 f3 f4 f5;exact lI (id st') fun o e cc d=>⟨_,rfl,eC e cc d (by rcases hty with rfl | rfl<;>decide) ⟨.str ⟨#[c]⟩,H,I1,⟨u,rfl⟩,⟨rfl,c,hx,rfl⟩,⟨st',hg⟩,fun b hb=>(hf b hb).1⟩⟩
 done:=by
  intro X hP hw hK hc i pins s σ H E I hf st hg;refine el06 (hf it (by simp)) fun f0 f1 f2 f3 f4 f5=>?_;refine(wD hty (I.ok.hd hc) it x t).done s _ _ ((Nat.le_antisymm st.2 hg)▸st.1) fun h' tk kk=>⟨rfl,I.turned (fun b o hb e=>kk b o (by simpa using hb) e) f0 f1 f3 f4 f5⟩
 self:=fun A i s Q E st h=>by
  rcases hty with rfl | rfl
  .exact wpAny_pyIter_striter_ascii st.1 h
  .exact wpAny_pyIter_striter_wide st.1 h
def iStr (tl:TE):TI:=fun σ H R=>tl σ H fun x H1=>∃z,x=.str z/\R (Its z) H1
section
variable {X:Cx}{tg:Expr}
theorem pi_str   (hl:PE X l tl):PI X tg l (iStr tl):=by
 intro pins s σ H R I h;refine thn (hl pins s σ H _ I h) fun v s1 zz=>XU zz fun x H1 I1 r1 q1=> ?_;obtain⟨z,rfl,q⟩:=q1;obtain⟨t,rfl⟩:=r1
 have fin:∀ty o,(ty = "str_ascii_iterator"\/ty = "str_iterator")->(s1.heap.push o).IsStrIter s1.heap.objs.size ty z t 0->PIE X pins σ tg R (.ref s1.heap.objs.size) { s1 with heap:=s1.heap.push o }:=fun ty o hty st=>by
  refine⟨s1.heap.objs.size,[s1.heap.objs.size],_,_,H1,rfl,I1.kept (t':=s1.toks) fun b o e=>AC _ e,QM hty z t _,⟨st,Aa _⟩,fun b hb=>?_,q⟩;have e:b=s1.heap.objs.size :=by grind
  subst e;exact I1.fpOk (AI _) (I1.hok.fresh (AI _))
 cases ha:z.cps.all (· < 128)
 .exact wpAny_pyIter_wide ha (fin _ _ (.inr rfl) ⟨_,AQ _ rfl,rfl,rfl⟩)
 .exact wpAny_pyIter_ascii ha (fin _ _ (.inl rfl) ⟨_,AQ _ rfl,rfl,rfl⟩)
end
theorem Qh (ys:List Bool):((List.range ys.length).all fun i=>(ys[i]?).getD false)=ys.all id:=by
 rw[BZ,BQ,BQ]
 constructor
 .intro h b hb
  obtain⟨i,hi⟩:=CD.mp hb;have hl:=(AX.mp hi).1;have:=h i (Bt.mpr hl)
  rwa [hi] at this
 .intro h i hi
  have hl:=Bt.mp hi;exact(AN hl)▸h _ (List.getElem_mem hl)
section
variable {X:Cx}
theorem uW (hc:X.calm=true):CallR X (.builtin "all") (fun xs H Q=>∃p ys,xs=[.ref p]/\SqL X.K H p (List.map V.bl ys)/\Q (.bl (ys.all id)) H):=by
 intro pins s σ H xs us Q I r h;obtain⟨p,ys,rfl,hq,q⟩:=h;obtain⟨u,rfl,rfl⟩:=iY r;obtain⟨its,rv,pl,hz⟩:=(I.list hq);have hlen:its.length=ys.length:=by rw[<- rv.length,AL]
 refine el22 (id pl) fun o n ho _=>call_all_walk (wpAny_pyIter_list pl.isList ⟨s.heap.objs.size,_,_,_,_,_,fun i=>(ys[i]?).getD false,rfl,Walks.list (A:=X.A.in1) (I.ok.hd hc) s.heap.objs.size p (AM (AF ho)) its.toArray,⟨⟨_,AQ _ rfl,rfl,rfl⟩,pl.isList.push _⟩,fun i v s' Q' E' hP hQ=>?_,fun h' tk kk=>?_⟩)
 .have hv:its[i]?=some v :=by simp_all
  have hi :=hlen▸(AX.mp hv).1;have hy:(List.map V.bl ys)[i]?=some (.bl ys[i]):=by rw[Ah,AN hi]; rfl
  obtain⟨u,hu,ru⟩:=(rv.get hy);rw[hv] at hu;cases hu;cases ru;have hQ:Q' ((ys[i]?).getD false) s':=hQ;rw[AN hi] at hQ;exact Af hQ
 .have I1:Inv X pins σ H { s with heap:=h',toks:=tk }:=I.kept fun b o e=>kk b o (by intro z; exact absurd (AF e) ((List.mem_singleton.mp z)▸BF _)) (AC _ e)
  have e:((List.range its.toArray.size).all fun i=>(ys[i]?).getD false)=ys.all id:=by rw[AK,hlen,Qh]
  exact e▸⟨.bl (ys.all id),H,I1,rfl,q⟩
inductive Ty where
 |non | bl | int | str | lst | tup | dct
 deriving DecidableEq
def cV:Ty->String
 |.non=>"NoneType" | .bl=>"bool" | .int=>"int" | .str=>"str" | .lst=>"list" | .tup=>"tuple" | .dct=>"dict"
def tyH:HO->Option Ty
 |.lst _=>some .lst
 |.frz _ (.lst _)=>some .lst
 |.tup _=>some .tup
 |.dK _=>some .dct
 |.dT _=>some .dct
 |_=>none
def tyN (H:Hp):V->Option Ty
 |.non=>some .non
 |.bl _=>some .bl
 |.int _=>some .int
 |.str _=>some .str
 |.ref a=>(H a).bind tyH
 |_=>none
theorem tyOf_of {K}    (h:tyN H x=some n):fU K H x (.type (cV n)):=by
 cases x with
 |non=>cases h; exact .non
 |bl b=>cases h; exact .bl b
 |int i=>cases h; exact .int i
 |str z=>cases h; exact .str z
 |ref a =>
  have h:(H a).bind tyH=some n:=h
  cases e:H a with
  |none=>rw[e] at h; cases h
  |some o =>
   rw[e] at h
   cases o with
   |lst xs=>cases h; exact .lst e
   |tup xs=>cases h; exact .tup e
   |dK kvs=>cases h; exact .dK e
   |dT kvs=>cases h; exact .dT e
   |frz ob u =>
    cases u with
    |lst xs=>cases h; exact .frz e
    |_=>cases h
   |_=>cases h
 |byt b=>cases h
 |flt b=>cases h
 |ty n=>cases h
def rC:Ty->Ty->Bool
 |.bl,.int=>true
 |a,b=>decide (a=b)
theorem kit_all K n T:PySem.W.kitOne K (.type (cV n)) (.type (cV T))=some (rC n T):=by
 cases n<;>cases T<;>with_unfolding_all rfl
theorem dX:CallR X (.builtin "isinstance") (fun xs H Q=>∃x T n,xs=[x,.ty (cV T)]/\tyN H x=some n/\Q (.bl (rC n T)) H):=by
 intro pins s σ H xs us Q I r h;obtain⟨x,T,n,rfl,hn,q⟩:=h;obtain⟨u,w',rfl,rx,rfl⟩:=vals2 r;exact uI I rx (tyOf_of hn) (kit_all X.K n T) fun tk=>⟨.bl (rC n T),H,I.tok tk,rfl,q⟩
theorem kC:OpR X (binaryOp .FloorDiv) (rI (fun _ j=>0 < j/\j < 18446744073709551616) fun i j=>.int (i / j)):=opI fun i j _ _ _ _ _ hc q=>by
 refine floordiv_int (by lia) (by grind) (.inl (PyProof.noPylong_of_log2 ?_));have h3:j.natAbs < 2 ^ 64 :=by lia
 exact AD ((Nat.log2_lt (by omega)).mpr h3) (by decide)
end
structure JE (X:Cx)(e:Expr)(t:TE):Prop where
 h:PE X e t
structure JT (X:Cx)(e:Expr)(t:TT):Prop where
 h:PT X e t
structure JW (X:Cx)(e:Expr)(t:TT):Prop where
 h:PW X e t
structure JA (X:Cx)(es:List Expr)(t:TA):Prop where
 h:PA X es t
structure JS (X:Cx)(st:Stmt)(t:TS):Prop where
 h:PS X st t
structure JB (X:Cx)(st:List Stmt)(t:TS):Prop where
 h:PSs X st t
structure JG (X:Cx)(e:Expr)(t:TG):Prop where
 h:PG X e t
structure JI (X:Cx)(tg e:Expr)(t:TI):Prop where
 h:PI X tg e t
structure JF (X:Cx)(ifs:List Expr)(t:TT):Prop where
 h:PIfs X ifs t
section
variable {X:Cx}{a b c e o i:Expr}{es:List Expr}{ta tb tc te:TE}{tA tB':TT}{t:TA}{pos:Pos}{rQ:List Expr}
theorem je_bltn    (hg:Gl X x)(hm:X.mg x=none)(hv:bootBuiltins x=some u)(r:RelV v u)(hn:x ≠ "__name__":=by decide)(hd:(x==("__debug__" : Str))=false:=by decide):JE X (.Name x pos) (tC v):=⟨vO hg hm hv r hn hd⟩
def rG:Expr->Bool
 |.Name _ _=>true | .Call _ _ _ _=>true | .Subscript _ _ _=>true | .Attribute _ _ _=>true | .IfExp _ _ _ _=>false | _=>false
theorem wM  (h:rG e=true):∀whole,isTrue e env whole=(do let v <- whole; standAt e.pos; holding [v] (truthy v)):=by
 cases e<;>first | (intro _; rfl) | exact absurd h AE
theorem je_call           {p}(F:eX X.prog X.w X.K X.mg X.base CX k f fd ps sp)(hr:Room k X.A)(hg:Gl X x)(hm:X.mg x=some (.ref f))(hk:PySem.W.keepIn X.K (.ref f)=true)(hb:Binds X.K fd ps ds)(hd:Vals dvs ds)(hx:mZ CX X E)
  (ha:JA X (e::es) t) (hdb:(x==("__debug__" : Str))=false:=by decide) (hs:noStar e=true:=by rfl) (hall:es.all noStar=true:=by rfl):JE X (.Call (.Name x p) (e::es) [] pos) (cN sp dvs E t):=⟨qe_call F hr hg hm hk hb hd hx ha.h hdb hs hall⟩
theorem je_comp {elt iter:Expr}{x:Str}{px:Pos}{ifs:List Expr}{scope:Scope}{cl:List (Str×Addr)}{wi:TI}{tc:TT}
  (hc:X.calm=true) (hN:(x::X.N).Nodup) (K:sF X x scope cl) (hi:JI X (.Name x px) iter wi)
  (ht:∀fp C s₂ H₂,JF (xK X x scope cl fp C s₂ H₂) ifs tc) (he:∀fp C s₂ H₂,JE (xK X x scope cl fp C s₂ H₂) elt te)
  (hs:∀v,foldedSetIterable iter X.env v=pure v:=by intro _; rfl):JE X (.ListComp elt [⟨.Name x px,iter,ifs,0⟩] scope pos) (rT wi tc te) :=
 ⟨pe_comp hc hN K hi.h (fun fp C s₂ H₂=>(ht fp C s₂ H₂).h) (fun fp C s₂ H₂=>(he fp C s₂ H₂).h) hs⟩
variable {tg:Expr}
end
section
variable {X:Cx}{st:Stmt}{sts:List Stmt}{t u:TS}{e c:Expr}{te:TE}{tc:TT}{pos:Pos}
end
section
variable {P:Program}{w:World}{K:CU}{mg:Str->Option Value}{base:Heap}
theorem Fun.okJ  {st}      (F:Fun K x qual st f fd)(S:FnScope N ps (dQ st))(len:∀vs H Q E,sp vs H Q E->vs.length=ps.length)
  (hbody:∀cdv A outer s H vs Q E,Room k (A.deeper (envOfC qual (dQ st) s.heap.objs.size f cdv))->sp vs H Q E ->
   ∃t,JB (bX CX0 P w K mg base N qual (dQ st) f cdv A outer s H E).nox (yZ st) t/\t { nx:=fun _ H'=>Q .non H',rt:=Q } (start N vs) H):eX P w K mg base CX0 (k+1) f fd ps sp :=
 F.ok S len fun cdv A outer s H vs Q E hr h=>let ⟨t,ht,q⟩:=hbody cdv A outer s H vs Q E hr h; ⟨t,ht.h,q⟩
end
structure KD (K:CU)(P:Program)(w:World)(d:Addr)(kvs:List (Key×V)):Prop where
 all:∀h:Heap,K.In h->∃vs,KV kvs vs/\h.DictOf (sQ P w) d vs
 ne:(d==sysModules)=false
def kB (p:Params)(l:List (Str×Tok×Int×Tok)):List DictEntry:=l.map fun x=>{ hash:=PyData.keyHash p x.1,key:=.str x.1 x.2.1,val:=.int x.2.2.1 x.2.2.2 }
def strKvs (l:List (Str×Tok×Int×Tok)):List (Key×V):=l.map fun x=>(Sum.inr x.1,.int x.2.2.1)
theorem hU {K:CU}{P:Program}{w:World}{d:Addr}{l:List (Str×Tok×Int×Tok)}{n:Nat}(h:K.lookup d=some { cls:=.type "dict",data:=.dict (kB w.params l).toArray n })
  (hn:(l.map (·.1)).Nodup) (hd:(d==sysModules)=false) (hh:∀x:Str,PyData.keyHash w.params x=hashStr w x):KD K P w d (strKvs l):=by
 refine⟨fun hp X=>?_,hd⟩;refine⟨l.map fun x=>(Sum.inr x.1,.int x.2.2.1 x.2.2.2),?_,_,(kB w.params l).toArray,n,X d _ h,⟨rfl,rfl,rfl⟩,rfl,?_,?_,?_⟩
 .clear h hn
  induction l with
  |nil=>exact .nil
  |cons x r ih=>exact .cons ⟨rfl,_,rfl⟩ ih
 .intro e he
  have he':e∈kB w.params l:=by simpa using he
  obtain⟨x,_,rfl⟩:=BA.mp he';exact⟨Sum.inr x.1,lK x.1 x.2.1,hh _⟩
 .show Pairs (sQ P w) (kB w.params l) _
  clear h hn
  induction l with
  |nil=>exact .nil
  |cons x r ih=>exact .cons (lK x.1 x.2.1) rfl ih
 .have e:(l.map fun x=>((Sum.inr x.1:Key),Value.int x.2.2.1 x.2.2.2)).map (·.1)=(l.map (·.1)).map Sum.inr:=by
   rw[Bf,Bf]; rfl
  rw[e];exact List.Pairwise.map Sum.inr (fun a b hab z=>hab (Sum.inr.inj z)) hn
section
variable {X:Cx}{d:Addr}{kvs:List (Key×V)}
theorem mM (kd:KD X.K X.prog X.w d kvs):OpR X (compareOp .In) (fun x y H Q=>∃z,x=.str z/\y=.ref d/\Q (.bl (bV kvs (Sum.inr z)).isSome) H):=by
 intro pins s σ H x y v u Q I rx ry h;obtain⟨z,rfl,rfl,q⟩:=h;cases (show u=Value.ref d from ry);obtain⟨vs,rel,dd⟩:=kd.all s.heap I.kIn;have rx':RelV (kV (Sum.inr z)) v:=rx;refine wpAny_in_of (fO rx') kd.ne dd.mapOf ?_;rw[<- (rel.val (Sum.inr z)).isSome_eq];exact⟨.bl _,H,I.tok _,rfl,q⟩
end
theorem sY  : ∀(names:List (Str×NameKind)) acc,(∀y∈names,y.2=.free->∃c,env.cells.lookup y.1=some c)->(∀y c,acc.lookup y=some c->env.cells.lookup y=some c) ->
  ∃cl,(forIn names acc fun x r=>(do
    if x.2==NameKind.free then do
     let c <- cellOf env x.1
     pure (ForInStep.yield ((x.1,c)::r))
    else pure (ForInStep.yield r):Sem (ForInStep (List (Str×Addr)))))=pure cl/\(∀y c,cl.lookup y=some c->env.cells.lookup y=some c)/\(∀y∈names,y.2=.free->∃c,cl.lookup y.1=some c)/\∀y c,acc.lookup y=some c->∃c',cl.lookup y=some c'
 |[],acc,_,ha=>⟨acc,rfl,ha,fun y hy=>absurd hy (by simp),fun y c h=>⟨c,h⟩⟩
 | (n,k)::r,acc,hf,ha=>by
  cases hk:(k==NameKind.free) with
  |false =>
   refine el14 (sY r acc (fun y hy=>hf y (AJ _ hy)) ha) fun cl e h1 h2 h3=>⟨cl,?_,h1,fun y hy hy2=>?_,h3⟩
   .grind
   .grind
  |true =>
   have ek:k=.free :=by lia
   refine el11 (hf (n,k) AW ek) fun c hc=>?_
   have ha':∀y c',((n,c)::acc).lookup y=some c'->env.cells.lookup y=some c':=fun y c' h=>by
    rw[List.lookup_cons] at h
    cases hy:y==n with
    |true =>
     rw[hy] at h;have:y=n :=by lia
     subst this
     rwa [hc]
    |false =>
     rw[hy] at h;exact ha y c' h
   refine el14 (sY r ((n,c)::acc) (fun y hy=>hf y (AJ _ hy)) ha') fun cl e h1 h2 h3=>?_;have hco:cellOf env n=pure c:=by delta cellOf; rw[hc]
   refine⟨cl,?_,h1,fun y hy hy2=>?_,fun y c' h=>?_⟩
   .grind
   .grind
   .grind
def gF (xs:List Str)(scope:Scope)(N:List Str)(sc:Scope):Bool :=
 scope.names.all (fun y=>decide (y.2≠.cell)&&(decide (y.2≠.free) || decide (sc.names.lookup y.1=some .cell))&&(decide (y.2≠.local) || (decide (scope.names.lookup y.1=some .local)&&decide (y.1∉N))))&&decide (scope.kind=.function)&&xs.all (fun x=>decide (scope.names.lookup x=some .local))
theorem X4      (hN:X.N=N)(hsc:X.env.scope=sc)(hce:X.env.cells=cellsFrom L sc.names [])(h:gF xs scope N sc=true):∃cl,rB X xs scope cl:=by
 subst hN hsc
 delta gF at h
 rw[A1,A1,BQ] at h;obtain⟨⟨h1,h2⟩,h3⟩:=h
 have get:∀y∈scope.names,y.2≠.cell/\(y.2=.free->X.env.scope.names.lookup y.1=some .cell)/\(y.2=.local->scope.names.lookup y.1=some .local/\y.1∉X.N):=fun y hy=>by
  have q:=h1 y hy;rw[A1,A1] at q;obtain⟨⟨q1,q2⟩,q3⟩:=q;refine⟨AH q1,fun e=>?_,fun e=>?_⟩
  .lia
  .lia
 refine el14 (sY scope.names [] (fun y hy hf =>hce▸bF ((get y hy).2.1 hf)) (fun y c z=>by simp at z)) fun cl e k1 k2 _=>?_;refine⟨cl,⟨?_,fun y hy=>(get y hy).1,AH h2,fun y hy q=>((get y hy).2.2 q).1,fun x hx=>AH (BQ.1 h3 x hx),fun y hy q=>((get y hy).2.2 q).2,fun y hy q=>⟨?_,.inl ((get y hy).2.1 q),k2 y hy q⟩,k1⟩⟩
 .have e':=BE (fun m:Sem (List (Str×Addr))=>m >>= fun cs=>(pure cs:Sem (List (Str×Addr)))) e
  exact e'
 .show X.env.scope.names.lookup y.1≠some .local
  rw[(get y hy).2.1 q]
  decide
theorem dC {X:Cx}{elt iter:Expr}{x:Str}{px pos:Pos}{ifs:List Expr}{scope:Scope}{wi:TI}{tc:TT}{te:TE}
  (hc:X.calm=true) (hN:(x::X.N).Nodup) (K:∃cl,sF X x scope cl) (hi:JI X (.Name x px) iter wi)
  (ht:∀cl fp C s₂ H₂,JF (xK X x scope cl fp C s₂ H₂) ifs tc) (he:∀cl fp C s₂ H₂,JE (xK X x scope cl fp C s₂ H₂) elt te)
  (hs:∀v,foldedSetIterable iter X.env v=pure v:=by intro _; rfl):JE X (.ListComp elt [⟨.Name x px,iter,ifs,0⟩] scope pos) (rT wi tc te) :=
 let ⟨cl,K⟩:=K
 je_comp hc hN K hi (ht cl) (he cl) hs
section
variable {X:Cx}{o e:Expr}{es:List Expr}{to:TE}{t:TA}{name:Str}{apos cpos:Pos}{T id:String}{r:V->List V->Hp->VK->Prop}
end
section
variable {X:Cx}{pos:Pos}
theorem m2_of    (hb:attributeBase o m X.env (eval o X.env)=eval o X.env)(hl:(apos.endLine==cpos.line)=true)(he:noStar e=true)(hf:noStar f=true):M2 X o m apos e f cpos:=by
 have e1:starEach [e,f] X.env=[(false,eval e X.env),(false,eval f X.env)]:=by
  rw[vX he,vX hf]
  rfl
 refine⟨hb,?_,hl,?_⟩
 .rw [e1]; rfl
 .rw [e1]; rfl
end
end L2
namespace L2
open PySem PySem.W PyProof.Rows
def kRun  (lt:Nat->Nat->Bool):KasT α->α
 |.ret a=>a
 |.ask i j k=>kRun lt (k (lt i j))
section
variable {n:Nat}(h0:0 < n)
include h0
end
end L2
namespace HT
open PySem PyProof.Rows
def lexS:List Str->List Str->Bool
 |[],[]=>false
 |[],_::_=>true
 |_::_,[]=>false
 |x::xs,y::ys=>if x=y then lexS xs ys else decide (x.cps.toList < y.cps.toList)
end HT
namespace L2
open PySem PySem.W PyProof.Rows
def ltP (x y:List Str×Int):Bool:=if x.1=y.1 then decide (x.2 < y.2) else HT.lexS x.1 y.1
def ltSI (x y:Str×Int):Bool:=if x.1=y.1 then decide (x.2 < y.2) else decide (x.1.cps.toList < y.1.cps.toList)
end L2
namespace L2
open PySem PySem.Spec PyProof.Rows
def xB (p:Params)(l:List (Str×Tok×Value×V)):List DictEntry:=l.map fun x=>{ hash:=PyData.keyHash p x.1,key:=.str x.1 x.2.1,val:=x.2.2.1 }
def valKvs (l:List (Str×Tok×Value×V)):List (Key×V):=l.map fun x=>(Sum.inr x.1,x.2.2.2)
theorem Xr {K:CU}{P:Program}{w:World}{d:Addr}{l:List (Str×Tok×Value×V)}{n:Nat}(h:K.lookup d=some { cls:=.type "dict",data:=.dict (xB w.params l).toArray n })
  (hn:(l.map (·.1)).Nodup) (hd:(d==sysModules)=false) (hh:∀x:Str,PyData.keyHash w.params x=hashStr w x) (hr:Vals (l.map (·.2.2.2)) (l.map (·.2.2.1))):KD K P w d (valKvs l):=by
 refine⟨fun hp X=>?_,hd⟩;refine⟨l.map fun x=>(Sum.inr x.1,x.2.2.1),?_,_,(xB w.params l).toArray,n,X d _ h,⟨rfl,rfl,rfl⟩,rfl,?_,?_,?_⟩
 .clear h hn
  induction l with
  |nil=>exact .nil
  |cons x r ih =>
   cases hr with
   |cons a b=>exact .cons ⟨rfl,a⟩ (ih b)
 .intro e he
  have he':e∈xB w.params l:=by simpa using he
  obtain⟨x,_,rfl⟩:=BA.mp he';exact⟨Sum.inr x.1,lK x.1 x.2.1,hh _⟩
 .show Pairs (sQ P w) (xB w.params l) _
  clear h hn hr
  induction l with
  |nil=>exact .nil
  |cons x r ih=>exact .cons (lK x.1 x.2.1) rfl ih
 .have e:(l.map fun x=>((Sum.inr x.1:Key),x.2.2.1)).map (·.1)=(l.map (·.1)).map Sum.inr:=by
   rw[Bf,Bf]; rfl
  rw[e];exact List.Pairwise.map Sum.inr (fun a b hab z=>hab (Sum.inr.inj z)) hn
section
variable {X:Cx}{o i value:Expr}{td ty tv:TE}{pos pos':Pos}
theorem op_din (hu:X.A.units+1 < cLine):OpR X (compareOp .In) (fun x y H Q=>∃d ov,y=.ref d/\DGet H d x ov/\Q (.bl ov.isSome) H):=by
 intro pins s σ H x y v u Q I rx ry h;obtain⟨d,ov,rfl,g,q⟩:=h;cases ry;exact d_in hu I g rx fun s3 I3=>⟨.bl ov.isSome,H,I3,rfl,q⟩
end
end L2
namespace PySem.SeqAt
open MeetsSeq
theorem oR b u l dd es n sl :
  Meets (Builtin.«str.__eq__» ⟨[.str b u,.ref l],[]⟩) (fun _ R s=>s.heap.get? l=some ⟨.type "dict",dd,.dict es n,sl⟩/\R (.ok (.ret .notImplemented)) s) :=
 .of_wp fun prog w A R s h=>by
  obtain⟨hp,g,d,tk,os⟩:=s;obtain⟨hl,h⟩:=h
  wp_walk using BJ hl
  exact⟨_,rfl,h⟩
theorem vN b u l dd es n sl :
  Meets (Builtin.«dict.__eq__» ⟨[.ref l,.str b u],[]⟩) (fun _ R s=>s.heap.get? l=some ⟨.type "dict",dd,.dict es n,sl⟩/\R (.ok (.ret .notImplemented)) s) :=
 .of_wp fun prog w A R s h=>by
  obtain⟨hp,g,d,tk,os⟩:=s;obtain⟨hl,h⟩:=h;have f1:=F.sub_str_dict
  wp_walk using BJ hl
  exact⟨_,rfl,h⟩
theorem vw_eq_str_dict          (hl:s.heap.get? l=some ⟨.type "dict",dd,.dict es n,sl⟩)(hu:A.units < cLine):
  EqAt A s (.str b u) (.ref l) false:=fun prog w E Q h=>by
 refine An (AS (fun hab=>absurd (eq_of_beq hab) nofun) (fun _=>AA ?_))
 have R:RcAt A s (.str b u) (.ref l) false:=fun prog w E Q h=>rc_eq_decline_or (Bj s b u) ⟨_,hl,rfl⟩ rfl F.sub_dict_str F.slot_str_eq F.slot_dict_eq_refl
  (fun _ hq=>Az F.slot_str_eq (Bj s b u) F.entry_str_eq (F.args_str_eq_2 _ _) (oR b u l dd es n sl) ⟨hl,hq⟩)
  (fun _ hq=>Az F.slot_dict_eq_refl ⟨_,hl,rfl⟩ F.entry_dict_eq (F.args_dict_eq_2 _ _) (vN b u l dd es n sl) ⟨hl,hq⟩)
  (fun _ hq=>wpAny_of_eq rfl hq) (.inr hu) h
 exact R prog w E _ (Af h)
end PySem.SeqAt
namespace L2
open PySem PySem.Spec PyProof.Rows
section
variable {X:Cx}
theorem sP     (hx:∀(z:Str) (t:Tok),SeqAt.EqAt A s (.str z t) v (eqV (.str z) x)):∀{l:List Str}{us},Vals (l.map V.str) us->∀u∈us,SeqAt.EqAt A s u v (eqU x u)
 |[],_,.nil=>fun u hu=>by cases hu
 |z::l,u::us,.cons r t=>fun u' hu=>by
  rcases Ag.mp hu with rfl | hu
  .obtain ⟨t',rfl⟩:=r
   exact hx z t'
  .exact sP hx t u' hu
theorem xF         (I:Inv X pins σ H s)(rx:RelV x v)(hc:tyN H x=some c)(hu:A.units < cLine) z t :
  SeqAt.EqAt A s (.str z t) v (eqV (.str z) x):=by
 cases x with
 |non=>exact qH ⟨t,rfl⟩ rx rfl rfl
 |bl b=>exact qH ⟨t,rfl⟩ rx rfl rfl
 |int i=>exact qH ⟨t,rfl⟩ rx rfl rfl
 |str y=>exact qH ⟨t,rfl⟩ rx rfl rfl
 |ref a =>
  cases rx;have hc:(H a).bind tyH=some c:=hc
  cases e:H a with
  |none=>rw[e] at hc; cases hc
  |some o =>
   rw[e] at hc;have ok:=I.hok a o e
   cases o with
   |lst xs =>
    obtain⟨_,its,n,_,h1⟩:=ok;exact SeqAt.EqAt.str_list z t ⟨_,h1,rfl,n,rfl⟩ hu
   |tup xs =>
    obtain⟨_,its,_,p⟩:=ok;exact SeqAt.EqAt.str_tuple z t (IsTupN.is p) hu
   |dK kvs =>
    obtain⟨_,_,vs,_,p⟩:=ok;obtain⟨⟨cls,dd,dat,sl⟩,es,ep,h1,h2,h3,_⟩:=p;have h2:=h2.1;subst h2 h3;exact SeqAt.vw_eq_str_dict h1 hu
   |dT kvs =>
    obtain⟨_,_,xs,_,⟨cls,dd,dat,sl⟩,es,ep,h1,h2,h3,_⟩:=ok;have h2:=h2.1;subst h2 h3;exact SeqAt.vw_eq_str_dict h1 hu
   |frz ob u =>
    cases u with
    |lst xs =>
     obtain⟨_,_,its,n,_,h1⟩:=ok;exact SeqAt.EqAt.str_list z t ⟨_,h1,rfl,n,rfl⟩ hu
    |_=>cases hc
   |_=>cases hc
 |byt b=>cases hc
 |flt b=>cases hc
 |ty b=>cases hc
def inS (l:List Str):V->Bool
 |.str z=>l.contains z
 |_=>false
theorem lF x:∀{l}{us},Vals (l.map V.str) us->us.any (eqU x)=inS l x
 |[],_,.nil=>by cases x<;>rfl
 |z::l,u::us,.cons r t=>by
  obtain⟨t',rfl⟩:=r;rw[Bl,lF x t]
  cases x with
  |str y =>
   show((z==y) || l.contains y)=(z::l).contains y
   congr 1
   rw[BZ,BK,BK];exact eq_comm
  |_=>rfl
def rInS (K:CU)(neg:Bool):R2:=fun x y H Q=>∃p l c,y=.ref p/\(SqL K H p (List.map V.str l)\/SqT K H p (List.map V.str l))/\tyN H x=some c/\Q (.bl (if neg then !inS l x else inS l x)) H
theorem bM (hu:X.A.units+1 < cLine):OpR X (compareOp .In) (rInS X.K false):=by
 intro pins s σ H x y v u Q I rx ry h;obtain⟨p,l,c,rfl,hq,hc,q⟩:=h;cases ry
 rcases hq with hq | hq
 .obtain ⟨its,r,pl,hz⟩:=I.list hq
  refine SeqAt.in_listAt (eqU x) pl.isList (fun w hw=>sP (xF I rx hc hu) r w (by grind)) ⟨.bl _,H,I,rfl,?_⟩;rw[show its.toArray.any (eqU x)=its.any (eqU x) by simp,lF x r];exact q
 .obtain ⟨its,r,pl,hz⟩:=I.tuple hq
  refine SeqAt.in_tupleAt (eqU x) pl (fun w hw=>sP (xF I rx hc hu) r w (by simpa using hw)) ⟨.bl _,H,I,rfl,?_⟩;rw[show its.toArray.any (eqU x)=its.any (eqU x) by simp,lF x r];exact q
end
section
variable {X:Cx}
def rCatTA (K:CU):R2:=fun x y H Q=>∃a b xs ys,x=.ref a/\y=.ref b/\SqT K H a xs/\SqT K H b ys/\xs.length+ys.length<=sizeLine /\
 (xs=[]->Q (.ref b) H)/\(xs≠[]->ys=[]->Q (.ref a) H)/\(xs≠[]->ys≠[]->∀p,H p=none->Q (.ref p) (upd H p (.tup (xs++ys))))
theorem Xd:OpR X (binaryOp .Add) (rCatTA X.K):=by
 intro pins s σ H x y v u Q I rx ry h;obtain⟨a,b,xs,ys,rfl,rfl,ha,hb,hz,q0,q1,q2⟩:=h
 by_cases hx:xs=[]
 .cases rx
  cases ry;refine lI (I.tuple ha) fun its r1 p1 _=>lI (I.tuple hb) fun its2 r2 p2 _=>?_;have e:=r1.nil_iff.mpr hx;subst e;obtain⟨⟨cls,dd,data,sl⟩,ho,hc,n,hd⟩:=id p1;obtain⟨⟨cls2,dd2,data2,sl2⟩,ho2,hc2,n2,hd2⟩:=id p2;subst hc hd hc2 hd2
  exact concat_meets ⟨_,ho,rfl⟩ ⟨_,ho2,rfl⟩ noFill_tuple_add seq_tuple_add B3 Bx (Bw _ _)
   (tuple_addW0 a b _ its2.toArray n n2 dd dd2 sl sl2 rfl) ⟨ho,ho2,⟨.ref b,H,I,rfl,q0 hx⟩⟩
 .exact op_catT pins s σ H (.ref a) (.ref b) v u Q I rx ry ⟨a,b,xs,ys,rfl,rfl,ha,hb,hx,hz,q1 hx,q2 hx⟩
end
end L2
namespace PySem
open Builtin
theorem iW:fillsNumberSlot (.type "tuple") "mul" = pure false:=fillsNumberSlot_seq (id:="tuple.__mul__") (r:=some (.builtin "tuple.__rmul__")) Bk.lookup (by decide +kernel) F.slot_tuple_rmul.lookup (by decide +kernel)
theorem tU:seqRepeat? (.type "tuple")=pure (some (.builtin "tuple.__mul__")):=by
 unfold seqRepeat?;rw[seqSlot_of (T:="tuple") (name:="__mul__") (id:="tuple.__mul__") Bk.lookup (by decide +kernel),seqSlot_of (T:="tuple") (name:="__rmul__") (id:="tuple.__rmul__") F.slot_tuple_rmul.lookup (by decide +kernel)]; rfl
theorem oF (a:Int)(t:Tok)(l:Addr)(items:Array Value)(n:Nat)(dd:Option Addr)(sl:Array (Option Value)):Meets (Builtin.«int.__rmul__» ⟨[.int a t,.ref l],[]⟩) (fun _ R s=>s.heap.get? l=some ⟨.type "tuple",dd,.seq items n,sl⟩/\R (.ok (.ret Value.notImplemented)) s) :=
 .of_wp fun prog w A R s h=>by obtain⟨hp,g,d,tk,os⟩:=s; obtain⟨hl,h⟩:=h; wp_walk using BJ hl; exact⟨_,rfl,h⟩
theorem tR (l:Addr)(items:Array Value)(n:Nat)(dd:Option Addr)(sl:Array (Option Value))(u:Tok):Meets (Builtin.«tuple.__mul__» ⟨[.ref l,.int 1 u],[]⟩) (fun _ R s=>s.heap.get? l=some ⟨.type "tuple",dd,.seq items n,sl⟩/\R (.ok (.ret (.ref l))) s) :=
 .of_wp fun prog w A R s h=>by
  obtain⟨hp,g,d,tk,os⟩:=s;obtain⟨hl,h⟩:=h;unfold Builtin.«tuple.__mul__»
  wp_walk using BJ hl
  exact⟨_,rfl,h⟩
theorem jN (l:Addr)(items:Array Value)(n:Nat)(dd:Option Addr)(sl:Array (Option Value))(u:Tok)(he:items.isEmpty=false):Meets (Builtin.«tuple.__mul__» ⟨[.ref l,.int 0 u],[]⟩) (fun _ R s=>s.heap.get? l=some ⟨.type "tuple",dd,.seq items n,sl⟩/\R (.ok (.ret (.ref s.heap.objs.size))) { s with heap:=s.heap.push { cls:=.type "tuple",data:=.seq #[] } }) :=
 .of_wp fun prog w A R s h=>by
  obtain⟨hp,g,d,tk,os⟩:=s;obtain⟨hl,h⟩:=h;unfold Builtin.«tuple.__mul__»
  wp_walk using BJ hl
  exact⟨_,rfl,h⟩
theorem xN (l:Addr)(items:Array Value)(n:Nat)(dd:Option Addr)(sl:Array (Option Value))(x:Int)(u:Tok)(he:items.isEmpty=false)(h2:2<=x)(h3:x < 64)(hs:items.size=1)(hsz:((List.replicate x.toNat items).foldl (fun a b=>a++b) #[]).size<=sizeLine):Meets (Builtin.«tuple.__mul__» ⟨[.ref l,.int x u],[]⟩) (fun _ R s=>s.heap.get? l=some ⟨.type "tuple",dd,.seq items n,sl⟩/\R (.ok (.ret (.ref s.heap.objs.size))) { s with heap:=s.heap.push { cls:=.type "tuple",data:=.seq ((List.replicate x.toNat items).foldl (fun a b=>a++b) #[]) } }) :=
 .of_wp fun prog w A R s h=>by
  obtain⟨hp,g,d,tk,os⟩:=s;obtain⟨hl,h⟩:=h
  have e1:(decide (x < -(2 ^ 63)) || decide (x >= 2 ^ 63))=false:=by
   rw[AU (by omega),AU (by omega)]; rfl
  have e2:(x==1)=false:=by simpa using(show ¬ x=1 by omega)
  have e3:decide (x<=0)=false:=AU (by omega);unfold Builtin.«tuple.__mul__»
  have e4:Builtin.Tuple.tupleTooMany (items.size * x)=false:=by
   rw[hs];unfold Builtin.Tuple.tupleTooMany;have hsl:(64:Nat)<=sizeLine:=by decide
   exact AU (by omega)
  wp_walk using BJ hl
  refine wpAny_ite_false (by rw[e1]; rfl) ?_
  wp_walk using BJ hl
  refine wpAny_ite_false (AU (by rw[hs]; omega)) ?_
  wp_walk using BJ hl
  refine wpAny_ite_false (by rw[e4]; rfl) ?_
  wp_walk using BJ hl
  exact⟨_,rfl,h⟩
end PySem
namespace L2
open PySem PySem.Spec PyProof.Rows
def rRepT:R2:=fun x y H Q=>∃l k z,x=.ref l/\y=.int k/\H l=some (.tup [z])/\0<=k/\k < 64/\(k=1->Q (.ref l) H)/\(k≠1->∀p,H p=none->Q (.ref p) (upd H p (.tup (List.replicate k.toNat z))))
theorem zR (u:Value):∀(k:Nat) (a:Array Value),(List.replicate k #[u]).foldl (fun a b=>a++b) a=(a.toList++List.replicate k u).toArray
 |0,a=>by simp
 |k+1,a=>by
  rw[Av,List.foldl_cons,zR u k]
  apply Array.toList_inj.mp
  simp[List.replicate_succ]
theorem wN {z:V}{u:Value}(r:RelV z u):∀k:Nat,Vals (List.replicate k z) (List.replicate k u)
 |0=>.nil
 |k+1=>.cons r (wN r k)
section
variable {X:Cx}
theorem op_repT:OpR X (binaryOp .Mult) rRepT:=by
 intro pins s σ H x y v u Q I rx ry h;obtain⟨l,k,z,rfl,rfl,hH,h0,h64,q1,q2⟩:=h;cases rx;obtain⟨t,rfl⟩:=ry;obtain⟨hz,its,r,p⟩:=(show ObjOk X.prog X.w H s.heap l (.tup [z]) from I.hok l _ hH);obtain⟨u,rfl,ru⟩:=r.one;obtain⟨⟨cls,dd,data,sl⟩,ho,hc,n,hd⟩:=p.is
 simp only at hc hd
 subst hc hd;have hsl:(64:Nat)<=sizeLine:=by decide
 refine wpAny_binaryOp_repeat_ref (T:="tuple") (U:="int") (by decide) ⟨_,ho,rfl⟩ (fun s'=>typeIs_int s' k t) iW F.fills_int_mul B9 tU F.slot_int_index.lookup
  (Az B9 (typeIs_int s k t) F.entry_int_rmul (F.args_int_rmul_2 _ _) (oF k t l _ n dd sl) ⟨ho,rfl,⟨_,ho,rfl⟩,?_⟩)
 by_cases h1:k=1
 .subst h1
  exact Az Bk ⟨_,ho,rfl⟩ F.entry_tuple_mul (F.args_tuple_mul_2 _ _) (tR l _ n dd sl t) ⟨ho,⟨.ref l,H,I,rfl,q1 rfl⟩⟩
 .by_cases h2:k=0
  .subst h2
   refine Az Bk ⟨_,ho,rfl⟩ F.entry_tuple_mul (F.args_tuple_mul_2 _ _) (jN l _ n dd sl t rfl) ⟨ho,?_⟩;refine⟨.ref s.heap.objs.size,_,I.laid (t':=s.toks) (o:=.tup []) (fun b ob e=>AC _ e) (AI _) ?_,rfl,q2 (by decide) _ I.fresh⟩;exact⟨Aa _,[],.nil,IsTupN.new _ _⟩
  .have e:(List.replicate k.toNat [u].toArray).foldl (fun a b=>a++b) #[]=(List.replicate k.toNat u).toArray:=by
    have:=zR u k.toNat #[]
    simpa using this
   refine Az Bk ⟨_,ho,rfl⟩ F.entry_tuple_mul (F.args_tuple_mul_2 _ _) (xN l _ n dd sl k t rfl (by omega) h64 rfl (by rw[e,AK,Ap]; omega)) ⟨ho,?_⟩;rw[e];refine⟨.ref s.heap.objs.size,_,I.laid (t':=s.toks) (o:=.tup (List.replicate k.toNat z)) (fun b ob e=>AC _ e) (AI _) ?_,rfl,q2 h1 _ I.fresh⟩;exact⟨by rw[Ap]; omega,_,wN ru _,IsTupN.new _ _⟩
end
theorem tT   (h:H p=none) o:Same H (upd H p o):=fun b u q=>by rwa [wQ (zZ q h)]
section
variable {X:Cx}
def QV:R2:=fun x y H Q=>∃l k z,x=.ref l/\y=.int k/\H l=some (.tup [z])/\0<=k/\k < 64/\∀r H',Same H H'->H' r=some (.tup (List.replicate k.toNat z))->(H r=none\/r=l)->Q (.ref r) H'
theorem op_repU:OpR X (binaryOp .Mult) QV:=by
 intro pins s σ H x y v u Q I rx ry h;obtain⟨l,k,z,e1,e2,hH,h0,h64,q⟩:=h;exact op_repT pins s σ H x y v u Q I rx ry ⟨l,k,z,e1,e2,hH,h0,h64,fun h1=>q l H (Same.refl H) (by subst h1; exact hH) (.inr rfl),fun _ p hp=>q p _ (tT hp _) vQ (.inl hp)⟩
def rCatU:R2:=fun x y H Q=>∃a b xs ys,x=.ref a/\y=.ref b/\H a=some (.tup xs)/\H b=some (.tup ys)/\xs.length+ys.length<=sizeLine/\∀r H',Same H H'->H' r=some (.tup (xs++ys))->(H r=none\/r=a\/r=b)->Q (.ref r) H'
theorem op_catU:OpR X (binaryOp .Add) rCatU:=by
 intro pins s σ H x y v u Q I rx ry h;exact el46 h fun a b xs ys e1 e2 ha hb hz q=>Xd pins s σ H x y v u Q I rx ry ⟨a,b,xs,ys,e1,e2,SqT.of ha,SqT.of hb,hz,fun h=>q b H (Same.refl H) (by rwa [h]) (.inr (.inr rfl)),fun _ h=>q a H (Same.refl H) (by grind) (.inr (.inl rfl)),fun _ _ p hp=>q p _ (tT hp _) vQ (.inl hp)⟩
end
end L2
namespace L2
open PySem PySem.W PyProof.Rows
section
variable {X:Cx}
abbrev isItems (v d:Addr):Heap->Prop:=fun h=>h.IsItemsView v d
end
end L2
namespace L2
open PySem PySem.W PySem.Spec PyProof.Rows
section
variable {X:Cx}
def cntK (k:Key)(ks:List Key):Nat:=ks.countP fun j=>decide (j=k)
end
end L2
namespace CL
open PySem PySem.Spec L2
open PyProof.Rows hiding St
inductive PV where
 |non | bl (b:Bool) | int (i:Int) | str (x:Str) | ty (n:String) | tup (xs:List PV) | kt (xs:List PV) | fz (xs:List PV) | vw (d:Addr) | ref (a:Addr)
def imm:HO->Bool
 |.tup _=>true
 |.frz _ (.dK _)=>false
 |.frz _ (.dT _)=>false
 |.frz _ _=>true
 |.ext _=>true
 |_=>false
def Imm (H H':Hp):Prop:=∀a o,imm o=true->H a=some o->H' a=some o
theorem Imm.new   (hp:H p=none) o:Imm H (upd H p o):=fun a u _ e=>by
 rwa [wQ (zZ e hp)]
theorem Imm.mut    (hp:H p=some u)(hu:imm u=false) o:Imm H (upd H p o):=fun a v i e=>by
 have:a≠p:=by
  intro z; subst z; rw[hp] at e; cases e; rw[hu] at i; cases i
 rwa [wQ this]
def Fz (K:CU)(H:Hp)(a:Addr)(xs:List V):Prop :=
 (∃o,H a=some (.frz o (.lst xs))) \/
  ∃(o:Obj) (its:Array Value) (n:Nat),K.lookup a=some o/\o.cls=.type "list"/\o.dict=none/\o.data=.seq its n/\its.size<=sizeLine/\Vals xs its.toList
theorem Fz.sq {K}    (h:Fz K H a xs):SqL K H a xs:=by
 rcases h with ⟨o,h⟩ | h
 .exact .inl (.inr ⟨o,h⟩)
 .exact .inr h
theorem Fz.imm {K}    (h:Fz K H a xs)(k:Imm H H'):Fz K H' a xs:=by
 rcases h with ⟨o,h⟩ | h
 .exact .inl ⟨o,k _ _ rfl h⟩
 .exact .inr h
theorem SqT.imm {K}    (h:SqT K H a xs)(k:Imm H H'):SqT K H' a xs:=by
 rcases h with (h | ⟨o,h⟩) | h
 .exact .inl (.inl (k _ _ rfl h))
 .exact .inl (.inr ⟨o,k _ _ rfl h⟩)
 .exact .inr h
mutual
inductive Rep (K:CU)(H:Hp):V->PV->Prop
 |non:Rep K H .non .non
 |bl (b:Bool):Rep K H (.bl b) (.bl b)
 |int (i:Int):Rep K H (.int i) (.int i)
 |str (x:Str):Rep K H (.str x) (.str x)
 |ty (n:String):Rep K H (.ty n) (.ty n)
 |ref (a:Addr):Rep K H (.ref a) (.ref a)
 |tup {a:Addr} {vs:List V} {ts:List PV} (h:H a=some (.tup vs)) (r:Reps K H vs ts):Rep K H (.ref a) (.tup ts)
 |kt {a:Addr} {vs:List V} {ts:List PV} (h:SqT K H a vs) (r:Reps K H vs ts):Rep K H (.ref a) (.kt ts)
 |fz {a:Addr} {vs:List V} {ts:List PV} (h:Fz K H a vs) (r:Reps K H vs ts):Rep K H (.ref a) (.fz ts)
 |vw {a d:Addr} (h:H a=some (.ext (isItems a d))):Rep K H (.ref a) (.vw d)
inductive Reps (K:CU)(H:Hp):List V->List PV->Prop
 |nil:Reps K H [] []
 |cons {v:V} {t:PV} {vs:List V} {ts:List PV} (h:Rep K H v t) (r:Reps K H vs ts):Reps K H (v::vs) (t::ts)
end
section
variable {K:CU}{H H' H1 H2:Hp}
mutual
theorem Rep.imm {v:V}{t:PV}(k:Imm H H'):Rep K H v t->Rep K H' v t
 |.non=>.non
 |.bl b=>.bl b
 |.int i=>.int i
 |.str x=>.str x
 |.ty n=>.ty n
 |.ref a=>.ref a
 |.tup h r=>.tup (k _ _ rfl h) (Reps.imm k r)
 |.kt h r=>.kt (SqT.imm h k) (Reps.imm k r)
 |.fz h r=>.fz (Fz.imm h k) (Reps.imm k r)
 |.vw h=>.vw (k _ _ rfl h)
theorem Reps.imm {vs:List V}{ts:List PV}(k:Imm H H'):Reps K H vs ts->Reps K H' vs ts
 |.nil=>.nil
 |.cons h r=>.cons (Rep.imm k h) (Reps.imm k r)
end
theorem Reps.len   : Reps K H vs ts->vs.length=ts.length
 |.nil=>rfl
 |.cons _ r=>BE (· + 1) r.len
theorem Reps.get   {i:Nat}  : Reps K H vs ts->ts[i]?=some t->∃v,vs[i]?=some v/\Rep K H v t
 |.nil,e=>by cases e
 |.cons h r,e=>by
  cases i with
  |zero=>cases e; exact⟨_,rfl,h⟩
  |succ i=>exact r.get e
theorem Reps.append   : Reps K H vs ts->Reps K H us ss->Reps K H (vs++us) (ts++ss)
 |.nil,r=>r
 |.cons h t,r=>.cons h (t.append r)
theorem Reps.take   : ∀n,Reps K H vs ts->Reps K H (vs.take n) (ts.take n)
 |0,_=>.nil
 |_+1,.nil=>.nil
 |n+1,.cons h r=>.cons h (r.take n)
theorem Reps.set     (h:Rep K H v t):∀n,Reps K H vs ts->Reps K H (vs.set n v) (ts.set n t)
 |_,.nil=>.nil
 |0,.cons _ r=>.cons h r
 |n+1,.cons g r=>.cons g (r.set h n)
end
inductive CO where
 |lst (xs:List PV)
 |dK (kvs:List (Key×PV))
 |fK (kvs:List (Key×PV))
 |dT (kvs:List (List Key×PV))
 |fT (kvs:List (List Key×PV))
 |dP (kvs:List (List (List Key)×PV))
 |dA (kvs:List (List (List (List Key))×PV))
 |ins (c dx:Addr) (fs:List (Str×PV))
abbrev CH:=Addr->Option CO
def jQ (C:CH)(a:Addr)(o:CO):CH:=fun b=>if b=a then some o else C b
theorem qQ    : jQ C a o a=some o:=AV rfl
theorem zQ    (h:b≠a):jQ C a o b=C b:=AR h
abbrev FP  (K:CU)(H:Hp):List (κ×V)->List (κ×PV)->Prop:=Paired fun p q=>p.1=q.1/\Rep K H p.2 q.2
abbrev KP (K:CU)(H:Hp):List (Key×V)->List (Key×PV)->Prop:=Paired fun p q=>p.1=q.1/\Rep K H p.2 q.2
def ORel (K:CU)(H:Hp)(a:Addr):CO->Prop
 |.lst ts=>∃vs,H a=some (.lst vs)/\Reps K H vs ts
 |.dK kvs=>∃vs,H a=some (.dK vs)/\KP K H vs kvs
 |.fK kvs=>∃o vs,H a=some (.frz o (.dK vs))/\KP K H vs kvs
 |.dT kvs=>∃vs,H a=some (.dT vs)/\FP K H vs kvs
 |.fT kvs=>∃o vs,H a=some (.frz o (.dT vs))/\FP K H vs kvs
 |.dP kvs=>∃vs,H a=some (.dP vs)/\FP K H vs kvs
 |.dA kvs=>∃vs,H a=some (.dA vs)/\FP K H vs kvs
 |.ins c dx fs=>∃gs,H a=some (.ins c dx gs)/\FP K H gs fs
def HRel (K:CU)(H:Hp)(C:CH):Prop:=∀a o,C a=some o->ORel K H a o
def still:Option CO->Bool
 |none=>true
 |some (.fK _)=>true
 |some (.fT _)=>true
 |_=>false
def Fw (H:Hp)(C:CH)(H':Hp)(C':CH):Prop:=∀a,still (C a)=true->H a≠none->C' a=C a/\H' a=H a
section
variable {K:CU}{H H' H1 H2:Hp}{C C' C1 C2:CH}
theorem Fw.refl:Fw H C H C:=fun _ _ _=>⟨rfl,rfl⟩
theorem Fw.trans (f:Fw H C H1 C1)(g:Fw H1 C1 H2 C2):Fw H C H2 C2:=fun a h n=>by
 obtain⟨c,e⟩:=f a h n;obtain⟨c',e'⟩:=g a (by rwa [c]) (by rwa [e]);exact⟨c'.trans c,e'.trans e⟩
theorem ORel.mut   (h:ORel K H a o):∃u,H a=some u/\imm u=false:=by
 cases o with
 |lst ts=>obtain⟨vs,e,_⟩:=h; exact⟨_,e,rfl⟩
 |dK ts=>obtain⟨vs,e,_⟩:=h; exact⟨_,e,rfl⟩
 |fK ts=>obtain⟨o,vs,e,_⟩:=h; exact⟨_,e,rfl⟩
 |dT ts=>obtain⟨vs,e,_⟩:=h; exact⟨_,e,rfl⟩
 |fT ts=>obtain⟨o,vs,e,_⟩:=h; exact⟨_,e,rfl⟩
 |dP ts=>obtain⟨vs,e,_⟩:=h; exact⟨_,e,rfl⟩
 |dA ts=>obtain⟨vs,e,_⟩:=h; exact⟨_,e,rfl⟩
 |ins c dx fs=>obtain⟨vs,e,_⟩:=h; exact⟨_,e,rfl⟩
theorem HRel.hid (h:HRel K H C)   (i:imm o=true)(e:H a=some o):C a=none:=by
 cases c:C a with
 |none=>rfl
 |some u =>
  obtain⟨v,e',i'⟩:=((h a u c).mut);rw[e] at e'; cases e'; rw[i] at i'; cases i'
theorem HRel.fresh (h:HRel K H C)  (e:H a=none):C a=none:=by
 cases c:C a with
 |none=>rfl
 |some u =>
  obtain⟨v,e',i'⟩:=((h a u c).mut);rw[e] at e'; cases e'
theorem Fw.imm (f:Fw H C H' C')(h:HRel K H C):Imm H H':=fun a o i e=>by
 rw[(f a (by rw[h.hid i e]; rfl) (by lia)).2]; exact e
theorem ORel.imm   (h:ORel K H a o)(k:Imm H H')(e:H' a=H a):ORel K H' a o:=by
 cases o with
 |lst ts=>obtain⟨vs,q,r⟩:=h; exact⟨vs,e.trans q,r.imm k⟩
 |dK ts=>obtain⟨vs,q,r⟩:=h; exact⟨vs,e.trans q,Paired.mapP r fun _ _ z=>⟨z.1,z.2.imm k⟩⟩
 |fK ts=>obtain⟨o,vs,q,r⟩:=h; exact⟨o,vs,e.trans q,Paired.mapP r fun _ _ z=>⟨z.1,z.2.imm k⟩⟩
 |dT ts=>obtain⟨vs,q,r⟩:=h; exact⟨vs,e.trans q,Paired.mapP r fun _ _ z=>⟨z.1,z.2.imm k⟩⟩
 |fT ts=>obtain⟨o,vs,q,r⟩:=h; exact⟨o,vs,e.trans q,Paired.mapP r fun _ _ z=>⟨z.1,z.2.imm k⟩⟩
 |dP ts=>obtain⟨vs,q,r⟩:=h; exact⟨vs,e.trans q,Paired.mapP r fun _ _ z=>⟨z.1,z.2.imm k⟩⟩
 |dA ts=>obtain⟨vs,q,r⟩:=h; exact⟨vs,e.trans q,Paired.mapP r fun _ _ z=>⟨z.1,z.2.imm k⟩⟩
 |ins c dx fs=>obtain⟨vs,q,r⟩:=h; exact⟨vs,e.trans q,Paired.mapP r fun _ _ z=>⟨z.1,z.2.imm k⟩⟩
theorem HRel.new (h:HRel K H C)  (hp:H p=none) o:HRel K (upd H p o) C:=fun a u c =>wJ ((h a u c).mut) fun v e _=>(h a u c).imm (Imm.new hp o) (wQ (zZ e hp))
theorem Fw.new  (hp:H p=none) o:Fw H C (upd H p o) C:=fun a c n=>⟨rfl,wQ fun z=>n (z▸hp)⟩
theorem HRel.lay (h:HRel K H C)  (hp:H p=none)   (r:ORel K (upd H p o) p u):HRel K (upd H p o) (jQ C p u):=fun a v c=>by
 by_cases e:a=p
 .subst e; rw[qQ] at c; cases c; exact r
 .rw [zQ e] at c; exact h.new hp o a v c
theorem Fw.lay  (hp:H p=none) o u:Fw H C (upd H p o) (jQ C p u):=fun a c n=>by
 have e:a≠p:=fun z=>n (z▸hp);exact⟨zQ e,wQ e⟩
theorem HRel.put (h:HRel K H C)   (hp:H p=some o₀)(hi:imm o₀=false)   (r:ORel K (upd H p o) p u):HRel K (upd H p o) (jQ C p u):=fun a v c=>by
 by_cases e:a=p
 .subst e; rw[qQ] at c; cases c; exact r
 .rw [zQ e] at c; exact(h a v c).imm (Imm.mut hp hi o) (wQ e)
theorem Fw.put   (hp:C p=some u₀) o u (hs:still (some u₀)=false:=by rfl):Fw H C (upd H p o) (jQ C p u):=fun a c n=>by
 have e:a≠p:=fun z=>by subst z; rw[hp,hs] at c; cases c
 exact⟨zQ e,wQ e⟩
end
abbrev CSt:=List (Option PV)
abbrev K1:=PV->CH->Prop
def RepO (K:CU)(H:Hp):Option V->Option PV->Prop
 |_,none=>True
 |some v,some t=>Rep K H v t
 |none,some _=>False
def SRel (K:CU)(H:Hp):St->CSt->Prop:=Paired (RepO K H)
section
variable {K:CU}{H H':Hp}{C C':CH}
theorem RepO.imm   (k:Imm H H')(h:RepO K H v t):RepO K H' v t:=by
 cases t with
 |none=>cases v<;>trivial
 |some t=>cases v with
  |none=>exact h
  |some v=>exact Rep.imm k h
theorem SRel.imm   (s:SRel K H σ ρ)(k:Imm H H'):SRel K H' σ ρ:=Paired.mapP s fun _ _=>RepO.imm k
theorem SRel.get   {i:Nat}  (s:SRel K H σ ρ)(e:ρ[i]?=some (some t)):∃v,σ[i]?=some (some v)/\Rep K H v t:=by
 induction s generalizing i with
 |nil=>cases e
 |@cons a b l₁ l₂ h r ih =>
  cases i with
  |zero =>
   cases e
   cases a with
   |none=>exact h.elim
   |some v=>exact⟨v,rfl,h⟩
  |succ i=>exact ih e
theorem SRel.set     (s:SRel K H σ ρ)(h:Rep K H v t) i:SRel K H (σ.set i (some v)) (ρ.set i (some t)):=by
 induction s generalizing i with
 |nil=>exact .nil
 |cons h' r ih =>
  cases i with
  |zero=>exact .cons h r
  |succ i=>exact .cons h' (ih i)
end
def jZ {α β:Type}(K:CU)(rel:Hp->α->β->Prop)(c:CSt->CH->(β->CH->Prop)->Prop):St->Hp->(α->Hp->Prop)->Prop:=fun σ H Q =>
 ∃ρ C R,SRel K H σ ρ/\HRel K H C/\c ρ C R/\∀v H' t C',R t C'->rel H' v t->HRel K H' C'->Fw H C H' C'->Q v H'
abbrev TCE:=CSt->CH->K1->Prop
abbrev TCT:=CSt->CH->(Bool->CH->Prop)->Prop
abbrev TCA:=CSt->CH->(List PV->CH->Prop)->Prop
abbrev xM:Hp->Bool->Bool->Prop:=fun _ a b=>a=b
structure CEnds where
 nx:CSt->CH->Prop
 rt:K1
 bk:CSt->CH->Prop:=fun _ _=>False
 ct:CSt->CH->Prop:=fun _ _=>False
abbrev CEnds.wn (E:CEnds)(k:CSt->CH->Prop):CEnds:={ E with nx:=k }
abbrev CEnds.lp (E:CEnds)(k:CSt->CH->Prop):CEnds:={ nx:=k,ct:=k,bk:=E.nx,rt:=E.rt }
abbrev CEnds.go (R:K1):CEnds:={ nx:=fun _ C'=>R .non C',rt:=R }
abbrev TCS:=CEnds->CSt->CH->Prop
structure ERel (K:CU)(H:Hp)(C:CH)(E:CEnds)(D:Ends):Prop where
 nx:∀σ' H' ρ' C',E.nx ρ' C'->SRel K H' σ' ρ'->HRel K H' C'->Fw H C H' C'->D.nx σ' H'
 rt:∀v H' t C',E.rt t C'->Rep K H' v t->HRel K H' C'->Fw H C H' C'->D.rt v H'
 bk:∀σ' H' ρ' C',E.bk ρ' C'->SRel K H' σ' ρ'->HRel K H' C'->Fw H C H' C'->D.bk σ' H'
 ct:∀σ' H' ρ' C',E.ct ρ' C'->SRel K H' σ' ρ'->HRel K H' C'->Fw H C H' C'->D.ct σ' H'
theorem ERel.fw {K}     (e:ERel K H C E D)(f:Fw H C H1 C1):ERel K H1 C1 E D :=
 ⟨fun σ' H' ρ' C' h s r g=>e.nx σ' H' ρ' C' h s r (f.trans g),fun v H' t C' h s r g=>e.rt v H' t C' h s r (f.trans g),fun σ' H' ρ' C' h s r g=>e.bk σ' H' ρ' C' h s r (f.trans g),fun σ' H' ρ' C' h s r g=>e.ct σ' H' ρ' C' h s r (f.trans g)⟩
def rM (K:CU)(c:TCS):TS:=fun D σ H=>∃ρ C E,SRel K H σ ρ/\HRel K H C/\c E ρ C/\ERel K H C E D
structure CE (X:Cx)(e:Expr)(c:TCE):Prop where
 h:JE X e (jZ X.K (Rep X.K) c)
structure CT (X:Cx)(e:Expr)(c:TCT):Prop where
 h:JT X e (jZ X.K xM c)
structure CW (X:Cx)(e:Expr)(c:TCT):Prop where
 h:JW X e (jZ X.K xM c)
structure CA (X:Cx)(es:List Expr)(c:TCA):Prop where
 h:JA X es (jZ X.K (Reps X.K) c)
structure CS (X:Cx)(st:Stmt)(c:TCS):Prop where
 h:JS X st (rM X.K c)
structure CB (X:Cx)(st:List Stmt)(c:TCS):Prop where
 h:JB X st (rM X.K c)
section
variable {X:Cx}{a b c e o i:Expr}{es:List Expr}{pos:Pos}{rQ:List Expr}{st:Stmt}{sts:List Stmt}
theorem JE.weak  (h:JE X e t)(w:∀σ H Q,t' σ H Q->t σ H Q):JE X e t':=⟨fun pins s σ H Q I q=>h.h pins s σ H Q I (w σ H Q q)⟩
theorem JT.weak  (h:JT X e t)(w:∀σ H Q,t' σ H Q->t σ H Q):JT X e t':=⟨fun pins s σ H Q I q=>h.h pins s σ H Q I (w σ H Q q)⟩
theorem JW.weak  (h:JW X e t)(w:∀σ H Q,t' σ H Q->t σ H Q):JW X e t':=⟨fun wh pins s σ H Q I q=>h.h wh pins s σ H Q I (w σ H Q q)⟩
theorem JA.weak  (h:JA X es t)(w:∀σ H Q,t' σ H Q->t σ H Q):JA X es t':=⟨fun p pins s σ H Q I q=>h.h p pins s σ H Q I (w σ H Q q)⟩
theorem JS.weak  (h:JS X st t)(w:∀D σ H,t' D σ H->t D σ H):JS X st t':=⟨fun pins s σ H D I q=>h.h pins s σ H D I (w D σ H q)⟩
theorem JB.weak  (h:JB X sts t)(w:∀D σ H,t' D σ H->t D σ H):JB X sts t':=⟨fun pins s σ H D I q=>h.h pins s σ H D I (w D σ H q)⟩
def oK (i:Nat):TCE:=fun ρ C Q=>match ρ[i]? with
 |some (some t)=>Q t C
 |_=>False
def cC (t:PV):TCE:=fun _ C Q=>Q t C
theorem cv i   (hN:X.N[i]?=some x:=by rfl)(hv:Vis X.env.scope x:=by first | exact Or.inl rfl | exact Or.inr (Or.inl rfl) | exact Or.inr (Or.inr rfl))(hd:(x==("__debug__" : Str))=false:=by decide)
  (hcd:(x==("__classdict__" : Str))=false:=by decide):CE X (.Name x pos) (oK i):=⟨JE.weak ⟨nQ hN hv hd hcd⟩ fun σ H Q zz=>qX zz fun ρ C R s h q f=> by
 delta oK at q
 split at q
 .next t e =>
  exact wJ (s.get e) fun v ev r=>⟨v,ev,f v H t C q r h Fw.refl⟩
 .exact q.elim⟩
theorem iI   (h:JE X e (tC v))(r:∀H,Rep X.K H v t):CE X e (cC t):=⟨JE.weak h fun σ H Q zz=>qX zz fun ρ C R s h q f=> f v H t C q (r H) h Fw.refl⟩
theorem kQ {i j pos}:CE X (.Constant (.int i) j pos) (cC (.int i)):=iI ⟨sG⟩ fun _=>.int i
theorem bZ {b j pos}:CE X (.Constant (.bool b) j pos) (cC (.bl b)):=iI ⟨pe_bl⟩ fun _=>.bl b
theorem oY {j pos}:CE X (.Constant .none j pos) (cC .non):=iI ⟨Q3⟩ fun _=>.non
theorem kZ {x j pos}:CE X (.Constant (.str x) j pos) (cC (.str x)):=iI ⟨uS⟩ fun _=>.str x
theorem oX     (hg:Gl X x)(hm:X.mg x=some u)(r:RelV v u)(q:∀H,Rep X.K H v t)(hd:(x==("__debug__" : Str))=false:=by decide):CE X (.Name x pos) (cC t):=iI ⟨aK hg hm r hd⟩ q
theorem mY   (hg:Gl X x)(hm:X.mg x=none)(hv:bootBuiltins x=some (.type n))(hn:x ≠ "__name__":=by decide)(hd:(x==("__debug__" : Str))=false:=by decide):CE X (.Name x pos) (cC (.ty n)):=iI (je_bltn (v:=.ty n) hg hm hv rfl hn hd) fun _=>.ty n
abbrev R2C:=PV->PV->CH->K1->Prop
def Cop (K:CU)(r:R2)(cr:R2C):Prop:=∀x y px py H C Q R,Rep K H x px->Rep K H y py->HRel K H C->cr px py C R->(∀v H' t C',R t C'->Rep K H' v t->HRel K H' C'->Fw H C H' C'->Q v H')->r x y H Q
def cOp (cr:R2C)(ca cb:TCE):TCE:=fun ρ C Q=>ca ρ C fun x C1=>cb ρ C1 fun y C2=>cr x y C2 Q
theorem uB {K}    (hr:Cop K r cr)   {Q:VK}(h:jZ K (Rep K) (cOp cr ca cb) σ H Q):tOp r (jZ K (Rep K) ca) (jZ K (Rep K) cb) σ H Q :=qX h fun ρ C R s h q f=>⟨ρ,C,_,s,h,q,fun x H1 px C1 q1 rx h1 f1=>⟨ρ,C1,_,s.imm (f1.imm h),h1,q1,fun y H2 py C2 q2 ry h2 f2 =>
  hr x y px py H2 C2 Q R (rx.imm (f2.imm h1)) ry h2 q2 fun v H' t C' q' r' h' f'=>f v H' t C' q' r' h' (f1.trans (f2.trans f'))⟩⟩
theorem hX     (ho:OpR X (binaryOp op) r)(hr:Cop X.K r cr)(ha:CE X a ca)(hb:CE X b cb):CE X (.BinOp a op b pos) (cOp cr ca cb):=⟨JE.weak ⟨pe_op ho ha.h.h hb.h.h⟩ fun _ _ _ h=>uB hr h⟩
theorem uH     (ho:OpR X (compareOp op) r)(hr:Cop X.K r cr)(ha:CE X a ca)(hb:CE X b cb)(hm:behindInMarks op b=false):CE X (.Compare a [op] [b] pos) (cOp cr ca cb):=⟨JE.weak ⟨pe_cmpR ho ha.h.h hb.h.h hm⟩ fun _ _ _ h=>uB hr h⟩
def pP (k:Bool->CH->Prop):PV->CH->Prop
 |.bl b,C=>k b C
 |_,_=>False
def bL (c:TCE):TCT:=fun ρ C Q=>c ρ C (pP Q)
theorem cE {K}      (q:pP Q t C)(r:Rep K H v t):∃b,t=.bl b/\v=.bl b/\Q b C:=by
 cases t with
 |bl b=>cases r; exact⟨b,rfl,rfl,q⟩
 |_=>exact q.elim
theorem xI {K}{c}    (h:jZ K xM (bL c) σ H Q):mT (jZ K (Rep K) c) σ H Q :=qX h fun ρ C R s h q f=>⟨ρ,C,_,s,h,q,fun x H1 px C1 q1 rx h1 f1=>by
  obtain⟨b,rfl,rfl,q2⟩:=cE q1 rx
  exact⟨b,rfl,f b H1 b C1 q2 rfl h1 f1⟩⟩
theorem wV     (ho:OpR X (compareOp op) r)(hr:Cop X.K r cr)(ha:CE X a ca)(hb:CE X b cb)(hm:behindInMarks op b=false):CT X (.Compare a [op] [b] pos) (bL (cOp cr ca cb)) :=
 ⟨JT.weak ⟨kG ho ha.h.h hb.h.h hm⟩ fun σ H Q h=>by
  refine qX h fun ρ C R s h q f=>uB hr ⟨ρ,C,_,s,h,q,fun x H1 px C1 q1 rx h1 f1=>?_⟩;obtain⟨b,rfl,rfl,q2⟩:=cE q1 rx
  exact⟨b,rfl,f b H1 b C1 q2 rfl h1 f1⟩⟩
theorem mX {c}(h:CE X e c)(he:rG e=true:=by rfl):CT X e (bL c):=⟨JT.weak ⟨pt_val h.h.h (wM he)⟩ fun _ _ _ h=>xI h⟩
def xT (cr cr':R2C)(ca cb cc:TCE):TCE:=fun ρ C Q=>ca ρ C fun x C1=>cb ρ C1 fun y C2=>cr x y C2 (pP fun b C3=>if b=true then cc ρ C3 fun z C4=>cr' y z C4 Q else Q (.bl false) C3)
theorem lM {K}    (hr:Cop K r cr)(hr':Cop K r' cr')   {Q:VK}(h:jZ K (Rep K) (xT cr cr' ca cb cc) σ H Q):iR r r' (jZ K (Rep K) ca) (jZ K (Rep K) cb) (jZ K (Rep K) cc) σ H Q:=by
 refine qX h fun ρ C R s h q f=>⟨ρ,C,_,s,h,q,fun x H1 px C1 q1 rx h1 f1=>⟨ρ,C1,_,s.imm (f1.imm h),h1,q1,fun y H2 py C2 q2 ry h2 f2 =>
  hr x y px py H2 C2 _ _ (rx.imm (f2.imm h1)) ry h2 q2 fun v H3 t C3 q3 r3 h3 f3=>by
   obtain⟨b,rfl,rfl,q4⟩:=cE q3 r3;refine⟨b,rfl,?_⟩
   cases b with
   |true =>
    exact⟨ρ,C3,_,(s.imm (f1.imm h)).imm ((f2.trans f3).imm h1),h3,q4,fun z H4 pz C4 q5 rz h4 f4=>hr' y z py pz H4 C4 Q R (ry.imm ((f3.trans f4).imm h2)) rz h4 q5 fun v H' t C' q' r' h' f'=>f v H' t C' q' r' h' (f1.trans (f2.trans (f3.trans (f4.trans f'))))⟩
   |false=>exact f _ H3 _ C3 q4 (.bl false) h3 (f1.trans (f2.trans f3))⟩⟩
theorem Za     (ho:OpR X (compareOp op) r)(ho':OpR X (compareOp op') r')(hr:Cop X.K r cr)(hr':Cop X.K r' cr')(ha:CE X a ca)(hb:CE X b cb)(hc:CE X c cc)
  (hm:lastMarks [op,op'] [b,c]=false:=by with_unfolding_all rfl):CE X (.Compare a [op,op'] [b,c] pos) (xT cr cr' ca cb cc):=⟨JE.weak ⟨Q7 ho ho' ha.h.h hb.h.h hc.h.h hm⟩ fun _ _ _ h=>lM hr hr' h⟩
theorem vF     (ho:OpR X (compareOp op) r)(ho':OpR X (compareOp op') r')(hr:Cop X.K r cr)(hr':Cop X.K r' cr')(ha:CE X a ca)(hb:CE X b cb)(hc:CE X c cc)
  (hm:lastMarks [op,op'] [b,c]=false:=by with_unfolding_all rfl):CT X (.Compare a [op,op'] [b,c] pos) (bL (xT cr cr' ca cb cc)) :=
 ⟨JT.weak ⟨QZ ho ho' ha.h.h hb.h.h hc.h.h hm⟩ fun σ H Q h=>by
  refine qX h fun ρ C R s h q f=>lM hr hr' ⟨ρ,C,_,s,h,q,fun x H1 px C1 q1 rx h1 f1=>?_⟩;obtain⟨b,rfl,rfl,q2⟩:=cE q1 rx
  exact⟨b,rfl,f b H1 b C1 q2 rfl h1 f1⟩⟩
def cUn (cr:PV->CH->K1->Prop)(ca:TCE):TCE:=fun ρ C Q=>ca ρ C fun x C1=>cr x C1 Q
def Cun (K:CU)(r:V->Hp->VK->Prop)(cr:PV->CH->K1->Prop):Prop:=∀x px H C Q R,Rep K H x px->HRel K H C->cr px C R->(∀v H' t C',R t C'->Rep K H' v t->HRel K H' C'->Fw H C H' C'->Q v H')->r x H Q
theorem ce_un     (ho:UnR X (unaryOp op) r)(hr:Cun X.K r cr)(ha:CE X a ca):CE X (.UnaryOp op a pos) (cUn cr ca):=⟨JE.weak ⟨pe_un ho ha.h.h⟩ fun σ H Q zz=>qX zz fun ρ C R s h q f=>
 ⟨ρ,C,_,s,h,q,fun x H1 px C1 q1 rx h1 f1=>hr x px H1 C1 Q R rx h1 q1 fun v H' t C' q' r' h' f'=>f v H' t C' q' r' h' (f1.trans f')⟩⟩
def cAnd (t u:TCT):TCT:=fun ρ C Q=>t ρ C fun b C1=>if b=true then u ρ C1 Q else Q false C1
def cOr (t u:TCT):TCT:=fun ρ C Q=>t ρ C fun b C1=>if b=true then Q true C1 else u ρ C1 Q
def cNot (t:TCT):TCT:=fun ρ C Q=>t ρ C fun b C1=>Q (!b) C1
theorem cw_pt  (h:CW X e t):CT X e t:=⟨⟨h.h.h.pt⟩⟩
theorem cw_and1  (h:CT X a t):CW X (.BoolOp .And [a] pos) t:=⟨⟨pw_and1 h.h.h⟩⟩
theorem cw_or1  (h:CT X a t):CW X (.BoolOp .Or [a] pos) t:=⟨⟨QX h.h.h⟩⟩
theorem cw_and  (ha:CT X a t)(hb:CW X (.BoolOp .And (b::rQ) pos) u):CW X (.BoolOp .And (a::b::rQ) pos) (cAnd t u):=⟨JW.weak ⟨pw_and ha.h.h hb.h.h⟩ fun σ H Q zz=>qX zz fun ρ C R s h q f=>
 ⟨ρ,C,_,s,h,q,fun x H1 y C1 q1 e h1 f1=>by
  cases e
  cases x with
  |true=>exact⟨ρ,C1,R,s.imm (f1.imm h),h1,q1,fun v H' t C' q' r' h' f'=>f v H' t C' q' r' h' (f1.trans f')⟩
  |false=>exact f false H1 false C1 q1 rfl h1 f1⟩⟩
theorem cw_or  (ha:CT X a t)(hb:CW X (.BoolOp .Or (b::rQ) pos) u):CW X (.BoolOp .Or (a::b::rQ) pos) (cOr t u):=⟨JW.weak ⟨pw_or ha.h.h hb.h.h⟩ fun σ H Q zz=>qX zz fun ρ C R s h q f=>
 ⟨ρ,C,_,s,h,q,fun x H1 y C1 q1 e h1 f1=>by
  cases e
  cases x with
  |true=>exact f true H1 true C1 q1 rfl h1 f1
  |false=>exact⟨ρ,C1,R,s.imm (f1.imm h),h1,q1,fun v H' t C' q' r' h' f'=>f v H' t C' q' r' h' (f1.trans f')⟩⟩⟩
theorem nX  (ha:CT X a t):CT X (.UnaryOp .Not a pos) (cNot t):=⟨JT.weak ⟨pt_not ha.h.h⟩ fun σ H Q zz=>qX zz fun ρ C R s h q f=>
 ⟨ρ,C,_,s,h,q,fun x H1 y C1 q1 e h1 f1=>by cases e; exact f _ H1 _ C1 q1 rfl h1 f1⟩⟩
def cIf (t:TCT)(ca cb:TCE):TCE:=fun ρ C Q=>t ρ C fun b C1=>if b=true then ca ρ C1 Q else cb ρ C1 Q
theorem ce_if   (hc:CT X c t)(ha:CE X a ca)(hb:CE X b cb):CE X (.IfExp c a b pos) (cIf t ca cb):=⟨JE.weak ⟨Q5 hc.h.h ha.h.h hb.h.h⟩ fun σ H Q zz=>qX zz fun ρ C R s h q f=>
 ⟨ρ,C,_,s,h,q,fun x H1 y C1 q1 e h1 f1=>by
  cases e
  cases x with
  |true=>exact⟨ρ,C1,R,s.imm (f1.imm h),h1,q1,fun v H' t C' q' r' h' f'=>f v H' t C' q' r' h' (f1.trans f')⟩
  |false=>exact⟨ρ,C1,R,s.imm (f1.imm h),h1,q1,fun v H' t C' q' r' h' f'=>f v H' t C' q' r' h' (f1.trans f')⟩⟩⟩
def mR:TCA:=fun _ C Q=>Q [] C
def bW (ca:TCE)(cr:TCA):TCA:=fun ρ C Q=>ca ρ C fun x C1=>cr ρ C1 fun xs C2=>Q (x::xs) C2
theorem eQ:CA X [] mR:=⟨JA.weak ⟨rX⟩ fun σ H Q zz=>qX zz fun ρ C R s h q f=> f [] H [] C q .nil h Fw.refl⟩
theorem xQ   (ha:CE X e ca)(hr:CA X es cr)(hs:noStar e=true:=by rfl):CA X (e::es) (bW ca cr):=⟨JA.weak ⟨wX ha.h.h hr.h.h hs⟩ fun σ H Q zz=>qX zz fun ρ C R s h q f=>
 ⟨ρ,C,_,s,h,q,fun x H1 px C1 q1 rx h1 f1=>⟨ρ,C1,_,s.imm (f1.imm h),h1,q1,fun xs H2 ps C2 q2 rs h2 f2=>f (x::xs) H2 (px::ps) C2 q2 (.cons (rx.imm (f2.imm h1)) rs) h2 (f1.trans f2)⟩⟩⟩
def cTup (ca:TCA):TCE:=fun ρ C Q=>ca ρ C fun xs C1=>xs.length<=sizeLine/\Q (.tup xs) C1
def cLst (ca:TCA):TCE:=fun ρ C Q=>ca ρ C fun xs C1=>xs.length<=sizeLine/\∀p,C1 p=none->Q (.ref p) (jQ C1 p (.lst xs))
theorem gZ {x1}  (h:CA X es ca):CE X (.Tuple es x1 pos) (cTup ca):=⟨JE.weak ⟨Q2 h.h.h⟩ fun σ H Q zz=>qX zz fun ρ C R s h q f=>
 ⟨ρ,C,_,s,h,q,fun xs H1 ps C1 q1 rs h1 f1=>⟨by rw[rs.len]; exact q1.1,fun p hp=>f (.ref p) _ (.tup ps) C1 q1.2 (.tup vQ (rs.imm (Imm.new hp _))) (h1.new hp _) (f1.trans (Fw.new hp _))⟩⟩⟩
theorem iQ  (h:CA X es ca):CE X (.List es pos) (cLst ca):=⟨JE.weak ⟨nG h.h.h⟩ fun σ H Q zz=>qX zz fun ρ C R s h q f=>
 ⟨ρ,C,_,s,h,q,fun xs H1 ps C1 q1 rs h1 f1=>⟨by rw[rs.len]; exact q1.1,fun p hp=>f (.ref p) _ (.ref p) _ (q1.2 p (h1.fresh hp)) (.ref p) (h1.lay hp ⟨xs,vQ,rs.imm (Imm.new hp _)⟩) (f1.trans (Fw.lay hp _ _))⟩⟩⟩
def cDNew:TCE:=fun _ C Q=>∀p,C p=none->Q (.ref p) (jQ C p (.dK []))
theorem ce_dnew:CE X (.Dict [] [] pos) cDNew:=⟨JE.weak ⟨Q6⟩ fun σ H Q zz=>qX zz fun ρ C R s h q f=> fun p hp=>f (.ref p) _ (.ref p) _ (q p (h.fresh hp)) (.ref p) (h.lay hp ⟨[],vQ,.nil⟩) (Fw.lay hp _ _)⟩
abbrev GC:=List PV->CH->K1->Prop
def spC (K:CU)(G:GC):Sp:=fun vs H Q _=>∃ts C R,Reps K H vs ts/\HRel K H C/\G ts C R/\∀v H' t C',R t C'->Rep K H' v t->HRel K H' C'->Fw H C H' C'->Q v H'
def fL (G:GC)(ca:TCA):TCE:=fun ρ C Q=>ca ρ C fun xs C1=>G xs C1 Q
theorem ce_call         {p}  (F:eX X.prog X.w X.K X.mg X.base CX k f fd ps (spC X.K G))(hr:Room k X.A)(hg:Gl X x)(hm:X.mg x=some (.ref f))(hk:PySem.W.keepIn X.K (.ref f)=true)(hb:Binds X.K fd ps [])(hx:mZ CX X E)
  (ha:CA X (e::es) ca) (hdb:(x==("__debug__" : Str))=false:=by decide) (hs:noStar e=true:=by rfl) (hall:es.all noStar=true:=by rfl):CE X (.Call (.Name x p) (e::es) [] pos) (fL G ca) :=
 ⟨JE.weak (je_call F hr hg hm hk hb .nil hx ha.h hdb hs hall) fun σ H Q zz=>qX zz fun ρ C R s h q f=>
  ⟨ρ,C,_,s,h,q,fun xs H1 ts C1 q1 rs h1 f1=>⟨ts,C1,R,by rw[Ad]; exact rs,h1,q1,fun v H' t C' q' r' h' f'=>f v H' t C' q' r' h' (f1.trans f')⟩⟩⟩
def Cbi (K:CU)(r:List V->Hp->VK->Prop)(cr:GC):Prop:=∀xs ps H C Q R,Reps K H xs ps->HRel K H C->cr ps C R->(∀v H' t C',R t C'->Rep K H' v t->HRel K H' C'->Fw H C H' C'->Q v H')->r xs H Q
theorem xX {id}    {p}  (hc:CallR X (.builtin id) r)(hr:Cbi X.K r cr)(hg:Gl X x)(hm:X.mg x=none)(hv:bootBuiltins x=some (.builtin id))(ha:CA X (e::es) ca)(hn:x ≠ "__name__":=by decide)(hdb:(x==("__debug__" : Str))=false:=by decide)
  (hs:noStar e=true:=by rfl) (hall:es.all noStar=true:=by rfl):CE X (.Call (.Name x p) (e::es) [] pos) (fL cr ca):=⟨JE.weak ⟨QW hc hg hm hv ha.h.h hn hdb hs hall⟩ fun σ H Q zz=>qX zz fun ρ C R s h q f=>
  ⟨ρ,C,_,s,h,q,fun xs H1 ts C1 q1 rs h1 f1=>hr xs ts H1 C1 Q R rs h1 q1 fun v H' t C' q' r' h' f'=>f v H' t C' q' r' h' (f1.trans f')⟩⟩
theorem gU     {p}  (hc:CallR X (.type T) r)(hr:Cbi X.K r cr)(hg:Gl X x)(hm:X.mg x=none)(hv:bootBuiltins x=some (.type T))(ha:CA X (e::es) ca)(hn:x ≠ "__name__":=by decide)(hdb:(x==("__debug__" : Str))=false:=by decide)
  (hs:noStar e=true:=by rfl) (hall:es.all noStar=true:=by rfl):CE X (.Call (.Name x p) (e::es) [] pos) (fL cr ca):=⟨JE.weak ⟨kA hc hg hm hv ha.h.h hn hdb hs hall⟩ fun σ H Q zz=>qX zz fun ρ C R s h q f=>
  ⟨ρ,C,_,s,h,q,fun xs H1 ts C1 q1 rs h1 f1=>hr xs ts H1 C1 Q R rs h1 q1 fun v H' t C' q' r' h' f'=>f v H' t C' q' r' h' (f1.trans f')⟩⟩
theorem ce_ix    (ho:IxR X r)(hr:Cop X.K r cr)(ha:CE X a ca)(hb:CE X b cb)(hs:rH b):CE X (.Subscript a b pos) (cOp cr ca cb):=⟨JE.weak ⟨pe_ix ho ha.h.h hb.h.h hs⟩ fun _ _ _ h=>uB hr h⟩
end
section
variable {X:Cx}{a b c e o i:Expr}{es:List Expr}{pos:Pos}{rQ:List Expr}{st:Stmt}{sts:List Stmt}
def cNext:TCS:=fun E ρ C=>E.nx ρ C
def cSeq (t u:TCS):TCS:=fun E ρ C=>t (E.wn (u E)) ρ C
theorem gX:CB X [] cNext:=⟨JB.weak ⟨cX⟩ fun D σ H zz=>qX zz fun ρ C E s h q f=> f.nx σ H ρ C q s h Fw.refl⟩
theorem fQ  (h:CS X st t):CB X [st] t:=⟨⟨mQ h.h.h⟩⟩
theorem yQ  (h1:CS X st t)(h2:CB X sts u):CB X (st::sts) (cSeq t u):=⟨JB.weak ⟨gQ h1.h.h h2.h.h⟩ fun D σ H zz=>qX zz fun ρ C E s h q f=>
 ⟨ρ,C,_,s,h,q,⟨fun σ' H' ρ' C' n s' h' f'=>⟨ρ',C',E,s',h',n,f.fw f'⟩,f.rt,f.bk,f.ct⟩⟩⟩
def cDrop (ce:TCE):TCS:=fun E ρ C=>ce ρ C fun _ C1=>E.nx ρ C1
theorem fB  (he:CE X e ce)(hs:swapsWith e none pos.line X.env=pure false:=by rfl):CS X (.Expr e pos) (cDrop ce):=⟨JS.weak ⟨vZ he.h.h hs⟩ fun D σ H zz=>qX zz fun ρ C E s h q f=>
 ⟨ρ,C,_,s,h,q,fun x H1 px C1 q1 rx h1 f1=>f.nx σ H1 ρ C1 q1 (s.imm (f1.imm h)) h1 f1⟩⟩
def cRet (ce:TCE):TCS:=fun E ρ C=>ce ρ C E.rt
theorem lQ  (he:CE X e ce):CS X (.Return (some e) pos) (cRet ce):=⟨JS.weak ⟨kP he.h.h⟩ fun D σ H zz=>qX zz fun ρ C E s h q f=>
 ⟨ρ,C,_,s,h,q,fun x H1 px C1 q1 rx h1 f1=>f.rt x H1 px C1 q1 rx h1 f1⟩⟩
def cIfS (t:TCT)(u v:TCS):TCS:=fun E ρ C=>t ρ C fun b C1=>if b=true then u E ρ C1 else v E ρ C1
theorem qZ    (hc:CT X c t)(ha:CB X x u)(hb:CB X y v):CS X (.If c x y pos) (cIfS t u v):=⟨JS.weak ⟨pZ hc.h.h ha.h.h hb.h.h⟩ fun D σ H zz=>qX zz fun ρ C E s h q f=>
 ⟨ρ,C,_,s,h,q,fun x H1 y C1 q1 e h1 f1=>by
  cases e
  cases x with
  |true=>exact⟨ρ,C1,E,s.imm (f1.imm h),h1,q1,f.fw f1⟩
  |false=>exact⟨ρ,C1,E,s.imm (f1.imm h),h1,q1,f.fw f1⟩⟩⟩
def cSet (i:Nat)(ce:TCE):TCS:=fun E ρ C=>ce ρ C fun t C1=>E.nx (ρ.set i (some t)) C1
theorem cs_set {i}    (hN:X.N.Nodup)(hi:X.N[i]?=some x)(hx:Loc X.env.scope x)(he:CE X e ce)(hs:swapsWith e (some (.Name x pos')) pos.line X.env=pure false:=by rfl)(hf:X.fn x=true\/X.env.scope.names.lookup x=some .local:=by first | exact .inl rfl | exact .inr rfl | assumption):
  CS X (.Assign [.Name x pos'] e pos) (cSet i ce):=⟨JS.weak ⟨zK hN hi hx he.h.h hs hf⟩ fun D σ H zz=>qX zz fun ρ C E s h q f=>
 ⟨ρ,C,_,s,h,q,fun x H1 px C1 q1 rx h1 f1=>f.nx _ H1 _ C1 q1 ((s.imm (f1.imm h)).set rx i) h1 f1⟩⟩
abbrev TCG:=PV->CSt->CH->(CSt->CH->Prop)->Prop
def nS (K:CU)(c:TCG):TG:=fun v σ H Q=>∃t ρ C R,Rep K H v t/\SRel K H σ ρ/\HRel K H C/\c t ρ C R/\∀σ' H' ρ' C',R ρ' C'->SRel K H' σ' ρ'->HRel K H' C'->Fw H C H' C'->Q σ' H'
structure CG (X:Cx)(e:Expr)(c:TCG):Prop where
 h:JG X e (nS X.K c)
theorem JG.weak  (h:JG X e t)(w:∀v σ H Q,t' v σ H Q->t v σ H Q):JG X e t':=⟨fun pins s σ H v u Q I r q=>h.h pins s σ H v u Q I r (w v σ H Q q)⟩
def dName (i:Nat):TCG:=fun t ρ C Q=>Q (ρ.set i (some t)) C
theorem cg_name {i}  (hN:X.N.Nodup)(hi:X.N[i]?=some x)(hx:Loc X.env.scope x)(hf:X.fn x=true\/X.env.scope.names.lookup x=some .local:=by first | exact .inl rfl | exact .inr rfl | assumption):CG X (.Name x pos) (dName i) :=
 ⟨JG.weak ⟨wB hN hi hx hf⟩ fun v σ H Q zz=>el45 zz fun t ρ C R r s h q f=> f _ H _ C q (s.set r i) h Fw.refl⟩
def cAsg (ce:TCE)(g:TCG):TCS:=fun E ρ C=>ce ρ C fun t C1=>g t ρ C1 E.nx
theorem wF    (he:CE X e ce)(hg:CG X tg g)(hs:swapsWithSole [tg] e pos.line X.env=pure false:=by rfl)(hw:swappedStores [tg] e X.env=pure none:=by rfl)
  (h1:(assignEach [tg] X.env).map (·.2)=[assign tg X.env]:=by rfl):CS X (.Assign [tg] e pos) (cAsg ce g):=⟨JS.weak ⟨ps_asg he.h.h hg.h.h hs hw h1⟩ fun D σ H zz=>qX zz fun ρ C E s h q f=>
 ⟨ρ,C,_,s,h,q,fun x H1 px C1 q1 rx h1 f1=>⟨px,ρ,C1,E.nx,rx,s.imm (f1.imm h),h1,q1,fun σ' H' ρ' C' q' s' h' f'=>f.nx σ' H' ρ' C' q' s' h' (f1.trans f')⟩⟩⟩
@[irreducible] def bE:PV->PV->PV->CH->(CH->Prop)->Prop:=fun o i v C Q=>match o,i with
 |.ref p,.int k=>match C p with
  |some (.lst xs)=>match ixN xs.length k with
   |some j=>Q (jQ C p (.lst (xs.set j v)))
   |none=>False
  |_=>False
 |_,_=>False
def dSub (co ci:TCE)(u:PV->PV->PV->CH->(CH->Prop)->Prop):TCG:=fun t ρ C Q=>co ρ C fun o C1=>ci ρ C1 fun i C2=>u o i t C2 fun C3=>Q ρ C3
theorem bG {co ci:TCE}(ho:CE X o co)(hi:CE X i ci)
  (ha:∀v,assign (.Subscript o i pos) X.env v=(do
   let ov <- holding [v] (eval o X.env)
   let iv <- holding [v,ov] (eval i X.env)
   standAt pos
   holding [v,ov,iv] (setItem ov iv v)
   release [v,ov,iv] []):=by intro _; rfl):CG X (.Subscript o i pos) (dSub co ci bE):=⟨JG.weak ⟨pg_sub ho.h.h hi.h.h QR ha⟩ fun v σ H Q zz=>el45 zz fun t ρ C R r s h q f=>
 ⟨ρ,C,_,s,h,q,fun x H1 px C1 q1 rx h1 f1=>⟨ρ,C1,_,s.imm (f1.imm h),h1,q1,fun y H2 py C2 q2 ry h2 f2=>by
  have r2:=r.imm ((f1.trans f2).imm h);have s2:=s.imm ((f1.trans f2).imm h);unfold bE at q2
  split at q2
  .next p k =>
   split at q2
   .next xs e =>
    split at q2
    .next j ej =>
     obtain⟨vs,ev,rv⟩:=h2 p _ e;have rx2:=rx.imm (f2.imm h1);cases rx2;cases ry;refine⟨p,vs,k,j,rfl,rfl,ev,by rw[rv.len]; exact ej,?_⟩;exact f σ _ ρ _ q2 (s2.imm (Imm.mut ev rfl _)) (h2.put ev rfl ⟨_,vQ,(rv.set r2 j).imm (Imm.mut ev rfl _)⟩) (f1.trans (f2.trans (Fw.put e _ _)))
    .exact q2.elim
   .exact q2.elim
  .exact q2.elim⟩⟩⟩
def cWhl (t:TCT)(u:TCS)(E:CEnds):Nat->CSt->CH->Prop
 |0,_,_=>False
 |n+1,ρ,C=>t ρ C fun b C1=>if b=true then u (E.lp (cWhl t u E n)) ρ C1 else E.nx ρ C1
def cWhile (t:TCT)(u:TCS):TCS:=fun E ρ C=>∃n,cWhl t u E n ρ C
theorem X1    (hp:PassesOwn (model X.prog X.w) X.A X.env X.xe)(hc:CT X c t)(hb:CB X body u):CS X (.While c body [] pos) (cWhile t u):=⟨JS.weak ⟨iN hp hc.h.h hb.h.h⟩ fun D σ H ⟨ρ,C,E,s,h,⟨n,q⟩,f⟩=>by
 refine⟨fun m σ' H'=>∃ρ' C',SRel X.K H' σ' ρ'/\HRel X.K H' C'/\Fw H C H' C'/\cWhl t u E m ρ' C',⟨n,ρ,C,s,h,Fw.refl,q⟩,?_⟩;rintro m σ1 H1 ⟨ρ1,C1,s1,h1,f1,q1⟩
 cases m with
 |zero=>exact q1.elim
 |succ m =>
  refine⟨ρ1,C1,_,s1,h1,q1,fun b H2 b' C2 q2 e h2 f2=>?_⟩;cases e
  cases b with
  |true =>
   exact(AV rfl)▸⟨fun σ' H'=>∃ρ' C',SRel X.K H' σ' ρ'/\HRel X.K H' C'/\Fw H C H' C'/\cWhl t u E m ρ' C',fun σ' H' z=>⟨m,By m,z⟩,
    ρ1,C2,_,s1.imm (f2.imm h1),h2,q2,⟨fun σ' H' ρ' C' q' s' h' f'=>⟨ρ',C',s',h',f1.trans (f2.trans f'),q'⟩,fun v H' t C' q' r' h' f'=>f.rt v H' t C' q' r' h' (f1.trans (f2.trans f')),
     fun σ' H' ρ' C' q' s' h' f'=>f.nx σ' H' ρ' C' q' s' h' (f1.trans (f2.trans f')),fun σ' H' ρ' C' q' s' h' f'=>⟨ρ',C',s',h',f1.trans (f2.trans f'),q'⟩⟩⟩
  |false =>
   exact(AR AE)▸f.nx σ1 H2 ρ1 C2 q2 (s1.imm (f2.imm h1)) h2 (f1.trans f2)⟩
def gW (g:TCG)(u:TCS)(E:CEnds):List PV->CSt->CH->Prop
 |[],ρ,C=>E.nx ρ C
 |x::r,ρ,C=>g x ρ C fun ρ1 C1=>u (E.lp (gW g u E r)) ρ1 C1
structure Qj (K:CU)(H:Hp)(J:It)(ps:List PV):Prop where
 go:∀i H',i < ps.length->Imm H H'->J.go i H'
 yl:∀i H' x H'',Imm H H'->J.yld i H' x H''->H''=H'/\∀t,ps[i]?=some t->Rep K H' x t
 st:∀H',Imm H H'->J.stop ps.length H'
theorem eL {K}           (j:Qj K H J ps)(s:SRel K H σ ρ)(h:HRel K H C)(q:gW g u E ps ρ C)(f:ERel K H C E D):
  ∃W:Nat->Nat->St->Hp->Prop,(∃m,W 0 m σ H)/\∀i m σ H,W i m σ H ->
   (J.stop i H/\D.nx σ H)\/(J.go i H/\∃N,(∀σ' H',N σ' H'->∃m',m' < m/\W (i+1) m' σ' H')/\∀x H',J.yld i H x H'->nS K g x σ H' fun σ2 H2=>rM K u { D with nx:=N,ct:=N,bk:=D.nx } σ2 H2):=by
 refine⟨fun i m σ' H'=>m=ps.length - i/\i<=ps.length/\∃ρ' C',SRel K H' σ' ρ'/\HRel K H' C'/\Fw H C H' C'/\gW g u E (ps.drop i) ρ' C',⟨ps.length,rfl,Aa _,ρ,C,s,h,Fw.refl,q⟩,?_⟩;rintro i m σ1 H1 ⟨rfl,hi,ρ1,C1,s1,h1,f1,q1⟩;have k1:=f1.imm h
 by_cases hlt:i < ps.length
 .refine .inr ⟨j.go i H1 hlt k1,fun σ' H'=>∃ρ' C',SRel K H' σ' ρ'/\HRel K H' C'/\Fw H C H' C'/\gW g u E (ps.drop (i+1)) ρ' C',fun σ' H' z=>⟨ps.length - (i+1),by omega,rfl,hlt,z⟩,fun x H2 y=>?_⟩
  obtain⟨rfl,y⟩:=j.yl i H1 x H2 k1 y;rw[BR hlt] at q1
  exact⟨ps[i],ρ1,C1,_,y _ (AN hlt),s1,h1,q1,fun σ' H' ρ' C' q' s' h' f'=>⟨ρ',C',_,s',h',q',⟨fun σ3 H3 ρ3 C3 q3 s3 h3 f3=>⟨ρ3,C3,s3,h3,f1.trans (f'.trans f3),q3⟩,fun v H3 t C3 q3 r3 h3 f3=>f.rt v H3 t C3 q3 r3 h3 (f1.trans (f'.trans f3)),
   fun σ3 H3 ρ3 C3 q3 s3 h3 f3=>f.nx σ3 H3 ρ3 C3 q3 s3 h3 (f1.trans (f'.trans f3)),fun σ3 H3 ρ3 C3 q3 s3 h3 f3=>⟨ρ3,C3,s3,h3,f1.trans (f'.trans f3),q3⟩⟩⟩⟩
 .have e:i=ps.length:=by lia
  subst e;rw[Bz] at q1;exact .inl ⟨j.st H1 k1,f.nx σ1 H1 ρ1 C1 q1 s1 h1 f1⟩
theorem oP {K}  {a}   (h:SqT K H a vs)(r:Reps K H vs ts):Qj K H (Itt K a) ts where
 go:=fun i H' l k=>⟨vs,vs[i]'(by rwa [r.len]),SqT.imm h k,AN _⟩
 yl:=fun i H' x H'' k y=>⟨y.1,fun t e=>by
  obtain⟨v,ev,rv⟩:=((r.imm k).get e);have:=y.2 vs (SqT.imm h k)
  rw[ev] at this; cases this; exact rv⟩
 st:=fun H' k=>⟨vs,SqT.imm h k,by exact r.len▸AI _⟩
theorem it_rng {K}   : Qj K H (Itr 0 n) ((List.range n).map fun k=>PV.int (k:Nat)) where
 go:=fun i H' l k=>by rwa [AL,List.length_range] at l
 yl:=fun i H' x H'' k y=>⟨y.1,fun t e=>by
  rw[y.2];rw[Ah] at e
  cases z:(List.range n)[i]? with
  |none=>rw[z] at e; cases e
  |some w =>
   rw[z] at e;cases e;have:=AX.mp z;obtain⟨l,e⟩:=this;rw[List.getElem_range] at e;subst e;rw[Int.zero_add]
   exact .int _⟩
 st:=fun H' k=>by rw[AL,List.length_range]; exact AI _
@[irreducible] def mL (ce:TCE)(g:TCG)(u:TCS):TCS:=fun E ρ C=>ce ρ C fun t C1=>match t with
 |.tup xs=>gW g u E xs ρ C1
 |.kt xs=>gW g u E xs ρ C1
 |_=>False
theorem jE {tg iter:Expr}{body:List Stmt}{ce:TCE}{g:TCG}{u:TCS}(hp:PassesOwn (model X.prog X.w) X.A X.env X.xe)(hc:X.calm=true)(hi:CE X iter ce)(hg:CG X tg g)(hb:CB X body u)
  (hs:∀x,foldedSetIterable iter X.env x=pure x:=by intro _; rfl):CS X (.For tg iter body [] pos) (mL ce g u):=⟨JS.weak ⟨vP hp hc (Q1 hi.h.h) hg.h.h hb.h.h hs⟩ fun D σ H zz=>qX zz fun ρ C E s h q f=> by
 unfold mL at q
 exact⟨ρ,C,_,s,h,q,fun x H1 px C1 q1 rx h1 f1=>by
  cases rx with
  |@tup a vs ts e r=>exact⟨a,rfl,⟨vs,SqT.of e⟩,eL (oP (SqT.of e) r) (s.imm (f1.imm h)) h1 q1 (f.fw f1)⟩
  |@kt a vs ts e r=>exact⟨a,rfl,⟨vs,e⟩,eL (oP e r) (s.imm (f1.imm h)) h1 q1 (f.fw f1)⟩
  |_=>exact q1.elim⟩⟩
def cForR (ca:TCA)(g:TCG)(u:TCS):TCS:=fun E ρ C=>ca ρ C fun ts C1=>match ts with
 |[.int j]=>-(2 ^ 62)<=j/\j < 2 ^ 62/\gW g u E ((List.range j.toNat).map fun k=>PV.int (k:Nat)) ρ C1
 |_=>False
theorem cs_forR {tg:Expr}{body:List Stmt}{ca:TCA}{g:TCG}{u:TCS}{p pos2:Pos}(hp:PassesOwn (model X.prog X.w) X.A X.env X.xe)(hc:X.calm=true)(hgl:Gl X "range")(hm:X.mg "range" = none)(ha:CA X [a] ca)(hg:CG X tg g)(hb:CB X body u)
  (hst:noStar a=true:=by rfl) (hs:∀x,foldedSetIterable (.Call (.Name "range" p) [a] [] pos2) X.env x=pure x:=by intro _; rfl):CS X (.For tg (.Call (.Name "range" p) [a] [] pos2) body [] pos) (cForR ca g u):=⟨JS.weak ⟨vP hp hc (uA hgl hm ha.h.h (vX hst)) hg.h.h hb.h.h hs⟩ fun D σ H zz=>qX zz fun ρ C E s h q f=>
 ⟨ρ,C,_,s,h,q,fun xs H1 ts C1 q1 rs h1 f1=>by
  split at q1
  .next j =>
   cases rs with
   |cons r0 r =>
    cases r;cases r0;exact⟨j,rfl,q1.1,q1.2.1,eL it_rng (s.imm (f1.imm h)) h1 q1.2.2 (f.fw f1)⟩
  .exact q1.elim⟩⟩
def eZ (t:TCT)(c:TCE)(ρ:CSt)(Q:K1):List PV->List PV->CH->Prop
 |[],acc,C=>∀p,C p=none->Q (.ref p) (jQ C p (.lst acc))
 |x::r,acc,C=>t (some x::ρ) C fun b C1=>if b=true then c (some x::ρ) C1 fun y C2=>acc.length < sizeLine/\eZ t c ρ Q r (acc++[y]) C2 else eZ t c ρ Q r acc C1
structure CF (X:Cx)(ifs:List Expr)(c:TCT):Prop where
 h:JF X ifs (jZ X.K xM c)
def Zg:TCT:=fun _ C Q=>Q true C
theorem JF.weak   (h:JF X ifs t)(w:∀σ H Q,t' σ H Q->t σ H Q):JF X ifs t':=⟨fun pins s σ H Q I q=>h.h pins s σ H Q I (w σ H Q q)⟩
theorem yW:CF X [] Zg:=⟨JF.weak ⟨Q0⟩ fun σ H Q zz=>qX zz fun ρ C R s h q f=> f true H true C q rfl h Fw.refl⟩
theorem comp_it {K}        {c}  {Q:VK}(j:Qj K H J ps)(s:SRel K H σ ρ)(h:HRel K H C)(q:eZ t c ρ R ps [] C)
  (h0:HRel K H0 C0) (f0:Fw H0 C0 H C) (f:∀v H' p C',R p C'->Rep K H' v p->HRel K H' C'->Fw H0 C0 H' C'->Q v H')  (hD:H D=none) :
  ∃W:Nat->Nat->List V->Hp->Prop,(∃m,W 0 m [] (upd H D (.lst [])))/\∀i m ys H,W i m ys H ->
   (J.stop i H/\Q (.ref D) H)\/(J.go i H/\∀x H',J.yld i H x H'->jZ K xM t (some x::σ) H' fun b H2 =>
    if b=true then jZ K (Rep K) c (some x::σ) H2 fun y H3=>H3 D=some (.lst ys)/\ys.length < sizeLine/\∃m',m' < m/\W (i+1) m' (ys++[y]) (upd H3 D (.lst (ys++[y])))
    else ∃m',m' < m/\W (i+1) m' ys H2):=by
 refine⟨fun i m ys H'=>m=ps.length - i/\i<=ps.length/\∃acc C',H' D=some (.lst ys)/\C' D=none/\Reps K H' ys acc/\HRel K H' C'/\Fw H C H' C'/\eZ t c ρ R (ps.drop i) acc C',
  ⟨ps.length,rfl,Aa _,[],C,vQ,h.fresh hD,.nil,h.new hD _,Fw.new hD _,q⟩,?_⟩
 rintro i m ys H1 ⟨rfl,hi,acc,C1,e1,n1,r1,h1,f1,q1⟩;have k1:=f1.imm h
 by_cases hlt:i < ps.length
 .refine .inr ⟨j.go i H1 hlt k1,fun x H2 y=>?_⟩
  obtain⟨rfl,y⟩:=j.yl i H1 x H2 k1 y;have rx:=y _ (AN hlt);rw[BR hlt] at q1;refine⟨some ps[i]::ρ,C1,_,.cons rx (s.imm k1),h1,q1,fun b H3 b' C3 q3 e h3 f3=>?_⟩;cases e;obtain⟨n3,e3⟩:=f3 D (by rw[n1]; rfl) (by lia);rw[e1] at e3;rw[n1] at n3;have k3:=f3.imm h1
  cases b with
  |true =>
   refine⟨some ps[i]::ρ,C3,_,.cons (rx.imm k3) ((s.imm k1).imm k3),h3,q3,fun v H4 p C4 q4 r4 h4 f4=>nI (f4 D (by rw[n3]; rfl) (by lia)) fun n4 e4=>?_⟩;rw[e3] at e4;rw[n3] at n4;have m4:Imm H4 (upd H4 D (.lst (ys++[v]))):=Imm.mut e4 rfl _;refine⟨e4,by rw[r1.len]; exact q4.1,ps.length - (i+1),by lia,rfl,hlt,acc++[p],C4,vQ,n4,?_,?_,?_,q4.2⟩
   .exact (((r1.imm k3).imm (f4.imm h3)).append (.cons r4 .nil)).imm m4
   .intro a o ca
    have ne:a≠D:=fun z=>by subst z; rw[n4] at ca; cases ca
    exact(h4 a o ca).imm m4 (wQ ne)
   .intro a ca na
    have ne:a≠D:=fun z=>na (z▸hD);exact nI ((f1.trans (f3.trans f4)) a ca na) fun x1 x2=>⟨x1,(wQ ne).trans x2⟩
  |false =>
   exact⟨ps.length - (i+1),by lia,rfl,hlt,acc,C3,e3,n3,r1.imm k3,h3,f1.trans f3,q3⟩
 .have e:i=ps.length:=by lia
  subst e;rw[Bz] at q1;refine .inl ⟨j.st H1 k1,f (.ref D) H1 (.ref D) _ (q1 D n1) (.ref D) ?_ ?_⟩
  .intro a o ca
   by_cases z:a=D
   .subst z; rw[qQ] at ca; cases ca; exact⟨ys,e1,r1⟩
   .rw [zQ z] at ca; exact h1 a o ca
  .intro a ca na
   obtain⟨x1,x2⟩:=f0 a ca na;have na':H a≠none:=by rwa [x2]
   obtain⟨y1,y2⟩:=f1 a (by rwa [x1]) na';exact⟨(zQ (show a≠D from fun z=>na' (z▸hD))).trans (y1.trans x1),y2.trans x2⟩
structure CI (X:Cx)(tg it:Expr)(wi:TI)(c:CSt->CH->(List PV->CH->Prop)->Prop):Prop where
 j:JI X tg it wi
 w:∀σ H ρ C R Q,SRel X.K H σ ρ->HRel X.K H C->c ρ C R->(∀J H' ps C',R ps C'->Qj X.K H' J ps->HRel X.K H' C'->Fw H C H' C'->Q J H')->wi σ H Q
def cItT (ce:TCE):CSt->CH->(List PV->CH->Prop)->Prop:=fun ρ C Q=>ce ρ C fun t C1=>match t with
 |.tup xs=>Q xs C1
 |.kt xs=>Q xs C1
 |_=>False
theorem yH   (h:CE X e ce):CI X tg e (iTup X.K (jZ X.K (Rep X.K) ce)) (cItT ce):=⟨⟨Q1 h.h.h⟩,fun σ H ρ C R Q s h q f=>⟨ρ,C,_,s,h,q,fun x H1 px C1 q1 rx h1 f1=>by
  cases rx with
  |@tup a vs ts e r=>exact⟨a,rfl,⟨vs,SqT.of e⟩,f _ H1 ts C1 q1 (oP (SqT.of e) r) h1 f1⟩
  |@kt a vs ts e r=>exact⟨a,rfl,⟨vs,e⟩,f _ H1 ts C1 q1 (oP e r) h1 f1⟩
  |_=>exact q1.elim⟩⟩
def cComp (ci:CSt->CH->(List PV->CH->Prop)->Prop)(t:TCT)(c:TCE):TCE:=fun ρ C Q=>ci ρ C fun ps C1=>eZ t c ρ Q ps [] C1
theorem kI     {c}(hi:CI X tg it wi ci)   {Q:VK}(h:jZ X.K (Rep X.K) (cComp ci t c) σ H Q):rT wi (jZ X.K xM t) (jZ X.K (Rep X.K) c) σ H Q :=qX h fun ρ C R s h q f=>hi.w σ H ρ C _ _ s h q fun J H' ps C' q' j h' f' D hD=>comp_it j (s.imm (f'.imm h)) h' q' h f' f hD
theorem aW {elt iter:Expr}{x:Str}{px:Pos}{ifs:List Expr}{scope:Scope}{wi:TI}{ci:CSt->CH->(List PV->CH->Prop)->Prop}{t:TCT}{c:TCE}
  (hc:X.calm=true) (hN:(x::X.N).Nodup) (K:∃cl,sF X x scope cl) (hi:CI X (.Name x px) iter wi ci)
  (ht:∀cl fp C s₂ H₂,CF (xK X x scope cl fp C s₂ H₂) ifs t) (he:∀cl fp C s₂ H₂,CE (xK X x scope cl fp C s₂ H₂) elt c)
  (hs:∀v,foldedSetIterable iter X.env v=pure v:=by intro _; rfl):CE X (.ListComp elt [⟨.Name x px,iter,ifs,0⟩] scope pos) (cComp ci t c) :=
 ⟨JE.weak (dC hc hN K hi.j (fun cl fp C s₂ H₂=>(ht cl fp C s₂ H₂).h) (fun cl fp C s₂ H₂=>(he cl fp C s₂ H₂).h) hs) fun _ _ _ h=>kI hi h⟩
end
def dG (N:List Str)(ts:List PV):CSt:=ts.map some++List.replicate (N.length - ts.length) none
theorem mD {K}  : ∀n,SRel K H (List.replicate n none) (List.replicate n none)
 |0=>.nil
 |n+1=>.cons trivial (mD n)
theorem rN {K}    (s:SRel K H σ ρ):∀{vs}{ts},Reps K H vs ts->SRel K H (vs.map some++σ) (ts.map some++ρ)
 |_,_,.nil=>s
 |_,_,.cons h r=>.cons h (rN s r)
theorem zX {K}     (r:Reps K H vs ts):SRel K H (L2.start N vs) (dG N ts):=by
 delta L2.start dG
 exact r.len▸rN (mD _) r
section
variable {P:Program}{w:World}{K:CU}{mg:Str->Option Value}{base:Heap}
theorem Fun.okC  {st}      (F:Fun K x qual st f fd)(S:FnScope N ps (dQ st))(len:∀ts C R,G ts C R->ts.length=ps.length)
  (hbody:∀cdv A outer s H E,Room k (A.deeper (envOfC qual (dQ st) s.heap.objs.size f cdv)) ->
   ∃c,CB (bX CX0 P w K mg base N qual (dQ st) f cdv A outer s H E).nox (yZ st) c/\∀ts C R,G ts C R->c (.go R) (dG N ts) C):eX P w K mg base CX0 (k+1) f fd ps (spC K G):=by
 refine F.okJ S ?_ ?_
 .rintro vs H Q E ⟨ts,C,R,r,h,g,f⟩
  exact r.len▸len ts C R g
 .rintro cdv A outer s H vs Q E hr ⟨ts,C,R,r,h,g,f⟩
  exact wJ (hbody cdv A outer s H E hr) fun c hc q=>⟨_,hc.h,dG N ts,C,_,zX r,h,q ts C R g,⟨fun σ' H' ρ' C' q' s' h' f'=>f .non H' .non C' q' .non h' f',f,fun _ _ _ _ q' _ _ _=>q'.elim,fun _ _ _ _ q' _ _ _=>q'.elim⟩⟩
end
section
variable {X:Cx}{a b c e o i:Expr}{es:List Expr}{pos:Pos}
@[irreducible] def cI (g:Int->Int->PV):R2C:=fun x y C Q=>match x,y with
 |.int i,.int j=>Q (g i j) C
 |_,_=>False
def cIc (P:Int->Int->Prop)(g:Int->Int->PV):R2C:=fun x y C Q=>match x,y with
 |.int i,.int j=>P i j/\Q (g i j) C
 |_,_=>False
theorem yE {K}   (hg:∀i j H,Rep K H (g i j) (g' i j)):Cop K (rI0 g) (cI g'):=fun x y px py H C Q R rx ry h q f=>by
 delta cI at q
 split at q
 .cases rx; cases ry
  exact⟨_,_,rfl,rfl,f _ H _ C q (hg _ _ _) h Fw.refl⟩
 .exact q.elim
theorem vH {K}    (hg:∀i j H,Rep K H (g i j) (g' i j)):Cop K (rI P g) (cIc P g'):=fun x y px py H C Q R rx ry h q f=>by
 delta cIc at q
 split at q
 .cases rx; cases ry
  exact⟨_,_,rfl,rfl,q.1,f _ H _ C q.2 (hg _ _ _) h Fw.refl⟩
 .exact q.elim
theorem jH {K}:Cop K (rI0 fun i j=>.int (i - j)) (cI fun i j=>.int (i - j)):=yE fun _ _ _=>.int _
theorem pB {K}:Cop K (rI CMul fun i j=>.int (i * j)) (cIc CMul fun i j=>.int (i * j)):=vH fun _ _ _=>.int _
theorem yR {K}:Cop K (rI (fun _ j=>0 < j/\j < 18446744073709551616) fun i j=>.int (i / j)) (cIc (fun _ j=>0 < j/\j < 18446744073709551616) fun i j=>.int (i / j)):=vH fun _ _ _=>.int _
theorem qK {K}:Cop K (rI (fun _ j=>0 < j) fun i j=>.int (i % j)) (cIc (fun _ j=>0 < j) fun i j=>.int (i % j)):=vH fun _ _ _=>.int _
theorem xE {K}:Cop K (rI CPow fun i j=>.int (i ^ j.toNat)) (cIc CPow fun i j=>.int (i ^ j.toNat)):=vH fun _ _ _=>.int _
theorem xH {K}:Cop K (rI0 fun i j=>.bl (decide (i < j))) (cI fun i j=>.bl (decide (i < j))):=yE fun _ _ _=>.bl _
theorem wW {K}:Cop K (rI0 fun i j=>.bl (decide (i<=j))) (cI fun i j=>.bl (decide (i<=j))):=yE fun _ _ _=>.bl _
theorem uU {K}:Cop K (rI0 fun i j=>.bl (decide (j < i))) (cI fun i j=>.bl (decide (j < i))):=yE fun _ _ _=>.bl _
def cNeg:PV->CH->K1->Prop:=fun x C Q=>match x with
 |.int i=>Q (.int (-i)) C
 |_=>False
theorem cun_neg {K}:Cun K (rU fun i=>.int (-i)) cNeg:=fun x px H C Q R rx h q f=>by
 delta cNeg at q
 split at q
 .cases rx; exact⟨_,rfl,f _ H _ C q (.int _) h Fw.refl⟩
 .exact q.elim
theorem oO   (s:Same H H'):Fw H C H' C:=fun a c n=>⟨rfl,by
 cases e:H a with
 |none=>exact absurd e n
 |some o=>exact s a o e⟩
theorem wL {K}   (h:HRel K H C)(s:Same H H'):HRel K H' C:=fun a o c =>wJ ((h a o c).mut) fun u e _=>(h a o c).imm (fun b v _ e=>s b v e) ((s a u e).trans e.symm)
@[irreducible] def kT:R2C:=fun x y C Q=>match x,y with
 |.int i,.int j=>Q (.int (i+j)) C
 |.str i,.str j=>i.length+j.length<=sizeLine/\Q (.str (i++j)) C
 |.tup xs,.tup ys=>xs.length+ys.length<=sizeLine/\Q (.tup (xs++ys)) C
 |.ref a,.ref b=>match C a,C b with
  |some (.lst xs),some (.lst ys)=>xs.length+ys.length<=sizeLine/\∀p,C p=none->Q (.ref p) (jQ C p (.lst (xs++ys)))
  |_,_=>False
 |_,_=>False
abbrev rAddC:R2:=fun x y H Q=>rI0 (fun i j=>.int (i+j)) x y H Q\/((∃i j,x=.str i/\y=.str j/\i.length+j.length<=sizeLine/\Q (.str (i++j)) H)\/(rCatU x y H Q\/rCat x y H Q))
theorem aZ:OpR X (binaryOp .Add) rAddC:=OpR.or op_add (OpR.or mS (OpR.or op_catU Xe))
theorem qJ {K}:Cop K rAddC kT:=fun x y px py H C Q R rx ry h q f=>by
 delta kT at q
 split at q
 .cases rx; cases ry
  exact .inl ⟨_,_,rfl,rfl,f _ H _ C q (.int _) h Fw.refl⟩
 .cases rx; cases ry
  exact .inr (.inl ⟨_,_,rfl,rfl,q.1,f _ H _ C q.2 (.str _) h Fw.refl⟩)
 .cases rx with
  |tup e r=>cases ry with
   |tup e' r' =>
    refine .inr (.inr (.inl ⟨_,_,_,_,rfl,rfl,e,e',by rw[r.len,r'.len]; exact q.1,fun z H' s hz _=>?_⟩));exact f _ H' _ C q.2 (.tup hz ((r.append r').imm fun b v _ e=>s b v e)) (wL h s) (oO s)
 .split at q
  .next xs ys e1 e2 =>
   refine wJ (h _ _ e1) fun vs ev rv=>wJ (h _ _ e2) fun us eu ru=>?_;cases rx; cases ry
   refine .inr (.inr (.inr ⟨_,_,_,_,rfl,rfl,ev,eu,by rw[rv.len,ru.len]; exact q.1,fun p hp=>?_⟩));exact f _ _ _ _ (q.2 p (h.fresh hp)) (.ref p) (h.lay hp ⟨_,vQ,(rv.append ru).imm (Imm.new hp _)⟩) (Fw.lay hp _ _)
  .exact q.elim
 .exact q.elim
def sEq:PV->PV->Option Bool
 |.non,.non=>some true | .non,.int _=>some false | .int _,.non=>some false | .non,.bl _=>some false | .bl _,.non=>some false | .non,.str _=>some false | .str _,.non=>some false
 |.int i,.int j=>some (decide (i=j)) | .bl b,.bl c=>some (decide (b=c)) | .str x,.str y=>some (decide (x=y))
 |.int _,.str _=>some false | .str _,.int _=>some false | .bl _,.str _=>some false | .str _,.bl _=>some false
 |_,_=>none
@[irreducible] def cEq (k:Bool->Bool):R2C:=fun x y C Q=>match sEq x y with
 |some b=>Q (.bl (k b)) C
 |none=>False
def toV:PV->Option V
 |.non=>some .non | .bl b=>some (.bl b) | .int i=>some (.int i) | .str x=>some (.str x) | _=>none
theorem gT {K}    (r:Rep K H x px)(e:toV px=some v):x=v:=by
 cases r<;>cases e<;>rfl
theorem sEq_toV  {b}(e:sEq px py=some b):∃v u,toV px=some v/\toV py=some u/\scal v u=true/\decide (v=u)=b:=by
 cases px<;>cases py<;>cases e<;>exact⟨_,_,rfl,rfl,rfl,by simp⟩
theorem zO {K}    {b}(rx:Rep K H x px)(ry:Rep K H y py)(e:sEq px py=some b):scal x y=true/\decide (x=y)=b:=by
 refine el24 (sEq_toV e) fun v u h1 h2 h3 h4=>?_;cases gT rx h1;cases gT ry h2;exact⟨h3,h4⟩
theorem uJ {K}:Cop K rEq (cEq id):=fun x y px py H C Q R rx ry h q f=>by
 delta cEq at q
 split at q
 .next b e =>
  obtain⟨h1,h2⟩:=zO rx ry e;exact⟨h1,h2▸f _ H _ C q (.bl _) h Fw.refl⟩
 .exact q.elim
theorem aS {K}:Cop K rNe (cEq not):=fun x y px py H C Q R rx ry h q f=>by
 delta cEq at q
 split at q
 .next b e =>
  obtain⟨h1,h2⟩:=zO rx ry e;exact⟨h1,h2▸f _ H _ C q (.bl _) h Fw.refl⟩
 .exact q.elim
def isNo:PV->Bool
 |.non=>true
 |_=>false
def cIs (k:Bool->Bool):R2C:=fun x y C Q=>match y with
 |.non=>Q (.bl (k (isNo x))) C
 |_=>False
theorem Xv {K}    (r:Rep K H x px):decide (x=.non)=isNo px:=by
 cases r<;>simp[isNo]
theorem kE {K}:Cop K (fun x y H Q=>y=.non/\Q (.bl (decide (x=.non))) H) (cIs id):=fun x y px py H C Q R rx ry h q f=>by
 cases ry with
 |non=>exact⟨rfl,by exact(Xv rx)▸f _ H _ C q (.bl _) h Fw.refl⟩
 |_=>exact q.elim
def cAt (xs:List PV)(i:Int)(C:CH)(Q:K1):Prop:=match atI xs i with
 |some v=>Q v C
 |none=>False
@[irreducible] def cIx:R2C:=fun x y C Q=>match x,y with
 |.tup xs,.int i=>cAt xs i C Q
 |.kt xs,.int i=>cAt xs i C Q
 |.fz xs,.int i=>cAt xs i C Q
 |.ref a,.int i=>match C a with
  |some (.lst xs)=>cAt xs i C Q
  |_=>False
 |.str z,.int i=>z.length<=sizeLine/\match atI z.cps.toList i with
  |some c=>Q (.str ⟨#[c]⟩) C
  |none=>False
 |_,_=>False
theorem Reps.at {K}    {i}  (r:Reps K H vs ts)(e:atI ts i=some t):∃v,atI vs i=some v/\Rep K H v t:=by
 delta atI at e ⊢
 rw[r.len]
 cases z:ixN ts.length i with
 |none=>rw[z] at e; cases e
 |some j =>
  rw[z] at e;exact r.get e
theorem pH {K}     {i}  (r:Reps K H vs ts)(q:cAt ts i C R):∃v t,atI vs i=some v/\Rep K H v t/\R t C:=by
 delta cAt at q
 split at q
 .next t e =>
  exact wJ (r.at e) fun v e' r'=>⟨v,t,e',r',q⟩
 .exact q.elim
theorem cop_ix {K}:Cop K (rIx K) cIx:=fun x y px py H C Q R rx ry h q f=>by
 delta cIx at q
 split at q
 .cases ry
  cases rx with
  |tup e r =>
   obtain⟨v,t,e',r',q⟩:=pH r q;exact .inr (.inl ⟨_,_,_,v,rfl,rfl,SqT.of e,e',f _ H _ C q r' h Fw.refl⟩)
 .cases ry
  cases rx with
  |kt e r =>
   obtain⟨v,t,e',r',q⟩:=pH r q;exact .inr (.inl ⟨_,_,_,v,rfl,rfl,e,e',f _ H _ C q r' h Fw.refl⟩)
 .cases ry
  cases rx with
  |fz e r =>
   obtain⟨v,t,e',r',q⟩:=pH r q;exact .inl ⟨_,_,_,v,rfl,rfl,e.sq,e',f _ H _ C q r' h Fw.refl⟩
 .cases ry
  split at q
  .next xs e =>
   obtain⟨vs,ev,rv⟩:=(h _ _ e);cases rx;exact XU (pH rv q) fun v t e' r' q=>.inl ⟨_,_,_,v,rfl,rfl,SqL.of ev,e',f _ H _ C q r' h Fw.refl⟩
  .exact q.elim
 .cases ry; cases rx
  obtain⟨q1,q2⟩:=q
  split at q2
  .next c e=>exact .inr (.inr ⟨_,_,c,rfl,rfl,q1,e,f _ H _ C q2 (.str _) h Fw.refl⟩)
  .exact q2.elim
 .exact q.elim
theorem ix_seqC:IxR X (rIx X.K):=ix_seq
@[irreducible] def pF:GC:=fun ts C Q=>match ts with
 |[.tup xs]=>Q (.int xs.length) C
 |[.kt xs]=>Q (.int xs.length) C
 |[.fz xs]=>Q (.int xs.length) C
 |[.ref a]=>match C a with
  |some (.lst xs)=>Q (.int xs.length) C
  |some (.dK kvs)=>Q (.int kvs.length) C
  |_=>False
 |[.str z]=>z.length<=sizeLine/\Q (.int z.length) C
 |_=>False
abbrev rLenC (K:CU):List V->Hp->VK->Prop:=fun xs H Q=>(∃p ys,xs=[.ref p]/\(SqL K H p ys\/SqT K H p ys)/\Q (.int ys.length) H)\/((∃a kvs,xs=[V.ref a]/\H a=some (.dK kvs)/\Q (.int kvs.length) H)\/∃z,xs=[.str z]/\z.length<=sizeLine/\Q (.int z.length) H)
theorem Qc:CallR X (.builtin "len") (rLenC X.K):=CallR.or mH (CallR.or Qa bH)
theorem aX {K}    (r:Reps K H xs [t]):∃v,xs=[v]/\Rep K H v t:=by
 cases r with
 |cons h r=>cases r; exact⟨_,rfl,h⟩
theorem rep_two {K}    (r:Reps K H xs [t,u]):∃v w,xs=[v,w]/\Rep K H v t/\Rep K H w u:=by
 cases r with
 |cons h r=>obtain⟨w,rfl,h'⟩:=aX r; exact⟨_,w,rfl,h,h'⟩
theorem cbi_len {K}:Cbi K (rLenC K) pF:=fun xs ps H C Q R rs h q f=>by
 delta pF at q
 split at q
 .obtain ⟨v,rfl,r⟩:=aX rs
  cases r with
  |tup e r=>exact .inl ⟨_,_,rfl,.inr (SqT.of e),f _ H _ C (by rwa [r.len]) (.int _) h Fw.refl⟩
 .obtain ⟨v,rfl,r⟩:=aX rs
  cases r with
  |kt e r=>exact .inl ⟨_,_,rfl,.inr e,f _ H _ C (by rwa [r.len]) (.int _) h Fw.refl⟩
 .obtain ⟨v,rfl,r⟩:=aX rs
  cases r with
  |fz e r=>exact .inl ⟨_,_,rfl,.inl e.sq,f _ H _ C (by rwa [r.len]) (.int _) h Fw.refl⟩
 .obtain ⟨v,rfl,r⟩:=aX rs
  split at q
  .next xs e =>
   obtain⟨vs,ev,rv⟩:=h _ _ e;cases r;exact .inl ⟨_,_,rfl,.inl (SqL.of ev),f _ H _ C (by rwa [rv.len]) (.int _) h Fw.refl⟩
  .next kvs e =>
   obtain⟨vs,ev,rv⟩:=h _ _ e;cases r;exact .inr (.inl ⟨_,_,rfl,ev,f _ H _ C (by rwa [Paired.length rv]) (.int _) h Fw.refl⟩)
  .exact q.elim
 .obtain ⟨v,rfl,r⟩:=aX rs
  cases r;exact .inr (.inr ⟨_,rfl,q.1,f _ H _ C q.2 (.int _) h Fw.refl⟩)
 .exact q.elim
def tyP (C:CH):PV->Option Ty
 |.non=>some .non
 |.bl _=>some .bl
 |.int _=>some .int
 |.str _=>some .str
 |.tup _=>some .tup
 |.ref a=>match C a with
  |some (.lst _)=>some .lst
  |some (.dK _)=>some .dct
  |_=>none
 |_=>none
theorem uT {K}      (r:Rep K H x t)(h:HRel K H C)(e:tyP C t=some n):tyN H x=some n:=by
 cases r with
 |tup e' _=>cases e; show(H _).bind tyH=_; rw[e']; rfl
 |ref a =>
  delta tyP at e
  dsimp only at e
  split at e
  .next xs c=>cases e; obtain⟨vs,ev,_⟩:=h _ _ c; show(H _).bind tyH=_; rw[ev]; rfl
  .next xs c=>cases e; obtain⟨vs,ev,_⟩:=h _ _ c; show(H _).bind tyH=_; rw[ev]; rfl
  .cases e
 |kt _ _=>cases e
 |fz _ _=>cases e
 |ty _=>cases e
 |vw _=>cases e
 |_=>cases e; rfl
def zG (n:String):Option Ty:=[Ty.non,.bl,.int,.str,.lst,.tup,.dct].find? fun t=>cV t==n
theorem gN   (h:zG n=some t):n=cV t:=by
 have:=List.find?_some h;exact(eq_of_beq this).symm
@[irreducible] def cIsi:GC:=fun ts C Q=>match ts with
 |[x,.ty n]=>match zG n,tyP C x with
  |some T,some k=>Q (.bl (rC k T)) C
  |_,_=>False
 |_=>False
theorem zJ {K}:Cbi K (fun xs H Q=>∃x T n,xs=[x,.ty (cV T)]/\tyN H x=some n/\Q (.bl (rC n T)) H) cIsi:=fun xs ps H C Q R rs h q f=>by
 delta cIsi at q
 split at q
 .split at q
  .next T k e1 e2 =>
   obtain⟨v,w,rfl,r1,r2⟩:=rep_two rs;cases r2;exact(gN e1)▸⟨v,T,k,rfl,uT r1 h e2,f _ H _ C q (.bl _) h Fw.refl⟩
  .exact q.elim
 .exact q.elim
def cAbs:GC:=fun ts C Q=>match ts with
 |[.int i]=>Q (.int (if i < 0 then -i else i)) C
 |_=>False
theorem cbi_abs {K}:Cbi K (fun xs H Q=>∃i,xs=[.int i]/\Q (.int (if i < 0 then -i else i)) H) cAbs:=fun xs ps H C Q R rs h q f=>by
 delta cAbs at q
 split at q
 .obtain ⟨v,rfl,r⟩:=aX rs
  cases r;exact⟨_,rfl,f _ H _ C q (.int _) h Fw.refl⟩
 .exact q.elim
@[irreducible] def fF:GC:=fun ts C Q=>match ts with
 |[.tup xs]=>Q (.tup xs) C
 |[.ref a]=>match C a with
  |some (.lst xs)=>Q (.tup xs) C
  |_=>False
 |_=>False
theorem cbi_tup {K}:Cbi K (fun xs H Q=>∃p ys,xs=[.ref p]/\((SqL K H p ys/\∀l,H l=none->Q (.ref l) (upd H l (.tup ys)))\/(SqT K H p ys/\Q (.ref p) H))) fF:=fun xs ps H C Q R rs h q f=>by
 delta fF at q
 split at q
 .obtain ⟨v,rfl,r⟩:=aX rs
  cases r with
  |tup e r=>exact⟨_,_,rfl,.inr ⟨SqT.of e,f _ H _ C q (.tup e r) h Fw.refl⟩⟩
 .obtain ⟨v,rfl,r⟩:=aX rs
  split at q
  .next xs e =>
   obtain⟨vs,ev,rv⟩:=(h _ _ e);cases r;exact⟨_,_,rfl,.inl ⟨SqL.of ev,fun l hl=>f _ _ _ C q (.tup vQ (rv.imm (Imm.new hl _))) (h.new hl _) (Fw.new hl _)⟩⟩
  .exact q.elim
 .exact q.elim
def cF:List PV->Option (List Bool)
 |[]=>some []
 |.bl b::r=>(cF r).map (b :: ·)
 |_=>none
@[irreducible] def cAll:GC:=fun ts C Q=>match ts with
 |[.ref a]=>match C a with
  |some (.lst xs)=>match cF xs with
   |some bs=>Q (.bl (bs.all id)) C
   |none=>False
  |_=>False
 |_=>False
theorem Qg {K}     (r:Reps K H vs ts)(e:cF ts=some bs):vs=bs.map V.bl:=by
 induction ts generalizing vs bs with
 |nil=>cases r; cases e; rfl
 |cons t ts ih =>
  cases r with
  |@cons v _ vs _ h r =>
   cases t with
   |bl b =>
    unfold cF at e
    cases z:cF ts with
    |none=>rw[z] at e; cases e
    |some cs =>
     rw[z] at e;injection e with e
     subst e;cases h;rw[ih r z]; rfl
   |_=>cases e
theorem mG {K}:Cbi K (fun xs H Q=>∃p ys,xs=[.ref p]/\SqL K H p (List.map V.bl ys)/\Q (.bl (ys.all id)) H) cAll:=fun xs ps H C Q R rs h q f=>by
 delta cAll at q
 split at q
 .obtain ⟨v,rfl,r⟩:=aX rs
  split at q
  .next xs e =>
   split at q
   .next bs eb =>
    obtain⟨vs,ev,rv⟩:=(h _ _ e);cases r;have:=Qg rv eb;subst this;exact⟨_,bs,rfl,SqL.of ev,f _ H _ C q (.bl _) h Fw.refl⟩
   .exact q.elim
  .exact q.elim
 .exact q.elim
def isL (x:PV)(C:CH):Prop:=match x with
 |.ref a=>match C a with
  |some (.lst _)=>True
  |_=>False
 |_=>False
def cBM (cr:PV->List PV->CH->K1->Prop)(co:TCE)(ca:TCA):TCE:=fun ρ C Q=>co ρ C fun x C1=>isL x C1/\ca ρ C1 fun xs C2=>cr x xs C2 Q
def Cmt (K:CU)(r:V->List V->Hp->VK->Prop)(cr:PV->List PV->CH->K1->Prop):Prop:=∀x px xs ps H C Q R,Rep K H x px->Reps K H xs ps->HRel K H C->cr px ps C R->(∀v H' t C',R t C'->Rep K H' v t->HRel K H' C'->Fw H C H' C'->Q v H')->r x xs H Q
theorem Xw {K}     (l:isL t C)(r:Rep K H x t)(h:HRel K H C):tyV K "list" x H:=by
 delta isL at l
 split at l
 .split at l
  .next e=>obtain⟨vs,ev,_⟩:=(h _ _ e); cases r; exact .inl ⟨rfl,vs,SqL.of ev⟩
  .exact l.elim
 .exact l.elim
theorem ce_bm  {id}{apos cpos}     (pa:PlainAttrs "list")(slot:Slot "list" name id)(hty:typeOf (.builtin id)=pure (.type "method_descriptor"))(hm:MtR X id r)(hr:Cmt X.K r cr)(ho:CE X o co)(ha:CA X (e::es) ca)
  (hbase:attributeBase o name X.env (eval o X.env)=eval o X.env:=by rfl)
  (hfew:((backTo cpos (starEach (e::es) X.env)).all (fun x=>!x.1)&&(backToKw cpos (keywordEach [] X.env)).all (fun x=>x.1.isSome)
   && decide ((e::es).length+([]:List Keyword).length+(if ([]:List Keyword).isEmpty then 0 else 1) < 30))=true:=by rfl)
  (hline:(apos.endLine==cpos.line)=true:=by rfl) (hs:noStar e=true:=by rfl) (hall:es.all noStar=true:=by rfl) :
  CE X (.Call (.Attribute o name apos) (e::es) [] cpos) (cBM cr co ca):=⟨JE.weak ⟨kO pa slot hty hm ho.h.h ha.h.h hbase hfew hline (vX hs) (hV hall)⟩ fun σ H Q zz=>qX zz fun ρ C R s h q f=>
 ⟨ρ,C,_,s,h,q,fun x H1 px C1 q1 rx h1 f1=>⟨Xw q1.1 rx h1,ρ,C1,_,s.imm (f1.imm h),h1,q1.2,fun xs H2 ps C2 q2 rs h2 f2 =>
  hr x px xs ps H2 C2 Q R (rx.imm (f2.imm h1)) rs h2 q2 fun v H' t C' q' r' h' f'=>f v H' t C' q' r' h' (f1.trans (f2.trans f'))⟩⟩⟩
@[irreducible] def fG:PV->List PV->CH->K1->Prop:=fun x ts C Q=>match x,ts with
 |.ref a,[y]=>match C a with
  |some (.lst xs)=>xs.length < sizeLine/\Q .non (jQ C a (.lst (xs++[y])))
  |_=>False
 |_,_=>False
theorem zT {K}:Cmt K vB fG:=fun x px xs ps H C Q R rx rs h q f=>by
 delta fG at q
 split at q
 .split at q
  .next ys e =>
   obtain⟨vs,ev,rv⟩:=(h _ _ e);obtain⟨v,rfl,r⟩:=aX rs;cases rx;exact⟨_,vs,v,rfl,rfl,ev,by exact rv.len▸q.1,f _ _ _ _ q.2 .non (h.put ev rfl ⟨_,vQ,(rv.append (.cons r .nil)).imm (Imm.mut ev rfl _)⟩) (Fw.put e _ _)⟩
  .exact q.elim
 .exact q.elim
end
def cK:PV->Option Key
 |.non=>some (.inl none)
 |.int i=>some (.inl (some i))
 |.str x=>some (.inr x)
 |_=>none
def keyPV:Key->PV
 |.inl none=>.non
 |.inl (some i)=>.int i
 |.inr x=>.str x
theorem vU {K}     (r:Rep K H v t)(e:cK t=some k):v=kV k:=by
 cases r<;>cases e<;>rfl
def oE (kvs:List (Key×PV))(k:Key):Option PV:=(kvs.find? fun kv=>decide (kv.1=k)).map (·.2)
def aN (kvs:List (Key×PV))(k:Key)(v:PV):List (Key×PV):=if (kvs.any fun kv=>decide (kv.1=k))=true then kvs.map fun kv=>if kv.1=k then (kv.1,v) else kv else kvs++[(k,v)]
def pS (kvs more:List (Key×PV)):List (Key×PV):=more.foldl (fun acc kv=>aN acc kv.1 kv.2) kvs
section
variable {K:CU}{H:Hp}{vs:List (Key×V)}{kvs:List (Key×PV)}
theorem KP.val (r:KP K H vs kvs) k:(∃v t,bV vs k=some v/\oE kvs k=some t/\Rep K H v t)\/(bV vs k=none/\oE kvs k=none):=by
 induction r with
 |nil=>exact .inr ⟨rfl,rfl⟩
 |@cons p q l1 l2 h r ih =>
  delta bV oE
  rw[List.find?_cons,List.find?_cons,h.1]
  by_cases e:q.1=k
  .grind
  .rwa [AU e]
theorem KP.any (r:KP K H vs kvs) k:(vs.any fun kv=>decide (kv.1=k))=(kvs.any fun kv=>decide (kv.1=k)):=by
 induction r with
 |nil=>rfl
 |@cons p q l1 l2 h r ih=>rw[Bl,Bl,h.1,ih]
theorem KP.put (r:KP K H vs kvs) k   (h:Rep K H v t):KP K H (xG vs k v) (aN kvs k t):=by
 delta xG aN
 rw[r.any k]
 have upd:KP K H (vs.map fun kv=>if kv.1=k then (kv.1,v) else kv) (kvs.map fun kv=>if kv.1=k then (kv.1,t) else kv):=by
  induction r with
  |nil=>exact .nil
  |@cons p q l1 l2 h' r ih =>
   refine .cons ?_ ih
   by_cases e:q.1=k
   .lia
   .lia
 split
 .exact upd
 .exact Paired.snoc r ⟨rfl,h⟩
end
def dOf:Option CO->Option (List (Key×PV))
 |some (.dK kvs)=>some kvs
 |some (.fK kvs)=>some kvs
 |_=>none
section
variable {X:Cx}{a b c e o i f:Expr}{es:List Expr}{pos:Pos}{value:Expr}
@[irreducible] def cDIx:R2C:=fun x y C Q=>match x with
 |.ref a=>match dOf (C a),cK y with
  |some kvs,some k=>match oE kvs k with
   |some v=>Q v C
   |none=>False
  |_,_=>False
 |_=>False
@[irreducible] def cGetD:PV->PV->PV->CH->K1->Prop:=fun x y z C Q=>match x with
 |.ref a=>match dOf (C a),cK y with
  |some kvs,some k=>Q ((oE kvs k).getD z) C
  |_,_=>False
 |_=>False
@[irreducible] def fE:PV->PV->PV->CH->(CH->Prop)->Prop:=fun x y v C Q=>match x with
 |.ref a=>match C a,cK y with
  |some (.dK kvs),some k=>kvs.length < sizeLine/\Q (jQ C a (.dK (aN kvs k v)))
  |_,_=>False
 |_=>False
def cDPut (co ck cv:TCE):TCS:=fun E ρ C=>cv ρ C fun v C1=>co ρ C1 fun x C2=>ck ρ C2 fun y C3=>fE x y v C3 fun C4=>E.nx ρ C4
theorem cs_dput  {ck cv}(hu:X.A.units+1 < cLine)(ho:CE X o co)(hi:CE X i ck)(hv:CE X value cv)(hs:swapsWith value (some (.Subscript o i pos')) pos.line X.env=pure false:=by rfl):
  CS X (.Assign [.Subscript o i pos'] value pos) (cDPut co ck cv):=⟨JS.weak ⟨ps_dput hu ho.h.h hi.h.h hv.h.h hs⟩ fun D σ H zz=>qX zz fun ρ C E s h q f=>
 ⟨ρ,C,_,s,h,q,fun v H1 pv C1 q1 rv h1 f1=>⟨ρ,C1,_,s.imm (f1.imm h),h1,q1,fun x H2 px C2 q2 rx h2 f2=>⟨ρ,C2,_,(s.imm (f1.imm h)).imm (f2.imm h1),h2,q2,fun y H3 py C3 q3 ry h3 f3=>by
  have rv3:=rv.imm ((f2.trans f3).imm h1)
  delta fE at q3
  split at q3
  .next a =>
   split at q3
   .next kvs k e1 e2 =>
    have rx3:=rx.imm (f3.imm h2);cases rx3;refine wJ (h3 a _ e1) fun vs ev r=>?_;have ey:=vU ry e2;subst ey;have m:Imm H3 (upd H3 a (.dK (xG vs k v))):=Imm.mut ev rfl _;refine⟨a,_,rfl,DPut.k ev ((Paired.length r)▸q3.1),f.nx σ _ ρ _ q3.2 ((((s.imm (f1.imm h)).imm (f2.imm h1)).imm (f3.imm h2)).imm m) (h3.put ev rfl ⟨_,vQ,Paired.mapP (r.put k rv3) fun _ _ z=>⟨z.1,z.2.imm m⟩⟩) (f1.trans (f2.trans (f3.trans (Fw.put e1 _ _))))⟩
   .exact q3.elim
  .exact q3.elim⟩⟩⟩⟩
def bP:List PV->Option (List (Key×PV))
 |[]=>some []
 |.tup [k,v]::r=>match cK k,bP r with
  |some k,some ps=>some ((k,v)::ps)
  |_,_=>none
 |_=>none
@[irreducible] def cDictOf:GC:=fun ts C Q=>match ts with
 |[.tup xs]=>match bP xs with
  |some ps=>ps.length<=sizeLine/\∀p,C p=none->Q (.ref p) (jQ C p (.dK (pS [] ps)))
  |none=>False
 |_=>False
@[irreducible] def cUpdP:PV->List PV->CH->K1->Prop:=fun x ts C Q=>match x,ts with
 |.ref a,[.tup xs]=>match C a,bP xs with
  |some (.dK kvs),some ps=>kvs.length+ps.length<=sizeLine/\Q .non (jQ C a (.dK (pS kvs ps)))
  |_,_=>False
 |_,_=>False
@[irreducible] def cItems (co:TCE):TCE:=fun ρ C Q=>co ρ C fun x C1=>match x with
 |.ref a=>match C1 a with
  |some (.dK _)=>Q (.vw a) C1
  |_=>False
 |_=>False
end
end CL
namespace CL
open PySem PySem.Spec L2 PySem.W
open PyProof.Rows hiding St
def siPV (c:Str×Int):PV:=.tup [.str c.1,.int c.2]
def siOf:List PV->Option (List (Str×Int))
 |[]=>some []
 |.tup [.str x,.int i]::r=>(siOf r).map ((x,i) :: ·)
 |_=>none
def siK:List (Key×PV)->Option (List (Str×Int))
 |[]=>some []
 | (.inr x,.int i)::r=>(siK r).map ((x,i) :: ·)
 |_=>none
def siLt (cs:List (Str×Int)):Nat->Nat->Bool:=fun i j=>ltSI (cs.getD i ("",0)) (cs.getD j ("",0))
def ordC (cs:List (Str×Int)):List (Str×Int):=(kRun (siLt cs) (kas_sort cs.length)).toList.map fun i=>cs.getD i ("",0)
section
variable {K:CU}{H:Hp}{X:Cx}
@[irreducible] def cSorted:GC:=fun ts C Q=>match ts with
 |[.ref a]=>match C a with
  |some (.lst xs)=>match siOf xs with
   |some cs=>cs.length < 64/\∀p,C p=none->Q (.ref p) (jQ C p (.lst ((ordC cs).map siPV)))
   |none=>False
  |_=>False
 |[.vw a]=>match C a with
  |some (.dK kvs)=>match siK kvs with
   |some cs=>cs.length < 64/\∀p,C p=none->Q (.ref p) (jQ C p (.lst ((ordC cs).map siPV)))
   |none=>False
  |_=>False
 |_=>False
end
section
variable {X:Cx}{pos:Pos}
@[irreducible] def cCompD (ce:TCE)(t:TCT)(c:TCE):TCE:=fun ρ C Q=>ce ρ C fun x C1=>match x with
 |.ref d=>match C1 d with
  |some (.dK kvs)=>eZ t c ρ (fun v C2=>C2 d=some (.fK kvs)/\Q v (jQ C2 d (.dK kvs))) (kvs.map fun p=>keyPV p.1) [] (jQ C1 d (.fK kvs))
  |_=>False
 |_=>False
end
section
variable {X:Cx}{a b c e o i f:Expr}{es:List Expr}{pos:Pos}{value:Expr}
def cutP (xs:List PV)(lo hi:Option Int):List PV:=(xs.drop (HT.sIx xs.length 0 lo)).take (HT.sIx xs.length xs.length hi - HT.sIx xs.length 0 lo)
@[irreducible] def cSlL:PV->Option Int->Option Int->CH->K1->Prop:=fun x lo hi C Q=>match x with
 |.ref a=>match C a with
  |some (.lst xs)=>∀p,C p=none->Q (.ref p) (jQ C p (.lst (cutP xs lo hi)))
  |_=>False
 |_=>False
def tY (S:CH->Prop)(t:TCT)(c:TCE)(ρ:CSt)(Q:K1):List PV->List PV->CH->Prop
 |[],acc,C=>S C/\∀p,C p=none->Q (.ref p) (jQ C p (.lst acc))
 |x::r,acc,C=>S C/\t (some x::ρ) C fun b C1=>if b=true then c (some x::ρ) C1 fun y C2=>acc.length < sizeLine/\tY S t c ρ Q r (acc++[y]) C2 else tY S t c ρ Q r acc C1
structure ItS (K:CU)(S:CH->Prop)(J:It)(ps:List PV):Prop where
 go:∀i H' C',i < ps.length->HRel K H' C'->S C'->J.go i H'
 yl:∀i H' C' x H'',HRel K H' C'->S C'->J.yld i H' x H''->H''=H'/\∀t,ps[i]?=some t->Rep K H' x t
 st:∀H' C',HRel K H' C'->S C'->J.stop ps.length H'
theorem comp_S {K}        {c}  {Q:VK}  (j:ItS K S J ps)(s:SRel K H σ ρ)(h:HRel K H C)(q:tY S t c ρ R ps [] C)
  (h0:HRel K H0 C0) (f0:Fw H0 C0 H C) (f:∀v H' p C',R p C'->Rep K H' v p->HRel K H' C'->Fw H0 C0 H' C'->Q v H')  (hD:H D=none) :
  ∃W:Nat->Nat->List V->Hp->Prop,(∃m,W 0 m [] (upd H D (.lst [])))/\∀i m ys H,W i m ys H ->
   (J.stop i H/\Q (.ref D) H)\/(J.go i H/\∀x H',J.yld i H x H'->jZ K xM t (some x::σ) H' fun b H2 =>
    if b=true then jZ K (Rep K) c (some x::σ) H2 fun y H3=>H3 D=some (.lst ys)/\ys.length < sizeLine/\∃m',m' < m/\W (i+1) m' (ys++[y]) (upd H3 D (.lst (ys++[y])))
    else ∃m',m' < m/\W (i+1) m' ys H2):=by
 refine⟨fun i m ys H'=>m=ps.length - i/\i<=ps.length/\∃acc C',H' D=some (.lst ys)/\C' D=none/\Reps K H' ys acc/\HRel K H' C'/\Fw H C H' C'/\tY S t c ρ R (ps.drop i) acc C',
  ⟨ps.length,rfl,Aa _,[],C,vQ,h.fresh hD,.nil,h.new hD _,Fw.new hD _,q⟩,?_⟩
 rintro i m ys H1 ⟨rfl,hi,acc,C1,e1,n1,r1,h1,f1,q1⟩;have k1:=f1.imm h
 have q0:S C1:=by
  cases z:ps.drop i with
  |nil=>rw[z] at q1; exact q1.1
  |cons x r=>rw[z] at q1; exact q1.1
 by_cases hlt:i < ps.length
 .refine .inr ⟨j.go i H1 C1 hlt h1 q0,fun x H2 y=>?_⟩
  obtain⟨rfl,y⟩:=j.yl i H1 C1 x H2 h1 q0 y;have rx:=y _ (AN hlt);rw[BR hlt] at q1
  replace q1:=q1.2
  refine⟨some ps[i]::ρ,C1,_,.cons rx (s.imm k1),h1,q1,fun b H3 b' C3 q3 e h3 f3=>?_⟩;cases e;obtain⟨n3,e3⟩:=f3 D (by rw[n1]; rfl) (by lia);rw[e1] at e3;rw[n1] at n3;have k3:=f3.imm h1
  cases b with
  |true =>
   refine⟨some ps[i]::ρ,C3,_,.cons (rx.imm k3) ((s.imm k1).imm k3),h3,q3,fun v H4 p C4 q4 r4 h4 f4=>nI (f4 D (by rw[n3]; rfl) (by lia)) fun n4 e4=>?_⟩;rw[e3] at e4;rw[n3] at n4;have m4:Imm H4 (upd H4 D (.lst (ys++[v]))):=Imm.mut e4 rfl _;refine⟨e4,by rw[r1.len]; exact q4.1,ps.length - (i+1),by lia,rfl,hlt,acc++[p],C4,vQ,n4,?_,?_,?_,q4.2⟩
   .exact (((r1.imm k3).imm (f4.imm h3)).append (.cons r4 .nil)).imm m4
   .intro a o ca
    have ne:a≠D:=fun z=>by subst z; rw[n4] at ca; cases ca
    exact(h4 a o ca).imm m4 (wQ ne)
   .intro a ca na
    have ne:a≠D:=fun z=>na (z▸hD);exact nI ((f1.trans (f3.trans f4)) a ca na) fun x1 x2=>⟨x1,(wQ ne).trans x2⟩
  |false =>
   exact⟨ps.length - (i+1),by lia,rfl,hlt,acc,C3,e3,n3,r1.imm k3,h3,f1.trans f3,q3⟩
 .have e:i=ps.length:=by lia
  subst e;rw[Bz] at q1
  replace q1:=q1.2
  refine .inl ⟨j.st H1 C1 h1 q0,f (.ref D) H1 (.ref D) _ (q1 D n1) (.ref D) ?_ ?_⟩
  .intro a o ca
   by_cases z:a=D
   .subst z; rw[qQ] at ca; cases ca; exact⟨ys,e1,r1⟩
   .rw [zQ z] at ca; exact h1 a o ca
  .intro a ca na
   obtain⟨x1,x2⟩:=f0 a ca na;have na':H a≠none:=by rwa [x2]
   obtain⟨y1,y2⟩:=f1 a (by rwa [x1]) na';exact⟨(zQ (show a≠D from fun z=>na' (z▸hD))).trans (y1.trans x1),y2.trans x2⟩
theorem it_lst {K}{a}  : ItS K (fun C=>C a=some (.lst xs)) (Itl K a) xs where
 go:=fun i H' C' l h s=>by
  refine wJ (h a _ s) fun vs e r=>wJ (r.get (AN l)) fun v ev _=>?_;exact⟨vs,v,SqL.of e,ev⟩
 yl:=fun i H' C' x H'' h s y=>⟨y.1,fun t et=>by
  refine wJ (h a _ s) fun vs e r=>wJ (r.get et) fun v ev rv=>?_;have:=y.2 vs (SqL.of e)
  rw[ev] at this; cases this; exact rv⟩
 st:=fun H' C' h s =>wJ (h a _ s) fun vs e r=>⟨vs,SqL.of e,by exact r.len▸AI _⟩
@[irreducible] def dF (ce:TCE)(t:TCT)(c:TCE):TCE:=fun ρ C Q=>ce ρ C fun x C1=>match x with
 |.ref a=>match C1 a with
  |some (.lst xs)=>tY (fun C=>C a=some (.lst xs)) t c ρ Q xs [] C1
  |_=>False
 |_=>False
theorem gR {elt iter:Expr}{x:Str}{px:Pos}{ifs:List Expr}{scope:Scope}{ce:TCE}{t:TCT}{c:TCE}
  (hc:X.calm=true) (hN:(x::X.N).Nodup) (K:∃cl,sF X x scope cl) (hi:CE X iter ce)
  (ht:∀cl fp C s₂ H₂,CF (xK X x scope cl fp C s₂ H₂) ifs t) (he:∀cl fp C s₂ H₂,CE (xK X x scope cl fp C s₂ H₂) elt c)
  (hs:∀v,foldedSetIterable iter X.env v=pure v:=by intro _; rfl):CE X (.ListComp elt [⟨.Name x px,iter,ifs,0⟩] scope pos) (dF ce t c) :=
 ⟨JE.weak (dC (te:=jZ X.K (Rep X.K) c) (tc:=jZ X.K xM t) hc hN K ⟨pi_list hi.h.h⟩ (fun cl fp C s₂ H₂=>(ht cl fp C s₂ H₂).h) (fun cl fp C s₂ H₂=>(he cl fp C s₂ H₂).h) hs) fun σ H Q zz=>qX zz fun ρ C R s h q f=> by
  unfold dF at q
  exact⟨ρ,C,_,s,h,q,fun xv H1 px C1 q1 rx h1 f1=>by
   split at q1
   .next a =>
    split at q1
    .next xs e =>
     obtain⟨vs,ev,r⟩:=h1 a _ e;cases rx;exact⟨a,rfl,⟨vs,SqL.of ev⟩,fun D hD=>comp_S (Q:=Q) it_lst (s.imm (f1.imm h)) h1 q1 h f1 f hD⟩
    .exact q1.elim
   .exact q1.elim⟩⟩
end
section
variable {C:CH}{a p:Addr}{xs ys:List PV}{i:Int}{v:PV}{Q:K1}
theorem jW (h:C a=some (.lst xs))(e:atI xs i=some v)(q:Q v C):cIx (.ref a) (.int i) C Q:=by
 delta cIx
 show(match C a with | some (.lst xs)=>cAt xs i C Q | _=>False);rw[h];show cAt xs i C Q
 delta cAt
 rwa [e]
theorem ix_f (e:atI xs i=some v)(q:Q v C):cIx (.fz xs) (.int i) C Q:=by
 delta cIx
 show cAt xs i C Q
 delta cAt
 rwa [e]
theorem wU (e:atI xs i=some v)(q:Q v C):cIx (.tup xs) (.int i) C Q:=by
 delta cIx
 show cAt xs i C Q
 delta cAt
 rwa [e]
theorem QS   {Q}(h:C p=some (.lst xs))(e:ixN xs.length k=some j)(q:Q (jQ C p (.lst (xs.set j v)))):bE (.ref p) (.int k) v C Q:=by
 delta bE
 dsimp only;rw[h];dsimp only
 rwa [e]
theorem nM (h:C a=some (.lst xs))(q:Q (.int xs.length) C):pF [.ref a] C Q:=by
 delta pF
 show(match C a with | some (.lst xs)=>Q (.int xs.length) C | some (.dK kvs)=>Q (.int kvs.length) C | _=>False)
 rwa [h]
theorem Xo (q:Q (.int xs.length) C):pF [.fz xs] C Q:=by
 delta pF
 exact q
theorem iD (q:Q (.int xs.length) C):pF [.tup xs] C Q:=by
 delta pF
 exact q
theorem Zm (h:C a=some (.lst xs))(z:xs.length < sizeLine)(q:Q .non (jQ C a (.lst (xs++[v])))):fG (.ref a) [v] C Q :=by simp_all[fG]
theorem lC (h:C a=some (.lst xs)):isL (.ref a) C:=by
 show(match C a with | some (.lst _)=>True | _=>False);rw[h]
 trivial
end
theorem i_i     (q:Q (g i j) C):cI g (.int i) (.int j) C Q:=by
 delta cI
 exact q
theorem sL    (q:Q (.int (i+j)) C):kT (.int i) (.int j) C Q:=by
 delta kT
 exact q
theorem nJ  {q:Prop}(h1:b=true->p)(h2:b=false->q):if b=true then p else q :=by grind
theorem if_n  {q:Prop}(e:b=false)(h:q):if b=true then p else q :=by grind
theorem fP  {p q:CH->Prop}  (e:b=true)(h:p C):pP (fun b C1=>if b=true then p C1 else q C1) (.bl b) C:=by cases e; exact h
theorem qV  {p q:CH->Prop}  (e:b=false)(h:q C):pP (fun b C1=>if b=true then p C1 else q C1) (.bl b) C:=by cases e; exact h
theorem rA  {p q:CH->Prop}  (h1:b=true->p C)(h2:b=false->q C):pP (fun b C1=>if b=true then p C1 else q C1) (.bl b) C:=by
 cases b with
 |true=>exact h1 rfl
 |false=>exact h2 rfl
theorem jK {p q:CH->Prop}  (h:q C):pP (fun b C1=>if (!b)=true then p C1 else q C1) (.bl true) C :=h
theorem yU      (e:sEq x y=some b)(q:Q (.bl (k b)) C):cEq k x y C Q :=by simp_all[cEq]
theorem sEq_int x y:sEq (.int x) (.int y)=some (decide (x=y)):=rfl
theorem if_t {p q:Prop}(h:p):if true=true then p else q:=h
theorem if_f {p q:Prop}(h:q):if false=true then p else q:=h
theorem X3 {c:TCE}{ρ:CSt}{Q:K1}{x:PV}{C:CH}(h:c (some x::ρ) C fun y C2=>∀p,C2 p=none->Q (.ref p) (jQ C2 p (.lst [y]))):eZ Zg c ρ Q [x] [] C:=by
 show c (some x::ρ) C fun y C2=>0 < sizeLine/\∀p,C2 p=none->Q (.ref p) (jQ C2 p (.lst [y]))
 have e:(fun y (C2:CH)=>0 < sizeLine/\∀p,C2 p=none->Q (.ref p) (jQ C2 p (.lst [y])))=fun y C2=>∀p,C2 p=none->Q (.ref p) (jQ C2 p (.lst [y])):=by
  funext y C2
  exact propext ⟨fun z=>z.2,fun z=>⟨by decide,z⟩⟩
 rw[e];exact h
theorem tI        (h:t (some x::ρ) C fun b C1=>if b=true then c (some x::ρ) C1 fun y C2=>acc.length < sizeLine/\eZ t c ρ Q r (acc++[y]) C2 else eZ t c ρ Q r acc C1):eZ t c ρ Q (x::r) acc C:=h
theorem X5       (h:∀p,C p=none->Q (.ref p) (jQ C p (.lst acc))):eZ t c ρ Q [] acc C:=h
theorem rK      (e1:zG n=some T)(e2:tyP C x=some k)(q:Q (.bl (rC k T)) C):cIsi [x,.ty n] C Q:=by
 delta cIsi
 show(match zG n,tyP C x with | some T,some k=>Q (.bl (rC k T)) C | _,_=>False)
 rwa [e1,e2]
theorem Zo     (h1:C a=some (.lst xs))(h2:C b=some (.lst ys))(z:xs.length+ys.length<=sizeLine)(q:∀p,C p=none->Q (.ref p) (jQ C p (.lst (xs++ys)))):kT (.ref a) (.ref b) C Q:=by
 delta kT
 show(match C a,C b with | some (.lst xs),some (.lst ys)=>xs.length+ys.length<=sizeLine/\∀p,C p=none->Q (.ref p) (jQ C p (.lst (xs++ys))) | _,_=>False);exact h1▸h2▸⟨z,q⟩
theorem QN     (m:C p=some (.lst xs))(q:Q (.tup xs) C):fF [.ref p] C Q:=by
 delta fF
 show(match C p with | some (.lst xs)=>Q (.tup xs) C | _=>False)
 rwa [m]
def Gr (C C':CH):Prop:=∀b o,C b=some o->C' b=some o
theorem Gr.refl  : Gr C C:=fun _ _ h=>h
theorem Gr.trans  (h:Gr C C1)(h':Gr C1 C2):Gr C C2:=fun b o e=>h' b o (h b o e)
theorem Gr.new   (hp:C p=none) o:Gr C (jQ C p o):=fun b u e=>by
 rw[zQ (fun z=>by subst z; rw[hp] at e; cases e)]; exact e
theorem tZ    (h:E.nx ρ C):cNext E ρ C:=h
theorem jP       (h:ce ρ C fun v C1=>u E (ρ.set i (some v)) C1):cSeq (cSet i ce) u E ρ C:=h
theorem sT     (h:t (E.wn (u E)) ρ C):cSeq t u E ρ C:=h
theorem c_i     (h:Q v C):cC v ρ C Q:=h
theorem nN     (P:CSt->CH->Prop)(h1:∀K:CSt->CH->Prop,(∀ρ' C',P ρ' C'->K ρ' C')->t (E.wn K) ρ C)(h2:∀ρ' C',P ρ' C'->u E ρ' C'):cSeq t u E ρ C:=h1 _ h2
section
variable {X:Cx}{o e value i f:Expr}{es:List Expr}{pos pos':Pos}
def cD (f:Str)(v:PV):List (Str×PV)->List (Str×PV)
 |[]=>[(f,v)]
 | (g,x)::r=>if g=f then (g,v)::r else (g,x)::cD f v r
theorem FP.put {K}  {f}   (h:Rep K H v t):∀{gs}{fs},FP K H gs fs->FP K H (yJ f v gs) (cD f t fs):=by
 intro gs fs r
 induction r with
 |nil=>exact .cons ⟨rfl,h⟩ .nil
 |@cons p q l1 l2 h' r ih =>
  obtain⟨g,x⟩:=p;obtain⟨g',y⟩:=q;obtain⟨rfl,h2⟩:=h';unfold yJ cD
  by_cases e:g=f
  .rw [AV e,AV e]; exact .cons ⟨rfl,h⟩ r
  .rw [AR e,AR e]; exact .cons ⟨rfl,h2⟩ ih
theorem FP.look {K}  {f}:∀{gs}{fs:List (Str×PV)},FP K H gs fs->(∃v t,gs.lookup f=some v/\fs.lookup f=some t/\Rep K H v t)\/(gs.lookup f=none/\fs.lookup f=none):=by
 intro gs fs r
 induction r with
 |nil=>exact .inr ⟨rfl,rfl⟩
 |@cons p q l1 l2 h' r ih =>
  obtain⟨g,x⟩:=p;obtain⟨g',y⟩:=q;obtain⟨rfl,h2⟩:=h';unfold List.lookup
  cases e:(f==g) with
  |true=>exact .inl ⟨x,y,rfl,rfl,h2⟩
  |false=>exact ih
@[irreducible] def cFld (c:Addr)(f:Str):PV->CH->K1->Prop:=fun x C Q=>match x with
 |.ref p=>match C p with
  |some (.ins c' _ fs)=>c'=c/\match fs.lookup f with
   |some v=>Q v C
   |none=>False
  |_=>False
 |_=>False
theorem tX {f}   (hc:Cls X.K c)(hn:NoAttr X.K c f)(ho:CE X o co)(hb:attributeBase o f X.env (eval o X.env)=eval o X.env:=by rfl):CE X (.Attribute o f pos) (fun ρ C Q=>co ρ C fun x C1=>cFld c f x C1 Q) :=
 ⟨JE.weak ⟨pe_fld ho.h.h hb⟩ fun σ H Q zz=>qX zz fun ρ C R s h q f'=> ⟨ρ,C,_,s,h,q,fun x H1 px C1 q1 rx h1 f1=>by
  delta cFld at q1
  split at q1
  .next p =>
   split at q1
   .next c' dx fs e1 =>
    obtain⟨rfl,q1⟩:=q1
    split at q1
    .next t e2 =>
     refine wJ (h1 p _ e1) fun gs eg r=>?_;cases rx
     rcases FP.look r with ⟨v,t',l1,l2,rv⟩ | ⟨l1,l2⟩
     .rw [e2] at l2
      cases l2;exact⟨p,c',dx,gs,v,rfl,eg,hc,hn,l1,f' v H1 t C1 q1 rv h1 f1⟩
     .rw [e2] at l2; cases l2
    .exact q1.elim
   .exact q1.elim
  .exact q1.elim⟩⟩
@[irreducible] def bR (c:Addr)(f:Str):PV->PV->CH->(CH->Prop)->Prop:=fun x v C Q=>match x with
 |.ref p=>match C p with
  |some (.ins c' dx fs)=>c'=c/\fs.length < 1000/\Q (jQ C p (.ins c' dx (cD f v fs)))
  |_=>False
 |_=>False
theorem vW {f}  {cv}(hc:Cls X.K c)(hn:NoAttr X.K c f)(ho:CE X o co)(hv:CE X value cv)(hs:swapsWith value (some (.Attribute o f pos')) pos.line X.env=pure false:=by rfl):
  CS X (.Assign [.Attribute o f pos'] value pos) (fun E ρ C=>cv ρ C fun v C1=>co ρ C1 fun x C2=>bR c f x v C2 fun C3=>E.nx ρ C3):=⟨JS.weak ⟨ps_fld ho.h.h hv.h.h hs⟩ fun D σ H zz=>qX zz fun ρ C E s h q f'=>
 ⟨ρ,C,_,s,h,q,fun v H1 pv C1 q1 rv h1 f1=>⟨ρ,C1,_,s.imm (f1.imm h),h1,q1,fun x H2 px C2 q2 rx h2 f2=>by
  have rv2:=rv.imm (f2.imm h1)
  delta bR at q2
  split at q2
  .next p =>
   split at q2
   .next c' dx fs e1 =>
    obtain⟨rfl,ql,q2⟩:=q2;refine wJ (h2 p _ e1) fun gs eg r=>?_;cases rx;have m:Imm H2 (upd H2 p (.ins c' dx (yJ f v gs))):=Imm.mut eg rfl _;exact⟨p,c',dx,gs,rfl,eg,hc,hn,by exact(Paired.length r)▸ql,f'.nx σ _ ρ _ q2 (((s.imm (f1.imm h)).imm (f2.imm h1)).imm m) (h2.put eg rfl ⟨_,vQ,Paired.mapP (FP.put rv2 r) fun _ _ z=>⟨z.1,z.2.imm m⟩⟩) (f1.trans (f2.trans (Fw.put e1 _ _)))⟩
   .exact q2.elim
  .exact q2.elim⟩⟩⟩
def nU (c:Addr)(m:Str)(x:PV)(C:CH):Prop:=match x with
 |.ref p=>match C p with
  |some (.ins c' _ fs)=>c'=c/\fs.lookup m=none
  |_=>False
 |_=>False
theorem gG   {K}     (d:nU c m t C)(r:Rep K H x t)(h:HRel K H C):∃a dx gs,x=.ref a/\t=.ref a/\H a=some (.ins c dx gs)/\gs.lookup m=none:=by
 delta nU at d
 split at d
 .split at d
  .next e =>
   obtain⟨rfl,d⟩:=d;obtain⟨gs,eg,rf⟩:=(h _ _ e);cases r;refine⟨_,_,gs,rfl,rfl,eg,?_⟩
   rcases FP.look rf with ⟨v,t',l1,l2,_⟩ | ⟨l1,l2⟩
   .rw [l2] at d; cases d
   .exact l1
  .exact d.elim
 .exact d.elim
def cMeth (c:Addr)(m:Str)(G:GC)(co:TCE)(ca:TCA):TCE:=fun ρ C Q=>co ρ C fun x C1=>nU c m x C1/\ca ρ C1 fun xs C2=>G (x::xs) C2 Q
theorem ce_meth         {apos}   {pl}(hc:Cls X.K c)(hm:Qi X.K c m fa)(F:eX X.prog X.w X.K X.mg X.base CX k fa fd ps (spC X.K G))(hr:Room k X.A)(hb:Binds X.K fd ps [])(hx:mZ CX X E)(ho:CE X o co)(ha:CA X (e::es) ca)
  (hst:starEach (e::es) X.env=(false,eval e X.env)::starEach es X.env:=by rfl) (hpl:(backTo pos (starEach es X.env)).any (·.1)=false:=by rfl)
  (ht:eval (.Call (.Attribute o m apos) (e::es) [] pos) X.env=(do
   let ov <- eval o X.env
   standAt apos.atName
   let (f,first) <- holding [ov] (getMethod ov m pl)
   callWith pos f first (backTo pos (starEach (e::es) X.env)) (backToKw pos (keywordEach [] X.env))):=by rfl) :
  CE X (.Call (.Attribute o m apos) (e::es) [] pos) (cMeth c m G co ca) :=
 ⟨JE.weak ⟨yB ho.h.h hc hm F hr hb .nil hx ha.h.h hst hpl ht⟩ fun σ H Q zz=>qX zz fun ρ C R s h q f=> ⟨ρ,C,_,s,h,q,fun x H1 px C1 q1 rx h1 f1=>by
  obtain⟨a,dx,gs,rfl,rfl,eg,lk⟩:=gG q1.1 rx h1
  exact⟨a,dx,gs,rfl,eg,lk,ρ,C1,_,s.imm (f1.imm h),h1,q1.2,fun xs H2 ts C2 q2 rs h2 f2=>⟨.ref a::ts,C2,R,.cons (.ref a) (by grind),h2,q2,fun v H' t C' q' r' h' f'=>f v H' t C' q' r' h' (f1.trans (f2.trans f'))⟩⟩⟩⟩
def Zi (c:Addr)(G:GC)(ca:TCA):TCE:=fun ρ C Q=>ca ρ C fun xs C1=>∀x dx,C1 x=none->C1 dx=none->dx≠x->G (.ref x::xs) (jQ C1 x (.ins c dx [])) fun v C2=>v=.non/\Q (.ref x) C2
theorem ce_make         {p}  (M:Mk X.K c fa)(F:eX X.prog X.w X.K X.mg X.base CX k fa fd ps (spC X.K G))(hr:Room (k+1) X.A)(hg:Gl X x)(hm:X.mg x=some (.ref c))(hb:Binds X.K fd ps [])(hx:mZ CX X E)(ha:CA X (e::es) ca)
  (hdb:(x==("__debug__" : Str))=false:=by decide) (hst:starEach (e::es) X.env=(false,eval e X.env)::starEach es X.env:=by rfl) (hpl:(backTo pos (starEach es X.env)).any (·.1)=false:=by rfl):CE X (.Call (.Name x p) (e::es) [] pos) (Zi c G ca) :=
 ⟨JE.weak ⟨pe_make M F hr hg hm hb .nil hx ha.h.h hdb hst hpl⟩ fun σ H Q zz=>qX zz fun ρ C R s h q f=> ⟨ρ,C,_,s,h,q,fun xs H1 ts C1 q1 rs h1 f1=>fun y dx hy hd nd=>by
  have hy':upd H1 dx (.own y) y=none:=by rwa [wQ (Ne.symm nd)]
  have k2:Imm (upd H1 dx (.own y)) (upd (upd H1 dx (.own y)) y (.ins c dx [])):=Imm.new hy' _;refine⟨.ref y::ts,jQ C1 y (.ins c dx []),_,.cons (.ref y) (by rw[Ad]; exact(rs.imm (Imm.new hd _)).imm k2),(h1.new hd (.own y)).lay hy' ⟨[],vQ,.nil⟩,q1 y dx (h1.fresh hy) (h1.fresh hd) nd,fun v H' t C' q' r' h' f'=>?_⟩;obtain⟨rfl,q'⟩:=q';cases r'
  exact⟨rfl,f _ H' _ C' q' (.ref y) h' (f1.trans (((Fw.new hd _).trans (Fw.lay hy' _ _)).trans f'))⟩⟩⟩
end
def sS:List PV->Option (List Key)
 |[]=>some []
 |t::r=>match cK t,sS r with
  |some k,some ks=>some (k::ks)
  |_,_=>none
def eF:PV->Option (List Key)
 |.tup ts=>sS ts
 |_=>none
section
variable {κ:Type}[DecidableEq κ]
def tF (kvs:List (κ×PV))(k:κ):Option PV:=(kvs.find? fun kv=>decide (kv.1=k)).map (·.2)
def putG (kvs:List (κ×PV))(k:κ)(v:PV):List (κ×PV):=if (kvs.any fun kv=>decide (kv.1=k))=true then kvs.map fun kv=>if kv.1=k then (kv.1,v) else kv else kvs++[(k,v)]
def dS (kvs more:List (κ×PV)):List (κ×PV):=more.foldl (fun acc kv=>putG acc kv.1 kv.2) kvs
end
section
variable {X:Cx}{a b c e o i f value:Expr}{es:List Expr}{pos pos':Pos}
@[irreducible] def cTIx:R2C:=fun x y C Q=>match x with
 |.ref a=>match C a,eF y with
  |some (.dT kvs),some k=>match tF kvs k with
   |some v=>Q v C
   |none=>False
  |_,_=>False
 |_=>False
@[irreducible] def cTGet:PV->PV->PV->CH->K1->Prop:=fun x y z C Q=>match x with
 |.ref a=>match C a,eF y with
  |some (.dT kvs),some k=>Q ((tF kvs k).getD z) C
  |_,_=>False
 |_=>False
@[irreducible] def cPutT:PV->PV->PV->CH->(CH->Prop)->Prop:=fun x y v C Q=>match x with
 |.ref a=>match C a,eF y with
  |some (.dT kvs),some k=>kvs.length < sizeLine/\Q (jQ C a (.dT (putG kvs k v)))
  |_,_=>False
 |_=>False
end
section
variable {X:Cx}{a b c e o i f value:Expr}{es:List Expr}{pos pos':Pos}
@[irreducible] def cMax:GC:=fun ts C Q=>match ts with
 |[.int i,.int j]=>Q (.int (if j > i then j else i)) C
 |_=>False
@[irreducible] def cMin:GC:=fun ts C Q=>match ts with
 |[.int i,.int j]=>Q (.int (if j < i then j else i)) C
 |_=>False
@[irreducible] def cDictK:GC:=fun ts C Q=>match ts with
 |[.ref a]=>match C a with
  |some (.dK kvs)=>∀p,C p=none->Q (.ref p) (jQ C p (.dK kvs))
  |_=>False
 |_=>False
@[irreducible] def cCount:PV->List PV->CH->K1->Prop:=fun x ts C Q=>match x,ts with
 |.ref a,[y]=>match C a,cK y with
  |some (.lst xs),some k=>match sS xs with
   |some ks=>Q (.int (cntK k ks:Nat)) C
   |none=>False
  |_,_=>False
 |_,_=>False
@[irreducible] def cIndexT:PV->List PV->CH->K1->Prop:=fun x ts C Q=>match x,ts with
 |.ref a,[.bl true]=>match C a with
  |some (.lst xs)=>∃(bs:List Bool) (j:Nat),xs=bs.map PV.bl/\bs[j]?=some true/\(∀m,m < j->bs[m]?=some false)/\Q (.int (j:Nat)) C
  |_=>False
 |_,_=>False
@[irreducible] def cEqT (k:Bool->Bool):R2C:=fun x y C Q=>match eF x,eF y with
 |some ks,some js=>Q (.bl (k (decide (ks=js)))) C
 |_,_=>False
def flatP:PV->Option V
 |.non=>some .non
 |.bl b=>some (.bl b)
 |.int i=>some (.int i)
 |.str x=>some (.str x)
 |_=>none
def XR:List PV->Option (List V)
 |[]=>some []
 |t::r=>match flatP t,XR r with
  |some v,some vs=>some (v::vs)
  |_,_=>none
def seqP (C:CH):PV->Option (List PV)
 |.tup xs=>some xs
 |.kt xs=>some xs
 |.ref a=>match C a with
  |some (.lst xs)=>some xs
  |_=>none
 |_=>none
@[irreducible] def cInS (neg:Bool):R2C:=fun x y C Q=>match seqP C y,flatP x with
 |some ts,some v=>match XR ts with
  |some vs=>Q (.bl (if neg then !inV v vs else inV v vs)) C
  |none=>False
 |_,_=>False
@[irreducible] def mE:R2C:=fun x y C Q=>match x,y with
 |.ref a,.int k=>match C a with
  |some (.lst xs)=>-(2 ^ 63)<=k/\k < 2 ^ 63/\xs.length * k.toNat<=sizeLine/\∀p,C p=none->Q (.ref p) (jQ C p (.lst (List.replicate k.toNat xs).flatten))
  |_=>False
 |.tup [z],.int k=>0<=k/\k < 64/\Q (.tup (List.replicate k.toNat z)) C
 |_,_=>False
theorem Reps.flat {K:CU}{H:Hp}{vs:List V}{ts:List PV}(r:Reps K H vs ts):∀n,Reps K H (List.replicate n vs).flatten (List.replicate n ts).flatten
 |0=>.nil
 |n+1=>by
  rw[Av,BH,Av,BH];exact r.append (Reps.flat r n)
theorem Reps.rep {K:CU}{H:Hp}{v:V}{t:PV}(r:Rep K H v t):∀n,Reps K H (List.replicate n v) (List.replicate n t)
 |0=>.nil
 |n+1=>.cons r (Reps.rep r n)
theorem op_repC:OpR X (binaryOp .Mult) (fun x y H Q=>rRep x y H Q\/QV x y H Q):=OpR.or op_rep op_repU
theorem cop_rep {K:CU}:Cop K (fun x y H Q=>rRep x y H Q\/QV x y H Q) mE:=fun x y px py H C Q R rx ry h q f=>by
 unfold mE at q
 split at q
 .split at q
  .next xs e =>
   obtain⟨vs,ev,rv⟩:=h _ _ e;cases rx; cases ry
   refine .inl ⟨_,_,vs,rfl,rfl,ev,q.1,q.2.1,by rw[rv.len]; exact q.2.2.1,fun p hp=>?_⟩;exact f _ _ _ _ (q.2.2.2 p (h.fresh hp)) (.ref p) (h.lay hp ⟨_,vQ,(Reps.flat rv _).imm (Imm.new hp _)⟩) (Fw.lay hp _ _)
  .exact q.elim
 .cases ry
  cases rx with
  |tup e r =>
   obtain⟨v,rfl,r1⟩:=aX r;refine .inr ⟨_,_,v,rfl,rfl,e,q.1,q.2.1,fun p H' s hp _=>?_⟩;exact f _ H' _ C q.2.2 (.tup hp (Reps.rep (r1.imm fun b v _ e=>s b v e) _)) (wL h s) (oO s)
 .exact q.elim
end
def QQ:List Key->Option (List Str)
 |[]=>some []
 |.inr x::r=>(QQ r).map (x :: ·)
 |_=>none
def tiK:List (List Key×PV)->Option (List (List Str×Int))
 |[]=>some []
 | (k,.int i)::r=>match QQ k,tiK r with
  |some zs,some cs=>some ((zs,i)::cs)
  |_,_=>none
 |_=>none
def tiPV (c:List Str×Int):PV:=.tup [.tup (c.1.map PV.str),.int c.2]
def tiLt (cs:List (List Str×Int)):Nat->Nat->Bool:=fun i j=>ltP (cs.getD i ([],0)) (cs.getD j ([],0))
def ordT (cs:List (List Str×Int)):List (List Str×Int):=(kRun (tiLt cs) (kas_sort cs.length)).toList.map fun i=>cs.getD i ([],0)
section
variable {K:CU}{H:Hp}{X:Cx}
@[irreducible] def cItemsT (co:TCE):TCE:=fun ρ C Q=>co ρ C fun x C1=>match x with
 |.ref a=>match C1 a with
  |some (.dT _)=>Q (.vw a) C1
  |_=>False
 |_=>False
@[irreducible] def cSortedT:GC:=fun ts C Q=>match ts with
 |[.vw a]=>match C a with
  |some (.dT kvs)=>match tiK kvs with
   |some cs=>cs.length < 64/\∀p,C p=none->Q (.ref p) (jQ C p (.lst ((ordT cs).map tiPV)))
   |none=>False
  |_=>False
 |_=>False
end
def prK:List (PV×PV)->Option (List (Key×PV))
 |[]=>some []
 | (x,y)::r=>match cK x,prK r with
  |some k,some ps=>some ((k,y)::ps)
  |_,_=>none
def prT:List (PV×PV)->Option (List (List Key×PV))
 |[]=>some []
 | (x,y)::r=>match eF x,prT r with
  |some k,some ps=>some ((k,y)::ps)
  |_,_=>none
section
variable {X:Cx}{pos:Pos}{keys:List (Option Expr)}{values:List Expr}{cs:List (TCE×TCE)}
@[irreducible] def cPutAll (p:Addr):List (PV×PV)->CH->K1->Prop:=fun ts C Q=>C p=some (.dK [])/\match prK ts with
 |some ps=>ps.length<=15/\Q (.ref p) (jQ C p (.dK (pS [] ps)))
 |none=>False
@[irreducible] def cPutAllT (p:Addr):List (PV×PV)->CH->K1->Prop:=fun ts C Q=>C p=some (.dT [])/\match prT ts with
 |some ps=>ps.length<=15/\Q (.ref p) (jQ C p (.dT (dS [] ps)))
 |none=>False
end
section
variable {C:CH}{p:Addr}{Q:K1}{x y v z:PV}
theorem hZ    (m:C p=some (.ins c dx fs))(e:fs.lookup f=some v)(q:Q v C):cFld c f (.ref p) C Q :=by simp_all[cFld]
theorem sV    {Q}(m:C p=some (.ins c dx fs))(h:fs.length < 1000)(q:Q (jQ C p (.ins c dx (cD f v fs)))):bR c f (.ref p) v C Q :=by simp_all[bR]
theorem iX    (m:C p=some (.ins c dx fs))(e:fs.lookup f=none):nU c f (.ref p) C:=by
 delta nU
 dsimp only;exact m▸⟨rfl,e⟩
theorem putD_k   {Q}(m:C p=some (.dK kvs))(hk:cK y=some k)(h:kvs.length<=1000)(q:Q (jQ C p (.dK (aN kvs k v)))):fE (.ref p) y v C Q:=by
 delta fE
 dsimp only;exact m▸hk▸⟨A9 h (by decide),q⟩
theorem forT_g      (h:ce ρ C fun t C1=>match t with | .tup xs=>gW g u E xs ρ C1 | .kt xs=>gW g u E xs ρ C1 | _=>False):mL ce g u E ρ C:=by
 delta mL
 exact h
end
theorem QJ    (I:List PV->CSt->CH->Prop)(step:∀x r ρ C,I (x::r) ρ C->∀L:CSt->CH->Prop,(∀ρ' C',I r ρ' C'->L ρ' C')->g x ρ C fun ρ1 C1=>u (E.lp L) ρ1 C1)(fin:∀ρ C,I [] ρ C->E.nx ρ C):
  ∀xs ρ C,I xs ρ C->gW g u E xs ρ C:=by
 intro xs
 induction xs with
 |nil=>intro ρ C h; exact fin ρ C h
 |cons x r ih=>intro ρ C h; exact step x r ρ C h _ ih
theorem xV   (g:Gr C C')(h:C' p=none):C p=none:=by
 cases e:C p with
 |none=>rfl
 |some o=>rw[g p o e] at h; cases h
def ExS (S:List Addr)(C C':CH):Prop:=∀b o,b∉S->C b=some o->C' b=some o
section
variable {X:Cx}{pos:Pos}
abbrev g2 (K:CU):TG:=gTup K 2 (sU (gV 0) (sU (gV 1) gNil))
abbrev g3 (K:CU):TG:=gTup K 3 (sU (gV 0) (sU (gV 1) (sU (gV 2) gNil)))
end
end CL
namespace L2
open PySem PySem.W PySem.Spec PyProof.Rows
abbrev Zq:=List (List Key)
end L2
namespace CL
open PySem PySem.Spec L2 PySem.W
open PyProof.Rows hiding St
section
variable {X:Cx}{a b c e o i f value:Expr}{es:List Expr}{pos pos':Pos}
@[irreducible] def cInt:GC:=fun ts C Q=>match ts with
 |[.bl b]=>Q (.int (if b then 1 else 0)) C
 |[.int i]=>Q (.int i) C
 |_=>False
@[irreducible] def cCatT:R2C:=fun x y C Q=>match x,y with
 |.tup xs,.tup ys=>xs.length+ys.length<=sizeLine/\Q (.tup (xs++ys)) C
 |_,_=>False
@[irreducible] def dB:PV->List PV->CH->K1->Prop:=fun x ts C Q=>match x,ts with
 |.ref a,[.ref b]=>match C a,C b with
  |some (.lst xs),some (.lst ys)=>xs.length+ys.length<=sizeLine/\Q .non (jQ C a (.lst (xs++ys)))
  |_,_=>False
 |_,_=>False
theorem qT {K}:Cmt K xO dB:=fun x px xs ps H C Q R rx rs h q f=>by
 delta dB at q
 split at q
 .split at q
  .next ys zs e1 e2 =>
   refine wJ (h _ _ e1) fun vs ev rv=>wJ (h _ _ e2) fun ws ew rw'=>?_;obtain⟨v,rfl,r⟩:=aX rs;cases rx; cases r
   exact⟨_,_,vs,ws,rfl,rfl,ev,ew,by exact rv.len▸rw'.len▸q.1,f _ _ _ _ q.2 .non (h.put ev rfl ⟨_,vQ,(rv.append rw').imm (Imm.mut ev rfl _)⟩) (Fw.put e1 _ _)⟩
  .exact q.elim
 .exact q.elim
def cBM0 (cr:PV->List PV->CH->K1->Prop)(co:TCE):TCE:=fun ρ C Q=>co ρ C fun x C1=>isL x C1/\cr x [] C1 Q
theorem ce_bm0  {id}{apos cpos}    (pa:PlainAttrs "list")(slot:Slot "list" name id)(hty:typeOf (.builtin id)=pure (.type "method_descriptor"))(hm:MtR X id r)(hr:Cmt X.K r cr)(ho:CE X o co)
  (hbase:attributeBase o name X.env (eval o X.env)=eval o X.env:=by rfl) (hline:(apos.endLine==cpos.line)=true:=by rfl):CE X (.Call (.Attribute o name apos) [] [] cpos) (cBM0 cr co):=⟨JE.weak ⟨pe_bm0 pa slot hty hm ho.h.h hbase hline⟩ fun σ H Q zz=>qX zz fun ρ C R s h q f=>
 ⟨ρ,C,_,s,h,q,fun x H1 px C1 q1 rx h1 f1=>⟨Xw q1.1 rx h1,hr x px [] [] H1 C1 Q R rx .nil h1 q1.2 fun v H' t C' q' r' h' f'=>f v H' t C' q' r' h' (f1.trans f')⟩⟩⟩
@[irreducible] def cReverse:PV->List PV->CH->K1->Prop:=fun x ts C Q=>match x,ts with
 |.ref a,[]=>match C a with
  |some (.lst xs)=>Q .non (jQ C a (.lst xs.reverse))
  |_=>False
 |_,_=>False
@[irreducible] def cClear:PV->List PV->CH->K1->Prop:=fun x ts C Q=>match x,ts with
 |.ref a,[]=>match C a with
  |some (.lst xs)=>Q .non (jQ C a (.lst []))
  |_=>False
 |_,_=>False
@[irreducible] def cSlT:PV->Option Int->Option Int->CH->K1->Prop:=fun x lo hi C Q=>match x with
 |.tup xs=>¬ (HT.sIx xs.length 0 lo=0/\HT.sIx xs.length xs.length hi=xs.length)/\Q (.tup (cutP xs lo hi)) C
 |_=>False
def pksOf:List PV->Option Zq
 |[]=>some []
 |t::r=>match eF t,pksOf r with
  |some k,some ks=>some (k::ks)
  |_,_=>none
def qC:PV->Option Zq
 |.tup ts=>pksOf ts
 |_=>none
@[irreducible] def cPIx:R2C:=fun x y C Q=>match x with
 |.ref a=>match C a,qC y with
  |some (.dP kvs),some k=>match tF kvs k with
   |some v=>Q v C
   |none=>False
  |_,_=>False
 |_=>False
@[irreducible] def cPIn:R2C:=fun y x C Q=>match x with
 |.ref a=>match C a,qC y with
  |some (.dP kvs),some k=>Q (.bl (tF kvs k).isSome) C
  |_,_=>False
 |_=>False
@[irreducible] def cPutQ:PV->PV->PV->CH->(CH->Prop)->Prop:=fun x y v C Q=>match x with
 |.ref a=>match C a,qC y with
  |some (.dP kvs),some k=>kvs.length < sizeLine/\Q (jQ C a (.dP (putG kvs k v)))
  |_,_=>False
 |_=>False
end
inductive Pl:Nat->PV->Prop
 |non {d:Nat}:Pl d .non
 |bl {d:Nat} (b:Bool):Pl d (.bl b)
 |int {d:Nat} (i:Int):Pl d (.int i)
 |str {d:Nat} (x:Str):Pl d (.str x)
 |tup {d:Nat} {ts:List PV} (h:∀t∈ts,Pl d t):Pl (d+1) (.tup ts)
section
variable {X:Cx}{pins:List (Addr×Obj)}{σ:St}{H:Hp}{s:Shared}
theorem tM   (ih:∀t∈ts,∀{A:Around}{v v':V}{u u':Value},Rep X.K H v t->Rep X.K H v' t->RelV v u->RelV v' u'->A.units+d < cLine->SeqAt.EqAt A s u u' true)  (hu:A.units+d < cLine)   (r1:Reps X.K H vs ts)(r2:Reps X.K H ws ts)(v1:Vals vs its)(v2:Vals ws its2):
  its.length=its2.length/\∀j h1 (h2:j < its2.toArray.size),SeqAt.EqAt A s its.toArray[j] its2.toArray[j] true:=by
 induction ts generalizing vs ws its its2 with
 |nil =>
  cases r1; cases r2; cases v1; cases v2
  exact⟨rfl,fun j h1=>absurd h1 (by simp)⟩
 |cons t ts iht =>
  cases r1 with
  |cons a1 r1 =>
   cases r2 with
   |cons a2 r2 =>
    cases v1 with
    |cons b1 v1 =>
     cases v2 with
     |cons b2 v2 =>
      obtain⟨l,k⟩:=iht (fun t' m=>ih t' (AJ _ m)) r1 r2 v1 v2;refine⟨by rw[AZ,AZ,l],fun j h1 h2=>?_⟩
      cases j with
      |zero=>exact ih t AW a1 a2 b1 b2 hu
      |succ j =>
       have:=k j (by simp_all) (by simp_all)
       simpa using this
theorem eO (I:Inv X pins σ H s)   (p:Pl d t):∀{A}{v v'}{u u'},Rep X.K H v t->Rep X.K H v' t->RelV v u->RelV v' u'->A.units+d < cLine->SeqAt.EqAt A s u u' true:=by
 induction p with
 |non =>
  intro A v v' u u' r r' e e' hu;cases r; cases r'
  cases e; cases e'
  exact Bp _
 |bl b =>
  intro A v v' u u' r r' e e' hu;cases r; cases r'
  cases e; cases e'
  exact Bp _
 |int i =>
  intro A v v' u u' r r' e e' hu;cases r; cases r'
  obtain⟨t1,rfl⟩:=e;obtain⟨t2,rfl⟩:=e';have:=SeqAt.EqAt.int_int (A:=A) (s:=s) i t1 i t2
  rwa [beq_self_eq_true] at this
 |str x =>
  intro A v v' u u' r r' e e' hu;cases r; cases r'
  obtain⟨t1,rfl⟩:=e;obtain⟨t2,rfl⟩:=e';have:=SeqAt.EqAt.str_str (A:=A) (s:=s) x t1 x t2
  rwa [beq_self_eq_true] at this
 |@tup d ts hp ih =>
  intro A v v' u u' r r' e e' hu
  cases r with
  |@tup a1 vs _ e1 r1 =>
   cases r' with
   |@tup a2 ws _ e2 r2 =>
    cases e; cases e'
    by_cases hab:a1=a2
    .subst hab; exact Bp _
    .refine lI (I.tuple (SqT.of e1)) fun its w1 p1 _=>lI (I.tuple (SqT.of e2)) fun its2 w2 p2 _=>?_
     have hu':A.in1.units+d < cLine :=by lia
     obtain⟨hl,he⟩:=tM (fun t m=>ih t m) hu' r1 r2 w1 w2;have R:=SeqAt.RcAt.tuples p1 p2 (by lia) he;rw[show((List.range (min its.toArray.size its2.toArray.size)).all (fun _=>true)&&its.toArray.size==its2.toArray.size)=true by simp[hl]] at R;exact SeqAt.EqAt.of_refs hab R
end
section
variable {X:Cx}
@[irreducible] def cNeD (d:Nat):R2C:=fun x y C Q=>match x,y with
 |.ref a,.ref b=>match C a,C b with
  |some (.lst xs),some (.lst ys)=>xs=ys/\(∀t∈xs,Pl d t)/\Q (.bl false) C
  |_,_=>False
 |_,_=>False
def qM:List PV->Option (List Str)
 |[]=>some []
 |.str x::r=>(qM r).map (x :: ·)
 |_=>none
def tiOf:List PV->Option (List (List Str×Int))
 |[]=>some []
 |.tup [.tup ks,.int i]::r=>match qM ks,tiOf r with
  |some zs,some cs=>some ((zs,i)::cs)
  |_,_=>none
 |_=>none
theorem QP   (e:qM ts=some zs):ts=zs.map PV.str:=by
 induction ts generalizing zs with
 |nil=>cases e; rfl
 |cons t ts ih =>
  unfold qM at e
  split at e
  .lia
  .rename_i x r h
   cases h
   cases z:qM ts with
   |none=>rw[z] at e; cases e
   |some ds=>rw[z] at e; cases e; rw[ih z]; rfl
  .cases e
@[irreducible] def cSortedL:GC:=fun ts C Q=>match ts with
 |[.ref a]=>match C a with
  |some (.lst xs)=>match tiOf xs with
   |some cs=>cs.length < 64/\∀p,C p=none->Q (.ref p) (jQ C p (.lst ((ordT cs).map tiPV)))
   |none=>False
  |_=>False
 |_=>False
end
section
variable {X:Cx}{pos:Pos}
def tkPV (k:List Key):PV:=.tup (k.map keyPV)
@[irreducible] def cCompT (ce:TCE)(t:TCT)(c:TCE):TCE:=fun ρ C Q=>ce ρ C fun x C1=>match x with
 |.ref d=>match C1 d with
  |some (.dT kvs)=>eZ t c ρ (fun v C2=>C2 d=some (.fT kvs)/\Q v (jQ C2 d (.dT kvs))) (kvs.map fun p=>tkPV p.1) [] (jQ C1 d (.fT kvs))
  |_=>False
 |_=>False
def tOf:Option CO->Option (List (List Key×PV))
 |some (.dT kvs)=>some kvs
 |some (.fT kvs)=>some kvs
 |_=>none
@[irreducible] def cTIy:R2C:=fun x y C Q=>match x with
 |.ref a=>match tOf (C a),eF y with
  |some kvs,some k=>match tF kvs k with
   |some v=>Q v C
   |none=>False
  |_,_=>False
 |_=>False
end
end CL
namespace L2
open PySem PySem.W PyProof.Rows
def drop (H:Hp)(a:Addr):Hp:=fun b=>if b=a then none else H b
section
variable {X:Cx}
theorem xD:bootBuiltins "reversed" = some (.type "reversed"):=by rfl
end
end L2
namespace CL
open PySem PySem.Spec L2 PySem.W
open PyProof.Rows hiding St
section
variable {X:Cx}{a b c e o i f value:Expr}{es:List Expr}{pos pos':Pos}
@[irreducible] def cRev:PV->CH->K1->Prop:=fun x C Q=>match x with
 |.ref a=>match C a with
  |some (.lst xs)=>∀p,C p=none->Q (.ref p) (jQ C p (.lst xs.reverse))
  |_=>False
 |_=>False
def rngPV (n:Nat):List PV:=(List.range n).map fun k=>PV.int (k:Nat)
@[irreducible] def cRng:PV->CH->K1->Prop:=fun x C Q=>match x with
 |.int j=>0<=j/\j<=100000/\∀p,C p=none->Q (.ref p) (jQ C p (.lst (rngPV j.toNat)))
 |_=>False
@[irreducible] def cPop:PV->List PV->CH->K1->Prop:=fun x ts C Q=>match x,ts with
 |.ref a,[]=>match C a with
  |some (.lst xs)=>match xs[xs.length - 1]? with
   |some y=>Q y (jQ C a (.lst xs.dropLast))
   |none=>False
  |_=>False
 |_,_=>False
theorem cmt_pop {K}:Cmt K rPop cPop:=fun x px xs ps H C Q R rx rs h q f=>by
 delta cPop at q
 split at q
 .split at q
  .next ys e1 =>
   split at q
   .next y ey =>
    obtain⟨vs,ev,rv⟩:=(h _ _ e1);cases rs;cases rx;obtain⟨v,hv,r1⟩:=(rv.get ey)
    have hd:Reps K H vs.dropLast ys.dropLast:=by
     rw[List.dropLast_eq_take,List.dropLast_eq_take,rv.len];exact rv.take _
    exact⟨_,vs,v,rfl,rfl,ev,by exact rv.len▸hv,f _ _ _ _ q (r1.imm (Imm.mut ev rfl _)) (h.put ev rfl ⟨_,vQ,hd.imm (Imm.mut ev rfl _)⟩) (Fw.put e1 _ _)⟩
   .exact q.elim
  .exact q.elim
 .exact q.elim
@[irreducible] def cTru (c:TCE):TCT:=fun ρ C Q=>c ρ C fun x C1=>match x with
 |.ref a=>match C1 a with
  |some (.lst xs)=>Q (!xs.isEmpty) C1
  |_=>False
 |_=>False
theorem ct_tru {c}(h:CE X e c)(he:rG e=true:=by rfl):CT X e (cTru c):=⟨JT.weak ⟨QY h.h.h (wM he)⟩ fun σ H Q zz=>qX zz fun ρ C R s h q f=> by
 delta cTru at q
 exact⟨ρ,C,_,s,h,q,fun x H1 px C1 q1 rx h1 f1=>by
  split at q1
  .split at q1
   .next xs e1 =>
    refine wJ (h1 _ _ e1) fun vs ev rv=>?_;cases rx;refine⟨!xs.isEmpty,.inl ⟨vs,SqL.of ev,?_⟩,f _ H1 _ C1 q1 rfl h1 f1⟩;have:=rv.len;cases vs<;>cases xs<;>simp_all
   .exact q1.elim
  .exact q1.elim⟩⟩
def Zh (c:Addr)(m:Str)(G:GC)(co:TCE):TCE:=fun ρ C Q=>co ρ C fun x C1=>nU c m x C1/\G [x] C1 Q
theorem X8   {c}         (hc:Cls X.K c)(hm:Qi X.K c m fa)(F:eX X.prog X.w X.K X.mg X.base CX k fa fd ps (spC X.K G))(hr:Room k X.A)(hb:Binds X.K fd ps [])(hx:mZ CX X E)(ho:CE X o co)
  (ht:eval (.Call (.Attribute o m apos) [] [] pos) X.env=(do
   let ov <- eval o X.env
   standAt apos.atName
   let (f,first) <- holding [ov] (getMethod ov m pl)
   callWith pos f first (backTo pos (starEach [] X.env)) (backToKw pos (keywordEach [] X.env))):=by rfl) :
  CE X (.Call (.Attribute o m apos) [] [] pos) (Zh c m G co) :=
 ⟨JE.weak ⟨lZ ho.h.h hc hm F hr hb .nil hx ht⟩ fun σ H Q zz=>qX zz fun ρ C R s h q f=> ⟨ρ,C,_,s,h,q,fun x H1 px C1 q1 rx h1 f1=>by
  obtain⟨a,dx,gs,rfl,rfl,eg,lk⟩:=gG q1.1 rx h1
  exact⟨a,dx,gs,rfl,eg,lk,⟨[.ref a],C1,R,.cons (.ref a) .nil,h1,q1.2,fun v H' t C' q' r' h' f'=>f v H' t C' q' r' h' (f1.trans f')⟩⟩⟩⟩
theorem pop_s      (m:C p=some (.lst xs))(e:xs[xs.length - 1]?=some y)(q:Q y (jQ C p (.lst xs.dropLast))):cPop (.ref p) [] C Q :=by simp_all[cPop]
end
structure Row where
 k:Option Str
 nm:Str
 q:Str
 st:Stmt
 ps:List Str
 N:List Str
def AllR (p:Row->Prop):List Row->Prop
 |[]=>True
 |r::rs=>p r/\AllR p rs
def FH (K:CU)(r:Row):Prop:=match r with
 |⟨none,nm,q,st,_,_⟩=>∃(f:Addr) (oc:Value) (od:Option Addr) (kV dc pm:Value) (an:Option Addr) (cd ct:Value) (sl:Array (Option Value)),
  PySem.W.nsIn K mainGlobals nm=some (some (.ref f))/\K.lookup f=some ⟨oc,od,.func (PySem.W.fnOf nm q (iJ st) (yZ st) (dQ st) .none kV dc pm an cd ct),sl⟩/\PySem.W.codeIn K cd q=true/\PySem.W.keepIn K (.ref f)=true
 |⟨some c,nm,q,st,_,_⟩=>∃(cc f:Addr) (oc:Value) (od:Option Addr) (kV dc pm:Value) (an:Option Addr) (cd ct:Value) (sl:Array (Option Value)),
  PySem.W.nsIn K mainGlobals c=some (some (.ref cc))/\PySem.W.findIn K (.ref cc) nm=some (some (.ref f))/\K.lookup f=some ⟨oc,od,.func (PySem.W.fnOf nm q (iJ st) (yZ st) (dQ st) .none kV dc pm an cd ct),sl⟩/\PySem.W.codeIn K cd q=true/\PySem.W.keepIn K (.ref f)=true/\PySem.W.isFn K (.ref f)=true
def RB (r:Row):Prop:=FnScope r.N r.ps (dQ r.st)/\∀(kV doc pm:Value) (an:Option Addr) (cdv ct:Value) (us:List Value),us.length=r.ps.length->bindArgs (PySem.W.fnOf r.nm r.q (iJ r.st) (yZ r.st) (dQ r.st) .none kV doc pm an cdv ct) ⟨us,[]⟩=pure (r.ps.zip us)
structure FI (K:CU)(mg:Str->Option Value)(k:Option Str)(nm q:Str)(st:Stmt)(ps N:List Str)(f:Addr)(d:FuncData):Prop where
 m:k=none->mg nm=some (.ref f)
 M:∀c ca,k=some c->mg c=some (.ref ca)->PySem.W.findIn K (.ref ca) nm=some (some (.ref f))/\PySem.W.isFn K (.ref f)=true
 F:Fun K nm q st f d
 s:FnScope N ps (dQ st)
 b:Binds K d ps []
section
variable {P:List Value->Prop}
theorem Zl  (h:∀a (us:List Value),us.length=n->P (a::us)) us (e:us.length=n+1):P us:=by
 cases us with
 |nil=>cases e
 |cons a us=>exact h a us (Nat.succ.inj e)
theorem args0 (h:P []) us (e:us.length=0):P us :=by grind
theorem args1 (h:∀a,P [a]):∀us,us.length=1->P us:=Zl fun a=>args0 (h a)
theorem args2 (h:∀a b,P [a,b]):∀us,us.length=2->P us:=Zl fun a=>args1 (h a)
theorem args3 (h:∀a b c,P [a,b,c]):∀us,us.length=3->P us:=Zl fun a=>args2 (h a)
end
theorem fi_one {K}   (X:K.In h)(G:h.Ns mainGlobals mg)  (x:FH K r)(y:RB r):∃f d,FI K mg r.k r.nm r.q r.st r.ps r.N f d:=by
 obtain⟨k,nm,q,st,ps,N⟩:=r;obtain⟨y1,y2⟩:=y
 cases k with
 |none =>
  obtain⟨f,oc,od,kV,dc,pm,an,cd,ct,sl,h1,h2,h3,h4⟩:=x;exact⟨f,_,⟨fun _=>AG X G h1,fun _ _ e=>(nomatch e),iP h2 h3 h4,y1,Fun.binds (iP h2 h3 h4) y2⟩⟩
 |some c =>
  obtain⟨cc,f,oc,od,kV,dc,pm,an,cd,ct,sl,h0,h1,h2,h3,h4,h5⟩:=x;refine⟨f,_,⟨fun e=>(nomatch e),fun c' ca e e'=>?_,iP h2 h3 h4,y1,Fun.binds (iP h2 h3 h4) y2⟩⟩;cases e;have:=(AG X G h0).symm.trans e';cases this;exact⟨h1,h5⟩
theorem fi_all {K}   (X:K.In h)(G:h.Ns mainGlobals mg):∀{t},AllR (FH K) t->AllR RB t->∃(f:Nat->Addr) (d:Nat->FuncData),∀i {k}{nm q}{st}{ps N},t[i]?=some ⟨k,nm,q,st,ps,N⟩->FI K mg k nm q st ps N (f i) (d i)
 |[],_,_=>⟨fun _=>mainGlobals,fun _=>PySem.W.fnOf "" "" (iJ (.Pass ⟨0,0,0,0⟩)) [] (dQ (.Pass ⟨0,0,0,0⟩)) .none .none .none .none none .none .none,fun i _ _ _ _ _ _ e=>by simp at e⟩
 |r::t,x,y=>by
  refine el21 (fi_one X G x.1 y.1) fun f0 d0 h0=>el21 (fi_all X G x.2 y.2) fun f d h=>⟨fun i=>match i with | 0=>f0 | i+1=>f i,fun i=>match i with | 0=>d0 | i+1=>d i,fun i=>?_⟩
  cases i with
  |zero=>intro k nm q st ps N e; cases e; exact h0
  |succ i=>intro k nm q st ps N e; exact h i e
section
variable {P:Program}{w:World}{K:CU}{mg:Str->Option Value}{base:Heap}
theorem FI.ok   {st}      (F:FI K mg kk x qual st ps N f fd)(len:∀ts C R,G ts C R->ts.length=ps.length)
  (hbody:∀cdv A outer s H E,Room k (A.deeper (envOfC qual (dQ st) s.heap.objs.size f cdv)) ->
   ∃c,CB (bX CX0 P w K mg base N qual (dQ st) f cdv A outer s H E).nox (yZ st) c/\∀ts C R,G ts C R->c (.go R) (dG N ts) C):eX P w K mg base CX0 (k+1) f fd ps (spC K G):=Fun.okC F.F F.s len hbody
theorem FI.o   {st}  {c}    (F:FI K mg kk x qual st ps N f fd)
  (hb:∀{cdv A outer s H E} (_:Room k (A.deeper (envOfC qual (dQ st) s.heap.objs.size f cdv))),CB (bX CX0 P w K mg base N qual (dQ st) f cdv A outer s H E).nox (yZ st) c)
  (h:∀ts C R,G ts C R->c (.go R) (dG N ts) C) (len:∀ts C R,G ts C R->ts.length=ps.length:=by intro _ _ _ h;cases h;subst_vars;rfl):eX P w K mg base CX0 (k+1) f fd ps (spC K G):=Fun.okC F.F F.s len fun _ _ _ _ _ _ r=>⟨c,hb r,h⟩
end
section
variable {X:Cx}{e o:Expr}{es:List Expr}{pos:Pos}
theorem cf       {st}{p}  (T:FI X.K X.mg none x q st ps N f fd)(F:eX X.prog X.w X.K X.mg X.base CX0 k f fd ps (spC X.K G))(hr:Room k X.A)
  (ha:CA X (e::es) ca) (hg:Gl X x:=by rfl) (hdb:(x==("__debug__" : Str))=false:=by decide) (hs:noStar e=true:=by rfl) (hall:es.all noStar=true:=by rfl):CE X (.Call (.Name x p) (e::es) [] pos) (fL G ca) :=
 ce_call F hr hg (T.m rfl) T.F.kp T.b gM ha hdb hs hall
theorem cm    {st}     {apos}   {pl}(hc:Cls X.K c)(T:FI X.K X.mg (some cn) m q st ps N fa fd)(hm:X.mg cn=some (.ref c))(F:eX X.prog X.w X.K X.mg X.base CX0 k fa fd ps (spC X.K G))(hr:Room k X.A)(ho:CE X o co)(ha:CA X (e::es) ca)
  (hst:starEach (e::es) X.env=(false,eval e X.env)::starEach es X.env:=by rfl) (hpl:(backTo pos (starEach es X.env)).any (·.1)=false:=by rfl)
  (ht:eval (.Call (.Attribute o m apos) (e::es) [] pos) X.env=(do
   let ov <- eval o X.env
   standAt apos.atName
   let (f,first) <- holding [ov] (getMethod ov m pl)
   callWith pos f first (backTo pos (starEach (e::es) X.env)) (backToKw pos (keywordEach [] X.env))):=by rfl) :
  CE X (.Call (.Attribute o m apos) (e::es) [] pos) (cMeth c m G co ca) :=
 ce_meth hc ⟨(T.M _ _ rfl hm).1,(T.M _ _ rfl hm).2,T.F.kp⟩ F hr T.b gM ho ha hst hpl ht
theorem cm0    {st}        (hc:Cls X.K c)(T:FI X.K X.mg (some cn) m q st ps N fa fd)(hm:X.mg cn=some (.ref c))(F:eX X.prog X.w X.K X.mg X.base CX0 k fa fd ps (spC X.K G))(hr:Room k X.A)(ho:CE X o co)
  (ht:eval (.Call (.Attribute o m apos) [] [] pos) X.env=(do
   let ov <- eval o X.env
   standAt apos.atName
   let (f,first) <- holding [ov] (getMethod ov m pl)
   callWith pos f first (backTo pos (starEach [] X.env)) (backToKw pos (keywordEach [] X.env))):=by rfl) :
  CE X (.Call (.Attribute o m apos) [] [] pos) (Zh c m G co) :=
 X8 hc ⟨(T.M _ _ rfl hm).1,(T.M _ _ rfl hm).2,T.F.kp⟩ F hr T.b gM ho ht
theorem cx   (ha:CE X a ca)(hb:CE X b cb)(hs:rH b:=by exact fun _ _=>rfl):CE X (.Subscript a b pos) (cOp cIx ca cb):=ce_ix ix_seqC cop_ix ha hb hs
theorem ca1  (ha:CE X e ca)(hs:noStar e=true:=by rfl):CA X [e] (bW ca mR):=xQ ha eQ hs
theorem cs1 i  {pos'}  (hN:X.N.Nodup)(he:CE X e ce)(hi:X.N[i]?=some x:=by rfl)(hx:Loc X.env.scope x:=by first | exact Or.inl rfl | exact Or.inr rfl)(hs:swapsWith e (some (.Name x pos')) pos.line X.env=pure false:=by rfl)(hf:X.fn x=true\/X.env.scope.names.lookup x=some .local:=by first | exact .inl rfl | exact .inr rfl | assumption):
  CS X (.Assign [.Name x pos'] e pos) (cSet i ce):=cs_set hN hi hx he hs hf
theorem cg1 i  (hN:X.N.Nodup)(hi:X.N[i]?=some x:=by rfl)(hx:Loc X.env.scope x:=by first | exact Or.inl rfl | exact Or.inr rfl)(hf:X.fn x=true\/X.env.scope.names.lookup x=some .local:=by first | exact .inl rfl | exact .inr rfl | assumption):CG X (.Name x pos) (dName i):=cg_name hN hi hx hf
theorem cln {p}  (hm:X.mg "len" = none)(ha:CE X e ca)(hg:Gl X "len":=by rfl)(hs:noStar e=true:=by rfl):CE X (.Call (.Name "len" p) [e] [] pos) (fL pF (bW ca mR)):=xX Qc cbi_len hg hm rfl (ca1 ha hs) (hs:=hs)
theorem ctp {p}  (hm:X.mg "tuple" = none)(ha:CE X e ca)(hg:Gl X "tuple":=by rfl)(hs:noStar e=true:=by rfl):CE X (.Call (.Name "tuple" p) [e] [] pos) (fL fF (bW ca mR)):=gU jD cbi_tup hg hm rfl (ca1 ha hs) (hs:=hs)
theorem cap {apos cpos}  (ho:CE X o co)(ha:CE X e ca)
  (hbase:attributeBase o "append" X.env (eval o X.env)=eval o X.env:=by rfl)
  (hfew:((backTo cpos (starEach [e] X.env)).all (fun x=>!x.1)&&(backToKw cpos (keywordEach [] X.env)).all (fun x=>x.1.isSome)
   && decide ([e].length+([]:List Keyword).length+(if ([]:List Keyword).isEmpty then 0 else 1) < 30))=true:=by rfl)
  (hline:(apos.endLine==cpos.line)=true:=by rfl) (hs:noStar e=true:=by rfl):CE X (.Call (.Attribute o "append" apos) [e] [] cpos) (cBM fG co (bW ca mR)) :=
 ce_bm Ba PySem.F.slot_list_append PySem.F.type_list_append xU zT ho (ca1 ha hs) hbase hfew hline hs
theorem ct2      (ho:OpR X (compareOp op) r)(hr:Cop X.K r cr)(ha:CE X a ca)(hb:CE X b cb)(hm:behindInMarks op b=false:=by exact rY _):CT X (.Compare a [op] [b] pos) (bL (cOp cr ca cb)):=wV ho hr ha hb hm
end
end CL
namespace L2
open PySem
theorem FnScope.c    (S:FnScope N ps sc)(h:N.contains x=false):(x::N).Nodup:=by
 refine BY.2 ⟨fun m=>?_,S.nd⟩;rw[List.contains_iff_mem.2 m] at h;cases h
theorem FnScope.k      (S:FnScope N ps sc)(hN:X.N=N)(hsc:X.env.scope=sc)(hce:X.env.cells=cellsFrom L sc.names [])(h:gF xs scope N sc=true):∃cl,rB X xs scope cl:=X4 hN hsc hce h
end L2
namespace TB
def step (M i:Nat):Nat:=(i * 5+1) % M
end TB
namespace TB
open PySem SetTable
structure TOk (t:SetTable)(k:Nat):Prop where
 mask:t.mask+1=2 ^ k
 dum:t.dummies = #[]
 few:t.place.size<=t.mask
theorem more_le (t:SetTable)(i:Nat):runEnd t.mask i - i<=9:=by
 unfold runEnd
 split<;>omega
end TB
namespace PySem
open Sem (wp)
open TB
section
variable {prog:Program}{w:World}{K:Type}[DecidableEq K]{knd:KeyKind prog w K}
variable (knd)
def entP (x:List (List K)×Addr):Int×Value:=(hJ knd x.1,.ref x.2)
structure PSet (h:Heap)(a:Addr)(xs:List (List (List K)×Addr))(o:Obj)(es:Array (Int×Value))(ep:Nat)(t:SetTable)(k:Nat):Prop where
 at':h.get? a=some o
 ex:o.ExactSet
 dat:o.data=.set es ep t
 tok:TOk t k
 size:t.place.size=es.size
 ents:es.toList=xs.map (entP knd)
 keys:∀x∈xs,IsPathKey knd h x.1 x.2
 big:2<=t.mask
variable {knd}{A:Around}{E:Value->Shared->Prop}{s:Shared}{a:Addr}{xs:List (List (List K)×Addr)}{o:Obj}{es:Array (Int×Value)}{ep:Nat}{t:SetTable}{k:Nat}
end
end PySem
namespace CL
open PySem PySem.Spec L2 PySem.W
open PyProof.Rows hiding St
section
variable {X:Cx}{e o:Expr}{es:List Expr}
@[irreducible] def cJoin:PV->List PV->CH->K1->Prop:=fun x ts C Q=>match x,ts with
 |.str sep,[.ref a]=>match C a with
  |some (.lst xs)=>∃zs:List Str,xs=zs.map PV.str/\(zs.map (·.length)).sum+zs.length * sep.length<=16777216/\Q (.str (Str.join sep zs)) C
  |_=>False
 |_,_=>False
def txI (i:Int):Str:=toString i
@[irreducible] def gE:GC:=fun ts C Q=>match ts with
 |[.int i]=>i.natAbs<=1000000000000/\Q (.str (txI i)) C
 |_=>False
theorem Zb {K:CU}:Cbi K (fun xs H Q=>∃i,xs=[.int i]/\i.natAbs.log2 < 1920/\Q (.str (toString i)) H) gE:=fun xs ps H C Q R rs h q f=>by
 unfold gE at q
 split at q
 .next i =>
  obtain⟨v,rfl,r⟩:=aX rs;cases r;refine⟨i,rfl,?_,f _ H _ C q.2 (.str _) h Fw.refl⟩
  by_cases h0:i.natAbs=0
  .rw [h0]; decide
  .rw [Nat.log2_lt h0]
   exact A9 q.1 (AD (show 1000000000000 < 2 ^ 40 by decide) (CN (by decide) (by decide)))
 .exact q.elim
theorem txI_len {i:Int}(h:i.natAbs<=1000000000000):(txI i).length<=14:=by
 show(Str.ofString (toString i)).length<=14;rw[PySem.ofString_length];exact int_text_length_le10 (k:=13) (by decide) (A9 h (by decide))
theorem strI_s {i:Int}{C:CH}{Q:K1}(h:i.natAbs<=1000000000000)(q:Q (.str (txI i)) C):gE [.int i] C Q:=by
 unfold gE;exact⟨h,q⟩
end
section
variable {X:Cx}{e:Expr}{pos:Pos}
def wO:List PV->Option (List Zq)
 |[]=>some []
 |t::r=>match qC t,wO r with
  |some k,some ks=>some (k::ks)
  |_,_=>none
@[irreducible] def cLenSR:PV->CH->K1->Prop:=fun x C Q=>match x with
 |.ref a=>match C a with
  |some (.lst xs)=>∃ks,wO xs=some ks/\ks.Nodup/\ks.length<=9900/\Q (.int ks.length) C
  |_=>False
 |_=>False
@[irreducible] def cPNin:R2C:=fun y x C Q=>match x with
 |.ref a=>match C a,qC y with
  |some (.dP kvs),some k=>Q (.bl (!(tF kvs k).isSome)) C
  |_,_=>False
 |_=>False
@[irreducible] def cInE:R2C:=fun x y C Q=>match x,y with
 |.tup [],.ref a=>match C a with
  |some (.lst xs)=>(∀t∈xs,∃u us,t=.tup (u::us))/\Q (.bl false) C
  |_=>False
 |_,_=>False
@[irreducible] def cNeU (d:Nat):R2C:=fun x y C Q=>match x,y with
 |.tup xs,.tup ys=>xs=ys/\(∀t∈xs,Pl d t)/\Q (.bl false) C
 |_,_=>False
end
@[irreducible] def cLenQ:GC:=fun ts C Q=>match ts with
 |[.ref a]=>match C a with
  |some (.dP kvs)=>Q (.int kvs.length) C
  |_=>False
 |_=>False
section
variable {X:Cx}{e:Expr}
def rV (z:Str):List PV:=z.cps.toList.map fun c=>PV.str ⟨#[c]⟩
theorem it_str {K}  z:Qj K H (Its z) (rV z) where
 go:=fun i H' l k=>by
  delta rV at l
  rwa [AL,Array.length_toList] at l
 yl:=fun i H' x H'' k y=>by
  obtain⟨rfl,c,hc,rfl⟩:=y;refine⟨rfl,fun t e=>?_⟩;unfold rV at e;rw[Ah,Bi,hc] at e;cases e;exact .str _
 st:=fun H' k=>by
  delta rV
  rw[AL,Array.length_toList];exact AI _
def cItS (ce:TCE):CSt->CH->(List PV->CH->Prop)->Prop:=fun ρ C Q=>ce ρ C fun t C1=>match t with
 |.str z=>Q (rV z) C1
 |_=>False
theorem X6   (h:CE X e ce):CI X tg e (iStr (jZ X.K (Rep X.K) ce)) (cItS ce):=⟨⟨pi_str h.h.h⟩,fun σ H ρ C R Q s h q f=>⟨ρ,C,_,s,h,q,fun x H1 px C1 q1 rx h1 f1=>by
  cases rx with
  |str z=>exact⟨z,rfl,f _ H1 (rV z) C1 q1 (it_str z) h1 f1⟩
  |_=>exact q1.elim⟩⟩
end
section
variable {X:Cx}{a b:Expr}{pos:Pos}
@[irreducible] def cZip:PV->PV->CH->K1->Prop:=fun x y C Q=>match x,y with
 |.tup xs,.tup ys=>xs.length=ys.length/\∀p,C p=none->Q (.ref p) (jQ C p (.lst (List.zipWith (fun a b=>PV.tup [a,b]) xs ys)))
 |_,_=>False
end
section
variable {X:Cx}
def prsT:List PV->Option (List (List Key×PV))
 |[]=>some []
 |.tup [k,v]::r=>match eF k,prsT r with
  |some k,some ps=>some ((k,v)::ps)
  |_,_=>none
 |_=>none
@[irreducible] def cDictT:GC:=fun ts C Q=>match ts with
 |[.tup xs]=>match prsT xs with
  |some ps=>ps.length<=sizeLine/\∀p,C p=none->Q (.ref p) (jQ C p (.dT (dS [] ps)))
  |none=>False
 |_=>False
@[irreducible] def cInT:R2C:=fun x y C Q=>match x,y with
 |.str i,.str j=>Q (.bl (!(Builtin.Str.occurrences j i 0 j.length 1).isEmpty)) C
 |_,_=>False
theorem vE {K}:Cop K (fun x y H Q=>∃i j,x=.str i/\y=.str j/\Q (.bl (!(Builtin.Str.occurrences j i 0 j.length 1).isEmpty)) H) cInT:=fun x y px py H C Q R rx ry h q f=>by
 delta cInT at q
 split at q
 .cases rx; cases ry
  exact⟨_,_,rfl,rfl,f _ H _ C q (.bl _) h Fw.refl⟩
 .exact q.elim
theorem inT_s    (q:Q (.bl (!(Builtin.Str.occurrences j i 0 j.length 1).isEmpty)) C):cInT (.str i) (.str j) C Q:=by
 delta cInT
 exact q
end
theorem lN {K}  : ∀{l:List Str}{vs},Reps K H vs (l.map PV.str)->vs=l.map V.str
 |[],_,.nil=>rfl
 |z::l,_,.cons h t=>by cases h; rw[lN t]; rfl
def inSP (l:List Str):PV->Bool
 |.str z=>l.contains z
 |_=>false
@[irreducible] def cInA:R2C:=fun x y C Q=>match y with
 |.kt ys=>match qM ys,tyP C x with
  |some l,some _=>Q (.bl (inSP l x)) C
  |_,_=>False
 |_=>False
theorem kH {K}:Cop K (rInS K false) cInA:=fun x y px py H C Q R rx ry h q f=>by
 delta cInA at q
 split at q
 .split at q
  .next l c e1 e2 =>
   cases ry with
   |kt e r =>
    have ev:=QP e1;subst ev;have ev:=lN r;subst ev;refine⟨_,l,c,rfl,.inr e,uT rx h e2,?_⟩;have e3:inS l x=inSP l px:=by cases rx<;>rfl
    exact e3▸f _ H _ C q (.bl _) h Fw.refl
  .exact q.elim
 .exact q.elim
theorem vL       (e1:qM ys=some l)(e2:tyP C x=some c)(q:Q (.bl (inSP l x)) C):cInA x (.kt ys) C Q :=by simp_all[cInA]
end CL
namespace CL
open PySem L2 PySem.W
theorem uE     f:∀xs acc C,Gr C0 C->acc.length+xs.length<=sizeLine->(∀x∈xs,∀C Q',Gr C0 C->(∀C',Gr C C'->Q' (f x) C')->c (some x::ρ) C Q')->(∀p C',C0 p=none->Gr C0 C'->C' p=some (.lst (acc++xs.map f))->Q (.ref p) C')->eZ Zg c ρ Q xs acc C
 |[],acc,C,g,_,_,q=>X5 fun p hp=>q p _ (xV g hp) (g.trans (Gr.new hp _)) (by rw[qQ,List.map_nil,Ad])
 |x::xs,acc,C,g,hl,h,q=>by
  rw[AZ] at hl;refine tI (h x AW C _ g fun C' g'=>⟨by lia,uE f xs _ C' (g.trans g') (by grind) (fun y hy=>h y (AJ _ hy)) fun p C2 h1 h2 h3=>q p C2 h1 h2 ?_⟩);rw[h3,List.append_assoc]
  rfl
theorem dE:∀bs,cF (bs.map PV.bl)=some bs
 |[]=>rfl
 |b::bs=>by show(cF (bs.map PV.bl)).map _=_; rw[dE bs]; rfl
theorem fR  {bs:List Bool}   (h:C p=some (.lst (bs.map PV.bl)))(q:Q (.bl (bs.all id)) C):cAll [.ref p] C Q:=by
 delta cAll
 dsimp only;rw[h];dsimp only
 rwa [dE]
theorem len_z    (h:z.length<=sizeLine)(q:Q (.int z.length) C):pF [.str z] C Q:=by
 delta pF
 exact⟨h,q⟩
end CL
namespace CL
open PySem PySem.Spec L2 PySem.W
open PyProof.Rows hiding St
section
variable {X:Cx}{a b c e o i f:Expr}{es:List Expr}{pos:Pos}{value:Expr}
@[irreducible] def cSlS:PV->Option Int->Option Int->CH->K1->Prop:=fun x lo hi C Q=>match x with
 |.str z=>z.length<=sizeLine/\Q (.str (Txt.slice z lo hi)) C
 |_=>False
@[irreducible] def cPopAt:PV->List PV->CH->K1->Prop:=fun x ts C Q=>match x,ts with
 |.ref a,[.int i]=>match C a with
  |some (.lst xs)=>0<=i/\i < 10000000/\∃y,xs[i.toNat]?=some y/\Q y (jQ C a (.lst (xs.eraseIdx i.toNat)))
  |_=>False
 |_,_=>False
@[irreducible] def cInsert:PV->List PV->CH->K1->Prop:=fun x ts C Q=>match x,ts with
 |.ref a,[.int i,y]=>match C a with
  |some (.lst xs)=>0<=i/\i<=xs.length/\xs.length < sizeLine/\Q .non (jQ C a (.lst (xs.take i.toNat++y::xs.drop i.toNat)))
  |_=>False
 |_,_=>False
@[irreducible] def cNeNil:R2C:=fun x y C Q=>match x,y with
 |.ref a,.ref b=>match C a,C b with
  |some (.lst xs),some (.lst [])=>Q (.bl (!xs.isEmpty)) C
  |_,_=>False
 |_,_=>False
end
section
variable {X:Cx}
@[irreducible] def cEqD (d:Nat):R2C:=fun x y C Q=>match x,y with
 |.ref a,.ref b=>match C a,C b with
  |some (.lst xs),some (.lst ys)=>xs=ys/\(∀t∈xs,Pl d t)/\Q (.bl true) C
  |_,_=>False
 |_,_=>False
end
section
variable {cs:List (List Str×Int)}(nd:(cs.map (·.1)).Nodup){i j:Nat}(hi:i < cs.length)(hj:j < cs.length)
include nd hi hj
end
section
variable {X:Cx}{e o:Expr}{es:List Expr}
@[irreducible] def cIsiTs:GC:=fun ts C Q=>match ts with
 |[x,.tup ys]=>∃(Ts:List Ty) (n:Ty),ys=Ts.map (fun T=>PV.ty (cV T))/\tyP C x=some n/\Q (.bl (Ts.any (rC n))) C
 |_=>False
@[irreducible] def cUpper (co:TCE):TCE:=fun ρ C Q=>co ρ C fun x C1=>match x with
 |.str z=>z.length<=1000000/\∀y:Str,y.length<=3 * z.length->Q (.str y) C1
 |_=>False
end
@[irreducible] def cNInT:R2C:=fun x y C Q=>match x,y with
 |.str i,.str j=>Q (.bl (!(!(Builtin.Str.occurrences j i 0 j.length 1).isEmpty))) C
 |_,_=>False
@[irreducible] def cEqNil:R2C:=fun x y C Q=>match x,y with
 |.ref a,.ref b=>match C a,C b with
  |some (.lst xs),some (.lst [])=>Q (.bl xs.isEmpty) C
  |_,_=>False
 |_,_=>False
@[irreducible] def cIsB:R2C:=fun x y C Q=>match x,y with
 |.bl a,.bl b=>Q (.bl (a==b)) C
 |_,_=>False
section
variable {X:Cx}{a b c e o i f value:Expr}{es:List Expr}{pos pos':Pos}
@[irreducible] def cGetQ:PV->List PV->CH->K1->Prop:=fun x ts C Q=>match x,ts with
 |.ref a,[y]=>match C a,qC y with
  |some (.dP kvs),some k=>Q ((tF kvs k).getD .non) C
  |_,_=>False
 |_,_=>False
@[irreducible] def cClearQ:PV->List PV->CH->K1->Prop:=fun x ts C Q=>match x,ts with
 |.ref a,[]=>match C a with
  |some (.dP kvs)=>Q .non (jQ C a (.dP []))
  |_=>False
 |_,_=>False
def hK:Key->Int
 |.inl (some k)=>hashInt k
 |.inl none=>4238894112
 |.inr _=>0
def pHash (k:Zq):Int:=reduceHash (Builtin.Tuple.tupleHashOf (k.map fun ks=>reduceHash (Builtin.Tuple.tupleHashOf (ks.map hK))))
def noT:Key->Bool
 |.inr _=>false
 |_=>true
@[irreducible] def cDictQ:GC:=fun ts C Q=>match ts with
 |[.ref a]=>match C a with
  |some (.dP kvs)=>(∀p∈kvs,p.1.all (fun ks=>ks.all noT)=true)/\(kvs.map fun p=>pHash p.1).Nodup/\∀p,C p=none->Q (.ref p) (jQ C p (.dP kvs))
  |_=>False
 |_=>False
@[irreducible] def cNeQ (d:Nat):R2C:=fun x y C Q=>match x,y with
 |.ref a,.ref b=>match C a,C b with
  |some (.dP xs),some (.dP ys)=>xs=ys/\(∀p∈xs,Pl d p.2)/\Q (.bl false) C
  |_,_=>False
 |_,_=>False
def kkLt (ks:List (List Str)):Nat->Nat->Bool:=fun i j=>HT.lexS (ks.getD i []) (ks.getD j [])
def ordK (ks:List (List Str)):List (List Str):=(kRun (kkLt ks) (kas_sort ks.length)).toList.map fun i=>ks.getD i []
def kkPV (k:List Str):PV:=.tup (k.map PV.str)
def kkOf:List (List Key×PV)->Option (List (List Str))
 |[]=>some []
 | ([.inr x,.inr y],_)::r=>(kkOf r).map ([x,y] :: ·)
 |_=>none
@[irreducible] def cSortedD:GC:=fun ts C Q=>match ts with
 |[.ref a]=>match C a with
  |some (.dT kvs)=>match kkOf kvs with
   |some ks=>ks.length < 64/\∀p,C p=none->Q (.ref p) (jQ C p (.lst ((ordK ks).map kkPV)))
   |none=>False
  |_=>False
 |_=>False
@[irreducible] def cIsiT:GC:=fun ts C Q=>match ts with
 |[.ref a,.ty n]=>match C a with
  |some (.dT _)=>n = "dict"/\Q (.bl true) C
  |_=>False
 |_=>False
end
end CL
namespace PySem.W
open PySem PySem.Calls PyProof.Rows Builtin Builtin.ObjectAttr Builtin.Getset_descriptor
structure XMk (K:Frag)(C:Addr):Prop where
 obj:∃oc od cd sl tl,K.lookup C=some ⟨oc,od,.cls cd,sl⟩/\cd.abstract=false/\cd.hasDel=false/\(sl.toList[4]?).join=some (.builtin "ValueError.__new__")/\cd.mro=.ref C::tl
 call:specialIn K (.ref C) "__call__" = some (some (.builtin "type.__call__"))
 typ:instIn K (.ref C) (.type "type")=some true
 self:mroIn K C (.ref C)=some true
 val:mroIn K C (.type "ValueError")=some true
 bas:mroIn K C (.type "BaseException")=some true
 noA:mroIn K C (.type "AttributeError")=some false
 noN:mroIn K C (.type "NameError")=some false
structure nF (M:Model)(h:Heap)(C:Addr):Prop where
 obj:∃oc od cd sl tl,h.get? C=some ⟨oc,od,.cls cd,sl⟩/\cd.abstract=false/\cd.hasDel=false/\cd.mro=.ref C::tl
 made:Looks M h (Bind.madeBy (.ref C)) (some "ValueError.__new__")
 base:Looks M h (Bind.staticBase (.ref C)) (.ref C)
 self:Looks M h (isSubtype (.ref C) (.ref C)) true
 val:Looks M h (isSubtype (.ref C) (.type "ValueError")) true
 bas:Looks M h (isSubtype (.ref C) (.type "BaseException")) true
 noA:Looks M h (isSubtype (.ref C) (.type "AttributeError")) false
 noN:Looks M h (isSubtype (.ref C) (.type "NameError")) false
 call:Looks M h (specialOf (.ref C) "__call__") (some (.builtin "type.__call__"))
 typ:Looks M h (isInstance (.ref C) (.type "type")) true
theorem wK {K:Frag}{M:Model}{h:Heap}(X:K.In h){C:Addr}(e:XMk K C):nF M h C:=by
 obtain⟨⟨oc,od,cd,sl,tl,ho,e1,e2,e3,hl⟩,e7,e8,e5,ev,eb,ea,en⟩:=e;have hc:clsIn K C=some cd:=by unfold clsIn; rw[ho]
 have hm:Looks M h (mroOf (.ref C)) cd.mro:=(looks_clsIn X hc).andThen .now
 have made:Looks M h (Bind.madeBy (.ref C)) (some "ValueError.__new__"):=by
  intro A Q E s k q;unfold Bind.madeBy;refine AA (hm A _ E s k ?_);rw[hl,List.forIn_cons];refine AA (AA (AA (AA (Bc (k _ _ (X _ _ ho)) (AB ?_)))));dsimp only;rw[<- Bi,e3];exact AB (AB (AB q))
 refine⟨⟨oc,od,cd,sl,tl,X _ _ ho,e1,e2,hl⟩,made,?_,Bm X e5,Bm X ev,Bm X eb,Bm X ea,Bm X en,looks_specialIn X e7,looks_instIn X e8⟩;intro A Q E s k q;unfold Bind.staticBase;refine AA (hm A _ E s k ?_);rw[hl,List.forIn_cons];exact AA (AA (AA (made A _ E s k (AB (AB (AB q))))))
abbrev uX (C:Addr)(d:Option Addr)(t:Value):Obj:={ cls:=.ref C,dict:=d,data:=.fields #[t,.none,.none,.none,.bool false,.none] }
abbrev lJ (rQ:List Value):Obj:={ cls:=.type "tuple",data:=.seq rQ.toArray }
section
variable {prog:Program}{w:World}{A:Around}{K:Frag}{C:Addr}{R:Result->Shared->Prop}{h:Heap}{g:Array GenState}{d:Drawn}{t:Nat}{os:OsState}
theorem xnew_K {rQ:List Value}(Y:nF (model prog w) h C)(hz:rQ.length<=sizeLine)
  (hq:R (.ok (.ret (.ref (h.objs.size+1)))) ⟨(h.push (lJ rQ)).push (uX C none (.ref h.objs.size)),g,d,t,os⟩) :
  codeAny (model prog w) A (.call (.builtin "ValueError.__new__") ⟨.ref C::rQ,[]⟩) R ⟨h,g,d,t,os⟩:=by
 obtain⟨⟨oc,od,cd,sl,tl,hC,e1,e2,e4⟩,made,base,self,val,bas,noA,noN,call,typ⟩:=Y;have F:=BM;have hstar:=F.noStar;refine codeAny_call_builtin_code (Code.quiet_builtin _ F.quiet) ?_
 simp only[checkBuiltinCall,F.newKind,F.newSplit,F.newRow]
 repeat (first | simp only[bne_self_eq_false,Bool.false_eq_true,if_false] | lk)
 refine codeAny_builtinAt F.entry ?_;unfold Builtin.«BaseException.__new__»;refine wpAt_bind ?_;show wpAt _ _ _ (stack >>= _) _ _ _;refine wpAt_bind (wpAt_stack fun p below=>wpAt_of_wpAny ?_);have here:Looks (model prog w) h (Bind.madeHere "BaseException.__new__" (.ref C)) ():=base.andThen (made.andThen (Looks.of_pure (by simp only[Option.map_some,F.canon,bne_self_eq_false,Bool.false_eq_true,if_false])))
 have hends:=F.ends
 wp_walk
 refine wpAt_of_wpAny ?_;rw[F.owner];have hC':=hC
 repeat (first | with_reducible refine here.at ?_ | with_reducible refine val.at ?_ | with_reducible refine noA.at ?_ | with_reducible refine noN.at ?_ | with_reducible refine typ.at ?_ | with_reducible refine Bb hC ?_ | wp_step)
 show R _ _;rw[Bg];exact hq
theorem nB {rQ:List Value}{init:Value}(Y:nF (model prog w) h C)(hz:rQ.length<=sizeLine)(hi:Looks (model prog w) h (typeLookup (.ref C) "__init__") (some init))
  (hb:∀self,Looks (model prog w) h (bindSpecial init self) (init,[self]))
  (hq:codeAny (model prog w) (A.under (.builtin "type.__call__" ⟨.ref C::rQ,[]⟩)) (.call init ⟨.ref (h.objs.size+1)::rQ,[]⟩) (InitBack (h.objs.size+1) R) ⟨(h.push (lJ rQ)).push (uX C none (.ref h.objs.size)),g,d,t,os⟩) :
  codeAny (model prog w) A (.call (.ref C) ⟨rQ,[]⟩) R ⟨h,g,d,t,os⟩:=by
 have Y':=Y;obtain⟨⟨oc,od,cd,sl,tl,hC,e1,e2,e4⟩,made,base,self,val,bas,noA,noN,call,typ⟩:=Y;refine codeAny_of_tree ?_;show wpAny _ _ (callAny (.ref C) _) _ _ _;refine nd_load hC ?_;show wpAny _ _ (callAny.viaDunder (.ref C) _) _ _ _;unfold callAny.viaDunder;refine AA (call.at ?_);dsimp only;rw[tc_bind];refine AA (AB (AA (AB ?_)));refine AB (a:=Fin.again (.call (.builtin "type.__call__") ⟨.ref C::rQ,[]⟩)) (And.intro rfl ?_)
 refine codeAny_call_builtin_at (Code.quiet_builtin _ (by decide +kernel)) entry_typeCall (check_slot tc_kind tc_split typ (tc_args _ _ _) ?_);unfold Builtin.«type.__call__»;have hm:Looks (model prog w) h (mroOf (.ref C)) cd.mro:=((Looks.ld (part:=none) hC).andThen .now).andThen .now;have e4':cd.mro.isEmpty=false:=by rw[e4]; rfl
 repeat (first | simp only[e4',Bool.false_eq_true,if_false] | with_reducible refine A6 ?_ | lk)
 refine xnew_K Y' hz ?_;have k:∀b o,h.get? b=some o->((h.push (lJ rQ)).push (uX C none (.ref h.objs.size))).get? b=some o:=fun b o e=>AC _ (AC _ e);have hx:((h.push (lJ rQ)).push (uX C none (.ref h.objs.size))).get? (h.objs.size+1)=some (uX C none (.ref h.objs.size)):=by heap_get
 have t1:Looks (model prog w) ((h.push (lJ rQ)).push (uX C none (.ref h.objs.size))) (typeOf (.ref (h.objs.size+1))) (.ref C):=(Looks.ld hx).andThen .now;have s1:=self.keeps k;have i1:=hi.keeps k;have b1:=(hb (.ref (h.objs.size+1))).keeps k;unfold isInstance callSpecial? specialOf
 repeat (first | with_reducible refine A6 ?_ | lk)
 refine BP hq fun r s' z=>?_
 rcases r with e | (v | _ | _ | _)<;>first | exact z | exact z.elim | skip
 obtain⟨rfl,z⟩:=z;exact AB (AB z)
end
end PySem.W
namespace PySem.W
open PySem PySem.Calls PyProof.Rows
theorem oU {M:Model}{A:Around}{E:Value->Shared->Prop}{h:Heap}{g:Array GenState}{d:Drawn}{t:Nat}{os:OsState}{e C:Addr}{oe oC:Obj}{cd:ClassData}{rQ:List Value}{Q:Unit->Shared->Prop}(he:h.get? e=some oe)(hcls:oe.cls=.ref C)(hC:h.get? C=some oC)(hcd:oC.data=.cls cd)(hi:Looks M h (isSubtype (.ref C) (.type "ValueError")) true)(q:Q () ⟨h,g,d,t,os⟩):
  wpAny M A (checkBuiltinCall "ValueError.__init__" ⟨.ref e::rQ,[]⟩) Q E ⟨h,g,d,t,os⟩:=by
 have F:=BM;have hshort:=F.noStar;obtain⟨c1,c2,c3,c4⟩:=oC;obtain rfl:c3=.cls cd:=hcd
 simp only[checkBuiltinCall,F.initKind,F.initSplit,F.initRow]
 repeat (first | (with_reducible refine Bb he ?_; rw[hcls]) | with_reducible refine Bb hC ?_ | with_reducible refine hi.at ?_ | wp_step)
 refine wpAny_onRaise ?_
 rw[show ∀(a b:String) (n:Nat),Bind.check ⟨.positional,"*","ValueError",.self,[⟨"args",.varPos,false⟩]⟩ a b n (List.map (fun x=>x.fst) ({ pos:=Value.ref e::rQ }:Args).kw)=pure () from
  fun a b n=>check_star_args _ _ _ _ _ _]
 exact AB q
end PySem.W
namespace L2
open PySem PySem.Spec PySem.W
open PyProof.Rows hiding St
def XB (e C:Addr)(d:Option Addr):Heap->Prop:=fun h=>∃t,h.get? e=some (uX C d (.ref t))
theorem vT {P:Program}{w:World}{H:Hp}{h:Heap}{e C:Addr}{d:Option Addr}{t:Addr}(he:h.get? e=some (uX C d (.ref t))):ObjOk P w H h e (.ext (XB e C d)) :=
 ⟨⟨t,he⟩,⟨_,he⟩,fun h1 h2 ⟨t,z⟩ k=>⟨t,k _ z⟩⟩
section
variable {X:Cx}
theorem Inv.xb {pins:List (Addr×Obj)}{σ:St}{H:Hp}{s:Shared}{e C:Addr}{d:Option Addr}(I:Inv X pins σ H s)(he:H e=some (.ext (XB e C d))):∃t,s.heap.get? e=some (uX C d (.ref t)):=(show ObjOk X.prog X.w H s.heap e (.ext (XB e C d)) from I.hok e _ he).1
theorem jT:CallR X (.builtin "ValueError.__init__") (fun vs H Q=>∃e C x d,vs=[.ref e,x]/\H e=some (.ext (XB e C d))/\XMk X.K C/\Q .non H):=by
 intro pins s σ H vs us Q I r h;obtain⟨e,C,x,d,rfl,he,M,q⟩:=h
 obtain⟨u,v,rfl,ru,rv⟩:∃u v,us=[u,v]/\RelV (.ref e) u/\RelV x v:=by
  cases r with
  |cons a b=>cases b with | cons c d=>cases d; exact⟨_,_,rfl,a,c⟩
 obtain rfl:u=Value.ref e:=ru;obtain⟨t,ho⟩:=I.xb he;have Y:=wK (M:=model X.prog X.w) I.kIn M;have F:=BM;have t1:Looks (model X.prog X.w) s.heap (typeOf (.ref e)) (.ref C):=(Looks.ld ho).andThen .now;obtain⟨oc,od,cd,sl,tl,hC,_⟩:=Y.obj;have I':=I;obtain⟨hh,g,dd,tk,os⟩:=s;refine A6 (Bn F.init.plain F.initEntry (oU ho rfl hC rfl Y.val ?_))
 wp_walk
 have e1:(hh.push { cls:=Value.type "tuple",data:=Data.seq #[v] }).get? e=some (uX C d (.ref t)):=AC _ ho;have e2:((hh.push { cls:=Value.type "tuple",data:=Data.seq #[v] }).update e (Obj.mapFields fun x=>x.setIfInBounds 0 (Value.ref hh.objs.size))).get? e=some (uX C d (.ref hh.objs.size)):=Ax _ e1 rfl
 have eH:H=upd H e (.ext (XB e C d)):=by
  funext b
  unfold upd
  split
  .next z=>rw[z,he]
  .rfl
 refine⟨.non,upd H e (.ext (XB e C d)),?_,rfl,by rw[<- eH]; exact q⟩;refine I.write (t':=tk) (e:=e) (by rw[he]; exact True.intro) (.inl rfl) (fun b u hb hu=>?_) ⟨_,e2⟩ (vT e2);rw[AY _ _ (Ne.symm hb)];exact AC _ hu
end
end L2
namespace PySem.W
open PySem PySem.Calls PyProof.Rows Builtin Builtin.ObjectAttr Builtin.Getset_descriptor
def xTail:List Value->Bool
 |[.type a,.type b,.type c,.type d]=>a == "ValueError" && b == "Exception" && c == "BaseException" && d == "object"
 |.ref _::r=>xTail r
 |_=>false
theorem jS (self:Value):refuseLoop self "__setattr__" [.type "ValueError",.type "Exception",.type "BaseException",.type "object"]=pure ():=by kernel_rfl
theorem tN (self:Value):∀{l:List Value},xTail l=true->refuseLoop self "__setattr__" l=pure ()
 |[.type a,.type b,.type c,.type d],e=>by
  have e:(a == "ValueError" && b == "Exception" && c == "BaseException" && d == "object")=true:=e
  simp only[Bool.and_eq_true,beq_iff_eq] at e
  obtain⟨⟨⟨rfl,rfl⟩,rfl⟩,rfl⟩:=e;exact jS self
 |.ref c::r,e=>by rw[refuseLoop_ref]; exact tN self e
section
variable {prog:Program}{w:World}{A:Around}{K:Frag}{C x:Addr}{s:Shared}{R:Result->Shared->Prop}
theorem rD {ox:Obj}{od:Option Obj}{name:Str}{tk:Tok}{v:Value}{cd:ClassData}(X:K.In s.heap)(I:InstAt s.heap x ox C od)(hc:clsIn K C=some cd)(hx:xTail cd.mro=true)(ho:mroIn K C (.type "object")=some true)(ha:findIn K (.ref C) name=some none)
  (h:wpAny (model prog w) A.in1 (storeInOwnDict (.ref x) (.ref C) (.str name tk) name v false)
   (fun fin s'=>match fin with | .done f=>R (.ok f) s' | .again c'=>c'.quiet=true/\codeAny (model prog w) A c' R s') (fun e s'=>R (.error e) s') s) :
  codeAny (model prog w) A (.call (.builtin "object.__setattr__") ⟨[.ref x,.str name tk,v],[]⟩) R s:=by
 have SF:=PySem.F.store_object;have sub:Looks (model prog w) s.heap (isInstance (.ref x) (.type "object")) true:=I.type.andThen (Bm X ho);refine Bn SF.slot.plain SF.entry (@check_slot (model prog w) _ _ s "object.__setattr__" "object" "__setattr__" (.ref x) [.str name tk,v] [] _ SF.kind SF.split sub (SF.args (.ref x) (.str name tk) v) ?_);have hm:Looks (model prog w) s.heap (mroOf (.ref C)) cd.mro:=(looks_clsIn X hc).andThen .now
 rw[osa_eq,refuse_eq];refine AA (AA (I.type.here (AA (hm.here ?_))));rw[tN _ hx];refine AB (AA (I.type.here (AA ((B1 X ha).here (AA (AB ?_))))));exact h
end
end PySem.W
namespace L2
open PySem PySem.Spec PySem.W
open PyProof.Rows hiding St
structure pR (K:Frag)(C:Addr)(f:Str):Prop where
 cls:∃cd,clsIn K C=some cd/\xTail cd.mro=true/\cd.hasDict=true
 sa:findIn K (.ref C) "__setattr__" = some (some (.builtin "object.__setattr__"))
 ob:mroIn K C (.type "object")=some true
 na:findIn K (.ref C) f=some none
def XD (d:Addr)(fs:List (Str×V)):Heap->Prop:=fun h=>∃mA,h.Ns1 d mA/\(∀f,RelO (fs.lookup f) (mA f))/\PySem.Within mA (fs.map (·.1))
theorem QD {P:Program}{w:World}{H:Hp}{h:Heap}{d:Addr}{fs:List (Str×V)}(x:XD d fs h):ObjOk P w H h d (.ext (XD d fs)) :=
 ⟨x,let ⟨mA,⟨o,_,_,e,_⟩,_⟩:=x; ⟨o,e⟩,fun h1 h2 ⟨mA,⟨o,es,ep,e,c⟩,r⟩ k=>⟨mA,⟨o,es,ep,k _ e,c⟩,r⟩⟩
section
variable {X:Cx}{pins:List (Addr×Obj)}{σ:St}{H:Hp}{s:Shared}{e C:Addr}{f:Str}{A:Around}{E:Value->Shared->Prop}
theorem QA {y:V}{u:Value}{Q:Unit->Shared->Prop}(I:Inv X pins σ H s)(he:H e=some (.ext (XB e C none)))(c:pR X.K C f)(ry:RelV y u)
  (h:∀d s',H d=none->d≠e->Inv X pins σ (upd (upd H d (.ext (XD d [(f,y)]))) e (.ext (XB e C (some d)))) s'->Q () s'):wpAny (model X.prog X.w) A (setAttr (.ref e) f u) Q E s:=by
 obtain⟨t,ho⟩:=I.xb he;obtain⟨cd,hc,hx,hd⟩:=c.cls;have J:InstAt s.heap e (uX C none (.ref t)) C none:=⟨ho,rfl,rfl,True.intro⟩;refine set_plain I.kIn J c.sa (rD (s:={ s with toks:=s.toks+1 }) I.kIn J hc hx c.ob c.na ?_);have hcl:=looks_clsIn (M:=model X.prog X.w) I.kIn hc;refine AA (AB (AA (AA (Bc ho (AA (As (s:={ s with toks:=s.toks+1 }) hcl ?_))))))
 rw[hd];obtain⟨hh,g,dd,tk,os⟩:=s;refine AA (wpAny_alloc ?_);have hne:hh.objs.size≠e:=Bq (AF ho);have e0:(hh.push emptyDict).get? hh.objs.size=some emptyDict:=AQ hh rfl;have e1:(hh.push emptyDict).get? e=some (uX C none (.ref t)):=AC _ ho;refine AA (wpAny_update e1 ?_);have e2:((hh.push emptyDict).update e fun o=>{ o with dict:=some hh.objs.size }).get? e=some (uX C (some hh.objs.size) (.ref t)):=Ax _ e1 rfl
 have e3:((hh.push emptyDict).update e fun o=>{ o with dict:=some hh.objs.size }).get? hh.objs.size=some emptyDict:=by rw[AY _ _ (Ne.symm hne)]; exact e0
 have e4:((hh.push emptyDict).update e fun o=>{ o with dict:=some hh.objs.size }).Ns1 hh.objs.size (fun _=>none):=Heap.Ns1.of_empty ⟨emptyDict,#[],_,e3,rfl,(fun e he=>absurd he (by simp)),fun _=>rfl⟩;refine AB (a:=some hh.objs.size) (AA (AB (AA ?_)));refine wpAny_nsSet1 e4 fun h' hn2 hs2=>?_;have wi:PySem.Within (fun _:Str=>(none:Option Value)) []:=fun y hy=>absurd rfl hy
 obtain⟨oD,esD,epD,hoD,hdD,hcD⟩:=hn2.count (PySem.Within.cons f u wi);refine AA (wpAny_lookBehind hoD (by rw[hdD]; exact pastItsLine_dict (AO hcD (by rw[AZ]; decide))) ?_);refine AB (h hh.objs.size _ (I.hok.fresh (AI _)) hne ?_);have x0:XD hh.objs.size [] (hh.push emptyDict):=⟨fun _=>none,Heap.Ns1.of_empty ⟨emptyDict,#[],_,e0,rfl,(fun e he=>absurd he (by simp)),fun _=>rfl⟩,fun _=>True.intro,fun y hy=>absurd rfl hy⟩
 have I1:=I.laid (t':=tk) (a:=hh.objs.size) (o:=.ext (XD hh.objs.size [])) (h':=hh.push emptyDict) (fun b u q=>AC _ q) (AI _) (QD x0);have m1:upd H hh.objs.size (.ext (XD hh.objs.size [])) e=some (.ext (XB e C none)):=by rw[wQ (Ne.symm hne)]; exact he
 have I2:=I1.write (t':=tk) (x:=e) (e:=e) (o:=.ext (XB e C (some hh.objs.size))) (h':=(hh.push emptyDict).update e fun o=>{ o with dict:=some hh.objs.size }) (by rw[m1]; exact True.intro) (.inl rfl) (fun b u hb hu=>by rw[AY _ _ (Ne.symm hb)]; exact hu) ⟨_,e2⟩ (vT e2);have m2:upd (upd H hh.objs.size (.ext (XD hh.objs.size []))) e (.ext (XB e C (some hh.objs.size))) hh.objs.size=some (.ext (XD hh.objs.size [])):=by rw[wQ hne,vQ]
 have x1:XD hh.objs.size [(f,y)] h':=by
  refine⟨_,hn2,fun z=>?_,fun z hz=>?_⟩
  .by_cases q:z=f
   .subst q
    rw[AV rfl];show RelO (List.lookup z [(z,y)]) (some u)
    simp only[List.lookup,beq_self_eq_true]
    exact ry
   .rw [AR q]
    show RelO (List.lookup z [(f,y)]) none
    simp only[List.lookup,beq_eq_false_iff_ne.mpr q]
    exact True.intro
  .by_cases q:z=f
   .rw [q]; exact AW
   .exact absurd (AR q) hz
 have I3:=I2.write (t':=tk+1+1) (x:=hh.objs.size) (e:=hh.objs.size) (o:=.ext (XD hh.objs.size [(f,y)])) (h':=h') (by rw[m2]; exact True.intro) (.inl rfl) (fun b u hb hu=>(hs2.2 b hb).trans hu) (let ⟨o,_,_,z,_⟩:=hn2; ⟨o,z⟩) (QD x1)
 have eH:upd (upd (upd H hh.objs.size (.ext (XD hh.objs.size []))) e (.ext (XB e C (some hh.objs.size)))) hh.objs.size (.ext (XD hh.objs.size [(f,y)]))=upd (upd H hh.objs.size (.ext (XD hh.objs.size [(f,y)]))) e (.ext (XB e C (some hh.objs.size))):=by
  funext b
  unfold upd
  by_cases q1:b=hh.objs.size
  .rw [AV q1,AR (fun z=>hne (q1.symm.trans z)),AV q1]
  .rw [AR q1]
   by_cases q2:b=e
   .rw [AV q2,AV q2]
   .rw [AR q2,AR q2,AR q1,AR q1]
 rw[eH] at I3;exact I3
end
section
variable {X:Cx}{pins:List (Addr×Obj)}{σ:St}{H:Hp}{s:Shared}{e C d:Addr}{f:Str}{A:Around}{E:Value->Shared->Prop}
theorem Qz {y:V}{u:Value}{fs:List (Str×V)}{Q:Unit->Shared->Prop}(I:Inv X pins σ H s)(he:H e=some (.ext (XB e C (some d))))(hd:H d=some (.ext (XD d fs)))(c:pR X.K C f)(hl:fs.length < 1000)(ry:RelV y u)
  (h:∀s',Inv X pins σ (upd H d (.ext (XD d (yJ f y fs)))) s'->Q () s'):wpAny (model X.prog X.w) A (setAttr (.ref e) f u) Q E s:=by
 obtain⟨t,ho⟩:=I.xb he;obtain⟨mA,hn,r,wi⟩:=(show ObjOk X.prog X.w H s.heap d (.ext (XD d fs)) from I.hok d _ hd).1;obtain⟨cd,hc,hx,hD⟩:=c.cls;obtain⟨oD0,_,_,hoD0,_⟩:=id hn;have J:InstAt s.heap e (uX C (some d) (.ref t)) C (some oD0):=⟨ho,rfl,rfl,hoD0⟩;have hz:(fs.map (·.1)).length<=sizeLine:=by rw[AL,CM]; omega
 refine set_plain I.kIn J c.sa (rD (s:={ s with toks:=s.toks+1 }) I.kIn J hc hx c.ob c.na ?_);have hcl:=looks_clsIn (M:=model X.prog X.w) I.kIn hc;refine AA (AB (AA (AA (Bc ho (AA (As (s:={ s with toks:=s.toks+1 }) hcl ?_))))));rw[hD];refine AB (a:=some d) (AA (AB (AA ?_)));refine wpAny_nsSet1 (s:={ s with toks:=s.toks+1 }) hn fun h' hn2 hs2=>?_
 obtain⟨oD,esD,epD,hoD,hdD,hcD⟩:=hn2.count (PySem.Within.cons f u wi);refine AA (wpAny_lookBehind hoD (by rw[hdD]; exact pastItsLine_dict (AO hcD (by rw[AZ]; omega))) ?_);refine AB (h _ ?_)
 have x1:XD d (yJ f y fs) h':=by
  refine⟨_,hn2,fun g=>?_,fun g hg=>?_⟩
  .show RelO ((yJ f y fs).lookup g) (if g=f then some u else mA g)
   rw[zW]
   by_cases q:g=f
   .rw [AV q,AV q]; exact ry
   .rw [AR q,AR q]; exact r g
  .by_cases q:g=f
   .rw [q]; exact(pK f y fs).1
   .refine (pK f y fs).2 g (wi g fun z=>hg ?_)
    show(if g=f then some u else mA g)=none;rw[AR q]; exact z
 exact I.write (x:=d) (e:=d) (by rw[hd]; exact True.intro) (.inl rfl) (fun b q hb z=>(hs2.2 b hb).trans z) ⟨_,hoD⟩ (QD x1)
end
section
variable {X:Cx}{o value:Expr}{f:Str}{pos pos':Pos}{ta tv:TE}
def sXf0 (K:CU)(ta tv:TE)(f:Str):TS:=fun D σ H=>tv σ H fun y H1=>ta σ H1 fun x H2=>∃e C,x=.ref e/\H2 e=some (.ext (XB e C none))/\pR K C f /\
 ∀d,H2 d=none->d≠e->D.nx σ (upd (upd H2 d (.ext (XD d [(f,y)]))) e (.ext (XB e C (some d))))
def sXf1 (K:CU)(ta tv:TE)(f:Str):TS:=fun D σ H=>tv σ H fun y H1=>ta σ H1 fun x H2=>∃e C d fs,x=.ref e/\H2 e=some (.ext (XB e C (some d)))/\H2 d=some (.ext (XD d fs))/\pR K C f/\fs.length < 1000 /\
 D.nx σ (upd H2 d (.ext (XD d (yJ f y fs))))
theorem vS (ha:PE X o ta)(hv:PE X value tv)(hs:swapsWith value (some (.Attribute o f pos')) pos.line X.env=pure false):PS X (.Assign [.Attribute o f pos'] value pos) (sXf0 X.K ta tv f):=by
 intro pins s σ H D I h;refine Bh (thn (hv pins s σ H _ I h) fun u s1 ⟨y,H1,I1,ry,q⟩=>thn (ha pins s1 σ H1 _ I1 q) fun ov s2 ⟨x,H2,I2,rx,e,C,ex,ee,c,q2⟩=>?_) hs;subst ex;obtain rfl:ov=Value.ref e:=rx;exact QA I2 ee c ry fun d s3 h1 h2 I3=>⟨σ,_,I3,q2 d h1 h2⟩
theorem ps_xf1 (ha:PE X o ta)(hv:PE X value tv)(hs:swapsWith value (some (.Attribute o f pos')) pos.line X.env=pure false):PS X (.Assign [.Attribute o f pos'] value pos) (sXf1 X.K ta tv f):=by
 intro pins s σ H D I h;refine Bh (thn (hv pins s σ H _ I h) fun u s1 ⟨y,H1,I1,ry,q⟩=>thn (ha pins s1 σ H1 _ I1 q) fun ov s2 ⟨x,H2,I2,rx,e,C,d,fs,ex,ee,ed,c,hl,q2⟩=>?_) hs;subst ex;obtain rfl:ov=Value.ref e:=rx;exact Qz I2 ee ed c hl ry fun s3 I3=>⟨σ,_,I3,q2⟩
end
structure XIn (K:CU)(V:Addr):Prop where
 ga:specialIn K (.ref V) "__getattribute__" = some (some (.builtin "type.__getattribute__"))
 rd:readsIn K V (.type "type")=true
 fc:findCls K (.ref V) (.type "type") "__init__" = some (.val (.builtin "ValueError.__init__"))
section
variable {X:Cx}{e:Expr}{es:List Expr}{pos apos p:Pos}{t:TA}{x:Str}{V:Addr}
def rXin (K:CU):List L2.V->Hp->VK->Prop:=fun vs H Q=>∃e C x d,vs=[.ref e,x]/\H e=some (.ext (XB e C d))/\XMk K C/\Q .non H
theorem uM {pl:Sem Bool}(Z:XIn X.K V)(hg:Gl X x)(hm:X.mg x=some (.ref V))(ha:PA X (e::es) t)(hdb:(x==("__debug__" : Str))=false:=by decide)
  (he:starEach (e::es) X.env=(false,eval e X.env)::starEach es X.env:=by rfl) (hpl:(backTo pos (starEach es X.env)).any (·.1)=false:=by rfl)
  (ht:eval (.Call (.Attribute (.Name x p) "__init__" apos) (e::es) [] pos) X.env=(do
   let ov <- eval (.Name x p) X.env
   standAt apos.atName
   let (f,first) <- holding [ov] (getMethod ov "__init__" pl)
   callWith pos f first (backTo pos (starEach (e::es) X.env)) (backToKw pos (keywordEach [] X.env))):=by rfl) :
  PE X (.Call (.Attribute (.Name x p) "__init__" apos) (e::es) [] pos) (tCB (rXin X.K) t):=by
 intro pins s σ H Q I h;refine CC (pl:=pl) (iZ I hg hm ?_ hdb) ht;refine method_cls I.kIn Z.ga (cls_value I.kIn Z.rd Z.fc rfl ?_);have I1:=I.tok (s.toks+1);exact PyProof.Rows.callWith_builtin1 (thn (ha pos pins _ σ H _ I1 h) fun us s1 ⟨vs,H1,I1,r1,q1⟩=>jT pins s1 σ H1 vs us Q I1 r1 q1) he hpl
end
def PF (X:Cx)(e:Expr)(c:St->Hp->Prop)(n:Nat):Prop :=
 ∀(pins:List (Addr×Obj)) (s:Shared) (σ:St) (H:Hp),Inv X pins σ H s->c σ H->wpAny (model X.prog X.w) X.A (eval e X.env) (fun v s'=>∃y tk,v=.str y tk/\y.length<=n/\Inv X pins σ H s') X.xe s
inductive PFs (X:Cx):List Expr->(St->Hp->Prop)->Nat->Prop
 |nil:PFs X [] (fun _ _=>True) 0
 |cons {e:Expr} {es:List Expr} {c c':St->Hp->Prop} {n m:Nat} (h:PF X e c n) (r:PFs X es c' m):PFs X (e::es) (fun σ H=>c σ H/\c' σ H) (n+m)
section
variable {X:Cx}
theorem oV {x:Str}{k:Nat}{pos:Pos}(hx:x.length<=sizeLine:=by decide +kernel):PF X (.Constant (.str x) k pos) (fun _ _=>True) x.length:=fun pins s σ H I _=>thn (uS pins s σ H (fun v H'=>v=.str x/\H'=H) I ⟨rfl,rfl⟩) fun u s1 ⟨v,H1,I1,r,ev,eH⟩=>by
 subst ev eH;obtain⟨t,rfl⟩:=(show ∃t,u=Value.str x t from r);exact⟨x,t,rfl,AI _,I1⟩
theorem yS {i:Nat}{x:Str}{p pos:Pos}{te:TE}(he:PE X (.Name x p) te):PF X (.FormattedValue (.Name x p) (-1) none pos) (fun σ H=>te σ H fun v H'=>H'=H/\∃j:Int,v=.int j/\j.natAbs<=1000000000000) 14:=fun pins s σ H I h=>by
 refine PyProof.Rows.FormattedValue_plain (thn (he pins s σ H _ I h) fun u s1 ⟨v,H1,I1,r,eH,j,ev,hj⟩=>?_);subst eH ev;obtain⟨t,rfl⟩:=(show ∃t,u=Value.int j t from r)
 have hd:j.natAbs.log2 < 1920:=by
  by_cases h0:j.natAbs=0
  .rw [h0]; decide
  .rw [Nat.log2_lt h0]
   exact A9 hj (AD (show 1000000000000 < 2 ^ 40 by decide) (CN (by decide) (by decide)))
 exact PyProof.Rows.formatField_int_small hd ⟨_,_,rfl,CL.txI_len hj,I1.tok _⟩
theorem zC:∀{es:List Expr}{c:St->Hp->Prop}{n:Nat},PFs X es c n->∀(pins:List (Addr×Obj)) (s:Shared) (σ:St) (H:Hp) (out:Str) (Q:Value->Shared->Prop),Inv X pins σ H s->c σ H->out.length+n<=sizeLine->(∀y tk s',Inv X pins σ H s'->Q (.str y tk) s')->wpAny (model X.prog X.w) X.A (joinParts out (evalEach es X.env)) Q X.xe s
 |_,_,_,.nil,pins,s,σ,H,out,Q,I,_,hz,q=>PyProof.Rows.joinParts_nil (q _ _ _ (I.tok _)) (by omega)
 |_,_,_,.cons (n:=n) (m:=m) h r,pins,s,σ,H,out,Q,I,hc,hz,q=>PyProof.Rows.joinParts_cons (thn (h pins s σ H I hc.1) fun v s1 ⟨y,tk,e,hy,I1⟩=>by
   subst e;have hl:(out++y).length=out.length+y.length:=strLen_append _ _
   exact⟨by rw[hl]; omega,zC r pins s1 σ H (out++y) Q I1 hc.2 (by rw[hl]; omega) q⟩)
theorem yP {e1 e2:Expr}{es:List Expr}{c:St->Hp->Prop}{n:Nat}{pos:Pos}(h:PFs X (e1::e2::es) c n)(hn:n<=sizeLine):PE X (.JoinedStr (e1::e2::es) pos) (fun σ H Q=>c σ H/\∀y,Q (.str y) H):=by
 intro pins s σ H Q I hq;refine PyProof.Rows.JoinedStr_many (zC h pins s σ H Str.empty _ I hq.1 (by show 0+n<=_; omega) fun y tk s' I'=>⟨.str y,H,I',⟨_,rfl⟩,hq.2 y⟩)
end
end L2
namespace PySem.W
open PySem PySem.Calls PyProof.Rows
theorem cG {M:Model}{A:Around}{E:Value->Shared->Prop}{s:Shared}{env:Env}{x:Sem Value}{Q:Flow->Shared->Prop}(hh:A.handled=none)
  (h:wpAny M A x (fun v s₁=>∃e C d t oC cd,v=.ref e/\s₁.heap.get? C=some oC/\oC.data=.cls cd/\oC.cls=.type "type"/\nF M s₁.heap C/\s₁.heap.get? e=some (uX C d (.ref t))/\E (.ref e) s₁) E s) :
  wpAny M A (raiseStmt env (some x) none) Q E s:=by
 unfold raiseStmt;refine AA (Aj h (fun v s₁ h₁=>?_) fun _ _ x=>x);obtain⟨e,C,d,t,oC,cd,rfl,hC,hcd,hct,Y,he,hE⟩:=h₁;obtain⟨c1,c2,c3,c4⟩:=oC;obtain rfl:c3=.cls cd:=hcd;obtain rfl:c1=.type "type":=hct;obtain⟨hp,g,dd,tk,os⟩:=s₁;have bas:=Y.bas
 repeat (first | with_reducible refine Bb he ?_ | with_reducible refine Bb hC ?_ | with_reducible refine bas.at ?_ | wp_step)
 exact wpAny_raiseNew_none hh hE
structure XLeft (fs:List Addr)(e:Addr)(oe:Obj)(T:Addr)(h h':Heap):Prop where
 ne:T≠e
 new:h.objs.size<=T
 keep:∀b o,b≠e->b∉fs->h.get? b=some o->h'.get? b=some o
 slot:∀b o,b≠e->b∈fs->h.get? b=some o->∃sl,h'.get? b=some { o with slots:=sl }
 exc:h'.get? e=some (oe.mapFields (·.setIfInBounds 1 (.ref T)))
 ent:∃oT ts,h'.get? T=some oT/\oT.data=.fields ts/\ts[3]?=some .none
section
variable {M:Model}{A:Around}{E:Value->Shared->Prop}{s:Shared}
theorem pM {base:Heap}{env:Env}{outer:List Env}{L e:Addr}{oe:Obj}{vs:Array Value}{head:Value}{hadNext:Bool}{Q:Unit->Shared->Prop}
  (hfr:A.frames=some (env::outer)) (hl:s.heap.FunFrames base (env::outer)) (hf:env.frame=some L)
  (he:s.heap.get? e=some oe) (hd:oe.data=.fields vs) (hsz:1 < vs.size)
  (h:∀h' T,XLeft ((env::outer).filterMap (·.frame)) e oe T s.heap h'->Q () { s with heap:=h' }) :
  wpAny M A (do let a <- frameOf env; let pl <- entryPlaceOf L hadNext; let b <- EntryCells.newEntry head a .none (rawInt L) .none pl; setField (.ref e) 1 b) (fun _ s'=>wpAny M A (setFlight (.ref e) none) Q E s') E s:=by
 have hene:e∉(env::outer).filterMap (·.frame):=fun hm=>by
  obtain⟨_,o,ho,hnf⟩:=hl.mem hm;rw[he] at ho; injection ho with ho; subst ho; exact hnf vs hd
 refine AA (wpAny_frameOf_fun hfr hl hf fun h₁ hs₁=>?_);refine AA (wpAny_entryPlaceOf fun pl hpl=>?_);unfold EntryCells.newEntry newFields;refine AA (wpAny_newObj_type ?_ (hpl.sizeOk5 _ _ _ _ _));have he₁:h₁.get? e=some oe:=(hs₁.2.1 e hene).trans he;have he₂:=AC (h:=h₁) { cls:=.type "traceback",dict:=none,data:=.fields ([head,.ref L,.none,rawInt L,.none]++(if pl.isEmpty then List.replicate 6 Value.none else pl)).toArray } he₁
 refine wpAny_setField he₂ hd hsz ?_;have hTe:h₁.objs.size≠e:=Bq (AF he₁);have hd₃:=Obj.data_mapFields hd (·.setIfInBounds 1 (Value.ref h₁.objs.size));have he₃:=Ax (Obj.mapFields (·.setIfInBounds 1 (Value.ref h₁.objs.size))) he₂ (Obj.isFreed_of_fields hd₃)
 have hT₃:=(AY (h₁.push { cls:=.type "traceback",dict:=none,data:=.fields ([head,.ref L,.none,rawInt L,.none]++(if pl.isEmpty then List.replicate 6 Value.none else pl)).toArray })
  (Obj.mapFields (·.setIfInBounds 1 (Value.ref h₁.objs.size))) (Ne.symm hTe)).trans (AQ h₁ rfl)
 unfold setFlight;refine AA (wpAny_field he₃ hd₃ (x:=.ref h₁.objs.size) (by simp[hsz]) ?_);rw[AV (show(Value.ref h₁.objs.size != Value.none)=true from by simp)];refine wpAny_setField hT₃ rfl (by simp only[List.size_toArray,List.length_append,List.length_cons,List.length_nil]<;>omega) (h _ h₁.objs.size ?_)
 have keep:∀b o,b≠e->h₁.get? b=some o ->
   (((h₁.push { cls:=.type "traceback",dict:=none,data:=.fields ([head,.ref L,.none,rawInt L,.none]++(if pl.isEmpty then List.replicate 6 Value.none else pl)).toArray }).update e (Obj.mapFields (·.setIfInBounds 1 (Value.ref h₁.objs.size)))).update h₁.objs.size
    (Obj.mapFields (·.setIfInBounds 3 ((none:Option Addr).elim Value.none fun f=>rawInt f)))).get? b=some o:=fun b o hbe hb=>by
  have hbT:h₁.objs.size≠b:=Bq (AF hb);rw[AY _ _ hbT,AY _ _ (Ne.symm hbe)];exact AC _ hb
 refine⟨hTe,Br hs₁.1.symm,fun b o hbe hbf hb=>keep b o hbe ((hs₁.2.1 b hbf).trans hb),fun b o hbe hbf hb=>?_,?_,?_⟩
 .obtain ⟨sl,hs⟩:=hs₁.2.2 b o hb
  exact⟨sl,keep b _ hbe hs⟩
 .rw [AY _ _ hTe]; exact he₃
 .exact ⟨_,_,Ax _ hT₃ (Obj.isFreed_of_fields (Obj.data_mapFields rfl _)),Obj.data_mapFields rfl _,by first | (simp; done) | (rcases hpl with rfl | ⟨_,_,_,_,_,_,_,rfl⟩<;>simp)⟩
theorem note_x {base:Heap}{env:Env}{outer:List Env}{L e:Addr}{oe:Obj}{vs:Array Value}{Q:Unit->Shared->Prop}
  (hfr:A.frames=some (env::outer)) (hl:s.heap.FunFrames base (env::outer)) (hf:env.frame=some L)
  (he:s.heap.get? e=some oe) (hd:oe.data=.fields vs) (h1:vs[1]?=some .none)
  (h:∀h' T,XLeft ((env::outer).filterMap (·.frame)) e oe T s.heap h'->Q () { s with heap:=h' }):wpAny M A (noteFrame (.ref e) env) (fun _ s'=>wpAny M A (setFlight (.ref e) none) Q E s') E s:=by
 unfold noteFrame
 simp only[hf]
 refine AA (wpAny_field he hd h1 ?_);rw[AR (by decide)];exact pM hfr hl hf he hd (Am.mp h1).1 h
structure XLeft2 (fs:List Addr)(e:Addr)(oe:Obj)(T0 T:Addr)(h h':Heap):Prop where
 ne:T≠e
 new:h.objs.size<=T
 keep:∀b o,b≠e->b≠T0->b∉fs->h.get? b=some o->h'.get? b=some o
 slot:∀b o,b≠e->b≠T0->b∈fs->h.get? b=some o->∃sl,h'.get? b=some { o with slots:=sl }
 exc:h'.get? e=some (oe.mapFields (·.setIfInBounds 1 (.ref T)))
 ent:∃oT ts,h'.get? T=some oT/\oT.data=.fields ts/\ts[3]?=some .none
 old:∃o,h'.get? T0=some o
theorem gO {base:Heap}{env:Env}{outer:List Env}{L e T0:Addr}{oe oT:Obj}{vs ts:Array Value}{Q:Unit->Shared->Prop}
  (hfr:A.frames=some (env::outer)) (hl:s.heap.FunFrames base (env::outer)) (hf:env.frame=some L)
  (he:s.heap.get? e=some oe) (hd:oe.data=.fields vs) (h1:vs[1]?=some (.ref T0)) (hTe:T0≠e) (hT:s.heap.get? T0=some oT) (hdT:oT.data=.fields ts) (h3:ts[3]?=some .none)
  (h:∀h' T,XLeft2 ((env::outer).filterMap (·.frame)) e oe T0 T s.heap h'->Q () { s with heap:=h' }):wpAny M A (noteFrame (.ref e) env) (fun _ s'=>wpAny M A (setFlight (.ref e) none) Q E s') E s:=by
 unfold noteFrame
 simp only[hf]
 refine AA (wpAny_field he hd h1 ?_);rw[AV (show(Value.ref T0 != Value.none)=true from by simp)];refine AA (wpAny_field hT hdT h3 ?_);rw[AR (show ¬ ((Value.none==rawInt L)=true) from by simp[rawInt])];refine AA (wpAny_setField hT hdT (Am.mp h3).1 ?_);have other:∀b,b≠T0->(s.heap.update T0 (Obj.mapFields (·.setIfInBounds 3 Value.none))).get? b=s.heap.get? b:=fun b hb=>AY _ _ (Ne.symm hb)
 have noRecord:∀b o,s.heap.get? b=some o->(∀vs,o.data≠.fields vs)->b≠T0:=fun b o hb hnf q=>by
  rw[q,hT] at hb; injection hb with hb; subst hb; exact hnf ts hdT
 have hTf:T0∉(env::outer).filterMap (·.frame):=fun hm=>by
  obtain⟨_,o,ho,hnf⟩:=hl.mem hm;exact noRecord T0 o ho hnf rfl
 have hT':(s.heap.update T0 (Obj.mapFields (·.setIfInBounds 3 Value.none))).get? T0=some (oT.mapFields (·.setIfInBounds 3 Value.none)):=Ax _ hT (Obj.isFreed_of_fields (Obj.data_mapFields hdT _));refine pM (s:={ s with heap:=s.heap.update T0 (Obj.mapFields (·.setIfInBounds 3 Value.none)) }) hfr (hl.of_keeps fun b o hb hnf=>⟨o,(other b (noRecord b o hb hnf)).trans hb,rfl⟩) hf ((other e (Ne.symm hTe)).trans he) hd (Am.mp h1).1 fun h' T Z=>h h' T ?_
 refine⟨Z.ne,AO (Br (Heap.size_update _ _ _).symm) Z.new,fun b o h1 h2 h3 h4=>Z.keep b o h1 h3 ((other b h2).trans h4),fun b o h1 h2 h3 h4=>Z.slot b o h1 h3 ((other b h2).trans h4),Z.exc,Z.ent,⟨_,Z.keep T0 _ hTe hTf hT'⟩⟩
theorem bC {env:Env}{e:Value}{Q:Unit->Shared->Prop}(h:wpAny M A (noteFrame e env) (fun _ s'=>wpAny M A (setFlight e none) Q E s') E s):wpAny M A (leaving env e) Q E s:=AA h
end
end PySem.W
namespace L2
open PySem PySem.Spec PySem.W
open PyProof.Rows hiding St
def unt (H:Hp)(e:Addr):Hp:=fun b=>if b=e then none else H b
theorem cJ {H:Hp}{e:Addr}:unt H e e=none:=AV rfl
theorem eK {H:Hp}{e b:Addr}(h:b≠e):unt H e b=H b:=AR h
structure XT (h:Heap)(e C:Addr)(d:Option Addr)(T:Addr):Prop where
 exc:∃oe vs,h.get? e=some oe/\oe.cls=.ref C/\oe.dict=d/\oe.data=.fields vs/\vs[1]?=some (.ref T)
 ne:T≠e
 ent:∃oT ts,h.get? T=some oT/\oT.data=.fields ts/\ts[3]?=some .none
def CXv (P:Program)(w:World):CXT:=fun outer H s E e s'=>∃ea C d T H',e=.ref ea/\s'.os=s.os/\AllBare s'.gens/\Un (frs outer) [] H H' s.heap s'.heap/\HOk P w H' s'.heap/\H' ea=none/\H' T=none /\
 s.heap.objs.size<=ea/\s.heap.objs.size<=T/\XT s'.heap ea C d T/\E (.ref C) d H'
theorem rR {h:Heap}{e C T:Addr}{d:Option Addr}{oe:Obj}{vs:Array Value}(ne:T≠e)(hx:h.get? e=some (oe.mapFields (·.setIfInBounds 1 (.ref T))))(hc:oe.cls=.ref C)(hd:oe.dict=d)(hv:oe.data=.fields vs)(hs:1 < vs.size)
  (ent:∃oT ts,h.get? T=some oT/\oT.data=.fields ts/\ts[3]?=some .none):XT h e C d T:=by
 obtain⟨c1,c2,c3,c4⟩:=oe;obtain rfl:c3=.fields vs:=hv;exact⟨⟨_,_,hx,hc,hd,rfl,by simp[hs]⟩,ne,ent⟩
section
variable {P:Program}{w:World}{K:CU}{mg:Str->Option Value}{base:Heap}{N:List Str}{qual:Str}{scope:Scope}{f:Addr}{cd:Value}{A:Around}{outer:List Env}{s s1:Shared}{H H2:Hp}{E E':XK}{pins:List (Addr×Obj)}{σ:St}{e C:Addr}{d:Option Addr}
theorem yT {fs:List Addr}{X:Cx}{H':Hp}{h':Heap}{L:Addr}(I:Inv X pins σ H2 s1)(hx:X.ex=[])(hL:X.s₀.heap.objs.size<=L)(hfs:∀b,b∈fs↔b=L\/b∈X.fs)
  (k:∀b o,b < X.s₀.heap.objs.size->b∉fs->s1.heap.get? b=some o->h'.get? b=some o) (sl:∀b o,b < X.s₀.heap.objs.size->b∈fs->s1.heap.get? b=some o->∃z,h'.get? b=some { o with slots:=z })
  (hn:∀b,H2 b=none->H' b=none) (hs:∀b o,H2 b=some o->(∀φ,o≠.ext φ)->H' b=some o):Un X.fs [] X.H₀ H' X.s₀.heap h':=by
 have lt:∀b o,X.s₀.heap.get? b=some o->b < X.s₀.heap.objs.size/\b≠L:=fun b o q=>⟨AF q,AM (AD (AF q) hL)⟩;have no:∀b,b∉X.ex:=fun b z=>by rw[hx] at z; cases z
 refine⟨fun b o q n nf _=>?_,fun b o q n nf _=>?_,fun b o q n _=>hn b (I.base.free b o q n (no b)),fun b o q _=>?_,fun b xs q=>?_,fun b o u q=>?_,fun b ps q=>?_⟩
 .exact k b o (lt b o q).1 (fun z=>((hfs b).1 z).elim (lt b o q).2 nf) (I.base.keep b o q n nf (no b))
 .obtain ⟨z,q1⟩:=I.base.slot b o q n nf (no b)
  obtain⟨z',q2⟩:=sl b _ (lt b o q).1 ((hfs b).2 (.inr nf)) q1;exact⟨z',q2⟩
 .obtain ⟨o',q1⟩:=I.base.there b o q (no b)
  by_cases hb:b∈fs
  .obtain ⟨z,q2⟩:=sl b o' (lt b o q).1 hb q1
   exact⟨_,q2⟩
  .exact ⟨o',k b o' (lt b o q).1 hb q1⟩
 .exact hs b _ (I.base.tups b xs q) fun _ z=>nomatch z
 .exact hs b _ (I.base.frzs b o u q) fun _ z=>nomatch z
 .obtain ⟨m,q1⟩:=I.base.tbls b ps q
  exact⟨m,hs b _ q1 fun _ z=>nomatch z⟩
theorem sC {X:Cx}{H':Hp}{h':Heap}(I:Inv X pins σ H2 s1)(k:∀b o,(∃u,H' b=some u)->s1.heap.get? b=some o->h'.get? b=some o)(hs:∀b u,H' b=some u->H2 b=some u)(ho:∀b y,H2 b=some (.own y)->H' b=H2 b)(ht:∀b xs,H2 b=some (.tup xs)->H' b=H2 b):HOk X.prog X.w H' h':=fun a o q =>
 (I.hok a o (hs a o q)).stay (fun b u hb hu=>k b u (by
  rcases hb with rfl | hb
  .exact ⟨_,q⟩
  .exact ⟨_,(ho b a hb).trans hb⟩) hu) (fun b z=>(ho b a z).trans z) (fun b xs z=>(ht b xs z).trans z)
theorem sR (I:Inv (bX (CXv P w) P w K mg base N qual scope f cd A outer s H E) pins σ H2 s1)(he:H2 e=some (.ext (XB e C d)))(hs:s.heap.objs.size<=e)(q:E (.ref C) d (unt H2 e)):
  (bX (CXv P w) P w K mg base N qual scope f cd A outer s H E).xe (.ref e) s1:=by
 obtain⟨t,ho⟩:=I.xb he;have hst:=I.stack;show wpAny (model P w) (A.deeper (PyProof.Rows.envOfC qual scope s.heap.objs.size f cd)) (leaving (PyProof.Rows.envOfC qual scope s.heap.objs.size f cd) (.ref e)) _ _ s1;refine bC (note_x I.ok.frames hst rfl ho rfl rfl fun h' T Z=>⟨e,C,d,T,unt H2 e,rfl,I.os,I.bare,?_,?_,cJ,?_,hs,AO I.sz Z.new,rR Z.ne Z.exc rfl rfl rfl (by show 1 < 6; decide) Z.ent,q⟩)
 .refine yT (X:=bX (CXv P w) P w K mg base N qual scope f cd A outer s H E) (fs:=(PyProof.Rows.envOfC qual scope s.heap.objs.size f cd::outer).filterMap (·.frame)) (L:=s.heap.objs.size) I rfl (AI _) (fun b=>?_) (fun b o hb hf q=>Z.keep b o (AM (AD hb hs)) hf q) (fun b o hb hf q=>Z.slot b o (AM (AD hb hs)) hf q) (fun b z=>?_) fun b o z ne=>?_
  .show b∈s.heap.objs.size::frs outer↔_
   rw[Ag];exact Iff.rfl
  .by_cases hb:b=e
   .rw [hb]; exact cJ
   .rw [eK hb]; exact z
  .have hbe:b≠e:=fun y=>by rw[y,he] at z; exact ne _ (Ae z).symm
   rw[eK hbe]; exact z
 .refine sC I (fun b o hu q=>Z.keep b o (fun z=>?_) (fun z=>?_) q) (fun b u z=>?_) (fun b y z=>eK fun h=>?_) fun b xs z=>eK fun h=>?_
  .obtain ⟨u,hu⟩:=hu; rw[z,cJ] at hu; cases hu
  .obtain ⟨u,hu⟩:=hu
   have hbe:b≠e:=fun h=>by rw[h,cJ] at hu; cases hu
   rw[eK hbe,I.stkFree b z] at hu;cases hu
  .have hbe:b≠e:=fun h=>by rw[h,cJ] at z; cases z
   rwa [eK hbe] at z
  .rw [h,he] at z; cases z
  .rw [h,he] at z; cases z
 .rw [eK Z.ne]
  exact I.hok.fresh Z.new
theorem wZ (hE:∀c d H',E' c d H'->E c d H'):mZ (CXv P w) (bX (CXv P w) P w K mg base N qual scope f cd A outer s H E) E':=by
 intro pins σ H1 s1 e0 s2 I z;obtain⟨e,C,d,T,H',rfl,os,hb,u,hok,n1,n2,l1,l2,⟨⟨oe,vs,ho,hc,hd,hv,h1⟩,ne,⟨oT,ts,hT,hdT,h3⟩⟩,q⟩:=z;have I2:Inv (bX (CXv P w) P w K mg base N qual scope f cd A outer s H E) pins σ H' s2:=I.call' (ch:=[]) os u hok hb fun _ z=>nomatch z;have le:s.heap.objs.size<=e:=AO I.sz l1;have lT:s.heap.objs.size<=T:=AO I.sz l2;have hst:=I2.stack;show wpAny (model P w) (A.deeper (PyProof.Rows.envOfC qual scope s.heap.objs.size f cd)) (leaving (PyProof.Rows.envOfC qual scope s.heap.objs.size f cd) (.ref e)) _ _ s2
 refine bC (gO I2.ok.frames hst rfl ho hv h1 ne hT hdT h3 fun h' T' Z=>⟨e,C,d,T',H',rfl,I2.os,I2.bare,?_,?_,n1,I2.hok.fresh Z.new,le,AO I2.sz Z.new,rR Z.ne Z.exc hc hd hv (Am.mp h1).1 Z.ent,hE _ _ _ q⟩)
 .refine yT (X:=bX (CXv P w) P w K mg base N qual scope f cd A outer s H E) (fs:=(PyProof.Rows.envOfC qual scope s.heap.objs.size f cd::outer).filterMap (·.frame)) (L:=s.heap.objs.size) I2 rfl (AI _) (fun b=>?_) (fun b o hb hf q=>Z.keep b o (AM (AD hb le)) (AM (AD hb lT)) hf q) (fun b o hb hf q=>Z.slot b o (AM (AD hb le)) (AM (AD hb lT)) hf q) (fun b z=>z) fun b o z _=>z
  show b∈s.heap.objs.size::frs outer↔_;rw[Ag];exact Iff.rfl
 .refine sC I2 (fun b o hu q=>Z.keep b o (fun z=>?_) (fun z=>?_) (fun z=>?_) q) (fun b u z=>z) (fun b y z=>rfl) fun b xs z=>rfl
  .obtain ⟨u,hu⟩:=hu; rw[z,n1] at hu; cases hu
  .obtain ⟨u,hu⟩:=hu; rw[z,n2] at hu; cases hu
  .obtain ⟨u,hu⟩:=hu; rw[I2.stkFree b z] at hu; cases hu
end
section
variable {X:Cx}{CX:CXT}{k:Nat}{f C:Addr}{fd:FuncData}{ps:List Str}{sp:Sp}{E:XK}{x:Str}{p pos cpos np:Pos}{e:Expr}{es:List Expr}{t:TA}
theorem Inv.xmade {pins:List (Addr×Obj)}{σ:St}{H:Hp}{s:Shared}{us:List Value}(I:Inv X pins σ H s):Inv X pins σ (upd H (s.heap.objs.size+1) (.ext (XB (s.heap.objs.size+1) C none)))
  { s with heap:=(s.heap.push (lJ us)).push (uX C none (.ref s.heap.objs.size)) }:=by
 have I1:=I.kept (t':=s.toks) (h':=s.heap.push (lJ us)) fun b u q=>AC _ q
 have e2:((s.heap.push (lJ us)).push (uX C none (.ref s.heap.objs.size))).get? (s.heap.objs.size+1)=some (uX C none (.ref s.heap.objs.size)):=by
  have:=AQ (s.heap.push (lJ us)) (o:=uX C none (.ref s.heap.objs.size)) rfl
  rwa [Bg] at this
 exact I1.laid (t':=s.toks) (a:=s.heap.objs.size+1) (fun b u q=>AC _ q) (Br (Bg _ _)) (vT e2)
structure XMi (K:CU)(C f:Addr):Prop where
 xm:XMk K C
 init:findIn K (.ref C) "__init__" = some (some (.ref f))
 fn:isFn K (.ref f)=true
 kp:keepIn K (.ref C)=true
theorem xA {pins:List (Addr×Obj)}{σ:St}{H:Hp}{s:Shared}{Q:VK}{us:List Value}{vs:List V}(M:XMi X.K C f)(F:eX X.prog X.w X.K X.mg X.base CX k f fd ps sp)(hr:Room (k+1) X.A)(hb:Binds X.K fd ps [])
  (hx:mZ CX X E) (I:Inv X pins σ H s) (r:Vals vs us) (hz:vs.length<=1000)
  (h:∀e,H e=none->X.s₀.heap.objs.size<=e->sp (.ref e::vs) (upd H e (.ext (XB e C none))) (fun v H2=>v=.non/\Q (.ref e) H2) E) :
  wpAny (model X.prog X.w) X.A (call (.ref C) us) (EP X pins σ Q) X.xe s:=by
 have hq:=h (s.heap.objs.size+1) (I.hok.fresh (BN _)) (AO I.sz (BN _));have I2:=Inv.xmade (C:=C) (us:=us) I;have r2:Vals (V.ref (s.heap.objs.size+1)::vs) (Value.ref (s.heap.objs.size+1)::us):=.cons rfl r
 have hl:(Value.ref (s.heap.objs.size+1)::us).length=ps.length:=by
  have e:=r2.length;rw[F.len _ _ _ _ hq] at e;exact e.symm
 have hz':us.length<=sizeLine:=by rw[<- r.length]; exact AO hz (by decide)
 have hbb:=hb { s with heap:=(s.heap.push (lJ us)).push (uX C none (.ref s.heap.objs.size)) } (Value.ref (s.heap.objs.size+1)::us) I2.kIn (by rw[Ad]; exact hl);rw[Ad] at hbb;obtain⟨hh,g,dd,tk,os⟩:=s
 refine A6 (nB (wK I.kIn M.xm) hz' (B1 I.kIn M.init) (fun self=>bind_fn I.kIn self (BK.mp M.fn)) (BP (F.run _ X.stack _ _ ⟨Value.ref (hh.objs.size+1)::us,[]⟩ (Value.ref (hh.objs.size+1)::us) _ _ E (hr.make C us [])
  (I2.env0.make C us []) hbb r2 hq) fun r s' hq'=>?_))
 cases r with
 |error e=>exact hx pins σ _ _ e s' I2 hq'
 |ok fl =>
  cases fl with
  |ret u =>
   obtain⟨v,H',I3,rv,ev,q3⟩:=I2.after hq';subst ev;exact⟨rv,⟨V.ref (hh.objs.size+1),H',I3,rfl,q3⟩⟩
  |next=>exact False.elim hq'
  |brk=>exact False.elim hq'
  |cont=>exact False.elim hq'
def tXMk (C:Addr)(n:Nat)(sp:Sp)(E:XK)(t:TA):TE:=fun σ H Q=>t σ H fun vs H1=>vs.length<=1000/\∀e,H1 e=none->n<=e->sp (.ref e::vs) (upd H1 e (.ext (XB e C none))) (fun v H2=>v=.non/\Q (.ref e) H2) E
theorem xC (M:XMi X.K C f)(F:eX X.prog X.w X.K X.mg X.base CX k f fd ps sp)(hr:Room (k+1) X.A)(hg:Gl X x)(hm:X.mg x=some (.ref C))(hb:Binds X.K fd ps [])(hx:mZ CX X E)
  (ha:PA X (e::es) t) (hdb:(x==("__debug__" : Str))=false:=by decide) (he:starEach (e::es) X.env=(false,eval e X.env)::starEach es X.env:=by rfl) (hpl:(backTo pos (starEach es X.env)).any (·.1)=false:=by rfl) :
  PE X (.Call (.Name x p) (e::es) [] pos) (tXMk C X.s₀.heap.objs.size sp E t):=by
 intro pins s σ H Q I h;refine Ar (iZ I hg hm ?_ hdb);refine A3 (h₀:=X.base) I.ok.mod.kin M.kp (thn (ha pos pins s σ H _ I h) fun us s1 ⟨vs,H1,I1,r,hz,q⟩=>⟨I1.kIn,?_⟩) he hpl;exact xA M F hr hb hx I1 r hz q
def lH (X:Cx)(W:Addr->Hp->Prop):Prop:=∀(pins:List (Addr×Obj)) (σ:St) (s:Shared) (e:Addr) (H:Hp),Inv X pins σ H s->X.s₀.heap.objs.size<=e->W e H->X.xe (.ref e) s
def xP (n:Nat)(te:TE)(C:Addr)(W:Addr->Hp->Prop):TS:=fun D σ H=>te σ H fun v H1=>∃e d,v=.ref e/\n<=e/\H1 e=some (.ext (XB e C d))/\W e H1
theorem vM {te:TE}{W:Addr->Hp->Prop}{ex:Expr}(M:XMk X.K C)(ht:∃oc od cd sl,X.K.lookup C=some ⟨oc,od,.cls cd,sl⟩/\oc=.type "type")(hc:X.calm=true)(hW:lH X W)(he:PE X ex te):PS X (.Raise (some ex) none pos) (xP X.s₀.heap.objs.size te C W):=by
 intro pins s σ H D I h;obtain⟨oc,od,cd,sl,hl,rfl⟩:=ht;rw[arm_exec_Raise]
 have key:∀s,wpAny (model X.prog X.w) X.A (eval ex X.env) (EP X pins σ fun v H1=>∃e d,v=.ref e/\X.s₀.heap.objs.size<=e/\H1 e=some (.ext (XB e C d))/\W e H1) X.xe s ->
   wpAny (model X.prog X.w) X.A (eval ex X.env) (fun v s₁=>∃e C d t oC cd,v=.ref e/\s₁.heap.get? C=some oC/\oC.data=.cls cd/\oC.cls=.type "type"/\nF (model X.prog X.w) s₁.heap C/\s₁.heap.get? e=some (uX C d (.ref t))/\X.xe (.ref e) s₁) X.xe s:=fun s z=>thn z fun u s1 ⟨v,H1,I1,r,e,d,ev,hn,hx,w⟩=>by
  subst ev;obtain rfl:u=Value.ref e:=r;obtain⟨t,ho⟩:=I1.xb hx;exact⟨e,C,d,t,_,cd,rfl,I1.kIn _ _ hl,rfl,rfl,wK I1.kIn M,ho,hW pins σ s1 e H1 I1 hn w⟩
 have kk:=key s (he pins s σ H _ I h)
 first
  |refine AA (BV (cG (I.ok.hd hc) (AA (Aj kk (fun v s₃ h₃=>AA (BV (AB h₃))) fun _ _ x=>x))))
  | (simp only[evalOpt,Option.map]; refine AA (BV (cG (I.ok.hd hc) (AA (Aj kk (fun v s₃ h₃=>AA (BV (AB h₃))) fun _ _ x=>x)))))
  | (refine AA (BV (cG (I.ok.hd hc) ?_)); exact kk)
end
section
variable {X:Cx}{pins:List (Addr×Obj)}{σ:St}{H:Hp}{s:Shared}
theorem Inv.locals {h':Heap}{m':Str->Option Value}{t':Nat}(I:Inv X pins σ H s)(hs:Heap.SameBut X.env.locals s.heap h')(hn':h'.Ns X.env.locals m')
  (hl':∀(i:Nat) (x:Str) (v:V),X.N[i]?=some x->σ[i]?=some (some v)->Vis X.env.scope x->∃u,RelV v u/\Look X.env h' m' x u):Inv X pins σ H { s with heap:=h',toks:=t' }:=by
 obtain⟨m,⟨oL,_,_,hoL,_⟩,_⟩:=id I.loc;have neL:∀b o,X.s₀.heap.get? b=some o->b≠X.env.locals:=fun b o e=>AM (AD (AF e) I.ok.above);refine⟨I.ok,I.os,I.bare,⟨fun b o e n hb hx=>?_,fun b o e n hb hx=>?_,I.base.free,fun b o e hx=>?_,I.base.tups,I.base.frzs,I.base.tbls⟩,⟨_,hn',hl'⟩,fun y c e=>?_,I.free,I.freeC,fun p hp=>?_,fun b ob e=>?_,I.len⟩
 .exact (hs.2 b (neL b o e)).trans (I.base.keep b o e n hb hx)
 .obtain ⟨sl,e1⟩:=I.base.slot b o e n hb hx
  exact⟨sl,(hs.2 b (neL b o e)).trans e1⟩
 .obtain ⟨o',e1⟩:=I.base.there b o e hx
  exact⟨o',(hs.2 b (neL b o e)).trans e1⟩
 .obtain ⟨w',z⟩:=I.cell y c e
  exact⟨w',z.sameBut hs (I.cne y c e)⟩
 .obtain ⟨e,n,ne,nf,d⟩:=I.pin p hp
  exact⟨(hs.2 p.1 ne).trans e,n,ne,nf,d⟩
 .refine (I.hok b ob e).stay (fun c w' hc q=>(hs.2 c ?_).trans q) (fun _ q=>q) fun _ _ q=>q
  rintro rfl
  rcases hc with rfl | hc
  .rw [I.free] at e; cases e
  .rw [I.free] at hc; cases hc
theorem aJ {M:Model}{A:Around}{E:Value->Shared->Prop}{i:Nat}{n:Str}{pos:Pos}{Q:Unit->Shared->Prop}(I:Inv X pins σ H s)(hN:X.N.Nodup)(hi:X.N[i]?=some n)(hk:X.env.scope.names.lookup n=some .local)
  (h:∀s',Inv X pins (σ.set i none) H s'->Q () s'):wpAny M A (do bindName X.env n .none; unbindBehindTheSuite X.env n pos) Q E s:=by
 have hcls:(X.env.scope.kind==.class || (X.env.scope.kind==.module&&X.env.locals != X.env.globals))=false:=by rw[I.ok.kind]; rfl
 refine AA (wpAny_bindName (lV (v:=.non) I hN hi (.inl hk) rfl (fun s1 I1=>?_) (.inr hk)));unfold unbindBehindTheSuite;refine wpAny_onRaise ?_;have hiσ:i < σ.length:=by rw[I.len]; exact(AX.mp hi).1
 obtain⟨m,hn,hl⟩:=id I1.loc;obtain⟨u,ru,lk⟩:=hl i n .non hi (by rw[BB hiσ]) (.inl hk)
 have hv:m n=some u:=by
  rcases lk with ⟨_,z⟩ | ⟨z,_⟩
  .exact z
  .have hk':X.env.kindOf n=some .local:=hk
   rcases z with z | z<;>(rw[hk'] at z; cases z)
 refine wpAny_unbindName_local hk hn hv hcls fun h' u' hn' hs'=>h _ ?_
 have I2:Inv X pins (σ.set i none) H s1:=I1.weak (by rw[List.length_set,List.length_set]) fun j v hj=>by
  by_cases e:i=j
  .subst e; rw[BB hiσ] at hj; cases hj
  .rw [Bo e] at hj ⊢; exact hj
 refine I2.locals (t':=s1.toks) hs' hn' fun j x v e1 e2 e3=>?_;have hj:j≠i:=fun z=>by subst z; rw[BB hiσ] at e2; cases e2
 have e2':(σ.set i (some V.non))[j]?=some (some v):=by rw[Bo (Ne.symm hj)] at e2 ⊢; exact e2
 obtain⟨w,rw',l⟩:=hl j x v e1 e2' e3;refine⟨w,rw',?_⟩
 rcases l with ⟨k1,k2⟩ | ⟨k1,c,k2,k3⟩
 .have:x≠n:=fun z=>hj (fM hN e1 (z▸hi))
  exact .inl ⟨k1,by simp[this,k2]⟩
 .exact .inr ⟨k1,c,k2,k3.sameBut hs' (I1.cne x c k2)⟩
abbrev Cx.inH (X:Cx)(e:Addr)(W:Value->Shared->Prop):Cx:={ X with A:=X.A.mark (some (.ref e)),calm:=false,xe:=W }
theorem Inv.inH (I:Inv X pins σ H s)(e:Addr)(W:Value->Shared->Prop):Inv (X.inH e W) pins σ H s :=
 ⟨⟨I.ok.mod,I.ok.kind,I.ok.glob,I.ok.blt,I.ok.above,I.ok.inj,I.ok.has,I.ok.cab,(fun z=>nomatch z),I.ok.frames,I.ok.stk,I.ok.exf,I.ok.bs,I.ok.bsz,I.ok.noex,I.ok.exfs,I.ok.funs,I.ok.frf⟩,I.os,I.bare,I.base,I.loc,I.cell,I.free,I.freeC,I.pin,I.hok,I.len⟩
theorem Inv.outH {e:Addr}{W:Value->Shared->Prop}(ok:X.Ok)(I:Inv (X.inH e W) pins σ H s):Inv X pins σ H s:=⟨ok,I.os,I.bare,I.base,I.loc,I.cell,I.free,I.freeC,I.pin,I.hok,I.len⟩
def XO (e C:Addr)(d:Option Addr):Heap->Prop:=fun h=>∃oe vs,h.get? e=some oe/\oe.cls=.ref C/\oe.dict=d/\oe.data=.fields vs
theorem xo_ok {P:Program}{w:World}{h:Heap}{e C:Addr}{d:Option Addr}(z:XO e C d h):ObjOk P w H h e (.ext (XO e C d)) :=
 ⟨z,let ⟨oe,_,h1,_⟩:=z; ⟨oe,h1⟩,fun h1 h2 ⟨oe,vs,a,b⟩ k=>⟨oe,vs,k _ a,b⟩⟩
theorem Zd {E':XK}{e0:Value}{s':Shared}{Ex:Value->Shared->Prop}{Q:Unit->Shared->Prop}(I:Inv X pins σ H s)(hstk:X.stack=X.env::X.outer)(hf:X.env.frame=some X.env.locals)(z:CXv X.prog X.w X.stack H s E' e0 s')
  (h:∀e C d T H' s'',e0=.ref e->H' e=none->X.s₀.heap.objs.size<=e->Inv X pins σ (upd H' e (.ext (XO e C d))) s''->XT s''.heap e C d T->upd H' e (.ext (XO e C d)) T=none->X.s₀.heap.objs.size<=T->(∀p∈X.pn++pins,p.1≠T)->T≠X.env.locals->(∀x c,X.env.cells.lookup x=some c->c≠T)->E' (.ref C) d H'->Q () s'') :
  wpAny (model X.prog X.w) X.A (noteFrame e0 X.env) (fun _ s2=>wpAny (model X.prog X.w) X.A (setFlight e0 none) Q Ex s2) Ex s':=by
 obtain⟨e,C,d,T,H',rfl,os,hb,u,hok,n1,n2,l1,l2,⟨⟨oe,vs,ho,hc,hd,hv,h1⟩,ne,⟨oT,ts,hT,hdT,h3⟩⟩,q⟩:=z;have I2:Inv X pins σ H' s':=I.call' (ch:=[]) os u hok hb fun _ z=>nomatch z;have hst:=I2.stack;have hfr:=I2.ok.frames;rw[hstk] at hst hfr;refine gO hfr hst hf ho hv h1 ne hT hdT h3 fun h' T' Z=>?_;have xt:XT h' e C d T':=rR Z.ne Z.exc hc hd hv (Am.mp h1).1 Z.ent
 have xo:XO e C d h':=by
  obtain⟨⟨oe',vs',a1,a2,a3,a4,_⟩,_⟩:=xt;exact⟨oe',vs',a1,a2,a3,a4⟩
 have le:∀b o,s.heap.get? b=some o->b≠e/\b≠T:=fun b o z=>⟨AM (AD (AF z) l1),AM (AD (AF z) l2)⟩;have fsE:∀b,b∈(X.env::X.outer).filterMap (·.frame)↔b∈frs X.stack:=fun b=>by rw[hstk]; exact Iff.rfl
 have un:Un (frs X.stack) [] H (upd H' e (.ext (XO e C d))) s.heap h':=by
  refine⟨fun b o q n nf _=>?_,fun b o q n nf _=>?_,fun b o q n _=>?_,fun b o q _=>?_,fun b xs q=>?_,fun b o u' q=>?_,fun b ps q=>?_⟩
  .exact Z.keep b o (le b o q).1 (le b o q).2 (fun z=>nf ((fsE b).1 z)) (u.keep b o q n nf (by simp))
  .obtain ⟨sl,q1⟩:=u.slot b o q n nf (by simp)
   obtain⟨sl',q2⟩:=Z.slot b _ (le b o q).1 (le b o q).2 ((fsE b).2 nf) q1;exact⟨sl',q2⟩
  .rw [wQ (le b o q).1]; exact u.free b o q n (by simp)
  .obtain ⟨o',q1⟩:=u.there b o q (by simp)
   by_cases hb:b∈(X.env::X.outer).filterMap (·.frame)
   .obtain ⟨sl,q2⟩:=Z.slot b o' (le b o q).1 (le b o q).2 hb q1
    exact⟨_,q2⟩
   .exact ⟨o',Z.keep b o' (le b o q).1 (le b o q).2 hb q1⟩
  .have q1:=u.tups b xs q
   rw[wQ (fun z=>by rw[z,n1] at q1; cases q1)]; exact q1
  .have q1:=u.frzs b o u' q
   rw[wQ (fun z=>by rw[z,n1] at q1; cases q1)]; exact q1
  .obtain ⟨m,q1⟩:=u.tbls b ps q
   exact⟨m,by rw[wQ (fun z=>by rw[z,n1] at q1; cases q1)]; exact q1⟩
 have hok2:HOk X.prog X.w (upd H' e (.ext (XO e C d))) h':=fun b o q=>by
  by_cases hbe:b=e
  .subst hbe; rw[vQ] at q; cases q; exact xo_ok xo
  .rw [wQ hbe] at q
   refine(hok b o q).stay (fun c v hc' hv'=>?_) (fun c z=>?_) fun c xs z=>?_
   .have hcs:∃w,H' c=some w:=by
     rcases hc' with rfl | hc'
     .exact ⟨_,q⟩
     .exact ⟨_,hc'⟩
    obtain⟨w,hw⟩:=hcs;refine Z.keep c v (fun z=>by rw[z,n1] at hw; cases hw) (fun z=>by rw[z,n2] at hw; cases hw) (fun z=>?_) hv';have:=I2.stkFree c ((fsE c).1 z);rw[this] at hw;cases hw
   .rw [wQ (fun y=>by rw[y,n1] at z; cases z)]; exact z
   .rw [wQ (fun y=>by rw[y,n1] at z; cases z)]; exact z
 have I3:Inv X pins σ (upd H' e (.ext (XO e C d))) { s' with heap:=h' }:=I.call' (ch:=[]) os un hok2 hb fun _ z=>nomatch z;have lT:s'.heap.objs.size<=T':=Z.new;refine h e C d T' H' _ rfl n1 (AO I.sz l1) I3 xt ?_ (AO I2.sz lT) (fun p hp=>?_) (fun z=>?_) (fun x c hc' z=>?_) q
 .rw [wQ Z.ne]; exact I2.hok.fresh lT
 .exact AM (AD (AF (I2.pin p hp).1) lT)
 .exact Bq (AD I2.lt lT) z
 .obtain ⟨v,o,ho',_⟩:=I2.cell x c hc'
  exact AM (AD (AF ho') lT) z
end
def Ends.gone (D:Ends)(j:Nat):Ends:=⟨fun σ H=>D.nx (σ.set j none) H,D.rt,fun σ H=>D.bk (σ.set j none) H,fun σ H=>D.ct (σ.set j none) H⟩
section
variable {X:Cx}{pins:List (Addr×Obj)}{σ:St}{H:Hp}{s:Shared}{x n:Str}{j:Nat}{V:Addr}{p pos:Pos}{b₀:Stmt}{suite:List Stmt}{rQ:List ExceptHandler}{ts:TS}{D:Ends}{e C T:Addr}{d:Option Addr}
theorem xo_type {M:Model}{h:Heap}(z:XO e C d h):Looks M h (typeOf (.ref e)) (.ref C):=by
 obtain⟨oe,vs,ho,hc,_⟩:=z;rw[<- hc];exact(Looks.ld ho).andThen .now
theorem Inv.xo (I:Inv X pins σ H s)(hx:H e=some (.ext (XO e C d))):XO e C d s.heap:=(I.hok e _ hx).1
theorem Xz (I:Inv X pins σ H s)(hx:H e=some (.ext (XO e C d)))(xt:XT s.heap e C d T)(hT:H T=none)(lT:X.s₀.heap.objs.size<=T)(pT:∀p∈X.pn++pins,p.1≠T)(nT:T≠X.env.locals)(cT:∀x c,X.env.cells.lookup x=some c->c≠T)
  (hg:Gl X x) (hm:X.mg x=some (.ref V)) (hxm:exmOne X.K (.ref C) (.ref V)=some true) (hN:X.N.Nodup) (hj:X.N[j]?=some n) (hk:X.env.scope.names.lookup n=some .local)
  (hs:PSs (X.inH e fun _ _=>False) (b₀::suite) ts) (h:ts (D.gone j) (σ.set j (some (.ref e))) H) (hdb:(x==("__debug__" : Str))=false) :
  wpAny (model X.prog X.w) X.A (handleBy (.ref e) X.env (.ExceptHandler (some (.Name x p)) (some n) (b₀::suite) pos::rQ)) (SP X pins D) X.xe s:=by
 have J:Inv (X.inH e fun _ _=>False) pins σ H s:=I.inH e _;refine wpAny_handleBy_cons (codeAny_handlers_test (iZ (X:=X.inH e fun _ _=>False) J hg hm ?_ hdb)) (by intro q; cases q);refine(exm_one I.kIn (xo_type (I.xo hx)) hxm).here ?_;show codeAny _ _ _ _ _;obtain⟨⟨oe,vs,ho,hc,hd,hv,h1⟩,ne,⟨oT,tvs,hoT,hdT,h3⟩⟩:=xt;refine codeAny_handlers_suite_as (wpAny_setFlight_none ho hv h1 hoT hdT (Am.mp h3).1 ?_)
 have J2:Inv (X.inH e fun _ _=>False) pins σ H { s with heap:=s.heap.update T (Obj.mapFields (·.setIfInBounds 3 .none)) }:=J.turned (t':=s.toks) (it:=T) (fun b o hb q=>(AY _ _ (Ne.symm hb)).trans q) hT nT (.inr lT) cT pT;refine lV (X:=X.inH e fun _ _=>False) (v:=.ref e) J2 hN hj (.inl hk) rfl (fun s2 J3=>?_) (.inr hk);refine Aj (hs pins s2 _ H _ J3 h) (fun f s3 q=>?_) fun _ _ z=>z.elim
 cases f with
 |next =>
  obtain⟨σ',H',J4,q4⟩:=q;exact aJ (J4.outH I.ok) hN hj hk fun s5 I5=>⟨_,_,I5,q4⟩
 |brk =>
  obtain⟨σ',H',J4,q4⟩:=q;exact aJ (J4.outH I.ok) hN hj hk fun s5 I5=>⟨_,_,I5,q4⟩
 |cont =>
  obtain⟨σ',H',J4,q4⟩:=q;exact aJ (J4.outH I.ok) hN hj hk fun s5 I5=>⟨_,_,I5,q4⟩
 |ret u =>
  obtain⟨v,σ',H',J4,r4,q4⟩:=q;exact aJ (J4.outH I.ok) hN hj hk fun s5 I5=>⟨v,_,_,I5,r4,q4⟩
def XTake (K:CU)(V:Addr)(n:Nat)(j:Nat)(ts:TS)(D:Ends)(σ:St):XK:=fun c d H'=>∃C,c=.ref C/\exmOne K (.ref C) (.ref V)=some true/\∀e,H' e=none->n<=e->ts (D.gone j) (σ.set j (some (.ref e))) (upd H' e (.ext (XO e C d)))
theorem take_x {e0:Value}{s':Shared}(I:Inv X pins σ H s)(hstk:X.stack=X.env::X.outer)(hf:X.env.frame=some X.env.locals)(hg:Gl X x)(hm:X.mg x=some (.ref V))(hN:X.N.Nodup)(hj:X.N[j]?=some n)(hk:X.env.scope.names.lookup n=some .local)
  (hs:∀e,PSs (X.inH e fun _ _=>False) (b₀::suite) ts) (hdb:(x==("__debug__" : Str))=false) (z:CXv X.prog X.w X.stack H s (XTake X.K V X.s₀.heap.objs.size j ts D σ) e0 s') :
  wpAny (model X.prog X.w) X.A (noteFrame e0 X.env) (fun _ s2=>wpAny (model X.prog X.w) X.A (setFlight e0 none) (fun _ s3=>wpAny (model X.prog X.w) X.A (handleBy e0 X.env (.ExceptHandler (some (.Name x p)) (some n) (b₀::suite) pos::rQ)) (SP X pins D) X.xe s3) X.xe s2) X.xe s':=by
 refine Zd I hstk hf z fun e C d T H' s'' he hn le I2 xt nT lT pT nL cT q=>?_;subst he;obtain⟨C',hc,hxm,q⟩:=q;obtain rfl:C=C':=by injection hc
 exact Xz I2 vQ xt nT lT pT nL cT hg hm hxm hN hj hk (hs e) (q e hn le) hdb
end
section
variable {X:Cx}{k:Nat}{f V:Addr}{fd:FuncData}{ps:List Str}{sp:Sp}{ds:List Value}{fn x n y:Str}{p p1 p2 p3 pos apos hpos tpos:Pos}{e:Expr}{es:List Expr}{t:TA}{i j:Nat}{b₀:Stmt}{suite:List Stmt}{ts:TS}
def sTry0 (K:CU)(V:Addr)(n j:Nat)(sp:Sp)(dvs:List L2.V)(t:TA)(ts:TS):TS:=fun D σ H=>t σ H fun vs H1=>sp (vs++dvs) H1 (fun v H2=>D.nx σ H2) (XTake K V n j ts D σ)
end
end L2
namespace PySem.W
open PySem PySem.Calls PyProof.Rows Builtin
theorem pD:Slot "ValueError" "__getattribute__" "BaseException.__getattribute__" :=
 .of (owner:="BaseException") (n:="__getattribute__") (by rw[typeLookup_type,builtinLookup_eq_fast]; kernel_rfl) (by decide +kernel) (by decide +kernel) (by decide +kernel)
  (by first | exact .inl (by decide +kernel) | exact .inr (by decide +kernel)) (by rw[isSubtype_type]; kernel_rfl)
structure XGet (K:Frag)(C:Addr):Prop where
 ga:findIn K (.ref C) "__getattribute__" = some (some (.builtin "BaseException.__getattribute__"))
 gh:findIn K (.ref C) "__getattr__" = some none
 be:mroIn K C (.type "BaseException")=some true
 hd:hasDictIn K C=true
section
variable {prog:Program}{w:World}{A:Around}{E:Value->Shared->Prop}{s:Shared}{K:Frag}{x C:Addr}{ox:Obj}{od:Option Obj}{name:Str}{tk:Tok}
theorem xga {Q:Value->Shared->Prop}{fill expr:Bool}(G:XGet K C)(X:K.In s.heap)(I:InstAt s.heap x ox C od)
  (h:wpAny (model prog w) A.in1 (Builtin.«object.__getattribute__» ⟨[.ref x,.str name tk],[]⟩) (fun fin s'=>match fin with | .done (.ret v)=>wpAny (model prog w) A (handedOut v) Q E s' | _=>False) (fun _ _=>False) s) :
  wpAny (model prog w) A (getAttrBy (.ref x) (.str name tk) fill expr) Q E s:=by
 have L0:=I.type (M:=model prog w);have L1:=B1 (M:=model prog w) X G.ga;have L2:=B1 (M:=model prog w) X G.gh;have LB:Looks (model prog w) s.heap (isInstance (.ref x) (.type "BaseException")) true:=I.type.andThen (Bm X G.be);have hx2:(Value.builtin "BaseException.__getattribute__" == Value.builtin "object.__getattribute__")=false:=by decide +kernel
 have hx0:(expr&&onTheHeap (Value.builtin "BaseException.__getattribute__"))=false:=by cases expr<;>rfl
 have hk:builtinKind "BaseException.__getattribute__" = some .slot:=by decide +kernel
 have hsp:splitId "BaseException.__getattribute__" = some ("BaseException","__getattribute__"):=by decide +kernel
 unfold getAttrBy;refine An (AA (L0.here (AA (L1.here ?_))));show wpAny _ _ (if (true&&(Value.builtin "BaseException.__getattribute__" == Value.builtin "object.__getattribute__"))=true then getAttrEveryday (.ref x) (.str name tk) fill else getAttrByItsOwn (.ref x) (.str name tk) (.ref C) (.builtin "BaseException.__getattribute__") fill expr) _ _ _;rw[hx2];show wpAny _ _ (getAttrByItsOwn (.ref x) (.str name tk) (.ref C) (.builtin "BaseException.__getattribute__") fill expr) _ _ _
 refine AA (m:=hookBefore (.ref C)) (L2.here (AA (wpAny_attempt (An ?_))));have e1:callGetattribute (.ref x) (.str name tk) (.builtin "BaseException.__getattribute__") expr=boundAndCalled (.builtin "BaseException.__getattribute__") (.ref x) (.str name tk):=by cases expr<;>rfl
 rw[e1];refine AA (wpAny_of_eq (pD.bind _) ?_);show wpAny _ _ (call (.builtin "BaseException.__getattribute__") [.ref x,.str name tk]) _ _ _;refine A6 ?_;refine Bn pD.plain F.entry_bexc_ga ?_;refine @check_slot (model prog w) _ _ s "BaseException.__getattribute__" "BaseException" "__getattribute__" (.ref x) [.str name tk] [] _ hk hsp LB (F.args_bexc_ga (.ref x) (.str name tk)) ?_
 refine Aj h (fun fin s' z=>?_) fun _ _ z=>z.elim
 cases fin with
 |again c=>exact False.elim z
 |done fl =>
  cases fl with
  |ret v=>exact z
  |next=>exact False.elim z
  |brk=>exact False.elim z
  |cont=>exact False.elim z
theorem QC {Q:Value->Shared->Prop}{expr:Bool}{o:Obj}{v:Value}(G:XGet K C)(X:K.In s.heap)(I:InstAt s.heap x ox C (some o))(ha:findIn K (.ref C) name=some none)(hl:lookIn name o=some (some v))(hv:handedIn v=true)
  (h:Q v { s with toks:=s.toks+1 }):wpAny (model prog w) A (getAttr (.ref x) name expr) Q E s:=by
 have hf:=findObj_own G.hd ha rfl hl;obtain⟨hh,gg,d,t,os⟩:=s;have L0:=I.type (M:=model prog w);have L1:=looks_find (M:=model prog w) X I hf;unfold getAttr;refine AA (wpAny_mkText (xga (s:=⟨hh,gg,d,t+1,os⟩) G X I ?_));unfold Builtin.«object.__getattribute__»;refine AA (AB (AA (AB (AA (As (s:=⟨hh,gg,d,t+1,os⟩) L0 (AA (As (s:=⟨hh,gg,d,t+1,os⟩) L1 ?_)))))))
 exact AB (handed_on hv h)
theorem nR {Q:Option Value->Shared->Prop}{o:Obj}(G:XGet K C)(X:K.In s.heap)(I:InstAt s.heap x ox C (some o))(ha:findIn K (.ref C) "__class__" = some (some (.builtin "object.__class__")))
  (hn:specialIn K (.builtin "object.__class__") "__get__" = some (some (.builtin "getset_descriptor.__get__"))) (htk:takesIn K (.builtin "object.__class__")=some true) (hm:mroIn K C (.type "object")=some true)
  (h:Q (some (.ref C)) { s with toks:=s.toks+1 }):wpAny (model prog w) A (getAttr? (.ref x) "__class__") Q E s:=by
 have hf:findObj K C (some o) "__class__" = some (.bind (.builtin "getset_descriptor.__get__") (.builtin "object.__class__")):=findObj_data (by obtain⟨cd,hc,_⟩:=any_some G.hd; rw[hc]; rfl) ha hn htk;obtain⟨hh,gg,d,t,os⟩:=s;have L0:=I.type (M:=model prog w);have L1:=looks_find (M:=model prog w) X I hf;unfold getAttr? getAttrBy?;refine AA (wpAny_mkText (AA (wpAny_attempt (xga (s:=⟨hh,gg,d,t+1,os⟩) G X I ?_))))
 unfold Builtin.«object.__getattribute__»;refine AA (AB (AA (AB (AA (As (s:=⟨hh,gg,d,t+1,os⟩) L0 (AA (As (s:=⟨hh,gg,d,t+1,os⟩) L1 ?_)))))));show wpAny _ _ (holding [_] (call _ [_,_,_]) >>= ret) _ _ _;refine AA (An (A6 (class_get (s:=⟨hh,gg,d,t+1,os⟩) X I hm ?_)));exact AB (handed_on rfl (AB h))
end
end PySem.W
namespace L2
open PySem PySem.Spec PySem.W
open PyProof.Rows hiding St
structure jB (K:Frag)(C:Addr):Prop extends XGet K C where
 ca:findIn K (.ref C) "__class__" = some (some (.builtin "object.__class__"))
 cg:specialIn K (.builtin "object.__class__") "__get__" = some (some (.builtin "getset_descriptor.__get__"))
 tk:takesIn K (.builtin "object.__class__")=some true
 ob:mroIn K C (.type "object")=some true
theorem kitx_x {K:Frag}{x C:Addr}{ox od:Obj}(c:jB K C):KitX K (.ref x) (.ref C) (fun h=>InstAt h x ox C (some od)) where
 ty:=fun _ _ _ I=>I.type
 it:=fun _ _ X _=>by
  obtain⟨cdD,hcD,_⟩:=any_some c.hd;unfold clsIn at hcD
  split at hcD
  .rename_i c' d' cd' sl' ho
   intro A' Q' E' s' k q;unfold isType loadHead;exact AA (Bc (k _ _ (X _ _ ho)) (AB q))
  .cases hcD
 ne:=fun h tp dd its n sl X htp=>by
  obtain⟨cdD,hcD,_⟩:=any_some c.hd;refine Bool.eq_false_iff.mpr fun q=>?_;have e:C=tp:=Value.ref.inj (BK.mp q);subst e;unfold clsIn at hcD
  split at hcD
  .rename_i c' d' cd' sl' ho
   have z:=(X _ _ ho).symm.trans htp;cases z
  .cases hcD
 ca:=fun X I k=>nR c.toXGet X I c.ca c.cg c.tk c.ob k
structure XAt (H:Hp)(e C:Addr)(fs:List (Str×V)):Prop where
 at_:∃d,H e=some (.ext (XO e C (some d)))/\H d=some (.ext (XD d fs))
section
variable {X:Cx}{pins:List (Addr×Obj)}{σ:St}{H:Hp}{s:Shared}{e C:Addr}{fs:List (Str×V)}
theorem Inv.xinst (I:Inv X pins σ H s)(h:XAt H e C fs):∃(ox od:Obj) (mA:Str->Option Value),InstAt s.heap e ox C (some od)/\(∀f,lookIn f od=some (mA f))/\∀f,RelO (fs.lookup f) (mA f):=by
 obtain⟨d,h1,h2⟩:=h.at_;obtain⟨oe,vs,a1,a2,a3,a4⟩:=I.xo h1;obtain⟨mA,n,r,_⟩:=(I.hok d _ h2).1;obtain⟨od,b1,b2⟩:=aD n;refine⟨oe,od,mA,⟨a1,a2,?_,?_⟩,b2,r⟩
 .unfold notCls
  rw[a4]
 .rw [a3]; exact b1
def bT (K:Frag)(ta:TE)(f:Str):TE:=fun σ H Q=>ta σ H fun x H1=>∃e C fs v,x=.ref e/\XAt H1 e C fs/\XGet K C/\findIn K (.ref C) f=some none/\fs.lookup f=some v/\Q v H1
theorem pe_xfld {ex:Expr}{ta:TE}{f:Str}{pos:Pos}(he:PE X ex ta)(hb:attributeBase ex f X.env (eval ex X.env)=eval ex X.env):PE X (.Attribute ex f pos) (bT X.K ta f):=by
 intro pins s σ H Q I h;refine lE hb (thn (he pins s σ H _ I h) fun u s1 ⟨x,H1,I1,rx,e,C,fs,v,ex',hx,hg,hn,hl,q⟩=>?_);subst ex';obtain rfl:u=Value.ref e:=rx;obtain⟨ox,od,mA,J,hlk,hr⟩:=I1.xinst hx;obtain⟨u,hu,ru⟩:=RelO.some_of (v:=v) (o:=mA f) (by rw[<- hl]; exact hr f);exact QC hg I1.kIn J hn (by rw[hlk,hu]) (uL ru) ⟨v,H1,I1.tok _,ru,q⟩
end
end L2
namespace CL
open PySem PySem.Spec L2
open PyProof.Rows hiding St
mutual
inductive Sh:Nat->Nat->PV->Prop
 |non {d:Nat}:Sh d 4 .non
 |int {d:Nat} {i:Int} (h:i.natAbs<=1000000000000):Sh d 14 (.int i)
 |tup {d n:Nat} {ts:List PV} (h:Shs d n ts):Sh (d+1) (n+3) (.tup ts)
inductive Shs:Nat->Nat->List PV->Prop
 |nil {d:Nat}:Shs d 0 []
 |cons {d n m:Nat} {t:PV} {ts:List PV} (h:Sh d n t) (r:Shs d m ts):Shs d (n+m+2) (t::ts)
end
section
variable {K:CU}{H:Hp}
mutual
theorem Sh.one {d n:Nat}{t:PV}:Sh d n t->∀{d' n':Nat}{v:V}{t':PV},Rep K H v t->Sh d' n' t'->Rep K H v t'->n=n'
 |.non,_,_,_,_,.non,.non,.non=>rfl
 |.int _,_,_,_,_,.int _,.int _,.int _=>rfl
 |.tup s,_,_,_,_,.tup e r,.tup s',.tup e' r'=>by
  rw[e] at e';cases e';rw[s.one r s' r']
theorem Shs.one {d n:Nat}{ts:List PV}:Shs d n ts->∀{d' n':Nat}{vs:List V}{ts':List PV},Reps K H vs ts->Shs d' n' ts'->Reps K H vs ts'->n=n'
 |.nil,_,_,_,_,.nil,.nil,.nil=>rfl
 |.cons s q,_,_,_,_,.cons h r,.cons s' q',.cons h' r'=>by rw[s.one h s' h',q.one r q' r']
end
theorem gD (xs:List Str):(tupleText xs).length<=piled xs+3:=by
 unfold tupleText;rw[strLen_append,strLen_append];have e1:((("(" : String):Str)).length=1:=rfl;have e3:(((if xs.length==1 then ",)" else ")" : String):Str)).length<=2:=by split<;>decide
 rw[e1]
 by_cases h:xs=[]
 .subst h
  have:(Str.join ", " []).length=0:=rfl;rw[this]; omega
 .have:=join_length_add xs h
  omega
def Ins (K:CU)(H:Hp)(as:List Addr)(n:Nat):Prop:=∀b∈as,∃d' n' t',Sh d' n' t'/\Rep K H (.ref b) t'/\n'<=n
mutual
theorem Sh.shown {P:Program}{w:World}{h:Heap}(ok:HOk P w H h):∀{d n:Nat}{t:PV},Sh d n t->∀{v:V}{u:Value},Rep K H v t->RelV v u->∃as x,ReprK P w as h d u x/\x.length<=n/\Ins K H as n
 |_,_,_,.non,_,u,.non,r=>by
  cases (show u=Value.none from r);exact⟨[],_,.of_is .none [] h _,by decide,fun _ z=>nomatch z⟩
 |_,_,_,.int (i:=i) hi,_,u,.int _,r=>by
  obtain⟨tk,rfl⟩:=(show ∃tk,u=Value.int i tk from r)
  have hd:i.natAbs.log2 < 1920:=by
   by_cases h0:i.natAbs=0
   .rw [h0]; decide
   .rw [Nat.log2_lt h0]
    exact A9 hi (AD (show 1000000000000 < 2 ^ 40 by decide) (CN (by decide) (by decide)))
  exact⟨[],_,.of_is (.int tk hd) [] h _,txI_len hi,fun _ z=>nomatch z⟩
 |_,_,_,.tup (d:=d) (n:=n) (ts:=ts) s,_,u,.tup (a:=a) (vs:=vs) e rs,r=>by
  cases (show u=Value.ref a from r);obtain⟨_,its,rv,o,h1,h2,⟨m,h3⟩,_⟩:=(show ObjOk P w H h a (.tup vs) from ok a _ e);obtain⟨as,xs,k,hl,hi⟩:=s.shown ok rs rv
  have hna:a∉as:=fun z=>by
   obtain⟨d',n',t',s',r',hn⟩:=hi a z;have:=(Sh.tup s).one (.tup e rs) s' r';omega
  refine⟨a::as,_,ReprK.tuple h1 h2 h3 hna (by simpa using k),AO (gD xs) (by omega),fun b hb=>?_⟩
  rcases Ag.mp hb with rfl | hb
  .exact ⟨_,_,_,.tup s,.tup e rs,AI _⟩
  .obtain ⟨d',n',t',s',r',hn⟩:=hi b hb
   exact⟨d',n',t',s',r',by omega⟩
theorem Shs.shown {P:Program}{w:World}{h:Heap}(ok:HOk P w H h):∀{d n:Nat}{ts:List PV},Shs d n ts->∀{vs:List V}{us:List Value},Reps K H vs ts->Vals vs us->∃as xs,ReprAllK P w as h d us xs/\piled xs<=n/\Ins K H as n
 |_,_,_,.nil,_,_,.nil,.nil=>⟨[],[],.nil,AI _,fun _ z=>nomatch z⟩
 |_,_,_,.cons s q,_,_,.cons h' r,.cons rv rvs=>by
  obtain⟨as,x,k,hl,hi⟩:=s.shown ok h' rv;obtain⟨bs,xs,k',hl',hi'⟩:=q.shown ok r rvs;refine⟨as++bs,x::xs,.cons (k.more fun b hb=>CP _ hb) (k'.more_le (fun b hb=>Ac _ hb) (AI _)),by rw[piled_cons]; omega,fun b hb=>?_⟩
  rcases List.mem_append.mp hb with hb | hb
  .obtain ⟨d',n',t',s',r',hn⟩:=hi b hb
   exact⟨d',n',t',s',r',by omega⟩
  .obtain ⟨d',n',t',s',r',hn⟩:=hi' b hb
   exact⟨d',n',t',s',r',by omega⟩
end
end
theorem pf_repr {X:Cx}{x:Str}{p pos:Pos}{te:TE}{N:Nat}(he:PE X (.Name x p) te)(hg:X.A.guards=some [])(hu:X.A.units+8 < cLine)(hN:N<=sizeLine):
  PF X (.FormattedValue (.Name x p) 114 none pos) (fun σ H=>te σ H fun v H'=>H'=H/\∃d n ts,Rep X.K H v (.tup ts)/\Sh d n (.tup ts)/\d<=7/\n<=N) N:=fun pins s σ H I h=>by
 refine wpAny_FormattedValue_repr (thn (he pins s σ H _ I h) fun u s1 ⟨v,H1,I1,r,eH,d,n,ts,rt,sh,hd,hn⟩=>?_);subst eH
 cases rt with
 |@tup a vs _ e rs =>
  cases (show u=Value.ref a from r)
  cases sh with
  |@tup d n _ s' =>
  obtain⟨_,its,rv,o,h1,h2,⟨m,h3⟩,_⟩:=(show ObjOk X.prog X.w _ s1.heap a (.tup vs) from I1.hok a _ e);obtain⟨as,xs,k,hl,hi⟩:=s'.shown I1.hok rs rv
  have hna:a∉as:=fun z=>by
   obtain⟨d',n',t',s'',r',hn⟩:=hi a z;have:=(Sh.tup s').one (.tup e rs) s'' r';omega
  have hlen:=gD xs;refine wpAny_pyReprObj_tupleK h1 h2 h3 hna (by simpa using k) hg (fun b _=>Clear.nil b) (by omega) (fun _ _ z=>z) (fun h' u tk hk=>?_) (by omega);exact PyProof.Rows.formatField_str (fun t' tk'=>⟨_,_,rfl,by omega,I1.kept hk⟩) (by omega)
end CL
namespace L2
open PySem PySem.Spec PySem.W
open PyProof.Rows hiding St
section
variable {P:Program}{w:World}{K:CU}{mg:Str->Option Value}{base:Heap}
theorem Room.u8 {k:Nat}{A:Around}(r:Room k A):A.units+8 < cLine:=by
 have:=r.un;omega
theorem Fun.okX {x qual:Str}{st:Stmt}{f:Addr}{fd:FuncData}{N ps:List Str}{k:Nat}{sp:Sp}(F:Fun K x qual st f fd)(S:FnScope N ps (dQ st))(len:∀vs H Q E,sp vs H Q E->vs.length=ps.length)
  (hbody:∀(cdv:Value) (A:Around) (outer:List Env) (s:Shared) (H:Hp) (vs:List V) (Q:VK) (E:XK),Room k (A.deeper (envOfC qual (dQ st) s.heap.objs.size f cdv))->sp vs H Q E ->
   ∃t,PSs (bX (CXv P w) P w K mg base N qual (dQ st) f cdv A outer s H E) (yZ st) t/\t { nx:=fun _ H'=>Q .non H',rt:=Q } (start N vs) H):eX P w K mg base (CXv P w) (k+1) f fd ps sp:=by
 obtain⟨oc,od,kV,doc,pm,an,cdv,ct,osl,rfl,lk,hcd⟩:=F.ex;exact fn_of lk hcd S len fun A outer s H vs Q E hr hsp=>hbody cdv A outer s H vs Q E hr hsp
theorem uN {H:Hp}{e d:Addr}{a b o:HO}(he:H e=none)(hd:d≠e):unt (upd (upd (upd H e a) d o) e b) e=upd H d o:=by
 funext c
 by_cases h:c=e
 .subst h; rw[cJ,wQ (Ne.symm hd),he]
 .rw [eK h,wQ h]
  by_cases h':c=d
  .subst h'; rw[vQ,vQ]
  .rw [wQ h',wQ h',wQ h]
def spI (K:Frag)(C:Addr)(f:Str)(M:Nat):Sp:=fun vs H Q _=>∃e v dd n ts,vs=[.ref e,v]/\H e=some (.ext (XB e C none))/\CL.Rep K H v (.tup ts)/\CL.Sh dd n (.tup ts)/\dd<=7/\n<=M /\
 ∀d,H d=none->d≠e->Q .non (upd (upd H d (.ext (XD d [(f,v)]))) e (.ext (XB e C (some d))))
variable {N:List Str}{qual:Str}{scope:Scope}{g C f0:Addr}{cd:Value}{A:Around}{outer:List Env}{s:Shared}{H:Hp}{E:XK}
end
end L2
namespace L2
open PySem PySem.Spec PySem.W
section
variable {K:Frag}{C D:Addr}{t c:Value}{T:String}{b:Bool}{r:List Value}
theorem sM (m:kitMeta T=true)(h:subIn K t (.type T)=some b):kitCls K t (.type T)=some b:=by
 show(if kitMeta T=true then subIn K t (.type T) else none)=some b;rw[AV m]; exact h
theorem aQ (h1:(clsIn K D).isSome=true)(h2:typeIn K (.ref D)=some (.type "type"))(h:subIn K t (.ref D)=some b):kitCls K t (.ref D)=some b:=by
 show(if ((clsIn K D).isSome&&typeIn K (.ref D)==some (.type "type"))=true then subIn K t (.ref D) else none)=some b;rw[AV (by rw[h1,h2]; rfl)]; exact h
theorem lX (n:(t==c)=false)(h:kitCls K t c=some b):kitOne K t c=some b:=by
 unfold kitOne; rw[n,AR AE]; exact h
theorem mC (n:(t==c)=true):kitOne K t c=some true:=by
 unfold kitOne; rw[AV n]
theorem jR (h:subIn K c (.type "BaseException")=some true)(g:kitCls K t c=some b):exmOne K t c=some b:=by
 unfold exmOne; rw[h]; exact g
end
end L2
namespace CL
open PySem PySem.Spec L2
open PyProof.Rows hiding St
theorem bB {X:Cx}{ex:Expr}{ta:TE}{f:Str}{pos:Pos}(K:CU)(he:JE X ex ta)(hK:X.K=K:=by rfl)(hb:attributeBase ex f X.env (eval ex X.env)=eval ex X.env:=by rfl):JE X (.Attribute ex f pos) (bT K ta f):=by
 subst hK;exact⟨pe_xfld he.h hb⟩
theorem dZ {X:Cx}{st:Stmt}{t:TS}(h:PS X.nox st t):PS X st t:=fun pins s σ H D I hw =>
 Aj (h pins s σ H D (I.wish _) hw) (fun _ _ q=>q.unwish) fun _ _ z=>False.elim z
abbrev XC:=Addr->List (Str×PV)->CH->Prop
abbrev GX:=List PV->CH->K1->XC->Prop
section
variable {K:CU}{H:Hp}{C:CH}{σ:St}{ρ:CSt}{D:Ends}{c:TCS}{u:TS}
theorem sN (s:SRel K H σ ρ)(h:HRel K H C)(k:CSt->CH->Prop)(q:c { nx:=k,rt:=fun _ _=>False } ρ C)
  (nx:∀σ' H' ρ' C',k ρ' C'->SRel K H' σ' ρ'->HRel K H' C'->Fw H C H' C'->u D σ' H'):tSeq (rM K c) u D σ H :=
 ⟨ρ,C,_,s,h,q,⟨nx,fun _ _ _ _ z=>z.elim,fun _ _ _ _ z=>z.elim,fun _ _ _ _ z=>z.elim⟩⟩
theorem retX (s:SRel K H σ ρ)(h:HRel K H C)(R:K1)(q:c { nx:=fun _ _=>False,rt:=R } ρ C)
  (rt:∀v H' t C',R t C'->Rep K H' v t->HRel K H' C'->Fw H C H' C'->D.rt v H'):rM K c D σ H :=
 ⟨ρ,C,_,s,h,q,⟨fun _ _ _ _ z=>z.elim,rt,fun _ _ _ _ z=>z.elim,fun _ _ _ _ z=>z.elim⟩⟩
end
end CL
namespace CL
open PySem PySem.Spec L2 PySem.W
open PyProof.Rows hiding St
section
variable {X:Cx}
def prsPt:List PV->Option (List (Zq×PV))
 |[]=>some []
 |.tup [k,v]::r=>match qC k,prsPt r with
  |some k,some ps=>some ((k,v)::ps)
  |_,_=>none
 |_=>none
@[irreducible] def cDictPt:GC:=fun ts C Q=>match ts with
 |[.tup xs]=>match prsPt xs with
  |some ps=>ps.length<=sizeLine/\∀p,C p=none->Q (.ref p) (jQ C p (.dP (dS [] ps)))
  |none=>False
 |_=>False
end
end CL
namespace L2
open PySem PySem.W PySem.Spec PyProof.Rows
abbrev Adrs:=List (List (List Key))
end L2
namespace CL
open PySem PySem.Spec L2 PySem.W
open PyProof.Rows hiding St
section
variable {X:Cx}{a b c e o i f value:Expr}{es:List Expr}{pos pos':Pos}
def aksOf:List PV->Option Adrs
 |[]=>some []
 |t::r=>match qC t,aksOf r with
  |some k,some ks=>some (k::ks)
  |_,_=>none
def akOf:PV->Option Adrs
 |.tup ts=>aksOf ts
 |_=>none
@[irreducible] def cAIx:R2C:=fun x y C Q=>match x with
 |.ref a=>match C a,akOf y with
  |some (.dA kvs),some k=>match tF kvs k with
   |some v=>Q v C
   |none=>False
  |_,_=>False
 |_=>False
@[irreducible] def cAIn:R2C:=fun y x C Q=>match x with
 |.ref a=>match C a,akOf y with
  |some (.dA kvs),some k=>Q (.bl (tF kvs k).isSome) C
  |_,_=>False
 |_=>False
@[irreducible] def cPutA:PV->PV->PV->CH->(CH->Prop)->Prop:=fun x y v C Q=>match x with
 |.ref a=>match C a,akOf y with
  |some (.dA kvs),some k=>kvs.length < sizeLine/\Q (jQ C a (.dA (putG kvs k v)))
  |_,_=>False
 |_=>False
end
section
variable {X:Cx}{a b c e o i f value:Expr}{es:List Expr}{pos pos':Pos}
@[irreducible] def cRevT:PV->CH->K1->Prop:=fun x C Q=>match x with
 |.tup xs=>∀p,C p=none->Q (.ref p) (jQ C p (.lst xs.reverse))
 |_=>False
end
def fH (S:CH->Prop)(n:Nat)(t:TCT)(c:TCE)(ρ:CSt)(Q:K1):List PV->List PV->CH->Prop
 |[],acc,C=>S C/\∀p,C p=none->Q (.ref p) (jQ C p (.lst acc))
 |x::r,acc,C=>S C/\∃ts,x=.tup ts/\ts.length=n/\t (ts.map some++ρ) C fun b C1=>if b=true then c (ts.map some++ρ) C1 fun y C2=>acc.length < sizeLine/\fH S n t c ρ Q r (acc++[y]) C2 else fH S n t c ρ Q r acc C1
section
variable {X:Cx}{pos:Pos}
@[irreducible] def cCompL2 (ce:TCE)(t:TCT)(c:TCE):TCE:=fun ρ C Q=>ce ρ C fun x C1=>match x with
 |.ref a=>match C1 a with
  |some (.lst xs)=>fH (fun C=>C a=some (.lst xs)) 2 t c ρ Q xs [] C1
  |_=>False
 |_=>False
end
end CL
namespace L2
open PySem PySem.Spec PySem.W
open PyProof.Rows hiding St
theorem nZ {X:Cx}{es:List Expr}{t:TA}(h:PA X.nox es t):PA X es t:=fun pos pins s σ H Q I hw =>
 Aj (h pos pins s σ H Q (I.wish _) hw) (fun _ _ ⟨vs,H',I',r,q⟩=>⟨vs,H',I'.unwish,r,q⟩) fun _ _ z=>False.elim z
theorem gJ {X:Cx}{e:Expr}{t:TE}(h:PE X.nox e t):PE X e t:=fun pins s σ H Q I hw =>
 Aj (h pins s σ H Q (I.wish _) hw) (fun _ _ ⟨v,H',I',r,q⟩=>⟨v,H',I'.unwish,r,q⟩) fun _ _ z=>False.elim z
section
variable {P:Program}{w:World}{K:CU}{mg:Str->Option Value}{base:Heap}
def spN (C:Addr)(fs:List Str):Sp:=fun vs H Q _=>∃e,∃is:List Int,vs=.ref e::is.map V.int/\is.length=fs.length/\(∀i∈is,i.natAbs<=1000000000000)/\H e=some (.ext (XB e C none)) /\
 ∀d,H d=none->d≠e->Q .non (upd (upd H d (.ext (XD d (fs.zip (is.map V.int))))) e (.ext (XB e C (some d))))
def xW (C:Addr)(E:XK):Addr->Hp->Prop:=fun e H2=>∃d,H2 e=some (.ext (XB e C d))/\E (.ref C) d (unt H2 e)
def eT (n:Nat)(C:Addr)(fs:List Str)(E:XK)(t:TA):TS:=xP n (tXMk C n (spN C fs) E0 t) C (xW C E)
variable {N:List Str}{qual:Str}{scope:Scope}{g C f0:Addr}{cd:Value}{A:Around}{outer:List Env}{s:Shared}{H:Hp}{E:XK}
theorem fJ {k:Nat}{fd:FuncData}{ps:List Str}{x:Str}{fs:List Str}{e:Expr}{es:List Expr}{t:TA}{p pos pos':Pos}(Mi:XMi K C f0)(ht:∃oc od cd sl,K.lookup C=some ⟨oc,od,.cls cd,sl⟩/\oc=.type "type")
  (F:eX P w K mg base CX0 k f0 fd ps (spN C fs)) (hr:Room (k+1) (bX (CXv P w) P w K mg base N qual scope g cd A outer s H E).A) (hg:Gl (bX (CXv P w) P w K mg base N qual scope g cd A outer s H E) x) (hm:mg x=some (.ref C)) (hb:Binds K fd ps [])
  (ha:PA (bX (CXv P w) P w K mg base N qual scope g cd A outer s H E) (e::es) t) (hdb:(x==("__debug__" : Str))=false:=by decide)
  (he:starEach (e::es) (bX (CXv P w) P w K mg base N qual scope g cd A outer s H E).env=(false,eval e (bX (CXv P w) P w K mg base N qual scope g cd A outer s H E).env)::starEach es (bX (CXv P w) P w K mg base N qual scope g cd A outer s H E).env:=by rfl)
  (hpl:(backTo pos (starEach es (bX (CXv P w) P w K mg base N qual scope g cd A outer s H E).env)).any (·.1)=false:=by rfl) :
  PS (bX (CXv P w) P w K mg base N qual scope g cd A outer s H E) (.Raise (some (.Call (.Name x p) (e::es) [] pos)) none pos') (eT s.heap.objs.size C fs E t):=by
 have W:lH (bX (CXv P w) P w K mg base N qual scope g cd A outer s H E) (xW C E):=fun pins σ s1 e H2 I hs ⟨d,h1,h2⟩=>sR I h1 hs h2;exact vM (pos:=pos') (C:=C) Mi.xm ht rfl W (xC (X:=bX (CXv P w) P w K mg base N qual scope g cd A outer s H E) (E:=E0) (p:=p) (pos:=pos) Mi F hr hg hm hb gM ha hdb he hpl)
structure XM0 (K:CU)(C:Addr):Prop where
 xm:XMk K C
 init:findIn K (.ref C) "__init__" = some (some (.builtin "ValueError.__init__"))
 kp:keepIn K (.ref C)=true
end
section
variable {X:Cx}{C:Addr}
theorem qS {pins:List (Addr×Obj)}{σ:St}{H:Hp}{s:Shared}{Q:VK}{us:List Value}{v:V}(M:XM0 X.K C)(I:Inv X pins σ H s)(r:Vals [v] us)
  (h:∀e,H e=none->X.s₀.heap.objs.size<=e->Q (.ref e) (upd H e (.ext (XB e C none)))) :
  wpAny (model X.prog X.w) X.A (call (.ref C) us) (EP X pins σ Q) X.xe s:=by
 have hq:=h (s.heap.objs.size+1) (I.hok.fresh (BN _)) (AO I.sz (BN _));have I2:=Inv.xmade (C:=C) (us:=us) I;have hz':us.length<=sizeLine:=by rw[<- r.length]; show 1<=sizeLine; decide
 have F:=BM
 obtain⟨u,rfl⟩:∃u,us=[u]:=by
  cases r with
  |cons a b=>cases b; exact⟨_,rfl⟩
 obtain⟨hh,g,dd,tk,os⟩:=s;refine A6 (nB (init:=.builtin "ValueError.__init__") (wK I.kIn M.xm) hz' (B1 I.kIn M.init) (fun self=>.of_pure (F.init.bind self)) ?_);dsimp only at I2 hq ⊢;have he:upd H (hh.objs.size+1) (.ext (XB (hh.objs.size+1) C none)) (hh.objs.size+1)=some (.ext (XB (hh.objs.size+1) C none)):=vQ;generalize (hh.push (lJ [u])).push (uX C none (.ref hh.objs.size))=h2 at I2 ⊢
 generalize hh.objs.size+1=e at I2 hq he ⊢;generalize upd H e (.ext (XB e C none))=H2 at I2 hq he;have Y:=wK (M:=model X.prog X.w) I2.kIn M.xm;obtain⟨t,ho⟩:=I2.xb he;obtain⟨oc,od,cd,sl,tl,hC,_⟩:=Y.obj;refine Bn F.init.plain F.initEntry (oU ho rfl hC rfl Y.val ?_)
 wp_walk
 have e1:(h2.push { cls:=Value.type "tuple",data:=Data.seq #[u] }).get? e=some (uX C none (.ref t)):=AC _ ho;have e2:((h2.push { cls:=Value.type "tuple",data:=Data.seq #[u] }).update e (Obj.mapFields fun x=>x.setIfInBounds 0 (Value.ref h2.objs.size))).get? e=some (uX C none (.ref h2.objs.size)):=Ax _ e1 rfl
 have eH:H2=upd H2 e (.ext (XB e C none)):=by
  funext b
  unfold upd
  split
  .next z=>rw[z,he]
  .rfl
 refine⟨rfl,.ref e,upd H2 e (.ext (XB e C none)),?_,rfl,by rw[<- eH]; exact hq⟩;refine I2.write (t':=tk) (e:=e) (by rw[he]; exact True.intro) (.inl rfl) (fun b u hb hu=>?_) ⟨_,e2⟩ (vT e2);rw[AY _ _ (Ne.symm hb)];exact AC _ hu
def tXMk0 (C:Addr)(n:Nat)(t:TA):TE:=fun σ H Q=>t σ H fun vs H1=>∃v,vs=[v]/\∀e,H1 e=none->n<=e->Q (.ref e) (upd H1 e (.ext (XB e C none)))
theorem bA {x:Str}{p pos:Pos}{e:Expr}{es:List Expr}{t:TA}(M:XM0 X.K C)(hg:Gl X x)(hm:X.mg x=some (.ref C))
  (ha:PA X (e::es) t) (hdb:(x==("__debug__" : Str))=false:=by decide) (he:starEach (e::es) X.env=(false,eval e X.env)::starEach es X.env:=by rfl) (hpl:(backTo pos (starEach es X.env)).any (·.1)=false:=by rfl) :
  PE X (.Call (.Name x p) (e::es) [] pos) (tXMk0 C X.s₀.heap.objs.size t):=by
 intro pins s σ H Q I h;refine Ar (iZ I hg hm ?_ hdb);refine A3 (h₀:=X.base) I.ok.mod.kin M.kp (thn (ha pos pins s σ H _ I h) fun us s1 ⟨vs,H1,I1,r,v,ev,q⟩=>⟨I1.kIn,?_⟩) he hpl;subst ev;exact qS M I1 r q
end
section
variable {P:Program}{w:World}{K:CU}{mg:Str->Option Value}{base:Heap}{N:List Str}{qual:Str}{scope:Scope}{g C:Addr}{cd:Value}{A:Around}{outer:List Env}{s:Shared}{H:Hp}{E:XK}
def qO (n:Nat)(C:Addr)(E:XK)(t:TA):TS:=xP n (tXMk0 C n t) C (xW C E)
theorem lD {x:Str}{e:Expr}{es:List Expr}{t:TA}{p pos pos':Pos}(M:XM0 K C)(ht:∃oc od cd sl,K.lookup C=some ⟨oc,od,.cls cd,sl⟩/\oc=.type "type")
  (hg:Gl (bX (CXv P w) P w K mg base N qual scope g cd A outer s H E) x) (hm:mg x=some (.ref C))
  (ha:PA (bX (CXv P w) P w K mg base N qual scope g cd A outer s H E) (e::es) t) (hdb:(x==("__debug__" : Str))=false:=by decide)
  (he:starEach (e::es) (bX (CXv P w) P w K mg base N qual scope g cd A outer s H E).env=(false,eval e (bX (CXv P w) P w K mg base N qual scope g cd A outer s H E).env)::starEach es (bX (CXv P w) P w K mg base N qual scope g cd A outer s H E).env:=by rfl)
  (hpl:(backTo pos (starEach es (bX (CXv P w) P w K mg base N qual scope g cd A outer s H E).env)).any (·.1)=false:=by rfl) :
  PS (bX (CXv P w) P w K mg base N qual scope g cd A outer s H E) (.Raise (some (.Call (.Name x p) (e::es) [] pos)) none pos') (qO s.heap.objs.size C E t):=by
 have W:lH (bX (CXv P w) P w K mg base N qual scope g cd A outer s H E) (xW C E):=fun pins σ s1 e H2 I hs ⟨d,h1,h2⟩=>sR I h1 hs h2;exact vM (pos:=pos') (C:=C) M.xm ht rfl W (bA (X:=bX (CXv P w) P w K mg base N qual scope g cd A outer s H E) (p:=p) (pos:=pos) M hg hm ha hdb he hpl)
end
end L2
namespace CL
open PySem PySem.Spec L2
open PyProof.Rows hiding St
def XRelY (K:CU)(H:Hp)(C:CH)(RX:XC)(E:XK):Prop:=(∀Cl d H' fs gs C',RX Cl fs C'->H' d=some (.ext (XD d gs))->FP K H' gs fs->HRel K H' C'->Fw H C H' C'->E (.ref Cl) (some d) H') /\
 ∀Cl H' C',RX Cl [] C'->HRel K H' C'->Fw H C H' C'->E (.ref Cl) none H'
def spY (K:CU)(G:GX):Sp:=fun vs H Q E=>∃ts C R RX,Reps K H vs ts/\HRel K H C/\G ts C R RX/\(∀v H' t C',R t C'->Rep K H' v t->HRel K H' C'->Fw H C H' C'->Q v H')/\XRelY K H C RX E
section
variable {K:CU}{H H0:Hp}{C C0:CH}{σ:St}{ρ:CSt}{D:Ends}{c:TCS}{u:TS}{RX kX:XC}{E:XK}
theorem XRelY.step (x:XRelY K H0 C0 RX E)(f:Fw H0 C0 H C)(hx:∀Cl fs C',kX Cl fs C'->RX Cl fs C'):XRelY K H C kX E :=
 ⟨fun Cl d H' fs gs C' k hd hf h' f'=>x.1 Cl d H' fs gs C' (hx _ _ _ k) hd hf h' (f.trans f'),fun Cl H' C' k h' f'=>x.2 Cl H' C' (hx _ _ _ k) h' (f.trans f')⟩
theorem tO {K:CU}{H:Hp}:∀(fs:List Str) (is:List Int),FP K H (fs.zip (is.map V.int)) (fs.zip (is.map PV.int))
 |[],_=>.nil
 |_::_,[]=>.nil
 |_::fs,i::is=>.cons ⟨rfl,.int i⟩ (tO fs is)
theorem callY {ca:TCA}{G:GX}{Qv:VK}(s:SRel K H σ ρ)(h:HRel K H C)(f:Fw H0 C0 H C)(x:XRelY K H0 C0 RX E)(kN:K1)(q:ca ρ C fun ts C1=>G ts C1 kN kX)(hx:∀Cl fs C',kX Cl fs C'->RX Cl fs C')
  (nx:∀v H2 t C2,kN t C2->Rep K H2 v t->HRel K H2 C2->Fw H0 C0 H2 C2->SRel K H2 σ ρ->Qv v H2):cN (spY K G) [] E (jZ K (Reps K) ca) σ H Qv:=by
 refine⟨ρ,C,_,s,h,q,fun vs H1 xs C1 g r h1 f1=>?_⟩;refine⟨xs,C1,kN,kX,by rw[Ad]; exact r,h1,g,fun v H2 t C2 k r2 h2 f2=>?_,x.step (f.trans f1) hx⟩;have f2':=f1.trans f2;exact nx v H2 t C2 k r2 h2 (f.trans f2') (s.imm (f2'.imm h))
theorem Xm {cl:Addr}{m:Str}{co:TCE}{ca:TCA}{G:GX}{Qv:VK}(s:SRel K H σ ρ)(h:HRel K H C)(f:Fw H0 C0 H C)(x:XRelY K H0 C0 RX E)(kN:K1)(q:co ρ C fun y C1=>nU cl m y C1/\ca ρ C1 fun ts C2=>G (y::ts) C2 kN kX)(hx:∀Cl fs C',kX Cl fs C'->RX Cl fs C')
  (nx:∀v H2 t C2,kN t C2->Rep K H2 v t->HRel K H2 C2->Fw H0 C0 H2 C2->SRel K H2 σ ρ->Qv v H2):dN cl m (spY K G) [] E (jZ K (Rep K) co) (jZ K (Reps K) ca) σ H Qv:=by
 refine⟨ρ,C,_,s,h,q,fun y H1 py C1 ⟨hi,q1⟩ ry h1 f1=>?_⟩;obtain⟨a,dx,gs,rfl,rfl,eg,lk⟩:=gG hi ry h1;refine⟨a,dx,gs,rfl,eg,lk,ρ,C1,_,s.imm (f1.imm h),h1,q1,fun xs H2 ts C2 q2 rs h2 f2=>?_⟩;refine⟨.ref a::ts,C2,kN,kX,.cons (.ref a) (by rw[Ad]; exact rs),h2,q2,fun v H3 t C3 k r3 h3 f3=>?_,x.step (f.trans (f1.trans f2)) hx⟩;have f3':=(f1.trans f2).trans f3;exact nx v H3 t C3 k r3 h3 (f.trans f3') (s.imm (f3'.imm h))
theorem lG {n:Nat}{Cl:Addr}{fs:List Str}{ca:TCA}(hn:fs.length<=1000)(s:SRel K H σ ρ)(h:HRel K H C)(f:Fw H0 C0 H C)(x:XRelY K H0 C0 RX E)
  (q:ca ρ C fun ts C1=>∃is:List Int,ts=is.map PV.int/\is.length=fs.length/\(∀i∈is,i.natAbs<=1000000000000)/\RX Cl (fs.zip (is.map PV.int)) C1):eT n Cl fs E (jZ K (Reps K) ca) D σ H:=by
 refine⟨ρ,C,_,s,h,q,fun vs H1 ts C1 ⟨is,e1,hl,hb,k⟩ r h1 f1=>?_⟩;subst e1
 have ev:∀{vs:List V} {is:List Int},Reps K H1 vs (is.map PV.int)->vs=is.map V.int:=by
  intro vs is r
  induction is generalizing vs with
  |nil=>cases r; rfl
  |cons i is ih =>
   cases r with
   |cons a b=>cases a; rw[ih b]; rfl
 have e2:=ev r;subst e2;refine⟨by rw[AL,hl]; exact hn,fun e he hle=>⟨e,is,rfl,hl,hb,vQ,fun d h2 h3=>⟨rfl,e,some d,rfl,hle,vQ,some d,vQ,?_⟩⟩⟩;rw[uN he h3];rw[wQ h3] at h2;refine x.1 Cl d _ _ _ C1 k vQ ?_ (h1.new h2 _) (f.trans (f1.trans (Fw.new h2 _)));exact tO fs is
theorem QU {n:Nat}{Cl:Addr}{ca:TCA}(s:SRel K H σ ρ)(h:HRel K H C)(f:Fw H0 C0 H C)(x:XRelY K H0 C0 RX E)
  (q:ca ρ C fun ts C1=>∃t,ts=[t]/\RX Cl [] C1):qO n Cl E (jZ K (Reps K) ca) D σ H:=by
 refine⟨ρ,C,_,s,h,q,fun vs H1 ts C1 ⟨t,e1,k⟩ r h1 f1=>?_⟩;subst e1
 cases r with
 |cons a b =>
 cases b;refine⟨_,rfl,fun e he hle=>⟨e,none,rfl,hle,vQ,none,vQ,?_⟩⟩
 have eu:unt (upd H1 e (.ext (XB e Cl none))) e=H1:=by
  funext b
  by_cases hb:b=e
  .rw [hb,cJ,he]
  .rw [eK hb,wQ hb]
 rw[eu];exact x.2 Cl H1 C1 k h1 (f.trans f1)
end
end CL
namespace L2
open PySem PySem.Spec PySem.W
open PyProof.Rows hiding St
structure rE (P:Program)(w:World)(K:CU)(mg:Str->Option Value)(base:Heap)(k:Nat)(f:Addr)(fd:FuncData)(ps:List Str)(sp:Sp):Prop where
 len:∀vs H Q E,sp vs H Q E->vs.length=ps.length
 run:∀(A:Around) (x:Addr) (outer:List Env) (s:Shared) (H:Hp) (args:Args) (us:List Value) (vs:List V) (Q:VK) (E:XK),Room k A->Env0 P w K mg base (A.mark (some (.ref x))) outer s H->BindsTo s fd args (ps.zip us)->Vals vs us->sp vs H Q E ->
  codeAny (model P w) (A.mark (some (.ref x))) (.call (.ref f) args) (CR CX0 outer P w H s Q E) s
theorem vR {P:Program}{w:World}{K:CU}{mg:Str->Option Value}{base:Heap}{A:Around}{h:Option Value}{outer:List Env}{s:Shared}{H:Hp}(e:Env0 P w K mg base (A.mark h) outer s H):Env0 P w K mg base A outer s H:=by
 obtain⟨a1,a2,a3,a4,a5,a6,a7,a8⟩:=e;exact⟨a1,a2,a3,a4,a5,a6,a7,a8⟩
theorem fn_ofH {P:Program}{w:World}{K:CU}{mg:Str->Option Value}{base:Heap}{k:Nat}{f:Addr}{name qual:Str}{params:Arguments}{body:List Stmt}{scope:Scope}{dV kV doc pm cdv ct oc:Value}{an od:Option Addr}
  {osl:Array (Option Value)} {N ps:List Str} {sp:Sp} (lk:K.lookup f=some ⟨oc,od,.func (PySem.W.fnOf name qual params body scope dV kV doc pm an cdv ct),osl⟩) (hcd:PySem.W.codeIn K cdv qual=true) (S:FnScope N ps scope)
  (len:∀vs H Q E,sp vs H Q E->vs.length=ps.length)
  (hbody:∀(A:Around) (x:Addr) (outer:List Env) (s:Shared) (H:Hp) (vs:List V) (Q:VK) (E:XK),Room k (A.deeper (envOfC qual scope s.heap.objs.size f cdv))->sp vs H Q E ->
   ∃t,PSs ((bX CX0 P w K mg base N qual scope f cdv A outer s H E).inH x fun _ _=>False) body t/\t { nx:=fun _ H'=>Q .non H',rt:=Q } (start N vs) H) :
  rE P w K mg base (k+1) f (PySem.W.fnOf name qual params body scope dV kV doc pm an cdv ct) ps sp:=by
 refine⟨len,fun A x0 outer s H args us vs Q E hr e0' hb r hsp=>?_⟩;have e0:=vR e0';have hl:=len _ _ _ _ hsp;have KX:K.In s.heap:=e0.mod.kin.keeps fun b o e=>(e0.bs b o e).1;have lim:s.heap.NoLimit:=e0.mod.nolimit.keeps fun b o e=>(e0.bs b o e).1
 have hkind:∀y∈ps.zip us,scope.names.lookup y.1=some .local\/(scope.names.lookup y.1=some .cell/\((cellsFrom (s.heap.objs.size+1) scope.names []).lookup y.1).isSome=true):=fun⟨n,v⟩ hy=>by
  rcases S.par n (B5 hy).1 with q | q
  .exact .inl q
  .exact .inr ⟨q,B2 _ _ _ (.inl q)⟩
 refine codeAny_call_function (A:=A.mark (some (.ref x0))) hr.depth (KX _ _ lk) rfl S.co S.gen rfl (PySem.W.codeRec_of KX hcd) (hb _ _ _ _ ?_);refine wpAny_newFunctionEnv_cells S.kind hkind fun env he s1 x=>?_;subst he;refine⟨lim.keeps x.toInCall.keep,codeAny_func ?_⟩;obtain⟨t,ht,hq⟩:=hbody A x0 outer s H vs Q E (hr.deeper _) hsp;have I:Inv (bX CX0 P w K mg base N qual scope f cdv A outer s H E) [] (start N vs) H s1:=kL S hr.hd e0 hl r x
 refine Aj (ht [] s1 (start N vs) H _ (I.inH x0 _) hq) (fun fl s' hs=>?_) fun e s' hs=>hs.elim
 have fin:∀{σ':St} {H':Hp} {v:V} {u:Value},Inv ((bX CX0 P w K mg base N qual scope f cdv A outer s H E).inH x0 fun _ _=>False) [] σ' H' s'->RelV v u->Q v H'->CE outer P w H s Q u s' :=
  fun {σ' H' v u} J rv q=>⟨v,H',J.os,J.bare,J.base,J.hok,rv,q⟩
 cases fl with
 |ret u =>
  obtain⟨v,σ',H',J,rv,q⟩:=hs;exact fin J rv q
 |next =>
  obtain⟨σ',H',J,q⟩:=hs;exact fin (v:=V.non) (u:=Value.none) J rfl q
 |brk =>
  obtain⟨_,_,_,q⟩:=hs;exact False.elim q
 |cont =>
  obtain⟨_,_,_,q⟩:=hs;exact False.elim q
section
variable {X:Cx}{k:Nat}{f:Addr}{fd:FuncData}{ps:List Str}{sp:Sp}{x:Str}{p pos:Pos}{e:Expr}{es:List Expr}{t:TA}{y:Addr}{W:Value->Shared->Prop}
theorem Q8 (F:rE X.prog X.w X.K X.mg X.base k f fd ps sp)(hr:Room k X.A)(hg:Gl (X.inH y W) x)(hm:X.mg x=some (.ref f))(hk:PySem.W.keepIn X.K (.ref f)=true)(hb:Binds X.K fd ps [])
  (ha:PA (X.inH y W) (e::es) t) (hdb:(x==("__debug__" : Str))=false:=by decide) (he:starEach (e::es) X.env=(false,eval e X.env)::starEach es X.env:=by rfl) (hpl:(backTo pos (starEach es X.env)).any (·.1)=false:=by rfl) :
  PE (X.inH y W) (.Call (.Name x p) (e::es) [] pos) (cN sp [] E0 t):=by
 intro pins s σ H Q I h;refine Ar (iZ I hg hm ?_ hdb);refine A3 (h₀:=X.base) I.ok.mod.kin hk (thn (ha pos pins s σ H _ I h) fun us s1 ⟨vs,H1,I1,r,q⟩=>⟨I1.kIn,?_⟩) he hpl;have q:sp (vs++[]) H1 Q E0:=q;rw[Ad] at q;have hl:us.length=ps.length:=by rw[<- r.length]; exact F.len _ _ _ _ q
 have hbb:=hb s1 us I1.kIn (by rw[Ad]; exact hl);rw[Ad] at hbb;refine A6 (BP (F.run X.A y (X.inH y W).stack s1 H1 ⟨us,[]⟩ us vs Q E0 hr I1.env0 hbb r q) fun r s' hq=>?_)
 cases r with
 |error e=>exact hq.elim
 |ok fl =>
  cases fl with
  |ret u=>exact I1.after hq
  |next=>exact False.elim hq
  |brk=>exact False.elim hq
  |cont=>exact False.elim hq
end
section
variable {X:Cx}{k:Nat}{f V:Addr}{fd:FuncData}{ps:List Str}{sp:Sp}{ds:List Value}{fn x n y:Str}{p p1 p2 p3 pos apos hpos tpos:Pos}{e:Expr}{es:List Expr}{t:TA}{i j:Nat}{b₀:Stmt}{suite:List Stmt}{ts:TS}
theorem ps_try0 {dvs:List L2.V}(F:eX X.prog X.w X.K X.mg X.base (CXv X.prog X.w) k f fd ps sp)(hr:Room k X.A)(hgf:Gl X fn)(hmf:X.mg fn=some (.ref f))(hkp:PySem.W.keepIn X.K (.ref f)=true)(hb:Binds X.K fd ps ds)(hd:Vals dvs ds)
  (hstk:X.stack=X.env::X.outer) (hf:X.env.frame=some X.env.locals) (hg:Gl X x) (hm:X.mg x=some (.ref V)) (hN:X.N.Nodup) (hj:X.N[j]?=some n) (hk:X.env.scope.names.lookup n=some .local)
  (ha:PA (X.wish fun _ _=>False) (e::es) t) (hs:∀e,PSs (X.inH e fun _ _=>False) (b₀::suite) ts)
  (hsw:swapsWith (.Call (.Name fn p) (e::es) [] pos) none apos.line X.env=pure false:=by rfl)
  (hdf:(fn==("__debug__" : Str))=false:=by decide) (hdb:(x==("__debug__" : Str))=false:=by decide) (he:starEach (e::es) X.env=(false,eval e X.env)::starEach es X.env:=by rfl) (hpl:(backTo pos (starEach es X.env)).any (·.1)=false:=by rfl) :
  PS X (.Try [.Expr (.Call (.Name fn p) (e::es) [] pos) apos] [.ExceptHandler (some (.Name x p2)) (some n) (b₀::suite) hpos] [] [] tpos) (sTry0 X.K V X.s₀.heap.objs.size j sp dvs t ts):=by
 intro pins s σ H D I h;refine wpAny_Try_except (wpAny_execs_cons ?_);refine wpAny_Expr_any ?_ I.quiet hsw;refine Ar (iZ I hgf hmf ?_ hdf);have I0:Inv (X.wish fun _ _=>False) pins σ H s:=I.wish _;refine A3 (h₀:=X.base) I.ok.mod.kin hkp (Aj (ha pos pins s σ H _ I0 h) (fun us s1 ⟨vs,H1,I1',r,q⟩=>?_) fun _ _ z=>z.elim) he hpl;have I1:Inv X pins σ H1 s1:=⟨I.ok,I1'.os,I1'.bare,I1'.base,I1'.loc,I1'.cell,I1'.free,I1'.freeC,I1'.pin,I1'.hok,I1'.len⟩
 refine⟨I1.kIn,?_⟩;have r2:Vals (vs++dvs) (us++ds):=r.append hd;have hl:(us++ds).length=ps.length:=by rw[<- r2.length]; exact F.len _ _ _ _ q
 refine A6 (BP (F.run X.A X.stack s1 H1 ⟨us,[]⟩ (us++ds) (vs++dvs) _ _ hr I1.env0 (hb s1 us I1.kIn hl) r2 q) fun r s' hq=>?_)
 cases r with
 |error e0=>exact take_x I1 hstk hf hg hm hN hj hk hs hdb hq
 |ok fl =>
  cases fl with
  |ret u =>
   obtain⟨v,H2,I2,rv,q2⟩:=I1.after hq;exact BW (BW ⟨_,H2,I2,q2⟩)
  |next=>exact False.elim hq
  |brk=>exact False.elim hq
  |cont=>exact False.elim hq
end
end L2
namespace PySem.W
open PySem PySem.Spec
open PyProof.Rows hiding St
section
variable {prog:Program}{w:World}{A:Around}{E:Value->Shared->Prop}{s:Shared}{K:Frag}{x C:Addr}{ox:Obj}{od:Option Obj}{name:Str}{tk:Tok}
theorem aH {Q:Option Value->Shared->Prop}(G:XGet K C)(X:K.In s.heap)(I:InstAt s.heap x ox C od)(ha:findIn K (.ref C) "__class__" = some (some (.builtin "object.__class__")))
  (hn:specialIn K (.builtin "object.__class__") "__get__" = some (some (.builtin "getset_descriptor.__get__"))) (htk:takesIn K (.builtin "object.__class__")=some true) (hm:mroIn K C (.type "object")=some true)
  (h:Q (some (.ref C)) { s with toks:=s.toks+1 }):wpAny (model prog w) A (getAttr? (.ref x) "__class__") Q E s:=by
 have hf:findObj K C od "__class__" = some (.bind (.builtin "getset_descriptor.__get__") (.builtin "object.__class__")):=by
  obtain⟨cd,hc,_⟩:=any_some G.hd;unfold findObj;rw[hc,Option.bind_some,ha,Option.bind_some]
  simp[hn,htk]
 obtain⟨hh,gg,d,t,os⟩:=s;have L0:=I.type (M:=model prog w);have L1:=looks_find (M:=model prog w) X I hf;unfold getAttr? getAttrBy?;refine AA (wpAny_mkText (AA (wpAny_attempt (xga (s:=⟨hh,gg,d,t+1,os⟩) G X I ?_))));unfold Builtin.«object.__getattribute__»;refine AA (AB (AA (AB (AA (As (s:=⟨hh,gg,d,t+1,os⟩) L0 (AA (As (s:=⟨hh,gg,d,t+1,os⟩) L1 ?_)))))))
 show wpAny _ _ (holding [_] (call _ [_,_,_]) >>= ret) _ _ _;refine AA (An (A6 (class_get (s:=⟨hh,gg,d,t+1,os⟩) X I hm ?_)));exact AB (handed_on rfl (AB h))
end
end PySem.W
namespace L2
open PySem PySem.Spec PySem.W
open PyProof.Rows hiding St
theorem kitx_x0 {K:Frag}{x C:Addr}{ox:Obj}{od:Option Obj}(c:jB K C):KitX K (.ref x) (.ref C) (fun h=>InstAt h x ox C od) where
 ty:=fun _ _ _ I=>I.type
 it:=fun _ _ X _=>by
  obtain⟨cdD,hcD,_⟩:=any_some c.hd;unfold clsIn at hcD
  split at hcD
  .rename_i c' d' cd' sl' ho
   intro A' Q' E' s' k q;unfold isType loadHead;exact AA (Bc (k _ _ (X _ _ ho)) (AB q))
  .cases hcD
 ne:=fun h tp dd its n sl X htp=>by
  obtain⟨cdD,hcD,_⟩:=any_some c.hd;refine Bool.eq_false_iff.mpr fun q=>?_;have e:C=tp:=Value.ref.inj (BK.mp q);subst e;unfold clsIn at hcD
  split at hcD
  .rename_i c' d' cd' sl' ho
   have z:=(X _ _ ho).symm.trans htp;cases z
  .cases hcD
 ca:=fun X I k=>aH c.toXGet X I c.ca c.cg c.tk c.ob k
section
variable {X:Cx}{pins:List (Addr×Obj)}{σ:St}{H:Hp}{s:Shared}{e C:Addr}
def XAny (H:Hp)(e C:Addr):Prop:=H e=some (.ext (XO e C none))\/∃fs,XAt H e C fs
theorem Qd:CallR X (.builtin "isinstance") (fun xs H Q=>∃e C c u b,xs=[.ref e,c]/\XAny H e C/\jB X.K C/\(∀u',RelV c u'->u'=u)/\kitOne X.K (.ref C) u=some b/\Q (.bl b) H):=by
 intro pins s σ H xs us Q I r h;obtain⟨e,C,c,u,b,rfl,hx,hc,hu,hk,q⟩:=h;obtain⟨u1,u2,rfl,r1,r2⟩:=vals2 r;cases (show u1=Value.ref e from r1);cases hu u2 r2
 rcases hx with hx | ⟨fs,hx⟩
 .obtain ⟨oe,vs,a1,a2,a3,a4⟩:=I.xo hx
  have J:InstAt s.heap e oe C none:=⟨a1,a2,by unfold notCls; rw[a4],by rw[a3]; trivial⟩;exact kia_one (kitx_x0 hc) I.kIn J hk (fun z=>nomatch z) fun tk=>⟨.bl b,H,I.tok tk,rfl,q⟩
 .obtain ⟨ox,od,mA,J,_,_⟩:=I.xinst hx
  exact kia_one (kitx_x hc) I.kIn J hk (fun z=>nomatch z) fun tk=>⟨.bl b,H,I.tok tk,rfl,q⟩
end
end L2
namespace L2
open PySem PySem.Spec PySem.Builtin.Str
open PyProof.Rows hiding St
section
variable {X:Cx}
def rSplit:V->List V->Hp->VK->Prop:=fun x vs H Q=>∃z y,x=.str z/\vs=[.str y]/\(y.length==0)=false/\z.length<=sizeLine/\(partsBetween z (occurrences z y 0 z.length (z.length+1)) y.length).length<=sizeLine/\(Txt.split z y).length<=sizeLine /\
 ∀p,H p=none->Q (.ref p) (upd H p (.lst ((Txt.split z y).map V.str)))
theorem yD:∀(l:List (Str×Tok)),Vals ((l.map (·.1)).map V.str) (strValues l)
 |[]=>.nil
 | (z,t)::l=>.cons ⟨t,rfl⟩ (yD l)
theorem Xl:MtR X "str.split" rSplit:=by
 intro pins s σ H x vs v us Q I rx rv h;obtain⟨z,y,rfl,rfl,hy,hz,hn,hl,q⟩:=h;obtain⟨t,rfl⟩:=rx;obtain⟨u',rfl,ru⟩:=rv.one;obtain⟨u,rfl⟩:=ru
 have fin:∀(l:List (Str×Tok)) (t':Nat),l.map (·.1)=Txt.split z y->EP X pins σ Q (.ref s.heap.objs.size) { s with heap:=s.heap.push { cls:=.type "list",data:=.seq (strValues l).toArray },toks:=t' }:=fun l t' e =>
  ⟨.ref _,_,I.lnew (ys:=(Txt.split z y).map V.str) (t':=t') (by rw[<- e]; exact yD l) (by rw[AL]; exact hl),rfl,q _ I.fresh⟩
 cases h1:(decide (z.length < y.length) || decide (strKind z < strKind y))
 .cases hf:(occurrences z y 0 z.length (z.length+1)).isEmpty
  .refine Az B0 (Bj _ _ _) F.entry_str_split (F.args_str_split_2 _ _) (meets_str_split_sep z y t u h1 hy hf hz hn) ?_
   show wants (EP X pins σ Q) X.xe _ { s with toks:=_,heap:=s.heap.push { cls:=.type "list",data:=.seq (strsFrom s.toks (partsBetween z (occurrences z y 0 z.length (z.length+1)) y.length)).toArray } };rw[strsFrom_eq];exact fin (numbered s.toks _) _ ((numbered_texts _ _).trans ((AR (ne_true_of_eq_false h1)).trans (AR (ne_true_of_eq_false hf))).symm)
  .exact Az B0 (Bj _ _ _) F.entry_str_split (F.args_str_split_2 _ _) (meets_str_split_not_found z y t u h1 hy hf)
    (fin [(z,t)] s.toks ((AR (ne_true_of_eq_false h1)).trans (AV hf)).symm)
 .exact Az B0 (Bj _ _ _) F.entry_str_split (F.args_str_split_2 _ _) (meets_str_split_cannot_occur z y t u h1)
   (fin [(z,t)] s.toks (AV h1).symm)
end
end L2
namespace CL
open PySem PySem.Spec L2 PySem.Builtin.Str
open PyProof.Rows hiding St
section
variable {X:Cx}{o e:Expr}{co ca:TCE}
def cSplit (co ca:TCE):TCE:=fun ρ C Q=>co ρ C fun x C1=>∃z,x=.str z/\ca ρ C1 fun y C2=>∃w,y=.str w/\(w.length==0)=false/\z.length<=sizeLine/\(partsBetween z (occurrences z w 0 z.length (z.length+1)) w.length).length<=sizeLine/\(Txt.split z w).length<=sizeLine /\
 ∀p,C2 p=none->Q (.ref p) (jQ C2 p (.lst ((Txt.split z w).map PV.str)))
theorem dD {K:CU}{H:Hp}:∀zs:List Str,Reps K H (zs.map V.str) (zs.map PV.str)
 |[]=>.nil
 |z::zs=>.cons (.str z) (dD zs)
theorem X7 {apos cpos:Pos}(ho:CE X o co)(ha:CE X e ca)
  (hbase:attributeBase o "split" X.env (eval o X.env)=eval o X.env:=by rfl)
  (hfew:((backTo cpos (starEach [e] X.env)).all (fun x=>!x.1)&&(backToKw cpos (keywordEach [] X.env)).all (fun x=>x.1.isSome)
   && decide ([e].length+([]:List Keyword).length+(if ([]:List Keyword).isEmpty then 0 else 1) < 30))=true:=by rfl)
  (hline:(apos.endLine==cpos.line)=true:=by rfl) (hs:noStar e=true:=by rfl):CE X (.Call (.Attribute o "split" apos) [e] [] cpos) (cSplit co ca) :=
 ⟨JE.weak ⟨kO F.plainAttrs_str B0 F.type_str_split Xl ho.h.h (wX ha.h.h rX hs) hbase hfew hline (vX hs)⟩ fun σ H Q zz=>qX zz fun ρ C R s h q f =>
  ⟨ρ,C,_,s,h,q,fun x H1 px C1 ⟨z,e1,q1⟩ rx h1 f1=>by
   subst e1;cases rx;refine⟨rfl,ρ,C1,_,s.imm (f1.imm h),h1,q1,fun y H2 py C2 ⟨w,e2,hy,hz,hn,hl,q2⟩ ry h2 f2=>?_⟩;subst e2;cases ry;refine⟨z,w,rfl,rfl,hy,hz,hn,hl,fun p hp=>?_⟩
   exact f _ _ _ _ (q2 p (h2.fresh hp)) (.ref p) (h2.lay hp ⟨_,vQ,dD _⟩) (f1.trans (f2.trans (Fw.lay hp _ _)))⟩⟩
end
end CL
namespace L2
open PySem PySem.Spec PySem.Builtin.Str
open PyProof.Rows hiding St
section
variable {X:Cx}
abbrev begs (z y:Str):Bool:=0+y.length<=z.length&&subAt z y 0
def rStarts:V->List V->Hp->VK->Prop:=fun x vs H Q=>∃z y,x=.str z/\vs=[.str y]/\Q (.bl (begs z y)) H
theorem zI:MtR X "str.startswith" rStarts:=by
 intro pins s σ H x vs v us Q I rx rv h;obtain⟨z,y,rfl,rfl,q⟩:=h;obtain⟨t,rfl⟩:=rx;obtain⟨u',rfl,ru⟩:=rv.one;obtain⟨u,rfl⟩:=ru;exact call_gives F.slot_str_startswith (Bj _ _ _) F.entry_str_startswith (F.args_str_startswith_2 _ _) (gives_str_startswith z y t u) ⟨.bl _,H,I,rfl,q⟩
end
end L2
namespace CL
open PySem PySem.Spec L2 PySem.Builtin.Str
open PyProof.Rows hiding St
section
variable {X:Cx}{o e:Expr}{co ca:TCE}
def cStarts (co ca:TCE):TCE:=fun ρ C Q=>co ρ C fun x C1=>∃z,x=.str z/\ca ρ C1 fun y C2=>∃w,y=.str w/\Q (.bl (begs z w)) C2
theorem eI {apos cpos:Pos}(ho:CE X o co)(ha:CE X e ca)
  (hbase:attributeBase o "startswith" X.env (eval o X.env)=eval o X.env:=by rfl)
  (hfew:((backTo cpos (starEach [e] X.env)).all (fun x=>!x.1)&&(backToKw cpos (keywordEach [] X.env)).all (fun x=>x.1.isSome)
   && decide ([e].length+([]:List Keyword).length+(if ([]:List Keyword).isEmpty then 0 else 1) < 30))=true:=by rfl)
  (hline:(apos.endLine==cpos.line)=true:=by rfl) (hs:noStar e=true:=by rfl):CE X (.Call (.Attribute o "startswith" apos) [e] [] cpos) (cStarts co ca) :=
 ⟨JE.weak ⟨kO F.plainAttrs_str F.slot_str_startswith F.type_str_startswith zI ho.h.h (wX ha.h.h rX hs) hbase hfew hline (vX hs)⟩ fun σ H Q zz=>qX zz fun ρ C R s h q f =>
  ⟨ρ,C,_,s,h,q,fun x H1 px C1 ⟨z,e1,q1⟩ rx h1 f1=>by
   subst e1;cases rx;refine⟨rfl,ρ,C1,_,s.imm (f1.imm h),h1,q1,fun y H2 py C2 ⟨w,e2,q2⟩ ry h2 f2=>?_⟩;subst e2;cases ry
   exact⟨z,w,rfl,rfl,f _ _ _ _ q2 (.bl _) h2 (f1.trans f2)⟩⟩⟩
end
end CL
namespace K16
open PySem L2
abbrev U0:List Str:=["_law_way","_law_number","_law_rows"]
def top (i:Nat):Stmt:=PySem.Challenge.pw_viewwood_k16_refusals_apart.main.body.getD i (.Pass ⟨0,0,0,0⟩)
def tab:List CL.Row:=[
 ⟨none,"is_number","is_number",(top 11),["thing"],["thing"]⟩,
 ⟨none,"is_name","is_name",(top 12),["thing"],["thing"]⟩,
 ⟨none,"is_reckoning","is_reckoning",(top 20),["thing"],["thing","waiting","count","inner"]⟩,
 ⟨none,"inner_things","inner_things",(top 21),["thing"],["thing","word"]⟩,
 ⟨none,"stands_alone","stands_alone",(top 22),["thing"],["thing"]⟩,
 ⟨none,"lines_fit","lines_fit",(top 28),["lines","boxes"],["lines","boxes","waiting","count","place","line","turns"]⟩,
 ⟨none,"inner_lines","inner_lines",(top 29),["line"],["line"]⟩,
 ⟨none,"turns_within","turns_within",(top 30),["line","turns"],["line","turns"]⟩,
 ⟨none,"line_fits","line_fits",(top 31),["line","boxes","turns"],["line","boxes","turns","word"]⟩,
 ⟨none,"key_fits","key_fits",(top 32),["key","boxes","turns"],["key","boxes","turns"]⟩,
 ⟨none,"reckoning_fits","reckoning_fits",(top 33),["thing","boxes","turns"],["thing","boxes","turns","waiting","inner"]⟩,
 ⟨none,"pairs_fit","pairs_fit",(top 34),["thing","boxes","turns"],["thing","boxes","turns"]⟩,
 ⟨none,"begins_with_names","begins_with_names",(top 35),["thing","size"],["thing","size","names","inner"]⟩,
 ⟨none,"hands_fit","hands_fit",(top 36),["thing","boxes","turns"],["thing","boxes","turns"]⟩,
 ⟨none,"hand_fits","hand_fits",(top 37),["hand","boxes","turns"],["hand","boxes","turns"]⟩,
 ⟨none,"change_fits","change_fits",(top 38),["change","boxes","turns"],["change","boxes","turns"]⟩,
 ⟨none,"is_part","is_part",(top 43),["thing"],["thing","boxes"]⟩,
 ⟨none,"boxes_fit","boxes_fit",(top 44),["thing"],["thing"]⟩,
 ⟨none,"is_house","is_house",(top 45),["thing"],["thing"]⟩,
 ⟨none,"names_only","names_only",(top 46),["part","names"],["part","names","waiting","lines","line"]⟩,
 ⟨none,"behind","behind",(top 47),["house","name"],["house","name","names"]⟩,
 ⟨none,"number_shown","number_shown",(top 51),["word"],["word","figures","number"]⟩,
 ⟨none,"joined_items","joined_items",(top 53),["items"],["items","made","item","inner"]⟩,
 ⟨none,"read_house","read_house",(top 58),["rows"],["rows","reader","line","row","house"]⟩,
 ⟨none,"begun_line","begun_line",(top 60),["word","row"],["word","row","name","number"]⟩,
 ⟨none,"closed","closed",(top 61),["thing"],["thing"]⟩,
 ⟨none,"_law_tape","_law_tape",(top 63),["_law_script"],["_law_script"]⟩,
 ⟨none,"_law_draw","_law_draw",(top 64),["_law_tape_here","_law_many"],["_law_tape_here","_law_many","_law_script","_law_digit","_law_cell","_law_mixed"]⟩,
 ⟨none,"_law_kinds","_law_kinds",(top 65),["_law_e"],["_law_e","_law_kinds_here"]⟩,
 ⟨none,"_law_raised","_law_raised",(top 66),U0,U0⟩,
 ⟨none,"_law_caught","_law_caught",(top 67),U0,["_law_way","_law_number","_law_rows","_law_told","_law_e"]⟩,
 ⟨none,"law","law",(top 68),["_law_script"],["_law_script","_law_tape_here","_law_number","_law_some","_law_at","_law_places","_law_fields","_law_way","_law_due"]⟩,
 ⟨some "NoText","__init__","NoText.__init__",(jX (top 2) 0),["self","line","word"],["self","line","word"]⟩,
 ⟨some "NoBox","__init__","NoBox.__init__",(jX (top 3) 0),["self","address"],["self","address"]⟩,
 ⟨some "NoDeed","__init__","NoDeed.__init__",(jX (top 4) 0),["self","place"],["self","place"]⟩,
 ⟨some "RowReader","__init__","RowReader.__init__",(jX (top 52) 0),["self","row","line"],["self","row","line"]⟩,
 ⟨some "RowReader","next_word","RowReader.next_word",(jX (top 52) 1),["self"],["self"]⟩,
 ⟨some "RowReader","refuse","RowReader.refuse",(jX (top 52) 2),["self"],["self"]⟩,
 ⟨some "RowReader","finish","RowReader.finish",(jX (top 52) 3),["self"],["self"]⟩,
 ⟨some "RowReader","one_of","RowReader.one_of",(jX (top 52) 4),["self","words"],["self","words","word"]⟩,
 ⟨some "RowReader","name","RowReader.name",(jX (top 52) 5),["self"],["self","word"]⟩,
 ⟨some "RowReader","number","RowReader.number",(jX (top 52) 6),["self"],["self","number"]⟩,
 ⟨some "RowReader","key","RowReader.key",(jX (top 52) 7),["self"],["self"]⟩,
 ⟨some "RowReader","reckoning","RowReader.reckoning",(jX (top 52) 8),["self"],["self","items","lacking","item"]⟩,
 ⟨some "RowReader","item","RowReader.item",(jX (top 52) 9),["self"],["self","word","number"]⟩,
 ⟨some "HouseReader","__init__","HouseReader.__init__",(jX (top 59) 0),["self"],["self"]⟩,
 ⟨some "HouseReader","house","HouseReader.house",(jX (top 59) 1),["self"],["self"]⟩,
 ⟨some "HouseReader","read","HouseReader.read",(jX (top 59) 2),["self","row"],["self","row","word"]⟩,
 ⟨some "HouseReader","may_stand","HouseReader.may_stand",(jX (top 59) 3),["self","word"],["self","word","waits"]⟩,
 ⟨some "HouseReader","begin_part","HouseReader.begin_part",(jX (top 59) 4),["self","row"],["self","row","name"]⟩,
 ⟨some "HouseReader","begin","HouseReader.begin",(jX (top 59) 5),["self","word","row"],["self","word","row","line"]⟩,
 ⟨some "HouseReader","end_line","HouseReader.end_line",(jX (top 59) 6),["self"],["self","line"]⟩,
 ⟨some "HouseReader","fill","HouseReader.fill",(jX (top 59) 7),["self","word","row"],["self","word","row","name","inmost","rank","changing"]⟩]
set_option genInjectivity false in
structure Adr where
 f:Nat->Addr
 d:Nat->FuncData
 t_BOUND:Tok
 aE:Tok
 iB:Tok
 NAMING:Addr
 JOINING:Addr
 LINE_SIZES:Addr
 INNER_PLACES:Addr
 tW:Addr
 oW:Addr
 sW:Addr
 nW:Addr
 rW:Addr
 CHANGING:Addr
 jG:Tok
 qP:Tok
 mN:Tok
 aF:Tok
 fN:Tok
 zP:Tok
 aL:Tok
 iL:Tok
 iE:Tok
 aB:Tok
 RANKS:Addr
 RIGHT_BEHIND:Addr
 lW:Addr
 cW:Addr
 dW:Addr
 pW:Addr
 fW:Addr
 mW:Addr
 BEGINNING:Addr
 ViewError:Addr
 NoText:Addr
 NoBox:Addr
 NoDeed:Addr
 NoChange:Addr
 NoRow:Addr
 RowReader:Addr
 HouseReader:Addr
structure Txt (P:Program)(w:World)(K:CU)(mg:Str->Option Value)(a:Adr):Prop where
 F:∀(i:Nat) {k:Option Str} {nm q:Str} {st:Stmt} {ps N:List Str},tab[i]?=some ⟨k,nm,q,st,ps,N⟩->CL.FI K mg k nm q st ps N (a.f i) (a.d i)
 XM:mg "BOUND" = some (.int 1000000000 a.t_BOUND)
 XG:mg "LETTERS" = some (.str "abcdefghijklmnopqrstuvwxyz" a.aE)
 zD:mg "LONGEST_NAME" = some (.int 8 a.iB)
 gNAMING:mg "NAMING" = some (.ref a.NAMING)
 qNAMING:∀H:Hp,SqT K H a.NAMING [.str "take",.str "box",.str "down",.str "turn"]
 zF:mg "JOINING" = some (.ref a.JOINING)
 kF:KD K P w a.JOINING [(Sum.inr "add",.int 2),(Sum.inr "times",.int 2),(Sum.inr "less",.int 2),(Sum.inr "pick",.int 3)]
 gLINE_SIZES:mg "LINE_SIZES" = some (.ref a.LINE_SIZES)
 dLINE_SIZES:KD K P w a.LINE_SIZES [(Sum.inr "plain",.int 6),(Sum.inr "part",.int 4),(Sum.inr "give",.int 5),(Sum.inr "when",.int 4),(Sum.inr "each",.int 4)]
 gINNER_PLACES:mg "INNER_PLACES" = some (.ref a.INNER_PLACES)
 dINNER_PLACES:KD K P w a.INNER_PLACES [(Sum.inr "plain",.ref a.tW),(Sum.inr "part",.ref a.oW),(Sum.inr "give",.ref a.sW),(Sum.inr "when",.ref a.nW),(Sum.inr "each",.ref a.rW)]
 Qu:∀H:Hp,SqT K H a.tW [.int 5]
 Qt:∀H:Hp,SqT K H a.oW []
 Qs:∀H:Hp,SqT K H a.sW [.int 4]
 Qr:∀H:Hp,SqT K H a.nW [.int 2,.int 3]
 Qq:∀H:Hp,SqT K H a.rW [.int 3]
 gCHANGING:mg "CHANGING" = some (.ref a.CHANGING)
 qCHANGING:∀H:Hp,SqT K H a.CHANGING [.str "set",.str "add",.str "times"]
 fI:mg "MOST_RECKONINGS" = some (.int 20 a.jG)
 gMOST_LINES:mg "MOST_LINES" = some (.int 30 a.qP)
 gMOST_DEEP:mg "MOST_DEEP" = some (.int 6 a.mN)
 gMOST_EACHES:mg "MOST_EACHES" = some (.int 2 a.aF)
 gLAST_RANK:mg "LAST_RANK" = some (.int 3 a.fN)
 qR:mg "MOST_BOXES" = some (.int 4 a.zP)
 aC:mg "MOST_WORKS" = some (.int 4 a.aL)
 iC:mg "MOST_PARTS" = some (.int 6 a.iL)
 XH:mg "FIGURES" = some (.str "0123456789" a.iE)
 qD:mg "MOST_FIGURES" = some (.int 10 a.aB)
 gRANKS:mg "RANKS" = some (.ref a.RANKS)
 qRANKS:∀H:Hp,SqT K H a.RANKS [.str "1",.str "2",.str "3"]
 gY:mg "RIGHT_BEHIND" = some (.ref a.RIGHT_BEHIND)
 bY:KD K P w a.RIGHT_BEHIND [(Sum.inr "box",.ref a.lW),(Sum.inr "work",.ref a.cW),(Sum.inr "set",.ref a.dW),(Sum.inr "hand",.ref a.pW),(Sum.inr "change",.ref a.fW),(Sum.inr "with",.ref a.mW)]
 Qp:∀H:Hp,SqT K H a.lW [.str "part",.str "box"]
 Qo:∀H:Hp,SqT K H a.cW [.str "part",.str "box",.str "work"]
 Qn:∀H:Hp,SqT K H a.dW [.str "plain",.str "set"]
 Qm:∀H:Hp,SqT K H a.pW [.str "plain",.str "set",.str "hand",.str "change"]
 Ql:∀H:Hp,SqT K H a.fW [.str "hand",.str "change"]
 Qk:∀H:Hp,SqT K H a.mW [.str "draw",.str "with"]
 jF:mg "BEGINNING" = some (.ref a.BEGINNING)
 kM:∀H:Hp,SqT K H a.BEGINNING [.str "plain",.str "draw",.str "give",.str "when",.str "each"]
 tL:mg "ValueError" = none
 z_abs:mg "abs" = none
 oH:mg "all" = none
 z_bool:mg "bool" = none
 sH:mg "enumerate" = none
 z_int:mg "int" = none
 pQ:mg "isinstance" = none
 jJ:mg "len" = none
 Qw:mg "list" = none
 z_range:mg "range" = none
 lR:mg "reversed" = none
 z_str:mg "str" = none
 sJ:mg "tuple" = none
 kJ:mg "ViewError" = some (.ref a.ViewError)
 x_ViewError:PySem.W.XMk K a.ViewError
 xc_ViewError:jB K a.ViewError
 xt_ViewError:∃oc od cd sl,K.lookup a.ViewError=some ⟨oc,od,.cls cd,sl⟩/\oc=.type "type"
 tK:XIn K a.ViewError
 mK:mg "NoText" = some (.ref a.NoText)
 QF:PySem.W.XMk K a.NoText
 pG:jB K a.NoText
 kK:∃oc od cd sl,K.lookup a.NoText=some ⟨oc,od,.cls cd,sl⟩/\oc=.type "type"
 yK:XMi K a.NoText (a.f 32)
 dJ:pR K a.NoText "line"
 pJ:pR K a.NoText "word"
 mO:mg "NoBox" = some (.ref a.NoBox)
 x_NoBox:PySem.W.XMk K a.NoBox
 qN:jB K a.NoBox
 Qy:∃oc od cd sl,K.lookup a.NoBox=some ⟨oc,od,.cls cd,sl⟩/\oc=.type "type"
 QB:XMi K a.NoBox (a.f 33)
 vK:pR K a.NoBox "address"
 gC:mg "NoDeed" = some (.ref a.NoDeed)
 QG:PySem.W.XMk K a.NoDeed
 vD:jB K a.NoDeed
 nE:∃oc od cd sl,K.lookup a.NoDeed=some ⟨oc,od,.cls cd,sl⟩/\oc=.type "type"
 sE:XMi K a.NoDeed (a.f 34)
 uV:pR K a.NoDeed "place"
 cM:mg "NoChange" = some (.ref a.NoChange)
 x_NoChange:PySem.W.XMk K a.NoChange
 iH:jB K a.NoChange
 tH:∃oc od cd sl,K.lookup a.NoChange=some ⟨oc,od,.cls cd,sl⟩/\oc=.type "type"
 xn_NoChange:XIn K a.NoChange
 zN:XM0 K a.NoChange
 bO:mg "NoRow" = some (.ref a.NoRow)
 x_NoRow:PySem.W.XMk K a.NoRow
 QE:jB K a.NoRow
 Qx:∃oc od cd sl,K.lookup a.NoRow=some ⟨oc,od,.cls cd,sl⟩/\oc=.type "type"
 xn_NoRow:XIn K a.NoRow
 QH:XM0 K a.NoRow
 fX:mg "RowReader" = some (.ref a.RowReader)
 uQ:Cls K a.RowReader
 rP:Mk K a.RowReader (a.f 35)
 fZ:NoAttr K a.RowReader "line"
 oQ:NoAttr K a.RowReader "taken"
 uZ:NoAttr K a.RowReader "words"
 xZ:mg "HouseReader" = some (.ref a.HouseReader)
 bQ:Cls K a.HouseReader
 dM:Mk K a.HouseReader (a.f 45)
 mJ:NoAttr K a.HouseReader "ahead"
 cQ:NoAttr K a.HouseReader "around"
 cZ:NoAttr K a.HouseReader "parts"
 vJ:PySem.W.exmOne K (.ref a.NoText) (.ref a.ViewError)=some true
 vG:PySem.W.kitOne K (.ref a.NoText) (.ref a.NoText)=some true
 tG:PySem.W.kitOne K (.ref a.NoText) (.ref a.NoBox)=some false
 wG:PySem.W.kitOne K (.ref a.NoText) (.ref a.NoDeed)=some false
 qY:PySem.W.kitOne K (.ref a.NoText) (.ref a.NoChange)=some false
 oG:PySem.W.kitOne K (.ref a.NoText) (.ref a.NoRow)=some false
 eV:PySem.W.kitOne K (.ref a.NoText) (.ref a.ViewError)=some true
 mV:PySem.W.kitOne K (.ref a.NoText) (.type "ValueError")=some true
 uY:PySem.W.exmOne K (.ref a.NoBox) (.ref a.ViewError)=some true
 zU:PySem.W.kitOne K (.ref a.NoBox) (.ref a.NoText)=some false
 qB:PySem.W.kitOne K (.ref a.NoBox) (.ref a.NoBox)=some true
 jU:PySem.W.kitOne K (.ref a.NoBox) (.ref a.NoDeed)=some false
 cY:PySem.W.kitOne K (.ref a.NoBox) (.ref a.NoChange)=some false
 iU:PySem.W.kitOne K (.ref a.NoBox) (.ref a.NoRow)=some false
 vY:PySem.W.kitOne K (.ref a.NoBox) (.ref a.ViewError)=some true
 qW:PySem.W.kitOne K (.ref a.NoBox) (.type "ValueError")=some true
 kW:PySem.W.exmOne K (.ref a.NoDeed) (.ref a.ViewError)=some true
 yG:PySem.W.kitOne K (.ref a.NoDeed) (.ref a.NoText)=some false
 qU:PySem.W.kitOne K (.ref a.NoDeed) (.ref a.NoBox)=some false
 uG:PySem.W.kitOne K (.ref a.NoDeed) (.ref a.NoDeed)=some true
 jY:PySem.W.kitOne K (.ref a.NoDeed) (.ref a.NoChange)=some false
 iG:PySem.W.kitOne K (.ref a.NoDeed) (.ref a.NoRow)=some false
 iV:PySem.W.kitOne K (.ref a.NoDeed) (.ref a.ViewError)=some true
 fV:PySem.W.kitOne K (.ref a.NoDeed) (.type "ValueError")=some true
 vV:PySem.W.exmOne K (.ref a.NoChange) (.ref a.ViewError)=some true
 xY:PySem.W.kitOne K (.ref a.NoChange) (.ref a.NoText)=some false
 dY:PySem.W.kitOne K (.ref a.NoChange) (.ref a.NoBox)=some false
 kY:PySem.W.kitOne K (.ref a.NoChange) (.ref a.NoDeed)=some false
 pV:PySem.W.kitOne K (.ref a.NoChange) (.ref a.NoChange)=some true
 pY:PySem.W.kitOne K (.ref a.NoChange) (.ref a.NoRow)=some false
 iK:PySem.W.kitOne K (.ref a.NoChange) (.ref a.ViewError)=some true
 gK:PySem.W.kitOne K (.ref a.NoChange) (.type "ValueError")=some true
 yY:PySem.W.exmOne K (.ref a.NoRow) (.ref a.ViewError)=some true
 eG:PySem.W.kitOne K (.ref a.NoRow) (.ref a.NoText)=some false
 aU:PySem.W.kitOne K (.ref a.NoRow) (.ref a.NoBox)=some false
 aG:PySem.W.kitOne K (.ref a.NoRow) (.ref a.NoDeed)=some false
 fY:PySem.W.kitOne K (.ref a.NoRow) (.ref a.NoChange)=some false
 eU:PySem.W.kitOne K (.ref a.NoRow) (.ref a.NoRow)=some true
 zY:PySem.W.kitOne K (.ref a.NoRow) (.ref a.ViewError)=some true
 aV:PySem.W.kitOne K (.ref a.NoRow) (.type "ValueError")=some true
theorem tab_ok:CL.AllR CL.RB tab:=by
 unfold tab
 repeat refine⟨⟨⟨rfl,rfl,rfl,by decide +kernel,rfl,by decide +kernel,by decide +kernel⟩,fun _ _ _ _ _ _=>by first | (refine CL.args1 ?_; exact fun _=>rfl) | (refine CL.args2 ?_; exact fun _ _=>rfl) | (refine CL.args3 ?_; exact fun _ _ _=>rfl)⟩,?_⟩
 exact trivial
theorem txt_mk {P:Program}{w:World}{K:CU}{h:Heap}{mg:Str->Option Value}(X:K.In h)(G:h.Ns mainGlobals mg){ga3 ga4 ga5 ga6 r6_0 r6_1 r6_2 r6_3 r6_4 ga7 ga18 ga19 r19_0 r19_1 r19_2 r19_3 r19_4 r19_5 ga20 cc0 cc1 cc2 cc3 cc4 cc5 cc6 cc7:Addr}{t0 t1 t2 t3_0 t3_1 t3_2 t3_3 k4_0 k4_1 k4_2 k4_3 v4_0 v4_1 v4_2 v4_3 k5_0 k5_1 k5_2 k5_3 k5_4 v5_0 v5_1 v5_2 v5_3 v5_4 k6_0 k6_1 k6_2 k6_3 k6_4 t6_0_0 t6_2_0 t6_3_0 t6_3_1 t6_4_0 t7_0 t7_1 t7_2 t8 t9 t10 t11 t12 t13 t14 t15 t16 t17 t18_0 t18_1 t18_2 k19_0 k19_1 k19_2 k19_3 k19_4 k19_5 t19_0_0 t19_0_1 t19_1_0 t19_1_1 t19_1_2 t19_2_0 t19_2_1 t19_3_0 t19_3_1 t19_3_2 t19_3_3 t19_4_0 t19_4_1 t19_5_0 t19_5_1 t20_0 t20_1 t20_2 t20_3 t20_4:Tok}{gn3 gn4 gn5 gn6 m6_0 m6_1 m6_2 m6_3 m6_4 gn7 gn18 gn19 m19_0 m19_1 m19_2 m19_3 m19_4 m19_5 gn20:Nat}{xo0:Option Addr}{xd0:ClassData}{xl0:Array (Option Value)}{xr0:List Value}{xo1:Option Addr}{xd1:ClassData}{xl1:Array (Option Value)}{xr1:List Value}{xo2:Option Addr}{xd2:ClassData}{xl2:Array (Option Value)}{xr2:List Value}{xo3:Option Addr}{xd3:ClassData}{xl3:Array (Option Value)}{xr3:List Value}{xo4:Option Addr}{xd4:ClassData}{xl4:Array (Option Value)}{xr4:List Value}{xo5:Option Addr}{xd5:ClassData}{xl5:Array (Option Value)}{xr5:List Value}
  (hf:CL.AllR (CL.FH K) tab)
  (gl0:PySem.W.nsIn K mainGlobals "BOUND" = some (some (.int 1000000000 t0)))
  (gl1:PySem.W.nsIn K mainGlobals "LETTERS" = some (some (.str "abcdefghijklmnopqrstuvwxyz" t1)))
  (gl2:PySem.W.nsIn K mainGlobals "LONGEST_NAME" = some (some (.int 8 t2)))
  (gl3:PySem.W.nsIn K mainGlobals "NAMING" = some (some (.ref ga3)))
  (ql3:K.lookup ga3=some { cls:=.type "tuple",data:=.seq #[.str "take" t3_0,.str "box" t3_1,.str "down" t3_2,.str "turn" t3_3] gn3 })
  (gl4:PySem.W.nsIn K mainGlobals "JOINING" = some (some (.ref ga4)))
  (ql4:K.lookup ga4=some { cls:=.type "dict",data:=.dict #[{ hash:=PyData.keyHash w.params "add",key:=.str "add" k4_0,val:=.int 2 v4_0 },{ hash:=PyData.keyHash w.params "times",key:=.str "times" k4_1,val:=.int 2 v4_1 },{ hash:=PyData.keyHash w.params "less",key:=.str "less" k4_2,val:=.int 2 v4_2 },{ hash:=PyData.keyHash w.params "pick",key:=.str "pick" k4_3,val:=.int 3 v4_3 }] gn4 })
  (sm4:(ga4==sysModules)=false)
  (gl5:PySem.W.nsIn K mainGlobals "LINE_SIZES" = some (some (.ref ga5)))
  (ql5:K.lookup ga5=some { cls:=.type "dict",data:=.dict #[{ hash:=PyData.keyHash w.params "plain",key:=.str "plain" k5_0,val:=.int 6 v5_0 },{ hash:=PyData.keyHash w.params "part",key:=.str "part" k5_1,val:=.int 4 v5_1 },{ hash:=PyData.keyHash w.params "give",key:=.str "give" k5_2,val:=.int 5 v5_2 },{ hash:=PyData.keyHash w.params "when",key:=.str "when" k5_3,val:=.int 4 v5_3 },{ hash:=PyData.keyHash w.params "each",key:=.str "each" k5_4,val:=.int 4 v5_4 }] gn5 })
  (sm5:(ga5==sysModules)=false)
  (gl6:PySem.W.nsIn K mainGlobals "INNER_PLACES" = some (some (.ref ga6)))
  (ql6:K.lookup ga6=some { cls:=.type "dict",data:=.dict #[{ hash:=PyData.keyHash w.params "plain",key:=.str "plain" k6_0,val:=.ref r6_0 },{ hash:=PyData.keyHash w.params "part",key:=.str "part" k6_1,val:=.ref r6_1 },{ hash:=PyData.keyHash w.params "give",key:=.str "give" k6_2,val:=.ref r6_2 },{ hash:=PyData.keyHash w.params "when",key:=.str "when" k6_3,val:=.ref r6_3 },{ hash:=PyData.keyHash w.params "each",key:=.str "each" k6_4,val:=.ref r6_4 }] gn6 })
  (sm6:(ga6==sysModules)=false)
  (pl6_0:K.lookup r6_0=some { cls:=.type "tuple",data:=.seq #[.int 5 t6_0_0] m6_0 })
  (pl6_1:K.lookup r6_1=some { cls:=.type "tuple",data:=.seq #[] m6_1 })
  (pl6_2:K.lookup r6_2=some { cls:=.type "tuple",data:=.seq #[.int 4 t6_2_0] m6_2 })
  (pl6_3:K.lookup r6_3=some { cls:=.type "tuple",data:=.seq #[.int 2 t6_3_0,.int 3 t6_3_1] m6_3 })
  (pl6_4:K.lookup r6_4=some { cls:=.type "tuple",data:=.seq #[.int 3 t6_4_0] m6_4 })
  (gl7:PySem.W.nsIn K mainGlobals "CHANGING" = some (some (.ref ga7)))
  (ql7:K.lookup ga7=some { cls:=.type "tuple",data:=.seq #[.str "set" t7_0,.str "add" t7_1,.str "times" t7_2] gn7 })
  (gl8:PySem.W.nsIn K mainGlobals "MOST_RECKONINGS" = some (some (.int 20 t8)))
  (gl9:PySem.W.nsIn K mainGlobals "MOST_LINES" = some (some (.int 30 t9)))
  (gl10:PySem.W.nsIn K mainGlobals "MOST_DEEP" = some (some (.int 6 t10)))
  (gl11:PySem.W.nsIn K mainGlobals "MOST_EACHES" = some (some (.int 2 t11)))
  (gl12:PySem.W.nsIn K mainGlobals "LAST_RANK" = some (some (.int 3 t12)))
  (gl13:PySem.W.nsIn K mainGlobals "MOST_BOXES" = some (some (.int 4 t13)))
  (gl14:PySem.W.nsIn K mainGlobals "MOST_WORKS" = some (some (.int 4 t14)))
  (gl15:PySem.W.nsIn K mainGlobals "MOST_PARTS" = some (some (.int 6 t15)))
  (gl16:PySem.W.nsIn K mainGlobals "FIGURES" = some (some (.str "0123456789" t16)))
  (gl17:PySem.W.nsIn K mainGlobals "MOST_FIGURES" = some (some (.int 10 t17)))
  (gl18:PySem.W.nsIn K mainGlobals "RANKS" = some (some (.ref ga18)))
  (ql18:K.lookup ga18=some { cls:=.type "tuple",data:=.seq #[.str "1" t18_0,.str "2" t18_1,.str "3" t18_2] gn18 })
  (gl19:PySem.W.nsIn K mainGlobals "RIGHT_BEHIND" = some (some (.ref ga19)))
  (ql19:K.lookup ga19=some { cls:=.type "dict",data:=.dict #[{ hash:=PyData.keyHash w.params "box",key:=.str "box" k19_0,val:=.ref r19_0 },{ hash:=PyData.keyHash w.params "work",key:=.str "work" k19_1,val:=.ref r19_1 },{ hash:=PyData.keyHash w.params "set",key:=.str "set" k19_2,val:=.ref r19_2 },{ hash:=PyData.keyHash w.params "hand",key:=.str "hand" k19_3,val:=.ref r19_3 },{ hash:=PyData.keyHash w.params "change",key:=.str "change" k19_4,val:=.ref r19_4 },{ hash:=PyData.keyHash w.params "with",key:=.str "with" k19_5,val:=.ref r19_5 }] gn19 })
  (sm19:(ga19==sysModules)=false)
  (pl19_0:K.lookup r19_0=some { cls:=.type "tuple",data:=.seq #[.str "part" t19_0_0,.str "box" t19_0_1] m19_0 })
  (pl19_1:K.lookup r19_1=some { cls:=.type "tuple",data:=.seq #[.str "part" t19_1_0,.str "box" t19_1_1,.str "work" t19_1_2] m19_1 })
  (pl19_2:K.lookup r19_2=some { cls:=.type "tuple",data:=.seq #[.str "plain" t19_2_0,.str "set" t19_2_1] m19_2 })
  (pl19_3:K.lookup r19_3=some { cls:=.type "tuple",data:=.seq #[.str "plain" t19_3_0,.str "set" t19_3_1,.str "hand" t19_3_2,.str "change" t19_3_3] m19_3 })
  (pl19_4:K.lookup r19_4=some { cls:=.type "tuple",data:=.seq #[.str "hand" t19_4_0,.str "change" t19_4_1] m19_4 })
  (pl19_5:K.lookup r19_5=some { cls:=.type "tuple",data:=.seq #[.str "draw" t19_5_0,.str "with" t19_5_1] m19_5 })
  (gl20:PySem.W.nsIn K mainGlobals "BEGINNING" = some (some (.ref ga20)))
  (ql20:K.lookup ga20=some { cls:=.type "tuple",data:=.seq #[.str "plain" t20_0,.str "draw" t20_1,.str "give" t20_2,.str "when" t20_3,.str "each" t20_4] gn20 })
  (z0:PySem.W.nsIn K mainGlobals "ValueError" = some none)
  (z1:PySem.W.nsIn K mainGlobals "abs" = some none)
  (z2:PySem.W.nsIn K mainGlobals "all" = some none)
  (z3:PySem.W.nsIn K mainGlobals "bool" = some none)
  (z4:PySem.W.nsIn K mainGlobals "enumerate" = some none)
  (z5:PySem.W.nsIn K mainGlobals "int" = some none)
  (z6:PySem.W.nsIn K mainGlobals "isinstance" = some none)
  (z7:PySem.W.nsIn K mainGlobals "len" = some none)
  (z8:PySem.W.nsIn K mainGlobals "list" = some none)
  (z9:PySem.W.nsIn K mainGlobals "range" = some none)
  (z10:PySem.W.nsIn K mainGlobals "reversed" = some none)
  (z11:PySem.W.nsIn K mainGlobals "str" = some none)
  (z12:PySem.W.nsIn K mainGlobals "tuple" = some none)
  (ca0:PySem.W.nsIn K mainGlobals "ViewError" = some (some (.ref cc0)))
  (xa0:K.lookup cc0=some ⟨.type "type",xo0,.cls xd0,xl0⟩)
  (xb0:xd0.abstract=false)
  (xe0:xd0.hasDel=false)
  (xf0:(xl0.toList[4]?).join=some (.builtin "ValueError.__new__"))
  (xg0:xd0.mro=.ref cc0::xr0)
  (xh0:PySem.W.specialIn K (.ref cc0) "__call__" = some (some (.builtin "type.__call__")))
  (xi0:PySem.W.instIn K (.ref cc0) (.type "type")=some true)
  (xj0:PySem.W.mroIn K cc0 (.ref cc0)=some true)
  (xk0_0:PySem.W.mroIn K cc0 (.type "ValueError")=some true)
  (xk0_1:PySem.W.mroIn K cc0 (.type "BaseException")=some true)
  (xk0_2:PySem.W.mroIn K cc0 (.type "AttributeError")=some false)
  (xk0_3:PySem.W.mroIn K cc0 (.type "NameError")=some false)
  (xk0_4:PySem.W.mroIn K cc0 (.type "object")=some true)
  (xm0:PySem.W.findIn K (.ref cc0) "__getattribute__" = some (some (.builtin "BaseException.__getattribute__")))
  (xn0:PySem.W.findIn K (.ref cc0) "__getattr__" = some none)
  (xp0:PySem.W.hasDictIn K cc0=true)
  (xq0:PySem.W.findIn K (.ref cc0) "__class__" = some (some (.builtin "object.__class__")))
  (xs0:PySem.W.specialIn K (.builtin "object.__class__") "__get__" = some (some (.builtin "getset_descriptor.__get__")))
  (xt0:PySem.W.takesIn K (.builtin "object.__class__")=some true)
  (xu0:PySem.W.specialIn K (.ref cc0) "__getattribute__" = some (some (.builtin "type.__getattribute__")))
  (xv0:PySem.W.readsIn K cc0 (.type "type")=true)
  (xw0:PySem.W.findCls K (.ref cc0) (.type "type") "__init__" = some (.val (.builtin "ValueError.__init__")))
  (ca1:PySem.W.nsIn K mainGlobals "NoText" = some (some (.ref cc1)))
  (xa1:K.lookup cc1=some ⟨.type "type",xo1,.cls xd1,xl1⟩)
  (xb1:xd1.abstract=false)
  (xe1:xd1.hasDel=false)
  (xf1:(xl1.toList[4]?).join=some (.builtin "ValueError.__new__"))
  (xg1:xd1.mro=.ref cc1::xr1)
  (xh1:PySem.W.specialIn K (.ref cc1) "__call__" = some (some (.builtin "type.__call__")))
  (xi1:PySem.W.instIn K (.ref cc1) (.type "type")=some true)
  (xj1:PySem.W.mroIn K cc1 (.ref cc1)=some true)
  (xk1_0:PySem.W.mroIn K cc1 (.type "ValueError")=some true)
  (xk1_1:PySem.W.mroIn K cc1 (.type "BaseException")=some true)
  (xk1_2:PySem.W.mroIn K cc1 (.type "AttributeError")=some false)
  (xk1_3:PySem.W.mroIn K cc1 (.type "NameError")=some false)
  (xk1_4:PySem.W.mroIn K cc1 (.type "object")=some true)
  (xm1:PySem.W.findIn K (.ref cc1) "__getattribute__" = some (some (.builtin "BaseException.__getattribute__")))
  (xn1:PySem.W.findIn K (.ref cc1) "__getattr__" = some none)
  (xp1:PySem.W.hasDictIn K cc1=true)
  (xq1:PySem.W.findIn K (.ref cc1) "__class__" = some (some (.builtin "object.__class__")))
  (xs1:PySem.W.specialIn K (.builtin "object.__class__") "__get__" = some (some (.builtin "getset_descriptor.__get__")))
  (xt1:PySem.W.takesIn K (.builtin "object.__class__")=some true)
  (ch1:PySem.W.keepIn K (.ref cc1)=true)
  (xx1:PySem.W.clsIn K cc1=some xd1)
  (xy1:PySem.W.xTail xd1.mro=true)
  (xz1:xd1.hasDict=true)
  (cf1:PySem.W.findIn K (.ref cc1) "__setattr__" = some (some (.builtin "object.__setattr__")))
  (n1_line:PySem.W.findIn K (.ref cc1) "line" = some none)
  (n1_word:PySem.W.findIn K (.ref cc1) "word" = some none)
  (ca2:PySem.W.nsIn K mainGlobals "NoBox" = some (some (.ref cc2)))
  (xa2:K.lookup cc2=some ⟨.type "type",xo2,.cls xd2,xl2⟩)
  (xb2:xd2.abstract=false)
  (xe2:xd2.hasDel=false)
  (xf2:(xl2.toList[4]?).join=some (.builtin "ValueError.__new__"))
  (xg2:xd2.mro=.ref cc2::xr2)
  (xh2:PySem.W.specialIn K (.ref cc2) "__call__" = some (some (.builtin "type.__call__")))
  (xi2:PySem.W.instIn K (.ref cc2) (.type "type")=some true)
  (xj2:PySem.W.mroIn K cc2 (.ref cc2)=some true)
  (xk2_0:PySem.W.mroIn K cc2 (.type "ValueError")=some true)
  (xk2_1:PySem.W.mroIn K cc2 (.type "BaseException")=some true)
  (xk2_2:PySem.W.mroIn K cc2 (.type "AttributeError")=some false)
  (xk2_3:PySem.W.mroIn K cc2 (.type "NameError")=some false)
  (xk2_4:PySem.W.mroIn K cc2 (.type "object")=some true)
  (xm2:PySem.W.findIn K (.ref cc2) "__getattribute__" = some (some (.builtin "BaseException.__getattribute__")))
  (xn2:PySem.W.findIn K (.ref cc2) "__getattr__" = some none)
  (xp2:PySem.W.hasDictIn K cc2=true)
  (xq2:PySem.W.findIn K (.ref cc2) "__class__" = some (some (.builtin "object.__class__")))
  (xs2:PySem.W.specialIn K (.builtin "object.__class__") "__get__" = some (some (.builtin "getset_descriptor.__get__")))
  (xt2:PySem.W.takesIn K (.builtin "object.__class__")=some true)
  (ch2:PySem.W.keepIn K (.ref cc2)=true)
  (xx2:PySem.W.clsIn K cc2=some xd2)
  (xy2:PySem.W.xTail xd2.mro=true)
  (xz2:xd2.hasDict=true)
  (cf2:PySem.W.findIn K (.ref cc2) "__setattr__" = some (some (.builtin "object.__setattr__")))
  (n2_address:PySem.W.findIn K (.ref cc2) "address" = some none)
  (ca3:PySem.W.nsIn K mainGlobals "NoDeed" = some (some (.ref cc3)))
  (xa3:K.lookup cc3=some ⟨.type "type",xo3,.cls xd3,xl3⟩)
  (xb3:xd3.abstract=false)
  (xe3:xd3.hasDel=false)
  (xf3:(xl3.toList[4]?).join=some (.builtin "ValueError.__new__"))
  (xg3:xd3.mro=.ref cc3::xr3)
  (xh3:PySem.W.specialIn K (.ref cc3) "__call__" = some (some (.builtin "type.__call__")))
  (xi3:PySem.W.instIn K (.ref cc3) (.type "type")=some true)
  (xj3:PySem.W.mroIn K cc3 (.ref cc3)=some true)
  (xk3_0:PySem.W.mroIn K cc3 (.type "ValueError")=some true)
  (xk3_1:PySem.W.mroIn K cc3 (.type "BaseException")=some true)
  (xk3_2:PySem.W.mroIn K cc3 (.type "AttributeError")=some false)
  (xk3_3:PySem.W.mroIn K cc3 (.type "NameError")=some false)
  (xk3_4:PySem.W.mroIn K cc3 (.type "object")=some true)
  (xm3:PySem.W.findIn K (.ref cc3) "__getattribute__" = some (some (.builtin "BaseException.__getattribute__")))
  (xn3:PySem.W.findIn K (.ref cc3) "__getattr__" = some none)
  (xp3:PySem.W.hasDictIn K cc3=true)
  (xq3:PySem.W.findIn K (.ref cc3) "__class__" = some (some (.builtin "object.__class__")))
  (xs3:PySem.W.specialIn K (.builtin "object.__class__") "__get__" = some (some (.builtin "getset_descriptor.__get__")))
  (xt3:PySem.W.takesIn K (.builtin "object.__class__")=some true)
  (ch3:PySem.W.keepIn K (.ref cc3)=true)
  (xx3:PySem.W.clsIn K cc3=some xd3)
  (xy3:PySem.W.xTail xd3.mro=true)
  (xz3:xd3.hasDict=true)
  (cf3:PySem.W.findIn K (.ref cc3) "__setattr__" = some (some (.builtin "object.__setattr__")))
  (n3_place:PySem.W.findIn K (.ref cc3) "place" = some none)
  (ca4:PySem.W.nsIn K mainGlobals "NoChange" = some (some (.ref cc4)))
  (xa4:K.lookup cc4=some ⟨.type "type",xo4,.cls xd4,xl4⟩)
  (xb4:xd4.abstract=false)
  (xe4:xd4.hasDel=false)
  (xf4:(xl4.toList[4]?).join=some (.builtin "ValueError.__new__"))
  (xg4:xd4.mro=.ref cc4::xr4)
  (xh4:PySem.W.specialIn K (.ref cc4) "__call__" = some (some (.builtin "type.__call__")))
  (xi4:PySem.W.instIn K (.ref cc4) (.type "type")=some true)
  (xj4:PySem.W.mroIn K cc4 (.ref cc4)=some true)
  (xk4_0:PySem.W.mroIn K cc4 (.type "ValueError")=some true)
  (xk4_1:PySem.W.mroIn K cc4 (.type "BaseException")=some true)
  (xk4_2:PySem.W.mroIn K cc4 (.type "AttributeError")=some false)
  (xk4_3:PySem.W.mroIn K cc4 (.type "NameError")=some false)
  (xk4_4:PySem.W.mroIn K cc4 (.type "object")=some true)
  (xm4:PySem.W.findIn K (.ref cc4) "__getattribute__" = some (some (.builtin "BaseException.__getattribute__")))
  (xn4:PySem.W.findIn K (.ref cc4) "__getattr__" = some none)
  (xp4:PySem.W.hasDictIn K cc4=true)
  (xq4:PySem.W.findIn K (.ref cc4) "__class__" = some (some (.builtin "object.__class__")))
  (xs4:PySem.W.specialIn K (.builtin "object.__class__") "__get__" = some (some (.builtin "getset_descriptor.__get__")))
  (xt4:PySem.W.takesIn K (.builtin "object.__class__")=some true)
  (xu4:PySem.W.specialIn K (.ref cc4) "__getattribute__" = some (some (.builtin "type.__getattribute__")))
  (xv4:PySem.W.readsIn K cc4 (.type "type")=true)
  (xw4:PySem.W.findCls K (.ref cc4) (.type "type") "__init__" = some (.val (.builtin "ValueError.__init__")))
  (x0i4:PySem.W.findIn K (.ref cc4) "__init__" = some (some (.builtin "ValueError.__init__")))
  (ch4:PySem.W.keepIn K (.ref cc4)=true)
  (ca5:PySem.W.nsIn K mainGlobals "NoRow" = some (some (.ref cc5)))
  (xa5:K.lookup cc5=some ⟨.type "type",xo5,.cls xd5,xl5⟩)
  (xb5:xd5.abstract=false)
  (xe5:xd5.hasDel=false)
  (xf5:(xl5.toList[4]?).join=some (.builtin "ValueError.__new__"))
  (xg5:xd5.mro=.ref cc5::xr5)
  (xh5:PySem.W.specialIn K (.ref cc5) "__call__" = some (some (.builtin "type.__call__")))
  (xi5:PySem.W.instIn K (.ref cc5) (.type "type")=some true)
  (xj5:PySem.W.mroIn K cc5 (.ref cc5)=some true)
  (xk5_0:PySem.W.mroIn K cc5 (.type "ValueError")=some true)
  (xk5_1:PySem.W.mroIn K cc5 (.type "BaseException")=some true)
  (xk5_2:PySem.W.mroIn K cc5 (.type "AttributeError")=some false)
  (xk5_3:PySem.W.mroIn K cc5 (.type "NameError")=some false)
  (xk5_4:PySem.W.mroIn K cc5 (.type "object")=some true)
  (xm5:PySem.W.findIn K (.ref cc5) "__getattribute__" = some (some (.builtin "BaseException.__getattribute__")))
  (xn5:PySem.W.findIn K (.ref cc5) "__getattr__" = some none)
  (xp5:PySem.W.hasDictIn K cc5=true)
  (xq5:PySem.W.findIn K (.ref cc5) "__class__" = some (some (.builtin "object.__class__")))
  (xs5:PySem.W.specialIn K (.builtin "object.__class__") "__get__" = some (some (.builtin "getset_descriptor.__get__")))
  (xt5:PySem.W.takesIn K (.builtin "object.__class__")=some true)
  (xu5:PySem.W.specialIn K (.ref cc5) "__getattribute__" = some (some (.builtin "type.__getattribute__")))
  (xv5:PySem.W.readsIn K cc5 (.type "type")=true)
  (xw5:PySem.W.findCls K (.ref cc5) (.type "type") "__init__" = some (.val (.builtin "ValueError.__init__")))
  (x0i5:PySem.W.findIn K (.ref cc5) "__init__" = some (some (.builtin "ValueError.__init__")))
  (ch5:PySem.W.keepIn K (.ref cc5)=true)
  (ca6:PySem.W.nsIn K mainGlobals "RowReader" = some (some (.ref cc6)))
  (cb6:PySem.W.plainGet K cc6 Str.empty=true)
  (cd_6:PySem.W.hasDictIn K cc6=true)
  (ce6:PySem.W.plainOver K cc6=true)
  (cf6:PySem.W.findIn K (.ref cc6) "__setattr__" = some (some (.builtin "object.__setattr__")))
  (cg6:PySem.W.makesIn K cc6=true)
  (ch6:PySem.W.keepIn K (.ref cc6)=true)
  (n6_line:PySem.W.findIn K (.ref cc6) "line" = some none)
  (n6_taken:PySem.W.findIn K (.ref cc6) "taken" = some none)
  (n6_words:PySem.W.findIn K (.ref cc6) "words" = some none)
  (ca7:PySem.W.nsIn K mainGlobals "HouseReader" = some (some (.ref cc7)))
  (cb7:PySem.W.plainGet K cc7 Str.empty=true)
  (cd_7:PySem.W.hasDictIn K cc7=true)
  (ce7:PySem.W.plainOver K cc7=true)
  (cf7:PySem.W.findIn K (.ref cc7) "__setattr__" = some (some (.builtin "object.__setattr__")))
  (cg7:PySem.W.makesIn K cc7=true)
  (ch7:PySem.W.keepIn K (.ref cc7)=true)
  (n7_ahead:PySem.W.findIn K (.ref cc7) "ahead" = some none)
  (n7_around:PySem.W.findIn K (.ref cc7) "around" = some none)
  (n7_parts:PySem.W.findIn K (.ref cc7) "parts" = some none)
  (kn0_0:(Value.ref cc1==(.ref cc0:Value))=false)
  (ks0_0:PySem.W.subIn K (.ref cc1) (.ref cc0)=some true)
  (kc0_0:(PySem.W.clsIn K cc0).isSome=true)
  (kt0_0:PySem.W.typeIn K (.ref cc0)=some (.type "type"))
  (kb0:PySem.W.subIn K (.ref cc0) (.type "BaseException")=some true)
  (kn1_0:(Value.ref cc1==(.ref cc1:Value))=true)
  (kn2_0:(Value.ref cc1==(.ref cc2:Value))=false)
  (ks2_0:PySem.W.subIn K (.ref cc1) (.ref cc2)=some false)
  (kc2_0:(PySem.W.clsIn K cc2).isSome=true)
  (kt2_0:PySem.W.typeIn K (.ref cc2)=some (.type "type"))
  (kn3_0:(Value.ref cc1==(.ref cc3:Value))=false)
  (ks3_0:PySem.W.subIn K (.ref cc1) (.ref cc3)=some false)
  (kc3_0:(PySem.W.clsIn K cc3).isSome=true)
  (kt3_0:PySem.W.typeIn K (.ref cc3)=some (.type "type"))
  (kn4_0:(Value.ref cc1==(.ref cc4:Value))=false)
  (ks4_0:PySem.W.subIn K (.ref cc1) (.ref cc4)=some false)
  (kc4_0:(PySem.W.clsIn K cc4).isSome=true)
  (kt4_0:PySem.W.typeIn K (.ref cc4)=some (.type "type"))
  (kn5_0:(Value.ref cc1==(.ref cc5:Value))=false)
  (ks5_0:PySem.W.subIn K (.ref cc1) (.ref cc5)=some false)
  (kc5_0:(PySem.W.clsIn K cc5).isSome=true)
  (kt5_0:PySem.W.typeIn K (.ref cc5)=some (.type "type"))
  (kn6_0:(Value.ref cc1==(.ref cc0:Value))=false)
  (ks6_0:PySem.W.subIn K (.ref cc1) (.ref cc0)=some true)
  (kc6_0:(PySem.W.clsIn K cc0).isSome=true)
  (kt6_0:PySem.W.typeIn K (.ref cc0)=some (.type "type"))
  (kn7_0:(Value.ref cc1==(.type "ValueError" : Value))=false)
  (ks7_0:PySem.W.subIn K (.ref cc1) (.type "ValueError")=some true)
  (km7_0:PySem.W.kitMeta "ValueError" = true)
  (kn8_0:(Value.ref cc2==(.ref cc0:Value))=false)
  (ks8_0:PySem.W.subIn K (.ref cc2) (.ref cc0)=some true)
  (kc8_0:(PySem.W.clsIn K cc0).isSome=true)
  (kt8_0:PySem.W.typeIn K (.ref cc0)=some (.type "type"))
  (kb8:PySem.W.subIn K (.ref cc0) (.type "BaseException")=some true)
  (kn9_0:(Value.ref cc2==(.ref cc1:Value))=false)
  (ks9_0:PySem.W.subIn K (.ref cc2) (.ref cc1)=some false)
  (kc9_0:(PySem.W.clsIn K cc1).isSome=true)
  (kt9_0:PySem.W.typeIn K (.ref cc1)=some (.type "type"))
  (kn10_0:(Value.ref cc2==(.ref cc2:Value))=true)
  (kn11_0:(Value.ref cc2==(.ref cc3:Value))=false)
  (ks11_0:PySem.W.subIn K (.ref cc2) (.ref cc3)=some false)
  (kc11_0:(PySem.W.clsIn K cc3).isSome=true)
  (kt11_0:PySem.W.typeIn K (.ref cc3)=some (.type "type"))
  (kn12_0:(Value.ref cc2==(.ref cc4:Value))=false)
  (ks12_0:PySem.W.subIn K (.ref cc2) (.ref cc4)=some false)
  (kc12_0:(PySem.W.clsIn K cc4).isSome=true)
  (kt12_0:PySem.W.typeIn K (.ref cc4)=some (.type "type"))
  (kn13_0:(Value.ref cc2==(.ref cc5:Value))=false)
  (ks13_0:PySem.W.subIn K (.ref cc2) (.ref cc5)=some false)
  (kc13_0:(PySem.W.clsIn K cc5).isSome=true)
  (kt13_0:PySem.W.typeIn K (.ref cc5)=some (.type "type"))
  (kn14_0:(Value.ref cc2==(.ref cc0:Value))=false)
  (ks14_0:PySem.W.subIn K (.ref cc2) (.ref cc0)=some true)
  (kc14_0:(PySem.W.clsIn K cc0).isSome=true)
  (kt14_0:PySem.W.typeIn K (.ref cc0)=some (.type "type"))
  (kn15_0:(Value.ref cc2==(.type "ValueError" : Value))=false)
  (ks15_0:PySem.W.subIn K (.ref cc2) (.type "ValueError")=some true)
  (km15_0:PySem.W.kitMeta "ValueError" = true)
  (kn16_0:(Value.ref cc3==(.ref cc0:Value))=false)
  (ks16_0:PySem.W.subIn K (.ref cc3) (.ref cc0)=some true)
  (kc16_0:(PySem.W.clsIn K cc0).isSome=true)
  (kt16_0:PySem.W.typeIn K (.ref cc0)=some (.type "type"))
  (kb16:PySem.W.subIn K (.ref cc0) (.type "BaseException")=some true)
  (kn17_0:(Value.ref cc3==(.ref cc1:Value))=false)
  (ks17_0:PySem.W.subIn K (.ref cc3) (.ref cc1)=some false)
  (kc17_0:(PySem.W.clsIn K cc1).isSome=true)
  (kt17_0:PySem.W.typeIn K (.ref cc1)=some (.type "type"))
  (kn18_0:(Value.ref cc3==(.ref cc2:Value))=false)
  (ks18_0:PySem.W.subIn K (.ref cc3) (.ref cc2)=some false)
  (kc18_0:(PySem.W.clsIn K cc2).isSome=true)
  (kt18_0:PySem.W.typeIn K (.ref cc2)=some (.type "type"))
  (kn19_0:(Value.ref cc3==(.ref cc3:Value))=true)
  (kn20_0:(Value.ref cc3==(.ref cc4:Value))=false)
  (ks20_0:PySem.W.subIn K (.ref cc3) (.ref cc4)=some false)
  (kc20_0:(PySem.W.clsIn K cc4).isSome=true)
  (kt20_0:PySem.W.typeIn K (.ref cc4)=some (.type "type"))
  (kn21_0:(Value.ref cc3==(.ref cc5:Value))=false)
  (ks21_0:PySem.W.subIn K (.ref cc3) (.ref cc5)=some false)
  (kc21_0:(PySem.W.clsIn K cc5).isSome=true)
  (kt21_0:PySem.W.typeIn K (.ref cc5)=some (.type "type"))
  (kn22_0:(Value.ref cc3==(.ref cc0:Value))=false)
  (ks22_0:PySem.W.subIn K (.ref cc3) (.ref cc0)=some true)
  (kc22_0:(PySem.W.clsIn K cc0).isSome=true)
  (kt22_0:PySem.W.typeIn K (.ref cc0)=some (.type "type"))
  (kn23_0:(Value.ref cc3==(.type "ValueError" : Value))=false)
  (ks23_0:PySem.W.subIn K (.ref cc3) (.type "ValueError")=some true)
  (km23_0:PySem.W.kitMeta "ValueError" = true)
  (kn24_0:(Value.ref cc4==(.ref cc0:Value))=false)
  (ks24_0:PySem.W.subIn K (.ref cc4) (.ref cc0)=some true)
  (kc24_0:(PySem.W.clsIn K cc0).isSome=true)
  (kt24_0:PySem.W.typeIn K (.ref cc0)=some (.type "type"))
  (kb24:PySem.W.subIn K (.ref cc0) (.type "BaseException")=some true)
  (kn25_0:(Value.ref cc4==(.ref cc1:Value))=false)
  (ks25_0:PySem.W.subIn K (.ref cc4) (.ref cc1)=some false)
  (kc25_0:(PySem.W.clsIn K cc1).isSome=true)
  (kt25_0:PySem.W.typeIn K (.ref cc1)=some (.type "type"))
  (kn26_0:(Value.ref cc4==(.ref cc2:Value))=false)
  (ks26_0:PySem.W.subIn K (.ref cc4) (.ref cc2)=some false)
  (kc26_0:(PySem.W.clsIn K cc2).isSome=true)
  (kt26_0:PySem.W.typeIn K (.ref cc2)=some (.type "type"))
  (kn27_0:(Value.ref cc4==(.ref cc3:Value))=false)
  (ks27_0:PySem.W.subIn K (.ref cc4) (.ref cc3)=some false)
  (kc27_0:(PySem.W.clsIn K cc3).isSome=true)
  (kt27_0:PySem.W.typeIn K (.ref cc3)=some (.type "type"))
  (kn28_0:(Value.ref cc4==(.ref cc4:Value))=true)
  (kn29_0:(Value.ref cc4==(.ref cc5:Value))=false)
  (ks29_0:PySem.W.subIn K (.ref cc4) (.ref cc5)=some false)
  (kc29_0:(PySem.W.clsIn K cc5).isSome=true)
  (kt29_0:PySem.W.typeIn K (.ref cc5)=some (.type "type"))
  (kn30_0:(Value.ref cc4==(.ref cc0:Value))=false)
  (ks30_0:PySem.W.subIn K (.ref cc4) (.ref cc0)=some true)
  (kc30_0:(PySem.W.clsIn K cc0).isSome=true)
  (kt30_0:PySem.W.typeIn K (.ref cc0)=some (.type "type"))
  (kn31_0:(Value.ref cc4==(.type "ValueError" : Value))=false)
  (ks31_0:PySem.W.subIn K (.ref cc4) (.type "ValueError")=some true)
  (km31_0:PySem.W.kitMeta "ValueError" = true)
  (kn32_0:(Value.ref cc5==(.ref cc0:Value))=false)
  (ks32_0:PySem.W.subIn K (.ref cc5) (.ref cc0)=some true)
  (kc32_0:(PySem.W.clsIn K cc0).isSome=true)
  (kt32_0:PySem.W.typeIn K (.ref cc0)=some (.type "type"))
  (kb32:PySem.W.subIn K (.ref cc0) (.type "BaseException")=some true)
  (kn33_0:(Value.ref cc5==(.ref cc1:Value))=false)
  (ks33_0:PySem.W.subIn K (.ref cc5) (.ref cc1)=some false)
  (kc33_0:(PySem.W.clsIn K cc1).isSome=true)
  (kt33_0:PySem.W.typeIn K (.ref cc1)=some (.type "type"))
  (kn34_0:(Value.ref cc5==(.ref cc2:Value))=false)
  (ks34_0:PySem.W.subIn K (.ref cc5) (.ref cc2)=some false)
  (kc34_0:(PySem.W.clsIn K cc2).isSome=true)
  (kt34_0:PySem.W.typeIn K (.ref cc2)=some (.type "type"))
  (kn35_0:(Value.ref cc5==(.ref cc3:Value))=false)
  (ks35_0:PySem.W.subIn K (.ref cc5) (.ref cc3)=some false)
  (kc35_0:(PySem.W.clsIn K cc3).isSome=true)
  (kt35_0:PySem.W.typeIn K (.ref cc3)=some (.type "type"))
  (kn36_0:(Value.ref cc5==(.ref cc4:Value))=false)
  (ks36_0:PySem.W.subIn K (.ref cc5) (.ref cc4)=some false)
  (kc36_0:(PySem.W.clsIn K cc4).isSome=true)
  (kt36_0:PySem.W.typeIn K (.ref cc4)=some (.type "type"))
  (kn37_0:(Value.ref cc5==(.ref cc5:Value))=true)
  (kn38_0:(Value.ref cc5==(.ref cc0:Value))=false)
  (ks38_0:PySem.W.subIn K (.ref cc5) (.ref cc0)=some true)
  (kc38_0:(PySem.W.clsIn K cc0).isSome=true)
  (kt38_0:PySem.W.typeIn K (.ref cc0)=some (.type "type"))
  (kn39_0:(Value.ref cc5==(.type "ValueError" : Value))=false)
  (ks39_0:PySem.W.subIn K (.ref cc5) (.type "ValueError")=some true)
  (km39_0:PySem.W.kitMeta "ValueError" = true)
  : ∃a:Adr,Txt P w K mg a:=by
 obtain⟨f,d,F⟩:=CL.fi_all X G hf tab_ok
 exact⟨⟨f,d,t0,t1,t2,ga3,ga4,ga5,ga6,r6_0,r6_1,r6_2,r6_3,r6_4,ga7,t8,t9,t10,t11,t12,t13,t14,t15,t16,t17,ga18,ga19,r19_0,r19_1,r19_2,r19_3,r19_4,r19_5,ga20,cc0,cc1,cc2,cc3,cc4,cc5,cc6,cc7⟩,F,
  AG X G gl0,
  AG X G gl1,
  AG X G gl2,
  AG X G gl3,
  fun _=>.inr ⟨_,_,_,ql3,rfl,rfl,zS0 4 rfl,(.cons ⟨_,rfl⟩ (.cons ⟨_,rfl⟩ (.cons ⟨_,rfl⟩ (.cons ⟨_,rfl⟩ .nil))))⟩,
  AG X G gl4,
  hU (l:=[("add",k4_0,2,v4_0),("times",k4_1,2,v4_1),("less",k4_2,2,v4_2),("pick",k4_3,3,v4_3)]) ql4 (by show(["add","times","less","pick"]:List Str).Nodup; decide +kernel) sm4 (fun _=>rfl),
  AG X G gl5,
  hU (l:=[("plain",k5_0,6,v5_0),("part",k5_1,4,v5_1),("give",k5_2,5,v5_2),("when",k5_3,4,v5_3),("each",k5_4,4,v5_4)]) ql5 (by show(["plain","part","give","when","each"]:List Str).Nodup; decide +kernel) sm5 (fun _=>rfl),
  AG X G gl6,
  Xr (l:=[("plain",k6_0,.ref r6_0,.ref r6_0),("part",k6_1,.ref r6_1,.ref r6_1),("give",k6_2,.ref r6_2,.ref r6_2),("when",k6_3,.ref r6_3,.ref r6_3),("each",k6_4,.ref r6_4,.ref r6_4)]) ql6 (by show(["plain","part","give","when","each"]:List Str).Nodup; decide +kernel) sm6 (fun _=>rfl) (.cons rfl (.cons rfl (.cons rfl (.cons rfl (.cons rfl (.nil)))))),
  fun _=>.inr ⟨_,_,_,pl6_0,rfl,rfl,zS0 1 rfl,(.cons ⟨_,rfl⟩ .nil)⟩,
  fun _=>.inr ⟨_,_,_,pl6_1,rfl,rfl,zS0 0 rfl,.nil⟩,
  fun _=>.inr ⟨_,_,_,pl6_2,rfl,rfl,zS0 1 rfl,(.cons ⟨_,rfl⟩ .nil)⟩,
  fun _=>.inr ⟨_,_,_,pl6_3,rfl,rfl,zS0 2 rfl,(.cons ⟨_,rfl⟩ (.cons ⟨_,rfl⟩ .nil))⟩,
  fun _=>.inr ⟨_,_,_,pl6_4,rfl,rfl,zS0 1 rfl,(.cons ⟨_,rfl⟩ .nil)⟩,
  AG X G gl7,
  fun _=>.inr ⟨_,_,_,ql7,rfl,rfl,zS0 3 rfl,(.cons ⟨_,rfl⟩ (.cons ⟨_,rfl⟩ (.cons ⟨_,rfl⟩ .nil)))⟩,
  AG X G gl8,
  AG X G gl9,
  AG X G gl10,
  AG X G gl11,
  AG X G gl12,
  AG X G gl13,
  AG X G gl14,
  AG X G gl15,
  AG X G gl16,
  AG X G gl17,
  AG X G gl18,
  fun _=>.inr ⟨_,_,_,ql18,rfl,rfl,zS0 3 rfl,(.cons ⟨_,rfl⟩ (.cons ⟨_,rfl⟩ (.cons ⟨_,rfl⟩ .nil)))⟩,
  AG X G gl19,
  Xr (l:=[("box",k19_0,.ref r19_0,.ref r19_0),("work",k19_1,.ref r19_1,.ref r19_1),("set",k19_2,.ref r19_2,.ref r19_2),("hand",k19_3,.ref r19_3,.ref r19_3),("change",k19_4,.ref r19_4,.ref r19_4),("with",k19_5,.ref r19_5,.ref r19_5)]) ql19 (by show(["box","work","set","hand","change","with"]:List Str).Nodup; decide +kernel) sm19 (fun _=>rfl) (.cons rfl (.cons rfl (.cons rfl (.cons rfl (.cons rfl (.cons rfl (.nil))))))),
  fun _=>.inr ⟨_,_,_,pl19_0,rfl,rfl,zS0 2 rfl,(.cons ⟨_,rfl⟩ (.cons ⟨_,rfl⟩ .nil))⟩,
  fun _=>.inr ⟨_,_,_,pl19_1,rfl,rfl,zS0 3 rfl,(.cons ⟨_,rfl⟩ (.cons ⟨_,rfl⟩ (.cons ⟨_,rfl⟩ .nil)))⟩,
  fun _=>.inr ⟨_,_,_,pl19_2,rfl,rfl,zS0 2 rfl,(.cons ⟨_,rfl⟩ (.cons ⟨_,rfl⟩ .nil))⟩,
  fun _=>.inr ⟨_,_,_,pl19_3,rfl,rfl,zS0 4 rfl,(.cons ⟨_,rfl⟩ (.cons ⟨_,rfl⟩ (.cons ⟨_,rfl⟩ (.cons ⟨_,rfl⟩ .nil))))⟩,
  fun _=>.inr ⟨_,_,_,pl19_4,rfl,rfl,zS0 2 rfl,(.cons ⟨_,rfl⟩ (.cons ⟨_,rfl⟩ .nil))⟩,
  fun _=>.inr ⟨_,_,_,pl19_5,rfl,rfl,zS0 2 rfl,(.cons ⟨_,rfl⟩ (.cons ⟨_,rfl⟩ .nil))⟩,
  AG X G gl20,
  fun _=>.inr ⟨_,_,_,ql20,rfl,rfl,zS0 5 rfl,(.cons ⟨_,rfl⟩ (.cons ⟨_,rfl⟩ (.cons ⟨_,rfl⟩ (.cons ⟨_,rfl⟩ (.cons ⟨_,rfl⟩ .nil)))))⟩,
  Ab X G z0,
  Ab X G z1,
  Ab X G z2,
  Ab X G z3,
  Ab X G z4,
  Ab X G z5,
  Ab X G z6,
  Ab X G z7,
  Ab X G z8,
  Ab X G z9,
  Ab X G z10,
  Ab X G z11,
  Ab X G z12,
  AG X G ca0,
  ⟨⟨_,_,_,_,_,xa0,xb0,xe0,xf0,xg0⟩,xh0,xi0,xj0,xk0_0,xk0_1,xk0_2,xk0_3⟩,
  ⟨⟨xm0,xn0,xk0_1,xp0⟩,xq0,xs0,xt0,xk0_4⟩,
  ⟨_,_,_,_,xa0,rfl⟩,
  ⟨xu0,xv0,xw0⟩,
  AG X G ca1,
  ⟨⟨_,_,_,_,_,xa1,xb1,xe1,xf1,xg1⟩,xh1,xi1,xj1,xk1_0,xk1_1,xk1_2,xk1_3⟩,
  ⟨⟨xm1,xn1,xk1_1,xp1⟩,xq1,xs1,xt1,xk1_4⟩,
  ⟨_,_,_,_,xa1,rfl⟩,
  ⟨⟨⟨_,_,_,_,_,xa1,xb1,xe1,xf1,xg1⟩,xh1,xi1,xj1,xk1_0,xk1_1,xk1_2,xk1_3⟩,((F 32 rfl).M _ _ rfl (AG X G ca1)).1,((F 32 rfl).M _ _ rfl (AG X G ca1)).2,ch1⟩,
  ⟨⟨_,xx1,xy1,xz1⟩,cf1,xk1_4,n1_line⟩,
  ⟨⟨_,xx1,xy1,xz1⟩,cf1,xk1_4,n1_word⟩,
  AG X G ca2,
  ⟨⟨_,_,_,_,_,xa2,xb2,xe2,xf2,xg2⟩,xh2,xi2,xj2,xk2_0,xk2_1,xk2_2,xk2_3⟩,
  ⟨⟨xm2,xn2,xk2_1,xp2⟩,xq2,xs2,xt2,xk2_4⟩,
  ⟨_,_,_,_,xa2,rfl⟩,
  ⟨⟨⟨_,_,_,_,_,xa2,xb2,xe2,xf2,xg2⟩,xh2,xi2,xj2,xk2_0,xk2_1,xk2_2,xk2_3⟩,((F 33 rfl).M _ _ rfl (AG X G ca2)).1,((F 33 rfl).M _ _ rfl (AG X G ca2)).2,ch2⟩,
  ⟨⟨_,xx2,xy2,xz2⟩,cf2,xk2_4,n2_address⟩,
  AG X G ca3,
  ⟨⟨_,_,_,_,_,xa3,xb3,xe3,xf3,xg3⟩,xh3,xi3,xj3,xk3_0,xk3_1,xk3_2,xk3_3⟩,
  ⟨⟨xm3,xn3,xk3_1,xp3⟩,xq3,xs3,xt3,xk3_4⟩,
  ⟨_,_,_,_,xa3,rfl⟩,
  ⟨⟨⟨_,_,_,_,_,xa3,xb3,xe3,xf3,xg3⟩,xh3,xi3,xj3,xk3_0,xk3_1,xk3_2,xk3_3⟩,((F 34 rfl).M _ _ rfl (AG X G ca3)).1,((F 34 rfl).M _ _ rfl (AG X G ca3)).2,ch3⟩,
  ⟨⟨_,xx3,xy3,xz3⟩,cf3,xk3_4,n3_place⟩,
  AG X G ca4,
  ⟨⟨_,_,_,_,_,xa4,xb4,xe4,xf4,xg4⟩,xh4,xi4,xj4,xk4_0,xk4_1,xk4_2,xk4_3⟩,
  ⟨⟨xm4,xn4,xk4_1,xp4⟩,xq4,xs4,xt4,xk4_4⟩,
  ⟨_,_,_,_,xa4,rfl⟩,
  ⟨xu4,xv4,xw4⟩,
  ⟨⟨⟨_,_,_,_,_,xa4,xb4,xe4,xf4,xg4⟩,xh4,xi4,xj4,xk4_0,xk4_1,xk4_2,xk4_3⟩,x0i4,ch4⟩,
  AG X G ca5,
  ⟨⟨_,_,_,_,_,xa5,xb5,xe5,xf5,xg5⟩,xh5,xi5,xj5,xk5_0,xk5_1,xk5_2,xk5_3⟩,
  ⟨⟨xm5,xn5,xk5_1,xp5⟩,xq5,xs5,xt5,xk5_4⟩,
  ⟨_,_,_,_,xa5,rfl⟩,
  ⟨xu5,xv5,xw5⟩,
  ⟨⟨⟨_,_,_,_,_,xa5,xb5,xe5,xf5,xg5⟩,xh5,xi5,xj5,xk5_0,xk5_1,xk5_2,xk5_3⟩,x0i5,ch5⟩,
  AG X G ca6,
  ⟨cb6,cd_6,ce6,cf6⟩,
  ⟨cg6,((F 35 rfl).M _ _ rfl (AG X G ca6)).1,((F 35 rfl).M _ _ rfl (AG X G ca6)).2,ch6⟩,
  n6_line,
  n6_taken,
  n6_words,
  AG X G ca7,
  ⟨cb7,cd_7,ce7,cf7⟩,
  ⟨cg7,((F 45 rfl).M _ _ rfl (AG X G ca7)).1,((F 45 rfl).M _ _ rfl (AG X G ca7)).2,ch7⟩,
  n7_ahead,
  n7_around,
  n7_parts,
  jR kb0 (aQ kc0_0 kt0_0 ks0_0),
  mC kn1_0,
  lX kn2_0 (aQ kc2_0 kt2_0 ks2_0),
  lX kn3_0 (aQ kc3_0 kt3_0 ks3_0),
  lX kn4_0 (aQ kc4_0 kt4_0 ks4_0),
  lX kn5_0 (aQ kc5_0 kt5_0 ks5_0),
  lX kn6_0 (aQ kc6_0 kt6_0 ks6_0),
  lX kn7_0 (sM km7_0 ks7_0),
  jR kb8 (aQ kc8_0 kt8_0 ks8_0),
  lX kn9_0 (aQ kc9_0 kt9_0 ks9_0),
  mC kn10_0,
  lX kn11_0 (aQ kc11_0 kt11_0 ks11_0),
  lX kn12_0 (aQ kc12_0 kt12_0 ks12_0),
  lX kn13_0 (aQ kc13_0 kt13_0 ks13_0),
  lX kn14_0 (aQ kc14_0 kt14_0 ks14_0),
  lX kn15_0 (sM km15_0 ks15_0),
  jR kb16 (aQ kc16_0 kt16_0 ks16_0),
  lX kn17_0 (aQ kc17_0 kt17_0 ks17_0),
  lX kn18_0 (aQ kc18_0 kt18_0 ks18_0),
  mC kn19_0,
  lX kn20_0 (aQ kc20_0 kt20_0 ks20_0),
  lX kn21_0 (aQ kc21_0 kt21_0 ks21_0),
  lX kn22_0 (aQ kc22_0 kt22_0 ks22_0),
  lX kn23_0 (sM km23_0 ks23_0),
  jR kb24 (aQ kc24_0 kt24_0 ks24_0),
  lX kn25_0 (aQ kc25_0 kt25_0 ks25_0),
  lX kn26_0 (aQ kc26_0 kt26_0 ks26_0),
  lX kn27_0 (aQ kc27_0 kt27_0 ks27_0),
  mC kn28_0,
  lX kn29_0 (aQ kc29_0 kt29_0 ks29_0),
  lX kn30_0 (aQ kc30_0 kt30_0 ks30_0),
  lX kn31_0 (sM km31_0 ks31_0),
  jR kb32 (aQ kc32_0 kt32_0 ks32_0),
  lX kn33_0 (aQ kc33_0 kt33_0 ks33_0),
  lX kn34_0 (aQ kc34_0 kt34_0 ks34_0),
  lX kn35_0 (aQ kc35_0 kt35_0 ks35_0),
  lX kn36_0 (aQ kc36_0 kt36_0 ks36_0),
  mC kn37_0,
  lX kn38_0 (aQ kc38_0 kt38_0 ks38_0),
  lX kn39_0 (sM km39_0 ks39_0)⟩
structure Wd where
 P:Program
 w:World
 K:CU
 mg:Str->Option Value
 base:Heap
abbrev Tx (W:Wd)(a:Adr):Prop:=Txt W.P W.w W.K W.mg a
abbrev Ok (W:Wd)(a:Adr)(r i:Nat)(ps:List Str)(G:CL.GC):Prop:=eX W.P W.w W.K W.mg W.base CX0 r (a.f i) (a.d i) ps (CL.spC W.K G)
abbrev OkX (W:Wd)(a:Adr)(r i:Nat)(ps:List Str)(G:CL.GX):Prop:=eX W.P W.w W.K W.mg W.base (CXv W.P W.w) r (a.f i) (a.d i) ps (CL.spY W.K G)
end K16
namespace K16
open PySem L2 CL
section
variable {W:Wd}{a:Adr}
theorem QK {H:Hp}{d e:Addr}{x y z:HO}(h:d≠e):upd (upd (upd H d x) e y) d z=upd (upd H d z) e y:=by
 funext b
 by_cases hb:b=d
 .subst hb; rw[vQ,wQ h,vQ]
 .rw [wQ hb]
  by_cases he:b=e
  .subst he; rw[vQ,vQ]
  .rw [wQ he,wQ hb,wQ he,wQ hb]
theorem bK (T:Tx W a){k:Nat}:eX W.P W.w W.K W.mg W.base CX0 (k+1) (a.f 32) (a.d 32) ["self","line","word"] (spN a.NoText ["line","word"]):=by
 refine Fun.okJ (T.F 32 rfl).F (T.F 32 rfl).s ?_ ?_
 .rintro vs H Q E ⟨e,is,rfl,hl,_⟩
  rw[AZ,AL,hl]; rfl
 .rintro cdv A outer s H vs Q E hr ⟨e,is,rfl,hl,hb,he,q⟩
  obtain⟨i,j,rfl⟩:∃i j,is=[i,j]:=by
   match is,hl with
   |[i,j],_=>exact⟨i,j,rfl⟩
  refine⟨_,⟨gQ (vZ (uM T.tK rfl T.kJ (yX (nQ (i:=0) rfl (Or.inl rfl)) (yX (yP (PFs.cons oV (PFs.cons (yS (i:=1) (nQ (i:=1) rfl (Or.inl rfl))) (PFs.cons oV (PFs.cons (yS (i:=2) (nQ (i:=2) rfl (Or.inl rfl))) PFs.nil)))) (by decide)) rX)))) (gQ (vS (nQ (i:=0) rfl (Or.inl rfl)) (nQ (i:=1) rfl (Or.inl rfl)) rfl) (mQ (ps_xf1 (nQ (i:=0) rfl (Or.inl rfl)) (nQ (i:=2) rfl (Or.inl rfl)) rfl)))⟩,?_⟩;refine⟨.ref e,rfl,⟨trivial,⟨.int i,rfl,rfl,i,rfl,hb i (by simp)⟩,trivial,⟨.int j,rfl,rfl,j,rfl,hb j (by simp)⟩,trivial⟩,fun y=>⟨e,a.NoText,.str y,none,rfl,he,T.QF,?_⟩⟩
  refine⟨.int i,rfl,.ref e,rfl,e,a.NoText,rfl,he,T.dJ,fun d h1 h2=>?_⟩;refine⟨.int j,rfl,.ref e,rfl,e,a.NoText,d,[("line",.int i)],rfl,vQ,by rw[wQ h2,vQ],T.pJ,by show 1 < 1000; decide,?_⟩;show Q .non (upd (upd (upd H d _) e _) d _);rw[QK h2];exact q d h1 h2
theorem eA (T:Tx W a){k:Nat}:eX W.P W.w W.K W.mg W.base CX0 (k+1) (a.f 34) (a.d 34) ["self","place"] (spN a.NoDeed ["place"]):=by
 refine Fun.okJ (T.F 34 rfl).F (T.F 34 rfl).s ?_ ?_
 .rintro vs H Q E ⟨e,is,rfl,hl,_⟩
  rw[AZ,AL,hl]; rfl
 .rintro cdv A outer s H vs Q E hr ⟨e,is,rfl,hl,hb,he,q⟩
  obtain⟨i,rfl⟩:∃i,is=[i]:=by
   match is,hl with
   |[i],_=>exact⟨i,rfl⟩
  refine⟨_,⟨gQ (vZ (uM T.tK rfl T.kJ (yX (nQ (i:=0) rfl (Or.inl rfl)) (yX (yP (PFs.cons oV (PFs.cons (yS (i:=1) (nQ (i:=1) rfl (Or.inl rfl))) (PFs.cons oV PFs.nil))) (by decide)) rX)))) (mQ (vS (nQ (i:=0) rfl (Or.inl rfl)) (nQ (i:=1) rfl (Or.inl rfl)) rfl))⟩,?_⟩;refine⟨.ref e,rfl,⟨trivial,⟨.int i,rfl,rfl,i,rfl,hb i (by simp)⟩,trivial,trivial⟩,fun y=>⟨e,a.NoDeed,.str y,none,rfl,he,T.QG,?_⟩⟩;exact⟨.int i,rfl,.ref e,rfl,e,a.NoDeed,rfl,he,T.uV,fun d h1 h2=>q d h1 h2⟩
theorem Xf (T:Tx W a){k:Nat}:eX W.P W.w W.K W.mg W.base CX0 (k+1) (a.f 33) (a.d 33) ["self","address"] (spI W.K a.NoBox "address" 100000):=by
 refine Fun.okJ (T.F 33 rfl).F (T.F 33 rfl).s ?_ ?_
 .rintro vs H Q E ⟨e,v,dd,n,ts,rfl,_⟩
  rfl
 .rintro cdv A outer s H vs Q E hr ⟨e,v,dd,n,ts,rfl,he,r,sh,hd,hn,q⟩
  refine⟨_,⟨gQ (vZ (uM T.tK rfl T.kJ (yX (nQ (i:=0) rfl (Or.inl rfl)) (yX (yP (PFs.cons oV (PFs.cons (pf_repr (N:=100000) (nQ (i:=1) rfl (Or.inl rfl)) hr.gd hr.u8 (by decide)) PFs.nil)) (by decide)) rX)))) (mQ (vS (nQ (i:=0) rfl (Or.inl rfl)) (nQ (i:=1) rfl (Or.inl rfl)) rfl))⟩,?_⟩;refine⟨.ref e,rfl,⟨trivial,⟨v,rfl,rfl,dd,n,ts,r,sh,hd,hn⟩,trivial⟩,fun y=>⟨e,a.NoBox,.str y,none,rfl,he,T.x_NoBox,?_⟩⟩
  exact⟨v,rfl,.ref e,rfl,e,a.NoBox,rfl,he,T.vK,fun d h1 h2=>q d h1 h2⟩
end
end K16
namespace L2
open PySem PySem.Spec PySem.W
open PyProof.Rows hiding St
theorem Fun.okH {P:Program}{w:World}{K:CU}{mg:Str->Option Value}{base:Heap}{x qual:Str}{st:Stmt}{f:Addr}{fd:FuncData}{N ps:List Str}{k:Nat}{sp:Sp}(F:Fun K x qual st f fd)(S:FnScope N ps (dQ st))(len:∀vs H Q E,sp vs H Q E->vs.length=ps.length)
  (hbody:∀(cdv:Value) (A:Around) (y:Addr) (outer:List Env) (s:Shared) (H:Hp) (vs:List V) (Q:VK) (E:XK),Room k (A.deeper (envOfC qual (dQ st) s.heap.objs.size f cdv))->sp vs H Q E ->
   ∃t,PSs ((bX CX0 P w K mg base N qual (dQ st) f cdv A outer s H E).inH y fun _ _=>False) (yZ st) t/\t { nx:=fun _ H'=>Q .non H',rt:=Q } (start N vs) H):rE P w K mg base (k+1) f fd ps sp:=by
 obtain⟨oc,od,kV,doc,pm,an,cdv,ct,osl,rfl,lk,hcd⟩:=F.ex;exact fn_ofH lk hcd S len fun A y outer s H vs Q E hr hsp=>hbody cdv A y outer s H vs Q E hr hsp
def rIsY (K:CU):List V->Hp->VK->Prop:=fun xs H Q=>∃e C c u b,xs=[.ref e,c]/\XAny H e C/\jB K C/\(∀u',RelV c u'->u'=u)/\kitOne K (.ref C) u=some b/\Q (.bl b) H
theorem rJ {X:Cx}(K:CU)(hK:X.K=K:=by rfl):CallR X (.builtin "isinstance") (rIsY K):=hK▸Qd
theorem XAny.new {H:Hp}{e C q:Addr}{o:HO}(hq:H q=none):XAny H e C->XAny (upd H q o) e C
 |.inl h=>.inl (by rw[wQ (fun z=>by rw[z,hq] at h; cases h)]; exact h)
 |.inr ⟨fs,d,h1,h2⟩=>.inr ⟨fs,d,by rw[wQ (fun z=>by rw[z,hq] at h1; cases h1)]; exact h1,by rw[wQ (fun z=>by rw[z,hq] at h2; cases h2)]; exact h2⟩
end L2
namespace K16
open PySem L2 CL
section
variable {W:Wd}{a:Adr}
structure Kd (W:Wd)(a:Adr)(C:Addr)(b:List Bool):Prop where
 c:jB W.K C
 l:b.length=7
 k:∀(i:Nat) (u:Value),([.ref a.NoText,.ref a.NoBox,.ref a.NoDeed,.ref a.NoChange,.ref a.NoRow,.ref a.ViewError,.type "ValueError"]:List Value)[i]?=some u->PySem.W.kitOne W.K (.ref C) u=b[i]?
def spK (W:Wd)(a:Adr):Sp:=fun vs H Q _=>∃e C b,vs=[.ref e]/\XAny H e C/\Kd W a C b/\∀p1 p2 p3 x1 x2,H p1=none->upd H p1 x1 p2=none->upd (upd H p1 x1) p2 x2 p3=none->Q (.ref p3) (upd (upd (upd H p1 x1) p2 x2) p3 (.lst (b.map V.bl)))
theorem Xg (T:Tx W a){k:Nat}:rE W.P W.w W.K W.mg W.base (k+1) (a.f 28) (a.d 28) ["_law_e"] (spK W a):=by
 refine Fun.okH (T.F 28 rfl).F (T.F 28 rfl).s ?_ ?_
 .rintro vs H Q E ⟨e,C,b,rfl,_⟩
  rfl
 .rintro cdv A y outer s H vs Q E hr ⟨e,C,b,rfl,hx,kd,q⟩
  obtain⟨b0,b1,b2,b3,b4,b5,b6,rfl⟩:∃b0 b1 b2 b3 b4 b5 b6,b=[b0,b1,b2,b3,b4,b5,b6]:=by
   match b,kd.l with
   |[b0,b1,b2,b3,b4,b5,b6],_=>exact⟨_,_,_,_,_,_,_,rfl⟩
  refine⟨_,gQ (zK (i:=1) (T.F 28 rfl).s.nd rfl (Or.inl rfl) (nG
   (yX (xJ (rJ W.K) rfl T.pQ rfl (wX (nQ (i:=0) rfl (Or.inl rfl)) (wX (aK (v:=.ref a.NoText) rfl T.mK rfl) rX rfl) rfl))
   (yX (xJ (rJ W.K) rfl T.pQ rfl (wX (nQ (i:=0) rfl (Or.inl rfl)) (wX (aK (v:=.ref a.NoBox) rfl T.mO rfl) rX rfl) rfl))
   (yX (xJ (rJ W.K) rfl T.pQ rfl (wX (nQ (i:=0) rfl (Or.inl rfl)) (wX (aK (v:=.ref a.NoDeed) rfl T.gC rfl) rX rfl) rfl))
   (yX (xJ (rJ W.K) rfl T.pQ rfl (wX (nQ (i:=0) rfl (Or.inl rfl)) (wX (aK (v:=.ref a.NoChange) rfl T.cM rfl) rX rfl) rfl)) rX))))))
   (mQ (kP (pe_op Xe (nQ (i:=1) rfl (Or.inl rfl)) (nG
   (yX (xJ (rJ W.K) rfl T.pQ rfl (wX (nQ (i:=0) rfl (Or.inl rfl)) (wX (aK (v:=.ref a.NoRow) rfl T.bO rfl) rX rfl) rfl))
   (yX (xJ (rJ W.K) rfl T.pQ rfl (wX (nQ (i:=0) rfl (Or.inl rfl)) (wX (aK (v:=.ref a.ViewError) rfl T.kJ rfl) rX rfl) rfl))
   (yX (xJ (rJ W.K) rfl T.pQ rfl (wX (nQ (i:=0) rfl (Or.inl rfl)) (wX (vO (v:=.ty "ValueError") rfl T.tL rfl rfl) rX rfl) rfl)) rX))))))),?_⟩
  refine⟨.ref e,rfl,e,C,.ref a.NoText,.ref a.NoText,b0,rfl,hx,kd.c,(fun _ z=>z),kd.k 0 _ rfl,?_⟩;refine⟨.ref e,rfl,e,C,.ref a.NoBox,.ref a.NoBox,b1,rfl,hx,kd.c,(fun _ z=>z),kd.k 1 _ rfl,?_⟩;refine⟨.ref e,rfl,e,C,.ref a.NoDeed,.ref a.NoDeed,b2,rfl,hx,kd.c,(fun _ z=>z),kd.k 2 _ rfl,?_⟩;refine⟨.ref e,rfl,e,C,.ref a.NoChange,.ref a.NoChange,b3,rfl,hx,kd.c,(fun _ z=>z),kd.k 3 _ rfl,?_⟩;refine⟨zS0 4 rfl,fun p1 h1=>?_⟩
  have hx1:=hx.new (o:=.lst [.bl b0,.bl b1,.bl b2,.bl b3]) h1;refine⟨.ref p1,rfl,?_⟩;refine⟨.ref e,rfl,e,C,.ref a.NoRow,.ref a.NoRow,b4,rfl,hx1,kd.c,(fun _ z=>z),kd.k 4 _ rfl,?_⟩;refine⟨.ref e,rfl,e,C,.ref a.ViewError,.ref a.ViewError,b5,rfl,hx1,kd.c,(fun _ z=>z),kd.k 5 _ rfl,?_⟩;refine⟨.ref e,rfl,e,C,.ty "ValueError",.type "ValueError",b6,rfl,hx1,kd.c,(fun _ z=>z),kd.k 6 _ rfl,?_⟩;refine⟨zS0 3 rfl,fun p2 h2=>?_⟩
  have n21:p2≠p1:=fun z=>by rw[z,vQ] at h2; cases h2
  refine⟨p1,p2,_,_,rfl,rfl,(wQ n21.symm).trans vQ,vQ,by show 4+3<=sizeLine; decide,fun p3 h3=>?_⟩;exact q p1 p2 p3 _ _ h1 h2 h3
end
end K16
namespace L2
open PySem PySem.Spec PySem.W
open PyProof.Rows hiding St
section
variable {P:Program}{w:World}{K:CU}{mg:Str->Option Value}{base:Heap}
def aT (K:CU)(n:Nat)(C:Addr)(fl:Str)(M:Nat)(E:XK)(t:TA):TS:=xP n (tXMk C n (spI K C fl M) E0 t) C (xW C E)
variable {N:List Str}{qual:Str}{scope:Scope}{g C f0:Addr}{cd:Value}{A:Around}{outer:List Env}{s:Shared}{H:Hp}{E:XK}
theorem vA {k M:Nat}{fd:FuncData}{ps:List Str}{x fl:Str}{e:Expr}{es:List Expr}{t:TA}{p pos pos':Pos}(Mi:XMi K C f0)(ht:∃oc od cd sl,K.lookup C=some ⟨oc,od,.cls cd,sl⟩/\oc=.type "type")
  (F:eX P w K mg base CX0 k f0 fd ps (spI K C fl M)) (hr:Room (k+1) (bX (CXv P w) P w K mg base N qual scope g cd A outer s H E).A) (hg:Gl (bX (CXv P w) P w K mg base N qual scope g cd A outer s H E) x) (hm:mg x=some (.ref C)) (hb:Binds K fd ps [])
  (ha:PA (bX (CXv P w) P w K mg base N qual scope g cd A outer s H E) (e::es) t) (hdb:(x==("__debug__" : Str))=false:=by decide)
  (he:starEach (e::es) (bX (CXv P w) P w K mg base N qual scope g cd A outer s H E).env=(false,eval e (bX (CXv P w) P w K mg base N qual scope g cd A outer s H E).env)::starEach es (bX (CXv P w) P w K mg base N qual scope g cd A outer s H E).env:=by rfl)
  (hpl:(backTo pos (starEach es (bX (CXv P w) P w K mg base N qual scope g cd A outer s H E).env)).any (·.1)=false:=by rfl) :
  PS (bX (CXv P w) P w K mg base N qual scope g cd A outer s H E) (.Raise (some (.Call (.Name x p) (e::es) [] pos)) none pos') (aT K s.heap.objs.size C fl M E t):=by
 have W:lH (bX (CXv P w) P w K mg base N qual scope g cd A outer s H E) (xW C E):=fun pins σ s1 e H2 I hs ⟨d,h1,h2⟩=>sR I h1 hs h2;exact vM (pos:=pos') (C:=C) Mi.xm ht rfl W (xC (X:=bX (CXv P w) P w K mg base N qual scope g cd A outer s H E) (E:=E0) (p:=p) (pos:=pos) Mi F hr hg hm hb gM ha hdb he hpl)
end
end L2
namespace CL
open PySem PySem.Spec L2
open PyProof.Rows hiding St
section
variable {K:CU}{H H0:Hp}{C C0:CH}{σ:St}{ρ:CSt}{D:Ends}{RX:XC}{E:XK}
theorem raiseE {n M:Nat}{Cl:Addr}{fl:Str}{ca:TCA}(s:SRel K H σ ρ)(h:HRel K H C)(f:Fw H0 C0 H C)(x:XRelY K H0 C0 RX E)
  (q:ca ρ C fun ts C1=>∃us dd m,ts=[.tup us]/\Sh dd m (.tup us)/\dd<=7/\m<=M/\RX Cl [(fl,.tup us)] C1):aT K n Cl fl M E (jZ K (Reps K) ca) D σ H:=by
 refine⟨ρ,C,_,s,h,q,fun vs H1 ts C1 ⟨us,dd,m,e1,sh,hd,hm,k⟩ r h1 f1=>?_⟩;subst e1
 cases r with
 |@cons v _ _ _ rv b =>
 cases b;refine⟨by show 1<=1000; decide,fun e he hle=>⟨e,v,dd,m,us,rfl,vQ,rv.imm (Imm.new he _),sh,hd,hm,fun d h2 h3=>⟨rfl,e,some d,rfl,hle,vQ,some d,vQ,?_⟩⟩⟩;rw[uN he h3];rw[wQ h3] at h2;exact x.1 Cl d _ _ _ C1 k vQ (.cons ⟨rfl,rv.imm (Imm.new h2 _)⟩ .nil) (h1.new h2 _) (f.trans (f1.trans (Fw.new h2 _)))
theorem ifX {ct:TCT}{u v:TS}(s:SRel K H σ ρ)(h:HRel K H C)(f:Fw H0 C0 H C)(b0:Bool)(C1:CH)(q:ct ρ C fun b C'=>b=b0/\C1=C')
  (nx:∀H',SRel K H' σ ρ->HRel K H' C1->Fw H0 C0 H' C1->if b0=true then u D σ H' else v D σ H'):tIfS (jZ K xM ct) u v D σ H:=by
 refine⟨ρ,C,_,s,h,q,?_⟩;rintro _ H4 b _ ⟨rfl,rfl⟩ rfl h4 f4;exact nx H4 (s.imm (f4.imm h)) h4 (f.trans f4)
end
end CL
namespace K16
open PySem L2 CL
section
variable {W:Wd}{a:Adr}
def eP (a:Adr)(G:GX):GX:=fun ts C R RX=>∃w n l,ts=[.int w,.int n,l]/\0<=n/\n<=1000000/\0<=w/\w<=5/\(w=0->RX a.NoText [((("line" : Str)),.int n),((("word" : Str)),.int (n+1))] C) /\
 (w=1->RX a.NoBox [((("address" : Str)),.tup [.tup [.tup [.non,.int n]]])] C)/\(w=2->RX a.NoDeed [((("place" : Str)),.int n)] C)/\(w=3->RX a.NoChange [] C)/\(w=4->RX a.NoRow [] C)/\(w=5->G [l] C (fun _ C'=>R .non C') RX)
theorem sh_one {n:Int}(h:0<=n)(h':n<=1000000):∃m,m<=100000/\Sh 3 m (.tup [.tup [.tup [.non,.int n]]]) :=
 ⟨_,by decide,.tup (.cons (.tup (.cons (.tup (.cons .non (.cons (.int (by omega)) .nil))) .nil)) .nil)⟩
theorem oA (T:Tx W a){k:Nat}{G:GX}(F:eX W.P W.w W.K W.mg W.base (CXv W.P W.w) (k+3) (a.f 23) (a.d 23) ["rows"] (spY W.K G)):
  eX W.P W.w W.K W.mg W.base (CXv W.P W.w) (k+4) (a.f 29) (a.d 29) U0 (spY W.K (eP a G)):=by
 have S:=(T.F 29 rfl).s;refine Fun.okX (T.F 29 rfl).F S ?_ ?_
 .rintro vs H Q E ⟨ts,C,R,RX,r,h,⟨w,n,l,rfl,_⟩,f⟩
  rw[r.len]; rfl
 .rintro cdv A outer s H vs Q E hr ⟨ts,C,R,RX,r,h,⟨w,n,l,rfl,hn,hn',hw,hw',q0,q1,q2,q3,q4,q5⟩,f,fx⟩
  refine⟨_,gQ (pZ (PT.nox (JT.h (CT.h (ct2 bJ uJ (cv 0) kQ)))) (mQ (fJ T.yK T.kK (bK (k:=k+1) T) hr rfl T.mK (T.F 32 rfl).b (nZ (JA.h (CA.h (xQ (cv 1) (xQ (hX aZ qJ (cv 1) kQ) eQ))))))) cX)
   (gQ (pZ (PT.nox (JT.h (CT.h (ct2 bJ uJ (cv 0) kQ)))) (mQ (vA T.QB T.Qy (Xf (k:=k+1) T) hr rfl T.mO (T.F 33 rfl).b (nZ (JA.h (CA.h (xQ (gZ (xQ (gZ (xQ (gZ (xQ oY (xQ (cv 1) eQ))) eQ)) eQ)) eQ)))))) cX)
   (gQ (pZ (PT.nox (JT.h (CT.h (ct2 bJ uJ (cv 0) kQ)))) (mQ (fJ T.sE T.nE (eA (k:=k+1) T) hr rfl T.gC (T.F 34 rfl).b (nZ (JA.h (CA.h (xQ (cv 1) eQ)))))) cX)
   (gQ (pZ (PT.nox (JT.h (CT.h (ct2 bJ uJ (cv 0) kQ)))) (mQ (lD T.zN T.tH rfl T.cM (nZ (JA.h (CA.h (xQ kZ eQ)))))) cX)
   (gQ (pZ (PT.nox (JT.h (CT.h (ct2 bJ uJ (cv 0) kQ)))) (mQ (lD T.QH T.Qx rfl T.bO (nZ (JA.h (CA.h (xQ kZ eQ)))))) cX)
   (mQ (vZ (uP F hr rfl ((T.F 23 rfl).m rfl) (T.F 23 rfl).F.kp ((T.F 23 rfl).b) .nil (wZ fun _ _ _ z=>z) (nZ (JA.h (CA.h (xQ (cv 2) eQ))))))))))),?_⟩
  have s0:SRel W.K H (start U0 vs) [some (.int w),some (.int n),some l]:=zX r
  have tst:∀{j:Int} {H':Hp} {t u:TS} {D:Ends} {σ:St},Fw H C H' C->HRel W.K H' C->SRel W.K H' σ [some (.int w),some (.int n),some l]->(∀H2,SRel W.K H2 σ [some (.int w),some (.int n),some l]->HRel W.K H2 C->Fw H C H2 C->w=j->t D σ H2) ->
    (∀H2,SRel W.K H2 σ [some (.int w),some (.int n),some l]->HRel W.K H2 C->Fw H C H2 C->w≠j->u D σ H2)->tIfS (jZ W.K xM (bL (cOp (cEq id) (oK 0) (cC (.int j))))) t u D σ H':=by
   intro j H' t u D σ f' h' s' y n;exact ifX s' h' f' (decide (w=j)) C (yU (x:=.int w) (y:=.int j) rfl ⟨rfl,rfl⟩) fun H1 s1 h1 f1=>nJ (fun e=>y H1 s1 h1 f1 (AH e)) fun e=>n H1 s1 h1 f1 (A2 e)
  obtain⟨m,hm,sh⟩:=sh_one hn hn';refine tst Fw.refl h s0 (fun H1 s1 h1 f1 e=>?_) fun H1 s1 h1 f1 e0=>?_
  .exact lG (by decide) s1 h1 f1 fx (by unfold kT; exact⟨[n,n+1],rfl,rfl,by simp; omega,q0 e⟩)
  refine tst f1 h1 s1 (fun H2 s2 h2 f2 e=>?_) fun H2 s2 h2 f2 e1=>?_
  .exact raiseE s2 h2 f2 fx ⟨zS0 2 rfl,zS0 1 rfl,zS0 1 rfl,_,_,_,rfl,sh,by decide,hm,q1 e⟩
  refine tst f2 h2 s2 (fun H3 s3 h3 f3 e=>?_) fun H3 s3 h3 f3 e2=>?_
  .exact lG (by decide) s3 h3 f3 fx ⟨[n],rfl,rfl,by simp; omega,q2 e⟩
  refine tst f3 h3 s3 (fun H4 s4 h4 f4 e=>?_) fun H4 s4 h4 f4 e3=>?_
  .exact QU s4 h4 f4 fx ⟨_,rfl,q3 e⟩
  refine tst f4 h4 s4 (fun H5 s5 h5 f5 e=>?_) fun H5 s5 h5 f5 e4=>?_
  .exact QU s5 h5 f5 fx ⟨_,rfl,q4 e⟩
  exact callY s5 h5 f5 fx _ (q5 (by omega)) (fun _ _ _ z=>z) fun v H6 t C6 k r6 h6 f6 _=>f _ _ _ _ k .non h6 f6
end
end K16
namespace CL
open PySem PySem.Spec L2
open PyProof.Rows hiding St
def XHas (K:CU)(H:Hp)(e Cl:Addr)(fs:List (Str×PV)):Prop:=(∃gs,XAt H e Cl gs/\FP K H gs fs)\/fs=[]/\H e=some (.ext (XO e Cl none))
section
variable {K:CU}{H:Hp}{C:CH}{σ:St}{ρ:CSt}{D:Ends}
theorem tryY {V n j:Nat}{G:GX}{ca:TCA}{ts:TS}(s:SRel K H σ ρ)(h:HRel K H C)(kN:K1)(kX:XC)(q:ca ρ C fun xs C1=>G xs C1 kN kX)
  (nx:∀H2 t C2,kN t C2->HRel K H2 C2->Fw H C H2 C2->SRel K H2 σ ρ->D.nx σ H2)
  (ex:∀Cl fs C2,kX Cl fs C2->PySem.W.exmOne K (.ref Cl) (.ref V)=some true/\∀e H2,XHas K H2 e Cl fs->n<=e->HRel K H2 C2->Fw H C H2 C2->SRel K H2 σ ρ->ts (D.gone j) (σ.set j (some (.ref e))) H2) :
  sTry0 K V n j (spY K G) [] (jZ K (Reps K) ca) ts D σ H:=by
 refine⟨ρ,C,_,s,h,q,fun vs H1 xs C1 g r h1 f1=>?_⟩;refine⟨xs,C1,kN,kX,by rw[Ad]; exact r,h1,g,fun v H2 t C2 k r2 h2 f2=>?_,fun Cl d H2 fs gs C2 k hd hf h2 f2=>?_,fun Cl H2 C2 k h2 f2=>?_⟩
 .have f:=f1.trans f2
  exact nx H2 t C2 k h2 f (s.imm (f.imm h))
 .obtain ⟨e1,e2⟩:=ex Cl fs C2 k
  refine⟨Cl,rfl,e1,fun e he hl=>?_⟩;have f:=(f1.trans f2).trans (Fw.new (C:=C2) he (.ext (XO e Cl (some d))));have hde:d≠e:=fun z=>by rw[z,he] at hd; cases hd
  exact e2 e _ (.inl ⟨gs,⟨d,vQ,by rw[wQ hde]; exact hd⟩,Paired.mapP hf fun _ _ z=>⟨z.1,z.2.imm (Imm.new he _)⟩⟩) hl (h2.new he _) f (s.imm (f.imm h))
 .obtain ⟨e1,e2⟩:=ex Cl [] C2 k
  refine⟨Cl,rfl,e1,fun e he hl=>?_⟩;have f:=(f1.trans f2).trans (Fw.new (C:=C2) he (.ext (XO e Cl none)));exact e2 e _ (.inr ⟨rfl,vQ⟩) hl (h2.new he _) f (s.imm (f.imm h))
theorem XHas.any {e Cl:Addr}{fs:List (Str×PV)}:XHas K H e Cl fs->XAny H e Cl
 |.inl ⟨gs,x,_⟩=>.inr ⟨gs,x⟩
 |.inr ⟨_,x⟩=>.inl x
theorem xat_new {e Cl q:Addr}{gs:List (Str×V)}{o:HO}(hq:H q=none):XAt H e Cl gs->XAt (upd H q o) e Cl gs:=fun⟨d,h1,h2⟩ =>
 ⟨d,by rw[wQ (fun z=>by rw[z,hq] at h1; cases h1)]; exact h1,by rw[wQ (fun z=>by rw[z,hq] at h2; cases h2)]; exact h2⟩
theorem XHas.new {e Cl q:Addr}{fs:List (Str×PV)}{o:HO}(hq:H q=none):XHas K H e Cl fs->XHas K (upd H q o) e Cl fs
 |.inl ⟨gs,x,f⟩=>.inl ⟨gs,xat_new hq x,Paired.mapP f fun _ _ z=>⟨z.1,z.2.imm (Imm.new hq _)⟩⟩
 |.inr ⟨z,x⟩=>.inr ⟨z,by rw[wQ (fun z=>by rw[z,hq] at x; cases x)]; exact x⟩
theorem XHas.fld {e Cl:Addr}{fs:List (Str×PV)}{f:Str}{t:PV}(x:XHas K H e Cl fs)(l:fs.lookup f=some t):∃gs v,XAt H e Cl gs/\gs.lookup f=some v/\Rep K H v t:=by
 rcases x with ⟨gs,x,fp⟩ | ⟨rfl,_⟩
 .rcases fp.look (f:=f) with ⟨v,t',e1,e2,r⟩ | ⟨_,z⟩
  .rw [l] at e2; cases e2
   exact⟨gs,v,x,e1,r⟩
  .rw [l] at z; cases z
 .cases l
end
end CL
namespace L2
open PySem PySem.Spec
open PyProof.Rows hiding St
theorem gS {X:Cx}{o e:Expr}{to te:TE}{apos cpos:Pos}(K:CU)(ho:PE X o to)(ha:PE X e te)(hK:X.K=K:=by rfl)
  (hbase:attributeBase o "append" X.env (eval o X.env)=eval o X.env:=by rfl)
  (hfew:((backTo cpos (starEach [e] X.env)).all (fun x=>!x.1)&&(backToKw cpos (keywordEach [] X.env)).all (fun x=>x.1.isSome)
   && decide ([e].length+([]:List Keyword).length+(if ([]:List Keyword).isEmpty then 0 else 1) < 30))=true:=by rfl)
  (hline:(apos.endLine==cpos.line)=true:=by rfl) (hs:noStar e=true:=by rfl):PE X (.Call (.Attribute o "append" apos) [e] [] cpos) (tBM K "list" vB to (bD te pN)):=by
 subst hK;exact kO Ba PySem.F.slot_list_append PySem.F.type_list_append xU ho (wX ha rX hs) hbase hfew hline (vX hs)
end L2
namespace K16
open PySem L2 CL
section
variable {W:Wd}{a:Adr}
inductive Zp (W:Wd)(Cl:Addr):Int->List (Str×PV)->List PV->Prop
 |w0 {w:Int} {fs:List (Str×PV)} {x y:PV} (h:w=0\/w=5) (g:PySem.W.XGet W.K Cl) (n1:PySem.W.findIn W.K (.ref Cl) "line" = some none) (n2:PySem.W.findIn W.K (.ref Cl) "word" = some none) (l1:fs.lookup ((("line" : Str)))=some x) (l2:fs.lookup ((("word" : Str)))=some y):Zp W Cl w fs [.tup [x,y]]
 |w1 {fs:List (Str×PV)} {x:PV} (g:PySem.W.XGet W.K Cl) (n1:PySem.W.findIn W.K (.ref Cl) "address" = some none) (l1:fs.lookup ((("address" : Str)))=some x):Zp W Cl 1 fs [x]
 |w2 {fs:List (Str×PV)} {x:PV} (g:PySem.W.XGet W.K Cl) (n1:PySem.W.findIn W.K (.ref Cl) "place" = some none) (l1:fs.lookup ((("place" : Str)))=some x):Zp W Cl 2 fs [x]
 |wo {w:Int} {fs:List (Str×PV)} (h:w=3\/w=4):Zp W Cl w fs []
def pO (W:Wd)(a:Adr)(w:Int)(Q:K1):XC:=fun Cl fs C'=>∃b ks,Kd W a Cl b/\PySem.W.exmOne W.K (.ref Cl) (.ref a.ViewError)=some true/\Zp W Cl w fs ks /\
 ∀p1 p2 o1,C' p1=none->jQ C' p1 (.lst (b.map PV.bl)) p2=none->o1=jQ (jQ C' p1 (.lst (b.map PV.bl))) p2 (.lst (.ref p1::ks))->Q (.ref p2) o1
def sO (W:Wd)(a:Adr)(G:GX):GC:=fun ts C Q=>∃w n l,ts=[.int w,.int n,l]/\eP a G ts C (fun _ C'=>Q .non C') (pO W a w Q)
theorem eqT {σ:St}{H:Hp}{w j:Int}{Qb:Bool->Hp->Prop}(h:σ[0]?=some (some (V.int w)))(q:Qb (decide (w=j)) H):mT (tOp rEq (qA 0) (tC (.int j))) σ H Qb :=
 ⟨.int w,h,rfl,⟨_,rfl,by rw[show decide (V.int w=V.int j)=decide (w=j) from by simp only[V.int.injEq]]; exact q⟩⟩
theorem iA (T:Tx W a){k:Nat}{G:GX}(F:eX W.P W.w W.K W.mg W.base (CXv W.P W.w) (k+3) (a.f 29) (a.d 29) U0 (spY W.K (eP a G))):
  eX W.P W.w W.K W.mg W.base CX0 (k+4) (a.f 30) (a.d 30) U0 (spC W.K (sO W a G)):=by
 have S:=(T.F 30 rfl).s;refine Fun.okJ (T.F 30 rfl).F S ?_ ?_
 .rintro vs H Q E ⟨ts,C,R,r,h,⟨w,n,l,rfl,_⟩,f⟩
  rw[r.len]; rfl
 .rintro cdv A outer s H vs Q E hr ⟨ts,C,R,r,h,⟨w,n,l,rfl,g⟩,f⟩
  refine⟨_,⟨gQ (zK (i:=3) S.nd rfl (Or.inl rfl) Q3) (gQ (ps_try0 (j:=4) F hr rfl ((T.F 29 rfl).m rfl) (T.F 29 rfl).F.kp ((T.F 29 rfl).b) .nil rfl rfl rfl T.kJ S.nd rfl rfl
   (JA.h (CA.h (xQ (cv 0) (xQ (cv 1) (xQ (cv 2) eQ))))) fun e =>
    gQ (zK (i:=3) S.nd rfl (Or.inl rfl) (nG (yX (Q8 (Xg (k:=k+2) T) hr rfl ((T.F 28 rfl).m rfl) (T.F 28 rfl).F.kp ((T.F 28 rfl).b) (yX (nQ (i:=4) rfl (Or.inl rfl)) rX)) rX)))
    (gQ (pZ (PW.pt (pw_or (kG bJ (nQ (i:=0) rfl (Or.inl rfl)) sG (rY _)) (QX (kG bJ (nQ (i:=0) rfl (Or.inl rfl)) sG (rY _))))) (mQ (vZ (gS W.K (nQ (i:=3) rfl (Or.inl rfl)) (Q2 (wX (JE.h (bB W.K ⟨nQ (i:=4) rfl (Or.inl rfl)⟩)) (wX (JE.h (bB W.K ⟨nQ (i:=4) rfl (Or.inl rfl)⟩)) rX rfl) rfl))))) cX)
    (gQ (pZ (kG bJ (nQ (i:=0) rfl (Or.inl rfl)) sG (rY _)) (mQ (vZ (gS W.K (nQ (i:=3) rfl (Or.inl rfl)) (JE.h (bB W.K ⟨nQ (i:=4) rfl (Or.inl rfl)⟩))))) cX)
    (mQ (pZ (kG bJ (nQ (i:=0) rfl (Or.inl rfl)) sG (rY _)) (mQ (vZ (gS W.K (nQ (i:=3) rfl (Or.inl rfl)) (JE.h (bB W.K ⟨nQ (i:=4) rfl (Or.inl rfl)⟩))))) cX)))))
   (mQ (kP (JE.h (CE.h (cv 3))))))⟩,?_⟩
  cases r with
  |@cons v1 _ _ _ r1 r =>
  cases r with
  |@cons v2 _ _ _ r2 r =>
  cases r with
  |@cons v3 _ _ _ r3 r =>
  cases r;cases r1;cases r2;refine tryY (ρ:=[some (.int w),some (.int n),some l,some .non,none]) (C:=C) (.cons (.int w) (.cons (.int n) (.cons r3 (.cons .non (.cons trivial .nil))))) h (fun _ C'=>R .non C') (pO W a w R) g ?_ ?_
  .intro H2 t C2 k h2 f2 s2
   exact⟨_,C2,R,s2,h2,k,fun v' H' t' C' q r3 h3 f3=>f v' H' t' C' q r3 h3 (f2.trans f3)⟩
  .rintro Cl fs C2 ⟨b,ks,kd,exm,td,q⟩
   refine⟨exm,fun e H2 xh hl h2 f2 s2=>?_⟩;refine⟨.ref e,rfl,e,Cl,b,rfl,xh.any,kd,fun p1 p2 p3 x1 x2 n1 n2 n3=>⟨zS0 1 rfl,fun p4 n4=>?_⟩⟩;have xh4:=(((xh.new (o:=x1) n1).new (o:=x2) n2).new (o:=.lst (b.map V.bl)) n3).new (o:=.lst [.ref p3]) n4
   have rb:∀{H':Hp} (bs:List Bool),Reps W.K H' (bs.map V.bl) (bs.map PV.bl):=fun {H'} bs=>by
    induction bs with
    |nil=>exact .nil
    |cons x r ih=>exact .cons (.bl x) ih
   have h2:HRel W.K H2 C2:=h2;have h3:HRel W.K _ (jQ C2 p3 (.lst (b.map PV.bl))):=((h2.new n1 x1).new n2 x2).lay n3 ⟨_,vQ,rb b⟩;have h4:HRel W.K _ (jQ (jQ C2 p3 (.lst (b.map PV.bl))) p4 (.lst [.ref p3])):=h3.lay n4 ⟨_,vQ,.cons (.ref p3) .nil⟩;have m3:C2 p3=none:=((h2.new n1 x1).new n2 x2).fresh n3;have m4:jQ C2 p3 (.lst (b.map PV.bl)) p4=none:=h3.fresh n4;have f3:Fw H C _ (jQ C2 p3 (.lst (b.map PV.bl))):=(f2.trans ((Fw.new n1 x1).trans (Fw.new n2 x2))).trans (Fw.lay n3 (.lst (b.map V.bl)) _)
   have f4:Fw H C _ (jQ (jQ C2 p3 (.lst (b.map PV.bl))) p4 (.lst [.ref p3])):=f3.trans (Fw.lay n4 (.lst [.ref p3]) _);have r3':Rep W.K _ v3 l:=r3.imm (f4.imm h)
   have fin:∀H5,HRel W.K H5 (jQ (jQ C2 p3 (.lst (b.map PV.bl))) p4 (.lst (.ref p3::ks)))->Fw H C H5 (jQ (jQ C2 p3 (.lst (b.map PV.bl))) p4 (.lst (.ref p3::ks))) ->
     tRet (jZ W.K (Rep W.K) (oK 3)) { nx:=fun _ H'=>Q .non H',rt:=Q } [some (.int w),some (.int n),some v3,some (.ref p4),none] H5:=fun H5 h5 f5 =>
    ⟨[some (.int w),some (.int n),some l,some (.ref p4),none],_,R,.cons (.int w) (.cons (.int n) (.cons (r3.imm (f5.imm h)) (.cons (.ref p4) (.cons trivial .nil)))),h5,q p3 p4 _ m3 m4 rfl,fun v' H' t' C' q r3 h3 f6=>f v' H' t' C' q r3 h3 (f5.trans f6)⟩
   generalize hH4:upd (upd (upd (upd H2 p1 x1) p2 x2) p3 (HO.lst (b.map V.bl))) p4 (HO.lst [.ref p3])=H4 at *
   have e4:H4 p4=some (.lst [.ref p3]):=by rw[<- hH4]; exact vQ
   clear hH4;have ty:tyV W.K "list" (.ref p4) H4:=Or.inl ⟨rfl,_,.of e4⟩
   have ap:∀{H5:Hp} {v:V} {t:PV},HRel W.K H5 (jQ (jQ C2 p3 (.lst (b.map PV.bl))) p4 (.lst [.ref p3]))->Fw H C H5 (jQ (jQ C2 p3 (.lst (b.map PV.bl))) p4 (.lst [.ref p3]))->H5 p4=some (.lst [.ref p3])->Rep W.K H5 v t ->
     HRel W.K (upd H5 p4 (.lst [.ref p3,v])) (jQ (jQ C2 p3 (.lst (b.map PV.bl))) p4 (.lst [.ref p3,t]))/\Fw H C (upd H5 p4 (.lst [.ref p3,v])) (jQ (jQ C2 p3 (.lst (b.map PV.bl))) p4 (.lst [.ref p3,t])):=by
    intro H5 v t h5 f5 e5 r5
    have z:jQ (jQ (jQ C2 p3 (.lst (b.map PV.bl))) p4 (.lst [.ref p3])) p4 (.lst [.ref p3,t])=jQ (jQ C2 p3 (.lst (b.map PV.bl))) p4 (.lst [.ref p3,t]):=by
     funext c
     by_cases hc:c=p4
     .subst hc; rw[qQ,qQ]
     .rw [zQ hc,zQ hc,zQ hc]
    have f6:Fw H5 _ (upd H5 p4 (.lst [.ref p3,v])) (jQ (jQ (jQ C2 p3 (.lst (b.map PV.bl))) p4 (.lst [.ref p3])) p4 (.lst [.ref p3,t])):=Fw.put qQ _ _;have h6:=h5.put (o:=.lst [.ref p3,v]) (u:=.lst [.ref p3,t]) e5 rfl ⟨_,vQ,.cons (.ref p3) (.cons (r5.imm (f6.imm h5)) .nil)⟩;rw[z] at h6 f6;exact⟨h6,f5.trans f6⟩
   cases td with
   |wo hw =>
    refine eqT rfl (nJ (fun z=>absurd (AH z) (by omega)) fun _=>eqT rfl (nJ (fun z=>absurd (AH z) (by omega)) fun _=>?_));refine eqT rfl (nJ (fun z=>absurd (AH z) (by omega)) fun _=>?_);refine eqT rfl (nJ (fun z=>absurd (AH z) (by omega)) fun _=>?_);exact fin H4 h4 f4
   |w1 gx n1 l1 =>
    obtain⟨gs,vx,xa,lx,rx⟩:=xh4.fld l1;obtain⟨h6,f6⟩:=ap h4 f4 e4 rx;refine eqT rfl (nJ (fun z=>absurd (AH z) (by omega)) fun _=>eqT rfl (nJ (fun z=>absurd (AH z) (by omega)) fun _=>?_));refine eqT rfl (nJ (fun _=>?_) fun z=>absurd rfl (A2 z));refine⟨.ref p4,rfl,ty,⟨.ref e,rfl,e,Cl,gs,vx,rfl,xa,gx,n1,lx,p4,[.ref p3],vx,rfl,rfl,e4,by show 1 < sizeLine; decide,?_⟩⟩
    refine eqT rfl (nJ (fun z=>absurd (AH z) (by omega)) fun _=>?_);exact fin _ h6 f6
   |w2 gx n1 l1 =>
    obtain⟨gs,vx,xa,lx,rx⟩:=xh4.fld l1;obtain⟨h6,f6⟩:=ap h4 f4 e4 rx;refine eqT rfl (nJ (fun z=>absurd (AH z) (by omega)) fun _=>eqT rfl (nJ (fun z=>absurd (AH z) (by omega)) fun _=>?_));refine eqT rfl (nJ (fun z=>absurd (AH z) (by omega)) fun _=>?_);refine eqT rfl (nJ (fun _=>?_) fun z=>absurd rfl (A2 z));refine⟨.ref p4,rfl,ty,⟨.ref e,rfl,e,Cl,gs,vx,rfl,xa,gx,n1,lx,p4,[.ref p3],vx,rfl,rfl,e4,by show 1 < sizeLine; decide,?_⟩⟩
    exact fin _ h6 f6
   |@w0 _ _ x y hw gx n1 n2 l1 l2 =>
    obtain⟨gs,vx,xa,lx,rx⟩:=xh4.fld l1;obtain⟨gs',vy,xa',ly,ry⟩:=xh4.fld l2
    have body:∀{D:Ends},(∀H6,HRel W.K H6 (jQ (jQ C2 p3 (.lst (b.map PV.bl))) p4 (.lst [.ref p3,.tup [x,y]]))->Fw H C H6 (jQ (jQ C2 p3 (.lst (b.map PV.bl))) p4 (.lst [.ref p3,.tup [x,y]]))->D.nx [some (.int w),some (.int n),some v3,some (.ref p4),some (.ref e)] H6) ->
      QO (tBM W.K "list" vB (qA 3) (bD (tTup (bD (bT W.K (qA 4) "line") (bD (bT W.K (qA 4) "word") pN))) pN)) D [some (.int w),some (.int n),some v3,some (.ref p4),some (.ref e)] H4:=by
     intro D nx;refine⟨.ref p4,rfl,ty,⟨.ref e,rfl,e,Cl,gs,vx,rfl,xa,gx,n1,lx,⟨.ref e,rfl,e,Cl,gs',vy,rfl,xa',gx,n2,ly,⟨zS0 2 rfl,fun p5 n5=>?_⟩⟩⟩⟩;have e5:upd H4 p5 (.tup [vx,vy]) p4=some (.lst [.ref p3]):=(wQ (fun z=>by rw[z,n5] at e4; cases e4)).trans e4;obtain⟨h6,f6⟩:=ap (v:=.ref p5) (t:=.tup [x,y]) (h4.new n5 _) (f4.trans (Fw.new n5 _)) e5 (.tup vQ (.cons (rx.imm (Imm.new n5 _)) (.cons (ry.imm (Imm.new n5 _)) .nil)))
     exact⟨p4,[.ref p3],.ref p5,rfl,rfl,e5,by show 1 < sizeLine; decide,nx _ h6 f6⟩
    refine eqT rfl (nJ (fun _=>body fun H6 h6 f6=>?_) fun z=>eqT rfl (nJ (fun _=>body fun H6 h6 f6=>?_) fun z'=>absurd (A2 z) (by have:=A2 z'; omega)))
    .refine eqT rfl (nJ (fun z=>absurd (AH z) (by omega)) fun _=>?_)
     exact eqT rfl (nJ (fun z=>absurd (AH z) (by omega)) fun _=>fin H6 h6 f6)
    .refine eqT rfl (nJ (fun z=>absurd (AH z) (by omega)) fun _=>?_)
     exact eqT rfl (nJ (fun z=>absurd (AH z) (by omega)) fun _=>fin H6 h6 f6)
end
end K16
namespace CL
open PySem PySem.Spec L2
open PyProof.Rows hiding St
section
variable {X:Cx}{o:Expr}{co:TCE}{c:Addr}{tpos pos p1:Pos}{f:Str}
theorem cs_faug {j k}(hc:Cls X.K c)(hn:NoAttr X.K c f)(ho:CE X o co):CS X (.AugAssign (.Attribute o f tpos) .Add (.Constant (.int j) k p1) pos)
  (fun E ρ C=>co ρ C fun x C1=>∃p dx fs i,x=.ref p/\C1 p=some (.ins c dx fs)/\fs.lookup f=some (.int i)/\fs.length < 1000/\E.nx ρ (jQ C1 p (.ins c dx (cD f (.int (i+j)) fs)))) :=
 ⟨JS.weak ⟨wA ho.h.h sG Xx⟩ fun D σ H zz=>qX zz fun ρ C E s h q f' =>
 ⟨ρ,C,_,s,h,q,fun x H1 px C1 ⟨p,dx,fs,i,e0,e1,e2,ql,q1⟩ rx h1 f1=>by
  subst e0;cases rx;obtain⟨gs,eg,r⟩:=h1 p _ e1
  rcases FP.look r (f:=f) with ⟨v,t',l1,l2,rv⟩ | ⟨l1,l2⟩
  .rw [e2] at l2
   cases l2;cases rv;have m:Imm H1 (upd H1 p (.ins c dx (yJ f (.int (i+j)) gs))):=Imm.mut eg rfl _;exact⟨p,c,dx,gs,.int i,rfl,eg,hc,hn,l1,i,j,rfl,rfl,dx,gs,eg,by rw[Paired.length r]; exact ql,f'.nx σ _ ρ _ q1 ((s.imm (f1.imm h)).imm m) (h1.put eg rfl ⟨_,vQ,Paired.mapP (FP.put (.int (i+j)) r) fun _ _ z=>⟨z.1,z.2.imm m⟩⟩) (f1.trans (Fw.put e1 _ _))⟩
  .rw [e2] at l2; cases l2⟩⟩
end
end CL
namespace K16
open PySem L2 CL
section
variable {W:Wd}{a:Adr}
abbrev rrO (a:Adr)(dx wl:Addr)(l t:Nat):CO:=.ins a.RowReader dx [((("words" : Str)),.ref wl),((("line" : Str)),.int l),((("taken" : Str)),.int t)]
def gRefuse (a:Adr):GX:=fun ts C R RX=>∃(r dx wl:Addr) (l t:Nat),ts=[.ref r]/\C r=some (rrO a dx wl l (t+1))/\t+l<=1000000/\RX a.NoText [((("line" : Str)),.int l),((("word" : Str)),.int t)] C
theorem tD (T:Tx W a){k:Nat}:eX W.P W.w W.K W.mg W.base (CXv W.P W.w) (k+3) (a.f 37) (a.d 37) ["self"] (spY W.K (gRefuse a)):=by
 have S:=(T.F 37 rfl).s;refine Fun.okX (T.F 37 rfl).F S ?_ ?_
 .rintro vs H Q E ⟨ts,C,R,RX,r,h,⟨o,dx,wl,l,t,rfl,_⟩,f⟩
  rw[r.len]; rfl
 .rintro cdv A outer s H vs Q E hr ⟨ts,C,R,RX,r,h,⟨o,dx,wl,l,t,rfl,e1,hb,q⟩,f,fx⟩
  refine⟨_,mQ (fJ T.yK T.kK (bK (k:=k) T) hr rfl T.mK (T.F 32 rfl).b (nZ (JA.h (CA.h (xQ (tX T.uQ T.fZ (cv 0)) (xQ (hX bS jH (tX T.uQ T.oQ (cv 0)) kQ) eQ)))))),?_⟩;have s0:SRel W.K H (start ["self"] vs) [some (.ref o)]:=zX r;refine lG (by decide) s0 h Fw.refl fx ?_;refine hZ e1 rfl (hZ e1 rfl ?_);refine i_i ?_;rw[show((t+1:Nat):Int) - 1=t from by omega];exact⟨[(l:Int),(t:Int)],rfl,rfl,by simp; omega,q⟩
def aP (a:Adr):GX:=fun ts C R RX=>∃(r dx wl:Addr) (ws:List Str) (l t:Nat),ts=[.ref r]/\C r=some (rrO a dx wl l t)/\C wl=some (.lst (ws.map PV.str))/\t+l<=1000000/\ws.length<=1000/\(t < ws.length->RX a.NoText [((("line" : Str)),.int l),((("word" : Str)),.int t)] C)/\(ws.length<=t->R .non C)
theorem aA (T:Tx W a){k:Nat}:eX W.P W.w W.K W.mg W.base (CXv W.P W.w) (k+3) (a.f 38) (a.d 38) ["self"] (spY W.K (aP a)):=by
 have S:=(T.F 38 rfl).s;refine Fun.okX (T.F 38 rfl).F S ?_ ?_
 .rintro vs H Q E ⟨ts,C,R,RX,r,h,⟨o,dx,wl,ws,l,t,rfl,_⟩,f⟩
  rw[r.len]; rfl
 .rintro cdv A outer s H vs Q E hr ⟨ts,C,R,RX,r,h,⟨o,dx,wl,ws,l,t,rfl,e1,e2,hb,hw,q,q'⟩,f,fx⟩
  refine⟨_,mQ (pZ (PT.nox (JT.h (CT.h (ct2 yO xH (tX T.uQ T.oQ (cv 0)) (cln T.jJ (tX T.uQ T.uZ (cv 0))))))) (mQ (fJ T.yK T.kK (bK (k:=k) T) hr rfl T.mK (T.F 32 rfl).b (nZ (JA.h (CA.h (xQ (tX T.uQ T.fZ (cv 0)) (xQ (tX T.uQ T.oQ (cv 0)) eQ))))))) cX),?_⟩;have s0:SRel W.K H (start ["self"] vs) [some (.ref o)]:=zX r;refine ifX s0 h Fw.refl (decide (t < ws.length)) C ?_ fun H1 s1 h1 f1=>nJ (fun e=>?_) fun e=>?_
  .refine hZ e1 rfl (hZ e1 rfl (nM e2 (i_i ?_)))
   rw[AL];exact⟨by simp,rfl⟩
  .refine lG (by decide) s1 h1 f1 fx (hZ e1 rfl (hZ e1 rfl ⟨[(l:Int),(t:Int)],rfl,rfl,by simp; omega,q (AH e)⟩))
  .exact f .non H1 .non C (q' (by have:=A2 e; omega)) .non h1 f1
def gNext (a:Adr):GX:=fun ts C R RX=>∃(r dx wl:Addr) (ws:List Str) (l t:Nat),ts=[.ref r]/\C r=some (rrO a dx wl l t)/\C wl=some (.lst (ws.map PV.str))/\wl≠r/\t+l<=1000000/\t<=ws.length/\(t=ws.length->RX a.NoText [((("line" : Str)),.int l),((("word" : Str)),.int t)] C) /\
 ∀w,ws[t]?=some w->R (.str w) (jQ C r (rrO a dx wl l (t+1)))
theorem cP (T:Tx W a){k:Nat}:eX W.P W.w W.K W.mg W.base (CXv W.P W.w) (k+3) (a.f 36) (a.d 36) ["self"] (spY W.K (gNext a)):=by
 have S:=(T.F 36 rfl).s;refine Fun.okX (T.F 36 rfl).F S ?_ ?_
 .rintro vs H Q E ⟨ts,C,R,RX,r,h,⟨o,dx,wl,ws,l,t,rfl,_⟩,f⟩
  rw[r.len]; rfl
 .rintro cdv A outer s H vs Q E hr ⟨ts,C,R,RX,r,h,⟨o,dx,wl,ws,l,t,rfl,e1,e2,ne,hb,hw,q,q'⟩,f,fx⟩
  refine⟨_,gQ (pZ (PT.nox (JT.h (CT.h (ct2 bJ uJ (tX T.uQ T.oQ (cv 0)) (cln T.jJ (tX T.uQ T.uZ (cv 0))))))) (mQ (fJ T.yK T.kK (bK (k:=k) T) hr rfl T.mK (T.F 32 rfl).b (nZ (JA.h (CA.h (xQ (tX T.uQ T.fZ (cv 0)) (xQ (tX T.uQ T.oQ (cv 0)) eQ))))))) cX)
   (gQ (dZ (JS.h (CS.h (cs_faug T.uQ T.oQ (cv 0))))) (mQ (dZ (JS.h (CS.h (lQ (cx (tX T.uQ T.uZ (cv 0)) (hX bS jH (tX T.uQ T.oQ (cv 0)) kQ)))))))),?_⟩
  have s0:SRel W.K H (start ["self"] vs) [some (.ref o)]:=zX r;refine ifX s0 h Fw.refl (decide (t=ws.length)) C ?_ fun H1 s1 h1 f1=>nJ (fun e=>?_) fun e=>?_
  .refine hZ e1 rfl (hZ e1 rfl (nM e2 (yU (b:=decide (t=ws.length)) ?_ ⟨rfl,rfl⟩)))
   rw[AL];show some _=some _
   congr 1
   simp[PV.int.injEq]
   omega
  .exact lG (by decide) s1 h1 f1 fx (hZ e1 rfl (hZ e1 rfl ⟨[(l:Int),(t:Int)],rfl,rfl,by simp; omega,q (AH e)⟩))
  .have e:=A2 e
   have lt:t < ws.length:=by omega
   refine sN s1 h1 (fun ρ' C'=>ρ'=[some (.ref o)]/\C'=jQ C o (rrO a dx wl l (t+1))) ⟨o,dx,_,t,rfl,e1,rfl,by show 3 < 1000; decide,rfl,rfl⟩ ?_;rintro σ2 H2 _ _ ⟨rfl,rfl⟩ s2 h2 f2;refine retX s2 h2 R ?_ fun v H' t' C' k r' h' f'=>f v H' t' C' k r' h' (f1.trans (f2.trans f'));refine hZ qQ rfl (hZ qQ rfl (i_i ?_));rw[show((t+1:Nat):Int) - 1=t from by omega];refine jW ((zQ ne).trans e2) ?_ (q' ws[t] (AN lt))
   exact cB (by rw[Ah,AN lt]; rfl)
end
def lO (c:Nat):Bool:=!(Builtin.Str.occurrences ("abcdefghijklmnopqrstuvwxyz" : Str) ⟨#[c]⟩ 0 ("abcdefghijklmnopqrstuvwxyz" : Str).length 1).isEmpty
def wY (z:Str):Bool:=(decide ((1:Int)<=(z.length:Nat))&&decide (((z.length:Nat):Int)<=8))&&z.cps.toList.all lO
section
variable {W:Wd}{a:Adr}
inductive gNa (ts:List PV)(C:CH)(Q:K1):Prop
 |mk (z:Str) (z0:ts=[.str z]) (z2:z.length<=sizeLine) (z3:∀C',Gr C C'->Q (.bl (wY z)) C'):gNa ts C Q
theorem lY (T:Tx W a){k:Nat}:Ok W a (k+1) 1 ["thing"] gNa:=by
 have S:=(T.F 1 rfl).s
 refine(T.F 1 rfl).ok (fun ts C R h=>?_) fun cdv A outer s H E hr=>⟨_,(yQ (qZ (cw_pt (cw_or (nX (mX (xX dX zJ rfl T.pQ rfl (xQ (cv 0) (ca1 (mY rfl T.z_str rfl)))))) (cw_or1 (nX (vF pU pU wW wW kQ (cln T.jJ (cv 0)) (oX (v:=.int 8) rfl T.zD ⟨_,rfl⟩ (fun _=>.int _))))))) (fQ (lQ bZ)) gX)
  (fQ (lQ (xX (uW rfl) mG rfl T.oH rfl (ca1 (aW rfl (S.c (by decide +kernel)) (S.k (L:=0) rfl rfl rfl (by decide +kernel)) (X6 (cv 0)) (fun _ _ _ _ _=>yW) (fun _ _ _ _ _=>(uH nD vE (cv 0) (oX (v:=.str "abcdefghijklmnopqrstuvwxyz") rfl T.XG ⟨_,rfl⟩ (fun _=>.str _)) rfl)))))))),?_⟩
 .obtain ⟨_,rfl,_⟩:=h; rfl
 rintro ts C R ⟨z,rfl,hz,q⟩;refine rK rfl rfl (jK (len_z hz ?_));have no:wY z=false->R (.bl false) C:=fun e=>by have:=q C Gr.refl; rwa [e] at this
 refine i_i (rA (fun h1=>?_) fun h1=>?_)
 .apply i_i
  cases h2:decide (((z.length:Nat):Int)<=8) with
  |false=>exact no (by delta wY; rw[h1,h2]; rfl)
  |true =>
   refine jK (tZ (uE (fun s=>match s with | .str u=>.bl (!(Builtin.Str.occurrences ("abcdefghijklmnopqrstuvwxyz" : Str) u 0 ("abcdefghijklmnopqrstuvwxyz" : Str).length 1).isEmpty) | _=>.non) (rV z) [] C Gr.refl ?_ (fun x hx C1 Q' g hq=>?_) fun p C1 h3 g m=>?_))
   .delta rV
    rwa [AL,B7,Nat.zero_add,Array.length_toList]
   .obtain ⟨c,_,rfl⟩:=BA.1 hx
    exact inT_s (hq C1 Gr.refl)
   .apply fR (bs:=z.cps.toList.map lO) (by rw[m]; delta rV; rw[Bf,Bf]; rfl)
    have e:wY z=(z.cps.toList.map lO).all id:=by
     show((decide ((1:Int)<=(z.length:Nat))&&decide (((z.length:Nat):Int)<=8))&&z.cps.toList.all lO)=_;rw[h1,h2,List.all_map]
     rfl
    exact e▸q C1 g
 .exact no (by delta wY; rw[h1]; rfl)
end
end K16
namespace CL
open PySem PySem.Spec L2
open PyProof.Rows hiding St
section
variable {K:CU}{H H0:Hp}{C C0:CH}{σ:St}{ρ:CSt}{D:Ends}{RX kX:XC}{E:XK}
theorem zV {cl:Addr}{m:Str}{co:TCE}{G:GX}{Qv:VK}(s:SRel K H σ ρ)(h:HRel K H C)(f:Fw H0 C0 H C)(x:XRelY K H0 C0 RX E)(kN:K1)(q:co ρ C fun y C1=>nU cl m y C1/\G [y] C1 kN kX)(hx:∀Cl fs C',kX Cl fs C'->RX Cl fs C')
  (nx:∀v H2 t C2,kN t C2->Rep K H2 v t->HRel K H2 C2->Fw H0 C0 H2 C2->SRel K H2 σ ρ->Qv v H2):dN cl m (spY K G) [] E (jZ K (Rep K) co) pN σ H Qv:=by
 refine⟨ρ,C,_,s,h,q,fun y H1 py C1 ⟨hi,q1⟩ ry h1 f1=>?_⟩;obtain⟨a,dx,gs,rfl,rfl,eg,lk⟩:=gG hi ry h1;refine⟨a,dx,gs,rfl,eg,lk,?_⟩;refine⟨[.ref a],C1,kN,kX,.cons (.ref a) .nil,h1,q1,fun v H3 t C3 k r3 h3 f3=>?_,x.step (f.trans f1) hx⟩;have f3':=f1.trans f3;exact nx v H3 t C3 k r3 h3 (f.trans f3') (s.imm (f3'.imm h))
theorem ifG {ct:TCT}{u v:TS}(s:SRel K H σ ρ)(h:HRel K H C)(f:Fw H0 C0 H C)(k:Bool->CH->Prop)(q:ct ρ C k)
  (nx:∀b C1 H',k b C1->SRel K H' σ ρ->HRel K H' C1->Fw H0 C0 H' C1->if b=true then u D σ H' else v D σ H'):tIfS (jZ K xM ct) u v D σ H:=by
 refine⟨ρ,C,_,s,h,q,?_⟩;rintro _ H4 b C1 hk rfl h4 f4;exact nx _ _ H4 hk (s.imm (f4.imm h)) h4 (f.trans f4)
theorem mth {mg:Str->Option Value}{cn m q:Str}{st:Stmt}{ps N:List Str}{fa c:Addr}{fd:FuncData}(T:FI K mg (some cn) m q st ps N fa fd)(hm:mg cn=some (.ref c)):Qi K c m fa:=⟨(T.M _ _ rfl hm).1,(T.M _ _ rfl hm).2,T.F.kp⟩
end
end CL
namespace K16
open PySem L2 CL
section
variable {W:Wd}{a:Adr}
def gV (a:Adr):GX:=fun ts C R RX=>∃(r dx wl:Addr) (ws:List Str) (l t:Nat),ts=[.ref r]/\C r=some (rrO a dx wl l t)/\C wl=some (.lst (ws.map PV.str))/\wl≠r/\t+l+1<=1000000/\t<=ws.length/\(∀z∈ws,z.length<=sizeLine)/\(t=ws.length->RX a.NoText [((("line" : Str)),.int l),((("word" : Str)),.int t)] C) /\
 ∀w C',ws[t]?=some w->Gr (jQ C r (rrO a dx wl l (t+1))) C'->(wY w=false->RX a.NoText [((("line" : Str)),.int l),((("word" : Str)),.int t)] C')/\(wY w=true->R (.str w) C')
theorem ok_name (T:Tx W a){k:Nat}:OkX W a (k+4) 40 ["self"] (gV a):=by
 have S:=(T.F 40 rfl).s;refine Fun.okX (T.F 40 rfl).F S ?_ ?_
 .rintro vs H Q E ⟨ts,C,R,RX,r,h,⟨o,dx,wl,ws,l,t,rfl,_⟩,f⟩
  rw[r.len]; rfl
 .rintro cdv A outer s H vs Q E hr ⟨ts,C,R,RX,r,h,⟨o,dx,wl,ws,l,t,rfl,e1,e2,ne,hb,hw,hz,q,q'⟩,f,fx⟩
  refine⟨_,gQ (zK (i:=1) S.nd rfl (Or.inl rfl) (lZ (gJ (JE.h (CE.h (cv 0)))) T.uQ (mth (T.F 36 rfl) T.fX) (cP (k:=k) T) hr (T.F 36 rfl).b .nil (wZ fun _ _ _ z=>z)))
   (gQ (pZ (PT.nox (JT.h (CT.h (nX (mX (cf (T.F 1 rfl) (lY T) hr (ca1 (cv 1)))))))) (mQ (vZ (lZ (gJ (JE.h (CE.h (cv 0)))) T.uQ (mth (T.F 37 rfl) T.fX) (tD (k:=k) T) hr (T.F 37 rfl).b .nil (wZ fun _ _ _ z=>z)))) cX)
   (mQ (dZ (JS.h (CS.h (lQ (cv 1))))))),?_⟩
  have s0:SRel W.K H (start ["self","word"] vs) [some (.ref o),none]:=zX r;refine zV (kX:=RX) s0 h Fw.refl fx (fun t' C'=>∃w,ws[t]?=some w/\t'=.str w/\C'=jQ C o (rrO a dx wl l (t+1))) ⟨iX e1 rfl,o,dx,wl,ws,l,t,rfl,e1,e2,ne,by omega,hw,q,fun w hw=>⟨w,hw,rfl,rfl⟩⟩ (fun _ _ _ z=>z) ?_;rintro v H2 _ _ ⟨w,hw',rfl,rfl⟩ r2 h2 f2 s2;have s3:SRel W.K H2 _ [some (.ref o),some (.str w)]:=s2.set r2 1;refine ifG s3 h2 f2 (fun b C1=>b = !wY w/\Gr (jQ C o (rrO a dx wl l (t+1))) C1) ⟨w,rfl,hz w (Ak hw'),fun C' g=>⟨rfl,g⟩⟩ ?_
  rintro _ C4 H4 ⟨rfl,g4⟩ s4 h4 f4;obtain⟨q1,q2⟩:=q' w C4 hw' g4;have e4:C4 o=some (rrO a dx wl l (t+1)):=g4 _ _ qQ;refine nJ (fun e=>?_) fun e=>?_
  .exact zV (kX:=RX) s4 h4 f4 fx (fun _ _=>False) ⟨iX e4 rfl,o,dx,wl,l,t,rfl,e4,by omega,q1 (by simpa using e)⟩ (fun _ _ _ z=>z) fun _ _ _ _ z=>z.elim
  .exact retX s4 h4 R (q2 (by simpa using e)) fun v' H' t' C' k r' h' f'=>f v' H' t' C' k r' h' (f4.trans f')
end
theorem qG {C:CH}{p:Addr}{x y:CO}:jQ (jQ C p x) p y=jQ C p y:=by
 funext c
 by_cases hc:c=p
 .subst hc; rw[qQ,qQ]
 .rw [zQ hc,zQ hc,zQ hc]
section
variable {W:Wd}{a:Adr}
abbrev eJ (z:Str):List Str:=Txt.split z " "
inductive gRow (a:Adr)(ts:List PV)(C:CH)(Q:K1):Prop
 |mk (r dx:Addr) (z:Str) (l:Nat) (z0:ts=[.ref r,.str z,.int l]) (z1:C r=some (.ins a.RowReader dx [])) (z2:z.length<=sizeLine) (z3:(Builtin.Str.partsBetween z (Builtin.Str.occurrences z " " 0 z.length (z.length+1)) (" " : Str).length).length<=sizeLine) (z4:(eJ z).length<=sizeLine)
   (z5:∀p,C p=none->Q .non (jQ (jQ C p (.lst ((eJ z).map PV.str))) r (rrO a dx p l 0))):gRow a ts C Q
theorem ok_row (T:Tx W a){k:Nat}:Ok W a (k+1) 35 ["self","row","line"] (gRow a):=by
 have S:=(T.F 35 rfl).s;refine(T.F 35 rfl).ok (fun ts C R h=>?_) fun cdv A outer s H E hr=>⟨_,(yQ (vW T.uQ T.uZ (cv 0) (X7 (cv 1) kZ)) (yQ (vW T.uQ T.fZ (cv 0) (cv 2)) (fQ (vW T.uQ T.oQ (cv 0) kQ)))),?_⟩
 .obtain ⟨_,_,_,_,rfl,_⟩:=h; rfl
 rintro ts C R ⟨r,dx,z,l,rfl,e1,h1,h2,h3,q⟩;refine⟨z,rfl," ",rfl,rfl,h1,h2,h3,fun p hp=>?_⟩;have n:r≠p:=fun z=>by rw[z,hp] at e1; cases e1
 refine sV ((zQ n).trans e1) (by decide) (sV qQ (by show 1 < 1000; decide) (sV qQ (by show 2 < 1000; decide) ?_));rw[qG,qG];exact q p hp
end
end K16
namespace CL
open PySem PySem.Spec L2
open PyProof.Rows hiding St
theorem nK {X:Cx}{sts:List Stmt}:CB X sts (fun _ _ _=>False):=⟨⟨fun _ _ _ _ _ _ h=>by obtain⟨_,_,_,_,_,q,_⟩:=h; exact q.elim⟩⟩
def cInKd (kvs:List (Key×V))(d:Addr):R2C:=fun x y C Q=>∃z,x=.str z/\y=.ref d/\Q (.bl (bV kvs (Sum.inr z)).isSome) C
theorem yF {K:CU}{kvs:List (Key×V)}{d:Addr}:Cop K (fun x y H Q=>∃z,x=.str z/\y=.ref d/\Q (.bl (bV kvs (Sum.inr z)).isSome) H) (cInKd kvs d):=fun x y px py H C Q R rx ry h ⟨z,e1,e2,q⟩ f=>by
 subst e1 e2;cases rx;cases ry;exact⟨z,rfl,rfl,f _ _ _ _ q (.bl _) h Fw.refl⟩
end CL
namespace K16
open PySem L2 CL
section
variable {W:Wd}{a:Adr}
abbrev hrO (a:Adr)(dx p1 p2:Addr)(w:Str):CO:=.ins a.HouseReader dx [((("parts" : Str)),.ref p1),((("around" : Str)),.ref p2),((("ahead" : Str)),.str w)]
inductive gHr (a:Adr)(ts:List PV)(C:CH)(Q:K1):Prop
 |mk (r dx:Addr) (z0:ts=[.ref r]) (z1:C r=some (.ins a.HouseReader dx []))
   (z5:∀p1 p2,C p1=none->jQ C p1 (.lst []) p2=none->Q .non (jQ (jQ (jQ C p1 (.lst [])) p2 (.lst [])) r (hrO a dx p1 p2 ""))):gHr a ts C Q
theorem ok_hr (T:Tx W a){k:Nat}:Ok W a (k+1) 45 ["self"] (gHr a):=by
 have S:=(T.F 45 rfl).s;refine(T.F 45 rfl).ok (fun ts C R h=>?_) fun cdv A outer s H E hr=>⟨_,(yQ (vW T.bQ T.cZ (cv 0) (iQ eQ)) (yQ (vW T.bQ T.cQ (cv 0) (iQ eQ)) (fQ (vW T.bQ T.mJ (cv 0) kZ)))),?_⟩
 .obtain ⟨_,_,rfl,_⟩:=h; rfl
 rintro ts C R ⟨r,dx,rfl,e1,q⟩;refine⟨Aa _,fun p hp=>?_⟩;have n:r≠p:=fun z=>by rw[z,hp] at e1; cases e1
 refine sV ((zQ n).trans e1) (by decide) ⟨Aa _,fun p2 hp2=>?_⟩;have n2:p2≠r:=fun z=>by rw[z,qQ] at hp2; cases hp2
 have hp2':jQ C p (.lst []) p2=none:=by rwa [zQ n2] at hp2
 refine sV ((zQ n2.symm).trans qQ) (by show 1 < 1000; decide) (sV qQ (by show 2 < 1000; decide) ?_)
 have e:∀{x y z:CO},jQ (jQ (jQ (jQ (jQ C p (.lst [])) r x) p2 (.lst [])) r y) r z=jQ (jQ (jQ C p (.lst [])) p2 (.lst [])) r z:=by
  intro x y z
  funext c
  by_cases h1:c=r
  .subst h1; rw[qQ,qQ]
  .rw [zQ h1,zQ h1,zQ h1]
   by_cases h2:c=p2
   .subst h2; rw[qQ,qQ]
   .rw [zQ h2,zQ h2,zQ h1]
 rw[e];exact q p p2 hp hp2'
end
section
variable {W:Wd}{a:Adr}
inductive gMs (a:Adr)(ts:List PV)(C:CH)(Q:K1):Prop
 |mk (r dx p1 p2:Addr) (w ah:Str) (ars:List PV) (b:Bool) (z0:ts=[.ref r,.str w]) (z1:C r=some (hrO a dx p1 p2 ah)) (z2:C p2=some (.lst ars))
   (z3:(w = "part"/\b=decide (ars.length < 2))\/(w = "when"/\b=decide (0 < ars.length))\/(w = "end"/\ars.length < 2/\b=false)) (z4:Q (.bl b) C):gMs a ts C Q
theorem ok_may (T:Tx W a){k:Nat}:Ok W a (k+1) 48 ["self","word"] (gMs a):=by
 have S:=(T.F 48 rfl).s
 refine(T.F 48 rfl).ok (fun ts C R h=>?_) fun cdv A outer s H E hr=>⟨_,(yQ (qZ (wV (mM T.bY) yF (cv 1) (oX (v:=.ref a.RIGHT_BEHIND) rfl T.gY rfl (fun _=>.ref _)) rfl) nK gX)
  (yQ (qZ (wV (bM (aM hr)) kH (cv 1) (oX (v:=.ref a.BEGINNING) rfl T.jF rfl (fun H=>.kt (T.kM H) (.cons (.str _) (.cons (.str _) (.cons (.str _) (.cons (.str _) (.cons (.str _) .nil))))))) rfl) (fQ (lQ (uH sD uU (cln T.jJ (tX T.bQ T.cQ (cv 0))) kQ (rY _)))) gX)
  (yQ (qZ (ct2 bJ uJ (cv 1) kZ) (fQ (lQ (uH yO xH (cln T.jJ (tX T.bQ T.cQ (cv 0))) kQ (rY _)))) gX)
  (yQ (qZ (ct2 yO xH (cln T.jJ (tX T.bQ T.cQ (cv 0))) kQ) (fQ (lQ bZ)) gX) nK)))),?_⟩
 .obtain ⟨_,_,_,_,_,_,_,_,rfl,_⟩:=h; rfl
 rintro ts C R ⟨r,dx,p1,p2,w,ah,ars,b,rfl,e1,e2,hw,q⟩
 rcases hw with ⟨rfl,rfl⟩ | ⟨rfl,rfl⟩ | ⟨rfl,h2,rfl⟩
 .refine ⟨_,rfl,rfl,qV rfl (tZ (vL rfl rfl (qV rfl (tZ (yU rfl (fP rfl (hZ e1 rfl (nM e2 (i_i ?_)))))))))⟩
  rw[show decide ((ars.length:Int) < 2)=decide (ars.length < 2) from by simp; omega];exact q
 .refine ⟨_,rfl,rfl,qV rfl (tZ (vL rfl rfl (fP rfl (hZ e1 rfl (nM e2 (i_i ?_))))))⟩
  rw[show decide ((ars.length:Int) > 0)=decide (0 < ars.length) from by simp];exact q
 .refine ⟨_,rfl,rfl,qV rfl (tZ (vL rfl rfl (qV rfl (tZ (yU rfl (qV rfl (tZ (hZ e1 rfl (nM e2 (i_i (fP ?_ q)))))))))))⟩
  exact A7 (by omega)
end
end K16
namespace CL
open PySem PySem.Spec L2
open PyProof.Rows hiding St
theorem uF {S:CH->Prop}{C0:CH}{c:TCE}{ρ:CSt}{Q:K1}(hS:∀C,Gr C0 C->S C)(f:PV->PV):∀xs acc C,Gr C0 C->acc.length+xs.length<=sizeLine->(∀x∈xs,∀C Q',Gr C0 C->(∀C',Gr C C'->Q' (f x) C')->c (some x::ρ) C Q')->(∀p C',C0 p=none->Gr C0 C'->C' p=some (.lst (acc++xs.map f))->Q (.ref p) C')->tY S Zg c ρ Q xs acc C
 |[],acc,C,g,_,_,q=>⟨hS C g,fun p hp=>q p _ (xV g hp) (g.trans (Gr.new hp _)) (by rw[qQ,List.map_nil,Ad])⟩
 |x::xs,acc,C,g,hl,h,q=>by
  rw[AZ] at hl;refine⟨hS C g,h x AW C _ g fun C' g'=>⟨by omega,uF hS f xs _ C' (g.trans g') (by rw[Al,List.length_singleton]; omega) (fun y hy=>h y (AJ _ hy)) fun p C2 h1 h2 h3=>q p C2 h1 h2 ?_⟩⟩;rw[h3,List.append_assoc]
  rfl
theorem compL_s {i:Nat}{t:TCT}{c:TCE}{ρ:CSt}{C:CH}{Q:K1}{p:Addr}{xs:List PV}(e:ρ[i]?=some (some (.ref p)))(m:C p=some (.lst xs))(q:tY (fun C=>C p=some (.lst xs)) t c ρ Q xs [] C):dF (oK i) t c ρ C Q:=by
 unfold dF oK
 simp only[e,m]
 exact q
end CL
namespace K16
open PySem L2 CL
def cz (C:CH):Nat->PV->PV
 |0,x=>x
 |n+1,.ref p=>match C p with
  |some (.lst xs)=>.tup (xs.map (cz C n))
  |_=>.ref p
 |_+1,x=>x
inductive CzOk (C:CH):Nat->PV->Prop
 |str {n:Nat} {z:Str}:CzOk C n (.str z)
 |lst {n:Nat} {p:Addr} {xs:List PV} (h:C p=some (.lst xs)) (l:xs.length<=1000) (r:∀x∈xs,CzOk C n x):CzOk C (n+1) (.ref p)
theorem CzOk.grow {C C':CH}(g:∀p xs,C p=some (.lst xs)->C' p=some (.lst xs)){n:Nat}{x:PV}(h:CzOk C n x):CzOk C' n x:=by
 induction h with
 |str=>exact .str
 |lst h l _ ih=>exact .lst (g _ _ h) l ih
theorem zH {C C':CH}(g:∀p xs,C p=some (.lst xs)->C' p=some (.lst xs)){n:Nat}{x:PV}(h:CzOk C n x):cz C' n x=cz C n x:=by
 induction h with
 |@str n z=>cases n<;>rfl
 |@lst n p xs h l r ih =>
  show(match C' p with | some (.lst xs)=>_ | _=>_)=(match C p with | some (.lst xs)=>_ | _=>_);rw[g _ _ h,h];show PV.tup _=PV.tup _;exact BE PV.tup (List.map_congr_left ih)
section
variable {W:Wd}{a:Adr}
inductive gCl (n:Nat)(ts:List PV)(C:CH)(Q:K1):Prop
 |mk (x:PV) (z0:ts=[x]) (z1:CzOk C n x) (z2:∀C',Gr C C'->Q (cz C n x) C'):gCl n ts C Q
theorem eD (T:Tx W a){k:Nat}:∀n,Ok W a (k+n+1) 25 ["thing"] (gCl n):=by
 intro n
 induction n with
 |zero =>
  have S:=(T.F 25 rfl).s;refine(T.F 25 rfl).ok (fun ts C R h=>?_) fun cdv A outer s H E hr=>⟨_,(yQ (qZ (mX (xX dX zJ rfl T.pQ rfl (xQ (cv 0) (ca1 (mY (n:="list") rfl T.Qw rfl))))) nK gX) (fQ (lQ (cv 0)))),?_⟩
  .obtain ⟨_,rfl,_⟩:=h; rfl
  rintro ts C R ⟨x,rfl,hx,q⟩;cases hx;exact rK rfl rfl (qV rfl (tZ (q C Gr.refl)))
 |succ n ih =>
  have S:=(T.F 25 rfl).s;have Zr:=ih
  refine(T.F 25 rfl).ok (fun ts C R h=>?_) fun cdv A outer s H E hr=>⟨_,(yQ (qZ (mX (xX dX zJ rfl T.pQ rfl (xQ (cv 0) (ca1 (mY (n:="list") rfl T.Qw rfl))))) (fQ (lQ (ctp T.sJ (gR rfl (S.c (by decide +kernel)) (S.k (L:=0) rfl rfl rfl (by decide +kernel)) (cv 0) (fun _ _ _ _ _=>yW) (fun _ _ _ _ _=>(cf (T.F 25 rfl) Zr hr (ca1 (cv 0)))))))) gX)
   (fQ (lQ (cv 0)))),?_⟩
  .obtain ⟨_,rfl,_⟩:=h; rfl
  rintro ts C R ⟨x,rfl,hx,q⟩
  cases hx with
  |str=>exact rK rfl rfl (qV rfl (tZ (q C Gr.refl)))
  |@lst _ p xs h l r =>
   have q:∀C',Gr C C'->R (.tup (xs.map (cz C n))) C':=fun C' g=>by
    have:=q C' g
    rwa [show cz C (n+1) (.ref p)=.tup (xs.map (cz C n)) from by show(match C p with | some (.lst xs)=>_ | _=>_)=_; rw[h]] at this
   refine rK rfl (k:=.lst) (by simp[tyP,h]) (fP rfl ?_);refine compL_s rfl h (uF (C0:=C) (fun C' g=>g _ _ h) (cz C n) xs [] C Gr.refl (by rw[B7,Nat.zero_add]; exact AO l (by decide)) (fun x hx C1 Q' g hq=>?_) fun p' C1 _ g m=>QN m (q C1 g));exact⟨x,rfl,(r x hx).grow (fun _ _ h=>g _ _ h),fun C' g'=>by rw[zH (fun _ _ h=>g _ _ h) (r x hx)]; exact hq C' g'⟩
end
theorem XS {C:CH}{a b:Addr}{xs ys:List PV}{Q:K1}(m1:C a=some (.lst xs))(m2:C b=some (.lst ys))(l:xs.length+ys.length<=sizeLine)(q:Q .non (jQ C a (.lst (xs++ys)))):dB (.ref a) [.ref b] C Q:=by
 unfold dB
 simp only[m1,m2]
 exact⟨l,q⟩
section
variable {W:Wd}{a:Adr}
structure BegP (a:Adr)(C C':CH)(h r dx dr p1 p2 wl:Addr)(ah w:Str)(l t:Nat)(ps ars:List PV):Prop where
 ex:∃p5 q1 q2 q3 q4,C' h=some (hrO a dx p1 p5 ah)/\C' p5=some (.lst [.ref q4])/\C' q4=some (.lst [.str w,.ref q1,.ref q2,.ref q3])/\C' q1=some (.lst [])/\C' q2=some (.lst [])/\C' q3=some (.lst [])/\C p5=none
 pt:C' p1=some (.lst (ps++ars.map (cz C 2)))
 rw:C' r=some (rrO a dr wl l (t+1))
 fr:ExS [h,p1,r] C C'
def XJ (a:Adr):GX:=fun ts C R RX=>∃(h r dx dr p1 p2 wl:Addr) (ah:Str) (ws:List Str) (l t:Nat) (ps ars:List PV),ts=[.ref h,.ref r]/\C h=some (hrO a dx p1 p2 ah)/\C p1=some (.lst ps)/\C p2=some (.lst ars)/\C r=some (rrO a dr wl l t)/\C wl=some (.lst (ws.map PV.str)) /\
 (p1≠p2/\p1≠wl/\p2≠wl)/\ps.length+ars.length<=1000/\(∀x∈ars,CzOk C 2 x)/\t+l+1<=1000000/\t<=ws.length/\(∀z∈ws,z.length<=sizeLine) /\
 (t=ws.length->RX a.NoText [((("line" : Str)),.int l),((("word" : Str)),.int t)] C) /\
 ∀w,ws[t]?=some w->(wY w=false->∀C',ExS [h,p1,r] C C'->RX a.NoText [((("line" : Str)),.int l),((("word" : Str)),.int t)] C')/\(wY w=true->∀C',BegP a C C' h r dx dr p1 p2 wl ah w l t ps ars->R .non C')
theorem Xk (T:Tx W a){k:Nat}:OkX W a (k+6) 49 ["self","row"] (XJ a):=by
 have S:=(T.F 49 rfl).s;refine Fun.okX (T.F 49 rfl).F S ?_ ?_
 .rintro vs H Q E ⟨ts,C,R,RX,r,h,⟨_,_,_,_,_,_,_,_,_,_,_,_,_,rfl,_⟩,f⟩
  rw[r.len]; rfl
 .rintro cdv A outer s H vs Q E hr ⟨ts,C,R,RX,r,hh,⟨h,o,dx,dr,p1,p2,wl,ah,ws,l,t,ps,ars,rfl,e1,e2,e3,e4,e5,⟨n1,n2,n3⟩,hl,hz,hb,hw,hs,q,q'⟩,f,fx⟩
  refine⟨_,gQ (zK (i:=2) S.nd rfl (Or.inl rfl) (lZ (gJ (JE.h (CE.h (cv 1)))) T.uQ (mth (T.F 40 rfl) T.fX) (ok_name (k:=k+1) T) hr (T.F 40 rfl).b .nil (wZ fun _ _ _ z=>z)))
   (gQ (dZ (JS.h (CS.h (fB (ce_bm Ba PySem.F.slot_list_extend PySem.F.type_list_extend (fun p s σ H x vs v us Q=>jI p s σ H x vs v us Q) qT (tX T.bQ T.cZ (cv 0)) (ca1 (gR rfl (S.c (by decide +kernel)) (S.k (L:=0) rfl rfl rfl (by decide +kernel)) (tX T.bQ T.cQ (cv 0)) (fun _ _ _ _ _=>yW) (fun _ _ _ _ _=>(cf (T.F 25 rfl) (eD (k:=k+2) T 2) hr (ca1 (cv 0)))))))))))
   (mQ (dZ (JS.h (CS.h (vW T.bQ T.cQ (cv 0) (iQ (ca1 (iQ (xQ (cv 2) (xQ (iQ eQ) (xQ (iQ eQ) (ca1 (iQ eQ)))))))))))))),?_⟩
  have s0:SRel W.K H (start ["self","row","name"] vs) [some (.ref h),some (.ref o),none]:=zX r;have no:wl≠o:=fun z=>by rw[z,e4] at e5; cases e5
  have np1:p1≠o:=fun z=>by rw[z,e4] at e2; cases e2
  have np2:p2≠o:=fun z=>by rw[z,e4] at e3; cases e3
  have nph:p1≠h:=fun z=>by rw[z,e1] at e2; cases e2
  have nh:h≠o:=fun z=>by
   rw[z,e4] at e1;injection e1 with e1
   injection e1 with _ _ e1
   injection e1 with e1 _
   injection e1 with e1 _
   exact absurd e1 (by decide)
  have ex:∀{C':CH},Gr (jQ C o (rrO a dr wl l (t+1))) C'->ExS [h,p1,o] C C':=fun g b x nb eb=>g _ _ ((zQ (fun z=>nb (by simp[z]))).trans eb);refine zV (kX:=RX) s0 hh Fw.refl fx (fun t' C'=>∃w,ws[t]?=some w/\wY w=true/\t'=.str w/\Gr (jQ C o (rrO a dr wl l (t+1))) C') ⟨iX e4 rfl,o,dr,wl,ws,l,t,rfl,e4,e5,no,hb,hw,hs,q,fun w C' hw g=>⟨fun e=>(q' w hw).1 e C' (ex g),fun e=>⟨w,hw,e,rfl,g⟩⟩⟩ (fun _ _ _ z=>z) ?_
  rintro v H2 _ C2 ⟨w,hw',nm,rfl,g2⟩ r2 h2 f2 s2;have s3:SRel W.K H2 _ [some (.ref h),some (.ref o),some (.str w)]:=s2.set r2 2;have m1:C2 h=some (hrO a dx p1 p2 ah):=g2 _ _ ((zQ nh).trans e1);have m2:C2 p1=some (.lst ps):=g2 _ _ ((zQ np1).trans e2);have m3:C2 p2=some (.lst ars):=g2 _ _ ((zQ np2).trans e3);have m4:C2 o=some (rrO a dr wl l (t+1)):=g2 _ _ qQ;have lk:∀p xs,C p=some (.lst xs)->C2 p=some (.lst xs):=fun p xs hp=>g2 _ _ ((zQ (fun z=>by rw[z,e4] at hp; cases hp)).trans hp)
  refine sN s3 h2 (fun ρ' C'=>ρ'=[some (.ref h),some (.ref o),some (.str w)]/\∃C3,Gr C2 C3/\C'=jQ C3 p1 (.lst (ps++ars.map (cz C 2)))) ?_ ?_
  .refine hZ m1 rfl ⟨lC m2,?_⟩
   unfold dF;refine hZ m1 rfl ?_
   simp only[m3]
   refine uF (C0:=C2) (fun C' g=>g _ _ m3) (cz C 2) ars [] C2 Gr.refl (by rw[B7,Nat.zero_add]; exact AO (by omega) (show 1000<=sizeLine by decide)) (fun x hx C1 Q' g hq=>?_) fun p' C3 _ g m=>?_
   .have lk1:∀p xs,C p=some (.lst xs)->C1 p=some (.lst xs):=fun p xs hp=>g _ _ (lk p xs hp)
    exact⟨x,rfl,(hz x hx).grow lk1,fun C' g'=>by rw[zH lk1 (hz x hx)]; exact hq C' g'⟩
   .exact XS (g _ _ m2) m (by rw[List.nil_append,AL]; exact AO hl (by decide)) ⟨trivial,C3,g,rfl⟩
  rintro σ3 H3 _ _ ⟨rfl,C3,g3,rfl⟩ s4 h4 f4;refine⟨_,_,{ nx:=fun _ C'=>R .non C',rt:=fun _ _=>False },s4,h4,?_,⟨fun σ' H' ρ' C' k s' h' f'=>f .non H' .non C' k .non h' (f2.trans (f4.trans f')),fun _ _ _ _ z=>z.elim,fun _ _ _ _ z=>z.elim,fun _ _ _ _ z=>z.elim⟩⟩;have k1:jQ C3 p1 (.lst (ps++ars.map (cz C 2))) h=some (hrO a dx p1 p2 ah):=(zQ nph.symm).trans (g3 _ _ m1);generalize hC4:jQ C3 p1 (.lst (ps++ars.map (cz C 2)))=C4 at *
  refine⟨Aa _,fun q1 hq1=>⟨Aa _,fun q2 hq2=>⟨Aa _,fun q3 hq3=>⟨zS0 4 rfl,fun q4 hq4=>⟨zS0 1 rfl,fun p5 hp5=>?_⟩⟩⟩⟩⟩;have gg:Gr C4 (jQ (jQ (jQ (jQ (jQ C4 q1 (.lst [])) q2 (.lst [])) q3 (.lst [])) q4 (.lst [.str w,.ref q1,.ref q2,.ref q3])) p5 (.lst [.ref q4])):=((((Gr.new hq1 _).trans (Gr.new hq2 _)).trans (Gr.new hq3 _)).trans (Gr.new hq4 _)).trans (Gr.new hp5 _)
  refine sV (gg _ _ k1) (by show 3 < 1000; decide) ((q' w hw').2 nm _ ?_);have c1:C4 p1=some (.lst (ps++ars.map (cz C 2))):=by rw[<- hC4]; exact qQ
  have co:C4 o=some (rrO a dr wl l (t+1)):=by rw[<- hC4,zQ np1.symm]; exact g3 _ _ m4
  have fr:∀b x,b≠p1->b≠o->C b=some x->C4 b=some x:=fun b x b1 b2 e=>by rw[<- hC4,zQ b1]; exact g3 _ _ (g2 _ _ ((zQ b2).trans e))
  have n5:C4 p5=none:=xV ((((Gr.new hq1 _).trans (Gr.new hq2 _)).trans (Gr.new hq3 _)).trans (Gr.new hq4 _)) hp5;have z:∀{C':CH} {x:Addr},Gr C4 C'->C' x=none->x≠h:=fun g e z=>by rw[z,g _ _ k1] at e; cases e
  have a1:q1≠h:=z Gr.refl hq1;have a2:q2≠h:=z (Gr.new hq1 _) hq2;have a3:q3≠h:=z ((Gr.new hq1 _).trans (Gr.new hq2 _)) hq3;have a4:q4≠h:=z (((Gr.new hq1 _).trans (Gr.new hq2 _)).trans (Gr.new hq3 _)) hq4;have a5:p5≠h:=z ((((Gr.new hq1 _).trans (Gr.new hq2 _)).trans (Gr.new hq3 _)).trans (Gr.new hq4 _)) hp5;refine⟨⟨p5,q1,q2,q3,q4,qQ,(zQ a5).trans qQ,?_,?_,?_,?_,?_⟩,(zQ nph).trans (gg _ _ c1),(zQ nh.symm).trans (gg _ _ co),fun b x nb eb=>?_⟩
  .exact (zQ a4).trans (Gr.new hp5 _ _ _ qQ)
  .exact (zQ a1).trans (((((Gr.new hq2 _).trans (Gr.new hq3 _)).trans (Gr.new hq4 _)).trans (Gr.new hp5 _)) _ _ qQ)
  .exact (zQ a2).trans ((((Gr.new hq3 _).trans (Gr.new hq4 _)).trans (Gr.new hp5 _)) _ _ qQ)
  .exact (zQ a3).trans (((Gr.new hq4 _).trans (Gr.new hp5 _)) _ _ qQ)
  .cases e:C p5 with
   |none=>rfl
   |some x =>
    have b1:p5≠p1:=fun z=>by rw[z,c1] at n5; cases n5
    have b2:p5≠o:=fun z=>by rw[z,co] at n5; cases n5
    rw[fr _ _ b1 b2 e] at n5;cases n5
  .have b0:b≠h:=fun z=>nb (by simp[z])
   have b1:b≠p1:=fun z=>nb (by simp[z]);have b2:b≠o:=fun z=>nb (by simp[z]);exact(zQ b0).trans (gg _ _ (fr _ _ b1 b2 eb))
end
section
variable {W:Wd}{a:Adr}
inductive tS (a:Adr)(ts:List PV)(C:CH)(Q:K1):Prop
 |mk (h dx p1 p2:Addr) (ah:Str) (ps ars:List PV) (z0:ts=[.ref h]) (z1:C h=some (hrO a dx p1 p2 ah)) (z2:C p1=some (.lst ps)) (z3:C p2=some (.lst ars)) (z4:ps.length<=1000)
   (z5:ars.length≠1->Q .non C) (z6:∀x,ars=[x]->CzOk C 2 x/\∀C',Gr C C'->Q (.tup (ps++[cz C 2 x])) C'):tS a ts C Q
theorem Xh (T:Tx W a){k:Nat}:Ok W a (k+4) 46 ["self"] (tS a):=by
 have S:=(T.F 46 rfl).s
 refine(T.F 46 rfl).ok (fun ts C R h=>?_) fun cdv A outer s H E hr=>⟨_,(yQ (qZ (ct2 Xb aS (cln T.jJ (tX T.bQ T.cQ (cv 0))) kQ) (fQ (lQ oY)) gX)
  (fQ (lQ (ctp T.sJ (hX aZ qJ (tX T.bQ T.cZ (cv 0)) (iQ (ca1 (cf (T.F 25 rfl) (eD (k:=k) T 2) hr (ca1 (cx (tX T.bQ T.cQ (cv 0)) kQ)))))))))),?_⟩
 .obtain ⟨_,_,_,_,_,_,_,rfl,_⟩:=h; rfl
 rintro ts C R ⟨h,dx,p1,p2,ah,ps,ars,rfl,e1,e2,e3,hl,q,q'⟩;refine hZ e1 rfl (nM e3 (yU (b:=decide (ars.length=1)) ?_ ?_))
 .show some _=some _
  congr 1
  simp[PV.int.injEq]
  omega
 by_cases hn:ars.length=1
 .obtain ⟨x,rfl⟩:∃x,ars=[x]:=by
   match ars,hn with
   |[x],_=>exact⟨x,rfl⟩
  obtain⟨hx,q'⟩:=q' x rfl;refine qV rfl (tZ (hZ e1 rfl (hZ e1 rfl (jW e3 rfl ⟨x,rfl,hx,fun C' g=>⟨zS0 1 rfl,fun p hp=>?_⟩⟩))));refine Zo ((g.trans (Gr.new hp _)) _ _ e2) qQ (AO (Nat.add_le_add_right hl _) (show 1000+1<=sizeLine by decide)) fun p' hp'=>QN qQ (q' _ ((g.trans (Gr.new hp _)).trans (Gr.new hp' _)))
 .exact fP (by simp[hn]) (q hn)
end
section
variable {W:Wd}{a:Adr}
def gEnd (a:Adr)(h r:Addr)(w:Str)(R:K1)(RX:XC):K1:=fun _ C=>aP a [.ref r] C (fun _ C3=>∃dx p1 p2 ah,C3 h=some (hrO a dx p1 p2 ah)/\R .non (jQ C3 h (hrO a dx p1 p2 w))) RX
def rO (a:Adr)(Gb:GX):GX:=fun ts C R RX=>∃(h r dx dr p1 p2 wl:Addr) (ah w:Str) (ws:List Str) (l:Nat) (ars:List PV),ts=[.ref h,.ref r]/\C h=some (hrO a dx p1 p2 ah)/\C p2=some (.lst ars)/\C r=some (rrO a dr wl l 0)/\C wl=some (.lst (ws.map PV.str))/\l<=1000/\ws[0]?=some w /\
 ((w = "end"/\ars.length < 2/\RX a.NoText [((("line" : Str)),.int l),((("word" : Str)),.int (0:Nat))] (jQ C r (rrO a dr wl l 1))) \/
   (w = "part"/\ars.length < 2/\XJ a [.ref h,.ref r] (jQ C r (rrO a dr wl l 1)) (gEnd a h r w R RX) RX) \/
   (w = "when"/\0 < ars.length/\Gb [.ref h,.str w,.ref r] (jQ C r (rrO a dr wl l 1)) (gEnd a h r w R RX) RX))
theorem ok_read (T:Tx W a){k:Nat}{Gb:GX}(Fb:OkX W a (k+6) 50 ["self","word","row"] Gb):OkX W a (k+7) 47 ["self","row"] (rO a Gb):=by
 have S:=(T.F 47 rfl).s;refine Fun.okX (T.F 47 rfl).F S ?_ ?_
 .rintro vs H Q E ⟨ts,C,R,RX,r,h,⟨_,_,_,_,_,_,_,_,_,_,_,_,rfl,_⟩,f⟩
  rw[r.len]; rfl
 .rintro cdv A outer s H vs Q E hr ⟨ts,C,R,RX,r,hh,⟨h,o,dx,dr,p1,p2,wl,ah,w,ws,l,ars,rfl,e1,e3,e4,e5,hb,hw,hc⟩,f,fx⟩
  refine⟨_,gQ (zK (i:=2) S.nd rfl (Or.inl rfl) (lZ (gJ (JE.h (CE.h (cv 1)))) T.uQ (mth (T.F 36 rfl) T.fX) (cP (k:=k+3) T) hr (T.F 36 rfl).b .nil (wZ fun _ _ _ z=>z)))
   (gQ (pZ (PT.nox (JT.h (CT.h (nX (mX (cm T.bQ (T.F 48 rfl) T.xZ (ok_may (k:=k+5) T) hr (cv 0) (ca1 (cv 2)))))))) (mQ (vZ (lZ (gJ (JE.h (CE.h (cv 1)))) T.uQ (mth (T.F 37 rfl) T.fX) (tD (k:=k+3) T) hr (T.F 37 rfl).b .nil (wZ fun _ _ _ z=>z)))) cX)
   (gQ (pZ (PT.nox (JT.h (CT.h (wV (bM (aM hr)) kH (cv 2) (oX (v:=.ref a.BEGINNING) rfl T.jF rfl (fun H=>.kt (T.kM H) (.cons (.str _) (.cons (.str _) (.cons (.str _) (.cons (.str _) (.cons (.str _) .nil))))))) rfl)))) (mQ (vZ (yB (gJ (JE.h (CE.h (cv 0)))) T.bQ (mth (T.F 50 rfl) T.xZ) Fb hr (T.F 50 rfl).b .nil (wZ fun _ _ _ z=>z) (nZ (JA.h (CA.h (xQ (cv 2) (xQ (cv 1) eQ)))))))) (mQ (pZ (PT.nox (JT.h (CT.h (wV (mM T.bY) yF (cv 2) (oX (v:=.ref a.RIGHT_BEHIND) rfl T.gY rfl (fun _=>.ref _)) rfl)))) oZ (mQ (pZ (PT.nox (JT.h (CT.h (ct2 bJ uJ (cv 2) kZ)))) (mQ (vZ (yB (gJ (JE.h (CE.h (cv 0)))) T.bQ (mth (T.F 49 rfl) T.xZ) (Xk (k:=k) T) hr (T.F 49 rfl).b .nil (wZ fun _ _ _ z=>z) (nZ (JA.h (CA.h (xQ (cv 1) eQ))))))) oZ)))))
   (gQ (vZ (lZ (gJ (JE.h (CE.h (cv 1)))) T.uQ (mth (T.F 38 rfl) T.fX) (aA (k:=k+3) T) hr (T.F 38 rfl).b .nil (wZ fun _ _ _ z=>z))) (mQ (dZ (JS.h (CS.h (vW T.bQ T.mJ (cv 0) (cv 2))))))))),?_⟩
  have s0:SRel W.K H (start ["self","row","word"] vs) [some (.ref h),some (.ref o),none]:=zX r;have no:wl≠o:=fun z=>by rw[z,e4] at e5; cases e5
  have np2:p2≠o:=fun z=>by rw[z,e4] at e3; cases e3
  have nh:h≠o:=fun z=>by
   rw[z,e4] at e1;injection e1 with e1
   injection e1 with _ _ e1
   injection e1 with e1 _
   injection e1 with e1 _
   exact absurd e1 (by decide)
  have lt:0 < ws.length:=by
   rcases Nat.eq_zero_or_pos ws.length with z | z
   .rw [CJ (by omega)] at hw; cases hw
   .exact z
  refine zV (kX:=RX) s0 hh Fw.refl fx (fun t' C'=>t'=.str w/\C'=jQ C o (rrO a dr wl l 1)) ⟨iX e4 rfl,o,dr,wl,ws,l,0,rfl,e4,e5,no,by omega,Aa _,fun z=>absurd z (by omega),fun w' hw'=>⟨by cases hw.symm.trans hw'; rfl,rfl⟩⟩ (fun _ _ _ z=>z) ?_;rintro v H2 _ _ ⟨rfl,rfl⟩ r2 h2 f2 s2;have s3:SRel W.K H2 _ [some (.ref h),some (.ref o),some (.str w)]:=s2.set r2 2;have m1:jQ C o (rrO a dr wl l 1) h=some (hrO a dx p1 p2 ah):=(zQ nh).trans e1
  have m3:jQ C o (rrO a dr wl l 1) p2=some (.lst ars):=(zQ np2).trans e3;have m4:jQ C o (rrO a dr wl l 1) o=some (rrO a dr wl l 1):=qQ;generalize jQ C o (rrO a dr wl l 1)=C1 at *
  have tail:∀{σ:St} {H4:Hp} {C4:CH} {t:PV} {D:Ends},SRel W.K H4 σ [some (.ref h),some (.ref o),some (.str w)]->HRel W.K H4 C4->Fw H C H4 C4->gEnd a h o w R RX t C4->(∀H' C',R .non C'->HRel W.K H' C'->Fw H C H' C'->∀σ',D.nx σ' H') ->
    tSeq (QO (dN a.RowReader "finish" (spY W.K (aP a)) [] E (jZ W.K (Rep W.K) (oK 1)) pN)) (rM W.K fun E ρ C=>oK 2 ρ C fun v C1=>oK 0 ρ C1 fun x C2=>bR a.HouseReader "ahead" x v C2 fun C3=>E.nx ρ C3) D σ H4:=by
   intro σ H4 C4 t D s4 h4 f4 ge nx;have ge':=ge;obtain⟨r',dx',wl',ws',l',t',er,e',_⟩:=ge';cases er;refine zV (kX:=RX) s4 h4 f4 fx _ ⟨iX e' rfl,ge⟩ (fun _ _ _ z=>z) ?_;rintro v' H5 _ C5 ⟨dx5,p5,q5,ah5,e5,k5⟩ r5 h5 f5 s5;exact⟨_,C5,{ nx:=fun _ C'=>R .non C',rt:=fun _ _=>False },s5,h5,sV e5 (by show 3 < 1000; decide) k5,⟨fun σ' H' ρ' C' k s' h' f'=>nx H' C' k h' (f5.trans f') σ',fun _ _ _ _ z=>z.elim,fun _ _ _ _ z=>z.elim,fun _ _ _ _ z=>z.elim⟩⟩
  have fi:∀H' C',R .non C'->HRel W.K H' C'->Fw H C H' C'->Q .non H':=fun H' C' k h' f'=>f .non H' .non C' k .non h' f'
  rcases hc with ⟨rfl,ha,qx⟩ | ⟨rfl,ha,qx⟩ | ⟨rfl,ha,qx⟩
  .refine ifG s3 h2 f2 (fun b C'=>b=true/\C1=C') ⟨iX m1 rfl,gMs.mk h dx p1 p2 "end" ah ars false rfl m1 m3 (.inr (.inr ⟨rfl,ha,rfl⟩)) ⟨rfl,rfl⟩⟩ ?_
   rintro _ _ H4 ⟨rfl,rfl⟩ s4 h4 f4;rw[AV rfl];exact zV (kX:=RX) s4 h4 f4 fx (fun _ _=>False) ⟨iX m4 rfl,o,dr,wl,l,0,rfl,m4,by omega,qx⟩ (fun _ _ _ z=>z) fun _ _ _ _ z=>z.elim
  .refine ifG s3 h2 f2 (fun b C'=>b=false/\C1=C') ⟨iX m1 rfl,gMs.mk h dx p1 p2 "part" ah ars true rfl m1 m3 (.inl ⟨rfl,(A7 ha).symm⟩) ⟨rfl,rfl⟩⟩ ?_
   rintro _ _ H4 ⟨rfl,rfl⟩ s4 h4 f4;rw[AR (by decide)];refine ifG s4 h4 f4 (fun b C'=>b=false/\C1=C') (vL rfl rfl ⟨rfl,rfl⟩) ?_;rintro _ _ H5 ⟨rfl,rfl⟩ s5 h5 f5;rw[AR (by decide)];refine ifG s5 h5 f5 (fun b C'=>b=false/\C1=C') ⟨_,rfl,rfl,rfl,rfl⟩ ?_;rintro _ _ H6 ⟨rfl,rfl⟩ s6 h6 f6;rw[AR (by decide)];refine ifG s6 h6 f6 (fun b C'=>b=true/\C1=C') (yU rfl ⟨rfl,rfl⟩) ?_;rintro _ _ H7 ⟨rfl,rfl⟩ s7 h7 f7
   rw[AV rfl];exact Xm (kX:=RX) s7 h7 f7 fx _ ⟨iX m1 rfl,qx⟩ (fun _ _ _ z=>z) fun v' H8 t' C8 ge r8 h8 f8 s8=>tail s8 h8 f8 ge fun H' C' k h' f' _=>fi H' C' k h' f'
  .refine ifG s3 h2 f2 (fun b C'=>b=false/\C1=C') ⟨iX m1 rfl,gMs.mk h dx p1 p2 "when" ah ars true rfl m1 m3 (.inr (.inl ⟨rfl,(A7 ha).symm⟩)) ⟨rfl,rfl⟩⟩ ?_
   rintro _ _ H4 ⟨rfl,rfl⟩ s4 h4 f4;rw[AR (by decide)];refine ifG s4 h4 f4 (fun b C'=>b=true/\C1=C') (vL rfl rfl ⟨rfl,rfl⟩) ?_;rintro _ _ H5 ⟨rfl,rfl⟩ s5 h5 f5;rw[AV rfl];exact Xm (kX:=RX) s5 h5 f5 fx _ ⟨iX m1 rfl,qx⟩ (fun _ _ _ z=>z) fun v' H8 t' C8 ge r8 h8 f8 s8=>tail s8 h8 f8 ge fun H' C' k h' f' _=>fi H' C' k h' f'
end
section
variable {W:Wd}{a:Adr}
def XI (a:Adr)(Gk:GX):GX:=fun ts C R RX=>∃(r dr wl:Addr) (l t:Nat),ts=[.str "when",.ref r]/\C r=some (rrO a dr wl l t) /\
 Gk [.ref r] C (fun x C1=>∀p1 p2,C1 p1=none->jQ C1 p1 (.lst []) p2=none->R (.ref p2) (jQ (jQ C1 p1 (.lst [])) p2 (.lst [.str "when",x,.ref p1]))) RX
theorem Xj (T:Tx W a){k:Nat}{Gk:GX}(Fk:OkX W a k 43 ["self"] Gk):OkX W a (k+1) 24 ["word","row"] (XI a Gk):=by
 have S:=(T.F 24 rfl).s;refine Fun.okX (T.F 24 rfl).F S ?_ ?_
 .rintro vs H Q E ⟨ts,C,R,RX,r,h,⟨_,_,_,_,_,rfl,_⟩,f⟩
  rw[r.len]; rfl
 .rintro cdv A outer s H vs Q E hr ⟨ts,C,R,RX,r,hh,⟨o,dr,wl,l,t,rfl,e4,q⟩,f,fx⟩
  refine⟨_,gQ (pZ (PT.nox (JT.h (CT.h (ct2 bJ uJ (cv 0) kZ)))) (mQ (kP (nG (yX uS (yX (lZ (gJ (JE.h (CE.h (cv 1)))) T.uQ (mth (T.F 43 rfl) T.fX) Fk hr (T.F 43 rfl).b .nil (wZ fun _ _ _ z=>z)) (yX (nG rX) rX)))))) cX) oZ,?_⟩;have s0:SRel W.K H (start ["word","row","name","number"] vs) [some (.str "when"),some (.ref o),none,none]:=zX r;refine ifG s0 hh Fw.refl (fun b C'=>b=true/\C=C') (yU rfl ⟨rfl,rfl⟩) ?_
  rintro _ _ H1 ⟨rfl,rfl⟩ s1 h1 f1;rw[AV rfl];refine zV (kX:=RX) s1 h1 f1 fx _ ⟨iX e4 rfl,q⟩ (fun _ _ _ z=>z) ?_;intro v H2 x C2 k r2 h2 f2 s2;refine⟨Aa _,fun p1 hp1=>⟨zS0 3 rfl,fun p2 hp2=>?_⟩⟩;have h3:HRel W.K _ (jQ C2 p1 (.lst [])):=h2.lay hp1 ⟨[],vQ,.nil⟩;have i3:=Imm.new hp1 (HO.lst []);have i4:=Imm.new hp2 (HO.lst [V.str "when",v,.ref p1]);have h4:HRel W.K _ (jQ (jQ C2 p1 (.lst [])) p2 (.lst [.str "when",x,.ref p1])):=h3.lay hp2 ⟨_,vQ,.cons (.str _) (.cons ((r2.imm i3).imm i4) (.cons (.ref p1) .nil))⟩
  exact f _ _ _ _ (k p1 p2 (h2.fresh hp1) (h3.fresh hp2)) (.ref p2) h4 (f2.trans ((Fw.lay hp1 _ _).trans (Fw.lay hp2 _ _)))
def gB (a:Adr)(Gk:GX):GX:=fun ts C R RX=>∃h r,ts=[.ref h,.str "when",.ref r]/\XI a Gk [.str "when",.ref r] C (fun x C2=>∃dx p1 pA ah ars,C2 h=some (hrO a dx p1 pA ah)/\C2 pA=some (.lst ars)/\ars.length < 1000/\R .non (jQ C2 pA (.lst (ars++[x])))) RX
theorem ok_b (T:Tx W a){k:Nat}{Gk:GX}(Fk:OkX W a k 43 ["self"] Gk):OkX W a (k+2) 50 ["self","word","row"] (gB a Gk):=by
 have S:=(T.F 50 rfl).s;have Fl:=Xj T Fk;refine Fun.okX (T.F 50 rfl).F S ?_ ?_
 .rintro vs H Q E ⟨ts,C,R,RX,r,h,⟨_,_,rfl,_⟩,f⟩
  rw[r.len]; rfl
 .rintro cdv A outer s H vs Q E hr ⟨ts,C,R,RX,r,hh,⟨h,o,rfl,q⟩,f,fx⟩
  refine⟨_,gQ (zK (i:=3) S.nd rfl (Or.inl rfl) (uP Fl hr rfl ((T.F 24 rfl).m rfl) (T.F 24 rfl).F.kp ((T.F 24 rfl).b) .nil (wZ fun _ _ _ z=>z) (nZ (JA.h (CA.h (xQ (cv 1) (xQ (cv 2) eQ))))))) (mQ (pZ (PT.nox (JT.h (CT.h (ct2 bJ uJ (cv 1) kZ)))) oZ (mQ (dZ (JS.h (CS.h (fB (cap (tX T.bQ T.cQ (cv 0)) (cv 3))))))))),?_⟩;have s0:SRel W.K H (start ["self","word","row","line"] vs) [some (.ref h),some (.str "when"),some (.ref o),none]:=zX r
  refine callY (kX:=RX) s0 hh Fw.refl fx (fun x C2=>∃dx p1 pA ah ars,C2 h=some (hrO a dx p1 pA ah)/\C2 pA=some (.lst ars)/\ars.length < 1000/\R .non (jQ C2 pA (.lst (ars++[x])))) q (fun _ _ _ z=>z) ?_;rintro v H2 x C2 ⟨dx,p1,pA,ah,ars,e1,e2,hl,k⟩ r2 h2 f2 s2;have s3:SRel W.K H2 _ [some (.ref h),some (.str "when"),some (.ref o),some x]:=s2.set r2 3;refine ifG s3 h2 f2 (fun b C'=>b=false/\C2=C') (yU rfl ⟨rfl,rfl⟩) ?_
  rintro _ _ H3 ⟨rfl,rfl⟩ s4 h4 f4;rw[AR (by decide)];exact⟨_,C2,{ nx:=fun _ C'=>R .non C',rt:=fun _ _=>False },s4,h4,hZ e1 rfl ⟨lC e2,Zm e2 (AD hl (by decide)) k⟩,⟨fun σ' H' ρ' C' k s' h' f'=>f .non H' .non C' k .non h' (f4.trans f'),fun _ _ _ _ z=>z.elim,fun _ _ _ _ z=>z.elim,fun _ _ _ _ z=>z.elim⟩⟩
end
section
variable {W:Wd}{a:Adr}
def gItem (a:Adr)(Gn:GC):GX:=fun ts C R RX=>∃(r dr wl:Addr) (ws:List Str) (w:Str) (l t:Nat),ts=[.ref r]/\C r=some (rrO a dr wl l t)/\C wl=some (.lst (ws.map PV.str))/\t+l<=1000000/\ws[t]?=some w /\
 (bV [((Sum.inr "add" : Key),V.int 2),(Sum.inr "times",.int 2),(Sum.inr "less",.int 2),(Sum.inr "pick",.int 3)] (Sum.inr w)).isSome=false/\inSP ["take","box","down","turn"] (.str w)=false /\
 ∃n:Int,(∀Q':K1,(∀C2,Gr (jQ C r (rrO a dr wl l (t+1))) C2->Q' (.int n) C2)->Gn [.str w] (jQ C r (rrO a dr wl l (t+1))) Q')/\∀C2,Gr (jQ C r (rrO a dr wl l (t+1))) C2->R (.tup [.str "num",.int n]) C2
theorem ok_item (T:Tx W a){k:Nat}{Gn:GC}(Fn:Ok W a (k+3) 21 ["word"] Gn):OkX W a (k+4) 44 ["self"] (gItem a Gn):=by
 have S:=(T.F 44 rfl).s;refine Fun.okX (T.F 44 rfl).F S ?_ ?_
 .rintro vs H Q E ⟨ts,C,R,RX,r,h,⟨_,_,_,_,_,_,_,rfl,_⟩,f⟩
  rw[r.len]; rfl
 .rintro cdv A outer s H vs Q E hr ⟨ts,C,R,RX,r,hh,⟨o,dr,wl,ws,w,l,t,rfl,e4,e5,hb,hw,n1,n2,n,qn,q⟩,f,fx⟩
  refine⟨_,gQ (zK (i:=1) S.nd rfl (Or.inl rfl) (lZ (gJ (JE.h (CE.h (cv 0)))) T.uQ (mth (T.F 36 rfl) T.fX) (cP (k:=k) T) hr (T.F 36 rfl).b .nil (wZ fun _ _ _ z=>z)))
   (gQ (pZ (PT.nox (JT.h (CT.h (wV (mM T.kF) yF (cv 1) (oX (v:=.ref a.JOINING) rfl T.zF rfl (fun _=>.ref _)) rfl)))) oZ cX) (gQ (pZ (PT.nox (JT.h (CT.h (wV (bM (aM hr)) kH (cv 1) (oX (v:=.ref a.NAMING) rfl T.gNAMING rfl (fun H=>.kt (T.qNAMING H) (.cons (.str _) (.cons (.str _) (.cons (.str _) (.cons (.str _) .nil)))))) rfl)))) oZ cX) (gQ (dZ (JS.h (CS.h (cs1 2 S.nd (cf (T.F 21 rfl) Fn hr (ca1 (cv 1))))))) (gQ (pZ (PT.nox (JT.h (CT.h (ct2 Xc kE (cv 2) oY)))) oZ cX) (mQ (dZ (JS.h (CS.h (lQ (gZ (xQ kZ (xQ (cv 2) eQ)))))))))))),?_⟩
  have s0:SRel W.K H (start ["self","word","number"] vs) [some (.ref o),none,none]:=zX r;have no:wl≠o:=fun z=>by rw[z,e4] at e5; cases e5
  have lt:t < ws.length:=by
   rcases Nat.lt_or_ge t ws.length with z | z
   .exact z
   .rw [CJ z] at hw; cases hw
  refine zV (kX:=RX) s0 hh Fw.refl fx (fun t' C'=>t'=.str w/\C'=jQ C o (rrO a dr wl l (t+1))) ⟨iX e4 rfl,o,dr,wl,ws,l,t,rfl,e4,e5,no,hb,by omega,fun z=>absurd z (by omega),fun w' hw'=>⟨by cases hw.symm.trans hw'; rfl,rfl⟩⟩ (fun _ _ _ z=>z) ?_;rintro v H2 _ _ ⟨rfl,rfl⟩ r2 h2 f2 s2;have s3:SRel W.K H2 _ [some (.ref o),some (.str w),none]:=s2.set r2 1;refine ifG s3 h2 f2 (fun b C'=>b=false/\jQ C o (rrO a dr wl l (t+1))=C') ⟨_,rfl,rfl,n1,rfl⟩ ?_
  rintro _ _ H4 ⟨rfl,rfl⟩ s4 h4 f4;rw[AR (by decide)];refine ifG s4 h4 f4 (fun b C'=>b=false/\jQ C o (rrO a dr wl l (t+1))=C') (vL rfl rfl ⟨n2,rfl⟩) ?_;rintro _ _ H5 ⟨rfl,rfl⟩ s5 h5 f5;rw[AR (by decide)];refine sN s5 h5 (fun ρ' C'=>ρ'=[some (.ref o),some (.str w),some (.int n)]/\R (.tup [.str "num",.int n]) C') (qn _ fun C2 g=>⟨rfl,q C2 g⟩) ?_;rintro σ6 H6 _ C6 ⟨rfl,k6⟩ s6 h6 f6;refine ifG s6 h6 (f5.trans f6) (fun b C'=>b=false/\C6=C') ⟨rfl,rfl⟩ ?_
  rintro _ _ H7 ⟨rfl,rfl⟩ s7 h7 f7;rw[AR (by decide)];exact retX s7 h7 R ⟨zS0 2 rfl,k6⟩ fun v' H' t' C' k r' h' f'=>f v' H' t' C' k r' h' (f7.trans f')
end
end K16
namespace CL
open PySem PySem.Spec L2
open PyProof.Rows hiding St
section
variable {X:Cx}{x:Str}{c fa:Addr}{fd:FuncData}{ps:List Str}{k:Nat}{G:GC}{CX:List Env->Program->World->Hp->Shared->XK->Value->Shared->Prop}
def cMake0 (c:Addr)(G:GC):TCE:=fun _ C Q=>∀x dx,C x=none->C dx=none->dx≠x->G [.ref x] (jQ C x (.ins c dx [])) fun v C2=>v=.non/\Q (.ref x) C2
theorem X9 {p pos:Pos}(M:Mk X.K c fa)(F:eX X.prog X.w X.K X.mg X.base CX0 k fa fd ps (spC X.K G))(hr:Room (k+1) X.A)(hg:Gl X x)(hm:X.mg x=some (.ref c))(hb:Binds X.K fd ps [])
  (hdb:(x==("__debug__" : Str))=false:=by decide):CE X (.Call (.Name x p) [] [] pos) (cMake0 c G) :=
 ⟨JE.weak ⟨Q4 M F hr hg hm hb .nil gM hdb⟩ fun σ H Q zz=>qX zz fun ρ C R s h q f=>fun y dx hy hd nd=>by
  have hy':upd H dx (.own y) y=none:=by rwa [wQ (Ne.symm nd)]
  have k2:Imm (upd H dx (.own y)) (upd (upd H dx (.own y)) y (.ins c dx [])):=Imm.new hy' _;refine⟨[.ref y],jQ C y (.ins c dx []),_,.cons (.ref y) .nil,(h.new hd (.own y)).lay hy' ⟨[],vQ,.nil⟩,q y dx (h.fresh hy) (h.fresh hd) nd,fun v H' t C' q' r' h' f'=>?_⟩;obtain⟨rfl,q'⟩:=q';cases r'
  exact⟨rfl,f _ H' _ C' q' (.ref y) h' (((Fw.new hd _).trans (Fw.lay hy' _ _)).trans f')⟩⟩
end
end CL
namespace K16
open PySem L2 CL
section
variable {W:Wd}{a:Adr}
def isNu (i:Int):Bool:=decide (-1000000000<=i)&&decide (i<=1000000000)
inductive gNu (ts:List PV)(C:CH)(Q:K1):Prop
 |mk (i:Int) (z0:ts=[.int i]) (z2:Q (.bl (isNu i)) C):gNu ts C Q
theorem lP (T:Tx W a){k:Nat}:Ok W a (k+1) 0 ["thing"] gNu:=by
 have S:=(T.F 0 rfl).s
 refine(T.F 0 rfl).ok (fun ts C R h=>?_) fun cdv A outer s H E hr=>⟨_,(yQ (qZ (cw_pt (cw_or (mX (xX dX zJ rfl T.pQ rfl (xQ (cv 0) (ca1 (mY rfl T.z_bool rfl))))) (cw_or1 (nX (mX (xX dX zJ rfl T.pQ rfl (xQ (cv 0) (ca1 (mY rfl T.z_int rfl))))))))) (fQ (lQ bZ)) gX)
  (fQ (lQ (Za pU pU wW wW (ce_un un_neg cun_neg (oX (v:=.int 1000000000) rfl T.XM ⟨_,rfl⟩ (fun _=>.int _))) (cv 0) (oX (v:=.int 1000000000) rfl T.XM ⟨_,rfl⟩ (fun _=>.int _)))))),?_⟩
 .obtain ⟨_,rfl,_⟩:=h; rfl
 rintro ts C R ⟨i,rfl,q⟩;refine rK rfl rfl (qV rfl (rK rfl rfl (jK (tZ (i_i (rA (fun hb=>?_) fun hb=>?_))))))
 .apply i_i
  have e:isNu i=decide (i<=1000000000):=by show(decide (-1000000000<=i)&&decide (i<=1000000000))=_; rw[hb]; rfl
  rwa [e] at q
 .have e:isNu i=false:=by show(decide (-1000000000<=i)&&decide (i<=1000000000))=_; rw[hb]; rfl
  rwa [e] at q
end
end K16
namespace L2
open PySem PySem.Spec
open PyProof.Rows hiding St
section
variable {X:Cx}{pins:List (Addr×Obj)}{σ:List (Option V)}{H H':Hp}{s:Shared}{h':Heap}
theorem Inv.turnedL {t':Nat}{its:List Addr}{a:Addr}{o:HO}(I:Inv X pins σ H s)(k:∀b o,b∉its->s.heap.get? b=some o->h'.get? b=some o)(hf:∀b∈its,nH X pins H b)(hp:s.heap.objs.size<=a)
  (new:ObjOk X.prog X.w (upd H a o) h' a o):Inv X pins σ (upd H a o) { s with heap:=h',toks:=t' }:=by
 have hn:=I.hok.fresh hp;have up:∀b u,H b=some u->upd H a o b=some u:=fun b u e=>by rw[wQ (zZ e hn)]; exact e
 have nit:∀b u,H b=some u->b∉its:=fun b u e z=>by rw[(hf b z).1] at e; cases e
 refine I.step (g':=s.gens) (d':=s.drawn) (ch:=its) (fun b hb=>⟨(hf b hb).2.2.2.1,(hf b hb).2.1,(hf b hb).2.2.2.2.1,(hf b hb).2.2.2.2.2⟩) (fun b o _ _ hc e _=>k b o hc e) (fun b o _ _ hc e _=>⟨o.slots,k b o hc e⟩) (fun b ob _ e n=>?_)
  (fun b o hc e=>⟨o,k b o hc e⟩) (fun b _ e=>up b _ e) (fun b _ _ e=>up b _ e) (fun b ps e=>⟨#[],by rw[up b _ e]; simp⟩) (fun m hm=>?_) (fun b u e=>?_) I.bare
 .rw [wQ (AM (AD (AF e) hp))]; exact n
 .obtain ⟨o,es,ep,ho,r⟩:=hm
  exact⟨o,es,ep,k _ o (fun z=>(hf _ z).2.1 rfl) ho,r⟩
 .by_cases hb:b=a
  .subst hb; rw[vQ] at e; cases e; exact new
  .rw [wQ hb] at e
   refine(I.hok b u e).stay (fun c v hc q=>k c v ?_ q) (fun c q=>up c _ q) fun c _ q=>up c _ q
   rcases hc with z | z
   .rw [z]; exact nit b u e
   .exact nit c _ z
end
def Ite (K:CU)(a:Addr):It :=
 ⟨fun i H=>∃xs x,SqL K H a xs/\xs[i]?=some x,fun i H x H'=>∃b y,x=.ref b/\H b=none/\H'=upd H b (.tup [.int i,y])/\∀xs,SqL K H a xs->xs[i]?=some y,fun i H=>∃xs,SqL K H a xs/\xs.length<=i⟩
theorem eE {P:Program}{w:World}{K:CU}{es:List Expr}{x1:Nat}{pt:Pos}(a e it:Addr)(ne:e≠it)(na:a≠e)(na':a≠it):
  dR P w K (.Tuple es x1 pt) (Ite K a) [e,it] e (fun i h=>∃old,IsEnum h e it ((i:Nat):Int) old/\h.IsListIter it a i) where
 mem:=by simp
 obj:=fun i h ⟨old,he,o,ho,hc,hd⟩ b hb=>by
  rcases Ag.1 hb with rfl | hb
  .exact ⟨_,he,fun v z=>by cases z⟩
  .have eb:b=it:=by simpa using hb
   subst eb;exact⟨o,ho,fun v z=>by rw[hd] at z; cases z⟩
 keep:=fun i h h' ⟨old,he,st⟩ k=>⟨old,k e (by simp) _ he,st.at fun o q=>k it (by simp) o q⟩
 item:=by
  intro X hP hw hK hc i pins s σ H E I hf ⟨old,he,st⟩ hg;subst hP hw hK;obtain⟨xs,x,hq,hx⟩:=hg;obtain⟨its,rv,p,hz⟩:=I.list hq;obtain⟨u,hu,ru⟩:=rv.get hx;refine wpAny_pyNext_enum_item he st p.isList (x:=u) (by simpa using hu) ne fun h₁ heo hit₁ ht₁ hz₁ hk₁=>?_;refine⟨_,rfl,wpAny_letOwnedTupleGo_enum heo fun h₂ he₂ hs₂=>?_⟩
  replace hs₂:Heap.SameBut e h₁ h₂:=hs₂
  have hlt:e < s.heap.objs.size:=AF he;have ht₂:=(hs₂.2 _ (Bq hlt)).trans ht₁
  have I1:Inv X pins σ (upd H s.heap.objs.size (.tup [.int i,x])) { s with heap:=h₂,toks:=s.toks+1 } :=
   I.turnedL (its:=[e,it]) (fun b o hb q=>(hs₂.2 b (fun z=>hb (by simp[z]))).trans (hk₁ b o (fun z=>hb (by simp[z])) (fun z=>hb (by simp[z])) q)) hf (AI _)
    ⟨zS0 2 rfl,[.int i s.toks,u],.cons ⟨_,rfl⟩ (.cons ru .nil),_,ht₂,rfl,⟨_,rfl⟩,rfl⟩
  refine⟨.ref s.heap.objs.size,_,I1,rfl,⟨_,x,rfl,I.hok.fresh (AI _),rfl,fun ys hy=>by rw[I.list_inj hy hq]; exact hx⟩,⟨u,?_,hit₁.at fun o q=>(hs₂.2 it (Ne.symm ne)).trans q⟩,fun b hb=>?_⟩
  .have e1:(((i+1:Nat):Nat):Int)=(i:Int)+1:=by push_cast; rfl
   rw[e1]; exact he₂
  .rw [wQ]
   .exact (hf b hb).1
   .obtain ⟨o,ho,_⟩:=st
    rcases Ag.1 hb with rfl | hb
    .exact AM hlt
    .have eb:b=it:=by simpa using hb
     rw[eb]; exact AM (AF ho)
 done:=by
  intro X hP hw hK hc i pins s σ H E I hf ⟨old,he,st⟩ hg;subst hP hw hK;obtain⟨xs,hq,hx⟩:=hg;obtain⟨its,rv,p,hz⟩:=I.list hq;obtain⟨f0,f1,f2,f3,f4,f5⟩:=hf it (by simp);have hl:=rv.length;exact wpAny_pyNext_enum_end (I.ok.hd hc) he st p.isList (by simp; omega) fun h' eb=>⟨rfl,I.turned (t':=s.toks) (fun b o hb q=>eb b o hb q) f0 f1 f3 f4 f5⟩
 self:=fun _ _ _ _ _ ⟨_,he,_⟩ h=>wpAny_pyIter_enum he h
section
variable {X:Cx}
def iEnum (K:CU)(ta:TA):TI:=fun σ H R=>ta σ H fun vs H1=>∃a xs,vs=[.ref a]/\H1 a=some (.lst xs)/\R (Ite K a) H1
theorem Qf:bootBuiltins "enumerate" = some (.type "enumerate"):=by decide +kernel
theorem pi_enum {es:List Expr}{x1:Nat}{pt:Pos}{a:Expr}{ta:TA}{p pos:Pos}(hg:Gl X "enumerate")(hm:X.mg "enumerate" = none)(ha:PA X [a] ta)(hs:starEach [a] X.env=[(false,eval a X.env)]:=by rfl):
  PI X (.Tuple es x1 pt) (.Call (.Name "enumerate" p) [a] [] pos) (iEnum X.K ta):=by
 intro pins s σ H R I h;refine Call_ (kU I hg hm Qf (BG (thn (ha pos pins s σ H _ I h) fun us s1 ⟨vs,H1,I1,r1,q1⟩=>?_) hs rfl));obtain⟨l,xs,e,hl,q⟩:=q1;subst e
 cases r1 with
 |cons r rr =>
  cases rr;cases r;obtain⟨its,rv,pl,hz⟩:=I1.list (SqL.of hl);refine call_enumerate_list pl.isList fun h' he hit hsz hk=>?_;have I2:Inv X pins σ H1 { s1 with heap:=h' }:=I1.kept (t':=s1.toks) hk;have hlt:l < s1.heap.objs.size:=I1.hok.lt hl;refine wpAny_pyIter_enum he ⟨s1.heap.objs.size+1,[s1.heap.objs.size+1,s1.heap.objs.size],_,_,H1,rfl,I2,eE l _ _ (Nat.succ_ne_self _) (AM (Nat.lt_succ_of_lt hlt)) (AM hlt),⟨_,he,hit⟩,fun b hb=>?_,q⟩
  have hb':s1.heap.objs.size<=b:=by
   rcases Ag.1 hb with rfl | hb
   .exact BN _
   .have e:b=s1.heap.objs.size:=by simpa using hb
    exact Br e.symm
  exact I1.fpOk hb' (I1.hok.fresh hb')
end
end L2
namespace PySem
open Sem (wp)
structure yV (prog:Program)(w:World)(K:Type)[DecidableEq K] where
 is:Heap->K->Value->Prop
 hash:K->Int
 draws:K->Nat
 room:Around->Prop
 inj:∀{h:Heap} {v:Value} {x y:K},is h x v->is h y v->x=y
 keeps:∀{h h':Heap} {k:K} {v:Value} {d:Addr} {o:Obj} {es:Array DictEntry} {ep:Nat},is h k v->h.get? d=some o->o.data=.dict es ep->Heap.SameBut d h h'->is h' k v
 pyHash:∀{A:Around} {E:Value->Shared->Prop} {s:Shared} {k:K} {v:Value} {Q:Int->Shared->Prop},room A->is s.heap k v->Q (hash k) { s with toks:=s.toks+draws k }->wpAny (model prog w) A (pyHash v) Q E s
 eqBool:∀{A:Around} {E:Value->Shared->Prop} {s:Shared} {x y:K} {u v:Value} {Q:Bool->Shared->Prop},room A->is s.heap x u->is s.heap y v->Q (decide (x=y)) s->wpAny (model prog w) A (eqBool u v) Q E s
 quiet:∀{A:Around} {E:Value->Shared->Prop} {s:Shared} {k:K} {v:Value} {Q:Bool->Shared->Prop},is s.heap k v->Q true s->wpAny (model prog w) A (eqIsQuiet 8 v) Q E s
 sx:∀{h:Heap} {k k':K} {x:Str} {t:Tok} {v:Value},is h k (.str x t)->is h k' v->isExactStrKey v=true->(k'=k↔v.isStr x=true)
section
variable {prog:Program}{w:World}{K:Type}[DecidableEq K]{knd:yV prog w K}{A:Around}{E:Value->Shared->Prop}{s:Shared}{d:Addr}{o:Obj}{es:Array DictEntry}{ep:Nat}{xs:List (K×Value×Value)}{k:K}{u:Value}
def rZ (knd:yV prog w K)(x:K×Value×Value):DictEntry:=⟨knd.hash x.1,x.2.1,x.2.2⟩
def Heap.DictOfV (knd:yV prog w K)(h:Heap)(d:Addr)(xs:List (K×Value×Value)):Prop:=∃o es ep,h.get? d=some o/\o.ExactDict/\o.data=.dict es ep/\es.toList=xs.map (rZ knd)/\(∀x∈xs,knd.is h x.1 x.2.1)/\(xs.map (·.1)).Nodup
structure FindIn (knd:yV prog w K)(s:Shared)(d:Addr)(es:Array DictEntry)(ep:Nat)(xs:List (K×Value×Value))(k:K)(u:Value):Prop where
 h1:∃o,s.heap.get? d=some o/\o.data=.dict es ep
 kk:knd.is s.heap k u
 h4:es.toList=xs.map (rZ knd)
 h5:∀x∈xs,knd.is s.heap x.1 x.2.1
 h6:(xs.map (·.1)).Nodup
abbrev plc (knd:yV prog w K)(es:Array DictEntry)(k:K):List Nat:=placesWithHash es.size (fun i=>Option.map (fun x=>x.hash) es[i]?) (knd.hash k)
section
variable (F:FindIn knd s d es ep xs k u)
include F
theorem FindIn.ent (i:Nat):es[i]?=(xs[i]?).map (rZ knd):=by rw[<- Bi,F.h4,Ah]
theorem FindIn.mem {j:Nat}{p:Value×Value}(h:xs[j]?=some (k,p)):j∈plc knd es k:=by
 have e:=F.ent j;rw[h] at e;have hj:j < es.size:=(Am.1 e).1;refine B6.2 ⟨Bt.2 hj,?_⟩;dsimp only;rw[e]
 simp[rZ]
theorem FindIn.at {i:Nat}(h:i∈plc knd es k):∃x,xs[i]?=some x/\es[i]?=some (rZ knd x)/\knd.hash x.1=knd.hash k/\knd.is s.heap x.1 x.2.1:=by
 obtain⟨h1,h2⟩:=B6.1 h;dsimp only at h2;have e:=F.ent i
 cases hx:xs[i]? with
 |none=>rw[hx] at e; rw[e] at h2; simp at h2
 |some x =>
  rw[hx] at e;rw[e] at h2;exact⟨x,rfl,e,by simpa [rZ] using h2,F.h5 x (Ak hx)⟩
theorem FindIn.one {i j:Nat}{x y:K×Value×Value}(hi:xs[i]?=some x)(hj:xs[j]?=some y)(e:x.1=y.1):i=j:=by
 have l:i < (xs.map (·.1)).length:=by rw[AL]; exact(AX.1 hi).1
 exact(List.getElem?_inj l F.h6).1 (by rw[Ah,Ah,hi,hj,Option.map_some,Option.map_some,e])
theorem FindIn.plain {Q:Option Nat->Shared->Prop}(room:knd.room A)(no:(∀(j:Nat) (p:Value×Value),xs[j]?≠some (k,p))->Q none s)(yes:∀(j:Nat) (p:Value×Value),xs[j]?=some (k,p)->Q (some j) s):
  wpAny (model prog w) A (dictWalkPlain d u (knd.hash k) es (plc knd es k)) Q E s:=by
 obtain⟨o,h1,h3⟩:=F.h1;unfold dictWalkPlain;refine AA (Ao _ (fun rQ r s'=>r.1=none/\s'=s/\(∀i∈rQ,i∈plc knd es k)/\∀(j:Nat) (p:Value×Value),xs[j]?=some (k,p)->j∈rQ) _ ?_ ?_ _ _ ⟨rfl,rfl,fun _ h=>h,fun j p h=>F.mem h⟩)
 .rintro i rQ r s' ⟨hr,rfl,hsub,hin⟩
  obtain⟨x,hx,ex,hh,ix⟩:=F.at (hsub i AW);rw[ex];dsimp only;refine AS (fun _=>?_) fun hc=>(hc (by simp[rZ,hh])).elim;refine AA (BX h1 h3 (AA (knd.eqBool room ix F.kk (AA (BX h1 h3 ?_)))));refine AS (fun hc=>by simp at hc) fun _=>?_;refine AS (fun hc=>?_) fun hc=>?_
  .have e:=AH hc
   obtain⟨x1,x2⟩:=x;cases e;exact AA (BI (AB (AB (yes i x2 hx))))
  .have ne:x.1≠k:=fun z=>hc (A7 z)
   refine AA (BI (AB ⟨rfl,rfl,fun i' h=>hsub i' (AJ _ h),fun j p hj=>?_⟩))
   rcases Ag.1 (hin j p hj) with rfl | h
   .rw [hx] at hj; cases hj; exact(ne rfl).elim
   .exact h
 .rintro ⟨r1,r2⟩ s' ⟨hr,rfl,_,hin⟩
  cases hr;exact AB (no fun j p hj=>nomatch hin j p hj)
theorem FindIn.tell {Q:Bool->Shared->Prop}(S:List Value)(hS:∀v∈S,∃k',knd.is s.heap k' v)(q:Q false s):wpAny (model prog w) A (tableMayTell u S) Q E s:=by
 unfold tableMayTell;refine AS (fun _=>AB q) fun _=>?_;refine AA (knd.quiet F.kk ?_);refine AS (fun hc=>by simp at hc) fun _=>?_;refine AA (Ao _ (fun rQ r s'=>r.1=none/\s'=s/\∀v∈rQ,∃k',knd.is s.heap k' v) _ ?_ ?_ _ _ ⟨rfl,rfl,hS⟩)
 .rintro v rQ r s' ⟨hr,rfl,h⟩
  obtain⟨k',hk⟩:=h v AW;exact AA (knd.quiet hk (AS (fun hc=>by simp at hc) fun _=>AB ⟨rfl,rfl,fun v hv=>h v (AJ _ hv)⟩))
 .rintro ⟨r1,r2⟩ s' ⟨hr,rfl,_⟩
  cases hr;exact AB q
theorem FindIn.stored:∀v∈List.filterMap (fun i=>Option.map (fun x=>x.key) es[i]?) (plc knd es k),∃k',knd.is s.heap k' v:=fun v hv=>by
 obtain⟨i,hi,hv⟩:=List.mem_filterMap.1 hv;obtain⟨x,_,ex,_,ix⟩:=F.at hi;rw[ex] at hv;cases hv;exact⟨x.1,ix⟩
theorem FindIn.find {Q:Option Nat->Shared->Prop}(room:knd.room A)(no:(∀(j:Nat) (p:Value×Value),xs[j]?≠some (k,p))->Q none s)(yes:∀(j:Nat) (p:Value×Value),xs[j]?=some (k,p)->Q (some j) s):
  wpAny (model prog w) A (dictFind d u (knd.hash k)) Q E s:=by
 obtain⟨o,h1,h3⟩:=id F.h1;unfold dictFind;refine An (AA (wpAny_dictEntries h1 h3 ?_));have hS:=F.stored;have hP:=F.plain (E:=E) room no yes
 extract_lets P S hit jp2 jp1 jp0
 have nd:P.Nodup:=List.nodup_range.filter _
 have H2:wpAny (model prog w) A (jp2 false) Q E s:=by
  dsimp only[jp2];refine AS (fun hc=>by simp at hc) fun _=>?_;refine AA (Ao _ (fun rQ r s'=>r.1=none/\s'=s/\(∀i∈rQ,i∈P)/\rQ.Nodup/\((r.2=none/\∀(j:Nat) (p:Value×Value),xs[j]?=some (k,p)->j∈rQ)\/∃(j:Nat) (p:Value×Value),r.2=some j/\xs[j]?=some (k,p)/\j∉rQ)) _ ?_ ?_ _ _ ⟨rfl,rfl,fun _ h=>h,nd,.inl ⟨rfl,fun j p h=>F.mem h⟩⟩)
  .rintro i rQ ⟨r1,r2⟩ s' ⟨hr,rfl,hsub,hnd,hin⟩
   obtain⟨x,hx,ex,hh,ix⟩:=F.at (hsub i AW);obtain⟨ni,hnd⟩:=BY.1 hnd;have hsub':∀i'∈rQ,i'∈P:=fun i' h=>hsub i' (AJ _ h);rw[ex];dsimp only;refine AS (fun _=>?_) fun hc=>(hc (by simp[rZ,hh])).elim;refine AA (BX h1 h3 (AA (knd.eqBool room ix F.kk (AA (BX h1 h3 ?_)))));refine AS (fun hc=>by simp at hc) fun _=>?_
   refine AS (fun hc=>?_) fun hc=>?_
   .have e:=AH hc
    obtain⟨x1,x2⟩:=x;cases e;refine AS (fun hc=>?_) fun _=>?_
    .exfalso
     rcases hin with ⟨h,_⟩ | ⟨j,p,_,hj,nj⟩
     .have h:r2=none:=h
      rw[h] at hc;cases hc
     .have:=F.one hx hj rfl
      subst this;exact nj AW
    .exact AA (BI (AS (fun _=>AB (AB (yes i x2 hx))) fun _=>AB ⟨rfl,rfl,hsub',hnd,.inr ⟨i,x2,rfl,hx,ni⟩⟩))
   .have ne:x.1≠k:=fun z=>hc (A7 z)
    refine AA (BI (AS (fun hc=>by simp at hc) fun _=>AB ⟨rfl,rfl,hsub',hnd,?_⟩))
    rcases hin with ⟨h,hin⟩ | ⟨j,p,h,hj,nj⟩
    .refine .inl ⟨h,fun j p hj=>?_⟩
     rcases Ag.1 (hin j p hj) with rfl | h
     .rw [hx] at hj; cases hj; exact(ne rfl).elim
     .exact h
    .exact .inr ⟨j,p,h,hj,fun z=>nj (AJ _ z)⟩
  .rintro ⟨r1,r2⟩ s' ⟨hr,rfl,_,_,hin⟩
   cases hr
   rcases hin with ⟨h,hin⟩ | ⟨j,p,h,hj,nj⟩
   .have h:r2=none:=h
    subst h;exact AB (no fun j p hj=>nomatch hin j p hj)
   .have h:r2=some j:=h
    subst h;exact AB (yes j p hj)
 have H1:wpAny (model prog w) A (jp1 ()) Q E s:=by
  dsimp only[jp1];exact AS (fun _=>AA (AB H2)) fun _=>AA (F.tell _ hS H2)
 have H0:wpAny (model prog w) A (jp0 ()) Q E s:=by
  dsimp only[jp0];refine AS (fun _=>hP) fun _=>?_
  split
  .next a0 _ =>
   refine AS (fun hc=>?_) fun _=>H1
   exfalso
   rw[Array.any_eq_true'] at hc;obtain⟨e,he,hc⟩:=hc;obtain⟨y,hy,rfl⟩:=BA.1 (show e∈xs.map (rZ knd) by rw[<- F.h4]; exact CQ.2 he);rw[A1] at hc;have e1:y.2.1=.ref a0:=by simpa [rZ] using hc.1
   have i1:=F.h5 y hy;rw[e1] at i1;have:=knd.inj i1 F.kk;have h2:=hc.2
   simp[rZ,this] at h2
  .exact H1
 split
 .next z x tok =>
  refine AS (fun hall=>?_) fun _=>H0;unfold foundByValue;rw[Array.all_eq_true'] at hall;have str:∀y∈xs,isExactStrKey y.2.1=true:=fun y hy=>hall (rZ knd y) (by rw[<- CQ,F.h4]; exact BA.2 ⟨y,hy,rfl⟩)
  cases hi:Array.findIdx? (fun y=>y.key.isStr x) es with
  |none =>
   dsimp only;refine AB (no fun j p hj=>?_);have e:=F.ent j;rw[hj] at e;have hm:=Ak hj;have:=Array.findIdx?_eq_none_iff.1 hi (rZ knd (k,p)) (Array.mem_of_getElem? e);have h2:=(knd.sx F.kk (F.h5 _ hm) (str _ hm)).1 rfl;have this:p.1.isStr x=false:=this;rw[h2] at this;cases this
  |some i =>
   dsimp only;obtain⟨hlt,hp,_⟩:=Array.findIdx?_eq_some_iff_getElem.1 hi;have e:=F.ent i;rw[Array.getElem?_eq_getElem hlt] at e
   cases hx:xs[i]? with
   |none=>rw[hx] at e; cases e
   |some y =>
    rw[hx] at e;have e:=Ae e;have hm:=Ak hx;rw[Array.getElem?_eq_getElem hlt,e];dsimp only;rw[e] at hp;have ek:=(knd.sx F.kk (F.h5 _ hm) (str _ hm)).2 hp;refine AA (BX h1 h3 (AA (knd.eqBool room (F.h5 _ hm) F.kk (AA (BX h1 h3 ?_)))));refine AS (fun hc=>by simp at hc) fun _=>?_;refine AS (fun _=>?_) fun hc=>(hc (A7 ek)).elim
    obtain⟨y1,y2⟩:=y;cases ek;exact AA (BI (AB (yes i y2 hx)))
 .exact H0
end
end
end PySem
namespace L2
open PySem PySem.Spec PyProof.Rows
def bI (b:Bool):Int:=if b=true then 1 else 0
section
variable {prog:Program}{w:World}{A:Around}{E:Value->Shared->Prop}{s:Shared}
theorem mI {Q:Int->Shared->Prop}{b:Bool}(h:Q (hashInt (bI b)) { s with toks:=s.toks+1 }):wpAny (model prog w) A (pyHash (.bool b)) Q E s:=by
 apply AA
 apply AB
 have ty:s.TypeIs (.bool b) "bool":=rfl
 refine AA (Ai ty Be.lookup (AA (Ai ty Be.lookup (AA (Aw ty Be
  (A0 Be ty PySem.F.entry_int_hash ?_ (PySem.F.args_int_hash_1 _)))))))
 cases b
 .unfold Builtin.«int.__hash__»
  wp_walk
  exact⟨_,rfl,AB h⟩
 .unfold Builtin.«int.__hash__»
  wp_walk
  exact⟨_,rfl,AB h⟩
end
abbrev cR:=Sum Key (List Key)
def mHash (prog:Program)(w:World):cR->Int
 |.inl k=>keyH w k
 |.inr ks=>tupleKeyHash (sQ prog w) ks
inductive MSh (prog:Program)(w:World)(h:Heap):cR->Value->Prop
 |int (i:Int) (t:Tok):MSh prog w h (.inl (.inl (some i))) (.int i t)
 |bl (b:Bool):MSh prog w h (.inl (.inl (some (bI b)))) (.bool b)
 |str (x:Str) (t:Tok):MSh prog w h (.inl (.inr x)) (.str x t)
 |non:MSh prog w h (.inl (.inl none)) .none
 |tup {ks:List Key} {a:Addr} (hk:IsTupleKey (sQ prog w) h ks a):MSh prog w h (.inr ks) (.ref a)
def mDraws:cR->Nat
 |.inl _=>1
 |.inr ks=>ks.length+1
theorem bN {prog:Program}{w:World}{h:Heap}{ks:List Key}{a:Addr}(hk:IsTupleKey (sQ prog w) h ks a):∃items,h.IsTuple a items:=by
 obtain⟨o,items,n,h1,h2,h3,_⟩:=hk;exact⟨items,o,h1,h2,n,h3⟩
theorem mEq {prog:Program}{w:World}{A:Around}{E:Value->Shared->Prop}{s:Shared}{x y:cR}{u v:Value}{Q:Bool->Shared->Prop}(room:A.units < cLine)(hx:MSh prog w s.heap x u)(hy:MSh prog w s.heap y v)(h:Q (decide (x=y)) s):wpAny (model prog w) A (eqBool u v) Q E s:=by
 have cv:∀b:Bool,decide (x=y)=b->Q b s:=fun b e=>e▸h
 cases hx with
 |int i t =>
  cases hy with
  |int j u=>exact wpAny_eqBool_int (cv _ (by simp[Bool.beq_eq_decide_eq]))
  |bl b=>exact SeqAt.EqAt.int_bool i t b _ _ _ _ (cv _ (by cases b<;>simp[bI,Bool.beq_eq_decide_eq]))
  |str y u=>exact SeqAt.EqAt.int_str i t y u _ _ _ _ (cv _ (by simp))
  |non=>exact SeqAt.EqAt.int_none i t _ _ _ _ (cv _ (by simp))
  |tup hk=>obtain⟨its,ht⟩:=bN hk; exact SeqAt.EqAt.int_tuple i t ht room _ _ _ _ (cv _ (by simp))
 |bl b =>
  cases hy with
  |int j u=>exact SeqAt.EqAt.bool_int b j u _ _ _ _ (cv _ (by cases b<;>simp[bI,Bool.beq_eq_decide_eq]))
  |bl b'=>exact SeqAt.EqAt.bool_bool b b' _ _ _ _ (cv _ (by cases b<;>cases b'<;>simp[bI]))
  |str y u=>exact SeqAt.EqAt.bool_str b y u _ _ _ _ (cv _ (by simp))
  |non=>exact SeqAt.EqAt.bool_none b _ _ _ _ (cv _ (by simp))
  |tup hk=>obtain⟨its,ht⟩:=bN hk; exact SeqAt.EqAt.bool_tuple b ht room _ _ _ _ (cv _ (by simp))
 |str x t =>
  cases hy with
  |int j u=>exact SeqAt.EqAt.str_int x t j u _ _ _ _ (cv _ (by simp))
  |bl b=>exact SeqAt.EqAt.str_bool x t b _ _ _ _ (cv _ (by simp))
  |str y u=>exact wpAny_eqBool_str (cv _ (by simp))
  |non=>exact SeqAt.EqAt.str_none x t _ _ _ _ (cv _ (by simp))
  |tup hk=>obtain⟨its,ht⟩:=bN hk; exact SeqAt.EqAt.str_tuple x t ht room _ _ _ _ (cv _ (by simp))
 |non =>
  cases hy with
  |int j u=>exact SeqAt.EqAt.none_int j u _ _ _ _ (cv _ (by simp))
  |bl b=>exact SeqAt.EqAt.none_bool b _ _ _ _ (cv _ (by simp))
  |str y u=>exact SeqAt.EqAt.none_str y u _ _ _ _ (cv _ (by simp))
  |non=>exact xR (cv _ (by simp))
  |tup hk=>obtain⟨its,ht⟩:=bN hk; exact SeqAt.EqAt.none_tuple ht room _ _ _ _ (cv _ (by simp))
 |tup hk' =>
  obtain⟨its',ht'⟩:=bN hk'
  cases hy with
  |int j u=>exact SeqAt.EqAt.tuple_int j u ht' room _ _ _ _ (cv _ (by simp))
  |bl b=>exact SeqAt.EqAt.tuple_bool b ht' room _ _ _ _ (cv _ (by simp))
  |str y u=>exact SeqAt.EqAt.tuple_str y u ht' room _ _ _ _ (cv _ (by simp))
  |non=>exact SeqAt.EqAt.tuple_none ht' room _ _ _ _ (cv _ (by simp))
  |tup hk=>exact wpAny_eqBool_tuple room hk' hk (cv _ (by simp))
def lB (prog:Program)(w:World):yV prog w cR where
 is:=MSh prog w
 hash:=mHash prog w
 draws:=mDraws
 room:=fun A=>A.units < cLine
 inj:=fun hx hy=>by
  cases hx with
  |tup h1 =>
   cases hy with
   |tup h2=>rw[h1.inj h2]
  |int i t=>cases hy; rfl
  |bl b=>cases hy; rfl
  |str x t=>cases hy; rfl
  |non=>cases hy; rfl
 keeps:=fun hx ho hd hs=>by
  cases hx with
  |int i t=>exact .int i t
  |bl b=>exact .bl b
  |str x t=>exact .str x t
  |non=>exact .non
  |tup hk=>exact .tup (hk.keeps ho hd hs)
 pyHash:=fun room hx h=>by
  cases hx with
  |int i t=>exact wpAny_pyHash_int h
  |bl b=>exact mI h
  |str x t=>exact wpAny_pyHash_str h
  |non=>exact yL h
  |tup hk=>exact wpAny_pyHash_tuple room hk h
 eqBool:=fun room hx hy h=>mEq room hx hy h
 quiet:=fun hx h=>by
  cases hx with
  |tup hk=>exact nV 7 hk h
  |int i t=>rw[Bd _ (by rfl)]; exact AB h
  |bl b=>rw[Bd _ (by rfl)]; exact AB h
  |str x t=>rw[Bd _ (by rfl)]; exact AB h
  |non=>rw[Bd _ (by rfl)]; exact AB h
 sx:=fun hk hv he=>by
  cases hk
  cases hv with
  |str y u=>simp[Value.isStr]
  |_=>cases he
end L2
namespace CL
open PySem PySem.Spec L2 PySem.W
open PyProof.Rows hiding St
section
variable {X:Cx}{a b c e o i f value:Expr}{es:List Expr}{pos pos':Pos}
@[irreducible] def cTPopK:PV->PV->CH->K1->Prop:=fun x y C Q=>match x with
 |.ref a=>match C a,eF y with
  |some (.dT kvs),some k=>match tF kvs k with
   |some v=>Q v (jQ C a (.dT (kvs.filter fun kv=>decide (kv.1≠k))))
   |none=>False
  |_,_=>False
 |_=>False
@[irreducible] def cNotB:R2C:=fun x y C Q=>match x,y with
 |.bl a,.bl b=>Q (.bl (!(a==b))) C
 |_,_=>False
@[irreducible] def cSlU:PV->Option Int->Option Int->CH->K1->Prop:=fun x lo hi C Q=>match x with
 |.tup xs=>Q (.tup (cutP xs lo hi)) C
 |_=>False
end
end CL
namespace PySem
open PySem.Spec PyProof.Rows PyProof.Rows.F
section
variable {K β:Type}[DecidableEq K]{xs:List (K×β)}{k:K}
def atV (xs:List (K×β))(k:K):Option β:=(xs.find? fun x=>decide (x.1=k)).map (·.2)
theorem atV_get (nd:(xs.map (·.1)).Nodup){i:Nat}{p:β}(h:xs[i]?=some (k,p)):atV xs k=some p:=by
 unfold atV
 cases e:xs.find? fun x=>decide (x.1=k) with
 |none=>simpa using List.find?_eq_none.1 e _ (Ak h)
 |some q =>
  have e1:q.1=k:=by simpa using List.find?_some e
  obtain⟨j,hj⟩:=CD.1 (List.mem_of_find?_eq_some e);have l:i < (xs.map (·.1)).length:=by rw[AL]; exact(AX.1 h).1
  have:i=j:=(List.getElem?_inj l nd).1 (by rw[Ah,Ah,h,hj]; simp[e1]);subst this;rw[h] at hj;cases hj
  rfl
theorem Zk (h:∀(j:Nat) (p:β),xs[j]?≠some (k,p)):atV xs k=none:=by
 unfold atV;rw[Option.map_eq_none_iff,List.find?_eq_none];rintro⟨x1,x2⟩ hx e;obtain⟨j,hj⟩:=CD.1 hx;obtain rfl:x1=k:=by simpa using e
 exact h j x2 hj
end
section
variable {prog:Program}{w:World}{K:Type}[DecidableEq K]{knd:yV prog w K}{A:Around}{E:Value->Shared->Prop}{s:Shared}{d:Addr}{xs:List (K×Value×Value)}{k:K}{u v:Value}
theorem Heap.DictOfV.type (dd:s.heap.DictOfV knd d xs):s.TypeIs (.ref d) "dict":=by
 obtain⟨o,_,_,h1,h2,_⟩:=dd;exact⟨o,h1,h2.1⟩
theorem Heap.DictOfV.in' {o:Obj}{es:Array DictEntry}{ep:Nat}{n:Nat}(kk:knd.is s.heap k u)(h1:s.heap.get? d=some o)(h3:o.data=.dict es ep)(h4:es.toList=xs.map (rZ knd))(h5:∀x∈xs,knd.is s.heap x.1 x.2.1)(h6:(xs.map (·.1)).Nodup):FindIn knd { s with toks:=n } d es ep xs k u:=⟨⟨o,h1,h3⟩,kk,h4,h5,h6⟩
theorem XY {Q:Option Value->Shared->Prop}(room:knd.room A)(kk:knd.is s.heap k u)(dd:s.heap.DictOfV knd d xs)(h:Q ((atV xs k).map (·.2)) { s with toks:=s.toks+knd.draws k }):wpAny (model prog w) A (dictGet d u) Q E s:=by
 obtain⟨o,es,ep,h1,h2,h3,h4,h5,h6⟩:=dd;have F:=Heap.DictOfV.in' (n:=s.toks+knd.draws k) kk h1 h3 h4 h5 h6;refine An (AA (knd.pyHash room kk (AA (F.find room (fun no=>?_) fun j p hj=>?_))))
 .rw [Zk no] at h
  exact AB h
 .rw [atV_get h6 hj] at h
  refine AA (wpAny_dictEntries (s:={ s with toks:=s.toks+knd.draws k }) h1 h3 ?_);rw[F.ent j,hj];exact AB h
theorem iS {Q:Bool->Shared->Prop}(room:knd.room A.in1)(kk:knd.is s.heap k u)(hd:(d==sysModules)=false)(dd:s.heap.DictOfV knd d xs)
  (h:Q (atV xs k).isSome { s with toks:=s.toks+knd.draws k }):wpAny (model prog w) A (contains (.ref d) u) Q E s:=by
 refine An (AA (Ai dd.type slot_dict_contains.lookup ?_));rw[AR (by rw[beq_builtin_none]; exact AE)]
 refine AA (wpAny_callSpecialUnlessNone?_slot (name:=Str.ofString "__contains__") dd.type slot_dict_contains
  (A0 slot_dict_contains dd.type entry_dict_contains ?_ (args_dict_contains _ _)))
 show wpAny _ _ (dictGet d u >>= _) _ _ s;refine AA (XY room kk dd ?_)
 cases hf:atV xs k with
 |some p =>
  rw[hf] at h;exact AB ⟨_,rfl,Af h⟩
 |none =>
  rw[hf] at h;exact AA (wpAny_pendingKey_other hd (AB ⟨_,rfl,Af h⟩))
theorem in_v {Q:Value->Shared->Prop}(room:knd.room A.in1)(kk:knd.is s.heap k u)(hd:(d==sysModules)=false)(dd:s.heap.DictOfV knd d xs)
  (h:Q (.bool (atV xs k).isSome) { s with toks:=s.toks+knd.draws k }):wpAny (model prog w) A (compareOp .In u (.ref d)) Q E s:=AA (iS room kk hd dd (AB h))
end
end PySem
namespace L2
open PySem PySem.W PyProof.Rows PySem.Spec
def ItRv (K:CU)(a:Addr)(n:Nat):It :=
 ⟨fun i H=>i < n/\∃xs,SqL K H a xs/\xs.length=n,fun i H x H'=>H'=H/\∀xs,SqL K H a xs->xs[n - 1 - i]?=some x,fun i H=>i=n⟩
theorem turn_rv {P:Program}{w:World}{K:CU}{tg:Expr}(a it:Addr)(n:Nat):dR P w K tg (ItRv K a n) [it] it (fun i h=>h.IsRevIter it a ((n:Int) - 1 - i)) where
 mem:=by simp
 obj:=fun i h st b hb=>by
  have e:b=it:=by simpa using hb
  subst e;obtain⟨o,e,c,d⟩:=st;exact⟨o,e,fun v z=>by rw[d] at z; cases z⟩
 keep:=fun i h h' st k=>st.at fun o e=>k it (by simp) o e
 item:=by
  intro X hP hw hK hc i pins s σ H E I hf st hg;subst hP hw hK;obtain⟨hi,xs,hq,hn⟩:=hg;obtain⟨its,rv,p,hz⟩:=I.list hq;obtain⟨f0,f1,f2,f3,f4,f5⟩:=hf it (by simp);have hk:xs[n - 1 - i]?=some (xs[n - 1 - i]'(by omega)):=AN _;obtain⟨u,hu,ru⟩:=rv.get hk;have e0:(n:Int) - 1 - i=((n - 1 - i:Nat):Int):=by omega
  rw[e0] at st;refine wpAny_pyNext_rev_item st p.isList (by simpa using hu) fun h' st' sb=>?_;have e1:((n - 1 - i:Nat):Int) - 1=(n:Int) - 1 - ((i+1:Nat):Int):=by omega
  rw[e1] at st';have I1:Inv X pins σ H { s with heap:=h' }:=I.turned (t':=s.toks) (fun b o hb e=>(sb.2 b hb).trans e) f0 f1 f3 f4 f5;obtain⟨ob,e,c,dt⟩:=id st';exact⟨u,rfl,eC (s:={ s with heap:=h' }) e c dt (by decide) ⟨_,H,I1,ru,⟨rfl,fun ys hy=>by rw[I.list_inj hy hq]; exact hk⟩,st',fun b hb=>(hf b hb).1⟩⟩
 done:=by
  intro X hP hw hK hc i pins s σ H E I hf st hg;subst hP hw hK;obtain⟨f0,f1,f2,f3,f4,f5⟩:=hf it (by simp);have hg:i=n:=hg;have e0:(n:Int) - 1 - i = -1:=by omega
  rw[e0] at st;exact wpAny_pyNext_rev_end (I.ok.hd hc) st fun h' eb=>⟨rfl,I.turned (t':=s.toks) (fun b o hb e=>eb b o hb e) f0 f1 f3 f4 f5⟩
 self:=fun _ _ _ _ _ st h=>wpAny_pyIter_revIter st h
section
variable {X:Cx}{tg:Expr}{a:Expr}{p pos:Pos}{ta:TA}
def iRev (K:CU)(ta:TA):TI:=fun σ H R=>ta σ H fun vs H1=>∃l ys,vs=[.ref l]/\H1 l=some (.lst ys)/\R (ItRv K l ys.length) H1
theorem pi_rev (hg:Gl X "reversed")(hm:X.mg "reversed" = none)(ha:PA X [a] ta)(hs:starEach [a] X.env=[(false,eval a X.env)]:=by rfl):PI X tg (.Call (.Name "reversed" p) [a] [] pos) (iRev X.K ta):=by
 intro pins s σ H R I h;refine Call_ (kU I hg hm xD (BG (thn (ha pos pins s σ H _ I h) fun us s1 zz=>?_) hs rfl));obtain⟨vs,H1,I1,r1,l,ys,rfl,hl,q⟩:=zz;obtain⟨u,rfl,ru⟩:=iY r1;cases ru;obtain⟨its,r',pl,hz⟩:=I1.list (SqL.of hl);refine call_reversed_list pl.isList ?_;have hn:its.toArray.size=ys.length:=by rw[AK,r'.length]
 rw[hn];have st:(s1.heap.push (revObj l ((ys.length:Int) - 1))).IsRevIter s1.heap.objs.size l ((ys.length:Int) - 1 - (0:Nat)):=⟨_,AQ _ rfl,rfl,by simp[revObj]⟩;refine wpAny_pyIter_revIter st ⟨s1.heap.objs.size,[s1.heap.objs.size],_,_,H1,rfl,I1.kept (t':=s1.toks) fun b o e=>AC _ e,turn_rv l _ ys.length,st,fun b hb=>?_,q⟩;have e:b=s1.heap.objs.size:=by simpa using hb
 subst e;exact I1.fpOk (AI _) (I1.hok.fresh (AI _))
end
section
variable {X:Cx}
theorem Xs {d:Addr}{kvs:List (Key×V)}(kd:KD X.K X.prog X.w d kvs){h:Heap}(hk:X.K.In h):∃xs,h.DictOfV (lB X.prog X.w) d xs/\∀ks,atV xs (.inr ks)=none:=by
 obtain⟨vs,rel,o,es,ep,h1,h2,h3,hko,hpr,nd⟩:=kd.all h hk
 have main:∀{l:List DictEntry} {vs:List (Key×Value)},(∀e∈l,∃k,lU k e.key=true/\e.hash=keyH X.w k)->Pairs (sQ X.prog X.w) l vs->∃xs:List (cR×Value×Value),l=xs.map (rZ (lB X.prog X.w))/\(∀x∈xs,MSh X.prog X.w h x.1 x.2.1)/\xs.map (·.1)=vs.map (fun z=>Sum.inl z.1):=by
  intro l vs hl hp
  induction hp with
  |nil=>exact⟨[],rfl,⟨(fun _ z=>by cases z),rfl⟩⟩
  |@cons e kv es vs hi hv hr ih =>
   obtain⟨xs,e1,e2,e3⟩:=ih fun e he=>hl e (AJ _ he);obtain⟨k',hk',hh⟩:=hl e AW;have hi':lU kv.1 e.key=true:=hi
   have hs:MSh X.prog X.w h (.inl kv.1) e.key:=by
    rcases pX hi' with ⟨i,t,ek,ev⟩ | ⟨x,t,ek,ev⟩ | ⟨ek,ev⟩<;>rw[ek,ev]
    .exact .int i t
    .exact .str x t
    .exact .non
   have he:k'=kv.1:=by
    rcases pX hi' with ⟨i,t,ek,ev⟩ | ⟨x,t,ek,ev⟩ | ⟨ek,ev⟩<;>rcases pX hk' with ⟨i',t',ek',ev'⟩ | ⟨x',t',ek',ev'⟩ | ⟨ek',ev'⟩<;>rw[ev] at ev'<;>cases ev'<;>rw[ek,ek']
   subst he;refine⟨(.inl kv.1,e.key,e.val)::xs,?_,fun x hx=>?_,by simp[e3]⟩
   .rw [Au,<- e1]
    congr 1
    obtain⟨eh,ek,ev⟩:=e;show DictEntry.mk eh ek ev=DictEntry.mk _ ek ev
    congr 1
   .rcases Ag.1 hx with rfl | hx
    .exact hs
    .exact e2 x hx
 obtain⟨xs,e1,e2,e3⟩:=main (fun e he=>hko e (by simpa using he)) hpr;refine⟨xs,⟨o,es,ep,h1,h2,h3,e1,e2,?_⟩,fun ks=>Zk fun j p hj=>?_⟩
 .rw [e3]
  have e4:vs.map (fun z=>(Sum.inl z.1:cR))=(vs.map (·.1)).map Sum.inl:=by rw[Bf]; rfl
  rw[e4];exact List.Pairwise.map Sum.inl (fun a b hab z=>hab (Sum.inl.inj z)) nd
 .have hm:(Sum.inr ks:cR)∈xs.map (·.1):=BA.2 ⟨_,Ak hj,rfl⟩
  rw[e3] at hm;obtain⟨z,_,hz⟩:=BA.1 hm;cases hz
variable {d:Addr}{kvs:List (Key×V)}
theorem lA (kd:KD X.K X.prog X.w d kvs)(hu:X.A.units+1 < cLine):OpR X (compareOp .In) (fun x y H Q=>∃(b:Addr) (ks:List Key),x=.ref b/\y=.ref d/\H b=some (.tup (ks.map kV))/\Q (.bl false) H):=by
 intro pins s σ H x y v u Q I rx ry h;obtain⟨b,ks,rfl,rfl,hb,q⟩:=h;cases (show u=Value.ref d from ry);cases (show v=Value.ref b from rx);obtain⟨xs,dd,no⟩:=Xs kd I.kIn;refine in_v (knd:=lB X.prog X.w) (k:=.inr ks) (Bs (knd:=sQ X.prog X.w) hu) (MSh.tup (oM I.hok hb)) kd.ne dd ?_;rw[no];exact⟨.bl false,H,I.tok _,rfl,q⟩
def tKGetT (d:Addr)(td ty tx:TE):TE:=fun σ H Q=>td σ H fun x H1=>x=.ref d/\ty σ H1 fun y H2=>tx σ H2 fun z H3=>∃(b:Addr) (ks:List Key),y=.ref b/\H3 b=some (.tup (ks.map kV))/\Q z H3
theorem yI {o e f:Expr}{td ty tx:TE}{apos cpos:Pos}(kd:KD X.K X.prog X.w d kvs)(hu:X.A.units+1 < cLine)(ho:JE X o td)(he:JE X e ty)(hf:JE X f tx)(hb:attributeBase o "get" X.env (eval o X.env)=eval o X.env:=by rfl)(hl:(apos.endLine==cpos.line)=true:=by rfl)
  (h1:noStar e=true:=by rfl) (h2:noStar f=true:=by rfl):JE X (.Call (.Attribute o "get" apos) [e,f] [] cpos) (tKGetT d td ty tx):=by
 refine⟨fun pins s σ H Q I h=>?_⟩;have m:M2 X o "get" apos e f cpos:=m2_of hb hl h1 h2;refine wpAny_Call_method m.base m.few m.line PySem.F.plainAttrs_dict PySem.F.slot_dict_get PySem.F.type_dict_get (thn (ho.h pins s σ H _ I h) fun u s1 zz=>el24 zz fun x H1 I1 rx ex q1=> ?_);subst ex;obtain rfl:u=Value.ref d:=rx;obtain⟨vs,rel,dd⟩:=kd.all s1.heap I1.kIn;refine⟨dd.typeIs,fun b q=>?_,?_⟩
 .cases q
  obtain⟨ob,_,_,e1,e2,_⟩:=dd;exact⟨ob,e1,e2.2.1⟩
 rw[m.trees]
 refine B4 rfl (Calls.evalArgs_plain (Calls.spliced_cons (thn (he.h pins s1 σ H1 _ I1 q1) fun iv s2 zz=>XU zz fun y H2 I2 ry q2=>
  Calls.spliced_cons (thn (hf.h pins s2 σ H2 _ I2 q2) fun fv s3 ⟨z,H3,I3,rz,b,ks,ey,hb,q3⟩=>Calls.spliced_nil ?_))))
 subst ey;cases (show iv=Value.ref b from ry);obtain⟨xs,dv,no⟩:=Xs kd I3.kIn;refine A0 PySem.F.slot_dict_get dv.type PySem.F.entry_dict_get ?_ (PySem.F.args_dict_get_3 _ _ _);show wpAny _ _ (dictGet d (.ref b) >>= _) _ _ _;refine AA (XY (knd:=lB X.prog X.w) (k:=.inr ks) (Bs (knd:=sQ X.prog X.w) hu) (MSh.tup (oM I3.hok hb)) dv ?_);rw[no];show wpAny _ _ (Builtin.Dict.missed d (.ref b) >>= _) _ _ _
 exact AA (wpAny_missed_other kd.ne (AB ⟨fv,rfl,z,H3,I3.tok _,rz,q3⟩))
theorem Qe:CallR X (.type "int") (fun xs H Q=>∃z n,xs=[.str z]/\z.length<=640/\PySem.intText? z=some n/\Q (.int n) H):=by
 intro pins s σ H xs us Q I r h;obtain⟨z,n,rfl,hl,hn,q⟩:=h;obtain⟨u,rfl,ru⟩:=iY r;obtain⟨t,rfl⟩:=ru;exact PySem.W.KIN.call_text hn hl ⟨.int n,H,I.tok _,⟨_,rfl⟩,q⟩
end
end L2
namespace CL
open PySem PySem.Spec L2 PySem.W
open PyProof.Rows hiding St
def cIntT:GC:=fun ts C Q=>∃z n,ts=[.str z]/\z.length<=640/\PySem.intText? z=some n/\Q (.int n) C
theorem Zc {K:CU}:Cbi K (fun xs H Q=>∃z n,xs=[.str z]/\z.length<=640/\PySem.intText? z=some n/\Q (.int n) H) cIntT:=fun xs ps H C Q R rs h q f=>by
 obtain⟨z,n,rfl,hl,hn,q⟩:=q;obtain⟨v,rfl,r⟩:=aX rs;cases r;exact⟨z,n,rfl,hl,hn,f _ _ _ _ q (.int n) h Fw.refl⟩
theorem jM {K:CU}{H:Hp}:∀{vs:List V}{xs:List PV}{ks:List Key},Reps K H vs xs->xs.map cK=ks.map some->vs=ks.map kV
 |_,_,[],.nil,_=>rfl
 |_,_,[],.cons _ _,e=>by cases e
 |_,_,_::_,.nil,e=>by cases e
 |_,_,k::ks,.cons r rs,e=>by
  rw[Au,Au] at e;injection e with e1 e2
  rw[vU r e1,jM rs e2]
  rfl
def cDIn:R2C:=fun x y C Q=>∃d kvs k,y=.ref d/\C d=some (.dK kvs)/\cK x=some k/\Q (.bl (oE kvs k).isSome) C
theorem cop_din {K:CU}:Cop K (fun x y H Q=>∃d ov,y=.ref d/\DGet H d x ov/\Q (.bl ov.isSome) H) cDIn:=fun x y px py H C Q R rx ry h ⟨d,kvs,k,e1,e2,e3,q⟩ f=>by
 subst e1;cases ry;obtain⟨vs,ev,r⟩:=h d _ e2;refine⟨d,bV vs k,rfl,.inl ⟨vs,k,Rd.of ev,vU rx e3,rfl⟩,?_⟩
 rcases KP.val r k with ⟨v,t,l1,l2,rv⟩ | ⟨l1,l2⟩
 .rw [l2] at q; rw[l1]; exact f _ _ _ _ q (.bl _) h Fw.refl
 .rw [l2] at q; rw[l1]; exact f _ _ _ _ q (.bl _) h Fw.refl
def cInKdT (d:Addr):R2C:=fun x y C Q=>∃(xs:List PV) (ks:List Key),x=.tup xs/\y=.ref d/\xs.map cK=List.map some ks/\Q (.bl false) C
theorem oI {K:CU}{d:Addr}:Cop K (fun x y H Q=>∃(b:Addr) (ks:List Key),x=.ref b/\y=.ref d/\H b=some (.tup (ks.map kV))/\Q (.bl false) H) (cInKdT d):=fun x y px py H C Q R rx ry h ⟨xs,ks,e1,e2,e3,q⟩ f=>by
 subst e1 e2;cases ry
 cases rx with
 |tup e r =>
  rw[jM r e3] at e;exact⟨_,ks,rfl,rfl,e,f _ _ _ _ q (.bl _) h Fw.refl⟩
def cKGetT (d:Addr)(cd ce cf:TCE):TCE:=fun ρ C Q=>cd ρ C fun x C1=>x=.ref d/\ce ρ C1 fun y C2=>cf ρ C2 fun z C3=>∃(xs:List PV) (ks:List Key),y=.tup xs/\xs.map cK=List.map some ks/\Q z C3
theorem aI {X:Cx}{d:Addr}{kvs:List (Key×V)}{o e f:Expr}{cd ce cf:TCE}{apos cpos:Pos}(kd:KD X.K X.prog X.w d kvs)(hu:X.A.units+1 < cLine)(ho:CE X o cd)(he:CE X e ce)(hf:CE X f cf)(hb:attributeBase o "get" X.env (eval o X.env)=eval o X.env:=by rfl)(hl:(apos.endLine==cpos.line)=true:=by rfl)
  (h1:noStar e=true:=by rfl) (h2:noStar f=true:=by rfl):CE X (.Call (.Attribute o "get" apos) [e,f] [] cpos) (cKGetT d cd ce cf) :=
 ⟨JE.weak (yI kd hu ho.h he.h hf.h hb hl h1 h2) fun σ H Q zz=>qX zz fun ρ C R s h q fin =>
  ⟨ρ,C,_,s,h,q,fun x H1 px C1 ⟨ex,q1⟩ rx h1 f1=>by
   subst ex;cases rx;refine⟨rfl,ρ,C1,_,s.imm (f1.imm h),h1,q1,fun y H2 py C2 q2 ry h2 f2=>?_⟩;have f12:=f1.trans f2;refine⟨ρ,C2,_,s.imm (f12.imm h),h2,q2,fun z H3 pz C3 ⟨xs,ks,ey,e3,q3⟩ rz h3 f3=>?_⟩;have ry3:=ry.imm (f3.imm h2);subst ey
   cases ry3 with
   |tup e r =>
    rw[jM r e3] at e
    exact⟨_,ks,rfl,e,fin _ _ _ _ q3 rz h3 (f12.trans f3)⟩⟩⟩
structure ItC (K:CU)(S:CH->Prop)(J:It)(ps:List PV):Prop where
 go:∀i H' C',i < ps.length->HRel K H' C'->S C'->J.go i H'
 yl:∀i H' C' x H'',HRel K H' C'->S C'->J.yld i H' x H''->H''=H'/\∀t,ps[i]?=some t->Rep K H' x t
 st:∀H' C',HRel K H' C'->S C'->J.stop ps.length H'
def bU (S:CH->Prop)(g:TCG)(u:TCS)(E:CEnds):List PV->CSt->CH->Prop
 |[],ρ,C=>S C/\E.nx ρ C
 |x::r,ρ,C=>S C/\g x ρ C fun ρ1 C1=>u (E.lp (bU S g u E r)) ρ1 C1
theorem QI {K:CU}{S:CH->Prop}{J:It}{ps:List PV}{H:Hp}{C:CH}{σ:St}{ρ:CSt}{g:TCG}{u:TCS}{E:CEnds}{D}(j:ItC K S J ps)(s:SRel K H σ ρ)(h:HRel K H C)(q:bU S g u E ps ρ C)(f:ERel K H C E D):
  ∃W:Nat->Nat->St->Hp->Prop,(∃m,W 0 m σ H)/\∀i m σ H,W i m σ H ->
   (J.stop i H/\D.nx σ H)\/(J.go i H/\∃N,(∀σ' H',N σ' H'->∃m',m' < m/\W (i+1) m' σ' H')/\∀x H',J.yld i H x H'->nS K g x σ H' fun σ2 H2=>rM K u { D with nx:=N,ct:=N,bk:=D.nx } σ2 H2):=by
 refine⟨fun i m σ' H'=>m=ps.length - i/\i<=ps.length/\∃ρ' C',SRel K H' σ' ρ'/\HRel K H' C'/\Fw H C H' C'/\bU S g u E (ps.drop i) ρ' C',⟨ps.length,rfl,Aa _,ρ,C,s,h,Fw.refl,q⟩,?_⟩;rintro i m σ1 H1 ⟨rfl,hi,ρ1,C1,s1,h1,f1,q1⟩
 by_cases hlt:i < ps.length
 .rw [BR hlt] at q1
  refine .inr ⟨j.go i H1 C1 hlt h1 q1.1,fun σ' H'=>∃ρ' C',SRel K H' σ' ρ'/\HRel K H' C'/\Fw H C H' C'/\bU S g u E (ps.drop (i+1)) ρ' C',fun σ' H' z=>⟨ps.length - (i+1),by omega,rfl,hlt,z⟩,fun x H2 y=>?_⟩;obtain⟨rfl,y⟩:=j.yl i H1 C1 x H2 h1 q1.1 y
  exact⟨ps[i],ρ1,C1,_,y _ (AN hlt),s1,h1,q1.2,fun σ' H' ρ' C' q' s' h' f'=>⟨ρ',C',_,s',h',q',⟨fun σ3 H3 ρ3 C3 q3 s3 h3 f3=>⟨ρ3,C3,s3,h3,f1.trans (f'.trans f3),q3⟩,fun v H3 t C3 q3 r3 h3 f3=>f.rt v H3 t C3 q3 r3 h3 (f1.trans (f'.trans f3)),
   fun σ3 H3 ρ3 C3 q3 s3 h3 f3=>f.nx σ3 H3 ρ3 C3 q3 s3 h3 (f1.trans (f'.trans f3)),fun σ3 H3 ρ3 C3 q3 s3 h3 f3=>⟨ρ3,C3,s3,h3,f1.trans (f'.trans f3),q3⟩⟩⟩⟩
 .have e:i=ps.length:=by omega
  subst e;rw[Bz] at q1;exact .inl ⟨j.st H1 C1 h1 q1.1,f.nx σ1 H1 ρ1 C1 q1.2 s1 h1 f1⟩
theorem it_rv {K:CU}{a:Addr}{n:Nat}{xs:List PV}(hn:n=xs.length):ItC K (fun C=>C a=some (.lst xs)) (ItRv K a n) xs.reverse where
 go:=fun i H' C' l h s=>by
  obtain⟨vs,ev,r⟩:=h a _ s;rw[List.length_reverse] at l;exact⟨by omega,vs,SqL.of ev,by rw[r.len,hn]⟩
 yl:=fun i H' C' x H'' h s y=>by
  obtain⟨vs,ev,r⟩:=h a _ s;refine⟨y.1,fun t et=>?_⟩;have e1:=y.2 vs (SqL.of ev)
  have hi:i < xs.length:=by
   have:=(AX.1 et).1
   rwa [List.length_reverse] at this
  rw[List.getElem?_reverse hi] at et;obtain⟨v,e2,rv⟩:=r.get et;rw[hn,e2] at e1;cases e1;exact rv
 st:=fun H' C' h s=>by
  rw[List.length_reverse];exact hn.symm
section
variable {X:Cx}{pos:Pos}{a e:Expr}
def pE (ce:TCE)(g:TCG)(u:TCS):TCS:=fun E ρ C=>ce ρ C fun t C1=>match t with
 |.ref d=>match C1 d with
  |some (.lst xs)=>bU (fun C=>C d=some (.lst xs)) g u E xs.reverse ρ C1
  |_=>False
 |_=>False
theorem cs_forV {tg:Expr}{body:List Stmt}{ce:TCE}{g:TCG}{u:TCS}{p pos2:Pos}(hp:PassesOwn (model X.prog X.w) X.A X.env X.xe)(hc:X.calm=true)(hgl:Gl X "reversed")(hm:X.mg "reversed" = none)(he:CE X a ce)(hg:CG X tg g)(hb:CB X body u)
  (hst:noStar a=true:=by rfl) (hs:∀x,foldedSetIterable (.Call (.Name "reversed" p) [a] [] pos2) X.env x=pure x:=by intro _; rfl):CS X (.For tg (.Call (.Name "reversed" p) [a] [] pos2) body [] pos) (pE ce g u) :=
 ⟨JS.weak ⟨vP hp hc (pi_rev hgl hm (yX he.h.h rX (vX hst)) (vX hst)) hg.h.h hb.h.h hs⟩ fun D σ H zz=>qX zz fun ρ C E s h q f=> by
 unfold pE at q
 exact⟨ρ,C,_,s,h,q,fun x H1 px C1 q1 rx h1 f1=>by
  split at q1
  .next d =>
   split at q1
   .next xs e =>
    cases rx;obtain⟨vs,ev,r⟩:=h1 d _ e;exact⟨d,vs,rfl,ev,QI (it_rv r.len) (s.imm (f1.imm h)) h1 q1 (f.fw f1)⟩
   .exact q1.elim
  .exact q1.elim⟩⟩
end
end CL
namespace CL
open PySem PySem.Spec L2
open PyProof.Rows hiding St
theorem mF {X:Cx}{e:Expr}:CE X e (fun _ _ _=>False):=⟨⟨fun _ _ _ _ _ _ h=>by obtain⟨_,_,_,_,_,q,_⟩:=h; exact q.elim⟩⟩
end CL
namespace K16
open PySem L2 CL
theorem XN {i:Nat}{g:TCG}{u:TCS}{E:CEnds}{ρ:CSt}{C:CH}{xs:List PV}(e:ρ[i]?=some (some (.tup xs)))(q:gW g u E xs ρ C):mL (oK i) g u E ρ C:=by
 unfold mL oK
 simp only[e]
 exact q
abbrev ptA:PV:=.tup [.str "a",.tup [],.tup [],.tup []]
section
variable {W:Wd}{a:Adr}
inductive gBw (ts:List PV)(C:CH)(Q:K1):Prop
 |nil (n:Int) (z0:ts=[.tup [],.int n]) (z1:∀C',Gr C C'->Q (.bl true) C'):gBw ts C Q
 |two (z0:ts=[.tup [ptA,ptA],.int 4]) (z1:∀C',Gr C C'->Q (.bl false) C'):gBw ts C Q
theorem fS:wY "a" = true:=by decide +kernel
theorem Xi (T:Tx W a){k:Nat}:Ok W a (k+2) 12 ["thing","size"] gBw:=by
 have S:=(T.F 12 rfl).s
 refine(T.F 12 rfl).ok (fun ts C R h=>?_) fun cdv A outer s H E hr=>⟨_,(yQ (qZ (nX (mX (xX dX zJ rfl T.pQ rfl (xQ (cv 0) (ca1 (mY (n:="tuple") rfl T.sJ rfl)))))) (fQ (lQ bZ)) gX)
  (yQ (cs1 2 S.nd ce_dnew)
  (yQ (jE PassesOwn.never rfl (cv 0) (cg1 3 S.nd) (yQ (qZ (cw_pt (cw_or (nX (mX (xX dX zJ rfl T.pQ rfl (xQ (cv 3) (ca1 (mY (n:="tuple") rfl T.sJ rfl)))))) (cw_or1 (ct2 Xb aS (cln T.jJ (cv 3)) (cv 1))))) (fQ (lQ bZ)) gX)
  (yQ (qZ (cw_pt (cw_or (nX (mX (cf (T.F 1 rfl) (lY (k:=k) T) hr (ca1 (cx (cv 3) kQ))))) (cw_or1 (wV (op_din (aM hr)) cop_din (cx (cv 3) kQ) (cv 2) rfl)))) (fQ (lQ bZ)) gX)
  (fQ (cs_dput (aM hr) (cv 2) (cx (cv 3) kQ) bZ)))))
  (fQ (lQ bZ))))),?_⟩
 .rcases h with ⟨_,rfl,_⟩ | ⟨rfl,_⟩<;>rfl
 rintro ts C R (⟨n,rfl,q⟩ | ⟨rfl,q⟩)
 .refine rK rfl rfl (jK (tZ fun p hp=>XN rfl (q _ (Gr.new hp _))))
 .refine rK rfl rfl (jK (tZ fun p hp=>XN rfl ?_))
  have m:jQ C p (.dK []) p=some (.dK []):=qQ;have g:=Gr.new hp (.dK []);generalize jQ C p (.dK [])=C1 at *
  refine rK rfl rfl (jK (iD (yU rfl (qV rfl (tZ (wU rfl ⟨"a",rfl,by decide +kernel,fun C2 g2=>?_⟩))))));rw[fS];refine jK (wU rfl ⟨p,[],.inr "a",rfl,g2 _ _ m,rfl,qV rfl (tZ (wU rfl (putD_k (k:=.inr "a") (g2 _ _ m) rfl (by decide) ?_)))⟩);have m3:jQ C2 p (.dK (aN [] (.inr "a") (.bl true))) p=some (.dK [(.inr "a",.bl true)]):=qQ;have hx:ExS [p] C2 (jQ C2 p (.dK (aN [] (.inr "a") (.bl true)))):=fun b x nb eb=>(zQ (fun z=>nb (by simp[z]))).trans eb
  generalize jQ C2 p (.dK (aN [] (.inr "a") (.bl true)))=C3 at *
  refine rK rfl rfl (jK (iD (yU rfl (qV rfl (tZ (wU rfl ⟨"a",rfl,by decide +kernel,fun C4 g4=>?_⟩))))));rw[fS];refine jK (wU rfl ⟨p,[(.inr "a",.bl true)],.inr "a",rfl,g4 _ _ m3,rfl,fP rfl (q C4 fun b x eb=>?_)⟩);have nb:b≠p:=fun z=>by rw[z,hp] at eb; cases eb
  exact g4 _ _ (hx b x (by simpa using nb) (g2 _ _ (g _ _ eb)))
inductive gBf (ts:List PV)(C:CH)(Q:K1):Prop
 |mk (z0:ts=[.tup []]) (z1:∀C',Gr C C'->Q (.bl true) C'):gBf ts C Q
theorem ok_bf (T:Tx W a){k:Nat}:Ok W a (k+3) 17 ["thing"] gBf:=by
 have S:=(T.F 17 rfl).s
 refine(T.F 17 rfl).ok (fun ts C R h=>?_) fun cdv A outer s H E hr=>⟨_,(yQ (qZ (cw_pt (cw_or (nX (mX (cf (T.F 12 rfl) (Xi (k:=k) T) hr (xQ (cv 0) (ca1 kQ))))) (cw_or1 (ct2 sD uU (cln T.jJ (cv 0)) (oX (v:=.int 4) (t:=.int 4) rfl T.qR ⟨_,rfl⟩ (fun _=>.int _)))))) (fQ (lQ bZ)) gX)
  (fQ (lQ (xX (uW rfl) mG rfl T.oH rfl (ca1 (aW rfl (S.c (by decide +kernel)) (S.k (L:=0) rfl rfl rfl (by decide +kernel)) (yH (cv 0)) (fun _ _ _ _ _=>yW) (fun _ _ _ _ _=>mF))))))),?_⟩
 .obtain ⟨rfl,_⟩:=h; rfl
 rintro ts C R ⟨rfl,q⟩;refine gBw.nil 2 rfl fun C1 g1=>jK (iD (i_i (qV rfl (tZ ?_))));exact fun p hp=>fR (bs:=[]) qQ (q _ (g1.trans (Gr.new hp _)))
inductive gPf (ts:List PV)(C:CH)(Q:K1):Prop
 |mk (z0:ts=[.tup [],.tup [],.tup []]) (z1:∀C',Gr C C'->Q (.bl true) C'):gPf ts C Q
theorem ok_pf (T:Tx W a){k:Nat}:Ok W a (k+3) 11 ["thing","boxes","turns"] gPf:=by
 have S:=(T.F 11 rfl).s
 refine(T.F 11 rfl).ok (fun ts C R h=>?_) fun cdv A outer s H E hr=>⟨_,(yQ (qZ (nX (mX (cf (T.F 12 rfl) (Xi (k:=k) T) hr (xQ (cv 0) (ca1 kQ))))) (fQ (lQ bZ)) gX)
  (fQ (lQ (xX (uW rfl) mG rfl T.oH rfl (ca1 (aW rfl (S.c (by decide +kernel)) (S.k rfl rfl rfl (by decide +kernel)) (yH (cv 0)) (fun _ _ _ _ _=>yW) (fun _ _ _ _ _=>mF))))))),?_⟩
 .obtain ⟨rfl,_⟩:=h; rfl
 rintro ts C R ⟨rfl,q⟩;refine gBw.nil 2 rfl fun C1 g1=>jK (tZ ?_);exact fun p hp=>fR (bs:=[]) qQ (q _ (g1.trans (Gr.new hp _)))
inductive gLf (ts:List PV)(C:CH)(Q:K1):Prop
 |mk (z0:ts=[.tup [],.tup []]) (z1:∀C',Gr C C'->Q (.bl true) C'):gLf ts C Q
theorem tru_0 {i:Nat}{ρ:CSt}{C:CH}{Q:Bool->CH->Prop}{p:Addr}{xs:List PV}(e:ρ[i]?=some (some (.ref p)))(m:C p=some (.lst xs))(q:Q (!xs.isEmpty) C):cTru (oK i) ρ C Q:=by
 unfold cTru oK
 simp only[e,m]
 exact q
theorem ok_lf (T:Tx W a){k:Nat}:Ok W a (k+1) 5 ["lines","boxes"] gLf:=by
 have S:=(T.F 5 rfl).s
 refine(T.F 5 rfl).ok (fun ts C R h=>?_) fun cdv A outer s H E hr=>⟨_,(yQ (cs1 2 S.nd (iQ (ca1 (gZ (xQ (cv 0) (xQ kQ (ca1 (gZ eQ))))))))
  (yQ (cs1 3 S.nd kQ)
  (yQ (X1 PassesOwn.never (ct_tru (cv 2)) (yQ (cs1 4 S.nd (ce_bm0 Ba PySem.F.slot_list_pop PySem.F.type_list_pop mt_pop cmt_pop (cv 2)))
   (yQ (qZ (nX (mX (xX dX zJ rfl T.pQ rfl (xQ (cx (cv 4) kQ) (ca1 (mY (n:="tuple") rfl T.sJ rfl)))))) (fQ (lQ bZ)) gX)
   (fQ (jE PassesOwn.never rfl (cx (cv 4) kQ) (cg1 5 S.nd) nK)))))
  (fQ (lQ bZ))))),?_⟩
 .obtain ⟨rfl,_⟩:=h; rfl
 rintro ts C R ⟨rfl,q⟩;refine⟨Aa _,⟨zS0 3 rfl,⟨zS0 1 rfl,fun p hp=>⟨2,?_⟩⟩⟩⟩;refine tru_0 rfl qQ (if_t ?_);refine⟨lC qQ,pop_s qQ rfl ?_⟩;refine wU rfl (rK rfl rfl (jK (tZ (forT_g (wU rfl ?_)))));refine tru_0 rfl qQ (if_f ?_);exact q _ (by rw[qG]; exact Gr.new hp _)
inductive gIp (ts:List PV)(C:CH)(Q:K1):Prop
 |mk (z0:ts=[ptA]) (z1:∀C',Gr C C'->Q (.bl true) C'):gIp ts C Q
theorem ok_ip (T:Tx W a){k:Nat}:Ok W a (k+4) 16 ["thing"] gIp:=by
 have S:=(T.F 16 rfl).s
 refine(T.F 16 rfl).ok (fun ts C R h=>?_) fun cdv A outer s H E hr=>⟨_,(yQ (qZ (cw_pt (cw_or (nX (mX (xX dX zJ rfl T.pQ rfl (xQ (cv 0) (ca1 (mY (n:="tuple") rfl T.sJ rfl)))))) (cw_or1 (ct2 Xb aS (cln T.jJ (cv 0)) kQ)))) (fQ (lQ bZ)) gX)
  (yQ (qZ (cw_pt (cw_or (nX (mX (cf (T.F 1 rfl) (lY (k:=k+2) T) hr (ca1 (cx (cv 0) kQ))))) (cw_or1 (nX (mX (cf (T.F 17 rfl) (ok_bf (k:=k) T) hr (ca1 (cx (cv 0) kQ)))))))) (fQ (lQ bZ)) gX)
  (yQ (cs1 1 S.nd (ctp T.sJ (aW rfl (S.c (by decide +kernel)) (S.k (L:=0) rfl rfl rfl (by decide +kernel)) (yH (cx (cv 0) kQ)) (fun _ _ _ _ _=>yW) (fun _ _ _ _ _=>(cx (cv 0) kQ)))))
  (yQ (qZ (cw_pt (cw_or (nX (mX (cf (T.F 11 rfl) (ok_pf (k:=k) T) hr (xQ (cx (cv 0) kQ) (xQ (cv 1) (ca1 (gZ eQ))))))) (cw_or1 (ct2 sD uU (cln T.jJ (cx (cv 0) kQ)) (oX (v:=.int 4) (t:=.int 4) rfl T.aC ⟨_,rfl⟩ (fun _=>.int _)))))) (fQ (lQ bZ)) gX)
  (fQ (lQ (cf (T.F 5 rfl) (ok_lf (k:=k+2) T) hr (xQ (cx (cv 0) kQ) (ca1 (cv 1)))))))))),?_⟩
 .obtain ⟨rfl,_⟩:=h; rfl
 rintro ts C R ⟨rfl,q⟩;refine rK rfl rfl (jK (iD (yU rfl (qV rfl (tZ (wU rfl ⟨"a",rfl,by decide +kernel,fun C1 g1=>?_⟩))))));rw[fS];refine jK (wU rfl (gBf.mk rfl fun C2 g2=>jK (tZ (wU rfl ?_))));refine fun p hp=>QN qQ ?_;refine wU rfl ⟨Aa _,gPf.mk rfl fun C3 g3=>jK (wU rfl (iD (i_i (qV rfl (tZ (wU rfl (gLf.mk rfl fun C4 g4=>?_)))))))⟩;exact q _ (g1.trans (g2.trans ((Gr.new hp _).trans (g3.trans g4))))
inductive gIh (ts:List PV)(C:CH)(Q:K1):Prop
 |mk (z0:ts=[.tup [ptA,ptA]]) (z1:∀C',Gr C C'->Q (.bl false) C'):gIh ts C Q
theorem ok_ih (T:Tx W a){k:Nat}:Ok W a (k+5) 18 ["thing"] gIh:=by
 have S:=(T.F 18 rfl).s
 refine(T.F 18 rfl).ok (fun ts C R h=>?_) fun cdv A outer s H E hr=>⟨_,(yQ (qZ (cw_pt (cw_or (nX (mX (xX dX zJ rfl T.pQ rfl (xQ (cv 0) (ca1 (mY (n:="tuple") rfl T.sJ rfl)))))) (cw_or1 (nX (vF pU pU wW wW kQ (cln T.jJ (cv 0)) (oX (v:=.int 6) (t:=.int 6) rfl T.iC ⟨_,rfl⟩ (fun _=>.int _))))))) (fQ (lQ bZ)) gX)
  (yQ (qZ (cw_pt (cw_or (nX (mX (xX (uW rfl) mG rfl T.oH rfl (ca1 (aW rfl (S.c (by decide +kernel)) (S.k rfl rfl rfl (by decide +kernel)) (yH (cv 0)) (fun _ _ _ _ _=>yW) (fun _ _ _ _ _=>(cf (T.F 16 rfl) (ok_ip (k:=k) T) hr (ca1 (cv 0))))))))) (cw_or1 (nX (mX (cf (T.F 12 rfl) (Xi (k:=k+2) T) hr (xQ (cv 0) (ca1 kQ)))))))) (fQ (lQ bZ)) gX)
  nK)),?_⟩
 .obtain ⟨rfl,_⟩:=h; rfl
 rintro ts C R ⟨rfl,q⟩;refine rK rfl rfl (jK (iD (i_i (fP rfl (i_i (jK (tZ ?_)))))));refine gIp.mk rfl fun C1 g1=>⟨by show 0 < sizeLine; decide,gIp.mk rfl fun C2 g2=>⟨by show 1 < sizeLine; decide,fun p hp=>fR (bs:=[true,true]) qQ (jK (gBw.two rfl fun C3 g3=>?_))⟩⟩;exact q _ (g1.trans (g2.trans ((Gr.new hp _).trans g3)))
end
section
variable {W:Wd}{a:Adr}
inductive gSn (ts:List PV)(C:CH)(Q:K1):Prop
 |mk (z0:ts=[.str "1"]) (z1:∀C',Gr C C'->Q (.int 1) C'):gSn ts C Q
theorem one_txt:txI 1 = "1":=by decide +kernel
theorem ok_sn (T:Tx W a){k:Nat}:Ok W a (k+2) 21 ["word"] gSn:=by
 have S:=(T.F 21 rfl).s
 refine(T.F 21 rfl).ok (fun ts C R h=>?_) fun cdv A outer s H E hr=>⟨_,(yQ (cs1 1 S.nd (ce_if (mX (eI (cv 0) kZ)) mF (cv 0)))
  (yQ (qZ (cw_pt (cw_or (nX (vF pU pU wW wW kQ (cln T.jJ (cv 1)) (oX (v:=.int 10) (t:=.int 10) rfl T.qD ⟨_,rfl⟩ (fun _=>.int _)))) (cw_or1 (nX (mX (xX (uW rfl) mG rfl T.oH rfl (ca1 (aW rfl (S.c (by decide +kernel)) (S.k (L:=0) rfl rfl rfl (by decide +kernel)) (X6 (cv 1)) (fun _ _ _ _ _=>yW) (fun _ _ _ _ _=>(uH nD vE (cv 0) (oX (v:=.str "0123456789") rfl T.XH ⟨_,rfl⟩ (fun _=>.str _)) rfl)))))))))) (fQ (lQ oY)) gX)
  (yQ (cs1 2 S.nd (gU Qe Zc rfl T.z_int rfl (ca1 (cv 0))))
  (fQ (lQ (ce_if (cw_pt (cw_and (mX (cf (T.F 0 rfl) (lP (k:=k) T) hr (ca1 (cv 2)))) (cw_and1 (ct2 bJ uJ (gU gH Zb rfl T.z_str rfl (ca1 (cv 2))) (cv 0))))) (cv 2) oY)))))),?_⟩
 .obtain ⟨rfl,_⟩:=h; rfl
 rintro ts C R ⟨rfl,q⟩;refine⟨"1",rfl,"-",rfl,qV (by decide +kernel) ?_⟩;refine len_z (by decide +kernel) (i_i (fP (by decide +kernel) (i_i (show pP _ (.bl (decide _)) _ from ?_))));rw[show decide (((("1" : Str).length:Nat):Int)<=10)=true from by decide +kernel];refine jK ?_;have es:rV "1" = [.str "1"]:=rfl;show eZ Zg _ _ _ (rV "1") [] C;rw[es];refine X3 (inT_s fun p hp=>fR (bs:=[true]) (qQ.trans (BE some (BE CO.lst ?_))) (jK (tZ ?_)))
 .show [PV.bl _]=[PV.bl true]
  congr 2
  decide +kernel
 refine⟨"1",1,rfl,by decide +kernel,by decide +kernel,?_⟩;dsimp only[CEnds.wn];refine gNu.mk 1 rfl (fP (by decide +kernel) (strI_s (by decide) (yU (b:=true) ?_ (q _ (Gr.new hp _)))));rw[one_txt]
 rfl
end
theorem forV_0 {i:Nat}{g:TCG}{u:TCS}{E:CEnds}{ρ:CSt}{C:CH}{p:Addr}{xs:List PV}(e:ρ[i]?=some (some (.ref p)))(m:C p=some (.lst xs))(q:bU (fun C=>C p=some (.lst xs)) g u E xs.reverse ρ C):pE (oK i) g u E ρ C:=by
 unfold pE oK
 simp only[e,m]
 exact q
section
variable {W:Wd}{a:Adr}
abbrev itN (n:Int):PV:=.tup [.str "num",.int n]
inductive gJi (ts:List PV)(C:CH)(Q:K1):Prop
 |mk (p:Addr) (n:Int) (z0:ts=[.ref p]) (z1:C p=some (.lst [itN n])) (z2:∀C',Gr C C'->Q (itN n) C'):gJi ts C Q
theorem ok_ji (T:Tx W a){k:Nat}:Ok W a (k+1) 22 ["items"] gJi:=by
 have S:=(T.F 22 rfl).s
 refine(T.F 22 rfl).ok (fun ts C R h=>?_) fun cdv A outer s H E hr=>⟨_,(yQ (cs1 1 S.nd (iQ eQ)) (yQ (cs_forV PassesOwn.never rfl rfl T.lR (cv 0) (cg1 2 S.nd) (fQ (qZ (wV (lA T.kF (aM hr)) oI (cv 2) (oX (v:=.ref a.JOINING) rfl T.zF rfl (fun _=>.ref _)) rfl) nK (fQ (fB (cap (cv 1) (cv 2)))))))
  (fQ (lQ (cx (cv 1) kQ))))),?_⟩
 .obtain ⟨_,_,rfl,_⟩:=h; rfl
 rintro ts C R ⟨p,n,rfl,m,q⟩;refine⟨Aa _,fun p1 h1=>?_⟩;have n1:p≠p1:=fun z=>by rw[z,h1] at m; cases m
 have m1:jQ C p1 (.lst []) p=some (.lst [itN n]):=(zQ n1).trans m;dsimp only[CEnds.wn];refine sT (forV_0 rfl m1 ⟨m1,?_⟩);refine⟨_,[.inr "num",.inl (some n)],rfl,rfl,rfl,qV rfl ⟨lC qQ,Zm qQ (by show 0 < sizeLine; decide) ?_⟩⟩;refine⟨(zQ n1).trans m1,?_⟩;refine jW qQ rfl (q _ ?_);rw[qG];exact Gr.new h1 _
end
end K16
namespace CL
open PySem PySem.Spec L2
open PyProof.Rows hiding St
section
variable {X:Cx}
def cAugI (i:Nat)(ce:TCE):TCS:=fun E ρ C=>∃x:Int,ρ[i]?=some (some (.int x))/\ce ρ C fun y C1=>∃z:Int,y=.int z/\E.nx (ρ.set i (some (.int (x+z)))) C1
theorem cs_augI {e:Expr}{x:Str}{ce:TCE}{pos pos':Pos}(i:Nat)(hN:X.N.Nodup)(he:CE X e ce)(hi:X.N[i]?=some x:=by rfl)(hx:Loc X.env.scope x:=by first | exact Or.inl rfl | exact Or.inr rfl)(hf:X.fn x=true\/X.env.scope.names.lookup x=some .local:=by first | exact .inl rfl | exact .inr rfl | assumption):
  CS X (.AugAssign (.Name x pos') .Add e pos) (cAugI i ce) :=
 ⟨JS.weak ⟨ps_aug hN hi hx he.h.h Xx hf⟩ fun D σ H zz=>qX zz fun ρ C E s h q f=>by
  obtain⟨x,ex,q⟩:=q;obtain⟨v,ev,rv⟩:=s.get ex;cases rv;refine⟨_,ev,ρ,C,_,s,h,q,fun y H1 py C1 ⟨z,ey,q1⟩ ry h1 f1=>?_⟩;subst ey;cases ry
  exact⟨x,z,rfl,rfl,f.nx _ _ _ _ q1 ((s.imm (f1.imm h)).set (.int _) i) h1 f1⟩⟩
end
end CL
namespace K16
open PySem L2 CL
section
variable {W:Wd}{a:Adr}
def gRk (a:Adr):GX:=fun ts C R _=>∃(r dr wl:Addr) (ws:List Str) (l t:Nat),ts=[.ref r]/\C r=some (rrO a dr wl l t)/\C wl=some (.lst (ws.map PV.str))/\t+l<=1000000/\ws[t]?=some "1" /\
 ∀C',Gr (jQ C r (rrO a dr wl l (t+1))) C'->R (itN 1) C'
theorem ok_rk (T:Tx W a){k:Nat}:OkX W a (k+5) 43 ["self"] (gRk a):=by
 have S:=(T.F 43 rfl).s;refine Fun.okX (T.F 43 rfl).F S ?_ ?_
 .rintro vs H Q E ⟨ts,C,R,RX,r,h,⟨_,_,_,_,_,_,rfl,_⟩,f⟩
  rw[r.len]; rfl
 .rintro cdv A outer s H vs Q E hr ⟨ts,C,R,RX,r,hh,⟨o,dr,wl,ws,l,t,rfl,e4,e5,hb,hw,q⟩,f,fx⟩
  refine⟨_,gQ (dZ (JS.h (CS.h (cs1 1 S.nd (iQ eQ))))) (gQ (dZ (JS.h (CS.h (cs1 2 S.nd kQ))))
   (gQ (iN PassesOwn.leaving (PT.nox (JT.h (CT.h (ct2 sD uU (cv 2) kQ)))) (gQ (zK (i:=3) S.nd rfl (Or.inl rfl) (lZ (gJ (JE.h (CE.h (cv 0)))) T.uQ (mth (T.F 44 rfl) T.fX) (ok_item (k:=k) T (ok_sn (k:=k+1) T)) hr (T.F 44 rfl).b .nil (wZ fun _ _ _ z=>z)))
    (gQ (dZ (JS.h (CS.h (fB (cap (cv 1) (cv 3)))))) (mQ (dZ (JS.h (CS.h (cs_augI 2 S.nd (hX bS jH (aI T.kF (aM hr) (oX (v:=.ref a.JOINING) rfl T.zF rfl (fun _=>.ref _)) (cv 3) kQ) kQ)))))))))
   (mQ (dZ (JS.h (CS.h (lQ (cf (T.F 22 rfl) (ok_ji (k:=k+3) T) hr (ca1 (cv 1)))))))))),?_⟩
  have s0:SRel W.K H (start ["self","items","lacking","item"] vs) [some (.ref o),none,none,none]:=zX r;refine sN s0 hh (fun ρ' C'=>∃p,C p=none/\ρ'=[some (.ref o),some (.ref p),none,none]/\C'=jQ C p (.lst [])) ⟨Aa _,fun p hp=>⟨p,hp,rfl,rfl⟩⟩ ?_;rintro σ1 H1 _ _ ⟨p,hp,rfl,rfl⟩ s1 h1 f1;refine sN s1 h1 (fun ρ' C'=>ρ'=[some (.ref o),some (.ref p),some (.int 1),none]/\C'=jQ C p (.lst [])) ⟨rfl,rfl⟩ ?_
  rintro σ2 H2 _ _ ⟨rfl,rfl⟩ s2 h2 f2';have f2:=f1.trans f2';have npo:p≠o:=fun z=>by rw[z,e4] at hp; cases hp
  have npw:wl≠p:=fun z=>by rw[z,hp] at e5; cases e5
  have c4:jQ C p (.lst []) o=some (rrO a dr wl l t):=(zQ npo.symm).trans e4;have c5:jQ C p (.lst []) wl=some (.lst (ws.map PV.str)):=(zQ npw).trans e5;have cp:jQ C p (.lst []) p=some (.lst []):=qQ;have cg:Gr C (jQ C p (.lst [])):=Gr.new hp _;generalize jQ C p (.lst [])=C1 at *
  refine⟨fun m σ' H'=>(m=1/\SRel W.K H' σ' [some (.ref o),some (.ref p),some (.int 1),none]/\HRel W.K H' C1/\Fw H C H' C1)\/(m=0/\∃C',SRel W.K H' σ' [some (.ref o),some (.ref p),some (.int 0),some (itN 1)]/\HRel W.K H' C'/\Fw H C H' C'/\C' p=some (.lst [itN 1])/\Gr (jQ C o (rrO a dr wl l (t+1))) C'),⟨1,.inl ⟨rfl,s2,h2,f2⟩⟩,?_⟩;rintro m σ3 H3 (⟨rfl,s3,h3,f3⟩ | ⟨rfl,C',s3,h3,f3,m3,g3⟩)
  .refine ⟨_,_,fun b C'=>b=true/\C1=C',s3,h3,i_i ⟨rfl,rfl⟩,?_⟩
   rintro _ H4 b _ ⟨rfl,rfl⟩ rfl h4 f4;rw[AV rfl];refine⟨fun σ' H'=>∃C',SRel W.K H' σ' [some (.ref o),some (.ref p),some (.int 0),some (itN 1)]/\HRel W.K H' C'/\Fw H C H' C'/\C' p=some (.lst [itN 1])/\Gr (jQ C o (rrO a dr wl l (t+1))) C',fun σ' H' z=>⟨0,by decide,.inr ⟨rfl,z⟩⟩,?_⟩;refine zV (kX:=RX) (s3.imm (f4.imm h3)) h4 (f3.trans f4) fx (fun x C2=>x=itN 1/\Gr (jQ C1 o (rrO a dr wl l (t+1))) C2) ⟨iX c4 rfl,o,dr,wl,ws,"1",l,t,rfl,c4,c5,hb,hw,by decide +kernel,by decide +kernel,1,fun Q' hq=>gSn.mk rfl hq,fun C2 g=>⟨rfl,g⟩⟩ (fun _ _ _ z=>z) ?_
   rintro v H5 _ C2 ⟨rfl,g2⟩ r5 h5 f5 s5;have s6:SRel W.K H5 _ [some (.ref o),some (.ref p),some (.int 1),some (itN 1)]:=s5.set r5 3;have p2:C2 p=some (.lst []):=g2 _ _ ((zQ npo).trans cp);refine sN s6 h5 (fun ρ' C'=>ρ'=[some (.ref o),some (.ref p),some (.int 1),some (itN 1)]/\C'=jQ C2 p (.lst [itN 1])) ⟨lC p2,Zm p2 (by show 0 < sizeLine; decide) ⟨rfl,rfl⟩⟩ ?_;rintro σ7 H7 _ _ ⟨rfl,rfl⟩ s7 h7 f7;refine⟨_,_,{ nx:=fun ρ' C'=>ρ'=[some (.ref o),some (.ref p),some (.int 0),some (itN 1)]/\C'=jQ C2 p (.lst [itN 1]),rt:=fun _ _=>False },s7,h7,?_,⟨?_,fun _ _ _ _ z=>z.elim,fun _ _ _ _ z=>z.elim,fun _ _ _ _ z=>z.elim⟩⟩
   .exact ⟨1,rfl,rfl,_,[.inr "num",.inl (some 1)],rfl,rfl,i_i ⟨_,rfl,rfl,rfl⟩⟩
   .rintro σ8 H8 _ _ ⟨rfl,rfl⟩ s8 h8 f8
    refine⟨_,s8,h8,f5.trans (f7.trans f8),qQ,fun b x eb=>?_⟩
    by_cases hbo:b=o
    .subst hbo
     rw[qQ] at eb;rw[zQ npo.symm];exact g2 _ _ (qQ.trans eb)
    .rw [zQ hbo] at eb
     have nb:b≠p:=fun z=>by rw[z,hp] at eb; cases eb
     rw[zQ nb];exact g2 _ _ ((zQ hbo).trans (cg _ _ eb))
  .refine ⟨_,_,fun b C1=>b=false/\C'=C1,s3,h3,i_i ⟨rfl,rfl⟩,?_⟩
   rintro _ H4 b _ ⟨rfl,rfl⟩ rfl h4 f4;rw[AR (by decide)];exact retX (s3.imm (f4.imm h3)) h4 R (gJi.mk p 1 rfl m3 fun C'' g=>q C'' (g3.trans g)) fun v' H' t' C' k r' h' f'=>f v' H' t' C' k r' h' (f3.trans (f4.trans f'))
end
end K16
namespace CL
open PySem PySem.Spec L2
open PyProof.Rows hiding St
section
variable {K:CU}
def LpX (K:CU)(H0:Hp)(C0:CH)(I:CSt->CH->Prop):St->Hp->Prop:=fun σ H=>∃ρ C,I ρ C/\SRel K H σ ρ/\HRel K H C/\Fw H0 C0 H C
theorem pI {H0 H:Hp}{C0 C:CH}{σ:St}{ρ:CSt}{D:Ends}{tb:TS}{p:Addr}{xs:List PV}(r i2 j2:Nat)(I:Nat->CSt->CH->Prop)(hp:ρ[r]?=some (some (.ref p)))(hI:∀i ρ C,I i ρ C->C p=some (.lst xs))(h0:I 0 ρ C)(s:SRel K H σ ρ)(h:HRel K H C)(f:Fw H0 C0 H C)
  (step:∀i x ρ C σ H,xs[i]?=some x->I i ρ C->SRel K H σ ((ρ.set i2 (some (.int i))).set j2 (some x))->HRel K H C->Fw H0 C0 H C->tb { D with nx:=LpX K H0 C0 (I (i+1)),ct:=LpX K H0 C0 (I (i+1)),bk:=D.nx } σ H)
  (done:∀ρ C σ H,I xs.length ρ C->SRel K H σ ρ->HRel K H C->Fw H0 C0 H C->D.nx σ H):tFor (iEnum K (jZ K (Reps K) (bW (oK r) mR))) (gTup K 2 (sU (gV i2) (sU (gV j2) gNil))) tb D σ H:=by
 refine⟨ρ,C,fun ts C1=>ts=[.ref p]/\C=C1,s,h,?_,?_⟩
 .unfold bW oK
  simp only[hp]
  exact⟨rfl,rfl⟩
 rintro vs H1 _ _ ⟨rfl,rfl⟩ rs h1 f1;obtain⟨v,rfl,rv⟩:=aX rs;cases rv;obtain⟨ys,ey,ry⟩:=h1 p _ (hI 0 ρ C h0);refine⟨p,ys,rfl,ey,fun i m σ' H'=>m=xs.length - i/\i<=xs.length/\LpX K H0 C0 (I i) σ' H',⟨xs.length,by simp,Aa _,ρ,C,h0,s.imm (f1.imm h),h1,f.trans f1⟩,?_⟩;rintro i m σ2 H2 ⟨rfl,hi,ρ2,C2,i2',s2,h2,f2⟩;obtain⟨zs,ez,rz⟩:=h2 p _ (hI i ρ2 C2 i2');have hl:zs.length=xs.length:=rz.len
 by_cases hlt:i < xs.length
 .refine .inr ⟨⟨zs,zs[i]'(by omega),SqL.of ez,AN _⟩,LpX K H0 C0 (I (i+1)),fun σ' H' z=>⟨xs.length - (i+1),by omega,rfl,hlt,z⟩,?_⟩
  rintro _ _ ⟨b,y,rfl,hb,rfl,hy⟩;have ey:=hy zs (SqL.of ez);obtain⟨x,ex⟩:∃x,xs[i]?=some x:=⟨_,AN hlt⟩;obtain⟨y',ey',ryx⟩:=rz.get ex;rw[ey] at ey';cases ey';refine⟨b,_,rfl,SqT.of vQ,rfl,_,_,rfl,_,_,rfl,rfl,?_⟩;exact step i x ρ2 C2 _ _ ex i2' (((s2.imm (Imm.new hb _)).set (.int _) i2).set (ryx.imm (Imm.new hb _)) j2) (h2.new hb _) (f2.trans (Fw.new hb _))
 .have e:i=xs.length:=by omega
  subst e;exact .inl ⟨⟨zs,SqL.of ez,by omega⟩,done ρ2 C2 σ2 H2 i2' s2 h2 f2⟩
end
end CL
namespace K16
open PySem L2 CL
section
variable {a:Adr}
theorem eW {Gb:GX}{C:CH}{h r dx dr p1 p2 wl:Addr}{ah:Str}{ws:List Str}{l:Nat}{ps ars:List PV}{R:K1}{RX:XC}(e1:C h=some (hrO a dx p1 p2 ah))(e2:C p1=some (.lst ps))(e3:C p2=some (.lst ars))(e4:C r=some (rrO a dr wl l 0))(e5:C wl=some (.lst (ws.map PV.str)))
  (n:p1≠p2/\p1≠wl/\p2≠wl) (hl:ps.length+ars.length<=1000) (ha:ars.length < 2) (hz:∀x∈ars,CzOk C 2 x) (hb:l<=1000) (hw:ws[0]?=some ("part" : Str)) (hn:ws.length<=1000) (hs:∀z∈ws,z.length<=sizeLine)
  (q1:ws.length=1->∀C',ExS [h,p1,r] C C'->RX a.NoText [((("line" : Str)),.int l),((("word" : Str)),.int (1:Nat))] C')
  (q2:∀w,ws[1]?=some w->wY w=false->∀C',ExS [h,p1,r] C C'->RX a.NoText [((("line" : Str)),.int l),((("word" : Str)),.int (1:Nat))] C')
  (q3:∀w,ws[1]?=some w->wY w=true->2 < ws.length->∀C',ExS [h,p1,r] C C'->RX a.NoText [((("line" : Str)),.int l),((("word" : Str)),.int (2:Nat))] C')
  (q4:∀w,ws[1]?=some w->wY w=true->ws.length<=2->∀C' p5 k1 k2 k3 k4,C' h=some (hrO a dx p1 p5 "part")->C' p5=some (.lst [.ref k4])->C' k4=some (.lst [.str w,.ref k1,.ref k2,.ref k3])->C' k1=some (.lst [])->C' k2=some (.lst [])->C' k3=some (.lst [])->C p5=none->C' p1=some (.lst (ps++ars.map (cz C 2)))->ExS [h,p1,r] C C'->R .non C') :
  rO a Gb [.ref h,.ref r] C R RX:=by
 have nh:h≠r:=fun z=>by
  rw[z,e4] at e1;injection e1 with e1
  injection e1 with _ _ e1
  injection e1 with e1 _
  injection e1 with e1 _
  exact absurd e1 (by decide)
 have n1:p1≠r:=fun z=>by rw[z,e4] at e2; cases e2
 have n2:p2≠r:=fun z=>by rw[z,e4] at e3; cases e3
 have n3:wl≠r:=fun z=>by rw[z,e4] at e5; cases e5
 have n4:wl≠h:=fun z=>by rw[z,e1] at e5; cases e5
 have ne1:p1≠h:=fun z=>by rw[z,e1] at e2; cases e2
 have lk:∀p xs,C p=some (.lst xs)->jQ C r (rrO a dr wl l 1) p=some (.lst xs):=fun p xs hp=>(zQ (fun z=>by rw[z,e4] at hp; cases hp)).trans hp;have ex:∀{C'},ExS [h,p1,r] (jQ C r (rrO a dr wl l 1)) C'->ExS [h,p1,r] C C':=fun x b o nb eb=>x b o nb ((zQ (fun z=>nb (by simp[z]))).trans eb)
 have l1:1<=ws.length:=by
  rcases Nat.eq_zero_or_pos ws.length with z | z
  .rw [CJ (by omega)] at hw; cases hw
  .exact z
 refine⟨h,r,dx,dr,p1,p2,wl,ah,"part",ws,l,ars,rfl,e1,e3,e4,e5,hb,hw,.inr (.inl ⟨rfl,ha,h,r,dx,dr,p1,p2,wl,ah,ws,l,1,ps,ars,rfl,(zQ nh).trans e1,lk _ _ e2,lk _ _ e3,qQ,lk _ _ e5,n,hl,fun x hx=>(hz x hx).grow lk,by omega,l1,hs,fun e=>q1 e.symm _ (ex fun _ _ _ eb=>eb),fun w hw=>⟨fun e C' x=>q2 w hw e C' (ex x),fun e C' B=>?_⟩⟩)⟩;obtain⟨⟨p5,k1,k2,k3,k4,m1,m2,m3,m4,m5,m6,m7⟩,pt,rr,fr⟩:=B;have fr':=ex fr
 have ew:C' wl=some (.lst (ws.map PV.str)):=fr' _ _ (by simp[n.2.1.symm,n3,n4]) e5;have ncz:ars.map (cz (jQ C r (rrO a dr wl l 1)) 2)=ars.map (cz C 2):=List.map_congr_left fun x hx=>zH lk (hz x hx);refine⟨r,dr,wl,ws,l,2,rfl,rr,ew,by omega,hn,fun e2=>q3 w hw e e2 C' fr',fun e2=>⟨dx,p1,p5,ah,m1,?_⟩⟩
 have h5:C p5=none:=by
  cases z:C p5 with
  |none=>rfl
  |some x =>
   by_cases hpr:p5=r
   .rw [hpr,qQ] at m7; cases m7
   .rw [zQ hpr,z] at m7; cases m7
 have b1:p5≠h:=fun z=>by rw[z,m1] at m2; cases m2
 have b2:k4≠h:=fun z=>by rw[z,m1] at m3; cases m3
 have b3:k1≠h:=fun z=>by rw[z,m1] at m4; cases m4
 have b4:k2≠h:=fun z=>by rw[z,m1] at m5; cases m5
 have b5:k3≠h:=fun z=>by rw[z,m1] at m6; cases m6
 refine q4 w hw e e2 _ p5 k1 k2 k3 k4 qQ ((zQ b1).trans m2) ((zQ b2).trans m3) ((zQ b3).trans m4) ((zQ b4).trans m5) ((zQ b5).trans m6) h5 ((zQ ne1).trans (ncz▸pt)) fun b o nb eb=>?_;exact(zQ (fun z=>nb (by simp[z]))).trans (fr' b o nb eb)
end
section
variable {a:Adr}
theorem hr_ne {C:CH}{h r dx dr p1 p2 wl:Addr}{ah:Str}{l t:Nat}(e1:C h=some (hrO a dx p1 p2 ah))(e4:C r=some (rrO a dr wl l t)):h≠r:=fun z=>by
 rw[z,e4] at e1;injection e1 with e1
 injection e1 with _ _ e1
 injection e1 with e1 _
 injection e1 with e1 _
 exact absurd e1 (by decide)
theorem rd_when {C:CH}{h r dx dr p1 p2 wl:Addr}{ah:Str}{ws:List Str}{l:Nat}{ars:List PV}{R:K1}{RX:XC}(e1:C h=some (hrO a dx p1 p2 ah))(e3:C p2=some (.lst ars))(e4:C r=some (rrO a dr wl l 0))(e5:C wl=some (.lst (ws.map PV.str)))
  (n:p2≠wl) (ha:0 < ars.length) (hl:ars.length < 1000) (hb:l<=1000) (hw:ws=[(("when" : Str)),(("1" : Str))])
  (q:∀C' y,C' h=some (hrO a dx p1 p2 "when")->C' p2=some (.lst (ars++[y]))->ExS [h,p2,r] C C'->R .non C'):rO a (gB a (gRk a)) [.ref h,.ref r] C R RX:=by
 have nh:=hr_ne e1 e4;have n2:p2≠r:=fun z=>by rw[z,e4] at e3; cases e3
 have n3:wl≠r:=fun z=>by rw[z,e4] at e5; cases e5
 have n4:p2≠h:=fun z=>by rw[z,e1] at e3; cases e3
 refine⟨h,r,dx,dr,p1,p2,wl,ah,"when",ws,l,ars,rfl,e1,e3,e4,e5,hb,by rw[hw]; rfl,.inr (.inr ⟨rfl,ha,h,r,rfl,r,dr,wl,l,1,rfl,qQ,r,dr,wl,ws,l,1,rfl,qQ,(zQ n3).trans e5,by omega,by rw[hw]; rfl,fun C1 g1 k1 k2 hk1 hk2=>?_⟩)⟩;rw[qG] at g1;have gg:Gr (jQ C r (rrO a dr wl l 2)) (jQ (jQ C1 k1 (.lst [])) k2 (.lst [.str "when",itN 1,.ref k1])):=g1.trans ((Gr.new hk1 _).trans (Gr.new hk2 _));generalize jQ (jQ C1 k1 (.lst [])) k2 (.lst [.str "when",itN 1,.ref k1])=C2 at *
 have m1:C2 h=some (hrO a dx p1 p2 ah):=gg _ _ ((zQ nh).trans e1);have m2:C2 p2=some (.lst ars):=gg _ _ ((zQ n2).trans e3);have m3:C2 r=some (rrO a dr wl l 2):=gg _ _ qQ;have m4:C2 wl=some (.lst (ws.map PV.str)):=gg _ _ ((zQ n3).trans e5);refine⟨dx,p1,p2,ah,ars,m1,m2,hl,r,dr,wl,ws,l,2,rfl,(zQ n2.symm).trans m3,(zQ n.symm).trans m4,by omega,by rw[hw]; decide,fun z=>absurd z (by rw[hw]; decide),fun _=>⟨dx,p1,p2,ah,(zQ n4.symm).trans m1,?_⟩⟩
 refine q _ (.ref k2) qQ ((zQ n4).trans qQ) fun b o nb eb=>?_;have b1:b≠h:=fun z=>nb (by simp[z]);have b2:b≠p2:=fun z=>nb (by simp[z]);have b3:b≠r:=fun z=>nb (by simp[z]);exact(zQ b1).trans ((zQ b2).trans (gg _ _ ((zQ b3).trans eb)))
structure RS (a:Adr)(C0 C:CH)(h dx p1 p2:Addr)(ah:Str)(ps ars:List PV):Prop where
 e1:C h=some (hrO a dx p1 p2 ah)
 e2:C p1=some (.lst ps)
 e3:C p2=some (.lst ars)
 ne:p1≠p2
 gr:Gr C0 C
 f1:C0 h=none
 f2:C0 p1=none
 f3:C0 p2=none
 cz:∀x∈ars,CzOk C 2 x
theorem RS.up {C0 C C':CH}{h dx p1 p2:Addr}{ah:Str}{ps ars:List PV}(s:RS a C0 C h dx p1 p2 ah ps ars)(g:Gr C C'):RS a C0 C' h dx p1 p2 ah ps ars :=
 ⟨g _ _ s.e1,g _ _ s.e2,g _ _ s.e3,s.ne,s.gr.trans g,s.f1,s.f2,s.f3,fun x hx=>(s.cz x hx).grow fun _ _ e=>g _ _ e⟩
theorem RS.ex {C0 C C':CH}{h dx p1 p2 r:Addr}{ah:Str}{ps ars:List PV}(s:RS a C0 C h dx p1 p2 ah ps ars)(fr:C0 r=none)(x:ExS [h,p1,r] C C'):Gr C0 C':=fun b o eb =>
 x b o (by
  have b1:b≠h:=fun z=>by rw[z,s.f1] at eb; cases eb
  have b2:b≠p1:=fun z=>by rw[z,s.f2] at eb; cases eb
  have b3:b≠r:=fun z=>by rw[z,fr] at eb; cases eb
  simp[b1,b2,b3]) (s.gr _ _ eb)
theorem mk_row {ρ:CSt}{C:CH}{z:Str}{l:Nat}{Q:List PV->CH->Prop}{i j:Nat}(hi:ρ[i]?=some (some (.str z)))(hj:ρ[j]?=some (some (.int l)))(h1:z.length<=1000)(h2:(Builtin.Str.partsBetween z (Builtin.Str.occurrences z " " 0 z.length (z.length+1)) (" " : Str).length).length<=1000)(h3:(eJ z).length<=1000)
  (q:∀r dr wl C2,C r=none->C2 r=some (rrO a dr wl l 0)->C2 wl=some (.lst ((eJ z).map PV.str))->C wl=none->Gr C C2->Q [.ref r] C2):bW (Zi a.RowReader (gRow a) (bW (oK i) (bW (oK j) mR))) mR ρ C Q:=by
 unfold bW Zi oK
 simp only[hi,hj]
 refine fun x dx hx hd nd=>gRow.mk x dx z l rfl qQ (AO h1 (by decide)) (AO h2 (by decide)) (AO h3 (by decide)) fun p hp=>⟨rfl,?_⟩;have np:p≠x:=fun z=>by rw[z,qQ] at hp; cases hp
 have hp':C p=none:=by rwa [zQ np] at hp
 refine q x dx p _ hx qQ ((zQ np).trans qQ) hp' fun b o eb=>?_;have b1:b≠x:=fun z=>by rw[z,hx] at eb; cases eb
 have b2:b≠p:=fun z=>by rw[z,hp'] at eb; cases eb
 rw[zQ b1,zQ b2,zQ b1];exact eb
end
section
variable {W:Wd}{a:Adr}
inductive kD:List Str->Nat->Nat->Prop
 |a0:kD ["part"] 0 1
 |a1:kD ["part A"] 0 1
 |a2:kD ["part a","part a"] 2 0
 |a3:kD ["part a b"] 0 2
 |a4:kD ["end"] 0 0
 |a5:kD ["part a","when 1"] 2 0
def gRh (a:Adr):GX:=fun ts C _ RX=>∃(p:Addr) (rows:List Str) (l t:Nat),ts=[.ref p]/\C p=some (.lst (rows.map PV.str))/\kD rows l t/\∀C',Gr C C'->RX a.NoText [((("line" : Str)),.int l),((("word" : Str)),.int t)] C'
def Ist (a:Adr)(C0:CH)(p h:Addr)(rows:List Str):Nat->CSt->CH->Prop
 |0=>fun ρ C=>Gr C0 C/\ρ=[some (.ref p),some (.ref h),none,none,none]/\∃dx p1 p2,RS a C0 C h dx p1 p2 "" [] []
 |1=>fun ρ C=>Gr C0 C/\rows.length=2/\∃x2 x3,ρ=[some (.ref p),some (.ref h),x2,x3,none]/\∃dx p1 p2 k1 k2 k3 k4,RS a C0 C h dx p1 p2 "part" [] [.ref k4]/\C k4=some (.lst [.str "a",.ref k1,.ref k2,.ref k3])/\C k1=some (.lst [])/\C k2=some (.lst [])/\C k3=some (.lst [])
 |_+2=>fun ρ C=>Gr C0 C/\∃x2 x3,ρ=[some (.ref p),some (.ref h),x2,x3,none]/\∃dx p1 p2 ah ps ars,C h=some (hrO a dx p1 p2 ah)/\C p1=some (.lst ps)/\C p2=some (.lst ars) /\
   ((ps=[]/\ars.length=2)\/∃k4,ps=[ptA]/\ars=[.ref k4]/\CzOk C 2 (.ref k4)/\cz C 2 (.ref k4)=ptA)
theorem X0 {C:CH}{k1 k2 k3 k4:Addr}(m:C k4=some (.lst [.str "a",.ref k1,.ref k2,.ref k3]))(m1:C k1=some (.lst []))(m2:C k2=some (.lst []))(m3:C k3=some (.lst [])):CzOk C 2 (.ref k4)/\cz C 2 (.ref k4)=ptA:=by
 refine⟨.lst m (by show 4<=1000; decide) fun x hx=>?_,?_⟩
 .simp only[List.mem_cons,List.not_mem_nil,or_false] at hx
  rcases hx with rfl | rfl | rfl | rfl
  .exact .str
  .exact .lst m1 (by decide) fun _ z=>nomatch z
  .exact .lst m2 (by decide) fun _ z=>nomatch z
  .exact .lst m3 (by decide) fun _ z=>nomatch z
 .show (match C k4 with | some (.lst xs)=>PV.tup (xs.map (cz C 1)) | _=>.ref k4)=ptA
  rw[m]
  have e:∀{k:Addr},C k=some (.lst [])->cz C 1 (.ref k)=.tup []:=fun {k} e=>by
   show(match C k with | some (.lst xs)=>PV.tup (xs.map (cz C 0)) | _=>.ref k)=.tup [];rw[e]; rfl
  show PV.tup [cz C 1 (.str "a"),cz C 1 (.ref k1),cz C 1 (.ref k2),cz C 1 (.ref k3)]=ptA;rw[e m1,e m2,e m3]
  rfl
theorem jO {C0 C C':CH}{h dx p1 p2 p5 r k1 k2 k3 k4:Addr}{ah:Str}{ps ars qs:List PV}(s:RS a C0 C h dx p1 p2 ah ps ars)(fr:C0 r=none)(m1:C' h=some (hrO a dx p1 p5 "part"))(m2:C' p5=some (.lst [.ref k4]))(m3:C' k4=some (.lst [.str "a",.ref k1,.ref k2,.ref k3]))(m4:C' k1=some (.lst []))(m5:C' k2=some (.lst []))(m6:C' k3=some (.lst []))(m7:C p5=none)(m8:C' p1=some (.lst qs))(x:ExS [h,p1,r] C C'):
  RS a C0 C' h dx p1 p5 "part" qs [.ref k4] :=
 have ne:p1≠p5:=fun z=>by
  have e2:=s.e2;rw[z,m7] at e2;cases e2
 ⟨m1,m8,m2,ne,s.ex fr x,s.f1,s.f2,xV s.gr m7,fun y hy=>(show y=.ref k4 by simpa using hy)▸(X0 m3 m4 m5 m6).1⟩
theorem sX {C:CH}{x y:Addr}{o:CO}(hx:C x=none)(hy:C y=some o):y≠x:=fun z=>by rw[z,hx] at hy; cases hy
theorem st_step {C0 C C2:CH}{p h r dr wl:Addr}{rows:List Str}{l t i:Nat}{z:Str}{ρ:CSt}{RX:XC}(hR:kD rows l t)(q:∀C',Gr C0 C'->RX a.NoText [((("line" : Str)),.int l),((("word" : Str)),.int t)] C')(hz:rows[i]?=some z)(st:Ist a C0 p h rows i ρ C)
  (hr:C r=none) (e4:C2 r=some (rrO a dr wl i 0)) (e5:C2 wl=some (.lst ((eJ z).map PV.str))) (hw:C wl=none) (g:Gr C C2) :
  rO a (gB a (gRk a)) [.ref h,.ref r] C2 (fun _ C3=>Ist a C0 p h rows (i+1) ((ρ.set 2 (some (.int i))).set 3 (some (.str z))) C3) RX:=by
 have sz:∀{ws:List Str},ws.all (fun z=>decide (z.length<=1000))=true->∀z∈ws,z.length<=sizeLine:=fun {ws} e z hz=>AO (AH (BQ.1 e z hz)) (by decide)
 rcases i with _ | _ | i
 .obtain ⟨gr,rfl,dx,p1,p2,s0⟩:=st
  have s:=s0.up g;have fr:C0 r=none:=xV gr hr;have n:p1≠p2/\p1≠wl/\p2≠wl:=⟨s.ne,sX hw s0.e2,sX hw s0.e3⟩
  cases hR with
  |a0 =>
   cases hz;rw[show eJ "part" = (["part"]:List Str) by decide +kernel] at e5;exact eW s.e1 s.e2 s.e3 e4 e5 n (by decide) (by decide) s.cz (by decide) rfl (by decide) (sz (by decide +kernel)) (fun _ C' x=>q C' (s.ex fr x)) (fun w hw=>nomatch hw) (fun w hw=>nomatch hw) fun w hw=>nomatch hw
  |a1 =>
   cases hz;rw[show eJ "part A" = (["part","A"]:List Str) by decide +kernel] at e5;have nA:wY "A" = false:=by decide +kernel
   refine eW s.e1 s.e2 s.e3 e4 e5 n (by decide) (by decide) s.cz (by decide) rfl (by decide) (sz (by decide +kernel)) (fun e=>absurd e (by decide)) (fun w hw _ C' x=>q C' (s.ex fr x)) (fun w hw e=>?_) fun w hw e=>?_ <;>
   .cases hw; rw[nA] at e; cases e
  |a3 =>
   cases hz;rw[show eJ "part a b" = (["part","a","b"]:List Str) by decide +kernel] at e5;refine eW s.e1 s.e2 s.e3 e4 e5 n (by decide) (by decide) s.cz (by decide) rfl (by decide) (sz (by decide +kernel)) (fun e=>absurd e (by decide)) (fun w hw e=>?_) (fun w hw _ _ C' x=>q C' (s.ex fr x)) fun w hw e e2=>absurd e2 (by decide);cases hw; rw[fS] at e; cases e
  |a4 =>
   cases hz;rw[show eJ "end" = (["end"]:List Str) by decide +kernel] at e5;refine⟨h,r,dx,dr,p1,p2,wl,_,"end",["end"],0,[],rfl,s.e1,s.e3,e4,e5,by decide,rfl,.inl ⟨rfl,by decide,q _ fun b o eb=>?_⟩⟩;exact(zQ (sX fr eb)).trans (s.gr _ _ eb)
  |a2 =>
   cases hz;rw[show eJ "part a" = (["part","a"]:List Str) by decide +kernel] at e5;refine eW s.e1 s.e2 s.e3 e4 e5 n (by decide) (by decide) s.cz (by decide) rfl (by decide) (sz (by decide +kernel)) (fun e=>absurd e (by decide)) (fun w hw e=>?_) (fun w hw e e2=>absurd e2 (by decide)) fun w hw e e2 C' p5 k1 k2 k3 k4 m1 m2 m3 m4 m5 m6 m7 m8 x=>?_
   .cases hw; rw[fS] at e; cases e
   .cases hw
    exact⟨s.ex fr x,rfl,_,_,rfl,dx,p1,p5,k1,k2,k3,k4,jO s fr m1 m2 m3 m4 m5 m6 m7 m8 x,m3,m4,m5,m6⟩
  |a5 =>
   cases hz;rw[show eJ "part a" = (["part","a"]:List Str) by decide +kernel] at e5;refine eW s.e1 s.e2 s.e3 e4 e5 n (by decide) (by decide) s.cz (by decide) rfl (by decide) (sz (by decide +kernel)) (fun e=>absurd e (by decide)) (fun w hw e=>?_) (fun w hw e e2=>absurd e2 (by decide)) fun w hw e e2 C' p5 k1 k2 k3 k4 m1 m2 m3 m4 m5 m6 m7 m8 x=>?_
   .cases hw; rw[fS] at e; cases e
   .cases hw
    exact⟨s.ex fr x,rfl,_,_,rfl,dx,p1,p5,k1,k2,k3,k4,jO s fr m1 m2 m3 m4 m5 m6 m7 m8 x,m3,m4,m5,m6⟩
 .obtain ⟨gr,len,x2,x3,rfl,dx,p1,p2,k1,k2,k3,k4,s0,c4,c1,c2,c3⟩:=st
  have s:=s0.up g;have fr:C0 r=none:=xV gr hr;have n:p1≠p2/\p1≠wl/\p2≠wl:=⟨s.ne,sX hw s0.e2,sX hw s0.e3⟩
  cases hR with
  |a2 =>
   cases hz;rw[show eJ "part a" = (["part","a"]:List Str) by decide +kernel] at e5;refine eW s.e1 s.e2 s.e3 e4 e5 n (by show 0+1<=1000; decide) (by show 1 < 2; decide) s.cz (by decide) rfl (by decide) (sz (by decide +kernel)) (fun e=>absurd e (by decide)) (fun w hw e=>?_) (fun w hw e e2=>absurd e2 (by decide)) fun w hw e e2 C' p5 j1 j2 j3 j4 m1 m2 m3 m4 m5 m6 m7 m8 x=>?_
   .cases hw; rw[fS] at e; cases e
   .cases hw
    have ep:[PV.ref k4].map (cz C2 2)=[ptA]:=by rw[Au,(X0 (g _ _ c4) (g _ _ c1) (g _ _ c2) (g _ _ c3)).2]; rfl
    rw[List.nil_append,ep] at m8;exact⟨s.ex fr x,_,_,rfl,dx,p1,p5,_,_,_,m1,m8,m2,.inr ⟨j4,rfl,rfl,X0 m3 m4 m5 m6⟩⟩
  |a5 =>
   cases hz;rw[show eJ "when 1" = (["when","1"]:List Str) by decide +kernel] at e5;refine rd_when s.e1 s.e3 e4 e5 n.2.2 (by show 0 < 1; decide) (by show 1 < 1000; decide) (by decide) rfl fun C' y m1 m2 x=>?_;refine⟨fun b o eb=>x b o ?_ (s.gr _ _ eb),_,_,rfl,dx,p1,p2,_,_,_,m1,x _ _ ?_ s.e2,m2,.inl ⟨rfl,rfl⟩⟩
   .simp [sX s.f1 eb,sX s.f3 eb,sX fr eb]
   .have d1:p1≠h:=fun z=>by
     have e2:=s.e2;rw[z,s.e1] at e2;cases e2
    have d2:p1≠r:=sX hr s0.e2
    simp[d1,s.ne,d2]
  |a0=>cases len
  |a1=>cases len
  |a3=>cases len
  |a4=>cases len
 .cases hR<;>simp at hz
theorem ok_rh (T:Tx W a){k:Nat}:OkX W a (k+9) 23 ["rows"] (gRh a):=by
 have S:=(T.F 23 rfl).s;refine Fun.okX (T.F 23 rfl).F S ?_ ?_
 .rintro vs H Q E ⟨ts,C,R,RX,r,h,⟨_,_,_,_,rfl,_⟩,f⟩
  rw[r.len]; rfl
 .rintro cdv A outer s H vs Q E hr ⟨ts,C,R,RX,r,hh,⟨p,rows,l,t,rfl,e0,hR,q⟩,f,fx⟩
  refine⟨_,gQ (dZ (JS.h (CS.h (cs1 1 S.nd (X9 T.dM (ok_hr (k:=k+6) T) hr rfl T.xZ (T.F 45 rfl).b)))))
   (gQ (vP PassesOwn.leaving rfl (pi_enum rfl T.sH (nZ (JA.h (CA.h (ca1 (cv 0)))))) (pg_tup rfl (jC (wB (i:=2) S.nd rfl (Or.inl rfl)) (jC (wB (i:=3) S.nd rfl (Or.inl rfl)) pgs_nil))) (mQ (vZ (yB (gJ (JE.h (CE.h (cv 1)))) T.bQ (mth (T.F 47 rfl) T.xZ) (ok_read (k:=k+1) T (ok_b T (ok_rk (k:=k) T))) hr (T.F 47 rfl).b .nil (wZ fun _ _ _ z=>z) (nZ (JA.h (CA.h (xQ (ce_make T.rP (ok_row (k:=k+6) T) hr rfl T.fX (T.F 35 rfl).b gM (xQ (cv 3) (xQ (cv 2) eQ))) eQ))))))))
   (gQ (dZ (JS.h (CS.h (cs1 4 S.nd (cm0 T.bQ (T.F 46 rfl) T.xZ (Xh (k:=k+4) T) hr (cv 1))))))
   (gQ (pZ (PT.nox (JT.h (CT.h (cw_pt (cw_or (ct2 Xc kE (cv 4) oY) (cw_or1 (nX (mX (cf (T.F 18 rfl) (ok_ih (k:=k+3) T) hr (ca1 (cv 4)))))))))) ) (mQ (fJ T.yK T.kK (bK (k:=k+6) T) hr rfl T.mK (T.F 32 rfl).b (nZ (JA.h (CA.h (xQ (cln T.jJ (cv 0)) (xQ kQ eQ))))))) cX) oZ))),?_⟩
  have s0:SRel W.K H (start ["rows","reader","line","row","house"] vs) [some (.ref p),none,none,none,none]:=zX r;refine sN s0 hh (fun ρ' C'=>∃h,Ist a C p h rows 0 ρ' C') ?_ ?_
  .refine fun x dx hx hd nd=>gHr.mk x dx rfl qQ fun p1 p2 hp1 hp2=>⟨rfl,x,?_⟩
   have n1:p1≠x:=fun z=>by rw[z,qQ] at hp1; cases hp1
   have n2:p2≠p1:=fun z=>by rw[z,qQ] at hp2; cases hp2
   have n3:p2≠x:=fun z=>by rw[z,zQ n1.symm,qQ] at hp2; cases hp2
   rw[zQ n1] at hp1;rw[zQ n2,zQ n3] at hp2
   have g:Gr C (jQ (jQ (jQ (jQ C x (.ins a.HouseReader dx [])) p1 (.lst [])) p2 (.lst [])) x (hrO a dx p1 p2 "")):=fun b o eb=>by
    have b1:b≠x:=fun z=>by rw[z,hx] at eb; cases eb
    have b2:b≠p1:=fun z=>by rw[z,hp1] at eb; cases eb
    have b3:b≠p2:=fun z=>by rw[z,hp2] at eb; cases eb
    rw[zQ b1,zQ b3,zQ b2,zQ b1];exact eb
   exact⟨g,rfl,dx,p1,p2,qQ,(zQ n1).trans ((zQ n2.symm).trans qQ),(zQ n3).trans qQ,n2.symm,g,hx,hp1,hp2,fun _ z=>nomatch z⟩
  rintro σ1 H1 ρ1 C1 ⟨h,st⟩ s1 h1 f1;have hp:ρ1[0]?=some (some (.ref p)):=by obtain⟨_,rfl,_⟩:=st; rfl
  refine pI (K:=W.K) (H0:=H) (C0:=C) (p:=p) (xs:=rows.map PV.str) 0 2 3 (Ist a C p h rows) hp (fun i ρ C' z=>?_) st s1 h1 f1 (fun i x ρ C' σ H' hx st' s' h' f'=>?_) fun ρ C' σ H' z s' h' f'=>?_
  .rcases i with _ | _ | i<;>exact z.1 _ _ e0
  .rw [Ah] at hx
   obtain⟨z,hz,rfl⟩:=Option.map_eq_some_iff.1 hx
   have hi:(∃dx p1 p2 ah,C' h=some (hrO a dx p1 p2 ah))/\∃x2 x3,ρ=[some (.ref p),some (.ref h),x2,x3,none]:=by
    rcases i with _ | _ | i
    .obtain ⟨_,rfl,_,_,_,s⟩:=st'
     exact⟨⟨_,_,_,_,s.e1⟩,_,_,rfl⟩
    .obtain ⟨_,_,_,_,rfl,_,_,_,_,_,_,_,s,_⟩:=st'
     exact⟨⟨_,_,_,_,s.e1⟩,_,_,rfl⟩
    .obtain ⟨_,_,_,rfl,_,_,_,_,_,_,e,_⟩:=st'
     exact⟨⟨_,_,_,_,e⟩,_,_,rfl⟩
   obtain⟨⟨dx,p1,p2,ah,e1⟩,x2,x3,rfl⟩:=hi;have sm:rows.all (fun z=>decide (z.length<=1000)&&(decide ((Builtin.Str.partsBetween z (Builtin.Str.occurrences z " " 0 z.length (z.length+1)) (" " : Str).length).length<=1000)&&decide ((eJ z).length<=1000)))=true:=by cases hR<;>decide +kernel
   have sm:=BQ.1 sm z (Ak hz);rw[A1,A1] at sm;exact Xm (kX:=RX) s' h' f' fx (fun _ C3=>Ist a C p h rows (i+1) [some (.ref p),some (.ref h),some (.int i),some (.str z),none] C3) ⟨iX e1 rfl,mk_row (i:=3) (j:=2) rfl rfl (AH sm.1) (AH sm.2.1) (AH sm.2.2) fun r dr wl C2 hr e4 e5 hw g=>st_step hR q hz st' hr e4 e5 hw g⟩ (fun _ _ _ z=>z) fun v H2 t C2 k r2 h2 f2 s2=>⟨_,C2,k,s2,h2,f2⟩
  .have h2:rows.length=2/\l=2/\t=0:=by
    cases hR<;>first | exact⟨rfl,rfl,rfl⟩ | (obtain⟨_,len,_⟩:=z; cases len)
   rw[AL,h2.1] at z;obtain⟨g,x2,x3,rfl,dx,p1,p2,ah,ps,ars,m1,m2,m3,hc⟩:=z;refine sN s' h' (fun ρ' C''=>∃v,ρ'=[some (.ref p),some (.ref h),x2,x3,some v]/\Gr C C''/\(v=.non\/v=.tup [ptA,ptA])) ?_ ?_
   .refine ⟨iX m1 rfl,tS.mk h dx p1 p2 ah ps ars rfl m1 m2 m3 ?_ (fun _=>⟨.non,rfl,g,.inl rfl⟩) fun x hx=>?_⟩
    .rcases hc with ⟨rfl,_⟩ | ⟨_,rfl,_⟩
     .decide
     .show 1<=1000; decide
    .rcases hc with ⟨_,z⟩ | ⟨k4,rfl,z,z1,z2⟩
     .rw [hx] at z; cases z
     .rw [hx] at z
      cases z;refine⟨z1,fun C'' g''=>⟨_,rfl,g.trans g'',.inr ?_⟩⟩;rw[z2]
      rfl
   rintro σ2 H2 _ C2 ⟨v,rfl,g2,hv⟩ s2 h2' f2;refine ifG s2 h2' (f'.trans f2) (fun b C3=>b=true/\Gr C C3) ?_ ?_
   .rcases hv with rfl | rfl
    .exact (⟨rfl,g2⟩:true=true/\Gr C C2)
    .show gIh [.tup [ptA,ptA]] C2 (pP fun b C1=>(!b)=true/\Gr C C1)
     exact gIh.mk rfl fun C3 g3=>⟨rfl,g2.trans g3⟩
   rintro _ C3 H3 ⟨rfl,g3⟩ s3 h3 f3;rw[AV rfl];have k:=q C3 g3;rw[h2.2.1,h2.2.2] at k;refine lG (by decide) s3 h3 f3 fx (nM (g3 _ _ e0) ⟨[((rows.map PV.str).length:Nat),0],rfl,rfl,?_,?_⟩)
   .rw [AL,h2.1]; decide
   .rw [AL,h2.1]; exact k
end
section
variable {W:Wd}{a:Adr}
structure Tp (C:CH)(t:Addr)(ns:List Int):Prop where
 at_:∃a b c:Int,C t=some (.lst [.fz (ns.map PV.int),.int a,.int b,.int c])/\0<=a/\0<=b/\0<=c
 len:ns.length<=63
def Ex (t:Addr)(C C':CH):Prop:=∀b o,b≠t->C b=some o->C' b=some o
theorem Ex.trans   (h:Ex t C C1)(h':Ex t C1 C2):Ex t C C2:=fun b o n e=>h' b o n (h b o n e)
theorem Ex.new   (hp:C p=none) o:Ex t C (jQ C p o):=fun b u _ e=>by
 rw[zQ (fun z=>by subst z; rw[hp] at e; cases e)]; exact e
inductive XF (ts:List PV)(C:CH)(Q:K1):Prop
 |mk (ns:List Int) (z0:ts=[.fz (ns.map PV.int)]) (z1:ns.length<=63) (z2:∀t C',C t=none->Ex t C C'->Tp C' t ns->Q (.ref t) C'):XF ts C Q
theorem ok_tape (T:Tx W a){k:Nat}:Ok W a (k+1) 26 ["_law_script"] XF:=by
 refine(T.F 26 rfl).o (fun hr=>(fQ (lQ (iQ (xQ (cv 0) (xQ kQ (xQ kQ (ca1 kQ)))))))) ?_;rintro ts C R ⟨ns,rfl,hl,q⟩;show 4<=sizeLine/\∀p,C p=none->R (.ref p) (jQ C p (.lst [.fz (ns.map PV.int),.int 0,.int 0,.int 0]));exact⟨by decide,fun p hp=>q p _ hp (Ex.new hp _) ⟨⟨0,0,0,qQ,by decide,by decide,by decide⟩,hl⟩⟩
end
section
variable {W:Wd}{a:Adr}
theorem Ex.tape   o:Ex t C (jQ C t o):=fun b u n e=>by rwa [zQ n]
theorem Zj {ns:List Int}  (h0:0<=k)(h1:k < ((ns.map PV.int).length:Int)):∃v,atI (ns.map PV.int) k=some (.int v):=by
 delta atI ixN
 rw[AV h0,AV h1];rw[AL] at h1;show ∃v,(ns.map PV.int)[k.toNat]?=some (.int v);rw[Ah,AN (by lia)];exact⟨_,rfl⟩
inductive nO (ts:List PV)(C:CH)(Q:K1):Prop
 |mk (t:Addr) (m:Int) (ns:List Int) (z0:ts=[.ref t,.int m]) (z1:Tp C t ns) (z2:0 < m) (z3:m < 4611686018427387904) (z4:∀(v:Int) (C':CH),0<=v->v < m->Tp C' t ns->Ex t C C'->Q (.int v) C'):nO ts C Q
theorem uO (T:Tx W a){k:Nat}:Ok W a (k+1) 27 ["_law_tape_here","_law_many"] nO:=by
 have S:=(T.F 27 rfl).s
 refine(T.F 27 rfl).o (fun hr=>(yQ (cs1 2 S.nd (cx (cv 0) kQ))
  (yQ (wF (hX aZ qJ (cx (cv 0) kQ) kQ) (bG (cv 0) kQ))
  (yQ (qZ (cw_pt (cw_and (ct2 bJ uJ (cx (cv 0) kQ) kQ) (cw_and1 (ct2 yO xH (cx (cv 0) kQ) (cln T.jJ (cv 2)))))) (yQ (wF (hX kC yR (xX Zf cbi_abs rfl T.z_abs rfl (ca1 (cx (cv 2) (cx (cv 0) kQ)))) (hX Xa xE kQ kQ)) (bG (cv 0) kQ))
  (fQ (wF (hX aZ qJ (cx (cv 0) kQ) kQ) (bG (cv 0) kQ)))) gX)
  (yQ (qZ (ct2 sD uU (cx (cv 0) kQ) kQ) (yQ (cs1 3 S.nd (hX tV qK (cx (cv 0) kQ) (cv 1)))
  (yQ (wF (hX kC yR (cx (cv 0) kQ) (cv 1)) (bG (cv 0) kQ))
  (fQ (lQ (cv 3))))) gX)
  (yQ (cs1 4 S.nd kQ)
  (yQ (qZ (ct2 sD uU (cln T.jJ (cv 2)) kQ) (fQ (cs1 4 S.nd (cx (cv 2) (hX tV qK (cx (cv 0) kQ) (cln T.jJ (cv 2)))))) gX)
  (yQ (cs1 5 S.nd (hX tV qK (hX aZ qJ (hX aZ qJ (hX mP pB (hX tV qK (cv 4) kQ) kQ) (hX mP pB (cx (cv 0) kQ) kQ)) kQ) kQ))
  (yQ (cs1 5 S.nd (hX tV qK (hX mP pB (cv 5) (hX aZ qJ (cv 5) kQ)) kQ))
  (fQ (lQ (hX tV qK (hX tV qK (hX mP pB (cv 5) kQ) kQ) (cv 1))))))))))))) ?_
 rintro ts C R ⟨t,m,ns,rfl,⟨⟨x,y,z,h,hx,hy,hz⟩,hl⟩,m0,m1,q⟩;refine jW h rfl (jW h rfl (sL (QS h rfl ?_)));dsimp only;have h1:(jQ C t (.lst [.fz (ns.map PV.int),.int (x+1),.int y,.int z])) t=_:=qQ;have e1:Ex t C (jQ C t (.lst [.fz (ns.map PV.int),.int (x+1),.int y,.int z])):=Ex.tape _;refine nN (fun ρ' C'=>ρ'=[some (.ref t),some (.int m),some (.fz (ns.map PV.int)),none,none,none]/\∃y z:Int,C' t=some (.lst [.fz (ns.map PV.int),.int (x+1),.int y,.int z])/\0<=y/\0<=z/\Ex t C C') (fun L hL=>?_) ?_
 .refine jW h1 rfl (yU (sEq_int _ _) (rA (fun hb=>?_) fun hb=>?_))
  .refine jW h1 rfl (Xo (i_i (rA (fun hb2=>?_) fun hb2=>?_)))
   .obtain ⟨c,ea⟩:=Zj hz (AH hb2)
    refine jW h1 rfl (ix_f ea ⟨⟨by decide,by decide,by decide⟩,⟨by decide,by decide⟩,?_⟩);refine QS h1 rfl (jW qQ rfl (sL (QS qQ rfl (hL _ _ ⟨rfl,_,_,qQ,?_,by lia,(e1.trans (Ex.tape _)).trans (Ex.tape _)⟩))));refine Int.ediv_nonneg ?_ (by decide)
    split<;>lia
   .exact tZ (hL _ _ ⟨rfl,y,z,h1,hy,hz,e1⟩)
  .exact if_n rfl (tZ (hL _ _ ⟨rfl,y,z,h1,hy,hz,e1⟩))
 clear h1 e1;rintro ρ' C1 ⟨rfl,y',z',h1,hy',hz',e1⟩;refine sT (jW h1 rfl (i_i (rA (fun hb=>?_) fun hb=>?_)))
 .refine jW h1 rfl ⟨m0,jW h1 rfl ⟨⟨m0,by lia⟩,?_⟩⟩
  exact QS h1 rfl (q _ _ (B8 _ (by lia)) (Bv _ m0) ⟨⟨_,_,_,qQ,by lia,Int.ediv_nonneg hy' (by lia),hz'⟩,hl⟩ (e1.trans (Ex.tape _)))
 .refine tZ (jP (c_i ?_))
  try dsimp only
  refine nN (fun ρ' C'=>C'=C1/\∃v:Int,ρ'=[some (.ref t),some (.int m),some (.fz (ns.map PV.int)),none,some (.int v),none]) (fun L hL=>?_) ?_
  .refine Xo (i_i (rA (fun hb2=>?_) fun hb2=>?_))
   .have hn:(0:Int) < ((ns.map PV.int).length:Int):=AH hb2
    obtain⟨c,ea⟩:=Zj (B8 (x+1) (b:=((ns.map PV.int).length:Int)) (by lia)) (Bv (x+1) hn);exact jW h1 rfl (Xo ⟨hn,ix_f ea (hL _ _ ⟨rfl,_,rfl⟩)⟩)
   .exact tZ (hL _ _ ⟨rfl,0,rfl⟩)
  .rintro ρ' C2 ⟨rfl,v,rfl⟩
   refine jP ⟨(by show(0:Int) < _; decide),?_⟩;refine⟨.inr ⟨by decide,by decide⟩,?_⟩;refine jW h1 rfl ⟨.inr ⟨by decide,by decide⟩,?_⟩;refine sL (sL ⟨(by show(0:Int) < _; decide),?_⟩);have b0:=B8 (v % 2147483647 * 48271+(x+1) * 7919+12345) (b:=2147483629) (by decide);have b1:=Bv (v % 2147483647 * 48271+(x+1) * 7919+12345) (b:=2147483629) (by decide);refine jP (sL ⟨.inl ⟨by lia,by lia⟩,?_⟩)
   refine⟨(by show(0:Int) < _; decide),?_⟩;refine⟨.inr ⟨by decide,by decide⟩,?_⟩;refine⟨(by show(0:Int) < _; decide),?_⟩;exact⟨m0,q _ _ (B8 _ (by lia)) (Bv _ m0) ⟨⟨_,_,_,h1,by lia,hy',hz'⟩,hl⟩ e1⟩
end
end K16
namespace CL
open PySem PySem.Spec L2 PySem.W
open PyProof.Rows hiding St
inductive EqP (K:CU)(H:Hp)(d:Nat):V->V->Prop
 |pl {t:PV} {v v':V} (p:Pl d t) (r:Rep K H v t) (r':Rep K H v' t):EqP K H d v v'
 |lst {a b:Addr} {vs ws:List V} {ts:List PV} (e1:H a=some (.lst vs)) (e2:H b=some (.lst ws)) (r1:Reps K H vs ts) (r2:Reps K H ws ts) (p:∀t∈ts,Pl d t):EqP K H d (.ref a) (.ref b)
section
variable {X:Cx}
theorem eqP_at {pins:List (Addr×Obj)}{σ:St}{H:Hp}{s:Shared}{A:Around}{d:Nat}{v v':V}{u u':Value}(I:Inv X pins σ H s)(h:EqP X.K H d v v')(e:RelV v u)(e':RelV v' u')(hu:A.units+1+d < cLine):SeqAt.EqAt A s u u' true:=by
 cases h with
 |pl p r r'=>exact eO I p r r' e e' (by omega)
 |@lst a b vs ws ts e1 e2 r1 r2 p =>
  cases e; cases e'
  by_cases hab:a=b
  .subst hab; exact Bp _
  .obtain ⟨its,w1,p1,_⟩:=I.list (SqL.of e1)
   obtain⟨its2,w2,p2,_⟩:=I.list (SqL.of e2);obtain⟨hl,he⟩:=tM (A:=A.in1) (d:=d) (fun t m=>eO I (p t m)) hu r1 r2 w1 w2;have R:=SeqAt.RcAt.lists p1.isList p2.isList (by simpa using hl) (by omega) he;rw[show((List.range its.toArray.size).all fun _=>true)=true by simp] at R;exact SeqAt.EqAt.of_refs hab R
theorem zL {pins:List (Addr×Obj)}{σ:St}{H:Hp}{s:Shared}{A:Around}{d:Nat}(I:Inv X pins σ H s)(hu:A.units+1+d < cLine):∀{vs ws:List V}{its its2:List Value},Paired (EqP X.K H d) vs ws->Vals vs its->Vals ws its2 ->
  its.length=its2.length/\∀j (h1:j < its.toArray.size) (h2:j < its2.toArray.size),SeqAt.EqAt A s its.toArray[j] its2.toArray[j] true
 |_,_,_,_,.nil,.nil,.nil=>⟨rfl,fun j h1=>absurd h1 (by simp)⟩
 |_,_,_,_,.cons h r,.cons b1 v1,.cons b2 v2=>by
  obtain⟨l,k⟩:=zL I hu r v1 v2;refine⟨by rw[AZ,AZ,l],fun j h1 h2=>?_⟩
  cases j with
  |zero=>exact eqP_at I h b1 b2 hu
  |succ j =>
   have:=k j (by simp_all) (by simp_all)
   simpa using this
theorem op_neLL {d:Nat}(hu:X.A.units+2+d < cLine):OpR X (compareOp .NotEq) (fun x y H Q=>∃a b vs ws,x=.ref a/\y=.ref b/\H a=some (.lst vs)/\H b=some (.lst ws)/\Paired (EqP X.K H d) vs ws/\Q (.bl false) H):=by
 intro pins s σ H x y v u Q I rx ry h;obtain⟨a,b,vs,ws,rfl,rfl,ha,hb,hp,q⟩:=h;cases rx;cases ry;obtain⟨its,w1,p1,_⟩:=I.list (SqL.of ha);obtain⟨its2,w2,p2,_⟩:=I.list (SqL.of hb);obtain⟨hl,he⟩:=zL (A:=X.A.in1) I (by show X.A.units+1+1+d < cLine; omega) hp w1 w2;have R:=SeqAt.RcNeAt.lists p1.isList p2.isList (by simpa using hl) (by omega) he;rw[show(!(List.range its.toArray.size).all fun _=>true)=false by simp] at R
 exact R _ _ _ _ ⟨.bl false,H,I,rfl,q⟩
def EqQ (C:CH)(d:Nat)(x y:PV):Prop:=(x=y/\Pl d x)\/∃p q zs,x=.ref p/\y=.ref q/\C p=some (.lst zs)/\C q=some (.lst zs)/\∀t∈zs,Pl d t
def cNeLL (d:Nat):R2C:=fun x y C Q=>∃a b xs ys,x=.ref a/\y=.ref b/\C a=some (.lst xs)/\C b=some (.lst ys)/\Paired (EqQ C d) xs ys/\Q (.bl false) C
theorem kR {K:CU}{H:Hp}{C:CH}{d:Nat}(h:HRel K H C):∀{xs ys:List PV}{vs ws:List V},Paired (EqQ C d) xs ys->Reps K H vs xs->Reps K H ws ys->Paired (EqP K H d) vs ws
 |_,_,_,_,.nil,.nil,.nil=>.nil
 |_,_,_,_,.cons e r,.cons r1 v1,.cons r2 v2=>by
  refine .cons ?_ (kR h r v1 v2)
  rcases e with ⟨rfl,p⟩ | ⟨p,q,zs,rfl,rfl,e1,e2,hp⟩
  .exact .pl p r1 r2
  .cases r1; cases r2
   obtain⟨vs,ev,rv⟩:=h p _ e1;obtain⟨ws,ew,rw'⟩:=h q _ e2;exact .lst ev ew rv rw' hp
theorem X2 {K:CU}{d:Nat}:Cop K (fun x y H Q=>∃a b vs ws,x=.ref a/\y=.ref b/\H a=some (.lst vs)/\H b=some (.lst ws)/\Paired (EqP K H d) vs ws/\Q (.bl false) H) (cNeLL d):=fun x y px py H C Q R rx ry h ⟨a,b,xs,ys,e1,e2,e3,e4,hp,q⟩ f=>by
 subst e1 e2;cases rx; cases ry
 obtain⟨vs,ev,rv⟩:=h a _ e3;obtain⟨ws,ew,rw'⟩:=h b _ e4;exact⟨a,b,vs,ws,rfl,rfl,ev,ew,kR h hp rv rw',f _ H _ C q (.bl _) h Fw.refl⟩
end
end CL
namespace K16
open PySem L2 CL
section
variable {W:Wd}{a:Adr}
def wR (w:Nat):List Bool:=[false,false,false,false,false,true,true].set (w % 5) true
def dI (n:Int)(l t:Nat):Nat->List PV
 |0=>[.tup [.int n,.int (n+1)]]
 |1=>[.tup [.tup [.tup [.non,.int n]]]]
 |2=>[.int n]
 |3=>[]
 |4=>[]
 |_=>[.tup [.int l,.int t]]
theorem hU (T:Tx W a){C:Addr}{b1 b2 b3 b4 b5 b6 b7:Bool}(c:jB W.K C)(h1:PySem.W.kitOne W.K (.ref C) (.ref a.NoText)=some b1)(h2:PySem.W.kitOne W.K (.ref C) (.ref a.NoBox)=some b2)(h3:PySem.W.kitOne W.K (.ref C) (.ref a.NoDeed)=some b3)(h4:PySem.W.kitOne W.K (.ref C) (.ref a.NoChange)=some b4)(h5:PySem.W.kitOne W.K (.ref C) (.ref a.NoRow)=some b5)(h6:PySem.W.kitOne W.K (.ref C) (.ref a.ViewError)=some b6)(h7:PySem.W.kitOne W.K (.ref C) (.type "ValueError")=some b7):Kd W a C [b1,b2,b3,b4,b5,b6,b7]:=by
 refine⟨c,rfl,fun i u h=>?_⟩
 rcases i with _ | _ | _ | _ | _ | _ | _ | i
 .cases h; exact h1
 .cases h; exact h2
 .cases h; exact h3
 .cases h; exact h4
 .cases h; exact h5
 .cases h; exact h6
 .cases h; exact h7
 .simp at h
theorem qL (T:Tx W a):Kd W a a.NoText (wR 0):=hU T T.pG T.vG T.tG T.wG T.qY T.oG T.eV T.mV
theorem Xu (T:Tx W a):Kd W a a.NoBox (wR 1):=hU T T.qN T.zU T.qB T.jU T.cY T.iU T.vY T.qW
theorem wI (T:Tx W a):Kd W a a.NoDeed (wR 2):=hU T T.vD T.yG T.qU T.uG T.jY T.iG T.iV T.fV
theorem pC (T:Tx W a):Kd W a a.NoChange (wR 3):=hU T T.iH T.xY T.dY T.kY T.pV T.pY T.iK T.gK
theorem Xt (T:Tx W a):Kd W a a.NoRow (wR 4):=hU T T.QE T.eG T.aU T.aG T.fY T.eU T.zY T.aV
theorem Ze (T:Tx W a){w:Nat}(hw:w < 6){n:Int}(h0:0<=n)(h1:n < 1000000){C:CH}{lr:Addr}{rows:List Str}{l t:Nat}(hR:kD rows l t)(e:C lr=some (.lst (rows.map PV.str))){Q:K1}
  (q:∀C' p1 p2,Gr C C'->C' p2=some (.lst (.ref p1::dI n l t w))->C' p1=some (.lst ((wR w).map PV.bl))->Q (.ref p2) C'):sO W a (gRh a) [.int w,.int n,.ref lr] C Q:=by
 have fin:∀{C2:CH} {b:List Bool} {ks:List PV},Gr C C2->b=wR w->ks=dI n l t w->∀p1 p2 o1,C2 p1=none->jQ C2 p1 (.lst (b.map PV.bl)) p2=none->o1=jQ (jQ C2 p1 (.lst (b.map PV.bl))) p2 (.lst (.ref p1::ks))->Q (.ref p2) o1:=by
  rintro C2 b ks g rfl rfl p1 p2 o1 hp1 hp2 rfl;exact q _ p1 p2 (g.trans ((Gr.new hp1 _).trans (Gr.new hp2 _))) qQ (Gr.new hp2 _ _ _ qQ)
 refine⟨w,n,.ref lr,rfl,w,n,.ref lr,rfl,h0,by omega,by omega,by omega,fun z=>?_,fun z=>?_,fun z=>?_,fun z=>?_,fun z=>?_,fun z=>?_⟩
 .obtain rfl:w=0:=by omega
  exact⟨_,_,qL T,T.vJ,.w0 (.inl rfl) T.pG.toXGet T.dJ.na T.pJ.na rfl rfl,fin Gr.refl rfl rfl⟩
 .obtain rfl:w=1:=by omega
  exact⟨_,_,Xu T,T.uY,.w1 T.qN.toXGet T.vK.na rfl,fin Gr.refl rfl rfl⟩
 .obtain rfl:w=2:=by omega
  exact⟨_,_,wI T,T.kW,.w2 T.vD.toXGet T.uV.na rfl,fin Gr.refl rfl rfl⟩
 .obtain rfl:w=3:=by omega
  exact⟨_,_,pC T,T.vV,.wo (.inl rfl),fin Gr.refl rfl rfl⟩
 .obtain rfl:w=4:=by omega
  exact⟨_,_,Xt T,T.yY,.wo (.inr rfl),fin Gr.refl rfl rfl⟩
 .obtain rfl:w=5:=by omega
  exact⟨lr,rows,l,t,rfl,e,hR,fun C' g=>⟨_,_,qL T,T.vJ,.w0 (.inr rfl) T.pG.toXGet T.dJ.na T.pJ.na rfl rfl,fin g rfl rfl⟩⟩
end
section
variable {W:Wd}{a:Adr}
inductive gLaw (ts:List PV)(C:CH)(Q:K1):Prop
 |mk (ns:List Int) (z0:ts=[.fz (ns.map PV.int)]) (z1:ns.length<=63) (z2:∀C',Q (.bl true) C'):gLaw ts C Q
theorem rep_l {C:CH}{p:Addr}{xs:List PV}{k:Int}{Q:K1}(m:C p=some (.lst xs))(h0 : -(2 ^ 63)<=k/\k < 2 ^ 63)(h:xs.length * k.toNat<=sizeLine)(q:∀p',C p'=none->Q (.ref p') (jQ C p' (.lst (List.replicate k.toNat xs).flatten))):mE (.ref p) (.int k) C Q:=by
 unfold mE
 simp only[m]
 exact⟨h0.1,h0.2,h,q⟩
theorem XA {C0 C:CH}{p:Addr}{o:CO}(g:Gr C0 C)(h:C0 p=none):Gr C0 (jQ C p o):=fun b x e=>(zQ (sX h e)).trans (g _ _ e)
theorem fld_pl {n:Int}{l t w:Nat}:∀x∈dI n l t w,Pl 3 x:=by
 intro x hx
 rcases w with _ | _ | _ | _ | _ | w<;>simp only[dI,List.mem_cons,List.not_mem_nil,or_false] at hx
 .subst hx; exact .tup fun y hy=>by
   simp only[List.mem_cons,List.not_mem_nil,or_false] at hy
   rcases hy with rfl | rfl<;>exact .int _
 .subst hx; exact .tup fun y hy=>by
   simp only[List.mem_cons,List.not_mem_nil,or_false] at hy
   subst hy; exact .tup fun y hy=>by
    simp only[List.mem_cons,List.not_mem_nil,or_false] at hy
    subst hy; exact .tup fun y hy=>by
     simp only[List.mem_cons,List.not_mem_nil,or_false] at hy
     rcases hy with rfl | rfl
     .exact .non
     .exact .int _
 .subst hx; exact .int _
 .subst hx; exact .tup fun y hy=>by
   simp only[List.mem_cons,List.not_mem_nil,or_false] at hy
   rcases hy with rfl | rfl<;>exact .int _
theorem XQ {C:CH}{d:Nat}:∀{xs:List PV},(∀x∈xs,Pl d x)->Paired (EqQ C d) xs xs
 |[],_=>.nil
 |x::xs,h=>.cons (.inl ⟨rfl,h x AW⟩) (XQ fun y hy=>h y (AJ _ hy))
theorem bls_pl {d:Nat}{bs:List Bool}:∀t∈bs.map PV.bl,Pl d t:=fun t ht=>by
 obtain⟨b,_,rfl⟩:=BA.1 ht;exact .bl b
theorem hu5_of {A:Around}{k:Nat}(hr:Room k A):A.units+2+3 < cLine:=by have:=hr.un; omega
theorem ok_law (T:Tx W a){k:Nat}:Ok W a (k+12) 31 ["_law_script"] gLaw:=by
 have S:=(T.F 31 rfl).s
 refine(T.F 31 rfl).ok (fun ts C R h=>?_) fun cdv A outer s H E hr=>⟨_,(yQ (cs1 1 S.nd (cf (T.F 26 rfl) (ok_tape (k:=k+10) T) hr (ca1 (cv 0))))
  (yQ (cs1 2 S.nd (cf (T.F 27 rfl) (uO (k:=k+10) T) hr (xQ (cv 1) (ca1 (hX Xa xE kQ kQ)))))
  (yQ (cs1 3 S.nd (iQ (xQ (iQ (ca1 kZ)) (xQ (iQ (ca1 kZ)) (xQ (iQ (xQ kZ (ca1 kZ))) (xQ (iQ (ca1 kZ)) (xQ (iQ (ca1 kZ)) (ca1 (iQ (xQ kZ (ca1 kZ)))))))))))
  (yQ (cs1 4 S.nd (cf (T.F 27 rfl) (uO (k:=k+10) T) hr (xQ (cv 1) (ca1 kQ))))
  (yQ (cs1 5 S.nd (iQ (xQ (gZ (xQ kQ (ca1 kQ))) (xQ (gZ (xQ kQ (ca1 kQ))) (xQ (gZ (xQ kQ (ca1 kQ))) (xQ (gZ (xQ kQ (ca1 kQ))) (xQ (gZ (xQ kQ (ca1 kQ))) (ca1 (gZ (xQ kQ (ca1 kQ)))))))))))
  (yQ (cs1 6 S.nd (iQ (xQ (iQ (ca1 (gZ (xQ (cv 2) (ca1 (hX aZ qJ (cv 2) kQ)))))) (xQ (iQ (ca1 (gZ (ca1 (gZ (ca1 (gZ (xQ oY (ca1 (cv 2)))))))))) (xQ (iQ (ca1 (cv 2))) (xQ (iQ eQ) (xQ (iQ eQ) (ca1 (iQ (ca1 (cx (cv 5) (cv 4))))))))))))
  (yQ (cs_forR PassesOwn.never rfl rfl T.z_range (ca1 kQ) (cg1 7 S.nd) (yQ (cs1 8 S.nd (hX aZ qJ (hX op_repC cop_rep (iQ (ca1 bZ)) kQ) (iQ (xQ bZ (ca1 bZ)))))
  (yQ (wF bZ (bG (cv 8) (hX tV qK (cv 7) kQ)))
  (fQ (qZ (ct2 (op_neLL (d:=3) (hu5_of hr)) X2 (cf (T.F 30 rfl) (iA (k:=k+7) T (oA (k:=k+6) T (ok_rh (k:=k) T))) hr (xQ (cv 7) (xQ (cv 2) (ca1 (cx (cv 3) (cv 4)))))) (hX aZ qJ (iQ (ca1 (cv 8))) (cx (cv 6) (cv 7)))) (fQ (lQ bZ)) gX)))))
  (fQ (lQ bZ))))))))),?_⟩
 .obtain ⟨_,rfl,_⟩:=h; rfl
 rintro ts C R ⟨ns,rfl,hl,q⟩;refine XF.mk ns rfl hl fun t C1 ht ex1 tp1=>?_;refine⟨⟨by decide,by decide,by decide⟩,nO.mk t _ ns rfl tp1 (by decide) (by decide) fun n C2 n0 n1 tp2 ex2=>?_⟩;have n1:n < 1000000:=n1;refine⟨zS0 1 rfl,fun q0 h0=>⟨zS0 1 rfl,fun q1 h1=>⟨zS0 2 rfl,fun q2 h2=>⟨zS0 1 rfl,fun q3 h3=>⟨zS0 1 rfl,fun q4 h4=>⟨zS0 2 rfl,fun q5 h5=>⟨zS0 6 rfl,fun sA hs=>?_⟩⟩⟩⟩⟩⟩⟩
 have c0:=Gr.new h0 (.lst [.str "part"]);have c1:=Gr.new h1 (.lst [.str "part A"]);have c2:=Gr.new h2 (.lst [.str "part a",.str "part a"]);have c3:=Gr.new h3 (.lst [.str "part a b"]);have c4:=Gr.new h4 (.lst [.str "end"]);have c5:=Gr.new h5 (.lst [.str "part a",.str "when 1"]);have c6:=Gr.new hs (.lst [.ref q0,.ref q1,.ref q2,.ref q3,.ref q4,.ref q5]);have m0:=(c1.trans (c2.trans (c3.trans (c4.trans (c5.trans c6))))) q0 _ qQ
 have m1:=(c2.trans (c3.trans (c4.trans (c5.trans c6)))) q1 _ qQ;have m2:=(c3.trans (c4.trans (c5.trans c6))) q2 _ qQ;have m3:=(c4.trans (c5.trans c6)) q3 _ qQ;have m4:=(c5.trans c6) q4 _ qQ;have m5:=c6 q5 _ qQ;have m6:=(qQ:(jQ (jQ (jQ (jQ (jQ (jQ (jQ C2 q0 (.lst [.str "part"])) q1 (.lst [.str "part A"])) q2 (.lst [.str "part a",.str "part a"])) q3 (.lst [.str "part a b"])) q4 (.lst [.str "end"])) q5 (.lst [.str "part a",.str "when 1"])) sA (.lst [.ref q0,.ref q1,.ref q2,.ref q3,.ref q4,.ref q5])) sA=some (.lst [.ref q0,.ref q1,.ref q2,.ref q3,.ref q4,.ref q5]))
 have gr:=c0.trans (c1.trans (c2.trans (c3.trans (c4.trans (c5.trans c6)))));obtain⟨⟨x1,x2,x3,tt,_⟩,_⟩:=id tp2;have d0:=sX h0 tt;have d1:=sX h1 (c0 _ _ tt);have d2:=sX h2 (c1 _ _ (c0 _ _ tt));have d3:=sX h3 (c2 _ _ (c1 _ _ (c0 _ _ tt)));have d4:=sX h4 (c3 _ _ (c2 _ _ (c1 _ _ (c0 _ _ tt))));have d5:=sX h5 (c4 _ _ (c3 _ _ (c2 _ _ (c1 _ _ (c0 _ _ tt)))));have d6:=sX hs (c5 _ _ (c4 _ _ (c3 _ _ (c2 _ _ (c1 _ _ (c0 _ _ tt))))))
 generalize (jQ (jQ (jQ (jQ (jQ (jQ (jQ C2 q0 (.lst [.str "part"])) q1 (.lst [.str "part A"])) q2 (.lst [.str "part a",.str "part a"])) q3 (.lst [.str "part a b"])) q4 (.lst [.str "end"])) q5 (.lst [.str "part a",.str "when 1"])) sA (.lst [.ref q0,.ref q1,.ref q2,.ref q3,.ref q4,.ref q5]))=C3 at *
 clear c0 c1 c2 c3 c4 c5 c6 h0 h1 h2 h3 h4 h5 hs
 have tp3:Tp C3 t ns:=by
  obtain⟨⟨x1,x2,x3,e,r⟩,l⟩:=tp2;exact⟨⟨x1,x2,x3,gr _ _ e,r⟩,l⟩
 refine nO.mk t 6 ns rfl tp3 (by decide) (by decide) fun v C4 v0 v1 tp4 ex4=>?_;have m0:=ex4 _ _ d0.symm m0;have m1:=ex4 _ _ d1.symm m1;have m2:=ex4 _ _ d2.symm m2;have m3:=ex4 _ _ d3.symm m3;have m4:=ex4 _ _ d4.symm m4;have m5:=ex4 _ _ d5.symm m5;have m6:=ex4 _ _ d6.symm m6;obtain⟨m,rfl⟩:=Int.eq_ofNat_of_zero_le v0;have hm:m < 6:=by omega
 clear ex4 tp3 tp4 tp2 tp1 gr ex1 ex2 d0 d1 d2 d3 d4 d5 d6
 obtain⟨qm,rows,l,w,hR,eq,er,ep⟩:∃qm rows l w,kD rows l w/\[PV.ref q0,.ref q1,.ref q2,.ref q3,.ref q4,.ref q5][m]?=some (.ref qm)/\C4 qm=some (.lst (rows.map PV.str)) /\
   [PV.tup [.int 0,.int 1],.tup [.int 0,.int 1],.tup [.int 2,.int 0],.tup [.int 0,.int 2],.tup [.int 0,.int 0],.tup [.int 2,.int 0]][m]?=some (.tup [.int (l:Nat),.int (w:Nat)]):=by
  rcases m with _ | _ | _ | _ | _ | _ | m
  .exact ⟨q0,_,_,_,.a0,rfl,m0,rfl⟩
  .exact ⟨q1,_,_,_,.a1,rfl,m1,rfl⟩
  .exact ⟨q2,_,_,_,.a2,rfl,m2,rfl⟩
  .exact ⟨q3,_,_,_,.a3,rfl,m3,rfl⟩
  .exact ⟨q4,_,_,_,.a4,rfl,m4,rfl⟩
  .exact ⟨q5,_,_,_,.a5,rfl,m5,rfl⟩
  .omega
 clear m0 m1 m2 m3 m4 m5;refine⟨zS0 2 rfl,⟨zS0 2 rfl,⟨zS0 2 rfl,⟨zS0 2 rfl,⟨zS0 2 rfl,⟨zS0 2 rfl,⟨zS0 6 rfl,fun pA hpA=>?_⟩⟩⟩⟩⟩⟩⟩;have gA:=Gr.new hpA (.lst [.tup [.int 0,.int 1],.tup [.int 0,.int 1],.tup [.int 2,.int 0],.tup [.int 0,.int 2],.tup [.int 0,.int 0],.tup [.int 2,.int 0]])
 have mA:=(qQ:jQ C4 pA (.lst [.tup [.int 0,.int 1],.tup [.int 0,.int 1],.tup [.int 2,.int 0],.tup [.int 0,.int 2],.tup [.int 0,.int 0],.tup [.int 2,.int 0]]) pA=some (.lst [.tup [.int 0,.int 1],.tup [.int 0,.int 1],.tup [.int 2,.int 0],.tup [.int 0,.int 2],.tup [.int 0,.int 0],.tup [.int 2,.int 0]]));generalize jQ C4 pA (.lst [.tup [.int 0,.int 1],.tup [.int 0,.int 1],.tup [.int 2,.int 0],.tup [.int 0,.int 2],.tup [.int 0,.int 0],.tup [.int 2,.int 0]])=C5 at *
 refine sL ⟨zS0 2 rfl,⟨zS0 1 rfl,fun f0 k0=>⟨zS0 2 rfl,⟨zS0 1 rfl,⟨zS0 1 rfl,⟨zS0 1 rfl,fun f1 k1=>⟨zS0 1 rfl,fun f2 k2=>⟨Aa _,fun f3 k3=>⟨Aa _,fun f4 k4=>?_⟩⟩⟩⟩⟩⟩⟩⟩⟩;have c0:=Gr.new k0 (.lst [.tup [.int n,.int (n+1)]]);have c1:=Gr.new k1 (.lst [.tup [.tup [.tup [.non,.int n]]]])
 have c2:=Gr.new k2 (.lst [.int n]);have c3:=Gr.new k3 (.lst []);have c4:=Gr.new k4 (.lst []);refine jW ((c0.trans (c1.trans (c2.trans (c3.trans c4)))) _ _ mA) (cB ep) ⟨zS0 1 rfl,fun f5 k5=>⟨zS0 6 rfl,fun fA kf=>?_⟩⟩;have c5:=Gr.new k5 (.lst [.tup [.int l,.int w]]);have c6:=Gr.new kf (.lst [.ref f0,.ref f1,.ref f2,.ref f3,.ref f4,.ref f5]);have y0:=(c1.trans (c2.trans (c3.trans (c4.trans (c5.trans c6))))) f0 _ qQ
 have y1:=(c2.trans (c3.trans (c4.trans (c5.trans c6)))) f1 _ qQ;have y2:=(c3.trans (c4.trans (c5.trans c6))) f2 _ qQ;have y3:=(c4.trans (c5.trans c6)) f3 _ qQ;have y4:=(c5.trans c6) f4 _ qQ;have y5:=c6 f5 _ qQ;have y6:=(qQ:(jQ (jQ (jQ (jQ (jQ (jQ (jQ C5 f0 (.lst [.tup [.int n,.int (n+1)]])) f1 (.lst [.tup [.tup [.tup [.non,.int n]]]])) f2 (.lst [.int n])) f3 (.lst [])) f4 (.lst [])) f5 (.lst [.tup [.int l,.int w]])) fA (.lst [.ref f0,.ref f1,.ref f2,.ref f3,.ref f4,.ref f5])) fA=some (.lst [.ref f0,.ref f1,.ref f2,.ref f3,.ref f4,.ref f5]))
 have gr:=gA.trans (c0.trans (c1.trans (c2.trans (c3.trans (c4.trans (c5.trans c6))))));generalize (jQ (jQ (jQ (jQ (jQ (jQ (jQ C5 f0 (.lst [.tup [.int n,.int (n+1)]])) f1 (.lst [.tup [.tup [.tup [.non,.int n]]]])) f2 (.lst [.int n])) f3 (.lst [])) f4 (.lst [])) f5 (.lst [.tup [.int l,.int w]])) fA (.lst [.ref f0,.ref f1,.ref f2,.ref f3,.ref f4,.ref f5]))=C6 at *
 have er:=gr _ _ er;have m6:=gr _ _ m6;clear c0 c1 c2 c3 c4 c5 c6 k0 k1 k2 k3 k4 k5 kf gA mA gr hpA
 have hf:∀j,j < 6->∃f,[PV.ref f0,.ref f1,.ref f2,.ref f3,.ref f4,.ref f5][j]?=some (.ref f)/\C6 f=some (.lst (dI n l w j)):=by
  intro j hj
  rcases j with _ | _ | _ | _ | _ | _ | j
  .exact ⟨f0,rfl,y0⟩
  .exact ⟨f1,rfl,y1⟩
  .exact ⟨f2,rfl,y2⟩
  .exact ⟨f3,rfl,y3⟩
  .exact ⟨f4,rfl,y4⟩
  .exact ⟨f5,rfl,y5⟩
  .omega
 clear y0 y1 y2 y3 y4 y5;refine sT ⟨by decide,by decide,QJ (fun zs ρ C'=>Gr C6 C'/\(∀z∈zs,∃j:Nat,j < 6/\z=.int j)/\∃x7 x8,ρ=[some (.fz (ns.map PV.int)),some (.ref t),some (.int n),some (.ref sA),some (.int m),some (.ref pA),some (.ref fA),x7,x8]) ?_ ?_ _ _ _ ⟨Gr.refl,?_,_,_,rfl⟩⟩
 .rintro z zs ρ C' ⟨g,hz,x7,x8,rfl⟩ L hL
  obtain⟨j,hj,rfl⟩:=hz z AW;have hz':∀z∈zs,∃j:Nat,j < 6/\z=.int j:=fun z h=>hz z (AJ _ h);refine⟨zS0 1 rfl,fun p1 h1=>rep_l qQ ⟨by decide,by decide⟩ (by show 1 * 5<=sizeLine; decide) fun p2 h2=>⟨zS0 2 rfl,fun p3 h3=>Zo (Gr.new h3 _ _ _ qQ) qQ (by show 5+2<=sizeLine; decide) fun p4 h4=>?_⟩⟩;have g3:=g.trans ((Gr.new h1 (.lst [.bl false])).trans ((Gr.new h2 (.lst (List.replicate (5:Int).toNat [PV.bl false]).flatten)).trans (Gr.new h3 (.lst [.bl true,.bl true]))))
  have f4:C6 p4=none:=xV g3 h4;have g4:=XA (o:=.lst ((List.replicate (5:Int).toNat [PV.bl false]).flatten++[.bl true,.bl true])) g3 f4;have m4:=(qQ:jQ (jQ (jQ (jQ C' p1 (.lst [.bl false])) p2 (.lst (List.replicate (5:Int).toNat [PV.bl false]).flatten)) p3 (.lst [.bl true,.bl true])) p4 (.lst ((List.replicate (5:Int).toNat [PV.bl false]).flatten++[.bl true,.bl true])) p4=_);generalize jQ (jQ (jQ (jQ C' p1 (.lst [.bl false])) p2 (.lst (List.replicate (5:Int).toNat [PV.bl false]).flatten)) p3 (.lst [.bl true,.bl true])) p4 (.lst ((List.replicate (5:Int).toNat [PV.bl false]).flatten++[.bl true,.bl true]))=C10 at *
  dsimp only[CEnds.wn];refine sT ⟨by show(0:Int) < 5; decide,QS m4 (j:=j % 5) ?_ ?_⟩
  .rcases j with _ | _ | _ | _ | _ | _ | j<;>first | rfl | omega
  have m5:=(qQ:jQ C10 p4 (.lst (((List.replicate (5:Int).toNat [PV.bl false]).flatten++[PV.bl true,PV.bl true]).set (j % 5) (PV.bl true))) p4=_);have g5:=XA (o:=.lst (((List.replicate (5:Int).toNat [PV.bl false]).flatten++[PV.bl true,PV.bl true]).set (j % 5) (PV.bl true))) g4 f4
  have ed:((List.replicate (5:Int).toNat [PV.bl false]).flatten++[PV.bl true,PV.bl true]).set (j % 5) (PV.bl true)=(wR j).map PV.bl:=by
   rcases j with _ | _ | _ | _ | _ | _ | j<;>first | rfl | omega
  generalize jQ C10 p4 (.lst (((List.replicate (5:Int).toNat [PV.bl false]).flatten++[PV.bl true,PV.bl true]).set (j % 5) (PV.bl true)))=C11 at *
  rw[ed] at m5;refine jW (g5 _ _ m6) (cB eq) ?_;refine Ze T hj n0 n1 hR (g5 _ _ er) fun C12 r1 r2 g12 e2 e1=>⟨zS0 1 rfl,fun p5 h5=>?_⟩;obtain⟨f,ef,cf⟩:=hf j hj;have g13:=(g5.trans g12).trans (Gr.new h5 (.lst [.ref p4]));refine jW (g13 _ _ y6) (cB ef) (Zo qQ (g13 _ _ cf) ?_ fun p6 h6=>?_)
  .rcases j with _ | _ | _ | _ | _ | _ | j<;>first | (show 1+1<=sizeLine; decide) | (show 1+0<=sizeLine; decide) | omega
  have k6:=Gr.new h6 (.lst ([.ref p4]++dI n l w j));have k5:=(Gr.new h5 (.lst [.ref p4])).trans k6;refine⟨r2,p6,_,_,rfl,rfl,k5 _ _ e2,qQ,.cons (.inr ⟨r1,p4,_,rfl,rfl,k5 _ _ e1,k5 _ _ (g12 _ _ m5),bls_pl⟩) (XQ fld_pl),qV rfl (tZ (hL _ _ ⟨g13.trans k6,hz',_,_,rfl⟩))⟩
 .rintro ρ C' ⟨_,_,x7,x8,rfl⟩
  exact q C'
 .intro z hz
  obtain⟨j,hj,rfl⟩:=BA.1 hz;exact⟨j,Bt.1 hj,rfl⟩
end
theorem nC {K:CU}{H:Hp}:∀ns:List Int,Reps K H (ns.map V.int) (ns.map PV.int)
 |[]=>.nil
 |n::ns=>.cons (.int n) (nC ns)
theorem walk {l:PySem.W.OpenLaw}{q:Program}{loose:List Str}{XP:(Str->Option Value)->Heap->Prop}{YP:World->Heap->Prop}{d:DefRec}{K:Params->CU}(hn:l.most=some 63)(hdf:d.params.defaults=[])(hnm:d.name = "law")
  (hY:∀(w:World) (h:Heap),YP w h->(K w.params).In h)
  (F:∀(w:World) (mg:Str->Option Value) (h:Heap),(K w.params).In h->h.Ns mainGlobals mg->∃a:Adr,Txt l.prog w (K w.params) mg a) :
  PySem.W.WalkO q loose XP YP l.row.toRowW d [] (fun f vs=>PySem.call f vs):=by
 refine L2.walk_of (n:=63) (k:=130) (x:="_law_script") (CX:=fun _=>CX0) (sp:=fun w=>spC (K w.params) gLaw) hn (by decide) hdf ⟨rfl,by decide,by decide,rfl⟩ hY ?_ (fun w H a ns hl hO hS=>?_) fun _ _ _ _ _ z=>z
 .intro w mg fa h KX G hmg
  obtain⟨a,T⟩:=F w mg h KX G;rw[hnm] at hmg;have e:=hmg.symm.trans ((T.F 31 rfl).m rfl);cases e;obtain⟨_,_,_,_,_,_,_,_,_,e2,_⟩:=(T.F 31 rfl).F.ex;refine⟨a.d 31,?_,fun base _ _=>ok_law (W:=⟨_,_,_,_,base⟩) T⟩;rw[e2];exact fun s u=>.of_eq rfl
 .have hz:Fz (K w.params) H a (ns.map V.int):=by
   rcases hS with hS | hS
   .rcases hS with hS | ⟨o,hS⟩
    .rcases hO a with h | ⟨o,xs,h⟩
     .rw [hS] at h; cases h
     .rw [hS] at h; cases h
    .exact .inl ⟨o,hS⟩
   .exact .inr hS
  refine⟨[.fz (ns.map PV.int)],fun _=>none,fun v _=>v=.bl true,.cons (.fz hz (nC ns)) .nil,(fun _ _ z=>nomatch z),⟨ns,rfl,hl,fun _=>rfl⟩,?_⟩;rintro v H' t C' rfl r h' f';cases r
  rfl
end K16
open PySem PySem.W PyProof.Rows
namespace PySem.W.Fast
theorem tw10005951971708387047:True:=⟨⟩
theorem tw10146852768800348353:True:=⟨⟩
theorem tw10151488872898633116:True:=⟨⟩
theorem tw10164631529758568494:True:=⟨⟩
theorem tw10235030484692983252:True:=⟨⟩
theorem tw10275564317655404578:True:=⟨⟩
theorem tw10483264241037927535:True:=⟨⟩
theorem tw10513146624250904518:True:=⟨⟩
theorem tw10527729361688663371:True:=⟨⟩
theorem tw10531532465728594396:True:=⟨⟩
theorem tw10641710994705975406:True:=⟨⟩
theorem tw10678140345511254157:True:=⟨⟩
theorem tw10709472451347217200:True:=⟨⟩
theorem tw10874324785101242305:True:=⟨⟩
theorem tw11108603430709674935:True:=⟨⟩
theorem tw11229352820367268847:True:=⟨⟩
theorem tw11325221464962643494:True:=⟨⟩
theorem tw11414647298311299896:True:=⟨⟩
theorem tw11505150023627095803:True:=⟨⟩
theorem tw11564145403290238191:True:=⟨⟩
theorem tw11583398828749743631:True:=⟨⟩
theorem tw11828679884482067255:True:=⟨⟩
theorem tw1185588709407631160:True:=⟨⟩
theorem tw11858881085285916328:True:=⟨⟩
theorem tw11870716177378249421:True:=⟨⟩
theorem tw11890247556281773626:True:=⟨⟩
theorem tw1191976213980254252:True:=⟨⟩
theorem tw11987917875627541646:True:=⟨⟩
theorem tw12053382952008273738:True:=⟨⟩
theorem tw12164713844817777974:True:=⟨⟩
theorem tw12186405044723681654:True:=⟨⟩
theorem tw12308330151682556132:True:=⟨⟩
theorem tw12431904772085200484:True:=⟨⟩
theorem tw12470601581966674820:True:=⟨⟩
theorem tw12486625130871160327:True:=⟨⟩
theorem tw12529177548375612443:True:=⟨⟩
theorem tw13058785999523437388:True:=⟨⟩
theorem tw130642111636375419:True:=⟨⟩
theorem tw13080857693843294155:True:=⟨⟩
theorem tw13222798429531692928:True:=⟨⟩
theorem tw13261370356804769353:True:=⟨⟩
theorem tw1326268296869750481:True:=⟨⟩
theorem tw13322717289518513598:True:=⟨⟩
theorem tw13325523761423213974:True:=⟨⟩
theorem tw13429676192410207685:True:=⟨⟩
theorem tw13590143872702891749:True:=⟨⟩
theorem tw13620447193991579810:True:=⟨⟩
theorem tw13671656903364789253:True:=⟨⟩
theorem tw13686043168477160835:True:=⟨⟩
theorem tw13727617624743924256:True:=⟨⟩
theorem tw1388874560529738655:True:=⟨⟩
theorem tw13941322747857678860:True:=⟨⟩
theorem tw14140759063212647183:True:=⟨⟩
theorem tw14289230992918284026:True:=⟨⟩
theorem tw14359442190481481268:True:=⟨⟩
theorem tw14396172367870447955:True:=⟨⟩
theorem tw14493882721996591637:True:=⟨⟩
theorem tw14536923116032730073:True:=⟨⟩
theorem tw14793925128394479490:True:=⟨⟩
theorem tw15027144266537009951:True:=⟨⟩
theorem tw15145884260435519047:True:=⟨⟩
theorem tw15173999305326186584:True:=⟨⟩
theorem tw1521222506741792022:True:=⟨⟩
theorem tw1528777010093211035:True:=⟨⟩
theorem tw15314090272276664091:True:=⟨⟩
theorem tw15427434256432650446:True:=⟨⟩
theorem tw15608887698887652573:True:=⟨⟩
theorem tw15812990937487512147:True:=⟨⟩
theorem tw15966239001683262199:True:=⟨⟩
theorem tw16193110570619061538:True:=⟨⟩
theorem tw16259834935517608624:True:=⟨⟩
theorem tw16260320711346526613:True:=⟨⟩
theorem tw16392720704533046420:True:=⟨⟩
theorem tw16422122304660794502:True:=⟨⟩
theorem tw16608242336790087335:True:=⟨⟩
theorem tw16613525998354165224:True:=⟨⟩
theorem tw16744332230034636184:True:=⟨⟩
theorem tw16774441938704305078:True:=⟨⟩
theorem tw16947792049053302571:True:=⟨⟩
theorem tw17045995635153734043:True:=⟨⟩
theorem tw17105687906971351143:True:=⟨⟩
theorem tw17175465252097550164:True:=⟨⟩
theorem tw17178927772118104895:True:=⟨⟩
theorem tw17329633011735622638:True:=⟨⟩
theorem tw1739774847084430247:True:=⟨⟩
theorem tw17416122860064717270:True:=⟨⟩
theorem tw1745672748371135001:True:=⟨⟩
theorem tw17488833428340598219:True:=⟨⟩
theorem tw175206846507954057:True:=⟨⟩
theorem tw17616402678017230902:True:=⟨⟩
theorem tw17640361783868843960:True:=⟨⟩
theorem tw17690143278345780942:True:=⟨⟩
theorem tw17724583495971914816:True:=⟨⟩
theorem tw17745750030408375504:True:=⟨⟩
theorem tw17819574851122381897:True:=⟨⟩
theorem tw17868975821361658236:True:=⟨⟩
theorem tw18186183678823960983:True:=⟨⟩
theorem tw18262064257541274659:True:=⟨⟩
theorem tw1829865648065764406:True:=⟨⟩
theorem tw18331753340183115579:True:=⟨⟩
theorem tw18347085476917125506:True:=⟨⟩
theorem tw18349899045675584371:True:=⟨⟩
theorem tw1877480141863425939:True:=⟨⟩
theorem tw1917278169821975688:True:=⟨⟩
theorem tw1935130436237416672:True:=⟨⟩
theorem tw2250267424344485550:True:=⟨⟩
theorem tw2257831734180462498:True:=⟨⟩
theorem tw2570770397839502503:True:=⟨⟩
theorem tw2808667155054148251:True:=⟨⟩
theorem tw2936768247272668779:True:=⟨⟩
theorem tw2983490950513550327:True:=⟨⟩
theorem tw3009659918404559766:True:=⟨⟩
theorem tw3057747056639650166:True:=⟨⟩
theorem tw3206895101774074301:True:=⟨⟩
theorem tw3221837073179193281:True:=⟨⟩
theorem tw3304443086387002454:True:=⟨⟩
theorem tw3604196986006630233:True:=⟨⟩
theorem tw3659463945633493534:True:=⟨⟩
theorem tw3785331527751901773:True:=⟨⟩
theorem tw3847317443150419682:True:=⟨⟩
theorem tw3885056829226648922:True:=⟨⟩
theorem tw3937747915663199256:True:=⟨⟩
theorem tw4058103873436381171:True:=⟨⟩
theorem tw423752193930543947:True:=⟨⟩
theorem tw4411318278209974584:True:=⟨⟩
theorem tw441640804020195880:True:=⟨⟩
theorem tw4514767042125586255:True:=⟨⟩
theorem tw4668838383342333040:True:=⟨⟩
theorem tw4731430782365431899:True:=⟨⟩
theorem tw4839052721344181046:True:=⟨⟩
theorem tw4847574283564803130:True:=⟨⟩
theorem tw4952681792214881400:True:=⟨⟩
theorem tw515743309013131724:True:=⟨⟩
theorem tw5304301480025513672:True:=⟨⟩
theorem tw5323877420902887087:True:=⟨⟩
theorem tw5693487005941157740:True:=⟨⟩
theorem tw5867621735990012125:True:=⟨⟩
theorem tw590240552989379879:True:=⟨⟩
theorem tw6002849942210243962:True:=⟨⟩
theorem tw6165895119810324375:True:=⟨⟩
theorem tw6182277230078739825:True:=⟨⟩
theorem tw6184605894209484476:True:=⟨⟩
theorem tw6244755559900550424:True:=⟨⟩
theorem tw6294587436398256269:True:=⟨⟩
theorem tw6315209485981121835:True:=⟨⟩
theorem tw6390374399358949961:True:=⟨⟩
theorem tw640573542469750005:True:=⟨⟩
theorem tw6414181147361551678:True:=⟨⟩
theorem tw6426020785794453407:True:=⟨⟩
theorem tw6496861564718977456:True:=⟨⟩
theorem tw6544986799431047964:True:=⟨⟩
theorem tw667957264805861886:True:=⟨⟩
theorem tw680411485752971620:True:=⟨⟩
theorem tw7049475793140570918:True:=⟨⟩
theorem tw71886572673545446:True:=⟨⟩
theorem tw7199066122619568908:True:=⟨⟩
theorem tw7530051652955728374:True:=⟨⟩
theorem tw7588494646361533027:True:=⟨⟩
theorem tw7615688447207613512:True:=⟨⟩
theorem tw7645117485141102976:True:=⟨⟩
theorem tw7700308819989981506:True:=⟨⟩
theorem tw7711968264174063947:True:=⟨⟩
theorem tw7764993372087281491:True:=⟨⟩
theorem tw7769413818443379817:True:=⟨⟩
theorem tw7840347533998403371:True:=⟨⟩
theorem tw7859006023086048975:True:=⟨⟩
theorem tw8155372247119138728:True:=⟨⟩
theorem tw8176937238222096142:True:=⟨⟩
theorem tw818715589778973518:True:=⟨⟩
theorem tw8446600599278690774:True:=⟨⟩
theorem tw850092937427216678:True:=⟨⟩
theorem tw8543755599629763154:True:=⟨⟩
theorem tw8578076109854521936:True:=⟨⟩
theorem tw8623374759366050147:True:=⟨⟩
theorem tw8775823771465875394:True:=⟨⟩
theorem tw8887690924516101901:True:=⟨⟩
theorem tw8891073489865177629:True:=⟨⟩
theorem tw9000267543206897694:True:=⟨⟩
theorem tw9059968405954245495:True:=⟨⟩
theorem tw9109071684838718204:True:=⟨⟩
theorem tw9109770374311502357:True:=⟨⟩
theorem tw9202205818903458526:True:=⟨⟩
theorem tw9269718529183648308:True:=⟨⟩
theorem tw9331394533719125293:True:=⟨⟩
theorem tw9421013729647466209:True:=⟨⟩
theorem tw9572336290934625848:True:=⟨⟩
theorem tw9577382792099527197:True:=⟨⟩
theorem tw9734600786764884881:True:=⟨⟩
theorem tw9819517545313375800:True:=⟨⟩
end PySem.W.Fast
set_option maxRecDepth 100000 in
set_option maxHeartbeats 0 in
theorem PySem.Challenge.cw_viewwood_k16_refusals_apart_holds : PySem.Challenge.rw_viewwood_k16_refusals_apart.Holds := by
 w_on; o_law; k_head; (case hw=>w_witness2)
 k_fill
 refine K16.walk (l:=PySem.Challenge.rw_viewwood_k16_refusals_apart) rfl rfl rfl (fun w h Y=>PySem.W.kIn_of Y) ?F
 case F =>
  intro w mg h KX G;refine K16.txt_mk KX G ?_ (by first | k_is | rfl) (by first | k_is | rfl) (by first | k_is | rfl) (by first | k_is | rfl) (by first | k_is | rfl) (by first | k_is | rfl) (by first | k_is | rfl) (by first | k_is | rfl) (by first | k_is | rfl) (by first | k_is | rfl) (by first | k_is | rfl) (by first | k_is | rfl) (by first | k_is | rfl) (by first | k_is | rfl) (by first | k_is | rfl) (by first | k_is | rfl) (by first | k_is | rfl) (by first | k_is | rfl) (by first | k_is | rfl) (by first | k_is | rfl) (by first | k_is | rfl) (by first | k_is | rfl) (by first | k_is | rfl) (by first | k_is | rfl) (by first | k_is | rfl) (by first | k_is | rfl) (by first | k_is | rfl) (by first | k_is | rfl) (by first | k_is | rfl) (by first | k_is | rfl) (by first | k_is | rfl) (by first | k_is | rfl) (by first | k_is | rfl) (by first | k_is | rfl) (by first | k_is | rfl) (by first | k_is | rfl) (by first | k_is | rfl) (by first | k_is | rfl) (by first | k_is | rfl) (by first | k_is | rfl) (by first | k_is | rfl) (by first | k_is | rfl) (by first | k_is | rfl) (by first | k_is | rfl) (by first | k_is | rfl) (by first | k_is | rfl) (by first | k_is | rfl) (by first | k_is | rfl) (by first | k_is | rfl) (by first | k_is | rfl) (by first | k_is | rfl) (by first | k_is | rfl) (by first | k_is | rfl) (by first | k_is | rfl) (by first | k_is | rfl) (by first | k_is | rfl) (by first | k_is | rfl) (by first | k_is | rfl) (by first | k_is | rfl) (by first | k_is | rfl) (by first | k_is | rfl) (by first | k_is | rfl) (by first | k_is | rfl) (by first | k_is | rfl) (by first | k_is | rfl) (by first | k_is | rfl) (by first | k_is | rfl) (by first | k_is | rfl) (by first | k_is | rfl) (by first | k_is | rfl) (by first | k_is | rfl) (by first | k_is | rfl) (by first | k_is | rfl) (by first | k_is | rfl) (by first | k_is | rfl) (by first | k_is | rfl) (by first | k_is | rfl) (by first | k_is | rfl) (by first | k_is | rfl) (by first | k_is | rfl) (by first | k_is | rfl) (by first | k_is | rfl) (by first | k_is | rfl) (by first | k_is | rfl) (by first | k_is | rfl) (by first | k_is | rfl) (by first | k_is | rfl) (by first | k_is | rfl) (by first | k_is | rfl) (by first | k_is | rfl) (by first | k_is | rfl) (by first | k_is | rfl) (by first | k_is | rfl) (by first | k_is | rfl) (by first | k_is | rfl) (by first | k_is | rfl) (by first | k_is | rfl) (by first | k_is | rfl) (by first | k_is | rfl) (by first | k_is | rfl) (by first | k_is | rfl) (by first | k_is | rfl) (by first | k_is | rfl) (by first | k_is | rfl) (by first | k_is | rfl) (by first | k_is | rfl) (by first | k_is | rfl) (by first | k_is | rfl) (by first | k_is | rfl) (by first | k_is | rfl) (by first | k_is | rfl) (by first | k_is | rfl) (by first | k_is | rfl) (by first | k_is | rfl) (by first | k_is | rfl) (by first | k_is | rfl) (by first | k_is | rfl) (by first | k_is | rfl) (by first | k_is | rfl) (by first | k_is | rfl) (by first | k_is | rfl) (by first | k_is | rfl) (by first | k_is | rfl) (by first | k_is | rfl) (by first | k_is | rfl) (by first | k_is | rfl) (by first | k_is | rfl) (by first | k_is | rfl) (by first | k_is | rfl) (by first | k_is | rfl) (by first | k_is | rfl) (by first | k_is | rfl) (by first | k_is | rfl) (by first | k_is | rfl) (by first | k_is | rfl) (by first | k_is | rfl) (by first | k_is | rfl) (by first | k_is | rfl) (by first | k_is | rfl) (by first | k_is | rfl) (by first | k_is | rfl) (by first | k_is | rfl) (by first | k_is | rfl) (by first | k_is | rfl) (by first | k_is | rfl) (by first | k_is | rfl) (by first | k_is | rfl) (by first | k_is | rfl) (by first | k_is | rfl) (by first | k_is | rfl) (by first | k_is | rfl) (by first | k_is | rfl) (by first | k_is | rfl) (by first | k_is | rfl) (by first | k_is | rfl) (by first | k_is | rfl) (by first | k_is | rfl) (by first | k_is | rfl) (by first | k_is | rfl) (by first | k_is | rfl) (by first | k_is | rfl) (by first | k_is | rfl) (by first | k_is | rfl) (by first | k_is | rfl) (by first | k_is | rfl) (by first | k_is | rfl) (by first | k_is | rfl) (by first | k_is | rfl) (by first | k_is | rfl) (by first | k_is | rfl) (by first | k_is | rfl) (by first | k_is | rfl) (by first | k_is | rfl) (by first | k_is | rfl) (by first | k_is | rfl) (by first | k_is | rfl) (by first | k_is | rfl) (by first | k_is | rfl) (by first | k_is | rfl) (by first | k_is | rfl) (by first | k_is | rfl) (by first | k_is | rfl) (by first | k_is | rfl) (by first | k_is | rfl) (by first | k_is | rfl) (by first | k_is | rfl) (by first | k_is | rfl) (by first | k_is | rfl) (by first | k_is | rfl) (by first | k_is | rfl) (by first | k_is | rfl) (by first | k_is | rfl) (by first | k_is | rfl) (by first | k_is | rfl) (by first | k_is | rfl) (by first | k_is | rfl) (by first | k_is | rfl) (by first | k_is | rfl) (by first | k_is | rfl) (by first | k_is | rfl) (by first | k_is | rfl) (by first | k_is | rfl) (by first | k_is | rfl) (by first | k_is | rfl) (by first | k_is | rfl) (by first | k_is | rfl) (by first | k_is | rfl) (by first | k_is | rfl) (by first | k_is | rfl) (by first | k_is | rfl) (by first | k_is | rfl) (by first | k_is | rfl) (by first | k_is | rfl) (by first | k_is | rfl) (by first | k_is | rfl) (by first | k_is | rfl) (by first | k_is | rfl) (by first | k_is | rfl) (by first | k_is | rfl) (by first | k_is | rfl) (by first | k_is | rfl) (by first | k_is | rfl) (by first | k_is | rfl) (by first | k_is | rfl) (by first | k_is | rfl) (by first | k_is | rfl) (by first | k_is | rfl) (by first | k_is | rfl) (by first | k_is | rfl) (by first | k_is | rfl) (by first | k_is | rfl) (by first | k_is | rfl) (by first | k_is | rfl) (by first | k_is | rfl) (by first | k_is | rfl) (by first | k_is | rfl) (by first | k_is | rfl) (by first | k_is | rfl) (by first | k_is | rfl) (by first | k_is | rfl) (by first | k_is | rfl) (by first | k_is | rfl) (by first | k_is | rfl) (by first | k_is | rfl) (by first | k_is | rfl) (by first | k_is | rfl) (by first | k_is | rfl) (by first | k_is | rfl) (by first | k_is | rfl) (by first | k_is | rfl) (by first | k_is | rfl) (by first | k_is | rfl) (by first | k_is | rfl) (by first | k_is | rfl) (by first | k_is | rfl) (by first | k_is | rfl) (by first | k_is | rfl) (by first | k_is | rfl) (by first | k_is | rfl) (by first | k_is | rfl) (by first | k_is | rfl) (by first | k_is | rfl) (by first | k_is | rfl) (by first | k_is | rfl) (by first | k_is | rfl) (by first | k_is | rfl) (by first | k_is | rfl) (by first | k_is | rfl) (by first | k_is | rfl) (by first | k_is | rfl) (by first | k_is | rfl) (by first | k_is | rfl) (by first | k_is | rfl) (by first | k_is | rfl) (by first | k_is | rfl) (by first | k_is | rfl) (by first | k_is | rfl) (by first | k_is | rfl) (by first | k_is | rfl) (by first | k_is | rfl) (by first | k_is | rfl) (by first | k_is | rfl) (by first | k_is | rfl) (by first | k_is | rfl) (by first | k_is | rfl) (by first | k_is | rfl) (by first | k_is | rfl) (by first | k_is | rfl) (by first | k_is | rfl) (by first | k_is | rfl) (by first | k_is | rfl) (by first | k_is | rfl) (by first | k_is | rfl) (by first | k_is | rfl) (by first | k_is | rfl) (by first | k_is | rfl) (by first | k_is | rfl) (by first | k_is | rfl) (by first | k_is | rfl) (by first | k_is | rfl) (by first | k_is | rfl) (by first | k_is | rfl) (by first | k_is | rfl) (by first | k_is | rfl) (by first | k_is | rfl) (by first | k_is | rfl) (by first | k_is | rfl) (by first | k_is | rfl) (by first | k_is | rfl) (by first | k_is | rfl) (by first | k_is | rfl) (by first | k_is | rfl) (by first | k_is | rfl) (by first | k_is | rfl) (by first | k_is | rfl) (by first | k_is | rfl) (by first | k_is | rfl) (by first | k_is | rfl) (by first | k_is | rfl) (by first | k_is | rfl) (by first | k_is | rfl) (by first | k_is | rfl) (by first | k_is | rfl) (by first | k_is | rfl) (by first | k_is | rfl) (by first | k_is | rfl) (by first | k_is | rfl) (by first | k_is | rfl) (by first | k_is | rfl) (by first | k_is | rfl) (by first | k_is | rfl) (by first | k_is | rfl) (by first | k_is | rfl) (by first | k_is | rfl) (by first | k_is | rfl) (by first | k_is | rfl) (by first | k_is | rfl) (by first | k_is | rfl) (by first | k_is | rfl) (by first | k_is | rfl) (by first | k_is | rfl) (by first | k_is | rfl) (by first | k_is | rfl) (by first | k_is | rfl) (by first | k_is | rfl) (by first | k_is | rfl) (by first | k_is | rfl) (by first | k_is | rfl) (by first | k_is | rfl) (by first | k_is | rfl) (by first | k_is | rfl) (by first | k_is | rfl) (by first | k_is | rfl) (by first | k_is | rfl) (by first | k_is | rfl) (by first | k_is | rfl) (by first | k_is | rfl) (by first | k_is | rfl) (by first | k_is | rfl) (by first | k_is | rfl) (by first | k_is | rfl) (by first | k_is | rfl) (by first | k_is | rfl) (by first | k_is | rfl) (by first | k_is | rfl) (by first | k_is | rfl) (by first | k_is | rfl) (by first | k_is | rfl) (by first | k_is | rfl) (by first | k_is | rfl) (by first | k_is | rfl) (by first | k_is | rfl) (by first | k_is | rfl) (by first | k_is | rfl)
  unfold K16.tab
  repeat first | refine⟨⟨_,_,_,_,_,_,_,_,_,_,by k_is,by k_is,by k_is,by k_is⟩,?_⟩ | refine⟨⟨_,_,_,_,_,_,_,_,_,_,_,by k_is,by k_is,by k_is,by k_is,by k_is,by k_is⟩,?_⟩
  exact trivial
