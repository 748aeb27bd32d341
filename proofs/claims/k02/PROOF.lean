import PyProof.Rows.All
import Wide.All
import OpenK.AllK
import Wide.FinOn
import Lean
import PyProof.EqAt
import PyProof.EqKinds
import PyProof.TupleCall
import PyProof.DictUpdate
import KE.KDictOf
import PyProof.AttrMissHeap
import KE.KSortTup
import KE.KItemsList
import PyProof.DictWalks
import PyProof.Rows.TupDisplay
import KE.KEqDict
import PyProof.NeKinds
import KE.KRevIter
import PyProof.ListRange
import KE.KDictSum
import PyProof.MeetsStr
import PyProof.StrLawsJoin
import PyProof.FitsInt
import PyProof.ZipIter
import PySem.Challenge.RW_viewwood_k02_alike
theorem dI {p q:Prop}{g:Prop}(h:p/\q)(k:p->q->g):g:=by obtain⟨x0,x1⟩:=h;exact k x0 x1
theorem el03 {p q r:Prop}{g:Prop}(h:p/\q/\r)(k:p->q->r->g):g:=by obtain⟨x0,x1,x2⟩:=h;exact k x0 x1 x2
theorem el04 {p q r s:Prop}{g:Prop}(h:p/\q/\r/\s)(k:p->q->r->s->g):g:=by obtain⟨x0,x1,x2,x3⟩:=h;exact k x0 x1 x2 x3
theorem el05 {p q r s t:Prop}{g:Prop}(h:p/\q/\r/\s/\t)(k:p->q->r->s->t->g):g:=by obtain⟨x0,x1,x2,x3,x4⟩:=h;exact k x0 x1 x2 x3 x4
theorem el11 {A:Sort _}{p:A->Prop}{g:Prop}(h:∃a,p a)(k:∀a,p a->g):g:=by obtain⟨a,x0⟩:=h;exact k a x0
theorem hZ {A:Sort _}{p q:A->Prop}{g:Prop}(h:∃a,p a/\q a)(k:∀a,p a->q a->g):g:=by obtain⟨a,x0,x1⟩:=h;exact k a x0 x1
theorem sU {A:Sort _}{p q r:A->Prop}{g:Prop}(h:∃a,p a/\q a/\r a)(k:∀a,p a->q a->r a->g):g:=by obtain⟨a,x0,x1,x2⟩:=h;exact k a x0 x1 x2
theorem el14 {A:Sort _}{p q r s:A->Prop}{g:Prop}(h:∃a,p a/\q a/\r a/\s a)(k:∀a,p a->q a->r a->s a->g):g:=by obtain⟨a,x0,x1,x2,x3⟩:=h;exact k a x0 x1 x2 x3
theorem el21 {A:Sort _}{B:Sort _}{p:A->B->Prop}{g:Prop}(h:∃a b,p a b)(k:∀a b,p a b->g):g:=by obtain⟨a,b,x0⟩:=h;exact k a b x0
theorem el22 {A:Sort _}{B:Sort _}{p q:A->B->Prop}{g:Prop}(h:∃a b,p a b/\q a b)(k:∀a b,p a b->q a b->g):g:=by obtain⟨a,b,x0,x1⟩:=h;exact k a b x0 x1
theorem sP {A:Sort _}{B:Sort _}{p q r:A->B->Prop}{g:Prop}(h:∃a b,p a b/\q a b/\r a b)(k:∀a b,p a b->q a b->r a b->g):g:=by obtain⟨a,b,x0,x1,x2⟩:=h;exact k a b x0 x1 x2
theorem el24 {A:Sort _}{B:Sort _}{p q r s:A->B->Prop}{g:Prop}(h:∃a b,p a b/\q a b/\r a b/\s a b)(k:∀a b,p a b->q a b->r a b->s a b->g):g:=by obtain⟨a,b,x0,x1,x2,x3⟩:=h;exact k a b x0 x1 x2 x3
theorem el25 {A:Sort _}{B:Sort _}{p q r s t:A->B->Prop}{g:Prop}(h:∃a b,p a b/\q a b/\r a b/\s a b/\t a b)(k:∀a b,p a b->q a b->r a b->s a b->t a b->g):g:=by obtain⟨a,b,x0,x1,x2,x3,x4⟩:=h;exact k a b x0 x1 x2 x3 x4
theorem el32 {A:Sort _}{B:Sort _}{C:Sort _}{p q:A->B->C->Prop}{g:Prop}(h:∃a b c,p a b c/\q a b c)(k:∀a b c,p a b c->q a b c->g):g:=by obtain⟨a,b,c,x0,x1⟩:=h;exact k a b c x0 x1
theorem el33 {A:Sort _}{B:Sort _}{C:Sort _}{p q r:A->B->C->Prop}{g:Prop}(h:∃a b c,p a b c/\q a b c/\r a b c)(k:∀a b c,p a b c->q a b c->r a b c->g):g:=by obtain⟨a,b,c,x0,x1,x2⟩:=h;exact k a b c x0 x1 x2
theorem qX {A:Sort _}{B:Sort _}{C:Sort _}{p q r s:A->B->C->Prop}{g:Prop}(h:∃a b c,p a b c/\q a b c/\r a b c/\s a b c)(k:∀a b c,p a b c->q a b c->r a b c->s a b c->g):g:=by obtain⟨a,b,c,x0,x1,x2,x3⟩:=h;exact k a b c x0 x1 x2 x3
theorem el45 {A:Sort _}{B:Sort _}{C:Sort _}{D:Sort _}{p q r s t:A->B->C->D->Prop}{g:Prop}(h:∃a b c d,p a b c d/\q a b c d/\r a b c d/\s a b c d/\t a b c d)(k:∀a b c d,p a b c d->q a b c d->r a b c d->s a b c d->t a b c d->g):g:=by obtain⟨a,b,c,d,x0,x1,x2,x3,x4⟩:=h;exact k a b c d x0 x1 x2 x3 x4
theorem el46 {A:Sort _}{B:Sort _}{C:Sort _}{D:Sort _}{p q r s t o:A->B->C->D->Prop}{g:Prop}(h:∃a b c d,p a b c d/\q a b c d/\r a b c d/\s a b c d/\t a b c d/\o a b c d)(k:∀a b c d,p a b c d->q a b c d->r a b c d->s a b c d->t a b c d->o a b c d->g):g:=by obtain⟨a,b,c,d,x0,x1,x2,x3,x4,x5⟩:=h;exact k a b c d x0 x1 x2 x3 x4 x5
theorem el53 {A:Sort _}{B:Sort _}{C:Sort _}{D:Sort _}{E:Sort _}{p q r:A->B->C->D->E->Prop}{g:Prop}(h:∃a b c d e,p a b c d e/\q a b c d e/\r a b c d e)(k:∀a b c d e,p a b c d e->q a b c d e->r a b c d e->g):g:=by obtain⟨a,b,c,d,e,x0,x1,x2⟩:=h;exact k a b c d e x0 x1 x2
set_option Elab.async false
set_option linter.all false
set_option maxRecDepth 100000
set_option maxHeartbeats 4000000
theorem zS0(n:Nat)(h:n.ble 99=true):n<=PySem.sizeLine:=Nat.le_trans (Nat.le_of_ble_eq_true h) (by decide)
abbrev AA:=@PySem.wpAny_bind
abbrev AB:=@PySem.wpAny_pure
abbrev AC:=@PySem.Heap.get?_push_of_some
abbrev AD:=@List.length_map
abbrev AE:=@List.mem_of_getElem?
abbrev AF:=@PySem.Heap.lt_size
abbrev AG:=@Nat.le_refl
abbrev AH:=@List.getElem?_eq_getElem
abbrev AI:=@List.getElem?_eq_some_iff
abbrev AJ:=@Bool.false_ne_true
abbrev AK:=@PySem.Heap.get?_push_size
abbrev AL:=@List.getElem?_map
abbrev AM:=@List.length_append
abbrev AN:=@List.size_toArray
abbrev AO:=@List.mem_cons_of_mem
abbrev AQ:=@List.mem_cons_self
abbrev AR:=@decide_eq_false
abbrev AS:=@List.mem_append
abbrev AU:=@Array.getElem?_eq_getElem
abbrev AV:=@Nat.lt_of_lt_of_le
abbrev AW:=@List.mem_singleton
abbrev AX:=@Nat.le_trans
abbrev AY:=@Nat.le_succ_of_le
abbrev AZ:=@List.mem_iff_getElem?
abbrev Aa:=@List.map_cons
abbrev Ab:=@PySem.wpAny_field
abbrev Ac:=@PySem.wpAny_ite_split
abbrev Ae:=@List.mem_map
abbrev Af:=@PySem.wpAny_holding
abbrev Ag:=@PySem.wpAny_seqItems
abbrev Ah:=@PySem.wpAny_call_entry
abbrev Ai:=@List.length_cons
abbrev Aj:=@List.mem_append_right
abbrev Ak:=@List.length_singleton
abbrev Am:=@PySem.Heap.get?_update_self
abbrev An:=@PySem.Heap.SameBut.update
abbrev Ao:=@Option.some.inj
abbrev Ap:=@List.map_append
abbrev Aq:=@Nat.lt_of_le_of_lt
abbrev Ar:=@PySem.wpAny_callSpecial?_slot
abbrev As:=@PySem.wpAny_specialOf
abbrev Au:=@PySem.W.mg_none_of
abbrev Av:=@if_neg
abbrev Aw:=@decide_eq_true
abbrev Ax:=@List.mem_cons
abbrev Ay:=@Nat.ne_of_gt
abbrev Az:=@List.eraseIdx_cons_succ
abbrev A0:=@Nat.zero_le
abbrev A1:=@Array.length_toList
abbrev A2:=@List.drop_eq_getElem_cons
abbrev A3:=@PySem.wpAny_setField_rec
abbrev A4:=@if_pos
abbrev A5:=@Nat.ne_of_lt
abbrev A6:=@of_decide_eq_true
abbrev A7:=@PySem.wpAny_rule
abbrev A8:=@List.getElem?_append_right
abbrev A9:=@PySem.W.kia_tup
abbrev BA:=@PySem.W.kia_one
abbrev BB:=@PySem.wpAny_forIn_list
abbrev BC:=@Nat.le_of_lt
abbrev BD:=@PySem.wpAny_truthy_bool
abbrev BE:=@List.nodup_cons
abbrev BF:=@Nat.lt_irrefl
abbrev BG:=@Nat.add_zero
abbrev BH:=@PySem.Heap.get?_update_other
abbrev BI:=@List.length_reverse
abbrev BJ:=@Bool.eq_iff_iff
abbrev BK:=@PySem.wpAny_callSpecialIfBoundUnlessNone?_slot
abbrev BL:=@PySem.wpAny_isInstance
abbrev BM:=@Array.forIn_toList
abbrev BN:=@Nat.le_of_eq
abbrev BO:=@List.mem_append_left
abbrev BP:=@List.getElem?_set_ne
abbrev BQ:=@PySem.wpAny_dictEntries
abbrev BR:=@PySem.F.plainAttrs_list
abbrev BS:=@List.reverse_cons
abbrev BU:=@List.length_range
abbrev BV:=@List.eraseIdx_cons_zero
abbrev BW:=@PySem.F.slot_tuple_hash
abbrev BX:=@PySem.wpAny_dictEpoch
abbrev BY:=@PySem.F.slot_dict_keyiterator_next
abbrev BZ:=@Option.map_eq_some_iff
abbrev Ba:=@Nat.le_add_right
abbrev Bb:=@List.length_take
abbrev Bc:=@Bool.and_eq_true
abbrev Bd:=@PySem.wpAny_mono
abbrev Be:=@PySem.isSubtype_tuple_tuple
abbrev Bf:=@List.length_replicate
abbrev Bg:=@Array.getElem?_toList
abbrev Bh:=@PySem.wpAny_updateSeq
abbrev Bi:=@List.length_nil
abbrev Bj:=@PySem.F.slot_zip_next
abbrev Bk:=@PySem.F.slot_tuple_eq
abbrev Bl:=@Nat.succ.inj
abbrev Bm:=@List.mem_of_mem_take
abbrev Bn:=@List.mem_of_mem_drop
abbrev Bo:=@List.map_map
abbrev Bp:=@List.getElem?_inj
abbrev Bq:=@congrArg
abbrev Br:=@List.length_drop
abbrev Bs:=@List.filter_cons_of_pos
abbrev Bt:=@List.filter_cons_of_neg
abbrev Bu:=@PySem.wpAny_typeNameOfWhole_keyiter
abbrev Bv:=@PySem.wpAny_tupleItemsOf
abbrev Bw:=@decide_eq_true_iff
abbrev Bx:=@List.map_nil
abbrev By:=@PySem.wpAny_passesOwn
abbrev Bz:=@List.getElem?_eq_none
abbrev B0:=@PySem.wpAny_newObj_type
abbrev B1:=@PySem.eqIsQuiet_byValue
abbrev B2:=@PySem.W.kitx_dict
abbrev B3:=@Nat.lt_of_succ_lt
abbrev B4:=@Int.toNat_natCast
abbrev B5:=@PySem.wpAny_letGo
abbrev B6:=@PySem.F.slot_NoneType_hash
abbrev B7:=@List.getD_eq_getElem?_getD
abbrev B8:=@PySem.Heap.size_push
abbrev B9:=@PySem.F.slot_tuple_iterator_next
abbrev CC:=@Nat.lt_succ_self
abbrev CD:=@PySem.F.entry_extend_loop
abbrev CJ:=@List.mem_or_eq_of_mem_set
abbrev CK:=@List.getElem?_append_left
abbrev CM:=@PySem.mem_of_lookup
abbrev CN:=@PySem.wpAny_typeNameOf_keyiter
abbrev CP:=@List.mem_filter
abbrev CQ:=@List.map_singleton
abbrev CU:=@PySem.wpAny_getItem_str_slice
abbrev CV:=@PySem.wpAny_nextOf_list_item
abbrev CY:=@PySem.F.slot_bool_hash
abbrev CZ:=@List.nodup_append
abbrev Ca:=@List.mem_range
abbrev Cb:=@Array.getElem?_eq_none
abbrev Cc:=@List.take_append_drop
abbrev Cd:=@List.mem_reverse
abbrev Ce:=@List.map_reverse
abbrev Cf:=@PySem.wpAny_onRaise
abbrev Cg:=@PySem.wpAny_attempt
abbrev Ci:=@PySem.wpAny_updateSeq_pair
abbrev Cj:=@PySem.lookup_relabel_local
abbrev Ck:=@List.nil_append
abbrev Cm:=@List.length_set
abbrev Cn:=@List.append_nil
abbrev Co:=@PyProof.Rows.callWith_type1
abbrev Cp:=@PySem.wpAny_pyIter_tuple
abbrev Cq:=@of_decide_eq_false
abbrev Cr:=@Int.emod_lt_of_pos
abbrev Cs:=@PySem.wpAny_pyIter_list
abbrev Ct:=@PySem.W.kitx_list
abbrev Cu:=@List.ext_getElem?
abbrev Cv:=@List.eraseIdx_nil
abbrev Cw:=@List.append_assoc
abbrev Cy:=@PySem.F.args_zip_next_1
abbrev Cz:=@PySem.F.args_tuple_add_2
abbrev DA:=@List.all_cons
abbrev DB:=@PySem.F.entry_tuple_add
abbrev DC:=@List.take_length
abbrev DD:=@List.getElem_mem
abbrev DE:=@List.drop_length
abbrev DF:=@List.all_eq_true
abbrev DG:=@PySem.F.entry_zip_next
abbrev DH:=@PySem.call_meets
abbrev DI:=@PySem.F.slot_tuple_add
abbrev DJ:=@PySem.Calls.callWith_builtin
abbrev DK:=@PySem.wpAny_ret_mkInt
abbrev DL:=@PySem.wpAny_execs_nil
abbrev DM:=@PySem.post_val_or_str
abbrev DN:=@PySem.codeAny_builtin
abbrev DO:=@Nat.not_lt_zero
abbrev DP:=@Int.emod_nonneg
abbrev DQ:=@PySem.wpAny_notOrdered_dict
abbrev DR:=@List.eraseIdx_sublist
abbrev DS:=@PySem.wpAny_setField
abbrev DT:=@PySem.wpAny_newTuple
abbrev DU:=@PySem.SeqAt.EqAt.bool_bool
abbrev DV:=@List.take_succ
abbrev DW:=@List.drop_zero
abbrev DX:=@Array.mem_toList_iff
abbrev DY:=PySem.W.Frag
namespace PySem
open Sem (wp)
section
variable {prog:Program}{w:World}{K:Type}[DecidableEq K](knd:KeyKind prog w K)
inductive ItemsTup (h:Heap):List (List K)->List Value->Prop
 |nil:ItemsTup h [] []
 |cons {k:List K} {b:Addr} {kss:List (List K)} {vs:List Value}:IsTupleKey knd h k b->ItemsTup h kss vs->ItemsTup h (k::kss) (.ref b::vs)
def IsPathKey (h:Heap)(kss:List (List K))(a:Addr):Prop:=∃o items n,h.get? a=some o/\o.cls=.type "tuple"/\o.data=.seq items n/\ItemsTup knd h kss items.toList
variable {knd}
theorem ItemsTup.inj    (hx:ItemsTup knd h x vs)(hy:ItemsTup knd h y vs):x=y:=by
 induction hx generalizing y with
 |nil=>(cases hy; rfl)
 |cons h1 _ ih=>cases hy with | cons h2 t2=>rw[h1.inj h2,ih t2]
theorem ItemsTup.keeps        (hx:ItemsTup knd h x vs)(ho:h.get? d=some o)(hd:o.data=.dict es ep)(hs:Heap.SameBut d h h'):ItemsTup knd h' x vs:=by
 induction hx with
 |nil=>exact .nil
 |cons h1 _ ih=>exact .cons (h1.keeps ho hd hs) ih
theorem IsPathKey.typeIs {s:Shared}   (x:IsPathKey knd s.heap kss a):s.TypeIs (.ref a) "tuple" :=el33 x fun o _ _ e c _=>⟨o,e,c⟩
theorem IsPathKey.inj    (hx:IsPathKey knd h x a)(hy:IsPathKey knd h y a):x=y:=by
 refine qX hx fun o its n e1 _ e2 e3=>qX hy fun o' its' n' f1 _ f2 f3=>?_;cases e1.symm.trans f1;cases e2.symm.trans f2;exact e3.inj f3
theorem IsPathKey.keeps       (x:IsPathKey knd h kss a)(ho:h.get? d=some o)(hd:o.data=.dict es ep)(hs:Heap.SameBut d h h'):IsPathKey knd h' kss a:=by
 refine qX x fun o' its n e1 e2 e3 e4=>?_;have hne:a≠d :=by lia
 exact⟨o',its,n,(hs.2 a hne).trans e1,e2,e3,e4.keeps ho hd hs⟩
def wJ (knd:KeyKind prog w K)(kss:List (List K)):Int:=reduceHash (Builtin.Tuple.tupleHashOf (kss.map (tupleKeyHash knd)))
def hJ (kss:List (List K)):Nat:=(kss.map fun k=>k.length+1).sum+1
variable {A:Around}{E:Value->Shared->Prop}{s:Shared}
theorem tJ    (hu:A.units+1 < cLine)(hk:IsPathKey knd s.heap kss a)(h:Q (wJ knd kss) { s with toks:=s.toks+hJ kss }):
  wpAny (model prog w) A (pyHash (.ref a)) Q E s:=by
 have hT:=hk.typeIs;obtain⟨o,items,n,ho,_,hd,hi⟩:=hk
 (first | delta pyHashByItsType | skip)
 (first | refine AA (wpAny_cRoomFor_or (.inr (B3 hu)) ?_) | skip)
 refine AA (As (by exact hT) BW.lookup (?_));refine AA (As (by exact hT) BW.lookup (?_));refine AA (BK (by exact hT) BW (Ah BW (by exact hT) F.entry_tuple_hash (?_) (F.args_tuple_hash_1 _)));show wpAny _ _ (Builtin.Tuple.tupleItemsOf (.ref a) >>= (_)) _ _ s
 (refine AA (Bv ho hd (AA ?_)); rw[<- BM])
 refine BB _ (fun lQ b s'=>∃done left,kss=done++left/\ItemsTup knd s.heap left lQ/\b.toList=done.map (tupleKeyHash knd)/\s'={ s with toks:=s.toks+(done.map fun k=>k.length+1).sum }) _ ?_ ?_ _ _ ⟨[],kss,rfl,hi,rfl,rfl⟩
 .rintro x lQ b s' ⟨done,left,rfl,hl,hb,rfl⟩
  cases hl with
  |@cons k b' ks' _ h1 hl' =>
   refine AA (wpAny_pyHash_tuple hu h1 ?_)
   first
    |exact AB ⟨done++[k],ks',by simp,hl',by simp[hb],by simp[Nat.add_assoc]⟩
    |exact AA (AB (AB ⟨done++[k],ks',by simp,hl',by simp[hb],by simp[Nat.add_assoc]⟩))
 .rintro b s' ⟨done,left,rfl,hl,hb,rfl⟩
  cases hl;rw[Cn] at h
  (show wpAny _ _ (retInt (Builtin.Tuple.tupleHashOf b.toList)) _ _ _; rw[hb]; apply DK)
  delta wJ reduceHash hJ at h
  generalize Builtin.Tuple.tupleHashOf (done.map (tupleKeyHash knd))=hh at h ⊢;show wpAny _ _ (if (decide (-(2:Int) ^ 63<=hh)&&decide (hh < 2 ^ 63))=true then _ else _) Q E _
  by_cases hr:(decide (-(2:Int) ^ 63<=hh)&&decide (hh < 2 ^ 63))=true
  ·(rw[A4 hr]; rw[A4 hr] at h)
   exact AB (by lia)
  ·(rw[Av hr]; rw[Av hr] at h)
   exact AA (A7 (AB (by simpa [Nat.add_assoc] using h)))
theorem lF    (hu:A.units < cLine)(hx:IsPathKey knd s.heap x a)(hy:IsPathKey knd s.heap y b)(h:P (.done (.ret (.bool (decide (x=y))))) s):
  wpAny (model prog w) A (Builtin.«tuple.__eq__» ⟨[.ref a,.ref b],[]⟩) P E s:=by
 refine qX hx fun oa xs na hoa _ hda hia=>qX hy fun ob ys nb hob _ hdb hib=>?_
 (show wpAny _ _ (isInstance (.ref b) (.type "tuple") >>= _) _ _ s; refine AA (BL hy.typeIs Be ?_))
 (refine AA (Bv hoa hda (AA (Bv hob hdb (AA ?_)))))
 refine BB _ (fun lQ r s'=>r.1=none/\s'=s/\∃x' y' xs' ys',lQ=List.zip xs' ys'/\ItemsTup knd s.heap x' xs'/\ItemsTup knd s.heap y' ys'/\decide (x'=y')=decide (x=y)/\(xs'.length==ys'.length)=(xs.size==ys.size)) _ ?_ ?_ _ _ ⟨rfl,rfl,x,y,xs.toList,ys.toList,rfl,hia,hib,rfl,by simp⟩
 .rintro ⟨u,v⟩ lQ r s' ⟨hr,rfl,x',y',xs',ys',hz,hx',hy',hdec,hlen⟩
  cases hx' with
  |nil=>simp at hz
  |@cons k1 b1 x'' xs'' h1 hx'' =>
   cases hy' with
   |nil=>simp at hz
   |@cons k2 b2 y'' ys'' h2 hy'' =>
    (obtain⟨⟨rfl,rfl⟩,rfl⟩:=hz)
    refine AA (wpAny_eqBool_tuple hu h1 h2 ?_)
    by_cases hk:k1=k2
    .subst hk
     (simp only[ Bool.false_eq_true])
     refine AB ⟨rfl,rfl,x'',y'',xs'',ys'',rfl,hx'',hy'',?_,by simpa using hlen⟩;rw[<- hdec]
     (by_cases hxy:x''=y''<;>simp[hxy])
    ·(rw[AR hk]; simp only[ if_true])
     have hf:decide (x=y)=false :=by lia
     rw[hf] at h;exact AA (AB (AB (AB h)))
 .rintro ⟨r1,r2⟩ s' ⟨hr,rfl,x',y',xs',ys',hz,hx',hy',hdec,hlen⟩
  (subst hr; apply AB)
  have hfin:(xs.size==ys.size)=decide (x=y):=by
   rw[<- hdec,<- hlen]
   cases hx' with
   |nil=>(cases hy' with | nil=>simp | cons _ _=>simp)
   |cons _ _=>(cases hy' with | nil=>simp | cons _ _=>simp at hz)
  (show P (.done (.ret (.bool (xs.size==ys.size)))) s'; rwa [hfin])
theorem eJ    (hu:A.units+1 < cLine)(hx:IsPathKey knd s.heap x a)(hy:IsPathKey knd s.heap y b)(h:Q (decide (x=y)) s):
  wpAny (model prog w) A (eqBool (.ref a) (.ref b)) Q E s:=by
 (delta eqBool; try with_reducible refine Af ?_)
 by_cases hab:(Value.ref a==Value.ref b)=true
 .rw [A4 hab]
  have e:a=b :=by lia
  subst e;obtain rfl:=hx.inj hy;exact AA (A7 (AB (by lia)))
 .exact (Av hab)▸AA (wpAny_richCompare_same_room hx.typeIs hy.typeIs Bk (Ah Bk hx.typeIs F.entry_tuple_eq (lF hu hx hy ⟨_,rfl,(fun e=>nomatch e),BD h⟩) (F.args_tuple_eq_2 _ _)) (B3 hu))
theorem xV n    (hk:IsTupleKey knd s.heap ks a)(h:Q true s):wpAny (model prog w) A (eqIsQuiet (n+1) (.ref a)) Q E s:=by
 have hT:=hk.typeIs;refine qX hk fun o items m ho _ hd hi=>?_
 (unfold eqIsQuiet; refine AA (As hT Bk.lookup ?_))
 (refine AA (BL hT Be ?_))
 (refine AA (Ag ho hd (AA ?_)))
 (rw[<- BM])
 refine BB _ (fun lQ r s'=>r.1=none/\s'=s/\∀v∈lQ,carriedByValue v=true) _ ?_ ?_ _ _ ⟨rfl,rfl,hi.byValue⟩
 .rintro v lQ r s' ⟨hr,rfl,hall⟩
  (rw[B1 _ (hall v AQ)]; refine AA (AB ?_))
  (exact AB ⟨rfl,rfl,fun u hu'=>hall u (AO _ hu')⟩)
 .rintro ⟨r1,r2⟩ s' ⟨hr,rfl,_⟩
  (subst hr; exact AB h)
theorem oH    (hk:IsPathKey knd s.heap kss a)(h:Q true s):wpAny (model prog w) A (eqIsQuiet 8 (.ref a)) Q E s:=by
 have hT:=hk.typeIs;obtain⟨o,items,m,ho,_,hd,hi⟩:=hk
 (unfold eqIsQuiet; refine AA (As hT Bk.lookup ?_))
 (refine AA (BL hT Be ?_))
 (refine AA (Ag ho hd (AA ?_)))
 (rw[<- BM])
 refine BB _ (fun lQ r s'=>r.1=none/\s'=s/\∃x',ItemsTup knd s.heap x' lQ) _ ?_ ?_ _ _ ⟨rfl,rfl,_,hi⟩
 .rintro v lQ r s' ⟨hr,rfl,x',hall⟩
  cases hall with
  |cons h1 h2 =>
   refine AA (xV 6 h1 ?_)
   (exact AB ⟨rfl,rfl,_,h2⟩)
 .rintro ⟨r1,r2⟩ s' ⟨hr,rfl,_⟩
  (subst hr; exact AB h)
end
def jA    [DecidableEq K](knd:KeyKind prog w K):HeapKind prog w (List (List K)) where
 is:=IsPathKey knd
 hash:=wJ knd
 draws:=hJ
 room:=fun A=>A.units+1 < cLine
 inj:=fun hx hy=>hx.inj hy
 keeps:=fun x ho hd hs=>x.keeps ho hd hs
 pyHash:=fun hu hk h=>tJ hu hk h
 eqBool:=fun hu hx hy h=>eJ hu hx hy h
 quiet:=fun hk h=>oH hk h
section
variable {prog:Program}{w:World}{K:Type}[DecidableEq K](knd:KeyKind prog w K)
def IsPairKey (h:Heap)(k:List (List K)×K)(a:Addr):Prop:=∃o items n p v,h.get? a=some o/\o.cls=.type "tuple"/\o.data=.seq items n/\items.toList=[.ref p,v]/\IsPathKey knd h k.1 p/\knd.is k.2 v=true
variable {knd}
theorem IsPairKey.typeIs {s:Shared}(x:IsPairKey knd s.heap k a):s.TypeIs (.ref a) "tuple" :=el53 x fun o _ _ _ _ e c _=>⟨o,e,c⟩
theorem IsPairKey.inj (hx:IsPairKey knd h x a)(hy:IsPairKey knd h y a):x=y:=by
 obtain⟨o,its,n,p,v,e1,_,e2,e3,e4,e5⟩:=hx;obtain⟨o',its',n',p',v',f1,_,f2,f3,f4,f5⟩:=hy;cases e1.symm.trans f1;cases e2.symm.trans f2;cases e3.symm.trans f3;exact Prod.ext (e4.inj f4) (knd.inj v _ _ e5 f5)
theorem IsPairKey.keeps (x:IsPairKey knd h k a)(ho:h.get? d=some o)(hd:o.data=.dict es ep)(hs:Heap.SameBut d h h'):IsPairKey knd h' k a:=by
 obtain⟨o',its,n,p,v,e1,e2,e3,e4,e5,e6⟩:=x;have hne:a≠d:=fun z=>by subst z; rw[e1] at ho; cases ho; rw[e3] at hd; cases hd
 exact⟨o',its,n,p,v,(hs.2 a hne).trans e1,e2,e3,e4,e5.keeps ho hd hs,e6⟩
def vU (knd:KeyKind prog w K)(k:List (List K)×K):Int:=reduceHash (Builtin.Tuple.tupleHashOf [wJ knd k.1,knd.hash k.2])
def wY (k:List (List K)×K):Nat:=hJ k.1+1+1
variable {A:Around}{E:Value->Shared->Prop}{s:Shared}
theorem gW (hu:A.units+2 < cLine)(hk:IsPairKey knd s.heap k a)(h:Q (vU knd k) { s with toks:=s.toks+wY k }):
  wpAny (model prog w) A (pyHash (.ref a)) Q E s:=by
 have hT:=hk.typeIs;obtain⟨o,items,n,p,v,ho,_,hd,hi,hp,hv⟩:=hk
 (first | delta pyHashByItsType | skip)
 (first | refine AA (wpAny_cRoomFor_or (.inr (B3 (B3 hu))) ?_) | skip)
 refine AA (As (by exact hT) BW.lookup (?_));refine AA (As (by exact hT) BW.lookup (?_));refine AA (BK (by exact hT) BW (Ah BW (by exact hT) F.entry_tuple_hash (?_) (F.args_tuple_hash_1 _)));show wpAny _ _ (Builtin.Tuple.tupleItemsOf (.ref a) >>= (_)) _ _ s
 (refine AA (Bv ho hd (AA ?_)); rw[<- BM,hi])
 refine BB _ (fun lQ b s'=>(lQ=[.ref p,v]/\b.toList=[]/\s'=s)\/(lQ=[v]/\b.toList=[wJ knd k.1]/\s'={ s with toks:=s.toks+hJ k.1 })\/(lQ=[]/\b.toList=[wJ knd k.1,knd.hash k.2]/\s'={ s with toks:=s.toks+hJ k.1+1 })) _ ?_ ?_ _ _ (.inl ⟨rfl,rfl,rfl⟩)
 .rintro x lQ b s' (⟨e1,hb,rfl⟩ | ⟨e1,hb,rfl⟩ | ⟨e1,hb,rfl⟩)
  .obtain ⟨rfl,rfl⟩:=List.cons.inj e1
   refine AA (tJ hu hp ?_)
   first
    |exact AB (.inr (.inl ⟨rfl,by simp[hb],rfl⟩))
    |exact AA (AB (AB (.inr (.inl ⟨rfl,by simp[hb],rfl⟩))))
  .obtain ⟨rfl,rfl⟩:=List.cons.inj e1
   refine AA (knd.pyHash hv ?_)
   first
    |exact AB (.inr (.inr ⟨rfl,by simp[hb],rfl⟩))
    |exact AA (AB (AB (.inr (.inr ⟨rfl,by simp[hb],rfl⟩))))
  .cases e1
 .rintro b s' (⟨e1,hb,rfl⟩ | ⟨e1,hb,rfl⟩ | ⟨e1,hb,rfl⟩)
  .cases e1
  .cases e1
  (show wpAny _ _ (retInt (Builtin.Tuple.tupleHashOf b.toList)) _ _ _; rw[hb]; apply DK)
  delta vU reduceHash wY at h
  generalize Builtin.Tuple.tupleHashOf [wJ knd k.1,knd.hash k.2]=hh at h ⊢;show wpAny _ _ (if (decide (-(2:Int) ^ 63<=hh)&&decide (hh < 2 ^ 63))=true then _ else _) Q E _
  by_cases hr:(decide (-(2:Int) ^ 63<=hh)&&decide (hh < 2 ^ 63))=true
  ·(rw[A4 hr]; rw[A4 hr] at h)
   exact AB (by lia)
  ·(rw[Av hr]; rw[Av hr] at h)
   exact AA (A7 (AB (by simpa [Nat.add_assoc] using h)))
theorem nF (hu:A.units+1 < cLine)(hx:IsPairKey knd s.heap x a)(hy:IsPairKey knd s.heap y b)(h:P (.done (.ret (.bool (decide (x=y))))) s):
  wpAny (model prog w) A (Builtin.«tuple.__eq__» ⟨[.ref a,.ref b],[]⟩) P E s:=by
 have hT:=hy.typeIs;obtain⟨oa,xs,na,p,v,hoa,_,hda,hia,hpa,hva⟩:=hx;obtain⟨ob,ys,nb,p',v',hob,_,hdb,hib,hpb,hvb⟩:=hy
 (show wpAny _ _ (isInstance (.ref b) (.type "tuple") >>= _) _ _ s; refine AA (BL hT Be ?_))
 (refine AA (Bv hoa hda (AA (Bv hob hdb (AA ?_)))))
 have hfin:(xs.size==ys.size)=true:=by
  rw[<- A1,<- A1,hia,hib]; rfl
 have ex:∀{q:Bool},decide (x.1=y.1)=q->∀{r:Bool},decide (x.2=y.2)=r->decide (x=y)=(q&&r) :=by lia
 rw[hia,hib];refine BB _ (fun lQ r s'=>r.1=none/\s'=s/\(lQ=[(.ref p,.ref p'),(v,v')]\/(lQ=[(v,v')]/\decide (x.1=y.1)=true)\/(lQ=[]/\decide (x=y)=true))) _ ?_ ?_ _ _ ⟨rfl,rfl,.inl rfl⟩
 .rintro ⟨u1,u2⟩ lQ r s' ⟨hr,rfl,(e | ⟨e,hd⟩ | ⟨e,_⟩)⟩
  .cases e
   refine AA (eJ hu hpa hpb ?_)
   by_cases hk:x.1=y.1
   .rw [Aw hk]
    (simp only[ Bool.false_eq_true])
    exact AB (by simp[hk])
   ·(rw[AR hk]; simp only[ if_true])
    have hf:=ex (AR hk) rfl;rw[hf] at h;exact AA (AB (AB (AB h)))
  .cases e
   refine AA (knd.eqBool hva hvb ?_)
   by_cases hk:x.2=y.2
   .rw [Aw hk]
    (simp only[ Bool.false_eq_true])
    exact AB (by lia)
   ·(rw[AR hk]; simp only[ if_true])
    rw[(ex hd (AR hk))] at h;exact AA (AB (AB (AB h)))
  .cases e
 .rintro ⟨r1,r2⟩ s' ⟨hr,rfl,(e | ⟨e,hd⟩ | ⟨_,hd⟩)⟩
  .cases e
  .cases e
  (subst hr; apply AB)
  rw[hd] at h
  (show P (.done (.ret (.bool (xs.size==ys.size)))) s'; rwa [hfin])
theorem bW (hu:A.units+2 < cLine)(hx:IsPairKey knd s.heap x a)(hy:IsPairKey knd s.heap y b)(h:Q (decide (x=y)) s):
  wpAny (model prog w) A (eqBool (.ref a) (.ref b)) Q E s:=by
 (delta eqBool; try with_reducible refine Af ?_)
 by_cases hab:(Value.ref a==Value.ref b)=true
 .rw [A4 hab]
  have e:a=b:=by lia
  subst e;obtain rfl:=hx.inj hy;exact AA (A7 (AB (by lia)))
 .exact (Av hab)▸AA (wpAny_richCompare_same_room hx.typeIs hy.typeIs Bk (Ah Bk hx.typeIs F.entry_tuple_eq (nF hu hx hy ⟨_,rfl,(fun e=>nomatch e),BD h⟩) (F.args_tuple_eq_2 _ _)) (B3 (B3 hu)))
theorem xP (n)(hk:IsPathKey knd s.heap kss a)(h:Q true s):wpAny (model prog w) A (eqIsQuiet (n+2) (.ref a)) Q E s:=by
 have hT:=hk.typeIs;refine qX hk fun o items m ho _ hd hi=>?_
 (unfold eqIsQuiet; refine AA (As hT Bk.lookup ?_))
 (refine AA (BL hT Be ?_))
 (refine AA (Ag ho hd (AA ?_)))
 (rw[<- BM])
 refine BB _ (fun lQ r s'=>r.1=none/\s'=s/\∃x',ItemsTup knd s.heap x' lQ) _ ?_ ?_ _ _ ⟨rfl,rfl,_,hi⟩
 .rintro v lQ r s' ⟨hr,rfl,x',hall⟩
  cases hall with
  |cons h1 h2 =>
   refine AA (xV n h1 ?_)
   (exact AB ⟨rfl,rfl,_,h2⟩)
 .rintro ⟨r1,r2⟩ s' ⟨hr,rfl,_⟩
  (subst hr; exact AB h)
theorem tH (hk:IsPairKey knd s.heap k a)(h:Q true s):wpAny (model prog w) A (eqIsQuiet 8 (.ref a)) Q E s:=by
 have hT:=hk.typeIs;obtain⟨o,items,m,p,v,ho,_,hd,hi,hp,hv⟩:=hk
 (unfold eqIsQuiet; refine AA (As hT Bk.lookup ?_))
 (refine AA (BL hT Be ?_))
 (refine AA (Ag ho hd (AA ?_)))
 rw[<- BM];show wpAny _ _ (forIn items.toList _ _) _ _ _;rw[hi];refine BB _ (fun lQ r s'=>r.1=none/\s'=s/\(lQ=[.ref p,v]\/lQ=[v]\/lQ=[])) _ ?_ ?_ _ _ ⟨rfl,rfl,.inl rfl⟩
 .rintro u lQ r s' ⟨hr,rfl,(e | e | e)⟩
  .cases e
   refine AA (xP 5 hp ?_)
   (exact AB ⟨rfl,rfl,.inr (.inl rfl)⟩)
  .cases e
   (rw[B1 _ (knd.byValue _ _ hv)]; refine AA (AB ?_))
   (exact AB ⟨rfl,rfl,.inr (.inr rfl)⟩)
  .cases e
 .rintro ⟨r1,r2⟩ s' ⟨hr,rfl,_⟩
  (subst hr; exact AB h)
end
def xA [DecidableEq K](knd:KeyKind prog w K):HeapKind prog w (List (List K)×K) where
 is:=IsPairKey knd
 hash:=vU knd
 draws:=wY
 room:=fun A=>A.units+2 < cLine
 inj:=fun hx hy=>hx.inj hy
 keeps:=fun x ho hd hs=>x.keeps ho hd hs
 pyHash:=fun hu hk h=>gW hu hk h
 eqBool:=fun hu hx hy h=>bW hu hx hy h
 quiet:=fun hk h=>tH hk h
end PySem
namespace L2
open PySem PySem.Spec PyProof.Rows
abbrev Key:=Sum (Option Int) Str
abbrev gQ:=Sum Key (List Key)
def bI (b:Bool):Int:=if b=true then 1 else 0
def cR:Value->Bool
 |.none=>true
 |_=>false
def fM:Key->Value->Bool
 |.inl (some k),v=>Value.isInt k v
 |.inl none,v=>cR v
 |.inr x,v=>Value.isStrOf x v
def keyH (w:World):Key->Int
 |.inl (some k)=>hashInt k
 |.inl none=>4238894112
 |.inr x=>hashStr w x
theorem mB {v:Value}(h:cR v=true):v=.none:=by
 cases v<;>first | rfl | cases h
theorem wZ:∀{k:Key}{v:Value},fM k v=true->(∃i t,k=Sum.inl (some i)/\v=Value.int i t)\/(∃x t,k=Sum.inr x/\v=Value.str x t)\/(k=Sum.inl none/\v=Value.none)
 |.inl (some i),v,h=>by
  obtain⟨t,e⟩:=Value.isInt_shape (k:=i) (v:=v) h;exact .inl ⟨i,t,rfl,e⟩
 |.inl none,v,h=>.inr (.inr ⟨rfl,mB h⟩)
 |.inr x,v,h=>by
  obtain⟨t,e⟩:=Value.isStrOf_shape (x:=x) (v:=v) h;exact .inr (.inl ⟨x,t,rfl,e⟩)
theorem pT (i:Int)(t:Tok):fM (.inl (some i)) (.int i t)=true:=by simp[fM,Value.isInt]
theorem mT (x:Str)(t:Tok):fM (.inr x) (.str x t)=true:=by simp[fM,Value.isStrOf]
theorem qI {a b:Key}(h:a≠b):decide (a=b)=false:=AR h
theorem key_ii (a b:Int):decide ((Sum.inl (some a):Key)=Sum.inl (some b))=(a==b):=by
 by_cases e:a=b
 .subst e; simp
 .rw [qI fun q=>e (Ao (Sum.inl.inj q))]
  exact(beq_eq_false_iff_ne.mpr e).symm
theorem key_ss (a b:Str):decide ((Sum.inr a:Key)=Sum.inr b)=decide (a=b):=by
 by_cases e:a=b
 .subst e; simp
 .rw [qI fun q=>e (Sum.inr.inj q),AR e]
theorem key_is (i:Int)(y:Str):decide ((Sum.inl (some i):Key)=Sum.inr y)=false:=AR nofun
theorem key_in (i:Int):decide ((Sum.inl (some i):Key)=Sum.inl none)=false:=AR nofun
theorem key_si (x:Str)(j:Int):decide ((Sum.inr x:Key)=Sum.inl (some j))=false:=AR nofun
theorem key_sn (x:Str):decide ((Sum.inr x:Key)=Sum.inl none)=false:=AR nofun
theorem key_ni (j:Int):decide ((Sum.inl none:Key)=Sum.inl (some j))=false:=AR nofun
theorem key_ns (y:Str):decide ((Sum.inl none:Key)=Sum.inr y)=false:=AR nofun
theorem lM {prog:Program}{w:World}{A:Around}{E:Value->Shared->Prop}{s:Shared}{Q:Int->Shared->Prop}(h:Q 4238894112 { s with toks:=s.toks+1 }):wpAny (model prog w) A (pyHash .none) Q E s:=by
 unfold pyHash;refine AA ?_;rw[cRoomFor,Av (by rw[show[Value.none].any Value.onHeap=false from rfl]; exact AJ)]; refine AB ?_
 have ty:s.TypeIs .none "NoneType":=rfl;refine AA (As ty B6.lookup ?_);rw[Av (by rw[beq_builtin_none]; exact AJ)];refine AA (As ty B6.lookup ?_)
 refine AA (BK ty B6
  (Ah B6 ty PySem.F.entry_NoneType_hash
   (show wpAny _ _ (do ret (<- mkInt 4238894112)) _ _ s from DK ?_) (PySem.F.args_NoneType_hash_1 _)))
 show wpAny _ _ (if (decide (-(2:Int) ^ 63<=4238894112)&&decide ((4238894112:Int) < 2 ^ 63))=true then _ else _) Q E _;rw[A4 (by decide)];exact AB h
theorem nP {prog:Program}{w:World}{A:Around}{E:Value->Shared->Prop}{s:Shared}{Q:Bool->Shared->Prop}(h:Q true s):wpAny (model prog w) A (eqBool .none .none) Q E s:=by
 unfold eqBool;refine Af ?_;refine Ac (fun _=>?_) (fun hab=>absurd rfl hab);exact AA (A7 (AB h))
def iX (prog:Program)(w:World):PySem.KeyKind prog w Key where
 is:=fM
 hash:=keyH w
 inj:=fun v a b ha hb=>by
  rcases wZ ha with ⟨i,t,rfl,rfl⟩ | ⟨x,t,rfl,rfl⟩ | ⟨rfl,rfl⟩<;>rcases wZ hb with ⟨j,u,rfl,e⟩ | ⟨y,u,rfl,e⟩ | ⟨rfl,e⟩<;>cases e<;>rfl
 byValue:=fun k v h=>by
  rcases wZ h with ⟨i,t,rfl,rfl⟩ | ⟨x,t,rfl,rfl⟩ | ⟨rfl,rfl⟩<;>rfl
 pyHash:=fun hv h=>by
  rcases wZ hv with ⟨i,t,rfl,rfl⟩ | ⟨x,t,rfl,rfl⟩ | ⟨rfl,rfl⟩
  .exact wpAny_pyHash_int h
  .exact wpAny_pyHash_str h
  .exact lM h
 eqBool:=fun hu hv h=>by
  rcases wZ hu with ⟨i,t,rfl,rfl⟩ | ⟨x,t,rfl,rfl⟩ | ⟨rfl,rfl⟩<;>rcases wZ hv with ⟨j,u,rfl,rfl⟩ | ⟨y,u,rfl,rfl⟩ | ⟨rfl,rfl⟩
  .rw [key_ii] at h; exact wpAny_eqBool_int h
  .rw [key_is] at h; exact SeqAt.EqAt.int_str i t y u _ _ _ _ h
  .rw [key_in] at h; exact SeqAt.EqAt.int_none i t _ _ _ _ h
  .rw [key_si] at h; exact SeqAt.EqAt.str_int x t j u _ _ _ _ h
  .rw [key_ss] at h; exact wpAny_eqBool_str h
  .rw [key_sn] at h; exact SeqAt.EqAt.str_none x t _ _ _ _ h
  .rw [key_ni] at h; exact SeqAt.EqAt.none_int j u _ _ _ _ h
  .rw [key_ns] at h; exact SeqAt.EqAt.none_str y u _ _ _ _ h
  .rw [Aw (rfl:(Sum.inl none:Key)=Sum.inl none)] at h; exact nP h
 «strs»:=fun k x t v h=>by
  rcases wZ h with ⟨i,u,rfl,e⟩ | ⟨y,u,rfl,e⟩ | ⟨rfl,e⟩
  .exact nomatch e
  .injection e with e1 _
   subst e1;cases v<;>rfl
  .exact nomatch e
theorem fP (prog:Program)(w:World)(i:Int)(t:Tok):(iX prog w).is (.inl (some i)) (.int i t)=true:=pT i t
theorem jD (prog:Program)(w:World):(iX prog w).is (.inl none) .none=true:=rfl
theorem mP (prog:Program)(w:World)(x:Str)(t:Tok):(iX prog w).is (.inr x) (.str x t)=true:=mT x t
inductive V where
 |non | bl (b:Bool) | int (i:Int) | str (x:Str) | byt (b:Array UInt8) | flt (b:UInt64) | ref (a:Addr) | ty (n:String)
 deriving DecidableEq
def RelV:V->Value->Prop
 |.non,u=>u=Value.none
 |.bl b,u=>u=Value.bool b
 |.int i,u=>∃t,u=Value.int i t
 |.str x,u=>∃t,u=Value.str x t
 |.byt b,u=>∃t,u=Value.bytes b t
 |.flt b,u=>∃t,u=Value.float b t
 |.ref a,u=>u=Value.ref a
 |.ty n,u=>u=Value.type n
abbrev Vals:List V->List Value->Prop:=Paired RelV
theorem Vals.length {xs:List V}{us:List Value}(r:Vals xs us):xs.length=us.length:=Paired.length r
theorem Vals.get:∀{xs:List V}{us:List Value}{i:Nat}{x:V},Vals xs us->xs[i]?=some x->∃u,us[i]?=some u/\RelV x u
 |_,_,_,_,.nil,e=>by simp at e
 |_,_,0,_,.cons r _,e=>by simp at e; subst e; exact⟨_,rfl,r⟩
 |_,_,i+1,x,.cons _ t,e=>by
  obtain⟨u,h1,h2⟩:=Vals.get (i:=i) (x:=x) t (by simpa using e);exact⟨u,by simpa using h1,h2⟩
theorem Vals.set {x:V}{u:Value}(r:RelV x u):∀{xs:List V}{us:List Value}(i:Nat),Vals xs us->Vals (xs.set i x) (us.set i u)
 |_,_,_,.nil=>.nil
 |_,_,0,.cons _ t=>.cons r t
 |_,_,i+1,.cons q t=>.cons q (Vals.set r i t)
theorem Vals.append:∀{xs ys:List V}{us ws:List Value},Vals xs us->Vals ys ws->Vals (xs++ys) (us++ws)
 |_,_,_,_,.nil,s=>s
 |_,_,_,_,.cons r t,s=>.cons r (Vals.append t s)
theorem Vals.take:∀{xs:List V}{us:List Value}(n:Nat),Vals xs us->Vals (xs.take n) (us.take n)
 |_,_,0,_=>.nil
 |_,_,_+1,.nil=>.nil
 |_,_,n+1,.cons r t=>.cons r (Vals.take n t)
theorem Vals.drop:∀{xs:List V}{us:List Value}(n:Nat),Vals xs us->Vals (xs.drop n) (us.drop n)
 |_,_,0,r=>r
 |_,_,_+1,.nil=>.nil
 |_,_,n+1,.cons _ t=>Vals.drop n t
def RelO:Option V->Option Value->Prop
 |some v,some u=>RelV v u
 |none,none=>True
 |_,_=>False
def KV {κ:Type}:List (κ×V)->List (κ×Value)->Prop:=Paired fun(p:κ×V) (q:κ×Value)=>p.1=q.1/\RelV p.2 q.2
def kV:Key->V
 |.inl none=>.non
 |.inl (some i)=>.int i
 |.inr x=>.str x
inductive HO where
 |lst (xs:List V)
 |tup (xs:List V)
 |dK (kvs:List (Key×V)) | dT (kvs:List (List Key×V)) | dP (kvs:List (List (List Key)×V)) | dN (kvs:List ((List (List Key)×Key)×V)) | dM (o:Obj) (kvs:List (gQ×V×V))
 |set (S:Int->Bool) (n:Nat)
 |ins (C dx:Addr) (fs:List (Str×V))
 |own (x:Addr)
 |xd (fs:List (Str×V))
 |met (f x:Addr)
 |rng (lo hi:Int)
 |frz (o:Obj) (u:HO)
 |tbl (ps:Array Value)
 |ext (φ:Heap->Prop)
abbrev Hp:=Addr->Option HO
def upd (H:Hp)(a:Addr)(o:HO):Hp:=fun b=>if b=a then some o else H b
theorem uQ {H:Hp}{a:Addr}{o:HO}:upd H a o a=some o:=by unfold upd; rw[A4 rfl]
theorem kQ {H:Hp}{a b:Addr}{o:HO}(h:b≠a):upd H a o b=H b:=by unfold upd; rw[Av h]
theorem ne_of {H:Hp}{a b:Addr}{o u:HO}(h:H a=some o)(h':H b=some u)(d:o≠u):a≠b:=by
 intro e; subst e; rw[h] at h'; exact d (Ao h')
theorem kZ {H:Hp}{a b:Addr}{o:HO}(h:H a=some o)(h':H b=none):a≠b:=by
 intro e; subst e; rw[h] at h'; cases h'
def IsTupN (h:Heap)(a:Addr)(items:Array Value):Prop:=∃o,h.get? a=some o/\o.cls=.type "tuple"/\(∃n,o.data=.seq items n)/\o.dict=none
theorem IsTupN.is {h:Heap}{a:Addr}{items:Array Value}(x:IsTupN h a items):IsTup h a items:=let ⟨o,e,c,d,_⟩:=x; ⟨o,e,c,d⟩
theorem IsTupN.new (h:Heap)(items:Array Value):IsTupN (h.push { cls:=.type "tuple",data:=.seq items }) h.objs.size items:=⟨_,AK _ rfl,rfl,⟨_,rfl⟩,rfl⟩
def mHash (prog:Program)(w:World):gQ->Int
 |.inl k=>keyH w k
 |.inr ks=>tupleKeyHash (iX prog w) ks
inductive MK (H:Hp):gQ->V->Prop
 |int (i:Int):MK H (.inl (.inl (some i))) (.int i)
 |bl (b:Bool):MK H (.inl (.inl (some (bI b)))) (.bl b)
 |str (x:Str):MK H (.inl (.inr x)) (.str x)
 |non:MK H (.inl (.inl none)) .non
 |tup {ks:List Key} {b:Addr} (e:H b=some (.tup (ks.map kV))):MK H (.inr ks) (.ref b)
abbrev KM (H:Hp):List (gQ×V×V)->List (gQ×Value×Value)->Prop:=Paired fun p q=>p.1=q.1/\MK H p.1 p.2.1/\RelV p.2.1 q.2.1/\RelV p.2.2 q.2.2
theorem MK.mono {H H':Hp}{k:gQ}{v:V}(x:MK H k v)(ht:∀b xs,H b=some (.tup xs)->H' b=some (.tup xs)):MK H' k v:=by
 cases x with
 |int i=>exact .int i
 |bl b=>exact .bl b
 |str x=>exact .str x
 |non=>exact .non
 |tup e=>exact .tup (ht _ _ e)
def PKey (H:Hp)(kss:List (List Key))(b:Addr):Prop:=∃bs:List Addr,H b=some (.tup (bs.map V.ref))/\Paired (fun(ks:List Key) (c:Addr)=>H c=some (.tup (ks.map kV))) kss bs
def NKey (H:Hp)(k:List (List Key)×Key)(b:Addr):Prop:=∃p,H b=some (.tup [.ref p,kV k.2])/\PKey H k.1 p
section
variable (P:Program)(w:World)
def ObjOk (H:Hp)(h:Heap)(a:Addr):HO->Prop
 |.lst xs=>xs.length<=sizeLine/\∃(its:List Value) (n:Nat),Vals xs its/\h.get? a=some { cls:=.type "list",data:=.seq its.toArray n }
 |.tup xs=>xs.length<=sizeLine/\∃its:List Value,Vals xs its/\IsTupN h a its.toArray
 |.dK kvs=>kvs.length<=sizeLine/\(a==sysModules)=false/\∃vs,KV kvs vs/\h.DictOf (iX P w) a vs
 |.dT kvs=>kvs.length<=sizeLine/\(a==sysModules)=false/\∃xs:List (List Key×Addr×Value),
   Paired (fun(p:List Key×V) (q:List Key×Addr×Value)=>p.1=q.1/\H q.2.1=some (.tup (p.1.map kV))/\RelV p.2 q.2.2) kvs xs /\
   ∃o es ep,h.get? a=some o/\o.ExactDict/\o.data=.dict es ep/\es.toList=xs.map (entryOfKey (tupleKind (iX P w)))/\(xs.map (·.1)).Nodup
 |.dM o kvs=>kvs.length<=sizeLine/\(a==sysModules)=false/\h.get? a=some o/\∃xs,KM H kvs xs /\
   ∃es ep,o.ExactDict/\o.data=.dict es ep/\es.toList=xs.map (fun x=>(⟨mHash P w x.1,x.2.1,x.2.2⟩:DictEntry))/\(xs.map (·.1)).Nodup
 |.dN kvs=>kvs.length<=sizeLine/\(a==sysModules)=false/\∃xs:List ((List (List Key)×Key)×Addr×Value),
   Paired (fun(p:(List (List Key)×Key)×V) (q:(List (List Key)×Key)×Addr×Value)=>p.1=q.1/\NKey H p.1 q.2.1/\RelV p.2 q.2.2) kvs xs /\
   ∃o es ep,h.get? a=some o/\o.ExactDict/\o.data=.dict es ep/\es.toList=xs.map (entryOfKey (xA (iX P w)))/\(xs.map (·.1)).Nodup
 |.dP kvs=>kvs.length<=sizeLine/\(a==sysModules)=false/\∃xs:List (List (List Key)×Addr×Value),
   Paired (fun(p:List (List Key)×V) (q:List (List Key)×Addr×Value)=>p.1=q.1/\PKey H p.1 q.2.1/\RelV p.2 q.2.2) kvs xs /\
   ∃o es ep,h.get? a=some o/\o.ExactDict/\o.data=.dict es ep/\es.toList=xs.map (entryOfKey (jA (iX P w)))/\(xs.map (·.1)).Nodup
 |.set S n=>h.SetOf (intKind P w) a S n
 |.ins C dx fs=>H dx=some (.own a)/\fs.length<=1000/\dx≠a/\h.get? a=some (PySem.W.instObj C dx) /\
   ∃mA,h.Ns1 dx mA/\(∀f,RelO (fs.lookup f) (mA f))/\PySem.Within mA (fs.map (·.1))
 |.own _=>∃o,h.get? a=some o
 |.xd fs=>∃mA,h.Ns1 a mA/\∀f,RelO (fs.lookup f) (mA f)
 |.rng lo hi=>∃t u v,h.get? a=some { cls:=.type "range",data:=.fields #[.int lo t,.int hi u,.int 1 v] }
 |.frz o u=>h.get? a=some o/\ObjOk H h a u
 |.tbl ps=>h.get? a=some { cls:=.none,data:=.fields ps }
 |.met f x=>h.get? a=some (PySem.W.methodObj (.ref f) (.ref x))
 |.ext φ=>φ h/\(∃o,h.get? a=some o)/\∀h1 h2:Heap,φ h1->(∀o,h1.get? a=some o->h2.get? a=some o)->φ h2
def HOk (H:Hp)(h:Heap):Prop:=∀a o,H a=some o->ObjOk P w H h a o
end
section
variable {P:Program}{w:World}{H H':Hp}{h h':Heap}{a:Addr}{o:HO}
theorem ObjOk.lt (x:ObjOk P w H h a o):a < h.objs.size:=by
 cases o with
 |lst xs=>obtain⟨_,_,_,_,e⟩:=x; exact AF e
 |tup xs=>obtain⟨_,_,_,o,e,_⟩:=x; exact AF e
 |dK kvs=>obtain⟨_,_,_,_,o,_,_,e,_⟩:=x; exact AF e
 |dT kvs=>obtain⟨_,_,_,_,o,_,_,e,_⟩:=x; exact AF e
 |dP kvs=>obtain⟨_,_,_,_,o,_,_,e,_⟩:=x; exact AF e
 |dN kvs=>obtain⟨_,_,_,_,o,_,_,e,_⟩:=x; exact AF e
 |dM ob kvs=>obtain⟨_,_,e,_⟩:=x; exact AF e
 |set S n=>obtain⟨o,_,_,_,e,_⟩:=x; exact AF e
 |ins C dx fs=>obtain⟨_,_,_,e,_⟩:=x; exact AF e
 |own y=>obtain⟨_,e⟩:=x; exact AF e
 |xd fs=>obtain⟨_,⟨_,_,_,e,_⟩,_⟩:=x; exact AF e
 |rng lo hi=>obtain⟨_,_,_,e⟩:=x; exact AF e
 |frz ob u=>obtain⟨e,_⟩:=x; exact AF e
 |tbl ps=>exact AF (show h.get? a=some _ from x)
 |met f y=>exact AF (show h.get? a=some _ from x)
 |ext φ=>obtain⟨_,⟨_,e⟩,_⟩:=x; exact AF e
theorem Paired.mapP {α β:Type}{F G:α->β->Prop}:∀{l₁:List α}{l₂:List β},Paired F l₁ l₂->(∀a b,F a b->G a b)->Paired G l₁ l₂
 |_,_,.nil,_=>.nil
 |_,_,.cons r t,f=>.cons (f _ _ r) (Paired.mapP t f)
theorem PKey.mono {kss:List (List Key)}{b:Addr}(x:PKey H kss b)(ht:∀b xs,H b=some (.tup xs)->H' b=some (.tup xs)):PKey H' kss b :=
 let ⟨bs,e,r⟩:=x; ⟨bs,ht _ _ e,Paired.mapP r fun _ _ z=>ht _ _ z⟩
theorem NKey.mono {H H':Hp}{k:List (List Key)×Key}{b:Addr}(x:NKey H k b)(ht:∀b xs,H b=some (.tup xs)->H' b=some (.tup xs)):NKey H' k b :=
 let ⟨p,e,r⟩:=x; ⟨p,ht _ _ e,r.mono ht⟩
theorem ObjOk.stay (x:ObjOk P w H h a o)(k:∀b u,(b=a\/H b=some (.own a))->h.get? b=some u->h'.get? b=some u)
  (ho:∀b,H b=some (.own a)->H' b=some (.own a)) (ht:∀b xs,H b=some (.tup xs)->H' b=some (.tup xs)):ObjOk P w H' h' a o:=by
 induction o with
 |lst xs=>obtain⟨z,its,n,r,e⟩:=x; exact⟨z,its,n,r,k _ _ (.inl rfl) e⟩
 |tup xs=>obtain⟨z,its,r,ob,e,c⟩:=x; exact⟨z,its,r,ob,k _ _ (.inl rfl) e,c⟩
 |dK kvs=>obtain⟨z,y,vs,r,ob,es,ep,e,c⟩:=x; exact⟨z,y,vs,r,ob,es,ep,k _ _ (.inl rfl) e,c⟩
 |dT kvs =>
  obtain⟨z,y,xs,r,ob,es,ep,e,c⟩:=x;exact⟨z,y,xs,Paired.mapP r fun p q z=>⟨z.1,ht _ _ z.2.1,z.2.2⟩,ob,es,ep,k _ _ (.inl rfl) e,c⟩
 |dM ob kvs =>
  obtain⟨z,y,e,xs,r,c⟩:=x;exact⟨z,y,k _ _ (.inl rfl) e,xs,Paired.mapP r fun p q z=>⟨z.1,z.2.1.mono ht,z.2.2⟩,c⟩
 |dN kvs =>
  obtain⟨z,y,xs,r,ob,es,ep,e,c⟩:=x;exact⟨z,y,xs,Paired.mapP r fun p q z=>⟨z.1,z.2.1.mono ht,z.2.2⟩,ob,es,ep,k _ _ (.inl rfl) e,c⟩
 |dP kvs =>
  obtain⟨z,y,xs,r,ob,es,ep,e,c⟩:=x;exact⟨z,y,xs,Paired.mapP r fun p q z=>⟨z.1,z.2.1.mono ht,z.2.2⟩,ob,es,ep,k _ _ (.inl rfl) e,c⟩
 |set S n=>obtain⟨ob,es,ep,t,e,c⟩:=x; exact⟨ob,es,ep,t,k _ _ (.inl rfl) e,c⟩
 |ins C dx fs =>
  obtain⟨d,z,ne,e,mA,⟨od,es,ep,e2,c⟩,r⟩:=x;exact⟨ho _ d,z,ne,k _ _ (.inl rfl) e,mA,⟨od,es,ep,k _ _ (.inr d) e2,c⟩,r⟩
 |own y=>obtain⟨ob,e⟩:=x; exact⟨ob,k _ _ (.inl rfl) e⟩
 |xd fs=>obtain⟨mA,⟨od,es,ep,e,c⟩,r⟩:=x; exact⟨mA,⟨od,es,ep,k _ _ (.inl rfl) e,c⟩,r⟩
 |rng lo hi=>obtain⟨t,u,v,e⟩:=x; exact⟨t,u,v,k _ _ (.inl rfl) e⟩
 |frz ob u ih=>obtain⟨e,q⟩:=x; exact⟨k _ _ (.inl rfl) e,ih q⟩
 |tbl ps =>
  have e:h.get? a=some { cls:=.none,data:=.fields ps }:=x;show h'.get? a=some { cls:=.none,data:=.fields ps };exact k a _ (.inl rfl) e
 |met f y =>
  have e:h.get? a=some (PySem.W.methodObj (.ref f) (.ref y)):=x;show h'.get? a=some (PySem.W.methodObj (.ref f) (.ref y));exact k a _ (.inl rfl) e
 |ext φ=>obtain⟨p,⟨o,e⟩,st⟩:=x; exact⟨st _ _ p fun o q=>k _ _ (.inl rfl) q,⟨o,k _ _ (.inl rfl) e⟩,st⟩
theorem HOk.lt (x:HOk P w H h)(e:H a=some o):a < h.objs.size:=(x a o e).lt
theorem HOk.fresh (x:HOk P w H h)(e:h.objs.size<=a):H a=none:=by
 cases q:H a with
 |none=>rfl
 |some u=>exact absurd (AV (x.lt q) e) (BF _)
theorem HOk.kept (x:HOk P w H h)(k:∀b u,h.get? b=some u->h'.get? b=some u):HOk P w H h':=fun a o e =>
 (x a o e).stay (fun b u _ q=>k b u q) (fun _ q=>q) fun _ _ q=>q
theorem HOk.laid (x:HOk P w H h)(k:∀b u,h.get? b=some u->h'.get? b=some u)(hp:h.objs.size<=a)(new:ObjOk P w (upd H a o) h' a o):HOk P w (upd H a o) h':=fun b u e=>by
 have hn:=x.fresh hp
 by_cases hb:b=a
 .subst hb; rw[uQ] at e; cases e; exact new
 .rw [kQ hb] at e
  exact(x b u e).stay (fun c v _ q=>k c v q) (fun c q=>by rw[kQ (kZ q hn)]; exact q) fun c xs q=>by rw[kQ (kZ q hn)]; exact q
end
def Rd (H:Hp)(a:Addr)(u:HO):Prop:=H a=some u\/∃o,H a=some (.frz o u)
theorem Rd.ok {P:Program}{w:World}{H:Hp}{h:Heap}{a:Addr}{u:HO}(r:Rd H a u)(x:HOk P w H h):ObjOk P w H h a u:=by
 rcases r with r | ⟨o,r⟩
 .exact x a u r
 .obtain ⟨_,q⟩:=x a _ r
  exact q
def Mut:Option HO->Prop
 |some (.lst _)=>True
 |some (.dK _)=>True
 |some (.dT _)=>True
 |some (.dP _)=>True
 |some (.dN _)=>True
 |some (.dM _ _)=>True
 |some (.set _ _)=>True
 |some (.ins _ _ _)=>True
 |some (.ext _)=>True
 |_=>False
section
variable {P:Program}{w:World}{H:Hp}{h h':Heap}{x e:Addr}{o':HO}
theorem HOk.write (ok:HOk P w H h)(mu:Mut (H x))(he:e=x\/H e=some (.own x))(k:∀b u,b≠e->h.get? b=some u->h'.get? b=some u)(heo:∃u,h'.get? e=some u)
  (new:ObjOk P w (upd H x o') h' x o'):HOk P w (upd H x o') h':=fun b u q=>by
 have nown:∀c y,H c=some (.own y)->c≠x:=fun c y r z=>by subst z; rw[r] at mu; exact mu
 have ntup:∀c xs,H c=some (.tup xs)->c≠x:=fun c xs r z=>by subst z; rw[r] at mu; exact mu
 by_cases hb:b=x
 .subst hb; rw[uQ] at q; cases q; exact new
 .rw [kQ hb] at q
  by_cases hbe:b=e
  .have q':H b=some (.own x):=by
    rcases he with z | z
    .exact absurd (hbe.trans z) hb
    .rw [hbe]; exact z
   rw[q] at q'; cases q'
   obtain⟨v,hv⟩:=heo;exact⟨v,by rw[hbe]; exact hv⟩
  .refine (ok b u q).stay (fun c v hc r=>k c v ?_ r) (fun c r=>by rw[kQ (nown c b r)]; exact r) fun c xs r=>by rw[kQ (ntup c xs r)]; exact r
   rcases hc with rfl | hc
   .exact hbe
   .rintro rfl
    rcases he with z | z
    .exact nown c b hc z
    .rw [hc] at z; cases z; exact hb rfl
end
structure Un (fs ex:List Addr)(H H':Hp)(h h':Heap):Prop where
 keep:∀b o,h.get? b=some o->H b=none->b∉fs->b∉ex->h'.get? b=some o
 slot:∀b o,h.get? b=some o->H b=none->b∈fs->b∉ex->∃sl,h'.get? b=some { o with slots:=sl }
 free:∀b o,h.get? b=some o->H b=none->b∉ex->H' b=none
 there:∀b o,h.get? b=some o->b∉ex->∃o',h'.get? b=some o'
 tups:∀b xs,H b=some (.tup xs)->H' b=some (.tup xs)
 frzs:∀b o u,H b=some (.frz o u)->H' b=some (.frz o u)
 tbls:∀b ps,H b=some (.tbl ps)->∃more,H' b=some (.tbl (ps++more))
section
variable {fs fs' ex ex':List Addr}{H H1 H2:Hp}{h h1 h2 h':Heap}{a x e:Addr}{o:HO}
theorem Un.any (u:Un fs ex H H1 h h1){b:Addr}{ob:Obj}(q:h.get? b=some ob)(n:H b=none)(hx:b∉ex):∃sl,h1.get? b=some { ob with slots:=sl }:=by
 by_cases hb:b∈fs
 .exact u.slot b ob q n hb hx
 .exact ⟨ob.slots,u.keep b ob q n hb hx⟩
theorem Un.kept (k:∀b u,h.get? b=some u->h'.get? b=some u):Un fs ex H H h h' :=
 ⟨fun b ob q _ _ _=>k b ob q,fun b ob q _ _ _=>⟨ob.slots,k b ob q⟩,fun _ _ _ n _=>n,fun b ob q _=>⟨ob,k b ob q⟩,fun _ _ q=>q,fun _ _ _ q=>q,fun _ ps q=>⟨#[],by rw[q]; simp⟩⟩
theorem Un.refl:Un fs ex H H h h:=Un.kept fun _ _ q=>q
theorem Un.laid (k:∀b u,h.get? b=some u->h'.get? b=some u)(hp:h.objs.size<=a)(hn:H a=none):Un fs ex H (upd H a o) h h' where
 keep:=fun b u q _ _ _=>k b u q
 slot:=fun b u q _ _ _=>⟨u.slots,k b u q⟩
 free:=fun b u q n _=>by rw[kQ (A5 (AV (AF q) hp))]; exact n
 there:=fun b u q _=>⟨u,k b u q⟩
 tups:=fun b xs q=>by rw[kQ (kZ q hn)]; exact q
 frzs:=fun b u xs q=>by rw[kQ (kZ q hn)]; exact q
 tbls:=fun b ps q=>⟨#[],by rw[kQ (kZ q hn),q]; simp⟩
theorem Un.write (mu:Mut (H x))(he:e=x\/H e=some (.own x))(k:∀b u,b≠e->h.get? b=some u->h'.get? b=some u)(heo:∃u,h'.get? e=some u):Un fs ex H (upd H x o) h h':=by
 have hx:∀b,H b=none->b≠x:=fun b n z=>by subst z; rw[n] at mu; exact mu
 have hb:∀b,H b=none->b≠e:=fun b n z=>by
  subst z
  rcases he with r | r
  .exact hx b n r
  .rw [n] at r; cases r
 have hm:∀b u,H b=some u->¬ Mut (some u)->b≠x:=fun b u q nm z=>by subst z; rw[q] at mu; exact nm mu
 refine⟨fun b u q n _ _=>k b u (hb b n) q,fun b u q n _ _=>⟨u.slots,k b u (hb b n) q⟩,fun b u q n _=>by rw[kQ (hx b n)]; exact n,fun b u q _=>?_,
  fun b xs q=>by rw[kQ (hm b _ q fun z=>z)]; exact q,fun b u xs q=>by rw[kQ (hm b _ q fun z=>z)]; exact q,fun b ps q=>⟨#[],by rw[kQ (hm b _ q fun z=>z),q]; simp⟩⟩
 by_cases hbe:b=e
 .subst hbe; exact heo
 .exact ⟨u,k b u hbe q⟩
end
def trk (h:Heap)(H:Hp):List Addr:=(List.range h.objs.size).filter fun a=>(H a).isSome
def pD (h:Heap)(H:Hp):Heap:=PySem.W.hideAll h (trk h H)
theorem nT (h:Heap)(H:Hp):(pD h H).objs.size=h.objs.size:=PySem.W.hideAll_size _ _
theorem fI {h:Heap}{H:Hp}{b:Addr}{o:Obj}(e:h.get? b=some o)(n:H b=none):(pD h H).get? b=some o :=
 PySem.W.hideAll_get _ e fun hm=>by
  have q:(H b).isSome=true:=(CP.mp hm).2;rw[n] at q; simp at q
theorem of_hidT {h:Heap}{H:Hp}{b:Addr}{o:Obj}(e:(pD h H).get? b=some o):h.get? b=some o/\H b=none:=by
 have e':h.get? b=some o:=PySem.W.of_hideAll (trk h H) e;refine⟨e',?_⟩
 cases q:H b with
 |none=>rfl
 |some x =>
  have hm:b∈trk h H:=CP.mpr ⟨Ca.mpr (AF e'),by simp[q]⟩;have z:(pD h H).get? b=none:=PySem.W.hideAll_none (trk h H) hm;rw[z] at e; cases e
def allNews (g h:Heap)(L:Addr):List (Addr×Obj):=(List.range h.objs.size).filterMap fun a=>if a=L\/(g.get? a).isSome=true then none else (h.get? a).map fun o=>(a,o)
def lQ (g h:Heap)(L d:Addr):List (Addr×Obj):=(allNews g h L).filter fun p=>decide (p.1≠d)
structure Mod (K:DY)(mg:Str->Option Value)(base:Heap):Prop where
 kin:K.In base
 glob:base.Ns mainGlobals mg
 blt:∃mb,base.Ns builtinsNs mb/\∀x:Str,x ≠ "__name__"->mb x=bootBuiltins x
 nolimit:base.NoLimit
structure Cx where
 prog:Program
 w:World
 K:DY
 mg:Str->Option Value
 base:Heap
 A:Around
 N:List Str
 s₀:Shared
 H₀:Hp
 env:Env
 outer:List Env
 stack:List Env
 ex:List Addr
 fn:Str->Bool
 calm:Bool
 pn:List (Addr×Obj)
 xe:Value->Shared->Prop
def frs (l:List Env):List Addr:=l.filterMap (·.frame)
abbrev Cx.fs (X:Cx):List Addr:=frs X.outer
def Vis (sc:Scope)(x:Str):Prop:=sc.names.lookup x=some .local\/sc.names.lookup x=some .cell\/sc.names.lookup x=some .free
def Loc (sc:Scope)(x:Str):Prop:=sc.names.lookup x=some .local\/sc.names.lookup x=some .cell
def Look (env:Env)(h:Heap)(m:Str->Option Value)(x:Str)(u:Value):Prop :=
 (env.kindOf x=some .local/\m x=some u)\/((env.kindOf x=some .cell\/env.kindOf x=some .free)/\∃c,env.cells.lookup x=some c/\h.IsCell c (some u))
structure Cx.Ok (X:Cx):Prop where
 mod:Mod X.K X.mg X.base
 kind:X.env.scope.kind=.function
 glob:X.env.globals=mainGlobals
 blt:X.env.builtins=builtinsNs
 above:X.s₀.heap.objs.size<=X.env.locals
 inj:∀x y c,X.env.cells.lookup x=some c->X.env.cells.lookup y=some c->x=y
 has:∀x,(X.env.kindOf x=some .cell\/X.env.kindOf x=some .free)->∃c,X.env.cells.lookup x=some c
 cab:∀x c,X.fn x=true->X.env.cells.lookup x=some c->X.s₀.heap.objs.size<=c
 hd:X.calm=true->X.A.handled=none
 frames:X.A.frames=some X.stack
 stk:X.stack=X.outer\/(X.stack=X.env::X.outer/\X.env.frame=some X.env.locals)
 exf:∀b∈X.ex,b≠X.env.locals/\∀x c,X.env.cells.lookup x=some c->c≠b
 bs:∀b o,X.base.get? b=some o->X.s₀.heap.get? b=some o/\X.H₀ b=none
 bsz:X.base.objs.size<=X.s₀.heap.objs.size
 noex:∀b o,X.base.get? b=some o->b∉X.ex
 exfs:∀b∈X.ex,b∉X.fs
 funs:X.s₀.heap.FunFrames X.base X.outer
 frf:∀b∈X.fs,X.H₀ b=none
structure Inv (X:Cx)(pins:List (Addr×Obj))(σ:List (Option V))(H:Hp)(s:Shared):Prop where
 ok:X.Ok
 os:s.os=X.s₀.os
 bare:AllBare s.gens
 base:Un X.fs X.ex X.H₀ H X.s₀.heap s.heap
 loc:∃m,s.heap.Ns X.env.locals m/\∀(i:Nat) (x:Str) (v:V),X.N[i]?=some x->σ[i]?=some (some v)->Vis X.env.scope x->∃u,RelV v u/\Look X.env s.heap m x u
 cell:∀x c,X.env.cells.lookup x=some c->∃v,s.heap.IsCell c v
 free:H X.env.locals=none
 freeC:∀x c,X.env.cells.lookup x=some c->H c=none
 pin:∀p∈X.pn++pins,s.heap.get? p.1=some p.2/\H p.1=none/\p.1≠X.env.locals/\p.1∉X.fs/\∀v,p.2.data≠.cell v
 hok:HOk X.prog X.w H s.heap
 len:σ.length=X.N.length
section
variable {X:Cx}{pins:List (Addr×Obj)}{σ:List (Option V)}{H H':Hp}{s:Shared}{h':Heap}
theorem Cx.Ok.nofr (ok:X.Ok){b:Addr}{o:Obj}(e:X.base.get? b=some o):b∉X.fs:=fun hb=>by
 have:=(ok.funs.mem hb).1;rw[e] at this; cases this
theorem Inv.bs (I:Inv X pins σ H s):∀b o,X.base.get? b=some o->s.heap.get? b=some o/\H b=none:=fun b o e =>
 ⟨I.base.keep b o (I.ok.bs b o e).1 (I.ok.bs b o e).2 (I.ok.nofr e) (I.ok.noex b o e),I.base.free b o (I.ok.bs b o e).1 (I.ok.bs b o e).2 (I.ok.noex b o e)⟩
theorem Inv.bk (I:Inv X pins σ H s):∀b o,X.base.get? b=some o->s.heap.get? b=some o:=fun b o e=>(I.bs b o e).1
theorem Inv.mod (I:Inv X pins σ H s):Mod X.K X.mg X.base:=I.ok.mod
theorem Inv.kIn (I:Inv X pins σ H s):X.K.In s.heap:=I.ok.mod.kin.keeps I.bk
theorem Inv.fr (I:Inv X pins σ H s):∃m,Fr X.base X.env.locals s.heap m :=
 let ⟨m,hn,_⟩:=I.loc
 ⟨m,hn,I.bk,AX I.ok.bsz I.ok.above⟩
theorem Inv.lt (I:Inv X pins σ H s):X.env.locals < s.heap.objs.size:=let ⟨_,hn,_⟩:=I.loc; hn.lt
theorem Inv.sz (I:Inv X pins σ H s):X.s₀.heap.objs.size<=s.heap.objs.size:=AX I.ok.above (BC I.lt)
theorem Inv.nofs (I:Inv X pins σ H s){a:Addr}(h:s.heap.objs.size<=a):a∉X.fs:=fun hb=>by
 obtain⟨_,o,ho,_⟩:=I.ok.funs.mem hb;exact absurd (AV (AF ho) (AX I.sz h)) (BF _)
theorem Inv.cne (I:Inv X pins σ H s):∀x c,X.env.cells.lookup x=some c->c≠X.env.locals:=fun x c e z=>by
 obtain⟨v,o,ho,hd⟩:=I.cell x c e;obtain⟨m,⟨o',es,ep,ho',hd',_⟩,_⟩:=I.loc;rw[z,ho'] at ho; cases ho; rw[hd'] at hd; cases hd
theorem Inv.funs (I:Inv X pins σ H s):s.heap.FunFrames X.base X.outer:=by
 have all:∀(l:List Env),(∀b∈frs l,b∈X.fs)->X.s₀.heap.FunFrames X.base l->s.heap.FunFrames X.base l:=by
  intro l
  induction l with
  |nil=>intro _ _; trivial
  |cons env r ih =>
   intro hs hl;obtain⟨hk,⟨L,o,hf,hn,ho,hd⟩,hr⟩:=hl;have hL:L∈X.fs:=hs L (by unfold frs; rw[List.filterMap_cons,hf]; exact AQ);obtain⟨sl,e⟩:=I.base.slot L o ho (I.ok.frf L hL) hL fun z=>I.ok.exfs L z hL;exact⟨hk,⟨L,_,hf,hn,e,hd⟩,ih (fun b hb=>hs b (by unfold frs; rw[List.filterMap_cons,hf]; exact AO _ hb)) hr⟩
 exact all X.outer (fun _ hb=>hb) I.ok.funs
theorem Inv.stack (I:Inv X pins σ H s):s.heap.FunFrames X.base X.stack:=by
 rcases I.ok.stk with e | ⟨e,hf⟩
 .rw [e]; exact I.funs
 .rw [e]
  obtain⟨m,hn,_⟩:=I.loc;refine .cons (by rw[I.ok.kind]; decide) hf hn ?_ I.funs;exact Heap.get?_none_of_le (AX I.ok.bsz I.ok.above)
theorem Inv.stkSub (I:Inv X pins σ H s):∀b∈frs X.stack,b∈X.env.locals::X.fs:=fun b hb=>by
 rcases I.ok.stk with e | ⟨e,hf⟩
 .rw [e] at hb; exact AO _ hb
 .rw [e] at hb
  unfold frs at hb;rw[List.filterMap_cons,hf] at hb;exact hb
theorem Inv.stkFree (I:Inv X pins σ H s):∀b∈frs X.stack,H b=none:=fun b hb=>by
 rcases Ax.mp (I.stkSub b hb) with e | hb
 .rw [e]; exact I.free
 .obtain ⟨_,o,ho,_⟩:=I.ok.funs.mem hb
  exact I.base.free b o ho (I.ok.frf b hb) fun z=>I.ok.exfs b z hb
theorem Inv.step {g':Array GenState}{t':Nat}{d':Drawn}{ch:List Addr}(I:Inv X pins σ H s)
  (hch:∀b∈ch,(b∈X.ex\/X.s₀.heap.objs.size<=b)/\b≠X.env.locals/\(∀x c,X.env.cells.lookup x=some c->c≠b)/\∀p∈X.pn++pins,p.1≠b)
  (keep:∀b o,b≠X.env.locals->b∉X.fs->b∉ch->s.heap.get? b=some o->H b=none->h'.get? b=some o)
  (slot:∀b o,b≠X.env.locals->b∈X.fs->b∉ch->s.heap.get? b=some o->H b=none->∃sl,h'.get? b=some { o with slots:=sl }) (free:∀b o,b∉ch->s.heap.get? b=some o->H b=none->H' b=none)
  (there:∀b o,b∉ch->s.heap.get? b=some o->∃o',h'.get? b=some o')
  (tups:∀b xs,H b=some (.tup xs)->H' b=some (.tup xs)) (frzs:∀b o u,H b=some (.frz o u)->H' b=some (.frz o u)) (tbls:∀b ps,H b=some (.tbl ps)->∃more,H' b=some (.tbl (ps++more)))
  (ns:∀m,s.heap.Ns X.env.locals m->h'.Ns X.env.locals m) (hok:HOk X.prog X.w H' h') (hg:AllBare g') :
  Inv X pins σ H' { s with heap:=h',gens:=g',drawn:=d',toks:=t' }:=by
 have neL:∀b o,X.s₀.heap.get? b=some o->b≠X.env.locals:=fun b o e=>A5 (AV (AF e) I.ok.above)
 have neC:∀b o,X.s₀.heap.get? b=some o->b∉X.ex->b∉ch:=fun b o e hx hb=>by
  rcases(hch b hb).1 with z | z
  .exact hx z
  .exact absurd (AV (AF e) z) (BF _)
 have cellK:∀x c,X.env.cells.lookup x=some c->∀v,s.heap.IsCell c v->h'.IsCell c v:=fun x c e v ⟨o,ho,hd⟩=>by
  have nch:c∉ch:=fun z=>(hch c z).2.2.1 x c e rfl
  by_cases hc:c∈X.fs
  .obtain ⟨sl,q⟩:=slot c o (I.cne x c e) hc nch ho (I.freeC x c e)
   exact⟨_,q,hd⟩
  .exact ⟨o,keep c o (I.cne x c e) hc nch ho (I.freeC x c e),hd⟩
 refine⟨I.ok,I.os,hg,⟨fun b o e n hb hx=>?_,fun b o e n hb hx=>?_,fun b o e n hx=>?_,fun b o e hx=>?_,fun b xs e=>tups b xs (I.base.tups b xs e),fun b o xs e=>frzs b o xs (I.base.frzs b o xs e),fun b ps e=>?_⟩,?_,fun x c e=>?_,?_,fun x c e=>?_,fun p hp=>?_,hok,I.len⟩
 .exact keep b o (neL b o e) hb (neC b o e hx) (I.base.keep b o e n hb hx) (I.base.free b o e n hx)
 .obtain ⟨sl,e1⟩:=I.base.slot b o e n hb hx
  obtain⟨sl',e2⟩:=slot b _ (neL b o e) hb (neC b o e hx) e1 (I.base.free b o e n hx);exact⟨sl',e2⟩
 .obtain ⟨o',e1⟩:=I.base.there b o e hx
  exact free b o' (neC b o e hx) e1 (I.base.free b o e n hx)
 .obtain ⟨o',e1⟩:=I.base.there b o e hx
  exact there b o' (neC b o e hx) e1
 .obtain ⟨m1,e1⟩:=I.base.tbls b ps e
  obtain⟨m2,e2⟩:=tbls b _ e1;exact⟨m1++m2,by rw[e2,Array.append_assoc]⟩
 .obtain ⟨m,hn,hl⟩:=I.loc
  refine⟨m,ns m hn,fun i x v e1 e2 e3=>?_⟩;obtain⟨u,r,l⟩:=hl i x v e1 e2 e3;refine⟨u,r,?_⟩
  rcases l with l | ⟨k,c,e,z⟩
  .exact .inl l
  .exact .inr ⟨k,c,e,cellK x c e _ z⟩
 .obtain ⟨v,z⟩:=I.cell x c e
  exact⟨v,cellK x c e v z⟩
 .obtain ⟨m,⟨o,_,_,ho,_⟩,_⟩:=I.loc
  exact free _ o (fun z=>(hch _ z).2.1 rfl) ho I.free
 .obtain ⟨v,o,ho,hd⟩:=I.cell x c e
  exact free c o (fun z=>(hch c z).2.2.1 x c e rfl) ho (I.freeC x c e)
 .obtain ⟨e,n,ne,nf,d⟩:=I.pin p hp
  have nch:p.1∉ch:=fun z=>(hch p.1 z).2.2.2 p hp rfl;exact⟨keep p.1 p.2 ne nf nch e n,free p.1 p.2 nch e n,ne,nf,d⟩
theorem Inv.un {t':Nat}(I:Inv X pins σ H s)(u:Un X.fs [] H H' s.heap h')(hok:HOk X.prog X.w H' h'):Inv X pins σ H' { s with heap:=h',toks:=t' }:=by
 obtain⟨m,⟨o,es,ep,ho,r⟩,_⟩:=id I.loc;obtain⟨sl,hL⟩:=u.any ho I.free (by simp)
 exact I.step (g':=s.gens) (d':=s.drawn) (ch:=[]) (fun _ z=>nomatch z) (fun b o _ hb _ e n=>u.keep b o e n hb (by simp)) (fun b o _ hb _ e n=>u.slot b o e n hb (by simp)) (fun b o _ e n=>u.free b o e n (by simp)) (fun b o _ e=>u.there b o e (by simp)) u.tups u.frzs u.tbls (fun m' hm=>by
  obtain⟨o',es',ep',ho',r'⟩:=hm;rw[ho] at ho'; cases ho'
  exact⟨_,es',ep',hL,r'⟩) hok I.bare
theorem Inv.call {g':Array GenState}{t':Nat}{d':Drawn}{ch:List Addr}(I:Inv X pins σ H s)(u:Un (frs X.stack) ch H H' s.heap h')(hok:HOk X.prog X.w H' h')(hg:AllBare g')
  (hch:∀b∈ch,(b∈X.ex\/X.s₀.heap.objs.size<=b)/\b≠X.env.locals/\(∀x c,X.env.cells.lookup x=some c->c≠b)/\∀p∈X.pn++pins,p.1≠b) :
  Inv X pins σ H' { s with heap:=h',gens:=g',drawn:=d',toks:=t' }:=by
 obtain⟨m,⟨o,es,ep,ho,r⟩,_⟩:=id I.loc;obtain⟨sl,hL⟩:=u.any ho I.free fun z=>(hch _ z).2.1 rfl
 exact I.step (ch:=ch) hch (fun b o hL hb hc e n=>u.keep b o e n (fun z=>(Ax.mp (I.stkSub b z)).elim hL hb) hc) (fun b o _ _ hc e n=>u.any e n hc) (fun b o hc e n=>u.free b o e n hc) (fun b o hc e=>u.there b o e hc) u.tups u.frzs u.tbls (fun m' hm=>by
  obtain⟨o',es',ep',ho',r'⟩:=hm;rw[ho] at ho'; cases ho'
  exact⟨_,es',ep',hL,r'⟩) hok hg
theorem Inv.turned {t':Nat}{it:Addr}(I:Inv X pins σ H s)(k:∀b o,b≠it->s.heap.get? b=some o->h'.get? b=some o)(hn:H it=none)(hL:it≠X.env.locals)
  (h1:it∈X.ex\/X.s₀.heap.objs.size<=it) (h2:∀x c,X.env.cells.lookup x=some c->c≠it) (h3:∀p∈X.pn++pins,p.1≠it):Inv X pins σ H { s with heap:=h',toks:=t' }:=by
 have nit:∀b u,H b=some u->b≠it:=fun b u e z=>by rw[z,hn] at e; cases e
 refine I.step (g':=s.gens) (d':=s.drawn) (ch:=[it]) (fun b hb=>?_) (fun b o _ _ hc e _=>k b o (fun z=>hc (by simp[z])) e) (fun b o _ _ hc e _=>⟨o.slots,k b o (fun z=>hc (by simp[z])) e⟩) (fun _ _ _ _ n=>n)
  (fun b o hc e=>⟨o,k b o (fun z=>hc (by simp[z])) e⟩) (fun _ _ e=>e) (fun _ _ _ e=>e) (fun b ps e=>⟨#[],by rw[e]; simp⟩) (fun m hm=>?_) (fun b u e=>?_) I.bare
 .have e:b=it:=by simpa using hb
  subst e;exact⟨h1,hL,h2,h3⟩
 .obtain ⟨o,es,ep,ho,r⟩:=hm
  exact⟨o,es,ep,k _ o (Ne.symm hL) ho,r⟩
 .refine (I.hok b u e).stay (fun c v hc q=>k c v ?_ q) (fun _ q=>q) fun _ _ q=>q
  rcases hc with z | z
  .rw [z]; exact nit b u e
  .exact nit c _ z
theorem Inv.tok (I:Inv X pins σ H s)(t:Nat):Inv X pins σ H { s with toks:=t }:=I.un (h':=s.heap) (t':=t) Un.refl I.hok
theorem Inv.kept {t':Nat}(I:Inv X pins σ H s)(k:∀b u,s.heap.get? b=some u->h'.get? b=some u):Inv X pins σ H { s with heap:=h',toks:=t' }:=I.un (Un.kept k) (I.hok.kept k)
theorem Inv.laid {a:Addr}{o:HO}{t':Nat}(I:Inv X pins σ H s)(k:∀b u,s.heap.get? b=some u->h'.get? b=some u)(hp:s.heap.objs.size<=a)(new:ObjOk X.prog X.w (upd H a o) h' a o):
  Inv X pins σ (upd H a o) { s with heap:=h',toks:=t' }:=I.un (Un.laid k hp (I.hok.fresh hp)) (I.hok.laid k hp new)
theorem Inv.write {x e:Addr}{o:HO}{t':Nat}(I:Inv X pins σ H s)(mu:Mut (H x))(he:e=x\/H e=some (.own x))(k:∀b u,b≠e->s.heap.get? b=some u->h'.get? b=some u)(heo:∃u,h'.get? e=some u)
  (new:ObjOk X.prog X.w (upd H x o) h' x o):Inv X pins σ (upd H x o) { s with heap:=h',toks:=t' }:=I.un (Un.write mu he k heo) (I.hok.write mu he k heo new)
theorem Inv.weak {σ':List (Option V)}(I:Inv X pins σ H s)(hl:σ'.length=σ.length)(w:∀(i:Nat) v,σ'[i]?=some (some v)->σ[i]?=some (some v)):Inv X pins σ' H s :=
 ⟨I.ok,I.os,I.bare,I.base,let ⟨m,hn,hl'⟩:=I.loc; ⟨m,hn,fun i x v e1 e2 e3=>hl' i x v e1 (w i v e2) e3⟩,I.cell,I.free,I.freeC,I.pin,I.hok,hl.trans I.len⟩
theorem Inv.pins_of {pins':List (Addr×Obj)}(I:Inv X pins σ H s)(h:∀p∈pins',s.heap.get? p.1=some p.2/\H p.1=none/\p.1≠X.env.locals/\p.1∉X.fs/\∀v,p.2.data≠.cell v):Inv X pins' σ H s :=
 ⟨I.ok,I.os,I.bare,I.base,I.loc,I.cell,I.free,I.freeC,fun p hp=>(AS.mp hp).elim (fun z=>I.pin p (BO _ z)) (h p),I.hok,I.len⟩
theorem gP {N:List Str}(hN:N.Nodup){i j:Nat}{x:Str}(a:N[i]?=some x)(b:N[j]?=some x):i=j:=by
 obtain⟨h1,e1⟩:=AI.mp a;obtain⟨h2,e2⟩:=AI.mp b;exact(List.getElem_inj hN).mp (e1.trans e2.symm)
theorem aB {M:Model}{A:Around}{E:Value->Shared->Prop}{i:Nat}{x:Str}{v:V}{u:Value}{Q:Unit->Shared->Prop}(I:Inv X pins σ H s)(hN:X.N.Nodup)(hi:X.N[i]?=some x)(hx:Loc X.env.scope x)(r:RelV v u)
  (h:∀s',Inv X pins (σ.set i (some v)) H s'->(∃a,Heap.SameBut a s.heap s'.heap/\(a=X.env.locals\/X.env.cells.lookup x=some a))->Q () s') (hf:X.fn x=true\/X.env.scope.names.lookup x=some .local:=by first | exact .inl rfl | exact .inr rfl | assumption):wpAny M A (storeName X.env x u) Q E s:=by
 obtain⟨m,hn,hl⟩:=id I.loc;have hcls:(X.env.scope.kind==.class || (X.env.scope.kind==.module&&X.env.locals != X.env.globals))=false:=by rw[I.ok.kind]; rfl
 have hiσ:i < σ.length:=by rw[I.len]; exact(AI.mp hi).1
 have cne:=I.cne
 have tracked:∀{a:Addr} {h':Heap},(∃o,s.heap.get? a=some o/\H a=none)->Heap.SameBut a s.heap h'->HOk X.prog X.w H h':=fun {a h'} ha hs b ob e=>by
  obtain⟨_,_,hfree⟩:=ha;refine(I.hok b ob e).stay (fun c w' hc q=>(hs.2 c ?_).trans q) (fun _ q=>q) fun _ _ q=>q;rintro rfl
  rcases hc with rfl | hc
  .rw [hfree] at e; cases e
  .rw [hfree] at hc; cases hc
 rcases hx with hk | hk
 .refine wpAny_storeName_local hk hn (fun h' hn' hs=>?_) hcls
  obtain⟨oL,_,_,hoL,_⟩:=id hn;refine h _ ⟨I.ok,I.os,I.bare,⟨fun b o e n hb hx=>?_,fun b o e n hb hx=>?_,I.base.free,fun b o e hx=>?_,I.base.tups,I.base.frzs,I.base.tbls⟩,⟨_,hn',fun j y v' e1 e2 e3=>?_⟩,fun y c e=>?_,I.free,I.freeC,fun p hp=>?_,tracked ⟨oL,hoL,I.free⟩ hs,by simpa using I.len⟩ ⟨_,hs,.inl rfl⟩
  .exact (hs.2 b (A5 (AV (AF e) I.ok.above))).trans (I.base.keep b o e n hb hx)
  .obtain ⟨sl,e1⟩:=I.base.slot b o e n hb hx
   exact⟨sl,(hs.2 b (A5 (AV (AF e) I.ok.above))).trans e1⟩
  .obtain ⟨o',e1⟩:=I.base.there b o e hx
   exact⟨o',(hs.2 b (A5 (AV (AF e) I.ok.above))).trans e1⟩
  .by_cases hj:j=i
   .subst hj
    rw[hi] at e1; cases e1
    rw[List.getElem?_set_self hiσ] at e2;cases e2;exact⟨u,r,.inl ⟨hk,by simp⟩⟩
   .rw [BP (Ne.symm hj)] at e2
    obtain⟨u',r',q⟩:=hl j y v' e1 e2 e3;refine⟨u',r',?_⟩
    rcases q with ⟨k,e⟩ | ⟨k,c,e,z⟩
    .refine .inl ⟨k,?_⟩
     have:y≠x:=fun e=>hj (gP hN e1 (e▸hi))
     simp[this,e]
    .exact .inr ⟨k,c,e,z.sameBut hs (cne y c e)⟩
  .obtain ⟨w',z⟩:=I.cell y c e
   exact⟨w',z.sameBut hs (cne y c e)⟩
  .obtain ⟨e,n,ne,nf,d⟩:=I.pin p hp
   exact⟨(hs.2 p.1 ne).trans e,n,ne,nf,d⟩
 .have hfn:X.fn x=true:=by
   rcases hf with z | z
   .exact z
   .rw [z] at hk; cases hk
  obtain⟨c,hc⟩:=I.ok.has x (.inl hk);obtain⟨w',z⟩:=I.cell x c hc;refine wpAny_storeName_cell I.ok.kind hk hc z (fun h' hc' hs=>?_);obtain⟨oc,hoc,hocd⟩:=id z;refine h { s with heap:=h' } ⟨I.ok,I.os,I.bare,⟨fun b o e n hb hx=>?_,fun b o e n hb hx=>?_,I.base.free,fun b o e hx=>?_,I.base.tups,I.base.frzs,I.base.tbls⟩,⟨m,hn.sameBut hs (Ne.symm (cne x c hc)),fun j y v' e1 e2 e3=>?_⟩,fun y c' e=>?_,I.free,I.freeC,fun p hp=>?_,tracked ⟨oc,hoc,I.freeC x c hc⟩ hs,by simpa using I.len⟩ ⟨c,hs,.inr hc⟩
  .exact (hs.2 b (A5 (AV (AF e) (I.ok.cab x c hfn hc)))).trans (I.base.keep b o e n hb hx)
  .obtain ⟨sl,e1⟩:=I.base.slot b o e n hb hx
   exact⟨sl,(hs.2 b (A5 (AV (AF e) (I.ok.cab x c hfn hc)))).trans e1⟩
  .obtain ⟨o',e1⟩:=I.base.there b o e hx
   exact⟨o',(hs.2 b (A5 (AV (AF e) (I.ok.cab x c hfn hc)))).trans e1⟩
  .by_cases hj:j=i
   .subst hj
    rw[hi] at e1; cases e1
    rw[List.getElem?_set_self hiσ] at e2;cases e2;exact⟨u,r,.inr ⟨.inl hk,c,hc,hc'⟩⟩
   .rw [BP (Ne.symm hj)] at e2
    obtain⟨u',r',q⟩:=hl j y v' e1 e2 e3;refine⟨u',r',?_⟩
    rcases q with q | ⟨k,c',e,z'⟩
    .exact .inl q
    .refine .inr ⟨k,c',e,z'.sameBut hs ?_⟩
     rintro rfl;exact hj (gP hN e1 (I.ok.inj _ _ _ e hc▸hi))
  .by_cases hcc:c'=c
   .subst hcc; exact⟨_,hc'⟩
   .obtain ⟨w2,z2⟩:=I.cell y c' e
    exact⟨w2,z2.sameBut hs hcc⟩
  .obtain ⟨e,n,ne,nf,d⟩:=I.pin p hp
   refine⟨(hs.2 p.1 ?_).trans e,n,ne,nf,d⟩;intro q;rw[q,hoc] at e;have q':oc=p.2:=Ao e;exact d w' (by rw[<- q']; exact hocd)
theorem aL {M:Model}{A:Around}{E:Value->Shared->Prop}{i:Nat}{x:Str}{v:V}{u:Value}{Q:Unit->Shared->Prop}(I:Inv X pins σ H s)(hN:X.N.Nodup)(hi:X.N[i]?=some x)(hx:Loc X.env.scope x)(r:RelV v u)
  (h:∀s',Inv X pins (σ.set i (some v)) H s'->Q () s') (hf:X.fn x=true\/X.env.scope.names.lookup x=some .local:=by first | exact .inl rfl | exact .inr rfl | assumption):wpAny M A (storeName X.env x u) Q E s :=
 aB I hN hi hx r (fun s' I' _=>h s' I') hf
end
abbrev XK:=Value->Option Addr->Hp->Prop
abbrev St:=List (Option V)
abbrev VK:=V->Hp->Prop
abbrev TE:=St->Hp->VK->Prop
abbrev TT:=St->Hp->(Bool->Hp->Prop)->Prop
abbrev TA:=St->Hp->(List V->Hp->Prop)->Prop
structure mO where
 nx:St->Hp->Prop
 rt:VK
 bk:St->Hp->Prop:=fun _ _=>False
 ct:St->Hp->Prop:=fun _ _=>False
abbrev TS:=mO->St->Hp->Prop
def EP (X:Cx)(pins:List (Addr×Obj))(σ:St)(Q:VK)(u:Value)(s':Shared):Prop:=∃v H',Inv X pins σ H' s'/\RelV v u/\Q v H'
def TP (X:Cx)(pins:List (Addr×Obj))(σ:St)(Q:Bool->Hp->Prop)(b:Bool)(s':Shared):Prop:=∃H',Inv X pins σ H' s'/\Q b H'
def AP (X:Cx)(pins:List (Addr×Obj))(σ:St)(Q:List V->Hp->Prop)(us:List Value)(s':Shared):Prop:=∃vs H',Inv X pins σ H' s'/\Vals vs us/\Q vs H'
def SP (X:Cx)(pins:List (Addr×Obj))(D:mO)(f:Flow)(s':Shared):Prop :=
 match f with
 |.next=>∃σ' H',Inv X pins σ' H' s'/\D.nx σ' H'
 |.brk=>∃σ' H',Inv X pins σ' H' s'/\D.bk σ' H'
 |.cont=>∃σ' H',Inv X pins σ' H' s'/\D.ct σ' H'
 |.ret u=>∃v σ' H',Inv X pins σ' H' s'/\RelV v u/\D.rt v H'
def PE (X:Cx)(e:Expr)(t:TE):Prop :=
 ∀(pins:List (Addr×Obj)) (s:Shared) (σ:St) (H:Hp) (Q:VK),Inv X pins σ H s->t σ H Q->wpAny (model X.prog X.w) X.A (eval e X.env) (EP X pins σ Q) X.xe s
def PT (X:Cx)(e:Expr)(t:TT):Prop :=
 ∀(pins:List (Addr×Obj)) (s:Shared) (σ:St) (H:Hp) (Q:Bool->Hp->Prop),Inv X pins σ H s->t σ H Q->wpAny (model X.prog X.w) X.A (isTrue e X.env (eval e X.env)) (TP X pins σ Q) X.xe s
def PW (X:Cx)(e:Expr)(t:TT):Prop :=
 ∀(whole:Sem Value) (pins:List (Addr×Obj)) (s:Shared) (σ:St) (H:Hp) (Q:Bool->Hp->Prop),Inv X pins σ H s->t σ H Q->wpAny (model X.prog X.w) X.A (isTrue e X.env whole) (TP X pins σ Q) X.xe s
theorem PW.pt {X:Cx}{e:Expr}{t:TT}(h:PW X e t):PT X e t:=h _
def PA (X:Cx)(es:List Expr)(t:TA):Prop :=
 ∀(pos:Pos) (pins:List (Addr×Obj)) (s:Shared) (σ:St) (H:Hp) (Q:List V->Hp->Prop),Inv X pins σ H s->t σ H Q->wpAny (model X.prog X.w) X.A (spliced (backTo pos (starEach es X.env))) (AP X pins σ Q) X.xe s
def PS (X:Cx)(st:Stmt)(t:TS):Prop :=
 ∀(pins:List (Addr×Obj)) (s:Shared) (σ:St) (H:Hp) (D:mO),Inv X pins σ H s->t D σ H->wpAny (model X.prog X.w) X.A (exec st X.env) (SP X pins D) X.xe s
def PSs (X:Cx)(st:List Stmt)(t:TS):Prop :=
 ∀(pins:List (Addr×Obj)) (s:Shared) (σ:St) (H:Hp) (D:mO),Inv X pins σ H s->t D σ H->wpAny (model X.prog X.w) X.A (execs st X.env) (SP X pins D) X.xe s
theorem thn {α:Type}{t:Sem α}{Q Q':α->Shared->Prop}{M:Model}{A:Around}{E:Value->Shared->Prop}{s:Shared}(h:wpAny M A t Q E s)(hQ:∀a s,Q a s->Q' a s):wpAny M A t Q' E s:=Bd h hQ fun _ _ x=>x
section
variable {X:Cx}
inductive IVar (i:Nat)(σ:St)(H:Hp)(Q:VK):Prop
 |mk (v:V) (h:σ[i]?=some (some v)) (q:Q v H):IVar i σ H Q
def tVar (i:Nat):TE:=fun σ H Q=>IVar i σ H Q
def tC (v:V):TE:=fun _ H Q=>Q v H
theorem tE {i:Nat}{x:Str}{pos:Pos}(hN:X.N[i]?=some x)(hv:Vis X.env.scope x)(hd:(x==("__debug__" : Str))=false:=by decide)(hcd:(x==("__classdict__" : Str))=false:=by decide):PE X (.Name x pos) (tVar i):=by
 intro pins s σ H Q I h;obtain⟨v,e,h⟩:=h;obtain⟨m,hn,hl⟩:=I.loc;obtain⟨u,r,l⟩:=hl i x v hN e hv;have fin:EP X pins σ Q u s:=⟨v,H,I,r,h⟩
 rcases l with ⟨hk,hm⟩ | ⟨hk,c,hc,hcell⟩
 .exact wpAny_Name (wpAny_loadName_local I.ok.kind hk hn hm fin) hd
 .rcases hk with hk | hk
  .exact wpAny_Name (wpAny_loadName_cell I.ok.kind hk hc hcell fin) hd
  .exact wpAny_Name (wpAny_loadName_free I.ok.kind hk hc hcell fin hcd) hd
theorem pe_int {i j pos}:PE X (.Constant (.int i) j pos) (tC (.int i)):=fun _ _ _ H _ I h=>wpAny_Constant_int ⟨.int i,H,I.tok _,⟨_,rfl⟩,h⟩
theorem pe_bl {b j pos}:PE X (.Constant (.bool b) j pos) (tC (.bl b)):=fun _ _ _ H _ I h=>Constant_bool ⟨.bl b,H,I,rfl,h⟩
theorem pe_non {j pos}:PE X (.Constant .none j pos) (tC .non):=fun _ _ _ H _ I h=>Constant_none ⟨.non,H,I,rfl,h⟩
theorem pe_str {x j pos}:PE X (.Constant (.str x) j pos) (tC (.str x)):=fun _ _ _ H _ I h=>Calls.Constant_str ⟨.str x,H,I.tok _,⟨_,rfl⟩,h⟩
def Gl (X:Cx)(x:Str):Prop:=X.env.kindOf x=some .globalImplicit
theorem ld_glob {E:Value->Shared->Prop}{pins:List (Addr×Obj)}{s:Shared}{σ:St}{H:Hp}{x:Str}{u:Value}{pos:Pos}{Q:Value->Shared->Prop}(I:Inv X pins σ H s)(hg:Gl X x)(hm:X.mg x=some u)(h:Q u s)
  (hd:(x==("__debug__" : Str))=false:=by decide):wpAny (model X.prog X.w) X.A (eval (.Name x pos) X.env) Q E s :=
 Calls.Name_function_global I.ok.kind hg (Calls.loadGlobal_global (by rw[I.ok.glob]; exact I.mod.glob.keeps I.bk) hm h) hd
theorem mU {E:Value->Shared->Prop}{pins:List (Addr×Obj)}{s:Shared}{σ:St}{H:Hp}{x:Str}{u:Value}{pos:Pos}{Q:Value->Shared->Prop}(I:Inv X pins σ H s)(hg:Gl X x)(hm:X.mg x=none)(hv:bootBuiltins x=some u)(h:Q u s)
  (hn:x ≠ "__name__":=by decide) (hd:(x==("__debug__" : Str))=false:=by decide):wpAny (model X.prog X.w) X.A (eval (.Name x pos) X.env) Q E s:=by
 obtain⟨mb,h1,h2⟩:=I.mod.blt;exact Calls.Name_function_global I.ok.kind hg (Calls.loadGlobal_builtin (by rw[I.ok.glob]; exact I.mod.glob.keeps I.bk) hm (by rw[I.ok.blt]; exact h1.keeps I.bk) ((h2 x hn).trans hv) h) hd
theorem pe_bltn {x:Str}{v:V}{u:Value}{pos:Pos}(hg:Gl X x)(hm:X.mg x=none)(hv:bootBuiltins x=some u)(r:RelV v u)(hn:x ≠ "__name__":=by decide)(hd:(x==("__debug__" : Str))=false:=by decide):PE X (.Name x pos) (tC v) :=
 fun _ _ _ H _ I h=>mU I hg hm hv ⟨v,H,I,r,h⟩ hn hd
variable {a b:Expr}{ta tb:TE}{pos:Pos}
inductive IBl (Q:Bool->Hp->Prop)(x:V)(H:Hp):Prop
 |mk (c:Bool) (h:x=.bl c) (q:Q c H):IBl Q x H
def tB (t:TE):TT:=fun σ H Q=>t σ H (IBl Q)
theorem pt_val {e:Expr}{t:TE}(h:PE X e t)(he:∀whole,isTrue e X.env whole=(do let v <- whole; standAt e.pos; holding [v] (truthy v)):=by intro _; rfl):PT X e (tB t):=by
 intro pins s σ H Q I hw;refine isTrue_plain (thn (h pins s σ H _ I hw) fun v s1 ⟨x,H1,I1,r1,q1⟩=>?_) (he _);obtain⟨d,rfl,q⟩:=q1;cases r1;exact BD ⟨H1,I1,q⟩
variable {tA tB':TT}{lQ:List Expr}
def tAnd (t u:TT):TT:=fun σ H Q=>t σ H fun c H1=>if c=true then u σ H1 Q else Q false H1
def tOr (t u:TT):TT:=fun σ H Q=>t σ H fun c H1=>if c=true then Q true H1 else u σ H1 Q
def tNot (t:TT):TT:=fun σ H Q=>t σ H fun c H1=>Q (!c) H1
theorem pw_and1 (ha:PT X a tA):PW X (.BoolOp .And [a] pos) tA:=by
 intro wh pins s σ H Q I h;refine isTrue_and (thn (ha pins s σ H Q I h) fun c s1 e=>?_)
 cases c with
 |true=>exact isTrue_and_nil e
 |false=>exact e
theorem pw_or1 (ha:PT X a tA):PW X (.BoolOp .Or [a] pos) tA:=by
 intro wh pins s σ H Q I h;refine isTrue_or (thn (ha pins s σ H Q I h) fun c s1 e=>?_)
 cases c with
 |false=>exact isTrue_or_nil e
 |true=>exact e
theorem pw_and (ha:PT X a tA)(hb:PW X (.BoolOp .And (b::lQ) pos) tB'):PW X (.BoolOp .And (a::b::lQ) pos) (tAnd tA tB'):=by
 intro wh pins s σ H Q I h;refine isTrue_and (thn (ha pins s σ H _ I h) fun c s1 ⟨H1,I1,q1⟩=>?_)
 cases c with
 |true=>exact hb wh pins s1 σ H1 Q I1 q1
 |false=>exact⟨H1,I1,q1⟩
theorem pw_or (ha:PT X a tA)(hb:PW X (.BoolOp .Or (b::lQ) pos) tB'):PW X (.BoolOp .Or (a::b::lQ) pos) (tOr tA tB'):=by
 intro wh pins s σ H Q I h;refine isTrue_or (thn (ha pins s σ H _ I h) fun c s1 ⟨H1,I1,q1⟩=>?_)
 cases c with
 |true=>exact⟨H1,I1,q1⟩
 |false=>exact hb wh pins s1 σ H1 Q I1 q1
theorem pt_not (ha:PT X a tA):PT X (.UnaryOp .Not a pos) (tNot tA):=by
 intro pins s σ H Q I h;exact isTrue_not (ha pins s σ H (fun c H1=>Q (!c) H1) I h)
def tAndV (ta tb:TE):TE:=fun σ H Q=>ta σ H fun x H1=>∃c,x=.bl c/\if c=true then tb σ H1 Q else Q (.bl false) H1
def tOrV (ta tb:TE):TE:=fun σ H Q=>ta σ H fun x H1=>∃c,x=.bl c/\if c=true then Q (.bl true) H1 else tb σ H1 Q
def tNotV (ta:TE):TE:=fun σ H Q=>ta σ H fun x H1=>∃c,x=.bl c/\Q (.bl (!c)) H1
theorem pe_one {op}{t:TE}(h:PE X a t):PE X (.BoolOp op [a] pos) t:=fun pins s σ H Q I hw=>BoolOp_one (h pins s σ H Q I hw)
theorem pe_and (ha:PE X a ta)(hb:PE X (.BoolOp .And (b::lQ) pos) tb):PE X (.BoolOp .And (a::b::lQ) pos) (tAndV ta tb):=by
 intro pins s σ H Q I h;refine BoolOp_and (thn (ha pins s σ H _ I h) fun v s1 ⟨x,H1,I1,r1,q1⟩=>?_);obtain⟨c,rfl,q1⟩:=q1;cases r1;refine BD ?_
 cases c with
 |true=>exact hb pins s1 σ H1 Q I1 q1
 |false=>exact⟨.bl false,H1,I1,rfl,q1⟩
theorem pe_or (ha:PE X a ta)(hb:PE X (.BoolOp .Or (b::lQ) pos) tb):PE X (.BoolOp .Or (a::b::lQ) pos) (tOrV ta tb):=by
 intro pins s σ H Q I h;refine BoolOp_or (thn (ha pins s σ H _ I h) fun v s1 ⟨x,H1,I1,r1,q1⟩=>?_);obtain⟨c,rfl,q1⟩:=q1;cases r1;refine BD ?_
 cases c with
 |false=>exact hb pins s1 σ H1 Q I1 q1
 |true=>exact⟨.bl true,H1,I1,rfl,q1⟩
theorem pe_not (ha:PE X a ta):PE X (.UnaryOp .Not a pos) (tNotV ta):=by
 intro pins s σ H Q I h;refine UnaryOp_ (thn (ha pins s σ H _ I h) fun v s1 ⟨x,H1,I1,r1,q1⟩=>?_);obtain⟨c,rfl,q1⟩:=q1;cases r1;exact not_of (BD ⟨.bl (!c),H1,I1,rfl,q1⟩)
def tIf (t:TT)(ta tb:TE):TE:=fun σ H Q=>t σ H fun c H1=>if c=true then ta σ H1 Q else tb σ H1 Q
theorem eE {c:Expr}(hc:PT X c tA)(ha:PE X a ta)(hb:PE X b tb):PE X (.IfExp c a b pos) (tIf tA ta tb):=by
 intro pins s σ H Q I h;refine wpAny_IfExp (thn (hc pins s σ H _ I h) fun d s1 ⟨H1,I1,q1⟩=>?_)
 cases d with
 |true=>exact ha pins s1 σ H1 Q I1 q1
 |false=>exact hb pins s1 σ H1 Q I1 q1
end
def SqL (K:DY)(H:Hp)(a:Addr)(xs:List V):Prop :=
 Rd H a (.lst xs) \/
  ∃(o:Obj) (its:Array Value) (n:Nat),K.lookup a=some o/\o.cls=.type "list"/\o.dict=none/\o.data=.seq its n/\its.size<=sizeLine/\Vals xs its.toList
def SqT (K:DY)(H:Hp)(a:Addr)(xs:List V):Prop :=
 Rd H a (.tup xs) \/
  ∃(o:Obj) (its:Array Value) (n:Nat),K.lookup a=some o/\o.cls=.type "tuple"/\o.data=.seq its n/\its.size<=sizeLine/\Vals xs its.toList
def absV:Value->Option V
 |.none=>some .non
 |.bool b=>some (.bl b)
 |.int i _=>some (.int i)
 |.str x _=>some (.str x)
 |.bytes b _=>some (.byt b)
 |.float b _=>some (.flt b)
 |.ref a=>some (.ref a)
 |.type n=>some (.ty n)
 |_=>none
theorem RelV.abs {x:V}{u:Value}(r:RelV x u):absV u=some x:=by
 cases x with
 |non=>cases r; rfl
 |bl _=>cases r; rfl
 |int _=>obtain⟨t,rfl⟩:=r; rfl
 |str _=>obtain⟨t,rfl⟩:=r; rfl
 |byt _=>obtain⟨t,rfl⟩:=r; rfl
 |flt _=>obtain⟨t,rfl⟩:=r; rfl
 |ref _=>cases r; rfl
 |ty _=>cases r; rfl
theorem RelV.inj {x y:V}{u:Value}(r:RelV x u)(q:RelV y u):x=y:=Ao (r.abs.symm.trans q.abs)
theorem Vals.inj:∀{xs ys:List V}{us:List Value},Vals xs us->Vals ys us->xs=ys
 |_,_,_,.nil,.nil=>rfl
 |_,_,_,.cons r t,.cons r' t'=>by rw[r.inj r',Vals.inj t t']
section
variable {X:Cx}{pins:List (Addr×Obj)}{σ:St}{H:Hp}{s:Shared}{a:Addr}{xs ys:List V}
theorem SqL.of {K:DY}(h:H a=some (.lst xs)):SqL K H a xs:=.inl (.inl h)
theorem SqT.of {K:DY}(h:H a=some (.tup xs)):SqT K H a xs:=.inl (.inl h)
theorem Inv.list (I:Inv X pins σ H s)(h:SqL X.K H a xs):∃its:List Value,Vals xs its/\PlainL s.heap a its.toArray/\xs.length<=sizeLine:=by
 rcases h with h | ⟨o,its,n,hk,hc,hd,hs,hz,r⟩
 .obtain ⟨z,its,n,r,e⟩:=h.ok I.hok
  exact⟨its,r,⟨_,n,e,rfl,rfl,rfl⟩,z⟩
 .refine ⟨its.toList,r,⟨o,n,I.kIn a o hk,hc,hd,by simpa using hs⟩,?_⟩
  have e:=r.length
  simp only[Array.length_toList] at e
  omega
theorem Inv.tuple (I:Inv X pins σ H s)(h:SqT X.K H a xs):∃its:List Value,Vals xs its/\IsTup s.heap a its.toArray/\xs.length<=sizeLine:=by
 rcases h with h | ⟨o,its,n,hk,hc,hs,hz,r⟩
 .obtain ⟨z,its,r,p⟩:=h.ok I.hok
  exact⟨its,r,IsTupN.is p,z⟩
 .refine ⟨its.toList,r,⟨o,I.kIn a o hk,hc,n,by simpa using hs⟩,?_⟩
  have e:=r.length
  simp only[Array.length_toList] at e
  omega
theorem Inv.list_inj (I:Inv X pins σ H s)(h:SqL X.K H a xs)(h':SqL X.K H a ys):xs=ys:=by
 obtain⟨its,r,⟨o,n,e,_,_,d⟩,_⟩:=I.list h;obtain⟨its',r',⟨o',n',e',_,_,d'⟩,_⟩:=I.list h';rw[e] at e'; cases e'
 rw[d] at d';injection d' with d1 _
 have:its=its':=by simpa using Bq Array.toList d1
 subst this;exact r.inj r'
theorem Inv.tuple_inj (I:Inv X pins σ H s)(h:SqT X.K H a xs)(h':SqT X.K H a ys):xs=ys:=by
 obtain⟨its,r,⟨o,e,_,n,d⟩,_⟩:=I.tuple h;obtain⟨its',r',⟨o',e',_,n',d'⟩,_⟩:=I.tuple h';rw[e] at e'; cases e'
 rw[d] at d';injection d' with d1 _
 have:its=its':=by simpa using Bq Array.toList d1
 subst this;exact r.inj r'
end
abbrev Cx.wish (X:Cx)(E:Value->Shared->Prop):Cx:={ X with xe:=E }
abbrev Cx.nox (X:Cx):Cx:=X.wish fun _ _=>False
theorem Cx.Ok.wish {X:Cx}(ok:X.Ok)(E:Value->Shared->Prop):(X.wish E).Ok :=
 ⟨ok.mod,ok.kind,ok.glob,ok.blt,ok.above,ok.inj,ok.has,ok.cab,ok.hd,ok.frames,ok.stk,ok.exf,ok.bs,ok.bsz,ok.noex,ok.exfs,ok.funs,ok.frf⟩
theorem Cx.Ok.unwish {X:Cx}{E:Value->Shared->Prop}(ok:(X.wish E).Ok):X.Ok :=
 ⟨ok.mod,ok.kind,ok.glob,ok.blt,ok.above,ok.inj,ok.has,ok.cab,ok.hd,ok.frames,ok.stk,ok.exf,ok.bs,ok.bsz,ok.noex,ok.exfs,ok.funs,ok.frf⟩
section
variable {X:Cx}{pins:List (Addr×Obj)}{σ:St}{H:Hp}{s:Shared}{E:Value->Shared->Prop}
theorem Inv.wish (I:Inv X pins σ H s)(E:Value->Shared->Prop):Inv (X.wish E) pins σ H s:=⟨I.ok.wish E,I.os,I.bare,I.base,I.loc,I.cell,I.free,I.freeC,I.pin,I.hok,I.len⟩
theorem Inv.unwish (I:Inv (X.wish E) pins σ H s):Inv X pins σ H s:=⟨I.ok.unwish,I.os,I.bare,I.base,I.loc,I.cell,I.free,I.freeC,I.pin,I.hok,I.len⟩
theorem SP.unwish {D:mO}{f:Flow}{s':Shared}(h:SP (X.wish E) pins D f s'):SP X pins D f s':=by
 cases f with
 |next=>obtain⟨σ',H',I,q⟩:=h; exact⟨σ',H',I.unwish,q⟩
 |brk=>obtain⟨σ',H',I,q⟩:=h; exact⟨σ',H',I.unwish,q⟩
 |cont=>obtain⟨σ',H',I,q⟩:=h; exact⟨σ',H',I.unwish,q⟩
 |ret u=>obtain⟨v,σ',H',I,r,q⟩:=h; exact⟨v,σ',H',I.unwish,r,q⟩
theorem PSs.nox {st:List Stmt}{t:TS}(h:PSs X.nox st t):PSs X st t:=fun pins s σ H D I hw =>
 Bd (h pins s σ H D (I.wish _) hw) (fun _ _ q=>q.unwish) fun _ _ z=>False.elim z
end
section
variable {X:Cx}{st:Stmt}{lQ:List Stmt}{t u:TS}{e:Expr}{te:TE}{pos:Pos}
def tNext:TS:=fun D σ H=>D.nx σ H
def tSeq (t u:TS):TS:=fun D σ H=>t { D with nx:=u D } σ H
theorem pss_nil:PSs X [] tNext:=fun _ _ σ H _ I h=>DL ⟨σ,H,I,h⟩
theorem dE (h1:PS X st t)(h2:PSs X lQ u):PSs X (st::lQ) (tSeq t u):=by
 intro pins s σ H D I h;refine wpAny_execs_cons (thn (h1 pins s σ H { D with nx:=u D } I h) fun f s1 q=>?_)
 cases f with
 |next =>
  obtain⟨σ',H',I',q⟩:=q;exact h2 pins s1 σ' H' D I' q
 |ret v=>exact q
 |brk=>exact q
 |cont=>exact q
theorem pss_one (h1:PS X st t):PSs X [st] t:=by
 intro pins s σ H D I h;refine wpAny_execs_cons (thn (h1 pins s σ H D I h) fun f s1 q=>?_)
 cases f with
 |next=>exact DL q
 |ret v=>exact q
 |brk=>exact q
 |cont=>exact q
theorem Inv.quiet {pins:List (Addr×Obj)}{σ:St}{H:Hp}{s:Shared}(I:Inv X pins σ H s):interactive X.env=false:=by simp[interactive,I.ok.kind]
def tDrop (te:TE):TS:=fun D σ H=>te σ H fun _ H1=>D.nx σ H1
theorem ps_expr (he:PE X e te)(hs:swapsWith e none pos.line X.env=pure false:=by rfl):PS X (.Expr e pos) (tDrop te):=by
 intro pins s σ H D I h;exact wpAny_Expr_any (thn (he pins s σ H _ I h) fun v s1 ⟨x,H1,I1,r1,q1⟩=>⟨σ,H1,I1,q1⟩) I.quiet hs
def tRet (te:TE):TS:=fun D σ H=>te σ H D.rt
theorem ps_ret (he:PE X e te):PS X (.Return (some e) pos) (tRet te):=by
 intro pins s σ H D I h;exact wpAny_Return_some (thn (he pins s σ H _ I h) fun v s1 ⟨x,H1,I1,r1,q1⟩=>⟨x,σ,H1,I1,r1,q1⟩)
def tIfS (c:TT)(t u:TS):TS:=fun D σ H=>c σ H fun b H1=>if b=true then t D σ H1 else u D σ H1
theorem ps_if {c:Expr}{a b:List Stmt}{tc:TT}(hc:PT X c tc)(ha:PSs X a t)(hb:PSs X b u):PS X (.If c a b pos) (tIfS tc t u):=by
 intro pins s σ H D I h;refine wpAny_If (thn (hc pins s σ H _ I h) fun d s1 ⟨H1,I1,q1⟩=>?_)
 cases d with
 |true=>exact ha pins s1 σ H1 D I1 q1
 |false=>exact hb pins s1 σ H1 D I1 q1
end
abbrev TG:=V->St->Hp->(St->Hp->Prop)->Prop
abbrev TGs:=List V->St->Hp->(St->Hp->Prop)->Prop
def PG (X:Cx)(target:Expr)(t:TG):Prop :=
 ∀(pins:List (Addr×Obj)) (s:Shared) (σ:St) (H:Hp) (v:V) (u:Value) (Q:St->Hp->Prop),Inv X pins σ H s->RelV v u->t v σ H Q ->
  wpAny (model X.prog X.w) X.A (assign target X.env u) (fun _ s'=>∃σ' H',Inv X pins σ' H' s'/\Q σ' H') X.xe s
abbrev TSet:=V->V->V->Hp->(Hp->Prop)->Prop
def PSet (X:Cx)(t:TSet):Prop :=
 ∀(pins:List (Addr×Obj)) (s:Shared) (σ:St) (H:Hp) (o i v:V) (ov iv u:Value) (Q:Hp->Prop),Inv X pins σ H s->RelV o ov->RelV i iv->RelV v u->t o i v H Q ->
  wpAny (model X.prog X.w) X.A (setItem ov iv u) (fun _ s'=>∃H',Inv X pins σ H' s'/\Q H') X.xe s
section
variable {X:Cx}{pos:Pos}
def qW (i:Nat):TG:=fun v σ H Q=>Q (σ.set i (some v)) H
theorem cF {i:Nat}{x:Str}(hN:X.N.Nodup)(hi:X.N[i]?=some x)(hx:Loc X.env.scope x)(hf:X.fn x=true\/X.env.scope.names.lookup x=some .local:=by first | exact .inl rfl | exact .inr rfl | assumption):PG X (.Name x pos) (qW i):=by
 intro pins s σ H v u Q I r h;exact wpAny_assign_Name (aL I hN hi hx r (fun s' I'=>⟨_,H,I',h⟩) hf)
def gNil:TGs:=fun vs σ H Q=>vs=[]/\Q σ H
def lP (t:TG)(u:TGs):TGs:=fun vs σ H Q=>∃v r,vs=v::r/\t v σ H fun σ' H'=>u r σ' H' Q
def gTup (K:DY)(n:Nat)(t:TGs):TG:=fun v σ H Q=>∃a xs,v=.ref a/\SqT K H a xs/\xs.length=n/\t xs σ H Q
def gSub (to ti:TE)(t:TSet):TG:=fun v σ H Q=>to σ H fun o H1=>ti σ H1 fun i H2=>t o i v H2 fun H3=>Q σ H3
theorem pg_sub {o i:Expr}{to ti:TE}{t:TSet}(ho:PE X o to)(hi:PE X i ti)(hs:PSet X t)
  (ha:∀v,assign (.Subscript o i pos) X.env v=(do
   let ov <- holding [v] (eval o X.env)
   let iv <- holding [v,ov] (eval i X.env)
   standAt pos
   holding [v,ov,iv] (setItem ov iv v)
   release [v,ov,iv] []):=by intro _; rfl):PG X (.Subscript o i pos) (gSub to ti t):=by
 intro pins s σ H v u Q I r h;rw[ha];refine AA (Af (thn (ho pins s σ H _ I h) fun ov s1 ⟨x,H1,I1,r1,q1⟩=>?_));refine AA (Af (thn (hi pins s1 σ H1 _ I1 q1) fun iv s2 ⟨y,H2,I2,r2,q2⟩=>?_));refine AA (wpAny_standAt (AA (Af (thn (hs pins s2 σ H2 x y v ov iv u _ I2 r1 r2 r q2) fun _ s3 ⟨H3,I3,q3⟩=>?_))));exact wpAny_release ⟨σ,H3,I3,q3⟩
def tAsg (te:TE)(g:TG):TS:=fun D σ H=>te σ H fun x H1=>g x σ H1 D.nx
theorem ps_asg {tg e:Expr}{te:TE}{g:TG}(he:PE X e te)(hg:PG X tg g)(hs:swapsWithSole [tg] e pos.line X.env=pure false:=by rfl)(hw:swappedStores [tg] e X.env=pure none:=by rfl)
  (h1:(assignEach [tg] X.env).map (·.2)=[assign tg X.env]:=by rfl):PS X (.Assign [tg] e pos) (tAsg te g):=by
 intro pins s σ H D I h;refine wpAny_Assign_stores (thn (he pins s σ H _ I h) fun v s1 ⟨x,H1,I1,r1,q1⟩=>?_) hs hw;rw[h1];exact thn (hg pins s1 σ H1 x v _ I1 r1 q1) fun _ s2 q=>q
theorem ps_set {i:Nat}{x:Str}{e:Expr}{te:TE}{pos':Pos}(hN:X.N.Nodup)(hi:X.N[i]?=some x)(hx:Loc X.env.scope x)(he:PE X e te)(hs:swapsWith e (some (.Name x pos')) pos.line X.env=pure false:=by rfl)(hf:X.fn x=true\/X.env.scope.names.lookup x=some .local:=by first | exact .inl rfl | exact .inr rfl | assumption):
  PS X (.Assign [.Name x pos'] e pos) (tAsg te (qW i)):=by
 intro pins s σ H D I h;refine wpAny_Assign_Name (thn (he pins s σ H _ I h) fun v s1 ⟨y,H1,I1,r1,q1⟩=>?_) hs;exact aL I1 hN hi hx r1 (fun s2 I2=>⟨_,H1,I2,q1⟩) hf
end
section
variable {X:Cx}{pos:Pos}
def tWhile (c:TT)(tb:TS):TS:=fun D σ H=>∃W:Nat->St->Hp->Prop,(∃m,W m σ H)/\∀m σ H,W m σ H ->
 c σ H fun b H1=>if b=true then ∃N:St->Hp->Prop,(∀σ' H',N σ' H'->∃m',m' < m/\W m' σ' H')/\tb { D with nx:=N,ct:=N,bk:=D.nx } σ H1 else D.nx σ H1
theorem cE {c:Expr}{body:List Stmt}{tc:TT}{tb:TS}(hp:PassesOwn (model X.prog X.w) X.A X.env X.xe)(hc:PT X c tc)(hb:PSs X body tb):PS X (.While c body [] pos) (tWhile tc tb):=by
 intro pins s σ H D I h;obtain⟨W,⟨m0,w0⟩,turn⟩:=h;refine wpAny_While (codeAny_whileLoop (fun n s'=>∃σ' H',Inv X pins σ' H' s'/\W n σ' H') ?_ m0 ⟨σ,H,I,w0⟩);rintro n s1 ⟨σ1,H1,I1,w1⟩;refine By hp (thn (hc pins s1 σ1 H1 _ I1 (turn n σ1 H1 w1)) fun b s2 ⟨H2,I2,q2⟩=>?_)
 cases b with
 |true =>
  obtain⟨N,hN,q2⟩:=q2;rw[A4 rfl];refine By hp (thn (hb pins s2 σ1 H2 _ I2 q2) fun f s3 q3=>?_)
  cases f with
  |next =>
   obtain⟨σ3,H3,I3,n3⟩:=q3;obtain⟨m',hm,w3⟩:=hN σ3 H3 n3;exact⟨m',hm,σ3,H3,I3,w3⟩
  |cont =>
   obtain⟨σ3,H3,I3,n3⟩:=q3;obtain⟨m',hm,w3⟩:=hN σ3 H3 n3;exact⟨m',hm,σ3,H3,I3,w3⟩
  |brk=>exact q3
  |ret v=>exact q3
 |false =>
  rw[Av AJ];exact DL ⟨σ1,H2,I2,q2⟩
end
structure It where
 go:Nat->Hp->Prop
 yld:Nat->Hp->V->Hp->Prop
 stop:Nat->Hp->Prop
def rL (X:Cx)(pins:List (Addr×Obj))(H:Hp)(b:Addr):Prop :=
 H b=none/\b≠X.env.locals/\b∉X.fs/\(b∈X.ex\/X.s₀.heap.objs.size<=b)/\(∀x c,X.env.cells.lookup x=some c->c≠b)/\∀p∈X.pn++pins,p.1≠b
theorem Inv.fpOk {X:Cx}{pins:List (Addr×Obj)}{σ:St}{H H':Hp}{s:Shared}{b:Addr}(I:Inv X pins σ H s)(hb:s.heap.objs.size<=b)(hn:H' b=none):rL X pins H' b:=by
 refine⟨hn,Ay (AV I.lt hb),I.nofs hb,.inr (AX I.sz hb),fun x c e z=>?_,fun p hp z=>?_⟩
 .obtain ⟨v,q⟩:=I.cell x c e
  exact absurd (AV q.lt (by rw[z]; exact hb)) (BF _)
 .exact absurd (AV (AF (I.pin p hp).1) (by rw[z]; exact hb)) (BF _)
structure yC (P:Program)(w:World)(K:DY)(tg:Expr)(J:It)(fp:List Addr)(it:Addr)(tn:Nat->Heap->Prop):Prop where
 mem:it∈fp
 obj:∀i h,tn i h->∀b∈fp,∃o,h.get? b=some o/\∀v,o.data≠.cell v
 keep:∀i h h',tn i h->(∀b∈fp,∀o,h.get? b=some o->h'.get? b=some o)->tn i h'
 item:∀(X:Cx),X.prog=P->X.w=w->X.K=K->X.calm=true->∀(i:Nat) (pins:List (Addr×Obj)) (s:Shared) (σ:St) (H:Hp) (E:Value->Shared->Prop),Inv X pins σ H s->(∀b∈fp,rL X pins H b)->tn i s.heap->J.go i H ->
  wpAny (model P w) X.A (pyNext (.ref it)) (fun r s1=>∃u,r=some u /\
   wpAny (model P w) X.A (letOwnedTupleGo tg (.ref it) u) (fun _ s2=>∃x H',Inv X pins σ H' s2/\RelV x u/\J.yld i H x H'/\tn (i+1) s2.heap/\∀b∈fp,H' b=none) E s1) E s
 done:∀(X:Cx),X.prog=P->X.w=w->X.K=K->X.calm=true->∀(i:Nat) (pins:List (Addr×Obj)) (s:Shared) (σ:St) (H:Hp) (E:Value->Shared->Prop),Inv X pins σ H s->(∀b∈fp,rL X pins H b)->tn i s.heap->J.stop i H ->
  wpAny (model P w) X.A (pyNext (.ref it)) (fun r s1=>r=none/\Inv X pins σ H s1) E s
 self:∀(A:Around) (i:Nat) (s:Shared) (Q:Value->Shared->Prop) (E:Value->Shared->Prop),tn i s.heap->Q (.ref it) s->wpAny (model P w) A (pyIter (.ref it)) Q E s
abbrev TI:=St->Hp->(It->Hp->Prop)->Prop
def PIE (X:Cx)(pins:List (Addr×Obj))(σ:St)(tg:Expr)(R:It->Hp->Prop)(itv:Value)(s2:Shared):Prop :=
 ∃(it:Addr) (fp:List Addr) (tn:Nat->Heap->Prop) (J:It) (H':Hp),itv=.ref it/\Inv X pins σ H' s2/\yC X.prog X.w X.K tg J fp it tn/\tn 0 s2.heap/\(∀b∈fp,rL X pins H' b)/\R J H'
def PI (X:Cx)(tg iter:Expr)(wi:TI):Prop :=
 ∀(pins:List (Addr×Obj)) (s:Shared) (σ:St) (H:Hp) (R:It->Hp->Prop),Inv X pins σ H s->wi σ H R ->
  wpAny (model X.prog X.w) X.A (eval iter X.env) (fun v s1=>wpAny (model X.prog X.w) X.A (pyIter v) (PIE X pins σ tg R) X.xe s1) X.xe s
theorem cP {M:Model}{A:Around}{E:Value->Shared->Prop}{s:Shared}{tg:Expr}{it:Addr}{u:Value}{o:Obj}{n:String}{vs:Array Value}{Q:Unit->Shared->Prop}(ho:s.heap.get? it=some o)(hc:o.cls=.type n)(hd:o.data=.fields vs)
  (hn:["enumerate","zip","dict_itemiterator","dict_reverseitemiterator","odict_iterator","itertools.zip_longest","itertools.pairwise"].contains n=false) (hQ:Q () s):wpAny M A (letOwnedTupleGo tg (.ref it) u) Q E s:=by
 unfold letOwnedTupleGo
 cases tg<;>first
  |exact AB hQ
  | (cases u<;>first
    |exact AB hQ
    | (refine AA (wpAny_load ho ?_)
       rw[hc,hd];show wpAny M A (if (["enumerate","zip","dict_itemiterator","dict_reverseitemiterator","odict_iterator","itertools.zip_longest","itertools.pairwise"].contains n&&vs[0]?==some (rawInt _))=true then _ else _) Q E s;rw[Av (by intro h; rw[hn,Bool.false_and] at h; cases h)]
       exact AB hQ))
def Itl (K:DY)(a:Addr):It :=
 ⟨fun i H=>∃xs x,SqL K H a xs/\xs[i]?=some x,fun i H x H'=>H'=H/\∀xs,SqL K H a xs->xs[i]?=some x,fun i H=>∃xs,SqL K H a xs/\xs.length<=i⟩
def Itt (K:DY)(a:Addr):It :=
 ⟨fun i H=>∃xs x,SqT K H a xs/\xs[i]?=some x,fun i H x H'=>H'=H/\∀xs,SqT K H a xs->xs[i]?=some x,fun i H=>∃xs,SqT K H a xs/\xs.length<=i⟩
def Itr (lo:Int)(n:Nat):It:=⟨fun i _=>i < n,fun i H x H'=>H'=H/\x=.int (lo+i),fun i _=>n<=i⟩
theorem oB {P:Program}{w:World}{K:DY}{tg:Expr}(a it:Addr):yC P w K tg (Itl K a) [it] it (fun i h=>h.IsListIter it a i) where
 mem:=by simp
 obj:=fun i h st b hb=>by
  have e:b=it:=by simpa using hb
  subst e;obtain⟨o,e,c,d⟩:=st;exact⟨o,e,fun v z=>by rw[d] at z; cases z⟩
 keep:=fun i h h' st k=>st.at fun o e=>k it (by simp) o e
 item:=by
  intro X hP hw hK hc i pins s σ H E I hf st hg;subst hP hw hK;obtain⟨xs,x,hq,hx⟩:=hg;obtain⟨its,rv,p,hz⟩:=I.list hq;obtain⟨u,hu,ru⟩:=rv.get hx;obtain⟨f0,f1,f2,f3,f4,f5⟩:=hf it (by simp);refine wpAny_pyNext_list_item st p.isList (x:=u) (by simpa using hu) fun h' st' sb=>?_;have I1:Inv X pins σ H { s with heap:=h' }:=I.turned (t':=s.toks) (fun b o hb e=>(sb.2 b hb).trans e) f0 f1 f3 f4 f5;obtain⟨o,e,c,d⟩:=id st'
  exact⟨u,rfl,cP (s:={ s with heap:=h' }) e c d (by decide) ⟨x,H,I1,ru,⟨rfl,fun ys hy=>by rw[I.list_inj hy hq]; exact hx⟩,st',fun b hb=>(hf b hb).1⟩⟩
 done:=by
  intro X hP hw hK hc i pins s σ H E I hf st hg;subst hP hw hK;obtain⟨xs,hq,hx⟩:=hg;obtain⟨its,rv,p,hz⟩:=I.list hq;obtain⟨f0,f1,f2,f3,f4,f5⟩:=hf it (by simp);have hl:=rv.length;exact wpAny_pyNext_list_end (I.ok.hd hc) st p.isList (by simp; omega) fun h' eb=>⟨rfl,I.turned (t':=s.toks) (fun b o hb e=>eb b o hb e) f0 f1 f3 f4 f5⟩
 self:=fun _ _ _ _ _ st h=>wpAny_pyIter_listiter st h
theorem oG {P:Program}{w:World}{K:DY}{tg:Expr}(a it:Addr):yC P w K tg (Itt K a) [it] it (fun i h=>h.IsTupleIter it a i) where
 mem:=by simp
 obj:=fun i h st b hb=>by
  have e:b=it:=by simpa using hb
  subst e;obtain⟨o,e,c,d⟩:=st;exact⟨o,e,fun v z=>by rw[d] at z; cases z⟩
 keep:=fun i h h' st k=>st.at fun o e=>k it (by simp) o e
 item:=by
  intro X hP hw hK hc i pins s σ H E I hf st hg;subst hP hw hK;obtain⟨xs,x,hq,hx⟩:=hg;obtain⟨its,rv,p,hz⟩:=I.tuple hq;obtain⟨u,hu,ru⟩:=rv.get hx;obtain⟨f0,f1,f2,f3,f4,f5⟩:=hf it (by simp);refine wpAny_pyNext_tuple_item st (show s.heap.IsTuple a its.toArray from p) (x:=u) (by simpa using hu) fun h' st' sb=>?_;have I1:Inv X pins σ H { s with heap:=h' }:=I.turned (t':=s.toks) (fun b o hb e=>(sb.2 b hb).trans e) f0 f1 f3 f4 f5
  obtain⟨o,e,c,d⟩:=id st';exact⟨u,rfl,cP (s:={ s with heap:=h' }) e c d (by decide) ⟨x,H,I1,ru,⟨rfl,fun ys hy=>by rw[I.tuple_inj hy hq]; exact hx⟩,st',fun b hb=>(hf b hb).1⟩⟩
 done:=by
  intro X hP hw hK hc i pins s σ H E I hf st hg;subst hP hw hK;obtain⟨xs,hq,hx⟩:=hg;obtain⟨its,rv,p,hz⟩:=I.tuple hq;obtain⟨f0,f1,f2,f3,f4,f5⟩:=hf it (by simp);have hl:=rv.length;exact wpAny_pyNext_tuple_end (I.ok.hd hc) st (show s.heap.IsTuple a its.toArray from p) (by simp; omega) fun h' eb=>⟨rfl,I.turned (t':=s.toks) (fun b o hb e=>eb b o hb e) f0 f1 f3 f4 f5⟩
 self:=fun _ _ _ _ _ st h=>wpAny_pyIter_tupleiter st h
theorem rH {P:Program}{w:World}{K:DY}{tg:Expr}(it:Addr)(lo:Int)(n:Nat):yC P w K tg (Itr lo n) [it] it (fun i h=>IsRangeIter h it (lo+(i:Nat) * 1) ((n:Int) - (i:Nat)) 1) where
 mem:=by simp
 obj:=fun i h st b hb=>by
  have e:b=it:=by simpa using hb
  subst e
  exact⟨_,st,fun v z=>by
   have z':Data.fields _=Data.cell v:=z
   cases z'⟩
 keep:=fun i h h' st k=>k it (by simp) _ st
 item:=by
  intro X hP hw hK hc i pins s σ H E I hf st hg;subst hP hw hK;obtain⟨f0,f1,f2,f3,f4,f5⟩:=hf it (by simp);have W:=Walks.range (prog:=X.prog) (w:=X.w) (I.ok.hd hc) it lo 1 n;refine W.item i s _ _ hg st fun v h' tk hv st' kk=>?_;obtain⟨t,rfl⟩:=hv;have I1:Inv X pins σ H { s with heap:=h',toks:=tk }:=I.turned (fun b o hb e=>kk b o (by simpa using hb) e) f0 f1 f3 f4 f5;refine⟨_,rfl,cP (s:={ s with heap:=h',toks:=tk }) (n:="range_iterator") st' rfl rfl (by decide) ⟨.int (lo+i),H,I1,⟨t,?_⟩,⟨rfl,rfl⟩,st',fun b hb=>(hf b hb).1⟩⟩
  rw[Int.mul_one]
 done:=by
  intro X hP hw hK hc i pins s σ H E I hf st hg;subst hP hw hK;obtain⟨f0,f1,f2,f3,f4,f5⟩:=hf it (by simp);exact wpAny_pyNext_range_end (I.ok.hd hc) st (by have:n<=i:=hg; omega) fun h' eb=>⟨rfl,I.turned (t':=s.toks) (fun b o hb e=>eb b o hb e) f0 f1 f3 f4 f5⟩
 self:=fun _ _ _ _ _ st h=>wpAny_pyIter_rangeiter st h
section
variable {X:Cx}{tg:Expr}
def iList (K:DY)(tl:TE):TI:=fun σ H R=>tl σ H fun x H1=>∃a,x=.ref a/\(∃xs,SqL K H1 a xs)/\R (Itl K a) H1
def iTup (K:DY)(tl:TE):TI:=fun σ H R=>tl σ H fun x H1=>∃a,x=.ref a/\(∃xs,SqT K H1 a xs)/\R (Itt K a) H1
theorem pi_list {l:Expr}{tl:TE}(hl:PE X l tl):PI X tg l (iList X.K tl):=by
 intro pins s σ H R I h;refine thn (hl pins s σ H _ I h) fun v s1 ⟨x,H1,I1,r1,q1⟩=>?_;obtain⟨a,e,⟨xs,hq⟩,q⟩:=q1;subst e;cases r1;obtain⟨its,rv,p,hz⟩:=I1.list hq;refine Cs p.isList ?_;refine⟨s1.heap.objs.size,[s1.heap.objs.size],_,_,H1,rfl,I1.kept (t':=s1.toks) fun b o e=>AC _ e,oB a _,⟨_,AK _ rfl,rfl,rfl⟩,fun b hb=>?_,q⟩;have e:b=s1.heap.objs.size:=by simpa using hb
 subst e;exact I1.fpOk (AG _) (I1.hok.fresh (AG _))
theorem pi_tup {l:Expr}{tl:TE}(hl:PE X l tl):PI X tg l (iTup X.K tl):=by
 intro pins s σ H R I h;refine thn (hl pins s σ H _ I h) fun v s1 ⟨x,H1,I1,r1,q1⟩=>?_;obtain⟨a,e,⟨xs,hq⟩,q⟩:=q1;subst e;cases r1;obtain⟨its,rv,p,hz⟩:=I1.tuple hq;refine Cp (show s1.heap.IsTuple a its.toArray from p) ?_;refine⟨s1.heap.objs.size,[s1.heap.objs.size],_,_,H1,rfl,I1.kept (t':=s1.toks) fun b o e=>AC _ e,oG a _,⟨_,AK _ rfl,rfl,rfl⟩,fun b hb=>?_,q⟩
 have e:b=s1.heap.objs.size:=by simpa using hb
 subst e;exact I1.fpOk (AG _) (I1.hok.fresh (AG _))
theorem gE {pins:List (Addr×Obj)}{σ:St}{H:Hp}{s:Shared}{R:It->Hp->Prop}{E:Value->Shared->Prop}{lo hi:Int}{t u v:Tok}{tk:Nat}(I:Inv X pins σ H s)(h1 : -(2 ^ 62)<=lo)(h2:lo < 2 ^ 62)(h3 : -(2 ^ 62)<=hi)(h4:hi < 2 ^ 62)
  (q:R (Itr lo (hi - lo).toNat) H):wpAny (model X.prog X.w) X.A (pyIter (.ref s.heap.objs.size)) (PIE X pins σ tg R) E { s with heap:=s.heap.push { cls:=.type "range",data:=.fields #[.int lo t,.int hi u,.int 1 v] },toks:=tk }:=by
 refine wpAny_pyIter_range (IsRange.new ..) (small_one h1 h2 h3 h4) ?_;have I1:Inv X pins σ H { s with heap:=s.heap.push { cls:=.type "range",data:=.fields #[.int lo t,.int hi u,.int 1 v] },toks:=tk }:=I.kept fun b o e=>AC _ e
 refine⟨(s.heap.push { cls:=.type "range",data:=.fields #[.int lo t,.int hi u,.int 1 v] }).objs.size,[(s.heap.push { cls:=.type "range",data:=.fields #[.int lo t,.int hi u,.int 1 v] }).objs.size],_,_,H,rfl,
  I1.kept (t':=tk) fun b o e=>AC _ e,rH _ lo (hi - lo).toNat,?_,fun b hb=>?_,q⟩
 .have e1:lo+((0:Nat):Int) * 1=lo:=by simp
  have e2:(((hi - lo).toNat:Nat):Int) - ((0:Nat):Int)=Builtin.Range.rangeSize lo hi 1:=by rw[rangeSize_one]; split<;>omega
  show IsRangeIter _ _ (lo+((0:Nat):Int) * 1) ((((hi - lo).toNat:Nat):Int) - ((0:Nat):Int)) 1;rw[e1,e2];exact AK _ rfl
 .have e:b=(s.heap.push { cls:=.type "range",data:=.fields #[.int lo t,.int hi u,.int 1 v] }).objs.size:=by simpa using hb
  subst e;exact I1.fpOk (AG _) (I1.hok.fresh (AG _))
def iRng1 (ta:TA):TI:=fun σ H R=>ta σ H fun vs H1=>∃j:Int,vs=[.int j]/\-(2 ^ 62)<=j/\j < 2 ^ 62/\R (Itr 0 j.toNat) H1
theorem xM {a:Expr}{ta:TA}{p pos:Pos}(hg:Gl X "range")(hm:X.mg "range" = none)(ha:PA X [a] ta)(hs:starEach [a] X.env=[(false,eval a X.env)]:=by rfl):PI X tg (.Call (.Name "range" p) [a] [] pos) (iRng1 ta):=by
 intro pins s σ H R I h;refine Call_ (mU I hg hm boot_range (Co (thn (ha pos pins s σ H _ I h) fun us s1 ⟨vs,H1,I1,r1,q1⟩=>?_) hs rfl));obtain⟨j,e,q1,q2,q⟩:=q1;subst e
 cases r1 with
 |cons r rr =>
  cases rr;obtain⟨t,rfl⟩:=r;exact call_range_1 (gE I1 (by omega) (by omega) q1 q2 (by simpa using q))
def tFor (wi:TI)(g:TG)(tb:TS):TS:=fun D σ H=>wi σ H fun J H1=>∃W:Nat->Nat->St->Hp->Prop,(∃m,W 0 m σ H1)/\∀i m σ H,W i m σ H ->
 (J.stop i H/\D.nx σ H)\/(J.go i H/\∃N:St->Hp->Prop,(∀σ' H',N σ' H'->∃m',m' < m/\W (i+1) m' σ' H')/\∀x H',J.yld i H x H'->g x σ H' fun σ2 H2=>tb { D with nx:=N,ct:=N,bk:=D.nx } σ2 H2)
def kU (fp:List Addr)(h:Heap):List (Addr×Obj):=fp.filterMap fun b=>(h.get? b).map fun o=>(b,o)
theorem oK {fp:List Addr}{h:Heap}{b:Addr}{o:Obj}(hb:b∈fp)(e:h.get? b=some o):(b,o)∈kU fp h:=List.mem_filterMap.mpr ⟨b,hb,by rw[e]; rfl⟩
theorem iS {fp:List Addr}{h:Heap}{p:Addr×Obj}(hp:p∈kU fp h):p.1∈fp/\h.get? p.1=some p.2:=by
 obtain⟨b,hb,e⟩:=List.mem_filterMap.mp hp
 cases q:h.get? b with
 |none=>rw[q] at e; cases e
 |some o =>
  rw[q] at e;have e':(b,o)=p:=Ao e;subst e';exact⟨hb,q⟩
theorem Inv.pinned {pins:List (Addr×Obj)}{σ:St}{H:Hp}{s:Shared}{fp:List Addr}(I:Inv X pins σ H s)(hf:∀b∈fp,rL X pins H b)(ho:∀b∈fp,∃o,s.heap.get? b=some o/\∀v,o.data≠.cell v):Inv X (pins++kU fp s.heap) σ H s :=
 I.pins_of fun p hp=>(AS.mp hp).elim (fun z=>I.pin p (Aj _ z)) fun z=>by
  obtain⟨hb,e⟩:=iS z;obtain⟨f0,f1,f2,_⟩:=hf p.1 hb;obtain⟨o,e',d⟩:=ho p.1 hb;rw[e] at e'; cases e'
  exact⟨e,f0,f1,f2,d⟩
theorem Inv.unpinned {pins pl:List (Addr×Obj)}{σ:St}{H:Hp}{s:Shared}(I:Inv X (pins++pl) σ H s):Inv X pins σ H s:=I.pins_of fun p hp=>I.pin p (Aj _ (BO _ hp))
theorem zU {iter:Expr}{body:List Stmt}{wi:TI}{g:TG}{tb:TS}{pos:Pos}(hp:PassesOwn (model X.prog X.w) X.A X.env X.xe)(hc:X.calm=true)(hi:PI X tg iter wi)(hg:PG X tg g)(hb:PSs X body tb)
  (hs:∀x,foldedSetIterable iter X.env x=pure x:=by intro _; rfl):PS X (.For tg iter body [] pos) (tFor wi g tb):=by
 intro pins s σ H D I h;refine wpAny_For (thn (hi pins s σ H _ I h) fun v s1 h1=>thn h1 fun itv s2 h2=>?_) hs;obtain⟨it,fp,tn,J,H2,e,I2,T,st2,f2,W,⟨m0,w0⟩,turn⟩:=h2;subst e;have stat:∀{H':Hp},(∀b∈fp,H' b=none)->∀b∈fp,rL X pins H' b:=fun hn b hb=>⟨hn b hb,(f2 b hb).2⟩;refine codeAny_forLoop_any (fun n s'=>∃i σ' H',Inv X pins σ' H' s'/\tn i s'.heap/\(∀b∈fp,H' b=none)/\W i n σ' H') ?_ m0 ⟨0,σ,H2,I2,st2,fun b hb=>(f2 b hb).1,w0⟩
 rintro n s3 ⟨i,σ3,H3,I3,st3,fr3,w3⟩
 rcases turn i n σ3 H3 w3 with ⟨stop,qn⟩ | ⟨go,N,hN,step⟩
 .refine By hp (thn (T.done X rfl rfl rfl hc i pins s3 σ3 H3 X.xe I3 (stat fr3) st3 stop) fun r s4 ⟨hr,I4⟩=>?_)
  subst hr;exact DL ⟨σ3,H3,I4,qn⟩
 .refine By hp (thn (T.item X rfl rfl rfl hc i pins s3 σ3 H3 X.xe I3 (stat fr3) st3 go) fun r s4 ⟨u,hr,h4⟩=>?_)
  subst hr;refine By hp (thn h4 fun _ s5 ⟨x,H5,I5,r5,y5,st5,fr5⟩=>?_);have I5':=I5.pinned (stat fr5) (T.obj _ _ st5);refine By hp (thn (hg _ s5 σ3 H5 x u _ I5' r5 (step x H5 y5)) fun _ s6 ⟨σ6,H6,I6,q6⟩=>?_);refine By hp (thn (hb _ s6 σ6 H6 _ I6 q6) fun f s7 q7=>?_)
  have again:∀{σ7:St} {H7:Hp},Inv X (pins++kU fp s5.heap) σ7 H7 s7->N σ7 H7->∃m,m < n/\∃i σ' H',Inv X pins σ' H' s7/\tn i s7.heap/\(∀b∈fp,H' b=none)/\W i m σ' H':=fun {σ7 H7} I7 n7=>by
   obtain⟨m',hm,w7⟩:=hN σ7 H7 n7;refine⟨m',hm,i+1,σ7,H7,I7.unpinned,T.keep _ _ _ st5 fun b hb o e=>(I7.pin (b,o) (Aj _ (Aj _ (oK hb e)))).1,fun b hb=>?_,w7⟩;obtain⟨o,e,d⟩:=T.obj _ _ st5 b hb;exact(I7.pin (b,o) (Aj _ (Aj _ (oK hb e)))).2.1
  cases f with
  |next=>obtain⟨σ7,H7,I7,n7⟩:=q7; exact again I7 n7
  |cont=>obtain⟨σ7,H7,I7,n7⟩:=q7; exact again I7 n7
  |brk=>obtain⟨σ7,H7,I7,q7⟩:=q7; exact⟨σ7,H7,I7.unpinned,q7⟩
  |ret v=>obtain⟨x7,σ7,H7,I7,r7,q7⟩:=q7; exact⟨x7,σ7,H7,I7.unpinned,r7,q7⟩
end
abbrev R2:=V->V->Hp->VK->Prop
def OpR (X:Cx)(f:Value->Value->Sem Value)(r:R2):Prop :=
 ∀(pins:List (Addr×Obj)) (s:Shared) (σ:St) (H:Hp) (x y:V) (v u:Value) (Q:VK),Inv X pins σ H s->RelV x v->RelV y u->r x y H Q ->
  wpAny (model X.prog X.w) X.A (f v u) (EP X pins σ Q) X.xe s
def UnR (X:Cx)(f:Value->Sem Value)(r:V->Hp->VK->Prop):Prop :=
 ∀(pins:List (Addr×Obj)) (s:Shared) (σ:St) (H:Hp) (x:V) (v:Value) (Q:VK),Inv X pins σ H s->RelV x v->r x H Q ->
  wpAny (model X.prog X.w) X.A (f v) (EP X pins σ Q) X.xe s
def CallR (X:Cx)(f:Value)(r:List V->Hp->VK->Prop):Prop :=
 ∀(pins:List (Addr×Obj)) (s:Shared) (σ:St) (H:Hp) (xs:List V) (us:List Value) (Q:VK),Inv X pins σ H s->Vals xs us->r xs H Q ->
  wpAny (model X.prog X.w) X.A (call f us) (EP X pins σ Q) X.xe s
def TruR (X:Cx)(r:V->Hp->(Bool->Hp->Prop)->Prop):Prop :=
 ∀(pins:List (Addr×Obj)) (s:Shared) (σ:St) (H:Hp) (x:V) (v:Value) (Q:Bool->Hp->Prop),Inv X pins σ H s->RelV x v->r x H Q ->
  wpAny (model X.prog X.w) X.A (truthy v) (TP X pins σ Q) X.xe s
def tOp (r:R2)(ta tb:TE):TE:=fun σ H Q=>ta σ H fun x H1=>tb σ H1 fun y H2=>r x y H2 Q
def tUn (r:V->Hp->VK->Prop)(ta:TE):TE:=fun σ H Q=>ta σ H fun x H1=>r x H1 Q
inductive II (C:Int->Int->Prop)(g:Int->Int->V)(x y:V)(H:Hp)(Q:VK):Prop
 |mk (i j:Int) (h:x=.int i) (h':y=.int j) (c:C i j) (q:Q (g i j) H):II C g x y H Q
def rI (C:Int->Int->Prop)(g:Int->Int->V):R2:=II C g
inductive II0 (g:Int->Int->V)(x y:V)(H:Hp)(Q:VK):Prop
 |mk (i j:Int) (h:x=.int i) (h':y=.int j) (q:Q (g i j) H):II0 g x y H Q
def rI0 (g:Int->Int->V):R2:=II0 g
def rU (g:Int->V):V->Hp->VK->Prop:=fun x H Q=>∃i,x=.int i/\Q (g i) H
section
variable {X:Cx}{a b c:Expr}{ta tb tc:TE}{pos:Pos}
theorem binT (ha:PE X a ta)(hb:PE X b tb){pins:List (Addr×Obj)}{s:Shared}{σ:St}{H:Hp}{R:V->V->Hp->Prop}(I:Inv X pins σ H s)
  (h:ta σ H fun x H1=>tb σ H1 fun y H2=>R x y H2) {Q:Value->Shared->Prop} {f:Value->Value->Sem Value}
  (hf:∀v u s2 x y H2,Inv X pins σ H2 s2->RelV x v->RelV y u->R x y H2->wpAny (model X.prog X.w) X.A (f v u) Q X.xe s2) :
  wpAny (model X.prog X.w) X.A (eval a X.env) (fun v s₁=>wpAny (model X.prog X.w) X.A (eval b X.env) (fun u s₂=>wpAny (model X.prog X.w) X.A (f v u) Q X.xe s₂) X.xe s₁) X.xe s:=by
 refine thn (ha pins s σ H _ I h) fun v s1 ⟨x,H1,I1,r1,q1⟩=>?_;refine thn (hb pins s1 σ H1 _ I1 q1) fun u s2 ⟨y,H2,I2,r2,q2⟩=>?_;exact hf v u s2 x y H2 I2 r1 r2 q2
theorem pe_op {op:Operator}{r:R2}(ho:OpR X (binaryOp op) r)(ha:PE X a ta)(hb:PE X b tb):PE X (.BinOp a op b pos) (tOp r ta tb):=by
 intro pins s σ H Q I h;exact wpAny_BinOp (binT ha hb I h fun v u s2 x y H2 I2 rx ry q=>ho pins s2 σ H2 x y v u Q I2 rx ry q)
theorem pe_un {op:UnaryOp}{r:V->Hp->VK->Prop}(ho:UnR X (unaryOp op) r)(ha:PE X a ta):PE X (.UnaryOp op a pos) (tUn r ta):=by
 intro pins s σ H Q I h;exact UnaryOp_ (thn (ha pins s σ H _ I h) fun v s1 ⟨x,H1,I1,r1,q1⟩=>ho pins s1 σ H1 x v Q I1 r1 q1)
theorem opI {f:Value->Value->Sem Value}{C:Int->Int->Prop}{g:Int->Int->Int}
  (rule:∀(i j:Int) (t u:Tok) (s:Shared) (Q:Value->Shared->Prop) (E:Value->Shared->Prop),C i j->Q (.int (g i j) s.toks) { s with toks:=s.toks+1 }->wpAny (model X.prog X.w) X.A (f (.int i t) (.int j u)) Q E s) :
  OpR X f (rI C fun i j=>.int (g i j)):=by
 intro pins s σ H x y v u Q I rx ry h;obtain⟨i,j,rfl,rfl,hc,q⟩:=h;obtain⟨t,rfl⟩:=rx;obtain⟨t',rfl⟩:=ry;exact rule i j t t' s _ _ hc ⟨.int (g i j),H,I.tok _,⟨_,rfl⟩,q⟩
theorem opI0 {f:Value->Value->Sem Value}{g:Int->Int->Int}
  (rule:∀(i j:Int) (t u:Tok) (s:Shared) (Q:Value->Shared->Prop) (E:Value->Shared->Prop),Q (.int (g i j) s.toks) { s with toks:=s.toks+1 }->wpAny (model X.prog X.w) X.A (f (.int i t) (.int j u)) Q E s) :
  OpR X f (rI0 fun i j=>.int (g i j)):=by
 intro pins s σ H x y v u Q I rx ry h;obtain⟨i,j,rfl,rfl,q⟩:=h;obtain⟨t,rfl⟩:=rx;obtain⟨t',rfl⟩:=ry;exact rule i j t t' s _ _ ⟨.int (g i j),H,I.tok _,⟨_,rfl⟩,q⟩
theorem opB0 {f:Value->Value->Sem Value}{g:Int->Int->Bool}
  (rule:∀(i j:Int) (t u:Tok) (s:Shared) (Q:Value->Shared->Prop) (E:Value->Shared->Prop),Q (.bool (g i j)) s->wpAny (model X.prog X.w) X.A (f (.int i t) (.int j u)) Q E s) :
  OpR X f (rI0 fun i j=>.bl (g i j)):=by
 intro pins s σ H x y v u Q I rx ry h;obtain⟨i,j,rfl,rfl,q⟩:=h;obtain⟨t,rfl⟩:=rx;obtain⟨t',rfl⟩:=ry;exact rule i j t t' s _ _ ⟨.bl (g i j),H,I,rfl,q⟩
def CPow (i j:Int):Prop:=0<=j/\j<=1000000/\i.natAbs < 2 ^ 64
def CMul (i j:Int):Prop:=(-(2 ^ 64) < i/\i < 2 ^ 64)\/(-(2 ^ 64) < j/\j < 2 ^ 64)
theorem CMul.ok {i j:Int}(h:CMul i j):IntMulOk i j:=by
 rcases h with ⟨h1,h2⟩ | ⟨h1,h2⟩
 .exact .of_left (intBits_le_64 h1 h2)
 .exact .of_right (intBits_le_64 h1 h2)
theorem op_add:OpR X (binaryOp .Add) (rI0 fun i j=>.int (i+j)):=opI0 fun _ _ _ _ _ _ _ q=>add_int q
theorem oF:OpR X (binaryOp .Sub) (rI0 fun i j=>.int (i - j)):=opI0 fun _ _ _ _ _ _ _ q=>sub_int q
theorem aF:OpR X (binaryOp .Mult) (rI CMul fun i j=>.int (i * j)):=opI fun _ _ _ _ _ _ _ hc q=>mul_int q hc.ok
theorem nK:OpR X (binaryOp .Mod) (rI (fun _ j=>0 < j) fun i j=>.int (i % j)):=opI fun i j _ _ _ _ _ hc q=>by
 have h1:(0:Int) < j:=hc;exact mod_int' (by omega) (by rw[Int.fmod_eq_emod_of_nonneg i (by omega)]; exact q)
theorem tF:OpR X (binaryOp .Pow) (rI CPow fun i j=>.int (i ^ j.toNat)):=opI fun _ _ _ _ _ _ _ hc q=>pow_int_small hc.1 hc.2.1 hc.2.2 q
theorem unI {f:Value->Sem Value}{g:Int->Int}
  (rule:∀(i:Int) (t:Tok) (s:Shared) (Q:Value->Shared->Prop) (E:Value->Shared->Prop),Q (.int (g i) s.toks) { s with toks:=s.toks+1 }->wpAny (model X.prog X.w) X.A (f (.int i t)) Q E s) :
  UnR X f (rU fun i=>.int (g i)):=by
 intro pins s σ H x v Q I rx h;obtain⟨i,rfl,q⟩:=h;obtain⟨t,rfl⟩:=rx;exact rule i t s _ _ ⟨.int (g i),H,I.tok _,⟨_,rfl⟩,q⟩
theorem yF:UnR X (unaryOp .USub) (rU fun i=>.int (-i)):=unI fun _ _ _ _ _ q=>neg_int q
end
def scal:V->V->Bool
 |.non,.non=>true | .non,.int _=>true | .int _,.non=>true | .non,.bl _=>true | .bl _,.non=>true | .non,.str _=>true | .str _,.non=>true
 |.int _,.int _=>true | .bl _,.bl _=>true | .str _,.str _=>true | .byt _,.byt _=>true
 |.int _,.str _=>true | .str _,.int _=>true | .bl _,.str _=>true | .str _,.bl _=>true
 |_,_=>false
def rEq:R2:=fun x y H Q=>scal x y=true/\Q (.bl (decide (x=y))) H
def rNe:R2:=fun x y H Q=>scal x y=true/\Q (.bl (!decide (x=y))) H
theorem sR {i j:Int}:decide (V.int i=V.int j)=(i==j):=by
 rw[BJ]
 simp
theorem oI {i j:Bool}:decide (V.bl i=V.bl j)=(i==j):=by
 rw[BJ]
 simp
theorem nR {i j:Str}:decide (V.str i=V.str j)=(i==j):=by
 rw[BJ]
 simp
theorem oR {i j:Array UInt8}:decide (V.byt i=V.byt j)=(i.toList==j.toList):=by
 rw[BJ];cases i;cases j
 simp
section
variable {X:Cx}{a b c:Expr}{ta tb tc:TE}{pos:Pos}
theorem eQ {pins:List (Addr×Obj)}{σ:St}{H:Hp}{s:Shared}{Q:VK}{k k':Bool}(I:Inv X pins σ H s)(q:Q (.bl k) H)(e:k=k'):EP X pins σ Q (.bool k') s:=by
 subst e;exact⟨.bl k,H,I,rfl,q⟩
theorem cZ:OpR X (compareOp .Eq) rEq:=by
 intro pins s σ H x y v u Q I rx ry h;obtain⟨hs,q⟩:=h
 cases x with
 |non =>
  cases rx
  cases y with
  |non=>cases ry; exact PySem.EqNone.eq_none_none (eQ I q (by simp))
  |bl j=>cases ry; exact PySem.EqNone.eq_none_bool (eQ I q (by simp))
  |int j=>obtain⟨t',rfl⟩:=ry; exact PySem.EqNone.eq_none_int (eQ I q (by simp))
  |str j=>obtain⟨t',rfl⟩:=ry; exact PySem.EqNone.eq_none_str (eQ I q (by simp))
  |_=>exact absurd (show false=true from hs) AJ
 |bl i =>
  cases rx
  cases y with
  |non=>cases ry; exact PySem.EqNone.eq_bool_none (eQ I q (by simp))
  |bl j=>cases ry; exact eq_bool (eQ I q oI)
  |str j=>obtain⟨t',rfl⟩:=ry; exact PySem.EqMixed.eq_bool_str (eQ I q (by simp))
  |_=>exact absurd (show false=true from hs) AJ
 |int i =>
  obtain⟨t,rfl⟩:=rx
  cases y with
  |non=>cases ry; exact PySem.EqNone.eq_int_none (eQ I q (by simp))
  |int j=>obtain⟨t',rfl⟩:=ry; exact eq_int (eQ I q sR)
  |str j=>obtain⟨t',rfl⟩:=ry; exact PySem.EqMixed.eq_int_str (eQ I q (by simp))
  |_=>exact absurd (show false=true from hs) AJ
 |str i =>
  obtain⟨t,rfl⟩:=rx
  cases y with
  |non=>cases ry; exact PySem.EqNone.eq_str_none (eQ I q (by simp))
  |bl j=>cases ry; exact PySem.EqMixed.eq_str_bool (eQ I q (by simp))
  |int j=>obtain⟨t',rfl⟩:=ry; exact PySem.EqMixed.eq_str_int (eQ I q (by simp))
  |str j=>obtain⟨t',rfl⟩:=ry; exact eq_str (eQ I q nR)
  |_=>exact absurd (show false=true from hs) AJ
 |byt i =>
  obtain⟨t,rfl⟩:=rx
  cases y with
  |byt j=>obtain⟨t',rfl⟩:=ry; exact PySem.W.eq_bytes (eQ I q oR)
  |_=>exact absurd (show false=true from hs) AJ
 |_=>cases y<;>exact absurd (show false=true from hs) AJ
theorem kM:OpR X (compareOp .NotEq) rNe:=by
 intro pins s σ H x y v u Q I rx ry h;obtain⟨hs,q⟩:=h
 cases x with
 |non =>
  cases rx
  cases y with
  |non=>cases ry; exact PySem.EqNone.ne_none_none (eQ I q (by simp))
  |bl j=>cases ry; exact PySem.EqNone.ne_none_bool (eQ I q (by simp))
  |int j=>obtain⟨t',rfl⟩:=ry; exact PySem.EqNone.ne_none_int (eQ I q (by simp))
  |str j=>obtain⟨t',rfl⟩:=ry; exact PySem.EqNone.ne_none_str (eQ I q (by simp))
  |_=>exact absurd (show false=true from hs) AJ
 |bl i =>
  cases rx
  cases y with
  |non=>cases ry; exact PySem.EqNone.ne_bool_none (eQ I q (by simp))
  |bl j=>cases ry; exact ne_bool (eQ I q (Bq not oI))
  |str j=>obtain⟨t',rfl⟩:=ry; exact PySem.EqMixed.ne_bool_str (eQ I q (by simp))
  |_=>exact absurd (show false=true from hs) AJ
 |int i =>
  obtain⟨t,rfl⟩:=rx
  cases y with
  |non=>cases ry; exact PySem.EqNone.ne_int_none (eQ I q (by simp))
  |int j=>obtain⟨t',rfl⟩:=ry; exact ne_int (eQ I q (Bq not sR))
  |str j=>obtain⟨t',rfl⟩:=ry; exact PySem.EqMixed.ne_int_str (eQ I q (by simp))
  |_=>exact absurd (show false=true from hs) AJ
 |str i =>
  obtain⟨t,rfl⟩:=rx
  cases y with
  |non=>cases ry; exact PySem.EqNone.ne_str_none (eQ I q (by simp))
  |bl j=>cases ry; exact PySem.EqMixed.ne_str_bool (eQ I q (by simp))
  |int j=>obtain⟨t',rfl⟩:=ry; exact PySem.EqMixed.ne_str_int (eQ I q (by simp))
  |str j=>obtain⟨t',rfl⟩:=ry; exact ne_str (eQ I q (Bq not nR))
  |_=>exact absurd (show false=true from hs) AJ
 |byt i =>
  obtain⟨t,rfl⟩:=rx
  cases y with
  |byt j=>obtain⟨t',rfl⟩:=ry; exact PySem.W.ne_bytes (eQ I q (Bq not oR))
  |_=>exact absurd (show false=true from hs) AJ
 |_=>cases y<;>exact absurd (show false=true from hs) AJ
theorem vM:OpR X (compareOp .Lt) (rI0 fun i j=>.bl (decide (i < j))):=opB0 fun _ _ _ _ _ _ _ q=>lt_int q
theorem op_gt:OpR X (compareOp .Gt) (rI0 fun i j=>.bl (decide (j < i))):=opB0 fun _ _ _ _ _ _ _ q=>gt_int q
theorem kA:OpR X (compareOp .Is) (fun x y H Q=>y=.non/\Q (.bl (decide (x=.non))) H):=by
 intro pins s σ H x y v u Q I rx ry h;obtain⟨rfl,q⟩:=h;cases ry;refine is_none_gen (eQ I q ?_)
 cases x<;>first
  | (cases rx; rfl)
  | (obtain⟨t,rfl⟩:=rx; rfl)
theorem OpR.or {f:Value->Value->Sem Value}{r r':R2}(h:OpR X f r)(h':OpR X f r'):OpR X f (fun x y H Q=>r x y H Q\/r' x y H Q):=by
 intro pins s σ H x y v u Q I rx ry q
 rcases q with q | q
 .exact h pins s σ H x y v u Q I rx ry q
 .exact h' pins s σ H x y v u Q I rx ry q
theorem yU (b:Expr){op:CmpOp}(h:op≠.In:=by decide)(h2:op≠.NotIn:=by decide):behindInMarks op b=false:=by
 have e1:(op==CmpOp.In)=false:=by cases op<;>first | rfl | exact absurd rfl h
 have e2:(op==CmpOp.NotIn)=false:=by cases op<;>first | rfl | exact absurd rfl h2
 cases b<;>simp[behindInMarks,e1,e2]
theorem pe_cmpR {op:CmpOp}{r:R2}(ho:OpR X (compareOp op) r)(ha:PE X a ta)(hb:PE X b tb)(hm:behindInMarks op b=false):PE X (.Compare a [op] [b] pos) (tOp r ta tb):=by
 intro pins s σ H Q I h;exact wpAny_Compare1 (binT ha hb I h fun v u s2 x y H2 I2 rx ry q=>ho pins s2 σ H2 x y v u Q I2 rx ry q) hm
def tTest (t:TE):TT:=fun σ H Q=>t σ H (IBl Q)
theorem pt_cmpR {op:CmpOp}{r:R2}(ho:OpR X (compareOp op) r)(ha:PE X a ta)(hb:PE X b tb)(hm:behindInMarks op b=false):PT X (.Compare a [op] [b] pos) (tTest (tOp r ta tb)):=by
 intro pins s σ H Q I h
 refine wpAny_isTrue_Compare1 (thn (ha pins s σ H _ I h) fun v s1 ⟨x,H1,I1,r1,q1⟩=>thn (hb pins s1 σ H1 _ I1 q1) fun u s2 ⟨y,H2,I2,r2,q2⟩ =>
  thn (ho pins s2 σ H2 x y v u _ I2 r1 r2 q2) fun c s3 ⟨z,H3,I3,r3,k,e,q3⟩=>?_) hm
 subst e;cases r3;exact BD ⟨H3,I3,q3⟩
def TruV (K:DY)(x:V)(H:Hp)(k:Bool):Prop :=
 match x with
 |.non=>k=false
 |.bl b=>k=b
 |.int i=>k=(i != 0)
 |.str y=>y.length<=sizeLine/\k=((y.length:Int) != 0)
 |.byt y=>y.size<=sizeLine/\k=((y.size:Int) != 0)
 |.ref p=>(∃xs,SqL K H p xs/\k = !xs.isEmpty)\/(∃xs,SqT K H p xs/\k = !xs.isEmpty)\/∃kvs,H p=some (.dK kvs)/\k = !kvs.isEmpty
 |_=>False
theorem nN {κ:Type}{kvs:List (κ×V)}{vs:List (κ×Value)}(r:KV kvs vs):(!vs.isEmpty) = !kvs.isEmpty:=by
 cases r<;>rfl
theorem cU {xs:List V}{its:List Value}(r:Vals xs its):(!its.toArray.isEmpty) = !xs.isEmpty:=by
 cases r<;>simp
theorem tK:(sizeLine:Nat) < 2 ^ 63:=by rw[sizeLine_eq]; decide
theorem tru_ok:TruR X (fun x H Q=>∃k,TruV X.K x H k/\Q k H):=by
 intro pins s σ H x v Q I rx h;obtain⟨k,e,q⟩:=h;have hl:=tK;have hs:sizeLine=16777216:=sizeLine_eq
 cases x with
 |non =>
  cases rx;have e':k=false:=e;subst e';exact truthy_none ⟨H,I,q⟩
 |bl b =>
  cases rx;have e':k=b:=e;subst e';exact BD ⟨H,I,q⟩
 |int i =>
  obtain⟨t,rfl⟩:=rx;have e':k=(i != 0):=e;subst e';exact PySem.P.truthy_int ⟨H,I,q⟩
 |str y =>
  obtain⟨t,rfl⟩:=rx;obtain⟨hy,e'⟩:y.length<=sizeLine/\k=((y.length:Int) != 0):=e;subst e';exact PySem.P.truthy_str (by omega) ⟨H,I.tok _,q⟩
 |byt y =>
  obtain⟨t,rfl⟩:=rx;obtain⟨hy,e'⟩:y.size<=sizeLine/\k=((y.size:Int) != 0):=e;subst e';exact PySem.W.truthy_bytes (by omega) ⟨H,I.tok _,q⟩
 |ref p =>
  cases rx;have e':(∃xs,SqL X.K H p xs/\k = !xs.isEmpty)\/(∃xs,SqT X.K H p xs/\k = !xs.isEmpty)\/∃kvs,H p=some (.dK kvs)/\k = !kvs.isEmpty:=e
  rcases e' with ⟨xs,hx,e'⟩ | ⟨xs,hx,e'⟩ | ⟨kvs,hx,e'⟩
  .subst e'
   obtain⟨its,r,pl,hz⟩:=I.list hx;have hlen:=r.length;exact wpAny_truthy_list pl.isList (by simp only[List.size_toArray]; omega) ⟨H,I.tok _,by rw[cU r]; exact q⟩
  .subst e'
   obtain⟨its,r,pl,hz⟩:=I.tuple hx;have hlen:=r.length;exact truthy_tuple pl (by simp only[List.size_toArray]; omega) ⟨H,I.tok _,by rw[cU r]; exact q⟩
  .subst e'
   obtain⟨hz,hS,vs,r,m⟩:kvs.length<=sizeLine/\(p==sysModules)=false/\∃vs,KV kvs vs/\s.heap.DictOf (iX X.prog X.w) p vs:=I.hok p _ hx;have hlen:kvs.length=vs.length:=Paired.length r;exact wpAny_truthy_dict hS m (by omega) ⟨H,I.tok _,by rw[nN r]; exact q⟩
 |_=>exact(show False from e).elim
theorem pE (ha:PE X a ta)(he:∀whole,isTrue a X.env whole=(do let v <- whole; standAt a.pos; holding [v] (truthy v))):
  PT X a (fun σ H Q=>ta σ H fun x H'=>∃k,TruV X.K x H' k/\Q k H'):=by
 intro pins s σ H Q I h;exact isTrue_plain (thn (ha pins s σ H _ I h) fun v s1 ⟨x,H1,I1,r1,q1⟩=>tru_ok pins s1 σ H1 x v Q I1 r1 q1) (he _)
theorem iH:OpR X (binaryOp .Add) (fun x y H Q=>∃i j,x=.str i/\y=.str j/\i.length+j.length<=sizeLine/\Q (.str (i++j)) H):=by
 intro pins s σ H x y v u Q I rx ry h;obtain⟨i,j,rfl,rfl,hz,q⟩:=h;obtain⟨t,rfl⟩:=rx;obtain⟨t',rfl⟩:=ry;exact add_str (fun t' tk=>⟨.str (i++j),H,I.tok _,⟨_,rfl⟩,q⟩) hz
theorem aJ {x:V}{us:List Value}(r:Vals [x] us):∃u,us=[u]/\RelV x u:=by
 cases r with
 |cons r1 r2=>cases r2; exact⟨_,rfl,r1⟩
theorem pC {x y:V}{us:List Value}(r:Vals [x,y] us):∃u w',us=[u,w']/\RelV x u/\RelV y w':=by
 cases r with
 |cons r1 r2 =>
  cases r2 with
  |cons r3 r4=>cases r4; exact⟨_,_,rfl,r1,r3⟩
theorem Qn:CallR X (.builtin "abs") (fun xs H Q=>∃i,xs=[.int i]/\Q (.int (if i < 0 then -i else i)) H):=by
 intro pins s σ H xs us Q I r h;obtain⟨i,rfl,q⟩:=h;obtain⟨u,rfl,t,rfl⟩:=aJ r;exact call_abs_int fun u tk=>⟨.int (if i < 0 then -i else i),H,I.tok _,⟨_,rfl⟩,q⟩
theorem zO (hc:X.calm=true):CallR X (.builtin "max") (fun xs H Q=>∃i j,xs=[.int i,.int j]/\Q (.int (if j > i then j else i)) H):=by
 intro pins s σ H xs us Q I r h;obtain⟨i,j,rfl,q⟩:=h;obtain⟨u,w',rfl,⟨t,rfl⟩,⟨t',rfl⟩⟩:=pC r;refine max_two_ints (I.ok.hd hc) fun h' tk k=>⟨_,H,I.kept k,?_,q⟩
 by_cases hj:j > i
 .rw [A4 hj,A4 hj]; exact⟨_,rfl⟩
 .rw [Av hj,Av hj]; exact⟨_,rfl⟩
theorem qO (hc:X.calm=true):CallR X (.builtin "min") (fun xs H Q=>∃i j,xs=[.int i,.int j]/\Q (.int (if j < i then j else i)) H):=by
 intro pins s σ H xs us Q I r h;obtain⟨i,j,rfl,q⟩:=h;obtain⟨u,w',rfl,⟨t,rfl⟩,⟨t',rfl⟩⟩:=pC r;refine min_two_ints (I.ok.hd hc) fun h' tk k=>⟨_,H,I.kept k,?_,q⟩
 by_cases hj:j < i
 .rw [A4 hj,A4 hj]; exact⟨_,rfl⟩
 .rw [Av hj,Av hj]; exact⟨_,rfl⟩
theorem vO:CallR X (.type "int") (fun xs H Q=>(∃i,xs=[.int i]/\Q (.int i) H)\/∃k,xs=[.bl k]/\Q (.int (if k then 1 else 0)) H):=by
 intro pins s σ H xs us Q I r h
 rcases h with ⟨i,rfl,q⟩ | ⟨k,rfl,q⟩
 .obtain ⟨u,rfl,t,rfl⟩:=aJ r
  exact call_int_int ⟨.int i,H,I,⟨_,rfl⟩,q⟩
 .obtain ⟨u,rfl,r1⟩:=aJ r
  cases r1;exact call_int_bool ⟨.int (if k then 1 else 0),H,I.tok _,⟨_,rfl⟩,q⟩
theorem jL:CallR X (.type "str") (fun xs H Q=>∃i,xs=[.int i]/\i.natAbs.log2 < 1920/\Q (.str (toString i)) H):=by
 intro pins s σ H xs us Q I r h;obtain⟨i,rfl,hz,q⟩:=h;obtain⟨u,rfl,t,rfl⟩:=aJ r;exact PySem.P.str_of_int hz ⟨.str _,H,I.tok _,⟨_,rfl⟩,q⟩
end
structure ObjM (h:Heap)(x dx C:Addr)(mA:Str->Option Value):Prop where
 obj:h.get? x=some (PySem.W.instObj C dx)
 ns:h.Ns1 dx mA
 ne:dx≠x
theorem yT {h:Heap}{dx:Addr}{mA:Str->Option Value}(n:h.Ns1 dx mA):∃od,h.get? dx=some od/\∀name,PySem.W.lookIn name od=some (mA name):=by
 obtain⟨o,es,ep,ho,hd,hk,_,hm⟩:=n;refine⟨o,ho,fun name=>?_⟩;have e:=hm name;unfold nsFind findBy at e;rw[<- Array.find?_toList] at e;unfold PySem.W.lookIn;rw[hd];dsimp only
 split
 .rename_i y q
  rw[q] at e;exact Bq some e
 .rename_i q
  rw[q] at e
  have a:es.toList.any (·.refKey)=false:=by
   rw[List.any_eq_false];intro y hy;obtain⟨z,t,hkey⟩:=hk y (DX.mp hy)
   simp[DictEntry.refKey,hkey]
  have a':¬ es.toList.any (·.refKey)=true:=by rw[a]; exact AJ
  rw[Av a'];exact Bq some e
theorem ObjM.look {h:Heap}{x dx C:Addr}{mA:Str->Option Value}(I:ObjM h x dx C mA):∃od,PySem.W.InstAt h x (PySem.W.instObj C dx) C (some od)/\∀name,PySem.W.lookIn name od=some (mA name) :=
 let ⟨od,ho,hl⟩:=yT I.ns
 ⟨od,⟨I.obj,rfl,rfl,ho⟩,hl⟩
section
variable {P:Program}{w:World}{H H':Hp}{h h':Heap}{a C dx:Addr}{fs fs':List (Str×V)}
theorem lR (hok:HOk P w H h)(e:H a=some (.ins C dx fs)):∃mA,ObjM h a dx C mA/\(∀f,RelO (fs.lookup f) (mA f))/\PySem.Within mA (fs.map (·.1))/\fs.length<=1000/\H dx=some (.own a):=by
 obtain⟨d,z,ne,ob,mA,n,r,q⟩:=(show ObjOk P w H h a (.ins C dx fs) from hok a _ e);exact⟨mA,⟨ob,n,ne⟩,r,q,z,d⟩
end
structure Cls (K:DY)(C:Addr):Prop where
 pg:PySem.W.plainGet K C Str.empty=true
 hd:PySem.W.hasDictIn K C=true
 po:PySem.W.plainOver K C=true
 sa:PySem.W.findIn K (.ref C) "__setattr__" = some (some (.builtin "object.__setattr__"))
theorem Cls.get {K:DY}{C:Addr}(c:Cls K C)(f:Str):PySem.W.plainGet K C f=true:=c.pg
section
variable {X:Cx}{pins:List (Addr×Obj)}{σ:St}{H:Hp}{s:Shared}{A:Around}{E:Value->Shared->Prop}{Q:Value->Shared->Prop}{c:Value}{b:Bool}
inductive yW (K:DY)(H:Hp):V->Value->Prop where
 |non:yW K H .non (.type "NoneType")
 |bl (x:Bool):yW K H (.bl x) (.type "bool")
 |int (i:Int):yW K H (.int i) (.type "int")
 |str (x:Str):yW K H (.str x) (.type "str")
 |flt (x:UInt64):yW K H (.flt x) (.type "float")
 |lst {a:Addr} {xs:List V} (e:H a=some (.lst xs)):yW K H (.ref a) (.type "list")
 |frz {a:Addr} {o:Obj} {xs:List V} (e:H a=some (.frz o (.lst xs))):yW K H (.ref a) (.type "list")
 |tup {a:Addr} {xs:List V} (e:H a=some (.tup xs)):yW K H (.ref a) (.type "tuple")
 |dK {a:Addr} {kvs:List (Key×V)} (e:H a=some (.dK kvs)):yW K H (.ref a) (.type "dict")
 |dT {a:Addr} {kvs:List (List Key×V)} (e:H a=some (.dT kvs)):yW K H (.ref a) (.type "dict")
 |dM {a:Addr} {o:Obj} {kvs:List (gQ×V×V)} (e:H a=some (.dM o kvs)):yW K H (.ref a) (.type "dict")
 |ins {a C dx:Addr} {fs:List (Str×V)} (e:H a=some (.ins C dx fs)) (cl:Cls K C) (ha:PySem.W.findIn K (.ref C) "__class__" = some (some (.builtin "object.__class__")))
   (hn:PySem.W.specialIn K (.builtin "object.__class__") "__get__" = some (some (.builtin "getset_descriptor.__get__"))) (htk:PySem.W.takesIn K (.builtin "object.__class__")=some true)
   (hm:PySem.W.mroIn K C (.type "object")=some true):yW K H (.ref a) (.ref C)
theorem cT {x:V}{u t:Value}(I:Inv X pins σ H s)(rx:RelV x u)(ty:yW X.K H x t)(e:PySem.W.kitOne X.K t c=some b)(h:∀tk,Q (.bool b) { s with toks:=tk }):
  wpAny (model X.prog X.w) A (call (.builtin "isinstance") [u,c]) Q E s:=by
 cases ty with
 |non=>cases (show u=Value.none from rx); exact BA PySem.W.kitx_none I.kIn True.intro e (fun z=>nomatch z) h
 |bl y=>cases (show u=Value.bool y from rx); exact BA PySem.W.kitx_bool I.kIn True.intro e (fun z=>nomatch z) h
 |int i=>obtain⟨t,q⟩:=(show ∃t,u=Value.int i t from rx); cases q; exact BA PySem.W.kitx_int I.kIn True.intro e (fun z=>nomatch z) h
 |str y=>obtain⟨t,q⟩:=(show ∃t,u=Value.str y t from rx); cases q; exact BA PySem.W.kitx_str I.kIn True.intro e (fun z=>nomatch z) h
 |flt y=>obtain⟨t,q⟩:=(show ∃t,u=Value.float y t from rx); cases q; exact BA PySem.W.kitx_float I.kIn True.intro e (fun z=>nomatch z) h
 |@lst a xs ea =>
  cases (show u=Value.ref a from rx);obtain⟨_,_,n,_,h1⟩:=(show ObjOk X.prog X.w H s.heap a (.lst xs) from I.hok a _ ea);exact BA Ct I.kIn ⟨_,h1,rfl⟩ e (fun z=>nomatch z) h
 |@frz a ob xs ea =>
  cases (show u=Value.ref a from rx);obtain⟨_,_,_,n,_,h1⟩:=(show ObjOk X.prog X.w H s.heap a (.frz ob (.lst xs)) from I.hok a _ ea);exact BA Ct I.kIn ⟨_,h1,rfl⟩ e (fun z=>nomatch z) h
 |@tup a xs ea =>
  cases (show u=Value.ref a from rx);obtain⟨_,_,_,p⟩:=(show ObjOk X.prog X.w H s.heap a (.tup xs) from I.hok a _ ea);obtain⟨o,h1,h2,_⟩:=p;exact BA PySem.W.kitx_tuple I.kIn ⟨o,h1,h2⟩ e (fun z=>nomatch z) h
 |@dK a kvs ea =>
  cases (show u=Value.ref a from rx);obtain⟨_,_,vs,_,p⟩:=(show ObjOk X.prog X.w H s.heap a (.dK kvs) from I.hok a _ ea);obtain⟨o,es,ep,h1,h2,_⟩:=p;exact BA B2 I.kIn ⟨o,h1,h2.1⟩ e (fun z=>nomatch z) h
 |@dT a kvs ea =>
  cases (show u=Value.ref a from rx);obtain⟨_,_,xs,_,o,es,ep,h1,h2,_⟩:=(show ObjOk X.prog X.w H s.heap a (.dT kvs) from I.hok a _ ea);exact BA B2 I.kIn ⟨o,h1,h2.1⟩ e (fun z=>nomatch z) h
 |@dM a o kvs ea =>
  cases rx;obtain⟨_,_,h1,xs,_,es,ep,h2,_⟩:=(I.hok a _ ea);exact BA B2 I.kIn ⟨o,h1,h2.1⟩ e (fun z=>nomatch z) h
 |@ins a C dx fs ea cl ha hn htk hm =>
  cases (show u=Value.ref a from rx);obtain⟨mA,O,_⟩:=lR I.hok ea;obtain⟨od,J,_⟩:=O.look;exact BA (PySem.W.kitx_own (cl.get _) cl.hd ha hn htk hm) I.kIn J e (fun z=>nomatch z) h
end
structure Room (k:Nat)(A:Around):Prop where
 hd:A.handled=none
 dp:A.depth+3 * k+5 < recursionLimit
 un:A.units+16 * k+200 < cLine
theorem Room.mono {j k:Nat}{A:Around}(r:Room k A)(h:j<=k):Room j A:=⟨r.hd,by have:=r.dp; omega,by have:=r.un; omega⟩
theorem Room.deeper {k:Nat}{A:Around}(r:Room (k+1) A)(env:Env):Room k (A.deeper env) :=
 ⟨r.hd,by have:=r.dp; show A.depth+1+3 * k+5 < _; omega,by have:=r.un; show A.units+3+16 * k+200 < _; omega⟩
theorem Room.depth {k:Nat}{A:Around}(r:Room k A):A.depth < recursionLimit:=by have:=r.dp; omega
theorem Room.units {k:Nat}{A:Around}(r:Room k A):A.units+64 < cLine:=by have:=r.un; omega
def tNil:TA:=fun _ H Q=>Q [] H
def aO (ta:TE)(tr:TA):TA:=fun σ H Q=>ta σ H fun x H1=>tr σ H1 fun xs H2=>Q (x::xs) H2
section
variable {X:Cx}{e:Expr}{es:List Expr}{te:TE}{t:TA}{pos:Pos}
theorem sF:PA X [] tNil:=fun _ _ _ _ H Q I h=>Calls.spliced_nil ⟨[],H,I,.nil,h⟩
theorem yR (ha:PE X e te)(hr:PA X es t)(hs:starEach (e::es) X.env=(false,eval e X.env)::starEach es X.env:=by rfl):PA X (e::es) (aO te t):=by
 intro pos pins s σ H Q I h;rw[hs];show wpAny _ _ (spliced ((false,eval e X.env)::backTo pos (starEach es X.env))) _ _ s;refine Calls.spliced_cons (thn (ha pins s σ H _ I h) fun u s1 ⟨x,H1,I1,r1,q1⟩=>?_);exact thn (hr pos pins s1 σ H1 _ I1 q1) fun us s2 ⟨xs,H2,I2,r2,q2⟩=>⟨x::xs,H2,I2,.cons r1 r2,q2⟩
inductive INew (o:List V->HO)(Q:VK)(xs:List V)(H:Hp):Prop
 |mk (h:xs.length<=sizeLine) (q:∀p,H p=none->Q (.ref p) (upd H p (o xs))):INew o Q xs H
def tTup (t:TA):TE:=fun σ H Q=>t σ H (INew .tup Q)
def tLst (t:TA):TE:=fun σ H Q=>t σ H (INew .lst Q)
theorem pe_tup {x1}(h:PA X es t):PE X (.Tuple es x1 pos) (tTup t):=by
 intro pins s σ H Q I hq;refine wpAny_Tuple_spliced (thn (h pos pins s σ H _ I hq) fun us s1 ⟨xs,H1,I1,r,z,q⟩=>⟨by rw[<- r.length]; exact z,?_⟩);have hf:H1 s1.heap.objs.size=none:=I1.hok.fresh (AG _);refine⟨.ref s1.heap.objs.size,upd H1 s1.heap.objs.size (.tup xs),I1.laid (t':=s1.toks) (fun b u e=>AC _ e) (AG _) ?_,rfl,q _ hf⟩;exact⟨z,us,r,⟨_,AK _ rfl,rfl,⟨_,rfl⟩,rfl⟩⟩
theorem pe_lst (h:PA X es t):PE X (.List es pos) (tLst t):=by
 intro pins s σ H Q I hq;refine wpAny_List_spliced (thn (h pos pins s σ H _ I hq) fun us s1 ⟨xs,H1,I1,r,z,q⟩=>⟨by rw[<- r.length]; exact z,?_⟩);have hf:H1 s1.heap.objs.size=none:=I1.hok.fresh (AG _);refine⟨.ref s1.heap.objs.size,upd H1 s1.heap.objs.size (.lst xs),I1.laid (t':=s1.toks) (fun b u e=>AC _ e) (AG _) ?_,rfl,q _ hf⟩;exact⟨z,us,0,r,AK _ rfl⟩
end
abbrev Sp:=List V->Hp->VK->XK->Prop
abbrev CXT:=List Env->Hp->Shared->XK->Value->Shared->Prop
structure Env0 (P:Program)(w:World)(K:DY)(mg:Str->Option Value)(base:Heap)(A:Around)(outer:List Env)(s:Shared)(H:Hp):Prop where
 frames:A.frames=some outer
 mod:Mod K mg base
 bs:∀b o,base.get? b=some o->s.heap.get? b=some o/\H b=none
 bsz:base.objs.size<=s.heap.objs.size
 funs:s.heap.FunFrames base outer
 frf:∀b∈frs outer,H b=none
 hok:HOk P w H s.heap
 bare:AllBare s.gens
def CE (outer:List Env)(P:Program)(w:World)(H:Hp)(s:Shared)(Q:VK)(u:Value)(s':Shared):Prop :=
 ∃v H',s'.os=s.os/\AllBare s'.gens/\Un (frs outer) [] H H' s.heap s'.heap/\HOk P w H' s'.heap/\RelV v u/\Q v H'
def CR (CX:CXT)(outer:List Env)(P:Program)(w:World)(H:Hp)(s:Shared)(Q:VK)(E:XK)(r:Result)(s':Shared):Prop :=
 match r with
 |.ok (.ret u)=>CE outer P w H s Q u s'
 |.ok _=>False
 |.error e=>CX outer H s E e s'
structure FnOk (P:Program)(w:World)(K:DY)(mg:Str->Option Value)(base:Heap)(CX:CXT)(k:Nat)(f:Addr)(fd:FuncData)(ps:List Str)(sp:Sp):Prop where
 len:∀vs H Q E,sp vs H Q E->vs.length=ps.length
 run:∀(A:Around) (outer:List Env) (s:Shared) (H:Hp) (args:Args) (us:List Value) (vs:List V) (Q:VK) (E:XK),Room k A->Env0 P w K mg base A outer s H->BindsTo s fd args (ps.zip us)->Vals vs us->sp vs H Q E ->
  codeAny (model P w) A (.call (.ref f) args) (CR CX outer P w H s Q E) s
theorem FnOk.mono {P:Program}{w:World}{K:DY}{mg:Str->Option Value}{base:Heap}{CX:CXT}{j k:Nat}{f:Addr}{fd:FuncData}{ps:List Str}{sp:Sp}(F:FnOk P w K mg base CX j f fd ps sp)(h:j<=k):
  FnOk P w K mg base CX k f fd ps sp:=⟨F.len,fun A outer s H args us vs Q E hr=>F.run A outer s H args us vs Q E (hr.mono h)⟩
section
variable {X:Cx}{pins:List (Addr×Obj)}{σ:St}{H:Hp}{s s':Shared}
theorem Inv.env0 (I:Inv X pins σ H s):Env0 X.prog X.w X.K X.mg X.base X.A X.stack s H :=
 ⟨I.ok.frames,I.ok.mod,I.bs,AX I.ok.bsz I.sz,I.stack,I.stkFree,I.hok,I.bare⟩
theorem Inv.after {Q:VK}{u:Value}(I:Inv X pins σ H s)(h:CE X.stack X.prog X.w H s Q u s'):EP X pins σ Q u s':=by
 obtain⟨v,H',os,bare,un,hok,r,q⟩:=h;obtain⟨hh,g,d,t,os'⟩:=s';obtain rfl:os'=s.os:=os;exact⟨v,H',I.call (h':=hh) (g':=g) (d':=d) (t':=t) (ch:=[]) un hok bare (fun b z=>absurd z (by simp)),r,q⟩
end
def iO (sp:Sp)(dvs:List V)(E:XK)(t:TA):TE:=fun σ H Q=>t σ H fun vs H1=>sp (vs++dvs) H1 Q E
def Binds (K:DY)(fd:FuncData)(ps:List Str)(ds:List Value):Prop :=
 ∀(s:Shared) (us:List Value),K.In s.heap->(us++ds).length=ps.length->BindsTo s fd ⟨us,[]⟩ (ps.zip (us++ds))
theorem Binds.all {K:DY}{fd:FuncData}{ps:List Str}(h:∀us:List Value,us.length=ps.length->bindArgs fd ⟨us,[]⟩=pure (ps.zip us)):Binds K fd ps []:=fun s us _ hl=>by
 rw[Cn] at hl ⊢;exact .of_eq (h us hl)
def cY (CX:CXT)(X:Cx)(E:XK):Prop:=∀(pins:List (Addr×Obj)) (σ:St) (H:Hp) (s:Shared) (e:Value) (s':Shared),Inv X pins σ H s->CX X.stack H s E e s'->X.xe e s'
section
variable {X:Cx}{CX:CXT}{k:Nat}{f C:Addr}{fd:FuncData}{ps:List Str}{sp:Sp}{dvs:List V}{ds:List Value}{E:XK}{x m:Str}{p pos apos:Pos}{e o:Expr}{es:List Expr}{ta:TE}{t:TA}
theorem run_fn {pins:List (Addr×Obj)}{σ:St}{H:Hp}{s:Shared}{Q:VK}{us:List Value}{vs:List V}(F:FnOk X.prog X.w X.K X.mg X.base CX k f fd ps sp)(hr:Room k X.A)(hb:Binds X.K fd ps ds)(hd:Vals dvs ds)(hx:cY CX X E)
  (I:Inv X pins σ H s) (r:Vals vs us) (h:sp (vs++dvs) H Q E):wpAny (model X.prog X.w) X.A (call (.ref f) us) (EP X pins σ Q) X.xe s:=by
 have r2:Vals (vs++dvs) (us++ds):=r.append hd;have hl:(us++ds).length=ps.length:=by rw[<- r2.length]; exact F.len _ _ _ _ h
 refine wpAny_call (codeAny_mono (F.run X.A X.stack s H ⟨us,[]⟩ (us++ds) (vs++dvs) Q E hr I.env0 (hb s us I.kIn hl) r2 h) fun r s' hq=>?_)
 cases r with
 |error e=>exact hx pins σ H s e s' I hq
 |ok fl =>
  cases fl with
  |ret u=>exact I.after hq
  |next=>exact False.elim hq
  |brk=>exact False.elim hq
  |cont=>exact False.elim hq
theorem pe_call (F:FnOk X.prog X.w X.K X.mg X.base CX k f fd ps sp)(hr:Room k X.A)(hg:Gl X x)(hm:X.mg x=some (.ref f))(hk:PySem.W.keepIn X.K (.ref f)=true)(hb:Binds X.K fd ps ds)(hd:Vals dvs ds)(hx:cY CX X E)
  (ha:PA X (e::es) t) (hdb:(x==("__debug__" : Str))=false:=by decide) (he:starEach (e::es) X.env=(false,eval e X.env)::starEach es X.env:=by rfl) (hpl:(backTo pos (starEach es X.env)).any (·.1)=false:=by rfl) :
  PE X (.Call (.Name x p) (e::es) [] pos) (iO sp dvs E t):=by
 intro pins s σ H Q I h;refine wpAny_Call_Name_kw (ld_glob I hg hm ?_ hdb);refine PySem.W.callWith_K (h₀:=X.base) I.ok.mod.kin hk (thn (ha pos pins s σ H _ I h) fun us s1 ⟨vs,H1,I1,r,q⟩=>⟨I1.kIn,?_⟩) he hpl;exact run_fn F hr hb hd hx I1 r q
end
structure FnScope (N P:List Str)(sc:Scope):Prop where
 kind:sc.kind=.function
 co:sc.isCoroutine=false
 gen:sc.isGenerator=false
 nd:N.Nodup
 pre:N.take P.length=P
 par:∀x∈P,sc.names.lookup x=some .local\/sc.names.lookup x=some .cell
 nofree:∀y∈sc.names,y.2≠.free
theorem eM {kindOf:Str->Option NameKind}{x:Str}:∀{binds:List (Str×Value)}{m:Str->Option Value},(∀v,(x,v)∉binds)->bindL kindOf binds m x=m x
 |[],_,_=>rfl
 | (n,v)::r,m,h=>by
  unfold bindL;rw[eM fun w hw=>h w (AO _ hw)]
  split
  .have:x≠n:=by rintro rfl; exact h v AQ
   simp[this]
  .rfl
theorem iM {kindOf:Str->Option NameKind}{x:Str}:∀{binds:List (Str×Value)}{m:Str->Option Value},(∀v,(x,v)∉binds)->bindC kindOf binds m x=m x
 |[],_,_=>rfl
 | (n,v)::r,m,h=>by
  unfold bindC;rw[iM fun w hw=>h w (AO _ hw)]
  split
  .rfl
  .have:x≠n:=by rintro rfl; exact h v AQ
   simp[this]
theorem aM {kindOf:Str->Option NameKind}{x:Str}{v:Value}:∀{P:List Str}{vs:List Value}{i:Nat}{m:Str->Option Value},P.Nodup->P[i]?=some x->vs[i]?=some v->kindOf x=some .local ->
  bindL kindOf (P.zip vs) m x=some v
 |[],_,_,_,_,h,_,_=>by simp at h
 |_::_,[],_,_,_,_,h,_=>by simp at h
 |p::P,w::vs,0,m,nd,h1,h2,hk=>by
  simp at h1 h2; subst h1; subst h2
  show bindL kindOf ((p,w)::P.zip vs) m p=_;unfold bindL;rw[eM fun v hv=>(BE.mp nd).1 (List.of_mem_zip hv).1,A4 hk]
  simp
 |p::P,w::vs,i+1,m,nd,h1,h2,hk=>by
  show bindL kindOf ((p,w)::P.zip vs) m x=_;unfold bindL;exact aM (i:=i) (BE.mp nd).2 (by simpa using h1) (by simpa using h2) hk
theorem qF {kindOf:Str->Option NameKind}{x:Str}{v:Value}:∀{P:List Str}{vs:List Value}{i:Nat}{m:Str->Option Value},P.Nodup->P[i]?=some x->vs[i]?=some v->kindOf x≠some .local ->
  bindC kindOf (P.zip vs) m x=some v
 |[],_,_,_,_,h,_,_=>by simp at h
 |_::_,[],_,_,_,_,h,_=>by simp at h
 |p::P,w::vs,0,m,nd,h1,h2,hk=>by
  simp at h1 h2; subst h1; subst h2
  show bindC kindOf ((p,w)::P.zip vs) m p=_;unfold bindC;rw[iM fun v hv=>(BE.mp nd).1 (List.of_mem_zip hv).1,Av hk]
  simp
 |p::P,w::vs,i+1,m,nd,h1,h2,hk=>by
  show bindC kindOf ((p,w)::P.zip vs) m x=_;unfold bindC;exact qF (i:=i) (BE.mp nd).2 (by simpa using h1) (by simpa using h2) hk
def start (N:List Str)(vs:List V):St:=vs.map some++List.replicate (N.length - vs.length) none
def nD (CX:CXT)(P:Program)(w:World)(K:DY)(mg:Str->Option Value)(base:Heap)(N:List Str)(qual:Str)(scope:Scope)(f:Addr)(cd:Value)(A:Around)(outer:List Env)(s:Shared)(H:Hp)(E:XK):Cx where
 prog:=P
 w:=w
 K:=K
 mg:=mg
 base:=base
 A:=A.deeper (envOfC qual scope s.heap.objs.size f cd)
 N:=N
 s₀:=s
 H₀:=H
 env:=envOfC qual scope s.heap.objs.size f cd
 outer:=outer
 stack:=envOfC qual scope s.heap.objs.size f cd::outer
 ex:=[]
 calm:=true
 fn:=fun _=>true
 pn:=[]
 xe:=fun e s'=>wpAny (model P w) (A.deeper (envOfC qual scope s.heap.objs.size f cd)) (leaving (envOfC qual scope s.heap.objs.size f cd) e) (fun _ s''=>CX outer H s E e s'') (fun e' s''=>CX outer H s E e' s'') s'
theorem iU {sc:Scope}{n:Nat}{x:Str}(h:sc.names.lookup x=some .cell):∃c,(cellsFrom n sc.names []).lookup x=some c:=by
 have q:=PySem.W.cellsFrom_some sc.names n [] (.inl h);exact Option.isSome_iff_exists.mp q
theorem lT {CX:CXT}{P:Program}{w:World}{K:DY}{mg:Str->Option Value}{base:Heap}{N ps:List Str}{qual:Str}{scope:Scope}{f:Addr}{cd:Value}{A:Around}{outer:List Env}{s s1:Shared}{H:Hp}{E:XK}{us:List Value}{vs:List V}
  (S:FnScope N ps scope) (hd:A.handled=none) (e0:Env0 P w K mg base A outer s H) (hl:vs.length=ps.length) (r:Vals vs us)
  (x:InCallC s s.heap.objs.size (bindL (envOfC qual scope s.heap.objs.size f cd).kindOf (ps.zip us) fun _=>none) (cellsFrom (s.heap.objs.size+1) scope.names []) (bindC (envOfC qual scope s.heap.objs.size f cd).kindOf (ps.zip us) fun _=>none) s1) :
  Inv (nD CX P w K mg base N qual scope f cd A outer s H E) [] (start N vs) H s1:=by
 have hpl:ps.length<=N.length:=by have:=Bq List.length S.pre; rw[Bb] at this; omega
 obtain⟨h1,tk,rfl,hk⟩:=x.done;have noA:∀b:Addr,b∉(nD CX P w K mg base N qual scope f cd A outer s H E).ex:=fun b z=>absurd (show b∈([]:List Addr) from z) (by simp)
 refine⟨⟨e0.mod,S.kind,rfl,rfl,AG _,fun y z c h1 h2=>?_,fun y hy=>?_,fun y c _ h=>?_,fun _=>hd,Around.frames_deeper e0.frames,.inr ⟨rfl,rfl⟩,fun b z=>absurd z (noA b),e0.bs,e0.bsz,fun b _ _=>noA b,fun b z=>absurd z (noA b),e0.funs,e0.frf⟩,
  rfl,e0.bare,Un.kept hk,⟨_,x.toInCall.ns,fun i y v h1 h2 h3=>?_⟩,fun y c h=>⟨_,x.cell y c h⟩,e0.hok.fresh (AG _),fun y c h=>?_,fun p hp=>absurd (show p∈([]:List (Addr×Obj)) from hp) (by simp),e0.hok.kept hk,?_⟩
 .exact name_of_addr x.apart (CM h1) (CM h2)
 .have hy:scope.names.lookup y=some .cell\/scope.names.lookup y=some .free:=hy
  rcases hy with hy | hy
  .exact iU hy
  .exact absurd rfl (S.nofree _ (CM hy))
 .exact BC (x.above y c (CM h))
 .have hi:i < vs.length:=by
   unfold start at h2
   by_cases hi:i < vs.length
   .exact hi
   .rw [A8 (by simpa using hi)] at h2
    rw[List.getElem?_replicate] at h2
    split at h2<;>cases h2
  have ha:vs[i]?=some v:=by
   unfold start at h2;rw[CK (by simpa using hi),AL] at h2
   cases e:vs[i]? with
   |none=>rw[e] at h2; cases h2
   |some a=>rw[e] at h2; cases h2; rfl
  obtain⟨u,hu,rv⟩:=r.get ha
  have hp:ps[i]?=some y:=by
   rw[<- S.pre,List.getElem?_take_of_lt (by omega)]; exact h1
  have ndP:ps.Nodup:=by rw[<- S.pre]; exact S.nd.sublist (List.take_sublist _ _)
  refine⟨u,rv,?_⟩
  rcases S.par y (AE hp) with k | k
  .exact .inl ⟨k,aM ndP hp hu k⟩
  .obtain ⟨c,e⟩:=iU (n:=s.heap.objs.size+1) k
   refine .inr ⟨.inl k,c,e,?_⟩;have q:=x.cell y c e;rw[qF ndP hp hu (by show scope.names.lookup y≠_; rw[k]; decide)] at q;exact q
 .exact e0.hok.fresh (BC (x.above y c (CM h)))
 .unfold start
  show _=N.length;rw[AM,AD,Bf];omega
theorem fn_of {CX:CXT}{P:Program}{w:World}{K:DY}{mg:Str->Option Value}{base:Heap}{k:Nat}{f:Addr}{name qual:Str}{params:Arguments}{body:List Stmt}{scope:Scope}{dV kV doc pm cdv ct oc:Value}{an od:Option Addr}
  {osl:Array (Option Value)} {N ps:List Str} {sp:Sp} (lk:K.lookup f=some ⟨oc,od,.func (PySem.W.fnOf name qual params body scope dV kV doc pm an cdv ct),osl⟩) (hcd:PySem.W.codeIn K cdv qual=true) (S:FnScope N ps scope)
  (len:∀vs H Q E,sp vs H Q E->vs.length=ps.length)
  (hbody:∀(A:Around) (outer:List Env) (s:Shared) (H:Hp) (vs:List V) (Q:VK) (E:XK),Room k (A.deeper (envOfC qual scope s.heap.objs.size f cdv))->sp vs H Q E ->
   ∃t,PSs (nD CX P w K mg base N qual scope f cdv A outer s H E) body t/\t { nx:=fun _ H'=>Q .non H',rt:=Q } (start N vs) H) :
  FnOk P w K mg base CX (k+1) f (PySem.W.fnOf name qual params body scope dV kV doc pm an cdv ct) ps sp:=by
 refine⟨len,fun A outer s H args us vs Q E hr e0 hb r hsp=>?_⟩;have hl:=len _ _ _ _ hsp;have KX:K.In s.heap:=e0.mod.kin.keeps fun b o e=>(e0.bs b o e).1;have lim:s.heap.NoLimit:=e0.mod.nolimit.keeps fun b o e=>(e0.bs b o e).1
 have hkind:∀y∈ps.zip us,scope.names.lookup y.1=some .local\/(scope.names.lookup y.1=some .cell/\((cellsFrom (s.heap.objs.size+1) scope.names []).lookup y.1).isSome=true):=fun⟨n,v⟩ hy=>by
  rcases S.par n (List.of_mem_zip hy).1 with q | q
  .exact .inl q
  .exact .inr ⟨q,PySem.W.cellsFrom_some _ _ _ (.inl q)⟩
 refine codeAny_call_function hr.depth (KX _ _ lk) rfl S.co S.gen rfl (PySem.W.codeRec_of KX hcd) (hb _ _ _ _ ?_);refine wpAny_newFunctionEnv_cells S.kind hkind fun env he s1 x=>?_;subst he;refine⟨lim.keeps x.toInCall.keep,codeAny_func ?_⟩;obtain⟨t,ht,hq⟩:=hbody A outer s H vs Q E (hr.deeper _) hsp;have I:Inv (nD CX P w K mg base N qual scope f cdv A outer s H E) [] (start N vs) H s1:=lT S hr.hd e0 hl r x
 refine Bd (ht [] s1 (start N vs) H _ I hq) (fun fl s' hs=>?_) fun e s' hs=>hs
 have fin:∀{σ':St} {H':Hp} {v:V} {u:Value},Inv (nD CX P w K mg base N qual scope f cdv A outer s H E) [] σ' H' s'->RelV v u->Q v H'->CE outer P w H s Q u s' :=
  fun {σ' H' v u} J rv q=>⟨v,H',J.os,J.bare,J.base,J.hok,rv,q⟩
 cases fl with
 |ret u =>
  obtain⟨v,σ',H',J,rv,q⟩:=hs;exact fin J rv q
 |next =>
  obtain⟨σ',H',J,q⟩:=hs;exact fin (v:=V.non) (u:=Value.none) J rfl q
 |brk =>
  obtain⟨_,_,_,q⟩:=hs;exact False.elim q
 |cont =>
  obtain⟨_,_,_,q⟩:=hs;exact False.elim q
section
variable {X:Cx}{x:Str}{p pos:Pos}{e:Expr}{es:List Expr}{t:TA}{id T:String}{r:List V->Hp->VK->Prop}
def tCB (r:List V->Hp->VK->Prop)(t:TA):TE:=fun σ H Q=>t σ H fun vs H1=>r vs H1 Q
theorem qA (hc:CallR X (.builtin id) r)(hg:Gl X x)(hm:X.mg x=none)(hv:bootBuiltins x=some (.builtin id))(ha:PA X (e::es) t)(hn:x ≠ "__name__":=by decide)(hdb:(x==("__debug__" : Str))=false:=by decide)
  (he:starEach (e::es) X.env=(false,eval e X.env)::starEach es X.env:=by rfl) (hpl:(backTo pos (starEach es X.env)).any (·.1)=false:=by rfl):PE X (.Call (.Name x p) (e::es) [] pos) (tCB r t):=by
 intro pins s σ H Q I h;refine wpAny_Call_Name_kw (mU I hg hm hv ?_ hn hdb);exact PyProof.Rows.callWith_builtin1 (thn (ha pos pins s σ H _ I h) fun us s1 ⟨vs,H1,I1,r1,q1⟩=>hc pins s1 σ H1 vs us Q I1 r1 q1) he hpl
theorem tS (hc:CallR X (.type T) r)(hg:Gl X x)(hm:X.mg x=none)(hv:bootBuiltins x=some (.type T))(ha:PA X (e::es) t)(hn:x ≠ "__name__":=by decide)(hdb:(x==("__debug__" : Str))=false:=by decide)
  (he:starEach (e::es) X.env=(false,eval e X.env)::starEach es X.env:=by rfl) (hpl:(backTo pos (starEach es X.env)).any (·.1)=false:=by rfl):PE X (.Call (.Name x p) (e::es) [] pos) (tCB r t):=by
 intro pins s σ H Q I h;refine wpAny_Call_Name_kw (mU I hg hm hv ?_ hn hdb);exact Co (thn (ha pos pins s σ H _ I h) fun us s1 ⟨vs,H1,I1,r1,q1⟩=>hc pins s1 σ H1 vs us Q I1 r1 q1) he hpl
end
end L2
namespace HT
open PySem PyProof.Rows
section
variable {prog:Program}{w:World}{A:Around}{E:Value->Shared->Prop}{s:Shared}
theorem cat_tup {t b:Addr}{vs ws:List Value}{Q:Value->Shared->Prop}(ht:IsTup s.heap t vs.toArray)(hb:IsTup s.heap b ws.toArray)(hv:vs≠[])
  (h1:ws=[]->Q (.ref t) s) (h2:ws≠[]->Q (.ref s.heap.objs.size) { s with heap:=s.heap.push { cls:=.type "tuple",data:=.seq (vs++ws).toArray } })
  (hsz:vs.length+ws.length<=sizeLine):wpAny (model prog w) A (binaryOp .Add (.ref t) (.ref b)) Q E s:=by
 obtain⟨⟨cls,dd,data,sl⟩,ho,hc,n,hd⟩:=id ht;obtain⟨⟨cls2,dd2,data2,sl2⟩,ho2,hc2,n2,hd2⟩:=id hb
 simp only at hc hd hc2 hd2
 subst hc hd hc2 hd2;have e:vs.toArray++ws.toArray=(vs++ws).toArray:=by simp
 by_cases hw:ws=[]
 .exact concat_meets ⟨_,ho,rfl⟩ ⟨_,ho2,rfl⟩ noFill_tuple_add seq_tuple_add DI DB (Cz _ _)
   (tuple_addW1 t b vs.toArray ws.toArray n n2 dd dd2 sl sl2 (by simpa using hv) (by simp[hw])) ⟨ho,ho2,h1 hw⟩
 .refine concat_meets ⟨_,ho,rfl⟩ ⟨_,ho2,rfl⟩ noFill_tuple_add seq_tuple_add DI DB (Cz _ _)
   (tuple_addW2 t b vs.toArray ws.toArray n n2 dd dd2 sl sl2 (by simpa using hv) (by simpa using hw) (by rw[AN,AN]; exact hsz)) ⟨ho,ho2,?_⟩
  rw[e];exact h2 hw
def sIx (n d:Nat):Option Int->Nat
 |none=>d
 |some v=>if v < 0 then (v+(n:Int)).toNat else min v.toNat n
theorem sIx_none (n d:Nat):sIx n d none=d:=rfl
theorem sIx_nat (n d k:Nat):sIx n d (some (k:Int))=min k n:=by
 show(if (k:Int) < 0 then ((k:Int)+(n:Int)).toNat else min (k:Int).toNat n)=min k n;rw[Av (by omega),B4]
end
end HT
namespace L2
open PySem PySem.Spec PyProof.Rows
abbrev TO:=St->Hp->(Option Int->Hp->Prop)->Prop
def PO (X:Cx)(e:Option Expr)(t:TO):Prop :=
 ∀(pins:List (Addr×Obj)) (s:Shared) (σ:St) (H:Hp) (Q:Option Int->Hp->Prop),Inv X pins σ H s->t σ H Q ->
  wpAny (model X.prog X.w) X.A (evalPart e X.env) (fun u s'=>∃o H',Inv X pins σ H' s'/\IsPart u o/\Q o H') X.xe s
def tNoPart:TO:=fun _ H Q=>Q none H
def tPart (t:TE):TO:=fun σ H Q=>t σ H fun x H1=>∃i,x=.int i/\Q (some i) H1
section
variable {X:Cx}{e:Expr}{te:TE}{lo hi:Option Expr}{tl th:TO}{pos p2:Pos}
theorem po_none:PO X none tNoPart:=by
 intro pins s σ H Q I h;rw[evalPart_none];exact AB ⟨none,H,I,.none,h⟩
theorem po_some (h:PE X e te):PO X (some e) (tPart te):=by
 intro pins s σ H Q I hw;rw[evalPart_some];refine thn (h pins s σ H _ I hw) fun u s1 ⟨x,H1,I1,r1,q1⟩=>?_;obtain⟨i,rfl,q⟩:=q1;obtain⟨t,rfl⟩:=r1;exact⟨some i,H1,I1,.int i t,q⟩
def SlR (X:Cx)(r:V->Option Int->Option Int->Hp->VK->Prop):Prop :=
 ∀(pins:List (Addr×Obj)) (s:Shared) (σ:St) (H:Hp) (x:V) (v vl vu:Value) (lo hi:Option Int) (sl:Addr) (Q:VK),Inv X pins σ H s->RelV x v->s.heap.IsSliceOf sl vl vu .none->IsPart vl lo->IsPart vu hi->r x lo hi H Q ->
  ∃T id,typeLookup (.type T) "__getitem__" = pure (some (.builtin id))/\s.TypeIs v T/\wpAny (model X.prog X.w) X.A (getItem v (.ref sl)) (EP X pins σ Q) X.xe s
def tSl (r:V->Option Int->Option Int->Hp->VK->Prop)(te:TE)(tl th:TO):TE:=fun σ H Q=>te σ H fun x H1=>tl σ H1 fun l H2=>th σ H2 fun u H3=>r x l u H3 Q
theorem vP {r:V->Option Int->Option Int->Hp->VK->Prop}(hr:SlR X r)(he:PE X e te)(hl:PO X lo tl)(hu:PO X hi th):PE X (.Subscript e (.Slice lo hi none p2) pos) (tSl r te tl th):=by
 intro pins s σ H Q I h;refine Subscript_ (thn (he pins s σ H _ I h) fun v s1 ⟨x,H1,I1,r1,q1⟩=>?_);refine wpAny_Slice (thn (hl pins s1 σ H1 _ I1 q1) fun vl s2 ⟨l,H2,I2,pl,q2⟩=>thn (hu pins s2 σ H2 _ I2 q2) fun vu s3 ⟨u,H3,I3,pu,q3⟩=>?_);rw[evalPart_none];refine AB ?_;have I4:Inv X pins σ H3 { s3 with heap:=s3.heap.push { cls:=.type "slice",data:=.fields #[vl,vu,.none] } }:=I3.kept (t':=s3.toks) fun b ob q=>AC _ q
 obtain⟨T,id,hT,ht,hg⟩:=hr pins { s3 with heap:=s3.heap.push { cls:=.type "slice",data:=.fields #[vl,vu,.none] } } σ H3 x v vl vu l u s3.heap.objs.size Q I4 r1 (Heap.IsSliceOf.new ..) pl pu q3;show wpAny (model X.prog X.w) X.A (subscriptTail e (.Slice lo hi none p2) v (.ref s3.heap.objs.size)) (EP X pins σ Q) X.xe { s3 with heap:=s3.heap.push { cls:=.type "slice",data:=.fields #[vl,vu,.none] } };exact tail_any (ops:=[.ref s3.heap.objs.size,v]) ht hT hg (by with_unfolding_all rfl)
def eT (xs:List V)(lo hi:Option Int):List V:=(xs.drop (HT.sIx xs.length 0 lo)).take (HT.sIx xs.length xs.length hi - HT.sIx xs.length 0 lo)
theorem tP (xs:List V)(lo hi:Option Int):(eT xs lo hi).length<=xs.length:=by
 unfold eT;rw[Bb,Br];omega
def rCatT (K:DY):R2:=fun x y H Q=>∃a b xs ys,x=.ref a/\y=.ref b/\SqT K H a xs/\SqT K H b ys/\xs≠[]/\xs.length+ys.length<=sizeLine /\
 (ys=[]->Q (.ref a) H)/\(ys≠[]->∀p,H p=none->Q (.ref p) (upd H p (.tup (xs++ys))))
theorem Vals.nil_iff {xs:List V}{us:List Value}(r:Vals xs us):us=[]↔xs=[]:=by
 cases r with
 |nil=>simp
 |cons _ _=>simp
theorem op_catT:OpR X (binaryOp .Add) (rCatT X.K):=by
 intro pins s σ H x y v u Q I rx ry h;obtain⟨a,b,xs,ys,rfl,rfl,ha,hb,hx,hz,q1,q2⟩:=h;cases rx;cases ry;obtain⟨its,r1,p1,_⟩:=I.tuple ha;obtain⟨its2,r2,p2,_⟩:=I.tuple hb;refine HT.cat_tup p1 p2 (fun z=>hx (r1.nil_iff.mp z)) (fun z=>⟨.ref a,H,I,rfl,q1 (r2.nil_iff.mp z)⟩) (fun z=>?_) (by rw[<- r1.length,<- r2.length]; exact hz);refine⟨.ref s.heap.objs.size,_,I.laid (t':=s.toks) (o:=.tup (xs++ys)) (fun b ob q=>AC _ q) (AG _) ?_,rfl,q2 (fun w=>z (r2.nil_iff.mpr w)) _ (I.hok.fresh (AG _))⟩
 exact⟨by rw[AM]; exact hz,_,r1.append r2,IsTupN.new _ _⟩
end
def ixN (n:Nat)(i:Int):Option Nat:=if 0<=i then (if i < n then some i.toNat else none) else if -(n:Int)<=i then some (i+n).toNat else none
def atI {α:Type}(xs:List α)(i:Int):Option α:=(ixN xs.length i).bind fun j=>xs[j]?
theorem pR {n:Nat}{i:Int}{j:Nat}(h:ixN n i=some j):seqIndex? i n=some j/\j < n/\-(n:Int)<=i/\i < n:=by
 unfold ixN at h
 by_cases h0:0<=i
 .rw [A4 h0] at h
  by_cases h1:i < n
  .rw [A4 h1] at h
   have e:i.toNat=j:=Ao h;exact⟨by rw[seqIndex_of h0 h1,e],by omega,by omega,h1⟩
  .rw [Av h1] at h; cases h
 .rw [Av h0] at h
  by_cases h1 : -(n:Int)<=i
  .rw [A4 h1] at h
   have e:(i+n).toNat=j:=Ao h;exact⟨by rw[seqIndex_neg (by omega) h1,e],by omega,h1,by omega⟩
  .rw [Av h1] at h; cases h
theorem fL {α:Type}{xs:List α}{i:Int}{v:α}(h:atI xs i=some v):∃j,seqIndex? i xs.length=some j/\xs[j]?=some v/\j < xs.length/\-(xs.length:Int)<=i/\i < xs.length:=by
 unfold atI at h
 cases e:ixN xs.length i with
 |none=>rw[e] at h; cases h
 |some j =>
  rw[e] at h;obtain⟨h1,h2,h3,h4⟩:=pR e;exact⟨j,h1,h,h2,h3,h4⟩
def cG (b:Expr):Prop:=∀o i,subscripted b false o i=operate [o,i] (getItem o i)
def IxR (X:Cx)(r:R2):Prop :=
 ∀(value slice:Expr) (pins:List (Addr×Obj)) (s:Shared) (σ:St) (H:Hp) (x y:V) (v u:Value) (Q:VK),Inv X pins σ H s->RelV x v->RelV y u->r x y H Q ->
  subscripted slice false v u=operate [v,u] (getItem v u)->wpAny (model X.prog X.w) X.A (subscriptTail value slice v u) (EP X pins σ Q) X.xe s
def MtR (X:Cx)(id:String)(r:V->List V->Hp->VK->Prop):Prop :=
 ∀(pins:List (Addr×Obj)) (s:Shared) (σ:St) (H:Hp) (x:V) (xs:List V) (v:Value) (us:List Value) (Q:VK),Inv X pins σ H s->RelV x v->Vals xs us->r x xs H Q ->
  wpAny (model X.prog X.w) X.A (call (.builtin id) (v::us)) (EP X pins σ Q) X.xe s
section
variable {X:Cx}{a b:Expr}{ta tb:TE}{pos:Pos}
theorem IxR.or {r r':R2}(h:IxR X r)(h':IxR X r'):IxR X (fun x y H Q=>r x y H Q\/r' x y H Q):=by
 intro value slice pins s σ H x y v u Q I rx ry q hs
 rcases q with q | q
 .exact h value slice pins s σ H x y v u Q I rx ry q hs
 .exact h' value slice pins s σ H x y v u Q I rx ry q hs
theorem pe_ix {r:R2}(hr:IxR X r)(ha:PE X a ta)(hb:PE X b tb)(hs:cG b):PE X (.Subscript a b pos) (tOp r ta tb):=by
 intro pins s σ H Q I h;exact Subscript_ (binT ha hb I h fun v u s2 x y H2 I2 rx ry q=>hr a b pins s2 σ H2 x y v u Q I2 rx ry q (hs _ _))
inductive IIx (S:Hp->Addr->List V->Prop)(x y:V)(H:Hp)(Q:VK):Prop
 |mk (p:Addr) (xs:List V) (i:Int) (v:V) (h:x=.ref p) (h':y=.int i) (s:S H p xs) (a:atI xs i=some v) (q:Q v H):IIx S x y H Q
def rIxL (K:DY):R2:=IIx (SqL K)
def rIxT (K:DY):R2:=IIx (SqT K)
def rIxS:R2:=fun x y H Q=>∃z i c,x=.str z/\y=.int i/\z.length<=sizeLine/\atI z.cps.toList i=some c/\Q (.str ⟨#[c]⟩) H
theorem ix_list:IxR X (rIxL X.K):=by
 intro value slice pins s σ H x y v u Q I rx ry h hs;obtain⟨p,xs,i,z,rfl,rfl,hq,he,q⟩:=h;cases rx;obtain⟨t,rfl⟩:=ry;obtain⟨its,r,pl,hz⟩:=I.list hq;obtain⟨j,h1,h2,h3,h4,h5⟩:=fL he;obtain⟨w,ew,rw'⟩:=r.get h2;have hl:=r.length;have hn:=tK;have fin:EP X pins σ Q w s:=⟨z,H,I,rw',q⟩
 by_cases h0:0<=i
 .have hj:i.toNat=j:=by
   rw[seqIndex_of h0 h5] at h1;exact Ao h1
  exact item_listR pl.isList h0 (by omega) (by rw[hj]; simpa using ew) fin hs
 .have hj:(i+(its.toArray.size:Int)).toNat=j:=by
   rw[seqIndex_neg (by omega) h4] at h1;rw[AN,<- hl];exact Ao h1
  exact subscriptTail_builtinR (x:=w) pl.isList.typeIs slot_list_getitem.lookup
   (wpAny_getItem_list_neg (Q:=fun r s'=>r=w/\EP X pins σ Q r s') pl.isList (by omega) (by rw[AN]<;>omega) (by omega) (by rw[hj]; simpa using ew) ⟨rfl,fin⟩) hs
theorem ix_tup:IxR X (rIxT X.K):=by
 intro value slice pins s σ H x y v u Q I rx ry h hs;obtain⟨p,xs,i,z,rfl,rfl,hq,he,q⟩:=h;cases rx;obtain⟨t,rfl⟩:=ry;obtain⟨its,r,pl,hz⟩:=I.tuple hq;obtain⟨j,h1,h2,h3,h4,h5⟩:=fL he;obtain⟨w,ew,rw'⟩:=r.get h2;have hl:=r.length;have hn:=tK;have fin:EP X pins σ Q w s:=⟨z,H,I,rw',q⟩
 exact subscriptTail_builtinR (x:=w) pl.typeIs slot_tuple_getitem.lookup
  (getItem_tuple (j:=j) (Q:=fun r s'=>r=w/\EP X pins σ Q r s') pl (by omega) (by omega) (by rw[AN,<- hl]; exact h1) (by simpa using ew) ⟨rfl,fin⟩) hs
theorem ix_str:IxR X rIxS:=by
 intro value slice pins s σ H x y v u Q I rx ry h hs;obtain⟨z,i,c,rfl,rfl,hz,he,q⟩:=h;obtain⟨t,rfl⟩:=rx;obtain⟨t',rfl⟩:=ry;obtain⟨j,h1,h2,h3,h4,h5⟩:=fL he;have hl:z.cps.toList.length=z.length:=by simp[Str.length]
 rw[hl] at h1 h4 h5;have hn:=tK
 exact tail_any (typeIs_str s z t) slot_str_getitem.lookup (getItem_str (c:=c) (by
  have e1:decide (i < -(2 ^ 63:Int))=false:=AR (by omega);have e2:decide (i >= 2 ^ 63)=false:=AR (by omega)
  rw[e1,e2,Bool.or_false]) (by rw[h1]; simpa using h2) ⟨.str ⟨#[c]⟩,H,I.tok _,⟨_,rfl⟩,q⟩) hs
def rIx (K:DY):R2:=fun x y H Q=>rIxL K x y H Q\/rIxT K x y H Q\/rIxS x y H Q
theorem ix_seq:IxR X (rIx X.K):=ix_list.or (ix_tup.or ix_str)
theorem yN (its:List Value)(n j:Nat)(u:Value):Obj.mapSeq (·.setIfInBounds j u) { cls:=.type "list",data:=.seq its.toArray n }={ cls:=.type "list",data:=.seq (its.set j u).toArray n }:=by
 simp[Obj.mapSeq]
theorem Inv.lst {pins:List (Addr×Obj)}{σ:St}{H:Hp}{s:Shared}{p:Addr}{xs:List V}(I:Inv X pins σ H s)(h:H p=some (.lst xs)):
  ∃(its:List Value) (n:Nat),Vals xs its/\s.heap.get? p=some { cls:=.type "list",data:=.seq its.toArray n }/\xs.length<=sizeLine:=by
 obtain⟨z,its,n,r,e⟩:=I.hok p _ h;exact⟨its,n,r,e,z⟩
theorem Inv.lstUpd {pins:List (Addr×Obj)}{σ:St}{H:Hp}{s:Shared}{p:Addr}{xs ys:List V}{its its':List Value}{n n':Nat}{f:Obj->Obj}(I:Inv X pins σ H s)(h:H p=some (.lst xs))
  (ho:s.heap.get? p=some { cls:=.type "list",data:=.seq its.toArray n }) (hf:f { cls:=.type "list",data:=.seq its.toArray n }={ cls:=.type "list",data:=.seq its'.toArray n' }) (r:Vals ys its') (hz:ys.length<=sizeLine) (t:Nat) :
  Inv X pins σ (upd H p (.lst ys)) { s with heap:=s.heap.update p f,toks:=t }:=by
 have e:(s.heap.update p f).get? p=some { cls:=.type "list",data:=.seq its'.toArray n' }:=by
  rw[Am f ho (by rw[hf]<;>rfl),hf]
 refine I.write (x:=p) (e:=p) (by rw[h]; trivial) (.inl rfl) (fun b u hb q=>(BH _ _ (Ne.symm hb)).trans q) ⟨_,e⟩ ?_;exact⟨hz,its',n',r,e⟩
def rSetL:V->V->V->Hp->(Hp->Prop)->Prop:=fun o i v H Q=>∃p xs k j,o=.ref p/\i=.int k/\H p=some (.lst xs)/\ixN xs.length k=some j/\Q (upd H p (.lst (xs.set j v)))
theorem vE:PSet X rSetL:=by
 intro pins s σ H o i v ov iv u Q I ro ri rv h;obtain⟨p,xs,k,j,rfl,rfl,hp,hj,q⟩:=h;cases ro;obtain⟨t,rfl⟩:=ri;obtain⟨its,n,r,ho,hz⟩:=I.lst hp;obtain⟨h1,h2,h3,h4⟩:=pR hj;have hl:=r.length;have hn:=tK
 have I':Inv X pins σ (upd H p (.lst (xs.set j v))) { s with heap:=s.heap.update p (Obj.mapSeq (·.setIfInBounds j u)) } :=
  I.lstUpd hp ho (yN its n j u) (r.set rv j) (by rw[Cm]; exact hz) s.toks
 by_cases h0:0<=k
 .have hk:k.toNat=j:=by
   rw[seqIndex_of h0 h4] at h1;exact Ao h1
  exact PySem.W.ki_setAt ho h0 (by omega) (by rw[AN,<- hl]; exact h4) (by rw[hk]; exact⟨_,I',q⟩)
 .have hk:(k+(its.toArray.size:Int)).toNat=j:=by
   rw[seqIndex_neg (by omega) h3] at h1;rw[AN,<- hl];exact Ao h1
  exact PySem.W.ki_setBack ho (by omega) (by rw[AN,<- hl]; exact h3) (by omega) (by rw[hk]; exact⟨_,I',q⟩)
theorem pF (lo hi:Option Int)(n:Nat):(sliceBounds lo hi none n).1=((HT.sIx n 0 lo:Nat):Int)/\(sliceBounds lo hi none n).2.1=((HT.sIx n n hi:Nat):Int)/\(sliceBounds lo hi none n).2.2=1:=by
 refine⟨?_,?_,rfl⟩
 .cases lo with
  |none=>simp[sliceBounds,HT.sIx]
  |some i =>
   simp only[sliceBounds,HT.sIx,Option.getD_none,show(1:Int) > 0 by decide,if_true]
   by_cases h:i < 0
   .simp only[h,if_true]<;>omega
   .simp only[h,if_false]<;>omega
 .cases hi with
  |none=>simp[sliceBounds,HT.sIx]
  |some i =>
   simp only[sliceBounds,HT.sIx,Option.getD_none,show(1:Int) > 0 by decide,if_true]
   by_cases h:i < 0
   .simp only[h,if_true]<;>omega
   .simp only[h,if_false]<;>omega
theorem gB (its:List Value)(lo hi:Option Int):slicePick its.toArray lo hi none=((its.drop (HT.sIx its.length 0 lo)).take (HT.sIx its.length its.length hi - HT.sIx its.length 0 lo)).toArray:=by
 obtain⟨h1,h2,h3⟩:=pF lo hi its.toArray.size;unfold slicePick;rw[h1,h2,h3]
 simp only[sliceRange_one,pick_run,List.size_toArray]<;>rfl
def rSlL (K:DY):V->Option Int->Option Int->Hp->VK->Prop:=fun x lo hi H Q=>∃a xs,x=.ref a/\SqL K H a xs/\∀p,H p=none->Q (.ref p) (upd H p (.lst (eT xs lo hi)))
theorem sl_list:SlR X (rSlL X.K):=by
 intro pins s σ H x v vl vu lo hi sl Q I rx hs pl pu h;obtain⟨a,xs,rfl,hx,q⟩:=h;cases rx;obtain⟨its,r,ht,hz⟩:=I.list hx;have hlen:=r.length;refine⟨"list",_,slot_list_getitem.lookup,ht.isList.typeIs,?_⟩;refine wpAny_getItem_list_slice ht.isList hs pl pu .none (by simp) ?_ (by rw[AN]<;>omega);rw[gB,<- hlen];refine⟨.ref s.heap.objs.size,_,I.laid (t':=s.toks) (o:=.lst (eT xs lo hi)) (fun b ob q=>AC _ q) (AG _) ?_,rfl,q _ (I.hok.fresh (AG _))⟩
 exact⟨AX (tP xs lo hi) hz,_,0,(r.drop (HT.sIx xs.length 0 lo)).take (HT.sIx xs.length xs.length hi - HT.sIx xs.length 0 lo),AK _ rfl⟩
def zW:V->Bool
 |.non=>true
 |.bl _=>true
 |.int _=>true
 |.str _=>true
 |_=>false
def eqV:V->V->Bool
 |.non,.non=>true
 |.bl a,.bl b=>a==b
 |.bl a,.int b=>(if a then 1 else 0)==b
 |.int a,.bl b=>a==(if b then 1 else 0)
 |.int a,.int b=>a==b
 |.str a,.str b=>a==b
 |_,_=>false
theorem eqAt_V {A:Around}{s:Shared}{y x:V}{u v:Value}(ry:RelV y u)(rx:RelV x v)(fy:zW y=true)(fx:zW x=true):SeqAt.EqAt A s u v (eqV y x):=by
 cases y with
 |non =>
  cases ry
  cases x with
  |non=>cases rx; exact SeqAt.EqAt.same _
  |bl b=>cases rx; exact SeqAt.EqAt.none_bool b
  |int b=>obtain⟨t,rfl⟩:=rx; exact SeqAt.EqAt.none_int b t
  |str b=>obtain⟨t,rfl⟩:=rx; exact SeqAt.EqAt.none_str b t
  |_=>exact absurd (show false=true from fx) AJ
 |bl a =>
  cases ry
  cases x with
  |non=>cases rx; exact SeqAt.EqAt.bool_none a
  |bl b=>cases rx; exact DU a b
  |int b=>obtain⟨t,rfl⟩:=rx; exact SeqAt.EqAt.bool_int a b t
  |str b=>obtain⟨t,rfl⟩:=rx; exact SeqAt.EqAt.bool_str a b t
  |_=>exact absurd (show false=true from fx) AJ
 |int a =>
  obtain⟨t',rfl⟩:=ry
  cases x with
  |non=>cases rx; exact SeqAt.EqAt.int_none a t'
  |bl b=>cases rx; exact SeqAt.EqAt.int_bool a t' b
  |int b=>obtain⟨t,rfl⟩:=rx; exact SeqAt.EqAt.int_int a t' b t
  |str b=>obtain⟨t,rfl⟩:=rx; exact SeqAt.EqAt.int_str a t' b t
  |_=>exact absurd (show false=true from fx) AJ
 |str a =>
  obtain⟨t',rfl⟩:=ry
  cases x with
  |non=>cases rx; exact SeqAt.EqAt.str_none a t'
  |bl b=>cases rx; exact SeqAt.EqAt.str_bool a t' b
  |int b=>obtain⟨t,rfl⟩:=rx; exact SeqAt.EqAt.str_int a t' b t
  |str b=>obtain⟨t,rfl⟩:=rx; exact SeqAt.EqAt.str_str a t' b t
  |_=>exact absurd (show false=true from fx) AJ
 |_=>exact absurd (show false=true from fy) AJ
def eqU (x:V)(u:Value):Bool:=match u with
 |.none=>eqV .non x
 |.bool b=>eqV (.bl b) x
 |.int i _=>eqV (.int i) x
 |.str z _=>eqV (.str z) x
 |_=>false
theorem pI {x y:V}{u:Value}(r:RelV y u)(f:zW y=true):eqU x u=eqV y x:=by
 cases y with
 |non=>cases r; rfl
 |bl b=>cases r; rfl
 |int i=>obtain⟨t,rfl⟩:=r; rfl
 |str z=>obtain⟨t,rfl⟩:=r; rfl
 |_=>exact absurd (show false=true from f) AJ
theorem zY {x:V}:∀{xs:List V}{us:List Value},Vals xs us->xs.all zW=true->us.any (eqU x)=xs.any fun y=>eqV y x
 |_,_,.nil,_=>rfl
 |y::xs,u::us,.cons r t,f=>by
  rw[DA,Bc] at f;rw[List.any_cons,List.any_cons,pI r f.1,zY t f.2]
theorem uV {A:Around}{s:Shared}{x:V}{v:Value}(rx:RelV x v)(fx:zW x=true):∀{xs:List V}{us:List Value},Vals xs us->xs.all zW=true->∀u∈us,SeqAt.EqAt A s u v (eqU x u)
 |_,_,.nil,_=>fun u hu=>by cases hu
 |y::xs,u::us,.cons r t,f=>fun u' hu=>by
  rw[DA,Bc] at f
  rcases Ax.mp hu with rfl | hu
  .rw [pI r f.1]; exact eqAt_V r rx f.1 fx
  .exact uV rx fx t f.2 u' hu
def inV (x:V)(xs:List V):Bool:=xs.any fun y=>eqV y x
def rIn (K:DY)(neg:Bool):R2:=fun x y H Q=>∃p xs,y=.ref p/\(SqL K H p xs\/SqT K H p xs)/\zW x=true/\xs.all zW=true/\Q (.bl (if neg then !inV x xs else inV x xs)) H
theorem wM:OpR X (compareOp .In) (rIn X.K false):=by
 intro pins s σ H x y v u Q I rx ry h;obtain⟨p,xs,rfl,hq,fx,fs,q⟩:=h;cases ry
 rcases hq with hq | hq
 .obtain ⟨its,r,pl,hz⟩:=I.list hq
  refine SeqAt.in_listAt (eqU x) pl.isList (fun w hw=>uV rx fx r fs w (by simpa using hw)) ⟨.bl _,H,I,rfl,?_⟩;rw[show its.toArray.any (eqU x)=its.any (eqU x) by simp,zY r fs];exact q
 .obtain ⟨its,r,pl,hz⟩:=I.tuple hq
  refine SeqAt.in_tupleAt (eqU x) pl (fun w hw=>uV rx fx r fs w (by simpa using hw)) ⟨.bl _,H,I,rfl,?_⟩;rw[show its.toArray.any (eqU x)=its.any (eqU x) by simp,zY r fs];exact q
theorem eF:OpR X (compareOp .NotIn) (rIn X.K true):=by
 intro pins s σ H x y v u Q I rx ry h;obtain⟨p,xs,rfl,hq,fx,fs,q⟩:=h;cases ry
 rcases hq with hq | hq
 .obtain ⟨its,r,pl,hz⟩:=I.list hq
  refine SeqAt.notIn_listAt (eqU x) pl.isList (fun w hw=>uV rx fx r fs w (by simpa using hw)) ⟨.bl _,H,I,rfl,?_⟩;rw[show its.toArray.any (eqU x)=its.any (eqU x) by simp,zY r fs];exact q
 .obtain ⟨its,r,pl,hz⟩:=I.tuple hq
  refine SeqAt.notIn_tupleAt (eqU x) pl (fun w hw=>uV rx fx r fs w (by simpa using hw)) ⟨.bl _,H,I,rfl,?_⟩;rw[show its.toArray.any (eqU x)=its.any (eqU x) by simp,zY r fs];exact q
theorem vL:CallR X (.builtin "len") (fun xs H Q=>∃p ys,xs=[.ref p]/\(SqL X.K H p ys\/SqT X.K H p ys)/\Q (.int ys.length) H):=by
 intro pins s σ H xs us Q I r h;obtain⟨p,ys,rfl,hq,q⟩:=h;obtain⟨u,rfl,rx⟩:=aJ r;cases rx;have hn:=tK
 rcases hq with hq | hq
 .obtain ⟨its,r',pl,hz⟩:=I.list hq
  have hlen:=r'.length;exact Calls.call_len_list pl.isList (by simp only[List.size_toArray]<;>omega) ⟨.int ys.length,H,I.tok _,⟨s.toks+1,by rw[AN,hlen]⟩,q⟩
 .obtain ⟨its,r',pl,hz⟩:=I.tuple hq
  have hlen:=r'.length;exact len_tuple pl (by simp only[List.size_toArray]<;>omega) ⟨.int ys.length,H,I.tok _,⟨s.toks+1,by rw[AN,hlen]⟩,q⟩
theorem kL:CallR X (.builtin "len") (fun xs H Q=>∃z,xs=[.str z]/\z.length<=sizeLine/\Q (.int z.length) H):=by
 intro pins s σ H xs us Q I r h;obtain⟨z,rfl,hz,q⟩:=h;obtain⟨u,rfl,t,rfl⟩:=aJ r;have hn:=tK;exact len_str (by omega) ⟨.int z.length,H,I.tok _,⟨_,rfl⟩,q⟩
theorem CallR.or {f:Value}{r r':List V->Hp->VK->Prop}(h:CallR X f r)(h':CallR X f r'):CallR X f (fun xs H Q=>r xs H Q\/r' xs H Q):=by
 intro pins s σ H xs us Q I rs q
 rcases q with q | q
 .exact h pins s σ H xs us Q I rs q
 .exact h' pins s σ H xs us Q I rs q
theorem oW:CallR X (.type "list") (fun xs H Q=>∃p ys,xs=[.ref p]/\(SqL X.K H p ys\/SqT X.K H p ys)/\∀l,H l=none->Q (.ref l) (upd H l (.lst ys))):=by
 intro pins s σ H xs us Q I r h;obtain⟨p,ys,rfl,hq,q⟩:=h;obtain⟨u,rfl,rx⟩:=aJ r;cases rx
 have fin:∀(its:List Value),Vals ys its->ys.length<=sizeLine->∀(h':Heap) (c':Nat),(∀b o',s.heap.get? b=some o'->h'.get? b=some o') ->
   h'.get? s.heap.objs.size=some { cls:=.type "list",dict:=none,data:=.seq its.toArray c',slots:=#[] }->EP X pins σ Q (.ref s.heap.objs.size) { s with heap:=h' }:=fun its r' hz h' c' kp e =>
  ⟨.ref s.heap.objs.size,_,I.laid (t':=s.toks) kp (AG _) (show ObjOk X.prog X.w _ h' _ (.lst ys) from⟨hz,its,c',r',e⟩),rfl,q _ (I.hok.fresh (AG _))⟩
 rcases hq with hq | hq
 .obtain ⟨its,r',pl,hz⟩:=I.list hq
  have hlen:=r'.length;obtain⟨o,ho,hc,n,hd⟩:=pl.isList;exact call_list_seq p (.inl rfl) ho hc hd (fun h' c' kp e=>fin its r' hz h' c' kp e) (by simp only[List.size_toArray]<;>omega)
 .obtain ⟨its,r',pl,hz⟩:=I.tuple hq
  have hlen:=r'.length;obtain⟨o,ho,hc,n,hd⟩:=pl;exact call_list_seq p (.inr rfl) ho hc hd (fun h' c' kp e=>fin its r' hz h' c' kp e) (by simp only[List.size_toArray]<;>omega)
theorem pB:CallR X (.type "tuple") (fun xs H Q=>∃p ys,xs=[.ref p]/\((SqL X.K H p ys/\∀l,H l=none->Q (.ref l) (upd H l (.tup ys)))\/(SqT X.K H p ys/\Q (.ref p) H))):=by
 intro pins s σ H xs us Q I r h;obtain⟨p,ys,rfl,h⟩:=h;obtain⟨u,rfl,rx⟩:=aJ r;cases rx
 rcases h with ⟨hq,q⟩ | ⟨hq,q⟩
 .obtain ⟨its,r',pl,hz⟩:=I.list hq
  have hlen:=r'.length;refine call_tuple_list pl.isList (fun h' kp=>?_) (by simp only[List.size_toArray]<;>omega);have I1:Inv X pins σ H { s with heap:=h' }:=I.kept (t':=s.toks) kp
  have I2:Inv X pins σ (upd H h'.objs.size (.tup ys)) { s with heap:=h'.push { cls:=.type "tuple",data:=.seq its.toArray } } :=
   I1.laid (t':=s.toks) (fun b o e=>AC _ e) (AG _) (show ObjOk X.prog X.w _ _ _ (.tup ys) from⟨hz,its,r',IsTupN.new _ _⟩)
  exact⟨.ref h'.objs.size,_,I2,rfl,q _ (I1.hok.fresh (AG _))⟩
 .obtain ⟨its,r',pl,hz⟩:=I.tuple hq
  exact call_tuple_same pl ⟨.ref p,H,I,rfl,q⟩
def tyV (K:DY)(T:String)(x:V)(H:Hp):Prop:=match x with
 |.str _=>T = "str"
 |.int _=>T = "int"
 |.ref p=>(T = "list"/\∃xs,SqL K H p xs)\/(T = "tuple"/\∃o,K.lookup p=some o/\o.cls=.type "tuple"/\o.dict=none) \/
   (T = "dict"/\((∃kvs,H p=some (.dK kvs))\/∃kvs,H p=some (.dT kvs)))\/(T = "set"/\∃S n,H p=some (.set S n))
 |_=>False
theorem lO {pins:List (Addr×Obj)}{σ:St}{H:Hp}{s:Shared}{T:String}{x:V}{v:Value}(I:Inv X pins σ H s)(r:RelV x v)(ty:tyV X.K T x H):
  s.TypeIs v T/\∀a,v=.ref a->∃ob,s.heap.get? a=some ob/\ob.dict=none:=by
 cases x with
 |str z =>
  obtain⟨t,rfl⟩:=r;cases (show T = "str" from ty);exact⟨typeIs_str s z t,fun _ e=>nomatch e⟩
 |int i =>
  obtain⟨t,rfl⟩:=r;cases (show T = "int" from ty);exact⟨typeIs_int s i t,fun _ e=>nomatch e⟩
 |ref p =>
  cases r
  rcases ty with ⟨rfl,xs,hq⟩ | ⟨rfl,o,hk,hc,hd⟩ | ⟨rfl,hk⟩ | ⟨rfl,S,n,hk⟩
  .obtain ⟨its,_,pl,_⟩:=I.list hq
   refine⟨pl.isList.typeIs,fun a e=>?_⟩;cases e;obtain⟨o,n,e,c,hd,_⟩:=pl;exact⟨o,e,hd⟩
  .refine ⟨⟨o,I.kIn p o hk,hc⟩,fun a e=>?_⟩
   cases e;exact⟨o,I.kIn _ o hk,hd⟩
  .have z:∃o,s.heap.get? p=some o/\o.ExactDict:=by
    rcases hk with ⟨kvs,hk⟩ | ⟨kvs,hk⟩
    .obtain ⟨_,_,_,_,o,_,_,e,ex,_⟩:=I.hok p _ hk
     exact⟨o,e,ex⟩
    .obtain ⟨_,_,_,_,o,_,_,e,ex,_⟩:=I.hok p _ hk
     exact⟨o,e,ex⟩
   obtain⟨o,e,ex⟩:=z;refine⟨⟨o,e,ex.1⟩,fun a e2=>?_⟩;cases e2;exact⟨o,e,ex.2.1⟩
  .obtain ⟨o,_,_,_,e,ex,_⟩:=I.hok p _ hk
   refine⟨⟨o,e,ex.1⟩,fun a e2=>?_⟩;cases e2;exact⟨o,e,ex.2.1⟩
 |_=>exact False.elim ty
def tBM0 (K:DY)(T:String)(r:V->List V->Hp->VK->Prop)(to:TE):TE:=fun σ H Q=>to σ H fun x H1=>tyV K T x H1/\r x [] H1 Q
def tBM (K:DY)(T:String)(r:V->List V->Hp->VK->Prop)(to:TE)(t:TA):TE:=fun σ H Q=>to σ H fun x H1=>tyV K T x H1/\t σ H1 fun xs H2=>r x xs H2 Q
variable {o e:Expr}{es:List Expr}{to:TE}{t:TA}{name:Str}{apos cpos:Pos}{T id:String}{r:V->List V->Hp->VK->Prop}
theorem zA (pa:PlainAttrs T)(slot:Slot T name id)(hty:typeOf (.builtin id)=pure (.type "method_descriptor"))(hm:MtR X id r)(ho:PE X o to)
  (hbase:attributeBase o name X.env (eval o X.env)=eval o X.env:=by rfl) (hline:(apos.endLine==cpos.line)=true:=by rfl):PE X (.Call (.Attribute o name apos) [] [] cpos) (tBM0 X.K T r to):=by
 intro pins s σ H Q I h;refine wpAny_Call_method0_late hbase hline (thn (ho pins s σ H _ I h) fun v s1 ⟨x,H1,I1,r1,ty,q1⟩=>?_);obtain⟨h1,h2⟩:=lO I1 r1 ty;exact⟨T,id,pa,slot,hty,h1,h2,DJ rfl (PySem.evalArgs_none (hm pins s1 σ H1 x [] v [] Q I1 r1 .nil q1))⟩
theorem pe_bm (pa:PlainAttrs T)(slot:Slot T name id)(hty:typeOf (.builtin id)=pure (.type "method_descriptor"))(hm:MtR X id r)(ho:PE X o to)(ha:PA X (e::es) t)
  (hbase:attributeBase o name X.env (eval o X.env)=eval o X.env:=by rfl)
  (hfew:((backTo cpos (starEach (e::es) X.env)).all (fun x=>!x.1)&&(backToKw cpos (keywordEach [] X.env)).all (fun x=>x.1.isSome)
   && decide ((e::es).length+([]:List Keyword).length+(if ([]:List Keyword).isEmpty then 0 else 1) < 30))=true:=by rfl)
  (hline:(apos.endLine==cpos.line)=true:=by rfl) (hs:starEach (e::es) X.env=(false,eval e X.env)::starEach es X.env:=by rfl) (hplain:(backTo cpos (starEach es X.env)).any (·.1)=false:=by rfl) :
  PE X (.Call (.Attribute o name apos) (e::es) [] cpos) (tBM X.K T r to t):=by
 intro pins s σ H Q I h;refine wpAny_Call_method_late hbase hfew hline rfl (thn (ho pins s σ H _ I h) fun v s1 ⟨x,H1,I1,r1,ty,q1⟩=>?_);obtain⟨h1,h2⟩:=lO I1 r1 ty;refine⟨T,id,pa,slot,hty,h1,h2,?_⟩;have hA:=ha cpos pins s1 σ H1 _ I1 q1;rw[hs] at hA ⊢;refine DJ (by show(false || (backTo cpos (starEach es X.env)).any (·.1))=false; rw[hplain]<;>rfl) (Calls.evalArgs_plain ?_);exact thn hA fun us s2 ⟨vs,H2,I2,r2,q2⟩=>hm pins s2 σ H2 x vs v us Q I2 r1 r2 q2
end
def MtM (X:Cx)(id:String)(r:V->List V->Hp->VK->Prop):Prop :=
 ∀(pins:List (Addr×Obj)) (s:Shared) (σ:St) (H:Hp) (x:V) (xs:List V) (v:Value) (us:List Value) (Q:VK),Inv X pins σ H s->RelV x v->Vals xs us->r x xs H Q ->
  wpAny (model X.prog X.w) X.A (call (.builtin id) (v::us)) (EP X pins σ Q) X.xe s
theorem Vals.one:∀{x:V}{us:List Value},Vals [x] us->∃u,us=[u]/\RelV x u
 |_,_,.cons r .nil=>⟨_,rfl,r⟩
theorem Vals.two:∀{x y:V}{us:List Value},Vals [x,y] us->∃u v,us=[u,v]/\RelV x u/\RelV y v
 |_,_,_,.cons r (.cons q .nil)=>⟨_,_,rfl,r,q⟩
theorem Vals.zero:∀{us:List Value},Vals [] us->us=[]
 |_,.nil=>rfl
theorem Vals.dropLast {xs:List V}{us:List Value}(h:Vals xs us):Vals xs.dropLast us.dropLast:=by
 induction h with
 |nil=>exact .nil
 |cons r t ih =>
  cases t with
  |nil=>exact .nil
  |cons q t'=>exact .cons r ih
theorem Vals.reverse {xs:List V}{us:List Value}(h:Vals xs us):Vals xs.reverse us.reverse:=by
 induction h with
 |nil=>exact .nil
 |cons r t ih=>rw[BS,BS]; exact Vals.append ih (.cons r .nil)
theorem tN {α:Type}(l:List α):l.eraseIdx (l.length - 1)=l.dropLast:=by
 induction l with
 |nil=>rfl
 |cons a r ih =>
  cases r with
  |nil=>rfl
  |cons b r =>
   have e:(a::b::r).length - 1=((b::r).length - 1)+1:=by
    have h1:(a::b::r).length=r.length+2:=rfl;have h2:(b::r).length=r.length+1:=rfl;omega
   rw[e,Az,ih]
   all_goals rfl
section
variable {X:Cx}{pins:List (Addr×Obj)}{σ:St}{H:Hp}{s:Shared}{l b:Addr}{xs ys zs:List V}
theorem Inv.lset {its its':List Value}{n:Nat}{f:Array Value->Array Value}{t':Nat}(I:Inv X pins σ H s)(hH:H l=some (.lst xs))
  (e:s.heap.get? l=some { cls:=.type "list",data:=.seq its.toArray n }) (hf:f its.toArray=its'.toArray) (hv:Vals ys its') (hz:ys.length<=sizeLine) :
  Inv X pins σ (upd H l (.lst ys)) { s with heap:=s.heap.update l (Obj.mapSeq f),toks:=t' }:=by
 have q:=PySem.IsL.update e f;rw[hf] at q;refine I.write (x:=l) (e:=l) (by rw[hH]; exact trivial) (.inl rfl) (fun b' u hb hu=>(BH s.heap (Obj.mapSeq f) (Ne.symm hb)).trans hu) ⟨_,q⟩ ?_;exact⟨hz,its',_,hv,q⟩
theorem Inv.lnew {its:List Value}{t':Nat}(I:Inv X pins σ H s)(hv:Vals ys its)(hz:ys.length<=sizeLine):
  Inv X pins σ (upd H s.heap.objs.size (.lst ys)) { s with heap:=s.heap.push { cls:=.type "list",data:=.seq its.toArray },toks:=t' } :=
 I.laid (fun _ _ q=>AC _ q) (AG _) ⟨hz,its,0,hv,AK _ rfl⟩
theorem Inv.fresh (I:Inv X pins σ H s):H s.heap.objs.size=none:=I.hok.fresh (AG _)
theorem Inv.lstM (I:Inv X pins σ H s)(hH:H l=some (.lst xs)):xs.length<=sizeLine/\∃(its:List Value) (n:Nat),Vals xs its/\xs.length=its.length/\s.heap.get? l=some { cls:=.type "list",data:=.seq its.toArray n }:=by
 obtain⟨z,its,n,r,e⟩:=I.hok l _ hH;exact⟨z,its,n,r,r.length,e⟩
theorem dA {n:Nat}(h:n<=sizeLine):Builtin.List.listTooLong n=false:=by
 unfold Builtin.List.listTooLong;exact AR (by omega)
end
section
variable {X:Cx}
def xR:V->List V->Hp->VK->Prop:=fun x vs H Q=>∃l xs y,x=.ref l/\vs=[y]/\H l=some (.lst xs)/\xs.length < sizeLine/\Q .non (upd H l (.lst (xs++[y])))
theorem yM:MtM X "list.append" xR:=by
 intro pins s σ H x vs v us Q I rx rv h;obtain⟨l,xs,y,rfl,rfl,hH,hz,q⟩:=h;cases rx;obtain⟨u,rfl,ru⟩:=rv.one;obtain⟨z,its,n,r,hl,e⟩:=I.lstM hH;refine DH F.slot_list_append ⟨_,e,rfl⟩ F.entry_list_append (F.args_list_append_2 _ _) (PySem.list_append l its.toArray n u (by rw[AN]; omega)) ⟨e,?_⟩;refine⟨.non,_,I.lset (its':=its++[u]) hH e (by simp) (r.append (.cons ru .nil)) ?_,rfl,q⟩
 rw[AM,Ak];omega
def jR:V->List V->Hp->VK->Prop:=fun x vs H Q=>∃l b xs zs,x=.ref l/\vs=[.ref b]/\H l=some (.lst xs)/\H b=some (.lst zs)/\xs.length+zs.length<=sizeLine/\Q .non (upd H l (.lst (xs++zs)))
theorem jT:MtM X "list.extend" jR:=by
 intro pins s σ H x vs v us Q I rx rv h;obtain⟨l,b,xs,zs,rfl,rfl,hH,hB,hz,q⟩:=h;cases rx;obtain⟨u,rfl,ru⟩:=rv.one;cases ru;obtain⟨z,its,n,r,hl,e⟩:=I.lstM hH;obtain⟨z2,its2,n2,r2,hl2,e2⟩:=I.lstM hB;have hsz:its.toArray.size+its2.toArray.size<=sizeLine:=by rw[AN,AN]; omega
 have hlong:¬ (!its.toArray.isEmpty&&Builtin.List.listTooLong (its.toArray.size+its2.toArray.size))=true:=by
  rw[dA hsz,Bool.and_false];exact AJ
 refine DH F.slot_list_extend ⟨_,e,rfl⟩ F.entry_list_extend (F.args_list_extend_2 _ _)
  (AutoSeq1.list_extend_list_list_0 l its.toArray n b its2.toArray n2 hlong (by rw[AN]; omega) (by omega)) ⟨e,e2,?_⟩
 refine⟨.non,_,I.lset (its':=its++its2) hH e (by simp) (r.append r2) ?_,rfl,q⟩;rw[AM];omega
def rPop:V->List V->Hp->VK->Prop:=fun x vs H Q=>∃l xs y,x=.ref l/\vs=[]/\H l=some (.lst xs)/\xs[xs.length - 1]?=some y/\Q y (upd H l (.lst xs.dropLast))
theorem mt_pop:MtM X "list.pop" rPop:=by
 intro pins s σ H x vs v us Q I rx rv h;obtain⟨l,xs,y,rfl,rfl,hH,hy,q⟩:=h;cases rx;have hus:=rv.zero;subst hus;obtain⟨z,its,n,r,hl,e⟩:=I.lstM hH;obtain⟨u,hu,ru⟩:=r.get hy
 have hy':its.toArray[its.toArray.size - 1]?=some u:=by
  show its.toArray[its.length - 1]?=some u;rw[<- Bg,<- hl];exact hu
 refine DH F.slot_list_pop ⟨_,e,rfl⟩ F.entry_list_pop (F.args_list_pop_1 _) (MeetsSeq.list_pop_last l its.toArray n u hy' (by rw[AN]; omega)) ⟨e,?_⟩;refine⟨y,_,I.lset (its':=its.dropLast) hH e ?_ r.dropLast ?_,ru,q⟩
 .show its.toArray.eraseIdxIfInBounds (its.toArray.size - 1)=its.dropLast.toArray
  rw[AN,List.eraseIdxIfInBounds_toArray,tN]
 .rw [List.length_dropLast]
  omega
def jP:V->List V->Hp->VK->Prop:=fun x vs H Q=>∃l xs,x=.ref l/\vs=[]/\H l=some (.lst xs)/\Q .non (upd H l (.lst xs.reverse))
theorem kN:MtM X "list.reverse" jP:=by
 intro pins s σ H x vs v us Q I rx rv h;obtain⟨l,xs,rfl,rfl,hH,q⟩:=h;cases rx;have hus:=rv.zero;subst hus;obtain⟨z,its,n,r,hl,e⟩:=I.lstM hH;refine DH F.slot_list_reverse ⟨_,e,rfl⟩ F.entry_list_reverse (F.args_list_reverse_1 _) (AutoSeq1.list_reverse_list_0 l its.toArray n (by rw[AN]; omega)) ⟨e,?_⟩;refine⟨.non,_,I.lset (its':=its.reverse) hH e (by simp) r.reverse ?_,rfl,q⟩
 rw[BI];omega
def rCat:R2:=fun x y H Q=>∃l b xs zs,x=.ref l/\y=.ref b/\H l=some (.lst xs)/\H b=some (.lst zs)/\xs.length+zs.length<=sizeLine/\∀p,H p=none->Q (.ref p) (upd H p (.lst (xs++zs)))
theorem op_cat:OpR X (binaryOp .Add) rCat:=by
 intro pins s σ H x y v u Q I rx ry h;obtain⟨l,b,xs,zs,rfl,rfl,hH,hB,hz,q⟩:=h;cases rx;cases ry;obtain⟨z,its,n,r,hl,e⟩:=I.lstM hH;obtain⟨z2,its2,n2,r2,hl2,e2⟩:=I.lstM hB;refine PySem.P.add_list e e2 ?_ (by rw[AN,AN]; omega);have ea:its.toArray++its2.toArray=(its++its2).toArray:=by simp
 rw[ea];exact⟨.ref _,_,I.lnew (t':=s.toks) (r.append r2) (by rw[AM]; omega),rfl,q _ I.fresh⟩
end
section
variable {κ:Type}[DecidableEq κ]
theorem KV.length {kvs:List (κ×V)}{vs:List (κ×Value)}(r:KV kvs vs):kvs.length=vs.length:=Paired.length r
end
theorem kV_is {P:Program}{w:World}{k:Key}{u:Value}(r:RelV (kV k) u):(iX P w).is k u=true:=by
 rcases k with (_ | i) | x
 .cases (show u=Value.none from r); exact jD P w
 .obtain ⟨t,e⟩:=(show ∃t,u=Value.int i t from r); subst e; exact fP P w i t
 .obtain ⟨t,e⟩:=(show ∃t,u=Value.str x t from r); subst e; exact mP P w x t
theorem pM {P:Program}{w:World}:∀{ks:List Key}{us:List Value},Vals (ks.map kV) us->ItemsAre (iX P w) ks us
 |[],_,r=>by rw[Bx] at r; cases r; exact .nil
 |k::ks,_,r=>by
  rw[Aa] at r
  cases r with
  |cons h t=>exact .cons (kV_is h) (pM t)
section
variable {P:Program}{w:World}{H:Hp}{h:Heap}{a:Addr}
theorem rd_of {u:HO}(ok:HOk P w H h)(e:Rd H a u):ObjOk P w H h a u:=e.ok ok
theorem dk_rd {kvs:List (Key×V)}(ok:HOk P w H h)(e:Rd H a (.dK kvs)):kvs.length<=sizeLine/\(a==sysModules)=false/\∃vs,KV kvs vs/\h.DictOf (iX P w) a vs :=
 show ObjOk P w H h a (.dK kvs) from rd_of ok e
theorem key_of {ks:List Key}(ok:HOk P w H h)(e:H a=some (.tup (ks.map kV))):(tupleKind (iX P w)).is h ks a:=by
 obtain⟨_,its,r,o,h1,h2,⟨n,h3⟩,_⟩:=(show ObjOk P w H h a (.tup (ks.map kV)) from ok a _ e);exact⟨o,its.toArray,n,h1,h2,h3,by simpa using pM r⟩
end
section
variable {X:Cx}{pins:List (Addr×Obj)}{σ:St}{H:Hp}{s:Shared}{a:Addr}{y v:V}{u r:Value}{o:Option V}{A:Around}{E:Value->Shared->Prop}
theorem Inv.big (I:Inv X pins σ H s):sysModules < s.heap.objs.size:=by
 have h:mainGlobals < s.heap.objs.size:=(I.mod.glob.keeps I.bk).lt;exact Nat.lt_trans (by decide) h
theorem d_write {h':Heap}{t':Nat}{ob:HO}(I:Inv X pins σ H s)(mu:Mut (H a))(hs:Heap.SameBut a s.heap h')(he:∃q,h'.get? a=some q)(new:ObjOk X.prog X.w (upd H a ob) h' a ob):
  Inv X pins σ (upd H a ob) { s with heap:=h',toks:=t' } :=
 I.write (x:=a) (e:=a) mu (.inl rfl) (fun b q hb z=>(hs.2 b hb).trans z) he new
end
section
variable {X:Cx}{pins:List (Addr×Obj)}{σ:St}{H:Hp}{s:Shared}{a:Addr}{kvs:List (Key×V)}{k:Key}{u:Value}{A:Around}{E:Value->Shared->Prop}
theorem d_len {Q:Value->Shared->Prop}(I:Inv X pins σ H s)(e:Rd H a (.dK kvs))(h:∀t s',Inv X pins σ H s'->Q (.int kvs.length t) s'):wpAny (model X.prog X.w) A (call (.builtin "len") [.ref a]) Q E s:=by
 obtain⟨z,hd,vs,rel,dd⟩:=dk_rd I.hok e;refine call_len_dict hd dd (by rw[<- rel.length]; rw[sizeLine_eq] at z; omega) ?_;rw[<- rel.length];exact h _ _ (I.tok _)
end
def mF:List (TE×TE)->St->Hp->(List (V×V)->Hp->Prop)->Prop
 |[],_,H,Q=>Q [] H
 | (tk,tv)::r,σ,H,Q=>tk σ H fun x H1=>tv σ H1 fun y H2=>mF r σ H2 fun ps H3=>Q ((x,y)::ps) H3
abbrev VV:List (V×V)->List (Value×Value)->Prop:=Paired fun p q=>RelV p.1 q.1/\RelV p.2 q.2
def PPs (X:Cx)(pos:Pos)(keys:List (Option Expr))(values:List Expr)(trs:List (TE×TE)):Prop :=
 ∀(pins:List (Addr×Obj)) (s:Shared) (σ:St) (H:Hp) (Q:List (V×V)->Hp->Prop),Inv X pins σ H s->mF trs σ H Q ->
  wpAny (model X.prog X.w) X.A (evalPairs (pairTrees keys values X.env pos)) (fun vs s'=>∃ps H',Inv X pins σ H' s'/\VV ps vs/\Q ps H') X.xe s
theorem pps_nil {X:Cx}{pos:Pos}:PPs X pos [] [] []:=fun pins s σ H Q I h=>pairTrees_nil_walk ⟨[],H,I,.nil,h⟩
theorem nE {X:Cx}{pos:Pos}{k v:Expr}{ks:List (Option Expr)}{vs:List Expr}{tk tv:TE}{trs:List (TE×TE)}(hk:PE X k tk)(hv:PE X v tv)(hr:PPs X pos ks vs trs):
  PPs X pos (some k::ks) (v::vs) ((tk,tv)::trs):=fun pins s σ H Q I h =>
 pairTrees_cons_walk (thn (hk pins s σ H _ I h) fun u s1 ⟨x,H1,I1,rx,q1⟩=>thn (hv pins s1 σ H1 _ I1 q1) fun w2 s2 ⟨y,H2,I2,ry,q2⟩ =>
  thn (hr pins s2 σ H2 _ I2 q2) fun ws s3 ⟨ps,H3,I3,rel,q3⟩=>⟨(x,y)::ps,H3,I3,.cons ⟨rx,ry⟩ rel,q3⟩)
end L2
namespace Att
open PySem PySem.W PySem.Calls PyProof.Rows
theorem eY {P:Params}{h:Heap}:∀(ns:List Int) (vs:List Value),WellAll P h vs (ns.map WData.int)->IntsAre vs ns:=by
 intro ns
 induction ns with
 |nil =>
  intro vs w;rw[Bx] at w;cases w;exact .nil
 |cons n ns ih =>
  intro vs w;rw[Aa] at w
  cases w with
  |cons a b =>
   cases a;exact .cons _ _ (ih _ b)
theorem rS {l:OpenLaw}{n:Nat}(hn:l.most=some n){P:Params}{h:Heap}{args:List WData}{vals:List Value}
  (hpre:l.row.toRowW.claim.pre args=true) (hwl:WellAll P h vals args) :
  ∃a vs ns,vals=[Value.ref a]/\args=[WData.list (ns.map WData.int)]/\h.get? a=some { cls:=.type "list",data:=.seq vs.toArray }/\IntsAre vs ns/\ns.length<=n:=by
 have hsh:WShape.hasAll [] args [.list .int]=true:=(pre_splitW hpre).1;have hc:l.pre.holds [] { args:=args }=true:=(pre_splitW hpre).2;obtain⟨d,r,rfl,h1,h2⟩:=hasAllW_cons hsh;obtain rfl:=hasAllW_nil h2;obtain⟨xs,rfl,h3⟩:=hasW_list h1;obtain⟨ns,rfl⟩:=items_int h3
 have hlen:ns.length<=n:=by
  unfold OpenLaw.pre at hc
  have h4:(WTm.not (.lt (.lit (.int (n:Int))) (.len (.arg 0)))).holds [] { args:=[.list (ns.map .int)] }=true:=by
   have h4:=(holds_andW hc).1;rw[hn] at h4;exact h4
  have h5:=condW_of h4 (w_not (w_lt w_lit (w_len_list (w_arg rfl))));rw[AD] at h5;refine Nat.le_of_not_lt fun q=>?_;have q':(n:Int) < ((ns.length:Nat):Int):=by omega
  first
   | (rw[Aw q'] at h5; exact absurd h5 (by decide))
   | (simp at h5; omega)
 cases hwl with
 |cons w1 w2 =>
  cases w2
  cases w1 with
  |list ho hall=>exact⟨_,_,ns,rfl,rfl,ho,eY ns _ hall,hlen⟩
theorem oS (l:OpenLaw)(args:List WData):l.row.toRowW.claim.post args (.bool true) args=true :=
 postW_of (r:=l.row.toRowW) (X:=(true==true))
  (show WShape.has [] (.bool true) .bool=true by first | rfl | decide | simp[WShape.has,WShape.arms,WShape.armsAll])
  (show(WTm.eq .res (.lit (.bool true))).value [] { args:=args,res:=some (.bool true),after:=args }=some (.bool (true==true)) from w_eq_bool (w_res rfl) w_lit) rfl
theorem attach_call {l:OpenLaw}{n:Nat}{q:Program}{loose:List Str}{XP:(Str->Option Value)->Heap->Prop}{YP:World->Heap->Prop}{d:DefRec}
  (hn:l.most=some n) (hdf:d.params.defaults=[])
  (call:∀(w:World) (s₀ s₁:Shared) (mg mb:Str->Option Value) (fa:Addr) (o:Obj) (pm cd doc:Value) (a:Addr) (vs:List Value) (ns:List Int),
   Ground q loose [] XP w s₀ mg mb s₁.heap->YP w s₁.heap ->
   s₁.heap.get? fa=some o->o.data=.func (docDef d.name d.params d.body d.scope pm cd doc)->s₁.heap.CodeRec cd d.name->mg d.name=some (.ref fa) ->
   s₁.heap.get? a=some { cls:=.type "list",data:=.seq vs.toArray }->IntsAre vs ns->ns.length<=n->s₁.gens = #[] ->
   codeAny (model l.prog w) callerA (.call (.ref fa) ⟨[.ref a],[]⟩) (fun r s'=>r=.ok (.ret (.bool true))/\OldK s₁.heap s'.heap/\s'.os=s₁.os/\AllBare s'.gens) s₁) :
  WalkO q loose XP YP l.row.toRowW d [] (fun f vs=>PySem.call f vs):=by
 intro w s₀ s₁ mg mb G Y fa o pm cd doc dV kV ho hd hcd hD hmg hg args vals as hpre hlay hrd hwl hlo;obtain rfl:dV=.none:=Dflts.none hD hdf;obtain rfl:kV=.none:=Dflts.noKw hD;obtain⟨a,vs,ns,rfl,rfl,hobj,hints,hlen⟩:=rS hn hpre hwl;refine enter_call (codeAny_mono (call w s₀ s₁ mg mb fa o pm cd doc a vs ns G Y ho (fd_plain hd) hcd hmg hobj hints hlen hg) fun r s' hq=>?_);obtain⟨rfl,h2,h3,h4⟩:=hq
 exact⟨.inl ⟨.bool true,.bool true,[],rfl,fun _=>rfl,.bool true,oS l _,fun _=>⟨List.Pairwise.nil,fun _ hm=>(nomatch hm)⟩⟩,h2,h3,h4⟩
end Att
namespace L2
open PySem PySem.Spec PyProof.Rows
theorem nB:∀{vs:List Value}{ns:List Int},IntsAre vs ns->Vals (ns.map V.int) vs
 |_,_,.nil=>.nil
 |_,_,.cons n t h=>.cons ⟨t,rfl⟩ (nB h)
def Only (H:Hp):Prop:=∀b,H b=none\/∃o xs,H b=some (.frz o (.lst xs))
theorem aA {P:Program}{w:World}{K:DY}{mg mb:Str->Option Value}{CX:CXT}{k:Nat}{fa a:Addr}{fd:FuncData}{x:Str}{sp:Sp}{s₁:Shared}{vs:List Value}{ns:List Int}
  (KX:K.In s₁.heap) (hns:s₁.heap.Ns mainGlobals mg) (hb:s₁.heap.Ns builtinsNs mb) (hbb:∀x:Str,x ≠ "__name__"->mb x=bootBuiltins x) (hlim:s₁.heap.NoLimit) (hg:s₁.gens = #[])
  (ha:s₁.heap.get? a=some { cls:=.type "list",data:=.seq vs.toArray }) (hi:IntsAre vs ns) (hl:ns.length<=sizeLine) (hr:Room k callerA)
  (F:∀base:Heap,K.In base->base.Ns mainGlobals mg->FnOk P w K mg base CX k fa fd [x] sp) (hbind:∀(s:Shared) (u:Value),BindsTo s fd ⟨[u],[]⟩ [(x,u)])
  (hsp:∀H:Hp,Only H->SqL K H a (ns.map V.int)->sp [.ref a] H (fun v _=>v=.bl true) fun _ _ _=>False)
  (hCX:∀H e s',CX [] H s₁ (fun _ _ _=>False) e s'->False) :
  codeAny (model P w) callerA (.call (.ref fa) ⟨[.ref a],[]⟩) (fun r s'=>r=.ok (.ret (.bool true))/\OldK s₁.heap s'.heap/\s'.os=s₁.os/\AllBare s'.gens) s₁:=by
 have rv:=nB hi;have lenV:=hi.length
 have core:∀H:Hp,Only H->SqL K H a (ns.map V.int)->HOk P w H s₁.heap->(∀b,H b≠none->b=a)->(H a≠none->K.lookup a=none) ->
   codeAny (model P w) callerA (.call (.ref fa) ⟨[.ref a],[]⟩) (fun r s'=>r=.ok (.ret (.bool true))/\OldK s₁.heap s'.heap/\s'.os=s₁.os/\AllBare s'.gens) s₁:=by
  intro H hO hS hok hA hK;have base_of:∀{b:Addr} {o:Obj},s₁.heap.get? b=some o->H b=none->(pD s₁.heap H).get? b=some o:=fun e n=>fI e n
  have noA:∀{b:Addr} {o:Obj} {es:Array DictEntry} {ep:Nat},s₁.heap.get? b=some o->o.data=.dict es ep->H b=none:=fun {b o es ep} e d=>by
   cases q:H b with
   |none=>rfl
   |some u =>
    have e':b=a:=hA b (by rw[q]; simp);subst e';rw[ha] at e; cases e
    have d':Data.seq vs.toArray _=Data.dict es ep:=d;cases d'
  have nsK:∀{b:Addr} {m:Str->Option Value},s₁.heap.Ns b m->(pD s₁.heap H).Ns b m:=fun {b m} ⟨o,es,ep,e,d,r⟩=>⟨o,es,ep,base_of e (noA e d),d,r⟩
  have hKb:K.In (pD s₁.heap H):=fun b o e=>base_of (KX b o e) (by
   cases q:H b with
   |none=>rfl
   |some u =>
    have e':b=a:=hA b (by rw[q]; simp);subst e'
    rw[hK (by rw[q]; simp)] at e; cases e)
  have hM:Mod K mg (pD s₁.heap H):=⟨hKb,nsK hns,⟨mb,nsK hb,hbb⟩,let ⟨mc,h1,h2⟩:=hlim; ⟨mc,nsK h1,h2⟩⟩;have e0:Env0 P w K mg (pD s₁.heap H) callerA [] s₁ H:=⟨rfl,hM,fun b o e=>of_hidT e,BN (nT _ _),trivial,fun b hb=>absurd (show b∈([]:List Addr) from hb) (by simp),hok,.of_eq hg⟩;refine codeAny_mono ((F _ hKb (nsK hns)).run callerA [] s₁ H ⟨[.ref a],[]⟩ [.ref a] [.ref a] _ _ hr e0 (hbind s₁ (.ref a)) (.cons rfl .nil) (hsp H hO hS)) fun r s' h=>?_
  cases r with
  |error e=>exact(hCX H e s' h).elim
  |ok fl =>
   cases fl with
   |next=>exact False.elim h
   |brk=>exact False.elim h
   |cont=>exact False.elim h
   |ret u =>
    obtain⟨v,H',os,bare,un,hok',r',q⟩:=h;have q':v=.bl true:=q;subst q';obtain rfl:u=Value.bool true:=r';refine⟨rfl,OldK.of_keep fun b o e=>?_,os,bare⟩
    cases q:H b with
    |none=>exact un.keep b o e q (by intro z; exact absurd (show b∈([]:List Addr) from z) (by simp)) (by simp)
    |some u =>
     rcases hO b with z | ⟨ob,xs,z⟩
     .rw [q] at z; cases z
     .have z2:=un.frzs b ob _ z
      obtain⟨e1,_⟩:=hok b _ z;obtain⟨e2,_⟩:=hok' b _ z2;rw[e] at e1; cases e1
      exact e2
 cases hk:K.lookup a with
 |some o =>
  have e:=KX a o hk;rw[ha] at e;cases e;refine core (fun _=>none) (fun _=>.inl rfl) (.inr ⟨_,vs.toArray,_,hk,rfl,rfl,rfl,by rw[AN,lenV]; exact hl,by simpa using rv⟩) (fun b u z=>by have z':(none:Option HO)=some u:=z; cases z') (fun b z=>absurd rfl z) fun z=>absurd rfl z
 |none =>
  refine core (fun b=>if b=a then some (.frz { cls:=.type "list",data:=.seq vs.toArray } (.lst (ns.map V.int))) else none) (fun b=>?_) (.inl (.inr ⟨{ cls:=.type "list",data:=.seq vs.toArray },A4 rfl⟩)) (fun b u z=>?_) (fun b z=>?_) fun _=>hk
  .by_cases hb:b=a
   .exact .inr ⟨_,_,A4 hb⟩
   .exact .inl (Av hb)
  .by_cases hb:b=a
   .have z':=(A4 hb).symm.trans z
    cases z';subst hb;exact⟨ha,by rw[AD]; exact hl,vs,_,rv,ha⟩
   .have z':=(Av hb).symm.trans z
    cases z'
  .by_cases hb:b=a
   .exact hb
   .exact absurd (Av hb) z
theorem walk_of {l:PySem.W.OpenLaw}{n k:Nat}{q:Program}{loose:List Str}{XP:(Str->Option Value)->Heap->Prop}{YP:World->Heap->Prop}{d:DefRec}{K:Params->DY}{CX:World->CXT}{sp:World->Sp}{x:Str}
  (hn:l.most=some n) (hn2:n<=sizeLine) (hdf:d.params.defaults=[]) (hr:Room k callerA)
  (hY:∀(w:World) (h:Heap),YP w h->(K w.params).In h)
  (F:∀(w:World) (mg:Str->Option Value) (fa:Addr) (h:Heap),(K w.params).In h->h.Ns mainGlobals mg->mg d.name=some (.ref fa) ->
   ∃fd:FuncData,(∀(s:Shared) (u:Value),BindsTo s fd ⟨[u],[]⟩ [(x,u)]) /\
    ∀base:Heap,(K w.params).In base->base.Ns mainGlobals mg->FnOk l.prog w (K w.params) mg base (CX w) k fa fd [x] (sp w))
  (hsp:∀(w:World) (H:Hp) (a:Addr) (ns:List Int),ns.length<=n->Only H->SqL (K w.params) H a (ns.map V.int)->sp w [.ref a] H (fun v _=>v=.bl true) fun _ _ _=>False)
  (hCX:∀(w:World) (H:Hp) (s:Shared) (e:Value) (s':Shared),CX w [] H s (fun _ _ _=>False) e s'->False) :
  PySem.W.WalkO q loose XP YP l.row.toRowW d [] (fun f vs=>PySem.call f vs):=by
 refine Att.attach_call hn hdf fun w s₀ s₁ mg mb fa o pm cd doc a vs ns G Y ho hd hcd hmg hobj hints hlen hg=>?_;have KX:=hY w _ Y;obtain⟨fd,hb,hF⟩:=F w mg fa _ KX G.T.g hmg;exact aA KX G.T.g G.T.b G.T.builtins G.T.nolimit hg hobj hints (AX hlen hn2) hr hF hb (fun H hO hS=>hsp w H a ns hlen hO hS) fun H e s'=>hCX w H s₁ e s'
def qK (s:Stmt):Arguments:=match s with
 |.FunctionDef _ a _ _ _ _ _ _ _ _=>a
 |_=>{ posonlyargs:=[],args:=[],vararg:=none,kwonlyargs:=[],kw_defaults:=[],kwarg:=none,defaults:=[] }
def qJ (s:Stmt):List Stmt:=match s with
 |.FunctionDef _ _ b _ _ _ _ _ _ _=>b
 |_=>[]
def sQ (s:Stmt):Scope:=match s with
 |.FunctionDef _ _ _ _ _ _ sc _ _ _=>sc
 |_=>{ kind:=.function,names:=[],isGenerator:=false,isCoroutine:=false }
abbrev CX0:CXT:=fun _ _ _ _ _ _=>False
abbrev E0:XK:=fun _ _ _=>False
theorem pass0 {X:Cx}:cY CX0 X E0:=fun _ _ _ _ _ _ _ h=>h.elim
structure Fun (K:DY)(x qual:Str)(st:Stmt)(f:Addr)(fd:FuncData):Prop where
 ex:∃(oc:Value) (od:Option Addr) (kV doc pm:Value) (an:Option Addr) (cdv ct:Value) (osl:Array (Option Value)),
  fd=PySem.W.fnOf x qual (qK st) (qJ st) (sQ st) .none kV doc pm an cdv ct/\K.lookup f=some ⟨oc,od,.func fd,osl⟩/\PySem.W.codeIn K cdv qual=true
 kp:PySem.W.keepIn K (.ref f)=true
section
variable {P:Program}{w:World}{K:DY}{mg:Str->Option Value}{base:Heap}
theorem Fun.ok {x qual:Str}{st:Stmt}{f:Addr}{fd:FuncData}{N ps:List Str}{k:Nat}{sp:Sp}(F:Fun K x qual st f fd)(S:FnScope N ps (sQ st))(len:∀vs H Q E,sp vs H Q E->vs.length=ps.length)
  (hbody:∀(cdv:Value) (A:Around) (outer:List Env) (s:Shared) (H:Hp) (vs:List V) (Q:VK) (E:XK),Room k (A.deeper (envOfC qual (sQ st) s.heap.objs.size f cdv))->sp vs H Q E ->
   ∃t,PSs (nD CX0 P w K mg base N qual (sQ st) f cdv A outer s H E).nox (qJ st) t/\t { nx:=fun _ H'=>Q .non H',rt:=Q } (start N vs) H):FnOk P w K mg base CX0 (k+1) f fd ps sp:=by
 obtain⟨oc,od,kV,doc,pm,an,cdv,ct,osl,rfl,lk,hcd⟩:=F.ex;refine fn_of lk hcd S len fun A outer s H vs Q E hr hsp=>?_;obtain⟨t,h,q⟩:=hbody cdv A outer s H vs Q E hr hsp;exact⟨t,h.nox,q⟩
theorem Fun.binds {x qual:Str}{st:Stmt}{f:Addr}{fd:FuncData}{ps:List Str}(F:Fun K x qual st f fd)
  (h:∀(kV doc pm:Value) (an:Option Addr) (cdv ct:Value) (us:List Value),us.length=ps.length->bindArgs (PySem.W.fnOf x qual (qK st) (qJ st) (sQ st) .none kV doc pm an cdv ct) ⟨us,[]⟩=pure (ps.zip us)):Binds K fd ps []:=by
 obtain⟨oc,od,kV,doc,pm,an,cdv,ct,osl,rfl,lk,hcd⟩:=F.ex;exact .all (h kV doc pm an cdv ct)
theorem cD {x qual:Str}{st:Stmt}{f:Addr}{oc:Value}{od an:Option Addr}{osl:Array (Option Value)}{kV doc pm cdv ct:Value}(l:K.lookup f=some ⟨oc,od,.func (PySem.W.fnOf x qual (qK st) (qJ st) (sQ st) .none kV doc pm an cdv ct),osl⟩)
  (c:PySem.W.codeIn K cdv qual=true) (k:PySem.W.keepIn K (.ref f)=true):Fun K x qual st f (PySem.W.fnOf x qual (qK st) (qJ st) (sQ st) .none kV doc pm an cdv ct):=⟨⟨oc,od,kV,doc,pm,an,cdv,ct,osl,rfl,l,c⟩,k⟩
end
theorem jV {A:Around}{k:Nat}(hr:Room k A):A.units+1 < cLine:=Aq (Nat.add_le_add_left (by decide:1<=64) _) hr.units
section
variable {X:Cx}
theorem pv (i:Nat){x:Str}{pos:Pos}(hN:X.N[i]?=some x:=by rfl)(hv:Vis X.env.scope x:=by first | exact Or.inl rfl | exact Or.inr (Or.inl rfl) | exact Or.inr (Or.inr rfl))(hd:(x==("__debug__" : Str))=false:=by decide)
  (hcd:(x==("__classdict__" : Str))=false:=by decide):PE X (.Name x pos) (tVar i):=tE hN hv hd hcd
end
def Same (H H':Hp):Prop:=∀b o,H b=some o->H' b=some o
theorem Same.refl (H:Hp):Same H H:=fun _ _ h=>h
section
variable {X:Cx}
theorem xO:CallR X (.builtin "len") (fun xs H Q=>∃a kvs,xs=[V.ref a]/\H a=some (.dK kvs)/\Q (.int kvs.length) H):=by
 intro pins s σ H xs us Q I r h;obtain⟨a,kvs,rfl,ha,q⟩:=h;obtain⟨u,rfl,ru⟩:=aJ r;cases ru;exact d_len I (.inl ha) fun t s' I'=>⟨.int kvs.length,H,I',⟨t,rfl⟩,q⟩
end
def nQ:Expr->Bool
 |.Starred _ _=>false
 |_=>true
theorem lX    (h:nQ e=true):starEach (e::es) env=(false,eval e env)::starEach es env:=by
 cases e<;>first | rfl | exact absurd h AJ
theorem gK   : ∀{es},es.all nQ=true->(backTo pos (starEach es env)).any (·.1)=false
 |[],_=>rfl
 |e::es,h=>by
  rw[DA,Bc] at h;rw[lX h.1];show(false || (backTo pos (starEach es env)).any (·.1))=false;rw[gK h.2]
  rfl
section
variable {X:Cx}{e:Expr}{es:List Expr}{te:TE}{t:TA}{x:Str}{p pos:Pos}
theorem qa_cons (ha:PE X e te)(hr:PA X es t)(hs:nQ e=true:=by rfl):PA X (e::es) (aO te t):=yR ha hr (lX hs)
theorem qe_call          (F:FnOk X.prog X.w X.K X.mg X.base CX k f fd ps sp)(hr:Room k X.A)(hg:Gl X x)(hm:X.mg x=some (.ref f))(hk:PySem.W.keepIn X.K (.ref f)=true)(hb:Binds X.K fd ps ds)(hd:Vals dvs ds)(hx:cY CX X E)
  (ha:PA X (e::es) t) (hdb:(x==("__debug__" : Str))=false:=by decide) (hs:nQ e=true:=by rfl) (hall:es.all nQ=true:=by rfl):PE X (.Call (.Name x p) (e::es) [] pos) (iO sp dvs E t) :=
 pe_call F hr hg hm hk hb hd hx ha hdb (lX hs) (gK hall)
theorem mE {id}  (hc:CallR X (.builtin id) r)(hg:Gl X x)(hm:X.mg x=none)(hv:bootBuiltins x=some (.builtin id))(ha:PA X (e::es) t)(hn:x ≠ "__name__":=by decide)(hdb:(x==("__debug__" : Str))=false:=by decide)
  (hs:nQ e=true:=by rfl) (hall:es.all nQ=true:=by rfl):PE X (.Call (.Name x p) (e::es) [] pos) (tCB r t):=qA hc hg hm hv ha hn hdb (lX hs) (gK hall)
theorem sS   (hc:CallR X (.type T) r)(hg:Gl X x)(hm:X.mg x=none)(hv:bootBuiltins x=some (.type T))(ha:PA X (e::es) t)(hn:x ≠ "__name__":=by decide)(hdb:(x==("__debug__" : Str))=false:=by decide)
  (hs:nQ e=true:=by rfl) (hall:es.all nQ=true:=by rfl):PE X (.Call (.Name x p) (e::es) [] pos) (tCB r t):=tS hc hg hm hv ha hn hdb (lX hs) (gK hall)
end
section
variable {prog:Program}{w:World}{A:Around}{R:Result->Shared->Prop}{s:Shared}
theorem qL       (I:Nat->Shared->Prop)
  (turn:∀n s,I n s->wpAny (model prog w) A (pyNext it) (fun r s₁=>match r with
   |none=>R (.ok .next) s₁
   |some v=>wpAny (model prog w) A (letOwnedTupleGo target it v) (fun _ s₁=>wpAny (model prog w) A (assign target env v) (fun _ s₂ =>
     wpAny (model prog w) A (forIn ifs true fun c r=>if r=true then do let ok <- isTrue c env (eval c env); pure (ForInStep.yield ok) else pure (ForInStep.yield r)) (fun ok s₃ =>
      if ok=true then wpAny (model prog w) A (eval elt env) (fun x s₄ =>
       wpAny (model prog w) A (call (.builtin "list.append") [acc,x]) (fun _ s₅=>∃m,m < n/\I m s₅) (fun _ _=>False) s₄) (fun _ _=>False) s₃
      else ∃m,m < n/\I m s₃) (fun _ _=>False) s₂) (fun _ _=>False) s₁) (fun _ _=>False) s₁) (fun _ _=>False) s)
  n (h:I n s) :
  codeAny (model prog w) A (.compLoop (.ListComp elt [⟨target,iter,ifs,0⟩] scope pos) 0 it acc env) R s:=by
 refine codeAny_loop rfl I (fun n s hI=>wpAny_noted (AA (wpAny_standAt (AA (Bd (turn n s hI) (fun r s₁ h₁=>?_) fun _ _ h'=>False.elim h'))))) n h
 cases r with
 |none=>exact AB h₁
 |some v =>
  refine AA (Bd h₁ (fun _ s₁' h₁'=>AA (Bd h₁' (fun _ s₂ h₂=>AA (Bd h₂ (fun ok s₃ h₃=>?_) fun _ _ h'=>False.elim h')) fun _ _ h'=>False.elim h')) fun _ _ h'=>False.elim h')
  cases ok with
  |false=>exact AB ⟨rfl,h₃⟩
  |true =>
   exact AA (AA (Bd h₃ (fun x s₄ h₄=>AA (Bd h₄ (fun _ s₅ h₅=>AB (AB ⟨rfl,h₅⟩)) fun _ _ h'=>False.elim h')) fun _ _ h'=>False.elim h'))
end
theorem eZ {env:Env}:∀{names:List (Str×NameKind)}{y:Str}{k:NameKind},
  (names.map fun(n,k)=>if (k==NameKind.free&&env.scope.kind==.function&&env.kindOf n==some .cell) then (n,NameKind.cell) else (n,k)).lookup y=some k ->
   ∃k0,(y,k0)∈names/\(k=k0\/(k0=.free/\k=.cell))
 |[],_,_,h=>by simp at h
 | (n,k1)::r,y,k,h=>by
  cases hx:y==n with
  |true =>
   by_cases hc:(k1==NameKind.free&&env.scope.kind==.function&&env.kindOf y==some .cell)=true
   .grind
   .grind
  |false =>
   have h2:(r.map fun(n,k)=>if (k==NameKind.free&&env.scope.kind==.function&&env.kindOf n==some .cell) then (n,NameKind.cell) else (n,k)).lookup y=some k :=by grind
   exact hZ ((@eZ env r y k) h2) fun k0 m q=>⟨k0,AO _ m,q⟩
def Qw (X:Cx)(ifs:List Expr)(t:TT):Prop :=
 ∀(pins:List (Addr×Obj)) (s:Shared) (σ:St) (H:Hp) (Q:Bool->Hp->Prop),Inv X pins σ H s->t σ H Q ->
  wpAny (model X.prog X.w) X.A (forIn ifs true fun c r=>if r=true then do let ok <- isTrue c X.env (eval c X.env); pure (ForInStep.yield ok) else pure (ForInStep.yield r)) (TP X pins σ Q) X.xe s
def tYes:TT:=fun _ H Q=>Q true H
theorem oE  : Qw X [] tYes:=fun _ _ _ H _ I h=>wpAny_tests_nil ⟨H,I,h⟩
theorem sE    (h:PT X c t):Qw X [c] t:=fun pins s σ H Q I hw=>wpAny_tests_one (h pins s σ H Q I hw)
def cxN (X:Cx)(xs:List Str)(scope:Scope)(cl:List (Str×Addr))(fp:List Addr)(C:Addr)(s₂:Shared)(H₂:Hp):Cx where
 prog:=X.prog
 w:=X.w
 K:=X.K
 mg:=X.mg
 base:=X.base
 A:=X.A
 N:=xs++X.N
 s₀:=s₂
 H₀:=H₂
 env:=compEnvC scope cl C X.env
 outer:=X.stack
 stack:=X.stack
 ex:=fp
 fn:=fun _=>false
 calm:=X.calm
 pn:=[]
 xe:=fun _ _=>False
abbrev dZ X x:=cxN X [x]
def tG (wi:TI)(tc:TT)(te:TE):TE:=fun σ H Q=>wi σ H fun J H1=>∀D,H1 D=none->∃W:Nat->Nat->List V->Hp->Prop,(∃m,W 0 m [] (upd H1 D (.lst [])))/\∀i m ys H,W i m ys H ->
 (J.stop i H/\Q (.ref D) H)\/(J.go i H/\∀x H',J.yld i H x H'->tc (some x::σ) H' fun b H2 =>
  if b=true then te (some x::σ) H2 fun y H3=>H3 D=some (.lst ys)/\ys.length < sizeLine/\∃m',m' < m/\W (i+1) m' (ys++[y]) (upd H3 D (.lst (ys++[y])))
  else ∃m',m' < m/\W (i+1) m' ys H2)
section
variable {X:Cx}
structure lG (X:Cx)(xs:List Str)(scope:Scope)(cl:List (Str×Addr)):Prop where
 clos:closureFor scope X.env=pure cl
 cell:∀y∈scope.names,y.2≠.cell
 kind:scope.kind=.function
 names:∀y∈scope.names,y.2=.local->scope.names.lookup y.1=some .local
 hx:∀x∈xs,scope.names.lookup x=some .local
 loc:∀y∈scope.names,y.2=.local->y.1∉X.N
 free:∀y∈scope.names,y.2=.free->X.env.kindOf y.1≠some .local/\(X.env.kindOf y.1=some .cell\/X.env.kindOf y.1=some .free)/\∃c,cl.lookup y.1=some c
 cl:∀y c,cl.lookup y=some c->X.env.cells.lookup y=some c
abbrev oV X x:=lG X [x]
theorem nY        {te:TE}{g:TG}{Tk:V->Hp->List V->Prop}{RR:Value->Addr->Result->Shared->Prop}{EE:Value->Shared->Prop}
  (hc:X.calm=true) (K:lG X xs scope cl) (hg:∀fp C s₂ H₂,PG (cxN X xs scope cl fp C s₂ H₂) tg g)
  (ht:∀fp C s₂ H₂,Qw (cxN X xs scope cl fp C s₂ H₂) ifs tc) (he:∀fp C s₂ H₂,PE (cxN X xs scope cl fp C s₂ H₂) elt te)
  {pins:List (Addr×Obj)} {σ:St} {s₂:Shared} {H₂:Hp} {it:Addr} {fp:List Addr} {tn:Nat->Heap->Prop} {J:It} {Q:VK}
  (hG:∀ws vs x H Q,ws.length=xs.length->Tk x H vs->vs.length=xs.length->Q (vs.map some++σ) H->g x (ws++σ) H Q) (I₂:Inv X pins σ H₂ s₂) (T:yC X.prog X.w X.K tg J fp it tn) (st₂:tn 0 s₂.heap) (f₂:∀b∈fp,rL X pins H₂ b)
  (R:∀D,H₂ D=none->∃W:Nat->Nat->List V->Hp->Prop,(∃m,W 0 m [] (upd H₂ D (.lst [])))/\∀i m ys H,W i m ys H ->
   (J.stop i H/\Q (.ref D) H)\/(J.go i H/\∀x H',J.yld i H x H'->∃vs,Tk x H' vs/\vs.length=xs.length/\tc (vs.map some++σ) H' fun b H2 =>
    if b=true then te (vs.map some++σ) H2 fun y H3=>H3 D=some (.lst ys)/\ys.length < sizeLine/\∃m',m' < m/\W (i+1) m' (ys++[y]) (upd H3 D (.lst (ys++[y])))
    else ∃m',m' < m/\W (i+1) m' ys H2))
  (hRR:∀(D C:Addr) (H:Hp) (s4:Shared) (m:Str->Option Value),s4.heap.Ns C m->C≠X.env.locals->H C=none->(∀x c,X.env.cells.lookup x=some c->c≠C)->s₂.heap.objs.size<=C->Inv X pins σ H s4 ->
   Q (.ref D) H->RR (.ref D) C (.ok .next) s4) :
  wpAny (model X.prog X.w) X.A (newList []) (fun acc s₃=>wpAny (model X.prog X.w) X.A (newFunctionEnv scope X.env.globals cl [] X.env.qual none .none (some X.env)) (fun cenv s₄ =>
   codeAny (model X.prog X.w) X.A (.compStart (.ListComp elt [⟨tg,iter,ifs,0⟩] scope pos) 0 (.ref it) acc { cenv with scope:=relabel scope X.env }) (RR acc cenv.locals) s₄) EE s₃) EE s₂:=by
 refine B0 (wpAny_newFunctionEnv K.cell (by intro y hy; simp at hy) (fun h₁ hns₁ hsb₁=>?_) K.kind);dsimp only at hns₁ hsb₁ ⊢;generalize hH2:s₂.heap.push { cls:=.type "list",dict:=none,data:=.seq ([]:List Value).toArray }=H2 at hns₁ hsb₁ ⊢;have hC:H2.objs.size=s₂.heap.objs.size+1:=by rw[<- hH2,B8]
 have hDC:s₂.heap.objs.size≠H2.objs.size :=hC▸A5 (CC _);have below:∀b,b < s₂.heap.objs.size->b≠H2.objs.size/\b≠s₂.heap.objs.size:=fun b hb=>⟨by exact hC▸A5 (Nat.lt_succ_of_lt hb),A5 hb⟩;have old:∀b o,s₂.heap.get? b=some o->h₁.get? b=some o:=fun b o e=>hsb₁.extBut b o (below b (AF e)).1 (AC _ (hH2▸AC _ e));have fD:=I₂.hok.fresh (AG _)
 have fC:H₂ H2.objs.size=none:=I₂.hok.fresh (hC▸Nat.le_succ _);have fpLt:∀b∈fp,b < s₂.heap.objs.size:=fun b hb=>let ⟨o,e,_⟩:=T.obj _ _ st₂ b hb; AF e
 obtain⟨W,⟨m0,w0⟩,turn⟩:=R s₂.heap.objs.size fD
 have okX:(cxN X xs scope cl fp H2.objs.size s₂ H₂).Ok:=by
  refine⟨I₂.ok.mod,K.kind,I₂.ok.glob,I₂.ok.blt,?_,fun y z c h1 h2=>I₂.ok.inj y z c (K.cl y c h1) (K.cl z c h2),fun y hy=>?_,fun y c h _=>?_,I₂.ok.hd,I₂.ok.frames,.inl rfl,fun b hb=>⟨(below b (fpLt b hb)).1,fun y c h=>(f₂ b hb).2.2.2.2.1 y c (K.cl y c h)⟩,I₂.bs,
   AX I₂.ok.bsz I₂.sz,fun b o e hb=>?_,fun b hb z=>?_,I₂.stack,I₂.stkFree⟩
  .exact hC▸Nat.le_succ _
  .have fr:(y,NameKind.free)∈scope.names:=by
    rcases hy with q | q
    .obtain ⟨k0,hm,z | ⟨z,_⟩⟩:=eZ q
     .subst z; exact absurd rfl (K.cell _ hm)
     .subst z; exact hm
    .obtain ⟨k0,hm,z | ⟨z,w⟩⟩:=eZ q
     .subst z; exact hm
     .cases w
   exact(K.free _ fr rfl).2.2
  .exact absurd h AJ
  .refine el05 (f₂ b hb) fun _ _ _ f3 _=>?_
   rcases f3 with z | z
   .exact I₂.ok.noex b o e z
   .exact absurd (AV (AF (I₂.ok.bs b o e).1) z) (BF _)
  .refine el04 (f₂ b hb) fun _ f1 f2' _=>?_
   rcases Ax.mp (I₂.stkSub b z) with q | q
   .exact f1 q
   .exact f2' q
 have hDne:∀b,H₂ b≠none->b≠s₂.heap.objs.size:=fun b hb z=>hb (z▸fD);have ldD:HOk X.prog X.w (upd H₂ s₂.heap.objs.size (.lst [])) h₁:=I₂.hok.laid old (AG _) ⟨A0 _,[],_,.nil,(hsb₁.extBut _ _ hDC (AC _ (hH2▸AK _ rfl)))⟩
 have visFree:∀y,Vis (relabel scope X.env) y->y∈X.N->(y,NameKind.free)∈scope.names/\((relabel scope X.env).names.lookup y=some .cell\/(relabel scope X.env).names.lookup y=some .free):=by
  intro y hv hne
  rcases hv with q | q | q
  .obtain ⟨k0,hm,z | ⟨z,w⟩⟩:=eZ q
   .subst z; exact absurd hne (K.loc _ hm rfl)
   .cases w
  .obtain ⟨k0,hm,z | ⟨z,w⟩⟩:=eZ q
   .subst z; exact absurd rfl (K.cell _ hm)
   .subst z; exact⟨hm,.inl q⟩
  .obtain ⟨k0,hm,z | ⟨z,w⟩⟩:=eZ q
   .subst z; exact⟨hm,.inr q⟩
   .cases w
 have I':∀tk,Inv (cxN X xs scope cl fp H2.objs.size s₂ H₂) [] (List.replicate xs.length none++σ) (upd H₂ s₂.heap.objs.size (.lst [])) { s₂ with heap:=h₁,toks:=tk }:=by
  intro tk;refine⟨okX,rfl,I₂.bare,Un.laid old (AG _) fD,⟨_,hns₁,fun i y v h1 h2 h3=>?_⟩,fun y c h=>?_,?_,fun y c h=>?_,fun p hp=>absurd hp (by simp[cxN]),ldD,?_⟩
  .rcases Nat.lt_or_ge i xs.length with hi | hi
   .rw [CK (by rwa [Bf]),List.getElem?_replicate,A4 hi] at h2
    cases h2
   .have h1':X.N[i - xs.length]?=some y:=by
     have h1:(xs++X.N)[i]?=some y:=h1
     rwa [A8 hi] at h1
    have h2':σ[i - xs.length]?=some (some v):=by
     rw[A8 (by rwa [Bf]),Bf] at h2; exact h2
    obtain⟨fm,kk⟩:=visFree y h3 (AE h1');obtain⟨nl,vz,c,hcl⟩:=K.free _ fm rfl;refine hZ I₂.loc fun mm hn hl=>hZ (hl (i - xs.length) y v h1' h2' (vz.elim (fun z=>.inr (.inl z)) fun z=>.inr (.inr z))) fun u ru l=>?_
    rcases l with ⟨z,_⟩ | ⟨_,c',hc',hcell⟩
    .exact absurd z nl
    .have ec:=Ao (hc'.symm.trans (K.cl _ _ hcl))
     subst ec;obtain⟨o,ho,hd⟩:=hcell;exact⟨u,ru,.inr ⟨kk,c',hcl,o,old _ _ ho,hd⟩⟩
  .obtain ⟨v,o,ho,hd⟩:=I₂.cell y c (K.cl y c h)
   exact⟨v,o,old _ _ ho,hd⟩
  .show upd H₂ _ _ H2.objs.size=none
   rwa [kQ (Ne.symm hDC)]
  .obtain ⟨v,o,ho,hd⟩:=I₂.cell y c (K.cl y c h)
   exact(kQ (below c (AF ho)).2)▸I₂.freeC y c (K.cl y c h)
  .show (List.replicate xs.length none++σ).length=(xs++X.N).length
   rw[AM,AM,Bf,I₂.len]
 have stat:∀{H':Hp},(∀b∈fp,H' b=none)->∀b∈fp,rL (cxN X xs scope cl fp H2.objs.size s₂ H₂) [] H' b:=fun hn b hb =>
  ⟨hn b hb,(okX.exf b hb).1,okX.exfs b hb,.inl hb,(okX.exf b hb).2,fun p hp=>absurd hp (by simp[cxN])⟩
 have tn₁:=T.keep _ _ _ st₂ fun b _ o e=>old b o e;have fp₁:∀b∈fp,upd H₂ s₂.heap.objs.size (.lst []) b=none:=fun b hb =>(kQ (below b (fpLt b hb)).2)▸(f₂ b hb).1
 have loop:∀s₃:Shared,(∃tk,s₃={ s₂ with heap:=h₁,toks:=tk }) ->
   codeAny (model X.prog X.w) X.A (.compLoop (.ListComp elt [⟨tg,iter,ifs,0⟩] scope pos) 0 (.ref it) (.ref s₂.heap.objs.size) (compEnvC scope cl H2.objs.size X.env))
    (RR (.ref s₂.heap.objs.size) H2.objs.size) s₃:=by
  rintro s₃ ⟨tk,rfl⟩
  refine qL (fun n s'=>∃i ys H' v0,v0.length=xs.length/\Inv (cxN X xs scope cl fp H2.objs.size s₂ H₂) [] (v0++σ) H' s'/\tn i s'.heap/\(∀b∈fp,H' b=none)/\W i n ys H') ?_ m0
   ⟨0,[],_,List.replicate xs.length none,Bf,I' tk,tn₁,fp₁,w0⟩
  rintro n s3 ⟨i,ys,H3,v0,l0,I3,st3,fr3,w3⟩
  rcases turn i n ys H3 w3 with ⟨stop,qn⟩ | ⟨go,step⟩
  .refine thn (T.done (cxN X xs scope cl fp H2.objs.size s₂ H₂) rfl rfl rfl hc i [] s3 (v0++σ) H3 (fun _ _=>False) I3 (stat fr3) st3 stop) fun r s4 zz=>dI zz fun hr I4=> ?_
   subst hr;show RR _ _ (.ok .next) s4;refine hZ I4.loc fun m hn _=>?_;have os4:=I4.os;refine hRR _ _ H3 s4 m hn ?_ I4.free (fun y c h z=>?_) (hC▸Nat.le_succ _) ?_ qn
   .exact Ne.symm (below _ I₂.lt).1
   .exact el22 (I₂.cell y c h) fun v o ho hd=>(below c (AF ho)).1 z
   .obtain ⟨hh,g,d,t,os'⟩:=s4
    obtain rfl:os'=s₂.os:=os4;exact I₂.call (h':=hh) (g':=g) (d':=d) (t':=t) I4.base I4.hok I4.bare fun b hb=>⟨(f₂ b hb).2.2.2.1,(f₂ b hb).2.1,(f₂ b hb).2.2.2.2.1,(f₂ b hb).2.2.2.2.2⟩
  .refine thn (T.item (cxN X xs scope cl fp H2.objs.size s₂ H₂) rfl rfl rfl hc i [] s3 (v0++σ) H3 (fun _ _=>False) I3 (stat fr3) st3 go) fun r s4 zz=>hZ zz fun u hr h4=> ?_
   subst hr;refine thn h4 fun _ s5 zz=>el25 zz fun x5 H5 I5 r5 y5 st5 fr5=> ?_
   have again:∀{H':Hp} {s':Shared} {τ:St},Inv (cxN X xs scope cl fp H2.objs.size s₂ H₂) ([]++kU fp s5.heap) τ H' s'->tn (i+1) s'.heap/\∀b∈fp,H' b=none:=fun I7 =>
    ⟨T.keep _ _ _ st5 fun b hb o e=>(I7.pin (b,o) (Aj _ (Aj _ (oK hb e)))).1,fun b hb =>hZ (T.obj _ _ st5 b hb) fun o e d=>(I7.pin (b,o) (Aj _ (Aj _ (oK hb e)))).2.1⟩
   refine sU (step x5 H5 y5) fun vs5 sq5 l5 q5=>thn (hg fp _ s₂ H₂ _ s5 (v0++σ) H5 x5 u (fun σ' H'=>σ'=vs5.map some++σ/\H'=H5) (I5.pinned (stat fr5) (T.obj _ _ st5)) r5 (hG v0 vs5 x5 H5 _ l0 sq5 l5 ⟨rfl,rfl⟩)) fun _ s6 zz=>sP zz fun σ6 H6 I6 e6 e6'=> ?_;subst e6 e6';have l6:(vs5.map some).length=xs.length:=by rwa [AD]
   refine thn (ht fp _ s₂ H₂ _ s6 (vs5.map some++σ) H6 _ I6 q5) fun ok s7 zz=>hZ zz fun H7 I7 q7=> ?_
   cases ok with
   |false =>
    rw[Av AJ] at q7;rw[Av AJ];refine hZ q7 fun m' hm w7=>?_;obtain⟨k1,k2⟩:=again I7;exact⟨m',hm,i+1,ys,H7,vs5.map some,l6,I7.unpinned,k1,k2,w7⟩
   |true =>
    rw[A4 rfl] at q7;rw[A4 rfl];refine thn (he fp _ s₂ H₂ _ s7 (vs5.map some++σ) H7 _ I7 q7) fun y s8 ⟨y8,H8,I8,r8,hD8,hl8,m',hm,w8⟩=>thn (yM _ s8 _ H8 (.ref s₂.heap.objs.size) [y8] (.ref s₂.heap.objs.size) [y] (fun _ H9=>H9=upd H8 s₂.heap.objs.size (.lst (ys++[y8]))) I8 rfl (.cons r8 .nil) ⟨_,ys,y8,rfl,rfl,hD8,hl8,rfl⟩) fun _ s9 zz=>sP zz fun _ H9 I9 _ e9=> ?_;subst e9;obtain⟨k1,k2⟩:=again I9
    exact⟨m',hm,i+1,ys++[y8],_,vs5.map some,l6,I9.unpinned,k1,k2,w8⟩
 exact codeAny_compStart_list (loop _ ⟨_,rfl⟩) (T.self _ 0 _ _ _ tn₁ (loop _ ⟨_,rfl⟩))
theorem pe_comp {elt iter:Expr}{x:Str}{px pos:Pos}{ifs:List Expr}{scope:Scope}{cl:List (Str×Addr)}{wi:TI}{tc:TT}{te:TE}
  (hc:X.calm=true) (hN:(x::X.N).Nodup) (K:oV X x scope cl) (hi:PI X (.Name x px) iter wi)
  (ht:∀fp C s₂ H₂,Qw (dZ X x scope cl fp C s₂ H₂) ifs tc) (he:∀fp C s₂ H₂,PE (dZ X x scope cl fp C s₂ H₂) elt te)
  (hs:∀v,foldedSetIterable iter X.env v=pure v:=by intro _; rfl):PE X (.ListComp elt [⟨.Name x px,iter,ifs,0⟩] scope pos) (tG wi tc te):=by
 intro pins s σ H Q I h;rw[eval_ListComp];refine wpAny_comprehension_free (use:=none) rfl hs K.clos K.kind K.names (thn (hi pins s σ H _ I h) fun xv s₁ h₁=>thn h₁ fun itv s₂ h₂=>?_);obtain⟨it,fp,tn,J,H₂,e,I₂,T,st₂,f₂,R⟩:=h₂;subst e;refine nY (g:=qW 0) (Tk:=fun x _ vs=>vs=[x]) hc K (fun _ _ _ _=>cF (i:=0) (x:=x) hN rfl (.inl (Cj (K.hx x (.head _)))) (.inr (Cj (K.hx x (.head _))))) ht he (by rintro ws vs y H Q l rfl _ q; match ws,l with | [_],_=>exact q) I₂ T st₂ f₂ (fun D hD=>let ⟨W,w0,tu⟩:=R D hD; ⟨W,w0,fun i m ys H w=>(tu i m ys H w).imp id fun zz=>dI zz fun g st=> ⟨g,fun x H' y=>⟨[x],rfl,rfl,st x H' y⟩⟩⟩) ?_
 intro D C H s4 m hn hCL hC0 hCc hCsz I4 q;refine⟨m,hn,fun h' hsb=>⟨.ref D,H,?_,rfl,q⟩⟩;refine I4.turned (it:=C) (t':=s4.toks) (fun b o hb e=>(hsb.2 b hb).trans e) hC0 hCL (.inr (AX I₂.sz hCsz)) hCc fun p hp z=>?_;exact absurd (AV (AF (I₂.pin p hp).1) (by rw[z]; exact hCsz)) (BF _)
end
section
variable {X:Cx}
inductive Ty where
 |non | bl | int | str | lst | tup | dct
 deriving DecidableEq
def mX:Ty->String
 |.non=>"NoneType" | .bl=>"bool" | .int=>"int" | .str=>"str" | .lst=>"list" | .tup=>"tuple" | .dct=>"dict"
def tyH:HO->Option Ty
 |.lst _=>some .lst
 |.frz _ (.lst _)=>some .lst
 |.tup _=>some .tup
 |.dK _=>some .dct
 |.dT _=>some .dct
 |.dM _ _=>some .dct
 |_=>none
def tyN (H:Hp):V->Option Ty
 |.non=>some .non
 |.bl _=>some .bl
 |.int _=>some .int
 |.str _=>some .str
 |.ref a=>(H a).bind tyH
 |_=>none
theorem rC {K}    (h:tyN H x=some n):yW K H x (.type (mX n)):=by
 cases x with
 |non=>cases h; exact .non
 |bl b=>cases h; exact .bl b
 |int i=>cases h; exact .int i
 |str z=>cases h; exact .str z
 |ref a =>
  have h:(H a).bind tyH=some n:=h
  cases e:H a with
  |none=>rw[e] at h; cases h
  |some o =>
   rw[e] at h
   cases o with
   |lst xs=>cases h; exact .lst e
   |tup xs=>cases h; exact .tup e
   |dK kvs=>cases h; exact .dK e
   |dT kvs=>cases h; exact .dT e
   |dM o kvs=>cases h; exact .dM e
   |frz ob u =>
    cases u with
    |lst xs=>cases h; exact .frz e
    |_=>cases h
   |_=>cases h
 |byt b=>cases h
 |flt b=>cases h
 |ty n=>cases h
def iQ:Ty->Ty->Bool
 |.bl,.int=>true
 |a,b=>decide (a=b)
theorem fR K n T:PySem.W.kitOne K (.type (mX n)) (.type (mX T))=some (iQ n T):=by
 cases n<;>cases T<;>with_unfolding_all rfl
theorem mQ:CallR X (.builtin "isinstance") (fun xs H Q=>∃x T n,xs=[x,.ty (mX T)]/\tyN H x=some n/\Q (.bl (iQ n T)) H):=by
 intro pins s σ H xs us Q I r h;obtain⟨x,T,n,rfl,hn,q⟩:=h;obtain⟨u,w',rfl,rx,rfl⟩:=pC r;exact cT I rx (rC hn) (fR X.K n T) fun tk=>⟨.bl (iQ n T),H,I.tok tk,rfl,q⟩
theorem sl_str:SlR X (fun x lo hi H Q=>∃z,x=.str z/\z.length<=sizeLine/\Q (.str (Txt.slice z lo hi)) H):=by
 intro pins s σ H x v vl vu lo hi sl Q I rx hs pl pu h;obtain⟨z,rfl,hz,q⟩:=h;obtain⟨t,rfl⟩:=rx;refine⟨"str",_,F.slot_str_getitem.lookup,typeIs_str _ _ _,?_⟩;have fin:∀(t':Tok) (k:Nat),EP X pins σ Q (.str (Txt.slice z lo hi) t') { s with toks:=k }:=fun t' k=>⟨.str _,H,I.tok k,⟨_,rfl⟩,q⟩
 cases pl with
 |none =>
  cases pu with
  |none=>exact CU (l:=none) (u:=none) (st:=none) hs rfl (DM ⟨AX (Txt.slice_le z _ _) hz,fin⟩)
  |int j uj=>exact CU (l:=none) (u:=some (j,uj)) (st:=none) hs rfl (DM ⟨AX (Txt.slice_le z _ _) hz,fin⟩)
 |int i ui =>
  cases pu with
  |none=>exact CU (l:=some (i,ui)) (u:=none) (st:=none) hs rfl (DM ⟨AX (Txt.slice_le z _ _) hz,fin⟩)
  |int j uj=>exact CU (l:=some (i,ui)) (u:=some (j,uj)) (st:=none) hs rfl (DM ⟨AX (Txt.slice_le z _ _) hz,fin⟩)
theorem yP:OpR X (binaryOp .FloorDiv) (rI (fun _ j=>0 < j/\j < 18446744073709551616) fun i j=>.int (i / j)):=opI fun i j _ _ _ _ _ hc q=>by
 refine floordiv_int (by lia) (by grind) (.inl (PyProof.noPylong_of_log2 ?_));have h3:j.natAbs < 2 ^ 64 :=by lia
 exact AV ((Nat.log2_lt (by omega)).mpr h3) (by decide)
end
structure JE (X:Cx)(e:Expr)(t:TE):Prop where
 h:PE X e t
structure JT (X:Cx)(e:Expr)(t:TT):Prop where
 h:PT X e t
structure JW (X:Cx)(e:Expr)(t:TT):Prop where
 h:PW X e t
structure JA (X:Cx)(es:List Expr)(t:TA):Prop where
 h:PA X es t
structure JS (X:Cx)(st:Stmt)(t:TS):Prop where
 h:PS X st t
structure JB (X:Cx)(st:List Stmt)(t:TS):Prop where
 h:PSs X st t
structure JG (X:Cx)(e:Expr)(t:TG):Prop where
 h:PG X e t
structure JI (X:Cx)(tg e:Expr)(t:TI):Prop where
 h:PI X tg e t
structure JF (X:Cx)(ifs:List Expr)(t:TT):Prop where
 h:Qw X ifs t
structure JO (X:Cx)(e:Option Expr)(t:TO):Prop where
 h:PO X e t
section
variable {X:Cx}{a b c e o i:Expr}{es:List Expr}{ta tb tc te:TE}{tA tB':TT}{t:TA}{pos:Pos}{lQ:List Expr}
theorem je_bltn    (hg:Gl X x)(hm:X.mg x=none)(hv:bootBuiltins x=some u)(r:RelV v u)(hn:x ≠ "__name__":=by decide)(hd:(x==("__debug__" : Str))=false:=by decide):JE X (.Name x pos) (tC v):=⟨pe_bltn hg hm hv r hn hd⟩
def vY:Expr->Bool
 |.Name _ _=>true | .Call _ _ _ _=>true | .Subscript _ _ _=>true | .Attribute _ _ _=>true | .IfExp _ _ _ _=>false | _=>false
theorem xU  (h:vY e=true):∀whole,isTrue e env whole=(do let v <- whole; standAt e.pos; holding [v] (truthy v)):=by
 cases e<;>first | (intro _; rfl) | exact absurd h AJ
theorem vG (ha:JE X e te)(hr:JA X es t)(hs:nQ e=true:=by rfl):JA X (e::es) (aO te t):=⟨qa_cons ha.h hr.h hs⟩
theorem je_call           {p}(F:FnOk X.prog X.w X.K X.mg X.base CX k f fd ps sp)(hr:Room k X.A)(hg:Gl X x)(hm:X.mg x=some (.ref f))(hk:PySem.W.keepIn X.K (.ref f)=true)(hb:Binds X.K fd ps ds)(hd:Vals dvs ds)(hx:cY CX X E)
  (ha:JA X (e::es) t) (hdb:(x==("__debug__" : Str))=false:=by decide) (hs:nQ e=true:=by rfl) (hall:es.all nQ=true:=by rfl):JE X (.Call (.Name x p) (e::es) [] pos) (iO sp dvs E t):=⟨qe_call F hr hg hm hk hb hd hx ha.h hdb hs hall⟩
theorem uY    {p}(hc:CallR X (.type T) r)(hg:Gl X x)(hm:X.mg x=none)(hv:bootBuiltins x=some (.type T))(ha:JA X (e::es) t)(hn:x ≠ "__name__":=by decide)(hdb:(x==("__debug__" : Str))=false:=by decide)
  (hs:nQ e=true:=by rfl) (hall:es.all nQ=true:=by rfl):JE X (.Call (.Name x p) (e::es) [] pos) (tCB r t):=⟨sS hc hg hm hv ha.h hn hdb hs hall⟩
theorem je_comp {elt iter:Expr}{x:Str}{px:Pos}{ifs:List Expr}{scope:Scope}{cl:List (Str×Addr)}{wi:TI}{tc:TT}
  (hc:X.calm=true) (hN:(x::X.N).Nodup) (K:oV X x scope cl) (hi:JI X (.Name x px) iter wi)
  (ht:∀fp C s₂ H₂,JF (dZ X x scope cl fp C s₂ H₂) ifs tc) (he:∀fp C s₂ H₂,JE (dZ X x scope cl fp C s₂ H₂) elt te)
  (hs:∀v,foldedSetIterable iter X.env v=pure v:=by intro _; rfl):JE X (.ListComp elt [⟨.Name x px,iter,ifs,0⟩] scope pos) (tG wi tc te) :=
 ⟨pe_comp hc hN K hi.h (fun fp C s₂ H₂=>(ht fp C s₂ H₂).h) (fun fp C s₂ H₂=>(he fp C s₂ H₂).h) hs⟩
variable {tg:Expr}
end
section
variable {X:Cx}{st:Stmt}{sts:List Stmt}{t u:TS}{e c:Expr}{te:TE}{tc:TT}{pos:Pos}
end
section
variable {P:Program}{w:World}{K:DY}{mg:Str->Option Value}{base:Heap}
theorem Fun.okJ  {st}      (F:Fun K x qual st f fd)(S:FnScope N ps (sQ st))(len:∀vs H Q E,sp vs H Q E->vs.length=ps.length)
  (hbody:∀cdv A outer s H vs Q E,Room k (A.deeper (envOfC qual (sQ st) s.heap.objs.size f cdv))->sp vs H Q E ->
   ∃t,JB (nD CX0 P w K mg base N qual (sQ st) f cdv A outer s H E).nox (qJ st) t/\t { nx:=fun _ H'=>Q .non H',rt:=Q } (start N vs) H):FnOk P w K mg base CX0 (k+1) f fd ps sp :=
 F.ok S len fun cdv A outer s H vs Q E hr h=>let ⟨t,ht,q⟩:=hbody cdv A outer s H vs Q E hr h; ⟨t,ht.h,q⟩
end
section
variable {X:Cx}{d:Addr}{kvs:List (Key×V)}
theorem mR (K:DY)(n:Ty):∀Ts:List Ty,PySem.W.kitAny K (.type (mX n)) (Ts.map fun T=>.type (mX T))=some (Ts.any (iQ n))
 |[]=>rfl
 |T::r=>by
  have ih:=mR K n r;show(match PySem.W.kitOne K (.type (mX n)) (.type (mX T)) with | some true=>some true | some false=>PySem.W.kitAny K (.type (mX n)) (r.map fun T=>.type (mX T)) | none=>none)=_;rw[fR,List.any_cons]
  cases iQ n T with
  |true=>rfl
  |false=>rw[ih]; rfl
theorem rN {pins:List (Addr×Obj)}{σ:St}{H:Hp}{s:Shared}{A:Around}{E:Value->Shared->Prop}{Q:Value->Shared->Prop}{b:Bool}{x:V}{u t:Value}{tp:Addr}{dd:Option Addr}{its:List Value}{k:Nat}{sl:Array (Option Value)}(I:Inv X pins σ H s)(rx:RelV x u)(ty:yW X.K H x t)
  (htp:s.heap.get? tp=some ⟨.type "tuple",dd,.seq its.toArray k,sl⟩) (e:PySem.W.kitAny X.K t its=some b) (h:∀tk,Q (.bool b) { s with toks:=tk }) :
  wpAny (model X.prog X.w) A (call (.builtin "isinstance") [u,.ref tp]) Q E s:=by
 cases ty with
 |non=>cases (show u=Value.none from rx); exact A9 PySem.W.kitx_none I.kIn True.intro htp e (fun z=>nomatch z) h
 |bl y=>cases (show u=Value.bool y from rx); exact A9 PySem.W.kitx_bool I.kIn True.intro htp e (fun z=>nomatch z) h
 |int i=>obtain⟨t,q⟩:=(show ∃t,u=Value.int i t from rx); cases q; exact A9 PySem.W.kitx_int I.kIn True.intro htp e (fun z=>nomatch z) h
 |str y=>obtain⟨t,q⟩:=(show ∃t,u=Value.str y t from rx); cases q; exact A9 PySem.W.kitx_str I.kIn True.intro htp e (fun z=>nomatch z) h
 |flt y=>obtain⟨t,q⟩:=(show ∃t,u=Value.float y t from rx); cases q; exact A9 PySem.W.kitx_float I.kIn True.intro htp e (fun z=>nomatch z) h
 |@lst a xs ea =>
  cases (show u=Value.ref a from rx);obtain⟨_,_,n,_,h1⟩:=(show ObjOk X.prog X.w H s.heap a (.lst xs) from I.hok a _ ea);exact A9 Ct I.kIn ⟨_,h1,rfl⟩ htp e (fun z=>nomatch z) h
 |@frz a ob xs ea =>
  cases (show u=Value.ref a from rx);obtain⟨_,_,_,n,_,h1⟩:=(show ObjOk X.prog X.w H s.heap a (.frz ob (.lst xs)) from I.hok a _ ea);exact A9 Ct I.kIn ⟨_,h1,rfl⟩ htp e (fun z=>nomatch z) h
 |@tup a xs ea =>
  cases (show u=Value.ref a from rx);obtain⟨_,_,_,p⟩:=(show ObjOk X.prog X.w H s.heap a (.tup xs) from I.hok a _ ea);obtain⟨o,h1,h2,_⟩:=p;exact A9 PySem.W.kitx_tuple I.kIn ⟨o,h1,h2⟩ htp e (fun z=>nomatch z) h
 |@dK a kvs ea =>
  cases (show u=Value.ref a from rx);obtain⟨_,_,vs,_,p⟩:=(show ObjOk X.prog X.w H s.heap a (.dK kvs) from I.hok a _ ea);obtain⟨o,es,ep,h1,h2,_⟩:=p;exact A9 B2 I.kIn ⟨o,h1,h2.1⟩ htp e (fun z=>nomatch z) h
 |@dT a kvs ea =>
  cases (show u=Value.ref a from rx);obtain⟨_,_,xs,_,o,es,ep,h1,h2,_⟩:=(show ObjOk X.prog X.w H s.heap a (.dT kvs) from I.hok a _ ea);exact A9 B2 I.kIn ⟨o,h1,h2.1⟩ htp e (fun z=>nomatch z) h
 |@dM a o kvs ea =>
  cases (show u=Value.ref a from rx);obtain⟨_,_,h1,xs,_,es,ep,h2,_⟩:=(show ObjOk X.prog X.w H s.heap a (.dM o kvs) from I.hok a _ ea);exact A9 B2 I.kIn ⟨o,h1,h2.1⟩ htp e (fun z=>nomatch z) h
 |@ins a C dx fs ea cl ha hn htk hm =>
  cases (show u=Value.ref a from rx);obtain⟨mA,O,_⟩:=lR I.hok ea;obtain⟨od,J,_⟩:=O.look;exact A9 (PySem.W.kitx_own (cl.get _) cl.hd ha hn htk hm) I.kIn J htp e (fun z=>nomatch z) h
theorem sL:∀{Ts:List Ty}{its:List Value},Vals (Ts.map fun T=>.ty (mX T)) its->its=Ts.map fun T=>.type (mX T)
 |[],_,.nil=>rfl
 |T::r,_,.cons a b=>by
  rw[Aa,<- sL b];cases (show _=Value.type (mX T) from a)
  rfl
theorem aK:CallR X (.builtin "isinstance") (fun xs H Q=>∃x p Ts n,xs=[x,.ref p]/\H p=some (.tup (List.map (fun T=>V.ty (mX T)) Ts))/\tyN H x=some n/\Q (.bl (Ts.any (iQ n))) H):=by
 intro pins s σ H xs us Q I r h;obtain⟨x,p,Ts,n,rfl,hp,hn,q⟩:=h;obtain⟨u,w',rfl,rx,rp⟩:=pC r;cases (show w'=Value.ref p from rp);obtain⟨z,its,rv,o,h1,h2,⟨m,h3⟩,_⟩:=(show ObjOk X.prog X.w H s.heap p (.tup _) from I.hok p _ hp);have e:=sL rv;subst e;obtain⟨cls,dd,dat,sl⟩:=o
 simp only at h2 h3
 subst h2 h3;exact rN I rx (rC hn) h1 (mR X.K n Ts) fun tk=>⟨.bl _,H,I.tok tk,rfl,q⟩
def qR:V->List V->Hp->VK->Prop:=fun x vs H Q=>∃l xs i y,x=.ref l/\vs=[.int i,y]/\H l=some (.lst xs)/\0<=i/\i<=xs.length/\xs.length < sizeLine/\Q .non (upd H l (.lst (xs.take i.toNat++y::xs.drop i.toNat)))
theorem qT:MtM X "list.insert" qR:=by
 intro pins s σ H x vs v us Q I rx rv h;obtain⟨l,xs,i,y,rfl,rfl,hH,h0,h1,hz,q⟩:=h;cases rx;obtain⟨u1,u2,rfl,r1,r2⟩:=rv.two;obtain⟨t,rfl⟩:=r1;obtain⟨z,its,n,r,hl,e⟩:=I.lstM hH;have hn:=tK
 refine DH F.slot_list_insert ⟨_,e,rfl⟩ F.entry_list_insert (F.args_list_insert_3 _ _ _)
  (AutoListH.list_insert_list_int_val_1 l its.toArray n i t u2 (by rw[fitsIndex_both (by omega) (by omega)]; exact AJ) (by rw[AN]; omega)) ⟨e,?_⟩
 refine⟨.non,_,I.lset (its':=its.take i.toNat++u2::its.drop i.toNat) hH e ?_ (Vals.append (r.take _) (.cons r2 (r.drop _))) ?_,rfl,q⟩
 .have hk:(if i < 0 then (i+((its.toArray.size:Nat):Int)).toNat else min i.toNat its.toArray.size)=i.toNat:=by
   rw[Av (by omega),AN];omega
  show(its.toArray.extract 0 (if i < 0 then (i+((its.toArray.size:Nat):Int)).toNat else min i.toNat its.toArray.size)).push u2++its.toArray.extract (if i < 0 then (i+((its.toArray.size:Nat):Int)).toNat else min i.toNat its.toArray.size)=_;rw[hk]
  apply Array.toList_inj.mp
  simp
  exact List.take_of_length_le (by rw[Br]; exact AG _)
 .rw [AM,Ai,Bb,Br]
  omega
end
section
variable {X:Cx}
def rUpper:V->List V->Hp->VK->Prop:=fun x vs H Q=>∃z,x=.str z/\vs=[]/\z.length<=1000000/\∀y:Str,y.length<=3 * z.length->Q (.str y) H
theorem rA:MtM X "str.upper" rUpper:=by
 intro pins s σ H x vs v us Q I rx rv h;obtain⟨z,rfl,rfl,hz,q⟩:=h;obtain⟨t,rfl⟩:=rx;have hus:=rv.zero;subst hus;exact SCL.upper (by omega) fun hl=>⟨.str _,H,I.tok _,⟨_,rfl⟩,q _ hl⟩
end
theorem vW  : ∀(names:List (Str×NameKind)) acc,(∀y∈names,y.2=.free->∃c,env.cells.lookup y.1=some c)->(∀y c,acc.lookup y=some c->env.cells.lookup y=some c) ->
  ∃cl,(forIn names acc fun x r=>(do
    if x.2==NameKind.free then do
     let c <- cellOf env x.1
     pure (ForInStep.yield ((x.1,c)::r))
    else pure (ForInStep.yield r):Sem (ForInStep (List (Str×Addr)))))=pure cl/\(∀y c,cl.lookup y=some c->env.cells.lookup y=some c)/\(∀y∈names,y.2=.free->∃c,cl.lookup y.1=some c)/\∀y c,acc.lookup y=some c->∃c',cl.lookup y=some c'
 |[],acc,_,ha=>⟨acc,rfl,ha,fun y hy=>absurd hy (by simp),fun y c h=>⟨c,h⟩⟩
 | (n,k)::r,acc,hf,ha=>by
  cases hk:(k==NameKind.free) with
  |false =>
   refine el14 (vW r acc (fun y hy=>hf y (AO _ hy)) ha) fun cl e h1 h2 h3=>⟨cl,?_,h1,fun y hy hy2=>?_,h3⟩
   .grind
   .grind
  |true =>
   have ek:k=.free :=by lia
   refine el11 (hf (n,k) AQ ek) fun c hc=>?_
   have ha':∀y c',((n,c)::acc).lookup y=some c'->env.cells.lookup y=some c':=fun y c' h=>by
    rw[List.lookup_cons] at h
    cases hy:y==n with
    |true =>
     rw[hy] at h;have:y=n :=by lia
     subst this
     rwa [hc]
    |false =>
     rw[hy] at h;exact ha y c' h
   refine el14 (vW r ((n,c)::acc) (fun y hy=>hf y (AO _ hy)) ha') fun cl e h1 h2 h3=>?_;have hco:cellOf env n=pure c:=by delta cellOf; rw[hc]
   refine⟨cl,?_,h1,fun y hy hy2=>?_,fun y c' h=>?_⟩
   .grind
   .grind
   .grind
def aU (xs:List Str)(scope:Scope)(N:List Str)(sc:Scope):Bool :=
 scope.names.all (fun y=>decide (y.2≠.cell)&&(decide (y.2≠.free) || decide (sc.names.lookup y.1=some .cell))&&(decide (y.2≠.local) || (decide (scope.names.lookup y.1=some .local)&&decide (y.1∉N))))&&decide (scope.kind=.function)&&xs.all (fun x=>decide (scope.names.lookup x=some .local))
theorem eU      (hN:X.N=N)(hsc:X.env.scope=sc)(hce:X.env.cells=cellsFrom L sc.names [])(h:aU xs scope N sc=true):∃cl,lG X xs scope cl:=by
 subst hN hsc
 delta aU at h
 rw[Bc,Bc,DF] at h;obtain⟨⟨h1,h2⟩,h3⟩:=h
 have get:∀y∈scope.names,y.2≠.cell/\(y.2=.free->X.env.scope.names.lookup y.1=some .cell)/\(y.2=.local->scope.names.lookup y.1=some .local/\y.1∉X.N):=fun y hy=>by
  have q:=h1 y hy;rw[Bc,Bc] at q;obtain⟨⟨q1,q2⟩,q3⟩:=q;refine⟨A6 q1,fun e=>?_,fun e=>?_⟩
  .lia
  .lia
 refine el14 (vW scope.names [] (fun y hy hf =>hce▸iU ((get y hy).2.1 hf)) (fun y c z=>by simp at z)) fun cl e k1 k2 _=>?_;refine⟨cl,⟨?_,fun y hy=>(get y hy).1,A6 h2,fun y hy q=>((get y hy).2.2 q).1,fun x hx=>A6 (DF.1 h3 x hx),fun y hy q=>((get y hy).2.2 q).2,fun y hy q=>⟨?_,.inl ((get y hy).2.1 q),k2 y hy q⟩,k1⟩⟩
 .have e':=Bq (fun m:Sem (List (Str×Addr))=>m >>= fun cs=>(pure cs:Sem (List (Str×Addr)))) e
  exact e'
 .show X.env.scope.names.lookup y.1≠some .local
  rw[(get y hy).2.1 q]
  decide
theorem zI {X:Cx}{elt iter:Expr}{x:Str}{px pos:Pos}{ifs:List Expr}{scope:Scope}{wi:TI}{tc:TT}{te:TE}
  (hc:X.calm=true) (hN:(x::X.N).Nodup) (K:∃cl,oV X x scope cl) (hi:JI X (.Name x px) iter wi)
  (ht:∀cl fp C s₂ H₂,JF (dZ X x scope cl fp C s₂ H₂) ifs tc) (he:∀cl fp C s₂ H₂,JE (dZ X x scope cl fp C s₂ H₂) elt te)
  (hs:∀v,foldedSetIterable iter X.env v=pure v:=by intro _; rfl):JE X (.ListComp elt [⟨.Name x px,iter,ifs,0⟩] scope pos) (tG wi tc te) :=
 let ⟨cl,K⟩:=K
 je_comp hc hN K hi (ht cl) (he cl) hs
section
variable {X:Cx}{o e:Expr}{es:List Expr}{to:TE}{t:TA}{name:Str}{apos cpos:Pos}{T id:String}{r:V->List V->Hp->VK->Prop}
end
end L2
namespace L2
open PySem PySem.W PyProof.Rows
def kRun  (lt:Nat->Nat->Bool):KasT α->α
 |.ret a=>a
 |.ask i j k=>kRun lt (k (lt i j))
section
variable {n:Nat}(h0:0 < n)
include h0
end
end L2
namespace HT
open PySem PyProof.Rows
def lexS:List Str->List Str->Bool
 |[],[]=>false
 |[],_::_=>true
 |_::_,[]=>false
 |x::xs,y::ys=>if x=y then lexS xs ys else decide (x.cps.toList < y.cps.toList)
end HT
namespace L2
open PySem PySem.W PyProof.Rows
def ltP (x y:List Str×Int):Bool:=if x.1=y.1 then decide (x.2 < y.2) else HT.lexS x.1 y.1
def ltSI (x y:Str×Int):Bool:=if x.1=y.1 then decide (x.2 < y.2) else decide (x.1.cps.toList < y.1.cps.toList)
end L2
namespace L2
open PySem PySem.Spec PyProof.Rows
section
variable {X:Cx}
def rCatTA (K:DY):R2:=fun x y H Q=>∃a b xs ys,x=.ref a/\y=.ref b/\SqT K H a xs/\SqT K H b ys/\xs.length+ys.length<=sizeLine /\
 (xs=[]->Q (.ref b) H)/\(xs≠[]->ys=[]->Q (.ref a) H)/\(xs≠[]->ys≠[]->∀p,H p=none->Q (.ref p) (upd H p (.tup (xs++ys))))
theorem vA:OpR X (binaryOp .Add) (rCatTA X.K):=by
 intro pins s σ H x y v u Q I rx ry h;obtain⟨a,b,xs,ys,rfl,rfl,ha,hb,hz,q0,q1,q2⟩:=h
 by_cases hx:xs=[]
 .cases rx
  cases ry;refine sU (I.tuple ha) fun its r1 p1 _=>sU (I.tuple hb) fun its2 r2 p2 _=>?_;have e:=r1.nil_iff.mpr hx;subst e;obtain⟨⟨cls,dd,data,sl⟩,ho,hc,n,hd⟩:=id p1;obtain⟨⟨cls2,dd2,data2,sl2⟩,ho2,hc2,n2,hd2⟩:=id p2;subst hc hd hc2 hd2
  exact concat_meets ⟨_,ho,rfl⟩ ⟨_,ho2,rfl⟩ noFill_tuple_add seq_tuple_add DI DB (Cz _ _)
   (tuple_addW0 a b _ its2.toArray n n2 dd dd2 sl sl2 rfl) ⟨ho,ho2,⟨.ref b,H,I,rfl,q0 hx⟩⟩
 .exact op_catT pins s σ H (.ref a) (.ref b) v u Q I rx ry ⟨a,b,xs,ys,rfl,rfl,ha,hb,hx,hz,q1 hx,q2 hx⟩
end
abbrev Cx.at_ (X:Cx)(k:Nat):Cx:={ X with N:=X.N.set k "?" }
def lL (k:Nat)(σ:St):Prop:=∀v,σ[k]?≠some (some v)
section
variable {X:Cx}{pins:List (Addr×Obj)}{σ:St}{H:Hp}{s:Shared}{k:Nat}{e:Expr}{te:TE}{st:Stmt}{t:TS}
theorem ok_at (ok:X.Ok):(X.at_ k).Ok:=by
 obtain⟨h1,h2,h3,h4,h5,h6,h7,h8,h9,h10,h11,h12,h13,h14,h15,h16,h17,h18⟩:=ok;exact⟨h1,h2,h3,h4,h5,h6,h7,h8,h9,h10,h11,h12,h13,h14,h15,h16,h17,h18⟩
theorem bA (ok:(X.at_ k).Ok):X.Ok:=by
 obtain⟨h1,h2,h3,h4,h5,h6,h7,h8,h9,h10,h11,h12,h13,h14,h15,h16,h17,h18⟩:=ok;exact⟨h1,h2,h3,h4,h5,h6,h7,h8,h9,h10,h11,h12,h13,h14,h15,h16,h17,h18⟩
theorem inv_at (n:lL k σ)(I:Inv X pins σ H s):Inv (X.at_ k) pins σ H s:=by
 refine hZ I.loc fun m hm hl=>⟨ok_at I.ok,I.os,I.bare,I.base,⟨m,hm,fun i x v e1 e2 e3=>?_⟩,I.cell,I.free,I.freeC,I.pin,I.hok,?_⟩
 .by_cases hi:k=i
  .subst hi; exact absurd e2 (n v)
  .rw [BP hi] at e1
   exact hl i x v e1 e2 e3
 .rw [Cm]
  exact I.len
theorem aV (n:lL k σ)(I:Inv (X.at_ k) pins σ H s):Inv X pins σ H s:=by
 refine hZ I.loc fun m hm hl=>⟨bA I.ok,I.os,I.bare,I.base,⟨m,hm,fun i x v e1 e2 e3=>?_⟩,I.cell,I.free,I.freeC,I.pin,I.hok,?_⟩
 .by_cases hi:k=i
  .subst hi; exact absurd e2 (n v)
  .refine hl i x v ?_ e2 e3
   rwa [BP hi]
 .have:=I.len
  rw[this,Cm]
theorem js_fg k (h:JS X st t):JS X st (fun D σ H=>t D (σ.set k none) H) :=
 ⟨fun pins s σ H D I q=>h.h pins s (σ.set k none) H D (I.weak (by grind) fun i v e=>by
  by_cases hi:k=i
  .grind
  .rwa [BP hi] at e) q⟩
end
section
variable {X:Cx}
theorem yD   {py px pos spos}
  (hNd:X.N.Nodup) (hi:X.N[i]?=some y) (hy:Loc X.env.scope y) (hc:X.calm=true) (hN:(x::X.N).Nodup) (K:oV X x scope cl) (hI:JI X (.Name x px) iter wi)
  (ht:∀fp C s₂ H₂,JF (dZ X x scope cl fp C s₂ H₂) ifs tc) (he:∀fp C s₂ H₂,JE (dZ X x scope cl fp C s₂ H₂) elt te)
  (hs:∀v,foldedSetIterable iter X.env v=pure v:=by intro _; rfl)
  (hsw:swapsWith (.ListComp elt [⟨.Name x px,iter,ifs,0⟩] scope pos) (some (.Name y py)) spos.line X.env=pure true:=by rfl)
  (hf:X.fn y=true\/X.env.scope.names.lookup y=some .local:=by first | exact .inl rfl | exact .inr rfl | assumption) :
  JS X (.Assign [.Name y py] (.ListComp elt [⟨.Name x px,iter,ifs,0⟩] scope pos) spos) (tAsg (tG wi tc te) (qW i)):=by
 refine⟨fun pins s σ H D I h=>?_⟩;rw[exec_Assign_Name_used _ _ _ _ hsw];refine AA (wpAny_standAt (AA (AA (wpAny_comprehension_free (use:=some (assign (.Name y py) X.env)) rfl hs K.clos K.kind K.names (thn (hI.h pins s σ H _ I h) fun xv s₁ h₁=>thn h₁ fun itv s₂ h₂=>?_)))));obtain⟨it,fp,tn,J,H₂,e,I₂,T,st₂,f₂,R⟩:=h₂;subst e
 apply nY (Q:=fun x H1=>qW i x σ H1 D.nx) hc K (fun _ _ _ _=>cF (i:=0) hN rfl (.inl (Cj (K.hx x (.head _)))) (.inr (Cj (K.hx x (.head _))))) (fun fp C s₂ H₂=>(ht fp C s₂ H₂).h) (fun fp C s₂ H₂=>(he fp C s₂ H₂).h) (by rintro ws vs y H Q l rfl _ q; match ws,l with | [_],_=>exact q) I₂ T st₂ f₂ (fun D hD=>let ⟨W,w0,tu⟩:=R D hD; ⟨W,w0,fun i m ys H w=>(tu i m ys H w).imp id fun zz=>dI zz fun g st=> ⟨g,fun x H' y=>⟨[x],rfl,rfl,st x H' y⟩⟩⟩)
 intro D' C H' s4 m hn hCL hC0 hCc hCsz I4 q;refine wpAny_assign_Name (aB I4 hNd hi hy (v:=.ref D') rfl (fun s5 I5 hsb=>?_) hf);obtain⟨b,hsb,hb⟩:=hsb;have hbC:C≠b :=by grind
 exact⟨m,hn.at' fun o e=>(hsb.2 C hbC).trans e,fun h' hsb'=>AB (AB ⟨_,H',I5.turned (t':=s5.toks) (fun b o hb e=>(hsb'.2 b hb).trans e) hC0 hCL (.inr (AX I₂.sz hCsz)) hCc fun p hp z=>absurd (AV (AF (I₂.pin p hp).1) (by lia)) (BF _),q⟩)⟩
theorem js_drop {st:Stmt}{t:TS}(k:Nat)(h:JS (X.at_ k) st t):JS X st (fun D σ H=>lL k σ/\t { nx:=fun σ' H'=>lL k σ'/\D.nx σ' H',rt:=D.rt,bk:=fun σ' H'=>lL k σ'/\D.bk σ' H',ct:=fun σ' H'=>lL k σ'/\D.ct σ' H' } σ H) :=
 ⟨fun pins s σ H D I q=>thn (h.h pins s σ H _ (inv_at q.1 I) q.2) fun f s1 z=>by
  cases f with
  |next=>obtain⟨σ',H',I',n,z⟩:=z; exact⟨σ',H',aV n I',z⟩
  |brk=>obtain⟨σ',H',I',n,z⟩:=z; exact⟨σ',H',aV n I',z⟩
  |cont=>obtain⟨σ',H',I',n,z⟩:=z; exact⟨σ',H',aV n I',z⟩
  |ret u =>
   obtain⟨v,σ',H',I',r,z⟩:=z
   have n:lL k (σ'.set k none):=fun v e=>by
    rw[List.getElem?_set_self'] at e
    cases hk:σ'[k]? with
    |none=>rw[hk] at e; cases e
    |some x=>rw[hk] at e; cases e
   refine⟨v,σ'.set k none,H',aV n (I'.weak (by rw[Cm]) fun i v e=>?_),r,z⟩
   by_cases hi:k=i
   .subst hi; exact absurd e (n v)
   .rw [BP hi] at e
    exact e⟩
end
theorem sameNew   (h:H p=none) o:Same H (upd H p o):=fun b u q=>by rwa [kQ (kZ q h)]
section
variable {X:Cx}
def rCatU:R2:=fun x y H Q=>∃a b xs ys,x=.ref a/\y=.ref b/\H a=some (.tup xs)/\H b=some (.tup ys)/\xs.length+ys.length<=sizeLine/\∀r H',Same H H'->H' r=some (.tup (xs++ys))->(H r=none\/r=a\/r=b)->Q (.ref r) H'
theorem op_catU:OpR X (binaryOp .Add) rCatU:=by
 intro pins s σ H x y v u Q I rx ry h;exact el46 h fun a b xs ys e1 e2 ha hb hz q=>vA pins s σ H x y v u Q I rx ry ⟨a,b,xs,ys,e1,e2,SqT.of ha,SqT.of hb,hz,fun h=>q b H (Same.refl H) (by rwa [h]) (.inr (.inr rfl)),fun _ h=>q a H (Same.refl H) (by grind) (.inr (.inl rfl)),fun _ _ p hp=>q p _ (sameNew hp _) uQ (.inl hp)⟩
end
end L2
namespace L2
open PySem PySem.W PyProof.Rows
def layT (H:Hp)(f:Addr->Option (List V)):Hp:=fun b=>match f b with
 |some xs=>some (.tup xs)
 |none=>H b
theorem yY     (e:f b=some xs):layT H f b=some (.tup xs):=by delta layT; rw[e]
theorem rJ    (e:f b=none):layT H f b=H b:=by delta layT; rw[e]
theorem gT   (hf:∀b xs,f b=some xs->H b=none)   (e:H b=some o):layT H f b=some o:=by
 cases z:f b with
 |none=>rwa [rJ z]
 |some xs=>rw[hf b xs z] at e; cases e
section
variable {X:Cx}
abbrev isItems (v d:Addr):Heap->Prop:=fun h=>h.IsItemsView v d
end
end L2
namespace PySem.W
open PySem PySem.Calls PyProof.Rows PyProof.V PySem.Spec
def RawD (h:Heap)(d:Addr)(es:Array DictEntry)(ep:Nat):Prop:=∃o,h.get? d=some o/\o.ExactDict/\o.data=.dict es ep
theorem RawD.at     (x:RawD h d es ep)(k:∀o,h.get? d=some o->h'.get? d=some o):RawD h' d es ep:=let ⟨o,e,r⟩:=x; ⟨o,k o e,r⟩
end PySem.W
namespace L2
open PySem PySem.W PySem.Spec PyProof.Rows
section
variable {X:Cx}
def cntK (k:Key)(ks:List Key):Nat:=ks.countP fun j=>decide (j=k)
end
end L2
namespace CL
open PySem PySem.Spec L2
open PyProof.Rows hiding St
inductive PV where
 |non | bl (b:Bool) | int (i:Int) | str (x:Str) | ty (n:String) | tup (xs:List PV) | kt (xs:List PV) | fz (xs:List PV) | vw (d:Addr) | ref (a:Addr)
def imm:HO->Bool
 |.tup _=>true
 |.frz _ (.dK _)=>false
 |.frz _ (.dT _)=>false
 |.frz _ _=>true
 |.ext _=>true
 |_=>false
def Imm (H H':Hp):Prop:=∀a o,imm o=true->H a=some o->H' a=some o
theorem Imm.new   (hp:H p=none) o:Imm H (upd H p o):=fun a u _ e=>by
 rwa [kQ (kZ e hp)]
theorem Imm.mut    (hp:H p=some u)(hu:imm u=false) o:Imm H (upd H p o):=fun a v i e=>by
 have:a≠p:=by
  intro z; subst z; rw[hp] at e; cases e; rw[hu] at i; cases i
 rwa [kQ this]
def Fz (K:DY)(H:Hp)(a:Addr)(xs:List V):Prop :=
 (∃o,H a=some (.frz o (.lst xs))) \/
  ∃(o:Obj) (its:Array Value) (n:Nat),K.lookup a=some o/\o.cls=.type "list"/\o.dict=none/\o.data=.seq its n/\its.size<=sizeLine/\Vals xs its.toList
theorem Fz.sq {K}    (h:Fz K H a xs):SqL K H a xs:=by
 rcases h with ⟨o,h⟩ | h
 .exact .inl (.inr ⟨o,h⟩)
 .exact .inr h
theorem Fz.imm {K}    (h:Fz K H a xs)(k:Imm H H'):Fz K H' a xs:=by
 rcases h with ⟨o,h⟩ | h
 .exact .inl ⟨o,k _ _ rfl h⟩
 .exact .inr h
theorem SqT.imm {K}    (h:SqT K H a xs)(k:Imm H H'):SqT K H' a xs:=by
 rcases h with (h | ⟨o,h⟩) | h
 .exact .inl (.inl (k _ _ rfl h))
 .exact .inl (.inr ⟨o,k _ _ rfl h⟩)
 .exact .inr h
mutual
inductive Rep (K:DY)(H:Hp):V->PV->Prop
 |non:Rep K H .non .non
 |bl (b:Bool):Rep K H (.bl b) (.bl b)
 |int (i:Int):Rep K H (.int i) (.int i)
 |str (x:Str):Rep K H (.str x) (.str x)
 |ty (n:String):Rep K H (.ty n) (.ty n)
 |ref (a:Addr):Rep K H (.ref a) (.ref a)
 |tup {a:Addr} {vs:List V} {ts:List PV} (h:H a=some (.tup vs)) (r:Reps K H vs ts):Rep K H (.ref a) (.tup ts)
 |kt {a:Addr} {vs:List V} {ts:List PV} (h:SqT K H a vs) (r:Reps K H vs ts):Rep K H (.ref a) (.kt ts)
 |fz {a:Addr} {vs:List V} {ts:List PV} (h:Fz K H a vs) (r:Reps K H vs ts):Rep K H (.ref a) (.fz ts)
 |vw {a d:Addr} (h:H a=some (.ext (isItems a d))):Rep K H (.ref a) (.vw d)
inductive Reps (K:DY)(H:Hp):List V->List PV->Prop
 |nil:Reps K H [] []
 |cons {v:V} {t:PV} {vs:List V} {ts:List PV} (h:Rep K H v t) (r:Reps K H vs ts):Reps K H (v::vs) (t::ts)
end
section
variable {K:DY}{H H' H1 H2:Hp}
mutual
theorem Rep.imm {v:V}{t:PV}(k:Imm H H'):Rep K H v t->Rep K H' v t
 |.non=>.non
 |.bl b=>.bl b
 |.int i=>.int i
 |.str x=>.str x
 |.ty n=>.ty n
 |.ref a=>.ref a
 |.tup h r=>.tup (k _ _ rfl h) (Reps.imm k r)
 |.kt h r=>.kt (SqT.imm h k) (Reps.imm k r)
 |.fz h r=>.fz (Fz.imm h k) (Reps.imm k r)
 |.vw h=>.vw (k _ _ rfl h)
theorem Reps.imm {vs:List V}{ts:List PV}(k:Imm H H'):Reps K H vs ts->Reps K H' vs ts
 |.nil=>.nil
 |.cons h r=>.cons (Rep.imm k h) (Reps.imm k r)
end
theorem Reps.len   : Reps K H vs ts->vs.length=ts.length
 |.nil=>rfl
 |.cons _ r=>Bq (· + 1) r.len
theorem Reps.get   {i:Nat}  : Reps K H vs ts->ts[i]?=some t->∃v,vs[i]?=some v/\Rep K H v t
 |.nil,e=>by cases e
 |.cons h r,e=>by
  cases i with
  |zero=>cases e; exact⟨_,rfl,h⟩
  |succ i=>exact r.get e
theorem Reps.append   : Reps K H vs ts->Reps K H us ss->Reps K H (vs++us) (ts++ss)
 |.nil,r=>r
 |.cons h t,r=>.cons h (t.append r)
theorem Reps.take   : ∀n,Reps K H vs ts->Reps K H (vs.take n) (ts.take n)
 |0,_=>.nil
 |_+1,.nil=>.nil
 |n+1,.cons h r=>.cons h (r.take n)
theorem Reps.drop   : ∀n,Reps K H vs ts->Reps K H (vs.drop n) (ts.drop n)
 |0,r=>r
 |_+1,.nil=>.nil
 |n+1,.cons _ r=>r.drop n
theorem Reps.set     (h:Rep K H v t):∀n,Reps K H vs ts->Reps K H (vs.set n v) (ts.set n t)
 |_,.nil=>.nil
 |0,.cons _ r=>.cons h r
 |n+1,.cons g r=>.cons g (r.set h n)
theorem Reps.reverse   (r:Reps K H vs ts):Reps K H vs.reverse ts.reverse:=by
 induction vs generalizing ts with
 |nil=>cases r; exact .nil
 |cons v vs ih =>
  cases r with
  |cons h r=>rw[BS,BS]; exact(ih r).append (.cons h .nil)
end
inductive CO where
 |lst (xs:List PV)
 |dK (kvs:List (Key×PV))
 |fK (kvs:List (Key×PV))
 |dT (kvs:List (List Key×PV))
 |fT (kvs:List (List Key×PV))
 |dP (kvs:List (List (List Key)×PV))
 |dN (kvs:List ((List (List Key)×Key)×PV))
 |dM (o:Obj) (kvs:List (gQ×PV×PV))
 |ins (c dx:Addr) (fs:List (Str×PV))
abbrev CH:=Addr->Option CO
def vQ (C:CH)(a:Addr)(o:CO):CH:=fun b=>if b=a then some o else C b
theorem zQ    : vQ C a o a=some o:=A4 rfl
theorem oQ    (h:b≠a):vQ C a o b=C b:=Av h
abbrev FP  (K:DY)(H:Hp):List (κ×V)->List (κ×PV)->Prop:=Paired fun p q=>p.1=q.1/\Rep K H p.2 q.2
abbrev FM (K:DY)(H:Hp):List (gQ×V×V)->List (gQ×PV×PV)->Prop:=Paired fun p q=>p.1=q.1/\Rep K H p.2.1 q.2.1/\Rep K H p.2.2 q.2.2
abbrev KP (K:DY)(H:Hp):List (Key×V)->List (Key×PV)->Prop:=Paired fun p q=>p.1=q.1/\Rep K H p.2 q.2
def ORel (K:DY)(H:Hp)(a:Addr):CO->Prop
 |.lst ts=>∃vs,H a=some (.lst vs)/\Reps K H vs ts
 |.dK kvs=>∃vs,H a=some (.dK vs)/\KP K H vs kvs
 |.fK kvs=>∃o vs,H a=some (.frz o (.dK vs))/\KP K H vs kvs
 |.dT kvs=>∃vs,H a=some (.dT vs)/\FP K H vs kvs
 |.fT kvs=>∃o vs,H a=some (.frz o (.dT vs))/\FP K H vs kvs
 |.dP kvs=>∃vs,H a=some (.dP vs)/\FP K H vs kvs
 |.dN kvs=>∃vs,H a=some (.dN vs)/\FP K H vs kvs
 |.dM o kvs=>∃vs,H a=some (.dM o vs)/\FM K H vs kvs
 |.ins c dx fs=>∃gs,H a=some (.ins c dx gs)/\FP K H gs fs
def HRel (K:DY)(H:Hp)(C:CH):Prop:=∀a o,C a=some o->ORel K H a o
def still:Option CO->Bool
 |none=>true
 |some (.fK _)=>true
 |some (.fT _)=>true
 |_=>false
def Fw (H:Hp)(C:CH)(H':Hp)(C':CH):Prop:=∀a,still (C a)=true->H a≠none->C' a=C a/\H' a=H a
section
variable {K:DY}{H H' H1 H2:Hp}{C C' C1 C2:CH}
theorem Fw.refl:Fw H C H C:=fun _ _ _=>⟨rfl,rfl⟩
theorem Fw.trans (f:Fw H C H1 C1)(g:Fw H1 C1 H2 C2):Fw H C H2 C2:=fun a h n=>by
 obtain⟨c,e⟩:=f a h n;obtain⟨c',e'⟩:=g a (by rwa [c]) (by rwa [e]);exact⟨c'.trans c,e'.trans e⟩
theorem ORel.mut   (h:ORel K H a o):∃u,H a=some u/\imm u=false:=by
 cases o with
 |lst ts=>obtain⟨vs,e,_⟩:=h; exact⟨_,e,rfl⟩
 |dK ts=>obtain⟨vs,e,_⟩:=h; exact⟨_,e,rfl⟩
 |fK ts=>obtain⟨o,vs,e,_⟩:=h; exact⟨_,e,rfl⟩
 |dT ts=>obtain⟨vs,e,_⟩:=h; exact⟨_,e,rfl⟩
 |fT ts=>obtain⟨o,vs,e,_⟩:=h; exact⟨_,e,rfl⟩
 |dP ts=>obtain⟨vs,e,_⟩:=h; exact⟨_,e,rfl⟩
 |dN ts=>obtain⟨vs,e,_⟩:=h; exact⟨_,e,rfl⟩
 |dM o ts=>obtain⟨vs,e,_⟩:=h; exact⟨_,e,rfl⟩
 |ins c dx fs=>obtain⟨vs,e,_⟩:=h; exact⟨_,e,rfl⟩
theorem HRel.hid (h:HRel K H C)   (i:imm o=true)(e:H a=some o):C a=none:=by
 cases c:C a with
 |none=>rfl
 |some u =>
  obtain⟨v,e',i'⟩:=((h a u c).mut);rw[e] at e'; cases e'; rw[i] at i'; cases i'
theorem HRel.fresh (h:HRel K H C)  (e:H a=none):C a=none:=by
 cases c:C a with
 |none=>rfl
 |some u =>
  obtain⟨v,e',i'⟩:=((h a u c).mut);rw[e] at e'; cases e'
theorem Fw.imm (f:Fw H C H' C')(h:HRel K H C):Imm H H':=fun a o i e=>by
 rw[(f a (by rw[h.hid i e]; rfl) (by lia)).2]; exact e
theorem ORel.imm   (h:ORel K H a o)(k:Imm H H')(e:H' a=H a):ORel K H' a o:=by
 cases o with
 |lst ts=>obtain⟨vs,q,r⟩:=h; exact⟨vs,e.trans q,r.imm k⟩
 |dK ts=>obtain⟨vs,q,r⟩:=h; exact⟨vs,e.trans q,Paired.mapP r fun _ _ z=>⟨z.1,z.2.imm k⟩⟩
 |fK ts=>obtain⟨o,vs,q,r⟩:=h; exact⟨o,vs,e.trans q,Paired.mapP r fun _ _ z=>⟨z.1,z.2.imm k⟩⟩
 |dT ts=>obtain⟨vs,q,r⟩:=h; exact⟨vs,e.trans q,Paired.mapP r fun _ _ z=>⟨z.1,z.2.imm k⟩⟩
 |fT ts=>obtain⟨o,vs,q,r⟩:=h; exact⟨o,vs,e.trans q,Paired.mapP r fun _ _ z=>⟨z.1,z.2.imm k⟩⟩
 |dP ts=>obtain⟨vs,q,r⟩:=h; exact⟨vs,e.trans q,Paired.mapP r fun _ _ z=>⟨z.1,z.2.imm k⟩⟩
 |dN ts=>obtain⟨vs,q,r⟩:=h; exact⟨vs,e.trans q,Paired.mapP r fun _ _ z=>⟨z.1,z.2.imm k⟩⟩
 |dM o ts=>obtain⟨vs,q,r⟩:=h; exact⟨vs,e.trans q,Paired.mapP r fun _ _ z=>⟨z.1,z.2.1.imm k,z.2.2.imm k⟩⟩
 |ins c dx fs=>obtain⟨vs,q,r⟩:=h; exact⟨vs,e.trans q,Paired.mapP r fun _ _ z=>⟨z.1,z.2.imm k⟩⟩
theorem HRel.new (h:HRel K H C)  (hp:H p=none) o:HRel K (upd H p o) C:=fun a u c =>hZ ((h a u c).mut) fun v e _=>(h a u c).imm (Imm.new hp o) (kQ (kZ e hp))
theorem Fw.new  (hp:H p=none) o:Fw H C (upd H p o) C:=fun a c n=>⟨rfl,kQ fun z=>n (z▸hp)⟩
theorem HRel.lay (h:HRel K H C)  (hp:H p=none)   (r:ORel K (upd H p o) p u):HRel K (upd H p o) (vQ C p u):=fun a v c=>by
 by_cases e:a=p
 .subst e; rw[zQ] at c; cases c; exact r
 .rw [oQ e] at c; exact h.new hp o a v c
theorem Fw.lay  (hp:H p=none) o u:Fw H C (upd H p o) (vQ C p u):=fun a c n=>by
 have e:a≠p:=fun z=>n (z▸hp);exact⟨oQ e,kQ e⟩
theorem HRel.put (h:HRel K H C)   (hp:H p=some o₀)(hi:imm o₀=false)   (r:ORel K (upd H p o) p u):HRel K (upd H p o) (vQ C p u):=fun a v c=>by
 by_cases e:a=p
 .subst e; rw[zQ] at c; cases c; exact r
 .rw [oQ e] at c; exact(h a v c).imm (Imm.mut hp hi o) (kQ e)
theorem Fw.put   (hp:C p=some u₀) o u (hs:still (some u₀)=false:=by rfl):Fw H C (upd H p o) (vQ C p u):=fun a c n=>by
 have e:a≠p:=fun z=>by subst z; rw[hp,hs] at c; cases c
 exact⟨oQ e,kQ e⟩
end
abbrev CSt:=List (Option PV)
abbrev K1:=PV->CH->Prop
def RepO (K:DY)(H:Hp):Option V->Option PV->Prop
 |_,none=>True
 |some v,some t=>Rep K H v t
 |none,some _=>False
def SRel (K:DY)(H:Hp):St->CSt->Prop:=Paired (RepO K H)
section
variable {K:DY}{H H':Hp}{C C':CH}
theorem RepO.imm   (k:Imm H H')(h:RepO K H v t):RepO K H' v t:=by
 cases t with
 |none=>cases v<;>trivial
 |some t=>cases v with
  |none=>exact h
  |some v=>exact Rep.imm k h
theorem SRel.imm   (s:SRel K H σ ρ)(k:Imm H H'):SRel K H' σ ρ:=Paired.mapP s fun _ _=>RepO.imm k
theorem SRel.get   {i:Nat}  (s:SRel K H σ ρ)(e:ρ[i]?=some (some t)):∃v,σ[i]?=some (some v)/\Rep K H v t:=by
 induction s generalizing i with
 |nil=>cases e
 |@cons a b l₁ l₂ h r ih =>
  cases i with
  |zero =>
   cases e
   cases a with
   |none=>exact h.elim
   |some v=>exact⟨v,rfl,h⟩
  |succ i=>exact ih e
theorem SRel.set     (s:SRel K H σ ρ)(h:Rep K H v t) i:SRel K H (σ.set i (some v)) (ρ.set i (some t)):=by
 induction s generalizing i with
 |nil=>exact .nil
 |cons h' r ih =>
  cases i with
  |zero=>exact .cons h r
  |succ i=>exact .cons h' (ih i)
end
def vZ {α β:Type}(K:DY)(rel:Hp->α->β->Prop)(c:CSt->CH->(β->CH->Prop)->Prop):St->Hp->(α->Hp->Prop)->Prop:=fun σ H Q =>
 ∃ρ C R,SRel K H σ ρ/\HRel K H C/\c ρ C R/\∀v H' t C',R t C'->rel H' v t->HRel K H' C'->Fw H C H' C'->Q v H'
abbrev TCE:=CSt->CH->K1->Prop
abbrev TCT:=CSt->CH->(Bool->CH->Prop)->Prop
abbrev TCA:=CSt->CH->(List PV->CH->Prop)->Prop
abbrev oY:Hp->Bool->Bool->Prop:=fun _ a b=>a=b
structure CEnds where
 nx:CSt->CH->Prop
 rt:K1
 bk:CSt->CH->Prop:=fun _ _=>False
 ct:CSt->CH->Prop:=fun _ _=>False
abbrev CEnds.wn (E:CEnds)(k:CSt->CH->Prop):CEnds:={ E with nx:=k }
abbrev CEnds.lp (E:CEnds)(k:CSt->CH->Prop):CEnds:={ nx:=k,ct:=k,bk:=E.nx,rt:=E.rt }
abbrev CEnds.go (R:K1):CEnds:={ nx:=fun _ C'=>R .non C',rt:=R }
abbrev TCS:=CEnds->CSt->CH->Prop
structure ERel (K:DY)(H:Hp)(C:CH)(E:CEnds)(D:mO):Prop where
 nx:∀σ' H' ρ' C',E.nx ρ' C'->SRel K H' σ' ρ'->HRel K H' C'->Fw H C H' C'->D.nx σ' H'
 rt:∀v H' t C',E.rt t C'->Rep K H' v t->HRel K H' C'->Fw H C H' C'->D.rt v H'
 bk:∀σ' H' ρ' C',E.bk ρ' C'->SRel K H' σ' ρ'->HRel K H' C'->Fw H C H' C'->D.bk σ' H'
 ct:∀σ' H' ρ' C',E.ct ρ' C'->SRel K H' σ' ρ'->HRel K H' C'->Fw H C H' C'->D.ct σ' H'
theorem ERel.fw {K}     (e:ERel K H C E D)(f:Fw H C H1 C1):ERel K H1 C1 E D :=
 ⟨fun σ' H' ρ' C' h s r g=>e.nx σ' H' ρ' C' h s r (f.trans g),fun v H' t C' h s r g=>e.rt v H' t C' h s r (f.trans g),fun σ' H' ρ' C' h s r g=>e.bk σ' H' ρ' C' h s r (f.trans g),fun σ' H' ρ' C' h s r g=>e.ct σ' H' ρ' C' h s r (f.trans g)⟩
def gR (K:DY)(c:TCS):TS:=fun D σ H=>∃ρ C E,SRel K H σ ρ/\HRel K H C/\c E ρ C/\ERel K H C E D
structure CE (X:Cx)(e:Expr)(c:TCE):Prop where
 h:JE X e (vZ X.K (Rep X.K) c)
structure CT (X:Cx)(e:Expr)(c:TCT):Prop where
 h:JT X e (vZ X.K oY c)
structure CW (X:Cx)(e:Expr)(c:TCT):Prop where
 h:JW X e (vZ X.K oY c)
structure CA (X:Cx)(es:List Expr)(c:TCA):Prop where
 h:JA X es (vZ X.K (Reps X.K) c)
structure CS (X:Cx)(st:Stmt)(c:TCS):Prop where
 h:JS X st (gR X.K c)
structure CB (X:Cx)(st:List Stmt)(c:TCS):Prop where
 h:JB X st (gR X.K c)
section
variable {X:Cx}{a b c e o i:Expr}{es:List Expr}{pos:Pos}{lQ:List Expr}{st:Stmt}{sts:List Stmt}
theorem JE.weak  (h:JE X e t)(w:∀σ H Q,t' σ H Q->t σ H Q):JE X e t':=⟨fun pins s σ H Q I q=>h.h pins s σ H Q I (w σ H Q q)⟩
theorem JT.weak  (h:JT X e t)(w:∀σ H Q,t' σ H Q->t σ H Q):JT X e t':=⟨fun pins s σ H Q I q=>h.h pins s σ H Q I (w σ H Q q)⟩
theorem JW.weak  (h:JW X e t)(w:∀σ H Q,t' σ H Q->t σ H Q):JW X e t':=⟨fun wh pins s σ H Q I q=>h.h wh pins s σ H Q I (w σ H Q q)⟩
theorem JA.weak  (h:JA X es t)(w:∀σ H Q,t' σ H Q->t σ H Q):JA X es t':=⟨fun p pins s σ H Q I q=>h.h p pins s σ H Q I (w σ H Q q)⟩
theorem JS.weak  (h:JS X st t)(w:∀D σ H,t' D σ H->t D σ H):JS X st t':=⟨fun pins s σ H D I q=>h.h pins s σ H D I (w D σ H q)⟩
theorem JB.weak  (h:JB X sts t)(w:∀D σ H,t' D σ H->t D σ H):JB X sts t':=⟨fun pins s σ H D I q=>h.h pins s σ H D I (w D σ H q)⟩
def bJ (i:Nat):TCE:=fun ρ C Q=>match ρ[i]? with
 |some (some t)=>Q t C
 |_=>False
def cC (t:PV):TCE:=fun _ C Q=>Q t C
theorem cv i   (hN:X.N[i]?=some x:=by rfl)(hv:Vis X.env.scope x:=by first | exact Or.inl rfl | exact Or.inr (Or.inl rfl) | exact Or.inr (Or.inr rfl))(hd:(x==("__debug__" : Str))=false:=by decide)
  (hcd:(x==("__classdict__" : Str))=false:=by decide):CE X (.Name x pos) (bJ i):=⟨JE.weak ⟨tE hN hv hd hcd⟩ fun σ H Q zz=>qX zz fun ρ C R s h q f=> by
 delta bJ at q
 split at q
 .next t e =>
  exact hZ (s.get e) fun v ev r=>⟨v,ev,f v H t C q r h Fw.refl⟩
 .exact q.elim⟩
theorem Qh   (h:JE X e (tC v))(r:∀H,Rep X.K H v t):CE X e (cC t):=⟨JE.weak h fun σ H Q zz=>qX zz fun ρ C R s h q f=> f v H t C q (r H) h Fw.refl⟩
theorem jQ {i j pos}:CE X (.Constant (.int i) j pos) (cC (.int i)):=Qh ⟨pe_int⟩ fun _=>.int i
theorem rZ {b j pos}:CE X (.Constant (.bool b) j pos) (cC (.bl b)):=Qh ⟨pe_bl⟩ fun _=>.bl b
theorem yK {j pos}:CE X (.Constant .none j pos) (cC .non):=Qh ⟨pe_non⟩ fun _=>.non
theorem fQ {x j pos}:CE X (.Constant (.str x) j pos) (cC (.str x)):=Qh ⟨pe_str⟩ fun _=>.str x
theorem tX   (hg:Gl X x)(hm:X.mg x=none)(hv:bootBuiltins x=some (.type n))(hn:x ≠ "__name__":=by decide)(hd:(x==("__debug__" : Str))=false:=by decide):CE X (.Name x pos) (cC (.ty n)):=Qh (je_bltn (v:=.ty n) hg hm hv rfl hn hd) fun _=>.ty n
abbrev R2C:=PV->PV->CH->K1->Prop
def Cop (K:DY)(r:R2)(cr:R2C):Prop:=∀x y px py H C Q R,Rep K H x px->Rep K H y py->HRel K H C->cr px py C R->(∀v H' t C',R t C'->Rep K H' v t->HRel K H' C'->Fw H C H' C'->Q v H')->r x y H Q
def cOp (cr:R2C)(ca cb:TCE):TCE:=fun ρ C Q=>ca ρ C fun x C1=>cb ρ C1 fun y C2=>cr x y C2 Q
theorem xG {K}    (hr:Cop K r cr)   {Q:VK}(h:vZ K (Rep K) (cOp cr ca cb) σ H Q):tOp r (vZ K (Rep K) ca) (vZ K (Rep K) cb) σ H Q :=qX h fun ρ C R s h q f=>⟨ρ,C,_,s,h,q,fun x H1 px C1 q1 rx h1 f1=>⟨ρ,C1,_,s.imm (f1.imm h),h1,q1,fun y H2 py C2 q2 ry h2 f2 =>
  hr x y px py H2 C2 Q R (rx.imm (f2.imm h1)) ry h2 q2 fun v H' t C' q' r' h' f'=>f v H' t C' q' r' h' (f1.trans (f2.trans f'))⟩⟩
theorem zX     (ho:OpR X (binaryOp op) r)(hr:Cop X.K r cr)(ha:CE X a ca)(hb:CE X b cb):CE X (.BinOp a op b pos) (cOp cr ca cb):=⟨JE.weak ⟨pe_op ho ha.h.h hb.h.h⟩ fun _ _ _ h=>xG hr h⟩
theorem qB     (ho:OpR X (compareOp op) r)(hr:Cop X.K r cr)(ha:CE X a ca)(hb:CE X b cb)(hm:behindInMarks op b=false):CE X (.Compare a [op] [b] pos) (cOp cr ca cb):=⟨JE.weak ⟨pe_cmpR ho ha.h.h hb.h.h hm⟩ fun _ _ _ h=>xG hr h⟩
def bB (k:Bool->CH->Prop):PV->CH->Prop
 |.bl b,C=>k b C
 |_,_=>False
def kS (c:TCE):TCT:=fun ρ C Q=>c ρ C (bB Q)
theorem wH {K}      (q:bB Q t C)(r:Rep K H v t):∃b,t=.bl b/\v=.bl b/\Q b C:=by
 cases t with
 |bl b=>cases r; exact⟨b,rfl,rfl,q⟩
 |_=>exact q.elim
theorem uT {K}{c}    (h:vZ K oY (kS c) σ H Q):tTest (vZ K (Rep K) c) σ H Q :=qX h fun ρ C R s h q f=>⟨ρ,C,_,s,h,q,fun x H1 px C1 q1 rx h1 f1=>by
  obtain⟨b,rfl,rfl,q2⟩:=wH q1 rx
  exact⟨b,rfl,f b H1 b C1 q2 rfl h1 f1⟩⟩
theorem oD     (ho:OpR X (compareOp op) r)(hr:Cop X.K r cr)(ha:CE X a ca)(hb:CE X b cb)(hm:behindInMarks op b=false):CT X (.Compare a [op] [b] pos) (kS (cOp cr ca cb)) :=
 ⟨JT.weak ⟨pt_cmpR ho ha.h.h hb.h.h hm⟩ fun σ H Q h=>by
  refine qX h fun ρ C R s h q f=>xG hr ⟨ρ,C,_,s,h,q,fun x H1 px C1 q1 rx h1 f1=>?_⟩;obtain⟨b,rfl,rfl,q2⟩:=wH q1 rx
  exact⟨b,rfl,f b H1 b C1 q2 rfl h1 f1⟩⟩
theorem bX {c}(h:CE X e c)(he:vY e=true:=by rfl):CT X e (kS c):=⟨JT.weak ⟨pt_val h.h.h (xU he)⟩ fun _ _ _ h=>uT h⟩
def cUn (cr:PV->CH->K1->Prop)(ca:TCE):TCE:=fun ρ C Q=>ca ρ C fun x C1=>cr x C1 Q
def Cun (K:DY)(r:V->Hp->VK->Prop)(cr:PV->CH->K1->Prop):Prop:=∀x px H C Q R,Rep K H x px->HRel K H C->cr px C R->(∀v H' t C',R t C'->Rep K H' v t->HRel K H' C'->Fw H C H' C'->Q v H')->r x H Q
theorem qS     (ho:UnR X (unaryOp op) r)(hr:Cun X.K r cr)(ha:CE X a ca):CE X (.UnaryOp op a pos) (cUn cr ca):=⟨JE.weak ⟨pe_un ho ha.h.h⟩ fun σ H Q zz=>qX zz fun ρ C R s h q f=>
 ⟨ρ,C,_,s,h,q,fun x H1 px C1 q1 rx h1 f1=>hr x px H1 C1 Q R rx h1 q1 fun v H' t C' q' r' h' f'=>f v H' t C' q' r' h' (f1.trans f')⟩⟩
def cAnd (t u:TCT):TCT:=fun ρ C Q=>t ρ C fun b C1=>if b=true then u ρ C1 Q else Q false C1
def cOr (t u:TCT):TCT:=fun ρ C Q=>t ρ C fun b C1=>if b=true then Q true C1 else u ρ C1 Q
def cNot (t:TCT):TCT:=fun ρ C Q=>t ρ C fun b C1=>Q (!b) C1
theorem cw_pt  (h:CW X e t):CT X e t:=⟨⟨h.h.h.pt⟩⟩
theorem cw_and1  (h:CT X a t):CW X (.BoolOp .And [a] pos) t:=⟨⟨pw_and1 h.h.h⟩⟩
theorem cw_or1  (h:CT X a t):CW X (.BoolOp .Or [a] pos) t:=⟨⟨pw_or1 h.h.h⟩⟩
theorem cw_and  (ha:CT X a t)(hb:CW X (.BoolOp .And (b::lQ) pos) u):CW X (.BoolOp .And (a::b::lQ) pos) (cAnd t u):=⟨JW.weak ⟨pw_and ha.h.h hb.h.h⟩ fun σ H Q zz=>qX zz fun ρ C R s h q f=>
 ⟨ρ,C,_,s,h,q,fun x H1 y C1 q1 e h1 f1=>by
  cases e
  cases x with
  |true=>exact⟨ρ,C1,R,s.imm (f1.imm h),h1,q1,fun v H' t C' q' r' h' f'=>f v H' t C' q' r' h' (f1.trans f')⟩
  |false=>exact f false H1 false C1 q1 rfl h1 f1⟩⟩
theorem cw_or  (ha:CT X a t)(hb:CW X (.BoolOp .Or (b::lQ) pos) u):CW X (.BoolOp .Or (a::b::lQ) pos) (cOr t u):=⟨JW.weak ⟨pw_or ha.h.h hb.h.h⟩ fun σ H Q zz=>qX zz fun ρ C R s h q f=>
 ⟨ρ,C,_,s,h,q,fun x H1 y C1 q1 e h1 f1=>by
  cases e
  cases x with
  |true=>exact f true H1 true C1 q1 rfl h1 f1
  |false=>exact⟨ρ,C1,R,s.imm (f1.imm h),h1,q1,fun v H' t C' q' r' h' f'=>f v H' t C' q' r' h' (f1.trans f')⟩⟩⟩
theorem hV  (ha:CT X a t):CT X (.UnaryOp .Not a pos) (cNot t):=⟨JT.weak ⟨pt_not ha.h.h⟩ fun σ H Q zz=>qX zz fun ρ C R s h q f=>
 ⟨ρ,C,_,s,h,q,fun x H1 y C1 q1 e h1 f1=>by cases e; exact f _ H1 _ C1 q1 rfl h1 f1⟩⟩
def cAndV (ca cb:TCE):TCE:=fun ρ C Q=>ca ρ C (bB fun b C1=>if b=true then cb ρ C1 Q else Q (.bl false) C1)
def cOrV (ca cb:TCE):TCE:=fun ρ C Q=>ca ρ C (bB fun b C1=>if b=true then Q (.bl true) C1 else cb ρ C1 Q)
def cNotV (ca:TCE):TCE:=fun ρ C Q=>ca ρ C (bB fun b C1=>Q (.bl (!b)) C1)
theorem Qg {op}{c}(h:CE X a c):CE X (.BoolOp op [a] pos) c:=⟨⟨pe_one h.h.h⟩⟩
theorem Qj  (ha:CE X a ca)(hb:CE X (.BoolOp .And (b::lQ) pos) cb):CE X (.BoolOp .And (a::b::lQ) pos) (cAndV ca cb):=⟨JE.weak ⟨pe_and ha.h.h hb.h.h⟩ fun σ H Q zz=>qX zz fun ρ C R s h q f=>
 ⟨ρ,C,_,s,h,q,fun x H1 px C1 q1 rx h1 f1=>by
  obtain⟨b,rfl,rfl,q2⟩:=wH q1 rx;refine⟨b,rfl,?_⟩
  cases b with
  |true=>exact⟨ρ,C1,R,s.imm (f1.imm h),h1,q2,fun v H' t C' q' r' h' f'=>f v H' t C' q' r' h' (f1.trans f')⟩
  |false=>exact f _ H1 _ C1 q2 (.bl false) h1 f1⟩⟩
theorem ce_or {ca cb:TCE}(ha:CE X a ca)(hb:CE X (.BoolOp .Or (b::lQ) pos) cb):CE X (.BoolOp .Or (a::b::lQ) pos) (cOrV ca cb):=⟨JE.weak ⟨pe_or ha.h.h hb.h.h⟩ fun σ H Q zz=>qX zz fun ρ C R s h q f=>
 ⟨ρ,C,_,s,h,q,fun x H1 px C1 q1 rx h1 f1=>by
  obtain⟨b,rfl,rfl,q2⟩:=wH q1 rx;refine⟨b,rfl,?_⟩
  cases b with
  |true=>exact f _ H1 _ C1 q2 (.bl true) h1 f1
  |false=>exact⟨ρ,C1,R,s.imm (f1.imm h),h1,q2,fun v H' t C' q' r' h' f'=>f v H' t C' q' r' h' (f1.trans f')⟩⟩⟩
theorem ce_not {ca:TCE}(ha:CE X a ca):CE X (.UnaryOp .Not a pos) (cNotV ca):=⟨JE.weak ⟨pe_not ha.h.h⟩ fun σ H Q zz=>qX zz fun ρ C R s h q f=>
 ⟨ρ,C,_,s,h,q,fun x H1 px C1 q1 rx h1 f1=>by
  obtain⟨b,rfl,rfl,q2⟩:=wH q1 rx
  exact⟨b,rfl,f _ H1 _ C1 q2 (.bl _) h1 f1⟩⟩⟩
def cIf (t:TCT)(ca cb:TCE):TCE:=fun ρ C Q=>t ρ C fun b C1=>if b=true then ca ρ C1 Q else cb ρ C1 Q
theorem zS   (hc:CT X c t)(ha:CE X a ca)(hb:CE X b cb):CE X (.IfExp c a b pos) (cIf t ca cb):=⟨JE.weak ⟨eE hc.h.h ha.h.h hb.h.h⟩ fun σ H Q zz=>qX zz fun ρ C R s h q f=>
 ⟨ρ,C,_,s,h,q,fun x H1 y C1 q1 e h1 f1=>by
  cases e
  cases x with
  |true=>exact⟨ρ,C1,R,s.imm (f1.imm h),h1,q1,fun v H' t C' q' r' h' f'=>f v H' t C' q' r' h' (f1.trans f')⟩
  |false=>exact⟨ρ,C1,R,s.imm (f1.imm h),h1,q1,fun v H' t C' q' r' h' f'=>f v H' t C' q' r' h' (f1.trans f')⟩⟩⟩
def kH:TCA:=fun _ C Q=>Q [] C
def sY (ca:TCE)(cr:TCA):TCA:=fun ρ C Q=>ca ρ C fun x C1=>cr ρ C1 fun xs C2=>Q (x::xs) C2
theorem nV:CA X [] kH:=⟨JA.weak ⟨sF⟩ fun σ H Q zz=>qX zz fun ρ C R s h q f=> f [] H [] C q .nil h Fw.refl⟩
theorem qQ   (ha:CE X e ca)(hr:CA X es cr)(hs:nQ e=true:=by rfl):CA X (e::es) (sY ca cr):=⟨JA.weak (vG ha.h hr.h hs) fun σ H Q zz=>qX zz fun ρ C R s h q f=>
 ⟨ρ,C,_,s,h,q,fun x H1 px C1 q1 rx h1 f1=>⟨ρ,C1,_,s.imm (f1.imm h),h1,q1,fun xs H2 ps C2 q2 rs h2 f2=>f (x::xs) H2 (px::ps) C2 q2 (.cons (rx.imm (f2.imm h1)) rs) h2 (f1.trans f2)⟩⟩⟩
def cTup (ca:TCA):TCE:=fun ρ C Q=>ca ρ C fun xs C1=>xs.length<=sizeLine/\Q (.tup xs) C1
def cLst (ca:TCA):TCE:=fun ρ C Q=>ca ρ C fun xs C1=>xs.length<=sizeLine/\∀p,C1 p=none->Q (.ref p) (vQ C1 p (.lst xs))
theorem fX {x1}  (h:CA X es ca):CE X (.Tuple es x1 pos) (cTup ca):=⟨JE.weak ⟨pe_tup h.h.h⟩ fun σ H Q zz=>qX zz fun ρ C R s h q f=>
 ⟨ρ,C,_,s,h,q,fun xs H1 ps C1 q1 rs h1 f1=>⟨by rw[rs.len]; exact q1.1,fun p hp=>f (.ref p) _ (.tup ps) C1 q1.2 (.tup uQ (rs.imm (Imm.new hp _))) (h1.new hp _) (f1.trans (Fw.new hp _))⟩⟩⟩
theorem zZ  (h:CA X es ca):CE X (.List es pos) (cLst ca):=⟨JE.weak ⟨pe_lst h.h.h⟩ fun σ H Q zz=>qX zz fun ρ C R s h q f=>
 ⟨ρ,C,_,s,h,q,fun xs H1 ps C1 q1 rs h1 f1=>⟨by rw[rs.len]; exact q1.1,fun p hp=>f (.ref p) _ (.ref p) _ (q1.2 p (h1.fresh hp)) (.ref p) (h1.lay hp ⟨xs,uQ,rs.imm (Imm.new hp _)⟩) (f1.trans (Fw.lay hp _ _))⟩⟩⟩
abbrev GC:=List PV->CH->K1->Prop
def spC (K:DY)(G:GC):Sp:=fun vs H Q _=>∃ts C R,Reps K H vs ts/\HRel K H C/\G ts C R/\∀v H' t C',R t C'->Rep K H' v t->HRel K H' C'->Fw H C H' C'->Q v H'
def iW (G:GC)(ca:TCA):TCE:=fun ρ C Q=>ca ρ C fun xs C1=>G xs C1 Q
theorem ce_call         {p}  (F:FnOk X.prog X.w X.K X.mg X.base CX k f fd ps (spC X.K G))(hr:Room k X.A)(hg:Gl X x)(hm:X.mg x=some (.ref f))(hk:PySem.W.keepIn X.K (.ref f)=true)(hb:Binds X.K fd ps [])(hx:cY CX X E)
  (ha:CA X (e::es) ca) (hdb:(x==("__debug__" : Str))=false:=by decide) (hs:nQ e=true:=by rfl) (hall:es.all nQ=true:=by rfl):CE X (.Call (.Name x p) (e::es) [] pos) (iW G ca) :=
 ⟨JE.weak (je_call F hr hg hm hk hb .nil hx ha.h hdb hs hall) fun σ H Q zz=>qX zz fun ρ C R s h q f=>
  ⟨ρ,C,_,s,h,q,fun xs H1 ts C1 q1 rs h1 f1=>⟨ts,C1,R,by rw[Cn]; exact rs,h1,q1,fun v H' t C' q' r' h' f'=>f v H' t C' q' r' h' (f1.trans f')⟩⟩⟩
def Cbi (K:DY)(r:List V->Hp->VK->Prop)(cr:GC):Prop:=∀xs ps H C Q R,Reps K H xs ps->HRel K H C->cr ps C R->(∀v H' t C',R t C'->Rep K H' v t->HRel K H' C'->Fw H C H' C'->Q v H')->r xs H Q
theorem pQ {id}    {p}  (hc:CallR X (.builtin id) r)(hr:Cbi X.K r cr)(hg:Gl X x)(hm:X.mg x=none)(hv:bootBuiltins x=some (.builtin id))(ha:CA X (e::es) ca)(hn:x ≠ "__name__":=by decide)(hdb:(x==("__debug__" : Str))=false:=by decide)
  (hs:nQ e=true:=by rfl) (hall:es.all nQ=true:=by rfl):CE X (.Call (.Name x p) (e::es) [] pos) (iW cr ca):=⟨JE.weak ⟨mE hc hg hm hv ha.h.h hn hdb hs hall⟩ fun σ H Q zz=>qX zz fun ρ C R s h q f=>
  ⟨ρ,C,_,s,h,q,fun xs H1 ts C1 q1 rs h1 f1=>hr xs ts H1 C1 Q R rs h1 q1 fun v H' t C' q' r' h' f'=>f v H' t C' q' r' h' (f1.trans f')⟩⟩
theorem kJ     {p}  (hc:CallR X (.type T) r)(hr:Cbi X.K r cr)(hg:Gl X x)(hm:X.mg x=none)(hv:bootBuiltins x=some (.type T))(ha:CA X (e::es) ca)(hn:x ≠ "__name__":=by decide)(hdb:(x==("__debug__" : Str))=false:=by decide)
  (hs:nQ e=true:=by rfl) (hall:es.all nQ=true:=by rfl):CE X (.Call (.Name x p) (e::es) [] pos) (iW cr ca):=⟨JE.weak (uY hc hg hm hv ha.h hn hdb hs hall) fun σ H Q zz=>qX zz fun ρ C R s h q f=>
  ⟨ρ,C,_,s,h,q,fun xs H1 ts C1 q1 rs h1 f1=>hr xs ts H1 C1 Q R rs h1 q1 fun v H' t C' q' r' h' f'=>f v H' t C' q' r' h' (f1.trans f')⟩⟩
theorem ce_ix    (ho:IxR X r)(hr:Cop X.K r cr)(ha:CE X a ca)(hb:CE X b cb)(hs:cG b):CE X (.Subscript a b pos) (cOp cr ca cb):=⟨JE.weak ⟨pe_ix ho ha.h.h hb.h.h hs⟩ fun _ _ _ h=>xG hr h⟩
end
section
variable {X:Cx}{a b c e o i:Expr}{es:List Expr}{pos:Pos}{lQ:List Expr}{st:Stmt}{sts:List Stmt}
def cNext:TCS:=fun E ρ C=>E.nx ρ C
def cSeq (t u:TCS):TCS:=fun E ρ C=>t (E.wn (u E)) ρ C
theorem dQ:CB X [] cNext:=⟨JB.weak ⟨pss_nil⟩ fun D σ H zz=>qX zz fun ρ C E s h q f=> f.nx σ H ρ C q s h Fw.refl⟩
theorem wQ  (h:CS X st t):CB X [st] t:=⟨⟨pss_one h.h.h⟩⟩
theorem xQ  (h1:CS X st t)(h2:CB X sts u):CB X (st::sts) (cSeq t u):=⟨JB.weak ⟨dE h1.h.h h2.h.h⟩ fun D σ H zz=>qX zz fun ρ C E s h q f=>
 ⟨ρ,C,_,s,h,q,⟨fun σ' H' ρ' C' n s' h' f'=>⟨ρ',C',E,s',h',n,f.fw f'⟩,f.rt,f.bk,f.ct⟩⟩⟩
def cDrop (ce:TCE):TCS:=fun E ρ C=>ce ρ C fun _ C1=>E.nx ρ C1
theorem nW  (he:CE X e ce)(hs:swapsWith e none pos.line X.env=pure false:=by rfl):CS X (.Expr e pos) (cDrop ce):=⟨JS.weak ⟨ps_expr he.h.h hs⟩ fun D σ H zz=>qX zz fun ρ C E s h q f=>
 ⟨ρ,C,_,s,h,q,fun x H1 px C1 q1 rx h1 f1=>f.nx σ H1 ρ C1 q1 (s.imm (f1.imm h)) h1 f1⟩⟩
def cRet (ce:TCE):TCS:=fun E ρ C=>ce ρ C E.rt
theorem bQ  (he:CE X e ce):CS X (.Return (some e) pos) (cRet ce):=⟨JS.weak ⟨ps_ret he.h.h⟩ fun D σ H zz=>qX zz fun ρ C E s h q f=>
 ⟨ρ,C,_,s,h,q,fun x H1 px C1 q1 rx h1 f1=>f.rt x H1 px C1 q1 rx h1 f1⟩⟩
def cIfS (t:TCT)(u v:TCS):TCS:=fun E ρ C=>t ρ C fun b C1=>if b=true then u E ρ C1 else v E ρ C1
theorem aQ    (hc:CT X c t)(ha:CB X x u)(hb:CB X y v):CS X (.If c x y pos) (cIfS t u v):=⟨JS.weak ⟨ps_if hc.h.h ha.h.h hb.h.h⟩ fun D σ H zz=>qX zz fun ρ C E s h q f=>
 ⟨ρ,C,_,s,h,q,fun x H1 y C1 q1 e h1 f1=>by
  cases e
  cases x with
  |true=>exact⟨ρ,C1,E,s.imm (f1.imm h),h1,q1,f.fw f1⟩
  |false=>exact⟨ρ,C1,E,s.imm (f1.imm h),h1,q1,f.fw f1⟩⟩⟩
def Qo (i:Nat)(ce:TCE):TCS:=fun E ρ C=>ce ρ C fun t C1=>E.nx (ρ.set i (some t)) C1
theorem cs_set {i}    (hN:X.N.Nodup)(hi:X.N[i]?=some x)(hx:Loc X.env.scope x)(he:CE X e ce)(hs:swapsWith e (some (.Name x pos')) pos.line X.env=pure false:=by rfl)(hf:X.fn x=true\/X.env.scope.names.lookup x=some .local:=by first | exact .inl rfl | exact .inr rfl | assumption):
  CS X (.Assign [.Name x pos'] e pos) (Qo i ce):=⟨JS.weak ⟨ps_set hN hi hx he.h.h hs hf⟩ fun D σ H zz=>qX zz fun ρ C E s h q f=>
 ⟨ρ,C,_,s,h,q,fun x H1 px C1 q1 rx h1 f1=>f.nx _ H1 _ C1 q1 ((s.imm (f1.imm h)).set rx i) h1 f1⟩⟩
abbrev TCG:=PV->CSt->CH->(CSt->CH->Prop)->Prop
def mN (K:DY)(c:TCG):TG:=fun v σ H Q=>∃t ρ C R,Rep K H v t/\SRel K H σ ρ/\HRel K H C/\c t ρ C R/\∀σ' H' ρ' C',R ρ' C'->SRel K H' σ' ρ'->HRel K H' C'->Fw H C H' C'->Q σ' H'
structure CG (X:Cx)(e:Expr)(c:TCG):Prop where
 h:JG X e (mN X.K c)
theorem JG.weak  (h:JG X e t)(w:∀v σ H Q,t' v σ H Q->t v σ H Q):JG X e t':=⟨fun pins s σ H v u Q I r q=>h.h pins s σ H v u Q I r (w v σ H Q q)⟩
def dName (i:Nat):TCG:=fun t ρ C Q=>Q (ρ.set i (some t)) C
theorem cg_name {i}  (hN:X.N.Nodup)(hi:X.N[i]?=some x)(hx:Loc X.env.scope x)(hf:X.fn x=true\/X.env.scope.names.lookup x=some .local:=by first | exact .inl rfl | exact .inr rfl | assumption):CG X (.Name x pos) (dName i) :=
 ⟨JG.weak ⟨cF hN hi hx hf⟩ fun v σ H Q zz=>el45 zz fun t ρ C R r s h q f=> f _ H _ C q (s.set r i) h Fw.refl⟩
def cAsg (ce:TCE)(g:TCG):TCS:=fun E ρ C=>ce ρ C fun t C1=>g t ρ C1 E.nx
theorem tU    (he:CE X e ce)(hg:CG X tg g)(hs:swapsWithSole [tg] e pos.line X.env=pure false:=by rfl)(hw:swappedStores [tg] e X.env=pure none:=by rfl)
  (h1:(assignEach [tg] X.env).map (·.2)=[assign tg X.env]:=by rfl):CS X (.Assign [tg] e pos) (cAsg ce g):=⟨JS.weak ⟨ps_asg he.h.h hg.h.h hs hw h1⟩ fun D σ H zz=>qX zz fun ρ C E s h q f=>
 ⟨ρ,C,_,s,h,q,fun x H1 px C1 q1 rx h1 f1=>⟨px,ρ,C1,E.nx,rx,s.imm (f1.imm h),h1,q1,fun σ' H' ρ' C' q' s' h' f'=>f.nx σ' H' ρ' C' q' s' h' (f1.trans f')⟩⟩⟩
@[irreducible] def yS:PV->PV->PV->CH->(CH->Prop)->Prop:=fun o i v C Q=>match o,i with
 |.ref p,.int k=>match C p with
  |some (.lst xs)=>match ixN xs.length k with
   |some j=>Q (vQ C p (.lst (xs.set j v)))
   |none=>False
  |_=>False
 |_,_=>False
def dSub (co ci:TCE)(u:PV->PV->PV->CH->(CH->Prop)->Prop):TCG:=fun t ρ C Q=>co ρ C fun o C1=>ci ρ C1 fun i C2=>u o i t C2 fun C3=>Q ρ C3
theorem sW {co ci:TCE}(ho:CE X o co)(hi:CE X i ci)
  (ha:∀v,assign (.Subscript o i pos) X.env v=(do
   let ov <- holding [v] (eval o X.env)
   let iv <- holding [v,ov] (eval i X.env)
   standAt pos
   holding [v,ov,iv] (setItem ov iv v)
   release [v,ov,iv] []):=by intro _; rfl):CG X (.Subscript o i pos) (dSub co ci yS):=⟨JG.weak ⟨pg_sub ho.h.h hi.h.h vE ha⟩ fun v σ H Q zz=>el45 zz fun t ρ C R r s h q f=>
 ⟨ρ,C,_,s,h,q,fun x H1 px C1 q1 rx h1 f1=>⟨ρ,C1,_,s.imm (f1.imm h),h1,q1,fun y H2 py C2 q2 ry h2 f2=>by
  have r2:=r.imm ((f1.trans f2).imm h);have s2:=s.imm ((f1.trans f2).imm h);unfold yS at q2
  split at q2
  .next p k =>
   split at q2
   .next xs e =>
    split at q2
    .next j ej =>
     obtain⟨vs,ev,rv⟩:=h2 p _ e;have rx2:=rx.imm (f2.imm h1);cases rx2;cases ry;refine⟨p,vs,k,j,rfl,rfl,ev,by rw[rv.len]; exact ej,?_⟩;exact f σ _ ρ _ q2 (s2.imm (Imm.mut ev rfl _)) (h2.put ev rfl ⟨_,uQ,(rv.set r2 j).imm (Imm.mut ev rfl _)⟩) (f1.trans (f2.trans (Fw.put e _ _)))
    .exact q2.elim
   .exact q2.elim
  .exact q2.elim⟩⟩⟩
def wO (t:TCT)(u:TCS)(E:CEnds):Nat->CSt->CH->Prop
 |0,_,_=>False
 |n+1,ρ,C=>t ρ C fun b C1=>if b=true then u (E.lp (wO t u E n)) ρ C1 else E.nx ρ C1
def cWhile (t:TCT)(u:TCS):TCS:=fun E ρ C=>∃n,wO t u E n ρ C
theorem tI    (hp:PassesOwn (model X.prog X.w) X.A X.env X.xe)(hc:CT X c t)(hb:CB X body u):CS X (.While c body [] pos) (cWhile t u):=⟨JS.weak ⟨cE hp hc.h.h hb.h.h⟩ fun D σ H ⟨ρ,C,E,s,h,⟨n,q⟩,f⟩=>by
 refine⟨fun m σ' H'=>∃ρ' C',SRel X.K H' σ' ρ'/\HRel X.K H' C'/\Fw H C H' C'/\wO t u E m ρ' C',⟨n,ρ,C,s,h,Fw.refl,q⟩,?_⟩;rintro m σ1 H1 ⟨ρ1,C1,s1,h1,f1,q1⟩
 cases m with
 |zero=>exact q1.elim
 |succ m =>
  refine⟨ρ1,C1,_,s1,h1,q1,fun b H2 b' C2 q2 e h2 f2=>?_⟩;cases e
  cases b with
  |true =>
   exact(A4 rfl)▸⟨fun σ' H'=>∃ρ' C',SRel X.K H' σ' ρ'/\HRel X.K H' C'/\Fw H C H' C'/\wO t u E m ρ' C',fun σ' H' z=>⟨m,CC m,z⟩,
    ρ1,C2,_,s1.imm (f2.imm h1),h2,q2,⟨fun σ' H' ρ' C' q' s' h' f'=>⟨ρ',C',s',h',f1.trans (f2.trans f'),q'⟩,fun v H' t C' q' r' h' f'=>f.rt v H' t C' q' r' h' (f1.trans (f2.trans f')),
     fun σ' H' ρ' C' q' s' h' f'=>f.nx σ' H' ρ' C' q' s' h' (f1.trans (f2.trans f')),fun σ' H' ρ' C' q' s' h' f'=>⟨ρ',C',s',h',f1.trans (f2.trans f'),q'⟩⟩⟩
  |false =>
   exact(Av AJ)▸f.nx σ1 H2 ρ1 C2 q2 (s1.imm (f2.imm h1)) h2 (f1.trans f2)⟩
def pK (g:TCG)(u:TCS)(E:CEnds):List PV->CSt->CH->Prop
 |[],ρ,C=>E.nx ρ C
 |x::r,ρ,C=>g x ρ C fun ρ1 C1=>u (E.lp (pK g u E r)) ρ1 C1
structure gO (K:DY)(H:Hp)(J:It)(ps:List PV):Prop where
 go:∀i H',i < ps.length->Imm H H'->J.go i H'
 yl:∀i H' x H'',Imm H H'->J.yld i H' x H''->H''=H'/\∀t,ps[i]?=some t->Rep K H' x t
 st:∀H',Imm H H'->J.stop ps.length H'
theorem qG {K}           (j:gO K H J ps)(s:SRel K H σ ρ)(h:HRel K H C)(q:pK g u E ps ρ C)(f:ERel K H C E D):
  ∃W:Nat->Nat->St->Hp->Prop,(∃m,W 0 m σ H)/\∀i m σ H,W i m σ H ->
   (J.stop i H/\D.nx σ H)\/(J.go i H/\∃N,(∀σ' H',N σ' H'->∃m',m' < m/\W (i+1) m' σ' H')/\∀x H',J.yld i H x H'->mN K g x σ H' fun σ2 H2=>gR K u { D with nx:=N,ct:=N,bk:=D.nx } σ2 H2):=by
 refine⟨fun i m σ' H'=>m=ps.length - i/\i<=ps.length/\∃ρ' C',SRel K H' σ' ρ'/\HRel K H' C'/\Fw H C H' C'/\pK g u E (ps.drop i) ρ' C',⟨ps.length,rfl,A0 _,ρ,C,s,h,Fw.refl,q⟩,?_⟩;rintro i m σ1 H1 ⟨rfl,hi,ρ1,C1,s1,h1,f1,q1⟩;have k1:=f1.imm h
 by_cases hlt:i < ps.length
 .refine .inr ⟨j.go i H1 hlt k1,fun σ' H'=>∃ρ' C',SRel K H' σ' ρ'/\HRel K H' C'/\Fw H C H' C'/\pK g u E (ps.drop (i+1)) ρ' C',fun σ' H' z=>⟨ps.length - (i+1),by omega,rfl,hlt,z⟩,fun x H2 y=>?_⟩
  obtain⟨rfl,y⟩:=j.yl i H1 x H2 k1 y;rw[A2 hlt] at q1
  exact⟨ps[i],ρ1,C1,_,y _ (AH hlt),s1,h1,q1,fun σ' H' ρ' C' q' s' h' f'=>⟨ρ',C',_,s',h',q',⟨fun σ3 H3 ρ3 C3 q3 s3 h3 f3=>⟨ρ3,C3,s3,h3,f1.trans (f'.trans f3),q3⟩,fun v H3 t C3 q3 r3 h3 f3=>f.rt v H3 t C3 q3 r3 h3 (f1.trans (f'.trans f3)),
   fun σ3 H3 ρ3 C3 q3 s3 h3 f3=>f.nx σ3 H3 ρ3 C3 q3 s3 h3 (f1.trans (f'.trans f3)),fun σ3 H3 ρ3 C3 q3 s3 h3 f3=>⟨ρ3,C3,s3,h3,f1.trans (f'.trans f3),q3⟩⟩⟩⟩
 .have e:i=ps.length:=by lia
  subst e;rw[DE] at q1;exact .inl ⟨j.st H1 k1,f.nx σ1 H1 ρ1 C1 q1 s1 h1 f1⟩
theorem lN {K}  {a}   (h:SqT K H a vs)(r:Reps K H vs ts):gO K H (Itt K a) ts where
 go:=fun i H' l k=>⟨vs,vs[i]'(by rwa [r.len]),SqT.imm h k,AH _⟩
 yl:=fun i H' x H'' k y=>⟨y.1,fun t e=>by
  obtain⟨v,ev,rv⟩:=((r.imm k).get e);have:=y.2 vs (SqT.imm h k)
  rw[ev] at this; cases this; exact rv⟩
 st:=fun H' k=>⟨vs,SqT.imm h k,by exact r.len▸AG _⟩
theorem it_fz {K}  {a}   (h:Fz K H a vs)(r:Reps K H vs ts):gO K H (Itl K a) ts where
 go:=fun i H' l k=>⟨vs,vs[i]'(by rwa [r.len]),(h.imm k).sq,AH _⟩
 yl:=fun i H' x H'' k y=>⟨y.1,fun t e=>by
  obtain⟨v,ev,rv⟩:=((r.imm k).get e);have:=y.2 vs (h.imm k).sq
  rw[ev] at this; cases this; exact rv⟩
 st:=fun H' k=>⟨vs,(h.imm k).sq,by exact r.len▸AG _⟩
theorem jI {K}   : gO K H (Itr 0 n) ((List.range n).map fun k=>PV.int (k:Nat)) where
 go:=fun i H' l k=>by rwa [AD,BU] at l
 yl:=fun i H' x H'' k y=>⟨y.1,fun t e=>by
  rw[y.2];rw[AL] at e
  cases z:(List.range n)[i]? with
  |none=>rw[z] at e; cases e
  |some w =>
   rw[z] at e;cases e;have:=AI.mp z;obtain⟨l,e⟩:=this;rw[List.getElem_range] at e;subst e;rw[Int.zero_add]
   exact .int _⟩
 st:=fun H' k=>by rw[AD,BU]; exact AG _
@[irreducible] def fS (ce:TCE)(g:TCG)(u:TCS):TCS:=fun E ρ C=>ce ρ C fun t C1=>match t with
 |.tup xs=>pK g u E xs ρ C1
 |.kt xs=>pK g u E xs ρ C1
 |_=>False
theorem cs_forT {tg iter:Expr}{body:List Stmt}{ce:TCE}{g:TCG}{u:TCS}(hp:PassesOwn (model X.prog X.w) X.A X.env X.xe)(hc:X.calm=true)(hi:CE X iter ce)(hg:CG X tg g)(hb:CB X body u)
  (hs:∀x,foldedSetIterable iter X.env x=pure x:=by intro _; rfl):CS X (.For tg iter body [] pos) (fS ce g u):=⟨JS.weak ⟨zU hp hc (pi_tup hi.h.h) hg.h.h hb.h.h hs⟩ fun D σ H zz=>qX zz fun ρ C E s h q f=> by
 unfold fS at q
 exact⟨ρ,C,_,s,h,q,fun x H1 px C1 q1 rx h1 f1=>by
  cases rx with
  |@tup a vs ts e r=>exact⟨a,rfl,⟨vs,SqT.of e⟩,qG (lN (SqT.of e) r) (s.imm (f1.imm h)) h1 q1 (f.fw f1)⟩
  |@kt a vs ts e r=>exact⟨a,rfl,⟨vs,e⟩,qG (lN e r) (s.imm (f1.imm h)) h1 q1 (f.fw f1)⟩
  |_=>exact q1.elim⟩⟩
def cForR (ca:TCA)(g:TCG)(u:TCS):TCS:=fun E ρ C=>ca ρ C fun ts C1=>match ts with
 |[.int j]=>-(2 ^ 62)<=j/\j < 2 ^ 62/\pK g u E ((List.range j.toNat).map fun k=>PV.int (k:Nat)) ρ C1
 |_=>False
theorem tR {tg:Expr}{body:List Stmt}{ca:TCA}{g:TCG}{u:TCS}{p pos2:Pos}(hp:PassesOwn (model X.prog X.w) X.A X.env X.xe)(hc:X.calm=true)(hgl:Gl X "range")(hm:X.mg "range" = none)(ha:CA X [a] ca)(hg:CG X tg g)(hb:CB X body u)
  (hst:nQ a=true:=by rfl) (hs:∀x,foldedSetIterable (.Call (.Name "range" p) [a] [] pos2) X.env x=pure x:=by intro _; rfl):CS X (.For tg (.Call (.Name "range" p) [a] [] pos2) body [] pos) (cForR ca g u):=⟨JS.weak ⟨zU hp hc (xM hgl hm ha.h.h (lX hst)) hg.h.h hb.h.h hs⟩ fun D σ H zz=>qX zz fun ρ C E s h q f=>
 ⟨ρ,C,_,s,h,q,fun xs H1 ts C1 q1 rs h1 f1=>by
  split at q1
  .next j =>
   cases rs with
   |cons r0 r =>
    cases r;cases r0;exact⟨j,rfl,q1.1,q1.2.1,qG jI (s.imm (f1.imm h)) h1 q1.2.2 (f.fw f1)⟩
  .exact q1.elim⟩⟩
def sV (a:Addr)(g:TCG)(u:TCS)(E:CEnds):Nat->Nat->CSt->CH->Prop
 |0,_,_,_=>False
 |n+1,i,ρ,C=>match C a with
  |some (.lst xs)=>match xs[i]? with
   |some x=>g x ρ C fun ρ1 C1=>u (E.lp (sV a g u E n (i+1))) ρ1 C1
   |none=>E.nx ρ C
  |_=>False
def cForL (ce:TCE)(g:TCG)(u:TCS):TCS:=fun E ρ C=>ce ρ C fun t C1=>match t with
 |.ref a=>∃n,sV a g u E n 0 ρ C1
 |.fz xs=>pK g u E xs ρ C1
 |_=>False
theorem cs_forL {tg iter:Expr}{body:List Stmt}{ce:TCE}{g:TCG}{u:TCS}(hp:PassesOwn (model X.prog X.w) X.A X.env X.xe)(hc:X.calm=true)(hi:CE X iter ce)(hg:CG X tg g)(hb:CB X body u)
  (hs:∀x,foldedSetIterable iter X.env x=pure x:=by intro _; rfl):CS X (.For tg iter body [] pos) (cForL ce g u):=⟨JS.weak ⟨zU hp hc (pi_list hi.h.h) hg.h.h hb.h.h hs⟩ fun D σ H zz=>qX zz fun ρ C E s h q f=>
 ⟨ρ,C,_,s,h,q,fun x H1 px C1 q1 rx h1 f1=>by
  cases rx with
  |@fz a vs ts e r=>exact⟨a,rfl,⟨vs,e.sq⟩,qG (it_fz e r) (s.imm (f1.imm h)) h1 q1 (f.fw f1)⟩
  |ref a =>
   obtain⟨n,q1⟩:=q1
   have ex:∃ys,SqL X.K H1 a ys:=by
    cases n with
    |zero=>exact q1.elim
    |succ n =>
     unfold sV at q1
     split at q1
     .next xs e=>obtain⟨vs,ev,_⟩:=h1 a _ e; exact⟨vs,SqL.of ev⟩
     .exact q1.elim
   refine⟨a,rfl,ex,fun i m σ' H'=>∃ρ' C',SRel X.K H' σ' ρ'/\HRel X.K H' C'/\Fw H1 C1 H' C'/\sV a g u E m i ρ' C',⟨n,ρ,C1,s.imm (f1.imm h),h1,Fw.refl,q1⟩,?_⟩;rintro i m σ2 H2 ⟨ρ2,C2,s2,h2,f2,q2⟩
   cases m with
   |zero=>exact q2.elim
   |succ m =>
    unfold sV at q2
    split at q2
    .next xs e =>
     obtain⟨vs,ev,rv⟩:=h2 a _ e
     split at q2
     .next x ex =>
      obtain⟨v,ev',rx⟩:=rv.get ex;refine .inr ⟨⟨vs,v,SqL.of ev,ev'⟩,fun σ' H'=>∃ρ' C',SRel X.K H' σ' ρ'/\HRel X.K H' C'/\Fw H1 C1 H' C'/\sV a g u E m (i+1) ρ' C',fun σ' H' z=>⟨m,CC m,z⟩,fun y H3 hy=>?_⟩;obtain⟨rfl,hy⟩:=hy;have:=hy vs (SqL.of ev);rw[ev'] at this; cases this
      exact⟨x,ρ2,C2,_,rx,s2,h2,q2,fun σ' H' ρ' C' q' s' h' f'=>⟨ρ',C',_,s',h',q',⟨fun σ3 H3 ρ3 C3 q3 s3 h3 f3=>⟨ρ3,C3,s3,h3,f2.trans (f'.trans f3),q3⟩,fun v H3 t C3 q3 r3 h3 f3=>f.rt v H3 t C3 q3 r3 h3 (f1.trans (f2.trans (f'.trans f3))),
       fun σ3 H3 ρ3 C3 q3 s3 h3 f3=>f.nx σ3 H3 ρ3 C3 q3 s3 h3 (f1.trans (f2.trans (f'.trans f3))),fun σ3 H3 ρ3 C3 q3 s3 h3 f3=>⟨ρ3,C3,s3,h3,f2.trans (f'.trans f3),q3⟩⟩⟩⟩
     .next ex =>
      refine .inl ⟨⟨vs,SqL.of ev,?_⟩,f.nx σ2 H2 ρ2 C2 q2 s2 h2 (f1.trans f2)⟩;rw[rv.len];exact List.getElem?_eq_none_iff.mp ex
    .exact q2.elim
  |_=>exact q1.elim⟩⟩
def tZ (t:TCT)(c:TCE)(ρ:CSt)(Q:K1):List PV->List PV->CH->Prop
 |[],acc,C=>∀p,C p=none->Q (.ref p) (vQ C p (.lst acc))
 |x::r,acc,C=>t (some x::ρ) C fun b C1=>if b=true then c (some x::ρ) C1 fun y C2=>acc.length < sizeLine/\tZ t c ρ Q r (acc++[y]) C2 else tZ t c ρ Q r acc C1
structure CF (X:Cx)(ifs:List Expr)(c:TCT):Prop where
 h:JF X ifs (vZ X.K oY c)
def cYes:TCT:=fun _ C Q=>Q true C
theorem JF.weak   (h:JF X ifs t)(w:∀σ H Q,t' σ H Q->t σ H Q):JF X ifs t':=⟨fun pins s σ H Q I q=>h.h pins s σ H Q I (w σ H Q q)⟩
theorem zL:CF X [] cYes:=⟨JF.weak ⟨oE⟩ fun σ H Q zz=>qX zz fun ρ C R s h q f=> f true H true C q rfl h Fw.refl⟩
theorem cf_one  (h:CT X c t):CF X [c] t:=⟨⟨sE h.h.h⟩⟩
theorem iR {K}        {c}  {Q:VK}(j:gO K H J ps)(s:SRel K H σ ρ)(h:HRel K H C)(q:tZ t c ρ R ps [] C)
  (h0:HRel K H0 C0) (f0:Fw H0 C0 H C) (f:∀v H' p C',R p C'->Rep K H' v p->HRel K H' C'->Fw H0 C0 H' C'->Q v H')  (hD:H D=none) :
  ∃W:Nat->Nat->List V->Hp->Prop,(∃m,W 0 m [] (upd H D (.lst [])))/\∀i m ys H,W i m ys H ->
   (J.stop i H/\Q (.ref D) H)\/(J.go i H/\∀x H',J.yld i H x H'->vZ K oY t (some x::σ) H' fun b H2 =>
    if b=true then vZ K (Rep K) c (some x::σ) H2 fun y H3=>H3 D=some (.lst ys)/\ys.length < sizeLine/\∃m',m' < m/\W (i+1) m' (ys++[y]) (upd H3 D (.lst (ys++[y])))
    else ∃m',m' < m/\W (i+1) m' ys H2):=by
 refine⟨fun i m ys H'=>m=ps.length - i/\i<=ps.length/\∃acc C',H' D=some (.lst ys)/\C' D=none/\Reps K H' ys acc/\HRel K H' C'/\Fw H C H' C'/\tZ t c ρ R (ps.drop i) acc C',
  ⟨ps.length,rfl,A0 _,[],C,uQ,h.fresh hD,.nil,h.new hD _,Fw.new hD _,q⟩,?_⟩
 rintro i m ys H1 ⟨rfl,hi,acc,C1,e1,n1,r1,h1,f1,q1⟩;have k1:=f1.imm h
 by_cases hlt:i < ps.length
 .refine .inr ⟨j.go i H1 hlt k1,fun x H2 y=>?_⟩
  obtain⟨rfl,y⟩:=j.yl i H1 x H2 k1 y;have rx:=y _ (AH hlt);rw[A2 hlt] at q1;refine⟨some ps[i]::ρ,C1,_,.cons rx (s.imm k1),h1,q1,fun b H3 b' C3 q3 e h3 f3=>?_⟩;cases e;obtain⟨n3,e3⟩:=f3 D (by rw[n1]; rfl) (by lia);rw[e1] at e3;rw[n1] at n3;have k3:=f3.imm h1
  cases b with
  |true =>
   refine⟨some ps[i]::ρ,C3,_,.cons (rx.imm k3) ((s.imm k1).imm k3),h3,q3,fun v H4 p C4 q4 r4 h4 f4=>dI (f4 D (by rw[n3]; rfl) (by lia)) fun n4 e4=>?_⟩;rw[e3] at e4;rw[n3] at n4;have m4:Imm H4 (upd H4 D (.lst (ys++[v]))):=Imm.mut e4 rfl _;refine⟨e4,by rw[r1.len]; exact q4.1,ps.length - (i+1),by lia,rfl,hlt,acc++[p],C4,uQ,n4,?_,?_,?_,q4.2⟩
   .exact (((r1.imm k3).imm (f4.imm h3)).append (.cons r4 .nil)).imm m4
   .intro a o ca
    have ne:a≠D:=fun z=>by subst z; rw[n4] at ca; cases ca
    exact(h4 a o ca).imm m4 (kQ ne)
   .intro a ca na
    have ne:a≠D:=fun z=>na (z▸hD);exact dI ((f1.trans (f3.trans f4)) a ca na) fun x1 x2=>⟨x1,(kQ ne).trans x2⟩
  |false =>
   exact⟨ps.length - (i+1),by lia,rfl,hlt,acc,C3,e3,n3,r1.imm k3,h3,f1.trans f3,q3⟩
 .have e:i=ps.length:=by lia
  subst e;rw[DE] at q1;refine .inl ⟨j.st H1 k1,f (.ref D) H1 (.ref D) _ (q1 D n1) (.ref D) ?_ ?_⟩
  .intro a o ca
   by_cases z:a=D
   .subst z; rw[zQ] at ca; cases ca; exact⟨ys,e1,r1⟩
   .rw [oQ z] at ca; exact h1 a o ca
  .intro a ca na
   obtain⟨x1,x2⟩:=f0 a ca na;have na':H a≠none:=by rwa [x2]
   obtain⟨y1,y2⟩:=f1 a (by rwa [x1]) na';exact⟨(oQ (show a≠D from fun z=>na' (z▸hD))).trans (y1.trans x1),y2.trans x2⟩
structure CI (X:Cx)(tg it:Expr)(wi:TI)(c:CSt->CH->(List PV->CH->Prop)->Prop):Prop where
 j:JI X tg it wi
 w:∀σ H ρ C R Q,SRel X.K H σ ρ->HRel X.K H C->c ρ C R->(∀J H' ps C',R ps C'->gO X.K H' J ps->HRel X.K H' C'->Fw H C H' C'->Q J H')->wi σ H Q
def cItR (ca:TCA):CSt->CH->(List PV->CH->Prop)->Prop:=fun ρ C Q=>ca ρ C fun ts C1=>match ts with
 |[.int j]=>-(2 ^ 62)<=j/\j < 2 ^ 62/\Q ((List.range j.toNat).map fun k=>PV.int (k:Nat)) C1
 |_=>False
theorem kC    (hgl:Gl X "range")(hm:X.mg "range" = none)(ha:CA X [a] ca)(hst:nQ a=true:=by rfl):CI X tg (.Call (.Name "range" p) [a] [] pos2) (iRng1 (vZ X.K (Reps X.K) ca)) (cItR ca):=⟨⟨xM hgl hm ha.h.h (lX hst)⟩,fun σ H ρ C R Q s h q f=>⟨ρ,C,_,s,h,q,fun xs H1 ts C1 q1 rs h1 f1=>by
  split at q1
  .next j =>
   cases rs with
   |cons r0 r =>
    cases r;cases r0;exact⟨j,rfl,q1.1,q1.2.1,f _ H1 _ C1 q1.2.2 jI h1 f1⟩
  .exact q1.elim⟩⟩
def Qq (ci:CSt->CH->(List PV->CH->Prop)->Prop)(t:TCT)(c:TCE):TCE:=fun ρ C Q=>ci ρ C fun ps C1=>tZ t c ρ Q ps [] C1
theorem bM     {c}(hi:CI X tg it wi ci)   {Q:VK}(h:vZ X.K (Rep X.K) (Qq ci t c) σ H Q):tG wi (vZ X.K oY t) (vZ X.K (Rep X.K) c) σ H Q :=qX h fun ρ C R s h q f=>hi.w σ H ρ C _ _ s h q fun J H' ps C' q' j h' f' D hD=>iR j (s.imm (f'.imm h)) h' q' h f' f hD
theorem ce_comp {elt iter:Expr}{x:Str}{px:Pos}{ifs:List Expr}{scope:Scope}{wi:TI}{ci:CSt->CH->(List PV->CH->Prop)->Prop}{t:TCT}{c:TCE}
  (hc:X.calm=true) (hN:(x::X.N).Nodup) (K:∃cl,oV X x scope cl) (hi:CI X (.Name x px) iter wi ci)
  (ht:∀cl fp C s₂ H₂,CF (dZ X x scope cl fp C s₂ H₂) ifs t) (he:∀cl fp C s₂ H₂,CE (dZ X x scope cl fp C s₂ H₂) elt c)
  (hs:∀v,foldedSetIterable iter X.env v=pure v:=by intro _; rfl):CE X (.ListComp elt [⟨.Name x px,iter,ifs,0⟩] scope pos) (Qq ci t c) :=
 ⟨JE.weak (zI hc hN K hi.j (fun cl fp C s₂ H₂=>(ht cl fp C s₂ H₂).h) (fun cl fp C s₂ H₂=>(he cl fp C s₂ H₂).h) hs) fun _ _ _ h=>bM hi h⟩
end
def aG (N:List Str)(ts:List PV):CSt:=ts.map some++List.replicate (N.length - ts.length) none
theorem iB {K}  : ∀n,SRel K H (List.replicate n none) (List.replicate n none)
 |0=>.nil
 |n+1=>.cons trivial (iB n)
theorem iL {K}    (s:SRel K H σ ρ):∀{vs}{ts},Reps K H vs ts->SRel K H (vs.map some++σ) (ts.map some++ρ)
 |_,_,.nil=>s
 |_,_,.cons h r=>.cons h (iL s r)
theorem nH {K}     (r:Reps K H vs ts):SRel K H (L2.start N vs) (aG N ts):=by
 delta L2.start aG
 exact r.len▸iL (iB _) r
section
variable {P:Program}{w:World}{K:DY}{mg:Str->Option Value}{base:Heap}
theorem Fun.okC  {st}      (F:Fun K x qual st f fd)(S:FnScope N ps (sQ st))(len:∀ts C R,G ts C R->ts.length=ps.length)
  (hbody:∀cdv A outer s H E,Room k (A.deeper (envOfC qual (sQ st) s.heap.objs.size f cdv)) ->
   ∃c,CB (nD CX0 P w K mg base N qual (sQ st) f cdv A outer s H E).nox (qJ st) c/\∀ts C R,G ts C R->c (.go R) (aG N ts) C):FnOk P w K mg base CX0 (k+1) f fd ps (spC K G):=by
 refine F.okJ S ?_ ?_
 .rintro vs H Q E ⟨ts,C,R,r,h,g,f⟩
  exact r.len▸len ts C R g
 .rintro cdv A outer s H vs Q E hr ⟨ts,C,R,r,h,g,f⟩
  exact hZ (hbody cdv A outer s H E hr) fun c hc q=>⟨_,hc.h,aG N ts,C,_,nH r,h,q ts C R g,⟨fun σ' H' ρ' C' q' s' h' f'=>f .non H' .non C' q' .non h' f',f,fun _ _ _ _ q' _ _ _=>q'.elim,fun _ _ _ _ q' _ _ _=>q'.elim⟩⟩
end
section
variable {X:Cx}{a b c e o i:Expr}{es:List Expr}{pos:Pos}
@[irreducible] def cI (g:Int->Int->PV):R2C:=fun x y C Q=>match x,y with
 |.int i,.int j=>Q (g i j) C
 |_,_=>False
def cIc (P:Int->Int->Prop)(g:Int->Int->PV):R2C:=fun x y C Q=>match x,y with
 |.int i,.int j=>P i j/\Q (g i j) C
 |_,_=>False
theorem Qb {K}   (hg:∀i j H,Rep K H (g i j) (g' i j)):Cop K (rI0 g) (cI g'):=fun x y px py H C Q R rx ry h q f=>by
 delta cI at q
 split at q
 .cases rx; cases ry
  exact⟨_,_,rfl,rfl,f _ H _ C q (hg _ _ _) h Fw.refl⟩
 .exact q.elim
theorem aD {K}    (hg:∀i j H,Rep K H (g i j) (g' i j)):Cop K (rI P g) (cIc P g'):=fun x y px py H C Q R rx ry h q f=>by
 delta cIc at q
 split at q
 .cases rx; cases ry
  exact⟨_,_,rfl,rfl,q.1,f _ H _ C q.2 (hg _ _ _) h Fw.refl⟩
 .exact q.elim
theorem uG {K}:Cop K (rI0 fun i j=>.int (i - j)) (cI fun i j=>.int (i - j)):=Qb fun _ _ _=>.int _
theorem bG {K}:Cop K (rI CMul fun i j=>.int (i * j)) (cIc CMul fun i j=>.int (i * j)):=aD fun _ _ _=>.int _
theorem aP {K}:Cop K (rI (fun _ j=>0 < j/\j < 18446744073709551616) fun i j=>.int (i / j)) (cIc (fun _ j=>0 < j/\j < 18446744073709551616) fun i j=>.int (i / j)):=aD fun _ _ _=>.int _
theorem dJ {K}:Cop K (rI (fun _ j=>0 < j) fun i j=>.int (i % j)) (cIc (fun _ j=>0 < j) fun i j=>.int (i % j)):=aD fun _ _ _=>.int _
theorem gG {K}:Cop K (rI CPow fun i j=>.int (i ^ j.toNat)) (cIc CPow fun i j=>.int (i ^ j.toNat)):=aD fun _ _ _=>.int _
theorem mY {K}:Cop K (rI0 fun i j=>.bl (decide (i < j))) (cI fun i j=>.bl (decide (i < j))):=Qb fun _ _ _=>.bl _
theorem Qa {K}:Cop K (rI0 fun i j=>.bl (decide (j < i))) (cI fun i j=>.bl (decide (j < i))):=Qb fun _ _ _=>.bl _
def cNeg:PV->CH->K1->Prop:=fun x C Q=>match x with
 |.int i=>Q (.int (-i)) C
 |_=>False
theorem wG {K}:Cun K (rU fun i=>.int (-i)) cNeg:=fun x px H C Q R rx h q f=>by
 delta cNeg at q
 split at q
 .cases rx; exact⟨_,rfl,f _ H _ C q (.int _) h Fw.refl⟩
 .exact q.elim
theorem fw_same   (s:Same H H'):Fw H C H' C:=fun a c n=>⟨rfl,by
 cases e:H a with
 |none=>exact absurd e n
 |some o=>exact s a o e⟩
theorem rT {K}   (h:HRel K H C)(s:Same H H'):HRel K H' C:=fun a o c =>hZ ((h a o c).mut) fun u e _=>(h a o c).imm (fun b v _ e=>s b v e) ((s a u e).trans e.symm)
@[irreducible] def vH:R2C:=fun x y C Q=>match x,y with
 |.int i,.int j=>Q (.int (i+j)) C
 |.str i,.str j=>i.length+j.length<=sizeLine/\Q (.str (i++j)) C
 |.tup xs,.tup ys=>xs.length+ys.length<=sizeLine/\Q (.tup (xs++ys)) C
 |.ref a,.ref b=>match C a,C b with
  |some (.lst xs),some (.lst ys)=>xs.length+ys.length<=sizeLine/\∀p,C p=none->Q (.ref p) (vQ C p (.lst (xs++ys)))
  |_,_=>False
 |_,_=>False
abbrev rAddC:R2:=fun x y H Q=>rI0 (fun i j=>.int (i+j)) x y H Q\/((∃i j,x=.str i/\y=.str j/\i.length+j.length<=sizeLine/\Q (.str (i++j)) H)\/(rCatU x y H Q\/rCat x y H Q))
theorem dX:OpR X (binaryOp .Add) rAddC:=OpR.or op_add (OpR.or iH (OpR.or op_catU op_cat))
theorem cX {K}:Cop K rAddC vH:=fun x y px py H C Q R rx ry h q f=>by
 delta vH at q
 split at q
 .cases rx; cases ry
  exact .inl ⟨_,_,rfl,rfl,f _ H _ C q (.int _) h Fw.refl⟩
 .cases rx; cases ry
  exact .inr (.inl ⟨_,_,rfl,rfl,q.1,f _ H _ C q.2 (.str _) h Fw.refl⟩)
 .cases rx with
  |tup e r=>cases ry with
   |tup e' r' =>
    refine .inr (.inr (.inl ⟨_,_,_,_,rfl,rfl,e,e',by rw[r.len,r'.len]; exact q.1,fun z H' s hz _=>?_⟩));exact f _ H' _ C q.2 (.tup hz ((r.append r').imm fun b v _ e=>s b v e)) (rT h s) (fw_same s)
 .split at q
  .next xs ys e1 e2 =>
   refine hZ (h _ _ e1) fun vs ev rv=>hZ (h _ _ e2) fun us eu ru=>?_;cases rx; cases ry
   refine .inr (.inr (.inr ⟨_,_,_,_,rfl,rfl,ev,eu,by rw[rv.len,ru.len]; exact q.1,fun p hp=>?_⟩));exact f _ _ _ _ (q.2 p (h.fresh hp)) (.ref p) (h.lay hp ⟨_,uQ,(rv.append ru).imm (Imm.new hp _)⟩) (Fw.lay hp _ _)
  .exact q.elim
 .exact q.elim
def sEq:PV->PV->Option Bool
 |.non,.non=>some true | .non,.int _=>some false | .int _,.non=>some false | .non,.bl _=>some false | .bl _,.non=>some false | .non,.str _=>some false | .str _,.non=>some false
 |.int i,.int j=>some (decide (i=j)) | .bl b,.bl c=>some (decide (b=c)) | .str x,.str y=>some (decide (x=y))
 |.int _,.str _=>some false | .str _,.int _=>some false | .bl _,.str _=>some false | .str _,.bl _=>some false
 |_,_=>none
@[irreducible] def cEq (k:Bool->Bool):R2C:=fun x y C Q=>match sEq x y with
 |some b=>Q (.bl (k b)) C
 |none=>False
def toV:PV->Option V
 |.non=>some .non | .bl b=>some (.bl b) | .int i=>some (.int i) | .str x=>some (.str x) | _=>none
theorem sC {K}    (r:Rep K H x px)(e:toV px=some v):x=v:=by
 cases r<;>cases e<;>rfl
theorem sEq_toV  {b}(e:sEq px py=some b):∃v u,toV px=some v/\toV py=some u/\scal v u=true/\decide (v=u)=b:=by
 cases px<;>cases py<;>cases e<;>exact⟨_,_,rfl,rfl,rfl,by simp⟩
theorem eC {K}    {b}(rx:Rep K H x px)(ry:Rep K H y py)(e:sEq px py=some b):scal x y=true/\decide (x=y)=b:=by
 refine el24 (sEq_toV e) fun v u h1 h2 h3 h4=>?_;cases sC rx h1;cases sC ry h2;exact⟨h3,h4⟩
theorem pX {K}:Cop K rEq (cEq id):=fun x y px py H C Q R rx ry h q f=>by
 delta cEq at q
 split at q
 .next b e =>
  obtain⟨h1,h2⟩:=eC rx ry e;exact⟨h1,h2▸f _ H _ C q (.bl _) h Fw.refl⟩
 .exact q.elim
theorem bY {K}:Cop K rNe (cEq not):=fun x y px py H C Q R rx ry h q f=>by
 delta cEq at q
 split at q
 .next b e =>
  obtain⟨h1,h2⟩:=eC rx ry e;exact⟨h1,h2▸f _ H _ C q (.bl _) h Fw.refl⟩
 .exact q.elim
def tY:PV->Bool
 |.non=>true
 |_=>false
def cIs (k:Bool->Bool):R2C:=fun x y C Q=>match y with
 |.non=>Q (.bl (k (tY x))) C
 |_=>False
theorem wI {K}    (r:Rep K H x px):decide (x=.non)=tY px:=by
 cases r<;>simp[tY]
theorem aR {K}:Cop K (fun x y H Q=>y=.non/\Q (.bl (decide (x=.non))) H) (cIs id):=fun x y px py H C Q R rx ry h q f=>by
 cases ry with
 |non=>exact⟨rfl,by exact(wI rx)▸f _ H _ C q (.bl _) h Fw.refl⟩
 |_=>exact q.elim
def cAt (xs:List PV)(i:Int)(C:CH)(Q:K1):Prop:=match atI xs i with
 |some v=>Q v C
 |none=>False
@[irreducible] def cIx:R2C:=fun x y C Q=>match x,y with
 |.tup xs,.int i=>cAt xs i C Q
 |.kt xs,.int i=>cAt xs i C Q
 |.fz xs,.int i=>cAt xs i C Q
 |.ref a,.int i=>match C a with
  |some (.lst xs)=>cAt xs i C Q
  |_=>False
 |.str z,.int i=>z.length<=sizeLine/\match atI z.cps.toList i with
  |some c=>Q (.str ⟨#[c]⟩) C
  |none=>False
 |_,_=>False
theorem Reps.at {K}    {i}  (r:Reps K H vs ts)(e:atI ts i=some t):∃v,atI vs i=some v/\Rep K H v t:=by
 delta atI at e ⊢
 rw[r.len]
 cases z:ixN ts.length i with
 |none=>rw[z] at e; cases e
 |some j =>
  rw[z] at e;exact r.get e
theorem gL {K}     {i}  (r:Reps K H vs ts)(q:cAt ts i C R):∃v t,atI vs i=some v/\Rep K H v t/\R t C:=by
 delta cAt at q
 split at q
 .next t e =>
  exact hZ (r.at e) fun v e' r'=>⟨v,t,e',r',q⟩
 .exact q.elim
theorem cop_ix {K}:Cop K (rIx K) cIx:=fun x y px py H C Q R rx ry h q f=>by
 delta cIx at q
 split at q
 .cases ry
  cases rx with
  |tup e r =>
   obtain⟨v,t,e',r',q⟩:=gL r q;exact .inr (.inl ⟨_,_,_,v,rfl,rfl,SqT.of e,e',f _ H _ C q r' h Fw.refl⟩)
 .cases ry
  cases rx with
  |kt e r =>
   obtain⟨v,t,e',r',q⟩:=gL r q;exact .inr (.inl ⟨_,_,_,v,rfl,rfl,e,e',f _ H _ C q r' h Fw.refl⟩)
 .cases ry
  cases rx with
  |fz e r =>
   obtain⟨v,t,e',r',q⟩:=gL r q;exact .inl ⟨_,_,_,v,rfl,rfl,e.sq,e',f _ H _ C q r' h Fw.refl⟩
 .cases ry
  split at q
  .next xs e =>
   obtain⟨vs,ev,rv⟩:=(h _ _ e);cases rx;exact sP (gL rv q) fun v t e' r' q=>.inl ⟨_,_,_,v,rfl,rfl,SqL.of ev,e',f _ H _ C q r' h Fw.refl⟩
  .exact q.elim
 .cases ry; cases rx
  obtain⟨q1,q2⟩:=q
  split at q2
  .next c e=>exact .inr (.inr ⟨_,_,c,rfl,rfl,q1,e,f _ H _ C q2 (.str _) h Fw.refl⟩)
  .exact q2.elim
 .exact q.elim
theorem ix_seqC:IxR X (rIx X.K):=ix_seq
@[irreducible] def dB:GC:=fun ts C Q=>match ts with
 |[.tup xs]=>Q (.int xs.length) C
 |[.kt xs]=>Q (.int xs.length) C
 |[.fz xs]=>Q (.int xs.length) C
 |[.ref a]=>match C a with
  |some (.lst xs)=>Q (.int xs.length) C
  |some (.dK kvs)=>Q (.int kvs.length) C
  |_=>False
 |[.str z]=>z.length<=sizeLine/\Q (.int z.length) C
 |_=>False
abbrev iC (K:DY):List V->Hp->VK->Prop:=fun xs H Q=>(∃p ys,xs=[.ref p]/\(SqL K H p ys\/SqT K H p ys)/\Q (.int ys.length) H)\/((∃a kvs,xs=[V.ref a]/\H a=some (.dK kvs)/\Q (.int kvs.length) H)\/∃z,xs=[.str z]/\z.length<=sizeLine/\Q (.int z.length) H)
theorem oM:CallR X (.builtin "len") (iC X.K):=CallR.or vL (CallR.or xO kL)
theorem xX {K}    (r:Reps K H xs [t]):∃v,xs=[v]/\Rep K H v t:=by
 cases r with
 |cons h r=>cases r; exact⟨_,rfl,h⟩
theorem zG {K}    (r:Reps K H xs [t,u]):∃v w,xs=[v,w]/\Rep K H v t/\Rep K H w u:=by
 cases r with
 |cons h r=>obtain⟨w,rfl,h'⟩:=xX r; exact⟨_,w,rfl,h,h'⟩
theorem cbi_len {K}:Cbi K (iC K) dB:=fun xs ps H C Q R rs h q f=>by
 delta dB at q
 split at q
 .obtain ⟨v,rfl,r⟩:=xX rs
  cases r with
  |tup e r=>exact .inl ⟨_,_,rfl,.inr (SqT.of e),f _ H _ C (by rwa [r.len]) (.int _) h Fw.refl⟩
 .obtain ⟨v,rfl,r⟩:=xX rs
  cases r with
  |kt e r=>exact .inl ⟨_,_,rfl,.inr e,f _ H _ C (by rwa [r.len]) (.int _) h Fw.refl⟩
 .obtain ⟨v,rfl,r⟩:=xX rs
  cases r with
  |fz e r=>exact .inl ⟨_,_,rfl,.inl e.sq,f _ H _ C (by rwa [r.len]) (.int _) h Fw.refl⟩
 .obtain ⟨v,rfl,r⟩:=xX rs
  split at q
  .next xs e =>
   obtain⟨vs,ev,rv⟩:=h _ _ e;cases r;exact .inl ⟨_,_,rfl,.inl (SqL.of ev),f _ H _ C (by rwa [rv.len]) (.int _) h Fw.refl⟩
  .next kvs e =>
   obtain⟨vs,ev,rv⟩:=h _ _ e;cases r;exact .inr (.inl ⟨_,_,rfl,ev,f _ H _ C (by rwa [Paired.length rv]) (.int _) h Fw.refl⟩)
  .exact q.elim
 .obtain ⟨v,rfl,r⟩:=xX rs
  cases r;exact .inr (.inr ⟨_,rfl,q.1,f _ H _ C q.2 (.int _) h Fw.refl⟩)
 .exact q.elim
def tyP (C:CH):PV->Option Ty
 |.non=>some .non
 |.bl _=>some .bl
 |.int _=>some .int
 |.str _=>some .str
 |.tup _=>some .tup
 |.ref a=>match C a with
  |some (.lst _)=>some .lst
  |some (.dK _)=>some .dct
  |some (.dM _ _)=>some .dct
  |_=>none
 |_=>none
theorem lC {K}      (r:Rep K H x t)(h:HRel K H C)(e:tyP C t=some n):tyN H x=some n:=by
 cases r with
 |tup e' _=>cases e; show(H _).bind tyH=_; rw[e']; rfl
 |ref a =>
  delta tyP at e
  dsimp only at e
  split at e
  .next xs c=>cases e; obtain⟨vs,ev,_⟩:=h _ _ c; show(H _).bind tyH=_; rw[ev]; rfl
  .next xs c=>cases e; obtain⟨vs,ev,_⟩:=h _ _ c; show(H _).bind tyH=_; rw[ev]; rfl
  .next xs c=>cases e; obtain⟨vs,ev,_⟩:=h _ _ c; show(H _).bind tyH=_; rw[ev]; rfl
  .cases e
 |kt _ _=>cases e
 |fz _ _=>cases e
 |ty _=>cases e
 |vw _=>cases e
 |_=>cases e; rfl
def mW (n:String):Option Ty:=[Ty.non,.bl,.int,.str,.lst,.tup,.dct].find? fun t=>mX t==n
theorem tL   (h:mW n=some t):n=mX t:=by
 have:=List.find?_some h;exact(eq_of_beq this).symm
@[irreducible] def cIsi:GC:=fun ts C Q=>match ts with
 |[x,.ty n]=>match mW n,tyP C x with
  |some T,some k=>Q (.bl (iQ k T)) C
  |_,_=>False
 |_=>False
theorem yX {K}:Cbi K (fun xs H Q=>∃x T n,xs=[x,.ty (mX T)]/\tyN H x=some n/\Q (.bl (iQ n T)) H) cIsi:=fun xs ps H C Q R rs h q f=>by
 delta cIsi at q
 split at q
 .split at q
  .next T k e1 e2 =>
   obtain⟨v,w,rfl,r1,r2⟩:=zG rs;cases r2;exact(tL e1)▸⟨v,T,k,rfl,lC r1 h e2,f _ H _ C q (.bl _) h Fw.refl⟩
  .exact q.elim
 .exact q.elim
def cAbs:GC:=fun ts C Q=>match ts with
 |[.int i]=>Q (.int (if i < 0 then -i else i)) C
 |_=>False
theorem cbi_abs {K}:Cbi K (fun xs H Q=>∃i,xs=[.int i]/\Q (.int (if i < 0 then -i else i)) H) cAbs:=fun xs ps H C Q R rs h q f=>by
 delta cAbs at q
 split at q
 .obtain ⟨v,rfl,r⟩:=xX rs
  cases r;exact⟨_,rfl,f _ H _ C q (.int _) h Fw.refl⟩
 .exact q.elim
@[irreducible] def jB:GC:=fun ts C Q=>match ts with
 |[.tup xs]=>Q (.tup xs) C
 |[.ref a]=>match C a with
  |some (.lst xs)=>Q (.tup xs) C
  |_=>False
 |_=>False
theorem cbi_tup {K}:Cbi K (fun xs H Q=>∃p ys,xs=[.ref p]/\((SqL K H p ys/\∀l,H l=none->Q (.ref l) (upd H l (.tup ys)))\/(SqT K H p ys/\Q (.ref p) H))) jB:=fun xs ps H C Q R rs h q f=>by
 delta jB at q
 split at q
 .obtain ⟨v,rfl,r⟩:=xX rs
  cases r with
  |tup e r=>exact⟨_,_,rfl,.inr ⟨SqT.of e,f _ H _ C q (.tup e r) h Fw.refl⟩⟩
 .obtain ⟨v,rfl,r⟩:=xX rs
  split at q
  .next xs e =>
   obtain⟨vs,ev,rv⟩:=(h _ _ e);cases r;exact⟨_,_,rfl,.inl ⟨SqL.of ev,fun l hl=>f _ _ _ C q (.tup uQ (rv.imm (Imm.new hl _))) (h.new hl _) (Fw.new hl _)⟩⟩
  .exact q.elim
 .exact q.elim
def xB:GC:=fun ts C Q=>match ts with
 |[.tup xs]=>∀p,C p=none->Q (.ref p) (vQ C p (.lst xs))
 |[.ref a]=>match C a with
  |some (.lst xs)=>∀p,C p=none->Q (.ref p) (vQ C p (.lst xs))
  |_=>False
 |_=>False
theorem xS {K}:Cbi K (fun xs H Q=>∃p ys,xs=[.ref p]/\(SqL K H p ys\/SqT K H p ys)/\∀l,H l=none->Q (.ref l) (upd H l (.lst ys))) xB:=fun xs ps H C Q R rs h q f=>by
 delta xB at q
 split at q
 .obtain ⟨v,rfl,r⟩:=xX rs
  cases r with
  |tup e r=>exact⟨_,_,rfl,.inr (SqT.of e),fun l hl=>f _ _ _ _ (q l (h.fresh hl)) (.ref l) (h.lay hl ⟨_,uQ,r.imm (Imm.new hl _)⟩) (Fw.lay hl _ _)⟩
 .obtain ⟨v,rfl,r⟩:=xX rs
  split at q
  .next xs e =>
   obtain⟨vs,ev,rv⟩:=(h _ _ e);cases r;exact⟨_,_,rfl,.inl (SqL.of ev),fun l hl=>f _ _ _ _ (q l (h.fresh hl)) (.ref l) (h.lay hl ⟨_,uQ,rv.imm (Imm.new hl _)⟩) (Fw.lay hl _ _)⟩
  .exact q.elim
 .exact q.elim
def blsOf:List PV->Option (List Bool)
 |[]=>some []
 |.bl b::r=>(blsOf r).map (b :: ·)
 |_=>none
@[irreducible] def cAll:GC:=fun ts C Q=>match ts with
 |[.ref a]=>match C a with
  |some (.lst xs)=>match blsOf xs with
   |some bs=>Q (.bl (bs.all id)) C
   |none=>False
  |_=>False
 |_=>False
def isL (x:PV)(C:CH):Prop:=match x with
 |.ref a=>match C a with
  |some (.lst _)=>True
  |_=>False
 |_=>False
def cBM (cr:PV->List PV->CH->K1->Prop)(co:TCE)(ca:TCA):TCE:=fun ρ C Q=>co ρ C fun x C1=>isL x C1/\ca ρ C1 fun xs C2=>cr x xs C2 Q
def Cmt (K:DY)(r:V->List V->Hp->VK->Prop)(cr:PV->List PV->CH->K1->Prop):Prop:=∀x px xs ps H C Q R,Rep K H x px->Reps K H xs ps->HRel K H C->cr px ps C R->(∀v H' t C',R t C'->Rep K H' v t->HRel K H' C'->Fw H C H' C'->Q v H')->r x xs H Q
theorem yI {K}     (l:isL t C)(r:Rep K H x t)(h:HRel K H C):tyV K "list" x H:=by
 delta isL at l
 split at l
 .split at l
  .next e=>obtain⟨vs,ev,_⟩:=(h _ _ e); cases r; exact .inl ⟨rfl,vs,SqL.of ev⟩
  .exact l.elim
 .exact l.elim
theorem jS  {id}{apos cpos}     (pa:PlainAttrs "list")(slot:Slot "list" name id)(hty:typeOf (.builtin id)=pure (.type "method_descriptor"))(hm:MtR X id r)(hr:Cmt X.K r cr)(ho:CE X o co)(ha:CA X (e::es) ca)
  (hbase:attributeBase o name X.env (eval o X.env)=eval o X.env:=by rfl)
  (hfew:((backTo cpos (starEach (e::es) X.env)).all (fun x=>!x.1)&&(backToKw cpos (keywordEach [] X.env)).all (fun x=>x.1.isSome)
   && decide ((e::es).length+([]:List Keyword).length+(if ([]:List Keyword).isEmpty then 0 else 1) < 30))=true:=by rfl)
  (hline:(apos.endLine==cpos.line)=true:=by rfl) (hs:nQ e=true:=by rfl) (hall:es.all nQ=true:=by rfl) :
  CE X (.Call (.Attribute o name apos) (e::es) [] cpos) (cBM cr co ca):=⟨JE.weak ⟨pe_bm pa slot hty hm ho.h.h ha.h.h hbase hfew hline (lX hs) (gK hall)⟩ fun σ H Q zz=>qX zz fun ρ C R s h q f=>
 ⟨ρ,C,_,s,h,q,fun x H1 px C1 q1 rx h1 f1=>⟨yI q1.1 rx h1,ρ,C1,_,s.imm (f1.imm h),h1,q1.2,fun xs H2 ps C2 q2 rs h2 f2 =>
  hr x px xs ps H2 C2 Q R (rx.imm (f2.imm h1)) rs h2 q2 fun v H' t C' q' r' h' f'=>f v H' t C' q' r' h' (f1.trans (f2.trans f'))⟩⟩⟩
@[irreducible] def qY:PV->List PV->CH->K1->Prop:=fun x ts C Q=>match x,ts with
 |.ref a,[y]=>match C a with
  |some (.lst xs)=>xs.length < sizeLine/\Q .non (vQ C a (.lst (xs++[y])))
  |_=>False
 |_,_=>False
theorem jC {K}:Cmt K xR qY:=fun x px xs ps H C Q R rx rs h q f=>by
 delta qY at q
 split at q
 .split at q
  .next ys e =>
   obtain⟨vs,ev,rv⟩:=(h _ _ e);obtain⟨v,rfl,r⟩:=xX rs;cases rx;exact⟨_,vs,v,rfl,rfl,ev,by exact rv.len▸q.1,f _ _ _ _ q.2 .non (h.put ev rfl ⟨_,uQ,(rv.append (.cons r .nil)).imm (Imm.mut ev rfl _)⟩) (Fw.put e _ _)⟩
  .exact q.elim
 .exact q.elim
end
def bV:PV->Option Key
 |.non=>some (.inl none)
 |.int i=>some (.inl (some i))
 |.str x=>some (.inr x)
 |_=>none
def keyPV:Key->PV
 |.inl none=>.non
 |.inl (some i)=>.int i
 |.inr x=>.str x
theorem bT {K}     (r:Rep K H v t)(e:bV t=some k):v=kV k:=by
 cases r<;>cases e<;>rfl
def valP (kvs:List (Key×PV))(k:Key):Option PV:=(kvs.find? fun kv=>decide (kv.1=k)).map (·.2)
def putP (kvs:List (Key×PV))(k:Key)(v:PV):List (Key×PV):=if (kvs.any fun kv=>decide (kv.1=k))=true then kvs.map fun kv=>if kv.1=k then (kv.1,v) else kv else kvs++[(k,v)]
def vN (kvs more:List (Key×PV)):List (Key×PV):=more.foldl (fun acc kv=>putP acc kv.1 kv.2) kvs
def dOf:Option CO->Option (List (Key×PV))
 |some (.dK kvs)=>some kvs
 |some (.fK kvs)=>some kvs
 |_=>none
section
variable {X:Cx}{a b c e o i f:Expr}{es:List Expr}{pos:Pos}{value:Expr}
@[irreducible] def cDIx:R2C:=fun x y C Q=>match x with
 |.ref a=>match dOf (C a),bV y with
  |some kvs,some k=>match valP kvs k with
   |some v=>Q v C
   |none=>False
  |_,_=>False
 |_=>False
@[irreducible] def cGetD:PV->PV->PV->CH->K1->Prop:=fun x y z C Q=>match x with
 |.ref a=>match dOf (C a),bV y with
  |some kvs,some k=>Q ((valP kvs k).getD z) C
  |_,_=>False
 |_=>False
@[irreducible] def cPutD:PV->PV->PV->CH->(CH->Prop)->Prop:=fun x y v C Q=>match x with
 |.ref a=>match C a,bV y with
  |some (.dK kvs),some k=>kvs.length < sizeLine/\Q (vQ C a (.dK (putP kvs k v)))
  |_,_=>False
 |_=>False
def rF:List PV->Option (List (Key×PV))
 |[]=>some []
 |.tup [k,v]::r=>match bV k,rF r with
  |some k,some ps=>some ((k,v)::ps)
  |_,_=>none
 |_=>none
@[irreducible] def cDictOf:GC:=fun ts C Q=>match ts with
 |[.tup xs]=>match rF xs with
  |some ps=>ps.length<=sizeLine/\∀p,C p=none->Q (.ref p) (vQ C p (.dK (vN [] ps)))
  |none=>False
 |_=>False
@[irreducible] def cUpdP:PV->List PV->CH->K1->Prop:=fun x ts C Q=>match x,ts with
 |.ref a,[.tup xs]=>match C a,rF xs with
  |some (.dK kvs),some ps=>kvs.length+ps.length<=sizeLine/\Q .non (vQ C a (.dK (vN kvs ps)))
  |_,_=>False
 |_,_=>False
@[irreducible] def cItems (co:TCE):TCE:=fun ρ C Q=>co ρ C fun x C1=>match x with
 |.ref a=>match C1 a with
  |some (.dK _)=>Q (.vw a) C1
  |_=>False
 |_=>False
end
end CL
namespace CL
open PySem PySem.Spec L2 PySem.W
open PyProof.Rows hiding St
def siPV (c:Str×Int):PV:=.tup [.str c.1,.int c.2]
def siOf:List PV->Option (List (Str×Int))
 |[]=>some []
 |.tup [.str x,.int i]::r=>(siOf r).map ((x,i) :: ·)
 |_=>none
def siK:List (Key×PV)->Option (List (Str×Int))
 |[]=>some []
 | (.inr x,.int i)::r=>(siK r).map ((x,i) :: ·)
 |_=>none
def siLt (cs:List (Str×Int)):Nat->Nat->Bool:=fun i j=>ltSI (cs.getD i ("",0)) (cs.getD j ("",0))
def ordC (cs:List (Str×Int)):List (Str×Int):=(kRun (siLt cs) (kas_sort cs.length)).toList.map fun i=>cs.getD i ("",0)
section
variable {K:DY}{H:Hp}{X:Cx}
@[irreducible] def cSorted:GC:=fun ts C Q=>match ts with
 |[.ref a]=>match C a with
  |some (.lst xs)=>match siOf xs with
   |some cs=>cs.length < 64/\∀p,C p=none->Q (.ref p) (vQ C p (.lst ((ordC cs).map siPV)))
   |none=>False
  |_=>False
 |[.vw a]=>match C a with
  |some (.dK kvs)=>match siK kvs with
   |some cs=>cs.length < 64/\∀p,C p=none->Q (.ref p) (vQ C p (.lst ((ordC cs).map siPV)))
   |none=>False
  |_=>False
 |_=>False
end
section
variable {X:Cx}{pos:Pos}
@[irreducible] def cCompD (ce:TCE)(t:TCT)(c:TCE):TCE:=fun ρ C Q=>ce ρ C fun x C1=>match x with
 |.ref d=>match C1 d with
  |some (.dK kvs)=>tZ t c ρ (fun v C2=>C2 d=some (.fK kvs)/\Q v (vQ C2 d (.dK kvs))) (kvs.map fun p=>keyPV p.1) [] (vQ C1 d (.fK kvs))
  |_=>False
 |_=>False
end
section
variable {X:Cx}{a b c e o i f:Expr}{es:List Expr}{pos:Pos}{value:Expr}
abbrev relO:Hp->Option Int->Option Int->Prop:=fun _ a b=>a=b
abbrev TCO:=CSt->CH->(Option Int->CH->Prop)->Prop
structure CPt (X:Cx)(e:Option Expr)(c:TCO):Prop where
 h:JO X e (vZ X.K relO c)
theorem JO.weak {e}  (h:JO X e t)(w:∀σ H Q,t' σ H Q->t σ H Q):JO X e t':=⟨fun pins s σ H Q I q=>h.h pins s σ H Q I (w σ H Q q)⟩
def cNoPart:TCO:=fun _ C Q=>Q none C
def cPart (ce:TCE):TCO:=fun ρ C Q=>ce ρ C fun t C1=>match t with
 |.int i=>Q (some i) C1
 |_=>False
theorem jK:CPt X none cNoPart:=⟨JO.weak ⟨po_none⟩ fun σ H Q zz=>qX zz fun ρ C R s h q f=> f none H none C q rfl h Fw.refl⟩
theorem zK  (h:CE X e ce):CPt X (some e) (cPart ce):=⟨JO.weak ⟨po_some h.h.h⟩ fun σ H Q zz=>qX zz fun ρ C R s h q f=> ⟨ρ,C,_,s,h,q,fun x H1 px C1 q1 rx h1 f1=>by
 split at q1
 .cases rx; exact⟨_,rfl,f _ H1 _ C1 q1 rfl h1 f1⟩
 .exact q1.elim⟩⟩
def fB (xs:List PV)(lo hi:Option Int):List PV:=(xs.drop (HT.sIx xs.length 0 lo)).take (HT.sIx xs.length xs.length hi - HT.sIx xs.length 0 lo)
theorem Reps.cut {K}    (r:Reps K H vs ts) lo hi:Reps K H (eT vs lo hi) (fB ts lo hi):=by
 delta eT fB
 exact r.len▸(r.drop _).take _
@[irreducible] def cSlL:PV->Option Int->Option Int->CH->K1->Prop:=fun x lo hi C Q=>match x with
 |.ref a=>match C a with
  |some (.lst xs)=>∀p,C p=none->Q (.ref p) (vQ C p (.lst (fB xs lo hi)))
  |_=>False
 |_=>False
def cSl (cr:PV->Option Int->Option Int->CH->K1->Prop)(ce:TCE)(cl ch:TCO):TCE:=fun ρ C Q=>ce ρ C fun x C1=>cl ρ C1 fun l C2=>ch ρ C2 fun u C3=>cr x l u C3 Q
theorem wW {lo}    (he:CE X e ce)(hl:CPt X lo cl)(hu:CPt X hi ch):CE X (.Subscript e (.Slice lo hi none p2) pos) (cSl cSlL ce cl ch):=⟨JE.weak ⟨vP sl_list he.h.h hl.h.h hu.h.h⟩ fun σ H Q zz=>qX zz fun ρ C R s h q f=>
 ⟨ρ,C,_,s,h,q,fun x H1 px C1 q1 rx h1 f1=>⟨ρ,C1,_,s.imm (f1.imm h),h1,q1,fun l H2 l' C2 q2 e2 h2 f2=>⟨ρ,C2,_,(s.imm (f1.imm h)).imm (f2.imm h1),h2,q2,fun u H3 u' C3 q3 e3 h3 f3=>by
  cases e2; cases e3
  delta cSlL at q3
  split at q3
  .split at q3
   .next xs e =>
    refine hZ (h3 _ _ e) fun vs ev r=>?_;have rx3:=rx.imm ((f2.trans f3).imm h1);cases rx3;exact⟨_,vs,rfl,SqL.of ev,fun p hp=>f _ _ _ _ (q3 p (h3.fresh hp)) (.ref p) (h3.lay hp ⟨_,uQ,(r.cut l u).imm (Imm.new hp _)⟩) (f1.trans (f2.trans (f3.trans (Fw.lay hp _ _))))⟩
   .exact q3.elim
  .exact q3.elim⟩⟩⟩⟩
theorem bP k (σ:St):lL k (σ.set k none):=fun v e=>by
 rw[List.getElem?_set_self'] at e
 cases hk:σ[k]? with
 |none=>rw[hk] at e; cases e
 |some x=>rw[hk] at e; cases e
theorem SRel.unset {K}    (s:SRel K H σ ρ) k:SRel K H (σ.set k none) (ρ.set k none):=by
 induction s generalizing k with
 |nil=>exact .nil
 |cons h' r ih =>
  cases k with
  |zero=>exact .cons trivial r
  |succ k=>exact .cons h' (ih k)
def wC (S:CH->Prop)(t:TCT)(c:TCE)(ρ:CSt)(Q:K1):List PV->List PV->CH->Prop
 |[],acc,C=>S C/\∀p,C p=none->Q (.ref p) (vQ C p (.lst acc))
 |x::r,acc,C=>S C/\t (some x::ρ) C fun b C1=>if b=true then c (some x::ρ) C1 fun y C2=>acc.length < sizeLine/\wC S t c ρ Q r (acc++[y]) C2 else wC S t c ρ Q r acc C1
@[irreducible] def cCompL (ce:TCE)(t:TCT)(c:TCE):TCE:=fun ρ C Q=>ce ρ C fun x C1=>match x with
 |.ref a=>match C1 a with
  |some (.lst xs)=>wC (fun C=>C a=some (.lst xs)) t c ρ Q xs [] C1
  |_=>False
 |_=>False
end
section
variable {C:CH}{a p:Addr}{xs ys:List PV}{i:Int}{v:PV}{Q:K1}
theorem yZ (h:C a=some (.lst xs))(e:atI xs i=some v)(q:Q v C):cIx (.ref a) (.int i) C Q:=by
 delta cIx
 show(match C a with | some (.lst xs)=>cAt xs i C Q | _=>False);rw[h];show cAt xs i C Q
 delta cAt
 rwa [e]
theorem ix_f (e:atI xs i=some v)(q:Q v C):cIx (.fz xs) (.int i) C Q:=by
 delta cIx
 show cAt xs i C Q
 delta cAt
 rwa [e]
theorem ix_t (e:atI xs i=some v)(q:Q v C):cIx (.tup xs) (.int i) C Q:=by
 delta cIx
 show cAt xs i C Q
 delta cAt
 rwa [e]
theorem yE   {Q}(h:C p=some (.lst xs))(e:ixN xs.length k=some j)(q:Q (vQ C p (.lst (xs.set j v)))):yS (.ref p) (.int k) v C Q:=by
 delta yS
 dsimp only;rw[h];dsimp only
 rwa [e]
theorem uU (h:C a=some (.lst xs))(q:Q (.int xs.length) C):dB [.ref a] C Q:=by
 delta dB
 show(match C a with | some (.lst xs)=>Q (.int xs.length) C | some (.dK kvs)=>Q (.int kvs.length) C | _=>False)
 rwa [h]
theorem eA (q:Q (.int xs.length) C):dB [.fz xs] C Q:=by
 delta dB
 exact q
theorem len_t (q:Q (.int xs.length) C):dB [.tup xs] C Q:=by
 delta dB
 exact q
theorem app_l (h:C a=some (.lst xs))(z:xs.length < sizeLine)(q:Q .non (vQ C a (.lst (xs++[v])))):qY (.ref a) [v] C Q :=by simp_all[qY]
theorem dU (h:C a=some (.lst xs)):isL (.ref a) C:=by
 show(match C a with | some (.lst _)=>True | _=>False);rw[h]
 trivial
end
theorem i_i     (q:Q (g i j) C):cI g (.int i) (.int j) C Q:=by
 delta cI
 exact q
theorem kW    (q:Q (.int (i+j)) C):vH (.int i) (.int j) C Q:=by
 delta vH
 exact q
theorem gI  {q:Prop}(e:b=true)(h:p):if b=true then p else q:=by rwa [A4 e]
theorem aY  {q:Prop}(e:b=false)(h:q):if b=true then p else q :=by grind
theorem zJ  {p q:CH->Prop}  (e:b=true)(h:p C):bB (fun b C1=>if b=true then p C1 else q C1) (.bl b) C:=by cases e; exact h
theorem aX  {p q:CH->Prop}  (e:b=false)(h:q C):bB (fun b C1=>if b=true then p C1 else q C1) (.bl b) C:=by cases e; exact h
theorem uJ  {p q:CH->Prop}  (h1:b=true->p C)(h2:b=false->q C):bB (fun b C1=>if b=true then p C1 else q C1) (.bl b) C:=by
 cases b with
 |true=>exact h1 rfl
 |false=>exact h2 rfl
theorem iF {p q:CH->Prop}  (h:q C):bB (fun b C1=>if (!b)=true then p C1 else q C1) (.bl true) C :=h
theorem oX      (e:sEq x y=some b)(q:Q (.bl (k b)) C):cEq k x y C Q :=by simp_all[cEq]
theorem eX x y:sEq (.str x) (.str y)=some (decide (x=y)):=rfl
theorem vX x y:sEq (.int x) (.int y)=some (decide (x=y)):=rfl
theorem aT        (h:t (some x::ρ) C fun b C1=>if b=true then c (some x::ρ) C1 fun y C2=>acc.length < sizeLine/\tZ t c ρ Q r (acc++[y]) C2 else tZ t c ρ Q r acc C1):tZ t c ρ Q (x::r) acc C:=h
theorem Qc       (h:∀p,C p=none->Q (.ref p) (vQ C p (.lst acc))):tZ t c ρ Q [] acc C:=h
theorem uX      (e1:mW n=some T)(e2:tyP C x=some k)(q:Q (.bl (iQ k T)) C):cIsi [x,.ty n] C Q:=by
 delta cIsi
 show(match mW n,tyP C x with | some T,some k=>Q (.bl (iQ k T)) C | _,_=>False)
 rwa [e1,e2]
theorem yH     (h1:C a=some (.lst xs))(h2:C b=some (.lst ys))(z:xs.length+ys.length<=sizeLine)(q:∀p,C p=none->Q (.ref p) (vQ C p (.lst (xs++ys)))):vH (.ref a) (.ref b) C Q:=by
 delta vH
 show(match C a,C b with | some (.lst xs),some (.lst ys)=>xs.length+ys.length<=sizeLine/\∀p,C p=none->Q (.ref p) (vQ C p (.lst (xs++ys))) | _,_=>False);exact h1▸h2▸⟨z,q⟩
theorem nC     (m:C p=some (.lst xs))(q:Q (.tup xs) C):jB [.ref p] C Q:=by
 delta jB
 show(match C p with | some (.lst xs)=>Q (.tup xs) C | _=>False)
 rwa [m]
def Gr (C C':CH):Prop:=∀b o,C b=some o->C' b=some o
theorem Gr.refl  : Gr C C:=fun _ _ h=>h
theorem Gr.trans  (h:Gr C C1)(h':Gr C1 C2):Gr C C2:=fun b o e=>h' b o (h b o e)
theorem Gr.new   (hp:C p=none) o:Gr C (vQ C p o):=fun b u e=>by
 rw[oQ (fun z=>by subst z; rw[hp] at e; cases e)]; exact e
theorem jX    (h:E.nx ρ C):cNext E ρ C:=h
theorem cQ       (h:ce ρ C fun v C1=>u E (ρ.set i (some v)) C1):cSeq (Qo i ce) u E ρ C:=h
theorem xZ     (h:t (E.wn (u E)) ρ C):cSeq t u E ρ C:=h
theorem c_i     (h:Q v C):cC v ρ C Q:=h
theorem tQ     (P:CSt->CH->Prop)(h1:∀K:CSt->CH->Prop,(∀ρ' C',P ρ' C'->K ρ' C')->t (E.wn K) ρ C)(h2:∀ρ' C',P ρ' C'->u E ρ' C'):cSeq t u E ρ C:=h1 _ h2
section
variable {X:Cx}{o e value i f:Expr}{es:List Expr}{pos pos':Pos}
def putFP (f:Str)(v:PV):List (Str×PV)->List (Str×PV)
 |[]=>[(f,v)]
 | (g,x)::r=>if g=f then (g,v)::r else (g,x)::putFP f v r
@[irreducible] def cFld (c:Addr)(f:Str):PV->CH->K1->Prop:=fun x C Q=>match x with
 |.ref p=>match C p with
  |some (.ins c' _ fs)=>c'=c/\match fs.lookup f with
   |some v=>Q v C
   |none=>False
  |_=>False
 |_=>False
@[irreducible] def cPutF (c:Addr)(f:Str):PV->PV->CH->(CH->Prop)->Prop:=fun x v C Q=>match x with
 |.ref p=>match C p with
  |some (.ins c' dx fs)=>c'=c/\fs.length < 1000/\Q (vQ C p (.ins c' dx (putFP f v fs)))
  |_=>False
 |_=>False
end
end CL
namespace L2
open PySem PySem.Spec PyProof.Rows PySem.W
section
variable {X:Cx}
theorem Qr {bs:List Bool}{its:List Value}(r:Vals (bs.map V.bl) its):its=bs.map Value.bool:=by
 induction bs generalizing its with
 |nil=>cases r; rfl
 |cons b bs ih =>
  rw[Aa] at r
  cases r with
  |cons a t =>
   cases (show _=Value.bool b from a);rw[ih t]
   rfl
def zR:V->List V->Hp->VK->Prop:=fun x vs H Q=>∃(l:Addr) (bs:List Bool) (j:Nat),x=.ref l/\vs=[.bl true]/\H l=some (.lst (bs.map V.bl))/\bs[j]?=some true/\(∀m,m < j->bs[m]?=some false)/\Q (.int j) H
theorem zT:MtM X "list.index" zR:=by
 intro pins s σ H x vs v us Q I rx rv h;obtain⟨l,bs,j,rfl,rfl,hH,hj,hno,q⟩:=h;cases rx;obtain⟨u,rfl,ru⟩:=rv.one;cases (show u=Value.bool true from ru);obtain⟨z,its,n,r,hl,e⟩:=I.lstM hH;have ei:=Qr r;subst ei
 have hjl:j < bs.length:=by
  rcases Nat.lt_or_ge j bs.length with h | h
  .exact h
  .rw [Bz h] at hj; cases hj
 have hz:=tK;have hb:bs.length<=sizeLine:=by rw[AD] at z; exact z
 have isT:∀v:Value,Bool:=fun v=>match v with
  |.bool b=>b
  |_=>false
 refine DH F.slot_list_index ⟨_,e,rfl⟩ F.entry_list_index (F.args_list_index_2 _ _)
  (SeqAt.list_indexAt l (bs.map Value.bool).toArray n none #[] (.bool true) (fun v=>v==.bool true) j (by simpa using hjl) (by omega) ?_ ?_) ⟨e,fun y hy=>?_,⟨.int j,H,I.tok _,⟨_,rfl⟩,q⟩⟩
 .have:bs[j]=true:=by rw[AH hjl] at hj; exact Ao hj
  simp[this]
 .intro m hm hmj
  have hml:m < bs.length:=by omega
  have:bs[m]=false:=by have:=hno m hmj; rw[AH hml] at this; exact Ao this
  simp[this]
 .have hy:y∈bs.map Value.bool:=by simpa using hy
  obtain⟨b,_,rfl⟩:=Ae.mp hy;have:=DU (A:=X.A.in1) (s:=s) b true;have e2:(Value.bool b==Value.bool true)=(b==true):=by cases b<;>rfl
  rw[e2];exact this
end
end L2
namespace CL
open PySem PySem.Spec L2 PySem.W
open PyProof.Rows hiding St
def wK:List PV->Option (List Key)
 |[]=>some []
 |t::r=>match bV t,wK r with
  |some k,some ks=>some (k::ks)
  |_,_=>none
def uB:PV->Option (List Key)
 |.tup ts=>wK ts
 |_=>none
theorem pN {K}     (r:Reps K H vs ts)(e:wK ts=some ks):vs=ks.map kV:=by
 induction ts generalizing vs ks with
 |nil=>cases r; cases e; rfl
 |cons t ts ih =>
  cases r with
  |cons h r =>
   unfold wK at e
   split at e
   .next k ks' e1 e2=>cases e; rw[bT h e1,ih r e2]; rfl
   .cases e
section
variable {κ:Type}[DecidableEq κ]
def wF (kvs:List (κ×PV))(k:κ):Option PV:=(kvs.find? fun kv=>decide (kv.1=k)).map (·.2)
def putG (kvs:List (κ×PV))(k:κ)(v:PV):List (κ×PV):=if (kvs.any fun kv=>decide (kv.1=k))=true then kvs.map fun kv=>if kv.1=k then (kv.1,v) else kv else kvs++[(k,v)]
def nA (kvs more:List (κ×PV)):List (κ×PV):=more.foldl (fun acc kv=>putG acc kv.1 kv.2) kvs
end
section
variable {X:Cx}{a b c e o i f value:Expr}{es:List Expr}{pos pos':Pos}
@[irreducible] def cTIx:R2C:=fun x y C Q=>match x with
 |.ref a=>match C a,uB y with
  |some (.dT kvs),some k=>match wF kvs k with
   |some v=>Q v C
   |none=>False
  |_,_=>False
 |_=>False
@[irreducible] def cTGet:PV->PV->PV->CH->K1->Prop:=fun x y z C Q=>match x with
 |.ref a=>match C a,uB y with
  |some (.dT kvs),some k=>Q ((wF kvs k).getD z) C
  |_,_=>False
 |_=>False
@[irreducible] def cPutT:PV->PV->PV->CH->(CH->Prop)->Prop:=fun x y v C Q=>match x with
 |.ref a=>match C a,uB y with
  |some (.dT kvs),some k=>kvs.length < sizeLine/\Q (vQ C a (.dT (putG kvs k v)))
  |_,_=>False
 |_=>False
end
section
variable {X:Cx}{a b c e o i f value:Expr}{es:List Expr}{pos pos':Pos}
@[irreducible] def cMax:GC:=fun ts C Q=>match ts with
 |[.int i,.int j]=>Q (.int (if j > i then j else i)) C
 |_=>False
@[irreducible] def cMin:GC:=fun ts C Q=>match ts with
 |[.int i,.int j]=>Q (.int (if j < i then j else i)) C
 |_=>False
theorem cbi_max {K}:Cbi K (fun xs H Q=>∃i j,xs=[.int i,.int j]/\Q (.int (if j > i then j else i)) H) cMax:=fun xs ts H C Q R rs h q f=>by
 delta cMax at q
 split at q
 .obtain ⟨v1,v2,rfl,r1,r2⟩:=zG rs
  cases r1; cases r2
  exact⟨_,_,rfl,f _ H _ C q (.int _) h Fw.refl⟩
 .exact q.elim
theorem cbi_min {K}:Cbi K (fun xs H Q=>∃i j,xs=[.int i,.int j]/\Q (.int (if j < i then j else i)) H) cMin:=fun xs ts H C Q R rs h q f=>by
 delta cMin at q
 split at q
 .obtain ⟨v1,v2,rfl,r1,r2⟩:=zG rs
  cases r1; cases r2
  exact⟨_,_,rfl,f _ H _ C q (.int _) h Fw.refl⟩
 .exact q.elim
@[irreducible] def cDictK:GC:=fun ts C Q=>match ts with
 |[.ref a]=>match C a with
  |some (.dK kvs)=>∀p,C p=none->Q (.ref p) (vQ C p (.dK kvs))
  |_=>False
 |_=>False
@[irreducible] def cCount:PV->List PV->CH->K1->Prop:=fun x ts C Q=>match x,ts with
 |.ref a,[y]=>match C a,bV y with
  |some (.lst xs),some k=>match wK xs with
   |some ks=>Q (.int (cntK k ks:Nat)) C
   |none=>False
  |_,_=>False
 |_,_=>False
@[irreducible] def pG:PV->List PV->CH->K1->Prop:=fun x ts C Q=>match x,ts with
 |.ref a,[.bl true]=>match C a with
  |some (.lst xs)=>∃(bs:List Bool) (j:Nat),xs=bs.map PV.bl/\bs[j]?=some true/\(∀m,m < j->bs[m]?=some false)/\Q (.int (j:Nat)) C
  |_=>False
 |_,_=>False
theorem vB {K:DY}{H:Hp}:∀{bs:List Bool}{vs:List V},Reps K H vs (bs.map PV.bl)->vs=bs.map V.bl
 |[],_,r=>by cases r; rfl
 |b::bs,_,r=>by
  cases r with
  |cons h r=>cases h; rw[vB r]; rfl
theorem qC {K:DY}:Cmt K zR pG:=fun x px xs ts H C Q R rx rs h q f=>by
 unfold pG at q
 split at q
 .split at q
  .next ys e1 =>
   obtain⟨bs,j,rfl,h1,h2,q⟩:=q;obtain⟨v,rfl,r⟩:=xX rs;obtain⟨vs,ev,rv⟩:=h _ _ e1;cases rx;cases r;exact⟨_,bs,j,rfl,rfl,by rw[ev,vB rv],h1,h2,f _ H _ C q (.int _) h Fw.refl⟩
  .exact q.elim
 .exact q.elim
@[irreducible] def cEqT (k:Bool->Bool):R2C:=fun x y C Q=>match uB x,uB y with
 |some ks,some js=>Q (.bl (k (decide (ks=js)))) C
 |_,_=>False
def nM:PV->Option V
 |.non=>some .non
 |.bl b=>some (.bl b)
 |.int i=>some (.int i)
 |.str x=>some (.str x)
 |_=>none
theorem rM {K}    (r:Rep K H v t)(e:nM t=some w):v=w/\zW w=true:=by
 cases r<;>cases e<;>exact⟨rfl,rfl⟩
def eK:List PV->Option (List V)
 |[]=>some []
 |t::r=>match nM t,eK r with
  |some v,some vs=>some (v::vs)
  |_,_=>none
theorem oN {K}    (r:Reps K H vs ts)(e:eK ts=some ws):vs=ws/\ws.all zW=true:=by
 induction ts generalizing vs ws with
 |nil=>cases r; cases e; exact⟨rfl,rfl⟩
 |cons t ts ih =>
  cases r with
  |cons h r =>
   unfold eK at e
   split at e
   .next v us e1 e2 =>
    cases e;obtain⟨rfl,f1⟩:=rM h e1;obtain⟨rfl,f2⟩:=ih r e2;exact⟨rfl,by rw[DA,f1,f2]; rfl⟩
   .cases e
def seqP (C:CH):PV->Option (List PV)
 |.tup xs=>some xs
 |.kt xs=>some xs
 |.ref a=>match C a with
  |some (.lst xs)=>some xs
  |_=>none
 |_=>none
@[irreducible] def uO (neg:Bool):R2C:=fun x y C Q=>match seqP C y,nM x with
 |some ts,some v=>match eK ts with
  |some vs=>Q (.bl (if neg then !inV v vs else inV v vs)) C
  |none=>False
 |_,_=>False
theorem eD {K}  : Cop K (rIn K neg) (uO neg):=fun x y px py H C Q R rx ry h q f=>by
 delta uO at q
 split at q
 .next ts v e1 e2 =>
  split at q
  .next vs e3 =>
   obtain⟨rfl,fx⟩:=rM rx e2
   have key:∃p ws,y=.ref p/\(SqL K H p ws\/SqT K H p ws)/\Reps K H ws ts:=by
    cases ry<;>try (cases e1)
    .next a =>
     delta seqP at e1
     dsimp only at e1
     split at e1
     .next xs e =>
      cases e1;exact hZ (h _ _ e) fun us eu ru=>⟨a,us,rfl,.inl (SqL.of eu),ru⟩
     .cases e1
    .next p us hp r=>exact⟨p,us,rfl,.inr (SqT.of hp),r⟩
    .grind
   obtain⟨p,ws,rfl,hs,rs⟩:=key;obtain⟨rfl,fs⟩:=oN rs e3;exact⟨p,ws,rfl,hs,fx,fs,f _ H _ C q (.bl _) h Fw.refl⟩
  .exact q.elim
 .exact q.elim
@[irreducible] def cRepL:R2C:=fun x y C Q=>match x,y with
 |.ref a,.int k=>match C a with
  |some (.lst xs)=>-(2 ^ 63)<=k/\k < 2 ^ 63/\xs.length * k.toNat<=sizeLine/\∀p,C p=none->Q (.ref p) (vQ C p (.lst (List.replicate k.toNat xs).flatten))
  |_=>False
 |.tup [z],.int k=>0<=k/\k < 64/\Q (.tup (List.replicate k.toNat z)) C
 |_,_=>False
end
def jE:List Key->Option (List Str)
 |[]=>some []
 |.inr x::r=>(jE r).map (x :: ·)
 |_=>none
def tiK:List (List Key×PV)->Option (List (List Str×Int))
 |[]=>some []
 | (k,.int i)::r=>match jE k,tiK r with
  |some zs,some cs=>some ((zs,i)::cs)
  |_,_=>none
 |_=>none
def tiPV (c:List Str×Int):PV:=.tup [.tup (c.1.map PV.str),.int c.2]
def tiLt (cs:List (List Str×Int)):Nat->Nat->Bool:=fun i j=>ltP (cs.getD i ([],0)) (cs.getD j ([],0))
def ordT (cs:List (List Str×Int)):List (List Str×Int):=(kRun (tiLt cs) (kas_sort cs.length)).toList.map fun i=>cs.getD i ([],0)
section
variable {K:DY}{H:Hp}{X:Cx}
@[irreducible] def cItemsT (co:TCE):TCE:=fun ρ C Q=>co ρ C fun x C1=>match x with
 |.ref a=>match C1 a with
  |some (.dT _)=>Q (.vw a) C1
  |_=>False
 |_=>False
@[irreducible] def cSortedT:GC:=fun ts C Q=>match ts with
 |[.vw a]=>match C a with
  |some (.dT kvs)=>match tiK kvs with
   |some cs=>cs.length < 64/\∀p,C p=none->Q (.ref p) (vQ C p (.lst ((ordT cs).map tiPV)))
   |none=>False
  |_=>False
 |_=>False
end
def vC:List (TCE×TCE)->CSt->CH->(List (PV×PV)->CH->Prop)->Prop
 |[],_,C,Q=>Q [] C
 | (ck,cv)::r,ρ,C,Q=>ck ρ C fun x C1=>cv ρ C1 fun y C2=>vC r ρ C2 fun ps C3=>Q ((x,y)::ps) C3
abbrev RPs (K:DY)(H:Hp):List (V×V)->List (PV×PV)->Prop:=Paired fun p q=>Rep K H p.1 q.1/\Rep K H p.2 q.2
def liftP (K:DY)(cs:List (TCE×TCE)):List (TE×TE):=cs.map fun p=>(vZ K (Rep K) p.1,vZ K (Rep K) p.2)
structure CPs (X:Cx)(pos:Pos)(keys:List (Option Expr))(values:List Expr)(cs:List (TCE×TCE)):Prop where
 h:PPs X pos keys values (liftP X.K cs)
theorem eR   : CPs X pos [] [] []:=⟨pps_nil⟩
theorem eP      {cv}  (hk:CE X k ck)(hv:CE X v cv)(hr:CPs X pos ks vs cs):CPs X pos (some k::ks) (v::vs) ((ck,cv)::cs):=⟨nE hk.h.h hv.h.h hr.h⟩
theorem uN {K}   : ∀{cs}{H}{C}{R}{Q},SRel K H σ ρ->HRel K H C->vC cs ρ C R ->
  (∀vs H' ts C',R ts C'->RPs K H' vs ts->HRel K H' C'->Fw H C H' C'->Q vs H')->mF (liftP K cs) σ H Q:=by
 intro cs
 induction cs with
 |nil=>intro H C R Q s h q f; exact f [] H [] C q .nil h Fw.refl
 |cons p cs ih =>
  obtain⟨ck,cv⟩:=p;intro H C R Q s h q f;exact⟨ρ,C,_,s,h,q,fun x H1 px C1 q1 rx h1 f1=>⟨ρ,C1,_,s.imm (f1.imm h),h1,q1,fun y H2 py C2 q2 ry h2 f2=>ih ((s.imm (f1.imm h)).imm (f2.imm h1)) h2 q2 fun vs H3 ts C3 q3 r3 h3 f3=>f _ H3 _ C3 q3 (.cons ⟨(rx.imm (f2.imm h1)).imm (f3.imm h2),ry.imm (f3.imm h2)⟩ r3) h3 (f1.trans (f2.trans f3))⟩⟩
def prK:List (PV×PV)->Option (List (Key×PV))
 |[]=>some []
 | (x,y)::r=>match bV x,prK r with
  |some k,some ps=>some ((k,y)::ps)
  |_,_=>none
def prT:List (PV×PV)->Option (List (List Key×PV))
 |[]=>some []
 | (x,y)::r=>match uB x,prT r with
  |some k,some ps=>some ((k,y)::ps)
  |_,_=>none
section
variable {X:Cx}{pos:Pos}{keys:List (Option Expr)}{values:List Expr}{cs:List (TCE×TCE)}
@[irreducible] def cPutAll (p:Addr):List (PV×PV)->CH->K1->Prop:=fun ts C Q=>C p=some (.dK [])/\match prK ts with
 |some ps=>ps.length<=15/\Q (.ref p) (vQ C p (.dK (vN [] ps)))
 |none=>False
@[irreducible] def cPutAllT (p:Addr):List (PV×PV)->CH->K1->Prop:=fun ts C Q=>C p=some (.dT [])/\match prT ts with
 |some ps=>ps.length<=15/\Q (.ref p) (vQ C p (.dT (nA [] ps)))
 |none=>False
end
theorem mI {A:Around}{k:Nat}(hr:Room k A):A.units < cLine:=by have:=hr.un; omega
section
variable {C:CH}{p:Addr}{Q:K1}{x y v z:PV}
theorem inS_s {neg:Bool}    (h1:seqP C y=some ts)(h2:nM x=some w)(h3:eK ts=some vs)(q:Q (.bl (if neg then !inV w vs else inV w vs)) C):uO neg x y C Q :=by simp_all[uO]
end
theorem min_s    (q:Q (.int (if j < i then j else i)) C):cMin [.int i,.int j] C Q:=by
 delta cMin
 exact q
theorem max_s    (q:Q (.int (if j > i then j else i)) C):cMax [.int i,.int j] C Q:=by
 delta cMax
 exact q
theorem qV {xs:List PV}  (h:k < xs.length):atI xs k=some xs[k] :=by grind[atI,ixN,lia,Int.toNat_natCast]
theorem dO    (I:List PV->CSt->CH->Prop)(step:∀x r ρ C,I (x::r) ρ C->∀L:CSt->CH->Prop,(∀ρ' C',I r ρ' C'->L ρ' C')->g x ρ C fun ρ1 C1=>u (E.lp L) ρ1 C1)(fin:∀ρ C,I [] ρ C->E.nx ρ C):
  ∀xs ρ C,I xs ρ C->pK g u E xs ρ C:=by
 intro xs
 induction xs with
 |nil=>intro ρ C h; exact fin ρ C h
 |cons x r ih=>intro ρ C h; exact step x r ρ C h _ ih
theorem fY    (I:List PV->List PV->CH->Prop)(step:∀x r acc C,I (x::r) acc C->∀L:K1,(∀y C2,acc.length < sizeLine/\I r (acc++[y]) C2->L y C2)->c (some x::ρ) C L)(fin:∀acc C,I [] acc C->∀p,C p=none->Q (.ref p) (vQ C p (.lst acc))):
  ∀xs acc C,I xs acc C->tZ cYes c ρ Q xs acc C:=by
 intro xs
 induction xs with
 |nil=>intro acc C h; exact fin acc C h
 |cons x r ih =>
  intro acc C h;exact step x r acc C h _ fun y C2 z=>⟨z.1,ih _ _ z.2⟩
theorem cV   (g:Gr C C1)(hp:C p=none) o:Gr C (vQ C1 p o):=fun b u e=>by
 rw[oQ (fun z=>by subst z; rw[hp] at e; cases e)];exact g b u e
theorem dD   (g:Gr C C')(h:C' p=none):C p=none:=by
 cases e:C p with
 |none=>rfl
 |some o=>rw[g p o e] at h; cases h
theorem sM {X:Cx}{pos:Pos}(k:Nat){i:Nat}{y x:Str}{py px spos:Pos}{elt iter:Expr}{ifs:List Expr}{scope:Scope}{wi:TI}{ci:CSt->CH->(List PV->CH->Prop)->Prop}{t:TCT}{c:TCE}(ne:i≠k)
  (hNd:(X.at_ k).N.Nodup) (hi:(X.at_ k).N[i]?=some y) (hy:Loc (X.at_ k).env.scope y) (hc:(X.at_ k).calm=true) (hN:(x::(X.at_ k).N).Nodup) (K:∃cl,oV (X.at_ k) x scope cl) (hI:CI (X.at_ k) (.Name x px) iter wi ci)
  (ht:∀cl fp C s₂ H₂,CF (dZ (X.at_ k) x scope cl fp C s₂ H₂) ifs t) (he:∀cl fp C s₂ H₂,CE (dZ (X.at_ k) x scope cl fp C s₂ H₂) elt c)
  (hs:∀v,foldedSetIterable iter (X.at_ k).env v=pure v:=by intro _; rfl)
  (hsw:swapsWith (.ListComp elt [⟨.Name x px,iter,ifs,0⟩] scope pos) (some (.Name y py)) spos.line (X.at_ k).env=pure true:=by rfl)
  (hf:(X.at_ k).fn y=true\/(X.at_ k).env.scope.names.lookup y=some .local:=by first | exact .inl rfl | exact .inr rfl | assumption) :
  CS X (.Assign [.Name y py] (.ListComp elt [⟨.Name x px,iter,ifs,0⟩] scope pos) spos) (fun E ρ C=>Qq ci t c (ρ.set k none) C fun v C1=>E.nx ((ρ.set k none).set i (some v)) C1):=by
 obtain⟨cl,K⟩:=K;refine⟨JS.weak (js_fg k (js_drop k (yD (te:=vZ X.K (Rep X.K) c) (tc:=vZ X.K oY t) hNd hi hy hc hN K hI.j (fun fp C s₂ H₂=>(ht cl fp C s₂ H₂).h) (fun fp C s₂ H₂=>(he cl fp C s₂ H₂).h) hs hsw hf))) fun D σ H zz=>qX zz fun ρ C E s h q f=> ⟨bP k σ,?_⟩⟩;refine bM (X:=X.at_ k) (Q:=fun x H'=>lL k ((σ.set k none).set i (some x))/\D.nx ((σ.set k none).set i (some x)) H') hI ⟨ρ.set k none,C,_,s.unset k,h,q,fun x H1 px C1 q1 rx h1 f1=>⟨fun v e=>?_,f.nx _ H1 _ C1 q1 (((s.unset k).imm (f1.imm h)).set rx i) h1 f1⟩⟩
 rw[BP ne] at e;exact bP k σ v e
section
variable {X:Cx}{pos:Pos}
abbrev g2 (K:DY):TG:=gTup K 2 (lP (qW 0) (lP (qW 1) gNil))
abbrev g3 (K:DY):TG:=gTup K 3 (lP (qW 0) (lP (qW 1) (lP (qW 2) gNil)))
end
end CL
namespace L2
open PySem PySem.W PySem.Spec PyProof.Rows
abbrev Qv:=List (List Key)
end L2
namespace CL
open PySem PySem.Spec L2 PySem.W
open PyProof.Rows hiding St
section
variable {X:Cx}{a b c e o i f value:Expr}{es:List Expr}{pos pos':Pos}
@[irreducible] def cInt:GC:=fun ts C Q=>match ts with
 |[.bl b]=>Q (.int (if b then 1 else 0)) C
 |[.int i]=>Q (.int i) C
 |_=>False
theorem cbi_int {K}:Cbi K (fun xs H Q=>(∃i,xs=[.int i]/\Q (.int i) H)\/∃k,xs=[.bl k]/\Q (.int (if k then 1 else 0)) H) cInt:=fun xs ts H C Q R rs h q f=>by
 delta cInt at q
 split at q
 .obtain ⟨v,rfl,r⟩:=xX rs
  cases r;exact .inr ⟨_,rfl,f _ H _ C q (.int _) h Fw.refl⟩
 .obtain ⟨v,rfl,r⟩:=xX rs
  cases r;exact .inl ⟨_,rfl,f _ H _ C q (.int _) h Fw.refl⟩
 .exact q.elim
@[irreducible] def cCatT:R2C:=fun x y C Q=>match x,y with
 |.tup xs,.tup ys=>xs.length+ys.length<=sizeLine/\Q (.tup (xs++ys)) C
 |_,_=>False
@[irreducible] def dG:PV->List PV->CH->K1->Prop:=fun x ts C Q=>match x,ts with
 |.ref a,[.ref b]=>match C a,C b with
  |some (.lst xs),some (.lst ys)=>xs.length+ys.length<=sizeLine/\Q .non (vQ C a (.lst (xs++ys)))
  |_,_=>False
 |_,_=>False
theorem zC {K}:Cmt K jR dG:=fun x px xs ps H C Q R rx rs h q f=>by
 delta dG at q
 split at q
 .split at q
  .next ys zs e1 e2 =>
   refine hZ (h _ _ e1) fun vs ev rv=>hZ (h _ _ e2) fun ws ew rw'=>?_;obtain⟨v,rfl,r⟩:=xX rs;cases rx; cases r
   exact⟨_,_,vs,ws,rfl,rfl,ev,ew,by exact rv.len▸rw'.len▸q.1,f _ _ _ _ q.2 .non (h.put ev rfl ⟨_,uQ,(rv.append rw').imm (Imm.mut ev rfl _)⟩) (Fw.put e1 _ _)⟩
  .exact q.elim
 .exact q.elim
def cBM0 (cr:PV->List PV->CH->K1->Prop)(co:TCE):TCE:=fun ρ C Q=>co ρ C fun x C1=>isL x C1/\cr x [] C1 Q
theorem Qi  {id}{apos cpos}    (pa:PlainAttrs "list")(slot:Slot "list" name id)(hty:typeOf (.builtin id)=pure (.type "method_descriptor"))(hm:MtR X id r)(hr:Cmt X.K r cr)(ho:CE X o co)
  (hbase:attributeBase o name X.env (eval o X.env)=eval o X.env:=by rfl) (hline:(apos.endLine==cpos.line)=true:=by rfl):CE X (.Call (.Attribute o name apos) [] [] cpos) (cBM0 cr co):=⟨JE.weak ⟨zA pa slot hty hm ho.h.h hbase hline⟩ fun σ H Q zz=>qX zz fun ρ C R s h q f=>
 ⟨ρ,C,_,s,h,q,fun x H1 px C1 q1 rx h1 f1=>⟨yI q1.1 rx h1,hr x px [] [] H1 C1 Q R rx .nil h1 q1.2 fun v H' t C' q' r' h' f'=>f v H' t C' q' r' h' (f1.trans f')⟩⟩⟩
@[irreducible] def tW:PV->List PV->CH->K1->Prop:=fun x ts C Q=>match x,ts with
 |.ref a,[]=>match C a with
  |some (.lst xs)=>Q .non (vQ C a (.lst xs.reverse))
  |_=>False
 |_,_=>False
theorem qH {K}:Cmt K jP tW:=fun x px xs ps H C Q R rx rs h q f=>by
 delta tW at q
 split at q
 .split at q
  .next ys e1 =>
   obtain⟨vs,ev,rv⟩:=(h _ _ e1);cases rs;cases rx;exact⟨_,vs,rfl,rfl,ev,f _ _ _ _ q .non (h.put ev rfl ⟨_,uQ,rv.reverse.imm (Imm.mut ev rfl _)⟩) (Fw.put e1 _ _)⟩
  .exact q.elim
 .exact q.elim
@[irreducible] def cClear:PV->List PV->CH->K1->Prop:=fun x ts C Q=>match x,ts with
 |.ref a,[]=>match C a with
  |some (.lst xs)=>Q .non (vQ C a (.lst []))
  |_=>False
 |_,_=>False
@[irreducible] def cSlT:PV->Option Int->Option Int->CH->K1->Prop:=fun x lo hi C Q=>match x with
 |.tup xs=>¬ (HT.sIx xs.length 0 lo=0/\HT.sIx xs.length xs.length hi=xs.length)/\Q (.tup (fB xs lo hi)) C
 |_=>False
def pksOf:List PV->Option Qv
 |[]=>some []
 |t::r=>match uB t,pksOf r with
  |some k,some ks=>some (k::ks)
  |_,_=>none
def kP:PV->Option Qv
 |.tup ts=>pksOf ts
 |_=>none
@[irreducible] def cPIx:R2C:=fun x y C Q=>match x with
 |.ref a=>match C a,kP y with
  |some (.dP kvs),some k=>match wF kvs k with
   |some v=>Q v C
   |none=>False
  |_,_=>False
 |_=>False
@[irreducible] def cPIn:R2C:=fun y x C Q=>match x with
 |.ref a=>match C a,kP y with
  |some (.dP kvs),some k=>Q (.bl (wF kvs k).isSome) C
  |_,_=>False
 |_=>False
@[irreducible] def cPutQ:PV->PV->PV->CH->(CH->Prop)->Prop:=fun x y v C Q=>match x with
 |.ref a=>match C a,kP y with
  |some (.dP kvs),some k=>kvs.length < sizeLine/\Q (vQ C a (.dP (putG kvs k v)))
  |_,_=>False
 |_=>False
end
inductive Pl:Nat->PV->Prop
 |non {d:Nat}:Pl d .non
 |bl {d:Nat} (b:Bool):Pl d (.bl b)
 |int {d:Nat} (i:Int):Pl d (.int i)
 |str {d:Nat} (x:Str):Pl d (.str x)
 |tup {d:Nat} {ts:List PV} (h:∀t∈ts,Pl d t):Pl (d+1) (.tup ts)
section
variable {X:Cx}
@[irreducible] def cNeD (d:Nat):R2C:=fun x y C Q=>match x,y with
 |.ref a,.ref b=>match C a,C b with
  |some (.lst xs),some (.lst ys)=>xs=ys/\(∀t∈xs,Pl d t)/\Q (.bl false) C
  |_,_=>False
 |_,_=>False
def zE:List PV->Option (List Str)
 |[]=>some []
 |.str x::r=>(zE r).map (x :: ·)
 |_=>none
def tiOf:List PV->Option (List (List Str×Int))
 |[]=>some []
 |.tup [.tup ks,.int i]::r=>match zE ks,tiOf r with
  |some zs,some cs=>some ((zs,i)::cs)
  |_,_=>none
 |_=>none
@[irreducible] def cSortedL:GC:=fun ts C Q=>match ts with
 |[.ref a]=>match C a with
  |some (.lst xs)=>match tiOf xs with
   |some cs=>cs.length < 64/\∀p,C p=none->Q (.ref p) (vQ C p (.lst ((ordT cs).map tiPV)))
   |none=>False
  |_=>False
 |_=>False
end
end CL
namespace PySem.W
open PySem PySem.Calls PyProof.Rows PyProof.V PySem.Spec
section
variable {prog:Program}{w:World}{A:Around}{E:Value->Shared->Prop}{s:Shared}{d it:Addr}{es:Array DictEntry}{ep i:Nat}
theorem RawD.ty (x:RawD s.heap d es ep):s.TypeIs (.ref d) "dict":=let ⟨o,e,c,_⟩:=x; ⟨o,e,c.1⟩
theorem zM {Q:Value->Shared->Prop}(hd:(d==sysModules)=false)(hm:RawD s.heap d es ep)
  (hQ:Q (.ref s.heap.objs.size) { s with heap:=s.heap.push { cls:=.type "dict_keyiterator",data:=.fields #[.ref d,.int 0 0,.int es.size 0,.int ep 0] } }):wpAny (model prog w) A (pyIter (.ref d)) Q E s:=by
 have hT:=hm.ty;obtain⟨o,ho,hc,hdat⟩:=hm;refine wpAny_pyIter_slot (by exact hT) F.slot_dict_iter (Ah F.slot_dict_iter (by exact hT) F.entry_dict_iter ?_ (F.args_dict_iter_1 _))
 (unfold Builtin.«dict.__iter__»; refine AA ?_; unfold Builtin.Dict.dictSlotNone; refine AA (DQ hT ?_))
 (show wpAny _ _ (pure (Value.ref d)) _ _ s; refine AB ?_; show wpAny _ _ (Builtin.Dict.showsAll d >>= _) _ _ s; unfold Builtin.Dict.showsAll)
 (rw[Av (by rw[hd]; exact AJ)]; refine AA (AB ?_); refine AA (BQ ho hdat ?_); refine AA (BX ho hdat ?_))
 refine AA (B0 (AB ⟨_,rfl,"dict_keyiterator",(_),⟨_,AK _ rfl,rfl⟩,BY.lookup,(?_)⟩))
 (simpa [rawInt] using hQ)
theorem qM {e:DictEntry}{Q:Option Value->Shared->Prop}(hit:s.heap.IsKeyIter it d i es.size ep)(hm:RawD s.heap d es ep)(hx:es[i]?=some e)
  (hQ:∀h',h'.IsKeyIter it d (i+1) es.size ep->Heap.SameBut it s.heap h'->Q (some e.key) { s with heap:=h' }):wpAny (model prog w) A (pyNext (.ref it)) Q E s:=by
 have hT:=hit.typeIs;obtain⟨o,ho,hc,hd⟩:=id hit;obtain⟨od,hod,hcd,hdd⟩:=id hm
 have hlt:i < es.size:=by
  rcases Nat.lt_or_ge i es.size with h | h
  .exact h
  .rw [Cb h] at hx; cases hx
 have he:es[i]=e:=by rw[AU hlt] at hx; exact Ao hx
 have hown:Builtin.Dict_items.ownsTuple "dict_keyiterator" = false:=by (decide)
 (unfold pyNext; refine AA (Cg (Ar (name:=Str.ofString "__next__") hT BY (Ah BY hT F.entry_dict_keyiterator_next ?_ (F.args_dict_keyiterator_next_1 _)))))
 (refine AA (AB ?_); refine AA ?_; refine AA ?_; first | refine AA (Bu hT (AB ?_)) | refine AA (CN hT (AB ?_)))
 (refine AA (wpAny_fieldsOf ho hd ?_); simp only[hown,Bool.false_eq_true,if_false]; show wpAny _ _ (if (Value.ref d==Value.none)=true then _ else _) _ _ s)
 (rw[Av (show ¬ ((Value.ref d==Value.none)=true) from AJ)]; refine AA (AB ?_); refine AA (BQ hod hdd ?_))
 (rw[Av (by simp)]; refine AA (AB ?_); refine AA (BX hod hdd ?_); rw[Av (by simp)]; refine AB ?_)
 (simp only[show ¬ ((i:Int) < 0) from by omega,if_false,Int.toNat_natCast,Array.getElem?_eq_getElem hlt]; refine AA ?_)
 (first | refine AA (Bu hT (AB ?_)) | refine AA (CN hT (AB ?_)))
 (refine AA (wpAny_isOneOf_keyiter hT ?_); show wpAny _ _ (setField (.ref it) 1 (rawInt ((i:Int)+1)) >>= _) _ _ s; refine AA (DS ho hd (by simp) ?_))
 have hit':(s.heap.update it (Obj.mapFields (·.setIfInBounds 1 (rawInt ((i:Int)+1))))).IsKeyIter it d (i+1) es.size ep:=⟨_,Am _ ho (Obj.isFreed_of_fields (Obj.data_mapFields hd _)),(Obj.cls_mapFields ..).trans hc,by rw[Obj.data_mapFields hd]; simp[rawInt]⟩
 (refine AA (Af ?_); refine AA (wpAny_isOneOf_keyiter (s:={ s with heap:=s.heap.update it (Obj.mapFields (·.setIfInBounds 1 (rawInt ((i:Int)+1)))) }) hit'.typeIs ?_))
 (show wpAny _ _ (pure es[i].key) _ _ _; rw[he]; exact AB (AB ⟨_,rfl,AB (hQ _ hit' (An ..))⟩))
theorem zP {Q:Option Value->Shared->Prop}(hh:A.handled=none)(hit:s.heap.IsKeyIter it d i es.size ep)(hm:RawD s.heap d es ep)(hge:es.size<=i)
  (hQ:∀h',Heap.ExtBut it s.heap h'->Q none { s with heap:=h' }):wpAny (model prog w) A (pyNext (.ref it)) Q E s:=by
 have hT:=hit.typeIs;obtain⟨o,ho,hc,hd⟩:=id hit;obtain⟨od,hod,hcd,hdd⟩:=id hm;have hown:Builtin.Dict_items.ownsTuple "dict_keyiterator" = false:=by (decide)
 (unfold pyNext; refine AA (Cg (Ar (name:=Str.ofString "__next__") hT BY (Ah BY hT F.entry_dict_keyiterator_next ?_ (F.args_dict_keyiterator_next_1 _)))))
 (refine AA (AB ?_); refine AA ?_; refine AA ?_; first | refine AA (Bu hT (AB ?_)) | refine AA (CN hT (AB ?_)))
 (refine AA (wpAny_fieldsOf ho hd ?_); simp only[hown,Bool.false_eq_true,if_false]; show wpAny _ _ (if (Value.ref d==Value.none)=true then _ else _) _ _ s)
 (rw[Av (show ¬ ((Value.ref d==Value.none)=true) from AJ)]; refine AA (AB ?_); refine AA (BQ hod hdd ?_))
 (rw[Av (by simp)]; refine AA (AB ?_); refine AA (BX hod hdd ?_); rw[Av (by simp)]; refine AB ?_)
 (simp only[show ¬ ((i:Int) < 0) from by omega,if_false,Int.toNat_natCast,Array.getElem?_eq_none hge]; refine AA ?_)
 (first | refine AA (Bu hT (AB ?_)) | refine AA (CN hT (AB ?_)))
 (show wpAny _ _ (setField (.ref it) 0 .none >>= _) _ _ s; refine AA (DS ho hd (by simp) ?_); show wpAny _ _ (newExc (.type "StopIteration") [] >>= _) _ _ _)
 (refine AA ?_; simp only[newExc,newTuple]; refine AA (B0 ?_ (by size_fits)))
 (refine AA (m:=firstArgMember _ _) (wpAny_of_eq (a:=Value.none) (by first | rfl | (simp only[firstArgMember]; rfl)) ?_); refine B0 ?_ (by size_fits))
 (simp only[raiseNew]; refine AA (wpAny_handled ?_); rw[show A.in1.handled=none from hh]; refine AA (AB (wpAny_throw ?_)))
 (refine AA (BL (T:="StopIteration") (b:=true) ⟨_,AK _ rfl,rfl⟩ isSubtype_stop ?_); exact AB (hQ _ (((An ..).extBut.push _).push _)))
end
end PySem.W
namespace CL
open PySem PySem.Spec L2 PySem.W
open PyProof.Rows hiding St
section
variable {X:Cx}{pos:Pos}
def tkPV (k:List Key):PV:=.tup (k.map keyPV)
@[irreducible] def cCompT (ce:TCE)(t:TCT)(c:TCE):TCE:=fun ρ C Q=>ce ρ C fun x C1=>match x with
 |.ref d=>match C1 d with
  |some (.dT kvs)=>tZ t c ρ (fun v C2=>C2 d=some (.fT kvs)/\Q v (vQ C2 d (.dT kvs))) (kvs.map fun p=>tkPV p.1) [] (vQ C1 d (.fT kvs))
  |_=>False
 |_=>False
def tOf:Option CO->Option (List (List Key×PV))
 |some (.dT kvs)=>some kvs
 |some (.fT kvs)=>some kvs
 |_=>none
@[irreducible] def cTIy:R2C:=fun x y C Q=>match x with
 |.ref a=>match tOf (C a),uB y with
  |some kvs,some k=>match wF kvs k with
   |some v=>Q v C
   |none=>False
  |_,_=>False
 |_=>False
end
end CL
namespace L2
open PySem PySem.W PyProof.Rows
def drop (H:Hp)(a:Addr):Hp:=fun b=>if b=a then none else H b
section
variable {X:Cx}
theorem cB:bootBuiltins "reversed" = some (.type "reversed"):=by rfl
end
end L2
namespace CL
open PySem PySem.Spec L2 PySem.W
open PyProof.Rows hiding St
section
variable {X:Cx}{a b c e o i f value:Expr}{es:List Expr}{pos pos':Pos}
@[irreducible] def cRev:PV->CH->K1->Prop:=fun x C Q=>match x with
 |.ref a=>match C a with
  |some (.lst xs)=>∀p,C p=none->Q (.ref p) (vQ C p (.lst xs.reverse))
  |_=>False
 |_=>False
def rngPV (n:Nat):List PV:=(List.range n).map fun k=>PV.int (k:Nat)
@[irreducible] def cRng:PV->CH->K1->Prop:=fun x C Q=>match x with
 |.int j=>0<=j/\j<=100000/\∀p,C p=none->Q (.ref p) (vQ C p (.lst (rngPV j.toNat)))
 |_=>False
@[irreducible] def cPop:PV->List PV->CH->K1->Prop:=fun x ts C Q=>match x,ts with
 |.ref a,[]=>match C a with
  |some (.lst xs)=>match xs[xs.length - 1]? with
   |some y=>Q y (vQ C a (.lst xs.dropLast))
   |none=>False
  |_=>False
 |_,_=>False
theorem cmt_pop {K}:Cmt K rPop cPop:=fun x px xs ps H C Q R rx rs h q f=>by
 delta cPop at q
 split at q
 .split at q
  .next ys e1 =>
   split at q
   .next y ey =>
    obtain⟨vs,ev,rv⟩:=(h _ _ e1);cases rs;cases rx;obtain⟨v,hv,r1⟩:=(rv.get ey)
    have hd:Reps K H vs.dropLast ys.dropLast:=by
     rw[List.dropLast_eq_take,List.dropLast_eq_take,rv.len];exact rv.take _
    exact⟨_,vs,v,rfl,rfl,ev,by exact rv.len▸hv,f _ _ _ _ q (r1.imm (Imm.mut ev rfl _)) (h.put ev rfl ⟨_,uQ,hd.imm (Imm.mut ev rfl _)⟩) (Fw.put e1 _ _)⟩
   .exact q.elim
  .exact q.elim
 .exact q.elim
@[irreducible] def cTru (c:TCE):TCT:=fun ρ C Q=>c ρ C fun x C1=>match x with
 |.ref a=>match C1 a with
  |some (.lst xs)=>Q (!xs.isEmpty) C1
  |_=>False
 |_=>False
theorem ct_tru {c}(h:CE X e c)(he:vY e=true:=by rfl):CT X e (cTru c):=⟨JT.weak ⟨pE h.h.h (xU he)⟩ fun σ H Q zz=>qX zz fun ρ C R s h q f=> by
 delta cTru at q
 exact⟨ρ,C,_,s,h,q,fun x H1 px C1 q1 rx h1 f1=>by
  split at q1
  .split at q1
   .next xs e1 =>
    refine hZ (h1 _ _ e1) fun vs ev rv=>?_;cases rx;refine⟨!xs.isEmpty,.inl ⟨vs,SqL.of ev,?_⟩,f _ H1 _ C1 q1 rfl h1 f1⟩;have:=rv.len;cases vs<;>cases xs<;>simp_all
   .exact q1.elim
  .exact q1.elim⟩⟩
theorem pop_s      (m:C p=some (.lst xs))(e:xs[xs.length - 1]?=some y)(q:Q y (vQ C p (.lst xs.dropLast))):cPop (.ref p) [] C Q :=by simp_all[cPop]
theorem tru_i {c}    (h:c ρ C fun x C1=>∃a xs,x=.ref a/\C1 a=some (.lst xs)/\Q (!xs.isEmpty) C1)(mono:∀(Q1 Q2:K1),(∀v C1,Q1 v C1->Q2 v C1)->c ρ C Q1->c ρ C Q2):cTru c ρ C Q:=by
 delta cTru
 refine mono _ _ ?_ h;rintro v C1 ⟨b,xs,rfl,m,q⟩;dsimp only
 rwa [m]
end
structure Row where
 k:Option Str
 nm:Str
 q:Str
 st:Stmt
 ps:List Str
 N:List Str
def AllR (p:Row->Prop):List Row->Prop
 |[]=>True
 |r::rs=>p r/\AllR p rs
def FH (K:DY)(r:Row):Prop:=match r with
 |⟨none,nm,q,st,_,_⟩=>∃(f:Addr) (oc:Value) (od:Option Addr) (kV dc pm:Value) (an:Option Addr) (cd ct:Value) (sl:Array (Option Value)),
  PySem.W.nsIn K mainGlobals nm=some (some (.ref f))/\K.lookup f=some ⟨oc,od,.func (PySem.W.fnOf nm q (qK st) (qJ st) (sQ st) .none kV dc pm an cd ct),sl⟩/\PySem.W.codeIn K cd q=true/\PySem.W.keepIn K (.ref f)=true
 |⟨some c,nm,q,st,_,_⟩=>∃(cc f:Addr) (oc:Value) (od:Option Addr) (kV dc pm:Value) (an:Option Addr) (cd ct:Value) (sl:Array (Option Value)),
  PySem.W.nsIn K mainGlobals c=some (some (.ref cc))/\PySem.W.findIn K (.ref cc) nm=some (some (.ref f))/\K.lookup f=some ⟨oc,od,.func (PySem.W.fnOf nm q (qK st) (qJ st) (sQ st) .none kV dc pm an cd ct),sl⟩/\PySem.W.codeIn K cd q=true/\PySem.W.keepIn K (.ref f)=true/\PySem.W.isFn K (.ref f)=true
def RB (r:Row):Prop:=FnScope r.N r.ps (sQ r.st)/\∀(kV doc pm:Value) (an:Option Addr) (cdv ct:Value) (us:List Value),us.length=r.ps.length->bindArgs (PySem.W.fnOf r.nm r.q (qK r.st) (qJ r.st) (sQ r.st) .none kV doc pm an cdv ct) ⟨us,[]⟩=pure (r.ps.zip us)
structure FI (K:DY)(mg:Str->Option Value)(k:Option Str)(nm q:Str)(st:Stmt)(ps N:List Str)(f:Addr)(d:FuncData):Prop where
 m:k=none->mg nm=some (.ref f)
 M:∀c ca,k=some c->mg c=some (.ref ca)->PySem.W.findIn K (.ref ca) nm=some (some (.ref f))/\PySem.W.isFn K (.ref f)=true
 F:Fun K nm q st f d
 s:FnScope N ps (sQ st)
 b:Binds K d ps []
section
variable {P:List Value->Prop}
theorem argsS  (h:∀a (us:List Value),us.length=n->P (a::us)) us (e:us.length=n+1):P us:=by
 cases us with
 |nil=>cases e
 |cons a us=>exact h a us (Bl e)
theorem args0 (h:P []) us (e:us.length=0):P us :=by grind
theorem args1 (h:∀a,P [a]):∀us,us.length=1->P us:=argsS fun a=>args0 (h a)
theorem args2 (h:∀a b,P [a,b]):∀us,us.length=2->P us:=argsS fun a=>args1 (h a)
end
theorem fi_one {K}   (X:K.In h)(G:h.Ns mainGlobals mg)  (x:FH K r)(y:RB r):∃f d,FI K mg r.k r.nm r.q r.st r.ps r.N f d:=by
 obtain⟨k,nm,q,st,ps,N⟩:=r;obtain⟨y1,y2⟩:=y
 cases k with
 |none =>
  obtain⟨f,oc,od,kV,dc,pm,an,cd,ct,sl,h1,h2,h3,h4⟩:=x;exact⟨f,_,⟨fun _=>PySem.W.mg_of X G h1,fun _ _ e=>(nomatch e),cD h2 h3 h4,y1,Fun.binds (cD h2 h3 h4) y2⟩⟩
 |some c =>
  obtain⟨cc,f,oc,od,kV,dc,pm,an,cd,ct,sl,h0,h1,h2,h3,h4,h5⟩:=x;refine⟨f,_,⟨fun e=>(nomatch e),fun c' ca e e'=>?_,cD h2 h3 h4,y1,Fun.binds (cD h2 h3 h4) y2⟩⟩;cases e;have:=(PySem.W.mg_of X G h0).symm.trans e';cases this;exact⟨h1,h5⟩
theorem fi_all {K}   (X:K.In h)(G:h.Ns mainGlobals mg):∀{t},AllR (FH K) t->AllR RB t->∃(f:Nat->Addr) (d:Nat->FuncData),∀i {k}{nm q}{st}{ps N},t[i]?=some ⟨k,nm,q,st,ps,N⟩->FI K mg k nm q st ps N (f i) (d i)
 |[],_,_=>⟨fun _=>mainGlobals,fun _=>PySem.W.fnOf "" "" (qK (.Pass ⟨0,0,0,0⟩)) [] (sQ (.Pass ⟨0,0,0,0⟩)) .none .none .none .none none .none .none,fun i _ _ _ _ _ _ e=>by simp at e⟩
 |r::t,x,y=>by
  refine el21 (fi_one X G x.1 y.1) fun f0 d0 h0=>el21 (fi_all X G x.2 y.2) fun f d h=>⟨fun i=>match i with | 0=>f0 | i+1=>f i,fun i=>match i with | 0=>d0 | i+1=>d i,fun i=>?_⟩
  cases i with
  |zero=>intro k nm q st ps N e; cases e; exact h0
  |succ i=>intro k nm q st ps N e; exact h i e
section
variable {P:Program}{w:World}{K:DY}{mg:Str->Option Value}{base:Heap}
theorem FI.ok   {st}      (F:FI K mg kk x qual st ps N f fd)(len:∀ts C R,G ts C R->ts.length=ps.length)
  (hbody:∀cdv A outer s H E,Room k (A.deeper (envOfC qual (sQ st) s.heap.objs.size f cdv)) ->
   ∃c,CB (nD CX0 P w K mg base N qual (sQ st) f cdv A outer s H E).nox (qJ st) c/\∀ts C R,G ts C R->c (.go R) (aG N ts) C):FnOk P w K mg base CX0 (k+1) f fd ps (spC K G):=Fun.okC F.F F.s len hbody
end
section
variable {X:Cx}{e o:Expr}{es:List Expr}{pos:Pos}
theorem cf       {st}{p}  (T:FI X.K X.mg none x q st ps N f fd)(F:FnOk X.prog X.w X.K X.mg X.base CX0 k f fd ps (spC X.K G))(hr:Room k X.A)
  (ha:CA X (e::es) ca) (hg:Gl X x:=by rfl) (hdb:(x==("__debug__" : Str))=false:=by decide) (hs:nQ e=true:=by rfl) (hall:es.all nQ=true:=by rfl):CE X (.Call (.Name x p) (e::es) [] pos) (iW G ca) :=
 ce_call F hr hg (T.m rfl) T.F.kp T.b pass0 ha hdb hs hall
theorem cx   (ha:CE X a ca)(hb:CE X b cb)(hs:cG b:=by exact fun _ _=>rfl):CE X (.Subscript a b pos) (cOp cIx ca cb):=ce_ix ix_seqC cop_ix ha hb hs
theorem ca1  (ha:CE X e ca)(hs:nQ e=true:=by rfl):CA X [e] (sY ca kH):=qQ ha nV hs
theorem cs1 i  {pos'}  (hN:X.N.Nodup)(he:CE X e ce)(hi:X.N[i]?=some x:=by rfl)(hx:Loc X.env.scope x:=by first | exact Or.inl rfl | exact Or.inr rfl)(hs:swapsWith e (some (.Name x pos')) pos.line X.env=pure false:=by rfl)(hf:X.fn x=true\/X.env.scope.names.lookup x=some .local:=by first | exact .inl rfl | exact .inr rfl | assumption):
  CS X (.Assign [.Name x pos'] e pos) (Qo i ce):=cs_set hN hi hx he hs hf
theorem cg1 i  (hN:X.N.Nodup)(hi:X.N[i]?=some x:=by rfl)(hx:Loc X.env.scope x:=by first | exact Or.inl rfl | exact Or.inr rfl)(hf:X.fn x=true\/X.env.scope.names.lookup x=some .local:=by first | exact .inl rfl | exact .inr rfl | assumption):CG X (.Name x pos) (dName i):=cg_name hN hi hx hf
theorem cln {p}  (hm:X.mg "len" = none)(ha:CE X e ca)(hg:Gl X "len":=by rfl)(hs:nQ e=true:=by rfl):CE X (.Call (.Name "len" p) [e] [] pos) (iW dB (sY ca kH)):=pQ oM cbi_len hg hm rfl (ca1 ha hs) (hs:=hs)
theorem ctp {p}  (hm:X.mg "tuple" = none)(ha:CE X e ca)(hg:Gl X "tuple":=by rfl)(hs:nQ e=true:=by rfl):CE X (.Call (.Name "tuple" p) [e] [] pos) (iW jB (sY ca kH)):=kJ pB cbi_tup hg hm rfl (ca1 ha hs) (hs:=hs)
theorem cap {apos cpos}  (ho:CE X o co)(ha:CE X e ca)
  (hbase:attributeBase o "append" X.env (eval o X.env)=eval o X.env:=by rfl)
  (hfew:((backTo cpos (starEach [e] X.env)).all (fun x=>!x.1)&&(backToKw cpos (keywordEach [] X.env)).all (fun x=>x.1.isSome)
   && decide ([e].length+([]:List Keyword).length+(if ([]:List Keyword).isEmpty then 0 else 1) < 30))=true:=by rfl)
  (hline:(apos.endLine==cpos.line)=true:=by rfl) (hs:nQ e=true:=by rfl):CE X (.Call (.Attribute o "append" apos) [e] [] cpos) (cBM qY co (sY ca kH)) :=
 jS BR PySem.F.slot_list_append PySem.F.type_list_append yM jC ho (ca1 ha hs) hbase hfew hline hs
theorem ct2      (ho:OpR X (compareOp op) r)(hr:Cop X.K r cr)(ha:CE X a ca)(hb:CE X b cb)(hm:behindInMarks op b=false:=by exact yU _):CT X (.Compare a [op] [b] pos) (kS (cOp cr ca cb)):=oD ho hr ha hb hm
end
end CL
namespace L2
open PySem
theorem FnScope.c    (S:FnScope N ps sc)(h:N.contains x=false):(x::N).Nodup:=by
 refine BE.2 ⟨fun m=>?_,S.nd⟩;rw[List.contains_iff_mem.2 m] at h;cases h
theorem FnScope.k      (S:FnScope N ps sc)(hN:X.N=N)(hsc:X.env.scope=sc)(hce:X.env.cells=cellsFrom L sc.names [])(h:aU xs scope N sc=true):∃cl,lG X xs scope cl:=eU hN hsc hce h
end L2
namespace PySem.W
open PySem PySem.Calls PyProof.Rows PyProof.V PySem.Spec
theorem kdl_raw {prog:Program}{w:World}{d:Addr}{es:Array DictEntry}{ep:Nat}(lo:(d==sysModules)=false):KdlSrc prog w "dict" d d es.size (fun i v=>∃e,es[i]?=some e/\v=e.key) (fun h=>RawD h d es ep) where
 type:=fun _ hm=>RawD.ty hm
 there:=fun _ hm=>let ⟨_,e,_⟩:=hm; ⟨AF e,AF e⟩
 keep:=fun _ _ hm hk=>hm.at fun o e=>hk d (.inl rfl) o e
 notList:=by decide
 notTuple:=by decide
 hint:=fun _ _ _ _ hm hq=>kdl_hint_dict (RawD.ty hm) hq
 iter:=fun A s hh hm=>by
  have hdI:d≠s.heap.objs.size:=let ⟨_,e,_⟩:=hm; A5 (AF e)
  refine⟨_,fun i h=>h.IsKeyIter s.heap.objs.size d i es.size ep/\RawD h d es ep,(fun _ _ hq=>zM lo hm hq),?_,⟨_,AK _ rfl,rfl,rfl⟩,hm.at fun o e=>AC _ e⟩;refine⟨fun b hb=>by simp_all,fun i h h' ⟨k,r⟩ hk=>⟨let ⟨o,e,x⟩:=k; ⟨o,hk _ (by simp) o e,x⟩,r.at fun o e=>hk d (by simp) o e⟩,?_,?_,fun i s Q E ⟨k,_⟩ h=>wpAny_pyIter_keyiter k h⟩
  .rintro i s' Q E hi ⟨k,r⟩ hQ
   refine qM k r (AU hi) fun h' k' sb=>?_;exact hQ _ h' s'.toks ⟨_,AU hi,rfl⟩ ⟨k',r.at fun o e=>(sb.2 d hdI).trans e⟩ fun b o hb e=>(sb.2 b (by simpa using hb)).trans e
  .rintro s' Q E ⟨k,r⟩ hQ
   exact zP hh k r (AG _) fun h' eb=>hQ h' s'.toks fun b o hb e=>eb b o (by simpa using hb) e
end PySem.W
namespace L2
open PySem PySem.W PyProof.Rows
section
variable {X:Cx}
def TyOk (X:Cx)(T:String)(x:V)(H:Hp):Prop:=∀(pins:List (Addr×Obj)) (σ:St) (s:Shared) (v:Value),Inv X pins σ H s->RelV x v->s.TypeIs v T/\∀a,v=.ref a->∃ob,s.heap.get? a=some ob/\ob.dict=none
variable {o e:Expr}{es:List Expr}{to:TE}{t:TA}{name:Str}{apos cpos:Pos}{T id:String}{r:V->List V->Hp->VK->Prop}
theorem pe_bmG (pa:PlainAttrs T)(slot:Slot T name id)(hty:typeOf (.builtin id)=pure (.type "method_descriptor"))(hm:MtR X id r)(ho:PE X o to)(ha:PA X (e::es) t)
  (hbase:attributeBase o name X.env (eval o X.env)=eval o X.env)
  (hfew:((backTo cpos (starEach (e::es) X.env)).all (fun x=>!x.1)&&(backToKw cpos (keywordEach [] X.env)).all (fun x=>x.1.isSome)
   && decide ((e::es).length+([]:List Keyword).length+(if ([]:List Keyword).isEmpty then 0 else 1) < 30))=true)
  (hline:(apos.endLine==cpos.line)=true) (hs:starEach (e::es) X.env=(false,eval e X.env)::starEach es X.env) (hplain:(backTo cpos (starEach es X.env)).any (·.1)=false) :
  PE X (.Call (.Attribute o name apos) (e::es) [] cpos) (fun σ H Q=>to σ H fun x H1=>TyOk X T x H1/\t σ H1 fun xs H2=>r x xs H2 Q):=by
 intro pins s σ H Q I h;refine wpAny_Call_method_late hbase hfew hline rfl (thn (ho pins s σ H _ I h) fun v s1 zz=>el24 zz fun x H1 I1 r1 ty q1=> ?_);obtain⟨h1,h2⟩:=ty _ _ _ _ I1 r1;refine⟨T,id,pa,slot,hty,h1,h2,?_⟩;have hA:=ha cpos pins s1 σ H1 _ I1 q1;rw[hs] at hA ⊢;exact DJ (by grind) (Calls.evalArgs_plain (thn hA fun us s2 zz=>sP zz fun vs H2 I2 r2 q2=> hm pins s2 σ H2 x vs v us Q I2 r1 r2 q2))
end
end L2
namespace CL
open PySem PySem.Spec L2 PySem.W
open PyProof.Rows hiding St
section
variable {X:Cx}{a b c e o i f value:Expr}{es:List Expr}{pos pos':Pos}
@[irreducible] def cGetQ:PV->List PV->CH->K1->Prop:=fun x ts C Q=>match x,ts with
 |.ref a,[y]=>match C a,kP y with
  |some (.dP kvs),some k=>Q ((wF kvs k).getD .non) C
  |_,_=>False
 |_,_=>False
@[irreducible] def cClearQ:PV->List PV->CH->K1->Prop:=fun x ts C Q=>match x,ts with
 |.ref a,[]=>match C a with
  |some (.dP kvs)=>Q .non (vQ C a (.dP []))
  |_=>False
 |_,_=>False
def hK:Key->Int
 |.inl (some k)=>hashInt k
 |.inl none=>4238894112
 |.inr _=>0
def pHash (k:Qv):Int:=reduceHash (Builtin.Tuple.tupleHashOf (k.map fun ks=>reduceHash (Builtin.Tuple.tupleHashOf (ks.map hK))))
def noT:Key->Bool
 |.inr _=>false
 |_=>true
@[irreducible] def cDictQ:GC:=fun ts C Q=>match ts with
 |[.ref a]=>match C a with
  |some (.dP kvs)=>(∀p∈kvs,p.1.all (fun ks=>ks.all noT)=true)/\(kvs.map fun p=>pHash p.1).Nodup/\∀p,C p=none->Q (.ref p) (vQ C p (.dP kvs))
  |_=>False
 |_=>False
@[irreducible] def cNeQ (d:Nat):R2C:=fun x y C Q=>match x,y with
 |.ref a,.ref b=>match C a,C b with
  |some (.dP xs),some (.dP ys)=>xs=ys/\(∀p∈xs,Pl d p.2)/\Q (.bl false) C
  |_,_=>False
 |_,_=>False
def kkLt (ks:List (List Str)):Nat->Nat->Bool:=fun i j=>HT.lexS (ks.getD i []) (ks.getD j [])
def ordK (ks:List (List Str)):List (List Str):=(kRun (kkLt ks) (kas_sort ks.length)).toList.map fun i=>ks.getD i []
def kkPV (k:List Str):PV:=.tup (k.map PV.str)
def kkOf:List (List Key×PV)->Option (List (List Str))
 |[]=>some []
 | ([.inr x,.inr y],_)::r=>(kkOf r).map ([x,y] :: ·)
 |_=>none
@[irreducible] def cSortedD:GC:=fun ts C Q=>match ts with
 |[.ref a]=>match C a with
  |some (.dT kvs)=>match kkOf kvs with
   |some ks=>ks.length < 64/\∀p,C p=none->Q (.ref p) (vQ C p (.lst ((ordK ks).map kkPV)))
   |none=>False
  |_=>False
 |_=>False
@[irreducible] def cIsiT:GC:=fun ts C Q=>match ts with
 |[.ref a,.ty n]=>match C a with
  |some (.dT _)=>n = "dict"/\Q (.bl true) C
  |_=>False
 |_=>False
end
end CL
namespace K02
open PySem L2
abbrev U0:List Str:=["_law_tape_here","_law_thing_here"]
abbrev U1:List Str:=["_law_one","_law_other_here"]
abbrev U2:List Str:=["_law_tape_here","_law_deep","_law_way","_law_some","_law_keys","_law_found","?"]
abbrev U3:List Str:=["_law_tape_here","_law_deep"]
abbrev U4:List Str:=["_law_script","_law_tape_here","_law_some","?","_law_twin"]
abbrev U5:List Str:=["_law_thing_here"]
abbrev U6:List Str:=["_law_tape_here"]
def top (i:Nat):Stmt:=PySem.Challenge.pw_viewwood_k02_alike.main.body.getD i (.Pass ⟨0,0,0,0⟩)
def tab:List CL.Row:=[
 ⟨none,"alike","alike",(top 1),["one","other"],["one","other","pairs","pair","inner"]⟩,
 ⟨none,"pairs_within","pairs_within",(top 2),["one","other"],["one","other","kind"]⟩,
 ⟨none,"dict_pairs","dict_pairs",(top 3),["one","other"],["one","other","own","key","pairs"]⟩,
 ⟨none,"kind_of","kind_of",(top 4),["thing"],["thing"]⟩,
 ⟨none,"_law_tape","_law_tape",(top 6),["_law_script"],["_law_script"]⟩,
 ⟨none,"_law_draw","_law_draw",(top 7),["_law_tape_here","_law_many"],["_law_tape_here","_law_many","_law_script","_law_digit","_law_cell","_law_mixed"]⟩,
 ⟨none,"_law_kind","_law_kind",(top 8),U5,["_law_thing_here","_law_sorts"]⟩,
 ⟨none,"_law_alike","_law_alike",(top 9),U1,["_law_one","_law_other_here","_law_sort","_law_key","_law_twins"]⟩,
 ⟨none,"_law_odd","_law_odd",(top 10),U6,["_law_tape_here","_law_some"]⟩,
 ⟨none,"_law_other","_law_other",(top 11),U0,["_law_tape_here","_law_thing_here","_law_way","_law_some","_law_at"]⟩,
 ⟨none,"_law_bent","_law_bent",(top 12),U0,["_law_tape_here","_law_thing_here","_law_some","_law_at"]⟩,
 ⟨none,"_law_single","_law_single",(top 13),U6,U6⟩,
 ⟨none,"_law_thing","_law_thing",(top 14),U3,["_law_tape_here","_law_deep","_law_way","_law_some","_law_keys","_law_found","_law_k"]⟩,
 ⟨none,"_law_copy","_law_copy",(top 15),U5,["_law_thing_here","_law_found","_law_key","_law_some"]⟩,
 ⟨none,"_law_bent_dict","_law_bent_dict",(top 16),U0,["_law_tape_here","_law_thing_here","_law_some","_law_key","_law_inner"]⟩,
 ⟨none,"_law_right","_law_right",(top 17),U1,["_law_one","_law_other_here","_law_due","_law_found"]⟩,
 ⟨none,"law","law",(top 18),["_law_script"],["_law_script","_law_tape_here","_law_some","_law_k","_law_twin"]⟩]
set_option genInjectivity false in
structure Adr where
 f:Nat->Addr
 d:Nat->FuncData
structure Txt (P:Program)(w:World)(K:DY)(mg:Str->Option Value)(a:Adr):Prop where
 F:∀(i:Nat) {k:Option Str} {nm q:Str} {st:Stmt} {ps N:List Str},tab[i]?=some ⟨k,nm,q,st,ps,N⟩->CL.FI K mg k nm q st ps N (a.f i) (a.d i)
 z_abs:mg "abs" = none
 vF:mg "bool" = none
 lH:mg "dict" = none
 bC:mg "int" = none
 yQ:mg "isinstance" = none
 mJ:mg "len" = none
 vK:mg "list" = none
 z_max:mg "max" = none
 z_min:mg "min" = none
 uW:mg "range" = none
 cH:mg "reversed" = none
 gC:mg "str" = none
 nZ:mg "tuple" = none
 z_zip:mg "zip" = none
theorem tab_ok:CL.AllR CL.RB tab:=by
 unfold tab
 repeat refine⟨⟨⟨rfl,rfl,rfl,by decide +kernel,rfl,by decide +kernel,by decide +kernel⟩,fun _ _ _ _ _ _=>by first | (refine CL.args1 ?_; exact fun _=>rfl) | (refine CL.args2 ?_; exact fun _ _=>rfl)⟩,?_⟩
 exact trivial
theorem txt_mk {P:Program}{w:World}{K:DY}{h:Heap}{mg:Str->Option Value}(X:K.In h)(G:h.Ns mainGlobals mg)
  (hf:CL.AllR (CL.FH K) tab)
  (z0:PySem.W.nsIn K mainGlobals "abs" = some none)
  (z1:PySem.W.nsIn K mainGlobals "bool" = some none)
  (z2:PySem.W.nsIn K mainGlobals "dict" = some none)
  (z3:PySem.W.nsIn K mainGlobals "int" = some none)
  (z4:PySem.W.nsIn K mainGlobals "isinstance" = some none)
  (z5:PySem.W.nsIn K mainGlobals "len" = some none)
  (z6:PySem.W.nsIn K mainGlobals "list" = some none)
  (z7:PySem.W.nsIn K mainGlobals "max" = some none)
  (z8:PySem.W.nsIn K mainGlobals "min" = some none)
  (z9:PySem.W.nsIn K mainGlobals "range" = some none)
  (z10:PySem.W.nsIn K mainGlobals "reversed" = some none)
  (z11:PySem.W.nsIn K mainGlobals "str" = some none)
  (z12:PySem.W.nsIn K mainGlobals "tuple" = some none)
  (z13:PySem.W.nsIn K mainGlobals "zip" = some none)
  : ∃a:Adr,Txt P w K mg a:=by
 obtain⟨f,d,F⟩:=CL.fi_all X G hf tab_ok
 exact⟨⟨f,d⟩,F,
  Au X G z0,
  Au X G z1,
  Au X G z2,
  Au X G z3,
  Au X G z4,
  Au X G z5,
  Au X G z6,
  Au X G z7,
  Au X G z8,
  Au X G z9,
  Au X G z10,
  Au X G z11,
  Au X G z12,
  Au X G z13⟩
structure Wd where
 P:Program
 w:World
 K:DY
 mg:Str->Option Value
 base:Heap
abbrev Tx (W:Wd)(a:Adr):Prop:=Txt W.P W.w W.K W.mg a
abbrev Ok (W:Wd)(a:Adr)(r i:Nat)(ps:List Str)(G:CL.GC):Prop:=FnOk W.P W.w W.K W.mg W.base CX0 r (a.f i) (a.d i) ps (CL.spC W.K G)
end K02
namespace TB
def step (M i:Nat):Nat:=(i * 5+1) % M
end TB
namespace TB
open PySem SetTable
structure TOk (t:SetTable)(k:Nat):Prop where
 mask:t.mask+1=2 ^ k
 dum:t.dummies = #[]
 few:t.place.size<=t.mask
end TB
namespace PySem
open Sem (wp)
open TB
section
variable {prog:Program}{w:World}{K:Type}[DecidableEq K]{knd:KeyKind prog w K}
variable (knd)
def entP (x:List (List K)×Addr):Int×Value:=(wJ knd x.1,.ref x.2)
structure PSet (h:Heap)(a:Addr)(xs:List (List (List K)×Addr))(o:Obj)(es:Array (Int×Value))(ep:Nat)(t:SetTable)(k:Nat):Prop where
 at':h.get? a=some o
 ex:o.ExactSet
 dat:o.data=.set es ep t
 tok:TOk t k
 size:t.place.size=es.size
 ents:es.toList=xs.map (entP knd)
 keys:∀x∈xs,IsPathKey knd h x.1 x.2
 big:2<=t.mask
variable {knd}{A:Around}{E:Value->Shared->Prop}{s:Shared}{a:Addr}{xs:List (List (List K)×Addr)}{o:Obj}{es:Array (Int×Value)}{ep:Nat}{t:SetTable}{k:Nat}
end
end PySem
namespace CL
open PySem PySem.Spec L2 PySem.W
open PyProof.Rows hiding St
section
variable {X:Cx}{e o:Expr}{es:List Expr}
@[irreducible] def cJoin:PV->List PV->CH->K1->Prop:=fun x ts C Q=>match x,ts with
 |.str sep,[.ref a]=>match C a with
  |some (.lst xs)=>∃zs:List Str,xs=zs.map PV.str/\(zs.map (·.length)).sum+zs.length * sep.length<=16777216/\Q (.str (Str.join sep zs)) C
  |_=>False
 |_,_=>False
def txI (i:Int):Str:=toString i
@[irreducible] def cStrI:GC:=fun ts C Q=>match ts with
 |[.int i]=>i.natAbs<=1000000000000/\Q (.str (txI i)) C
 |_=>False
end
section
variable {X:Cx}{e:Expr}{pos:Pos}
def wR:List PV->Option (List Qv)
 |[]=>some []
 |t::r=>match kP t,wR r with
  |some k,some ks=>some (k::ks)
  |_,_=>none
@[irreducible] def cLenSR:PV->CH->K1->Prop:=fun x C Q=>match x with
 |.ref a=>match C a with
  |some (.lst xs)=>∃ks,wR xs=some ks/\ks.Nodup/\ks.length<=9900/\Q (.int ks.length) C
  |_=>False
 |_=>False
@[irreducible] def cPNin:R2C:=fun y x C Q=>match x with
 |.ref a=>match C a,kP y with
  |some (.dP kvs),some k=>Q (.bl (!(wF kvs k).isSome)) C
  |_,_=>False
 |_=>False
@[irreducible] def cInE:R2C:=fun x y C Q=>match x,y with
 |.tup [],.ref a=>match C a with
  |some (.lst xs)=>(∀t∈xs,∃u us,t=.tup (u::us))/\Q (.bl false) C
  |_=>False
 |_,_=>False
@[irreducible] def cNeU (d:Nat):R2C:=fun x y C Q=>match x,y with
 |.tup xs,.tup ys=>xs=ys/\(∀t∈xs,Pl d t)/\Q (.bl false) C
 |_,_=>False
end
@[irreducible] def cLenQ:GC:=fun ts C Q=>match ts with
 |[.ref a]=>match C a with
  |some (.dP kvs)=>Q (.int kvs.length) C
  |_=>False
 |_=>False
end CL
namespace PySem
section
variable {prog:Program}{w:World}{A:Around}{E:Value->Shared->Prop}{s:Shared}
theorem sZ   {items}   (hit:s.heap.IsTupleIter it t i)
  (ht:s.heap.IsTuple t items) (hx:items[i]?=some x)
  (hQ:∀h',h'.IsTupleIter it t (i+1)->Heap.SameBut it s.heap h'->Q x { s with heap:=h' }) :
  wpAny (model prog w) A (Builtin.SmallTypes.nextOf (.ref it)) Q E s:=by
 obtain⟨o,ho,hc,hd⟩:=(id hit);obtain⟨ol,hol,_,nl,hdl⟩:=ht
 refine AA (Ar hit.typeIs B9
  (Ah B9 hit.typeIs F.entry_tuple_iterator_next ?_ (F.args_tuple_iterator_next_1 _)))
 show wpAny _ _ (field (.ref it) 0 >>= _) _ _ s;refine AA (Ab ho hd rfl (AA (Ab ho hd rfl (AA (Ag hol hdl ?_)))))
 simp only[Int.toNat_natCast,hx]
 refine AA (DS ho hd (by simp) (AB ⟨x,rfl,AB (hQ _ ?_ (An ..))⟩))
 exact⟨_,Am _ ho (Obj.isFreed_of_fields (Obj.data_mapFields hd _)),(Obj.cls_mapFields ..).trans hc,by
  rw[Obj.data_mapFields hd]; simp[rawInt]⟩
theorem wV   {items}  (hh:A.handled=none)
  (hit:s.heap.IsTupleIter it t i) (ht:s.heap.IsTuple t items) (hx:items[i]?=none)
  (hE:∀h' e,Heap.ExtBut it s.heap h'->(∃o,h'.get? e=some o/\o.cls=.type "StopIteration")->E (.ref e) { s with heap:=h' }) :
  wpAny (model prog w) A (Builtin.SmallTypes.nextOf (.ref it)) Q E s:=by
 obtain⟨o,ho,hc,hd⟩:=(id hit);obtain⟨ol,hol,_,nl,hdl⟩:=ht
 refine AA (Ar hit.typeIs B9
  (Ah B9 hit.typeIs F.entry_tuple_iterator_next ?_ (F.args_tuple_iterator_next_1 _)))
 show wpAny _ _ (field (.ref it) 0 >>= _) _ _ s;refine AA (Ab ho hd rfl (AA (Ab ho hd rfl (AA (Ag hol hdl ?_)))))
 simp only[Int.toNat_natCast,hx]
 refine AA (A7 (AA (DS ho hd (by simp) ?_)))
 apply AA
 refine AA (B0 (AA (wpAny_of_eq (by first | rfl | (rfl)) ?_)) (by size_fits));refine B0 (AA (wpAny_handled ?_)) (by size_fits)
 first | rw[show A.in1.handled=none from hh] | rw[hh]
 refine AA (AB (wpAny_throw (hE _ _ (((An ..).extBut.push _).push _) ⟨_,AK _ rfl,rfl⟩)))
abbrev xY (h:Heap)(z TI TO T:Addr)(f:Bool):Prop :=
 h.get? z=some { cls:=.type "zip",dict:=none,data:=.fields #[rawInt T,.bool f,.bool false,.ref TI,.ref TO],slots:=#[] }
structure ZIt (h:Heap)(z TI i1 i2 l1 l2:Addr)(xs ys:Array Value)(i:Nat):Prop where
 it:IsPair h TI (.ref i1) (.ref i2)
 a:h.IsTupleIter i1 l1 i
 b:h.IsTupleIter i2 l2 i
 x:h.IsTuple l1 xs
 y:h.IsTuple l2 ys
theorem pZ {h h':Heap}   (x:h.IsTuple t xs)(k:∀o,h.get? t=some o->h'.get? t=some o):h'.IsTuple t xs:=let ⟨o,e,r⟩:=x; ⟨o,k o e,r⟩
theorem rX {h h':Heap}   (x:h.IsTupleIter i t n)(k:∀o,h.get? i=some o->h'.get? i=some o):h'.IsTupleIter i t n:=let ⟨o,e,r⟩:=x; ⟨o,k o e,r⟩
theorem nG     {Q:Value->Shared->Prop}(D:ZipApart z TI TO i1 i2 l1 l2)
  (hz:IsZip s.heap z TI TO .none) (hTI:IsPair s.heap TI (.ref i1) (.ref i2)) (hTO:IsPair s.heap TO a b)
  (h1:s.heap.IsTupleIter i1 l1 k1) (h2:s.heap.IsTupleIter i2 l2 k2) (hl1:s.heap.IsTuple l1 xs) (hl2:s.heap.IsTuple l2 ys) (hx:xs[k1]?=some x) (hy:ys[k2]?=some y)
  (hQ:∀h',xY h' z TI TO s.heap.objs.size false->h'.IsTupleIter i1 l1 (k1+1)->h'.IsTupleIter i2 l2 (k2+1)->IsPair h' s.heap.objs.size x y->h'.objs.size=s.heap.objs.size+1 ->
   (∀c o,c≠z->c≠TO->c≠i1->c≠i2->s.heap.get? c=some o->h'.get? c=some o)->Q (.ref s.heap.objs.size) { s with heap:=h' }) :
  wpAny (model prog w) A (Builtin.«zip.__next__» ⟨[.ref z],[]⟩) (fun fin s'=>∃v,fin=.done (.ret v)/\Q v s') E s:=by
 show wpAny _ _ (field (.ref z) 2 >>= _) _ _ _;refine AA (Ab hz rfl rfl (AA (Ab hz rfl rfl (AA (Ag hTI rfl (AA ?_))))))
 delta Builtin.SmallTypes.ownedTupleIsFree
 refine AA (Ab hz rfl rfl (AB ?_));refine AA (A7 (AA (Ab hz rfl rfl (AA (A3 hz (by simp) fun h₁ hz₁ hs₁=>?_)))))
 replace hz₁:IsZip h₁ z TI TO .ellipsis:=hz₁
 apply AA
 refine AA (AA (Cf (AA (sZ (h1.extBut hs₁.extBut D.i1z) (hl1.extBut hs₁.extBut D.l1z) hx fun h₂ h1₂ hs₂=>AB ?_))));have hTO₂:=hs₂.extBut _ _ D.TOi1 (hs₁.extBut _ _ D.TOz hTO);refine AA (Ag hTO₂ rfl (AA (Ci hTO₂ fun h₃ hTO₃ hs₃=>?_)))
 replace hTO₃:IsPair h₃ TO x b:=hTO₃
 refine AA (B5 (AB (AA (AA (Cf (AA (sZ (((h2.extBut hs₁.extBut D.i2z).extBut hs₂.extBut D.i12.symm).extBut hs₃.extBut D.TOi2.symm)
  (((hl2.extBut hs₁.extBut D.l2z).extBut hs₂.extBut D.l2i1).extBut hs₃.extBut D.l2TO) hy fun h₄ h2₄ hs₄=>AB ?_)))))))
 have hTO₄:=hs₄.extBut _ _ D.TOi2 hTO₃;refine AA (Ag hTO₄ rfl (AA (Ci hTO₄ fun h₅ hTO₅ hs₅=>?_)))
 replace hTO₅:IsPair h₅ TO x y:=hTO₅
 refine AA (B5 (AB (AB (AA (Ag hTO₅ rfl (AA (DT ?_)))))));have hsz:h₅.objs.size=s.heap.objs.size:=by rw[hs₅.1,hs₄.1,hs₃.1,hs₂.1,hs₁.1]
 have hz₅:=hs₅.extBut _ _ D.TOz.symm (hs₄.extBut _ _ D.i2z.symm (hs₃.extBut _ _ D.TOz.symm (hs₂.extBut _ _ D.i1z.symm hz₁)))
 have hk₅:∀c o,c≠z->c≠TO->c≠i1->c≠i2->s.heap.get? c=some o->h₅.get? c=some o:=fun c o c1 c2 c3 c4 e =>
  hs₅.extBut _ _ c2 (hs₄.extBut _ _ c4 (hs₃.extBut _ _ c2 (hs₂.extBut _ _ c3 (hs₁.extBut _ _ c1 e))))
 have h1₅:=((h1₂.extBut hs₃.extBut D.TOi1.symm).extBut hs₄.extBut D.i12).extBut hs₅.extBut D.TOi1.symm;have hzlt:=AF hz₅
 apply AA
 have hz₆:IsZip (h₅.push { cls:=.type "tuple",data:=.seq #[x,y] }) z TI TO .ellipsis:=AC _ hz₅;refine AA (A3 hz₆ (by simp) fun h₇ hz₇ hs₇=>?_)
 replace hz₇:IsZip h₇ z TI TO (rawInt h₅.objs.size):=hz₇
 refine A3 hz₇ (by simp) fun h₈ hz₈ hs₈=>?_
 replace hz₈:xY h₈ z TI TO h₅.objs.size false:=hz₈
 have up:∀c o,c≠z->h₅.get? c=some o->h₈.get? c=some o:=fun c o c1 e=>hs₈.extBut _ _ c1 (hs₇.extBut _ _ c1 (AC _ e));have hT₈:=hs₈.extBut _ _ (Ay hzlt) (hs₇.extBut _ _ (Ay hzlt) (AK _ rfl));have hz8:h₈.objs.size=h₅.objs.size+1:=by rw[hs₈.1,hs₇.1,B8]
 rw[hsz] at hz₈ hT₈ hz8;refine AB ⟨_,rfl,?_⟩;rw[hsz];exact hQ h₈ hz₈ (rX h1₅ fun o e=>up _ o D.i1z e) (rX (h2₄.extBut hs₅.extBut D.TOi2.symm) fun o e=>up _ o D.i2z e) hT₈ hz8 fun c o c1 c2 c3 c4 e=>up c o c1 (hk₅ c o c1 c2 c3 c4 e)
theorem iY    (hz:xY s.heap z TI TO T f)(hT:s.heap.get? T=some oT):
  wpAny (model prog w) A (Builtin.SmallTypes.ownedTupleIsFree (.ref z)) (fun b s₁=>∃h₁,b=false/\s₁={ s with heap:=h₁ }/\xY h₁ z TI TO T true/\Heap.SameBut z s.heap h₁) E s:=by
 refine AA (Ab hz rfl rfl (AA (W.kdx_alive hT (AA (Ab hz rfl rfl ?_)))))
 cases f with
 |true =>
  exact AB ⟨_,rfl,rfl,hz,Heap.SameBut.refl _ _⟩
 |false =>
  refine AA (A3 hz (by simp) fun h₃ he₃ hs₃=>?_);exact AB ⟨_,rfl,rfl,he₃,hs₃⟩
theorem rG       {Q:Value->Shared->Prop}(D:ZipApart z TI TO i1 i2 l1 l2)
  (hz:xY s.heap z TI TO T f) (hT:s.heap.get? T=some oT) (hTz:T≠z) (hTI:IsPair s.heap TI (.ref i1) (.ref i2))
  (h1:s.heap.IsTupleIter i1 l1 k1) (h2:s.heap.IsTupleIter i2 l2 k2) (hl1:s.heap.IsTuple l1 xs) (hl2:s.heap.IsTuple l2 ys) (hx:xs[k1]?=some x) (hy:ys[k2]?=some y)
  (hQ:∀h',xY h' z TI TO T true->h'.IsTupleIter i1 l1 (k1+1)->h'.IsTupleIter i2 l2 (k2+1)->IsPair h' s.heap.objs.size x y->h'.objs.size=s.heap.objs.size+1 ->
   (∀c o,c≠z->c≠i1->c≠i2->s.heap.get? c=some o->h'.get? c=some o)->Q (.ref s.heap.objs.size) { s with heap:=h' }) :
  wpAny (model prog w) A (Builtin.«zip.__next__» ⟨[.ref z],[]⟩) (fun fin s'=>∃v,fin=.done (.ret v)/\Q v s') E s:=by
 show wpAny _ _ (field (.ref z) 2 >>= _) _ _ _;refine AA (Ab hz rfl rfl (AA (Ab hz rfl rfl (AA (Ag hTI rfl (AA (Bd (iY hz hT) ?_ fun _ _ h=>h)))))));rintro b s₁ ⟨h₁,rfl,rfl,hz₁,hs₁⟩
 simp only[ if_false]
 rw[<- BM];refine AA (AA (AA (Af (AA (sZ (h1.extBut hs₁.extBut D.i1z) (hl1.extBut hs₁.extBut D.l1z) hx fun h₂ h1₂ hs₂=>AB (AB (AA (AA (Af (AA (sZ (s:={ s with heap:=h₂ }) ((h2.extBut hs₁.extBut D.i2z).extBut hs₂.extBut D.i12.symm) ((hl2.extBut hs₁.extBut D.l2z).extBut hs₂.extBut D.l2i1) hy fun h₃ h2₃ hs₃=>AB (AB (AB (AA (DT (hsz:=zS0 2 rfl) ?_)))))))))))))))
 have hsz:h₃.objs.size=s.heap.objs.size:=by rw[hs₃.1,hs₂.1,hs₁.1]
 refine AB ⟨_,rfl,?_⟩;have hT₃:IsPair (h₃.push { cls:=.type "tuple",data:=.seq #[x,y] }) h₃.objs.size x y:=AK _ rfl;rw[hsz] at hT₃ ⊢
 exact hQ _ (AC _ (hs₃.extBut _ _ D.i2z.symm (hs₂.extBut _ _ D.i1z.symm hz₁))) (rX (h1₂.extBut hs₃.extBut D.i12) fun o e=>AC _ e) (rX h2₃ fun o e=>AC _ e) hT₃ (by simp_all)
  fun c o c1 c2 c3 e=>AC _ (hs₃.extBut _ _ c3 (hs₂.extBut _ _ c2 (hs₁.extBut _ _ c1 e)))
theorem mH     (hh:A.handled=none)(D:ZipApart z TI TO i1 i2 l1 l2)
  (hz:IsZip s.heap z TI TO .none\/∃T f oT,xY s.heap z TI TO T f/\s.heap.get? T=some oT) (hTI:IsPair s.heap TI (.ref i1) (.ref i2))
  (h1:s.heap.IsTupleIter i1 l1 k1) (hl1:s.heap.IsTuple l1 xs) (hx:xs[k1]?=none)
  (hE:∀h' e,(∀c o,c≠z->c≠i1->s.heap.get? c=some o->h'.get? c=some o)->(∃o,h'.get? e=some o/\o.cls=.type "StopIteration")->E (.ref e) { s with heap:=h' }) :
  wpAny (model prog w) A (Builtin.«zip.__next__» ⟨[.ref z],[]⟩) Q E s:=by
 rcases hz with hz | ⟨T,f,oT,hz,hT⟩
 .show wpAny _ _ (field (.ref z) 2 >>= _) _ _ _
  refine AA (Ab hz rfl rfl (AA (Ab hz rfl rfl (AA (Ag hTI rfl (AA (AA (Ab hz rfl rfl (AB (AA (A7 (AA (Ab hz rfl rfl (AA (A3 hz (by simp) fun h₁ hz₁ hs₁=>?_)))))))))))))))
  replace hz₁:IsZip h₁ z TI TO .ellipsis:=hz₁
  apply AA
  refine AA (AA (Cf (AA (wV hh (h1.extBut hs₁.extBut D.i1z) (hl1.extBut hs₁.extBut D.l1z) hx fun h₂ e hs₂ he=>hZ he fun oe hoe hce=>?_))));have hz₂:=hs₂ _ _ D.i1z.symm hz₁;have hez:e≠z:=fun x=>by subst x; rw[hz₂] at hoe; cases hoe; simp at hce
  exact A3 hz₂ (by simp) fun h₃ _ hs₃=>hE h₃ e (fun c o c1 c3 x=>hs₃.extBut _ _ c1 (hs₂ _ _ c3 (hs₁.extBut _ _ c1 x))) ⟨oe,hs₃.extBut _ _ hez hoe,hce⟩
 .show wpAny _ _ (field (.ref z) 2 >>= _) _ _ _
  refine AA (Ab hz rfl rfl (AA (Ab hz rfl rfl (AA (Ag hTI rfl (AA (Bd (iY hz hT) ?_ fun _ _ h=>h)))))));rintro b s₁ ⟨h₁,rfl,rfl,hz₁,hs₁⟩;exact AA (AA (AA (Af (AA (wV hh (h1.extBut hs₁.extBut D.i1z) (hl1.extBut hs₁.extBut D.l1z) hx fun h₂ e hs₂ he=>hE h₂ e (fun c o c1 c3 x=>hs₂ _ _ c3 (hs₁.extBut _ _ c1 x)) he)))))
def ZSt (h:Heap)(z TI TO i1 i2 l1 l2 S:Addr)(xs ys:Array Value)(i:Nat):Prop :=
 ((i=0/\IsZip h z TI TO .none/\∃a b,IsPair h TO a b)\/∃T f oT,xY h z TI TO T f/\h.get? T=some oT/\T≠z/\T≠i1/\T≠i2/\T≠S)/\ZIt h z TI i1 i2 l1 l2 xs ys i
theorem ZIt.at     (x:ZIt h z TI i1 i2 l1 l2 xs ys i)(k:∀b o,(b=TI\/b=i1\/b=i2\/b=l1\/b=l2)->h.get? b=some o->h'.get? b=some o):ZIt h' z TI i1 i2 l1 l2 xs ys i :=
 ⟨k _ _ (.inl rfl) x.it,rX x.a fun o e=>k _ o (.inr (.inl rfl)) e,rX x.b fun o e=>k _ o (.inr (.inr (.inl rfl))) e,pZ x.x fun o e=>k _ o (.inr (.inr (.inr (.inl rfl)))) e,pZ x.y fun o e=>k _ o (.inr (.inr (.inr (.inr rfl)))) e⟩
theorem xF      (D:ZipApart z TI TO i1 i2 l1 l2)(hl:l1≠TI/\l2≠TI)
  (hst:ZSt s.heap z TI TO i1 i2 l1 l2 S xs ys i) (hS:S < s.heap.objs.size) (hx:xs[i]?=some x) (hy:ys[i]?=some y)
  (hQ:∀h',ZSt h' z TI TO i1 i2 l1 l2 S xs ys (i+1)->IsPair h' s.heap.objs.size x y->h'.objs.size=s.heap.objs.size+1 ->
   (∀c o,c≠z->c≠TO->c≠i1->c≠i2->s.heap.get? c=some o->h'.get? c=some o)->Q (some (.ref s.heap.objs.size)) { s with heap:=h' }) :
  wpAny (model prog w) A (pyNext (.ref z)) Q E s:=by
 obtain⟨hz,zi⟩:=hst;have lt:∀{c o},s.heap.get? c=some o->s.heap.objs.size≠c:=fun e=>Ay (AF e);have n1:=let ⟨o,e,_⟩:=zi.a; lt e
 have n2:=let ⟨o,e,_⟩:=zi.b; lt e
 have hT:s.TypeIs (.ref z) "zip":=by
  rcases hz with ⟨_,hz,_⟩ | ⟨_,_,_,hz,_⟩
  .exact ⟨_,hz,rfl⟩
  .exact ⟨_,hz,rfl⟩
 refine AA (Cg (Ar hT Bj (Ah Bj hT DG ?_ (Cy _))))
 rcases hz with ⟨e0,hz,a,b,hTO⟩ | ⟨T,f,oT,hz,hoT,nz,ni1,ni2,nS⟩
 .refine nG D hz zi.it hTO zi.a zi.b zi.x zi.y hx hy fun h' a1 a2 a3 a4 a5 a6=>AB (hQ h' ⟨.inr ⟨_,false,_,a1,a4,lt hz,n1,n2,Ay hS⟩,⟨a6 _ _ D.TIz D.TITO D.TIi1 D.TIi2 zi.it,a2,a3,pZ zi.x fun o e=>a6 _ o D.l1z D.l1TO D.l1i1 D.l1i2 e,pZ zi.y fun o e=>a6 _ o D.l2z D.l2TO D.l2i1 D.l2i2 e⟩⟩ a4 a5 a6)
 .refine rG D hz hoT nz zi.it zi.a zi.b zi.x zi.y hx hy fun h' a1 a2 a3 a4 a5 a6=>AB (hQ h' ⟨.inr ⟨T,true,oT,a1,a6 _ _ nz ni1 ni2 hoT,nz,ni1,ni2,nS⟩,⟨a6 _ _ D.TIz D.TIi1 D.TIi2 zi.it,a2,a3,pZ zi.x fun o e=>a6 _ o D.l1z D.l1i1 D.l1i2 e,pZ zi.y fun o e=>a6 _ o D.l2z D.l2i1 D.l2i2 e⟩⟩ a4 a5 fun c o c1 _ c3 c4 e=>a6 c o c1 c3 c4 e)
theorem kF     (hh:A.handled=none)(D:ZipApart z TI TO i1 i2 l1 l2)
  (hst:ZSt s.heap z TI TO i1 i2 l1 l2 S xs ys i) (hx:xs[i]?=none)
  (hQ:∀h',(∀c o,c≠z->c≠i1->s.heap.get? c=some o->h'.get? c=some o)->Q none { s with heap:=h' }) :
  wpAny (model prog w) A (pyNext (.ref z)) Q E s:=by
 obtain⟨hz,zi⟩:=hst
 have hT:s.TypeIs (.ref z) "zip":=by
  rcases hz with ⟨_,hz,_⟩ | ⟨_,_,_,hz,_⟩
  .exact ⟨_,hz,rfl⟩
  .exact ⟨_,hz,rfl⟩
 refine AA (Cg (Ar hT Bj
  (Ah Bj hT DG (mH hh D (by grind) zi.it zi.a zi.x hx fun h' e hk he=>?_) (Cy _))))
 exact hZ he fun o ho hc=>AA (BL ⟨o,ho,hc⟩ isSubtype_stop (AB (hQ _ hk)))
end
structure ZG (xs ys:Array Value)(lo:Addr)(h:Heap)(as:List Addr):Prop where
 rise:as.Pairwise (· < ·)
 above:∀a∈as,lo < a
 pairs:∀(j:Nat) (a:Addr),as[j]?=some a->∃x y,xs[j]?=some x/\ys[j]?=some y/\IsPair h a x y
section
variable {prog:Program}{w:World}{A:Around}{s:Shared}{R:Result->Shared->Prop}{xs ys:Array Value}
theorem jF  (hh:A.handled=none)(D:ZipApart z TI TO i1 i2 l1 l2)(hl:l1≠TI/\l2≠TI)(hSn:S≠z/\S≠TI/\S≠TO/\S≠i1/\S≠i2/\S≠l1/\S≠l2)  (hlo:S<=lo/\z<=lo/\TO<=lo/\i1<=lo/\i2<=lo)(he:xs.size=ys.size)(hn:xs.size<=sizeLine) res {h₁:Heap}
  (hR:∀h' tk acc c as,(∀b o,b≠S->b≠z->b≠TO->b≠i1->b≠i2->h₁.get? b=some o->h'.get? b=some o)->h'.get? S=some { cls:=.type "list",dict:=none,data:=.seq acc c,slots:=#[] }->as.length=xs.size->ZG xs ys lo h' as ->
   acc.toList=as.map Value.ref->R (.ok (.ret res)) { s with heap:=h',toks:=tk }) :
  ∀k i h tk c acc as,xs.size - i=k->i<=xs.size->ZSt h z TI TO i1 i2 l1 l2 S xs ys i->(∀b o,b≠S->b≠z->b≠TO->b≠i1->b≠i2->h₁.get? b=some o->h.get? b=some o) ->
   h.get? S=some { cls:=.type "list",dict:=none,data:=.seq acc c,slots:=#[] }->acc.toList=as.map Value.ref->as.length=i->ZG xs ys lo h as->lo < h.objs.size ->
   codeAny (model prog w) A (.builtin "list.extend.loop" ⟨[.ref S,.ref z,res],[]⟩) R { s with heap:=h,toks:=tk }:=by
 have hne:=hSn.1;intro k
 induction k with
 |zero =>
  intro i h tk c acc as hk hi hst hkeep hS hacc hal hG hlt
  apply DN CD
  refine AA (kF hh D hst (Cb (by lia)) fun h' he'=>?_);refine AB (hR h' tk acc c as (fun b o b1 b2 b3 b4 b5 e=>he' b o b2 b4 (hkeep b o b1 b2 b3 b4 b5 e)) (he' S _ hne hSn.2.2.2.1 hS) (by lia) ⟨hG.rise,hG.above,fun j a hj=>?_⟩ hacc);obtain⟨x,y,e1,e2,e3⟩:=(hG.pairs j a hj);have ab:=hG.above a (AE hj);exact⟨x,y,e1,e2,he' a _ (Ay (Aq hlo.2.1 ab)) (Ay (Aq hlo.2.2.2.1 ab)) e3⟩
 |succ k ih =>
  intro i h tk c acc as hk hi hst hkeep hS hacc hal hG hlt;have hix:i < xs.size:=by lia
  have hiy:i < ys.size:=by lia
  have hsz:acc.size=i:=by rw[<- A1,hacc,AD,hal]
  have hSl:=AF hS
  apply DN CD
  refine AA (xF D hl hst hSl (AU hix) (AU hiy) fun h' hst' ht hz hkp=>?_);dsimp only at ht hz hkp ⊢;have hS':=hkp S _ hne hSn.2.2.1 hSn.2.2.2.1 hSn.2.2.2.2.1 hS;have up:∀b o,b≠S->h'.get? b=some o->(h'.update S (Obj.mapSeq (·.push (Value.ref h.objs.size)))).get? b=some o:=fun b o hb e=>(BH _ _ (Ne.symm hb)).trans e
  apply AA
  have hst2:ZSt (h'.update S (Obj.mapSeq (·.push (Value.ref h.objs.size)))) z TI TO i1 i2 l1 l2 S xs ys (i+1):=by
   refine⟨?_,hst'.2.at fun b o hb e=>up b o (fun z=>?_) e⟩
   .rcases hst'.1 with ⟨e0,_⟩ | ⟨T,f,oT,g1,g2,g3,g4,g5,g6⟩
    .cases e0
    .exact .inr ⟨T,f,oT,up _ _ hne.symm g1,up _ _ g6 g2,g3,g4,g5,g6⟩
   .rcases hb with rfl | rfl | rfl | rfl | rfl
    .exact hSn.2.1 z.symm
    .exact hSn.2.2.2.1 z.symm
    .exact hSn.2.2.2.2.1 z.symm
    .exact hSn.2.2.2.2.2.1 z.symm
    .exact hSn.2.2.2.2.2.2 z.symm
  refine Bh hS' rfl (AB ⟨plainId_quiet PySem.F.plain_extend_loop _,ih (i+1) _ tk _ (acc.push (Value.ref h.objs.size)) (as++[h.objs.size]) (by lia) hix hst2
   (fun b o b1 b2 b3 b4 b5 e=>up b o b1 (hkp b o b2 b3 b4 b5 (hkeep b o b1 b2 b3 b4 b5 e))) (Am _ hS' rfl) (by rw[Array.toList_push,hacc,Ap]; rfl) (by rw[AM,hal]; rfl) ⟨?_,?_,?_⟩ ?_⟩) (by lia) (by rw[Array.size_push,hsz]; lia)
  .refine List.pairwise_append.mpr ⟨hG.rise,List.pairwise_singleton _ _,fun a ha b hb=>?_⟩
   rw[AW.mp hb];obtain⟨j,hj⟩:=AZ.mp ha;exact sP (hG.pairs j a hj) fun _ _ _ _ e=>AF e
  .intro a ha
   rcases AS.mp ha with ha | ha
   .exact hG.above a ha
   .rwa [AW.mp ha]
  .intro j b hj
   rcases Nat.lt_trichotomy j as.length with h1 | h1 | h1
   .rw [CK h1] at hj
    obtain⟨x,y,e1,e2,e3⟩:=(hG.pairs j b hj);have nb:∀{q:Addr},q<=lo->b≠q:=fun hq=>Ay (Aq hq (hG.above b (AE hj)));exact⟨x,y,e1,e2,up b _ (nb hlo.1) (hkp b _ (nb hlo.2.1) (nb hlo.2.2.1) (nb hlo.2.2.2.1) (nb hlo.2.2.2.2) e3)⟩
   .subst h1
    have hb:h.objs.size=b:=by simpa using hj
    subst hb;exact⟨_,_,by rw[hal]; exact AU hix,by rw[hal]; exact AU hiy,up _ _ (Ay hSl) ht⟩
   .have hnone:(as++[h.objs.size])[j]?=none:=Bz (by rw[AM,Ak]; lia)
    rw[hnone] at hj; cases hj
  .exact Nat.lt_trans hlt (AF (up _ _ (Ay hSl) ht))
end
theorem sG:typeLookup (.type "zip") "__len__" = pure none:=by rw[typeLookup_type,builtinLookup_eq_fast]; kernel_rfl
theorem rY:typeLookup (.type "zip") "__length_hint__" = pure none:=by rw[typeLookup_type,builtinLookup_eq_fast]; kernel_rfl
section
variable {prog:Program}{w:World}{A:Around}{E:Value->Shared->Prop}{s:Shared}{xs ys:Array Value}
theorem zt_list  (hh:A.handled=none)  (D:ZipApart z TI TO i1 i2 l1 l2)(hl:l1≠TI/\l2≠TI)(hz:IsZip s.heap z TI TO .none)(hTO:IsPair s.heap TO .none .none)(zi:ZIt s.heap z TI i1 i2 l1 l2 xs ys 0)
  (he:xs.size=ys.size) (hn:xs.size<=sizeLine)
  (hQ:∀h' tk acc c as,(∀b o,b≠z->b≠TO->b≠i1->b≠i2->s.heap.get? b=some o->h'.get? b=some o)->h'.get? s.heap.objs.size=some { cls:=.type "list",dict:=none,data:=.seq acc c,slots:=#[] }->as.length=xs.size->ZG xs ys s.heap.objs.size h' as ->
   acc.toList=as.map Value.ref->Q (.ref s.heap.objs.size) { s with heap:=h',toks:=tk }) :
  wpAny (model prog w) A (call (.type "list") [.ref z]) Q E s:=by
 have lz:=AF hz;have lTO:=AF hTO;have lTI:=AF zi.it;have li1:=let ⟨o,e,_⟩:=zi.a; AF e
 have li2:=let ⟨o,e,_⟩:=zi.b; AF e
 have ll1:=let ⟨o,e,_⟩:=zi.x; AF e
 have ll2:=let ⟨o,e,_⟩:=zi.y; AF e
 refine callType_codes (Q₁:=fun obj s₁=>obj=.ref s.heap.objs.size/\s₁={ s with heap:=s.heap.push { cls:=.type "list",data:=.seq #[] } }) F.called_list (F.typeCall_list_1 _) F.entry_list_init
  (code_list_new _ ⟨rfl,rfl⟩) fun obj s₁ h₁=>?_
 obtain⟨rfl,rfl⟩:=h₁;generalize hSe:s.heap.objs.size=S at *
 have hS:(s.heap.push { cls:=.type "list",data:=.seq #[] }).get? S=some { cls:=.type "list",data:=.seq #[] } :=hSe▸AK _ rfl;have hps:∀b o,s.heap.get? b=some o->(s.heap.push { cls:=.type "list",data:=.seq #[] }).get? b=some o:=fun b o e=>AC _ e;have hsz1:(s.heap.push { cls:=.type "list",data:=.seq #[] }).objs.size=S+1:=by rw[B8,hSe]
 generalize s.heap.push { cls:=.type "list",data:=.seq #[] }=g at hS hps hsz1 ⊢;refine⟨⟨_,hS,rfl⟩,F.args_list_init_2 _ _,AA ?_⟩
 delta Builtin.List.listItems
 refine AA (Ag hS rfl (AB (AA (Bh hS rfl ?_))));have hS₂:=Am (Obj.mapSeq (fun _=>(#[]:Array Value))) hS rfl;refine AA (B5 ?_);have oth:∀f b o (g:Heap),b≠S->g.get? b=some o->(g.update S (Obj.mapSeq f)).get? b=some o:=fun f b o g hb e=>(BH _ _ (Ne.symm hb)).trans e;have nS:∀{b:Addr},b < S->b≠S:=fun h=>A5 h
 have hps2:∀b o,b≠S->s.heap.get? b=some o->(g.update S (Obj.mapSeq (fun _=>(#[]:Array Value)))).get? b=some o:=fun b o hb e=>oth _ b o g hb (hps b o e);have hsz2:(g.update S (Obj.mapSeq (fun _=>(#[]:Array Value)))).objs.size=S+1 :=hsz1▸(An ..).1;generalize g.update S (Obj.mapSeq (fun _=>(#[]:Array Value)))=g2 at hS₂ hps2 hsz2 ⊢;have hT:Shared.TypeIs { s with heap:=g2 } (.ref z) "zip":=⟨_,hps2 z _ (nS lz) hz,rfl⟩
 delta Builtin.List.listExtendWith
 refine AA (wpAny_typeOf hT ?_);have h1:Builtin.List.listSameRef (.ref S) (.ref z)=false:=by simp[Builtin.List.listSameRef,Ne.symm (nS lz)]
 have h2:(Value.type "zip" == Value.type "list")=false:=by decide
 have h3:(Value.type "zip" == Value.type "tuple")=false:=by decide
 simp only[h1,h2,h3,Bool.or_false,Bool.false_eq_true,if_false]
 refine AA (wpAny_pyIter_zip (hps2 z _ (nS lz) hz) (AA (Af ?_)))
 delta Builtin.List.listLengthHint
 refine AA (As hT sG (AA (As hT rY (AB ?_))));rw[A4 (by simp)];refine AA (A7 (AA (AA (Bh hS₂ rfl ?_))));have hS₃:=Am (Obj.mapSeq (·.push Value.none)) hS₂ rfl
 apply Bh hS₃ rfl
 have hS₄:=Am (Obj.mapSeq (·.pop)) hS₃ rfl;have hps4:∀b o,b≠S->s.heap.get? b=some o->((g2.update S (Obj.mapSeq (·.push Value.none))).update S (Obj.mapSeq (·.pop))).get? b=some o:=fun b o hb e=>oth _ b o _ hb (oth _ b o _ hb (hps2 b o hb e));have hsz4:((g2.update S (Obj.mapSeq (·.push Value.none))).update S (Obj.mapSeq (·.pop))).objs.size=S+1:=by rw[(An ..).1,(An ..).1,hsz2]
 generalize (g2.update S (Obj.mapSeq (·.push Value.none))).update S (Obj.mapSeq (·.pop))=g4 at hS₄ hps4 hsz4 ⊢
 refine AB ⟨plainId_quiet F.plain_extend_loop _,jF (A:=A.in1) hh D hl ⟨Ne.symm (nS lz),Ne.symm (nS lTI),Ne.symm (nS lTO),Ne.symm (nS li1),Ne.symm (nS li2),Ne.symm (nS ll1),Ne.symm (nS ll2)⟩ ⟨AG _,BC lz,BC lTO,BC li1,BC li2⟩ he hn .none (fun h' tk acc c as kp e ha hG hac=>?_)
  xs.size 0 g4 s.toks _ #[] [] (Nat.sub_zero _) (A0 _) ⟨.inl ⟨rfl,hps4 z _ (nS lz) hz,_,_,hps4 TO _ (nS lTO) hTO⟩,zi.at fun b o hb e=>hps4 b o (by rcases hb with rfl | rfl | rfl | rfl | rfl<;>exact nS ‹_›) e⟩ (fun b o hb _ _ _ _ e=>hps4 b o hb e) hS₄ rfl rfl ⟨List.Pairwise.nil,(fun _ ha=>nomatch ha),(fun j a hj=>by simp at hj)⟩ (hsz4▸CC _)⟩
 exact⟨rfl,hQ h' tk acc c as (fun b o b1 b2 b3 b4 e2=>kp b o (fun q=>by rw[q] at e2; have:=AF e2; rw[hSe] at this; exact BF _ this) b1 b2 b3 b4 e2) e ha hG hac⟩
abbrev zpI (l:Addr):Obj:={ cls:=.type "tuple_iterator",data:=.fields #[.ref l,.int 0 0] }
abbrev zpP (a b:Value):Obj:={ cls:=.type "tuple",data:=.seq #[a,b] }
abbrev zpZ (TI TO:Addr):Obj:={ cls:=.type "zip",data:=.fields #[.none,.bool false,.bool false,.ref TI,.ref TO] }
theorem meets_zipT_new l1 l2 xs ys :
  Meets (Builtin.«zip.__new__» ⟨[.type "zip",.ref l1,.ref l2],[]⟩) (fun _ R s=>s.heap.IsTuple l1 xs/\s.heap.IsTuple l2 ys /\
   R (.ok (.ret (.ref ((((s.heap.push (zpI l1)).push (zpI l2)).push (zpP (.ref s.heap.objs.size) (.ref (s.heap.push (zpI l1)).objs.size))).push (zpP .none .none)).objs.size))) { s with heap:=((((s.heap.push (zpI l1)).push (zpI l2)).push (zpP (.ref s.heap.objs.size) (.ref (s.heap.push (zpI l1)).objs.size))).push (zpP .none .none)).push (zpZ ((s.heap.push (zpI l1)).push (zpI l2)).objs.size (((s.heap.push (zpI l1)).push (zpI l2)).push (zpP (.ref s.heap.objs.size) (.ref (s.heap.push (zpI l1)).objs.size))).objs.size) }) :=
 .of_wp fun prog w A R s h=>by
  obtain⟨hp,g,d,tk,os⟩:=s; obtain⟨hl1,hl2,h⟩:=h
  have hsub:=sub_zip;have hL2:Heap.IsTuple (Shared.heap ⟨hp.push { cls:=.type "tuple_iterator",data:=.fields #[.ref l1,.int 0 0] },g,d,tk,os⟩) l2 ys:=Heap.IsTuple.push hl2 _
  wp_walk using Cp hl1,Cp hL2
  exact⟨_,rfl,h⟩
end
end PySem
namespace L2
open PySem PySem.W PyProof.Rows
abbrev oZ (z:Nat)(a:Addr)(o:Obj):Heap->Prop:=fun h=>z<=a/\h.get? a=some o
theorem jW     {a:Addr}  {z:Nat}(hz:z<=a)(e:h.get? a=some o):ObjOk P w H h a (.ext (oZ z a o)):=⟨⟨hz,e⟩,⟨o,e⟩,fun _ _ ⟨q,e⟩ k=>⟨q,k _ e⟩⟩
def zpH (n:Nat)(H:Hp)(i1 i2 TI TO z l1 l2:Addr):Hp :=
 upd (upd (upd (upd (upd H i1 (.ext (oZ n i1 (zpI l1)))) i2 (.ext (oZ n i2 (zpI l2)))) TI (.ext (oZ n TI (zpP (.ref i1) (.ref i2))))) TO (.ext (oZ n TO (zpP .none .none)))) z (.ext (oZ n z (zpZ TI TO)))
def rW (H:Hp)(ds:List Addr):Hp:=fun b=>if b∈ds then none else H b
theorem oU    (h:b∈ds):rW H ds b=none:=A4 h
theorem mK    (h:b∉ds):rW H ds b=H b:=Av h
theorem zpH_drop   {i2 TI TO z l1 l2}(h1:H i1=none)(h2:H i2=none)(h3:H TI=none)(h4:H TO=none)(h5:H z=none):rW (zpH n H i1 i2 TI TO z l1 l2) [z,TO,TI,i1,i2]=H:=by
 funext b
 by_cases hb:b∈[z,TO,TI,i1,i2]
 .rw [oU hb]
  simp only[List.mem_cons,List.not_mem_nil,or_false] at hb
  rcases hb with rfl | rfl | rfl | rfl | rfl
  .exact h5.symm
  .exact h4.symm
  .exact h3.symm
  .exact h1.symm
  .exact h2.symm
 .rw [mK hb]
  simp only[List.mem_cons,List.not_mem_nil,or_false,not_or] at hb
  delta zpH
  rw[kQ hb.1,kQ hb.2.1,kQ hb.2.2.1,kQ hb.2.2.2.2,kQ hb.2.2.2.1]
section
variable {X:Cx}{pins:List (Addr×Obj)}{σ:St}{H:Hp}{s:Shared}{h':Heap}
theorem Inv.goneT {f:Addr->Option (List V)}   {l:Addr}  (I:Inv X pins σ H s)(hd:∀b∈ds,∃φ,H b=some (.ext φ)/\X.s₀.heap.objs.size<=b)(k:∀b o,b∉ds->s.heap.get? b=some o->h'.get? b=some o)
  (hf:∀b xs,f b=some xs->s.heap.objs.size<=b/\xs.length<=sizeLine/\∃its:List Value,Vals xs its/\IsTupN h' b its.toArray) (hl:s.heap.objs.size<=l) (fl:f l=none)
  (new:ys.length<=sizeLine/\∃its:List Value,∃n,Vals ys its/\h'.get? l=some (seqObj "list" its.toArray n)):Inv X pins σ (upd (layT (rW H ds) f) l (.lst ys)) { s with heap:=h',toks:=t' }:=by
 have nl:∀{b u},H b=some u->b≠l:=fun e z=>by rw[z,(I.hok.fresh hl)] at e; cases e
 have nd:∀{b u},H b=some u->(∀ψ,u≠.ext ψ)->b∉ds:=fun e h z=>by
  obtain⟨φ,e',_⟩:=hd _ z;rw[e] at e'; cases e'; exact h φ rfl
 have kp:∀{b u},H b=some u->b∉ds->upd (layT (rW H ds) f) l (.lst ys) b=some u:=fun {b u} e h=>by
  rw[kQ (nl e)]
  cases z:f b with
  |none=>rwa [rJ z,mK h]
  |some xs=>rw[(fun b xs e=>I.hok.fresh (hf b xs e).1) b xs z] at e; cases e
 have dl:∀{b u},H b=some u->(∀ψ,u≠.ext ψ)->upd (layT (rW H ds) f) l (.lst ys) b=some u:=fun e h=>kp e (nd e h)
 refine I.step (g':=s.gens) (d':=s.drawn) (fun b hb=>?_) (fun b o _ _ hc e _=>k b o hc e) (fun b o _ _ hc e _=>⟨o.slots,k b o hc e⟩) (fun b u hc e n=>?_)
  (fun b o hc e=>⟨o,k b o hc e⟩) (fun b xs e=>dl e fun _ z=>nomatch z) (fun b o u e=>dl e fun _ z=>nomatch z) (fun b ps e=>⟨#[],by rw[dl e fun _ z=>nomatch z]; simp⟩) (fun m hm=>?_) (fun b u e=>?_) I.bare
 .refine hZ (hd b hb) fun φ e1 e2=>⟨.inr e2,fun z=>?_,fun x c e z=>?_,fun p hp z=>?_⟩
  .rw [z,I.free] at e1; cases e1
  .have:=I.freeC x c e; rw[z,e1] at this; cases this
  .have:=(I.pin p hp).2.1; rw[z,e1] at this; cases this
 .rw [kQ (A5 (AV (AF e) hl))]
  cases z:f b with
  |none=>rwa [rJ z,mK hc]
  |some xs=>exact absurd (AF e) (Nat.not_lt.mpr (hf b xs z).1)
 .exact el32 hm fun o es ep ho r=>⟨o,es,ep,k _ o (fun z=>by obtain⟨φ,e1,_⟩:=hd _ z; rw[I.free] at e1; cases e1) ho,r⟩
 .by_cases hbl:b=l
  .subst hbl; rw[uQ] at e; cases e; exact new
  .rw [kQ hbl] at e
   cases z:f b with
   |some xs =>
    rw[yY z] at e;cases e;obtain⟨_,h2,its,h3,h4⟩:=hf b xs z;exact⟨h2,its,h3,h4⟩
   |none =>
    rw[rJ z] at e
    by_cases hbi:b∈ds
    .rw [oU hbi] at e; cases e
    .rw [mK hbi] at e
     refine(I.hok b u e).stay (fun c v hc q=>k c v ?_ q) (fun c q=>dl q fun _ z=>nomatch z) fun c xs q=>dl q fun _ z=>nomatch z
     rcases hc with z | z
     .rwa [z]
     .grind
end
section
variable {X:Cx}
theorem call_zipT:CallR X (.type "zip") (fun xs H Q=>∃l1 l2 as bs,xs=[.ref l1,.ref l2]/\SqT X.K H l1 as/\SqT X.K H l2 bs/\∀i1 i2 TI TO z,H i1=none->H i2=none->H TI=none->H TO=none->H z=none->ZipApart z TI TO i1 i2 l1 l2->l1≠TI/\l2≠TI->Q (.ref z) (zpH X.s₀.heap.objs.size H i1 i2 TI TO z l1 l2)):=by
 intro pins s σ H xs us Q I r h;obtain⟨l1,l2,as,bs,rfl,h1,h2,q⟩:=h;obtain⟨u,v,rfl,rfl,ry⟩:=r.two;cases ry;refine sU (I.tuple h1) fun its1 r1 p1 _=>sU (I.tuple h2) fun its2 r2 p2 _=>callType_new F.called_zip rfl (F.typeCall_zip_2 _ _) (F.newCall_zip_2 _ _) (fun obj=>F.args_object_init_3 obj _ _) F.entry_zip_new (meets_zipT_new l1 l2 its1.toArray its2.toArray) ⟨p1,p2,?_⟩;have ll1:=let ⟨o,e,_⟩:=p1; AF e
 have ll2:=let ⟨o,e,_⟩:=p2; AF e
 have hn:=I.sz;have z1:(s.heap.push (zpI l1)).objs.size=s.heap.objs.size+1:=B8 ..;have z2:((s.heap.push (zpI l1)).push (zpI l2)).objs.size=s.heap.objs.size+2 :=by simp_all
 rw[z1,z2];have z3:(((s.heap.push (zpI l1)).push (zpI l2)).push (zpP (.ref s.heap.objs.size) (.ref (s.heap.objs.size+1)))).objs.size=s.heap.objs.size+3 :=by simp_all
 rw[z3];have z4:((((s.heap.push (zpI l1)).push (zpI l2)).push (zpP (.ref s.heap.objs.size) (.ref (s.heap.objs.size+1)))).push (zpP .none .none)).objs.size=s.heap.objs.size+4 :=by simp_all
 rw[z4];generalize hS:s.heap.objs.size=S at *
 have g1:(s.heap.push (zpI l1)).get? S=some (zpI l1) :=hS▸AK _ rfl;have I1:Inv X pins σ (upd H S (.ext (oZ X.s₀.heap.objs.size S (zpI l1)))) { s with heap:=s.heap.push (zpI l1),toks:=s.toks }:=I.laid (fun b o e=>AC _ e) (BN hS) (jW hn g1);have g2:((s.heap.push (zpI l1)).push (zpI l2)).get? (S+1)=some (zpI l2) :=z1▸AK _ rfl;have I2:=I1.laid (t':=s.toks) (o:=.ext (oZ X.s₀.heap.objs.size (S+1) (zpI l2))) (h':=(s.heap.push (zpI l1)).push (zpI l2)) (fun b o e=>AC _ e) (BN z1) (jW (AY hn) g2)
 have g3:(((s.heap.push (zpI l1)).push (zpI l2)).push (zpP (.ref S) (.ref (S+1)))).get? (S+2)=some (zpP (.ref S) (.ref (S+1))) :=z2▸AK _ rfl;have I3:=I2.laid (t':=s.toks) (o:=.ext (oZ X.s₀.heap.objs.size (S+2) (zpP (.ref S) (.ref (S+1))))) (h':=((s.heap.push (zpI l1)).push (zpI l2)).push (zpP (.ref S) (.ref (S+1)))) (fun b o e=>AC _ e) (BN z2) (jW (AY (AY hn)) g3)
 have g4:((((s.heap.push (zpI l1)).push (zpI l2)).push (zpP (.ref S) (.ref (S+1)))).push (zpP .none .none)).get? (S+3)=some (zpP .none .none) :=z3▸AK _ rfl;have I4:=I3.laid (t':=s.toks) (o:=.ext (oZ X.s₀.heap.objs.size (S+3) (zpP .none .none))) (h':=(((s.heap.push (zpI l1)).push (zpI l2)).push (zpP (.ref S) (.ref (S+1)))).push (zpP .none .none)) (fun b o e=>AC _ e) (BN z3) (jW (AY (AY (AY hn))) g4)
 have g5:(((((s.heap.push (zpI l1)).push (zpI l2)).push (zpP (.ref S) (.ref (S+1)))).push (zpP .none .none)).push (zpZ (S+2) (S+3))).get? (S+4)=some (zpZ (S+2) (S+3)) :=z4▸AK _ rfl;have I5:=I4.laid (t':=s.toks) (o:=.ext (oZ X.s₀.heap.objs.size (S+4) (zpZ (S+2) (S+3)))) (h':=((((s.heap.push (zpI l1)).push (zpI l2)).push (zpP (.ref S) (.ref (S+1)))).push (zpP .none .none)).push (zpZ (S+2) (S+3))) (fun b o e=>AC _ e) (BN z4) (jW (AY (AY (AY (AY hn)))) g5)
 have fr:∀{b:Addr},S<=b->H b=none:=fun hb=>I.hok.fresh (by rwa [hS]);refine⟨⟨_,g5,rfl⟩,.ref (S+4),_,I5,rfl,q S (S+1) (S+2) (S+3) (S+4) (fr (AG _)) (fr (Ba _ _)) (fr (Ba _ _)) (fr (Ba _ _)) (fr (Ba _ _)) ?_ ?_⟩
 .have:=zipApart_new ll1 ll2
  exact this
 .lia
def zpF (ps:List Addr)(as bs:List V):Addr->Option (List V):=fun b=>if b∈ps then some [as.getD (ps.idxOf b) .non,bs.getD (ps.idxOf b) .non] else none
theorem pO   (nd:ps.Nodup){j:Nat}   (h:ps[j]?=some a)(hx:as[j]?=some x)(hy:bs[j]?=some y):zpF ps as bs a=some [x,y] :=by grind[zpF,List.getElem_mem,nd.idxOf_getElem]
theorem call_listZip (hc:X.calm=true):CallR X (.type "list") (fun xs H Q=>∃i1 i2 TI TO z l1 l2 as bs,xs=[.ref z]/\H i1=some (.ext (oZ X.s₀.heap.objs.size i1 (zpI l1)))/\H i2=some (.ext (oZ X.s₀.heap.objs.size i2 (zpI l2)))/\H TI=some (.ext (oZ X.s₀.heap.objs.size TI (zpP (.ref i1) (.ref i2))))/\H TO=some (.ext (oZ X.s₀.heap.objs.size TO (zpP .none .none)))/\H z=some (.ext (oZ X.s₀.heap.objs.size z (zpZ TI TO))) /\
  SqT X.K H l1 as/\SqT X.K H l2 bs/\as.length=bs.length/\ZipApart z TI TO i1 i2 l1 l2/\(l1≠TI/\l2≠TI)/\∀ps l,ps.length=as.length->ps.Nodup->(∀b∈ps,H b=none)->H l=none->l∉ps->Q (.ref l) (upd (layT (rW H [z,TO,TI,i1,i2]) (zpF ps as bs)) l (.lst (ps.map V.ref)))):=by
 intro pins s σ H xs us Q I r h;obtain⟨i1,i2,TI,TO,z,l1,l2,as,bs,rfl,h1,h2,h3,h4,h5,t1,t2,hl,D,hlt,q⟩:=h;obtain⟨u,rfl,rfl⟩:=aJ r;refine sU (I.tuple t1) fun its1 r1 p1 z1=>sU (I.tuple t2) fun its2 r2 p2 z2=>?_;have e1:=(I.hok _ _ h1).1;have e2:=(I.hok _ _ h2).1;have e3:=(I.hok _ _ h3).1;have e4:=(I.hok _ _ h4).1;have e5:=(I.hok _ _ h5).1;have n1:=r1.length;refine zt_list (I.ok.hd hc) D hlt e5.2 e4.2 ⟨e3.2,⟨_,e1.2,rfl,rfl⟩,⟨_,e2.2,rfl,rfl⟩,p1,p2⟩ (by rw[AN,AN,<- n1,<- r2.length,hl]) (by grind) fun h' tk acc c ps kp el hn G ha=>?_
 have nd:=G.rise.imp fun h=>A5 h;rw[AN,<- n1] at hn;have up:=G.above;have nlp:s.heap.objs.size∉ps:=fun z=>BF _ (up _ z);have ez:acc=(ps.map Value.ref).toArray:=by rw[<- ha,Array.toArray_toList]
 have rv:Vals (ps.map V.ref) (ps.map Value.ref):=by
  clear nd hn up nlp ez G q ha
  induction ps with
  |nil=>exact .nil
  |cons a as ih=>exact .cons rfl ih
 refine⟨.ref s.heap.objs.size,_,I.goneT (t':=tk) (fun b hb=>?_) (fun b o hb e=>?_) (fun b xs e=>?_) (AG _) ?_ ⟨by rw[AD,hn]; exact z1,_,c,rv,by rwa [<- ez]⟩,rfl,q ps _ hn nd (fun b hb=>I.hok.fresh (BC (up b hb))) (I.hok.fresh (AG _)) nlp⟩
 .simp only[List.mem_cons,List.not_mem_nil,or_false] at hb
  rcases hb with rfl | rfl | rfl | rfl | rfl
  .simp_all
  .exact ⟨_,h4,e4.1⟩
  .exact ⟨_,h3,e3.1⟩
  .exact ⟨_,h1,e1.1⟩
  .exact ⟨_,h2,e2.1⟩
 .grind
 .unfold zpF at e
  split at e
  .next hb =>
   cases e;have hj:=List.idxOf_lt_length_of_mem hb;have hg:ps[ps.idxOf b]?=some b :=by grind
   generalize ps.idxOf b=j at hj hg ⊢;refine sP (G.pairs j b hg) fun x y g1 g2 g3=>?_;rw[List.getElem?_toArray] at g1 g2;refine⟨BC (up b hb),zS0 2 rfl,[x,y],.cons ?_ (.cons ?_ .nil),⟨_,g3,rfl,⟨_,rfl⟩,rfl⟩⟩
   .have q0:as[j]?=some as[j]:=AH (by omega)
    refine hZ (r1.get q0) fun u q1 q2=>?_;rw[g1] at q1; cases q1
    rwa [B7,q0]
   .have q0:bs[j]?=some bs[j]:=AH (by omega)
    refine hZ (r2.get q0) fun u q1 q2=>?_;rw[g2] at q1; cases q1
    rwa [B7,q0]
  .cases e
 .delta zpF
  rw[Av nlp]
end
end L2
namespace CL
open PySem PySem.Spec L2 PySem.W
open PyProof.Rows hiding St
section
variable {X:Cx}{a b:Expr}{pos:Pos}
@[irreducible] def cZip:PV->PV->CH->K1->Prop:=fun x y C Q=>match x,y with
 |.tup xs,.tup ys=>xs.length=ys.length/\∀p,C p=none->Q (.ref p) (vQ C p (.lst (List.zipWith (fun a b=>PV.tup [a,b]) xs ys)))
 |_,_=>False
theorem HRel.layT {K}   (h:HRel K H C)  (hf:∀b xs,f b=some xs->H b=none):HRel K (L2.layT H f) C/\Fw H C (L2.layT H f) C/\Imm H (L2.layT H f):=by
 have k:∀{b:Addr} {o:HO},H b=some o->L2.layT H f b=some o:=fun e=>gT hf e;have im:Imm H (L2.layT H f):=fun b o _ e=>k e;refine⟨fun b u c=>?_,fun b c n=>⟨rfl,?_⟩,im⟩
 .exact hZ ((h b u c).mut) fun v e _=>(h b u c).imm im (by simp_all)
 .cases e:H b with
  |none=>exact absurd e n
  |some o=>exact k e
theorem qU {K}  {f:Addr->Option (List V)}:∀{ps:List Addr}{vs ws}{xs ys},Reps K H vs xs->Reps K H ws ys->ps.length=xs.length->xs.length=ys.length->(∀(j:Nat) p v w,ps[j]?=some p->vs[j]?=some v->ws[j]?=some w->H p=some (.tup [v,w]))->Reps K H (ps.map V.ref) (List.zipWith (fun a b=>PV.tup [a,b]) xs ys)
 |[],_,_,[],_,.nil,_,_,_,_=>.nil
 |p::ps,v::vs,w::ws,x::xs,y::ys,.cons h1 r1,.cons h2 r2,e1,e2,hp =>
  .cons (.tup (hp 0 p v w rfl rfl rfl) (.cons h1 (.cons h2 .nil))) (qU (f:=f) r1 r2 (Bl e1) (Bl e2) fun j p' v' w' a1 a2 a3=>hp (j+1) p' v' w' a1 a2 a3)
 |[],_,_,_::_,_,_,_,e1,_,_=>nomatch e1
 |_::_,_,_,[],_,_,_,e1,_,_=>nomatch e1
 |_::_,_,_,_::_,[],_,_,_,e2,_=>nomatch e2
end
section
variable {X:Cx}
def prsT:List PV->Option (List (List Key×PV))
 |[]=>some []
 |.tup [k,v]::r=>match uB k,prsT r with
  |some k,some ps=>some ((k,v)::ps)
  |_,_=>none
 |_=>none
@[irreducible] def cDictT:GC:=fun ts C Q=>match ts with
 |[.tup xs]=>match prsT xs with
  |some ps=>ps.length<=sizeLine/\∀p,C p=none->Q (.ref p) (vQ C p (.dT (nA [] ps)))
  |none=>False
 |_=>False
@[irreducible] def cInT:R2C:=fun x y C Q=>match x,y with
 |.str i,.str j=>Q (.bl (!(Builtin.Str.occurrences j i 0 j.length 1).isEmpty)) C
 |_,_=>False
end
def inSP (l:List Str):PV->Bool
 |.str z=>l.contains z
 |_=>false
@[irreducible] def cInA:R2C:=fun x y C Q=>match y with
 |.kt ys=>match zE ys,tyP C x with
  |some l,some _=>Q (.bl (inSP l x)) C
  |_,_=>False
 |_=>False
end CL
namespace CL
open PySem L2 PySem.W
theorem mC    (I:Nat->CSt->CH->Prop)(step:∀n ρ C (L:CSt->CH->Prop),I n ρ C->(∀m ρ' C',m < n->I m ρ' C'->L ρ' C')->t ρ C fun b C1=>if b=true then u (E.lp L) ρ C1 else E.nx ρ C1):∀k n ρ C,n < k->I n ρ C->wO t u E k ρ C
 |0,n,_,_,h,_=>absurd h (DO n)
 |k+1,n,ρ,C,h,hI=>step n ρ C (wO t u E k) hI fun m ρ' C' hm hI'=>mC I step k m ρ' C' (by lia) hI'
theorem iD     f:∀xs acc C,Gr C0 C->acc.length+xs.length<=sizeLine->(∀x∈xs,∀C Q',Gr C0 C->(∀C',Gr C C'->Q' (f x) C')->c (some x::ρ) C Q')->(∀p C',C0 p=none->Gr C0 C'->C' p=some (.lst (acc++xs.map f))->Q (.ref p) C')->tZ cYes c ρ Q xs acc C
 |[],acc,C,g,_,_,q=>Qc fun p hp=>q p _ (dD g hp) (g.trans (Gr.new hp _)) (by rw[zQ,Bx,Cn])
 |x::xs,acc,C,g,hl,h,q=>by
  rw[Ai] at hl;refine aT (h x AQ C _ g fun C' g'=>⟨by lia,iD f xs _ C' (g.trans g') (by grind) (fun y hy=>h y (AO _ hy)) fun p C2 h1 h2 h3=>q p C2 h1 h2 ?_⟩);rw[h3,Cw]
  rfl
theorem wA {p q:CH->Prop}  (h:p C):bB (fun b C1=>if (!b)=true then p C1 else q C1) (.bl false) C:=h
end CL
namespace CL
open PySem PySem.Spec L2 PySem.W
open PyProof.Rows hiding St
section
variable {X:Cx}{a b c e o i f:Expr}{es:List Expr}{pos:Pos}{value:Expr}
@[irreducible] def cSlS:PV->Option Int->Option Int->CH->K1->Prop:=fun x lo hi C Q=>match x with
 |.str z=>z.length<=sizeLine/\Q (.str (Txt.slice z lo hi)) C
 |_=>False
theorem ce_slS {lo hi:Option Expr}{ce:TCE}{cl ch:TCO}{p2:Pos}(he:CE X e ce)(hl:CPt X lo cl)(hu:CPt X hi ch):CE X (.Subscript e (.Slice lo hi none p2) pos) (cSl cSlS ce cl ch):=⟨JE.weak ⟨vP sl_str he.h.h hl.h.h hu.h.h⟩ fun σ H Q ⟨ρ,C,R,s,h,q,f⟩ =>
 ⟨ρ,C,_,s,h,q,fun x H1 px C1 q1 rx h1 f1=>⟨ρ,C1,_,s.imm (f1.imm h),h1,q1,fun l H2 l' C2 q2 e2 h2 f2=>⟨ρ,C2,_,(s.imm (f1.imm h)).imm (f2.imm h1),h2,q2,fun u H3 u' C3 q3 e3 h3 f3=>by
  cases e2; cases e3
  unfold cSlS at q3
  split at q3
  .cases rx
   exact⟨_,rfl,q3.1,f _ H3 _ C3 q3.2 (.str _) h3 (f1.trans (f2.trans f3))⟩
  .exact q3.elim⟩⟩⟩⟩
theorem slS_s {z:Str}{lo hi:Option Int}{C:CH}{Q:K1}(h:z.length<=sizeLine)(q:Q (.str (Txt.slice z lo hi)) C):cSlS (.str z) lo hi C Q:=by
 unfold cSlS;exact⟨h,q⟩
@[irreducible] def cPopAt:PV->List PV->CH->K1->Prop:=fun x ts C Q=>match x,ts with
 |.ref a,[.int i]=>match C a with
  |some (.lst xs)=>0<=i/\i < 10000000/\∃y,xs[i.toNat]?=some y/\Q y (vQ C a (.lst (xs.eraseIdx i.toNat)))
  |_=>False
 |_,_=>False
@[irreducible] def fG:PV->List PV->CH->K1->Prop:=fun x ts C Q=>match x,ts with
 |.ref a,[.int i,y]=>match C a with
  |some (.lst xs)=>0<=i/\i<=xs.length/\xs.length < sizeLine/\Q .non (vQ C a (.lst (xs.take i.toNat++y::xs.drop i.toNat)))
  |_=>False
 |_,_=>False
theorem iN {K:DY}:Cmt K qR fG:=fun x px xs ps H C Q R rx rs h q f=>by
 unfold fG at q
 split at q
 .split at q
  .next i y _ ys e1 =>
   obtain⟨h0,h1,h2,q⟩:=q;obtain⟨vs,ev,rv⟩:=h _ _ e1
   cases rs with
   |cons r rs =>
   obtain⟨v,rfl,r2⟩:=xX rs;cases r;cases rx;exact⟨_,vs,_,v,rfl,rfl,ev,h0,by rw[rv.len]; exact h1,by rw[rv.len]; exact h2,f _ _ _ _ q .non (h.put ev rfl ⟨_,uQ,(Reps.append (rv.take _) (.cons r2 (rv.drop _))).imm (Imm.mut ev rfl _)⟩) (Fw.put e1 _ _)⟩
  .exact q.elim
 .exact q.elim
@[irreducible] def cNeNil:R2C:=fun x y C Q=>match x,y with
 |.ref a,.ref b=>match C a,C b with
  |some (.lst xs),some (.lst [])=>Q (.bl (!xs.isEmpty)) C
  |_,_=>False
 |_,_=>False
theorem uI {p:Addr}{xs:List PV}{k:Nat}{y:PV}{C:CH}{Q:K1}(h:C p=some (.lst xs))(hk:k<=xs.length)(hz:xs.length < sizeLine)(q:Q .non (vQ C p (.lst (xs.take k++y::xs.drop k)))):fG (.ref p) [.int (k:Nat),y] C Q:=by
 unfold fG;dsimp only;rw[h];exact⟨by omega,by omega,hz,q⟩
end
end CL
namespace PySem
open Sem (wp)
structure kK (prog:Program)(w:World)(K:Type)[DecidableEq K] where
 is:Heap->K->Value->Prop
 hash:K->Int
 draws:K->Nat
 room:Around->Prop
 inj:∀{h:Heap} {v:Value} {x y:K},is h x v->is h y v->x=y
 keeps:∀{h h':Heap} {k:K} {v:Value} {d:Addr} {o:Obj} {es:Array DictEntry} {ep:Nat},is h k v->h.get? d=some o->o.data=.dict es ep->Heap.SameBut d h h'->is h' k v
 pyHash:∀{A:Around} {E:Value->Shared->Prop} {s:Shared} {k:K} {v:Value} {Q:Int->Shared->Prop},room A->is s.heap k v->Q (hash k) { s with toks:=s.toks+draws k }->wpAny (model prog w) A (pyHash v) Q E s
 eqBool:∀{A:Around} {E:Value->Shared->Prop} {s:Shared} {x y:K} {u v:Value} {Q:Bool->Shared->Prop},room A->is s.heap x u->is s.heap y v->Q (decide (x=y)) s->wpAny (model prog w) A (eqBool u v) Q E s
 quiet:∀{A:Around} {E:Value->Shared->Prop} {s:Shared} {k:K} {v:Value} {Q:Bool->Shared->Prop},is s.heap k v->Q true s->wpAny (model prog w) A (eqIsQuiet 8 v) Q E s
 sx:∀{h:Heap} {k k':K} {x:Str} {t:Tok} {v:Value},is h k (.str x t)->is h k' v->isExactStrKey v=true->(k'=k↔v.isStr x=true)
section
variable {prog:Program}{w:World}{K:Type}[DecidableEq K]{knd:kK prog w K}{A:Around}{E:Value->Shared->Prop}{s:Shared}{d:Addr}{o:Obj}{es:Array DictEntry}{ep:Nat}{xs:List (K×Value×Value)}{k:K}{u:Value}
def nX (knd:kK prog w K)(x:K×Value×Value):DictEntry:=⟨knd.hash x.1,x.2.1,x.2.2⟩
def Heap.DictOfV (knd:kK prog w K)(h:Heap)(d:Addr)(xs:List (K×Value×Value)):Prop:=∃o es ep,h.get? d=some o/\o.ExactDict/\o.data=.dict es ep/\es.toList=xs.map (nX knd)/\(∀x∈xs,knd.is h x.1 x.2.1)/\(xs.map (·.1)).Nodup
structure FindIn (knd:kK prog w K)(s:Shared)(d:Addr)(es:Array DictEntry)(ep:Nat)(xs:List (K×Value×Value))(k:K)(u:Value):Prop where
 h1:∃o,s.heap.get? d=some o/\o.data=.dict es ep
 kk:knd.is s.heap k u
 h4:es.toList=xs.map (nX knd)
 h5:∀x∈xs,knd.is s.heap x.1 x.2.1
 h6:(xs.map (·.1)).Nodup
abbrev plc (knd:kK prog w K)(es:Array DictEntry)(k:K):List Nat:=placesWithHash es.size (fun i=>Option.map (fun x=>x.hash) es[i]?) (knd.hash k)
section
variable (F:FindIn knd s d es ep xs k u)
include F
theorem FindIn.ent (i:Nat):es[i]?=(xs[i]?).map (nX knd):=by rw[<- Bg,F.h4,AL]
theorem FindIn.mem {j:Nat}{p:Value×Value}(h:xs[j]?=some (k,p)):j∈plc knd es k:=by
 have e:=F.ent j;rw[h] at e;have hj:j < es.size:=(Array.getElem?_eq_some_iff.1 e).1;refine CP.2 ⟨Ca.2 hj,?_⟩;dsimp only;rw[e]
 simp[nX]
theorem FindIn.at {i:Nat}(h:i∈plc knd es k):∃x,xs[i]?=some x/\es[i]?=some (nX knd x)/\knd.hash x.1=knd.hash k/\knd.is s.heap x.1 x.2.1:=by
 obtain⟨h1,h2⟩:=CP.1 h;dsimp only at h2;have e:=F.ent i
 cases hx:xs[i]? with
 |none=>rw[hx] at e; rw[e] at h2; simp at h2
 |some x =>
  rw[hx] at e;rw[e] at h2;exact⟨x,rfl,e,by simpa [nX] using h2,F.h5 x (AE hx)⟩
theorem FindIn.one {i j:Nat}{x y:K×Value×Value}(hi:xs[i]?=some x)(hj:xs[j]?=some y)(e:x.1=y.1):i=j:=by
 have l:i < (xs.map (·.1)).length:=by rw[AD]; exact(AI.1 hi).1
 exact(Bp l F.h6).1 (by rw[AL,AL,hi,hj,Option.map_some,Option.map_some,e])
theorem FindIn.plain {Q:Option Nat->Shared->Prop}(room:knd.room A)(no:(∀(j:Nat) (p:Value×Value),xs[j]?≠some (k,p))->Q none s)(yes:∀(j:Nat) (p:Value×Value),xs[j]?=some (k,p)->Q (some j) s):
  wpAny (model prog w) A (dictWalkPlain d u (knd.hash k) es (plc knd es k)) Q E s:=by
 obtain⟨o,h1,h3⟩:=F.h1;unfold dictWalkPlain;refine AA (BB _ (fun lQ r s'=>r.1=none/\s'=s/\(∀i∈lQ,i∈plc knd es k)/\∀(j:Nat) (p:Value×Value),xs[j]?=some (k,p)->j∈lQ) _ ?_ ?_ _ _ ⟨rfl,rfl,fun _ h=>h,fun j p h=>F.mem h⟩)
 .rintro i lQ r s' ⟨hr,rfl,hsub,hin⟩
  obtain⟨x,hx,ex,hh,ix⟩:=F.at (hsub i AQ);rw[ex];dsimp only;refine Ac (fun _=>?_) fun hc=>(hc (by simp[nX,hh])).elim;refine AA (BX h1 h3 (AA (knd.eqBool room ix F.kk (AA (BX h1 h3 ?_)))));refine Ac (fun hc=>by simp at hc) fun _=>?_;refine Ac (fun hc=>?_) fun hc=>?_
  .have e:=A6 hc
   obtain⟨x1,x2⟩:=x;cases e;exact AA (A7 (AB (AB (yes i x2 hx))))
  .have ne:x.1≠k:=fun z=>hc (Aw z)
   refine AA (A7 (AB ⟨rfl,rfl,fun i' h=>hsub i' (AO _ h),fun j p hj=>?_⟩))
   rcases Ax.1 (hin j p hj) with rfl | h
   .rw [hx] at hj; cases hj; exact(ne rfl).elim
   .exact h
 .rintro ⟨r1,r2⟩ s' ⟨hr,rfl,_,hin⟩
  cases hr;exact AB (no fun j p hj=>nomatch hin j p hj)
theorem FindIn.tell {Q:Bool->Shared->Prop}(S:List Value)(hS:∀v∈S,∃k',knd.is s.heap k' v)(q:Q false s):wpAny (model prog w) A (tableMayTell u S) Q E s:=by
 unfold tableMayTell;refine Ac (fun _=>AB q) fun _=>?_;refine AA (knd.quiet F.kk ?_);refine Ac (fun hc=>by simp at hc) fun _=>?_;refine AA (BB _ (fun lQ r s'=>r.1=none/\s'=s/\∀v∈lQ,∃k',knd.is s.heap k' v) _ ?_ ?_ _ _ ⟨rfl,rfl,hS⟩)
 .rintro v lQ r s' ⟨hr,rfl,h⟩
  obtain⟨k',hk⟩:=h v AQ;exact AA (knd.quiet hk (Ac (fun hc=>by simp at hc) fun _=>AB ⟨rfl,rfl,fun v hv=>h v (AO _ hv)⟩))
 .rintro ⟨r1,r2⟩ s' ⟨hr,rfl,_⟩
  cases hr;exact AB q
theorem FindIn.stored:∀v∈List.filterMap (fun i=>Option.map (fun x=>x.key) es[i]?) (plc knd es k),∃k',knd.is s.heap k' v:=fun v hv=>by
 obtain⟨i,hi,hv⟩:=List.mem_filterMap.1 hv;obtain⟨x,_,ex,_,ix⟩:=F.at hi;rw[ex] at hv;cases hv;exact⟨x.1,ix⟩
theorem FindIn.find {Q:Option Nat->Shared->Prop}(room:knd.room A)(no:(∀(j:Nat) (p:Value×Value),xs[j]?≠some (k,p))->Q none s)(yes:∀(j:Nat) (p:Value×Value),xs[j]?=some (k,p)->Q (some j) s):
  wpAny (model prog w) A (dictFind d u (knd.hash k)) Q E s:=by
 obtain⟨o,h1,h3⟩:=id F.h1;unfold dictFind;refine Af (AA (BQ h1 h3 ?_));have hS:=F.stored;have hP:=F.plain (E:=E) room no yes
 extract_lets P S hit jp2 jp1 jp0
 have nd:P.Nodup:=List.nodup_range.filter _
 have H2:wpAny (model prog w) A (jp2 false) Q E s:=by
  dsimp only[jp2];refine Ac (fun hc=>by simp at hc) fun _=>?_;refine AA (BB _ (fun lQ r s'=>r.1=none/\s'=s/\(∀i∈lQ,i∈P)/\lQ.Nodup/\((r.2=none/\∀(j:Nat) (p:Value×Value),xs[j]?=some (k,p)->j∈lQ)\/∃(j:Nat) (p:Value×Value),r.2=some j/\xs[j]?=some (k,p)/\j∉lQ)) _ ?_ ?_ _ _ ⟨rfl,rfl,fun _ h=>h,nd,.inl ⟨rfl,fun j p h=>F.mem h⟩⟩)
  .rintro i lQ ⟨r1,r2⟩ s' ⟨hr,rfl,hsub,hnd,hin⟩
   obtain⟨x,hx,ex,hh,ix⟩:=F.at (hsub i AQ);obtain⟨ni,hnd⟩:=BE.1 hnd;have hsub':∀i'∈lQ,i'∈P:=fun i' h=>hsub i' (AO _ h);rw[ex];dsimp only;refine Ac (fun _=>?_) fun hc=>(hc (by simp[nX,hh])).elim;refine AA (BX h1 h3 (AA (knd.eqBool room ix F.kk (AA (BX h1 h3 ?_)))));refine Ac (fun hc=>by simp at hc) fun _=>?_
   refine Ac (fun hc=>?_) fun hc=>?_
   .have e:=A6 hc
    obtain⟨x1,x2⟩:=x;cases e;refine Ac (fun hc=>?_) fun _=>?_
    .exfalso
     rcases hin with ⟨h,_⟩ | ⟨j,p,_,hj,nj⟩
     .have h:r2=none:=h
      rw[h] at hc;cases hc
     .have:=F.one hx hj rfl
      subst this;exact nj AQ
    .exact AA (A7 (Ac (fun _=>AB (AB (yes i x2 hx))) fun _=>AB ⟨rfl,rfl,hsub',hnd,.inr ⟨i,x2,rfl,hx,ni⟩⟩))
   .have ne:x.1≠k:=fun z=>hc (Aw z)
    refine AA (A7 (Ac (fun hc=>by simp at hc) fun _=>AB ⟨rfl,rfl,hsub',hnd,?_⟩))
    rcases hin with ⟨h,hin⟩ | ⟨j,p,h,hj,nj⟩
    .refine .inl ⟨h,fun j p hj=>?_⟩
     rcases Ax.1 (hin j p hj) with rfl | h
     .rw [hx] at hj; cases hj; exact(ne rfl).elim
     .exact h
    .exact .inr ⟨j,p,h,hj,fun z=>nj (AO _ z)⟩
  .rintro ⟨r1,r2⟩ s' ⟨hr,rfl,_,_,hin⟩
   cases hr
   rcases hin with ⟨h,hin⟩ | ⟨j,p,h,hj,nj⟩
   .have h:r2=none:=h
    subst h;exact AB (no fun j p hj=>nomatch hin j p hj)
   .have h:r2=some j:=h
    subst h;exact AB (yes j p hj)
 have H1:wpAny (model prog w) A (jp1 ()) Q E s:=by
  dsimp only[jp1];exact Ac (fun _=>AA (AB H2)) fun _=>AA (F.tell _ hS H2)
 have H0:wpAny (model prog w) A (jp0 ()) Q E s:=by
  dsimp only[jp0];refine Ac (fun _=>hP) fun _=>?_
  split
  .next a0 _ =>
   refine Ac (fun hc=>?_) fun _=>H1
   exfalso
   rw[Array.any_eq_true'] at hc;obtain⟨e,he,hc⟩:=hc;obtain⟨y,hy,rfl⟩:=Ae.1 (show e∈xs.map (nX knd) by rw[<- F.h4]; exact DX.2 he);rw[Bc] at hc;have e1:y.2.1=.ref a0:=by simpa [nX] using hc.1
   have i1:=F.h5 y hy;rw[e1] at i1;have:=knd.inj i1 F.kk;have h2:=hc.2
   simp[nX,this] at h2
  .exact H1
 split
 .next z x tok =>
  refine Ac (fun hall=>?_) fun _=>H0;unfold foundByValue;rw[Array.all_eq_true'] at hall;have str:∀y∈xs,isExactStrKey y.2.1=true:=fun y hy=>hall (nX knd y) (by rw[<- DX,F.h4]; exact Ae.2 ⟨y,hy,rfl⟩)
  cases hi:Array.findIdx? (fun y=>y.key.isStr x) es with
  |none =>
   dsimp only;refine AB (no fun j p hj=>?_);have e:=F.ent j;rw[hj] at e;have hm:=AE hj;have:=Array.findIdx?_eq_none_iff.1 hi (nX knd (k,p)) (Array.mem_of_getElem? e);have h2:=(knd.sx F.kk (F.h5 _ hm) (str _ hm)).1 rfl;have this:p.1.isStr x=false:=this;rw[h2] at this;cases this
  |some i =>
   dsimp only;obtain⟨hlt,hp,_⟩:=Array.findIdx?_eq_some_iff_getElem.1 hi;have e:=F.ent i;rw[AU hlt] at e
   cases hx:xs[i]? with
   |none=>rw[hx] at e; cases e
   |some y =>
    rw[hx] at e;have e:=Ao e;have hm:=AE hx;rw[AU hlt,e];dsimp only;rw[e] at hp;have ek:=(knd.sx F.kk (F.h5 _ hm) (str _ hm)).2 hp;refine AA (BX h1 h3 (AA (knd.eqBool room (F.h5 _ hm) F.kk (AA (BX h1 h3 ?_)))));refine Ac (fun hc=>by simp at hc) fun _=>?_;refine Ac (fun _=>?_) fun hc=>(hc (Aw ek)).elim
    obtain⟨y1,y2⟩:=y;cases ek;exact AA (A7 (AB (yes i y2 hx)))
 .exact H0
end
end
end PySem
namespace L2
open PySem PySem.Spec PyProof.Rows
section
variable {prog:Program}{w:World}{A:Around}{E:Value->Shared->Prop}{s:Shared}
theorem sT {Q:Int->Shared->Prop}{b:Bool}(h:Q (hashInt (bI b)) { s with toks:=s.toks+1 }):wpAny (model prog w) A (pyHash (.bool b)) Q E s:=by
 apply AA
 apply AB
 have ty:s.TypeIs (.bool b) "bool":=rfl
 refine AA (As ty CY.lookup (AA (As ty CY.lookup (AA (BK ty CY
  (Ah CY ty PySem.F.entry_int_hash ?_ (PySem.F.args_int_hash_1 _)))))))
 cases b
 .unfold Builtin.«int.__hash__»
  wp_walk
  exact⟨_,rfl,AB h⟩
 .unfold Builtin.«int.__hash__»
  wp_walk
  exact⟨_,rfl,AB h⟩
end
inductive MSh (prog:Program)(w:World)(h:Heap):gQ->Value->Prop
 |int (i:Int) (t:Tok):MSh prog w h (.inl (.inl (some i))) (.int i t)
 |bl (b:Bool):MSh prog w h (.inl (.inl (some (bI b)))) (.bool b)
 |str (x:Str) (t:Tok):MSh prog w h (.inl (.inr x)) (.str x t)
 |non:MSh prog w h (.inl (.inl none)) .none
 |tup {ks:List Key} {a:Addr} (hk:IsTupleKey (iX prog w) h ks a):MSh prog w h (.inr ks) (.ref a)
def mDraws:gQ->Nat
 |.inl _=>1
 |.inr ks=>ks.length+1
theorem eL {prog:Program}{w:World}{h:Heap}{ks:List Key}{a:Addr}(hk:IsTupleKey (iX prog w) h ks a):∃items,h.IsTuple a items:=by
 obtain⟨o,items,n,h1,h2,h3,_⟩:=hk;exact⟨items,o,h1,h2,n,h3⟩
theorem mEq {prog:Program}{w:World}{A:Around}{E:Value->Shared->Prop}{s:Shared}{x y:gQ}{u v:Value}{Q:Bool->Shared->Prop}(room:A.units < cLine)(hx:MSh prog w s.heap x u)(hy:MSh prog w s.heap y v)(h:Q (decide (x=y)) s):wpAny (model prog w) A (eqBool u v) Q E s:=by
 have cv:∀b:Bool,decide (x=y)=b->Q b s:=fun b e=>e▸h
 cases hx with
 |int i t =>
  cases hy with
  |int j u=>exact wpAny_eqBool_int (cv _ (by simp[Bool.beq_eq_decide_eq]))
  |bl b=>exact SeqAt.EqAt.int_bool i t b _ _ _ _ (cv _ (by cases b<;>simp[bI,Bool.beq_eq_decide_eq]))
  |str y u=>exact SeqAt.EqAt.int_str i t y u _ _ _ _ (cv _ (by simp))
  |non=>exact SeqAt.EqAt.int_none i t _ _ _ _ (cv _ (by simp))
  |tup hk=>obtain⟨its,ht⟩:=eL hk; exact SeqAt.EqAt.int_tuple i t ht room _ _ _ _ (cv _ (by simp))
 |bl b =>
  cases hy with
  |int j u=>exact SeqAt.EqAt.bool_int b j u _ _ _ _ (cv _ (by cases b<;>simp[bI,Bool.beq_eq_decide_eq]))
  |bl b'=>exact DU b b' _ _ _ _ (cv _ (by cases b<;>cases b'<;>simp[bI]))
  |str y u=>exact SeqAt.EqAt.bool_str b y u _ _ _ _ (cv _ (by simp))
  |non=>exact SeqAt.EqAt.bool_none b _ _ _ _ (cv _ (by simp))
  |tup hk=>obtain⟨its,ht⟩:=eL hk; exact SeqAt.EqAt.bool_tuple b ht room _ _ _ _ (cv _ (by simp))
 |str x t =>
  cases hy with
  |int j u=>exact SeqAt.EqAt.str_int x t j u _ _ _ _ (cv _ (by simp))
  |bl b=>exact SeqAt.EqAt.str_bool x t b _ _ _ _ (cv _ (by simp))
  |str y u=>exact wpAny_eqBool_str (cv _ (by simp))
  |non=>exact SeqAt.EqAt.str_none x t _ _ _ _ (cv _ (by simp))
  |tup hk=>obtain⟨its,ht⟩:=eL hk; exact SeqAt.EqAt.str_tuple x t ht room _ _ _ _ (cv _ (by simp))
 |non =>
  cases hy with
  |int j u=>exact SeqAt.EqAt.none_int j u _ _ _ _ (cv _ (by simp))
  |bl b=>exact SeqAt.EqAt.none_bool b _ _ _ _ (cv _ (by simp))
  |str y u=>exact SeqAt.EqAt.none_str y u _ _ _ _ (cv _ (by simp))
  |non=>exact nP (cv _ (by simp))
  |tup hk=>obtain⟨its,ht⟩:=eL hk; exact SeqAt.EqAt.none_tuple ht room _ _ _ _ (cv _ (by simp))
 |tup hk' =>
  obtain⟨its',ht'⟩:=eL hk'
  cases hy with
  |int j u=>exact SeqAt.EqAt.tuple_int j u ht' room _ _ _ _ (cv _ (by simp))
  |bl b=>exact SeqAt.EqAt.tuple_bool b ht' room _ _ _ _ (cv _ (by simp))
  |str y u=>exact SeqAt.EqAt.tuple_str y u ht' room _ _ _ _ (cv _ (by simp))
  |non=>exact SeqAt.EqAt.tuple_none ht' room _ _ _ _ (cv _ (by simp))
  |tup hk=>exact wpAny_eqBool_tuple room hk' hk (cv _ (by simp))
def qZ (prog:Program)(w:World):kK prog w gQ where
 is:=MSh prog w
 hash:=mHash prog w
 draws:=mDraws
 room:=fun A=>A.units < cLine
 inj:=fun hx hy=>by
  cases hx with
  |tup h1 =>
   cases hy with
   |tup h2=>rw[h1.inj h2]
  |int i t=>cases hy; rfl
  |bl b=>cases hy; rfl
  |str x t=>cases hy; rfl
  |non=>cases hy; rfl
 keeps:=fun hx ho hd hs=>by
  cases hx with
  |int i t=>exact .int i t
  |bl b=>exact .bl b
  |str x t=>exact .str x t
  |non=>exact .non
  |tup hk=>exact .tup (hk.keeps ho hd hs)
 pyHash:=fun room hx h=>by
  cases hx with
  |int i t=>exact wpAny_pyHash_int h
  |bl b=>exact sT h
  |str x t=>exact wpAny_pyHash_str h
  |non=>exact lM h
  |tup hk=>exact wpAny_pyHash_tuple room hk h
 eqBool:=fun room hx hy h=>mEq room hx hy h
 quiet:=fun hx h=>by
  cases hx with
  |tup hk=>exact xV 7 hk h
  |int i t=>rw[B1 _ (by rfl)]; exact AB h
  |bl b=>rw[B1 _ (by rfl)]; exact AB h
  |str x t=>rw[B1 _ (by rfl)]; exact AB h
  |non=>rw[B1 _ (by rfl)]; exact AB h
 sx:=fun hk hv he=>by
  cases hk
  cases hv with
  |str y u=>simp[Value.isStr]
  |_=>cases he
end L2
namespace CL
open PySem PySem.Spec L2 PySem.W
open PyProof.Rows hiding St
section
variable {X:Cx}{e o:Expr}{es:List Expr}
@[irreducible] def yL:GC:=fun ts C Q=>match ts with
 |[x,.tup ys]=>∃(Ts:List Ty) (n:Ty),ys=Ts.map (fun T=>PV.ty (mX T))/\tyP C x=some n/\Q (.bl (Ts.any (iQ n))) C
 |_=>False
theorem dC {K}  : ∀{Ts:List Ty}{vs},Reps K H vs (Ts.map fun T=>PV.ty (mX T))->vs=Ts.map fun T=>V.ty (mX T)
 |[],_,r=>by cases r; rfl
 |T::Ts,_,r=>by
  cases r with
  |cons h r=>cases h; rw[dC r]; rfl
theorem pY {K}:Cbi K (fun xs H Q=>∃x p Ts n,xs=[x,.ref p]/\H p=some (.tup (List.map (fun T=>V.ty (mX T)) Ts))/\tyN H x=some n/\Q (.bl (Ts.any (iQ n))) H) yL:=fun xs ps H C Q R rs h q f=>by
 delta yL at q
 split at q
 .obtain ⟨Ts,n,rfl,hn,q⟩:=q
  obtain⟨v,w,rfl,r1,r2⟩:=zG rs
  cases r2 with
  |tup hp r =>
   rw[dC r] at hp;exact⟨v,_,Ts,n,rfl,hp,lC r1 h hn,f _ H _ C q (.bl _) h Fw.refl⟩
 .exact q.elim
theorem eV     (Ts:List Ty)(hn:tyP C x=some n)(q:Q (.bl (Ts.any (iQ n))) C):yL [x,.tup (Ts.map fun T=>PV.ty (mX T))] C Q :=by grind[yL]
@[irreducible] def wL (co:TCE):TCE:=fun ρ C Q=>co ρ C fun x C1=>match x with
 |.str z=>z.length<=1000000/\∀y:Str,y.length<=3 * z.length->Q (.str y) C1
 |_=>False
theorem Qf {apos cpos}  (ho:CE X o co)
  (hbase:attributeBase o "upper" X.env (eval o X.env)=eval o X.env:=by rfl) (hline:(apos.endLine==cpos.line)=true:=by rfl) :
  CE X (.Call (.Attribute o "upper" apos) [] [] cpos) (wL co):=⟨JE.weak ⟨zA F.plainAttrs_str F.slot_str_upper F.type_str_upper rA ho.h.h hbase hline⟩ fun σ H Q zz=>qX zz fun ρ C R s h q f=> by
 delta wL at q
 exact⟨ρ,C,_,s,h,q,fun x H1 px C1 q1 rx h1 f1=>by
  split at q1
  .cases rx
   exact⟨rfl,_,rfl,rfl,q1.1,fun y hy=>f _ H1 _ C1 (q1.2 y hy) (.str y) h1 f1⟩
  .exact q1.elim⟩⟩
theorem upper_s      (hv:ρ[i]?=some (some (.str z)))(h:z.length<=1000000)(q:∀y:Str,y.length<=3 * z.length->Q (.str y) C):wL (bJ i) ρ C Q :=by simp_all[wL,bJ]
end
@[irreducible] def cNInT:R2C:=fun x y C Q=>match x,y with
 |.str i,.str j=>Q (.bl (!(!(Builtin.Str.occurrences j i 0 j.length 1).isEmpty))) C
 |_,_=>False
@[irreducible] def cEqNil:R2C:=fun x y C Q=>match x,y with
 |.ref a,.ref b=>match C a,C b with
  |some (.lst xs),some (.lst [])=>Q (.bl xs.isEmpty) C
  |_,_=>False
 |_,_=>False
@[irreducible] def cIsB:R2C:=fun x y C Q=>match x,y with
 |.bl a,.bl b=>Q (.bl (a==b)) C
 |_,_=>False
end CL
namespace PySem
open PySem.Spec PyProof.Rows PyProof.Rows.F
section
theorem lW {κ β:Type}[DecidableEq κ]{k}:∀{xs:List (κ×β)}{j}{p},(xs.map (·.1)).Nodup->xs[j]?=some (k,p)->xs.eraseIdx j=xs.filter fun x=>decide (x.1≠k)
 |x::xs,0,p,nd,h=>by
  have h:x=(k,p) :=by simp_all
  subst h;rw[Aa,BE] at nd;rw[ Bt (by simp)];refine(List.filter_eq_self.2 fun y hy=>?_).symm;rw[Bw];intro z;exact nd.1 (z▸Ae.2 ⟨y,hy,rfl⟩)
 |x::xs,j+1,p,nd,h=>by
  rw[Aa,BE] at nd;have ne:x.1≠k:=fun z=>nd.1 (z▸Ae.2 ⟨_,AE h,rfl⟩);rw[Az,Bs (by lia),lW nd.2 h]
theorem rR {α β:Type}(f:α->β):∀(xs:List α) j,(xs.map f).eraseIdx j=(xs.eraseIdx j).map f
 |[],_=>rfl
 |_::_,0=>rfl
 |x::xs,j+1=>by rw[Aa,Az,Az,Aa,rR f xs j]
variable {prog:Program}{w:World}{κ:Type}[DecidableEq κ]{knd:HeapKind prog w κ}{A:Around}{E:Value->Shared->Prop}{s:Shared}{d a:Addr}{xs:List (κ×Addr×Value)}{k:κ}{v:Value}
end
end PySem
namespace CL
open PySem PySem.Spec L2 PySem.W
open PyProof.Rows hiding St
section
variable {X:Cx}{a b c e o i f value:Expr}{es:List Expr}{pos pos':Pos}
@[irreducible] def cTPopK:PV->PV->CH->K1->Prop:=fun x y C Q=>match x with
 |.ref a=>match C a,uB y with
  |some (.dT kvs),some k=>match wF kvs k with
   |some v=>Q v (vQ C a (.dT (kvs.filter fun kv=>decide (kv.1≠k))))
   |none=>False
  |_,_=>False
 |_=>False
@[irreducible] def cNotB:R2C:=fun x y C Q=>match x,y with
 |.bl a,.bl b=>Q (.bl (!(a==b))) C
 |_,_=>False
@[irreducible] def cSlU:PV->Option Int->Option Int->CH->K1->Prop:=fun x lo hi C Q=>match x with
 |.tup xs=>Q (.tup (fB xs lo hi)) C
 |_=>False
end
end CL
namespace PySem
open PySem.Spec PyProof.Rows PyProof.Rows.F
section
variable {K β:Type}[DecidableEq K]{xs:List (K×β)}{k:K}
def atV (xs:List (K×β))(k:K):Option β:=(xs.find? fun x=>decide (x.1=k)).map (·.2)
theorem cJ (nd:(xs.map (·.1)).Nodup){i:Nat}{p:β}(h:xs[i]?=some (k,p)):atV xs k=some p:=by
 unfold atV
 cases e:xs.find? fun x=>decide (x.1=k) with
 |none=>simpa using List.find?_eq_none.1 e _ (AE h)
 |some q =>
  have e1:q.1=k:=by simpa using List.find?_some e
  obtain⟨j,hj⟩:=AZ.1 (List.mem_of_find?_eq_some e);have l:i < (xs.map (·.1)).length:=by rw[AD]; exact(AI.1 h).1
  have:i=j:=(Bp l nd).1 (by rw[AL,AL,h,hj]; simp[e1]);subst this;rw[h] at hj;cases hj
  rfl
theorem mL (h:∀(j:Nat) (p:β),xs[j]?≠some (k,p)):atV xs k=none:=by
 unfold atV;rw[Option.map_eq_none_iff,List.find?_eq_none];rintro⟨x1,x2⟩ hx e;obtain⟨j,hj⟩:=AZ.1 hx;obtain rfl:x1=k:=by simpa using e
 exact h j x2 hj
theorem Qt {p:β}(h:atV xs k=some p):∃j:Nat,xs[j]?=some (k,p):=by
 unfold atV at h;obtain⟨q,e,rfl⟩:=BZ.1 h;obtain rfl:q.1=k:=by simpa using List.find?_some e
 exact AZ.1 (List.mem_of_find?_eq_some e)
def swV (k:K)(f:β->β)(x:K×β):K×β:=if x.1=k then (x.1,f x.2) else x
theorem qE (f:β->β):(xs.map (swV k f)).map (·.1)=xs.map (·.1):=by
 rw[Bo];refine List.map_congr_left fun x _=>?_;unfold swV;dsimp only[Function.comp]
 split<;>rfl
theorem swV_mod (f:β->β){γ:Type}(e:K×β->γ)(g:γ->γ)(hg:∀p,g (e (k,p))=e (k,f p))(nd:(xs.map (·.1)).Nodup){j:Nat}{p:β}(h:xs[j]?=some (k,p)):(xs.map e).modify j g=(xs.map (swV k f)).map e:=by
 refine Cu fun i=>?_;rw[List.getElem?_modify,AL,AL,AL]
 by_cases ij:j=i
 .subst ij
  simp[h,swV,hg]
 .cases hx:xs[i]? with
  |none=>simp
  |some x =>
   have ne:¬ x.1=k:=fun z=>ij <| by
    have l:j < (xs.map (·.1)).length:=by rw[AD]; exact(AI.1 h).1
    exact(Bp l nd).1 (by rw[AL,AL,h,hx]; simp[z])
   simp[swV,ne,ij]
end
section
variable {prog:Program}{w:World}{K:Type}[DecidableEq K]{knd:kK prog w K}{A:Around}{E:Value->Shared->Prop}{s:Shared}{d:Addr}{xs:List (K×Value×Value)}{k:K}{u v:Value}
def xJ {β γ:Type}(xs:List (K×β×γ))(k:K)(u:β)(v:γ):List (K×β×γ):=if (atV xs k).isSome=true then xs.map (swV k fun p=>(p.1,v)) else xs++[(k,u,v)]
theorem Heap.DictOfV.type (dd:s.heap.DictOfV knd d xs):s.TypeIs (.ref d) "dict":=by
 obtain⟨o,_,_,h1,h2,_⟩:=dd;exact⟨o,h1,h2.1⟩
theorem Heap.DictOfV.in' {o:Obj}{es:Array DictEntry}{ep:Nat}{n:Nat}(kk:knd.is s.heap k u)(h1:s.heap.get? d=some o)(h3:o.data=.dict es ep)(h4:es.toList=xs.map (nX knd))(h5:∀x∈xs,knd.is s.heap x.1 x.2.1)(h6:(xs.map (·.1)).Nodup):FindIn knd { s with toks:=n } d es ep xs k u:=⟨⟨o,h1,h3⟩,kk,h4,h5,h6⟩
theorem sI {Q:Option Value->Shared->Prop}(room:knd.room A)(kk:knd.is s.heap k u)(dd:s.heap.DictOfV knd d xs)(h:Q ((atV xs k).map (·.2)) { s with toks:=s.toks+knd.draws k }):wpAny (model prog w) A (dictGet d u) Q E s:=by
 obtain⟨o,es,ep,h1,h2,h3,h4,h5,h6⟩:=dd;have F:=Heap.DictOfV.in' (n:=s.toks+knd.draws k) kk h1 h3 h4 h5 h6;refine Af (AA (knd.pyHash room kk (AA (F.find room (fun no=>?_) fun j p hj=>?_))))
 .rw [mL no] at h
  exact AB h
 .rw [cJ h6 hj] at h
  refine AA (BQ (s:={ s with toks:=s.toks+knd.draws k }) h1 h3 ?_);rw[F.ent j,hj];exact AB h
theorem lI {Q:Unit->Shared->Prop}(room:knd.room A)(kk:knd.is s.heap k u)(dd:s.heap.DictOfV knd d xs)(hz:xs.length<=sizeLine)
  (fin:∀h',h'.DictOfV knd d (xJ xs k u v)->Heap.SameBut d s.heap h'->Q () { s with heap:=h',toks:=s.toks+knd.draws k }):wpAny (model prog w) A (dictSet d u v) Q E s:=by
 obtain⟨o,es,ep,h1,h2,h3,h4,h5,h6⟩:=dd;have F:=Heap.DictOfV.in' (n:=s.toks+knd.draws k) kk h1 h3 h4 h5 h6;have hs:es.size=xs.length:=by rw[<- A1,h4,AD]
 refine Af (AA (knd.pyHash room kk ?_));refine Af (AA (F.find room (fun no=>?_) fun j p hj=>?_))
 .have e:=mL no
  have ep':xJ xs k u v=xs++[(k,u,v)]:=by simp[xJ,e]
  refine AA (A7 (wpAny_updateDictKeys (hz:=by omega) (s:={ s with toks:=s.toks+knd.draws k }) h1 h3 (fin _ ⟨_,_,ep+1,Am _ h1 (Obj.isFreed_of_dict (Obj.data_mapDictKeys h3 _)),h2.mapDictKeys _,Obj.data_mapDictKeys h3 _,?_,?_,?_⟩ (An ..))))
  .rw [ep']; simp[h4,nX]
  .rw [ep']
   intro x hx
   rcases AS.1 hx with hx | hx
   .exact knd.keeps (h5 x hx) h1 h3 (An ..)
   .obtain rfl:=AW.1 hx
    exact knd.keeps kk h1 h3 (An ..)
  .rw [ep',Ap,CZ]
   refine⟨h6,by simp,fun x hx y hy z=>?_⟩;obtain rfl:=AW.1 hy;subst z;obtain⟨q,hq,e2⟩:=Ae.1 hx;obtain⟨j,hj⟩:=AZ.1 hq;obtain⟨q1,q2⟩:=q;cases e2;exact no j q2 hj
 .have e:=cJ h6 hj
  have ep':xJ xs k u v=xs.map (swV k fun p=>(p.1,v)):=by simp[xJ,e]
  refine AA (A7 (AA (wpAny_updateDict (s:={ s with toks:=s.toks+knd.draws k }) h1 h3 (wpAny_point (fin _ ⟨_,_,ep,Am _ h1 (Obj.isFreed_of_dict (Obj.data_mapDict h3 _)),h2.mapDict _,Obj.data_mapDict h3 _,?_,?_,?_⟩ (An ..))))))
  .rw [ep']
   have:=swV_mod (fun p:Value×Value=>(p.1,v)) (nX knd) (fun e:DictEntry=>{ e with val:=v }) (k:=k) (fun _=>rfl) h6 hj;rw[<- h4] at this;obtain⟨l⟩:=es
   simpa using this
  .rw [ep']
   intro x hx;obtain⟨y,hy,rfl⟩:=Ae.1 hx;unfold swV
   split<;>exact knd.keeps (h5 y hy) h1 h3 (An ..)
  .rw [ep',qE]; exact h6
theorem aN {Q:Bool->Shared->Prop}(room:knd.room A.in1)(kk:knd.is s.heap k u)(hd:(d==sysModules)=false)(dd:s.heap.DictOfV knd d xs)
  (h:Q (atV xs k).isSome { s with toks:=s.toks+knd.draws k }):wpAny (model prog w) A (contains (.ref d) u) Q E s:=by
 refine Af (AA (As dd.type slot_dict_contains.lookup ?_));rw[Av (by rw[beq_builtin_none]; exact AJ)]
 refine AA (wpAny_callSpecialUnlessNone?_slot (name:=Str.ofString "__contains__") dd.type slot_dict_contains
  (Ah slot_dict_contains dd.type entry_dict_contains ?_ (args_dict_contains _ _)))
 show wpAny _ _ (dictGet d u >>= _) _ _ s;refine AA (sI room kk dd ?_)
 cases hf:atV xs k with
 |some p =>
  rw[hf] at h;exact AB ⟨_,rfl,BD h⟩
 |none =>
  rw[hf] at h;exact AA (wpAny_pendingKey_other hd (AB ⟨_,rfl,BD h⟩))
theorem notIn_v {Q:Value->Shared->Prop}(room:knd.room A.in1)(kk:knd.is s.heap k u)(hd:(d==sysModules)=false)(dd:s.heap.DictOfV knd d xs)
  (h:Q (.bool (!(atV xs k).isSome)) { s with toks:=s.toks+knd.draws k }):wpAny (model prog w) A (compareOp .NotIn u (.ref d)) Q E s:=AA (aN room kk hd dd (AB h))
theorem tT {p:Value×Value}{Q:Value->Shared->Prop}(room:knd.room A.in1)(kk:knd.is s.heap k u)(dd:s.heap.DictOfV knd d xs)(hp:atV xs k=some p)
  (h:Q p.2 { s with toks:=s.toks+knd.draws k }):wpAny (model prog w) A (getItem (.ref d) u) Q E s:=by
 refine Af (AA (wpAny_sequenceKey dd.type (by decide) (AA (Ar (name:=Str.ofString "__getitem__") dd.type slot_dict_getitem
  (Ah slot_dict_getitem dd.type entry_dict_getitem ?_ (args_dict_getitem _ _))))))
 show wpAny _ _ (dictGet d u >>= _) _ _ s;refine AA (sI room kk dd ?_);rw[hp];exact AB ⟨p.2,rfl,AB h⟩
theorem lS {Q:Unit->Shared->Prop}(room:knd.room A.in1)(kk:knd.is s.heap k u)(dd:s.heap.DictOfV knd d xs)(hz:xs.length<=sizeLine)
  (fin:∀h',h'.DictOfV knd d (xJ xs k u v)->Heap.SameBut d s.heap h'->Q () { s with heap:=h',toks:=s.toks+knd.draws k }):wpAny (model prog w) A (setItem (.ref d) u v) Q E s:=by
 refine Af (AA (wpAny_sequenceKey dd.type (by decide) (AA (Ar (name:=Str.ofString "__setitem__") dd.type slot_dict_setitem
  (Ah slot_dict_setitem dd.type entry_dict_setitem ?_ (args_dict_setitem _ _ _))))))
 refine AA (DQ dd.type ?_);show wpAny _ _ (dictSet d u v >>= _) _ _ s;exact AA (lI room kk dd hz fun h' dd' hs=>AB ⟨.none,rfl,AB (fin h' dd' hs)⟩)
theorem eB {Q:Option DictEntry->Shared->Prop}(room:knd.room A)(kk:knd.is s.heap k u)(dd:s.heap.DictOfV knd d xs){j:Nat}{b:Value}(hj:xs[j]?=some (k,b,v))(hz:xs.length<=sizeLine)
  (fin:∀h' e,e.val=v->h'.DictOfV knd d (xs.filter fun x=>decide (x.1≠k))->Heap.SameBut d s.heap h'->Q (some e) { s with heap:=h',toks:=s.toks+knd.draws k }) :
  wpAny (model prog w) A (Builtin.Dict.takeOut d u) Q E s:=by
 obtain⟨o,es,ep,h1,h2,h3,h4,h5,h6⟩:=id dd;have F:=Heap.DictOfV.in' (n:=s.toks+knd.draws k) kk h1 h3 h4 h5 h6;refine Af (AA (knd.pyHash room kk (AA (F.find room (fun no=>(no _ _ hj).elim) fun j' p' hj'=>?_))));have ee:es[j']?=some (nX knd (k,p')):=by rw[F.ent,hj']; rfl
 have ej:j'=j:=by
  have l1:j' < (xs.map (·.1)).length:=by rw[AD]; exact(AI.1 hj').1
  exact(Bp l1 h6).1 (by rw[AL,AL,hj,hj']; rfl)
 subst ej;rw[hj] at hj';cases hj';refine AA (BQ h1 h3 ?_);rw[ee];have hs:es.size=xs.length:=by rw[<- A1,h4,AD]
 have hl:j' < es.size:=by rw[hs]; exact(AI.1 hj).1
 have el:es.eraseIdxIfInBounds j'=es.eraseIdx j' hl:=by rw[Array.eraseIdxIfInBounds,dif_pos hl]
 refine AA (wpAny_updateDictKeys h1 h3 ?_ (by omega) (by rw[el,Array.size_eraseIdx]; omega));have same:Heap.SameBut d s.heap (s.heap.update d (Obj.mapDictKeys (·.eraseIdxIfInBounds j'))):=⟨Heap.size_update _ _ _,fun b nb=>BH _ _ (Ne.symm nb)⟩
 have eo:Obj.mapDictKeys (·.eraseIdxIfInBounds j') o={ o with data:=.dict (es.eraseIdxIfInBounds j') (ep+1) }:=by
  obtain⟨c,dd,da,sl⟩:=o;cases h3
  rfl
 refine AB (fin _ _ rfl ⟨_,es.eraseIdxIfInBounds j',ep+1,Am _ h1 ?_,?_,?_,?_,?_,?_⟩ same)
 .rw [eo]; rfl
 .rw [eo]; exact h2
 .rw [eo]
 .rw [<- lW h6 hj]
  rw[el,Array.toList_eraseIdx,h4,rR]
 .intro x hx
  exact knd.keeps (h5 x (CP.1 hx).1) h1 h3 same
 .exact List.Nodup.sublist (List.filter_sublist.map _) h6
theorem pop_v {R:Fin->Shared->Prop}(room:knd.room A)(kk:knd.is s.heap k u)(dd:s.heap.DictOfV knd d xs){j:Nat}{b:Value}(hj:xs[j]?=some (k,b,v))(hz:xs.length<=sizeLine)
  (fin:∀h',h'.DictOfV knd d (xs.filter fun x=>decide (x.1≠k))->Heap.SameBut d s.heap h'->R (.done (.ret v)) { s with heap:=h',toks:=s.toks+knd.draws k }) :
  wpAny (model prog w) A (Builtin.«dict.pop» { pos:=[.ref d,u] }) R E s:=by
 obtain⟨o,es,ep,h1,h2,h3,h4,h5,h6⟩:=id dd;refine AA (AA (DQ dd.type (AB ?_)))
 try dsimp only
 have hs:es.size=xs.length:=by rw[<- A1,h4,AD]
 have hl:=(AI.1 hj).1;have fin':∀h' (e:DictEntry),e.val=v->h'.DictOfV knd d (xs.filter fun x=>decide (x.1≠k))->Heap.SameBut d s.heap h'->R (.done (.ret e.val)) { s with heap:=h',toks:=s.toks+knd.draws k }:=fun h' e he dd' sm=>by rw[he]; exact fin h' dd' sm
 refine Ac (fun _=>AA (AB ?_)) fun _=>AA (BQ h1 h3 (AA (AB ?_)))
 .rw [Av (fun z=>nomatch z)]
  exact AA (eB room kk dd hj hz fun h' e he dd' sm=>AA (B5 (AB (fin' h' e he dd' sm))))
 .rw [Av (by rw[Array.isEmpty_iff_size_eq_zero]; omega)]
  exact AA (eB room kk dd hj hz fun h' e he dd' sm=>AA (B5 (AB (fin' h' e he dd' sm))))
end
end PySem
namespace L2
open PySem PySem.W PySem.Spec PyProof.Rows
abbrev PNm:=Qv×Key
end L2
namespace CL
open PySem PySem.Spec L2 PySem.W
open PyProof.Rows hiding St
section
variable {X:Cx}{a b c e o i f value:Expr}{es:List Expr}{pos pos':Pos}
def nkOf:PV->Option PNm
 |.tup [p,k]=>match kP p,bV k with
  |some p,some k=>some (p,k)
  |_,_=>none
 |_=>none
@[irreducible] def cPutN:PV->PV->PV->CH->(CH->Prop)->Prop:=fun x y v C Q=>match x with
 |.ref a=>match C a,nkOf y with
  |some (.dN kvs),some k=>kvs.length < sizeLine/\Q (vQ C a (.dN (putG kvs k v)))
  |_,_=>False
 |_=>False
@[irreducible] def cGetN:PV->List PV->CH->K1->Prop:=fun x ts C Q=>match x,ts with
 |.ref a,[y]=>match C a,nkOf y with
  |some (.dN kvs),some k=>Q ((wF kvs k).getD .non) C
  |_,_=>False
 |_,_=>False
end
section
variable {X:Cx}{pos:Pos}{keys:List (Option Expr)}{values:List Expr}{cs:List (TCE×TCE)}
@[irreducible] def cPutAllP (p:Addr):List (PV×PV)->CH->K1->Prop:=fun ts C Q=>C p=some (.dP [])/\match ts with
 |[(x,y)]=>match kP x with
  |some k=>Q (.ref p) (vQ C p (.dP [(k,y)]))
  |none=>False
 |_=>False
end
end CL
namespace L2
open PySem PySem.Spec PyProof.Rows PySem.W
section
variable {κ β β':Type}[DecidableEq κ]{F:κ×β->κ×β'->Prop}{l:List (κ×β)}{m:List (κ×β')}
theorem jU (hk:∀p q,F p q->p.1=q.1)(r:Paired F l m)(k:κ):(∃p q,atV l k=some p/\atV m k=some q/\F (k,p) (k,q))\/(atV l k=none/\atV m k=none):=by
 induction r with
 |nil=>exact .inr ⟨rfl,rfl⟩
 |@cons p q ps qs h t ih =>
  have e1:=hk p q h
  by_cases e:p.1=k
  .refine .inl ⟨p.2,q.2,by simp[atV,List.find?_cons,e],by simp[atV,List.find?_cons,e1.symm.trans e],?_⟩
   obtain⟨p1,p2⟩:=p;obtain⟨q1,q2⟩:=q;cases e;cases e1;exact h
  .have a1:atV (p::ps) k=atV ps k:=by simp[atV,List.find?_cons,e]
   have a2:atV (q::qs) k=atV qs k:=by simp[atV,List.find?_cons,(show ¬ q.1=k from fun z=>e (e1.trans z))]
   rw[a1,a2];exact ih
theorem vR (hk:∀p q,F p q->p.1=q.1)(r:Paired F l m)(k:κ):Paired F (l.filter fun x=>decide (x.1≠k)) (m.filter fun x=>decide (x.1≠k)):=by
 induction r with
 |nil=>exact .nil
 |@cons p q ps qs h t ih =>
  have e1:=hk p q h
  by_cases e:p.1=k
  .rw [Bt (by rw[Bw]; exact fun z=>z e),Bt (by rw[Bw]; exact fun z=>z (e1.symm.trans e))]
   exact ih
  .rw [Bs (by rw[Bw]; exact e),Bs (by rw[Bw]; exact fun z=>e (e1.trans z))]
   exact .cons h ih
theorem eH:∀{l:List (κ×β)}{m:List (κ×β')},Paired F l m->∀{i:Nat}{p},l[i]?=some p->∃q,m[i]?=some q/\F p q
 |_,_,.nil,i,p,e=>by simp at e
 |_,_,.cons h t,i,p,e=>by
  cases i with
  |zero=>cases e; exact⟨_,rfl,h⟩
  |succ i=>exact eH t e
theorem kR:∀{l:List (κ×β)}{m:List (κ×β')},Paired F l m->∀{i:Nat}{q},m[i]?=some q->∃p,l[i]?=some p/\F p q
 |_,_,.nil,i,p,e=>by simp at e
 |_,_,.cons h t,i,p,e=>by
  cases i with
  |zero=>cases e; exact⟨_,rfl,h⟩
  |succ i=>exact kR t e
end
section
variable {κ β β' γ γ':Type}[DecidableEq κ]{F:κ×β×γ->κ×β'×γ'->Prop}{l:List (κ×β×γ)}{m:List (κ×β'×γ')}{k:κ}{y:β}{u:β'}{v:γ}{r:γ'}
theorem rE (hk:∀p q,F p q->p.1=q.1)(hs:∀p q,F p q->F (p.1,p.2.1,v) (q.1,q.2.1,r))(hn:F (k,y,v) (k,u,r))(h:Paired F l m):Paired F (xJ l k y v) (xJ m k u r):=by
 have e:(atV l k).isSome=(atV m k).isSome:=by rcases jU hk h k with ⟨p,q,e1,e2,_⟩ | ⟨e1,e2⟩<;>rw[e1,e2]<;>rfl
 unfold xJ;rw[e]
 split
 .next z =>
  clear e z
  induction h with
  |nil=>exact .nil
  |@cons p q ps qs h t ih =>
   refine .cons ?_ ih;have e1:=hk p q h;unfold swV
   by_cases e:p.1=k
   .rw [A4 e,A4 (e1.symm.trans e)]; exact hs p q h
   .rw [Av e,Av (fun z=>e (e1.trans z))]; exact h
 .exact Paired.snoc h hn
theorem fE:(xJ l k y v).length<=l.length+1:=by
 unfold xJ
 split
 .rw [AD]; omega
 .rw [AM]; exact AG _
end
theorem pU {H:Hp}:∀(p:gQ×V×V) (q:gQ×Value×Value),(p.1=q.1/\MK H p.1 p.2.1/\RelV p.2.1 q.2.1/\RelV p.2.2 q.2.2)->p.1=q.1:=fun _ _ h=>h.1
section
variable {P:Program}{w:World}{H:Hp}{h:Heap}{a:Addr}
theorem uM {k:gQ}{v:V}{u:Value}(ok:HOk P w H h)(e:MK H k v)(r:RelV v u):(qZ P w).is h k u:=by
 cases e with
 |int i=>obtain⟨t,rfl⟩:=(show ∃t,u=Value.int i t from r); exact .int i t
 |bl b=>cases (show u=Value.bool b from r); exact .bl b
 |str x=>obtain⟨t,rfl⟩:=(show ∃t,u=Value.str x t from r); exact .str x t
 |non=>cases (show u=Value.none from r); exact .non
 |tup e=>cases (show u=Value.ref _ from r); exact .tup (key_of ok e)
theorem lV {o:Obj}{kvs:List (gQ×V×V)}(ok:HOk P w H h)(e:H a=some (.dM o kvs)):kvs.length<=sizeLine/\(a==sysModules)=false/\h.get? a=some o /\
  ∃xs,KM H kvs xs/\(∃es ep,o.ExactDict/\o.data=.dict es ep/\es.toList=xs.map (nX (qZ P w)))/\h.DictOfV (qZ P w) a xs:=by
 obtain⟨z,y,h1,xs,r,es,ep,h2,h3,h4,h5⟩:=(show ObjOk P w H h a (.dM o kvs) from ok a _ e);refine⟨z,y,h1,xs,r,⟨es,ep,h2,h3,h4⟩,o,es,ep,h1,h2,h3,h4,fun x hx=>?_,h5⟩;obtain⟨i,hi⟩:=AZ.1 hx;obtain⟨p,_,e1,e2,e3,_⟩:=kR r hi;rw[<- e1];exact uM ok e2 e3
end
section
variable {X:Cx}{pins:List (Addr×Obj)}{σ:St}{H:Hp}{s:Shared}{a:Addr}{y v:V}{u r:Value}{A:Around}{E:Value->Shared->Prop}{o:Obj}{kvs:List (gQ×V×V)}{k:gQ}
theorem km_mono {H H':Hp}{l:List (gQ×V×V)}{m:List (gQ×Value×Value)}(q:KM H l m)(ht:∀b xs,H b=some (.tup xs)->H' b=some (.tup xs)):KM H' l m:=Paired.mapP q fun _ _ z=>⟨z.1,z.2.1.mono ht,z.2.2⟩
theorem fU {h':Heap}{t':Nat}{xs:List (gQ×Value×Value)}{l:List (gQ×V×V)}(I:Inv X pins σ H s)(e:H a=some (.dM o kvs))(hl:l.length<=sizeLine)(hd:(a==sysModules)=false)(dd:h'.DictOfV (qZ X.prog X.w) a xs)(hs:Heap.SameBut a s.heap h')(rel:KM H l xs):
  ∃o',Inv X pins σ (upd H a (.dM o' l)) { s with heap:=h',toks:=t' }:=by
 obtain⟨q,es,ep,hq,h2,h3,h4,_,h5⟩:=dd;refine⟨q,d_write I (by rw[e]; exact True.intro) hs ⟨q,hq⟩ ⟨hl,hd,hq,_,km_mono rel fun c ys ec=>?_,es,ep,h2,h3,h4,h5⟩⟩;rw[kQ (ne_of ec e (fun z=>nomatch z))];exact ec
theorem xT {Q:Unit->Shared->Prop}(hu:A.units+1 < cLine)(I:Inv X pins σ H s)(e:H a=some (.dM o kvs))(hk:MK H k y)(l:kvs.length < sizeLine)(ry:RelV y u)(rv:RelV v r)(h:∀o' s',Inv X pins σ (upd H a (.dM o' (xJ kvs k y v))) s'->Q () s'):
  wpAny (model X.prog X.w) A (setItem (.ref a) u r) Q E s:=by
 obtain⟨z,hd,h1,xs,rel,_,dd⟩:=lV I.hok e;have hz:xs.length<=sizeLine:=by rwa [<- Paired.length rel]
 refine lS (knd:=qZ X.prog X.w) hu (uM I.hok hk ry) dd hz fun h' dd' hs=>?_;obtain⟨o',I'⟩:=fU (t':=s.toks+(qZ X.prog X.w).draws k) I e (by have:=fE (l:=kvs) (k:=k) (y:=y) (v:=v); omega) hd dd' hs (rE (v:=v) (r:=r) pU (fun p q h=>⟨h.1,h.2.1,h.2.2.1,rv⟩) ⟨rfl,hk,ry,rv⟩ rel);exact h o' _ I'
theorem vT {p:V×V}{Q:Value->Shared->Prop}(hu:A.units+1 < cLine)(I:Inv X pins σ H s)(e:H a=some (.dM o kvs))(hk:MK H k y)(hp:atV kvs k=some p)(ry:RelV y u)(h:∀w' s',Inv X pins σ H s'->RelV p.2 w'->Q w' s'):
  wpAny (model X.prog X.w) A (getItem (.ref a) u) Q E s:=by
 obtain⟨z,hd,h1,xs,rel,_,dd⟩:=lV I.hok e
 rcases jU pU rel k with ⟨p',q,e1,e2,h3⟩ | ⟨e1,_⟩
 .rw [hp] at e1
  cases e1;exact tT (knd:=qZ X.prog X.w) hu (uM I.hok hk ry) dd e2 (h _ _ (I.tok _) h3.2.2.2)
 .rw [hp] at e1; cases e1
theorem m_notIn {Q:Value->Shared->Prop}(hu:A.units+1 < cLine)(I:Inv X pins σ H s)(e:H a=some (.dM o kvs))(hk:MK H k y)(ry:RelV y u)(h:∀s',Inv X pins σ H s'->Q (.bool (!(atV kvs k).isSome)) s'):
  wpAny (model X.prog X.w) A (compareOp .NotIn u (.ref a)) Q E s:=by
 obtain⟨z,hd,h1,xs,rel,_,dd⟩:=lV I.hok e;refine notIn_v (knd:=qZ X.prog X.w) hu (uM I.hok hk ry) hd dd ?_;have q:=h _ (I.tok (s.toks+(qZ X.prog X.w).draws k))
 rcases jU pU rel k with ⟨p',q',e1,e2,h3⟩ | ⟨e1,e2⟩
 .rw [e1] at q; rw[e2]; exact q
 .rw [e1] at q; rw[e2]; exact q
theorem m_pop {p:V×V}{Q:Value->Shared->Prop}(hu:A.units+1 < cLine)(I:Inv X pins σ H s)(e:H a=some (.dM o kvs))(hk:MK H k y)(hp:atV kvs k=some p)(ry:RelV y u)
  (h:∀o' w' s',Inv X pins σ (upd H a (.dM o' (kvs.filter fun x=>decide (x.1≠k)))) s'->RelV p.2 w'->Q w' s'):wpAny (model X.prog X.w) A (call (.builtin "dict.pop") [.ref a,u]) Q E s:=by
 obtain⟨z,hd,h1,xs,rel,_,dd⟩:=lV I.hok e
 rcases jU pU rel k with ⟨p',q,e1,e2,h3⟩ | ⟨e1,_⟩
 .rw [hp] at e1
  cases e1;obtain⟨q1,q2⟩:=q;obtain⟨j,hj⟩:=Qt e2;refine Ah PySem.F.slot_dict_pop dd.type PySem.F.entry_dict_pop (pop_v (knd:=qZ X.prog X.w) hu (uM I.hok hk ry) dd hj ((Paired.length rel)▸z) fun h' dd' hs=>⟨q2,rfl,?_⟩) (PySem.F.args_dict_pop_2 _ _);obtain⟨o',I'⟩:=fU (t':=s.toks+(qZ X.prog X.w).draws k) I e (AX (List.length_filter_le _ _) z) hd dd' hs (vR pU rel k);exact h o' q2 _ I' h3.2.2.2
 .rw [hp] at e1; cases e1
end
section
variable {X:Cx}{o i e value:Expr}{pos pos':Pos}{td ty tv:TE}
def sMPut (td ty tv:TE):TS:=fun D σ H=>tv σ H fun v H1=>td σ H1 fun x H2=>ty σ H2 fun y H3=>∃a ob kvs k,x=.ref a/\H3 a=some (.dM ob kvs)/\MK H3 k y/\kvs.length < sizeLine/\∀o',D.nx σ (upd H3 a (.dM o' (xJ kvs k y v)))
theorem ps_mput (hu:X.A.units+1 < cLine)(ho:PE X o td)(hi:PE X i ty)(hv:PE X value tv)(hs:swapsWith value (some (.Subscript o i pos')) pos.line X.env=pure false):
  PS X (.Assign [.Subscript o i pos'] value pos) (sMPut td ty tv):=by
 intro pins s σ H D I h;refine wpAny_Assign_Subscript (thn (hv pins s σ H _ I h) fun r s1 ⟨v,H1,I1,rv,q1⟩=>thn (ho pins s1 σ H1 _ I1 q1) fun u s2 ⟨x,H2,I2,rx,q2⟩=>thn (hi pins s2 σ H2 _ I2 q2) fun iv s3 zq=>?_) hs;obtain⟨y,H3,I3,ry,a,ob,kvs,k,rfl,e,hk,l,q3⟩:=zq;obtain rfl:u=Value.ref a:=rx;exact xT hu I3 e hk l ry rv fun o' s4 I4=>⟨σ,_,I4,q3 o'⟩
def tMNew:TE:=fun _ H Q=>∀p o,H p=none->Q (.ref p) (upd H p (.dM o []))
theorem oP {P:Program}{w:World}{H:Hp}(h:Heap)(hb:sysModules < h.objs.size):ObjOk P w H (h.push { cls:=.type "dict",data:=.dict #[] }) h.objs.size (.dM { cls:=.type "dict",data:=.dict #[] } []):=by
 refine⟨A0 _,?_,AK _ rfl,[],.nil,#[],0,⟨rfl,rfl,rfl⟩,rfl,rfl,List.nodup_nil⟩;rw[beq_eq_false_iff_ne];exact Ay hb
theorem pe_mnew:PE X (.Dict [] [] pos) tMNew:=by
 intro pins s σ H Q I h;exact wpAny_Dict_empty ⟨.ref s.heap.objs.size,_,I.laid (t':=s.toks) (fun _ _ q=>AC _ q) (AG _) (oP s.heap I.big),rfl,h _ _ (I.hok.fresh (AG _))⟩
def rIxM:R2:=fun x y H Q=>∃a ob kvs k p,x=.ref a/\H a=some (.dM ob kvs)/\MK H k y/\atV kvs k=some p/\Q p.2 H
theorem ix_m (hu:X.A.units+1 < cLine):IxR X rIxM:=by
 intro value slice pins s σ H x y v u Q I rx ry h hs;obtain⟨a,ob,kvs,k,p,rfl,e,hk,hp,q⟩:=h;cases (show v=Value.ref a from rx);obtain⟨z,hd,h1,xs,rel,_,dd⟩:=lV I.hok e;exact tail_any (ops:=[.ref a,u]) (T:="dict") dd.type PySem.F.slot_dict_getitem.lookup (vT hu I e hk hp ry fun w' s' I' r'=>⟨p.2,H,I',r',q⟩) hs
theorem op_mnin (hu:X.A.units+1 < cLine):OpR X (compareOp .NotIn) (fun y x H Q=>∃a ob kvs k,x=.ref a/\H a=some (.dM ob kvs)/\MK H k y/\Q (.bl (!(atV kvs k).isSome)) H):=by
 intro pins s σ H x y v u Q I rx ry h;obtain⟨a,ob,kvs,k,rfl,e,hk,q⟩:=h;cases (show u=Value.ref a from ry);exact m_notIn hu I e hk rx fun s' I'=>⟨.bl _,H,I',rfl,q⟩
def rPopM:V->List V->Hp->VK->Prop:=fun x vs H Q=>∃a y ob kvs k p,x=.ref a/\vs=[y]/\H a=some (.dM ob kvs)/\MK H k y/\atV kvs k=some p/\∀o',Q p.2 (upd H a (.dM o' (kvs.filter fun x=>decide (x.1≠k))))
theorem mt_popM (hu:X.A.units+1 < cLine):MtR X "dict.pop" rPopM:=by
 intro pins s σ H x vs v us Q I rx rv h;obtain⟨a,y,ob,kvs,k,p,rfl,rfl,e,hk,hp,q⟩:=h;cases rx;obtain⟨u,rfl,ru⟩:=rv.one;exact m_pop hu I e hk hp ru fun o' w' s' I' r'=>⟨_,_,I',r',q o'⟩
theorem dm_ty {H:Hp}{a:Addr}{ob:Obj}{kvs:List (gQ×V×V)}(e:H a=some (.dM ob kvs)):TyOk X "dict" (.ref a) H:=by
 intro pins σ s v I r;cases r;obtain⟨z,hd,h1,xs,rel,⟨es,ep,g2,_⟩,dd⟩:=lV I.hok e;refine⟨dd.type,fun b eb=>?_⟩;cases eb;exact⟨ob,h1,g2.2.1⟩
end
end L2
namespace PySem
open PySem.Spec PyProof.Rows PyProof.Rows.F
open Sem (wp)
section
variable {prog:Program}{w:World}{K:Type}[DecidableEq K]{knd:kK prog w K}{A:Around}{E:Value->Shared->Prop}{s:Shared}
theorem wN (d:Addr)(hd:(d==sysModules)=false):
  MeetsIn prog w (Builtin.«dict.__len__» ⟨[.ref d],[]⟩) (fun _ R s=>∃xs,s.heap.DictOfV knd d xs/\R (.ok (.ret (.int xs.length s.toks))) { s with toks:=s.toks+1 }) :=
 .of_wp fun A R s zz=>by
  obtain⟨xs,⟨o,es,ep,h1,h2,h3,h4,_⟩,h⟩:=zz;show wpAny _ _ (dictSize d >>= _) _ _ s;refine AA (AA (BQ h1 h3 (AB ?_)));show wpAny _ _ (Builtin.Dict.pendingCount d >>= _) _ _ s;refine AA (wpAny_pendingCount_other hd (DK ?_));have:es.size=xs.length:=by rw[<- A1,h4,AD]
  rw[BG,this];exact h
theorem len_v {d:Addr}{xs:List (K×Value×Value)}{Q:Value->Shared->Prop}(hd:(d==sysModules)=false)(dd:s.heap.DictOfV knd d xs)(hfit:(xs.length:Int) < 2 ^ 63)
  (h:Q (.int xs.length (s.toks+1)) { s with toks:=s.toks+1+1 }):wpAny (model prog w) A (call (.builtin "len") [.ref d]) Q E s:=by
 refine Calls.call_function_entry kind_len plain_len entry_len (args_len1 _) ?_;unfold Builtin.«len»;refine AA (m:=oneArg "len" _) (AB ?_)
 refine AA (m:=callSpecial? (.ref d) (Str.ofString "__len__")) (Ar (name:=Str.ofString "__len__") dd.type F.slot_dict_len
  (call_meetsIn F.slot_dict_len dd.type F.entry_dict_len (F.args_dict_len_1 _) (wN (knd:=knd) d hd) ⟨xs,dd,?_⟩))
 show wpAny _ _ _ _ _ { s with toks:=s.toks+1 };refine AA (Af (AB ?_));refine AA (B5 ?_);show wpAny _ _ (if ((xs.length:Nat):Int) < 0 then _ else _) _ _ _;rw[Av (by omega)];show wpAny _ _ (if ((xs.length:Nat):Int) >= 2 ^ 63 then _ else _) _ _ _;rw[Av (by omega)];exact AA (wpAny_mkInt (AB ⟨_,rfl,h⟩))
end
end PySem
namespace L2
open PySem PySem.Spec PyProof.Rows PySem.W
section
variable {X:Cx}
abbrev bE:List V->Hp->VK->Prop:=fun xs H Q=>∃a ob kvs,xs=[V.ref a]/\H a=some (.dM ob kvs)/\Q (.int kvs.length) H
theorem jO:CallR X (.builtin "len") bE:=by
 intro pins s σ H xs us Q I r h;obtain⟨a,ob,kvs,rfl,ha,q⟩:=h;obtain⟨u,rfl,ru⟩:=aJ r;cases ru;obtain⟨z,hd,h1,xs,rel,_,dd⟩:=lV I.hok ha;refine len_v hd dd (by rw[<- Paired.length rel]; rw[sizeLine_eq] at z; omega) ?_;rw[<- Paired.length rel];exact⟨.int kvs.length,H,I.tok _,⟨_,rfl⟩,q⟩
end
def ItM (o:Obj)(d:Addr)(n:Nat):It :=
 ⟨fun i H=>i < n/\∃vs,H d=some (.dM o vs),fun i H x H'=>H'=H/\∃vs p,H d=some (.dM o vs)/\vs[i]?=some p/\x=p.2.1,fun i H=>n<=i/\∃vs,H d=some (.dM o vs)⟩
theorem raw_m {X:Cx}{pins:List (Addr×Obj)}{σ:St}{H:Hp}{s:Shared}{d:Addr}{o:Obj}{vs:List (gQ×V×V)}{es:Array DictEntry}{ep:Nat}(I:Inv X pins σ H s)(hd:H d=some (.dM o vs))(ho:o.data=.dict es ep):
  ∃xs,KM H vs xs/\RawD s.heap d es ep/\es.toList=xs.map (nX (qZ X.prog X.w))/\(d==sysModules)=false:=by
 obtain⟨_,hS,h1,xs,rel,⟨es',ep',h2,h3,h4⟩,_⟩:=lV I.hok hd;rw[ho] at h3;cases h3;exact⟨xs,rel,⟨o,h1,h2,ho⟩,h4,hS⟩
theorem turn_m {P:Program}{w:World}{K:DY}{tg:Expr}(o:Obj)(d it:Addr)(es:Array DictEntry)(ep:Nat)(ho:o.data=.dict es ep):yC P w K tg (ItM o d es.size) [it] it (fun i h=>h.IsKeyIter it d i es.size ep) where
 mem:=by simp
 obj:=fun i h st b hb=>by
  have e:b=it:=by simpa using hb
  subst e;obtain⟨o,e,c,d⟩:=st;exact⟨o,e,fun v z=>by rw[d] at z; cases z⟩
 keep:=fun i h h' st k=>let ⟨ob,e,r⟩:=st; ⟨ob,k it (by simp) ob e,r⟩
 item:=by
  intro X hP hw hK hc i pins s σ H E I hf st hg;subst hP hw hK;obtain⟨hi,vs,hd⟩:=hg;obtain⟨xs,rel,da,he,_⟩:=raw_m I hd ho;obtain⟨f0,f1,f2,f3,f4,f5⟩:=hf it (by simp);have hl:vs.length=es.size:=by rw[Paired.length rel,<- A1,he,AD]
  have hk:vs[i]?=some (vs[i]'(by omega)):=AH _;obtain⟨q,hq,k1,k2,k3,_⟩:=eH rel hk
  have hx:es[i]?=some (nX (qZ X.prog X.w) q):=by
   rw[<- Bg,he,AL,hq]; rfl
  refine qM st da hx fun h' st' sb=>?_;have I1:Inv X pins σ H { s with heap:=h' }:=I.turned (t':=s.toks) (fun b o hb e=>(sb.2 b hb).trans e) f0 f1 f3 f4 f5;obtain⟨ob,e,c,dt⟩:=id st';exact⟨q.2.1,rfl,cP (s:={ s with heap:=h' }) e c dt (by decide) ⟨_,H,I1,k3,⟨rfl,_,_,hd,hk,rfl⟩,st',fun b hb=>(hf b hb).1⟩⟩
 done:=by
  intro X hP hw hK hc i pins s σ H E I hf st hg;subst hP hw hK;obtain⟨hi,vs,hd⟩:=hg;obtain⟨xs,rel,da,he,_⟩:=raw_m I hd ho;obtain⟨f0,f1,f2,f3,f4,f5⟩:=hf it (by simp);exact zP (I.ok.hd hc) st da hi fun h' eb=>⟨rfl,I.turned (t':=s.toks) (fun b o hb e=>eb b o hb e) f0 f1 f3 f4 f5⟩
 self:=fun _ _ _ _ _ st h=>wpAny_pyIter_keyiter st h
section
variable {X:Cx}{tg:Expr}
def iMap (td:TE):TI:=fun σ H R=>td σ H fun x H1=>∃d o vs,x=.ref d/\H1 d=some (.dM o vs)/\R (ItM o d vs.length) H1
theorem ji_m {e:Expr}{td:TE}(he:JE X e td):JI X tg e (iMap td):=by
 refine⟨fun pins s σ H R I h=>?_⟩;refine thn (he.h pins s σ H _ I h) fun v s1 zz=>?_;obtain⟨x,H1,I1,r1,d,o,vs,rfl,hd,q⟩:=zz;cases (show v=Value.ref d from r1);obtain⟨_,hS,h1,xs,rel,⟨es,ep,h2,h3,h4⟩,_⟩:=lV I1.hok hd;have hl:es.size=vs.length:=by rw[<- A1,h4,AD,<- Paired.length rel]
 rw[<- hl] at q;refine zM (es:=es) (ep:=ep) hS ⟨o,h1,h2,h3⟩ ?_;refine⟨s1.heap.objs.size,[s1.heap.objs.size],_,_,_,rfl,I1.kept (t':=s1.toks) fun b o e=>AC _ e,turn_m o d _ es ep h3,⟨_,AK _ rfl,rfl,rfl⟩,fun b hb=>?_,q⟩;have e:b=s1.heap.objs.size:=by simpa using hb
 subst e;exact I1.fpOk (AG _) (I1.hok.fresh (AG _))
end
end L2
namespace CL
open PySem PySem.Spec L2 PySem.W
open PyProof.Rows hiding St
def aZ:PV->Option gQ
 |.int i=>some (.inl (.inl (some i)))
 |.bl b=>some (.inl (.inl (some (bI b))))
 |.str x=>some (.inl (.inr x))
 |.non=>some (.inl (.inl none))
 |.tup ts=>(wK ts).map .inr
 |_=>none
theorem yV {K:DY}{H:Hp}{v:V}{t:PV}{k:gQ}(r:Rep K H v t)(e:aZ t=some k):MK H k v:=by
 cases r with
 |int i=>cases e; exact .int i
 |bl b=>cases e; exact .bl b
 |str x=>cases e; exact .str x
 |non=>cases e; exact .non
 |tup h r =>
  obtain⟨ks,e1,rfl⟩:=BZ.1 e;rw[pN r e1] at h;exact .tup h
 |_=>cases e
theorem hU {K:DY}{H:Hp}:∀(p:gQ×V×V) (q:gQ×PV×PV),(p.1=q.1/\Rep K H p.2.1 q.2.1/\Rep K H p.2.2 q.2.2)->p.1=q.1:=fun _ _ h=>h.1
theorem FM.imm {K:DY}{H H':Hp}{vs:List (gQ×V×V)}{kvs:List (gQ×PV×PV)}(r:FM K H vs kvs)(k:Imm H H'):FM K H' vs kvs:=Paired.mapP r fun _ _ z=>⟨z.1,z.2.1.imm k,z.2.2.imm k⟩
section
variable {X:Cx}{a b c e o i f value:Expr}{es:List Expr}{pos pos':Pos}
def cMNew:TCE:=fun _ C Q=>∀p ob,C p=none->Q (.ref p) (vQ C p (.dM ob []))
theorem mG:CE X (.Dict [] [] pos) cMNew:=⟨JE.weak ⟨pe_mnew⟩ fun σ H Q zz=>qX zz fun ρ C R s h q f=> fun p ob hp=>f (.ref p) _ (.ref p) _ (q p ob (h.fresh hp)) (.ref p) (h.lay hp ⟨[],uQ,.nil⟩) (Fw.lay hp _ _)⟩
@[irreducible] def uS:PV->PV->PV->CH->(CH->Prop)->Prop:=fun x y v C Q=>match x with
 |.ref a=>match C a,aZ y with
  |some (.dM _ kvs),some k=>kvs.length < sizeLine/\∀o',Q (vQ C a (.dM o' (xJ kvs k y v)))
  |_,_=>False
 |_=>False
def cMPut (co ck cv:TCE):TCS:=fun E ρ C=>cv ρ C fun v C1=>co ρ C1 fun x C2=>ck ρ C2 fun y C3=>uS x y v C3 fun C4=>E.nx ρ C4
theorem yG {co ck cv:TCE}(hu:X.A.units+1 < cLine)(ho:CE X o co)(hi:CE X i ck)(hv:CE X value cv)(hs:swapsWith value (some (.Subscript o i pos')) pos.line X.env=pure false:=by rfl):
  CS X (.Assign [.Subscript o i pos'] value pos) (cMPut co ck cv):=⟨JS.weak ⟨ps_mput hu ho.h.h hi.h.h hv.h.h hs⟩ fun D σ H zz=>qX zz fun ρ C E s h q f=>
 ⟨ρ,C,_,s,h,q,fun v H1 pv C1 q1 rv h1 f1=>⟨ρ,C1,_,s.imm (f1.imm h),h1,q1,fun x H2 px C2 q2 rx h2 f2=>⟨ρ,C2,_,(s.imm (f1.imm h)).imm (f2.imm h1),h2,q2,fun y H3 py C3 q3 ry h3 f3=>by
  have rv3:=rv.imm ((f2.trans f3).imm h1)
  delta uS at q3
  split at q3
  .next a =>
   split at q3
   .next ob kvs k e1 e2 =>
    have rx3:=rx.imm (f3.imm h2);cases rx3;obtain⟨vs,ev,r⟩:=h3 a _ e1;refine⟨a,ob,vs,k,rfl,ev,yV ry e2,by rw[Paired.length r]; exact q3.1,fun o'=>?_⟩;have m:Imm H3 (upd H3 a (.dM o' (xJ vs k y v))):=Imm.mut ev rfl _;exact f.nx σ _ ρ _ (q3.2 o') ((((s.imm (f1.imm h)).imm (f2.imm h1)).imm (f3.imm h2)).imm m) (h3.put ev rfl ⟨_,uQ,FM.imm (rE hU (fun p q h=>⟨h.1,h.2.1,rv3⟩) ⟨rfl,ry,rv3⟩ r) m⟩) (f1.trans (f2.trans (f3.trans (Fw.put e1 _ _))))
   .exact q3.elim
  .exact q3.elim⟩⟩⟩⟩
theorem zD {C:CH}{p:Addr}{ob:Obj}{kvs:List (gQ×PV×PV)}{y v:PV}{k:gQ}{Q:CH->Prop}(m:C p=some (.dM ob kvs))(hk:aZ y=some k)(h:kvs.length<=4000)(q:∀o',Q (vQ C p (.dM o' (xJ kvs k y v)))):uS (.ref p) y v C Q:=by
 delta uS
 dsimp only;rw[m,hk];exact⟨Aq h (by decide),q⟩
@[irreducible] def Qp:R2C:=fun x y C Q=>match x with
 |.ref a=>match C a,aZ y with
  |some (.dM _ kvs),some k=>match atV kvs k with
   |some p=>Q p.2 C
   |none=>False
  |_,_=>False
 |_=>False
theorem cop_mix {K:DY}:Cop K rIxM Qp:=fun x y px py H C Q R rx ry h q f=>by
 delta Qp at q
 split at q
 .next a =>
  split at q
  .next ob kvs k e1 e2 =>
   split at q
   .next p e3 =>
    cases rx;obtain⟨vs,ev,r⟩:=h a _ e1
    rcases jU hU r k with ⟨p',q',l1,l2,h3⟩ | ⟨_,l2⟩
    .rw [e3] at l2
     cases l2;exact⟨a,ob,vs,k,p',rfl,ev,yV ry e2,l1,f _ H _ C q h3.2.2 h Fw.refl⟩
    .rw [e3] at l2; cases l2
   .exact q.elim
  .exact q.elim
 .exact q.elim
theorem cxm {ca cb:TCE}(hu:X.A.units+1 < cLine)(ha:CE X a ca)(hb:CE X b cb)(hs:cG b:=by exact fun _ _=>rfl):CE X (.Subscript a b pos) (cOp Qp ca cb):=ce_ix (ix_m hu) cop_mix ha hb hs
theorem gM {C:CH}{a:Addr}{ob:Obj}{kvs:List (gQ×PV×PV)}{y:PV}{k:gQ}{p:PV×PV}{Q:K1}(m:C a=some (.dM ob kvs))(hk:aZ y=some k)(hp:atV kvs k=some p)(q:Q p.2 C):Qp (.ref a) y C Q:=by
 delta Qp
 dsimp only;rw[m,hk];dsimp only;rw[hp];exact q
@[irreducible] def bS:R2C:=fun y x C Q=>match x with
 |.ref a=>match C a,aZ y with
  |some (.dM _ kvs),some k=>Q (.bl (!(atV kvs k).isSome)) C
  |_,_=>False
 |_=>False
theorem iI {K:DY}:Cop K (fun y x H Q=>∃a ob kvs k,x=.ref a/\H a=some (.dM ob kvs)/\MK H k y/\Q (.bl (!(atV kvs k).isSome)) H) bS:=fun x y px py H C Q R rx ry h q f=>by
 delta bS at q
 split at q
 .next a =>
  split at q
  .next ob kvs k e1 e2 =>
   cases ry;obtain⟨vs,ev,r⟩:=h a _ e1;refine⟨a,ob,vs,k,rfl,ev,yV rx e2,?_⟩
   rcases jU hU r k with ⟨p',q',l1,l2,h3⟩ | ⟨l1,l2⟩
   .rw [l2] at q; rw[l1]; exact f _ H _ C q (.bl _) h Fw.refl
   .rw [l2] at q; rw[l1]; exact f _ H _ C q (.bl _) h Fw.refl
  .exact q.elim
 .exact q.elim
theorem mnin_s {C:CH}{a:Addr}{ob:Obj}{kvs:List (gQ×PV×PV)}{y:PV}{k:gQ}{Q:K1}(m:C a=some (.dM ob kvs))(hk:aZ y=some k)(q:Q (.bl (!(atV kvs k).isSome)) C):bS y (.ref a) C Q:=by
 delta bS
 dsimp only;rw[m,hk];exact q
def isMd (x:PV)(C:CH):Prop:=∃a ob kvs,x=.ref a/\C a=some (.dM ob kvs)
theorem isMd_of {H:Hp}{C:CH}{x:V}{t:PV}(d:isMd t C)(r:Rep X.K H x t)(h:HRel X.K H C):TyOk X "dict" x H:=by
 obtain⟨a,ob,kvs,rfl,e⟩:=d;cases r;obtain⟨vs,ev,_⟩:=h a _ e;exact dm_ty ev
@[irreducible] def gS:PV->List PV->CH->K1->Prop:=fun x ts C Q=>match x,ts with
 |.ref a,[y]=>match C a,aZ y with
  |some (.dM _ kvs),some k=>match atV kvs k with
   |some p=>∀o',Q p.2 (vQ C a (.dM o' (kvs.filter fun x=>decide (x.1≠k))))
   |none=>False
  |_,_=>False
 |_,_=>False
theorem Qd {K:DY}:Cmt K rPopM gS:=fun x px xs ps H C Q R rx rs h q f=>by
 delta gS at q
 split at q
 .next a y =>
  split at q
  .next ob kvs k e1 e2 =>
   split at q
   .next p e3 =>
    obtain⟨v,rfl,ry⟩:=xX rs;cases rx;obtain⟨vs,ev,r⟩:=h a _ e1
    rcases jU hU r k with ⟨p',q',l1,l2,h3⟩ | ⟨_,l2⟩
    .rw [e3] at l2
     cases l2;refine⟨a,v,ob,vs,k,p',rfl,rfl,ev,yV ry e2,l1,fun o'=>?_⟩;have m:Imm H (upd H a (.dM o' (vs.filter fun x=>decide (x.1≠k)))):=Imm.mut ev rfl _;exact f _ _ _ _ (q o') (h3.2.2.imm m) (h.put ev rfl ⟨_,uQ,FM.imm (vR hU r k) m⟩) (Fw.put e1 _ _)
    .rw [e3] at l2; cases l2
   .exact q.elim
  .exact q.elim
 .exact q.elim
theorem popM_s {C:CH}{a:Addr}{ob:Obj}{kvs:List (gQ×PV×PV)}{y:PV}{k:gQ}{p:PV×PV}{Q:K1}(m:C a=some (.dM ob kvs))(hk:aZ y=some k)(hp:atV kvs k=some p)(q:∀o',Q p.2 (vQ C a (.dM o' (kvs.filter fun x=>decide (x.1≠k))))):gS (.ref a) [y] C Q:=by
 delta gS
 dsimp only;rw[m,hk];dsimp only;rw[hp];exact q
def cBMM (cr:PV->List PV->CH->K1->Prop)(co:TCE)(ca:TCA):TCE:=fun ρ C Q=>co ρ C fun x C1=>isMd x C1/\ca ρ C1 fun xs C2=>cr x xs C2 Q
theorem ce_bmM {name:Str}{id:String}{r:V->List V->Hp->VK->Prop}{cr:PV->List PV->CH->K1->Prop}{co:TCE}{ca:TCA}{apos cpos:Pos}(pa:PlainAttrs "dict")(slot:Slot "dict" name id)(hty:typeOf (.builtin id)=pure (.type "method_descriptor"))(hm:MtR X id r)(hr:Cmt X.K r cr)(ho:CE X o co)(ha:CA X (e::es) ca)
  (hbase:attributeBase o name X.env (eval o X.env)=eval o X.env:=by rfl)
  (hfew:((backTo cpos (starEach (e::es) X.env)).all (fun x=>!x.1)&&(backToKw cpos (keywordEach [] X.env)).all (fun x=>x.1.isSome)
   && decide ((e::es).length+([]:List Keyword).length+(if ([]:List Keyword).isEmpty then 0 else 1) < 30))=true:=by rfl)
  (hline:(apos.endLine==cpos.line)=true:=by rfl) (hs:nQ e=true:=by rfl) (hall:es.all nQ=true:=by rfl) :
  CE X (.Call (.Attribute o name apos) (e::es) [] cpos) (cBMM cr co ca) :=
 ⟨JE.weak ⟨pe_bmG pa slot hty hm ho.h.h ha.h.h hbase hfew hline (lX hs) (gK hall)⟩ fun σ H Q zz=>qX zz fun ρ C R s h q f=>
 ⟨ρ,C,_,s,h,q,fun x H1 px C1 q1 rx h1 f1=>⟨isMd_of q1.1 rx h1,ρ,C1,_,s.imm (f1.imm h),h1,q1.2,fun xs H2 ps C2 q2 rs h2 f2 =>
  hr x px xs ps H2 C2 Q R (rx.imm (f2.imm h1)) rs h2 q2 fun v H' t C' q' r' h' f'=>f v H' t C' q' r' h' (f1.trans (f2.trans f'))⟩⟩⟩
@[irreducible] def aW:GC:=fun ts C Q=>match ts with
 |[.tup xs]=>Q (.int xs.length) C
 |[.ref a]=>match C a with
  |some (.lst xs)=>Q (.int xs.length) C
  |some (.dM _ kvs)=>Q (.int kvs.length) C
  |_=>False
 |_=>False
theorem kO:CallR X (.builtin "len") (fun xs H Q=>iC X.K xs H Q\/bE xs H Q):=CallR.or oM jO
theorem Ql {K:DY}:Cbi K (fun xs H Q=>iC K xs H Q\/bE xs H Q) aW:=fun xs ps H C Q R rs h q f=>by
 delta aW at q
 split at q
 .obtain ⟨v,rfl,r⟩:=xX rs
  cases r with
  |tup e r=>exact .inl (.inl ⟨_,_,rfl,.inr (SqT.of e),f _ H _ C (by rwa [r.len]) (.int _) h Fw.refl⟩)
 .obtain ⟨v,rfl,r⟩:=xX rs
  split at q
  .next xs e =>
   obtain⟨vs,ev,rv⟩:=h _ _ e;cases r;exact .inl (.inl ⟨_,_,rfl,.inl (SqL.of ev),f _ H _ C (by rwa [rv.len]) (.int _) h Fw.refl⟩)
  .next ob kvs e =>
   obtain⟨vs,ev,rv⟩:=h _ _ e;cases r;exact .inr ⟨_,_,_,rfl,ev,f _ H _ C (by rwa [Paired.length rv]) (.int _) h Fw.refl⟩
  .exact q.elim
 .exact q.elim
end
structure ItC (K:DY)(S:CH->Prop)(J:It)(ps:List PV):Prop where
 go:∀i H' C',i < ps.length->HRel K H' C'->S C'->J.go i H'
 yl:∀i H' C' x H'',HRel K H' C'->S C'->J.yld i H' x H''->H''=H'/\∀t,ps[i]?=some t->Rep K H' x t
 st:∀H' C',HRel K H' C'->S C'->J.stop ps.length H'
theorem it_m {K:DY}{o:Obj}{d:Addr}{n:Nat}{kvs:List (gQ×PV×PV)}(hn:n=kvs.length):ItC K (fun C=>C d=some (.dM o kvs)) (ItM o d n) (kvs.map (·.2.1)) where
 go:=fun i H' C' l h s=>by
  obtain⟨vs,ev,_⟩:=h d _ s;rw[AD] at l;exact⟨by omega,vs,ev⟩
 yl:=fun i H' C' x H'' h s y=>by
  obtain⟨rfl,vs,p,e1,e2,rfl⟩:=y;obtain⟨vs',ev,r⟩:=h d _ s;rw[e1] at ev;cases ev;refine⟨rfl,fun t et=>?_⟩;obtain⟨q,e3,h3⟩:=eH r e2;rw[AL,e3] at et;cases et;exact h3.2.1
 st:=fun H' C' h s=>by
  obtain⟨vs,ev,_⟩:=h d _ s;rw[AD];exact⟨by omega,vs,ev⟩
def iK (S:CH->Prop)(g:TCG)(u:TCS)(E:CEnds):List PV->CSt->CH->Prop
 |[],ρ,C=>S C/\E.nx ρ C
 |x::r,ρ,C=>S C/\g x ρ C fun ρ1 C1=>u (E.lp (iK S g u E r)) ρ1 C1
theorem nL {K:DY}{S:CH->Prop}{J:It}{ps:List PV}{H:Hp}{C:CH}{σ:St}{ρ:CSt}{g:TCG}{u:TCS}{E:CEnds}{D}(j:ItC K S J ps)(s:SRel K H σ ρ)(h:HRel K H C)(q:iK S g u E ps ρ C)(f:ERel K H C E D):
  ∃W:Nat->Nat->St->Hp->Prop,(∃m,W 0 m σ H)/\∀i m σ H,W i m σ H ->
   (J.stop i H/\D.nx σ H)\/(J.go i H/\∃N,(∀σ' H',N σ' H'->∃m',m' < m/\W (i+1) m' σ' H')/\∀x H',J.yld i H x H'->mN K g x σ H' fun σ2 H2=>gR K u { D with nx:=N,ct:=N,bk:=D.nx } σ2 H2):=by
 refine⟨fun i m σ' H'=>m=ps.length - i/\i<=ps.length/\∃ρ' C',SRel K H' σ' ρ'/\HRel K H' C'/\Fw H C H' C'/\iK S g u E (ps.drop i) ρ' C',⟨ps.length,rfl,A0 _,ρ,C,s,h,Fw.refl,q⟩,?_⟩;rintro i m σ1 H1 ⟨rfl,hi,ρ1,C1,s1,h1,f1,q1⟩
 by_cases hlt:i < ps.length
 .rw [A2 hlt] at q1
  refine .inr ⟨j.go i H1 C1 hlt h1 q1.1,fun σ' H'=>∃ρ' C',SRel K H' σ' ρ'/\HRel K H' C'/\Fw H C H' C'/\iK S g u E (ps.drop (i+1)) ρ' C',fun σ' H' z=>⟨ps.length - (i+1),by omega,rfl,hlt,z⟩,fun x H2 y=>?_⟩;obtain⟨rfl,y⟩:=j.yl i H1 C1 x H2 h1 q1.1 y
  exact⟨ps[i],ρ1,C1,_,y _ (AH hlt),s1,h1,q1.2,fun σ' H' ρ' C' q' s' h' f'=>⟨ρ',C',_,s',h',q',⟨fun σ3 H3 ρ3 C3 q3 s3 h3 f3=>⟨ρ3,C3,s3,h3,f1.trans (f'.trans f3),q3⟩,fun v H3 t C3 q3 r3 h3 f3=>f.rt v H3 t C3 q3 r3 h3 (f1.trans (f'.trans f3)),
   fun σ3 H3 ρ3 C3 q3 s3 h3 f3=>f.nx σ3 H3 ρ3 C3 q3 s3 h3 (f1.trans (f'.trans f3)),fun σ3 H3 ρ3 C3 q3 s3 h3 f3=>⟨ρ3,C3,s3,h3,f1.trans (f'.trans f3),q3⟩⟩⟩⟩
 .have e:i=ps.length:=by omega
  subst e;rw[DE] at q1;exact .inl ⟨j.st H1 C1 h1 q1.1,f.nx σ1 H1 ρ1 C1 q1.2 s1 h1 f1⟩
section
variable {X:Cx}{pos:Pos}
def pS (ce:TCE)(g:TCG)(u:TCS):TCS:=fun E ρ C=>ce ρ C fun t C1=>match t with
 |.ref d=>match C1 d with
  |some (.dM o kvs)=>iK (fun C=>C d=some (.dM o kvs)) g u E (kvs.map (·.2.1)) ρ C1
  |_=>False
 |_=>False
theorem tD {tg iter:Expr}{body:List Stmt}{ce:TCE}{g:TCG}{u:TCS}(hp:PassesOwn (model X.prog X.w) X.A X.env X.xe)(hc:X.calm=true)(hi:CE X iter ce)(hg:CG X tg g)(hb:CB X body u)
  (hs:∀x,foldedSetIterable iter X.env x=pure x:=by intro _; rfl):CS X (.For tg iter body [] pos) (pS ce g u):=⟨JS.weak ⟨zU hp hc (ji_m hi.h).h hg.h.h hb.h.h hs⟩ fun D σ H zz=>qX zz fun ρ C E s h q f=> by
 unfold pS at q
 exact⟨ρ,C,_,s,h,q,fun x H1 px C1 q1 rx h1 f1=>by
  split at q1
  .next d =>
   split at q1
   .next o kvs e =>
    cases rx;obtain⟨vs,ev,r⟩:=h1 d _ e;exact⟨d,o,vs,rfl,ev,nL (it_m (Paired.length r)) (s.imm (f1.imm h)) h1 q1 (f.fw f1)⟩
   .exact q1.elim
  .exact q1.elim⟩⟩
end
def xW (S:CH->Prop)(t:TCT)(c:TCE)(ρ:CSt)(Q:K1):List PV->List PV->CH->Prop
 |[],acc,C=>S C/\∀p,C p=none->Q (.ref p) (vQ C p (.lst acc))
 |x::r,acc,C=>S C/\t (some x::ρ) C fun b C1=>if b=true then c (some x::ρ) C1 fun y C2=>acc.length < sizeLine/\xW S t c ρ Q r (acc++[y]) C2 else xW S t c ρ Q r acc C1
theorem iP {K:DY}{S:CH->Prop}{J:It}{ps:List PV}{H H0:Hp}{C C0:CH}{σ:St}{ρ:CSt}{t:TCT}{c:TCE}{R:K1}{D:Addr}{Q:VK}(j:ItC K S J ps)(s:SRel K H σ ρ)(h:HRel K H C)(q:xW S t c ρ R ps [] C)
  (h0:HRel K H0 C0) (f0:Fw H0 C0 H C) (f:∀v H' p C',R p C'->Rep K H' v p->HRel K H' C'->Fw H0 C0 H' C'->Q v H') (hD:H D=none) :
  ∃W:Nat->Nat->List V->Hp->Prop,(∃m,W 0 m [] (upd H D (.lst [])))/\∀i m ys H,W i m ys H ->
   (J.stop i H/\Q (.ref D) H)\/(J.go i H/\∀x H',J.yld i H x H'->vZ K oY t (some x::σ) H' fun b H2 =>
    if b=true then vZ K (Rep K) c (some x::σ) H2 fun y H3=>H3 D=some (.lst ys)/\ys.length < sizeLine/\∃m',m' < m/\W (i+1) m' (ys++[y]) (upd H3 D (.lst (ys++[y])))
    else ∃m',m' < m/\W (i+1) m' ys H2):=by
 refine⟨fun i m ys H'=>m=ps.length - i/\i<=ps.length/\∃acc C',H' D=some (.lst ys)/\C' D=none/\Reps K H' ys acc/\HRel K H' C'/\Fw H C H' C'/\xW S t c ρ R (ps.drop i) acc C',
  ⟨ps.length,rfl,A0 _,[],C,uQ,h.fresh hD,.nil,h.new hD _,Fw.new hD _,q⟩,?_⟩
 rintro i m ys H1 ⟨rfl,hi,acc,C1,e1,n1,r1,h1,f1,q1⟩;have k1:=f1.imm h
 by_cases hlt:i < ps.length
 .rw [A2 hlt] at q1
  refine .inr ⟨j.go i H1 C1 hlt h1 q1.1,fun x H2 y=>?_⟩;obtain⟨rfl,y⟩:=j.yl i H1 C1 x H2 h1 q1.1 y;have rx:=y _ (AH hlt);refine⟨some ps[i]::ρ,C1,_,.cons rx (s.imm k1),h1,q1.2,fun b H3 b' C3 q3 e h3 f3=>?_⟩;cases e;obtain⟨n3,e3⟩:=f3 D (by rw[n1]; rfl) (by rw[e1]; exact fun z=>nomatch z);rw[e1] at e3;rw[n1] at n3;have k3:=f3.imm h1
  cases b with
  |true =>
   refine⟨some ps[i]::ρ,C3,_,.cons (rx.imm k3) ((s.imm k1).imm k3),h3,q3,fun v H4 p C4 q4 r4 h4 f4=>?_⟩;obtain⟨n4,e4⟩:=f4 D (by rw[n3]; rfl) (by rw[e3]; exact fun z=>nomatch z);rw[e3] at e4;rw[n3] at n4;have m4:Imm H4 (upd H4 D (.lst (ys++[v]))):=Imm.mut e4 rfl _;refine⟨e4,by rw[r1.len]; exact q4.1,ps.length - (i+1),by omega,rfl,hlt,acc++[p],C4,uQ,n4,?_,?_,?_,q4.2⟩
   .exact (((r1.imm k3).imm (f4.imm h3)).append (.cons r4 .nil)).imm m4
   .intro a o ca
    have ne:a≠D:=fun z=>by subst z; rw[n4] at ca; cases ca
    exact(h4 a o ca).imm m4 (kQ ne)
   .intro a ca na
    have ne:a≠D:=fun z=>na (z▸hD);obtain⟨x1,x2⟩:=(f1.trans (f3.trans f4)) a ca na;exact⟨x1,(kQ ne).trans x2⟩
  |false =>
   exact⟨ps.length - (i+1),by omega,rfl,hlt,acc,C3,e3,n3,r1.imm k3,h3,f1.trans f3,q3⟩
 .have e:i=ps.length:=by omega
  subst e;rw[DE] at q1;refine .inl ⟨j.st H1 C1 h1 q1.1,f (.ref D) H1 (.ref D) _ (q1.2 D n1) (.ref D) ?_ ?_⟩
  .intro a o ca
   by_cases z:a=D
   .subst z; rw[zQ] at ca; cases ca; exact⟨ys,e1,r1⟩
   .rw [oQ z] at ca; exact h1 a o ca
  .intro a ca na
   obtain⟨x1,x2⟩:=f0 a ca na;have na':H a≠none:=by rwa [x2]
   obtain⟨y1,y2⟩:=f1 a (by rwa [x1]) na';exact⟨(oQ (show a≠D from fun z=>na' (z▸hD))).trans (y1.trans x1),y2.trans x2⟩
section
variable {X:Cx}{pos:Pos}
def uL (ce:TCE)(t:TCT)(c:TCE):TCE:=fun ρ C Q=>ce ρ C fun x C1=>match x with
 |.ref d=>match C1 d with
  |some (.dM o kvs)=>xW (fun C=>C d=some (.dM o kvs)) t c ρ Q (kvs.map (·.2.1)) [] C1
  |_=>False
 |_=>False
theorem bN {ce:TCE}{t:TCT}{c:TCE}{σ:St}{H:Hp}{Q:VK}(h:vZ X.K (Rep X.K) (uL ce t c) σ H Q):tG (iMap (vZ X.K (Rep X.K) ce)) (vZ X.K oY t) (vZ X.K (Rep X.K) c) σ H Q:=qX h fun ρ C R s h q f=>⟨ρ,C,_,s,h,q,fun x H1 px C1 q1 rx h1 f1=>by
  split at q1
  .next d =>
   split at q1
   .next o kvs e =>
    cases rx;obtain⟨vs,ev,r⟩:=h1 d _ e;exact⟨d,o,vs,rfl,ev,fun D hD=>iP (it_m (Paired.length r)) (s.imm (f1.imm h)) h1 q1 h f1 f hD⟩
   .exact q1.elim
  .exact q1.elim⟩
end
end CL
namespace L2
open PySem PySem.W PyProof.Rows PySem.Spec
section
variable {X:Cx}
theorem zB (hc:X.calm=true):CallR X (.type "list") (fun xs H Q=>∃d o vs,xs=[.ref d]/\H d=some (.dM o vs)/\∀l,H l=none->Q (.ref l) (upd H l (.lst (vs.map (·.2.1))))):=by
 intro pins s σ H xs us Q I r h;obtain⟨d,o,vs,rfl,hd,q⟩:=h;obtain⟨u,rfl,ru⟩:=aJ r;cases ru;obtain⟨z,hS,h1,ys,rel,⟨es,ep,h2,h3,h4⟩,dd⟩:=lV I.hok hd;have hl:es.size=vs.length:=by rw[<- A1,h4,AD,<- Paired.length rel]
 refine kdl_call (kdl_raw (ep:=ep) hS) (I.ok.hd hc) ⟨o,h1,h2,h3⟩ (by rw[hl]; exact z) fun h' tk acc c' kp e G=>?_
 have rv:Vals (vs.map (·.2.1)) acc.toList:=by
  have ea:acc.toList=ys.map (·.2.1):=by
   apply Cu
   intro i;rw[AL]
   rcases Nat.lt_or_ge i acc.size with hi | hi
   .obtain ⟨e,e1,e2⟩:=G.2 i _ (AU hi)
    rw[<- Bg,h4,AL] at e1;obtain⟨y,y1,y2⟩:=BZ.mp e1;rw[Bg,AU hi,e2,y1,<- y2]
    rfl
   .have h2:ys.length<=i:=by rw[<- Paired.length rel,<- hl,<- G.1]; exact hi
    rw[Bg,Cb hi,Bz h2]
    rfl
  rw[ea];clear ea G q hl h4 hd z dd
  induction rel with
  |nil=>exact .nil
  |cons h _ ih=>exact .cons h.2.2.1 ih
 exact⟨.ref s.heap.objs.size,_,I.laid (t':=tk) kp (AG _) (show ObjOk X.prog X.w _ h' _ (.lst (vs.map (·.2.1))) from⟨by rw[AD]; exact z,acc.toList,c',rv,by rw[e]⟩),rfl,q _ (I.hok.fresh (AG _))⟩
end
def ItRv (K:DY)(a:Addr)(n:Nat):It :=
 ⟨fun i H=>i < n/\∃xs,SqL K H a xs/\xs.length=n,fun i H x H'=>H'=H/\∀xs,SqL K H a xs->xs[n - 1 - i]?=some x,fun i H=>i=n⟩
theorem turn_rv {P:Program}{w:World}{K:DY}{tg:Expr}(a it:Addr)(n:Nat):yC P w K tg (ItRv K a n) [it] it (fun i h=>h.IsRevIter it a ((n:Int) - 1 - i)) where
 mem:=by simp
 obj:=fun i h st b hb=>by
  have e:b=it:=by simpa using hb
  subst e;obtain⟨o,e,c,d⟩:=st;exact⟨o,e,fun v z=>by rw[d] at z; cases z⟩
 keep:=fun i h h' st k=>st.at fun o e=>k it (by simp) o e
 item:=by
  intro X hP hw hK hc i pins s σ H E I hf st hg;subst hP hw hK;obtain⟨hi,xs,hq,hn⟩:=hg;obtain⟨its,rv,p,hz⟩:=I.list hq;obtain⟨f0,f1,f2,f3,f4,f5⟩:=hf it (by simp);have hk:xs[n - 1 - i]?=some (xs[n - 1 - i]'(by omega)):=AH _;obtain⟨u,hu,ru⟩:=rv.get hk;have e0:(n:Int) - 1 - i=((n - 1 - i:Nat):Int):=by omega
  rw[e0] at st;refine wpAny_pyNext_rev_item st p.isList (by simpa using hu) fun h' st' sb=>?_;have e1:((n - 1 - i:Nat):Int) - 1=(n:Int) - 1 - ((i+1:Nat):Int):=by omega
  rw[e1] at st';have I1:Inv X pins σ H { s with heap:=h' }:=I.turned (t':=s.toks) (fun b o hb e=>(sb.2 b hb).trans e) f0 f1 f3 f4 f5;obtain⟨ob,e,c,dt⟩:=id st';exact⟨u,rfl,cP (s:={ s with heap:=h' }) e c dt (by decide) ⟨_,H,I1,ru,⟨rfl,fun ys hy=>by rw[I.list_inj hy hq]; exact hk⟩,st',fun b hb=>(hf b hb).1⟩⟩
 done:=by
  intro X hP hw hK hc i pins s σ H E I hf st hg;subst hP hw hK;obtain⟨f0,f1,f2,f3,f4,f5⟩:=hf it (by simp);have hg:i=n:=hg;have e0:(n:Int) - 1 - i = -1:=by omega
  rw[e0] at st;exact wpAny_pyNext_rev_end (I.ok.hd hc) st fun h' eb=>⟨rfl,I.turned (t':=s.toks) (fun b o hb e=>eb b o hb e) f0 f1 f3 f4 f5⟩
 self:=fun _ _ _ _ _ st h=>wpAny_pyIter_revIter st h
section
variable {X:Cx}{tg:Expr}{a:Expr}{p pos:Pos}{ta:TA}
def iRev (K:DY)(ta:TA):TI:=fun σ H R=>ta σ H fun vs H1=>∃l ys,vs=[.ref l]/\H1 l=some (.lst ys)/\R (ItRv K l ys.length) H1
theorem pi_rev (hg:Gl X "reversed")(hm:X.mg "reversed" = none)(ha:PA X [a] ta)(hs:starEach [a] X.env=[(false,eval a X.env)]:=by rfl):PI X tg (.Call (.Name "reversed" p) [a] [] pos) (iRev X.K ta):=by
 intro pins s σ H R I h;refine Call_ (mU I hg hm cB (Co (thn (ha pos pins s σ H _ I h) fun us s1 zz=>?_) hs rfl));obtain⟨vs,H1,I1,r1,l,ys,rfl,hl,q⟩:=zz;obtain⟨u,rfl,ru⟩:=aJ r1;cases ru;obtain⟨its,r',pl,hz⟩:=I1.list (SqL.of hl);refine call_reversed_list pl.isList ?_;have hn:its.toArray.size=ys.length:=by rw[AN,r'.length]
 rw[hn];have st:(s1.heap.push (revObj l ((ys.length:Int) - 1))).IsRevIter s1.heap.objs.size l ((ys.length:Int) - 1 - (0:Nat)):=⟨_,AK _ rfl,rfl,by simp[revObj]⟩;refine wpAny_pyIter_revIter st ⟨s1.heap.objs.size,[s1.heap.objs.size],_,_,H1,rfl,I1.kept (t':=s1.toks) fun b o e=>AC _ e,turn_rv l _ ys.length,st,fun b hb=>?_,q⟩;have e:b=s1.heap.objs.size:=by simpa using hb
 subst e;exact I1.fpOk (AG _) (I1.hok.fresh (AG _))
end
section
variable {X:Cx}{tg l:Expr}{tl:TE}
def iSq (K:DY)(tl:TE):TI:=fun σ H R=>tl σ H fun x H1=>∃a,x=.ref a/\(((∃xs,SqL K H1 a xs)/\R (Itl K a) H1)\/((∃xs,SqT K H1 a xs)/\R (Itt K a) H1))
theorem pi_sq (hl:PE X l tl):PI X tg l (iSq X.K tl):=by
 intro pins s σ H R I h;refine thn (hl pins s σ H _ I h) fun v s1 zz=>?_;obtain⟨x,H1,I1,r1,a,rfl,q⟩:=zz;cases r1
 have fp:∀b∈[s1.heap.objs.size],rL X pins H1 b:=fun b hb=>by
  have e:b=s1.heap.objs.size:=by simpa using hb
  subst e;exact I1.fpOk (AG _) (I1.hok.fresh (AG _))
 rcases q with ⟨⟨xs,hq⟩,q⟩ | ⟨⟨xs,hq⟩,q⟩
 .obtain ⟨its,rv,p,hz⟩:=I1.list hq
  exact Cs p.isList ⟨s1.heap.objs.size,[s1.heap.objs.size],_,_,H1,rfl,I1.kept (t':=s1.toks) fun b o e=>AC _ e,oB a _,⟨_,AK _ rfl,rfl,rfl⟩,fp,q⟩
 .obtain ⟨its,rv,p,hz⟩:=I1.tuple hq
  exact Cp p ⟨s1.heap.objs.size,[s1.heap.objs.size],_,_,H1,rfl,I1.kept (t':=s1.toks) fun b o e=>AC _ e,oG a _,⟨_,AK _ rfl,rfl,rfl⟩,fp,q⟩
end
def tDispM (trs:List (TE×TE)):TE:=fun σ H Q=>∀p ob,H p=none->mF trs σ (upd H p (.dM ob [])) fun ps H2=>H2 p=some (.dM ob [])/\∃k y v,ps=[(y,v)]/\MK H2 k y/\∀o',Q (.ref p) (upd H2 p (.dM o' [(k,y,v)]))
theorem aE {X:Cx}{pos:Pos}{keys:List (Option Expr)}{values:List Expr}{trs:List (TE×TE)}(hu:X.A.units < cLine)(h:PPs X pos keys values trs)(hall:keys.all (·.isSome)=true)(hl:keys.length=values.length)(h0:keys≠[])(h15:keys.length<=15):PE X (.Dict keys values pos) (tDispM trs):=by
 intro pins s σ H Q I q;have hn:=I.hok.fresh (AG s.heap.objs.size);have I1:=I.laid (a:=s.heap.objs.size) (o:=.dM { cls:=.type "dict",data:=.dict #[] } []) (h':=s.heap.push { cls:=.type "dict",data:=.dict #[] }) (t':=s.toks) (fun _ _ q=>AC _ q) (AG _) (oP s.heap I.big);refine wpAny_Dict_any hall hl h0 h15 (thn (h pins _ σ _ _ I1 (q _ _ hn)) ?_);rintro ws s2 ⟨ps,H2,I2,rel,e,k,y,v,rfl,hk,q2⟩
 cases rel with
 |@cons _ w2 _ ws r rv =>
  cases rv;obtain⟨u,u2⟩:=w2;obtain⟨r1,r2⟩:=r;obtain⟨z,hS,h1,xs,rel,_,dd⟩:=lV I2.hok e;have hx:xs=[]:=by cases rel; rfl
  subst hx
  (unfold storeAll; rw[List.forIn_cons])
  refine AA (AA (lI (knd:=qZ X.prog X.w) hu (uM I2.hok hk r1) dd (A0 _) (fun h' dd' hs=>AB ?_)));dsimp only;rw[List.forIn_nil];obtain⟨o',I3⟩:=fU (t':=s2.toks+(qZ X.prog X.w).draws k) (l:=[(k,y,v)]) I2 e (zS0 1 rfl) hS dd' hs (.cons ⟨rfl,hk,r1,r2⟩ .nil);exact AB ⟨.ref s.heap.objs.size,_,I3,rfl,q2 o'⟩
end L2
namespace CL
open PySem PySem.Spec L2 PySem.W
open PyProof.Rows hiding St
@[irreducible] def mS:GC:=fun ts C Q=>match ts with
 |[.ref a]=>match C a with
  |some (.dM _ kvs)=>∀p,C p=none->Q (.ref p) (vQ C p (.lst (kvs.map (·.2.1))))
  |_=>False
 |_=>False
theorem fm_keys {K:DY}{H:Hp}{vs:List (gQ×V×V)}{kvs:List (gQ×PV×PV)}(r:FM K H vs kvs):Reps K H (vs.map (·.2.1)) (kvs.map (·.2.1)):=by
 induction r with
 |nil=>exact .nil
 |cons h _ ih=>exact .cons h.2.1 ih
theorem xH {K:DY}:Cbi K (fun xs H Q=>∃d o vs,xs=[.ref d]/\H d=some (.dM o vs)/\∀l,H l=none->Q (.ref l) (upd H l (.lst (vs.map (·.2.1))))) mS:=fun xs ps H C Q R rs h q f=>by
 delta mS at q
 split at q
 .obtain ⟨v,rfl,r⟩:=xX rs
  split at q
  .next ob kvs e =>
   obtain⟨vs,ev,rv⟩:=h _ _ e;cases r;exact⟨_,_,_,rfl,ev,fun l hl=>f _ _ _ _ (q l (h.fresh hl)) (.ref l) (h.lay hl ⟨_,uQ,(fm_keys rv).imm (Imm.new hl _)⟩) (Fw.lay hl _ _)⟩
  .exact q.elim
 .exact q.elim
theorem oA {C:CH}{a:Addr}{ob:Obj}{kvs:List (gQ×PV×PV)}{Q:K1}(m:C a=some (.dM ob kvs))(q:∀p,C p=none->Q (.ref p) (vQ C p (.lst (kvs.map (·.2.1))))):mS [.ref a] C Q:=by
 delta mS
 dsimp only;rw[m];exact q
theorem it_rv {K:DY}{a:Addr}{n:Nat}{xs:List PV}(hn:n=xs.length):ItC K (fun C=>C a=some (.lst xs)) (ItRv K a n) xs.reverse where
 go:=fun i H' C' l h s=>by
  obtain⟨vs,ev,r⟩:=h a _ s;rw[BI] at l;exact⟨by omega,vs,SqL.of ev,by rw[r.len,hn]⟩
 yl:=fun i H' C' x H'' h s y=>by
  obtain⟨vs,ev,r⟩:=h a _ s;refine⟨y.1,fun t et=>?_⟩;have e1:=y.2 vs (SqL.of ev)
  have hi:i < xs.length:=by
   have:=(AI.1 et).1
   rwa [BI] at this
  rw[List.getElem?_reverse hi] at et;obtain⟨v,e2,rv⟩:=r.get et;rw[hn,e2] at e1;cases e1;exact rv
 st:=fun H' C' h s=>by
  rw[BI];exact hn.symm
theorem it_l {K:DY}{a:Addr}{xs:List PV}:ItC K (fun C=>C a=some (.lst xs)) (Itl K a) xs where
 go:=fun i H' C' l h s=>by
  obtain⟨vs,ev,r⟩:=h a _ s;exact⟨vs,vs[i]'(by rwa [r.len]),SqL.of ev,AH _⟩
 yl:=fun i H' C' x H'' h s y=>by
  obtain⟨vs,ev,r⟩:=h a _ s;refine⟨y.1,fun t et=>?_⟩;have e1:=y.2 vs (SqL.of ev);obtain⟨v,e2,rv⟩:=r.get et;rw[e2] at e1;cases e1;exact rv
 st:=fun H' C' h s=>by
  obtain⟨vs,ev,r⟩:=h a _ s;exact⟨vs,SqL.of ev,by rw[r.len]; exact AG _⟩
section
variable {X:Cx}{pos:Pos}{a e:Expr}
def cForV (ce:TCE)(g:TCG)(u:TCS):TCS:=fun E ρ C=>ce ρ C fun t C1=>match t with
 |.ref d=>match C1 d with
  |some (.lst xs)=>iK (fun C=>C d=some (.lst xs)) g u E xs.reverse ρ C1
  |_=>False
 |_=>False
theorem cs_forV {tg:Expr}{body:List Stmt}{ce:TCE}{g:TCG}{u:TCS}{p pos2:Pos}(hp:PassesOwn (model X.prog X.w) X.A X.env X.xe)(hc:X.calm=true)(hgl:Gl X "reversed")(hm:X.mg "reversed" = none)(he:CE X a ce)(hg:CG X tg g)(hb:CB X body u)
  (hst:nQ a=true:=by rfl) (hs:∀x,foldedSetIterable (.Call (.Name "reversed" p) [a] [] pos2) X.env x=pure x:=by intro _; rfl):CS X (.For tg (.Call (.Name "reversed" p) [a] [] pos2) body [] pos) (cForV ce g u) :=
 ⟨JS.weak ⟨zU hp hc (pi_rev hgl hm (yR he.h.h sF (lX hst)) (lX hst)) hg.h.h hb.h.h hs⟩ fun D σ H zz=>qX zz fun ρ C E s h q f=> by
 unfold cForV at q
 exact⟨ρ,C,_,s,h,q,fun x H1 px C1 q1 rx h1 f1=>by
  split at q1
  .next d =>
   split at q1
   .next xs e =>
    cases rx;obtain⟨vs,ev,r⟩:=h1 d _ e;exact⟨d,vs,rfl,ev,nL (it_rv r.len) (s.imm (f1.imm h)) h1 q1 (f.fw f1)⟩
   .exact q1.elim
  .exact q1.elim⟩⟩
def dY (ce:TCE)(t:TCT)(c:TCE):TCE:=fun ρ C Q=>ce ρ C fun x C1=>match x with
 |.tup xs=>tZ t c ρ Q xs [] C1
 |.ref d=>match C1 d with
  |some (.lst xs)=>xW (fun C=>C d=some (.lst xs)) t c ρ Q xs [] C1
  |_=>False
 |_=>False
theorem gN {ce:TCE}{t:TCT}{c:TCE}{σ:St}{H:Hp}{Q:VK}(h:vZ X.K (Rep X.K) (dY ce t c) σ H Q):tG (iSq X.K (vZ X.K (Rep X.K) ce)) (vZ X.K oY t) (vZ X.K (Rep X.K) c) σ H Q:=qX h fun ρ C R s h q f=>⟨ρ,C,_,s,h,q,fun x H1 px C1 q1 rx h1 f1=>by
  split at q1
  .cases rx with
   |tup e r=>exact⟨_,rfl,.inr ⟨⟨_,SqT.of e⟩,fun D hD=>iR (lN (SqT.of e) r) (s.imm (f1.imm h)) h1 q1 h f1 f hD⟩⟩
  .next d =>
   split at q1
   .next xs e =>
    cases rx;obtain⟨vs,ev,r⟩:=h1 d _ e;exact⟨d,rfl,.inl ⟨⟨vs,SqL.of ev⟩,fun D hD=>iP it_l (s.imm (f1.imm h)) h1 q1 h f1 f hD⟩⟩
   .exact q1.elim
  .exact q1.elim⟩
end
section
variable {X:Cx}{pos:Pos}{keys:List (Option Expr)}{values:List Expr}{cs:List (TCE×TCE)}
@[irreducible] def eW (p:Addr)(ob:Obj):List (PV×PV)->CH->K1->Prop:=fun ts C Q=>C p=some (.dM ob [])/\match ts with
 |[(x,y)]=>match aZ x with
  |some k=>∀o',Q (.ref p) (vQ C p (.dM o' [(k,x,y)]))
  |none=>False
 |_=>False
def cDispM (cs:List (TCE×TCE)):TCE:=fun ρ C Q=>∀p ob,C p=none->vC cs ρ (vQ C p (.dM ob [])) fun ts C2=>eW p ob ts C2 Q
theorem jH (hu:X.A.units < cLine)(h:CPs X pos keys values cs)(hall:keys.all (·.isSome)=true:=by rfl)(hl:keys.length=values.length:=by rfl)(h0:keys≠[]:=by exact fun z=>nomatch z)(h15:keys.length<=15:=by decide):CE X (.Dict keys values pos) (cDispM cs) :=
 ⟨JE.weak ⟨aE hu h.h hall hl h0 h15⟩ fun σ H Q zz=>qX zz fun ρ C R s hh q f=> fun p ob hp=>by
  refine uN (C:=vQ C p (.dM ob [])) (s.imm (Imm.new hp _)) (hh.lay hp ⟨[],uQ,.nil⟩) (q p ob (hh.fresh hp)) fun vs H2 ts C2 q2 r2 h2 f2=>?_;unfold eW at q2;obtain⟨e1,q2⟩:=q2
  split at q2
  .next x y =>
   split at q2
   .next k e2 =>
    cases r2 with
    |@cons p1 _ _ _ r1 r2 =>
     cases r2;obtain⟨v1,v2⟩:=p1;obtain⟨us,eu,ru⟩:=h2 p _ e1;have z:us=[]:=by cases ru; rfl
     subst z;refine⟨eu,k,v1,v2,rfl,yV r1.1 e2,fun o'=>?_⟩;have m:Imm H2 (upd H2 p (.dM o' [(k,v1,v2)])):=Imm.mut eu rfl _;exact f _ _ _ _ (q2 o') (.ref p) (h2.put eu rfl ⟨_,uQ,.cons ⟨rfl,r1.1.imm m,r1.2.imm m⟩ .nil⟩) ((Fw.lay hp _ _).trans (f2.trans (Fw.put e1 _ _)))
   .exact q2.elim
  .exact q2.elim⟩
theorem jM {p:Addr}{ob:Obj}{x y:PV}{k:gQ}{C:CH}{Q:K1}(m:C p=some (.dM ob []))(hk:aZ x=some k)(q:∀o',Q (.ref p) (vQ C p (.dM o' [(k,x,y)]))):eW p ob [(x,y)] C Q:=by
 delta eW
 refine⟨m,?_⟩;dsimp only;rw[hk];exact q
end
end CL
namespace PySem.ZL
open PySem
section
variable {prog:Program}{w:World}{A:Around}{E:Value->Shared->Prop}{s:Shared}
structure ZIt (h:Heap)(z TI i1 i2 l1 l2:Addr)(xs ys:Array Value)(i:Nat):Prop where
 it:IsPair h TI (.ref i1) (.ref i2)
 a:h.IsListIter i1 l1 i
 b:h.IsListIter i2 l2 i
 x:h.IsList l1 xs
 y:h.IsList l2 ys
theorem pZ {h h':Heap}   (x:h.IsList t xs)(k:∀o,h.get? t=some o->h'.get? t=some o):h'.IsList t xs:=let ⟨o,e,r⟩:=x; ⟨o,k o e,r⟩
theorem rX {h h':Heap}   (x:h.IsListIter i t n)(k:∀o,h.get? i=some o->h'.get? i=some o):h'.IsListIter i t n:=let ⟨o,e,r⟩:=x; ⟨o,k o e,r⟩
theorem nG     {Q:Value->Shared->Prop}(D:ZipApart z TI TO i1 i2 l1 l2)
  (hz:IsZip s.heap z TI TO .none) (hTI:IsPair s.heap TI (.ref i1) (.ref i2)) (hTO:IsPair s.heap TO a b)
  (h1:s.heap.IsListIter i1 l1 k1) (h2:s.heap.IsListIter i2 l2 k2) (hl1:s.heap.IsList l1 xs) (hl2:s.heap.IsList l2 ys) (hx:xs[k1]?=some x) (hy:ys[k2]?=some y)
  (hQ:∀h',xY h' z TI TO s.heap.objs.size false->h'.IsListIter i1 l1 (k1+1)->h'.IsListIter i2 l2 (k2+1)->IsPair h' s.heap.objs.size x y->h'.objs.size=s.heap.objs.size+1 ->
   (∀c o,c≠z->c≠TO->c≠i1->c≠i2->s.heap.get? c=some o->h'.get? c=some o)->Q (.ref s.heap.objs.size) { s with heap:=h' }) :
  wpAny (model prog w) A (Builtin.«zip.__next__» ⟨[.ref z],[]⟩) (fun fin s'=>∃v,fin=.done (.ret v)/\Q v s') E s:=by
 show wpAny _ _ (field (.ref z) 2 >>= _) _ _ _;refine AA (Ab hz rfl rfl (AA (Ab hz rfl rfl (AA (Ag hTI rfl (AA ?_))))))
 delta Builtin.SmallTypes.ownedTupleIsFree
 refine AA (Ab hz rfl rfl (AB ?_));refine AA (A7 (AA (Ab hz rfl rfl (AA (A3 hz (by simp) fun h₁ hz₁ hs₁=>?_)))))
 replace hz₁:IsZip h₁ z TI TO .ellipsis:=hz₁
 apply AA
 refine AA (AA (Cf (AA (CV (h1.extBut hs₁.extBut D.i1z) (hl1.extBut hs₁.extBut D.l1z) hx fun h₂ h1₂ hs₂=>AB ?_))));have hTO₂:=hs₂.extBut _ _ D.TOi1 (hs₁.extBut _ _ D.TOz hTO);refine AA (Ag hTO₂ rfl (AA (Ci hTO₂ fun h₃ hTO₃ hs₃=>?_)))
 replace hTO₃:IsPair h₃ TO x b:=hTO₃
 refine AA (B5 (AB (AA (AA (Cf (AA (CV (((h2.extBut hs₁.extBut D.i2z).extBut hs₂.extBut D.i12.symm).extBut hs₃.extBut D.TOi2.symm)
  (((hl2.extBut hs₁.extBut D.l2z).extBut hs₂.extBut D.l2i1).extBut hs₃.extBut D.l2TO) hy fun h₄ h2₄ hs₄=>AB ?_)))))))
 have hTO₄:=hs₄.extBut _ _ D.TOi2 hTO₃;refine AA (Ag hTO₄ rfl (AA (Ci hTO₄ fun h₅ hTO₅ hs₅=>?_)))
 replace hTO₅:IsPair h₅ TO x y:=hTO₅
 refine AA (B5 (AB (AB (AA (Ag hTO₅ rfl (AA (DT ?_)))))));have hsz:h₅.objs.size=s.heap.objs.size:=by rw[hs₅.1,hs₄.1,hs₃.1,hs₂.1,hs₁.1]
 have hz₅:=hs₅.extBut _ _ D.TOz.symm (hs₄.extBut _ _ D.i2z.symm (hs₃.extBut _ _ D.TOz.symm (hs₂.extBut _ _ D.i1z.symm hz₁)))
 have hk₅:∀c o,c≠z->c≠TO->c≠i1->c≠i2->s.heap.get? c=some o->h₅.get? c=some o:=fun c o c1 c2 c3 c4 e =>
  hs₅.extBut _ _ c2 (hs₄.extBut _ _ c4 (hs₃.extBut _ _ c2 (hs₂.extBut _ _ c3 (hs₁.extBut _ _ c1 e))))
 have h1₅:=((h1₂.extBut hs₃.extBut D.TOi1.symm).extBut hs₄.extBut D.i12).extBut hs₅.extBut D.TOi1.symm;have hzlt:=AF hz₅
 apply AA
 have hz₆:IsZip (h₅.push { cls:=.type "tuple",data:=.seq #[x,y] }) z TI TO .ellipsis:=AC _ hz₅;refine AA (A3 hz₆ (by simp) fun h₇ hz₇ hs₇=>?_)
 replace hz₇:IsZip h₇ z TI TO (rawInt h₅.objs.size):=hz₇
 refine A3 hz₇ (by simp) fun h₈ hz₈ hs₈=>?_
 replace hz₈:xY h₈ z TI TO h₅.objs.size false:=hz₈
 have up:∀c o,c≠z->h₅.get? c=some o->h₈.get? c=some o:=fun c o c1 e=>hs₈.extBut _ _ c1 (hs₇.extBut _ _ c1 (AC _ e));have hT₈:=hs₈.extBut _ _ (Ay hzlt) (hs₇.extBut _ _ (Ay hzlt) (AK _ rfl));have hz8:h₈.objs.size=h₅.objs.size+1:=by rw[hs₈.1,hs₇.1,B8]
 rw[hsz] at hz₈ hT₈ hz8;refine AB ⟨_,rfl,?_⟩;rw[hsz];exact hQ h₈ hz₈ (rX h1₅ fun o e=>up _ o D.i1z e) (rX (h2₄.extBut hs₅.extBut D.TOi2.symm) fun o e=>up _ o D.i2z e) hT₈ hz8 fun c o c1 c2 c3 c4 e=>up c o c1 (hk₅ c o c1 c2 c3 c4 e)
theorem rG       {Q:Value->Shared->Prop}(D:ZipApart z TI TO i1 i2 l1 l2)
  (hz:xY s.heap z TI TO T f) (hT:s.heap.get? T=some oT) (hTz:T≠z) (hTI:IsPair s.heap TI (.ref i1) (.ref i2))
  (h1:s.heap.IsListIter i1 l1 k1) (h2:s.heap.IsListIter i2 l2 k2) (hl1:s.heap.IsList l1 xs) (hl2:s.heap.IsList l2 ys) (hx:xs[k1]?=some x) (hy:ys[k2]?=some y)
  (hQ:∀h',xY h' z TI TO T true->h'.IsListIter i1 l1 (k1+1)->h'.IsListIter i2 l2 (k2+1)->IsPair h' s.heap.objs.size x y->h'.objs.size=s.heap.objs.size+1 ->
   (∀c o,c≠z->c≠i1->c≠i2->s.heap.get? c=some o->h'.get? c=some o)->Q (.ref s.heap.objs.size) { s with heap:=h' }) :
  wpAny (model prog w) A (Builtin.«zip.__next__» ⟨[.ref z],[]⟩) (fun fin s'=>∃v,fin=.done (.ret v)/\Q v s') E s:=by
 show wpAny _ _ (field (.ref z) 2 >>= _) _ _ _;refine AA (Ab hz rfl rfl (AA (Ab hz rfl rfl (AA (Ag hTI rfl (AA (Bd (iY hz hT) ?_ fun _ _ h=>h)))))));rintro b s₁ ⟨h₁,rfl,rfl,hz₁,hs₁⟩
 simp only[ if_false]
 rw[<- BM];refine AA (AA (AA (Af (AA (CV (h1.extBut hs₁.extBut D.i1z) (hl1.extBut hs₁.extBut D.l1z) hx fun h₂ h1₂ hs₂=>AB (AB (AA (AA (Af (AA (CV (s:={ s with heap:=h₂ }) ((h2.extBut hs₁.extBut D.i2z).extBut hs₂.extBut D.i12.symm) ((hl2.extBut hs₁.extBut D.l2z).extBut hs₂.extBut D.l2i1) hy fun h₃ h2₃ hs₃=>AB (AB (AB (AA (DT (hsz:=zS0 2 rfl) ?_)))))))))))))))
 have hsz:h₃.objs.size=s.heap.objs.size:=by rw[hs₃.1,hs₂.1,hs₁.1]
 refine AB ⟨_,rfl,?_⟩;have hT₃:IsPair (h₃.push { cls:=.type "tuple",data:=.seq #[x,y] }) h₃.objs.size x y:=AK _ rfl;rw[hsz] at hT₃ ⊢
 exact hQ _ (AC _ (hs₃.extBut _ _ D.i2z.symm (hs₂.extBut _ _ D.i1z.symm hz₁))) (rX (h1₂.extBut hs₃.extBut D.i12) fun o e=>AC _ e) (rX h2₃ fun o e=>AC _ e) hT₃ (by simp_all)
  fun c o c1 c2 c3 e=>AC _ (hs₃.extBut _ _ c3 (hs₂.extBut _ _ c2 (hs₁.extBut _ _ c1 e)))
theorem mH     (hh:A.handled=none)(D:ZipApart z TI TO i1 i2 l1 l2)
  (hz:IsZip s.heap z TI TO .none\/∃T f oT,xY s.heap z TI TO T f/\s.heap.get? T=some oT) (hTI:IsPair s.heap TI (.ref i1) (.ref i2))
  (h1:s.heap.IsListIter i1 l1 k1) (hl1:s.heap.IsList l1 xs) (hx:xs[k1]?=none)
  (hE:∀h' e,(∀c o,c≠z->c≠i1->s.heap.get? c=some o->h'.get? c=some o)->(∃o,h'.get? e=some o/\o.cls=.type "StopIteration")->E (.ref e) { s with heap:=h' }) :
  wpAny (model prog w) A (Builtin.«zip.__next__» ⟨[.ref z],[]⟩) Q E s:=by
 rcases hz with hz | ⟨T,f,oT,hz,hT⟩
 .show wpAny _ _ (field (.ref z) 2 >>= _) _ _ _
  refine AA (Ab hz rfl rfl (AA (Ab hz rfl rfl (AA (Ag hTI rfl (AA (AA (Ab hz rfl rfl (AB (AA (A7 (AA (Ab hz rfl rfl (AA (A3 hz (by simp) fun h₁ hz₁ hs₁=>?_)))))))))))))))
  replace hz₁:IsZip h₁ z TI TO .ellipsis:=hz₁
  apply AA
  refine AA (AA (Cf (AA (wpAny_nextOf_list_end hh (h1.extBut hs₁.extBut D.i1z) (hl1.extBut hs₁.extBut D.l1z) hx fun h₂ e hs₂ he=>hZ he fun oe hoe hce=>?_))));have hz₂:=hs₂ _ _ D.i1z.symm hz₁;have hez:e≠z:=fun x=>by subst x; rw[hz₂] at hoe; cases hoe; simp at hce
  exact A3 hz₂ (by simp) fun h₃ _ hs₃=>hE h₃ e (fun c o c1 c3 x=>hs₃.extBut _ _ c1 (hs₂ _ _ c3 (hs₁.extBut _ _ c1 x))) ⟨oe,hs₃.extBut _ _ hez hoe,hce⟩
 .show wpAny _ _ (field (.ref z) 2 >>= _) _ _ _
  refine AA (Ab hz rfl rfl (AA (Ab hz rfl rfl (AA (Ag hTI rfl (AA (Bd (iY hz hT) ?_ fun _ _ h=>h)))))));rintro b s₁ ⟨h₁,rfl,rfl,hz₁,hs₁⟩;exact AA (AA (AA (Af (AA (wpAny_nextOf_list_end hh (h1.extBut hs₁.extBut D.i1z) (hl1.extBut hs₁.extBut D.l1z) hx fun h₂ e hs₂ he=>hE h₂ e (fun c o c1 c3 x=>hs₂ _ _ c3 (hs₁.extBut _ _ c1 x)) he)))))
def ZSt (h:Heap)(z TI TO i1 i2 l1 l2 S:Addr)(xs ys:Array Value)(i:Nat):Prop :=
 ((i=0/\IsZip h z TI TO .none/\∃a b,IsPair h TO a b)\/∃T f oT,xY h z TI TO T f/\h.get? T=some oT/\T≠z/\T≠i1/\T≠i2/\T≠S)/\ZIt h z TI i1 i2 l1 l2 xs ys i
theorem ZIt.at     (x:ZIt h z TI i1 i2 l1 l2 xs ys i)(k:∀b o,(b=TI\/b=i1\/b=i2\/b=l1\/b=l2)->h.get? b=some o->h'.get? b=some o):ZIt h' z TI i1 i2 l1 l2 xs ys i :=
 ⟨k _ _ (.inl rfl) x.it,rX x.a fun o e=>k _ o (.inr (.inl rfl)) e,rX x.b fun o e=>k _ o (.inr (.inr (.inl rfl))) e,pZ x.x fun o e=>k _ o (.inr (.inr (.inr (.inl rfl)))) e,pZ x.y fun o e=>k _ o (.inr (.inr (.inr (.inr rfl)))) e⟩
theorem xF      (D:ZipApart z TI TO i1 i2 l1 l2)(hl:l1≠TI/\l2≠TI)
  (hst:ZSt s.heap z TI TO i1 i2 l1 l2 S xs ys i) (hS:S < s.heap.objs.size) (hx:xs[i]?=some x) (hy:ys[i]?=some y)
  (hQ:∀h',ZSt h' z TI TO i1 i2 l1 l2 S xs ys (i+1)->IsPair h' s.heap.objs.size x y->h'.objs.size=s.heap.objs.size+1 ->
   (∀c o,c≠z->c≠TO->c≠i1->c≠i2->s.heap.get? c=some o->h'.get? c=some o)->Q (some (.ref s.heap.objs.size)) { s with heap:=h' }) :
  wpAny (model prog w) A (pyNext (.ref z)) Q E s:=by
 obtain⟨hz,zi⟩:=hst;have lt:∀{c o},s.heap.get? c=some o->s.heap.objs.size≠c:=fun e=>Ay (AF e);have n1:=let ⟨o,e,_⟩:=zi.a; lt e
 have n2:=let ⟨o,e,_⟩:=zi.b; lt e
 have hT:s.TypeIs (.ref z) "zip":=by
  rcases hz with ⟨_,hz,_⟩ | ⟨_,_,_,hz,_⟩
  .exact ⟨_,hz,rfl⟩
  .exact ⟨_,hz,rfl⟩
 refine AA (Cg (Ar hT Bj (Ah Bj hT DG ?_ (Cy _))))
 rcases hz with ⟨e0,hz,a,b,hTO⟩ | ⟨T,f,oT,hz,hoT,nz,ni1,ni2,nS⟩
 .refine nG D hz zi.it hTO zi.a zi.b zi.x zi.y hx hy fun h' a1 a2 a3 a4 a5 a6=>AB (hQ h' ⟨.inr ⟨_,false,_,a1,a4,lt hz,n1,n2,Ay hS⟩,⟨a6 _ _ D.TIz D.TITO D.TIi1 D.TIi2 zi.it,a2,a3,pZ zi.x fun o e=>a6 _ o D.l1z D.l1TO D.l1i1 D.l1i2 e,pZ zi.y fun o e=>a6 _ o D.l2z D.l2TO D.l2i1 D.l2i2 e⟩⟩ a4 a5 a6)
 .refine rG D hz hoT nz zi.it zi.a zi.b zi.x zi.y hx hy fun h' a1 a2 a3 a4 a5 a6=>AB (hQ h' ⟨.inr ⟨T,true,oT,a1,a6 _ _ nz ni1 ni2 hoT,nz,ni1,ni2,nS⟩,⟨a6 _ _ D.TIz D.TIi1 D.TIi2 zi.it,a2,a3,pZ zi.x fun o e=>a6 _ o D.l1z D.l1i1 D.l1i2 e,pZ zi.y fun o e=>a6 _ o D.l2z D.l2i1 D.l2i2 e⟩⟩ a4 a5 fun c o c1 _ c3 c4 e=>a6 c o c1 c3 c4 e)
theorem kF     (hh:A.handled=none)(D:ZipApart z TI TO i1 i2 l1 l2)
  (hst:ZSt s.heap z TI TO i1 i2 l1 l2 S xs ys i) (hx:xs[i]?=none)
  (hQ:∀h',(∀c o,c≠z->c≠i1->s.heap.get? c=some o->h'.get? c=some o)->Q none { s with heap:=h' }) :
  wpAny (model prog w) A (pyNext (.ref z)) Q E s:=by
 obtain⟨hz,zi⟩:=hst
 have hT:s.TypeIs (.ref z) "zip":=by
  rcases hz with ⟨_,hz,_⟩ | ⟨_,_,_,hz,_⟩
  .exact ⟨_,hz,rfl⟩
  .exact ⟨_,hz,rfl⟩
 refine AA (Cg (Ar hT Bj
  (Ah Bj hT DG (mH hh D (by grind) zi.it zi.a zi.x hx fun h' e hk he=>?_) (Cy _))))
 exact hZ he fun o ho hc=>AA (BL ⟨o,ho,hc⟩ isSubtype_stop (AB (hQ _ hk)))
end
structure ZG (xs ys:Array Value)(lo:Addr)(h:Heap)(as:List Addr):Prop where
 rise:as.Pairwise (· < ·)
 above:∀a∈as,lo < a
 pairs:∀(j:Nat) (a:Addr),as[j]?=some a->∃x y,xs[j]?=some x/\ys[j]?=some y/\IsPair h a x y
section
variable {prog:Program}{w:World}{A:Around}{s:Shared}{R:Result->Shared->Prop}{xs ys:Array Value}
theorem jF  (hh:A.handled=none)(D:ZipApart z TI TO i1 i2 l1 l2)(hl:l1≠TI/\l2≠TI)(hSn:S≠z/\S≠TI/\S≠TO/\S≠i1/\S≠i2/\S≠l1/\S≠l2)  (hlo:S<=lo/\z<=lo/\TO<=lo/\i1<=lo/\i2<=lo)(he:xs.size=ys.size)(hn:xs.size<=sizeLine) res {h₁:Heap}
  (hR:∀h' tk acc c as,(∀b o,b≠S->b≠z->b≠TO->b≠i1->b≠i2->h₁.get? b=some o->h'.get? b=some o)->h'.get? S=some { cls:=.type "list",dict:=none,data:=.seq acc c,slots:=#[] }->as.length=xs.size->ZG xs ys lo h' as ->
   acc.toList=as.map Value.ref->R (.ok (.ret res)) { s with heap:=h',toks:=tk }) :
  ∀k i h tk c acc as,xs.size - i=k->i<=xs.size->ZSt h z TI TO i1 i2 l1 l2 S xs ys i->(∀b o,b≠S->b≠z->b≠TO->b≠i1->b≠i2->h₁.get? b=some o->h.get? b=some o) ->
   h.get? S=some { cls:=.type "list",dict:=none,data:=.seq acc c,slots:=#[] }->acc.toList=as.map Value.ref->as.length=i->ZG xs ys lo h as->lo < h.objs.size ->
   codeAny (model prog w) A (.builtin "list.extend.loop" ⟨[.ref S,.ref z,res],[]⟩) R { s with heap:=h,toks:=tk }:=by
 have hne:=hSn.1;intro k
 induction k with
 |zero =>
  intro i h tk c acc as hk hi hst hkeep hS hacc hal hG hlt
  apply DN CD
  refine AA (kF hh D hst (Cb (by lia)) fun h' he'=>?_);refine AB (hR h' tk acc c as (fun b o b1 b2 b3 b4 b5 e=>he' b o b2 b4 (hkeep b o b1 b2 b3 b4 b5 e)) (he' S _ hne hSn.2.2.2.1 hS) (by lia) ⟨hG.rise,hG.above,fun j a hj=>?_⟩ hacc);obtain⟨x,y,e1,e2,e3⟩:=(hG.pairs j a hj);have ab:=hG.above a (AE hj);exact⟨x,y,e1,e2,he' a _ (Ay (Aq hlo.2.1 ab)) (Ay (Aq hlo.2.2.2.1 ab)) e3⟩
 |succ k ih =>
  intro i h tk c acc as hk hi hst hkeep hS hacc hal hG hlt;have hix:i < xs.size:=by lia
  have hiy:i < ys.size:=by lia
  have hsz:acc.size=i:=by rw[<- A1,hacc,AD,hal]
  have hSl:=AF hS
  apply DN CD
  refine AA (xF D hl hst hSl (AU hix) (AU hiy) fun h' hst' ht hz hkp=>?_);dsimp only at ht hz hkp ⊢;have hS':=hkp S _ hne hSn.2.2.1 hSn.2.2.2.1 hSn.2.2.2.2.1 hS;have up:∀b o,b≠S->h'.get? b=some o->(h'.update S (Obj.mapSeq (·.push (Value.ref h.objs.size)))).get? b=some o:=fun b o hb e=>(BH _ _ (Ne.symm hb)).trans e
  apply AA
  have hst2:ZSt (h'.update S (Obj.mapSeq (·.push (Value.ref h.objs.size)))) z TI TO i1 i2 l1 l2 S xs ys (i+1):=by
   refine⟨?_,hst'.2.at fun b o hb e=>up b o (fun z=>?_) e⟩
   .rcases hst'.1 with ⟨e0,_⟩ | ⟨T,f,oT,g1,g2,g3,g4,g5,g6⟩
    .cases e0
    .exact .inr ⟨T,f,oT,up _ _ hne.symm g1,up _ _ g6 g2,g3,g4,g5,g6⟩
   .rcases hb with rfl | rfl | rfl | rfl | rfl
    .exact hSn.2.1 z.symm
    .exact hSn.2.2.2.1 z.symm
    .exact hSn.2.2.2.2.1 z.symm
    .exact hSn.2.2.2.2.2.1 z.symm
    .exact hSn.2.2.2.2.2.2 z.symm
  refine Bh hS' rfl (AB ⟨plainId_quiet PySem.F.plain_extend_loop _,ih (i+1) _ tk _ (acc.push (Value.ref h.objs.size)) (as++[h.objs.size]) (by lia) hix hst2
   (fun b o b1 b2 b3 b4 b5 e=>up b o b1 (hkp b o b2 b3 b4 b5 (hkeep b o b1 b2 b3 b4 b5 e))) (Am _ hS' rfl) (by rw[Array.toList_push,hacc,Ap]; rfl) (by rw[AM,hal]; rfl) ⟨?_,?_,?_⟩ ?_⟩) (by lia) (by rw[Array.size_push,hsz]; lia)
  .refine List.pairwise_append.mpr ⟨hG.rise,List.pairwise_singleton _ _,fun a ha b hb=>?_⟩
   rw[AW.mp hb];obtain⟨j,hj⟩:=AZ.mp ha;exact sP (hG.pairs j a hj) fun _ _ _ _ e=>AF e
  .intro a ha
   rcases AS.mp ha with ha | ha
   .exact hG.above a ha
   .rwa [AW.mp ha]
  .intro j b hj
   rcases Nat.lt_trichotomy j as.length with h1 | h1 | h1
   .rw [CK h1] at hj
    obtain⟨x,y,e1,e2,e3⟩:=(hG.pairs j b hj);have nb:∀{q:Addr},q<=lo->b≠q:=fun hq=>Ay (Aq hq (hG.above b (AE hj)));exact⟨x,y,e1,e2,up b _ (nb hlo.1) (hkp b _ (nb hlo.2.1) (nb hlo.2.2.1) (nb hlo.2.2.2.1) (nb hlo.2.2.2.2) e3)⟩
   .subst h1
    have hb:h.objs.size=b:=by simpa using hj
    subst hb;exact⟨_,_,by rw[hal]; exact AU hix,by rw[hal]; exact AU hiy,up _ _ (Ay hSl) ht⟩
   .have hnone:(as++[h.objs.size])[j]?=none:=Bz (by rw[AM,Ak]; lia)
    rw[hnone] at hj; cases hj
  .exact Nat.lt_trans hlt (AF (up _ _ (Ay hSl) ht))
end
section
variable {prog:Program}{w:World}{A:Around}{E:Value->Shared->Prop}{s:Shared}{xs ys:Array Value}
theorem zt_list  (hh:A.handled=none)  (D:ZipApart z TI TO i1 i2 l1 l2)(hl:l1≠TI/\l2≠TI)(hz:IsZip s.heap z TI TO .none)(hTO:IsPair s.heap TO .none .none)(zi:ZIt s.heap z TI i1 i2 l1 l2 xs ys 0)
  (he:xs.size=ys.size) (hn:xs.size<=sizeLine)
  (hQ:∀h' tk acc c as,(∀b o,b≠z->b≠TO->b≠i1->b≠i2->s.heap.get? b=some o->h'.get? b=some o)->h'.get? s.heap.objs.size=some { cls:=.type "list",dict:=none,data:=.seq acc c,slots:=#[] }->as.length=xs.size->ZG xs ys s.heap.objs.size h' as ->
   acc.toList=as.map Value.ref->Q (.ref s.heap.objs.size) { s with heap:=h',toks:=tk }) :
  wpAny (model prog w) A (call (.type "list") [.ref z]) Q E s:=by
 have lz:=AF hz;have lTO:=AF hTO;have lTI:=AF zi.it;have li1:=let ⟨o,e,_⟩:=zi.a; AF e
 have li2:=let ⟨o,e,_⟩:=zi.b; AF e
 have ll1:=let ⟨o,e,_⟩:=zi.x; AF e
 have ll2:=let ⟨o,e,_⟩:=zi.y; AF e
 refine callType_codes (Q₁:=fun obj s₁=>obj=.ref s.heap.objs.size/\s₁={ s with heap:=s.heap.push { cls:=.type "list",data:=.seq #[] } }) F.called_list (F.typeCall_list_1 _) F.entry_list_init
  (code_list_new _ ⟨rfl,rfl⟩) fun obj s₁ h₁=>?_
 obtain⟨rfl,rfl⟩:=h₁;generalize hSe:s.heap.objs.size=S at *
 have hS:(s.heap.push { cls:=.type "list",data:=.seq #[] }).get? S=some { cls:=.type "list",data:=.seq #[] } :=hSe▸AK _ rfl;have hps:∀b o,s.heap.get? b=some o->(s.heap.push { cls:=.type "list",data:=.seq #[] }).get? b=some o:=fun b o e=>AC _ e;have hsz1:(s.heap.push { cls:=.type "list",data:=.seq #[] }).objs.size=S+1:=by rw[B8,hSe]
 generalize s.heap.push { cls:=.type "list",data:=.seq #[] }=g at hS hps hsz1 ⊢;refine⟨⟨_,hS,rfl⟩,F.args_list_init_2 _ _,AA ?_⟩
 delta Builtin.List.listItems
 refine AA (Ag hS rfl (AB (AA (Bh hS rfl ?_))));have hS₂:=Am (Obj.mapSeq (fun _=>(#[]:Array Value))) hS rfl;refine AA (B5 ?_);have oth:∀f b o (g:Heap),b≠S->g.get? b=some o->(g.update S (Obj.mapSeq f)).get? b=some o:=fun f b o g hb e=>(BH _ _ (Ne.symm hb)).trans e;have nS:∀{b:Addr},b < S->b≠S:=fun h=>A5 h
 have hps2:∀b o,b≠S->s.heap.get? b=some o->(g.update S (Obj.mapSeq (fun _=>(#[]:Array Value)))).get? b=some o:=fun b o hb e=>oth _ b o g hb (hps b o e);have hsz2:(g.update S (Obj.mapSeq (fun _=>(#[]:Array Value)))).objs.size=S+1 :=hsz1▸(An ..).1;generalize g.update S (Obj.mapSeq (fun _=>(#[]:Array Value)))=g2 at hS₂ hps2 hsz2 ⊢;have hT:Shared.TypeIs { s with heap:=g2 } (.ref z) "zip":=⟨_,hps2 z _ (nS lz) hz,rfl⟩
 delta Builtin.List.listExtendWith
 refine AA (wpAny_typeOf hT ?_);have h1:Builtin.List.listSameRef (.ref S) (.ref z)=false:=by simp[Builtin.List.listSameRef,Ne.symm (nS lz)]
 have h2:(Value.type "zip" == Value.type "list")=false:=by decide
 have h3:(Value.type "zip" == Value.type "tuple")=false:=by decide
 simp only[h1,h2,h3,Bool.or_false,Bool.false_eq_true,if_false]
 refine AA (wpAny_pyIter_zip (hps2 z _ (nS lz) hz) (AA (Af ?_)))
 delta Builtin.List.listLengthHint
 refine AA (As hT sG (AA (As hT rY (AB ?_))));rw[A4 (by simp)];refine AA (A7 (AA (AA (Bh hS₂ rfl ?_))));have hS₃:=Am (Obj.mapSeq (·.push Value.none)) hS₂ rfl
 apply Bh hS₃ rfl
 have hS₄:=Am (Obj.mapSeq (·.pop)) hS₃ rfl;have hps4:∀b o,b≠S->s.heap.get? b=some o->((g2.update S (Obj.mapSeq (·.push Value.none))).update S (Obj.mapSeq (·.pop))).get? b=some o:=fun b o hb e=>oth _ b o _ hb (oth _ b o _ hb (hps2 b o hb e));have hsz4:((g2.update S (Obj.mapSeq (·.push Value.none))).update S (Obj.mapSeq (·.pop))).objs.size=S+1:=by rw[(An ..).1,(An ..).1,hsz2]
 generalize (g2.update S (Obj.mapSeq (·.push Value.none))).update S (Obj.mapSeq (·.pop))=g4 at hS₄ hps4 hsz4 ⊢
 refine AB ⟨plainId_quiet F.plain_extend_loop _,jF (A:=A.in1) hh D hl ⟨Ne.symm (nS lz),Ne.symm (nS lTI),Ne.symm (nS lTO),Ne.symm (nS li1),Ne.symm (nS li2),Ne.symm (nS ll1),Ne.symm (nS ll2)⟩ ⟨AG _,BC lz,BC lTO,BC li1,BC li2⟩ he hn .none (fun h' tk acc c as kp e ha hG hac=>?_)
  xs.size 0 g4 s.toks _ #[] [] (Nat.sub_zero _) (A0 _) ⟨.inl ⟨rfl,hps4 z _ (nS lz) hz,_,_,hps4 TO _ (nS lTO) hTO⟩,zi.at fun b o hb e=>hps4 b o (by rcases hb with rfl | rfl | rfl | rfl | rfl<;>exact nS ‹_›) e⟩ (fun b o hb _ _ _ _ e=>hps4 b o hb e) hS₄ rfl rfl ⟨List.Pairwise.nil,(fun _ ha=>nomatch ha),(fun j a hj=>by simp at hj)⟩ (hsz4▸CC _)⟩
 exact⟨rfl,hQ h' tk acc c as (fun b o b1 b2 b3 b4 e2=>kp b o (fun q=>by rw[q] at e2; have:=AF e2; rw[hSe] at this; exact BF _ this) b1 b2 b3 b4 e2) e ha hG hac⟩
abbrev zpI (l:Addr):Obj:={ cls:=.type "list_iterator",data:=.fields #[.ref l,.int 0 0] }
theorem meets_zipT_new l1 l2 xs ys :
  Meets (Builtin.«zip.__new__» ⟨[.type "zip",.ref l1,.ref l2],[]⟩) (fun _ R s=>s.heap.IsList l1 xs/\s.heap.IsList l2 ys /\
   R (.ok (.ret (.ref ((((s.heap.push (zpI l1)).push (zpI l2)).push (zpP (.ref s.heap.objs.size) (.ref (s.heap.push (zpI l1)).objs.size))).push (zpP .none .none)).objs.size))) { s with heap:=((((s.heap.push (zpI l1)).push (zpI l2)).push (zpP (.ref s.heap.objs.size) (.ref (s.heap.push (zpI l1)).objs.size))).push (zpP .none .none)).push (zpZ ((s.heap.push (zpI l1)).push (zpI l2)).objs.size (((s.heap.push (zpI l1)).push (zpI l2)).push (zpP (.ref s.heap.objs.size) (.ref (s.heap.push (zpI l1)).objs.size))).objs.size) }) :=
 .of_wp fun prog w A R s h=>by
  obtain⟨hp,g,d,tk,os⟩:=s; obtain⟨hl1,hl2,h⟩:=h
  have hsub:=sub_zip;have hL2:Heap.IsList (Shared.heap ⟨hp.push { cls:=.type "list_iterator",data:=.fields #[.ref l1,.int 0 0] },g,d,tk,os⟩) l2 ys:=Heap.IsList.push hl2 _
  wp_walk using Cs hl1,Cs hL2
  exact⟨_,rfl,h⟩
end
end PySem.ZL
namespace L2.ZL
open PySem PySem.W PyProof.Rows L2
def zpH (n:Nat)(H:Hp)(i1 i2 TI TO z l1 l2:Addr):Hp :=
 upd (upd (upd (upd (upd H i1 (.ext (oZ n i1 (PySem.ZL.zpI l1)))) i2 (.ext (oZ n i2 (PySem.ZL.zpI l2)))) TI (.ext (oZ n TI (zpP (.ref i1) (.ref i2))))) TO (.ext (oZ n TO (zpP .none .none)))) z (.ext (oZ n z (zpZ TI TO)))
theorem zpH_drop   {i2 TI TO z l1 l2}(h1:H i1=none)(h2:H i2=none)(h3:H TI=none)(h4:H TO=none)(h5:H z=none):rW (zpH n H i1 i2 TI TO z l1 l2) [z,TO,TI,i1,i2]=H:=by
 funext b
 by_cases hb:b∈[z,TO,TI,i1,i2]
 .rw [oU hb]
  simp only[List.mem_cons,List.not_mem_nil,or_false] at hb
  rcases hb with rfl | rfl | rfl | rfl | rfl
  .exact h5.symm
  .exact h4.symm
  .exact h3.symm
  .exact h1.symm
  .exact h2.symm
 .rw [mK hb]
  simp only[List.mem_cons,List.not_mem_nil,or_false,not_or] at hb
  delta zpH
  rw[kQ hb.1,kQ hb.2.1,kQ hb.2.2.1,kQ hb.2.2.2.2,kQ hb.2.2.2.1]
section
variable {X:Cx}
theorem call_zipT:CallR X (.type "zip") (fun xs H Q=>∃l1 l2 as bs,xs=[.ref l1,.ref l2]/\SqL X.K H l1 as/\SqL X.K H l2 bs/\∀i1 i2 TI TO z,H i1=none->H i2=none->H TI=none->H TO=none->H z=none->ZipApart z TI TO i1 i2 l1 l2->l1≠TI/\l2≠TI->Q (.ref z) (zpH X.s₀.heap.objs.size H i1 i2 TI TO z l1 l2)):=by
 intro pins s σ H xs us Q I r h;obtain⟨l1,l2,as,bs,rfl,h1,h2,q⟩:=h;obtain⟨u,v,rfl,rfl,ry⟩:=r.two;cases ry;refine sU (I.list h1) fun its1 r1 p1 _=>sU (I.list h2) fun its2 r2 p2 _=>callType_new F.called_zip rfl (F.typeCall_zip_2 _ _) (F.newCall_zip_2 _ _) (fun obj=>F.args_object_init_3 obj _ _) F.entry_zip_new (PySem.ZL.meets_zipT_new l1 l2 its1.toArray its2.toArray) ⟨p1.isList,p2.isList,?_⟩;have ll1:=let ⟨o,e,_⟩:=p1.isList; AF e
 have ll2:=let ⟨o,e,_⟩:=p2.isList; AF e
 have hn:=I.sz;have z1:(s.heap.push (PySem.ZL.zpI l1)).objs.size=s.heap.objs.size+1:=B8 ..;have z2:((s.heap.push (PySem.ZL.zpI l1)).push (PySem.ZL.zpI l2)).objs.size=s.heap.objs.size+2 :=by simp_all
 rw[z1,z2];have z3:(((s.heap.push (PySem.ZL.zpI l1)).push (PySem.ZL.zpI l2)).push (zpP (.ref s.heap.objs.size) (.ref (s.heap.objs.size+1)))).objs.size=s.heap.objs.size+3 :=by simp_all
 rw[z3];have z4:((((s.heap.push (PySem.ZL.zpI l1)).push (PySem.ZL.zpI l2)).push (zpP (.ref s.heap.objs.size) (.ref (s.heap.objs.size+1)))).push (zpP .none .none)).objs.size=s.heap.objs.size+4 :=by simp_all
 rw[z4];generalize hS:s.heap.objs.size=S at *
 have g1:(s.heap.push (PySem.ZL.zpI l1)).get? S=some (PySem.ZL.zpI l1) :=hS▸AK _ rfl;have I1:Inv X pins σ (upd H S (.ext (oZ X.s₀.heap.objs.size S (PySem.ZL.zpI l1)))) { s with heap:=s.heap.push (PySem.ZL.zpI l1),toks:=s.toks }:=I.laid (fun b o e=>AC _ e) (BN hS) (jW hn g1);have g2:((s.heap.push (PySem.ZL.zpI l1)).push (PySem.ZL.zpI l2)).get? (S+1)=some (PySem.ZL.zpI l2) :=z1▸AK _ rfl
 have I2:=I1.laid (t':=s.toks) (o:=.ext (oZ X.s₀.heap.objs.size (S+1) (PySem.ZL.zpI l2))) (h':=(s.heap.push (PySem.ZL.zpI l1)).push (PySem.ZL.zpI l2)) (fun b o e=>AC _ e) (BN z1) (jW (AY hn) g2);have g3:(((s.heap.push (PySem.ZL.zpI l1)).push (PySem.ZL.zpI l2)).push (zpP (.ref S) (.ref (S+1)))).get? (S+2)=some (zpP (.ref S) (.ref (S+1))) :=z2▸AK _ rfl
 have I3:=I2.laid (t':=s.toks) (o:=.ext (oZ X.s₀.heap.objs.size (S+2) (zpP (.ref S) (.ref (S+1))))) (h':=((s.heap.push (PySem.ZL.zpI l1)).push (PySem.ZL.zpI l2)).push (zpP (.ref S) (.ref (S+1)))) (fun b o e=>AC _ e) (BN z2) (jW (AY (AY hn)) g3);have g4:((((s.heap.push (PySem.ZL.zpI l1)).push (PySem.ZL.zpI l2)).push (zpP (.ref S) (.ref (S+1)))).push (zpP .none .none)).get? (S+3)=some (zpP .none .none) :=z3▸AK _ rfl
 have I4:=I3.laid (t':=s.toks) (o:=.ext (oZ X.s₀.heap.objs.size (S+3) (zpP .none .none))) (h':=(((s.heap.push (PySem.ZL.zpI l1)).push (PySem.ZL.zpI l2)).push (zpP (.ref S) (.ref (S+1)))).push (zpP .none .none)) (fun b o e=>AC _ e) (BN z3) (jW (AY (AY (AY hn))) g4);have g5:(((((s.heap.push (PySem.ZL.zpI l1)).push (PySem.ZL.zpI l2)).push (zpP (.ref S) (.ref (S+1)))).push (zpP .none .none)).push (zpZ (S+2) (S+3))).get? (S+4)=some (zpZ (S+2) (S+3)) :=z4▸AK _ rfl
 have I5:=I4.laid (t':=s.toks) (o:=.ext (oZ X.s₀.heap.objs.size (S+4) (zpZ (S+2) (S+3)))) (h':=((((s.heap.push (PySem.ZL.zpI l1)).push (PySem.ZL.zpI l2)).push (zpP (.ref S) (.ref (S+1)))).push (zpP .none .none)).push (zpZ (S+2) (S+3))) (fun b o e=>AC _ e) (BN z4) (jW (AY (AY (AY (AY hn)))) g5);have fr:∀{b:Addr},S<=b->H b=none:=fun hb=>I.hok.fresh (by rwa [hS])
 refine⟨⟨_,g5,rfl⟩,.ref (S+4),_,I5,rfl,q S (S+1) (S+2) (S+3) (S+4) (fr (AG _)) (fr (Ba _ _)) (fr (Ba _ _)) (fr (Ba _ _)) (fr (Ba _ _)) ?_ ?_⟩
 .have:=zipApart_new ll1 ll2
  exact this
 .lia
theorem call_listZip (hc:X.calm=true):CallR X (.type "list") (fun xs H Q=>∃i1 i2 TI TO z l1 l2 as bs,xs=[.ref z]/\H i1=some (.ext (oZ X.s₀.heap.objs.size i1 (PySem.ZL.zpI l1)))/\H i2=some (.ext (oZ X.s₀.heap.objs.size i2 (PySem.ZL.zpI l2)))/\H TI=some (.ext (oZ X.s₀.heap.objs.size TI (zpP (.ref i1) (.ref i2))))/\H TO=some (.ext (oZ X.s₀.heap.objs.size TO (zpP .none .none)))/\H z=some (.ext (oZ X.s₀.heap.objs.size z (zpZ TI TO))) /\
  SqL X.K H l1 as/\SqL X.K H l2 bs/\as.length=bs.length/\ZipApart z TI TO i1 i2 l1 l2/\(l1≠TI/\l2≠TI)/\∀ps l,ps.length=as.length->ps.Nodup->(∀b∈ps,H b=none)->H l=none->l∉ps->Q (.ref l) (upd (layT (rW H [z,TO,TI,i1,i2]) (zpF ps as bs)) l (.lst (ps.map V.ref)))):=by
 intro pins s σ H xs us Q I r h;obtain⟨i1,i2,TI,TO,z,l1,l2,as,bs,rfl,h1,h2,h3,h4,h5,t1,t2,hl,D,hlt,q⟩:=h;obtain⟨u,rfl,rfl⟩:=aJ r;refine sU (I.list t1) fun its1 r1 p1 z1=>sU (I.list t2) fun its2 r2 p2 z2=>?_;have e1:=(I.hok _ _ h1).1;have e2:=(I.hok _ _ h2).1;have e3:=(I.hok _ _ h3).1;have e4:=(I.hok _ _ h4).1;have e5:=(I.hok _ _ h5).1;have n1:=r1.length;refine PySem.ZL.zt_list (I.ok.hd hc) D hlt e5.2 e4.2 ⟨e3.2,⟨_,e1.2,rfl,rfl⟩,⟨_,e2.2,rfl,rfl⟩,p1.isList,p2.isList⟩ (by rw[AN,AN,<- n1,<- r2.length,hl]) (by grind) fun h' tk acc c ps kp el hn G ha=>?_
 have nd:=G.rise.imp fun h=>A5 h;rw[AN,<- n1] at hn;have up:=G.above;have nlp:s.heap.objs.size∉ps:=fun z=>BF _ (up _ z);have ez:acc=(ps.map Value.ref).toArray:=by rw[<- ha,Array.toArray_toList]
 have rv:Vals (ps.map V.ref) (ps.map Value.ref):=by
  clear nd hn up nlp ez G q ha
  induction ps with
  |nil=>exact .nil
  |cons a as ih=>exact .cons rfl ih
 refine⟨.ref s.heap.objs.size,_,I.goneT (t':=tk) (fun b hb=>?_) (fun b o hb e=>?_) (fun b xs e=>?_) (AG _) ?_ ⟨by rw[AD,hn]; exact z1,_,c,rv,by rwa [<- ez]⟩,rfl,q ps _ hn nd (fun b hb=>I.hok.fresh (BC (up b hb))) (I.hok.fresh (AG _)) nlp⟩
 .simp only[List.mem_cons,List.not_mem_nil,or_false] at hb
  rcases hb with rfl | rfl | rfl | rfl | rfl
  .simp_all
  .exact ⟨_,h4,e4.1⟩
  .exact ⟨_,h3,e3.1⟩
  .exact ⟨_,h1,e1.1⟩
  .exact ⟨_,h2,e2.1⟩
 .grind
 .unfold zpF at e
  split at e
  .next hb =>
   cases e;have hj:=List.idxOf_lt_length_of_mem hb;have hg:ps[ps.idxOf b]?=some b :=by grind
   generalize ps.idxOf b=j at hj hg ⊢;refine sP (G.pairs j b hg) fun x y g1 g2 g3=>?_;rw[List.getElem?_toArray] at g1 g2;refine⟨BC (up b hb),zS0 2 rfl,[x,y],.cons ?_ (.cons ?_ .nil),⟨_,g3,rfl,⟨_,rfl⟩,rfl⟩⟩
   .have q0:as[j]?=some as[j]:=AH (by omega)
    refine hZ (r1.get q0) fun u q1 q2=>?_;rw[g1] at q1; cases q1
    rwa [B7,q0]
   .have q0:bs[j]?=some bs[j]:=AH (by omega)
    refine hZ (r2.get q0) fun u q1 q2=>?_;rw[g2] at q1; cases q1
    rwa [B7,q0]
  .cases e
 .delta zpF
  rw[Av nlp]
end
end L2.ZL
namespace CL
open PySem PySem.Spec L2 PySem.W
open PyProof.Rows hiding St
section
variable {X:Cx}{a b:Expr}{pos:Pos}
@[irreducible] def tM:PV->PV->CH->K1->Prop:=fun x y C Q=>match x,y with
 |.tup xs,.tup ys=>xs.length=ys.length/\∀p,C p=none->Q (.ref p) (vQ C p (.lst (List.zipWith (fun a b=>PV.tup [a,b]) xs ys)))
 |.ref l1,.ref l2=>match C l1,C l2 with
  |some (.lst xs),some (.lst ys)=>xs.length=ys.length/\∀p,C p=none->Q (.ref p) (vQ C p (.lst (List.zipWith (fun a b=>PV.tup [a,b]) xs ys)))
  |_,_=>False
 |_,_=>False
def yO (ca cb:TCE):TCE:=fun ρ C Q=>ca ρ C fun x C1=>cb ρ C1 fun y C2=>tM x y C2 Q
theorem zH {p p2 pos2:Pos}{ca cb:TCE}(hc:X.calm=true)(hm:X.mg "list" = none)(hm2:X.mg "zip" = none)(ha:CE X a ca)(hb:CE X b cb)(hg:Gl X "list":=by rfl)(hg2:Gl X "zip":=by rfl)(hs:nQ a=true:=by rfl)(hs2:nQ b=true:=by rfl):
  CE X (.Call (.Name "list" p) [.Call (.Name "zip" p2) [a,b] [] pos2] [] pos) (yO ca cb):=⟨JE.weak (uY (CallR.or (call_listZip hc) (L2.ZL.call_listZip hc)) hg hm rfl (vG (uY (CallR.or call_zipT L2.ZL.call_zipT) hg2 hm2 rfl (vG ha.h (vG hb.h ⟨sF⟩ hs2) hs) (by decide) rfl hs (by grind)) ⟨sF⟩)) fun σ H Q zz=>qX zz fun ρ C R s h q f=>
  ⟨ρ,C,_,s,h,q,fun x H1 px C1 q1 rx h1 f1=>⟨ρ,C1,_,s.imm (f1.imm h),h1,q1,fun y H2 py C2 q2 ry h2 f2=>by
   have rx:=rx.imm (f2.imm h1)
   delta tM at q2
   split at q2
   .next xs ys =>
    cases rx with
    |@tup l1 vs _ hx rx =>
    cases ry with
    |@tup l2 ws _ hy ry =>
    have lx:=rx.len;refine .inl ⟨_,_,_,_,rfl,.inl (.inl hx),.inl (.inl hy),fun i1 i2 TI TO z o1 o2 o3 o4 o5 D hl=>?_⟩;have ne:∀{b c:Addr} {u:HO},H2 b=some u->H2 c=none->b≠c:=fun e1 e2 z=>by rw[z,e2] at e1; cases e1
    have k5:∀{n:Nat} {b:Addr} {u:HO},H2 b=some u->zpH n H2 i1 i2 TI TO z l1 l2 b=some u:=fun e=>by
     delta zpH
     rwa [kQ (ne e o5),kQ (ne e o4),kQ (ne e o3),kQ (ne e o2),kQ (ne e o1)]
    refine .inl ⟨i1,i2,TI,TO,z,_,_,_,_,rfl,?_,?_,?_,?_,uQ,.inl (.inl (k5 hx)),.inl (.inl (k5 hy)),lx.trans (q2.1.trans ry.len.symm),D,hl,fun ps l hn nd hfr hl0 nlp=>?_⟩
    .delta zpH; rw[kQ D.i1z,kQ (Ne.symm D.TOi1),kQ (Ne.symm D.TIi1),kQ D.i12,uQ]
    .delta zpH; rw[kQ D.i2z,kQ (Ne.symm D.TOi2),kQ (Ne.symm D.TIi2),uQ]
    .delta zpH; rw[kQ D.TIz,kQ D.TITO,uQ]
    .delta zpH; rw[kQ D.TOz,uQ]
    .have back:∀{b:Addr},zpH X.s₀.heap.objs.size H2 i1 i2 TI TO z l1 l2 b=none->H2 b=none:=fun {b} e=>by
      cases e2:H2 b with
      |none=>rfl
      |some u=>rw[k5 e2] at e; cases e
     rw[zpH_drop o1 o2 o3 o4 o5];have hl1:=back hl0
     have fr:∀b us,zpF ps vs ws b=some us->H2 b=none:=fun b us e=>by
      delta zpF at e
      split at e
      .grind
      .cases e
     refine el03 (h2.layT fr) fun h3 f3 im3=>?_;have l3:L2.layT H2 (zpF ps vs ws) l=none:=by rw[rJ (by delta zpF; rw[Av nlp])]; exact hl1
     exact f _ _ _ _ (q2.2 l (h2.fresh hl1)) (.ref l) (h3.lay l3 ⟨_,uQ,Reps.imm (Imm.new l3 _) (qU (f:=fun _=>none) (rx.imm im3) (ry.imm im3) (hn.trans lx) q2.1 fun j p' v' w' a1 a2 a3=>yY (pO nd a1 a2 a3))⟩) (f1.trans (f2.trans (f3.trans (Fw.lay l3 _ _))))
   .next x1 x2 l1 l2 rx0 =>
    split at q2
    .next xs ys c1 c2 =>
     cases rx;cases ry;obtain⟨vs,hx,rx⟩:=h2 l1 _ c1;obtain⟨ws,hy,ry⟩:=h2 l2 _ c2;have lx:=rx.len;refine .inr ⟨_,_,_,_,rfl,SqL.of hx,SqL.of hy,fun i1 i2 TI TO z o1 o2 o3 o4 o5 D hl=>?_⟩;have ne:∀{b c:Addr} {u:HO},H2 b=some u->H2 c=none->b≠c:=fun e1 e2 z=>by rw[z,e2] at e1; cases e1
     have k5:∀{n:Nat} {b:Addr} {u:HO},H2 b=some u->L2.ZL.zpH n H2 i1 i2 TI TO z l1 l2 b=some u:=fun e=>by
      delta L2.ZL.zpH
      rwa [kQ (ne e o5),kQ (ne e o4),kQ (ne e o3),kQ (ne e o2),kQ (ne e o1)]
     refine .inr ⟨i1,i2,TI,TO,z,_,_,_,_,rfl,?_,?_,?_,?_,uQ,SqL.of (k5 hx),SqL.of (k5 hy),lx.trans (q2.1.trans ry.len.symm),D,hl,fun ps l hn nd hfr hl0 nlp=>?_⟩
     .delta L2.ZL.zpH; rw[kQ D.i1z,kQ (Ne.symm D.TOi1),kQ (Ne.symm D.TIi1),kQ D.i12,uQ]
     .delta L2.ZL.zpH; rw[kQ D.i2z,kQ (Ne.symm D.TOi2),kQ (Ne.symm D.TIi2),uQ]
     .delta L2.ZL.zpH; rw[kQ D.TIz,kQ D.TITO,uQ]
     .delta L2.ZL.zpH; rw[kQ D.TOz,uQ]
     .have back:∀{b:Addr},L2.ZL.zpH X.s₀.heap.objs.size H2 i1 i2 TI TO z l1 l2 b=none->H2 b=none:=fun {b} e=>by
       cases e2:H2 b with
       |none=>rfl
       |some u=>rw[k5 e2] at e; cases e
      rw[L2.ZL.zpH_drop o1 o2 o3 o4 o5];have hl1:=back hl0
      have fr:∀b us,zpF ps vs ws b=some us->H2 b=none:=fun b us e=>by
       delta zpF at e
       split at e
       .grind
       .cases e
      refine el03 (h2.layT fr) fun h3 f3 im3=>?_;have l3:L2.layT H2 (zpF ps vs ws) l=none:=by rw[rJ (by delta zpF; rw[Av nlp])]; exact hl1
      exact f _ _ _ _ (q2.2 l (h2.fresh hl1)) (.ref l) (h3.lay l3 ⟨_,uQ,Reps.imm (Imm.new l3 _) (qU (f:=fun _=>none) (rx.imm im3) (ry.imm im3) (hn.trans lx) q2.1 fun j p' v' w' a1 a2 a3=>yY (pO nd a1 a2 a3))⟩) (f1.trans (f2.trans (f3.trans (Fw.lay l3 _ _))))
    .exact q2.elim
   .exact q2.elim⟩⟩⟩
theorem zipT_s {xs ys:List PV}{C:CH}{Q:K1}(h:xs.length=ys.length)(q:∀p,C p=none->Q (.ref p) (vQ C p (.lst (List.zipWith (fun a b=>PV.tup [a,b]) xs ys)))):tM (.tup xs) (.tup ys) C Q:=by
 delta tM
 exact⟨h,q⟩
theorem zipL_s {a b:Addr}{xs ys:List PV}{C:CH}{Q:K1}(m1:C a=some (.lst xs))(m2:C b=some (.lst ys))(h:xs.length=ys.length)(q:∀p,C p=none->Q (.ref p) (vQ C p (.lst (List.zipWith (fun a b=>PV.tup [a,b]) xs ys)))):tM (.ref a) (.ref b) C Q:=by
 delta tM
 dsimp only;rw[m1,m2];exact⟨h,q⟩
end
section
variable {X:Cx}
theorem aI {i:Nat}{y x:Str}{py px pos spos:Pos}{elt iter:Expr}{ifs:List Expr}{scope:Scope}{ce:TCE}{t:TCT}{c:TCE}
  (hNd:X.N.Nodup) (hi:X.N[i]?=some y) (hy:Loc X.env.scope y) (hc:X.calm=true) (hN:(x::X.N).Nodup) (K:∃cl,oV X x scope cl) (hI:CE X iter ce)
  (ht:∀cl fp C s₂ H₂,CF (dZ X x scope cl fp C s₂ H₂) ifs t) (he:∀cl fp C s₂ H₂,CE (dZ X x scope cl fp C s₂ H₂) elt c)
  (hs:∀v,foldedSetIterable iter X.env v=pure v:=by intro _; rfl)
  (hsw:swapsWith (.ListComp elt [⟨.Name x px,iter,ifs,0⟩] scope pos) (some (.Name y py)) spos.line X.env=pure true:=by rfl)
  (hf:X.fn y=true\/X.env.scope.names.lookup y=some .local:=by first | exact .inl rfl | exact .inr rfl | assumption) :
  CS X (.Assign [.Name y py] (.ListComp elt [⟨.Name x px,iter,ifs,0⟩] scope pos) spos) (Qo i (uL ce t c)):=by
 obtain⟨cl,K⟩:=K;refine⟨JS.weak (yD (te:=vZ X.K (Rep X.K) c) (tc:=vZ X.K oY t) hNd hi hy hc hN K (ji_m hI.h) (fun fp C s₂ H₂=>(ht cl fp C s₂ H₂).h) (fun fp C s₂ H₂=>(he cl fp C s₂ H₂).h) hs hsw hf) fun D σ H zz=>qX zz fun ρ C E s h q f=> ?_⟩;exact bN (Q:=fun x H'=>D.nx (σ.set i (some x)) H') ⟨ρ,C,_,s,h,q,fun x H1 px C1 q1 rx h1 f1=>f.nx _ H1 _ C1 q1 ((s.imm (f1.imm h)).set rx i) h1 f1⟩
theorem eI {i:Nat}{y x:Str}{py px pos spos:Pos}{elt iter:Expr}{ifs:List Expr}{scope:Scope}{ce:TCE}{t:TCT}{c:TCE}
  (hNd:X.N.Nodup) (hi:X.N[i]?=some y) (hy:Loc X.env.scope y) (hc:X.calm=true) (hN:(x::X.N).Nodup) (K:∃cl,oV X x scope cl) (hI:CE X iter ce)
  (ht:∀cl fp C s₂ H₂,CF (dZ X x scope cl fp C s₂ H₂) ifs t) (he:∀cl fp C s₂ H₂,CE (dZ X x scope cl fp C s₂ H₂) elt c)
  (hs:∀v,foldedSetIterable iter X.env v=pure v:=by intro _; rfl)
  (hsw:swapsWith (.ListComp elt [⟨.Name x px,iter,ifs,0⟩] scope pos) (some (.Name y py)) spos.line X.env=pure true:=by rfl)
  (hf:X.fn y=true\/X.env.scope.names.lookup y=some .local:=by first | exact .inl rfl | exact .inr rfl | assumption) :
  CS X (.Assign [.Name y py] (.ListComp elt [⟨.Name x px,iter,ifs,0⟩] scope pos) spos) (Qo i (dY ce t c)):=by
 obtain⟨cl,K⟩:=K;refine⟨JS.weak (yD (te:=vZ X.K (Rep X.K) c) (tc:=vZ X.K oY t) hNd hi hy hc hN K ⟨pi_sq hI.h.h⟩ (fun fp C s₂ H₂=>(ht cl fp C s₂ H₂).h) (fun fp C s₂ H₂=>(he cl fp C s₂ H₂).h) hs hsw hf) fun D σ H zz=>qX zz fun ρ C E s h q f=> ?_⟩;exact gN (Q:=fun x H'=>D.nx (σ.set i (some x)) H') ⟨ρ,C,_,s,h,q,fun x H1 px C1 q1 rx h1 f1=>f.nx _ H1 _ C1 q1 ((s.imm (f1.imm h)).set rx i) h1 f1⟩
theorem xC {p pos:Pos}{e:Expr}{ca:TCE}(hm:X.mg "len" = none)(ha:CE X e ca)(hg:Gl X "len":=by rfl)(hs:nQ e=true:=by rfl):CE X (.Call (.Name "len" p) [e] [] pos) (iW aW (sY ca kH)):=pQ kO Ql hg hm rfl (ca1 ha hs) (hs:=hs)
theorem gU {xs:List PV}{C:CH}{Q:K1}(q:Q (.int xs.length) C):aW [.tup xs] C Q:=by
 delta aW
 exact q
theorem bU {a:Addr}{xs:List PV}{C:CH}{Q:K1}(m:C a=some (.lst xs))(q:Q (.int xs.length) C):aW [.ref a] C Q:=by
 delta aW
 dsimp only;rw[m];exact q
theorem xD {a:Addr}{ob:Obj}{kvs:List (gQ×PV×PV)}{C:CH}{Q:K1}(m:C a=some (.dM ob kvs))(q:Q (.int kvs.length) C):aW [.ref a] C Q:=by
 delta aW
 dsimp only;rw[m];exact q
end
section
variable {X:Cx}
@[irreducible] def vS:GC:=fun ts C Q=>match ts with
 |[.int i]=>i.natAbs < 10 ^ 50/\Q (.str (txI i)) C
 |_=>False
theorem Qk {K:DY}:Cbi K (fun xs H Q=>∃i,xs=[.int i]/\i.natAbs.log2 < 1920/\Q (.str (toString i)) H) vS:=fun xs ps H C Q R rs h q f=>by
 unfold vS at q
 split at q
 .next i =>
  obtain⟨v,rfl,r⟩:=xX rs;cases r;refine⟨i,rfl,?_,f _ H _ C q.2 (.str _) h Fw.refl⟩
  by_cases h0:i.natAbs=0
  .rw [h0]; decide
  .rw [Nat.log2_lt h0]
   exact AV q.1 (AX (show 10 ^ 50<=2 ^ 200 by decide) (Nat.pow_le_pow_right (by decide) (by decide)))
 .exact q.elim
theorem txJ_len {i:Int}(h:i.natAbs < 10 ^ 50):(txI i).length<=51:=by
 show(Str.ofString (toString i)).length<=51;rw[PySem.ofString_length];exact int_text_length_le10 (k:=50) (by decide) h
theorem strJ_s {i:Int}{C:CH}{Q:K1}(h:i.natAbs < 10 ^ 50)(q:Q (.str (txI i)) C):vS [.int i] C Q:=by
 unfold vS;exact⟨h,q⟩
theorem lstOf_t {xs:List PV}{C:CH}{Q:K1}(q:∀p,C p=none->Q (.ref p) (vQ C p (.lst xs))):xB [.tup xs] C Q:=q
theorem lstOf_l {a:Addr}{xs:List PV}{C:CH}{Q:K1}(m:C a=some (.lst xs))(q:∀p,C p=none->Q (.ref p) (vQ C p (.lst xs))):xB [.ref a] C Q:=by
 show(match C a with | some (.lst xs)=>∀p,C p=none->Q (.ref p) (vQ C p (.lst xs)) | _=>False);rw[m];exact q
end
section
variable {X:Cx}
@[irreducible] def cEqD (d:Nat):R2C:=fun x y C Q=>match x,y with
 |.ref a,.ref b=>match C a,C b with
  |some (.lst xs),some (.lst ys)=>xs=ys/\(∀t∈xs,Pl d t)/\Q (.bl true) C
  |_,_=>False
 |_,_=>False
end
end CL
namespace K02
open PySem L2 CL
section
variable {W:Wd}{a:Adr}
structure Tp (C:CH)(t:Addr)(ns:List Int):Prop where
 at_:∃a b c:Int,C t=some (.lst [.fz (ns.map PV.int),.int a,.int b,.int c])/\0<=a/\0<=b/\0<=c
 len:ns.length<=63
def Ex (t:Addr)(C C':CH):Prop:=∀b o,b≠t->C b=some o->C' b=some o
theorem Ex.refl   : Ex t C C:=fun _ _ _ h=>h
theorem Ex.trans   (h:Ex t C C1)(h':Ex t C1 C2):Ex t C C2:=fun b o n e=>h' b o n (h b o n e)
theorem Ex.new   (hp:C p=none) o:Ex t C (vQ C p o):=fun b u _ e=>by
 rw[oQ (fun z=>by subst z; rw[hp] at e; cases e)]; exact e
inductive gTape (ts:List PV)(C:CH)(Q:K1):Prop
 |mk (ns:List Int) (z0:ts=[.fz (ns.map PV.int)]) (z1:ns.length<=63) (z2:∀t C',C t=none->Ex t C C'->Tp C' t ns->Q (.ref t) C'):gTape ts C Q
theorem ok_tape (T:Tx W a):Ok W a 1 4 ["_law_script"] gTape:=by
 refine(T.F 4 rfl).ok (fun ts C R h=>?_) fun cdv A outer s H E hr=>⟨_,(wQ (bQ (zZ (qQ (cv 0) (qQ jQ (qQ jQ (ca1 jQ))))))),?_⟩
 .obtain ⟨ns,rfl,_⟩:=h; rfl
 rintro ts C R ⟨ns,rfl,hl,q⟩;show 4<=sizeLine/\∀p,C p=none->R (.ref p) (vQ C p (.lst [.fz (ns.map PV.int),.int 0,.int 0,.int 0]));exact⟨by decide,fun p hp=>q p _ hp (Ex.new hp _) ⟨⟨0,0,0,zQ,by decide,by decide,by decide⟩,hl⟩⟩
end
section
variable {W:Wd}{a:Adr}
theorem Ex.tape   o:Ex t C (vQ C t o):=fun b u n e=>by rwa [oQ n]
theorem Qs {ns:List Int}  (h0:0<=k)(h1:k < ((ns.map PV.int).length:Int)):∃v,atI (ns.map PV.int) k=some (.int v):=by
 delta atI ixN
 rw[A4 h0,A4 h1];rw[AD] at h1;show ∃v,(ns.map PV.int)[k.toNat]?=some (.int v);rw[AL,AH (by lia)];exact⟨_,rfl⟩
inductive gDraw (ts:List PV)(C:CH)(Q:K1):Prop
 |mk (t:Addr) (m:Int) (ns:List Int) (z0:ts=[.ref t,.int m]) (z1:Tp C t ns) (z2:0 < m) (z3:m < 4611686018427387904) (z4:∀(v:Int) (C':CH),0<=v->v < m->Tp C' t ns->Ex t C C'->Q (.int v) C'):gDraw ts C Q
theorem tV (T:Tx W a):Ok W a 1 5 ["_law_tape_here","_law_many"] gDraw:=by
 have S:=(T.F 5 rfl).s
 refine(T.F 5 rfl).ok (fun ts C R h=>?_) fun cdv A outer s H E hr=>⟨_,(xQ (cs1 2 S.nd (cx (cv 0) jQ))
  (xQ (tU (zX dX cX (cx (cv 0) jQ) jQ) (sW (cv 0) jQ))
  (xQ (aQ (cw_pt (cw_and (ct2 cZ pX (cx (cv 0) jQ) jQ) (cw_and1 (ct2 vM mY (cx (cv 0) jQ) (cln T.mJ (cv 2)))))) (xQ (tU (zX yP aP (pQ Qn cbi_abs rfl T.z_abs rfl (ca1 (cx (cv 2) (cx (cv 0) jQ)))) (zX tF gG jQ jQ)) (sW (cv 0) jQ))
  (wQ (tU (zX dX cX (cx (cv 0) jQ) jQ) (sW (cv 0) jQ)))) dQ)
  (xQ (aQ (ct2 op_gt Qa (cx (cv 0) jQ) jQ) (xQ (cs1 3 S.nd (zX nK dJ (cx (cv 0) jQ) (cv 1)))
  (xQ (tU (zX yP aP (cx (cv 0) jQ) (cv 1)) (sW (cv 0) jQ))
  (wQ (bQ (cv 3))))) dQ)
  (xQ (cs1 4 S.nd jQ)
  (xQ (aQ (ct2 op_gt Qa (cln T.mJ (cv 2)) jQ) (wQ (cs1 4 S.nd (cx (cv 2) (zX nK dJ (cx (cv 0) jQ) (cln T.mJ (cv 2)))))) dQ)
  (xQ (cs1 5 S.nd (zX nK dJ (zX dX cX (zX dX cX (zX aF bG (zX nK dJ (cv 4) jQ) jQ) (zX aF bG (cx (cv 0) jQ) jQ)) jQ) jQ))
  (xQ (cs1 5 S.nd (zX nK dJ (zX aF bG (cv 5) (zX dX cX (cv 5) jQ)) jQ))
  (wQ (bQ (zX nK dJ (zX nK dJ (zX aF bG (cv 5) jQ) jQ) (cv 1)))))))))))),?_⟩
 .obtain ⟨t,m,ns,rfl,_⟩:=h; rfl
 rintro ts C R ⟨t,m,ns,rfl,⟨⟨x,y,z,h,hx,hy,hz⟩,hl⟩,m0,m1,q⟩;refine yZ h rfl (yZ h rfl (kW (yE h rfl ?_)));dsimp only;have h1:(vQ C t (.lst [.fz (ns.map PV.int),.int (x+1),.int y,.int z])) t=_:=zQ;have e1:Ex t C (vQ C t (.lst [.fz (ns.map PV.int),.int (x+1),.int y,.int z])):=Ex.tape _;refine tQ (fun ρ' C'=>ρ'=[some (.ref t),some (.int m),some (.fz (ns.map PV.int)),none,none,none]/\∃y z:Int,C' t=some (.lst [.fz (ns.map PV.int),.int (x+1),.int y,.int z])/\0<=y/\0<=z/\Ex t C C') (fun L hL=>?_) ?_
 .refine yZ h1 rfl (oX (vX _ _) (uJ (fun hb=>?_) fun hb=>?_))
  .refine yZ h1 rfl (eA (i_i (uJ (fun hb2=>?_) fun hb2=>?_)))
   .obtain ⟨c,ea⟩:=Qs hz (A6 hb2)
    refine yZ h1 rfl (ix_f ea ⟨⟨by decide,by decide,by decide⟩,⟨by decide,by decide⟩,?_⟩);refine yE h1 rfl (yZ zQ rfl (kW (yE zQ rfl (hL _ _ ⟨rfl,_,_,zQ,?_,by lia,(e1.trans (Ex.tape _)).trans (Ex.tape _)⟩))));refine Int.ediv_nonneg ?_ (by decide)
    split<;>lia
   .exact jX (hL _ _ ⟨rfl,y,z,h1,hy,hz,e1⟩)
  .exact aY rfl (jX (hL _ _ ⟨rfl,y,z,h1,hy,hz,e1⟩))
 clear h1 e1;rintro ρ' C1 ⟨rfl,y',z',h1,hy',hz',e1⟩;refine xZ (yZ h1 rfl (i_i (uJ (fun hb=>?_) fun hb=>?_)))
 .refine yZ h1 rfl ⟨m0,yZ h1 rfl ⟨⟨m0,by lia⟩,?_⟩⟩
  exact yE h1 rfl (q _ _ (DP _ (by lia)) (Cr _ m0) ⟨⟨_,_,_,zQ,by lia,Int.ediv_nonneg hy' (by lia),hz'⟩,hl⟩ (e1.trans (Ex.tape _)))
 .refine jX (cQ (c_i ?_))
  try dsimp only
  refine tQ (fun ρ' C'=>C'=C1/\∃v:Int,ρ'=[some (.ref t),some (.int m),some (.fz (ns.map PV.int)),none,some (.int v),none]) (fun L hL=>?_) ?_
  .refine eA (i_i (uJ (fun hb2=>?_) fun hb2=>?_))
   .have hn:(0:Int) < ((ns.map PV.int).length:Int):=A6 hb2
    obtain⟨c,ea⟩:=Qs (DP (x+1) (b:=((ns.map PV.int).length:Int)) (by lia)) (Cr (x+1) hn);exact yZ h1 rfl (eA ⟨hn,ix_f ea (hL _ _ ⟨rfl,_,rfl⟩)⟩)
   .exact jX (hL _ _ ⟨rfl,0,rfl⟩)
  .rintro ρ' C2 ⟨rfl,v,rfl⟩
   refine cQ ⟨(by show(0:Int) < _; decide),?_⟩;refine⟨.inr ⟨by decide,by decide⟩,?_⟩;refine yZ h1 rfl ⟨.inr ⟨by decide,by decide⟩,?_⟩;refine kW (kW ⟨(by show(0:Int) < _; decide),?_⟩);have b0:=DP (v % 2147483647 * 48271+(x+1) * 7919+12345) (b:=2147483629) (by decide);have b1:=Cr (v % 2147483647 * 48271+(x+1) * 7919+12345) (b:=2147483629) (by decide);refine cQ (kW ⟨.inl ⟨by lia,by lia⟩,?_⟩)
   refine⟨(by show(0:Int) < _; decide),?_⟩;refine⟨.inr ⟨by decide,by decide⟩,?_⟩;refine⟨(by show(0:Int) < _; decide),?_⟩;exact⟨m0,q _ _ (DP _ (by lia)) (Cr _ m0) ⟨⟨_,_,_,h1,by lia,hy',hz'⟩,hl⟩ e1⟩
end
theorem uF    (h:tyP C x=some n)(g:Gr C C'):tyP C' x=some n:=by
 cases x with
 |ref a =>
  delta tyP at h ⊢
  dsimp only at h ⊢
  split at h
  .next e=>rwa [g a _ e]
  .next e=>rwa [g a _ e]
  .next e=>rwa [g a _ e]
  .cases h
 |_=>exact h
def kn:Ty->Str
 |.bl=>"truth"
 |.int=>"number"
 |.str=>"text"
 |.tup=>"tuple"
 |.lst=>"list"
 |.dct=>"dict"
 |_=>"none"
section
variable {W:Wd}{a:Adr}
inductive gKo (ts:List PV)(C:CH)(Q:K1):Prop
 |mk x n (z0:ts=[x]) (z1:tyP C x=some n) (z2:Q (.str (kn n)) C):gKo ts C Q
theorem qN (T:Tx W a):Ok W a 1 3 ["thing"] gKo:=by
 have S:=(T.F 3 rfl).s
 refine(T.F 3 rfl).ok (fun ts C R h=>?_) fun cdv A outer s H E hr=>⟨_,(xQ (aQ (bX (pQ mQ yX rfl T.yQ rfl (qQ (cv 0) (ca1 (tX rfl T.vF rfl))))) (wQ (bQ fQ)) dQ)
  (xQ (aQ (bX (pQ mQ yX rfl T.yQ rfl (qQ (cv 0) (ca1 (tX rfl T.bC rfl))))) (wQ (bQ fQ)) dQ)
  (xQ (aQ (bX (pQ mQ yX rfl T.yQ rfl (qQ (cv 0) (ca1 (tX rfl T.gC rfl))))) (wQ (bQ fQ)) dQ)
  (xQ (aQ (bX (pQ mQ yX rfl T.yQ rfl (qQ (cv 0) (ca1 (tX rfl T.nZ rfl))))) (wQ (bQ fQ)) dQ)
  (xQ (aQ (bX (pQ mQ yX rfl T.yQ rfl (qQ (cv 0) (ca1 (tX rfl T.vK rfl))))) (wQ (bQ fQ)) dQ)
  (xQ (aQ (bX (pQ mQ yX rfl T.yQ rfl (qQ (cv 0) (ca1 (tX rfl T.lH rfl))))) (wQ (bQ fQ)) dQ)
  (wQ (bQ fQ)))))))),?_⟩
 .obtain ⟨_,_,rfl,_⟩:=h; rfl
 rintro ts C R ⟨x,n,rfl,hx,q⟩;cases n<;>repeat (first | exact q | exact uX rfl hx (zJ rfl q) | (refine uX rfl hx (aX rfl (jX ?_))))
end
def bK:Ty->Str
 |.non=>"none"
 |.bl=>"truth"
 |.int=>"whole"
 |.str=>"text"
 |.tup=>"tuple"
 |.lst=>"list"
 |.dct=>"dict"
theorem mM  (h:bK n=bK m):n=m:=by
 revert h;cases n<;>cases m<;>decide +kernel
theorem uE    (h:tyP C (.ref a)=some n):n=.lst\/n=.dct:=by
 delta tyP at h
 dsimp only at h
 split at h<;>cases h
 .exact .inl rfl
 .exact .inr rfl
 .exact .inr rfl
theorem isNo_ty    (h:tyP C x=some n):tY x=decide (n=.non):=by
 cases x with
 |ref a=>rcases uE h with rfl | rfl<;>rfl
 |non=>cases h; rfl
 |bl b=>cases h; rfl
 |int i=>cases h; rfl
 |str z=>cases h; rfl
 |tup ts=>cases h; rfl
 |_=>cases h
def sc:PV->Bool
 |.non=>true
 |.bl _=>true
 |.int _=>true
 |.str _=>true
 |_=>false
theorem sc_eq    (hy:sc y=true)(h:tyP C x=some n)(g:tyP C y=some n):n≠.tup/\n≠.lst/\n≠.dct/\∃b,sEq y x=some b/\(b=true↔x=y):=by
 cases y<;>first | exact absurd hy AJ | cases g
 all_goals
  cases x with
  |ref a=>rcases uE h with h | h<;>cases h
  |_=>first | exact⟨by decide,by decide,by decide,_,rfl,by simp[eq_comm]⟩ | cases h
section
variable {W:Wd}{a:Adr}
inductive gKind (ts:List PV)(C:CH)(Q:K1):Prop
 |mk (x:PV) (n:Ty) (z0:ts=[x]) (z1:tyP C x=some n) (z2:∀C',Gr C C'->Q (.str (bK n)) C'):gKind ts C Q
theorem oJ  {bs:List Bool}    (m:C p=some (.lst (bs.map PV.bl)))(h1:bs[j]?=some true)(h2:∀m,m < j->bs[m]?=some false)(q:Q (.int (j:Nat)) C):pG (.ref p) [.bl true] C Q:=by
 delta pG
 dsimp only;exact m▸⟨bs,j,rfl,h1,h2,q⟩
theorem fA (T:Tx W a):Ok W a 1 6 U5 gKind:=by
 have S:=(T.F 6 rfl).s
 refine(T.F 6 rfl).ok (fun ts C R h=>?_) fun cdv A outer s H E hr=>⟨_,(xQ (cs1 1 S.nd (zZ (qQ (qB kA aR (cv 0) yK (yU _)) (qQ (pQ mQ yX rfl T.yQ rfl (qQ (cv 0) (ca1 (tX (n:="bool") rfl T.vF rfl)))) (qQ (pQ mQ yX rfl T.yQ rfl (qQ (cv 0) (ca1 (tX (n:="int") rfl T.bC rfl)))) (ca1 (pQ mQ yX rfl T.yQ rfl (qQ (cv 0) (ca1 (tX (n:="str") rfl T.gC rfl))))))))))
  (xQ (cs1 1 S.nd (zX dX cX (cv 1) (zZ (qQ (pQ mQ yX rfl T.yQ rfl (qQ (cv 0) (ca1 (tX (n:="tuple") rfl T.nZ rfl)))) (qQ (pQ mQ yX rfl T.yQ rfl (qQ (cv 0) (ca1 (tX (n:="list") rfl T.vK rfl)))) (ca1 rZ))))))
  (wQ (bQ (cx (zZ (qQ fQ (qQ fQ (qQ fQ (qQ fQ (qQ fQ (qQ fQ (ca1 fQ)))))))) (jS BR PySem.F.slot_list_index PySem.F.type_list_index zT qC (cv 1) (ca1 rZ))))))),?_⟩
 .obtain ⟨x,n,rfl,_⟩:=h; rfl
 rintro ts C R ⟨x,n,rfl,hx,q⟩;refine cQ ?_;refine uX (T:=.bl) rfl hx ?_;refine uX (T:=.int) rfl hx ?_;refine uX (T:=.str) rfl hx ?_;refine⟨zS0 4 rfl,fun p1 h1=>?_⟩;have g1:Gr C (vQ C p1 (.lst [.bl (id (tY x)),.bl (iQ n .bl),.bl (iQ n .int),.bl (iQ n .str)])):=Gr.new h1 _;have m1:vQ C p1 (.lst [.bl (id (tY x)),.bl (iQ n .bl),.bl (iQ n .int),.bl (iQ n .str)]) p1=some (.lst [.bl (id (tY x)),.bl (iQ n .bl),.bl (iQ n .int),.bl (iQ n .str)]):=zQ
 generalize vQ C p1 (.lst [.bl (id (tY x)),.bl (iQ n .bl),.bl (iQ n .int),.bl (iQ n .str)])=C1 at g1 m1 ⊢;have hx1:=uF hx g1;refine cQ ?_;refine uX (T:=.tup) rfl hx1 ?_;refine uX (T:=.lst) rfl hx1 ?_;refine⟨zS0 3 rfl,fun p2 h2=>?_⟩;refine yH (Gr.new h2 _ _ _ m1) zQ (by show 4+3<=sizeLine; decide) fun p3 h3=>?_;have g3:Gr C1 (vQ (vQ C1 p2 (.lst [.bl (iQ n .tup),.bl (iQ n .lst),.bl true])) p3 (.lst ([.bl (id (tY x)),.bl (iQ n .bl),.bl (iQ n .int),.bl (iQ n .str)]++[.bl (iQ n .tup),.bl (iQ n .lst),.bl true]))):=(Gr.new h2 _).trans (Gr.new h3 _)
 have m3:vQ (vQ C1 p2 (.lst [.bl (iQ n .tup),.bl (iQ n .lst),.bl true])) p3 (.lst ([.bl (id (tY x)),.bl (iQ n .bl),.bl (iQ n .int),.bl (iQ n .str)]++[.bl (iQ n .tup),.bl (iQ n .lst),.bl true])) p3=some (.lst (([tY x,iQ n .bl,iQ n .int,iQ n .str,iQ n .tup,iQ n .lst,true]:List Bool).map PV.bl)):=zQ;generalize vQ (vQ C1 p2 (.lst [.bl (iQ n .tup),.bl (iQ n .lst),.bl true])) p3 (.lst ([.bl (id (tY x)),.bl (iQ n .bl),.bl (iQ n .int),.bl (iQ n .str)]++[.bl (iQ n .tup),.bl (iQ n .lst),.bl true]))=C3 at g3 m3 ⊢
 refine⟨by decide,fun p4 h4=>?_⟩;have m4:=Gr.new h4 (.lst [.str "none",.str "truth",.str "whole",.str "text",.str "tuple",.str "list",.str "dict"]) _ _ m3;rw[isNo_ty hx] at m4;have fin:=q _ ((g1.trans g3).trans (Gr.new h4 (.lst [.str "none",.str "truth",.str "whole",.str "text",.str "tuple",.str "list",.str "dict"])));have i1:∀(j:Nat) (bs:List Bool),bs[j]?=some true->(∀m,m < j->bs[m]?=some false)->True:=fun _ _ _ _=>trivial
 refine⟨dU m4,?_⟩
 cases n with
 |non=>exact oJ m4 (j:=0) rfl (fun m h=>absurd h (DO _)) (yZ zQ rfl fin)
 |bl=>exact oJ m4 (j:=1) rfl (by decide) (yZ zQ rfl fin)
 |int=>exact oJ m4 (j:=2) rfl (by decide) (yZ zQ rfl fin)
 |str=>exact oJ m4 (j:=3) rfl (by decide) (yZ zQ rfl fin)
 |tup=>exact oJ m4 (j:=4) rfl (by decide) (yZ zQ rfl fin)
 |lst=>exact oJ m4 (j:=5) rfl (by decide) (yZ zQ rfl fin)
 |dct=>exact oJ m4 (j:=6) rfl (by decide) (yZ zQ rfl fin)
end
inductive Tr where
 |sg (x:PV)
 |tup (ts:List Tr)
 |lst (ts:List Tr)
 |dct (ks:List (gQ×PV)) (ts:List Tr)
abbrev gZ (ks:List (gQ×PV)):Prop:=(∀p∈ks,aZ p.2=some p.1)/\(ks.map (·.1)).Nodup
abbrev jJ (kvs:List (gQ×PV×PV)):List (gQ×PV):=kvs.map fun p=>(p.1,p.2.1)
mutual
def Is (C:CH)(N:Addr->Prop):Tr->PV->Prop
 |.sg y,x=>x=y/\sc y=true
 |.tup ts,x=>∃xs,x=.tup xs/\Iss C N ts xs
 |.lst ts,x=>∃a xs,x=.ref a/\¬ N a/\C a=some (.lst xs)/\Iss C N ts xs
 |.dct ks ts,x=>∃a ob kvs,x=.ref a/\¬ N a/\C a=some (.dM ob kvs)/\jJ kvs=ks/\gZ ks/\Iss C N ts (kvs.map (·.2.2))
def Iss (C:CH)(N:Addr->Prop):List Tr->List PV->Prop
 |[],xs=>xs=[]
 |t::ts,xs=>∃y ys,xs=y::ys/\Is C N t y/\Iss C N ts ys
end
def GrN (N:Addr->Prop)(C C':CH):Prop:=∀b o,¬ N b->C b=some o->C' b=some o
theorem GrN.refl {N:Addr->Prop}{C:CH}:GrN N C C:=fun _ _ _ h=>h
theorem GrN.trans {N:Addr->Prop}{C C1 C2:CH}(h:GrN N C C1)(h':GrN N C1 C2):GrN N C C2:=fun b o n e=>h' b o n (h b o n e)
theorem GrN.gr {N:Addr->Prop}{C C':CH}(h:Gr C C'):GrN N C C':=fun b o _ e=>h b o e
theorem GrN.ex {N:Addr->Prop}{C C':CH}{t:Addr}(ht:N t)(h:Ex t C C'):GrN N C C':=fun b o n e=>h b o (fun z=>n (z▸ht)) e
theorem GrN.put {N:Addr->Prop}{C:CH}{p:Addr}(hp:N p)(o:CO):GrN N C (vQ C p o):=fun b u n e=>by rw[oQ (fun z=>by subst z; exact n hp)]; exact e
mutual
theorem uZ {C C':CH}{N:Addr->Prop}(g:GrN N C C'):∀{t:Tr}{x:PV},Is C N t x->Is C' N t x
 |.sg y,x,h=>by rw[Is] at h ⊢; exact h
 |.tup ts,x,h=>by
  rw[Is] at h ⊢;obtain⟨xs,e,h⟩:=h;exact⟨xs,e,rQ g h⟩
 |.lst ts,x,h=>by
  rw[Is] at h ⊢;obtain⟨a,xs,e,n,m,h⟩:=h;exact⟨a,xs,e,n,g _ _ n m,rQ g h⟩
 |.dct ks ts,x,h=>by
  rw[Is] at h ⊢;obtain⟨a,ob,kvs,e,n,m,k,ok,h⟩:=h;exact⟨a,ob,kvs,e,n,g _ _ n m,k,ok,rQ g h⟩
theorem rQ {C C':CH}{N:Addr->Prop}(g:GrN N C C'):∀{ts:List Tr}{xs:List PV},Iss C N ts xs->Iss C' N ts xs
 |[],xs,h=>by rw[Iss] at h ⊢; exact h
 |t::ts,xs,h=>by
  rw[Iss] at h ⊢;obtain⟨y,ys,e,h1,h2⟩:=h;exact⟨y,ys,e,uZ g h1,rQ g h2⟩
end
mutual
theorem is_less {C:CH}{N N':Addr->Prop}(hn:∀a,N' a->N a):∀{t:Tr}{x:PV},Is C N t x->Is C N' t x
 |.sg y,x,h=>by rw[Is] at h ⊢; exact h
 |.tup ts,x,h=>by
  rw[Is] at h ⊢;obtain⟨xs,e,h⟩:=h;exact⟨xs,e,yJ hn h⟩
 |.lst ts,x,h=>by
  rw[Is] at h ⊢;obtain⟨a,xs,e,n,m,h⟩:=h;exact⟨a,xs,e,fun z=>n (hn _ z),m,yJ hn h⟩
 |.dct ks ts,x,h=>by
  rw[Is] at h ⊢;obtain⟨a,ob,kvs,e,n,m,k,ok,h⟩:=h;exact⟨a,ob,kvs,e,fun z=>n (hn _ z),m,k,ok,yJ hn h⟩
theorem yJ {C:CH}{N N':Addr->Prop}(hn:∀a,N' a->N a):∀{ts:List Tr}{xs:List PV},Iss C N ts xs->Iss C N' ts xs
 |[],xs,h=>by rw[Iss] at h ⊢; exact h
 |t::ts,xs,h=>by
  rw[Iss] at h ⊢;obtain⟨y,ys,e,h1,h2⟩:=h;exact⟨y,ys,e,is_less hn h1,yJ hn h2⟩
end
mutual
theorem is_new {C:CH}{N N':Addr->Prop}(hn:∀a,N' a->N a\/C a=none):∀{t:Tr}{x:PV},Is C N t x->Is C N' t x
 |.sg y,x,h=>by rw[Is] at h ⊢; exact h
 |.tup ts,x,h=>by
  rw[Is] at h ⊢;obtain⟨xs,e,h⟩:=h;exact⟨xs,e,fJ hn h⟩
 |.lst ts,x,h=>by
  rw[Is] at h ⊢;obtain⟨a,xs,e,n,m,h⟩:=h;exact⟨a,xs,e,fun z=>(hn _ z).elim n (fun z=>by rw[m] at z; cases z),m,fJ hn h⟩
 |.dct ks ts,x,h=>by
  rw[Is] at h ⊢;obtain⟨a,ob,kvs,e,n,m,k,ok,h⟩:=h;exact⟨a,ob,kvs,e,fun z=>(hn _ z).elim n (fun z=>by rw[m] at z; cases z),m,k,ok,fJ hn h⟩
theorem fJ {C:CH}{N N':Addr->Prop}(hn:∀a,N' a->N a\/C a=none):∀{ts:List Tr}{xs:List PV},Iss C N ts xs->Iss C N' ts xs
 |[],xs,h=>by rw[Iss] at h ⊢; exact h
 |t::ts,xs,h=>by
  rw[Iss] at h ⊢;obtain⟨y,ys,e,h1,h2⟩:=h;exact⟨y,ys,e,is_new hn h1,fJ hn h2⟩
end
theorem kX {C:CH}{N:Addr->Prop}:∀{ts:List Tr}{xs:List PV},Iss C N ts xs->ts.length=xs.length
 |[],xs,h=>by rw[Iss] at h; subst h; rfl
 |t::ts,xs,h=>by
  rw[Iss] at h;obtain⟨y,ys,rfl,h1,h2⟩:=h;rw[Ai,Ai,kX h2]
theorem dR {C:CH}{N:Addr->Prop}:∀{ts:List Tr}{xs:List PV},Iss C N ts xs->∀{i:Nat}{t:Tr},ts[i]?=some t->∃x,xs[i]?=some x/\Is C N t x
 |[],xs,h,i,t,e=>by simp at e
 |u::ts,xs,h,i,t,e=>by
  rw[Iss] at h;obtain⟨y,ys,rfl,h1,h2⟩:=h
  cases i with
  |zero=>cases e; exact⟨y,rfl,h1⟩
  |succ i=>exact dR h2 e
theorem hX {C:CH}{N:Addr->Prop}:∀{ts:List Tr}{xs:List PV},Iss C N ts xs->∀{i:Nat}{x:PV},xs[i]?=some x->∃t,ts[i]?=some t/\Is C N t x
 |[],xs,h,i,t,e=>by rw[Iss] at h; subst h; simp at e
 |u::ts,xs,h,i,t,e=>by
  rw[Iss] at h;obtain⟨y,ys,rfl,h1,h2⟩:=h
  cases i with
  |zero=>cases e; exact⟨u,rfl,h1⟩
  |succ i=>exact hX h2 e
theorem pJ {C:CH}{N:Addr->Prop}:∀{ts us:List Tr}{xs ys:List PV},Iss C N ts xs->Iss C N us ys->Iss C N (ts++us) (xs++ys)
 |[],us,xs,ys,h,h'=>by rw[Iss] at h; subst h; exact h'
 |t::ts,us,xs,ys,h,h'=>by
  rw[Iss] at h;obtain⟨y,zs,rfl,h1,h2⟩:=h;rw[List.cons_append,Iss];exact⟨y,zs++ys,rfl,h1,pJ h2 h'⟩
theorem iZ {C:CH}{N:Addr->Prop}:Iss C N [] []:=by rw[Iss]
theorem fZ {C:CH}{N:Addr->Prop}{t:Tr}{x:PV}(h:Is C N t x):Iss C N [t] [x]:=by
 rw[Iss];exact⟨x,[],rfl,h,iZ⟩
def sX:Tr->Ty
 |.sg .non=>.non
 |.sg (.bl _)=>.bl
 |.sg (.int _)=>.int
 |.sg _=>.str
 |.tup _=>.tup
 |.lst _=>.lst
 |.dct _ _=>.dct
theorem pV {C:CH}{N:Addr->Prop}{t:Tr}{x:PV}(h:Is C N t x):tyP C x=some (sX t):=by
 cases t with
 |sg y =>
  rw[Is] at h;obtain⟨rfl,h⟩:=h;cases x<;>first | rfl | exact absurd h AJ
 |tup ts=>rw[Is] at h; obtain⟨xs,rfl,_⟩:=h; rfl
 |lst ts =>
  rw[Is] at h;obtain⟨a,xs,rfl,_,m,_⟩:=h;show(match C a with | some (.lst _)=>some Ty.lst | some (.dK _)=>some Ty.dct | some (.dM _ _)=>some Ty.dct | _=>none)=_;rw[m]
  rfl
 |dct ks ts =>
  rw[Is] at h;obtain⟨a,ob,kvs,rfl,_,m,_⟩:=h;show(match C a with | some (.lst _)=>some Ty.lst | some (.dK _)=>some Ty.dct | some (.dM _ _)=>some Ty.dct | _=>none)=_;rw[m]
  rfl
def kT:PV->Tr
 |.tup xs=>.tup (xs.map .sg)
 |x=>.sg x
theorem vI {C:CH}{N:Addr->Prop}:∀{xs:List PV}{ks:List Key},wK xs=some ks->Iss C N (xs.map .sg) xs
 |[],ks,h=>by rw[Bx,Iss]
 |x::xs,ks,h=>by
  rw[Aa,Iss];have h':(match bV x,wK xs with | some k,some ks=>some (k::ks) | _,_=>none)=some ks:=h
  split at h'
  .next k ks' e1 e2 =>
   refine⟨x,xs,rfl,?_,vI e2⟩;rw[Is];refine⟨rfl,?_⟩;cases x<;>first | rfl | cases e1
  .cases h'
theorem mD {C:CH}{N:Addr->Prop}{x:PV}{k:gQ}(h:aZ x=some k):Is C N (kT x) x:=by
 cases x with
 |tup xs =>
  obtain⟨ks,e1,_⟩:=BZ.1 (show(wK xs).map Sum.inr=some k from h);show Is C N (.tup (xs.map .sg)) (.tup xs);rw[Is];exact⟨xs,rfl,vI e1⟩
 |non=>show Is C N (.sg _) _; rw[Is]; exact⟨rfl,rfl⟩
 |bl b=>show Is C N (.sg _) _; rw[Is]; exact⟨rfl,rfl⟩
 |int i=>show Is C N (.sg _) _; rw[Is]; exact⟨rfl,rfl⟩
 |str z=>show Is C N (.sg _) _; rw[Is]; exact⟨rfl,rfl⟩
 |_=>cases h
mutual
def Al:Tr->Tr->Prop
 |.sg x,u=>u=.sg x
 |.tup ts,u=>∃us,u=.tup us/\Als ts us
 |.lst ts,u=>∃us,u=.lst us/\Als ts us
 |.dct ks ts,u=>∃js us,u=.dct js us/\ks.length=js.length/\AlD js us ts ks
def Als:List Tr->List Tr->Prop
 |[],us=>us=[]
 |t::ts,us=>∃v vs,us=v::vs/\Al t v/\Als ts vs
def AlD (js:List (gQ×PV))(us:List Tr):List Tr->List (gQ×PV)->Prop
 |[],_=>True
 |t::ts,ks=>(∀k,ks.head?=some k->∃(j:Nat) (u:Tr),js[j]?=some k/\us[j]?=some u/\Al t u)/\AlD js us ts ks.tail
end
theorem xK {js:List (gQ×PV)}{us:List Tr}:∀{ts:List Tr}{ks:List (gQ×PV)},AlD js us ts ks↔∀(i:Nat) (t:Tr) (k:gQ×PV),ts[i]?=some t->ks[i]?=some k->∃(j:Nat) (u:Tr),js[j]?=some k/\us[j]?=some u/\Al t u
 |[],ks=>by
  rw[AlD];exact⟨fun _ i t k h=>by simp at h,fun _=>trivial⟩
 |t::ts,ks=>by
  rw[AlD,xK]
  constructor
  .rintro ⟨h1,h2⟩ i u k e1 e2
   cases i with
   |zero=>cases e1; exact h1 k (by rw[List.head?_eq_getElem?]; exact e2)
   |succ i=>exact h2 i u k e1 (by rw[List.getElem?_tail]; exact e2)
  .intro h
   exact⟨fun k e=>h 0 t k rfl (by rw[<- List.head?_eq_getElem?]; exact e),fun i u k e1 e2=>h (i+1) u k e1 (by rw[List.getElem?_tail] at e2; exact e2)⟩
theorem jZ:∀{ts us:List Tr},Als ts us↔ts.length=us.length/\∀(i:Nat) (t u:Tr),ts[i]?=some t->us[i]?=some u->Al t u
 |[],us=>by
  rw[Als]
  constructor
  .rintro rfl; exact⟨rfl,fun i t u h=>by simp at h⟩
  .rintro ⟨h,_⟩; exact List.length_eq_zero_iff.1 h.symm
 |t::ts,us=>by
  rw[Als]
  constructor
  .rintro ⟨v,vs,rfl,h1,h2⟩
   rw[jZ] at h2;refine⟨by rw[Ai,Ai,h2.1],fun i a b e1 e2=>?_⟩
   cases i with
   |zero=>cases e1; cases e2; exact h1
   |succ i=>exact h2.2 i a b e1 e2
  .rintro ⟨h1,h2⟩
   cases us with
   |nil=>cases h1
   |cons v vs=>exact⟨v,vs,rfl,h2 0 t v rfl rfl,jZ.2 ⟨Bl h1,fun i a b e1 e2=>h2 (i+1) a b e1 e2⟩⟩
mutual
def Wf:Tr->Prop
 |.sg _=>True
 |.tup ts=>Wfs ts
 |.lst ts=>Wfs ts
 |.dct ks ts=>gZ ks/\ks.length=ts.length/\Wfs ts
def Wfs:List Tr->Prop
 |[]=>True
 |t::ts=>Wf t/\Wfs ts
end
theorem rK:∀{ts:List Tr},Wfs ts->∀{i:Nat}{t:Tr},ts[i]?=some t->Wf t
 |[],_,i,t,e=>by simp at e
 |u::ts,h,i,t,e=>by
  rw[Wfs] at h
  cases i with
  |zero=>cases e; exact h.1
  |succ i=>exact rK h.2 e
mutual
theorem kI {C:CH}{N:Addr->Prop}:∀{t:Tr}{x:PV},Is C N t x->Wf t
 |.sg _,x,h=>by rw[Wf]; trivial
 |.tup ts,x,h=>by
  rw[Is] at h; rw[Wf]
  obtain⟨xs,_,h⟩:=h;exact uD h
 |.lst ts,x,h=>by
  rw[Is] at h; rw[Wf]
  obtain⟨a,xs,_,_,_,h⟩:=h;exact uD h
 |.dct ks ts,x,h=>by
  rw[Is] at h; rw[Wf]
  obtain⟨a,ob,kvs,_,_,_,k,ok,h⟩:=h;refine⟨ok,?_,uD h⟩;rw[kX h,<- k,AD,AD]
theorem uD {C:CH}{N:Addr->Prop}:∀{ts:List Tr}{xs:List PV},Iss C N ts xs->Wfs ts
 |[],xs,h=>by rw[Wfs]; trivial
 |t::ts,xs,h=>by
  rw[Iss] at h; rw[Wfs]
  obtain⟨y,ys,_,h1,h2⟩:=h;exact⟨kI h1,uD h2⟩
end
theorem eG {α:Type}:∀{l1 l2:List α},l1.Nodup->(∀x∈l1,x∈l2)->l2.length<=l1.length->∀x∈l2,x∈l1
 |[],l2,_,_,h,x,hx=>by
  have:l2=[]:=List.length_eq_zero_iff.1 (Nat.le_zero.1 h);rw[this] at hx;exact hx
 |a::l1,l2,nd,hs,hl,x,hx=>by
  obtain⟨na,nd⟩:=BE.1 nd;obtain⟨s,t,rfl⟩:=List.append_of_mem (hs a AQ)
  have h2:∀y∈l1,y∈s++t:=fun y hy=>by
   have:=hs y (AO _ hy)
   rcases AS.1 this with h | h
   .exact AS.2 (.inl h)
   .rcases Ax.1 h with rfl | h
    .exact absurd hy na
    .exact AS.2 (.inr h)
  have h3:(s++t).length<=l1.length:=by
   rw[AM,Ai,Ai] at hl;rw[AM];omega
  rcases AS.1 hx with h | h
  .exact AO _ (eG nd h2 h3 x (AS.2 (.inl h)))
  .rcases Ax.1 h with rfl | h
   .exact AQ
   .exact AO _ (eG nd h2 h3 x (AS.2 (.inr h)))
theorem keys_nd {ks:List (gQ×PV)}(h:(ks.map (·.1)).Nodup):ks.Nodup:=(List.pairwise_map.1 h).imp fun hab e=>hab (by rw[e])
theorem cN {ks:List (gQ×PV)}(h:(ks.map (·.1)).Nodup){i j:Nat}{m:gQ}{x y:PV}(e1:ks[i]?=some (m,x))(e2:ks[j]?=some (m,y)):i=j:=by
 have l:i < (ks.map (·.1)).length:=by rw[AD]; exact(AI.1 e1).1
 exact(Bp l h).1 (by rw[AL,AL,e1,e2]; rfl)
mutual
theorem cL:∀(t u:Tr),Al t u->Wf t->Wf u->Al u t
 |.sg x,u,h,_,_=>by
  rw[Al] at h;subst h;rw[Al]
 |.tup ts,u,h,h1,h2=>by
  rw[Al] at h;obtain⟨us,rfl,h⟩:=h;rw[Wf] at h1 h2;rw[Al];rw[jZ] at h;refine⟨ts,rfl,jZ.2 ⟨h.1.symm,fun i u t e1 e2=>?_⟩⟩;exact jY ts t (AE e2) u (h.2 i t u e2 e1) (rK h1 e2) (rK h2 e1)
 |.lst ts,u,h,h1,h2=>by
  rw[Al] at h;obtain⟨us,rfl,h⟩:=h;rw[Wf] at h1 h2;rw[Al];rw[jZ] at h;refine⟨ts,rfl,jZ.2 ⟨h.1.symm,fun i u t e1 e2=>?_⟩⟩;exact jY ts t (AE e2) u (h.2 i t u e2 e1) (rK h1 e2) (rK h2 e1)
 |.dct ks ts,u,h,h1,h2=>by
  rw[Al] at h;obtain⟨js,us,rfl,hl,h⟩:=h;rw[Wf] at h1 h2;rw[Al];rw[xK] at h;refine⟨ks,ts,rfl,hl.symm,xK.2 fun j u k e1 e2=>?_⟩
  have sub:∀x∈ks,x∈js:=fun x hx=>by
   obtain⟨i,hi⟩:=AZ.1 hx;have li:i < ts.length:=by rw[<- h1.2.1]; exact(AI.1 hi).1
   obtain⟨j',u',e3,_⟩:=h i _ x (AH li) hi;exact AE e3
  have hk:=eG (keys_nd h1.1.2) sub (BN hl.symm) k (AE e2);obtain⟨i,hi⟩:=AZ.1 hk;have li:i < ts.length:=by rw[<- h1.2.1]; exact(AI.1 hi).1
  have et:ts[i]?=some ts[i]:=AH li;obtain⟨j',u',e3,e4,e5⟩:=h i _ k et hi;have ej:j'=j:=cN h2.1.2 (m:=k.1) (x:=k.2) (y:=k.2) e3 e2;subst ej;rw[e4] at e1;cases e1;exact⟨i,ts[i],hi,et,jY ts ts[i] (DD li) u e5 (rK h1.2.2 et) (rK h2.2.2 e4)⟩
theorem jY:∀(ts:List Tr) (t:Tr),t∈ts->∀u,Al t u->Wf t->Wf u->Al u t
 |[],t,h,_,_,_,_=>nomatch h
 |v::ts,t,h,u,a,w1,w2=>by
  rcases Ax.1 h with e | h'
  .rw [e] at a w1 ⊢
   exact cL v u a w1 w2
  .exact jY ts t h' u a w1 w2
end
def kw:PV->Nat
 |.tup xs=>1+xs.length
 |_=>1
def kws:List (gQ×PV)->Nat
 |[]=>0
 |k::ks=>kw k.2+kws ks
mutual
def tw:Tr->Nat
 |.sg _=>1
 |.tup ts=>1+tws ts
 |.lst ts=>1+tws ts
 |.dct ks ts=>1+kws ks+tws ts
def tws:List Tr->Nat
 |[]=>0
 |t::ts=>tw t+tws ts
end
theorem tO (t:Tr):1<=tw t:=by
 cases t<;>(unfold tw; omega)
theorem iJ:∀ts:List Tr,ts.length<=tws ts
 |[]=>A0 _
 |t::ts=>by rw[tws,Ai]; have:=tO t; have:=iJ ts; omega
theorem rO:∀xs:List PV,tws (xs.map .sg)=xs.length
 |[]=>by rw[Bx,tws]; rfl
 |x::xs=>by rw[Aa,tws,tw,rO xs,Ai]; omega
theorem eO (x:PV):tw (kT x)=kw x:=by
 cases x with
 |tup xs=>show tw (.tup (xs.map .sg))=1+xs.length; rw[tw,rO]
 |_=>first | (show tw (.sg _)=1; rw[tw])
theorem bZ:∀xs ys:List Tr,tws (xs++ys)=tws xs+tws ys
 |[],ys=>by rw[Ck,tws,Nat.zero_add]
 |x::xs,ys=>by rw[List.cons_append,tws,tws,bZ xs ys]; omega
theorem nJ:∀{ts:List Tr}{t:Tr},t∈ts->tw t<=tws ts
 |u::ts,t,h=>by
  rw[tws]
  rcases Ax.1 h with rfl | h
  .omega
  .have:=nJ h; omega
theorem pL:∀{xs ys:List PV},Als (xs.map .sg) (ys.map .sg)↔xs=ys
 |[],ys=>by
  rw[Bx,Als]
  constructor
  .intro h; exact(List.map_eq_nil_iff.1 h).symm
  .rintro rfl; rfl
 |x::xs,ys=>by
  rw[Aa,Als]
  constructor
  .rintro ⟨v,vs,e,h1,h2⟩
   cases ys with
   |nil=>cases e
   |cons y ys =>
    rw[Aa] at e;cases e;rw[Al] at h1;cases h1;rw[pL.1 h2]
  .rintro rfl
   exact⟨.sg x,xs.map .sg,rfl,by rw[Al],pL.2 rfl⟩
theorem Qu {x y:PV}:Al (kT x) (kT y)↔x=y:=by
 constructor
 .intro h
  cases x with
  |tup xs =>
   have h:Al (.tup (xs.map .sg)) (kT y):=h;rw[Al] at h;obtain⟨us,e,h⟩:=h
   cases y with
   |tup ys =>
    have e:Tr.tup (ys.map .sg)=.tup us:=e;cases e;rw[pL.1 h]
   |_=>cases e
  |_ =>
   rw[show kT _=Tr.sg _ from rfl,Al] at h
   cases y with
   |tup ys=>cases h
   |_=>cases h<;>rfl
 .rintro rfl
  cases x with
  |tup xs =>
   show Al (.tup (xs.map .sg)) (.tup (xs.map .sg));rw[Al];exact⟨_,rfl,pL.2 rfl⟩
  |_=>rw[show kT _=Tr.sg _ from rfl,Al]
abbrev TP:=Tr×PV
def prP (z:TP×TP):PV:=.tup [z.1.2,z.2.2]
def zw (zs:List (TP×TP)):Nat:=tws (zs.map (·.1.1))
theorem bH (a b:List (TP×TP)):zw (a++b)=zw a+zw b:=by unfold zw; rw[Ap,bZ]
theorem gH (a:List (TP×TP)):a.length<=zw a:=by unfold zw; have:=iJ (a.map (·.1.1)); rwa [AD] at this
abbrev AlZ (zs:List (TP×TP)):Prop:=∀z∈zs,Al z.1.1 z.2.1
abbrev IsZ (C:CH)(N:Addr->Prop)(zs:List (TP×TP)):Prop:=∀z∈zs,Is C N z.1.1 z.1.2/\Is C N z.2.1 z.2.2
theorem lext_s {C:CH}{p r:Addr}{xs ys:List PV}{Q:K1}(m1:C p=some (.lst xs))(m2:C r=some (.lst ys))(h:xs.length+ys.length<=sizeLine)(q:Q .non (vQ C p (.lst (xs++ys)))):dG (.ref p) [.ref r] C Q:=by
 delta dG
 dsimp only;exact m1▸m2▸⟨h,q⟩
theorem cO {i:Nat}{ρ:CSt}{C:CH}(Q1 Q2:K1)(h:∀v C1,Q1 v C1->Q2 v C1)(q:bJ i ρ C Q1):bJ i ρ C Q2:=by
 delta bJ at q ⊢
 split at q
 .exact h _ _ q
 .exact q
def zpT (ts us:List Tr)(xs ys:List PV):List (TP×TP):=(ts.zip xs).zip (us.zip ys)
theorem fH:∀{ts us:List Tr}{xs ys:List PV},ts.length=xs.length->us.length=ys.length->List.zipWith (fun a b=>PV.tup [a,b]) xs ys=(zpT ts us xs ys).map prP
 |[],us,[],ys,_,_=>by cases us<;>rfl
 |t::ts,[],x::xs,[],_,_=>rfl
 |t::ts,u::us,x::xs,y::ys,h1,h2=>by
  rw[List.zipWith_cons_cons,fH (Bl h1) (Bl h2)]
  rfl
theorem pH {C:CH}{N:Addr->Prop}:∀{ts us:List Tr}{xs ys:List PV},Iss C N ts xs->Iss C N us ys->IsZ C N (zpT ts us xs ys)
 |[],us,xs,ys,h1,h2=>fun z hz=>by unfold zpT at hz; simp at hz
 |t::ts,[],xs,ys,h1,h2=>fun z hz=>by unfold zpT at hz; simp at hz
 |t::ts,u::us,xs,ys,h1,h2=>fun z hz=>by
  rw[Iss] at h1 h2;obtain⟨x,xs,rfl,a1,a2⟩:=h1;obtain⟨y,ys,rfl,b1,b2⟩:=h2
  rcases Ax.1 (show z∈((t,x),(u,y))::zpT ts us xs ys from hz) with rfl | hz
  .exact ⟨a1,b1⟩
  .exact pH a2 b2 z hz
theorem dH:∀{ts us:List Tr}{xs ys:List PV},ts.length=xs.length->us.length=ys.length->ts.length=us.length->(Als ts us↔AlZ (zpT ts us xs ys))
 |[],[],[],[],_,_,_=>by
  rw[Als];exact⟨fun _ z hz=>(nomatch hz),fun _=>rfl⟩
 |t::ts,u::us,x::xs,y::ys,h1,h2,h3=>by
  rw[Als];have ih:=dH (xs:=xs) (ys:=ys) (Bl h1) (Bl h2) (Bl h3)
  constructor
  .rintro ⟨v,vs,e,a1,a2⟩ z hz
   cases e
   rcases Ax.1 (show z∈((t,x),(u,y))::zpT ts us xs ys from hz) with rfl | hz
   .exact a1
   .exact ih.1 a2 z hz
  .intro h
   exact⟨u,us,rfl,h ((t,x),(u,y)) AQ,ih.2 fun z hz=>h z (AO _ hz)⟩
theorem fO:∀{ts us:List Tr}{xs ys:List PV},zw (zpT ts us xs ys)<=tws ts
 |[],us,xs,ys=>by unfold zw zpT; simp[tws]
 |t::ts,us,[],ys=>by unfold zw zpT; simp[tws]
 |t::ts,[],x::xs,ys=>by unfold zw zpT; simp[tws]
 |t::ts,u::us,x::xs,[]=>by unfold zw zpT; simp[tws]
 |t::ts,u::us,x::xs,y::ys=>by
  have:=fO (ts:=ts) (us:=us) (xs:=xs) (ys:=ys);show tws (t::(zpT ts us xs ys).map (·.1.1))<=_;rw[tws,tws];unfold zw at this;omega
theorem wD {n m:Ty}(h:kn n=kn m):n=m:=by
 revert h;cases n<;>cases m<;>decide +kernel
theorem al_ty {t u:Tr}(h:Al t u):sX t=sX u:=by
 cases t with
 |sg x=>rw[Al] at h; subst h; rfl
 |tup ts=>rw[Al] at h; obtain⟨us,rfl,_⟩:=h; rfl
 |lst ts=>rw[Al] at h; obtain⟨us,rfl,_⟩:=h; rfl
 |dct ks ts=>rw[Al] at h; obtain⟨js,us,rfl,_⟩:=h; rfl
section
variable {W:Wd}{a:Adr}
inductive gPw (ts:List PV)(C:CH)(Q:K1):Prop
 |mk (x y:PV) (t u:Tr) (C0:CH) (N:Addr->Prop) (z0:ts=[x,y]) (z1:Gr C0 C) (z2:Is C0 N t x) (z3:Is C0 N u y) (z4:tw t<=4000) (z5:¬ Al t u->∀C',Gr C C'->Q .non C')
   (z6:∀(zs:List (TP×TP)) p C',(Al t u↔AlZ zs)->IsZ C0 N zs->zw zs+1<=tw t->C p=none->C' p=some (.lst (zs.map prP))->Gr C C'->Q (.ref p) C'):gPw ts C Q
inductive gDp (ts:List PV)(C:CH)(Q:K1):Prop
 |mk (x y:PV) (ks js:List (gQ×PV)) (us vs:List Tr) (C0:CH) (N:Addr->Prop) (z0:ts=[x,y]) (z1:Gr C0 C) (z2:Is C0 N (.dct ks us) x) (z3:Is C0 N (.dct js vs) y) (z4:tw (.dct ks us)<=4000) (z5:¬ Al (.dct ks us) (.dct js vs)->∀C',Gr C C'->Q .non C')
   (z6:∀(zs:List (TP×TP)) p C',(Al (.dct ks us) (.dct js vs)↔AlZ zs)->IsZ C0 N zs->zw zs+1<=tw (.dct ks us)->C p=none->C' p=some (.lst (zs.map prP))->Gr C C'->Q (.ref p) C'):gDp ts C Q
theorem ok_pw (T:Tx W a)(zV:Ok W a 1 2 ["one","other"] gDp):Ok W a 2 1 ["one","other"] gPw:=by
 have S:=(T.F 1 rfl).s;have zF:=qN T
 refine(T.F 1 rfl).ok (fun ts C R h=>?_) fun cdv A outer s H E hr=>⟨_,(xQ (cs1 2 S.nd (cf (T.F 3 rfl) zF hr (ca1 (cv 0))))
  (xQ (aQ (ct2 kM bY (cv 2) (cf (T.F 3 rfl) zF hr (ca1 (cv 1)))) (wQ (bQ yK)) dQ)
  (xQ (aQ (cw_pt (cw_or (ct2 cZ pX (cv 2) fQ) (cw_or1 (ct2 cZ pX (cv 2) fQ)))) (wQ (bQ (zS (ct2 cZ pX (xC T.mJ (cv 0)) (xC T.mJ (cv 1))) (zH rfl T.vK T.z_zip (cv 0) (cv 1)) yK))) dQ)
  (xQ (aQ (ct2 cZ pX (cv 2) fQ) (wQ (bQ (cf (T.F 2 rfl) zV hr (qQ (cv 0) (ca1 (cv 1)))))) dQ)
  (wQ (bQ (zS (ct2 cZ pX (cv 0) (cv 1)) (zZ nV) yK))))))),?_⟩
 .obtain ⟨_,_,_,_,_,_,rfl,_⟩:=h; rfl
 rintro ts C R ⟨x,y,t,u,C0,N,rfl,g0,hx,hy,hw,qn,q⟩;have hn:=uF (pV hx) g0;have hm:=uF (pV hy) g0;refine cQ ⟨x,_,rfl,hn,⟨y,_,rfl,hm,oX (eX _ _) ?_⟩⟩
 by_cases ek:sX t=sX u
 .refine aX (by rw[Aw (by rw[ek])]; rfl) (jX ?_)
  cases t with
  |tup ts =>
   cases u with
   |tup us =>
    have hx':=hx;have hy':=hy;rw[Is] at hx' hy';obtain⟨xs,rfl,ix⟩:=hx';obtain⟨ys,rfl,iy⟩:=hy';have l1:=kX ix;have l2:=kX iy;refine oX (eX _ _) (zJ rfl (gI rfl (gU (gU (oX (vX _ _) (uJ (fun hl=>?_) fun hl=>?_))))))
    .have hl:xs.length=ys.length:=by have:=A6 hl; omega
     refine zipT_s hl fun p hp=>?_;rw[fH l1 l2];refine q (zpT ts us xs ys) p _ ?_ (pH ix iy) ?_ hp zQ (Gr.new hp _)
     .rw [<- dH l1 l2 (by omega),Al]
      exact⟨fun⟨us',e,h⟩=>by cases e; exact h,fun h=>⟨us,rfl,h⟩⟩
     .rw [tw]; have:=fO (ts:=ts) (us:=us) (xs:=xs) (ys:=ys); omega
    .refine qn (fun h=>?_) C Gr.refl
     rw[Al] at h;obtain⟨us',e,h⟩:=h;cases e;have:=(jZ.1 h).1;have:=Cq hl;omega
   |sg z=>exact absurd ek (by cases z<;>exact fun e=>nomatch e)
   |_=>cases ek
  |lst ts =>
   cases u with
   |lst us =>
    have hx':=hx;have hy':=hy;rw[Is] at hx' hy';obtain⟨b1,xs,rfl,_,m1,ix⟩:=hx';obtain⟨b2,ys,rfl,_,m2,iy⟩:=hy';have l1:=kX ix;have l2:=kX iy;have m1:=g0 _ _ m1;have m2:=g0 _ _ m2;refine oX (eX _ _) (aX rfl (oX (eX _ _) (zJ rfl (bU m1 (bU m2 (oX (vX _ _) (uJ (fun hl=>?_) fun hl=>?_)))))))
    .have hl:xs.length=ys.length:=by have:=A6 hl; omega
     refine zipL_s m1 m2 hl fun p hp=>?_;rw[fH l1 l2];refine q (zpT ts us xs ys) p _ ?_ (pH ix iy) ?_ hp zQ (Gr.new hp _)
     .rw [<- dH l1 l2 (by omega),Al]
      exact⟨fun⟨us',e,h⟩=>by cases e; exact h,fun h=>⟨us,rfl,h⟩⟩
     .rw [tw]; have:=fO (ts:=ts) (us:=us) (xs:=xs) (ys:=ys); omega
    .refine qn (fun h=>?_) C Gr.refl
     rw[Al] at h;obtain⟨us',e,h⟩:=h;cases e;have:=(jZ.1 h).1;have:=Cq hl;omega
   |sg z=>exact absurd ek (by cases z<;>exact fun e=>nomatch e)
   |_=>cases ek
  |dct ks ts =>
   cases u with
   |dct js us =>
    refine oX (eX _ _) (aX rfl (oX (eX _ _) (aX rfl (jX (oX (eX _ _) (zJ rfl ?_))))));exact⟨x,y,ks,js,ts,us,C0,N,rfl,g0,hx,hy,hw,qn,q⟩
   |sg z=>exact absurd ek (by cases z<;>exact fun e=>nomatch e)
   |_=>cases ek
  |sg z =>
   cases u with
   |sg z' =>
    rw[Is] at hx hy;obtain⟨rfl,sx⟩:=hx;obtain⟨rfl,sy⟩:=hy;obtain⟨n1,n2,n3,b,e1,e2⟩:=sc_eq sx (ek▸hm) hn;have k1:kn (sX (.sg x)) ≠ "tuple":=fun z=>n1 (wD (m:=.tup) z);have k2:kn (sX (.sg x)) ≠ "list":=fun z=>n2 (wD (m:=.lst) z);have k3:kn (sX (.sg x)) ≠ "dict":=fun z=>n3 (wD (m:=.dct) z);refine oX (eX _ _) (aX (AR k1) (oX (eX _ _) (aX (AR k2) (jX (oX (eX _ _) (aX (AR k3) (jX (oX e1 (uJ (fun hb=>?_) fun hb=>?_)))))))))
    .refine ⟨by decide,fun p hp=>q [] p _ ⟨fun _ z h=>(nomatch h),fun _=>?_⟩ (fun z h=>nomatch h) ?_ hp zQ (Gr.new hp _)⟩
     .rw [Al,e2.1 hb]
     .simp [zw,tws,tw]
    .refine qn (fun h=>?_) C Gr.refl
     rw[Al] at h;cases h;rw[e2.2 rfl] at hb;cases hb
   |_=>exact absurd ek (by cases z<;>exact fun e=>nomatch e)
 .exact zJ (by rw[AR fun z=>ek (wD z)]; rfl) (qn (fun h=>ek (al_ty h)) C Gr.refl)
inductive gAk (ts:List PV)(C:CH)(Q:K1):Prop
 |mk (x y:PV) (t u:Tr) (N:Addr->Prop) (z0:ts=[x,y]) (z1:Is C N t x) (z2:Is C N u y) (z3:tw t<=4000) (z4:∀b C',(b=true↔Al t u)->Gr C C'->Q (.bl b) C'):gAk ts C Q
theorem pA (T:Tx W a)(zV:Ok W a 1 2 ["one","other"] gDp):Ok W a 3 0 ["one","other"] gAk:=by
 have S:=(T.F 0 rfl).s;have yB:=ok_pw T zV
 refine(T.F 0 rfl).ok (fun ts C R h=>?_) fun cdv A outer s H E hr=>⟨_,(xQ (cs1 2 S.nd (zZ (ca1 (fX (qQ (cv 0) (ca1 (cv 1)))))))
  (xQ (tI PassesOwn.never (ct_tru (cv 2)) (xQ (cs1 3 S.nd (Qi BR PySem.F.slot_list_pop PySem.F.type_list_pop mt_pop cmt_pop (cv 2)))
  (xQ (cs1 4 S.nd (cf (T.F 1 rfl) yB hr (qQ (cx (cv 3) jQ) (ca1 (cx (cv 3) jQ)))))
  (xQ (aQ (ct2 kA aR (cv 4) yK) (wQ (bQ rZ)) dQ)
  (wQ (nW (jS BR PySem.F.slot_list_extend PySem.F.type_list_extend (fun p s σ H x vs v us Q=>jT p s σ H x vs v us Q) zC (cv 2) (ca1 (cv 4)))))))))
  (wQ (bQ rZ)))),?_⟩
 .obtain ⟨_,_,_,_,_,rfl,_⟩:=h; rfl
 rintro ts C R ⟨x,y,t,u,N,rfl,hx,hy,hw,q⟩;refine cQ ⟨zS0 2 rfl,?_⟩;refine⟨zS0 1 rfl,fun p hp=>?_⟩;refine⟨tw t+1,?_⟩;have big:(4000:Nat)<=sizeLine:=by decide
 refine mC (fun n ρ C'=>∃zs x3 x4,n=zw zs/\ρ=[some x,some y,some (.ref p),x3,x4]/\(Al t u↔AlZ zs)/\IsZ C N zs/\zw zs<=4000/\C' p=some (.lst (zs.map prP))/\Gr C C') ?_ _ (tw t) _ _ (CC _)
  ⟨[((t,x),(u,y))],none,none,by unfold zw; rw[CQ,tws,tws,BG],rfl,⟨fun e z hz=>by cases AW.1 hz; exact e,fun h=>h _ AQ⟩,fun z hz=>by cases AW.1 hz; exact⟨hx,hy⟩,by unfold zw; rw[CQ,tws,tws,BG]; exact hw,zQ,Gr.new hp _⟩
 rintro n ρ C1 L ⟨zs,x3,x4,rfl,rfl,hi,hth,hle,mp,g⟩ hL;refine tru_i ?_ ?_
 .refine ⟨p,zs.map prP,rfl,mp,?_⟩
  rcases List.eq_nil_or_concat zs with rfl | ⟨ws,z,rfl⟩
  .exact q true C1 ⟨fun _=>hi.2 fun _ z=>(nomatch z),fun _=>rfl⟩ g
  .rw [List.concat_eq_append] at mp hi hth hle hL ⊢
   obtain⟨t1,t2⟩:=hth z (Aj _ AQ);have ez:zw (ws++[z])=zw ws+tw z.1.1:=by rw[bH]; unfold zw; rw[CQ,tws,tws,BG]
   apply gI (by simp)
   refine cQ ⟨dU mp,pop_s mp (y:=prP z) (by simp) ?_⟩;rw[Ap,CQ,List.dropLast_concat];have g2:Gr C (vQ C1 p (.lst (ws.map prP))):=cV g hp _;have m2:vQ C1 p (.lst (ws.map prP)) p=some (.lst (ws.map prP)):=zQ;refine cQ (ix_t rfl (ix_t rfl ⟨z.1.2,z.2.2,z.1.1,z.2.1,C,N,rfl,g2,t1,t2,by omega,fun ne C3 g3=>?_,fun zs' r C3 h1 h2 h3 hr m3 g3=>?_⟩))
   .exact q false C3 ⟨(fun h=>nomatch h),fun e=>absurd (hi.1 e z (Aj _ AQ)) ne⟩ (g2.trans g3)
   .refine jX ⟨dU (g3 _ _ m2),?_⟩
    have hl1:=gH ws;have hl2:=gH zs'
    apply lext_s (g3 _ _ m2) m3 (by rw[AD,AD]; omega)
    have ez':=bH ws zs';refine hL (zw (ws++zs')) _ _ (by omega) ⟨ws++zs',_,_,rfl,rfl,?_,fun v hv=>?_,by omega,by rw[zQ,Ap],cV (g2.trans g3) hp _⟩
    .rw [hi]
     refine⟨fun h v hv=>?_,fun h v hv=>?_⟩
     .rcases AS.1 hv with hv | hv
      .exact h v (BO _ hv)
      .exact h1.1 (h z (Aj _ AQ)) v hv
     .rcases AS.1 hv with hv | hv
      .exact h v (BO _ hv)
      .cases AW.1 hv
       exact h1.2 fun v hv=>h v (Aj _ hv)
    .rcases AS.1 hv with hv | hv
     .exact hth v (BO _ hv)
     .exact h2 v hv
 .intro Q1 Q2 h q
  exact cO _ _ h q
end
theorem uK {α:Type}{S:CH->Prop}{g:TCG}{u:TCS}{E:CEnds}(f:α->PV)(all:List α)(J:List α->CSt->CH->Prop)
  (step:∀pre x lQ ρ C,all=pre++x::lQ->J pre ρ C->S C/\∀L:CSt->CH->Prop,(∀ρ' C',J (pre++[x]) ρ' C'->L ρ' C')->g (f x) ρ C fun ρ1 C1=>u (E.lp L) ρ1 C1)
  (fin:∀ρ C,J all ρ C->S C/\E.nx ρ C):∀(lQ pre:List α) (ρ:CSt) (C:CH),all=pre++lQ->J pre ρ C->iK S g u E (lQ.map f) ρ C
 |[],pre,ρ,C,e,h=>by
  rw[Cn] at e;subst e;exact fin ρ C h
 |x::lQ,pre,ρ,C,e,h=>by
  obtain⟨h1,h2⟩:=step pre x lQ ρ C e h;exact⟨h1,h2 _ fun ρ' C' h'=>uK f all J step fin lQ (pre++[x]) ρ' C' (by rw[Cw]; exact e) h'⟩
theorem sN {i:Nat}{d:Addr}{o:Obj}{kvs:List (gQ×PV×PV)}{g:TCG}{u:TCS}{E:CEnds}{ρ:CSt}{C:CH}(hv:ρ[i]?=some (some (.ref d)))(m:C d=some (.dM o kvs))(h:iK (fun C=>C d=some (.dM o kvs)) g u E (kvs.map (·.2.1)) ρ C):pS (bJ i) g u E ρ C:=by
 unfold pS bJ;rw[hv];dsimp only;rw[m];exact h
abbrev iV (l:List (gQ×PV×PV)):List (gQ×PV×PV):=l.map fun p=>(p.1,p.2.1,p.2.1)
theorem aH {l:List (gQ×PV×PV)}{m:gQ}:atV (iV l) m=(atV l m).map fun p=>(p.1,p.1):=by
 induction l with
 |nil=>rfl
 |cons p l ih =>
  unfold atV iV at ih ⊢;rw[Aa,List.find?_cons,List.find?_cons]
  by_cases e:p.1=m
  .simp [e]
  .simp only[e,decide_false]
   exact ih
theorem own_put {l:List (gQ×PV×PV)}{x:gQ×PV×PV}(h:x.1∉l.map (·.1)):xJ (iV l) x.1 x.2.1 x.2.1=iV (l++[x]):=by
 have e:atV (iV l) x.1=none:=by
  rw[aH,Option.map_eq_none_iff];refine mL fun j p hj=>h (Ae.2 ⟨_,AE hj,rfl⟩)
 unfold xJ;rw[e,iV,iV,Ap]
 rfl
theorem kG:∀a b:List (gQ×PV),kws (a++b)=kws a+kws b
 |[],b=>by rw[Ck,kws,Nat.zero_add]
 |x::a,b=>by rw[List.cons_append,kws,kws,kG a b]; omega
theorem dW:∀a:List (gQ×PV),a.length<=kws a
 |[]=>A0 _
 |x::a=>by
  rw[kws,Ai];have:=dW a;have:1<=kw x.2:=by unfold kw; split<;>omega
  omega
theorem cW {kvs:List (gQ×PV×PV)}{ks:List (gQ×PV)}(e:jJ kvs=ks){i:Nat}{x:gQ×PV×PV}(h:kvs[i]?=some x):ks[i]?=some (x.1,x.2.1):=by
 rw[<- e,AL,h]; rfl
theorem vD {kvs:List (gQ×PV×PV)}{ks:List (gQ×PV)}(e:jJ kvs=ks){i:Nat}{k:gQ×PV}(h:ks[i]?=some k):∃v,kvs[i]?=some (k.1,k.2,v):=by
 rw[<- e,AL] at h;obtain⟨x,hx,rfl⟩:=BZ.1 h;exact⟨x.2.2,hx⟩
theorem gV {kvs:List (gQ×PV×PV)}{ks:List (gQ×PV)}(e:jJ kvs=ks)(ok:gZ ks):(kvs.map (·.1)).Nodup:=by
 have:ks.map (·.1)=kvs.map (·.1):=by rw[<- e,Bo]; rfl
 rw[<- this];exact ok.2
section
variable {W:Wd}{a:Adr}
theorem ok_dp (T:Tx W a):Ok W a 1 2 ["one","other"] gDp:=by
 have S:=(T.F 2 rfl).s
 refine(T.F 2 rfl).ok (fun ts C R h=>?_) fun cdv A outer s H E hr=>⟨_,(xQ (aQ (ct2 kM bY (xC T.mJ (cv 0)) (xC T.mJ (cv 1))) (wQ (bQ yK)) dQ)
  (xQ (cs1 2 S.nd mG)
  (xQ (tD PassesOwn.never rfl (cv 1) (cg1 3 S.nd) (wQ (yG (jV hr) (cv 2) (cv 3) (cv 3))))
  (xQ (cs1 4 S.nd (zZ nV))
  (xQ (tD PassesOwn.never rfl (cv 0) (cg1 3 S.nd) (xQ (aQ (oD (op_mnin (jV hr)) iI (cv 3) (cv 2) rfl) (wQ (bQ yK)) dQ)
  (xQ (nW (cap (cv 4) (fX (qQ (cv 3) (ca1 (cxm (jV hr) (cv 2) (cv 3)))))))
  (wQ (nW (cap (cv 4) (fX (qQ (cxm (jV hr) (cv 0) (cv 3)) (ca1 (cxm (jV hr) (cv 1) (cv 3)))))))))))
  (wQ (bQ (cv 4)))))))),?_⟩
 .obtain ⟨_,_,_,_,_,_,_,_,rfl,_⟩:=h; rfl
 rintro ts C R ⟨x,y,ks,js,us,vs,C0,N,rfl,g0,hx,hy,hw,qn,q⟩;rw[Is] at hx hy;obtain⟨a1,o1,kv1,rfl,n1,m1,e1,ok1,i1⟩:=hx;obtain⟨a2,o2,kv2,rfl,n2,m2,e2,ok2,i2⟩:=hy;have m1c:=g0 _ _ m1;have m2c:=g0 _ _ m2;have l1:kv1.length=ks.length:=by rw[<- e1,AD]
 have l2:kv2.length=js.length:=by rw[<- e2,AD]
 have hk1:=dW ks;rw[tw] at hw;refine xZ (xD m1c (xD m2c (oX (vX _ _) ?_)))
 by_cases hl:kv1.length=kv2.length
 .refine aX (by rw[Aw (by rw[hl])]; rfl) (jX ?_)
  dsimp only[CEnds.wn];refine cQ ?_;intro p0 ob0 h0;refine tQ (fun ρ' C'=>∃k ob,ρ'=[some (.ref a1),some (.ref a2),some (.ref p0),k,none]/\C' p0=some (.dM ob (iV kv2))/\Gr C C') (fun L hL=>?_) ?_
  .refine sN rfl (Gr.new h0 _ _ _ m2c) (uK (·.2.1) kv2 (fun pre ρ' C'=>∃k ob,ρ'=[some (.ref a1),some (.ref a2),some (.ref p0),k,none]/\C' p0=some (.dM ob (iV pre))/\Gr C C') ?_ ?_ kv2 [] _ _ rfl ⟨none,ob0,rfl,zQ,Gr.new h0 _⟩)
   .rintro pre x lQ ρ C1 ea ⟨k,ob,rfl,mo,g⟩
    refine⟨g _ _ m2c,fun L' hL'=>?_⟩;have hx:kv2[pre.length]?=some x:=by rw[ea,A8 (AG _),Nat.sub_self]; rfl
    have hm:aZ x.2.1=some x.1:=ok2.1 _ (AE (cW e2 hx));have hlt:pre.length < kv2.length:=(AI.1 hx).1
    have nin:x.1∉pre.map (·.1):=fun hin=>by
     have nd:=gV e2 ok2;rw[ea,Ap,Aa,CZ] at nd;exact nd.2.2 x.1 hin x.1 AQ rfl
    refine zD mo hm (by rw[AD]; omega) fun o'=>hL' _ _ ⟨some x.2.1,o',rfl,?_,cV g h0 _⟩;rw[zQ,own_put nin]
   .rintro ρ C1 ⟨k,ob,rfl,mo,g⟩
    exact⟨g _ _ m2c,hL _ _ ⟨k,ob,rfl,mo,g⟩⟩
  rintro ρ' C1 ⟨k,ob,rfl,mo,g⟩;refine cQ ⟨by decide,?_⟩;intro p1 h1;have mo1:=Gr.new h1 (.lst []) _ _ mo
  have c1:C p1=none:=by
   cases z:C p1 with
   |none=>rfl
   |some o=>rw[g _ _ z] at h1; cases h1
  have F:∀(n:Nat),Prop:=fun _=>True;refine tQ (fun ρ' C'=>∃zs,ρ'[4]?=some (some (.ref p1))/\C' p1=some (.lst (zs.map prP))/\Gr C C'/\IsZ C0 N zs/\(AlZ zs↔∀(i:Nat) (t:Tr) (k:gQ×PV),us[i]?=some t->ks[i]?=some k->∃(j:Nat) (u:Tr),js[j]?=some k/\vs[j]?=some u/\Al t u)/\zw zs<=kws ks+tws us) (fun L hL=>?_) ?_
  .refine sN rfl (Gr.new h1 _ _ _ (g _ _ m1c)) (uK (·.2.1) kv1 (fun pre ρ' C'=>∃k zs,ρ'=[some (.ref a1),some (.ref a2),some (.ref p0),k,some (.ref p1)]/\C' p0=some (.dM ob (iV kv2))/\C' p1=some (.lst (zs.map prP))/\Gr C C'/\IsZ C0 N zs /\
    (AlZ zs↔∀(i:Nat) (t:Tr) (k:gQ×PV),i < pre.length->us[i]?=some t->ks[i]?=some k->∃(j:Nat) (u:Tr),js[j]?=some k/\vs[j]?=some u/\Al t u)/\zw zs<=kws (ks.take pre.length)+tws (us.take pre.length)) ?_ ?_ kv1 [] _ _ rfl
    ⟨k,[],rfl,mo1,zQ,g.trans (Gr.new h1 _),fun z h=>(nomatch h),⟨fun _ i t k h=>absurd h (DO _),fun _ z h=>(nomatch h)⟩,by simp[zw,tws]⟩)
   .rintro pre x lQ ρ C2 ea ⟨k,zs,rfl,mo2,mp,g2,hz,hA,hW⟩
    refine⟨g2 _ _ m1c,fun L' hL'=>?_⟩;have hx:kv1[pre.length]?=some x:=by rw[ea,A8 (AG _),Nat.sub_self]; rfl
    have hkx:=cW e1 hx;have hm:aZ x.2.1=some x.1:=ok1.1 _ (AE hkx);obtain⟨t,ht,it⟩:=hX i1 (show(kv1.map (·.2.2))[pre.length]?=some x.2.2 by rw[AL,hx]; rfl);refine xZ (mnin_s mo2 hm ?_);rw[aH]
    cases hf:atV kv2 x.1 with
    |none =>
     refine zJ rfl (qn (fun h=>?_) C2 g2);rw[Al] at h;obtain⟨js',us',e,_,h⟩:=h;cases e;obtain⟨j,u,hj,_⟩:=xK.1 h _ t _ ht hkx;obtain⟨v,hv⟩:=vD e2 hj;have:=cJ (gV e2 ok2) hv;rw[hf] at this;cases this
    |some p =>
     obtain⟨k',v'⟩:=p;obtain⟨j,hj⟩:=Qt hf;have hkj:=cW e2 hj;obtain⟨u,hu,iu⟩:=hX i2 (show(kv2.map (·.2.2))[j]?=some v' by rw[AL,hj]; rfl);have hm':aZ k'=some x.1:=ok2.1 _ (AE hkj);have hwz:=gH zs
     have hws:kws (ks.take pre.length)<=kws ks:=by
      have:=kG (ks.take pre.length) (ks.drop pre.length); rw[Cc] at this; omega
     have hts:tws (us.take pre.length)<=tws us:=by
      have:=bZ (us.take pre.length) (us.drop pre.length); rw[Cc] at this; omega
     refine aX rfl (jX ?_);dsimp only[CEnds.wn];have np:p0≠p1:=fun z=>by rw[z,mp] at mo2; cases mo2
     have gk:∀o,Gr C (vQ C2 p1 o):=fun o=>cV g2 c1 o;have gk2:∀o o',Gr C (vQ (vQ C2 p1 o) p1 o'):=fun o o'=>cV (gk o) c1 o';have nd1:=gV e1 ok1;refine xZ ⟨dU mp,gM mo2 hm (p:=(k',k')) (by rw[aH,hf]; rfl) ⟨zS0 2 rfl,app_l mp (by rw[AD]; exact Aq (show zs.length<=4000 by omega) (by decide)) ?_⟩⟩;dsimp only[CEnds.wn];refine⟨dU zQ,gM (gk _ _ _ m1c) hm (p:=(x.2.1,x.2.2)) (cJ nd1 hx) (gM (gk _ _ _ m2c) hm (p:=(k',v')) hf ⟨zS0 2 rfl,app_l zQ (by rw[AM,AD]; exact Aq (show zs.length+1<=4001 by omega) (by decide)) ?_⟩)⟩
     refine hL' _ _ ⟨some x.2.1,zs++[((kT x.2.1,x.2.1),(kT k',k')),((t,x.2.2),(u,v'))],rfl,?_,?_,gk2 _ _,?_,?_,?_⟩
     .rw [oQ np,oQ np]; exact mo2
     .rw [zQ,Cw,Ap]; rfl
     .intro z hz'
      rcases AS.1 hz' with hz' | hz'
      .exact hz z hz'
      .rcases Ax.1 hz' with rfl | hz'
       .exact ⟨mD hm,mD hm'⟩
       .cases AW.1 hz'
        exact⟨it,iu⟩
     .constructor
      .intro h i t' k3 hi e3 e4
       rw[AM,Ak] at hi
       by_cases hi':i < pre.length
       .exact hA.1 (fun z hz=>h z (BO _ hz)) i t' k3 hi' e3 e4
       .have ei:i=pre.length:=by omega
        subst ei;rw[ht] at e3;cases e3;rw[hkx] at e4;cases e4;have k1:x.2.1=k':=Qu.1 (h ((kT x.2.1,x.2.1),(kT k',k')) (by simp));exact⟨j,u,by rw[hkj,k1],hu,h ((t,x.2.2),(u,v')) (by simp)⟩
      .intro h z hz
       rcases AS.1 hz with hz | hz
       .exact hA.2 (fun i t k hi e3 e4=>h i t k (by rw[AM]; omega) e3 e4) z hz
       .obtain ⟨j0,u0,b1,b2,b3⟩:=h pre.length t _ (by rw[AM,Ak]; omega) ht hkx
        have ej:=cN ok2.2 b1 hkj;subst ej;rw[hu] at b2;cases b2
        have ek:k'=x.2.1:=by
         have:=hkj.symm.trans b1;exact(Prod.mk.inj (Ao this)).2
        rcases Ax.1 hz with rfl | hz
        .exact Qu.2 ek.symm
        .cases AW.1 hz
         exact b3
     .rw [bH,AM,Ak,DV,DV,hkx,ht,kG,bZ]
      have w1:zw [((kT x.2.1,x.2.1),(kT k',k')),((t,x.2.2),(u,v'))]=kw x.2.1+tw t:=by
       unfold zw;rw[Aa,CQ,tws,tws,tws,eO,BG]
      have w2:kws (some (x.1,x.2.1)).toList=kw x.2.1:=by show kws [(x.1,x.2.1)]=_; rw[kws,kws,BG]
      have w3:tws (some t).toList=tw t:=by show tws [t]=_; rw[tws,tws,BG]
      rw[w1,w2,w3];omega
   .rintro ρ C2 ⟨k,zs,rfl,mo2,mp,g2,hz,hA,hW⟩
    refine⟨g2 _ _ m1c,hL _ _ ⟨zs,rfl,mp,g2,hz,hA.trans ⟨fun h i t k e3 e4=>h i t k (by rw[l1]; exact(AI.1 e4).1) e3 e4,fun h i t k _ e3 e4=>h i t k e3 e4⟩,?_⟩⟩;have:kv1.length=us.length:=by rw[kX i1,AD]
    rw[l1,DC,<- l1,this,DC] at hW;exact hW
  rintro ρ' C2 ⟨zs,hρ,mp,g2,hz,hA,hW⟩;show bJ 4 ρ' C2 _;unfold bJ;rw[hρ];refine q zs p1 C2 ?_ hz (by rw[tw]; omega) c1 mp g2;rw[hA,Al,<- xK];exact⟨fun⟨js',us',e,_,h⟩=>by cases e; exact h,fun h=>⟨js,vs,rfl,by omega,h⟩⟩
 .refine zJ (by rw[AR fun z=>hl (by omega)]; rfl) (qn (fun h=>?_) C Gr.refl)
  rw[Al] at h;obtain⟨js',us',e,h,_⟩:=h;cases e;omega
end
theorem bL {ys:List PV}{v m:Int}(e:(ys.length:Int)=m)(h0:0<=v)(h1:v < m):∃y∈ys,atI ys v=some y:=by
 have hk:v.toNat < ys.length:=by omega
 refine⟨ys[v.toNat],DD hk,?_⟩;have:=qV hk
 rwa [Int.toNat_of_nonneg h0] at this
def scB:PV->Prop
 |.non=>True
 |.bl _=>True
 |.int i=>-(10 ^ 40)<=i/\i<=10 ^ 40
 |.str z=>z.length<=100
 |_=>False
section
variable {W:Wd}{a:Adr}
inductive gSg (ts:List PV)(C:CH)(Q:K1):Prop
 |mk (t:Addr) (ns:List Int) (z0:ts=[.ref t]) (z1:Tp C t ns) (z2:∀y C',sc y=true->scB y->Tp C' t ns->Ex t C C'->Q y C'):gSg ts C Q
theorem eS (T:Tx W a):Ok W a 2 11 U6 gSg:=by
 have S:=(T.F 11 rfl).s;have gX:=tV T;refine(T.F 11 rfl).ok (fun ts C R h=>?_) fun cdv A outer s H E hr=>⟨_,(wQ (bQ (cx (zZ (qQ jQ (qQ jQ (qQ jQ (qQ (qS yF wG jQ) (qQ rZ (qQ rZ (qQ yK (qQ fQ (qQ fQ (qQ fQ (ca1 (zX tF gG jQ jQ))))))))))))) (cf (T.F 5 rfl) gX hr (qQ (cv 0) (ca1 jQ)))))),?_⟩
 .obtain ⟨t,ns,rfl,_⟩:=h; rfl
 rintro ts C R ⟨t,ns,rfl,hT,q⟩;refine⟨⟨by decide,by decide,by decide⟩,?_⟩;refine⟨zS0 11 rfl,fun p hp=>?_⟩
 have np:p≠t:=fun z=>by
  obtain⟨⟨i,j,k,e,_⟩,_⟩:=hT;rw[z,e] at hp;cases hp
 have T1:Tp (vQ C p (.lst [.int 0,.int 1,.int 2,.int (-1),.bl true,.bl false,.non,.str "",.str "a",.str "ab",.int (10 ^ 30)])) t ns:=by
  obtain⟨⟨i,j,k,e,r⟩,h2⟩:=hT;exact⟨⟨i,j,k,by rw[oQ (Ne.symm np)]; exact e,r⟩,h2⟩
 refine⟨t,11,ns,rfl,T1,by decide,by decide,fun v C1 v0 v1 T2 e2=>?_⟩;obtain⟨y,hy,ey⟩:=bL (ys:=[.int 0,.int 1,.int 2,.int (-1),.bl true,.bl false,.non,.str "",.str "a",.str "ab",.int (10 ^ 30)]) rfl v0 v1;refine yZ (e2 p _ np zQ) ey (q y C1 ?_ ?_ T2 ((Ex.new hp _).trans e2))
 .exact (by simp[sc]:∀y∈([.int 0,.int 1,.int 2,.int (-1),.bl true,.bl false,.non,.str "",.str "a",.str "ab",.int (10 ^ 30)]:List PV),sc y=true) y hy
 .simp only[List.mem_cons,List.not_mem_nil,or_false] at hy
  rcases hy with rfl | rfl | rfl | rfl | rfl | rfl | rfl | rfl | rfl | rfl | rfl
  all_goals first | trivial | exact⟨by decide,by decide⟩ | (show _<=100; decide)
end
mutual
def dp:Tr->Nat
 |.sg _=>1
 |.tup ts=>1+dps ts
 |.lst ts=>1+dps ts
 |.dct _ ts=>1+max 2 (dps ts)
def dps:List Tr->Nat
 |[]=>0
 |t::ts=>max (dp t) (dps ts)
end
theorem rD:∀{ts:List Tr}{i:Nat}{t:Tr},ts[i]?=some t->dp t<=dps ts
 |[],i,t,e=>by simp at e
 |u::ts,i,t,e=>by
  rw[dps]
  cases i with
  |zero=>cases e; omega
  |succ i=>have:=rD (show ts[i]?=some t from e); omega
theorem nI:∀xs:List PV,dps (xs.map .sg)<=1
 |[]=>by rw[Bx,dps]; omega
 |x::xs=>by rw[Aa,dps,dp]; have:=nI xs; omega
theorem dp_kT (x:PV):dp (kT x)<=2:=by
 cases x with
 |tup xs=>show dp (.tup (xs.map .sg))<=2; rw[dp]; have:=nI xs; omega
 |_=>show dp (.sg _)<=2; rw[dp]; omega
theorem rV {α:Type}{S:CH->Prop}{t:TCT}{c:TCE}{ρ:CSt}{Q:K1}(f:α->PV)(P:α->Bool)(C0:CH)(all:List α)(hS:∀C',Gr C0 C'->S C')
  (ht:∀x∈all,∀C' (R':Bool->CH->Prop),Gr C0 C'->(∀C'',Gr C' C''->R' (P x) C'')->t (some (f x)::ρ) C' R') (hc:∀x C' (R':K1),R' x C'->c (some x::ρ) C' R') :
  ∀(ps:List α) (acc:List PV) (C':CH),(∀x∈ps,x∈all)->Gr C0 C'->acc.length+ps.length<=4000->(∀p C'',Gr C0 C''->C'' p=none->Q (.ref p) (vQ C'' p (.lst (acc++(ps.filter P).map f))))->xW S t c ρ Q (ps.map f) acc C'
 |[],acc,C',_,g,_,fin=>⟨hS C' g,fun p hp=>by simpa using fin p C' g hp⟩
 |x::ps,acc,C',hm,g,hl,fin=>by
  refine⟨hS C' g,ht x (hm x AQ) C' _ g fun C'' g'=>?_⟩;rw[Ai] at hl
  cases hP:P x with
  |true =>
   refine hc _ _ _ ⟨Aq (show acc.length<=4000 by omega) (by decide),?_⟩;refine rV f P C0 all hS ht hc ps (acc++[f x]) C'' (fun y hy=>hm y (AO _ hy)) (g.trans g') (by rw[AM,Ak]; omega) fun p C3 g3 hp=>?_;have:=fin p C3 g3 hp;rw[Bs hP,Aa] at this;rw[Cw];exact this
  |false =>
   refine rV f P C0 all hS ht hc ps acc C'' (fun y hy=>hm y (AO _ hy)) (g.trans g') (by omega) fun p C3 g3 hp=>?_;have:=fin p C3 g3 hp;rw[Bt (by rw[hP]; exact AJ)] at this;exact this
theorem compM_i {i:Nat}{d:Addr}{o:Obj}{kvs:List (gQ×PV×PV)}{t:TCT}{c:TCE}{ρ:CSt}{C:CH}{Q:K1}(hv:ρ[i]?=some (some (.ref d)))(m:C d=some (.dM o kvs))(h:xW (fun C=>C d=some (.dM o kvs)) t c ρ Q (kvs.map (·.2.1)) [] C):uL (bJ i) t c ρ C Q:=by
 unfold uL bJ;rw[hv];dsimp only;rw[m];exact h
theorem nU {k:PV}:∀{kvs:List (gQ×PV×PV)},(kvs.map (·.2.1)).Nodup->k∈kvs.map (·.2.1)->(kvs.filter fun p=>@decide (k=p.2.1) (Classical.propDecidable _)).map (·.2.1)=[k]
 |[],_,h=>nomatch h
 |p::l,nd,h=>by
  obtain⟨n1,n2⟩:=BE.1 (show(p.2.1::l.map (·.2.1)).Nodup from nd)
  by_cases e:k=p.2.1
  .rw [List.filter_cons,A4 ((@decide_eq_true_iff _ (Classical.propDecidable _)).2 e),Aa,<- e]
   have:(l.filter fun p=>@decide (k=p.2.1) (Classical.propDecidable _))=[]:=by
    rw[List.filter_eq_nil_iff];intro q hq hd;have hd:=(@decide_eq_true_iff _ (Classical.propDecidable _)).1 hd;exact n1 (by rw[<- e,hd]; exact Ae.2 ⟨q,hq,rfl⟩)
   rw[this]
   rfl
  .rw [List.filter_cons,Av (fun z=>e ((@decide_eq_true_iff _ (Classical.propDecidable _)).1 z))]
   refine nU n2 ?_
   rcases Ax.1 (show k∈p.2.1::l.map (·.2.1) from h) with h | h
   .exact absurd h e
   .exact h
theorem pv_nd {kvs:List (gQ×PV×PV)}{ks:List (gQ×PV)}(e:jJ kvs=ks)(ok:gZ ks):(kvs.map (·.2.1)).Nodup:=by
 have nd:=gV e ok;rw[List.Nodup,List.pairwise_map] at nd ⊢;refine List.Pairwise.imp_of_mem (fun {a b} ha hb hab z=>hab ?_) nd;have h1:=ok.1 (a.1,a.2.1) (by rw[<- e]; exact Ae.2 ⟨a,ha,rfl⟩);have h2:=ok.1 (b.1,b.2.1) (by rw[<- e]; exact Ae.2 ⟨b,hb,rfl⟩);have h1:aZ a.2.1=some a.1:=h1;have h2:aZ b.2.1=some b.1:=h2;rw[z,h2] at h1;exact(Ao h1).symm
theorem oO {kvs:List (gQ×PV×PV)}{ks:List (gQ×PV)}(e:jJ kvs=ks)(ok:gZ ks){j:Nat}{m:gQ}{k:PV}(h:ks[j]?=some (m,k)):(kvs.filter fun p=>@decide (k=p.2.1) (Classical.propDecidable _)).map (·.2.1)=[k]:=by
 obtain⟨v,hv⟩:=vD e h;exact nU (pv_nd e ok) (Ae.2 ⟨_,AE hv,rfl⟩)
theorem sO {kvs:List (gQ×PV×PV)}{ks:List (gQ×PV)}(e:jJ kvs=ks){k:PV}(h:∀(j:Nat) (m:gQ),ks[j]?≠some (m,k)):(kvs.filter fun p=>@decide (k=p.2.1) (Classical.propDecidable _)).map (·.2.1)=[]:=by
 rw[List.map_eq_nil_iff,List.filter_eq_nil_iff];intro p hp hd;have hd:=(@decide_eq_true_iff _ (Classical.propDecidable _)).1 hd;obtain⟨j,hj⟩:=AZ.1 hp;have:=cW e hj;exact h j p.1 (by rw[this,hd])
theorem rP:∀bs:List Bool,eK (bs.map PV.bl)=some (bs.map V.bl)
 |[]=>rfl
 |b::bs=>by
  show(match nM (.bl b),eK (bs.map PV.bl) with | some v,some vs=>some (v::vs) | _,_=>none)=_;rw[rP bs]
  rfl
theorem cM:∀bs:List Bool,(!inV (.bl false) (bs.map V.bl))=bs.all id
 |[]=>rfl
 |b::bs=>by
  have h:=cM bs;unfold inV at h ⊢;rw[Aa,List.any_cons,DA,<- h];cases b<;>rfl
theorem cA {C:CH}{p:Addr}{Q:K1}{bs:List Bool}(m:C p=some (.lst (bs.map PV.bl)))(q:Q (.bl (bs.all id)) C):uO true (.bl false) (.ref p) C Q:=by
 refine inS_s ?_ rfl (rP bs) ?_
 .show (match C p with | some (.lst xs)=>some xs | _=>none)=_
  rw[m]
 .rwa [A4 rfl,cM]
theorem lU {C:CH}{x:Str}{Q:K1}{ss:List Str}(q:Q (.bl (decide (x∈ss))) C):uO false (.str x) (.tup (ss.map PV.str)) C Q:=by
 have f:∀ss:List Str,eK (ss.map PV.str)=some (ss.map V.str):=fun ss=>by
  induction ss with
  |nil=>rfl
  |cons s ss ih =>
   show(match nM (.str s),eK (ss.map PV.str) with | some v,some vs=>some (v::vs) | _,_=>none)=_;rw[ih]
   rfl
 apply inS_s rfl rfl (f ss)
 have e:inV (.str x) (ss.map V.str)=decide (x∈ss):=by
  delta inV
  rw[List.any_map,BJ,List.any_eq_true,Bw];refine⟨fun⟨y,hy,e⟩=>?_,fun h=>⟨x,h,beq_self_eq_true x⟩⟩;have e:=e
  rwa [<- eq_of_beq e]
 rwa [e]
theorem kD:∀{ks:List (gQ×PV)}{i:Nat}{k:gQ×PV},ks[i]?=some k->kw k.2<=kws ks
 |[],i,k,e=>by simp at e
 |u::ks,i,k,e=>by
  rw[kws]
  cases i with
  |zero=>cases e; omega
  |succ i=>have:=kD (show ks[i]?=some k from e); omega
section
variable {W:Wd}{a:Adr}
inductive gAl (d:Nat)(ts:List PV)(C:CH)(Q:K1):Prop
 |mk (x y:PV) (t u:Tr) (N:Addr->Prop) (z0:ts=[x,y]) (z1:Is C N t x) (z2:Is C N u y) (z3:dp t<=d) (z4:tw t<=4000/\tw u<=4000) (z5:∀b C',(b=true↔Al t u)->Gr C C'->Q (.bl b) C'):gAl d ts C Q
end
section
variable {W:Wd}{a:Adr}
theorem xN (T:Tx W a)(d r:Nat)(hr1:1<=r)(lK:Ok W a r 7 U1 (gAl d)):Ok W a (r+1) 7 U1 (gAl (d+1)):=by
 have S:=(T.F 7 rfl).s;have uH:=(fA T).mono (show 1<=r by omega)
 refine(T.F 7 rfl).ok (fun ts C R h=>?_) fun cdv A outer s H E hr=>⟨_,(xQ (cs1 2 S.nd (cf (T.F 6 rfl) uH hr (ca1 (cv 0))))
  (xQ (aQ (ct2 kM bY (cv 2) (cf (T.F 6 rfl) uH hr (ca1 (cv 1)))) (wQ (bQ rZ)) dQ)
  (xQ (aQ (ct2 cZ pX (cv 2) fQ) (wQ (tD PassesOwn.never rfl (cv 0) (cg1 3 S.nd) (xQ (aI (i:=4) S.nd rfl (Or.inl rfl) rfl (S.c (by decide +kernel)) (S.k rfl rfl rfl (by decide +kernel)) (cv 1) (fun _ _ _ _ _=>(cf_one (bX (cf (T.F 7 rfl) lK hr (qQ (cv 4) (ca1 (cv 0))))))) (fun _ _ _ _ _=>(cv 0)))
  (wQ (aQ (cw_pt (cw_or (ct2 kM bY (cln T.mJ (cv 4)) jQ) (cw_or1 (hV (bX (cf (T.F 7 rfl) lK hr (qQ (cxm (jV hr) (cv 0) (cv 3)) (ca1 (cxm (jV hr) (cv 1) (cx (cv 4) jQ)))))))))) (wQ (bQ rZ)) dQ))))) dQ)
  (xQ (aQ (cw_pt (cw_and (oD wM eD (cv 2) (fX (qQ fQ (qQ fQ (ca1 fQ)))) rfl) (cw_and1 (ct2 kM bY (xC T.mJ (cv 0)) (xC T.mJ (cv 1)))))) (wQ (bQ rZ)) dQ)
  (xQ (aQ (oD wM eD (cv 2) (fX (qQ fQ (ca1 fQ))) rfl) (wQ (bQ (qB eF eD rZ (ce_comp rfl (S.c (by decide +kernel)) (S.k rfl rfl rfl (by decide +kernel)) (kC rfl T.uW (ca1 (xC T.mJ (cv 0)))) (fun _ _ _ _ _=>zL) (fun _ _ _ _ _=>(cf (T.F 7 rfl) lK hr (qQ (cx (cv 1) (cv 0)) (ca1 (cx (cv 2) (cv 0))))))) rfl))) dQ)
  (wQ (bQ (ce_or (qB cZ pX (cv 2) fQ (yU _)) (Qg (qB cZ pX (cv 0) (cv 1) (yU _))))))))))),?_⟩
 .obtain ⟨_,_,_,_,_,rfl,_⟩:=h; rfl
 rintro ts C R ⟨x,y,t,u,N,rfl,hx,hy,hd,hw,q⟩;have hn:=pV hx;have hm:=pV hy;refine cQ ⟨x,_,rfl,hn,fun C1 g1=>⟨y,_,rfl,uF hm g1,fun C2 g2=>?_⟩⟩;have g:=g1.trans g2
 apply oX (eX _ _)
 by_cases e:sX t=sX u
 .refine aX (by rw[Aw (by rw[e])]; rfl) (jX ?_)
  dsimp only[CEnds.wn];have ne:∀k,sX t≠k->bK (sX t)≠bK k:=fun k h z=>h (mM z);refine tQ (fun ρ' C'=>(∃k tw',ρ'=[some x,some y,some (.str (bK (sX t))),k,tw'])/\Gr C C'/\∀ks ts' js us',t=.dct ks ts'->u=.dct js us'->∀(i:Nat) (tt:Tr) (k:gQ×PV),ts'[i]?=some tt->ks[i]?=some k->∃(j:Nat) (uu:Tr),js[j]?=some k/\us'[j]?=some uu/\Al tt uu) (fun L hL=>?_) ?_
  .by_cases hdct:sX t=.dct
   .cases t with
    |dct ks ts' =>
     cases u with
     |dct js us' =>
      have hx':=hx;have hy':=hy;rw[Is] at hx' hy';obtain⟨a1,o1,kv1,rfl,n1,m1,e1,ok1,i1⟩:=hx';obtain⟨a2,o2,kv2,rfl,n2,m2,e2,ok2,i2⟩:=hy';rw[dp] at hd;have hw1:=hw.1;have hw2:=hw.2;rw[tw] at hw1 hw2;have hk1:=dW ks;have hk2:=dW js;have l1:kv1.length=ks.length:=by rw[<- e1,AD]
      have l2:kv2.length=js.length:=by rw[<- e2,AD]
      refine oX (eX _ _) (zJ rfl ?_);refine sN rfl (g _ _ m1) (uK (·.2.1) kv1 (fun pre ρ' C'=>(∃k tw',ρ'=[some (.ref a1),some (.ref a2),some (.str (bK .dct)),k,tw'])/\Gr C C'/\∀(i:Nat) (tt:Tr) (k:gQ×PV),i < pre.length->ts'[i]?=some tt->ks[i]?=some k->∃(j:Nat) (uu:Tr),js[j]?=some k/\us'[j]?=some uu/\Al tt uu) ?_ ?_ kv1 [] _ _ rfl ⟨⟨none,none,rfl⟩,g,fun i tt k h=>absurd h (DO _)⟩)
      .rintro pre x lQ ρ C3 ea ⟨⟨k,tw',rfl⟩,g3,hP⟩
       refine⟨g3 _ _ m1,fun L' hL'=>?_⟩;have hx:kv1[pre.length]?=some x:=by rw[ea,A8 (AG _),Nat.sub_self]; rfl
       have hkx:=cW e1 hx;have hm:aZ x.2.1=some x.1:=ok1.1 _ (AE hkx);obtain⟨t,ht,it⟩:=hX i1 (show(kv1.map (·.2.2))[pre.length]?=some x.2.2 by rw[AL,hx]; rfl);have m2':=g3 _ _ m2;refine cQ (compM_i rfl m2' (rV (·.2.1) (fun p=>@decide (x.2.1=p.2.1) (Classical.propDecidable _)) C3 kv2 (fun C' g'=>g' _ _ m2') (fun p hp C' R' g' hR=>?_) (fun y C' R' h=>h) kv2 [] C3 (fun _ h=>h) Gr.refl (by rw[Bi]; omega) fun p5 C4 g4 h5=>?_))
       .obtain ⟨jp,hjp⟩:=AZ.1 hp
        have hkp:=cW e2 hjp;have hm2:aZ p.2.1=some p.1:=ok2.1 _ (AE hkp);refine⟨x.2.1,p.2.1,kT x.2.1,kT p.2.1,N,rfl,mD hm,mD hm2,by have:=dp_kT x.2.1; omega,⟨by rw[eO]; have:=kD hkx; dsimp only at this; omega,by rw[eO]; have:=kD hkp; dsimp only at this; omega⟩,fun b C5 hb g5=>?_⟩
        have eb:@decide (x.2.1=p.2.1) (Classical.propDecidable _)=b:=by
         rw[BJ,hb,@decide_eq_true_iff _ (Classical.propDecidable _),Qu]
        have:=hR C5 g5;rw[eb] at this;exact this
       .rw [Ck]
        have gg:=g3.trans g4
        by_cases hin:∃(j:Nat) (m:gQ),js[j]?=some (m,x.2.1)
        .obtain ⟨j,m,hj⟩:=hin
         rw[oO e2 ok2 hj]
         have c5:C p5=none:=by
          cases z:C p5 with
          |none=>rfl
          |some o=>rw[gg _ _ z] at h5; cases h5
         have gp:Gr C (vQ C4 p5 (.lst [x.2.1])):=cV gg c5 _;obtain⟨v',hv⟩:=vD e2 hj
         have em:m=x.1:=by
          have h2:aZ x.2.1=some m:=ok2.1 _ (AE hj);rw[hm] at h2;exact(Ao h2).symm
         subst em;obtain⟨uu,hu,iu⟩:=hX i2 (show(kv2.map (·.2.2))[j]?=some v' by rw[AL,hv]; rfl);refine uU zQ (oX (vX _ _) (aX rfl ?_));refine gM (gp _ _ m1) hm (p:=(x.2.1,x.2.2)) (cJ (gV e1 ok1) hx) ?_;refine yZ zQ rfl (gM (gp _ _ m2) hm (p:=(x.2.1,v')) (cJ (gV e2 ok2) hv) ?_);refine⟨x.2.2,v',t,uu,N,rfl,uZ (GrN.gr gp) it,uZ (GrN.gr gp) iu,by have:=rD ht; omega,⟨by have:=nJ (AE ht); omega,by have:=nJ (AE hu); omega⟩,fun b C6 hb g6=>?_⟩
         cases b with
         |true =>
          refine iF (jX (hL' _ _ ⟨⟨some x.2.1,some (.ref p5),rfl⟩,gp.trans g6,fun i tt k hi b3 b4=>?_⟩));rw[AM,Ak] at hi
          by_cases hi':i < pre.length
          .exact hP i tt k hi' b3 b4
          .have ei:i=pre.length:=by omega
           subst ei;rw[ht] at b3;cases b3;rw[hkx] at b4;cases b4;exact⟨j,uu,hj,hu,hb.1 rfl⟩
         |false =>
          refine wA (q false C6 ⟨(fun z=>nomatch z),fun h=>?_⟩ (gp.trans g6));rw[Al] at h;obtain⟨js',us1,e,_,h⟩:=h;cases e;obtain⟨j0,u0,b1,b2,b3⟩:=xK.1 h _ t _ ht hkx;have ej:=cN ok2.2 b1 hj;subst ej;rw[hu] at b2;cases b2;exact hb.2 b3
        .rw [sO e2 (k:=x.2.1) fun j m z=>hin ⟨j,m,z⟩]
         have c5:C p5=none:=by
          cases z:C p5 with
          |none=>rfl
          |some o=>rw[gg _ _ z] at h5; cases h5
         refine uU zQ (oX (vX _ _) (zJ rfl (gI rfl (q false _ ⟨(fun z=>nomatch z),fun h=>?_⟩ (cV gg c5 _)))));rw[Al] at h;obtain⟨js',us1,e,_,h⟩:=h;cases e;obtain⟨j0,u0,b1,_⟩:=xK.1 h _ t _ ht hkx;exact(hin ⟨j0,_,b1⟩).elim
      .rintro ρ C3 ⟨⟨k,tw',rfl⟩,g3,hP⟩
       exact⟨g3 _ _ m1,hL _ _ ⟨⟨k,tw',rfl⟩,g3,fun ks' ts1 js' us1 b1 b2=>by cases b1; cases b2; exact fun i tt k b3 b4=>hP i tt k (by rw[l1]; exact(AI.1 b4).1) b3 b4⟩⟩
     |sg z=>exact absurd e (by cases z<;>exact fun e=>nomatch e)
     |_=>cases e
    |sg z=>exact absurd hdct (by cases z<;>exact fun e=>nomatch e)
    |_=>cases hdct
   .exact oX (eX _ _) (aX (AR (ne .dct hdct)) (jX (hL _ _ ⟨⟨none,none,rfl⟩,g,fun ks ts' js us' e1=>by subst e1; exact absurd rfl hdct⟩)))
  rintro ρ' C3 ⟨⟨k,tw',rfl⟩,g3,hD⟩;refine xZ ⟨by decide,lU (ss:=["tuple","list","dict"]) ?_⟩
  cases t with
  |sg z =>
   cases u with
   |sg z' =>
    rw[Is] at hx hy;obtain⟨rfl,sx⟩:=hx;obtain⟨rfl,sy⟩:=hy;obtain⟨n1,n2,n3,b,e1,e2⟩:=sc_eq sx (e▸hm) hn;refine aX (AR fun z=>?_) (aY rfl (jX ?_))
    .simp only[List.mem_cons,List.not_mem_nil,or_false] at z
     rcases z with z | z | z
     .exact ne .tup n1 z
     .exact ne .lst n2 z
     .exact ne .dct n3 z
    dsimp only[CEnds.wn];refine xZ ⟨by decide,lU (ss:=["tuple","list"]) (aX (AR fun z=>?_) (jX ?_))⟩
    .simp only[List.mem_cons,List.not_mem_nil,or_false] at z
     rcases z with z | z
     .exact ne .tup n1 z
     .exact ne .lst n2 z
    refine oX (eX _ _) (aX (AR (ne .dct n3)) (oX e1 (q b C3 ?_ g3)));rw[Al,e2];exact⟨fun z=>by rw[z],fun z=>by cases z; rfl⟩
   |_=>exact absurd e (by cases z<;>exact fun e=>nomatch e)
  |tup ts =>
   cases u with
   |tup us =>
    rw[Is] at hx hy;obtain⟨xs,rfl,ix⟩:=hx;obtain⟨ys,rfl,iy⟩:=hy;have l1:=kX ix;have l2:=kX iy;rw[dp] at hd;rw[tw] at hw;have hu:=hw.2;rw[tw] at hu;have hlen:=iJ ts;refine zJ (show decide (bK .tup∈(["tuple","list","dict"]:List Str))=true by decide +kernel) (gU <| gU (oX (vX _ _) ?_))
    by_cases el:xs.length=ys.length
    .refine aX (by rw[Aw (by rw[el])]; rfl) (jX ?_)
     dsimp only[CEnds.wn];refine xZ ⟨by decide,lU (ss:=["tuple","list"]) (zJ (show decide (bK .tup∈(["tuple","list"]:List Str))=true by decide +kernel) ?_)⟩;refine gU ⟨by omega,by omega,?_⟩;refine iD (fun t=>match t with | .int i=>.bl (@decide (∀tt uu,ts[i.toNat]?=some tt->us[i.toNat]?=some uu->Al tt uu) (Classical.propDecidable _)) | _=>.non) _ [] C3 Gr.refl (by rw[Bi,AD,BU]; show _<=16777216; omega) (fun t hm C4 Q' g4 hq4=>?_) fun p C4 _ g4 m4=>?_
     .obtain ⟨k,hk,rfl⟩:=Ae.1 hm
      rw[Ca] at hk;have hk1:k < xs.length:=by omega
      have hk2:k < ys.length:=by omega
      obtain⟨tt,e1,i1⟩:=hX ix (AH hk1);obtain⟨uu,e2,i2⟩:=hX iy (AH hk2);have gg:=g3.trans g4;refine ix_t (qV hk1) (ix_t (qV hk2) ?_);refine⟨xs[k],ys[k],tt,uu,N,rfl,uZ (GrN.gr gg) i1,uZ (GrN.gr gg) i2,by have:=rD e1; omega,⟨by have:=nJ (AE e1); omega,by have:=nJ (AE e2); omega⟩,fun b C5 hb g5=>?_⟩
      have eb:@decide (∀tt uu,ts[k]?=some tt->us[k]?=some uu->Al tt uu) (Classical.propDecidable _)=b:=by
       rw[BJ,hb,@decide_eq_true_iff _ (Classical.propDecidable _)];exact⟨fun h=>h tt uu e1 e2,fun h tt' uu' b1 b2=>by rw[e1] at b1; rw[e2] at b2; cases b1; cases b2; exact h⟩
      have:=hq4 C5 g5;dsimp only at this
      rwa [show((k:Int)).toNat=k from B4 k,eb] at this
     .refine cA (bs:=(List.range xs.length).map fun k=>@decide (∀tt uu,ts[k]?=some tt->us[k]?=some uu->Al tt uu) (Classical.propDecidable _)) (by
       rw[m4,Ck,Bo,Bo,B4]
       rfl) ?_
      refine q _ C4 ?_ (g3.trans g4);rw[DF,Al]
      constructor
      .intro h
       refine⟨us,rfl,jZ.2 ⟨by omega,fun i tt uu b1 b2=>?_⟩⟩;have hi:i < xs.length:=by rw[<- l1]; exact(AI.1 b1).1
       have:=h _ (Ae.2 ⟨i,Ca.2 hi,rfl⟩);exact(@decide_eq_true_iff _ (Classical.propDecidable _)).1 this tt uu b1 b2
      .rintro ⟨us',e,h⟩ b hb
       cases e;obtain⟨k,_,rfl⟩:=Ae.1 hb;exact(@decide_eq_true_iff _ (Classical.propDecidable _)).2 fun tt uu b1 b2=>(jZ.1 h).2 k tt uu b1 b2
    .refine zJ (by rw[AR fun z=>el (by omega)]; rfl) (q false C3 ⟨(fun z=>nomatch z),fun h=>?_⟩ g3)
     rw[Al] at h;obtain⟨us',e,h⟩:=h;cases e;have:=(jZ.1 h).1;omega
   |sg z=>exact absurd e (by cases z<;>exact fun e=>nomatch e)
   |_=>cases e
  |lst ts =>
   cases u with
   |lst us =>
    rw[Is] at hx hy;obtain⟨b1,xs,rfl,_,m1,ix⟩:=hx;obtain⟨b2,ys,rfl,_,m2,iy⟩:=hy;have l1:=kX ix;have l2:=kX iy;rw[dp] at hd;rw[tw] at hw;have hu:=hw.2;rw[tw] at hu;have hlen:=iJ ts;refine zJ (show decide (bK .lst∈(["tuple","list","dict"]:List Str))=true by decide +kernel) (bU (g3 _ _ m1) <| bU (g3 _ _ m2) (oX (vX _ _) ?_))
    by_cases el:xs.length=ys.length
    .refine aX (by rw[Aw (by rw[el])]; rfl) (jX ?_)
     dsimp only[CEnds.wn];refine xZ ⟨by decide,lU (ss:=["tuple","list"]) (zJ (show decide (bK .lst∈(["tuple","list"]:List Str))=true by decide +kernel) ?_)⟩;refine bU (g3 _ _ m1) ⟨by omega,by omega,?_⟩;refine iD (fun t=>match t with | .int i=>.bl (@decide (∀tt uu,ts[i.toNat]?=some tt->us[i.toNat]?=some uu->Al tt uu) (Classical.propDecidable _)) | _=>.non) _ [] C3 Gr.refl (by rw[Bi,AD,BU]; show _<=16777216; omega) (fun t hm C4 Q' g4 hq4=>?_) fun p C4 _ g4 m4=>?_
     .obtain ⟨k,hk,rfl⟩:=Ae.1 hm
      rw[Ca] at hk;have hk1:k < xs.length:=by omega
      have hk2:k < ys.length:=by omega
      obtain⟨tt,e1,i1⟩:=hX ix (AH hk1);obtain⟨uu,e2,i2⟩:=hX iy (AH hk2);have gg:=g3.trans g4;refine yZ (gg _ _ m1) (qV hk1) (yZ (gg _ _ m2) (qV hk2) ?_);refine⟨xs[k],ys[k],tt,uu,N,rfl,uZ (GrN.gr gg) i1,uZ (GrN.gr gg) i2,by have:=rD e1; omega,⟨by have:=nJ (AE e1); omega,by have:=nJ (AE e2); omega⟩,fun b C5 hb g5=>?_⟩
      have eb:@decide (∀tt uu,ts[k]?=some tt->us[k]?=some uu->Al tt uu) (Classical.propDecidable _)=b:=by
       rw[BJ,hb,@decide_eq_true_iff _ (Classical.propDecidable _)];exact⟨fun h=>h tt uu e1 e2,fun h tt' uu' b1 b2=>by rw[e1] at b1; rw[e2] at b2; cases b1; cases b2; exact h⟩
      have:=hq4 C5 g5;dsimp only at this
      rwa [show((k:Int)).toNat=k from B4 k,eb] at this
     .refine cA (bs:=(List.range xs.length).map fun k=>@decide (∀tt uu,ts[k]?=some tt->us[k]?=some uu->Al tt uu) (Classical.propDecidable _)) (by
       rw[m4,Ck,Bo,Bo,B4]
       rfl) ?_
      refine q _ C4 ?_ (g3.trans g4);rw[DF,Al]
      constructor
      .intro h
       refine⟨us,rfl,jZ.2 ⟨by omega,fun i tt uu b1 b2=>?_⟩⟩;have hi:i < xs.length:=by rw[<- l1]; exact(AI.1 b1).1
       have:=h _ (Ae.2 ⟨i,Ca.2 hi,rfl⟩);exact(@decide_eq_true_iff _ (Classical.propDecidable _)).1 this tt uu b1 b2
      .rintro ⟨us',e,h⟩ b hb
       cases e;obtain⟨k,_,rfl⟩:=Ae.1 hb;exact(@decide_eq_true_iff _ (Classical.propDecidable _)).2 fun tt uu b1 b2=>(jZ.1 h).2 k tt uu b1 b2
    .refine zJ (by rw[AR fun z=>el (by omega)]; rfl) (q false C3 ⟨(fun z=>nomatch z),fun h=>?_⟩ g3)
     rw[Al] at h;obtain⟨us',e,h⟩:=h;cases e;have:=(jZ.1 h).1;omega
   |sg z=>exact absurd e (by cases z<;>exact fun e=>nomatch e)
   |_=>cases e
  |dct ks ts =>
   cases u with
   |dct js us =>
    rw[Is] at hx hy;obtain⟨a1,o1,kv1,rfl,n1,m1,e1,ok1,i1⟩:=hx;obtain⟨a2,o2,kv2,rfl,n2,m2,e2,ok2,i2⟩:=hy;have l1:kv1.length=ks.length:=by rw[<- e1,AD]
    have l2:kv2.length=js.length:=by rw[<- e2,AD]
    refine zJ (show decide (bK .dct∈(["tuple","list","dict"]:List Str))=true by decide +kernel) (xD (g3 _ _ m1) (xD (g3 _ _ m2) (oX (vX _ _) ?_)))
    by_cases hl:kv1.length=kv2.length
    .refine aX (by rw[Aw (by rw[hl])]; rfl) (jX ?_)
     dsimp only[CEnds.wn];refine xZ ⟨by decide,lU (ss:=["tuple","list"]) (aX (show decide (bK .dct∈(["tuple","list"]:List Str))=false by decide +kernel) (jX ?_))⟩;refine oX (eX _ _) (zJ rfl (q true C3 ⟨fun _=>?_,fun _=>rfl⟩ g3));rw[Al];exact⟨js,us,rfl,by omega,xK.2 (hD ks ts js us rfl rfl)⟩
    .refine zJ (by rw[AR fun z=>hl (by omega)]; rfl) (q false C3 ⟨(fun z=>nomatch z),fun h=>?_⟩ g3)
     rw[Al] at h;obtain⟨js',us',e,h,_⟩:=h;cases e;omega
   |sg z=>exact absurd e (by cases z<;>exact fun e=>nomatch e)
   |_=>cases e
 .exact zJ (by rw[AR fun z=>e (mM z)]; rfl) (q false C2 ⟨(fun z=>nomatch z),fun h=>(e (al_ty h)).elim⟩ g)
theorem fW {G:GC}{r:Nat}{f:Addr}{fd:FuncData}{ps:List Str}(h:∀ts C Q,¬ G ts C Q):FnOk W.P W.w W.K W.mg W.base CX0 r f fd ps (spC W.K G) :=
 ⟨fun vs H Q E zz=>qX zz fun ts C R _ _ z _=> (h _ _ _ z).elim,fun _ _ _ _ _ _ _ _ _ _ _ _ _ zz=>qX zz fun ts C R _ _ z _=> (h _ _ _ z).elim⟩
theorem lD (t:Tr):1<=dp t:=by cases t<;>(unfold dp; omega)
theorem aS (T:Tx W a)(d:Nat):Ok W a (d+2) 7 U1 (gAl d):=by
 induction d with
 |zero=>exact fW fun ts C Q ⟨_,_,t,_,_,_,_,_,h,_,_⟩=>absurd (lD t) (by omega)
 |succ d ih=>exact xN T d (d+2) (Nat.succ_pos _) ih
end
theorem Tp.new {C:CH}{t p:Addr}{ns:List Int}(h:Tp C t ns)(hp:C p=none)(o:CO):Tp (vQ C p o) t ns:=by
 obtain⟨⟨i,j,k,e,r⟩,h2⟩:=h;exact⟨⟨i,j,k,Gr.new hp o _ _ e,r⟩,h2⟩
theorem Tp.ne {C:CH}{t p:Addr}{ns:List Int}(h:Tp C t ns)(hp:C p=none):p≠t:=fun z=>by
 obtain⟨⟨i,j,k,e,r⟩,h2⟩:=h;rw[z,e] at hp;cases hp
theorem Tp.put {C:CH}{t p:Addr}{ns:List Int}(h:Tp C t ns)(hp:p≠t)(o:CO):Tp (vQ C p o) t ns:=by
 obtain⟨⟨i,j,k,e,r⟩,h2⟩:=h;exact⟨⟨i,j,k,by rw[oQ (Ne.symm hp)]; exact e,r⟩,h2⟩
theorem Tp.gr {C C':CH}{t:Addr}{ns:List Int}(h:Tp C t ns)(g:Gr C C'):Tp C' t ns:=by
 obtain⟨⟨i,j,k,e,r⟩,h2⟩:=h;exact⟨⟨i,j,k,g _ _ e,r⟩,h2⟩
theorem Tp.sm {C:CH}{t:Addr}{ns:List Int}(h:Tp C t ns):C t≠none:=by
 obtain⟨⟨i,j,k,e,r⟩,h2⟩:=h;rw[e];exact fun z=>nomatch z
theorem Ex.gr {t:Addr}{C C':CH}(g:Gr C C'):Ex t C C':=fun b o _ e=>g b o e
theorem Ex.nn {t p:Addr}{C C':CH}(h:Ex t C C')(n:p≠t)(hp:C' p=none):C p=none:=by
 cases e:C p with
 |none=>rfl
 |some o=>rw[h p o n e] at hp; cases hp
theorem Ex.put {t p:Addr}{C C':CH}(h:Ex t C C')(hp:C p=none)(o:CO):Ex t C (vQ C' p o):=fun b u n e=>by
 rw[oQ (fun z=>by subst z; rw[hp] at e; cases e)];exact h b u n e
def Lv (N:Addr->Prop)(C:CH):Prop:=∀a,N a->C a≠none
theorem Lv.gr {N:Addr->Prop}{C C':CH}(h:Lv N C)(g:Gr C C'):Lv N C':=fun a n z=>h a n (dD g z)
theorem Lv.ex {N:Addr->Prop}{C C':CH}{t:Addr}{ns:List Int}(h:Lv N C)(T:Tp C' t ns)(e:Ex t C C'):Lv N C':=fun a n z=>by
 by_cases q:a=t
 .subst q; exact T.sm z
 .exact h a n (e.nn q z)
theorem Lv.put {N:Addr->Prop}{C:CH}(h:Lv N C)(p:Addr)(o:CO):Lv N (vQ C p o):=fun a n z=>by
 by_cases q:a=p
 .subst q; rw[zQ] at z; cases z
 .rw [oQ q] at z; exact h a n z
theorem Lv.not {N:Addr->Prop}{C:CH}{p:Addr}(h:Lv N C)(hp:C p=none):¬ N p:=fun z=>h p z hp
abbrev Ad (N:Addr->Prop)(p:Addr):Addr->Prop:=fun a=>N a\/a=p
theorem Lv.ad {N:Addr->Prop}{C:CH}{p:Addr}{o:CO}(h:Lv N C)(m:C p=some o):Lv (Ad N p) C:=fun a n=>by
 rcases n with n | rfl
 .exact h a n
 .rw [m]; exact fun z=>nomatch z
def scN (k:Nat):PV->Prop
 |.non=>True
 |.bl _=>True
 |.int i=>-(10 ^ 40) - (k:Int)<=i/\i<=10 ^ 40+(k:Int)
 |.str z=>z.length<=100+k
 |_=>False
theorem scN_up {k m:Nat}(h:k<=m):∀{x:PV},scN k x->scN m x
 |.non,_=>trivial
 |.bl _,_=>trivial
 |.int i,z=>by
  have z : -(10 ^ 40) - (k:Int)<=i/\i<=10 ^ 40+(k:Int):=z;exact⟨by omega,by omega⟩
 |.str _,z=>AX z (Nat.add_le_add_left h _)
theorem scN_of:∀{x:PV},scB x->scN 0 x
 |.non,_=>trivial
 |.bl _,_=>trivial
 |.int i,z=>by
  have z : -(10 ^ 40)<=i/\i<=10 ^ 40:=z;exact⟨by omega,by omega⟩
 |.str _,z=>z
theorem dF {k:Nat}:∀{x:PV},scN k x->sc x=true
 |.non,_=>rfl
 |.bl _,_=>rfl
 |.int _,_=>rfl
 |.str _,_=>rfl
mutual
def Sm (k:Nat):Tr->Prop
 |.sg y=>scN k y
 |.tup ts=>Sms k ts
 |.lst ts=>Sms k ts
 |.dct _ ts=>Sms k ts
def Sms (k:Nat):List Tr->Prop
 |[]=>True
 |t::ts=>Sm k t/\Sms k ts
end
theorem mZ {k:Nat}:∀{ts:List Tr},Sms k ts↔∀t∈ts,Sm k t
 |[]=>by rw[Sms]; exact⟨fun _ _ h=>(nomatch h),fun _=>trivial⟩
 |t::ts=>by rw[Sms,mZ]; simp
mutual
theorem iG {k m:Nat}(h:k<=m):∀{t:Tr},Sm k t->Sm m t
 |.sg y,z=>by rw[Sm] at z ⊢; exact scN_up h z
 |.tup ts,z=>by rw[Sm] at z ⊢; exact fF h z
 |.lst ts,z=>by rw[Sm] at z ⊢; exact fF h z
 |.dct _ ts,z=>by rw[Sm] at z ⊢; exact fF h z
theorem fF {k m:Nat}(h:k<=m):∀{ts:List Tr},Sms k ts->Sms m ts
 |[],z=>by rw[Sms]; trivial
 |t::ts,z=>by rw[Sms] at z ⊢; exact⟨iG h z.1,fF h z.2⟩
end
theorem gJ {d:Nat}:∀{ts:List Tr},dps ts<=d↔∀t∈ts,dp t<=d
 |[]=>by rw[dps]; simp
 |t::ts=>by rw[dps,Nat.max_le,gJ]; simp
theorem mV {C:CH}{N:Addr->Prop}:∀{ts:List Tr}{xs:List PV}(i:Nat),Iss C N ts xs->Iss C N (ts.take i) (xs.take i)
 |[],xs,i,h=>by rw[Iss] at h; subst h; rw[List.take_nil,List.take_nil,Iss]
 |t::ts,xs,i,h=>by
  rw[Iss] at h;obtain⟨y,ys,rfl,h1,h2⟩:=h
  cases i with
  |zero=>rw[List.take_zero,List.take_zero,Iss]
  |succ i=>rw[List.take_succ_cons,List.take_succ_cons,Iss]; exact⟨_,_,rfl,h1,mV i h2⟩
theorem fV {C:CH}{N:Addr->Prop}:∀{ts:List Tr}{xs:List PV}(i:Nat),Iss C N ts xs->Iss C N (ts.drop i) (xs.drop i)
 |[],xs,i,h=>by rw[Iss] at h; subst h; rw[List.drop_nil,List.drop_nil,Iss]
 |t::ts,xs,i,h=>by
  cases i with
  |zero=>rw[DW,DW]; exact h
  |succ i =>
   rw[Iss] at h;obtain⟨y,ys,rfl,h1,h2⟩:=h;rw[List.drop_succ_cons,List.drop_succ_cons]; exact fV i h2
theorem lZ {C:CH}{N:Addr->Prop}{t:Tr}{x:PV}{ts:List Tr}{xs:List PV}(h:Is C N t x)(h':Iss C N ts xs):Iss C N (t::ts) (x::xs):=by
 rw[Iss];exact⟨x,xs,rfl,h,h'⟩
theorem bD {C:CH}{N:Addr->Prop}:∀{ts:List Tr}{xs:List PV},Iss C N ts xs->Iss C N ts.reverse xs.reverse
 |[],xs,h=>by rw[Iss] at h; subst h; exact iZ
 |t::ts,xs,h=>by
  rw[Iss] at h;obtain⟨y,ys,rfl,h1,h2⟩:=h;rw[BS,BS];exact pJ (bD h2) (fZ h1)
theorem gD {C:CH}{N:Addr->Prop}{u:Tr}{y:PV}(hu:Is C N u y):∀{ts:List Tr}{xs:List PV}(i:Nat),Iss C N ts xs->Iss C N (ts.set i u) (xs.set i y)
 |[],xs,i,h=>by rw[Iss] at h; subst h; rw[List.set_nil,List.set_nil,Iss]
 |t::ts,xs,i,h=>by
  rw[Iss] at h;obtain⟨z,ys,rfl,h1,h2⟩:=h
  cases i with
  |zero=>rw[List.set_cons_zero,List.set_cons_zero]; exact lZ hu h2
  |succ i=>rw[List.set_cons_succ,List.set_cons_succ]; exact lZ h1 (gD hu i h2)
theorem lJ (ts:List Tr)(i:Nat):tws (ts.take i)+tws (ts.drop i)=tws ts:=by rw[<- bZ,Cc]
theorem bF:∀ts:List Tr,tws ts.reverse=tws ts
 |[]=>rfl
 |t::ts=>by rw[BS,bZ,bF ts,tws,tws,tws,BG,Nat.add_comm]
theorem gF {u:Tr}:∀{ts:List Tr}{i:Nat}{t:Tr},ts[i]?=some t->tws (ts.set i u)+tw t=tws ts+tw u
 |[],i,t,e=>by simp at e
 |v::ts,i,t,e=>by
  cases i with
  |zero=>cases e; rw[List.set_cons_zero,tws,tws]; omega
  |succ i=>have:=gF (u:=u) (show ts[i]?=some t from e); rw[List.set_cons_succ,tws,tws]; omega
theorem sJ {C:CH}{N:Addr->Prop}{y:PV}(h:sc y=true):Is C N (.sg y) y:=by rw[Is]; exact⟨rfl,h⟩
theorem str_app (x y:Str):(x++y).length=x.length+y.length:=Array.size_append
theorem adds_s {x y:Str}{C:CH}{Q:K1}(h:x.length+y.length<=sizeLine)(q:Q (.str (x++y)) C):vH (.str x) (.str y) C Q:=by
 delta vH
 exact⟨h,q⟩
theorem sD (xs:List PV)(k:Nat):fB xs (some (k:Nat)) none=xs.drop k :=by simp_all[fB,HT.sIx_nat,HT.sIx_none,List.take_of_length_le,Nat.min_eq_left,Nat.min_eq_right,List.drop_length,List.drop_of_length_le]
theorem eN (xs:List PV)(k:Nat):fB xs none (some (k:Nat))=xs.take k :=by simp_all[fB,HT.sIx_nat,HT.sIx_none,List.drop_zero,Nat.sub_zero,Nat.min_eq_left,Nat.min_eq_right,List.take_length]
theorem ixN_at {xs:List PV}{i:Nat}(h:i < xs.length):ixN xs.length i=some i :=by grind[ixN,lia,Int.toNat_natCast]
def Oy (C:CH)(N:Addr->Prop)(y:PV):Prop:=∃u,Is C N u y/\Sm 0 u/\tw u<=5/\dp u<=3
theorem vV {C:CH}{N:Addr->Prop}{y:PV}(h:scN 0 y):Oy C N y:=⟨.sg y,sJ (dF h),by rw[Sm]; exact h,by rw[tw]; omega,by rw[dp]; omega⟩
theorem oy_2 {C:CH}{N:Addr->Prop}{x y:PV}(h:scN 0 x)(k:scN 0 y):Oy C N (.tup [x,y]):=⟨.tup [.sg x,.sg y],by rw[Is]; exact⟨_,rfl,lZ (sJ (dF h)) (fZ (sJ (dF k)))⟩,by simp[Sm,Sms,h,k],by simp[tw,tws],by simp[dp,dps]⟩
theorem oy_nil:∀t∈([]:List PV),Oy C N t:=fun _ z=>nomatch z
theorem wX {C:CH}{N:Addr->Prop}{x:PV}{ts:List PV}(h:Oy C N x)(k:∀t∈ts,Oy C N t):∀t∈x::ts,Oy C N t:=fun t ht=>by
 rcases Ax.1 ht with rfl | ht
 .exact h
 .exact k t ht
abbrev pW (p1 p2:Addr):List PV:=[.non,.bl true,.bl false,.int 0,.int 1,.int (10 ^ 9+1),.int (-10 ^ 9 - 1),.str "",.str "a",.str "abcdefghi",.str "A",.tup [],.ref p1,.ref p2]
abbrev uP (p4:Addr):List PV:=[.tup [.str "num",.int 0],.tup [.str "num",.bl true],.tup [.str "turn",.str "a"],.tup [.str "box",.str "zz"],.ref p4,.tup [.str "add",.tup [.str "num",.int 1]]]
section
variable {W:Wd}{a:Adr}
inductive gOdd (ts:List PV)(C:CH)(Q:K1):Prop
 |mk (t:Addr) (ns:List Int) (N:Addr->Prop) (z0:ts=[.ref t]) (z1:Tp C t ns) (z2:N t) (z3:Lv N C) (z4:∀y C',Oy C' N y->Tp C' t ns->Ex t C C'->Q y C'):gOdd ts C Q
theorem ok_odd (T:Tx W a):Ok W a 2 8 U6 gOdd:=by
 have S:=(T.F 8 rfl).s;have gX:=tV T
 refine(T.F 8 rfl).ok (fun ts C R h=>?_) fun cdv A outer s H E hr=>⟨_,(xQ (cs1 1 S.nd (zZ (qQ yK (qQ rZ (qQ rZ (qQ jQ (qQ jQ (qQ (zX dX cX (zX tF gG jQ jQ) jQ) (qQ (zX oF uG (qS yF wG (zX tF gG jQ jQ)) jQ) (qQ fQ (qQ fQ (qQ fQ (qQ fQ (qQ (fX nV) (qQ (zZ nV) (ca1 mG))))))))))))))))
  (xQ (cs1 1 S.nd (zX dX cX (cv 1) (zZ (qQ (fX (qQ fQ (ca1 jQ))) (qQ (fX (qQ fQ (ca1 rZ))) (qQ (fX (qQ fQ (ca1 fQ))) (qQ (fX (qQ fQ (ca1 fQ))) (qQ (zZ (qQ fQ (ca1 jQ))) (ca1 (fX (qQ fQ (ca1 (fX (qQ fQ (ca1 jQ)))))))))))))))
  (wQ (bQ (cx (cv 1) (cf (T.F 5 rfl) gX hr (qQ (cv 0) (ca1 jQ)))))))),?_⟩
 .obtain ⟨t,ns,N,rfl,_⟩:=h; rfl
 rintro ts C R ⟨t,ns,N,rfl,hT,hN,hL,q⟩;refine cQ ?_;refine⟨⟨by decide,by decide,by decide⟩,kW ?_⟩;refine⟨⟨by decide,by decide,by decide⟩,i_i ?_⟩;refine⟨zS0 0 rfl,?_⟩;refine⟨zS0 0 rfl,fun p1 h1=>?_⟩;intro p2 ob h2;refine⟨zS0 14 rfl,fun p3 h3=>?_⟩
 try dsimp only
 refine cQ ?_;refine⟨zS0 2 rfl,?_⟩;refine⟨zS0 2 rfl,?_⟩;refine⟨zS0 2 rfl,?_⟩;refine⟨zS0 2 rfl,?_⟩;refine⟨zS0 2 rfl,fun p4 h4=>?_⟩;refine⟨zS0 2 rfl,?_⟩;refine⟨zS0 2 rfl,?_⟩;refine⟨zS0 6 rfl,fun p5 h5=>?_⟩;refine yH (Gr.new h5 _ _ _ (Gr.new h4 _ _ _ zQ)) zQ (by show 14+6<=sizeLine; decide) fun p6 h6=>?_
 have T1:=hT.new h1 (.lst []);have T2:=T1.new h2 (.dM ob []);have T3:=T2.new h3 (.lst (pW p1 p2));have T4:=T3.new h4 (.lst [.str "num",.int 0]);have T5:=T4.new h5 (.lst (uP p4));have T6:=T5.new h6 (.lst (pW p1 p2++uP p4));have L1:=hL.gr (Gr.new h1 (.lst []));have L3:=(L1.gr (Gr.new h2 (.dM ob []))).gr (Gr.new h3 (.lst (pW p1 p2)));have n1:=hL.not h1;have n2:=L1.not h2;have n4:=L3.not h4;have g1:=Gr.new h2 (.dM ob []) _ _ (zQ (C:=C) (a:=p1) (o:=.lst []))
 have e6:=(((((Ex.new (t:=t) h1 (.lst [])).trans (Ex.new h2 (.dM ob []))).trans (Ex.new h3 _)).trans (Ex.new h4 (.lst [.str "num",.int 0]))).trans (Ex.new h5 _)).trans (Ex.new h6 (.lst (pW p1 p2++uP p4)));have m1:=Gr.new h6 (.lst (pW p1 p2++uP p4)) _ _ (Gr.new h5 _ _ _ (Gr.new h4 _ _ _ (Gr.new h3 _ _ _ g1)));have m2:=Gr.new h6 (.lst (pW p1 p2++uP p4)) _ _ (Gr.new h5 _ _ _ (Gr.new h4 _ _ _ (Gr.new h3 _ _ _ (zQ (C:=vQ C p1 (.lst [])) (a:=p2) (o:=.dM ob [])))))
 have m4:=Gr.new h6 (.lst (pW p1 p2++uP p4)) _ _ (Gr.new h5 _ _ _ (zQ (a:=p4) (o:=.lst [.str "num",.int 0])));refine⟨t,20,ns,rfl,T6,by decide,by decide,fun v C7 v0 v1 T7 e7=>?_⟩;obtain⟨y,hy,ey⟩:=bL (ys:=pW p1 p2++uP p4) (m:=20) rfl v0 v1;refine yZ (e7 p6 _ (T5.ne h6) zQ) ey (q y C7 ?_ T7 (e6.trans e7));have s:∀z∈(["","a","abcdefghi","A","num","turn","box","zz","add"]:List Str),scN 0 (.str z):=(by decide +kernel:∀z∈(["","a","abcdefghi","A","num","turn","box","zz","add"]:List Str),z.length<=100)
 have i0:∀i:Int,-(10 ^ 40)<=i->i<=10 ^ 40->scN 0 (.int i):=fun i h1 h2=>⟨by omega,by omega⟩;have b1:Oy C7 N (.ref p1):=⟨.lst [],by rw[Is]; exact⟨p1,_,rfl,n1,e7 _ _ (hT.ne h1) m1,iZ⟩,by simp[Sm,Sms],by simp[tw,tws],by simp[dp,dps]⟩;have b2:Oy C7 N (.ref p2):=⟨.dct [] [],by rw[Is]; exact⟨p2,ob,[],rfl,n2,e7 _ _ (T1.ne h2) m2,rfl,⟨fun _ h=>(nomatch h),List.Pairwise.nil⟩,iZ⟩,by simp[Sm,Sms],by simp[tw,tws,kws],by simp[dp,dps]⟩
 have b4:Oy C7 N (.ref p4):=⟨.lst [.sg (.str "num"),.sg (.int 0)],by rw[Is]; exact⟨p4,_,rfl,n4,e7 _ _ (T3.ne h4) m4,lZ (sJ rfl) (fZ (sJ rfl))⟩,by simp only[Sm,Sms]; exact⟨s _ (by simp),i0 _ (by decide) (by decide),trivial⟩,by simp[tw,tws],by simp[dp,dps]⟩;have b0:Oy C7 N (.tup []):=⟨.tup [],by rw[Is]; exact⟨_,rfl,iZ⟩,by simp[Sm,Sms],by simp[tw,tws],by simp[dp,dps]⟩
 have b5:Oy C7 N (.tup [.str "add",.tup [.str "num",.int 1]]):=⟨.tup [.sg (.str "add"),.tup [.sg (.str "num"),.sg (.int 1)]],by
  rw[Is];refine⟨_,rfl,lZ (sJ rfl) (fZ ?_)⟩;rw[Is]
  exact⟨_,rfl,lZ (sJ rfl) (fZ (sJ rfl))⟩,by simp only[Sm,Sms]; exact⟨s _ (by simp),⟨s _ (by simp),i0 _ (by decide) (by decide),trivial⟩,trivial⟩,by simp[tw,tws],by simp[dp,dps]⟩
 have all:∀y∈(pW p1 p2++uP p4),Oy C7 N y :=
  wX (vV trivial) (wX (vV trivial) (wX (vV trivial) (wX (vV (i0 _ (by decide) (by decide))) (wX (vV (i0 _ (by decide) (by decide))) (wX (vV (i0 _ (by decide) (by decide))) (wX (vV (i0 _ (by decide) (by decide))) (wX (vV (s _ (by simp))) (wX (vV (s _ (by simp))) (wX (vV (s _ (by simp))) (wX (vV (s _ (by simp))) (wX b0 (wX b1 (wX b2 (wX (oy_2 (s _ (by simp)) (i0 _ (by decide) (by decide))) (wX (oy_2 (s _ (by simp)) trivial) (wX (oy_2 (s _ (by simp)) (s _ (by simp))) (wX (oy_2 (s _ (by simp)) (s _ (by simp))) (wX b4 (wX b5 oy_nil)))))))))))))))))))
 exact all y hy
end
theorem int_b {b:Bool}{C:CH}{Q:K1}(q:Q (.int (if b then 1 else 0)) C):cInt [.bl b] C Q:=by
 delta cInt
 exact q
theorem sH {b:Addr}{xs:List PV}{lo hi:Option Int}{C:CH}{Q:K1}(h:C b=some (.lst xs))(q:∀p,C p=none->Q (.ref p) (vQ C p (.lst (fB xs lo hi)))):cSlL (.ref b) lo hi C Q:=by
 delta cSlL
 dsimp only
 rwa [h]
theorem rev_s {b:Addr}{xs:List PV}{C:CH}{Q:K1}(h:C b=some (.lst xs))(q:Q .non (vQ C b (.lst xs.reverse))):tW (.ref b) [] C Q:=by
 delta tW
 dsimp only
 rwa [h]
theorem Qm {G:GC}{i:Nat}{ρ:CSt}{x:PV}{C:CH}{Q:K1}(hv:ρ[i]?=some (some x))(h:G [x] C Q):iW G (sY (bJ i) kH) ρ C Q:=by
 unfold iW sY bJ kH;rw[hv];exact h
structure OJ (C0 C:CH)(t:Addr)(ns:List Int)(N:Addr->Prop)(p:Addr)(us:List Tr)(ys:List PV)(k w d:Nat):Prop where
 m:C p=some (.lst ys)
 i:Iss C (Ad N p) us ys
 s:∀u∈us,Sm k u
 w:tws us<=w
 d:∀u∈us,dp u<=d
 T:Tp C t ns
 e:Ex t C0 C
 n:¬ N p
 f:C0 p=none
 v:Lv N C
section
variable {C0 C C':CH}{t p q:Addr}{ns:List Int}{N:Addr->Prop}{us vs:List Tr}{ys zs:List PV}{k w d w' d':Nat}
theorem OJ.up (h:OJ C0 C t ns N p us ys k w d)(hw:w<=w')(hd:d<=d'):OJ C0 C t ns N p us ys k w' d':={ h with w:=AX h.w hw,d:=fun u hu=>AX (h.d u hu) hd }
theorem OJ.len (h:OJ C0 C t ns N p us ys k w d):ys.length<=w:=by
 have:=iJ us;have:=kX h.i;have:=h.w;omega
theorem OJ.np (h:OJ C0 C t ns N p us ys k w d)(ht:N t):p≠t:=fun z=>h.n (z▸ht)
theorem OJ.mv (h:OJ C0 C t ns N p us ys k w d)(ht:N t)(g:Gr C C')(m1:C' q=some (.lst zs))(hq:C q=none)(hi:Iss C (Ad N p) vs zs)(hs:∀u∈vs,u∈us)(hw:tws vs<=w'):OJ C0 C' t ns N q vs zs k w' d :=
 ⟨m1,rQ (GrN.gr g) (fJ (N:=Ad N p) (fun a ha=>ha.elim (fun z=>.inl (.inl z)) fun z=>.inr (z▸hq)) hi),fun u hu=>h.s u (hs u hu),hw,fun u hu=>h.d u (hs u hu),h.T.gr g,h.e.trans (Ex.gr g),h.v.not hq,h.e.nn (h.T.ne hq) hq,h.v.gr g⟩
theorem OJ.put (h:OJ C0 C t ns N p us ys k w d)(ht:N t)(hi:Iss C (Ad N p) vs zs)(hs:∀u∈vs,Sm k u)(hw:tws vs<=w')(hd:∀u∈vs,dp u<=d'):OJ C0 (vQ C p (.lst zs)) t ns N p vs zs k w' d' :=
 ⟨zQ,rQ (GrN.put (.inr rfl) _) hi,hs,hw,hd,h.T.put (h.np ht) _,h.e.put h.f _,h.n,h.f,h.v.put _ _⟩
theorem OJ.join {s1 s2 s3:Addr}{u1 u2:List Tr}{y1 y2:List PV}(h:OJ C0 C t ns N p us ys k w d)(ht:N t)(h1:C s1=none)(h2:vQ C s1 (.lst y1) s2=none)(h3:vQ (vQ C s1 (.lst y1)) s2 (.lst y2) s3=none)(i1:Iss C (Ad N p) u1 y1)(i2:Iss C (Ad N p) u2 y2)(hs1:∀u∈u1,u∈us)(hs2:∀u∈u2,u∈us)(hw:tws u1+tws u2<=w'):OJ C0 (vQ (vQ (vQ C s1 (.lst y1)) s2 (.lst y2)) s3 (.lst (y1++y2))) t ns N s3 (u1++u2) (y1++y2) k w' d :=
 h.mv ht (((Gr.new h1 _).trans (Gr.new h2 _)).trans (Gr.new h3 _)) zQ (dD ((Gr.new h1 _).trans (Gr.new h2 _)) h3) (pJ i1 i2) (fun u hu=>(AS.1 hu).elim (hs1 u) (hs2 u)) (by rw[bZ]; exact hw)
theorem OJ.ex (h:OJ C0 C t ns N p us ys k w d)(ht:N t)(T:Tp C' t ns)(e:Ex t C C'):OJ C0 C' t ns N p us ys k w d :=
 ⟨e _ _ (h.np ht) h.m,rQ (GrN.ex (.inl ht) e) h.i,h.s,h.w,h.d,T,h.e.trans e,h.n,h.f,h.v.ex T e⟩
theorem OJ.iss (h:OJ C0 C t ns N p us ys k w d):Iss C N us ys:=yJ (fun _ z=>.inl z) h.i
theorem OJ.islst (h:OJ C0 C t ns N p us ys k w d):Is C N (.lst us) (.ref p):=by rw[Is]; exact⟨p,ys,rfl,h.n,h.m,h.iss⟩
theorem OJ.istup (h:OJ C0 C t ns N p us ys k w d):Is C N (.tup us) (.tup ys):=by rw[Is]; exact⟨ys,rfl,h.iss⟩
end
theorem xE {C:CH}{N:Addr->Prop}{tr:Tr}{x:PV}(h:Is C N tr x)(ht:sX tr=.tup\/sX tr=.lst):∃us xs,Iss C N us xs/\tw tr=1+tws us/\dp tr=1+dps us/\(∀k,Sm k tr->Sms k us)/\((tr=.tup us/\x=.tup xs)\/∃a,tr=.lst us/\x=.ref a/\¬ N a/\C a=some (.lst xs)):=by
 cases tr with
 |sg y=>rcases ht with h | h<;>(cases y<;>cases h)
 |dct ks ts=>rcases ht with h | h<;>cases h
 |tup us =>
  rw[Is] at h;obtain⟨xs,rfl,h⟩:=h;exact⟨us,xs,h,by rw[tw],by rw[dp],fun k z=>by rw[Sm] at z; exact z,.inl ⟨rfl,rfl⟩⟩
 |lst us =>
  rw[Is] at h;obtain⟨a,xs,rfl,n,m,h⟩:=h;exact⟨us,xs,h,by rw[tw],by rw[dp],fun k z=>by rw[Sm] at z; exact z,.inr ⟨a,rfl,rfl,n,m⟩⟩
theorem oC {C C1:CH}{N:Addr->Prop}{x:PV}{xs:List PV}{tr:Tr}{us:List Tr}{Q:K1}(h:(tr=.tup us/\x=.tup xs)\/∃a,tr=.lst us/\x=.ref a/\¬ N a/\C a=some (.lst xs))(g:GrN N C C1)(q:∀p,C1 p=none->Q (.ref p) (vQ C1 p (.lst xs))):xB [x] C1 Q:=by
 rcases h with ⟨_,rfl⟩ | ⟨a,_,rfl,n,m⟩
 .exact lstOf_t q
 .exact lstOf_l (g a _ n m) q
theorem sq_len {C C1:CH}{N:Addr->Prop}{x:PV}{xs:List PV}{tr:Tr}{us:List Tr}{Q:K1}(h:(tr=.tup us/\x=.tup xs)\/∃a,tr=.lst us/\x=.ref a/\¬ N a/\C a=some (.lst xs))(g:GrN N C C1)(q:Q (.int xs.length) C1):dB [x] C1 Q:=by
 rcases h with ⟨_,rfl⟩ | ⟨a,_,rfl,n,m⟩
 .exact len_t q
 .exact uU (g a _ n m) q
section
variable {W:Wd}{a:Adr}
inductive gOth (ts:List PV)(C:CH)(Q:K1):Prop
 |mk (t:Addr) (ns:List Int) (N:Addr->Prop) (x:PV) (tr:Tr) (k:Nat) (z0:ts=[.ref t,x]) (z1:Tp C t ns) (z2:N t) (z3:Lv N C) (z4:Is C N tr x) (z5:Sm k tr) (z6:tw tr<=4000) (z7:k<=100000) (z8:∀y u C',Is C' N u y->Sm (4 * k+400) u->tw u<=2 * tw tr+10->dp u<=dp tr+4->Tp C' t ns->Ex t C C'->Q y C'):gOth ts C Q
theorem gA (T:Tx W a):Ok W a 3 9 U0 gOth:=by
 have S:=(T.F 9 rfl).s;have gX:=(tV T).mono (show 1<=2 by decide);have dS:=ok_odd T
 refine(T.F 9 rfl).ok (fun ts C R h=>?_) fun cdv A outer s H E hr=>⟨_,(xQ (cs1 2 S.nd (cf (T.F 5 rfl) gX hr (qQ (cv 0) (ca1 jQ))))
  (xQ (aQ (cw_pt (cw_and (bX (pQ aK pY rfl T.yQ rfl (qQ (cv 1) (ca1 (fX (qQ (tX (n:="tuple") rfl T.nZ rfl) (ca1 (tX (n:="list") rfl T.vK rfl)))))))) (cw_and1 (ct2 vM mY (cv 2) jQ)))) (xQ (cs1 3 S.nd (kJ oW xS rfl T.vK rfl (ca1 (cv 1))))
  (xQ (cs1 4 S.nd (cf (T.F 5 rfl) gX hr (qQ (cv 0) (ca1 (zX dX cX (cln T.mJ (cv 3)) jQ)))))
  (xQ (aQ (cw_pt (cw_and (ct2 cZ pX (cv 2) jQ) (cw_and1 (bX (pQ mQ yX rfl T.yQ rfl (qQ (cv 1) (ca1 (tX (n:="tuple") rfl T.nZ rfl)))))))) (wQ (bQ (cv 3))) dQ)
  (xQ (aQ (ct2 cZ pX (cv 2) jQ) (wQ (nW (jS BR PySem.F.slot_list_insert PySem.F.type_list_insert (fun p s σ H x vs v us Q=>qT p s σ H x vs v us Q) iN (cv 3) (qQ (cv 4) (ca1 (cf (T.F 8 rfl) dS hr (ca1 (cv 0)))))))) dQ)
  (xQ (aQ (ct2 cZ pX (cv 2) jQ) (wQ (cs1 3 S.nd (zX dX cX (wW (cv 3) jK (zK (cv 4))) (wW (cv 3) (zK (zX dX cX (cv 4) jQ)) jK)))) dQ)
  (xQ (aQ (ct2 cZ pX (cv 2) jQ) (wQ (cs1 3 S.nd (zX dX cX (wW (cv 3) jK (zK (cv 4))) (wW (cv 3) (zK (pQ (zO rfl) cbi_max rfl T.z_max rfl (qQ jQ (ca1 (zX oF uG (cv 4) jQ))))) jK)))) dQ)
  (xQ (aQ (ct2 cZ pX (cv 2) jQ) (wQ (nW (Qi BR PySem.F.slot_list_reverse PySem.F.type_list_reverse kN qH (cv 3)))) dQ)
  (xQ (aQ (ct2 cZ pX (cv 2) jQ) (wQ (cs1 3 S.nd (zX dX cX (wW (cv 3) (zK (cv 4)) jK) (wW (cv 3) jK (zK (cv 4)))))) dQ)
  (wQ (bQ (ctp T.nZ (cv 3)))))))))))) dQ)
  (xQ (aQ (bX (pQ mQ yX rfl T.yQ rfl (qQ (cv 1) (ca1 (tX (n:="bool") rfl T.vF rfl))))) (wQ (bQ (cx (zZ (qQ (kJ vO cbi_int rfl T.bC rfl (ca1 (cv 1))) (ca1 (ce_not (cv 1))))) (zX nK dJ (cv 2) jQ)))) dQ)
  (xQ (aQ (cw_pt (cw_and (bX (pQ mQ yX rfl T.yQ rfl (qQ (cv 1) (ca1 (tX (n:="int") rfl T.bC rfl))))) (cw_and1 (ct2 vM mY (cv 2) jQ)))) (wQ (bQ (cx (zZ (qQ (zX dX cX (cv 1) jQ) (qQ (qB cZ pX (cv 1) jQ (yU _)) (qQ (kJ jL Qk rfl T.gC rfl (ca1 (cv 1))) (qQ (qS yF wG (cv 1)) (ca1 (zX oF uG (cv 1) jQ))))))) (cv 2)))) dQ)
  (xQ (aQ (cw_pt (cw_and (bX (pQ mQ yX rfl T.yQ rfl (qQ (cv 1) (ca1 (tX (n:="str") rfl T.gC rfl))))) (cw_and1 (ct2 vM mY (cv 2) jQ)))) (wQ (bQ (cx (zZ (qQ (zX dX cX (cv 1) fQ) (qQ (ce_slS (cv 1) jK (zK (qS yF wG jQ))) (qQ (Qf (cv 1)) (qQ fQ (ca1 fQ)))))) (cv 2)))) dQ)
  (wQ (bQ (cf (T.F 8 rfl) dS hr (ca1 (cv 0)))))))))),?_⟩
 .obtain ⟨_,_,_,_,_,_,rfl,_⟩:=h; rfl
 rintro ts C R ⟨t,ns,N,x,tr,k,rfl,hT,ht,hL,hx,hk,hw,hk1,q⟩;have sz:∀{n:Nat},n<=1000000->n<=sizeLine:=fun h=>AX h (by decide);have pw:=tO tr;have pd:=lD tr;refine cQ ⟨t,8,ns,rfl,hT,by decide,by decide,fun v C1 v0 v1 T1 e1=>?_⟩
 try dsimp only
 have g1:GrN N C C1:=GrN.ex ht e1;have L1:=hL.ex T1 e1;have hx1:=uZ g1 hx;have ty1:=pV hx1
 have odd:∀C2,Tp C2 t ns->Ex t C C2->Lv N C2->gOdd [.ref t] C2 R:=fun C2 T2 e2 L2=>⟨t,ns,N,rfl,T2,ht,L2,fun y C3 hy T3 e3=>by
  obtain⟨u,i1,i2,i3,i4⟩:=hy
  exact q y u C3 i1 (iG (A0 _) i2) (by omega) (by omega) T3 (e2.trans e3)⟩
 by_cases hsq:sX tr=.tup\/sX tr=.lst
 .obtain ⟨us,xs,ix,etw,edp,esm,hc⟩:=xE hx hsq
  have hsm:=mZ.1 (esm _ hk);have hdp:=gJ.1 (AG (dps us));have hlu:=iJ us;have hlx:=kX ix;have any1:[Ty.tup,.lst].any (iQ (sX tr))=true:=by rcases hsq with h | h<;>(rw[h]; rfl)
  refine tQ (fun ρ' C'=>C'=C1/\ρ'=[some (.ref t),some x,some (.int v),none,none]) (fun L hL'=>?_) ?_
  .refine ⟨zS0 2 rfl,eV [.tup,.lst] ty1 (zJ any1 (i_i (uJ (fun hb=>?_) fun hb=>jX (hL' _ _ ⟨rfl,rfl⟩))))⟩
   refine cQ (Qm rfl (oC hc g1 fun p hp=>?_));have J0:OJ C (vQ C1 p (.lst xs)) t ns N p us xs (4 * k+400) (tws us) (dps us+3):=⟨zQ,rQ (GrN.gr (Gr.new hp _)) (fJ (N:=N) (fun a ha=>ha.elim .inl fun z=>.inr (z▸hp)) (rQ g1 ix)),fun u hu=>iG (by omega) (hsm u hu),AG _,fun u hu=>AX (hdp u hu) (by omega),T1.new hp _,e1.trans (Ex.new hp _),L1.not hp,e1.nn (T1.ne hp) hp,L1.gr (Gr.new hp _)⟩
   generalize vQ C1 p (.lst xs)=C2 at J0 ⊢
   try dsimp only
   refine cQ (uU J0.m (kW ⟨t,_,ns,rfl,J0.T,by omega,by omega,fun u C3 u0 u1 T3 e3=>?_⟩));obtain⟨i,rfl⟩:∃i:Nat,u=(i:Nat):=⟨u.toNat,by omega⟩;have hi:i<=xs.length:=by omega
   have J1:=J0.ex ht T3 e3;have ty3:=pV (uZ (GrN.ex ht J1.e) hx);clear J0
   try dsimp only
   refine tQ (fun ρ' C'=>C'=C3/\ρ'=[some (.ref t),some x,some (.int v),some (.ref p),some (.int (i:Nat))]) (fun L1 hL1=>?_) ?_
   .refine oX (vX _ _) (uJ (fun hb1=>?_) fun hb1=>aY rfl (jX (hL1 _ _ ⟨rfl,rfl⟩)))
    refine uX (T:=.tup) rfl ty3 (uJ (fun hb2=>?_) fun hb2=>jX (hL1 _ _ ⟨rfl,rfl⟩));refine q _ (.lst us) C3 J1.islst (by rw[Sm]; exact mZ.2 J1.s) (by rw[tw]; omega) (by rw[dp]; omega) T3 J1.e
   rintro ρ' C4 ⟨rfl,rfl⟩
   try dsimp only
   refine tQ (fun ρ' C'=>∃p us ys,ρ'=[some (.ref t),some x,some (.int v),some (.ref p),some (.int (i:Nat))]/\OJ C C' t ns N p us ys (4 * k+400) (tw tr+4) (dp tr+3)) (fun L1 hL1=>?_) ?_
   .refine oX (vX _ _) (uJ (fun hb1=>?_) fun hb1=>jX (hL1 _ _ ⟨p,us,xs,rfl,J1.up (by omega) (by omega)⟩))
    refine⟨dU J1.m,t,ns,Ad N p,rfl,T3,.inl ht,J1.v.ad J1.m,fun y C5 hy T5 e5=>?_⟩;obtain⟨u,i1,i2,i3,i4⟩:=hy;have J2:=J1.ex ht T5 e5;refine uI J2.m hi (Aq (show xs.length<=4000 by omega) (by decide)) (hL1 _ _ ⟨p,us.take i++u::us.drop i,_,rfl,J2.put ht (pJ (mV i J2.i) (lZ i1 (fV i J2.i))) (fun z hz=>?_) ?_ fun z hz=>?_⟩)
    .rcases AS.1 hz with hz | hz
     .exact J2.s z (Bm hz)
     .rcases Ax.1 hz with rfl | hz
      .exact iG (A0 _) i2
      .exact J2.s z (Bn hz)
    .rw [bZ,tws]
     have:=lJ us i;omega
    .rcases AS.1 hz with hz | hz
     .exact AX (J2.d z (Bm hz)) (by omega)
     .rcases Ax.1 hz with rfl | hz
      .omega
      .exact AX (J2.d z (Bn hz)) (by omega)
   clear J1 hi T3 e3 u0 u1 ty3;rintro ρ' C5 ⟨p,us',ys,rfl,J1⟩
   try dsimp only
   refine tQ (fun ρ' C'=>∃p us ys,ρ'=[some (.ref t),some x,some (.int v),some (.ref p),some (.int (i:Nat))]/\OJ C C' t ns N p us ys (4 * k+400) (tw tr+4) (dp tr+3)) (fun L1 hL1=>?_) ?_
   .refine oX (vX _ _) (uJ (fun hb1=>?_) fun hb1=>jX (hL1 _ _ ⟨p,us',ys,rfl,J1⟩))
    have ek:(i:Int)+1=((i+1:Nat):Int):=by omega
    have hl:=J1.len;refine sH J1.m fun s1 h1=>?_;rw[eN];refine kW ?_;rw[ek];refine sH (Gr.new h1 _ _ _ J1.m) fun s2 h2=>?_;rw[sD];refine yH (Gr.new h2 _ _ _ zQ) zQ (by rw[Bb,Br]; exact sz (by omega)) fun s3 h3=>?_;refine hL1 _ _ ⟨s3,us'.take i++us'.drop (i+1),_,rfl,J1.join ht h1 h2 h3 (mV i J1.i) (fV (i+1) J1.i) (fun e he=>Bm he) (fun e he=>Bn he) ?_⟩
    have w1:=lJ us' i;have w2:=lJ (us'.drop i) 1;rw[List.drop_drop] at w2;have:=J1.w;omega
   clear J1 us' ys;rintro ρ' C6 ⟨p,us',ys,rfl,J1⟩
   try dsimp only
   refine tQ (fun ρ' C'=>∃p us ys,ρ'=[some (.ref t),some x,some (.int v),some (.ref p),some (.int (i:Nat))]/\OJ C C' t ns N p us ys (4 * k+400) (2 * tw tr+8) (dp tr+3)) (fun L1 hL1=>?_) ?_
   .refine oX (vX _ _) (uJ (fun hb1=>?_) fun hb1=>jX (hL1 _ _ ⟨p,us',ys,rfl,J1.up (by omega) (AG _)⟩))
    have ek:(if (i:Int) - 1 > 0 then (i:Int) - 1 else 0)=((i - 1:Nat):Int):=by split<;>omega
    have hl:=J1.len;refine sH J1.m fun s1 h1=>?_;rw[eN];refine i_i (max_s ?_);rw[ek];refine sH (Gr.new h1 _ _ _ J1.m) fun s2 h2=>?_;rw[sD];refine yH (Gr.new h2 _ _ _ zQ) zQ (by rw[Bb,Br]; exact sz (by omega)) fun s3 h3=>?_;refine hL1 _ _ ⟨s3,us'.take i++us'.drop (i - 1),_,rfl,J1.join ht h1 h2 h3 (mV i J1.i) (fV (i - 1) J1.i) (fun e he=>Bm he) (fun e he=>Bn he) ?_⟩
    have w1:=lJ us' i;have w2:=lJ us' (i - 1);have:=J1.w;omega
   clear J1 us' ys;rintro ρ' C7 ⟨p,us',ys,rfl,J1⟩
   try dsimp only
   refine tQ (fun ρ' C'=>∃p us ys,ρ'=[some (.ref t),some x,some (.int v),some (.ref p),some (.int (i:Nat))]/\OJ C C' t ns N p us ys (4 * k+400) (2 * tw tr+8) (dp tr+3)) (fun L1 hL1=>?_) ?_
   .refine oX (vX _ _) (uJ (fun hb1=>?_) fun hb1=>jX (hL1 _ _ ⟨p,us',ys,rfl,J1⟩))
    exact⟨dU J1.m,rev_s J1.m (hL1 _ _ ⟨p,us'.reverse,_,rfl,J1.put ht (bD J1.i) (fun e he=>J1.s e (Cd.1 he)) (by rw[bF]; exact J1.w) fun e he=>J1.d e (Cd.1 he)⟩)⟩
   clear J1 us' ys;rintro ρ' C8 ⟨p,us',ys,rfl,J1⟩
   try dsimp only
   refine tQ (fun ρ' C'=>∃p us ys,ρ'=[some (.ref t),some x,some (.int v),some (.ref p),some (.int (i:Nat))]/\OJ C C' t ns N p us ys (4 * k+400) (2 * tw tr+8) (dp tr+3)) (fun L1 hL1=>?_) ?_
   .refine oX (vX _ _) (uJ (fun hb1=>?_) fun hb1=>jX (hL1 _ _ ⟨p,us',ys,rfl,J1⟩))
    refine sH J1.m fun s1 h1=>?_;rw[sD];refine sH (Gr.new h1 _ _ _ J1.m) fun s2 h2=>?_;rw[eN];have hl:=J1.len;refine yH (Gr.new h2 _ _ _ zQ) zQ (by rw[Bb,Br]; exact sz (by omega)) fun s3 h3=>?_;refine hL1 _ _ ⟨s3,us'.drop i++us'.take i,_,rfl,J1.join ht h1 h2 h3 (fV i J1.i) (mV i J1.i) (fun e he=>Bn he) (fun e he=>Bm he) ?_⟩;have w1:=lJ us' i
    have:=J1.w;omega
   clear J1 us' ys;rintro ρ' C9 ⟨p,us',ys,rfl,J1⟩;refine nC J1.m (q _ (.tup us') C9 J1.istup (by rw[Sm]; exact mZ.2 J1.s) ?_ ?_ J1.T J1.e)
   .have:=J1.w
    rw[tw];omega
   .have:=gJ.2 J1.d
    rw[dp];omega
  rintro ρ' C2 ⟨rfl,rfl⟩
  try dsimp only
  have no:∀b:Ty,b=.bl\/b=.int\/b=.str->iQ (sX tr) b=false:=fun b hb=>by
   rcases hsq with h | h<;>rw[h]<;>rcases hb with rfl | rfl | rfl<;>rfl
  refine uX (T:=.bl) rfl ty1 (aX (no _ (by simp)) (jX ?_))
  try dsimp only
  refine uX (T:=.int) rfl ty1 (aX (no _ (by simp)) (aY rfl (jX ?_)))
  try dsimp only
  refine uX (T:=.str) rfl ty1 (aX (no _ (by simp)) (aY rfl (jX ?_)));exact odd _ T1 e1 L1
 .have nosq:[Ty.tup,.lst].any (iQ (sX tr))=false:=by
   revert hsq;generalize sX tr=n;cases n<;>first | (intro _; rfl) | (intro h; exact absurd (by simp) h)
  have pick:∀(ys:List PV) (m v:Int) C2 p,(ys.length:Int)=m->0<=v->v < m->(∀y∈ys,scN (4 * k+400) y)->C2 p=none->Tp C2 t ns->Ex t C C2->cIx (.ref p) (.int v) (vQ C2 p (.lst ys)) R:=fun ys m v C2 p em m0 m1 hy hp T2 e2=>by
   obtain⟨y,hm,ea⟩:=bL em m0 m1;exact yZ zQ ea (q y (.sg y) _ (sJ (dF (hy y hm))) (by rw[Sm]; exact hy y hm) (by rw[tw]; omega) (by rw[dp]; omega) (T2.new hp _) (e2.trans (Ex.new hp _)))
  refine xZ ⟨zS0 2 rfl,eV [.tup,.lst] ty1 (aX nosq (aY rfl (jX ?_)))⟩
  try dsimp only
  cases tr with
  |tup us=>exact absurd (.inl rfl) hsq
  |lst us=>exact absurd (.inr rfl) hsq
  |dct ks us =>
   refine uX (T:=.bl) rfl ty1 (aX rfl (jX ?_))
   try dsimp only
   refine uX (T:=.int) rfl ty1 (aX rfl (aY rfl (jX ?_)))
   try dsimp only
   refine uX (T:=.str) rfl ty1 (aX rfl (aY rfl (jX ?_)));exact odd _ T1 e1 L1
  |sg y =>
   rw[Is] at hx;obtain⟨rfl,hn⟩:=hx;rw[Sm] at hk
   have cons:∀{x:PV} {ts:List PV},scN (4 * k+400) x->(∀t∈ts,scN (4 * k+400) t)->∀t∈x::ts,scN (4 * k+400) t:=fun h k t ht=>by
    rcases Ax.1 ht with rfl | ht
    .exact h
    .exact k t ht
   have nil:∀t∈([]:List PV),scN (4 * k+400) t:=fun _ z=>nomatch z
   cases x with
   |non =>
    refine uX (T:=.bl) rfl (k:=.non) rfl (aX rfl (jX ?_))
    try dsimp only
    refine uX (T:=.int) rfl (k:=.non) rfl (aX rfl (aY rfl (jX ?_)))
    try dsimp only
    refine uX (T:=.str) rfl (k:=.non) rfl (aX rfl (aY rfl (jX ?_)));exact odd _ T1 e1 L1
   |bl b =>
    refine uX (T:=.bl) rfl (k:=.bl) rfl (zJ rfl (int_b ⟨zS0 2 rfl,fun p hp=>?_⟩));refine⟨by show(0:Int) < 2; decide,?_⟩;exact pick _ 2 _ C1 p rfl (by omega) (by omega) (cons (by unfold scN; cases b<;>(constructor<;>omega)) (cons trivial nil)) hp T1 e1
   |int i =>
    have hi : -(10 ^ 40) - (k:Int)<=i/\i<=10 ^ 40+(k:Int):=hk;have si:∀j:Int,-(10 ^ 40) - (k:Int) - 1<=j->j<=10 ^ 40+(k:Int)+1->scN (4 * k+400) (.int j):=fun j h1 h2=>⟨by omega,by omega⟩;have hj:i.natAbs < 10 ^ 50:=by omega
    refine uX (T:=.bl) rfl (k:=.int) rfl (aX rfl (jX ?_))
    try dsimp only
    refine tQ (fun ρ' C'=>C'=C1/\ρ'=[some (.ref t),some (.int i),some (.int v),none,none]) (fun L hL=>?_) ?_
    .refine uX (T:=.int) rfl (k:=.int) rfl (zJ rfl (i_i (uJ (fun hb=>?_) fun hb=>jX (hL _ _ ⟨rfl,rfl⟩))))
     have hb:=A6 hb;refine kW (oX (vX _ _) (strJ_s hj (i_i ⟨zS0 5 rfl,fun p hp=>?_⟩)));exact pick _ 5 _ C1 p rfl (by omega) (by omega) (cons (si _ (by omega) (by omega)) (cons trivial (cons (show(txI i).length<=100+(4 * k+400) by have:=txJ_len hj; omega) (cons (si _ (by omega) (by omega)) (cons (si _ (by omega) (by omega)) nil))))) hp T1 e1
    rintro ρ' C2 ⟨rfl,rfl⟩
    try dsimp only
    refine uX (T:=.str) rfl (k:=.int) rfl (aX rfl (aY rfl (jX ?_)));exact odd _ T1 e1 L1
   |str z =>
    have hz:z.length<=100+k:=hk;refine uX (T:=.bl) rfl (k:=.str) rfl (aX rfl (jX ?_))
    try dsimp only
    refine uX (T:=.int) rfl (k:=.str) rfl (aX rfl (aY rfl (jX ?_)))
    try dsimp only
    refine tQ (fun ρ' C'=>C'=C1/\ρ'=[some (.ref t),some (.str z),some (.int v),none,none]) (fun L hL=>?_) ?_
    .refine uX (T:=.str) rfl (k:=.str) rfl (zJ rfl (i_i (uJ (fun hb=>?_) fun hb=>jX (hL _ _ ⟨rfl,rfl⟩))))
     have hb:=A6 hb;have st:∀y:Str,y.length<=100+(4 * k+400)->scN (4 * k+400) (.str y):=fun y h=>h;have sl:∀y∈(["take","b"]:List Str),y.length<=100:=by decide +kernel
     refine adds_s (sz (by show z.length+1<=_; omega)) (slS_s (sz (by omega)) (upper_s rfl (by omega) fun y hy=>⟨zS0 5 rfl,fun p hp=>?_⟩));exact pick _ 5 _ C1 p rfl (by omega) (by omega) (cons (st _ (by rw[str_app]; show z.length+1<=_; omega)) (cons (st _ (AX (Txt.slice_le _ _ _) (by omega))) (cons (st _ (by omega)) (cons (st _ (AX (sl _ (by simp)) (by omega))) (cons (st _ (AX (sl _ (by simp)) (by omega))) nil))))) hp T1 e1
    rintro ρ' C2 ⟨rfl,rfl⟩;exact odd _ T1 e1 L1
   |_=>exact absurd hn AJ
end
section
variable {W:Wd}{a:Adr}
inductive gBe (d:Nat)(ts:List PV)(C:CH)(Q:K1):Prop
 |mk (t:Addr) (ns:List Int) (N:Addr->Prop) (x:PV) (tr:Tr) (k:Nat) (z0:ts=[.ref t,x]) (z1:Tp C t ns) (z2:N t) (z3:Lv N C) (z4:Is C N tr x) (z5:Sm k tr) (z6:tw tr<=4000) (z7:k<=100000) (z9:dp tr<=d) (z8:∀y u C',Is C' N u y->Sm (4 * k+400) u->tw u<=2 * tw tr+10->dp u<=dp tr+4->Tp C' t ns->Ex t C C'->Q y C'):gBe d ts C Q
theorem jN (T:Tx W a)(d r:Nat)(h3:3<=r)(kY:Ok W a r 10 U0 (gBe d)):Ok W a (r+1) 10 U0 (gBe (d+1)):=by
 have S:=(T.F 10 rfl).s;have gX:=(tV T).mono (show 1<=r by omega);have bO:=(gA T).mono (show 3<=r by omega)
 refine(T.F 10 rfl).ok (fun ts C R h=>?_) fun cdv A outer s H E hr=>⟨_,(xQ (aQ (cw_pt (cw_or (hV (bX (pQ aK pY rfl T.yQ rfl (qQ (cv 1) (ca1 (fX (qQ (tX (n:="tuple") rfl T.nZ rfl) (ca1 (tX (n:="list") rfl T.vK rfl))))))))) (cw_or (ct2 cZ pX (cln T.mJ (cv 1)) jQ) (cw_or1 (ct2 cZ pX (cf (T.F 5 rfl) gX hr (qQ (cv 0) (ca1 jQ))) jQ))))) (wQ (bQ (cf (T.F 9 rfl) bO hr (qQ (cv 0) (ca1 (cv 1)))))) dQ)
  (xQ (cs1 2 S.nd (kJ oW xS rfl T.vK rfl (ca1 (cv 1))))
  (xQ (cs1 3 S.nd (cf (T.F 5 rfl) gX hr (qQ (cv 0) (ca1 (cln T.mJ (cv 2))))))
  (xQ (tU (cf (T.F 10 rfl) kY hr (qQ (cv 0) (ca1 (cx (cv 2) (cv 3))))) (sW (cv 2) (cv 3)))
  (wQ (bQ (zS (bX (pQ mQ yX rfl T.yQ rfl (qQ (cv 1) (ca1 (tX (n:="tuple") rfl T.nZ rfl))))) (ctp T.nZ (cv 2)) (cv 2)))))))),?_⟩
 .obtain ⟨_,_,_,_,_,_,rfl,_⟩:=h; rfl
 rintro ts C R ⟨t,ns,N,x,tr,k,rfl,hT,ht,hL,hx,hk,hw,hk1,hd,q⟩;have oth:∀C2,Tp C2 t ns->Ex t C C2->gOth [.ref t,x] C2 R:=fun C2 T2 e2=>⟨t,ns,N,x,tr,k,rfl,T2,ht,hL.ex T2 e2,uZ (GrN.ex ht e2) hx,hk,hw,hk1,fun y u C3 b1 b2 b3 b4 T3 e3=>q y u C3 b1 b2 b3 b4 T3 (e2.trans e3)⟩;have ty:=pV hx
 by_cases hsq:sX tr=.tup\/sX tr=.lst
 .obtain ⟨us,xs,ix,etw,edp,esm,hc⟩:=xE hx hsq
  have hsm:=mZ.1 (esm _ hk);have hdp:=gJ.1 (AG (dps us));have hlu:=iJ us;have hlx:=kX ix;have any1:[Ty.tup,.lst].any (iQ (sX tr))=true:=by rcases hsq with h | h<;>(rw[h]; rfl)
  refine tQ (fun ρ' C'=>0 < xs.length/\Tp C' t ns/\Ex t C C'/\ρ'=[some (.ref t),some x,none,none]) (fun L hL'=>?_) ?_
  .refine ⟨zS0 2 rfl,eV [.tup,.lst] ty ?_⟩
   rw[any1];refine iF (sq_len hc GrN.refl (oX (vX _ _) (uJ (fun hb=>?_) fun hb=>?_)))
   .exact gI rfl (oth C hT Ex.refl)
   .have h0:=Cq hb
    refine⟨t,4,ns,rfl,hT,by decide,by decide,fun v C1 v0 v1 T1 e1=>oX (vX _ _) (uJ (fun hb2=>oth C1 T1 e1) fun hb2=>jX (hL' _ _ ⟨by omega,T1,e1,rfl⟩))⟩
  rintro ρ' C1 ⟨h0,T1,e1,rfl⟩
  try dsimp only
  have g1:GrN N C C1:=GrN.ex ht e1;have L1:=hL.ex T1 e1;refine cQ (Qm rfl (oC hc g1 fun p hp=>?_));have J0:OJ C (vQ C1 p (.lst xs)) t ns N p us xs (4 * k+400) (tws us) (dps us):=⟨zQ,rQ (GrN.gr (Gr.new hp _)) (fJ (N:=N) (fun a ha=>ha.elim .inl fun z=>.inr (z▸hp)) (rQ g1 ix)),fun u hu=>iG (by omega) (hsm u hu),AG _,hdp,T1.new hp _,e1.trans (Ex.new hp _),L1.not hp,e1.nn (T1.ne hp) hp,L1.gr (Gr.new hp _)⟩
  generalize vQ C1 p (.lst xs)=C2 at J0 ⊢
  try dsimp only
  refine cQ (uU J0.m ⟨t,_,ns,rfl,J0.T,by omega,by omega,fun u C3 u0 u1 T3 e3=>?_⟩);obtain⟨i,rfl⟩:∃i:Nat,u=(i:Nat):=⟨u.toNat,by omega⟩;have hi:i < xs.length:=by omega
  have J1:=J0.ex ht T3 e3;clear J0;obtain⟨tr1,et,it⟩:=hX J1.i (AH hi);have hm:=AE et;have wm:=nJ hm;have dm:=hdp _ hm
  try dsimp only
  refine xZ (yZ J1.m (qV hi) ⟨t,ns,Ad N p,xs[i],tr1,k,rfl,T3,.inl ht,J1.v.ad J1.m,it,hsm _ hm,by omega,hk1,by omega,fun y u C4 b1 b2 b3 b4 T4 e4=>?_⟩);have J2:=J1.ex ht T4 e4;have hix:=ixN_at hi;refine yE J2.m (j:=i) hix ?_;have w1:=gF (u:=u) et
  have J3:OJ C _ t ns N p (us.set i u) (xs.set i y) (4 * k+400) (2 * tws us+10) (dps us+4):=J2.put ht (gD b1 i J2.i) (fun z hz=>by
   rcases CJ hz with hz | rfl
   .exact J2.s z hz
   .exact b2) (by omega) fun z hz=>by
   rcases CJ hz with hz | rfl
   .exact AX (J2.d z hz) (by omega)
   .omega
  have w3:=J3.w;have d3:=gJ.2 J3.d;generalize vQ C4 p (.lst (xs.set i y))=C5 at J3 ⊢
  try dsimp only
  refine uX (T:=.tup) rfl (pV (uZ (GrN.ex ht J3.e) hx)) (uJ (fun hb=>?_) fun hb=>?_)
  .exact nC J3.m (q _ (.tup (us.set i u)) C5 J3.istup (by rw[Sm]; exact mZ.2 J3.s) (by rw[tw]; omega) (by rw[dp]; omega) J3.T J3.e)
  .exact q _ (.lst (us.set i u)) C5 J3.islst (by rw[Sm]; exact mZ.2 J3.s) (by rw[tw]; omega) (by rw[dp]; omega) J3.T J3.e
 .have nosq:[Ty.tup,.lst].any (iQ (sX tr))=false:=by
   revert hsq;generalize sX tr=n;cases n<;>first | (intro _; rfl) | (intro h; exact absurd (by simp) h)
  refine xZ ⟨zS0 2 rfl,eV [.tup,.lst] ty ?_⟩;rw[nosq];exact wA (oth C hT Ex.refl)
theorem ok_bent (T:Tx W a)(d:Nat):Ok W a (d+3) 10 U0 (gBe d):=by
 induction d with
 |zero=>exact fW fun ts C Q ⟨_,_,_,_,tr,_,_,_,_,_,_,_,_,_,h,_⟩=>absurd (lD tr) (by omega)
 |succ d ih=>exact jN T d (d+3) (by omega) ih
end
theorem aC {g:TCG}{u:TCS}{E:CEnds}(n:Nat)(I:Nat->CSt->CH->Prop)(step:∀k ρ C,k < n->I k ρ C->∀L:CSt->CH->Prop,(∀ρ' C',I (k+1) ρ' C'->L ρ' C')->g (.int (k:Nat)) ρ C fun ρ1 C1=>u (E.lp L) ρ1 C1)(fin:∀ρ C,I n ρ C->E.nx ρ C)(ρ:CSt)(C:CH)(h:I 0 ρ C):pK g u E ((List.range n).map fun k=>PV.int (k:Nat)) ρ C:=by
 refine dO (fun zs ρ C=>∃k,k<=n/\zs=((List.range n).drop k).map (fun k=>PV.int (k:Nat))/\I k ρ C) ?_ ?_ _ _ _ ⟨0,A0 _,by rw[DW],h⟩
 .rintro x r ρ C ⟨k,hk,e,h⟩ L hL
  by_cases hlt:k < n
  .rw [A2 (by rw[BU]; exact hlt),Aa,List.getElem_range] at e
   cases e;exact step k ρ C hlt h L fun ρ' C' h'=>hL _ _ ⟨k+1,hlt,rfl,h'⟩
  .rw [List.drop_eq_nil_of_le (by rw[BU]; omega)] at e
   cases e
 .rintro ρ C ⟨k,hk,e,h⟩
  have:n<=k:=by
   by_cases hlt:k < n
   .rw [A2 (by rw[BU]; exact hlt),Aa] at e
    cases e
   .omega
  cases (show k=n by omega);exact fin ρ C h
def KS:List (gQ×PV):=[(.inl (.inl (some 0)),.int 0),(.inl (.inl (some 1)),.int 1),(.inl (.inr "a"),.str "a"),(.inr [],.tup []),(.inr [.inl (some 1)],.tup [.int 1]),(.inr [.inr "a",.inl (some 0)],.tup [.str "a",.int 0]),(.inl (.inl none),.non)]
theorem KS_ok:gZ KS:=⟨by unfold KS; simp[aZ,wK,bV],by decide +kernel⟩
theorem fN {l ks:List (gQ×PV)}(h:List.Sublist l ks)(ok:gZ ks):gZ l:=⟨fun p hp=>ok.1 p (h.subset hp),ok.2.sublist (h.map _)⟩
theorem iA:∀{l:List (gQ×PV)},(∀p∈l,kw p.2<=3)->kws l<=3 * l.length
 |[],_=>A0 _
 |p::l,h=>by
  rw[kws,Ai];have:=h p AQ;have:=iA (l:=l) fun q hq=>h q (AO _ hq);omega
theorem jG {kvs:List (gQ×PV×PV)}{m:gQ}{y v:PV}(h:m∉kvs.map (·.1)):xJ kvs m y v=kvs++[(m,y,v)]:=by
 have e:atV kvs m=none:=mL fun j p hj=>h (Ae.2 ⟨_,AE hj,rfl⟩);unfold xJ;rw[e]
 rfl
def wB:Nat->Nat
 |0=>1
 |d+1=>10+3 * wB d
section
variable {W:Wd}{a:Adr}
def K3 (u:Tr):Prop:=∀ks us,u=.dct ks us->ks.length<=3
inductive gTh (d:Nat)(ts:List PV)(C:CH)(Q:K1):Prop
 |mk (t:Addr) (ns:List Int) (N:Addr->Prop) (z0:ts=[.ref t,.int (d:Nat)]) (z1:Tp C t ns) (z2:N t) (z3:Lv N C) (z4:∀y u C',Is C' N u y->Sm 0 u->tw u<=wB d->dp u<=d+2->K3 u->Tp C' t ns->Ex t C C'->Q y C'):gTh d ts C Q
def gThL (d:Nat):GC:=fun ts C Q=>∃d',d=d'+1/\gTh d' ts C Q
theorem wU (T:Tx W a)(d r:Nat)(h3:2<=r)(lY:Ok W a r 12 U3 (gThL d)):Ok W a (r+1) 12 U3 (gTh d):=by
 have S:=(T.F 12 rfl).s;have gX:=(tV T).mono (show 1<=r by omega);have uC:=(eS T).mono (show 2<=r by omega)
 refine(T.F 12 rfl).ok (fun ts C R h=>?_) fun cdv A outer s H E hr=>⟨_,(xQ (cs1 2 S.nd (cf (T.F 5 rfl) gX hr (qQ (cv 0) (ca1 jQ))))
  (xQ (aQ (cw_pt (cw_or (ct2 cZ pX (cv 1) jQ) (cw_or1 (ct2 vM mY (cv 2) jQ)))) (wQ (bQ (cf (T.F 11 rfl) uC hr (ca1 (cv 0))))) dQ)
  (xQ (sM 6 (i:=3) (by decide) (show(U2:List Str).Nodup by decide +kernel) rfl (Or.inl rfl) rfl (show(["_law_k","_law_tape_here","_law_deep","_law_way","_law_some","_law_keys","_law_found","?"]:List Str).Nodup by decide +kernel) (eU (N:=U2) (sc:=sQ (top 14)) rfl rfl rfl (by decide +kernel)) (kC rfl T.uW (ca1 (cf (T.F 5 rfl) gX hr (qQ (cv 0) (ca1 jQ))))) (fun _ _ _ _ _=>zL) (fun _ _ _ _ _=>(cf (T.F 12 rfl) lY hr (qQ (cv 1) (ca1 (zX oF uG (cv 2) jQ))))))
  (xQ (aQ (ct2 vM mY (cv 2) jQ) (wQ (bQ (ctp T.nZ (cv 3)))) dQ)
  (xQ (aQ (ct2 cZ pX (cv 2) jQ) (wQ (bQ (cv 3))) dQ)
  (xQ (cs1 4 S.nd (wW (zZ (qQ jQ (qQ jQ (qQ fQ (qQ (fX nV) (qQ (fX (ca1 jQ)) (qQ (fX (qQ fQ (ca1 jQ))) (ca1 yK)))))))) (zK (cf (T.F 5 rfl) gX hr (qQ (cv 0) (ca1 jQ)))) jK))
  (xQ (cs1 5 S.nd mG)
  (xQ (tR PassesOwn.never rfl rfl T.uW (ca1 (pQ (qO rfl) cbi_min rfl T.z_min rfl (qQ (cln T.mJ (cv 4)) (ca1 (cln T.mJ (cv 3)))))) (cg1 6 S.nd) (wQ (yG (jV hr) (cv 5) (cx (cv 4) (cv 6)) (cx (cv 3) (cv 6)))))
  (wQ (bQ (cv 5))))))))))),?_⟩
 .obtain ⟨_,_,_,rfl,_⟩:=h; rfl
 rintro ts C R ⟨t,ns,N,rfl,hT,ht,hL,q⟩;refine cQ ⟨t,6,ns,rfl,hT,by decide,by decide,fun v C1 v0 v1 T1 e1=>?_⟩
 try dsimp only
 have L1:=hL.ex T1 e1;have sg:gSg [.ref t] C1 R:=⟨t,ns,rfl,T1,fun y C2 hs hb T2 e2=>q y (.sg y) C2 (sJ hs) (by rw[Sm]; exact scN_of hb) (by rw[tw]; cases d<;>(unfold wB; omega)) (by rw[dp]; omega) (fun _ _ z=>nomatch z) T2 (e1.trans e2)⟩;refine tQ (fun ρ' C'=>C'=C1/\(∃d',d=d'+1)/\ρ'=[some (.ref t),some (.int (d:Nat)),some (.int v),none,none,none,none]) (fun L hL'=>?_) ?_
 .refine oX (vX _ _) (uJ (fun hb=>gI rfl sg) fun hb=>?_)
  have h0:=Cq hb;refine i_i (uJ (fun hb2=>sg) fun hb2=>jX (hL' _ _ ⟨rfl,⟨d - 1,by omega⟩,rfl⟩))
 rintro ρ' C2 ⟨rfl,⟨d',rfl⟩,rfl⟩
 try dsimp only
 refine xZ ?_;refine⟨t,4,ns,rfl,T1,by decide,by decide,fun m C3 m0 m1 T3 e3=>⟨by omega,by omega,?_⟩⟩;obtain⟨m,rfl⟩:∃i:Nat,m=(i:Nat):=⟨m.toNat,by omega⟩;rw[B4];refine fY (fun zs acc C4=>∃us,us.length+zs.length=m/\Iss C4 N us acc/\(∀u∈us,Sm 0 u/\tw u<=wB d'/\dp u<=d'+2)/\Tp C4 t ns/\Ex t C C4/\Lv N C4) ?_ ?_ _ _ _ ⟨[],by rw[AD,BU,Bi,Nat.zero_add],iZ,fun _ z=>(nomatch z),T3,e1.trans e3,L1.ex T3 e3⟩
 .rintro x r acc C4 ⟨us,hl,hi,hu,T4,e4,L4⟩ L hL'
  rw[Ai] at hl;have hla:=kX hi;refine i_i ⟨d',rfl,t,ns,N,?_,T4,ht,L4,fun y u C5 b1 b2 b3 b4 _ T5 e5=>hL' _ _ ⟨Aq (show acc.length<=4 by omega) (by decide),us++[u],by rw[AM,Ak]; omega,pJ (rQ (GrN.ex ht e5) hi) (fZ b1),fun z hz=>?_,T5,e4.trans e5,L4.ex T5 e5⟩⟩
  .show [PV.ref t,PV.int (((d'+1:Nat):Int) - 1)]=_
   rw[show((d'+1:Nat):Int) - 1=(d':Int) by omega]
  .rcases AS.1 hz with hz | hz
   .exact hu z hz
   .cases AW.1 hz
    exact⟨b2,b3,b4⟩
 rintro acc C4 ⟨us,hl,hi,hu,T4,e4,L4⟩ p hp;rw[Bi,BG] at hl;have hla:=kX hi
 have hws:∀{l:List Tr},(∀u∈l,Sm 0 u/\tw u<=wB d'/\dp u<=d'+2)->tws l<=wB d' * l.length:=fun {l}=>by
  induction l with
  |nil=>intro _; rw[tws]; exact A0 _
  |cons z l ih =>
   intro h;rw[tws,Ai,Nat.mul_add,Nat.mul_one];have:=(h z AQ).2.1;have:=ih fun y hy=>h y (AO _ hy);omega
 have hw:tws us<=3 * wB d':=by
  have h1:=hws hu;have h2:wB d' * us.length<=wB d' * 3:=Nat.mul_le_mul_left _ (by omega);omega
 have hdp:dps us<=d'+2:=gJ.2 fun u hu'=>(hu u hu').2.2;have hsm:Sms 0 us:=mZ.2 fun u hu'=>(hu u hu').1;have g5:=Gr.new hp (.lst acc);have n5:=L4.not hp;have m5:vQ C4 p (.lst acc) p=some (.lst acc):=zQ;have i5:=rQ (GrN.gr g5) hi;have T5:=T4.gr g5;have e5:=e4.trans (Ex.gr g5);have L5:=L4.gr g5;generalize vQ C4 p (.lst acc)=C5 at g5 m5 i5 T5 e5 L5 ⊢
 try dsimp only
 refine xZ (i_i (uJ (fun hb=>?_) fun hb=>jX ?_))
 .exact nC m5 (q _ (.tup us) C5 (by rw[Is]; exact⟨_,rfl,i5⟩) (by rw[Sm]; exact hsm) (by rw[tw,wB]; omega) (by rw[dp]; omega) (fun _ _ z=>nomatch z) T5 e5)
 dsimp only[CEnds.wn];refine xZ (oX (vX _ _) (uJ (fun hb=>?_) fun hb=>jX ?_))
 .exact q _ (.lst us) C5 (by rw[Is]; exact⟨_,_,rfl,n5,m5,i5⟩) (by rw[Sm]; exact hsm) (by rw[tw,wB]; omega) (by rw[dp]; omega) (fun _ _ z=>nomatch z) T5 e5
 dsimp only[CEnds.wn];refine cQ ?_;refine⟨zS0 0 rfl,?_⟩;refine⟨zS0 1 rfl,?_⟩;refine⟨zS0 2 rfl,?_⟩;refine⟨zS0 7 rfl,fun p6 h6=>?_⟩;refine⟨t,4,ns,rfl,T5.new h6 _,by decide,by decide,fun w C7 w0 w1 T7 e7=>?_⟩;obtain⟨w,rfl⟩:∃i:Nat,w=(i:Nat):=⟨w.toNat,by omega⟩;have m6:=e7 _ _ (T5.ne h6) zQ;have np:p≠t:=fun z=>n5 (z▸ht);have m7:=e7 _ _ np (Gr.new h6 _ _ _ m5)
 refine sH m6 fun p8 h8=>?_;rw[sD];have ek:([.int 0,.int 1,.str "a",.tup [],.tup [.int 1],.tup [.str "a",.int 0],.non]:List PV)=KS.map (·.2):=rfl;rw[ek,<- List.map_drop];have L7:=(L5.gr (Gr.new h6 _)).ex T7 e7;have i7:=rQ (GrN.ex ht e7) (rQ (GrN.gr (Gr.new h6 _)) i5);have g8:=Gr.new h8 (.lst ((KS.drop w).map (·.2)));have ks8:vQ C7 p8 (.lst ((KS.drop w).map (·.2))) p8=some (.lst ((KS.drop w).map (·.2))):=zQ
 have m8:=g8 _ _ m7;have L8:=L7.gr g8;have i8:=rQ (GrN.gr g8) i7;have T8:=T7.gr g8;have e8:=((e5.trans (Ex.new h6 _)).trans e7).trans (Ex.gr g8);generalize vQ C7 p8 (.lst ((KS.drop w).map (·.2)))=C8 at g8 ks8 m8 i8 T8 e8 L8 ⊢
 try dsimp only
 refine cQ fun d9 ob h9=>?_;have n9:=L8.not h9;have g9:=Gr.new h9 (.dM ob []);have i9:=rQ (GrN.gr g9) (fJ (N':=Ad N d9) (fun a ha=>ha.elim .inl fun z=>.inr (z▸h9)) i8);have hkl:(KS.drop w).length=7 - w:=by rw[Br]; rfl
 have hok:gZ (KS.drop w):=fN (List.drop_sublist _ _) KS_ok;have hk3:∀p∈KS,kw p.2<=3:=by unfold KS; simp[kw]
 have c9:C d9=none:=e8.nn (T8.ne h9) h9
 try dsimp only
 refine tQ (fun ρ' C'=>∃ob kvs,ρ'[5]?=some (some (.ref d9))/\C' d9=some (.dM ob kvs)/\jJ kvs=(KS.drop w).take us.length/\kvs.map (·.2.2)=acc/\Iss C' (Ad N d9) us acc/\Tp C' t ns/\Ex t C C') (fun L hL'=>?_) ?_
 .refine uU (g9 _ _ ks8) (uU (g9 _ _ m8) (min_s ⟨?_,?_,?_⟩))
  .split<;>omega
  .split<;>omega
  .have en:(if (acc.length:Int) < (((KS.drop w).map (·.2)).length:Nat) then (acc.length:Int) else (((KS.drop w).map (·.2)).length:Nat)).toNat=acc.length:=by
    rw[AD,hkl]
    split<;>omega
   rw[en];refine aC acc.length (fun k ρ' C'=>∃kk ob kvs,ρ'=[some (.ref t),some (.int ((d'+1:Nat):Int)),some (.int v),some (.ref p),some (.ref p8),some (.ref d9),kk]/\C' d9=some (.dM ob kvs)/\jJ kvs=(KS.drop w).take k/\kvs.map (·.2.2)=acc.take k/\Iss C' (Ad N d9) us acc/\C' p8=some (.lst ((KS.drop w).map (·.2)))/\C' p=some (.lst acc)/\Tp C' t ns/\Ex t C C') ?_ ?_ _ _ ⟨none,ob,[],rfl,zQ,rfl,rfl,i9,g9 _ _ ks8,g9 _ _ m8,T8.gr g9,e8.trans (Ex.gr g9)⟩
   .rintro k ρ' C' hk ⟨kk,ob',kvs,rfl,md,ek,ev,ii,mk8,mp,TT,ee⟩ L hL''
    have hk7:k < (KS.drop w).length:=by omega
    have hkm:k < ((KS.drop w).map (·.2)).length:=by rw[AD]; exact hk7
    have nd1:p8≠d9:=fun z=>by rw[z,md] at mk8; cases mk8
    have nd2:p≠d9:=fun z=>by rw[z,md] at mp; cases mp
    have nd3:d9≠t:=fun z=>n9 (z▸ht);have hmk:aZ ((KS.drop w)[k]).2=some ((KS.drop w)[k]).1:=hok.1 _ (DD hk7)
    have lk:kvs.length=k:=by
     have:=Bq List.length ek;rw[AD,Bb] at this;omega
    have nin:((KS.drop w)[k]).1∉kvs.map (·.1):=fun hin=>by
     have e1:kvs.map (·.1)=((KS.drop w).take k).map (·.1):=by rw[<- ek,Bo]; rfl
     rw[e1,List.map_take] at hin;have nd:=hok.2;rw[<- Cc k ((KS.drop w).map (·.1)),CZ] at nd;refine nd.2.2 _ hin _ ?_ rfl;rw[A2 (by rw[AD]; exact hk7),List.getElem_map];exact AQ
    refine yZ mp (qV hk) (yZ mk8 (qV hkm) ?_);rw[List.getElem_map];refine zD md hmk (by omega) fun o'=>?_;rw[jG nin];refine hL'' _ _ ⟨some (.int (k:Nat)),o',_,rfl,zQ,?_,?_,rQ (GrN.put (.inr rfl) _) ii,by rw[oQ nd1]; exact mk8,by rw[oQ nd2]; exact mp,TT.put nd3 _,ee.put c9 _⟩
    .unfold jJ at ek ⊢
     rw[Ap,ek,List.take_succ_eq_append_getElem hk7]; rfl
    .rw [Ap,ev,List.take_succ_eq_append_getElem hk]; rfl
   .rintro ρ' C' ⟨kk,ob',kvs,rfl,md,ek,ev,ii,mk8,mp,TT,ee⟩
    exact hL' _ _ ⟨ob',kvs,rfl,md,by rw[ek,hla],by rw[ev,DC],ii,TT,ee⟩
 rintro ρ' C' ⟨ob',kvs,hρ,md,ek,ev,ii,TT,ee⟩;show bJ 5 ρ' C' _;unfold bJ;rw[hρ];have hkw:=iA (l:=(KS.drop w).take us.length) fun p hp=>hk3 p (Bn (Bm hp));have hlk:((KS.drop w).take us.length).length<=us.length:=by rw[Bb]; omega
 refine q _ (.dct ((KS.drop w).take us.length) us) C' ?_ (by rw[Sm]; exact hsm) (by rw[tw,wB]; omega) (by rw[dp]; omega) (fun _ _ z=>by cases z; omega) TT ee;rw[Is];refine⟨d9,ob',kvs,rfl,n9,md,ek,fN (List.take_sublist _ _) hok,?_⟩;rw[ev];exact yJ (fun _ z=>.inl z) ii
theorem yA (T:Tx W a)(d:Nat):Ok W a (d+3) 12 U3 (gTh d):=by
 induction d with
 |zero=>exact wU T 0 2 (AG _) (fW fun ts C Q ⟨d',e,_⟩=>by omega)
 |succ d ih =>
  have e1:gThL (d+1)=gTh d:=by
   funext ts C Q
   refine propext ⟨fun⟨d'',z,h⟩=>?_,fun h=>⟨d,rfl,h⟩⟩;cases Bl z;exact h
  exact wU T (d+1) (d+3) (by omega) (by rw[e1]; exact ih)
end
theorem Qe {S:CH->Prop}{c:TCE}{ρ:CSt}{Q:K1}(I:List PV->List PV->CH->Prop)(hS:∀r acc C,I r acc C->S C)(step:∀x r acc C,I (x::r) acc C->∀L:K1,(∀y C2,acc.length < sizeLine/\I r (acc++[y]) C2->L y C2)->c (some x::ρ) C L)(fin:∀acc C,I [] acc C->∀p,C p=none->Q (.ref p) (vQ C p (.lst acc))):
  ∀xs acc C,I xs acc C->xW S cYes c ρ Q xs acc C:=by
 intro xs
 induction xs with
 |nil=>intro acc C h; exact⟨hS _ _ _ h,fin acc C h⟩
 |cons x r ih =>
  intro acc C h;exact⟨hS _ _ _ h,step x r acc C h _ fun y C2 z=>⟨z.1,ih _ _ z.2⟩⟩
theorem compQ_t {i:Nat}{xs:List PV}{t:TCT}{c:TCE}{ρ:CSt}{C:CH}{Q:K1}(hv:ρ[i]?=some (some (.tup xs)))(h:tZ t c ρ Q xs [] C):dY (bJ i) t c ρ C Q:=by
 unfold dY bJ;rw[hv];exact h
theorem compQ_l {i:Nat}{d:Addr}{xs:List PV}{t:TCT}{c:TCE}{ρ:CSt}{C:CH}{Q:K1}(hv:ρ[i]?=some (some (.ref d)))(m:C d=some (.lst xs))(h:xW (fun C=>C d=some (.lst xs)) t c ρ Q xs [] C):dY (bJ i) t c ρ C Q:=by
 unfold dY bJ;rw[hv];dsimp only;rw[m];exact h
theorem lA {α:Type}{l:List α}(h:l.Nodup):l.reverse.Nodup:=List.pairwise_reverse.2 (h.imp fun h e=>h e.symm)
theorem bR:∀l:List (gQ×PV),kws l.reverse=kws l
 |[]=>rfl
 |x::l=>by rw[BS,kG,bR l,kws,kws,kws,BG,Nat.add_comm]
def NewD (C C':CH)(N:Addr->Prop)(y:PV)(u:Tr)(n:Nat):Prop:=∃p ob kvs us,y=.ref p/\kvs.length=n/\C p=none/\C' p=some (.dM ob kvs)/\u=.dct (jJ kvs) us/\gZ (jJ kvs)/\Iss C' (Ad N p) us (kvs.map (·.2.2))
section
variable {W:Wd}{a:Adr}
inductive gCp (d:Nat)(ts:List PV)(C:CH)(Q:K1):Prop
 |mk (x:PV) (tr:Tr) (N:Addr->Prop) (k:Nat) (z0:ts=[x]) (z1:Is C N tr x) (z2:Lv N C) (z3:dp tr<=d) (z4:tw tr<=4000) (z5:Sm k tr) (z6:∀y u C',Is C' N u y->Sm k u->tw u<=tw tr->dp u<=dp tr->sX u=sX tr->(∀ks us,tr=.dct ks us->NewD C C' N y u ks.length)->Gr C C'->Q y C'):gCp d ts C Q
theorem zN (T:Tx W a)(d r:Nat)(cK:Ok W a r 13 U5 (gCp d)):Ok W a (r+1) 13 U5 (gCp (d+1)):=by
 have S:=(T.F 13 rfl).s
 refine(T.F 13 rfl).ok (fun ts C R h=>?_) fun cdv A outer s H E hr=>⟨_,(xQ (aQ (bX (pQ mQ yX rfl T.yQ rfl (qQ (cv 0) (ca1 (tX (n:="dict") rfl T.lH rfl))))) (xQ (cs1 1 S.nd mG)
  (xQ (cs_forV PassesOwn.never rfl rfl T.cH (kJ (zB rfl) xH rfl T.vK rfl (ca1 (cv 0))) (cg1 2 S.nd) (wQ (yG (jV hr) (cv 1) (cv 2) (cf (T.F 13 rfl) cK hr (ca1 (cxm (jV hr) (cv 0) (cv 2)))))))
  (wQ (bQ (cv 1))))) dQ)
  (xQ (aQ (bX (pQ aK pY rfl T.yQ rfl (qQ (cv 0) (ca1 (fX (qQ (tX (n:="tuple") rfl T.nZ rfl) (ca1 (tX (n:="list") rfl T.vK rfl)))))))) (xQ (eI (i:=3) S.nd rfl (Or.inl rfl) rfl (S.c (by decide +kernel)) (S.k (L:=0) rfl rfl rfl (by decide +kernel)) (cv 0) (fun _ _ _ _ _=>zL) (fun _ _ _ _ _=>(cf (T.F 13 rfl) cK hr (ca1 (cv 0)))))
  (wQ (bQ (zS (bX (pQ mQ yX rfl T.yQ rfl (qQ (cv 0) (ca1 (tX (n:="tuple") rfl T.nZ rfl))))) (ctp T.nZ (cv 3)) (cv 3))))) dQ)
  (wQ (bQ (cv 0))))),?_⟩
 .obtain ⟨_,_,_,_,rfl,_⟩:=h; rfl
 rintro ts C R ⟨x,tr,N,k,rfl,hx,hL,hd,hw,hk,q⟩;have ty:=pV hx
 by_cases hdc:sX tr=.dct
 .cases tr with
  |sg y=>exact absurd hdc (by cases y<;>exact fun e=>nomatch e)
  |tup ts=>cases hdc
  |lst ts=>cases hdc
  |dct ks ts =>
   rw[Is] at hx;obtain⟨a1,o1,kvs,rfl,n1,m1,e1,ok1,i1⟩:=hx;rw[tw] at hw;rw[dp] at hd;rw[Sm] at hk;have hkm:=mZ.1 hk;have hlk:=dW ks;have lk:kvs.length=ks.length:=by rw[<- e1,AD]
   have lt:=kX i1;rw[AD] at lt;refine xZ (uX (T:=.dct) rfl ty (zJ rfl ?_));dsimp only[CEnds.wn];refine cQ fun p ob hp=>?_;have g1:=Gr.new hp (.dM ob []);have n2:=hL.not hp;have L2:Lv (Ad N p) (vQ C p (.dM ob [])):=(hL.gr g1).ad zQ;have i2:=rQ (GrN.gr g1) (fJ (N':=Ad N p) (fun a ha=>ha.elim .inl fun z=>.inr (z▸hp)) i1);have ir:=bD i2;rw[<- Ce] at ir
   try dsimp only
   refine tQ (fun ρ' C'=>∃ob kv us,ρ'[1]?=some (some (.ref p))/\C' p=some (.dM ob kv)/\jJ kv=ks.reverse/\Iss C' (Ad N p) us (kv.map (·.2.2))/\tws us<=tws ts/\(∀u∈us,Sm k u/\dp u<=dps ts)/\Gr C C') (fun L hL'=>?_) ?_
   .refine oA (g1 _ _ m1) fun l hl=>?_
    have ml:vQ (vQ C p (.dM ob [])) l (.lst (kvs.map (·.2.1))) l=some (.lst (kvs.map (·.2.1))):=zQ;dsimp only;rw[ml];show iK (fun C=>C l=some (.lst (kvs.map (·.2.1)))) _ _ _ (kvs.map (·.2.1)).reverse _ _;rw[<- Ce];have nl:l≠p:=fun z=>by rw[z,zQ] at hl; cases hl
    have g2:=Gr.new hl (.lst (kvs.map (·.2.1)));refine uK (·.2.1) kvs.reverse (fun pre ρ' C'=>∃kk ob0 kv us,ρ'=[some (.ref a1),some (.ref p),kk,none]/\C' p=some (.dM ob0 kv)/\C' l=some (.lst (kvs.map (·.2.1)))/\jJ kv=pre.map (fun p=>(p.1,p.2.1))/\Iss C' (Ad N p) us (kv.map (·.2.2))/\tws us<=tws (ts.reverse.take pre.length)/\(∀u∈us,Sm k u/\dp u<=dps ts)/\Gr C C'/\Lv (Ad N p) C'/\GrN (Ad N p) (vQ C p (.dM ob [])) C') ?_ ?_ kvs.reverse [] _ _ rfl ⟨none,ob,[],[],rfl,g2 _ _ zQ,ml,rfl,iZ,by rw[tws]; exact A0 _,fun _ z=>(nomatch z),g1.trans g2,L2.gr g2,GrN.gr g2⟩
    .rintro pre x lQ ρ C2 ea ⟨kk,ob2,kv,us,rfl,mp,ml2,ek,iu,hw2,hu,g3,L3,gn⟩
     refine⟨ml2,fun L hL2=>?_⟩;have hx:kvs.reverse[pre.length]?=some x:=by rw[ea,A8 (AG _),Nat.sub_self]; rfl
     have hxm:=Cd.1 (AE hx);obtain⟨j,hj⟩:=AZ.1 hxm;have hkx:=cW e1 hj;have hm:aZ x.2.1=some x.1:=ok1.1 _ (AE hkx);obtain⟨t,ht,it⟩:=hX ir (show(kvs.reverse.map (·.2.2))[pre.length]?=some x.2.2 by rw[AL,hx]; rfl);have htm:=Cd.1 (AE ht)
     have hlt:pre.length < kvs.length:=by
      have:=(AI.1 hx).1
      rwa [BI] at this
     have lkv:kv.length=pre.length:=by
      have:=Bq List.length ek
      rwa [AD,AD] at this
     have nin:x.1∉kv.map (·.1):=fun hin=>by
      have e0:kv.map (·.1)=pre.map (·.1):=by
       have:(jJ kv).map (·.1)=(pre.map (fun p=>(p.1,p.2.1))).map (·.1):=by rw[ek]
       rwa [Bo,Bo] at this
      have nd:(kvs.reverse.map (·.1)).Nodup:=by rw[Ce]; exact lA (gV e1 ok1)
      rw[ea,Ap,Aa,CZ] at nd;rw[e0] at hin;exact nd.2.2 x.1 hin x.1 AQ rfl
     refine gM (g3 _ _ m1) hm (p:=(x.2.1,x.2.2)) (cJ (gV e1 ok1) hj) ?_;refine⟨x.2.2,t,Ad N p,k,rfl,uZ gn it,L3,by have:=gJ.1 (AG (dps ts)) t htm; omega,by have:=nJ htm; omega,hkm t htm,fun y u C4 b1 b2 b3 b4 _ _ g4=>?_⟩;refine zD (g4 _ _ mp) hm (by omega) fun o'=>hL2 _ _ ⟨some x.2.1,o',_,us++[u],rfl,zQ,?_,?_,?_,?_,?_,cV (g3.trans g4) hp _,(L3.gr g4).put _ _,(gn.trans (GrN.gr g4)).trans (GrN.put (.inr rfl) _)⟩
     .rw [oQ nl]; exact g4 _ _ ml2
     .rw [jG nin]
      unfold jJ at ek ⊢;rw[Ap,Ap,ek]
      rfl
     .rw [jG nin,Ap]
      exact rQ (GrN.put (.inr rfl) _) (pJ (rQ (GrN.gr g4) iu) (fZ b1))
     .rw [bZ,AM,Ak,DV,ht,bZ]
      show tws us+tws [u]<=tws (ts.reverse.take pre.length)+tws [t];rw[tws,tws,tws,tws];omega
     .intro z hz
      rcases AS.1 hz with hz | hz
      .exact hu z hz
      .cases AW.1 hz
       exact⟨b2,AX b4 (gJ.1 (AG (dps ts)) t htm)⟩
    .rintro ρ C2 ⟨kk,ob2,kv,us,rfl,mp,ml2,ek,iu,hw2,hu,g3,L3,gn⟩
     refine⟨ml2,hL' _ _ ⟨ob2,kv,us,rfl,mp,?_,iu,?_,hu,g3⟩⟩
     .rw [ek,Ce]; exact Bq List.reverse e1
     .rw [List.take_of_length_le (by rw[BI,BI]; omega),bF] at hw2
      exact hw2
   rintro ρ' C' ⟨ob2,kv,us,hρ,mp,ek,iu,hw2,hu,g3⟩;show bJ 1 ρ' C' _;unfold bJ;rw[hρ];have okr:gZ ks.reverse:=⟨fun p hp=>ok1.1 p (Cd.1 hp),by rw[Ce]; exact lA ok1.2⟩;refine q _ (.dct ks.reverse us) C' ?_ (by rw[Sm]; exact mZ.2 fun u h=>(hu u h).1) (by rw[tw,tw,bR]; omega) ?_ rfl (fun _ _ z=>by cases z; exact⟨p,ob2,kv,us,rfl,by have:=Bq List.length ek; rwa [AD,BI] at this,hp,mp,by rw[ek],by rw[ek]; exact okr,iu⟩) g3
   .rw [Is]
    exact⟨p,ob2,kv,rfl,n2,mp,ek,okr,yJ (fun _ z=>.inl z) iu⟩
   .have:=gJ.2 fun u h=>(hu u h).2
    rw[dp,dp];omega
 .have nodc:iQ (sX tr) .dct=false:=by
   revert hdc;generalize sX tr=n;cases n<;>first | (intro _; rfl) | (intro h; exact absurd rfl h)
  refine xZ (uX (T:=.dct) rfl ty (aX nodc (jX ?_)));dsimp only[CEnds.wn]
  by_cases hsq:sX tr=.tup\/sX tr=.lst
  .obtain ⟨us,xs,ix,etw,edp,esm,hc⟩:=xE hx hsq
   have hsm:=mZ.1 (esm _ hk);have hdp:=gJ.1 (AG (dps us));have hlu:=iJ us;have hlx:=kX ix;have any1:[Ty.tup,.lst].any (iQ (sX tr))=true:=by rcases hsq with h | h<;>(rw[h]; rfl)
   refine xZ ⟨zS0 2 rfl,eV [.tup,.lst] ty (zJ any1 ?_)⟩
   let I:List PV->List PV->CH->Prop:=fun zs acc C'=>∃vs,vs.length+zs.length=us.length/\zs=xs.drop vs.length/\Iss C' N vs acc/\tws vs<=tws (us.take vs.length)/\(∀v∈vs,Sm k v/\dp v<=dps us)/\Gr C C'
   have I0:I xs [] C:=⟨[],by rw[hlx]; exact Nat.zero_add _,by rw[Bi,DW],iZ,by rw[tws]; exact A0 _,fun _ z=>(nomatch z),Gr.refl⟩
   have step:∀x' r acc C',I (x'::r) acc C'->∀L:K1,(∀y C2,acc.length < sizeLine/\I r (acc++[y]) C2->L y C2)->gCp d [x'] C' L:=by
    rintro x' r acc C' ⟨vs,hl,ez,iv,hw2,hv,g⟩ L hL';have hlt:vs.length < xs.length:=by rw[Ai] at hl; omega
    rw[A2 hlt] at ez;cases ez;obtain⟨t,ht,it⟩:=hX ix (AH hlt);have htm:=AE ht;have hla:=kX iv;refine⟨xs[vs.length],t,N,k,rfl,uZ (GrN.gr g) it,hL.gr g,by have:=hdp t htm; omega,by have:=nJ htm; omega,hsm t htm,fun y u C4 b1 b2 b3 b4 _ _ g4=>hL' _ _ ⟨Aq (show acc.length<=4000 by omega) (by decide),vs++[u],?_,?_,pJ (rQ (GrN.gr g4) iv) (fZ b1),?_,?_,g.trans g4⟩⟩
    .rw [AM,Ak]; rw[Ai] at hl; omega
    .rw [AM,Ak]
    .rw [bZ,AM,Ak,DV,ht,bZ]
     show tws vs+tws [u]<=tws (us.take vs.length)+tws [t];rw[tws,tws,tws,tws];omega
    .intro z hz
     rcases AS.1 hz with hz | hz
     .exact hv z hz
     .cases AW.1 hz
      exact⟨b2,AX b4 (hdp t htm)⟩
   have fin:∀acc C',I [] acc C'->∀p,C' p=none->∀C2,C2=vQ C' p (.lst acc)->∃vs,Iss C2 N vs acc/\C2 p=some (.lst acc)/\¬ N p/\tws vs<=tws us/\Sms k vs/\dps vs<=dps us/\Gr C C2:=by
    rintro acc C' ⟨vs,hl,ez,iv,hw2,hv,g⟩ p hp C2 rfl;rw[Bi,BG] at hl;rw[hl,DC] at hw2;exact⟨vs,rQ (GrN.gr (Gr.new hp _)) iv,zQ,(hL.gr g).not hp,hw2,mZ.2 fun v h=>(hv v h).1,gJ.2 fun v h=>(hv v h).2,g.trans (Gr.new hp _)⟩
   rcases hc with ⟨rfl,rfl⟩ | ⟨a1,rfl,rfl,n1,m1⟩
   .refine cQ (compQ_t rfl (fY I (fun x' r acc C' h L hL'=>step x' r acc C' h L hL') (fun acc C' h p hp=>?_) xs [] C I0))
    obtain⟨vs,b1,b2,b3,b4,b5,b6,b7⟩:=fin acc C' h p hp _ rfl;generalize vQ C' p (.lst acc)=C2 at b1 b2 b7 ⊢
    try dsimp only
    exact uX (T:=.tup) rfl (k:=.tup) rfl (zJ rfl (nC b2 (q _ (.tup vs) C2 (by rw[Is]; exact⟨_,rfl,b1⟩) (by rw[Sm]; exact b5) (by rw[tw,tw]; omega) (by rw[dp,dp]; omega) rfl (fun _ _ z=>nomatch z) b7)))
   .refine cQ (compQ_l rfl m1 (Qe I (fun r acc C' h=>by obtain⟨vs,_,_,_,_,_,g⟩:=h; exact g _ _ m1) (fun x' r acc C' h L hL'=>step x' r acc C' h L hL') (fun acc C' h p hp=>?_) xs [] C I0))
    obtain⟨vs,b1,b2,b3,b4,b5,b6,b7⟩:=fin acc C' h p hp _ rfl;generalize vQ C' p (.lst acc)=C2 at b1 b2 b7 ⊢
    try dsimp only
    exact uX (T:=.tup) rfl (pV (uZ (GrN.gr b7) hx)) (aX rfl (q _ (.lst vs) C2 (by rw[Is]; exact⟨_,_,rfl,b3,b2,b1⟩) (by rw[Sm]; exact b5) (by rw[tw,tw]; omega) (by rw[dp,dp]; omega) rfl (fun _ _ z=>nomatch z) b7))
  .have nosq:[Ty.tup,.lst].any (iQ (sX tr))=false:=by
    revert hsq;generalize sX tr=n;cases n<;>first | (intro _; rfl) | (intro h; exact absurd (by simp) h)
   refine xZ ⟨zS0 2 rfl,eV [.tup,.lst] ty (aX nosq (jX ?_))⟩;exact q x tr C hx hk (AG _) (AG _) rfl (fun _ _ z=>absurd (by rw[z]; rfl) hdc) Gr.refl
theorem uR (T:Tx W a)(d:Nat):Ok W a (d+1) 13 U5 (gCp d):=by
 induction d with
 |zero=>exact fW fun ts C Q ⟨_,tr,_,_,_,_,_,h,_,_,_⟩=>absurd (lD tr) (by omega)
 |succ d ih=>exact zN T d (d+1) ih
end
theorem rB {a:Addr}{g:TCG}{u:TCS}{E:CEnds}(xs:List PV)(I:Nat->CSt->CH->Prop)(hm:∀k ρ C,I k ρ C->C a=some (.lst xs))(step:∀k ρ C x,xs[k]?=some x->I k ρ C->∀L:CSt->CH->Prop,(∀ρ' C',I (k+1) ρ' C'->L ρ' C')->g x ρ C fun ρ1 C1=>u (E.lp L) ρ1 C1)(fin:∀ρ C,I xs.length ρ C->E.nx ρ C):∀n k ρ C,xs.length < n+k->k<=xs.length->I k ρ C->sV a g u E n k ρ C
 |0,k,ρ,C,h1,h2,_=>absurd h1 (by omega)
 |n+1,k,ρ,C,h1,h2,h=>by
  unfold sV;rw[hm k ρ C h];dsimp only
  by_cases hk:k < xs.length
  .rw [AH hk]
   exact step k ρ C _ (AH hk) h _ fun ρ' C' h'=>rB xs I hm step fin n (k+1) ρ' C' (by omega) hk h'
  .rw [Bz (by omega)]
   cases (show k=xs.length by omega);exact fin ρ C h
theorem gY:∀{kv:List (gQ×PV×PV)}{i:Nat}{x:gQ×PV×PV},(kv.map (·.1)).Nodup->kv[i]?=some x->(kv.filter fun y=>decide (y.1≠x.1))=kv.eraseIdx i
 |[],i,x,_,h=>by simp at h
 |p::kv,i,x,nd,h=>by
  obtain⟨n1,n2⟩:=BE.1 (show(p.1::kv.map (·.1)).Nodup from nd)
  cases i with
  |zero =>
   cases h;rw[Bt (by simp),BV,List.filter_eq_self];intro q hq;exact Aw fun z=>n1 (z▸Ae.2 ⟨q,hq,rfl⟩)
  |succ i =>
   have hx:x∈kv:=AE (show kv[i]?=some x from h);have hh:decide (p.1≠x.1)=true:=Aw fun z=>n1 (by rw[z]; exact Ae.2 ⟨x,hx,rfl⟩);rw[Bs (p:=fun y:gQ×PV×PV=>decide (y.1≠x.1)) (a:=p) hh,Az,gY n2 h]
theorem xI {C:CH}{N:Addr->Prop}:∀{ts:List Tr}{xs:List PV}(i:Nat),Iss C N ts xs->Iss C N (ts.eraseIdx i) (xs.eraseIdx i)
 |[],xs,i,h=>by rw[Iss] at h; subst h; rw[Cv,Cv,Iss]
 |t::ts,xs,i,h=>by
  rw[Iss] at h;obtain⟨y,ys,rfl,h1,h2⟩:=h
  cases i with
  |zero=>rw[BV,BV]; exact h2
  |succ i=>rw[Az,Az]; exact lZ h1 (xI i h2)
theorem sA {α β:Type}{f:α->β}:∀{l:List α}{i:Nat},(l.map f).eraseIdx i=(l.eraseIdx i).map f
 |[],i=>by rw[Bx,Cv,Cv,Bx]
 |x::l,0=>by rw[Aa,BV,BV]
 |x::l,i+1=>by rw[Aa,Az,Az,Aa,sA]
theorem nO:∀{ts:List Tr}{i:Nat}{t:Tr},ts[i]?=some t->tws (ts.eraseIdx i)+tw t=tws ts
 |[],i,t,e=>by simp at e
 |v::ts,i,t,e=>by
  cases i with
  |zero=>cases e; rw[BV,tws,Nat.add_comm]
  |succ i=>have:=nO (show ts[i]?=some t from e); rw[Az,tws,tws]; omega
theorem qP {α:Type}{l:List α}{i:Nat}{x:α}(h:l[i]?=some x):l.set i x=l:=by
 refine Cu fun j=>?_;rw[List.getElem?_set]
 by_cases e:i=j
 .subst e
  rw[A4 rfl,h,A4 (AI.1 h).1]
 .rw [Av e]
theorem dput_at {kv:List (gQ×PV×PV)}{i:Nat}{m:gQ}{y0 v0 y v:PV}(nd:(kv.map (·.1)).Nodup)(h:kv[i]?=some (m,y0,v0)):xJ kv m y v=kv.set i (m,y0,v):=by
 unfold xJ;rw[cJ nd h,A4 (show(some (y0,v0)).isSome=true from rfl)];refine Cu fun j=>?_;rw[AL,List.getElem?_set]
 by_cases e:i=j
 .subst e
  rw[A4 rfl,h,A4 (AI.1 h).1];show some (swV m _ (m,y0,v0))=_;unfold swV;rw[A4 rfl]
 .rw [Av e]
  cases hj:kv[j]? with
  |none=>rfl
  |some p =>
   show some (swV m _ p)=_;unfold swV;rw[Av];intro z;obtain⟨p1,p2,p3⟩:=p;cases z;have li:i < (kv.map (·.1)).length:=by rw[AD]; exact(AI.1 h).1
   exact e ((Bp li nd).1 (by rw[AL,AL,h,hj]; rfl))
theorem put_ok {C:CH}{N:Addr->Prop}{kv:List (gQ×PV×PV)}{us:List Tr}(ok:gZ (jJ kv))(hi:Iss C N us (kv.map (·.2.2))){y v:PV}{m:gQ}{u:Tr}(hm:aZ y=some m)(hu:Is C N u v):
  ∃us',gZ (jJ (xJ kv m y v))/\Iss C N us' ((xJ kv m y v).map (·.2.2))/\(xJ kv m y v).length<=kv.length+1/\(∀z∈kv.map (·.1),z∈(xJ kv m y v).map (·.1))/\(∀z∈us',z∈us\/z=u)/\tws us'<=tws us+tw u/\(∀p∈xJ kv m y v,p.2.1=y\/∃q∈kv,p.2.1=q.2.1):=by
 have nd:=gV rfl ok
 by_cases h:m∈kv.map (·.1)
 .obtain ⟨⟨m',y0,v0⟩,hp,e⟩:=Ae.1 h
  cases e;obtain⟨i,hp⟩:=AZ.1 hp;rw[dput_at nd hp];have hl:=(AI.1 hp).1;have hle:=kX hi;rw[AD] at hle
  have ek:jJ (kv.set i (m',y0,v))=jJ kv:=by
   unfold jJ;rw[List.map_set];refine qP ?_;rw[AL,hp]; rfl
  have e1:(kv.set i (m',y0,v)).map (·.1)=kv.map (·.1):=by
   rw[List.map_set];refine qP ?_;rw[AL,hp]; rfl
  have hut:us[i]?=some (us[i]'(by omega)):=AH _;refine⟨us.set i u,by rw[ek]; exact ok,by rw[List.map_set]; exact gD hu i hi,by rw[Cm]; omega,fun z hz=>by rw[e1]; exact hz,fun z hz=>CJ hz,by have:=gF (u:=u) hut; omega,fun p hp'=>.inr ?_⟩
  rcases CJ hp' with h | rfl
  .exact ⟨p,h,rfl⟩
  .exact ⟨_,AE hp,rfl⟩
 .rw [jG h]
  refine⟨us++[u],⟨?_,?_⟩,?_,?_,?_,?_,?_,?_⟩
  .intro p hp
   unfold jJ at hp;rw[Ap] at hp
   rcases AS.1 hp with hp | hp
   .exact ok.1 p hp
   .cases AW.1 hp; exact hm
  .rw [Bo,Ap]
   refine CZ.2 ⟨nd,by simp,fun a ha b hb=>?_⟩;cases AW.1 hb;intro z;have z:a=m:=z;exact h (z▸ha)
  .rw [Ap]; exact pJ hi (fZ hu)
  .rw [AM]; exact AG _
  .intro z hz; rw[Ap]; exact BO _ hz
  .intro z hz
   rcases AS.1 hz with hz | hz
   .exact .inl hz
   .exact .inr (AW.1 hz)
  .rw [bZ,tws,tws,BG]; exact AG _
  .intro p hp
   rcases AS.1 hp with hp | hp
   .exact .inr ⟨p,hp,rfl⟩
   .cases AW.1 hp; exact .inl rfl
def kB:Nat->Nat
 |0=>0
 |j+1=>4 * kB j+400
def sB:Nat->Nat
 |0=>200
 |j+1=>2 * sB j+10
theorem kB_le (j:Nat)(h:j<=3):kB j<=10000/\sB j<=2000:=by
 have:j=0\/j=1\/j=2\/j=3:=by omega
 rcases this with rfl | rfl | rfl | rfl<;>decide
section
variable {W:Wd}{a:Adr}
inductive gBd (ts:List PV)(C:CH)(Q:K1):Prop
 |mk (t:Addr) (ns:List Int) (N:Addr->Prop) (x:PV) (tr:Tr) (z0:ts=[.ref t,x]) (z1:Tp C t ns) (z2:N t) (z3:Lv N C) (z4:Is C N tr x) (z5:Sm 0 tr) (z6:tw tr<=200) (z7:dp tr<=5) (z9:K3 tr) (z8:∀y u C',Is C' N u y->tw u<=4000->Tp C' t ns->Ex t C C'->Q y C'):gBd ts C Q
theorem qD (T:Tx W a):Ok W a 24 14 U0 gBd:=by
 have S:=(T.F 14 rfl).s;have gX:=(tV T).mono (show 1<=23 by omega);have kY:=ok_bent T 20;have cK:=(uR T 5).mono (show 6<=23 by omega)
 refine(T.F 14 rfl).ok (fun ts C R h=>?_) fun cdv A outer s H E hr=>⟨_,(xQ (aQ (hV (bX (pQ mQ yX rfl T.yQ rfl (qQ (cv 1) (ca1 (tX (n:="dict") rfl T.lH rfl)))))) (wQ (bQ (cf (T.F 10 rfl) kY hr (qQ (cv 0) (ca1 (cv 1)))))) dQ)
  (xQ (cs1 2 S.nd (cf (T.F 13 rfl) cK hr (ca1 (cv 1))))
  (xQ (cs_forL PassesOwn.never rfl (kJ (zB rfl) xH rfl T.vK rfl (ca1 (cv 2))) (cg1 3 S.nd) (wQ (aQ (ct2 cZ pX (cf (T.F 5 rfl) gX hr (qQ (cv 0) (ca1 jQ))) jQ) (xQ (cs1 4 S.nd (ce_bmM PySem.F.plainAttrs_dict PySem.F.slot_dict_pop PySem.F.type_dict_pop (mt_popM (jV hr)) Qd (cv 2) (ca1 (cv 3))))
  (wQ (yG (jV hr) (cv 2) (cx (zZ (qQ (cv 3) (qQ rZ (ca1 jQ)))) (cf (T.F 5 rfl) gX hr (qQ (cv 0) (ca1 jQ)))) (cf (T.F 10 rfl) kY hr (qQ (cv 0) (ca1 (cv 4))))))) dQ)))
  (wQ (bQ (cv 2)))))),?_⟩
 .obtain ⟨_,_,_,_,_,rfl,_⟩:=h; rfl
 rintro ts C R ⟨t,ns,N,x,tr,rfl,hT,ht,hL,hx,hk,hw,hd,h3,q⟩;have ty:=pV hx
 by_cases hdc:sX tr=.dct
 .cases tr with
  |sg y=>exact absurd hdc (by cases y<;>exact fun e=>nomatch e)
  |tup ts=>cases hdc
  |lst ts=>cases hdc
  |dct ks ts =>
   refine xZ (uX (T:=.dct) rfl ty (iF (jX ?_)));dsimp only[CEnds.wn];refine cQ ⟨x,.dct ks ts,N,0,rfl,hx,hL,hd,by omega,hk,fun y u C1 b1 b2 b3 b4 b5 b6 g1=>?_⟩;obtain⟨p,ob,kvs,us,rfl,hl,hp,mp,rfl,ok,iu⟩:=b6 ks ts rfl;have hl3:=h3 ks ts rfl;have np:¬ N p:=hL.not hp;have npt:p≠t:=fun z=>np (z▸ht);rw[Sm] at b2;have hsm:=mZ.1 b2;rw[tw] at b3;rw[dp] at b4;have hdp:=gJ.1 (AG (dps us));have nd:=gV rfl ok
   have hkw:∀z∈kvs,kw z.2.1<=200:=fun z hz=>by
    obtain⟨i,hi⟩:=AZ.1 hz;have:kw z.2.1<=kws (jJ kvs):=kD (cW rfl hi);omega
   have T1:=hT.gr g1;have L1:=hL.gr g1
   try dsimp only
   refine tQ (fun ρ' C'=>∃ob kv us,ρ'[2]?=some (some (.ref p))/\C' p=some (.dM ob kv)/\gZ (jJ kv)/\Iss C' (Ad N p) us (kv.map (·.2.2))/\kv.length<=3/\(∀z∈kv,kw z.2.1<=200)/\tws us<=2000/\Tp C' t ns/\Ex t C C') (fun L hL'=>?_) ?_
   .refine oA mp fun l hl'=>?_
    have nl:l≠p:=fun z=>by rw[z,mp] at hl'; cases hl'
    have nlt:l≠t:=fun z=>by subst z; exact T1.sm hl'
    have g2:=Gr.new hl' (.lst (kvs.map (·.2.1)))
    refine⟨kvs.length+1,rB (kvs.map (·.2.1)) (fun j ρ' C'=>∃k1 k2 ob kv us,ρ'=[some (.ref t),some x,some (.ref p),k1,k2]/\C' l=some (.lst (kvs.map (·.2.1)))/\C' p=some (.dM ob kv)/\gZ (jJ kv)/\Iss C' (Ad N p) us (kv.map (·.2.2))/\kv.length<=3/\(∀z∈kv,kw z.2.1<=200)/\(∀(i:Nat) x,j<=i->kvs[i]?=some x->x.1∈kv.map (·.1))/\(∀u∈us,Sm (kB j) u/\dp u<=5+4 * j)/\tws us<=sB j/\Tp C' t ns/\Ex t C C'/\Lv (Ad N p) C') (fun j ρ' C' h=>by obtain⟨_,_,_,_,_,_,h,_⟩:=h; exact h) ?_ ?_ _ 0 _ _ (by rw[AD]; omega) (A0 _)
     ⟨none,none,ob,kvs,us,rfl,zQ,g2 _ _ mp,ok,rQ (GrN.gr g2) iu,by omega,hkw,fun i x _ hx=>Ae.2 ⟨x,AE hx,rfl⟩,fun u hu=>⟨hsm u hu,by have:=hdp u hu; omega⟩,by show tws us<=200; omega,T1.gr g2,Ex.gr (g1.trans g2),(L1.gr g2).ad (g2 _ _ mp)⟩⟩
    .rintro j ρ' C' key hj ⟨k1,k2,ob',kv,us',rfl,ml,mp',ok',iu',l3,hkw',hin,hbd,hws,TT,ee,LL⟩ L hL2
     rw[AL] at hj;obtain⟨xx,hxx,rfl⟩:=BZ.1 hj;have hj3:j<=2:=by have:=(AI.1 hxx).1; omega
     have hkb:=kB_le j (by omega);have up:kB j<=kB (j+1):=by rw[kB]; omega
     have up2:sB j<=sB (j+1):=by rw[sB]; omega
     refine⟨t,3,ns,rfl,TT,by decide,by decide,fun v C2 v0 v1 T2 e2=>oX (vX _ _) (uJ (fun hb=>?_) fun hb=>jX (hL2 _ _ ⟨some xx.2.1,k2,ob',kv,us',rfl,e2 _ _ nlt ml,e2 _ _ npt mp',ok',rQ (GrN.ex (.inl ht) e2) iu',l3,hkw',fun i x h=>hin i x (by omega),fun u hu=>⟨iG up (hbd u hu).1,by have:=(hbd u hu).2; omega⟩,AX hws up2,T2,ee.trans e2,LL.ex T2 e2⟩))⟩;have hm:aZ xx.2.1=some xx.1:=ok.1 _ (AE (cW rfl hxx))
     have hmem:=hin j xx (AG _) hxx;have nd':=gV rfl ok';obtain⟨⟨m',y0,v0'⟩,hp',em⟩:=Ae.1 hmem;have em:m'=xx.1:=em;subst em;obtain⟨i,hi⟩:=AZ.1 hp';obtain⟨u0,hu0,iu0⟩:=hX iu' (show(kv.map (·.2.2))[i]?=some v0' by rw[AL,hi]; rfl);have hum:=AE hu0;have hwu:=nJ hum;have mp2:=e2 _ _ npt mp';have L2':=LL.ex T2 e2;have iu2:=rQ (GrN.ex (.inl ht) e2) iu'
     have cp:C p=none:=hp;refine cQ ⟨⟨_,_,_,rfl,mp2⟩,popM_s mp2 hm (p:=(y0,v0')) (cJ nd' hi) fun o'=>?_⟩;rw[gY nd' hi];have okE:gZ (jJ (kv.eraseIdx i)):=fN ((DR kv i).map _) ok'
     have lE:(kv.eraseIdx i).length+1=kv.length:=by
      have:=(AI.1 hi).1;rw[List.length_eraseIdx_of_lt this];omega
     have iE:Iss (vQ C2 p (.dM o' (kv.eraseIdx i))) (Ad N p) (us'.eraseIdx i) ((kv.eraseIdx i).map (·.2.2)):=by
      have:=rQ (GrN.put (.inr rfl) (.dM o' (kv.eraseIdx i))) (xI i iu2)
      rwa [sA] at this
     have wE:=nO hu0
     have inE:∀(i':Nat) x,j+1<=i'->kvs[i']?=some x->x.1∈(kv.eraseIdx i).map (·.1):=fun i' x' h hx'=>by
      have h1:=hin i' x' (by omega) hx';rw[<- gY nd' hi];obtain⟨z,hz,ez⟩:=Ae.1 h1;refine Ae.2 ⟨z,CP.2 ⟨hz,Aw fun e=>?_⟩,ez⟩;have e:z.1=xx.1:=e;have li:i' < (kvs.map (·.1)).length:=by rw[AD]; exact(AI.1 hx').1
      have:=(Bp (i:=i') (j:=j) li nd).1 (by rw[AL,AL,hx',hxx]; show some x'.1=some xx.1; rw[<- ez,e]);omega
     have kE:∀z∈kv.eraseIdx i,kw z.2.1<=200:=fun z hz=>hkw' z ((DR kv i).subset hz);have i0:=uZ (GrN.put (N:=Ad N p) (.inr rfl) (.dM o' (kv.eraseIdx i))) (uZ (GrN.ex (.inl ht) e2) iu0);have T3:=T2.put npt (.dM o' (kv.eraseIdx i));have e3:Ex t C (vQ C2 p (.dM o' (kv.eraseIdx i))):=(ee.trans e2).put cp _;have ml3:vQ C2 p (.dM o' (kv.eraseIdx i)) l=some (.lst (kvs.map (·.2.1))):=by rw[oQ nl]; exact e2 _ _ nlt ml
     have mp3:vQ C2 p (.dM o' (kv.eraseIdx i)) p=some (.dM o' (kv.eraseIdx i)):=zQ;have L3:=L2'.put p (.dM o' (kv.eraseIdx i));generalize vQ C2 p (.dM o' (kv.eraseIdx i))=C3 at iE i0 T3 e3 ml3 mp3 L3 ⊢;generalize kv.eraseIdx i=kvE at okE lE iE inE kE mp3 ⊢;have hbE:∀u∈us'.eraseIdx i,Sm (kB j) u/\dp u<=5+4 * j:=fun u hu=>hbd u ((DR us' i).subset hu);generalize us'.eraseIdx i=usE at iE wE hbE
     try dsimp only
     refine⟨t,ns,Ad N p,v0',u0,kB j,rfl,T3,.inl ht,L3,i0,(hbd u0 hum).1,by omega,by omega,by have:=(hbd u0 hum).2; omega,fun y u C4 c1 c2 c3 c4 T4 e4=>?_⟩;have mp4:=e4 _ _ npt mp3;have ml4:=e4 _ _ nlt ml3;have L4:=L3.ex T4 e4;have iE4:=rQ (GrN.ex (.inl ht) e4) iE;refine⟨zS0 3 rfl,fun p5 h5=>?_⟩;have g5:=Gr.new h5 (.lst [xx.2.1,.bl true,.int 7]);refine⟨t,3,ns,rfl,T4.gr g5,by decide,by decide,fun w C6 w0 w1 T6 e6=>?_⟩
     obtain⟨kk,hkk,ekk⟩:=bL (ys:=[xx.2.1,.bl true,.int 7]) (m:=3) rfl w0 w1;refine yZ (e6 _ _ (T4.ne h5) zQ) ekk ?_
     have hmk:∃m,aZ kk=some m/\kw kk<=200:=by
      simp only[List.mem_cons,List.not_mem_nil,or_false] at hkk
      rcases hkk with rfl | rfl | rfl
      .exact ⟨_,hm,hkw xx (AE hxx)⟩
      .exact ⟨_,rfl,by show 1<=200; decide⟩
      .exact ⟨_,rfl,by show 1<=200; decide⟩
     obtain⟨m,hmk,hkk2⟩:=hmk;have e46:GrN (Ad N p) C4 C6:=(GrN.gr g5).trans (GrN.ex (.inl ht) e6);have mp6:=e6 _ _ npt (g5 _ _ mp4);have ml6:=e6 _ _ nlt (g5 _ _ ml4);obtain⟨us6,d1,d2,d3,d4,d5,d6,d7⟩:=put_ok okE (rQ e46 iE4) hmk (uZ e46 c1);have g36:Ex t C3 C6:=(e4.trans (Ex.gr g5)).trans e6;refine zD mp6 hmk (by omega) fun o6=>hL2 _ _ ⟨some xx.2.1,some v0',o6,_,us6,rfl,by rw[oQ nl]; exact ml6,zQ,d1,rQ (GrN.put (.inr rfl) _) d2,by omega,fun z hz=>?_,fun i x h hx=>d4 _ (inE i x h hx),fun u' hu'=>?_,?_,T6.put npt _,(e3.trans g36).put cp _,((L4.gr g5).ex T6 e6).put _ _⟩
     .rcases d7 z hz with h | ⟨z',hz',h⟩
      .rw [h]; exact hkk2
      .rw [h]; exact kE z' hz'
     .rcases d5 u' hu' with h | rfl
      .exact ⟨iG up (hbE u' h).1,by have:=(hbE u' h).2; omega⟩
      .exact ⟨c2,by have:=(hbd u0 hum).2; omega⟩
     .rw [sB]; omega
    .rintro ρ' C' ⟨k1,k2,ob',kv,us',rfl,ml,mp',ok',iu',l3,hkw',hin,hbd,hws,TT,ee,LL⟩
     rw[AD] at hws;have:=(kB_le kvs.length (by omega)).2;exact hL' _ _ ⟨ob',kv,us',rfl,mp',ok',iu',l3,hkw',by omega,TT,ee⟩
   rintro ρ' C' ⟨ob',kv,us',hρ,mp',ok',iu',l3,hkw',hws,TT,ee⟩;show bJ 2 ρ' C' _;unfold bJ;rw[hρ]
   have hkws:∀{l:List (gQ×PV)},(∀p∈l,kw p.2<=200)->kws l<=200 * l.length:=fun {l}=>by
    induction l with
    |nil=>intro _; exact A0 _
    |cons z l ih =>
     intro h;rw[kws,Ai];have:=h z AQ;have:=ih fun y hy=>h y (AO _ hy);omega
   have hk2:=hkws (l:=jJ kv) fun p hp=>by
    obtain⟨z,hz,rfl⟩:=Ae.1 hp;exact hkw' z hz
   rw[AD] at hk2;refine q _ (.dct (jJ kv) us') C' ?_ (by rw[tw]; omega) TT ee;rw[Is];exact⟨p,ob',kv,rfl,np,mp',rfl,ok',yJ (fun _ z=>.inl z) iu'⟩
 .have nodc:iQ (sX tr) .dct=false:=by
   revert hdc;generalize sX tr=n;cases n<;>first | (intro _; rfl) | (intro h; exact absurd rfl h)
  refine xZ (uX (T:=.dct) rfl ty ?_);rw[nodc];exact wA ⟨t,ns,N,x,tr,0,rfl,hT,ht,hL,hx,hk,by omega,by omega,by omega,fun y u C3 b1 b2 b3 b4 T3 e3=>q y u C3 b1 (by omega) T3 e3⟩
end
theorem forT_i {ca:TCE}{g:TCG}{u:TCS}{E:CEnds}{ρ:CSt}{C:CH}(h:ca ρ C fun t C1=>match t with | .tup xs=>pK g u E xs ρ C1 | .kt xs=>pK g u E xs ρ C1 | _=>False):fS ca g u E ρ C:=by
 delta fS
 exact h
section
variable {W:Wd}{a:Adr}
inductive gRt (ts:List PV)(C:CH)(Q:K1):Prop
 |mk (x y:PV) (t u:Tr) (N:Addr->Prop) (z0:ts=[x,y]) (z1:Is C N t x) (z2:Is C N u y) (z3:dp t<=5) (z4:tw t<=4000) (z5:tw u<=4000) (z6:∀C',Gr C C'->Q (.bl true) C'):gRt ts C Q
theorem uA (T:Tx W a):Ok W a 8 15 U1 gRt:=by
 have S:=(T.F 15 rfl).s;have lK:=aS T 5;have cS:=(pA T (ok_dp T)).mono (show 3<=7 by decide)
 refine(T.F 15 rfl).ok (fun ts C R h=>?_) fun cdv A outer s H E hr=>⟨_,(xQ (cs1 2 S.nd (cf (T.F 7 rfl) lK hr (qQ (cv 0) (ca1 (cv 1)))))
  (xQ (cs_forT PassesOwn.never rfl (fX (qQ (cf (T.F 0 rfl) cS hr (qQ (cv 0) (ca1 (cv 1)))) (ca1 (cf (T.F 0 rfl) cS hr (qQ (cv 1) (ca1 (cv 0))))))) (cg1 3 S.nd) (wQ (aQ (cw_pt (cw_or (hV (bX (pQ mQ yX rfl T.yQ rfl (qQ (cv 3) (ca1 (tX (n:="bool") rfl T.vF rfl)))))) (cw_or1 (ct2 kM bY (cv 3) (cv 2))))) (wQ (bQ rZ)) dQ)))
  (wQ (bQ rZ)))),?_⟩
 .obtain ⟨_,_,_,_,_,rfl,_⟩:=h; rfl
 rintro ts C R ⟨x,y,t,u,N,rfl,hx,hy,hd,hw,hw2,q⟩;have w1:=kI hx;have w2:=kI hy;refine cQ ⟨x,y,t,u,N,rfl,hx,hy,hd,⟨hw,hw2⟩,fun b C1 hb g1=>?_⟩
 try dsimp only
 refine tQ (fun ρ' C'=>Gr C C') (fun L hL=>?_) fun ρ' C' g=>q C' g;refine forT_i ?_;refine⟨x,y,t,u,N,rfl,uZ (GrN.gr g1) hx,uZ (GrN.gr g1) hy,hw,fun b2 C2 hb2 g2=>?_⟩;refine⟨y,x,u,t,N,rfl,uZ (GrN.gr (g1.trans g2)) hy,uZ (GrN.gr (g1.trans g2)) hx,hw2,fun b3 C3 hb3 g3=>?_⟩;have e2:b2=b:=by rw[BJ,hb2,hb]
 have e3:b3=b:=by rw[BJ,hb3,hb]; exact⟨fun h=>cL u t h w2 w1,fun h=>cL t u h w1 w2⟩
 subst e2 e3;refine⟨zS0 2 rfl,?_⟩;dsimp only;refine uX (T:=.bl) rfl (k:=.bl) rfl (iF (oX (b:=true) (by show some (decide _)=_; rw[Aw rfl]) (aX rfl (jX ?_))));refine uX (T:=.bl) rfl (k:=.bl) rfl (iF (oX (b:=true) (by show some (decide _)=_; rw[Aw rfl]) (aX rfl (jX ?_))));exact hL _ _ ((g1.trans g2).trans g3)
inductive gLaw (ts:List PV)(C:CH)(Q:K1):Prop
 |mk (ns:List Int) (z0:ts=[.fz (ns.map PV.int)]) (z1:ns.length<=63) (z2:∀C',Q (.bl true) C'):gLaw ts C Q
theorem ok_law (T:Tx W a):Ok W a 120 16 ["_law_script"] gLaw:=by
 have S:=(T.F 16 rfl).s;have Qx:=(ok_tape T).mono (show 1<=119 by decide);have lY:=(yA T 3).mono (show 6<=119 by decide);have cK:=(uR T 5).mono (show 6<=119 by decide);have lB:=(qD T).mono (show 24<=119 by decide);have vJ:=(uA T).mono (show 8<=119 by decide)
 refine(T.F 16 rfl).ok (fun ts C R h=>?_) fun cdv A outer s H E hr=>⟨_,(xQ (cs1 1 S.nd (cf (T.F 4 rfl) Qx hr (ca1 (cv 0))))
  (xQ (sM 3 (i:=2) (by decide) (show(U4:List Str).Nodup by decide +kernel) rfl (Or.inl rfl) rfl (show(["_law_k","_law_script","_law_tape_here","_law_some","?","_law_twin"]:List Str).Nodup by decide +kernel) (eU (N:=U4) (sc:=sQ (top 18)) rfl rfl rfl (by decide +kernel)) (kC rfl T.uW (ca1 jQ)) (fun _ _ _ _ _=>zL) (fun _ _ _ _ _=>(cf (T.F 12 rfl) lY hr (qQ (cv 2) (ca1 jQ)))))
  (xQ (tR PassesOwn.never rfl rfl T.uW (ca1 jQ) (cg1 3 S.nd) (xQ (cs1 4 S.nd (cf (T.F 13 rfl) cK hr (ca1 (cx (cv 2) (cv 3)))))
  (xQ (aQ (cw_pt (cw_or (hV (bX (cf (T.F 15 rfl) vJ hr (qQ (cx (cv 2) (cv 3)) (ca1 (cx (cv 2) (cv 3))))))) (cw_or1 (hV (bX (cf (T.F 15 rfl) vJ hr (qQ (cx (cv 2) (cv 3)) (ca1 (cv 4))))))))) (wQ (bQ rZ)) dQ)
  (wQ (aQ (cw_pt (cw_or (hV (bX (cf (T.F 15 rfl) vJ hr (qQ (cx (cv 2) (cv 3)) (ca1 (cf (T.F 14 rfl) lB hr (qQ (cv 1) (ca1 (cv 4))))))))) (cw_or1 (hV (bX (cf (T.F 15 rfl) vJ hr (qQ (cx (cv 2) (cv 3)) (ca1 (cx (cv 2) (zX nK dJ (zX dX cX (cv 3) jQ) jQ)))))))))) (wQ (bQ rZ)) dQ)))))
  (wQ (bQ (Qj (cf (T.F 15 rfl) vJ hr (qQ (jH (mI hr) (eP jQ jQ eR)) (ca1 (jH (mI hr) (eP rZ jQ eR))))) (Qj (cf (T.F 15 rfl) vJ hr (qQ (fX (qQ jQ (ca1 jQ))) (ca1 (fX (qQ rZ (ca1 rZ)))))) (Qg (cf (T.F 15 rfl) vJ hr (qQ (zZ nV) (ca1 (fX nV)))))))))))),?_⟩
 .obtain ⟨_,rfl,_⟩:=h; rfl
 rintro ts C R ⟨ns,rfl,hl,q⟩;refine cQ ⟨ns,rfl,hl,fun t C1 ht e1 T1=>?_⟩
 try dsimp only
 refine xZ ?_;have w3:wB 3=157:=rfl;have nt:(fun b=>b=t) t:=rfl;have L1:Lv (fun b=>b=t) C1:=fun b hb=>by cases hb; exact T1.sm
 refine⟨by decide,by decide,?_⟩
 let P:Tr->Prop:=fun u=>Sm 0 u/\tw u<=157/\dp u<=5/\K3 u
 refine fY (fun zs acc C4=>∃us,us.length+zs.length=8/\Iss C4 (fun b=>b=t) us acc/\(∀u∈us,P u)/\Tp C4 t ns/\Lv (fun b=>b=t) C4) ?_ ?_ _ _ _ ⟨[],rfl,iZ,fun _ z=>(nomatch z),T1,L1⟩
 .rintro x r acc C4 ⟨us,hl,hi,hu,T4,L4⟩ L hL'
  rw[Ai] at hl;have hla:=kX hi;refine⟨t,ns,(fun b=>b=t),rfl,T4,rfl,L4,fun y u C5 b1 b2 b3 b4 b5 T5 e5=>hL' _ _ ⟨Aq (show acc.length<=8 by omega) (by decide),us++[u],by rw[AM,Ak]; omega,pJ (rQ (N:=(fun b=>b=t)) (GrN.ex rfl e5) hi) (fZ b1),fun z hz=>?_,T5,L4.ex T5 e5⟩⟩
  rcases AS.1 hz with hz | hz
  .exact hu z hz
  .cases AW.1 hz
   exact⟨b2,by omega,b4,b5⟩
 rintro acc C4 ⟨us,hl8,hi,hu,T4,L4⟩ p hp;rw[Bi,BG] at hl8;have hla:=kX hi;have np:p≠t:=T4.ne hp;have g5:=Gr.new hp (.lst acc);have m5:vQ C4 p (.lst acc) p=some (.lst acc):=zQ;have i5:=rQ (N:=(fun b=>b=t)) (GrN.gr g5) hi;have T5:=T4.gr g5;have L5:=L4.gr g5;generalize vQ C4 p (.lst acc)=C5 at g5 m5 i5 T5 L5 ⊢
 have get:∀k:Nat,k < 8->∃x u,acc[k]?=some x/\atI acc (k:Nat)=some x/\us[k]?=some u/\P u:=fun k hk=>by
  have h1:k < acc.length:=by omega
  have h2:k < us.length:=by omega
  exact⟨acc[k],us[k],AH h1,qV h1,AH h2,hu _ (DD h2)⟩
 have isk:∀{C':CH} {k:Nat} {x:PV} {u:Tr},Iss C' (fun b=>b=t) us acc->acc[k]?=some x->us[k]?=some u->Is C' (fun b=>b=t) u x:=fun h e1 e2=>by
  obtain⟨x',e3,h⟩:=dR h e2;rw[e1] at e3;cases e3;exact h
 try dsimp only
 refine tQ (fun ρ' C'=>True) (fun L hL=>?_) fun ρ' C' _=>?_
 .refine ⟨by decide,by decide,?_⟩
  show pK _ _ _ ((List.range 8).map fun k=>PV.int (k:Nat)) _ _;refine aC 8 (fun k ρ' C'=>∃k1 k2,ρ'=[some (.fz (ns.map PV.int)),some (.ref t),some (.ref p),k1,k2]/\C' p=some (.lst acc)/\Iss C' (fun b=>b=t) us acc/\Tp C' t ns/\Lv (fun b=>b=t) C') ?_ (fun ρ' C' _=>hL _ _ trivial) _ _ ⟨none,none,rfl,m5,i5,T5,L5⟩;rintro k ρ' C6 hk ⟨k1,k2,rfl,m6,i6,T6,L6⟩ L' hL';obtain⟨x,u,ex,ax,eu,⟨u1,u2,u3,u4⟩⟩:=get k hk
  obtain⟨x',u',ex',ax',eu',⟨v1,v2,v3,v4⟩⟩:=get ((k+1) % 8) (Nat.mod_lt _ (by decide));refine cQ (yZ m6 ax ⟨x,u,(fun b=>b=t),0,rfl,isk i6 ex eu,L6,u3,by omega,u1,fun y w C7 b1 b2 b3 b4 b5 b6 g7=>?_⟩);have m7:=g7 _ _ m6;have i7:=rQ (N:=(fun b=>b=t)) (GrN.gr g7) i6;have T7:=T6.gr g7;have L7:=L6.gr g7
  have kw3:K3 w:=by
   intro ks ws e
   cases u with
   |dct ks' us' =>
    obtain⟨_,_,kvs,us2,_,el,_,_,ew,_⟩:=b6 ks' us' rfl;rw[ew] at e;cases e;rw[AD,el];exact u4 ks' us' rfl
   |sg z=>rw[e] at b5; exact absurd b5.symm (by cases z<;>exact fun e=>nomatch e)
   |tup z=>rw[e] at b5; cases b5
   |lst z=>rw[e] at b5; cases b5
  try dsimp only
  refine xZ (yZ m7 ax (yZ m7 ax ⟨x,x,u,u,(fun b=>b=t),rfl,isk i7 ex eu,isk i7 ex eu,u3,by omega,by omega,fun C8 g8=>iF ?_⟩));have m8:=g8 _ _ m7;have i8:=rQ (N:=(fun b=>b=t)) (GrN.gr g8) i7;have b18:=uZ (N:=(fun b=>b=t)) (GrN.gr g8) b1;have T8:=T7.gr g8;have L8:=L7.gr g8;refine yZ m8 ax ⟨x,y,u,w,(fun b=>b=t),rfl,isk i8 ex eu,b18,u3,by omega,by omega,fun C9 g9=>iF (jX ?_)⟩;dsimp only[CEnds.wn];have m9:=g9 _ _ m8
  have i9:=rQ (N:=(fun b=>b=t)) (GrN.gr g9) i8;have b19:=uZ (N:=(fun b=>b=t)) (GrN.gr g9) b18;have T9:=T8.gr g9;have L9:=L8.gr g9;refine yZ m9 ax ⟨t,ns,(fun b=>b=t),y,w,rfl,T9,rfl,L9,b19,b2,by omega,by omega,kw3,fun y2 w2 C10 c1 c2 T10 e10=>?_⟩;have m10:=e10 _ _ np m9;have i10:=rQ (N:=(fun b=>b=t)) (GrN.ex rfl e10) i9;have L10:=L9.ex T10 e10;refine⟨x,y2,u,w2,(fun b=>b=t),rfl,isk i10 ex eu,c1,u3,by omega,c2,fun C11 g11=>iF ?_⟩
  have m11:=g11 _ _ m10;have i11:=rQ (N:=(fun b=>b=t)) (GrN.gr g11) i10;refine yZ m11 ax (kW ⟨by show(0:Int) < 8; decide,?_⟩);dsimp only;have em:((k:Int)+1) % 8=(((k+1) % 8:Nat):Int):=by omega
  rw[<- em] at ax';refine yZ m11 ax' ⟨x,x',u,u',(fun b=>b=t),rfl,isk i11 ex eu,isk i11 ex' eu',u3,by omega,by omega,fun C12 g12=>iF (jX (hL' _ _ ⟨some (.int (k:Nat)),some y,rfl,g12 _ _ m11,rQ (N:=(fun b=>b=t)) (GrN.gr g12) i11,(T10.gr g11).gr g12,(L10.gr g11).gr g12⟩))⟩
 .have okk:∀(m:gQ) (k:PV),aZ k=some m->gZ [(m,k)]:=fun m k h=>⟨fun p hp=>by cases AW.1 hp; exact h,by simp⟩
  have isd:∀{C:CH} {p:Addr} {o:Obj} {m:gQ} {k:PV},aZ k=some m->C p=some (.dM o [(m,k,.int 0)])->Is C (fun _=>False) (.dct [(m,k)] [.sg (.int 0)]) (.ref p):=fun h e=>by
   rw[Is];exact⟨_,_,_,rfl,id,e,rfl,okk _ _ h,fZ (sJ rfl)⟩
  intro p1 ob1 h1;refine jM zQ rfl fun o1=>?_;intro p2 ob2 h2;refine jM zQ rfl fun o2=>?_;have n12:p1≠p2:=fun z=>by rw[z,zQ] at h2; cases h2
  refine⟨.ref p1,.ref p2,_,_,fun _=>False,rfl,isd (m:=.inl (.inl (some 1))) (k:=.int 1) (o:=o1) rfl (by rw[oQ n12,oQ n12,zQ]),isd (m:=.inl (.inl (some (bI true)))) (k:=.bl true) rfl zQ,by simp[dp,dps],by simp[tw,tws,kws,kw],by simp[tw,tws,kws,kw],fun C2 g2=>zJ rfl ?_⟩;refine⟨zS0 2 rfl,?_⟩;refine⟨zS0 2 rfl,?_⟩;refine⟨_,_,.tup [.sg (.int 1),.sg (.int 0)],.tup [.sg (.bl true),.sg (.bl false)],fun _=>False,rfl,by rw[Is]; exact⟨_,rfl,lZ (sJ rfl) (fZ (sJ rfl))⟩,by rw[Is]; exact⟨_,rfl,lZ (sJ rfl) (fZ (sJ rfl))⟩,by simp[dp,dps],by simp[tw,tws],by simp[tw,tws],fun C3 g3=>zJ rfl ?_⟩
  refine⟨zS0 0 rfl,fun p4 h4=>?_⟩;refine⟨zS0 0 rfl,?_⟩;exact⟨_,_,.lst [],.tup [],fun _=>False,rfl,by rw[Is]; exact⟨_,_,rfl,id,zQ,iZ⟩,by rw[Is]; exact⟨_,rfl,iZ⟩,by simp[dp,dps],by simp[tw,tws],by simp[tw,tws],fun C5 g5=>q C5⟩
end
theorem pP {K:DY}{H:Hp}:∀ns:List Int,Reps K H (ns.map V.int) (ns.map PV.int)
 |[]=>.nil
 |n::ns=>.cons (.int n) (pP ns)
theorem walk {l:PySem.W.OpenLaw}{q:Program}{loose:List Str}{XP:(Str->Option Value)->Heap->Prop}{YP:World->Heap->Prop}{d:DefRec}{K:Params->DY}(hn:l.most=some 63)(hdf:d.params.defaults=[])(hnm:d.name = "law")
  (hY:∀(w:World) (h:Heap),YP w h->(K w.params).In h)
  (F:∀(w:World) (mg:Str->Option Value) (h:Heap),(K w.params).In h->h.Ns mainGlobals mg->∃a:Adr,Txt l.prog w (K w.params) mg a) :
  PySem.W.WalkO q loose XP YP l.row.toRowW d [] (fun f vs=>PySem.call f vs):=by
 refine L2.walk_of (n:=63) (k:=120) (x:="_law_script") (CX:=fun _=>CX0) (sp:=fun w=>spC (K w.params) gLaw) hn (by decide) hdf ⟨rfl,by decide,by decide⟩ hY ?_ (fun w H a ns hl hO hS=>?_) fun _ _ _ _ _ z=>z
 .intro w mg fa h KX G hmg
  obtain⟨a,T⟩:=F w mg h KX G;rw[hnm] at hmg;have e:=hmg.symm.trans ((T.F 16 rfl).m rfl);cases e;obtain⟨_,_,_,_,_,_,_,_,_,e2,_⟩:=(T.F 16 rfl).F.ex;refine⟨a.d 16,?_,fun base _ _=>ok_law (W:=⟨_,_,_,_,base⟩) T⟩;rw[e2];exact fun s u=>.of_eq rfl
 .have hz:Fz (K w.params) H a (ns.map V.int):=by
   rcases hS with hS | hS
   .rcases hS with hS | ⟨o,hS⟩
    .rcases hO a with h | ⟨o,xs,h⟩
     .rw [hS] at h; cases h
     .rw [hS] at h; cases h
    .exact .inl ⟨o,hS⟩
   .exact .inr hS
  refine⟨[.fz (ns.map PV.int)],fun _=>none,fun v _=>v=.bl true,.cons (.fz hz (pP ns)) .nil,(fun _ _ z=>nomatch z),⟨ns,rfl,hl,fun _=>rfl⟩,?_⟩;rintro v H' t C' rfl r h' f';cases r
  rfl
end K02
open PySem PySem.W PyProof.Rows
namespace PySem.W.Fast
theorem tw11570359601636697281:True:=⟨⟩
theorem tw11705480521897929612:True:=⟨⟩
theorem tw11990770086839740824:True:=⟨⟩
theorem tw12241052158239581002:True:=⟨⟩
theorem tw12624773676087692421:True:=⟨⟩
theorem tw12758119875386615857:True:=⟨⟩
theorem tw12868139619045495727:True:=⟨⟩
theorem tw13156159847543902190:True:=⟨⟩
theorem tw13276754626556246842:True:=⟨⟩
theorem tw13606667196301746720:True:=⟨⟩
theorem tw13946921515288750403:True:=⟨⟩
theorem tw14156068892979080278:True:=⟨⟩
theorem tw14302437675815762498:True:=⟨⟩
theorem tw14348193312798911372:True:=⟨⟩
theorem tw14716164486026010534:True:=⟨⟩
theorem tw15224539965909854494:True:=⟨⟩
theorem tw1531211541297047430:True:=⟨⟩
theorem tw15819213730105795611:True:=⟨⟩
theorem tw16671592885556549512:True:=⟨⟩
theorem tw16945151398935369747:True:=⟨⟩
theorem tw17312873772545341733:True:=⟨⟩
theorem tw1753192753503496657:True:=⟨⟩
theorem tw17541381324678643566:True:=⟨⟩
theorem tw17792299850373369642:True:=⟨⟩
theorem tw17854645537225764704:True:=⟨⟩
theorem tw179827334266847779:True:=⟨⟩
theorem tw18041693561253615770:True:=⟨⟩
theorem tw18410488158763382879:True:=⟨⟩
theorem tw18423548609904151889:True:=⟨⟩
theorem tw1860791217564944002:True:=⟨⟩
theorem tw271120150477383579:True:=⟨⟩
theorem tw297640355307353534:True:=⟨⟩
theorem tw4173707701969876758:True:=⟨⟩
theorem tw4190512048914422426:True:=⟨⟩
theorem tw422378043708357651:True:=⟨⟩
theorem tw4319034672789531600:True:=⟨⟩
theorem tw4979587294956555792:True:=⟨⟩
theorem tw6374000012866581237:True:=⟨⟩
theorem tw6426513866953518076:True:=⟨⟩
theorem tw6514247744175717794:True:=⟨⟩
theorem tw6784783870611738198:True:=⟨⟩
theorem tw7314442622951044912:True:=⟨⟩
theorem tw7630672086381048251:True:=⟨⟩
theorem tw7950762901940359683:True:=⟨⟩
theorem tw824927697757466790:True:=⟨⟩
theorem tw9280943157826144627:True:=⟨⟩
theorem tw9406978246540704607:True:=⟨⟩
theorem tw9853726720495731302:True:=⟨⟩
end PySem.W.Fast
set_option maxRecDepth 100000 in
set_option maxHeartbeats 0 in
theorem PySem.Challenge.cw_viewwood_k02_alike_holds : PySem.Challenge.rw_viewwood_k02_alike.Holds := by
 w_on; o_law; k_head; (case hw=>w_witness2)
 k_fill
 refine K02.walk (l:=PySem.Challenge.rw_viewwood_k02_alike) rfl rfl rfl (fun w h Y=>PySem.W.kIn_of Y) ?F
 case F =>
  intro w mg h KX G;refine K02.txt_mk KX G ?_ (by k_is) (by k_is) (by k_is) (by k_is) (by k_is) (by k_is) (by k_is) (by k_is) (by k_is) (by k_is) (by k_is) (by k_is) (by k_is) (by k_is);unfold K02.tab
  repeat first | refine⟨⟨_,_,_,_,_,_,_,_,_,_,by k_is,by k_is,by k_is,by k_is⟩,?_⟩ | refine⟨⟨_,_,_,_,_,_,_,_,_,_,_,by k_is,by k_is,by k_is,by k_is,by k_is,by k_is⟩,?_⟩
  exact trivial
