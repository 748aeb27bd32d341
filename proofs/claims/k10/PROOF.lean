import PyProof.Rows.All
import Wide.All
import OpenK.AllK
import Wide.FinOn
import Lean
import PyProof.EqAt
import PyProof.EqKinds
import PyProof.TupleCall
import PyProof.DictUpdate
import KE.KDictOf
import PyProof.AttrMissHeap
import KE.KSortTup
import KE.KItemsList
import PyProof.DictWalks
import PyProof.Rows.TupDisplay
import KE.KEqDict
import PyProof.NeKinds
import KE.KRevIter
import PyProof.ListRange
import KE.KDictSum
import PyProof.MeetsStr
import PyProof.StrLawsJoin
import PyProof.FitsInt
import PyProof.ZipIter
import PySem.Challenge.RW_viewwood_k10_whole_pieces_hang_on_reads
def sM{p q:Prop}{g:Prop}(h:p/\q)(k:p->q->g):g:=by obtain⟨x0,x1⟩:=h;exact k x0 x1
def QR{p q r:Prop}{g:Prop}(h:p/\q/\r)(k:p->q->r->g):g:=by obtain⟨x0,x1,x2⟩:=h;exact k x0 x1 x2
def QQ{p q r s:Prop}{g:Prop}(h:p/\q/\r/\s)(k:p->q->r->s->g):g:=by obtain⟨x0,x1,x2,x3⟩:=h;exact k x0 x1 x2 x3
def tN{p q r s t:Prop}{g:Prop}(h:p/\q/\r/\s/\t)(k:p->q->r->s->t->g):g:=by obtain⟨x0,x1,x2,x3,x4⟩:=h;exact k x0 x1 x2 x3 x4
def QP{p q r s t o:Prop}{g:Prop}(h:p/\q/\r/\s/\t/\o)(k:p->q->r->s->t->o->g):g:=by obtain⟨x0,x1,x2,x3,x4,x5⟩:=h;exact k x0 x1 x2 x3 x4 x5
def el11{A:Sort _}{p:A->Prop}{g:Prop}(h:∃a,p a)(k:∀a,p a->g):g:=by obtain⟨a,x0⟩:=h;exact k a x0
def eQ{A:Sort _}{p q:A->Prop}{g:Prop}(h:∃a,p a/\q a)(k:∀a,p a->q a->g):g:=by obtain⟨a,x0,x1⟩:=h;exact k a x0 x1
def aJ{A:Sort _}{p q r:A->Prop}{g:Prop}(h:∃a,p a/\q a/\r a)(k:∀a,p a->q a->r a->g):g:=by obtain⟨a,x0,x1,x2⟩:=h;exact k a x0 x1 x2
def Zk{A:Sort _}{p q r s:A->Prop}{g:Prop}(h:∃a,p a/\q a/\r a/\s a)(k:∀a,p a->q a->r a->s a->g):g:=by obtain⟨a,x0,x1,x2,x3⟩:=h;exact k a x0 x1 x2 x3
def QO{A:Sort _}{p q r s t:A->Prop}{g:Prop}(h:∃a,p a/\q a/\r a/\s a/\t a)(k:∀a,p a->q a->r a->s a->t a->g):g:=by obtain⟨a,x0,x1,x2,x3,x4⟩:=h;exact k a x0 x1 x2 x3 x4
def el21{A:Sort _}{B:Sort _}{p:A->B->Prop}{g:Prop}(h:∃a b,p a b)(k:∀a b,p a b->g):g:=by obtain⟨a,b,x0⟩:=h;exact k a b x0
def wY{A:Sort _}{B:Sort _}{p q:A->B->Prop}{g:Prop}(h:∃a b,p a b/\q a b)(k:∀a b,p a b->q a b->g):g:=by obtain⟨a,b,x0,x1⟩:=h;exact k a b x0 x1
theorem kZ{A:Sort _}{B:Sort _}{p q r:A->B->Prop}{g:Prop}(h:∃a b,p a b/\q a b/\r a b)(k:∀a b,p a b->q a b->r a b->g):g:=by obtain⟨a,b,x0,x1,x2⟩:=h;exact k a b x0 x1 x2
def QN{A:Sort _}{B:Sort _}{p q r s:A->B->Prop}{g:Prop}(h:∃a b,p a b/\q a b/\r a b/\s a b)(k:∀a b,p a b->q a b->r a b->s a b->g):g:=by obtain⟨a,b,x0,x1,x2,x3⟩:=h;exact k a b x0 x1 x2 x3
def el25{A:Sort _}{B:Sort _}{p q r s t:A->B->Prop}{g:Prop}(h:∃a b,p a b/\q a b/\r a b/\s a b/\t a b)(k:∀a b,p a b->q a b->r a b->s a b->t a b->g):g:=by obtain⟨a,b,x0,x1,x2,x3,x4⟩:=h;exact k a b x0 x1 x2 x3 x4
def el26{A:Sort _}{B:Sort _}{p q r s t o:A->B->Prop}{g:Prop}(h:∃a b,p a b/\q a b/\r a b/\s a b/\t a b/\o a b)(k:∀a b,p a b->q a b->r a b->s a b->t a b->o a b->g):g:=by obtain⟨a,b,x0,x1,x2,x3,x4,x5⟩:=h;exact k a b x0 x1 x2 x3 x4 x5
def el31{A:Sort _}{B:Sort _}{C:Sort _}{p:A->B->C->Prop}{g:Prop}(h:∃a b c,p a b c)(k:∀a b c,p a b c->g):g:=by obtain⟨a,b,c,x0⟩:=h;exact k a b c x0
def Ya{A:Sort _}{B:Sort _}{C:Sort _}{p q:A->B->C->Prop}{g:Prop}(h:∃a b c,p a b c/\q a b c)(k:∀a b c,p a b c->q a b c->g):g:=by obtain⟨a,b,c,x0,x1⟩:=h;exact k a b c x0 x1
def fR{A:Sort _}{B:Sort _}{C:Sort _}{p q r:A->B->C->Prop}{g:Prop}(h:∃a b c,p a b c/\q a b c/\r a b c)(k:∀a b c,p a b c->q a b c->r a b c->g):g:=by obtain⟨a,b,c,x0,x1,x2⟩:=h;exact k a b c x0 x1 x2
theorem pX{A:Sort _}{B:Sort _}{C:Sort _}{p q r s:A->B->C->Prop}{g:Prop}(h:∃a b c,p a b c/\q a b c/\r a b c/\s a b c)(k:∀a b c,p a b c->q a b c->r a b c->s a b c->g):g:=by obtain⟨a,b,c,x0,x1,x2,x3⟩:=h;exact k a b c x0 x1 x2 x3
def el35{A:Sort _}{B:Sort _}{C:Sort _}{p q r s t:A->B->C->Prop}{g:Prop}(h:∃a b c,p a b c/\q a b c/\r a b c/\s a b c/\t a b c)(k:∀a b c,p a b c->q a b c->r a b c->s a b c->t a b c->g):g:=by obtain⟨a,b,c,x0,x1,x2,x3,x4⟩:=h;exact k a b c x0 x1 x2 x3 x4
def Kz{A:Sort _}{B:Sort _}{C:Sort _}{p q r s t o:A->B->C->Prop}{g:Prop}(h:∃a b c,p a b c/\q a b c/\r a b c/\s a b c/\t a b c/\o a b c)(k:∀a b c,p a b c->q a b c->r a b c->s a b c->t a b c->o a b c->g):g:=by obtain⟨a,b,c,x0,x1,x2,x3,x4,x5⟩:=h;exact k a b c x0 x1 x2 x3 x4 x5
def el42{A:Sort _}{B:Sort _}{C:Sort _}{D:Sort _}{p q:A->B->C->D->Prop}{g:Prop}(h:∃a b c d,p a b c d/\q a b c d)(k:∀a b c d,p a b c d->q a b c d->g):g:=by obtain⟨a,b,c,d,x0,x1⟩:=h;exact k a b c d x0 x1
def el43{A:Sort _}{B:Sort _}{C:Sort _}{D:Sort _}{p q r:A->B->C->D->Prop}{g:Prop}(h:∃a b c d,p a b c d/\q a b c d/\r a b c d)(k:∀a b c d,p a b c d->q a b c d->r a b c d->g):g:=by obtain⟨a,b,c,d,x0,x1,x2⟩:=h;exact k a b c d x0 x1 x2
def W9{A:Sort _}{B:Sort _}{C:Sort _}{D:Sort _}{p q r s t:A->B->C->D->Prop}{g:Prop}(h:∃a b c d,p a b c d/\q a b c d/\r a b c d/\s a b c d/\t a b c d)(k:∀a b c d,p a b c d->q a b c d->r a b c d->s a b c d->t a b c d->g):g:=by obtain⟨a,b,c,d,x0,x1,x2,x3,x4⟩:=h;exact k a b c d x0 x1 x2 x3 x4
def el46{A:Sort _}{B:Sort _}{C:Sort _}{D:Sort _}{p q r s t o:A->B->C->D->Prop}{g:Prop}(h:∃a b c d,p a b c d/\q a b c d/\r a b c d/\s a b c d/\t a b c d/\o a b c d)(k:∀a b c d,p a b c d->q a b c d->r a b c d->s a b c d->t a b c d->o a b c d->g):g:=by obtain⟨a,b,c,d,x0,x1,x2,x3,x4,x5⟩:=h;exact k a b c d x0 x1 x2 x3 x4 x5
def el54{A:Sort _}{B:Sort _}{C:Sort _}{D:Sort _}{E:Sort _}{p q r s:A->B->C->D->E->Prop}{g:Prop}(h:∃a b c d e,p a b c d e/\q a b c d e/\r a b c d e/\s a b c d e)(k:∀a b c d e,p a b c d e->q a b c d e->r a b c d e->s a b c d e->g):g:=by obtain⟨a,b,c,d,e,x0,x1,x2,x3⟩:=h;exact k a b c d e x0 x1 x2 x3
def el55{A:Sort _}{B:Sort _}{C:Sort _}{D:Sort _}{E:Sort _}{p q r s t:A->B->C->D->E->Prop}{g:Prop}(h:∃a b c d e,p a b c d e/\q a b c d e/\r a b c d e/\s a b c d e/\t a b c d e)(k:∀a b c d e,p a b c d e->q a b c d e->r a b c d e->s a b c d e->t a b c d e->g):g:=by obtain⟨a,b,c,d,e,x0,x1,x2,x3,x4⟩:=h;exact k a b c d e x0 x1 x2 x3 x4
set_option Elab.async false
set_option linter.all false
set_option maxRecDepth 100000
set_option maxHeartbeats 4000000
def y0(n:Nat)(h:n.ble 99=true):n<=PySem.sizeLine:=Nat.le_trans (Nat.le_of_ble_eq_true h) (by decide)
abbrev AA:=@PySem.wpAny_bind
abbrev AB:=@List.length_map
abbrev AC:=@PySem.wpAny_pure
abbrev AD:=@PySem.Heap.get?_push_of_some
abbrev AE:=@List.mem_singleton
abbrev AF:=@List.mem_cons_self
abbrev AG:=@PySem.Heap.lt_size
abbrev AH:=@Nat.le_refl
abbrev AK:=@List.mem_cons_of_mem
abbrev AL:=@List.length_append
abbrev AM:=@PySem.Heap.get?_push_size
abbrev AN:=@Bool.false_ne_true
abbrev AO:=@List.getElem?_eq_getElem
abbrev AQ:=@decide_eq_false
abbrev AR:=@List.mem_append_right
abbrev AS:=@Nat.lt_of_lt_of_le
abbrev AU:=@List.mem_map
abbrev AV:=@List.mem_append
abbrev AW:=@if_pos
abbrev AX:=@if_neg
abbrev AY:=@List.length_cons
abbrev AZ:=@List.length_singleton
abbrev Aa:=@Nat.le_trans
abbrev Ab:=@List.map_append
abbrev Ac:=@of_decide_eq_true
abbrev Ad:=@Nat.ne_of_lt
abbrev Ae:=@Nat.zero_le
abbrev Af:=@List.mem_cons
abbrev Ah:=@List.mem_of_getElem?
abbrev Ai:=@decide_eq_true
abbrev Aj:=@List.append_assoc
abbrev Ak:=@List.getElem?_eq_some_iff
abbrev Al:=@List.append_nil
abbrev Am:=@decide_eq_true_iff
abbrev An:=@List.length_range
abbrev Ao:=@List.getElem?_map
abbrev Ap:=@PySem.wpAny_call_entry
abbrev Aq:=@List.mem_append_left
abbrev Ar:=@Array.getElem?_eq_getElem
abbrev As:=@PySem.wpAny_field
abbrev Au:=@List.size_toArray
abbrev Av:=@PySem.W.mg_none_of
abbrev Aw:=@PySem.wpAny_holding
abbrev Ax:=@Nat.ne_of_gt
abbrev Ay:=@PySem.wpAny_newObj_type
abbrev Az:=@List.drop_eq_getElem_cons
abbrev A2:=@Array.length_toList
abbrev A3:=@Nat.lt_of_le_of_lt
abbrev A4:=@Nat.succ.inj
abbrev A7:=@PySem.Heap.get?_update_self
abbrev A8:=@List.map_cons
abbrev A9:=@PySem.wpAny_setField_rec
abbrev BA:=@Int.le_refl
abbrev BB:=@PySem.wpAny_callSpecial?_slot
abbrev BC:=@Option.some.inj
abbrev BD:=@PySem.wpAny_truthy_bool
abbrev BE:=@Nat.le_succ_of_le
abbrev BF:=@PyProof.Rows.slot_tuple_getitem
abbrev BG:=@PySem.wpAny_seqItems
abbrev BH:=@PySem.lookup_relabel_local
abbrev BI:=@Nat.lt_irrefl
abbrev BJ:=@List.any_cons
abbrev BK:=@PySem.Heap.get?_update_other
abbrev BL:=@Bool.and_eq_true
abbrev BM:=@PySem.W.kia_one
abbrev BN:=@List.nodup_cons
abbrev BO:=@List.find?_cons
abbrev BP:=@PySem.wpAny_mono
abbrev BQ:=@List.cons.inj
abbrev BR:=@List.mem_range
abbrev BS:=@PySem.Heap.SameBut.update
abbrev BU:=@List.mem_iff_getElem?
abbrev BV:=@Nat.le_add_right
abbrev BW:=@List.getElem_mem
abbrev BX:=@List.map_map
abbrev BY:=@PySem.F.plainAttrs_list
abbrev BZ:=@List.foldl_append
abbrev Ba:=@List.filter_cons_of_pos
abbrev Bb:=@List.filter_cons_of_neg
abbrev Bc:=@PySem.wpAny_specialOf
abbrev Be:=@List.length_nil
abbrev Bf:=@PySem.F.slot_dict_keyiterator_next
abbrev Bg:=@congrArg
abbrev Bh:=@Nat.le_of_lt
abbrev Bi:=@PySem.W.mg_of
abbrev Bj:=@List.length_take
abbrev Bk:=@or_assoc
abbrev Bl:=@List.getD_eq_getElem?_getD
abbrev Bm:=@List.length_replicate
abbrev Bn:=@List.mem_of_find?_eq_some
abbrev Bo:=@List.getElem?_append_left
abbrev Bp:=@PySem.codeAny_builtin
abbrev Bq:=@Nat.not_lt_zero
abbrev Br:=@Nat.le_add_left
abbrev Bs:=@PySem.wpAny_dictEntries
abbrev Bt:=@Nat.zero_add
abbrev Bu:=@Nat.mul_le_mul_right
abbrev Bv:=@Nat.le_succ
abbrev Bw:=@Nat.lt_succ_self
abbrev Bx:=@List.length_drop
abbrev By:=@List.drop_length
abbrev Bz:=@List.all_eq_true
abbrev B0:=@PySem.Heap.size_push
abbrev B1:=@PySem.wpAny_typeNameOfWhole_keyiter
abbrev B2:=@Nat.lt_of_succ_lt_succ
abbrev B3:=@Int.emod_lt_of_pos
abbrev B4:=@PySem.wpAny_updateSeq
abbrev B5:=@PySem.wpAny_passesOwn
abbrev B6:=@PySem.plainId_quiet
abbrev B7:=@List.getElem?_eq_none
abbrev B8:=@PySem.wpAny_rule
abbrev B9:=@PySem.sizeLine_eq
abbrev CC:=@PySem.F.slot_NoneType_hash
abbrev CD:=@PySem.F.slot_tuple_iterator_next
abbrev CJ:=@PySem.wpAny_isInstance
abbrev CK:=@Nat.le_of_eq
abbrev CM:=@List.not_mem_nil
abbrev CN:=@PySem.F.plain_extend_loop
abbrev CP:=@PySem.F.entry_extend_loop
abbrev CQ:=@PySem.mem_of_lookup
abbrev CU:=@PySem.wpAny_typeNameOf_keyiter
abbrev CV:=@PySem.wpAny_comprehension_free
abbrev CY:=@PySem.F.slot_dict_itemiterator_next
abbrev CZ:=@Int.emod_nonneg
abbrev Cc:=@PySem.F.slot_tuple_eq
abbrev Cd:=@of_decide_eq_false
abbrev Ce:=@PySem.call_meets
abbrev Cf:=@PySem.wpAny_typeOf
abbrev Cg:=@Nat.lt_or_ge
abbrev Ci:=@Int.toNat_natCast
abbrev Cj:=@Int.le_trans
abbrev Ck:=@PySem.Calls.callWith_builtin
abbrev Cm:=@PySem.wpAny_notOrdered_dict
abbrev Cn:=@PySem.wpAny_typeNameOfWhole_itemiter
abbrev Co:=@PySem.wpAny_forIn_list
abbrev Cp:=@List.cons_append
abbrev Cq:=@List.all_cons
abbrev Cr:=@List.mem_of_mem_take
abbrev Cs:=@PySem.wpAny_dictEpoch
abbrev Ct:=@List.of_mem_zip
abbrev Cu:=@List.nil_append
abbrev Cv:=@List.foldl_cons
abbrev Cw:=@Bool.eq_iff_iff
abbrev Cy:=@List.map_congr_left
abbrev Cz:=@PySem.Heap.get?_update_ne
abbrev DA:=@PySem.wpAny_setField
abbrev DB:=@PySem.wpAny_pyIter_tuple
abbrev DC:=@PySem.wpAny_Call_Name_kw
abbrev DD:=@PySem.tupleKind_room_in1
abbrev DE:=@List.zip_cons_cons
abbrev DF:=@List.nodup_nil
abbrev DG:=@List.getElem?_append_right
abbrev DH:=@PySem.Calls.spliced_cons
abbrev DI:=@Array.forIn_toList
abbrev DJ:=@PySem.F.slot_tuple_getattribute
abbrev DK:=@PySem.Calls.call_function_entry
abbrev DL:=@List.reverse_cons
abbrev DM:=@PySem.F.slot_tuple_hash
abbrev DN:=@PySem.wpAny_attempt
abbrev DO:=@PySem.F.args_tuple_add_2
abbrev DP:=@PySem.F.entry_tuple_add
abbrev DQ:=@List.eraseIdx_cons_succ
abbrev DR:=@PySem.wpAny_isOneOf_itemiter
abbrev DS:=@PySem.codeAny_mono
abbrev DT:=@PySem.F.slot_tuple_add
abbrev DU:=@List.take_of_length_le
abbrev DV:=@List.find?_cons_of_neg
abbrev DW:=@PySem.wpAny_execs_nil
abbrev DX:=@beq_false_of_ne
abbrev DY:=@List.range_succ
abbrev DZ:=@List.mem_filter
abbrev Da:=@List.find?_some
abbrev Dc:=@PySem.F.slot_zip_next
abbrev Dd:=@PySem.wpAny_callSpecialIfBoundUnlessNone?_slot
abbrev De:=@PySem.isSubtype_tuple_tuple
abbrev Df:=@PySem.builtinLookup_eq_fast
abbrev Dg:=@PySem.F.slot_dict_get
abbrev Dh:=@Array.getElem?_toList
abbrev Di:=@PySem.wpAny_newTuple
abbrev Dj:=@PySem.wpAny_letGo
abbrev Dk:=@PySem.Calls.evalArgs_plain
abbrev Dl:=PySem.W.Frag
namespace PySem
open Sem (wp)
section
variable {prog:Program}{w:World}{K:Type}[DecidableEq K](knd:KeyKind prog w K)
inductive ItemsTup(h:Heap):List (List K)->List Value->Prop
 |nil:ItemsTup h [] []
 |cons {k:List K} {b:Addr} {kss:List (List K)} {vs:List Value}:IsTupleKey knd h k b->ItemsTup h kss vs->ItemsTup h (k::kss) (.ref b::vs)
def IsPathKey(h:Heap)(kss:List (List K))(a:Addr):Prop:=∃o items n,h.get? a=some o/\o.cls=.type "tuple"/\o.data=.seq items n/\ItemsTup knd h kss items.toList
variable {knd}
def ItemsTup.inj(hx:ItemsTup knd h x vs)(hy:ItemsTup knd h y vs):x=y:=by
 induction hx generalizing y with
 |nil=>(cases hy;rfl)
 |cons h1 _ ih=>cases hy with | cons h2 t2=>rw[h1.inj h2,ih t2]
def ItemsTup.keeps(hx:ItemsTup knd h x vs)(ho:h.get? d=some o)(hd:o.data=.dict es ep)(hs:Heap.SameBut d h h'):ItemsTup knd h' x vs:=by
 induction hx with
 |nil=>exact .nil
 |cons h1 _ ih=>exact .cons (h1.keeps ho hd hs) ih
def IsPathKey.typeIs{s:Shared}(x:IsPathKey knd s.heap kss a):s.TypeIs (.ref a) "tuple" :=fR x fun o _ _ e c _=>⟨o,e,c⟩
def IsPathKey.inj(hx:IsPathKey knd h x a)(hy:IsPathKey knd h y a):x=y:=by
 refine pX hx fun o its n e1 _ e2 e3=>pX hy fun o' its' n' f1 _ f2 f3=>?_;cases e1.symm.trans f1;cases e2.symm.trans f2;exact e3.inj f3
def IsPathKey.keeps(x:IsPathKey knd h kss a)(ho:h.get? d=some o)(hd:o.data=.dict es ep)(hs:Heap.SameBut d h h'):IsPathKey knd h' kss a:=by
 refine pX x fun o' its n e1 e2 e3 e4=>?_;have hne:a≠d :=by lia
 exact⟨o',its,n,(hs.2 a hne).trans e1,e2,e3,e4.keeps ho hd hs⟩
def gF(knd:KeyKind prog w K)(kss:List (List K)):Int:=reduceHash (Builtin.Tuple.tupleHashOf (kss.map (tupleKeyHash knd)))
def zL(kss:List (List K)):Nat:=(kss.map fun k=>k.length+1).sum+1
variable {A:Around}{E:Value->Shared->Prop}{s:Shared}
def iM(hu:A.units+1 < cLine)(hk:IsPathKey knd s.heap kss a)(h:Q (gF knd kss) { s with toks:=s.toks+zL kss }):
  wpAny (model prog w) A (pyHash (.ref a)) Q E s:=by
 have hT:=hk.typeIs;obtain⟨o,items,n,ho,_,hd,hi⟩:=hk
 (first | delta pyHashByItsType | skip)
 (first | refine AA (wpAny_cRoomFor_or (.inr (Nat.lt_of_succ_lt hu)) ?_) | skip)
 refine AA (Bc (by exact hT) DM.lookup (?_));refine AA (Bc (by exact hT) DM.lookup (?_));refine AA (Dd (by exact hT) DM (Ap DM (by exact hT) F.entry_tuple_hash (?_) (F.args_tuple_hash_1 _)));show wpAny _ _ (Builtin.Tuple.tupleItemsOf (.ref a) >>= (_)) _ _ s
 (refine AA (wpAny_tupleItemsOf ho hd (AA ?_));rw[<- DI])
 refine Co _ (fun rest b s'=>∃done left,kss=done++left/\ItemsTup knd s.heap left rest/\b.toList=done.map (tupleKeyHash knd)/\s'={ s with toks:=s.toks+(done.map fun k=>k.length+1).sum }) _ ?_ ?_ _ _ ⟨[],kss,rfl,hi,rfl,rfl⟩
 .rintro x rest b s' ⟨done,left,rfl,hl,hb,rfl⟩
  cases hl with
  |@cons k b' ks' _ h1 hl' =>
   refine AA (wpAny_pyHash_tuple hu h1 ?_)
   first
    |exact AC ⟨done++[k],ks',by simp,hl',by simp[hb],by simp[Nat.add_assoc]⟩
    |exact AA (AC (AC ⟨done++[k],ks',by simp,hl',by simp[hb],by simp[Nat.add_assoc]⟩))
 .rintro b s' ⟨done,left,rfl,hl,hb,rfl⟩
  cases hl;rw[Al] at h
  (show wpAny _ _ (retInt (Builtin.Tuple.tupleHashOf b.toList)) _ _ _;rw[hb];apply wpAny_ret_mkInt)
  delta gF reduceHash zL at h
  generalize Builtin.Tuple.tupleHashOf (done.map (tupleKeyHash knd))=hh at h ⊢;show wpAny _ _ (if (decide (-(2:Int) ^ 63<=hh)&&decide (hh < 2 ^ 63))=true then _ else _) Q E _
  by_cases hr:(decide (-(2:Int) ^ 63<=hh)&&decide (hh < 2 ^ 63))=true
  ·(rw[AW hr];rw[AW hr] at h)
   exact AC (by lia)
  ·(rw[AX hr];rw[AX hr] at h)
   exact AA (B8 (AC (by simpa [Nat.add_assoc] using h)))
def pO(hu:A.units < cLine)(hx:IsPathKey knd s.heap x a)(hy:IsPathKey knd s.heap y b)(h:P (.done (.ret (.bool (decide (x=y))))) s):
  wpAny (model prog w) A (Builtin.«tuple.__eq__» ⟨[.ref a,.ref b],[]⟩) P E s:=by
 refine pX hx fun oa xs na hoa _ hda hia=>pX hy fun ob ys nb hob _ hdb hib=>?_
 (show wpAny _ _ (isInstance (.ref b) (.type "tuple") >>= _) _ _ s;refine AA (CJ hy.typeIs De ?_))
 (refine AA (wpAny_tupleItemsOf hoa hda (AA (wpAny_tupleItemsOf hob hdb (AA ?_)))))
 refine Co _ (fun rest r s'=>r.1=none/\s'=s/\∃x' y' xs' ys',rest=List.zip xs' ys'/\ItemsTup knd s.heap x' xs'/\ItemsTup knd s.heap y' ys'/\decide (x'=y')=decide (x=y)/\(xs'.length==ys'.length)=(xs.size==ys.size)) _ ?_ ?_ _ _ ⟨rfl,rfl,x,y,xs.toList,ys.toList,rfl,hia,hib,rfl,by simp⟩
 .rintro ⟨u,v⟩ rest r s' ⟨hr,rfl,x',y',xs',ys',hz,hx',hy',hdec,hlen⟩
  cases hx' with
  |nil=>simp at hz
  |@cons k1 b1 x'' xs'' h1 hx'' =>
   cases hy' with
   |nil=>simp at hz
   |@cons k2 b2 y'' ys'' h2 hy'' =>
    (obtain⟨⟨rfl,rfl⟩,rfl⟩:=hz)
    refine AA (wpAny_eqBool_tuple hu h1 h2 ?_)
    by_cases hk:k1=k2
    .subst hk
     (simp only[ Bool.false_eq_true])
     refine AC ⟨rfl,rfl,x'',y'',xs'',ys'',rfl,hx'',hy'',?_,by simpa using hlen⟩;rw[<- hdec]
     (by_cases hxy:x''=y''<;>simp[hxy])
    ·(rw[AQ hk];simp only[ if_true])
     have hf:decide (x=y)=false :=by lia
     rw[hf] at h;exact AA (AC (AC (AC h)))
 .rintro ⟨r1,r2⟩ s' ⟨hr,rfl,x',y',xs',ys',hz,hx',hy',hdec,hlen⟩
  (subst hr;apply AC)
  have hfin:(xs.size==ys.size)=decide (x=y):=by
   rw[<- hdec,<- hlen]
   cases hx' with
   |nil=>(cases hy' with | nil=>simp | cons _ _=>simp)
   |cons _ _=>(cases hy' with | nil=>simp | cons _ _=>simp at hz)
  (show P (.done (.ret (.bool (xs.size==ys.size)))) s';rwa [hfin])
def qF(hu:A.units+1 < cLine)(hx:IsPathKey knd s.heap x a)(hy:IsPathKey knd s.heap y b)(h:Q (decide (x=y)) s):
  wpAny (model prog w) A (eqBool (.ref a) (.ref b)) Q E s:=by
 (delta eqBool;try with_reducible refine Aw ?_)
 by_cases hab:(Value.ref a==Value.ref b)=true
 .rw [AW hab]
  have e:a=b :=by lia
  subst e;obtain rfl:=hx.inj hy;exact AA (B8 (AC (by lia)))
 .exact (AX hab)▸AA (wpAny_richCompare_same_room hx.typeIs hy.typeIs Cc (Ap Cc hx.typeIs F.entry_tuple_eq (pO hu hx hy ⟨_,rfl,(fun e=>nomatch e),BD h⟩) (F.args_tuple_eq_2 _ _)) (Nat.lt_of_succ_lt hu))
def aI n(hk:IsTupleKey knd s.heap ks a)(h:Q true s):wpAny (model prog w) A (eqIsQuiet (n+1) (.ref a)) Q E s:=by
 have hT:=hk.typeIs;refine pX hk fun o items m ho _ hd hi=>?_
 (unfold eqIsQuiet;refine AA (Bc hT Cc.lookup ?_))
 (refine AA (CJ hT De ?_))
 (refine AA (BG ho hd (AA ?_)))
 (rw[<- DI])
 refine Co _ (fun rest r s'=>r.1=none/\s'=s/\∀v∈rest,carriedByValue v=true) _ ?_ ?_ _ _ ⟨rfl,rfl,hi.byValue⟩
 .rintro v rest r s' ⟨hr,rfl,hall⟩
  (rw[eqIsQuiet_byValue _ (hall v AF)];refine AA (AC ?_))
  (exact AC ⟨rfl,rfl,fun u hu'=>hall u (AK _ hu')⟩)
 .rintro ⟨r1,r2⟩ s' ⟨hr,rfl,_⟩
  (subst hr;exact AC h)
def XC(hk:IsPathKey knd s.heap kss a)(h:Q true s):wpAny (model prog w) A (eqIsQuiet 8 (.ref a)) Q E s:=by
 have hT:=hk.typeIs;obtain⟨o,items,m,ho,_,hd,hi⟩:=hk
 (unfold eqIsQuiet;refine AA (Bc hT Cc.lookup ?_))
 (refine AA (CJ hT De ?_))
 (refine AA (BG ho hd (AA ?_)))
 (rw[<- DI])
 refine Co _ (fun rest r s'=>r.1=none/\s'=s/\∃x',ItemsTup knd s.heap x' rest) _ ?_ ?_ _ _ ⟨rfl,rfl,_,hi⟩
 .rintro v rest r s' ⟨hr,rfl,x',hall⟩
  cases hall with
  |cons h1 h2 =>
   refine AA (aI 6 h1 ?_)
   (exact AC ⟨rfl,rfl,_,h2⟩)
 .rintro ⟨r1,r2⟩ s' ⟨hr,rfl,_⟩
  (subst hr;exact AC h)
end
def V7[DecidableEq K](knd:KeyKind prog w K):HeapKind prog w (List (List K)) where
 is:=IsPathKey knd
 hash:=gF knd
 draws:=zL
 room:=fun A=>A.units+1 < cLine
 inj:=fun hx hy=>hx.inj hy
 keeps:=fun x ho hd hs=>x.keeps ho hd hs
 pyHash:=fun hu hk h=>iM hu hk h
 eqBool:=fun hu hx hy h=>qF hu hx hy h
 quiet:=fun hk h=>XC hk h
end PySem
namespace L2
open PySem PySem.Spec PyProof.Rows
abbrev Key:=Sum (Option Int) Str
def Jd:Value->Bool
 |.none=>true
 |_=>false
def sS:Key->Value->Bool
 |.inl (some k),v=>Value.isInt k v
 |.inl none,v=>Jd v
 |.inr x,v=>Value.isStrOf x v
def keyH(w:World):Key->Int
 |.inl (some k)=>hashInt k
 |.inl none=>4238894112
 |.inr x=>hashStr w x
def bR(h:Jd v=true):v=.none:=by
 cases v<;>first | rfl | cases h
theorem fJ:∀{k}{v},sS k v=true->(∃i t,k=Sum.inl (some i)/\v=Value.int i t)\/(∃x t,k=Sum.inr x/\v=Value.str x t)\/(k=Sum.inl none/\v=Value.none)
 |.inl (some i),v,h=>by
  obtain⟨t,e⟩:=Value.isInt_shape h;exact .inl ⟨i,t,rfl,e⟩
 |.inl none,v,h=>.inr (.inr ⟨rfl,bR h⟩)
 |.inr x,v,h=>by
  obtain⟨t,e⟩:=Value.isStrOf_shape h;exact .inr (.inl ⟨x,t,rfl,e⟩)
def Kq i t:sS (.inl (some i)) (.int i t)=true :=by simp[sS,Value.isInt]
def Kp x t:sS (.inr x) (.str x t)=true :=by simp[sS,Value.isStrOf]
def key_ii a b:decide ((Sum.inl (some a):Key)=Sum.inl (some b))=(a==b) :=by grind
def key_ss a b:decide ((Sum.inr a:Key)=Sum.inr b)=decide (a=b) :=by grind
def key_is i y:decide ((Sum.inl (some i):Key)=Sum.inr y)=false:=AQ nofun
def key_in i:decide ((Sum.inl (some i):Key)=Sum.inl none)=false:=AQ nofun
def key_si x j:decide ((Sum.inr x:Key)=Sum.inl (some j))=false:=AQ nofun
def key_sn x:decide ((Sum.inr x:Key)=Sum.inl none)=false:=AQ nofun
def key_ni j:decide ((Sum.inl none:Key)=Sum.inl (some j))=false:=AQ nofun
def key_ns y:decide ((Sum.inl none:Key)=Sum.inr y)=false:=AQ nofun
def Kx(h:Q 4238894112 { s with toks:=s.toks+1 }):wpAny (model prog w) A (pyHash .none) Q E s:=by
 apply AA
 apply AC
 have ty:s.TypeIs .none "NoneType":=rfl
 refine AA (Bc ty CC.lookup (AA (Bc ty CC.lookup (AA (Dd ty CC
  (Ap CC ty PySem.F.entry_NoneType_hash
   (wpAny_ret_mkInt ?_) (PySem.F.args_NoneType_hash_1 _)))))))
 exact AC h
def W6(h:Q true s):wpAny (model prog w) A (eqBool .none .none) Q E s :=Aw (wpAny_ite_split (fun _=>AA (B8 (AC h))) (fun hab=>absurd rfl hab))
def cX prog w:PySem.KeyKind prog w Key where
 is:=sS
 hash:=keyH w
 inj:=fun v a b ha hb=>by
  rcases fJ ha with ⟨i,t,rfl,rfl⟩ | ⟨x,t,rfl,rfl⟩ | ⟨rfl,rfl⟩<;>rcases fJ hb with ⟨j,u,rfl,e⟩ | ⟨y,u,rfl,e⟩ | ⟨rfl,e⟩<;>cases e<;>rfl
 byValue:=fun k v h=>by
  rcases fJ h with ⟨i,t,rfl,rfl⟩ | ⟨x,t,rfl,rfl⟩ | ⟨rfl,rfl⟩<;>rfl
 pyHash:=fun hv h=>by
  rcases fJ hv with ⟨i,t,rfl,rfl⟩ | ⟨x,t,rfl,rfl⟩ | ⟨rfl,rfl⟩
  .exact wpAny_pyHash_int h
  .exact wpAny_pyHash_str h
  .exact Kx h
 eqBool:=fun hu hv h=>by
  rcases fJ hu with ⟨i,t,rfl,rfl⟩ | ⟨x,t,rfl,rfl⟩ | ⟨rfl,rfl⟩<;>rcases fJ hv with ⟨j,u,rfl,rfl⟩ | ⟨y,u,rfl,rfl⟩ | ⟨rfl,rfl⟩
  .rw [key_ii] at h;exact wpAny_eqBool_int h
  .rw [key_is] at h;exact SeqAt.EqAt.int_str i t y u _ _ _ _ h
  .rw [key_in] at h;exact SeqAt.EqAt.int_none i t _ _ _ _ h
  .rw [key_si] at h;exact SeqAt.EqAt.str_int x t j u _ _ _ _ h
  .rw [key_ss] at h;exact wpAny_eqBool_str h
  .rw [key_sn] at h;exact SeqAt.EqAt.str_none x t _ _ _ _ h
  .rw [key_ni] at h;exact SeqAt.EqAt.none_int j u _ _ _ _ h
  .rw [key_ns] at h;exact SeqAt.EqAt.none_str y u _ _ _ _ h
  .rw [Ai (rfl:(Sum.inl none:Key)=Sum.inl none)] at h;exact W6 h
 «strs»:=fun k x t v h=>by
  rcases fJ h with ⟨i,u,rfl,e⟩ | ⟨y,u,rfl,e⟩ | ⟨rfl,e⟩
  .exact nomatch e
  .injection e with e1 _
   subst e1;cases v<;>rfl
  .exact nomatch e
def Qp prog w i t:(cX prog w).is (.inl (some i)) (.int i t)=true:=Kq i t
def zE prog w:(cX prog w).is (.inl none) .none=true:=rfl
def Qo prog w x t:(cX prog w).is (.inr x) (.str x t)=true:=Kp x t
inductive V where
 |non | bl (b:Bool) | int (i:Int) | str (x:Str) | byt (b:Array UInt8) | flt (b:UInt64) | ref (a:Addr) | ty (n:String)
 deriving DecidableEq
def RelV:V->Value->Prop
 |.non,u=>u=Value.none
 |.bl b,u=>u=Value.bool b
 |.int i,u=>∃t,u=Value.int i t
 |.str x,u=>∃t,u=Value.str x t
 |.byt b,u=>∃t,u=Value.bytes b t
 |.flt b,u=>∃t,u=Value.float b t
 |.ref a,u=>u=Value.ref a
 |.ty n,u=>u=Value.type n
abbrev Vals:List V->List Value->Prop:=Paired RelV
def Vals.length(r:Vals xs us):xs.length=us.length:=Paired.length r
theorem Vals.get:∀{xs}{us}{i:Nat}{x},Vals xs us->xs[i]?=some x->∃u,us[i]?=some u/\RelV x u
 |_,_,_,_,.nil,e=>by simp at e
 |_,_,0,_,.cons r _,e=>by simp at e;subst e;exact⟨_,rfl,r⟩
 |_,_,i+1,x,.cons _ t,e=>by
  obtain⟨u,h1,h2⟩:=(Vals.get t (by simpa using e));exact⟨u,by simpa using h1,h2⟩
theorem Vals.set(r:RelV x u):∀{xs}{us}i,Vals xs us->Vals (xs.set i x) (us.set i u)
 |_,_,_,.nil=>.nil
 |_,_,0,.cons _ t=>.cons r t
 |_,_,i+1,.cons q t=>.cons q (Vals.set r i t)
theorem Vals.append:∀{xs ys}{us ws},Vals xs us->Vals ys ws->Vals (xs++ys) (us++ws)
 |_,_,_,_,.nil,s=>s
 |_,_,_,_,.cons r t,s=>.cons r (Vals.append t s)
theorem Vals.take:∀{xs}{us}n,Vals xs us->Vals (xs.take n) (us.take n)
 |_,_,0,_=>.nil
 |_,_,_+1,.nil=>.nil
 |_,_,n+1,.cons r t=>.cons r (Vals.take n t)
theorem Vals.drop:∀{xs}{us}n,Vals xs us->Vals (xs.drop n) (us.drop n)
 |_,_,0,r=>r
 |_,_,_+1,.nil=>.nil
 |_,_,n+1,.cons _ t=>Vals.drop n t
def RelO:Option V->Option Value->Prop
 |some v,some u=>RelV v u
 |none,none=>True
 |_,_=>False
def KV: List (κ×V)->List (κ×Value)->Prop:=Paired fun(p:κ×V)(q:κ×Value)=>p.1=q.1/\RelV p.2 q.2
def kV:Key->V
 |.inl none=>.non
 |.inl (some i)=>.int i
 |.inr x=>.str x
inductive HO where
 |lst (xs:List V)
 |tup (xs:List V)
 |dK (kvs:List (Key×V)) | dT (kvs:List (List Key×V)) | dP (kvs:List (List (List Key)×V))
 |set (S:Int->Bool) (n:Nat)
 |ins (C dx:Addr) (fs:List (Str×V))
 |own (x:Addr)
 |xd (fs:List (Str×V))
 |met (f x:Addr)
 |rng (lo hi:Int)
 |frz (o:Obj) (u:HO)
 |tbl (ps:Array Value)
 |ext (φ:Heap->Prop)
abbrev Hp:=Addr->Option HO
def upd(H:Hp)(a:Addr)(o:HO):Hp:=fun b=>if b=a then some o else H b
theorem fQ: upd H a o a=some o :=by grind[upd]
def mQ(h:b≠a):upd H a o b=H b :=by grind[upd]
def ne_of{H:Hp}(h:H a=some o)(h':H b=some u)(d:o≠u):a≠b :=by grind
def kK{H:Hp}(h:H a=some o)(h':H b=none):a≠b :=by grind
def IsTupN(h:Heap)(a:Addr)(items:Array Value):Prop:=∃o,h.get? a=some o/\o.cls=.type "tuple"/\(∃n,o.data=.seq items n)/\o.dict=none
def IsTupN.is(x:IsTupN h a items):IsTup h a items:=let ⟨o,e,c,d,_⟩:=x;⟨o,e,c,d⟩
def IsTupN.new(h:Heap)items:IsTupN (h.push { cls:=.type "tuple",data:=.seq items }) h.objs.size items:=⟨_,AM _ rfl,rfl,⟨_,rfl⟩,rfl⟩
def PKey(H:Hp)(kss:List (List Key))(b:Addr):Prop:=∃bs:List Addr,H b=some (.tup (bs.map V.ref))/\Paired (fun(ks:List Key)(c:Addr)=>H c=some (.tup (ks.map kV))) kss bs
section
variable (P:Program)(w:World)
def ObjOk(H:Hp)(h:Heap)(a:Addr):HO->Prop
 |.lst xs=>xs.length<=sizeLine/\∃(its:List Value)(n:Nat),Vals xs its/\h.get? a=some { cls:=.type "list",data:=.seq its.toArray n }
 |.tup xs=>xs.length<=sizeLine/\∃its:List Value,Vals xs its/\IsTupN h a its.toArray
 |.dK kvs=>kvs.length<=sizeLine/\(a==sysModules)=false/\∃vs,KV kvs vs/\h.DictOf (cX P w) a vs
 |.dT kvs=>kvs.length<=sizeLine/\(a==sysModules)=false/\∃xs:List (List Key×Addr×Value),
   Paired (fun(p:List Key×V)(q:List Key×Addr×Value)=>p.1=q.1/\H q.2.1=some (.tup (p.1.map kV))/\RelV p.2 q.2.2) kvs xs /\
   ∃o es ep,h.get? a=some o/\o.ExactDict/\o.data=.dict es ep/\es.toList=xs.map (entryOfKey (tupleKind (cX P w)))/\(xs.map (·.1)).Nodup
 |.dP kvs=>kvs.length<=sizeLine/\(a==sysModules)=false/\∃xs:List (List (List Key)×Addr×Value),
   Paired (fun(p:List (List Key)×V)(q:List (List Key)×Addr×Value)=>p.1=q.1/\PKey H p.1 q.2.1/\RelV p.2 q.2.2) kvs xs /\
   ∃o es ep,h.get? a=some o/\o.ExactDict/\o.data=.dict es ep/\es.toList=xs.map (entryOfKey (V7 (cX P w)))/\(xs.map (·.1)).Nodup
 |.set S n=>h.SetOf (intKind P w) a S n
 |.ins C dx fs=>H dx=some (.own a)/\fs.length<=1000/\dx≠a/\h.get? a=some (PySem.W.instObj C dx) /\
   ∃mA,h.Ns1 dx mA/\(∀f,RelO (fs.lookup f) (mA f))/\PySem.Within mA (fs.map (·.1))
 |.own _=>∃o,h.get? a=some o
 |.xd fs=>∃mA,h.Ns1 a mA/\∀f,RelO (fs.lookup f) (mA f)
 |.rng lo hi=>∃t u v,h.get? a=some { cls:=.type "range",data:=.fields #[.int lo t,.int hi u,.int 1 v] }
 |.frz o u=>h.get? a=some o/\ObjOk H h a u
 |.tbl ps=>h.get? a=some { cls:=.none,data:=.fields ps }
 |.met f x=>h.get? a=some (PySem.W.methodObj (.ref f) (.ref x))
 |.ext φ=>φ h/\(∃o,h.get? a=some o)/\∀h1 h2:Heap,φ h1->(∀o,h1.get? a=some o->h2.get? a=some o)->φ h2
def HOk(H:Hp)(h:Heap):Prop:=∀a o,H a=some o->ObjOk P w H h a o
end
section
variable {P:Program}{w:World}{H H':Hp}{h h':Heap}{a:Addr}{o:HO}
def ObjOk.lt(x:ObjOk P w H h a o):a < h.objs.size:=by
 cases o with
 |lst xs=>obtain⟨_,_,_,_,e⟩:=x;exact AG e
 |tup xs=>obtain⟨_,_,_,o,e,_⟩:=x;exact AG e
 |dK kvs=>obtain⟨_,_,_,_,o,_,_,e,_⟩:=x;exact AG e
 |dT kvs=>obtain⟨_,_,_,_,o,_,_,e,_⟩:=x;exact AG e
 |dP kvs=>obtain⟨_,_,_,_,o,_,_,e,_⟩:=x;exact AG e
 |set S n=>exact el42 x fun o _ _ _ e _=>AG e
 |ins C dx fs=>exact tN x fun _ _ _ e _=>AG e
 |own y=>obtain⟨_,e⟩:=x;exact AG e
 |xd fs=>obtain⟨_,⟨_,_,_,e,_⟩,_⟩:=x;exact AG e
 |rng lo hi=>exact el31 x fun _ _ _ e=>AG e
 |frz ob u=>obtain⟨e,_⟩:=x;exact AG e
 |tbl ps=>exact AG x
 |met f y=>exact AG x
 |ext φ=>obtain⟨_,⟨_,e⟩,_⟩:=x;exact AG e
theorem Paired.mapP: ∀{l₁}{l₂},Paired F l₁ l₂->(∀a b,F a b->G a b)->Paired G l₁ l₂
 |_,_,.nil,_=>.nil
 |_,_,.cons r t,f=>.cons (f _ _ r) (Paired.mapP t f)
def PKey.mono(x:PKey H kss b)(ht:∀b xs,H b=some (.tup xs)->H' b=some (.tup xs)):PKey H' kss b :=
 let ⟨bs,e,r⟩:=x;⟨bs,ht _ _ e,Paired.mapP r fun _ _ z=>ht _ _ z⟩
def ObjOk.stay(x:ObjOk P w H h a o)(k:∀b u,(b=a\/H b=some (.own a))->h.get? b=some u->h'.get? b=some u)(ho:∀b,H b=some (.own a)->H' b=some (.own a))(ht:∀b xs,H b=some (.tup xs)->H' b=some (.tup xs)):ObjOk P w H' h' a o:=by
 induction o with
 |lst xs=>obtain⟨z,its,n,r,e⟩:=x;exact⟨z,its,n,r,k _ _ (.inl rfl) e⟩
 |tup xs=>obtain⟨z,its,r,ob,e,c⟩:=x;exact⟨z,its,r,ob,k _ _ (.inl rfl) e,c⟩
 |dK kvs=>obtain⟨z,y,vs,r,ob,es,ep,e,c⟩:=x;exact⟨z,y,vs,r,ob,es,ep,k _ _ (.inl rfl) e,c⟩
 |dT kvs =>
  obtain⟨z,y,xs,r,ob,es,ep,e,c⟩:=x;exact⟨z,y,xs,Paired.mapP r fun p q z=>⟨z.1,ht _ _ z.2.1,z.2.2⟩,ob,es,ep,k _ _ (.inl rfl) e,c⟩
 |dP kvs =>
  obtain⟨z,y,xs,r,ob,es,ep,e,c⟩:=x;exact⟨z,y,xs,Paired.mapP r fun p q z=>⟨z.1,z.2.1.mono ht,z.2.2⟩,ob,es,ep,k _ _ (.inl rfl) e,c⟩
 |set S n=>exact el42 x fun ob es ep t e c=>⟨ob,es,ep,t,k _ _ (.inl rfl) e,c⟩
 |ins C dx fs =>
  obtain⟨d,z,ne,e,mA,⟨od,es,ep,e2,c⟩,r⟩:=x;exact⟨ho _ d,z,ne,k _ _ (.inl rfl) e,mA,⟨od,es,ep,k _ _ (.inr d) e2,c⟩,r⟩
 |own y=>obtain⟨ob,e⟩:=x;exact⟨ob,k _ _ (.inl rfl) e⟩
 |xd fs=>obtain⟨mA,⟨od,es,ep,e,c⟩,r⟩:=x;exact⟨mA,⟨od,es,ep,k _ _ (.inl rfl) e,c⟩,r⟩
 |rng lo hi=>exact el31 x fun t u v e=>⟨t,u,v,k _ _ (.inl rfl) e⟩
 |frz ob u ih=>obtain⟨e,q⟩:=x;exact⟨k _ _ (.inl rfl) e,ih q⟩
 |tbl ps =>
  have e:=x;exact k a _ (.inl rfl) e
 |met f y =>
  have e:=x;exact k a _ (.inl rfl) e
 |ext φ=>obtain⟨p,⟨o,e⟩,st⟩:=x;exact⟨st _ _ p fun o q=>k _ _ (.inl rfl) q,⟨o,k _ _ (.inl rfl) e⟩,st⟩
def HOk.lt(x:HOk P w H h)(e:H a=some o):a < h.objs.size:=(x a o e).lt
def HOk.fresh(x:HOk P w H h)(e:h.objs.size<=a):H a=none:=by
 cases q:H a with
 |none=>rfl
 |some u=>exact absurd (AS (x.lt q) e) (BI _)
def HOk.kept(x:HOk P w H h)(k:∀b u,h.get? b=some u->h'.get? b=some u):HOk P w H h':=fun a o e=>
 (x a o e).stay (fun b u _ q=>k b u q) (fun _ q=>q) fun _ _ q=>q
def HOk.laid(x:HOk P w H h)(k:∀b u,h.get? b=some u->h'.get? b=some u)(hp:h.objs.size<=a)(new:ObjOk P w (upd H a o) h' a o):HOk P w (upd H a o) h':=fun b u e=>by
 have hn:=x.fresh hp
 by_cases hb:b=a
 .subst hb;rw[fQ] at e;cases e;exact new
 .rw [mQ hb] at e
  exact(x b u e).stay (fun c v _ q=>k c v q) (fun c q=>by rwa [mQ (kK q hn)]) fun c xs q=>by rwa [mQ (kK q hn)]
end
def Rd(H:Hp)(a:Addr)(u:HO):Prop:=H a=some u\/∃o,H a=some (.frz o u)
theorem Rd.ok(r:Rd H a u)(x:HOk P w H h):ObjOk P w H h a u:=by
 rcases r with r | ⟨o,r⟩
 .exact x a u r
 .obtain ⟨_,q⟩:=x a _ r
  exact q
def Mut:Option HO->Prop
 |some (.lst _)=>True
 |some (.dK _)=>True
 |some (.dT _)=>True
 |some (.dP _)=>True
 |some (.set _ _)=>True
 |some (.ins _ _ _)=>True
 |some (.ext _)=>True
 |_=>False
section
variable {P:Program}{w:World}{H:Hp}{h h':Heap}{x e:Addr}{o':HO}
def HOk.write(ok:HOk P w H h)(mu:Mut (H x))(he:e=x\/H e=some (.own x))(k:∀b u,b≠e->h.get? b=some u->h'.get? b=some u)(heo:∃u,h'.get? e=some u)(new:ObjOk P w (upd H x o') h' x o'):HOk P w (upd H x o') h':=fun b u q=>by
 have nown:∀c y,H c=some (.own y)->c≠x:=fun c y r z=>by subst z;rwa [r] at mu
 have ntup:∀c xs,H c=some (.tup xs)->c≠x:=fun c xs r z=>by subst z;rwa [r] at mu
 by_cases hb:b=x
 .subst hb;rw[fQ] at q;cases q;exact new
 .rw [mQ hb] at q
  by_cases hbe:b=e
  .have q':H b=some (.own x) :=by lia
   rw[q] at q';cases q'
   obtain⟨v,hv⟩:=heo;exact⟨v,by rwa [hbe]⟩
  .refine (ok b u q).stay (fun c v hc r=>k c v ?_ r) (fun c r=>by rwa [mQ (nown c b r)]) fun c xs r=>(mQ (ntup c xs r))▸r
   rcases hc with rfl | hc
   .exact hbe
   .grind
end
structure Un(fs ex:List Addr)(H H':Hp)(h h':Heap):Prop where
 keep:∀b o,h.get? b=some o->H b=none->b∉fs->b∉ex->h'.get? b=some o
 slot:∀b o,h.get? b=some o->H b=none->b∈fs->b∉ex->∃sl,h'.get? b=some { o with slots:=sl }
 free:∀b o,h.get? b=some o->H b=none->b∉ex->H' b=none
 there:∀b o,h.get? b=some o->b∉ex->∃o',h'.get? b=some o'
 tups:∀b xs,H b=some (.tup xs)->H' b=some (.tup xs)
 frzs:∀b o u,H b=some (.frz o u)->H' b=some (.frz o u)
 tbls:∀b ps,H b=some (.tbl ps)->∃more,H' b=some (.tbl (ps++more))
section
variable {fs fs' ex ex':List Addr}{H H1 H2:Hp}{h h1 h2 h':Heap}{a x e:Addr}{o:HO}
def Un.any(u:Un fs ex H H1 h h1)(q:h.get? b=some ob)(n:H b=none)(hx:b∉ex):∃sl,h1.get? b=some { ob with slots:=sl }:=by
 by_cases hb:b∈fs
 .exact u.slot b ob q n hb hx
 .exact ⟨ob.slots,u.keep b ob q n hb hx⟩
def Un.kept(k:∀b u,h.get? b=some u->h'.get? b=some u):Un fs ex H H h h' :=
 ⟨fun b ob q _ _ _=>k b ob q,fun b ob q _ _ _=>⟨ob.slots,k b ob q⟩,fun _ _ _ n _=>n,fun b ob q _=>⟨ob,k b ob q⟩,fun _ _ q=>q,fun _ _ _ q=>q,fun _ ps q=>⟨#[],by rw[q];simp⟩⟩
def Un.refl:Un fs ex H H h h:=Un.kept fun _ _ q=>q
def Un.laid(k:∀b u,h.get? b=some u->h'.get? b=some u)(hp:h.objs.size<=a)(hn:H a=none):Un fs ex H (upd H a o) h h' where
 keep:=fun b u q _ _ _=>k b u q
 slot:=fun b u q _ _ _=>⟨u.slots,k b u q⟩
 free:=fun b u q n _=>by rwa [mQ (Ad (AS (AG q) hp))]
 there:=fun b u q _=>⟨u,k b u q⟩
 tups:=fun b xs q=>by rwa [mQ (kK q hn)]
 frzs:=fun b u xs q=>by rwa [mQ (kK q hn)]
 tbls:=fun b ps q=>⟨#[],by rw[mQ (kK q hn),q];simp⟩
def Un.write(mu:Mut (H x))(he:e=x\/H e=some (.own x))(k:∀b u,b≠e->h.get? b=some u->h'.get? b=some u)(heo:∃u,h'.get? e=some u):Un fs ex H (upd H x o) h h':=by
 have hx:∀b,H b=none->b≠x:=fun b n z=>by subst z;rwa [n] at mu
 have hb:∀b,H b=none->b≠e:=fun b n z=>by
  subst z
  rcases he with r | r
  .exact hx b n r
  .lia
 have hm:∀b u,H b=some u->¬ Mut (some u)->b≠x:=fun b u q nm z=>by subst z;rw[q] at mu;exact nm mu
 refine⟨fun b u q n _ _=>k b u (hb b n) q,fun b u q n _ _=>⟨u.slots,k b u (hb b n) q⟩,fun b u q n _=>by rw[mQ (hx b n)];exact n,fun b u q _=>?_,
  fun b xs q=>by rw[mQ (hm b _ q fun z=>z)];exact q,fun b u xs q=>by rw[mQ (hm b _ q fun z=>z)];exact q,fun b ps q=>⟨#[],by rw[mQ (hm b _ q fun z=>z),q];simp⟩⟩
 by_cases hbe:b=e
 .grind
 .grind
end
def trk(h:Heap)(H:Hp):List Addr:=(List.range h.objs.size).filter fun a=>(H a).isSome
def QC(h:Heap)(H:Hp):Heap:=PySem.W.hideAll h (trk h H)
def Kw h H:(QC h H).objs.size=h.objs.size:=PySem.W.hideAll_size _ _
def WN(e:h.get? b=some o)(n:H b=none):(QC h H).get? b=some o :=
 PySem.W.hideAll_get _ e fun hm=>by
  have q:=(DZ.mp hm).2;rw[n] at q;simp at q
def of_hidT(e:(QC h H).get? b=some o):h.get? b=some o/\H b=none:=by
 have e':=PySem.W.of_hideAll (trk h H) e;refine⟨e',?_⟩
 cases q:H b with
 |none=>rfl
 |some x =>
  have z:(QC h H).get? b=none:=PySem.W.hideAll_none (trk h H) (DZ.mpr ⟨BR.mpr (AG e'),by simp[q]⟩);rw[z] at e;cases e
def allNews(g h:Heap)(L:Addr):List (Addr×Obj):=(List.range h.objs.size).filterMap fun a=>if a=L\/(g.get? a).isSome=true then none else (h.get? a).map fun o=>(a,o)
def rest(g h:Heap)(L d:Addr):List (Addr×Obj):=(allNews g h L).filter fun p=>decide (p.1≠d)
structure Mod(K:Dl)(mg:Str->Option Value)(base:Heap):Prop where
 kin:K.In base
 glob:base.Ns mainGlobals mg
 blt:∃mb,base.Ns builtinsNs mb/\∀x:Str,x ≠ "__name__"->mb x=bootBuiltins x
 nolimit:base.NoLimit
structure Cx where
 prog:Program
 w:World
 K:Dl
 mg:Str->Option Value
 base:Heap
 A:Around
 N:List Str
 s₀:Shared
 H₀:Hp
 env:Env
 outer:List Env
 stack:List Env
 ex:List Addr
 fn:Str->Bool
 calm:Bool
 pn:List (Addr×Obj)
 xe:Value->Shared->Prop
def frs(l:List Env):List Addr:=l.filterMap (·.frame)
abbrev Cx.fs(X:Cx):List Addr:=frs X.outer
def Vis(sc:Scope)(x:Str):Prop:=sc.names.lookup x=some .local\/sc.names.lookup x=some .cell\/sc.names.lookup x=some .free
def Loc(sc:Scope)(x:Str):Prop:=sc.names.lookup x=some .local\/sc.names.lookup x=some .cell
def Look(env:Env)(h:Heap)(m:Str->Option Value)(x:Str)(u:Value):Prop :=
 (env.kindOf x=some .local/\m x=some u)\/((env.kindOf x=some .cell\/env.kindOf x=some .free)/\∃c,env.cells.lookup x=some c/\h.IsCell c (some u))
structure Cx.Ok(X:Cx):Prop where
 mod:Mod X.K X.mg X.base
 kind:X.env.scope.kind=.function
 glob:X.env.globals=mainGlobals
 blt:X.env.builtins=builtinsNs
 above:X.s₀.heap.objs.size<=X.env.locals
 inj:∀x y c,X.env.cells.lookup x=some c->X.env.cells.lookup y=some c->x=y
 has:∀x,(X.env.kindOf x=some .cell\/X.env.kindOf x=some .free)->∃c,X.env.cells.lookup x=some c
 cab:∀x c,X.fn x=true->X.env.cells.lookup x=some c->X.s₀.heap.objs.size<=c
 hd:X.calm=true->X.A.handled=none
 frames:X.A.frames=some X.stack
 stk:X.stack=X.outer\/(X.stack=X.env::X.outer/\X.env.frame=some X.env.locals)
 exf:∀b∈X.ex,b≠X.env.locals/\∀x c,X.env.cells.lookup x=some c->c≠b
 bs:∀b o,X.base.get? b=some o->X.s₀.heap.get? b=some o/\X.H₀ b=none
 bsz:X.base.objs.size<=X.s₀.heap.objs.size
 noex:∀b o,X.base.get? b=some o->b∉X.ex
 exfs:∀b∈X.ex,b∉X.fs
 funs:X.s₀.heap.FunFrames X.base X.outer
 frf:∀b∈X.fs,X.H₀ b=none
structure Inv(X:Cx)(pins:List (Addr×Obj))(σ:List (Option V))(H:Hp)(s:Shared):Prop where
 ok:X.Ok
 os:s.os=X.s₀.os
 bare:AllBare s.gens
 base:Un X.fs X.ex X.H₀ H X.s₀.heap s.heap
 loc:∃m,s.heap.Ns X.env.locals m/\∀(i:Nat)(x:Str)(v:V),X.N[i]?=some x->σ[i]?=some (some v)->Vis X.env.scope x->∃u,RelV v u/\Look X.env s.heap m x u
 cell:∀x c,X.env.cells.lookup x=some c->∃v,s.heap.IsCell c v
 free:H X.env.locals=none
 freeC:∀x c,X.env.cells.lookup x=some c->H c=none
 pin:∀p∈X.pn++pins,s.heap.get? p.1=some p.2/\H p.1=none/\p.1≠X.env.locals/\p.1∉X.fs/\∀v,p.2.data≠.cell v
 hok:HOk X.prog X.w H s.heap
 len:σ.length=X.N.length
section
variable {X:Cx}{pins:List (Addr×Obj)}{σ:List (Option V)}{H H':Hp}{s:Shared}{h':Heap}
def Cx.Ok.nofr(ok:X.Ok)(e:X.base.get? b=some o):b∉X.fs:=fun hb=>by
 have:=(ok.funs.mem hb).1;rw[e] at this;cases this
def Inv.bs(I:Inv X pins σ H s):∀b o,X.base.get? b=some o->s.heap.get? b=some o/\H b=none:=fun b o e=>
 ⟨I.base.keep b o (I.ok.bs b o e).1 (I.ok.bs b o e).2 (I.ok.nofr e) (I.ok.noex b o e),I.base.free b o (I.ok.bs b o e).1 (I.ok.bs b o e).2 (I.ok.noex b o e)⟩
def Inv.bk(I:Inv X pins σ H s):∀b o,X.base.get? b=some o->s.heap.get? b=some o:=fun b o e=>(I.bs b o e).1
def Inv.mod(I:Inv X pins σ H s):Mod X.K X.mg X.base:=I.ok.mod
def Inv.kIn(I:Inv X pins σ H s):X.K.In s.heap:=I.ok.mod.kin.keeps I.bk
def Inv.lt(I:Inv X pins σ H s):X.env.locals < s.heap.objs.size:=let ⟨_,hn,_⟩:=I.loc;hn.lt
def Inv.sz(I:Inv X pins σ H s):X.s₀.heap.objs.size<=s.heap.objs.size:=Aa I.ok.above (Bh I.lt)
def Inv.nofs(I:Inv X pins σ H s){a:Addr}(h:s.heap.objs.size<=a):a∉X.fs:=fun hb=>by
 obtain⟨_,o,ho,_⟩:=I.ok.funs.mem hb;exact absurd (AS (AG ho) (Aa I.sz h)) (BI _)
def Inv.cne(I:Inv X pins σ H s):∀x c,X.env.cells.lookup x=some c->c≠X.env.locals:=fun x c e z=>by
 obtain⟨v,o,ho,hd⟩:=(I.cell x c e);obtain⟨m,⟨o',es,ep,ho',hd',_⟩,_⟩:=I.loc;rw[z,ho'] at ho;cases ho;rw[hd'] at hd;cases hd
def Inv.funs(I:Inv X pins σ H s):s.heap.FunFrames X.base X.outer:=by
 have all:∀l,(∀b∈frs l,b∈X.fs)->X.s₀.heap.FunFrames X.base l->s.heap.FunFrames X.base l:=by
  intro l
  induction l with
  |nil=>intro _ _;trivial
  |cons env r ih =>
   intro hs hl;obtain⟨hk,⟨L,o,hf,hn,ho,hd⟩,hr⟩:=hl;have hL:=hs L (by delta frs;exact List.filterMap_cons▸hf▸AF);obtain⟨sl,e⟩:=I.base.slot L o ho (I.ok.frf L hL) hL fun z=>I.ok.exfs L z hL;exact⟨hk,⟨L,_,hf,hn,e,hd⟩,ih (fun b hb=>hs b (by delta frs;exact List.filterMap_cons▸hf▸AK _ hb)) hr⟩
 exact all X.outer (fun _ hb=>hb) I.ok.funs
def Inv.stack(I:Inv X pins σ H s):s.heap.FunFrames X.base X.stack:=by
 rcases I.ok.stk with e | ⟨e,hf⟩
 .exact e▸I.funs
 .rw [e]
  refine eQ I.loc fun m hn _=>.cons (by rw[I.ok.kind];decide) hf hn ?_ I.funs;exact Heap.get?_none_of_le (Aa I.ok.bsz I.ok.above)
def Inv.stkSub(I:Inv X pins σ H s):∀b∈frs X.stack,b∈X.env.locals::X.fs:=fun b hb=>by
 rcases I.ok.stk with e | ⟨e,hf⟩
 .grind
 .rw [e] at hb
  delta frs at hb
  rwa [List.filterMap_cons,hf] at hb
def Inv.stkFree(I:Inv X pins σ H s):∀b∈frs X.stack,H b=none:=fun b hb=>by
 rcases Af.mp (I.stkSub b hb) with e | hb
 .exact e▸I.free
 .obtain ⟨_,o,ho,_⟩:=I.ok.funs.mem hb
  exact I.base.free b o ho (I.ok.frf b hb) fun z=>I.ok.exfs b z hb
def Inv.step{ch:List Addr}(I:Inv X pins σ H s)(hch:∀b∈ch,(b∈X.ex\/X.s₀.heap.objs.size<=b)/\b≠X.env.locals/\(∀x c,X.env.cells.lookup x=some c->c≠b)/\∀p∈X.pn++pins,p.1≠b)(keep:∀b o,b≠X.env.locals->b∉X.fs->b∉ch->s.heap.get? b=some o->H b=none->h'.get? b=some o)(slot:∀b o,b≠X.env.locals->b∈X.fs->b∉ch->s.heap.get? b=some o->H b=none->∃sl,h'.get? b=some { o with slots:=sl })(free:∀b o,b∉ch->s.heap.get? b=some o->H b=none->H' b=none)(there:∀b o,b∉ch->s.heap.get? b=some o->∃o',h'.get? b=some o')(tups:∀b xs,H b=some (.tup xs)->H' b=some (.tup xs))(frzs:∀b o u,H b=some (.frz o u)->H' b=some (.frz o u))(tbls:∀b ps,H b=some (.tbl ps)->∃more,H' b=some (.tbl (ps++more)))(ns:∀m,s.heap.Ns X.env.locals m->h'.Ns X.env.locals m)(hok:HOk X.prog X.w H' h')(hg:AllBare g'):
  Inv X pins σ H' { s with heap:=h',gens:=g',drawn:=d',toks:=t' }:=by
 have neL:∀b o,X.s₀.heap.get? b=some o->b≠X.env.locals:=fun b o e=>Ad (AS (AG e) I.ok.above)
 have neC:∀b o,X.s₀.heap.get? b=some o->b∉X.ex->b∉ch:=fun b o e hx hb=>by
  rcases(hch b hb).1 with z | z
  .exact hx z
  .exact absurd (AS (AG e) z) (BI _)
 have cellK:∀x c,X.env.cells.lookup x=some c->∀v,s.heap.IsCell c v->h'.IsCell c v:=fun x c e v zz=>eQ zz fun o ho hd=> by
  have nch:c∉ch:=fun z=>(hch c z).2.2.1 x c e rfl
  by_cases hc:c∈X.fs
  .obtain ⟨sl,q⟩:=slot c o (I.cne x c e) hc nch ho (I.freeC x c e)
   exact⟨_,q,hd⟩
  .exact ⟨o,keep c o (I.cne x c e) hc nch ho (I.freeC x c e),hd⟩
 refine⟨I.ok,I.os,hg,⟨fun b o e n hb hx=>?_,fun b o e n hb hx=>?_,fun b o e n hx=>?_,fun b o e hx=>?_,fun b xs e=>tups b xs (I.base.tups b xs e),fun b o xs e=>frzs b o xs (I.base.frzs b o xs e),fun b ps e=>?_⟩,?_,fun x c e=>?_,?_,fun x c e=>?_,fun p hp=>?_,hok,I.len⟩
 .exact keep b o (neL b o e) hb (neC b o e hx) (I.base.keep b o e n hb hx) (I.base.free b o e n hx)
 .obtain ⟨sl,e1⟩:=I.base.slot b o e n hb hx
  obtain⟨sl',e2⟩:=slot b _ (neL b o e) hb (neC b o e hx) e1 (I.base.free b o e n hx);exact⟨sl',e2⟩
 .obtain ⟨o',e1⟩:=I.base.there b o e hx
  exact free b o' (neC b o e hx) e1 (I.base.free b o e n hx)
 .obtain ⟨o',e1⟩:=I.base.there b o e hx
  exact there b o' (neC b o e hx) e1
 .obtain ⟨m1,e1⟩:=I.base.tbls b ps e
  obtain⟨m2,e2⟩:=tbls b _ e1;exact⟨m1++m2,by rw[e2,Array.append_assoc]⟩
 .refine eQ I.loc fun m hn hl=>⟨m,ns m hn,fun i x v e1 e2 e3=>eQ (hl i x v e1 e2 e3) fun u r l=>⟨u,r,?_⟩⟩
  rcases l with l | ⟨k,c,e,z⟩
  .exact .inl l
  .exact .inr ⟨k,c,e,cellK x c e _ z⟩
 .obtain ⟨v,z⟩:=I.cell x c e
  exact⟨v,cellK x c e v z⟩
 .obtain ⟨m,⟨o,_,_,ho,_⟩,_⟩:=I.loc
  exact free _ o (fun z=>(hch _ z).2.1 rfl) ho I.free
 .exact wY (I.cell x c e) fun v o ho hd=>free c o (fun z=>(hch c z).2.2.1 x c e rfl) ho (I.freeC x c e)
 .refine tN (I.pin p hp) fun e n ne nf d=>?_
  have nch:p.1∉ch:=fun z=>(hch p.1 z).2.2.2 p hp rfl;exact⟨keep p.1 p.2 ne nf nch e n,free p.1 p.2 nch e n,ne,nf,d⟩
def Inv.un(I:Inv X pins σ H s)(u:Un X.fs [] H H' s.heap h')(hok:HOk X.prog X.w H' h'):Inv X pins σ H' { s with heap:=h',toks:=t' }:=by
 obtain⟨m,⟨o,es,ep,ho,r⟩,_⟩:=id I.loc;obtain⟨sl,hL⟩:=u.any ho I.free (by simp)
 exact I.step (g':=s.gens) (d':=s.drawn) (ch:=[]) (fun _ z=>nomatch z) (fun b o _ hb _ e n=>u.keep b o e n hb (by simp)) (fun b o _ hb _ e n=>u.slot b o e n hb (by simp)) (fun b o _ e n=>u.free b o e n (by simp)) (fun b o _ e=>u.there b o e (by simp)) u.tups u.frzs u.tbls (fun m' hm=>by
  obtain⟨o',es',ep',ho',r'⟩:=hm;rw[ho] at ho';cases ho'
  exact⟨_,es',ep',hL,r'⟩) hok I.bare
def Inv.call(I:Inv X pins σ H s)(u:Un (frs X.stack) ch H H' s.heap h')(hok:HOk X.prog X.w H' h')(hg:AllBare g')(hch:∀b∈ch,(b∈X.ex\/X.s₀.heap.objs.size<=b)/\b≠X.env.locals/\(∀x c,X.env.cells.lookup x=some c->c≠b)/\∀p∈X.pn++pins,p.1≠b):
  Inv X pins σ H' { s with heap:=h',gens:=g',drawn:=d',toks:=t' }:=by
 obtain⟨m,⟨o,es,ep,ho,r⟩,_⟩:=id I.loc;obtain⟨sl,hL⟩:=u.any ho I.free fun z=>(hch _ z).2.1 rfl
 exact I.step hch (fun b o hL hb hc e n=>u.keep b o e n (fun z=>(Af.mp (I.stkSub b z)).elim hL hb) hc) (fun b o _ _ hc e n=>u.any e n hc) (fun b o hc e n=>u.free b o e n hc) (fun b o hc e=>u.there b o e hc) u.tups u.frzs u.tbls (fun m' hm=>by
  obtain⟨o',es',ep',ho',r'⟩:=hm;rw[ho] at ho';cases ho'
  exact⟨_,es',ep',hL,r'⟩) hok hg
def Inv.turned(I:Inv X pins σ H s)(k:∀b o,b≠it->s.heap.get? b=some o->h'.get? b=some o)(hn:H it=none)(hL:it≠X.env.locals)(h1:it∈X.ex\/X.s₀.heap.objs.size<=it)(h2:∀x c,X.env.cells.lookup x=some c->c≠it)(h3:∀p∈X.pn++pins,p.1≠it):Inv X pins σ H { s with heap:=h',toks:=t' }:=by
 have nit:∀b u,H b=some u->b≠it:=fun b u e z=>by rw[z,hn] at e;cases e
 refine I.step (g':=s.gens) (d':=s.drawn) (ch:=[it]) (fun b hb=>?_) (fun b o _ _ hc e _=>k b o (fun z=>hc (by simp[z])) e) (fun b o _ _ hc e _=>⟨o.slots,k b o (fun z=>hc (by simp[z])) e⟩) (fun _ _ _ _ n=>n)
  (fun b o hc e=>⟨o,k b o (fun z=>hc (by simp[z])) e⟩) (fun _ _ e=>e) (fun _ _ _ e=>e) (fun b ps e=>⟨#[],by rw[e];simp⟩) (fun m hm=>?_) (fun b u e=>?_) I.bare
 .grind
 .exact Ya hm fun o es ep ho r=>⟨o,es,ep,k _ o (Ne.symm hL) ho,r⟩
 .refine (I.hok b u e).stay (fun c v hc q=>k c v ?_ q) (fun _ q=>q) fun _ _ q=>q
  rcases hc with z | z
  .lia
  .lia
def Inv.tok(I:Inv X pins σ H s)t:Inv X pins σ H { s with toks:=t }:=I.un (h':=s.heap) (t':=t) Un.refl I.hok
def Inv.kept(I:Inv X pins σ H s)(k:∀b u,s.heap.get? b=some u->h'.get? b=some u):Inv X pins σ H { s with heap:=h',toks:=t' }:=I.un (Un.kept k) (I.hok.kept k)
def Inv.laid{a:Addr}(I:Inv X pins σ H s)(k:∀b u,s.heap.get? b=some u->h'.get? b=some u)(hp:s.heap.objs.size<=a)(new:ObjOk X.prog X.w (upd H a o) h' a o):
  Inv X pins σ (upd H a o) { s with heap:=h',toks:=t' }:=I.un (Un.laid k hp (I.hok.fresh hp)) (I.hok.laid k hp new)
def Inv.write(I:Inv X pins σ H s)(mu:Mut (H x))(he:e=x\/H e=some (.own x))(k:∀b u,b≠e->s.heap.get? b=some u->h'.get? b=some u)(heo:∃u,h'.get? e=some u)(new:ObjOk X.prog X.w (upd H x o) h' x o):Inv X pins σ (upd H x o) { s with heap:=h',toks:=t' }:=I.un (Un.write mu he k heo) (I.hok.write mu he k heo new)
def Inv.pins_of(I:Inv X pins σ H s)(h:∀p∈pins',s.heap.get? p.1=some p.2/\H p.1=none/\p.1≠X.env.locals/\p.1∉X.fs/\∀v,p.2.data≠.cell v):Inv X pins' σ H s :=
 ⟨I.ok,I.os,I.bare,I.base,I.loc,I.cell,I.free,I.freeC,fun p hp=>(AV.mp hp).elim (fun z=>I.pin p (Aq _ z)) (h p),I.hok,I.len⟩
def Qm{N:List Str}(hN:N.Nodup){j:Nat}(a:N[i]?=some x)(b:N[j]?=some x):i=j:=by
 obtain⟨h1,e1⟩:=Ak.mp a;obtain⟨h2,e2⟩:=Ak.mp b;exact(List.getElem_inj hN).mp (e1.trans e2.symm)
def sD(I:Inv X pins σ H s)(hN:X.N.Nodup)(hi:X.N[i]?=some x)(hx:Loc X.env.scope x)(r:RelV v u)(h:∀s',Inv X pins (σ.set i (some v)) H s'->(∃a,Heap.SameBut a s.heap s'.heap/\(a=X.env.locals\/X.env.cells.lookup x=some a))->Q () s')(hf:X.fn x=true\/X.env.scope.names.lookup x=some .local:=by first | exact .inl rfl | exact .inr rfl | assumption):wpAny M A (storeName X.env x u) Q E s:=by
 refine eQ (id I.loc) fun m hn hl=>?_;have hcls:(X.env.scope.kind==.class || (X.env.scope.kind==.module&&X.env.locals != X.env.globals))=false:=by rw[I.ok.kind];rfl
 have hiσ:i < σ.length :=I.len▸(Ak.mp hi).1;have cne:=I.cne
 have tracked:∀{a:Addr}{h':Heap},(∃o,s.heap.get? a=some o/\H a=none)->Heap.SameBut a s.heap h'->HOk X.prog X.w H h':=fun {a h'}ha hs b ob e=>by
  obtain⟨_,_,hfree⟩:=ha;refine(I.hok b ob e).stay (fun c w' hc q=>(hs.2 c ?_).trans q) (fun _ q=>q) fun _ _ q=>q;rintro rfl
  rcases hc with rfl | hc
  .rw [hfree] at e;cases e
  .rw [hfree] at hc;cases hc
 rcases hx with hk | hk
 .refine wpAny_storeName_local hk hn (fun h' hn' hs=>Ya (id hn) fun oL _ _ hoL _=>h _ ⟨I.ok,I.os,I.bare,⟨fun b o e n hb hx=>?_,fun b o e n hb hx=>?_,I.base.free,fun b o e hx=>?_,I.base.tups,I.base.frzs,I.base.tbls⟩,⟨_,hn',fun j y v' e1 e2 e3=>?_⟩,fun y c e=>?_,I.free,I.freeC,fun p hp=>?_,tracked ⟨oL,hoL,I.free⟩ hs,by simpa using I.len⟩ ⟨_,hs,.inl rfl⟩) hcls
  .exact (hs.2 b (Ad (AS (AG e) I.ok.above))).trans (I.base.keep b o e n hb hx)
  .obtain ⟨sl,e1⟩:=I.base.slot b o e n hb hx
   exact⟨sl,(hs.2 b (Ad (AS (AG e) I.ok.above))).trans e1⟩
  .obtain ⟨o',e1⟩:=I.base.there b o e hx
   exact⟨o',(hs.2 b (Ad (AS (AG e) I.ok.above))).trans e1⟩
  .by_cases hj:j=i
   .subst hj
    rw[hi] at e1;cases e1
    rw[List.getElem?_set_self hiσ] at e2;cases e2;exact⟨u,r,.inl ⟨hk,by simp⟩⟩
   .rw [List.getElem?_set_ne (Ne.symm hj)] at e2
    refine eQ (hl j y v' e1 e2 e3) fun u' r' q=>⟨u',r',?_⟩
    rcases q with ⟨k,e⟩ | ⟨k,c,e,z⟩
    .refine .inl ⟨k,?_⟩
     have:y≠x:=fun e=>hj (Qm hN e1 (e▸hi))
     simp[this,e]
    .exact .inr ⟨k,c,e,z.sameBut hs (cne y c e)⟩
  .obtain ⟨w',z⟩:=I.cell y c e
   exact⟨w',z.sameBut hs (cne y c e)⟩
  .exact tN (I.pin p hp) fun e n ne nf d=>⟨(hs.2 p.1 ne).trans e,n,ne,nf,d⟩
 .have hfn:X.fn x=true:=by
   rcases hf with z | z
   .exact z
   .rw [z] at hk;cases hk
  obtain⟨c,hc⟩:=I.ok.has x (.inl hk);obtain⟨w',z⟩:=I.cell x c hc;refine wpAny_storeName_cell I.ok.kind hk hc z (fun h' hc' hs=>eQ (id z) fun oc hoc hocd=>h { s with heap:=h' } ⟨I.ok,I.os,I.bare,⟨fun b o e n hb hx=>?_,fun b o e n hb hx=>?_,I.base.free,fun b o e hx=>?_,I.base.tups,I.base.frzs,I.base.tbls⟩,⟨m,hn.sameBut hs (Ne.symm (cne x c hc)),fun j y v' e1 e2 e3=>?_⟩,fun y c' e=>?_,I.free,I.freeC,fun p hp=>?_,tracked ⟨oc,hoc,I.freeC x c hc⟩ hs,by simpa using I.len⟩ ⟨c,hs,.inr hc⟩)
  .exact (hs.2 b (Ad (AS (AG e) (I.ok.cab x c hfn hc)))).trans (I.base.keep b o e n hb hx)
  .obtain ⟨sl,e1⟩:=I.base.slot b o e n hb hx
   exact⟨sl,(hs.2 b (Ad (AS (AG e) (I.ok.cab x c hfn hc)))).trans e1⟩
  .obtain ⟨o',e1⟩:=I.base.there b o e hx
   exact⟨o',(hs.2 b (Ad (AS (AG e) (I.ok.cab x c hfn hc)))).trans e1⟩
  .by_cases hj:j=i
   .subst hj
    rw[hi] at e1;cases e1
    rw[List.getElem?_set_self hiσ] at e2;cases e2;exact⟨u,r,.inr ⟨.inl hk,c,hc,hc'⟩⟩
   .rw [List.getElem?_set_ne (Ne.symm hj)] at e2
    refine eQ (hl j y v' e1 e2 e3) fun u' r' q=>⟨u',r',?_⟩
    rcases q with q | ⟨k,c',e,z'⟩
    .exact .inl q
    .refine .inr ⟨k,c',e,z'.sameBut hs ?_⟩
     rintro rfl;exact hj (Qm hN e1 (I.ok.inj _ _ _ e hc▸hi))
  .by_cases hcc:c'=c
   .subst hcc;exact⟨_,hc'⟩
   .obtain ⟨w2,z2⟩:=I.cell y c' e
    exact⟨w2,z2.sameBut hs hcc⟩
  .refine tN (I.pin p hp) fun e n ne nf d=>⟨(hs.2 p.1 ?_).trans e,n,ne,nf,d⟩
   intro q;rw[q,hoc] at e;exact d w' (by lia)
def fI(I:Inv X pins σ H s)(hN:X.N.Nodup)(hi:X.N[i]?=some x)(hx:Loc X.env.scope x)(r:RelV v u)(h:∀s',Inv X pins (σ.set i (some v)) H s'->Q () s')(hf:X.fn x=true\/X.env.scope.names.lookup x=some .local:=by first | exact .inl rfl | exact .inr rfl | assumption):wpAny M A (storeName X.env x u) Q E s :=
 sD I hN hi hx r (fun s' I' _=>h s' I') hf
end
abbrev XK:=Value->Option Addr->Hp->Prop
abbrev St:=List (Option V)
abbrev VK:=V->Hp->Prop
abbrev TE:=St->Hp->VK->Prop
abbrev TT:=St->Hp->(Bool->Hp->Prop)->Prop
abbrev TA:=St->Hp->(List V->Hp->Prop)->Prop
structure YN where
 nx:St->Hp->Prop
 rt:VK
 bk:St->Hp->Prop:=fun _ _=>False
 ct:St->Hp->Prop:=fun _ _=>False
abbrev TS:=YN->St->Hp->Prop
def EP(X:Cx)(pins:List (Addr×Obj))(σ:St)(Q:VK)(u:Value)(s':Shared):Prop:=∃v H',Inv X pins σ H' s'/\RelV v u/\Q v H'
def TP(X:Cx)(pins:List (Addr×Obj))(σ:St)(Q:Bool->Hp->Prop)(b:Bool)(s':Shared):Prop:=∃H',Inv X pins σ H' s'/\Q b H'
def AP(X:Cx)(pins:List (Addr×Obj))(σ:St)(Q:List V->Hp->Prop)(us:List Value)(s':Shared):Prop:=∃vs H',Inv X pins σ H' s'/\Vals vs us/\Q vs H'
def SP(X:Cx)(pins:List (Addr×Obj))(D:YN)(f:Flow)(s':Shared):Prop :=
 match f with
 |.next=>∃σ' H',Inv X pins σ' H' s'/\D.nx σ' H'
 |.brk=>∃σ' H',Inv X pins σ' H' s'/\D.bk σ' H'
 |.cont=>∃σ' H',Inv X pins σ' H' s'/\D.ct σ' H'
 |.ret u=>∃v σ' H',Inv X pins σ' H' s'/\RelV v u/\D.rt v H'
def PE(X:Cx)(e:Expr)(t:TE):Prop :=
 ∀(pins:List (Addr×Obj))(s:Shared)(σ:St)(H:Hp)(Q:VK),Inv X pins σ H s->t σ H Q->wpAny (model X.prog X.w) X.A (eval e X.env) (EP X pins σ Q) X.xe s
def PT(X:Cx)(e:Expr)(t:TT):Prop :=
 ∀(pins:List (Addr×Obj))(s:Shared)(σ:St)(H:Hp)(Q:Bool->Hp->Prop),Inv X pins σ H s->t σ H Q->wpAny (model X.prog X.w) X.A (isTrue e X.env (eval e X.env)) (TP X pins σ Q) X.xe s
def PW(X:Cx)(e:Expr)(t:TT):Prop :=
 ∀(whole:Sem Value)(pins:List (Addr×Obj))(s:Shared)(σ:St)(H:Hp)(Q:Bool->Hp->Prop),Inv X pins σ H s->t σ H Q->wpAny (model X.prog X.w) X.A (isTrue e X.env whole) (TP X pins σ Q) X.xe s
def PW.pt(h:PW X e t):PT X e t:=h _
def PA(X:Cx)(es:List Expr)(t:TA):Prop :=
 ∀(pos:Pos)(pins:List (Addr×Obj))(s:Shared)(σ:St)(H:Hp)(Q:List V->Hp->Prop),Inv X pins σ H s->t σ H Q->wpAny (model X.prog X.w) X.A (spliced (backTo pos (starEach es X.env))) (AP X pins σ Q) X.xe s
def PS(X:Cx)(st:Stmt)(t:TS):Prop :=
 ∀(pins:List (Addr×Obj))(s:Shared)(σ:St)(H:Hp)(D:YN),Inv X pins σ H s->t D σ H->wpAny (model X.prog X.w) X.A (exec st X.env) (SP X pins D) X.xe s
def PSs(X:Cx)(st:List Stmt)(t:TS):Prop :=
 ∀(pins:List (Addr×Obj))(s:Shared)(σ:St)(H:Hp)(D:YN),Inv X pins σ H s->t D σ H->wpAny (model X.prog X.w) X.A (execs st X.env) (SP X pins D) X.xe s
theorem thn(h:wpAny M A t Q E s)(hQ:∀a s,Q a s->Q' a s):wpAny M A t Q' E s:=BP h hQ fun _ _ x=>x
section
variable {X:Cx}
def bin(ha:PE X a ta)(hb:PE X b tb){σ:St}{R:V->V->Hp->Prop}(I:Inv X pins σ H s)(h:ta σ H fun x H1=>tb σ H1 fun y H2=>R x y H2){f:Value->Value->Sem α}(hf:∀v u s2 x y H2,Inv X pins σ H2 s2->RelV x v->RelV y u->R x y H2->wpAny (model X.prog X.w) X.A (f v u) Q X.xe s2):
  wpAny (model X.prog X.w) X.A (eval a X.env) (fun v s₁=>wpAny (model X.prog X.w) X.A (eval b X.env) (fun u s₂=>wpAny (model X.prog X.w) X.A (f v u) Q X.xe s₂) X.xe s₁) X.xe s :=thn (ha pins s σ H _ I h) fun v s1 zz=>kZ zz fun x H1 I1 r1 q1=> thn (hb pins s1 σ H1 _ I1 q1) fun u s2 zz=>kZ zz fun y H2 I2 r2 q2=> hf v u s2 x y H2 I2 r1 r2 q2
inductive IVar(i:Nat)(σ:St)(H:Hp)(Q:VK):Prop
 |mk(v:V)(h:σ[i]?=some (some v))(q:Q v H):IVar i σ H Q
def tVar(i:Nat):TE:=fun σ H Q=>IVar i σ H Q
def tC(v:V):TE:=fun _ H Q=>Q v H
def VX{pos}(hN:X.N[i]?=some x)(hv:Vis X.env.scope x)(hd:(x==("__debug__" : Str))=false:=by decide)(hcd:(x==("__classdict__" : Str))=false:=by decide):PE X (.Name x pos) (tVar i):=by
 intro pins s σ H Q I h;obtain⟨v,e,h⟩:=h;refine eQ I.loc fun m hn hl=>eQ (hl i x v hN e hv) fun u r l=>?_;have fin:EP X pins σ Q u s:=⟨v,H,I,r,h⟩
 rcases l with ⟨hk,hm⟩ | ⟨hk,c,hc,hcell⟩
 .exact wpAny_Name (wpAny_loadName_local I.ok.kind hk hn hm fin) hd
 .rcases hk with hk | hk
  .exact wpAny_Name (wpAny_loadName_cell I.ok.kind hk hc hcell fin) hd
  .exact wpAny_Name (wpAny_loadName_free I.ok.kind hk hc hcell fin hcd) hd
def pe_int{i j pos}:PE X (.Constant (.int i) j pos) (tC (.int i)):=fun _ _ _ H _ I h=>wpAny_Constant_int ⟨.int i,H,I.tok _,⟨_,rfl⟩,h⟩
def pe_bl{b j pos}:PE X (.Constant (.bool b) j pos) (tC (.bl b)):=fun _ _ _ H _ I h=>Constant_bool ⟨.bl b,H,I,rfl,h⟩
def pe_non{j pos}:PE X (.Constant .none j pos) (tC .non):=fun _ _ _ H _ I h=>Constant_none ⟨.non,H,I,rfl,h⟩
def pe_str{x j pos}:PE X (.Constant (.str x) j pos) (tC (.str x)):=fun _ _ _ H _ I h=>Calls.Constant_str ⟨.str x,H,I.tok _,⟨_,rfl⟩,h⟩
def Gl(X:Cx)(x:Str):Prop:=X.env.kindOf x=some .globalImplicit
def kE{σ:St}(I:Inv X pins σ H s)(hg:Gl X x)(hm:X.mg x=some u)(h:Q u s)(hd:(x==("__debug__" : Str))=false:=by decide):wpAny (model X.prog X.w) X.A (eval (.Name x pos) X.env) Q E s :=
 Calls.Name_function_global I.ok.kind hg (Calls.loadGlobal_global (I.ok.glob▸I.mod.glob.keeps I.bk) hm h) hd
def vE{E}{σ:St}{pos}(I:Inv X pins σ H s)(hg:Gl X x)(hm:X.mg x=none)(hv:bootBuiltins x=some u)(h:Q u s)(hn:x ≠ "__name__":=by decide)(hd:(x==("__debug__" : Str))=false:=by decide):wpAny (model X.prog X.w) X.A (eval (.Name x pos) X.env) Q E s :=eQ I.mod.blt fun mb h1 h2=>Calls.Name_function_global I.ok.kind hg (Calls.loadGlobal_builtin (I.ok.glob▸I.mod.glob.keeps I.bk) hm (I.ok.blt▸h1.keeps I.bk) ((h2 x hn).trans hv) h) hd
def pe_glob(hg:Gl X x)(hm:X.mg x=some u)(r:RelV v u)(hd:(x==("__debug__" : Str))=false:=by decide):PE X (.Name x pos) (tC v) :=
 fun _ _ _ H _ I h=>kE I hg hm ⟨v,H,I,r,h⟩ hd
def pe_bltn{pos}(hg:Gl X x)(hm:X.mg x=none)(hv:bootBuiltins x=some u)(r:RelV v u)(hn:x ≠ "__name__":=by decide)(hd:(x==("__debug__" : Str))=false:=by decide):PE X (.Name x pos) (tC v) :=
 fun _ _ _ H _ I h=>vE I hg hm hv ⟨v,H,I,r,h⟩ hn hd
def t2I(ta tb:TE)(k:Int->Int->Hp->Prop):St->Hp->Prop:=fun σ H=>ta σ H fun x H1=>tb σ H1 fun y H2=>∃i j,x=.int i/\y=.int j/\k i j H2
variable {a b:Expr}{ta tb:TE}{pos:Pos}
def PC(X:Cx)(op:CmpOp)(a b:Expr)(t:TE):Prop :=
 ∀(pins:List (Addr×Obj))(s:Shared)(σ:St)(H:Hp)(Q:VK),Inv X pins σ H s->t σ H Q ->
  wpAny (model X.prog X.w) X.A (eval a X.env) (fun v s₁=>wpAny (model X.prog X.w) X.A (eval b X.env) (fun u s₂=>wpAny (model X.prog X.w) X.A (compareOp op v u) (EP X pins σ Q) X.xe s₂) X.xe s₁) X.xe s
def tCmp(p:Int->Int->Bool)(ta tb:TE):TE:=fun σ H Q=>t2I ta tb (fun i j H2=>Q (.bl (p i j)) H2) σ H
abbrev tLe:TE->TE->TE:=tCmp fun i j=>decide (i<=j)
def pc_int(ha:PE X a ta)(hb:PE X b tb)(rule:∀(i j:Int)(t u:Tok)(Q:Value->Shared->Prop)(s:Shared),Q (.bool (p i j)) s->wpAny (model X.prog X.w) X.A (compareOp op (.int i t) (.int j u)) Q X.xe s):PC X op a b (tCmp p ta tb):=by
 intro pins s σ H Q I h;refine bin ha hb I h fun v u s2 x y H2 I2 rx ry q=>?_;obtain⟨i,j,rfl,rfl,q⟩:=q;obtain⟨t,rfl⟩:=rx;obtain⟨t',rfl⟩:=ry;exact rule i j t t' _ s2 ⟨.bl _,H2,I2,rfl,q⟩
def Qd(ha:PE X a ta)(hb:PE X b tb):PC X .LtE a b (tLe ta tb):=pc_int ha hb fun _ _ _ _ _ _ h=>le_int h
inductive IBl(Q:Bool->Hp->Prop)(x:V)(H:Hp):Prop
 |mk(c:Bool)(h:x=.bl c)(q:Q c H):IBl Q x H
def tB(t:TE):TT:=fun σ H Q=>t σ H (IBl Q)
def pt_val(h:PE X e t)(he:∀whole,isTrue e X.env whole=(do let v <- whole;standAt e.pos;holding [v] (truthy v)):=by intro _;rfl):PT X e (tB t):=by
 intro pins s σ H Q I hw;refine isTrue_plain (thn (h pins s σ H _ I hw) fun v s1 zz=>kZ zz fun x H1 I1 r1 q1=> ?_) (he _);obtain⟨d,rfl,q⟩:=q1;cases r1;exact BD ⟨H1,I1,q⟩
variable {tA tB':TT}{rest:List Expr}
def tAnd(t u:TT):TT:=fun σ H Q=>t σ H fun c H1=>if c=true then u σ H1 Q else Q false H1
def tOr(t u:TT):TT:=fun σ H Q=>t σ H fun c H1=>if c=true then Q true H1 else u σ H1 Q
def tNot(t:TT):TT:=fun σ H Q=>t σ H fun c H1=>Q (!c) H1
def pw_and1(ha:PT X a tA):PW X (.BoolOp .And [a] pos) tA:=by
 intro wh pins s σ H Q I h;refine isTrue_and (thn (ha pins s σ H Q I h) fun c s1 e=>?_)
 cases c with
 |true=>exact isTrue_and_nil e
 |false=>exact e
def pw_or1(ha:PT X a tA):PW X (.BoolOp .Or [a] pos) tA:=by
 intro wh pins s σ H Q I h;refine isTrue_or (thn (ha pins s σ H Q I h) fun c s1 e=>?_)
 cases c with
 |false=>exact isTrue_or_nil e
 |true=>exact e
def pw_and(ha:PT X a tA)(hb:PW X (.BoolOp .And (b::rest) pos) tB'):PW X (.BoolOp .And (a::b::rest) pos) (tAnd tA tB'):=by
 intro wh pins s σ H Q I h;refine isTrue_and (thn (ha pins s σ H _ I h) fun c s1 zz=>eQ zz fun H1 I1 q1=> ?_)
 cases c with
 |true=>exact hb wh pins s1 σ H1 Q I1 q1
 |false=>exact⟨H1,I1,q1⟩
def pw_or(ha:PT X a tA)(hb:PW X (.BoolOp .Or (b::rest) pos) tB'):PW X (.BoolOp .Or (a::b::rest) pos) (tOr tA tB'):=by
 intro wh pins s σ H Q I h;refine isTrue_or (thn (ha pins s σ H _ I h) fun c s1 zz=>eQ zz fun H1 I1 q1=> ?_)
 cases c with
 |true=>exact⟨H1,I1,q1⟩
 |false=>exact hb wh pins s1 σ H1 Q I1 q1
def pt_not(ha:PT X a tA):PT X (.UnaryOp .Not a pos) (tNot tA):=by
 intro pins s σ H Q I h;exact isTrue_not (ha pins s σ H (fun c H1=>Q (!c) H1) I h)
def tAndV(ta tb:TE):TE:=fun σ H Q=>ta σ H fun x H1=>∃c,x=.bl c/\if c=true then tb σ H1 Q else Q (.bl false) H1
def tOrV(ta tb:TE):TE:=fun σ H Q=>ta σ H fun x H1=>∃c,x=.bl c/\if c=true then Q (.bl true) H1 else tb σ H1 Q
def pe_one{op}(h:PE X a t):PE X (.BoolOp op [a] pos) t:=fun pins s σ H Q I hw=>BoolOp_one (h pins s σ H Q I hw)
def pe_and(ha:PE X a ta)(hb:PE X (.BoolOp .And (b::rest) pos) tb):PE X (.BoolOp .And (a::b::rest) pos) (tAndV ta tb):=by
 intro pins s σ H Q I h;refine BoolOp_and (thn (ha pins s σ H _ I h) fun v s1 zz=>kZ zz fun x H1 I1 r1 q1=> ?_);obtain⟨c,rfl,q1⟩:=q1;cases r1
 apply BD
 cases c with
 |true=>exact hb pins s1 σ H1 Q I1 q1
 |false=>exact⟨.bl false,H1,I1,rfl,q1⟩
def pe_or(ha:PE X a ta)(hb:PE X (.BoolOp .Or (b::rest) pos) tb):PE X (.BoolOp .Or (a::b::rest) pos) (tOrV ta tb):=by
 intro pins s σ H Q I h;refine BoolOp_or (thn (ha pins s σ H _ I h) fun v s1 zz=>kZ zz fun x H1 I1 r1 q1=> ?_);obtain⟨c,rfl,q1⟩:=q1;cases r1
 apply BD
 cases c with
 |false=>exact hb pins s1 σ H1 Q I1 q1
 |true=>exact⟨.bl true,H1,I1,rfl,q1⟩
def tIf(t:TT)(ta tb:TE):TE:=fun σ H Q=>t σ H fun c H1=>if c=true then ta σ H1 Q else tb σ H1 Q
def VY(hc:PT X c tA)(ha:PE X a ta)(hb:PE X b tb):PE X (.IfExp c a b pos) (tIf tA ta tb):=by
 intro pins s σ H Q I h;refine wpAny_IfExp (thn (hc pins s σ H _ I h) fun d s1 zz=>eQ zz fun H1 I1 q1=> ?_)
 cases d with
 |true=>exact ha pins s1 σ H1 Q I1 q1
 |false=>exact hb pins s1 σ H1 Q I1 q1
end
def SqL(K:Dl)(H:Hp)(a:Addr)(xs:List V):Prop :=
 Rd H a (.lst xs) \/
  ∃(o:Obj)(its:Array Value)(n:Nat),K.lookup a=some o/\o.cls=.type "list"/\o.dict=none/\o.data=.seq its n/\its.size<=sizeLine/\Vals xs its.toList
def SqT(K:Dl)(H:Hp)(a:Addr)(xs:List V):Prop :=
 Rd H a (.tup xs) \/
  ∃(o:Obj)(its:Array Value)(n:Nat),K.lookup a=some o/\o.cls=.type "tuple"/\o.data=.seq its n/\its.size<=sizeLine/\Vals xs its.toList
def absV:Value->Option V
 |.none=>some .non
 |.bool b=>some (.bl b)
 |.int i _=>some (.int i)
 |.str x _=>some (.str x)
 |.bytes b _=>some (.byt b)
 |.float b _=>some (.flt b)
 |.ref a=>some (.ref a)
 |.type n=>some (.ty n)
 |_=>none
def RelV.abs(r:RelV x u):absV u=some x:=by
 cases x with
 |non=>cases r;rfl
 |bl _=>cases r;rfl
 |int _=>obtain⟨t,rfl⟩:=r;rfl
 |str _=>obtain⟨t,rfl⟩:=r;rfl
 |byt _=>obtain⟨t,rfl⟩:=r;rfl
 |flt _=>obtain⟨t,rfl⟩:=r;rfl
 |ref _=>cases r;rfl
 |ty _=>cases r;rfl
def RelV.inj(r:RelV x u)(q:RelV y u):x=y:=BC (r.abs.symm.trans q.abs)
theorem Vals.inj:∀{xs ys}{us},Vals xs us->Vals ys us->xs=ys
 |_,_,_,.nil,.nil=>rfl
 |_,_,_,.cons r t,.cons r' t'=>by rw[r.inj r',Vals.inj t t']
section
variable {X:Cx}{pins:List (Addr×Obj)}{σ:St}{H:Hp}{s:Shared}{a:Addr}{xs ys:List V}
def SqL.of{K}(h:H a=some (.lst xs)):SqL K H a xs:=.inl (.inl h)
def SqT.of{K}(h:H a=some (.tup xs)):SqT K H a xs:=.inl (.inl h)
def Inv.list(I:Inv X pins σ H s)(h:SqL X.K H a xs):∃its,Vals xs its/\PlainL s.heap a its.toArray/\xs.length<=sizeLine:=by
 rcases h with h | ⟨o,its,n,hk,hc,hd,hs,hz,r⟩
 .obtain ⟨z,its,n,r,e⟩:=h.ok I.hok
  exact⟨its,r,⟨_,n,e,rfl,rfl,rfl⟩,z⟩
 .refine ⟨its.toList,r,⟨o,n,I.kIn a o hk,hc,hd,by simpa using hs⟩,?_⟩
  have e:=r.length
  simp only[Array.length_toList] at e
  lia
def Inv.tuple(I:Inv X pins σ H s)(h:SqT X.K H a xs):∃its,Vals xs its/\IsTup s.heap a its.toArray/\xs.length<=sizeLine:=by
 rcases h with h | ⟨o,its,n,hk,hc,hs,hz,r⟩
 .obtain ⟨z,its,r,p⟩:=h.ok I.hok
  exact⟨its,r,IsTupN.is p,z⟩
 .refine ⟨its.toList,r,⟨o,I.kIn a o hk,hc,n,by simpa using hs⟩,?_⟩
  have e:=r.length
  simp only[Array.length_toList] at e
  lia
def Inv.list_inj(I:Inv X pins σ H s)(h:SqL X.K H a xs)(h':SqL X.K H a ys):xs=ys:=by
 obtain⟨its,r,⟨o,n,e,_,_,d⟩,_⟩:=I.list h;obtain⟨its',r',⟨o',n',e',_,_,d'⟩,_⟩:=I.list h';rw[e] at e';cases e'
 rw[d] at d';injection d' with d1 _
 have:its=its' :=by lia
 subst this;exact r.inj r'
def Inv.tuple_inj(I:Inv X pins σ H s)(h:SqT X.K H a xs)(h':SqT X.K H a ys):xs=ys:=by
 obtain⟨its,r,⟨o,e,_,n,d⟩,_⟩:=I.tuple h;obtain⟨its',r',⟨o',e',_,n',d'⟩,_⟩:=I.tuple h';rw[e] at e';cases e'
 rw[d] at d';injection d' with d1 _
 have:its=its' :=by lia
 subst this;exact r.inj r'
end
abbrev Cx.wish(X:Cx)(E:Value->Shared->Prop):Cx:={ X with xe:=E }
abbrev Cx.nox(X:Cx):Cx:=X.wish fun _ _=>False
def Cx.Ok.wish{X:Cx}(ok:X.Ok)E:(X.wish E).Ok :=
 ⟨ok.mod,ok.kind,ok.glob,ok.blt,ok.above,ok.inj,ok.has,ok.cab,ok.hd,ok.frames,ok.stk,ok.exf,ok.bs,ok.bsz,ok.noex,ok.exfs,ok.funs,ok.frf⟩
def Cx.Ok.unwish{X:Cx}(ok:(X.wish E).Ok):X.Ok :=
 ⟨ok.mod,ok.kind,ok.glob,ok.blt,ok.above,ok.inj,ok.has,ok.cab,ok.hd,ok.frames,ok.stk,ok.exf,ok.bs,ok.bsz,ok.noex,ok.exfs,ok.funs,ok.frf⟩
section
variable {X:Cx}{pins:List (Addr×Obj)}{σ:St}{H:Hp}{s:Shared}{E:Value->Shared->Prop}
def Inv.wish(I:Inv X pins σ H s)E:Inv (X.wish E) pins σ H s:=⟨I.ok.wish E,I.os,I.bare,I.base,I.loc,I.cell,I.free,I.freeC,I.pin,I.hok,I.len⟩
def Inv.unwish(I:Inv (X.wish E) pins σ H s):Inv X pins σ H s:=⟨I.ok.unwish,I.os,I.bare,I.base,I.loc,I.cell,I.free,I.freeC,I.pin,I.hok,I.len⟩
def SP.unwish(h:SP (X.wish E) pins D f s'):SP X pins D f s':=by
 cases f with
 |next=>obtain⟨σ',H',I,q⟩:=h;exact⟨σ',H',I.unwish,q⟩
 |brk=>obtain⟨σ',H',I,q⟩:=h;exact⟨σ',H',I.unwish,q⟩
 |cont=>obtain⟨σ',H',I,q⟩:=h;exact⟨σ',H',I.unwish,q⟩
 |ret u=>exact fR h fun v σ' H' I r q=>⟨v,σ',H',I.unwish,r,q⟩
def PSs.nox{st}(h:PSs X.nox st t):PSs X st t:=fun pins s σ H D I hw=>
 BP (h pins s σ H D (I.wish _) hw) (fun _ _ q=>q.unwish) fun _ _ z=>False.elim z
end
section
variable {X:Cx}{st:Stmt}{rest:List Stmt}{t u:TS}{e:Expr}{te:TE}{pos:Pos}
def tNext:TS:=fun D σ H=>D.nx σ H
def tSeq(t u:TS):TS:=fun D σ H=>t { D with nx:=u D } σ H
def pss_nil:PSs X [] tNext:=fun _ _ σ H _ I h=>DW ⟨σ,H,I,h⟩
def VN(h1:PS X st t)(h2:PSs X rest u):PSs X (st::rest) (tSeq t u):=by
 intro pins s σ H D I h;refine wpAny_execs_cons (thn (h1 pins s σ H { D with nx:=u D } I h) fun f s1 q=>?_)
 cases f with
 |next =>
  exact wY q fun σ' H' I' q=>h2 pins s1 σ' H' D I' q
 |ret v=>exact q
 |brk=>exact q
 |cont=>exact q
def pss_one(h1:PS X st t):PSs X [st] t:=by
 intro pins s σ H D I h;refine wpAny_execs_cons (thn (h1 pins s σ H D I h) fun f s1 q=>?_)
 cases f with
 |next=>exact DW q
 |ret v=>exact q
 |brk=>exact q
 |cont=>exact q
def Inv.quiet{σ:St}(I:Inv X pins σ H s):interactive X.env=false :=by simp[interactive,I.ok.kind]
def tDrop(te:TE):TS:=fun D σ H=>te σ H fun _ H1=>D.nx σ H1
def ps_expr(he:PE X e te)(hs:swapsWith e none pos.line X.env=pure false:=by rfl):PS X (.Expr e pos) (tDrop te):=by
 intro pins s σ H D I h;exact wpAny_Expr_any (thn (he pins s σ H _ I h) fun v s1 zz=>kZ zz fun x H1 I1 r1 q1=> ⟨σ,H1,I1,q1⟩) I.quiet hs
def tRet(te:TE):TS:=fun D σ H=>te σ H D.rt
def ps_ret(he:PE X e te):PS X (.Return (some e) pos) (tRet te):=by
 intro pins s σ H D I h;exact wpAny_Return_some (thn (he pins s σ H _ I h) fun v s1 zz=>kZ zz fun x H1 I1 r1 q1=> ⟨x,σ,H1,I1,r1,q1⟩)
def tIfS(c:TT)(t u:TS):TS:=fun D σ H=>c σ H fun b H1=>if b=true then t D σ H1 else u D σ H1
def ps_if(hc:PT X c tc)(ha:PSs X a t)(hb:PSs X b u):PS X (.If c a b pos) (tIfS tc t u):=by
 intro pins s σ H D I h;refine wpAny_If (thn (hc pins s σ H _ I h) fun d s1 zz=>eQ zz fun H1 I1 q1=> ?_)
 cases d with
 |true=>exact ha pins s1 σ H1 D I1 q1
 |false=>exact hb pins s1 σ H1 D I1 q1
end
abbrev TG:=V->St->Hp->(St->Hp->Prop)->Prop
abbrev TGs:=List V->St->Hp->(St->Hp->Prop)->Prop
def PG(X:Cx)(target:Expr)(t:TG):Prop :=
 ∀(pins:List (Addr×Obj))(s:Shared)(σ:St)(H:Hp)(v:V)(u:Value)(Q:St->Hp->Prop),Inv X pins σ H s->RelV v u->t v σ H Q ->
  wpAny (model X.prog X.w) X.A (assign target X.env u) (fun _ s'=>∃σ' H',Inv X pins σ' H' s'/\Q σ' H') X.xe s
def PGs(X:Cx)(ts:List Expr)(t:TGs):Prop :=
 ∀(pins:List (Addr×Obj))(s:Shared)(σ:St)(H:Hp)(vs:List V)(us:List Value)(Q:St->Hp->Prop),Inv X pins σ H s->Vals vs us->t vs σ H Q ->
  wpAny (model X.prog X.w) X.A (assignInOrder ((assignEach ts X.env).map (·.2)) us) (fun _ s'=>∃σ' H',Inv X pins σ' H' s'/\Q σ' H') X.xe s
abbrev TSet:=V->V->V->Hp->(Hp->Prop)->Prop
def PSet(X:Cx)(t:TSet):Prop :=
 ∀(pins:List (Addr×Obj))(s:Shared)(σ:St)(H:Hp)(o i v:V)(ov iv u:Value)(Q:Hp->Prop),Inv X pins σ H s->RelV o ov->RelV i iv->RelV v u->t o i v H Q ->
  wpAny (model X.prog X.w) X.A (setItem ov iv u) (fun _ s'=>∃H',Inv X pins σ H' s'/\Q H') X.xe s
section
variable {X:Cx}{pos:Pos}
def yU(i:Nat):TG:=fun v σ H Q=>Q (σ.set i (some v)) H
def gY(hN:X.N.Nodup)(hi:X.N[i]?=some x)(hx:Loc X.env.scope x)(hf:X.fn x=true\/X.env.scope.names.lookup x=some .local:=by first | exact .inl rfl | exact .inr rfl | assumption):PG X (.Name x pos) (yU i):=by
 intro pins s σ H v u Q I r h;exact wpAny_assign_Name (fI I hN hi hx r (fun s' I'=>⟨_,H,I',h⟩) hf)
def gNil:TGs:=fun vs σ H Q=>vs=[]/\Q σ H
def jT(t:TG)(u:TGs):TGs:=fun vs σ H Q=>∃v r,vs=v::r/\t v σ H fun σ' H'=>u r σ' H' Q
def mO:PGs X [] gNil:=by
 intro pins s σ H vs us Q I r h;obtain⟨rfl,h⟩:=h;cases r;exact assignInOrder_nil ⟨σ,H,I,h⟩
def jG(h1:PG X e t)(h2:PGs X es u)(hs:(assignEach (e::es) X.env).map (·.2)=assign e X.env::(assignEach es X.env).map (·.2):=by rfl):PGs X (e::es) (jT t u):=by
 intro pins s σ H vs us Q I r h;obtain⟨v,vr,rfl,h⟩:=h
 cases r with
 |cons r rr =>
  exact hs▸assignInOrder_cons (thn (h1 pins s σ H _ _ _ I r h) fun _ s1 zz=>wY zz fun σ1 H1 I1 q1=> h2 pins s1 σ1 H1 _ _ Q I1 rr q1)
def gTup(K:Dl)(n:Nat)(t:TGs):TG:=fun v σ H Q=>∃a xs,v=.ref a/\SqT K H a xs/\xs.length=n/\t xs σ H Q
def XH{k}(hc:X.calm=true)(h:PGs X es t)(hn:(assignEach es X.env).length=n:=by rfl)(hst:(assignEach es X.env).findIdx? (·.1)=none:=by rfl):PG X (.Tuple es k pos) (gTup X.K n t):=by
 intro pins s σ H v u Q I r hw;obtain⟨a,xs,rfl,hq,hl,hw⟩:=hw;cases r;refine aJ (I.tuple hq) fun its rv ht hz=>assign_Tuple_tuple (I.ok.hd hc) ht (by simp[hn,<- hl,rv.length]) hst fun h' hx=>?_;have I1:=I.kept (t':=s.toks) fun b o e=>hx b o (Ad (AG e)) e;exact h pins _ σ H xs _ Q I1 (by lia) hw
def gSub(to ti:TE)(t:TSet):TG:=fun v σ H Q=>to σ H fun o H1=>ti σ H1 fun i H2=>t o i v H2 fun H3=>Q σ H3
def pg_sub(ho:PE X o to)(hi:PE X i ti)(hs:PSet X t)(ha:∀v,assign (.Subscript o i pos) X.env v=(do
   let ov <- holding [v] (eval o X.env)
   let iv <- holding [v,ov] (eval i X.env)
   standAt pos
   holding [v,ov,iv] (setItem ov iv v)
   release [v,ov,iv] []):=by intro _;rfl):PG X (.Subscript o i pos) (gSub to ti t):=by
 intro pins s σ H v u Q I r h;exact AA (Aw (thn (ho pins s σ H _ I h) fun ov s1 zz=>kZ zz fun x H1 I1 r1 q1=> AA (Aw (thn (hi pins s1 σ H1 _ I1 q1) fun iv s2 zz=>kZ zz fun y H2 I2 r2 q2=> AA (wpAny_standAt (AA (Aw (thn (hs pins s2 σ H2 x y v ov iv u _ I2 r1 r2 r q2) fun _ s3 zz=>eQ zz fun H3 I3 q3=> wpAny_release ⟨σ,H3,I3,q3⟩))))))))
def tAsg(te:TE)(g:TG):TS:=fun D σ H=>te σ H fun x H1=>g x σ H1 D.nx
def ps_asg(he:PE X e te)(hg:PG X tg g)(hs:swapsWithSole [tg] e pos.line X.env=pure false:=by rfl)(hw:swappedStores [tg] e X.env=pure none:=by rfl)(h1:(assignEach [tg] X.env).map (·.2)=[assign tg X.env]:=by rfl):PS X (.Assign [tg] e pos) (tAsg te g):=by
 intro pins s σ H D I h;refine wpAny_Assign_stores (thn (he pins s σ H _ I h) fun v s1 zz=>kZ zz fun x H1 I1 r1 q1=> ?_) hs hw;rw[h1];exact thn (hg pins s1 σ H1 x v _ I1 r1 q1) fun _ s2 q=>q
def ps_set(hN:X.N.Nodup)(hi:X.N[i]?=some x)(hx:Loc X.env.scope x)(he:PE X e te)(hs:swapsWith e (some (.Name x pos')) pos.line X.env=pure false:=by rfl)(hf:X.fn x=true\/X.env.scope.names.lookup x=some .local:=by first | exact .inl rfl | exact .inr rfl | assumption):
  PS X (.Assign [.Name x pos'] e pos) (tAsg te (yU i)):=by
 intro pins s σ H D I h;exact wpAny_Assign_Name (thn (he pins s σ H _ I h) fun v s1 zz=>kZ zz fun y H1 I1 r1 q1=> fI I1 hN hi hx r1 (fun s2 I2=>⟨_,H1,I2,q1⟩) hf) hs
def tWhile(c:TT)(tb:TS):TS:=fun D σ H=>∃W:Nat->St->Hp->Prop,(∃m,W m σ H)/\∀m σ H,W m σ H ->
 c σ H fun b H1=>if b=true then ∃N:St->Hp->Prop,(∀σ' H',N σ' H'->∃m',m' < m/\W m' σ' H')/\tb { D with nx:=N,ct:=N,bk:=D.nx } σ H1 else D.nx σ H1
def VO(hp:PassesOwn (model X.prog X.w) X.A X.env X.xe)(hc:PT X c tc)(hb:PSs X body tb):PS X (.While c body [] pos) (tWhile tc tb):=by
 intro pins s σ H D I h;obtain⟨W,⟨m0,w0⟩,turn⟩:=h;refine wpAny_While (codeAny_whileLoop (fun n s'=>∃σ' H',Inv X pins σ' H' s'/\W n σ' H') ?_ m0 ⟨σ,H,I,w0⟩);rintro n s1 ⟨σ1,H1,I1,w1⟩;refine B5 hp (thn (hc pins s1 σ1 H1 _ I1 (turn n σ1 H1 w1)) fun b s2 zz=>eQ zz fun H2 I2 q2=> ?_)
 cases b with
 |true =>
  refine eQ q2 fun N hN q2=>B5 hp (thn (hb pins s2 σ1 H2 _ I2 q2) fun f s3 q3=>?_)
  cases f with
  |next =>
   obtain⟨σ3,H3,I3,n3⟩:=q3;obtain⟨m',hm,w3⟩:=hN σ3 H3 n3;exact⟨m',hm,σ3,H3,I3,w3⟩
  |cont =>
   obtain⟨σ3,H3,I3,n3⟩:=q3;obtain⟨m',hm,w3⟩:=hN σ3 H3 n3;exact⟨m',hm,σ3,H3,I3,w3⟩
  |brk=>exact q3
  |ret v=>exact q3
 |false =>
  exact(AX AN)▸DW ⟨σ1,H2,I2,q2⟩
end
structure It where
 go:Nat->Hp->Prop
 yld:Nat->Hp->V->Hp->Prop
 stop:Nat->Hp->Prop
def Xl(X:Cx)(pins:List (Addr×Obj))(H:Hp)(b:Addr):Prop :=
 H b=none/\b≠X.env.locals/\b∉X.fs/\(b∈X.ex\/X.s₀.heap.objs.size<=b)/\(∀x c,X.env.cells.lookup x=some c->c≠b)/\∀p∈X.pn++pins,p.1≠b
def Inv.fpOk{σ:St}{b:Addr}(I:Inv X pins σ H s)(hb:s.heap.objs.size<=b)(hn:H' b=none):Xl X pins H' b:=by
 refine⟨hn,Ax (AS I.lt hb),I.nofs hb,.inr (Aa I.sz hb),fun x c e z=>?_,fun p hp z=>?_⟩
 .obtain ⟨v,q⟩:=I.cell x c e
  exact absurd (AS q.lt (by rwa [z])) (BI _)
 .exact absurd (AS (AG (I.pin p hp).1) (by rwa [z])) (BI _)
structure ZA(P:Program)(w:World)(K:Dl)(tg:Expr)(J:It)(fp:List Addr)(it:Addr)(tn:Nat->Heap->Prop):Prop where
 mem:it∈fp
 obj:∀i h,tn i h->∀b∈fp,∃o,h.get? b=some o/\∀v,o.data≠.cell v
 keep:∀i h h',tn i h->(∀b∈fp,∀o,h.get? b=some o->h'.get? b=some o)->tn i h'
 item:∀(X:Cx),X.prog=P->X.w=w->X.K=K->X.calm=true->∀(i:Nat)(pins:List (Addr×Obj))(s:Shared)(σ:St)(H:Hp)(E:Value->Shared->Prop),Inv X pins σ H s->(∀b∈fp,Xl X pins H b)->tn i s.heap->J.go i H ->
  wpAny (model P w) X.A (pyNext (.ref it)) (fun r s1=>∃u,r=some u /\
   wpAny (model P w) X.A (letOwnedTupleGo tg (.ref it) u) (fun _ s2=>∃x H',Inv X pins σ H' s2/\RelV x u/\J.yld i H x H'/\tn (i+1) s2.heap/\∀b∈fp,H' b=none) E s1) E s
 done:∀(X:Cx),X.prog=P->X.w=w->X.K=K->X.calm=true->∀(i:Nat)(pins:List (Addr×Obj))(s:Shared)(σ:St)(H:Hp)(E:Value->Shared->Prop),Inv X pins σ H s->(∀b∈fp,Xl X pins H b)->tn i s.heap->J.stop i H ->
  wpAny (model P w) X.A (pyNext (.ref it)) (fun r s1=>r=none/\Inv X pins σ H s1) E s
 self:∀(A:Around)(i:Nat)(s:Shared)(Q:Value->Shared->Prop)(E:Value->Shared->Prop),tn i s.heap->Q (.ref it) s->wpAny (model P w) A (pyIter (.ref it)) Q E s
abbrev TI:=St->Hp->(It->Hp->Prop)->Prop
def PIE(X:Cx)(pins:List (Addr×Obj))(σ:St)(tg:Expr)(R:It->Hp->Prop)(itv:Value)(s2:Shared):Prop :=
 ∃(it:Addr)(fp:List Addr)(tn:Nat->Heap->Prop)(J:It)(H':Hp),itv=.ref it/\Inv X pins σ H' s2/\ZA X.prog X.w X.K tg J fp it tn/\tn 0 s2.heap/\(∀b∈fp,Xl X pins H' b)/\R J H'
def PI(X:Cx)(tg iter:Expr)(wi:TI):Prop :=
 ∀(pins:List (Addr×Obj))(s:Shared)(σ:St)(H:Hp)(R:It->Hp->Prop),Inv X pins σ H s->wi σ H R ->
  wpAny (model X.prog X.w) X.A (eval iter X.env) (fun v s1=>wpAny (model X.prog X.w) X.A (pyIter v) (PIE X pins σ tg R) X.xe s1) X.xe s
def QF(ho:s.heap.get? it=some o)(hc:o.cls=.type n)(hd:o.data=.fields vs)(hn:["enumerate","zip","dict_itemiterator","dict_reverseitemiterator","odict_iterator","itertools.zip_longest","itertools.pairwise"].contains n=false)(hQ:Q () s):wpAny M A (letOwnedTupleGo tg (.ref it) u) Q E s:=by
 cases tg<;>first
  |exact AC hQ
  | (cases u<;>first
    |exact AC hQ
    | (refine AA (wpAny_load ho ?_)
       rw[hc,hd];show wpAny M A (if (["enumerate","zip","dict_itemiterator","dict_reverseitemiterator","odict_iterator","itertools.zip_longest","itertools.pairwise"].contains n&&vs[0]?==some (rawInt _))=true then _ else _) Q E s;rw[AX (by lia)]
       exact AC hQ))
def Itl(K:Dl)(a:Addr):It :=
 ⟨fun i H=>∃xs x,SqL K H a xs/\xs[i]?=some x,fun i H x H'=>H'=H/\∀xs,SqL K H a xs->xs[i]?=some x,fun i H=>∃xs,SqL K H a xs/\xs.length<=i⟩
def Itt(K:Dl)(a:Addr):It :=
 ⟨fun i H=>∃xs x,SqT K H a xs/\xs[i]?=some x,fun i H x H'=>H'=H/\∀xs,SqT K H a xs->xs[i]?=some x,fun i H=>∃xs,SqT K H a xs/\xs.length<=i⟩
def Itr(lo:Int)(n:Nat):It:=⟨fun i _=>i < n,fun i H x H'=>H'=H/\x=.int (lo+i),fun i _=>n<=i⟩
def JN{K}a it:ZA P w K tg (Itl K a) [it] it (fun i h=>h.IsListIter it a i) where
 mem:=by simp
 obj:=fun i h st b hb=>by
  have e:b=it :=by grind
  subst e;exact aJ st fun o e c d=>⟨o,e,fun v z=>by rw[d] at z;cases z⟩
 keep:=fun i h h' st k=>st.at fun o e=>k it (by simp) o e
 item:=by
  intro X hP hw hK hc i pins s σ H E I hf st hg;subst hP hw hK;refine wY hg fun xs x hq hx=>aJ (I.list hq) fun its rv p hz=>eQ (rv.get hx) fun u hu ru=>QP (hf it (by simp)) fun f0 f1 f2 f3 f4 f5=>?_;refine wpAny_pyNext_list_item st p.isList (by simpa using hu) fun h' st' sb=>?_;have I1:=I.turned (t':=s.toks) (fun b o hb e=>(sb.2 b hb).trans e) f0 f1 f3 f4 f5;exact aJ (id st') fun o e c d=>⟨u,rfl,QF e c d rfl ⟨x,H,I1,ru,⟨rfl,fun ys hy=>by rwa [I.list_inj hy hq]⟩,st',fun b hb=>(hf b hb).1⟩⟩
 done:=by
  intro X hP hw hK hc i pins s σ H E I hf st hg;subst hP hw hK;refine eQ hg fun xs hq hx=>aJ (I.list hq) fun its rv p hz=>QP (hf it (by simp)) fun f0 f1 f2 f3 f4 f5=>?_;have hl:=rv.length;exact wpAny_pyNext_list_end (I.ok.hd hc) st p.isList (by simp;lia) fun h' eb=>⟨rfl,I.turned (t':=s.toks) (fun b o hb e=>eb b o hb e) f0 f1 f3 f4 f5⟩
 self:=fun _ _ _ _ _ st h=>wpAny_pyIter_listiter st h
def Xq{K}a it:ZA P w K tg (Itt K a) [it] it (fun i h=>h.IsTupleIter it a i) where
 mem:=by simp
 obj:=fun i h st b hb=>by
  have e:b=it :=by grind
  subst e;exact aJ st fun o e c d=>⟨o,e,fun v z=>by rw[d] at z;cases z⟩
 keep:=fun i h h' st k=>st.at fun o e=>k it (by simp) o e
 item:=by
  intro X hP hw hK hc i pins s σ H E I hf st hg;subst hP hw hK;refine wY hg fun xs x hq hx=>aJ (I.tuple hq) fun its rv p hz=>eQ (rv.get hx) fun u hu ru=>QP (hf it (by simp)) fun f0 f1 f2 f3 f4 f5=>?_;refine wpAny_pyNext_tuple_item st p (by simpa using hu) fun h' st' sb=>?_;have I1:=I.turned (t':=s.toks) (fun b o hb e=>(sb.2 b hb).trans e) f0 f1 f3 f4 f5;exact aJ (id st') fun o e c d=>⟨u,rfl,QF e c d rfl ⟨x,H,I1,ru,⟨rfl,fun ys hy=>by rwa [I.tuple_inj hy hq]⟩,st',fun b hb=>(hf b hb).1⟩⟩
 done:=by
  intro X hP hw hK hc i pins s σ H E I hf st hg;subst hP hw hK;refine eQ hg fun xs hq hx=>aJ (I.tuple hq) fun its rv p hz=>QP (hf it (by simp)) fun f0 f1 f2 f3 f4 f5=>?_;have hl:=rv.length;exact wpAny_pyNext_tuple_end (I.ok.hd hc) st p (by grind) fun h' eb=>⟨rfl,I.turned (t':=s.toks) (fun b o hb e=>eb b o hb e) f0 f1 f3 f4 f5⟩
 self:=fun _ _ _ _ _ st h=>wpAny_pyIter_tupleiter st h
def Xr{K}it lo n:ZA P w K tg (Itr lo n) [it] it (fun i h=>IsRangeIter h it (lo+i * 1) ( n - i ) 1) where
 mem:=by simp
 obj:=fun i h st b hb=>by
  have e:b=it :=by grind
  subst e
  exact⟨_,st,fun v z=>by
   cases z⟩
 keep:=fun i h h' st k=>k it (by simp) _ st
 item:=by
  intro X hP hw hK hc i pins s σ H E I hf st hg;subst hP hw hK;refine QP (hf it (by simp)) fun f0 f1 f2 f3 f4 f5=>?_;have W:=Walks.range (prog:=X.prog) (w:=X.w) (I.ok.hd hc) it lo 1 n;refine W.item i s _ _ hg st fun v h' tk hv st' kk=>?_;obtain⟨t,rfl⟩:=hv;have I1:Inv X pins σ H { s with heap:=h',toks:=tk }:=I.turned (fun b o hb e=>kk b o (by grind) e) f0 f1 f3 f4 f5;refine⟨_,rfl,QF st' rfl rfl rfl ⟨.int (lo+i),H,I1,⟨t,?_⟩,⟨rfl,rfl⟩,st',fun b hb=>(hf b hb).1⟩⟩
  rw[Int.mul_one]
 done:=by
  intro X hP hw hK hc i pins s σ H E I hf st hg;refine QP (hf it (by simp)) fun f0 f1 f2 f3 f4 f5=>?_;exact wpAny_pyNext_range_end (I.ok.hd hc) st (by have:n<=i:=hg;lia) fun h' eb=>⟨rfl,I.turned (t':=s.toks) (fun b o hb e=>eb b o hb e) f0 f1 f3 f4 f5⟩
 self:=fun _ _ _ _ _ st h=>wpAny_pyIter_rangeiter st h
section
variable {X:Cx}{tg:Expr}
def iList(K:Dl)(tl:TE):TI:=fun σ H R=>tl σ H fun x H1=>∃a,x=.ref a/\(∃xs,SqL K H1 a xs)/\R (Itl K a) H1
def iTup(K:Dl)(tl:TE):TI:=fun σ H R=>tl σ H fun x H1=>∃a,x=.ref a/\(∃xs,SqT K H1 a xs)/\R (Itt K a) H1
def Z0(hl:PE X l tl):PI X tg l (iList X.K tl):=by
 intro pins s σ H R I h;refine thn (hl pins s σ H _ I h) fun v s1 zz=>kZ zz fun x H1 I1 r1 q1=> ?_;obtain⟨a,e,⟨xs,hq⟩,q⟩:=q1;subst e;cases r1;refine aJ (I1.list hq) fun its rv p hz=>wpAny_pyIter_list p.isList ⟨s1.heap.objs.size,[s1.heap.objs.size],_,_,H1,rfl,I1.kept (t':=s1.toks) fun b o e=>AD _ e,JN a _,⟨_,AM _ rfl,rfl,rfl⟩,fun b hb=>?_,q⟩;have e:b=s1.heap.objs.size :=by grind
 subst e;exact I1.fpOk (AH _) (I1.hok.fresh (AH _))
def VW(hl:PE X l tl):PI X tg l (iTup X.K tl):=by
 intro pins s σ H R I h;refine thn (hl pins s σ H _ I h) fun v s1 zz=>kZ zz fun x H1 I1 r1 q1=> ?_;obtain⟨a,e,⟨xs,hq⟩,q⟩:=q1;subst e;cases r1;refine aJ (I1.tuple hq) fun its rv p hz=>DB p ⟨s1.heap.objs.size,[s1.heap.objs.size],_,_,H1,rfl,I1.kept (t':=s1.toks) fun b o e=>AD _ e,Xq a _,⟨_,AM _ rfl,rfl,rfl⟩,fun b hb=>?_,q⟩;have e:b=s1.heap.objs.size :=by grind
 subst e;exact I1.fpOk (AH _) (I1.hok.fresh (AH _))
def VD{σ:St}{lo}(I:Inv X pins σ H s)(h1 : -(2 ^ 62)<=lo)(h2:lo < 2 ^ 62)(h3 : -(2 ^ 62)<=hi)(h4:hi < 2 ^ 62)(q:R (Itr lo (hi - lo).toNat) H):wpAny (model X.prog X.w) X.A (pyIter (.ref s.heap.objs.size)) (PIE X pins σ tg R) E { s with heap:=s.heap.push { cls:=.type "range",data:=.fields #[.int lo t,.int hi u,.int 1 v] },toks:=tk }:=by
 apply wpAny_pyIter_range (IsRange.new ..) (small_one h1 h2 h3 h4)
 have I1:Inv X pins σ H { s with heap:=s.heap.push { cls:=.type "range",data:=.fields #[.int lo t,.int hi u,.int 1 v] },toks:=tk }:=I.kept fun b o e=>AD _ e
 refine⟨(s.heap.push { cls:=.type "range",data:=.fields #[.int lo t,.int hi u,.int 1 v] }).objs.size,[(s.heap.push { cls:=.type "range",data:=.fields #[.int lo t,.int hi u,.int 1 v] }).objs.size],_,_,H,rfl,
  I1.kept (t':=tk) fun b o e=>AD _ e,Xr _ lo (hi - lo).toNat,?_,fun b hb=>?_,q⟩
 .have e1:lo+((0:Nat):Int) * 1=lo:=by simp
  have e2:(((hi - lo).toNat:Nat):Int) - ((0:Nat):Int)=Builtin.Range.rangeSize lo hi 1:=by rw[rangeSize_one];split<;>lia
  rw[e1,e2];exact AM _ rfl
 .have e:b=(s.heap.push { cls:=.type "range",data:=.fields #[.int lo t,.int hi u,.int 1 v] }).objs.size :=by grind
  subst e;exact I1.fpOk (AH _) (I1.hok.fresh (AH _))
def iRng1(ta:TA):TI:=fun σ H R=>ta σ H fun vs H1=>∃j:Int,vs=[.int j]/\-(2 ^ 62)<=j/\j < 2 ^ 62/\R (Itr 0 j.toNat) H1
def kS(hg:Gl X "range")(hm:X.mg "range" = none)(ha:PA X [a] ta)(hs:starEach [a] X.env=[(false,eval a X.env)]:=by rfl):PI X tg (.Call (.Name "range" p) [a] [] pos) (iRng1 ta):=by
 intro pins s σ H R I h;refine Call_ (vE I hg hm boot_range (PyProof.Rows.callWith_type1 (thn (ha pos pins s σ H _ I h) fun us s1 zz=>kZ zz fun vs H1 I1 r1 q1=> ?_) hs rfl));obtain⟨j,rfl,q1,q2,q⟩:=q1
 cases r1 with
 |cons r rr =>
  cases rr;obtain⟨t,rfl⟩:=r;exact call_range_1 (VD I1 (by lia) (by lia) q1 q2 (by lia))
def tFor(wi:TI)(g:TG)(tb:TS):TS:=fun D σ H=>wi σ H fun J H1=>∃W:Nat->Nat->St->Hp->Prop,(∃m,W 0 m σ H1)/\∀i m σ H,W i m σ H ->
 (J.stop i H/\D.nx σ H)\/(J.go i H/\∃N:St->Hp->Prop,(∀σ' H',N σ' H'->∃m',m' < m/\W (i+1) m' σ' H')/\∀x H',J.yld i H x H'->g x σ H' fun σ2 H2=>tb { D with nx:=N,ct:=N,bk:=D.nx } σ2 H2)
def qN(fp:List Addr)(h:Heap):List (Addr×Obj):=fp.filterMap fun b=>(h.get? b).map fun o=>(b,o)
def fG(hb:b∈fp)(e:h.get? b=some o):(b,o)∈qN fp h:=List.mem_filterMap.mpr ⟨b,hb,by rw[e];rfl⟩
def Ki(hp:p∈qN fp h):p.1∈fp/\h.get? p.1=some p.2:=by
 obtain⟨b,hb,e⟩:=(List.mem_filterMap.mp hp)
 cases q:h.get? b with
 |none=>rw[q] at e;cases e
 |some o =>
  rw[q] at e;have e':=BC e;subst e';exact⟨hb,q⟩
def Inv.pinned{σ:St}(I:Inv X pins σ H s)(hf:∀b∈fp,Xl X pins H b)(ho:∀b∈fp,∃o,s.heap.get? b=some o/\∀v,o.data≠.cell v):Inv X (pins++qN fp s.heap) σ H s :=
 I.pins_of fun p hp=>(AV.mp hp).elim (fun z=>I.pin p (AR _ z)) fun z=>by
  obtain⟨hb,e⟩:=Ki z;refine QQ (hf p.1 hb) fun f0 f1 f2 _=>eQ (ho p.1 hb) fun o e' d=>?_;rw[e] at e';cases e'
  exact⟨e,f0,f1,f2,d⟩
def Inv.unpinned{σ:St}(I:Inv X (pins++pl) σ H s):Inv X pins σ H s:=I.pins_of fun p hp=>I.pin p (AR _ (Aq _ hp))
def XE(hp:PassesOwn (model X.prog X.w) X.A X.env X.xe)(hc:X.calm=true)(hi:PI X tg iter wi)(hg:PG X tg g)(hb:PSs X body tb)(hs:∀x,foldedSetIterable iter X.env x=pure x:=by intro _;rfl):PS X (.For tg iter body [] pos) (tFor wi g tb):=by
 intro pins s σ H D I h;refine wpAny_For (thn (hi pins s σ H _ I h) fun v s1 h1=>thn h1 fun itv s2 h2=>?_) hs;obtain⟨it,fp,tn,J,H2,e,I2,T,st2,f2,W,⟨m0,w0⟩,turn⟩:=h2;subst e;have stat:∀{H':Hp},(∀b∈fp,H' b=none)->∀b∈fp,Xl X pins H' b:=fun hn b hb=>⟨hn b hb,(f2 b hb).2⟩;refine codeAny_forLoop_any (fun n s'=>∃i σ' H',Inv X pins σ' H' s'/\tn i s'.heap/\(∀b∈fp,H' b=none)/\W i n σ' H') ?_ m0 ⟨0,σ,H2,I2,st2,fun b hb=>(f2 b hb).1,w0⟩
 rintro n s3 ⟨i,σ3,H3,I3,st3,fr3,w3⟩
 rcases turn i n σ3 H3 w3 with ⟨stop,qn⟩ | ⟨go,N,hN,step⟩
 .refine B5 hp (thn (T.done X rfl rfl rfl hc i pins s3 σ3 H3 X.xe I3 (stat fr3) st3 stop) fun r s4 zz=>sM zz fun hr I4=> ?_)
  subst hr;exact DW ⟨σ3,H3,I4,qn⟩
 .refine B5 hp (thn (T.item X rfl rfl rfl hc i pins s3 σ3 H3 X.xe I3 (stat fr3) st3 go) fun r s4 zz=>eQ zz fun u hr h4=> ?_)
  subst hr;refine B5 hp (thn h4 fun _ s5 zq=>el25 zq fun x H5 I5 r5 y5 st5 fr5=>B5 hp (thn (hg _ s5 σ3 H5 x u _ (I5.pinned (stat fr5) (T.obj _ _ st5)) r5 (step x H5 y5)) fun _ s6 zz=>wY zz fun σ6 H6 I6 q6=> B5 hp (thn (hb _ s6 σ6 H6 _ I6 q6) fun f s7 q7=>?_)))
  have again:∀{σ7:St}{H7:Hp},Inv X (pins++qN fp s5.heap) σ7 H7 s7->N σ7 H7->∃m,m < n/\∃i σ' H',Inv X pins σ' H' s7/\tn i s7.heap/\(∀b∈fp,H' b=none)/\W i m σ' H':=fun {σ7 H7}I7 n7=>by
   obtain⟨m',hm,w7⟩:=hN σ7 H7 n7;exact⟨m',hm,i+1,σ7,H7,I7.unpinned,T.keep _ _ _ st5 fun b hb o e=>(I7.pin (b,o) (AR _ (AR _ (fG hb e)))).1,fun b hb=>eQ (T.obj _ _ st5 b hb) fun o e d=>(I7.pin (b,o) (AR _ (AR _ (fG hb e)))).2.1,w7⟩
  cases f with
  |next=>exact wY q7 fun σ7 H7 I7 n7=>again I7 n7
  |cont=>exact wY q7 fun σ7 H7 I7 n7=>again I7 n7
  |brk=>exact wY q7 fun σ7 H7 I7 q7=>⟨σ7,H7,I7.unpinned,q7⟩
  |ret v=>exact fR q7 fun x7 σ7 H7 I7 r7 q7=>⟨x7,σ7,H7,I7.unpinned,r7,q7⟩
end
abbrev R2:=V->V->Hp->VK->Prop
def OpR(X:Cx)(f:Value->Value->Sem Value)(r:R2):Prop :=
 ∀(pins:List (Addr×Obj))(s:Shared)(σ:St)(H:Hp)(x y:V)(v u:Value)(Q:VK),Inv X pins σ H s->RelV x v->RelV y u->r x y H Q ->
  wpAny (model X.prog X.w) X.A (f v u) (EP X pins σ Q) X.xe s
def UnR(X:Cx)(f:Value->Sem Value)(r:V->Hp->VK->Prop):Prop :=
 ∀(pins:List (Addr×Obj))(s:Shared)(σ:St)(H:Hp)(x:V)(v:Value)(Q:VK),Inv X pins σ H s->RelV x v->r x H Q ->
  wpAny (model X.prog X.w) X.A (f v) (EP X pins σ Q) X.xe s
def CallR(X:Cx)(f:Value)(r:List V->Hp->VK->Prop):Prop :=
 ∀(pins:List (Addr×Obj))(s:Shared)(σ:St)(H:Hp)(xs:List V)(us:List Value)(Q:VK),Inv X pins σ H s->Vals xs us->r xs H Q ->
  wpAny (model X.prog X.w) X.A (call f us) (EP X pins σ Q) X.xe s
def TruR(X:Cx)(r:V->Hp->(Bool->Hp->Prop)->Prop):Prop :=
 ∀(pins:List (Addr×Obj))(s:Shared)(σ:St)(H:Hp)(x:V)(v:Value)(Q:Bool->Hp->Prop),Inv X pins σ H s->RelV x v->r x H Q ->
  wpAny (model X.prog X.w) X.A (truthy v) (TP X pins σ Q) X.xe s
def tOp(r:R2)(ta tb:TE):TE:=fun σ H Q=>ta σ H fun x H1=>tb σ H1 fun y H2=>r x y H2 Q
def tUn(r:V->Hp->VK->Prop)(ta:TE):TE:=fun σ H Q=>ta σ H fun x H1=>r x H1 Q
inductive II(C:Int->Int->Prop)(g:Int->Int->V)(x y:V)(H:Hp)(Q:VK):Prop
 |mk(i j:Int)(h:x=.int i)(h':y=.int j)(c:C i j)(q:Q (g i j) H):II C g x y H Q
def rI(C:Int->Int->Prop)(g:Int->Int->V):R2:=II C g
inductive II0(g:Int->Int->V)(x y:V)(H:Hp)(Q:VK):Prop
 |mk(i j:Int)(h:x=.int i)(h':y=.int j)(q:Q (g i j) H):II0 g x y H Q
def rI0(g:Int->Int->V):R2:=II0 g
def rU(g:Int->V):V->Hp->VK->Prop:=fun x H Q=>∃i,x=.int i/\Q (g i) H
section
variable {X:Cx}{a b c:Expr}{ta tb tc:TE}{pos:Pos}
def binT(ha:PE X a ta)(hb:PE X b tb){σ:St}{R:V->V->Hp->Prop}(I:Inv X pins σ H s)(h:ta σ H fun x H1=>tb σ H1 fun y H2=>R x y H2){f:Value->Value->Sem Value}(hf:∀v u s2 x y H2,Inv X pins σ H2 s2->RelV x v->RelV y u->R x y H2->wpAny (model X.prog X.w) X.A (f v u) Q X.xe s2):
  wpAny (model X.prog X.w) X.A (eval a X.env) (fun v s₁=>wpAny (model X.prog X.w) X.A (eval b X.env) (fun u s₂=>wpAny (model X.prog X.w) X.A (f v u) Q X.xe s₂) X.xe s₁) X.xe s :=thn (ha pins s σ H _ I h) fun v s1 ⟨x,H1,I1,r1,q1⟩=>thn (hb pins s1 σ H1 _ I1 q1) fun u s2 ⟨y,H2,I2,r2,q2⟩=>hf v u s2 x y H2 I2 r1 r2 q2
def pe_op(ho:OpR X (binaryOp op) r)(ha:PE X a ta)(hb:PE X b tb):PE X (.BinOp a op b pos) (tOp r ta tb):=by
 intro pins s σ H Q I h;exact wpAny_BinOp (binT ha hb I h fun v u s2 x y H2 I2 rx ry q=>ho pins s2 σ H2 x y v u Q I2 rx ry q)
def pe_un(ho:UnR X (unaryOp op) r)(ha:PE X a ta):PE X (.UnaryOp op a pos) (tUn r ta):=by
 intro pins s σ H Q I h;exact UnaryOp_ (thn (ha pins s σ H _ I h) fun v s1 zz=>kZ zz fun x H1 I1 r1 q1=> ho pins s1 σ H1 x v Q I1 r1 q1)
def opI{g:Int->Int->Int}(rule:∀(i j:Int)(t u:Tok)(s:Shared)(Q:Value->Shared->Prop)(E:Value->Shared->Prop),C i j->Q (.int (g i j) s.toks) { s with toks:=s.toks+1 }->wpAny (model X.prog X.w) X.A (f (.int i t) (.int j u)) Q E s):
  OpR X f (rI C fun i j=>.int (g i j)):=by
 intro pins s σ H x y v u Q I rx ry h;obtain⟨i,j,rfl,rfl,hc,q⟩:=h;obtain⟨t,rfl⟩:=rx;obtain⟨t',rfl⟩:=ry;exact rule i j t t' s _ _ hc ⟨.int (g i j),H,I.tok _,⟨_,rfl⟩,q⟩
def opI0{g:Int->Int->Int}(rule:∀(i j:Int)(t u:Tok)(s:Shared)(Q:Value->Shared->Prop)(E:Value->Shared->Prop),Q (.int (g i j) s.toks) { s with toks:=s.toks+1 }->wpAny (model X.prog X.w) X.A (f (.int i t) (.int j u)) Q E s):
  OpR X f (rI0 fun i j=>.int (g i j)):=by
 intro pins s σ H x y v u Q I rx ry h;obtain⟨i,j,rfl,rfl,q⟩:=h;obtain⟨t,rfl⟩:=rx;obtain⟨t',rfl⟩:=ry;exact rule i j t t' s _ _ ⟨.int (g i j),H,I.tok _,⟨_,rfl⟩,q⟩
def opB0{g:Int->Int->Bool}(rule:∀(i j:Int)(t u:Tok)(s:Shared)(Q:Value->Shared->Prop)(E:Value->Shared->Prop),Q (.bool (g i j)) s->wpAny (model X.prog X.w) X.A (f (.int i t) (.int j u)) Q E s):
  OpR X f (rI0 fun i j=>.bl (g i j)):=by
 intro pins s σ H x y v u Q I rx ry h;obtain⟨i,j,rfl,rfl,q⟩:=h;obtain⟨t,rfl⟩:=rx;obtain⟨t',rfl⟩:=ry;exact rule i j t t' s _ _ ⟨.bl (g i j),H,I,rfl,q⟩
def CPow(i j:Int):Prop:=0<=j/\j<=1000000/\i.natAbs < 2 ^ 64
def CMul(i j:Int):Prop:=(-(2 ^ 64) < i/\i < 2 ^ 64)\/(-(2 ^ 64) < j/\j < 2 ^ 64)
theorem CMul.ok(h:CMul i j):IntMulOk i j:=by
 rcases h with ⟨h1,h2⟩ | ⟨h1,h2⟩
 .exact .of_left (intBits_le_64 h1 h2)
 .exact .of_right (intBits_le_64 h1 h2)
def op_add:OpR X (binaryOp .Add) (rI0 fun i j=>.int (i+j)):=opI0 fun _ _ _ _ _ _ _ q=>add_int q
def pK:OpR X (binaryOp .Sub) (rI0 fun i j=>.int (i - j)):=opI0 fun _ _ _ _ _ _ _ q=>sub_int q
def dM:OpR X (binaryOp .Mult) (rI CMul fun i j=>.int (i * j)):=opI fun _ _ _ _ _ _ _ hc q=>mul_int q hc.ok
def lU:OpR X (binaryOp .Mod) (rI (fun _ j=>0 < j) fun i j=>.int (i % j)):=opI fun i j _ _ _ _ _ hc q=>mod_int' (by lia) (by grind)
def kN:OpR X (binaryOp .Pow) (rI CPow fun i j=>.int (i ^ j.toNat)):=opI fun _ _ _ _ _ _ _ hc q=>pow_int_small hc.1 hc.2.1 hc.2.2 q
def unI{g:Int->Int}(rule:∀(i:Int)(t:Tok)(s:Shared)(Q:Value->Shared->Prop)(E:Value->Shared->Prop),Q (.int (g i) s.toks) { s with toks:=s.toks+1 }->wpAny (model X.prog X.w) X.A (f (.int i t)) Q E s):
  UnR X f (rU fun i=>.int (g i)):=by
 intro pins s σ H x v Q I rx h;obtain⟨i,rfl,q⟩:=h;obtain⟨t,rfl⟩:=rx;exact rule i t s _ _ ⟨.int (g i),H,I.tok _,⟨_,rfl⟩,q⟩
def fM:UnR X (unaryOp .USub) (rU fun i=>.int (-i)):=unI fun _ _ _ _ _ q=>neg_int q
end
def scal:V->V->Bool
 |.non,.non=>true | .non,.int _=>true | .int _,.non=>true | .non,.bl _=>true | .bl _,.non=>true | .non,.str _=>true | .str _,.non=>true
 |.int _,.int _=>true | .bl _,.bl _=>true | .str _,.str _=>true | .byt _,.byt _=>true
 |.int _,.str _=>true | .str _,.int _=>true | .bl _,.str _=>true | .str _,.bl _=>true
 |_,_=>false
def rEq:R2:=fun x y H Q=>scal x y=true/\Q (.bl (decide (x=y))) H
def rNe:R2:=fun x y H Q=>scal x y=true/\Q (.bl (!decide (x=y))) H
def Jq: decide (V.int i=V.int j)=(i==j) :=by grind
def Ye: decide (V.bl i=V.bl j)=(i==j) :=by grind
def Jp: decide (V.str i=V.str j)=(i==j) :=by grind
def Jr: decide (V.byt i=V.byt j)=(i.toList==j.toList):=by
 rw[Cw];cases i;cases j
 simp
section
variable {X:Cx}{a b c:Expr}{ta tb tc:TE}{pos:Pos}
def hX{σ:St}(I:Inv X pins σ H s)(q:Q (.bl k) H)(e:k=k'):EP X pins σ Q (.bool k') s:=by
 subst e;exact⟨.bl k,H,I,rfl,q⟩
def fX:OpR X (compareOp .Eq) rEq:=by
 intro pins s σ H x y v u Q I rx ry h;obtain⟨hs,q⟩:=h
 cases x with
 |non =>
  cases rx
  cases y with
  |non=>cases ry;exact PySem.EqNone.eq_none_none (hX I q (by simp))
  |bl j=>cases ry;exact PySem.EqNone.eq_none_bool (hX I q (by simp))
  |int j=>obtain⟨t',rfl⟩:=ry;exact PySem.EqNone.eq_none_int (hX I q (by simp))
  |str j=>obtain⟨t',rfl⟩:=ry;exact PySem.EqNone.eq_none_str (hX I q (by simp))
  |_=>exact absurd hs AN
 |bl i =>
  cases rx
  cases y with
  |non=>cases ry;exact PySem.EqNone.eq_bool_none (hX I q (by simp))
  |bl j=>cases ry;exact eq_bool (hX I q Ye)
  |str j=>obtain⟨t',rfl⟩:=ry;exact PySem.EqMixed.eq_bool_str (hX I q (by simp))
  |_=>exact absurd hs AN
 |int i =>
  obtain⟨t,rfl⟩:=rx
  cases y with
  |non=>cases ry;exact PySem.EqNone.eq_int_none (hX I q (by simp))
  |int j=>obtain⟨t',rfl⟩:=ry;exact eq_int (hX I q Jq)
  |str j=>obtain⟨t',rfl⟩:=ry;exact PySem.EqMixed.eq_int_str (hX I q (by simp))
  |_=>exact absurd hs AN
 |str i =>
  obtain⟨t,rfl⟩:=rx
  cases y with
  |non=>cases ry;exact PySem.EqNone.eq_str_none (hX I q (by simp))
  |bl j=>cases ry;exact PySem.EqMixed.eq_str_bool (hX I q (by simp))
  |int j=>obtain⟨t',rfl⟩:=ry;exact PySem.EqMixed.eq_str_int (hX I q (by simp))
  |str j=>obtain⟨t',rfl⟩:=ry;exact eq_str (hX I q Jp)
  |_=>exact absurd hs AN
 |byt i =>
  obtain⟨t,rfl⟩:=rx
  cases y with
  |byt j=>obtain⟨t',rfl⟩:=ry;exact PySem.W.eq_bytes (hX I q Jr)
  |_=>exact absurd hs AN
 |_=>cases y<;>exact absurd hs AN
def bF:OpR X (compareOp .NotEq) rNe:=by
 intro pins s σ H x y v u Q I rx ry h;obtain⟨hs,q⟩:=h
 cases x with
 |non =>
  cases rx
  cases y with
  |non=>cases ry;exact PySem.EqNone.ne_none_none (hX I q (by simp))
  |bl j=>cases ry;exact PySem.EqNone.ne_none_bool (hX I q (by simp))
  |int j=>obtain⟨t',rfl⟩:=ry;exact PySem.EqNone.ne_none_int (hX I q (by simp))
  |str j=>obtain⟨t',rfl⟩:=ry;exact PySem.EqNone.ne_none_str (hX I q (by simp))
  |_=>exact absurd hs AN
 |bl i =>
  cases rx
  cases y with
  |non=>cases ry;exact PySem.EqNone.ne_bool_none (hX I q (by simp))
  |bl j=>cases ry;exact ne_bool (hX I q (Bg not Ye))
  |str j=>obtain⟨t',rfl⟩:=ry;exact PySem.EqMixed.ne_bool_str (hX I q (by simp))
  |_=>exact absurd hs AN
 |int i =>
  obtain⟨t,rfl⟩:=rx
  cases y with
  |non=>cases ry;exact PySem.EqNone.ne_int_none (hX I q (by simp))
  |int j=>obtain⟨t',rfl⟩:=ry;exact ne_int (hX I q (Bg not Jq))
  |str j=>obtain⟨t',rfl⟩:=ry;exact PySem.EqMixed.ne_int_str (hX I q (by simp))
  |_=>exact absurd hs AN
 |str i =>
  obtain⟨t,rfl⟩:=rx
  cases y with
  |non=>cases ry;exact PySem.EqNone.ne_str_none (hX I q (by simp))
  |bl j=>cases ry;exact PySem.EqMixed.ne_str_bool (hX I q (by simp))
  |int j=>obtain⟨t',rfl⟩:=ry;exact PySem.EqMixed.ne_str_int (hX I q (by simp))
  |str j=>obtain⟨t',rfl⟩:=ry;exact ne_str (hX I q (Bg not Jp))
  |_=>exact absurd hs AN
 |byt i =>
  obtain⟨t,rfl⟩:=rx
  cases y with
  |byt j=>obtain⟨t',rfl⟩:=ry;exact PySem.W.ne_bytes (hX I q (Bg not Jr))
  |_=>exact absurd hs AN
 |_=>cases y<;>exact absurd hs AN
def mF:OpR X (compareOp .Lt) (rI0 fun i j=>.bl (decide (i < j))):=opB0 fun _ _ _ _ _ _ _ q=>lt_int q
def Z6:OpR X (compareOp .LtE) (rI0 fun i j=>.bl (decide (i<=j))):=opB0 fun _ _ _ _ _ _ _ q=>le_int q
def jK:OpR X (compareOp .Gt) (rI0 fun i j=>.bl (decide (j < i))):=opB0 fun _ _ _ _ _ _ _ q=>gt_int q
def Kb:OpR X (compareOp .In) (fun x y H Q=>∃i j,x=.str i/\y=.str j/\Q (.bl (!(Builtin.Str.occurrences j i 0 j.length 1).isEmpty)) H):=by
 intro pins s σ H x y v u Q I rx ry h;obtain⟨i,j,rfl,rfl,q⟩:=h;obtain⟨t,rfl⟩:=rx;obtain⟨t',rfl⟩:=ry;exact in_str (hX I q rfl)
def XJ:OpR X (compareOp .Is) (fun x y H Q=>y=.non/\Q (.bl (decide (x=.non))) H):=by
 intro pins s σ H x y v u Q I rx ry h;obtain⟨rfl,q⟩:=h;cases ry;refine is_none_gen (hX I q ?_)
 cases x<;>first
  | (cases rx;rfl)
  | (obtain⟨t,rfl⟩:=rx;rfl)
def lO:OpR X (compareOp .IsNot) (fun x y H Q=>y=.non/\Q (.bl (!decide (x=.non))) H):=by
 intro pins s σ H x y v u Q I rx ry h;obtain⟨rfl,q⟩:=h;cases ry;refine isnot_none_gen (hX I q ?_)
 cases x<;>first
  | (cases rx;rfl)
  | (obtain⟨t,rfl⟩:=rx;rfl)
def OpR.or(h:OpR X f r)(h':OpR X f r'):OpR X f (fun x y H Q=>r x y H Q\/r' x y H Q):=by
 intro pins s σ H x y v u Q I rx ry q
 rcases q with q | q
 .exact h pins s σ H x y v u Q I rx ry q
 .exact h' pins s σ H x y v u Q I rx ry q
def wW b(h:op≠.In:=by decide)(h2:op≠.NotIn:=by decide):behindInMarks op b=false:=by
 have e1:(op==CmpOp.In)=false:=by cases op<;>first | rfl | exact absurd rfl h
 have e2:(op==CmpOp.NotIn)=false:=by cases op<;>first | rfl | exact absurd rfl h2
 cases b<;>simp[behindInMarks,e1,e2]
def pe_cmpR(ho:OpR X (compareOp op) r)(ha:PE X a ta)(hb:PE X b tb)(hm:behindInMarks op b=false):PE X (.Compare a [op] [b] pos) (tOp r ta tb):=by
 intro pins s σ H Q I h;exact wpAny_Compare1 (binT ha hb I h fun v u s2 x y H2 I2 rx ry q=>ho pins s2 σ H2 x y v u Q I2 rx ry q) hm
def Vo(t:TE):TT:=fun σ H Q=>t σ H (IBl Q)
def pt_cmpR(ho:OpR X (compareOp op) r)(ha:PE X a ta)(hb:PE X b tb)(hm:behindInMarks op b=false):PT X (.Compare a [op] [b] pos) (Vo (tOp r ta tb)):=by
 intro pins s σ H Q I h
 refine wpAny_isTrue_Compare1 (thn (ha pins s σ H _ I h) fun v s1 zz=>kZ zz fun x H1 I1 r1 q1=> thn (hb pins s1 σ H1 _ I1 q1) fun u s2 zz=>kZ zz fun y H2 I2 r2 q2=>
  thn (ho pins s2 σ H2 x y v u _ I2 r1 r2 q2) fun c s3 ⟨z,H3,I3,r3,k,e,q3⟩=>?_) hm
 subst e;cases r3;exact BD ⟨H3,I3,q3⟩
def Xu(r r':R2)(ta tb tc:TE):TE:=fun σ H Q=>ta σ H fun x H1=>tb σ H1 fun y H2=>r x y H2 fun z H3=>∃k,z=.bl k /\
 (if k=true then tc σ H3 fun w' H4=>r' y w' H4 Q else Q (.bl false) H3)
def V2(ho:OpR X (compareOp op) r)(ho':OpR X (compareOp op') r')(ha:PE X a ta)(hb:PE X b tb)(hc:PE X c tc)(hm:lastMarks [op,op'] [b,c]=false:=by with_unfolding_all rfl):PE X (.Compare a [op,op'] [b,c] pos) (Xu r r' ta tb tc):=by
 intro pins s σ H Q I h
 refine Compare_chain (thn (ha pins s σ H _ I h) fun v s1 zz=>kZ zz fun x H1 I1 r1 q1=> chain_link (thn (hb pins s1 σ H1 _ I1 q1) fun u s2 zz=>kZ zz fun y H2 I2 r2 q2=>
  thn (ho pins s2 σ H2 x y v u _ I2 r1 r2 q2) fun d s3 ⟨z,H3,I3,r3,k,e,q3⟩=>?_)) hm
 subst e;cases r3
 apply BD
 cases k with
 |false=>exact ite_ff ⟨.bl false,H3,I3,rfl,q3⟩
 |true=>exact ite_tt (chain_last (thn (hc pins s3 σ H3 _ I3 q3) fun w' s4 zz=>kZ zz fun z' H4 I4 r4 q4=> ho' pins s4 σ H4 y z' u w' Q I4 r2 r4 q4))
def VM(ho:OpR X (compareOp op) r)(ho':OpR X (compareOp op') r')(ha:PE X a ta)(hb:PE X b tb)(hc:PE X c tc)(hm:lastMarks [op,op'] [b,c]=false:=by with_unfolding_all rfl):PT X (.Compare a [op,op'] [b,c] pos) (Vo (Xu r r' ta tb tc)):=by
 intro pins s σ H Q I h
 refine isTrue_chain (thn (ha pins s σ H _ I h) fun v s1 zz=>kZ zz fun x H1 I1 r1 q1=> test_link (thn (hb pins s1 σ H1 _ I1 q1) fun u s2 zz=>kZ zz fun y H2 I2 r2 q2=>
  thn (ho pins s2 σ H2 x y v u _ I2 r1 r2 q2) fun d s3 ⟨z,H3,I3,r3,k,e,q3⟩=>?_)) hm
 subst e;cases r3
 apply BD
 cases k with
 |false =>
  obtain⟨k',e',q'⟩:=q3;cases e';exact ite_ff ⟨H3,I3,q'⟩
 |true =>
  refine ite_tt (test_last (thn (hc pins s3 σ H3 _ I3 q3) fun w' s4 zz=>kZ zz fun z' H4 I4 r4 q4=> thn (ho' pins s4 σ H4 y z' u w' _ I4 r2 r4 q4) fun d' s5 zq=>?_));obtain⟨z2,H5,I5,r5,k2,rfl,q5⟩:=zq;cases r5;exact BD ⟨H5,I5,q5⟩
def TruV(K:Dl)(x:V)(H:Hp)(k:Bool):Prop :=
 match x with
 |.non=>k=false
 |.bl b=>k=b
 |.int i=>k=(i != 0)
 |.str y=>y.length<=sizeLine/\k=((y.length:Int) != 0)
 |.byt y=>y.size<=sizeLine/\k=((y.size:Int) != 0)
 |.ref p=>(∃xs,SqL K H p xs/\k = !xs.isEmpty)\/(∃xs,SqT K H p xs/\k = !xs.isEmpty)\/∃kvs,H p=some (.dK kvs)/\k = !kvs.isEmpty
 |_=>False
def Za(r:KV kvs vs):(!vs.isEmpty) = !kvs.isEmpty:=by
 cases r<;>rfl
def lN(r:Vals xs its):(!its.toArray.isEmpty) = !xs.isEmpty:=by
 cases r<;>simp
def tU:sizeLine < 2 ^ 63:=by decide
def tru_ok:TruR X (fun x H Q=>∃k,TruV X.K x H k/\Q k H):=by
 intro pins s σ H x v Q I rx h;obtain⟨k,e,q⟩:=h;have hl:=tU;have hs:=B9
 cases x with
 |non =>
  cases rx;have e':=e;subst e';exact truthy_none ⟨H,I,q⟩
 |bl b =>
  cases rx;have e':=e;subst e';exact BD ⟨H,I,q⟩
 |int i =>
  obtain⟨t,rfl⟩:=rx;have e':=e;subst e';exact PySem.P.truthy_int ⟨H,I,q⟩
 |str y =>
  obtain⟨t,rfl⟩:=rx;obtain⟨hy,rfl⟩:y.length<=sizeLine/\k=((y.length:Int) != 0):=e;exact PySem.P.truthy_str (by lia) ⟨H,I.tok _,q⟩
 |byt y =>
  obtain⟨t,rfl⟩:=rx;obtain⟨hy,rfl⟩:y.size<=sizeLine/\k=((y.size:Int) != 0):=e;exact PySem.W.truthy_bytes (by lia) ⟨H,I.tok _,q⟩
 |ref p =>
  cases rx;have e':=e
  rcases e' with ⟨xs,hx,e'⟩ | ⟨xs,hx,e'⟩ | ⟨kvs,hx,e'⟩
  .subst e'
   obtain⟨its,r,pl,hz⟩:=I.list hx;have hlen:=r.length;exact wpAny_truthy_list pl.isList (by simp only[List.size_toArray];lia) ⟨H,I.tok _,by rwa [lN r]⟩
  .subst e'
   obtain⟨its,r,pl,hz⟩:=I.tuple hx;have hlen:=r.length;exact truthy_tuple pl (by simp only[List.size_toArray];lia) ⟨H,I.tok _,by rwa [lN r]⟩
  .subst e'
   obtain⟨hz,hS,vs,r,m⟩:kvs.length<=sizeLine/\(p==sysModules)=false/\∃vs,KV kvs vs/\s.heap.DictOf (cX X.prog X.w) p vs:=I.hok p _ hx;have hlen:=Paired.length r;exact wpAny_truthy_dict hS m (by lia) ⟨H,I.tok _,by rwa [Za r]⟩
 |_=>exact e.elim
def VL(ha:PE X a ta)(he:∀whole,isTrue a X.env whole=(do let v <- whole;standAt a.pos;holding [v] (truthy v))):
  PT X a (fun σ H Q=>ta σ H fun x H'=>∃k,TruV X.K x H' k/\Q k H'):=by
 intro pins s σ H Q I h;exact isTrue_plain (thn (ha pins s σ H _ I h) fun v s1 zz=>kZ zz fun x H1 I1 r1 q1=> tru_ok pins s1 σ H1 x v Q I1 r1 q1) (he _)
def XM:OpR X (binaryOp .Add) (fun x y H Q=>∃i j,x=.str i/\y=.str j/\i.length+j.length<=sizeLine/\Q (.str (i++j)) H):=by
 intro pins s σ H x y v u Q I rx ry h;obtain⟨i,j,rfl,rfl,hz,q⟩:=h;obtain⟨t,rfl⟩:=rx;obtain⟨t',rfl⟩:=ry;exact add_str (fun t' tk=>⟨.str (i++j),H,I.tok _,⟨_,rfl⟩,q⟩) hz
def zF(r:Vals [x] us):∃u,us=[u]/\RelV x u:=by
 cases r with
 |cons r1 r2=>cases r2;exact⟨_,rfl,r1⟩
def zI(r:Vals [x,y] us):∃u w',us=[u,w']/\RelV x u/\RelV y w':=by
 cases r with
 |cons r1 r2 =>
  cases r2 with
  |cons r3 r4=>cases r4;exact⟨_,_,rfl,r1,r3⟩
def Yy:CallR X (.builtin "abs") (fun xs H Q=>∃i,xs=[.int i]/\Q (.int (if i < 0 then -i else i)) H):=by
 intro pins s σ H xs us Q I r h;obtain⟨i,rfl,q⟩:=h;obtain⟨u,rfl,t,rfl⟩:=zF r;exact call_abs_int fun u tk=>⟨.int (if i < 0 then -i else i),H,I.tok _,⟨_,rfl⟩,q⟩
def iB(hc:X.calm=true):CallR X (.builtin "max") (fun xs H Q=>∃i j,xs=[.int i,.int j]/\Q (.int (if j > i then j else i)) H):=by
 intro pins s σ H xs us Q I r h;obtain⟨i,j,rfl,q⟩:=h;obtain⟨u,w',rfl,⟨t,rfl⟩,⟨t',rfl⟩⟩:=zI r;refine max_two_ints (I.ok.hd hc) fun h' tk k=>⟨_,H,I.kept k,?_,q⟩
 by_cases hj:j > i
 .rw [AW hj,AW hj];exact⟨_,rfl⟩
 .rw [AX hj,AX hj];exact⟨_,rfl⟩
def aB(hc:X.calm=true):CallR X (.builtin "min") (fun xs H Q=>∃i j,xs=[.int i,.int j]/\Q (.int (if j < i then j else i)) H):=by
 intro pins s σ H xs us Q I r h;obtain⟨i,j,rfl,q⟩:=h;obtain⟨u,w',rfl,⟨t,rfl⟩,⟨t',rfl⟩⟩:=zI r;refine min_two_ints (I.ok.hd hc) fun h' tk k=>⟨_,H,I.kept k,?_,q⟩
 by_cases hj:j < i
 .rw [AW hj,AW hj];exact⟨_,rfl⟩
 .rw [AX hj,AX hj];exact⟨_,rfl⟩
def nW:CallR X (.type "int") (fun xs H Q=>(∃i,xs=[.int i]/\Q (.int i) H)\/∃k,xs=[.bl k]/\Q (.int (if k then 1 else 0)) H):=by
 intro pins s σ H xs us Q I r h
 rcases h with ⟨i,rfl,q⟩ | ⟨k,rfl,q⟩
 .obtain ⟨u,rfl,t,rfl⟩:=zF r
  exact call_int_int ⟨.int i,H,I,⟨_,rfl⟩,q⟩
 .obtain ⟨u,rfl,rfl⟩:=zF r
  exact call_int_bool ⟨.int (if k then 1 else 0),H,I.tok _,⟨_,rfl⟩,q⟩
end
structure ObjM(h:Heap)(x dx C:Addr)(mA:Str->Option Value):Prop where
 obj:h.get? x=some (PySem.W.instObj C dx)
 ns:h.Ns1 dx mA
 ne:dx≠x
def Kn{h:Heap}(n:h.Ns1 dx mA):∃od,h.get? dx=some od/\∀name,PySem.W.lookIn name od=some (mA name):=by
 refine el35 n fun o es ep ho hd hk _ hm=>⟨o,ho,fun name=>?_⟩;have e:=hm name;unfold nsFind findBy at e;rw[<- Array.find?_toList] at e
 delta PySem.W.lookIn
 rw[hd];dsimp only
 split
 .grind
 .rename_i q
  rw[q] at e
  have a:es.toList.any (·.refKey)=false:=by
   rw[List.any_eq_false];intro y hy;obtain⟨z,t,hkey⟩:=(hk y (Array.mem_toList_iff.mp hy))
   simp[DictEntry.refKey,hkey]
  have a' :=a▸AN;exact(AX a')▸Bg some e
def ObjM.look(I:ObjM h x dx C mA):∃od,PySem.W.InstAt h x (PySem.W.instObj C dx) C (some od)/\∀name,PySem.W.lookIn name od=some (mA name) :=
 let ⟨od,ho,hl⟩:=Kn I.ns
 ⟨od,⟨I.obj,rfl,rfl,ho⟩,hl⟩
section
variable {prog:Program}{w:World}{A:Around}{E:Value->Shared->Prop}{s:Shared}{K:Dl}{x dx C f:Addr}{mA:Str->Option Value}{name:Str}{v:Value}
def get_map(X:K.In s.heap)(I:ObjM s.heap x dx C mA)(hg:PySem.W.plainGet K C name=true)(hh:PySem.W.hasDictIn K C=true)(ha:PySem.W.findIn K (.ref C) name=some none)(hv:mA name=some v)(hv':PySem.W.handedIn v=true)(h:Q v { s with toks:=s.toks+1 }):
  wpAny (model prog w) A (getAttr (.ref x) name expr) Q E s :=eQ I.look fun od J hl=>PySem.W.get_value X J (PySem.W.plainGet_of hg).1 (PySem.W.findObj_own hh ha rfl (by grind)) hv' h
def WR(X:K.In s.heap)(I:ObjM s.heap x dx C mA)(hg:PySem.W.plainGet K C name=true)(hf:PySem.W.findIn K (.ref C) name=some (some (.ref f)))(ht:PySem.W.isFn K (.ref f)=true)(hv:mA name=none)(h:Q (.ref f,[.ref x]) s):
  wpAny (model prog w) A (getMethod (.ref x) name pl) Q E s :=eQ I.look fun od J hl=>PySem.W.method_fn X J (PySem.W.plainGet_of hg).1 (PySem.W.plainGet_of hg).2 hf (beq_iff_eq.mp ht) (by show(PySem.W.lookIn name od).map (·.isSome)=some false;rw[hl,hv];rfl) h
def set_map(X:K.In s.heap)(I:ObjM s.heap x dx C mA)(hs:PySem.W.findIn K (.ref C) "__setattr__" = some (some (.builtin "object.__setattr__")))(hp:PySem.W.plainOver K C=true)(ht:PySem.W.takerIn K C name=some none)(hh:PySem.W.hasDictIn K C=true)(hw:PySem.Within mA ns)(hsz:ns.length<=sizeLine)(h:∀h',ObjM h' x dx C (fun y=>if y=name then some v else mA y)->Heap.SameBut dx s.heap h'->Q () { s with heap:=h',toks:=s.toks+2 }):
  wpAny (model prog w) A (setAttr (.ref x) name v) Q E s:=by
 refine eQ I.look fun od J hl=>PySem.W.set_plain X J hs (PySem.W.osa_open X J hp ht fun b=>eQ (PySem.W.any_some hh) fun cd hc hd'=>AA (AC (AA (AA (wpAny_loadPart I.obj (AA (PySem.W.Looks.here (PySem.W.looks_clsIn X hc) ?_)))))));rw[hd'];exact AC (AA (AC (AA (wpAny_nsSet1 I.ns fun h' hn2 hs2=>fR (hn2.count (PySem.Within.cons name v hw)) fun oD esD epD hoD hdD hcD=>AA (wpAny_lookBehind hoD (hdD▸pastItsLine_dict (Aa hcD (by grind))) (AC (h _ ⟨(hs2.2 _ (Ne.symm I.ne)).trans I.obj,hn2,I.ne⟩ hs2)))))))
def Ws(X:K.In s.heap)(hm:PySem.W.makesIn K C=true)(hi:PySem.W.findIn K (.ref C) "__init__" = some (some (.ref f)))(hf:PySem.W.typeIn K (.ref f)=some (.type "function"))(h:codeAny (model prog w) (A.under (.builtin "type.__call__" ⟨.ref C::vs,kw⟩)) (.call (.ref f) ⟨.ref (s.heap.objs.size+1)::vs,kw⟩) (PySem.W.InitBack (s.heap.objs.size+1) R)
   { s with heap:=(s.heap.push PySem.W.emptyDict).push (PySem.W.instObj C s.heap.objs.size) }):
  codeAny (model prog w) A (.call (.ref C) ⟨vs,kw⟩) R s:=by
 obtain⟨hh,g,d,t,os⟩:=s;exact PySem.W.make_core (PySem.W.makes_of X hm) (PySem.W.looks_findIn X hi) (fun self=>PySem.W.bind_fn X self hf) (.inl rfl) h
end
def gU(f:Str)(v:V):List (Str×V)->List (Str×V)
 |[]=>[(f,v)]
 | (g,x)::r=>if g=f then (g,v)::r else (g,x)::gU f v r
theorem rL f g v:∀fs,(gU f v fs).lookup g=if g=f then some v else fs.lookup g
 |[]=>by
  show List.lookup g [(f,v)]=_
  by_cases h:g=f
  .grind
  .grind
 | (k,x)::r=>by
  rw[show gU f v ((k,x)::r)=(if k=f then (k,v)::r else (k,x)::gU f v r) from rfl]
  by_cases hk:k=f
  .grind
  .rw [AX hk]
   by_cases h:g=k
   .grind
   .have hb:=beq_eq_false_iff_ne.mpr h
    simp only[List.lookup,hb]
    exact(rL f g v r)
theorem kL f v:∀fs,f∈(gU f v fs).map (·.1)/\∀g,g∈fs.map (·.1)->g∈(gU f v fs).map (·.1)
 |[]=>⟨by simp[gU],fun g h=>by simp at h⟩
 | (k,x)::r=>by
  obtain⟨i1,i2⟩:=kL f v r;rw[show gU f v ((k,x)::r)=(if k=f then (k,v)::r else (k,x)::gU f v r) from rfl]
  by_cases hk:k=f
  .grind
  .grind
theorem nL f v:∀fs,(gU f v fs).length<=fs.length+1
 |[]=>by simp[gU]
 | (k,x)::r=>by
  have ih:=nL f v r;rw[show gU f v ((k,x)::r)=(if k=f then (k,v)::r else (k,x)::gU f v r) from rfl]
  by_cases hk:k=f
  .grind
  .grind
def RelO.some_of(r:RelO (some v) o):∃u,o=some u/\RelV v u:=by
 cases o with
 |none=>exact r.elim
 |some u=>exact⟨u,rfl,r⟩
def RelO.none_of(r:RelO none o):o=none:=by
 cases o with
 |none=>rfl
 |some u=>exact r.elim
def Ky(r:RelV v u):PySem.W.handedIn u=true:=by
 cases v with
 |non=>cases r;rfl
 |bl b=>cases r;rfl
 |int i=>obtain⟨t,rfl⟩:=r;rfl
 |str x=>obtain⟨t,rfl⟩:=r;rfl
 |byt b=>obtain⟨t,rfl⟩:=r;rfl
 |flt b=>obtain⟨t,rfl⟩:=r;rfl
 |ref a=>cases r;rfl
 |ty n=>cases r;rfl
section
variable {P:Program}{w:World}{H H':Hp}{h h':Heap}{a C dx:Addr}{fs fs':List (Str×V)}
def fP(hok:HOk P w H h)(e:H a=some (.ins C dx fs)):∃mA,ObjM h a dx C mA/\(∀f,RelO (fs.lookup f) (mA f))/\PySem.Within mA (fs.map (·.1))/\fs.length<=1000/\H dx=some (.own a):=by
 obtain⟨d,z,ne,ob,mA,n,r,q⟩:=(hok a _ e);exact⟨mA,⟨ob,n,ne⟩,r,q,z,d⟩
end
structure Cls(K:Dl)(C:Addr):Prop where
 pg:PySem.W.plainGet K C Str.empty=true
 hd:PySem.W.hasDictIn K C=true
 po:PySem.W.plainOver K C=true
 sa:PySem.W.findIn K (.ref C) "__setattr__" = some (some (.builtin "object.__setattr__"))
def Cls.get{K}(c:Cls K C)f:PySem.W.plainGet K C f=true:=c.pg
def NoAttr(K:Dl)(C:Addr)(f:Str):Prop:=PySem.W.findIn K (.ref C) f=some none
def NoAttr.taker{K}(n:NoAttr K C f):PySem.W.takerIn K C f=some none:=by
 delta PySem.W.takerIn
 rw[show PySem.W.findIn K (.ref C) f=some none from n]
 rfl
structure Meth(K:Dl)(C:Addr)(m:Str)(f:Addr):Prop where
 at_:PySem.W.findIn K (.ref C) m=some (some (.ref f))
 fn:PySem.W.isFn K (.ref f)=true
 kp:PySem.W.keepIn K (.ref f)=true
section
variable {X:Cx}{pins:List (Addr×Obj)}{σ:St}{H:Hp}{s:Shared}{a C dx:Addr}{fs:List (Str×V)}{f:Str}{v:V}{A:Around}{E:Value->Shared->Prop}
def Ze(I:Inv X pins σ H s)(e:H a=some (.ins C dx fs))(c:Cls X.K C)(n:NoAttr X.K C f)(l:fs.lookup f=some v)(h:∀u s',Inv X pins σ H s'->RelV v u->Q u s'):wpAny (model X.prog X.w) A (getAttr (.ref a) f b) Q E s :=QO (fP I.hok e) fun mA O r _ _ _=>eQ (RelO.some_of (l▸r f)) fun u hu ru=>get_map I.kIn O (c.get f) c.hd n hu (Ky ru) (h u _ (I.tok _) ru)
def Zd(I:Inv X pins σ H s)(e:H a=some (.ins C dx fs))(c:Cls X.K C)(k:Meth X.K C m g)(l:fs.lookup m=none)(h:Q (.ref g,[.ref a]) s):wpAny (model X.prog X.w) A (getMethod (.ref a) m pl) Q E s :=QO (fP I.hok e) fun mA O r _ _ _=>WR I.kIn O (c.get m) k.at_ k.fn (RelO.none_of (l▸r m)) h
def XA(I:Inv X pins σ H s)(e:H a=some (.ins C dx fs))(c:Cls X.K C)(n:NoAttr X.K C f)(hl:fs.length < 1000)(ry:RelV y u)(h:∀s',Inv X pins σ (upd H a (.ins C dx (gU f y fs))) s'->Q () s'):wpAny (model X.prog X.w) A (setAttr (.ref a) f u) Q E s:=by
 refine QO (fP I.hok e) fun mA O r wi _ ho=>?_;have hz:(fs.map (·.1)).length<=sizeLine:=by rw[AB,B9];lia
 refine set_map I.kIn O c.sa c.po n.taker c.hd wi hz fun h' O' sb=>h _ ?_;have hd:∃o,h'.get? dx=some o:=let ⟨o,_,_,e',_⟩:=O'.ns;⟨o,e'⟩
 refine I.write (e▸True.intro) (.inr ho) (fun b q hb z=>(sb.2 b hb).trans z) hd ⟨by rw[mQ O.ne];exact ho,?_,O.ne,O'.obj,_,O'.ns,fun g=>?_,fun g hg=>?_⟩
 .have:=nL f y fs;lia
 .rw [rL]
  by_cases q:g=f
  .rwa [AW q,AW q]
  .grind
 .by_cases q:g=f
  .exact q▸(kL f y fs).1
  .refine (kL f y fs).2 g (wi g fun z=>hg ?_)
   show(if g=f then some u else mA g)=none
   rwa [AX q]
def Inv.made(I:Inv X pins σ H s):Inv X pins σ (upd (upd H s.heap.objs.size (.own (s.heap.objs.size+1))) (s.heap.objs.size+1) (.ins C s.heap.objs.size []))
  { s with heap:=(s.heap.push PySem.W.emptyDict).push (PySem.W.instObj C s.heap.objs.size) }:=by
 have e1:(s.heap.push PySem.W.emptyDict).get? s.heap.objs.size=some PySem.W.emptyDict:=AM s.heap rfl
 have e2:((s.heap.push PySem.W.emptyDict).push (PySem.W.instObj C s.heap.objs.size)).get? (s.heap.objs.size+1)=some (PySem.W.instObj C s.heap.objs.size):=by
  have:=AM (s.heap.push PySem.W.emptyDict) (o:=PySem.W.instObj C s.heap.objs.size) rfl
  rwa [B0] at this
 have I1:=I.laid (o:=.own (s.heap.objs.size+1)) (h':=s.heap.push PySem.W.emptyDict) (t':=s.toks) (fun b u q=>AD _ q) (AH _) ⟨_,e1⟩;refine I1.laid (t':=s.toks) (fun b u q=>AD _ q) (CK (B0 _ _)) ?_;have ne:s.heap.objs.size≠s.heap.objs.size+1:=Ad (Bw _);refine⟨by rw[mQ ne,fQ],Ae _,ne,e2,fun _=>none,(Heap.Ns1.of_empty (⟨PySem.W.emptyDict,#[],_,e1,rfl,(fun e he=>absurd he (by simp)),fun _=>rfl⟩)).at fun o q=>AD _ q,fun _=>True.intro,fun y hy=>absurd rfl hy⟩
def attr_of(hb:attributeBase e f env (eval e env)=eval e env)(h:wpAny (model prog w) A (eval e env) (fun o s₁=>wpAny (model prog w) A (getAttr o f true) Q E s₁) E s):wpAny (model prog w) A (eval (.Attribute e f pos) env) Q E s :=
 Attribute_any_ h (by rw[arm_eval_Attribute,hb])
end
def tFld(K:Dl)(ta:TE)(f:Str):TE:=fun σ H Q=>ta σ H fun x H1=>∃a C dx fs v,x=.ref a/\H1 a=some (.ins C dx fs)/\Cls K C/\NoAttr K C f/\fs.lookup f=some v/\Q v H1
def sFld(K:Dl)(ta tv:TE)(f:Str):TS:=fun D σ H=>tv σ H fun y H1=>ta σ H1 fun x H2=>∃a C dx fs,x=.ref a/\H2 a=some (.ins C dx fs)/\Cls K C/\NoAttr K C f/\fs.length < 1000 /\
 D.nx σ (upd H2 a (.ins C dx (gU f y fs)))
section
variable {X:Cx}{o e value:Expr}{f:Str}{pos pos' tpos:Pos}{ta tv:TE}
def pe_fld(he:PE X e ta)(hb:attributeBase e f X.env (eval e X.env)=eval e X.env):PE X (.Attribute e f pos) (tFld X.K ta f):=by
 intro pins s σ H Q I h;refine attr_of hb (thn (he pins s σ H _ I h) fun u s1 zq=>?_);obtain⟨x,H1,I1,rx,a,C,dx,fs,v,rfl,ea,c,n,l,q⟩:=zq;obtain rfl:u=Value.ref a:=rx;exact Ze I1 ea c n l fun u' s2 I2 ru=>⟨v,H1,I2,ru,q⟩
def ps_fld(ha:PE X o ta)(hv:PE X value tv)(hs:swapsWith value (some (.Attribute o f pos')) pos.line X.env=pure false):PS X (.Assign [.Attribute o f pos'] value pos) (sFld X.K ta tv f):=by
 intro pins s σ H D I h;refine plainObj_wpAny_Assign_Attribute (thn (hv pins s σ H _ I h) fun u s1 zz=>kZ zz fun y H1 I1 ry q=> thn (ha pins s1 σ H1 _ I1 q) fun ov s2 zq=>?_) hs;obtain⟨x,H2,I2,rx,a,C,dx,fs,rfl,ea,c,n,l,q2⟩:=zq;obtain rfl:ov=Value.ref a:=rx;exact XA I2 ea c n l ry fun s3 I3=>⟨σ,_,I3,q2⟩
end
section
variable {X:Cx}{pins:List (Addr×Obj)}{σ:St}{H:Hp}{s:Shared}{A:Around}{E:Value->Shared->Prop}{Q:Value->Shared->Prop}{c:Value}{b:Bool}
inductive gL(K:Dl)(H:Hp):V->Value->Prop where
 |non:gL K H .non (.type "NoneType")
 |bl (x:Bool):gL K H (.bl x) (.type "bool")
 |int (i:Int):gL K H (.int i) (.type "int")
 |str (x:Str):gL K H (.str x) (.type "str")
 |flt (x:UInt64):gL K H (.flt x) (.type "float")
 |lst {a:Addr} {xs:List V} (e:H a=some (.lst xs)):gL K H (.ref a) (.type "list")
 |frz {a:Addr} {o:Obj} {xs:List V} (e:H a=some (.frz o (.lst xs))):gL K H (.ref a) (.type "list")
 |tup {a:Addr} {xs:List V} (e:H a=some (.tup xs)):gL K H (.ref a) (.type "tuple")
 |dK {a:Addr} {kvs:List (Key×V)} (e:H a=some (.dK kvs)):gL K H (.ref a) (.type "dict")
 |dT {a:Addr} {kvs:List (List Key×V)} (e:H a=some (.dT kvs)):gL K H (.ref a) (.type "dict")
 |ins {a C dx:Addr} {fs:List (Str×V)} (e:H a=some (.ins C dx fs)) (cl:Cls K C) (ha:PySem.W.findIn K (.ref C) "__class__" = some (some (.builtin "object.__class__")))
   (hn:PySem.W.specialIn K (.builtin "object.__class__") "__get__" = some (some (.builtin "getset_descriptor.__get__"))) (htk:PySem.W.takesIn K (.builtin "object.__class__")=some true)
   (hm:PySem.W.mroIn K C (.type "object")=some true):gL K H (.ref a) (.ref C)
def Kr(I:Inv X pins σ H s)(rx:RelV x u)(ty:gL X.K H x t)(e:PySem.W.kitOne X.K t c=some b)(h:∀tk,Q (.bool b) { s with toks:=tk }):
  wpAny (model X.prog X.w) A (call (.builtin "isinstance") [u,c]) Q E s:=by
 cases ty with
 |non=>cases rx;exact BM PySem.W.kitx_none I.kIn True.intro e (fun z=>nomatch z) h
 |bl y=>cases rx;exact BM PySem.W.kitx_bool I.kIn True.intro e (fun z=>nomatch z) h
 |int i=>obtain⟨t,rfl⟩:=rx;exact BM PySem.W.kitx_int I.kIn True.intro e (fun z=>nomatch z) h
 |str y=>obtain⟨t,rfl⟩:=rx;exact BM PySem.W.kitx_str I.kIn True.intro e (fun z=>nomatch z) h
 |flt y=>obtain⟨t,rfl⟩:=rx;exact BM PySem.W.kitx_float I.kIn True.intro e (fun z=>nomatch z) h
 |@lst a xs ea =>
  cases rx;obtain⟨_,_,n,_,h1⟩:=(I.hok a _ ea);exact BM PySem.W.kitx_list I.kIn ⟨_,h1,rfl⟩ e (fun z=>nomatch z) h
 |@frz a ob xs ea =>
  cases rx;obtain⟨_,_,_,n,_,h1⟩:=(I.hok a _ ea);exact BM PySem.W.kitx_list I.kIn ⟨_,h1,rfl⟩ e (fun z=>nomatch z) h
 |@tup a xs ea =>
  cases rx;obtain⟨_,_,_,p⟩:=(I.hok a _ ea);exact aJ p fun o h1 h2 _=>BM PySem.W.kitx_tuple I.kIn ⟨o,h1,h2⟩ e (fun z=>nomatch z) h
 |@dK a kvs ea =>
  cases rx;obtain⟨_,_,vs,_,p⟩:=(I.hok a _ ea);exact fR p fun o es ep h1 h2 _=>BM PySem.W.kitx_dict I.kIn ⟨o,h1,h2.1⟩ e (fun z=>nomatch z) h
 |@dT a kvs ea =>
  cases rx;obtain⟨_,_,xs,_,o,es,ep,h1,h2,_⟩:=(I.hok a _ ea);exact BM PySem.W.kitx_dict I.kIn ⟨o,h1,h2.1⟩ e (fun z=>nomatch z) h
 |@ins a C dx fs ea cl ha hn htk hm =>
  cases rx;obtain⟨mA,O,_⟩:=(fP I.hok ea);obtain⟨od,J,_⟩:=O.look;exact BM (PySem.W.kitx_own (cl.get _) cl.hd ha hn htk hm) I.kIn J e (fun z=>nomatch z) h
end
structure Room(k:Nat)(A:Around):Prop where
 hd:A.handled=none
 dp:A.depth+3 * k+5 < recursionLimit
 un:A.units+16 * k+200 < cLine
def Room.mono(r:Room k A)(h:j<=k):Room j A:=⟨r.hd,by have:=r.dp;lia,by have:=r.un;lia⟩
def Room.deeper(r:Room (k+1) A)env:Room k (A.deeper env) :=
 ⟨r.hd,by have:=r.dp;show A.depth+1+3 * k+5 < _;lia,by have:=r.un;show A.units+3+16 * k+200 < _;lia⟩
def XZ{A:Around}: (A.under (.builtin "type.__call__" ⟨.ref C::us,kw⟩)).depth=A.depth+1:=by
 first | rfl | simp[ Code.weight]
def XY{A:Around}: (A.under (.builtin "type.__call__" ⟨.ref C::us,kw⟩)).units=A.units+1:=by
 first | rfl | simp[ Code.cUnits]
def Room.make(r:Room (k+1) A)C us kw:Room k (A.under (.builtin "type.__call__" ⟨.ref C::us,kw⟩)) :=
 ⟨r.hd,by have:=r.dp;rw[XZ];lia,by have:=r.un;rw[XY];lia⟩
def Room.depth(r:Room k A):A.depth < recursionLimit:=by have:=r.dp;lia
def Room.units(r:Room k A):A.units+64 < cLine:=by have:=r.un;lia
def tNil:TA:=fun _ H Q=>Q [] H
def Vp(ta:TE)(tr:TA):TA:=fun σ H Q=>ta σ H fun x H1=>tr σ H1 fun xs H2=>Q (x::xs) H2
section
variable {X:Cx}{e:Expr}{es:List Expr}{te:TE}{t:TA}{pos:Pos}
theorem XI:PA X [] tNil:=fun _ _ _ _ H Q I h=>Calls.spliced_nil ⟨[],H,I,.nil,h⟩
def pa_cons(ha:PE X e te)(hr:PA X es t)(hs:starEach (e::es) X.env=(false,eval e X.env)::starEach es X.env:=by rfl):PA X (e::es) (Vp te t):=by
 intro pos pins s σ H Q I h;exact hs▸DH (thn (ha pins s σ H _ I h) fun u s1 zz=>kZ zz fun x H1 I1 r1 q1=> thn (hr pos pins s1 σ H1 _ I1 q1) fun us s2 zz=>kZ zz fun xs H2 I2 r2 q2=> ⟨x::xs,H2,I2,.cons r1 r2,q2⟩)
inductive INew(o:List V->HO)(Q:VK)(xs:List V)(H:Hp):Prop
 |mk(h:xs.length<=sizeLine)(q:∀p,H p=none->Q (.ref p) (upd H p (o xs))):INew o Q xs H
def tTup(t:TA):TE:=fun σ H Q=>t σ H (INew .tup Q)
def tLst(t:TA):TE:=fun σ H Q=>t σ H (INew .lst Q)
def pe_tup{x1}(h:PA X es t):PE X (.Tuple es x1 pos) (tTup t):=by
 intro pins s σ H Q I hq;refine wpAny_Tuple_spliced (thn (h pos pins s σ H _ I hq) fun us s1 ⟨xs,H1,I1,r,z,q⟩=>⟨by exact r.length▸z,?_⟩);refine⟨.ref s1.heap.objs.size,upd H1 s1.heap.objs.size (.tup xs),I1.laid (t':=s1.toks) (fun b u e=>AD _ e) (AH _) ?_,rfl,q _ (I1.hok.fresh (AH _))⟩;exact⟨z,us,r,⟨_,AM _ rfl,rfl,⟨_,rfl⟩,rfl⟩⟩
def pe_lst(h:PA X es t):PE X (.List es pos) (tLst t):=by
 intro pins s σ H Q I hq;refine wpAny_List_spliced (thn (h pos pins s σ H _ I hq) fun us s1 ⟨xs,H1,I1,r,z,q⟩=>⟨by exact r.length▸z,?_⟩);refine⟨.ref s1.heap.objs.size,upd H1 s1.heap.objs.size (.lst xs),I1.laid (t':=s1.toks) (fun b u e=>AD _ e) (AH _) ?_,rfl,q _ (I1.hok.fresh (AH _))⟩;exact⟨z,us,0,r,AM _ rfl⟩
end
abbrev Sp:=List V->Hp->VK->XK->Prop
abbrev CXT:=List Env->Hp->Shared->XK->Value->Shared->Prop
structure Env0(P:Program)(w:World)(K:Dl)(mg:Str->Option Value)(base:Heap)(A:Around)(outer:List Env)(s:Shared)(H:Hp):Prop where
 frames:A.frames=some outer
 mod:Mod K mg base
 bs:∀b o,base.get? b=some o->s.heap.get? b=some o/\H b=none
 bsz:base.objs.size<=s.heap.objs.size
 funs:s.heap.FunFrames base outer
 frf:∀b∈frs outer,H b=none
 hok:HOk P w H s.heap
 bare:AllBare s.gens
def CE(outer:List Env)(P:Program)(w:World)(H:Hp)(s:Shared)(Q:VK)(u:Value)(s':Shared):Prop :=
 ∃v H',s'.os=s.os/\AllBare s'.gens/\Un (frs outer) [] H H' s.heap s'.heap/\HOk P w H' s'.heap/\RelV v u/\Q v H'
def CR(CX:CXT)(outer:List Env)(P:Program)(w:World)(H:Hp)(s:Shared)(Q:VK)(E:XK)(r:Result)(s':Shared):Prop :=
 match r with
 |.ok (.ret u)=>CE outer P w H s Q u s'
 |.ok _=>False
 |.error e=>CX outer H s E e s'
structure FnOk(P:Program)(w:World)(K:Dl)(mg:Str->Option Value)(base:Heap)(CX:CXT)(k:Nat)(f:Addr)(fd:FuncData)(ps:List Str)(sp:Sp):Prop where
 len:∀vs H Q E,sp vs H Q E->vs.length=ps.length
 run:∀(A:Around)(outer:List Env)(s:Shared)(H:Hp)(args:Args)(us:List Value)(vs:List V)(Q:VK)(E:XK),Room k A->Env0 P w K mg base A outer s H->BindsTo s fd args (ps.zip us)->Vals vs us->sp vs H Q E ->
  codeAny (model P w) A (.call (.ref f) args) (CR CX outer P w H s Q E) s
def FnOk.mono{K}(F:FnOk P w K mg base CX j f fd ps sp)(h:j<=k):
  FnOk P w K mg base CX k f fd ps sp:=⟨F.len,fun A outer s H args us vs Q E hr=>F.run A outer s H args us vs Q E (hr.mono h)⟩
def Env0.make{K}(e:Env0 P w K mg base A outer s H)C us kw:
  Env0 P w K mg base (A.under (.builtin "type.__call__" ⟨.ref C::us,kw⟩)) outer s H:=⟨by first | exact e.frames | (simpa [Around.under,Code.envs,Code.isFrame,pushEnvs] using e.frames),e.mod,e.bs,e.bsz,e.funs,e.frf,e.hok,e.bare⟩
section
variable {X:Cx}{pins:List (Addr×Obj)}{σ:St}{H:Hp}{s s':Shared}
def Inv.env0(I:Inv X pins σ H s):Env0 X.prog X.w X.K X.mg X.base X.A X.stack s H :=
 ⟨I.ok.frames,I.ok.mod,I.bs,Aa I.ok.bsz I.sz,I.stack,I.stkFree,I.hok,I.bare⟩
def Inv.after(I:Inv X pins σ H s)(h:CE X.stack X.prog X.w H s Q u s'):EP X pins σ Q u s':=by
 refine el26 h fun v H' os bare un hok r q=>?_;obtain⟨hh,g,d,t,os'⟩:=s';obtain rfl:os'=s.os:=os;exact⟨v,H',I.call (h':=hh) (g':=g) (d':=d) (t':=t) un hok bare (fun b z=>absurd z (by simp)),r,q⟩
end
def Vq(sp:Sp)(dvs:List V)(E:XK)(t:TA):TE:=fun σ H Q=>t σ H fun vs H1=>sp (vs++dvs) H1 Q E
def tMeth(C:Addr)(m:Str)(sp:Sp)(dvs:List V)(E:XK)(ta:TE)(t:TA):TE:=fun σ H Q=>ta σ H fun x H1=>∃a dx fs,x=.ref a/\H1 a=some (.ins C dx fs)/\fs.lookup m=none /\
 t σ H1 fun vs H2=>sp (x::(vs++dvs)) H2 Q E
def tMake(C:Addr)(sp:Sp)(dvs:List V)(E:XK)(t:TA):TE:=fun σ H Q=>t σ H fun vs H1=>∀x dx,H1 x=none->H1 dx=none->dx≠x ->
 sp (.ref x::(vs++dvs)) (upd (upd H1 dx (.own x)) x (.ins C dx [])) (fun v H2=>v=.non/\Q (.ref x) H2) E
def Binds(K:Dl)(fd:FuncData)(ps:List Str)(ds:List Value):Prop :=
 ∀(s:Shared)(us:List Value),K.In s.heap->(us++ds).length=ps.length->BindsTo s fd ⟨us,[]⟩ (ps.zip (us++ds))
def Binds.all{K}(h:∀us:List Value,us.length=ps.length->bindArgs fd ⟨us,[]⟩=pure (ps.zip us)):Binds K fd ps []:=fun s us _ hl=>by
 rw[Al] at hl ⊢;exact .of_eq (h us hl)
def kY(CX:CXT)(X:Cx)(E:XK):Prop:=∀(pins:List (Addr×Obj))(σ:St)(H:Hp)(s:Shared)(e:Value)(s':Shared),Inv X pins σ H s->CX X.stack H s E e s'->X.xe e s'
section
variable {X:Cx}{CX:CXT}{k:Nat}{f C:Addr}{fd:FuncData}{ps:List Str}{sp:Sp}{dvs:List V}{ds:List Value}{E:XK}{x m:Str}{p pos apos:Pos}{e o:Expr}{es:List Expr}{ta:TE}{t:TA}
def Vu{σ:St}(F:FnOk X.prog X.w X.K X.mg X.base CX k f fd ps sp)(hr:Room k X.A)(hb:Binds X.K fd ps ds)(hd:Vals dvs ds)(hx:kY CX X E)(I:Inv X pins σ H s)(r:Vals vs us)(h:sp (vs++dvs) H Q E):wpAny (model X.prog X.w) X.A (call (.ref f) us) (EP X pins σ Q) X.xe s:=by
 have r2:=r.append hd;have hl :=r2.length▸F.len _ _ _ _ h;refine wpAny_call (DS (F.run X.A X.stack s H ⟨us,[]⟩ (us++ds) (vs++dvs) Q E hr I.env0 (hb s us I.kIn hl) r2 h) fun r s' hq=>?_)
 cases r with
 |error e=>exact hx pins σ H s e s' I hq
 |ok fl =>
  cases fl with
  |ret u=>exact I.after hq
  |next=>exact False.elim hq
  |brk=>exact False.elim hq
  |cont=>exact False.elim hq
def pe_call(F:FnOk X.prog X.w X.K X.mg X.base CX k f fd ps sp)(hr:Room k X.A)(hg:Gl X x)(hm:X.mg x=some (.ref f))(hk:PySem.W.keepIn X.K (.ref f)=true)(hb:Binds X.K fd ps ds)(hd:Vals dvs ds)(hx:kY CX X E)(ha:PA X (e::es) t)(hdb:(x==("__debug__" : Str))=false:=by decide)(he:starEach (e::es) X.env=(false,eval e X.env)::starEach es X.env:=by rfl)(hpl:(backTo pos (starEach es X.env)).any (·.1)=false:=by rfl):
  PE X (.Call (.Name x p) (e::es) [] pos) (Vq sp dvs E t):=by
 intro pins s σ H Q I h;exact DC (kE I hg hm (PySem.W.callWith_K I.ok.mod.kin hk (thn (ha pos pins s σ H _ I h) fun us s1 zz=>kZ zz fun vs H1 I1 r q=> ⟨I1.kIn,Vu F hr hb hd hx I1 r q⟩) he hpl) hdb)
def pe_meth{pl}(he:PE X o ta)(c:Cls X.K C)(hm:Meth X.K C m f)(F:FnOk X.prog X.w X.K X.mg X.base CX k f fd ps sp)(hr:Room k X.A)(hb:Binds X.K fd ps ds)(hd:Vals dvs ds)(hx:kY CX X E)(ha:PA X (e::es) t)(hst:starEach (e::es) X.env=(false,eval e X.env)::starEach es X.env:=by rfl)(hpl:(backTo pos (starEach es X.env)).any (·.1)=false:=by rfl)(ht:eval (.Call (.Attribute o m apos) (e::es) [] pos) X.env=(do
   let ov <- eval o X.env
   standAt apos.atName
   let (f,first) <- holding [ov] (getMethod ov m pl)
   callWith pos f first (backTo pos (starEach (e::es) X.env)) (backToKw pos (keywordEach [] X.env))):=by rfl):
  PE X (.Call (.Attribute o m apos) (e::es) [] pos) (tMeth C m sp dvs E ta t):=by
 intro pins s σ H Q I h;refine PySem.W.methodCall_KW (thn (he pins s σ H _ I h) fun u s1 zq=>?_) ht;obtain⟨x,H1,I1,rx,a,dx,fs,rfl,ea,l,q⟩:=zq;obtain rfl:u=Value.ref a:=rx;exact Zd I1 ea c hm l (PySem.W.callWith_K I.ok.mod.kin hm.kp (thn (ha pos pins s1 σ H1 _ I1 q) fun us s2 zz=>kZ zz fun vs H2 I2 r q2=> ⟨I2.kIn,Vu (vs:=.ref a::vs) F hr hb hd hx I2 (.cons rfl r) q2⟩) hst hpl)
structure Mk(K:Dl)(C f:Addr):Prop where
 makes:PySem.W.makesIn K C=true
 init:PySem.W.findIn K (.ref C) "__init__" = some (some (.ref f))
 fn:PySem.W.isFn K (.ref f)=true
 kp:PySem.W.keepIn K (.ref C)=true
def Vt{σ:St}(M:Mk X.K C f)(F:FnOk X.prog X.w X.K X.mg X.base CX k f fd ps sp)(hr:Room (k+1) X.A)(hb:Binds X.K fd ps ds)(hd:Vals dvs ds)(hx:kY CX X E)(I:Inv X pins σ H s)(r:Vals vs us)(h:∀x dx,H x=none->H dx=none->dx≠x->sp (.ref x::(vs++dvs)) (upd (upd H dx (.own x)) x (.ins C dx [])) (fun v H2=>v=.non/\Q (.ref x) H2) E):
  wpAny (model X.prog X.w) X.A (call (.ref C) us) (EP X pins σ Q) X.xe s:=by
 have hq:=h (s.heap.objs.size+1) s.heap.objs.size (I.hok.fresh (Bv _)) (I.hok.fresh (AH _)) (Ad (Bw _));have I2:=Inv.made (C:=C) I;have r2:Vals (V.ref (s.heap.objs.size+1)::(vs++dvs)) (Value.ref (s.heap.objs.size+1)::(us++ds)):=.cons rfl (r.append hd)
 have hl:(Value.ref (s.heap.objs.size+1)::us++ds).length=ps.length:=by
  have e:=r2.length;rw[F.len _ _ _ _ hq] at e;exact e.symm
 refine wpAny_call (Ws I.kIn M.makes M.init (beq_iff_eq.mp M.fn) (DS (F.run _ X.stack _ _ ⟨Value.ref (s.heap.objs.size+1)::us,[]⟩ (Value.ref (s.heap.objs.size+1)::(us++ds)) _ _ E (hr.make C us [])
  (I2.env0.make C us []) (hb _ (Value.ref (s.heap.objs.size+1)::us) I2.kIn hl) r2 hq) fun r s' hq'=>?_))
 cases r with
 |error e=>exact hx pins σ _ _ e s' I2 hq'
 |ok fl =>
  cases fl with
  |ret u =>
   obtain⟨v,H',I3,rv,rfl,q3⟩:=I2.after hq';exact⟨rv,⟨V.ref (s.heap.objs.size+1),H',I3,rfl,q3⟩⟩
  |next=>exact False.elim hq'
  |brk=>exact False.elim hq'
  |cont=>exact False.elim hq'
def pe_make(M:Mk X.K C f)(F:FnOk X.prog X.w X.K X.mg X.base CX k f fd ps sp)(hr:Room (k+1) X.A)(hg:Gl X x)(hm:X.mg x=some (.ref C))(hb:Binds X.K fd ps ds)(hd:Vals dvs ds)(hx:kY CX X E)(ha:PA X (e::es) t)(hdb:(x==("__debug__" : Str))=false:=by decide)(he:starEach (e::es) X.env=(false,eval e X.env)::starEach es X.env:=by rfl)(hpl:(backTo pos (starEach es X.env)).any (·.1)=false:=by rfl):
  PE X (.Call (.Name x p) (e::es) [] pos) (tMake C sp dvs E t):=by
 intro pins s σ H Q I h;exact DC (kE I hg hm (PySem.W.callWith_K I.ok.mod.kin M.kp (thn (ha pos pins s σ H _ I h) fun us s1 zz=>kZ zz fun vs H1 I1 r q=> ⟨I1.kIn,Vt M F hr hb hd hx I1 r q⟩) he hpl) hdb)
end
structure FnScope(N P:List Str)(sc:Scope):Prop where
 kind:sc.kind=.function
 co:sc.isCoroutine=false
 gen:sc.isGenerator=false
 nd:N.Nodup
 pre:N.take P.length=P
 par:∀x∈P,sc.names.lookup x=some .local\/sc.names.lookup x=some .cell
 nofree:∀y∈sc.names,y.2≠.free
theorem eT{kindOf}: ∀{binds}{m},(∀v,(x,v)∉binds)->bindL kindOf binds m x=m x
 |[],_,_=>rfl
 | (n,v)::r,m,h=>by
  unfold bindL;rw[eT fun w hw=>h w (AK _ hw)]
  split
  .grind
  .rfl
theorem qO{kindOf}: ∀{binds}{m},(∀v,(x,v)∉binds)->bindC kindOf binds m x=m x
 |[],_,_=>rfl
 | (n,v)::r,m,h=>by
  unfold bindC;rw[qO fun w hw=>h w (AK _ hw)]
  split
  .rfl
  .grind
theorem aT{kindOf}: ∀{P:List Str}{vs}{i:Nat}{m},P.Nodup->P[i]?=some x->vs[i]?=some v->kindOf x=some .local ->
  bindL kindOf (P.zip vs) m x=some v
 |[],_,_,_,_,h,_,_=>by simp at h
 |_::_,[],_,_,_,_,h,_=>by simp at h
 |p::P,w::vs,0,m,nd,h1,h2,hk=>by
  simp at h1 h2;subst h1;subst h2
  show bindL kindOf ((p,w)::P.zip vs) m p=_;unfold bindL;rw[eT fun v hv=>(BN.mp nd).1 (Ct hv).1,AW hk]
  simp
 |p::P,w::vs,i+1,m,nd,h1,h2,hk=>by
  unfold bindL;exact aT (BN.mp nd).2 (by simpa using h1) (by simp_all) hk
theorem zO{kindOf}: ∀{P:List Str}{vs}{i:Nat}{m},P.Nodup->P[i]?=some x->vs[i]?=some v->kindOf x≠some .local ->
  bindC kindOf (P.zip vs) m x=some v
 |[],_,_,_,_,h,_,_=>by simp at h
 |_::_,[],_,_,_,_,h,_=>by simp at h
 |p::P,w::vs,0,m,nd,h1,h2,hk=>by
  simp at h1 h2;subst h1;subst h2
  show bindC kindOf ((p,w)::P.zip vs) m p=_;unfold bindC;rw[qO fun v hv=>(BN.mp nd).1 (Ct hv).1,AX hk]
  simp
 |p::P,w::vs,i+1,m,nd,h1,h2,hk=>by
  unfold bindC;exact zO (BN.mp nd).2 (by simpa using h1) (by simp_all) hk
def start(N:List Str)(vs:List V):St:=vs.map some++List.replicate (N.length - vs.length) none
def QX(CX:CXT)(P:Program)(w:World)(K:Dl)(mg:Str->Option Value)(base:Heap)(N:List Str)(qual:Str)(scope:Scope)(f:Addr)(cd:Value)(A:Around)(outer:List Env)(s:Shared)(H:Hp)(E:XK):Cx where
 prog:=P
 w:=w
 K:=K
 mg:=mg
 base:=base
 A:=A.deeper (envOfC qual scope s.heap.objs.size f cd)
 N:=N
 s₀:=s
 H₀:=H
 env:=envOfC qual scope s.heap.objs.size f cd
 outer:=outer
 stack:=envOfC qual scope s.heap.objs.size f cd::outer
 ex:=[]
 calm:=true
 fn:=fun _=>true
 pn:=[]
 xe:=fun e s'=>wpAny (model P w) (A.deeper (envOfC qual scope s.heap.objs.size f cd)) (leaving (envOfC qual scope s.heap.objs.size f cd) e) (fun _ s''=>CX outer H s E e s'') (fun e' s''=>CX outer H s E e' s'') s'
def kC{sc:Scope}(h:sc.names.lookup x=some .cell):∃c,(cellsFrom n sc.names []).lookup x=some c :=Option.isSome_iff_exists.mp (PySem.W.cellsFrom_some sc.names n [] (.inl h))
def Ku{K}(S:FnScope N ps scope)(hd:A.handled=none)(e0:Env0 P w K mg base A outer s H)(hl:vs.length=ps.length)(r:Vals vs us)(x:InCallC s s.heap.objs.size (bindL (envOfC qual scope s.heap.objs.size f cd).kindOf (ps.zip us) fun _=>none) (cellsFrom (s.heap.objs.size+1) scope.names []) (bindC (envOfC qual scope s.heap.objs.size f cd).kindOf (ps.zip us) fun _=>none) s1):
  Inv (QX CX P w K mg base N qual scope f cd A outer s H E) [] (start N vs) H s1:=by
 have hpl:ps.length<=N.length:=by have:=Bg List.length S.pre;rw[Bj] at this;lia
 obtain⟨h1,tk,rfl,hk⟩:=x.done;have noA:∀b:Addr,b∉(QX CX P w K mg base N qual scope f cd A outer s H E).ex:=fun b z=>absurd (show b∈([]:List Addr) from z) (by simp)
 refine⟨⟨e0.mod,S.kind,rfl,rfl,AH _,fun y z c h1 h2=>?_,fun y hy=>?_,fun y c _ h=>?_,fun _=>hd,Around.frames_deeper e0.frames,.inr ⟨rfl,rfl⟩,fun b z=>absurd z (noA b),e0.bs,e0.bsz,fun b _ _=>noA b,fun b z=>absurd z (noA b),e0.funs,e0.frf⟩,
  rfl,e0.bare,Un.kept hk,⟨_,x.toInCall.ns,fun i y v h1 h2 h3=>?_⟩,fun y c h=>⟨_,x.cell y c h⟩,e0.hok.fresh (AH _),fun y c h=>?_,fun p hp=>absurd (show p∈([]:List (Addr×Obj)) from hp) (by simp),e0.hok.kept hk,?_⟩
 .exact name_of_addr x.apart (CQ h1) (CQ h2)
 .rcases hy with hy | hy
  .exact kC hy
  .exact absurd rfl (S.nofree _ (CQ hy))
 .exact Bh (x.above y c (CQ h))
 .have hi:i < vs.length:=by
   unfold start at h2
   by_cases hi:i < vs.length
   .exact hi
   .grind
  have ha:vs[i]?=some v:=by
   unfold start at h2;rw[Bo (by simp_all),Ao] at h2
   cases e:vs[i]? with
   |none=>rw[e] at h2;cases h2
   |some a=>rw[e] at h2;cases h2;rfl
  obtain⟨u,hu,rv⟩:=(r.get ha)
  have hp:ps[i]?=some y:=by
   rw[<- S.pre,List.getElem?_take_of_lt (by lia)];exact h1
  have ndP :=S.pre▸S.nd.sublist (List.take_sublist _ _);refine⟨u,rv,?_⟩
  rcases S.par y (Ah hp) with k | k
  .exact .inl ⟨k,aT ndP hp hu k⟩
  .obtain ⟨c,e⟩:=kC k
   refine .inr ⟨.inl k,c,e,?_⟩;have q:=x.cell y c e;rw[zO ndP hp hu (by show scope.names.lookup y≠_;rw[k];decide)] at q;exact q
 .exact e0.hok.fresh (Bh (x.above y c (CQ h)))
 .delta start
  show _=N.length;rw[AL,AB,Bm]
  lia
def fn_of{K}{kV doc pm cdv ct oc}(lk:K.lookup f=some ⟨oc,od,.func (PySem.W.fnOf name qual params body scope dV kV doc pm an cdv ct),osl⟩)(hcd:PySem.W.codeIn K cdv qual=true)(S:FnScope N ps scope)(len:∀vs H Q E,sp vs H Q E->vs.length=ps.length)(hbody:∀(A:Around)(outer:List Env)(s:Shared)(H:Hp)(vs:List V)(Q:VK)(E:XK),Room k (A.deeper (envOfC qual scope s.heap.objs.size f cdv))->sp vs H Q E ->
   ∃t,PSs (QX CX P w K mg base N qual scope f cdv A outer s H E) body t/\t { nx:=fun _ H'=>Q .non H',rt:=Q } (start N vs) H):
  FnOk P w K mg base CX (k+1) f (PySem.W.fnOf name qual params body scope dV kV doc pm an cdv ct) ps sp:=by
 refine⟨len,fun A outer s H args us vs Q E hr e0 hb r hsp=>?_⟩;have KX:=e0.mod.kin.keeps fun b o e=>(e0.bs b o e).1
 have hkind:∀y∈ps.zip us,scope.names.lookup y.1=some .local\/(scope.names.lookup y.1=some .cell/\((cellsFrom (s.heap.objs.size+1) scope.names []).lookup y.1).isSome=true):=fun⟨n,v⟩ hy=>by
  rcases S.par n (Ct hy).1 with q | q
  .exact .inl q
  .exact .inr ⟨q,PySem.W.cellsFrom_some _ _ _ (.inl q)⟩
 refine codeAny_call_function hr.depth (KX _ _ lk) rfl S.co S.gen rfl (PySem.W.codeRec_of KX hcd) (hb _ _ _ _ (wpAny_newFunctionEnv_cells S.kind hkind fun env he s1 x=>?_));subst he;refine⟨(e0.mod.nolimit.keeps fun b o e=>(e0.bs b o e).1).keeps x.toInCall.keep,codeAny_func (eQ (hbody A outer s H vs Q E (hr.deeper _) hsp) fun t ht hq=>BP (ht [] s1 (start N vs) H _ (Ku S hr.hd e0 (len _ _ _ _ hsp) r x) hq) (fun fl s' hs=>?_) fun e s' hs=>hs)⟩
 have fin:∀{σ':St}{H':Hp}{v:V}{u:Value},Inv (QX CX P w K mg base N qual scope f cdv A outer s H E) [] σ' H' s'->RelV v u->Q v H'->CE outer P w H s Q u s' :=
  fun {σ' H' v u}J rv q=>⟨v,H',J.os,J.bare,J.base,J.hok,rv,q⟩
 cases fl with
 |ret u =>
  exact fR hs fun v σ' H' J rv q=>fin J rv q
 |next =>
  exact wY hs fun σ' H' J q=>fin (v:=V.non) J rfl q
 |brk =>
  exact wY hs fun _ _ _ q=>False.elim q
 |cont =>
  exact wY hs fun _ _ _ q=>False.elim q
section
variable {X:Cx}{x:Str}{p pos:Pos}{e:Expr}{es:List Expr}{t:TA}{id T:String}{r:List V->Hp->VK->Prop}
def tCB(r:List V->Hp->VK->Prop)(t:TA):TE:=fun σ H Q=>t σ H fun vs H1=>r vs H1 Q
def V3(hc:CallR X (.builtin id) r)(hg:Gl X x)(hm:X.mg x=none)(hv:bootBuiltins x=some (.builtin id))(ha:PA X (e::es) t)(hn:x ≠ "__name__":=by decide)(hdb:(x==("__debug__" : Str))=false:=by decide)(he:starEach (e::es) X.env=(false,eval e X.env)::starEach es X.env:=by rfl)(hpl:(backTo pos (starEach es X.env)).any (·.1)=false:=by rfl):PE X (.Call (.Name x p) (e::es) [] pos) (tCB r t):=by
 intro pins s σ H Q I h;exact DC (vE I hg hm hv (PyProof.Rows.callWith_builtin1 (thn (ha pos pins s σ H _ I h) fun us s1 zz=>kZ zz fun vs H1 I1 r1 q1=> hc pins s1 σ H1 vs us Q I1 r1 q1) he hpl) hn hdb)
def J9(hc:CallR X (.type T) r)(hg:Gl X x)(hm:X.mg x=none)(hv:bootBuiltins x=some (.type T))(ha:PA X (e::es) t)(hn:x ≠ "__name__":=by decide)(hdb:(x==("__debug__" : Str))=false:=by decide)(he:starEach (e::es) X.env=(false,eval e X.env)::starEach es X.env:=by rfl)(hpl:(backTo pos (starEach es X.env)).any (·.1)=false:=by rfl):PE X (.Call (.Name x p) (e::es) [] pos) (tCB r t):=by
 intro pins s σ H Q I h;exact DC (vE I hg hm hv (PyProof.Rows.callWith_type1 (thn (ha pos pins s σ H _ I h) fun us s1 zz=>kZ zz fun vs H1 I1 r1 q1=> hc pins s1 σ H1 vs us Q I1 r1 q1) he hpl) hn hdb)
end
end L2
namespace HT
open PySem PyProof.Rows
section
variable {prog:Program}{w:World}{A:Around}{E:Value->Shared->Prop}{s:Shared}
def cat_tup(ht:IsTup s.heap t vs.toArray)(hb:IsTup s.heap b ws.toArray)(hv:vs≠[])(h1:ws=[]->Q (.ref t) s)(h2:ws≠[]->Q (.ref s.heap.objs.size) { s with heap:=s.heap.push { cls:=.type "tuple",data:=.seq (vs++ws).toArray } })(hsz:vs.length+ws.length<=sizeLine):wpAny (model prog w) A (binaryOp .Add (.ref t) (.ref b)) Q E s:=by
 obtain⟨⟨cls,dd,data,sl⟩,ho,hc,n,hd⟩:=id ht;obtain⟨⟨cls2,dd2,data2,sl2⟩,ho2,hc2,n2,hd2⟩:=id hb;subst hc hd hc2 hd2;have e:vs.toArray++ws.toArray=(vs++ws).toArray:=by simp
 by_cases hw:ws=[]
 .exact concat_meets ⟨_,ho,rfl⟩ ⟨_,ho2,rfl⟩ noFill_tuple_add seq_tuple_add DT DP (DO _ _)
   (tuple_addW1 t b vs.toArray ws.toArray n n2 dd dd2 sl sl2 (by grind) (by simp[hw])) ⟨ho,ho2,h1 hw⟩
 .refine concat_meets ⟨_,ho,rfl⟩ ⟨_,ho2,rfl⟩ noFill_tuple_add seq_tuple_add DT DP (DO _ _)
   (tuple_addW2 t b vs.toArray ws.toArray n n2 dd dd2 sl sl2 (by simpa using hv) (by grind) (by grind)) ⟨ho,ho2,?_⟩
  exact e▸h2 hw
def sIx(n d:Nat):Option Int->Nat
 |none=>d
 |some v=>if v < 0 then (v+(n:Int)).toNat else min v.toNat n
def sIx_none n d:sIx n d none=d:=rfl
def sIx_nat(n d k:Nat):sIx n d (some k )=min k n:=by
 show(if (k:Int) < 0 then ((k:Int)+(n:Int)).toNat else min (k:Int).toNat n)=min k n;rw[AX (by lia),Ci]
def Ju v(n d:Nat):(if v < 0 then max (v+(n:Int)) 0 else min v n )=((sIx n d (some v):Nat):Int):=by
 show(if v < 0 then max (v+(n:Int)) 0 else min v (n:Int))=(((if v < 0 then (v+(n:Int)).toNat else min v.toNat n):Nat):Int)
 by_cases hv:v < 0
 .lia
 .grind
def Zz lo hi(n:Nat):Builtin.Slice.sliceAdjust lo hi 1 n=(( sIx n 0 lo:Int),( sIx n n hi:Int)):=by
 refine Prod.ext ?_ ?_
 .cases lo with
  |none=>rfl
  |some v=>exact Ju v n 0
 .cases hi with
  |none=>rfl
  |some v=>exact Ju v n n
def XG(i j:Nat):Builtin.Slice.slicePlaces i j 1=j - i :=by grind[Builtin.Slice.slicePlaces]
def lH(p:IsPart v o)(h:Q o s):wpAny (model prog w) A (Builtin.Slice.slicePartIndex v) Q E s:=by
 cases p with
 |none=>exact slicePart_none h
 |int i t=>exact slicePart_int h
def qG{lo}{Q:Int×Int×Nat->Shared->Prop}(hs:s.heap.IsSliceOf sl vl vu .none)(pl:IsPart vl lo)(pu:IsPart vu hi)(h:Q (( sIx n 0 lo:Int),1,sIx n n hi - sIx n 0 lo) s):wpAny (model prog w) A (Builtin.Slice.sliceApplied (.ref sl) (pure n )) Q E s:=by
 refine aJ (id hs) fun os hos hcs hds=>AA (AA (As hos hds rfl (AA (As hos hds rfl (AA (As hos hds rfl (AC (AA (slicePart_none (AA (lH pl (AA (lH pu (AA (AC ?_)))))))))))))));show wpAny _ _ (match Builtin.Slice.sliceAdjust lo hi 1 (n:Int) with | (lo,hi)=>pure (lo,(1:Int),Builtin.Slice.slicePlaces lo hi 1)) _ _ s
 rw[Zz lo hi n];show wpAny _ _ (pure (((sIx n 0 lo:Nat):Int),(1:Int),Builtin.Slice.slicePlaces ((sIx n 0 lo:Nat):Int) ((sIx n n hi:Nat):Int) 1)) _ _ s;rw[XG];exact AC h
def VU(xs:Array Value)(i k:Nat):((List.range k).filterMap fun(m:Nat)=>xs[( i+(m:Int) * 1).toNat]?).toArray=((xs.toList.drop i).take k).toArray:=by
 have e:(fun(m:Nat)=>xs[((i:Int)+(m:Int) * 1).toNat]?)=fun m=>xs[i+m]? :=by grind
 rw[e];have:=pick_run xs i k;rw[List.filterMap_map] at this;have e2:((fun x=>xs[x]?) ∘ fun x=>i+x)=fun m=>xs[i+m]?:=rfl;rw[e2] at this;rw[this]
def getItem_tuple_cut{lo}(ht:IsTup s.heap t items)(hs:s.heap.IsSliceOf sl vl vu .none)(pl:IsPart vl lo)(pu:IsPart vu hi)(hw:¬ (sIx items.size 0 lo=0/\sIx items.size items.size hi=items.size))(h:Q (.ref s.heap.objs.size) { s with heap:=s.heap.push { cls:=.type "tuple",data:=.seq ((items.toList.drop (sIx items.size 0 lo)).take (sIx items.size items.size hi - sIx items.size 0 lo)).toArray } })(hsz:items.size<=sizeLine):wpAny (model prog w) A (getItem (.ref t) (.ref sl)) Q E s:=by
 have htake:sizeOk (.seq ((items.toList.drop (sIx items.size 0 lo)).take (sIx items.size items.size hi - sIx items.size 0 lo)).toArray):=by
  show((items.toList.drop (sIx items.size 0 lo)).take (sIx items.size items.size hi - sIx items.size 0 lo)).toArray.size<=sizeLine;rw[Au,Bj,Bx,A2];omega
 obtain⟨os,hos,hcs,hds⟩:=(id hs)
 delta getItem
 try with_reducible refine Aw ?_
 first | refine AA (AC ?_) | skip
 refine AA (wpAny_sequenceKey ht.typeIs rfl (AA (BB ht.typeIs BF
  (Ap BF ht.typeIs entry_tuple_getitem ?_ (args_tuple_getitem _ _)))))
 show wpAny _ _ (Builtin.Tuple.tupleItemsOf (.ref t) >>= _) _ _ s;refine AA (tupleItemsOf_ ht (AA (Cf (⟨os,hos,hcs⟩) (AA (qG hs pl pu ?_)))));have hno:¬ ((((sIx items.size 0 lo:Nat):Int)==0&&(1:Int)==1&&(sIx items.size items.size hi - sIx items.size 0 lo)==items.size)=true) :=by lia
 show wpAny _ _ (if (((sIx items.size 0 lo:Nat):Int)==0&&(1:Int)==1&&(sIx items.size items.size hi - sIx items.size 0 lo)==items.size)=true then _ else _) _ _ s;rw[AX hno,VU]
 first
  |exact AA (Ay (AC ⟨_,rfl,AC h⟩) htake)
  |exact AA (Ay (AA (AC (AC ⟨_,rfl,AC h⟩))) htake)
  |exact AA (AA (Ay (AC (AC ⟨_,rfl,AC h⟩)) htake))
  |exact AA (AA (Ay (AC ⟨_,rfl,AC h⟩) htake))
end
end HT
namespace L2
open PySem PySem.Spec PyProof.Rows
abbrev TO:=St->Hp->(Option Int->Hp->Prop)->Prop
def PO(X:Cx)(e:Option Expr)(t:TO):Prop :=
 ∀(pins:List (Addr×Obj))(s:Shared)(σ:St)(H:Hp)(Q:Option Int->Hp->Prop),Inv X pins σ H s->t σ H Q ->
  wpAny (model X.prog X.w) X.A (evalPart e X.env) (fun u s'=>∃o H',Inv X pins σ H' s'/\IsPart u o/\Q o H') X.xe s
def tNoPart:TO:=fun _ H Q=>Q none H
def tPart(t:TE):TO:=fun σ H Q=>t σ H fun x H1=>∃i,x=.int i/\Q (some i) H1
section
variable {X:Cx}{e:Expr}{te:TE}{lo hi:Option Expr}{tl th:TO}{pos p2:Pos}
def po_none:PO X none tNoPart:=by
 intro pins s σ H Q I h;exact AC ⟨none,H,I,.none,h⟩
def po_some(h:PE X e te):PO X (some e) (tPart te):=by
 intro pins s σ H Q I hw;refine thn (h pins s σ H _ I hw) fun u s1 zz=>kZ zz fun x H1 I1 r1 q1=> ?_;obtain⟨i,rfl,q⟩:=q1;obtain⟨t,rfl⟩:=r1;exact⟨some i,H1,I1,.int i t,q⟩
def SlR(X:Cx)(r:V->Option Int->Option Int->Hp->VK->Prop):Prop :=
 ∀(pins:List (Addr×Obj))(s:Shared)(σ:St)(H:Hp)(x:V)(v vl vu:Value)(lo hi:Option Int)(sl:Addr)(Q:VK),Inv X pins σ H s->RelV x v->s.heap.IsSliceOf sl vl vu .none->IsPart vl lo->IsPart vu hi->r x lo hi H Q ->
  ∃T id,typeLookup (.type T) "__getitem__" = pure (some (.builtin id))/\s.TypeIs v T/\wpAny (model X.prog X.w) X.A (getItem v (.ref sl)) (EP X pins σ Q) X.xe s
def tSl(r:V->Option Int->Option Int->Hp->VK->Prop)(te:TE)(tl th:TO):TE:=fun σ H Q=>te σ H fun x H1=>tl σ H1 fun l H2=>th σ H2 fun u H3=>r x l u H3 Q
def Qb(hr:SlR X r)(he:PE X e te)(hl:PO X lo tl)(hu:PO X hi th):PE X (.Subscript e (.Slice lo hi none p2) pos) (tSl r te tl th):=by
 intro pins s σ H Q I h;refine Subscript_ (thn (he pins s σ H _ I h) fun v s1 zz=>kZ zz fun x H1 I1 r1 q1=> wpAny_Slice (thn (hl pins s1 σ H1 _ I1 q1) fun vl s2 zz=>kZ zz fun l H2 I2 pl q2=> thn (hu pins s2 σ H2 _ I2 q2) fun vu s3 zz=>kZ zz fun u H3 I3 pu q3=> ?_))
 apply AC
 have I4:Inv X pins σ H3 { s3 with heap:=s3.heap.push { cls:=.type "slice",data:=.fields #[vl,vu,.none] } }:=I3.kept (t':=s3.toks) fun b ob q=>AD _ q;exact kZ (hr pins { s3 with heap:=s3.heap.push { cls:=.type "slice",data:=.fields #[vl,vu,.none] } } σ H3 x v vl vu l u s3.heap.objs.size Q I4 r1 (Heap.IsSliceOf.new ..) pl pu q3) fun T id hT ht hg=>tail_any ht hT hg (by with_unfolding_all rfl)
def QZ(xs:List V)(lo hi:Option Int):List V:=(xs.drop (HT.sIx xs.length 0 lo)).take (HT.sIx xs.length xs.length hi - HT.sIx xs.length 0 lo)
def aL xs lo hi:(QZ xs lo hi).length<=xs.length:=by
 delta QZ
 rw[Bj,Bx]
 lia
def rSlT(K:Dl):V->Option Int->Option Int->Hp->VK->Prop:=fun x lo hi H Q=>∃a xs,x=.ref a/\SqT K H a xs /\
 ¬ (HT.sIx xs.length 0 lo=0/\HT.sIx xs.length xs.length hi=xs.length)/\∀p,H p=none->Q (.ref p) (upd H p (.tup (QZ xs lo hi)))
def sl_tup:SlR X (rSlT X.K):=by
 intro pins s σ H x v vl vu lo hi sl Q I rx hs pl pu h;obtain⟨a,xs,rfl,hx,hw,q⟩:=h;cases rx;obtain⟨its,r,ht,hz⟩:=(I.tuple hx);have hlen :=Au▸r.length.symm;refine⟨"tuple",_,BF.lookup,ht.typeIs,HT.getItem_tuple_cut ht hs pl pu (by rwa [hlen]) ?_ (by rwa [hlen])⟩;rw[hlen];refine⟨.ref s.heap.objs.size,_,I.laid (t':=s.toks) (fun b ob q=>AD _ q) (AH _) ?_,rfl,q _ (I.hok.fresh (AH _))⟩
 exact⟨Aa (aL xs lo hi) hz,_,(r.drop (HT.sIx xs.length 0 lo)).take (HT.sIx xs.length xs.length hi - HT.sIx xs.length 0 lo),IsTupN.new _ _⟩
def rCatT(K:Dl):R2:=fun x y H Q=>∃a b xs ys,x=.ref a/\y=.ref b/\SqT K H a xs/\SqT K H b ys/\xs≠[]/\xs.length+ys.length<=sizeLine /\
 (ys=[]->Q (.ref a) H)/\(ys≠[]->∀p,H p=none->Q (.ref p) (upd H p (.tup (xs++ys))))
def Vals.nil_iff(r:Vals xs us):us=[]↔xs=[]:=by
 cases r with
 |nil=>simp
 |cons _ _=>simp
def op_catT:OpR X (binaryOp .Add) (rCatT X.K):=by
 intro pins s σ H x y v u Q I rx ry h;obtain⟨a,b,xs,ys,rfl,rfl,ha,hb,hx,hz,q1,q2⟩:=h;cases rx;cases ry;refine aJ (I.tuple ha) fun its r1 p1 _=>aJ (I.tuple hb) fun its2 r2 p2 _=>HT.cat_tup p1 p2 (fun z=>hx (r1.nil_iff.mp z)) (fun z=>⟨.ref a,H,I,rfl,q1 (r2.nil_iff.mp z)⟩) (fun z=>?_) (by rwa [<- r1.length,<- r2.length]);refine⟨.ref s.heap.objs.size,_,I.laid (t':=s.toks) (fun b ob q=>AD _ q) (AH _) ?_,rfl,q2 (fun w=>z (r2.nil_iff.mpr w)) _ (I.hok.fresh (AH _))⟩
 exact⟨by exact AL▸hz,_,r1.append r2,IsTupN.new _ _⟩
end
def ixN(n:Nat)(i:Int):Option Nat:=if 0<=i then (if i < n then some i.toNat else none) else if -(n:Int)<=i then some (i+n).toNat else none
def atI{α:Type}(xs:List α)(i:Int):Option α:=(ixN xs.length i).bind fun j=>xs[j]?
def Jb(h:ixN n i=some j):seqIndex? i n=some j/\j < n/\- n<=i/\i < n :=by grind[ixN,seqIndex_of,seqIndex_neg,lia,Option.some.inj]
def rA(h:atI xs i=some v):∃j,seqIndex? i xs.length=some j/\xs[j]?=some v/\j < xs.length/\-(xs.length:Int)<=i/\i < xs.length:=by
 delta atI at h
 cases e:ixN xs.length i with
 |none=>rw[e] at h;cases h
 |some j =>
  rw[e] at h;exact QQ (Jb e) fun h1 h2 h3 h4=>⟨j,h1,h,h2,h3,h4⟩
def oA(b:Expr):Prop:=∀o i,subscripted b false o i=operate [o,i] (getItem o i)
def IxR(X:Cx)(r:R2):Prop :=
 ∀(value slice:Expr)(pins:List (Addr×Obj))(s:Shared)(σ:St)(H:Hp)(x y:V)(v u:Value)(Q:VK),Inv X pins σ H s->RelV x v->RelV y u->r x y H Q ->
  subscripted slice false v u=operate [v,u] (getItem v u)->wpAny (model X.prog X.w) X.A (subscriptTail value slice v u) (EP X pins σ Q) X.xe s
def MtR(X:Cx)(id:String)(r:V->List V->Hp->VK->Prop):Prop :=
 ∀(pins:List (Addr×Obj))(s:Shared)(σ:St)(H:Hp)(x:V)(xs:List V)(v:Value)(us:List Value)(Q:VK),Inv X pins σ H s->RelV x v->Vals xs us->r x xs H Q ->
  wpAny (model X.prog X.w) X.A (call (.builtin id) (v::us)) (EP X pins σ Q) X.xe s
section
variable {X:Cx}{a b:Expr}{ta tb:TE}{pos:Pos}
def IxR.or(h:IxR X r)(h':IxR X r'):IxR X (fun x y H Q=>r x y H Q\/r' x y H Q):=by
 intro value slice pins s σ H x y v u Q I rx ry q hs
 rcases q with q | q
 .exact h value slice pins s σ H x y v u Q I rx ry q hs
 .exact h' value slice pins s σ H x y v u Q I rx ry q hs
def pe_ix(hr:IxR X r)(ha:PE X a ta)(hb:PE X b tb)(hs:oA b):PE X (.Subscript a b pos) (tOp r ta tb):=by
 intro pins s σ H Q I h;exact Subscript_ (binT ha hb I h fun v u s2 x y H2 I2 rx ry q=>hr a b pins s2 σ H2 x y v u Q I2 rx ry q (hs _ _))
inductive IIx(S:Hp->Addr->List V->Prop)(x y:V)(H:Hp)(Q:VK):Prop
 |mk(p:Addr)(xs:List V)(i:Int)(v:V)(h:x=.ref p)(h':y=.int i)(s:S H p xs)(a:atI xs i=some v)(q:Q v H):IIx S x y H Q
def rIxL(K:Dl):R2:=IIx (SqL K)
def rIxT(K:Dl):R2:=IIx (SqT K)
def rIxS:R2:=fun x y H Q=>∃z i c,x=.str z/\y=.int i/\z.length<=sizeLine/\atI z.cps.toList i=some c/\Q (.str ⟨#[c]⟩) H
def ix_list:IxR X (rIxL X.K):=by
 intro value slice pins s σ H x y v u Q I rx ry h hs;obtain⟨p,xs,i,z,rfl,rfl,hq,he,q⟩:=h;cases rx;obtain⟨t,rfl⟩:=ry;refine aJ (I.list hq) fun its r pl hz=>QO (rA he) fun j h1 h2 h3 h4 h5=>eQ (r.get h2) fun w ew rw'=>?_;have hl:=r.length;have hn:=tU;have fin:EP X pins σ Q w s:=⟨z,H,I,rw',q⟩
 by_cases h0:0<=i
 .have hj:i.toNat=j:=by
   rw[seqIndex_of h0 h5] at h1;exact BC h1
  exact item_listR pl.isList h0 (by lia) (by simp_all) fin hs
 .have hj:(i+(its.toArray.size:Int)).toNat=j:=by
   rw[seqIndex_neg (by lia) h4] at h1;exact Au▸hl▸BC h1
  exact subscriptTail_builtinR pl.isList.typeIs slot_list_getitem.lookup
   (wpAny_getItem_list_neg pl.isList (by lia) (by simp_all) (by lia) (by rw[hj];simpa using ew) ⟨rfl,fin⟩) hs
def ix_tup:IxR X (rIxT X.K):=by
 intro value slice pins s σ H x y v u Q I rx ry h hs;obtain⟨p,xs,i,z,rfl,rfl,hq,he,q⟩:=h;cases rx;obtain⟨t,rfl⟩:=ry;refine aJ (I.tuple hq) fun its r pl hz=>QO (rA he) fun j h1 h2 h3 h4 h5=>eQ (r.get h2) fun w ew rw'=>?_;have hn:=tU
 exact subscriptTail_builtinR pl.typeIs slot_tuple_getitem.lookup
  (getItem_tuple pl (by lia) (by lia) (by rwa [Au,<- r.length]) (by simp_all) ⟨rfl,(⟨z,H,I,rw',q⟩)⟩) hs
def ix_str:IxR X rIxS:=by
 intro value slice pins s σ H x y v u Q I rx ry h hs;obtain⟨z,i,c,rfl,rfl,hz,he,q⟩:=h;obtain⟨t,rfl⟩:=rx;obtain⟨t',rfl⟩:=ry;refine QO (rA he) fun j h1 h2 h3 h4 h5=>?_;have hl:z.cps.toList.length=z.length:=by simp[Str.length]
 have hn:=tU;exact tail_any (typeIs_str s z t) slot_str_getitem.lookup (getItem_str (by lia) (by grind) ⟨.str ⟨#[c]⟩,H,I.tok _,⟨_,rfl⟩,q⟩) hs
def rIx(K:Dl):R2:=fun x y H Q=>rIxL K x y H Q\/rIxT K x y H Q\/rIxS x y H Q
def ix_seq:IxR X (rIx X.K):=ix_list.or (ix_tup.or ix_str)
def XX(its:List Value)n j u:Obj.mapSeq (·.setIfInBounds j u) { cls:=.type "list",data:=.seq its.toArray n }={ cls:=.type "list",data:=.seq (its.set j u).toArray n }:=by
 simp[Obj.mapSeq]
def Inv.lst{pins:List (Addr×Obj)}{σ:St}{H:Hp}{s:Shared}{p:Addr}{xs:List V}(I:Inv X pins σ H s)(h:H p=some (.lst xs)):
  ∃(its:List Value)(n:Nat),Vals xs its/\s.heap.get? p=some { cls:=.type "list",data:=.seq its.toArray n }/\xs.length<=sizeLine:=by
 obtain⟨z,its,n,r,e⟩:=I.hok p _ h;exact⟨its,n,r,e,z⟩
def Inv.lstUpd{σ:St}{its:List Value}(I:Inv X pins σ H s)(h:H p=some (.lst xs))(ho:s.heap.get? p=some { cls:=.type "list",data:=.seq its.toArray n })(hf:f { cls:=.type "list",data:=.seq its.toArray n }={ cls:=.type "list",data:=.seq its'.toArray n' })(r:Vals ys its')(hz:ys.length<=sizeLine)t:
  Inv X pins σ (upd H p (.lst ys)) { s with heap:=s.heap.update p f,toks:=t }:=by
 have e:(s.heap.update p f).get? p=some { cls:=.type "list",data:=.seq its'.toArray n' }:=by
  rw[A7 f ho (by rw[hf]<;>rfl),hf]
 refine I.write (by rw[h];trivial) (.inl rfl) (fun b u hb q=>(BK _ _ (Ne.symm hb)).trans q) ⟨_,e⟩ ?_;exact⟨hz,its',n',r,e⟩
def rSetL:V->V->V->Hp->(Hp->Prop)->Prop:=fun o i v H Q=>∃p xs k j,o=.ref p/\i=.int k/\H p=some (.lst xs)/\ixN xs.length k=some j/\Q (upd H p (.lst (xs.set j v)))
def Vs:PSet X rSetL:=by
 intro pins s σ H o i v ov iv u Q I ro ri rv h;obtain⟨p,xs,k,j,rfl,rfl,hp,hj,q⟩:=h;cases ro;obtain⟨t,rfl⟩:=ri;refine kZ (I.lst hp) fun its n r ho hz=>QQ (Jb hj) fun h1 h2 h3 h4=>?_;have hl:=r.length;have hn:=tU
 have I' :=
  I.lstUpd hp ho (XX its n j u) (r.set rv j) (by grind) s.toks
 by_cases h0:0<=k
 .have hk:k.toNat=j:=by
   rw[seqIndex_of h0 h4] at h1;exact BC h1
  exact PySem.W.ki_setAt ho h0 (by lia) (by simp_all) (hk▸⟨_,I',q⟩)
 .have hk:(k+(its.toArray.size:Int)).toNat=j:=by
   rw[seqIndex_neg (by lia) h3] at h1;exact Au▸hl▸BC h1
  exact PySem.W.ki_setBack ho (by lia) (by rwa [Au,<- hl]) (by lia) (hk▸⟨_,I',q⟩)
def uO lo hi n:(sliceBounds lo hi none n).1=((HT.sIx n 0 lo:Nat):Int)/\(sliceBounds lo hi none n).2.1=((HT.sIx n n hi:Nat):Int)/\(sliceBounds lo hi none n).2.2=1:=by
 refine⟨?_,?_,rfl⟩
 .cases lo with
  |none=>simp[sliceBounds,HT.sIx]
  |some i =>
   simp only[sliceBounds,HT.sIx,Option.getD_none,show(1:Int) > 0 by decide,if_true]
   by_cases h:i < 0
   .simp only[h,if_true]<;>lia
   .simp only[h,if_false]<;>lia
 .cases hi with
  |none=>simp[sliceBounds,HT.sIx]
  |some i =>
   simp only[sliceBounds,HT.sIx,Option.getD_none,show(1:Int) > 0 by decide,if_true]
   by_cases h:i < 0
   .simp only[h,if_true]<;>lia
   .simp only[h,if_false]<;>lia
def wR(its:List Value)lo hi:slicePick its.toArray lo hi none=((its.drop (HT.sIx its.length 0 lo)).take (HT.sIx its.length its.length hi - HT.sIx its.length 0 lo)).toArray:=by
 obtain⟨h1,h2,h3⟩:=(uO lo hi its.toArray.size)
 delta slicePick
 rw[h1,h2,h3]
 simp only[sliceRange_one,pick_run]<;>rfl
def rSlL(K:Dl):V->Option Int->Option Int->Hp->VK->Prop:=fun x lo hi H Q=>∃a xs,x=.ref a/\SqL K H a xs/\∀p,H p=none->Q (.ref p) (upd H p (.lst (QZ xs lo hi)))
def sl_list:SlR X (rSlL X.K):=by
 intro pins s σ H x v vl vu lo hi sl Q I rx hs pl pu h;obtain⟨a,xs,rfl,hx,q⟩:=h;cases rx;obtain⟨its,r,ht,hz⟩:=(I.list hx);have hlen:=r.length;refine⟨"list",_,slot_list_getitem.lookup,ht.isList.typeIs,wpAny_getItem_list_slice ht.isList hs pl pu .none (by simp) ?_ (by grind)⟩;rw[wR,<- hlen];refine⟨.ref s.heap.objs.size,_,I.laid (t':=s.toks) (fun b ob q=>AD _ q) (AH _) ?_,rfl,q _ (I.hok.fresh (AH _))⟩
 exact⟨Aa (aL xs lo hi) hz,_,0,(r.drop (HT.sIx xs.length 0 lo)).take (HT.sIx xs.length xs.length hi - HT.sIx xs.length 0 lo),AM _ rfl⟩
def bM:V->Bool
 |.non=>true
 |.bl _=>true
 |.int _=>true
 |.str _=>true
 |_=>false
def eqV:V->V->Bool
 |.non,.non=>true
 |.bl a,.bl b=>a==b
 |.bl a,.int b=>(if a then 1 else 0)==b
 |.int a,.bl b=>a==(if b then 1 else 0)
 |.int a,.int b=>a==b
 |.str a,.str b=>a==b
 |_,_=>false
def oN(ry:RelV y u)(rx:RelV x v)(fy:bM y=true)(fx:bM x=true):SeqAt.EqAt A s u v (eqV y x):=by
 cases y with
 |non =>
  cases ry
  cases x with
  |non=>cases rx;exact SeqAt.EqAt.same _
  |bl b=>cases rx;exact SeqAt.EqAt.none_bool b
  |int b=>obtain⟨t,rfl⟩:=rx;exact SeqAt.EqAt.none_int b t
  |str b=>obtain⟨t,rfl⟩:=rx;exact SeqAt.EqAt.none_str b t
  |_=>exact absurd fx AN
 |bl a =>
  cases ry
  cases x with
  |non=>cases rx;exact SeqAt.EqAt.bool_none a
  |bl b=>cases rx;exact SeqAt.EqAt.bool_bool a b
  |int b=>obtain⟨t,rfl⟩:=rx;exact SeqAt.EqAt.bool_int a b t
  |str b=>obtain⟨t,rfl⟩:=rx;exact SeqAt.EqAt.bool_str a b t
  |_=>exact absurd fx AN
 |int a =>
  obtain⟨t',rfl⟩:=ry
  cases x with
  |non=>cases rx;exact SeqAt.EqAt.int_none a t'
  |bl b=>cases rx;exact SeqAt.EqAt.int_bool a t' b
  |int b=>obtain⟨t,rfl⟩:=rx;exact SeqAt.EqAt.int_int a t' b t
  |str b=>obtain⟨t,rfl⟩:=rx;exact SeqAt.EqAt.int_str a t' b t
  |_=>exact absurd fx AN
 |str a =>
  obtain⟨t',rfl⟩:=ry
  cases x with
  |non=>cases rx;exact SeqAt.EqAt.str_none a t'
  |bl b=>cases rx;exact SeqAt.EqAt.str_bool a t' b
  |int b=>obtain⟨t,rfl⟩:=rx;exact SeqAt.EqAt.str_int a t' b t
  |str b=>obtain⟨t,rfl⟩:=rx;exact SeqAt.EqAt.str_str a t' b t
  |_=>exact absurd fx AN
 |_=>exact absurd fy AN
def eqU(x:V)(u:Value):Bool:=match u with
 |.none=>eqV .non x
 |.bool b=>eqV (.bl b) x
 |.int i _=>eqV (.int i) x
 |.str z _=>eqV (.str z) x
 |_=>false
def W7(r:RelV y u)(f:bM y=true):eqU x u=eqV y x:=by
 cases y with
 |non=>cases r;rfl
 |bl b=>cases r;rfl
 |int i=>obtain⟨t,rfl⟩:=r;rfl
 |str z=>obtain⟨t,rfl⟩:=r;rfl
 |_=>exact absurd f AN
theorem mD: ∀{xs}{us},Vals xs us->xs.all bM=true->us.any (eqU x)=xs.any fun y=>eqV y x
 |_,_,.nil,_=>rfl
 |y::xs,u::us,.cons r t,f=>by
  rw[Cq,BL] at f;rw[BJ,BJ,W7 r f.1,mD t f.2]
theorem oU(rx:RelV x v)(fx:bM x=true):∀{xs}{us},Vals xs us->xs.all bM=true->∀u∈us,SeqAt.EqAt A s u v (eqU x u)
 |_,_,.nil,_=>fun u hu=>by cases hu
 |y::xs,u::us,.cons r t,f=>fun u' hu=>by
  rw[Cq,BL] at f
  rcases Af.mp hu with rfl | hu
  .exact (W7 r f.1)▸oN r rx f.1 fx
  .exact oU rx fx t f.2 u' hu
def inV(x:V)(xs:List V):Bool:=xs.any fun y=>eqV y x
def rIn(K:Dl)(neg:Bool):R2:=fun x y H Q=>∃p xs,y=.ref p/\(SqL K H p xs\/SqT K H p xs)/\bM x=true/\xs.all bM=true/\Q (.bl (if neg then !inV x xs else inV x xs)) H
def bB:OpR X (compareOp .In) (rIn X.K false):=by
 intro pins s σ H x y v u Q I rx ry h;obtain⟨p,xs,rfl,hq,fx,fs,q⟩:=h;cases ry
 rcases hq with hq | hq
 .obtain ⟨its,r,pl,hz⟩:=I.list hq
  refine SeqAt.in_listAt (eqU x) pl.isList (fun w hw=>oU rx fx r fs w (by grind)) ⟨.bl _,H,I,rfl,?_⟩;rw[show its.toArray.any (eqU x)=its.any (eqU x) by simp,mD r fs];exact q
 .obtain ⟨its,r,pl,hz⟩:=I.tuple hq
  refine SeqAt.in_tupleAt (eqU x) pl (fun w hw=>oU rx fx r fs w (by simpa using hw)) ⟨.bl _,H,I,rfl,?_⟩;rw[show its.toArray.any (eqU x)=its.any (eqU x) by simp,mD r fs];exact q
def rO:OpR X (compareOp .NotIn) (rIn X.K true):=by
 intro pins s σ H x y v u Q I rx ry h;obtain⟨p,xs,rfl,hq,fx,fs,q⟩:=h;cases ry
 rcases hq with hq | hq
 .obtain ⟨its,r,pl,hz⟩:=I.list hq
  refine SeqAt.notIn_listAt (eqU x) pl.isList (fun w hw=>oU rx fx r fs w (by grind)) ⟨.bl _,H,I,rfl,?_⟩;rw[show its.toArray.any (eqU x)=its.any (eqU x) by simp,mD r fs];exact q
 .obtain ⟨its,r,pl,hz⟩:=I.tuple hq
  refine SeqAt.notIn_tupleAt (eqU x) pl (fun w hw=>oU rx fx r fs w (by simpa using hw)) ⟨.bl _,H,I,rfl,?_⟩;rw[show its.toArray.any (eqU x)=its.any (eqU x) by simp,mD r fs];exact q
def wA:CallR X (.builtin "len") (fun xs H Q=>∃p ys,xs=[.ref p]/\(SqL X.K H p ys\/SqT X.K H p ys)/\Q (.int ys.length) H):=by
 intro pins s σ H xs us Q I r h;obtain⟨p,ys,rfl,hq,q⟩:=h;obtain⟨u,rfl,rfl⟩:=zF r;have hn:=tU
 rcases hq with hq | hq
 .obtain ⟨its,r',pl,hz⟩:=I.list hq
  have hlen:=r'.length;exact Calls.call_len_list pl.isList (by grind) ⟨.int ys.length,H,I.tok _,⟨s.toks+1,by rw[Au,hlen]⟩,q⟩
 .obtain ⟨its,r',pl,hz⟩:=I.tuple hq
  have hlen:=r'.length;exact len_tuple pl (by simp only[List.size_toArray]<;>lia) ⟨.int ys.length,H,I.tok _,⟨s.toks+1,by rw[Au,hlen]⟩,q⟩
def vA:CallR X (.builtin "len") (fun xs H Q=>∃z,xs=[.str z]/\z.length<=sizeLine/\Q (.int z.length) H):=by
 intro pins s σ H xs us Q I r h;obtain⟨z,rfl,hz,q⟩:=h;obtain⟨u,rfl,t,rfl⟩:=zF r;have hn:=tU;exact len_str (by lia) ⟨.int z.length,H,I.tok _,⟨_,rfl⟩,q⟩
def CallR.or(h:CallR X f r)(h':CallR X f r'):CallR X f (fun xs H Q=>r xs H Q\/r' xs H Q):=by
 intro pins s σ H xs us Q I rs q
 rcases q with q | q
 .exact h pins s σ H xs us Q I rs q
 .exact h' pins s σ H xs us Q I rs q
def pR:CallR X (.type "tuple") (fun xs H Q=>∃p ys,xs=[.ref p]/\((SqL X.K H p ys/\∀l,H l=none->Q (.ref l) (upd H l (.tup ys)))\/(SqT X.K H p ys/\Q (.ref p) H))):=by
 intro pins s σ H xs us Q I r h;obtain⟨p,ys,rfl,h⟩:=h;obtain⟨u,rfl,rfl⟩:=zF r
 rcases h with ⟨hq,q⟩ | ⟨hq,q⟩
 .obtain ⟨its,r',pl,hz⟩:=(I.list hq)
  have hlen:=r'.length;refine call_tuple_list pl.isList (fun h' kp=>?_) (by grind);have I1:=I.kept (t':=s.toks) kp
  have I2 :=
   I1.laid (t':=s.toks) (fun b o e=>AD _ e) (AH _) (show ObjOk X.prog X.w _ _ _ (.tup ys) from⟨hz,its,r',IsTupN.new _ _⟩)
  exact⟨.ref h'.objs.size,_,I2,rfl,q _ (I1.hok.fresh (AH _))⟩
 .exact aJ (I.tuple hq) fun its r' pl hz=>call_tuple_same pl ⟨.ref p,H,I,rfl,q⟩
def tyV(K:Dl)(T:String)(x:V)(H:Hp):Prop:=match x with
 |.str _=>T = "str"
 |.int _=>T = "int"
 |.ref p=>(T = "list"/\∃xs,SqL K H p xs)\/(T = "tuple"/\∃o,K.lookup p=some o/\o.cls=.type "tuple"/\o.dict=none) \/
   (T = "dict"/\((∃kvs,H p=some (.dK kvs))\/∃kvs,H p=some (.dT kvs)))\/(T = "set"/\∃S n,H p=some (.set S n))
 |_=>False
def Vf{σ:St}(I:Inv X pins σ H s)(r:RelV x v)(ty:tyV X.K T x H):
  s.TypeIs v T/\∀a,v=.ref a->∃ob,s.heap.get? a=some ob/\ob.dict=none:=by
 cases x with
 |str z =>
  obtain⟨t,rfl⟩:=r;cases ty;exact⟨typeIs_str s z t,fun _ e=>nomatch e⟩
 |int i =>
  obtain⟨t,rfl⟩:=r;cases ty;exact⟨typeIs_int s i t,fun _ e=>nomatch e⟩
 |ref p =>
  cases r
  rcases ty with ⟨rfl,xs,hq⟩ | ⟨rfl,o,hk,hc,hd⟩ | ⟨rfl,hk⟩ | ⟨rfl,S,n,hk⟩
  .refine aJ (I.list hq) fun its _ pl _=>⟨pl.isList.typeIs,fun a e=>?_⟩
   cases e;exact QN pl fun o n e c hd _=>⟨o,e,hd⟩
  .refine ⟨⟨o,I.kIn p o hk,hc⟩,fun a e=>?_⟩
   cases e;exact⟨o,I.kIn _ o hk,hd⟩
  .have z:∃o,s.heap.get? p=some o/\o.ExactDict:=by
    rcases hk with ⟨kvs,hk⟩ | ⟨kvs,hk⟩
    .obtain ⟨_,_,_,_,o,_,_,e,ex,_⟩:=I.hok p _ hk
     exact⟨o,e,ex⟩
    .obtain ⟨_,_,_,_,o,_,_,e,ex,_⟩:=I.hok p _ hk
     exact⟨o,e,ex⟩
   obtain⟨o,e,ex⟩:=z;refine⟨⟨o,e,ex.1⟩,fun a e2=>?_⟩;cases e2;exact⟨o,e,ex.2.1⟩
  .refine el43 (I.hok p _ hk) fun o _ _ _ e ex _=>⟨⟨o,e,ex.1⟩,fun a e2=>?_⟩
   cases e2;exact⟨o,e,ex.2.1⟩
 |_=>exact False.elim ty
def tBM0(K:Dl)(T:String)(r:V->List V->Hp->VK->Prop)(to:TE):TE:=fun σ H Q=>to σ H fun x H1=>tyV K T x H1/\r x [] H1 Q
def tBM(K:Dl)(T:String)(r:V->List V->Hp->VK->Prop)(to:TE)(t:TA):TE:=fun σ H Q=>to σ H fun x H1=>tyV K T x H1/\t σ H1 fun xs H2=>r x xs H2 Q
variable {o e:Expr}{es:List Expr}{to:TE}{t:TA}{name:Str}{apos cpos:Pos}{T id:String}{r:V->List V->Hp->VK->Prop}
def V4(pa:PlainAttrs T)(slot:Slot T name id)(hty:typeOf (.builtin id)=pure (.type "method_descriptor"))(hm:MtR X id r)(ho:PE X o to)(hbase:attributeBase o name X.env (eval o X.env)=eval o X.env:=by rfl)(hline:(apos.endLine==cpos.line)=true:=by rfl):PE X (.Call (.Attribute o name apos) [] [] cpos) (tBM0 X.K T r to):=by
 intro pins s σ H Q I h;refine wpAny_Call_method0_late hbase hline (thn (ho pins s σ H _ I h) fun v s1 zq=>QN zq fun x H1 I1 r1 ty q1=>?_);obtain⟨h1,h2⟩:=Vf I1 r1 ty;exact⟨T,id,pa,slot,hty,h1,h2,Ck rfl (PySem.evalArgs_none (hm pins s1 σ H1 x [] v [] Q I1 r1 .nil q1))⟩
def pe_bm(pa:PlainAttrs T)(slot:Slot T name id)(hty:typeOf (.builtin id)=pure (.type "method_descriptor"))(hm:MtR X id r)(ho:PE X o to)(ha:PA X (e::es) t)(hbase:attributeBase o name X.env (eval o X.env)=eval o X.env:=by rfl)(hfew:((backTo cpos (starEach (e::es) X.env)).all (fun x=>!x.1)&&(backToKw cpos (keywordEach [] X.env)).all (fun x=>x.1.isSome)
   && decide ((e::es).length+([]:List Keyword).length+(if ([]:List Keyword).isEmpty then 0 else 1) < 30))=true:=by rfl)(hline:(apos.endLine==cpos.line)=true:=by rfl)(hs:starEach (e::es) X.env=(false,eval e X.env)::starEach es X.env:=by rfl)(hplain:(backTo cpos (starEach es X.env)).any (·.1)=false:=by rfl):
  PE X (.Call (.Attribute o name apos) (e::es) [] cpos) (tBM X.K T r to t):=by
 intro pins s σ H Q I h;refine wpAny_Call_method_late hbase hfew hline rfl (thn (ho pins s σ H _ I h) fun v s1 zq=>QN zq fun x H1 I1 r1 ty q1=>?_);obtain⟨h1,h2⟩:=Vf I1 r1 ty;refine⟨T,id,pa,slot,hty,h1,h2,?_⟩;have hA:=ha cpos pins s1 σ H1 _ I1 q1;rw[hs] at hA ⊢;exact Ck (by grind) (Dk (thn hA fun us s2 zz=>kZ zz fun vs H2 I2 r2 q2=> hm pins s2 σ H2 x vs v us Q I2 r1 r2 q2))
end
def MtM(X:Cx)(id:String)(r:V->List V->Hp->VK->Prop):Prop :=
 ∀(pins:List (Addr×Obj))(s:Shared)(σ:St)(H:Hp)(x:V)(xs:List V)(v:Value)(us:List Value)(Q:VK),Inv X pins σ H s->RelV x v->Vals xs us->r x xs H Q ->
  wpAny (model X.prog X.w) X.A (call (.builtin id) (v::us)) (EP X pins σ Q) X.xe s
def Vals.one(h:Vals [x] us):∃u,us=[u]/\RelV x u:=by
 cases h with
 |cons r h =>
  cases h;exact⟨_,rfl,r⟩
def Vals.two(h:Vals [x,y] us):∃u v,us=[u,v]/\RelV x u/\RelV y v:=by
 cases h with
 |cons r h =>
  obtain⟨v,rfl,q⟩:=Vals.one h;exact⟨_,v,rfl,r,q⟩
theorem Vals.zero:∀{us},Vals [] us->us=[]
 |_,.nil=>rfl
def Vals.dropLast(h:Vals xs us):Vals xs.dropLast us.dropLast:=by
 induction h with
 |nil=>exact .nil
 |cons r t ih =>
  cases t with
  |nil=>exact .nil
  |cons q t'=>exact .cons r ih
def Vals.reverse(h:Vals xs us):Vals xs.reverse us.reverse:=by
 induction h with
 |nil=>exact .nil
 |cons r t ih=>rw[DL,DL];exact Vals.append ih (.cons r .nil)
section
variable {X:Cx}{pins:List (Addr×Obj)}{σ:St}{H:Hp}{s:Shared}{l b:Addr}{xs ys zs:List V}
def Inv.lset{its:List Value}(I:Inv X pins σ H s)(hH:H l=some (.lst xs))(e:s.heap.get? l=some { cls:=.type "list",data:=.seq its.toArray n })(hf:f its.toArray=its'.toArray)(hv:Vals ys its')(hz:ys.length<=sizeLine):
  Inv X pins σ (upd H l (.lst ys)) { s with heap:=s.heap.update l (Obj.mapSeq f),toks:=t' }:=by
 have q:=PySem.IsL.update e f;rw[hf] at q;refine I.write (hH▸trivial) (.inl rfl) (fun b' u hb hu=>(BK s.heap (Obj.mapSeq f) (Ne.symm hb)).trans hu) ⟨_,q⟩ ?_;exact⟨hz,its',_,hv,q⟩
def Inv.lnew(I:Inv X pins σ H s)(hv:Vals ys its)(hz:ys.length<=sizeLine):
  Inv X pins σ (upd H s.heap.objs.size (.lst ys)) { s with heap:=s.heap.push { cls:=.type "list",data:=.seq its.toArray },toks:=t' } :=
 I.laid (fun _ _ q=>AD _ q) (AH _) ⟨hz,its,0,hv,AM _ rfl⟩
def Inv.fresh(I:Inv X pins σ H s):H s.heap.objs.size=none:=I.hok.fresh (AH _)
def Inv.lstM(I:Inv X pins σ H s)(hH:H l=some (.lst xs)):xs.length<=sizeLine/\∃its n,Vals xs its/\xs.length=its.length/\s.heap.get? l=some { cls:=.type "list",data:=.seq its.toArray n }:=by
 obtain⟨z,its,n,r,e⟩:=I.hok l _ hH;exact⟨z,its,n,r,r.length,e⟩
def Wo(h:n<=sizeLine):Builtin.List.listTooLong n=false :=AQ (by lia)
end
section
variable {X:Cx}
def ZX:V->List V->Hp->VK->Prop:=fun x vs H Q=>∃l xs y,x=.ref l/\vs=[y]/\H l=some (.lst xs)/\xs.length < sizeLine/\Q .non (upd H l (.lst (xs++[y])))
def dS:MtM X "list.append" ZX:=by
 intro pins s σ H x vs v us Q I rx rv h;obtain⟨l,xs,y,rfl,rfl,hH,hz,q⟩:=h;cases rx;obtain⟨u,rfl,ru⟩:=rv.one;obtain⟨z,its,n,r,hl,e⟩:=I.lstM hH;refine Ce F.slot_list_append ⟨_,e,rfl⟩ F.entry_list_append (F.args_list_append_2 _ _) (PySem.list_append l its.toArray n u (by grind)) ⟨e,⟨.non,_,I.lset (its':=its++[u]) hH e (by simp) (r.append (.cons ru .nil)) ?_,rfl,q⟩⟩;rw[AL,AZ]
 lia
def ZW:V->List V->Hp->VK->Prop:=fun x vs H Q=>∃l b xs zs,x=.ref l/\vs=[.ref b]/\H l=some (.lst xs)/\H b=some (.lst zs)/\xs.length+zs.length<=sizeLine/\Q .non (upd H l (.lst (xs++zs)))
def Kl:MtM X "list.extend" ZW:=by
 intro pins s σ H x vs v us Q I rx rv h;obtain⟨l,b,xs,zs,rfl,rfl,hH,hB,hz,q⟩:=h;cases rx;obtain⟨u,rfl,rfl⟩:=rv.one;obtain⟨z,its,n,r,hl,e⟩:=I.lstM hH;obtain⟨z2,its2,n2,r2,hl2,e2⟩:=I.lstM hB;have hsz:its.toArray.size+its2.toArray.size<=sizeLine :=by simp;lia
 have hlong:¬ (!its.toArray.isEmpty&&Builtin.List.listTooLong (its.toArray.size+its2.toArray.size))=true:=by
  rw[Wo hsz,Bool.and_false];exact AN
 refine Ce F.slot_list_extend ⟨_,e,rfl⟩ F.entry_list_extend (F.args_list_extend_2 _ _)
  (AutoSeq1.list_extend_list_list_0 l its.toArray n b its2.toArray n2 hlong (by lia) (by lia)) ⟨e,e2,?_⟩
 refine⟨.non,_,I.lset (its':=its++its2) hH e (by simp) (r.append r2) ?_,rfl,q⟩;rw[AL]
 lia
def rPop:V->List V->Hp->VK->Prop:=fun x vs H Q=>∃l xs y,x=.ref l/\vs=[]/\H l=some (.lst xs)/\xs[xs.length - 1]?=some y/\Q y (upd H l (.lst xs.dropLast))
def mt_pop:MtM X "list.pop" rPop:=by
 intro pins s σ H x vs v us Q I rx rv h;obtain⟨l,xs,y,rfl,rfl,hH,hy,q⟩:=h;cases rx;have hus:=rv.zero;subst hus;obtain⟨z,its,n,r,hl,e⟩:=I.lstM hH;obtain⟨u,hu,ru⟩:=(r.get hy);have hy':its.toArray[its.toArray.size - 1]?=some u :=by grind
 refine Ce F.slot_list_pop ⟨_,e,rfl⟩ F.entry_list_pop (F.args_list_pop_1 _) (MeetsSeq.list_pop_last l its.toArray n u hy' (by grind)) ⟨e,⟨y,_,I.lset (its':=its.dropLast) hH e ?_ r.dropLast ?_,ru,q⟩⟩
 .grind
 .grind
def eI:V->List V->Hp->VK->Prop:=fun x vs H Q=>∃l xs,x=.ref l/\vs=[]/\H l=some (.lst xs)/\Q .non (upd H l (.lst xs.reverse))
def XU:MtM X "list.reverse" eI:=by
 intro pins s σ H x vs v us Q I rx rv h;obtain⟨l,xs,rfl,rfl,hH,q⟩:=h;cases rx;have hus:=rv.zero;subst hus;obtain⟨z,its,n,r,hl,e⟩:=I.lstM hH;refine Ce F.slot_list_reverse ⟨_,e,rfl⟩ F.entry_list_reverse (F.args_list_reverse_1 _) (AutoSeq1.list_reverse_list_0 l its.toArray n (by grind)) ⟨e,⟨.non,_,I.lset (its':=its.reverse) hH e (by simp) r.reverse ?_,rfl,q⟩⟩;rw[List.length_reverse];omega
def rCat:R2:=fun x y H Q=>∃l b xs zs,x=.ref l/\y=.ref b/\H l=some (.lst xs)/\H b=some (.lst zs)/\xs.length+zs.length<=sizeLine/\∀p,H p=none->Q (.ref p) (upd H p (.lst (xs++zs)))
def op_cat:OpR X (binaryOp .Add) rCat:=by
 intro pins s σ H x y v u Q I rx ry h;obtain⟨l,b,xs,zs,rfl,rfl,hH,hB,hz,q⟩:=h;cases rx;cases ry;obtain⟨z,its,n,r,hl,e⟩:=I.lstM hH;obtain⟨z2,its2,n2,r2,hl2,e2⟩:=I.lstM hB;refine PySem.P.add_list e e2 ?_ (by grind);have ea:its.toArray++its2.toArray=(its++its2).toArray:=by simp
 exact ea▸⟨.ref _,_,I.lnew (t':=s.toks) (r.append r2) (by grind),rfl,q _ I.fresh⟩
end
section
variable {κ:Type}[DecidableEq κ]
def nY(kvs:List (κ×V))(k:κ):Option V:=(kvs.find? fun kv=>decide (kv.1=k)).map (·.2)
def tV(kvs:List (κ×V))(k:κ)(v:V):List (κ×V) :=
 if (kvs.any fun kv=>decide (kv.1=k))=true then kvs.map (fun kv=>if kv.1=k then (kv.1,v) else kv) else kvs++[(k,v)]
def eL(kvs:List (κ×V))(k:κ):List (κ×V):=kvs.filter fun kv=>decide (kv.1≠k)
theorem bH{k:κ}(e:p.1=k):nY (p::r) k=some p.2 :=by simp_all[nY]
def mH{k:κ}(e:¬ p.1=k):nY (p::r) k=nY r k :=by simp_all[nY]
theorem xI k:∀kvs:List (κ×V),(kvs.any fun kv=>decide (kv.1=k))=(nY kvs k).isSome
 |[]=>rfl
 |p::r=>by
  rw[BJ]
  by_cases e:p.1=k
  .simp only[bH e,decide_eq_true e,Bool.true_or,Option.isSome_some]
  .rw [mH e,AQ e];exact xI k r
def bY kvs(k:κ)v:(tV kvs k v).length<=kvs.length+1 :=by grind[tV,List.length_map,List.length_append,List.length_cons,List.length_nil]
def RelO.isSome_eq(r:RelO o u):o.isSome=u.isSome:=by
 cases o with
 |none=>cases u with
  |none=>rfl
  |some _=>exact r.elim
 |some _=>cases u with
  |none=>exact r.elim
  |some _=>rfl
def RelO.getD(r:RelO o u)(rd:RelV d d'):RelV (o.getD d) (u.getD d'):=by
 cases o with
 |none=>cases u with
  |none=>exact rd
  |some _=>exact r.elim
 |some _=>cases u with
  |none=>exact r.elim
  |some _=>exact r
def KV.val(r:KV kvs vs)(k:κ):RelO (nY kvs k) (valueAt vs k):=by
 induction r with
 |nil=>exact True.intro
 |@cons p q ps qs h t ih =>
  obtain⟨h1,h2⟩:=h
  by_cases e:p.1=k
  .have e':=h1.symm.trans e
   have b:valueAt (q::qs) k=some q.2:=by simp[valueAt,List.find?_cons,e']
   rwa [bH e,b]
  .have e':¬ q.1=k:=fun z=>e (h1.trans z)
   have b:valueAt (q::qs) k=valueAt qs k:=by simp[valueAt,List.find?_cons,e']
   rwa [mH e,b]
def KV.any(r:KV kvs vs)(k:κ):(kvs.any fun kv=>decide (kv.1=k))=vs.any fun kv=>decide (kv.1=k):=by
 induction r with
 |nil=>rfl
 |cons h t ih=>rw[BJ,BJ,ih,h.1]
def KV.repl(r:KV kvs vs)(k:κ)(ry:RelV y u):
  KV (kvs.map fun kv=>if kv.1=k then (kv.1,y) else kv) (vs.map fun kv=>if kv.1=k then (kv.1,u) else kv):=by
 induction r with
 |nil=>exact .nil
 |@cons p q ps qs h t ih =>
  refine .cons ?_ ih;obtain⟨h1,h2⟩:=h
  by_cases e:p.1=k
  .lia
  .lia
theorem KV.put(r:KV kvs vs)(k:κ)(ry:RelV y u):KV (tV kvs k y) (stored vs k u):=by
 delta tV stored
 rw[r.any k]
 by_cases e:(vs.any fun kv=>decide (kv.1=k))=true
 .rw [AW e,AW e];exact r.repl k ry
 .rw [AX e,AX e];exact Paired.snoc r ⟨rfl,ry⟩
def KV.length{vs:List (κ×Value)}(r:KV kvs vs):kvs.length=vs.length:=Paired.length r
def Yc kvs(k:κ):(eL kvs k).length<=kvs.length:=List.length_filter_le _ _
end
def dN(r:RelV (kV k) u):(cX P w).is k u=true:=by
 rcases k with (_ | i) | x
 .cases r;exact zE P w
 .obtain ⟨t,rfl⟩:=r;exact Qp P w i t
 .obtain ⟨t,rfl⟩:=r;exact Qo P w x t
theorem oS: ∀{ks}{us},Vals (ks.map kV) us->ItemsAre (cX P w) ks us
 |[],_,r=>by cases r;exact .nil
 |k::ks,_,r=>by
  cases r with
  |cons h t=>exact .cons (dN h) (oS t)
abbrev KT(H:Hp):List (List Key×V)->List (List Key×Addr×Value)->Prop:=Paired fun p q=>p.1=q.1/\H q.2.1=some (.tup (p.1.map kV))/\RelV p.2 q.2.2
def KT.val(r:KT H kvs xs)k:RelO (nY kvs k) ((atKey xs k).map (·.2)):=by
 induction r with
 |nil=>exact True.intro
 |@cons p q ps qs h t ih =>
  obtain⟨h1,_,h2⟩:=h
  by_cases e:p.1=k
  .have e':=h1.symm.trans e
   have b:atKey (q::qs) k=some q.2:=by simp[atKey,List.find?_cons,e']
   rwa [bH e,b]
  .have e':¬ q.1=k:=fun z=>e (h1.trans z)
   have b:atKey (q::qs) k=atKey qs k:=by simp[atKey,List.find?_cons,e']
   rwa [mH e,b]
def KT.repl(r:KT H kvs xs)k(ry:RelV y u):
  KT H (kvs.map fun kv=>if kv.1=k then (kv.1,y) else kv) (xs.map (putAt k u)):=by
 induction r with
 |nil=>exact .nil
 |@cons p q ps qs h t ih =>
  refine .cons (QR h fun h1 h2 h3=>?_) ih
  delta putAt
  by_cases e:p.1=k
  .lia
  .lia
theorem KT.put(r:KT H kvs xs)k(hb:H b=some (.tup (k.map kV)))(ry:RelV y u):
  KT H (tV kvs k y) (storedH xs k b u):=by
 have e:(kvs.any fun kv=>decide (kv.1=k))=(atKey xs k).isSome:=by
  rw[xI,(r.val k).isSome_eq,Option.isSome_map]
 delta tV storedH
 rw[e]
 by_cases q:(atKey xs k).isSome=true
 .rw [AW q,AW q];exact r.repl k ry
 .rw [AX q,AX q];exact Paired.snoc r ⟨rfl,hb,ry⟩
def KT.keeps(r:KT H kvs xs)(ht:∀b ys,H b=some (.tup ys)->H' b=some (.tup ys)):KT H' kvs xs :=
 Paired.mapP r fun _ _ z=>⟨z.1,ht _ _ z.2.1,z.2.2⟩
section
variable {P:Program}{w:World}{H:Hp}{h:Heap}{a:Addr}
def rd_of(ok:HOk P w H h)(e:Rd H a u):ObjOk P w H h a u:=e.ok ok
def uT(ok:HOk P w H h)(e:Rd H a (.dK kvs)):kvs.length<=sizeLine/\(a==sysModules)=false/\∃vs,KV kvs vs/\h.DictOf (cX P w) a vs :=
 show ObjOk P w H h a (.dK kvs) from rd_of ok e
def Jk(ok:HOk P w H h)(e:H a=some (.dK kvs)):kvs.length<=sizeLine/\(a==sysModules)=false/\∃vs,KV kvs vs/\h.DictOf (cX P w) a vs:=uT ok (.inl e)
def tY(ok:HOk P w H h)(e:H a=some (.tup (ks.map kV))):(tupleKind (cX P w)).is h ks a:=by
 obtain⟨_,its,r,o,h1,h2,⟨n,h3⟩,_⟩:=(ok a _ e);exact⟨o,its.toArray,n,h1,h2,h3,by simpa using oS r⟩
def QS(ok:HOk P w H h)(e:Rd H a (.dT kvs)):kvs.length<=sizeLine/\(a==sysModules)=false /\
  ∃xs,KT H kvs xs/\h.DictOfH (tupleKind (cX P w)) a xs:=by
 obtain⟨z,y,xs,r,o,es,ep,h1,h2,h3,h4,h5⟩:=(rd_of ok e);refine⟨z,y,xs,r,o,es,ep,h1,h2,h3,h4,fun x hx=>?_,h5⟩
 have all:∀{l:List (List Key×V)}{m:List (List Key×Addr×Value)},KT H l m->∀x∈m,(tupleKind (cX P w)).is h x.1 x.2.1:=by
  intro l m q
  induction q with
  |nil=>intro x hx;exact nomatch hx
  |@cons p q ps qs hq t ih =>
   intro x hx
   rcases Af.mp hx with e | hx
   .subst e
    exact tY ok (hq.1▸hq.2.1)
   .exact ih x hx
 exact all r x hx
def Jj(ok:HOk P w H h)(e:H a=some (.dT kvs)):kvs.length<=sizeLine/\(a==sysModules)=false /\
  ∃xs,KT H kvs xs/\h.DictOfH (tupleKind (cX P w)) a xs:=QS ok (.inl e)
end
def DGet(H:Hp)(a:Addr)(y:V)(r:Option V):Prop :=
 (∃kvs k,Rd H a (.dK kvs)/\y=kV k/\r=nY kvs k)\/∃kvs k b,Rd H a (.dT kvs)/\y=.ref b/\H b=some (.tup (k.map kV))/\r=nY kvs k
def DPut(H:Hp)(a:Addr)(y v:V)(H':Hp):Prop :=
 (∃kvs k,H a=some (.dK kvs)/\y=kV k/\kvs.length < sizeLine/\H'=upd H a (.dK (tV kvs k v))) \/
 ∃kvs k b,H a=some (.dT kvs)/\y=.ref b/\H b=some (.tup (k.map kV))/\kvs.length < sizeLine/\H'=upd H a (.dT (tV kvs k v))
theorem DGet.t{k}(e:H a=some (.dT kvs))(eb:H b=some (.tup (k.map kV))):DGet H a (.ref b) (nY kvs k):=.inr ⟨kvs,k,b,.inl e,rfl,eb,rfl⟩
theorem DPut.k{k}(e:H a=some (.dK kvs))(hl:kvs.length < sizeLine):DPut H a (kV k) v (upd H a (.dK (tV kvs k v))):=.inl ⟨kvs,k,e,rfl,hl,rfl⟩
theorem DPut.t{k}(e:H a=some (.dT kvs))(eb:H b=some (.tup (k.map kV)))(hl:kvs.length < sizeLine):
  DPut H a (.ref b) v (upd H a (.dT (tV kvs k v))):=.inr ⟨kvs,k,b,e,rfl,eb,hl,rfl⟩
section
variable {X:Cx}{pins:List (Addr×Obj)}{σ:St}{H:Hp}{s:Shared}{a:Addr}{y v:V}{u r:Value}{o:Option V}{A:Around}{E:Value->Shared->Prop}
def Inv.big(I:Inv X pins σ H s):sysModules < s.heap.objs.size :=Nat.lt_trans (by decide) ((I.mod.glob.keeps I.bk).lt)
def KC(hu:A.units+1 < cLine)(I:Inv X pins σ H s)(g:DGet H a y (some v))(ry:RelV y u)(h:∀w' s',Inv X pins σ H s'->RelV v w'->Q w' s'):
  wpAny (model X.prog X.w) A (getItem (.ref a) u) Q E s:=by
 rcases g with ⟨kvs,k,e,ey,l⟩ | ⟨kvs,k,b,e,ey,eb,l⟩
 .subst ey
  obtain⟨z,hd,vs,rel,dd⟩:=uT I.hok e;exact eQ (RelO.some_of (l▸rel.val k)) fun w' hw rw'=>wpAny_getItem_of (dN ry) dd.mapOf hw (h w' _ (I.tok _) rw')
 .subst ey
  cases ry;obtain⟨z,hd,xs,rel,dd⟩:=QS I.hok e;refine eQ (RelO.some_of (l▸rel.val k)) fun w' hw rw'=>eQ (Option.map_eq_some_iff.mp hw) fun p hp hp2=>?_;exact wpAny_getItem_heap (DD hu) (tY I.hok eb) dd hp (hp2▸h w' _ (I.tok _) rw')
def lP(I:Inv X pins σ H s)(mu:Mut (H a))(hs:Heap.SameBut a s.heap h')(he:∃q,h'.get? a=some q)(new:ObjOk X.prog X.w (upd H a ob) h' a ob):
  Inv X pins σ (upd H a ob) { s with heap:=h',toks:=t' } :=
 I.write mu (.inl rfl) (fun b q hb z=>(hs.2 b hb).trans z) he new
def Yd(z:kvs.length<=sizeLine)(hd:(a==sysModules)=false)(rel:KV kvs vs)(dd:h'.DictOf (cX P w) a vs):
  ObjOk P w H' h' a (.dK kvs):=⟨z,hd,vs,rel,dd⟩
def KB(hu:A.units+1 < cLine)(I:Inv X pins σ H s)(g:DPut H a y v H')(ry:RelV y u)(rv:RelV v r)(h:∀s',Inv X pins σ H' s'->Q () s'):
  wpAny (model X.prog X.w) A (setItem (.ref a) u r) Q E s:=by
 rcases g with ⟨kvs,k,e,ey,l,eH⟩ | ⟨kvs,k,b,e,ey,eb,l,eH⟩
 .subst ey eH
  obtain⟨z,hd,vs,rel,dd⟩:=Jk I.hok e;have hz:vs.length<=sizeLine:=by rwa [<- rel.length]
  have hl:(tV kvs k v).length<=sizeLine:=by have:=bY kvs k v;lia
  refine wpAny_setItem_pairs (dN ry) dd fun h' dd' hs=>h _ ?_;have he:∃q,h'.get? a=some q:=let ⟨q,_,_,hq,_⟩:=dd';⟨q,hq⟩
  exact lP I (e▸True.intro) hs he (Yd hl hd (rel.put k rv) dd')
 .subst ey eH
  cases ry;obtain⟨z,hd,xs,rel,dd⟩:=Jj I.hok e;have hz:xs.length<=sizeLine:=by rwa [<- Paired.length rel]
  have hl:(tV kvs k v).length<=sizeLine:=by have:=bY kvs k v;lia
  refine wpAny_setItem_heap (DD hu) (tY I.hok eb) dd fun h' dd' hs=>h _ (Kz dd' fun q es ep hq h2 h3 h4 _ h5=>lP I (e▸True.intro) hs ⟨q,hq⟩ ⟨hl,hd,_,(rel.put k eb rv).keeps fun c ys ec=>?_,q,es,ep,hq,h2,h3,h4,h5⟩);rw[mQ (ne_of ec e (fun z=>nomatch z))];exact ec
end
section
variable {X:Cx}{pins:List (Addr×Obj)}{σ:St}{H:Hp}{s:Shared}{a:Addr}{kvs:List (Key×V)}{k:Key}{u:Value}{A:Around}{E:Value->Shared->Prop}
def d_len(I:Inv X pins σ H s)(e:Rd H a (.dK kvs))(h:∀t s',Inv X pins σ H s'->Q (.int kvs.length t) s'):wpAny (model X.prog X.w) A (call (.builtin "len") [.ref a]) Q E s:=by
 obtain⟨z,hd,vs,rel,dd⟩:=uT I.hok e
 apply call_len_dict hd dd (by rw[<- rel.length];rw[B9] at z;lia)
 exact rel.length▸h _ _ (I.tok _)
end
def YI(i:Expr):Prop:=∀ov iv,subscripted i false ov iv=operate [ov,iv] (getItem ov iv)
def subD_of{id}(hl:typeLookup (.type T) "__getitem__" = pure (some (.builtin id)))(hs:YI slice)(h:wpAny (model prog w) A (eval value env) (fun o s₁=>wpAny (model prog w) A (eval slice env) (fun i s₂=>s₂.TypeIs o T/\wpAny (model prog w) A (getItem o i) Q E s₂) E s₁) E s):
  wpAny (model prog w) A (eval (.Subscript value slice pos) env) Q E s:=by
 refine Subscript_ (BP h (fun o s₁ h₁=>BP h₁ (fun i s₂ h₂=>?_) fun _ _ x=>x) fun _ _ x=>x);obtain⟨hT,h₂⟩:=h₂
 apply AA
 refine AA (Bc hT hl ?_);have fin:wpAny (model prog w) A (subscripted slice false o i) (fun r s₃=>wpAny (model prog w) A (letTemporaryGo value o r >>= fun _=>pure r) Q E s₃) E s₂ :=(hs o i)▸wpAny_operating (BP h₂ (fun r s₃ h₃=>AA (wpAny_letTemporaryGo (AC h₃))) fun _ _ x=>x)
 first
  |exact AC (AA fin)
  |exact AA (AC (AA fin))
  |exact AA fin
def QW{σ:St}(I:Inv X pins σ H s)(g:DGet H a y o):s.TypeIs (.ref a) "dict":=by
 rcases g with ⟨kvs,k,e,_,_⟩ | ⟨kvs,k,b,e,_,_,_⟩
 .obtain ⟨_,_,vs,_,dd⟩:=uT I.hok e
  exact dd.typeIs
 .obtain ⟨_,_,xs,_,dd⟩:=QS I.hok e
  exact dd.typeIs
def tDGet(td ty:TE):TE:=fun σ H Q=>td σ H fun x H1=>ty σ H1 fun y H2=>∃a v,x=.ref a/\DGet H2 a y (some v)/\Q v H2
def sDPut(td ty tv:TE):TS:=fun D σ H=>tv σ H fun v H1=>td σ H1 fun x H2=>ty σ H2 fun y H3=>∃a H4,x=.ref a/\DPut H3 a y v H4/\D.nx σ H4
section
variable {X:Cx}{o i e value:Expr}{pos pos' tpos:Pos}{td ty tv:TE}
def fO(hu:X.A.units+1 < cLine)(ho:PE X o td)(hi:PE X i ty)(hs:YI i):PE X (.Subscript o i pos) (tDGet td ty):=by
 intro pins s σ H Q I h;refine subD_of PySem.F.slot_dict_getitem.lookup hs (thn (ho pins s σ H _ I h) fun u s1 zz=>kZ zz fun x H1 I1 rx q1=> thn (hi pins s1 σ H1 _ I1 q1) fun iv s2 zq=>?_);obtain⟨y,H2,I2,ry,a,v,rfl,g,q2⟩:=zq;obtain rfl:u=Value.ref a:=rx;exact⟨QW I2 g,KC hu I2 g ry fun w' s3 I3 rw'=>⟨v,H2,I3,rw',q2⟩⟩
def ZZ(hu:X.A.units+1 < cLine)(ho:PE X o td)(hi:PE X i ty)(hv:PE X value tv)(hs:swapsWith value (some (.Subscript o i pos')) pos.line X.env=pure false):
  PS X (.Assign [.Subscript o i pos'] value pos) (sDPut td ty tv):=by
 intro pins s σ H D I h;refine wpAny_Assign_Subscript (thn (hv pins s σ H _ I h) fun r s1 zz=>kZ zz fun v H1 I1 rv q1=> thn (ho pins s1 σ H1 _ I1 q1) fun u s2 zz=>kZ zz fun x H2 I2 rx q2=> thn (hi pins s2 σ H2 _ I2 q2) fun iv s3 zq=>?_) hs;obtain⟨y,H3,I3,ry,a,H4,rfl,g,q3⟩:=zq;obtain rfl:u=Value.ref a:=rx;exact KB hu I3 g ry rv fun s4 I4=>⟨σ,H4,I4,q3⟩
end
def QV(h:Heap)(hb:sysModules < h.objs.size):ObjOk P w H (h.push { cls:=.type "dict",data:=.dict #[] }) h.objs.size (.dK []) :=
 ⟨Ae _,beq_eq_false_iff_ne.mpr (Ne.symm (Ad hb)),[],.nil,Heap.DictOf.new h⟩
def QT(h:Heap)(hb:sysModules < h.objs.size):ObjOk P w H (h.push { cls:=.type "dict",data:=.dict #[] }) h.objs.size (.dT []) :=
 ⟨Ae _,beq_eq_false_iff_ne.mpr (Ne.symm (Ad hb)),[],.nil,_,#[],0,AM _ rfl,⟨rfl,rfl,rfl⟩,rfl,rfl,DF⟩
def tDNewK:TE:=fun _ H Q=>∀p,H p=none->Q (.ref p) (upd H p (.dK []))
def tDNewT:TE:=fun _ H Q=>∀p,H p=none->Q (.ref p) (upd H p (.dT []))
section
variable {X:Cx}{pos:Pos}
def V0:PE X (.Dict [] [] pos) tDNewK:=fun pins s σ H Q I h=>
 wpAny_Dict_empty ⟨.ref s.heap.objs.size,_,I.laid (t':=s.toks) (fun _ _ q=>AD _ q) (AH _) (QV s.heap I.big),rfl,h _ (I.hok.fresh (AH _))⟩
def VZ:PE X (.Dict [] [] pos) tDNewT:=fun pins s σ H Q I h=>
 wpAny_Dict_empty ⟨.ref s.heap.objs.size,_,I.laid (t':=s.toks) (fun _ _ q=>AD _ q) (AH _) (QT s.heap I.big),rfl,h _ (I.hok.fresh (AH _))⟩
end
def wO:List (TE×TE)->St->Hp->(List (V×V)->Hp->Prop)->Prop
 |[],_,H,Q=>Q [] H
 | (tk,tv)::r,σ,H,Q=>tk σ H fun x H1=>tv σ H1 fun y H2=>wO r σ H2 fun ps H3=>Q ((x,y)::ps) H3
abbrev VV:List (V×V)->List (Value×Value)->Prop:=Paired fun p q=>RelV p.1 q.1/\RelV p.2 q.2
def PPs(X:Cx)(pos:Pos)(keys:List (Option Expr))(values:List Expr)(trs:List (TE×TE)):Prop :=
 ∀(pins:List (Addr×Obj))(s:Shared)(σ:St)(H:Hp)(Q:List (V×V)->Hp->Prop),Inv X pins σ H s->wO trs σ H Q ->
  wpAny (model X.prog X.w) X.A (evalPairs (pairTrees keys values X.env pos)) (fun vs s'=>∃ps H',Inv X pins σ H' s'/\VV ps vs/\Q ps H') X.xe s
def pps_nil: PPs X pos [] [] []:=fun pins s σ H Q I h=>pairTrees_nil_walk ⟨[],H,I,.nil,h⟩
def VQ(hk:PE X k tk)(hv:PE X v tv)(hr:PPs X pos ks vs trs):
  PPs X pos (some k::ks) (v::vs) ((tk,tv)::trs):=fun pins s σ H Q I h=>
 pairTrees_cons_walk (thn (hk pins s σ H _ I h) fun u s1 zz=>kZ zz fun x H1 I1 rx q1=> thn (hv pins s1 σ H1 _ I1 q1) fun w2 s2 zz=>kZ zz fun y H2 I2 ry q2=>
  thn (hr pins s2 σ H2 _ I2 q2) fun ws s3 zz=>kZ zz fun ps H3 I3 rel q3=> ⟨(x,y)::ps,H3,I3,.cons ⟨rx,ry⟩ rel,q3⟩)
def lM(kvs more:List (Key×V)):List (Key×V):=more.foldl (fun acc kv=>tV acc kv.1 kv.2) kvs
def KV.merge:∀{more}{rs}{kvs}{vs},KV more rs->KV kvs vs->KV (lM kvs more) (merged vs rs):=by
 intro more rs kvs vs r
 induction r generalizing kvs vs with
 |nil=>intro q;exact q
 |@cons p q ps qs h t ih =>
  intro r0
  have e:KV (tV kvs p.1 p.2) (stored vs q.1 q.2):=by
   have:=r0.put p.1 h.2
   rwa [<- h.1]
  exact ih e
theorem uM:∀more kvs,(lM kvs more).length<=kvs.length+more.length
 |[],kvs=>by show kvs.length<=kvs.length+0;lia
 |p::r,kvs=>by
  have h1:=uM r (tV kvs p.1 p.2);have h2:=bY kvs p.1 p.2;show(lM (tV kvs p.1 p.2) r).length<=_;rw[AY];lia
theorem yC: ∀{kvs}{ws},VV (kvs.map fun kv=>(kV kv.1,kv.2)) ws->∃rs,Carries (cX P w) ws rs/\KV kvs rs
 |[],_,r=>by cases r;exact⟨[],True.intro,.nil⟩
 |p::kvs,_,r=>by
  cases r with
  |@cons a b as bs h t =>
   obtain⟨rs,c,q⟩:=(yC (P:=P) (w:=w) t);obtain⟨b1,b2⟩:=b;exact⟨(p.1,b2)::rs,⟨dN h.1,rfl,c⟩,.cons ⟨rfl,h.2⟩ q⟩
def tDisp(trs:List (TE×TE)):TE:=fun σ H Q=>∀p,H p=none->wO trs σ (upd H p (.dK [])) fun ps H2=>H2 p=some (.dK [])/\∃kvs:List (Key×V),ps=kvs.map (fun kv=>(kV kv.1,kv.2))/\kvs.length<=15/\Q (.ref p) (upd H2 p (.dK (lM [] kvs)))
def pe_disp(h:PPs X pos keys values trs)(hall:keys.all (·.isSome)=true)(hl:keys.length=values.length)(h0:keys≠[])(h15:keys.length<=15):PE X (.Dict keys values pos) (tDisp trs):=by
 intro pins s σ H Q I q;have I1:=I.laid (h':=s.heap.push { cls:=.type "dict",data:=.dict #[] }) (t':=s.toks) (fun _ _ q=>AD _ q) (AH _) (QV s.heap I.big);refine wpAny_Dict_walk (knd:=cX X.prog X.w) hall hl h0 h15 (thn (h pins _ σ _ _ I1 (q _ (I.hok.fresh (AH s.heap.objs.size)))) fun ws s2 zq=>?_);obtain⟨ps,H2,I2,rel,e,kvs,rfl,lk,q2⟩:=zq;obtain⟨rs,c,rk⟩:=yC rel
 obtain⟨z,hd,vs0,r0,dd⟩:=Jk I2.hok e;cases r0;refine⟨rs,c,dd,fun h' dd' hs=>⟨.ref s.heap.objs.size,_,?_,rfl,q2⟩⟩
 have hz:(lM [] kvs).length<=sizeLine:=by
  have h1:=uM kvs [];rw[Be] at h1;rw[B9];lia
 have he:∃q,h'.get? s.heap.objs.size=some q:=let ⟨q,_,_,hq,_⟩:=dd';⟨q,hq⟩
 exact lP I2 (e▸True.intro) hs he (Yd hz hd (rk.merge .nil) dd')
structure M1(X:Cx)(o:Expr)(m:Str)(apos:Pos)(e:Expr)(cpos:Pos):Prop where
 base:attributeBase o m X.env (eval o X.env)=eval o X.env
 few:((backTo cpos (starEach [e] X.env)).all (fun x=>!x.1)&&(backToKw cpos (keywordEach [] X.env)).all (fun x=>x.1.isSome)
  && decide (([e]:List Expr).length+([]:List Keyword).length+(if ([]:List Keyword).isEmpty then 0 else 1) < 30))=true
 line:(apos.endLine==cpos.line)=true
 trees:backTo cpos (starEach [e] X.env)=[(false,eval e X.env)]
structure M2(X:Cx)(o:Expr)(m:Str)(apos:Pos)(e f:Expr)(cpos:Pos):Prop where
 base:attributeBase o m X.env (eval o X.env)=eval o X.env
 few:((backTo cpos (starEach [e,f] X.env)).all (fun x=>!x.1)&&(backToKw cpos (keywordEach [] X.env)).all (fun x=>x.1.isSome)
  && decide (([e,f]:List Expr).length+([]:List Keyword).length+(if ([]:List Keyword).isEmpty then 0 else 1) < 30))=true
 line:(apos.endLine==cpos.line)=true
 trees:backTo cpos (starEach [e,f] X.env)=[(false,eval e X.env),(false,eval f X.env)]
def IsD(H:Hp)(a:Addr):Prop:=(∃kvs,Rd H a (.dK kvs))\/∃kvs,Rd H a (.dT kvs)
def WL{σ:St}(I:Inv X pins σ H s)(d:IsD H a):
  s.TypeIs (.ref a) "dict"/\(∀b,Value.ref a=.ref b->∃ob,s.heap.get? b=some ob/\ob.dict=none)/\(a==sysModules)=false:=by
 rcases d with ⟨kvs,e⟩ | ⟨kvs,e⟩
 .obtain ⟨_,hd,vs,_,dd⟩:=uT I.hok e
  refine⟨dd.typeIs,fun b q=>?_,hd⟩;cases q;exact fR dd fun ob _ _ h1 h2 _=>⟨ob,h1,h2.2.1⟩
 .obtain ⟨_,hd,xs,_,dd⟩:=QS I.hok e
  refine⟨dd.typeIs,fun b q=>?_,hd⟩;cases q;exact fR dd fun ob _ _ h1 h2 _=>⟨ob,h1,h2.2.1⟩
section
variable {X:Cx}{pins:List (Addr×Obj)}{σ:St}{H:Hp}{s:Shared}{a:Addr}{y d:V}{u r:Value}{o:Option V}{A:Around}{E:Value->Shared->Prop}
def d_get2(hu:A.units+1 < cLine)(I:Inv X pins σ H s)(g:DGet H a y o)(ry:RelV y u)(rd:RelV d r)(h:∀w' s',Inv X pins σ H s'->RelV (o.getD d) w'->Q w' s'):
  wpAny (model X.prog X.w) A (call (.builtin "dict.get") [.ref a,u,r]) Q E s:=by
 rcases g with ⟨kvs,k,e,ey,l⟩ | ⟨kvs,k,b,e,ey,eb,l⟩
 .subst ey
  obtain⟨z,hd,vs,rel,dd⟩:=uT I.hok e;exact call_meetsIn Dg dd.typeIs PySem.F.entry_dict_get (PySem.F.args_dict_get_3 _ _ _) (meets_dict_get_default (cX X.prog X.w) a (dN ry) hd r) ⟨_,dd.mapOf,h _ _ (I.tok _) (l▸(rel.val k).getD rd)⟩
 .subst ey
  cases ry;obtain⟨z,hd,xs,rel,dd⟩:=QS I.hok e;exact call_meetsIn Dg dd.typeIs PySem.F.entry_dict_get (PySem.F.args_dict_get_3 _ _ _) (meetsH_dict_get_default (tupleKind (cX X.prog X.w)) a b hd r) ⟨DD hu,k,xs,tY I.hok eb,dd,h _ _ (I.tok _) (l▸(rel.val k).getD rd)⟩
end
def tDGet2(td ty tx:TE):TE:=fun σ H Q=>td σ H fun x H1=>∃a,x=.ref a/\IsD H1 a/\ty σ H1 fun y H2=>tx σ H2 fun z H3=>∃o,DGet H3 a y o/\Q (o.getD z) H3
section
variable {X:Cx}{o e f:Expr}{apos cpos:Pos}{td ty tx:TE}
def Qc(hu:X.A.units+1 < cLine)(ho:PE X o td)(he:PE X e ty)(hf:PE X f tx)(m:M2 X o "get" apos e f cpos):PE X (.Call (.Attribute o "get" apos) [e,f] [] cpos) (tDGet2 td ty tx):=by
 intro pins s σ H Q I h;refine wpAny_Call_method m.base m.few m.line PySem.F.plainAttrs_dict Dg PySem.F.type_dict_get (thn (ho pins s σ H _ I h) fun u s1 zq=>?_);obtain⟨x,H1,I1,rx,a,rfl,d,q1⟩:=zq;obtain rfl:u=Value.ref a:=rx
 exact QR (WL I1 d) fun t1 t2 _=>⟨t1,t2,m.trees▸Ck rfl (Dk (DH (thn (he pins s1 σ H1 _ I1 q1) fun iv s2 zz=>kZ zz fun y H2 I2 ry q2=>
  DH (thn (hf pins s2 σ H2 _ I2 q2) fun fv s3 ⟨z,H3,I3,rz,ov,g,q3⟩=>Calls.spliced_nil (d_get2 hu I3 g ry rz fun w' s4 I4 rw'=>⟨_,H3,I4,rw',q3⟩)))))⟩
end
end L2
namespace Att
open PySem PySem.W PySem.Calls PyProof.Rows
def kP: ∀ns vs,WellAll P h vs (ns.map WData.int)->IntsAre vs ns:=by
 intro ns
 induction ns with
 |nil =>
  intro vs w;cases w;exact .nil
 |cons n ns ih =>
  intro vs w
  cases w with
  |cons a b =>
   cases a;exact .cons _ _ (ih _ b)
def JY{l:OpenLaw}(hn:l.most=some n)(hpre:l.row.toRowW.claim.pre args=true)(hwl:WellAll P h vals args):
  ∃a vs ns,vals=[Value.ref a]/\args=[WData.list (ns.map WData.int)]/\h.get? a=some { cls:=.type "list",data:=.seq vs.toArray }/\IntsAre vs ns/\ns.length<=n:=by
 have hc:l.pre.holds [] { args:=args }=true:=(pre_splitW hpre).2;obtain⟨d,r,rfl,h1,h2⟩:=hasAllW_cons ((pre_splitW hpre).1);obtain rfl:=hasAllW_nil h2;obtain⟨xs,rfl,h3⟩:=hasW_list h1;obtain⟨ns,rfl⟩:=items_int h3
 have hlen:ns.length<=n:=by
  delta OpenLaw.pre at hc
  have h4:(WTm.not (.lt (.lit (.int (n:Int))) (.len (.arg 0)))).holds [] { args:=[.list (ns.map .int)] }=true:=by
   have h4:=(holds_andW hc).1
   rwa [hn] at h4
  have h5:=condW_of h4 (w_not (w_lt w_lit (w_len_list (w_arg rfl))));rw[AB] at h5;refine Nat.le_of_not_lt fun q=>?_;have q':(n:Int) < ((ns.length:Nat):Int):=by omega
  first
   | (rw[Ai q'] at h5;exact absurd h5 (by decide))
   | (simp at h5;lia)
 cases hwl with
 |cons w1 w2 =>
  cases w2
  cases w1 with
  |list ho hall=>exact⟨_,_,ns,rfl,rfl,ho,kP ns _ hall,hlen⟩
def J7(l:OpenLaw)args:l.row.toRowW.claim.post args (.bool true) args=true :=
 postW_of
  (show WShape.has [] (.bool true) .bool=true by first | rfl | decide | simp[ WShape.arms])
  (w_eq_bool (w_res rfl) w_lit) rfl
def attach_call{l:OpenLaw}(hn:l.most=some n)(hdf:d.params.defaults=[])(call:∀w s₀ s₁ mg mb fa o pm cd doc a vs ns,
   Ground q loose [] XP w s₀ mg mb s₁.heap->YP w s₁.heap ->
   s₁.heap.get? fa=some o->o.data=.func (docDef d.name d.params d.body d.scope pm cd doc)->s₁.heap.CodeRec cd d.name->mg d.name=some (.ref fa) ->
   s₁.heap.get? a=some { cls:=.type "list",data:=.seq vs.toArray }->IntsAre vs ns->ns.length<=n->s₁.gens = #[] ->
   codeAny (model l.prog w) callerA (.call (.ref fa) ⟨[.ref a],[]⟩) (fun r s'=>r=.ok (.ret (.bool true))/\OldK s₁.heap s'.heap/\s'.os=s₁.os/\AllBare s'.gens) s₁):
  WalkO q loose XP YP l.row.toRowW d [] (fun f vs=>PySem.call f vs):=by
 intro w s₀ s₁ mg mb G Y fa o pm cd doc dV kV ho hd hcd hD hmg hg args vals as hpre hlay hrd hwl hlo;obtain rfl:dV=.none:=Dflts.none hD hdf;obtain rfl:kV=.none:=Dflts.noKw hD;obtain⟨a,vs,ns,rfl,rfl,hobj,hints,hlen⟩:=JY hn hpre hwl;refine enter_call (DS (call w s₀ s₁ mg mb fa o pm cd doc a vs ns G Y ho (fd_plain hd) hcd hmg hobj hints hlen hg) fun r s' hq=>?_);obtain⟨rfl,h2,h3,h4⟩:=hq
 exact⟨.inl ⟨.bool true,.bool true,[],rfl,fun _=>rfl,.bool true,J7 l _,fun _=>⟨List.Pairwise.nil,fun _ hm=>(nomatch hm)⟩⟩,h2,h3,h4⟩
end Att
namespace L2
open PySem PySem.Spec PyProof.Rows
theorem oR:∀{vs}{ns},IntsAre vs ns->Vals (ns.map V.int) vs
 |_,_,.nil=>.nil
 |_,_,.cons n t h=>.cons ⟨t,rfl⟩ (oR h)
def Only(H:Hp):Prop:=∀b,H b=none\/∃o xs,H b=some (.frz o (.lst xs))
def Wz{K}(KX:K.In s₁.heap)(hns:s₁.heap.Ns mainGlobals mg)(hb:s₁.heap.Ns builtinsNs mb)(hbb:∀x:Str,x ≠ "__name__"->mb x=bootBuiltins x)(hlim:s₁.heap.NoLimit)(hg:s₁.gens = #[])(ha:s₁.heap.get? a=some { cls:=.type "list",data:=.seq vs.toArray })(hi:IntsAre vs ns)(hl:ns.length<=sizeLine)(hr:Room k callerA)(F:∀base:Heap,K.In base->base.Ns mainGlobals mg->FnOk P w K mg base CX k fa fd [x] sp)(hbind:∀(s:Shared)(u:Value),BindsTo s fd ⟨[u],[]⟩ [(x,u)])(hsp:∀H:Hp,Only H->SqL K H a (ns.map V.int)->sp [.ref a] H (fun v _=>v=.bl true) fun _ _ _=>False)(hCX:∀H e s',CX [] H s₁ (fun _ _ _=>False) e s'->False):
  codeAny (model P w) callerA (.call (.ref fa) ⟨[.ref a],[]⟩) (fun r s'=>r=.ok (.ret (.bool true))/\OldK s₁.heap s'.heap/\s'.os=s₁.os/\AllBare s'.gens) s₁:=by
 have rv:=oR hi
 have core:∀H:Hp,Only H->SqL K H a (ns.map V.int)->HOk P w H s₁.heap->(∀b,H b≠none->b=a)->(H a≠none->K.lookup a=none) ->
   codeAny (model P w) callerA (.call (.ref fa) ⟨[.ref a],[]⟩) (fun r s'=>r=.ok (.ret (.bool true))/\OldK s₁.heap s'.heap/\s'.os=s₁.os/\AllBare s'.gens) s₁:=by
  intro H hO hS hok hA hK;have base_of:∀{b:Addr}{o:Obj},s₁.heap.get? b=some o->H b=none->(QC s₁.heap H).get? b=some o:=fun e n=>WN e n
  have noA:∀{b:Addr}{o:Obj}{es:Array DictEntry}{ep:Nat},s₁.heap.get? b=some o->o.data=.dict es ep->H b=none:=fun {b o es ep}e d=>by
   cases q:H b with
   |none=>rfl
   |some u =>
    have e':=hA b (by lia);subst e';rw[ha] at e;cases e
    cases d
  have nsK:∀{b:Addr}{m:Str->Option Value},s₁.heap.Ns b m->(QC s₁.heap H).Ns b m:=fun {b m}zz=>fR zz fun o es ep e d r=> ⟨o,es,ep,base_of e (noA e d),d,r⟩;have hKb:K.In (QC s₁.heap H):=fun b o e=>base_of (KX b o e) (by grind);have e0:Env0 P w K mg (QC s₁.heap H) callerA [] s₁ H:=⟨rfl,(⟨hKb,nsK hns,⟨mb,nsK hb,hbb⟩,let ⟨mc,h1,h2⟩:=hlim;⟨mc,nsK h1,h2⟩⟩),fun b o e=>of_hidT e,CK (Kw _ _),trivial,fun b hb=>absurd (show b∈([]:List Addr) from hb) (by simp),hok,.of_eq hg⟩
  refine DS ((F _ hKb (nsK hns)).run callerA [] s₁ H ⟨[.ref a],[]⟩ [.ref a] [.ref a] _ _ hr e0 (hbind s₁ (.ref a)) (.cons rfl .nil) (hsp H hO hS)) fun r s' h=>?_
  cases r with
  |error e=>exact(hCX H e s' h).elim
  |ok fl =>
   cases fl with
   |next=>exact False.elim h
   |brk=>exact False.elim h
   |cont=>exact False.elim h
   |ret u =>
    refine el26 h fun v H' os bare un hok' r' q=>?_;subst q;obtain rfl:u=Value.bool true:=r';refine⟨rfl,OldK.of_keep fun b o e=>?_,os,bare⟩
    cases q:H b with
    |none=>exact un.keep b o e q (by intro z;exact absurd (show b∈([]:List Addr) from z) (by simp)) (by simp)
    |some u =>
     rcases hO b with z | ⟨ob,xs,z⟩
     .lia
     .obtain ⟨e1,_⟩:=hok b _ z
      obtain⟨e2,_⟩:=hok' b _ (un.frzs b ob _ z);rw[e] at e1;cases e1
      exact e2
 cases hk:K.lookup a with
 |some o =>
  have e:=KX a o hk;rw[ha] at e;cases e;refine core (fun _=>none) (fun _=>.inl rfl) (.inr ⟨_,vs.toArray,_,hk,rfl,rfl,rfl,by rw[Au,hi.length];exact hl,by simpa using rv⟩) (fun b u z=>by have z':=z;cases z') (fun b z=>absurd rfl z) fun z=>absurd rfl z
 |none =>
  refine core (fun b=>if b=a then some (.frz { cls:=.type "list",data:=.seq vs.toArray } (.lst (ns.map V.int))) else none) (fun b=>?_) (.inl (.inr ⟨{ cls:=.type "list",data:=.seq vs.toArray },AW rfl⟩)) (fun b u z=>?_) (fun b z=>?_) fun _=>hk
  .grind
  .by_cases hb:b=a
   .have z':=(AW hb).symm.trans z
    cases z';subst hb;exact⟨ha,by rw[AB];exact hl,vs,_,rv,ha⟩
   .lia
  .lia
def walk_of{l:PySem.W.OpenLaw}{K:Params->Dl}{CX:World->CXT}{sp:World->Sp}(hn:l.most=some n)(hn2:n<=sizeLine)(hdf:d.params.defaults=[])(hr:Room k callerA)(hY:∀(w:World)(h:Heap),YP w h->(K w.params).In h)(F:∀(w:World)(mg:Str->Option Value)(fa:Addr)(h:Heap),(K w.params).In h->h.Ns mainGlobals mg->mg d.name=some (.ref fa) ->
   ∃fd:FuncData,(∀(s:Shared)(u:Value),BindsTo s fd ⟨[u],[]⟩ [(x,u)]) /\
    ∀base:Heap,(K w.params).In base->base.Ns mainGlobals mg->FnOk l.prog w (K w.params) mg base (CX w) k fa fd [x] (sp w))(hsp:∀(w:World)(H:Hp)(a:Addr)(ns:List Int),ns.length<=n->Only H->SqL (K w.params) H a (ns.map V.int)->sp w [.ref a] H (fun v _=>v=.bl true) fun _ _ _=>False)(hCX:∀(w:World)(H:Hp)(s:Shared)(e:Value)(s':Shared),CX w [] H s (fun _ _ _=>False) e s'->False):
  PySem.W.WalkO q loose XP YP l.row.toRowW d [] (fun f vs=>PySem.call f vs):=by
 refine Att.attach_call hn hdf fun w s₀ s₁ mg mb fa o pm cd doc a vs ns G Y ho hd hcd hmg hobj hints hlen hg=>?_;have KX:=hY w _ Y;exact eQ (F w mg fa _ KX G.T.g hmg) fun fd hb hF=>Wz KX G.T.g G.T.b G.T.builtins G.T.nolimit hg hobj hints (Aa hlen hn2) hr hF hb (fun H hO hS=>hsp w H a ns hlen hO hS) fun H e s'=>hCX w H s₁ e s'
def bW(s:Stmt)(j:Nat):Stmt:=match s with
 |.ClassDef _ _ _ body _ _ _ _ _ _ _=>body.getD j (.Pass ⟨0,0,0,0⟩)
 |_=>.Pass ⟨0,0,0,0⟩
def mY(s:Stmt):Arguments:=match s with
 |.FunctionDef _ a _ _ _ _ _ _ _ _=>a
 |_=>{ posonlyargs:=[],args:=[],vararg:=none,kwonlyargs:=[],kw_defaults:=[],kwarg:=none,defaults:=[] }
def xV(s:Stmt):List Stmt:=match s with
 |.FunctionDef _ _ b _ _ _ _ _ _ _=>b
 |_=>[]
def mX(s:Stmt):Scope:=match s with
 |.FunctionDef _ _ _ _ _ _ sc _ _ _=>sc
 |_=>{ kind:=.function,names:=[],isGenerator:=false,isCoroutine:=false }
abbrev CX0:CXT:=fun _ _ _ _ _ _=>False
abbrev E0:XK:=fun _ _ _=>False
def V8: kY CX0 X E0:=fun _ _ _ _ _ _ _ h=>h.elim
structure Fun(K:Dl)(x qual:Str)(st:Stmt)(f:Addr)(fd:FuncData):Prop where
 ex:∃(oc:Value)(od:Option Addr)(kV doc pm:Value)(an:Option Addr)(cdv ct:Value)(osl:Array (Option Value)),
  fd=PySem.W.fnOf x qual (mY st) (xV st) (mX st) .none kV doc pm an cdv ct/\K.lookup f=some ⟨oc,od,.func fd,osl⟩/\PySem.W.codeIn K cdv qual=true
 kp:PySem.W.keepIn K (.ref f)=true
section
variable {P:Program}{w:World}{K:Dl}{mg:Str->Option Value}{base:Heap}
theorem Fun.ok{st}(F:Fun K x qual st f fd)(S:FnScope N ps (mX st))(len:∀vs H Q E,sp vs H Q E->vs.length=ps.length)(hbody:∀cdv A outer s H vs Q E,Room k (A.deeper (envOfC qual (mX st) s.heap.objs.size f cdv))->sp vs H Q E ->
   ∃t,PSs (QX CX0 P w K mg base N qual (mX st) f cdv A outer s H E).nox (xV st) t/\t { nx:=fun _ H'=>Q .non H',rt:=Q } (start N vs) H):FnOk P w K mg base CX0 (k+1) f fd ps sp:=by
 obtain⟨oc,od,kV,doc,pm,an,cdv,ct,osl,rfl,lk,hcd⟩:=F.ex;exact fn_of lk hcd S len fun A outer s H vs Q E hr hsp=>eQ (hbody cdv A outer s H vs Q E hr hsp) fun t h q=>⟨t,h.nox,q⟩
def Fun.binds{st}(F:Fun K x qual st f fd)(h:∀(kV doc pm:Value)(an:Option Addr)(cdv ct:Value)(us:List Value),us.length=ps.length->bindArgs (PySem.W.fnOf x qual (mY st) (xV st) (mX st) .none kV doc pm an cdv ct) ⟨us,[]⟩=pure (ps.zip us)):Binds K fd ps []:=by
 obtain⟨oc,od,kV,doc,pm,an,cdv,ct,osl,rfl,lk,hcd⟩:=F.ex;exact .all (h kV doc pm an cdv ct)
def fE{st}{kV pm cdv ct}(l:K.lookup f=some ⟨oc,od,.func (PySem.W.fnOf x qual (mY st) (xV st) (mX st) .none kV doc pm an cdv ct),osl⟩)(c:PySem.W.codeIn K cdv qual=true)(k:PySem.W.keepIn K (.ref f)=true):Fun K x qual st f (PySem.W.fnOf x qual (mY st) (xV st) (mX st) .none kV doc pm an cdv ct):=⟨⟨oc,od,kV,doc,pm,an,cdv,ct,osl,rfl,l,c⟩,k⟩
end
def yX(hr:Room k A):A.units+1 < cLine:=A3 (Nat.add_le_add_left (by lia) _) hr.units
section
variable {X:Cx}
def pv i{pos}(hN:X.N[i]?=some x:=by rfl)(hv:Vis X.env.scope x:=by first | exact Or.inl rfl | exact Or.inr (Or.inl rfl) | exact Or.inr (Or.inr rfl))(hd:(x==("__debug__" : Str))=false:=by decide)(hcd:(x==("__classdict__" : Str))=false:=by decide):PE X (.Name x pos) (tVar i):=VX hN hv hd hcd
end
def Same(H H':Hp):Prop:=∀b o,H b=some o->H' b=some o
def Same.refl H:Same H H:=fun _ _ h=>h
section
variable {X:Cx}
def KM:CallR X (.builtin "len") (fun xs H Q=>∃a kvs,xs=[V.ref a]/\H a=some (.dK kvs)/\Q (.int kvs.length) H):=by
 intro pins s σ H xs us Q I r h;obtain⟨a,kvs,rfl,ha,q⟩:=h;obtain⟨u,rfl,rfl⟩:=zF r;exact d_len I (.inl ha) fun t s' I'=>⟨.int kvs.length,H,I',⟨t,rfl⟩,q⟩
end
def xX:Expr->Bool
 |.Starred _ _=>false
 |_=>true
def gJ(h:xX e=true):starEach (e::es) env=(false,eval e env)::starEach es env:=by
 cases e<;>first | rfl | exact absurd h AN
theorem pU: ∀{es},es.all xX=true->(backTo pos (starEach es env)).any (·.1)=false
 |[],_=>rfl
 |e::es,h=>by
  rw[Cq,BL] at h;rw[gJ h.1];show(false || (backTo pos (starEach es env)).any (·.1))=false;rw[pU h.2]
  rfl
section
variable {X:Cx}{e:Expr}{es:List Expr}{te:TE}{t:TA}{x:Str}{p pos:Pos}
def qa_cons(ha:PE X e te)(hr:PA X es t)(hs:xX e=true:=by rfl):PA X (e::es) (Vp te t):=pa_cons ha hr (gJ hs)
def qe_call(F:FnOk X.prog X.w X.K X.mg X.base CX k f fd ps sp)(hr:Room k X.A)(hg:Gl X x)(hm:X.mg x=some (.ref f))(hk:PySem.W.keepIn X.K (.ref f)=true)(hb:Binds X.K fd ps ds)(hd:Vals dvs ds)(hx:kY CX X E)(ha:PA X (e::es) t)(hdb:(x==("__debug__" : Str))=false:=by decide)(hs:xX e=true:=by rfl)(hall:es.all xX=true:=by rfl):PE X (.Call (.Name x p) (e::es) [] pos) (Vq sp dvs E t) :=
 pe_call F hr hg hm hk hb hd hx ha hdb (gJ hs) (pU hall)
def VG{id}(hc:CallR X (.builtin id) r)(hg:Gl X x)(hm:X.mg x=none)(hv:bootBuiltins x=some (.builtin id))(ha:PA X (e::es) t)(hn:x ≠ "__name__":=by decide)(hdb:(x==("__debug__" : Str))=false:=by decide)(hs:xX e=true:=by rfl)(hall:es.all xX=true:=by rfl):PE X (.Call (.Name x p) (e::es) [] pos) (tCB r t):=V3 hc hg hm hv ha hn hdb (gJ hs) (pU hall)
def J5(hc:CallR X (.type T) r)(hg:Gl X x)(hm:X.mg x=none)(hv:bootBuiltins x=some (.type T))(ha:PA X (e::es) t)(hn:x ≠ "__name__":=by decide)(hdb:(x==("__debug__" : Str))=false:=by decide)(hs:xX e=true:=by rfl)(hall:es.all xX=true:=by rfl):PE X (.Call (.Name x p) (e::es) [] pos) (tCB r t):=J9 hc hg hm hv ha hn hdb (gJ hs) (pU hall)
end
section
variable {prog:Program}{w:World}{A:Around}{R:Result->Shared->Prop}{s:Shared}
def oE(I:Nat->Shared->Prop)(turn:∀n s,I n s->wpAny (model prog w) A (pyNext it) (fun r s₁=>match r with
   |none=>R (.ok .next) s₁
   |some v=>wpAny (model prog w) A (letOwnedTupleGo target it v) (fun _ s₁=>wpAny (model prog w) A (assign target env v) (fun _ s₂=>
     wpAny (model prog w) A (forIn ifs true fun c r=>if r=true then do let ok <- isTrue c env (eval c env);pure (ForInStep.yield ok) else pure (ForInStep.yield r)) (fun ok s₃=>
      if ok=true then wpAny (model prog w) A (eval elt env) (fun x s₄=>
       wpAny (model prog w) A (call (.builtin "list.append") [acc,x]) (fun _ s₅=>∃m,m < n/\I m s₅) (fun _ _=>False) s₄) (fun _ _=>False) s₃
      else ∃m,m < n/\I m s₃) (fun _ _=>False) s₂) (fun _ _=>False) s₁) (fun _ _=>False) s₁) (fun _ _=>False) s)n(h:I n s):
  codeAny (model prog w) A (.compLoop (.ListComp elt [⟨target,iter,ifs,0⟩] scope pos) 0 it acc env) R s:=by
 refine codeAny_loop rfl I (fun n s hI=>wpAny_noted (AA (wpAny_standAt (AA (BP (turn n s hI) (fun r s₁ h₁=>?_) fun _ _ h'=>False.elim h'))))) n h
 cases r with
 |none=>exact AC h₁
 |some v =>
  refine AA (BP h₁ (fun _ s₁' h₁'=>AA (BP h₁' (fun _ s₂ h₂=>AA (BP h₂ (fun ok s₃ h₃=>?_) fun _ _ h'=>False.elim h')) fun _ _ h'=>False.elim h')) fun _ _ h'=>False.elim h')
  cases ok with
  |false=>exact AC ⟨rfl,h₃⟩
  |true =>
   exact AA (AA (BP h₃ (fun x s₄ h₄=>AA (BP h₄ (fun _ s₅ h₅=>AC (AC ⟨rfl,h₅⟩)) fun _ _ h'=>False.elim h')) fun _ _ h'=>False.elim h'))
end
theorem aK{env:Env}:∀{names:List (Str×NameKind)}{y:Str}{k:NameKind},
  (names.map fun(n,k)=>if (k==NameKind.free&&env.scope.kind==.function&&env.kindOf n==some .cell) then (n,NameKind.cell) else (n,k)).lookup y=some k ->
   ∃k0,(y,k0)∈names/\(k=k0\/(k0=.free/\k=.cell))
 |[],_,_,h=>by simp at h
 | (n,k1)::r,y,k,h=>by
  cases hx:y==n with
  |true =>
   by_cases hc:(k1==NameKind.free&&env.scope.kind==.function&&env.kindOf y==some .cell)=true
   .grind
   .grind
  |false =>
   have h2:(r.map fun(n,k)=>if (k==NameKind.free&&env.scope.kind==.function&&env.kindOf n==some .cell) then (n,NameKind.cell) else (n,k)).lookup y=some k :=by grind
   exact eQ ((@aK env r y k) h2) fun k0 m q=>⟨k0,AK _ m,q⟩
def K2(X:Cx)(ifs:List Expr)(t:TT):Prop :=
 ∀(pins:List (Addr×Obj))(s:Shared)(σ:St)(H:Hp)(Q:Bool->Hp->Prop),Inv X pins σ H s->t σ H Q ->
  wpAny (model X.prog X.w) X.A (forIn ifs true fun c r=>if r=true then do let ok <- isTrue c X.env (eval c X.env);pure (ForInStep.yield ok) else pure (ForInStep.yield r)) (TP X pins σ Q) X.xe s
def tYes:TT:=fun _ H Q=>Q true H
def VT: K2 X [] tYes:=fun _ _ _ H _ I h=>wpAny_tests_nil ⟨H,I,h⟩
def VS(h:PT X c t):K2 X [c] t:=fun pins s σ H Q I hw=>wpAny_tests_one (h pins s σ H Q I hw)
def cxN(X:Cx)(xs:List Str)(scope:Scope)(cl:List (Str×Addr))(fp:List Addr)(C:Addr)(s₂:Shared)(H₂:Hp):Cx where
 prog:=X.prog
 w:=X.w
 K:=X.K
 mg:=X.mg
 base:=X.base
 A:=X.A
 N:=xs++X.N
 s₀:=s₂
 H₀:=H₂
 env:=compEnvC scope cl C X.env
 outer:=X.stack
 stack:=X.stack
 ex:=fp
 fn:=fun _=>false
 calm:=X.calm
 pn:=[]
 xe:=fun _ _=>False
abbrev cK X x:=cxN X [x]
def yI(wi:TI)(tc:TT)(te:TE):TE:=fun σ H Q=>wi σ H fun J H1=>∀D,H1 D=none->∃W:Nat->Nat->List V->Hp->Prop,(∃m,W 0 m [] (upd H1 D (.lst [])))/\∀i m ys H,W i m ys H ->
 (J.stop i H/\Q (.ref D) H)\/(J.go i H/\∀x H',J.yld i H x H'->tc (some x::σ) H' fun b H2=>
  if b=true then te (some x::σ) H2 fun y H3=>H3 D=some (.lst ys)/\ys.length < sizeLine/\∃m',m' < m/\W (i+1) m' (ys++[y]) (upd H3 D (.lst (ys++[y])))
  else ∃m',m' < m/\W (i+1) m' ys H2)
section
variable {X:Cx}
structure tK(X:Cx)(xs:List Str)(scope:Scope)(cl:List (Str×Addr)):Prop where
 clos:closureFor scope X.env=pure cl
 cell:∀y∈scope.names,y.2≠.cell
 kind:scope.kind=.function
 names:∀y∈scope.names,y.2=.local->scope.names.lookup y.1=some .local
 hx:∀x∈xs,scope.names.lookup x=some .local
 loc:∀y∈scope.names,y.2=.local->y.1∉X.N
 free:∀y∈scope.names,y.2=.free->X.env.kindOf y.1≠some .local/\(X.env.kindOf y.1=some .cell\/X.env.kindOf y.1=some .free)/\∃c,cl.lookup y.1=some c
 cl:∀y c,cl.lookup y=some c->X.env.cells.lookup y=some c
abbrev vB X x:=tK X [x]
def pY{te:TE}{g:TG}{Tk:V->Hp->List V->Prop}{RR:Value->Addr->Result->Shared->Prop}{EE:Value->Shared->Prop}(hc:X.calm=true)(K:tK X xs scope cl)(hg:∀fp C s₂ H₂,PG (cxN X xs scope cl fp C s₂ H₂) tg g)(ht:∀fp C s₂ H₂,K2 (cxN X xs scope cl fp C s₂ H₂) ifs tc)(he:∀fp C s₂ H₂,PE (cxN X xs scope cl fp C s₂ H₂) elt te){pins:List (Addr×Obj)}{σ:St}{s₂:Shared}{H₂:Hp}{it:Addr}{fp:List Addr}{tn:Nat->Heap->Prop}{J:It}{Q:VK}(hG:∀ws vs x H Q,ws.length=xs.length->Tk x H vs->vs.length=xs.length->Q (vs.map some++σ) H->g x (ws++σ) H Q)(I₂:Inv X pins σ H₂ s₂)(T:ZA X.prog X.w X.K tg J fp it tn)(st₂:tn 0 s₂.heap)(f₂:∀b∈fp,Xl X pins H₂ b)(R:∀D,H₂ D=none->∃W:Nat->Nat->List V->Hp->Prop,(∃m,W 0 m [] (upd H₂ D (.lst [])))/\∀i m ys H,W i m ys H ->
   (J.stop i H/\Q (.ref D) H)\/(J.go i H/\∀x H',J.yld i H x H'->∃vs,Tk x H' vs/\vs.length=xs.length/\tc (vs.map some++σ) H' fun b H2=>
    if b=true then te (vs.map some++σ) H2 fun y H3=>H3 D=some (.lst ys)/\ys.length < sizeLine/\∃m',m' < m/\W (i+1) m' (ys++[y]) (upd H3 D (.lst (ys++[y])))
    else ∃m',m' < m/\W (i+1) m' ys H2))(hRR:∀(D C:Addr)(H:Hp)(s4:Shared)(m:Str->Option Value),s4.heap.Ns C m->C≠X.env.locals->H C=none->(∀x c,X.env.cells.lookup x=some c->c≠C)->s₂.heap.objs.size<=C->Inv X pins σ H s4 ->
   Q (.ref D) H->RR (.ref D) C (.ok .next) s4):
  wpAny (model X.prog X.w) X.A (newList []) (fun acc s₃=>wpAny (model X.prog X.w) X.A (newFunctionEnv scope X.env.globals cl [] X.env.qual none .none (some X.env)) (fun cenv s₄=>
   codeAny (model X.prog X.w) X.A (.compStart (.ListComp elt [⟨tg,iter,ifs,0⟩] scope pos) 0 (.ref it) acc { cenv with scope:=relabel scope X.env }) (RR acc cenv.locals) s₄) EE s₃) EE s₂:=by
 refine Ay (wpAny_newFunctionEnv K.cell (by intro y hy;simp at hy) (fun h₁ hns₁ hsb₁=>?_) K.kind);dsimp only at hns₁ hsb₁ ⊢;generalize hH2:s₂.heap.push { cls:=.type "list",dict:=none,data:=.seq ([]:List Value).toArray }=H2 at hns₁ hsb₁ ⊢;have hC:H2.objs.size=s₂.heap.objs.size+1:=by rw[<- hH2,B0]
 have hDC:s₂.heap.objs.size≠H2.objs.size :=hC▸Ad (Bw _);have below:∀b,b < s₂.heap.objs.size->b≠H2.objs.size/\b≠s₂.heap.objs.size:=fun b hb=>⟨by exact hC▸Ad (Nat.lt_succ_of_lt hb),Ad hb⟩;have old:∀b o,s₂.heap.get? b=some o->h₁.get? b=some o:=fun b o e=>hsb₁.extBut b o (below b (AG e)).1 (AD _ (hH2▸AD _ e));have fD:=I₂.hok.fresh (AH _)
 have fC:H₂ H2.objs.size=none:=I₂.hok.fresh (hC▸Bv _);have fpLt:∀b∈fp,b < s₂.heap.objs.size:=fun b hb=>let ⟨o,e,_⟩:=T.obj _ _ st₂ b hb;AG e
 obtain⟨W,⟨m0,w0⟩,turn⟩:=R s₂.heap.objs.size fD
 have okX:(cxN X xs scope cl fp H2.objs.size s₂ H₂).Ok:=by
  refine⟨I₂.ok.mod,K.kind,I₂.ok.glob,I₂.ok.blt,?_,fun y z c h1 h2=>I₂.ok.inj y z c (K.cl y c h1) (K.cl z c h2),fun y hy=>?_,fun y c h _=>?_,I₂.ok.hd,I₂.ok.frames,.inl rfl,fun b hb=>⟨(below b (fpLt b hb)).1,fun y c h=>(f₂ b hb).2.2.2.2.1 y c (K.cl y c h)⟩,I₂.bs,
   Aa I₂.ok.bsz I₂.sz,fun b o e hb=>?_,fun b hb z=>?_,I₂.stack,I₂.stkFree⟩
  .exact hC▸Bv _
  .have fr:(y,NameKind.free)∈scope.names:=by
    rcases hy with q | q
    .obtain ⟨k0,hm,z | ⟨z,_⟩⟩:=aK q
     .subst z;exact absurd rfl (K.cell _ hm)
     .subst z;exact hm
    .obtain ⟨k0,hm,z | ⟨z,w⟩⟩:=aK q
     .subst z;exact hm
     .cases w
   exact(K.free _ fr rfl).2.2
  .exact absurd h AN
  .refine tN (f₂ b hb) fun _ _ _ f3 _=>?_
   rcases f3 with z | z
   .exact I₂.ok.noex b o e z
   .exact absurd (AS (AG (I₂.ok.bs b o e).1) z) (BI _)
  .refine QQ (f₂ b hb) fun _ f1 f2' _=>?_
   rcases Af.mp (I₂.stkSub b z) with q | q
   .exact f1 q
   .exact f2' q
 have hDne:∀b,H₂ b≠none->b≠s₂.heap.objs.size:=fun b hb z=>hb (z▸fD);have ldD:HOk X.prog X.w (upd H₂ s₂.heap.objs.size (.lst [])) h₁:=I₂.hok.laid old (AH _) ⟨Ae _,[],_,.nil,(hsb₁.extBut _ _ hDC (AD _ (hH2▸AM _ rfl)))⟩
 have visFree:∀y,Vis (relabel scope X.env) y->y∈X.N->(y,NameKind.free)∈scope.names/\((relabel scope X.env).names.lookup y=some .cell\/(relabel scope X.env).names.lookup y=some .free):=by
  intro y hv hne
  rcases hv with q | q | q
  .obtain ⟨k0,hm,z | ⟨z,w⟩⟩:=aK q
   .subst z;exact absurd hne (K.loc _ hm rfl)
   .cases w
  .obtain ⟨k0,hm,z | ⟨z,w⟩⟩:=aK q
   .subst z;exact absurd rfl (K.cell _ hm)
   .subst z;exact⟨hm,.inl q⟩
  .obtain ⟨k0,hm,z | ⟨z,w⟩⟩:=aK q
   .subst z;exact⟨hm,.inr q⟩
   .cases w
 have I':∀tk,Inv (cxN X xs scope cl fp H2.objs.size s₂ H₂) [] (List.replicate xs.length none++σ) (upd H₂ s₂.heap.objs.size (.lst [])) { s₂ with heap:=h₁,toks:=tk }:=by
  intro tk;refine⟨okX,rfl,I₂.bare,Un.laid old (AH _) fD,⟨_,hns₁,fun i y v h1 h2 h3=>?_⟩,fun y c h=>?_,?_,fun y c h=>?_,fun p hp=>absurd hp (by simp[cxN]),ldD,?_⟩
  .rcases Cg i xs.length with hi | hi
   .rw [Bo (by rwa [Bm]),List.getElem?_replicate,AW hi] at h2
    cases h2
   .have h1':X.N[i - xs.length]?=some y:=by
     have h1:(xs++X.N)[i]?=some y:=h1
     rwa [DG hi] at h1
    have h2':σ[i - xs.length]?=some (some v):=by
     rw[DG (by rwa [Bm]),Bm] at h2;exact h2
    obtain⟨fm,kk⟩:=visFree y h3 (Ah h1');obtain⟨nl,vz,c,hcl⟩:=K.free _ fm rfl;refine eQ I₂.loc fun mm hn hl=>eQ (hl (i - xs.length) y v h1' h2' (vz.elim (fun z=>.inr (.inl z)) fun z=>.inr (.inr z))) fun u ru l=>?_
    rcases l with ⟨z,_⟩ | ⟨_,c',hc',hcell⟩
    .exact absurd z nl
    .have ec:=BC (hc'.symm.trans (K.cl _ _ hcl))
     subst ec;obtain⟨o,ho,hd⟩:=hcell;exact⟨u,ru,.inr ⟨kk,c',hcl,o,old _ _ ho,hd⟩⟩
  .obtain ⟨v,o,ho,hd⟩:=I₂.cell y c (K.cl y c h)
   exact⟨v,o,old _ _ ho,hd⟩
  .show upd H₂ _ _ H2.objs.size=none
   rwa [mQ (Ne.symm hDC)]
  .obtain ⟨v,o,ho,hd⟩:=I₂.cell y c (K.cl y c h)
   exact(mQ (below c (AG ho)).2)▸I₂.freeC y c (K.cl y c h)
  .show (List.replicate xs.length none++σ).length=(xs++X.N).length
   rw[AL,AL,Bm,I₂.len]
 have stat:∀{H':Hp},(∀b∈fp,H' b=none)->∀b∈fp,Xl (cxN X xs scope cl fp H2.objs.size s₂ H₂) [] H' b:=fun hn b hb=>
  ⟨hn b hb,(okX.exf b hb).1,okX.exfs b hb,.inl hb,(okX.exf b hb).2,fun p hp=>absurd hp (by simp[cxN])⟩
 have tn₁:=T.keep _ _ _ st₂ fun b _ o e=>old b o e;have fp₁:∀b∈fp,upd H₂ s₂.heap.objs.size (.lst []) b=none:=fun b hb=>(mQ (below b (fpLt b hb)).2)▸(f₂ b hb).1
 have loop:∀s₃:Shared,(∃tk,s₃={ s₂ with heap:=h₁,toks:=tk }) ->
   codeAny (model X.prog X.w) X.A (.compLoop (.ListComp elt [⟨tg,iter,ifs,0⟩] scope pos) 0 (.ref it) (.ref s₂.heap.objs.size) (compEnvC scope cl H2.objs.size X.env))
    (RR (.ref s₂.heap.objs.size) H2.objs.size) s₃:=by
  rintro s₃ ⟨tk,rfl⟩
  refine oE (fun n s'=>∃i ys H' v0,v0.length=xs.length/\Inv (cxN X xs scope cl fp H2.objs.size s₂ H₂) [] (v0++σ) H' s'/\tn i s'.heap/\(∀b∈fp,H' b=none)/\W i n ys H') ?_ m0
   ⟨0,[],_,List.replicate xs.length none,Bm,I' tk,tn₁,fp₁,w0⟩
  rintro n s3 ⟨i,ys,H3,v0,l0,I3,st3,fr3,w3⟩
  rcases turn i n ys H3 w3 with ⟨stop,qn⟩ | ⟨go,step⟩
  .refine thn (T.done (cxN X xs scope cl fp H2.objs.size s₂ H₂) rfl rfl rfl hc i [] s3 (v0++σ) H3 (fun _ _=>False) I3 (stat fr3) st3 stop) fun r s4 zz=>sM zz fun hr I4=> ?_
   subst hr;show RR _ _ (.ok .next) s4;refine eQ I4.loc fun m hn _=>?_;have os4:=I4.os;refine hRR _ _ H3 s4 m hn ?_ I4.free (fun y c h z=>?_) (hC▸Bv _) ?_ qn
   .exact Ne.symm (below _ I₂.lt).1
   .exact wY (I₂.cell y c h) fun v o ho hd=>(below c (AG ho)).1 z
   .obtain ⟨hh,g,d,t,os'⟩:=s4
    obtain rfl:os'=s₂.os:=os4;exact I₂.call (h':=hh) (g':=g) (d':=d) (t':=t) I4.base I4.hok I4.bare fun b hb=>⟨(f₂ b hb).2.2.2.1,(f₂ b hb).2.1,(f₂ b hb).2.2.2.2.1,(f₂ b hb).2.2.2.2.2⟩
  .refine thn (T.item (cxN X xs scope cl fp H2.objs.size s₂ H₂) rfl rfl rfl hc i [] s3 (v0++σ) H3 (fun _ _=>False) I3 (stat fr3) st3 go) fun r s4 zz=>eQ zz fun u hr h4=> ?_
   subst hr;refine thn h4 fun _ s5 zz=>el25 zz fun x5 H5 I5 r5 y5 st5 fr5=> ?_
   have again:∀{H':Hp}{s':Shared}{τ:St},Inv (cxN X xs scope cl fp H2.objs.size s₂ H₂) ([]++qN fp s5.heap) τ H' s'->tn (i+1) s'.heap/\∀b∈fp,H' b=none:=fun I7=>
    ⟨T.keep _ _ _ st5 fun b hb o e=>(I7.pin (b,o) (AR _ (AR _ (fG hb e)))).1,fun b hb=>eQ (T.obj _ _ st5 b hb) fun o e d=>(I7.pin (b,o) (AR _ (AR _ (fG hb e)))).2.1⟩
   refine aJ (step x5 H5 y5) fun vs5 sq5 l5 q5=>thn (hg fp _ s₂ H₂ _ s5 (v0++σ) H5 x5 u (fun σ' H'=>σ'=vs5.map some++σ/\H'=H5) (I5.pinned (stat fr5) (T.obj _ _ st5)) r5 (hG v0 vs5 x5 H5 _ l0 sq5 l5 ⟨rfl,rfl⟩)) fun _ s6 zz=>kZ zz fun σ6 H6 I6 e6 e6'=> ?_;subst e6 e6';have l6:(vs5.map some).length=xs.length:=by rwa [AB]
   refine thn (ht fp _ s₂ H₂ _ s6 (vs5.map some++σ) H6 _ I6 q5) fun ok s7 zz=>eQ zz fun H7 I7 q7=> ?_
   cases ok with
   |false =>
    rw[AX AN] at q7;rw[AX AN];refine eQ q7 fun m' hm w7=>?_;obtain⟨k1,k2⟩:=again I7;exact⟨m',hm,i+1,ys,H7,vs5.map some,l6,I7.unpinned,k1,k2,w7⟩
   |true =>
    rw[AW rfl] at q7;rw[AW rfl];refine thn (he fp _ s₂ H₂ _ s7 (vs5.map some++σ) H7 _ I7 q7) fun y s8 ⟨y8,H8,I8,r8,hD8,hl8,m',hm,w8⟩=>thn (dS _ s8 _ H8 (.ref s₂.heap.objs.size) [y8] (.ref s₂.heap.objs.size) [y] (fun _ H9=>H9=upd H8 s₂.heap.objs.size (.lst (ys++[y8]))) I8 rfl (.cons r8 .nil) ⟨_,ys,y8,rfl,rfl,hD8,hl8,rfl⟩) fun _ s9 zz=>kZ zz fun _ H9 I9 _ e9=> ?_;subst e9;obtain⟨k1,k2⟩:=again I9
    exact⟨m',hm,i+1,ys++[y8],_,vs5.map some,l6,I9.unpinned,k1,k2,w8⟩
 exact codeAny_compStart_list (loop _ ⟨_,rfl⟩) (T.self _ 0 _ _ _ tn₁ (loop _ ⟨_,rfl⟩))
def pe_comp{elt iter:Expr}{x:Str}{px pos:Pos}{ifs:List Expr}{scope:Scope}{cl:List (Str×Addr)}{wi:TI}{tc:TT}{te:TE}(hc:X.calm=true)(hN:(x::X.N).Nodup)(K:vB X x scope cl)(hi:PI X (.Name x px) iter wi)(ht:∀fp C s₂ H₂,K2 (cK X x scope cl fp C s₂ H₂) ifs tc)(he:∀fp C s₂ H₂,PE (cK X x scope cl fp C s₂ H₂) elt te)(hs:∀v,foldedSetIterable iter X.env v=pure v:=by intro _;rfl):PE X (.ListComp elt [⟨.Name x px,iter,ifs,0⟩] scope pos) (yI wi tc te):=by
 intro pins s σ H Q I h;rw[eval_ListComp];refine CV (use:=none) rfl hs K.clos K.kind K.names (thn (hi pins s σ H _ I h) fun xv s₁ h₁=>thn h₁ fun itv s₂ h₂=>?_);obtain⟨it,fp,tn,J,H₂,e,I₂,T,st₂,f₂,R⟩:=h₂;subst e;refine pY (g:=yU 0) (Tk:=fun x _ vs=>vs=[x]) hc K (fun _ _ _ _=>gY (i:=0) (x:=x) hN rfl (.inl (BH (K.hx x (.head _)))) (.inr (BH (K.hx x (.head _))))) ht he (by rintro ws vs y H Q l rfl _ q;match ws,l with | [_],_=>exact q) I₂ T st₂ f₂ (fun D hD=>let ⟨W,w0,tu⟩:=R D hD;⟨W,w0,fun i m ys H w=>(tu i m ys H w).imp id fun zz=>sM zz fun g st=> ⟨g,fun x H' y=>⟨[x],rfl,rfl,st x H' y⟩⟩⟩) ?_
 intro D C H s4 m hn hCL hC0 hCc hCsz I4 q;refine⟨m,hn,fun h' hsb=>⟨.ref D,H,?_,rfl,q⟩⟩;refine I4.turned (it:=C) (t':=s4.toks) (fun b o hb e=>(hsb.2 b hb).trans e) hC0 hCL (.inr (Aa I₂.sz hCsz)) hCc fun p hp z=>?_;exact absurd (AS (AG (I₂.pin p hp).1) (by rw[z];exact hCsz)) (BI _)
end
def Its(x:Str):It:=⟨fun i _=>i < x.cps.size,fun i H v H'=>H'=H/\∃c,x.cps[i]?=some c/\v=.str ⟨#[c]⟩,fun i _=>x.cps.size<=i⟩
def nR(hty:ty = "str_ascii_iterator"\/ty = "str_iterator")(hh:A.handled=none)it x t:
  Walks P w A it [it] [it] x.cps.size (SignAt x) (fun i h=>h.IsStrIter it ty x t i):=by
 rcases hty with rfl | rfl
 .exact Walks.strAscii hh it x t
 .exact Walks.strWide hh it x t
def Vg{K}(hty:ty = "str_ascii_iterator"\/ty = "str_iterator")x t it:
  ZA P w K tg (Its x) [it] it (fun i h=>h.IsStrIter it ty x t i/\i<=x.cps.size) where
 mem:=by simp
 obj:=fun i h st b hb=>by
  have e:b=it :=by grind
  subst e;obtain⟨⟨o,e,c,d⟩,_⟩:=st;exact⟨o,e,fun v z=>by rw[d] at z;cases z⟩
 keep:=fun i h h' st k=>⟨let ⟨o,ho,r⟩:=st.1;⟨o,k it (by simp) o ho,r⟩,st.2⟩
 item:=by
  intro X hP hw hK hc i pins s σ H E I hf st hg;refine QP (hf it (by simp)) fun f0 f1 f2 f3 f4 f5=>?_;refine(nR hty (I.ok.hd hc) it x t).item i s _ _ hg st.1 fun v h' tk hv st' kk=>?_;obtain⟨c,u,hx,rfl⟩:=hv;have I1:Inv X pins σ H { s with heap:=h',toks:=tk }:=I.turned (fun b o hb e=>kk b o (by simp_all) e) f0 f1 f3 f4 f5;exact aJ (id st') fun o e cc d=>⟨_,rfl,QF e cc d (by rcases hty with rfl | rfl<;>decide) ⟨.str ⟨#[c]⟩,H,I1,⟨u,rfl⟩,⟨rfl,c,hx,rfl⟩,⟨st',hg⟩,fun b hb=>(hf b hb).1⟩⟩
 done:=by
  intro X hP hw hK hc i pins s σ H E I hf st hg;refine QP (hf it (by simp)) fun f0 f1 f2 f3 f4 f5=>?_;refine(nR hty (I.ok.hd hc) it x t).done s _ _ ((Nat.le_antisymm st.2 hg)▸st.1) fun h' tk kk=>⟨rfl,I.turned (fun b o hb e=>kk b o (by simpa using hb) e) f0 f1 f3 f4 f5⟩
 self:=fun A i s Q E st h=>by
  rcases hty with rfl | rfl
  .exact wpAny_pyIter_striter_ascii st.1 h
  .exact wpAny_pyIter_striter_wide st.1 h
def iStr(tl:TE):TI:=fun σ H R=>tl σ H fun x H1=>∃z,x=.str z/\R (Its z) H1
section
variable {X:Cx}{tg:Expr}
def pi_str(hl:PE X l tl):PI X tg l (iStr tl):=by
 intro pins s σ H R I h;refine thn (hl pins s σ H _ I h) fun v s1 zz=>kZ zz fun x H1 I1 r1 q1=> ?_;obtain⟨z,rfl,q⟩:=q1;obtain⟨t,rfl⟩:=r1
 have fin:∀ty o,(ty = "str_ascii_iterator"\/ty = "str_iterator")->(s1.heap.push o).IsStrIter s1.heap.objs.size ty z t 0->PIE X pins σ tg R (.ref s1.heap.objs.size) { s1 with heap:=s1.heap.push o }:=fun ty o hty st=>by
  refine⟨s1.heap.objs.size,[s1.heap.objs.size],_,_,H1,rfl,I1.kept (t':=s1.toks) fun b o e=>AD _ e,Vg hty z t _,⟨st,Ae _⟩,fun b hb=>?_,q⟩;have e:b=s1.heap.objs.size :=by grind
  subst e;exact I1.fpOk (AH _) (I1.hok.fresh (AH _))
 cases ha:z.cps.all (· < 128)
 .exact wpAny_pyIter_wide ha (fin _ _ (.inr rfl) ⟨_,AM _ rfl,rfl,rfl⟩)
 .exact wpAny_pyIter_ascii ha (fin _ _ (.inl rfl) ⟨_,AM _ rfl,rfl,rfl⟩)
end
def KY(ys:List Bool):((List.range ys.length).all fun i=>(ys[i]?).getD false)=ys.all id:=by
 rw[Cw,Bz,Bz]
 constructor
 .intro h b hb
  obtain⟨i,hi⟩:=BU.mp hb;have hl:=(Ak.mp hi).1;have:=h i (BR.mpr hl)
  rwa [hi] at this
 .intro h i hi
  have hl:=BR.mp hi;exact(AO hl)▸h _ (BW hl)
section
variable {X:Cx}
def Xa(hc:X.calm=true):CallR X (.builtin "all") (fun xs H Q=>∃p ys,xs=[.ref p]/\SqL X.K H p (List.map V.bl ys)/\Q (.bl (ys.all id)) H):=by
 intro pins s σ H xs us Q I r h;obtain⟨p,ys,rfl,hq,q⟩:=h;obtain⟨u,rfl,rfl⟩:=zF r;obtain⟨its,rv,pl,hz⟩:=(I.list hq);have hlen:its.length=ys.length:=by rw[<- rv.length,AB]
 refine wY (id pl) fun o n ho _=>call_all_walk (wpAny_pyIter_list pl.isList ⟨s.heap.objs.size,_,_,_,_,_,fun i=>(ys[i]?).getD false,rfl,Walks.list (A:=X.A.in1) (I.ok.hd hc) s.heap.objs.size p (Ad (AG ho)) its.toArray,⟨⟨_,AM _ rfl,rfl,rfl⟩,pl.isList.push _⟩,fun i v s' Q' E' hP hQ=>?_,fun h' tk kk=>?_⟩)
 .have hv:its[i]?=some v :=by simp_all
  have hi :=hlen▸(Ak.mp hv).1;have hy:(List.map V.bl ys)[i]?=some (.bl ys[i]):=by rw[Ao,AO hi];rfl
  obtain⟨u,hu,ru⟩:=(rv.get hy);rw[hv] at hu;cases hu;cases ru;have hQ:Q' ((ys[i]?).getD false) s':=hQ;rw[AO hi] at hQ;exact BD hQ
 .have I1:Inv X pins σ H { s with heap:=h',toks:=tk }:=I.kept fun b o e=>kk b o (by intro z;exact absurd (AG e) ((AE.mp z)▸BI _)) (AD _ e)
  have e:((List.range its.toArray.size).all fun i=>(ys[i]?).getD false)=ys.all id:=by rw[Au,hlen,KY]
  exact e▸⟨.bl (ys.all id),H,I1,rfl,q⟩
inductive Ty where
 |non | bl | int | str | lst | tup | dct
 deriving DecidableEq
def fU:Ty->String
 |.non=>"NoneType" | .bl=>"bool" | .int=>"int" | .str=>"str" | .lst=>"list" | .tup=>"tuple" | .dct=>"dict"
def tyH:HO->Option Ty
 |.lst _=>some .lst
 |.frz _ (.lst _)=>some .lst
 |.tup _=>some .tup
 |.dK _=>some .dct
 |.dT _=>some .dct
 |_=>none
def tyN(H:Hp):V->Option Ty
 |.non=>some .non
 |.bl _=>some .bl
 |.int _=>some .int
 |.str _=>some .str
 |.ref a=>(H a).bind tyH
 |_=>none
def tyOf_of{K}(h:tyN H x=some n):gL K H x (.type (fU n)):=by
 cases x with
 |non=>cases h;exact .non
 |bl b=>cases h;exact .bl b
 |int i=>cases h;exact .int i
 |str z=>cases h;exact .str z
 |ref a =>
  have h:(H a).bind tyH=some n:=h
  cases e:H a with
  |none=>rw[e] at h;cases h
  |some o =>
   rw[e] at h
   cases o with
   |lst xs=>cases h;exact .lst e
   |tup xs=>cases h;exact .tup e
   |dK kvs=>cases h;exact .dK e
   |dT kvs=>cases h;exact .dT e
   |frz ob u =>
    cases u with
    |lst xs=>cases h;exact .frz e
    |_=>cases h
   |_=>cases h
 |byt b=>cases h
 |flt b=>cases h
 |ty n=>cases h
def sZ:Ty->Ty->Bool
 |.bl,.int=>true
 |a,b=>decide (a=b)
def kit_all K n T:PySem.W.kitOne K (.type (fU n)) (.type (fU T))=some (sZ n T):=by
 cases n<;>cases T<;>with_unfolding_all rfl
def jX:CallR X (.builtin "isinstance") (fun xs H Q=>∃x T n,xs=[x,.ty (fU T)]/\tyN H x=some n/\Q (.bl (sZ n T)) H):=by
 intro pins s σ H xs us Q I r h;obtain⟨x,T,n,rfl,hn,q⟩:=h;obtain⟨u,w',rfl,rx,rfl⟩:=zI r;exact Kr I rx (tyOf_of hn) (kit_all X.K n T) fun tk=>⟨.bl (sZ n T),H,I.tok tk,rfl,q⟩
def Qf:OpR X (binaryOp .FloorDiv) (rI (fun _ j=>0 < j/\j < 18446744073709551616) fun i j=>.int (i / j)):=opI fun i j _ _ _ _ _ hc q=>by
 refine floordiv_int (by lia) (by grind) (.inl (PyProof.noPylong_of_log2 ?_));have h3:j.natAbs < 2 ^ 64 :=by lia
 exact AS ((Nat.log2_lt (by omega)).mpr h3) (by decide)
end
structure JE(X:Cx)(e:Expr)(t:TE):Prop where
 h:PE X e t
structure JT(X:Cx)(e:Expr)(t:TT):Prop where
 h:PT X e t
structure JW(X:Cx)(e:Expr)(t:TT):Prop where
 h:PW X e t
structure JA(X:Cx)(es:List Expr)(t:TA):Prop where
 h:PA X es t
structure JS(X:Cx)(st:Stmt)(t:TS):Prop where
 h:PS X st t
structure JB(X:Cx)(st:List Stmt)(t:TS):Prop where
 h:PSs X st t
structure JG(X:Cx)(e:Expr)(t:TG):Prop where
 h:PG X e t
structure JGs(X:Cx)(es:List Expr)(t:TGs):Prop where
 h:PGs X es t
structure JI(X:Cx)(tg e:Expr)(t:TI):Prop where
 h:PI X tg e t
structure JF(X:Cx)(ifs:List Expr)(t:TT):Prop where
 h:K2 X ifs t
structure JO(X:Cx)(e:Option Expr)(t:TO):Prop where
 h:PO X e t
section
variable {X:Cx}{a b c e o i:Expr}{es:List Expr}{ta tb tc te:TE}{tA tB':TT}{t:TA}{pos:Pos}{rest:List Expr}
def je_bltn(hg:Gl X x)(hm:X.mg x=none)(hv:bootBuiltins x=some u)(r:RelV v u)(hn:x ≠ "__name__":=by decide)(hd:(x==("__debug__" : Str))=false:=by decide):JE X (.Name x pos) (tC v):=⟨pe_bltn hg hm hv r hn hd⟩
def iD:Expr->Bool
 |.Name _ _=>true | .Call _ _ _ _=>true | .Subscript _ _ _=>true | .Attribute _ _ _=>true | .IfExp _ _ _ _=>false | _=>false
def aH(h:iD e=true):∀whole,isTrue e env whole=(do let v <- whole;standAt e.pos;holding [v] (truthy v)):=by
 cases e<;>first | (intro _;rfl) | exact absurd h AN
def mP(ha:JE X e te)(hr:JA X es t)(hs:xX e=true:=by rfl):JA X (e::es) (Vp te t):=⟨qa_cons ha.h hr.h hs⟩
def je_call{p}(F:FnOk X.prog X.w X.K X.mg X.base CX k f fd ps sp)(hr:Room k X.A)(hg:Gl X x)(hm:X.mg x=some (.ref f))(hk:PySem.W.keepIn X.K (.ref f)=true)(hb:Binds X.K fd ps ds)(hd:Vals dvs ds)(hx:kY CX X E)(ha:JA X (e::es) t)(hdb:(x==("__debug__" : Str))=false:=by decide)(hs:xX e=true:=by rfl)(hall:es.all xX=true:=by rfl):JE X (.Call (.Name x p) (e::es) [] pos) (Vq sp dvs E t):=⟨qe_call F hr hg hm hk hb hd hx ha.h hdb hs hall⟩
def vL{p}(hc:CallR X (.type T) r)(hg:Gl X x)(hm:X.mg x=none)(hv:bootBuiltins x=some (.type T))(ha:JA X (e::es) t)(hn:x ≠ "__name__":=by decide)(hdb:(x==("__debug__" : Str))=false:=by decide)(hs:xX e=true:=by rfl)(hall:es.all xX=true:=by rfl):JE X (.Call (.Name x p) (e::es) [] pos) (tCB r t):=⟨J5 hc hg hm hv ha.h hn hdb hs hall⟩
def je_comp{elt iter:Expr}{x:Str}{px:Pos}{ifs:List Expr}{scope:Scope}{cl:List (Str×Addr)}{wi:TI}{tc:TT}(hc:X.calm=true)(hN:(x::X.N).Nodup)(K:vB X x scope cl)(hi:JI X (.Name x px) iter wi)(ht:∀fp C s₂ H₂,JF (cK X x scope cl fp C s₂ H₂) ifs tc)(he:∀fp C s₂ H₂,JE (cK X x scope cl fp C s₂ H₂) elt te)(hs:∀v,foldedSetIterable iter X.env v=pure v:=by intro _;rfl):JE X (.ListComp elt [⟨.Name x px,iter,ifs,0⟩] scope pos) (yI wi tc te) :=
 ⟨pe_comp hc hN K hi.h (fun fp C s₂ H₂=>(ht fp C s₂ H₂).h) (fun fp C s₂ H₂=>(he fp C s₂ H₂).h) hs⟩
variable {tg:Expr}
end
section
variable {X:Cx}{st:Stmt}{sts:List Stmt}{t u:TS}{e c:Expr}{te:TE}{tc:TT}{pos:Pos}
end
section
variable {P:Program}{w:World}{K:Dl}{mg:Str->Option Value}{base:Heap}
def Fun.okJ{st}(F:Fun K x qual st f fd)(S:FnScope N ps (mX st))(len:∀vs H Q E,sp vs H Q E->vs.length=ps.length)(hbody:∀cdv A outer s H vs Q E,Room k (A.deeper (envOfC qual (mX st) s.heap.objs.size f cdv))->sp vs H Q E ->
   ∃t,JB (QX CX0 P w K mg base N qual (mX st) f cdv A outer s H E).nox (xV st) t/\t { nx:=fun _ H'=>Q .non H',rt:=Q } (start N vs) H):FnOk P w K mg base CX0 (k+1) f fd ps sp :=
 F.ok S len fun cdv A outer s H vs Q E hr h=>let ⟨t,ht,q⟩:=hbody cdv A outer s H vs Q E hr h;⟨t,ht.h,q⟩
end
theorem oM: ∀(names:List (Str×NameKind))acc,(∀y∈names,y.2=.free->∃c,env.cells.lookup y.1=some c)->(∀y c,acc.lookup y=some c->env.cells.lookup y=some c) ->
  ∃cl,(forIn names acc fun x r=>(do
    if x.2==NameKind.free then do
     let c <- cellOf env x.1
     pure (ForInStep.yield ((x.1,c)::r))
    else pure (ForInStep.yield r):Sem (ForInStep (List (Str×Addr)))))=pure cl/\(∀y c,cl.lookup y=some c->env.cells.lookup y=some c)/\(∀y∈names,y.2=.free->∃c,cl.lookup y.1=some c)/\∀y c,acc.lookup y=some c->∃c',cl.lookup y=some c'
 |[],acc,_,ha=>⟨acc,rfl,ha,fun y hy=>absurd hy (by simp),fun y c h=>⟨c,h⟩⟩
 | (n,k)::r,acc,hf,ha=>by
  cases hk:(k==NameKind.free) with
  |false =>
   refine Zk (oM r acc (fun y hy=>hf y (AK _ hy)) ha) fun cl e h1 h2 h3=>⟨cl,?_,h1,fun y hy hy2=>?_,h3⟩
   .grind
   .grind
  |true =>
   have ek:k=.free :=by lia
   refine el11 (hf (n,k) AF ek) fun c hc=>?_
   have ha':∀y c',((n,c)::acc).lookup y=some c'->env.cells.lookup y=some c':=fun y c' h=>by
    rw[List.lookup_cons] at h
    cases hy:y==n with
    |true =>
     rw[hy] at h;have:y=n :=by lia
     subst this
     rwa [hc]
    |false =>
     rw[hy] at h;exact ha y c' h
   refine Zk (oM r ((n,c)::acc) (fun y hy=>hf y (AK _ hy)) ha') fun cl e h1 h2 h3=>?_;have hco:cellOf env n=pure c:=by delta cellOf;rw[hc]
   refine⟨cl,?_,h1,fun y hy hy2=>?_,fun y c' h=>?_⟩
   .grind
   .grind
   .grind
def xC(xs:List Str)(scope:Scope)(N:List Str)(sc:Scope):Bool :=
 scope.names.all (fun y=>decide (y.2≠.cell)&&(decide (y.2≠.free) || decide (sc.names.lookup y.1=some .cell))&&(decide (y.2≠.local) || (decide (scope.names.lookup y.1=some .local)&&decide (y.1∉N))))&&decide (scope.kind=.function)&&xs.all (fun x=>decide (scope.names.lookup x=some .local))
def aF(hN:X.N=N)(hsc:X.env.scope=sc)(hce:X.env.cells=cellsFrom L sc.names [])(h:xC xs scope N sc=true):∃cl,tK X xs scope cl:=by
 subst hN hsc
 delta xC at h
 rw[BL,BL,Bz] at h;obtain⟨⟨h1,h2⟩,h3⟩:=h
 have get:∀y∈scope.names,y.2≠.cell/\(y.2=.free->X.env.scope.names.lookup y.1=some .cell)/\(y.2=.local->scope.names.lookup y.1=some .local/\y.1∉X.N):=fun y hy=>by
  have q:=h1 y hy;rw[BL,BL] at q;obtain⟨⟨q1,q2⟩,q3⟩:=q;refine⟨Ac q1,fun e=>?_,fun e=>?_⟩
  .lia
  .lia
 refine Zk (oM scope.names [] (fun y hy hf=>hce▸kC ((get y hy).2.1 hf)) (fun y c z=>by simp at z)) fun cl e k1 k2 _=>?_;refine⟨cl,⟨?_,fun y hy=>(get y hy).1,Ac h2,fun y hy q=>((get y hy).2.2 q).1,fun x hx=>Ac (Bz.1 h3 x hx),fun y hy q=>((get y hy).2.2 q).2,fun y hy q=>⟨?_,.inl ((get y hy).2.1 q),k2 y hy q⟩,k1⟩⟩
 .have e':=Bg (fun m:Sem (List (Str×Addr))=>m >>= fun cs=>(pure cs:Sem (List (Str×Addr)))) e
  exact e'
 .show X.env.scope.names.lookup y.1≠some .local
  rw[(get y hy).2.1 q]
  decide
def cN{X:Cx}{elt iter:Expr}{x:Str}{px pos:Pos}{ifs:List Expr}{scope:Scope}{wi:TI}{tc:TT}{te:TE}(hc:X.calm=true)(hN:(x::X.N).Nodup)(K:∃cl,vB X x scope cl)(hi:JI X (.Name x px) iter wi)(ht:∀cl fp C s₂ H₂,JF (cK X x scope cl fp C s₂ H₂) ifs tc)(he:∀cl fp C s₂ H₂,JE (cK X x scope cl fp C s₂ H₂) elt te)(hs:∀v,foldedSetIterable iter X.env v=pure v:=by intro _;rfl):JE X (.ListComp elt [⟨.Name x px,iter,ifs,0⟩] scope pos) (yI wi tc te) :=
 let ⟨cl,K⟩:=K
 je_comp hc hN K hi (ht cl) (he cl) hs
section
variable {X:Cx}{o e:Expr}{es:List Expr}{to:TE}{t:TA}{name:Str}{apos cpos:Pos}{T id:String}{r:V->List V->Hp->VK->Prop}
end
section
variable {X:Cx}{pos:Pos}
def m2_of(hb:attributeBase o m X.env (eval o X.env)=eval o X.env)(hl:(apos.endLine==cpos.line)=true)(he:xX e=true)(hf:xX f=true):M2 X o m apos e f cpos:=by
 have e1:starEach [e,f] X.env=[(false,eval e X.env),(false,eval f X.env)]:=by
  rw[gJ he,gJ hf]
  rfl
 refine⟨hb,?_,hl,?_⟩
 .rw [e1];rfl
 .rw [e1];rfl
end
section
variable {X:Cx}{o i value:Expr}{td ty tv:TE}{pos pos':Pos}
end
end L2
namespace PySem.SeqAt
open MeetsSeq
def Xp b u l dd es n sl:
  Meets (Builtin.«str.__eq__» ⟨[.str b u,.ref l],[]⟩) (fun _ R s=>s.heap.get? l=some ⟨.type "dict",dd,.dict es n,sl⟩/\R (.ok (.ret .notImplemented)) s) :=
 .of_wp fun prog w A R s h=>by
  obtain⟨hp,g,d,tk,os⟩:=s;obtain⟨hl,h⟩:=h
  wp_walk using wpAny_load hl
  exact⟨_,rfl,h⟩
def iA b u l dd es n sl:
  Meets (Builtin.«dict.__eq__» ⟨[.ref l,.str b u],[]⟩) (fun _ R s=>s.heap.get? l=some ⟨.type "dict",dd,.dict es n,sl⟩/\R (.ok (.ret .notImplemented)) s) :=
 .of_wp fun prog w A R s h=>by
  obtain⟨hp,g,d,tk,os⟩:=s;obtain⟨hl,h⟩:=h;have f1:=F.sub_str_dict
  wp_walk using wpAny_load hl
  exact⟨_,rfl,h⟩
def vw_eq_str_dict(hl:s.heap.get? l=some ⟨.type "dict",dd,.dict es n,sl⟩)(hu:A.units < cLine):
  EqAt A s (.str b u) (.ref l) false:=fun prog w E Q h=>by
 refine Aw (wpAny_ite_split (fun hab=>absurd (eq_of_beq hab) nofun) (fun _=>AA ?_))
 have R:RcAt A s (.str b u) (.ref l) false:=fun prog w E Q h=>rc_eq_decline_or (typeIs_str s b u) ⟨_,hl,rfl⟩ rfl F.sub_dict_str F.slot_str_eq F.slot_dict_eq_refl
  (fun _ hq=>Ce F.slot_str_eq (typeIs_str s b u) F.entry_str_eq (F.args_str_eq_2 _ _) (Xp b u l dd es n sl) ⟨hl,hq⟩)
  (fun _ hq=>Ce F.slot_dict_eq_refl ⟨_,hl,rfl⟩ F.entry_dict_eq (F.args_dict_eq_2 _ _) (iA b u l dd es n sl) ⟨hl,hq⟩)
  (fun _ hq=>wpAny_of_eq rfl hq) (.inr hu) h
 exact R prog w E _ (BD h)
end PySem.SeqAt
namespace L2
open PySem PySem.Spec PyProof.Rows
section
variable {X:Cx}
theorem jE(hx:∀(z:Str)(t:Tok),SeqAt.EqAt A s (.str z t) v (eqV (.str z) x)):∀{l:List Str}{us},Vals (l.map V.str) us->∀u∈us,SeqAt.EqAt A s u v (eqU x u)
 |[],_,.nil=>fun u hu=>by cases hu
 |z::l,u::us,.cons r t=>fun u' hu=>by
  rcases Af.mp hu with rfl | hu
  .obtain ⟨t',rfl⟩:=r
   exact hx z t'
  .exact jE hx t u' hu
def sN(I:Inv X pins σ H s)(rx:RelV x v)(hc:tyN H x=some c)(hu:A.units < cLine)z t:
  SeqAt.EqAt A s (.str z t) v (eqV (.str z) x):=by
 cases x with
 |non=>exact oN ⟨t,rfl⟩ rx rfl rfl
 |bl b=>exact oN ⟨t,rfl⟩ rx rfl rfl
 |int i=>exact oN ⟨t,rfl⟩ rx rfl rfl
 |str y=>exact oN ⟨t,rfl⟩ rx rfl rfl
 |ref a =>
  cases rx;have hc:(H a).bind tyH=some c:=hc
  cases e:H a with
  |none=>rw[e] at hc;cases hc
  |some o =>
   rw[e] at hc;have ok:=I.hok a o e
   cases o with
   |lst xs =>
    obtain⟨_,its,n,_,h1⟩:=ok;exact SeqAt.EqAt.str_list z t ⟨_,h1,rfl,n,rfl⟩ hu
   |tup xs =>
    obtain⟨_,its,_,p⟩:=ok;exact SeqAt.EqAt.str_tuple z t (IsTupN.is p) hu
   |dK kvs =>
    obtain⟨_,_,vs,_,p⟩:=ok;obtain⟨⟨cls,dd,dat,sl⟩,es,ep,h1,h2,h3,_⟩:=p;have h2:=h2.1;subst h2 h3;exact SeqAt.vw_eq_str_dict h1 hu
   |dT kvs =>
    obtain⟨_,_,xs,_,⟨cls,dd,dat,sl⟩,es,ep,h1,h2,h3,_⟩:=ok;have h2:=h2.1;subst h2 h3;exact SeqAt.vw_eq_str_dict h1 hu
   |frz ob u =>
    cases u with
    |lst xs =>
     obtain⟨_,_,its,n,_,h1⟩:=ok;exact SeqAt.EqAt.str_list z t ⟨_,h1,rfl,n,rfl⟩ hu
    |_=>cases hc
   |_=>cases hc
 |byt b=>cases hc
 |flt b=>cases hc
 |ty b=>cases hc
def inS(l:List Str):V->Bool
 |.str z=>l.contains z
 |_=>false
theorem aC x:∀{l}{us},Vals (l.map V.str) us->us.any (eqU x)=inS l x
 |[],_,.nil=>by cases x<;>rfl
 |z::l,u::us,.cons r t=>by
  obtain⟨t',rfl⟩:=r;rw[BJ,aC x t]
  cases x with
  |str y =>
   show((z==y) || l.contains y)=(z::l).contains y
   congr 1
   rw[Cw,beq_iff_eq,beq_iff_eq];exact eq_comm
  |_=>rfl
def rInS(K:Dl)(neg:Bool):R2:=fun x y H Q=>∃p l c,y=.ref p/\(SqL K H p (List.map V.str l)\/SqT K H p (List.map V.str l))/\tyN H x=some c/\Q (.bl (if neg then !inS l x else inS l x)) H
def Wb(hu:X.A.units+1 < cLine):OpR X (compareOp .In) (rInS X.K false):=by
 intro pins s σ H x y v u Q I rx ry h;obtain⟨p,l,c,rfl,hq,hc,q⟩:=h;cases ry
 rcases hq with hq | hq
 .obtain ⟨its,r,pl,hz⟩:=I.list hq
  refine SeqAt.in_listAt (eqU x) pl.isList (fun w hw=>jE (sN I rx hc hu) r w (by grind)) ⟨.bl _,H,I,rfl,?_⟩;rw[show its.toArray.any (eqU x)=its.any (eqU x) by simp,aC x r];exact q
 .obtain ⟨its,r,pl,hz⟩:=I.tuple hq
  refine SeqAt.in_tupleAt (eqU x) pl (fun w hw=>jE (sN I rx hc hu) r w (by simpa using hw)) ⟨.bl _,H,I,rfl,?_⟩;rw[show its.toArray.any (eqU x)=its.any (eqU x) by simp,aC x r];exact q
def rCatTA(K:Dl):R2:=fun x y H Q=>∃a b xs ys,x=.ref a/\y=.ref b/\SqT K H a xs/\SqT K H b ys/\xs.length+ys.length<=sizeLine /\
 (xs=[]->Q (.ref b) H)/\(xs≠[]->ys=[]->Q (.ref a) H)/\(xs≠[]->ys≠[]->∀p,H p=none->Q (.ref p) (upd H p (.tup (xs++ys))))
def Wc:OpR X (binaryOp .Add) (rCatTA X.K):=by
 intro pins s σ H x y v u Q I rx ry h;obtain⟨a,b,xs,ys,rfl,rfl,ha,hb,hz,q0,q1,q2⟩:=h
 by_cases hx:xs=[]
 .cases rx
  cases ry;refine aJ (I.tuple ha) fun its r1 p1 _=>aJ (I.tuple hb) fun its2 r2 p2 _=>?_;have e:=r1.nil_iff.mpr hx;subst e;obtain⟨⟨cls,dd,data,sl⟩,ho,hc,n,hd⟩:=id p1;obtain⟨⟨cls2,dd2,data2,sl2⟩,ho2,hc2,n2,hd2⟩:=id p2;subst hc hd hc2 hd2
  exact concat_meets ⟨_,ho,rfl⟩ ⟨_,ho2,rfl⟩ noFill_tuple_add seq_tuple_add DT DP (DO _ _)
   (tuple_addW0 a b _ its2.toArray n n2 dd dd2 sl sl2 rfl) ⟨ho,ho2,⟨.ref b,H,I,rfl,q0 hx⟩⟩
 .exact op_catT pins s σ H (.ref a) (.ref b) v u Q I rx ry ⟨a,b,xs,ys,rfl,rfl,ha,hb,hx,hz,q1 hx,q2 hx⟩
def js_setC{py px pos spos}(hNd:X.N.Nodup)(hi:X.N[i]?=some y)(hy:Loc X.env.scope y)(hc:X.calm=true)(hN:(x::X.N).Nodup)(K:vB X x scope cl)(hI:JI X (.Name x px) iter wi)(ht:∀fp C s₂ H₂,JF (cK X x scope cl fp C s₂ H₂) ifs tc)(he:∀fp C s₂ H₂,JE (cK X x scope cl fp C s₂ H₂) elt te)(hs:∀v,foldedSetIterable iter X.env v=pure v:=by intro _;rfl)(hsw:swapsWith (.ListComp elt [⟨.Name x px,iter,ifs,0⟩] scope pos) (some (.Name y py)) spos.line X.env=pure true:=by rfl)(hf:X.fn y=true\/X.env.scope.names.lookup y=some .local:=by first | exact .inl rfl | exact .inr rfl | assumption):
  JS X (.Assign [.Name y py] (.ListComp elt [⟨.Name x px,iter,ifs,0⟩] scope pos) spos) (tAsg (yI wi tc te) (yU i)):=by
 refine⟨fun pins s σ H D I h=>?_⟩;rw[exec_Assign_Name_used _ _ _ _ hsw];refine AA (wpAny_standAt (AA (AA (CV (use:=some (assign (.Name y py) X.env)) rfl hs K.clos K.kind K.names (thn (hI.h pins s σ H _ I h) fun xv s₁ h₁=>thn h₁ fun itv s₂ h₂=>?_)))));obtain⟨it,fp,tn,J,H₂,e,I₂,T,st₂,f₂,R⟩:=h₂;subst e
 apply pY (Q:=fun x H1=>yU i x σ H1 D.nx) hc K (fun _ _ _ _=>gY (i:=0) hN rfl (.inl (BH (K.hx x (.head _)))) (.inr (BH (K.hx x (.head _))))) (fun fp C s₂ H₂=>(ht fp C s₂ H₂).h) (fun fp C s₂ H₂=>(he fp C s₂ H₂).h) (by rintro ws vs y H Q l rfl _ q;match ws,l with | [_],_=>exact q) I₂ T st₂ f₂ (fun D hD=>let ⟨W,w0,tu⟩:=R D hD;⟨W,w0,fun i m ys H w=>(tu i m ys H w).imp id fun zz=>sM zz fun g st=> ⟨g,fun x H' y=>⟨[x],rfl,rfl,st x H' y⟩⟩⟩)
 intro D' C H' s4 m hn hCL hC0 hCc hCsz I4 q;refine wpAny_assign_Name (sD I4 hNd hi hy (v:=.ref D') rfl (fun s5 I5 hsb=>?_) hf);obtain⟨b,hsb,hb⟩:=hsb;have hbC:C≠b :=by grind
 exact⟨m,hn.at' fun o e=>(hsb.2 C hbC).trans e,fun h' hsb'=>AC (AC ⟨_,H',I5.turned (t':=s5.toks) (fun b o hb e=>(hsb'.2 b hb).trans e) hC0 hCL (.inr (Aa I₂.sz hCsz)) hCc fun p hp z=>absurd (AS (AG (I₂.pin p hp).1) (by lia)) (BI _),q⟩)⟩
end
theorem ZP(h:H p=none)o:Same H (upd H p o):=fun b u q=>by rwa [mQ (kK q h)]
section
variable {X:Cx}
def rCatU:R2:=fun x y H Q=>∃a b xs ys,x=.ref a/\y=.ref b/\H a=some (.tup xs)/\H b=some (.tup ys)/\xs.length+ys.length<=sizeLine/\∀r H',Same H H'->H' r=some (.tup (xs++ys))->(H r=none\/r=a\/r=b)->Q (.ref r) H'
def op_catU:OpR X (binaryOp .Add) rCatU:=by
 intro pins s σ H x y v u Q I rx ry h;exact el46 h fun a b xs ys e1 e2 ha hb hz q=>Wc pins s σ H x y v u Q I rx ry ⟨a,b,xs,ys,e1,e2,SqT.of ha,SqT.of hb,hz,fun h=>q b H (Same.refl H) (by rwa [h]) (.inr (.inr rfl)),fun _ h=>q a H (Same.refl H) (by grind) (.inr (.inl rfl)),fun _ _ p hp=>q p _ (ZP hp _) fQ (.inl hp)⟩
end
end L2
namespace HT
open PySem PyProof.Rows
section
variable {prog:Program}{w:World}{A:Around}{E:Value->Shared->Prop}{s:Shared}
def whole_of_tuple{t sl:Addr}{items:Array Value}{vl vu:Value}{lo hi:Option Int}{Q:Value->Shared->Prop}(ht:IsTup s.heap t items)(hs:s.heap.IsSliceOf sl vl vu .none)(pl:IsPart vl lo)(pu:IsPart vu hi)(hw:sIx items.size 0 lo=0/\sIx items.size items.size hi=items.size)(h:Q (.ref t) s):wpAny (model prog w) A (getItem (.ref t) (.ref sl)) Q E s:=by
 obtain⟨os,hos,hcs,hds⟩:=id hs;have hTs:s.TypeIs (.ref sl) "slice":=⟨os,hos,hcs⟩;unfold getItem
 try with_reducible refine Aw ?_
 first | refine AA (AC ?_) | skip
 refine AA (wpAny_sequenceKey ht.typeIs (by decide) ?_);refine AA (BB (name:=Str.ofString "__getitem__") ht.typeIs BF (Ap BF ht.typeIs entry_tuple_getitem ?_ (args_tuple_getitem _ _)));show wpAny _ _ (Builtin.Tuple.tupleItemsOf (.ref t) >>= _) _ _ s;refine AA (tupleItemsOf_ ht ?_);refine AA (Cf hTs ?_)
 rw[AW (by decide)];refine AA (qG hs pl pu ?_);rw[hw.1,hw.2];show wpAny _ _ (if (((0:Nat):Int)==0&&(1:Int)==1&&(items.size - 0)==items.size)=true then _ else _) _ _ s;rw[AW (by simp)];unfold Builtin.Tuple.tupleIsExact;refine AA (AA (Cf ht.typeIs (AC ?_)));rw[AW (by decide)]
 first
  |exact AA (B8 (AC ⟨_,rfl,AC h⟩))
  |exact AA (AC (AC ⟨_,rfl,AC h⟩))
  |exact AA (AC ⟨_,rfl,AC h⟩)
end
end HT
namespace L2
open PySem PySem.Spec PyProof.Rows
section
variable {X:Cx}
def rSlU:V->Option Int->Option Int->Hp->VK->Prop:=fun x lo hi H Q=>∃a xs,x=.ref a/\H a=some (.tup xs)/\∀r H',Same H H'->H' r=some (.tup (QZ xs lo hi))->(H r=none\/r=a)->Q (.ref r) H'
def sl_tupU:SlR X rSlU:=by
 intro pins s σ H x v vl vu lo hi sl Q I rx hs pl pu h;obtain⟨a,xs,rfl,hx,q⟩:=h
 by_cases hw:HT.sIx xs.length 0 lo=0/\HT.sIx xs.length xs.length hi=xs.length
 .cases rx
  obtain⟨its,r,ht,hz⟩:=I.tuple (SqT.of hx);have hlen:its.toArray.size=xs.length:=by rw[Au];exact r.length.symm
  refine⟨"tuple",_,BF.lookup,ht.typeIs,?_⟩;refine HT.whole_of_tuple ht hs pl pu (by rw[hlen];exact hw) ⟨.ref a,H,I,rfl,q a H (Same.refl H) ?_ (.inr rfl)⟩;unfold QZ;rw[hw.1,hw.2,hx]
  simp
 .exact sl_tup pins s σ H _ v vl vu lo hi sl Q I rx hs pl pu ⟨a,xs,rfl,SqT.of hx,hw,fun p hp=>q p _ (ZP hp _) fQ (.inl hp)⟩
end
end L2
namespace PySem
open PySem.Spec PyProof.Rows PyProof.Rows.F
def yT:entryFor table "dict.update.loop" = some Builtin.«dict.update.loop»:=entryFor_of_tree (by kernel_rfl)
def aD:plainId "dict.update.loop" = true:=by decide +kernel
section
variable {prog:Program}{w:World}{κ:Type}[DecidableEq κ]{knd:KeyKind prog w κ}{A:Around}{d it t:Addr}{items:Array Value}{ps:List (κ×Value)}{res:Value}
def tW{h h':Heap}(x:h.IsTuple p xs)(e:∀o,h.get? p=some o->h'.get? p=some o):h'.IsTuple p xs:=let ⟨o,q,r⟩:=x;⟨o,e o q,r⟩
def X6{h h':Heap}(x:h.IsTupleIter it p i)(e:∀o,h.get? it=some o->h'.get? it=some o):h'.IsTupleIter it p i:=let ⟨o,q,r⟩:=x;⟨o,e o q,r⟩
end
def kR:typeLookup (.type "tuple") "keys" = pure none:=by rw[typeLookup_type,Df];kernel_rfl
def gR
  (hx:s.heap.get? a=some o)(hc:o.cls=.type "tuple")(hdat:o.data=.seq xs k)(hd:o.dict=none)(hA:A.handled=none)(h:∀(h':Heap)(tk:Nat),(∀b u,s.heap.get? b=some u->h'.get? b=some u)->Q none { s with heap:=h',toks:=tk }):wpAny (model prog w) A (getAttr? (.ref a) "keys") Q E s:=by
 obtain⟨c,dct,dat,sl⟩:=o
 simp only at hc hdat hd
 subst hc hdat hd;obtain⟨hp,g,d,tk,os⟩:=s;have hT:∀tk',(⟨hp,g,d,tk',os⟩:Shared).TypeIs (.ref a) "tuple":=fun _=>⟨_,hx,rfl⟩;have f1:=sub_AttributeError;have f3:=DJ.lookup;have f4:=DJ.bind (.ref a);have f5:=am_tuple_getattr_none
 delta getAttr? getAttrBy? getAttrBy
 repeat (any_goals (first | assumption | exact hT _ | ((with_reducible show wpAny _ _ (call (Value.builtin "tuple.__getattribute__") _ _) _ _ _);refine Ce DJ (hT _) am_entry_tuple_getattribute (F.args_tuple_getattribute_2 _ _) (meets_getattribute_miss_tuple a xs k sl "keys" _ kR rfl (by decide)) ⟨hx,hA,fun h' tk' e hx'=>?_⟩) | wp_step))
 obtain⟨t',u',he⟩:=hx'.there
 delta getattributeRaised
 repeat (any_goals (first | assumption | wp_step))
 exact h h' tk' hx'.of.keeps
end PySem
namespace L2
open PySem PySem.Spec PyProof.Rows
abbrev eA(H:Hp):List Addr->List (Key×V)->Prop:=Paired fun a p=>H a=some (.tup [kV p.1,p.2])
theorem sR:∀{pa:List Addr}{its},Vals (pa.map V.ref) its->its=pa.map Value.ref
 |[],_,.nil=>rfl
 |_::_,_,.cons h r=>by
  cases h;rw[sR r];rfl
end L2
namespace L2
open PySem PySem.W PyProof.Rows
def lF(n:Nat)(P:α->Prop):KasT α->Prop
 |.ret a=>P a
 |.ask i j k=>i < n/\j < n/\∀b,lF n P (k b)
def oZ(lt:Nat->Nat->Bool):KasT α->α
 |.ret a=>a
 |.ask i j k=>oZ lt (k (lt i j))
theorem hW{f:α->KasT β}:∀t,lF n P t->(∀a,P a->lF n R (f a))->lF n R (t.bind f)
 |.ret a,h,hf=>hf a h
 |.ask i j k,h,hf=>⟨h.1,h.2.1,fun b=>hW (k b) (h.2.2 b) hf⟩
theorem Qx: ∀t,lF n P t->P (oZ lt t)
 |.ret a,h=>h
 |.ask i j k,h=>Qx (k (lt i j)) (h.2.2 _)
theorem kWp{J:Shared->Prop}(hc:∀i j C s,i < n->j < n->J s->(∀s',J s'->C (lt i j) s')->cmp i j C s):
  ∀t{Q:α->Shared->Prop}{s},lF n P t->J s->(∀s',J s'->P (oZ lt t)->Q (oZ lt t) s')->t.kasWp cmp Q s
 |.ret a,Q,s,h,hj,hq=>hq s hj h
 |.ask i j k,Q,s,h,hj,hq=>hc i j _ s h.1 h.2.1 hj fun s' hj'=>kWp hc (k (lt i j)) (h.2.2 _) hj' hq
def Ord(n:Nat)(p:Array Nat):Prop:=p.toList.Perm (List.range n)
def Ord.lt(h:Ord n p)(h0:0 < n)i:p.getD i 0 < n:=by
 by_cases hi:i < p.size
 .have e:p.getD i 0=p[i] :=by simp_all
  rw[e];have hm:p[i]∈p.toList:=by simp
  exact BR.mp (h.mem_iff.mp hm)
 .lia
def Ord.size(h:Ord n p):p.size=n:=by
 have:=h.length_eq
 rwa [An,A2] at this
def Ord.rev(h:Ord n p)i j:Ord n (kas_rev p i j):=(Array.Perm.toList (mirror_perm p i j _)).trans h
def Ord.bubble(h:Ord n p)i j:Ord n (bubble p i j):=(Array.Perm.toList (bubble_perm p i j)).trans h
section
variable {n:Nat}(h0:0 < n)
include h0
theorem nA(h:Ord n p):∀f m,lF n (fun _=>True) (kas_asc p f m)
 |0,m=>trivial
 |f+1,m=>⟨h.lt h0 _,h.lt h0 _,fun b=>by
  cases b with
  |true=>exact trivial
  |false=>exact nA h f (m+1)⟩
theorem sF:∀f p m q,Ord n p->lF n (fun r=>Ord n r.1) (kas_desc f p m q)
 |0,p,m,q,h=>h
 |f+1,p,m,q,h=>⟨h.lt h0 _,h.lt h0 _,fun b=>by
  cases b with
  |true =>
   split
   .exact sF f _ _ _ (h.rev _ _)
   .exact sF f _ _ _ h
  |false =>
   refine⟨h.lt h0 _,h.lt h0 _,fun b=>?_⟩
   cases b with
   |true=>exact h
   |false=>exact sF f _ _ _ h⟩
def aR m r(h:Ord n p):lF n (fun r=>Ord n r.2) (kas_tail3 m r p) :=
 hW _ (nA h0 (h.rev 0 m) _ _) fun _ _=>h.rev 0 m
def oF m r(h:Ord n p):lF n (fun r=>Ord n r.2) (kas_descPart m r p) :=
 hW _ (sF h0 _ _ _ _ h) fun x hx=>by
  split
  .exact aR h0 _ _ (hx.rev _ _)
  .exact aR h0 _ _ hx
def KF r(h:Ord n p):lF n (fun r=>Ord n r.2) (kas_count r p) :=
 hW _ (nA h0 h _ _) fun x _=>by
  split
  .exact h
  .split
   .refine ⟨h.lt h0 _,h.lt h0 _,fun b=>?_⟩
    cases b with
    |true=>exact h
    |false=>exact oF h0 _ _ (h.rev _ _)
   .exact oF h0 _ _ h
theorem qL k(h:Ord n p):∀f l r,lF n (fun _=>True) (kas_place p k f l r)
 |0,l,r=>trivial
 |f+1,l,r=>by
  unfold kas_place
  split
  .exact trivial
  .refine ⟨h.lt h0 _,h.lt h0 _,fun b=>?_⟩
   cases b with
   |true=>exact qL k h f _ _
   |false=>exact qL k h f _ _
theorem JK:∀f p k,Ord n p->lF n (Ord n) (kas_bin f p k)
 |0,p,k,h=>h
 |f+1,p,k,h=>hW _ (qL h0 k h _ _ _) fun l _=>JK f _ _ (h.bubble _ _)
def dI:lF n (Ord n) (kas_sort n) :=
 hW _ (KF h0 n (List.Perm.refl _)) fun r hr=>by
  split
  .exact JK h0 _ _ _ hr
  .exact hr
end
def eV(lt:Nat->Nat->Bool)(vs:List Value):List Value:=(oZ lt (kas_sort vs.length)).toList.map fun i=>vs.getD i Value.none
def jM(lt:Nat->Nat->Bool)(ys:List V):List V:=(oZ lt (kas_sort ys.length)).toList.map fun i=>ys.getD i .non
def Vv lt:(oZ lt (kas_sort 0)).toList=[]:=rfl
def fL(h:vs.length < 2):eV lt vs=vs:=by
 cases vs with
 |nil=>rfl
 |cons v vs =>
  cases vs with
  |nil=>rfl
  |cons u vs=>exact absurd h (Nat.not_lt.2 (Br 2 vs.length))
def jW lt n(h:0 < n):Ord n (oZ lt (kas_sort n)):=Qx _ (dI h)
def cO lt vs:(eV lt vs).length=vs.length:=by
 by_cases h:vs.length < 2
 .rw [fL h]
 .delta eV
  rw[AB,A2,(jW lt vs.length (by omega)).size]
def uK(h:Heap)(a:Addr)(vs:List Value):Heap:=((h.update a (Obj.mapSeq fun _=>(#[]:Array Value))).push (seqObj "tuple" vs.toArray 0)).push (seqObj "list" #[] 0)
def XW{us:List Value}(e:h.get? a=some (seqObj "list" us.toArray n)):∃k,(h.update a (Obj.mapSeq fun _=>(#[]:Array Value))).get? a=some (seqObj "list" #[] k)/\(uK h a vs).get? a=some (seqObj "list" #[] k) :=
 ⟨_,get?_update_seq e fun _=>#[],AD _ (AD _ (get?_update_seq e fun _=>#[]))⟩
def Qr(e:h.get? b=some o)(n:b≠a):(uK h a vs).get? b=some o :=
 AD _ (AD _ ((Cz _ _ _ _ n).trans e))
def wM(ea:s.heap.get? a=some (seqObj "list" vs.toArray n))(few:vs.length < 64)(hk:2<=vs.length->∀Q:SortKind->Shared->Prop,Q κ { s with heap:=uK s.heap a vs }->wpAny (model P' w) A (keyKind' vs.toArray) Q (fun _ _=>False) { s with heap:=uK s.heap a vs })(hc:∀i j,i < vs.length->j < vs.length->∀Q:Bool->Shared->Prop,Q (lt i j) { s with heap:=uK s.heap a vs }->wpAny (model P' w) A (keyLt' κ (vs.getD i Value.none) (vs.getD j Value.none)) Q (fun _ _=>False) { s with heap:=uK s.heap a vs })(done:R (.done (.ret .none)) { s with heap:=sortedHeap s.heap a vs (eV lt vs).toArray }):wpAny (model P' w) A (Builtin.«list.sort» ⟨[.ref a],[]⟩) R E s:=by
 obtain⟨k0,e1,e2⟩:=XW ea;have zl:vs.length<=sizeLine:=by rw[B9];lia
 have zo:(eV lt vs).toArray.size<=sizeLine:=by rwa [Au,cO]
 rw[list_sort_plain];refine AA (listItems_at ea rfl (AA (listUpdate_at ea rfl (AA (seqEpoch_at e1 rfl (AA (Di (AA (wpAny_newList (Aw ?_) (Ae _))) zl)))) (by grind) (Ae _))))
 have rest:∀st':SortSt,(arrOf st').map (·.2)=(eV lt vs).toArray->failedOf st'=none->wpAny (model P' w) A (do
   let after <- seqEpoch a
   Builtin.List.listUpdate (.ref a) fun _=>(arrOf st').map (·.2)
   if let some e:=failedOf st' then rule "list.sort.comparison-raised"; throw e
   if (after != k0)=true then rule "list.sort.modified"; raiseError "ValueError" "list modified during sort"
   ret .none) R E { s with heap:=uK s.heap a vs }:=fun st' q1 q2=>by
  rw[q1,q2];refine AA (seqEpoch_at e2 rfl (AA (listUpdate_at e2 rfl ?_ (Ae _) (BE zo))));rw[show(k0 != k0)=false by simp];exact AC done
 have sz:vs.toArray.size=vs.length:=Au
 by_cases h2:vs.length < 2
 .rw [sz,AW h2,AW h2]
  refine AA (AC (AA (AC (rest _ ?_ rfl))));rw[fL h2]
  apply Array.toList_inj.mp
  simp
  exact List.map_snd_zip (AH _)
 .rw [sz,AX h2,AX h2]
  refine AA (BP (hk (by lia) (fun c s'=>c=κ/\s'={ s with heap:=uK s.heap a vs }) ⟨rfl,rfl⟩) (fun c s0 hs=>?_) fun _ _ x=>x.elim);obtain⟨rfl,rfl⟩:=hs
  refine AA (BP (kat_run (Q:=fun st' s'=>s'={ s with heap:=uK s.heap a vs }/\(arrOf st').map (·.2)=(eV lt vs).toArray/\failedOf st'=none)
   (G:=fun p s'=>s'={ s with heap:=uK s.heap a vs }/\p=oZ lt (kas_sort vs.length)) rfl (by lia) few (fun p' st' s' a1 a2 a3 a4=>⟨a4.1,?_,a3⟩)
   (kWp (J:=fun s'=>s'={ s with heap:=uK s.heap a vs }) (fun i j C s' hi hj e hC=>?_) _ (dI (by lia)) rfl fun s' e _=>⟨e,rfl⟩)) ?_ fun _ _ e=>e)
  .rw [kat_snds rfl a2,a4.2]
   rfl
  .subst e
   exact hc i j hi hj _ (hC _ rfl)
  .rintro ⟨⟨⟩,st'⟩ s' ⟨rfl,q3,q4⟩
   exact rest st' q3 q4
def pP(h:Heap)(vs:List Value):Heap:=((h.push (seqObj "list" #[] 0)).update h.objs.size (Obj.mapSeq (· ++ vs.toArray))).push (seqObj "list" vs.toArray 0)
def QE(h:Heap)(vs:List Value):((h.push (seqObj "list" #[] 0)).update h.objs.size (Obj.mapSeq (· ++ vs.toArray))).objs.size=h.objs.size+1 :=by simp_all
def Zc h vs:(pP h vs).get? (h.objs.size+1)=some (seqObj "list" vs.toArray 0):=by
 have q:=AM ((h.push (seqObj "list" #[] 0)).update h.objs.size (Obj.mapSeq (· ++ vs.toArray))) (o:=seqObj "list" vs.toArray 0) rfl
 rwa [QE] at q
def WQ(e:h.get? b=some o):(pP h vs).get? b=some o :=
 AD _ ((Cz _ _ _ _ (Ad (AG e))).trans (AD _ e))
section
variable {X:Cx}
def Srt(X:Cx)(H:Hp)(ys:List V)(lt:Nat->Nat->Bool):Prop:=∀(pins:List (Addr×Obj))(σ:St)(s:Shared)(its:List Value)(A:Around),A.units<=X.A.units+2->Inv X pins σ H s->Vals ys its ->
 ∃κ:SortKind,(2<=ys.length->∀Q:SortKind->Shared->Prop,Q κ s->wpAny (model X.prog X.w) A (keyKind' its.toArray) Q (fun _ _=>False) s) /\
  ∀i j,i < ys.length->j < ys.length->∀Q:Bool->Shared->Prop,Q (lt i j) s->wpAny (model X.prog X.w) A (keyLt' κ (its.getD i Value.none) (its.getD j Value.none)) Q (fun _ _=>False) s
def aY(r:Vals ys its)i:RelV (ys.getD i .non) (its.getD i Value.none):=by
 induction r generalizing i with
 |nil=>exact rfl
 |cons a b ih =>
  cases i with
  |zero=>exact a
  |succ i=>exact ih i
theorem wH(r:Vals ys its):∀l:List Nat,Vals (l.map fun i=>ys.getD i .non) (l.map fun i=>its.getD i Value.none)
 |[]=>.nil
 |i::l=>.cons (aY r i) (wH r l)
def pL lt ys:(jM lt ys).length=ys.length:=by
 delta jM
 rw[AB,A2]
 by_cases h:0 < ys.length
 .exact (jW lt ys.length h).size
 .have e:ys.length=0:=by lia
  rw[e]
  rfl
def iL:CallR X (.builtin "sorted") (fun xs H Q=>∃l ys lt,xs=[.ref l]/\SqL X.K H l ys/\ys.length < 64/\Srt X H ys lt/\∀p,H p=none->Q (.ref p) (upd H p (.lst (jM lt ys)))):=by
 intro pins s σ H xs us Q I r h;obtain⟨l,ys,lt,rfl,hl,h64,hs,q⟩:=h;obtain⟨u,rfl,rfl⟩:=r.one;obtain⟨vs,rv,pl,_⟩:=(I.list hl);have hlen:=rv.length;have h64':vs.length < 64:=by lia
 have zl:vs.length<=sizeLine:=by rw[B9];lia
 have up:∀{b:Addr}{o:Obj},s.heap.get? b=some o->b≠s.heap.objs.size+1:=fun e=>Ad (Nat.lt_succ_of_lt (AG e));have k1:∀b o,s.heap.get? b=some o->(uK (pP s.heap vs) (s.heap.objs.size+1) vs).get? b=some o:=fun b o e=>Qr (WQ e) (up e);obtain⟨κ,hk,hc⟩:=(hs pins σ _ vs X.A.in1.in1 (AH _) (I.kept (t':=s.toks) k1) rv);obtain⟨k0,_,e2⟩:=XW (Zc s.heap vs);have e3:∃c,(sortedHeap (pP s.heap vs) (s.heap.objs.size+1) vs (eV lt vs).toArray).get? (s.heap.objs.size+1)=some (seqObj "list" (eV lt vs).toArray c):=⟨_,get?_update_seq e2 fun _=>(eV lt vs).toArray⟩
 obtain⟨c,e3⟩:=e3;refine DK kind_sorted plain_sorted entry_sorted (args_sorted1 _) (?_:wpAny _ _ (Builtin.«sorted» _) _ _ _);refine AA (AC (AA (collect_list pl.isList (AA (wpAny_newList ?_ zl)) zl)));rw[QE];refine AA (Aw (Ap slot_list_sort ⟨_,Zc s.heap vs,rfl⟩ entry_list_sort ?inner (args_list_sort _)));refine wM (Zc s.heap vs) h64' (fun h2 Q' hq=>hk (by lia) Q' hq) (fun i j hi hj Q' hq=>hc i j (by lia) (by lia) Q' hq) ⟨_,rfl,AC ⟨_,rfl,?_⟩⟩
 refine⟨.ref (s.heap.objs.size+1),_,I.laid (t':=s.toks) (fun b o e=>(Cz _ _ _ _ (up e)).trans (k1 b o e)) (Bv _) ?_,rfl,q _ (I.hok.fresh (Bv _))⟩;refine⟨by rw[pL,B9];lia,eV lt vs,c,?_,e3⟩
 delta jM eV
 exact hlen▸wH rv _
end
end L2
namespace HT
open PySem PyProof.Rows
inductive TxtsAre:List Value->List Str->Prop
 |nil:TxtsAre [] []
 |cons (z:Str) (t:Tok) {vs:List Value} {zs:List Str}:TxtsAre vs zs->TxtsAre (.str z t::vs) (z::zs)
def TxtsAre.length(h:TxtsAre vs zs):vs.length=zs.length:=by
 induction h with
 |nil=>rfl
 |cons z t h ih=>rw[AY,AY,ih]
def lexS:List Str->List Str->Bool
 |[],[]=>false
 |[],_::_=>true
 |_::_,[]=>false
 |x::xs,y::ys=>if x=y then lexS xs ys else decide (x.cps.toList < y.cps.toList)
def lexS_cons x y xs ys:lexS (x::xs) (y::ys)=if x=y then lexS xs ys else decide (x.cps.toList < y.cps.toList):=rfl
section
open PySem.SeqAt
open PySem.AutoSeq1 (wpAny_loadPart')
open PySem.MeetsSeq PySem.MeetsSeq2 PySem.MeetsSeq3
def vR l b items items2 n n2 dd dd2 sl sl2 ns ms(hi:TxtsAre items.toList ns)(hj:TxtsAre items2.toList ms):
  Meets (Builtin.«tuple.__lt__» ⟨[.ref l,.ref b],[]⟩)
   (fun _ R s=>s.heap.get? l=some { cls:=.type "tuple",dict:=dd,data:=.seq items n,slots:=sl }/\s.heap.get? b=some { cls:=.type "tuple",dict:=dd2,data:=.seq items2 n2,slots:=sl2 } /\
    R (.ok (.ret (.bool (lexS ns ms)))) s) :=
 .of_wp fun prog w A R s hh=>by
  obtain⟨hp,g,d,tk,os⟩:=s;obtain⟨hl,hb,h⟩:=hh;have sub:=AutoSeq1.sub_tuple_tuple;have z1:items.size=ns.length:=by rw[<- hi.length];simp
  have z2:items2.size=ms.length:=by rw[<- hj.length];simp
  wp_walk using wpAny_loadPart' hl,wpAny_loadPart' hb,Co _ (fun rest b s'=>b.1=none/\s'=⟨hp,g,d,tk,os⟩/\∃vs ws ns' ms',rest=vs.zip ws /\
   TxtsAre vs ns'/\TxtsAre ws ms'/\ns'.length+items2.size=ms'.length+items.size/\R (.ok (.ret (.bool (lexS ns' ms')))) ⟨hp,g,d,tk,os⟩) _
  case turn =>
   rintro⟨y,x⟩ rest b s' ⟨hb',rfl,vs,ws,ns',ms',hz,hvi,hwi,hlen,hR⟩
   cases hvi with
   |nil=>rw[List.zip_nil_left] at hz;cases hz
   |cons a t hvi' =>
    cases hwi with
    |nil=>rw[List.zip_nil_right] at hz;cases hz
    |cons c u hwi' =>
     rw[DE] at hz;injection hz with hyx hrest
     injection hyx with hy hx
     subst hy hx;rw[lexS_cons] at hR
     simp only[List.length_cons] at hlen
     refine AA ((fun E Q hq=>wpAny_eqBool_str hq) _ _ ?_)
     by_cases hac:a=c
     .rw [Ai hac]
      rw[AW hac] at hR
      wp_walk
      exact⟨rfl,rfl,_,_,_,_,hrest,hvi',hwi',by lia,hR⟩
     .rw [AQ hac]
      rw[AX hac] at hR
      have hri:∀E Q,Q (.bool (decide (a.cps.toList < c.cps.toList))) ⟨hp,g,d,tk,os⟩->wpAny (model prog w) A.in1 (richCompare .Lt (.str a t) (.str c u)) Q E ⟨hp,g,d,tk,os⟩ :=
       fun E Q hq=>(PyProof.Rows.lt_str hq:wpAny (model prog w) A.in1 (compareOp .Lt (.str a t) (.str c u)) Q E ⟨hp,g,d,tk,os⟩)
      wp_walk using hri
      exact⟨_,rfl,(by simpa using hR)⟩
  case fin =>
   rintro⟨b1,b2⟩ s' ⟨hb',rfl,vs,ws,ns',ms',hz,hvi,hwi,hlen,hR⟩
   simp only at hb'
   subst hb'
   have hv:lexS ns' ms'=decide (items.size < items2.size):=by
    cases hvi with
    |nil =>
     cases hwi with
     |nil =>
      simp only[List.length_nil] at hlen
      exact(AQ (by lia)).symm
     |cons c u hw =>
      simp only[List.length_nil,List.length_cons] at hlen
      exact(Ai (by lia)).symm
    |cons a t hv =>
     cases hwi with
     |nil =>
      simp only[List.length_nil,List.length_cons] at hlen
      exact(AQ (by lia)).symm
     |cons c u hw =>
      rw[DE] at hz;cases hz
   rw[hv] at hR
   wp_walk
   exact⟨_,rfl,(by simpa [Builtin.Tuple.tupleCompareSizes] using hR)⟩
  case h =>
   exact⟨rfl,rfl,items.toList,items2.toList,ns,ms,rfl,hi,hj,by lia,h⟩
end
section
def lt_tupStrs(hl:IsTup s.heap l items)(hb:IsTup s.heap b items2)(hi:TxtsAre items.toList ns)(hj:TxtsAre items2.toList ms)(hu:A.units < cLine)(h:Q (.bool (lexS ns ms)) s):wpAny (model prog w) A (compareOp .Lt (.ref l) (.ref b)) Q E s:=by
 obtain⟨⟨c1,dd,d1,sl⟩,ho,q1,n,q2⟩:=hl;obtain⟨⟨c2,dd2,d2,sl2⟩,ho2,q3,n2,q4⟩:=hb;subst q1 q2 q3 q4
 exact richCompare_meets_room (op:=.Lt) ⟨_,ho,rfl⟩ ⟨_,ho2,rfl⟩ PySem.F.slot_tuple_lt PySem.F.entry_tuple_lt (PySem.F.args_tuple_lt_2 _ _) (vR l b items items2 n n2 dd dd2 sl sl2 ns ms hi hj)
  ⟨ho,ho2,show Value.bool (lexS ns ms)≠Value.notImplemented/\Q (.bool (lexS ns ms)) s from⟨(fun x=>nomatch x),h⟩⟩ hu
end
end HT
namespace L2
open PySem PySem.W PyProof.Rows
def ZK(r:Vals (zs.map V.str) its):HT.TxtsAre its zs:=by
 induction zs generalizing its with
 |nil=>cases r;exact .nil
 |cons z zs ih =>
  cases r with
  |cons a b =>
   obtain⟨t,rfl⟩:=a;exact .cons z t (ih b)
def ltP(x y:List Str×Int):Bool:=if x.1=y.1 then decide (x.2 < y.2) else HT.lexS x.1 y.1
def bL(H:Hp)(v:V)(c:List Str×Int):Prop:=∃a kb,v=.ref a/\H a=some (.tup [.ref kb,.int c.2])/\H kb=some (.tup (c.1.map V.str))
def X4(k:List Str):(k.map (Sum.inr:Str->Key)).map kV=k.map V.str:=by
 rw[BX]
 rfl
def Z9{k':List Str}:(k.map (Sum.inr:Str->Key)=k'.map Sum.inr)↔k=k':=by
 constructor
 .intro h
  induction k generalizing k' with
  |nil=>cases k' with
   |nil=>rfl
   |cons _ _=>cases h
  |cons x k ih=>cases k' with
   |nil=>cases h
   |cons y k' =>
    injection h with h1 h2
    rw[ih h2,Sum.inr.inj h1]
 .lia
def xN{σ:St}(I:Inv X pins σ H s)(h:bL H v c)(r:RelV v u):
  ∃a kb o n t,u=.ref a/\s.heap.get? a=some o/\o.cls=.type "tuple"/\o.data=.seq #[.ref kb,.int c.2 t] n/\H kb=some (.tup (c.1.map V.str)):=by
 obtain⟨a,kb,rfl,h1,h2⟩:=h;cases r;obtain⟨_,its,rv,o,e1,e2,⟨n,e3⟩,_⟩:=(I.hok a _ h1);obtain⟨u1,u2,rfl,rfl,r2⟩:=zI rv;obtain⟨t,rfl⟩:=r2;exact⟨a,kb,o,n,t,rfl,e1,e2,e3,h2⟩
def qS(hu:X.A.units+2 < cLine)(cs:Nat->List Str×Int)(hy:∀i,i < ys.length->bL H (ys.getD i .non) (cs i)):Srt X H ys (fun i j=>ltP (cs i) (cs j)):=by
 intro pins σ s its A hA I r;have hu':A.units < cLine:=by lia
 have all:∀v∈ys,∃c,bL H v c:=fun v hv=>by
  obtain⟨i,hi,e⟩:=List.getElem_of_mem hv;have q:=hy i hi;have eg:ys.getD i .non=v :=by simp_all
  rw[eg] at q;exact⟨_,q⟩
 have tups:∀{ys:List V}{its:List Value},Vals ys its->(∀v∈ys,∃c,bL H v c)->∃fs,KatTups s.heap its fs/\fs.length=its.length/\∀f∈fs,Looks (model X.prog X.w) s.heap (typeOf f) (.type "tuple"):=by
  intro ys its r
  induction r with
  |nil=>exact fun _=>⟨[],.nil,rfl,fun f hf=>nomatch hf⟩
  |@cons y u ys its ry _ ih =>
   intro hall;obtain⟨fs,k1,k2,k3⟩:=(ih fun v hv=>hall v (AK _ hv));obtain⟨c,hc⟩:=hall y AF;obtain⟨a,kb,o,n,t,rfl,e1,e2,e3,e4⟩:=xN I hc ry;obtain⟨_,its2,_,o2,f1,f2,_,_⟩:=(I.hok kb _ e4);refine⟨.ref kb::fs,.cons e1 e2 e3 rfl k1,by rw[AY,AY,k2],fun f hf=>?_⟩
   rcases Af.mp hf with rfl | hf
   .exact f2▸((Looks.ld f1).andThen .now)
   .exact k3 f hf
 have hlen:=r.length;refine⟨tuples' false,fun h2 Q hq=>?_,fun i j hi hj Q hq=>?_⟩
 .exact aJ (tups r all) fun fs k1 k2 k3=>kat_kind k1 (by lia) k3 rfl hq
 .have hq:Q (ltP (cs i) (cs j)) s:=hq
  refine el55 (xN I (hy i hi) (aY r i)) fun a ka oa na ta ea a1 a2 a3 a4=>el55 (xN I (hy j hj) (aY r j)) fun b kb ob nb tb eb b1 b2 b3 b4=>?_;rw[ea,eb]
  apply kat_lt a1 a3 b1 b3
  have kb1:=tY I.hok (by rwa [X4]);refine kat_cons (wpAny_eqBool_tuple hu' (tY I.hok (by rwa [X4])) kb1 ?_)
  by_cases hk:(cs i).1=(cs j).1
  .rw [Ai (Z9.mpr hk)]
   refine kat_yes (kat_cons (wpAny_eqBool_int ?_));have hl:ltP (cs i) (cs j)=decide ((cs i).2 < (cs j).2):=AW hk;rw[hl] at hq
   by_cases hn:(cs i).2=(cs j).2
   .rw [show((cs i).2==(cs j).2)=true by simpa using hn]
    refine kat_yes (kat_nil ?_)
    rwa [hn,AQ (Int.lt_irrefl _)] at hq
   .rw [show((cs i).2==(cs j).2)=false by simpa using hn]
    exact kat_no (kat_one _ _ (PyProof.Rows.lt_int hq))
  .rw [AQ (fun e=>hk (Z9.mp e))]
   rw[(show ltP (cs i) (cs j)=HT.lexS (cs i).1 (cs j).1 from AX hk)] at hq;obtain⟨_,ia,ra,pa⟩:=(I.hok ka _ a4);obtain⟨_,ib,rb,pb⟩:=(I.hok kb _ b4);exact kat_no (kat_one _ _ (HT.lt_tupStrs pa.is pb.is (ZK ra) (ZK rb) hu' hq))
def Wu(x y:Str×Int):Bool:=if x.1=y.1 then decide (x.2 < y.2) else decide (x.1.cps.toList < y.1.cps.toList)
def YG(H:Hp)(v:V)(c:Str×Int):Prop:=∃a,v=.ref a/\H a=some (.tup [.str c.1,.int c.2])
def Xx{σ:St}(I:Inv X pins σ H s)(h:YG H v c)(r:RelV v u):
  ∃a o n t t',u=.ref a/\s.heap.get? a=some o/\o.cls=.type "tuple"/\o.data=.seq #[.str c.1 t',.int c.2 t] n:=by
 obtain⟨a,rfl,h1⟩:=h;cases r;obtain⟨_,its,rv,o,e1,e2,⟨n,e3⟩,_⟩:=(I.hok a _ h1);obtain⟨u1,u2,rfl,r1,r2⟩:=zI rv;obtain⟨t',rfl⟩:=r1;obtain⟨t,rfl⟩:=r2;exact⟨a,o,n,t,t',rfl,e1,e2,e3⟩
def Vr(cs:Nat->Str×Int)(hy:∀i,i < ys.length->YG H (ys.getD i .non) (cs i)):Srt X H ys (fun i j=>Wu (cs i) (cs j)):=by
 intro pins σ s its A hA I r
 have all:∀v∈ys,∃c,YG H v c:=fun v hv=>by
  obtain⟨i,hi,e⟩:=List.getElem_of_mem hv;have q:=hy i hi;have eg:ys.getD i .non=v :=by simp_all
  rw[eg] at q;exact⟨_,q⟩
 have tups:∀{ys:List V}{its:List Value},Vals ys its->(∀v∈ys,∃c,YG H v c)->∃fs,KatTups s.heap its fs/\fs.length=its.length/\∀f∈fs,Looks (model X.prog X.w) s.heap (typeOf f) (.type "str"):=by
  intro ys its r
  induction r with
  |nil=>exact fun _=>⟨[],.nil,rfl,fun f hf=>nomatch hf⟩
  |@cons y u ys its ry _ ih =>
   intro hall;obtain⟨fs,k1,k2,k3⟩:=(ih fun v hv=>hall v (AK _ hv));obtain⟨c,hc⟩:=hall y AF;obtain⟨a,o,n,t,t',rfl,e1,e2,e3⟩:=Xx I hc ry;refine⟨.str c.1 t'::fs,.cons e1 e2 e3 rfl k1,by rw[AY,AY,k2],fun f hf=>?_⟩
   rcases Af.mp hf with rfl | hf
   .exact .now
   .exact k3 f hf
 have hlen:=r.length;refine⟨tuples' true,fun h2 Q hq=>?_,fun i j hi hj Q hq=>?_⟩
 .exact aJ (tups r all) fun fs k1 k2 k3=>kat_kind k1 (by lia) k3 rfl hq
 .have hq:Q (Wu (cs i) (cs j)) s:=hq
  refine el54 (Xx I (hy i hi) (aY r i)) fun a oa na ta ta' ea a1 a2 a3=>el54 (Xx I (hy j hj) (aY r j)) fun b ob nb tb tb' eb b1 b2 b3=>?_;rw[ea,eb];refine kat_lt a1 a3 b1 b3 (kat_cons (wpAny_eqBool_str ?_))
  by_cases hk:(cs i).1=(cs j).1
  .rw [Ai hk]
   refine kat_yes (kat_cons (wpAny_eqBool_int ?_));have hl:Wu (cs i) (cs j)=decide ((cs i).2 < (cs j).2):=AW hk;rw[hl] at hq
   by_cases hn:(cs i).2=(cs j).2
   .rw [show((cs i).2==(cs j).2)=true by simpa using hn]
    refine kat_yes (kat_nil ?_)
    rwa [hn,AQ (Int.lt_irrefl _)] at hq
   .rw [show((cs i).2==(cs j).2)=false by simpa using hn]
    exact kat_no (kat_one _ _ (PyProof.Rows.lt_int hq))
  .rw [AQ hk]
   rw[(show Wu (cs i) (cs j)=decide ((cs i).1.cps.toList < (cs j).1.cps.toList) from AX hk)] at hq;exact kat_no (kas_lt_str hq)
def layT(H:Hp)(f:Addr->Option (List V)):Hp:=fun b=>match f b with
 |some xs=>some (.tup xs)
 |none=>H b
def kG(e:f b=some xs):layT H f b=some (.tup xs):=by delta layT;rw[e]
def gK(e:f b=none):layT H f b=H b:=by delta layT;rw[e]
def bK(hf:∀b xs,f b=some xs->H b=none)(e:H b=some o):layT H f b=some o:=by
 cases z:f b with
 |none=>rwa [gK z]
 |some xs=>rw[hf b xs z] at e;cases e
section
variable {X:Cx}{pins:List (Addr×Obj)}{σ:St}{H:Hp}{s:Shared}{h':Heap}
def Inv.tups{f:Addr->Option (List V)}(I:Inv X pins σ H s)(k:∀b u,s.heap.get? b=some u->h'.get? b=some u)(hf:∀b xs,f b=some xs->s.heap.objs.size<=b/\xs.length<=sizeLine/\∃its:List Value,Vals xs its/\IsTupN h' b its.toArray):Inv X pins σ (layT H f) { s with heap:=h',toks:=t' }:=by
 have fr:∀b xs,f b=some xs->H b=none:=fun b xs e=>I.hok.fresh (hf b xs e).1
 have nf:∀{b:Addr}{o:Obj},s.heap.get? b=some o->f b=none:=fun {b o}e=>by
  cases z:f b with
  |none=>rfl
  |some xs=>exact absurd (AG e) (Nat.not_lt.mpr (hf b xs z).1)
 refine I.un ⟨fun b o q _ _ _=>k b o q,fun b o q _ _ _=>⟨o.slots,k b o q⟩,fun b o q n _=>by rw[gK (nf q)];exact n,fun b o q _=>⟨o,k b o q⟩,fun b xs q=>bK fr q,fun b o u q=>bK fr q,fun b ps q=>⟨#[],by rw[bK fr q];simp⟩⟩ fun b u e=>?_
 cases z:f b with
 |some xs =>
  rw[kG z] at e;cases e;obtain⟨_,h2,its,h3,h4⟩:=hf b xs z;exact⟨h2,its,h3,h4⟩
 |none =>
  rw[gK z] at e;exact(I.hok b u e).stay (fun c v _ q=>k c v q) (fun c q=>bK fr q) fun c xs q=>bK fr q
end
section
variable {X:Cx}
def mL{σ:St}(hA:A.in1.units<=X.A.units+2)(I:Inv X pins σ H s)(rv:Vals ys vs)(h64:ys.length < 64)(hs:Srt X H ys lt)(fin:∀p s',H p=none->Inv X pins σ (upd H p (.lst (jM lt ys))) s'->Z (.done (.ret (.ref p))) s'):
  wpAny (model X.prog X.w) A (newList vs >>= fun l=>holding [l] (call (.builtin "list.sort") [l] []) >>= fun _=>ret l) Z E s:=by
 have hlen:=rv.length;have h64':vs.length < 64:=by lia
 have zl:vs.length<=sizeLine:=by rw[B9];lia
 refine AA (wpAny_newList ?_ zl);have ga:(s.heap.push (seqObj "list" vs.toArray 0)).get? s.heap.objs.size=some (seqObj "list" vs.toArray 0):=AM _ rfl;have up:∀{b:Addr}{o:Obj},s.heap.get? b=some o->b≠s.heap.objs.size:=fun e=>Ad (AG e);have k1:∀b o,s.heap.get? b=some o->(uK (s.heap.push (seqObj "list" vs.toArray 0)) s.heap.objs.size vs).get? b=some o:=fun b o e=>Qr (AD _ e) (up e)
 obtain⟨κ,hk,hc⟩:=(hs pins σ _ vs A.in1 hA (I.kept (t':=s.toks) k1) rv);obtain⟨k0,_,e2⟩:=XW ga;have e3:∃c,(sortedHeap (s.heap.push (seqObj "list" vs.toArray 0)) s.heap.objs.size vs (eV lt vs).toArray).get? s.heap.objs.size=some (seqObj "list" (eV lt vs).toArray c):=⟨_,get?_update_seq e2 fun _=>(eV lt vs).toArray⟩;obtain⟨c,e3⟩:=e3;refine AA (Aw (Ap slot_list_sort ⟨_,ga,rfl⟩ entry_list_sort ?inner (args_list_sort _)))
 refine wM ga h64' (fun h2 Q' hq=>hk (by lia) Q' hq) (fun i j hi hj Q' hq=>hc i j (by lia) (by lia) Q' hq) ⟨_,rfl,AC ?_⟩;refine fin _ _ (I.hok.fresh (AH _)) (I.laid (t':=s.toks) (fun b o e=>(Cz _ _ _ _ (up e)).trans (k1 b o e)) (AH _) ⟨by rw[pL,B9];lia,eV lt vs,c,?_,e3⟩)
 delta jM eV
 exact hlen▸wH rv _
abbrev dG(v d:Addr):Heap->Prop:=fun h=>h.IsItemsView v d
def mkF(as:List Addr)(kvs:List (Key×V)):Addr->Option (List V):=fun b=>((as.zip kvs).find? fun p=>p.1==b).map fun p=>[kV p.2.1,p.2.2]
def W5{as:List Addr}(nd:as.Nodup){j:Nat}{p:Key×V}(ha:as[j]?=some a)(hp:kvs[j]?=some p):(as.zip kvs).find? (fun q=>q.1==a)=some (a,p):=by
 induction as generalizing kvs j with
 |nil=>cases ha
 |cons x as ih =>
  cases kvs with
  |nil=>cases hp
  |cons y kvs =>
   rw[BN] at nd;rw[DE,BO]
   cases j with
   |zero=>cases ha;cases hp;simp
   |succ j =>
    exact(show(x==a)=false from DX fun e=>nd.1 (e▸Ah ha))▸ih nd.2 ha hp
def rG{as:List Addr}{q:Addr×(Key×V)}(h:(as.zip kvs).find? (fun q=>q.1==b)=some q):q.1=b/\∃j:Nat,as[j]?=some b/\kvs[j]?=some q.2:=by
 have h1:=Da h;have h1:=eq_of_beq h1;obtain⟨j,hj⟩:=BU.mp (Bn h);rw[List.getElem?_zip_eq_some] at hj;exact⟨h1,j,by exact h1▸hj.1,hj.2⟩
theorem yS: ∀{as}{kvs},as.length=kvs.length->(∀(j:Nat)a p,as[j]?=some a->kvs[j]?=some p->H a=some (.tup [kV p.1,p.2]))->eA H as kvs
 |[],[],_,_=>.nil
 |[],_::_,h,_=>nomatch h
 |_::_,[],h,_=>nomatch h
 |a::as,p::kvs,h,k=>.cons (k 0 a p rfl rfl) (yS (A4 h) fun j a' p' h1 h2=>k (j+1) a' p' h1 h2)
def Vy(h:(cX P w).is k u=true):RelV (kV k) u:=by
 rcases fJ h with ⟨i,t,rfl,rfl⟩ | ⟨x,t,rfl,rfl⟩ | ⟨rfl,rfl⟩
 .exact ⟨t,rfl⟩
 .exact ⟨t,rfl⟩
 .exact rfl
def kv_get(r:KV kvs vs):∀{j:Nat}{p}{q:Key×Value},kvs[j]?=some p->vs[j]?=some q->p.1=q.1/\RelV p.2 q.2:=by
 induction r with
 |nil=>intro j p q h;cases h
 |cons h _ ih =>
  intro j p q h1 h2
  cases j with
  |zero=>cases h1;cases h2;exact h
  |succ j=>exact ih h1 h2
def xA(hc:X.calm=true):CallR X (.builtin "sorted") (fun xs H Q=>∃v d kvs lt,xs=[.ref v]/\H v=some (.ext (dG v d))/\H d=some (.dK kvs)/\kvs.length < 64 /\
  ∀as H1,Same H H1->eA H1 as kvs->(∀a∈as,H a=none)->(∀a,H a=none->H1 a≠none->a∈as)->Srt X H1 (List.map V.ref as) lt/\∀p,H1 p=none->Q (.ref p) (upd H1 p (.lst (jM lt (List.map V.ref as))))):=by
 intro pins s σ H xs us Q I r h;obtain⟨v,d,kvs,lt,rfl,hv,hd,h64,hq⟩:=h;obtain⟨u,rfl,rfl⟩:=r.one;obtain⟨z,hS,vs,rel,dd⟩:=Jk I.hok hd;obtain⟨hview,_,_⟩:=(I.hok v _ hv);obtain⟨ep,da⟩:=dd.dictAt;have hl:=rel.length;refine DK kind_sorted plain_sorted entry_sorted (args_sorted1 _) (?_:wpAny _ _ (Builtin.«sorted» _) _ _ _);refine AA (AC (AA (kdx_collect (by simp[I.ok.hd hc]) hview da (by rwa [<- hl]) fun h' tk as keep hlen G=>?_)))
 have nd:=G.rise.imp fun h=>Ad h;have hlen':=hlen.trans hl.symm;have up:∀a∈as,s.heap.objs.size<=a:=fun a ha=>Bh (G.above a ha)
 have I1:Inv X pins σ (layT H (mkF as kvs)) { s with heap:=h',toks:=tk }:=I.tups keep fun b xs e=>by
  delta mkF at e
  cases z:(as.zip kvs).find? fun p=>p.1==b with
  |none=>rw[z] at e;cases e
  |some q =>
   rw[z] at e;cases e;obtain⟨e1,j,e2,e3⟩:=rG z;refine fR (G.pairs j b e2) fun key k x g1 g2 g3=>?_;obtain⟨r1,r2⟩:=kv_get rel e3 g1;refine⟨up b (Ah e2),y0 2 rfl,[key,x],.cons (r1▸Vy g2) (.cons r2 .nil),⟨_,g3,rfl,⟨_,rfl⟩,rfl⟩⟩
 have fr:∀b xs,mkF as kvs b=some xs->H b=none:=fun b xs e=>by
  delta mkF at e
  cases z:(as.zip kvs).find? fun p=>p.1==b with
  |none=>rw[z] at e;cases e
  |some q =>
   obtain⟨_,j,e2,_⟩:=rG z;exact I.hok.fresh (up b (Ah e2))
 obtain⟨hs,q⟩:=hq as (layT H (mkF as kvs)) (fun b o e=>bK fr e) (yS hlen' fun j a p h1 h2=>kG (by delta mkF;rw[W5 nd h1 h2];rfl)) (fun a ha=>I.hok.fresh (up a ha)) fun a n1 n2=>by
  cases z:mkF as kvs a with
  |none=>rw[gK z] at n2;exact absurd n1 n2
  |some xs =>
   delta mkF at z
   cases y:(as.zip kvs).find? fun p=>p.1==a with
   |none=>rw[y] at z;cases z
   |some q =>
    obtain⟨_,j,e2,_⟩:=rG y;exact Ah e2
 have rv:Vals (as.map V.ref) (as.map Value.ref):=by
  clear nd hlen' up I1 fr hs q hlen G hq
  induction as with
  |nil=>exact .nil
  |cons a as ih=>exact .cons rfl ih
 exact mL (AH _) I1 rv (by grind) hs fun p s' hp I'=>⟨_,rfl,.ref p,_,I',rfl,q p hp⟩
end
end L2
namespace L2
open PySem PySem.Spec PyProof.Rows
section
variable {X:Cx}{pins:List (Addr×Obj)}{σ:St}{H:Hp}{s:Shared}{d:Addr}{o:Obj}{kvs:List (Key×V)}
def NF(X:Cx)(d:Addr):Prop:=∀ob u,X.H₀ d≠some (.frz ob u)
end
end L2
namespace PySem.W
open PySem PySem.Calls PyProof.Rows PyProof.V PySem.Spec
def RawD(h:Heap)(d:Addr)(es:Array DictEntry)(ep:Nat):Prop:=∃o,h.get? d=some o/\o.ExactDict/\o.data=.dict es ep
theorem RawD.at(x:RawD h d es ep)(k:∀o,h.get? d=some o->h'.get? d=some o):RawD h' d es ep:=let ⟨o,e,r⟩:=x;⟨o,k o e,r⟩
abbrev RIt(h:Heap)(it d:Addr)(i n ep:Nat)(x0 ok ov:Value)(f:Bool):Prop:=h.get? it=some { cls:=.type "dict_itemiterator",dict:=none,data:=.fields #[x0,.bool f,.ref d,.int i 0,.int n 0,.int ep 0,ok,ov],slots:=#[] }
def RSt(h:Heap)(it d S:Addr)(i n ep:Nat):Prop:=∃x0 ok ov f,RIt h it d i n ep x0 ok ov f/\((x0=.none/\f=false)\/∃a oa,x0=rawInt (a:Nat)/\h.get? a=some oa/\a≠it/\a≠S)
theorem RSt.keep(x:RSt h it d S i n ep)(k:∀b o,b≠S->h.get? b=some o->h'.get? b=some o)(ne:it≠S):RSt h' it d S i n ep:=by
 refine el42 x fun x0 ok ov f e r=>⟨x0,ok,ov,f,k _ _ ne e,r.imp id ?_⟩;rintro⟨a,oa,r1,r2,r3,r4⟩;exact⟨a,oa,r1,k _ _ r4 r2,r3,r4⟩
section
variable {prog:Program}{w:World}{A:Around}{E:Value->Shared->Prop}{s:Shared}
def oI(hh:A.handled=none)(hst:RSt s.heap it d S i n ep)(hS:S < s.heap.objs.size)(hD:RawD s.heap d es ep)(hn:es.size=n)(hItem:∀e h',es[i]?=some e->RSt h' it d S (i+1) n ep->h'.get? s.heap.objs.size=some { cls:=.type "tuple",data:=.seq #[e.key,e.val] }->h'.objs.size=s.heap.objs.size+1->(∀b o,b≠it->s.heap.get? b=some o->h'.get? b=some o)->Q (some (.ref s.heap.objs.size)) { s with heap:=h' })(hEnd:es[i]?=none->∀h',(∀b o,b≠it->s.heap.get? b=some o->h'.get? b=some o)->Q none { s with heap:=h' }):wpAny (model prog w) A (pyNext (.ref it)) Q E s:=by
 obtain⟨hp,g,dr,tk,os⟩:=s;refine aJ hD fun od d1 d2 d3=>el42 hst fun x0 ok ov f hit hx0=>?_;subst hn;have hT:Shared.TypeIs ⟨hp,g,dr,tk,os⟩ (.ref it) "dict_itemiterator":=⟨_,hit,rfl⟩;have hown:Builtin.Dict_items.ownsTuple "dict_itemiterator" = true:=by decide
 delta pyNext
 refine AA (DN (BB hT CY (Ap CY hT PySem.F.entry_dict_itemiterator_next (AA (AC ?_)) (PySem.F.args_dict_itemiterator_next_1 _))));refine AA (AA (AA (Cn hT (AC (AA (wpAny_fieldsOf hit rfl ?_))))))
 (simp only[hown,if_true];show wpAny _ _ (if (Value.ref d==Value.none)=true then _ else _) _ _ _;rw[AX (show ¬ ((Value.ref d==Value.none)=true) from AN)])
 refine AA (AC (AA (Bs d1 d3 ?_)))
 (rw[AX (by simp)];refine AA (AC (AA (Cs d1 d3 ?_)));rw[AX (by simp)];apply AC)
 cases hx:es[i]? with
 |none =>
  (simp only[show ¬ ((i:Int) < 0) from by lia,if_false,Int.toNat_natCast,hx];refine AA (AA (Cn hT (AC ?_))))
  (show wpAny _ _ (setField (.ref it) 2 .none >>= _) _ _ _;refine AA (DA hit rfl (by simp) ?_))
  (apply AA;simp only[newExc,newTuple];refine AA (Ay ?_ (by size_fits)))
  refine AA (wpAny_of_eq (by first | rfl | (simp only[firstArgMember];rfl)) (Ay ?_ (by size_fits)))
  (simp only[raiseNew];refine AA (wpAny_handled ?_);rw[show A.in1.handled=none from hh];refine AA (AC (wpAny_throw ?_)))
  (refine AA (CJ ⟨_,AM _ rfl,rfl⟩ isSubtype_stop ?_))
  exact AC (hEnd hx _ fun b o nb e=>(((BS ..).extBut.push _).push _) b o nb e)
 |some e =>
  have hil:=AG hit
  (simp only[show ¬ ((i:Int) < 0) from by lia,if_false,Int.toNat_natCast,hx];refine AA (AA (Cn hT (AC ?_))))
  (refine AA (DR hT ?_);show wpAny _ _ (setField (.ref it) 3 (rawInt ((i:Int)+1)) >>= _) _ _ ⟨hp,g,dr,tk,os⟩)
  refine AA (A9 hit (by simp) fun h₁ he₁ hs₁=>?_);have hs₁:=hs₁
  have he₁:RIt h₁ it d (i+1) es.size ep x0 ok ov f:=by
   have z:((i+1:Nat):Int)=(i:Int)+1:=by lia
   (delta RIt;rw[z];simpa [rawInt] using he₁)
  have hT₁:Shared.TypeIs ⟨h₁,g,dr,tk,os⟩ (.ref it) "dict_itemiterator":=⟨_,he₁,rfl⟩;refine AA (Aw (AA (DR hT₁ (AA (DR hT₁ ?_)))))
  (delta Builtin.Dict_items.pairFromOwner;refine AA (Di ?_))
  obtain⟨h₂,eh₂⟩:∃h₂,h₂=h₁.push { cls:=.type "tuple",data:=.seq #[e.key,e.val] }:=⟨_,rfl⟩;have z1:=hs₁.1;have he₂ :=eh₂▸AD _ he₁;have t2 :=eh₂▸z1▸AM _ rfl;have z2:h₂.objs.size=hp.objs.size+1:=by rw[eh₂,B0,z1]
  have k2:∀b o,b≠it->hp.get? b=some o->h₂.get? b=some o:=fun b o nb q=>eh₂▸AD _ (hs₁.extBut b o nb q);have fin:∀h3:Heap,Heap.SameBut it h₂ h3->RSt h3 it d S (i+1) es.size ep->Q (some (.ref hp.objs.size)) ⟨h3,g,dr,tk,os⟩:=fun h3 sb r=>hItem e h3 hx r (sb.extBut _ _ (Ax hil) t2) (by rw[sb.1,z2]) fun b o nb q=>sb.extBut b o nb (k2 b o nb q)
  (rw[<- eh₂])
  clear eh₂ he₁ hT₁
  (apply AA;delta Builtin.Dict_items.ownedTupleIsFree;refine AA (As he₂ rfl rfl ?_))
  rcases hx0 with ⟨rfl,rfl⟩ | ⟨a,oa,rfl,ha,nai,naS⟩
  ·(apply AC;simp only[if_true])
   refine AA (As he₂ rfl rfl (AA (As he₂ rfl rfl (AA (A9 he₂ (by simp) fun h3 e3 s3=>?_)))));refine AA (A9 e3 (by simp) fun h4 e4 s4=>?_);refine AA (A9 e4 (by simp) fun h5 e5 s5=>?_);refine AA (A9 e5 (by simp) fun h6 e6 s6=>?_);have sb:=((Heap.SameBut.trans s3 s4).trans s5).trans s6
   have a6 :=z1▸sb.extBut _ _ (Ax hil) t2;have rs:RSt h6 it d S (i+1) es.size ep:=⟨_,_,_,_,e6,.inr ⟨_,_,rfl,a6,by rw[z1];exact Ax hil,by exact z1▸Ax hS⟩⟩;have q6:=fin h6 sb rs;rw[<- z1] at q6;exact AA (Dj (AC (AC ⟨_,rfl,AC q6⟩)))
  .have a2:=k2 a oa nai ha
   have rs:∀h3 fl,Heap.SameBut it h₂ h3->RIt h3 it d (i+1) es.size ep (rawInt (a:Nat)) ok ov fl->RSt h3 it d S (i+1) es.size ep:=fun h3 fl sb r=>⟨_,_,_,_,r,.inr ⟨a,oa,rfl,sb.extBut a oa nai a2,nai,naS⟩⟩
   (show wpAny _ _ (loadIfAlive ((a:Int).toNat) >>= _) _ _ _;rw[Ci])
   (refine AA (kdx_alive a2 ?_);simp only[Option.isNone_some,Bool.false_eq_true,if_false];refine AA (As he₂ rfl (x:=.bool f) rfl ?_))
   cases f with
   |true =>
    (rw[AX (show ¬ ((Value.bool true != Value.bool true)=true) from AN)];apply AC;simp only[Bool.false_eq_true,if_false])
    have q6:=fin h₂ (Heap.SameBut.refl _ _) (rs h₂ true (Heap.SameBut.refl _ _) he₂);rw[<- z1] at q6;exact AC (AC ⟨_,rfl,AC q6⟩)
   |false =>
    (rw[AW (show(Value.bool false != Value.bool true)=true from rfl)];refine AA (A9 he₂ (by simp) fun h3 e3 s3=>?_))
    have q6:=fin h3 s3 (rs h3 true s3 e3);rw[<- z1] at q6
    (apply AC;simp only[Bool.false_eq_true,if_false])
    exact AC (AC ⟨_,rfl,AC q6⟩)
structure RawG(es:Array DictEntry)(lo:Addr)(h:Heap)(as:List Addr):Prop where
 rise:as.Pairwise (· < ·)
 above:∀a∈as,lo < a
 pairs:∀(j:Nat)(a:Addr),as[j]?=some a->∃e,es[j]?=some e/\h.get? a=some { cls:=.type "tuple",data:=.seq #[e.key,e.val] }
def RawG.there{lo}(g:RawG es lo h as)(ha:a∈as):a < h.objs.size:=by
 obtain⟨j,hj⟩:=BU.mp ha;exact eQ (g.pairs j a hj) fun e _ q=>AG q
def RawG.snoc{lo}{p:Addr}(g:RawG es lo h as)(k:∀b o,lo < b->h.get? b=some o->h'.get? b=some o)(hp:h.objs.size=p)(hlo:lo < p)(he:es[as.length]?=some e)(ht:h'.get? p=some { cls:=.type "tuple",data:=.seq #[e.key,e.val] }):RawG es lo h' (as++[p]) where
 rise:=List.pairwise_append.mpr ⟨g.rise,List.pairwise_singleton _ _,fun a ha b hb=>by
  cases AE.mp hb
  exact hp▸g.there ha⟩
 above:=fun a ha=>by
  rcases AV.mp ha with ha | ha
  .exact g.above a ha
  .grind
 pairs:=fun j a hj=>by
  by_cases h1:j < as.length
  .rw [Bo h1] at hj
   exact eQ (g.pairs j a hj) fun e' q1 q2=>⟨e',q1,k a _ (g.above a (Ah hj)) q2⟩
  .by_cases h2:j=as.length
   .simp_all
   .grind
def VB{h₁:Heap}(hh:A.handled=none)(hSI:S < I)(hSd:d≠S)(hId:d≠I)(hz:es.size<=sizeLine)(hR:∀h' tk acc c as,(∀b o,b≠S->b≠I->h₁.get? b=some o->h'.get? b=some o)->h'.get? S=some { cls:=.type "list",dict:=none,data:=.seq acc c,slots:=#[] }->as.length=es.size->RawG es I h' as->acc.toList=as.map Value.ref->R (.ok (.ret res)) { s with heap:=h',toks:=tk }):
  ∀k h tk c acc as,as.length+k=es.size->RSt h I d S as.length es.size ep->RawD h d es ep->(∀b o,b≠S->b≠I->h₁.get? b=some o->h.get? b=some o) ->
   h.get? S=some { cls:=.type "list",dict:=none,data:=.seq acc c,slots:=#[] }->acc.toList=as.map Value.ref->RawG es I h as->I < h.objs.size ->
   codeAny (model prog w) A (.builtin "list.extend.loop" ⟨[.ref S,.ref I,res],[]⟩) R { s with heap:=h,toks:=tk }:=by
 have ne:=Ad hSI;intro k
 induction k with
 |zero =>
  intro h tk c acc as hk hst hD keep hS hacc hG hIs
  (apply Bp CP)
  (refine AA (oI hh hst (AG hS) hD rfl (fun e h' hx=>?_) fun _ h' kp=>?_))
  .grind
  .exact AC (hR h' tk acc c as (fun b o h1 h2 e=>kp b o h2 (keep b o h1 h2 e)) (kp S _ ne hS) (by lia) ⟨hG.rise,hG.above,fun j a hj=>let ⟨e,q1,q2⟩:=hG.pairs j a hj;⟨e,q1,kp a _ (Ax (hG.above a (Ah hj))) q2⟩⟩ hacc)
 |succ k ih =>
  intro h tk c acc as hk hst hD keep hS hacc hG hIs;have hsz:acc.size=as.length:=by rw[<- A2,hacc,AB]
  (apply Bp CP)
  (refine AA (oI hh hst (AG hS) hD rfl (fun e h' hx hst' ht hz' kp=>?_) fun hx=>?_))
  .have kp:=kp
   have hS':=kp S _ ne hS;have up:∀b o,b≠S->h'.get? b=some o->(h'.update S (Obj.mapSeq (·.push (Value.ref h.objs.size)))).get? b=some o:=fun b o nb e=>(BK _ _ (Ne.symm nb)).trans e;have up2:∀b o,b≠S->b≠I->h.get? b=some o->(h'.update S (Obj.mapSeq (·.push (Value.ref h.objs.size)))).get? b=some o:=fun b o n1 n2 e=>up b o n1 (kp b o n2 e);have ht':=up _ _ (Ax (AG hS)) ht
   have hG':=hG.snoc (fun b o lb e=>up2 b o (Ax (Nat.lt_trans hSI lb)) (Ax lb) e) rfl hIs hx ht';have hl:(as++[h.objs.size]).length=as.length+1 :=by grind
   have step:=ih _ tk _ (acc.push (Value.ref h.objs.size)) (as++[h.objs.size]) (by rw[hl];lia) (hl▸hst'.keep up (Ne.symm ne)) (hD.at fun o e=>up2 d o hSd hId e) (fun b o h1 h2 e=>up2 b o h1 h2 (keep b o h1 h2 e)) (A7 _ hS' rfl) (by grind) hG' (Nat.lt_trans hIs (AG ht'))
   (apply AA)
   exact B4 hS' rfl (AC ⟨B6 CN _,step⟩) (by lia) (by grind)
  .grind
end
section
variable {prog:Program}{w:World}{A:Around}{E:Value->Shared->Prop}{s:Shared}{v d:Addr}{es:Array DictEntry}{ep:Nat}
def VC(hv:s.heap.IsItemsView v d)(hD:RawD s.heap d es ep)(hQ:∀h':Heap,(∀b o,s.heap.get? b=some o->h'.get? b=some o)->h'.objs.size=s.heap.objs.size+1->RIt h' s.heap.objs.size d 0 es.size ep .none .none .none false->Q (.ref s.heap.objs.size) { s with heap:=h' }):
  wpAny (model prog w) A (pyIter (.ref v)) Q E s:=by
 refine aJ (id hv) fun ov v1 v2 v3=>aJ hD fun od d1 d2 d3=>?_;have hown:Builtin.Dict_items.ownsTuple "dict_itemiterator" = true:=by decide
 refine wpAny_pyIter_slot hv.typeIs PySem.F.slot_dict_items_iter (Ap PySem.F.slot_dict_items_iter hv.typeIs PySem.F.entry_dict_items_iter ?_ (PySem.F.args_dict_items_iter_1 _))
 (refine AA (AC (AA (AA (As v1 v3 rfl (AC (AA ?_)))))))
 (refine AA (Bs d1 d3 (AA (Cs d1 d3 ?_)));simp only[hown,if_true])
 refine Ay (AC ⟨_,rfl,"dict_itemiterator",_,⟨_,AM _ rfl,rfl⟩,CY.lookup,?_⟩) (by simp only[sizeOk,Builtin.Dict_items.ownedTupleFields,List.size_toArray,List.length_append,List.length_cons,List.length_nil,sizeLine_eq];lia)
 exact hQ _ (fun b o e=>AD _ e) (B0 _ _) (by
  have e:=AM (o:={ cls:=.type "dict_itemiterator",data:=.fields #[.none,.bool false,.ref d,.int 0 0,.int es.size 0,.int ep 0,.none,.none] }) s.heap rfl
  simpa [RIt,rawInt,Builtin.Dict_items.ownedTupleFields] using e)
def XB(hh:A.handled=none)(hv:s.heap.IsItemsView v d)(hD:RawD s.heap d es ep)(hSv:S≠v)(hSd:d≠S)(hS:s.heap.get? S=some { cls:=.type "list",data:=.seq #[] c₀ })(hz:es.size<=sizeLine)(hR:∀h' tk acc c as,(∀b o,b≠S->s.heap.get? b=some o->h'.get? b=some o)->h'.get? S=some { cls:=.type "list",dict:=none,data:=.seq acc c,slots:=#[] }->as.length=es.size->RawG es s.heap.objs.size h' as->acc.toList=as.map Value.ref->R (.ok (.ret res)) { s with heap:=h',toks:=tk }):
  wpAny (model prog w) A.in1 (Builtin.List.listExtendWith (.ref S) (.ref v) res) (fun fin s'=>match fin with | .done f=>R (.ok f) s' | .again c'=>c'.quiet=true/\codeAny (model prog w) A c' R s') (fun e s'=>R (.error e) s') s:=by
 have hSI:=AG hS;have hdI:=let ⟨_,e,_⟩:=hD;AG e
 delta Builtin.List.listExtendWith
 refine AA (Cf hv.typeIs ?_);have f1:Builtin.List.listSameRef (.ref S) (.ref v)=false:=by simp[Builtin.List.listSameRef,hSv]
 have f2:(Value.type "dict_items" == Value.type "list")=false:=by decide
 have f3:(Value.type "dict_items" == Value.type "tuple")=false:=by decide
 (simp only[f1,f2,f3,Bool.or_false,Bool.false_eq_true,if_false];refine AA (VC hv hD fun h1 k1 z1 r1=>?_))
 have key:∀h c₁ tk,(∀b o,b≠S->h1.get? b=some o->h.get? b=some o)->h.get? S=some { cls:=.type "list",data:=.seq #[] c₁ }->codeAny (model prog w) A (.builtin "list.extend.loop" ⟨[.ref S,.ref s.heap.objs.size,res],[]⟩) R { s with heap:=h,toks:=tk }:=by
  intro h c₁ tk hk hS1;have hI:=hk _ _ (Ax hSI) r1;refine VB hh hSI hSd (Ad hdI) hz (fun h' tk' acc c as kk hS' hl hG hacc=>hR h' tk' acc c as (fun b o nb e=>kk b o nb (Ad (AG e)) e) hS' hl hG hacc) es.size h tk c₁ #[] [] (Bt _) ⟨_,_,_,_,hI,.inl ⟨rfl,rfl⟩⟩ (hD.at fun o e=>hk d o hSd (k1 d o e)) (fun b o nb _ e=>hk b o nb (k1 b o e)) hS1 rfl ⟨.nil,(fun _ z=>nomatch z),(fun j a z=>by simp at z)⟩ (AG hI)
 have hS1:=k1 _ _ hS;refine AA (Aw (kdx_hint (let ⟨o,ho,hc,_⟩:=hv;⟨o,k1 _ _ ho,hc⟩) ?_));refine wpAny_ite_split (fun _=>?_) (fun _=>AC ⟨B6 CN _,key _ c₀ _ (fun b o _ e=>e) hS1⟩)
 (refine AA (B8 (AA (AA (B4 hS1 rfl ?_)))))
 have hS2:=A7 (Obj.mapSeq (·.push Value.none)) hS1 rfl;refine B4 hS2 rfl (AC ⟨B6 CN _,key _ _ _ (fun b o nb e=>?_) (A7 (Obj.mapSeq (·.pop)) hS2 rfl)⟩);exact(BK _ _ (Ne.symm nb)).trans ((BK _ _ (Ne.symm nb)).trans e)
def RawG.low{lo}(g:RawG es lo h as)(hl:lo'<=lo):RawG es lo' h as:=⟨g.rise,fun a ha=>A3 hl (g.above a ha),g.pairs⟩
def tI(hh:A.handled=none)(hv:s.heap.IsItemsView v d)(hD:RawD s.heap d es ep)(hz:es.size<=sizeLine)(hR:∀(h':Heap)(tk:Nat)(as:List Addr),(∀b o,s.heap.get? b=some o->h'.get? b=some o)->as.length=es.size->RawG es s.heap.objs.size h' as->R (as.map Value.ref) { s with heap:=h',toks:=tk }):wpAny (model prog w) A (collect (.ref v)) R E s:=by
 have hvl:=let ⟨_,ho,_⟩:=hv;AG ho
 have hdl:=let ⟨_,e,_⟩:=hD;AG e
 (refine AA (wpAny_runValue (Bp entry_proto_collect' ?_)))
 (refine AA (Ay (AC ⟨B6 PySem.F.plain_list_iadd _,Bp entry_list_iadd' ?_⟩)))
 have up:∀b o,s.heap.get? b=some o->(s.heap.push { cls:=.type "list",data:=.seq ([]:List Value).toArray }).get? b=some o:=fun b o e=>AD _ e;have hS1:(s.heap.push { cls:=.type "list",data:=.seq ([]:List Value).toArray }).get? s.heap.objs.size=some { cls:=.type "list",data:=.seq #[] }:=AM _ rfl
 have key:=XB (prog:=prog) (w:=w) (s:={ s with heap:=s.heap.push { cls:=.type "list",data:=.seq ([]:List Value).toArray } })
  (R:=fun q s'=>∃h' tk acc c as,q=.ok (.ret (.ref s.heap.objs.size))/\s'={ s with heap:=h',toks:=tk }/\(∀b o,s.heap.get? b=some o->h'.get? b=some o)/\h'.get? s.heap.objs.size=some { cls:=.type "list",dict:=none,data:=.seq acc c,slots:=#[] }/\as.length=es.size/\RawG es s.heap.objs.size h' as/\acc.toList=as.map Value.ref)
  hh (let ⟨o,ho,x⟩:=hv;⟨o,up _ _ ho,x⟩) (hD.at fun o e=>up d o e) (Ax hvl) (Ad hdl) hS1 hz fun h' tk acc c as hk hS' hl hG hacc=>⟨h',tk,acc,c,as,rfl,rfl,fun b o e=>hk b o (Ad (AG e)) (up b o e),hS',hl,hG.low (by simp_all),hacc⟩
 refine BP key (fun fin s' x=>?_) fun e s' x=>?_
 .have last:∀h' tk acc c as,(∀b o,s.heap.get? b=some o->h'.get? b=some o)->h'.get? s.heap.objs.size=some { cls:=.type "list",dict:=none,data:=.seq acc c,slots:=#[] }->as.length=es.size->RawG es s.heap.objs.size h' as->acc.toList=as.map Value.ref->R acc.toList { s with heap:=h',toks:=tk }:=fun h' tk acc c as y1 _ y3 y4 y5=>y5▸hR h' tk as y1 y3 y4
  cases fin with
  |done f =>
   obtain⟨h',tk,acc,c,as,e,rfl,y1,y2,y3,y4,y5⟩:=x;cases e
   (exact AA (wpAny_load y2 (AC (last h' tk acc c as y1 y2 y3 y4 y5))))
  |again c1 =>
   refine⟨x.1,DS x.2 ?_⟩;rintro q s2 ⟨h',tk,acc,c,as,rfl,rfl,y1,y2,y3,y4,y5⟩
   (exact AA (wpAny_load y2 (AC (last h' tk acc c as y1 y2 y3 y4 y5))))
 .lia
end
end PySem.W
namespace L2
open PySem PySem.W PyProof.Rows
section
variable {α:Type}{as:List Addr}{ps:List α}
def zip_at(nd:as.Nodup){j:Nat}(ha:as[j]?=some a)(hp:ps[j]?=some p):(as.zip ps).find? (fun q=>q.1==a)=some (a,p):=by
 induction as generalizing ps j with
 |nil=>cases ha
 |cons x as ih =>
  cases ps with
  |nil=>cases hp
  |cons y ps =>
   have nd:=BN.mp nd;rw[DE,BO]
   cases j with
   |zero=>cases ha;cases hp;simp
   |succ j =>
    exact(show(x==a)=false from DX fun e=>nd.1 (e▸Ah ha))▸ih nd.2 ha hp
def zip_of(h:(as.zip ps).find? (fun q=>q.1==b)=some q):∃j:Nat,as[j]?=some b/\ps[j]?=some q.2:=by
 have h0:=Da h;obtain⟨j,hj⟩:=BU.mp (Bn h);rw[List.getElem?_zip_eq_some] at hj;exact⟨j,by exact(eq_of_beq h0)▸hj.1,hj.2⟩
end
inductive TPs(H:Hp):List Addr->List (List Key×V)->Prop
 |nil:TPs H [] []
 |cons {a b:Addr} {k:List Key} {v:V} {as:List Addr} {kvs:List (List Key×V)} (h1:H a=some (.tup [.ref b,v])) (h2:H b=some (.tup (k.map kV))) (r:TPs H as kvs):TPs H (a::as) ((k,v)::kvs)
def mkT(as:List Addr)(ps:List (Addr×V)):Addr->Option (List V):=fun b=>((as.zip ps).find? fun p=>p.1==b).map fun p=>[.ref p.2.1,p.2.2]
theorem Vh: ∀{as}{kvs},as.length=kvs.length->(∀(j:Nat)a p,as[j]?=some a->kvs[j]?=some p->∃b,H a=some (.tup [.ref b,p.2])/\H b=some (.tup (p.1.map kV)))->TPs H as kvs
 |[],[],_,_=>.nil
 |[],_::_,h,_=>nomatch h
 |_::_,[],h,_=>nomatch h
 |a::as,p::kvs,h,k=>let ⟨b,e1,e2⟩:=k 0 a p rfl rfl;.cons e1 e2 (Vh (A4 h) fun j a' p' h1 h2=>k (j+1) a' p' h1 h2)
def kt_raw(r:KT H kvs xs):∃ps:List (Addr×V),ps.length=kvs.length/\∀j:Nat,∀p∈ps[j]?,∃k u,kvs[j]?=some (k,p.2)/\xs[j]?=some (k,p.1,u)/\H p.1=some (.tup (k.map kV))/\RelV p.2 u:=by
 induction r with
 |nil=>exact⟨[],rfl,fun j p h=>by cases h⟩
 |@cons p q l1 l2 h r ih =>
  obtain⟨ps,e,f⟩:=ih;obtain⟨k,v⟩:=p;obtain⟨k',b,u⟩:=q;obtain⟨rfl,z2,z3⟩:=h;refine⟨(b,v)::ps,by rw[AY,AY,e],fun j p hp=>?_⟩
  cases j with
  |zero=>cases hp;exact⟨k,u,rfl,rfl,z2,z3⟩
  |succ j=>exact f j p hp
section
variable {X:Cx}
def Qs d(hd:(d==sysModules)=false):MeetsIn prog w (Builtin.«dict.items» ⟨[.ref d],[]⟩) (fun _ R s=>s.TypeIs (.ref d) "dict"/\R (.ok (.ret (.ref s.heap.objs.size))) { s with heap:=s.heap.push { cls:=.type "dict_items",data:=.fields #[.ref d] } }) :=
 .of_wp fun A R s zz=>sM zz fun hT h=> by
  (apply AA;refine AA (Cm hT ?_))
  (apply AC;delta Builtin.Dict.showsAll)
  (exact(AX (hd▸AN))▸AA (AC (AA (Ay (AC ⟨_,rfl,h⟩)))))
def rItemsT:V->List V->Hp->VK->Prop:=fun x vs H Q=>∃d kvs,x=.ref d/\vs=[]/\H d=some (.dT kvs)/\∀v,H v=none->Q (.ref v) (upd H v (.ext (dG v d)))
def Kj:MtR X "dict.items" rItemsT:=by
 intro pins s σ H x xs v us Q I rx rv h;obtain⟨d,kvs,rfl,rfl,hd,q⟩:=h;cases rx;cases rv;obtain⟨z,hS,ys,rel,dd⟩:=Jj I.hok hd;refine call_meetsIn F.slot_dict_items dd.typeIs F.entry_dict_items (F.args_dict_items_1 _) (Qs d hS) ⟨dd.typeIs,⟨.ref s.heap.objs.size,_,I.laid (t':=s.toks) (o:=.ext (dG s.heap.objs.size d)) (fun b o e=>AD _ e) (AH _) ⟨⟨_,AM _ rfl,rfl,rfl⟩,⟨_,AM _ rfl⟩,?_⟩,rfl,q _ (I.hok.fresh (AH _))⟩⟩
 rintro h1 h2 ⟨o,e1,e2⟩ e;exact⟨o,e o e1,e2⟩
def jA(hc:X.calm=true):CallR X (.builtin "sorted") (fun xs H Q=>∃v d kvs lt,xs=[.ref v]/\H v=some (.ext (dG v d))/\H d=some (.dT kvs)/\kvs.length < 64 /\
  ∀as H1,Same H H1->TPs H1 as kvs->(∀a∈as,H a=none)->(∀a,H a=none->H1 a≠none->a∈as)->Srt X H1 (List.map V.ref as) lt/\∀p,H1 p=none->Q (.ref p) (upd H1 p (.lst (jM lt (List.map V.ref as))))):=by
 intro pins s σ H xs us Q I r h;obtain⟨v,d,kvs,lt,rfl,hv,hd,h64,hq⟩:=h;obtain⟨u,rfl,rfl⟩:=r.one;obtain⟨z,hS,ys,rel,dd⟩:=Jj I.hok hd;refine QR (I.hok v _ hv) fun hview _ _=>Kz dd fun od es ep d1 d2 d3 d4 _ _=>eQ (kt_raw rel) fun ps pl pf=>?_;have hes:es.size=kvs.length:=by rw[size_of_entries d4,(Paired.length rel)]
 refine DK kind_sorted plain_sorted entry_sorted (args_sorted1 _) (?_:wpAny _ _ (Builtin.«sorted» _) _ _ _);refine AA (AC (AA (tI (by simp[I.ok.hd hc]) hview ⟨od,d1,d2,d3⟩ (by rwa [hes]) fun h' tk as keep hlen G=>?_)));have nd:=G.rise.imp fun h=>Ad h;have hlen':=hlen.trans hes;have up:∀a∈as,s.heap.objs.size<=a:=fun a ha=>Bh (G.above a ha)
 have inv:∀b xs,mkT as ps b=some xs->∃(j:Nat)(p:Addr×V),as[j]?=some b/\ps[j]?=some p/\xs=[.ref p.1,p.2]:=fun b xs e=>by
  delta mkT at e
  cases y:(as.zip ps).find? fun p=>p.1==b with
  |none=>rw[y] at e;cases e
  |some q =>
   rw[y] at e;cases e;exact eQ (zip_of y) fun j e1 e2=>⟨j,q.2,e1,e2,rfl⟩
 have I1:Inv X pins σ (layT H (mkT as ps)) { s with heap:=h',toks:=tk }:=I.tups keep fun b xs e=>by
  obtain⟨j,p,e1,e2,rfl⟩:=inv b xs e;refine QN (pf j p e2) fun k u f1 f2 f3 f4=>eQ (G.pairs j b e1) fun en g1 g2=>?_;have g3:es[j]?=some (entryOfKey (tupleKind (cX X.prog X.w)) (k,p.1,u)):=by rw[entry_at d4,f2];rfl
  rw[g3] at g1;cases g1;exact⟨up b (Ah e1),y0 2 rfl,[.ref p.1,u],.cons rfl (.cons f4 .nil),⟨_,g2,rfl,⟨_,rfl⟩,rfl⟩⟩
 have fr:∀b xs,mkT as ps b=some xs->H b=none:=fun b xs e=>wY (inv b xs e) fun j p e1 _=>I.hok.fresh (up b (Ah e1))
 obtain⟨hs,q⟩:=hq as (layT H (mkT as ps)) (fun b o e=>bK fr e) (Vh hlen' fun j a p h1 h2=>by
   obtain⟨p',hp'⟩:∃p',ps[j]?=some p':=⟨ps[j]'(pl▸(Ak.1 h2).1),AO _⟩;refine QN (pf j p' hp') fun k u f1 f2 f3 f4=>?_;rw[h2] at f1;cases f1
   exact⟨p'.1,kG (by delta mkT;rw[zip_at nd h1 hp'];rfl),bK fr f3⟩) (fun a ha=>I.hok.fresh (up a ha)) fun a n1 n2=>by
  cases y:mkT as ps a with
  |none=>rw[gK y] at n2;exact absurd n1 n2
  |some xs=>exact wY (inv a xs y) fun j p e1 _=>Ah e1
 have rv:Vals (as.map V.ref) (as.map Value.ref):=by
  clear nd hlen' up I1 fr hs q hlen G hq inv
  induction as with
  |nil=>exact .nil
  |cons a as ih=>exact .cons rfl ih
 exact mL (AH _) I1 rv (by grind) hs fun p s' hp I'=>⟨_,rfl,.ref p,_,I',rfl,q p hp⟩
end
end L2
namespace L2
open PySem PySem.W PySem.Spec PyProof.Rows
def mG(kvs more:List (List Key×V)):List (List Key×V):=more.foldl (fun acc kv=>tV acc kv.1 kv.2) kvs
section
variable {X:Cx}
def op_eqTK(hu:X.A.units < cLine):OpR X (compareOp .Eq) (fun x y H Q=>∃(a b:Addr)(ks js:List Key),x=.ref a/\y=.ref b/\H a=some (.tup (ks.map kV))/\H b=some (.tup (js.map kV))/\Q (.bl (decide (ks=js))) H):=by
 intro pins s σ H x y v u Q I rx ry h;obtain⟨a,b,ks,js,rfl,rfl,ha,hb,q⟩:=h;cases (show v=Value.ref a from rx);cases (show u=Value.ref b from ry);have ka:=tY I.hok ha;have kb:=tY I.hok hb;exact wpAny_richCompare_same_room (op:=.Eq) (IsTupleKey.typeIs ka) (IsTupleKey.typeIs kb) Cc (Ap Cc (IsTupleKey.typeIs ka) F.entry_tuple_eq (tuple_eq_tree ka kb ⟨_,rfl,(fun e=>nomatch e),⟨.bl (decide (ks=js)),H,I,rfl,q⟩⟩) (F.args_tuple_eq_2 _ _)) hu
def keyB(k:Key):Value->Bool
 |.none=>decide (k=.inl none)
 |.int i _=>decide (k=.inl (some i))
 |.str z _=>decide (k=.inr z)
 |_=>false
def tE(k:Key)(ks:List Key):Nat:=ks.countP fun j=>decide (j=k)
def VF:V->List V->Hp->VK->Prop:=fun x vs H Q=>∃(l:Addr)(ks:List Key)(k:Key),x=.ref l/\vs=[kV k]/\H l=some (.lst (ks.map kV))/\Q (.int (tE k ks:Nat)) H
def Ja{j k:Key}{y:Value}(h:RelV (kV j) y):keyB k y=decide (j=k):=by
 have c:∀{p q:Prop}[Decidable p][Decidable q],(p↔q)->decide p=decide q:=fun h=>decide_eq_decide.2 h
 rcases j with (_ | i) | z
 .cases (show y=Value.none from h)
  exact c ⟨fun e=>e.symm,fun e=>e.symm⟩
 .obtain ⟨t,rfl⟩:=(show ∃t,y=Value.int i t from h)
  exact c ⟨fun e=>e.symm,fun e=>e.symm⟩
 .obtain ⟨t,rfl⟩:=(show ∃t,y=Value.str z t from h)
  exact c ⟨fun e=>e.symm,fun e=>e.symm⟩
def W8{A:Around}{s:Shared}{j k:Key}{y x:Value}(hy:RelV (kV j) y)(hx:RelV (kV k) x):SeqAt.EqAt A s y x (keyB k y):=by
 intro prog w E Q h;rw[Ja hy] at h;exact(cX prog w).eqBool (dN hy) (dN hx) h
def Zn{k:Key}:∀{ks:List Key}{its:List Value},Vals (ks.map kV) its->its.countP (keyB k)=tE k ks:=by
 intro ks
 induction ks with
 |nil=>intro its r;cases r;rfl
 |cons j ks ih =>
  intro its r;rw[A8] at r
  cases r with
  |@cons _ u _ its h r =>
   show _=(j::ks).countP fun j=>decide (j=k);rw[List.countP_cons,List.countP_cons,ih r,Ja h]
   rfl
def Vd{xs:List V}{its:List Value}(r:Vals xs its){u:Value}(h:u∈its):∃x∈xs,RelV x u:=by
 induction r with
 |nil=>cases h
 |cons a _ ih =>
  rcases Af.mp h with rfl | h
  .exact ⟨_,AF,a⟩
  .obtain ⟨x,h1,h2⟩:=ih h
   exact⟨x,AK _ h1,h2⟩
def Wr:MtR X "list.count" VF:=by
 intro pins s σ H x vs v us Q I rx rv h;obtain⟨l,ks,k,rfl,rfl,hH,q⟩:=h;cases (show v=Value.ref l from rx);obtain⟨u,rfl,ru⟩:=rv.one;obtain⟨z,its,n,r,hl,e⟩:=I.lstM hH;refine Ce F.slot_list_count ⟨_,e,rfl⟩ F.entry_list_count (F.args_list_count_2 _ _) (SeqAt.list_countAt l its.toArray n none #[] u (keyB k)) ⟨e,fun y hy=>?_,⟨.int (tE k ks:Nat),H,I.tok _,⟨s.toks,?_⟩,q⟩⟩
 .obtain ⟨x',hx',rx'⟩:=Vd r (u:=y) (by simpa using hy)
  obtain⟨j,_,rfl⟩:=AU.mp hx';exact W8 rx' ru
 .rw [List.toList_toArray,Zn r]
end
end L2
namespace CL
open PySem PySem.Spec L2
open PyProof.Rows hiding St
inductive PV where
 |non | bl (b:Bool) | int (i:Int) | str (x:Str) | ty (n:String) | tup (xs:List PV) | kt (xs:List PV) | fz (xs:List PV) | vw (d:Addr) | ref (a:Addr)
def imm:HO->Bool
 |.tup _=>true
 |.frz _ (.dK _)=>false
 |.frz _ (.dT _)=>false
 |.frz _ _=>true
 |.ext _=>true
 |_=>false
def Imm(H H':Hp):Prop:=∀a o,imm o=true->H a=some o->H' a=some o
def Imm.new(hp:H p=none)o:Imm H (upd H p o):=fun a u _ e=>by
 rwa [mQ (kK e hp)]
def Imm.mut(hp:H p=some u)(hu:imm u=false)o:Imm H (upd H p o):=fun a v i e=>by
 have:a≠p:=by
  intro z;subst z;rw[hp] at e;cases e;rw[hu] at i;cases i
 rwa [mQ this]
def Fz(K:Dl)(H:Hp)(a:Addr)(xs:List V):Prop :=
 (∃o,H a=some (.frz o (.lst xs))) \/
  ∃(o:Obj)(its:Array Value)(n:Nat),K.lookup a=some o/\o.cls=.type "list"/\o.dict=none/\o.data=.seq its n/\its.size<=sizeLine/\Vals xs its.toList
def Fz.sq{K}(h:Fz K H a xs):SqL K H a xs:=by
 rcases h with ⟨o,h⟩ | h
 .exact .inl (.inr ⟨o,h⟩)
 .exact .inr h
def Fz.imm{K}(h:Fz K H a xs)(k:Imm H H'):Fz K H' a xs:=by
 rcases h with ⟨o,h⟩ | h
 .exact .inl ⟨o,k _ _ rfl h⟩
 .exact .inr h
def SqT.imm{K}(h:SqT K H a xs)(k:Imm H H'):SqT K H' a xs:=by
 rcases h with (h | ⟨o,h⟩) | h
 .exact .inl (.inl (k _ _ rfl h))
 .exact .inl (.inr ⟨o,k _ _ rfl h⟩)
 .exact .inr h
mutual
inductive Rep(K:Dl)(H:Hp):V->PV->Prop
 |non:Rep K H .non .non
 |bl (b:Bool):Rep K H (.bl b) (.bl b)
 |int (i:Int):Rep K H (.int i) (.int i)
 |str (x:Str):Rep K H (.str x) (.str x)
 |ty (n:String):Rep K H (.ty n) (.ty n)
 |ref (a:Addr):Rep K H (.ref a) (.ref a)
 |tup {a:Addr} {vs:List V} {ts:List PV} (h:H a=some (.tup vs)) (r:Reps K H vs ts):Rep K H (.ref a) (.tup ts)
 |kt {a:Addr} {vs:List V} {ts:List PV} (h:SqT K H a vs) (r:Reps K H vs ts):Rep K H (.ref a) (.kt ts)
 |fz {a:Addr} {vs:List V} {ts:List PV} (h:Fz K H a vs) (r:Reps K H vs ts):Rep K H (.ref a) (.fz ts)
 |vw {a d:Addr} (h:H a=some (.ext (dG a d))):Rep K H (.ref a) (.vw d)
inductive Reps(K:Dl)(H:Hp):List V->List PV->Prop
 |nil:Reps K H [] []
 |cons {v:V} {t:PV} {vs:List V} {ts:List PV} (h:Rep K H v t) (r:Reps K H vs ts):Reps K H (v::vs) (t::ts)
end
section
variable {K:Dl}{H H' H1 H2:Hp}
mutual
theorem Rep.imm{v:V}{t:PV}(k:Imm H H'):Rep K H v t->Rep K H' v t
 |.non=>.non
 |.bl b=>.bl b
 |.int i=>.int i
 |.str x=>.str x
 |.ty n=>.ty n
 |.ref a=>.ref a
 |.tup h r=>.tup (k _ _ rfl h) (Reps.imm k r)
 |.kt h r=>.kt (SqT.imm h k) (Reps.imm k r)
 |.fz h r=>.fz (Fz.imm h k) (Reps.imm k r)
 |.vw h=>.vw (k _ _ rfl h)
theorem Reps.imm{vs:List V}{ts:List PV}(k:Imm H H'):Reps K H vs ts->Reps K H' vs ts
 |.nil=>.nil
 |.cons h r=>.cons (Rep.imm k h) (Reps.imm k r)
end
theorem Reps.len: Reps K H vs ts->vs.length=ts.length
 |.nil=>rfl
 |.cons _ r=>Bg (· + 1) r.len
theorem Reps.get{i:Nat}: Reps K H vs ts->ts[i]?=some t->∃v,vs[i]?=some v/\Rep K H v t
 |.nil,e=>by cases e
 |.cons h r,e=>by
  cases i with
  |zero=>cases e;exact⟨_,rfl,h⟩
  |succ i=>exact r.get e
theorem Reps.append: Reps K H vs ts->Reps K H us ss->Reps K H (vs++us) (ts++ss)
 |.nil,r=>r
 |.cons h t,r=>.cons h (t.append r)
theorem Reps.take: ∀n,Reps K H vs ts->Reps K H (vs.take n) (ts.take n)
 |0,_=>.nil
 |_+1,.nil=>.nil
 |n+1,.cons h r=>.cons h (r.take n)
theorem Reps.drop: ∀n,Reps K H vs ts->Reps K H (vs.drop n) (ts.drop n)
 |0,r=>r
 |_+1,.nil=>.nil
 |n+1,.cons _ r=>r.drop n
theorem Reps.set(h:Rep K H v t):∀n,Reps K H vs ts->Reps K H (vs.set n v) (ts.set n t)
 |_,.nil=>.nil
 |0,.cons _ r=>.cons h r
 |n+1,.cons g r=>.cons g (r.set h n)
def Reps.reverse(r:Reps K H vs ts):Reps K H vs.reverse ts.reverse:=by
 induction vs generalizing ts with
 |nil=>cases r;exact .nil
 |cons v vs ih =>
  cases r with
  |cons h r=>rw[DL,DL];exact(ih r).append (.cons h .nil)
end
inductive CO where
 |lst (xs:List PV)
 |dK (kvs:List (Key×PV))
 |fK (kvs:List (Key×PV))
 |dT (kvs:List (List Key×PV))
 |fT (kvs:List (List Key×PV))
 |dP (kvs:List (List (List Key)×PV))
 |ins (c dx:Addr) (fs:List (Str×PV))
abbrev CH:=Addr->Option CO
def uQ(C:CH)(a:Addr)(o:CO):CH:=fun b=>if b=a then some o else C b
def xQ: uQ C a o a=some o:=AW rfl
def wQ(h:b≠a):uQ C a o b=C b:=AX h
abbrev FP(K:Dl)(H:Hp):List (κ×V)->List (κ×PV)->Prop:=Paired fun p q=>p.1=q.1/\Rep K H p.2 q.2
abbrev KP(K:Dl)(H:Hp):List (Key×V)->List (Key×PV)->Prop:=Paired fun p q=>p.1=q.1/\Rep K H p.2 q.2
def ORel(K:Dl)(H:Hp)(a:Addr):CO->Prop
 |.lst ts=>∃vs,H a=some (.lst vs)/\Reps K H vs ts
 |.dK kvs=>∃vs,H a=some (.dK vs)/\KP K H vs kvs
 |.fK kvs=>∃o vs,H a=some (.frz o (.dK vs))/\KP K H vs kvs
 |.dT kvs=>∃vs,H a=some (.dT vs)/\FP K H vs kvs
 |.fT kvs=>∃o vs,H a=some (.frz o (.dT vs))/\FP K H vs kvs
 |.dP kvs=>∃vs,H a=some (.dP vs)/\FP K H vs kvs
 |.ins c dx fs=>∃gs,H a=some (.ins c dx gs)/\FP K H gs fs
def HRel(K:Dl)(H:Hp)(C:CH):Prop:=∀a o,C a=some o->ORel K H a o
def still:Option CO->Bool
 |none=>true
 |some (.fK _)=>true
 |some (.fT _)=>true
 |_=>false
def Fw(H:Hp)(C:CH)(H':Hp)(C':CH):Prop:=∀a,still (C a)=true->H a≠none->C' a=C a/\H' a=H a
section
variable {K:Dl}{H H' H1 H2:Hp}{C C' C1 C2:CH}
def Fw.refl:Fw H C H C:=fun _ _ _=>⟨rfl,rfl⟩
theorem Fw.trans(f:Fw H C H1 C1)(g:Fw H1 C1 H2 C2):Fw H C H2 C2:=fun a h n=>by
 obtain⟨c,e⟩:=f a h n;obtain⟨c',e'⟩:=g a (by rwa [c]) (by rwa [e]);exact⟨c'.trans c,e'.trans e⟩
def ORel.mut(h:ORel K H a o):∃u,H a=some u/\imm u=false:=by
 cases o with
 |lst ts=>obtain⟨vs,e,_⟩:=h;exact⟨_,e,rfl⟩
 |dK ts=>obtain⟨vs,e,_⟩:=h;exact⟨_,e,rfl⟩
 |fK ts=>obtain⟨o,vs,e,_⟩:=h;exact⟨_,e,rfl⟩
 |dT ts=>obtain⟨vs,e,_⟩:=h;exact⟨_,e,rfl⟩
 |fT ts=>obtain⟨o,vs,e,_⟩:=h;exact⟨_,e,rfl⟩
 |dP ts=>obtain⟨vs,e,_⟩:=h;exact⟨_,e,rfl⟩
 |ins c dx fs=>obtain⟨vs,e,_⟩:=h;exact⟨_,e,rfl⟩
def HRel.hid(h:HRel K H C)(i:imm o=true)(e:H a=some o):C a=none:=by
 cases c:C a with
 |none=>rfl
 |some u =>
  obtain⟨v,e',i'⟩:=((h a u c).mut);rw[e] at e';cases e';rw[i] at i';cases i'
def HRel.fresh(h:HRel K H C)(e:H a=none):C a=none:=by
 cases c:C a with
 |none=>rfl
 |some u =>
  obtain⟨v,e',i'⟩:=((h a u c).mut);rw[e] at e';cases e'
def Fw.imm(f:Fw H C H' C')(h:HRel K H C):Imm H H':=fun a o i e=>by
 rw[(f a (by rw[h.hid i e];rfl) (by lia)).2];exact e
def ORel.imm(h:ORel K H a o)(k:Imm H H')(e:H' a=H a):ORel K H' a o:=by
 cases o with
 |lst ts=>obtain⟨vs,q,r⟩:=h;exact⟨vs,e.trans q,r.imm k⟩
 |dK ts=>obtain⟨vs,q,r⟩:=h;exact⟨vs,e.trans q,Paired.mapP r fun _ _ z=>⟨z.1,z.2.imm k⟩⟩
 |fK ts=>obtain⟨o,vs,q,r⟩:=h;exact⟨o,vs,e.trans q,Paired.mapP r fun _ _ z=>⟨z.1,z.2.imm k⟩⟩
 |dT ts=>obtain⟨vs,q,r⟩:=h;exact⟨vs,e.trans q,Paired.mapP r fun _ _ z=>⟨z.1,z.2.imm k⟩⟩
 |fT ts=>obtain⟨o,vs,q,r⟩:=h;exact⟨o,vs,e.trans q,Paired.mapP r fun _ _ z=>⟨z.1,z.2.imm k⟩⟩
 |dP ts=>obtain⟨vs,q,r⟩:=h;exact⟨vs,e.trans q,Paired.mapP r fun _ _ z=>⟨z.1,z.2.imm k⟩⟩
 |ins c dx fs=>obtain⟨vs,q,r⟩:=h;exact⟨vs,e.trans q,Paired.mapP r fun _ _ z=>⟨z.1,z.2.imm k⟩⟩
def HRel.new(h:HRel K H C)(hp:H p=none)o:HRel K (upd H p o) C:=fun a u c=>eQ ((h a u c).mut) fun v e _=>(h a u c).imm (Imm.new hp o) (mQ (kK e hp))
def Fw.new(hp:H p=none)o:Fw H C (upd H p o) C:=fun a c n=>⟨rfl,mQ fun z=>n (z▸hp)⟩
def HRel.lay(h:HRel K H C)(hp:H p=none)(r:ORel K (upd H p o) p u):HRel K (upd H p o) (uQ C p u):=fun a v c=>by
 by_cases e:a=p
 .subst e;rw[xQ] at c;cases c;exact r
 .rw [wQ e] at c;exact h.new hp o a v c
def Fw.lay(hp:H p=none)o u:Fw H C (upd H p o) (uQ C p u):=fun a c n=>by
 have e:a≠p:=fun z=>n (z▸hp);exact⟨wQ e,mQ e⟩
theorem HRel.put(h:HRel K H C)(hp:H p=some o₀)(hi:imm o₀=false)(r:ORel K (upd H p o) p u):HRel K (upd H p o) (uQ C p u):=fun a v c=>by
 by_cases e:a=p
 .subst e;rw[xQ] at c;cases c;exact r
 .rw [wQ e] at c;exact(h a v c).imm (Imm.mut hp hi o) (mQ e)
theorem Fw.put(hp:C p=some u₀)o u(hs:still (some u₀)=false:=by rfl):Fw H C (upd H p o) (uQ C p u):=fun a c n=>by
 have e:a≠p:=fun z=>by subst z;rw[hp,hs] at c;cases c
 exact⟨wQ e,mQ e⟩
end
abbrev CSt:=List (Option PV)
abbrev K1:=PV->CH->Prop
def RepO(K:Dl)(H:Hp):Option V->Option PV->Prop
 |_,none=>True
 |some v,some t=>Rep K H v t
 |none,some _=>False
def SRel(K:Dl)(H:Hp):St->CSt->Prop:=Paired (RepO K H)
section
variable {K:Dl}{H H':Hp}{C C':CH}
def RepO.imm(k:Imm H H')(h:RepO K H v t):RepO K H' v t:=by
 cases t with
 |none=>cases v<;>trivial
 |some t=>cases v with
  |none=>exact h
  |some v=>exact Rep.imm k h
def SRel.imm(s:SRel K H σ ρ)(k:Imm H H'):SRel K H' σ ρ:=Paired.mapP s fun _ _=>RepO.imm k
def SRel.get{i:Nat}(s:SRel K H σ ρ)(e:ρ[i]?=some (some t)):∃v,σ[i]?=some (some v)/\Rep K H v t:=by
 induction s generalizing i with
 |nil=>cases e
 |@cons a b l₁ l₂ h r ih =>
  cases i with
  |zero =>
   cases e
   cases a with
   |none=>exact h.elim
   |some v=>exact⟨v,rfl,h⟩
  |succ i=>exact ih e
def SRel.set(s:SRel K H σ ρ)(h:Rep K H v t)i:SRel K H (σ.set i (some v)) (ρ.set i (some t)):=by
 induction s generalizing i with
 |nil=>exact .nil
 |cons h' r ih =>
  cases i with
  |zero=>exact .cons h r
  |succ i=>exact .cons h' (ih i)
end
def kJ{α β:Type}(K:Dl)(rel:Hp->α->β->Prop)(c:CSt->CH->(β->CH->Prop)->Prop):St->Hp->(α->Hp->Prop)->Prop:=fun σ H Q=>
 ∃ρ C R,SRel K H σ ρ/\HRel K H C/\c ρ C R/\∀v H' t C',R t C'->rel H' v t->HRel K H' C'->Fw H C H' C'->Q v H'
abbrev TCE:=CSt->CH->K1->Prop
abbrev TCT:=CSt->CH->(Bool->CH->Prop)->Prop
abbrev TCA:=CSt->CH->(List PV->CH->Prop)->Prop
abbrev vF:Hp->Bool->Bool->Prop:=fun _ a b=>a=b
structure CEnds where
 nx:CSt->CH->Prop
 rt:K1
 bk:CSt->CH->Prop:=fun _ _=>False
 ct:CSt->CH->Prop:=fun _ _=>False
abbrev CEnds.wn(E:CEnds)(k:CSt->CH->Prop):CEnds:={ E with nx:=k }
abbrev CEnds.lp(E:CEnds)(k:CSt->CH->Prop):CEnds:={ nx:=k,ct:=k,bk:=E.nx,rt:=E.rt }
abbrev CEnds.go(R:K1):CEnds:={ nx:=fun _ C'=>R .non C',rt:=R }
abbrev TCS:=CEnds->CSt->CH->Prop
structure ERel(K:Dl)(H:Hp)(C:CH)(E:CEnds)(D:YN):Prop where
 nx:∀σ' H' ρ' C',E.nx ρ' C'->SRel K H' σ' ρ'->HRel K H' C'->Fw H C H' C'->D.nx σ' H'
 rt:∀v H' t C',E.rt t C'->Rep K H' v t->HRel K H' C'->Fw H C H' C'->D.rt v H'
 bk:∀σ' H' ρ' C',E.bk ρ' C'->SRel K H' σ' ρ'->HRel K H' C'->Fw H C H' C'->D.bk σ' H'
 ct:∀σ' H' ρ' C',E.ct ρ' C'->SRel K H' σ' ρ'->HRel K H' C'->Fw H C H' C'->D.ct σ' H'
def ERel.fw{K}(e:ERel K H C E D)(f:Fw H C H1 C1):ERel K H1 C1 E D :=
 ⟨fun σ' H' ρ' C' h s r g=>e.nx σ' H' ρ' C' h s r (f.trans g),fun v H' t C' h s r g=>e.rt v H' t C' h s r (f.trans g),fun σ' H' ρ' C' h s r g=>e.bk σ' H' ρ' C' h s r (f.trans g),fun σ' H' ρ' C' h s r g=>e.ct σ' H' ρ' C' h s r (f.trans g)⟩
def Wv(K:Dl)(c:TCS):TS:=fun D σ H=>∃ρ C E,SRel K H σ ρ/\HRel K H C/\c E ρ C/\ERel K H C E D
structure CE(X:Cx)(e:Expr)(c:TCE):Prop where
 h:JE X e (kJ X.K (Rep X.K) c)
structure CT(X:Cx)(e:Expr)(c:TCT):Prop where
 h:JT X e (kJ X.K vF c)
structure CW(X:Cx)(e:Expr)(c:TCT):Prop where
 h:JW X e (kJ X.K vF c)
structure CA(X:Cx)(es:List Expr)(c:TCA):Prop where
 h:JA X es (kJ X.K (Reps X.K) c)
structure CS(X:Cx)(st:Stmt)(c:TCS):Prop where
 h:JS X st (Wv X.K c)
structure CB(X:Cx)(st:List Stmt)(c:TCS):Prop where
 h:JB X st (Wv X.K c)
section
variable {X:Cx}{a b c e o i:Expr}{es:List Expr}{pos:Pos}{rest:List Expr}{st:Stmt}{sts:List Stmt}
def JE.weak(h:JE X e t)(w:∀σ H Q,t' σ H Q->t σ H Q):JE X e t':=⟨fun pins s σ H Q I q=>h.h pins s σ H Q I (w σ H Q q)⟩
def JT.weak(h:JT X e t)(w:∀σ H Q,t' σ H Q->t σ H Q):JT X e t':=⟨fun pins s σ H Q I q=>h.h pins s σ H Q I (w σ H Q q)⟩
def JW.weak(h:JW X e t)(w:∀σ H Q,t' σ H Q->t σ H Q):JW X e t':=⟨fun wh pins s σ H Q I q=>h.h wh pins s σ H Q I (w σ H Q q)⟩
def JA.weak(h:JA X es t)(w:∀σ H Q,t' σ H Q->t σ H Q):JA X es t':=⟨fun p pins s σ H Q I q=>h.h p pins s σ H Q I (w σ H Q q)⟩
def JS.weak(h:JS X st t)(w:∀D σ H,t' D σ H->t D σ H):JS X st t':=⟨fun pins s σ H D I q=>h.h pins s σ H D I (w D σ H q)⟩
def JB.weak(h:JB X sts t)(w:∀D σ H,t' D σ H->t D σ H):JB X sts t':=⟨fun pins s σ H D I q=>h.h pins s σ H D I (w D σ H q)⟩
def jY(i:Nat):TCE:=fun ρ C Q=>match ρ[i]? with
 |some (some t)=>Q t C
 |_=>False
def cC(t:PV):TCE:=fun _ C Q=>Q t C
def cv i(hN:X.N[i]?=some x:=by rfl)(hv:Vis X.env.scope x:=by first | exact Or.inl rfl | exact Or.inr (Or.inl rfl) | exact Or.inr (Or.inr rfl))(hd:(x==("__debug__" : Str))=false:=by decide)(hcd:(x==("__classdict__" : Str))=false:=by decide):CE X (.Name x pos) (jY i):=⟨JE.weak ⟨VX hN hv hd hcd⟩ fun σ H Q zz=>pX zz fun ρ C R s h q f=> by
 delta jY at q
 split at q
 .next t e =>
  exact eQ (s.get e) fun v ev r=>⟨v,ev,f v H t C q r h Fw.refl⟩
 .exact q.elim⟩
def KJ(h:JE X e (tC v))(r:∀H,Rep X.K H v t):CE X e (cC t):=⟨JE.weak h fun σ H Q zz=>pX zz fun ρ C R s h q f=> f v H t C q (r H) h Fw.refl⟩
def zQ{i j pos}:CE X (.Constant (.int i) j pos) (cC (.int i)):=KJ ⟨pe_int⟩ fun _=>.int i
def tJ{b j pos}:CE X (.Constant (.bool b) j pos) (cC (.bl b)):=KJ ⟨pe_bl⟩ fun _=>.bl b
def vV{j pos}:CE X (.Constant .none j pos) (cC .non):=KJ ⟨pe_non⟩ fun _=>.non
def kQ{x j pos}:CE X (.Constant (.str x) j pos) (cC (.str x)):=KJ ⟨pe_str⟩ fun _=>.str x
def mW(hg:Gl X x)(hm:X.mg x=some u)(r:RelV v u)(q:∀H,Rep X.K H v t)(hd:(x==("__debug__" : Str))=false:=by decide):CE X (.Name x pos) (cC t):=KJ ⟨pe_glob hg hm r hd⟩ q
def gV(hg:Gl X x)(hm:X.mg x=none)(hv:bootBuiltins x=some (.type n))(hn:x ≠ "__name__":=by decide)(hd:(x==("__debug__" : Str))=false:=by decide):CE X (.Name x pos) (cC (.ty n)):=KJ (je_bltn (v:=.ty n) hg hm hv rfl hn hd) fun _=>.ty n
abbrev R2C:=PV->PV->CH->K1->Prop
def Cop(K:Dl)(r:R2)(cr:R2C):Prop:=∀x y px py H C Q R,Rep K H x px->Rep K H y py->HRel K H C->cr px py C R->(∀v H' t C',R t C'->Rep K H' v t->HRel K H' C'->Fw H C H' C'->Q v H')->r x y H Q
def cOp(cr:R2C)(ca cb:TCE):TCE:=fun ρ C Q=>ca ρ C fun x C1=>cb ρ C1 fun y C2=>cr x y C2 Q
def bP{K}(hr:Cop K r cr){Q:VK}(h:kJ K (Rep K) (cOp cr ca cb) σ H Q):tOp r (kJ K (Rep K) ca) (kJ K (Rep K) cb) σ H Q :=pX h fun ρ C R s h q f=>⟨ρ,C,_,s,h,q,fun x H1 px C1 q1 rx h1 f1=>⟨ρ,C1,_,s.imm (f1.imm h),h1,q1,fun y H2 py C2 q2 ry h2 f2=>
  hr x y px py H2 C2 Q R (rx.imm (f2.imm h1)) ry h2 q2 fun v H' t C' q' r' h' f'=>f v H' t C' q' r' h' (f1.trans (f2.trans f'))⟩⟩
def tQ(ho:OpR X (binaryOp op) r)(hr:Cop X.K r cr)(ha:CE X a ca)(hb:CE X b cb):CE X (.BinOp a op b pos) (cOp cr ca cb):=⟨JE.weak ⟨pe_op ho ha.h.h hb.h.h⟩ fun _ _ _ h=>bP hr h⟩
def wV(ho:OpR X (compareOp op) r)(hr:Cop X.K r cr)(ha:CE X a ca)(hb:CE X b cb)(hm:behindInMarks op b=false):CE X (.Compare a [op] [b] pos) (cOp cr ca cb):=⟨JE.weak ⟨pe_cmpR ho ha.h.h hb.h.h hm⟩ fun _ _ _ h=>bP hr h⟩
def vN(k:Bool->CH->Prop):PV->CH->Prop
 |.bl b,C=>k b C
 |_,_=>False
def rT(c:TCE):TCT:=fun ρ C Q=>c ρ C (vN Q)
def tT{K}(q:vN Q t C)(r:Rep K H v t):∃b,t=.bl b/\v=.bl b/\Q b C:=by
 cases t with
 |bl b=>cases r;exact⟨b,rfl,rfl,q⟩
 |_=>exact q.elim
def Ko{K}{c}(h:kJ K vF (rT c) σ H Q):Vo (kJ K (Rep K) c) σ H Q :=pX h fun ρ C R s h q f=>⟨ρ,C,_,s,h,q,fun x H1 px C1 q1 rx h1 f1=>by
  obtain⟨b,rfl,rfl,q2⟩:=tT q1 rx
  exact⟨b,rfl,f b H1 b C1 q2 rfl h1 f1⟩⟩
def qC(ho:OpR X (compareOp op) r)(hr:Cop X.K r cr)(ha:CE X a ca)(hb:CE X b cb)(hm:behindInMarks op b=false):CT X (.Compare a [op] [b] pos) (rT (cOp cr ca cb)) :=
 ⟨JT.weak ⟨pt_cmpR ho ha.h.h hb.h.h hm⟩ fun σ H Q h=>by
  refine pX h fun ρ C R s h q f=>bP hr ⟨ρ,C,_,s,h,q,fun x H1 px C1 q1 rx h1 f1=>?_⟩;obtain⟨b,rfl,rfl,q2⟩:=tT q1 rx
  exact⟨b,rfl,f b H1 b C1 q2 rfl h1 f1⟩⟩
def hZ{c}(h:CE X e c)(he:iD e=true:=by rfl):CT X e (rT c):=⟨JT.weak ⟨pt_val h.h.h (aH he)⟩ fun _ _ _ h=>Ko h⟩
def Zw(cr cr':R2C)(ca cb cc:TCE):TCE:=fun ρ C Q=>ca ρ C fun x C1=>cb ρ C1 fun y C2=>cr x y C2 (vN fun b C3=>if b=true then cc ρ C3 fun z C4=>cr' y z C4 Q else Q (.bl false) C3)
def bN{K}(hr:Cop K r cr)(hr':Cop K r' cr'){Q:VK}(h:kJ K (Rep K) (Zw cr cr' ca cb cc) σ H Q):Xu r r' (kJ K (Rep K) ca) (kJ K (Rep K) cb) (kJ K (Rep K) cc) σ H Q:=by
 refine pX h fun ρ C R s h q f=>⟨ρ,C,_,s,h,q,fun x H1 px C1 q1 rx h1 f1=>⟨ρ,C1,_,s.imm (f1.imm h),h1,q1,fun y H2 py C2 q2 ry h2 f2=>
  hr x y px py H2 C2 _ _ (rx.imm (f2.imm h1)) ry h2 q2 fun v H3 t C3 q3 r3 h3 f3=>by
   obtain⟨b,rfl,rfl,q4⟩:=tT q3 r3;refine⟨b,rfl,?_⟩
   cases b with
   |true =>
    exact⟨ρ,C3,_,(s.imm (f1.imm h)).imm ((f2.trans f3).imm h1),h3,q4,fun z H4 pz C4 q5 rz h4 f4=>hr' y z py pz H4 C4 Q R (ry.imm ((f3.trans f4).imm h2)) rz h4 q5 fun v H' t C' q' r' h' f'=>f v H' t C' q' r' h' (f1.trans (f2.trans (f3.trans (f4.trans f'))))⟩
   |false=>exact f _ H3 _ C3 q4 (.bl false) h3 (f1.trans (f2.trans f3))⟩⟩
def Yv(ho:OpR X (compareOp op) r)(ho':OpR X (compareOp op') r')(hr:Cop X.K r cr)(hr':Cop X.K r' cr')(ha:CE X a ca)(hb:CE X b cb)(hc:CE X c cc)(hm:lastMarks [op,op'] [b,c]=false:=by with_unfolding_all rfl):CE X (.Compare a [op,op'] [b,c] pos) (Zw cr cr' ca cb cc):=⟨JE.weak ⟨V2 ho ho' ha.h.h hb.h.h hc.h.h hm⟩ fun _ _ _ h=>bN hr hr' h⟩
def Yi(ho:OpR X (compareOp op) r)(ho':OpR X (compareOp op') r')(hr:Cop X.K r cr)(hr':Cop X.K r' cr')(ha:CE X a ca)(hb:CE X b cb)(hc:CE X c cc)(hm:lastMarks [op,op'] [b,c]=false:=by with_unfolding_all rfl):CT X (.Compare a [op,op'] [b,c] pos) (rT (Zw cr cr' ca cb cc)) :=
 ⟨JT.weak ⟨VM ho ho' ha.h.h hb.h.h hc.h.h hm⟩ fun σ H Q h=>by
  refine pX h fun ρ C R s h q f=>bN hr hr' ⟨ρ,C,_,s,h,q,fun x H1 px C1 q1 rx h1 f1=>?_⟩;obtain⟨b,rfl,rfl,q2⟩:=tT q1 rx
  exact⟨b,rfl,f b H1 b C1 q2 rfl h1 f1⟩⟩
def cUn(cr:PV->CH->K1->Prop)(ca:TCE):TCE:=fun ρ C Q=>ca ρ C fun x C1=>cr x C1 Q
def Cun(K:Dl)(r:V->Hp->VK->Prop)(cr:PV->CH->K1->Prop):Prop:=∀x px H C Q R,Rep K H x px->HRel K H C->cr px C R->(∀v H' t C',R t C'->Rep K H' v t->HRel K H' C'->Fw H C H' C'->Q v H')->r x H Q
def vC(ho:UnR X (unaryOp op) r)(hr:Cun X.K r cr)(ha:CE X a ca):CE X (.UnaryOp op a pos) (cUn cr ca):=⟨JE.weak ⟨pe_un ho ha.h.h⟩ fun σ H Q zz=>pX zz fun ρ C R s h q f=>
 ⟨ρ,C,_,s,h,q,fun x H1 px C1 q1 rx h1 f1=>hr x px H1 C1 Q R rx h1 q1 fun v H' t C' q' r' h' f'=>f v H' t C' q' r' h' (f1.trans f')⟩⟩
def cAnd(t u:TCT):TCT:=fun ρ C Q=>t ρ C fun b C1=>if b=true then u ρ C1 Q else Q false C1
def cOr(t u:TCT):TCT:=fun ρ C Q=>t ρ C fun b C1=>if b=true then Q true C1 else u ρ C1 Q
def cNot(t:TCT):TCT:=fun ρ C Q=>t ρ C fun b C1=>Q (!b) C1
def cw_pt(h:CW X e t):CT X e t:=⟨⟨h.h.h.pt⟩⟩
def cw_and1(h:CT X a t):CW X (.BoolOp .And [a] pos) t:=⟨⟨pw_and1 h.h.h⟩⟩
def cw_or1(h:CT X a t):CW X (.BoolOp .Or [a] pos) t:=⟨⟨pw_or1 h.h.h⟩⟩
def cw_and(ha:CT X a t)(hb:CW X (.BoolOp .And (b::rest) pos) u):CW X (.BoolOp .And (a::b::rest) pos) (cAnd t u):=⟨JW.weak ⟨pw_and ha.h.h hb.h.h⟩ fun σ H Q zz=>pX zz fun ρ C R s h q f=>
 ⟨ρ,C,_,s,h,q,fun x H1 y C1 q1 e h1 f1=>by
  cases e
  cases x with
  |true=>exact⟨ρ,C1,R,s.imm (f1.imm h),h1,q1,fun v H' t C' q' r' h' f'=>f v H' t C' q' r' h' (f1.trans f')⟩
  |false=>exact f false H1 false C1 q1 rfl h1 f1⟩⟩
def cw_or(ha:CT X a t)(hb:CW X (.BoolOp .Or (b::rest) pos) u):CW X (.BoolOp .Or (a::b::rest) pos) (cOr t u):=⟨JW.weak ⟨pw_or ha.h.h hb.h.h⟩ fun σ H Q zz=>pX zz fun ρ C R s h q f=>
 ⟨ρ,C,_,s,h,q,fun x H1 y C1 q1 e h1 f1=>by
  cases e
  cases x with
  |true=>exact f true H1 true C1 q1 rfl h1 f1
  |false=>exact⟨ρ,C1,R,s.imm (f1.imm h),h1,q1,fun v H' t C' q' r' h' f'=>f v H' t C' q' r' h' (f1.trans f')⟩⟩⟩
def pV(ha:CT X a t):CT X (.UnaryOp .Not a pos) (cNot t):=⟨JT.weak ⟨pt_not ha.h.h⟩ fun σ H Q zz=>pX zz fun ρ C R s h q f=>
 ⟨ρ,C,_,s,h,q,fun x H1 y C1 q1 e h1 f1=>by cases e;exact f _ H1 _ C1 q1 rfl h1 f1⟩⟩
def cAndV(ca cb:TCE):TCE:=fun ρ C Q=>ca ρ C (vN fun b C1=>if b=true then cb ρ C1 Q else Q (.bl false) C1)
def cOrV(ca cb:TCE):TCE:=fun ρ C Q=>ca ρ C (vN fun b C1=>if b=true then Q (.bl true) C1 else cb ρ C1 Q)
def Zr{op}{c}(h:CE X a c):CE X (.BoolOp op [a] pos) c:=⟨⟨pe_one h.h.h⟩⟩
def Yx(ha:CE X a ca)(hb:CE X (.BoolOp .And (b::rest) pos) cb):CE X (.BoolOp .And (a::b::rest) pos) (cAndV ca cb):=⟨JE.weak ⟨pe_and ha.h.h hb.h.h⟩ fun σ H Q zz=>pX zz fun ρ C R s h q f=>
 ⟨ρ,C,_,s,h,q,fun x H1 px C1 q1 rx h1 f1=>by
  obtain⟨b,rfl,rfl,q2⟩:=tT q1 rx;refine⟨b,rfl,?_⟩
  cases b with
  |true=>exact⟨ρ,C1,R,s.imm (f1.imm h),h1,q2,fun v H' t C' q' r' h' f'=>f v H' t C' q' r' h' (f1.trans f')⟩
  |false=>exact f _ H1 _ C1 q2 (.bl false) h1 f1⟩⟩
def ce_or{ca cb:TCE}(ha:CE X a ca)(hb:CE X (.BoolOp .Or (b::rest) pos) cb):CE X (.BoolOp .Or (a::b::rest) pos) (cOrV ca cb):=⟨JE.weak ⟨pe_or ha.h.h hb.h.h⟩ fun σ H Q zz=>pX zz fun ρ C R s h q f=>
 ⟨ρ,C,_,s,h,q,fun x H1 px C1 q1 rx h1 f1=>by
  obtain⟨b,rfl,rfl,q2⟩:=tT q1 rx;refine⟨b,rfl,?_⟩
  cases b with
  |true=>exact f _ H1 _ C1 q2 (.bl true) h1 f1
  |false=>exact⟨ρ,C1,R,s.imm (f1.imm h),h1,q2,fun v H' t C' q' r' h' f'=>f v H' t C' q' r' h' (f1.trans f')⟩⟩⟩
def cIf(t:TCT)(ca cb:TCE):TCE:=fun ρ C Q=>t ρ C fun b C1=>if b=true then ca ρ C1 Q else cb ρ C1 Q
def xD(hc:CT X c t)(ha:CE X a ca)(hb:CE X b cb):CE X (.IfExp c a b pos) (cIf t ca cb):=⟨JE.weak ⟨VY hc.h.h ha.h.h hb.h.h⟩ fun σ H Q zz=>pX zz fun ρ C R s h q f=>
 ⟨ρ,C,_,s,h,q,fun x H1 y C1 q1 e h1 f1=>by
  cases e
  cases x with
  |true=>exact⟨ρ,C1,R,s.imm (f1.imm h),h1,q1,fun v H' t C' q' r' h' f'=>f v H' t C' q' r' h' (f1.trans f')⟩
  |false=>exact⟨ρ,C1,R,s.imm (f1.imm h),h1,q1,fun v H' t C' q' r' h' f'=>f v H' t C' q' r' h' (f1.trans f')⟩⟩⟩
def uA:TCA:=fun _ C Q=>Q [] C
def uG(ca:TCE)(cr:TCA):TCA:=fun ρ C Q=>ca ρ C fun x C1=>cr ρ C1 fun xs C2=>Q (x::xs) C2
def sJ:CA X [] uA:=⟨JA.weak ⟨XI⟩ fun σ H Q zz=>pX zz fun ρ C R s h q f=> f [] H [] C q .nil h Fw.refl⟩
def qQ(ha:CE X e ca)(hr:CA X es cr)(hs:xX e=true:=by rfl):CA X (e::es) (uG ca cr):=⟨JA.weak (mP ha.h hr.h hs) fun σ H Q zz=>pX zz fun ρ C R s h q f=>
 ⟨ρ,C,_,s,h,q,fun x H1 px C1 q1 rx h1 f1=>⟨ρ,C1,_,s.imm (f1.imm h),h1,q1,fun xs H2 ps C2 q2 rs h2 f2=>f (x::xs) H2 (px::ps) C2 q2 (.cons (rx.imm (f2.imm h1)) rs) h2 (f1.trans f2)⟩⟩⟩
def cTup(ca:TCA):TCE:=fun ρ C Q=>ca ρ C fun xs C1=>xs.length<=sizeLine/\Q (.tup xs) C1
def cLst(ca:TCA):TCE:=fun ρ C Q=>ca ρ C fun xs C1=>xs.length<=sizeLine/\∀p,C1 p=none->Q (.ref p) (uQ C1 p (.lst xs))
def lQ{x1}(h:CA X es ca):CE X (.Tuple es x1 pos) (cTup ca):=⟨JE.weak ⟨pe_tup h.h.h⟩ fun σ H Q zz=>pX zz fun ρ C R s h q f=>
 ⟨ρ,C,_,s,h,q,fun xs H1 ps C1 q1 rs h1 f1=>⟨by rw[rs.len];exact q1.1,fun p hp=>f (.ref p) _ (.tup ps) C1 q1.2 (.tup fQ (rs.imm (Imm.new hp _))) (h1.new hp _) (f1.trans (Fw.new hp _))⟩⟩⟩
def zX(h:CA X es ca):CE X (.List es pos) (cLst ca):=⟨JE.weak ⟨pe_lst h.h.h⟩ fun σ H Q zz=>pX zz fun ρ C R s h q f=>
 ⟨ρ,C,_,s,h,q,fun xs H1 ps C1 q1 rs h1 f1=>⟨by rw[rs.len];exact q1.1,fun p hp=>f (.ref p) _ (.ref p) _ (q1.2 p (h1.fresh hp)) (.ref p) (h1.lay hp ⟨xs,fQ,rs.imm (Imm.new hp _)⟩) (f1.trans (Fw.lay hp _ _))⟩⟩⟩
def cDNew:TCE:=fun _ C Q=>∀p,C p=none->Q (.ref p) (uQ C p (.dK []))
def kD:CE X (.Dict [] [] pos) cDNew:=⟨JE.weak ⟨V0⟩ fun σ H Q zz=>pX zz fun ρ C R s h q f=> fun p hp=>f (.ref p) _ (.ref p) _ (q p (h.fresh hp)) (.ref p) (h.lay hp ⟨[],fQ,.nil⟩) (Fw.lay hp _ _)⟩
abbrev GC:=List PV->CH->K1->Prop
def spC(K:Dl)(G:GC):Sp:=fun vs H Q _=>∃ts C R,Reps K H vs ts/\HRel K H C/\G ts C R/\∀v H' t C',R t C'->Rep K H' v t->HRel K H' C'->Fw H C H' C'->Q v H'
def lC(G:GC)(ca:TCA):TCE:=fun ρ C Q=>ca ρ C fun xs C1=>G xs C1 Q
def ce_call{p}(F:FnOk X.prog X.w X.K X.mg X.base CX k f fd ps (spC X.K G))(hr:Room k X.A)(hg:Gl X x)(hm:X.mg x=some (.ref f))(hk:PySem.W.keepIn X.K (.ref f)=true)(hb:Binds X.K fd ps [])(hx:kY CX X E)(ha:CA X (e::es) ca)(hdb:(x==("__debug__" : Str))=false:=by decide)(hs:xX e=true:=by rfl)(hall:es.all xX=true:=by rfl):CE X (.Call (.Name x p) (e::es) [] pos) (lC G ca) :=
 ⟨JE.weak (je_call F hr hg hm hk hb .nil hx ha.h hdb hs hall) fun σ H Q zz=>pX zz fun ρ C R s h q f=>
  ⟨ρ,C,_,s,h,q,fun xs H1 ts C1 q1 rs h1 f1=>⟨ts,C1,R,by rw[Al];exact rs,h1,q1,fun v H' t C' q' r' h' f'=>f v H' t C' q' r' h' (f1.trans f')⟩⟩⟩
def Cbi(K:Dl)(r:List V->Hp->VK->Prop)(cr:GC):Prop:=∀xs ps H C Q R,Reps K H xs ps->HRel K H C->cr ps C R->(∀v H' t C',R t C'->Rep K H' v t->HRel K H' C'->Fw H C H' C'->Q v H')->r xs H Q
def nQ{id}{p}(hc:CallR X (.builtin id) r)(hr:Cbi X.K r cr)(hg:Gl X x)(hm:X.mg x=none)(hv:bootBuiltins x=some (.builtin id))(ha:CA X (e::es) ca)(hn:x ≠ "__name__":=by decide)(hdb:(x==("__debug__" : Str))=false:=by decide)(hs:xX e=true:=by rfl)(hall:es.all xX=true:=by rfl):CE X (.Call (.Name x p) (e::es) [] pos) (lC cr ca):=⟨JE.weak ⟨VG hc hg hm hv ha.h.h hn hdb hs hall⟩ fun σ H Q zz=>pX zz fun ρ C R s h q f=>
  ⟨ρ,C,_,s,h,q,fun xs H1 ts C1 q1 rs h1 f1=>hr xs ts H1 C1 Q R rs h1 q1 fun v H' t C' q' r' h' f'=>f v H' t C' q' r' h' (f1.trans f')⟩⟩
def bJ{p}(hc:CallR X (.type T) r)(hr:Cbi X.K r cr)(hg:Gl X x)(hm:X.mg x=none)(hv:bootBuiltins x=some (.type T))(ha:CA X (e::es) ca)(hn:x ≠ "__name__":=by decide)(hdb:(x==("__debug__" : Str))=false:=by decide)(hs:xX e=true:=by rfl)(hall:es.all xX=true:=by rfl):CE X (.Call (.Name x p) (e::es) [] pos) (lC cr ca):=⟨JE.weak (vL hc hg hm hv ha.h hn hdb hs hall) fun σ H Q zz=>pX zz fun ρ C R s h q f=>
  ⟨ρ,C,_,s,h,q,fun xs H1 ts C1 q1 rs h1 f1=>hr xs ts H1 C1 Q R rs h1 q1 fun v H' t C' q' r' h' f'=>f v H' t C' q' r' h' (f1.trans f')⟩⟩
def ce_ix(ho:IxR X r)(hr:Cop X.K r cr)(ha:CE X a ca)(hb:CE X b cb)(hs:oA b):CE X (.Subscript a b pos) (cOp cr ca cb):=⟨JE.weak ⟨pe_ix ho ha.h.h hb.h.h hs⟩ fun _ _ _ h=>bP hr h⟩
def cNext:TCS:=fun E ρ C=>E.nx ρ C
def KR(t u:TCS):TCS:=fun E ρ C=>t (E.wn (u E)) ρ C
def pQ:CB X [] cNext:=⟨JB.weak ⟨pss_nil⟩ fun D σ H zz=>pX zz fun ρ C E s h q f=> f.nx σ H ρ C q s h Fw.refl⟩
def vQ(h:CS X st t):CB X [st] t:=⟨⟨pss_one h.h.h⟩⟩
def jQ(h1:CS X st t)(h2:CB X sts u):CB X (st::sts) (KR t u):=⟨JB.weak ⟨VN h1.h.h h2.h.h⟩ fun D σ H zz=>pX zz fun ρ C E s h q f=>
 ⟨ρ,C,_,s,h,q,⟨fun σ' H' ρ' C' n s' h' f'=>⟨ρ',C',E,s',h',n,f.fw f'⟩,f.rt,f.bk,f.ct⟩⟩⟩
def cDrop(ce:TCE):TCS:=fun E ρ C=>ce ρ C fun _ C1=>E.nx ρ C1
def vJ(he:CE X e ce)(hs:swapsWith e none pos.line X.env=pure false:=by rfl):CS X (.Expr e pos) (cDrop ce):=⟨JS.weak ⟨ps_expr he.h.h hs⟩ fun D σ H zz=>pX zz fun ρ C E s h q f=>
 ⟨ρ,C,_,s,h,q,fun x H1 px C1 q1 rx h1 f1=>f.nx σ H1 ρ C1 q1 (s.imm (f1.imm h)) h1 f1⟩⟩
def cRet(ce:TCE):TCS:=fun E ρ C=>ce ρ C E.rt
def gQ(he:CE X e ce):CS X (.Return (some e) pos) (cRet ce):=⟨JS.weak ⟨ps_ret he.h.h⟩ fun D σ H zz=>pX zz fun ρ C E s h q f=>
 ⟨ρ,C,_,s,h,q,fun x H1 px C1 q1 rx h1 f1=>f.rt x H1 px C1 q1 rx h1 f1⟩⟩
def cIfS(t:TCT)(u v:TCS):TCS:=fun E ρ C=>t ρ C fun b C1=>if b=true then u E ρ C1 else v E ρ C1
def rQ(hc:CT X c t)(ha:CB X x u)(hb:CB X y v):CS X (.If c x y pos) (cIfS t u v):=⟨JS.weak ⟨ps_if hc.h.h ha.h.h hb.h.h⟩ fun D σ H zz=>pX zz fun ρ C E s h q f=>
 ⟨ρ,C,_,s,h,q,fun x H1 y C1 q1 e h1 f1=>by
  cases e
  cases x with
  |true=>exact⟨ρ,C1,E,s.imm (f1.imm h),h1,q1,f.fw f1⟩
  |false=>exact⟨ρ,C1,E,s.imm (f1.imm h),h1,q1,f.fw f1⟩⟩⟩
def KQ(i:Nat)(ce:TCE):TCS:=fun E ρ C=>ce ρ C fun t C1=>E.nx (ρ.set i (some t)) C1
def cs_set{i}(hN:X.N.Nodup)(hi:X.N[i]?=some x)(hx:Loc X.env.scope x)(he:CE X e ce)(hs:swapsWith e (some (.Name x pos')) pos.line X.env=pure false:=by rfl)(hf:X.fn x=true\/X.env.scope.names.lookup x=some .local:=by first | exact .inl rfl | exact .inr rfl | assumption):
  CS X (.Assign [.Name x pos'] e pos) (KQ i ce):=⟨JS.weak ⟨ps_set hN hi hx he.h.h hs hf⟩ fun D σ H zz=>pX zz fun ρ C E s h q f=>
 ⟨ρ,C,_,s,h,q,fun x H1 px C1 q1 rx h1 f1=>f.nx _ H1 _ C1 q1 ((s.imm (f1.imm h)).set rx i) h1 f1⟩⟩
abbrev TCG:=PV->CSt->CH->(CSt->CH->Prop)->Prop
abbrev K0:=List PV->CSt->CH->(CSt->CH->Prop)->Prop
def Ww(K:Dl)(c:TCG):TG:=fun v σ H Q=>∃t ρ C R,Rep K H v t/\SRel K H σ ρ/\HRel K H C/\c t ρ C R/\∀σ' H' ρ' C',R ρ' C'->SRel K H' σ' ρ'->HRel K H' C'->Fw H C H' C'->Q σ' H'
def liftGs(K:Dl)(c:K0):TGs:=fun v σ H Q=>∃t ρ C R,Reps K H v t/\SRel K H σ ρ/\HRel K H C/\c t ρ C R/\∀σ' H' ρ' C',R ρ' C'->SRel K H' σ' ρ'->HRel K H' C'->Fw H C H' C'->Q σ' H'
structure CG(X:Cx)(e:Expr)(c:TCG):Prop where
 h:JG X e (Ww X.K c)
structure CGs(X:Cx)(es:List Expr)(c:K0):Prop where
 h:JGs X es (liftGs X.K c)
def JG.weak(h:JG X e t)(w:∀v σ H Q,t' v σ H Q->t v σ H Q):JG X e t':=⟨fun pins s σ H v u Q I r q=>h.h pins s σ H v u Q I r (w v σ H Q q)⟩
def JGs.weak(h:JGs X es t)(w:∀v σ H Q,t' v σ H Q->t v σ H Q):JGs X es t':=⟨fun pins s σ H v u Q I r q=>h.h pins s σ H v u Q I r (w v σ H Q q)⟩
def Yg(i:Nat):TCG:=fun t ρ C Q=>Q (ρ.set i (some t)) C
def dNil:K0:=fun ts ρ C Q=>match ts with
 |[]=>Q ρ C
 |_=>False
def dCons(g:TCG)(u:K0):K0:=fun ts ρ C Q=>match ts with
 |t::r=>g t ρ C fun ρ' C'=>u r ρ' C' Q
 |[]=>False
def dTup(n:Nat)(u:K0):TCG:=fun t ρ C Q=>match t with
 |.tup ts=>ts.length=n/\u ts ρ C Q
 |_=>False
def cg_name{i}(hN:X.N.Nodup)(hi:X.N[i]?=some x)(hx:Loc X.env.scope x)(hf:X.fn x=true\/X.env.scope.names.lookup x=some .local:=by first | exact .inl rfl | exact .inr rfl | assumption):CG X (.Name x pos) (Yg i) :=
 ⟨JG.weak ⟨gY hN hi hx hf⟩ fun v σ H Q zz=>W9 zz fun t ρ C R r s h q f=> f _ H _ C q (s.set r i) h Fw.refl⟩
def nP:CGs X [] dNil:=⟨JGs.weak ⟨mO⟩ fun vs σ H Q zz=>W9 zz fun ts ρ C R r s h q f=> by
 cases r with
 |nil=>exact⟨rfl,f σ H ρ C q s h Fw.refl⟩
 |cons _ _=>exact q.elim⟩
def nK(h1:CG X e g)(h2:CGs X es u)(hs:(assignEach (e::es) X.env).map (·.2)=assign e X.env::(assignEach es X.env).map (·.2):=by rfl):CGs X (e::es) (dCons g u):=⟨JGs.weak ⟨jG h1.h.h h2.h.h hs⟩ fun vs σ H Q zz=>W9 zz fun ts ρ C R r s h q f=> by
 cases r with
 |nil=>exact q.elim
 |@cons v t vs ts r0 r =>
  exact⟨v,vs,rfl,t,ρ,C,_,r0,s,h,q,fun σ' H' ρ' C' q' s' h' f'=>⟨ts,ρ',C',R,r.imm (f'.imm h),s',h',q',fun σ2 H2 ρ2 C2 q2 s2 h2 f2=>f σ2 H2 ρ2 C2 q2 s2 h2 (f'.trans f2)⟩⟩⟩
def aE{k}(hc:X.calm=true)(h:CGs X es u)(hn:(assignEach es X.env).length=n:=by rfl)(hst:(assignEach es X.env).findIdx? (·.1)=none:=by rfl):CG X (.Tuple es k pos) (dTup n u):=⟨JG.weak ⟨XH hc h.h.h hn hst⟩ fun v σ H Q zz=>W9 zz fun t ρ C R r s h q f=> by
 cases r with
 |@tup a vs ts e r =>
  obtain⟨q1,q2⟩:=q;exact⟨a,vs,rfl,SqT.of e,by exact r.len▸q1,ts,ρ,C,R,r,s,h,q2,f⟩
 |_=>exact q.elim⟩
def cAsg(ce:TCE)(g:TCG):TCS:=fun E ρ C=>ce ρ C fun t C1=>g t ρ C1 E.nx
def lE(he:CE X e ce)(hg:CG X tg g)(hs:swapsWithSole [tg] e pos.line X.env=pure false:=by rfl)(hw:swappedStores [tg] e X.env=pure none:=by rfl)(h1:(assignEach [tg] X.env).map (·.2)=[assign tg X.env]:=by rfl):CS X (.Assign [tg] e pos) (cAsg ce g):=⟨JS.weak ⟨ps_asg he.h.h hg.h.h hs hw h1⟩ fun D σ H zz=>pX zz fun ρ C E s h q f=>
 ⟨ρ,C,_,s,h,q,fun x H1 px C1 q1 rx h1 f1=>⟨px,ρ,C1,E.nx,rx,s.imm (f1.imm h),h1,q1,fun σ' H' ρ' C' q' s' h' f'=>f.nx σ' H' ρ' C' q' s' h' (f1.trans f')⟩⟩⟩
@[irreducible] def Jz:PV->PV->PV->CH->(CH->Prop)->Prop:=fun o i v C Q=>match o,i with
 |.ref p,.int k=>match C p with
  |some (.lst xs)=>match ixN xs.length k with
   |some j=>Q (uQ C p (.lst (xs.set j v)))
   |none=>False
  |_=>False
 |_,_=>False
def dSub(co ci:TCE)(u:PV->PV->PV->CH->(CH->Prop)->Prop):TCG:=fun t ρ C Q=>co ρ C fun o C1=>ci ρ C1 fun i C2=>u o i t C2 fun C3=>Q ρ C3
def sP{co ci:TCE}(ho:CE X o co)(hi:CE X i ci)(ha:∀v,assign (.Subscript o i pos) X.env v=(do
   let ov <- holding [v] (eval o X.env)
   let iv <- holding [v,ov] (eval i X.env)
   standAt pos
   holding [v,ov,iv] (setItem ov iv v)
   release [v,ov,iv] []):=by intro _;rfl):CG X (.Subscript o i pos) (dSub co ci Jz):=⟨JG.weak ⟨pg_sub ho.h.h hi.h.h Vs ha⟩ fun v σ H Q zz=>W9 zz fun t ρ C R r s h q f=>
 ⟨ρ,C,_,s,h,q,fun x H1 px C1 q1 rx h1 f1=>⟨ρ,C1,_,s.imm (f1.imm h),h1,q1,fun y H2 py C2 q2 ry h2 f2=>by
  have r2:=r.imm ((f1.trans f2).imm h);have s2:=s.imm ((f1.trans f2).imm h);unfold Jz at q2
  split at q2
  .next p k =>
   split at q2
   .next xs e =>
    split at q2
    .next j ej =>
     obtain⟨vs,ev,rv⟩:=h2 p _ e;have rx2:=rx.imm (f2.imm h1);cases rx2;cases ry;refine⟨p,vs,k,j,rfl,rfl,ev,by rw[rv.len];exact ej,?_⟩;exact f σ _ ρ _ q2 (s2.imm (Imm.mut ev rfl _)) (h2.put ev rfl ⟨_,fQ,(rv.set r2 j).imm (Imm.mut ev rfl _)⟩) (f1.trans (f2.trans (Fw.put e _ _)))
    .exact q2.elim
   .exact q2.elim
  .exact q2.elim⟩⟩⟩
def KO(t:TCT)(u:TCS)(E:CEnds):Nat->CSt->CH->Prop
 |0,_,_=>False
 |n+1,ρ,C=>t ρ C fun b C1=>if b=true then u (E.lp (KO t u E n)) ρ C1 else E.nx ρ C1
def cWhile(t:TCT)(u:TCS):TCS:=fun E ρ C=>∃n,KO t u E n ρ C
def Yj(hp:PassesOwn (model X.prog X.w) X.A X.env X.xe)(hc:CT X c t)(hb:CB X body u):CS X (.While c body [] pos) (cWhile t u):=⟨JS.weak ⟨VO hp hc.h.h hb.h.h⟩ fun D σ H ⟨ρ,C,E,s,h,⟨n,q⟩,f⟩=>by
 refine⟨fun m σ' H'=>∃ρ' C',SRel X.K H' σ' ρ'/\HRel X.K H' C'/\Fw H C H' C'/\KO t u E m ρ' C',⟨n,ρ,C,s,h,Fw.refl,q⟩,?_⟩;rintro m σ1 H1 ⟨ρ1,C1,s1,h1,f1,q1⟩
 cases m with
 |zero=>exact q1.elim
 |succ m =>
  refine⟨ρ1,C1,_,s1,h1,q1,fun b H2 b' C2 q2 e h2 f2=>?_⟩;cases e
  cases b with
  |true =>
   exact(AW rfl)▸⟨fun σ' H'=>∃ρ' C',SRel X.K H' σ' ρ'/\HRel X.K H' C'/\Fw H C H' C'/\KO t u E m ρ' C',fun σ' H' z=>⟨m,Bw m,z⟩,
    ρ1,C2,_,s1.imm (f2.imm h1),h2,q2,⟨fun σ' H' ρ' C' q' s' h' f'=>⟨ρ',C',s',h',f1.trans (f2.trans f'),q'⟩,fun v H' t C' q' r' h' f'=>f.rt v H' t C' q' r' h' (f1.trans (f2.trans f')),
     fun σ' H' ρ' C' q' s' h' f'=>f.nx σ' H' ρ' C' q' s' h' (f1.trans (f2.trans f')),fun σ' H' ρ' C' q' s' h' f'=>⟨ρ',C',s',h',f1.trans (f2.trans f'),q'⟩⟩⟩
  |false =>
   exact(AX AN)▸f.nx σ1 H2 ρ1 C2 q2 (s1.imm (f2.imm h1)) h2 (f1.trans f2)⟩
def yG(g:TCG)(u:TCS)(E:CEnds):List PV->CSt->CH->Prop
 |[],ρ,C=>E.nx ρ C
 |x::r,ρ,C=>g x ρ C fun ρ1 C1=>u (E.lp (yG g u E r)) ρ1 C1
structure Xf(K:Dl)(H:Hp)(J:It)(ps:List PV):Prop where
 go:∀i H',i < ps.length->Imm H H'->J.go i H'
 yl:∀i H' x H'',Imm H H'->J.yld i H' x H''->H''=H'/\∀t,ps[i]?=some t->Rep K H' x t
 st:∀H',Imm H H'->J.stop ps.length H'
def vP{K}(j:Xf K H J ps)(s:SRel K H σ ρ)(h:HRel K H C)(q:yG g u E ps ρ C)(f:ERel K H C E D):
  ∃W:Nat->Nat->St->Hp->Prop,(∃m,W 0 m σ H)/\∀i m σ H,W i m σ H ->
   (J.stop i H/\D.nx σ H)\/(J.go i H/\∃N,(∀σ' H',N σ' H'->∃m',m' < m/\W (i+1) m' σ' H')/\∀x H',J.yld i H x H'->Ww K g x σ H' fun σ2 H2=>Wv K u { D with nx:=N,ct:=N,bk:=D.nx } σ2 H2):=by
 refine⟨fun i m σ' H'=>m=ps.length - i/\i<=ps.length/\∃ρ' C',SRel K H' σ' ρ'/\HRel K H' C'/\Fw H C H' C'/\yG g u E (ps.drop i) ρ' C',⟨ps.length,rfl,Ae _,ρ,C,s,h,Fw.refl,q⟩,?_⟩;rintro i m σ1 H1 ⟨rfl,hi,ρ1,C1,s1,h1,f1,q1⟩;have k1:=f1.imm h
 by_cases hlt:i < ps.length
 .refine .inr ⟨j.go i H1 hlt k1,fun σ' H'=>∃ρ' C',SRel K H' σ' ρ'/\HRel K H' C'/\Fw H C H' C'/\yG g u E (ps.drop (i+1)) ρ' C',fun σ' H' z=>⟨ps.length - (i+1),by omega,rfl,hlt,z⟩,fun x H2 y=>?_⟩
  obtain⟨rfl,y⟩:=j.yl i H1 x H2 k1 y;rw[Az hlt] at q1
  exact⟨ps[i],ρ1,C1,_,y _ (AO hlt),s1,h1,q1,fun σ' H' ρ' C' q' s' h' f'=>⟨ρ',C',_,s',h',q',⟨fun σ3 H3 ρ3 C3 q3 s3 h3 f3=>⟨ρ3,C3,s3,h3,f1.trans (f'.trans f3),q3⟩,fun v H3 t C3 q3 r3 h3 f3=>f.rt v H3 t C3 q3 r3 h3 (f1.trans (f'.trans f3)),
   fun σ3 H3 ρ3 C3 q3 s3 h3 f3=>f.nx σ3 H3 ρ3 C3 q3 s3 h3 (f1.trans (f'.trans f3)),fun σ3 H3 ρ3 C3 q3 s3 h3 f3=>⟨ρ3,C3,s3,h3,f1.trans (f'.trans f3),q3⟩⟩⟩⟩
 .have e:i=ps.length:=by lia
  subst e;rw[By] at q1;exact .inl ⟨j.st H1 k1,f.nx σ1 H1 ρ1 C1 q1 s1 h1 f1⟩
def uE{K}{a}(h:SqT K H a vs)(r:Reps K H vs ts):Xf K H (Itt K a) ts where
 go:=fun i H' l k=>⟨vs,vs[i]'(by rwa [r.len]),SqT.imm h k,AO _⟩
 yl:=fun i H' x H'' k y=>⟨y.1,fun t e=>by
  obtain⟨v,ev,rv⟩:=((r.imm k).get e);have:=y.2 vs (SqT.imm h k)
  rw[ev] at this;cases this;exact rv⟩
 st:=fun H' k=>⟨vs,SqT.imm h k,by exact r.len▸AH _⟩
def it_fz{K}{a}(h:Fz K H a vs)(r:Reps K H vs ts):Xf K H (Itl K a) ts where
 go:=fun i H' l k=>⟨vs,vs[i]'(by rwa [r.len]),(h.imm k).sq,AO _⟩
 yl:=fun i H' x H'' k y=>⟨y.1,fun t e=>by
  obtain⟨v,ev,rv⟩:=((r.imm k).get e);have:=y.2 vs (h.imm k).sq
  rw[ev] at this;cases this;exact rv⟩
 st:=fun H' k=>⟨vs,(h.imm k).sq,by exact r.len▸AH _⟩
def WE{K}: Xf K H (Itr 0 n) ((List.range n).map fun k=>PV.int (k:Nat)) where
 go:=fun i H' l k=>by rwa [AB,An] at l
 yl:=fun i H' x H'' k y=>⟨y.1,fun t e=>by
  rw[y.2];rw[Ao] at e
  cases z:(List.range n)[i]? with
  |none=>rw[z] at e;cases e
  |some w =>
   rw[z] at e;cases e;have:=Ak.mp z;obtain⟨l,e⟩:=this;rw[List.getElem_range] at e;subst e;rw[Int.zero_add]
   exact .int _⟩
 st:=fun H' k=>by rw[AB,An];exact AH _
@[irreducible] def sT(ce:TCE)(g:TCG)(u:TCS):TCS:=fun E ρ C=>ce ρ C fun t C1=>match t with
 |.tup xs=>yG g u E xs ρ C1
 |.kt xs=>yG g u E xs ρ C1
 |_=>False
def oG{tg iter:Expr}{body:List Stmt}{ce:TCE}{g:TCG}{u:TCS}(hp:PassesOwn (model X.prog X.w) X.A X.env X.xe)(hc:X.calm=true)(hi:CE X iter ce)(hg:CG X tg g)(hb:CB X body u)(hs:∀x,foldedSetIterable iter X.env x=pure x:=by intro _;rfl):CS X (.For tg iter body [] pos) (sT ce g u):=⟨JS.weak ⟨XE hp hc (VW hi.h.h) hg.h.h hb.h.h hs⟩ fun D σ H zz=>pX zz fun ρ C E s h q f=> by
 unfold sT at q
 exact⟨ρ,C,_,s,h,q,fun x H1 px C1 q1 rx h1 f1=>by
  cases rx with
  |@tup a vs ts e r=>exact⟨a,rfl,⟨vs,SqT.of e⟩,vP (uE (SqT.of e) r) (s.imm (f1.imm h)) h1 q1 (f.fw f1)⟩
  |@kt a vs ts e r=>exact⟨a,rfl,⟨vs,e⟩,vP (uE e r) (s.imm (f1.imm h)) h1 q1 (f.fw f1)⟩
  |_=>exact q1.elim⟩⟩
def cForR(ca:TCA)(g:TCG)(u:TCS):TCS:=fun E ρ C=>ca ρ C fun ts C1=>match ts with
 |[.int j]=>-(2 ^ 62)<=j/\j < 2 ^ 62/\yG g u E ((List.range j.toNat).map fun k=>PV.int (k:Nat)) ρ C1
 |_=>False
def oB{tg:Expr}{body:List Stmt}{ca:TCA}{g:TCG}{u:TCS}{p pos2:Pos}(hp:PassesOwn (model X.prog X.w) X.A X.env X.xe)(hc:X.calm=true)(hgl:Gl X "range")(hm:X.mg "range" = none)(ha:CA X [a] ca)(hg:CG X tg g)(hb:CB X body u)(hst:xX a=true:=by rfl)(hs:∀x,foldedSetIterable (.Call (.Name "range" p) [a] [] pos2) X.env x=pure x:=by intro _;rfl):CS X (.For tg (.Call (.Name "range" p) [a] [] pos2) body [] pos) (cForR ca g u):=⟨JS.weak ⟨XE hp hc (kS hgl hm ha.h.h (gJ hst)) hg.h.h hb.h.h hs⟩ fun D σ H zz=>pX zz fun ρ C E s h q f=>
 ⟨ρ,C,_,s,h,q,fun xs H1 ts C1 q1 rs h1 f1=>by
  split at q1
  .next j =>
   cases rs with
   |cons r0 r =>
    cases r;cases r0;exact⟨j,rfl,q1.1,q1.2.1,vP WE (s.imm (f1.imm h)) h1 q1.2.2 (f.fw f1)⟩
  .exact q1.elim⟩⟩
def qB(a:Addr)(g:TCG)(u:TCS)(E:CEnds):Nat->Nat->CSt->CH->Prop
 |0,_,_,_=>False
 |n+1,i,ρ,C=>match C a with
  |some (.lst xs)=>match xs[i]? with
   |some x=>g x ρ C fun ρ1 C1=>u (E.lp (qB a g u E n (i+1))) ρ1 C1
   |none=>E.nx ρ C
  |_=>False
def cForL(ce:TCE)(g:TCG)(u:TCS):TCS:=fun E ρ C=>ce ρ C fun t C1=>match t with
 |.ref a=>∃n,qB a g u E n 0 ρ C1
 |.fz xs=>yG g u E xs ρ C1
 |_=>False
def rP{tg iter:Expr}{body:List Stmt}{ce:TCE}{g:TCG}{u:TCS}(hp:PassesOwn (model X.prog X.w) X.A X.env X.xe)(hc:X.calm=true)(hi:CE X iter ce)(hg:CG X tg g)(hb:CB X body u)(hs:∀x,foldedSetIterable iter X.env x=pure x:=by intro _;rfl):CS X (.For tg iter body [] pos) (cForL ce g u):=⟨JS.weak ⟨XE hp hc (Z0 hi.h.h) hg.h.h hb.h.h hs⟩ fun D σ H zz=>pX zz fun ρ C E s h q f=>
 ⟨ρ,C,_,s,h,q,fun x H1 px C1 q1 rx h1 f1=>by
  cases rx with
  |@fz a vs ts e r=>exact⟨a,rfl,⟨vs,e.sq⟩,vP (it_fz e r) (s.imm (f1.imm h)) h1 q1 (f.fw f1)⟩
  |ref a =>
   obtain⟨n,q1⟩:=q1
   have ex:∃ys,SqL X.K H1 a ys:=by
    cases n with
    |zero=>exact q1.elim
    |succ n =>
     unfold qB at q1
     split at q1
     .next xs e=>obtain⟨vs,ev,_⟩:=h1 a _ e;exact⟨vs,SqL.of ev⟩
     .exact q1.elim
   refine⟨a,rfl,ex,fun i m σ' H'=>∃ρ' C',SRel X.K H' σ' ρ'/\HRel X.K H' C'/\Fw H1 C1 H' C'/\qB a g u E m i ρ' C',⟨n,ρ,C1,s.imm (f1.imm h),h1,Fw.refl,q1⟩,?_⟩;rintro i m σ2 H2 ⟨ρ2,C2,s2,h2,f2,q2⟩
   cases m with
   |zero=>exact q2.elim
   |succ m =>
    unfold qB at q2
    split at q2
    .next xs e =>
     obtain⟨vs,ev,rv⟩:=h2 a _ e
     split at q2
     .next x ex =>
      obtain⟨v,ev',rx⟩:=rv.get ex;refine .inr ⟨⟨vs,v,SqL.of ev,ev'⟩,fun σ' H'=>∃ρ' C',SRel X.K H' σ' ρ'/\HRel X.K H' C'/\Fw H1 C1 H' C'/\qB a g u E m (i+1) ρ' C',fun σ' H' z=>⟨m,Bw m,z⟩,fun y H3 hy=>?_⟩;obtain⟨rfl,hy⟩:=hy;have:=hy vs (SqL.of ev);rw[ev'] at this;cases this
      exact⟨x,ρ2,C2,_,rx,s2,h2,q2,fun σ' H' ρ' C' q' s' h' f'=>⟨ρ',C',_,s',h',q',⟨fun σ3 H3 ρ3 C3 q3 s3 h3 f3=>⟨ρ3,C3,s3,h3,f2.trans (f'.trans f3),q3⟩,fun v H3 t C3 q3 r3 h3 f3=>f.rt v H3 t C3 q3 r3 h3 (f1.trans (f2.trans (f'.trans f3))),
       fun σ3 H3 ρ3 C3 q3 s3 h3 f3=>f.nx σ3 H3 ρ3 C3 q3 s3 h3 (f1.trans (f2.trans (f'.trans f3))),fun σ3 H3 ρ3 C3 q3 s3 h3 f3=>⟨ρ3,C3,s3,h3,f2.trans (f'.trans f3),q3⟩⟩⟩⟩
     .next ex =>
      refine .inl ⟨⟨vs,SqL.of ev,?_⟩,f.nx σ2 H2 ρ2 C2 q2 s2 h2 (f1.trans f2)⟩;rw[rv.len];exact List.getElem?_eq_none_iff.mp ex
    .exact q2.elim
  |_=>exact q1.elim⟩⟩
def dJ(t:TCT)(c:TCE)(ρ:CSt)(Q:K1):List PV->List PV->CH->Prop
 |[],acc,C=>∀p,C p=none->Q (.ref p) (uQ C p (.lst acc))
 |x::r,acc,C=>t (some x::ρ) C fun b C1=>if b=true then c (some x::ρ) C1 fun y C2=>acc.length < sizeLine/\dJ t c ρ Q r (acc++[y]) C2 else dJ t c ρ Q r acc C1
structure CF(X:Cx)(ifs:List Expr)(c:TCT):Prop where
 h:JF X ifs (kJ X.K vF c)
def mC:TCT:=fun _ C Q=>Q true C
def JF.weak(h:JF X ifs t)(w:∀σ H Q,t' σ H Q->t σ H Q):JF X ifs t':=⟨fun pins s σ H Q I q=>h.h pins s σ H Q I (w σ H Q q)⟩
def nJ:CF X [] mC:=⟨JF.weak ⟨VT⟩ fun σ H Q zz=>pX zz fun ρ C R s h q f=> f true H true C q rfl h Fw.refl⟩
def cf_one(h:CT X c t):CF X [c] t:=⟨⟨VS h.h.h⟩⟩
def comp_it{K}{c}{Q:VK}(j:Xf K H J ps)(s:SRel K H σ ρ)(h:HRel K H C)(q:dJ t c ρ R ps [] C)(h0:HRel K H0 C0)(f0:Fw H0 C0 H C)(f:∀v H' p C',R p C'->Rep K H' v p->HRel K H' C'->Fw H0 C0 H' C'->Q v H')(hD:H D=none):
  ∃W:Nat->Nat->List V->Hp->Prop,(∃m,W 0 m [] (upd H D (.lst [])))/\∀i m ys H,W i m ys H ->
   (J.stop i H/\Q (.ref D) H)\/(J.go i H/\∀x H',J.yld i H x H'->kJ K vF t (some x::σ) H' fun b H2=>
    if b=true then kJ K (Rep K) c (some x::σ) H2 fun y H3=>H3 D=some (.lst ys)/\ys.length < sizeLine/\∃m',m' < m/\W (i+1) m' (ys++[y]) (upd H3 D (.lst (ys++[y])))
    else ∃m',m' < m/\W (i+1) m' ys H2):=by
 refine⟨fun i m ys H'=>m=ps.length - i/\i<=ps.length/\∃acc C',H' D=some (.lst ys)/\C' D=none/\Reps K H' ys acc/\HRel K H' C'/\Fw H C H' C'/\dJ t c ρ R (ps.drop i) acc C',
  ⟨ps.length,rfl,Ae _,[],C,fQ,h.fresh hD,.nil,h.new hD _,Fw.new hD _,q⟩,?_⟩
 rintro i m ys H1 ⟨rfl,hi,acc,C1,e1,n1,r1,h1,f1,q1⟩;have k1:=f1.imm h
 by_cases hlt:i < ps.length
 .refine .inr ⟨j.go i H1 hlt k1,fun x H2 y=>?_⟩
  obtain⟨rfl,y⟩:=j.yl i H1 x H2 k1 y;have rx:=y _ (AO hlt);rw[Az hlt] at q1;refine⟨some ps[i]::ρ,C1,_,.cons rx (s.imm k1),h1,q1,fun b H3 b' C3 q3 e h3 f3=>?_⟩;cases e;obtain⟨n3,e3⟩:=f3 D (by rw[n1];rfl) (by lia);rw[e1] at e3;rw[n1] at n3;have k3:=f3.imm h1
  cases b with
  |true =>
   refine⟨some ps[i]::ρ,C3,_,.cons (rx.imm k3) ((s.imm k1).imm k3),h3,q3,fun v H4 p C4 q4 r4 h4 f4=>sM (f4 D (by rw[n3];rfl) (by lia)) fun n4 e4=>?_⟩;rw[e3] at e4;rw[n3] at n4;have m4:Imm H4 (upd H4 D (.lst (ys++[v]))):=Imm.mut e4 rfl _;refine⟨e4,by rw[r1.len];exact q4.1,ps.length - (i+1),by lia,rfl,hlt,acc++[p],C4,fQ,n4,?_,?_,?_,q4.2⟩
   .exact (((r1.imm k3).imm (f4.imm h3)).append (.cons r4 .nil)).imm m4
   .intro a o ca
    have ne:a≠D:=fun z=>by subst z;rw[n4] at ca;cases ca
    exact(h4 a o ca).imm m4 (mQ ne)
   .intro a ca na
    have ne:a≠D:=fun z=>na (z▸hD);exact sM ((f1.trans (f3.trans f4)) a ca na) fun x1 x2=>⟨x1,(mQ ne).trans x2⟩
  |false =>
   exact⟨ps.length - (i+1),by lia,rfl,hlt,acc,C3,e3,n3,r1.imm k3,h3,f1.trans f3,q3⟩
 .have e:i=ps.length:=by lia
  subst e;rw[By] at q1;refine .inl ⟨j.st H1 k1,f (.ref D) H1 (.ref D) _ (q1 D n1) (.ref D) ?_ ?_⟩
  .intro a o ca
   by_cases z:a=D
   .subst z;rw[xQ] at ca;cases ca;exact⟨ys,e1,r1⟩
   .rw [wQ z] at ca;exact h1 a o ca
  .intro a ca na
   obtain⟨x1,x2⟩:=f0 a ca na;have na':H a≠none:=by rwa [x2]
   obtain⟨y1,y2⟩:=f1 a (by rwa [x1]) na';exact⟨(wQ (show a≠D from fun z=>na' (z▸hD))).trans (y1.trans x1),y2.trans x2⟩
structure CI(X:Cx)(tg it:Expr)(wi:TI)(c:CSt->CH->(List PV->CH->Prop)->Prop):Prop where
 j:JI X tg it wi
 w:∀σ H ρ C R Q,SRel X.K H σ ρ->HRel X.K H C->c ρ C R->(∀J H' ps C',R ps C'->Xf X.K H' J ps->HRel X.K H' C'->Fw H C H' C'->Q J H')->wi σ H Q
def cItT(ce:TCE):CSt->CH->(List PV->CH->Prop)->Prop:=fun ρ C Q=>ce ρ C fun t C1=>match t with
 |.tup xs=>Q xs C1
 |.kt xs=>Q xs C1
 |_=>False
def zU(h:CE X e ce):CI X tg e (iTup X.K (kJ X.K (Rep X.K) ce)) (cItT ce):=⟨⟨VW h.h.h⟩,fun σ H ρ C R Q s h q f=>⟨ρ,C,_,s,h,q,fun x H1 px C1 q1 rx h1 f1=>by
  cases rx with
  |@tup a vs ts e r=>exact⟨a,rfl,⟨vs,SqT.of e⟩,f _ H1 ts C1 q1 (uE (SqT.of e) r) h1 f1⟩
  |@kt a vs ts e r=>exact⟨a,rfl,⟨vs,e⟩,f _ H1 ts C1 q1 (uE e r) h1 f1⟩
  |_=>exact q1.elim⟩⟩
def cItR(ca:TCA):CSt->CH->(List PV->CH->Prop)->Prop:=fun ρ C Q=>ca ρ C fun ts C1=>match ts with
 |[.int j]=>-(2 ^ 62)<=j/\j < 2 ^ 62/\Q ((List.range j.toNat).map fun k=>PV.int (k:Nat)) C1
 |_=>False
def eE(hgl:Gl X "range")(hm:X.mg "range" = none)(ha:CA X [a] ca)(hst:xX a=true:=by rfl):CI X tg (.Call (.Name "range" p) [a] [] pos2) (iRng1 (kJ X.K (Reps X.K) ca)) (cItR ca):=⟨⟨kS hgl hm ha.h.h (gJ hst)⟩,fun σ H ρ C R Q s h q f=>⟨ρ,C,_,s,h,q,fun xs H1 ts C1 q1 rs h1 f1=>by
  split at q1
  .next j =>
   cases rs with
   |cons r0 r =>
    cases r;cases r0;exact⟨j,rfl,q1.1,q1.2.1,f _ H1 _ C1 q1.2.2 WE h1 f1⟩
  .exact q1.elim⟩⟩
def YB(ci:CSt->CH->(List PV->CH->Prop)->Prop)(t:TCT)(c:TCE):TCE:=fun ρ C Q=>ci ρ C fun ps C1=>dJ t c ρ Q ps [] C1
def lS{c}(hi:CI X tg it wi ci){Q:VK}(h:kJ X.K (Rep X.K) (YB ci t c) σ H Q):yI wi (kJ X.K vF t) (kJ X.K (Rep X.K) c) σ H Q :=pX h fun ρ C R s h q f=>hi.w σ H ρ C _ _ s h q fun J H' ps C' q' j h' f' D hD=>comp_it j (s.imm (f'.imm h)) h' q' h f' f hD
def lY{elt iter:Expr}{x:Str}{px:Pos}{ifs:List Expr}{scope:Scope}{wi:TI}{ci:CSt->CH->(List PV->CH->Prop)->Prop}{t:TCT}{c:TCE}(hc:X.calm=true)(hN:(x::X.N).Nodup)(K:∃cl,vB X x scope cl)(hi:CI X (.Name x px) iter wi ci)(ht:∀cl fp C s₂ H₂,CF (cK X x scope cl fp C s₂ H₂) ifs t)(he:∀cl fp C s₂ H₂,CE (cK X x scope cl fp C s₂ H₂) elt c)(hs:∀v,foldedSetIterable iter X.env v=pure v:=by intro _;rfl):CE X (.ListComp elt [⟨.Name x px,iter,ifs,0⟩] scope pos) (YB ci t c) :=
 ⟨JE.weak (cN hc hN K hi.j (fun cl fp C s₂ H₂=>(ht cl fp C s₂ H₂).h) (fun cl fp C s₂ H₂=>(he cl fp C s₂ H₂).h) hs) fun _ _ _ h=>lS hi h⟩
end
def dH(N:List Str)(ts:List PV):CSt:=ts.map some++List.replicate (N.length - ts.length) none
theorem zS{K}: ∀n,SRel K H (List.replicate n none) (List.replicate n none)
 |0=>.nil
 |n+1=>.cons trivial (zS n)
theorem pI{K}(s:SRel K H σ ρ):∀{vs}{ts},Reps K H vs ts->SRel K H (vs.map some++σ) (ts.map some++ρ)
 |_,_,.nil=>s
 |_,_,.cons h r=>.cons h (pI s r)
def Xv{K}(r:Reps K H vs ts):SRel K H (L2.start N vs) (dH N ts):=by
 delta L2.start dH
 exact r.len▸pI (zS _) r
section
variable {P:Program}{w:World}{K:Dl}{mg:Str->Option Value}{base:Heap}
def Fun.okC{st}(F:Fun K x qual st f fd)(S:FnScope N ps (mX st))(len:∀ts C R,G ts C R->ts.length=ps.length)(hbody:∀cdv A outer s H E,Room k (A.deeper (envOfC qual (mX st) s.heap.objs.size f cdv)) ->
   ∃c,CB (QX CX0 P w K mg base N qual (mX st) f cdv A outer s H E).nox (xV st) c/\∀ts C R,G ts C R->c (.go R) (dH N ts) C):FnOk P w K mg base CX0 (k+1) f fd ps (spC K G):=by
 refine F.okJ S ?_ ?_
 .rintro vs H Q E ⟨ts,C,R,r,h,g,f⟩
  exact r.len▸len ts C R g
 .rintro cdv A outer s H vs Q E hr ⟨ts,C,R,r,h,g,f⟩
  exact eQ (hbody cdv A outer s H E hr) fun c hc q=>⟨_,hc.h,dH N ts,C,_,Xv r,h,q ts C R g,⟨fun σ' H' ρ' C' q' s' h' f'=>f .non H' .non C' q' .non h' f',f,fun _ _ _ _ q' _ _ _=>q'.elim,fun _ _ _ _ q' _ _ _=>q'.elim⟩⟩
end
section
variable {X:Cx}{a b c e o i:Expr}{es:List Expr}{pos:Pos}
@[irreducible] def cI(g:Int->Int->PV):R2C:=fun x y C Q=>match x,y with
 |.int i,.int j=>Q (g i j) C
 |_,_=>False
def cIc(P:Int->Int->Prop)(g:Int->Int->PV):R2C:=fun x y C Q=>match x,y with
 |.int i,.int j=>P i j/\Q (g i j) C
 |_,_=>False
def Jt{K}(hg:∀i j H,Rep K H (g i j) (g' i j)):Cop K (rI0 g) (cI g'):=fun x y px py H C Q R rx ry h q f=>by
 delta cI at q
 split at q
 .cases rx;cases ry
  exact⟨_,_,rfl,rfl,f _ H _ C q (hg _ _ _) h Fw.refl⟩
 .exact q.elim
def sE{K}(hg:∀i j H,Rep K H (g i j) (g' i j)):Cop K (rI P g) (cIc P g'):=fun x y px py H C Q R rx ry h q f=>by
 delta cIc at q
 split at q
 .cases rx;cases ry
  exact⟨_,_,rfl,rfl,q.1,f _ H _ C q.2 (hg _ _ _) h Fw.refl⟩
 .exact q.elim
def wJ{K}:Cop K (rI0 fun i j=>.int (i - j)) (cI fun i j=>.int (i - j)):=Jt fun _ _ _=>.int _
def eG{K}:Cop K (rI CMul fun i j=>.int (i * j)) (cIc CMul fun i j=>.int (i * j)):=sE fun _ _ _=>.int _
def Q0{K}:Cop K (rI (fun _ j=>0 < j/\j < 18446744073709551616) fun i j=>.int (i / j)) (cIc (fun _ j=>0 < j/\j < 18446744073709551616) fun i j=>.int (i / j)):=sE fun _ _ _=>.int _
def fY{K}:Cop K (rI (fun _ j=>0 < j) fun i j=>.int (i % j)) (cIc (fun _ j=>0 < j) fun i j=>.int (i % j)):=sE fun _ _ _=>.int _
def tF{K}:Cop K (rI CPow fun i j=>.int (i ^ j.toNat)) (cIc CPow fun i j=>.int (i ^ j.toNat)):=sE fun _ _ _=>.int _
def aG{K}:Cop K (rI0 fun i j=>.bl (decide (i < j))) (cI fun i j=>.bl (decide (i < j))):=Jt fun _ _ _=>.bl _
def rE{K}:Cop K (rI0 fun i j=>.bl (decide (i<=j))) (cI fun i j=>.bl (decide (i<=j))):=Jt fun _ _ _=>.bl _
def rZ{K}:Cop K (rI0 fun i j=>.bl (decide (j < i))) (cI fun i j=>.bl (decide (j < i))):=Jt fun _ _ _=>.bl _
def cNeg:PV->CH->K1->Prop:=fun x C Q=>match x with
 |.int i=>Q (.int (-i)) C
 |_=>False
def nG{K}:Cun K (rU fun i=>.int (-i)) cNeg:=fun x px H C Q R rx h q f=>by
 delta cNeg at q
 split at q
 .cases rx;exact⟨_,rfl,f _ H _ C q (.int _) h Fw.refl⟩
 .exact q.elim
def cP(s:Same H H'):Fw H C H' C:=fun a c n=>⟨rfl,by
 cases e:H a with
 |none=>exact absurd e n
 |some o=>exact s a o e⟩
def lB{K}(h:HRel K H C)(s:Same H H'):HRel K H' C:=fun a o c=>eQ ((h a o c).mut) fun u e _=>(h a o c).imm (fun b v _ e=>s b v e) ((s a u e).trans e.symm)
@[irreducible] def dR:R2C:=fun x y C Q=>match x,y with
 |.int i,.int j=>Q (.int (i+j)) C
 |.str i,.str j=>i.length+j.length<=sizeLine/\Q (.str (i++j)) C
 |.tup xs,.tup ys=>xs.length+ys.length<=sizeLine/\Q (.tup (xs++ys)) C
 |.ref a,.ref b=>match C a,C b with
  |some (.lst xs),some (.lst ys)=>xs.length+ys.length<=sizeLine/\∀p,C p=none->Q (.ref p) (uQ C p (.lst (xs++ys)))
  |_,_=>False
 |_,_=>False
abbrev rAddC:R2:=fun x y H Q=>rI0 (fun i j=>.int (i+j)) x y H Q\/((∃i j,x=.str i/\y=.str j/\i.length+j.length<=sizeLine/\Q (.str (i++j)) H)\/(rCatU x y H Q\/rCat x y H Q))
def nX:OpR X (binaryOp .Add) rAddC:=OpR.or op_add (OpR.or XM (OpR.or op_catU op_cat))
def sX{K}:Cop K rAddC dR:=fun x y px py H C Q R rx ry h q f=>by
 delta dR at q
 split at q
 .cases rx;cases ry
  exact .inl ⟨_,_,rfl,rfl,f _ H _ C q (.int _) h Fw.refl⟩
 .cases rx;cases ry
  exact .inr (.inl ⟨_,_,rfl,rfl,q.1,f _ H _ C q.2 (.str _) h Fw.refl⟩)
 .cases rx with
  |tup e r=>cases ry with
   |tup e' r' =>
    refine .inr (.inr (.inl ⟨_,_,_,_,rfl,rfl,e,e',by rw[r.len,r'.len];exact q.1,fun z H' s hz _=>?_⟩));exact f _ H' _ C q.2 (.tup hz ((r.append r').imm fun b v _ e=>s b v e)) (lB h s) (cP s)
 .split at q
  .next xs ys e1 e2 =>
   refine eQ (h _ _ e1) fun vs ev rv=>eQ (h _ _ e2) fun us eu ru=>?_;cases rx;cases ry
   refine .inr (.inr (.inr ⟨_,_,_,_,rfl,rfl,ev,eu,by rw[rv.len,ru.len];exact q.1,fun p hp=>?_⟩));exact f _ _ _ _ (q.2 p (h.fresh hp)) (.ref p) (h.lay hp ⟨_,fQ,(rv.append ru).imm (Imm.new hp _)⟩) (Fw.lay hp _ _)
  .exact q.elim
 .exact q.elim
def sEq:PV->PV->Option Bool
 |.non,.non=>some true | .non,.int _=>some false | .int _,.non=>some false | .non,.bl _=>some false | .bl _,.non=>some false | .non,.str _=>some false | .str _,.non=>some false
 |.int i,.int j=>some (decide (i=j)) | .bl b,.bl c=>some (decide (b=c)) | .str x,.str y=>some (decide (x=y))
 |.int _,.str _=>some false | .str _,.int _=>some false | .bl _,.str _=>some false | .str _,.bl _=>some false
 |_,_=>none
@[irreducible] def cEq(k:Bool->Bool):R2C:=fun x y C Q=>match sEq x y with
 |some b=>Q (.bl (k b)) C
 |none=>False
def toV:PV->Option V
 |.non=>some .non | .bl b=>some (.bl b) | .int i=>some (.int i) | .str x=>some (.str x) | _=>none
def ZM{K}(r:Rep K H x px)(e:toV px=some v):x=v:=by
 cases r<;>cases e<;>rfl
def sEq_toV{b}(e:sEq px py=some b):∃v u,toV px=some v/\toV py=some u/\scal v u=true/\decide (v=u)=b:=by
 cases px<;>cases py<;>cases e<;>exact⟨_,_,rfl,rfl,rfl,by simp⟩
def ZQ{K}{b}(rx:Rep K H x px)(ry:Rep K H y py)(e:sEq px py=some b):scal x y=true/\decide (x=y)=b:=by
 refine QN (sEq_toV e) fun v u h1 h2 h3 h4=>?_;cases ZM rx h1;cases ZM ry h2;exact⟨h3,h4⟩
def oQ{K}:Cop K rEq (cEq id):=fun x y px py H C Q R rx ry h q f=>by
 delta cEq at q
 split at q
 .next b e =>
  obtain⟨h1,h2⟩:=ZQ rx ry e;exact⟨h1,h2▸f _ H _ C q (.bl _) h Fw.refl⟩
 .exact q.elim
def tG{K}:Cop K rNe (cEq not):=fun x y px py H C Q R rx ry h q f=>by
 delta cEq at q
 split at q
 .next b e =>
  obtain⟨h1,h2⟩:=ZQ rx ry e;exact⟨h1,h2▸f _ H _ C q (.bl _) h Fw.refl⟩
 .exact q.elim
def bU:PV->Bool
 |.non=>true
 |_=>false
def cIs(k:Bool->Bool):R2C:=fun x y C Q=>match y with
 |.non=>Q (.bl (k (bU x))) C
 |_=>False
def Qz{K}(r:Rep K H x px):decide (x=.non)=bU px:=by
 cases r<;>simp[bU]
def nE{K}:Cop K (fun x y H Q=>y=.non/\Q (.bl (decide (x=.non))) H) (cIs id):=fun x y px py H C Q R rx ry h q f=>by
 cases ry with
 |non=>exact⟨rfl,by exact(Qz rx)▸f _ H _ C q (.bl _) h Fw.refl⟩
 |_=>exact q.elim
def zC{K}:Cop K (fun x y H Q=>y=.non/\Q (.bl (!decide (x=.non))) H) (cIs not):=fun x y px py H C Q R rx ry h q f=>by
 cases ry with
 |non=>exact⟨rfl,by exact(Qz rx)▸f _ H _ C q (.bl _) h Fw.refl⟩
 |_=>exact q.elim
def cAt(xs:List PV)(i:Int)(C:CH)(Q:K1):Prop:=match atI xs i with
 |some v=>Q v C
 |none=>False
@[irreducible] def cIx:R2C:=fun x y C Q=>match x,y with
 |.tup xs,.int i=>cAt xs i C Q
 |.kt xs,.int i=>cAt xs i C Q
 |.fz xs,.int i=>cAt xs i C Q
 |.ref a,.int i=>match C a with
  |some (.lst xs)=>cAt xs i C Q
  |_=>False
 |.str z,.int i=>z.length<=sizeLine/\match atI z.cps.toList i with
  |some c=>Q (.str ⟨#[c]⟩) C
  |none=>False
 |_,_=>False
theorem Reps.at{K}{i}(r:Reps K H vs ts)(e:atI ts i=some t):∃v,atI vs i=some v/\Rep K H v t:=by
 delta atI at e ⊢
 rw[r.len]
 cases z:ixN ts.length i with
 |none=>rw[z] at e;cases e
 |some j =>
  rw[z] at e;exact r.get e
def lA{K}{i}(r:Reps K H vs ts)(q:cAt ts i C R):∃v t,atI vs i=some v/\Rep K H v t/\R t C:=by
 delta cAt at q
 split at q
 .next t e =>
  exact eQ (r.at e) fun v e' r'=>⟨v,t,e',r',q⟩
 .exact q.elim
def cop_ix{K}:Cop K (rIx K) cIx:=fun x y px py H C Q R rx ry h q f=>by
 delta cIx at q
 split at q
 .cases ry
  cases rx with
  |tup e r =>
   obtain⟨v,t,e',r',q⟩:=lA r q;exact .inr (.inl ⟨_,_,_,v,rfl,rfl,SqT.of e,e',f _ H _ C q r' h Fw.refl⟩)
 .cases ry
  cases rx with
  |kt e r =>
   obtain⟨v,t,e',r',q⟩:=lA r q;exact .inr (.inl ⟨_,_,_,v,rfl,rfl,e,e',f _ H _ C q r' h Fw.refl⟩)
 .cases ry
  cases rx with
  |fz e r =>
   obtain⟨v,t,e',r',q⟩:=lA r q;exact .inl ⟨_,_,_,v,rfl,rfl,e.sq,e',f _ H _ C q r' h Fw.refl⟩
 .cases ry
  split at q
  .next xs e =>
   obtain⟨vs,ev,rv⟩:=(h _ _ e);cases rx;exact kZ (lA rv q) fun v t e' r' q=>.inl ⟨_,_,_,v,rfl,rfl,SqL.of ev,e',f _ H _ C q r' h Fw.refl⟩
  .exact q.elim
 .cases ry;cases rx
  obtain⟨q1,q2⟩:=q
  split at q2
  .next c e=>exact .inr (.inr ⟨_,_,c,rfl,rfl,q1,e,f _ H _ C q2 (.str _) h Fw.refl⟩)
  .exact q2.elim
 .exact q.elim
def ix_seqC:IxR X (rIx X.K):=ix_seq
@[irreducible] def pC:GC:=fun ts C Q=>match ts with
 |[.tup xs]=>Q (.int xs.length) C
 |[.kt xs]=>Q (.int xs.length) C
 |[.fz xs]=>Q (.int xs.length) C
 |[.ref a]=>match C a with
  |some (.lst xs)=>Q (.int xs.length) C
  |some (.dK kvs)=>Q (.int kvs.length) C
  |_=>False
 |[.str z]=>z.length<=sizeLine/\Q (.int z.length) C
 |_=>False
abbrev rLenC(K:Dl):List V->Hp->VK->Prop:=fun xs H Q=>(∃p ys,xs=[.ref p]/\(SqL K H p ys\/SqT K H p ys)/\Q (.int ys.length) H)\/((∃a kvs,xs=[V.ref a]/\H a=some (.dK kvs)/\Q (.int kvs.length) H)\/∃z,xs=[.str z]/\z.length<=sizeLine/\Q (.int z.length) H)
def KN:CallR X (.builtin "len") (rLenC X.K):=CallR.or wA (CallR.or KM vA)
def iX{K}(r:Reps K H xs [t]):∃v,xs=[v]/\Rep K H v t:=by
 cases r with
 |cons h r=>cases r;exact⟨_,rfl,h⟩
def yB{K}(r:Reps K H xs [t,u]):∃v w,xs=[v,w]/\Rep K H v t/\Rep K H w u:=by
 cases r with
 |cons h r=>obtain⟨w,rfl,h'⟩:=iX r;exact⟨_,w,rfl,h,h'⟩
def cbi_len{K}:Cbi K (rLenC K) pC:=fun xs ps H C Q R rs h q f=>by
 delta pC at q
 split at q
 .obtain ⟨v,rfl,r⟩:=iX rs
  cases r with
  |tup e r=>exact .inl ⟨_,_,rfl,.inr (SqT.of e),f _ H _ C (by rwa [r.len]) (.int _) h Fw.refl⟩
 .obtain ⟨v,rfl,r⟩:=iX rs
  cases r with
  |kt e r=>exact .inl ⟨_,_,rfl,.inr e,f _ H _ C (by rwa [r.len]) (.int _) h Fw.refl⟩
 .obtain ⟨v,rfl,r⟩:=iX rs
  cases r with
  |fz e r=>exact .inl ⟨_,_,rfl,.inl e.sq,f _ H _ C (by rwa [r.len]) (.int _) h Fw.refl⟩
 .obtain ⟨v,rfl,r⟩:=iX rs
  split at q
  .next xs e =>
   obtain⟨vs,ev,rv⟩:=h _ _ e;cases r;exact .inl ⟨_,_,rfl,.inl (SqL.of ev),f _ H _ C (by rwa [rv.len]) (.int _) h Fw.refl⟩
  .next kvs e =>
   obtain⟨vs,ev,rv⟩:=h _ _ e;cases r;exact .inr (.inl ⟨_,_,rfl,ev,f _ H _ C (by rwa [Paired.length rv]) (.int _) h Fw.refl⟩)
  .exact q.elim
 .obtain ⟨v,rfl,r⟩:=iX rs
  cases r;exact .inr (.inr ⟨_,rfl,q.1,f _ H _ C q.2 (.int _) h Fw.refl⟩)
 .exact q.elim
def tyP(C:CH):PV->Option Ty
 |.non=>some .non
 |.bl _=>some .bl
 |.int _=>some .int
 |.str _=>some .str
 |.tup _=>some .tup
 |.ref a=>match C a with
  |some (.lst _)=>some .lst
  |some (.dK _)=>some .dct
  |_=>none
 |_=>none
def ZJ{K}(r:Rep K H x t)(h:HRel K H C)(e:tyP C t=some n):tyN H x=some n:=by
 cases r with
 |tup e' _=>cases e;show(H _).bind tyH=_;rw[e'];rfl
 |ref a =>
  delta tyP at e
  dsimp only at e
  split at e
  .next xs c=>cases e;obtain⟨vs,ev,_⟩:=h _ _ c;show(H _).bind tyH=_;rw[ev];rfl
  .next xs c=>cases e;obtain⟨vs,ev,_⟩:=h _ _ c;show(H _).bind tyH=_;rw[ev];rfl
  .cases e
 |kt _ _=>cases e
 |fz _ _=>cases e
 |ty _=>cases e
 |vw _=>cases e
 |_=>cases e;rfl
def xF(n:String):Option Ty:=[Ty.non,.bl,.int,.str,.lst,.tup,.dct].find? fun t=>fU t==n
def vI(h:xF n=some t):n=fU t:=by
 have:=Da h;exact(eq_of_beq this).symm
@[irreducible] def cIsi:GC:=fun ts C Q=>match ts with
 |[x,.ty n]=>match xF n,tyP C x with
  |some T,some k=>Q (.bl (sZ k T)) C
  |_,_=>False
 |_=>False
def nZ{K}:Cbi K (fun xs H Q=>∃x T n,xs=[x,.ty (fU T)]/\tyN H x=some n/\Q (.bl (sZ n T)) H) cIsi:=fun xs ps H C Q R rs h q f=>by
 delta cIsi at q
 split at q
 .split at q
  .next T k e1 e2 =>
   obtain⟨v,w,rfl,r1,r2⟩:=yB rs;cases r2;exact(vI e1)▸⟨v,T,k,rfl,ZJ r1 h e2,f _ H _ C q (.bl _) h Fw.refl⟩
  .exact q.elim
 .exact q.elim
def cAbs:GC:=fun ts C Q=>match ts with
 |[.int i]=>Q (.int (if i < 0 then -i else i)) C
 |_=>False
def cbi_abs{K}:Cbi K (fun xs H Q=>∃i,xs=[.int i]/\Q (.int (if i < 0 then -i else i)) H) cAbs:=fun xs ps H C Q R rs h q f=>by
 delta cAbs at q
 split at q
 .obtain ⟨v,rfl,r⟩:=iX rs
  cases r;exact⟨_,rfl,f _ H _ C q (.int _) h Fw.refl⟩
 .exact q.elim
@[irreducible] def tM:GC:=fun ts C Q=>match ts with
 |[.tup xs]=>Q (.tup xs) C
 |[.ref a]=>match C a with
  |some (.lst xs)=>Q (.tup xs) C
  |_=>False
 |_=>False
def cbi_tup{K}:Cbi K (fun xs H Q=>∃p ys,xs=[.ref p]/\((SqL K H p ys/\∀l,H l=none->Q (.ref l) (upd H l (.tup ys)))\/(SqT K H p ys/\Q (.ref p) H))) tM:=fun xs ps H C Q R rs h q f=>by
 delta tM at q
 split at q
 .obtain ⟨v,rfl,r⟩:=iX rs
  cases r with
  |tup e r=>exact⟨_,_,rfl,.inr ⟨SqT.of e,f _ H _ C q (.tup e r) h Fw.refl⟩⟩
 .obtain ⟨v,rfl,r⟩:=iX rs
  split at q
  .next xs e =>
   obtain⟨vs,ev,rv⟩:=(h _ _ e);cases r;exact⟨_,_,rfl,.inl ⟨SqL.of ev,fun l hl=>f _ _ _ C q (.tup fQ (rv.imm (Imm.new hl _))) (h.new hl _) (Fw.new hl _)⟩⟩
  .exact q.elim
 .exact q.elim
def oC:List PV->Option (List Bool)
 |[]=>some []
 |.bl b::r=>(oC r).map (b :: ·)
 |_=>none
@[irreducible] def cAll:GC:=fun ts C Q=>match ts with
 |[.ref a]=>match C a with
  |some (.lst xs)=>match oC xs with
   |some bs=>Q (.bl (bs.all id)) C
   |none=>False
  |_=>False
 |_=>False
def KW{K}(r:Reps K H vs ts)(e:oC ts=some bs):vs=bs.map V.bl:=by
 induction ts generalizing vs bs with
 |nil=>cases r;cases e;rfl
 |cons t ts ih =>
  cases r with
  |@cons v _ vs _ h r =>
   cases t with
   |bl b =>
    unfold oC at e
    cases z:oC ts with
    |none=>rw[z] at e;cases e
    |some cs =>
     rw[z] at e;injection e with e
     subst e;cases h;rw[ih r z];rfl
   |_=>cases e
def Jx{K}:Cbi K (fun xs H Q=>∃p ys,xs=[.ref p]/\SqL K H p (List.map V.bl ys)/\Q (.bl (ys.all id)) H) cAll:=fun xs ps H C Q R rs h q f=>by
 delta cAll at q
 split at q
 .obtain ⟨v,rfl,r⟩:=iX rs
  split at q
  .next xs e =>
   split at q
   .next bs eb =>
    obtain⟨vs,ev,rv⟩:=(h _ _ e);cases r;have:=KW rv eb;subst this;exact⟨_,bs,rfl,SqL.of ev,f _ H _ C q (.bl _) h Fw.refl⟩
   .exact q.elim
  .exact q.elim
 .exact q.elim
def isL(x:PV)(C:CH):Prop:=match x with
 |.ref a=>match C a with
  |some (.lst _)=>True
  |_=>False
 |_=>False
def cBM(cr:PV->List PV->CH->K1->Prop)(co:TCE)(ca:TCA):TCE:=fun ρ C Q=>co ρ C fun x C1=>isL x C1/\ca ρ C1 fun xs C2=>cr x xs C2 Q
def Cmt(K:Dl)(r:V->List V->Hp->VK->Prop)(cr:PV->List PV->CH->K1->Prop):Prop:=∀x px xs ps H C Q R,Rep K H x px->Reps K H xs ps->HRel K H C->cr px ps C R->(∀v H' t C',R t C'->Rep K H' v t->HRel K H' C'->Fw H C H' C'->Q v H')->r x xs H Q
def WH{K}(l:isL t C)(r:Rep K H x t)(h:HRel K H C):tyV K "list" x H:=by
 delta isL at l
 split at l
 .split at l
  .next e=>obtain⟨vs,ev,_⟩:=(h _ _ e);cases r;exact .inl ⟨rfl,vs,SqL.of ev⟩
  .exact l.elim
 .exact l.elim
def Jw{id}{apos cpos}(pa:PlainAttrs "list")(slot:Slot "list" name id)(hty:typeOf (.builtin id)=pure (.type "method_descriptor"))(hm:MtR X id r)(hr:Cmt X.K r cr)(ho:CE X o co)(ha:CA X (e::es) ca)(hbase:attributeBase o name X.env (eval o X.env)=eval o X.env:=by rfl)(hfew:((backTo cpos (starEach (e::es) X.env)).all (fun x=>!x.1)&&(backToKw cpos (keywordEach [] X.env)).all (fun x=>x.1.isSome)
   && decide ((e::es).length+([]:List Keyword).length+(if ([]:List Keyword).isEmpty then 0 else 1) < 30))=true:=by rfl)(hline:(apos.endLine==cpos.line)=true:=by rfl)(hs:xX e=true:=by rfl)(hall:es.all xX=true:=by rfl):
  CE X (.Call (.Attribute o name apos) (e::es) [] cpos) (cBM cr co ca):=⟨JE.weak ⟨pe_bm pa slot hty hm ho.h.h ha.h.h hbase hfew hline (gJ hs) (pU hall)⟩ fun σ H Q zz=>pX zz fun ρ C R s h q f=>
 ⟨ρ,C,_,s,h,q,fun x H1 px C1 q1 rx h1 f1=>⟨WH q1.1 rx h1,ρ,C1,_,s.imm (f1.imm h),h1,q1.2,fun xs H2 ps C2 q2 rs h2 f2=>
  hr x px xs ps H2 C2 Q R (rx.imm (f2.imm h1)) rs h2 q2 fun v H' t C' q' r' h' f'=>f v H' t C' q' r' h' (f1.trans (f2.trans f'))⟩⟩⟩
@[irreducible] def xU:PV->List PV->CH->K1->Prop:=fun x ts C Q=>match x,ts with
 |.ref a,[y]=>match C a with
  |some (.lst xs)=>xs.length < sizeLine/\Q .non (uQ C a (.lst (xs++[y])))
  |_=>False
 |_,_=>False
def Zq{K}:Cmt K ZX xU:=fun x px xs ps H C Q R rx rs h q f=>by
 delta xU at q
 split at q
 .split at q
  .next ys e =>
   obtain⟨vs,ev,rv⟩:=(h _ _ e);obtain⟨v,rfl,r⟩:=iX rs;cases rx;exact⟨_,vs,v,rfl,rfl,ev,by exact rv.len▸q.1,f _ _ _ _ q.2 .non (h.put ev rfl ⟨_,fQ,(rv.append (.cons r .nil)).imm (Imm.mut ev rfl _)⟩) (Fw.put e _ _)⟩
  .exact q.elim
 .exact q.elim
end
def zW:PV->Option Key
 |.non=>some (.inl none)
 |.int i=>some (.inl (some i))
 |.str x=>some (.inr x)
 |_=>none
def oJ:Key->PV
 |.inl none=>.non
 |.inl (some i)=>.int i
 |.inr x=>.str x
def qW k:zW (oJ k)=some k:=by rcases k with (_ | i) | x<;>rfl
def J1{K}k:Rep K H (kV k) (oJ k):=by
 rcases k with (_ | i) | x
 .exact .non
 .exact .int i
 .exact .str x
def vG{K}(r:Rep K H v t)(e:zW t=some k):v=kV k:=by
 cases r<;>cases e<;>rfl
def iJ(kvs:List (Key×PV))(k:Key):Option PV:=(kvs.find? fun kv=>decide (kv.1=k)).map (·.2)
def vZ(kvs:List (Key×PV))(k:Key)(v:PV):List (Key×PV):=if (kvs.any fun kv=>decide (kv.1=k))=true then kvs.map fun kv=>if kv.1=k then (kv.1,v) else kv else kvs++[(k,v)]
def sU(kvs more:List (Key×PV)):List (Key×PV):=more.foldl (fun acc kv=>vZ acc kv.1 kv.2) kvs
section
variable {K:Dl}{H:Hp}{vs:List (Key×V)}{kvs:List (Key×PV)}
def KP.val(r:KP K H vs kvs)k:(∃v t,nY vs k=some v/\iJ kvs k=some t/\Rep K H v t)\/(nY vs k=none/\iJ kvs k=none):=by
 induction r with
 |nil=>exact .inr ⟨rfl,rfl⟩
 |@cons p q l1 l2 h r ih =>
  delta nY iJ
  rw[BO,BO,h.1]
  by_cases e:q.1=k
  .grind
  .rwa [AQ e]
def KP.any(r:KP K H vs kvs)k:(vs.any fun kv=>decide (kv.1=k))=(kvs.any fun kv=>decide (kv.1=k)):=by
 induction r with
 |nil=>rfl
 |@cons p q l1 l2 h r ih=>rw[BJ,BJ,h.1,ih]
theorem KP.put(r:KP K H vs kvs)k(h:Rep K H v t):KP K H (tV vs k v) (vZ kvs k t):=by
 delta tV vZ
 rw[r.any k]
 have upd:KP K H (vs.map fun kv=>if kv.1=k then (kv.1,v) else kv) (kvs.map fun kv=>if kv.1=k then (kv.1,t) else kv):=by
  induction r with
  |nil=>exact .nil
  |@cons p q l1 l2 h' r ih =>
   refine .cons ?_ ih
   by_cases e:q.1=k
   .lia
   .lia
 split
 .exact upd
 .exact Paired.snoc r ⟨rfl,h⟩
def KP.merge(r:KP K H vs kvs)(m:KP K H ws more):KP K H (lM vs ws) (sU kvs more):=by
 induction m generalizing vs kvs with
 |nil=>exact r
 |@cons p q l1 l2 h _ ih =>
  show KP K H (lM (tV vs p.1 p.2) l1) (sU (vZ kvs q.1 q.2) l2);rw[h.1];exact ih (r.put q.1 h.2)
end
def dOf:Option CO->Option (List (Key×PV))
 |some (.dK kvs)=>some kvs
 |some (.fK kvs)=>some kvs
 |_=>none
def dOf_rd{K}(h:HRel K H C)(e:dOf (C a)=some kvs):∃vs,Rd H a (.dK vs)/\KP K H vs kvs:=by
 cases c:C a with
 |none=>rw[c] at e;cases e
 |some o =>
  rw[c] at e
  cases o with
  |lst xs=>cases e
  |dT l=>cases e
  |fT l=>cases e
  |dP l=>cases e
  |ins c dx fs=>cases e
  |dK l=>cases e;obtain⟨vs,q,r⟩:=h a _ c;exact⟨vs,.inl q,r⟩
  |fK l=>cases e;exact wY (h a _ c) fun o vs q r=>⟨vs,.inr ⟨o,q⟩,r⟩
section
variable {X:Cx}{a b c e o i f:Expr}{es:List Expr}{pos:Pos}{value:Expr}
@[irreducible] def cDIx:R2C:=fun x y C Q=>match x with
 |.ref a=>match dOf (C a),zW y with
  |some kvs,some k=>match iJ kvs k with
   |some v=>Q v C
   |none=>False
  |_,_=>False
 |_=>False
def Jn{K}{a}(h:HRel K H C)(e1:dOf (C a)=some kvs)(ry:Rep K H y py)(e2:zW py=some k):
  (∃v t,DGet H a y (some v)/\iJ kvs k=some t/\Rep K H v t)\/(DGet H a y none/\iJ kvs k=none):=by
 obtain⟨vs,q,r⟩:=(dOf_rd h e1);have ey:=vG ry e2;subst ey
 rcases r.val k with ⟨v,t,h1,h2,h3⟩ | ⟨h1,h2⟩
 .exact .inl ⟨v,t,.inl ⟨vs,k,q,rfl,h1.symm⟩,h2,h3⟩
 .exact .inr ⟨.inl ⟨vs,k,q,rfl,h1.symm⟩,h2⟩
def gZ(hu:X.A.units+1 < cLine)(ho:CE X o co)(hi:CE X i ci)(hs:YI i):CE X (.Subscript o i pos) (cOp cDIx co ci):=⟨JE.weak ⟨fO hu ho.h.h hi.h.h hs⟩ fun σ H Q zz=>pX zz fun ρ C R s h q f=>
 ⟨ρ,C,_,s,h,q,fun x H1 px C1 q1 rx h1 f1=>⟨ρ,C1,_,s.imm (f1.imm h),h1,q1,fun y H2 py C2 q2 ry h2 f2=>by
  delta cDIx at q2
  split at q2
  .next a =>
   split at q2
   .next kvs k e1 e2 =>
    split at q2
    .next t e3 =>
     have rx2:=rx.imm (f2.imm h1);cases rx2
     rcases Jn h2 e1 ry e2 with ⟨v,t',g,e4,r⟩ | ⟨_,e4⟩
     .rw [e3] at e4
      cases e4;exact⟨a,v,rfl,g,f v H2 t C2 q2 r h2 (f1.trans f2)⟩
     .rw [e3] at e4;cases e4
    .exact q2.elim
   .exact q2.elim
  .exact q2.elim⟩⟩⟩
def WK(x:PV)(C:CH):Prop:=match x with
 |.ref a=>match C a with
  |some (.dK _)=>True
  |_=>False
 |_=>False
@[irreducible] def JH:PV->PV->PV->CH->K1->Prop:=fun x y z C Q=>match x with
 |.ref a=>match dOf (C a),zW y with
  |some kvs,some k=>Q ((iJ kvs k).getD z) C
  |_,_=>False
 |_=>False
def YA(co ck cz:TCE):TCE:=fun ρ C Q=>co ρ C fun x C1=>WK x C1/\ck ρ C1 fun y C2=>cz ρ C2 fun z C3=>JH x y z C3 Q
def isDk_of{K}(d:WK t C)(r:Rep K H x t)(h:HRel K H C):∃a kvs,x=.ref a/\t=.ref a/\H a=some (.dK kvs):=by
 delta WK at d
 split at d
 .split at d
  .next e=>obtain⟨vs,ev,_⟩:=(h _ _ e);cases r;exact⟨_,vs,rfl,rfl,ev⟩
  .exact d.elim
 .exact d.elim
def Ys{apos cpos}(hu:X.A.units+1 < cLine)(ho:CE X o co)(he:CE X e ck)(hf:CE X f cz)(hb:attributeBase o "get" X.env (eval o X.env)=eval o X.env:=by rfl)(hl:(apos.endLine==cpos.line)=true:=by rfl)(h1:xX e=true:=by rfl)(h2:xX f=true:=by rfl):CE X (.Call (.Attribute o "get" apos) [e,f] [] cpos) (YA co ck cz):=⟨JE.weak ⟨Qc hu ho.h.h he.h.h hf.h.h (m2_of hb hl h1 h2)⟩ fun σ H Q zz=>pX zz fun ρ C R s h q f=>
 ⟨ρ,C,_,s,h,q,fun x H1 px C1 q1 rx h1 f1=>by
  obtain⟨a,kvs,rfl,rfl,e1⟩:=isDk_of q1.1 rx h1;refine⟨a,rfl,.inl ⟨kvs,.inl e1⟩,ρ,C1,_,s.imm (f1.imm h),h1,q1.2,fun y H2 py C2 q2 ry h2 f2=>⟨ρ,C2,_,(s.imm (f1.imm h)).imm (f2.imm h1),h2,q2,fun z H3 pz C3 q3 rz h3 f3=>?_⟩⟩;unfold JH at q3;dsimp only at q3
  split at q3
  .next kvs' k d1 d2 =>
   rcases Jn h3 d1 (ry.imm (f3.imm h2)) d2 with ⟨v,t',g,e4,r⟩ | ⟨g,e4⟩
   .rw [e4] at q3
    exact⟨some v,g,f v H3 t' C3 q3 r h3 (f1.trans (f2.trans f3))⟩
   .rw [e4] at q3
    exact⟨none,g,f z H3 pz C3 q3 rz h3 (f1.trans (f2.trans f3))⟩
  .exact q3.elim⟩⟩
@[irreducible] def Xb:PV->PV->PV->CH->(CH->Prop)->Prop:=fun x y v C Q=>match x with
 |.ref a=>match C a,zW y with
  |some (.dK kvs),some k=>kvs.length < sizeLine/\Q (uQ C a (.dK (vZ kvs k v)))
  |_,_=>False
 |_=>False
def cDPut(co ck cv:TCE):TCS:=fun E ρ C=>cv ρ C fun v C1=>co ρ C1 fun x C2=>ck ρ C2 fun y C3=>Xb x y v C3 fun C4=>E.nx ρ C4
def mK{ck cv}(hu:X.A.units+1 < cLine)(ho:CE X o co)(hi:CE X i ck)(hv:CE X value cv)(hs:swapsWith value (some (.Subscript o i pos')) pos.line X.env=pure false:=by rfl):
  CS X (.Assign [.Subscript o i pos'] value pos) (cDPut co ck cv):=⟨JS.weak ⟨ZZ hu ho.h.h hi.h.h hv.h.h hs⟩ fun D σ H zz=>pX zz fun ρ C E s h q f=>
 ⟨ρ,C,_,s,h,q,fun v H1 pv C1 q1 rv h1 f1=>⟨ρ,C1,_,s.imm (f1.imm h),h1,q1,fun x H2 px C2 q2 rx h2 f2=>⟨ρ,C2,_,(s.imm (f1.imm h)).imm (f2.imm h1),h2,q2,fun y H3 py C3 q3 ry h3 f3=>by
  have rv3:=rv.imm ((f2.trans f3).imm h1)
  delta Xb at q3
  split at q3
  .next a =>
   split at q3
   .next kvs k e1 e2 =>
    have rx3:=rx.imm (f3.imm h2);cases rx3;refine eQ (h3 a _ e1) fun vs ev r=>?_;have ey:=vG ry e2;subst ey;have m:Imm H3 (upd H3 a (.dK (tV vs k v))):=Imm.mut ev rfl _;refine⟨a,_,rfl,DPut.k ev ((Paired.length r)▸q3.1),f.nx σ _ ρ _ q3.2 ((((s.imm (f1.imm h)).imm (f2.imm h1)).imm (f3.imm h2)).imm m) (h3.put ev rfl ⟨_,fQ,Paired.mapP (r.put k rv3) fun _ _ z=>⟨z.1,z.2.imm m⟩⟩) (f1.trans (f2.trans (f3.trans (Fw.put e1 _ _))))⟩
   .exact q3.elim
  .exact q3.elim⟩⟩⟩⟩
def dO:List PV->Option (List (Key×PV))
 |[]=>some []
 |.tup [k,v]::r=>match zW k,dO r with
  |some k,some ps=>some ((k,v)::ps)
  |_,_=>none
 |_=>none
@[irreducible] def cDictOf:GC:=fun ts C Q=>match ts with
 |[.tup xs]=>match dO xs with
  |some ps=>ps.length<=sizeLine/\∀p,C p=none->Q (.ref p) (uQ C p (.dK (sU [] ps)))
  |none=>False
 |_=>False
@[irreducible] def cUpdP:PV->List PV->CH->K1->Prop:=fun x ts C Q=>match x,ts with
 |.ref a,[.tup xs]=>match C a,dO xs with
  |some (.dK kvs),some ps=>kvs.length+ps.length<=sizeLine/\Q .non (uQ C a (.dK (sU kvs ps)))
  |_,_=>False
 |_,_=>False
@[irreducible] def cItems(co:TCE):TCE:=fun ρ C Q=>co ρ C fun x C1=>match x with
 |.ref a=>match C1 a with
  |some (.dK _)=>Q (.vw a) C1
  |_=>False
 |_=>False
end
end CL
namespace CL
open PySem PySem.Spec L2 PySem.W
open PyProof.Rows hiding St
def yZ(c:Str×Int):PV:=.tup [.str c.1,.int c.2]
def Xy:List PV->Option (List (Str×Int))
 |[]=>some []
 |.tup [.str x,.int i]::r=>(Xy r).map ((x,i) :: ·)
 |_=>none
def siK:List (Key×PV)->Option (List (Str×Int))
 |[]=>some []
 | (.inr x,.int i)::r=>(siK r).map ((x,i) :: ·)
 |_=>none
def Xz(cs:List (Str×Int)):Nat->Nat->Bool:=fun i j=>Wu (cs.getD i ("",0)) (cs.getD j ("",0))
def xG(cs:List (Str×Int)):List (Str×Int):=(oZ (Xz cs) (kas_sort cs.length)).toList.map fun i=>cs.getD i ("",0)
theorem lI:∀cs,Xy (cs.map yZ)=some cs
 |[]=>rfl
 |c::cs=>by
  show(Xy (cs.map yZ)).map _=_;rw[lI cs];rfl
def siOf_eq(e:Xy ts=some cs):ts=cs.map yZ:=by
 induction ts generalizing cs with
 |nil=>cases e;rfl
 |cons t ts ih =>
  unfold Xy at e
  split at e
  .lia
  .rename_i x i r h
   cases h
   cases z:Xy ts with
   |none=>rw[z] at e;cases e
   |some ds =>
    rw[z] at e;cases e;rw[ih z];rfl
  .cases e
def siK_eq(e:siK ts=some cs):ts=cs.map fun c=>(Sum.inr c.1,PV.int c.2):=by
 induction ts generalizing cs with
 |nil=>cases e;rfl
 |cons t ts ih =>
  unfold siK at e
  split at e
  .lia
  .rename_i x i r h
   cases h
   cases z:siK ts with
   |none=>rw[z] at e;cases e
   |some ds =>
    rw[z] at e;cases e;rw[ih z];rfl
  .cases e
section
variable {K:Dl}{H:Hp}{X:Cx}
def si_at{cs:List (Str×Int)}(r:Reps K H ys (cs.map yZ)):∀i,i < ys.length->YG H (ys.getD i .non) (cs.getD i ("",0)):=by
 induction cs generalizing ys with
 |nil=>cases r;intro i hi;exact absurd hi (Bq i)
 |cons c cs ih =>
  cases r with
  |@cons v _ vs _ h r =>
   intro i hi
   cases i with
   |zero =>
    cases h with
    |tup e r1 =>
     obtain⟨v1,v2,rfl,r2,r3⟩:=yB r1;cases r2;cases r3
     exact⟨_,rfl,e⟩
   |succ i=>exact ih r i (B2 hi)
def Reps.getD(r:Reps K H ys ts): ∀i,i < ys.length->Rep K H (ys.getD i .non) (ts.getD i d):=by
 induction ts generalizing ys with
 |nil=>cases r;intro i hi;exact absurd hi (Bq i)
 |cons c cs ih =>
  cases r with
  |@cons v _ vs _ h r =>
   intro i hi
   cases i with
   |zero=>exact h
   |succ i=>exact ih r i (B2 hi)
def Z3{cs:List (Str×Int)}lt(r:Reps K H ys (cs.map yZ)):Reps K H (jM lt ys) (((oZ lt (kas_sort cs.length)).toList.map fun i=>cs.getD i ("",0)).map yZ):=by
 have hl:ys.length=cs.length:=by rw[r.len,AB]
 delta jM
 rw[hl]
 have mem:∀i∈(oZ lt (kas_sort cs.length)).toList,i < ys.length:=by
  intro i hi
  by_cases h:0 < cs.length
  .have:=(jW lt cs.length h).mem_iff.mp hi
   exact hl▸BR.mp this
  .have e:cs.length=0:=by lia
   rw[e,Vv] at hi;cases hi
 generalize (oZ lt (kas_sort cs.length)).toList=l at mem ⊢
 induction l with
 |nil=>exact .nil
 |cons i l ih =>
  refine .cons ?_ (ih fun j hj=>mem j (AK _ hj));have h1:=r.getD (d:=yZ ("",0)) i (mem i AF);have h2:(cs.map yZ).getD i (yZ ("",0))=yZ (cs.getD i ("",0)) :=by grind<;> rfl
  rwa [h2] at h1
@[irreducible] def eP:GC:=fun ts C Q=>match ts with
 |[.ref a]=>match C a with
  |some (.lst xs)=>match Xy xs with
   |some cs=>cs.length < 64/\∀p,C p=none->Q (.ref p) (uQ C p (.lst ((xG cs).map yZ)))
   |none=>False
  |_=>False
 |[.vw a]=>match C a with
  |some (.dK kvs)=>match siK kvs with
   |some cs=>cs.length < 64/\∀p,C p=none->Q (.ref p) (uQ C p (.lst ((xG cs).map yZ)))
   |none=>False
  |_=>False
 |_=>False
abbrev ZU(X:Cx):List V->Hp->VK->Prop:=fun xs H Q=>(∃l ys lt,xs=[.ref l]/\SqL X.K H l ys/\ys.length < 64/\Srt X H ys lt/\∀p,H p=none->Q (.ref p) (upd H p (.lst (jM lt ys)))) \/
 (∃v d kvs lt,xs=[.ref v]/\H v=some (.ext (dG v d))/\H d=some (.dK kvs)/\kvs.length < 64 /\
  ∀as H1,Same H H1->eA H1 as kvs->(∀a∈as,H a=none)->(∀a,H a=none->H1 a≠none->a∈as)->Srt X H1 (List.map V.ref as) lt/\∀p,H1 p=none->Q (.ref p) (upd H1 p (.lst (jM lt (List.map V.ref as)))))
def yD(hc:X.calm=true):CallR X (.builtin "sorted") (ZU X):=CallR.or iL (xA hc)
def wC:Cbi X.K (ZU X) eP:=fun xs ts H C Q R rs h q f=>by
 delta eP at q
 split at q
 .obtain ⟨v,rfl,r⟩:=iX rs
  split at q
  .next xs e =>
   split at q
   .next cs e2 =>
    have ex:=siOf_eq e2;subst ex;obtain⟨vs,ev,rv⟩:=h _ _ e;cases r;have hl:vs.length=cs.length:=by rw[rv.len,AB]
    refine .inl ⟨_,vs,Xz cs,rfl,SqL.of ev,by rw[hl];exact q.1,Vr _ (si_at rv),fun p hp=>?_⟩;exact f _ _ _ _ (q.2 p (h.fresh hp)) (.ref p) (h.lay hp ⟨_,fQ,(Z3 (Xz cs) rv).imm (Imm.new hp _)⟩) (Fw.lay hp _ _)
   .exact q.elim
  .exact q.elim
 .obtain ⟨v,rfl,r⟩:=iX rs
  split at q
  .next kvs e =>
   split at q
   .next cs e2 =>
    have ex:=siK_eq e2;subst ex;obtain⟨vs,ev,rv⟩:=h _ _ e
    cases r with
    |vw hv =>
     have hl:vs.length=cs.length:=by rw[Paired.length rv,AB]
     refine .inr ⟨_,_,vs,Xz cs,rfl,hv,ev,by rw[hl];exact q.1,fun as H1 sm pa fr on=>?_⟩
     have rr:Reps X.K H1 (List.map V.ref as) (cs.map yZ):=by
      clear hl fr on q e ev e2
      induction cs generalizing vs as with
      |nil=>cases rv;cases pa;exact .nil
      |cons c cs ih =>
       cases rv with
       |@cons p q l1 l2 h' rv =>
        cases pa with
        |@cons a _ l _ e1 pa =>
         obtain⟨k,v'⟩:=p;obtain⟨rfl,e4⟩:=h';cases e4;exact .cons (.tup e1 (.cons (.str _) (.cons (.int _) .nil))) (ih (vs:=l1) rv l pa)
     refine⟨Vr _ (si_at rr),fun p hp=>?_⟩;have h1:=lB h sm;exact f _ _ _ _ (q.2 p (h1.fresh hp)) (.ref p) (h1.lay hp ⟨_,fQ,(Z3 (Xz cs) rr).imm (Imm.new hp _)⟩) ((cP sm).trans (Fw.lay hp _ _))
   .exact q.elim
  .exact q.elim
 .exact q.elim
end
section
variable {X:Cx}{pos:Pos}
@[irreducible] def cCompD(ce:TCE)(t:TCT)(c:TCE):TCE:=fun ρ C Q=>ce ρ C fun x C1=>match x with
 |.ref d=>match C1 d with
  |some (.dK kvs)=>dJ t c ρ (fun v C2=>C2 d=some (.fK kvs)/\Q v (uQ C2 d (.dK kvs))) (kvs.map fun p=>oJ p.1) [] (uQ C1 d (.fK kvs))
  |_=>False
 |_=>False
structure ItOn(K:Dl)(S:Hp->Prop)(J:It)(ps:List PV):Prop where
 go:∀i H',i < ps.length->S H'->J.go i H'
 yl:∀i H' x H'',S H'->J.yld i H' x H''->H''=H'/\∀t,ps[i]?=some t->Rep K H' x t
 st:∀H',S H'->J.stop ps.length H'
def comp_on{K}{Q:VK}(j:ItOn K S J ps)(hS:∀H' C',HRel K H' C'->Fw H C H' C'->S H')(s:SRel K H σ ρ)(h:HRel K H C)(q:dJ t c ρ R ps [] C)(h0:HRel K H0 C0)(f0:Fw H0 C0 H C)(f:∀v H' p C',R p C'->Rep K H' v p->HRel K H' C'->Fw H0 C0 H' C'->Q v H')(hD:H D=none):
  ∃W:Nat->Nat->List V->Hp->Prop,(∃m,W 0 m [] (upd H D (.lst [])))/\∀i m ys H,W i m ys H ->
   (J.stop i H/\Q (.ref D) H)\/(J.go i H/\∀x H',J.yld i H x H'->kJ K vF t (some x::σ) H' fun b H2=>
    if b=true then kJ K (Rep K) c (some x::σ) H2 fun y H3=>H3 D=some (.lst ys)/\ys.length < sizeLine/\∃m',m' < m/\W (i+1) m' (ys++[y]) (upd H3 D (.lst (ys++[y])))
    else ∃m',m' < m/\W (i+1) m' ys H2):=by
 refine⟨fun i m ys H'=>m=ps.length - i/\i<=ps.length/\∃acc C',H' D=some (.lst ys)/\C' D=none/\Reps K H' ys acc/\HRel K H' C'/\Fw H C H' C'/\dJ t c ρ R (ps.drop i) acc C',
  ⟨ps.length,rfl,Ae _,[],C,fQ,h.fresh hD,.nil,h.new hD _,Fw.new hD _,q⟩,?_⟩
 rintro i m ys H1 ⟨rfl,hi,acc,C1,e1,n1,r1,h1,f1,q1⟩;have k1:=f1.imm h
 by_cases hlt:i < ps.length
 .refine .inr ⟨j.go i H1 hlt (hS H1 C1 h1 f1),fun x H2 y=>?_⟩
  obtain⟨rfl,y⟩:=j.yl i H1 x H2 (hS H1 C1 h1 f1) y;have rx:=y _ (AO hlt);rw[Az hlt] at q1;refine⟨some ps[i]::ρ,C1,_,.cons rx (s.imm k1),h1,q1,fun b H3 b' C3 q3 e h3 f3=>?_⟩;cases e;obtain⟨n3,e3⟩:=f3 D (by rw[n1];rfl) (by lia);rw[e1] at e3;rw[n1] at n3;have k3:=f3.imm h1
  cases b with
  |true =>
   refine⟨some ps[i]::ρ,C3,_,.cons (rx.imm k3) ((s.imm k1).imm k3),h3,q3,fun v H4 p C4 q4 r4 h4 f4=>sM (f4 D (by rw[n3];rfl) (by lia)) fun n4 e4=>?_⟩;rw[e3] at e4;rw[n3] at n4;have m4:Imm H4 (upd H4 D (.lst (ys++[v]))):=Imm.mut e4 rfl _;refine⟨e4,by rw[r1.len];exact q4.1,ps.length - (i+1),by lia,rfl,hlt,acc++[p],C4,fQ,n4,?_,?_,?_,q4.2⟩
   .exact (((r1.imm k3).imm (f4.imm h3)).append (.cons r4 .nil)).imm m4
   .intro a o ca
    have ne:a≠D:=fun z=>by subst z;rw[n4] at ca;cases ca
    exact(h4 a o ca).imm m4 (mQ ne)
   .intro a ca na
    have ne:a≠D:=fun z=>na (z▸hD);exact sM ((f1.trans (f3.trans f4)) a ca na) fun x1 x2=>⟨x1,(mQ ne).trans x2⟩
  |false =>
   exact⟨ps.length - (i+1),by lia,rfl,hlt,acc,C3,e3,n3,r1.imm k3,h3,f1.trans f3,q3⟩
 .have e:i=ps.length:=by lia
  subst e;rw[By] at q1;refine .inl ⟨j.st H1 (hS H1 C1 h1 f1),f (.ref D) H1 (.ref D) _ (q1 D n1) (.ref D) ?_ ?_⟩
  .intro a o ca
   by_cases z:a=D
   .subst z;rw[xQ] at ca;cases ca;exact⟨ys,e1,r1⟩
   .rw [wQ z] at ca;exact h1 a o ca
  .intro a ca na
   obtain⟨x1,x2⟩:=f0 a ca na;have na':H a≠none:=by rwa [x2]
   obtain⟨y1,y2⟩:=f1 a (by rwa [x1]) na';exact⟨(wQ (show a≠D from fun z=>na' (z▸hD))).trans (y1.trans x1),y2.trans x2⟩
end
section
variable {X:Cx}{a b c e o i f:Expr}{es:List Expr}{pos:Pos}{value:Expr}
abbrev relO:Hp->Option Int->Option Int->Prop:=fun _ a b=>a=b
abbrev TCO:=CSt->CH->(Option Int->CH->Prop)->Prop
structure CPt(X:Cx)(e:Option Expr)(c:TCO):Prop where
 h:JO X e (kJ X.K relO c)
def JO.weak{e}(h:JO X e t)(w:∀σ H Q,t' σ H Q->t σ H Q):JO X e t':=⟨fun pins s σ H Q I q=>h.h pins s σ H Q I (w σ H Q q)⟩
def cNoPart:TCO:=fun _ C Q=>Q none C
def cPart(ce:TCE):TCO:=fun ρ C Q=>ce ρ C fun t C1=>match t with
 |.int i=>Q (some i) C1
 |_=>False
def cY:CPt X none cNoPart:=⟨JO.weak ⟨po_none⟩ fun σ H Q zz=>pX zz fun ρ C R s h q f=> f none H none C q rfl h Fw.refl⟩
def dY(h:CE X e ce):CPt X (some e) (cPart ce):=⟨JO.weak ⟨po_some h.h.h⟩ fun σ H Q zz=>pX zz fun ρ C R s h q f=> ⟨ρ,C,_,s,h,q,fun x H1 px C1 q1 rx h1 f1=>by
 split at q1
 .cases rx;exact⟨_,rfl,f _ H1 _ C1 q1 rfl h1 f1⟩
 .exact q1.elim⟩⟩
def zY(xs:List PV)(lo hi:Option Int):List PV:=(xs.drop (HT.sIx xs.length 0 lo)).take (HT.sIx xs.length xs.length hi - HT.sIx xs.length 0 lo)
def Reps.cut{K}(r:Reps K H vs ts)lo hi:Reps K H (QZ vs lo hi) (zY ts lo hi):=by
 delta QZ zY
 exact r.len▸(r.drop _).take _
@[irreducible] def cSlL:PV->Option Int->Option Int->CH->K1->Prop:=fun x lo hi C Q=>match x with
 |.ref a=>match C a with
  |some (.lst xs)=>∀p,C p=none->Q (.ref p) (uQ C p (.lst (zY xs lo hi)))
  |_=>False
 |_=>False
def cSl(cr:PV->Option Int->Option Int->CH->K1->Prop)(ce:TCE)(cl ch:TCO):TCE:=fun ρ C Q=>ce ρ C fun x C1=>cl ρ C1 fun l C2=>ch ρ C2 fun u C3=>cr x l u C3 Q
def zA{lo}(he:CE X e ce)(hl:CPt X lo cl)(hu:CPt X hi ch):CE X (.Subscript e (.Slice lo hi none p2) pos) (cSl cSlL ce cl ch):=⟨JE.weak ⟨Qb sl_list he.h.h hl.h.h hu.h.h⟩ fun σ H Q zz=>pX zz fun ρ C R s h q f=>
 ⟨ρ,C,_,s,h,q,fun x H1 px C1 q1 rx h1 f1=>⟨ρ,C1,_,s.imm (f1.imm h),h1,q1,fun l H2 l' C2 q2 e2 h2 f2=>⟨ρ,C2,_,(s.imm (f1.imm h)).imm (f2.imm h1),h2,q2,fun u H3 u' C3 q3 e3 h3 f3=>by
  cases e2;cases e3
  delta cSlL at q3
  split at q3
  .split at q3
   .next xs e =>
    refine eQ (h3 _ _ e) fun vs ev r=>?_;have rx3:=rx.imm ((f2.trans f3).imm h1);cases rx3;exact⟨_,vs,rfl,SqL.of ev,fun p hp=>f _ _ _ _ (q3 p (h3.fresh hp)) (.ref p) (h3.lay hp ⟨_,fQ,(r.cut l u).imm (Imm.new hp _)⟩) (f1.trans (f2.trans (f3.trans (Fw.lay hp _ _))))⟩
   .exact q3.elim
  .exact q3.elim⟩⟩⟩⟩
def cE{i:Nat}{y x:Str}{py px pos spos:Pos}{elt iter:Expr}{ifs:List Expr}{scope:Scope}{wi:TI}{ci:CSt->CH->(List PV->CH->Prop)->Prop}{t:TCT}{c:TCE}(hNd:X.N.Nodup)(hi:X.N[i]?=some y)(hy:Loc X.env.scope y)(hc:X.calm=true)(hN:(x::X.N).Nodup)(K:∃cl,vB X x scope cl)(hI:CI X (.Name x px) iter wi ci)(ht:∀cl fp C s₂ H₂,CF (cK X x scope cl fp C s₂ H₂) ifs t)(he:∀cl fp C s₂ H₂,CE (cK X x scope cl fp C s₂ H₂) elt c)(hs:∀v,foldedSetIterable iter X.env v=pure v:=by intro _;rfl)(hsw:swapsWith (.ListComp elt [⟨.Name x px,iter,ifs,0⟩] scope pos) (some (.Name y py)) spos.line X.env=pure true:=by rfl)(hf:X.fn y=true\/X.env.scope.names.lookup y=some .local:=by first | exact .inl rfl | exact .inr rfl | assumption):
  CS X (.Assign [.Name y py] (.ListComp elt [⟨.Name x px,iter,ifs,0⟩] scope pos) spos) (KQ i (YB ci t c)):=by
 obtain⟨cl,K⟩:=K;refine⟨JS.weak (js_setC (te:=kJ X.K (Rep X.K) c) (tc:=kJ X.K vF t) hNd hi hy hc hN K hI.j (fun fp C s₂ H₂=>(ht cl fp C s₂ H₂).h) (fun fp C s₂ H₂=>(he cl fp C s₂ H₂).h) hs hsw hf) fun D σ H zz=>pX zz fun ρ C E s h q f=> ?_⟩;exact lS (Q:=fun x H'=>D.nx (σ.set i (some x)) H') hI ⟨ρ,C,_,s,h,q,fun x H1 px C1 q1 rx h1 f1=>f.nx _ H1 _ C1 q1 ((s.imm (f1.imm h)).set rx i) h1 f1⟩
def zB(S:CH->Prop)(t:TCT)(c:TCE)(ρ:CSt)(Q:K1):List PV->List PV->CH->Prop
 |[],acc,C=>S C/\∀p,C p=none->Q (.ref p) (uQ C p (.lst acc))
 |x::r,acc,C=>S C/\t (some x::ρ) C fun b C1=>if b=true then c (some x::ρ) C1 fun y C2=>acc.length < sizeLine/\zB S t c ρ Q r (acc++[y]) C2 else zB S t c ρ Q r acc C1
structure ItS(K:Dl)(S:CH->Prop)(J:It)(ps:List PV):Prop where
 go:∀i H' C',i < ps.length->HRel K H' C'->S C'->J.go i H'
 yl:∀i H' C' x H'',HRel K H' C'->S C'->J.yld i H' x H''->H''=H'/\∀t,ps[i]?=some t->Rep K H' x t
 st:∀H' C',HRel K H' C'->S C'->J.stop ps.length H'
def comp_S{K}{c}{Q:VK}(j:ItS K S J ps)(s:SRel K H σ ρ)(h:HRel K H C)(q:zB S t c ρ R ps [] C)(h0:HRel K H0 C0)(f0:Fw H0 C0 H C)(f:∀v H' p C',R p C'->Rep K H' v p->HRel K H' C'->Fw H0 C0 H' C'->Q v H')(hD:H D=none):
  ∃W:Nat->Nat->List V->Hp->Prop,(∃m,W 0 m [] (upd H D (.lst [])))/\∀i m ys H,W i m ys H ->
   (J.stop i H/\Q (.ref D) H)\/(J.go i H/\∀x H',J.yld i H x H'->kJ K vF t (some x::σ) H' fun b H2=>
    if b=true then kJ K (Rep K) c (some x::σ) H2 fun y H3=>H3 D=some (.lst ys)/\ys.length < sizeLine/\∃m',m' < m/\W (i+1) m' (ys++[y]) (upd H3 D (.lst (ys++[y])))
    else ∃m',m' < m/\W (i+1) m' ys H2):=by
 refine⟨fun i m ys H'=>m=ps.length - i/\i<=ps.length/\∃acc C',H' D=some (.lst ys)/\C' D=none/\Reps K H' ys acc/\HRel K H' C'/\Fw H C H' C'/\zB S t c ρ R (ps.drop i) acc C',
  ⟨ps.length,rfl,Ae _,[],C,fQ,h.fresh hD,.nil,h.new hD _,Fw.new hD _,q⟩,?_⟩
 rintro i m ys H1 ⟨rfl,hi,acc,C1,e1,n1,r1,h1,f1,q1⟩;have k1:=f1.imm h
 have q0:S C1:=by
  cases z:ps.drop i with
  |nil=>rw[z] at q1;exact q1.1
  |cons x r=>rw[z] at q1;exact q1.1
 by_cases hlt:i < ps.length
 .refine .inr ⟨j.go i H1 C1 hlt h1 q0,fun x H2 y=>?_⟩
  obtain⟨rfl,y⟩:=j.yl i H1 C1 x H2 h1 q0 y;have rx:=y _ (AO hlt);rw[Az hlt] at q1
  replace q1:=q1.2
  refine⟨some ps[i]::ρ,C1,_,.cons rx (s.imm k1),h1,q1,fun b H3 b' C3 q3 e h3 f3=>?_⟩;cases e;obtain⟨n3,e3⟩:=f3 D (by rw[n1];rfl) (by lia);rw[e1] at e3;rw[n1] at n3;have k3:=f3.imm h1
  cases b with
  |true =>
   refine⟨some ps[i]::ρ,C3,_,.cons (rx.imm k3) ((s.imm k1).imm k3),h3,q3,fun v H4 p C4 q4 r4 h4 f4=>sM (f4 D (by rw[n3];rfl) (by lia)) fun n4 e4=>?_⟩;rw[e3] at e4;rw[n3] at n4;have m4:Imm H4 (upd H4 D (.lst (ys++[v]))):=Imm.mut e4 rfl _;refine⟨e4,by rw[r1.len];exact q4.1,ps.length - (i+1),by lia,rfl,hlt,acc++[p],C4,fQ,n4,?_,?_,?_,q4.2⟩
   .exact (((r1.imm k3).imm (f4.imm h3)).append (.cons r4 .nil)).imm m4
   .intro a o ca
    have ne:a≠D:=fun z=>by subst z;rw[n4] at ca;cases ca
    exact(h4 a o ca).imm m4 (mQ ne)
   .intro a ca na
    have ne:a≠D:=fun z=>na (z▸hD);exact sM ((f1.trans (f3.trans f4)) a ca na) fun x1 x2=>⟨x1,(mQ ne).trans x2⟩
  |false =>
   exact⟨ps.length - (i+1),by lia,rfl,hlt,acc,C3,e3,n3,r1.imm k3,h3,f1.trans f3,q3⟩
 .have e:i=ps.length:=by lia
  subst e;rw[By] at q1
  replace q1:=q1.2
  refine .inl ⟨j.st H1 C1 h1 q0,f (.ref D) H1 (.ref D) _ (q1 D n1) (.ref D) ?_ ?_⟩
  .intro a o ca
   by_cases z:a=D
   .subst z;rw[xQ] at ca;cases ca;exact⟨ys,e1,r1⟩
   .rw [wQ z] at ca;exact h1 a o ca
  .intro a ca na
   obtain⟨x1,x2⟩:=f0 a ca na;have na':H a≠none:=by rwa [x2]
   obtain⟨y1,y2⟩:=f1 a (by rwa [x1]) na';exact⟨(wQ (show a≠D from fun z=>na' (z▸hD))).trans (y1.trans x1),y2.trans x2⟩
def it_lst{K}{a}: ItS K (fun C=>C a=some (.lst xs)) (Itl K a) xs where
 go:=fun i H' C' l h s=>by
  refine eQ (h a _ s) fun vs e r=>eQ (r.get (AO l)) fun v ev _=>?_;exact⟨vs,v,SqL.of e,ev⟩
 yl:=fun i H' C' x H'' h s y=>⟨y.1,fun t et=>by
  refine eQ (h a _ s) fun vs e r=>eQ (r.get et) fun v ev rv=>?_;have:=y.2 vs (SqL.of e)
  rw[ev] at this;cases this;exact rv⟩
 st:=fun H' C' h s=>eQ (h a _ s) fun vs e r=>⟨vs,SqL.of e,by exact r.len▸AH _⟩
@[irreducible] def dC(ce:TCE)(t:TCT)(c:TCE):TCE:=fun ρ C Q=>ce ρ C fun x C1=>match x with
 |.ref a=>match C1 a with
  |some (.lst xs)=>zB (fun C=>C a=some (.lst xs)) t c ρ Q xs [] C1
  |_=>False
 |_=>False
def vD{elt iter:Expr}{x:Str}{px:Pos}{ifs:List Expr}{scope:Scope}{ce:TCE}{t:TCT}{c:TCE}(hc:X.calm=true)(hN:(x::X.N).Nodup)(K:∃cl,vB X x scope cl)(hi:CE X iter ce)(ht:∀cl fp C s₂ H₂,CF (cK X x scope cl fp C s₂ H₂) ifs t)(he:∀cl fp C s₂ H₂,CE (cK X x scope cl fp C s₂ H₂) elt c)(hs:∀v,foldedSetIterable iter X.env v=pure v:=by intro _;rfl):CE X (.ListComp elt [⟨.Name x px,iter,ifs,0⟩] scope pos) (dC ce t c) :=
 ⟨JE.weak (cN (te:=kJ X.K (Rep X.K) c) (tc:=kJ X.K vF t) hc hN K ⟨Z0 hi.h.h⟩ (fun cl fp C s₂ H₂=>(ht cl fp C s₂ H₂).h) (fun cl fp C s₂ H₂=>(he cl fp C s₂ H₂).h) hs) fun σ H Q zz=>pX zz fun ρ C R s h q f=> by
  unfold dC at q
  exact⟨ρ,C,_,s,h,q,fun xv H1 px C1 q1 rx h1 f1=>by
   split at q1
   .next a =>
    split at q1
    .next xs e =>
     obtain⟨vs,ev,r⟩:=h1 a _ e;cases rx;exact⟨a,rfl,⟨vs,SqL.of ev⟩,fun D hD=>comp_S (Q:=Q) it_lst (s.imm (f1.imm h)) h1 q1 h f1 f hD⟩
    .exact q1.elim
   .exact q1.elim⟩⟩
end
section
variable {C:CH}{a p:Addr}{xs ys:List PV}{i:Int}{v:PV}{Q:K1}
def mZ(h:C a=some (.lst xs))(e:atI xs i=some v)(q:Q v C):cIx (.ref a) (.int i) C Q:=by
 delta cIx
 show(match C a with | some (.lst xs)=>cAt xs i C Q | _=>False);rw[h];show cAt xs i C Q
 delta cAt
 rwa [e]
def ix_f(e:atI xs i=some v)(q:Q v C):cIx (.fz xs) (.int i) C Q:=by
 delta cIx
 show cAt xs i C Q
 delta cAt
 rwa [e]
def wX(e:atI xs i=some v)(q:Q v C):cIx (.tup xs) (.int i) C Q:=by
 delta cIx
 show cAt xs i C Q
 delta cAt
 rwa [e]
def setL{Q}(h:C p=some (.lst xs))(e:ixN xs.length k=some j)(q:Q (uQ C p (.lst (xs.set j v)))):Jz (.ref p) (.int k) v C Q:=by
 delta Jz
 dsimp only;rw[h];dsimp only
 rwa [e]
def gM(h:C a=some (.lst xs))(q:Q (.int xs.length) C):pC [.ref a] C Q:=by
 delta pC
 show(match C a with | some (.lst xs)=>Q (.int xs.length) C | some (.dK kvs)=>Q (.int kvs.length) C | _=>False)
 rwa [h]
def Wx(q:Q (.int xs.length) C):pC [.fz xs] C Q:=by
 delta pC
 exact q
def wU(q:Q (.int xs.length) C):pC [.tup xs] C Q:=by
 delta pC
 exact q
def qP(h:C a=some (.lst xs))(z:xs.length < sizeLine)(q:Q .non (uQ C a (.lst (xs++[v])))):xU (.ref a) [v] C Q :=by simp_all[xU]
def eW(h:C a=some (.lst xs)):isL (.ref a) C:=by
 show(match C a with | some (.lst _)=>True | _=>False);rw[h]
 trivial
end
def i_i(q:Q (g i j) C):cI g (.int i) (.int j) C Q:=by
 delta cI
 exact q
def qV(q:Q (.int (i+j)) C):dR (.int i) (.int j) C Q:=by
 delta dR
 exact q
def JM(h:xs.length+ys.length<=sizeLine)(q:Q (.tup (xs++ys)) C):dR (.tup xs) (.tup ys) C Q:=by
 delta dR
 exact⟨h,q⟩
def if_b{q:Prop}(h1:b=true->p)(h2:b=false->q):if b=true then p else q :=by grind
def WM{q:Prop}(e:b=true)(h:p):if b=true then p else q:=by rwa [AW e]
def mU{q:Prop}(e:b=false)(h:q):if b=true then p else q :=by grind
def jJ{p q:CH->Prop}(e:b=true)(h:p C):vN (fun b C1=>if b=true then p C1 else q C1) (.bl b) C:=by cases e;exact h
def rX{p q:CH->Prop}(e:b=false)(h:q C):vN (fun b C1=>if b=true then p C1 else q C1) (.bl b) C:=by cases e;exact h
def bZ{p q:CH->Prop}(h1:b=true->p C)(h2:b=false->q C):vN (fun b C1=>if b=true then p C1 else q C1) (.bl b) C:=by
 cases b with
 |true=>exact h1 rfl
 |false=>exact h2 rfl
def xP{p q:CH->Prop}(h:q C):vN (fun b C1=>if (!b)=true then p C1 else q C1) (.bl true) C :=h
def qX(e:sEq x y=some b)(q:Q (.bl (k b)) C):cEq k x y C Q :=by simp_all[cEq]
def dQ x y:sEq (.str x) (.str y)=some (decide (x=y)):=rfl
def dX x y:sEq (.int x) (.int y)=some (decide (x=y)):=rfl
def mT(h:t (some x::ρ) C fun b C1=>if b=true then c (some x::ρ) C1 fun y C2=>acc.length < sizeLine/\dJ t c ρ Q r (acc++[y]) C2 else dJ t c ρ Q r acc C1):dJ t c ρ Q (x::r) acc C:=h
def Q3(h:∀p,C p=none->Q (.ref p) (uQ C p (.lst acc))):dJ t c ρ Q [] acc C:=h
def zZ(e1:xF n=some T)(e2:tyP C x=some k)(q:Q (.bl (sZ k T)) C):cIsi [x,.ty n] C Q:=by
 delta cIsi
 show(match xF n,tyP C x with | some T,some k=>Q (.bl (sZ k T)) C | _,_=>False)
 rwa [e1,e2]
def add_l(h1:C a=some (.lst xs))(h2:C b=some (.lst ys))(z:xs.length+ys.length<=sizeLine)(q:∀p,C p=none->Q (.ref p) (uQ C p (.lst (xs++ys)))):dR (.ref a) (.ref b) C Q:=by
 delta dR
 show(match C a,C b with | some (.lst xs),some (.lst ys)=>xs.length+ys.length<=sizeLine/\∀p,C p=none->Q (.ref p) (uQ C p (.lst (xs++ys))) | _,_=>False);exact h1▸h2▸⟨z,q⟩
def mJ(m:C p=some (.lst xs))(q:Q (.tup xs) C):tM [.ref p] C Q:=by
 delta tM
 show(match C p with | some (.lst xs)=>Q (.tup xs) C | _=>False)
 rwa [m]
def Gr(C C':CH):Prop:=∀b o,C b=some o->C' b=some o
def Gr.refl: Gr C C:=fun _ _ h=>h
theorem Gr.trans(h:Gr C C1)(h':Gr C1 C2):Gr C C2:=fun b o e=>h' b o (h b o e)
def Gr.new(hp:C p=none)o:Gr C (uQ C p o):=fun b u e=>by
 rw[wQ (fun z=>by subst z;rw[hp] at e;cases e)];exact e
def sQ(h:E.nx ρ C):cNext E ρ C:=h
def yQ(h:ce ρ C fun v C1=>u E (ρ.set i (some v)) C1):KR (KQ i ce) u E ρ C:=h
def iZ(h:t (E.wn (u E)) ρ C):KR t u E ρ C:=h
def c_i(h:Q v C):cC v ρ C Q:=h
def aQ(P:CSt->CH->Prop)(h1:∀K:CSt->CH->Prop,(∀ρ' C',P ρ' C'->K ρ' C')->t (E.wn K) ρ C)(h2:∀ρ' C',P ρ' C'->u E ρ' C'):KR t u E ρ C:=h1 _ h2
section
variable {X:Cx}{o e value i f:Expr}{es:List Expr}{pos pos':Pos}
def iI(f:Str)(v:PV):List (Str×PV)->List (Str×PV)
 |[]=>[(f,v)]
 | (g,x)::r=>if g=f then (g,v)::r else (g,x)::iI f v r
theorem FP.put{K}{f}(h:Rep K H v t):∀{gs}{fs},FP K H gs fs->FP K H (gU f v gs) (iI f t fs):=by
 intro gs fs r
 induction r with
 |nil=>exact .cons ⟨rfl,h⟩ .nil
 |@cons p q l1 l2 h' r ih =>
  obtain⟨g,x⟩:=p;obtain⟨g',y⟩:=q;obtain⟨rfl,h2⟩:=h';unfold gU iI
  by_cases e:g=f
  .rw [AW e,AW e];exact .cons ⟨rfl,h⟩ r
  .rw [AX e,AX e];exact .cons ⟨rfl,h2⟩ ih
def FP.look{K}{f}:∀{gs}{fs:List (Str×PV)},FP K H gs fs->(∃v t,gs.lookup f=some v/\fs.lookup f=some t/\Rep K H v t)\/(gs.lookup f=none/\fs.lookup f=none):=by
 intro gs fs r
 induction r with
 |nil=>exact .inr ⟨rfl,rfl⟩
 |@cons p q l1 l2 h' r ih =>
  obtain⟨g,x⟩:=p;obtain⟨g',y⟩:=q;obtain⟨rfl,h2⟩:=h';unfold List.lookup
  cases e:(f==g) with
  |true=>exact .inl ⟨x,y,rfl,rfl,h2⟩
  |false=>exact ih
@[irreducible] def Zv(c:Addr)(f:Str):PV->CH->K1->Prop:=fun x C Q=>match x with
 |.ref p=>match C p with
  |some (.ins c' _ fs)=>c'=c/\match fs.lookup f with
   |some v=>Q v C
   |none=>False
  |_=>False
 |_=>False
def Zt{f}(hc:Cls X.K c)(hn:NoAttr X.K c f)(ho:CE X o co)(hb:attributeBase o f X.env (eval o X.env)=eval o X.env:=by rfl):CE X (.Attribute o f pos) (fun ρ C Q=>co ρ C fun x C1=>Zv c f x C1 Q) :=
 ⟨JE.weak ⟨pe_fld ho.h.h hb⟩ fun σ H Q zz=>pX zz fun ρ C R s h q f'=> ⟨ρ,C,_,s,h,q,fun x H1 px C1 q1 rx h1 f1=>by
  delta Zv at q1
  split at q1
  .next p =>
   split at q1
   .next c' dx fs e1 =>
    obtain⟨rfl,q1⟩:=q1
    split at q1
    .next t e2 =>
     refine eQ (h1 p _ e1) fun gs eg r=>?_;cases rx
     rcases FP.look r with ⟨v,t',l1,l2,rv⟩ | ⟨l1,l2⟩
     .rw [e2] at l2
      cases l2;exact⟨p,c',dx,gs,v,rfl,eg,hc,hn,l1,f' v H1 t C1 q1 rv h1 f1⟩
     .rw [e2] at l2;cases l2
    .exact q1.elim
   .exact q1.elim
  .exact q1.elim⟩⟩
@[irreducible] def JC(c:Addr)(f:Str):PV->PV->CH->(CH->Prop)->Prop:=fun x v C Q=>match x with
 |.ref p=>match C p with
  |some (.ins c' dx fs)=>c'=c/\fs.length < 1000/\Q (uQ C p (.ins c' dx (iI f v fs)))
  |_=>False
 |_=>False
def Yl{f}{cv}(hc:Cls X.K c)(hn:NoAttr X.K c f)(ho:CE X o co)(hv:CE X value cv)(hs:swapsWith value (some (.Attribute o f pos')) pos.line X.env=pure false:=by rfl):
  CS X (.Assign [.Attribute o f pos'] value pos) (fun E ρ C=>cv ρ C fun v C1=>co ρ C1 fun x C2=>JC c f x v C2 fun C3=>E.nx ρ C3):=⟨JS.weak ⟨ps_fld ho.h.h hv.h.h hs⟩ fun D σ H zz=>pX zz fun ρ C E s h q f'=>
 ⟨ρ,C,_,s,h,q,fun v H1 pv C1 q1 rv h1 f1=>⟨ρ,C1,_,s.imm (f1.imm h),h1,q1,fun x H2 px C2 q2 rx h2 f2=>by
  have rv2:=rv.imm (f2.imm h1)
  delta JC at q2
  split at q2
  .next p =>
   split at q2
   .next c' dx fs e1 =>
    obtain⟨rfl,ql,q2⟩:=q2;refine eQ (h2 p _ e1) fun gs eg r=>?_;cases rx;have m:Imm H2 (upd H2 p (.ins c' dx (gU f v gs))):=Imm.mut eg rfl _;exact⟨p,c',dx,gs,rfl,eg,hc,hn,by exact(Paired.length r)▸ql,f'.nx σ _ ρ _ q2 (((s.imm (f1.imm h)).imm (f2.imm h1)).imm m) (h2.put eg rfl ⟨_,fQ,Paired.mapP (FP.put rv2 r) fun _ _ z=>⟨z.1,z.2.imm m⟩⟩) (f1.trans (f2.trans (Fw.put e1 _ _)))⟩
   .exact q2.elim
  .exact q2.elim⟩⟩⟩
def QA(c:Addr)(m:Str)(x:PV)(C:CH):Prop:=match x with
 |.ref p=>match C p with
  |some (.ins c' _ fs)=>c'=c/\fs.lookup m=none
  |_=>False
 |_=>False
def WJ{K}(d:QA c m t C)(r:Rep K H x t)(h:HRel K H C):∃a dx gs,x=.ref a/\t=.ref a/\H a=some (.ins c dx gs)/\gs.lookup m=none:=by
 delta QA at d
 split at d
 .split at d
  .next e =>
   obtain⟨rfl,d⟩:=d;obtain⟨gs,eg,rf⟩:=(h _ _ e);cases r;refine⟨_,_,gs,rfl,rfl,eg,?_⟩
   rcases FP.look rf with ⟨v,t',l1,l2,_⟩ | ⟨l1,l2⟩
   .rw [l2] at d;cases d
   .exact l1
  .exact d.elim
 .exact d.elim
def cMeth(c:Addr)(m:Str)(G:GC)(co:TCE)(ca:TCA):TCE:=fun ρ C Q=>co ρ C fun x C1=>QA c m x C1/\ca ρ C1 fun xs C2=>G (x::xs) C2 Q
def ce_meth{apos}{pl}(hc:Cls X.K c)(hm:Meth X.K c m fa)(F:FnOk X.prog X.w X.K X.mg X.base CX k fa fd ps (spC X.K G))(hr:Room k X.A)(hb:Binds X.K fd ps [])(hx:kY CX X E)(ho:CE X o co)(ha:CA X (e::es) ca)(hst:starEach (e::es) X.env=(false,eval e X.env)::starEach es X.env:=by rfl)(hpl:(backTo pos (starEach es X.env)).any (·.1)=false:=by rfl)(ht:eval (.Call (.Attribute o m apos) (e::es) [] pos) X.env=(do
   let ov <- eval o X.env
   standAt apos.atName
   let (f,first) <- holding [ov] (getMethod ov m pl)
   callWith pos f first (backTo pos (starEach (e::es) X.env)) (backToKw pos (keywordEach [] X.env))):=by rfl):
  CE X (.Call (.Attribute o m apos) (e::es) [] pos) (cMeth c m G co ca) :=
 ⟨JE.weak ⟨pe_meth ho.h.h hc hm F hr hb .nil hx ha.h.h hst hpl ht⟩ fun σ H Q zz=>pX zz fun ρ C R s h q f=> ⟨ρ,C,_,s,h,q,fun x H1 px C1 q1 rx h1 f1=>by
  obtain⟨a,dx,gs,rfl,rfl,eg,lk⟩:=WJ q1.1 rx h1
  exact⟨a,dx,gs,rfl,eg,lk,ρ,C1,_,s.imm (f1.imm h),h1,q1.2,fun xs H2 ts C2 q2 rs h2 f2=>⟨.ref a::ts,C2,R,.cons (.ref a) (by grind),h2,q2,fun v H' t C' q' r' h' f'=>f v H' t C' q' r' h' (f1.trans (f2.trans f'))⟩⟩⟩⟩
def cMake(c:Addr)(G:GC)(ca:TCA):TCE:=fun ρ C Q=>ca ρ C fun xs C1=>∀x dx,C1 x=none->C1 dx=none->dx≠x->G (.ref x::xs) (uQ C1 x (.ins c dx [])) fun v C2=>v=.non/\Q (.ref x) C2
def ce_make{p}(M:Mk X.K c fa)(F:FnOk X.prog X.w X.K X.mg X.base CX k fa fd ps (spC X.K G))(hr:Room (k+1) X.A)(hg:Gl X x)(hm:X.mg x=some (.ref c))(hb:Binds X.K fd ps [])(hx:kY CX X E)(ha:CA X (e::es) ca)(hdb:(x==("__debug__" : Str))=false:=by decide)(hst:starEach (e::es) X.env=(false,eval e X.env)::starEach es X.env:=by rfl)(hpl:(backTo pos (starEach es X.env)).any (·.1)=false:=by rfl):CE X (.Call (.Name x p) (e::es) [] pos) (cMake c G ca) :=
 ⟨JE.weak ⟨pe_make M F hr hg hm hb .nil hx ha.h.h hdb hst hpl⟩ fun σ H Q zz=>pX zz fun ρ C R s h q f=> ⟨ρ,C,_,s,h,q,fun xs H1 ts C1 q1 rs h1 f1=>fun y dx hy hd nd=>by
  have hy':upd H1 dx (.own y) y=none:=by rwa [mQ (Ne.symm nd)]
  have k2:Imm (upd H1 dx (.own y)) (upd (upd H1 dx (.own y)) y (.ins c dx [])):=Imm.new hy' _;refine⟨.ref y::ts,uQ C1 y (.ins c dx []),_,.cons (.ref y) (by rw[Al];exact(rs.imm (Imm.new hd _)).imm k2),(h1.new hd (.own y)).lay hy' ⟨[],fQ,.nil⟩,q1 y dx (h1.fresh hy) (h1.fresh hd) nd,fun v H' t C' q' r' h' f'=>?_⟩;obtain⟨rfl,q'⟩:=q';cases r'
  exact⟨rfl,f _ H' _ C' q' (.ref y) h' (f1.trans (((Fw.new hd _).trans (Fw.lay hy' _ _)).trans f'))⟩⟩⟩
end
end CL
namespace L2
open PySem PySem.Spec PyProof.Rows PySem.W
section
variable {X:Cx}
def YC{bs:List Bool}{its:List Value}(r:Vals (bs.map V.bl) its):its=bs.map Value.bool:=by
 induction bs generalizing its with
 |nil=>cases r;rfl
 |cons b bs ih =>
  rw[A8] at r
  cases r with
  |cons a t =>
   cases (show _=Value.bool b from a);rw[ih t]
   rfl
def ZV:V->List V->Hp->VK->Prop:=fun x vs H Q=>∃(l:Addr)(bs:List Bool)(j:Nat),x=.ref l/\vs=[.bl true]/\H l=some (.lst (bs.map V.bl))/\bs[j]?=some true/\(∀m,m < j->bs[m]?=some false)/\Q (.int j) H
def Kk:MtM X "list.index" ZV:=by
 intro pins s σ H x vs v us Q I rx rv h;obtain⟨l,bs,j,rfl,rfl,hH,hj,hno,q⟩:=h;cases rx;obtain⟨u,rfl,ru⟩:=rv.one;cases (show u=Value.bool true from ru);obtain⟨z,its,n,r,hl,e⟩:=I.lstM hH;have ei:=YC r;subst ei
 have hjl:j < bs.length:=by
  rcases Cg j bs.length with h | h
  .exact h
  .rw [B7 h] at hj;cases hj
 have hz:=tU;have hb:bs.length<=sizeLine:=by rw[AB] at z;exact z
 have isT:∀v:Value,Bool:=fun v=>match v with
  |.bool b=>b
  |_=>false
 refine Ce F.slot_list_index ⟨_,e,rfl⟩ F.entry_list_index (F.args_list_index_2 _ _)
  (SeqAt.list_indexAt l (bs.map Value.bool).toArray n none #[] (.bool true) (fun v=>v==.bool true) j (by simpa using hjl) (by omega) ?_ ?_) ⟨e,fun y hy=>?_,⟨.int j,H,I.tok _,⟨_,rfl⟩,q⟩⟩
 .have:bs[j]=true:=by rw[AO hjl] at hj;exact BC hj
  simp[this]
 .intro m hm hmj
  have hml:m < bs.length:=by omega
  have:bs[m]=false:=by have:=hno m hmj;rw[AO hml] at this;exact BC this
  simp[this]
 .have hy:y∈bs.map Value.bool:=by simpa using hy
  obtain⟨b,_,rfl⟩:=AU.mp hy;have:=SeqAt.EqAt.bool_bool (A:=X.A.in1) (s:=s) b true;have e2:(Value.bool b==Value.bool true)=(b==true):=by cases b<;>rfl
  rw[e2];exact this
def bC:CallR X (.type "dict") (fun xs H Q=>∃a kvs,xs=[.ref a]/\H a=some (.dK kvs)/\∀p,H p=none->Q (.ref p) (upd H p (.dK kvs))):=by
 intro pins s σ H xs us Q I r h;obtain⟨a,kvs,rfl,ha,q⟩:=h;obtain⟨u,rfl,rfl⟩:=r.one;obtain⟨z,hd,vs,rel,dd⟩:=Jk I.hok ha;refine kt_call_dict hd dd (by rwa [<- rel.length]) fun h' hm hs=>?_;refine⟨.ref s.heap.objs.size,_,I.laid (t':=s.toks) (fun b o e=>hs.extBut b o (Ad (AG e)) (AD _ e)) (AH _) ?_,rfl,q _ (I.hok.fresh (AH _))⟩;exact⟨z,DX (Ax I.big),vs,rel,hm⟩
end
end L2
namespace CL
open PySem PySem.Spec L2 PySem.W
open PyProof.Rows hiding St
def oY:List PV->Option (List Key)
 |[]=>some []
 |t::r=>match zW t,oY r with
  |some k,some ks=>some (k::ks)
  |_,_=>none
def iY:PV->Option (List Key)
 |.tup ts=>oY ts
 |_=>none
def pN{K}(r:Reps K H vs ts)(e:oY ts=some ks):vs=ks.map kV:=by
 induction ts generalizing vs ks with
 |nil=>cases r;cases e;rfl
 |cons t ts ih =>
  cases r with
  |cons h r =>
   unfold oY at e
   split at e
   .next k ks' e1 e2=>cases e;rw[vG h e1,ih r e2];rfl
   .cases e
def oV{K}(r:Rep K H v t)(e:iY t=some ks):∃b,v=.ref b/\H b=some (.tup (ks.map kV)):=by
 cases r<;>try (cases e)
 next a vs ts h r=>exact⟨a,rfl,by rw[h,pN r e]⟩
section
variable {κ:Type}[DecidableEq κ]
def zK(kvs:List (κ×PV))(k:κ):Option PV:=(kvs.find? fun kv=>decide (kv.1=k)).map (·.2)
def putG(kvs:List (κ×PV))(k:κ)(v:PV):List (κ×PV):=if (kvs.any fun kv=>decide (kv.1=k))=true then kvs.map fun kv=>if kv.1=k then (kv.1,v) else kv else kvs++[(k,v)]
def mergeG(kvs more:List (κ×PV)):List (κ×PV):=more.foldl (fun acc kv=>putG acc kv.1 kv.2) kvs
def FP.val{K}(r:FP K H vs kvs)(k:κ):(∃v t,nY vs k=some v/\zK kvs k=some t/\Rep K H v t)\/(nY vs k=none/\zK kvs k=none):=by
 induction r with
 |nil=>exact .inr ⟨rfl,rfl⟩
 |@cons p q l1 l2 h r ih =>
  delta nY zK
  rw[BO,BO,h.1]
  by_cases e:q.1=k
  .simp_all
  .rwa [AQ e]
def FP.anyG{K}(r:FP K H vs kvs)(k:κ):(vs.any fun kv=>decide (kv.1=k))=(kvs.any fun kv=>decide (kv.1=k)):=by
 induction r with
 |nil=>rfl
 |@cons p q l1 l2 h r ih=>rw[BJ,BJ,h.1,ih]
theorem FP.putG{K}(r:FP K H vs kvs)(k:κ)(h:Rep K H v t):FP K H (tV vs k v) (CL.putG kvs k t):=by
 delta tV CL.putG
 rw[FP.anyG r k]
 have upd:FP K H (vs.map fun kv=>if kv.1=k then (kv.1,v) else kv) (kvs.map fun kv=>if kv.1=k then (kv.1,t) else kv):=by
  induction r with
  |nil=>exact .nil
  |@cons p q l1 l2 h' r ih =>
   refine .cons ?_ ih
   by_cases e:q.1=k
   .lia
   .lia
 split
 .exact upd
 .exact Paired.snoc r ⟨rfl,h⟩
end
section
variable {X:Cx}{a b c e o i f value:Expr}{es:List Expr}{pos pos':Pos}
def cTNew:TCE:=fun _ C Q=>∀p,C p=none->Q (.ref p) (uQ C p (.dT []))
def iE:CE X (.Dict [] [] pos) cTNew:=⟨JE.weak ⟨VZ⟩ fun σ H Q zz=>pX zz fun ρ C R s h q f=> fun p hp=>f (.ref p) _ (.ref p) _ (q p (h.fresh hp)) (.ref p) (h.lay hp ⟨[],fQ,.nil⟩) (Fw.lay hp _ _)⟩
@[irreducible] def cTIx:R2C:=fun x y C Q=>match x with
 |.ref a=>match C a,iY y with
  |some (.dT kvs),some k=>match zK kvs k with
   |some v=>Q v C
   |none=>False
  |_,_=>False
 |_=>False
def ce_tix(hu:X.A.units+1 < cLine)(ho:CE X o co)(hi:CE X i ci)(hs:YI i):CE X (.Subscript o i pos) (cOp cTIx co ci):=⟨JE.weak ⟨fO hu ho.h.h hi.h.h hs⟩ fun σ H Q zz=>pX zz fun ρ C R s h q f=>
 ⟨ρ,C,_,s,h,q,fun x H1 px C1 q1 rx h1 f1=>⟨ρ,C1,_,s.imm (f1.imm h),h1,q1,fun y H2 py C2 q2 ry h2 f2=>by
  delta cTIx at q2
  split at q2
  .next a =>
   split at q2
   .next kvs k e1 e2 =>
    split at q2
    .next t e3 =>
     have rx2:=rx.imm (f2.imm h1);cases rx2;refine eQ (h2 a _ e1) fun vs ev r=>?_;obtain⟨b,rfl,eb⟩:=oV ry e2
     rcases FP.val r k with ⟨v,t',l1,l2,rv⟩ | ⟨_,l2⟩
     .rw [e3] at l2
      cases l2;exact⟨a,v,rfl,by exact l1▸DGet.t ev eb,f v H2 t C2 q2 rv h2 (f1.trans f2)⟩
     .rw [e3] at l2;cases l2
    .exact q2.elim
   .exact q2.elim
  .exact q2.elim⟩⟩⟩
def Ks(x:PV)(C:CH):Prop:=match x with
 |.ref a=>match C a with
  |some (.dT _)=>True
  |_=>False
 |_=>False
def Jc{K}(d:Ks t C)(r:Rep K H x t)(h:HRel K H C):∃a kvs,x=.ref a/\t=.ref a/\H a=some (.dT kvs):=by
 delta Ks at d
 split at d
 .split at d
  .next e=>obtain⟨vs,ev,_⟩:=(h _ _ e);cases r;exact⟨_,vs,rfl,rfl,ev⟩
  .exact d.elim
 .exact d.elim
@[irreducible] def Jy:PV->PV->PV->CH->K1->Prop:=fun x y z C Q=>match x with
 |.ref a=>match C a,iY y with
  |some (.dT kvs),some k=>Q ((zK kvs k).getD z) C
  |_,_=>False
 |_=>False
def cTGet2(co ck cz:TCE):TCE:=fun ρ C Q=>co ρ C fun x C1=>Ks x C1/\ck ρ C1 fun y C2=>cz ρ C2 fun z C3=>Jy x y z C3 Q
def Q6{apos cpos}(hu:X.A.units+1 < cLine)(ho:CE X o co)(he:CE X e ck)(hf:CE X f cz)(hb:attributeBase o "get" X.env (eval o X.env)=eval o X.env:=by rfl)(hl:(apos.endLine==cpos.line)=true:=by rfl)(h1:xX e=true:=by rfl)(h2:xX f=true:=by rfl):CE X (.Call (.Attribute o "get" apos) [e,f] [] cpos) (cTGet2 co ck cz):=⟨JE.weak ⟨Qc hu ho.h.h he.h.h hf.h.h (m2_of hb hl h1 h2)⟩ fun σ H Q zz=>pX zz fun ρ C R s h q f=>
 ⟨ρ,C,_,s,h,q,fun x H1 px C1 q1 rx h1 f1=>by
  obtain⟨a,kvs,rfl,rfl,e1⟩:=Jc q1.1 rx h1;refine⟨a,rfl,.inr ⟨kvs,.inl e1⟩,ρ,C1,_,s.imm (f1.imm h),h1,q1.2,fun y H2 py C2 q2 ry h2 f2=>⟨ρ,C2,_,(s.imm (f1.imm h)).imm (f2.imm h1),h2,q2,fun z H3 pz C3 q3 rz h3 f3=>?_⟩⟩;unfold Jy at q3;dsimp only at q3
  split at q3
  .next kvs' k d1 d2 =>
   refine eQ (h3 a _ d1) fun vs ev r=>?_;obtain⟨b,rfl,eb⟩:=oV (ry.imm (f3.imm h2)) d2
   rcases FP.val r k with ⟨v,t',l1,l2,rv⟩ | ⟨l1,l2⟩
   .rw [l2] at q3
    exact⟨some v,by exact l1▸DGet.t ev eb,f v H3 t' C3 q3 rv h3 (f1.trans (f2.trans f3))⟩
   .rw [l2] at q3
    exact⟨none,by exact l1▸DGet.t ev eb,f z H3 pz C3 q3 rz h3 (f1.trans (f2.trans f3))⟩
  .exact q3.elim⟩⟩
@[irreducible] def nT:PV->PV->PV->CH->(CH->Prop)->Prop:=fun x y v C Q=>match x with
 |.ref a=>match C a,iY y with
  |some (.dT kvs),some k=>kvs.length < sizeLine/\Q (uQ C a (.dT (putG kvs k v)))
  |_,_=>False
 |_=>False
def cTPut(co ck cv:TCE):TCS:=fun E ρ C=>cv ρ C fun v C1=>co ρ C1 fun x C2=>ck ρ C2 fun y C3=>nT x y v C3 fun C4=>E.nx ρ C4
def sG{ck cv}(hu:X.A.units+1 < cLine)(ho:CE X o co)(hi:CE X i ck)(hv:CE X value cv)(hs:swapsWith value (some (.Subscript o i pos')) pos.line X.env=pure false:=by rfl):
  CS X (.Assign [.Subscript o i pos'] value pos) (cTPut co ck cv):=⟨JS.weak ⟨ZZ hu ho.h.h hi.h.h hv.h.h hs⟩ fun D σ H zz=>pX zz fun ρ C E s h q f=>
 ⟨ρ,C,_,s,h,q,fun v H1 pv C1 q1 rv h1 f1=>⟨ρ,C1,_,s.imm (f1.imm h),h1,q1,fun x H2 px C2 q2 rx h2 f2=>⟨ρ,C2,_,(s.imm (f1.imm h)).imm (f2.imm h1),h2,q2,fun y H3 py C3 q3 ry h3 f3=>by
  have rv3:=rv.imm ((f2.trans f3).imm h1)
  delta nT at q3
  split at q3
  .next a =>
   split at q3
   .next kvs k e1 e2 =>
    have rx3:=rx.imm (f3.imm h2);cases rx3;refine eQ (h3 a _ e1) fun vs ev r=>?_;obtain⟨b,rfl,eb⟩:=oV ry e2;have m:Imm H3 (upd H3 a (.dT (tV vs k v))):=Imm.mut ev rfl _;refine⟨a,_,rfl,DPut.t ev eb ((Paired.length r)▸q3.1),f.nx σ _ ρ _ q3.2 ((((s.imm (f1.imm h)).imm (f2.imm h1)).imm (f3.imm h2)).imm m) (h3.put ev rfl ⟨_,fQ,Paired.mapP (FP.putG r k rv3) fun _ _ z=>⟨z.1,z.2.imm m⟩⟩) (f1.trans (f2.trans (f3.trans (Fw.put e1 _ _))))⟩
   .exact q3.elim
  .exact q3.elim⟩⟩⟩⟩
@[irreducible] def cMax:GC:=fun ts C Q=>match ts with
 |[.int i,.int j]=>Q (.int (if j > i then j else i)) C
 |_=>False
@[irreducible] def cMin:GC:=fun ts C Q=>match ts with
 |[.int i,.int j]=>Q (.int (if j < i then j else i)) C
 |_=>False
def tP{K}:Cbi K (fun xs H Q=>∃i j,xs=[.int i,.int j]/\Q (.int (if j > i then j else i)) H) cMax:=fun xs ts H C Q R rs h q f=>by
 delta cMax at q
 split at q
 .obtain ⟨v1,v2,rfl,r1,r2⟩:=yB rs
  cases r1;cases r2
  exact⟨_,_,rfl,f _ H _ C q (.int _) h Fw.refl⟩
 .exact q.elim
def oP{K}:Cbi K (fun xs H Q=>∃i j,xs=[.int i,.int j]/\Q (.int (if j < i then j else i)) H) cMin:=fun xs ts H C Q R rs h q f=>by
 delta cMin at q
 split at q
 .obtain ⟨v1,v2,rfl,r1,r2⟩:=yB rs
  cases r1;cases r2
  exact⟨_,_,rfl,f _ H _ C q (.int _) h Fw.refl⟩
 .exact q.elim
@[irreducible] def fA:GC:=fun ts C Q=>match ts with
 |[.ref a]=>match C a with
  |some (.dK kvs)=>∀p,C p=none->Q (.ref p) (uQ C p (.dK kvs))
  |_=>False
 |_=>False
def lT{K}:Cbi K (fun xs H Q=>∃a kvs,xs=[.ref a]/\H a=some (.dK kvs)/\∀p,H p=none->Q (.ref p) (upd H p (.dK kvs))) fA:=fun xs ts H C Q R rs h q f=>by
 delta fA at q
 split at q
 .split at q
  .next kvs e =>
   obtain⟨v,rfl,r⟩:=iX rs;obtain⟨vs,ev,rv⟩:=(h _ _ e);cases r;exact⟨_,vs,rfl,ev,fun p hp=>f _ _ _ _ (q p (h.fresh hp)) (.ref p) (h.lay hp ⟨vs,fQ,Paired.mapP rv fun _ _ z=>⟨z.1,z.2.imm (Imm.new hp _)⟩⟩) (Fw.lay hp _ _)⟩
  .exact q.elim
 .exact q.elim
@[irreducible] def pA:PV->List PV->CH->K1->Prop:=fun x ts C Q=>match x,ts with
 |.ref a,[y]=>match C a,zW y with
  |some (.lst xs),some k=>match oY xs with
   |some ks=>Q (.int (tE k ks:Nat)) C
   |none=>False
  |_,_=>False
 |_,_=>False
def KH{K:Dl}:Cmt K VF pA:=fun x px xs ts H C Q R rx rs h q f=>by
 unfold pA at q
 split at q
 .split at q
  .next ys k e1 e2 =>
   split at q
   .next ks e3 =>
    obtain⟨v,rfl,r⟩:=iX rs;obtain⟨vs,ev,rv⟩:=h _ _ e1;cases rx;have ek:=vG r e2;subst ek;exact⟨_,ks,k,rfl,rfl,by rw[ev,pN rv e3],f _ H _ C q (.int _) h Fw.refl⟩
   .exact q.elim
  .exact q.elim
 .exact q.elim
@[irreducible] def qH:PV->List PV->CH->K1->Prop:=fun x ts C Q=>match x,ts with
 |.ref a,[.bl true]=>match C a with
  |some (.lst xs)=>∃(bs:List Bool)(j:Nat),xs=bs.map PV.bl/\bs[j]?=some true/\(∀m,m < j->bs[m]?=some false)/\Q (.int (j:Nat)) C
  |_=>False
 |_,_=>False
theorem sC{K:Dl}{H:Hp}:∀{bs:List Bool}{vs:List V},Reps K H vs (bs.map PV.bl)->vs=bs.map V.bl
 |[],_,r=>by cases r;rfl
 |b::bs,_,r=>by
  cases r with
  |cons h r=>cases h;rw[sC r];rfl
def Zo{K:Dl}:Cmt K ZV qH:=fun x px xs ts H C Q R rx rs h q f=>by
 unfold qH at q
 split at q
 .split at q
  .next ys e1 =>
   obtain⟨bs,j,rfl,h1,h2,q⟩:=q;obtain⟨v,rfl,r⟩:=iX rs;obtain⟨vs,ev,rv⟩:=h _ _ e1;cases rx;cases r;exact⟨_,bs,j,rfl,rfl,by rw[ev,sC rv],h1,h2,f _ H _ C q (.int _) h Fw.refl⟩
  .exact q.elim
 .exact q.elim
@[irreducible] def cEqT(k:Bool->Bool):R2C:=fun x y C Q=>match iY x,iY y with
 |some ks,some js=>Q (.bl (k (decide (ks=js)))) C
 |_,_=>False
def cop_eqT{K:Dl}:Cop K (fun x y H Q=>∃(a b:Addr)(ks js:List Key),x=.ref a/\y=.ref b/\H a=some (.tup (ks.map kV))/\H b=some (.tup (js.map kV))/\Q (.bl (decide (ks=js))) H) (cEqT id):=fun x y px py H C Q R rx ry h q f=>by
 unfold cEqT at q
 split at q
 .next ks js e1 e2 =>
  obtain⟨a,rfl,ha⟩:=oV rx e1;obtain⟨b,rfl,hb⟩:=oV ry e2;exact⟨a,b,ks,js,rfl,rfl,ha,hb,f _ H _ C q (.bl _) h Fw.refl⟩
 .exact q.elim
def vT:PV->Option V
 |.non=>some .non
 |.bl b=>some (.bl b)
 |.int i=>some (.int i)
 |.str x=>some (.str x)
 |_=>none
def kT{K}(r:Rep K H v t)(e:vT t=some w):v=w/\bM w=true:=by
 cases r<;>cases e<;>exact⟨rfl,rfl⟩
def lG:List PV->Option (List V)
 |[]=>some []
 |t::r=>match vT t,lG r with
  |some v,some vs=>some (v::vs)
  |_,_=>none
def Zj{K}(r:Reps K H vs ts)(e:lG ts=some ws):vs=ws/\ws.all bM=true:=by
 induction ts generalizing vs ws with
 |nil=>cases r;cases e;exact⟨rfl,rfl⟩
 |cons t ts ih =>
  cases r with
  |cons h r =>
   unfold lG at e
   split at e
   .next v us e1 e2 =>
    cases e;obtain⟨rfl,f1⟩:=kT h e1;obtain⟨rfl,f2⟩:=ih r e2;exact⟨rfl,by rw[Cq,f1,f2];rfl⟩
   .cases e
def seqP(C:CH):PV->Option (List PV)
 |.tup xs=>some xs
 |.kt xs=>some xs
 |.ref a=>match C a with
  |some (.lst xs)=>some xs
  |_=>none
 |_=>none
@[irreducible] def KU(neg:Bool):R2C:=fun x y C Q=>match seqP C y,vT x with
 |some ts,some v=>match lG ts with
  |some vs=>Q (.bl (if neg then !inV v vs else inV v vs)) C
  |none=>False
 |_,_=>False
def eF{K}: Cop K (rIn K neg) (KU neg):=fun x y px py H C Q R rx ry h q f=>by
 delta KU at q
 split at q
 .next ts v e1 e2 =>
  split at q
  .next vs e3 =>
   obtain⟨rfl,fx⟩:=kT rx e2
   have key:∃p ws,y=.ref p/\(SqL K H p ws\/SqT K H p ws)/\Reps K H ws ts:=by
    cases ry<;>try (cases e1)
    .next a =>
     delta seqP at e1
     dsimp only at e1
     split at e1
     .next xs e =>
      cases e1;exact eQ (h _ _ e) fun us eu ru=>⟨a,us,rfl,.inl (SqL.of eu),ru⟩
     .cases e1
    .next p us hp r=>exact⟨p,us,rfl,.inr (SqT.of hp),r⟩
    .grind
   obtain⟨p,ws,rfl,hs,rs⟩:=key;obtain⟨rfl,fs⟩:=Zj rs e3;exact⟨p,ws,rfl,hs,fx,fs,f _ H _ C q (.bl _) h Fw.refl⟩
  .exact q.elim
 .exact q.elim
@[irreducible] def cRepL:R2C:=fun x y C Q=>match x,y with
 |.ref a,.int k=>match C a with
  |some (.lst xs)=>-(2 ^ 63)<=k/\k < 2 ^ 63/\xs.length * k.toNat<=sizeLine/\∀p,C p=none->Q (.ref p) (uQ C p (.lst (List.replicate k.toNat xs).flatten))
  |_=>False
 |.tup [z],.int k=>0<=k/\k < 64/\Q (.tup (List.replicate k.toNat z)) C
 |_,_=>False
end
def pH:List Key->Option (List Str)
 |[]=>some []
 |.inr x::r=>(pH r).map (x :: ·)
 |_=>none
def JU(e:pH ks=some zs):ks=zs.map Sum.inr:=by
 induction ks generalizing zs with
 |nil=>cases e;rfl
 |cons k ks ih =>
  rcases k with k | x
  .cases e
  .unfold pH at e
   cases z:pH ks with
   |none=>rw[z] at e;cases e
   |some ws=>rw[z] at e;cases e;rw[ih z];rfl
def tiK:List (List Key×PV)->Option (List (List Str×Int))
 |[]=>some []
 | (k,.int i)::r=>match pH k,tiK r with
  |some zs,some cs=>some ((zs,i)::cs)
  |_,_=>none
 |_=>none
def tiK_eq(e:tiK kvs=some cs):kvs=cs.map fun c=>(c.1.map Sum.inr,PV.int c.2):=by
 induction kvs generalizing cs with
 |nil=>cases e;rfl
 |cons p kvs ih =>
  unfold tiK at e
  split at e
  .lia
  .rename_i k i r h
   cases h
   split at e
   .next zs ds e1 e2=>cases e;rw[ih e2,JU e1];rfl
   .cases e
  .cases e
def aZ(c:List Str×Int):PV:=.tup [.tup (c.1.map PV.str),.int c.2]
def zP(cs:List (List Str×Int)):Nat->Nat->Bool:=fun i j=>ltP (cs.getD i ([],0)) (cs.getD j ([],0))
def jP(cs:List (List Str×Int)):List (List Str×Int):=(oZ (zP cs) (kas_sort cs.length)).toList.map fun i=>cs.getD i ([],0)
section
variable {K:Dl}{H:Hp}{X:Cx}
theorem uI:∀zs:List Str,Reps K H (zs.map V.str) (zs.map PV.str)
 |[]=>.nil
 |z::zs=>.cons (.str z) (uI zs)
def Qe d lt(r:Reps K H ys ts):Reps K H (jM lt ys) ((oZ lt (kas_sort ts.length)).toList.map fun i=>ts.getD i d):=by
 have hl:=r.len
 delta jM
 rw[hl]
 have mem:∀i∈(oZ lt (kas_sort ts.length)).toList,i < ys.length:=by
  intro i hi
  by_cases h:0 < ts.length
  .exact hl▸BR.mp ((jW lt ts.length h).mem_iff.mp hi)
  .have e:ts.length=0:=by lia
   rw[e,Vv] at hi;cases hi
 generalize (oZ lt (kas_sort ts.length)).toList=l at mem ⊢
 induction l with
 |nil=>exact .nil
 |cons i l ih=>exact .cons (r.getD i (mem i AF)) (ih fun j hj=>mem j (AK _ hj))
def Vj(cs:List (List Str×Int))(l:List Nat):(l.map fun i=>(cs.map aZ).getD i (aZ ([],0)))=(l.map fun i=>cs.getD i ([],0)).map aZ :=by simp_all
@[irreducible] def iP(co:TCE):TCE:=fun ρ C Q=>co ρ C fun x C1=>match x with
 |.ref a=>match C1 a with
  |some (.dT _)=>Q (.vw a) C1
  |_=>False
 |_=>False
def KI{apos cpos}(ho:CE X o co)(hbase:attributeBase o "items" X.env (eval o X.env)=eval o X.env:=by rfl)(hline:(apos.endLine==cpos.line)=true:=by rfl):CE X (.Call (.Attribute o "items" apos) [] [] cpos) (iP co) :=
 ⟨JE.weak ⟨V4 F.plainAttrs_dict F.slot_dict_items F.type_dict_items Kj ho.h.h hbase hline⟩ fun σ H Q zz=>pX zz fun ρ C R s h q f=> by
 delta iP at q
 exact⟨ρ,C,_,s,h,q,fun x H1 px C1 q1 rx h1 f1=>by
  split at q1
  .split at q1
   .next kvs e =>
    refine eQ (h1 _ _ e) fun vs ev r=>?_;cases rx;exact⟨.inr (.inr (.inl ⟨rfl,.inr ⟨vs,ev⟩⟩)),_,vs,rfl,rfl,ev,fun v hv=>f _ _ _ _ q1 (.vw fQ) (h1.new hv _) (f1.trans (Fw.new hv _))⟩
   .exact q1.elim
  .exact q1.elim⟩⟩
@[irreducible] def uD:GC:=fun ts C Q=>match ts with
 |[.vw a]=>match C a with
  |some (.dT kvs)=>match tiK kvs with
   |some cs=>cs.length < 64/\∀p,C p=none->Q (.ref p) (uQ C p (.lst ((jP cs).map aZ)))
   |none=>False
  |_=>False
 |_=>False
abbrev VE(X:Cx):List V->Hp->VK->Prop:=fun xs H Q=>∃v d kvs lt,xs=[.ref v]/\H v=some (.ext (dG v d))/\H d=some (.dT kvs)/\kvs.length < 64 /\
  ∀as H1,Same H H1->TPs H1 as kvs->(∀a∈as,H a=none)->(∀a,H a=none->H1 a≠none->a∈as)->Srt X H1 (List.map V.ref as) lt/\∀p,H1 p=none->Q (.ref p) (upd H1 p (.lst (jM lt (List.map V.ref as))))
def ti_at{cs:List (List Str×Int)}(r:TPs H as kvs)(e:FP K H kvs (cs.map fun c=>(c.1.map Sum.inr,PV.int c.2))):
  Reps K H (as.map V.ref) (cs.map aZ)/\∀i,i < as.length->bL H ((as.map V.ref).getD i .non) (cs.getD i ([],0)):=by
 induction r generalizing cs with
 |nil =>
  cases cs with
  |nil=>exact⟨.nil,fun i hi=>absurd hi (Bq i)⟩
  |cons c cs=>cases e
 |@cons a b k v as kvs h1 h2 r ih =>
  cases cs with
  |nil=>cases e
  |cons c cs =>
   cases e with
   |cons h e =>
    obtain⟨e1,e2⟩:=h;obtain⟨i1,i2⟩:=ih e;subst e1;cases e2;rw[X4] at h2;refine⟨.cons (.tup h1 (.cons (.tup h2 (uI c.1)) (.cons (.int _) .nil))) i1,fun i hi=>?_⟩
    cases i with
    |zero=>exact⟨a,b,rfl,h1,h2⟩
    |succ i=>exact i2 i (B2 hi)
def Q8(hu:X.A.units+2 < cLine):Cbi X.K (VE X) uD:=fun xs ts H C Q R rs h q f=>by
 delta uD at q
 split at q
 .obtain ⟨v,rfl,r⟩:=iX rs
  split at q
  .next kvs e =>
   split at q
   .next cs e2 =>
    have ex:=tiK_eq e2;subst ex;obtain⟨vs,ev,rv⟩:=(h _ _ e)
    cases r with
    |vw hv =>
     have hl:vs.length=cs.length:=by rw[Paired.length rv,AB]
     refine⟨_,_,vs,zP cs,rfl,hv,ev,by rw[hl];exact q.1,fun as H1 sm pa fr on=>?_⟩;obtain⟨rr,pp⟩:=ti_at pa (Paired.mapP rv fun _ _ z=>⟨z.1,z.2.imm fun b v _ e=>sm b v e⟩);refine⟨qS hu _ (fun i hi=>pp i (by grind)),fun p hp=>?_⟩;have h1:=lB h sm;have ro:=Qe (aZ ([],0)) (zP cs) rr;rw[AB,Vj] at ro;exact f _ _ _ _ (q.2 p (h1.fresh hp)) (.ref p) (h1.lay hp ⟨_,fQ,ro.imm (Imm.new hp _)⟩) ((cP sm).trans (Fw.lay hp _ _))
   .exact q.elim
  .exact q.elim
 .exact q.elim
end
def Zu:List (TCE×TCE)->CSt->CH->(List (PV×PV)->CH->Prop)->Prop
 |[],_,C,Q=>Q [] C
 | (ck,cv)::r,ρ,C,Q=>ck ρ C fun x C1=>cv ρ C1 fun y C2=>Zu r ρ C2 fun ps C3=>Q ((x,y)::ps) C3
abbrev RPs(K:Dl)(H:Hp):List (V×V)->List (PV×PV)->Prop:=Paired fun p q=>Rep K H p.1 q.1/\Rep K H p.2 q.2
def liftP(K:Dl)(cs:List (TCE×TCE)):List (TE×TE):=cs.map fun p=>(kJ K (Rep K) p.1,kJ K (Rep K) p.2)
structure CPs(X:Cx)(pos:Pos)(keys:List (Option Expr))(values:List Expr)(cs:List (TCE×TCE)):Prop where
 h:PPs X pos keys values (liftP X.K cs)
def Js: CPs X pos [] [] []:=⟨pps_nil⟩
def lJ{cv}(hk:CE X k ck)(hv:CE X v cv)(hr:CPs X pos ks vs cs):CPs X pos (some k::ks) (v::vs) ((ck,cv)::cs):=⟨VQ hk.h.h hv.h.h hr.h⟩
def X0{K}: ∀{cs}{H}{C}{R}{Q},SRel K H σ ρ->HRel K H C->Zu cs ρ C R ->
  (∀vs H' ts C',R ts C'->RPs K H' vs ts->HRel K H' C'->Fw H C H' C'->Q vs H')->wO (liftP K cs) σ H Q:=by
 intro cs
 induction cs with
 |nil=>intro H C R Q s h q f;exact f [] H [] C q .nil h Fw.refl
 |cons p cs ih =>
  obtain⟨ck,cv⟩:=p;intro H C R Q s h q f;exact⟨ρ,C,_,s,h,q,fun x H1 px C1 q1 rx h1 f1=>⟨ρ,C1,_,s.imm (f1.imm h),h1,q1,fun y H2 py C2 q2 ry h2 f2=>ih ((s.imm (f1.imm h)).imm (f2.imm h1)) h2 q2 fun vs H3 ts C3 q3 r3 h3 f3=>f _ H3 _ C3 q3 (.cons ⟨(rx.imm (f2.imm h1)).imm (f3.imm h2),ry.imm (f3.imm h2)⟩ r3) h3 (f1.trans (f2.trans f3))⟩⟩
def prK:List (PV×PV)->Option (List (Key×PV))
 |[]=>some []
 | (x,y)::r=>match zW x,prK r with
  |some k,some ps=>some ((k,y)::ps)
  |_,_=>none
def prK_rep{K}(r:RPs K H vs ts)(e:prK ts=some ps):∃kvs,vs=kvs.map (fun kv=>(kV kv.1,kv.2))/\KP K H kvs ps:=by
 induction r generalizing ps with
 |nil=>cases e;exact⟨[],rfl,.nil⟩
 |@cons p q l1 l2 h r ih =>
  obtain⟨x,y⟩:=q;unfold prK at e
  split at e
  .next k ps' e1 e2 =>
   cases e;obtain⟨kvs,rfl,r2⟩:=ih e2;obtain⟨v1,v2⟩:=p;have ek:=vG h.1 e1;subst ek;exact⟨(k,v2)::kvs,rfl,.cons ⟨rfl,h.2⟩ r2⟩
  .cases e
def prT:List (PV×PV)->Option (List (List Key×PV))
 |[]=>some []
 | (x,y)::r=>match iY x,prT r with
  |some k,some ps=>some ((k,y)::ps)
  |_,_=>none
def FP.mergeG{K}(m:FP K H ws more):∀{vs}{kvs},FP K H vs kvs->FP K H (mG vs ws) (CL.mergeG kvs more):=by
 induction m with
 |nil=>intro vs kvs r;exact r
 |@cons p q l1 l2 h _ ih =>
  intro vs kvs r;show FP K H (mG (tV vs p.1 p.2) l1) (CL.mergeG (CL.putG kvs q.1 q.2) l2);rw[h.1];exact ih (FP.putG r q.1 h.2)
section
variable {X:Cx}{pos:Pos}{keys:List (Option Expr)}{values:List Expr}{cs:List (TCE×TCE)}
@[irreducible] def aP(p:Addr):List (PV×PV)->CH->K1->Prop:=fun ts C Q=>C p=some (.dK [])/\match prK ts with
 |some ps=>ps.length<=15/\Q (.ref p) (uQ C p (.dK (sU [] ps)))
 |none=>False
def cDisp(cs:List (TCE×TCE)):TCE:=fun ρ C Q=>∀p,C p=none->Zu cs ρ (uQ C p (.dK [])) fun ts C2=>aP p ts C2 Q
def Jv(h:CPs X pos keys values cs)(hall:keys.all (·.isSome)=true:=by rfl)(hl:keys.length=values.length:=by rfl)(h0:keys≠[]:=by exact fun z=>nomatch z)(h15:keys.length<=15:=by decide):CE X (.Dict keys values pos) (cDisp cs) :=
 ⟨JE.weak ⟨pe_disp h.h hall hl h0 h15⟩ fun σ H Q zz=>pX zz fun ρ C R s hh q f=> fun p hp=>by
  refine X0 (C:=uQ C p (.dK [])) (s.imm (Imm.new hp _)) (hh.lay hp ⟨[],fQ,.nil⟩) (q p (hh.fresh hp)) fun vs H2 ts C2 q2 r2 h2 f2=>?_;unfold aP at q2;obtain⟨e1,q2⟩:=q2
  split at q2
  .next ps e2 =>
   obtain⟨kvs,rfl,rk⟩:=prK_rep r2 e2;obtain⟨us,eu,ru⟩:=(h2 p _ e1);have z:us=[]:=by cases ru;rfl
   subst z;refine⟨eu,kvs,rfl,by exact(Paired.length rk)▸q2.1,?_⟩;exact f _ _ _ _ q2.2 (.ref p) (h2.put eu rfl ⟨_,fQ,Paired.mapP (KP.merge .nil rk) fun _ _ z=>⟨z.1,z.2.imm (Imm.mut eu rfl _)⟩⟩) ((Fw.lay hp _ _).trans (f2.trans (Fw.put e1 _ _)))
  .exact q2.elim⟩
@[irreducible] def cPutAllT(p:Addr):List (PV×PV)->CH->K1->Prop:=fun ts C Q=>C p=some (.dT [])/\match prT ts with
 |some ps=>ps.length<=15/\Q (.ref p) (uQ C p (.dT (mergeG [] ps)))
 |none=>False
end
def gE(hr:Room k A):A.units+2 < cLine:=by have:=hr.un;lia
def hu0_of{A:Around}{k:Nat}(hr:Room k A):A.units < cLine:=by have:=hr.un;omega
section
variable {C:CH}{p:Addr}{Q:K1}{x y v z:PV}
def W3(m:C p=some (.ins c dx fs))(e:fs.lookup f=some v)(q:Q v C):Zv c f (.ref p) C Q :=by simp_all[Zv]
def VJ{Q}(m:C p=some (.ins c dx fs))(h:fs.length < 1000)(q:Q (uQ C p (.ins c dx (iI f v fs)))):JC c f (.ref p) v C Q :=by simp_all[JC]
def qZ(m:C p=some (.ins c dx fs))(e:fs.lookup f=none):QA c f (.ref p) C:=by
 delta QA
 dsimp only;exact m▸⟨rfl,e⟩
def X7(m:C p=some (.dT kvs)):Ks (.ref p) C:=by
 delta Ks
 dsimp only;rw[m]
 trivial
def tix_s(m:C p=some (.dT kvs))(hk:iY y=some k)(hv:zK kvs k=some v)(q:Q v C):cTIx (.ref p) y C Q:=by
 delta cTIx
 dsimp only;rw[m,hk];dsimp only
 rwa [hv]
def Vl(m:C p=some (.dT kvs))(hk:iY y=some k)(hv:(zK kvs k).getD z=v)(q:Q v C):Jy (.ref p) y z C Q:=by
 delta Jy
 dsimp only;rw[m,hk];dsimp only
 rwa [hv]
def rD{Q}(m:C p=some (.dT kvs))(hk:iY y=some k)(h:kvs.length<=1000)(q:Q (uQ C p (.dT (putG kvs k v)))):nT (.ref p) y v C Q:=by
 delta nT
 dsimp only;exact m▸hk▸⟨A3 h (by decide),q⟩
def cJ(m:C p=some (.dK kvs))(hk:zW y=some k)(hv:iJ kvs k=some v)(q:Q v C):cDIx (.ref p) y C Q:=by
 delta cDIx
 dsimp only;rw[m,hk];show(match iJ kvs k with | some v=>Q v C | none=>False)
 rwa [hv]
def getD_g(m:C p=some (.dK kvs))(hk:zW y=some k)(hv:(iJ kvs k).getD z=v)(q:Q v C):JH (.ref p) y z C Q:=by
 delta JH
 dsimp only;rw[m,hk];show Q ((iJ kvs k).getD z) C
 rwa [hv]
def mV{Q}(m:C p=some (.dK kvs))(hk:zW y=some k)(h:kvs.length<=1000)(q:Q (uQ C p (.dK (vZ kvs k v)))):Xb (.ref p) y v C Q:=by
 delta Xb
 dsimp only;exact m▸hk▸⟨A3 h (by decide),q⟩
def isDk_g(m:C p=some (.dK kvs)):WK (.ref p) C:=by
 delta WK
 dsimp only;rw[m]
 trivial
def Jm(m:C p=some (.dK kvs))(q:∀p',C p'=none->Q (.ref p') (uQ C p' (.dK kvs))):fA [.ref p] C Q:=by
 delta fA
 dsimp only
 rwa [m]
def count_s{xs:List PV}{k:Key}{ks:List Key}(m:C p=some (.lst xs))(hk:zW y=some k)(hs:oY xs=some ks)(q:Q (.int (tE k ks:Nat)) C):pA (.ref p) [y] C Q:=by
 unfold pA;dsimp only;rw[m,hk];dsimp only;rw[hs];exact q
def tL{neg:Bool}(h1:seqP C y=some ts)(h2:vT x=some w)(h3:lG ts=some vs)(q:Q (.bl (if neg then !inV w vs else inV w vs)) C):KU neg x y C Q :=by simp_all[KU]
def nN(h:ce ρ C fun t C1=>match t with | .tup xs=>yG g u E xs ρ C1 | .kt xs=>yG g u E xs ρ C1 | _=>False):sT ce g u E ρ C:=by
 delta sT
 exact h
end
def cH(m:C p=some (.lst (cs.map yZ)))(h:cs.length < 64)(q:∀p',C p'=none->Q (.ref p') (uQ C p' (.lst ((xG cs).map yZ)))):eP [.ref p] C Q:=by
 delta eP
 dsimp only;rw[m];dsimp only;rw[lI];exact⟨h,q⟩
def W2(hv:ρ[i]?=some (some (.tup xs)))(h:yG g u E xs ρ C):sT (jY i) g u E ρ C:=by
 delta sT jY
 rwa [hv]
def xJ(h:x=.tup xs)(e:atI xs i=some v)(q:Q v C):cIx x (.int i) C Q:=by
 subst h;exact wX e q
def Qq(q:Q (.int (if j < i then j else i)) C):cMin [.int i,.int j] C Q:=by
 delta cMin
 exact q
def Qt(q:Q (.int (if j > i then j else i)) C):cMax [.int i,.int j] C Q:=by
 delta cMax
 exact q
def eC{xs:List PV}(h:k < xs.length):atI xs k=some xs[k] :=by grind[atI,ixN,lia,Int.toNat_natCast]
def gX{r:List PV}:atI (x::r) 0=some x:=eC (Nat.zero_lt_succ _)
def if_i(h:t ρ C fun b C1=>if b=true then ca ρ C1 Q else cb ρ C1 Q):cIf t ca cb ρ C Q:=h
def Vm(hv:ρ[i]?=some (some x))(q:Q (k (bU x)) C):rT (cOp (cIs k) (jY i) (cC .non)) ρ C Q:=by
 show jY i ρ C fun x C1=>vN Q (.bl (k (bU x))) C1
 delta jY
 rwa [hv]
def uJ(I:List PV->CSt->CH->Prop)(step:∀x r ρ C,I (x::r) ρ C->∀L:CSt->CH->Prop,(∀ρ' C',I r ρ' C'->L ρ' C')->g x ρ C fun ρ1 C1=>u (E.lp L) ρ1 C1)(fin:∀ρ C,I [] ρ C->E.nx ρ C):
  ∀xs ρ C,I xs ρ C->yG g u E xs ρ C:=by
 intro xs
 induction xs with
 |nil=>intro ρ C h;exact fin ρ C h
 |cons x r ih=>intro ρ C h;exact step x r ρ C h _ ih
def rW(I:List PV->List PV->CH->Prop)(step:∀x r acc C,I (x::r) acc C->∀L:K1,(∀y C2,acc.length < sizeLine/\I r (acc++[y]) C2->L y C2)->c (some x::ρ) C L)(fin:∀acc C,I [] acc C->∀p,C p=none->Q (.ref p) (uQ C p (.lst acc))):
  ∀xs acc C,I xs acc C->dJ mC c ρ Q xs acc C:=by
 intro xs
 induction xs with
 |nil=>intro acc C h;exact fin acc C h
 |cons x r ih =>
  intro acc C h;exact step x r acc C h _ fun y C2 z=>⟨z.1,ih _ _ z.2⟩
def KG(I:List PV->List PV->CH->Prop)(hS:∀r acc C,I r acc C->S C)(step:∀x r acc C,I (x::r) acc C->∀L:K1,(∀y C2,acc.length < sizeLine/\I r (acc++[y]) C2->L y C2)->c (some x::ρ) C L)(fin:∀acc C,I [] acc C->∀p,C p=none->Q (.ref p) (uQ C p (.lst acc))):
  ∀xs acc C,I xs acc C->zB S mC c ρ Q xs acc C:=by
 intro xs
 induction xs with
 |nil=>intro acc C h;exact⟨hS _ _ _ h,fin acc C h⟩
 |cons x r ih =>
  intro acc C h;exact⟨hS _ _ _ h,step x r acc C h _ fun y C2 z=>⟨z.1,ih _ _ z.2⟩⟩
def WO(g:Gr C C1)(hp:C p=none)o:Gr C (uQ C1 p o):=fun b u e=>by
 rw[wQ (fun z=>by subst z;rw[hp] at e;cases e)];exact g b u e
def gr_none(g:Gr C C')(h:C' p=none):C p=none:=by
 cases e:C p with
 |none=>rfl
 |some o=>rw[g p o e] at h;cases h
def dU kvs k v:(vZ kvs k v).length<=kvs.length+1 :=by grind[vZ,List.length_map,List.length_append,List.length_singleton]
def yP kvs k v k':iJ (vZ kvs k v) k'=if k'=k then some v else iJ kvs k':=by
 have up:∀l:List (Key×PV),(l.any fun kv=>decide (kv.1=k))=true->iJ (l.map fun kv=>if kv.1=k then (kv.1,v) else kv) k'=if k'=k then some v else iJ l k':=by
  intro l
  induction l with
  |nil=>intro h;cases h
  |cons x l ih =>
   intro h
   delta iJ
   rw[A8,BO,BO]
   by_cases e:x.1=k
   .rw [AW e]
    by_cases e2:k'=k
    .rw [AW e2,Ai (e.trans e2.symm)];rfl
    .rw [AX e2]
     rw[AQ (fun z=>e2 (z.symm.trans e))]
     by_cases h3:(l.any fun kv=>decide (kv.1=k))=true
     .have:=ih h3
      rwa [AX e2] at this
     .have:(l.map fun kv=>if kv.1=k then (kv.1,v) else kv)=l :=(Cy fun y hy=>AX ((fun y hy z=>h3 (List.any_eq_true.2 ⟨y,hy,Ai z⟩)) y hy)).trans (List.map_id l)
      rw[this]
   .rw [AX e]
    have h3:(l.any fun kv=>decide (kv.1=k))=true:=by
     rwa [BJ,AQ e,Bool.false_or] at h
    have:=ih h3
    by_cases e3:x.1=k'
    .rw [Ai e3]
     have e2:¬ k'=k:=fun z=>e (e3.trans z);rw[AX e2]
    .rwa [AQ e3]
 delta vZ
 by_cases b:(kvs.any fun kv=>decide (kv.1=k))=true
 .rw [AW b];exact up kvs b
 .rw [AX b]
  induction kvs with
  |nil =>
   delta iJ
   rw[Cu,BO]
   by_cases e2:k'=k
   .rw [AW e2,Ai e2.symm];rfl
   .rw [AX e2,AQ (fun z=>e2 z.symm)]
  |cons x l ih =>
   rw[BJ] at b;have e:¬ x.1=k:=fun e=>b (by rw[Ai e];rfl);rw[AQ e,Bool.false_or] at b;have:=ih b;unfold iJ at this ⊢;rw[Cp,BO,BO]
   by_cases e3:x.1=k'
   .rw [Ai e3]
    rw[AX (fun z=>e (e3.trans z))]
   .rwa [AQ e3]
def ExS(S:List Addr)(C C':CH):Prop:=∀b o,b∉S->C b=some o->C' b=some o
def ExS.refl: ExS S C C:=fun _ _ _ h=>h
theorem ExS.trans(h:ExS S C C1)(h':ExS S C1 C2):ExS S C C2:=fun b o n e=>h' b o n (h b o n e)
def ExS.mono(h:ExS S C C1)(s:∀b∈S,b∈S'):ExS S' C C1:=fun b o n e=>h b o (fun z=>n (s b z)) e
theorem ExS.at(h:ExS S C C1)(hp:p∈S)o:ExS S C (uQ C1 p o):=fun b u n e=>by
 rw[wQ (fun z=>n (by rwa [z]))];exact h b u n e
theorem ExS.put(h:ExS S C C1)(hp:C p=none)o:ExS S C (uQ C1 p o):=fun b u n e=>by
 rw[wQ (fun z=>by subst z;rw[hp] at e;cases e)];exact h b u n e
def ExS.none(g:ExS S C C')(n:p∉S)(h:C' p=none):C p=none:=by
 cases e:C p with
 |none=>rfl
 |some o=>rw[g p o n e] at h;cases h
end CL
namespace L2
open PySem PySem.Spec PyProof.Rows
def Xt(K:Dl)(n:Nat)(wi:TI)(tc:TT)(te:TE):TE:=fun σ H Q=>wi σ H fun J H1=>∀D,H1 D=none->∃W:Nat->Nat->List V->Hp->Prop,(∃m,W 0 m [] (upd H1 D (.lst [])))/\∀i m ys H,W i m ys H ->
 (J.stop i H/\Q (.ref D) H)\/(J.go i H/\∀x H',J.yld i H x H'->∃a vs,x=.ref a/\SqT K H' a vs/\vs.length=n/\tc (vs.map some++σ) H' fun b H2=>
  if b=true then te (vs.map some++σ) H2 fun y H3=>H3 D=some (.lst ys)/\ys.length < sizeLine/\∃m',m' < m/\W (i+1) m' (ys++[y]) (upd H3 D (.lst (ys++[y])))
  else ∃m',m' < m/\W (i+1) m' ys H2)
section
variable {X:Cx}
def V1{elt iter tg:Expr}{xs:List Str}{pos:Pos}{ifs:List Expr}{scope:Scope}{cl:List (Str×Addr)}{wi:TI}{tc:TT}{te:TE}{g:TG}(hc:X.calm=true)(K:tK X xs scope cl)(hg:∀fp C s₂ H₂,PG (cxN X xs scope cl fp C s₂ H₂) tg g)(hG:∀ws vs a σ H Q,ws.length=xs.length->SqT X.K H a vs->vs.length=xs.length->Q (vs.map some++σ) H->g (.ref a) (ws++σ) H Q)(hi:PI X tg iter wi)(ht:∀fp C s₂ H₂,K2 (cxN X xs scope cl fp C s₂ H₂) ifs tc)(he:∀fp C s₂ H₂,PE (cxN X xs scope cl fp C s₂ H₂) elt te)(hs:∀v,foldedSetIterable iter X.env v=pure v:=by intro _;rfl):PE X (.ListComp elt [⟨tg,iter,ifs,0⟩] scope pos) (Xt X.K xs.length wi tc te):=by
 intro pins s σ H Q I h;rw[eval_ListComp];refine CV (use:=none) rfl hs K.clos K.kind K.names (thn (hi pins s σ H _ I h) fun xv s₁ h₁=>thn h₁ fun itv s₂ h₂=>?_);obtain⟨it,fp,tn,J,H₂,e,I₂,T,st₂,f₂,R⟩:=h₂;subst e;refine pY (Tk:=fun x H vs=>∃a,x=.ref a/\SqT X.K H a vs) hc K hg ht he (fun ws vs x H Q l ⟨a,e,sq⟩ l' q=>by rw[e];exact hG ws vs a σ H Q l sq l' q) I₂ T st₂ f₂ (fun D hD=>let ⟨W,w0,tu⟩:=R D hD;⟨W,w0,fun i m ys H w=>(tu i m ys H w).imp id fun zz=>sM zz fun g st=> ⟨g,fun x H' y=>let ⟨a,vs,e,sq,l,q⟩:=st x H' y;⟨vs,⟨a,e,sq⟩,l,q⟩⟩⟩) ?_
 intro D C H s4 m hn hCL hC0 hCc hCsz I4 q;refine⟨m,hn,fun h' hsb=>⟨.ref D,H,?_,rfl,q⟩⟩;refine I4.turned (it:=C) (t':=s4.toks) (fun b o hb e=>(hsb.2 b hb).trans e) hC0 hCL (.inr (Aa I₂.sz hCsz)) hCc fun p hp z=>?_;exact absurd (AS (AG (I₂.pin p hp).1) (by simp_all)) (BI _)
end
end L2
namespace CL
open PySem PySem.Spec L2 PySem.W
open PyProof.Rows hiding St
def jU(n:Nat)(t:TCT)(c:TCE)(ρ:CSt)(Q:K1):List PV->List PV->CH->Prop
 |[],acc,C=>∀p,C p=none->Q (.ref p) (uQ C p (.lst acc))
 |x::r,acc,C=>∃ts,x=.tup ts/\ts.length=n/\t (ts.map some++ρ) C fun b C1=>if b=true then c (ts.map some++ρ) C1 fun y C2=>acc.length < sizeLine/\jU n t c ρ Q r (acc++[y]) C2 else jU n t c ρ Q r acc C1
theorem yO{K}: ∀{vs}{ts},Reps K H vs ts->SRel K H (vs.map some) (ts.map some)
 |_,_,.nil=>.nil
 |_,_,.cons h r=>.cons h (yO r)
def SRel.app{K}(h:SRel K H σ ρ)(h':SRel K H τ π):SRel K H (σ++τ) (ρ++π):=by
 induction h with
 |nil=>exact h'
 |cons a _ ih=>exact .cons a ih
def Yo{K}{Q:VK}(j:Xf K H J ps)(s:SRel K H σ ρ)(h:HRel K H C)(q:jU n t c ρ R ps [] C)(h0:HRel K H0 C0)(f0:Fw H0 C0 H C)(f:∀v H' p C',R p C'->Rep K H' v p->HRel K H' C'->Fw H0 C0 H' C'->Q v H')(hD:H D=none):
  ∃W:Nat->Nat->List V->Hp->Prop,(∃m,W 0 m [] (upd H D (.lst [])))/\∀i m ys H,W i m ys H ->
   (J.stop i H/\Q (.ref D) H)\/(J.go i H/\∀x H',J.yld i H x H'->∃a vs,x=.ref a/\SqT K H' a vs/\vs.length=n/\kJ K vF t (vs.map some++σ) H' fun b H2=>
    if b=true then kJ K (Rep K) c (vs.map some++σ) H2 fun y H3=>H3 D=some (.lst ys)/\ys.length < sizeLine/\∃m',m' < m/\W (i+1) m' (ys++[y]) (upd H3 D (.lst (ys++[y])))
    else ∃m',m' < m/\W (i+1) m' ys H2):=by
 refine⟨fun i m ys H'=>m=ps.length - i/\i<=ps.length/\∃acc C',H' D=some (.lst ys)/\C' D=none/\Reps K H' ys acc/\HRel K H' C'/\Fw H C H' C'/\jU n t c ρ R (ps.drop i) acc C',
  ⟨ps.length,rfl,Ae _,[],C,fQ,h.fresh hD,.nil,h.new hD _,Fw.new hD _,q⟩,?_⟩
 rintro i m ys H1 ⟨rfl,hi,acc,C1,e1,n1,r1,h1,f1,q1⟩;have k1:=f1.imm h
 by_cases hlt:i < ps.length
 .refine .inr ⟨j.go i H1 hlt k1,fun x H2 y=>?_⟩
  obtain⟨rfl,y⟩:=j.yl i H1 x H2 k1 y;have rx:=y _ (AO hlt);rw[Az hlt] at q1;refine aJ q1 fun ts ets hn q1=>?_;rw[ets] at rx
  obtain⟨a5,vs5,z5,sq5,rs5⟩:∃a vs,x=.ref a/\SqT K H2 a vs/\Reps K H2 vs ts:=by
   cases rx with
   |tup e r=>exact⟨_,_,rfl,SqT.of e,r⟩
  refine⟨a5,vs5,z5,sq5,rs5.len.trans hn,⟨ts.map some++ρ,C1,_,(yO rs5).app (s.imm k1),h1,q1,fun b H3 b' C3 q3 e h3 f3=>?_⟩⟩;cases e;obtain⟨n3,e3⟩:=f3 D (by rw[n1];rfl) (by lia);rw[e1] at e3;rw[n1] at n3;have k3:=f3.imm h1
  cases b with
  |true =>
   refine⟨ts.map some++ρ,C3,_,(yO (rs5.imm k3)).app ((s.imm k1).imm k3),h3,q3,fun v H4 p C4 q4 r4 h4 f4=>sM (f4 D (by rw[n3];rfl) (by lia)) fun n4 e4=>?_⟩;rw[e3] at e4;rw[n3] at n4;have m4:Imm H4 (upd H4 D (.lst (ys++[v]))):=Imm.mut e4 rfl _;refine⟨e4,by rw[r1.len];exact q4.1,ps.length - (i+1),by lia,rfl,hlt,acc++[p],C4,fQ,n4,?_,?_,?_,q4.2⟩
   .exact (((r1.imm k3).imm (f4.imm h3)).append (.cons r4 .nil)).imm m4
   .intro a o ca
    have ne:a≠D:=fun z=>by subst z;rw[n4] at ca;cases ca
    exact(h4 a o ca).imm m4 (mQ ne)
   .intro a ca na
    have ne:a≠D:=fun z=>na (z▸hD);exact sM ((f1.trans (f3.trans f4)) a ca na) fun x1 x2=>⟨x1,(mQ ne).trans x2⟩
  |false =>
   exact⟨ps.length - (i+1),by lia,rfl,hlt,acc,C3,e3,n3,r1.imm k3,h3,f1.trans f3,q3⟩
 .have e:i=ps.length:=by lia
  subst e;rw[By] at q1;refine .inl ⟨j.st H1 k1,f (.ref D) H1 (.ref D) _ (q1 D n1) (.ref D) ?_ ?_⟩
  .intro a o ca
   by_cases z:a=D
   .subst z;rw[xQ] at ca;cases ca;exact⟨ys,e1,r1⟩
   .rw [wQ z] at ca;exact h1 a o ca
  .intro a ca na
   obtain⟨x1,x2⟩:=f0 a ca na;have na':H a≠none:=by rwa [x2]
   obtain⟨y1,y2⟩:=f1 a (by rwa [x1]) na';exact⟨(wQ (show a≠D from fun z=>na' (z▸hD))).trans (y1.trans x1),y2.trans x2⟩
section
variable {X:Cx}{pos:Pos}
def cA(n:Nat)(ci:CSt->CH->(List PV->CH->Prop)->Prop)(t:TCT)(c:TCE):TCE:=fun ρ C Q=>ci ρ C fun ps C1=>jU n t c ρ Q ps [] C1
def gN(hi:CI X tg it wi ci){Q:VK}(h:kJ X.K (Rep X.K) (cA n ci t c) σ H Q):Xt X.K n wi (kJ X.K vF t) (kJ X.K (Rep X.K) c) σ H Q :=pX h fun ρ C R s h q f=>hi.w σ H ρ C _ _ s h q fun J H' ps C' q' j h' f' D hD=>Yo j (s.imm (f'.imm h)) h' q' h f' f hD
def GOk(K:Dl)(n:Nat)(g:TG):Prop:=∀(ws:St)(vs:List V)(a:Addr)(σ:St)(H:Hp)(Q:St->Hp->Prop),ws.length=n->SqT K H a vs->vs.length=n->Q (vs.map some++σ) H->g (.ref a) (ws++σ) H Q
def Yu
  (hc:X.calm=true)(K:∃cl,tK X xs scope cl)(hg:∀cl fp C s₂ H₂,tK X xs scope cl->PG (cxN X xs scope cl fp C s₂ H₂) tg g)(hG:GOk X.K xs.length g)(hi:CI X tg iter wi ci)(ht:∀cl fp C s₂ H₂,CF (cxN X xs scope cl fp C s₂ H₂) ifs t)(he:∀cl fp C s₂ H₂,CE (cxN X xs scope cl fp C s₂ H₂) elt c)(hs:∀v,foldedSetIterable iter X.env v=pure v:=by intro _;rfl):CE X (.ListComp elt [⟨tg,iter,ifs,0⟩] scope pos) (cA xs.length ci t c):=by
 obtain⟨cl,K⟩:=K;exact⟨JE.weak ⟨V1 hc K (fun fp C s₂ H₂=>hg cl fp C s₂ H₂ K) hG hi.j.h (fun fp C s₂ H₂=>(ht cl fp C s₂ H₂).h.h) (fun fp C s₂ H₂=>(he cl fp C s₂ H₂).h.h) hs⟩ fun _ _ _ h=>gN hi h⟩
abbrev g2(K:Dl):TG:=gTup K 2 (jT (yU 0) (jT (yU 1) gNil))
abbrev g3(K:Dl):TG:=gTup K 3 (jT (yU 0) (jT (yU 1) (jT (yU 2) gNil)))
def fN{α:Type}{l:List α}(h:l.length=1):∃a,l=[a]:=by
 cases l with
 |nil=>cases h
 |cons a l =>
  cases l with
  |nil=>exact⟨a,rfl⟩
  |cons b l=>cases h
def len2{α:Type}{l:List α}(h:l.length=2):∃a b,l=[a,b]:=by
 cases l with
 |nil=>cases h
 |cons a l =>
  obtain⟨b,rfl⟩:=fN (A4 h);exact⟨a,b,rfl⟩
def Wy{α:Type}{l:List α}(h:l.length=3):∃a b c,l=[a,b,c]:=by
 cases l with
 |nil=>cases h
 |cons a l =>
  obtain⟨b,c,rfl⟩:=len2 (A4 h);exact⟨a,b,c,rfl⟩
def gok2{K}:GOk K 2 (g2 K):=by
 intro ws vs a σ H Q h1 h2 h3 q;obtain⟨w0,w1,rfl⟩:=len2 h1;obtain⟨v0,v1,rfl⟩:=len2 h3;exact⟨a,[v0,v1],rfl,h2,rfl,v0,[v1],rfl,v1,[],rfl,rfl,q⟩
def gok3{K:Dl}:GOk K 3 (g3 K):=by
 intro ws vs a σ H Q h1 h2 h3 q;obtain⟨w0,w1,w2,rfl⟩:=Wy h1;obtain⟨v0,v1,v2,rfl⟩:=Wy h3;exact⟨a,[v0,v1,v2],rfl,h2,rfl,v0,[v1,v2],rfl,v1,[v2],rfl,v2,[],rfl,rfl,q⟩
def pg2(hc:X.calm=true)(hN:(x::y::X.N).Nodup)(K:tK X [x,y] scope cl):
  PG (cxN X [x,y] scope cl fp C s₂ H₂) (.Tuple [.Name x p1,.Name y p2] k p) (g2 X.K) :=
 have l1:=BH (K.hx x (by simp));have l2:=BH (K.hx y (by simp))
 XH hc (jG (gY hN rfl (.inl l1) (.inr l1)) (jG (gY hN rfl (.inl l2) (.inr l2)) mO))
def pg3{x y z:Str}{scope:Scope}{cl:List (Str×Addr)}{fp:List Addr}{C:Addr}{s₂:Shared}{H₂:Hp}{p1 p2 p3 p:Pos}{k:Nat}(hc:X.calm=true)(hN:(x::y::z::X.N).Nodup)(K:tK X [x,y,z] scope cl):
  PG (cxN X [x,y,z] scope cl fp C s₂ H₂) (.Tuple [.Name x p1,.Name y p2,.Name z p3] k p) (g3 X.K) :=
 have l1:=BH (env:=X.env) (K.hx x (by simp));have l2:=BH (env:=X.env) (K.hx y (by simp));have l3:=BH (env:=X.env) (K.hx z (by simp))
 XH (X:=cxN X [x,y,z] scope cl fp C s₂ H₂) hc (jG (gY (i:=0) hN rfl (.inl l1) (.inr l1)) (jG (gY (i:=1) hN rfl (.inl l2) (.inr l2)) (jG (gY (i:=2) hN rfl (.inl l3) (.inr l3)) mO)))
def Q7
  (hc:X.calm=true)(hN:(x::y::X.N).Nodup)(K:∃cl,tK X [x,y] scope cl)(hi:CI X (.Tuple [.Name x p1,.Name y p2] k p) iter wi ci)(ht:∀cl fp C s₂ H₂,CF (cxN X [x,y] scope cl fp C s₂ H₂) ifs t)(he:∀cl fp C s₂ H₂,CE (cxN X [x,y] scope cl fp C s₂ H₂) elt c)(hs:∀v,foldedSetIterable iter X.env v=pure v:=by intro _;rfl):CE X (.ListComp elt [⟨.Tuple [.Name x p1,.Name y p2] k p,iter,ifs,0⟩] scope pos) (cA 2 ci t c) :=
 Yu hc K (fun _ _ _ _ _ K'=>pg2 hc hN K') gok2 hi ht he hs
end
end CL
namespace L2
open PySem PySem.W PySem.Spec PyProof.Rows
abbrev Path:=List (List Key)
end L2
namespace CL
open PySem PySem.Spec L2 PySem.W
open PyProof.Rows hiding St
section
variable {X:Cx}{a b c e o i f value:Expr}{es:List Expr}{pos pos':Pos}
@[irreducible] def cInt:GC:=fun ts C Q=>match ts with
 |[.bl b]=>Q (.int (if b then 1 else 0)) C
 |[.int i]=>Q (.int i) C
 |_=>False
def eB{K}:Cbi K (fun xs H Q=>(∃i,xs=[.int i]/\Q (.int i) H)\/∃k,xs=[.bl k]/\Q (.int (if k then 1 else 0)) H) cInt:=fun xs ts H C Q R rs h q f=>by
 delta cInt at q
 split at q
 .obtain ⟨v,rfl,r⟩:=iX rs
  cases r;exact .inr ⟨_,rfl,f _ H _ C q (.int _) h Fw.refl⟩
 .obtain ⟨v,rfl,r⟩:=iX rs
  cases r;exact .inl ⟨_,rfl,f _ H _ C q (.int _) h Fw.refl⟩
 .exact q.elim
@[irreducible] def cCatT:R2C:=fun x y C Q=>match x,y with
 |.tup xs,.tup ys=>xs.length+ys.length<=sizeLine/\Q (.tup (xs++ys)) C
 |_,_=>False
@[irreducible] def zH:PV->List PV->CH->K1->Prop:=fun x ts C Q=>match x,ts with
 |.ref a,[.ref b]=>match C a,C b with
  |some (.lst xs),some (.lst ys)=>xs.length+ys.length<=sizeLine/\Q .non (uQ C a (.lst (xs++ys)))
  |_,_=>False
 |_,_=>False
def Zp{K}:Cmt K ZW zH:=fun x px xs ps H C Q R rx rs h q f=>by
 delta zH at q
 split at q
 .split at q
  .next ys zs e1 e2 =>
   refine eQ (h _ _ e1) fun vs ev rv=>eQ (h _ _ e2) fun ws ew rw'=>?_;obtain⟨v,rfl,r⟩:=iX rs;cases rx;cases r
   exact⟨_,_,vs,ws,rfl,rfl,ev,ew,by exact rv.len▸rw'.len▸q.1,f _ _ _ _ q.2 .non (h.put ev rfl ⟨_,fQ,(rv.append rw').imm (Imm.mut ev rfl _)⟩) (Fw.put e1 _ _)⟩
  .exact q.elim
 .exact q.elim
def cBM0(cr:PV->List PV->CH->K1->Prop)(co:TCE):TCE:=fun ρ C Q=>co ρ C fun x C1=>isL x C1/\cr x [] C1 Q
def Yw{id}{apos cpos}(pa:PlainAttrs "list")(slot:Slot "list" name id)(hty:typeOf (.builtin id)=pure (.type "method_descriptor"))(hm:MtR X id r)(hr:Cmt X.K r cr)(ho:CE X o co)(hbase:attributeBase o name X.env (eval o X.env)=eval o X.env:=by rfl)(hline:(apos.endLine==cpos.line)=true:=by rfl):CE X (.Call (.Attribute o name apos) [] [] cpos) (cBM0 cr co):=⟨JE.weak ⟨V4 pa slot hty hm ho.h.h hbase hline⟩ fun σ H Q zz=>pX zz fun ρ C R s h q f=>
 ⟨ρ,C,_,s,h,q,fun x H1 px C1 q1 rx h1 f1=>⟨WH q1.1 rx h1,hr x px [] [] H1 C1 Q R rx .nil h1 q1.2 fun v H' t C' q' r' h' f'=>f v H' t C' q' r' h' (f1.trans f')⟩⟩⟩
@[irreducible] def bD:PV->List PV->CH->K1->Prop:=fun x ts C Q=>match x,ts with
 |.ref a,[]=>match C a with
  |some (.lst xs)=>Q .non (uQ C a (.lst xs.reverse))
  |_=>False
 |_,_=>False
def Q5{K}:Cmt K eI bD:=fun x px xs ps H C Q R rx rs h q f=>by
 delta bD at q
 split at q
 .split at q
  .next ys e1 =>
   obtain⟨vs,ev,rv⟩:=(h _ _ e1);cases rs;cases rx;exact⟨_,vs,rfl,rfl,ev,f _ _ _ _ q .non (h.put ev rfl ⟨_,fQ,rv.reverse.imm (Imm.mut ev rfl _)⟩) (Fw.put e1 _ _)⟩
  .exact q.elim
 .exact q.elim
@[irreducible] def cClear:PV->List PV->CH->K1->Prop:=fun x ts C Q=>match x,ts with
 |.ref a,[]=>match C a with
  |some (.lst xs)=>Q .non (uQ C a (.lst []))
  |_=>False
 |_,_=>False
@[irreducible] def cSlT:PV->Option Int->Option Int->CH->K1->Prop:=fun x lo hi C Q=>match x with
 |.tup xs=>¬ (HT.sIx xs.length 0 lo=0/\HT.sIx xs.length xs.length hi=xs.length)/\Q (.tup (zY xs lo hi)) C
 |_=>False
def pksOf:List PV->Option Path
 |[]=>some []
 |t::r=>match iY t,pksOf r with
  |some k,some ks=>some (k::ks)
  |_,_=>none
def J8:PV->Option Path
 |.tup ts=>pksOf ts
 |_=>none
@[irreducible] def cPIx:R2C:=fun x y C Q=>match x with
 |.ref a=>match C a,J8 y with
  |some (.dP kvs),some k=>match zK kvs k with
   |some v=>Q v C
   |none=>False
  |_,_=>False
 |_=>False
@[irreducible] def cPIn:R2C:=fun y x C Q=>match x with
 |.ref a=>match C a,J8 y with
  |some (.dP kvs),some k=>Q (.bl (zK kvs k).isSome) C
  |_,_=>False
 |_=>False
@[irreducible] def cPutQ:PV->PV->PV->CH->(CH->Prop)->Prop:=fun x y v C Q=>match x with
 |.ref a=>match C a,J8 y with
  |some (.dP kvs),some k=>kvs.length < sizeLine/\Q (uQ C a (.dP (putG kvs k v)))
  |_,_=>False
 |_=>False
end
inductive Pl:Nat->PV->Prop
 |non {d:Nat}:Pl d .non
 |bl {d:Nat} (b:Bool):Pl d (.bl b)
 |int {d:Nat} (i:Int):Pl d (.int i)
 |str {d:Nat} (x:Str):Pl d (.str x)
 |tup {d:Nat} {ts:List PV} (h:∀t∈ts,Pl d t):Pl (d+1) (.tup ts)
section
variable {X:Cx}
@[irreducible] def cNeD(d:Nat):R2C:=fun x y C Q=>match x,y with
 |.ref a,.ref b=>match C a,C b with
  |some (.lst xs),some (.lst ys)=>xs=ys/\(∀t∈xs,Pl d t)/\Q (.bl false) C
  |_,_=>False
 |_,_=>False
def vM:List PV->Option (List Str)
 |[]=>some []
 |.str x::r=>(vM r).map (x :: ·)
 |_=>none
def JP:List PV->Option (List (List Str×Int))
 |[]=>some []
 |.tup [.tup ks,.int i]::r=>match vM ks,JP r with
  |some zs,some cs=>some ((zs,i)::cs)
  |_,_=>none
 |_=>none
def bI(e:vM ts=some zs):ts=zs.map PV.str:=by
 induction ts generalizing zs with
 |nil=>cases e;rfl
 |cons t ts ih =>
  unfold vM at e
  split at e
  .lia
  .rename_i x r h
   cases h
   cases z:vM ts with
   |none=>rw[z] at e;cases e
   |some ds=>rw[z] at e;cases e;rw[ih z];rfl
  .cases e
theorem iR:∀zs:List Str,vM (zs.map PV.str)=some zs
 |[]=>rfl
 |z::zs=>by
  show(vM (zs.map PV.str)).map _=_;rw[iR zs];rfl
def tiOf_eq{ts:List PV}{cs:List (List Str×Int)}(e:JP ts=some cs):ts=cs.map aZ:=by
 induction ts generalizing cs with
 |nil=>cases e;rfl
 |cons t ts ih =>
  unfold JP at e
  split at e
  .rename_i h;cases h
  .rename_i ks i r h
   cases h
   split at e
   .next zs cs' e1 e2 =>
    cases e;rw[ih e2,bI e1];rfl
   .cases e
  .cases e
theorem wI:∀cs:List (List Str×Int),JP (cs.map aZ)=some cs
 |[]=>rfl
 |c::cs=>by
  show(match vM (c.1.map PV.str),JP (cs.map aZ) with | some zs,some cs=>some ((zs,c.2)::cs) | _,_=>none)=_;rw[iR,wI cs]
def JR{K:Dl}{H:Hp}{zs:List Str}{vs:List V}(r:Reps K H vs (zs.map PV.str)):vs=zs.map V.str:=by
 induction zs generalizing vs with
 |nil=>cases r;rfl
 |cons z zs ih =>
  cases r with
  |cons h r=>cases h;rw[ih r];rfl
def tp_at{K:Dl}{H:Hp}{ys:List V}{cs:List (List Str×Int)}(r:Reps K H ys (cs.map aZ)):∀i,i < ys.length->bL H (ys.getD i .non) (cs.getD i ([],0)):=by
 induction cs generalizing ys with
 |nil=>cases r;intro i hi;exact absurd hi (Bq i)
 |cons c cs ih =>
  cases r with
  |@cons v _ vs _ h r =>
   intro i hi
   cases i with
   |zero =>
    cases h with
    |tup e r1 =>
     obtain⟨v1,v2,rfl,r2,r3⟩:=yB r1;cases r3
     cases r2 with
     |tup e2 r4 =>
      rw[JR r4] at e2;exact⟨_,_,rfl,e,e2⟩
   |succ i=>exact ih r i (B2 hi)
@[irreducible] def gD:GC:=fun ts C Q=>match ts with
 |[.ref a]=>match C a with
  |some (.lst xs)=>match JP xs with
   |some cs=>cs.length < 64/\∀p,C p=none->Q (.ref p) (uQ C p (.lst ((jP cs).map aZ)))
   |none=>False
  |_=>False
 |_=>False
def Q9(hu:X.A.units+2 < cLine):Cbi X.K (fun xs H Q=>∃l ys lt,xs=[.ref l]/\SqL X.K H l ys/\ys.length < 64/\Srt X H ys lt/\∀p,H p=none->Q (.ref p) (upd H p (.lst (jM lt ys)))) gD:=fun xs ts H C Q R rs h q f=>by
 unfold gD at q
 split at q
 .obtain ⟨v,rfl,r⟩:=iX rs
  split at q
  .next xs e =>
   split at q
   .next cs e2 =>
    have ex:=tiOf_eq e2;subst ex;obtain⟨vs,ev,rv⟩:=h _ _ e;cases r;have hl:vs.length=cs.length:=by rw[rv.len,AB]
    have ro:=Qe (aZ ([],0)) (zP cs) rv;rw[AB,Vj] at ro;exact⟨_,vs,zP cs,rfl,SqL.of ev,by rw[hl];exact q.1,qS hu _ (tp_at rv),fun p hp=>f _ _ _ _ (q.2 p (h.fresh hp)) (.ref p) (h.lay hp ⟨_,fQ,ro.imm (Imm.new hp _)⟩) (Fw.lay hp _ _)⟩
   .exact q.elim
  .exact q.elim
 .exact q.elim
end
end CL
namespace PySem.W
open PySem PySem.Calls PyProof.Rows PyProof.V PySem.Spec
section
variable {prog:Program}{w:World}{A:Around}{E:Value->Shared->Prop}{s:Shared}{d it:Addr}{es:Array DictEntry}{ep i:Nat}
def RawD.ty(x:RawD s.heap d es ep):s.TypeIs (.ref d) "dict":=let ⟨o,e,c,_⟩:=x;⟨o,e,c.1⟩
def J4{Q:Value->Shared->Prop}(hd:(d==sysModules)=false)(hm:RawD s.heap d es ep)(hQ:Q (.ref s.heap.objs.size) { s with heap:=s.heap.push { cls:=.type "dict_keyiterator",data:=.fields #[.ref d,.int 0 0,.int es.size 0,.int ep 0] } }):wpAny (model prog w) A (pyIter (.ref d)) Q E s:=by
 have hT:=hm.ty;obtain⟨o,ho,hc,hdat⟩:=hm;refine wpAny_pyIter_slot (by exact hT) F.slot_dict_iter (Ap F.slot_dict_iter (by exact hT) F.entry_dict_iter ?_ (F.args_dict_iter_1 _))
 (unfold Builtin.«dict.__iter__»;refine AA ?_;unfold Builtin.Dict.dictSlotNone;refine AA (Cm hT ?_))
 (show wpAny _ _ (pure (Value.ref d)) _ _ s;refine AC ?_;show wpAny _ _ (Builtin.Dict.showsAll d >>= _) _ _ s;unfold Builtin.Dict.showsAll)
 (rw[AX (by rw[hd];exact AN)];refine AA (AC ?_);refine AA (Bs ho hdat ?_);refine AA (Cs ho hdat ?_))
 refine AA (Ay (AC ⟨_,rfl,"dict_keyiterator",(_),⟨_,AM _ rfl,rfl⟩,Bf.lookup,(?_)⟩))
 (simpa [rawInt] using hQ)
def J3{e:DictEntry}{Q:Option Value->Shared->Prop}(hit:s.heap.IsKeyIter it d i es.size ep)(hm:RawD s.heap d es ep)(hx:es[i]?=some e)(hQ:∀h',h'.IsKeyIter it d (i+1) es.size ep->Heap.SameBut it s.heap h'->Q (some e.key) { s with heap:=h' }):wpAny (model prog w) A (pyNext (.ref it)) Q E s:=by
 have hT:=hit.typeIs;obtain⟨o,ho,hc,hd⟩:=id hit;obtain⟨od,hod,hcd,hdd⟩:=id hm
 have hlt:i < es.size:=by
  rcases Cg i es.size with h | h
  .exact h
  .rw [Array.getElem?_eq_none h] at hx;cases hx
 have he:es[i]=e:=by rw[Ar hlt] at hx;exact BC hx
 have hown:Builtin.Dict_items.ownsTuple "dict_keyiterator" = false:=by (decide)
 (unfold pyNext;refine AA (DN (BB (name:=Str.ofString "__next__") hT Bf (Ap Bf hT F.entry_dict_keyiterator_next ?_ (F.args_dict_keyiterator_next_1 _)))))
 (refine AA (AC ?_);refine AA ?_;refine AA ?_;first | refine AA (B1 hT (AC ?_)) | refine AA (CU hT (AC ?_)))
 (refine AA (wpAny_fieldsOf ho hd ?_);simp only[hown,Bool.false_eq_true,if_false];show wpAny _ _ (if (Value.ref d==Value.none)=true then _ else _) _ _ s)
 (rw[AX (show ¬ ((Value.ref d==Value.none)=true) from AN)];refine AA (AC ?_);refine AA (Bs hod hdd ?_))
 (rw[AX (by simp)];refine AA (AC ?_);refine AA (Cs hod hdd ?_);rw[AX (by simp)];refine AC ?_)
 (simp only[show ¬ ((i:Int) < 0) from by omega,if_false,Int.toNat_natCast,Array.getElem?_eq_getElem hlt];refine AA ?_)
 (first | refine AA (B1 hT (AC ?_)) | refine AA (CU hT (AC ?_)))
 (refine AA (wpAny_isOneOf_keyiter hT ?_);show wpAny _ _ (setField (.ref it) 1 (rawInt ((i:Int)+1)) >>= _) _ _ s;refine AA (DA ho hd (by simp) ?_))
 have hit':(s.heap.update it (Obj.mapFields (·.setIfInBounds 1 (rawInt ((i:Int)+1))))).IsKeyIter it d (i+1) es.size ep:=⟨_,A7 _ ho (Obj.isFreed_of_fields (Obj.data_mapFields hd _)),(Obj.cls_mapFields ..).trans hc,by rw[Obj.data_mapFields hd];simp[rawInt]⟩
 (refine AA (Aw ?_);refine AA (wpAny_isOneOf_keyiter (s:={ s with heap:=s.heap.update it (Obj.mapFields (·.setIfInBounds 1 (rawInt ((i:Int)+1)))) }) hit'.typeIs ?_))
 (show wpAny _ _ (pure es[i].key) _ _ _;rw[he];exact AC (AC ⟨_,rfl,AC (hQ _ hit' (BS ..))⟩))
def VA{Q:Option Value->Shared->Prop}(hh:A.handled=none)(hit:s.heap.IsKeyIter it d i es.size ep)(hm:RawD s.heap d es ep)(hge:es.size<=i)(hQ:∀h',Heap.ExtBut it s.heap h'->Q none { s with heap:=h' }):wpAny (model prog w) A (pyNext (.ref it)) Q E s:=by
 have hT:=hit.typeIs;obtain⟨o,ho,hc,hd⟩:=id hit;obtain⟨od,hod,hcd,hdd⟩:=id hm;have hown:Builtin.Dict_items.ownsTuple "dict_keyiterator" = false:=by (decide)
 (unfold pyNext;refine AA (DN (BB (name:=Str.ofString "__next__") hT Bf (Ap Bf hT F.entry_dict_keyiterator_next ?_ (F.args_dict_keyiterator_next_1 _)))))
 (refine AA (AC ?_);refine AA ?_;refine AA ?_;first | refine AA (B1 hT (AC ?_)) | refine AA (CU hT (AC ?_)))
 (refine AA (wpAny_fieldsOf ho hd ?_);simp only[hown,Bool.false_eq_true,if_false];show wpAny _ _ (if (Value.ref d==Value.none)=true then _ else _) _ _ s)
 (rw[AX (show ¬ ((Value.ref d==Value.none)=true) from AN)];refine AA (AC ?_);refine AA (Bs hod hdd ?_))
 (rw[AX (by simp)];refine AA (AC ?_);refine AA (Cs hod hdd ?_);rw[AX (by simp)];refine AC ?_)
 (simp only[show ¬ ((i:Int) < 0) from by omega,if_false,Int.toNat_natCast,Array.getElem?_eq_none hge];refine AA ?_)
 (first | refine AA (B1 hT (AC ?_)) | refine AA (CU hT (AC ?_)))
 (show wpAny _ _ (setField (.ref it) 0 .none >>= _) _ _ s;refine AA (DA ho hd (by simp) ?_);show wpAny _ _ (newExc (.type "StopIteration") [] >>= _) _ _ _)
 (refine AA ?_;simp only[newExc,newTuple];refine AA (Ay ?_ (by size_fits)))
 (refine AA (m:=firstArgMember _ _) (wpAny_of_eq (a:=Value.none) (by first | rfl | (simp only[firstArgMember];rfl)) ?_);refine Ay ?_ (by size_fits))
 (simp only[raiseNew];refine AA (wpAny_handled ?_);rw[show A.in1.handled=none from hh];refine AA (AC (wpAny_throw ?_)))
 (refine AA (CJ (T:="StopIteration") (b:=true) ⟨_,AM _ rfl,rfl⟩ isSubtype_stop ?_);exact AC (hQ _ (((BS ..).extBut.push _).push _)))
end
end PySem.W
namespace L2
open PySem PySem.Spec PyProof.Rows PySem.W
section
variable {X:Cx}{pins:List (Addr×Obj)}{σ:St}{H:Hp}{s:Shared}{d:Addr}{o:Obj}{kvs:List (List Key×V)}
def Inv.freezeT{t':Nat}(I:Inv X pins σ H s)(hd:H d=some (.dT kvs))(ho:s.heap.get? d=some o):Inv X pins σ (upd H d (.frz o (.dT kvs))) { s with toks:=t' }:=by
 have ne:∀{b:Addr}{u:HO},H b=some u->u≠.dT kvs->b≠d:=fun e n z=>by subst z;rw[hd] at e;cases e;exact n rfl
 refine I.un (h':=s.heap) ⟨fun b u q _ _ _=>q,fun b u q _ _ _=>⟨u.slots,q⟩,fun b u q n _=>by rw[mQ (fun z=>by subst z;rw[hd] at n;cases n)];exact n,fun b u q _=>⟨u,q⟩,
  fun b xs q=>by rw[mQ (ne q nofun)];exact q,fun b u v q=>by rw[mQ (ne q nofun)];exact q,fun b ps q=>⟨#[],by rw[mQ (ne q nofun),q];simp⟩⟩ fun b u e=>?_
 have st:∀{b:Addr}{u:HO},H b=some u->ObjOk X.prog X.w (upd H d (.frz o (.dT kvs))) s.heap b u:=fun {b u}e=>(I.hok b u e).stay (fun c v _ q=>q) (fun c q=>by rw[mQ (ne q nofun)];exact q) fun c xs q=>by rw[mQ (ne q nofun)];exact q
 by_cases hb:b=d
 .subst hb
  rw[fQ] at e;cases e;exact⟨ho,st hd⟩
 .rw [mQ hb] at e
  exact st e
def Inv.nfT(I:Inv X pins σ H s)(hd:H d=some (.dT kvs)):NF X d:=fun ob u e=>by
 have:=I.base.frzs d ob u e;rw[hd] at this;cases this
def Inv.thawT(I:Inv X pins σ H s)(hd:H d=some (.frz o (.dT kvs)))(nf:NF X d):Inv X pins σ (upd H d (.dT kvs)) s:=by
 have ne:∀{b:Addr}{u:HO},H b=some u->u≠.frz o (.dT kvs)->b≠d:=fun e n z=>by subst z;rw[hd] at e;cases e;exact n rfl
 have nn:∀{b:Addr},H b=none->b≠d:=fun e z=>by subst z;rw[hd] at e;cases e
 obtain⟨m,hm,hl⟩:=I.loc;have B:=I.base;have st:∀{b:Addr}{u:HO},H b=some u->ObjOk X.prog X.w (upd H d (.dT kvs)) s.heap b u:=fun {b u}e=>(I.hok b u e).stay (fun c v _ q=>q) (fun c q=>by rw[mQ (ne q nofun)];exact q) fun c xs q=>by rw[mQ (ne q nofun)];exact q
 refine⟨I.ok,I.os,I.bare,⟨B.keep,B.slot,fun b u q n x=>by rw[mQ (nn (B.free b u q n x))];exact B.free b u q n x,B.there,fun b xs q=>?_,fun b ob u q=>?_,fun b ps q=>?_⟩,⟨m,hm,hl⟩,I.cell,by rw[mQ (nn I.free)];exact I.free,fun x c e=>by rw[mQ (nn (I.freeC x c e))];exact I.freeC x c e,fun p hp=>?_,fun b u e=>?_,I.len⟩
 .have:=B.tups b xs q
  rw[mQ (ne this nofun)];exact this
 .have:=B.frzs b ob u q
  have hb:b≠d:=fun z=>by subst z;exact nf ob u q
  rw[mQ hb];exact this
 .obtain ⟨more,e⟩:=B.tbls b ps q
  exact⟨more,by rw[mQ (ne e nofun)];exact e⟩
 .obtain ⟨a1,a2,a3⟩:=I.pin p hp
  exact⟨a1,by rw[mQ (nn a2)];exact a2,a3⟩
 .by_cases hb:b=d
  .subst hb
   rw[fQ] at e;cases e;exact(show ObjOk X.prog X.w _ s.heap b (.frz o (.dT kvs)) from st hd).2
  .rw [mQ hb] at e
   exact st e
def WC{e:Expr}{t:TE}(h:JE X e t):JE X e (fun σ H Q=>t σ H fun v H'=>∃d o kvs,H' d=some (.frz o (.dT kvs))/\NF X d/\Q v (upd H' d (.dT kvs))) :=
 ⟨fun pins s σ H Q I q=>thn (h.h pins s σ H _ I q) fun u s1 ⟨v,H1,I1,r1,d,o,kvs,q1,q2,q3⟩=>⟨v,_,I1.thawT q1 q2,r1,q3⟩⟩
end
def ItTk(o:Obj)(d:Addr)(kvs:List (List Key×V)):It :=
 ⟨fun i H=>i < kvs.length/\H d=some (.frz o (.dT kvs)),fun i H x H'=>H'=H/\∃p b,kvs[i]?=some p/\x=.ref b/\H b=some (.tup (p.1.map kV)),fun i H=>kvs.length<=i/\H d=some (.frz o (.dT kvs))⟩
def Jg{X:Cx}{pins:List (Addr×Obj)}{σ:St}{H:Hp}{s:Shared}{d:Addr}{o:Obj}{kvs:List (List Key×V)}{es:Array DictEntry}{ep:Nat}(I:Inv X pins σ H s)(hd:H d=some (.frz o (.dT kvs)))(ho:o.data=.dict es ep):
  ∃xs,KT H kvs xs/\RawD s.heap d es ep/\es.toList=xs.map (entryOfKey (tupleKind (cX X.prog X.w)))/\(d==sysModules)=false:=by
 obtain⟨e,_,hS,xs,rel,o',es',ep',q1,q2,q3,q4,q5⟩:=(show ObjOk X.prog X.w H s.heap d (.frz o (.dT kvs)) from I.hok d _ hd);rw[e] at q1;cases q1;rw[ho] at q3;cases q3;exact⟨xs,rel,⟨o,e,q2,ho⟩,q4,hS⟩
theorem KT.get: ∀{kvs}{xs},KT H kvs xs->∀{i:Nat}{p},kvs[i]?=some p->∃q,xs[i]?=some q/\p.1=q.1/\H q.2.1=some (.tup (p.1.map kV))
 |_,_,.nil,i,p,e=>by simp at e
 |_,_,.cons h t,i,p,e=>by
  cases i with
  |zero=>cases e;exact⟨_,rfl,h.1,h.2.1⟩
  |succ i=>exact KT.get t e
def Xs{P:Program}{w:World}{K:Dl}{tg:Expr}(o:Obj)(d it:Addr)(kvs:List (List Key×V))(es:Array DictEntry)(ep:Nat)(hl0:es.size=kvs.length)(ho:o.data=.dict es ep):ZA P w K tg (ItTk o d kvs) [it] it (fun i h=>h.IsKeyIter it d i es.size ep) where
 mem:=by simp
 obj:=fun i h st b hb=>by
  have e:b=it:=by simpa using hb
  subst e;obtain⟨o,e,c,d⟩:=st;exact⟨o,e,fun v z=>by rw[d] at z;cases z⟩
 keep:=fun i h h' st k=>let ⟨ob,e,r⟩:=st;⟨ob,k it (by simp) ob e,r⟩
 item:=by
  intro X hP hw hK hc i pins s σ H E I hf st hg;subst hP hw hK;obtain⟨hi,hd⟩:=hg;obtain⟨xs,rel,da,he,_⟩:=Jg I hd ho;obtain⟨f0,f1,f2,f3,f4,f5⟩:=hf it (by simp);have hk:kvs[i]?=some kvs[i]:=AO _;obtain⟨q,hq,k1,k2⟩:=KT.get rel hk
  have hx:es[i]?=some (entryOfKey (tupleKind (cX X.prog X.w)) q):=by
   rw[<- Dh,he,Ao,hq];rfl
  refine J3 st da hx fun h' st' sb=>?_;have I1:Inv X pins σ H { s with heap:=h' }:=I.turned (t':=s.toks) (fun b o hb e=>(sb.2 b hb).trans e) f0 f1 f3 f4 f5;obtain⟨ob,e,c,dt⟩:=id st';exact⟨.ref q.2.1,rfl,QF (s:={ s with heap:=h' }) e c dt (by decide) ⟨.ref q.2.1,H,I1,rfl,⟨rfl,_,_,hk,rfl,k2⟩,st',fun b hb=>(hf b hb).1⟩⟩
 done:=by
  intro X hP hw hK hc i pins s σ H E I hf st hg;subst hP hw hK;obtain⟨hi,hd⟩:=hg;obtain⟨xs,rel,da,he,_⟩:=Jg I hd ho;obtain⟨f0,f1,f2,f3,f4,f5⟩:=hf it (by simp);exact VA (I.ok.hd hc) st da (by omega) fun h' eb=>⟨rfl,I.turned (t':=s.toks) (fun b o hb e=>eb b o hb e) f0 f1 f3 f4 f5⟩
 self:=fun _ _ _ _ _ st h=>wpAny_pyIter_keyiter st h
section
variable {X:Cx}{tg:Expr}
def iDictT(X:Cx)(td:TE):TI:=fun σ H R=>td σ H fun x H1=>∃d kvs,x=.ref d/\H1 d=some (.dT kvs)/\∀o,NF X d->R (ItTk o d kvs) (upd H1 d (.frz o (.dT kvs)))
def WB{e:Expr}{td:TE}(he:JE X e td):JI X tg e (iDictT X td):=by
 refine⟨fun pins s σ H R I h=>?_⟩;refine thn (he.h pins s σ H _ I h) fun v s1 zz=>kZ zz fun x H1 I1 r1 q1=> ?_;obtain⟨d,kvs,rfl,hd,q⟩:=q1;cases (show v=Value.ref d from r1);obtain⟨z,hS,xs,rel,o,es,ep,g1,g2,g3,g4,g5⟩:=(show ObjOk X.prog X.w H1 s1.heap d (.dT kvs) from I1.hok d _ hd);have hl:es.size=kvs.length:=by rw[<- A2,g4,AB,<- Paired.length rel]
 have I2:=I1.freezeT (t':=s1.toks) hd g1;refine J4 (es:=es) (ep:=ep) hS ⟨o,g1,g2,g3⟩ ?_;refine⟨s1.heap.objs.size,[s1.heap.objs.size],_,_,_,rfl,I2.kept (t':=s1.toks) fun b o e=>AD _ e,Xs o d _ kvs es ep hl g3,⟨_,AM _ rfl,rfl,rfl⟩,fun b hb=>?_,q o (I1.nfT hd)⟩;have e:b=s1.heap.objs.size:=by simpa using hb
 subst e;exact I2.fpOk (AH _) (I2.hok.fresh (AH _))
end
end L2
namespace CL
open PySem PySem.Spec L2 PySem.W
open PyProof.Rows hiding St
section
variable {X:Cx}{pos:Pos}
def uU(k:List Key):PV:=.tup (k.map oJ)
theorem xS{K:Dl}{H:Hp}:∀ks:List Key,Reps K H (ks.map kV) (ks.map oJ)
 |[]=>.nil
 |k::ks=>.cons (J1 k) (xS ks)
@[irreducible] def dA(ce:TCE)(t:TCT)(c:TCE):TCE:=fun ρ C Q=>ce ρ C fun x C1=>match x with
 |.ref d=>match C1 d with
  |some (.dT kvs)=>dJ t c ρ (fun v C2=>C2 d=some (.fT kvs)/\Q v (uQ C2 d (.dT kvs))) (kvs.map fun p=>uU p.1) [] (uQ C1 d (.fT kvs))
  |_=>False
 |_=>False
def FP.keys{K}{kvs:List (κ×PV)}(r:FP K H vs kvs):vs.map (·.1)=kvs.map (·.1):=by
 induction r with
 |nil=>rfl
 |cons h _ ih=>rw[A8,A8,h.1,ih]
def WG{K:Dl}{o:Obj}{d:Addr}{vs:List (List Key×V)}{kvs:List (List Key×PV)}(e:vs.map (·.1)=kvs.map (·.1)):ItOn K (fun H'=>H' d=some (.frz o (.dT vs))) (ItTk o d vs) (kvs.map fun p=>uU p.1) where
 go:=fun i H' l s=>⟨by
  have:(vs.map (·.1)).length=(kvs.map (·.1)).length:=by rw[e]
  rw[AB,AB] at this;rw[AB] at l
  omega,s⟩
 yl:=fun i H' x H'' s y=>⟨y.1,fun t et=>by
  obtain⟨p,b,hp,rfl,hb⟩:=y.2;have h1:(vs.map (·.1))[i]?=some p.1:=by rw[Ao,hp];rfl
  rw[e,Ao] at h1;rw[Ao] at et
  cases z:kvs[i]? with
  |none=>rw[z] at et;cases et
  |some q =>
   rw[z] at et h1;cases et;have h1:q.1=p.1:=BC h1;show Rep K H' (.ref b) (uU q.1);rw[h1]
   exact .tup hb (xS p.1)⟩
 st:=fun H' s=>⟨by
  have:(vs.map (·.1)).length=(kvs.map (·.1)).length:=by rw[e]
  rw[AB,AB] at this;rw[AB]
  omega,s⟩
def Yt{elt iter:Expr}{x:Str}{px:Pos}{ifs:List Expr}{scope:Scope}{ce:TCE}{t:TCT}{c:TCE}(hc:X.calm=true)(hN:(x::X.N).Nodup)(K:∃cl,vB X x scope cl)(hi:CE X iter ce)(ht:∀cl fp C s₂ H₂,CF (cK X x scope cl fp C s₂ H₂) ifs t)(he:∀cl fp C s₂ H₂,CE (cK X x scope cl fp C s₂ H₂) elt c)(hs:∀v,foldedSetIterable iter X.env v=pure v:=by intro _;rfl):CE X (.ListComp elt [⟨.Name x px,iter,ifs,0⟩] scope pos) (dA ce t c) :=
 ⟨JE.weak (WC (cN (te:=kJ X.K (Rep X.K) c) (tc:=kJ X.K vF t) hc hN K (WB hi.h) (fun cl fp C s₂ H₂=>(ht cl fp C s₂ H₂).h) (fun cl fp C s₂ H₂=>(he cl fp C s₂ H₂).h) hs)) fun σ H Q zz=>pX zz fun ρ C R s h q f=> by
  unfold dA at q
  exact⟨ρ,C,_,s,h,q,fun xv H1 px C1 q1 rx h1 f1=>by
   split at q1
   .next d =>
    split at q1
    .next kvs e =>
     obtain⟨vs,ev,r⟩:=h1 d _ e;cases rx;refine⟨d,vs,rfl,ev,fun o nf D hD=>?_⟩;have m:Imm H1 (upd H1 d (.frz o (.dT vs))):=Imm.mut ev rfl _;have h2:HRel X.K (upd H1 d (.frz o (.dT vs))) (uQ C1 d (.fT kvs)):=h1.put ev rfl ⟨o,vs,fQ,Paired.mapP r fun _ _ z=>⟨z.1,z.2.imm m⟩⟩;have f2:Fw H1 C1 (upd H1 d (.frz o (.dT vs))) (uQ C1 d (.fT kvs)):=Fw.put e _ _
     have stays:∀H' C',Fw (upd H1 d (.frz o (.dT vs))) (uQ C1 d (.fT kvs)) H' C'->H' d=some (.frz o (.dT vs)):=fun H' C' g=>by
      have:=(g d (by rw[xQ];rfl) (by rw[fQ];exact fun z=>nomatch z)).2;rw[this,fQ]
     refine comp_on (Q:=fun v H'=>∃d o kvs,H' d=some (.frz o (.dT kvs))/\NF X d/\Q v (upd H' d (.dT kvs))) (H0:=upd H1 d (.frz o (.dT vs))) (C0:=uQ C1 d (.fT kvs)) (WG r.keys) (fun H' C' _ g=>stays H' C' g) ((s.imm (f1.imm h)).imm m) h2 q1 h2 Fw.refl (fun v H' p C' q' r' h' f'=>?_) hD;obtain⟨e1,q2⟩:=q';have e2:=stays H' C' f';refine⟨d,o,vs,e2,nf,?_⟩;have m':Imm H' (upd H' d (.dT vs)):=Imm.mut e2 rfl _
     obtain⟨o',vs',e3,r3⟩:=h' d _ e1;rw[e2] at e3;cases e3;refine f v _ p _ q2 (r'.imm m') (h'.put e2 rfl ⟨vs,fQ,Paired.mapP r3 fun _ _ z=>⟨z.1,z.2.imm m'⟩⟩) ?_;intro a ca na;obtain⟨x1,x2⟩:=(f1.trans (f2.trans f')) a ca na
     have ne:a≠d:=fun z=>by
      subst z;obtain⟨y1,y2⟩:=f1 a ca na;rw[<- y1,e] at ca;cases ca
     exact⟨(wQ ne).trans x1,(mQ ne).trans x2⟩
    .exact q1.elim
   .exact q1.elim⟩⟩
def tOf:Option CO->Option (List (List Key×PV))
 |some (.dT kvs)=>some kvs
 |some (.fT kvs)=>some kvs
 |_=>none
def tOf_rd{K:Dl}{H:Hp}{C:CH}{a:Addr}{kvs:List (List Key×PV)}(h:HRel K H C)(e:tOf (C a)=some kvs):∃vs,Rd H a (.dT vs)/\FP K H vs kvs:=by
 cases c:C a with
 |none=>rw[c] at e;cases e
 |some o =>
  rw[c] at e
  cases o with
  |dT l=>cases e;obtain⟨vs,q,r⟩:=h a _ c;exact⟨vs,.inl q,r⟩
  |fT l=>cases e;obtain⟨o,vs,q,r⟩:=h a _ c;exact⟨vs,.inr ⟨o,q⟩,r⟩
  |_=>cases e
@[irreducible] def cTIy:R2C:=fun x y C Q=>match x with
 |.ref a=>match tOf (C a),iY y with
  |some kvs,some k=>match zK kvs k with
   |some v=>Q v C
   |none=>False
  |_,_=>False
 |_=>False
def ce_tiy{o i:Expr}{co ci:TCE}(hu:X.A.units+1 < cLine)(ho:CE X o co)(hi:CE X i ci)(hs:YI i):CE X (.Subscript o i pos) (cOp cTIy co ci):=⟨JE.weak ⟨fO hu ho.h.h hi.h.h hs⟩ fun σ H Q zz=>pX zz fun ρ C R s h q f=>
 ⟨ρ,C,_,s,h,q,fun x H1 px C1 q1 rx h1 f1=>⟨ρ,C1,_,s.imm (f1.imm h),h1,q1,fun y H2 py C2 q2 ry h2 f2=>by
  unfold cTIy at q2
  split at q2
  .next a =>
   split at q2
   .next kvs k e1 e2 =>
    split at q2
    .next t e3 =>
     have rx2:=rx.imm (f2.imm h1);cases rx2;obtain⟨vs,ev,r⟩:=tOf_rd h2 e1;obtain⟨b,rfl,eb⟩:=oV ry e2
     rcases FP.val r k with ⟨v,t',l1,l2,rv⟩ | ⟨_,l2⟩
     .rw [e3] at l2
      cases l2;exact⟨a,v,rfl,.inr ⟨vs,k,b,ev,rfl,eb,l1.symm⟩,f v H2 t C2 q2 rv h2 (f1.trans f2)⟩
     .rw [e3] at l2;cases l2
    .exact q2.elim
   .exact q2.elim
  .exact q2.elim⟩⟩⟩
end
end CL
namespace L2
open PySem PySem.Spec PyProof.Rows
section
variable {X:Cx}
def WA{i:Nat}{y:Str}{xs:List Str}{tg:Expr}{g:TG}{py pos spos:Pos}{elt iter:Expr}{ifs:List Expr}{scope:Scope}{cl:List (Str×Addr)}{wi:TI}{tc:TT}{te:TE}(hNd:X.N.Nodup)(hi:X.N[i]?=some y)(hy:Loc X.env.scope y)(hc:X.calm=true)(K:tK X xs scope cl)(hg:∀fp C s₂ H₂,PG (cxN X xs scope cl fp C s₂ H₂) tg g)(hG:∀ws vs a σ H Q,ws.length=xs.length->SqT X.K H a vs->vs.length=xs.length->Q (vs.map some++σ) H->g (.ref a) (ws++σ) H Q)(hI:JI X tg iter wi)(ht:∀fp C s₂ H₂,JF (cxN X xs scope cl fp C s₂ H₂) ifs tc)(he:∀fp C s₂ H₂,JE (cxN X xs scope cl fp C s₂ H₂) elt te)(hs:∀v,foldedSetIterable iter X.env v=pure v:=by intro _;rfl)(hsw:swapsWith (.ListComp elt [⟨tg,iter,ifs,0⟩] scope pos) (some (.Name y py)) spos.line X.env=pure true:=by rfl)(hf:X.fn y=true\/X.env.scope.names.lookup y=some .local:=by first | exact .inl rfl | exact .inr rfl | assumption):
  JS X (.Assign [.Name y py] (.ListComp elt [⟨tg,iter,ifs,0⟩] scope pos) spos) (tAsg (Xt X.K xs.length wi tc te) (yU i)):=by
 refine⟨fun pins s σ H D I h=>?_⟩;rw[exec_Assign_Name_used _ _ _ _ hsw];refine AA (wpAny_standAt (AA (AA (CV (use:=some (assign (.Name y py) X.env)) rfl hs K.clos K.kind K.names (thn (hI.h pins s σ H _ I h) fun xv s₁ h₁=>thn h₁ fun itv s₂ h₂=>?_)))));obtain⟨it,fp,tn,J,H₂,e,I₂,T,st₂,f₂,R⟩:=h₂;subst e;refine pY (Tk:=fun x H vs=>∃a,x=.ref a/\SqT X.K H a vs) (Q:=fun x H1=>yU i x σ H1 D.nx) hc K hg (fun fp C s₂ H₂=>(ht fp C s₂ H₂).h) (fun fp C s₂ H₂=>(he fp C s₂ H₂).h) (fun ws vs x H Q l ⟨a,e,sq⟩ l' q=>by rw[e];exact hG ws vs a σ H Q l sq l' q) I₂ T st₂ f₂ (fun D hD=>let ⟨W,w0,tu⟩:=R D hD;⟨W,w0,fun i m ys H w=>(tu i m ys H w).imp id fun zz=>sM zz fun g st=> ⟨g,fun x H' y=>let ⟨a,vs,e,sq,l,q⟩:=st x H' y;⟨vs,⟨a,e,sq⟩,l,q⟩⟩⟩) ?_
 intro D' C H' s4 m hn hCL hC0 hCc hCsz I4 q;refine wpAny_assign_Name (sD I4 hNd hi hy (v:=.ref D') rfl (fun s5 I5 hsb=>?_) hf);obtain⟨b,hsb,hb⟩:=hsb
 have hbC:C≠b:=by
  rcases hb with rfl | hb
  .exact hCL
  .exact fun z=>hCc _ _ hb z.symm
 refine⟨m,hn.at' fun o e=>(hsb.2 C hbC).trans e,fun h' hsb'=>AC (AC ?_)⟩;refine⟨_,H',?_,q⟩;refine I5.turned (it:=C) (t':=s5.toks) (fun b o hb e=>(hsb'.2 b hb).trans e) hC0 hCL (.inr (Aa I₂.sz hCsz)) hCc fun p hp z=>?_;exact absurd (AS (AG (I₂.pin p hp).1) (by rw[z];exact hCsz)) (BI _)
end
end L2
namespace CL
open PySem PySem.Spec L2 PySem.W
open PyProof.Rows hiding St
def Yk{X:Cx}{i:Nat}{w x y z:Str}{py p1 p2 p3 p pos spos:Pos}{k:Nat}{elt iter:Expr}{ifs:List Expr}{scope:Scope}{wi:TI}{ci:CSt->CH->(List PV->CH->Prop)->Prop}{t:TCT}{c:TCE}(hNd:X.N.Nodup)(hi:X.N[i]?=some w)(hy:Loc X.env.scope w)(hc:X.calm=true)(hN:(x::y::z::X.N).Nodup)(K:∃cl,tK X [x,y,z] scope cl)(hI:CI X (.Tuple [.Name x p1,.Name y p2,.Name z p3] k p) iter wi ci)(ht:∀cl fp C s₂ H₂,CF (cxN X [x,y,z] scope cl fp C s₂ H₂) ifs t)(he:∀cl fp C s₂ H₂,CE (cxN X [x,y,z] scope cl fp C s₂ H₂) elt c)(hs:∀v,foldedSetIterable iter X.env v=pure v:=by intro _;rfl)(hsw:swapsWith (.ListComp elt [⟨.Tuple [.Name x p1,.Name y p2,.Name z p3] k p,iter,ifs,0⟩] scope pos) (some (.Name w py)) spos.line X.env=pure true:=by rfl)(hf:X.fn w=true\/X.env.scope.names.lookup w=some .local:=by first | exact .inl rfl | exact .inr rfl | assumption):
  CS X (.Assign [.Name w py] (.ListComp elt [⟨.Tuple [.Name x p1,.Name y p2,.Name z p3] k p,iter,ifs,0⟩] scope pos) spos) (KQ i (cA 3 ci t c)):=by
 obtain⟨cl,K⟩:=K;refine⟨JS.weak (WA (te:=kJ X.K (Rep X.K) c) (tc:=kJ X.K vF t) (xs:=[x,y,z]) hNd hi hy hc K (fun _ _ _ _=>pg3 hc hN K) gok3 hI.j (fun fp C s₂ H₂=>(ht cl fp C s₂ H₂).h) (fun fp C s₂ H₂=>(he cl fp C s₂ H₂).h) hs hsw hf) fun D σ H zz=>pX zz fun ρ C E s h q f=> ?_⟩;exact gN (Q:=fun x H'=>D.nx (σ.set i (some x)) H') hI ⟨ρ,C,_,s,h,q,fun x H1 px C1 q1 rx h1 f1=>f.nx _ H1 _ C1 q1 ((s.imm (f1.imm h)).set rx i) h1 f1⟩
end CL
namespace L2
open PySem PySem.W PyProof.Rows
def drop(H:Hp)(a:Addr):Hp:=fun b=>if b=a then none else H b
end L2
namespace CL
open PySem PySem.Spec L2 PySem.W
open PyProof.Rows hiding St
section
variable {X:Cx}{a b c e o i f value:Expr}{es:List Expr}{pos pos':Pos}
@[irreducible] def cRev:PV->CH->K1->Prop:=fun x C Q=>match x with
 |.ref a=>match C a with
  |some (.lst xs)=>∀p,C p=none->Q (.ref p) (uQ C p (.lst xs.reverse))
  |_=>False
 |_=>False
def rngPV(n:Nat):List PV:=(List.range n).map fun k=>PV.int (k:Nat)
@[irreducible] def cRng:PV->CH->K1->Prop:=fun x C Q=>match x with
 |.int j=>0<=j/\j<=100000/\∀p,C p=none->Q (.ref p) (uQ C p (.lst (rngPV j.toNat)))
 |_=>False
@[irreducible] def cPop:PV->List PV->CH->K1->Prop:=fun x ts C Q=>match x,ts with
 |.ref a,[]=>match C a with
  |some (.lst xs)=>match xs[xs.length - 1]? with
   |some y=>Q y (uQ C a (.lst xs.dropLast))
   |none=>False
  |_=>False
 |_,_=>False
def cmt_pop{K}:Cmt K rPop cPop:=fun x px xs ps H C Q R rx rs h q f=>by
 delta cPop at q
 split at q
 .split at q
  .next ys e1 =>
   split at q
   .next y ey =>
    obtain⟨vs,ev,rv⟩:=(h _ _ e1);cases rs;cases rx;obtain⟨v,hv,r1⟩:=(rv.get ey)
    have hd:Reps K H vs.dropLast ys.dropLast:=by
     rw[List.dropLast_eq_take,List.dropLast_eq_take,rv.len];exact rv.take _
    exact⟨_,vs,v,rfl,rfl,ev,by exact rv.len▸hv,f _ _ _ _ q (r1.imm (Imm.mut ev rfl _)) (h.put ev rfl ⟨_,fQ,hd.imm (Imm.mut ev rfl _)⟩) (Fw.put e1 _ _)⟩
   .exact q.elim
  .exact q.elim
 .exact q.elim
@[irreducible] def cTru(c:TCE):TCT:=fun ρ C Q=>c ρ C fun x C1=>match x with
 |.ref a=>match C1 a with
  |some (.lst xs)=>Q (!xs.isEmpty) C1
  |_=>False
 |_=>False
def ct_tru{c}(h:CE X e c)(he:iD e=true:=by rfl):CT X e (cTru c):=⟨JT.weak ⟨VL h.h.h (aH he)⟩ fun σ H Q zz=>pX zz fun ρ C R s h q f=> by
 delta cTru at q
 exact⟨ρ,C,_,s,h,q,fun x H1 px C1 q1 rx h1 f1=>by
  split at q1
  .split at q1
   .next xs e1 =>
    refine eQ (h1 _ _ e1) fun vs ev rv=>?_;cases rx;refine⟨!xs.isEmpty,.inl ⟨vs,SqL.of ev,?_⟩,f _ H1 _ C1 q1 rfl h1 f1⟩;have:=rv.len;cases vs<;>cases xs<;>simp_all
   .exact q1.elim
  .exact q1.elim⟩⟩
def pop_s(m:C p=some (.lst xs))(e:xs[xs.length - 1]?=some y)(q:Q y (uQ C p (.lst xs.dropLast))):cPop (.ref p) [] C Q :=by simp_all[cPop]
def tru_i{c}(h:c ρ C fun x C1=>∃a xs,x=.ref a/\C1 a=some (.lst xs)/\Q (!xs.isEmpty) C1)(mono:∀(Q1 Q2:K1),(∀v C1,Q1 v C1->Q2 v C1)->c ρ C Q1->c ρ C Q2):cTru c ρ C Q:=by
 delta cTru
 refine mono _ _ ?_ h;rintro v C1 ⟨b,xs,rfl,m,q⟩;dsimp only
 rwa [m]
end
structure Row where
 k:Option Str
 nm:Str
 q:Str
 st:Stmt
 ps:List Str
 N:List Str
def AllR(p:Row->Prop):List Row->Prop
 |[]=>True
 |r::rs=>p r/\AllR p rs
def FH(K:Dl)(r:Row):Prop:=match r with
 |⟨none,nm,q,st,_,_⟩=>∃(f:Addr)(oc:Value)(od:Option Addr)(kV dc pm:Value)(an:Option Addr)(cd ct:Value)(sl:Array (Option Value)),
  PySem.W.nsIn K mainGlobals nm=some (some (.ref f))/\K.lookup f=some ⟨oc,od,.func (PySem.W.fnOf nm q (mY st) (xV st) (mX st) .none kV dc pm an cd ct),sl⟩/\PySem.W.codeIn K cd q=true/\PySem.W.keepIn K (.ref f)=true
 |⟨some c,nm,q,st,_,_⟩=>∃(cc f:Addr)(oc:Value)(od:Option Addr)(kV dc pm:Value)(an:Option Addr)(cd ct:Value)(sl:Array (Option Value)),
  PySem.W.nsIn K mainGlobals c=some (some (.ref cc))/\PySem.W.findIn K (.ref cc) nm=some (some (.ref f))/\K.lookup f=some ⟨oc,od,.func (PySem.W.fnOf nm q (mY st) (xV st) (mX st) .none kV dc pm an cd ct),sl⟩/\PySem.W.codeIn K cd q=true/\PySem.W.keepIn K (.ref f)=true/\PySem.W.isFn K (.ref f)=true
def RB(r:Row):Prop:=FnScope r.N r.ps (mX r.st)/\∀(kV doc pm:Value)(an:Option Addr)(cdv ct:Value)(us:List Value),us.length=r.ps.length->bindArgs (PySem.W.fnOf r.nm r.q (mY r.st) (xV r.st) (mX r.st) .none kV doc pm an cdv ct) ⟨us,[]⟩=pure (r.ps.zip us)
structure FI(K:Dl)(mg:Str->Option Value)(k:Option Str)(nm q:Str)(st:Stmt)(ps N:List Str)(f:Addr)(d:FuncData):Prop where
 m:k=none->mg nm=some (.ref f)
 M:∀c ca,k=some c->mg c=some (.ref ca)->PySem.W.findIn K (.ref ca) nm=some (some (.ref f))/\PySem.W.isFn K (.ref f)=true
 F:Fun K nm q st f d
 s:FnScope N ps (mX st)
 b:Binds K d ps []
section
variable {P:List Value->Prop}
def Xc(h:∀a(us:List Value),us.length=n->P (a::us))us(e:us.length=n+1):P us:=by
 cases us with
 |nil=>cases e
 |cons a us=>exact h a us (A4 e)
def args0(h:P [])us(e:us.length=0):P us :=by grind
def args1(h:∀a,P [a]):∀us,us.length=1->P us:=Xc fun a=>args0 (h a)
def args2(h:∀a b,P [a,b]):∀us,us.length=2->P us:=Xc fun a=>args1 (h a)
def args3(h:∀a b c,P [a,b,c]):∀us,us.length=3->P us:=Xc fun a=>args2 (h a)
def args4(h:∀a b c d,P [a,b,c,d]):∀us,us.length=4->P us:=Xc fun a=>args3 (h a)
def args5(h:∀a b c d e,P [a,b,c,d,e]):∀us,us.length=5->P us:=Xc fun a=>args4 (h a)
end
def fi_one{K}(X:K.In h)(G:h.Ns mainGlobals mg)(x:FH K r)(y:RB r):∃f d,FI K mg r.k r.nm r.q r.st r.ps r.N f d:=by
 obtain⟨k,nm,q,st,ps,N⟩:=r;obtain⟨y1,y2⟩:=y
 cases k with
 |none =>
  obtain⟨f,oc,od,kV,dc,pm,an,cd,ct,sl,h1,h2,h3,h4⟩:=x;exact⟨f,_,⟨fun _=>Bi X G h1,fun _ _ e=>(nomatch e),fE h2 h3 h4,y1,Fun.binds (fE h2 h3 h4) y2⟩⟩
 |some c =>
  obtain⟨cc,f,oc,od,kV,dc,pm,an,cd,ct,sl,h0,h1,h2,h3,h4,h5⟩:=x;refine⟨f,_,⟨fun e=>(nomatch e),fun c' ca e e'=>?_,fE h2 h3 h4,y1,Fun.binds (fE h2 h3 h4) y2⟩⟩;cases e;have:=(Bi X G h0).symm.trans e';cases this;exact⟨h1,h5⟩
theorem fi_all{K}(X:K.In h)(G:h.Ns mainGlobals mg):∀{t},AllR (FH K) t->AllR RB t->∃(f:Nat->Addr)(d:Nat->FuncData),∀i{k}{nm q}{st}{ps N},t[i]?=some ⟨k,nm,q,st,ps,N⟩->FI K mg k nm q st ps N (f i) (d i)
 |[],_,_=>⟨fun _=>mainGlobals,fun _=>PySem.W.fnOf "" "" (mY (.Pass ⟨0,0,0,0⟩)) [] (mX (.Pass ⟨0,0,0,0⟩)) .none .none .none .none none .none .none,fun i _ _ _ _ _ _ e=>by simp at e⟩
 |r::t,x,y=>by
  refine el21 (fi_one X G x.1 y.1) fun f0 d0 h0=>el21 (fi_all X G x.2 y.2) fun f d h=>⟨fun i=>match i with | 0=>f0 | i+1=>f i,fun i=>match i with | 0=>d0 | i+1=>d i,fun i=>?_⟩
  cases i with
  |zero=>intro k nm q st ps N e;cases e;exact h0
  |succ i=>intro k nm q st ps N e;exact h i e
section
variable {P:Program}{w:World}{K:Dl}{mg:Str->Option Value}{base:Heap}
theorem FI.ok{st}(F:FI K mg kk x qual st ps N f fd)(len:∀ts C R,G ts C R->ts.length=ps.length)(hbody:∀cdv A outer s H E,Room k (A.deeper (envOfC qual (mX st) s.heap.objs.size f cdv)) ->
   ∃c,CB (QX CX0 P w K mg base N qual (mX st) f cdv A outer s H E).nox (xV st) c/\∀ts C R,G ts C R->c (.go R) (dH N ts) C):FnOk P w K mg base CX0 (k+1) f fd ps (spC K G):=Fun.okC F.F F.s len hbody
end
section
variable {X:Cx}{e o:Expr}{es:List Expr}{pos:Pos}
def cf{st}{p}(T:FI X.K X.mg none x q st ps N f fd)(F:FnOk X.prog X.w X.K X.mg X.base CX0 k f fd ps (spC X.K G))(hr:Room k X.A)(ha:CA X (e::es) ca)(hg:Gl X x:=by rfl)(hdb:(x==("__debug__" : Str))=false:=by decide)(hs:xX e=true:=by rfl)(hall:es.all xX=true:=by rfl):CE X (.Call (.Name x p) (e::es) [] pos) (lC G ca) :=
 ce_call F hr hg (T.m rfl) T.F.kp T.b V8 ha hdb hs hall
def cm{st}{apos}{pl}(hc:Cls X.K c)(T:FI X.K X.mg (some cn) m q st ps N fa fd)(hm:X.mg cn=some (.ref c))(F:FnOk X.prog X.w X.K X.mg X.base CX0 k fa fd ps (spC X.K G))(hr:Room k X.A)(ho:CE X o co)(ha:CA X (e::es) ca)(hst:starEach (e::es) X.env=(false,eval e X.env)::starEach es X.env:=by rfl)(hpl:(backTo pos (starEach es X.env)).any (·.1)=false:=by rfl)(ht:eval (.Call (.Attribute o m apos) (e::es) [] pos) X.env=(do
   let ov <- eval o X.env
   standAt apos.atName
   let (f,first) <- holding [ov] (getMethod ov m pl)
   callWith pos f first (backTo pos (starEach (e::es) X.env)) (backToKw pos (keywordEach [] X.env))):=by rfl):
  CE X (.Call (.Attribute o m apos) (e::es) [] pos) (cMeth c m G co ca) :=
 ce_meth hc ⟨(T.M _ _ rfl hm).1,(T.M _ _ rfl hm).2,T.F.kp⟩ F hr T.b V8 ho ha hst hpl ht
def cx(ha:CE X a ca)(hb:CE X b cb)(hs:oA b:=by exact fun _ _=>rfl):CE X (.Subscript a b pos) (cOp cIx ca cb):=ce_ix ix_seqC cop_ix ha hb hs
def ca1(ha:CE X e ca)(hs:xX e=true:=by rfl):CA X [e] (uG ca uA):=qQ ha sJ hs
def cs1 i{pos'}(hN:X.N.Nodup)(he:CE X e ce)(hi:X.N[i]?=some x:=by rfl)(hx:Loc X.env.scope x:=by first | exact Or.inl rfl | exact Or.inr rfl)(hs:swapsWith e (some (.Name x pos')) pos.line X.env=pure false:=by rfl)(hf:X.fn x=true\/X.env.scope.names.lookup x=some .local:=by first | exact .inl rfl | exact .inr rfl | assumption):
  CS X (.Assign [.Name x pos'] e pos) (KQ i ce):=cs_set hN hi hx he hs hf
def cg1 i(hN:X.N.Nodup)(hi:X.N[i]?=some x:=by rfl)(hx:Loc X.env.scope x:=by first | exact Or.inl rfl | exact Or.inr rfl)(hf:X.fn x=true\/X.env.scope.names.lookup x=some .local:=by first | exact .inl rfl | exact .inr rfl | assumption):CG X (.Name x pos) (Yg i):=cg_name hN hi hx hf
def cln{p}(hm:X.mg "len" = none)(ha:CE X e ca)(hg:Gl X "len":=by rfl)(hs:xX e=true:=by rfl):CE X (.Call (.Name "len" p) [e] [] pos) (lC pC (uG ca uA)):=nQ KN cbi_len hg hm rfl (ca1 ha hs) (hs:=hs)
def ctp{p}(hm:X.mg "tuple" = none)(ha:CE X e ca)(hg:Gl X "tuple":=by rfl)(hs:xX e=true:=by rfl):CE X (.Call (.Name "tuple" p) [e] [] pos) (lC tM (uG ca uA)):=bJ pR cbi_tup hg hm rfl (ca1 ha hs) (hs:=hs)
def cap{apos cpos}(ho:CE X o co)(ha:CE X e ca)(hbase:attributeBase o "append" X.env (eval o X.env)=eval o X.env:=by rfl)(hfew:((backTo cpos (starEach [e] X.env)).all (fun x=>!x.1)&&(backToKw cpos (keywordEach [] X.env)).all (fun x=>x.1.isSome)
   && decide ([e].length+([]:List Keyword).length+(if ([]:List Keyword).isEmpty then 0 else 1) < 30))=true:=by rfl)(hline:(apos.endLine==cpos.line)=true:=by rfl)(hs:xX e=true:=by rfl):CE X (.Call (.Attribute o "append" apos) [e] [] cpos) (cBM xU co (uG ca uA)) :=
 Jw BY PySem.F.slot_list_append PySem.F.type_list_append dS Zq ho (ca1 ha hs) hbase hfew hline hs
def ct2(ho:OpR X (compareOp op) r)(hr:Cop X.K r cr)(ha:CE X a ca)(hb:CE X b cb)(hm:behindInMarks op b=false:=by exact wW _):CT X (.Compare a [op] [b] pos) (rT (cOp cr ca cb)):=qC ho hr ha hb hm
end
end CL
namespace L2
open PySem
theorem FnScope.c(S:FnScope N ps sc)(h:N.contains x=false):(x::N).Nodup:=by
 refine BN.2 ⟨fun m=>?_,S.nd⟩;rw[List.contains_iff_mem.2 m] at h;cases h
theorem FnScope.k(S:FnScope N ps sc)(hN:X.N=N)(hsc:X.env.scope=sc)(hce:X.env.cells=cellsFrom L sc.names [])(h:xC xs scope N sc=true):∃cl,tK X xs scope cl:=aF hN hsc hce h
end L2
namespace CL
open PySem PySem.Spec L2 PySem.W
open PyProof.Rows hiding St
section
variable {X:Cx}{a b c e o i f value:Expr}{es:List Expr}{pos pos':Pos}
@[irreducible] def cGetQ:PV->List PV->CH->K1->Prop:=fun x ts C Q=>match x,ts with
 |.ref a,[y]=>match C a,J8 y with
  |some (.dP kvs),some k=>Q ((zK kvs k).getD .non) C
  |_,_=>False
 |_,_=>False
@[irreducible] def cClearQ:PV->List PV->CH->K1->Prop:=fun x ts C Q=>match x,ts with
 |.ref a,[]=>match C a with
  |some (.dP kvs)=>Q .non (uQ C a (.dP []))
  |_=>False
 |_,_=>False
def hK:Key->Int
 |.inl (some k)=>hashInt k
 |.inl none=>4238894112
 |.inr _=>0
def pHash(k:Path):Int:=reduceHash (Builtin.Tuple.tupleHashOf (k.map fun ks=>reduceHash (Builtin.Tuple.tupleHashOf (ks.map hK))))
def noT:Key->Bool
 |.inr _=>false
 |_=>true
@[irreducible] def cDictQ:GC:=fun ts C Q=>match ts with
 |[.ref a]=>match C a with
  |some (.dP kvs)=>(∀p∈kvs,p.1.all (fun ks=>ks.all noT)=true)/\(kvs.map fun p=>pHash p.1).Nodup/\∀p,C p=none->Q (.ref p) (uQ C p (.dP kvs))
  |_=>False
 |_=>False
@[irreducible] def cNeQ(d:Nat):R2C:=fun x y C Q=>match x,y with
 |.ref a,.ref b=>match C a,C b with
  |some (.dP xs),some (.dP ys)=>xs=ys/\(∀p∈xs,Pl d p.2)/\Q (.bl false) C
  |_,_=>False
 |_,_=>False
def kkLt(ks:List (List Str)):Nat->Nat->Bool:=fun i j=>HT.lexS (ks.getD i []) (ks.getD j [])
def ordK(ks:List (List Str)):List (List Str):=(oZ (kkLt ks) (kas_sort ks.length)).toList.map fun i=>ks.getD i []
def kkPV(k:List Str):PV:=.tup (k.map PV.str)
def kkOf:List (List Key×PV)->Option (List (List Str))
 |[]=>some []
 | ([.inr x,.inr y],_)::r=>(kkOf r).map ([x,y] :: ·)
 |_=>none
@[irreducible] def cSortedD:GC:=fun ts C Q=>match ts with
 |[.ref a]=>match C a with
  |some (.dT kvs)=>match kkOf kvs with
   |some ks=>ks.length < 64/\∀p,C p=none->Q (.ref p) (uQ C p (.lst ((ordK ks).map kkPV)))
   |none=>False
  |_=>False
 |_=>False
@[irreducible] def cIsiT:GC:=fun ts C Q=>match ts with
 |[.ref a,.ty n]=>match C a with
  |some (.dT _)=>n = "dict"/\Q (.bl true) C
  |_=>False
 |_=>False
end
section
variable {X:Cx}{e o:Expr}{es:List Expr}
@[irreducible] def cJoin:PV->List PV->CH->K1->Prop:=fun x ts C Q=>match x,ts with
 |.str sep,[.ref a]=>match C a with
  |some (.lst xs)=>∃zs:List Str,xs=zs.map PV.str/\(zs.map (·.length)).sum+zs.length * sep.length<=16777216/\Q (.str (Str.join sep zs)) C
  |_=>False
 |_,_=>False
def txI(i:Int):Str:=toString i
@[irreducible] def cStrI:GC:=fun ts C Q=>match ts with
 |[.int i]=>i.natAbs<=1000000000000/\Q (.str (txI i)) C
 |_=>False
end
end CL
namespace TB
def step(M i:Nat):Nat:=(i * 5+1) % M
end TB
namespace TB
open PySem SetTable
structure TOk(t:SetTable)(k:Nat):Prop where
 mask:t.mask+1=2 ^ k
 dum:t.dummies = #[]
 few:t.place.size<=t.mask
end TB
namespace PySem
open Sem (wp)
open TB
section
variable {prog:Program}{w:World}{K:Type}[DecidableEq K]{knd:KeyKind prog w K}
variable (knd)
def entP(x:List (List K)×Addr):Int×Value:=(gF knd x.1,.ref x.2)
structure PSet(h:Heap)(a:Addr)(xs:List (List (List K)×Addr))(o:Obj)(es:Array (Int×Value))(ep:Nat)(t:SetTable)(k:Nat):Prop where
 at':h.get? a=some o
 ex:o.ExactSet
 dat:o.data=.set es ep t
 tok:TOk t k
 size:t.place.size=es.size
 ents:es.toList=xs.map (entP knd)
 keys:∀x∈xs,IsPathKey knd h x.1 x.2
 big:2<=t.mask
variable {knd}{A:Around}{E:Value->Shared->Prop}{s:Shared}{a:Addr}{xs:List (List (List K)×Addr)}{o:Obj}{es:Array (Int×Value)}{ep:Nat}{t:SetTable}{k:Nat}
end
end PySem
namespace CL
open PySem PySem.Spec L2 PySem.W
open PyProof.Rows hiding St
section
variable {X:Cx}{e:Expr}{pos:Pos}
def Z2:List PV->Option (List Path)
 |[]=>some []
 |t::r=>match J8 t,Z2 r with
  |some k,some ks=>some (k::ks)
  |_,_=>none
@[irreducible] def cLenSR:PV->CH->K1->Prop:=fun x C Q=>match x with
 |.ref a=>match C a with
  |some (.lst xs)=>∃ks,Z2 xs=some ks/\ks.Nodup/\ks.length<=9900/\Q (.int ks.length) C
  |_=>False
 |_=>False
@[irreducible] def cPNin:R2C:=fun y x C Q=>match x with
 |.ref a=>match C a,J8 y with
  |some (.dP kvs),some k=>Q (.bl (!(zK kvs k).isSome)) C
  |_,_=>False
 |_=>False
@[irreducible] def cInE:R2C:=fun x y C Q=>match x,y with
 |.tup [],.ref a=>match C a with
  |some (.lst xs)=>(∀t∈xs,∃u us,t=.tup (u::us))/\Q (.bl false) C
  |_=>False
 |_,_=>False
@[irreducible] def cNeU(d:Nat):R2C:=fun x y C Q=>match x,y with
 |.tup xs,.tup ys=>xs=ys/\(∀t∈xs,Pl d t)/\Q (.bl false) C
 |_,_=>False
end
@[irreducible] def cLenQ:GC:=fun ts C Q=>match ts with
 |[.ref a]=>match C a with
  |some (.dP kvs)=>Q (.int kvs.length) C
  |_=>False
 |_=>False
section
variable {X:Cx}{e:Expr}
def kF(z:Str):List PV:=z.cps.toList.map fun c=>PV.str ⟨#[c]⟩
def it_str{K}z:Xf K H (Its z) (kF z) where
 go:=fun i H' l k=>by
  delta kF at l
  rwa [AB,A2] at l
 yl:=fun i H' x H'' k y=>by
  obtain⟨rfl,c,hc,rfl⟩:=y;refine⟨rfl,fun t e=>?_⟩;unfold kF at e;rw[Ao,Dh,hc] at e;cases e;exact .str _
 st:=fun H' k=>by
  delta kF
  rw[AB,A2];exact AH _
def cItS(ce:TCE):CSt->CH->(List PV->CH->Prop)->Prop:=fun ρ C Q=>ce ρ C fun t C1=>match t with
 |.str z=>Q (kF z) C1
 |_=>False
def ci_str(h:CE X e ce):CI X tg e (iStr (kJ X.K (Rep X.K) ce)) (cItS ce):=⟨⟨pi_str h.h.h⟩,fun σ H ρ C R Q s h q f=>⟨ρ,C,_,s,h,q,fun x H1 px C1 q1 rx h1 f1=>by
  cases rx with
  |str z=>exact⟨z,rfl,f _ H1 (kF z) C1 q1 (it_str z) h1 f1⟩
  |_=>exact q1.elim⟩⟩
end
end CL
namespace PySem
section
variable {prog:Program}{w:World}{A:Around}{E:Value->Shared->Prop}{s:Shared}
def oK{items}(hit:s.heap.IsTupleIter it t i)(ht:s.heap.IsTuple t items)(hx:items[i]?=some x)(hQ:∀h',h'.IsTupleIter it t (i+1)->Heap.SameBut it s.heap h'->Q x { s with heap:=h' }):
  wpAny (model prog w) A (Builtin.SmallTypes.nextOf (.ref it)) Q E s:=by
 obtain⟨o,ho,hc,hd⟩:=(id hit);obtain⟨ol,hol,_,nl,hdl⟩:=ht
 refine AA (BB hit.typeIs CD
  (Ap CD hit.typeIs F.entry_tuple_iterator_next ?_ (F.args_tuple_iterator_next_1 _)))
 show wpAny _ _ (field (.ref it) 0 >>= _) _ _ s;refine AA (As ho hd rfl (AA (As ho hd rfl (AA (BG hol hdl ?_)))))
 simp only[Int.toNat_natCast,hx]
 refine AA (DA ho hd (by simp) (AC ⟨x,rfl,AC (hQ _ ?_ (BS ..))⟩))
 exact⟨_,A7 _ ho (Obj.isFreed_of_fields (Obj.data_mapFields hd _)),(Obj.cls_mapFields ..).trans hc,by
  rw[Obj.data_mapFields hd];simp[rawInt]⟩
def nU{items}(hh:A.handled=none)(hit:s.heap.IsTupleIter it t i)(ht:s.heap.IsTuple t items)(hx:items[i]?=none)(hE:∀h' e,Heap.ExtBut it s.heap h'->(∃o,h'.get? e=some o/\o.cls=.type "StopIteration")->E (.ref e) { s with heap:=h' }):
  wpAny (model prog w) A (Builtin.SmallTypes.nextOf (.ref it)) Q E s:=by
 obtain⟨o,ho,hc,hd⟩:=(id hit);obtain⟨ol,hol,_,nl,hdl⟩:=ht
 refine AA (BB hit.typeIs CD
  (Ap CD hit.typeIs F.entry_tuple_iterator_next ?_ (F.args_tuple_iterator_next_1 _)))
 show wpAny _ _ (field (.ref it) 0 >>= _) _ _ s;refine AA (As ho hd rfl (AA (As ho hd rfl (AA (BG hol hdl ?_)))))
 simp only[Int.toNat_natCast,hx]
 refine AA (B8 (AA (DA ho hd (by simp) ?_)))
 apply AA
 refine AA (Ay (AA (wpAny_of_eq (by first | rfl | (rfl)) ?_)) (by size_fits));refine Ay (AA (wpAny_handled ?_)) (by size_fits)
 first | rw[show A.in1.handled=none from hh] | rw[hh]
 refine AA (AC (wpAny_throw (hE _ _ (((BS ..).extBut.push _).push _) ⟨_,AM _ rfl,rfl⟩)))
abbrev Xe(h:Heap)(z TI TO T:Addr)(f:Bool):Prop :=
 h.get? z=some { cls:=.type "zip",dict:=none,data:=.fields #[rawInt T,.bool f,.bool false,.ref TI,.ref TO],slots:=#[] }
structure ZIt(h:Heap)(z TI i1 i2 l1 l2:Addr)(xs ys:Array Value)(i:Nat):Prop where
 it:IsPair h TI (.ref i1) (.ref i2)
 a:h.IsTupleIter i1 l1 i
 b:h.IsTupleIter i2 l2 i
 x:h.IsTuple l1 xs
 y:h.IsTuple l2 ys
def cB{h h':Heap}(x:h.IsTuple t xs)(k:∀o,h.get? t=some o->h'.get? t=some o):h'.IsTuple t xs:=let ⟨o,e,r⟩:=x;⟨o,k o e,r⟩
def wG{h h':Heap}(x:h.IsTupleIter i t n)(k:∀o,h.get? i=some o->h'.get? i=some o):h'.IsTupleIter i t n:=let ⟨o,e,r⟩:=x;⟨o,k o e,r⟩
def K9{Q:Value->Shared->Prop}(D:ZipApart z TI TO i1 i2 l1 l2)(hz:IsZip s.heap z TI TO .none)(hTI:IsPair s.heap TI (.ref i1) (.ref i2))(hTO:IsPair s.heap TO a b)(h1:s.heap.IsTupleIter i1 l1 k1)(h2:s.heap.IsTupleIter i2 l2 k2)(hl1:s.heap.IsTuple l1 xs)(hl2:s.heap.IsTuple l2 ys)(hx:xs[k1]?=some x)(hy:ys[k2]?=some y)(hQ:∀h',Xe h' z TI TO s.heap.objs.size false->h'.IsTupleIter i1 l1 (k1+1)->h'.IsTupleIter i2 l2 (k2+1)->IsPair h' s.heap.objs.size x y->h'.objs.size=s.heap.objs.size+1 ->
   (∀c o,c≠z->c≠TO->c≠i1->c≠i2->s.heap.get? c=some o->h'.get? c=some o)->Q (.ref s.heap.objs.size) { s with heap:=h' }):
  wpAny (model prog w) A (Builtin.«zip.__next__» ⟨[.ref z],[]⟩) (fun fin s'=>∃v,fin=.done (.ret v)/\Q v s') E s:=by
 show wpAny _ _ (field (.ref z) 2 >>= _) _ _ _;refine AA (As hz rfl rfl (AA (As hz rfl rfl (AA (BG hTI rfl (AA ?_))))))
 delta Builtin.SmallTypes.ownedTupleIsFree
 refine AA (As hz rfl rfl (AC ?_));refine AA (B8 (AA (As hz rfl rfl (AA (A9 hz (by simp) fun h₁ hz₁ hs₁=>?_)))))
 replace hz₁:IsZip h₁ z TI TO .ellipsis:=hz₁
 apply AA
 refine AA (AA (wpAny_onRaise (AA (oK (h1.extBut hs₁.extBut D.i1z) (hl1.extBut hs₁.extBut D.l1z) hx fun h₂ h1₂ hs₂=>AC ?_))));have hTO₂:=hs₂.extBut _ _ D.TOi1 (hs₁.extBut _ _ D.TOz hTO);refine AA (BG hTO₂ rfl (AA (wpAny_updateSeq_pair hTO₂ fun h₃ hTO₃ hs₃=>?_)))
 replace hTO₃:IsPair h₃ TO x b:=hTO₃
 refine AA (Dj (AC (AA (AA (wpAny_onRaise (AA (oK (((h2.extBut hs₁.extBut D.i2z).extBut hs₂.extBut D.i12.symm).extBut hs₃.extBut D.TOi2.symm)
  (((hl2.extBut hs₁.extBut D.l2z).extBut hs₂.extBut D.l2i1).extBut hs₃.extBut D.l2TO) hy fun h₄ h2₄ hs₄=>AC ?_)))))))
 have hTO₄:=hs₄.extBut _ _ D.TOi2 hTO₃;refine AA (BG hTO₄ rfl (AA (wpAny_updateSeq_pair hTO₄ fun h₅ hTO₅ hs₅=>?_)))
 replace hTO₅:IsPair h₅ TO x y:=hTO₅
 refine AA (Dj (AC (AC (AA (BG hTO₅ rfl (AA (Di ?_)))))));have hsz:h₅.objs.size=s.heap.objs.size:=by rw[hs₅.1,hs₄.1,hs₃.1,hs₂.1,hs₁.1]
 have hz₅:=hs₅.extBut _ _ D.TOz.symm (hs₄.extBut _ _ D.i2z.symm (hs₃.extBut _ _ D.TOz.symm (hs₂.extBut _ _ D.i1z.symm hz₁)))
 have hk₅:∀c o,c≠z->c≠TO->c≠i1->c≠i2->s.heap.get? c=some o->h₅.get? c=some o:=fun c o c1 c2 c3 c4 e=>
  hs₅.extBut _ _ c2 (hs₄.extBut _ _ c4 (hs₃.extBut _ _ c2 (hs₂.extBut _ _ c3 (hs₁.extBut _ _ c1 e))))
 have h1₅:=((h1₂.extBut hs₃.extBut D.TOi1.symm).extBut hs₄.extBut D.i12).extBut hs₅.extBut D.TOi1.symm;have hzlt:=AG hz₅
 apply AA
 have hz₆:IsZip (h₅.push { cls:=.type "tuple",data:=.seq #[x,y] }) z TI TO .ellipsis:=AD _ hz₅;refine AA (A9 hz₆ (by simp) fun h₇ hz₇ hs₇=>?_)
 replace hz₇:IsZip h₇ z TI TO (rawInt h₅.objs.size):=hz₇
 refine A9 hz₇ (by simp) fun h₈ hz₈ hs₈=>?_
 replace hz₈:Xe h₈ z TI TO h₅.objs.size false:=hz₈
 have up:∀c o,c≠z->h₅.get? c=some o->h₈.get? c=some o:=fun c o c1 e=>hs₈.extBut _ _ c1 (hs₇.extBut _ _ c1 (AD _ e));have hT₈:=hs₈.extBut _ _ (Ax hzlt) (hs₇.extBut _ _ (Ax hzlt) (AM _ rfl));have hz8:h₈.objs.size=h₅.objs.size+1:=by rw[hs₈.1,hs₇.1,B0]
 rw[hsz] at hz₈ hT₈ hz8;refine AC ⟨_,rfl,?_⟩;rw[hsz];exact hQ h₈ hz₈ (wG h1₅ fun o e=>up _ o D.i1z e) (wG (h2₄.extBut hs₅.extBut D.TOi2.symm) fun o e=>up _ o D.i2z e) hT₈ hz8 fun c o c1 c2 c3 c4 e=>up c o c1 (hk₅ c o c1 c2 c3 c4 e)
def ZC(hz:Xe s.heap z TI TO T f)(hT:s.heap.get? T=some oT):
  wpAny (model prog w) A (Builtin.SmallTypes.ownedTupleIsFree (.ref z)) (fun b s₁=>∃h₁,b=false/\s₁={ s with heap:=h₁ }/\Xe h₁ z TI TO T true/\Heap.SameBut z s.heap h₁) E s:=by
 refine AA (As hz rfl rfl (AA (W.kdx_alive hT (AA (As hz rfl rfl ?_)))))
 cases f with
 |true =>
  exact AC ⟨_,rfl,rfl,hz,Heap.SameBut.refl _ _⟩
 |false =>
  refine AA (A9 hz (by simp) fun h₃ he₃ hs₃=>?_);exact AC ⟨_,rfl,rfl,he₃,hs₃⟩
def K8{Q:Value->Shared->Prop}(D:ZipApart z TI TO i1 i2 l1 l2)(hz:Xe s.heap z TI TO T f)(hT:s.heap.get? T=some oT)(hTz:T≠z)(hTI:IsPair s.heap TI (.ref i1) (.ref i2))(h1:s.heap.IsTupleIter i1 l1 k1)(h2:s.heap.IsTupleIter i2 l2 k2)(hl1:s.heap.IsTuple l1 xs)(hl2:s.heap.IsTuple l2 ys)(hx:xs[k1]?=some x)(hy:ys[k2]?=some y)(hQ:∀h',Xe h' z TI TO T true->h'.IsTupleIter i1 l1 (k1+1)->h'.IsTupleIter i2 l2 (k2+1)->IsPair h' s.heap.objs.size x y->h'.objs.size=s.heap.objs.size+1 ->
   (∀c o,c≠z->c≠i1->c≠i2->s.heap.get? c=some o->h'.get? c=some o)->Q (.ref s.heap.objs.size) { s with heap:=h' }):
  wpAny (model prog w) A (Builtin.«zip.__next__» ⟨[.ref z],[]⟩) (fun fin s'=>∃v,fin=.done (.ret v)/\Q v s') E s:=by
 show wpAny _ _ (field (.ref z) 2 >>= _) _ _ _;refine AA (As hz rfl rfl (AA (As hz rfl rfl (AA (BG hTI rfl (AA (BP (ZC hz hT) ?_ fun _ _ h=>h)))))));rintro b s₁ ⟨h₁,rfl,rfl,hz₁,hs₁⟩
 simp only[ if_false]
 rw[<- DI];refine AA (AA (AA (Aw (AA (oK (h1.extBut hs₁.extBut D.i1z) (hl1.extBut hs₁.extBut D.l1z) hx fun h₂ h1₂ hs₂=>AC (AC (AA (AA (Aw (AA (oK (s:={ s with heap:=h₂ }) ((h2.extBut hs₁.extBut D.i2z).extBut hs₂.extBut D.i12.symm) ((hl2.extBut hs₁.extBut D.l2z).extBut hs₂.extBut D.l2i1) hy fun h₃ h2₃ hs₃=>AC (AC (AC (AA (Di (hsz:=y0 2 rfl) ?_)))))))))))))))
 have hsz:h₃.objs.size=s.heap.objs.size:=by rw[hs₃.1,hs₂.1,hs₁.1]
 refine AC ⟨_,rfl,?_⟩;have hT₃:IsPair (h₃.push { cls:=.type "tuple",data:=.seq #[x,y] }) h₃.objs.size x y:=AM _ rfl;rw[hsz] at hT₃ ⊢
 exact hQ _ (AD _ (hs₃.extBut _ _ D.i2z.symm (hs₂.extBut _ _ D.i1z.symm hz₁))) (wG (h1₂.extBut hs₃.extBut D.i12) fun o e=>AD _ e) (wG h2₃ fun o e=>AD _ e) hT₃ (by simp_all)
  fun c o c1 c2 c3 e=>AD _ (hs₃.extBut _ _ c3 (hs₂.extBut _ _ c2 (hs₁.extBut _ _ c1 e)))
def zt_end(hh:A.handled=none)(D:ZipApart z TI TO i1 i2 l1 l2)(hz:IsZip s.heap z TI TO .none\/∃T f oT,Xe s.heap z TI TO T f/\s.heap.get? T=some oT)(hTI:IsPair s.heap TI (.ref i1) (.ref i2))(h1:s.heap.IsTupleIter i1 l1 k1)(hl1:s.heap.IsTuple l1 xs)(hx:xs[k1]?=none)(hE:∀h' e,(∀c o,c≠z->c≠i1->s.heap.get? c=some o->h'.get? c=some o)->(∃o,h'.get? e=some o/\o.cls=.type "StopIteration")->E (.ref e) { s with heap:=h' }):
  wpAny (model prog w) A (Builtin.«zip.__next__» ⟨[.ref z],[]⟩) Q E s:=by
 rcases hz with hz | ⟨T,f,oT,hz,hT⟩
 .show wpAny _ _ (field (.ref z) 2 >>= _) _ _ _
  refine AA (As hz rfl rfl (AA (As hz rfl rfl (AA (BG hTI rfl (AA (AA (As hz rfl rfl (AC (AA (B8 (AA (As hz rfl rfl (AA (A9 hz (by simp) fun h₁ hz₁ hs₁=>?_)))))))))))))))
  replace hz₁:IsZip h₁ z TI TO .ellipsis:=hz₁
  apply AA
  refine AA (AA (wpAny_onRaise (AA (nU hh (h1.extBut hs₁.extBut D.i1z) (hl1.extBut hs₁.extBut D.l1z) hx fun h₂ e hs₂ he=>eQ he fun oe hoe hce=>?_))));have hz₂:=hs₂ _ _ D.i1z.symm hz₁;have hez:e≠z:=fun x=>by subst x;rw[hz₂] at hoe;cases hoe;simp at hce
  exact A9 hz₂ (by simp) fun h₃ _ hs₃=>hE h₃ e (fun c o c1 c3 x=>hs₃.extBut _ _ c1 (hs₂ _ _ c3 (hs₁.extBut _ _ c1 x))) ⟨oe,hs₃.extBut _ _ hez hoe,hce⟩
 .show wpAny _ _ (field (.ref z) 2 >>= _) _ _ _
  refine AA (As hz rfl rfl (AA (As hz rfl rfl (AA (BG hTI rfl (AA (BP (ZC hz hT) ?_ fun _ _ h=>h)))))));rintro b s₁ ⟨h₁,rfl,rfl,hz₁,hs₁⟩;exact AA (AA (AA (Aw (AA (nU hh (h1.extBut hs₁.extBut D.i1z) (hl1.extBut hs₁.extBut D.l1z) hx fun h₂ e hs₂ he=>hE h₂ e (fun c o c1 c3 x=>hs₂ _ _ c3 (hs₁.extBut _ _ c1 x)) he)))))
def ZSt(h:Heap)(z TI TO i1 i2 l1 l2 S:Addr)(xs ys:Array Value)(i:Nat):Prop :=
 ((i=0/\IsZip h z TI TO .none/\∃a b,IsPair h TO a b)\/∃T f oT,Xe h z TI TO T f/\h.get? T=some oT/\T≠z/\T≠i1/\T≠i2/\T≠S)/\ZIt h z TI i1 i2 l1 l2 xs ys i
theorem ZIt.at(x:ZIt h z TI i1 i2 l1 l2 xs ys i)(k:∀b o,(b=TI\/b=i1\/b=i2\/b=l1\/b=l2)->h.get? b=some o->h'.get? b=some o):ZIt h' z TI i1 i2 l1 l2 xs ys i :=
 ⟨k _ _ (.inl rfl) x.it,wG x.a fun o e=>k _ o (.inr (.inl rfl)) e,wG x.b fun o e=>k _ o (.inr (.inr (.inl rfl))) e,cB x.x fun o e=>k _ o (.inr (.inr (.inr (.inl rfl)))) e,cB x.y fun o e=>k _ o (.inr (.inr (.inr (.inr rfl)))) e⟩
def zt_item(D:ZipApart z TI TO i1 i2 l1 l2)(hl:l1≠TI/\l2≠TI)(hst:ZSt s.heap z TI TO i1 i2 l1 l2 S xs ys i)(hS:S < s.heap.objs.size)(hx:xs[i]?=some x)(hy:ys[i]?=some y)(hQ:∀h',ZSt h' z TI TO i1 i2 l1 l2 S xs ys (i+1)->IsPair h' s.heap.objs.size x y->h'.objs.size=s.heap.objs.size+1 ->
   (∀c o,c≠z->c≠TO->c≠i1->c≠i2->s.heap.get? c=some o->h'.get? c=some o)->Q (some (.ref s.heap.objs.size)) { s with heap:=h' }):
  wpAny (model prog w) A (pyNext (.ref z)) Q E s:=by
 obtain⟨hz,zi⟩:=hst;have lt:∀{c o},s.heap.get? c=some o->s.heap.objs.size≠c:=fun e=>Ax (AG e);have n1:=let ⟨o,e,_⟩:=zi.a;lt e
 have n2:=let ⟨o,e,_⟩:=zi.b;lt e
 have hT:s.TypeIs (.ref z) "zip":=by
  rcases hz with ⟨_,hz,_⟩ | ⟨_,_,_,hz,_⟩
  .exact ⟨_,hz,rfl⟩
  .exact ⟨_,hz,rfl⟩
 refine AA (DN (BB hT Dc (Ap Dc hT F.entry_zip_next ?_ (F.args_zip_next_1 _))))
 rcases hz with ⟨e0,hz,a,b,hTO⟩ | ⟨T,f,oT,hz,hoT,nz,ni1,ni2,nS⟩
 .refine K9 D hz zi.it hTO zi.a zi.b zi.x zi.y hx hy fun h' a1 a2 a3 a4 a5 a6=>AC (hQ h' ⟨.inr ⟨_,false,_,a1,a4,lt hz,n1,n2,Ax hS⟩,⟨a6 _ _ D.TIz D.TITO D.TIi1 D.TIi2 zi.it,a2,a3,cB zi.x fun o e=>a6 _ o D.l1z D.l1TO D.l1i1 D.l1i2 e,cB zi.y fun o e=>a6 _ o D.l2z D.l2TO D.l2i1 D.l2i2 e⟩⟩ a4 a5 a6)
 .refine K8 D hz hoT nz zi.it zi.a zi.b zi.x zi.y hx hy fun h' a1 a2 a3 a4 a5 a6=>AC (hQ h' ⟨.inr ⟨T,true,oT,a1,a6 _ _ nz ni1 ni2 hoT,nz,ni1,ni2,nS⟩,⟨a6 _ _ D.TIz D.TIi1 D.TIi2 zi.it,a2,a3,cB zi.x fun o e=>a6 _ o D.l1z D.l1i1 D.l1i2 e,cB zi.y fun o e=>a6 _ o D.l2z D.l2i1 D.l2i2 e⟩⟩ a4 a5 fun c o c1 _ c3 c4 e=>a6 c o c1 c3 c4 e)
def zt_done(hh:A.handled=none)(D:ZipApart z TI TO i1 i2 l1 l2)(hst:ZSt s.heap z TI TO i1 i2 l1 l2 S xs ys i)(hx:xs[i]?=none)(hQ:∀h',(∀c o,c≠z->c≠i1->s.heap.get? c=some o->h'.get? c=some o)->Q none { s with heap:=h' }):
  wpAny (model prog w) A (pyNext (.ref z)) Q E s:=by
 obtain⟨hz,zi⟩:=hst
 have hT:s.TypeIs (.ref z) "zip":=by
  rcases hz with ⟨_,hz,_⟩ | ⟨_,_,_,hz,_⟩
  .exact ⟨_,hz,rfl⟩
  .exact ⟨_,hz,rfl⟩
 refine AA (DN (BB hT Dc
  (Ap Dc hT F.entry_zip_next (zt_end hh D (by grind) zi.it zi.a zi.x hx fun h' e hk he=>?_) (F.args_zip_next_1 _))))
 exact eQ he fun o ho hc=>AA (CJ ⟨o,ho,hc⟩ isSubtype_stop (AC (hQ _ hk)))
end
structure ZG(xs ys:Array Value)(lo:Addr)(h:Heap)(as:List Addr):Prop where
 rise:as.Pairwise (· < ·)
 above:∀a∈as,lo < a
 pairs:∀(j:Nat)(a:Addr),as[j]?=some a->∃x y,xs[j]?=some x/\ys[j]?=some y/\IsPair h a x y
section
variable {prog:Program}{w:World}{A:Around}{s:Shared}{R:Result->Shared->Prop}{xs ys:Array Value}
def zt_loop(hh:A.handled=none)(D:ZipApart z TI TO i1 i2 l1 l2)(hl:l1≠TI/\l2≠TI)(hSn:S≠z/\S≠TI/\S≠TO/\S≠i1/\S≠i2/\S≠l1/\S≠l2)(hlo:S<=lo/\z<=lo/\TO<=lo/\i1<=lo/\i2<=lo)(he:xs.size=ys.size)(hn:xs.size<=sizeLine)res{h₁:Heap}(hR:∀h' tk acc c as,(∀b o,b≠S->b≠z->b≠TO->b≠i1->b≠i2->h₁.get? b=some o->h'.get? b=some o)->h'.get? S=some { cls:=.type "list",dict:=none,data:=.seq acc c,slots:=#[] }->as.length=xs.size->ZG xs ys lo h' as ->
   acc.toList=as.map Value.ref->R (.ok (.ret res)) { s with heap:=h',toks:=tk }):
  ∀k i h tk c acc as,xs.size - i=k->i<=xs.size->ZSt h z TI TO i1 i2 l1 l2 S xs ys i->(∀b o,b≠S->b≠z->b≠TO->b≠i1->b≠i2->h₁.get? b=some o->h.get? b=some o) ->
   h.get? S=some { cls:=.type "list",dict:=none,data:=.seq acc c,slots:=#[] }->acc.toList=as.map Value.ref->as.length=i->ZG xs ys lo h as->lo < h.objs.size ->
   codeAny (model prog w) A (.builtin "list.extend.loop" ⟨[.ref S,.ref z,res],[]⟩) R { s with heap:=h,toks:=tk }:=by
 have hne:=hSn.1;intro k
 induction k with
 |zero =>
  intro i h tk c acc as hk hi hst hkeep hS hacc hal hG hlt
  apply Bp CP
  refine AA (zt_done hh D hst (Array.getElem?_eq_none (by lia)) fun h' he'=>?_);refine AC (hR h' tk acc c as (fun b o b1 b2 b3 b4 b5 e=>he' b o b2 b4 (hkeep b o b1 b2 b3 b4 b5 e)) (he' S _ hne hSn.2.2.2.1 hS) (by lia) ⟨hG.rise,hG.above,fun j a hj=>?_⟩ hacc);obtain⟨x,y,e1,e2,e3⟩:=(hG.pairs j a hj);have ab:=hG.above a (Ah hj);exact⟨x,y,e1,e2,he' a _ (Ax (A3 hlo.2.1 ab)) (Ax (A3 hlo.2.2.2.1 ab)) e3⟩
 |succ k ih =>
  intro i h tk c acc as hk hi hst hkeep hS hacc hal hG hlt;have hix:i < xs.size:=by lia
  have hiy:i < ys.size:=by lia
  have hsz:acc.size=i:=by rw[<- A2,hacc,AB,hal]
  have hSl:=AG hS
  apply Bp CP
  refine AA (zt_item D hl hst hSl (Ar hix) (Ar hiy) fun h' hst' ht hz hkp=>?_);dsimp only at ht hz hkp ⊢;have hS':=hkp S _ hne hSn.2.2.1 hSn.2.2.2.1 hSn.2.2.2.2.1 hS;have up:∀b o,b≠S->h'.get? b=some o->(h'.update S (Obj.mapSeq (·.push (Value.ref h.objs.size)))).get? b=some o:=fun b o hb e=>(BK _ _ (Ne.symm hb)).trans e
  apply AA
  have hst2:ZSt (h'.update S (Obj.mapSeq (·.push (Value.ref h.objs.size)))) z TI TO i1 i2 l1 l2 S xs ys (i+1):=by
   refine⟨?_,hst'.2.at fun b o hb e=>up b o (fun z=>?_) e⟩
   .rcases hst'.1 with ⟨e0,_⟩ | ⟨T,f,oT,g1,g2,g3,g4,g5,g6⟩
    .cases e0
    .exact .inr ⟨T,f,oT,up _ _ hne.symm g1,up _ _ g6 g2,g3,g4,g5,g6⟩
   .rcases hb with rfl | rfl | rfl | rfl | rfl
    .exact hSn.2.1 z.symm
    .exact hSn.2.2.2.1 z.symm
    .exact hSn.2.2.2.2.1 z.symm
    .exact hSn.2.2.2.2.2.1 z.symm
    .exact hSn.2.2.2.2.2.2 z.symm
  refine B4 hS' rfl (AC ⟨B6 CN _,ih (i+1) _ tk _ (acc.push (Value.ref h.objs.size)) (as++[h.objs.size]) (by lia) hix hst2
   (fun b o b1 b2 b3 b4 b5 e=>up b o b1 (hkp b o b2 b3 b4 b5 (hkeep b o b1 b2 b3 b4 b5 e))) (A7 _ hS' rfl) (by rw[Array.toList_push,hacc,Ab];rfl) (by rw[AL,hal];rfl) ⟨?_,?_,?_⟩ ?_⟩) (by lia) (by rw[Array.size_push,hsz];lia)
  .refine List.pairwise_append.mpr ⟨hG.rise,List.pairwise_singleton _ _,fun a ha b hb=>?_⟩
   rw[AE.mp hb];obtain⟨j,hj⟩:=BU.mp ha;exact kZ (hG.pairs j a hj) fun _ _ _ _ e=>AG e
  .intro a ha
   rcases AV.mp ha with ha | ha
   .exact hG.above a ha
   .rwa [AE.mp ha]
  .intro j b hj
   rcases Nat.lt_trichotomy j as.length with h1 | h1 | h1
   .rw [Bo h1] at hj
    obtain⟨x,y,e1,e2,e3⟩:=(hG.pairs j b hj);have nb:∀{q:Addr},q<=lo->b≠q:=fun hq=>Ax (A3 hq (hG.above b (Ah hj)));exact⟨x,y,e1,e2,up b _ (nb hlo.1) (hkp b _ (nb hlo.2.1) (nb hlo.2.2.1) (nb hlo.2.2.2.1) (nb hlo.2.2.2.2) e3)⟩
   .subst h1
    have hb:h.objs.size=b:=by simpa using hj
    subst hb;exact⟨_,_,by rw[hal];exact Ar hix,by rw[hal];exact Ar hiy,up _ _ (Ax hSl) ht⟩
   .have hnone:(as++[h.objs.size])[j]?=none:=B7 (by rw[AL,AZ];lia)
    rw[hnone] at hj;cases hj
  .exact Nat.lt_trans hlt (AG (up _ _ (Ax hSl) ht))
end
def Xm:typeLookup (.type "zip") "__len__" = pure none:=by rw[typeLookup_type,Df];kernel_rfl
def aA:typeLookup (.type "zip") "__length_hint__" = pure none:=by rw[typeLookup_type,Df];kernel_rfl
section
variable {prog:Program}{w:World}{A:Around}{E:Value->Shared->Prop}{s:Shared}{xs ys:Array Value}
def zt_list(hh:A.handled=none)(D:ZipApart z TI TO i1 i2 l1 l2)(hl:l1≠TI/\l2≠TI)(hz:IsZip s.heap z TI TO .none)(hTO:IsPair s.heap TO .none .none)(zi:ZIt s.heap z TI i1 i2 l1 l2 xs ys 0)(he:xs.size=ys.size)(hn:xs.size<=sizeLine)(hQ:∀h' tk acc c as,(∀b o,b≠z->b≠TO->b≠i1->b≠i2->s.heap.get? b=some o->h'.get? b=some o)->h'.get? s.heap.objs.size=some { cls:=.type "list",dict:=none,data:=.seq acc c,slots:=#[] }->as.length=xs.size->ZG xs ys s.heap.objs.size h' as ->
   acc.toList=as.map Value.ref->Q (.ref s.heap.objs.size) { s with heap:=h',toks:=tk }):
  wpAny (model prog w) A (call (.type "list") [.ref z]) Q E s:=by
 have lz:=AG hz;have lTO:=AG hTO;have lTI:=AG zi.it;have li1:=let ⟨o,e,_⟩:=zi.a;AG e
 have li2:=let ⟨o,e,_⟩:=zi.b;AG e
 have ll1:=let ⟨o,e,_⟩:=zi.x;AG e
 have ll2:=let ⟨o,e,_⟩:=zi.y;AG e
 refine callType_codes (Q₁:=fun obj s₁=>obj=.ref s.heap.objs.size/\s₁={ s with heap:=s.heap.push { cls:=.type "list",data:=.seq #[] } }) F.called_list (F.typeCall_list_1 _) F.entry_list_init
  (code_list_new _ ⟨rfl,rfl⟩) fun obj s₁ h₁=>?_
 obtain⟨rfl,rfl⟩:=h₁;generalize hSe:s.heap.objs.size=S at *
 have hS:(s.heap.push { cls:=.type "list",data:=.seq #[] }).get? S=some { cls:=.type "list",data:=.seq #[] } :=hSe▸AM _ rfl;have hps:∀b o,s.heap.get? b=some o->(s.heap.push { cls:=.type "list",data:=.seq #[] }).get? b=some o:=fun b o e=>AD _ e;have hsz1:(s.heap.push { cls:=.type "list",data:=.seq #[] }).objs.size=S+1:=by rw[B0,hSe]
 generalize s.heap.push { cls:=.type "list",data:=.seq #[] }=g at hS hps hsz1 ⊢;refine⟨⟨_,hS,rfl⟩,F.args_list_init_2 _ _,AA ?_⟩
 delta Builtin.List.listItems
 refine AA (BG hS rfl (AC (AA (B4 hS rfl ?_))));have hS₂:=A7 (Obj.mapSeq (fun _=>(#[]:Array Value))) hS rfl;refine AA (Dj ?_);have oth:∀f b o(g:Heap),b≠S->g.get? b=some o->(g.update S (Obj.mapSeq f)).get? b=some o:=fun f b o g hb e=>(BK _ _ (Ne.symm hb)).trans e;have nS:∀{b:Addr},b < S->b≠S:=fun h=>Ad h
 have hps2:∀b o,b≠S->s.heap.get? b=some o->(g.update S (Obj.mapSeq (fun _=>(#[]:Array Value)))).get? b=some o:=fun b o hb e=>oth _ b o g hb (hps b o e);have hsz2:(g.update S (Obj.mapSeq (fun _=>(#[]:Array Value)))).objs.size=S+1 :=hsz1▸(BS ..).1;generalize g.update S (Obj.mapSeq (fun _=>(#[]:Array Value)))=g2 at hS₂ hps2 hsz2 ⊢;have hT:Shared.TypeIs { s with heap:=g2 } (.ref z) "zip":=⟨_,hps2 z _ (nS lz) hz,rfl⟩
 delta Builtin.List.listExtendWith
 refine AA (Cf hT ?_);have h1:Builtin.List.listSameRef (.ref S) (.ref z)=false:=by simp[Builtin.List.listSameRef,Ne.symm (nS lz)]
 have h2:(Value.type "zip" == Value.type "list")=false:=by decide
 have h3:(Value.type "zip" == Value.type "tuple")=false:=by decide
 simp only[h1,h2,h3,Bool.or_false,Bool.false_eq_true,if_false]
 refine AA (wpAny_pyIter_zip (hps2 z _ (nS lz) hz) (AA (Aw ?_)))
 delta Builtin.List.listLengthHint
 refine AA (Bc hT Xm (AA (Bc hT aA (AC ?_))));rw[AW (by simp)];refine AA (B8 (AA (AA (B4 hS₂ rfl ?_))));have hS₃:=A7 (Obj.mapSeq (·.push Value.none)) hS₂ rfl
 apply B4 hS₃ rfl
 have hS₄:=A7 (Obj.mapSeq (·.pop)) hS₃ rfl;have hps4:∀b o,b≠S->s.heap.get? b=some o->((g2.update S (Obj.mapSeq (·.push Value.none))).update S (Obj.mapSeq (·.pop))).get? b=some o:=fun b o hb e=>oth _ b o _ hb (oth _ b o _ hb (hps2 b o hb e));have hsz4:((g2.update S (Obj.mapSeq (·.push Value.none))).update S (Obj.mapSeq (·.pop))).objs.size=S+1:=by rw[(BS ..).1,(BS ..).1,hsz2]
 generalize (g2.update S (Obj.mapSeq (·.push Value.none))).update S (Obj.mapSeq (·.pop))=g4 at hS₄ hps4 hsz4 ⊢
 refine AC ⟨B6 F.plain_extend_loop _,zt_loop (A:=A.in1) hh D hl ⟨Ne.symm (nS lz),Ne.symm (nS lTI),Ne.symm (nS lTO),Ne.symm (nS li1),Ne.symm (nS li2),Ne.symm (nS ll1),Ne.symm (nS ll2)⟩ ⟨AH _,Bh lz,Bh lTO,Bh li1,Bh li2⟩ he hn .none (fun h' tk acc c as kp e ha hG hac=>?_)
  xs.size 0 g4 s.toks _ #[] [] (Nat.sub_zero _) (Ae _) ⟨.inl ⟨rfl,hps4 z _ (nS lz) hz,_,_,hps4 TO _ (nS lTO) hTO⟩,zi.at fun b o hb e=>hps4 b o (by rcases hb with rfl | rfl | rfl | rfl | rfl<;>exact nS ‹_›) e⟩ (fun b o hb _ _ _ _ e=>hps4 b o hb e) hS₄ rfl rfl ⟨List.Pairwise.nil,(fun _ ha=>nomatch ha),(fun j a hj=>by simp at hj)⟩ (hsz4▸Bw _)⟩
 exact⟨rfl,hQ h' tk acc c as (fun b o b1 b2 b3 b4 e2=>kp b o (fun q=>by rw[q] at e2;have:=AG e2;rw[hSe] at this;exact BI _ this) b1 b2 b3 b4 e2) e ha hG hac⟩
abbrev zpI(l:Addr):Obj:={ cls:=.type "tuple_iterator",data:=.fields #[.ref l,.int 0 0] }
abbrev zpP(a b:Value):Obj:={ cls:=.type "tuple",data:=.seq #[a,b] }
abbrev zpZ(TI TO:Addr):Obj:={ cls:=.type "zip",data:=.fields #[.none,.bool false,.bool false,.ref TI,.ref TO] }
def uN l1 l2 xs ys:
  Meets (Builtin.«zip.__new__» ⟨[.type "zip",.ref l1,.ref l2],[]⟩) (fun _ R s=>s.heap.IsTuple l1 xs/\s.heap.IsTuple l2 ys /\
   R (.ok (.ret (.ref ((((s.heap.push (zpI l1)).push (zpI l2)).push (zpP (.ref s.heap.objs.size) (.ref (s.heap.push (zpI l1)).objs.size))).push (zpP .none .none)).objs.size))) { s with heap:=((((s.heap.push (zpI l1)).push (zpI l2)).push (zpP (.ref s.heap.objs.size) (.ref (s.heap.push (zpI l1)).objs.size))).push (zpP .none .none)).push (zpZ ((s.heap.push (zpI l1)).push (zpI l2)).objs.size (((s.heap.push (zpI l1)).push (zpI l2)).push (zpP (.ref s.heap.objs.size) (.ref (s.heap.push (zpI l1)).objs.size))).objs.size) }) :=
 .of_wp fun prog w A R s h=>by
  obtain⟨hp,g,d,tk,os⟩:=s;obtain⟨hl1,hl2,h⟩:=h
  have hsub:=sub_zip;have hL2:Heap.IsTuple (Shared.heap ⟨hp.push { cls:=.type "tuple_iterator",data:=.fields #[.ref l1,.int 0 0] },g,d,tk,os⟩) l2 ys:=Heap.IsTuple.push hl2 _
  wp_walk using DB hl1,DB hL2
  exact⟨_,rfl,h⟩
end
end PySem
namespace L2
open PySem PySem.W PyProof.Rows
abbrev xM(z:Nat)(a:Addr)(o:Obj):Heap->Prop:=fun h=>z<=a/\h.get? a=some o
def QM{a:Addr}{z:Nat}(hz:z<=a)(e:h.get? a=some o):ObjOk P w H h a (.ext (xM z a o)):=⟨⟨hz,e⟩,⟨o,e⟩,fun _ _ ⟨q,e⟩ k=>⟨q,k _ e⟩⟩
def zpH(n:Nat)(H:Hp)(i1 i2 TI TO z l1 l2:Addr):Hp :=
 upd (upd (upd (upd (upd H i1 (.ext (xM n i1 (zpI l1)))) i2 (.ext (xM n i2 (zpI l2)))) TI (.ext (xM n TI (zpP (.ref i1) (.ref i2))))) TO (.ext (xM n TO (zpP .none .none)))) z (.ext (xM n z (zpZ TI TO)))
def eN(H:Hp)(ds:List Addr):Hp:=fun b=>if b∈ds then none else H b
def QU(h:b∈ds):eN H ds b=none:=AW h
def nB(h:b∉ds):eN H ds b=H b:=AX h
def Va{i2 TI TO z l1 l2}(h1:H i1=none)(h2:H i2=none)(h3:H TI=none)(h4:H TO=none)(h5:H z=none):eN (zpH n H i1 i2 TI TO z l1 l2) [z,TO,TI,i1,i2]=H:=by
 funext b
 by_cases hb:b∈[z,TO,TI,i1,i2]
 .rw [QU hb]
  simp only[List.mem_cons,List.not_mem_nil,or_false] at hb
  rcases hb with rfl | rfl | rfl | rfl | rfl
  .exact h5.symm
  .exact h4.symm
  .exact h3.symm
  .exact h1.symm
  .exact h2.symm
 .rw [nB hb]
  simp only[List.mem_cons,List.not_mem_nil,or_false,not_or] at hb
  delta zpH
  rw[mQ hb.1,mQ hb.2.1,mQ hb.2.2.1,mQ hb.2.2.2.2,mQ hb.2.2.2.1]
section
variable {X:Cx}{pins:List (Addr×Obj)}{σ:St}{H:Hp}{s:Shared}{h':Heap}
def Inv.goneT{f:Addr->Option (List V)}{l:Addr}(I:Inv X pins σ H s)(hd:∀b∈ds,∃φ,H b=some (.ext φ)/\X.s₀.heap.objs.size<=b)(k:∀b o,b∉ds->s.heap.get? b=some o->h'.get? b=some o)(hf:∀b xs,f b=some xs->s.heap.objs.size<=b/\xs.length<=sizeLine/\∃its:List Value,Vals xs its/\IsTupN h' b its.toArray)(hl:s.heap.objs.size<=l)(fl:f l=none)(new:ys.length<=sizeLine/\∃its:List Value,∃n,Vals ys its/\h'.get? l=some (seqObj "list" its.toArray n)):Inv X pins σ (upd (layT (eN H ds) f) l (.lst ys)) { s with heap:=h',toks:=t' }:=by
 have nl:∀{b u},H b=some u->b≠l:=fun e z=>by rw[z,(I.hok.fresh hl)] at e;cases e
 have nd:∀{b u},H b=some u->(∀ψ,u≠.ext ψ)->b∉ds:=fun e h z=>by
  obtain⟨φ,e',_⟩:=hd _ z;rw[e] at e';cases e';exact h φ rfl
 have kp:∀{b u},H b=some u->b∉ds->upd (layT (eN H ds) f) l (.lst ys) b=some u:=fun {b u}e h=>by
  rw[mQ (nl e)]
  cases z:f b with
  |none=>rwa [gK z,nB h]
  |some xs=>rw[(fun b xs e=>I.hok.fresh (hf b xs e).1) b xs z] at e;cases e
 have dl:∀{b u},H b=some u->(∀ψ,u≠.ext ψ)->upd (layT (eN H ds) f) l (.lst ys) b=some u:=fun e h=>kp e (nd e h)
 refine I.step (g':=s.gens) (d':=s.drawn) (fun b hb=>?_) (fun b o _ _ hc e _=>k b o hc e) (fun b o _ _ hc e _=>⟨o.slots,k b o hc e⟩) (fun b u hc e n=>?_)
  (fun b o hc e=>⟨o,k b o hc e⟩) (fun b xs e=>dl e fun _ z=>nomatch z) (fun b o u e=>dl e fun _ z=>nomatch z) (fun b ps e=>⟨#[],by rw[dl e fun _ z=>nomatch z];simp⟩) (fun m hm=>?_) (fun b u e=>?_) I.bare
 .refine eQ (hd b hb) fun φ e1 e2=>⟨.inr e2,fun z=>?_,fun x c e z=>?_,fun p hp z=>?_⟩
  .rw [z,I.free] at e1;cases e1
  .have:=I.freeC x c e;rw[z,e1] at this;cases this
  .have:=(I.pin p hp).2.1;rw[z,e1] at this;cases this
 .rw [mQ (Ad (AS (AG e) hl))]
  cases z:f b with
  |none=>rwa [gK z,nB hc]
  |some xs=>exact absurd (AG e) (Nat.not_lt.mpr (hf b xs z).1)
 .exact Ya hm fun o es ep ho r=>⟨o,es,ep,k _ o (fun z=>by obtain⟨φ,e1,_⟩:=hd _ z;rw[I.free] at e1;cases e1) ho,r⟩
 .by_cases hbl:b=l
  .subst hbl;rw[fQ] at e;cases e;exact new
  .rw [mQ hbl] at e
   cases z:f b with
   |some xs =>
    rw[kG z] at e;cases e;obtain⟨_,h2,its,h3,h4⟩:=hf b xs z;exact⟨h2,its,h3,h4⟩
   |none =>
    rw[gK z] at e
    by_cases hbi:b∈ds
    .rw [QU hbi] at e;cases e
    .rw [nB hbi] at e
     refine(I.hok b u e).stay (fun c v hc q=>k c v ?_ q) (fun c q=>dl q fun _ z=>nomatch z) fun c xs q=>dl q fun _ z=>nomatch z
     rcases hc with z | z
     .rwa [z]
     .grind
end
section
variable {X:Cx}
def KL:CallR X (.type "zip") (fun xs H Q=>∃l1 l2 as bs,xs=[.ref l1,.ref l2]/\SqT X.K H l1 as/\SqT X.K H l2 bs/\∀i1 i2 TI TO z,H i1=none->H i2=none->H TI=none->H TO=none->H z=none->ZipApart z TI TO i1 i2 l1 l2->l1≠TI/\l2≠TI->Q (.ref z) (zpH X.s₀.heap.objs.size H i1 i2 TI TO z l1 l2)):=by
 intro pins s σ H xs us Q I r h;obtain⟨l1,l2,as,bs,rfl,h1,h2,q⟩:=h;obtain⟨u,v,rfl,rfl,ry⟩:=r.two;cases ry;refine aJ (I.tuple h1) fun its1 r1 p1 _=>aJ (I.tuple h2) fun its2 r2 p2 _=>callType_new F.called_zip rfl (F.typeCall_zip_2 _ _) (F.newCall_zip_2 _ _) (fun obj=>F.args_object_init_3 obj _ _) F.entry_zip_new (uN l1 l2 its1.toArray its2.toArray) ⟨p1,p2,?_⟩;have ll1:=let ⟨o,e,_⟩:=p1;AG e
 have ll2:=let ⟨o,e,_⟩:=p2;AG e
 have hn:=I.sz;have z1:(s.heap.push (zpI l1)).objs.size=s.heap.objs.size+1:=B0 ..;have z2:((s.heap.push (zpI l1)).push (zpI l2)).objs.size=s.heap.objs.size+2 :=by simp_all
 rw[z1,z2];have z3:(((s.heap.push (zpI l1)).push (zpI l2)).push (zpP (.ref s.heap.objs.size) (.ref (s.heap.objs.size+1)))).objs.size=s.heap.objs.size+3 :=by simp_all
 rw[z3];have z4:((((s.heap.push (zpI l1)).push (zpI l2)).push (zpP (.ref s.heap.objs.size) (.ref (s.heap.objs.size+1)))).push (zpP .none .none)).objs.size=s.heap.objs.size+4 :=by simp_all
 rw[z4];generalize hS:s.heap.objs.size=S at *
 have g1:(s.heap.push (zpI l1)).get? S=some (zpI l1) :=hS▸AM _ rfl;have I1:Inv X pins σ (upd H S (.ext (xM X.s₀.heap.objs.size S (zpI l1)))) { s with heap:=s.heap.push (zpI l1),toks:=s.toks }:=I.laid (fun b o e=>AD _ e) (CK hS) (QM hn g1);have g2:((s.heap.push (zpI l1)).push (zpI l2)).get? (S+1)=some (zpI l2) :=z1▸AM _ rfl;have I2:=I1.laid (t':=s.toks) (o:=.ext (xM X.s₀.heap.objs.size (S+1) (zpI l2))) (h':=(s.heap.push (zpI l1)).push (zpI l2)) (fun b o e=>AD _ e) (CK z1) (QM (BE hn) g2)
 have g3:(((s.heap.push (zpI l1)).push (zpI l2)).push (zpP (.ref S) (.ref (S+1)))).get? (S+2)=some (zpP (.ref S) (.ref (S+1))) :=z2▸AM _ rfl;have I3:=I2.laid (t':=s.toks) (o:=.ext (xM X.s₀.heap.objs.size (S+2) (zpP (.ref S) (.ref (S+1))))) (h':=((s.heap.push (zpI l1)).push (zpI l2)).push (zpP (.ref S) (.ref (S+1)))) (fun b o e=>AD _ e) (CK z2) (QM (BE (BE hn)) g3)
 have g4:((((s.heap.push (zpI l1)).push (zpI l2)).push (zpP (.ref S) (.ref (S+1)))).push (zpP .none .none)).get? (S+3)=some (zpP .none .none) :=z3▸AM _ rfl;have I4:=I3.laid (t':=s.toks) (o:=.ext (xM X.s₀.heap.objs.size (S+3) (zpP .none .none))) (h':=(((s.heap.push (zpI l1)).push (zpI l2)).push (zpP (.ref S) (.ref (S+1)))).push (zpP .none .none)) (fun b o e=>AD _ e) (CK z3) (QM (BE (BE (BE hn))) g4)
 have g5:(((((s.heap.push (zpI l1)).push (zpI l2)).push (zpP (.ref S) (.ref (S+1)))).push (zpP .none .none)).push (zpZ (S+2) (S+3))).get? (S+4)=some (zpZ (S+2) (S+3)) :=z4▸AM _ rfl;have I5:=I4.laid (t':=s.toks) (o:=.ext (xM X.s₀.heap.objs.size (S+4) (zpZ (S+2) (S+3)))) (h':=((((s.heap.push (zpI l1)).push (zpI l2)).push (zpP (.ref S) (.ref (S+1)))).push (zpP .none .none)).push (zpZ (S+2) (S+3))) (fun b o e=>AD _ e) (CK z4) (QM (BE (BE (BE (BE hn)))) g5)
 have fr:∀{b:Addr},S<=b->H b=none:=fun hb=>I.hok.fresh (by rwa [hS]);refine⟨⟨_,g5,rfl⟩,.ref (S+4),_,I5,rfl,q S (S+1) (S+2) (S+3) (S+4) (fr (AH _)) (fr (BV _ _)) (fr (BV _ _)) (fr (BV _ _)) (fr (BV _ _)) ?_ ?_⟩
 .have:=zipApart_new ll1 ll2
  exact this
 .lia
def zpF(ps:List Addr)(as bs:List V):Addr->Option (List V):=fun b=>if b∈ps then some [as.getD (ps.idxOf b) .non,bs.getD (ps.idxOf b) .non] else none
def zpF_at(nd:ps.Nodup){j:Nat}(h:ps[j]?=some a)(hx:as[j]?=some x)(hy:bs[j]?=some y):zpF ps as bs a=some [x,y] :=by grind[zpF,List.getElem_mem,nd.idxOf_getElem]
def kA(hc:X.calm=true):CallR X (.type "list") (fun xs H Q=>∃i1 i2 TI TO z l1 l2 as bs,xs=[.ref z]/\H i1=some (.ext (xM X.s₀.heap.objs.size i1 (zpI l1)))/\H i2=some (.ext (xM X.s₀.heap.objs.size i2 (zpI l2)))/\H TI=some (.ext (xM X.s₀.heap.objs.size TI (zpP (.ref i1) (.ref i2))))/\H TO=some (.ext (xM X.s₀.heap.objs.size TO (zpP .none .none)))/\H z=some (.ext (xM X.s₀.heap.objs.size z (zpZ TI TO))) /\
  SqT X.K H l1 as/\SqT X.K H l2 bs/\as.length=bs.length/\ZipApart z TI TO i1 i2 l1 l2/\(l1≠TI/\l2≠TI)/\∀ps l,ps.length=as.length->ps.Nodup->(∀b∈ps,H b=none)->H l=none->l∉ps->Q (.ref l) (upd (layT (eN H [z,TO,TI,i1,i2]) (zpF ps as bs)) l (.lst (ps.map V.ref)))):=by
 intro pins s σ H xs us Q I r h;obtain⟨i1,i2,TI,TO,z,l1,l2,as,bs,rfl,h1,h2,h3,h4,h5,t1,t2,hl,D,hlt,q⟩:=h;obtain⟨u,rfl,rfl⟩:=zF r;refine aJ (I.tuple t1) fun its1 r1 p1 z1=>aJ (I.tuple t2) fun its2 r2 p2 z2=>?_;have e1:=(I.hok _ _ h1).1;have e2:=(I.hok _ _ h2).1;have e3:=(I.hok _ _ h3).1;have e4:=(I.hok _ _ h4).1;have e5:=(I.hok _ _ h5).1;have n1:=r1.length;refine zt_list (I.ok.hd hc) D hlt e5.2 e4.2 ⟨e3.2,⟨_,e1.2,rfl,rfl⟩,⟨_,e2.2,rfl,rfl⟩,p1,p2⟩ (by rw[Au,Au,<- n1,<- r2.length,hl]) (by grind) fun h' tk acc c ps kp el hn G ha=>?_
 have nd:=G.rise.imp fun h=>Ad h;rw[Au,<- n1] at hn;have up:=G.above;have nlp:s.heap.objs.size∉ps:=fun z=>BI _ (up _ z);have ez:acc=(ps.map Value.ref).toArray:=by rw[<- ha,Array.toArray_toList]
 have rv:Vals (ps.map V.ref) (ps.map Value.ref):=by
  clear nd hn up nlp ez G q ha
  induction ps with
  |nil=>exact .nil
  |cons a as ih=>exact .cons rfl ih
 refine⟨.ref s.heap.objs.size,_,I.goneT (t':=tk) (fun b hb=>?_) (fun b o hb e=>?_) (fun b xs e=>?_) (AH _) ?_ ⟨by rw[AB,hn];exact z1,_,c,rv,by rwa [<- ez]⟩,rfl,q ps _ hn nd (fun b hb=>I.hok.fresh (Bh (up b hb))) (I.hok.fresh (AH _)) nlp⟩
 .simp only[List.mem_cons,List.not_mem_nil,or_false] at hb
  rcases hb with rfl | rfl | rfl | rfl | rfl
  .simp_all
  .exact ⟨_,h4,e4.1⟩
  .exact ⟨_,h3,e3.1⟩
  .exact ⟨_,h1,e1.1⟩
  .exact ⟨_,h2,e2.1⟩
 .grind
 .unfold zpF at e
  split at e
  .next hb =>
   cases e;have hj:=List.idxOf_lt_length_of_mem hb;have hg:ps[ps.idxOf b]?=some b :=by grind
   generalize ps.idxOf b=j at hj hg ⊢;refine kZ (G.pairs j b hg) fun x y g1 g2 g3=>?_;rw[List.getElem?_toArray] at g1 g2;refine⟨Bh (up b hb),y0 2 rfl,[x,y],.cons ?_ (.cons ?_ .nil),⟨_,g3,rfl,⟨_,rfl⟩,rfl⟩⟩
   .have q0:as[j]?=some as[j]:=AO (by omega)
    refine eQ (r1.get q0) fun u q1 q2=>?_;rw[g1] at q1;cases q1
    rwa [Bl,q0]
   .have q0:bs[j]?=some bs[j]:=AO (by omega)
    refine eQ (r2.get q0) fun u q1 q2=>?_;rw[g2] at q1;cases q1
    rwa [Bl,q0]
  .cases e
 .delta zpF
  rw[AX nlp]
end
end L2
namespace CL
open PySem PySem.Spec L2 PySem.W
open PyProof.Rows hiding St
section
variable {X:Cx}{a b:Expr}{pos:Pos}
@[irreducible] def cZip:PV->PV->CH->K1->Prop:=fun x y C Q=>match x,y with
 |.tup xs,.tup ys=>xs.length=ys.length/\∀p,C p=none->Q (.ref p) (uQ C p (.lst (List.zipWith (fun a b=>PV.tup [a,b]) xs ys)))
 |_,_=>False
def Yz(ca cb:TCE):TCE:=fun ρ C Q=>ca ρ C fun x C1=>cb ρ C1 fun y C2=>cZip x y C2 Q
def zip_s(h:xs.length=ys.length)(q:∀p,C p=none->Q (.ref p) (uQ C p (.lst (List.zipWith (fun a b=>PV.tup [a,b]) xs ys)))):cZip (.tup xs) (.tup ys) C Q:=by
 delta cZip
 exact⟨h,q⟩
theorem HRel.layT{K}(h:HRel K H C)(hf:∀b xs,f b=some xs->H b=none):HRel K (L2.layT H f) C/\Fw H C (L2.layT H f) C/\Imm H (L2.layT H f):=by
 have k:∀{b:Addr}{o:HO},H b=some o->L2.layT H f b=some o:=fun e=>bK hf e;have im:Imm H (L2.layT H f):=fun b o _ e=>k e;refine⟨fun b u c=>?_,fun b c n=>⟨rfl,?_⟩,im⟩
 .exact eQ ((h b u c).mut) fun v e _=>(h b u c).imm im (by simp_all)
 .cases e:H b with
  |none=>exact absurd e n
  |some o=>exact k e
theorem sI{K}{f:Addr->Option (List V)}:∀{ps:List Addr}{vs ws}{xs ys},Reps K H vs xs->Reps K H ws ys->ps.length=xs.length->xs.length=ys.length->(∀(j:Nat)p v w,ps[j]?=some p->vs[j]?=some v->ws[j]?=some w->H p=some (.tup [v,w]))->Reps K H (ps.map V.ref) (List.zipWith (fun a b=>PV.tup [a,b]) xs ys)
 |[],_,_,[],_,.nil,_,_,_,_=>.nil
 |p::ps,v::vs,w::ws,x::xs,y::ys,.cons h1 r1,.cons h2 r2,e1,e2,hp =>
  .cons (.tup (hp 0 p v w rfl rfl rfl) (.cons h1 (.cons h2 .nil))) (sI (f:=f) r1 r2 (A4 e1) (A4 e2) fun j p' v' w' a1 a2 a3=>hp (j+1) p' v' w' a1 a2 a3)
 |[],_,_,_::_,_,_,_,e1,_,_=>nomatch e1
 |_::_,_,_,[],_,_,_,e1,_,_=>nomatch e1
 |_::_,_,_,_::_,[],_,_,_,e2,_=>nomatch e2
def Zs{p p2 pos2}(hc:X.calm=true)(hm:X.mg "list" = none)(hm2:X.mg "zip" = none)(ha:CE X a ca)(hb:CE X b cb)(hg:Gl X "list":=by rfl)(hg2:Gl X "zip":=by rfl)(hs:xX a=true:=by rfl)(hs2:xX b=true:=by rfl):
  CE X (.Call (.Name "list" p) [.Call (.Name "zip" p2) [a,b] [] pos2] [] pos) (Yz ca cb):=⟨JE.weak (vL (kA hc) hg hm rfl (mP (vL KL hg2 hm2 rfl (mP ha.h (mP hb.h ⟨XI⟩ hs2) hs) (by decide) rfl hs (by grind)) ⟨XI⟩)) fun σ H Q zz=>pX zz fun ρ C R s h q f=>
  ⟨ρ,C,_,s,h,q,fun x H1 px C1 q1 rx h1 f1=>⟨ρ,C1,_,s.imm (f1.imm h),h1,q1,fun y H2 py C2 q2 ry h2 f2=>by
   have rx:=rx.imm (f2.imm h1)
   delta cZip at q2
   split at q2
   .next xs ys =>
    cases rx with
    |@tup l1 vs _ hx rx =>
    cases ry with
    |@tup l2 ws _ hy ry =>
    have lx:=rx.len;refine⟨_,_,_,_,rfl,.inl (.inl hx),.inl (.inl hy),fun i1 i2 TI TO z o1 o2 o3 o4 o5 D hl=>?_⟩;have ne:∀{b c:Addr}{u:HO},H2 b=some u->H2 c=none->b≠c:=fun e1 e2 z=>by rw[z,e2] at e1;cases e1
    have k5:∀{n:Nat}{b:Addr}{u:HO},H2 b=some u->zpH n H2 i1 i2 TI TO z l1 l2 b=some u:=fun e=>by
     delta zpH
     rwa [mQ (ne e o5),mQ (ne e o4),mQ (ne e o3),mQ (ne e o2),mQ (ne e o1)]
    refine⟨i1,i2,TI,TO,z,_,_,_,_,rfl,?_,?_,?_,?_,fQ,.inl (.inl (k5 hx)),.inl (.inl (k5 hy)),lx.trans (q2.1.trans ry.len.symm),D,hl,fun ps l hn nd hfr hl0 nlp=>?_⟩
    .delta zpH;rw[mQ D.i1z,mQ (Ne.symm D.TOi1),mQ (Ne.symm D.TIi1),mQ D.i12,fQ]
    .delta zpH;rw[mQ D.i2z,mQ (Ne.symm D.TOi2),mQ (Ne.symm D.TIi2),fQ]
    .delta zpH;rw[mQ D.TIz,mQ D.TITO,fQ]
    .delta zpH;rw[mQ D.TOz,fQ]
    .have back:∀{b:Addr},zpH X.s₀.heap.objs.size H2 i1 i2 TI TO z l1 l2 b=none->H2 b=none:=fun {b}e=>by
      cases e2:H2 b with
      |none=>rfl
      |some u=>rw[k5 e2] at e;cases e
     rw[Va o1 o2 o3 o4 o5];have hl1:=back hl0
     have fr:∀b us,zpF ps vs ws b=some us->H2 b=none:=fun b us e=>by
      delta zpF at e
      split at e
      .grind
      .cases e
     refine QR (h2.layT fr) fun h3 f3 im3=>?_;have l3:L2.layT H2 (zpF ps vs ws) l=none:=by rw[gK (by delta zpF;rw[AX nlp])];exact hl1
     exact f _ _ _ _ (q2.2 l (h2.fresh hl1)) (.ref l) (h3.lay l3 ⟨_,fQ,Reps.imm (Imm.new l3 _) (sI (f:=fun _=>none) (rx.imm im3) (ry.imm im3) (hn.trans lx) q2.1 fun j p' v' w' a1 a2 a3=>kG (zpF_at nd a1 a2 a3))⟩) (f1.trans (f2.trans (f3.trans (Fw.lay l3 _ _))))
   .exact q2.elim⟩⟩⟩
end
end CL
namespace PySem
open PySem.Spec PyProof.Rows PyProof.Rows.F
section
variable {prog:Program}{w:World}{κ:Type}[DecidableEq κ]{knd:KeyKind prog w κ}{A:Around}{d it t:Addr}{items:Array Value}{qs:List (List κ×Addr×Value)}{res:Value}
def pB(acc qs:List (List κ×Addr×Value)):List (List κ×Addr×Value):=qs.foldl (fun acc q=>storedH acc q.1 q.2.1 q.2.2) acc
def wB(x:IsTupleKey knd h ks a)(e:∀o,h.get? a=some o->h'.get? a=some o):IsTupleKey knd h' ks a:=let ⟨o,i,n,q,r⟩:=x;⟨o,i,n,e o q,r⟩
def aN(x:h.DictOfH (tupleKind knd) d xs)(e:∀o,h.get? d=some o->h'.get? d=some o)(k:∀(ks:List κ)(a:Addr),IsTupleKey knd h ks a->IsTupleKey knd h' ks a):h'.DictOfH (tupleKind knd) d xs :=
 let ⟨o,es,ep,q,c1,c2,c3,c4,c5⟩:=x;⟨o,es,ep,e o q,c1,c2,c3,fun x hx=>k _ _ (c4 x hx),c5⟩
def mI acc(k:List κ)a v:(storedH acc k a v).length<=acc.length+1:=by
 cases e:atKey acc k with
 |none=>rw[storedH_new e,AL];exact AH _
 |some p=>rw[storedH_old e,AB];exact Bv _
def Ka(calm:A.in1.handled=none)(hu:A.in1.units < cLine)(ndi:d≠it)(ndt:d≠t)(nti:t≠it)(stop:items[qs.length]?=none):∀r i s acc,i+r=qs.length ->
   s.heap.IsTupleIter it t i->s.heap.IsTuple t items->s.heap.DictOfH (tupleKind knd) d acc->acc.length+r<=sizeLine ->
   (∀j(h:j < qs.length),∃p,items[j]?=some (.ref p)/\p≠d/\p≠it/\s.heap.IsTuple p #[.ref qs[j].2.1,qs[j].2.2]/\IsTupleKey knd s.heap qs[j].1 qs[j].2.1) ->
   (∀h tk,(∀b o,b≠d->b≠it->s.heap.get? b=some o->h.get? b=some o)->h.DictOfH (tupleKind knd) d (pB acc (qs.drop i))->R (.ok (.ret res)) { s with heap:=h,toks:=tk }) ->
   codeAny (model prog w) A (.builtin "dict.update.loop" ⟨[.ref d,.ref it,rawInt i,res],[]⟩) R s:=by
 have nit:∀{h:Heap}{ks:List κ}{a:Addr}{i:Nat},IsTupleKey knd h ks a->h.IsTupleIter it t i->a≠it:=by
  rintro h ks a i ⟨o,x,n,e,c,_⟩ ⟨o',e',c',_⟩ rfl;rw[e] at e';cases e';rw[c] at c';exact absurd c' (by decide)
 have nid:∀{h:Heap}{ks:List κ}{a:Addr}{xs:List (List κ×Addr×Value)},IsTupleKey knd h ks a->h.DictOfH (tupleKind knd) d xs->a≠d:=by
  rintro h ks a xs ⟨o,x,n,e,c,dd,_⟩ ⟨o',es,ep,e',_,c',_⟩ rfl;rw[e] at e';cases e';rw[dd] at c';cases c'
 intro r
 induction r with
 |zero =>
  intro i s acc e iti tt dd hz key fin;have ei:i=qs.length:=by lia
  subst ei;rw[By] at fin;exact Bp yT ((Around.under_plainId aD _)▸AA (wpAny_pyNext_tuple_end calm iti tt stop fun h x=>AA (AC (AC (fin h s.toks (fun b o _ nb q=>x b o nb q) (aN dd (fun o q=>x d o ndi q) fun ks a hk=>wB hk fun o q=>x a o (nit hk iti) q))))))
 |succ r ih =>
  intro i s acc e iti tt dd hz key fin;have hi:i < qs.length:=by lia
  refine QO (key i hi) fun p hp npd npi tp kk=>Bp yT (AA (wpAny_pyNext_tuple_item iti tt hp fun h1 it1 b1=>?_));have tk1:∀ks a,IsTupleKey knd s.heap ks a->IsTupleKey knd h1 ks a:=fun ks a hk=>wB hk fun o q=>b1.extBut a o (nit hk iti) q;have tp1:=tW tp fun o q=>b1.extBut p o npi q;refine AA (Aw (AA (wpAny_tryCatch (AA (Cf tp1.typeIs ?_)))))
  obtain⟨op,e1,e2,n,e3⟩:=id tp1;refine AA (BG e1 e3 (AC (Aw (wpAny_dictSet_heap hu (tk1 _ _ kk) (aN dd (fun o q=>b1.extBut d o ndi q) tk1) (fun h2 dd2 b2=>?_) (by lia)))))
  have em:pB acc (qs.drop i)=pB (storedH acc qs[i].1 qs[i].2.1 qs[i].2.2) (qs.drop (i+1)):=by
   rw[Az hi];rfl
  refine AC ⟨B6 aD _,?_⟩;have ek:rawInt ((i:Int)+1)=rawInt ((i+1:Nat):Int):=by rw[Int.natCast_add];rfl
  refine ih (i+1) _ (storedH acc qs[i].1 qs[i].2.1 qs[i].2.2) (by lia) (X6 it1 fun o q=>(b2.2 it (Ne.symm ndi)).trans q) (tW (tW tt fun o q=>b1.extBut t o nti q) fun o q=>(b2.2 t (Ne.symm ndt)).trans q) dd2 ?_ (fun j hj=>?_) fun h tk keep dd3=>?_
  .have:=mI acc qs[i].1 qs[i].2.1 qs[i].2.2
   lia
  .exact QO (key j hj) fun p' a1 a2 a3 a4 a5=>⟨p',a1,a2,a3,tW (tW a4 fun o q=>b1.extBut p' o a3 q) fun o q=>(b2.2 p' a2).trans q,wB (tk1 _ _ a5) fun o q=>(b2.2 _ (nid a5 dd)).trans q⟩
  .rw [<- em] at dd3
   exact fin h tk (fun b o n1 n2 q=>keep b o n1 n2 ((b2.2 b n1).trans (b1.extBut b o n2 q))) dd3
def QJ{id}(calm:A.handled=none)(calm0:A₀.in1.handled=none)(hu:A₀.in1.units < cLine)(ndt:d≠t)(ho:s.heap.get? t=some o)(hc:o.cls=.type "tuple")(hdat:o.data=.seq items n)(hno:o.dict=none)(dd:s.heap.DictOfH (tupleKind knd) d [])(hz:qs.length<=sizeLine)(stop:items[qs.length]?=none)(key:∀j(h:j < qs.length),∃p,items[j]?=some (.ref p)/\p≠d/\s.heap.IsTuple p #[.ref qs[j].2.1,qs[j].2.2]/\IsTupleKey knd s.heap qs[j].1 qs[j].2.1)(fin:∀(h:Heap)(tk:Nat),(∀b o,b≠d->s.heap.get? b=some o->h.get? b=some o)->h.DictOfH (tupleKind knd) d (pB [] qs)->R (.ok (.ret res)) { s with heap:=h,toks:=tk }):
  wpAny (model prog w) A (Builtin.Dict.updateFrom id d (.ref t) [] res) (fun fin s'=>match fin with | .done f=>R (.ok f) s' | .again c'=>c'.quiet=true/\codeAny (model prog w) A₀ c' R s') E s:=by
 have tt:s.heap.IsTuple t items:=⟨o,ho,hc,n,hdat⟩;refine AA (Cf tt.typeIs (AA (gR ho hc hdat hno calm fun h1 tk1 k1=>AA (B8 ?_))));have tt1:=tW tt fun o q=>k1 t o q;refine AA (DB tt1 ?_);have hd1 :=Ya dd fun od es ep q _=>AG (k1 d od q);refine AC ⟨B6 aD _,Ka (knd:=knd) calm0 hu (Ad hd1) ndt (Ad (AG (k1 t o ho))) stop qs.length 0 _ [] (Bt _) ⟨_,AM _ rfl,rfl,rfl⟩ (tt1.push _) ?_ (by simp_all) (fun j hj=>?_) fun h tk keep dd'=>?_⟩
 .exact aN dd (fun o q=>AD _ (k1 d o q)) fun ks a hk=>wB hk fun o q=>AD _ (k1 a o q)
 .refine Zk (key j hj) fun p a1 a2 a3 a4=>?_
  have hp :=eQ a3 fun op q _=>AG (k1 p op q);exact⟨p,a1,a2,Ad hp,tW a3 fun o q=>AD _ (k1 p o q),wB a4 fun o q=>AD _ (k1 _ o q)⟩
 .exact fin h tk (fun b o nb q=>keep b o nb (Ad (AG (k1 b o q))) (AD _ (k1 b o q))) dd'
end
end PySem
namespace L2
open PySem PySem.Spec PyProof.Rows
abbrev TPrs(H:Hp):List Addr->List (List Key×V)->Prop:=Paired fun a p=>∃b,H a=some (.tup [.ref b,p.2])/\H b=some (.tup (p.1.map kV))
theorem eR(ok:HOk P w H h):∀{pa}{ps},TPrs H pa ps->∃qs,KT H ps qs/\pa.length=qs.length /\
  ∀j(hj:j < qs.length),∃p,pa[j]?=some p/\h.IsTuple p #[.ref qs[j].2.1,qs[j].2.2]/\IsTupleKey (cX P w) h qs[j].1 qs[j].2.1
 |_,_,.nil=>⟨[],.nil,rfl,fun j hj=>absurd hj (Bq j)⟩
 |_,_,@Paired.cons _ _ _ a p l1 l2 ⟨b,e,eb⟩ r=>by
  refine aJ (eR ok r) fun rs q1 q2 q3=>?_;obtain⟨_,its,rv,tp⟩:=(ok a _ e)
  cases rv with
  |@cons _ ku _ its' rk rv =>
   cases rv with
   |@cons _ vu _ its'' rvv rv =>
    cases rv;cases rk;refine⟨(p.1,b,vu)::rs,.cons ⟨rfl,eb,rvv⟩ q1,by rw[AY,AY,q2],fun j hj=>?_⟩
    cases j with
    |zero=>exact⟨a,rfl,tp.is,tY ok eb⟩
    |succ j=>exact q3 j (B2 hj)
theorem KT.merge: ∀{ps}{qs},KT H ps qs->∀{kvs}{xs},KT H kvs xs->KT H (mG kvs ps) (pB xs qs)
 |_,_,.nil,_,_,r=>r
 |_,_,@Paired.cons _ _ _ p q l1 l2 ⟨e1,e2,e3⟩ t,kvs,xs,r=>by
  have:=KT.put r p.1 e2 e3;rw[e1] at this
  delta mG pB
  rw[ Cv,e1];exact KT.merge t this
theorem yM:∀ps kvs,(mG kvs ps).length<=kvs.length+ps.length
 |[],kvs=>AH _
 |p::ps,kvs=>by
  have h1:=yM ps (tV kvs p.1 p.2);have h2:=bY kvs p.1 p.2;unfold mG at h1 ⊢;rw[Cv,AY]
  lia
section
variable {X:Cx}
def gC(hc:X.calm=true)(hu:X.A.units+2 < cLine):CallR X (.type "dict") (fun xs H Q=>∃t pa ps,xs=[.ref t]/\H t=some (.tup (List.map V.ref pa))/\TPrs H pa ps/\ps.length<=sizeLine/\∀d,H d=none->Q (.ref d) (upd H d (.dT (mG [] ps)))):=by
 intro pins s σ H xs us Q I r h;obtain⟨t,pa,ps,rfl,ht,hp,hz,q⟩:=h;obtain⟨u,rfl,rfl⟩:=r.one;obtain⟨_,its,rv,o,h1,h2,⟨n,h3⟩,h4⟩:=(I.hok t _ ht);have ei:=sR rv;subst ei;refine aJ (eR I.hok hp) fun qs q1 q2 q3=>callType_codes (Q₁:=fun obj s₁=>obj=.ref s.heap.objs.size/\s₁={ s with heap:=s.heap.push { cls:=.type "dict",data:=.dict #[] } }) F.kt_called_dict (F.kt_typeCall_dict_1 _) F.entry_dict_init (kt_code_dict_new _ ⟨rfl,rfl⟩) ?_
 rintro obj s₁ ⟨rfl,rfl⟩;have hnew0:(s.heap.push { cls:=.type "dict",data:=.dict #[] }).DictOf (cX X.prog X.w) s.heap.objs.size []:=Heap.DictOf.new s.heap
 have hnew:(s.heap.push { cls:=.type "dict",data:=.dict #[] }).DictOfH (tupleKind (cX X.prog X.w)) s.heap.objs.size []:=by
  obtain⟨_,_,xs,k,o,es,ep,g1,g2,g3,g4,g5⟩:=QT (H:=H) s.heap I.big;cases k;exact⟨o,es,ep,g1,g2,g3,g4,(fun _ z=>nomatch z),g5⟩
 refine⟨hnew0.typeIs,F.args_dict_init_2 _ _,?_⟩
 apply AA
 refine AA (Cm hnew0.typeIs (AC ?_));have calm:=I.ok.hd hc;refine QJ (by lia) (by simp[calm]) hu (Ax (AG h1)) (AD _ h1) h2 h3 h4 hnew (by rwa [<- (Paired.length q1)]) ?_ (fun j hj=>?_) fun h' tk keep dd=>?_
 .simp_all
 .obtain ⟨p,e1,e2,e3⟩:=(q3 j hj)
  have hps :=eQ e2 fun op z _=>AG z;refine⟨p,?_,Ad hps,e2.push _,wB e3 fun o q=>AD _ q⟩;rw[List.getElem?_toArray,Ao,e1];rfl
 .refine Kz dd fun o es ep g1 g2 g3 g4 _ g5=>?_
  have hl2:=yM ps [];refine⟨rfl,.ref s.heap.objs.size,_,I.laid (t':=tk) (o:=.dT (mG [] ps)) (fun b ob e=>keep b ob (Ad (AG e)) (AD _ e)) (AH _) ⟨by simp at hl2;lia,DX (Ax I.big),_,(KT.merge q1 .nil).keeps fun b ys e=>?_,o,es,ep,g1,g2,g3,g4,g5⟩,rfl,q _ (I.hok.fresh (AH _))⟩;rw[mQ (fun z=>by rw[z,I.hok.fresh (AH _)] at e;cases e)];exact e
end
end L2
namespace CL
open PySem PySem.Spec L2 PySem.W
open PyProof.Rows hiding St
section
variable {X:Cx}
def XF:List PV->Option (List (List Key×PV))
 |[]=>some []
 |.tup [k,v]::r=>match iY k,XF r with
  |some k,some ps=>some ((k,v)::ps)
  |_,_=>none
 |_=>none
def VP{K}(r:Reps K H vs ts)(e:XF ts=some ps):∃pa ws,vs=List.map V.ref pa/\TPrs H pa ws/\FP K H ws ps:=by
 induction ts generalizing vs ps with
 |nil=>cases r;cases e;exact⟨[],[],rfl,.nil,.nil⟩
 |cons t ts ih =>
  cases r with
  |@cons v _ vs _ h r =>
   cases h with
   |@tup a ws xs e1 r1 =>
    rcases xs with _ | ⟨k,_ | ⟨u,_ | ⟨z,xs⟩⟩⟩
    .cases e
    .cases e
    .unfold XF at e
     split at e
     .next k' ps' k1 k2 =>
      cases e;obtain⟨pa,ws',rfl,p1,p2⟩:=ih r k2;obtain⟨v1,v2,rfl,r2,r3⟩:=yB r1;obtain⟨b,rfl,eb⟩:=oV r2 k1;exact⟨a::pa,(k',v2)::ws',rfl,.cons ⟨b,e1,eb⟩ p1,.cons ⟨rfl,r3⟩ p2⟩
     .cases e
    .cases e
   |_=>cases e
@[irreducible] def gA:GC:=fun ts C Q=>match ts with
 |[.tup xs]=>match XF xs with
  |some ps=>ps.length<=sizeLine/\∀p,C p=none->Q (.ref p) (uQ C p (.dT (mergeG [] ps)))
  |none=>False
 |_=>False
def cT{K}:Cbi K (fun xs H Q=>∃t pa ps,xs=[.ref t]/\H t=some (.tup (List.map V.ref pa))/\TPrs H pa ps/\ps.length<=sizeLine/\∀d,H d=none->Q (.ref d) (upd H d (.dT (mG [] ps)))) gA:=fun xs ts H C Q R rs h q f=>by
 delta gA at q
 split at q
 .split at q
  .next ps e =>
   obtain⟨v,rfl,r⟩:=iX rs
   cases r with
   |@tup a vs xs e1 r1 =>
    obtain⟨pa,ws,rfl,p1,p2⟩:=VP r1 e;refine⟨a,pa,ws,rfl,e1,p1,by rw[Paired.length p2];exact q.1,fun d hd=>?_⟩;exact f _ _ _ _ (q.2 d (h.fresh hd)) (.ref d) (h.lay hd ⟨_,fQ,Paired.mapP (FP.mergeG p2 .nil) fun _ _ z=>⟨z.1,z.2.imm (Imm.new hd _)⟩⟩) (Fw.lay hd _ _)
  .exact q.elim
 .exact q.elim
def Jl(e:XF xs=some ps)(h:ps.length<=sizeLine)(q:∀p,C p=none->Q (.ref p) (uQ C p (.dT (mergeG [] ps)))):gA [.tup xs] C Q :=by grind[gA]
@[irreducible] def cInT:R2C:=fun x y C Q=>match x,y with
 |.str i,.str j=>Q (.bl (!(Builtin.Str.occurrences j i 0 j.length 1).isEmpty)) C
 |_,_=>False
def cop_inT{K}:Cop K (fun x y H Q=>∃i j,x=.str i/\y=.str j/\Q (.bl (!(Builtin.Str.occurrences j i 0 j.length 1).isEmpty)) H) cInT:=fun x y px py H C Q R rx ry h q f=>by
 delta cInT at q
 split at q
 .cases rx;cases ry
  exact⟨_,_,rfl,rfl,f _ H _ C q (.bl _) h Fw.refl⟩
 .exact q.elim
def inT_s(q:Q (.bl (!(Builtin.Str.occurrences j i 0 j.length 1).isEmpty)) C):cInT (.str i) (.str j) C Q:=by
 delta cInT
 exact q
end
theorem gI{K}: ∀{l:List Str}{vs},Reps K H vs (l.map PV.str)->vs=l.map V.str
 |[],_,.nil=>rfl
 |z::l,_,.cons h t=>by cases h;rw[gI t];rfl
def Kv(l:List Str):PV->Bool
 |.str z=>l.contains z
 |_=>false
@[irreducible] def cInA:R2C:=fun x y C Q=>match y with
 |.kt ys=>match vM ys,tyP C x with
  |some l,some _=>Q (.bl (Kv l x)) C
  |_,_=>False
 |_=>False
def cop_inA{K}:Cop K (rInS K false) cInA:=fun x y px py H C Q R rx ry h q f=>by
 delta cInA at q
 split at q
 .split at q
  .next l c e1 e2 =>
   cases ry with
   |kt e r =>
    have ev:=bI e1;subst ev;have ev:=gI r;subst ev;refine⟨_,l,c,rfl,.inr e,ZJ rx h e2,?_⟩;have e3:inS l x=Kv l px:=by cases rx<;>rfl
    exact e3▸f _ H _ C q (.bl _) h Fw.refl
  .exact q.elim
 .exact q.elim
def inA_s(e1:vM ys=some l)(e2:tyP C x=some c)(q:Q (.bl (Kv l x)) C):cInA x (.kt ys) C Q :=by simp_all[cInA]
end CL
namespace CL
open PySem L2 PySem.W
theorem ZH(I:Nat->CSt->CH->Prop)(step:∀n ρ C(L:CSt->CH->Prop),I n ρ C->(∀m ρ' C',m < n->I m ρ' C'->L ρ' C')->t ρ C fun b C1=>if b=true then u (E.lp L) ρ C1 else E.nx ρ C1):∀k n ρ C,n < k->I n ρ C->KO t u E k ρ C
 |0,n,_,_,h,_=>absurd h (Bq n)
 |k+1,n,ρ,C,h,hI=>step n ρ C (KO t u E k) hI fun m ρ' C' hm hI'=>ZH I step k m ρ' C' (by lia) hI'
theorem iF f:∀xs acc C,Gr C0 C->acc.length+xs.length<=sizeLine->(∀x∈xs,∀C Q',Gr C0 C->(∀C',Gr C C'->Q' (f x) C')->c (some x::ρ) C Q')->(∀p C',C0 p=none->Gr C0 C'->C' p=some (.lst (acc++xs.map f))->Q (.ref p) C')->dJ mC c ρ Q xs acc C
 |[],acc,C,g,_,_,q=>Q3 fun p hp=>q p _ (gr_none g hp) (g.trans (Gr.new hp _)) (by rw[xQ,List.map_nil,Al])
 |x::xs,acc,C,g,hl,h,q=>by
  rw[AY] at hl;refine mT (h x AF C _ g fun C' g'=>⟨by lia,iF f xs _ C' (g.trans g') (by grind) (fun y hy=>h y (AK _ hy)) fun p C2 h1 h2 h3=>q p C2 h1 h2 ?_⟩);rw[h3,Aj]
  rfl
theorem JJ:∀bs,oC (bs.map PV.bl)=some bs
 |[]=>rfl
 |b::bs=>by show(oC (bs.map PV.bl)).map _=_;rw[JJ bs];rfl
def all_s{bs:List Bool}(h:C p=some (.lst (bs.map PV.bl)))(q:Q (.bl (bs.all id)) C):cAll [.ref p] C Q:=by
 delta cAll
 dsimp only;rw[h];dsimp only
 rwa [JJ]
def aV{p q:CH->Prop}(h:p C):vN (fun b C1=>if (!b)=true then p C1 else q C1) (.bl false) C:=h
def len_z(h:z.length<=sizeLine)(q:Q (.int z.length) C):pC [.str z] C Q:=by
 delta pC
 exact⟨h,q⟩
def V9{α:Type}lt cs(d:α):((oZ lt (kas_sort cs.length)).toList.map fun i=>cs.getD i d).Perm cs:=by
 rcases Nat.eq_zero_or_pos cs.length with z | z
 .rw [z,Vv,List.length_eq_zero_iff.1 z]
  exact .refl _
 .have e:(List.range cs.length).map (fun i=>cs.getD i d)=cs:=by
   apply List.ext_getElem
   .grind
   .grind
  have:=(jW lt cs.length z).map fun i=>cs.getD i d
  rwa [e] at this
def gB cs:(jP cs).Perm cs:=V9 _ cs _
end CL
namespace CL
open PySem PySem.Spec L2 PySem.W
open PyProof.Rows hiding St
section
variable {X:Cx}{a b c e o i f:Expr}{es:List Expr}{pos:Pos}{value:Expr}
@[irreducible] def cSlS:PV->Option Int->Option Int->CH->K1->Prop:=fun x lo hi C Q=>match x with
 |.str z=>z.length<=sizeLine/\Q (.str (Txt.slice z lo hi)) C
 |_=>False
@[irreducible] def cPopAt:PV->List PV->CH->K1->Prop:=fun x ts C Q=>match x,ts with
 |.ref a,[.int i]=>match C a with
  |some (.lst xs)=>0<=i/\i < 10000000/\∃y,xs[i.toNat]?=some y/\Q y (uQ C a (.lst (xs.eraseIdx i.toNat)))
  |_=>False
 |_,_=>False
@[irreducible] def cInsert:PV->List PV->CH->K1->Prop:=fun x ts C Q=>match x,ts with
 |.ref a,[.int i,y]=>match C a with
  |some (.lst xs)=>0<=i/\i<=xs.length/\xs.length < sizeLine/\Q .non (uQ C a (.lst (xs.take i.toNat++y::xs.drop i.toNat)))
  |_=>False
 |_,_=>False
@[irreducible] def cNeNil:R2C:=fun x y C Q=>match x,y with
 |.ref a,.ref b=>match C a,C b with
  |some (.lst xs),some (.lst [])=>Q (.bl (!xs.isEmpty)) C
  |_,_=>False
 |_,_=>False
end
end CL
namespace L2
open PySem PySem.W PyProof.Rows
theorem lW lt:∀t(f:α->KasT β),oZ lt (t.bind f)=oZ lt (f (oZ lt t))
 |.ret a,f=>rfl
 |.ask i j k,f=>lW lt (k (lt i j)) f
structure Tot(n:Nat)(lt:Nat->Nat->Bool):Prop where
 tr:∀i j k,i < n->j < n->k < n->lt i j=true->lt j k=true->lt i k=true
 ir:∀i,i < n->lt i i=false
 to:∀i j,i < n->j < n->i≠j->lt i j=true\/lt j i=true
def Up(lt:Nat->Nat->Bool)(p:Array Nat)(m:Nat):Prop:=∀i j,i < j->j < m->lt (p.getD i 0) (p.getD j 0)=true
def Dn(lt:Nat->Nat->Bool)(p:Array Nat)(m:Nat):Prop:=∀i j,i < j->j < m->lt (p.getD j 0) (p.getD i 0)=true
def fV(p:Array Nat)i:p.getD i 0=(p[i]?).getD 0:=by simp
def Wp{α:Type}{l:List α}(nd:l.Nodup){hi}{hj:j < l.length}(e:l[i]=l[j]):i=j:=by
 have:=List.pairwise_iff_getElem.1 nd
 rcases Nat.lt_trichotomy i j with h | h | h
 .grind
 .exact h
 .grind
section
variable {n:Nat}{lt:Nat->Nat->Bool}{p:Array Nat}
def Ord.ne(o:Ord n p)(hi:i < n)(hj:j < n)(h:i≠j):p.getD i 0≠p.getD j 0:=by
 have hs:=o.size;intro e;rw[fV,fV,Ar (by lia),Ar (by lia)] at e;exact h (Wp (o.nodup_iff.2 List.nodup_range) e)
def Up.ext(T:Tot n lt)(o:Ord n p)(hm:m < n)(h:Up lt p m)(e:lt (p.getD (m - 1) 0) (p.getD m 0)=true):Up lt p (m+1):=fun i j hij hj=>by
 have h0:0 < n:=by lia
 by_cases c:j < m
 .exact h i j hij c
 .have:j=m:=by lia
  subst this
  by_cases d:i=j - 1
  .rwa [d]
  .exact T.tr _ _ _ (o.lt h0 _) (o.lt h0 _) (o.lt h0 _) (h i (j - 1) (by lia) (by lia)) e
def Dn.ext(T:Tot n lt)(o:Ord n p)(hm:m < n)(h:Dn lt p m)(e:lt (p.getD m 0) (p.getD (m - 1) 0)=true):Dn lt p (m+1):=fun i j hij hj=>by
 have h0:0 < n:=by lia
 by_cases c:j < m
 .exact h i j hij c
 .have:j=m:=by lia
  subst this
  by_cases d:i=j - 1
  .rwa [d]
  .exact T.tr _ _ _ (o.lt h0 _) (o.lt h0 _) (o.lt h0 _) e (h i (j - 1) (by lia) (by lia))
def Tot.no(T:Tot n lt)(hi:i < n)(hj:j < n)(h:i≠j)(e:¬ lt i j=true):lt j i=true:=(T.to i j hi hj h).resolve_left e
theorem Zy(T:Tot n lt)(o:Ord n p):∀f m,1<=m->m+f<=n->Up lt p m->Up lt p (oZ lt (kas_asc p f m))/\m<=oZ lt (kas_asc p f m)/\oZ lt (kas_asc p f m)<=m+f/\(oZ lt (kas_asc p f m) < m+f->lt (p.getD (oZ lt (kas_asc p f m)) 0) (p.getD (oZ lt (kas_asc p f m) - 1) 0)=true)
 |0,m,h1,h2,u=>⟨u,AH _,AH _,fun h=>absurd h (BI _)⟩
 |f+1,m,h1,h2,u=>by
  have h0:0 < n:=by lia
  have e:oZ lt (kas_asc p (f+1) m)=oZ lt (if lt (p.getD m 0) (p.getD (m - 1) 0)=true then .ret m else kas_asc p f (m+1)):=rfl;rw[e]
  by_cases c:lt (p.getD m 0) (p.getD (m - 1) 0)=true
  .exact (AW c)▸⟨u,AH _,BV _ _,fun _=>c⟩
  .rw [AX c]
   have:=T.no (o.lt h0 _) (o.lt h0 _) (o.ne (by lia) (by lia) (by lia)) c;refine QQ (Zy T o f (m+1) (Nat.succ_pos _) (by lia) (u.ext T o (by lia) this)) fun a1 a2 a3 a4=>?_;exact⟨a1,by lia,by lia,fun h=>a4 (by lia)⟩
theorem Jo(T:Tot n lt)(o:Ord n p):∀f m,2<=m->m+f<=n->Dn lt p m->∃r,oZ lt (kas_desc f p m 0)=(p,r,0)/\Dn lt p r/\m<=r/\r<=m+f
 |0,m,h1,h2,u=>⟨m,rfl,u,AH _,AH _⟩
 |f+1,m,h1,h2,u=>by
  have h0:0 < n:=by lia
  have e:oZ lt (kas_desc (f+1) p m 0)=oZ lt (if lt (p.getD m 0) (p.getD (m - 1) 0)=true then kas_desc f p (m+1) 0 else .ask (p.getD (m - 1) 0) (p.getD m 0) fun d=>if d=true then .ret (p,m,0) else kas_desc f p (m+1) (0+1)):=rfl;rw[e]
  by_cases c:lt (p.getD m 0) (p.getD (m - 1) 0)=true
  .rw [AW c]
   refine Zk (Jo T o f (m+1) (by lia) (by lia) (u.ext T o (by lia) c)) fun r a1 a2 a3 a4=>?_;exact⟨r,a1,a2,by lia,by lia⟩
  .rw [AX c]
   refine⟨m,?_,u,AH _,by lia⟩;show oZ lt (if lt (p.getD (m - 1) 0) (p.getD m 0)=true then .ret (p,m,0) else _)=_;rw[AW (T.no (o.lt h0 _) (o.lt h0 _) (o.ne (by lia) (by lia) (by lia)) c)]
   rfl
def Vn(T:Tot n lt)(o:Ord n p)(h1:1<=r)(h2:r<=n)(u:Dn lt p r):∃m q,oZ lt (kas_tail3 r n p)=(m,q)/\Ord n q/\Up lt q m/\1<=m/\m<=n:=by
 have hs:=o.size;have oq:=o.rev 0 r
 have uq:Up lt (kas_rev p 0 r) r:=fun i j hij hj=>by
  rw[fV,fV]
  delta kas_rev
  rw[getElem?_mirror_all (by lia),getElem?_mirror_all (by lia),AW (by lia),AW (by lia),<- fV,<- fV];exact u _ _ (by lia) (by lia)
 delta kas_tail3
 rw[lW];refine QQ (Zy T oq (n - r) r h1 (by lia) uq) fun a1 a2 a3 a4=>?_;exact⟨_,_,rfl,oq,a1,by lia,by lia⟩
def Ym(T:Tot n lt)(o:Ord n p)(h1:1<=n):∃m q,oZ lt (kas_count n p)=(m,q)/\Ord n q/\Up lt q m/\1<=m/\m<=n:=by
 delta kas_count
 rw[lW];obtain⟨a1,a2,a3,a4⟩:=Zy T o (n - 1) 1 (AH _) (by lia) fun i j hij hj=>by lia
 generalize oZ lt (kas_asc p (n - 1) 1)=r at a1 a2 a3 a4 ⊢
 by_cases c:(r==n)=true
 .exact (AW c)▸⟨_,_,rfl,o,a1,by lia,by lia⟩
 rw[AX c]
 by_cases d:r > 1
 .rw [AW d]
  show ∃m q,oZ lt (if lt (p.getD 0 0) (p.getD (r - 1) 0)=true then .ret (r,p) else _)=_/\_;rw[AW (a1 0 (r - 1) (by lia) (by lia))];exact⟨_,_,rfl,o,a1,by lia,by lia⟩
 .rw [AX d]
  have e:r=1:=by lia
  subst e
  have d2:Dn lt p 2:=fun i j hij hj=>by
   have e1:i=0:=by lia
   have e2:j=1:=by lia
   rw[e1,e2];exact a4 (by lia)
  delta kas_descPart
  rw[lW];refine Zk (Jo T o (n - 2) 2 (AH _) (by lia) d2) fun r b1 b2 b3 b4=>?_;exact b1▸Vn T o (by lia) (by lia) b2
theorem iH(T:Tot n lt)(o:Ord n p)(hk:k < n)(u:Up lt p k):∀f l r,l<=r->r<=k->r<=l+f->(∀i,i < l->lt (p.getD i 0) (p.getD k 0)=true)->(∀i,r<=i->i < k->lt (p.getD k 0) (p.getD i 0)=true) ->
  ∃x,oZ lt (kas_place p k f l r)=x/\x<=k/\(∀i,i < x->lt (p.getD i 0) (p.getD k 0)=true)/\∀i,x<=i->i < k->lt (p.getD k 0) (p.getD i 0)=true
 |0,l,r,h1,h2,h3,a,b=>⟨l,rfl,by lia,a,fun i hi=>b i (by lia)⟩
 |f+1,l,r,h1,h2,h3,a,b=>by
  have h0:0 < n:=by lia
  unfold kas_place
  by_cases c:l >= r
  .exact (AW c)▸⟨l,rfl,by lia,a,fun i hi=>b i (by lia)⟩
  .rw [AX c]
   show ∃x,oZ lt (if lt (p.getD k 0) (p.getD ((l+r) / 2) 0)=true then kas_place p k f l ((l+r) / 2) else kas_place p k f ((l+r) / 2+1) r)=x/\_
   by_cases d:lt (p.getD k 0) (p.getD ((l+r) / 2) 0)=true
   .rw [AW d]
    refine iH T o hk u f l ((l+r) / 2) (by lia) (by lia) (by lia) a fun i h4 h5=>?_
    by_cases e:i=(l+r) / 2
    .rwa [e]
    .exact T.tr _ _ _ (o.lt h0 _) (o.lt h0 _) (o.lt h0 _) d (u _ _ (by lia) h5)
   .rw [AX d]
    have d:=T.no (o.lt h0 _) (o.lt h0 _) (o.ne hk (by lia) (by lia)) d;refine iH T o hk u f ((l+r) / 2+1) r (by lia) (by lia) (by lia) (fun i h4=>?_) b
    by_cases e:i=(l+r) / 2
    .rwa [e]
    .exact T.tr _ _ _ (o.lt h0 _) (o.lt h0 _) (o.lt h0 _) (u _ _ (by lia) (by lia)) d
end
theorem YD(T:Tot n lt):∀f p k,k+f=n->Ord n p->Up lt p k->Up lt (oZ lt (kas_bin f p k)) n
 |0,p,k,h,o,u=>by cases h;exact u
 |f+1,p,k,h,o,u=>by
  have hs:=o.size;show Up lt (oZ lt ((kas_place p k k 0 k).bind fun l=>kas_bin f (bubble p k (k - l)) (k+1))) n;rw[lW];refine Zk (iH T o (by lia) u k 0 k (Ae _) (AH _) (Br _ _) (fun i h=>absurd h (Bq _)) fun i h h'=>absurd h' (by lia)) fun x e hx a b=>?_;rw[e];refine YD T f _ (k+1) (by lia) (o.bubble _ _) fun i j hij hj=>?_
  have gb:∀i,(bubble p k (k - x)).getD i 0=if i=x then p.getD k 0 else if x < i/\i<=k then p.getD (i - 1) 0 else p.getD i 0:=fun i=>by
   have ex:k - (k - x)=x:=by lia
   rw[fV,getElem?_bubble (by lia) _ (by lia),ex]
   split
   .rw [<- fV]
   .split<;>rw[<- fV]
  rw[gb,gb]
  by_cases c1:i=x
  .rw [AW c1,AX (by lia),AW (by lia)]
   exact b _ (by lia) (by lia)
  .rw [AX c1]
   by_cases c2:j=x
   .rw [AW c2,AX (by lia)]
    exact a _ (by lia)
   .split<;>split
    .exact u _ _ (by lia) (by lia)
    .exact u _ _ (by lia) (by lia)
    .exact u _ _ (by lia) (by lia)
    .exact u _ _ (by lia) (by lia)
def sort_up(T:Tot n lt)(h:1<=n):Up lt (oZ lt (kas_sort n)) n:=by
 delta kas_sort
 rw[lW];refine el25 (Ym T (p:=List.toArray (List.range n)) (by exact .refl _) h) fun m q e o u h1 h2=>?_;rw[e]
 split
 .exact YD T _ _ _ (by lia) o (by grind)
 .have:m=n:=by lia
  subst this;exact u
end L2
namespace CL
open PySem PySem.Spec L2 PySem.W
open PyProof.Rows hiding St
def str_ext{y:Str}(h:x.cps.toList=y.cps.toList):x=y:=by
 cases x;cases y;simpa using h
theorem mN:∀x,HT.lexS x x=false
 |[]=>rfl
 |x::xs=>by rw[HT.lexS_cons,AW rfl];exact mN xs
theorem xE:∀x y z,HT.lexS x y=true->HT.lexS y z=true->HT.lexS x z=true
 |[],[],_,h,_=>by cases h
 |[],_::_,[],_,h=>by cases h
 |[],_::_,_::_,_,_=>rfl
 |_::_,[],_,h,_=>by cases h
 |_::_,_::_,[],_,h=>by cases h
 |x::xs,y::ys,z::zs,h,g=>by
  rw[HT.lexS_cons] at h g ⊢
  by_cases e1:x=y
  .subst e1
   rw[AW rfl] at h
   by_cases e2:x=z
   .rw [AW e2] at g ⊢;exact xE xs ys zs h g
   .lia
  .grind
theorem Z7:∀x y,x≠y->HT.lexS x y=true\/HT.lexS y x=true
 |[],[],h=>absurd rfl h
 |[],_::_,_=>.inl rfl
 |_::_,[],_=>.inr rfl
 |x::xs,y::ys,h=>by
  rw[HT.lexS_cons,HT.lexS_cons]
  by_cases e:x=y
  .subst e
   rw[AW rfl,AW rfl];exact Z7 xs ys fun z=>h (by rw[z])
  .by_cases c:x.cps.toList < y.cps.toList
   .lia
   .by_cases d:y.cps.toList < x.cps.toList
    .lia
    .exact absurd (str_ext (List.le_antisymm d c)) e
theorem ltP_ne(h:x.1≠y.1):ltP x y=HT.lexS x.1 y.1:=AX h
section
variable {cs:List (List Str×Int)}(nd:(cs.map (·.1)).Nodup){i j:Nat}(hi:i < cs.length)(hj:j < cs.length)
include nd hi hj
theorem ti_ne(h:i≠j):(cs.getD i ([],0)).1≠(cs.getD j ([],0)).1:=fun e=>by
 have e:(cs.map (·.1))[i]'(by simp_all)=(cs.map (·.1))[j]'(by rwa [AB]) :=by simp_all
 exact h (Wp nd e)
def nD:zP cs i j=true↔HT.lexS (cs.getD i ([],0)).1 (cs.getD j ([],0)).1=true :=by grind[zP,ltP,mN,ltP_ne,ti_ne]
end
def ti_tot(nd:(cs.map (·.1)).Nodup):Tot cs.length (zP cs) :=
 ⟨fun i j k hi hj hk h g=>(nD nd hi hk).2 (xE _ _ _ ((nD nd hi hj).1 h) ((nD nd hj hk).1 g)),fun i _=>by
  delta zP ltP
  rw[AW rfl]
  exact AQ (Int.lt_irrefl _),fun i j hi hj h=>(Z7 _ _ (ti_ne nd hi hj h)).imp (nD nd hi hj).2 (nD nd hj hi).2⟩
def Z5(nd:(cs.map (·.1)).Nodup):(jP cs).Pairwise fun x y=>HT.lexS x.1 y.1=true:=by
 rcases Nat.eq_zero_or_pos cs.length with z | z
 .exact (List.length_eq_zero_iff.1 z)▸List.Pairwise.nil
 .have u:=sort_up (ti_tot nd) z
  have o:=jW (zP cs) cs.length z;have hs:=o.size;rw[List.pairwise_iff_getElem];intro i j hi hj hij
  delta jP at hi hj ⊢
  rw[AB,A2,hs] at hi hj;have:=u i j hij hj;rw[List.getElem_map,List.getElem_map];rw[fV,fV,Ar (by lia),Ar (by lia)] at this;have h1:(oZ (zP cs) (kas_sort cs.length))[i]'(by lia) < cs.length:=by have:=o.lt z i;rw[fV,Ar (by lia)] at this;exact this
  have h2:(oZ (zP cs) (kas_sort cs.length))[j]'(by lia) < cs.length:=by have:=o.lt z j;rw[fV,Ar (by lia)] at this;exact this
  exact(nD nd h1 h2).1 this
def ordT_eq(p:cs.Perm ds)(nd:(cs.map (·.1)).Nodup):jP cs=jP ds:=by
 refine List.Perm.eq_of_pairwise (fun a b _ _ h g=>?_) (Z5 nd) (Z5 ((p.map _).nodup_iff.1 nd)) ((gB cs).trans (p.trans (gB ds).symm));have:=xE _ _ _ h g;rw[mN] at this;cases this
section
variable {X:Cx}{e o:Expr}{es:List Expr}
@[irreducible] def cIsiTs:GC:=fun ts C Q=>match ts with
 |[x,.tup ys]=>∃(Ts:List Ty)(n:Ty),ys=Ts.map (fun T=>PV.ty (fU T))/\tyP C x=some n/\Q (.bl (Ts.any (sZ n))) C
 |_=>False
@[irreducible] def cUpper(co:TCE):TCE:=fun ρ C Q=>co ρ C fun x C1=>match x with
 |.str z=>z.length<=1000000/\∀y:Str,y.length<=3 * z.length->Q (.str y) C1
 |_=>False
end
@[irreducible] def cNInT:R2C:=fun x y C Q=>match x,y with
 |.str i,.str j=>Q (.bl (!(!(Builtin.Str.occurrences j i 0 j.length 1).isEmpty))) C
 |_,_=>False
@[irreducible] def cEqNil:R2C:=fun x y C Q=>match x,y with
 |.ref a,.ref b=>match C a,C b with
  |some (.lst xs),some (.lst [])=>Q (.bl xs.isEmpty) C
  |_,_=>False
 |_,_=>False
@[irreducible] def cIsB:R2C:=fun x y C Q=>match x,y with
 |.bl a,.bl b=>Q (.bl (a==b)) C
 |_,_=>False
end CL
namespace PySem
open PySem.Spec PyProof.Rows PyProof.Rows.F
section
theorem nF{κ β:Type}[DecidableEq κ]{k}:∀{xs:List (κ×β)}{j}{p},(xs.map (·.1)).Nodup->xs[j]?=some (k,p)->xs.eraseIdx j=xs.filter fun x=>decide (x.1≠k)
 |x::xs,0,p,nd,h=>by
  have h:x=(k,p):=by simpa using h
  subst h;rw[A8,BN] at nd;rw[ Bb (by simp)];refine(List.filter_eq_self.2 fun y hy=>?_).symm;rw[Am];intro z;exact nd.1 (z▸AU.2 ⟨y,hy,rfl⟩)
 |x::xs,j+1,p,nd,h=>by
  rw[A8,BN] at nd;have ne:x.1≠k:=fun z=>nd.1 (z▸AU.2 ⟨_,Ah h,rfl⟩);rw[DQ,Ba (by rwa [Am]),nF nd.2 h]
theorem Ji{α β:Type}(f:α->β):∀(xs:List α)j,(xs.map f).eraseIdx j=(xs.eraseIdx j).map f
 |[],_=>rfl
 |_::_,0=>rfl
 |x::xs,j+1=>by rw[A8,DQ,DQ,A8,Ji f xs j]
variable {prog:Program}{w:World}{κ:Type}[DecidableEq κ]{knd:HeapKind prog w κ}{A:Around}{E:Value->Shared->Prop}{s:Shared}{d a:Addr}{xs:List (κ×Addr×Value)}{k:κ}{v:Value}
def kO(room:knd.room A)(kk:knd.is s.heap k a)(dd:s.heap.DictOfH knd d xs){j:Nat}(hj:xs[j]?=some (k,b,v))(hz:xs.length<=sizeLine)(fin:∀h' e,e.val=v->h'.DictOfH knd d (xs.filter fun x=>decide (x.1≠k))->Heap.SameBut d s.heap h'->Q (some e) { s with heap:=h',toks:=s.toks+knd.draws k }):
  wpAny (model prog w) A (Builtin.Dict.takeOut d (.ref a)) Q E s:=by
 refine Kz (id dd) fun o es ep h1 h2 h3 h4 h5 h6=>Aw (AA (knd.pyHash room kk (AA (wpAny_dictFind_heap room kk h1 h3 h4 h5 h6 (fun no=>(no _ _ hj).elim) fun j' p' hj'=>?_))))
 have ee:es[j']?=some (entryOfKey knd (k,p')):=by
  rw[<- Dh,h4,Ao,hj'];rfl
 have ej:j'=j:=by
  have l1:j' < (xs.map (·.1)).length:=by rw[AB];exact(Ak.1 hj').1
  exact(List.getElem?_inj l1 h6).1 (by rw[Ao,Ao,hj,hj'];rfl)
 subst ej;rw[hj] at hj';cases hj';refine AA (Bs h1 h3 ?_);rw[ee];have hs:es.size=xs.length:=by rw[<- A2,h4,AB]
 have hl:j' < es.size:=by rw[hs];exact(Ak.1 hj).1
 have el:es.eraseIdxIfInBounds j'=es.eraseIdx j' hl:=by rw[Array.eraseIdxIfInBounds,dif_pos hl]
 refine AA (wpAny_updateDictKeys h1 h3 ?_ (by lia) (by rw[el,Array.size_eraseIdx];lia));have same:Heap.SameBut d s.heap (s.heap.update d (Obj.mapDictKeys (·.eraseIdxIfInBounds j'))):=⟨Heap.size_update _ _ _,fun b nb=>BK _ _ (Ne.symm nb)⟩
 have eo:Obj.mapDictKeys (·.eraseIdxIfInBounds j') o={ o with data:=.dict (es.eraseIdxIfInBounds j') (ep+1) }:=by
  obtain⟨c,dd,da,sl⟩:=o;cases h3
  rfl
 refine AC (fin _ _ rfl ⟨_,es.eraseIdxIfInBounds j',ep+1,A7 _ h1 ?_,?_,?_,?_,?_,?_⟩ same)
 .rw [eo];rfl
 .rwa [eo]
 .rw [eo]
 .rw [<- nF h6 hj,el,Array.toList_eraseIdx,h4,Ji]
 .intro x hx
  exact knd.keeps (h5 x (DZ.1 hx).1) h1 h3 same
 .exact List.Nodup.sublist (List.filter_sublist.map _) h6
def VR(room:knd.room A)(kk:knd.is s.heap k a)(dd:s.heap.DictOfH knd d xs){j:Nat}(hj:xs[j]?=some (k,b,v))(hz:xs.length<=sizeLine)(fin:∀h',h'.DictOfH knd d (xs.filter fun x=>decide (x.1≠k))->Heap.SameBut d s.heap h'->R (.done (.ret v)) { s with heap:=h',toks:=s.toks+knd.draws k }):
  wpAny (model prog w) A (Builtin.«dict.pop» { pos:=[.ref d,.ref a] }) R E s:=by
 refine Kz (id dd) fun o es ep h1 h2 h3 h4 h5 h6=>AA (AA (Cm dd.typeIs (AC ?_)))
 try dsimp only
 refine AA (Bs h1 h3 (AA (AC ?_)));have hs:es.size=xs.length:=by rw[<- A2,h4,AB]
 have hl:=(Ak.1 hj).1;rw[AX (by rw[Array.isEmpty_iff_size_eq_zero];lia)];refine AA (kO room kk dd hj hz fun h' e he dd' sm=>AA (Dj (AC ?_)));rw[he];exact fin h' dd' sm
end
end PySem
namespace L2
open PySem PySem.Spec PyProof.Rows
def KT.drop(r:KT H kvs xs)k:KT H (eL kvs k) (xs.filter fun x=>decide (x.1≠k)):=by
 delta eL
 induction r with
 |nil=>exact .nil
 |@cons p q ps qs h t ih =>
  by_cases e:p.1=k
  .rw [Bb (by rw[Am];exact fun z=>z e),Bb (by rw[Am];exact fun z=>z (h.1.symm.trans e))]
   exact ih
  .rw [Ba (by rwa [Am]),Ba (by rw[Am];exact fun z=>e (h.1.trans z))]
   exact .cons h ih
def valV_at{k:List Key}{v}(h:nY kvs k=some v):∃j:Nat,kvs[j]?=some (k,v):=by
 delta nY at h
 cases e:kvs.find? fun kv=>decide (kv.1=k) with
 |none=>rw[e] at h;cases h
 |some p =>
  rw[e] at h;have h1:p.1=k:=by simpa using Da e
  obtain⟨j,hj⟩:=BU.1 (Bn e);obtain⟨p1,p2⟩:=p;cases h1;cases h;exact⟨j,hj⟩
section
variable {X:Cx}{pins:List (Addr×Obj)}{σ:St}{H:Hp}{s:Shared}{a b:Addr}{kvs:List (List Key×V)}{k:List Key}{A:Around}{E:Value->Shared->Prop}
theorem KT.at: ∀{kvs}{xs},KT H kvs xs->∀{j:Nat}{k v},kvs[j]?=some (k,v)->∃c u,xs[j]?=some (k,c,u)/\RelV v u
 |_,_,@Paired.cons _ _ _ p q ps qs h t,0,k,v,e=>by
  have e:p=(k,v):=by simpa using e
  subst e;obtain⟨q1,q2,q3⟩:=q;cases h.1;exact⟨q2,q3,rfl,h.2.2⟩
 |_,_,@Paired.cons _ _ _ p q ps qs h t,j+1,k,v,e=>KT.at t (by simpa using e)
def d_popT(hu:A.units+1 < cLine)(I:Inv X pins σ H s)(e:H a=some (.dT kvs))(eb:H b=some (.tup (k.map kV)))(l:nY kvs k=some v)(h:∀w' s',Inv X pins σ (upd H a (.dT (eL kvs k))) s'->RelV v w'->Q w' s'):wpAny (model X.prog X.w) A (call (.builtin "dict.pop") [.ref a,.ref b]) Q E s:=by
 obtain⟨z,hd,xs,rel,dd⟩:=Jj I.hok e;obtain⟨j,hj⟩:=valV_at l;refine wY (KT.at rel hj) fun c u hx ru=>Ap PySem.F.slot_dict_pop dd.typeIs PySem.F.entry_dict_pop (VR (DD hu) (tY I.hok eb) dd hx ((Paired.length rel)▸z) fun h' dd' hs=>⟨u,rfl,h u _ (Kz dd' fun q es ep hq h2 h3 h4 _ h5=>lP I (e▸True.intro) hs ⟨q,hq⟩ ⟨Aa (Yc kvs k) z,hd,_,(KT.drop rel k).keeps fun c ys ec=>?_,q,es,ep,hq,h2,h3,h4,h5⟩) ru⟩) (PySem.F.args_dict_pop_2 _ _)
 rw[mQ (ne_of ec e (fun z=>nomatch z))];exact ec
end
def tTPop(td ty:TE):TE:=fun σ H Q=>td σ H fun x H1=>∃a,x=.ref a/\IsD H1 a/\ty σ H1 fun y H2=>∃kvs k v b,H2 a=some (.dT kvs)/\y=.ref b/\H2 b=some (.tup (k.map kV))/\nY kvs k=some v/\Q v (upd H2 a (.dT (eL kvs k)))
section
variable {X:Cx}{o e f:Expr}{apos cpos:Pos}{td ty tx:TE}
def pe_tpop(hu:X.A.units+1 < cLine)(ho:PE X o td)(he:PE X e ty)(m:M1 X o "pop" apos e cpos):PE X (.Call (.Attribute o "pop" apos) [e] [] cpos) (tTPop td ty):=by
 intro pins s σ H Q I h;refine wpAny_Call_method m.base m.few m.line PySem.F.plainAttrs_dict PySem.F.slot_dict_pop PySem.F.type_dict_pop (thn (ho pins s σ H _ I h) fun u s1 zq=>?_);obtain⟨x,H1,I1,rx,a,rfl,d,q1⟩:=zq;obtain rfl:u=Value.ref a:=rx;refine QR (WL I1 d) fun t1 t2 _=>⟨t1,t2,?_⟩;rw[m.trees];refine Ck rfl (Dk (DH (thn (he pins s1 σ H1 _ I1 q1) fun iv s2 ⟨y,H2,I2,ry,kvs,k,v,b,ea,ey,eb,l,q2⟩=>Calls.spliced_nil ?_)))
 subst ey;cases ry;exact d_popT hu I2 ea eb l fun w' s3 I3 rw'=>⟨v,_,I3,rw',q2⟩
def m1_of(hb:attributeBase o m X.env (eval o X.env)=eval o X.env)(hl:(apos.endLine==cpos.line)=true)(he:xX e=true):M1 X o m apos e cpos:=by
 have e1:starEach [e] X.env=[(false,eval e X.env)]:=by
  rw[gJ he]
  rfl
 refine⟨hb,?_,hl,?_⟩
 .rw [e1];rfl
 .rw [e1];rfl
def nO:OpR X (compareOp .IsNot) (fun x y H Q=>∃a b,x=.bl a/\y=.bl b/\Q (.bl (!(a==b))) H):=by
 intro pins s σ H x y v u Q I rx ry h;obtain⟨a,b,rfl,rfl,q⟩:=h;cases rx;cases ry;exact AC (hX I q (by cases a<;>cases b<;>rfl))
end
end L2
namespace CL
open PySem PySem.Spec L2 PySem.W
open PyProof.Rows hiding St
def FP.dropG{K}[DecidableEq κ](r:FP K H vs kvs)(k:κ):FP K H (eL vs k) (kvs.filter fun kv=>decide (kv.1≠k)):=by
 delta eL
 induction r with
 |nil=>exact .nil
 |@cons p q ps qs h t ih =>
  by_cases e:p.1=k
  .rw [Bb (by rw[Am];exact fun z=>z e),Bb (by rw[Am];exact fun z=>z (h.1.symm.trans e))]
   exact ih
  .rw [Ba (by rwa [Am]),Ba (by rw[Am];exact fun z=>e (h.1.trans z))]
   exact .cons h ih
section
variable {X:Cx}{a b c e o i f value:Expr}{es:List Expr}{pos pos':Pos}
@[irreducible] def yA:PV->PV->CH->K1->Prop:=fun x y C Q=>match x with
 |.ref a=>match C a,iY y with
  |some (.dT kvs),some k=>match zK kvs k with
   |some v=>Q v (uQ C a (.dT (kvs.filter fun kv=>decide (kv.1≠k))))
   |none=>False
  |_,_=>False
 |_=>False
def cTPop(co ck:TCE):TCE:=fun ρ C Q=>co ρ C fun x C1=>Ks x C1/\ck ρ C1 fun y C2=>yA x y C2 Q
def ce_tpop{apos cpos}(hu:X.A.units+1 < cLine)(ho:CE X o co)(he:CE X e ck)(hb:attributeBase o "pop" X.env (eval o X.env)=eval o X.env:=by rfl)(hl:(apos.endLine==cpos.line)=true:=by rfl)(h1:xX e=true:=by rfl):CE X (.Call (.Attribute o "pop" apos) [e] [] cpos) (cTPop co ck):=⟨JE.weak ⟨pe_tpop hu ho.h.h he.h.h (m1_of hb hl h1)⟩ fun σ H Q zz=>pX zz fun ρ C R s h q f=>
 ⟨ρ,C,_,s,h,q,fun x H1 px C1 q1 rx h1 f1=>by
  obtain⟨a,kvs,rfl,rfl,e1⟩:=Jc q1.1 rx h1;refine⟨a,rfl,.inr ⟨kvs,.inl e1⟩,ρ,C1,_,s.imm (f1.imm h),h1,q1.2,fun y H2 py C2 q2 ry h2 f2=>?_⟩;unfold yA at q2;dsimp only at q2
  split at q2
  .next kvs' k d1 d2 =>
   refine eQ (h2 a _ d1) fun vs ev r=>?_;obtain⟨b,rfl,eb⟩:=oV ry d2
   rcases FP.val r k with ⟨v,t',l1,l2,rv⟩ | ⟨l1,l2⟩
   .rw [l2] at q2
    have m:Imm H2 (upd H2 a (.dT (eL vs k))):=Imm.mut ev rfl _;exact⟨vs,k,v,b,ev,rfl,eb,l1,f v _ t' _ q2 (rv.imm m) (h2.put ev rfl ⟨_,fQ,Paired.mapP (FP.dropG r k) fun _ _ z=>⟨z.1,z.2.imm m⟩⟩) (f1.trans (f2.trans (Fw.put d1 _ _)))⟩
   .rw [l2] at q2
    exact q2.elim
  .exact q2.elim⟩⟩
def tpop_s(m:C p=some (.dT kvs))(hk:iY y=some k)(hv:zK kvs k=some v)(q:Q v (uQ C p (.dT (kvs.filter fun kv=>decide (kv.1≠k))))):yA (.ref p) y C Q:=by
 delta yA
 dsimp only;rw[m,hk];dsimp only
 rwa [hv]
@[irreducible] def JD:R2C:=fun x y C Q=>match x,y with
 |.bl a,.bl b=>Q (.bl (!(a==b))) C
 |_,_=>False
def jC{K}:Cop K (fun x y H Q=>∃a b,x=.bl a/\y=.bl b/\Q (.bl (!(a==b))) H) JD:=fun x y px py H C Q R rx ry h q f=>by
 delta JD at q
 split at q
 .cases rx;cases ry
  exact⟨_,_,rfl,rfl,f _ H _ C q (.bl _) h Fw.refl⟩
 .exact q.elim
def XS{a b}(q:Q (.bl (!(a==b))) C):JD (.bl a) (.bl b) C Q:=by
 delta JD
 exact q
@[irreducible] def cSlU:PV->Option Int->Option Int->CH->K1->Prop:=fun x lo hi C Q=>match x with
 |.tup xs=>Q (.tup (zY xs lo hi)) C
 |_=>False
def qA{lo}{cl ch}(he:CE X e ce)(hl:CPt X lo cl)(hu:CPt X hi ch):CE X (.Subscript e (.Slice lo hi none p2) pos) (cSl cSlU ce cl ch):=⟨JE.weak ⟨Qb sl_tupU he.h.h hl.h.h hu.h.h⟩ fun σ H Q zz=>pX zz fun ρ C R s h q f=>
 ⟨ρ,C,_,s,h,q,fun x H1 px C1 q1 rx h1 f1=>⟨ρ,C1,_,s.imm (f1.imm h),h1,q1,fun l H2 l' C2 q2 e2 h2 f2=>⟨ρ,C2,_,(s.imm (f1.imm h)).imm (f2.imm h1),h2,q2,fun u H3 u' C3 q3 e3 h3 f3=>by
  cases e2;cases e3
  delta cSlU at q3
  split at q3
  .have rx3:=rx.imm ((f2.trans f3).imm h1)
   cases rx3 with
   |@tup a vs ts e r =>
    exact⟨a,vs,rfl,e,fun p H4 sm hp _=>f _ H4 _ C3 q3 (.tup hp ((r.cut l u).imm fun b v _ e=>sm b v e)) (lB h3 sm) (f1.trans (f2.trans (f3.trans (cP sm))))⟩
  .exact q3.elim⟩⟩⟩⟩
def ZO{lo}(q:Q (.tup (zY xs lo hi)) C):cSlU (.tup xs) lo hi C Q:=by
 delta cSlU
 exact q
end
end CL
namespace K10
open PySem L2
abbrev U0:List Str:=["_law_tape_here","_law_kit","_law_turns","_law_deep"]
abbrev U1:List Str:=["_law_lines_here","_law_pad","_law_turns","_law_seen"]
abbrev U2:List Str:=["_law_line_here","_law_spot","_law_pad","_law_turns","_law_number_here","_law_hands_here","_law_event","_law_rank","_law_last","_law_changes","_law_told","_law_row"]
abbrev U3:List Str:=["_law_tape_here","_law_kit","_law_turns"]
abbrev U4:List Str:=["_law_tape_here","_law_part_here"]
abbrev U5:List Str:=["_law_tape_here","_law_kit","_law_deep"]
abbrev U6:List Str:=["_law_rule","_law_pad","_law_turns"]
abbrev U7:List Str:=["_law_pairs_here","_law_pad","_law_turns"]
abbrev U8:List Str:=["_law_line_here","_law_spot","_law_pad","_law_turns"]
abbrev U9:List Str:=["_law_part_here","_law_answers_here","_law_pad","_law_row","_law_works"]
abbrev U10:List Str:=["_law_tape_here","_law_many"]
abbrev U11:List Str:=["_law_tape_here","_law_names_here","_law_k","_law_keyed"]
abbrev U12:List Str:=["_law_tape_here","_law_kit","_law_turns","_law_most"]
abbrev U13:List Str:=["_law_tape_here","_law_kit","_law_turns","_law_name"]
abbrev U14:List Str:=["_law_tape_here","_law_kit","_law_turns","_law_way"]
abbrev U15:List Str:=["_law_one","_law_other"]
abbrev U16:List Str:=["_law_tape_here","_law_part_here","_law_reads"]
abbrev U17:List Str:=["_law_tape_here"]
abbrev U18:List Str:=["_law_part_here","_law_answers_here"]
def top(i:Nat):Stmt:=PySem.Challenge.pw_viewwood_k10_whole_pieces_hang_on_reads.main.body.getD i (.Pass ⟨0,0,0,0⟩)
def tab:List CL.Row:=[
 ⟨none,"is_number","is_number",(top 4),["thing"],["thing"]⟩,
 ⟨none,"is_name","is_name",(top 5),["thing"],["thing"]⟩,
 ⟨none,"cut","cut",(top 6),["number"],["number"]⟩,
 ⟨none,"alike","alike",(top 7),["one","other"],["one","other","pairs","pair","inner"]⟩,
 ⟨none,"pairs_within","pairs_within",(top 8),["one","other"],["one","other","kind"]⟩,
 ⟨none,"dict_pairs","dict_pairs",(top 9),["one","other"],["one","other","own","key","pairs"]⟩,
 ⟨none,"kind_of","kind_of",(top 10),["thing"],["thing"]⟩,
 ⟨none,"number_of","number_of",(top 13),["reckoning","answers","turns","asked"],["reckoning","answers","turns","asked","word","question","first","taken","second"]⟩,
 ⟨none,"joined","joined",(top 14),["word","first","second"],["word","first","second"]⟩,
 ⟨none,"drawn","drawn",(top 18),["part","answers"],["part","answers","drawer","row","works"]⟩,
 ⟨none,"lets_piece","lets_piece",(top 19),["part","piece"],["part","piece"]⟩,
 ⟨none,"reads_fit","reads_fit",(top 20),["thing"],["thing"]⟩,
 ⟨none,"read_fits","read_fits",(top 21),["thing"],["thing","question"]⟩,
 ⟨none,"_law_tape","_law_tape",(top 23),["_law_script"],["_law_script"]⟩,
 ⟨none,"_law_draw","_law_draw",(top 24),U10,["_law_tape_here","_law_many","_law_script","_law_digit","_law_cell","_law_mixed"]⟩,
 ⟨none,"_law_names","_law_names",(top 25),U10,["_law_tape_here","_law_many","_law_pool","_law_start","_law_stride"]⟩,
 ⟨none,"_law_number","_law_number",(top 26),U17,U17⟩,
 ⟨none,"_law_leaf","_law_leaf",(top 27),U3,U14⟩,
 ⟨none,"_law_sum","_law_sum",(top 28),U0,["_law_tape_here","_law_kit","_law_turns","_law_deep","_law_way","_law_word","_law_many"]⟩,
 ⟨none,"_law_key","_law_key",(top 29),U3,U14⟩,
 ⟨none,"_law_pairs","_law_pairs",(top 30),U12,["_law_tape_here","_law_kit","_law_turns","_law_most","_law_names_here"]⟩,
 ⟨none,"_law_hands","_law_hands",(top 31),U3,["_law_tape_here","_law_kit","_law_turns","_law_hands_here","_law_event","_law_changes","_law_k","_law_box","_law_word"]⟩,
 ⟨none,"_law_plain","_law_plain",(top 32),U0,["_law_tape_here","_law_kit","_law_turns","_law_deep","_law_key_here","_law_tag","_law_sets","_law_hands_here","_law_lines_here"]⟩,
 ⟨none,"_law_part_line","_law_part_line",(top 33),U13,["_law_tape_here","_law_kit","_law_turns","_law_name","_law_key_here","_law_names_here"]⟩,
 ⟨none,"_law_each","_law_each",(top 34),U5,["_law_tape_here","_law_kit","_law_deep","_law_name","_law_number_here","_law_spare","_law_lines_here","_law_k"]⟩,
 ⟨none,"_law_line","_law_line",(top 35),U0,["_law_tape_here","_law_kit","_law_turns","_law_deep","_law_way","_law_name","_law_key_here","_law_number_here","_law_lines_here"]⟩,
 ⟨none,"_law_lines","_law_lines",(top 36),U0,["_law_tape_here","_law_kit","_law_turns","_law_deep","_law_lines_here","_law_k"]⟩,
 ⟨none,"_law_part","_law_part",(top 37),U11,["_law_tape_here","_law_names_here","_law_k","_law_keyed","_law_many","_law_boxes","_law_kit","_law_first","_law_lines_here","_law_work_names","_law_works"]⟩,
 ⟨none,"_law_house","_law_house",(top 38),U17,["_law_tape_here","_law_names_here","_law_keyed"]⟩,
 ⟨none,"_law_nested","_law_nested",(top 39),U4,["_law_tape_here","_law_part_here","_law_boxes","_law_kit","_law_names_here","_law_plain_here","_law_numbers","_law_inner","_law_some","_law_line_here","_law_at"]⟩,
 ⟨none,"_law_answers","_law_answers",(top 40),U4,["_law_tape_here","_law_part_here","_law_answers_here","_law_sort","_law_name","_law_number_here"]⟩,
 ⟨none,"_law_value","_law_value",(top 41),U6,["_law_rule","_law_pad","_law_turns","_law_word","_law_number_here","_law_first","_law_second","_law_found"]⟩,
 ⟨none,"_law_valued","_law_valued",(top 42),U7,U7⟩,
 ⟨none,"_law_want","_law_want",(top 43),U8,U2⟩,
 ⟨none,"_law_wants","_law_wants",(top 44),U1,["_law_lines_here","_law_pad","_law_turns","_law_seen","_law_row","_law_line_here","_law_number_here","_law_k","_law_inner","_law_key_here","_law_spot"]⟩,
 ⟨none,"_law_piece","_law_piece",(top 45),U18,U9⟩,
 ⟨none,"_law_kind","_law_kind",(top 46),["_law_thing"],["_law_thing","_law_sorts"]⟩,
 ⟨none,"_law_alike","_law_alike",(top 47),U15,["_law_one","_law_other","_law_sort","_law_key_here","_law_twins"]⟩,
 ⟨none,"_law_agreeing","_law_agreeing",(top 48),U16,["_law_tape_here","_law_part_here","_law_reads","_law_answers_here","_law_read","_law_number_here"]⟩,
 ⟨none,"_law_part_right","_law_part_right",(top 49),U4,["_law_tape_here","_law_part_here","_law_first","_law_k","_law_read","_law_number_here","_law_answers_here","_law_second"]⟩,
 ⟨none,"law","law",(top 50),["_law_script"],["_law_script","_law_tape_here","_law_part_here"]⟩,
 ⟨some "Drawer","__init__","Drawer.__init__",(bW (top 17) 0),["self","answers"],["self","answers"]⟩,
 ⟨some "Drawer","number","Drawer.number",(bW (top 17) 1),["self","reckoning","turns"],["self","reckoning","turns"]⟩,
 ⟨some "Drawer","numbered","Drawer.numbered",(bW (top 17) 2),["self","pairs","turns"],["self","pairs","turns"]⟩,
 ⟨some "Drawer","row","Drawer.row",(bW (top 17) 3),["self","lines","turns"],["self","lines","turns","row"]⟩,
 ⟨some "Drawer","bring","Drawer.bring",(bW (top 17) 4),["self","lines","turns","row","counts"],["self","lines","turns","row","counts","line","taken"]⟩,
 ⟨some "Drawer","bring_each","Drawer.bring_each",(bW (top 17) 5),["self","line","turns","row","counts"],["self","line","turns","row","counts","count","turn","inner"]⟩,
 ⟨some "Drawer","want","Drawer.want",(bW (top 17) 6),["self","line","turns","counts"],["self","line","turns","counts","spot","pairs","hands"]⟩,
 ⟨some "Drawer","spot","Drawer.spot",(bW (top 17) 7),["self","key","turns","counts"],["self","key","turns","counts","told","nth"]⟩,
 ⟨some "Drawer","hand","Drawer.hand",(bW (top 17) 8),["self","hand","turns"],["self","hand","turns","changes"]⟩]
set_option genInjectivity false in
structure Adr where
 f:Nat->Addr
 d:Nat->FuncData
 t_BOUND:Tok
 JQ:Tok
 fH:Tok
 ASKING:Addr
 vO:Tok
 Drawer:Addr
structure Txt(P:Program)(w:World)(K:Dl)(mg:Str->Option Value)(a:Adr):Prop where
 F:∀(i:Nat){k:Option Str}{nm q:Str}{st:Stmt}{ps N:List Str},tab[i]?=some ⟨k,nm,q,st,ps,N⟩->CL.FI K mg k nm q st ps N (a.f i) (a.d i)
 mE:mg "BOUND" = some (.int 1000000000 a.t_BOUND)
 WX:mg "LETTERS" = some (.str "abcdefghijklmnopqrstuvwxyz" a.JQ)
 mR:mg "LONGEST_NAME" = some (.int 8 a.fH)
 Jf:mg "ASKING" = some (.ref a.ASKING)
 ZY:∀H:Hp,SqT K H a.ASKING [.str "take",.str "box",.str "down"]
 QH:mg "MOST_TURNS" = some (.int 8 a.vO)
 z_abs:mg "abs" = none
 z_all:mg "all" = none
 Xo:mg "bool" = none
 kH:mg "dict" = none
 aM:mg "int" = none
 iQ:mg "isinstance" = none
 yJ:mg "len" = none
 Xn:mg "list" = none
 ZF:mg "max" = none
 ZE:mg "min" = none
 rV:mg "range" = none
 eM:mg "sorted" = none
 Vc:mg "str" = none
 vX:mg "tuple" = none
 z_zip:mg "zip" = none
 tX:mg "Drawer" = some (.ref a.Drawer)
 kX:Cls K a.Drawer
 Km:Mk K a.Drawer (a.f 41)
 bG:NoAttr K a.Drawer "answers"
 vY:NoAttr K a.Drawer "asked"
def tab_ok:CL.AllR CL.RB tab:=by
 unfold tab
 repeat refine⟨⟨⟨rfl,rfl,rfl,by decide +kernel,rfl,by decide +kernel,by decide +kernel⟩,fun _ _ _ _ _ _=>by first | (refine CL.args1 ?_;exact fun _=>rfl) | (refine CL.args2 ?_;exact fun _ _=>rfl) | (refine CL.args3 ?_;exact fun _ _ _=>rfl) | (refine CL.args4 ?_;exact fun _ _ _ _=>rfl) | (refine CL.args5 ?_;exact fun _ _ _ _ _=>rfl)⟩,?_⟩
 exact trivial
def txt_mk{P:Program}{w:World}{K:Dl}{h:Heap}{mg:Str->Option Value}(X:K.In h)(G:h.Ns mainGlobals mg){ga3 cc0:Addr}{t0 t1 t2 t3_0 t3_1 t3_2 t4:Tok}{gn3:Nat}(hf:CL.AllR (CL.FH K) tab)(gl0:PySem.W.nsIn K mainGlobals "BOUND" = some (some (.int 1000000000 t0)))(gl1:PySem.W.nsIn K mainGlobals "LETTERS" = some (some (.str "abcdefghijklmnopqrstuvwxyz" t1)))(gl2:PySem.W.nsIn K mainGlobals "LONGEST_NAME" = some (some (.int 8 t2)))(gl3:PySem.W.nsIn K mainGlobals "ASKING" = some (some (.ref ga3)))(ql3:K.lookup ga3=some { cls:=.type "tuple",data:=.seq #[.str "take" t3_0,.str "box" t3_1,.str "down" t3_2] gn3 })(gl4:PySem.W.nsIn K mainGlobals "MOST_TURNS" = some (some (.int 8 t4)))(z0:PySem.W.nsIn K mainGlobals "abs" = some none)(z1:PySem.W.nsIn K mainGlobals "all" = some none)(z2:PySem.W.nsIn K mainGlobals "bool" = some none)(z3:PySem.W.nsIn K mainGlobals "dict" = some none)(z4:PySem.W.nsIn K mainGlobals "int" = some none)(z5:PySem.W.nsIn K mainGlobals "isinstance" = some none)(z6:PySem.W.nsIn K mainGlobals "len" = some none)(z7:PySem.W.nsIn K mainGlobals "list" = some none)(z8:PySem.W.nsIn K mainGlobals "max" = some none)(z9:PySem.W.nsIn K mainGlobals "min" = some none)(z10:PySem.W.nsIn K mainGlobals "range" = some none)(z11:PySem.W.nsIn K mainGlobals "sorted" = some none)(z12:PySem.W.nsIn K mainGlobals "str" = some none)(z13:PySem.W.nsIn K mainGlobals "tuple" = some none)(z14:PySem.W.nsIn K mainGlobals "zip" = some none)(ca0:PySem.W.nsIn K mainGlobals "Drawer" = some (some (.ref cc0)))(cb0:PySem.W.plainGet K cc0 Str.empty=true)(cd_0:PySem.W.hasDictIn K cc0=true)(ce0:PySem.W.plainOver K cc0=true)(cf0:PySem.W.findIn K (.ref cc0) "__setattr__" = some (some (.builtin "object.__setattr__")))(cg0:PySem.W.makesIn K cc0=true)(ch0:PySem.W.keepIn K (.ref cc0)=true)(n0_answers:PySem.W.findIn K (.ref cc0) "answers" = some none)(n0_asked:PySem.W.findIn K (.ref cc0) "asked" = some none): ∃a:Adr,Txt P w K mg a:=by
 obtain⟨f,d,F⟩:=CL.fi_all X G hf tab_ok
 exact⟨⟨f,d,t0,t1,t2,ga3,t4,cc0⟩,F,
  Bi X G gl0,
  Bi X G gl1,
  Bi X G gl2,
  Bi X G gl3,
  fun _=>.inr ⟨_,_,_,ql3,rfl,rfl,y0 3 rfl,(.cons ⟨_,rfl⟩ (.cons ⟨_,rfl⟩ (.cons ⟨_,rfl⟩ .nil)))⟩,
  Bi X G gl4,
  Av X G z0,
  Av X G z1,
  Av X G z2,
  Av X G z3,
  Av X G z4,
  Av X G z5,
  Av X G z6,
  Av X G z7,
  Av X G z8,
  Av X G z9,
  Av X G z10,
  Av X G z11,
  Av X G z12,
  Av X G z13,
  Av X G z14,
  Bi X G ca0,
  ⟨cb0,cd_0,ce0,cf0⟩,
  ⟨cg0,((F 41 rfl).M _ _ rfl (Bi X G ca0)).1,((F 41 rfl).M _ _ rfl (Bi X G ca0)).2,ch0⟩,
  n0_answers,
  n0_asked⟩
structure Wd where
 P:Program
 w:World
 K:Dl
 mg:Str->Option Value
 base:Heap
abbrev Tx(W:Wd)(a:Adr):Prop:=Txt W.P W.w W.K W.mg a
abbrev Ok(W:Wd)(a:Adr)(r i:Nat)(ps:List Str)(G:CL.GC):Prop:=FnOk W.P W.w W.K W.mg W.base CX0 r (a.f i) (a.d i) ps (CL.spC W.K G)
end K10
namespace K10
open PySem L2 CL
section
variable {W:Wd}{a:Adr}
structure Tp(C:CH)(t:Addr)(ns:List Int):Prop where
 at_:∃a b c:Int,C t=some (.lst [.fz (ns.map PV.int),.int a,.int b,.int c])/\0<=a/\0<=b/\0<=c
 len:ns.length<=63
def Ex(t:Addr)(C C':CH):Prop:=∀b o,b≠t->C b=some o->C' b=some o
def Ex.refl: Ex t C C:=fun _ _ _ h=>h
theorem Ex.trans(h:Ex t C C1)(h':Ex t C1 C2):Ex t C C2:=fun b o n e=>h' b o n (h b o n e)
theorem Ex.new(hp:C p=none)o:Ex t C (uQ C p o):=fun b u _ e=>by
 rw[wQ (fun z=>by subst z;rw[hp] at e;cases e)];exact e
inductive gTape(ts:List PV)(C:CH)(Q:K1):Prop
 |mk(ns:List Int)(z0:ts=[.fz (ns.map PV.int)])(z1:ns.length<=63)(z2:∀t C',C t=none->Ex t C C'->Tp C' t ns->Q (.ref t) C'):gTape ts C Q
def ok_tape(T:Tx W a):Ok W a 1 13 ["_law_script"] gTape:=by
 refine(T.F 13 rfl).ok (fun ts C R h=>?_) fun cdv A outer s H E hr=>⟨_,(vQ (gQ (zX (qQ (cv 0) (qQ zQ (qQ zQ (ca1 zQ))))))),?_⟩
 .obtain ⟨ns,rfl,_⟩:=h;rfl
 rintro ts C R ⟨ns,rfl,hl,q⟩;show 4<=sizeLine/\∀p,C p=none->R (.ref p) (uQ C p (.lst [.fz (ns.map PV.int),.int 0,.int 0,.int 0]));exact⟨by decide,fun p hp=>q p _ hp (Ex.new hp _) ⟨⟨0,0,0,xQ,by decide,by decide,by decide⟩,hl⟩⟩
def Ex.tape o:Ex t C (uQ C t o):=fun b u n e=>by rwa [wQ n]
def YF{ns:List Int}(h0:0<=k)(h1:k < ((ns.map PV.int).length:Int)):∃v,atI (ns.map PV.int) k=some (.int v):=by
 delta atI ixN
 rw[AW h0,AW h1];rw[AB] at h1;show ∃v,(ns.map PV.int)[k.toNat]?=some (.int v);rw[Ao,AO (by lia)];exact⟨_,rfl⟩
inductive W1(ts:List PV)(C:CH)(Q:K1):Prop
 |mk(t:Addr)(m:Int)(ns:List Int)(z0:ts=[.ref t,.int m])(z1:Tp C t ns)(z2:0 < m)(z3:m < 4611686018427387904)(z4:∀(v:Int)(C':CH),0<=v->v < m->Tp C' t ns->Ex t C C'->Q (.int v) C'):W1 ts C Q
def zJ(T:Tx W a):Ok W a 1 14 U10 W1:=by
 have S:=(T.F 14 rfl).s
 refine(T.F 14 rfl).ok (fun ts C R h=>?_) fun cdv A outer s H E hr=>⟨_,(jQ (cs1 2 S.nd (cx (cv 0) zQ))
  (jQ (lE (tQ nX sX (cx (cv 0) zQ) zQ) (sP (cv 0) zQ))
  (jQ (rQ (cw_pt (cw_and (ct2 fX oQ (cx (cv 0) zQ) zQ) (cw_and1 (ct2 mF aG (cx (cv 0) zQ) (cln T.yJ (cv 2)))))) (jQ (lE (tQ Qf Q0 (nQ Yy cbi_abs rfl T.z_abs rfl (ca1 (cx (cv 2) (cx (cv 0) zQ)))) (tQ kN tF zQ zQ)) (sP (cv 0) zQ))
  (vQ (lE (tQ nX sX (cx (cv 0) zQ) zQ) (sP (cv 0) zQ)))) pQ)
  (jQ (rQ (ct2 jK rZ (cx (cv 0) zQ) zQ) (jQ (cs1 3 S.nd (tQ lU fY (cx (cv 0) zQ) (cv 1)))
  (jQ (lE (tQ Qf Q0 (cx (cv 0) zQ) (cv 1)) (sP (cv 0) zQ))
  (vQ (gQ (cv 3))))) pQ)
  (jQ (cs1 4 S.nd zQ)
  (jQ (rQ (ct2 jK rZ (cln T.yJ (cv 2)) zQ) (vQ (cs1 4 S.nd (cx (cv 2) (tQ lU fY (cx (cv 0) zQ) (cln T.yJ (cv 2)))))) pQ)
  (jQ (cs1 5 S.nd (tQ lU fY (tQ nX sX (tQ nX sX (tQ dM eG (tQ lU fY (cv 4) zQ) zQ) (tQ dM eG (cx (cv 0) zQ) zQ)) zQ) zQ))
  (jQ (cs1 5 S.nd (tQ lU fY (tQ dM eG (cv 5) (tQ nX sX (cv 5) zQ)) zQ))
  (vQ (gQ (tQ lU fY (tQ lU fY (tQ dM eG (cv 5) zQ) zQ) (cv 1)))))))))))),?_⟩
 .obtain ⟨t,m,ns,rfl,_⟩:=h;rfl
 rintro ts C R ⟨t,m,ns,rfl,⟨⟨x,y,z,h,hx,hy,hz⟩,hl⟩,m0,m1,q⟩;refine mZ h rfl (mZ h rfl (qV (setL h rfl ?_)));dsimp only;have h1:(uQ C t (.lst [.fz (ns.map PV.int),.int (x+1),.int y,.int z])) t=_:=xQ;have e1:Ex t C (uQ C t (.lst [.fz (ns.map PV.int),.int (x+1),.int y,.int z])):=Ex.tape _;refine aQ (fun ρ' C'=>ρ'=[some (.ref t),some (.int m),some (.fz (ns.map PV.int)),none,none,none]/\∃y z:Int,C' t=some (.lst [.fz (ns.map PV.int),.int (x+1),.int y,.int z])/\0<=y/\0<=z/\Ex t C C') (fun L hL=>?_) ?_
 .refine mZ h1 rfl (qX (dX _ _) (bZ (fun hb=>?_) fun hb=>?_))
  .refine mZ h1 rfl (Wx (i_i (bZ (fun hb2=>?_) fun hb2=>?_)))
   .obtain ⟨c,ea⟩:=YF hz (Ac hb2)
    refine mZ h1 rfl (ix_f ea ⟨⟨by decide,by decide,by decide⟩,⟨by decide,by decide⟩,?_⟩);refine setL h1 rfl (mZ xQ rfl (qV (setL xQ rfl (hL _ _ ⟨rfl,_,_,xQ,?_,by lia,(e1.trans (Ex.tape _)).trans (Ex.tape _)⟩))));refine Int.ediv_nonneg ?_ (by decide)
    split<;>lia
   .exact sQ (hL _ _ ⟨rfl,y,z,h1,hy,hz,e1⟩)
  .exact mU rfl (sQ (hL _ _ ⟨rfl,y,z,h1,hy,hz,e1⟩))
 clear h1 e1;rintro ρ' C1 ⟨rfl,y',z',h1,hy',hz',e1⟩;refine iZ (mZ h1 rfl (i_i (bZ (fun hb=>?_) fun hb=>?_)))
 .refine mZ h1 rfl ⟨m0,mZ h1 rfl ⟨⟨m0,by lia⟩,?_⟩⟩
  exact setL h1 rfl (q _ _ (CZ _ (by lia)) (B3 _ m0) ⟨⟨_,_,_,xQ,by lia,Int.ediv_nonneg hy' (by lia),hz'⟩,hl⟩ (e1.trans (Ex.tape _)))
 .refine sQ (yQ (c_i ?_))
  try dsimp only
  refine aQ (fun ρ' C'=>C'=C1/\∃v:Int,ρ'=[some (.ref t),some (.int m),some (.fz (ns.map PV.int)),none,some (.int v),none]) (fun L hL=>?_) ?_
  .refine Wx (i_i (bZ (fun hb2=>?_) fun hb2=>?_))
   .have hn:(0:Int) < ((ns.map PV.int).length:Int):=Ac hb2
    obtain⟨c,ea⟩:=YF (CZ (x+1) (b:=((ns.map PV.int).length:Int)) (by lia)) (B3 (x+1) hn);exact mZ h1 rfl (Wx ⟨hn,ix_f ea (hL _ _ ⟨rfl,_,rfl⟩)⟩)
   .exact sQ (hL _ _ ⟨rfl,0,rfl⟩)
  .rintro ρ' C2 ⟨rfl,v,rfl⟩
   refine yQ ⟨(by show(0:Int) < _;decide),?_⟩;refine⟨.inr ⟨by decide,by decide⟩,?_⟩;refine mZ h1 rfl ⟨.inr ⟨by decide,by decide⟩,?_⟩;refine qV (qV ⟨(by show(0:Int) < _;decide),?_⟩);have b0:=CZ (v % 2147483647 * 48271+(x+1) * 7919+12345) (b:=2147483629) (by decide);have b1:=B3 (v % 2147483647 * 48271+(x+1) * 7919+12345) (b:=2147483629) (by decide);refine yQ (qV ⟨.inl ⟨by lia,by lia⟩,?_⟩)
   refine⟨(by show(0:Int) < _;decide),?_⟩;refine⟨.inr ⟨by decide,by decide⟩,?_⟩;refine⟨(by show(0:Int) < _;decide),?_⟩;exact⟨m0,q _ _ (CZ _ (by lia)) (B3 _ m0) ⟨⟨_,_,_,h1,by lia,hy',hz'⟩,hl⟩ e1⟩
def Tp.ne(h:Tp C t ns)(hp:C p=none):p≠t:=fun e=>by
 obtain⟨⟨x,y,z,h,_⟩,_⟩:=h;rw[<- e,hp] at h;cases h
def Tp.new(h:Tp C t ns)(hp:C p=none)o:Tp (uQ C p o) t ns:=by
 have n:=h.ne hp;obtain⟨⟨x,y,z,h,q⟩,l⟩:=h;exact⟨⟨x,y,z,(wQ (Ne.symm n)).trans h,q⟩,l⟩
def POOL:List Str:=["a","ab","abc","b","ba","box","end","give","part","plain","turn","abcdefgh"]
def yW{α:Type}{f:α->PV}{ss:List α}d(h0:0<=k)(h1:k < (ss.length:Int)):atI (ss.map f) k=some (f (ss.getD k.toNat d)):=by
 delta atI ixN
 rw[AW h0,AW (by simp_all)];show(ss.map f)[k.toNat]?=_;rw[Ao,Bl,AO (by lia)]
 rfl
def XT(v c:Int)(i:Nat):Str:=POOL.getD ((v+c * (i:Int)) % 12).toNat ""
def nV(v c:Int)(m:Nat):List Str:=(List.range m).map (XT v c)
def KZ:∀v∈List.range 12,∀c∈[1,5,7,11],(nV v (c:Nat) 12).Nodup:=by decide +kernel
def Qn(v0:0<=v)(v1:v < 12)(hc:c=1\/c=5\/c=7\/c=11)(hm:m<=12):(nV v c m).Nodup:=by
 have h12:(nV v c 12).Nodup:=by
  have:=KZ v.toNat (BR.2 (by lia));have ev:=Int.toNat_of_nonneg v0
  rcases hc with rfl | rfl | rfl | rfl
  .grind
  .grind
  .grind
  .grind
 have e:nV v c m=(nV v c 12).take m:=by
  delta nV
  rw[<- List.map_take,List.take_range,Nat.min_eq_left hm]
 exact e▸h12.sublist (List.take_sublist _ _)
def Yn f(I:CH->Prop)m(h:∀k C Q',k < m->I C->(∀C',I C'->Q' (f k) C')->c (some (.int k )::ρ) C Q')(q:∀p C',I C'->C' p=none->Q (.ref p) (uQ C' p (.lst ((List.range m).map f)))):∀n C,n<=m->m<=1000->I C->dJ mC c ρ Q ((List.range m).drop n |>.map fun k=>PV.int (k:Nat)) ((List.range n).map f) C:=by
 suffices ∀j n C,n+j=m->m<=1000->I C->dJ mC c ρ Q ((List.range m).drop n |>.map fun k=>PV.int (k:Nat)) ((List.range n).map f) C by
  intro n C hn hm hI;exact this (m - n) n C (by lia) hm hI
 intro j
 induction j with
 |zero =>
  intro n C hn hm hI;have e:n=m:=by lia
  subst e;rw[List.drop_of_length_le (An▸AH _)];exact Q3 fun p hp=>q p C hI hp
 |succ j ih =>
  intro n C hn hm hI;rw[Az (by grind),A8,List.getElem_range];refine mT (h n C _ (by lia) hI fun C' hI'=>⟨?_,?_⟩)
  .rw [AB,An]
   exact AS (show n < 1001 by lia) (by decide)
  .have e:(List.range n).map f++[f n]=(List.range (n+1)).map f:=by rw[DY,Ab];rfl
   exact e▸ih (n+1) C' (by lia) hm hI'
def Je(c:Nat):Bool:=!(Builtin.Str.occurrences ("abcdefghijklmnopqrstuvwxyz" : Str) ⟨#[c]⟩ 0 ("abcdefghijklmnopqrstuvwxyz" : Str).length 1).isEmpty
def cM(z:Str):Bool:=(decide ((1:Int)<=(z.length:Nat))&&decide (((z.length:Nat):Int)<=8))&&z.cps.toList.all Je
def pool_ok:POOL.all cM=true:=by decide +kernel
def nm8(h:cM z=true):z.length<=8 :=by grind[cM]
def Wq v c n:∀s∈nV v c n,cM s=true:=by
 intro s hs;obtain⟨i,_,rfl⟩:=AU.1 hs
 delta XT
 have hk:((v+c * (i:Int)) % 12).toNat < POOL.length:=by
  have h1:=CZ (v+c * (i:Int)) (show(12:Int)≠0 by decide);have h2:=B3 (v+c * (i:Int)) (show(0:Int) < 12 by decide);show _ < 12
  lia
 exact Bl▸(AO hk)▸Bz.1 pool_ok _ (BW hk)
inductive Zh(ts:List PV)(C:CH)(Q:K1):Prop
 |mk(t:Addr)(m:Int)(ns:List Int)(z0:ts=[.ref t,.int m])(z1:Tp C t ns)(z2:0<=m)(z3:m<=12)(z4:∀(p:Addr)(ss:List Str)(C':CH),C' p=some (.lst (ss.map PV.str))->C p=none->p≠t->ss.length=m.toNat->(ss.Nodup/\∀s∈ss,cM s=true)->Tp C' t ns->Ex t C C'->Q (.ref p) C'):Zh ts C Q
def hU(T:Tx W a):Ok W a 2 15 U10 Zh:=by
 have S:=(T.F 15 rfl).s;have bQ:=zJ T
 refine(T.F 15 rfl).ok (fun ts C R h=>?_) fun cdv A outer s H E hr=>⟨_,(jQ (cs1 2 S.nd (zX (qQ kQ (qQ kQ (qQ kQ (qQ kQ (qQ kQ (qQ kQ (qQ kQ (qQ kQ (qQ kQ (qQ kQ (qQ kQ (ca1 kQ))))))))))))))
  (jQ (cs1 3 S.nd (cf (T.F 14 rfl) bQ hr (qQ (cv 0) (ca1 zQ))))
  (jQ (cs1 4 S.nd (cx (zX (qQ zQ (qQ zQ (qQ zQ (ca1 zQ))))) (cf (T.F 14 rfl) bQ hr (qQ (cv 0) (ca1 zQ)))))
  (vQ (gQ (lY rfl (S.c (by decide +kernel)) (S.k rfl rfl rfl (by decide +kernel)) (eE rfl T.rV (ca1 (cv 1))) (fun _ _ _ _ _=>nJ) (fun _ _ _ _ _=>(cx (cv 3) (tQ lU fY (tQ nX sX (cv 4) (tQ dM eG (cv 5) (cv 0))) zQ))))))))),?_⟩
 .obtain ⟨t,m,ns,rfl,_⟩:=h;rfl
 rintro ts C R ⟨t,m,ns,rfl,hT,m0,m1,q⟩;refine⟨by decide,fun p hp=>?_⟩;refine⟨t,12,ns,rfl,hT.new hp _,by decide,by decide,fun v C1 v0 v1 T1 e1=>?_⟩;refine⟨by decide,fun p2 hp2=>⟨t,4,ns,rfl,T1.new hp2 _,by decide,by decide,fun k C2 k0 k1 T2 e2=>?_⟩⟩;have m1':=e1 p _ (hT.ne hp) xQ;have e12:=(Ex.new hp2 _).trans e2;have m2:=e2 p2 _ (T1.ne hp2) xQ;have ec:=yW (f:=PV.int) (ss:=[1,5,7,11]) 0 k0 k1
 have hc:[1,5,7,11].getD k.toNat (0:Int)=1\/[1,5,7,11].getD k.toNat (0:Int)=5\/[1,5,7,11].getD k.toNat (0:Int)=7\/[1,5,7,11].getD k.toNat (0:Int)=11:=by
  have:k=0\/k=1\/k=2\/k=3:=by lia
  rcases this with rfl | rfl | rfl | rfl
  .exact .inl rfl
  .exact .inr (.inl rfl)
  .exact .inr (.inr (.inl rfl))
  .exact .inr (.inr (.inr rfl))
 revert ec hc;generalize [1,5,7,11].getD k.toNat (0:Int)=c;intro ec hc;refine mZ m2 ec ⟨by lia,by lia,?_⟩;have m3:=e12 p _ (hT.ne hp) m1';have e02:=((Ex.new hp _).trans e1).trans e12;have hb:c<=11/\1<=c:=by rcases hc with rfl | rfl | rfl | rfl<;>lia
 refine Yn (fun i=>.str (XT v c i)) (fun C'=>C'=C2) m.toNat (fun i C3 Q' hi e hq=>?_) (fun p3 C3 e hp3=>?_) 0 C2 (Ae _) (by lia) rfl
 .subst e
  refine⟨.inr ⟨by lia,by lia⟩,?_⟩;refine qV ⟨(by show(0:Int) < _;decide),?_⟩;have r0:=CZ (v+c * (i:Int)) (b:=12) (by decide);have r1:=B3 (v+c * (i:Int)) (b:=12) (by decide);exact mZ m3 (yW (ss:=POOL) "" r0 r1) (hq _ rfl)
 .subst e
  have hp0:C p3=none:=by
   cases z:C p3 with
   |none=>rfl
   |some o =>
    have n1:=T2.ne hp3;rw[e02 p3 o n1 z] at hp3;cases hp3
  refine q p3 (nV v c m.toNat) _ ?_ hp0 (T2.ne hp3) ?_ ⟨Qn v0 v1 hc (by lia),Wq v c m.toNat⟩ (T2.new hp3 _) (e02.trans (Ex.new hp3 _))
  .rw [xQ]
   delta nV
   rw[BX]
   rfl
  .delta nV
   rw[AB,An]
inductive bE(ts:List PV)(C:CH)(Q:K1):Prop
 |mk(t:Addr)(ns:List Int)(z0:ts=[.ref t])(z1:Tp C t ns)(z2:∀(i:Int)(C':CH),-1000000000<=i->i<=1000000000->Tp C' t ns->Ex t C C'->Q (.int i) C'):bE ts C Q
def at_ints{ns:List Int}(hb:∀x∈ns,lo<=x/\x<=hi)(h0:0<=k)(h1:k < ((ns.map PV.int).length:Int)):∃v,atI (ns.map PV.int) k=some (.int v)/\lo<=v/\v<=hi:=by
 delta atI ixN
 rw[AW h0,AW h1];rw[AB] at h1;show ∃v,(ns.map PV.int)[k.toNat]?=some (.int v)/\lo<=v/\v<=hi;rw[Ao,AO (by lia)];exact⟨_,rfl,hb _ (BW _)⟩
def mB(T:Tx W a):Ok W a 2 16 U17 bE:=by
 have bQ:=zJ T
 refine(T.F 16 rfl).ok (fun ts C R h=>?_) fun cdv A outer s H E hr=>⟨_,(jQ (rQ (ct2 jK rZ (cf (T.F 14 rfl) bQ hr (qQ (cv 0) (ca1 zQ))) zQ) (vQ (gQ (tQ pK wJ (cf (T.F 14 rfl) bQ hr (qQ (cv 0) (ca1 zQ))) zQ))) pQ)
  (vQ (gQ (cx (zX (qQ (tQ kN tF zQ zQ) (qQ (vC fM nG (tQ kN tF zQ zQ)) (qQ zQ (ca1 (vC fM nG zQ)))))) (cf (T.F 14 rfl) bQ hr (qQ (cv 0) (ca1 zQ))))))),?_⟩
 .obtain ⟨t,ns,rfl,_⟩:=h;rfl
 rintro ts C R ⟨t,ns,rfl,hT,q⟩;refine⟨t,8,ns,rfl,hT,by decide,by decide,fun v C1 v0 v1 T1 e1=>?_⟩;refine i_i (bZ (fun hb=>?_) fun hb=>?_)
 .refine ⟨t,9,ns,rfl,T1,by decide,by decide,fun v C2 v0 v1 T2 e2=>?_⟩
  exact i_i (q (v - 3) C2 (by lia) (by lia) T2 (e1.trans e2))
 .refine sQ ⟨⟨by decide,by decide,by decide⟩,?_⟩
  refine⟨⟨by decide,by decide,by decide⟩,?_⟩;refine⟨by decide,fun p2 hp2=>?_⟩;refine⟨t,4,ns,rfl,T1.new hp2 _,by decide,by decide,fun k C2 k0 k1 T2 e2=>?_⟩;obtain⟨c,ec,c0,c1⟩:=(at_ints (ns:=[10 ^ 9,-10 ^ 9,999983,-70001]) (lo:=-1000000000) (hi:=1000000000) (by decide) k0 k1);exact mZ (e2 p2 _ (T1.ne hp2) xQ) ec (q c C2 c0 c1 T2 ((e1.trans (Ex.new hp2 _)).trans e2))
end
inductive Rk where
 |num (i:Int) | turn (n:Str) | ask (s n:Str) | bin (w:Str) (x y:Rk) | pick (x y z:Rk)
def Rk.pv:Rk->PV
 |.num i=>.tup [.str "num",.int i]
 |.turn n=>.tup [.str "turn",.str n]
 |.ask s n=>.tup [.str s,.str n]
 |.bin w x y=>.tup [.str w,x.pv,y.pv]
 |.pick x y z=>.tup [.str "pick",x.pv,y.pv,z.pv]
def mM(bs:List Str)(s n:Str):Prop:=((s = "take"\/s = "down")/\n∈(["a","ab","b"]:List Str))\/(s = "box"/\n∈bs)
def Rk.ok(bs τ:List Str):Nat->Rk->Prop
 |_,.num i=>-1000000000<=i/\i<=1000000000
 |_,.turn n=>n∈τ
 |_,.ask s n=>mM bs s n
 |0,.bin _ _ _=>False
 |0,.pick _ _ _=>False
 |d+1,.bin w x y=>(w = "add"\/w = "times"\/w = "less")/\x.ok bs τ d/\y.ok bs τ d
 |d+1,.pick x y z=>x.ok bs τ d/\y.ok bs τ d/\z.ok bs τ d
theorem Rk.ok.up: ∀{d}{r:Rk},r.ok bs τ d->r.ok bs τ (d+1)
 |d,.num i,h=>by unfold Rk.ok at h ⊢;exact h
 |d,.turn n,h=>by unfold Rk.ok at h ⊢;exact h
 |d,.ask s n,h=>by unfold Rk.ok at h ⊢;exact h
 |0,.bin _ _ _,h =>h.elim
 |0,.pick _ _ _,h =>h.elim
 |d+1,.bin w x y,h =>⟨h.1,h.2.1.up,h.2.2.up⟩
 |d+1,.pick x y z,h =>⟨h.1.up,h.2.1.up,h.2.2.up⟩
def Rk.ok.mono{r:Rk}(h:r.ok bs τ d)(l:d<=e):r.ok bs τ e:=by
 induction l with
 |refl=>exact h
 |step _ ih=>exact ih.up
structure Kt where
 b:Addr
 r:Addr
 bs:List Str
 rs:List Str
 l:Int
 p:Int
 e:Int
 la:Option Str
def oW:Option Str->PV
 |none=>.non
 |some s=>.str s
def lX(b r:Addr)(l p e:Int)(la:PV):List (Key×PV):=[(.inr "boxes",.ref b),(.inr "rest",.ref r),(.inr "left",.int l),(.inr "parts",.int p),(.inr "eaches",.int e),(.inr "last",la)]
structure KAt(C:CH)(t k:Addr)(κ:Kt):Prop where
 at_:C k=some (.dK (lX κ.b κ.r κ.l κ.p κ.e (oW κ.la)))
 bx:C κ.b=some (.lst (κ.bs.map PV.str))
 rx:C κ.r=some (.lst (κ.rs.map PV.str))
 nk:k≠t
 nb:κ.b≠t
 nr:κ.r≠t
 lb:κ.bs.length<=4
 lr:κ.rs.length<=6
def KAt.ex(h:KAt C t k κ)(e:Ex t C C'):KAt C' t k κ :=
 ⟨e _ _ h.nk h.at_,e _ _ h.nb h.bx,e _ _ h.nr h.rx,h.nk,h.nb,h.nr,h.lb,h.lr⟩
section
variable {b r:Addr}{l p e:Int}{la:PV}
def pW:iJ (lX b r l p e la) (.inr "boxes")=some (.ref b):=rfl
def yH:iJ (lX b r l p e la) (.inr "rest")=some (.ref r):=rfl
def sW:iJ (lX b r l p e la) (.inr "left")=some (.int l):=rfl
def tR:iJ (lX b r l p e la) (.inr "parts")=some (.int p):=rfl
def gH:iJ (lX b r l p e la) (.inr "eaches")=some (.int e):=rfl
def uH:iJ (lX b r l p e la) (.inr "last")=some la:=rfl
def yF: vZ (lX b r l p e la) (.inr "left") (.int l')=lX b r l' p e la:=rfl
def J6: vZ (lX b r l p e la) (.inr "parts") (.int l')=lX b r l l' e la:=rfl
def oH: vZ (lX b r l p e la) (.inr "eaches") (.int l')=lX b r l p l' la:=rfl
end
def xW{ss:List Str}(h0:0<=i)(h1:i < (ss.length:Int)):ss.getD i.toNat "" ∈ ss :=by grind
section
variable {W:Wd}{a:Adr}
inductive WW(ts:List PV)(C:CH)(Q:K1):Prop
 |mk(t k:Addr)(τ:List Str)(ns:List Int)(κ:Kt)(z0:ts=[.ref t,.ref k,.tup (τ.map PV.str)])(z1:Tp C t ns)(z2:KAt C t k κ)(z3:τ.length<=4)(z4:∀(r:Rk)(C':CH),r.ok κ.bs τ 0->Tp C' t ns->Ex t C C'->Q r.pv C'):WW ts C Q
def iO(T:Tx W a):Ok W a 3 17 U3 WW:=by
 have S:=(T.F 17 rfl).s;have bQ:=(zJ T).mono (show 1<=2 by decide);have wK:=mB T
 refine(T.F 17 rfl).ok (fun ts C R h=>?_) fun cdv A outer s H E hr=>⟨_,(jQ (cs1 3 S.nd (cf (T.F 14 rfl) bQ hr (qQ (cv 0) (ca1 zQ))))
  (jQ (rQ (ct2 fX oQ (cv 3) zQ) (vQ (gQ (lQ (qQ kQ (ca1 (cx (zX (qQ kQ (qQ kQ (ca1 kQ)))) (cf (T.F 14 rfl) bQ hr (qQ (cv 0) (ca1 zQ))))))))) pQ)
  (jQ (rQ (ct2 fX oQ (cv 3) zQ) (vQ (gQ (lQ (qQ kQ (ca1 (cx (zX (qQ kQ (qQ kQ (ca1 kQ)))) (cf (T.F 14 rfl) bQ hr (qQ (cv 0) (ca1 zQ))))))))) pQ)
  (jQ (rQ (cw_pt (cw_and (ct2 mF aG (cv 3) zQ) (cw_and1 (ct2 jK rZ (cln T.yJ (gZ (yX hr) (cv 1) kQ (fun _ _=>rfl))) zQ)))) (vQ (gQ (lQ (qQ kQ (ca1 (cx (gZ (yX hr) (cv 1) kQ (fun _ _=>rfl)) (cf (T.F 14 rfl) bQ hr (qQ (cv 0) (ca1 (cln T.yJ (gZ (yX hr) (cv 1) kQ (fun _ _=>rfl)))))))))))) pQ)
  (jQ (rQ (cw_pt (cw_and (ct2 fX oQ (cv 3) zQ) (cw_and1 (ct2 jK rZ (cln T.yJ (cv 2)) zQ)))) (vQ (gQ (lQ (qQ kQ (ca1 (cx (cv 2) (cf (T.F 14 rfl) bQ hr (qQ (cv 0) (ca1 (cln T.yJ (cv 2))))))))))) pQ)
  (vQ (gQ (lQ (qQ kQ (ca1 (cf (T.F 16 rfl) wK hr (ca1 (cv 0))))))))))))),?_⟩
 .obtain ⟨t,k,τ,ns,κ,rfl,_⟩:=h;rfl
 rintro ts C R ⟨t,k,τ,ns,κ,rfl,hT,hk,hτ,q⟩;refine⟨t,6,ns,rfl,hT,by decide,by decide,fun v C1 v0 v1 T1 e1=>?_⟩
 try dsimp only
 have hk1:=hk.ex e1
 have tail:∀C2,Tp C2 t ns->Ex t C C2->bE [.ref t] C2 fun x C3=>2<=sizeLine/\R (.tup [.str "num",x]) C3:=by
  intro C2 T2 e2;refine⟨t,ns,rfl,T2,fun i C3 i0 i1 T3 e3=>⟨by decide,?_⟩⟩;exact q (.num i) C3 ⟨i0,i1⟩ T3 (e2.trans e3)
 refine iZ (qX (dX _ _) (bZ (fun hb=>?_) fun hb=>?_))
 .refine ⟨by decide,fun p hp=>?_⟩
  refine⟨t,3,ns,rfl,T1.new hp _,by decide,by decide,fun i C2 i0 i1 T2 e2=>?_⟩;refine mZ (e2 p _ (T1.ne hp) xQ) (yW (f:=PV.str) (ss:=["a","ab","b"]) "" i0 i1) ⟨y0 2 rfl,?_⟩;exact q (.ask "take" _) C2 (.inl ⟨.inl rfl,xW i0 i1⟩) T2 ((e1.trans (Ex.new hp _)).trans e2)
 refine sQ (iZ (qX (dX _ _) (bZ (fun hb=>?_) fun hb=>?_)))
 .refine ⟨by decide,fun p hp=>?_⟩
  refine⟨t,3,ns,rfl,T1.new hp _,by decide,by decide,fun i C2 i0 i1 T2 e2=>?_⟩;refine mZ (e2 p _ (T1.ne hp) xQ) (yW (f:=PV.str) (ss:=["a","ab","b"]) "" i0 i1) ⟨y0 2 rfl,?_⟩;exact q (.ask "down" _) C2 (.inl ⟨.inr rfl,xW (ss:=["a","ab","b"]) i0 i1⟩) T2 ((e1.trans (Ex.new hp _)).trans e2)
 apply sQ
 try dsimp only
 refine aQ (fun ρ' C'=>C'=C1/\ρ'=[some (.ref t),some (.ref k),some (.tup (τ.map PV.str)),some (.int v)]) (fun L hL=>?_) ?_
 .refine i_i (bZ (fun hb=>?_) fun hb=>?_)
  .refine cJ hk1.at_ rfl pW (gM hk1.bx (i_i (bZ (fun hb2=>?_) fun hb2=>?_)))
   .refine cJ hk1.at_ rfl pW (cJ hk1.at_ rfl pW (gM hk1.bx ?_))
    have hl:=hk1.lb;rw[AB] at hb2 ⊢;have hb3:=Ac hb2;refine⟨t,_,ns,rfl,T1,hb3,by lia,fun i C2 i0 i1 T2 e2=>?_⟩;refine mZ ((hk1.ex e2).bx) (yW (f:=PV.str) "" i0 i1) ⟨y0 2 rfl,?_⟩;exact q (.ask "box" _) C2 (.inr ⟨rfl,xW i0 i1⟩) T2 (e1.trans e2)
   .exact sQ (hL _ _ ⟨rfl,rfl⟩)
  .exact mU rfl (sQ (hL _ _ ⟨rfl,rfl⟩))
 rintro ρ' C' ⟨rfl,rfl⟩;refine aQ (fun ρ' C''=>C''=C'/\ρ'=[some (.ref t),some (.ref k),some (.tup (τ.map PV.str)),some (.int v)]) (fun L hL=>?_) ?_
 .refine qX (dX _ _) (bZ (fun hb=>?_) fun hb=>?_)
  .refine wU (i_i (bZ (fun hb2=>?_) fun hb2=>?_))
   .apply wU
    rw[AB] at hb2 ⊢;have hb3:=Ac hb2;refine⟨t,_,ns,rfl,T1,hb3,by lia,fun i C2 i0 i1 T2 e2=>?_⟩;refine wX (yW (f:=PV.str) "" i0 i1) ⟨y0 2 rfl,?_⟩;exact q (.turn _) C2 (xW i0 i1) T2 (e1.trans e2)
   .exact sQ (hL _ _ ⟨rfl,rfl⟩)
  .exact mU rfl (sQ (hL _ _ ⟨rfl,rfl⟩))
 rintro ρ' C'' ⟨rfl,rfl⟩;exact tail _ T1 e1
end
def tS(q:Q (.int (if b then 1 else 0)) C):cInt [.bl b] C Q:=by
 delta cInt
 exact q
def rngP(m:Nat):List PV:=(List.range m).map fun k=>PV.int (k:Nat)
def Vx m:(rngP m).length=m :=by grind[rngP,List.length_map,List.length_range]
section
variable {W:Wd}{a:Adr}
inductive QG(d:Nat)(ts:List PV)(C:CH)(Q:K1):Prop
 |mk(t k:Addr)(τ:List Str)(ns:List Int)(κ:Kt)(z0:ts=[.ref t,.ref k,.tup (τ.map PV.str),.int (d:Nat)])(z1:Tp C t ns)(z2:KAt C t k κ)(z3:τ.length<=4)(z4:∀(r:Rk)(C':CH),r.ok κ.bs τ d->Tp C' t ns->Ex t C C'->Q r.pv C'):QG d ts C Q
def jL(T:Tx W a)(d:Nat):Ok W a (d+4) 18 U0 (QG d):=by
 have main:∀n,(∀d',n=d'+1->Ok W a (d'+4) 18 U0 (QG d'))->Ok W a (n+4) 18 U0 (QG n):=by
  intro n ih;have S:=(T.F 18 rfl).s;have bQ:=(zJ T).mono (show 1<=n+3 by lia);have xB:=(iO T).mono (show 3<=n+3 by lia)
  have eJ:Ok W a (n+3) 18 U0 (fun ts C Q=>∃d',n=d'+1/\QG d' ts C Q):=by
   cases n with
   |zero=>exact⟨fun vs H Q E ⟨ts,C,R,_,_,⟨d',e,_⟩,_⟩=>by lia,fun _ _ _ _ _ _ _ _ _ _ _ _ _ ⟨ts,C,R,_,_,⟨d',e,_⟩,_⟩=>by lia⟩
   |succ d' =>
    have:=ih d' rfl
    have e:(fun ts C Q=>∃d'',d'+1=d''+1/\QG d'' ts C Q)=QG d':=by
     funext ts C Q
     refine propext ⟨fun zz=>eQ zz fun d'' e h=> ?_,fun h=>⟨d',rfl,h⟩⟩;cases A4 e;exact h
    rw[e];exact this
  refine(T.F 18 rfl).ok (fun ts C R h=>?_) fun cdv A outer s H E hr=>⟨_,(jQ (cs1 4 S.nd (cf (T.F 14 rfl) bQ hr (qQ (cv 0) (ca1 zQ))))
  (jQ (rQ (cw_pt (cw_or (ct2 fX oQ (cv 3) zQ) (cw_or1 (ct2 mF aG (cv 4) zQ)))) (vQ (gQ (cf (T.F 17 rfl) xB hr (qQ (cv 0) (qQ (cv 1) (ca1 (cv 2))))))) pQ)
  (jQ (cs1 5 S.nd (cx (zX (qQ kQ (qQ kQ (qQ kQ (ca1 kQ))))) (tQ pK wJ (cv 4) zQ)))
  (jQ (cs1 6 S.nd (cx (zX (qQ zQ (ca1 zQ))) (bJ nW eB rfl T.aM rfl (ca1 (wV fX oQ (cv 5) kQ (wW _))))))
  (vQ (gQ (tQ nX sX (lQ (ca1 (cv 5))) (ctp T.vX (lY rfl (S.c (by decide +kernel)) (S.k rfl rfl rfl (by decide +kernel)) (eE rfl T.rV (ca1 (cv 6))) (fun _ _ _ _ _=>nJ) (fun _ _ _ _ _=>(cf (T.F 18 rfl) eJ hr (qQ (cv 1) (qQ (cv 2) (qQ (cv 3) (ca1 (tQ pK wJ (cv 4) zQ)))))))))))))))),?_⟩
  .obtain ⟨t,k,τ,ns,κ,rfl,_⟩:=h;rfl
  rintro ts C R ⟨t,k,τ,ns,κ,rfl,hT,hk,hτ,q⟩;refine⟨t,8,ns,rfl,hT,by decide,by decide,fun v C1 v0 v1 T1 e1=>?_⟩
  try dsimp only
  have hk1:=hk.ex e1
  have leaf:∀E':K1,E'=R->WW [.ref t,.ref k,.tup (τ.map PV.str)] C1 E':=by
   rintro E' rfl;exact⟨t,k,τ,ns,κ,rfl,T1,hk1,hτ,fun r C2 hr T2 e2=>q r C2 (hr.mono (Ae _)) T2 (e1.trans e2)⟩
  refine aQ (fun ρ' C'=>C'=C1/\0 < n/\4<=v/\ρ'=[some (.ref t),some (.ref k),some (.tup (τ.map PV.str)),some (.int (n:Nat)),some (.int v),none,none]) (fun L hL=>?_) ?_
  .refine qX (dX _ _) (bZ (fun hb=>?_) fun hb=>?_)
   .exact WM rfl (leaf _ rfl)
   .refine i_i (bZ (fun hb2=>?_) fun hb2=>?_)
    .exact leaf _ rfl
    .apply sQ
     have:=Cd hb;have:=Cd hb2;exact hL _ _ ⟨rfl,by lia,by lia,rfl⟩
  rintro ρ' C' ⟨rfl,hn,hv,rfl⟩;obtain⟨d',rfl⟩:∃d',n=d'+1:=⟨n - 1,by lia⟩
  have fin:∀(wd:Str)(m:Nat)(C2:CH),(m=2/\(wd = "add"\/wd = "times"\/wd = "less"))\/(m=3/\wd = "pick")->Tp C2 t ns->Ex t C C2 ->
    ∀(c:TCE)(ρ:CSt)(Q:K1),(∀x C3(L:K1),Tp C3 t ns->Ex t C C3->(∀r C4,Rk.ok κ.bs τ d' r->Tp C4 t ns->Ex t C C4->L r.pv C4)->c (some x::ρ) C3 L)->(∀(p:Addr)(rs:List Rk)(C3:CH),Tp C3 t ns->Ex t C C3->C3 p=some (.lst (rs.map Rk.pv))->(∃r:Rk,r.ok κ.bs τ (d'+1)/\r.pv=.tup (.str wd::rs.map Rk.pv)/\rs.length<=3)->Q (.ref p) C3) ->
    dJ mC c ρ Q (rngP m) [] C2:=by
   intro wd m C2 hw T2 e2 c ρ Q step fin;refine rW (fun zs acc C3=>Tp C3 t ns/\Ex t C C3/\∃rs:List Rk,acc=rs.map Rk.pv/\rs.length+zs.length=m/\∀r∈rs,Rk.ok κ.bs τ d' r) ?_ ?_ _ _ _ ⟨T2,e2,[],rfl,by rw[Vx];exact Bt _,fun r hr=>nomatch hr⟩
   .rintro x r acc C3 ⟨T3,e3,rs,rfl,hl,ho⟩ L hL
    refine step x C3 L T3 e3 fun r4 C4 ok4 T4 e4=>hL _ _ ⟨?_,T4,e4,rs++[r4],by rw[Ab];rfl,by rw[AL,AZ];rw[AY] at hl;lia,fun r hr=>?_⟩
    .rw [AB]
     exact AS (show rs.length < 4 by lia) (by decide)
    .rcases AV.1 hr with hr | hr
     .exact ho r hr
     .cases AE.1 hr;exact ok4
   .rintro acc C3 ⟨T3,e3,rs,rfl,hl,ho⟩ p hp
    apply fin p rs _ (T3.new hp _) (e3.trans (Ex.new hp _)) xQ
    rw[Be,Nat.add_zero] at hl
    rcases hw with ⟨rfl,hw⟩ | ⟨rfl,hw⟩
    .match rs,hl with
     |[x,y],_=>exact⟨.bin wd x y,by unfold Rk.ok;exact⟨hw,ho x (by simp),ho y (by simp)⟩,rfl,by show 2<=3;decide⟩
    .match rs,hl with
     |[x,y,z],_=>exact⟨.pick x y z,by unfold Rk.ok;exact⟨ho x (by simp),ho y (by simp),ho z (by simp)⟩,by rw[hw];rfl,by show 3<=3;decide⟩
  refine yQ ⟨by decide,fun p hp=>?_⟩
  apply i_i
  have T2:=T1.new hp (.lst [PV.str "add",PV.str "times",PV.str "less",PV.str "pick"]);have e2:=e1.trans (Ex.new hp (.lst [PV.str "add",PV.str "times",PV.str "less",PV.str "pick"]));have cases4:v=4\/v=5\/v=6\/v=7:=by lia
  obtain⟨wd,m,hat,hw⟩:∃(wd:Str)(m:Nat),atI ([PV.str "add",PV.str "times",PV.str "less",PV.str "pick"]) (v - 4)=some (.str wd)/\((m=2/\(wd = "add"\/wd = "times"\/wd = "less"))\/(m=3/\wd = "pick")):=by
   rcases cases4 with rfl | rfl | rfl | rfl
   .exact ⟨"add",2,rfl,.inl ⟨rfl,.inl rfl⟩⟩
   .exact ⟨"times",2,rfl,.inl ⟨rfl,.inr (.inl rfl)⟩⟩
   .exact ⟨"less",2,rfl,.inl ⟨rfl,.inr (.inr rfl)⟩⟩
   .exact ⟨"pick",3,rfl,.inr ⟨rfl,rfl⟩⟩
  refine mZ xQ hat (yQ ⟨by decide,fun p2 hp2=>?_⟩);refine qX (dQ _ _) (tS ?_)
  have hat2:atI [PV.int 2,PV.int 3] (if decide (wd = "pick") then 1 else 0)=some (.int (m:Nat)):=by
   rcases hw with ⟨rfl,hw⟩ | ⟨rfl,rfl⟩
   .have:¬ wd = "pick":=by rcases hw with rfl | rfl | rfl<;>decide
    rw[AQ this];rfl
   .rfl
  refine mZ xQ hat2 ⟨y0 1 rfl,?_⟩;have hm:m<=3:=by rcases hw with ⟨rfl,_⟩ | ⟨rfl,_⟩<;>decide
  refine⟨by lia,by lia,?_⟩;refine fin wd m _ hw (T2.new hp2 _) (e2.trans (Ex.new hp2 _)) _ _ _ (fun x C3 L T3 e3 hL=>?_) fun p3 rs C3 T3 e3 m3 hr=>?_
  .refine i_i ⟨d',rfl,t,k,τ,ns,κ,?_,T3,hk.ex e3,hτ,fun r C4 ok4 T4 e4=>hL r C4 ok4 T4 (e3.trans e4)⟩
   have:((d'+1:Nat):Int) - 1=(d':Nat):=by lia
   rw[this]
  .obtain ⟨r,ok,ep,lr⟩:=hr
   refine mJ m3 (JM (by rw[AB];exact Aa (show 1+rs.length<=4 by lia) (by decide)) ?_);have:=q r C3 ok T3 e3;rw[ep] at this;exact this
 induction d with
 |zero=>exact main 0 fun d' e=>by lia
 |succ d ih=>exact main (d+1) fun d' e=>by cases A4 e;exact ih
end
def pG:Option Rk->PV
 |none=>.non
 |some r=>r.pv
def koOk(bs τ:List Str):Option Rk->Prop
 |none=>True
 |some r=>r.ok bs τ 0
def vW(c:Str×Rk):PV:=.tup [.str c.1,c.2.pv]
def PrOk(bs τ:List Str)(d:Nat)(ps:List (Str×Rk)):Prop:=∀c∈ps,c.2.ok bs τ d/\c.1.length<=8
def at_last{τ:List Str}(h:0 < τ.length):∃s∈τ,atI (τ.map PV.str) (-1)=some (.str s):=by
 delta atI ixN
 rw[AX (by decide),AB,AW (by lia)];have:((τ.length:Int) + -1).toNat < τ.length:=by lia
 refine⟨τ[((τ.length:Int) + -1).toNat],BW _,?_⟩;show(τ.map PV.str)[((τ.length:Int) + -1).toNat]?=_;rw[Ao,AO this]
 rfl
def cl_l(h:C a=some (.lst xs))(hv:ρ[i]?=some (some (.ref a)))(q:zB (fun C=>C a=some (.lst xs)) t c ρ Q xs [] C):dC (jY i) t c ρ C Q :=by simp_all[dC,jY]
def iG{β:Type}mk(ok:β->Prop)(J:CH->Prop)(hJ:∀C,J C->C p=some (.lst (ss.map PV.str)))(hl:ss.length<=1000)(step:∀z C L,J C->(∀b C',ok b->J C'->L (mk (z,b)) C')->c (some (.str z)::ρ) C L)(fin:∀(bs:List (Str×β))C p',J C->C p'=none->bs.map (·.1)=ss->(∀x∈bs,ok x.2)->Q (.ref p') (uQ C p' (.lst (bs.map mk))))(hC:J C):
  zB (fun C=>C p=some (.lst (ss.map PV.str))) mC c ρ Q (ss.map PV.str) [] C:=by
 refine KG (fun zs acc C=>J C/\∃(bs:List (Str×β))(us:List Str),zs=us.map PV.str/\acc=bs.map mk/\bs.map (·.1)++us=ss/\∀x∈bs,ok x.2) (fun _ _ _ h=>hJ _ h.1) ?_ ?_ _ _ _ ⟨hC,[],ss,rfl,rfl,rfl,fun x h=>nomatch h⟩
 .rintro x r acc C1 ⟨j1,bs,us,hz,rfl,e,o⟩ L hL
  cases us with
  |nil=>cases hz
  |cons u us =>
   obtain⟨rfl,rfl⟩:=BQ hz;refine step u C1 L j1 fun b C' ob j'=>hL _ _ ⟨?_,j',bs++[(u,b)],us,rfl,by rw[Ab];rfl,by rw[Ab,Aj];exact e,fun x hx=>?_⟩
   .have:=Bg List.length e
    rw[AL,AB] at this;rw[AB];exact AS (show bs.length < 1001 by lia) (by decide)
   .grind
 .rintro acc C1 ⟨j1,bs,us,hz,rfl,e,o⟩ p' hp
  cases us with
  |nil=>rw[Al] at e;exact fin bs C1 p' j1 hp e o
  |cons u us=>cases hz
section
variable {W:Wd}{a:Adr}
inductive gKey(ts:List PV)(C:CH)(Q:K1):Prop
 |mk(t k:Addr)(τ:List Str)(ns:List Int)(κ:Kt)(z0:ts=[.ref t,.ref k,.tup (τ.map PV.str)])(z1:Tp C t ns)(z2:KAt C t k κ)(z3:τ.length<=4)(z4:∀(o:Option Rk)(C':CH),koOk κ.bs τ o->Tp C' t ns->Ex t C C'->Q (pG o) C'):gKey ts C Q
def XO(T:Tx W a):Ok W a 4 19 U3 gKey:=by
 have bQ:=(zJ T).mono (show 1<=3 by decide);have xB:=iO T
 refine(T.F 19 rfl).ok (fun ts C R h=>?_) fun cdv A outer s H E hr=>⟨_,(jQ (cs1 3 ((T.F 19 rfl).s).nd (cf (T.F 14 rfl) bQ hr (qQ (cv 0) (ca1 zQ))))
  (jQ (rQ (ct2 mF aG (cv 3) zQ) (vQ (gQ vV)) pQ)
  (jQ (rQ (cw_pt (cw_and (ct2 fX oQ (cv 3) zQ) (cw_and1 (ct2 jK rZ (cln T.yJ (cv 2)) zQ)))) (vQ (gQ (lQ (qQ kQ (ca1 (cx (cv 2) (vC fM nG zQ))))))) pQ)
  (vQ (gQ (cf (T.F 17 rfl) xB hr (qQ (cv 0) (qQ (cv 1) (ca1 (cv 2)))))))))),?_⟩
 .obtain ⟨t,k,τ,ns,κ,rfl,_⟩:=h;rfl
 rintro ts C R ⟨t,k,τ,ns,κ,rfl,hT,hk,hτ,q⟩;refine⟨t,4,ns,rfl,hT,by decide,by decide,fun v C1 v0 v1 T1 e1=>?_⟩;refine iZ (i_i (bZ (fun hb=>?_) fun hb=>?_))
 .exact q none C1 trivial T1 e1
 apply sQ
 try dsimp only
 refine aQ (fun ρ' C'=>C'=C1/\ρ'=[some (.ref t),some (.ref k),some (.tup (τ.map PV.str)),some (.int v)]) (fun L hL=>?_) ?_
 .refine qX (dX _ _) (bZ (fun hb=>?_) fun hb=>?_)
  .refine wU (i_i (bZ (fun hb2=>?_) fun hb2=>?_))
   .rw [AB] at hb2
    have hb3:=Ac hb2;obtain⟨s,hs,es⟩:=(at_last (τ:=τ) (by lia));refine wX es ⟨y0 2 rfl,?_⟩;exact q (some (.turn s)) C1 hs T1 e1
   .exact sQ (hL _ _ ⟨rfl,rfl⟩)
  .exact mU rfl (sQ (hL _ _ ⟨rfl,rfl⟩))
 rintro ρ' C' ⟨rfl,rfl⟩;exact⟨t,k,τ,ns,κ,rfl,T1,(hk.ex e1),hτ,fun r C2 hr T2 e2=>q (some r) C2 hr T2 (e1.trans e2)⟩
inductive WV(ts:List PV)(C:CH)(Q:K1):Prop
 |mk(t k:Addr)(τ:List Str)(ns:List Int)(κ:Kt)(z0:ts=[.ref t,.ref k,.tup (τ.map PV.str),.int 2])(z1:Tp C t ns)(z2:KAt C t k κ)(z3:τ.length<=4)(z4:∀(ps:List (Str×Rk))(C':CH),PrOk κ.bs τ 2 ps->ps.length<=4->Tp C' t ns->Ex t C C'->Q (.tup (ps.map vW)) C'):WV ts C Q
def Wf(T:Tx W a):Ok W a 7 20 U12 WV:=by
 have S:=(T.F 20 rfl).s;have bQ:=(zJ T).mono (show 1<=6 by decide);have rJ:=(hU T).mono (show 2<=6 by decide);have eJ:=jL T 2
 refine(T.F 20 rfl).ok (fun ts C R h=>?_) fun cdv A outer s H E hr=>⟨_,(jQ (cs1 4 S.nd (cf (T.F 15 rfl) rJ hr (qQ (cv 0) (ca1 (cf (T.F 14 rfl) bQ hr (qQ (cv 0) (ca1 (tQ nX sX (cv 3) zQ))))))))
  (vQ (gQ (ctp T.vX (vD rfl (S.c (by decide +kernel)) (S.k rfl rfl rfl (by decide +kernel)) (cv 4) (fun _ _ _ _ _=>nJ) (fun _ _ _ _ _=>(lQ (qQ (cv 0) (ca1 (cf (T.F 18 rfl) eJ hr (qQ (cv 1) (qQ (cv 2) (qQ (cv 3) (ca1 zQ)))))))))))))),?_⟩
 .obtain ⟨t,k,τ,ns,κ,rfl,_⟩:=h;rfl
 rintro ts C R ⟨t,k,τ,ns,κ,rfl,hT,hk,hτ,q⟩;refine qV ⟨t,3,ns,rfl,hT,by decide,by decide,fun v C1 v0 v1 T1 e1=>?_⟩;refine⟨t,v,ns,rfl,T1,v0,by lia,fun p ss C2 m2 n2 pt hl nd T2 e2=>?_⟩;refine cl_l m2 rfl (iG vW (fun r=>r.ok κ.bs τ 2) (fun C'=>Tp C' t ns/\Ex t C C'/\C' p=some (.lst (ss.map PV.str))) (fun _ h=>h.2.2) (by lia) (fun z C3 L ⟨T3,e3,m3⟩ hL=>?_) (fun bs C3 p3 ⟨T3,e3,m3⟩ hp3 hb ho=>?_) ⟨T2,e1.trans e2,m2⟩)
 .refine ⟨t,k,τ,ns,κ,rfl,T3,hk.ex e3,hτ,fun r C4 hr T4 e4=>⟨y0 2 rfl,hL r C4 hr ⟨T4,e3.trans e4,e4 _ _ pt m3⟩⟩⟩
 .exact mJ xQ (q bs _ (fun c hc=>⟨ho c hc,nm8 (nd.2 c.1 (hb▸AU.2 ⟨c,hc,rfl⟩))⟩) (by grind) (T3.new hp3 _) (e3.trans (Ex.new hp3 _)))
end
structure Hd where
 ev:Str
 rank:Int
 last:Bool
 ch:List (Str×Str×Rk)
def Yr(c:Str×Str×Rk):PV:=.tup [.str c.1,.str c.2.1,c.2.2.pv]
def Hd.pv(h:Hd):PV:=.tup [.str h.ev,.int h.rank,.bl h.last,.tup (h.ch.map Yr)]
def Hd.ok(bs τ:List Str)(h:Hd):Prop:=h.ch.length<=4/\(∀c∈h.ch,c.2.2.ok bs τ 1/\c.1∈bs/\c.2.1.length<=8)/\h.ev.length<=8/\0<=h.rank/\h.rank<=9
theorem Hd.ok.c{h:Hd}(o:h.ok bs τ):∀c∈h.ch,c.2.2.ok bs τ 1:=fun c hc=>(o.2.1 c hc).1
theorem Ex.put(g:Ex t C C1)(hp:C p=none)o:Ex t C (uQ C1 p o):=fun b u n e=>by
 rw[wQ (fun z=>by subst z;rw[hp] at e;cases e)];exact g b u n e
theorem Tp.put(h:Tp C t ns)(hp:p≠t)o:Tp (uQ C p o) t ns:=by
 obtain⟨⟨a,b,c,e,r⟩,l⟩:=h;exact⟨⟨a,b,c,by exact(wQ (Ne.symm hp))▸e,r⟩,l⟩
def Ex.none(g:Ex t C C')(n:p≠t)(h:C' p=none):C p=none:=by
 cases e:C p with
 |none=>rfl
 |some o=>rw[g p o n e] at h;cases h
def vH(I:Nat->CSt->CH->Prop)(hm:∀i ρ C,I i ρ C->C b=some (.lst xs))(step:∀i x ρ C,xs[i]?=some x->I i ρ C->∀L:CSt->CH->Prop,(∀ρ' C',I (i+1) ρ' C'->L ρ' C')->g x ρ C fun ρ1 C1=>u { nx:=L,ct:=L,bk:=E.nx,rt:=E.rt } ρ1 C1)(fin:∀ρ C,I xs.length ρ C->E.nx ρ C):
  ∀n i ρ C,I i ρ C->i+n=xs.length+1->i<=xs.length->qB b g u E n i ρ C:=by
 intro n
 induction n with
 |zero=>lia
 |succ n ih =>
  intro i ρ C h h1 h2;unfold qB;rw[hm i ρ C h];dsimp only
  cases e:xs[i]? with
  |none =>
   have:=List.getElem?_eq_none_iff.1 e;have:i=xs.length:=by lia
   subst this;exact fin ρ C h
  |some x =>
   have hi:=(Ak.1 e).1;exact step i x ρ C e h _ fun ρ' C' h'=>ih (i+1) ρ' C' h' (by lia) (by lia)
def sl_l(h:C b=some (.lst xs))(q:∀p,C p=none->Q (.ref p) (uQ C p (.lst (zY xs lo hi)))):cSlL (.ref b) lo hi C Q:=by
 delta cSlL
 dsimp only
 rwa [h]
def cut_two v(h0:0<=v)(h1:v < 3):zY [PV.str "tap",PV.str "key"] none (some v)=((["tap","key"]:List Str).take v.toNat).map PV.str:=by
 have:v=0\/v=1\/v=2:=by lia
 rcases this with rfl | rfl | rfl<;>rfl
section
variable {W:Wd}{a:Adr}
inductive WZ(ts:List PV)(C:CH)(Q:K1):Prop
 |mk(t k:Addr)(τ:List Str)(ns:List Int)(κ:Kt)(z0:ts=[.ref t,.ref k,.tup (τ.map PV.str)])(z1:Tp C t ns)(z2:KAt C t k κ)(z3:τ.length<=4)(z4:∀(hs:List Hd)(C':CH),(∀h∈hs,h.ok κ.bs τ)->hs.length<=4->Tp C' t ns->Ex t C C'->Q (.tup (hs.map Hd.pv)) C'):WZ ts C Q
def Wk(T:Tx W a):Ok W a 6 21 U3 WZ:=by
 have S:=(T.F 21 rfl).s;have bQ:=(zJ T).mono (show 1<=5 by decide);have eJ:=jL T 1
 refine(T.F 21 rfl).ok (fun ts C R h=>?_) fun cdv A outer s H E hr=>⟨_,(jQ (cs1 3 S.nd (zX sJ))
  (jQ (rP PassesOwn.never rfl (zA (zX (qQ kQ (ca1 kQ))) cY (dY (cf (T.F 14 rfl) bQ hr (qQ (cv 0) (ca1 zQ))))) (cg1 4 S.nd) (jQ (cs1 5 S.nd (zX sJ))
  (jQ (rQ (ct2 jK rZ (cln T.yJ (gZ (yX hr) (cv 1) kQ (fun _ _=>rfl))) zQ) (vQ (oB PassesOwn.never rfl rfl T.rV (ca1 (cf (T.F 14 rfl) bQ hr (qQ (cv 0) (ca1 zQ)))) (cg1 6 S.nd) (jQ (cs1 7 S.nd (cx (gZ (yX hr) (cv 1) kQ (fun _ _=>rfl)) (cf (T.F 14 rfl) bQ hr (qQ (cv 0) (ca1 (cln T.yJ (gZ (yX hr) (cv 1) kQ (fun _ _=>rfl))))))))
  (jQ (cs1 8 S.nd (cx (zX (qQ kQ (qQ kQ (ca1 kQ)))) (cf (T.F 14 rfl) bQ hr (qQ (cv 0) (ca1 zQ)))))
  (vQ (vJ (cap (cv 5) (lQ (qQ (cv 7) (qQ (cv 8) (ca1 (cf (T.F 18 rfl) eJ hr (qQ (cv 0) (qQ (cv 1) (qQ (cv 2) (ca1 zQ)))))))))))))))) pQ)
  (vQ (vJ (cap (cv 3) (lQ (qQ (cv 4) (qQ (tQ nX sX zQ (cf (T.F 14 rfl) bQ hr (qQ (cv 0) (ca1 zQ)))) (qQ (wV fX oQ (cf (T.F 14 rfl) bQ hr (qQ (cv 0) (ca1 zQ))) zQ (wW _)) (ca1 (ctp T.vX (cv 5)))))))))))))
  (vQ (gQ (ctp T.vX (cv 3)))))),?_⟩
 .obtain ⟨t,k,τ,ns,κ,rfl,_⟩:=h;rfl
 rintro ts C R ⟨t,k,τ,ns,κ,rfl,hT,hk,hτ,q⟩;refine yQ ⟨by decide,fun h hh=>?_⟩;have nht:=hT.ne hh;refine aQ (fun ρ' C'=>∃(hs:List Hd)(x4 x5 x6 x7 x8:Option PV),ρ'=[some (.ref t),some (.ref k),some (.tup (τ.map PV.str)),some (.ref h),x4,x5,x6,x7,x8]/\C' h=some (.lst (hs.map Hd.pv))/\hs.length<=2/\(∀h∈hs,h.ok κ.bs τ)/\Tp C' t ns/\Ex t C C') (fun L hL=>?_) ?_
 .refine ⟨by decide,fun p1 hp1=>?_⟩
  have T1:=(hT.new hh (.lst [])).new hp1 (.lst [PV.str "tap",PV.str "key"]);refine⟨t,3,ns,rfl,T1,by decide,by decide,fun v C2 v0 v1 T2 e2=>?_⟩;have np1:p1≠t:=(hT.new hh (.lst [])).ne hp1;have m2:C2 p1=_:=e2 p1 _ np1 xQ;have nhp:h≠p1:=fun z=>by subst z;rw[xQ] at hp1;cases hp1
  have mh2:C2 h=some (.lst []):=e2 h _ nht (by rw[wQ nhp];exact xQ);refine sl_l m2 fun p2 hp2=>?_;rw[cut_two v v0 v1];have np2:p2≠t:=T2.ne hp2;have nhp2:h≠p2:=fun z=>by subst z;rw[hp2] at mh2;cases mh2
  have e02:Ex t C C2:=fun b o n e=>e2 b o n (Gr.new hp1 _ _ _ (Gr.new hh _ _ _ e));generalize hss:(["tap","key"]:List Str).take v.toNat=ss;have hs8:∀s∈ss,s.length<=8:=fun s hs=>(by decide +kernel:∀s∈(["tap","key"]:List Str),s.length<=8) s (Cr (hss▸hs));have hsl:ss.length<=2:=by rw[<- hss,Bj];exact Nat.min_le_right _ _
  refine⟨ss.length+1,vH (xs:=ss.map PV.str) (fun i ρ C'=>C' p2=some (.lst (ss.map PV.str))/\∃(hs:List Hd)(x4 x5 x6 x7 x8:Option PV),ρ=[some (.ref t),some (.ref k),some (.tup (τ.map PV.str)),some (.ref h),x4,x5,x6,x7,x8]/\C' h=some (.lst (hs.map Hd.pv))/\hs.length=i/\i<=ss.length/\(∀h∈hs,h.ok κ.bs τ)/\Tp C' t ns/\Ex t C C') (fun _ _ _ h=>h.1) ?_ ?_ _ 0 _ _ ⟨xQ,[],_,_,_,_,_,rfl,?_,rfl,Ae _,(fun _ z=>nomatch z),T2.new hp2 _,e02.trans (Ex.new hp2 _)⟩ (by rw[AB];lia) (Ae _)⟩
  .rintro i x ρ C3 hx ⟨m3,hs,x4,x5,x6,x7,x8,rfl,mh,hl,hi,ho,T3,e3⟩ L1 hL1
   have hx':∃z:Str,x=.str z/\z.length<=8:=by
    rw[Ao] at hx
    cases z:ss[i]? with
    |none=>rw[z] at hx;cases hx
    |some u=>rw[z] at hx;cases hx;exact⟨u,rfl,hs8 u (Ah z)⟩
   have hi':i < ss.length:=by
    have:=(Ak.1 hx).1;rw[AB] at this;exact this
   obtain⟨ev,rfl,hev⟩:=hx';refine yQ ⟨by decide,fun c hc=>?_⟩;have nct:=T3.ne hc;have nch:c≠h:=fun z=>by subst z;rw[mh] at hc;cases hc
   have ncp:c≠p2:=fun z=>by subst z;rw[m3] at hc;cases hc
   have hc0:C c=none:=e3.none nct hc;refine aQ (fun ρ' C'=>∃(cs:List (Str×Str×Rk))(x6 x7 x8:Option PV),ρ'=[some (.ref t),some (.ref k),some (.tup (τ.map PV.str)),some (.ref h),some (.str ev),some (.ref c),x6,x7,x8]/\C' c=some (.lst (cs.map Yr))/\cs.length<=2/\(∀c∈cs,c.2.2.ok κ.bs τ 1/\c.1∈κ.bs/\c.2.1.length<=8)/\C' h=some (.lst (hs.map Hd.pv))/\C' p2=some (.lst (ss.map PV.str))/\Tp C' t ns/\Ex t C C') (fun L2 hL2=>?_) ?_
   .have k3:=hk.ex (e3.put hc0 (.lst []))
    refine cJ k3.at_ rfl pW (gM k3.bx (i_i ?_));have T3':=T3.new hc (.lst []);have e3':Ex t C (uQ C3 c (.lst [])):=e3.put hc0 _;have mh':uQ C3 c (.lst []) h=some (.lst (hs.map Hd.pv)):=by rw[wQ (Ne.symm nch)];exact mh
    have mp':uQ C3 c (.lst []) p2=some (.lst (ss.map PV.str)):=by rw[wQ (Ne.symm ncp)];exact m3
    refine bZ (fun hb=>?_) fun hb=>?_
    .rw [AB] at hb
     have hb3:=Ac hb;refine⟨t,3,ns,rfl,T3',by decide,by decide,fun n C4 n0 n1 T4 e4=>?_⟩;refine⟨by lia,by lia,?_⟩;refine uJ (fun zs ρ C'=>∃(cs:List (Str×Str×Rk))(x6 x7 x8:Option PV),ρ=[some (.ref t),some (.ref k),some (.tup (τ.map PV.str)),some (.ref h),some (.str ev),some (.ref c),x6,x7,x8]/\C' c=some (.lst (cs.map Yr))/\cs.length+zs.length<=2/\(∀c∈cs,c.2.2.ok κ.bs τ 1/\c.1∈κ.bs/\c.2.1.length<=8)/\C' h=some (.lst (hs.map Hd.pv))/\C' p2=some (.lst (ss.map PV.str))/\Tp C' t ns/\Ex t C C') ?_ ?_ _ _ _ ⟨[],_,_,_,rfl,e4 _ _ nct xQ,by rw[AB,An];show 0+_<=2;lia,(fun _ z=>nomatch z),e4 _ _ nht mh',e4 _ _ np2 mp',T4,e3'.trans e4⟩
     .rintro z zs ρ C5 ⟨cs,y6,y7,y8,rfl,mc,hcl,hco,mh5,mp5,T5,e5⟩ L3 hL3
      have k5:=hk.ex e5;refine yQ (cJ k5.at_ rfl pW (cJ k5.at_ rfl pW (gM k5.bx ?_)));have lb:=hk.lb;rw[AB];refine⟨t,_,ns,rfl,T5,hb3,by lia,fun i C6 i0 i1 T6 e6=>?_⟩;refine mZ ((k5.ex e6).bx) (yW (f:=PV.str) "" i0 i1) (yQ ⟨by decide,fun p4 hp4=>?_⟩);refine⟨t,3,ns,rfl,T6.new hp4 _,by decide,by decide,fun j C7 j0 j1 T7 e7=>?_⟩
      apply mZ (e7 p4 _ (T6.ne hp4) xQ) (yW (f:=PV.str) (ss:=["set","add","times"]) "" j0 j1)
      have e67:Ex t C6 C7:=(Ex.new hp4 _).trans e7;have e57:Ex t C5 C7:=e6.trans e67;refine⟨eW (e57 _ _ nct mc),⟨t,k,τ,ns,κ,rfl,T7,k5.ex e57,hτ,fun r C8 hr T8 e8=>⟨y0 3 rfl,?_⟩⟩⟩;have e58:Ex t C5 C8:=e57.trans e8
      apply qP (e58 _ _ nct mc) (by rw[AB];exact AS (show cs.length < 3 by rw[AY] at hcl;lia) (by decide))
      refine hL3 _ _ ⟨cs++[(_,_,r)],_,_,_,rfl,by rw[xQ,Ab];rfl,by rw[AL,AZ];rw[AY] at hcl;lia,fun c' hc'=>?_,?_,?_,T8.put nct _,(e5.trans e58).put hc0 _⟩
      .rcases AV.1 hc' with hc' | hc'
       .exact hco c' hc'
       .cases AE.1 hc';exact⟨hr,xW i0 i1,(by decide +kernel:∀s∈(["set","add","times"]:List Str),s.length<=8) _ (xW j0 j1)⟩
      .rw [wQ (Ne.symm nch)];exact e58 _ _ nht mh5
      .rw [wQ (Ne.symm ncp)];exact e58 _ _ np2 mp5
     .rintro ρ C5 ⟨cs,y6,y7,y8,rfl,mc,hcl,hco,mh5,mp5,T5,e5⟩
      exact hL2 _ _ ⟨cs,_,_,_,rfl,mc,by lia,hco,mh5,mp5,T5,e5⟩
    .exact sQ (hL2 _ _ ⟨[],_,_,_,rfl,xQ,Ae _,(fun _ z=>nomatch z),mh',mp',T3',e3'⟩)
   rintro ρ' C4 ⟨cs,y6,y7,y8,rfl,mc,hcl,hco,mh4,mp4,T4,e4⟩;refine⟨eW mh4,⟨t,3,ns,rfl,T4,by decide,by decide,fun rk C5 r0 r1 T5 e5=>?_⟩⟩;refine qV ⟨t,2,ns,rfl,T5,by decide,by decide,fun z C6 z0 z1 T6 e6=>?_⟩
   apply qX (dX _ _)
   have e46:=e5.trans e6;refine mJ (e46 _ _ nct mc) ⟨y0 4 rfl,?_⟩
   apply qP (e46 _ _ nht mh4) (by rw[AB];exact AS (show hs.length < 3 by lia) (by decide))
   refine hL1 _ _ ⟨by rw[wQ (Ne.symm nhp2)];exact e46 _ _ np2 mp4,hs++[⟨ev,1+rk,decide (z=0),cs⟩],_,_,_,_,_,rfl,by rw[xQ,Ab];rfl,by rw[AL,AZ,hl],hi',fun h' hh'=>?_,T6.put nht _,(e4.trans e46).put hh _⟩
   rcases AV.1 hh' with hh' | hh'
   .exact ho h' hh'
   .cases AE.1 hh';exact⟨by lia,hco,hev,by lia,by lia⟩
  .rintro ρ C3 ⟨m3,hs,x4,x5,x6,x7,x8,rfl,mh,hl,hi,ho,T3,e3⟩
   exact hL _ _ ⟨hs,_,_,_,_,_,rfl,mh,by lia,ho,T3,e3⟩
  .rw [wQ nhp2];exact mh2
 rintro ρ' C' ⟨hs,x4,x5,x6,x7,x8,rfl,mh,hl,ho,T',e'⟩;exact mJ mh (q hs C' ho (by lia) T' e')
end
inductive Ln where
 |plain (k:Option Rk) (tag:Str) (sets:List (Str×Rk)) (hands:List Hd) (ls:List Ln)
 |part (k:Option Rk) (name:Str) (gives:List (Str×Rk))
 |give (k:Option Rk) (name:Str) (r:Rk) (ls:List Ln)
 |when (r:Rk) (l1 l2:List Ln)
 |each (name:Str) (r:Rk) (ls:List Ln)
mutual
def Ln.pv:Ln->PV
 |.plain k tag s h ls=>.tup [.str "plain",pG k,.str tag,.tup (s.map vW),.tup (h.map Hd.pv),.tup (Ln.pvs ls)]
 |.part k n g=>.tup [.str "part",pG k,.str n,.tup (g.map vW)]
 |.give k n r ls=>.tup [.str "give",pG k,.str n,r.pv,.tup (Ln.pvs ls)]
 |.when r l1 l2=>.tup [.str "when",r.pv,.tup (Ln.pvs l1),.tup (Ln.pvs l2)]
 |.each n r ls=>.tup [.str "each",.str n,r.pv,.tup (Ln.pvs ls)]
def Ln.pvs:List Ln->List PV
 |[]=>[]
 |l::ls=>l.pv::Ln.pvs ls
end
theorem Ln.pvs_map ls:Ln.pvs ls=ls.map Ln.pv:=by
 induction ls with
 |nil=>rfl
 |cons l ls ih=>rw[A8,<- ih];rfl
mutual
def Ln.tw:Ln->Nat
 |.plain _ _ _ _ ls=>1+Ln.tws ls
 |.part _ _ _=>1
 |.give _ _ _ ls=>1+Ln.tws ls
 |.when _ l1 l2=>Ln.tws l1+Ln.tws l2
 |.each _ _ ls=>8 * Ln.tws ls
def Ln.tws:List Ln->Nat
 |[]=>0
 |l::ls=>l.tw+Ln.tws ls
end
mutual
def Ln.pw:Ln->Nat
 |.plain _ _ _ _ ls=>Ln.pws ls
 |.part _ _ _=>1
 |.give _ _ _ ls=>Ln.pws ls
 |.when _ l1 l2=>Ln.pws l1+Ln.pws l2
 |.each _ _ ls=>8 * Ln.pws ls
def Ln.pws:List Ln->Nat
 |[]=>0
 |l::ls=>l.pw+Ln.pws ls
end
def Ln.tws_app xs ys:Ln.tws (xs++ys)=Ln.tws xs+Ln.tws ys:=by
 induction xs with
 |nil=>show _=0+_;rw[Bt];rfl
 |cons x xs ih=>show x.tw+Ln.tws (xs++ys)=x.tw+Ln.tws xs+Ln.tws ys;lia
def Ln.pws_app xs ys:Ln.pws (xs++ys)=Ln.pws xs+Ln.pws ys:=by
 induction xs with
 |nil=>show _=0+_;rw[Bt];rfl
 |cons x xs ih=>show x.pw+Ln.pws (xs++ys)=x.pw+Ln.pws xs+Ln.pws ys;lia
def LnOk(bs rs:List Str):Nat->List Str->Ln->Prop
 |0,_,_=>False
 |d+1,τ,.plain k tag s h ls=>koOk bs τ k/\(PrOk bs τ 2 s/\s.length<=4)/\((∀x∈h,x.ok bs τ)/\h.length<=4)/\(∀x∈ls,LnOk bs rs d τ x)/\ls.length<=6/\tag.length<=8
 |_+1,τ,.part k n g=>koOk bs τ k/\n∈rs/\PrOk bs τ 1 g/\g.length<=4
 |d+1,τ,.give k n r ls=>koOk bs τ k/\n∈(["a","ab","b"]:List Str)/\r.ok bs τ 1/\(∀x∈ls,LnOk bs rs d τ x)/\ls.length<=6
 |d+1,τ,.when r l1 l2=>r.ok bs τ 1/\((∀x∈l1,LnOk bs rs d τ x)/\l1.length<=6)/\(∀x∈l2,LnOk bs rs d τ x)/\l2.length<=6
 |d+1,τ,.each n r ls=>r.ok bs τ 1/\(∀x∈ls,LnOk bs rs d (n::τ) x)/\ls.length<=6
def LnOk.up: ∀{d}{τ}{l},LnOk bs rs d τ l->LnOk bs rs (d+1) τ l:=by
 intro d
 induction d with
 |zero=>intro τ l h;exact h.elim
 |succ d ih =>
  intro τ l h
  cases l with
  |plain k t s hh ls=>exact tN h fun h1 h2 h3 h4 h5=>⟨h1,h2,h3,fun x hx=>ih (h4 x hx),h5⟩
  |part k n g=>exact h
  |give k n r ls=>exact tN h fun h1 h2 h3 h4 h5=>⟨h1,h2,h3,fun x hx=>ih (h4 x hx),h5⟩
  |when r l1 l2=>obtain⟨h1,⟨h2,h3⟩,h4,h5⟩:=h;exact⟨h1,⟨fun x hx=>ih (h2 x hx),h3⟩,fun x hx=>ih (h4 x hx),h5⟩
  |each n r ls=>exact QR h fun h1 h2 h3=>⟨h1,fun x hx=>ih (h2 x hx),h3⟩
def LnOk.mono(h:LnOk bs rs d τ l)(le:d<=e):LnOk bs rs e τ l:=by
 induction le with
 |refl=>exact h
 |step _ ih=>exact ih.up
structure Chg(κ κ':Kt):Prop where
 b:κ'.b=κ.b
 r:κ'.r=κ.r
 bs:κ'.bs=κ.bs
 rs:κ'.rs=κ.rs
 la:κ'.la=κ.la
 l0:0<=κ'.l
 l1:κ'.l<=κ.l
 p0:0<=κ'.p
 p1:κ'.p<=κ.p
 e0:0<=κ'.e
 e1:κ'.e<=κ.e
structure Kok(κ:Kt)(e:Nat)(τ:List Str):Prop where
 l0:0<=κ.l
 l1:κ.l<=6
 p0:0<=κ.p
 p1:κ.p<=2
 e0:0<=κ.e
 e1:κ.e<=(e:Nat)
 t:0 < e->τ=[]
 ly:0 < κ.e->∀s,κ.la=some s->s∈κ.rs
 tl:τ.length<=4
def Chg.refl(h:Kok κ e τ):Chg κ κ:=⟨rfl,rfl,rfl,rfl,rfl,h.l0,BA _,h.p0,BA _,h.e0,BA _⟩
theorem Chg.trans(h:Chg κ κ1)(g:Chg κ1 κ2):Chg κ κ2:=⟨g.b.trans h.b,g.r.trans h.r,g.bs.trans h.bs,g.rs.trans h.rs,g.la.trans h.la,g.l0,Cj g.l1 h.l1,g.p0,Cj g.p1 h.p1,g.e0,Cj g.e1 h.e1⟩
def Kok.chg(h:Kok κ e τ)(g:Chg κ κ'):Kok κ' e τ:=⟨g.l0,Cj g.l1 h.l1,g.p0,Cj g.p1 h.p1,g.e0,Cj g.e1 h.e1,h.t,fun z s hs=>g.rs▸h.ly (Int.lt_of_lt_of_le z g.e1) s (by rwa [<- g.la]),h.tl⟩
def zOf(κ:Kt):Int:=if κ.la.isSome then 16 else 0
def zOf_chg(g:Chg κ κ'):zOf κ'=zOf κ :=by simp_all[zOf,g.la]
def mOf(e:Nat):Int:=if e=0 then 1 else 8
def qY(e d:Nat):Nat:=if e=0 then d+1 else d+3
structure Wgt(e:Nat)(τ:List Str)(κ κ':Kt)(extra:Int)(tw pw:Nat):Prop where
 t:(tw:Int)<=mOf e * (extra+(κ.l - κ'.l))
 p:(pw:Int)<=(κ.p - κ'.p)+zOf κ * (κ.e - κ'.e)
 n:τ≠[]->pw=0/\κ'.p=κ.p
theorem ExS.ofEx(h:Ex t C C'):ExS [t,k] C C':=fun b o n e=>h b o (fun z=>n (z▸AF)) e
section
variable {W:Wd}{a:Adr}
inductive qT(ts:List PV)(C:CH)(Q:K1):Prop
 |mk(t k:Addr)(τ:List Str)(ns:List Int)(κ:Kt)(name:Str)(z0:ts=[.ref t,.ref k,.tup (τ.map PV.str),.str name])(z1:Tp C t ns)(z2:KAt C t k κ)(z3:τ.length<=4)(z4:∀(o:Option Rk)(g:List (Str×Rk))(C':CH),koOk κ.bs τ o->PrOk κ.bs τ 1 g->g.length<=4->Tp C' t ns->Ex t C C'->Q (Ln.part o name g).pv C'):qT ts C Q
def KD v(h0:0<=v)(h1:v < 4):zY [PV.str "a",PV.str "ab",PV.str "b"] none (some v)=((["a","ab","b"]:List Str).take v.toNat).map PV.str:=by
 have:v=0\/v=1\/v=2\/v=3:=by lia
 rcases this with rfl | rfl | rfl | rfl<;>rfl
def rev_s(h:C b=some (.lst xs))(q:Q .non (uQ C b (.lst xs.reverse))):bD (.ref b) [] C Q:=by
 delta bD
 dsimp only
 rwa [h]
def pF(T:Tx W a):Ok W a 6 23 U13 qT:=by
 have S:=(T.F 23 rfl).s;have bQ:=(zJ T).mono (show 1<=5 by decide);have pD:=(XO T).mono (show 4<=5 by decide);have eJ:=jL T 1
 refine(T.F 23 rfl).ok (fun ts C R h=>?_) fun cdv A outer s H E hr=>⟨_,(jQ (cs1 4 S.nd (cf (T.F 19 rfl) pD hr (qQ (cv 0) (qQ (cv 1) (ca1 (cv 2))))))
  (jQ (cs1 5 S.nd (zA (zX (qQ kQ (qQ kQ (ca1 kQ)))) cY (dY (cf (T.F 14 rfl) bQ hr (qQ (cv 0) (ca1 zQ))))))
  (jQ (rQ (ct2 fX oQ (cf (T.F 14 rfl) bQ hr (qQ (cv 0) (ca1 zQ))) zQ) (vQ (vJ (Yw BY PySem.F.slot_list_reverse PySem.F.type_list_reverse XU Q5 (cv 5)))) pQ)
  (vQ (gQ (lQ (qQ kQ (qQ (cv 4) (qQ (cv 3) (ca1 (ctp T.vX (vD rfl (S.c (by decide +kernel)) (S.k rfl rfl rfl (by decide +kernel)) (cv 5) (fun _ _ _ _ _=>nJ) (fun _ _ _ _ _=>(lQ (qQ (cv 0) (ca1 (cf (T.F 18 rfl) eJ hr (qQ (cv 1) (qQ (cv 2) (qQ (cv 3) (ca1 zQ))))))))))))))))))))),?_⟩
 .obtain ⟨t,k,τ,ns,κ,name,rfl,_⟩:=h;rfl
 rintro ts C R ⟨t,k,τ,ns,κ,name,rfl,hT,hk,hτ,q⟩;refine yQ ⟨t,k,τ,ns,κ,rfl,hT,hk,hτ,fun o C1 ho T1 e1=>yQ ⟨by decide,fun p1 hp1=>?_⟩⟩;refine⟨t,4,ns,rfl,T1.new hp1 _,by decide,by decide,fun v C2 v0 v1 T2 e2=>?_⟩;have e02:Ex t C C2:=fun b o n e=>e2 b o n (Gr.new hp1 _ _ _ (e1 b o n e));refine sl_l (e2 p1 _ (T1.ne hp1) xQ) fun p2 hp2=>?_;rw[KD v v0 v1];have np2:=T2.ne hp2;have hp20:=e02.none np2 hp2
 generalize hss:(["a","ab","b"]:List Str).take v.toNat=ss;have hs8:∀s∈ss,s.length<=8:=fun s hs=>(by decide +kernel:∀s∈(["a","ab","b"]:List Str),s.length<=8) s (Cr (hss▸hs));have hsl:ss.length<=3 :=hss▸Bj▸Nat.min_le_right _ _;refine aQ (fun ρ' C'=>∃us:List Str,(us.length=ss.length/\∀s∈us,s.length<=8)/\ρ'=[some (.ref t),some (.ref k),some (.tup (τ.map PV.str)),some (.str name),some (pG o),some (.ref p2)]/\C' p2=some (.lst (us.map PV.str))/\Tp C' t ns/\Ex t C C') (fun L hL=>?_) ?_
 .refine ⟨t,2,ns,rfl,T2.new hp2 _,by decide,by decide,fun z C3 z0 z1 T3 e3=>?_⟩
  have m3:=e3 p2 _ np2 xQ;have e03:=(e02.put hp20 _).trans e3;refine qX (dX _ _) (bZ (fun hb=>?_) fun hb=>?_)
  .exact ⟨eW m3,rev_s m3 (hL _ _ ⟨ss.reverse,⟨List.length_reverse,fun s hs=>hs8 s (List.mem_reverse.1 hs)⟩,rfl,by rw[xQ,List.map_reverse],T3.put np2 _,e03.put hp20 _⟩)⟩
  .exact sQ (hL _ _ ⟨ss,⟨rfl,hs8⟩,rfl,m3,T3,e03⟩)
 rintro ρ' C3 ⟨us,⟨hus,hu8⟩,rfl,m3,T3,e3⟩;refine cl_l m3 rfl (iG vW (fun r=>r.ok κ.bs τ 1) (fun C'=>Tp C' t ns/\Ex t C C'/\C' p2=some (.lst (us.map PV.str))) (fun _ h=>h.2.2) (by lia) (fun z C4 L ⟨T4,e4,m4⟩ hL=>?_) (fun bs C4 p3 ⟨T4,e4,m4⟩ hp3 hb hbo=>?_) ⟨T3,e3,m3⟩)
 .refine ⟨t,k,τ,ns,κ,rfl,T4,hk.ex e4,hτ,fun r C5 hr T5 e5=>⟨y0 2 rfl,hL r C5 hr ⟨T5,e4.trans e5,e5 _ _ np2 m4⟩⟩⟩
 .refine mJ xQ ⟨y0 4 rfl,?_⟩
  exact q o bs _ ho (fun c hc=>⟨hbo c hc,hu8 c.1 (hb▸AU.2 ⟨c,hc,rfl⟩)⟩) (by have:=Bg List.length hb;rw[AB] at this;lia) (T4.new hp3 _) (e4.trans (Ex.new hp3 _))
end
def gP e:mOf e=1\/mOf e=8 :=by grind[mOf]
def Wgt.one(h:Wgt e τ κ κ' 0 tw pw):Wgt e τ κ κ' 1 (1+tw) pw:=by
 refine⟨?_,h.p,h.n⟩;have:=h.t
 rcases gP e with z | z<;>rw[z] at this ⊢ <;> lia
def Wgt.up(h:Wgt e τ κ κ' 0 tw pw):Wgt e τ κ κ' 1 tw pw:=by
 refine⟨?_,h.p,h.n⟩;have:=h.t
 rcases gP e with z | z<;>rw[z] at this ⊢ <;> lia
def Wgt.add(h:Wgt e τ κ κ1 x t1 p1)(g:Wgt e τ κ1 κ2 y t2 p2)(c:Chg κ κ1):Wgt e τ κ κ2 (x+y) (t1+t2) (p1+p2):=by
 refine⟨?_,?_,fun z=>?_⟩
 .have h1:=h.t
  have h2:=g.t
  rcases gP e with z | z<;>rw[z] at h1 h2 ⊢ <;> lia
 .have h1:=h.p
  have h2:=g.p;rw[zOf_chg c] at h2
  lia
 .obtain ⟨a1,a2⟩:=h.n z
  obtain⟨b1,b2⟩:=g.n z;exact⟨by lia,b2.trans a2⟩
theorem Wgt.nil: Wgt e τ κ κ 0 0 0:=by
 refine⟨?_,?_,fun _=>⟨rfl,rfl⟩⟩
 .lia
 .lia
theorem KAt.put(h:KAt C t k κ)l p e la:KAt (uQ C k (.dK (lX κ.b κ.r l p e (oW la)))) t k { κ with l:=l,p:=p,e:=e,la:=la }:=by
 have n1:κ.b≠k:=fun z=>by have:=h.bx;rw[z,h.at_] at this;cases this
 have n2:κ.r≠k:=fun z=>by have:=h.rx;rw[z,h.at_] at this;cases this
 exact⟨xQ,by rw[wQ n1];exact h.bx,by exact(wQ n2)▸h.rx,h.nk,h.nb,h.nr,h.lb,h.lr⟩
inductive eU(e d:Nat)(ts:List PV)(C:CH)(Q:K1):Prop
 |mk(t k:Addr)(τ:List Str)(ns:List Int)(κ:Kt)(z0:ts=[.ref t,.ref k,.tup (τ.map PV.str),.int (d:Nat)])(z1:Tp C t ns)(z2:KAt C t k κ)(z3:Kok κ e τ)(z4:∀(ls:List Ln)(κ':Kt)(C':CH),(∀x∈ls,LnOk κ.bs κ.rs (qY e d) τ x)->ls.length<=6->Wgt e τ κ κ' 0 (Ln.tws ls) (Ln.pws ls)->Chg κ κ'->Tp C' t ns->KAt C' t k κ'->ExS [t,k] C C'->Q (.tup (Ln.pvs ls)) C'):eU e d ts C Q
inductive rF(e d:Nat)(ts:List PV)(C:CH)(Q:K1):Prop
 |mk(t k:Addr)(τ:List Str)(ns:List Int)(κ:Kt)(z0:ts=[.ref t,.ref k,.tup (τ.map PV.str),.int (d:Nat)])(z1:Tp C t ns)(z2:KAt C t k κ)(z3:Kok κ e τ)(z4:∀(l:Ln)(κ':Kt)(C':CH),LnOk κ.bs κ.rs (qY e d) τ l->Wgt e τ κ κ' 1 l.tw l.pw->Chg κ κ'->Tp C' t ns->KAt C' t k κ'->ExS [t,k] C C'->Q l.pv C'):rF e d ts C Q
inductive rN(e d:Nat)(ts:List PV)(C:CH)(Q:K1):Prop
 |mk d'(z0:d=d'+1)(z1:eU e d' ts C Q):rN e d ts C Q
def iN e d:qY e (d+1)=qY e d+1:=by delta qY;split<;>rfl
def gT e d:∃n,qY e d=n+1:=by delta qY;split;exact⟨_,rfl⟩;exact⟨d+2,rfl⟩
section
variable {W:Wd}{a:Adr}
def wN(T:Tx W a)e d r(h7:7<=r)(hV:Ok W a r 26 U0 (rN e d)):
  Ok W a (r+1) 22 U0 (rF e d):=by
 have S:=(T.F 22 rfl).s;have bQ:=(zJ T).mono (show 1<=r by lia);have rJ:=(hU T).mono (show 2<=r by lia);have pD:=(XO T).mono (show 4<=r by lia);have K4:=(Wf T).mono (show 7<=r by lia);have K6:=(Wk T).mono (show 6<=r by lia)
 refine(T.F 22 rfl).ok (fun ts C R h=>?_) fun cdv A outer s H E hr=>⟨_,(jQ (cs1 4 S.nd (cf (T.F 19 rfl) pD hr (qQ (cv 0) (qQ (cv 1) (ca1 (cv 2))))))
  (jQ (cs1 5 S.nd (cx (cf (T.F 15 rfl) rJ hr (qQ (cv 0) (ca1 zQ))) zQ))
  (jQ (cs1 6 S.nd (cf (T.F 20 rfl) K4 hr (qQ (cv 0) (qQ (cv 1) (qQ (cv 2) (ca1 zQ))))))
  (jQ (cs1 7 S.nd (cf (T.F 21 rfl) K6 hr (qQ (cv 0) (qQ (cv 1) (ca1 (cv 2))))))
  (jQ (cs1 8 S.nd (lQ sJ))
  (jQ (rQ (cw_pt (cw_and (ct2 jK rZ (cv 3) zQ) (cw_and1 (ct2 fX oQ (cf (T.F 14 rfl) bQ hr (qQ (cv 0) (ca1 zQ))) zQ)))) (vQ (cs1 8 S.nd (cf (T.F 26 rfl) hV hr (qQ (cv 0) (qQ (cv 1) (qQ (cv 2) (ca1 (tQ pK wJ (cv 3) zQ)))))))) pQ)
  (vQ (gQ (lQ (qQ kQ (qQ (cv 4) (qQ (cv 5) (qQ (cv 6) (qQ (cv 7) (ca1 (cv 8)))))))))))))))),?_⟩
 .obtain ⟨t,k,τ,ns,κ,rfl,_⟩:=h;rfl
 rintro ts C R ⟨t,k,τ,ns,κ,rfl,hT,hk,ok,q⟩;refine yQ ⟨t,k,τ,ns,κ,rfl,hT,hk,ok.tl,fun o C1 ho T1 e1=>yQ ⟨t,1,ns,rfl,T1,by decide,by decide,fun p ss C2 m2 _ pt hl nd T2 e2=>?_⟩⟩
 obtain⟨tag,rfl⟩:∃tag,ss=[tag]:=by
  match ss,hl with
  |[x],_=>exact⟨x,rfl⟩
 refine mZ m2 gX (yQ ⟨t,k,τ,ns,κ,rfl,T2,(hk.ex e1).ex e2,ok.tl,fun ps C3 hps hpl T3 e3=>yQ ⟨t,k,τ,ns,κ,rfl,T3,((hk.ex e1).ex e2).ex e3,ok.tl,fun hs C4 hhs hhl T4 e4=>yQ ⟨by decide,?_⟩⟩⟩);have e04:=((e1.trans e2).trans e3).trans e4;have k4:=hk.ex e04
 have fin:∀ls κ' C',(∀x∈ls,∃d',d=d'+1/\LnOk κ.bs κ.rs (qY e d') τ x)->ls.length<=6->Wgt e τ κ κ' 0 (Ln.tws ls) (Ln.pws ls)->Chg κ κ'->Tp C' t ns->KAt C' t k κ'->ExS [t,k] C C' ->
   R (.tup [.str "plain",pG o,.str tag,.tup (ps.map vW),.tup (hs.map Hd.pv),.tup (Ln.pvs ls)]) C':=by
  intro ls κ' C' hls hll hw hc T' k' x';refine q (.plain o tag ps hs ls) κ' C' ?_ hw.one hc T' k' x';obtain⟨n,en⟩:=gT e d;rw[en];refine⟨ho,⟨hps,hpl⟩,⟨hhs,hhl⟩,fun x hx=>?_,hll,nm8 (nd.2 tag AF)⟩;obtain⟨d',rfl,hx'⟩:=hls x hx;rw[iN] at en;have:n=qY e d':=by lia
  rwa [this]
 refine aQ (fun ρ' C'=>∃ls κ',ρ'=[some (.ref t),some (.ref k),some (.tup (τ.map PV.str)),some (.int (d:Nat)),some (pG o),some (.str tag),some (.tup (ps.map vW)),some (.tup (hs.map Hd.pv)),some (.tup (Ln.pvs ls))]/\(∀x∈ls,∃d',d=d'+1/\LnOk κ.bs κ.rs (qY e d') τ x)/\ls.length<=6/\Wgt e τ κ κ' 0 (Ln.tws ls) (Ln.pws ls)/\Chg κ κ'/\Tp C' t ns/\KAt C' t k κ'/\ExS [t,k] C C') (fun L hL=>?_) ?_
 .refine i_i (bZ (fun hb=>?_) fun hb=>?_)
  .have hb:=Ac hb
   refine⟨t,2,ns,rfl,T4,by decide,by decide,fun z C5 z0 z1 T5 e5=>?_⟩;refine qX (dX _ _) (bZ (fun hb2=>?_) fun hb2=>?_)
   .apply i_i
    obtain⟨d',rfl⟩:∃d',d=d'+1:=⟨d - 1,by lia⟩;refine⟨d',rfl,t,k,τ,ns,κ,?_,T5,k4.ex e5,ok,fun ls κ' C6 h1 h2 h3 h4 T6 k6 x6=>?_⟩
    .have:((d'+1:Nat):Int) - 1=(d':Nat):=by lia
     rw[this]
    .exact hL _ _ ⟨ls,κ',rfl,fun x hx=>⟨d',rfl,h1 x hx⟩,h2,h3,h4,T6,k6,(ExS.ofEx (e04.trans e5)).trans x6⟩
   .exact sQ (hL _ _ ⟨[],κ,rfl,(fun _ z=>nomatch z),Ae _,Wgt.nil,Chg.refl ok,T5,k4.ex e5,ExS.ofEx (e04.trans e5)⟩)
  .exact mU rfl (sQ (hL _ _ ⟨[],κ,rfl,(fun _ z=>nomatch z),Ae _,Wgt.nil,Chg.refl ok,T4,k4,ExS.ofEx e04⟩))
 rintro ρ' C5 ⟨ls,κ',rfl,h1,h2,h3,h4,T5,k5,x5⟩;refine⟨y0 6 rfl,?_⟩;exact fin ls κ' C5 h1 h2 h3 h4 T5 k5 x5
end
inductive QI(e:Nat)(ts:List PV)(C:CH)(Q:K1):Prop
 |mk(t k:Addr)(d:Nat)(ns:List Int)(κ:Kt)(z0:ts=[.ref t,.ref k,.int (d:Nat)])(z1:Tp C t ns)(z2:KAt C t k κ)(z3:Kok κ e [])(z4:0 < κ.e)(z5:∀(l:Ln)(κ':Kt)(C':CH),LnOk κ.bs κ.rs 3 [] l->Wgt e [] κ κ' 1 l.tw l.pw->Chg κ κ'->Tp C' t ns->KAt C' t k κ'->ExS [t,k] C C'->Q l.pv C'):QI e ts C Q
def eqT_s(h1:iY x=some ks)(h2:iY y=some js)(q:Q (.bl (f (decide (ks=js)))) C):cEqT f x y C Q :=by simp_all[cEqT]
theorem sL:∀ss:List Str,oY (ss.map PV.str)=some (ss.map Sum.inr)
 |[]=>rfl
 |s::ss=>by
  show(match zW (.str s),oY (ss.map PV.str) with | some k,some ks=>some (k::ks) | _,_=>none)=_;rw[sL ss]
  rfl
section
variable {W:Wd}{a:Adr}
def aO(T:Tx W a)(e d r:Nat)(h7:7<=r)(hV:Ok W a r 26 U0 (rN e d))(qM:Ok W a r 22 U0 (rF e d))(YL:Ok W a r 24 U5 (QI e)):
  Ok W a (r+1) 25 U0 (rF e d):=by
 have S:=(T.F 25 rfl).s;have bQ:=(zJ T).mono (show 1<=r by lia);have pD:=(XO T).mono (show 4<=r by lia);have eJ:=(jL T 1).mono (show 5<=r by lia);have eY:=(pF T).mono (show 6<=r by lia)
 refine(T.F 25 rfl).ok (fun ts C R h=>?_) fun cdv A outer s H E hr=>⟨_,(jQ (cs1 4 S.nd (cf (T.F 14 rfl) bQ hr (qQ (cv 0) (ca1 zQ))))
  (jQ (rQ (cw_pt (cw_and (ct2 mF aG (cv 4) zQ) (cw_and (ct2 jK rZ (gZ (yX hr) (cv 1) kQ (fun _ _=>rfl)) zQ) (cw_and (ct2 jK rZ (cln T.yJ (gZ (yX hr) (cv 1) kQ (fun _ _=>rfl))) zQ) (cw_and1 (ct2 (op_eqTK (hu0_of hr)) cop_eqT (cv 2) (lQ sJ))))))) (jQ (mK (yX hr) (cv 1) kQ (tQ pK wJ (gZ (yX hr) (cv 1) kQ (fun _ _=>rfl)) zQ))
  (vQ (gQ (cf (T.F 23 rfl) eY hr (qQ (cv 0) (qQ (cv 1) (qQ (cv 2) (ca1 (cx (gZ (yX hr) (cv 1) kQ (fun _ _=>rfl)) (cf (T.F 14 rfl) bQ hr (qQ (cv 0) (ca1 (cln T.yJ (gZ (yX hr) (cv 1) kQ (fun _ _=>rfl))))))))))))))) pQ)
  (jQ (rQ (cw_pt (cw_and (ct2 fX oQ (cv 4) zQ) (cw_and1 (ct2 jK rZ (cv 3) zQ)))) (jQ (cs1 5 S.nd (cx (zX (qQ kQ (qQ kQ (ca1 kQ)))) (cf (T.F 14 rfl) bQ hr (qQ (cv 0) (ca1 zQ)))))
  (jQ (cs1 6 S.nd (cf (T.F 19 rfl) pD hr (qQ (cv 0) (qQ (cv 1) (ca1 (cv 2))))))
  (vQ (gQ (lQ (qQ kQ (qQ (cv 6) (qQ (cv 5) (qQ (cf (T.F 18 rfl) eJ hr (qQ (cv 0) (qQ (cv 1) (qQ (cv 2) (ca1 zQ))))) (ca1 (cf (T.F 26 rfl) hV hr (qQ (cv 0) (qQ (cv 1) (qQ (cv 2) (ca1 (tQ pK wJ (cv 3) zQ)))))))))))))))) pQ)
  (jQ (rQ (cw_pt (cw_and (ct2 fX oQ (cv 4) zQ) (cw_and1 (ct2 jK rZ (cv 3) zQ)))) (jQ (cs1 7 S.nd (cf (T.F 18 rfl) eJ hr (qQ (cv 0) (qQ (cv 1) (qQ (cv 2) (ca1 zQ))))))
  (jQ (cs1 8 S.nd (cf (T.F 26 rfl) hV hr (qQ (cv 0) (qQ (cv 1) (qQ (cv 2) (ca1 (tQ pK wJ (cv 3) zQ)))))))
  (vQ (gQ (lQ (qQ kQ (qQ (cv 7) (qQ (cv 8) (ca1 (cf (T.F 26 rfl) hV hr (qQ (cv 0) (qQ (cv 1) (qQ (cv 2) (ca1 (tQ pK wJ (cv 3) zQ))))))))))))))) pQ)
  (jQ (rQ (cw_pt (cw_and (ct2 jK rZ (cv 4) zQ) (cw_and1 (ct2 jK rZ (gZ (yX hr) (cv 1) kQ (fun _ _=>rfl)) zQ)))) (vQ (gQ (cf (T.F 24 rfl) YL hr (qQ (cv 0) (qQ (cv 1) (ca1 (cv 3))))))) pQ)
  (vQ (gQ (cf (T.F 22 rfl) qM hr (qQ (cv 0) (qQ (cv 1) (qQ (cv 2) (ca1 (cv 3))))))))))))),?_⟩
 .obtain ⟨t,k,τ,ns,κ,rfl,_⟩:=h;rfl
 rintro ts C R ⟨t,k,τ,ns,κ,rfl,hT,hk,ok,q⟩;refine yQ ⟨t,9,ns,rfl,hT,by decide,by decide,fun v C1 v0 v1 T1 e1=>?_⟩;have k1:=hk.ex e1;obtain⟨dn,edn⟩:=gT e d
 have low:∀(ls:List Ln),(∀x∈ls,∃d',d=d'+1/\LnOk κ.bs κ.rs (qY e d') τ x)->∀x∈ls,LnOk κ.bs κ.rs dn τ x:=by
  intro ls h x hx;obtain⟨d',rfl,h'⟩:=h x hx;rw[iN] at edn;have:dn=qY e d':=by lia
  rw[this];exact h'
 refine aQ (fun ρ' C'=>C'=C1/\ρ'=[some (.ref t),some (.ref k),some (.tup (τ.map PV.str)),some (.int (d:Nat)),some (.int v),none,none,none,none]) (fun L hL=>?_) ?_
 .refine i_i (bZ (fun hb=>?_) fun hb=>?_)
  .refine cJ k1.at_ rfl tR (i_i (bZ (fun hb2=>?_) fun hb2=>?_))
   .refine cJ k1.at_ rfl yH (gM k1.rx (i_i (bZ (fun hb3=>?_) fun hb3=>?_)))
    .refine ⟨y0 0 rfl,eqT_s (ks:=τ.map Sum.inr) (js:=[]) (sL τ) rfl (bZ (fun hb4=>?_) fun hb4=>?_)⟩
     .have hτ:τ=[]:=List.map_eq_nil_iff.1 (Ac hb4)
      have hb2:=Ac hb2;rw[AB] at hb3;have hb3:=Ac hb3;refine iZ (cJ k1.at_ rfl tR (i_i (mV k1.at_ rfl (by show 6<=1000;decide) ?_)));rw[J6];have k2:=k1.put κ.l (κ.p - 1) κ.e κ.la;have T2:=T1.put k1.nk (.dK (lX κ.b κ.r κ.l (κ.p - 1) κ.e (oW κ.la)));refine cJ k2.at_ rfl yH (cJ k2.at_ rfl yH (gM k2.rx ?_));have lr:=hk.lr;have el:(κ.rs.map PV.str).length=κ.rs.length:=AB _
      refine⟨t,_,ns,rfl,T2,by rw[el];exact hb3,by rw[el];lia,fun i C3 i0 i1 T3 e3=>?_⟩;have i1:i < (((κ.rs.map PV.str).length:Nat):Int):=i1;rw[el] at i1;have k3:=k2.ex e3;refine mZ k3.rx (yW (f:=PV.str) "" i0 i1) ⟨t,k,τ,ns,{ κ with p:=κ.p - 1 },_,rfl,T3,k3,ok.tl,fun o g C4 ho hg hgl T4 e4=>?_⟩;have p0:=ok.p0;refine q _ { κ with p:=κ.p - 1 } C4 ?_ ?_ ?_ T4 (k3.ex e4) ?_
      .rw [edn];exact⟨ho,xW i0 i1,hg,hgl⟩
      .refine ⟨?_,?_,fun z=>absurd hτ z⟩
       .show ((1:Nat):Int)<=mOf e * (1+(κ.l - κ.l))
        rcases gP e with z | z<;>rw[z]<;>lia
       .show ((1:Nat):Int)<=(κ.p - (κ.p - 1))+zOf κ * (κ.e - κ.e)
        rw[Int.sub_self κ.e,Int.mul_zero];lia
      .exact ⟨rfl,rfl,rfl,rfl,rfl,ok.l0,BA _,by lia,by lia,ok.e0,BA _⟩
      .exact (((ExS.ofEx e1).at (by simp) _).trans (ExS.ofEx e3)).trans (ExS.ofEx e4)
     .exact sQ (hL _ _ ⟨rfl,rfl⟩)
    .exact mU rfl (sQ (hL _ _ ⟨rfl,rfl⟩))
   .exact mU rfl (sQ (hL _ _ ⟨rfl,rfl⟩))
  .exact mU rfl (sQ (hL _ _ ⟨rfl,rfl⟩))
 rintro ρ' C' ⟨rfl,rfl⟩;refine aQ (fun ρ' C''=>C''=C'/\ρ'=[some (.ref t),some (.ref k),some (.tup (τ.map PV.str)),some (.int (d:Nat)),some (.int v),none,none,none,none]) (fun L hL=>?_) ?_
 .refine qX (dX _ _) (bZ (fun hb=>?_) fun hb=>?_)
  .refine i_i (bZ (fun hb2=>?_) fun hb2=>?_)
   .have hb2:=Ac hb2
    obtain⟨d',rfl⟩:∃d',d=d'+1:=⟨d - 1,by lia⟩;refine yQ ⟨by decide,fun p hp=>?_⟩;refine⟨t,3,ns,rfl,T1.new hp _,by decide,by decide,fun i C2 i0 i1 T2 e2=>?_⟩
    apply mZ (e2 p _ (T1.ne hp) xQ) (yW (f:=PV.str) (ss:=["a","ab","b"]) "" i0 i1)
    have e02:Ex t C C2:=fun b o n z=>e2 b o n (Gr.new hp _ _ _ (e1 b o n z));refine yQ ⟨t,k,τ,ns,κ,rfl,T2,hk.ex e02,ok.tl,fun o C3 ho T3 e3=>⟨t,k,τ,ns,κ,rfl,T3,(hk.ex e02).ex e3,ok.tl,fun rk C4 hrk T4 e4=>i_i ⟨d',rfl,t,k,τ,ns,κ,?_,T4,((hk.ex e02).ex e3).ex e4,ok,fun ls κ' C5 h1 h2 h3 h4 T5 k5 x5=>⟨y0 5 rfl,?_⟩⟩⟩⟩
    .have:((d'+1:Nat):Int) - 1=(d':Nat):=by lia
     rw[this]
    refine q (.give o _ rk ls) κ' C5 ?_ h3.one h4 T5 k5 ((ExS.ofEx ((e02.trans e3).trans e4)).trans x5);rw[edn];exact⟨ho,xW (ss:=["a","ab","b"]) i0 i1,hrk,low ls fun x hx=>⟨d',rfl,h1 x hx⟩,h2⟩
   .exact sQ (hL _ _ ⟨rfl,rfl⟩)
  .exact mU rfl (sQ (hL _ _ ⟨rfl,rfl⟩))
 rintro ρ' C'' ⟨rfl,rfl⟩;refine aQ (fun ρ' C'=>C'=C''/\ρ'=[some (.ref t),some (.ref k),some (.tup (τ.map PV.str)),some (.int (d:Nat)),some (.int v),none,none,none,none]) (fun L hL=>?_) ?_
 .refine qX (dX _ _) (bZ (fun hb=>?_) fun hb=>?_)
  .refine i_i (bZ (fun hb2=>?_) fun hb2=>?_)
   .have hb2:=Ac hb2
    obtain⟨d',rfl⟩:∃d',d=d'+1:=⟨d - 1,by lia⟩;have ed:((d'+1:Nat):Int) - 1=(d':Nat):=by lia
    refine yQ ⟨t,k,τ,ns,κ,rfl,T1,k1,ok.tl,fun rk C4 hrk T4 e4=>yQ (i_i ⟨d',rfl,t,k,τ,ns,κ,by rw[ed],T4,k1.ex e4,ok,fun ls κ' C5 h1 h2 h3 h4 T5 k5 x5=>?_⟩)⟩;refine i_i ⟨d',rfl,t,k,τ,ns,κ',by rw[ed],T5,k5,ok.chg h4,fun ls2 κ2 C6 g1 g2 g3 g4 T6 k6 x6=>⟨y0 4 rfl,?_⟩⟩;refine q (.when rk ls ls2) κ2 C6 ?_ (Wgt.up (h3.add g3 h4)) (h4.trans g4) T6 k6 (((ExS.ofEx (e1.trans e4)).trans x5).trans x6)
    rw[edn];refine⟨hrk,⟨low ls fun x hx=>⟨d',rfl,h1 x hx⟩,h2⟩,low ls2 fun x hx=>⟨d',rfl,?_⟩,g2⟩;have:=g1 x hx;rw[h4.bs,h4.rs] at this;exact this
   .exact sQ (hL _ _ ⟨rfl,rfl⟩)
  .exact mU rfl (sQ (hL _ _ ⟨rfl,rfl⟩))
 rintro ρ' C2 ⟨rfl,rfl⟩;refine aQ (fun ρ' C'=>C'=C2/\ρ'=[some (.ref t),some (.ref k),some (.tup (τ.map PV.str)),some (.int (d:Nat)),some (.int v),none,none,none,none]) (fun L hL=>?_) ?_
 .refine i_i (bZ (fun hb=>?_) fun hb=>?_)
  .refine cJ k1.at_ rfl gH (i_i (bZ (fun hb2=>?_) fun hb2=>?_))
   .have hb2:=Ac hb2
    have hτ:=ok.t (by have:=ok.e1;lia);subst hτ;refine⟨t,k,d,ns,κ,rfl,T1,k1,ok,hb2,fun l κ' C5 h1 h2 h3 T5 k5 x5=>q l κ' C5 (h1.mono ?_) h2 h3 T5 k5 ((ExS.ofEx e1).trans x5)⟩;have:=ok.e1
    delta qY
    rw[AX (by lia)]
    lia
   .exact sQ (hL _ _ ⟨rfl,rfl⟩)
  .exact mU rfl (sQ (hL _ _ ⟨rfl,rfl⟩))
 rintro ρ' C3 ⟨rfl,rfl⟩;exact⟨t,k,τ,ns,κ,rfl,T1,k1,ok,fun l κ' C5 h1 h2 h3 T5 k5 x5=>q l κ' C5 h1 h2 h3 T5 k5 ((ExS.ofEx e1).trans x5)⟩
end
def Ln.pvs_app xs ys:Ln.pvs (xs++ys)=Ln.pvs xs++Ln.pvs ys :=by grind[Ln.pvs_map,List.map_append]
def Ln.pvs_len xs:(Ln.pvs xs).length=xs.length:=by rw[Ln.pvs_map,AB]
def Wgt.pay(h:Wgt e τ { κ with l:=κ.l - 1 } κ' 1 tw pw):Wgt e τ κ κ' 0 tw pw:=by
 refine⟨?_,h.p,h.n⟩;have:=h.t;have e2:1+(κ.l - 1 - κ'.l)=0+(κ.l - κ'.l):=by lia
 rwa [e2] at this
theorem KAt.upd(h:KAt C t k κ)(n1:p≠k)(n2:p≠κ.b)(n3:p≠κ.r)o:KAt (uQ C p o) t k κ :=
 ⟨by rw[wQ (Ne.symm n1)];exact h.at_,by rw[wQ (Ne.symm n2)];exact h.bx,by exact(wQ (Ne.symm n3))▸h.rx,h.nk,h.nb,h.nr,h.lb,h.lr⟩
section
variable {W:Wd}{a:Adr}
def Qg(T:Tx W a)e d r(h1:1<=r)(xR:Ok W a r 25 U0 (rF e d)):
  Ok W a (r+1) 26 U0 (eU e d):=by
 have S:=(T.F 26 rfl).s;have bQ:=(zJ T).mono (show 1<=r by lia)
 refine(T.F 26 rfl).ok (fun ts C R h=>?_) fun cdv A outer s H E hr=>⟨_,(jQ (cs1 4 S.nd (zX sJ))
  (jQ (oB PassesOwn.never rfl rfl T.rV (ca1 (tQ pK wJ (tQ nX sX zQ (cf (T.F 14 rfl) bQ hr (qQ (cv 0) (ca1 zQ)))) (bJ nW eB rfl T.aM rfl (ca1 (wV mF aG (cv 3) zQ (wW _)))))) (cg1 5 S.nd) (vQ (rQ (ct2 jK rZ (gZ (yX hr) (cv 1) kQ (fun _ _=>rfl)) zQ) (jQ (mK (yX hr) (cv 1) kQ (tQ pK wJ (gZ (yX hr) (cv 1) kQ (fun _ _=>rfl)) zQ))
  (vQ (vJ (cap (cv 4) (cf (T.F 25 rfl) xR hr (qQ (cv 0) (qQ (cv 1) (qQ (cv 2) (ca1 (cv 3)))))))))) pQ)))
  (vQ (gQ (ctp T.vX (cv 4)))))),?_⟩
 .obtain ⟨t,k,τ,ns,κ,rfl,_⟩:=h;rfl
 rintro ts C R ⟨t,k,τ,ns,κ,rfl,hT,hk,ok,q⟩;refine yQ ⟨by decide,fun h hh=>?_⟩;have nht:=hT.ne hh;have nhk:h≠k:=fun z=>by subst z;rw[hk.at_] at hh;cases hh
 have nS:h∉[t,k]:=fun z=>by
  rcases Af.1 z with z | z
  .exact nht z
  .exact nhk (AE.1 z)
 have nb:h≠κ.b:=fun z=>by rw[z,hk.bx] at hh;cases hh
 have nr:h≠κ.r:=fun z=>by rw[z,hk.rx] at hh;cases hh
 have e1:Ex t C (uQ C h (.lst [])):=Ex.new hh _;refine aQ (fun ρ' C'=>∃ls κ' x5,ρ'=[some (.ref t),some (.ref k),some (.tup (τ.map PV.str)),some (.int (d:Nat)),some (.ref h),x5]/\C' h=some (.lst (Ln.pvs ls))/\(∀x∈ls,LnOk κ.bs κ.rs (qY e d) τ x)/\ls.length<=3/\Wgt e τ κ κ' 0 (Ln.tws ls) (Ln.pws ls)/\Chg κ κ'/\Tp C' t ns/\KAt C' t k κ'/\ExS [t,k] C C') (fun L hL=>?_) ?_
 .refine ⟨t,3,ns,rfl,hT.new hh _,by decide,by decide,fun v C2 v0 v1 T2 e2=>?_⟩
  refine qV (i_i (tS (i_i ?_)));generalize hn:1+v - (if decide ((d:Int) < 2)=true then (1:Int) else 0)=n;have hn3:n<=3/\0<=n:=by rw[<- hn];split<;>lia
  refine⟨by lia,by lia,?_⟩;refine uJ (fun zs ρ C'=>∃ls κ' x5,ρ=[some (.ref t),some (.ref k),some (.tup (τ.map PV.str)),some (.int (d:Nat)),some (.ref h),x5]/\C' h=some (.lst (Ln.pvs ls))/\(∀x∈ls,LnOk κ.bs κ.rs (qY e d) τ x)/\ls.length+zs.length<=3/\Wgt e τ κ κ' 0 (Ln.tws ls) (Ln.pws ls)/\Chg κ κ'/\Tp C' t ns/\KAt C' t k κ'/\ExS [t,k] C C') ?_ ?_ _ _ _ ⟨[],κ,_,rfl,e2 _ _ nht xQ,(fun _ z=>nomatch z),by rw[AB,An];show 0+_<=3;lia,Wgt.nil,Chg.refl ok,T2,(hk.ex e1).ex e2,ExS.ofEx (e1.trans e2)⟩
  .rintro z zs ρ C3 ⟨ls,κ1,x5,rfl,mh,hls,hll,hw,hc,T3,k3,x3⟩ L3 hL3
   have ok3:=ok.chg hc;refine cJ k3.at_ rfl sW (i_i (bZ (fun hb=>?_) fun hb=>?_))
   .have hb:=Ac hb
    refine iZ (cJ k3.at_ rfl sW (i_i (mV k3.at_ rfl (by show 6<=1000;decide) ?_)));rw[yF];have k4:=k3.put (κ1.l - 1) κ1.p κ1.e κ1.la;have T4:=T3.put k3.nk (.dK (lX κ1.b κ1.r (κ1.l - 1) κ1.p κ1.e (oW κ1.la)));have mh4:uQ C3 k (.dK (lX κ1.b κ1.r (κ1.l - 1) κ1.p κ1.e (oW κ1.la))) h=some (.lst (Ln.pvs ls)):=by rwa [wQ nhk]
    have c4:Chg κ1 { κ1 with l:=κ1.l - 1 }:=⟨rfl,rfl,rfl,rfl,rfl,by lia,by lia,hc.p0,BA _,hc.e0,BA _⟩;refine⟨eW mh4,⟨t,k,τ,ns,_,rfl,T4,k4,ok3.chg c4,fun l κ2 C5 g1 g2 g3 T5 k5 x5=>?_⟩⟩;have mh5:=x5 h _ nS mh4
    apply qP mh5 (by rw[Ln.pvs_len];exact AS (show ls.length < 4 by lia) (by decide))
    refine hL3 _ _ ⟨ls++[l],κ2,_,rfl,by rw[xQ,Ln.pvs_app];rfl,fun x hx=>?_,by rw[AL,AZ];rw[AY] at hll;lia,?_,hc.trans (c4.trans g3),T5.put nht _,?_,?_⟩
    .rcases AV.1 hx with hx | hx
     .exact hls x hx
     .cases AE.1 hx
      have:=g1
      rwa [hc.bs,hc.rs] at this
    .rw [Ln.tws_app,Ln.pws_app]
     have:=hw.add g2.pay hc;exact this
    .exact k5.upd nhk (by rw[g3.b];rwa [hc.b]) (by rw[g3.r];rwa [hc.r]) _
    .exact (((x3.at (by simp) _).trans x5).put hh _)
   .exact sQ (hL3 _ _ ⟨ls,κ1,_,rfl,mh,hls,by rw[AY] at hll;lia,hw,hc,T3,k3,x3⟩)
  .rintro ρ C3 ⟨ls,κ1,x5,rfl,mh,hls,hll,hw,hc,T3,k3,x3⟩
   exact hL _ _ ⟨ls,κ1,_,rfl,mh,hls,by lia,hw,hc,T3,k3,x3⟩
 rintro ρ' C3 ⟨ls,κ1,x5,rfl,mh,hls,hll,hw,hc,T3,k3,x3⟩;exact mJ mh (q ls κ1 C3 hls (by lia) hw hc T3 k3 x3)
structure EI(C0 C:CH)(t k h:Addr)(ns:List Int)(κ κ':Kt)(name:Str)(ls:List Ln)(m:Nat):Prop where
 mh:C h=some (.lst (Ln.pvs ls))
 ok:∀x∈ls,LnOk κ.bs κ.rs 2 [name] x
 len:ls.length+m<=2
 tw:(Ln.tws ls:Int)<=κ.l - κ'.l
 pw:Ln.pws ls<=if κ.la.isSome then ls.length else 0
 ch:Chg κ κ'
 p:κ'.p=κ.p
 e:κ'.e=κ.e
 tp:Tp C t ns
 kt:KAt C t k κ'
 ex:ExS [t,k] C0 C
def ok_each(T:Tx W a)(r:Nat)(h1:6<=r)(xR:Ok W a r 25 U0 (rF 0 1)):
  Ok W a (r+1) 24 U5 (QI 1):=by
 have S:=(T.F 24 rfl).s;have bQ:=(zJ T).mono (show 1<=r by lia);have rJ:=(hU T).mono (show 2<=r by lia);have xB:=(iO T).mono (show 3<=r by lia);have eY:=(pF T).mono (show 6<=r by lia)
 refine(T.F 24 rfl).ok (fun ts C R h=>?_) fun cdv A outer s H E hr=>⟨_,(jQ (mK (yX hr) (cv 1) kQ (tQ pK wJ (gZ (yX hr) (cv 1) kQ (fun _ _=>rfl)) zQ))
  (jQ (cs1 3 S.nd (cx (cf (T.F 15 rfl) rJ hr (qQ (cv 0) (ca1 zQ))) zQ))
  (jQ (cs1 4 S.nd (lQ (qQ kQ (ca1 (cf (T.F 14 rfl) bQ hr (qQ (cv 0) (ca1 zQ)))))))
  (jQ (rQ (ct2 fX oQ (cf (T.F 14 rfl) bQ hr (qQ (cv 0) (ca1 zQ))) zQ) (vQ (cs1 4 S.nd (cf (T.F 17 rfl) xB hr (qQ (cv 0) (qQ (cv 1) (ca1 (lQ sJ))))))) pQ)
  (jQ (cs1 5 S.nd (nQ (iB rfl) tP rfl T.ZF rfl (qQ zQ (ca1 (tQ nX sX (tQ pK wJ (gZ (yX hr) (cv 1) kQ (fun _ _=>rfl)) zQ) (bJ nW eB rfl T.aM rfl (ca1 (wV lO zC (gZ (yX hr) (cv 1) kQ (fun _ _=>rfl)) vV (wW _)))))))))
  (jQ (mK (yX hr) (cv 1) kQ (tQ pK wJ (gZ (yX hr) (cv 1) kQ (fun _ _=>rfl)) (cv 5)))
  (jQ (cs1 6 S.nd (zX sJ))
  (jQ (oB PassesOwn.never rfl rfl T.rV (ca1 (tQ nX sX zQ (cf (T.F 14 rfl) bQ hr (qQ (cv 0) (ca1 zQ))))) (cg1 7 S.nd) (vQ (rQ (ct2 jK rZ (gZ (yX hr) (cv 1) kQ (fun _ _=>rfl)) zQ) (jQ (mK (yX hr) (cv 1) kQ (tQ pK wJ (gZ (yX hr) (cv 1) kQ (fun _ _=>rfl)) zQ))
  (vQ (rQ (cw_pt (cw_and (ct2 lO zC (gZ (yX hr) (cv 1) kQ (fun _ _=>rfl)) vV) (cw_and1 (ct2 fX oQ (cf (T.F 14 rfl) bQ hr (qQ (cv 0) (ca1 zQ))) zQ)))) (vQ (vJ (cap (cv 6) (cf (T.F 23 rfl) eY hr (qQ (cv 0) (qQ (cv 1) (qQ (lQ (ca1 (cv 3))) (ca1 (gZ (yX hr) (cv 1) kQ (fun _ _=>rfl)))))))))) (vQ (vJ (cap (cv 6) (cf (T.F 25 rfl) xR hr (qQ (cv 0) (qQ (cv 1) (qQ (lQ (ca1 (cv 3))) (ca1 zQ))))))))))) pQ)))
  (jQ (mK (yX hr) (cv 1) kQ (tQ nX sX (gZ (yX hr) (cv 1) kQ (fun _ _=>rfl)) (cv 5)))
  (vQ (gQ (lQ (qQ kQ (qQ (cv 3) (qQ (cv 4) (ca1 (ctp T.vX (cv 6)))))))))))))))))),?_⟩
 .obtain ⟨t,k,d,ns,κ,rfl,_⟩:=h;rfl
 rintro ts C R ⟨t,k,d,ns,κ,rfl,hT,hk,ok,he,q⟩;have he1:κ.e=1:=by have:=ok.e1;lia
 refine iZ (cJ hk.at_ rfl gH (i_i (mV hk.at_ rfl (by show 6<=1000;decide) ?_)));rw[oH]
 try dsimp only
 have k1:=hk.put κ.l κ.p (κ.e - 1) κ.la;have T1:=hT.put hk.nk (.dK (lX κ.b κ.r κ.l κ.p (κ.e - 1) (oW κ.la)));have x1:ExS [t,k] C (uQ C k (.dK (lX κ.b κ.r κ.l κ.p (κ.e - 1) (oW κ.la)))):=ExS.refl.at (by simp) _;refine yQ ⟨t,1,ns,rfl,T1,by decide,by decide,fun p ss C2 m2 _ pt hl nd T2 e2=>?_⟩;have hl:ss.length=1:=hl
 obtain⟨name,rfl⟩:∃tag,ss=[tag]:=by
  match ss,hl with
  |[x],_=>exact⟨x,rfl⟩
 refine mZ m2 gX (yQ ⟨t,4,ns,rfl,T2,by decide,by decide,fun v C3 v0 v1 T3 e3=>⟨y0 2 rfl,?_⟩⟩);have k3:=(k1.ex e2).ex e3;have x3:ExS [t,k] C C3:=x1.trans (ExS.ofEx (e2.trans e3));refine aQ (fun ρ' C'=>∃rk:Rk,rk.ok κ.bs [] 0/\ρ'=[some (.ref t),some (.ref k),some (.int (d:Nat)),some (.str name),some rk.pv,none,none,none]/\Tp C' t ns/\Ex t C3 C') (fun L hL=>?_) ?_
 .refine ⟨t,3,ns,rfl,T3,by decide,by decide,fun z C4 z0 z1 T4 e4=>?_⟩
  refine qX (dX _ _) (bZ (fun hb=>?_) fun hb=>?_)
  .refine ⟨by decide,?_⟩
   exact⟨t,k,[],ns,_,rfl,T4,k3.ex e4,Ae _,fun rk C5 hrk T5 e5=>hL _ _ ⟨rk,hrk,rfl,T5,e4.trans e5⟩⟩
  .exact sQ (hL _ _ ⟨.num v,⟨by lia,by lia⟩,rfl,T4,e4⟩)
 rintro ρ' C4 ⟨rk,hrk,rfl,T4,e4⟩;have k4:=k3.ex e4;have x4:ExS [t,k] C C4:=x3.trans (ExS.ofEx e4);refine yQ (cJ k4.at_ rfl sW (i_i (cJ k4.at_ rfl uH (tS (qV (Qt ?_))))));generalize hsp:(if κ.l - 3+(if (!bU (oW κ.la))=true then (1:Int) else 0) > 0 then κ.l - 3+(if (!bU (oW κ.la))=true then (1:Int) else 0) else 0)=sp;have sp0:0<=sp/\sp<=κ.l:=by have:=ok.l0;rw[<- hsp];split<;>split<;>lia
 refine iZ (cJ k4.at_ rfl sW (i_i (mV k4.at_ rfl (by show 6<=1000;decide) ?_)));rw[yF];have k5:KAt _ t k { κ with l:=κ.l - sp,e:=κ.e - 1 }:=k4.put (κ.l - sp) κ.p (κ.e - 1) κ.la;have T5:=T4.put hk.nk (.dK (lX κ.b κ.r (κ.l - sp) κ.p (κ.e - 1) (oW κ.la)));have x5:ExS [t,k] C (uQ C4 k (.dK (lX κ.b κ.r (κ.l - sp) κ.p (κ.e - 1) (oW κ.la)))):=x4.at (by simp) _;generalize uQ C4 k (.dK (lX κ.b κ.r (κ.l - sp) κ.p (κ.e - 1) (oW κ.la)))=C5 at k5 T5 x5 ⊢
 try dsimp only
 refine yQ ⟨by decide,fun h hh=>?_⟩;have nht:=T5.ne hh;have nhk:h≠k:=fun z=>by subst z;rw[k5.at_] at hh;cases hh
 have nb:h≠κ.b:=fun z=>by have:=k5.bx;rw[<- z,hh] at this;cases this
 have nr:h≠κ.r:=fun z=>by have:=k5.rx;rw[<- z,hh] at this;cases this
 have nS:h∉[t,k]:=fun z=>by
  rcases Af.1 z with z | z
  .exact nht z
  .exact nhk (AE.1 z)
 have hh0:C h=none:=x5.none nS hh;have c5:Chg κ { κ with l:=κ.l - sp,e:=κ.e - 1 }:=⟨rfl,rfl,rfl,rfl,rfl,by show 0<=κ.l - sp;lia,by show κ.l - sp<=κ.l;lia,ok.p0,BA _,by lia,by lia⟩;have ok5:Kok { κ with l:=κ.l - sp,e:=κ.e - 1 } 0 [name]:=⟨c5.l0,Cj c5.l1 ok.l1,ok.p0,ok.p1,c5.e0,by lia,fun z=>absurd z (by decide),fun z=>absurd (show(0:Int) < κ.e - 1 from z) (by lia),by show 1<=4;decide⟩
 refine aQ (fun ρ' C'=>∃(ls:List Ln)(κ':Kt)(x7:Option PV),ρ'=[some (.ref t),some (.ref k),some (.int (d:Nat)),some (.str name),some rk.pv,some (.int sp),some (.ref h),x7]/\EI C C' t k h ns { κ with l:=κ.l - sp,e:=κ.e - 1 } κ' name ls 0) (fun L hL=>?_) ?_
 .refine ⟨t,2,ns,rfl,T5.new hh _,by decide,by decide,fun v2 C6 v20 v21 T6 e6=>?_⟩
  refine qV ⟨by lia,by lia,?_⟩;have k6:KAt C6 t k { κ with l:=κ.l - sp,e:=κ.e - 1 }:=(k5.upd nhk nb nr _).ex e6;refine uJ (fun zs ρ C'=>∃(ls:List Ln)(κ':Kt)(x7:Option PV),ρ=[some (.ref t),some (.ref k),some (.int (d:Nat)),some (.str name),some rk.pv,some (.int sp),some (.ref h),x7]/\EI C C' t k h ns { κ with l:=κ.l - sp,e:=κ.e - 1 } κ' name ls zs.length) ?_ ?_ _ _ _ ⟨[],_,_,rfl,⟨e6 _ _ nht xQ,(fun _ z=>nomatch z),by rw[AB,An];show 0+_<=2;lia,by show(0:Int)<=_ - _;lia,Ae _,Chg.refl ok5,rfl,rfl,T6,k6,(x5.put hh0 _).trans (ExS.ofEx e6)⟩⟩
  .rintro z zs ρ C7 ⟨ls,κ1,x7,rfl,I⟩ L3 hL3
   have ok7:=ok5.chg I.ch;have hll:=I.len;rw[AY] at hll;refine cJ I.kt.at_ rfl sW (i_i (bZ (fun hb=>?_) fun hb=>?_))
   .have hb:=Ac hb
    refine iZ (cJ I.kt.at_ rfl sW (i_i (mV I.kt.at_ rfl (by show 6<=1000;decide) ?_)));rw[yF];have k8:=I.kt.put (κ1.l - 1) κ1.p κ1.e κ1.la;have T8:=I.tp.put hk.nk (.dK (lX κ1.b κ1.r (κ1.l - 1) κ1.p κ1.e (oW κ1.la)));have mh8:uQ C7 k (.dK (lX κ1.b κ1.r (κ1.l - 1) κ1.p κ1.e (oW κ1.la))) h=some (.lst (Ln.pvs ls)):=by rw[wQ nhk];exact I.mh
    have x8:ExS [t,k] C (uQ C7 k (.dK (lX κ1.b κ1.r (κ1.l - 1) κ1.p κ1.e (oW κ1.la)))):=I.ex.at (by simp) _;generalize uQ C7 k (.dK (lX κ1.b κ1.r (κ1.l - 1) κ1.p κ1.e (oW κ1.la)))=C8 at k8 T8 mh8 x8 ⊢;have k8:KAt C8 t k { κ1 with l:=κ1.l - 1 }:=k8;have c8:Chg κ1 { κ1 with l:=κ1.l - 1 }:=⟨rfl,rfl,rfl,rfl,rfl,by lia,by lia,I.ch.p0,BA _,I.ch.e0,BA _⟩;have ela:κ1.la=κ.la:=I.ch.la
    have more:∀(l:Ln)(κ2:Kt)(C9:CH),LnOk κ.bs κ.rs 2 [name] l->(l.tw:Int)<=1+(κ1.l - 1 - κ2.l)->(l.pw<=if κ.la.isSome then 1 else 0)->Chg { κ1 with l:=κ1.l - 1 } κ2->κ2.p=κ1.p->κ2.e=κ1.e->Tp C9 t ns->KAt C9 t k κ2->ExS [t,k] C8 C9->(∀ρ' C',(∃(ls:List Ln)(κ':Kt)(x7:Option PV),ρ'=[some (.ref t),some (.ref k),some (.int (d:Nat)),some (.str name),some rk.pv,some (.int sp),some (.ref h),x7]/\EI C C' t k h ns { κ with l:=κ.l - sp,e:=κ.e - 1 } κ' name ls zs.length)->L3 ρ' C') ->
      xU (.ref h) [l.pv] C9 fun _ C'=>L3 [some (.ref t),some (.ref k),some (.int (d:Nat)),some (.str name),some rk.pv,some (.int sp),some (.ref h),some z] C':=by
     intro l κ2 C9 h1 h2 h3 h4 h5 h6 T9 k9 x9 hL';have mh9:=x9 h _ nS mh8
     apply qP mh9 (by rw[Ln.pvs_len];exact AS (show ls.length < 4 by lia) (by decide))
     have b2:h≠κ2.b:=by rw[h4.b];rw[I.ch.b];exact nb
     have r2:h≠κ2.r:=by rw[h4.r];rw[I.ch.r];exact nr
     refine hL' _ _ ⟨ls++[l],κ2,_,rfl,⟨by rw[xQ,Ln.pvs_app];rfl,fun x hx=>?_,by rw[AL,AZ];lia,?_,?_,I.ch.trans (c8.trans h4),h5.trans I.p,h6.trans I.e,T9.put nht _,k9.upd nhk b2 r2 _,(x8.trans x9).put hh0 _⟩⟩
     .rcases AV.1 hx with hx | hx
      .exact I.ok x hx
      .cases AE.1 hx;exact h1
     .rw [Ln.tws_app]
      have:=I.tw;show((Ln.tws ls+(l.tw+0):Nat):Int)<=_
      lia
     .rw [Ln.pws_app,AL,AZ]
      have g:=I.pw;have g:Ln.pws ls<=if κ.la.isSome then ls.length else 0:=g
      show Ln.pws ls+(l.pw+0)<=if κ.la.isSome then ls.length+1 else 0
      cases hz:κ.la.isSome with
      |true=>rw[hz,AW rfl] at g h3;rw[AW rfl];lia
      |false=>rw[hz,AX AN] at g h3;rw[AX AN];lia
    have e1z:κ1.e=0:=by have:=I.e;have:κ1.e=κ.e - 1:=this;lia
    have elseB:∀C9,Tp C9 t ns->Ex t C8 C9->rF 0 1 [.ref t,.ref k,.tup [.str name],.int 1] C9 fun v C'=>xU (.ref h) [v] C' fun _ C''=>L3 [some (.ref t),some (.ref k),some (.int (d:Nat)),some (.str name),some rk.pv,some (.int sp),some (.ref h),some z] C'':=by
     intro C9 T9 e9;refine⟨t,k,[name],ns,_,rfl,T9,k8.ex e9,ok7.chg c8,fun l κ2 C10 g1 g2 g3 T10 k10 x10=>?_⟩;obtain⟨n1,n2⟩:=g2.n (fun z=>nomatch z);refine more l κ2 C10 ?_ ?_ (by rw[n1];exact Ae _) g3 n2 ?_ T10 k10 ((ExS.ofEx e9).trans x10) hL3
     .have:LnOk κ1.bs κ1.rs 2 [name] l:=g1
      rw[I.ch.bs,I.ch.rs] at this;exact this
     .have:=g2.t
      have this:(l.tw:Int)<=1 * (1+(κ1.l - 1 - κ2.l)):=this
      lia
     .have a1:=g3.e0
      have a2:=g3.e1;have a2:κ2.e<=κ1.e:=a2
      lia
    refine cJ k8.at_ rfl uH (c_i (if_b (fun hb2=>?_) fun hb2=>?_))
    .refine ⟨t,2,ns,rfl,T8,by decide,by decide,fun z2 C9 z20 z21 T9 e9=>?_⟩
     refine qX (dX _ _) (bZ (fun hb3=>?_) fun hb3=>?_)
     .have hb2:(!bU (oW κ1.la))=true:=hb2
      obtain⟨sl,hsl⟩:∃sl,κ1.la=some sl:=by
       cases hz:κ1.la with
       |none=>rw[hz] at hb2;cases hb2
       |some sl=>exact⟨sl,rfl⟩
      have k9:=k8.ex e9;refine⟨eW (e9 _ _ nht mh8),⟨y0 1 rfl,?_⟩⟩
      apply cJ k9.at_ rfl (v:=.str sl) (by rw[uH];show some (oW κ1.la)=_;rw[hsl];rfl)
      refine⟨t,k,[name],ns,_,sl,rfl,T9,k9,by show 1<=4;decide,fun o g C10 ho hg hgl T10 e10=>?_⟩;refine more (.part o sl g) { κ1 with l:=κ1.l - 1 } C10 ?_ ?_ ?_ (Chg.refl (ok7.chg c8)) rfl rfl T10 (k9.ex e10) ((ExS.ofEx e9).trans (ExS.ofEx e10)) hL3
      .have ho:koOk κ1.bs [name] o:=ho
       have hg:PrOk κ1.bs [name] 1 g:=hg;rw[I.ch.bs] at ho hg;exact⟨ho,ok.ly he sl (by rw[<- ela];exact hsl),hg,hgl⟩
      .show ((1:Nat):Int)<=1+(κ1.l - 1 - (κ1.l - 1));lia
      .rw [<- ela,hsl];exact AH _
     .refine ⟨eW (e9 _ _ nht mh8),⟨y0 1 rfl,?_⟩⟩
      exact elseB C9 T9 e9
    .refine mU rfl ⟨eW mh8,⟨y0 1 rfl,?_⟩⟩
     exact elseB C8 T8 Ex.refl
   .exact sQ (hL3 _ _ ⟨ls,κ1,_,rfl,⟨I.mh,I.ok,by lia,I.tw,I.pw,I.ch,I.p,I.e,I.tp,I.kt,I.ex⟩⟩)
  .rintro ρ C7 ⟨ls,κ1,x7,rfl,I⟩
   exact hL _ _ ⟨ls,κ1,_,rfl,I⟩
 rintro ρ' C7 ⟨ls,κ1,x7,rfl,I⟩;refine iZ (cJ I.kt.at_ rfl sW (qV (mV I.kt.at_ rfl (by show 6<=1000;decide) ?_)));rw[yF];have mh9:uQ C7 k (.dK (lX κ1.b κ1.r (κ1.l+sp) κ1.p κ1.e (oW κ1.la))) h=some (.lst (Ln.pvs ls)):=by rw[wQ nhk];exact I.mh
 refine mJ mh9 ⟨y0 4 rfl,?_⟩;have cl0:=I.ch.l0;have cl1:κ1.l<=κ.l - sp:=I.ch.l1;have ce:κ1.e=κ.e - 1:=I.e;have cp:κ1.p=κ.p:=I.p;have ctw:(Ln.tws ls:Int)<=κ.l - sp - κ1.l:=I.tw;have cpw:Ln.pws ls<=if κ.la.isSome then ls.length else 0:=I.pw
 have cll:ls.length+0<=2:=I.len;refine q (.each name rk ls) { κ1 with l:=κ1.l+sp } _ ?_ ?_ ?_ (I.tp.put hk.nk _) (I.kt.put (κ1.l+sp) κ1.p κ1.e κ1.la) (I.ex.at (by simp) _)
 .exact ⟨hrk.mono (by decide),fun x hx=>(I.ok x hx).mono (by decide),by lia⟩
 .refine ⟨?_,?_,fun z=>absurd rfl z⟩
  .show ((8 * Ln.tws ls:Nat):Int)<=8 * (1+(κ.l - (κ1.l+sp)))
   lia
  .show ((8 * Ln.pws ls:Nat):Int)<=(κ.p - κ1.p)+zOf κ * (κ.e - κ1.e)
   have e1:κ.e - κ1.e=1:=by lia
   rw[e1,Int.mul_one]
   delta zOf
   cases hz:κ.la.isSome with
   |true=>rw[hz,AW rfl] at cpw;rw[AW rfl];lia
   |false=>rw[hz,AX AN] at cpw;rw[AX AN];lia
 .exact ⟨I.ch.b,I.ch.r,I.ch.bs,I.ch.rs,I.ch.la,by show 0<=κ1.l+sp;lia,by show κ1.l+sp<=κ.l;lia,I.ch.p0,I.ch.p1,I.ch.e0,by show κ1.e<=κ.e;lia⟩
end
structure Pt where
 name:Str
 first:List (Str×Int)
 works:List (Str×Rk)
 ls:List Ln
def Pt.pv(x:Pt):PV:=.tup [.str x.name,.tup (x.first.map yZ),.tup (x.works.map vW),.tup (Ln.pvs x.ls)]
structure PtOk(rs:List Str)(cap:Nat)(x:Pt):Prop where
 fl:x.first.length<=4
 wk:PrOk (x.first.map (·.1)) [] 1 x.works
 wl:x.works.length<=4
 ls:∀l∈x.ls,LnOk (x.first.map (·.1)) rs 6 [] l
 ll:x.ls.length<=7
 tw:Ln.tws x.ls<=120
 pw:Ln.pws x.ls<=cap
 fb:∀c∈x.first,-1000000000<=c.2/\c.2<=1000000000
 bn:∀c∈x.first,cM c.1=true
structure PtS(rs:List Str)(cap:Nat)(x:Pt):Prop where
 ok:PtOk rs cap x
 ll:x.ls.length<=6
 tw:Ln.tws x.ls<=48
def PtOk.b8{cap}(ok:PtOk rs cap x):∀s∈x.first.map (·.1),s.length<=8:=fun s hs=>by
 obtain⟨c,hc,rfl⟩:=AU.1 hs;exact nm8 (ok.bn c hc)
def Qa(m:C p=some (.dK []))(e:prK ts=some ps)(h:ps.length<=15)(q:Q (.ref p) (uQ C p (.dK (sU [] ps)))):aP p ts C Q :=by simp_all[aP]
def QY{ss:List Str}(n:Nat):zY (ss.map PV.str) (some ( n+1)) none=(ss.drop (n+1)).map PV.str:=by
 delta zY
 have e:HT.sIx (ss.map PV.str).length 0 (some ((n:Int)+1))=min (n+1) ss.length:=by
  have:((n:Int)+1)=((n+1:Nat):Int):=by lia
  rw[this,HT.sIx_nat,AB]
 rw[e,HT.sIx_none,<- List.map_drop,DU (by grind)]
 congr 1
 by_cases h:n+1<=ss.length
 .lia
 .simp_all
def YE{ss:List Str}(h:1 < ss.length):∃s∈ss.drop 1,atI (ss.map PV.str) (-1)=some (.str s):=by
 delta atI ixN
 rw[AX (by decide),AB,AW (by lia)];have e:((ss.length:Int) + -1).toNat=ss.length - 1:=by lia
 refine⟨ss[ss.length - 1],?_,?_⟩
 .have:ss[ss.length - 1]=(ss.drop 1)[ss.length - 2]'(by rw[Bx];lia):=by
   rw[List.getElem_drop]
   congr 1
   lia
  rw[this];exact BW _
 .show (ss.map PV.str)[((ss.length:Int) + -1).toNat]?=_
  rw[e,Ao,AO (by lia)]
  rfl
def Zx{ss:List Str}(h:n < ss.length):atI (ss.map PV.str) n=some (.str ss[n]):=by
 have:=eC (xs:=ss.map PV.str) (by rwa [AB])
 rwa [List.getElem_map] at this
section
variable {W:Wd}{a:Adr}
def xK(h:∀ts C Q,¬ G ts C Q):FnOk W.P W.w W.K W.mg W.base CX0 r f fd ps (spC W.K G) :=
 ⟨fun vs H Q E zz=>pX zz fun ts C R _ _ z _=> (h _ _ _ z).elim,fun _ _ _ _ _ _ _ _ _ _ _ _ _ zz=>pX zz fun ts C R _ _ z _=> (h _ _ _ z).elim⟩
def dF(h:∀d',d=d'+1->Ok W a r 26 U0 (eU e d')):Ok W a r 26 U0 (rN e d):=by
 cases d with
 |zero=>exact xK fun ts C Q ⟨d',e,_⟩=>by lia
 |succ d' =>
  have e:rN e (d'+1)=eU e d':=by
   funext ts C Q
   refine propext ⟨fun⟨d'',z,h⟩=>?_,fun h=>⟨d',rfl,h⟩⟩;cases A4 z;exact h
  exact e▸h d' rfl
def gS(T:Tx W a):Ok W a 8 22 U0 (rF 0 0) :=
 wN T 0 0 7 (by decide) (dF fun d' e=>by omega)
def bS: Ok W a r 24 U5 (QI 0):=xK fun ts C Q ⟨t,k,d,ns,κ,_,_,_,ok,h,_⟩=>by have:=ok.e1;lia
def Kf(T:Tx W a):Ok W a 12 25 U0 (rF 0 1) :=
 have ls:=Qg T 0 0 9 (by decide) (aO T 0 0 8 (by decide) (dF fun d' e=>by omega) (gS T) bS);have lo:=dF fun d' e=>by cases A4 e;exact ls
 aO T 0 1 11 (by decide) (lo.mono (by decide)) (wN T 0 1 10 (by decide) lo) bS
def Wl(T:Tx W a):Ok W a 13 24 U5 (QI 1):=ok_each T 12 (by decide) (Kf T)
def fS(T:Tx W a)d:Ok W a (15+3 * d) 26 U0 (eU 1 d):=by
 have step:∀d,(∀d',d=d'+1->Ok W a (12+3 * d) 26 U0 (eU 1 d'))->Ok W a (15+3 * d) 26 U0 (eU 1 d):=by
  intro d h;have lo:=dF h;have ln:=aO T 1 d (12+3 * d+1) (by lia) (lo.mono (Bv _)) (wN T 1 d (12+3 * d) (by lia) lo) ((Wl T).mono (by lia));have:=Qg T 1 d (12+3 * d+1+1) (Nat.succ_pos _) ln;have e:12+3 * d+1+1+1=15+3 * d:=by lia
  rwa [e] at this
 induction d with
 |zero=>exact step 0 fun d' e=>by lia
 |succ d ih=>exact step (d+1) fun d' e=>by cases A4 e;exact ih.mono (by lia)
def ok_or(h1:FnOk W.P W.w W.K W.mg W.base CX0 r f fd ps (spC W.K G1))(h2:FnOk W.P W.w W.K W.mg W.base CX0 r f fd ps (spC W.K G2)):FnOk W.P W.w W.K W.mg W.base CX0 r f fd ps (spC W.K (fun ts C Q=>G1 ts C Q\/G2 ts C Q)) :=
 ⟨fun vs H Q E zz=>pX zz fun ts C R x y z u=> by
  rcases z with z | z
  .exact h1.len vs H Q E ⟨ts,C,R,x,y,z,u⟩
  .exact h2.len vs H Q E ⟨ts,C,R,x,y,z,u⟩,fun A outer s H args us vs Q E rm e0 bt vl zz=>pX zz fun ts C R x y z u=> by
  rcases z with z | z
  .exact h1.run A outer s H args us vs Q E rm e0 bt vl ⟨ts,C,R,x,y,z,u⟩
  .exact h2.run A outer s H args us vs Q E rm e0 bt vl ⟨ts,C,R,x,y,z,u⟩⟩
def uC(k:Nat):Nat:=if k=0 then 18 else 2
structure KS(κ:Kt)(bl rl:Addr)(bs rs:List Str)(k:Nat):Prop where
 b:κ.b=bl
 r:κ.r=rl
 bs:κ.bs=bs
 rs:κ.rs=rs
 l:κ.l=6
 p0:1<=κ.p
 p1:κ.p<=2
 e0:0<=κ.e
 e1:κ.e<=1
 ly:0 < κ.e->∀s,κ.la=some s->s∈κ.rs
 cap:κ.p+zOf κ * κ.e<=(uC k:Nat)
inductive gPart(ts:List PV)(C:CH)(Q:K1):Prop
 |mk(t nl:Addr)(ns:List Int)(names:List Str)(k:Nat)(keyed:Bool)(z0:ts=[.ref t,.ref nl,.int (k:Nat),.bl keyed])(z1:Tp C t ns)(z2:C nl=some (.lst (names.map PV.str)))(z3:nl≠t)(z4:names.length<=6)(z5:k < names.length)(z6:∀(x:Pt)(C':CH),names[k]?=some x.name->PtS (names.drop (k+1)) (uC k) x->Tp C' t ns->Ex t C C'->Q x.pv C'):gPart ts C Q
def ok_part(T:Tx W a):Ok W a 25 27 U11 gPart:=by
 have S:=(T.F 27 rfl).s;have bQ:=(zJ T).mono (show 1<=24 by decide);have rJ:=(hU T).mono (show 2<=24 by decide);have wK:=(mB T).mono (show 2<=24 by decide);have eJ:=(jL T 1).mono (show 5<=24 by decide);have hV:=ok_or (fS T 3) ((fS T 1).mono (show 15+3 * 1<=24 by decide))
 refine(T.F 27 rfl).ok (fun ts C R h=>?_) fun cdv A outer s H E hr=>⟨_,(jQ (cs1 4 S.nd (cx (zX (qQ zQ (qQ zQ (qQ zQ (qQ zQ (qQ zQ (ca1 zQ))))))) (cf (T.F 14 rfl) bQ hr (qQ (cv 0) (ca1 zQ)))))
  (jQ (cs1 5 S.nd (cf (T.F 15 rfl) rJ hr (qQ (cv 0) (ca1 (cv 4)))))
  (jQ (cs1 6 S.nd (Jv (lJ kQ (cv 5) (lJ kQ (zA (cv 1) (dY (tQ nX sX (cv 2) zQ)) cY) (lJ kQ zQ (lJ kQ zQ (lJ kQ zQ (lJ kQ vV Js))))))))
  (jQ (rQ (cw_pt (cw_or (ct2 mF aG (cln T.yJ (cv 1)) zQ) (cw_or1 (cw_pt (cw_and (hZ (cv 3)) (cw_and1 (ct2 fX oQ (cv 2) zQ))))))) (vQ (mK (yX hr) (cv 6) kQ zQ)) pQ)
  (jQ (rQ (hZ (cv 3)) (jQ (mK (yX hr) (cv 6) kQ (bJ nW eB rfl T.aM rfl (ca1 (wV fX oQ (cv 2) zQ (wW _)))))
  (jQ (rQ (ct2 jK rZ (cln T.yJ (cv 1)) zQ) (vQ (mK (yX hr) (cv 6) kQ (cx (cv 1) (vC fM nG zQ)))) pQ)
  (vQ (rQ (ct2 jK rZ (cv 2) zQ) (vQ (mK (yX hr) (cv 6) kQ zQ)) pQ)))) pQ)
  (jQ (cs1 7 S.nd (ctp T.vX (vD rfl (S.c (by decide +kernel)) (S.k rfl rfl rfl (by decide +kernel)) (cv 5) (fun _ _ _ _ _=>nJ) (fun _ _ _ _ _=>(lQ (qQ (cv 0) (ca1 (cf (T.F 16 rfl) wK hr (ca1 (cv 1))))))))))
  (jQ (cs1 8 S.nd (cf (T.F 26 rfl) hV hr (qQ (cv 0) (qQ (cv 6) (qQ (lQ sJ) (ca1 (cx (zX (qQ zQ (ca1 zQ))) (bJ nW eB rfl T.aM rfl (ca1 (wV jK rZ (cln T.yJ (cv 1)) zQ (wW _)))))))))))
  (jQ (cs1 9 S.nd (cf (T.F 15 rfl) rJ hr (qQ (cv 0) (ca1 (cf (T.F 14 rfl) bQ hr (qQ (cv 0) (ca1 zQ)))))))
  (jQ (cs1 10 S.nd (ctp T.vX (vD rfl (S.c (by decide +kernel)) (S.k rfl rfl rfl (by decide +kernel)) (cv 9) (fun _ _ _ _ _=>nJ) (fun _ _ _ _ _=>(lQ (qQ (cv 0) (ca1 (cf (T.F 18 rfl) eJ hr (qQ (cv 1) (qQ (cv 7) (qQ (lQ sJ) (ca1 zQ))))))))))))
  (vQ (gQ (lQ (qQ (cx (cv 1) (cv 2)) (qQ (cv 7) (qQ (cv 10) (ca1 (cv 8))))))))))))))))),?_⟩
 .obtain ⟨t,nl,ns,names,k,keyed,rfl,_⟩:=h;rfl
 rintro ts C R ⟨t,nl,ns,names,k,keyed,rfl,hT,mn,nt,hnl,hkn,q⟩;refine yQ ⟨by decide,fun p1 hp1=>?_⟩;refine⟨t,6,ns,rfl,hT.new hp1 _,by decide,by decide,fun v C1 v0 v1 T1 e1=>?_⟩;have e01:Ex t C C1:=(Ex.new hp1 _).trans e1
 apply mZ (e1 p1 _ (hT.ne hp1) xQ) (yW (f:=PV.int) (ss:=[0,1,1,2,2,4]) 0 v0 v1)
 have hm:0<=([0,1,1,2,2,4]:List Int).getD v.toNat 0/\([0,1,1,2,2,4]:List Int).getD v.toNat 0<=4:=by
  have:v=0\/v=1\/v=2\/v=3\/v=4\/v=5:=by lia
  rcases this with rfl | rfl | rfl | rfl | rfl | rfl<;>decide
 generalize ([0,1,1,2,2,4]:List Int).getD v.toNat 0=m at hm ⊢;refine yQ ⟨t,m,ns,rfl,T1,hm.1,by lia,fun bl bs C2 m2 n2 bt hbl nd T2 e2=>?_⟩;have e02:=e01.trans e2;have hbs:bs.length<=4:=by lia
 apply yQ
 intro kd hkd;have T3:=T2.new hkd (.dK []);have nkt:=T2.ne hkd;refine qV (sl_l (Gr.new hkd _ _ _ (e02 _ _ nt mn)) fun rl hrl=>?_);have T4:=T3.new hrl (.lst (zY (names.map PV.str) (some ((k:Int)+1)) none));have nrt:=T3.ne hrl;have nkr:kd≠rl:=fun z=>by subst z;rw[xQ] at hrl;cases hrl
 have hrl2:C2 rl=none:=by rw[wQ (Ne.symm nkr)] at hrl;exact hrl
 have nbk:bl≠kd:=fun z=>by rw[z,hkd] at m2;cases m2
 have nbr:bl≠rl:=fun z=>by rw[z,hrl2] at m2;cases m2
 rw[QY];rw[QY] at T4
 apply Qa (ps:=lX bl rl 6 1 1 .non) (by rw[wQ nkr];exact xQ) rfl (by show 6<=15;decide)
 rw[show sU [] (lX bl rl 6 1 1 .non)=lX bl rl 6 1 1 .non from rfl];have T5:=T4.put nkt (.dK (lX bl rl 6 1 1 .non))
 have x5:Ex t C (uQ (uQ (uQ C2 kd (.dK [])) rl (.lst ((names.drop (k+1)).map PV.str))) kd (.dK (lX bl rl 6 1 1 .non))) :=
  ((e02.trans (Ex.new hkd _)).trans (Ex.new hrl _)).put (e02.none nkt hkd) _
 have k5:KAt (uQ (uQ (uQ C2 kd (.dK [])) rl (.lst ((names.drop (k+1)).map PV.str))) kd (.dK (lX bl rl 6 1 1 .non))) t kd ⟨bl,rl,bs,names.drop (k+1),6,1,1,none⟩:=by
  refine⟨xQ,?_,?_,nkt,bt,nrt,hbs,?_⟩
  .rw [wQ nbk,wQ nbr,wQ nbk];exact m2
  .rw [wQ (Ne.symm nkr)];exact xQ
  .rw [Bx];lia
 have kd0:C kd=none:=e02.none nkt hkd;generalize uQ (uQ (uQ C2 kd (.dK [])) rl (.lst ((names.drop (k+1)).map PV.str))) kd (.dK (lX bl rl 6 1 1 .non))=C5 at T5 x5 k5 ⊢;refine aQ (fun ρ' C'=>∃p:Int,1<=p/\p<=2/\ρ'=[some (.ref t),some (.ref nl),some (.int (k:Nat)),some (.bl keyed),some (.int m),some (.ref bl),some (.ref kd),none,none,none,none]/\Tp C' t ns/\Ex t C C'/\KAt C' t kd ⟨bl,rl,bs,names.drop (k+1),6,p,1,none⟩) (fun L hL=>?_) ?_
 .have yes:∀L':CSt->CH->Prop,L'=L->Xb (.ref kd) (.str "parts") (.int 2) C5 fun C4=>L' [some (.ref t),some (.ref nl),some (.int (k:Nat)),some (.bl keyed),some (.int m),some (.ref bl),some (.ref kd),none,none,none,none] C4:=by
   rintro L' rfl
   apply mV k5.at_ rfl (by show 6<=1000;decide)
   exact hL _ _ ⟨2,by decide,by decide,rfl,T5.put nkt _,x5.put kd0 _,k5.put 6 2 1 none⟩
  refine gM (x5 _ _ nt mn) (i_i (bZ (fun hb=>?_) fun hb=>?_))
  .exact WM rfl (yes _ rfl)
  .refine if_b (fun hb2=>?_) fun hb2=>?_
   .refine qX (dX _ _) (bZ (fun hb3=>?_) fun hb3=>?_)
    .exact yes _ rfl
    .exact sQ (hL _ _ ⟨1,by decide,by decide,rfl,T5,x5,k5⟩)
   .exact mU rfl (sQ (hL _ _ ⟨1,by decide,by decide,rfl,T5,x5,k5⟩))
 clear k5 T5 x5;rintro ρ' C6 ⟨p,p0,p1,rfl,T6,x6,k6⟩;have zle:∀κ:Kt,zOf κ<=16:=fun κ=>by delta zOf;split<;>decide
 refine aQ (fun ρ' C'=>∃κ:Kt,KS κ bl rl bs (names.drop (k+1)) k/\ρ'=[some (.ref t),some (.ref nl),some (.int (k:Nat)),some (.bl keyed),some (.int m),some (.ref bl),some (.ref kd),none,none,none,none]/\Tp C' t ns/\Ex t C C'/\KAt C' t kd κ) (fun L hL=>?_) ?_
 .refine if_b (fun hb=>?_) fun hb=>?_
  .refine iZ (qX (dX _ _) (tS (mV k6.at_ rfl (by show 6<=1000;decide) ?_)))
   rw[oH]
   try dsimp only
   have he:∃e:Int,(if id (decide ((k:Int)=0))=true then (1:Int) else 0)=e/\((k=0/\e=1)\/(0 < k/\e=0)):=by
    by_cases hk0:k=0
    .refine ⟨1,?_,.inl ⟨hk0,rfl⟩⟩
     rw[AW (by exact Ai (by lia))]
    .refine ⟨0,?_,.inr ⟨by lia,rfl⟩⟩
     rw[AX (by rw[AQ (by lia)];decide)]
   obtain⟨e,ee,hek⟩:=he;rw[ee];have k7:=k6.put 6 p e none;have T7:=T6.put nkt (.dK (lX bl rl 6 p e (oW none)));have x7:=x6.put kd0 (.dK (lX bl rl 6 p e (oW none)));have e7:(CO.dK (lX bl rl 6 p e .non))=.dK (lX bl rl 6 p e (oW none)):=rfl;generalize uQ C6 kd (CO.dK (lX bl rl 6 p e (oW none)))=C7 at k7 T7 x7 ⊢;refine aQ (fun ρ' C'=>∃la:Option Str,(k=0->∀s,la=some s->s∈names.drop (k+1))/\ρ'=[some (.ref t),some (.ref nl),some (.int (k:Nat)),some (.bl keyed),some (.int m),some (.ref bl),some (.ref kd),none,none,none,none]/\Tp C' t ns/\Ex t C C'/\KAt C' t kd ⟨bl,rl,bs,names.drop (k+1),6,p,e,la⟩) (fun L1 hL1=>?_) ?_
   .refine gM (x7 _ _ nt mn) (i_i (bZ (fun hb2=>?_) fun hb2=>?_))
    .have hb2:=Ac hb2
     rw[AB] at hb2;obtain⟨sl,hsl,esl⟩:=YE (ss:=names) (by lia);refine mZ (x7 _ _ nt mn) esl (mV k7.at_ rfl (by show 6<=1000;decide) ?_);exact hL1 _ _ ⟨some sl,fun hk0 s hs=>by cases hs;rw[hk0];exact hsl,rfl,T7.put nkt _,x7.put kd0 _,k7.put 6 p e (some sl)⟩
    .exact sQ (hL1 _ _ ⟨none,(fun _ _ z=>nomatch z),rfl,T7,x7,k7⟩)
   rintro ρ' C8 ⟨la,hla,rfl,T8,x8,k8⟩;refine i_i (bZ (fun hb2=>?_) fun hb2=>?_)
   .have hb2:=Ac hb2
    have e0:e=0:=by lia
    subst e0
    apply mV k8.at_ rfl (by show 6<=1000;decide)
    refine hL _ _ ⟨⟨bl,rl,bs,names.drop (k+1),6,1,0,la⟩,⟨rfl,rfl,rfl,rfl,rfl,BA _,(by show(1:Int)<=2;decide),BA _,(by show(0:Int)<=1;decide),fun z=>absurd (show(0:Int) < 0 from z) (by decide),?_⟩,rfl,T8.put nkt _,x8.put kd0 _,k8.put 6 1 0 la⟩;show(1:Int)+zOf _ * 0<=_;rw[Int.mul_zero]
    delta uC
    split<;>decide
   .apply sQ
    have hb2:=Cd hb2;have hk0:k=0:=by lia
    have e1:e=1:=by lia
    subst e1;refine hL _ _ ⟨⟨bl,rl,bs,names.drop (k+1),6,p,1,la⟩,⟨rfl,rfl,rfl,rfl,rfl,p0,p1,(by show(0:Int)<=1;decide),BA _,fun _=>hla hk0,?_⟩,rfl,T8,x8,k8⟩;show p+zOf _ * 1<=_;rw[Int.mul_one];have:=zle ⟨bl,rl,bs,names.drop (k+1),6,p,1,la⟩
    delta uC
    rw[AW hk0]
    lia
  .refine sQ (hL _ _ ⟨⟨bl,rl,bs,names.drop (k+1),6,p,1,none⟩,⟨rfl,rfl,rfl,rfl,rfl,p0,p1,(by show(0:Int)<=1;decide),BA _,(fun _ _ z=>nomatch z),?_⟩,rfl,T6,x6,k6⟩)
   show p+0 * 1<=_
   delta uC
   split<;>lia
 clear k6 T6 x6;rintro ρ' C7 ⟨κ,ks,rfl,T7,x7,k7⟩;have mb7:C7 bl=some (.lst (bs.map PV.str)):=by have:=k7.bx;rw[ks.b,ks.bs] at this;exact this
 refine yQ (cl_l mb7 rfl (iG (β:=Int) yZ (fun i:Int=>-1000000000<=i/\i<=1000000000) (fun C'=>Tp C' t ns/\Ex t C7 C') (fun C' h=>h.2 _ _ bt mb7) (by lia) (fun z C8 L ⟨T8,e8⟩ hL=>?_) (fun fs C8 p8 ⟨T8,e8⟩ hp8 hfs hfo=>?_) ⟨T7,Ex.refl⟩))
 .exact ⟨t,ns,rfl,T8,fun i C9 i0 i1 T9 e9=>⟨y0 2 rfl,hL i C9 ⟨i0,i1⟩ ⟨T9,e8.trans e9⟩⟩⟩
 apply mJ xQ
 have T9:=T8.new hp8 (.lst (fs.map yZ));have e9:Ex t C7 (uQ C8 p8 (.lst (fs.map yZ))):=e8.trans (Ex.new hp8 _);generalize uQ C8 p8 (.lst (fs.map yZ))=C9 at T9 e9 ⊢;have k9:=k7.ex e9;have x9:Ex t C C9:=x7.trans e9;have ok9:Kok κ 1 []:=⟨by rw[ks.l];decide,by rw[ks.l];decide,by have:=ks.p0;lia,ks.p1,ks.e0,ks.e1,fun _=>rfl,ks.ly,Ae _⟩;refine yQ ⟨y0 0 rfl,?_⟩;refine⟨y0 2 rfl,fun p10 hp10=>?_⟩
 have T10:=T9.new hp10 (.lst [PV.int 3,PV.int 1]);have k10:=k9.ex (Ex.new hp10 (.lst [PV.int 3,PV.int 1]));have x10:Ex t C (uQ C9 p10 (.lst [PV.int 3,PV.int 1])):=x9.trans (Ex.new hp10 _);refine gM (x10 _ _ nt mn) (i_i (tS ?_))
 have fin:∀(ls:List Ln)(κ':Kt)(C':CH),(∀x∈ls,LnOk κ.bs κ.rs 6 [] x)->ls.length<=6->Wgt 1 [] κ κ' 0 (Ln.tws ls) (Ln.pws ls)->Chg κ κ'->Tp C' t ns->KAt C' t kd κ'->ExS [t,kd] (uQ C9 p10 (.lst [PV.int 3,PV.int 1])) C'->∀(x:Pt),x.name=names[k]->x.first=fs->x.ls=ls->PrOk bs [] 1 x.works->x.works.length<=4->∀C'',Tp C'' t ns->Ex t C' C''->R x.pv C'':=by
  intro ls κ' C' h1 h2 h3 h4 T' k' x' x xn xf xl xw xwl C'' T'' e'';refine q x C'' (by rw[AO hkn,xn]) ?_ T'' ?_
  .have hfb:x.first.map (·.1)=bs:=by rw[xf];exact hfs
   have htw:Ln.tws ls<=48:=by
    have:=h3.t;have l0:=h4.l0;have kl:=ks.l;have this:(Ln.tws ls:Int)<=8 * (0+(κ.l - κ'.l)):=this
    lia
   refine⟨⟨by rw[xf,<- AB (f:=(·.1)),hfs];exact hbs,by rw[hfb];exact xw,xwl,?_,by rw[xl];exact Aa h2 (by decide),by rw[xl];exact Aa htw (by decide),?_,by rw[xf];exact hfo,fun c hc=>nd.2 c.1 (by rw[<- hfb];exact AU.2 ⟨c,hc,rfl⟩)⟩,by rw[xl];exact h2,by rw[xl];exact htw⟩
   .rw [xl,hfb]
    intro l hl;have:=h1 l hl;rw[ks.bs,ks.rs] at this;exact this
   .rw [xl]
    have g:=h3.p;have c:=ks.cap;have e0:=h4.e0;have e1:=h4.e1;have q0:=h4.p0;have z:zOf κ=0\/zOf κ=16:=by delta zOf;split;exact .inr rfl;exact .inl rfl
    rcases z with z | z<;>rw[z] at g c<;>lia
  .intro b o nb hb
   have nk:b≠kd:=fun z=>by rw[z,kd0] at hb;cases hb
   exact e'' b o nb (x' b o (fun z=>by
    rcases Af.1 z with z | z
    .exact nb z
    .exact nk (AE.1 z)) (x10 b o nb hb))
 have rest:∀(ls:List Ln)(κ':Kt)(C':CH),(∀x∈ls,LnOk κ.bs κ.rs 6 [] x)->ls.length<=6->Wgt 1 [] κ κ' 0 (Ln.tws ls) (Ln.pws ls)->Chg κ κ'->Tp C' t ns->KAt C' t kd κ'->ExS [t,kd] (uQ C9 p10 (.lst [PV.int 3,PV.int 1])) C' ->
   W1 [.ref t,.int 3] C' fun v C1=>Zh [.ref t,v] C1 fun wn C2=>dC (jY 9) mC (cTup (uG (jY 0) (uG (lC (QG 1) (uG (jY 1) (uG (jY 7) (uG (cTup uA) (uG (cC (.int 1)) uA))))) uA))) [some (.ref t),some (.ref nl),some (.int (k:Nat)),some (.bl keyed),some (.int m),some (.ref bl),some (.ref kd),some (.tup (fs.map yZ)),some (.tup (Ln.pvs ls)),some wn,none] C2 fun lv C3=>tM [lv] C3 fun wv C4=>cIx (.ref nl) (.int (k:Nat)) C4 fun nm C5=>4<=sizeLine/\R (.tup [nm,.tup (fs.map yZ),wv,.tup (Ln.pvs ls)]) C5:=by
  intro ls κ' C' h1 h2 h3 h4 T' k' x';refine⟨t,3,ns,rfl,T',by decide,by decide,fun v C11 v0 v1 T11 e11=>?_⟩;refine⟨t,v,ns,rfl,T11,v0,by lia,fun wl ws C12 m12 n12 wt hwl nd T12 e12=>?_⟩
  apply cl_l m12 rfl
  have e1112:=e11.trans e12;refine iG (β:=Rk) vW (fun r=>r.ok bs [] 1) (fun C''=>Tp C'' t ns/\Ex t C12 C'') (fun C'' h=>h.2 _ _ wt m12) (by lia) (fun z C13 L ⟨T13,e13⟩ hL=>?_) (fun bs' C13 p13 ⟨T13,e13⟩ hp13 hb ho=>?_) ⟨T12,Ex.refl⟩
  .refine ⟨y0 0 rfl,?_⟩
   refine⟨t,kd,[],ns,κ',rfl,T13,k'.ex (e1112.trans e13),Ae _,fun r C14 hr T14 e14=>⟨y0 2 rfl,hL r C14 ?_ ⟨T14,e13.trans e14⟩⟩⟩;rw[h4.bs,ks.bs] at hr;exact hr
  .apply mJ xQ
   have e013:Ex t C' (uQ C13 p13 (.lst (bs'.map vW))):=(e1112.trans e13).trans (Ex.new hp13 _);have nnk:nl≠kd:=fun z=>by rw[z,kd0] at mn;cases mn
   have mn':C' nl=some (.lst (names.map PV.str)):=x' nl _ (fun z=>by
    rcases Af.1 z with z | z
    .exact nt z
    .exact nnk (AE.1 z)) (x10 _ _ nt mn)
   refine mZ (e013 _ _ nt mn') (Zx hkn) ⟨by decide,?_⟩;exact fin ls κ' C' h1 h2 h3 h4 T' k' x' ⟨names[k],fs,bs',ls⟩ rfl rfl rfl (fun c hc=>⟨ho c hc,nm8 (nd.2 c.1 (by rw[<- hb];exact AU.2 ⟨c,hc,rfl⟩))⟩) (by show bs'.length<=4;have:=Bg List.length hb;rw[AB] at this;lia) _ (T13.new hp13 _) e013
 have hd3:atI [PV.int 3,PV.int 1] (if decide ((((names.map PV.str).length:Nat):Int) > 3)=true then (1:Int) else 0)=some (.int 3)\/atI [PV.int 3,PV.int 1] (if decide ((((names.map PV.str).length:Nat):Int) > 3)=true then (1:Int) else 0)=some (.int 1):=by
  cases decide ((((names.map PV.str).length:Nat):Int) > 3) with
  |false=>exact .inl rfl
  |true=>exact .inr rfl
 rcases hd3 with hd | hd
 .exact mZ xQ hd (.inl ⟨t,kd,[],ns,κ,rfl,T10,k10,ok9,fun ls κ' C' h1 h2 h3 h4 T' k' x'=>rest ls κ' C' (fun x hx=>(h1 x hx).mono (by decide)) h2 h3 h4 T' k' x'⟩)
 .exact mZ xQ hd (.inr ⟨t,kd,[],ns,κ,rfl,T10,k10,ok9,fun ls κ' C' h1 h2 h3 h4 T' k' x'=>rest ls κ' C' (fun x hx=>(h1 x hx).mono (by decide)) h2 h3 h4 T' k' x'⟩)
end
def pS(pts:List Pt):List Str:=pts.map (·.name)
structure HsOk(pts:List Pt):Prop where
 n1:1<=pts.length
 n6:pts.length<=6
 nd:(pS pts).Nodup
 nn:∀s∈pS pts,s.length<=8
 ok:∀k x,pts[k]?=some x->PtS ((pS pts).drop (k+1)) (uC k) x
def sY(h:z::zs=((List.range N).drop j).map (fun k:Nat=>PV.int (k:Nat))):j < N/\z=.int j/\zs=((List.range N).drop (j+1)).map (fun k:Nat=>PV.int (k:Nat)) :=by grind[List.drop_of_length_le,List.drop_eq_getElem_cons,List.map_cons,List.getElem_range,List.length_range]
section
variable {W:Wd}{a:Adr}
inductive WY(ts:List PV)(C:CH)(Q:K1):Prop
 |mk(t:Addr)(ns:List Int)(z0:ts=[.ref t])(z1:Tp C t ns)(z2:∀(pts:List Pt)(C':CH),HsOk pts->Tp C' t ns->Ex t C C'->Q (.tup (pts.map Pt.pv)) C'):WY ts C Q
def Wj(T:Tx W a):Ok W a 26 28 U17 WY:=by
 have S:=(T.F 28 rfl).s;have bQ:=(zJ T).mono (show 1<=25 by decide);have rJ:=(hU T).mono (show 2<=25 by decide);have YK:=ok_part T
 refine(T.F 28 rfl).ok (fun ts C R h=>?_) fun cdv A outer s H E hr=>⟨_,(jQ (cs1 1 S.nd (cf (T.F 15 rfl) rJ hr (qQ (cv 0) (ca1 (cx (zX (qQ zQ (qQ zQ (qQ zQ (qQ zQ (qQ zQ (qQ zQ (qQ zQ (ca1 zQ))))))))) (cf (T.F 14 rfl) bQ hr (qQ (cv 0) (ca1 zQ))))))))
  (jQ (cs1 2 S.nd (wV fX oQ (cf (T.F 14 rfl) bQ hr (qQ (cv 0) (ca1 zQ))) zQ (wW _)))
  (vQ (gQ (ctp T.vX (lY rfl (S.c (by decide +kernel)) (S.k rfl rfl rfl (by decide +kernel)) (eE rfl T.rV (ca1 (cln T.yJ (cv 1)))) (fun _ _ _ _ _=>nJ) (fun _ _ _ _ _=>(cf (T.F 27 rfl) YK hr (qQ (cv 1) (qQ (cv 2) (qQ (cv 0) (ca1 (cv 3))))))))))))),?_⟩
 .obtain ⟨t,ns,rfl,_⟩:=h;rfl
 rintro ts C R ⟨t,ns,rfl,hT,q⟩;refine yQ ⟨by decide,fun p1 hp1=>?_⟩;refine⟨t,8,ns,rfl,hT.new hp1 _,by decide,by decide,fun v C1 v0 v1 T1 e1=>?_⟩
 apply mZ (e1 p1 _ (hT.ne hp1) xQ) (yW (ss:=[1,2,2,3,3,4,2,6]) 0 v0 v1)
 have hm:1<=([1,2,2,3,3,4,2,6]:List Int).getD v.toNat 0/\([1,2,2,3,3,4,2,6]:List Int).getD v.toNat 0<=6:=by
  have:v=0\/v=1\/v=2\/v=3\/v=4\/v=5\/v=6\/v=7:=by lia
  rcases this with rfl | rfl | rfl | rfl | rfl | rfl | rfl | rfl<;>decide
 generalize ([1,2,2,3,3,4,2,6]:List Int).getD v.toNat 0=m at hm ⊢;refine⟨t,m,ns,rfl,T1,by lia,by lia,fun nl names C2 m2 n2 nt hnl nd T2 e2=>?_⟩;refine yQ ⟨t,2,ns,rfl,T2,by decide,by decide,fun z C3 z0 z1 T3 e3=>?_⟩
 apply qX (dX _ _)
 have m3:=e3 _ _ nt m2
 apply gM m3
 rw[AB];refine⟨by lia,by lia,?_⟩;rw[Ci];refine rW (fun zs acc C'=>Tp C' t ns/\Ex t C3 C'/\∃pts:List Pt,acc=pts.map Pt.pv/\zs=((List.range names.length).drop pts.length).map (fun k:Nat=>PV.int (k:Nat))/\pts.length<=names.length/\pS pts=names.take pts.length/\∀k x,pts[k]?=some x->PtS (names.drop (k+1)) (uC k) x) ?_ ?_ _ _ _ ⟨T3,Ex.refl,[],rfl,rfl,Ae _,rfl,(fun k x h=>by simp at h)⟩
 .rintro x r acc C4 ⟨T4,e4,pts,rfl,hz,hpl,hpn,hpo⟩ L hL
  obtain⟨hj,rfl,rfl⟩:=sY hz;refine⟨t,nl,ns,names,pts.length,_,rfl,T4,e4 _ _ nt m3,nt,by lia,hj,fun x C5 hx ok5 T5 e5=>hL _ _ ⟨?_,T5,e4.trans e5,pts++[x],by rw[Ab];rfl,by rw[AL,AZ],by rw[AL,AZ];lia,?_,fun k y hy=>?_⟩⟩
  .rw [AB]
   exact AS (show pts.length < 7 by lia) (by decide)
  .rw [AL,AZ,List.take_add_one,<- hpn,hx]
   delta pS
   rw[Ab]
   rfl
  .rcases Nat.lt_trichotomy k pts.length with h | h | h
   .rw [Bo h] at hy
    exact hpo k y hy
   .subst h
    rw[DG (AH _),Nat.sub_self] at hy;cases hy;exact ok5
   .rw [B7 (by rw[AL,AZ];lia)] at hy
    cases hy
 .rintro acc C4 ⟨T4,e4,pts,rfl,hz,hpl,hpn,hpo⟩ p hp
  have he:pts.length=names.length:=by
   rcases Cg pts.length names.length with h | h
   .rw [Az (by rwa [An])] at hz
    cases hz
   .lia
  apply mJ xQ
  have hn:pS pts=names:=by rw[hpn,he,DU (AH _)]
  exact q pts _ ⟨by lia,by lia,by rw[hn];exact nd.1,fun s hs=>nm8 (nd.2 s (by rwa [hn] at hs)),fun k x hk=>hn▸hpo k x hk⟩ (T4.new hp _) ((((((Ex.new hp1 _).trans e1).trans e2).trans e3).trans e4).trans (Ex.new hp _))
end
abbrev Rds:=List (List Key×PV)
abbrev Tns:=List (Key×PV)
abbrev qK(s n:Str):List Key:=[.inr s,.inr n]
def Bd(i:Int):Prop:=-1000000000<=i/\i<=1000000000
def ABd(A:Rds):Prop:=∀kv∈A,∃i,kv.2=.int i/\Bd i
def TBd(τ:Tns):Prop:=∀kv∈τ,∃i,kv.2=.int i/\Bd i
def eX(A:Rds)(s n:Str):Int:=match zK A (qK s n) with
 |some (.int i)=>i
 |_=>0
def ZL(τ:Tns)(n:Str):Int:=match iJ τ (.inr n) with
 |some (.int i)=>i
 |_=>0
def HasT(τ:Tns)(ns:List Str):Prop:=∀n∈ns,(iJ τ (.inr n)).isSome=true
def Zm(i:Int):Int:=if (if i < 1000000000 then i else 1000000000) > -1000000000 then (if i < 1000000000 then i else 1000000000) else -1000000000
def Rk.val(A:Rds)(τ:Tns):Rk->Int
 |.num i=>i
 |.turn n=>ZL τ n
 |.ask s n=>eX A s n
 |.bin w x y=>if w = "less" then (if x.val A τ < y.val A τ then 1 else 0) else if w = "times" then Zm (x.val A τ * y.val A τ) else Zm (x.val A τ+y.val A τ)
 |.pick x y z=>if x.val A τ=0 then z.val A τ else y.val A τ
def Rk.rds(A:Rds)(τ:Tns):Rk->Rds->Rds
 |.num _,R=>R
 |.turn _,R=>R
 |.ask s n,R=>putG R (qK s n) (.int (eX A s n))
 |.bin _ x y,R=>y.rds A τ (x.rds A τ R)
 |.pick x y z,R=>if x.val A τ=0 then z.rds A τ (x.rds A τ R) else y.rds A τ (x.rds A τ R)
def cutI_bd i:Bd (Zm i):=by delta Zm Bd;split<;>split<;>lia
def Ve[DecidableEq κ]{k:κ}(h:zK A k=some v):∃kv∈A,kv.2=v:=by
 delta zK at h
 cases e:A.find? fun kv=>decide (kv.1=k) with
 |none=>rw[e] at h;cases h
 |some x=>rw[e] at h;cases h;exact⟨x,Bn e,rfl⟩
def kI{A:Tns}(h:iJ A k=some v):∃kv∈A,kv.2=v:=by
 delta iJ at h
 cases e:A.find? fun kv=>decide (kv.1=k) with
 |none=>rw[e] at h;cases h
 |some x=>rw[e] at h;cases h;exact⟨x,Bn e,rfl⟩
def jB(h:ABd A)s n:(zK A (qK s n)).getD (.int 0)=.int (eX A s n)/\Bd (eX A s n):=by
 delta eX
 cases e:zK A (qK s n) with
 |none=>exact⟨rfl,by delta Bd;decide⟩
 |some v =>
  obtain⟨kv,hm,rfl⟩:=Ve e;exact eQ (h kv hm) fun i ei bi=>ei▸⟨rfl,bi⟩
def xO(h:TBd τ)(hh:(iJ τ (.inr n)).isSome=true):iJ τ (.inr n)=some (.int (ZL τ n))/\Bd (ZL τ n):=by
 delta ZL
 cases e:iJ τ (.inr n) with
 |none=>rw[e] at hh;cases hh
 |some v =>
  obtain⟨kv,hm,rfl⟩:=kI e;exact eQ (h kv hm) fun i ei bi=>ei▸⟨rfl,bi⟩
def rY(hA:ABd A)(hT:TBd τ)(hh:HasT τ ts):∀{d}{r:Rk},r.ok bs ts d->Bd (r.val A τ):=by
 intro d r
 induction r generalizing d with
 |num i=>intro h;unfold Rk.ok at h;exact h
 |turn n=>intro h;unfold Rk.ok at h;exact(xO hT (hh n h)).2
 |ask s n=>intro h;exact(jB hA s n).2
 |bin w x y ihx ihy =>
  intro h
  cases d with
  |zero=>exact h.elim
  |succ d =>
   unfold Rk.val
   split
   .split<;>(delta Bd;decide)
   .split<;>exact cutI_bd _
 |pick x y z ihx ihy ihz =>
  intro h
  cases d with
  |zero=>exact h.elim
  |succ d =>
   unfold Rk.val
   split
   .exact ihz h.2.2
   .exact ihy h.2.1
structure RdOk(bs:List Str)(R:Rds):Prop where
 nd:(R.map (·.1)).Nodup
 ks:∀k∈R.map (·.1),∃s n,k=qK s n/\mM bs s n
 vs:ABd R
def any_iff{κ:Type}[DecidableEq κ](R:List (κ×PV))k:(R.any fun kv=>decide (kv.1=k))=true↔k∈R.map (·.1) :=by grind
def cW[DecidableEq κ]R(k:κ)v:(putG R k v).map (·.1)=if k∈R.map (·.1) then R.map (·.1) else R.map (·.1)++[k]:=by
 delta putG
 by_cases h:k∈R.map (·.1)
 .rw [AW ((any_iff R k).2 h),AW h,BX]
  refine Cy fun x _=>?_;show(if x.1=k then (x.1,v) else x).1=x.1
  split<;>rfl
 .grind
def tH[DecidableEq κ]{x:κ×PV}(h:x∈putG R k v):x.2=v\/x∈R :=by grind[putG]
theorem RdOk.put(h:RdOk bs R)(hq:mM bs s n)(hi:Bd i):RdOk bs (putG R (qK s n) (.int i)):=by
 refine⟨?_,?_,fun kv hkv=>?_⟩
 .rw [cW]
  split
  .exact h.nd
  .next hn =>
   rw[List.nodup_append];refine⟨h.nd,by simp,fun a ha b hb e=>?_⟩;cases AE.1 hb;exact hn (e▸ha)
 .rw [cW]
  intro k hk
  split at hk
  .exact h.ks k hk
  .rcases AV.1 hk with hk | hk
   .exact h.ks k hk
   .grind
 .rcases tH hkv with e | e
  .grind
  .exact h.vs kv e
theorem Ql{α:Type}[DecidableEq α]:∀(l m:List α),l.Nodup->(∀x∈l,x∈m)->l.length<=m.length
 |[],_,_,_=>Ae _
 |x::l,m,hd,hs=>by
  have hx:=hs x AF;rw[BN] at hd;have ih:=Ql l (m.erase x) hd.2 fun y hy=>(List.mem_erase_of_ne (show y≠x from fun e=>hd.1 (e▸hy))).2 (hs y (AK _ hy));rw[List.length_erase_of_mem hx] at ih;have:=List.length_pos_of_mem hx;rw[AY]
  lia
def jH(bs:List Str):List (List Key):=(["a","ab","b"]:List Str).map (qK "take")++((["a","ab","b"]:List Str).map (qK "down")++bs.map (qK "box"))
def ask_in(h:mM bs s n):qK s n∈jH bs:=by
 rcases h with ⟨rfl | rfl,h⟩ | ⟨rfl,h⟩
 .exact Aq _ (AU.2 ⟨n,h,rfl⟩)
 .exact AR _ (Aq _ (AU.2 ⟨n,h,rfl⟩))
 .exact AR _ (AR _ (AU.2 ⟨n,h,rfl⟩))
def RdOk.len(h:RdOk bs R):R.length<=6+bs.length:=by
 have:=Ql (R.map (·.1)) (jH bs) h.nd fun k hk=>by
  obtain⟨s,n,rfl,hq⟩:=h.ks k hk;exact ask_in hq
 rw[AB] at this
 have e:(jH bs).length=6+bs.length:=by
  delta jH
  rw[AL,AL,AB,AB,AB];show 3+(3+_)=_
  lia
 lia
def iC(A:Rds)(bs:List Str)(P:Rds->Prop):Prop:=∀R s n,mM bs s n->P R->P (putG R (qK s n) (.int (eX A s n)))
def fZ(hA:ABd A): iC A bs (RdOk bs):=fun _ s n h hR=>hR.put h (jB hA s n).2
def pJ(hP:iC A bs P):∀{d}{r:Rk}{R},r.ok bs ts d->P R->P (r.rds A τ R):=by
 intro d r
 induction r generalizing d with
 |num i=>intro R _ h;exact h
 |turn n=>intro R _ h;exact h
 |ask s n=>intro R h hR;unfold Rk.ok at h;exact hP _ s n h hR
 |bin w x y ihx ihy =>
  intro R h hR
  cases d with
  |zero=>exact h.elim
  |succ d =>
   exact ihy h.2.2 (ihx h.2.1 hR)
 |pick x y z ihx ihy ihz =>
  intro R h hR
  cases d with
  |zero=>exact h.elim
  |succ d =>
   unfold Rk.rds
   split
   .exact ihz h.2.2 (ihx h.1 hR)
   .exact ihy h.2.1 (ihx h.1 hR)
structure Env(C:CH)(aa tt rr:Addr)(A:Rds)(τ:Tns)(R:Rds):Prop where
 ha:C aa=some (.dT A)
 ht:C tt=some (.dK τ)
 hr:C rr=some (.dT R)
 ne:aa≠rr
def Env.nt(h:Env C aa tt rr A τ R):tt≠rr:=fun z=>by have:=h.ht;rw[z,h.hr] at this;cases this
def Env.ex{R':Rds}(h:Env C aa tt rr A τ R)(e:ExS [rr] C C')(hr:C' rr=some (.dT R')):Env C' aa tt rr A τ R' :=
 ⟨e _ _ (fun z=>h.ne (AE.1 z)) h.ha,e _ _ (fun z=>h.nt (AE.1 z)) h.ht,hr,h.ne⟩
def dW[DecidableEq κ]x l(k:κ):zK (x::l) k=if x.1=k then some x.2 else zK l k :=by grind[zK,decide_eq_true,decide_eq_false]
def jF[DecidableEq κ]R k v(k':κ):zK (putG R k v) k'=if k'=k then some v else zK R k':=by
 delta putG
 by_cases b:(R.any fun kv=>decide (kv.1=k))=true
 .rw [AW b]
  induction R with
  |nil=>cases b
  |cons x l ih =>
   rw[A8,dW,dW];have e1:(if x.1=k then (x.1,v) else x).1=x.1:=by split<;>rfl
   rw[e1]
   by_cases e:x.1=k'
   .lia
   .rw [AX e,AX e]
    by_cases h3:(l.any fun kv=>decide (kv.1=k))=true
    .exact ih h3
    .have:(l.map fun kv=>if kv.1=k then (kv.1,v) else kv)=l:=(Cy fun y hy=>AX ((fun y hy z=>h3 (List.any_eq_true.2 ⟨y,hy,Ai z⟩)) y hy)).trans (List.map_id l)
     rw[this];have hx:x.1=k :=by grind
     rw[AX (fun z=>e (hx.trans z.symm))]
 .rw [AX b]
  induction R with
  |nil =>
   rw[Cu,dW]
   by_cases e:k=k'
   .lia
   .lia
  |cons x l ih =>
   rw[BJ] at b;rw[Cp,dW,dW]
   by_cases e2:x.1=k'
   .lia
   .lia
structure uW(A:Rds)(τ:Tns)(bs ns:List Str):Prop where
 a:ABd A
 t:TBd τ
 h:HasT τ ns
 b:bs.length<=4
section
variable {W:Wd}{a:Adr}
inductive gCut(ts:List PV)(C:CH)(Q:K1):Prop
 |mk(i:Int)(z0:ts=[.int i])(z1:Q (.int (Zm i)) C):gCut ts C Q
def ok_cut(T:Tx W a):Ok W a 1 2 ["number"] gCut:=by
 refine(T.F 2 rfl).ok (fun ts C R h=>?_) fun cdv A outer s H E hr=>⟨_,(vQ (gQ (nQ (iB rfl) tP rfl T.ZF rfl (qQ (vC fM nG (mW (v:=.int 1000000000) rfl T.mE ⟨_,rfl⟩ (fun _=>.int _))) (ca1 (nQ (aB rfl) oP rfl T.ZE rfl (qQ (mW (v:=.int 1000000000) rfl T.mE ⟨_,rfl⟩ (fun _=>.int _)) (ca1 (cv 0))))))))),?_⟩
 .obtain ⟨i,rfl,_⟩:=h;rfl
 rintro ts C R ⟨i,rfl,q⟩;exact Qq (Qt q)
def joinI(w:Str)(i j:Int):Int:=if w = "less" then (if i < j then 1 else 0) else if w = "times" then Zm (i * j) else Zm (i+j)
inductive gJoin(ts:List PV)(C:CH)(Q:K1):Prop
 |mk(w:Str)(i j:Int)(z0:ts=[.str w,.int i,.int j])(z1:(w = "add"\/w = "times"\/w = "less"))(z2:Bd i)(z3:Bd j)(z4:Q (.int (joinI w i j)) C):gJoin ts C Q
def Kh(T:Tx W a):Ok W a 2 8 ["word","first","second"] gJoin:=by
 have G_cut:=ok_cut T
 refine(T.F 8 rfl).ok (fun ts C R h=>?_) fun cdv A outer s H E hr=>⟨_,(jQ (rQ (ct2 fX oQ (cv 0) kQ) (vQ (gQ (cf (T.F 2 rfl) G_cut hr (ca1 (tQ nX sX (cv 1) (cv 2)))))) pQ)
  (jQ (rQ (ct2 fX oQ (cv 0) kQ) (vQ (gQ (cf (T.F 2 rfl) G_cut hr (ca1 (tQ dM eG (cv 1) (cv 2)))))) pQ)
  (vQ (gQ (xD (ct2 mF aG (cv 1) (cv 2)) zQ zQ))))),?_⟩
 .obtain ⟨w,i,j,rfl,_⟩:=h;rfl
 rintro ts C R ⟨w,i,j,rfl,hw,bi,bj,q⟩
 delta joinI at q
 apply qX (dQ _ _)
 rcases hw with rfl | rfl | rfl
 .exact jJ rfl (qV ⟨_,rfl,q⟩)
 .refine rX rfl (sQ (qX (dQ _ _) (jJ rfl ?_)))
  delta Bd at bi bj
  refine⟨.inr ⟨by omega,by omega⟩,?_⟩;exact⟨_,rfl,q⟩
 .refine rX rfl (sQ (qX (dQ _ _) (rX rfl (sQ (i_i (bZ (fun hb=>?_) fun hb=>?_))))))
  .rwa [AW (Ac hb)] at q
  .rwa [AX (Cd hb)] at q
inductive gRk(d:Nat)(ts:List PV)(C:CH)(Q:K1):Prop
 |mk(r:Rk)(aa tt rr:Addr)(A:Rds)(τ:Tns)(R:Rds)(bs ns:List Str)(z0:ts=[r.pv,.ref aa,.ref tt,.ref rr])(z1:r.ok bs ns d)(z2:Env C aa tt rr A τ R)(z3:uW A τ bs ns)(z4:RdOk bs R)(z5:∀C',C' rr=some (.dT (r.rds A τ R))->ExS [rr] C C'->Q (.int (r.val A τ)) C'):gRk d ts C Q
def eO(T:Tx W a)(d:Nat):Ok W a (d+3) 7 ["reckoning","answers","turns","asked"] (gRk d):=by
 have main:∀n,(∀d',n=d'+1->Ok W a (d'+3) 7 ["reckoning","answers","turns","asked"] (gRk d'))->Ok W a (n+3) 7 ["reckoning","answers","turns","asked"] (gRk n):=by
  intro n ih;have S:=(T.F 7 rfl).s;have YM:=(Kh T).mono (show 2<=n+2 by lia)
  have kW:Ok W a (n+2) 7 ["reckoning","answers","turns","asked"] (fun ts C Q=>∃d',n=d'+1/\gRk d' ts C Q):=by
   cases n with
   |zero=>exact xK fun ts C Q zz=>eQ zz fun d' e _=> by lia
   |succ d' =>
    have:=ih d' rfl
    have e:(fun ts C Q=>∃d'',d'+1=d''+1/\gRk d'' ts C Q)=gRk d':=by
     funext ts C Q
     refine propext ⟨fun zz=>eQ zz fun d'' e h=> ?_,fun h=>⟨d',rfl,h⟩⟩;cases A4 e;exact h
    rw[e];exact this
  refine(T.F 7 rfl).ok (fun ts C R h=>?_) fun cdv A outer s H E hr=>⟨_,(jQ (cs1 4 S.nd (cx (cv 0) zQ))
  (jQ (rQ (ct2 fX oQ (cv 4) kQ) (vQ (gQ (cx (cv 0) zQ))) pQ)
  (jQ (rQ (ct2 fX oQ (cv 4) kQ) (vQ (gQ (gZ (yX hr) (cv 2) (cx (cv 0) zQ) (fun _ _=>rfl)))) pQ)
  (jQ (rQ (qC bB eF (cv 4) (mW (v:=.ref a.ASKING) rfl T.Jf rfl (fun H=>.kt (T.ZY H) (.cons (.str _) (.cons (.str _) (.cons (.str _) .nil))))) rfl) (jQ (cs1 5 S.nd (lQ (qQ (cv 4) (ca1 (cx (cv 0) zQ)))))
  (jQ (sG (yX hr) (cv 3) (cv 5) (Q6 (yX hr) (cv 1) (cv 5) zQ))
  (vQ (gQ (ce_tix (yX hr) (cv 3) (cv 5) (fun _ _=>rfl)))))) pQ)
  (jQ (cs1 6 S.nd (cf (T.F 7 rfl) kW hr (qQ (cx (cv 0) zQ) (qQ (cv 1) (qQ (cv 2) (ca1 (cv 3)))))))
  (jQ (rQ (ct2 fX oQ (cv 4) kQ) (jQ (cs1 7 S.nd (xD (ct2 fX oQ (cv 6) zQ) (cx (cv 0) zQ) (cx (cv 0) zQ)))
  (vQ (gQ (cf (T.F 7 rfl) kW hr (qQ (cv 7) (qQ (cv 1) (qQ (cv 2) (ca1 (cv 3))))))))) pQ)
  (jQ (cs1 8 S.nd (cf (T.F 7 rfl) kW hr (qQ (cx (cv 0) zQ) (qQ (cv 1) (qQ (cv 2) (ca1 (cv 3)))))))
  (vQ (gQ (cf (T.F 8 rfl) YM hr (qQ (cv 4) (qQ (cv 6) (ca1 (cv 8)))))))))))))),?_⟩
  .obtain ⟨r,aa,tt,rr,A,τ,R,bs,ns,rfl,_⟩:=h;rfl
  rintro ts C Q ⟨r,aa,tt,rr,A,τ,R,bs,ns,rfl,ok,hE,hS,hR,q⟩
  apply yQ
  cases r with
  |num i =>
   refine wX gX (qX (dQ _ _) (jJ (by decide) ?_));exact wX rfl (q C hE.hr ExS.refl)
  |turn m =>
   unfold Rk.ok at ok;refine wX gX (qX (dQ _ _) (rX (by decide) ?_));refine sQ (qX (dQ _ _) (jJ (by decide) ?_));exact wX rfl (cJ hE.ht rfl (xO hS.t (hS.h m ok)).1 (q C hE.hr ExS.refl))
  |ask s m =>
   unfold Rk.ok at ok;refine wX gX (qX (dQ _ _) ?_)
   have hs:s = "take"\/s = "down"\/s = "box":=by
    rcases ok with ⟨h | h,_⟩ | ⟨h,_⟩
    .exact .inl h
    .exact .inr (.inl h)
    .exact .inr (.inr h)
   have hn1:decide (s = "num")=false:=by rcases hs with rfl | rfl | rfl<;>decide
   have hn2:decide (s = "turn")=false:=by rcases hs with rfl | rfl | rfl<;>decide
   apply rX (by rw[hn1];rfl)
   refine sQ (qX (dQ _ _) (rX (by rw[hn2];rfl) ?_));refine sQ (tL (vs:=[.str "take",.str "box",.str "down"]) rfl rfl rfl (jJ (by rcases hs with rfl | rfl | rfl<;>rfl) ?_));refine yQ (wX (v:=.str m) rfl ⟨y0 2 rfl,?_⟩);refine iZ ⟨X7 hE.ha,Vl (k:=qK s m) hE.ha rfl (jB hS.a s m).1 ?_⟩;have hb:=hS.b
   apply rD (k:=qK s m) hE.hr rfl (by have:=hR.len;lia)
   apply tix_s (k:=qK s m) xQ rfl (by rw[jF,AW rfl])
   exact q _ xQ (ExS.refl.at (by simp) _)
  |bin w x y =>
   cases n with
   |zero=>delta Rk.ok at ok;exact ok.elim
   |succ d' =>
   unfold Rk.ok at ok;obtain⟨hw,ox,oy⟩:=ok;have hn1:decide (w = "num")=false:=by rcases hw with rfl | rfl | rfl<;>decide
   have hn2:decide (w = "turn")=false:=by rcases hw with rfl | rfl | rfl<;>decide
   refine wX gX (qX (dQ _ _) (rX (by rw[hn1];rfl) ?_));refine sQ (qX (dQ _ _) (rX (by rw[hn2];rfl) ?_));refine sQ (tL (ts:=[.str "take",.str "box",.str "down"]) (w:=.str w) (vs:=[.str "take",.str "box",.str "down"]) rfl rfl rfl (rX (by rcases hw with rfl | rfl | rfl<;>rfl) ?_))
   apply sQ
   try dsimp only
   refine yQ (wX (v:=x.pv) rfl ⟨d',rfl,x,aa,tt,rr,A,τ,R,bs,ns,rfl,ox,hE,hS,hR,fun C1 m1 e1=>?_⟩);have E1:=hE.ex e1 m1;have R1:=pJ (τ:=τ) (fZ hS.a) ox hR;refine qX (dQ _ _) (rX (by rcases hw with rfl | rfl | rfl<;>decide) ?_)
   apply sQ
   try dsimp only
   refine yQ (wX (v:=y.pv) rfl ⟨d',rfl,y,aa,tt,rr,A,τ,_,bs,ns,rfl,oy,E1,hS,R1,fun C2 m2 e2=>?_⟩);have bx:=rY hS.a hS.t hS.h ox;have by':=rY hS.a hS.t hS.h oy
   exact⟨w,_,_,rfl,hw,bx,by',q C2 m2 (e1.trans e2)⟩
  |pick x y z =>
   cases n with
   |zero=>delta Rk.ok at ok;exact ok.elim
   |succ d' =>
   unfold Rk.ok at ok;obtain⟨ox,oy,oz⟩:=ok;refine wX gX (qX (dQ _ _) (rX (by decide) ?_))
   apply sQ
   refine qX (dQ _ _) (rX (by decide) ?_)
   apply sQ
   refine tL (ts:=[.str "take",.str "box",.str "down"]) (w:=.str "pick") (vs:=[.str "take",.str "box",.str "down"]) rfl rfl rfl (rX rfl (sQ ?_))
   try dsimp only
   refine yQ (wX (v:=x.pv) rfl ⟨d',rfl,x,aa,tt,rr,A,τ,R,bs,ns,rfl,ox,hE,hS,hR,fun C1 m1 e1=>?_⟩);have E1:=hE.ex e1 m1;have R1:=pJ (τ:=τ) (fZ hS.a) ox hR;refine qX (dQ _ _) (jJ (by decide) ?_);refine yQ (qX (dX _ _) ?_)
   by_cases h0:x.val A τ=0
   .refine jJ (Ai h0) (wX (v:=z.pv) rfl ⟨d',rfl,z,aa,tt,rr,A,τ,_,bs,ns,rfl,oz,E1,hS,R1,fun C2 m2 e2=>?_⟩)
    have:=q C2 (by unfold Rk.rds;rw[AW h0];exact m2) (e1.trans e2);unfold Rk.val at this;rw[AW h0] at this;exact this
   .refine rX (AQ h0) (wX (v:=y.pv) rfl ⟨d',rfl,y,aa,tt,rr,A,τ,_,bs,ns,rfl,oy,E1,hS,R1,fun C2 m2 e2=>?_⟩)
    have:=q C2 (by unfold Rk.rds;rw[AX h0];exact m2) (e1.trans e2);unfold Rk.val at this;rw[AX h0] at this;exact this
 induction d with
 |zero=>exact main 0 fun d' e=>by lia
 |succ d ih=>exact main (d+1) fun d' e=>by cases A4 e;exact ih
end
structure HdV where
 ev:Str
 rank:Int
 last:Bool
 ch:List (Str×Str×Int)
inductive Wt where
 |plain (sp:List Key) (tag:Str) (sets:List (Str×Int)) (hands:List HdV) (row:List Wt)
 |part (sp:List Key) (name:Str) (gives:List (Str×Int))
 |give (sp:List Key) (name:Str) (num:Int) (row:List Wt)
def Zl(c:Str×Str×Int):PV:=.tup [.str c.1,.str c.2.1,.int c.2.2]
def HdV.pv(h:HdV):PV:=.tup [.str h.ev,.int h.rank,.bl h.last,.tup (h.ch.map Zl)]
mutual
def Wt.pv:Wt->PV
 |.plain sp tag s h r=>.tup [.str "plain",uU sp,.str tag,.tup (s.map yZ),.tup (h.map HdV.pv),.tup (Wt.pvs r)]
 |.part sp n g=>.tup [.str "part",uU sp,.str n,.tup (g.map yZ)]
 |.give sp n i r=>.tup [.str "give",uU sp,.str n,.int i,.tup (Wt.pvs r)]
def Wt.pvs:List Wt->List PV
 |[]=>[]
 |w::ws=>w.pv::Wt.pvs ws
end
theorem Wt.pvs_map ls:Wt.pvs ls=ls.map Wt.pv:=by
 induction ls with
 |nil=>rfl
 |cons l ls ih=>rw[A8,<- ih];rfl
def Wt.pvs_app xs ys:Wt.pvs (xs++ys)=Wt.pvs xs++Wt.pvs ys :=by grind[Wt.pvs_map,List.map_append]
def Wt.pvs_len xs:(Wt.pvs xs).length=xs.length:=by rw[Wt.pvs_map,AB]
section
variable (A:Rds)(τ:Tns)
def aX(ps:List (Str×Rk)):List (Str×Int):=ps.map fun c=>(c.1,c.2.val A τ)
def jZ(ps:List (Str×Rk))(R:Rds):Rds:=ps.foldl (fun R c=>c.2.rds A τ R) R
def zD(cs:List (Str×Str×Rk)):List (Str×Str×Int):=cs.map fun c=>(c.1,c.2.1,c.2.2.val A τ)
def aU(cs:List (Str×Str×Rk))(R:Rds):Rds:=cs.foldl (fun R c=>c.2.2.rds A τ R) R
def iS(h:Hd):HdV:=⟨h.ev,h.rank,h.last,zD A τ h.ch⟩
def lZ(hs:List Hd):List HdV:=hs.map (iS A τ)
def xZ(hs:List Hd)(R:Rds):Rds:=hs.foldl (fun R h=>aU A τ h.ch R) R
def iV:Option Rk->Key
 |none=>.inl none
 |some r=>.inl (some (r.val A τ))
def eK:Option Rk->Rds->Rds
 |none,R=>R
 |some r,R=>r.rds A τ R
end
def qD(N:Tns)(k:Key):Int:=match iJ N k with
 |some (.int i)=>i
 |_=>0
def iU(i:Int):Nat:=(if i < 8 then i else 8).toNat
def wD i:iU i<=8:=by delta iU;split<;>lia
abbrev DSt:=List Wt×Tns×Rds
def bV(N:Tns)(k:Key):List Key:=[k,.inl (some (qD N k))]
def yV(N:Tns)(k:Key):Tns:=vZ N k (.int (qD N k+1))
mutual
def bX(A:Rds):Ln->Tns->DSt->DSt
 |.when r l1 l2,τ,st=>if r.val A τ=0 then cQ A l2 τ (st.1,st.2.1,r.rds A τ st.2.2) else cQ A l1 τ (st.1,st.2.1,r.rds A τ st.2.2)
 |.each n r ls,τ,st=>(List.range (iU (r.val A τ))).foldl (fun st k=>cQ A ls (vZ τ (.inr n) (.int (k:Nat))) st) (st.1,st.2.1,r.rds A τ st.2.2)
 |.part k n g,τ,st=>(st.1++[.part (bV st.2.1 (iV A τ k)) n (xG (aX A τ g))],yV st.2.1 (iV A τ k),jZ A τ g (eK A τ k st.2.2))
 |.give k n r ls,τ,st =>
  let d:=cQ A ls τ ([],[],r.rds A τ (eK A τ k st.2.2))
  (st.1++[.give (bV st.2.1 (iV A τ k)) n (r.val A τ) d.1],yV st.2.1 (iV A τ k),d.2.2)
 |.plain k tag s hs ls,τ,st =>
  let d:=cQ A ls τ ([],[],xZ A τ hs (jZ A τ s (eK A τ k st.2.2)))
  (st.1++[.plain (bV st.2.1 (iV A τ k)) tag (xG (aX A τ s)) (lZ A τ hs) d.1],yV st.2.1 (iV A τ k),d.2.2)
def cQ(A:Rds):List Ln->Tns->DSt->DSt
 |[],_,st=>st
 |l::ls,τ,st=>cQ A ls τ (bX A l τ st)
end
def rM(A:Rds)(τ:Tns)(sp:List Key):Ln->Rds->Wt×Rds
 |.part _ n g,R=>(.part sp n (xG (aX A τ g)),jZ A τ g R)
 |.give _ n r ls,R=>(.give sp n (r.val A τ) (cQ A ls τ ([],[],r.rds A τ R)).1,(cQ A ls τ ([],[],r.rds A τ R)).2.2)
 |.plain _ tag s hs ls,R=>(.plain sp tag (xG (aX A τ s)) (lZ A τ hs) (cQ A ls τ ([],[],xZ A τ hs (jZ A τ s R))).1,(cQ A ls τ ([],[],xZ A τ hs (jZ A τ s R))).2.2)
 |_,R=>(.part sp "" [],R)
def uZ A τ st:cQ A [] τ st=st:=by rfl
def oX A l ls τ st:cQ A (l::ls) τ st=cQ A ls τ (bX A l τ st):=by rw[cQ]
def nM A xs ys τ st:cQ A (xs++ys) τ st=cQ A ys τ (cQ A xs τ st):=by
 induction xs generalizing st with
 |nil=>rfl
 |cons x xs ih=>rw[Cp,oX,oX,ih]
def Qy:Ln->Bool
 |.when _ _ _=>false
 |.each _ _ _=>false
 |_=>true
def rK:Ln->Option Rk
 |.plain k _ _ _ _=>k
 |.part k _ _=>k
 |.give k _ _ _=>k
 |_=>none
def X1 A τ l F N R(h:Qy l=true):
  bX A l τ (F,N,R)=(F++[(rM A τ (bV N (iV A τ (rK l))) l (eK A τ (rK l) R)).1],yV N (iV A τ (rK l)),(rM A τ (bV N (iV A τ (rK l))) l (eK A τ (rK l) R)).2):=by
 cases l with
 |plain k tag s hs ls=>rfl
 |part k n g=>rfl
 |give k n r ls=>rfl
 |when r l1 l2=>cases h
 |each n r ls=>cases h
theorem cG{α:Type}{f}{m:α->Nat}(h:∀x k,m (f x k)<=m x+c):∀(l:List Nat)x,m (l.foldl f x)<=m x+l.length * c
 |[],x=>by show m x<=m x+0 * c;lia
 |k::l,x=>by
  have h1:=cG h l (f x k);have h2:=h x k;rw[Cv,AY]
  lia
mutual
theorem Qv(A:Rds):∀(l:Ln)(τ:Tns)(st:DSt),(bX A l τ st).1.length<=st.1.length+l.tw/\(bX A l τ st).2.1.length<=st.2.1.length+l.tw
 |.when r l1 l2,τ,st=>by
  rw[bX];have h1:=cZ A l1 τ (st.1,st.2.1,r.rds A τ st.2.2);have h2:=cZ A l2 τ (st.1,st.2.1,r.rds A τ st.2.2);show _<=_+(Ln.tws l1+Ln.tws l2)/\_<=_+(Ln.tws l1+Ln.tws l2)
  split
  .exact ⟨Aa h2.1 (by show st.1.length+_<=_;omega),Aa h2.2 (by show st.2.1.length+_<=_;omega)⟩
  .exact ⟨Aa h1.1 (by show st.1.length+_<=_;omega),Aa h1.2 (by show st.2.1.length+_<=_;omega)⟩
 |.each n r ls,τ,st=>by
  rw[bX];have c:=wD (r.val A τ);have f1:=cG (f:=fun st k=>cQ A ls (vZ τ (.inr n) (.int (k:Nat))) st) (m:=fun st=>st.1.length) (c:=Ln.tws ls) (fun x k=>(cZ A ls _ x).1) (List.range (iU (r.val A τ))) (st.1,st.2.1,r.rds A τ st.2.2);have f2:=cG (f:=fun st k=>cQ A ls (vZ τ (.inr n) (.int (k:Nat))) st) (m:=fun st=>st.2.1.length) (c:=Ln.tws ls) (fun x k=>(cZ A ls _ x).2) (List.range (iU (r.val A τ))) (st.1,st.2.1,r.rds A τ st.2.2)
  rw[An] at f1 f2;have hm:iU (r.val A τ) * Ln.tws ls<=8 * Ln.tws ls:=Bu _ c;show _<=st.1.length+8 * Ln.tws ls/\_<=st.2.1.length+8 * Ln.tws ls;exact⟨Aa f1 (by show st.1.length+_<=_;omega),Aa f2 (by show st.2.1.length+_<=_;omega)⟩
 |.part k n g,τ,st=>by
  rw[bX];refine⟨by show(st.1++[_]).length<=st.1.length+1;rw[AL,AZ];exact AH _,dU _ _ _⟩
 |.give k n r ls,τ,st=>by
  rw[bX];refine⟨by show(st.1++[_]).length<=st.1.length+(1+_);rw[AL,AZ];omega,Aa (dU _ _ _) (by show _<=_+(1+_);omega)⟩
 |.plain k tag s hs ls,τ,st=>by
  rw[bX];refine⟨by show(st.1++[_]).length<=st.1.length+(1+_);rw[AL,AZ];omega,Aa (dU _ _ _) (by show _<=_+(1+_);omega)⟩
theorem cZ(A:Rds):∀(ls:List Ln)(τ:Tns)(st:DSt),(cQ A ls τ st).1.length<=st.1.length+Ln.tws ls/\(cQ A ls τ st).2.1.length<=st.2.1.length+Ln.tws ls
 |[],τ,st=>by rw[uZ];exact⟨BV _ _,BV _ _⟩
 |l::ls,τ,st=>by
  rw[oX];have h1:=Qv A l τ st;have h2:=cZ A ls τ (bX A l τ st);show _<=_+(l.tw+Ln.tws ls)/\_<=_+(l.tw+Ln.tws ls);omega
end
theorem dZ(hP:iC A bs P): ∀{ps}{R},PrOk bs ns d ps->P R->P (jZ A τ ps R)
 |[],R,_,h=>h
 |c::ps,R,hp,h=>dZ (ps:=ps) hP (fun x hx=>hp x (AK _ hx)) (pJ hP (hp c AF).1 h)
theorem jD(hP:iC A bs P): ∀{cs}{R},(∀c∈cs,c.2.2.ok bs ns d)->P R->P (aU A τ cs R)
 |[],R,_,h=>h
 |c::ps,R,hp,h=>jD (cs:=ps) hP (fun x hx=>hp x (AK _ hx)) (pJ hP (hp c AF) h)
theorem iK(hP:iC A bs P):∀{hs}{R},(∀h∈hs,h.ok bs ns)->P R->P (xZ A τ hs R)
 |[],R,_,h=>h
 |c::ps,R,hp,h=>iK (hs:=ps) hP (fun x hx=>hp x (AK _ hx)) (jD hP (hp c AF).c h)
def dB(hP:iC A bs P)(h:koOk bs ns k)(hR:P R):P (eK A τ k R):=by
 cases k with
 |none=>exact hR
 |some r=>exact pJ hP h hR
theorem nC{P:Rds->Prop}(h1:∀l ns τ st,LnOk bs rs d ns l->P st.2.2->P (bX A l τ st).2.2):∀ls ns τ st,(∀x∈ls,LnOk bs rs d ns x)->P st.2.2->P (cQ A ls τ st).2.2
 |[],ns,τ,st,_,h=>by rwa [uZ]
 |l::ls,ns,τ,st,hl,h =>nC h1 ls ns τ _ (fun x hx=>hl x (AK _ hx)) (h1 l ns τ st (hl l AF) h)
theorem iW{α β:Type}{f}{P:α->Prop}(h:∀x k,P x->P (f x k)):∀(l:List β)x,P x->P (l.foldl f x)
 |[],x,p=>p
 |k::l,x,p=>iW h l _ (h x k p)
def one_rd(hP:iC A bs P):∀d l ns τ st,LnOk bs rs d ns l->P st.2.2->P (bX A l τ st).2.2:=by
 intro d
 induction d with
 |zero=>intro l ns τ st h;exact h.elim
 |succ d ih =>
  intro l ns τ st h hR;have br:=nC ih
  cases l with
  |plain k tag s hs ls =>
   exact tN h fun h1 h2 h3 h4 h5=>br ls ns τ _ h4 (iK hP h3.1 (dZ hP h2.1 (dB hP h1 hR)))
  |part k n g =>
   exact QQ h fun h1 h2 h3 h4=>dZ hP h3 (dB hP h1 hR)
  |give k n r ls =>
   exact tN h fun h1 h2 h3 h4 h5=>br ls ns τ _ h4 (pJ hP h3 (dB hP h1 hR))
  |when r l1 l2 =>
   obtain⟨h1,⟨h2,h3⟩,h4,h5⟩:=h;rw[bX]
   split
   .exact br l2 ns τ _ h4 (pJ hP h1 hR)
   .exact br l1 ns τ _ h2 (pJ hP h1 hR)
  |each n r ls =>
   exact QR h fun h1 h2 h3=>iW (fun x k p=>br ls _ _ x h2 p) _ _ (pJ hP h1 hR)
def tZ(hP:iC A bs P)(h:∀x∈ls,LnOk bs rs d ns x)(hR:P st.2.2):P (cQ A ls τ st).2.2:=nC (one_rd hP d) ls ns τ st h hR
def CInts(N:Tns):Prop:=∀kv∈N,∃i,kv.2=.int i
theorem CInts.put(h:CInts N)k i:CInts (vZ N k (.int i)):=by
 intro kv hk
 delta vZ at hk
 split at hk
 .obtain ⟨x,hx,rfl⟩:=AU.1 hk
  split
  .exact ⟨i,rfl⟩
  .exact h x hx
 .rcases AV.1 hk with hk | hk
  .exact h kv hk
  .grind
def cnt_is(h:CInts N)k:(iJ N k).getD (.int 0)=.int (qD N k):=by
 delta qD
 cases e:iJ N k with
 |none=>rfl
 |some v =>
  obtain⟨kv,hm,rfl⟩:=kI e;obtain⟨i,ei⟩:=h kv hm;rw[ei]
  rfl
mutual
theorem one_ci(A:Rds):∀(l:Ln)(τ:Tns)(st:DSt),CInts st.2.1->CInts (bX A l τ st).2.1
 |.when r l1 l2,τ,st,h=>by
  rw[bX]
  split
  .exact gG A l2 τ _ h
  .exact gG A l1 τ _ h
 |.each n r ls,τ,st,h=>by
  rw[bX];exact iW (P:=fun st:DSt=>CInts st.2.1) (fun x k p=>gG A ls _ x p) _ _ h
 |.part k n g,τ,st,h=>by rw[bX];exact h.put _ _
 |.give k n r ls,τ,st,h=>by rw[bX];exact h.put _ _
 |.plain k tag s hs ls,τ,st,h=>by rw[bX];exact h.put _ _
theorem gG(A:Rds):∀(ls:List Ln)(τ:Tns)(st:DSt),CInts st.2.1->CInts (cQ A ls τ st).2.1
 |[],τ,st,h=>by rw[uZ];exact h
 |l::ls,τ,st,h=>by rw[oX];exact gG A ls τ _ (one_ci A l τ st h)
end
def pT(I:List PV->List PV->CH->Prop)(step:∀x r acc C,I (x::r) acc C->∃ts,x=.tup ts/\ts.length=n/\∀L:K1,(∀y C2,acc.length < sizeLine/\I r (acc++[y]) C2->L y C2)->c (ts.map some++ρ) C L)(fin:∀acc C,I [] acc C->∀p,C p=none->Q (.ref p) (uQ C p (.lst acc))):
  ∀xs acc C,I xs acc C->jU n mC c ρ Q xs acc C:=by
 intro xs
 induction xs with
 |nil=>intro acc C h;exact fin acc C h
 |cons x r ih =>
  intro acc C h;exact aJ (step x r acc C h) fun ts e hn st=>⟨ts,e,hn,st _ fun y C2 z=>⟨z.1,ih _ _ z.2⟩⟩
section
variable {W:Wd}{a:Adr}
structure Sf(a:Adr)(C:CH)(x aa rr:Addr)(A R:Rds):Prop where
 ins:∃dx,C x=some (.ins a.Drawer dx [("answers",.ref aa),("asked",.ref rr)])
 ans:C aa=some (.dT A)
 ask:C rr=some (.dT R)
 ne:aa≠rr
def Sf.nx(h:Sf a C x aa rr A R):x≠rr:=fun e=>by
 obtain⟨dx,h1⟩:=h.ins;rw[e,h.ask] at h1;cases h1
theorem Sf.keep{R':Rds}(h:Sf a C x aa rr A R)(e:ExS S C C')(hx:x∉S)(hn:aa∉S)(hk:C' rr=some (.dT R')):Sf a C' x aa rr A R' :=
 ⟨let ⟨dx,h1⟩:=h.ins;⟨dx,e _ _ hx h1⟩,e _ _ hn h.ans,hk,h.ne⟩
def Sf.keep'(h:Sf a C x aa rr A R)(e:ExS S C C')(hx:x∉S)(hn:aa∉S)(hk:rr∉S):Sf a C' x aa rr A R :=
 h.keep e hx hn (e _ _ hk h.ask)
def Sf.rd{R':Rds}(h:Sf a C x aa rr A R)(e:ExS [rr] C C')(hk:C' rr=some (.dT R')):Sf a C' x aa rr A R' :=
 h.keep e (fun z=>h.nx (AE.1 z)) (fun z=>h.ne (AE.1 z)) hk
def Sf.new(h:Sf a C x aa rr A R)(hp:C p=none)o:Sf a (uQ C p o) x aa rr A R :=h.keep' (ExS.refl.put hp o) (CM) (CM) (CM)
def Sf.nd(h:Sf a C x aa rr A R)(m:C ct=some (.dK cs)):x≠ct/\aa≠ct/\rr≠ct:=by
 obtain⟨dx,h1⟩:=h.ins;refine⟨fun e=>?_,fun e=>?_,fun e=>?_⟩
 .lia
 .have:=h.ans;rw[e,m] at this;cases this
 .have:=h.ask;rw[e,m] at this;cases this
def Sf.nl(h:Sf a C x aa rr A R)(m:C p=some (.lst xs)):x≠p/\aa≠p/\rr≠p:=by
 obtain⟨dx,h1⟩:=h.ins;refine⟨fun e=>?_,fun e=>?_,fun e=>?_⟩
 .lia
 .have:=h.ans;rw[e,m] at this;cases this
 .have:=h.ask;rw[e,m] at this;cases this
def Sf.nn(h:Sf a C x aa rr A R)(m:C p=none):x≠p/\aa≠p/\rr≠p:=by
 obtain⟨dx,h1⟩:=h.ins;refine⟨fun e=>?_,fun e=>?_,fun e=>?_⟩
 .lia
 .have:=h.ans;rw[e,m] at this;cases this
 .have:=h.ask;rw[e,m] at this;cases this
inductive gInit(a:Adr)(ts:List PV)(C:CH)(Q:K1):Prop
 |mk(x dx aa:Addr)(A:Rds)(z0:ts=[.ref x,.ref aa])(z1:C x=some (.ins a.Drawer dx []))(z2:C aa=some (.dT A))(z3:∀C' rr,C rr=none->Sf a C' x aa rr A []->ExS [x] C C'->Q .non C'):gInit a ts C Q
def ok_init(T:Tx W a):Ok W a 1 41 ["self","answers"] (gInit a):=by
 refine(T.F 41 rfl).ok (fun ts C R h=>?_) fun cdv A outer s H E hr=>⟨_,(jQ (Yl T.kX T.bG (cv 0) (cv 1))
  (vQ (Yl T.kX T.vY (cv 0) iE))),?_⟩
 .obtain ⟨_,_,_,_,rfl,_⟩:=h;rfl
 rintro ts C R ⟨x,dx,an,A,rfl,mx,man,q⟩;have ne:an≠x:=fun e=>by rw[e,mx] at man;cases man
 apply VJ mx (by decide)
 intro ak hak
 have hak0:C ak=none:=by
  rw[wQ (fun z=>by rw[z,xQ] at hak;cases hak)] at hak;exact hak
 have nk:ak≠x:=fun e=>by rw[e,mx] at hak0;cases hak0
 apply VJ (by rw[wQ (Ne.symm nk)];exact xQ) (by show 1 < 1000;decide)
 refine q _ ak hak0 ⟨⟨dx,?_⟩,?_,?_,fun e=>by rw[e,hak0] at man;cases man⟩ ?_
 .rw [xQ]
  rfl
 .rw [wQ ne,wQ (fun e=>by rw[e,hak0] at man;cases man),wQ ne];exact man
 .exact (wQ nk)▸xQ
 .exact ((ExS.refl.at AF _).put hak0 _).at AF _
inductive gDnum(a:Adr)(d:Nat)(ts:List PV)(C:CH)(Q:K1):Prop
 |mk(r:Rk)(x aa tt rr:Addr)(A:Rds)(τ:Tns)(R:Rds)(bs ns:List Str)(z0:ts=[.ref x,r.pv,.ref tt])(z1:r.ok bs ns d)(z2:Sf a C x aa rr A R)(z3:C tt=some (.dK τ))(z4:uW A τ bs ns)(z5:RdOk bs R)(z6:∀C',Sf a C' x aa rr A (r.rds A τ R)->ExS [rr] C C'->Q (.int (r.val A τ)) C'):gDnum a d ts C Q
def fB(T:Tx W a)d:Ok W a (d+4) 42 ["self","reckoning","turns"] (gDnum a d):=by
 have kW:=eO T d;refine(T.F 42 rfl).ok (fun ts C R h=>?_) fun cdv A outer s H E hr=>⟨_,(vQ (gQ (cf (T.F 7 rfl) kW hr (qQ (cv 1) (qQ (Zt T.kX T.bG (cv 0)) (qQ (cv 2) (ca1 (Zt T.kX T.vY (cv 0))))))))),?_⟩
 .obtain ⟨r,_,_,_,_,_,_,_,_,_,rfl,_⟩:=h;rfl
 rintro ts C Q ⟨r,x,aa,tt,rr,A,τ,R,bs,ns,rfl,ok,sf,mtn,hS,hR,q⟩;obtain⟨dx,mx⟩:=sf.ins;exact W3 mx rfl (W3 mx rfl ⟨r,aa,tt,rr,A,τ,R,bs,ns,rfl,ok,⟨sf.ans,mtn,sf.ask,sf.ne⟩,hS,hR,fun C1 m1 x1=>q C1 (sf.rd x1 m1) x1⟩)
inductive zT(a:Adr)(ts:List PV)(C:CH)(Q:K1):Prop
 |mk(ps:List (Str×Rk))(x aa tt rr:Addr)(A:Rds)(τ:Tns)(R:Rds)(bs ns:List Str)(z0:ts=[.ref x,.tup (ps.map vW),.ref tt])(z1:PrOk bs ns 2 ps)(z2:ps.length<=4)(z3:Sf a C x aa rr A R)(z4:C tt=some (.dK τ))(z5:uW A τ bs ns)(z6:RdOk bs R)(z7:∀C' l,C l=none->C' l=some (.lst ((aX A τ ps).map yZ))->Sf a C' x aa rr A (jZ A τ ps R)->ExS [rr] C C'->Q (.ref l) C'):zT a ts C Q
def cL(T:Tx W a):Ok W a 7 43 ["self","pairs","turns"] (zT a):=by
 have S:=(T.F 43 rfl).s;have uX:=fB T 2;refine(T.F 43 rfl).ok (fun ts C R h=>?_) fun cdv A outer s H E hr=>⟨_,(vQ (gQ (lY rfl (S.c (by decide +kernel)) (S.k rfl rfl rfl (by decide +kernel)) (zU (cv 1)) (fun _ _ _ _ _=>nJ) (fun _ _ _ _ _=>(lQ (qQ (cx (cv 0) zQ) (ca1 (cm T.kX (T.F 42 rfl) T.tX uX hr (cv 1) (qQ (cx (cv 0) zQ) (ca1 (cv 3))))))))))),?_⟩
 .obtain ⟨_,_,_,_,_,_,_,_,_,_,rfl,_⟩:=h;rfl
 rintro ts C Q ⟨ps,x,aa,tt,rr,A,τ,R,bs,ns,rfl,hp,hl,sf,mtn,hS,hR,q⟩;refine rW (fun zs acc C1=>∃ds es:List (Str×Rk),ps=ds++es/\zs=es.map vW/\acc=(aX A τ ds).map yZ/\Sf a C1 x aa rr A (jZ A τ ds R)/\ExS [rr] C C1) ?_ ?_ _ _ _ ⟨[],ps,rfl,rfl,rfl,sf,ExS.refl⟩
 .rintro z zs acc C1 ⟨ds,es,e1,e2,rfl,sf1,x1⟩ L hL
  cases es with
  |nil=>cases e2
  |cons p es =>
   injection e2 with e2 e3
   subst e2 e3;obtain⟨dx,mx⟩:=sf1.ins;refine wX rfl ⟨qZ mx rfl,wX rfl ⟨p.2,x,aa,tt,rr,A,τ,_,bs,ns,rfl,(hp p (e1▸AR _ AF)).1,sf1,x1 _ _ (fun z=>(sf.nd mtn).2.2 (AE.1 z).symm) mtn,hS,dZ (fZ hS.a) (fun y hy=>hp y (e1▸Aq _ hy)) hR,fun C2 sf2 x2=>⟨y0 2 rfl,?_⟩⟩⟩;refine hL _ _ ⟨?_,ds++[p],es,by rw[e1,Aj];rfl,rfl,by delta aX;rw[Ab,Ab];rfl,?_,x1.trans x2⟩
   .rw [AB]
    delta aX
    rw[AB];have:ds.length<=4 :=by simp_all;lia
    exact A3 this (by decide)
   .unfold jZ at sf2 ⊢
    rwa [BZ]
 .rintro acc C1 ⟨ds,es,e1,e2,rfl,sf1,x1⟩ p hp0
  cases es with
  |cons _ _=>cases e2
  |nil =>
   rw[Al] at e1;subst e1;have p0:=x1.none (fun z=>(sf1.nn hp0).2.2 (AE.1 z).symm) hp0;exact q _ p p0 xQ (sf1.new hp0 _) (x1.put p0 _)
def qW k:zW (oJ k)=some k:=by
 rcases k with (_ | i) | x<;>rfl
inductive gSpot(a:Adr)(ts:List PV)(C:CH)(Q:K1):Prop
 |mk(k:Option Rk)(x aa tt rr cc:Addr)(A:Rds)(τ:Tns)(R:Rds)(N:Tns)(bs ns:List Str)(z0:ts=[.ref x,pG k,.ref tt,.ref cc])(z1:koOk bs ns k)(z2:Sf a C x aa rr A R)(z3:C tt=some (.dK τ))(z4:C cc=some (.dK N))(z5:CInts N)(z6:N.length<=900)(z7:uW A τ bs ns)(z8:RdOk bs R)(z9:∀C',C' cc=some (.dK (yV N (iV A τ k)))->Sf a C' x aa rr A (eK A τ k R)->ExS [rr,cc] C C'->Q (uU (bV N (iV A τ k))) C'):gSpot a ts C Q
def ok_spot(T:Tx W a):Ok W a 5 48 ["self","key","turns","counts"] (gSpot a):=by
 have S:=(T.F 48 rfl).s;have uX:=fB T 0
 refine(T.F 48 rfl).ok (fun ts C R h=>?_) fun cdv A outer s H E hr=>⟨_,(jQ (cs1 4 S.nd (xD (ct2 XJ nE (cv 1) vV) vV (cm T.kX (T.F 42 rfl) T.tX uX hr (cv 0) (qQ (cv 1) (ca1 (cv 2))))))
  (jQ (cs1 5 S.nd (Ys (yX hr) (cv 3) (cv 4) zQ))
  (jQ (mK (yX hr) (cv 3) (cv 4) (tQ nX sX (cv 5) zQ))
  (vQ (gQ (lQ (qQ (cv 4) (ca1 (cv 5))))))))),?_⟩
 .obtain ⟨_,_,_,_,_,_,_,_,_,_,_,_,rfl,_⟩:=h;rfl
 rintro ts C Q ⟨ke,x,aa,tt,rr,cc,A,τ,R,N,bs,ns,rfl,hk,sf,mtn,mct,hc,hs,hS,hR,q⟩;obtain⟨n1,n2,n3⟩:=(sf.nd mct)
 have rest:∀C1,Sf a C1 x aa rr A (eK A τ ke R)->ExS [rr] C C1->KR (KQ 5 (YA (jY 3) (jY 4) (cC (.int 0)))) (KR (cDPut (jY 3) (jY 4) (cOp dR (jY 5) (cC (.int 1)))) (cRet (cTup (uG (jY 4) (uG (jY 5) uA))))) { nx:=fun _ C'=>Q .non C',rt:=Q } [some (.ref x),some (pG ke),some (.ref tt),some (.ref cc),some (oJ (iV A τ ke)),none] C1:=by
  intro C1 sf1 x1;have mct1:=x1 _ _ (fun z=>n3 (AE.1 z).symm) mct;refine yQ ⟨isDk_g mct1,getD_g mct1 (qW _) (cnt_is hc _) (iZ (qV (mV mct1 (qW _) (by lia) ?_)))⟩;refine⟨y0 2 rfl,?_⟩;refine q _ xQ (sf1.keep' (S:=[cc]) (ExS.refl.at AF _) ?_ ?_ ?_) ((x1.mono fun b hb=>Af.2 (.inl (AE.1 hb))).at (AK _ AF) _)
  .grind
  .grind
  .grind
 cases ke with
 |none=>exact rest C sf ExS.refl
 |some r =>
   obtain⟨dx,mx⟩:=sf.ins;have hr:∃xs,r.pv=.tup xs:=by cases r<;>exact⟨_,rfl⟩
   obtain⟨xs,hr⟩:=hr;have rest':=rest
   simp only[pG,hr] at rest' ⊢
   refine yQ (if_i (Vm rfl (mU rfl ⟨qZ mx rfl,⟨r,x,aa,tt,rr,A,τ,R,bs,ns,by rw[hr],hk,sf,mtn,hS,hR,fun C1 sf1 x1=>?_⟩⟩)));exact rest' C1 sf1 x1
inductive gHand(a:Adr)(ts:List PV)(C:CH)(Q:K1):Prop
 |mk(h:Hd)(x aa tt rr:Addr)(A:Rds)(τ:Tns)(R:Rds)(bs ns:List Str)(z0:ts=[.ref x,h.pv,.ref tt])(z1:h.ok bs ns)(z2:Sf a C x aa rr A R)(z3:C tt=some (.dK τ))(z4:uW A τ bs ns)(z5:RdOk bs R)(z6:∀C',Sf a C' x aa rr A (aU A τ h.ch R)->ExS [rr] C C'->Q (iS A τ h).pv C'):gHand a ts C Q
def ok_hand(T:Tx W a):Ok W a 6 49 ["self","hand","turns"] (gHand a):=by
 have S:=(T.F 49 rfl).s;have uX:=fB T 1
 refine(T.F 49 rfl).ok (fun ts C R h=>?_) fun cdv A outer s H E hr=>⟨_,(jQ (cE (i:=3) S.nd rfl (Or.inl rfl) rfl (S.c (by decide +kernel)) (S.k rfl rfl rfl (by decide +kernel)) (zU (cx (cv 1) zQ)) (fun _ _ _ _ _=>nJ) (fun _ _ _ _ _=>(lQ (qQ (cx (cv 0) zQ) (qQ (cx (cv 0) zQ) (ca1 (cm T.kX (T.F 42 rfl) T.tX uX hr (cv 1) (qQ (cx (cv 0) zQ) (ca1 (cv 3))))))))))
  (vQ (gQ (lQ (qQ (cx (cv 1) zQ) (qQ (cx (cv 1) zQ) (qQ (cx (cv 1) zQ) (ca1 (ctp T.vX (cv 3)))))))))),?_⟩
 .obtain ⟨_,_,_,_,_,_,_,_,_,_,rfl,_⟩:=h;rfl
 rintro ts C Q ⟨h,x,aa,tt,rr,A,τ,R,bs,ns,rfl,hh,sf,mtn,hS,hR,q⟩;refine yQ (wX rfl (rW (fun zs acc C1=>∃ds es:List (Str×Str×Rk),h.ch=ds++es/\zs=es.map Yr/\acc=(zD A τ ds).map Zl/\Sf a C1 x aa rr A (aU A τ ds R)/\ExS [rr] C C1) ?_ ?_ _ _ _ ⟨[],h.ch,rfl,rfl,rfl,sf,ExS.refl⟩))
 .rintro z zs acc C1 ⟨ds,es,e1,e2,rfl,sf1,x1⟩ L hL
  cases es with
  |nil=>cases e2
  |cons p es =>
   rw[A8] at e2;injection e2 with e2 e3
   subst e2 e3;obtain⟨dx,mx⟩:=sf1.ins;refine wX rfl (wX rfl ⟨qZ mx rfl,wX rfl ⟨p.2.2,x,aa,tt,rr,A,τ,_,bs,ns,rfl,hh.c p (e1▸AR _ AF),sf1,x1 _ _ (fun z=>(sf.nd mtn).2.2 (AE.1 z).symm) mtn,hS,jD (fZ hS.a) (fun y hy=>hh.c y (e1▸Aq _ hy)) hR,fun C2 sf2 x2=>⟨y0 3 rfl,?_⟩⟩⟩);refine hL _ _ ⟨?_,ds++[p],es,by rw[e1,Aj];rfl,rfl,by delta zD;rw[Ab,Ab];rfl,?_,x1.trans x2⟩
   .rw [AB]
    delta zD
    rw[AB];have hl:=hh.1;have:ds.length<=4 :=by simp_all;lia
    exact A3 this (by decide)
   .unfold aU at sf2 ⊢
    rwa [BZ]
 .rintro acc C1 ⟨ds,es,e1,e2,rfl,sf1,x1⟩ p hp0
  cases es with
  |cons _ _=>cases e2
  |nil =>
   rw[Al] at e1;refine wX rfl (wX rfl (wX rfl (mJ xQ ⟨y0 4 rfl,?_⟩)));have:=q _ (by rw[e1];exact sf1.new hp0 _) (x1.put (x1.none (fun z=>(sf1.nn hp0).2.2 (AE.1 z).symm) hp0) (.lst ((zD A τ ds).map Zl)));unfold HdV.pv iS at this
   rwa [e1] at this
end
structure S6(a:Adr)(C:CH)(x aa rr tt ff cc:Addr)(A:Rds)(τ:Tns)(st:DSt):Prop where
 sf:Sf a C x aa rr A st.2.2
 mt:C tt=some (.dK τ)
 mf:C ff=some (.lst (Wt.pvs st.1))
 mc:C cc=some (.dK st.2.1)
 tc:tt≠cc
section
variable {a:Adr}{C C':CH}{x aa rr tt ff cc:Addr}{A:Rds}{τ:Tns}{st st':DSt}
def S6.fc(h:S6 a C x aa rr tt ff cc A τ st):ff≠cc:=fun z=>by have:=h.mf;rw[z,h.mc] at this;cases this
def S6.tf(h:S6 a C x aa rr tt ff cc A τ st):tt≠ff:=fun z=>by have:=h.mt;rw[z,h.mf] at this;cases this
def S6.fr(h:S6 a C x aa rr tt ff cc A τ st):ff≠rr:=fun z=>(h.sf.nl h.mf).2.2 z.symm
def S6.cr(h:S6 a C x aa rr tt ff cc A τ st):cc≠rr:=fun z=>(h.sf.nd h.mc).2.2 z.symm
def S6.tr(h:S6 a C x aa rr tt ff cc A τ st):tt≠rr:=fun z=>(h.sf.nd h.mt).2.2 z.symm
def S6.nt(h:S6 a C x aa rr tt ff cc A τ st):tt∉[ff,cc,rr]:=fun z=>by
 simp only[List.mem_cons,List.not_mem_nil,or_false] at z
 rcases z with z | z | z
 .exact h.tf z
 .exact h.tc z
 .exact h.tr z
def S6.rd(h:S6 a C x aa rr tt ff cc A τ st)(e:ExS [rr] C C')(s:Sf a C' x aa rr A R):S6 a C' x aa rr tt ff cc A τ (st.1,st.2.1,R) :=
 ⟨s,e _ _ (fun z=>h.tr (AE.1 z)) h.mt,e _ _ (fun z=>h.fr (AE.1 z)) h.mf,e _ _ (fun z=>h.cr (AE.1 z)) h.mc,h.tc⟩
end
def pE(h:ExS [rr] C C'):ExS [ff,cc,rr] C C':=h.mono fun b z=>by rw[AE.1 z];simp
def yL(h:ExS [rr] C C'):ExS [rr,cc] C C':=h.mono fun b z=>by rw[AE.1 z];simp
def Jh(h:ExS [rr,cc] C C'):ExS [ff,cc,rr] C C':=h.mono fun b z=>by
 simp only[List.mem_cons,List.not_mem_nil] at z ⊢
 rcases z with z | z
 .lia
 .lia
def JL{r:List PV}:atI (x::y::r) 1=some y:=eC (by simp)
def th_pv(h:Qy l=true):∃wd rest,l.pv=.tup (.str wd::pG (rK l)::rest)/\decide (wd = "when")=false/\decide (wd = "each")=false:=by
 cases l with
 |plain k tag s hs ls=>exact⟨"plain",_,by rfl,by decide,by decide⟩
 |part k n g=>exact⟨"part",_,by rfl,by decide,by decide⟩
 |give k n r ls=>exact⟨"give",_,by rfl,by decide,by decide⟩
 |when r l1 l2=>cases h
 |each n r ls=>cases h
def th_key(h:Qy l=true)(ok:LnOk bs rs d ns l):koOk bs ns (rK l):=by
 cases d with
 |zero=>exact ok.elim
 |succ d =>
 cases l with
 |plain k tag s hs ls=>exact ok.1
 |part k n g=>exact ok.1
 |give k n r ls=>exact ok.1
 |when r l1 l2=>cases h
 |each n r ls=>cases h
inductive gBr(a:Adr)(d:Nat)(ts:List PV)(C:CH)(Q:K1):Prop
 |mk(ls:List Ln)(x aa tt rr ff cc:Addr)(A:Rds)(τ:Tns)(st:DSt)(bs rs ns:List Str)(z0:ts=[.ref x,.tup (Ln.pvs ls),.ref tt,.ref ff,.ref cc])(z1:(∀x∈ls,LnOk bs rs d ns x))(z2:st.1.length+Ln.tws ls<=400)(z3:st.2.1.length+Ln.tws ls<=400)(z4:τ.length+d<=50)(z5:S6 a C x aa rr tt ff cc A τ st)(z6:uW A τ bs ns)(z7:RdOk bs st.2.2)(z8:CInts st.2.1)(z9:∀C',S6 a C' x aa rr tt ff cc A τ (cQ A ls τ st)->ExS [ff,cc,rr] C C'->Q .non C'):gBr a d ts C Q
inductive gBrL(a:Adr)(d:Nat)(ts:List PV)(C:CH)(Q:K1):Prop
 |mk d'(z0:d=d'+1)(z1:gBr a d' ts C Q):gBrL a d ts C Q
inductive gRow(a:Adr)(d:Nat)(ts:List PV)(C:CH)(Q:K1):Prop
 |mk(ls:List Ln)(x aa tt rr:Addr)(A:Rds)(τ:Tns)(R:Rds)(bs rs ns:List Str)(z0:ts=[.ref x,.tup (Ln.pvs ls),.ref tt])(z1:(∀x∈ls,LnOk bs rs d ns x))(z2:Ln.tws ls<=400)(z3:τ.length+d<=50)(z4:Sf a C x aa rr A R)(z5:C tt=some (.dK τ))(z6:uW A τ bs ns)(z7:RdOk bs R)(z8:∀C',Sf a C' x aa rr A (cQ A ls τ ([],[],R)).2.2->ExS [rr] C C'->Q (.tup (Wt.pvs (cQ A ls τ ([],[],R)).1)) C'):gRow a d ts C Q
inductive WT(a:Adr)(d:Nat)(ts:List PV)(C:CH)(Q:K1):Prop
 |mk d'(z0:d=d'+1)(z1:gRow a d' ts C Q):WT a d ts C Q
inductive WS(a:Adr)(d:Nat)(ts:List PV)(C:CH)(Q:K1):Prop
 |mk(l:Ln)(x aa tt rr cc:Addr)(A:Rds)(τ:Tns)(R:Rds)(N:Tns)(bs rs ns:List Str)(z0:ts=[.ref x,l.pv,.ref tt,.ref cc])(z1:Qy l=true)(z2:LnOk bs rs d ns l)(z3:l.tw<=400)(z4:τ.length+d<=50)(z5:Sf a C x aa rr A R)(z6:C tt=some (.dK τ))(z7:C cc=some (.dK N))(z8:tt≠cc)(z9:CInts N)(z10:N.length<=900)(z11:uW A τ bs ns)(z12:RdOk bs R)(z13:∀C',C' cc=some (.dK (yV N (iV A τ (rK l))))->Sf a C' x aa rr A (rM A τ (bV N (iV A τ (rK l))) l (eK A τ (rK l) R)).2->ExS [rr,cc] C C'->Q (rM A τ (bV N (iV A τ (rK l))) l (eK A τ (rK l) R)).1.pv C'):WS a d ts C Q
section
variable {W:Wd}{a:Adr}
def We(T:Tx W a)(yK:Ok W a k 45 ["self","lines","turns","row","counts"] (gBr a d)):Ok W a (k+1) 44 ["self","lines","turns"] (gRow a d):=by
 refine(T.F 44 rfl).ok (fun ts C R h=>?_) fun cdv A outer s H E hr=>⟨_,(jQ (cs1 3 ((T.F 44 rfl).s).nd (zX sJ))
  (jQ (vJ (cm T.kX (T.F 45 rfl) T.tX yK hr (cv 0) (qQ (cv 1) (qQ (cv 2) (qQ (cv 3) (ca1 kD))))))
  (vQ (gQ (ctp T.vX (cv 3)))))),?_⟩
 .obtain ⟨_,_,_,_,_,_,_,_,_,_,_,rfl,_⟩:=h;rfl
 rintro ts C Q ⟨ls,x,aa,tt,rr,A,τ,R,bs,rs,ns,rfl,ok,htw,hτ,sf,mtn,hS,hR,q⟩;refine⟨by decide,fun ff ff0=>?_⟩;have sf1:=sf.new ff0 (.lst []);refine el11 sf1.ins fun dx mx=>iZ ⟨qZ mx rfl,?_⟩;intro cc cc0;have ncr:cc≠ff:=fun z=>by rw[z,xQ] at cc0;cases cc0
 have cc0':C cc=none:=by rwa [wQ ncr] at cc0
 have ntr:tt≠ff:=fun z=>by rw[z,ff0] at mtn;cases mtn
 have ntc:tt≠cc:=fun z=>by rw[z,cc0'] at mtn;cases mtn
 refine⟨ls,x,aa,tt,rr,ff,cc,A,τ,([],[],R),bs,rs,ns,rfl,ok,by show 0+_<=400;lia,by show 0+_<=400;lia,hτ,⟨(sf1.new cc0 (.dK [])),by rw[wQ ntc,wQ ntr];exact mtn,by exact(wQ (Ne.symm ncr))▸xQ,xQ,ntc⟩,hS,hR,(fun _ z=>nomatch z),fun C2 s2 e2=>?_⟩;refine mJ s2.mf (q C2 s2.sf fun b o hb hbo=>?_);have b1:b≠ff:=fun z=>by rw[z,ff0] at hbo;cases hbo
 have b2:b≠cc:=fun z=>by rw[z,cc0'] at hbo;cases hbo
 refine e2 b o (fun z=>?_) (by rwa [wQ b2,wQ b1])
 simp only[List.mem_cons,List.not_mem_nil] at z
 rcases z with z | z | z
 .exact b1 z
 .exact b2 z
 .grind
def ok_want(T:Tx W a)(d k:Nat)(h7:7<=k)(fW:Ok W a k 44 ["self","lines","turns"] (WT a d)):Ok W a (k+1) 47 ["self","line","turns","counts"] (WS a d):=by
 have S:=(T.F 47 rfl).s;have lR:=(ok_spot T).mono (show 5<=k by lia);have uX:=(fB T 1).mono (show 5<=k by lia);have uV:=(cL T).mono h7;have rR:=(ok_hand T).mono (show 6<=k by lia)
 refine(T.F 47 rfl).ok (fun ts C R h=>?_) fun cdv A outer s H E hr=>⟨_,(jQ (cs1 4 S.nd (cm T.kX (T.F 48 rfl) T.tX lR hr (cv 0) (qQ (cx (cv 1) zQ) (qQ (cv 2) (ca1 (cv 3))))))
  (jQ (rQ (ct2 fX oQ (cx (cv 1) zQ) kQ) (vQ (gQ (lQ (qQ kQ (qQ (cv 4) (qQ (cx (cv 1) zQ) (qQ (cm T.kX (T.F 42 rfl) T.tX uX hr (cv 0) (qQ (cx (cv 1) zQ) (ca1 (cv 2)))) (ca1 (cm T.kX (T.F 44 rfl) T.tX fW hr (cv 0) (qQ (cx (cv 1) zQ) (ca1 (cv 2)))))))))))) pQ)
  (jQ (cs1 5 S.nd (ctp T.vX (nQ (yD rfl) wC rfl T.eM rfl (ca1 (cm T.kX (T.F 43 rfl) T.tX uV hr (cv 0) (qQ (cx (cv 1) zQ) (ca1 (cv 2))))))))
  (jQ (rQ (ct2 fX oQ (cx (cv 1) zQ) kQ) (vQ (gQ (lQ (qQ kQ (qQ (cv 4) (qQ (cx (cv 1) zQ) (ca1 (cv 5)))))))) pQ)
  (jQ (cs1 6 S.nd (ctp T.vX (lY rfl (S.c (by decide +kernel)) (S.k rfl rfl rfl (by decide +kernel)) (zU (cx (cv 1) zQ)) (fun _ _ _ _ _=>nJ) (fun _ _ _ _ _=>(cm T.kX (T.F 49 rfl) T.tX rR hr (cv 1) (qQ (cv 0) (ca1 (cv 3))))))))
  (vQ (gQ (lQ (qQ kQ (qQ (cv 4) (qQ (cx (cv 1) zQ) (qQ (cv 5) (qQ (cv 6) (ca1 (cm T.kX (T.F 44 rfl) T.tX fW hr (cv 0) (qQ (cx (cv 1) zQ) (ca1 (cv 2)))))))))))))))))),?_⟩
 .obtain ⟨_,_,_,_,_,_,_,_,_,_,_,_,_,rfl,_⟩:=h;rfl
 rintro ts C Q ⟨l,x,aa,tt,rr,cc,A,τ,R,N,bs,rs,ns,rfl,hth,ok,htw,hτ,sf,mtn,mct,ntc,hc,hs,hS,hR,q⟩;obtain⟨dx,mx⟩:=sf.ins;obtain⟨n1,n2,n3⟩:=sf.nd mct
 have nta:tt∉[rr,cc]:=fun z=>by
  rcases Af.1 z with z | z
  .exact (sf.nd mtn).2.2 z.symm
  .exact ntc (AE.1 z)
 have nta':tt∉[rr]:=fun z=>nta (Af.2 (.inl (AE.1 z)));have nca:cc∉[rr]:=fun z=>n3 (AE.1 z).symm
 cases d with
 |zero=>exact ok.elim
 |succ d =>
 cases l with
 |when r l1 l2=>cases hth
 |each n r ls=>cases hth
 |give kk n rk ls =>
  obtain⟨h1,h2,h3,h4',h5⟩:=ok;unfold Ln.pv;refine⟨qZ mx rfl,wX (v:=pG kk) rfl ⟨kk,x,aa,tt,rr,cc,A,τ,R,N,bs,ns,rfl,h1,sf,mtn,mct,hc,hs,hS,hR,fun C1 m1 sf1 x1=>?_⟩⟩;have mtn1:=x1 _ _ nta mtn;have R1:=dB (τ:=τ) (fZ hS.a) h1 hR;obtain⟨dx1,mx1⟩:=sf1.ins;refine iZ (wX gX (qX (dQ _ _) (jJ (by decide) ?_)));refine wX (v:=.str n) rfl ⟨qZ mx1 rfl,wX (v:=rk.pv) rfl ⟨rk,x,aa,tt,rr,A,τ,_,bs,ns,rfl,h3,sf1,mtn1,hS,R1,fun C2 sf2 x2=>?_⟩⟩
  have mtn2:=x2 _ _ nta' mtn1;obtain⟨dx2,mx2⟩:=sf2.ins;refine⟨qZ mx2 rfl,wX (v:=.tup (Ln.pvs ls)) rfl ?_⟩;have htw':1+Ln.tws ls<=400:=htw;refine⟨d,rfl,ls,x,aa,tt,rr,A,τ,_,bs,rs,ns,rfl,h4',by lia,by lia,sf2,mtn2,hS,pJ (fZ hS.a) h3 R1,fun C3 sf3 x3=>?_⟩;refine⟨y0 5 rfl,?_⟩;have:=q C3 (x3 _ _ nca (x2 _ _ nca m1)) sf3 ((x1.trans (yL x2)).trans (yL x3));unfold rM Wt.pv at this;exact this
 |part kk n g =>
  obtain⟨h1,h2,h3,h4'⟩:=ok
  delta Ln.pv
  refine⟨qZ mx rfl,wX (v:=pG kk) rfl ⟨kk,x,aa,tt,rr,cc,A,τ,R,N,bs,ns,rfl,h1,sf,mtn,mct,hc,hs,hS,hR,fun C1 m1 sf1 x1=>?_⟩⟩;have mtn1:=x1 _ _ nta mtn;have R1:=dB (τ:=τ) (fZ hS.a) h1 hR;obtain⟨dx1,mx1⟩:=sf1.ins;refine iZ (wX gX (qX (dQ _ _) (rX (by decide) ?_)))
  apply sQ
  try dsimp only
  refine yQ (i:=5) ⟨qZ mx1 rfl,wX (v:=.tup (g.map vW)) rfl ⟨g,x,aa,tt,rr,A,τ,_,bs,ns,rfl,fun y hy=>⟨(h3 y hy).1.mono (by decide),(h3 y hy).2⟩,h4',sf1,mtn1,hS,R1,fun C2 p p0 m2 sf2 x2=>?_⟩⟩;refine cH m2 (by delta aX;rw[AB];lia) fun p2 p20=>?_;refine mJ xQ (iZ (wX gX (qX (dQ _ _) (jJ (by decide) ?_))));refine wX (v:=.str n) rfl ⟨y0 4 rfl,?_⟩;have npc:cc≠p2:=fun z=>by have:=x2 _ _ nca m1;rw[z,p20] at this;cases this
  have:=q (uQ C2 p2 (.lst ((xG (aX A τ g)).map yZ))) (by rw[wQ npc];exact x2 _ _ nca m1) (sf2.new p20 _) (by
   intro b o hb hbo;have h2:=(x1.trans (yL x2)) b o hb hbo;rw[wQ (fun z=>by rw[z,p20] at h2;cases h2)]
   exact h2)
  unfold rM Wt.pv at this;exact this
 |plain kk tag ss hs' ls =>
  obtain⟨h1,h2,h3,h4',h5⟩:=ok;unfold Ln.pv;generalize hl0:PV.tup [PV.str "plain",pG kk,PV.str tag,PV.tup (List.map vW ss),PV.tup (List.map Hd.pv hs'),PV.tup (Ln.pvs ls)]=lp
  have ilp:∀(i:Int)(v:PV)(C':CH)(Q':K1),atI [PV.str "plain",pG kk,PV.str tag,PV.tup (List.map vW ss),PV.tup (List.map Hd.pv hs'),PV.tup (Ln.pvs ls)] i=some v->Q' v C'->cIx lp (.int i) C' Q':=by
   intro i v C' Q' e h;rw[<- hl0];exact wX e h
  refine⟨qZ mx rfl,ilp 1 (pG kk) _ _ rfl ⟨kk,x,aa,tt,rr,cc,A,τ,R,N,bs,ns,rfl,h1,sf,mtn,mct,hc,hs,hS,hR,fun C1 m1 sf1 x1=>?_⟩⟩;have mtn1:=x1 _ _ nta mtn;have R1:=dB (τ:=τ) (fZ hS.a) h1 hR;obtain⟨dx1,mx1⟩:=sf1.ins;refine iZ (ilp 0 (.str "plain") _ _ rfl (qX (dQ _ _) (rX (by decide) ?_)))
  apply sQ
  try dsimp only
  refine yQ (i:=5) ⟨qZ mx1 rfl,ilp 3 (.tup (ss.map vW)) _ _ rfl ⟨ss,x,aa,tt,rr,A,τ,_,bs,ns,rfl,h2.1,h2.2,sf1,mtn1,hS,R1,fun C2 p p0 m2 sf2 x2=>?_⟩⟩;have hl2:=h2.2;refine cH m2 (by unfold aX;rw[AB];lia) fun p2 p20=>?_
  apply mJ xQ
  refine iZ (ilp 0 (.str "plain") _ _ rfl (qX (dQ _ _) (rX (by decide) ?_)))
  apply sQ
  try dsimp only
  have R2:=dZ (τ:=τ) (fZ hS.a) h2.1 R1;have mct2:=x2 _ _ nca m1;have mtn2:=x2 _ _ nta' mtn1;have x12:=x1.trans (yL (cc:=cc) x2);have sf3:=sf2.new p20 (.lst ((xG (aX A τ ss)).map yZ));have mct3:(uQ C2 p2 (.lst ((xG (aX A τ ss)).map yZ))) cc=some (.dK (yV N (iV A τ kk))):=Gr.new p20 _ _ _ mct2;have mtn3:(uQ C2 p2 (.lst ((xG (aX A τ ss)).map yZ))) tt=some (.dK τ):=Gr.new p20 _ _ _ mtn2;have x3:ExS [rr,cc] C (uQ C2 p2 (.lst ((xG (aX A τ ss)).map yZ))):=fun b o hb hbo=>Gr.new p20 _ _ _ (x12 b o hb hbo)
  generalize uQ C2 p2 (.lst ((xG (aX A τ ss)).map yZ))=C3 at sf3 mct3 mtn3 x3 ⊢;refine yQ (i:=6) (ilp 4 (.tup (hs'.map Hd.pv)) _ _ rfl (rW (fun zs acc C4=>∃ds es:List Hd,hs'=ds++es/\zs=es.map Hd.pv/\acc=(lZ A τ ds).map HdV.pv/\Sf a C4 x aa rr A (xZ A τ ds (jZ A τ ss (eK A τ kk R)))/\ExS [rr] C3 C4) ?_ ?_ _ _ _ ⟨[],hs',rfl,rfl,rfl,sf3,ExS.refl⟩))
  .rintro z zs acc C4 ⟨ds,es,e1,e2,rfl,sf4,x4⟩ L hL
   cases es with
   |nil=>cases e2
   |cons u es =>
    obtain⟨rfl,rfl⟩:=BQ e2;obtain⟨dx4,mx4⟩:=sf4.ins;refine⟨qZ mx4 rfl,⟨u,x,aa,tt,rr,A,τ,_,bs,ns,rfl,h3.1 u (by rw[e1];exact AR _ AF),sf4,x4 _ _ nta' mtn3,hS,iK (fZ hS.a) (fun y hy=>h3.1 y (by rw[e1];exact Aq _ hy)) R2,fun C5 sf5 x5=>?_⟩⟩;refine hL _ _ ⟨?_,ds++[u],es,by rw[e1,Aj];rfl,rfl,by unfold lZ;rw[Ab,Ab];rfl,?_,x4.trans x5⟩
    .rw [AB]
     unfold lZ;rw[AB];have hl:=h3.2;have:ds.length<=4:=by rw[e1,AL] at hl;lia
     exact A3 this (by decide)
    .unfold xZ at sf5 ⊢
     rw[BZ];exact sf5
  .rintro acc C4 ⟨ds,es,e1,e2,rfl,sf4,x4⟩ p4 p40
   cases es with
   |cons _ _=>cases e2
   |nil =>
    rw[Al] at e1;subst e1
    apply mJ xQ
    have sf5:=sf4.new p40 (.lst ((lZ A τ hs').map HdV.pv));have mct5:(uQ C4 p4 (.lst ((lZ A τ hs').map HdV.pv))) cc=some (.dK (yV N (iV A τ kk))):=Gr.new p40 _ _ _ (x4 _ _ nca mct3);have mtn5:(uQ C4 p4 (.lst ((lZ A τ hs').map HdV.pv))) tt=some (.dK τ):=Gr.new p40 _ _ _ (x4 _ _ nta' mtn3);have x5:ExS [rr,cc] C (uQ C4 p4 (.lst ((lZ A τ hs').map HdV.pv))):=fun b o hb hbo=>Gr.new p40 _ _ _ ((yL (cc:=cc) x4) b o hb (x3 b o hb hbo))
    generalize uQ C4 p4 (.lst ((lZ A τ hs').map HdV.pv))=C5 at sf5 mct5 mtn5 x5 ⊢;obtain⟨dx5,mx5⟩:=sf5.ins;refine ilp 2 (.str tag) _ _ rfl ⟨qZ mx5 rfl,ilp 5 (.tup (Ln.pvs ls)) _ _ rfl ?_⟩;have htw':1+Ln.tws ls<=400:=htw;refine⟨d,rfl,ls,x,aa,tt,rr,A,τ,_,bs,rs,ns,rfl,h4',by lia,by lia,sf5,mtn5,hS,iK (fZ hS.a) h3.1 R2,fun C6 sf6 x6=>?_⟩;refine⟨y0 6 rfl,?_⟩;have:=q C6 (x6 _ _ nca mct5) sf6 (x5.trans (yL x6))
    unfold rM Wt.pv at this;exact this
end
theorem TBd.put(h:TBd τ)k(hi:Bd i):TBd (vZ τ k (.int i)):=by
 intro kv hk
 delta vZ at hk
 split at hk
 .obtain ⟨x,hx,rfl⟩:=AU.1 hk
  split
  .lia
  .exact h x hx
 .rcases AV.1 hk with hk | hk
  .exact h kv hk
  .grind
inductive Zi(a:Adr)(d:Nat)(ts:List PV)(C:CH)(Q:K1):Prop
 |mk(n:Str)(rk:Rk)(l1:List Ln)(x aa tt rr ff cc:Addr)(A:Rds)(τ:Tns)(st:DSt)(bs rs ns:List Str)(z0:ts=[.ref x,(Ln.each n rk l1).pv,.ref tt,.ref ff,.ref cc])(z1:LnOk bs rs d ns (.each n rk l1))(z2:st.1.length+(Ln.each n rk l1).tw<=400)(z3:st.2.1.length+(Ln.each n rk l1).tw<=400)(z4:τ.length+d<=50)(z5:S6 a C x aa rr tt ff cc A τ st)(z6:uW A τ bs ns)(z7:RdOk bs st.2.2)(z8:CInts st.2.1)(z9:∀C',S6 a C' x aa rr tt ff cc A τ (bX A (.each n rk l1) τ st)->ExS [ff,cc,rr] C C'->Q .non C'):Zi a d ts C Q
section
variable {W:Wd}{a:Adr}
def Wm(T:Tx W a)(d k:Nat)(h7:7<=k)(yK:Ok W a k 45 ["self","lines","turns","row","counts"] (gBrL a d)):Ok W a (k+1) 46 ["self","line","turns","row","counts"] (Zi a d):=by
 have S:=(T.F 46 rfl).s;have uX:=(fB T 2).mono (show 6<=k by lia)
 refine(T.F 46 rfl).ok (fun ts C R h=>?_) fun cdv A outer s H E hr=>⟨_,(jQ (cs1 5 S.nd (nQ (aB rfl) oP rfl T.ZE rfl (qQ (mW (v:=.int 8) (t:=.int 8) rfl T.QH ⟨_,rfl⟩ (fun _=>.int _)) (ca1 (cm T.kX (T.F 42 rfl) T.tX uX hr (cv 0) (qQ (cx (cv 1) zQ) (ca1 (cv 2))))))))
  (vQ (oB PassesOwn.never rfl rfl T.rV (ca1 (cv 5)) (cg1 6 S.nd) (jQ (cs1 7 S.nd (bJ bC lT rfl T.kH rfl (ca1 (cv 2))))
  (jQ (mK (yX hr) (cv 7) (cx (cv 1) zQ) (cv 6))
  (vQ (vJ (cm T.kX (T.F 45 rfl) T.tX yK hr (cv 0) (qQ (cx (cv 1) zQ) (qQ (cv 7) (qQ (cv 3) (ca1 (cv 4))))))))))))),?_⟩
 .obtain ⟨_,_,_,_,_,_,_,_,_,_,_,_,_,_,_,rfl,_⟩:=h;rfl
 rintro ts C Q ⟨n,rk,l1,x,aa,tt,rr,ff,cc,A,τ,st1,bs,rs,ns,rfl,hu,hF,hN,hτ,s1,hS,R1,C1i,q⟩
 cases d with
 |zero=>exact hu.elim
 |succ d' =>
 obtain⟨ork,o1,_⟩:=hu;have ep:(Ln.each n rk l1).pv=.tup [.str "each",.str n,rk.pv,.tup (Ln.pvs l1)]:=by rw[Ln.pv]
 have etw:(Ln.each n rk l1).tw=8 * Ln.tws l1:=by rw[Ln.tw]
 have hS0:=hS;obtain⟨dx,mx⟩:=s1.sf.ins;refine⟨qZ mx rfl,xJ ep (v:=rk.pv) rfl ⟨rk,x,aa,tt,rr,A,τ,_,bs,ns,rfl,ork.mono (by decide),s1.sf,s1.mt,hS0,R1,fun C2 sf2 e2=>?_⟩⟩
 apply Qq
 have bd:=rY hS0.a hS0.t hS0.h ork;unfold Bd at bd;refine⟨by split<;>lia,by split<;>lia,?_⟩;have R2:=pJ (τ:=τ) (fZ hS.a) ork R1;have s2:=s1.rd e2 sf2;show yG _ _ _ ((List.range (iU (rk.val A τ))).map fun k=>PV.int (k:Nat)) _ _;generalize hcap:iU (rk.val A τ)=n8;have hn8:n8<=8:=by rw[<- hcap];exact wD _
 let f:DSt->Nat->DSt:=fun st k=>cQ A l1 (vZ τ (.inr n) (.int (k:Nat))) st
 let st0:DSt:=(st1.1,st1.2.1,rk.rds A τ st1.2.2)
 refine uJ (fun zs ρ C'=>∃(j:Nat)(x6 x7:Option PV),j<=n8/\zs=((List.range n8).drop j).map (fun k:Nat=>PV.int (k:Nat))/\ρ=[some (.ref x),some (Ln.each n rk l1).pv,some (.ref tt),some (.ref ff),some (.ref cc),some (.int (if rk.val A τ < 8 then rk.val A τ else 8)),x6,x7]/\S6 a C' x aa rr tt ff cc A τ ((List.range j).foldl f st0)/\ExS [ff,cc,rr] C C') ?_ ?_ _ _ _ ⟨0,_,_,Ae _,rfl,rfl,s2,pE e2⟩
 .rintro z zs ρ C3 ⟨j,y9,y10,hj,hz,rfl,s3,e3⟩ L3 hL3
  obtain⟨hjn,rfl,rfl⟩:=sY hz;refine yQ (Jm s3.mt fun ia hia=>iZ (xJ ep (v:=.str n) rfl (mV (k:=.inr n) xQ rfl (by lia) ?_)));have ne1:∀b o,C3 b=some o->b≠ia:=fun b o h z=>by rw[z,hia] at h;cases h
  have g1:=cG (f:=f) (m:=fun st=>st.1.length) (c:=Ln.tws l1) (fun x k=>(cZ A l1 _ x).1) (List.range j) st0;have g2:=cG (f:=f) (m:=fun st=>st.2.1.length) (c:=Ln.tws l1) (fun x k=>(cZ A l1 _ x).2) (List.range j) st0;rw[An] at g1 g2
  have hm:j * Ln.tws l1+Ln.tws l1<=8 * Ln.tws l1:=by
   have:(j+1) * Ln.tws l1<=8 * Ln.tws l1:=Bu _ (by lia);rw[Nat.add_mul,Nat.one_mul] at this;exact this
  have g1:=g1;have g2:=g2;have R3:RdOk bs ((List.range j).foldl f st0).2.2:=iW (P:=fun st:DSt=>RdOk bs st.2.2) (fun x k p=>tZ (fZ hS.a) o1 p) _ _ R2;have N3:CInts ((List.range j).foldl f st0).2.1:=iW (P:=fun st:DSt=>CInts st.2.1) (fun x k p=>gG A l1 _ x p) _ _ C1i;have t3:TBd (vZ τ (.inr n) (.int (j:Nat))):=hS.t.put _ (by delta Bd;lia)
  have hS3:uW A (vZ τ (.inr n) (.int (j:Nat))) bs (n::ns):=⟨hS.a,t3,fun m hm=>by
   rw[yP];split
   .rfl
   .next z=>exact hS.h m ((Af.1 hm).resolve_left fun y=>z (by rw[y])),hS.b⟩
  have hlen:(vZ τ (.inr n) (.int (j:Nat))).length<=τ.length+1:=dU _ _ _;have x4:ExS [ff,cc,rr] C3 (uQ (uQ C3 ia (.dK τ)) ia (.dK (vZ τ (.inr n) (.int (j:Nat))))):=(ExS.refl.put hia _).put hia _;have up:∀b o,C3 b=some o->uQ (uQ C3 ia (.dK τ)) ia (.dK (vZ τ (.inr n) (.int (j:Nat)))) b=some o:=fun b o h=>by rw[wQ (ne1 b o h),wQ (ne1 b o h)];exact h
  have m4:uQ (uQ C3 ia (.dK τ)) ia (.dK (vZ τ (.inr n) (.int (j:Nat)))) ia=some (.dK (vZ τ (.inr n) (.int (j:Nat)))):=xQ;generalize uQ (uQ C3 ia (.dK τ)) ia (.dK (vZ τ (.inr n) (.int (j:Nat))))=C4 at x4 up m4 ⊢;have sf4:Sf a C4 x aa rr A ((List.range j).foldl f st0).2.2:=s3.sf.keep' (S:=[]) (fun b o _ h=>up b o h) CM CM CM;have s4:S6 a C4 x aa rr ia ff cc A (vZ τ (.inr n) (.int (j:Nat))) ((List.range j).foldl f st0):=⟨sf4,m4,up _ _ s3.mf,up _ _ s3.mc,Ne.symm (ne1 _ _ s3.mc)⟩
  obtain⟨dx4,mx4⟩:=sf4.ins;refine⟨qZ mx4 rfl,xJ ep (v:=.tup (Ln.pvs l1)) rfl ⟨d',rfl,l1,x,aa,ia,rr,ff,cc,A,_,_,bs,rs,n::ns,rfl,o1,by lia,by lia,by lia,s4,hS3,R3,N3,fun C5 s5 e5=>?_⟩⟩;refine hL3 _ _ ⟨j+1,_,_,hjn,rfl,rfl,?_,e3.trans (x4.trans e5)⟩;have ef:(List.range (j+1)).foldl f st0=f ((List.range j).foldl f st0) j:=by rw[DY,BZ];rfl
  rw[ef];exact⟨s5.sf,(x4.trans e5) _ _ s3.nt s3.mt,s5.mf,s5.mc,s3.tc⟩
 .rintro ρ C3 ⟨j,y9,y10,hj,hz,rfl,s3,e3⟩
  have ej:j=n8:=by
   rcases Cg j n8 with h | h
   .rw [Az (by rw[An];exact h)] at hz
    cases hz
   .lia
  subst ej;refine q C3 ?_ e3;rw[bX,hcap];exact s3
def Qi(T:Tx W a)(d k:Nat)(h7:7<=k)(yK:Ok W a k 45 ["self","lines","turns","row","counts"] (gBrL a d))(cR:Ok W a k 47 ["self","line","turns","counts"] (WS a d))(kM:Ok W a k 46 ["self","line","turns","row","counts"] (Zi a d)):
  Ok W a (k+1) 45 ["self","lines","turns","row","counts"] (gBr a d):=by
 have S:=(T.F 45 rfl).s;have uX:=(fB T 2).mono (show 6<=k by lia)
 refine(T.F 45 rfl).ok (fun ts C R h=>?_) fun cdv A outer s H E hr=>⟨_,(vQ (oG PassesOwn.never rfl (cv 1) (cg1 5 S.nd) (vQ (rQ (ct2 fX oQ (cx (cv 5) zQ) kQ) (jQ (cs1 6 S.nd (xD (ct2 fX oQ (cm T.kX (T.F 42 rfl) T.tX uX hr (cv 0) (qQ (cx (cv 5) zQ) (ca1 (cv 2)))) zQ) (cx (cv 5) zQ) (cx (cv 5) zQ)))
  (vQ (vJ (cm T.kX (T.F 45 rfl) T.tX yK hr (cv 0) (qQ (cv 6) (qQ (cv 2) (qQ (cv 3) (ca1 (cv 4))))))))) (vQ (rQ (ct2 fX oQ (cx (cv 5) zQ) kQ) (vQ (vJ (cm T.kX (T.F 46 rfl) T.tX kM hr (cv 0) (qQ (cv 5) (qQ (cv 2) (qQ (cv 3) (ca1 (cv 4)))))))) (vQ (vJ (cap (cv 3) (cm T.kX (T.F 47 rfl) T.tX cR hr (cv 0) (qQ (cv 5) (qQ (cv 2) (ca1 (cv 4)))))))))))))),?_⟩
 .obtain ⟨_,_,_,_,_,_,_,_,_,_,_,_,_,rfl,_⟩:=h;rfl
 rintro ts C Q ⟨ls,x,aa,tt,rr,ff,cc,A,τ,st,bs,rs,ns,rfl,ok,hF,hN,hτ,hE,hS,hR,hC,q⟩;refine W2 rfl (uJ (fun zs ρ C'=>∃ds us x5 x6,ls=ds++us/\zs=Ln.pvs us/\ρ=[some (.ref x),some (.tup (Ln.pvs ls)),some (.ref tt),some (.ref ff),some (.ref cc),x5,x6]/\S6 a C' x aa rr tt ff cc A τ (cQ A ds τ st)/\ExS [ff,cc,rr] C C') ?_ ?_ _ _ _ ⟨[],ls,_,_,rfl,rfl,rfl,by rw[uZ];exact hE,ExS.refl⟩)
 .rintro z zs ρ C1 ⟨ds,us,x5,x6,e,hz,rfl,s1,e1⟩ L hL
  cases us with
  |nil=>cases hz
  |cons u us =>
  obtain⟨rfl,rfl⟩:=BQ hz;have hu:=ok u (e▸AR _ AF);have htw:Ln.tws ls=Ln.tws ds+(u.tw+Ln.tws us):=by rw[e,Ln.tws_app];rfl
  have fN:=cZ A ds τ st;have R1:RdOk bs (cQ A ds τ st).2.2:=tZ (fZ hS.a) (fun x hx=>ok x (e▸Aq _ hx)) hR;have C1i:=gG A ds τ st hC
  have fin:∀C' x5 x6,S6 a C' x aa rr tt ff cc A τ (bX A u τ (cQ A ds τ st))->ExS [ff,cc,rr] C1 C'->L [some (.ref x),some (.tup (Ln.pvs ls)),some (.ref tt),some (.ref ff),some (.ref cc),x5,x6] C':=by
   intro C' y5 y6 h1 h2;refine hL _ _ ⟨ds++[u],us,y5,y6,by rw[Aj];exact e,rfl,rfl,?_,e1.trans h2⟩
   rwa [nM,oX,uZ]
  clear hL;generalize hst:cQ A ds τ st=st1 at s1 fN R1 C1i fin;obtain⟨dx1,mx1⟩:=s1.sf.ins
  by_cases hth:Qy u=true
  .obtain ⟨wd,rest,ep,n1,n2⟩:=th_pv hth
   refine xJ ep gX (qX (dQ _ _) (rX (by rw[n1];rfl) ?_));refine xJ ep gX (qX (dQ _ _) (rX (by rw[n2];rfl) ?_));refine⟨eW s1.mf,⟨qZ mx1 rfl,⟨u,x,aa,tt,rr,cc,A,τ,_,_,bs,rs,ns,rfl,hth,hu,by lia,hτ,s1.sf,s1.mt,s1.mc,s1.tc,C1i,by have:=fN.2;lia,hS,R1,fun C2 m2 sf2 x2=>?_⟩⟩⟩
   have nf:ff∉[rr,cc]:=fun z=>by
    simp only[List.mem_cons,List.not_mem_nil,or_false] at z
    rcases z with z | z
    .exact s1.fr z
    .exact s1.fc z
   have mf2:=x2 _ _ nf s1.mf
   apply qP mf2 (by rw[Wt.pvs_len];have:=fN.1;exact A3 (show st1.1.length<=400 by lia) (by decide))
   have eo:=X1 A τ u st1.1 st1.2.1 st1.2.2 hth;have nl:=sf2.nl mf2;refine fin _ _ _ ?_ ((Jh x2).at (by simp) _);rw[show st1=(st1.1,st1.2.1,st1.2.2) from rfl,eo];refine⟨sf2.keep' (ExS.refl.at AF _) (fun z=>nl.1 (AE.1 z)) (fun z=>nl.2.1 (AE.1 z)) (fun z=>nl.2.2 (AE.1 z)),?_,by rw[xQ,Wt.pvs_app];rfl,by exact(wQ (Ne.symm s1.fc))▸m2,s1.tc⟩
   exact(wQ s1.tf)▸(Jh x2) _ _ s1.nt s1.mt
  .cases u with
   |plain k tag s hs ls=>exact absurd rfl hth
   |part k n g=>exact absurd rfl hth
   |give k n r ls=>exact absurd rfl hth
   |when rk l1 l2 =>
    cases d with
    |zero=>exact hu.elim
    |succ d' =>
    obtain⟨ork,⟨o1,_⟩,o2,_⟩:=hu;have ep:(Ln.when rk l1 l2).pv=.tup [.str "when",rk.pv,.tup (Ln.pvs l1),.tup (Ln.pvs l2)]:=by rw[Ln.pv]
    have etw:(Ln.when rk l1 l2).tw=Ln.tws l1+Ln.tws l2:=by rw[Ln.tw]
    refine xJ ep gX (qX (dQ _ _) (jJ rfl (yQ (if_i ⟨qZ mx1 rfl,xJ ep rfl ⟨rk,x,aa,tt,rr,A,τ,_,bs,ns,rfl,ork.mono (by decide),s1.sf,s1.mt,hS,R1,fun C2 sf2 e2=>?_⟩⟩))));have R2:=pJ (τ:=τ) (fZ hS.a) ork R1;have s2:=s1.rd e2 sf2;obtain⟨dx2,mx2⟩:=sf2.ins
    apply qX (dX _ _)
    by_cases h0:rk.val A τ=0
    .refine jJ (Ai h0) (xJ ep rfl ⟨qZ mx2 rfl,⟨d',rfl,l2,x,aa,tt,rr,ff,cc,A,τ,(st1.1,st1.2.1,rk.rds A τ st1.2.2),bs,rs,ns,rfl,o2,by have:=fN.1;lia,by have:=fN.2;lia,by lia,s2,hS,R2,C1i,fun C3 s3 e3=>?_⟩⟩)
     refine fin C3 _ _ ?_ ((pE e2).trans e3)
     rwa [bX,AW h0]
    .refine rX (AQ h0) (xJ ep rfl ⟨qZ mx2 rfl,⟨d',rfl,l1,x,aa,tt,rr,ff,cc,A,τ,(st1.1,st1.2.1,rk.rds A τ st1.2.2),bs,rs,ns,rfl,o1,by have:=fN.1;lia,by have:=fN.2;lia,by lia,s2,hS,R2,C1i,fun C3 s3 e3=>?_⟩⟩)
     refine fin C3 _ _ ?_ ((pE e2).trans e3)
     rwa [bX,AX h0]
   |each n rk l1 =>
    have ep:(Ln.each n rk l1).pv=.tup [.str "each",.str n,rk.pv,.tup (Ln.pvs l1)]:=by rw[Ln.pv]
    refine xJ ep gX (qX (dQ _ _) (rX rfl (xJ ep gX (qX (dQ _ _) (jJ rfl ⟨qZ mx1 rfl,⟨n,rk,l1,x,aa,tt,rr,ff,cc,A,τ,st1,bs,rs,ns,rfl,hu,by have:=fN.1;lia,by have:=fN.2;lia,hτ,s1,hS,R1,C1i,fun C3 s3 e3=>?_⟩⟩)))));exact fin C3 _ _ s3 e3
 .rintro ρ C1 ⟨ds,us,x5,x6,e,hz,rfl,s1,e1⟩
  cases us with
  |cons u us=>cases hz
  |nil =>
   rw[Al] at e;subst e;exact q C1 s1 e1
def ok_br(T:Tx W a)d:Ok W a (3 * d+9) 45 ["self","lines","turns","row","counts"] (gBr a d):=by
 induction d with
 |zero =>
  exact Qi T 0 8 (by decide) (xK fun ts C Q ⟨d',e,_⟩=>by lia) (xK fun ts C Q z=>by obtain⟨l,x,aa,tt,rr,cc,A,τ,R,N,bs,rs,ns,_,_,h,_⟩:=z;exact h) (xK fun ts C Q z=>by obtain⟨n,rk,l1,x,aa,tt,rr,ff,cc,A,τ,st1,bs,rs,ns,_,h,_⟩:=z;exact h)
 |succ d ih =>
  have row:=We T ih
  have e1:WT a (d+1)=gRow a d:=by
   funext ts C Q
   refine propext ⟨fun⟨d'',z,h⟩=>?_,fun h=>⟨d,rfl,h⟩⟩;cases A4 z;exact h
  have e2:gBrL a (d+1)=gBr a d:=by
   funext ts C Q
   refine propext ⟨fun⟨d'',z,h⟩=>?_,fun h=>⟨d,rfl,h⟩⟩;cases A4 z;exact h
  have ea:=Wm T (d+1) (3 * d+9) (Br _ _) (by rwa [e2]);have:=Qi T (d+1) (3 * d+9+1+1) (Br _ _) (e2▸ih.mono (by lia)) (ok_want T (d+1) (3 * d+9+1) (Br _ _) (by rwa [e1])) (ea.mono (Bv _));have e:3 * d+9+1+1+1=3 * (d+1)+9:=by lia
  rwa [e] at this
end
def stOf:Key->Str
 |.inr x=>x
 |_=>""
def ciOf:PV->Int
 |.int i=>i
 |_=>0
def rdC(kv:List Key×PV):List Str×Int:=(kv.1.map stOf,ciOf kv.2)
structure Pc where
 reads:List (List Str×Int)
 row:List Wt
 works:List (Str×Int)
def Pc.pv(x:Pc):PV:=.tup [.tup (x.reads.map aZ),.tup (Wt.pvs x.row),.tup (x.works.map yZ)]
def cU(A:Rds)(x:Pt):Rds:=jZ A [] x.works (cQ A x.ls [] ([],[],[])).2.2
def wZ(A:Rds)(x:Pt):Pc:=⟨jP ((cU A x).map rdC),(cQ A x.ls [] ([],[],[])).1,aX A [] x.works⟩
theorem ZI[DecidableEq κ]:∀{R}{kv:κ×PV},(R.map (·.1)).Nodup->kv∈R->zK R kv.1=some kv.2
 |[],kv,_,m=>nomatch m
 |x::R,kv,nd,m=>by
  rw[A8,BN] at nd;rw[dW]
  rcases Af.1 m with rfl | m
  .lia
  .rw [AX (fun z=>nd.1 (by grind))]
   exact ZI nd.2 m
def WD(h:co ρ C fun x C1=>∃b kvs,x=.ref b/\C1 b=some (.dT kvs)/\Q (.vw b) C1)(mono:∀(Q1 Q2:K1),(∀v C1,Q1 v C1->Q2 v C1)->co ρ C Q1->co ρ C Q2):iP co ρ C Q:=by
 delta iP
 refine mono _ _ ?_ h;rintro v C1 ⟨b,kvs,rfl,m,q⟩;dsimp only
 rwa [m]
def JV(m:C p=some (.dT kvs))(e:tiK kvs=some cs)(h:cs.length < 64)(q:∀p',C p'=none->Q (.ref p') (uQ C p' (.lst ((jP cs).map aZ)))):uD [.vw p] C Q:=by
 delta uD
 dsimp only;rw[m];dsimp only;exact e▸⟨h,q⟩
def W4 Q1 Q2(h:∀v C1,Q1 v C1->Q2 v C1)(q:Zv c f x C Q1):Zv c f x C Q2:=by
 delta Zv at q ⊢
 split at q
 .grind
 .exact q
def qI Q1 Q2(h:∀v C1,Q1 v C1->Q2 v C1)(q:jY i ρ C Q1):jY i ρ C Q2:=by
 delta jY at q ⊢
 split at q
 .exact h _ _ q
 .exact q
theorem ti_rd: ∀{R},(∀k∈R.map (·.1),∃s n,k=qK s n/\mM bs s n)->ABd R->tiK R=some (R.map rdC)
 |[],_,_=>rfl
 |x::R,h1,h2=>by
  refine wY (h1 x.1 AF) fun s n e _=>eQ (h2 x AF) fun i ei _=>?_;have ih:=ti_rd (fun k hk=>h1 k (AK _ hk)) fun kv hk=>h2 kv (AK _ hk);obtain⟨k,v⟩:=x;cases e;cases ei;unfold tiK;rw[ih]
  rfl
section
variable {W:Wd}{a:Adr}
inductive W0(ts:List PV)(C:CH)(Q:K1):Prop
 |mk(x:Pt)(aa:Addr)(A:Rds)(rs:List Str)(cap:Nat)(z0:ts=[x.pv,.ref aa])(z1:PtOk rs cap x)(z2:C aa=some (.dT A))(z3:ABd A)(z4:∀C',Gr C C'->Q (wZ A x).pv C'):W0 ts C Q
def Qh(T:Tx W a):Ok W a 29 9 ["part","answers"] W0:=by
 have S:=(T.F 9 rfl).s;have cD:=(ok_init T).mono (show 1<=27 by decide);have fW:=We T (ok_br T 6);have uV:=(cL T).mono (show 7<=28 by decide)
 refine(T.F 9 rfl).ok (fun ts C R h=>?_) fun cdv A outer s H E hr=>⟨_,(jQ (cs1 2 S.nd (ce_make T.Km cD hr rfl T.tX (T.F 41 rfl).b V8 (ca1 (cv 1))))
  (jQ (cs1 3 S.nd (cm T.kX (T.F 44 rfl) T.tX fW hr (cv 2) (qQ (cx (cv 0) zQ) (ca1 kD))))
  (jQ (cs1 4 S.nd (ctp T.vX (cm T.kX (T.F 43 rfl) T.tX uV hr (cv 2) (qQ (cx (cv 0) zQ) (ca1 kD)))))
  (vQ (gQ (lQ (qQ (ctp T.vX (nQ (jA rfl) (Q8 (gE hr)) rfl T.eM rfl (ca1 (KI (Zt T.kX T.vY (cv 2)))))) (qQ (cv 3) (ca1 (cv 4)))))))))),?_⟩
 .obtain ⟨_,_,_,_,_,rfl,_⟩:=h;rfl
 rintro ts C Q ⟨pt,aa,A,rs,cap,rfl,ok,ha,hA,q⟩;have hS:uW A [] (pt.first.map (·.1)) []:=⟨hA,(fun _ z=>nomatch z),(fun _ z=>nomatch z),by rw[AB];exact ok.fl⟩;have hR0:RdOk (pt.first.map (·.1)) []:=⟨DF,(fun _ z=>nomatch z),(fun _ z=>nomatch z)⟩;intro x dx x0 dx0 ndx;have nax:aa≠x:=fun z=>by rw[z,x0] at ha;cases ha
 refine⟨x,dx,aa,A,rfl,xQ,by rw[wQ nax];exact ha,fun C1 rr rr0 sf1 x1=>⟨rfl,?_⟩⟩
 try dsimp only
 have g1:Gr C C1:=fun b o h=>by
  have:b≠x:=fun z=>by rw[z,x0] at h;cases h
  exact x1 b o (fun z=>this (AE.1 z)) (by rwa [wQ this])
 have rr0':C rr=none:=by
  rwa [wQ (Ne.symm sf1.nx)] at rr0
 have exg:∀{C2 C3:CH},Gr C C2->ExS [rr] C2 C3->Gr C C3:=fun g e b o h=>e b o (fun z=>by rw[AE.1 z,rr0'] at h;cases h) (g b o h);obtain⟨dx1,mx1⟩:=sf1.ins;refine yQ ⟨qZ mx1 rfl,wX rfl ?_⟩;intro p p00;have sf2:=sf1.new p00 (.dK []);have tw:=ok.tw;refine⟨pt.ls,x,aa,p,rr,A,[],[],_,rs,[],rfl,ok.ls,by lia,by decide,sf2,xQ,hS,hR0,fun C3 sf3 x3=>?_⟩;have R3:=tZ (τ:=[]) (st:=([],[],[])) (fZ hA) ok.ls hR0
 have g3:=exg (g1.trans (Gr.new p00 _)) x3;obtain⟨dx3,mx3⟩:=sf3.ins;refine yQ ⟨qZ mx3 rfl,wX rfl ?_⟩;intro p2 p20;have sf4:=sf3.new p20 (.dK []);refine⟨pt.works,x,aa,p2,rr,A,[],_,_,[],rfl,fun y hy=>⟨(ok.wk y hy).1.mono (by decide),(ok.wk y hy).2⟩,ok.wl,sf4,xQ,hS,R3,fun C5 l l0 m5 sf5 x5=>?_⟩;have g5:=exg (g3.trans (Gr.new p20 _)) x5
 apply mJ m5
 obtain⟨dx5,mx5⟩:=sf5.ins;have R5:RdOk (pt.first.map (·.1)) (cU A pt):=dZ (fZ hA) ok.wk R3;have mk5:C5 rr=some (.dT (cU A pt)):=sf5.ask;have hb:=hS.b;refine WD ?_ ?_
 .refine W3 mx5 rfl ⟨rr,cU A pt,rfl,mk5,JV mk5 (ti_rd R5.ks R5.vs) (by rw[AB];have:=R5.len;lia) fun p6 p60=>?_⟩
  refine mJ xQ ⟨y0 3 rfl,?_⟩;exact q _ (g5.trans (Gr.new p60 _))
 .intro Q1 Q2 h q
  exact qI _ _ (fun v C1 q=>W4 _ _ h q) q
end
def sV(h:u r (ρ.set i (some t)) C Q):dCons (Yg i) u (t::r) ρ C Q:=h
def dE(h:Q ρ C):dNil [] ρ C Q:=h
def Z4 cs:(xG cs).length=cs.length:=by
 delta xG
 rw[AB]
 by_cases h:0 < cs.length
 .have:=(jW (Xz cs) cs.length h).length_eq
  rw[this,An]
 .have e:cs.length=0:=by lia
  rw[e,Vv];rfl
def Sa(P:Str×Int->Prop)(cs:List (Str×Int)):Prop:=∀c∈cs,P c
abbrev SNm:=Sa fun c=>Bd c.2/\c.1.length<=8
def Wa(h:c∈xG cs):c∈cs:=by
 obtain⟨i,hi,rfl⟩:=AU.1 h
 have hl:0 < cs.length:=by
  rcases Nat.eq_zero_or_pos cs.length with z | z
  .rw [z,Vv] at hi;cases hi
  .exact z
 have:=(jW (Xz cs) cs.length hl).mem_iff.mp hi;rw[BR] at this;rw[Bl,AO this];exact BW _
def Wt.sp:Wt->List Key
 |.plain s _ _ _ _=>s
 |.part s _ _=>s
 |.give s _ _ _=>s
def kB:Key->Prop
 |.inl none=>True
 |.inl (some i)=>Bd i
 |.inr _=>False
def spB(sp:List Key):Prop:=∃k c,sp=[k,.inl (some c)]/\kB k/\0<=c/\c<=400
theorem spB.l(h:spB sp):sp.length<=2:=by
 obtain⟨k,c,rfl,_⟩:=h;exact AH 2
def HvB(x:HdV):Prop:=x.ev.length<=8/\(0<=x.rank/\x.rank<=9)/\∀c∈x.ch,c.1.length<=8/\c.2.1.length<=8/\Bd c.2.2
def WtOk(rs:List Str):Nat->Wt->Prop
 |0,_=>False
 |_+1,.part sp n g=>spB sp/\n∈rs/\g.length<=4/\SNm g
 |d+1,.give sp n i r=>spB sp/\(Bd i/\n.length<=8)/\(∀x∈r,WtOk rs d x)/\(r.map Wt.sp).Nodup
 |d+1,.plain sp tag ss h r=>spB sp/\(ss.length<=4/\h.length<=4/\(∀x∈h,x.ch.length<=4)/\tag.length<=8/\SNm ss/\∀x∈h,HvB x)/\(∀x∈r,WtOk rs d x)/\(r.map Wt.sp).Nodup
def YH(rs:List Str)(d:Nat)(r:List Wt):Prop:=(∀x∈r,WtOk rs d x)/\(r.map Wt.sp).Nodup
def WtOk.up: ∀{d}{x},WtOk rs d x->WtOk rs (d+1) x:=by
 intro d
 induction d with
 |zero=>intro x h;exact h.elim
 |succ d ih =>
  intro x h
  cases x with
  |plain s t g hs r=>exact⟨h.1,h.2.1,fun y hy=>ih (h.2.2.1 y hy),h.2.2.2⟩
  |part s n g=>exact h
  |give s n i r=>exact⟨h.1,h.2.1,fun y hy=>ih (h.2.2.1 y hy),h.2.2.2⟩
def WtOk.mono(h:WtOk rs d x)(le:d<=e):WtOk rs e x:=by
 induction le with
 |refl=>exact h
 |step _ ih=>exact ih.up
def SpInv(F:List Wt)(N:Tns):Prop:=(F.map Wt.sp).Nodup/\(∀x∈F,∃k c,x.sp=[k,.inl (some c)]/\c < qD N k)/\∀k,0<=qD N k/\qD N k<=F.length
def StOk(rs:List Str)(e:Nat)(st:DSt):Prop:=(∀x∈st.1,WtOk rs e x)/\SpInv st.1 st.2.1
def qU N k k':qD (yV N k) k'=if k'=k then qD N k+1 else qD N k':=by
 show(match iJ (vZ N k (.int (qD N k+1))) k' with | some (.int i)=>i | _=>0)=_;rw[yP]
 by_cases e:k'=k
 .simp_all
 .rw [AX e,AX e];rfl
def SpInv.add(h:SpInv F N)(hx:x.sp=bV N k):SpInv (F++[x]) (yV N k):=by
 refine⟨?_,fun y hy=>?_,fun k'=>?_⟩
 .rw [Ab,List.nodup_append]
  refine⟨h.1,by simp,fun a ha b hb e=>?_⟩;have hb:b=x.sp :=by grind
  obtain⟨y,hy,rfl⟩:=AU.1 ha;refine wY (h.2.1 y hy) fun k' c e1 e2=>?_;rw[hb,hx,e1] at e;injection e with e3 e4
  injection e4 with e5
  injection e5 with e5
  injection e5 with e5
  lia
 .rcases AV.1 hy with hy | hy
  .refine wY (h.2.1 y hy) fun k' c e1 e2=>⟨k',c,e1,?_⟩
   rw[qU]
   split
   .lia
   .exact e2
  .cases AE.1 hy
   exact⟨k,qD N k,hx,by rw[qU,AW rfl];lia⟩
 .rw [qU,AL,AZ]
  have h1:=h.2.2 k;have h2:=h.2.2 k'
  split<;>lia
def Qk(hS:uW A τ bs ns)(h:PrOk bs ns d ps):SNm (xG (aX A τ ps)):=fun c hc=>by
 have:=Wa hc;obtain⟨p,hp,rfl⟩:=AU.1 this;exact⟨rY hS.a hS.t hS.h (h p hp).1,(h p hp).2⟩
def X2(hS:uW A τ bs ns)(h:koOk bs ns k):kB (iV A τ k):=by
 cases k with
 |none=>trivial
 |some r=>exact rY hS.a hS.t hS.h h
theorem rC(h1:∀e,d<=e->∀l ns τ st,LnOk bs rs d ns l->uW A τ bs ns->StOk rs e st->st.1.length+l.tw<=400->StOk rs e (bX A l τ st)):∀e,d<=e->∀ls ns τ st,(∀x∈ls,LnOk bs rs d ns x)->uW A τ bs ns->StOk rs e st->st.1.length+Ln.tws ls<=400->StOk rs e (cQ A ls τ st)
 |e,le,[],ns,τ,st,_,_,h,_=>by rwa [uZ]
 |e,le,l::ls,ns,τ,st,hl,hS,h,hz=>by
  rw[Ln.tws] at hz;have:=(Qv A l τ st).1;exact rC h1 e le ls ns τ _ (fun x hx=>hl x (AK _ hx)) hS (h1 e le l ns τ st (hl l AF) hS h (by lia)) (by lia)
theorem StOk.nil: StOk rs e ([],[],R):=⟨fun _ z=>(nomatch z),DF,(fun _ z=>(nomatch z)),fun _=>⟨BA 0,BA 0⟩⟩
def one_st(hb8:∀s∈bs,s.length<=8):∀d e,d<=e->∀l ns τ st,LnOk bs rs d ns l->uW A τ bs ns->StOk rs e st->st.1.length+l.tw<=400->StOk rs e (bX A l τ st):=by
 intro d
 induction d with
 |zero=>intro e le l ns τ st h;exact h.elim
 |succ d ih =>
  intro e le l ns τ st h hS hst hz;have sb:∀{k},kB k->spB (bV st.2.1 k):=fun {k}hk=>⟨k,_,rfl,hk,(hst.2.2.2 k).1,by have:=(hst.2.2.2 k).2;lia⟩;have br:=rC ih
  have add:∀x k R,WtOk rs (d+1) x->x.sp=bV st.2.1 k->StOk rs e (st.1++[x],yV st.2.1 k,R):=by
   intro x k R hx hsp;refine⟨fun y hy=>?_,hst.2.add hsp⟩
   rcases AV.1 hy with hy | hy
   .exact hst.1 y hy
   .cases AE.1 hy;exact hx.mono le
  cases l with
  |plain k tag s hs ls =>
   refine tN h fun h1 h2 h3 h4 h5=>?_;have b:=br d (AH _) ls ns τ ([],[],xZ A τ hs (jZ A τ s (eK A τ k st.2.2))) h4 hS StOk.nil (by rw[Ln.tw] at hz;show 0+_<=_;lia);refine add _ _ _ ⟨sb (X2 hS h1),⟨?_,?_,fun x hx=>?_,h5.2,Qk hS h2.1,fun x hx=>?_⟩,b.1,b.2.1⟩ rfl
   .rw [Z4];delta aX;rw[AB];exact h2.2
   .delta lZ;rw[AB];exact h3.2
   .obtain ⟨y,hy,rfl⟩:=AU.1 hx
    show(zD A τ y.ch).length<=4
    delta zD
    rw[AB];exact(h3.1 y hy).1
   .obtain ⟨y,hy,rfl⟩:=AU.1 hx
    have o:=h3.1 y hy;refine⟨o.2.2.1,o.2.2.2,fun c hc=>?_⟩;obtain⟨z,hz,rfl⟩:=AU.1 hc;have o:=o.2.1 z hz;exact⟨hb8 _ o.2.1,o.2.2,rY hS.a hS.t hS.h o.1⟩
  |part k n g =>
   refine QQ h fun h1 h2 h3 h4=>?_;refine add _ _ _ ⟨sb (X2 hS h1),h2,?_,Qk hS h3⟩ rfl;rw[Z4]
   delta aX
   rwa [AB]
  |give k n r ls =>
   refine tN h fun h1 h2 h3 h4 h5=>?_;have b:=br d (AH _) ls ns τ ([],[],r.rds A τ (eK A τ k st.2.2)) h4 hS StOk.nil (by rw[Ln.tw] at hz;show 0+_<=_;lia);exact add _ _ _ ⟨sb (X2 hS h1),⟨rY hS.a hS.t hS.h h3,(by decide +kernel:∀s∈(["a","ab","b"]:List Str),s.length<=8) n h2⟩,b.1,b.2.1⟩ rfl
  |when r l1 l2 =>
   obtain⟨h1,⟨h2,h3⟩,h4,h5⟩:=h;rw[bX]
   split
   .exact br e (by lia) l2 ns τ _ h4 hS hst (by rw[Ln.tw] at hz;lia)
   .exact br e (by lia) l1 ns τ _ h2 hS hst (by rw[Ln.tw] at hz;lia)
  |each n r ls =>
   refine QR h fun h1 h2 h3=>?_
   have:∀(l:List Nat),(∀k∈l,k < 8)->∀x:DSt,StOk rs e x->x.1.length+l.length * Ln.tws ls<=400->StOk rs e (l.foldl (fun st k=>cQ A ls (vZ τ (.inr n) (.int (k:Nat))) st) x):=by
    intro l
    induction l with
    |nil=>intro _ x hx _;exact hx
    |cons k l ihl =>
     intro hk x hx hy;rw[AY,Nat.succ_mul] at hy;have k8:=hk k AF;refine ihl (fun j hj=>hk j (AK _ hj)) _ (br e (by lia) ls _ _ x h2 ⟨hS.a,hS.t.put _ (by delta Bd;lia),fun m hm=>?_,hS.b⟩ hx (by lia)) (Aa (Nat.add_le_add_right ((cZ A ls (vZ τ (.inr n) (.int (k:Nat))) x).1) _) (by lia));rw[yP];split
     .rfl
     .next z=>exact hS.h m ((Af.1 hm).resolve_left fun y=>z (by rw[y]))
   have h8:=wD (r.val A τ);refine this _ (fun k hk=>?_) _ hst ?_
   .rw [BR] at hk
    lia
   .rw [An]
    rw[Ln.tw] at hz;have:=Bu (Ln.tws ls) h8
    lia
def row_ok(h:∀x∈ls,LnOk bs rs d ns x)(hS:uW A τ bs ns)(hb8:∀s∈bs,s.length<=8)(hz:Ln.tws ls<=400):YH rs d (cQ A ls τ ([],[],R)).1:=by
 have b:=rC (one_st hb8 d) d (AH _) ls ns τ ([],[],R) h hS StOk.nil (by grind);exact⟨b.1,b.2.1⟩
mutual
def Wt.wc:Wt->Nat
 |.plain _ _ _ _ r=>1+Wt.wcs r
 |.part _ _ _=>1
 |.give _ _ _ r=>1+Wt.wcs r
def Wt.wcs:List Wt->Nat
 |[]=>0
 |x::r=>x.wc+Wt.wcs r
end
def Wt.wcs_app xs ys:Wt.wcs (xs++ys)=Wt.wcs xs+Wt.wcs ys:=by
 induction xs with
 |nil=>show _=0+_;rw[Bt];rfl
 |cons x xs ih=>show x.wc+Wt.wcs (xs++ys)=x.wc+Wt.wcs xs+Wt.wcs ys;lia
mutual
theorem one_wc(A:Rds):∀(l:Ln)(τ:Tns)(st:DSt),Wt.wcs (bX A l τ st).1<=Wt.wcs st.1+l.tw
 |.when r l1 l2,τ,st=>by
  rw[bX];have h1:=xY A l1 τ (st.1,st.2.1,r.rds A τ st.2.2);have h2:=xY A l2 τ (st.1,st.2.1,r.rds A τ st.2.2);show _<=_+(Ln.tws l1+Ln.tws l2)
  split
  .exact Aa h2 (by show Wt.wcs st.1+_<=_;omega)
  .exact Aa h1 (by show Wt.wcs st.1+_<=_;omega)
 |.each n r ls,τ,st=>by
  rw[bX];have c:=wD (r.val A τ);have f1:=cG (f:=fun st k=>cQ A ls (vZ τ (.inr n) (.int (k:Nat))) st) (m:=fun st=>Wt.wcs st.1) (c:=Ln.tws ls) (fun x k=>xY A ls _ x) (List.range (iU (r.val A τ))) (st.1,st.2.1,r.rds A τ st.2.2);rw[An] at f1;have hm:iU (r.val A τ) * Ln.tws ls<=8 * Ln.tws ls:=Bu _ c;show _<=Wt.wcs st.1+8 * Ln.tws ls;exact Aa f1 (by show Wt.wcs st.1+_<=_;omega)
 |.part k n g,τ,st=>by
  rw[bX];show Wt.wcs (st.1++[_])<=_;rw[Wt.wcs_app];exact AH _
 |.give k n r ls,τ,st=>by
  rw[bX];have h:=xY A ls τ ([],[],r.rds A τ (eK A τ k st.2.2));show Wt.wcs (st.1++[_])<=_;rw[Wt.wcs_app];show Wt.wcs st.1+((1+Wt.wcs _)+0)<=Wt.wcs st.1+(1+Ln.tws ls);have h:Wt.wcs (cQ A ls τ ([],[],r.rds A τ (eK A τ k st.2.2))).1<=0+Ln.tws ls:=h;omega
 |.plain k tag s hs ls,τ,st=>by
  rw[bX];have h:=xY A ls τ ([],[],xZ A τ hs (jZ A τ s (eK A τ k st.2.2)));show Wt.wcs (st.1++[_])<=_;rw[Wt.wcs_app];show Wt.wcs st.1+((1+Wt.wcs _)+0)<=Wt.wcs st.1+(1+Ln.tws ls);have h:Wt.wcs (cQ A ls τ ([],[],xZ A τ hs (jZ A τ s (eK A τ k st.2.2)))).1<=0+Ln.tws ls:=h;omega
theorem xY(A:Rds):∀(ls:List Ln)(τ:Tns)(st:DSt),Wt.wcs (cQ A ls τ st).1<=Wt.wcs st.1+Ln.tws ls
 |[],τ,st=>by rw[uZ];exact BV _ _
 |l::ls,τ,st=>by
  rw[oX];have h1:=one_wc A l τ st;have h2:=xY A ls τ (bX A l τ st);show _<=_+(l.tw+Ln.tws ls);omega
end
def Sub(R R':Rds):Prop:=∀k∈R.map (·.1),k∈R'.map (·.1)
def Sub.refl: Sub R R:=fun _ h=>h
def qJ: iC A bs (Sub R0):=fun R s n _ h k hk=>by
 rw[cW]
 split
 .exact h k hk
 .exact Aq _ (h k hk)
def Ag(A A' R:Rds):Prop:=∀s n,qK s n∈R.map (·.1)->eX A s n=eX A' s n
def Ag.sub(h:Ag A A' R')(s:Sub R R'):Ag A A' R:=fun x n hk=>h x n (s _ hk)
section
variable {A A':Rds}{τ:Tns}{bs ns rs:List Str}
def jS:∀{d}{r:Rk}{R},r.ok bs ns d->Ag A A' (r.rds A τ R)->r.val A τ=r.val A' τ/\r.rds A τ R=r.rds A' τ R:=by
 intro d r
 induction r generalizing d with
 |num i=>intro R _ _;exact⟨rfl,rfl⟩
 |turn n=>intro R _ _;exact⟨rfl,rfl⟩
 |ask s n =>
  intro R _ h
  have e:=h s n (by
   rw[Rk.rds,cW]
   split
   .assumption
   .exact AR _ AF)
  unfold Rk.val Rk.rds;exact e▸⟨rfl,rfl⟩
 |bin w x y ihx ihy =>
  intro R o h
  cases d with
  |zero=>exact o.elim
  |succ d =>
   rw[Rk.rds] at h;obtain⟨x1,x2⟩:=ihx o.2.1 (h.sub (pJ qJ o.2.2 Sub.refl));obtain⟨y1,y2⟩:=ihy o.2.2 h;rw[ Rk.val,Rk.rds,y2,x1,y1,x2];exact⟨rfl,rfl⟩
 |pick x y z ihx ihy ihz =>
  intro R o h
  cases d with
  |zero=>exact o.elim
  |succ d =>
   rw[Rk.rds] at h
   have hx:Ag A A' (x.rds A τ R):=by
    split at h
    .exact h.sub (pJ qJ o.2.2 Sub.refl)
    .exact h.sub (pJ qJ o.2.1 Sub.refl)
   obtain⟨x1,x2⟩:=(ihx o.1 hx);rw[Rk.val,Rk.val,Rk.rds,Rk.rds,<- x1,<- x2]
   split at h
   .next e =>
    obtain⟨y1,y2⟩:=ihz o.2.2 h;rw[AW e,AW e,AW e,AW e];exact⟨y1,y2⟩
   .next e =>
    obtain⟨y1,y2⟩:=ihy o.2.1 h;rw[AX e,AX e,AX e,AX e];exact⟨y1,y2⟩
theorem uP: ∀{ps}{R},PrOk bs ns d ps->Ag A A' (jZ A τ ps R)->aX A τ ps=aX A' τ ps/\jZ A τ ps R=jZ A' τ ps R
 |[],R,_,_=>⟨rfl,rfl⟩
 |c::ps,R,o,h=>by
  have o':PrOk bs ns d ps:=fun x hx=>o x (AK _ hx);have h:Ag A A' (jZ A τ ps (c.2.rds A τ R)):=h;obtain⟨c1,c2⟩:=jS ((o c AF).1) (h.sub (dZ qJ o' Sub.refl));obtain⟨p1,p2⟩:=uP o' h;exact⟨by show(c.1,c.2.val A τ)::aX A τ ps=(c.1,c.2.val A' τ)::aX A' τ ps;rw[c1,p1],by show jZ A τ ps (c.2.rds A τ R)=jZ A' τ ps (c.2.rds A' τ R);rw[p2,c2]⟩
theorem Yq: ∀{cs}{R},(∀c∈cs,c.2.2.ok bs ns d)->Ag A A' (aU A τ cs R)->zD A τ cs=zD A' τ cs/\aU A τ cs R=aU A' τ cs R
 |[],R,_,_=>⟨rfl,rfl⟩
 |c::ps,R,o,h=>by
  have o':∀c∈ps,c.2.2.ok bs ns d:=fun x hx=>o x (AK _ hx);have h:Ag A A' (aU A τ ps (c.2.2.rds A τ R)):=h;obtain⟨c1,c2⟩:=jS (o c AF) (h.sub (jD qJ o' Sub.refl));obtain⟨p1,p2⟩:=Yq o' h;exact⟨by show(c.1,c.2.1,c.2.2.val A τ)::zD A τ ps=(c.1,c.2.1,c.2.2.val A' τ)::zD A' τ ps;rw[c1,p1],by show aU A τ ps (c.2.2.rds A τ R)=aU A' τ ps (c.2.2.rds A' τ R);rw[p2,c2]⟩
theorem QD:∀{hs}{R},(∀h∈hs,h.ok bs ns)->Ag A A' (xZ A τ hs R)->lZ A τ hs=lZ A' τ hs/\xZ A τ hs R=xZ A' τ hs R
 |[],R,_,_=>⟨rfl,rfl⟩
 |c::ps,R,o,h=>by
  have o':∀h∈ps,h.ok bs ns:=fun x hx=>o x (AK _ hx);have h:Ag A A' (xZ A τ ps (aU A τ c.ch R)):=h;obtain⟨c1,c2⟩:=Yq (o c AF).c (h.sub (iK qJ o' Sub.refl));obtain⟨p1,p2⟩:=QD o' h;exact⟨by show iS A τ c::lZ A τ ps=iS A' τ c::lZ A' τ ps;rw[p1];delta iS;rw[c1],by show xZ A τ ps (aU A τ c.ch R)=xZ A' τ ps (aU A' τ c.ch R);rw[p2,c2]⟩
def X3(o:koOk bs ns k)(h:Ag A A' (eK A τ k R)):iV A τ k=iV A' τ k/\eK A τ k R=eK A' τ k R:=by
 cases k with
 |none=>exact⟨rfl,rfl⟩
 |some r =>
  obtain⟨e1,e2⟩:=jS o h;exact⟨by show(Sum.inl (some _):Key)=Sum.inl (some _);rw[e1],e2⟩
end
theorem uL(h1:∀l ns τ st,LnOk bs rs d ns l->Ag A A' (bX A l τ st).2.2->bX A l τ st=bX A' l τ st):∀ls ns τ st,(∀x∈ls,LnOk bs rs d ns x)->Ag A A' (cQ A ls τ st).2.2->cQ A ls τ st=cQ A' ls τ st
 |[],ns,τ,st,_,h=>by rw[uZ,uZ]
 |l::ls,ns,τ,st,hl,h=>by
  rw[oX] at h;rw[oX,oX];have o':∀x∈ls,LnOk bs rs d ns x:=fun x hx=>hl x (AK _ hx);exact(h1 l ns τ st (hl l AF) (h.sub (tZ qJ o' Sub.refl)))▸uL h1 ls ns τ _ o' h
theorem QK(hs:∀x k,Sub x.2.2 (f x k).2.2)(he:∀x k,Ag A A' (f x k).2.2->f x k=g x k):∀(l:List Nat)(x:DSt),Ag A A' (l.foldl f x).2.2->l.foldl f x=l.foldl g x
 |[],_,_=>rfl
 |k::l,x,h=>by
  have:=iW (P:=fun st:DSt=>Sub (f x k).2.2 st.2.2) (fun y j p q hq=>hs y j q (p q hq)) l _ Sub.refl;show l.foldl f (f x k)=l.foldl g (g x k);exact(he x k (h.sub this))▸QK hs he l _ h
def one_ag: ∀d l ns τ st,LnOk bs rs d ns l->Ag A A' (bX A l τ st).2.2->bX A l τ st=bX A' l τ st:=by
 intro d
 induction d with
 |zero=>intro l ns τ st h;exact h.elim
 |succ d ih =>
  intro l ns τ st o h;have br:=uL ih
  cases l with
  |plain k tag s hs ls =>
   obtain⟨h1,h2,h3,h4,h5⟩:=o;have b:=br ls ns τ _ h4 h;have g3:=h.sub (tZ qJ h4 Sub.refl);obtain⟨u3,v3⟩:=QD h3.1 g3;have g2:=g3.sub (iK qJ h3.1 Sub.refl);obtain⟨u2,v2⟩:=uP h2.1 g2;obtain⟨u1,v1⟩:=X3 h1 (g2.sub (dZ qJ h2.1 Sub.refl));rw[bX,bX,b,v3,v2,v1,u3,u2,u1]
  |part k n g =>
   obtain⟨h1,h2,h3,h4⟩:=o;obtain⟨u2,v2⟩:=uP h3 h;obtain⟨u1,v1⟩:=X3 h1 (h.sub (dZ qJ h3 Sub.refl));rw[bX,bX,v2,v1,u2,u1]
  |give k n r ls =>
   obtain⟨h1,h2,h3,h4,h5⟩:=o;have g2:=h.sub (tZ qJ h4 Sub.refl);obtain⟨u2,v2⟩:=jS h3 g2;obtain⟨u1,v1⟩:=X3 h1 (g2.sub (pJ qJ h3 Sub.refl));rw[bX,bX,(br ls ns τ _ h4 h),v2,v1,u2,u1]
  |when r l1 l2 =>
   obtain⟨h1,⟨h2,h3⟩,h4,h5⟩:=o;rw[bX] at h
   have hr:Ag A A' (r.rds A τ st.2.2):=by
    split at h
    .exact h.sub (tZ qJ h4 Sub.refl)
    .exact h.sub (tZ qJ h2 Sub.refl)
   obtain⟨u,v⟩:=jS h1 hr;rw[bX,bX,<- u,<- v]
   split at h
   .next e=>rw[AW e,AW e];exact br l2 ns τ _ h4 h
   .next e=>rw[AX e,AX e];exact br l1 ns τ _ h2 h
  |each n r ls =>
   obtain⟨h1,h2,h3⟩:=o;have hs:∀x k,Sub x.2.2 (cQ A ls (vZ τ (.inr n) (.int (k:Nat))) x).2.2:=fun x k=>tZ qJ h2 Sub.refl;have hr:=h.sub (iW (P:=fun x:DSt=>Sub (r.rds A τ st.2.2) x.2.2) (fun y j p q hq=>hs y j q (p q hq)) _ _ Sub.refl);obtain⟨u,v⟩:=jS h1 hr;rw[bX,bX,<- u,<- v];exact QK hs (fun x k hx=>br ls _ _ x h2 hx) _ _ h
def V6{cap}(ok:PtOk rs cap x)(h:Ag A A' (cU A x)):wZ A x=wZ A' x/\cU A x=cU A' x:=by
 obtain⟨u,v⟩:=(uP ok.wk h);have b:=uL (one_ag 6) x.ls [] [] ([],[],[]) ok.ls (h.sub (dZ qJ ok.wk Sub.refl));have e:cU A x=cU A' x:=by delta cU;rw[v,b]
 delta wZ
 exact e▸u▸b▸⟨rfl,rfl⟩
def lext_s(m1:C p=some (.lst xs))(m2:C r=some (.lst ys))(h:xs.length+ys.length<=sizeLine)(q:Q .non (uQ C p (.lst (xs++ys)))):zH (.ref p) [.ref r] C Q:=by
 delta zH
 dsimp only;exact m1▸m2▸⟨h,q⟩
inductive Th(C:CH):PV->Prop
 |non:Th C .non
 |bl (b:Bool):Th C (.bl b)
 |int (i:Int):Th C (.int i)
 |str (z:Str):Th C (.str z)
 |tup {ts:List PV} (h:∀t∈ts,Th C t):Th C (.tup ts)
 |lst {a:Addr} (h:tyP C (.ref a)=some .lst):Th C (.ref a)
 |dct {a:Addr} (h:tyP C (.ref a)=some .dct):Th C (.ref a)
abbrev Pn:PV->Prop:=Th fun _=>none
def lD(h:tyP C x=some n)(g:Gr C C'):tyP C' x=some n:=by
 cases x with
 |ref a =>
  delta tyP at h ⊢
  dsimp only at h ⊢
  split at h
  .next e=>rwa [g a _ e]
  .next e=>rwa [g a _ e]
  .cases h
 |_=>exact h
def Th.gr(h:Th C x)(g:Gr C C'):Th C' x:=by
 induction h with
 |non=>exact .non
 |bl b=>exact .bl b
 |int i=>exact .int i
 |str z=>exact .str z
 |tup _ ih=>exact .tup ih
 |lst h=>exact .lst (lD h g)
 |dct h=>exact .dct (lD h g)
def Pn.th(h:Pn x):Th C x:=h.gr fun _ _ z=>nomatch z
def kn:Ty->Str
 |.bl=>"truth"
 |.int=>"number"
 |.str=>"text"
 |.tup=>"tuple"
 |.lst=>"list"
 |.dct=>"dict"
 |_=>"none"
def Th.ty(h:Th C x):∃n,tyP C x=some n:=by
 cases h with
 |lst h=>exact⟨_,h⟩
 |dct h=>exact⟨_,h⟩
 |_=>exact⟨_,rfl⟩
def Th.cmp(hx:Th C x)(hy:Pn y)(hn:tyP C x=some n)(hm:tyP C y=some m):(kn n≠kn m/\x≠y)\/(n=.tup/\m=.tup/\∃xs ys,x=.tup xs/\y=.tup ys/\(∀t∈xs,Th C t)/\∀t∈ys,Pn t)\/∃b,kn n=kn m/\kn n ≠ "tuple"/\kn n ≠ "list"/\kn n ≠ "dict"/\sEq x y=some b/\(b=true↔x=y):=by
 cases hy with
 |lst h=>cases h
 |dct h=>cases h
 |tup h =>
  cases hm
  cases hx with
  |tup h'=>cases hn;exact .inr (.inl ⟨rfl,rfl,_,_,rfl,rfl,h',h⟩)
  |lst h'=>rw[h'] at hn;cases hn;exact .inl ⟨by decide,nofun⟩
  |dct h'=>rw[h'] at hn;cases hn;exact .inl ⟨by decide,nofun⟩
  |_=>cases hn;exact .inl ⟨by decide,nofun⟩
 |_ =>
  cases hm
  cases hx with
  |lst h'=>rw[h'] at hn;cases hn;exact .inl ⟨by decide,nofun⟩
  |dct h'=>rw[h'] at hn;cases hn;exact .inl ⟨by decide,nofun⟩
  |_=>cases hn;first | exact .inl ⟨by decide,nofun⟩ | exact .inr (.inr ⟨_,rfl,by decide,by decide,by decide,rfl,by simp⟩)
mutual
def pw:PV->Nat
 |.tup ts=>1+pws ts
 |_=>1
def pws:List PV->Nat
 |[]=>0
 |t::ts=>pw t+pws ts
end
def pw_pos t:1<=pw t:=by
 cases t<;>(unfold pw;lia)
def prP(z:PV×PV):PV:=.tup [z.1,z.2]
def zw(zs:List (PV×PV)):Nat:=pws (zs.map (·.2))
def pws_app xs ys:pws (xs++ys)=pws xs+pws ys:=by
 induction xs with
 |nil=>rw[Cu,pws,Bt]
 |cons x xs ih=>rw[Cp,pws,pws,ih];lia
def gO xs:xs.length<=pws xs:=by
 induction xs with
 |nil=>exact Ae _
 |cons x xs ih=>rw[pws,AY];have:=pw_pos x;lia
theorem ZD:∀xs ys,List.zipWith (fun a b=>PV.tup [a,b]) xs ys=(xs.zip ys).map prP
 |[],_=>rfl
 |_::_,[]=>rfl
 |x::xs,y::ys=>by rw[List.zipWith_cons_cons,ZD xs ys];rfl
theorem Vb:∀{xs ys:List PV},xs.length=ys.length->(xs=ys↔∀z∈xs.zip ys,z.1=z.2)
 |[],[],_=>⟨fun _ _ z=>(nomatch z),fun _=>rfl⟩
 |x::xs,y::ys,h=>by
  have ih:=Vb (A4 h);refine⟨fun e z hz=>?_,fun hz=>?_⟩
  .injection e with e1 e2
   rcases Af.1 hz with rfl | hz
   .exact e1
   .exact ih.1 e2 z hz
  .rw [(show x=y from hz (x,y) AF),ih.2 fun z h=>hz z (AK _ h)]
section
variable {W:Wd}{a:Adr}
inductive gKo(ts:List PV)(C:CH)(Q:K1):Prop
 |mk x n(z0:ts=[x])(z1:tyP C x=some n)(z2:Q (.str (kn n)) C):gKo ts C Q
def XN(T:Tx W a):Ok W a 1 6 ["thing"] gKo:=by
 have S:=(T.F 6 rfl).s
 refine(T.F 6 rfl).ok (fun ts C R h=>?_) fun cdv A outer s H E hr=>⟨_,(jQ (rQ (hZ (nQ jX nZ rfl T.iQ rfl (qQ (cv 0) (ca1 (gV rfl T.Xo rfl))))) (vQ (gQ kQ)) pQ)
  (jQ (rQ (hZ (nQ jX nZ rfl T.iQ rfl (qQ (cv 0) (ca1 (gV rfl T.aM rfl))))) (vQ (gQ kQ)) pQ)
  (jQ (rQ (hZ (nQ jX nZ rfl T.iQ rfl (qQ (cv 0) (ca1 (gV rfl T.Vc rfl))))) (vQ (gQ kQ)) pQ)
  (jQ (rQ (hZ (nQ jX nZ rfl T.iQ rfl (qQ (cv 0) (ca1 (gV rfl T.vX rfl))))) (vQ (gQ kQ)) pQ)
  (jQ (rQ (hZ (nQ jX nZ rfl T.iQ rfl (qQ (cv 0) (ca1 (gV rfl T.Xn rfl))))) (vQ (gQ kQ)) pQ)
  (jQ (rQ (hZ (nQ jX nZ rfl T.iQ rfl (qQ (cv 0) (ca1 (gV rfl T.kH rfl))))) (vQ (gQ kQ)) pQ)
  (vQ (gQ kQ)))))))),?_⟩
 .obtain ⟨_,_,rfl,_⟩:=h;rfl
 rintro ts C R ⟨x,n,rfl,hx,q⟩;cases n<;>repeat (first | exact q | exact zZ rfl hx (jJ rfl q) | (refine zZ rfl hx (rX rfl (sQ ?_))))
inductive gPw(ts:List PV)(C:CH)(Q:K1):Prop
 |mk x y C0(z0:ts=[x,y])(z1:Gr C0 C)(z2:Th C0 x)(z3:Pn y)(z4:pw y<=1000000)(z5:(x≠y->∀C',Gr C C'->Q .non C'))(z6:∀(zs:List (PV×PV))p C',(x=y↔∀z∈zs,z.1=z.2)->(∀z∈zs,Th C0 z.1/\Pn z.2)->zw zs+1=pw y->C p=none->C' p=some (.lst (zs.map prP))->Gr C C'->Q (.ref p) C'):gPw ts C Q
def ok_pw(T:Tx W a):Ok W a 2 4 ["one","other"] gPw:=by
 have jO:=XN T
 refine(T.F 4 rfl).ok (fun ts C R h=>?_) fun cdv A outer s H E hr=>⟨_,(jQ (cs1 2 ((T.F 4 rfl).s).nd (cf (T.F 6 rfl) jO hr (ca1 (cv 0))))
  (jQ (rQ (ct2 bF tG (cv 2) (cf (T.F 6 rfl) jO hr (ca1 (cv 1)))) (vQ (gQ vV)) pQ)
  (jQ (rQ (cw_pt (cw_or (ct2 fX oQ (cv 2) kQ) (cw_or1 (ct2 fX oQ (cv 2) kQ)))) (vQ (gQ (xD (ct2 fX oQ (cln T.yJ (cv 0)) (cln T.yJ (cv 1))) (Zs rfl T.Xn T.z_zip (cv 0) (cv 1)) vV))) pQ)
  (jQ (rQ (ct2 fX oQ (cv 2) kQ) (vQ (gQ (cf (T.F 5 rfl) (xK fun _ _ _ z=>z) hr (qQ (cv 0) (ca1 (cv 1)))))) pQ)
  (vQ (gQ (xD (ct2 fX oQ (cv 0) (cv 1)) (zX sJ) vV))))))),?_⟩
 .obtain ⟨_,_,_,rfl,_⟩:=h;rfl
 rintro ts C R ⟨x,y,C0,rfl,g0,hx,hy,hw,qn,q⟩;obtain⟨n,hn0⟩:=hx.ty;obtain⟨m,hm0⟩:=(hy.th).ty;refine yQ ⟨x,n,rfl,(lD hn0 g0),⟨y,m,rfl,(lD hm0 g0),qX (dQ _ _) ?_⟩⟩
 rcases hx.cmp hy hn0 hm0 with ⟨h1,h2⟩ | ⟨rfl,rfl,xs,ys,rfl,rfl,hxs,hys⟩ | ⟨b,h1,h2,h3,h4,h5,h6⟩
 .exact jJ (by rw[AQ h1];rfl) (qn h2 C Gr.refl)
 .refine rX rfl (sQ (qX (dQ _ _) (jJ rfl (WM rfl (wU (wU (qX (dX _ _) (bZ (fun hl=>?_) fun hl=>?_))))))))
  .have hl:xs.length=ys.length :=by simp_all;lia
   refine zip_s hl fun p hp=>?_;rw[ZD];refine q (xs.zip ys) p _ (PV.tup.injEq .. ▸ Vb hl) (fun z hz=>?_) ?_ hp xQ (Gr.new hp _)
   .exact ⟨hxs _ (Ct hz).1,hys _ (Ct hz).2⟩
   .delta zw
    rw[List.map_snd_zip (by lia),pw]
    lia
  .exact qn (fun e=>by cases e;rw[Ai rfl] at hl;cases hl) C Gr.refl
 .refine rX (by rw[Ai h1];rfl) (sQ ?_)
  refine qX (dQ _ _) (rX (AQ h2) (qX (dQ _ _) (rX (AQ h3) (sQ (qX (dQ _ _) (rX (AQ h4) (sQ (qX h5 (bZ (fun hb=>?_) fun hb=>?_)))))))))
  .refine ⟨by decide,fun p hp=>?_⟩
   refine q [] p _ ⟨fun _ _ z=>(nomatch z),fun _=>h6.1 hb⟩ (fun _ z=>nomatch z) ?_ hp xQ (Gr.new hp _);have:pw y=1:=by cases y<;>first | rfl | (cases x<;>cases h5)
   rw[this]
   rfl
  .exact qn (fun e=>by rw[h6.2 e] at hb;cases hb) C Gr.refl
inductive gAk(ts:List PV)(C:CH)(Q:K1):Prop
 |mk x y(z0:ts=[x,y])(z1:Th C x)(z2:Pn y)(z3:pw y<=1000000)(z4:∀b C',(b=true↔x=y)->Gr C C'->Q (.bl b) C'):gAk ts C Q
def Wn(T:Tx W a):Ok W a 3 3 ["one","other"] gAk:=by
 have S:=(T.F 3 rfl).s;have qR:=ok_pw T
 refine(T.F 3 rfl).ok (fun ts C R h=>?_) fun cdv A outer s H E hr=>⟨_,(jQ (cs1 2 S.nd (zX (ca1 (lQ (qQ (cv 0) (ca1 (cv 1)))))))
  (jQ (Yj PassesOwn.never (ct_tru (cv 2)) (jQ (cs1 3 S.nd (Yw BY PySem.F.slot_list_pop PySem.F.type_list_pop mt_pop cmt_pop (cv 2)))
  (jQ (cs1 4 S.nd (cf (T.F 4 rfl) qR hr (qQ (cx (cv 3) zQ) (ca1 (cx (cv 3) zQ)))))
  (jQ (rQ (ct2 XJ nE (cv 4) vV) (vQ (gQ tJ)) pQ)
  (vQ (vJ (Jw BY PySem.F.slot_list_extend PySem.F.type_list_extend (fun p s σ H x vs v us Q=>Kl p s σ H x vs v us Q) Zp (cv 2) (ca1 (cv 4)))))))))
  (vQ (gQ tJ)))),?_⟩
 .obtain ⟨_,_,rfl,_⟩:=h;rfl
 rintro ts C R ⟨x,y,rfl,hx,hy,hw,q⟩;refine yQ ⟨y0 2 rfl,?_⟩;refine⟨y0 1 rfl,fun p hp=>?_⟩;refine⟨pw y+1,?_⟩;have big:(1000000:Nat)<=sizeLine:=by decide
 refine ZH (fun n ρ C'=>∃zs x3 x4,n=zw zs/\ρ=[some x,some y,some (.ref p),x3,x4]/\(x=y↔∀z∈zs,z.1=z.2)/\(∀z∈zs,Th C z.1/\Pn z.2)/\zw zs<=1000000/\C' p=some (.lst (zs.map prP))/\Gr C C') ?_ _ (pw y) _ _ (Bw _) ⟨[(x,y)],none,none,(Nat.add_zero _).symm,rfl,⟨fun e z hz=>by cases AE.1 hz;exact e,fun h=>h _ AF⟩,fun z hz=>by cases AE.1 hz;exact⟨hx,hy⟩,hw,xQ,Gr.new hp _⟩
 rintro n ρ C1 L ⟨zs,x3,x4,rfl,rfl,hi,hth,hle,mp,g⟩ hL;refine tru_i ?_ ?_
 .refine ⟨p,zs.map prP,rfl,mp,?_⟩
  rcases List.eq_nil_or_concat zs with rfl | ⟨ws,z,rfl⟩
  .exact q true C1 ⟨fun _=>hi.2 fun _ z=>(nomatch z),fun _=>rfl⟩ g
  .rw [List.concat_eq_append] at mp hi hth hle hL ⊢
   obtain⟨t1,t2⟩:=hth z (AR _ AF);have ez:zw (ws++[z])=zw ws+pw z.2:=by delta zw;rw[Ab,pws_app];rfl
   apply WM (by simp)
   refine yQ ⟨eW mp,pop_s mp (y:=prP z) (by simp) ?_⟩;rw[Ab,List.map_singleton,List.dropLast_concat];have g2:Gr C (uQ C1 p (.lst (ws.map prP))):=WO g hp _;have m2:uQ C1 p (.lst (ws.map prP)) p=some (.lst (ws.map prP)):=xQ;refine yQ (wX rfl (wX rfl ⟨z.1,z.2,C,rfl,g2,t1,t2,by lia,fun ne C3 g3=>?_,fun zs' r C3 h1 h2 h3 hr m3 g3=>?_⟩))
   .exact q false C3 ⟨(fun h=>nomatch h),fun e=>absurd (hi.1 e z (AR _ AF)) ne⟩ (g2.trans g3)
   .refine sQ ⟨eW (g3 _ _ m2),?_⟩
    have hl1:ws.length<=zw ws:=by have:=gO (ws.map (·.2));rwa [AB] at this
    have hl2:zs'.length<=zw zs':=by have:=gO (zs'.map (·.2));rwa [AB] at this
    apply lext_s (g3 _ _ m2) m3 (by rw[AB,AB];lia)
    have ez':zw (ws++zs')=zw ws+zw zs':=by delta zw;rw[Ab,pws_app]
    refine hL (zw (ws++zs')) _ _ (by lia) ⟨ws++zs',_,_,rfl,rfl,?_,fun u hu=>?_,by lia,by rw[xQ,Ab],WO (g2.trans g3) hp _⟩
    .rw [hi]
     refine⟨fun h u hu=>?_,fun h u hu=>?_⟩
     .grind
     .rcases AV.1 hu with hu | hu
      .exact h u (Aq _ hu)
      .cases AE.1 hu
       exact h1.2 fun v hv=>h v (AR _ hv)
    .rcases AV.1 hu with hu | hu
     .exact hth u (Aq _ hu)
     .exact h2 u hu
 .intro Q1 Q2 h q
  exact qI _ _ h q
end
def X8:PV->Bool
 |.int i=>decide (-1000000000<=i)&&decide (i<=1000000000)
 |_=>false
def X9:PV->Bool
 |.str z=>cM z
 |_=>false
section
variable {W:Wd}{a:Adr}
inductive gNu(ts:List PV)(C:CH)(Q:K1):Prop
 |mk x(z0:ts=[x])(z1:Th C x)(z2:Q (.bl (X8 x)) C):gNu ts C Q
def qE(T:Tx W a):Ok W a 1 0 ["thing"] gNu:=by
 have S:=(T.F 0 rfl).s
 refine(T.F 0 rfl).ok (fun ts C R h=>?_) fun cdv A outer s H E hr=>⟨_,(jQ (rQ (cw_pt (cw_or (hZ (nQ jX nZ rfl T.iQ rfl (qQ (cv 0) (ca1 (gV rfl T.Xo rfl))))) (cw_or1 (pV (hZ (nQ jX nZ rfl T.iQ rfl (qQ (cv 0) (ca1 (gV rfl T.aM rfl))))))))) (vQ (gQ tJ)) pQ)
  (vQ (gQ (Yv Z6 Z6 rE rE (vC fM nG (mW (v:=.int 1000000000) rfl T.mE ⟨_,rfl⟩ (fun _=>.int _))) (cv 0) (mW (v:=.int 1000000000) rfl T.mE ⟨_,rfl⟩ (fun _=>.int _)))))),?_⟩
 .obtain ⟨_,rfl,_⟩:=h;rfl
 rintro ts C R ⟨x,rfl,hx,q⟩;obtain⟨n,hn⟩:=hx.ty
 cases hx with
 |int i =>
  cases hn;refine zZ rfl rfl (rX rfl (zZ rfl rfl (xP (sQ (i_i (bZ (fun hb=>?_) fun hb=>?_))))))
  .apply i_i
   have e:X8 (.int i)=decide (i<=1000000000):=by show(decide (-1000000000<=i)&&decide (i<=1000000000))=_;rw[hb];rfl
   rwa [e] at q
  .have e:X8 (.int i)=false:=by show(decide (-1000000000<=i)&&decide (i<=1000000000))=_;rw[hb];rfl
   rwa [e] at q
 |bl b=>exact zZ rfl rfl (jJ rfl q)
 |lst h=>exact zZ rfl h (rX rfl (zZ rfl h (aV q)))
 |dct h=>exact zZ rfl h (rX rfl (zZ rfl h (aV q)))
 |_=>exact zZ rfl rfl (rX rfl (zZ rfl rfl (aV q)))
inductive gNa(ts:List PV)(C:CH)(Q:K1):Prop
 |mk x(z0:ts=[x])(z1:Th C x)(z2:(∀z,x=.str z->z.length<=sizeLine))(z3:∀C',Gr C C'->Q (.bl (X9 x)) C'):gNa ts C Q
def XQ(T:Tx W a):Ok W a 1 1 ["thing"] gNa:=by
 have S:=(T.F 1 rfl).s
 refine(T.F 1 rfl).ok (fun ts C R h=>?_) fun cdv A outer s H E hr=>⟨_,(jQ (rQ (cw_pt (cw_or (pV (hZ (nQ jX nZ rfl T.iQ rfl (qQ (cv 0) (ca1 (gV rfl T.Vc rfl)))))) (cw_or1 (pV (Yi Z6 Z6 rE rE zQ (cln T.yJ (cv 0)) (mW (v:=.int 8) rfl T.mR ⟨_,rfl⟩ (fun _=>.int _))))))) (vQ (gQ tJ)) pQ)
  (vQ (gQ (nQ (Xa rfl) Jx rfl T.z_all rfl (ca1 (lY rfl (S.c (by decide +kernel)) (S.k (L:=0) rfl rfl rfl (by decide +kernel)) (ci_str (cv 0)) (fun _ _ _ _ _=>nJ) (fun _ _ _ _ _=>(wV Kb cop_inT (cv 0) (mW (v:=.str "abcdefghijklmnopqrstuvwxyz") rfl T.WX ⟨_,rfl⟩ (fun _=>.str _)) rfl)))))))),?_⟩
 .obtain ⟨_,rfl,_⟩:=h;rfl
 rintro ts C R ⟨x,rfl,hx,hl,q⟩;obtain⟨n,hn⟩:=hx.ty
 cases hx with
 |str z =>
  cases hn;have hz:=hl z rfl;refine zZ rfl rfl (xP (len_z hz ?_));have no:cM z=false->R (.bl false) C:=fun e=>by have:=q C Gr.refl;rwa [show X9 (.str z)=false from e] at this
  refine i_i (bZ (fun h1=>?_) fun h1=>?_)
  .apply i_i
   cases h2:decide (((z.length:Nat):Int)<=8) with
   |false=>exact no (by delta cM;rw[h1,h2];rfl)
   |true =>
    refine xP (sQ (iF (fun s=>match s with | .str u=>.bl (!(Builtin.Str.occurrences ("abcdefghijklmnopqrstuvwxyz" : Str) u 0 ("abcdefghijklmnopqrstuvwxyz" : Str).length 1).isEmpty) | _=>.non) (kF z) [] C Gr.refl ?_ (fun x hx C1 Q' g hq=>?_) fun p C1 h3 g m=>?_))
    .delta kF
     rwa [AB,Be,Bt,A2]
    .obtain ⟨c,_,rfl⟩:=AU.1 hx
     exact inT_s (hq C1 Gr.refl)
    .apply all_s (bs:=z.cps.toList.map Je) (by rw[m];delta kF;rw[BX,BX];rfl)
     have e:X9 (.str z)=(z.cps.toList.map Je).all id:=by
      show((decide ((1:Int)<=(z.length:Nat))&&decide (((z.length:Nat):Int)<=8))&&z.cps.toList.all Je)=_;rw[h1,h2,List.all_map]
      rfl
     exact e▸q C1 g
  .exact no (by delta cM;rw[h1];rfl)
 |lst h=>exact zZ rfl h (aV (q C Gr.refl))
 |dct h=>exact zZ rfl h (aV (q C Gr.refl))
 |_=>exact zZ rfl rfl (aV (q C Gr.refl))
def quF:PV->Bool
 |.tup [s,m]=>Kv ["take","box","down"] s&&X9 m
 |_=>false
def rdF:PV->Bool
 |.tup [q,n]=>X8 n&&quF q
 |_=>false
def Wy{α:Type}x y z(r:List α)k(h:k=2):(!decide (((x::y::z::r).length:Int)=k))=true :=by grind
def Sg(x:PV):Prop:=∀s z n,x=.tup [.tup [s,.str z],n]->z.length<=sizeLine
inductive gRf(ts:List PV)(C:CH)(Q:K1):Prop
 |mk x(z0:ts=[x])(z1:Th C x)(z2:Sg x)(z3:∀C',Gr C C'->Q (.bl (rdF x)) C'):gRf ts C Q
def tO(T:Tx W a):Ok W a 2 12 ["thing"] gRf:=by
 have S:=(T.F 12 rfl).s;have Xk:=qE T;have K7:=XQ T
 refine(T.F 12 rfl).ok (fun ts C R h=>?_) fun cdv A outer s H E hr=>⟨_,(jQ (rQ (cw_pt (cw_or (pV (hZ (nQ jX nZ rfl T.iQ rfl (qQ (cv 0) (ca1 (gV rfl T.vX rfl)))))) (cw_or (ct2 bF tG (cln T.yJ (cv 0)) zQ) (cw_or1 (pV (hZ (cf (T.F 0 rfl) Xk hr (ca1 (cx (cv 0) zQ))))))))) (vQ (gQ tJ)) pQ)
  (jQ (cs1 1 S.nd (cx (cv 0) zQ))
  (jQ (rQ (cw_pt (cw_or (pV (hZ (nQ jX nZ rfl T.iQ rfl (qQ (cv 1) (ca1 (gV rfl T.vX rfl)))))) (cw_or1 (ct2 bF tG (cln T.yJ (cv 1)) zQ)))) (vQ (gQ tJ)) pQ)
  (vQ (gQ (Yx (wV (Wb (yX hr)) cop_inA (cx (cv 1) zQ) (mW (v:=.ref a.ASKING) rfl T.Jf rfl (fun H=>.kt (T.ZY H) (.cons (.str _) (.cons (.str _) (.cons (.str _) .nil))))) rfl) (Zr (cf (T.F 1 rfl) K7 hr (ca1 (cx (cv 1) zQ)))))))))),?_⟩
 .obtain ⟨_,rfl,_⟩:=h;rfl
 rintro ts C R ⟨x,rfl,hx,hg,q⟩
 cases hx with
 |@tup ts hts =>
  refine zZ rfl rfl (xP (wU (qX (dX _ _) ?_)))
  rcases ts with _ | ⟨q0,_ | ⟨n,_ | ⟨z,r⟩⟩⟩
  .exact jJ rfl (q C Gr.refl)
  .exact jJ rfl (q C Gr.refl)
  .refine rX rfl (wX rfl ⟨n,rfl,hts n (by simp),?_⟩)
   cases hn:X8 n with
   |false =>
    have e:rdF (.tup [q0,n])=false:=by show(X8 n&&quF q0)=_;rw[hn];rfl
    rw[e] at q;exact aV (q C Gr.refl)
   |true =>
    have e:rdF (.tup [q0,n])=quF q0:=by show(X8 n&&quF q0)=_;rw[hn];rfl
    rw[e] at q;refine xP (sQ ?_)
    try dsimp only
    refine yQ (wX rfl ?_)
    cases hts q0 AF with
    |@tup qs hqs =>
     refine zZ rfl rfl (xP (wU (qX (dX _ _) ?_)))
     rcases qs with _ | ⟨s0,_ | ⟨m,_ | ⟨z,r⟩⟩⟩
     .exact jJ rfl (q C Gr.refl)
     .exact jJ rfl (q C Gr.refl)
     .refine rX rfl (sQ (wX rfl ?_))
      obtain⟨c,hc⟩:=(hqs s0 AF).ty;refine inA_s rfl hc (bZ (fun hb=>?_) fun hb=>?_)
      .refine wX rfl ⟨m,rfl,hqs m (by simp),fun z hz=>hg s0 z n (by rw[hz]),fun C1 g1=>?_⟩
       have e:quF (.tup [s0,m])=X9 m:=by show(Kv ["take","box","down"] s0&&X9 m)=_;rw[hb];rfl
       exact e▸q C1 g1
      .have e:quF (.tup [s0,m])=false:=by show(Kv ["take","box","down"] s0&&X9 m)=_;rw[hb];rfl
       rw[e] at q;exact q C Gr.refl
     .exact jJ (Wy _ _ _ _ _ rfl) (q C Gr.refl)
    |lst h=>exact zZ rfl h (aV (q C Gr.refl))
    |dct h=>exact zZ rfl h (aV (q C Gr.refl))
    |_=>exact zZ rfl rfl (aV (q C Gr.refl))
  .exact jJ (Wy _ _ _ _ _ rfl) (q C Gr.refl)
 |lst h=>exact zZ rfl h (aV (q C Gr.refl))
 |dct h=>exact zZ rfl h (aV (q C Gr.refl))
 |_=>exact zZ rfl rfl (aV (q C Gr.refl))
def rdsF:PV->Bool
 |.tup ts=>(ts.map rdF).all id
 |_=>false
inductive gRsf(ts:List PV)(C:CH)(Q:K1):Prop
 |mk x(z0:ts=[x])(z1:Th C x)(z2:(∀ts,x=.tup ts->ts.length<=sizeLine/\∀t∈ts,Sg t))(z3:∀C',Gr C C'->Q (.bl (rdsF x)) C'):gRsf ts C Q
def oO(T:Tx W a):Ok W a 3 11 ["thing"] gRsf:=by
 have S:=(T.F 11 rfl).s;have Xh:=tO T;refine(T.F 11 rfl).ok (fun ts C R h=>?_) fun cdv A outer s H E hr=>⟨_,(vQ (gQ (Yx (nQ jX nZ rfl T.iQ rfl (qQ (cv 0) (ca1 (gV rfl T.vX rfl)))) (Zr (nQ (Xa rfl) Jx rfl T.z_all rfl (ca1 (lY rfl (S.c (by decide +kernel)) (S.k (L:=0) rfl rfl rfl (by decide +kernel)) (zU (cv 0)) (fun _ _ _ _ _=>nJ) (fun _ _ _ _ _=>(cf (T.F 12 rfl) Xh hr (ca1 (cv 0))))))))))),?_⟩
 .obtain ⟨_,rfl,_⟩:=h;rfl
 rintro ts C R ⟨x,rfl,hx,hl,q⟩
 cases hx with
 |@tup ts hts =>
  refine zZ rfl rfl (jJ rfl (iF (fun t=>.bl (rdF t)) ts [] C Gr.refl (by rw[Be,Bt];exact(hl ts rfl).1) (fun y hy C1 Q' g hq=>⟨y,rfl,(hts y hy).gr g,(hl ts rfl).2 y hy,hq⟩) fun p C1 h3 g m=>?_));exact all_s (by rw[m,BX];rfl) (q C1 g)
 |lst h=>exact zZ rfl h (rX rfl (q C Gr.refl))
 |dct h=>exact zZ rfl h (rX rfl (q C Gr.refl))
 |_=>exact zZ rfl rfl (rX rfl (q C Gr.refl))
end
def pl_up(h:Pl d t):Pl (d+1) t:=by
 induction h with
 |non=>exact .non
 |bl b=>exact .bl b
 |int i=>exact .int i
 |str x=>exact .str x
 |tup _ ih=>exact .tup ih
def uY(h:Pl d t)(le:d<=e):Pl e t:=by
 induction le with
 |refl=>exact h
 |step _ ih=>exact pl_up ih
def key_pl k:Pl 0 (oJ k):=by
 rcases k with (_ | i) | x
 .exact .non
 .exact .int i
 .exact .str x
def Vi sp:Pl 1 (uU sp):=.tup fun t ht=>by
 obtain⟨k,_,rfl⟩:=AU.1 ht;exact key_pl k
def si_pl c:Pl 1 (yZ c):=.tup fun t ht=>by
 rcases Af.1 ht with rfl | ht
 .exact .str _
 .cases AE.1 ht;exact .int _
def Xw(cs:List (Str×Int)):Pl 2 (.tup (cs.map yZ)):=.tup fun t ht=>by
 obtain⟨c,_,rfl⟩:=AU.1 ht;exact si_pl c
def cv_pl c:Pl 1 (Zl c):=.tup fun t ht=>by
 simp only[List.mem_cons,List.not_mem_nil,or_false] at ht
 rcases ht with rfl | rfl | rfl
 .exact .str _
 .exact .str _
 .exact .int _
def hdv_pl(h:HdV):Pl 3 h.pv:=.tup fun t ht=>by
 simp only[List.mem_cons,List.not_mem_nil,or_false] at ht
 rcases ht with rfl | rfl | rfl | rfl
 .exact .str _
 .exact .int _
 .exact .bl _
 .exact .tup fun t ht=>by
   obtain⟨c,_,rfl⟩:=AU.1 ht;exact cv_pl c
def wt_pl: ∀d x,WtOk rs d x->Pl (2 * d+4) x.pv:=by
 intro d
 induction d with
 |zero=>intro x h;exact h.elim
 |succ d ih =>
  intro x h
  have row:∀r:List Wt,(∀y∈r,WtOk rs d y)->Pl (2 * d+5) (.tup (Wt.pvs r)):=fun r hr=>.tup fun t ht=>by
   rw[Wt.pvs_map] at ht;obtain⟨y,hy,rfl⟩:=AU.1 ht;exact ih y (hr y hy)
  cases x with
  |plain sp tag ss hs r =>
   refine .tup fun t ht=>?_
   simp only[List.mem_cons,List.not_mem_nil,or_false] at ht
   rcases ht with rfl | rfl | rfl | rfl | rfl | rfl
   .exact .str _
   .exact uY (Vi sp) (by lia)
   .exact .str _
   .exact uY (Xw ss) (by lia)
   .refine uY (d:=4) (.tup fun t ht=>?_) (Br _ _)
    obtain⟨y,hy,rfl⟩:=AU.1 ht;exact hdv_pl y
   .exact row r h.2.2.1
  |part sp n g =>
   refine .tup fun t ht=>?_
   simp only[List.mem_cons,List.not_mem_nil,or_false] at ht
   rcases ht with rfl | rfl | rfl | rfl
   .exact .str _
   .exact uY (Vi sp) (by lia)
   .exact .str _
   .exact uY (Xw g) (by lia)
  |give sp n i r =>
   refine .tup fun t ht=>?_
   simp only[List.mem_cons,List.not_mem_nil,or_false] at ht
   rcases ht with rfl | rfl | rfl | rfl | rfl
   .exact .str _
   .exact uY (Vi sp) (by lia)
   .exact .str _
   .exact .int _
   .exact row r h.2.2.1
def ti_pl c:Pl 2 (aZ c):=.tup fun t ht=>by
 rcases Af.1 ht with rfl | ht
 .exact .tup fun t ht=>by
   obtain⟨x,_,rfl⟩:=AU.1 ht;exact .str x
 .cases AE.1 ht;exact .int _
def vS{x:Pc}(h:YH rs 6 x.row):Pl 18 x.pv:=by
 refine .tup fun t ht=>?_
 simp only[List.mem_cons,List.not_mem_nil,or_false] at ht
 rcases ht with rfl | rfl | rfl
 .refine uY (d:=3) (.tup fun t ht=>?_) (by decide)
  obtain⟨c,_,rfl⟩:=AU.1 ht;exact ti_pl c
 .refine .tup fun t ht=>?_
  rw[Wt.pvs_map] at ht;obtain⟨y,hy,rfl⟩:=AU.1 ht;exact wt_pl 6 y (h.1 y hy)
 .exact uY (Xw _) (by decide)
def Pn.of(h:Pl d t):Pn t:=by
 induction h with
 |non=>exact .non
 |bl b=>exact .bl b
 |int i=>exact .int i
 |str x=>exact .str x
 |tup _ ih=>exact .tup ih
theorem eD{α:Type}{f}: ∀{l:List α},(∀x∈l,pw (f x)<=c)->pws (l.map f)<=c * l.length
 |[],_ =>Ae _
 |x::l,h=>by
  have h1:=eD fun y hy=>h y (AK _ hy);have h2:=h x AF;rw[A8,pws,AY]
  lia
def nH ts:pw (.tup ts)=1+pws ts:=by rw[pw]
def pw_key k:pw (oJ k)<=1:=by rcases k with (_ | i) | x<;>simp[oJ,pw]
def VH sp:pw (uU sp)<=1+sp.length:=by
 have:=eD (l:=sp) fun k _=>pw_key k
 delta uU
 rw[nH]
 lia
def pw_si c:pw (yZ c)=3:=by delta yZ;simp[pw,pws]
def XD(cs:List (Str×Int)):pw (.tup (cs.map yZ))<=1+3 * cs.length:=by
 have:=eD (l:=cs) fun c _=>CK (pw_si c);rw[nH]
 lia
def pw_hd{h:HdV}(hl:h.ch.length<=4):pw h.pv<=21:=by
 have:=eD (f:=Zl) (c:=4) (l:=h.ch) fun c _=>by delta Zl;simp[pw,pws]
 delta HdV.pv
 simp only[pw,pws]
 lia
def pw_wt: ∀d x,WtOk rs d x->pw x.pv<=105 * x.wc:=by
 intro d
 induction d with
 |zero=>intro x h;exact h.elim
 |succ d ih =>
  intro x h
  have row:∀r:List Wt,(∀y∈r,WtOk rs d y)->pws (Wt.pvs r)<=105 * Wt.wcs r:=by
   intro r
   induction r with
   |nil=>intro _;rw[Wt.pvs,pws];exact Ae _
   |cons y r ihr =>
    intro hr;have h1:=ihr fun z hz=>hr z (AK _ hz);have h2:=ih y (hr y AF);rw[Wt.pvs,pws,Wt.wcs]
    lia
  cases x with
  |plain sp tag ss hs r =>
   have h1:=h.1.l;have h2:=h.2.1;have a1:=VH sp;have a2:=XD ss;have a3:=eD fun y hy=>pw_hd (h2.2.2.1 y hy);have a4:=row r h.2.2.1;rw[Wt.pv,Wt.wc];rw[nH] at a2
   simp only[pw,pws]
   lia
  |part sp n g =>
   have h1:=h.1.l;have h2:=h.2.2.1;have a1:=VH sp;have a2:=XD g;rw[Wt.pv,Wt.wc];rw[nH] at a2
   simp only[pw,pws]
   lia
  |give sp n i r =>
   have h1:=h.1.l;have a1:=VH sp;have a4:=row r h.2.2.1;rw[Wt.pv,Wt.wc]
   simp only[pw,pws]
   lia
def dOf(cs:List (List Str×Int)):Rds:=cs.map fun c=>(c.1.map Sum.inr,.int c.2)
abbrev ASKW:List Str:=["take","box","down"]
def RdP(cs:List (List Str×Int)):Prop:=∀c∈cs,∃s n,c.1=[s,n]/\ASKW.contains s=true/\cM n=true/\Bd c.2
def rdF_is(h:rdF x=true):∃s n i,x=aZ ([s,n],i)/\ASKW.contains s=true/\cM n=true/\Bd i:=by
 delta rdF at h
 split at h
 .next q n =>
  rw[BL] at h;obtain⟨h1,h2⟩:=h
  delta quF at h2
  split at h2
  .next s m =>
   rw[BL] at h2;obtain⟨h2,h3⟩:=h2
   cases n with
   |int i =>
    have h1:(decide (-1000000000<=i)&&decide (i<=1000000000))=true:=h1;rw[BL] at h1
    cases s with
    |str s =>
     cases m with
     |str n=>exact⟨s,n,i,rfl,h2,h3,Ac h1.1,Ac h1.2⟩
     |_=>cases h3
    |_=>cases h2
   |_=>cases h1
  .cases h2
 .cases h
def rdF_of(h1:ASKW.contains s=true)(h2:cM n=true)(h3:Bd i):rdF (aZ ([s,n],i))=true:=by
 show((decide (-1000000000<=i)&&decide (i<=1000000000))&&(ASKW.contains s&&cM n))=true;rw[h1,h2,Ai h3.1,Ai h3.2]
 rfl
theorem ZT:∀{ts},(ts.map rdF).all id=true->∃cs,ts=cs.map aZ/\RdP cs
 |[],_=>⟨[],rfl,fun _ z=>nomatch z⟩
 |t::ts,h=>by
  rw[A8,Cq,BL] at h;refine eQ (ZT h.2) fun cs e o=>Ya (rdF_is h.1) fun s n i e' o'=>⟨([s,n],i)::cs,by rw[e,e'];rfl,fun c hc=>?_⟩
  rcases Af.1 hc with rfl | hc
  .lia
  .exact o c hc
def rdsF_of(h:RdP cs):rdsF (.tup (cs.map aZ))=true:=by
 show((cs.map aZ).map rdF).all id=true;rw[Bz];intro b hb;obtain⟨t,ht,rfl⟩:=AU.1 hb;obtain⟨c,hc,rfl⟩:=AU.1 ht;obtain⟨s,n,e,h1,h2,h3⟩:=(h c hc);obtain⟨c1,c2⟩:=c;cases e;exact rdF_of h1 h2 h3
theorem uF:∀{cs},RdP cs->XF (cs.map aZ)=some (dOf cs)
 |[],_=>rfl
 |c::cs,h=>by
  have ih:=uF fun x hx=>h x (AK _ hx);obtain⟨s,n,e,_⟩:=(h c AF);obtain⟨c1,c2⟩:=c;cases e;show(match some ([Sum.inr s,Sum.inr n]:List Key),XF (cs.map aZ) with | some k,some ps=>some ((k,PV.int c2)::ps) | _,_=>none)=_;rw[ih]
  rfl
theorem cS[DecidableEq κ](g:κ->PV):∀ps acc,(∀p∈ps,p.2=g p.1)->∀k,zK (mergeG acc ps) k=if k∈ps.map (·.1) then some (g k) else zK acc k
 |[],acc,_,k=>by rfl
 |p::ps,acc,h,k=>by
  show zK (mergeG (putG acc p.1 p.2) ps) k=_;rw[cS g ps _ (fun x hx=>h x (AK _ hx)) k,jF]
  by_cases e:k∈ps.map (·.1)
  .grind
  .grind
theorem yN:∀ps acc,ABd ps->ABd acc->ABd (mergeG acc ps)
 |[],acc,_,h=>h
 |p::ps,acc,h,ha=>yN ps (putG acc p.1 p.2) (fun x hx=>h x (AK _ hx)) fun x hx=>by
  rcases tH hx with e | e
  .exact e▸h p AF
  .exact ha x e
def Yf(h:RdP cs):ABd (dOf cs):=fun kv hk=>by
 obtain⟨c,hc,rfl⟩:=AU.1 hk;exact QN (h c hc) fun _ _ _ _ _ hb=>⟨c.2,rfl,hb⟩
section
variable {A:Rds}{rs:List Str}{cap:Nat}{x:Pt}
def bO: iC A bs fun R=>∀kv∈R,∃s n,mM bs s n/\kv=(qK s n,.int (eX A s n)):=fun R s n h hR kv hk=>by
 delta putG at hk
 split at hk
 .grind
 .grind
def jN(ok:PtOk rs cap x):∀kv∈cU A x,∃s n,mM (x.first.map (·.1)) s n/\kv=(qK s n,.int (eX A s n)) :=
 dZ bO ok.wk (tZ bO ok.ls fun _ z=>nomatch z)
def tD: c∈(wZ A x).reads↔c∈(cU A x).map rdC:=(gB _).mem_iff
def zG(ok:PtOk rs cap x)(h:c∈(wZ A x).reads):∃s n,mM (x.first.map (·.1)) s n/\c=([s,n],eX A s n):=by
 obtain⟨kv,hk,rfl⟩:=AU.1 (tD.1 h);obtain⟨s,n,h1,rfl⟩:=jN ok kv hk;exact⟨s,n,h1,rfl⟩
def wF(ok:PtOk rs cap x)(hA:ABd A):RdP (wZ A x).reads:=fun c hc=>by
 obtain⟨s,n,h1,rfl⟩:=zG ok hc;refine⟨s,n,rfl,?_,?_,(jB hA s n).2⟩
 .rcases h1 with ⟨rfl | rfl,_⟩ | ⟨rfl,_⟩<;>decide +kernel
 .rcases h1 with ⟨_,h⟩ | ⟨_,h⟩
  .have all:∀m∈(["a","ab","b"]:List Str),cM m=true:=by decide +kernel
   exact all n h
  .obtain ⟨y,hy,rfl⟩:=AU.1 h
   exact ok.bn y hy
def uS(ok:PtOk rs cap x):Ag A (mergeG [] (dOf (wZ A x).reads)) (cU A x):=fun s n hk=>by
 obtain⟨kv,hm,e⟩:=(AU.1 hk);obtain⟨s',n',_,rfl⟩:=jN ok kv hm;cases e
 have v:=cS (fun k:List Key=>match k with | [.inr s,.inr n]=>PV.int (eX A s n) | _=>.non) (dOf (wZ A x).reads) [] (fun p hp=>by
  obtain⟨c,hc,rfl⟩:=AU.1 hp;obtain⟨s,n,_,rfl⟩:=zG ok hc
  rfl) (qK s n)
 have hk:qK s n∈(dOf (wZ A x).reads).map (·.1):=AU.2 ⟨(qK s n,.int (eX A s n)),AU.2 ⟨([s,n],eX A s n),tD.2 (AU.2 ⟨_,hm,rfl⟩),rfl⟩,rfl⟩;rw[AW hk] at v;show _=(match zK (mergeG [] (dOf (wZ A x).reads)) (qK s n) with | some (.int i)=>i | _=>0);rw[v]
def pM(ok:PtOk rs cap x)(hA:ABd A):YH rs 6 (wZ A x).row:=row_ok ok.ls ⟨hA,(fun _ z=>nomatch z),(fun _ z=>nomatch z),by rw[AB];exact ok.fl⟩ ok.b8 (by have:=ok.tw;lia)
def uB(ok:PtOk rs cap x)(hA:ABd A):(wZ A x).reads.length<=10:=by
 have h1:=(gB ((cU A x).map rdC)).length_eq;have h2:RdOk (x.first.map (·.1)) (cU A x):=dZ (fZ hA) ok.wk (tZ (fZ hA) ok.ls ⟨DF,(fun _ z=>nomatch z),(fun _ z=>nomatch z)⟩);have h3:=h2.len;have h4:=ok.fl;rw[AB] at h1 h3;show(jP _).length<=_
 lia
def pc_pw(ok:PtOk rs cap x)(hA:ABd A):pw (wZ A x).pv<=1000000:=by
 have h1:=uB ok hA
 have h2:=eD (f:=aZ) (c:=5) (l:=(wZ A x).reads) fun c hc=>by
  obtain⟨s,n,_,rfl⟩:=zG ok hc
  delta aZ
  simp[pw,pws]
 have h3:pws (Wt.pvs (wZ A x).row)<=105 * Wt.wcs (wZ A x).row:=by
  have all:∀r:List Wt,(∀y∈r,WtOk rs 6 y)->pws (Wt.pvs r)<=105 * Wt.wcs r:=by
   intro r
   induction r with
   |nil=>intro _;rw[Wt.pvs,pws];exact Ae _
   |cons y r ih =>
    intro hr;have a1:=ih fun z hz=>hr z (AK _ hz);have a2:=pw_wt 6 y (hr y AF);rw[Wt.pvs,pws,Wt.wcs]
    lia
  exact all _ (pM ok hA).1
 have h4:=xY A x.ls [] ([],[],[]);have h4:Wt.wcs (wZ A x).row<=0+Ln.tws x.ls:=h4;have h5:=ok.tw;have h6:=XD (wZ A x).works;have h7:(wZ A x).works.length<=4:=by show(aX A [] x.works).length<=4;delta aX;rw[AB];exact ok.wl
 rw[nH] at h6
 delta Pc.pv
 simp only[pw,pws]
 lia
end
section
variable {W:Wd}{a:Adr}
def Pg(x:PV):Prop:=∀ts y z,x=.tup [.tup ts,y,z]->ts.length<=sizeLine/\∀t∈ts,Sg t
def len4{α:Type}x y z u(r:List α)k(h:k=3):(!decide (((x::y::z::u::r).length:Int)=k))=true :=by grind
inductive gLp(ts:List PV)(C:CH)(Q:K1):Prop
 |mk(pt:Pt)(x:PV)(rs:List Str)(cap:Nat)(z0:ts=[pt.pv,x])(z1:PtOk rs cap pt)(z2:Th C x)(z3:Pg x)(z4:∀b C',(b=true↔∃A,ABd A/\x=(wZ A pt).pv)->Gr C C'->Q (.bl b) C'):gLp ts C Q
def uR(T:Tx W a):Ok W a 30 10 ["part","piece"] gLp:=by
 have S:=(T.F 10 rfl).s;have Xg:=(oO T).mono (show 3<=29 by decide);have G_alike:=(Wn T).mono (show 3<=29 by decide);have zM:=Qh T
 refine(T.F 10 rfl).ok (fun ts C R h=>?_) fun cdv A outer s H E hr=>⟨_,(jQ (rQ (cw_pt (cw_or (pV (hZ (nQ jX nZ rfl T.iQ rfl (qQ (cv 1) (ca1 (gV rfl T.vX rfl)))))) (cw_or (ct2 bF tG (cln T.yJ (cv 1)) zQ) (cw_or1 (pV (hZ (cf (T.F 11 rfl) Xg hr (ca1 (cx (cv 1) zQ))))))))) (vQ (gQ tJ)) pQ)
  (vQ (gQ (cf (T.F 3 rfl) G_alike hr (qQ (cv 1) (ca1 (cf (T.F 9 rfl) zM hr (qQ (cv 0) (ca1 (bJ (gC rfl (gE hr)) cT rfl T.kH rfl (ca1 (cx (cv 1) zQ)))))))))))),?_⟩
 .obtain ⟨_,_,_,_,rfl,_⟩:=h;rfl
 rintro ts C R ⟨pt,x,rs,cap,rfl,ok,hx,hg,q⟩;have no:∀C',(∀A,ABd A->x≠(wZ A pt).pv)->Gr C C'->R (.bl false) C':=fun C' h g=>q false C' ⟨(fun z=>nomatch z),fun zz=>eQ zz fun A k e=> (h A k e).elim⟩ g
 cases hx with
 |@tup ts hts =>
  refine zZ rfl rfl (xP (wU (qX (dX _ _) ?_)))
  rcases ts with _ | ⟨r,_ | ⟨y,_ | ⟨z,_ | ⟨u,l⟩⟩⟩⟩
  .exact jJ rfl (no C (fun A _ e=>nomatch PV.tup.inj e) Gr.refl)
  .exact jJ rfl (no C (fun A _ e=>nomatch PV.tup.inj e) Gr.refl)
  .exact jJ rfl (no C (fun A _ e=>nomatch PV.tup.inj e) Gr.refl)
  .refine rX rfl (wX rfl ⟨r,rfl,hts r AF,fun ts e=>hg ts y z (by rw[e]),fun C1 g1=>?_⟩)
   cases hr:rdsF r with
   |false =>
    refine aV (no C1 (fun A hA e=>?_) g1);have e0:=PV.tup.inj e;injection e0 with e1 _
    rw[e1,rdsF_of (wF ok hA)] at hr;cases hr
   |true =>
    refine xP (sQ ?_)
    cases r with
    |tup ts =>
     obtain⟨cs,rfl,hcs⟩:=ZT hr;refine wX rfl (Jl (uF hcs) ?_ fun d hd=>?_)
     .delta dOf
      rw[AB];have:=(hg _ y z rfl).1
      rwa [AB] at this
     have hA:ABd (mergeG [] (dOf cs)):=yN _ _ (Yf hcs) fun _ z=>nomatch z;refine⟨pt,d,_,rs,cap,rfl,ok,xQ,hA,fun C2 g2=>?_⟩;have g02:=(g1.trans (Gr.new hd _)).trans g2;refine⟨_,_,rfl,(Th.tup hts).gr g02,Pn.of (vS (pM ok hA)),pc_pw ok hA,fun b C3 hb g3=>q b C3 ?_ (g02.trans g3)⟩;rw[hb];refine⟨fun e=>⟨_,hA,e⟩,fun zz=>eQ zz fun A hA' e=> ?_⟩;injection (PV.tup.inj e) with e1 _
     have e2:=uF hcs;rw[(PV.tup.inj e1),uF (wF ok hA')] at e2;rw[e,(V6 ok (uS ok)).1,BC e2]
    |_=>cases hr
  .exact jJ (len4 _ _ _ _ _ _ rfl) (no C (fun A _ e=>nomatch PV.tup.inj e) Gr.refl)
 |lst h=>exact zZ rfl h (aV (no C (fun A _ e=>nomatch e) Gr.refl))
 |dct h=>exact zZ rfl h (aV (no C (fun A _ e=>nomatch e) Gr.refl))
 |_=>exact zZ rfl rfl (aV (no C (fun A _ e=>nomatch e) Gr.refl))
end
structure Pad(C:CH)(pd aa tt rr:Addr)(A:Rds)(τ:Tns)(R:Rds):Prop where
 e:Env C aa tt rr A τ R
 p:C pd=some (.lst [.ref aa,.ref rr])
def Pad.nr(h:Pad C pd aa tt rr A τ R):pd≠rr:=fun z=>by have:=h.p;rw[z,h.e.hr] at this;cases this
def Pad.ex{R':Rds}(h:Pad C pd aa tt rr A τ R)(e:ExS [rr] C C')(hr:C' rr=some (.dT R')):Pad C' pd aa tt rr A τ R' :=
 ⟨h.e.ex e hr,e _ _ (fun z=>h.nr (AE.1 z)) h.p⟩
section
variable {W:Wd}{a:Adr}
inductive Zg(d:Nat)(ts:List PV)(C:CH)(Q:K1):Prop
 |mk(r:Rk)(pd aa tt rr:Addr)(A:Rds)(τ:Tns)(R:Rds)(bs ns:List Str)(z0:ts=[r.pv,.ref pd,.ref tt])(z1:r.ok bs ns d)(z2:Pad C pd aa tt rr A τ R)(z3:uW A τ bs ns)(z4:RdOk bs R)(z5:∀C',C' rr=some (.dT (r.rds A τ R))->ExS [rr] C C'->Q (.int (r.val A τ)) C'):Zg d ts C Q
def fF(T:Tx W a)(d:Nat):Ok W a (d+1) 31 U6 (Zg d):=by
 have main:∀n,(∀d',n=d'+1->Ok W a (d'+1) 31 U6 (Zg d'))->Ok W a (n+1) 31 U6 (Zg n):=by
  intro n ih;have S:=(T.F 31 rfl).s
  have eZ:Ok W a n 31 U6 (fun ts C Q=>∃d',n=d'+1/\Zg d' ts C Q):=by
   cases n with
   |zero=>exact xK fun ts C Q ⟨d',e,_⟩=>by lia
   |succ d' =>
    have:=ih d' rfl
    have e:(fun ts C Q=>∃d'',d'+1=d''+1/\Zg d'' ts C Q)=Zg d':=by
     funext ts C Q
     refine propext ⟨fun⟨d'',e,h⟩=>?_,fun h=>⟨d',rfl,h⟩⟩;cases A4 e;exact h
    rw[e];exact this
  refine(T.F 31 rfl).ok (fun ts C R h=>?_) fun cdv A outer s H E hr=>⟨_,(jQ (cs1 3 S.nd (cx (cv 0) zQ))
  (jQ (rQ (ct2 fX oQ (cv 3) kQ) (vQ (gQ (cx (cv 0) zQ))) pQ)
  (jQ (rQ (ct2 fX oQ (cv 3) kQ) (vQ (gQ (gZ (yX hr) (cv 2) (cx (cv 0) zQ) (fun _ _=>rfl)))) pQ)
  (jQ (rQ (qC bB eF (cv 3) (lQ (qQ kQ (qQ kQ (ca1 kQ)))) rfl) (jQ (cs1 4 S.nd (Q6 (yX hr) (cx (cv 1) zQ) (lQ (qQ (cv 3) (ca1 (cx (cv 0) zQ)))) zQ))
  (jQ (sG (yX hr) (cx (cv 1) zQ) (lQ (qQ (cv 3) (ca1 (cx (cv 0) zQ)))) (cv 4))
  (vQ (gQ (cv 4))))) pQ)
  (jQ (cs1 5 S.nd (cf (T.F 31 rfl) eZ hr (qQ (cx (cv 0) zQ) (qQ (cv 1) (ca1 (cv 2))))))
  (jQ (rQ (ct2 fX oQ (cv 3) kQ) (vQ (gQ (cf (T.F 31 rfl) eZ hr (qQ (xD (ct2 bF tG (cv 5) zQ) (cx (cv 0) zQ) (cx (cv 0) zQ)) (qQ (cv 1) (ca1 (cv 2))))))) pQ)
  (jQ (cs1 6 S.nd (cf (T.F 31 rfl) eZ hr (qQ (cx (cv 0) zQ) (qQ (cv 1) (ca1 (cv 2))))))
  (jQ (rQ (ct2 fX oQ (cv 3) kQ) (vQ (gQ (bJ nW eB rfl T.aM rfl (ca1 (wV mF aG (cv 5) (cv 6) (wW _)))))) pQ)
  (jQ (cs1 7 S.nd (tQ nX sX (cv 5) (cv 6)))
  (jQ (rQ (ct2 fX oQ (cv 3) kQ) (vQ (cs1 7 S.nd (tQ dM eG (cv 5) (cv 6)))) pQ)
  (vQ (gQ (nQ (iB rfl) tP rfl T.ZF rfl (qQ (vC fM nG (tQ kN tF zQ zQ)) (ca1 (nQ (aB rfl) oP rfl T.ZE rfl (qQ (tQ kN tF zQ zQ) (ca1 (cv 7))))))))))))))))))),?_⟩
  .obtain ⟨r,pd,aa,tt,rr,A,τ,R,bs,ns,rfl,_⟩:=h;rfl
  rintro ts C Q ⟨r,pd,aa,tt,rr,A,τ,R,bs,ns,rfl,ok,hP,hS,hR,q⟩;have hE:=hP.e;refine yQ ?_
  cases r with
  |num i =>
   refine wX gX (qX (dQ _ _) (jJ (by decide) ?_));exact wX (v:=.int i) rfl (q C hE.hr ExS.refl)
  |turn m =>
   unfold Rk.ok at ok;refine wX gX (qX (dQ _ _) (rX (by decide) ?_));refine sQ (qX (dQ _ _) (jJ (by decide) ?_));exact wX (v:=.str m) rfl (cJ hE.ht rfl (xO hS.t (hS.h m ok)).1 (q C hE.hr ExS.refl))
  |ask s m =>
   unfold Rk.ok at ok;refine wX gX (qX (dQ _ _) ?_)
   have hs:s = "take"\/s = "down"\/s = "box":=by
    rcases ok with ⟨h | h,_⟩ | ⟨h,_⟩
    .exact .inl h
    .exact .inr (.inl h)
    .exact .inr (.inr h)
   have hn1:decide (s = "num")=false:=by rcases hs with rfl | rfl | rfl<;>decide
   have hn2:decide (s = "turn")=false:=by rcases hs with rfl | rfl | rfl<;>decide
   apply rX (by rw[hn1];rfl)
   refine sQ (qX (dQ _ _) (rX (by rw[hn2];rfl) ?_));refine sQ ⟨y0 3 rfl,tL (ts:=[.str "take",.str "box",.str "down"]) (w:=.str s) (vs:=[.str "take",.str "box",.str "down"]) rfl rfl rfl (jJ (by rcases hs with rfl | rfl | rfl<;>rfl) ?_)⟩;refine yQ (mZ hP.p rfl ⟨X7 hE.ha,wX (v:=.str m) rfl ⟨y0 2 rfl,Vl (k:=qK s m) hE.ha rfl (jB hS.a s m).1 ?_⟩⟩);have hb:=hS.b;refine iZ (mZ hP.p rfl (wX (v:=.str m) rfl ⟨y0 2 rfl,rD (k:=qK s m) hE.hr rfl (by have:=hR.len;lia) ?_⟩))
   exact q _ xQ (ExS.refl.at (by simp) _)
  |bin w x y =>
   cases n with
   |zero=>delta Rk.ok at ok;exact ok.elim
   |succ d' =>
   unfold Rk.ok at ok;obtain⟨hw,ox,oy⟩:=ok;have hn1:decide (w = "num")=false:=by rcases hw with rfl | rfl | rfl<;>decide
   have hn2:decide (w = "turn")=false:=by rcases hw with rfl | rfl | rfl<;>decide
   refine wX gX (qX (dQ _ _) (rX (by rw[hn1];rfl) ?_));refine sQ (qX (dQ _ _) (rX (by rw[hn2];rfl) ?_));refine sQ ⟨y0 3 rfl,tL (ts:=[.str "take",.str "box",.str "down"]) (w:=.str w) (vs:=[.str "take",.str "box",.str "down"]) rfl rfl rfl (rX (by rcases hw with rfl | rfl | rfl<;>rfl) ?_)⟩
   apply sQ
   try dsimp only
   refine yQ (wX (v:=x.pv) rfl ⟨d',rfl,x,pd,aa,tt,rr,A,τ,R,bs,ns,rfl,ox,hP,hS,hR,fun C1 m1 e1=>?_⟩);have P1:=hP.ex e1 m1;have R1:=pJ (τ:=τ) (fZ hS.a) ox hR;refine qX (dQ _ _) (rX (by rcases hw with rfl | rfl | rfl<;>decide) ?_)
   apply sQ
   try dsimp only
   refine yQ (wX (v:=y.pv) rfl ⟨d',rfl,y,pd,aa,tt,rr,A,τ,_,bs,ns,rfl,oy,P1,hS,R1,fun C2 m2 e2=>?_⟩);have bx:=rY hS.a hS.t hS.h ox;have by':=rY hS.a hS.t hS.h oy
   have fin:∀Q':K1,Q'=Q->Q' (.int (Rk.val A τ (.bin w x y))) C2:=fun Q' e=>by subst e;exact q C2 m2 (e1.trans e2)
   unfold Rk.val at fin;refine qX (dQ _ _) ?_
   rcases hw with rfl | rfl | rfl
   .refine rX (by decide) (sQ ?_)
    try dsimp only
    refine yQ (qV ?_);refine qX (dQ _ _) (rX (by decide) (sQ ?_));refine⟨⟨by decide,by decide,by decide⟩,⟨⟨by decide,by decide,by decide⟩,?_⟩⟩;exact Qq (Qt (fin _ rfl))
   .refine rX (by decide) (sQ ?_)
    try dsimp only
    refine yQ (qV ?_);refine qX (dQ _ _) (jJ (by decide) ?_);unfold Bd at bx by'
    refine⟨.inr ⟨by lia,by lia⟩,?_⟩
    try dsimp only
    refine⟨⟨by decide,by decide,by decide⟩,⟨⟨by decide,by decide,by decide⟩,?_⟩⟩;exact Qq (Qt (fin _ rfl))
   .refine jJ (by decide) (i_i (tS ?_))
    have:=fin _ rfl;rw[AW rfl] at this
    have e:(if decide (x.val A τ < y.val A τ)=true then (1:Int) else 0)=if x.val A τ < y.val A τ then 1 else 0:=by
     by_cases h:x.val A τ < y.val A τ
     .rw [Ai h,AW rfl,AW h]
     .rw [AQ h,AX (by decide),AX h]
    rw[e];exact this
  |pick x y z =>
   cases n with
   |zero=>delta Rk.ok at ok;exact ok.elim
   |succ d' =>
   unfold Rk.ok at ok;obtain⟨ox,oy,oz⟩:=ok;refine wX gX (qX (dQ _ _) (rX (by decide) ?_))
   apply sQ
   refine qX (dQ _ _) (rX (by decide) ?_)
   apply sQ
   refine⟨y0 3 rfl,tL (ts:=[.str "take",.str "box",.str "down"]) (w:=.str "pick") (vs:=[.str "take",.str "box",.str "down"]) rfl rfl rfl (rX rfl (sQ ?_))⟩
   try dsimp only
   refine yQ (wX (v:=x.pv) rfl ⟨d',rfl,x,pd,aa,tt,rr,A,τ,R,bs,ns,rfl,ox,hP,hS,hR,fun C1 m1 e1=>?_⟩);have P1:=hP.ex e1 m1;have R1:=pJ (τ:=τ) (fZ hS.a) ox hR;refine qX (dQ _ _) (jJ (by decide) ?_);refine if_i (qX (dX _ _) ?_)
   by_cases h0:x.val A τ=0
   .refine rX (by rw[Ai h0];rfl) (wX (v:=z.pv) rfl ⟨d',rfl,z,pd,aa,tt,rr,A,τ,_,bs,ns,rfl,oz,P1,hS,R1,fun C2 m2 e2=>?_⟩)
    have:=q C2 (by unfold Rk.rds;rw[AW h0];exact m2) (e1.trans e2);unfold Rk.val at this;rw[AW h0] at this;exact this
   .refine jJ (by rw[AQ h0];rfl) (wX (v:=y.pv) rfl ⟨d',rfl,y,pd,aa,tt,rr,A,τ,_,bs,ns,rfl,oy,P1,hS,R1,fun C2 m2 e2=>?_⟩)
    have:=q C2 (by unfold Rk.rds;rw[AX h0];exact m2) (e1.trans e2);unfold Rk.val at this;rw[AX h0] at this;exact this
 induction d with
 |zero=>exact main 0 fun d' e=>by lia
 |succ d ih=>exact main (d+1) fun d' e=>by cases A4 e;exact ih
inductive gVald(ts:List PV)(C:CH)(Q:K1):Prop
 |mk(ps:List (Str×Rk))(pd aa tt rr:Addr)(A:Rds)(τ:Tns)(R:Rds)(bs ns:List Str)(z0:ts=[.tup (ps.map vW),.ref pd,.ref tt])(z1:PrOk bs ns 2 ps)(z2:ps.length<=4)(z3:Pad C pd aa tt rr A τ R)(z4:uW A τ bs ns)(z5:RdOk bs R)(z6:∀C',C' rr=some (.dT (jZ A τ ps R))->ExS [rr] C C'->Q (.tup ((xG (aX A τ ps)).map yZ)) C'):gVald ts C Q
def bT ps(hA:ABd A)(hp:PrOk bs ns d ps)(hl:ps.length<=4)(hR:RdOk bs R)(m:C rr=some (.dT R))(step:∀u R1 C1 L,u∈ps->RdOk bs R1->C1 rr=some (.dT R1)->ExS [rr] C C1->(∀C2,C2 rr=some (.dT (u.2.rds A τ R1))->ExS [rr] C1 C2->L (yZ (u.1,u.2.val A τ)) C2)->c (some (.str u.1)::some u.2.pv::ρ) C1 L)(fin:∀C' p,C' rr=some (.dT (jZ A τ ps R))->ExS [rr] C C'->C' p=none->Q (.ref p) (uQ C' p (.lst ((aX A τ ps).map yZ)))):jU 2 mC c ρ Q (ps.map vW) [] C:=by
 refine pT (fun zs acc C'=>∃ds us:List (Str×Rk),ps=ds++us/\zs=us.map vW/\acc=(aX A τ ds).map yZ/\C' rr=some (.dT (jZ A τ ds R))/\ExS [rr] C C') ?_ ?_ _ _ _ ⟨[],ps,rfl,rfl,rfl,m,ExS.refl⟩
 .rintro x r acc C1 ⟨ds,us,e,hz,rfl,m1,e1⟩
  cases us with
  |nil=>cases hz
  |cons u us =>
   obtain⟨rfl,rfl⟩:=BQ hz;refine⟨[.str u.1,u.2.pv],rfl,rfl,fun L hL=>?_⟩;have hdl:ds.length < 4:=by have:=Bg List.length e;rw[AL,AY] at this;lia
   refine step u _ C1 L (e▸AR _ AF) (dZ (fZ hA) (fun x hx=>hp x (e▸Aq _ hx)) hR) m1 e1 fun C2 m2 e2=>hL _ _ ⟨?_,ds++[u],us,by rw[Aj];exact e,rfl,?_,?_,e1.trans e2⟩
   .rw [AB]
    delta aX
    rw[AB];exact AS hdl (by decide)
   .delta aX
    rw[Ab,Ab]
    rfl
   .rw [m2]
    delta jZ
    rw[BZ]
    rfl
 .rintro acc C1 ⟨ds,us,e,hz,rfl,m1,e1⟩ p hp'
  cases us with
  |cons u us=>cases hz
  |nil =>
   rw[Al] at e;subst e;exact fin C1 p m1 e1 hp'
def Kc(T:Tx W a):Ok W a 4 32 U7 gVald:=by
 have S:=(T.F 32 rfl).s;refine(T.F 32 rfl).ok (fun ts C R h=>?_) fun cdv A outer s H E hr=>⟨_,(vQ (gQ (ctp T.vX (nQ (yD rfl) wC rfl T.eM rfl (ca1 (Q7 rfl (show(["_law_name","_law_rule","_law_pairs_here","_law_pad","_law_turns"]:List Str).Nodup by decide +kernel) (aF (N:=U7) (sc:=mX (top 42)) rfl rfl rfl (by decide +kernel)) (zU (cv 0)) (fun _ _ _ _ _=>nJ) (fun _ _ _ _ _=>(lQ (qQ (cv 0) (ca1 (cf (T.F 31 rfl) (fF T 2) hr (qQ (cv 1) (qQ (cv 3) (ca1 (cv 4))))))))))))))),?_⟩
 .obtain ⟨ps,pd,aa,tt,rr,A,τ,R,bs,ns,rfl,_⟩:=h;rfl
 rintro ts C Q ⟨ps,pd,aa,tt,rr,A,τ,R,bs,ns,rfl,hp,hl,hP,hS,hR,q⟩;refine bT (τ:=τ) ps hS.a hp hl hR hP.e.hr (fun u R1 C1 L hu R1o m1 e1 hL=>?_) fun C1 p m1 e1 hp'=>?_
 .exact ⟨u.2,pd,aa,tt,rr,A,τ,_,bs,ns,rfl,(hp u hu).1,hP.ex e1 m1,hS,R1o,fun C2 m2 e2=>⟨y0 2 rfl,hL C2 m2 e2⟩⟩
 .refine cH xQ (by delta aX;rw[AB];lia) fun p2 hp2=>?_
  apply mJ xQ
  have nr:∀p,C1 p=none->rr≠p:=fun p h z=>by rw[z,h] at m1;cases m1
  have hp2':p2≠p:=fun z=>by subst z;rw[xQ] at hp2;cases hp2
  have hp21:C1 p2=none:=by rwa [wQ hp2'] at hp2
  apply q _ (by rwa [wQ (nr p2 hp21),wQ (nr p hp')])
  intro b o n hb;have h1:=e1 b o n hb;rw[wQ (fun z=>by subst z;rw[hp21] at h1;cases h1),wQ (fun z=>by subst z;rw[hp'] at h1;cases h1)];exact h1
end
section
variable (A:Rds)(τ:Tns)
def Rk.asks:Rk->List (List Key)
 |.num _=>[]
 |.turn _=>[]
 |.ask s n=>[qK s n]
 |.bin _ x y=>x.asks++y.asks
 |.pick x y z=>x.asks++if x.val A τ=0 then z.asks else y.asks
def vU(ps:List (Str×Rk)):List (List Key):=ps.flatMap fun c=>c.2.asks A τ
def chsA(cs:List (Str×Str×Rk)):List (List Key):=cs.flatMap fun c=>c.2.2.asks A τ
def wL(hs:List Hd):List (List Key):=hs.flatMap fun h=>chsA A τ h.ch
def X5:Option Rk->List (List Key)
 |none=>[]
 |some r=>r.asks A τ
end
mutual
def lnA(A:Rds):Ln->Tns->List (List Key)
 |.when r l1 l2,τ=>r.asks A τ++if r.val A τ=0 then lK A l2 τ else lK A l1 τ
 |.each n r ls,τ=>r.asks A τ++(List.range (iU (r.val A τ))).flatMap fun k=>lK A ls (vZ τ (.inr n) (.int (k:Nat)))
 |.part k n g,τ=>X5 A τ k++vU A τ g
 |.give k n r ls,τ=>X5 A τ k++(r.asks A τ++lK A ls τ)
 |.plain k tag s hs ls,τ=>X5 A τ k++(vU A τ s++(wL A τ hs++lK A ls τ))
def lK(A:Rds):List Ln->Tns->List (List Key)
 |[],_=>[]
 |l::ls,τ=>lnA A l τ++lK A ls τ
end
abbrev kys(R:Rds):List (List Key):=R.map (·.1)
def put_mem(R:Rds)k v k':k'∈kys (putG R k v)↔k'∈kys R\/k'=k:=by
 show k'∈(putG R k v).map (·.1)↔_;rw[cW]
 split
 .next h=>exact⟨.inl,fun z=>z.elim id fun e=>e▸h⟩
 .rw [AV,AE]
def yY(r:Rk):∀R,k∈kys (r.rds A τ R)↔k∈kys R\/k∈r.asks A τ:=by
 induction r with
 |num i=>intro R;simp[Rk.rds,Rk.asks]
 |turn n=>intro R;simp[Rk.rds,Rk.asks]
 |ask s n=>intro R;rw[Rk.rds,Rk.asks,put_mem,AE]
 |bin w x y ihx ihy=>intro R;rw[Rk.rds,Rk.asks,ihy,ihx,AV,Bk]
 |pick x y z ihx ihy ihz =>
  intro R;rw[Rk.rds,Rk.asks]
  split
  .rw [ihz,ihx,AV,Bk]
  .rw [ihy,ihx,AV,Bk]
theorem rB{α:Type}{f}{g}(h:∀R x,k∈kys (f R x)↔k∈kys R\/k∈g x):∀(l:List α)R,k∈kys (l.foldl f R)↔k∈kys R\/k∈l.flatMap g
 |[],R=>by simp
 |x::l,R=>by rw[Cv,rB h l,h,List.flatMap_cons,AV,Bk]
section
variable {A:Rds}{τ:Tns}{k:List Key}
def cF ps R:k∈kys (jZ A τ ps R)↔k∈kys R\/k∈vU A τ ps:=rB (fun R x=>yY x.2 R) ps R
def chs_mem ps R:k∈kys (aU A τ ps R)↔k∈kys R\/k∈chsA A τ ps:=rB (fun R x=>yY x.2.2 R) ps R
def aS ps R:k∈kys (xZ A τ ps R)↔k∈kys R\/k∈wL A τ ps:=rB (fun R x=>chs_mem x.ch R) ps R
def yE o R:k∈kys (eK A τ o R)↔k∈kys R\/k∈X5 A τ o:=by
 cases o with
 |none=>simp[eK,X5]
 |some r=>exact yY r R
end
theorem xT(h:∀st x,k∈kys (f st x).2.2↔k∈kys st.2.2\/k∈g x):∀(l:List Nat)(st:DSt),k∈kys (l.foldl f st).2.2↔k∈kys st.2.2\/k∈l.flatMap g
 |[],R=>by simp
 |x::l,R=>by rw[Cv,xT h l,h,List.flatMap_cons,AV,Bk]
mutual
theorem one_mem(A:Rds)(k:List Key):∀(l:Ln)(τ:Tns)(st:DSt),k∈kys (bX A l τ st).2.2↔k∈kys st.2.2\/k∈lnA A l τ
 |.when r l1 l2,τ,st=>by
  rw[bX,lnA]
  split
  .rw [cV A k l2 τ];show k∈kys (r.rds A τ st.2.2)\/_↔_;rw[yY,AV,Bk]
  .rw [cV A k l1 τ];show k∈kys (r.rds A τ st.2.2)\/_↔_;rw[yY,AV,Bk]
 |.each n r ls,τ,st=>by
  rw[bX,lnA,xT (g:=fun x:Nat=>lK A ls (vZ τ (.inr n) (.int (x:Nat)))) (fun st x=>cV A k ls _ st)];show k∈kys (r.rds A τ st.2.2)\/_↔_;rw[yY,AV,Bk]
 |.part o n g,τ,st=>by
  rw[bX,lnA];show k∈kys (jZ A τ g (eK A τ o st.2.2))↔_;rw[cF,yE,AV,Bk]
 |.give o n r ls,τ,st=>by
  rw[bX,lnA];show k∈kys (cQ A ls τ ([],[],r.rds A τ (eK A τ o st.2.2))).2.2↔_;rw[cV A k ls τ];show k∈kys (r.rds A τ (eK A τ o st.2.2))\/_↔_;rw[yY,yE,AV,AV,Bk,Bk]
 |.plain o tag s hs ls,τ,st=>by
  rw[bX,lnA];show k∈kys (cQ A ls τ ([],[],xZ A τ hs (jZ A τ s (eK A τ o st.2.2)))).2.2↔_;rw[cV A k ls τ];show k∈kys (xZ A τ hs (jZ A τ s (eK A τ o st.2.2)))\/_↔_;rw[aS,cF,yE,AV,AV,AV,Bk,Bk,Bk]
theorem cV(A:Rds)(k:List Key):∀(ls:List Ln)(τ:Tns)(st:DSt),k∈kys (cQ A ls τ st).2.2↔k∈kys st.2.2\/k∈lK A ls τ
 |[],τ,st=>by rw[uZ,lK];simp
 |l::ls,τ,st=>by rw[oX,cV A k ls τ,one_mem A k l τ,lK,AV,Bk]
end
def Spl(f:DSt->DSt):Prop:=∀F N R,(f (F,N,R)).1=F++(f ([],N,[])).1/\(f (F,N,R)).2.1=(f ([],N,[])).2.1
def Spl.comp(hf:Spl f)(hg:Spl g):Spl fun st=>g (f st):=fun F N R=>by
 have h1:=hf F N R;show(g (f (F,N,R))).1=F++(g (f ([],N,[]))).1/\(g (f (F,N,R))).2.1=(g (f ([],N,[]))).2.1;have e1:f (F,N,R)=(F++(f ([],N,[])).1,(f ([],N,[])).2.1,(f (F,N,R)).2.2):=by rw[<- h1.1,<- h1.2]
 rw[e1];have a:=hg (F++(f ([],N,[])).1) (f ([],N,[])).2.1 (f (F,N,R)).2.2;have b:=hg (f ([],N,[])).1 (f ([],N,[])).2.1 (f ([],N,[])).2.2;rw[a.1,a.2,b.1,b.2,Aj];exact⟨rfl,rfl⟩
def Spl.rds(hf:Spl f)(g:Rds->Rds):Spl fun st=>f (st.1,st.2.1,g st.2.2):=fun F N R=>by
 have a:=hf F N (g R);have b:=hf [] N (g []);rw[a.1,a.2,b.1,b.2];exact⟨rfl,rfl⟩
theorem Spl.fold(hf:∀k,Spl fun st=>f st k):∀l:List Nat,Spl fun st=>l.foldl f st
 |[]=>fun F N R=>⟨(Al F).symm,rfl⟩
 |k::l=>(hf k).comp (Spl.fold hf l)
mutual
theorem sO(A:Rds):∀(l:Ln)(τ:Tns),Spl fun st=>bX A l τ st
 |.when r l1 l2,τ=>by
  have e:(fun st:DSt=>bX A (.when r l1 l2) τ st)=fun st=>if r.val A τ=0 then cQ A l2 τ (st.1,st.2.1,r.rds A τ st.2.2) else cQ A l1 τ (st.1,st.2.1,r.rds A τ st.2.2):=by funext st;rw[bX]
  rw[e]
  by_cases h:r.val A τ=0
  .simp only[if_pos h]
   exact(pZ A l2 τ).rds (r.rds A τ)
  .simp only[if_neg h]
   exact(pZ A l1 τ).rds (r.rds A τ)
 |.each n r ls,τ=>by
  have e:(fun st:DSt=>bX A (.each n r ls) τ st)=fun st=>(List.range (iU (r.val A τ))).foldl (fun st k=>cQ A ls (vZ τ (.inr n) (.int (k:Nat))) st) (st.1,st.2.1,r.rds A τ st.2.2):=by funext st;rw[bX]
  rw[e];exact(Spl.fold (fun k=>pZ A ls _) _).rds (r.rds A τ)
 |.part k n g,τ=>fun F N R=>by
  dsimp only;rw[bX,bX];exact⟨rfl,rfl⟩
 |.give k n r ls,τ=>fun F N R=>by
  dsimp only;rw[bX,bX];dsimp only;have a:=pZ A ls τ [] [] (r.rds A τ (eK A τ k R));have b:=pZ A ls τ [] [] (r.rds A τ (eK A τ k []));dsimp only at a b;rw[a.1,b.1];exact⟨rfl,rfl⟩
 |.plain k tag s hs ls,τ=>fun F N R=>by
  dsimp only;rw[bX,bX];dsimp only;have a:=pZ A ls τ [] [] (xZ A τ hs (jZ A τ s (eK A τ k R)));have b:=pZ A ls τ [] [] (xZ A τ hs (jZ A τ s (eK A τ k [])));dsimp only at a b;rw[a.1,b.1];exact⟨rfl,rfl⟩
theorem pZ(A:Rds):∀(ls:List Ln)(τ:Tns),Spl fun st=>cQ A ls τ st
 |[],τ=>fun F N R=>by dsimp only;rw[uZ,uZ];exact⟨(Al F).symm,rfl⟩
 |l::ls,τ=>by
  have e:(fun st:DSt=>cQ A (l::ls) τ st)=fun st=>cQ A ls τ (bX A l τ st):=by funext st;rw[oX]
  rw[e];exact(sO A l τ).comp (pZ A ls τ)
end
def jV(A:Rds)(ls:List Ln)(τ:Tns)(N:Tns):List Wt:=(cQ A ls τ ([],N,[])).1
def gW(A:Rds)(ls:List Ln)(τ:Tns)(N:Tns):Tns:=(cQ A ls τ ([],N,[])).2.1
def nI(A:Rds)(l:Ln)(τ:Tns)(N:Tns):List Wt:=(bX A l τ ([],N,[])).1
def Q4(A:Rds)(l:Ln)(τ:Tns)(N:Tns):Tns:=(bX A l τ ([],N,[])).2.1
def ZS A ls τ N R:(cQ A ls τ ([],N,R)).1=jV A ls τ N:=(pZ A ls τ [] N R).1
def Vw A ds u τ N:jV A (ds++[u]) τ N=jV A ds τ N++nI A u τ (gW A ds τ N):=by
 delta jV nI gW
 rw[nM,oX];exact(sO A u τ (cQ A ds τ ([],N,[])).1 (cQ A ds τ ([],N,[])).2.1 (cQ A ds τ ([],N,[])).2.2).1
def Yp A ds u τ N:gW A (ds++[u]) τ N=Q4 A u τ (gW A ds τ N):=by
 delta Q4 gW
 rw[nM,oX];exact(sO A u τ (cQ A ds τ ([],N,[])).1 (cQ A ds τ ([],N,[])).2.1 (cQ A ds τ ([],N,[])).2.2).2
theorem Qu A τ ys:∀xs,lK A (xs++ys) τ=lK A xs τ++lK A ys τ
 |[]=>by rfl
 |x::xs=>by rw[Cp,lK,lK,Qu A τ ys xs,Aj]
def Vk(A:Rds)(τ:Tns)(sp:List Key):Ln->Wt
 |.part _ n g=>.part sp n (xG (aX A τ g))
 |.give _ n r ls=>.give sp n (r.val A τ) (jV A ls τ [])
 |.plain _ tag s hs ls=>.plain sp tag (xG (aX A τ s)) (lZ A τ hs) (jV A ls τ [])
 |_=>.part sp "" []
def thA(A:Rds)(τ:Tns):Ln->List (List Key)
 |.part _ _ g=>vU A τ g
 |.give _ _ r ls=>r.asks A τ++lK A ls τ
 |.plain _ _ s hs ls=>vU A τ s++(wL A τ hs++lK A ls τ)
 |_=>[]
def row1_th(h:Qy l=true):nI A l τ N=[Vk A τ (bV N (iV A τ (rK l))) l]/\Q4 A l τ N=yV N (iV A τ (rK l))/\lnA A l τ=X5 A τ (rK l)++thA A τ l:=by
 delta nI Q4
 cases l with
 |plain k tag s hs ls =>
  rw[bX,lnA,ZS];exact⟨rfl,rfl,rfl⟩
 |part k n g=>exact⟨rfl,rfl,rfl⟩
 |give k n r ls =>
  rw[bX,lnA,ZS];exact⟨rfl,rfl,rfl⟩
 |when r l1 l2=>cases h
 |each n r ls=>cases h
def JZ: (nI A (.when r l1 l2) τ N=if r.val A τ=0 then jV A l2 τ N else jV A l1 τ N)/\Q4 A (.when r l1 l2) τ N=if r.val A τ=0 then gW A l2 τ N else gW A l1 τ N:=by
 delta nI Q4 jV gW
 rw[bX]
 by_cases h:r.val A τ=0
 .rw [AW h,AW h,AW h]
  exact pZ A l2 τ [] N _
 .rw [AX h,AX h,AX h]
  exact pZ A l1 τ [] N _
def vK(A:Rds)(n:Str)(ls:List Ln)(τ:Tns)(N:Tns)(j:Nat):DSt:=(List.range j).foldl (fun st k=>cQ A ls (vZ τ (.inr n) (.int (k:Nat))) st) ([],N,[])
def KA A n ls τ N j:(vK A n ls τ N (j+1)).1=(vK A n ls τ N j).1++jV A ls (vZ τ (.inr n) (.int j )) (vK A n ls τ N j).2.1/\(vK A n ls τ N (j+1)).2.1=gW A ls (vZ τ (.inr n) (.int j )) (vK A n ls τ N j).2.1:=by
 have e:vK A n ls τ N (j+1)=cQ A ls (vZ τ (.inr n) (.int (j:Nat))) (vK A n ls τ N j):=by
  delta vK
  rw[DY,BZ]
  rfl
 exact e▸pZ A ls _ (vK A n ls τ N j).1 (vK A n ls τ N j).2.1 (vK A n ls τ N j).2.2
def J0: nI A (.each n r ls) τ N=(vK A n ls τ N (iU (r.val A τ))).1/\Q4 A (.each n r ls) τ N=(vK A n ls τ N (iU (r.val A τ))).2.1:=by
 exact Spl.fold (fun k=>pZ A ls _) _ [] N _
def ZR A ls τ N:(jV A ls τ N).length<=Ln.tws ls:=by
 have:=(cZ A ls τ ([],N,[])).1
 rwa [Be,Bt] at this
def Yb A n ls τ N j:(vK A n ls τ N j).1.length<=j * Ln.tws ls:=by
 have:=cG (f:=fun st k=>cQ A ls (vZ τ (.inr n) (.int (k:Nat))) st) (m:=fun st=>st.1.length) (fun x k=>(cZ A ls _ x).1) (List.range j) ([],N,[]);rw[An] at this;have this:(vK A n ls τ N j).1.length<=0+j * Ln.tws ls:=this
 lia
structure Rv(A:Rds)(bs:List Str)(R:Rds):Prop where
 nd:(R.map (·.1)).Nodup
 vs:∀kv∈R,∃s n,mM bs s n/\kv=(qK s n,.int (eX A s n))
theorem Rv.nil:Rv A bs []:=⟨DF,fun _ z=>nomatch z⟩
def rH:iC A bs (Rv A bs):=fun R s n h hR=>⟨by
  rw[cW]
  split
  .exact hR.nd
  .next hn =>
   rw[List.nodup_append];refine⟨hR.nd,by simp,fun a ha b hb e=>?_⟩;cases AE.1 hb
   exact hn (e▸ha),bO R s n h hR.vs⟩
def Rv.rd(h:Rv A bs R)(hA:ABd A):RdOk bs R:=⟨h.nd,fun k hk=>by
  obtain⟨kv,hm,rfl⟩:=AU.1 hk;obtain⟨s,n,h1,rfl⟩:=h.vs kv hm
  exact⟨s,n,rfl,h1⟩,fun kv hm=>by
  obtain⟨s,n,h1,rfl⟩:=h.vs kv hm
  exact⟨_,rfl,(jB hA s n).2⟩⟩
structure Wh(A:Rds)(bs:List Str)(R:Rds)(L:List (List Key))(R':Rds):Prop where
 v:Rv A bs R'
 k:∀k,k∈kys R'↔k∈kys R\/k∈L
def Wh.refl(h:Rv A bs R):Wh A bs R [] R:=⟨h,fun k=>by simp⟩
theorem Wh.trans(h:Wh A bs R L R1)(g:Wh A bs R1 M Rb):Wh A bs R (L++M) Rb:=⟨g.v,fun k=>by rw[g.k,h.k,AV,Bk]⟩
def Wh.congr(h:Wh A bs R L R1)(g:∀k,k∈L↔k∈M):Wh A bs R M R1:=⟨h.v,fun k=>by rw[h.k,g]⟩
def Wh.rk(h:Rv A bs R)(hr:Rk.ok bs ns d r):Wh A bs R (r.asks A τ) (r.rds A τ R):=⟨pJ rH hr h,fun k=>yY r R⟩
def Wh.nums(h:Rv A bs R)(hr:PrOk bs ns d ps):Wh A bs R (vU A τ ps) (jZ A τ ps R):=⟨dZ rH hr h,fun k=>cF ps R⟩
def Rv.perm(h:Rv A bs R)(g:Rv A bs R')(e:∀k,k∈kys R↔k∈kys R'):(R.map rdC).Perm (R'.map rdC):=by
 have f:∀{R:Rds},Rv A bs R->R.map rdC=(kys R).map fun k=>(k.map stOf,match k with | [.inr s,.inr n]=>eX A s n | _=>0):=fun {R}h=>by
  rw[BX];refine Cy fun kv hk=>?_;obtain⟨s,n,_,rfl⟩:=h.vs kv hk
  rfl
 rw[f h,f g];exact((List.perm_ext_iff_of_nodup h.nd g.nd).2 e).map _
def Rv.nd2(h:Rv A bs R):((R.map rdC).map (·.1)).Nodup:=by
 rw[BX];refine List.pairwise_map.2 ((List.pairwise_map.1 h.nd).imp_of_mem fun {x y}hx hy hne e=>hne ?_);obtain⟨s,n,_,rfl⟩:=h.vs x hx;obtain⟨s',n',_,rfl⟩:=h.vs y hy;have e:[s,n]=[s',n']:=e;injection e with e1 e2
 injection e2 with e2 _
 rw[e1,e2]
def SN(N:Tns)(ks:List Key):Prop:=∀k,qD N k=(tE k ks:Nat)
section
variable {W:Wd}{a:Adr}
inductive gWs(d:Nat)(ts:List PV)(C:CH)(Q:K1):Prop
 |mk(ls:List Ln)(pd aa tt rr sn:Addr)(A:Rds)(τ:Tns)(R:Rds)(N:Tns)(ks:List Key)(bs rs ns:List Str)(z0:ts=[.tup (Ln.pvs ls),.ref pd,.ref tt,.ref sn])(z1:∀x∈ls,LnOk bs rs d ns x)(z2:Ln.tws ls<=400)(z3:ks.length+Ln.tws ls<=1000)(z4:τ.length+d<=50)(z5:Pad C pd aa tt rr A τ R)(z6:C sn=some (.lst (ks.map oJ)))(z7:sn≠pd)(z8:uW A τ bs ns)(z9:Rv A bs R)(z10:SN N ks)(z11:∀C' p R' ks',C' p=some (.lst (Wt.pvs (jV A ls τ N)))->C p=none->C' rr=some (.dT R')->Wh A bs R (lK A ls τ) R'->C' sn=some (.lst (ks'.map oJ))->SN (gW A ls τ N) ks'->ks'.length<=ks.length+Ln.tws ls->ExS [rr,sn] C C'->Q (.ref p) C'):gWs d ts C Q
def Zf(d:Nat):GC:=fun ts C Q=>∃d',d=d'+1/\gWs d' ts C Q
inductive gWn(d:Nat)(ts:List PV)(C:CH)(Q:K1):Prop
 |mk(l:Ln)(sp:List Key)(pd aa tt rr:Addr)(A:Rds)(τ:Tns)(R:Rds)(bs rs ns:List Str)(z0:ts=[l.pv,uU sp,.ref pd,.ref tt])(z1:Qy l=true)(z2:LnOk bs rs d ns l)(z3:l.tw<=400)(z4:τ.length+d<=50)(z5:Pad C pd aa tt rr A τ R)(z6:uW A τ bs ns)(z7:Rv A bs R)(z8:∀C' R',C' rr=some (.dT R')->Wh A bs R (thA A τ l) R'->ExS [rr] C C'->Q (Vk A τ sp l).pv C'):gWn d ts C Q
theorem SN.nil:SN [] []:=fun k=>rfl
def ZN(h1:∀x∈ls,LnOk bs rs d ns x)(h2:Ln.tws ls<=400)(h4:τ.length+d<=50)(hP:Pad C pd aa tt rr A τ R)(hS:uW A τ bs ns)(hR:Rv A bs R)(q:∀C' R',C' rr=some (.dT R')->Wh A bs R (lK A ls τ) R'->ExS [rr] C C'->Q (.tup (Wt.pvs (jV A ls τ []))) C'):
  ∀sn,C sn=none->Zf (d+1) [.tup (Ln.pvs ls),.ref pd,.ref tt,.ref sn] (uQ C sn (.lst [])) fun v C'=>tM [v] C' Q:=fun sn hsn=>by
 have g:=ExS.refl.put (S:=[rr]) hsn (.lst []);refine⟨d,rfl,ls,pd,aa,tt,rr,sn,A,τ,R,[],[],bs,rs,ns,rfl,h1,h2,by rw[Be];lia,h4,(hP.ex g (by rw[wQ fun z=>by rw[<- z,hP.e.hr] at hsn;cases hsn];exact hP.e.hr)),xQ,(fun z=>by rw[z,hP.p] at hsn;cases hsn),hS,hR,SN.nil,fun C' p R' ks' m1 m2 m3 wh _ _ _ x=>mJ m1 (q C' R' m3 wh ?_)⟩;intro b o nb hb;have nsn:b≠sn:=fun z=>by rw[z,hsn] at hb;cases hb
 exact x b o (fun z=>by
  rcases Af.1 z with z | z
  .exact nb (z▸AF)
  .exact nsn (AE.1 z)) (by rwa [wQ nsn])
def Wg(T:Tx W a)(d r:Nat)(h4:4<=r)(lV:Ok W a r 34 U1 (Zf d)):
  Ok W a (r+1) 33 U8 (gWn d):=by
 have S:=(T.F 33 rfl).s;have eZ:=(fF T 2).mono (show 3<=r by lia);have zR:=(Kc T).mono (show 4<=r by lia)
 refine(T.F 33 rfl).ok (fun ts C R h=>?_) fun cdv A outer s H E hr=>⟨_,(jQ (rQ (ct2 fX oQ (cx (cv 0) zQ) kQ) (vQ (gQ (lQ (qQ kQ (qQ (cv 1) (qQ (cx (cv 0) zQ) (ca1 (cf (T.F 32 rfl) zR hr (qQ (cx (cv 0) zQ) (qQ (cv 2) (ca1 (cv 3)))))))))))) pQ)
  (jQ (rQ (ct2 fX oQ (cx (cv 0) zQ) kQ) (jQ (cs1 4 S.nd (cf (T.F 31 rfl) eZ hr (qQ (cx (cv 0) zQ) (qQ (cv 2) (ca1 (cv 3))))))
  (vQ (gQ (lQ (qQ kQ (qQ (cv 1) (qQ (cx (cv 0) zQ) (qQ (cv 4) (ca1 (ctp T.vX (cf (T.F 34 rfl) lV hr (qQ (cx (cv 0) zQ) (qQ (cv 2) (qQ (cv 3) (ca1 (zX sJ)))))))))))))))) pQ)
  (jQ (cs1 5 S.nd (zX sJ))
  (jQ (oG PassesOwn.never rfl (cx (cv 0) zQ) (aE rfl (nK (cg1 6 S.nd) (nK (cg1 7 S.nd) (nK (cg1 8 S.nd) (nK (cg1 9 S.nd) nP))))) (jQ (Yk (i:=10) S.nd rfl (Or.inl rfl) rfl (show(["_law_box","_law_word","_law_rule","_law_line_here","_law_spot","_law_pad","_law_turns","_law_number_here","_law_hands_here","_law_event","_law_rank","_law_last","_law_changes","_law_told","_law_row"]:List Str).Nodup by decide +kernel) (aF (N:=U2) (sc:=mX (top 43)) rfl rfl rfl (by decide +kernel)) (zU (cv 9)) (fun _ _ _ _ _=>nJ) (fun _ _ _ _ _=>(lQ (qQ (cv 0) (qQ (cv 1) (ca1 (cf (T.F 31 rfl) eZ hr (qQ (cv 2) (qQ (cv 5) (ca1 (cv 6)))))))))))
  (vQ (vJ (cap (cv 5) (lQ (qQ (cv 6) (qQ (cv 7) (qQ (cv 8) (ca1 (ctp T.vX (cv 10))))))))))))
  (jQ (cs1 11 S.nd (ctp T.vX (cf (T.F 34 rfl) lV hr (qQ (cx (cv 0) zQ) (qQ (cv 2) (qQ (cv 3) (ca1 (zX sJ))))))))
  (vQ (gQ (lQ (qQ kQ (qQ (cv 1) (qQ (cx (cv 0) zQ) (qQ (cf (T.F 32 rfl) zR hr (qQ (cx (cv 0) zQ) (qQ (cv 2) (ca1 (cv 3))))) (qQ (ctp T.vX (cv 5)) (ca1 (cv 11))))))))))))))),?_⟩
 .obtain ⟨l,sp,pd,aa,tt,rr,A,τ,R,bs,rs,ns,rfl,_⟩:=h;rfl
 rintro ts C Q ⟨l,sp,pd,aa,tt,rr,A,τ,R,bs,rs,ns,rfl,hth,ok,htw,hτ,hP,hS,hR,q⟩;have hRd:=hR.rd hS.a
 cases d with
 |zero=>exact ok.elim
 |succ d =>
 cases l with
 |when r l1 l2=>cases hth
 |each n r ls=>cases hth
 |part k n g =>
  obtain⟨h1,h2,h3,h4'⟩:=ok
  delta Ln.pv
  refine wX gX (qX (dQ _ _) (jJ (by decide) ?_));refine wX (v:=.str n) rfl (wX (v:=.tup (g.map vW)) rfl ?_);refine⟨g,pd,aa,tt,rr,A,τ,R,bs,ns,rfl,fun x hx=>⟨(h3 x hx).1.mono (by decide),(h3 x hx).2⟩,h4',hP,hS,hRd,fun C1 m1 e1=>⟨y0 4 rfl,?_⟩⟩;have:=q C1 _ m1 (Wh.nums hR h3) e1;unfold Vk Wt.pv at this;exact this
 |give k n rk ls =>
  obtain⟨h1,h2,h3,h4',h5⟩:=ok;unfold Ln.pv;refine wX gX (qX (dQ _ _) (rX (by decide) (sQ ?_)));refine wX gX (qX (dQ _ _) (jJ (by decide) ?_));refine yQ (wX (v:=rk.pv) rfl ⟨rk,pd,aa,tt,rr,A,τ,R,bs,ns,rfl,h3.mono (by decide),hP,hS,hRd,fun C1 m1 e1=>?_⟩);have w1:Wh A bs R (rk.asks A τ) (rk.rds A τ R):=Wh.rk hR h3;have htw':1+Ln.tws ls<=400:=htw;refine wX (v:=.str n) rfl (wX (v:=.tup (Ln.pvs ls)) rfl ⟨y0 0 rfl,fun sn hsn=>?_⟩)
  refine ZN (Q:=fun v C'=>5<=sizeLine/\Q (.tup [.str "give",uU sp,.str n,.int (rk.val A τ),v]) C') h4' (by lia) (by lia) (hP.ex e1 m1) hS w1.v (fun C2 R2 m2 w2 e2=>⟨by decide,?_⟩) sn hsn;have:=q C2 R2 m2 (w1.trans w2) (e1.trans e2);unfold Vk Wt.pv at this;exact this
 |plain k tag ss hs ls =>
  obtain⟨h1,h2,h3,h4',h5⟩:=ok;unfold Ln.pv;refine wX gX (qX (dQ _ _) (rX (by decide) (sQ ?_)));refine wX gX (qX (dQ _ _) (rX (by decide) (sQ ?_)))
  try dsimp only
  refine yQ ⟨y0 0 rfl,fun h hh=>?_⟩;have hE:=hP.e;have nhr:h≠rr:=fun z=>by rw[z,hE.hr] at hh;cases hh
  try dsimp only
  generalize hl0:PV.tup [PV.str "plain",pG k,PV.str tag,PV.tup (List.map vW ss),PV.tup (List.map Hd.pv hs),PV.tup (Ln.pvs ls)]=lp
  have ilp:∀(i:Int)(v:PV)(C':CH)(Q':K1),atI [PV.str "plain",pG k,PV.str tag,PV.tup (List.map vW ss),PV.tup (List.map Hd.pv hs),PV.tup (Ln.pvs ls)] i=some v->Q' v C'->cIx lp (.int i) C' Q':=by
   intro i v C' Q' e h;rw[<- hl0];exact wX e h
  refine aQ (fun ρ' C'=>∃(x6 x7 x8 x9 x10:Option PV),ρ'=[some lp,some (uU sp),some (.ref pd),some (.ref tt),none,some (.ref h),x6,x7,x8,x9,x10,none]/\C' h=some (.lst ((lZ A τ hs).map HdV.pv))/\C' rr=some (.dT (xZ A τ hs R))/\ExS [rr] C C') (fun L hL=>?_) ?_
  .refine nN (ilp 4 (.tup (hs.map Hd.pv)) _ _ rfl ?_)
   refine uJ (fun zs ρ C'=>∃(ds us:List Hd)(x6 x7 x8 x9 x10:Option PV),hs=ds++us/\zs=us.map Hd.pv/\ρ=[some lp,some (uU sp),some (.ref pd),some (.ref tt),none,some (.ref h),x6,x7,x8,x9,x10,none]/\C' h=some (.lst ((lZ A τ ds).map HdV.pv))/\C' rr=some (.dT (xZ A τ ds R))/\ExS [rr] C C') ?_ ?_ _ _ _ ⟨[],hs,_,_,_,_,_,rfl,rfl,rfl,xQ,by rw[wQ (Ne.symm nhr)];exact hE.hr,ExS.refl.put hh _⟩
   .rintro z zs ρ C1 ⟨ds,us,x6,x7,x8,x9,x10,e,hz,rfl,mh,m1,e1⟩ L1 hL1
    cases us with
    |nil=>cases hz
    |cons u us =>
     obtain⟨rfl,rfl⟩:=BQ hz;have hu:u∈hs:=by rw[e];exact AR _ AF
     have huo:=h3.1 u hu;have hdl:ds.length < 5:=by have:=Bg List.length e;rw[AL,AY] at this;have:=h3.2;lia
     have R1:RdOk bs (xZ A τ ds R):=iK (fZ hS.a) (fun x hx=>h3.1 x (by rw[e];exact Aq _ hx)) hRd;refine⟨rfl,sV (sV (sV (sV (dE ?_))))⟩
     try dsimp only
     refine yQ (pT (fun zs acc C'=>∃cs vs:List (Str×Str×Rk),u.ch=cs++vs/\zs=vs.map Yr/\acc=(zD A τ cs).map Zl/\C' h=some (.lst ((lZ A τ ds).map HdV.pv))/\C' rr=some (.dT (aU A τ cs (xZ A τ ds R)))/\ExS [rr] C1 C') ?_ ?_ _ _ _ ⟨[],u.ch,rfl,rfl,rfl,mh,m1,ExS.refl⟩)
     .rintro z zs acc C2 ⟨cs,vs,ec,hz,rfl,mh2,m2,e2⟩
      cases vs with
      |nil=>cases hz
      |cons v vs =>
       obtain⟨rfl,rfl⟩:=BQ hz;refine⟨[.str v.1,.str v.2.1,v.2.2.pv],rfl,rfl,fun L2 hL2=>?_⟩;have hcl:cs.length < 5:=by have:=Bg List.length ec;rw[AL,AY] at this;have:=huo.1;lia
       refine⟨v.2.2,pd,aa,tt,rr,A,τ,_,bs,ns,rfl,(huo.c v (by rw[ec];exact AR _ AF)).mono (by decide),hP.ex (e1.trans e2) m2,hS,jD (fZ hS.a) (fun x hx=>huo.c x (by rw[ec];exact Aq _ hx)) R1,fun C3 m3 e3=>⟨y0 3 rfl,hL2 _ _ ⟨?_,cs++[v],vs,by rw[Aj];exact ec,rfl,?_,e3 _ _ (fun z=>nhr (AE.1 z)) mh2,?_,e2.trans e3⟩⟩⟩
       .rw [AB]
        delta zD
        rw[AB];exact AS hcl (by decide)
       .delta zD
        rw[Ab,Ab]
        rfl
       .rw [m3]
        delta aU
        rw[BZ]
        rfl
     .rintro acc C2 ⟨cs,vs,ec,hz,rfl,mh2,m2,e2⟩ p hp
      cases vs with
      |cons v vs=>cases hz
      |nil =>
       rw[Al] at ec;have nph:p≠h:=fun z=>by subst z;rw[mh2] at hp;cases hp
       have npr:p≠rr:=fun z=>by subst z;rw[m2] at hp;cases hp
       try dsimp only
       refine⟨eW (xs:=(lZ A τ ds).map HdV.pv) (by rw[wQ (Ne.symm nph)];exact mh2),mJ xQ ⟨y0 4 rfl,?_⟩⟩;refine qP (xs:=(lZ A τ ds).map HdV.pv) (by rw[wQ (Ne.symm nph)];exact mh2) (by delta lZ;rw[AB,AB];exact AS hdl (by decide)) ?_;refine hL1 _ _ ⟨ds++[u],us,_,_,_,_,_,by rw[Aj];exact e,rfl,rfl,?_,?_,?_⟩
       .rw [xQ,<- ec]
        unfold lZ;rw[Ab,Ab]
        rfl
       .rw [wQ (Ne.symm nhr),wQ (Ne.symm npr),m2,<- ec]
        unfold xZ;rw[BZ]
        rfl
       .have x2:ExS [rr] C C2:=e1.trans e2
        exact((x2.put (x2.none (fun z=>npr (AE.1 z)) hp) _).put hh _)
   .rintro ρ C1 ⟨ds,us,x6,x7,x8,x9,x10,e,hz,rfl,mh,m1,e1⟩
    cases us with
    |cons u us=>cases hz
    |nil =>
     rw[Al] at e;subst e;exact hL _ _ ⟨_,_,_,_,_,rfl,mh,m1,e1⟩
  rintro ρ' C1 ⟨x6,x7,x8,x9,x10,rfl,mh,m1,e1⟩
  try dsimp only
  have w1:Wh A bs R (wL A τ hs) (xZ A τ hs R):=⟨iK rH h3.1 hR,fun k=>aS hs R⟩;have htw':1+Ln.tws ls<=400:=htw;have P1:=hP.ex e1 m1;refine yQ (ilp 5 (.tup (Ln.pvs ls)) _ _ rfl ⟨y0 0 rfl,fun sn hsn=>ZN h4' (by lia) (by lia) P1 hS w1.v (fun C2 R2 m2 w2 e2=>?_) sn hsn⟩);have w12:=w1.trans w2
  try dsimp only
  refine ilp 2 (.str tag) _ _ rfl (ilp 3 (.tup (ss.map vW)) _ _ rfl ⟨ss,pd,aa,tt,rr,A,τ,_,bs,ns,rfl,h2.1,h2.2,P1.ex e2 m2,hS,w2.v.rd hS.a,fun C3 m3 e3=>?_⟩);have w3:Wh A bs R2 (vU A τ ss) (jZ A τ ss R2):=Wh.nums w2.v h2.1;have nS:h∉[rr]:=fun z=>nhr (AE.1 z);refine mJ (e3 _ _ nS (e2 _ _ nS mh)) ⟨y0 6 rfl,?_⟩
  have:=q C3 _ m3 ((w12.trans w3).congr fun k=>by
   show k∈(wL A τ hs++lK A ls τ)++vU A τ ss↔k∈vU A τ ss++(wL A τ hs++lK A ls τ)
   rw[AV,AV (s:=vU A τ ss),or_comm]) ((e1.trans e2).trans e3)
  unfold Vk Wt.pv at this;exact this
end
def SN.add(h:SN N ks)k:SN (yV N k) (ks++[k]):=fun j=>by
 rw[qU]
 have e:tE j (ks++[k])=tE j ks+if k=j then 1 else 0:=by
  delta tE
  rw[List.countP_append,List.countP_singleton]
  congr 1
  by_cases z:k=j
  .rw [AW z,AW (Ai z)]
  .rw [AX z,AX ((AQ z)▸AN)]
 rw[e];have h1:=h j
 by_cases z:j=k
 .subst z
  rw[AW rfl,AW rfl,h1]
  lia
 .rw [AX z,AX (Ne.symm z),h1]
  rfl
theorem Z8:∀ks,oY (ks.map oJ)=some ks
 |[]=>rfl
 |k::ks=>by
  show(match zW (oJ k),oY (ks.map oJ) with | some k,some ks=>some (k::ks) | _,_=>none)=_;rw[qW,Z8 ks]
structure WI(C0 C:CH)(pd aa tt rr sn rv:Addr)(A:Rds)(τ:Tns)(bs:List Str)(R0 R:Rds)(L:List (List Key))(N:Tns)(ks:List Key)(F:List Wt):Prop where
 m:C rv=some (.lst (Wt.pvs F))
 f:C0 rv=none
 nr:rv≠rr
 ns:rv≠sn
 p:Pad C pd aa tt rr A τ R
 w:Wh A bs R0 L R
 s:C sn=some (.lst (ks.map oJ))
 c:SN N ks
 x:ExS [rr,sn] C0 C
 sp:sn≠pd
 np:rv≠pd
section
variable {C0 C C' C1:CH}{pd aa tt rr sn rv:Addr}{A:Rds}{τ:Tns}{bs:List Str}{R0 R R':Rds}{L M:List (List Key)}{N N':Tns}{ks ks':List Key}{F G:List Wt}
def WI.sr(h:WI C0 C pd aa tt rr sn rv A τ bs R0 R L N ks F):sn≠rr:=fun z=>by have:=h.s;rw[z,h.p.e.hr] at this;cases this
def exS_12(e:ExS [r] C C'):ExS [r,s] C C':=fun b o n h=>e b o (fun z=>n ((AE.1 z)▸AF)) h
def n12{r s:Addr}(h1:b≠r)(h2:b≠s):b∉[r,s]:=fun z=>by
 rcases Af.1 z with z | z
 .exact h1 z
 .exact h2 (AE.1 z)
def WI.rd(h:WI C0 C pd aa tt rr sn rv A τ bs R0 R L N ks F)(e:ExS [rr] C C')(m:C' rr=some (.dT R'))(w:Wh A bs R M R'):WI C0 C' pd aa tt rr sn rv A τ bs R0 R' (L++M) N ks F :=
 ⟨e _ _ (fun z=>h.nr (AE.1 z)) h.m,h.f,h.nr,h.ns,h.p.ex e m,h.w.trans w,e _ _ (fun z=>h.sr (AE.1 z)) h.s,h.c,h.x.trans (exS_12 e),h.sp,h.np⟩
def Pad.ex2(h:Pad C pd aa tt rr A τ R)(s:C sn=some (.lst xs))(n:sn≠pd)(x:ExS [rr,sn] C C')(m:C' rr=some (.dT R')):Pad C' pd aa tt rr A τ R' :=
 ⟨⟨x _ _ (n12 h.e.ne fun z=>by have:=h.e.ha;rw[z,s] at this;cases this) h.e.ha,x _ _ (n12 h.e.nt fun z=>by have:=h.e.ht;rw[z,s] at this;cases this) h.e.ht,m,h.e.ne⟩,x _ _ (n12 h.nr (Ne.symm n)) h.p⟩
def WI.call(h:WI C0 C pd aa tt rr sn rv A τ bs R0 R L N ks F)(x:ExS [rr,sn] C C1){p}(m1:C1 p=some (.lst (Wt.pvs G)))(m3:C1 rr=some (.dT R'))(w:Wh A bs R M R')(s:C1 sn=some (.lst (ks'.map oJ)))(c:SN N' ks'):
  C1 rv=some (.lst (Wt.pvs F))/\∀p2,C1 p2=none->WI C0 (uQ C1 p2 (.lst (Wt.pvs F++Wt.pvs G))) pd aa tt rr sn p2 A τ bs R0 R' (L++M) N' ks' (F++G):=by
 refine⟨x _ _ (n12 h.nr h.ns) h.m,fun p2 hp2=>?_⟩;have hn:∀b o,C1 b=some o->b≠p2:=fun b o e z=>by rw[z,hp2] at e;cases e
 have P1:=h.p.ex2 h.s h.sp x m3;refine⟨by rw[xQ,Wt.pvs_app],?_,Ne.symm (hn _ _ m3),Ne.symm (hn _ _ s),⟨⟨?_,?_,?_,P1.e.ne⟩,?_⟩,h.w.trans w,?_,c,(h.x.trans x).put ?_ _,h.sp,Ne.symm (hn _ _ P1.p)⟩
 .exact (h.x.trans x).none (n12 (Ne.symm (hn _ _ m3)) (Ne.symm (hn _ _ s))) hp2
 .exact (wQ (hn _ _ P1.e.ha))▸P1.e.ha
 .exact (wQ (hn _ _ P1.e.ht))▸P1.e.ht
 .rwa [wQ (hn _ _ m3)]
 .exact (wQ (hn _ _ P1.p))▸P1.p
 .rwa [wQ (hn _ _ s)]
 .exact (h.x.trans x).none (n12 (Ne.symm (hn _ _ m3)) (Ne.symm (hn _ _ s))) hp2
def WI.gr(h:WI C0 C pd aa tt rr sn rv A τ bs R0 R L N ks F)(g:Gr C C'):WI C0 C' pd aa tt rr sn rv A τ bs R0 R L N ks F :=
 ⟨g _ _ h.m,h.f,h.nr,h.ns,⟨⟨g _ _ h.p.e.ha,g _ _ h.p.e.ht,g _ _ h.p.e.hr,h.p.e.ne⟩,g _ _ h.p.p⟩,h.w,g _ _ h.s,h.c,fun b o n e=>g _ _ (h.x b o n e),h.sp,h.np⟩
def WI.seen(h:WI C0 C pd aa tt rr sn rv A τ bs R0 R L N ks F)k:WI C0 (uQ C sn (.lst (ks.map oJ++[oJ k]))) pd aa tt rr sn rv A τ bs R0 R L (yV N k) (ks++[k]) F:=by
 have x:ExS [rr,sn] C (uQ C sn (.lst (ks.map oJ++[oJ k]))):=ExS.refl.at (by simp) _;refine⟨x _ _ (n12 h.nr h.ns) h.m,h.f,h.nr,h.ns,h.p.ex2 h.s h.sp x ?_,h.w,?_,h.c.add k,h.x.trans x,h.sp,h.np⟩
 .exact (wQ (Ne.symm h.sr))▸h.p.e.hr
 .rw [xQ,Ab];rfl
def WI.app(h:WI C0 C pd aa tt rr sn rv A τ bs R0 R L N ks F)(w:Wt):WI C0 (uQ C rv (.lst (Wt.pvs F++[w.pv]))) pd aa tt rr sn rv A τ bs R0 R L N ks (F++[w]):=by
 have n1:aa≠rv:=fun z=>by have:=h.p.e.ha;rw[z,h.m] at this;cases this
 have n2:tt≠rv:=fun z=>by have:=h.p.e.ht;rw[z,h.m] at this;cases this
 refine⟨by rw[xQ,Wt.pvs_app];rfl,h.f,h.nr,h.ns,⟨⟨?_,?_,?_,h.p.e.ne⟩,?_⟩,h.w,?_,h.c,h.x.put h.f _,h.sp,h.np⟩
 .exact (wQ n1)▸h.p.e.ha
 .exact (wQ n2)▸h.p.e.ht
 .exact (wQ (Ne.symm h.nr))▸h.p.e.hr
 .exact (wQ (Ne.symm h.np))▸h.p.p
 .exact (wQ (Ne.symm h.ns))▸h.s
def WI.congr(h:WI C0 C pd aa tt rr sn rv A τ bs R0 R L N ks F)(e1:L=M)(e2:N=N')(e3:F=G):WI C0 C pd aa tt rr sn rv A τ bs R0 R M N' ks G:=by subst e1 e2 e3;exact h
end
section
variable {W:Wd}{a:Adr}
def mS(T:Tx W a)(d r:Nat)(h4:4<=r)(lV:Ok W a r 34 U1 (Zf d))(YJ:Ok W a r 33 U8 (gWn d)):
  Ok W a (r+1) 34 U1 (gWs d):=by
 have S:=(T.F 34 rfl).s;have eZ:=(fF T 2).mono (show 3<=r by lia)
 refine(T.F 34 rfl).ok (fun ts C R h=>?_) fun cdv A outer s H E hr=>⟨_,(jQ (cs1 4 S.nd (zX sJ))
  (jQ (oG PassesOwn.never rfl (cv 0) (cg1 5 S.nd) (vQ (rQ (ct2 fX oQ (cx (cv 5) zQ) kQ) (jQ (cs1 6 S.nd (cf (T.F 31 rfl) eZ hr (qQ (cx (cv 5) zQ) (qQ (cv 1) (ca1 (cv 2))))))
  (vQ (cs1 4 S.nd (tQ nX sX (cv 4) (cf (T.F 34 rfl) lV hr (qQ (xD (ct2 bF tG (cv 6) zQ) (cx (cv 5) zQ) (cx (cv 5) zQ)) (qQ (cv 1) (qQ (cv 2) (ca1 (cv 3)))))))))) (vQ (rQ (ct2 fX oQ (cx (cv 5) zQ) kQ) (jQ (cs1 6 S.nd (cf (T.F 31 rfl) eZ hr (qQ (cx (cv 5) zQ) (qQ (cv 1) (ca1 (cv 2))))))
  (vQ (oB PassesOwn.never rfl rfl T.rV (ca1 (nQ (iB rfl) tP rfl T.ZF rfl (qQ zQ (ca1 (nQ (aB rfl) oP rfl T.ZE rfl (qQ zQ (ca1 (cv 6)))))))) (cg1 7 S.nd) (jQ (cs1 8 S.nd (bJ bC lT rfl T.kH rfl (ca1 (cv 2))))
  (jQ (mK (yX hr) (cv 8) (cx (cv 5) zQ) (cv 7))
  (vQ (cs1 4 S.nd (tQ nX sX (cv 4) (cf (T.F 34 rfl) lV hr (qQ (cx (cv 5) zQ) (qQ (cv 1) (qQ (cv 8) (ca1 (cv 3)))))))))))))) (jQ (cs1 9 S.nd vV)
  (jQ (rQ (ct2 lO zC (cx (cv 5) zQ) vV) (vQ (cs1 9 S.nd (cf (T.F 31 rfl) eZ hr (qQ (cx (cv 5) zQ) (qQ (cv 1) (ca1 (cv 2))))))) pQ)
  (jQ (cs1 10 S.nd (lQ (qQ (cv 9) (ca1 (Jw BY PySem.F.slot_list_count PySem.F.type_list_count Wr KH (cv 3) (ca1 (cv 9)))))))
  (jQ (vJ (cap (cv 3) (cv 9)))
  (vQ (vJ (cap (cv 4) (cf (T.F 33 rfl) YJ hr (qQ (cv 5) (qQ (cv 10) (qQ (cv 1) (ca1 (cv 2))))))))))))))))))
  (vQ (gQ (cv 4))))),?_⟩
 .obtain ⟨ls,pd,aa,tt,rr,sn,A,τ,R,N,ks,bs,rs,ns,rfl,_⟩:=h;rfl
 rintro ts C Q ⟨ls,pd,aa,tt,rr,sn,A,τ,R,N,ks,bs,rs,ns,rfl,ok,hF,hN,hτ,hP,hs,hsp,hS,hR,hC,q⟩;refine yQ ⟨y0 0 rfl,fun rw0 hrw0=>?_⟩
 have h0:WI C (uQ C rw0 (.lst [])) pd aa tt rr sn rw0 A τ bs R R [] N ks []:=by
  have hn:∀b o,C b=some o->b≠rw0:=fun b o e z=>by rw[z,hrw0] at e;cases e
  refine⟨xQ,hrw0,Ne.symm (hn _ _ hP.e.hr),Ne.symm (hn _ _ hs),⟨⟨?_,?_,?_,hP.e.ne⟩,?_⟩,Wh.refl hR,?_,hC,ExS.refl.put hrw0 _,hsp,Ne.symm (hn _ _ hP.p)⟩
  .rw [wQ (hn _ _ hP.e.ha)];exact hP.e.ha
  .rw [wQ (hn _ _ hP.e.ht)];exact hP.e.ht
  .rw [wQ (hn _ _ hP.e.hr)];exact hP.e.hr
  .rw [wQ (hn _ _ hP.p)];exact hP.p
  .rw [wQ (hn _ _ hs)];exact hs
 generalize uQ C rw0 (.lst [])=Ca at h0 ⊢;refine aQ (fun ρ' C'=>∃(rv:Addr)(R':Rds)(ks':List Key)(x5 x6 x7 x8 x9 x10:Option PV),ρ'=[some (.tup (Ln.pvs ls)),some (.ref pd),some (.ref tt),some (.ref sn),some (.ref rv),x5,x6,x7,x8,x9,x10]/\WI C C' pd aa tt rr sn rv A τ bs R R' (lK A ls τ) (gW A ls τ N) ks' (jV A ls τ N)/\ks'.length<=ks.length+Ln.tws ls) (fun L hL=>?_) ?_
 .refine W2 rfl (uJ (fun zs ρ C'=>∃(ds us:List Ln)(rv:Addr)(R':Rds)(ks':List Key)(x5 x6 x7 x8 x9 x10:Option PV),ls=ds++us/\zs=Ln.pvs us/\ρ=[some (.tup (Ln.pvs ls)),some (.ref pd),some (.ref tt),some (.ref sn),some (.ref rv),x5,x6,x7,x8,x9,x10]/\WI C C' pd aa tt rr sn rv A τ bs R R' (lK A ds τ) (gW A ds τ N) ks' (jV A ds τ N)/\ks'.length<=ks.length+Ln.tws ds) ?_ ?_ _ _ _ ⟨[],ls,rw0,R,ks,_,_,_,_,_,_,rfl,rfl,rfl,h0.congr (by rw[lK]) rfl rfl,BV _ _⟩)
  .rintro z zs ρ C1 ⟨ds,us,rv,R1,ks1,x5,x6,x7,x8,x9,x10,e,hz,rfl,w1,hk1⟩ L1 hL1
   cases us with
   |nil=>cases hz
   |cons u us =>
   obtain⟨rfl,rfl⟩:=BQ hz;have hu:=ok u (e▸AR _ AF);have htw:Ln.tws ls=Ln.tws ds+(u.tw+Ln.tws us):=by rw[e,Ln.tws_app];rfl
   have lenD:=ZR A ds τ N
   have fin:∀C' rw' R' ks' y6 y7 y8 y9 y10,WI C C' pd aa tt rr sn rw' A τ bs R R' (lK A ds τ++lnA A u τ) (Q4 A u τ (gW A ds τ N)) ks' (jV A ds τ N++nI A u τ (gW A ds τ N))->ks'.length<=ks1.length+u.tw->L1 [some (.tup (Ln.pvs ls)),some (.ref pd),some (.ref tt),some (.ref sn),some (.ref rw'),some u.pv,y6,y7,y8,y9,y10] C':=by
    intro C' rw' R' ks' y6 y7 y8 y9 y10 w hk;refine hL1 _ _ ⟨ds++[u],us,rw',R',ks',_,_,_,_,_,_,by rw[Aj];exact e,rfl,rfl,w.congr (by rw[Qu,lK,lK,Al]) (Yp A ds u τ N).symm (Vw A ds u τ N).symm,?_⟩;rw[Ln.tws_app];show _<=_+(_+(u.tw+0))
    lia
   clear hL1;generalize jV A ds τ N=F1 at w1 lenD fin;generalize gW A ds τ N=N1 at w1 fin;generalize lK A ds τ=L1' at w1 fin;have hR1:=w1.w.v.rd hS.a
   by_cases hth:Qy u=true
   .obtain ⟨wd,rest,ep,n1,n2⟩:=th_pv hth
    refine xJ ep gX (qX (dQ _ _) (rX (by rw[n1];rfl) ?_));refine xJ ep gX (qX (dQ _ _) (rX (by rw[n2];rfl) ?_));obtain⟨er,ec,el⟩:=row1_th (A:=A) (τ:=τ) (N:=N1) hth;rw[er,ec,el] at fin;have hko:=th_key hth hu;refine yQ (c_i ?_);refine aQ (fun ρ' C'=>∃R2,ρ'=[some (.tup (Ln.pvs ls)),some (.ref pd),some (.ref tt),some (.ref sn),some (.ref rv),some u.pv,x6,x7,x8,some (oJ (iV A τ (rK u))),x10]/\WI C C' pd aa tt rr sn rv A τ bs R R2 (L1'++X5 A τ (rK u)) N1 ks1 F1) (fun L2 hL2=>?_) ?_
    .refine xJ ep JL ?_
     cases ho:rK u with
     |none =>
      rw[ho] at hL2;exact hL2 _ _ ⟨R1,rfl,w1.congr (Al _).symm rfl rfl⟩
     |some rk =>
      rw[ho] at hko hL2 ep;refine c_i (WM (show(!bU (pG (some rk)))=true by cases rk<;>rfl) (xJ ep JL ⟨rk,pd,aa,tt,rr,A,τ,R1,bs,ns,rfl,Rk.ok.mono hko (by decide),w1.p,hS,hR1,fun C2 m2 e2=>?_⟩));exact hL2 _ _ ⟨_,rfl,w1.rd e2 m2 (Wh.rk w1.w.v hko)⟩
    rintro ρ' C2 ⟨R2,rfl,w2⟩;refine yQ ⟨eW w2.s,count_s w2.s (qW _) (Z8 _) ⟨y0 2 rfl,?_⟩⟩;have utw:1<=u.tw:=by cases u<;>first | (simp[Ln.tw];done) | cases hth
    refine iZ ⟨eW w2.s,qP w2.s (by rw[AB];exact AS (show ks1.length < 2000 by lia) (by decide)) ?_⟩;have w3:=w2.seen (iV A τ (rK u));refine⟨eW w3.m,⟨u,bV N1 (iV A τ (rK u)),pd,aa,tt,rr,A,τ,R2,bs,rs,ns,?_,hth,hu,by lia,hτ,w3.p,hS,w3.w.v,fun C4 R4 m4 wh x4=>?_⟩⟩
    .show _=[u.pv,PV.tup [oJ _,.int (qD N1 (iV A τ (rK u)))],_,_]
     rw[w2.c]
    have w4:=w3.rd x4 m4 wh;refine qP w4.m (by rw[Wt.pvs_len];exact A3 (show F1.length<=400 by lia) (by decide)) ?_;exact fin _ _ _ _ _ _ _ _ _ ((w4.app _).congr (Aj _ _ _) rfl rfl) (by rw[AL,AZ];lia)
   .have one:∀(l1:List Ln)(τ':Tns)(tt':Addr)(ns':List Str)(R2:Rds)(C2:CH)(rw2:Addr)(L2:List (List Key))(N2:Tns)(ks2:List Key)(F2:List Wt)(Q':K1),(∃d',d=d'+1/\(∀x∈l1,LnOk bs rs d' ns' x)/\τ'.length+d'<=50)->Ln.tws l1<=400->ks2.length+Ln.tws l1<=1000->F2.length<=400->WI C C2 pd aa tt rr sn rw2 A τ bs R R2 L2 N2 ks2 F2->C2 tt'=some (.dK τ')->uW A τ' bs ns' ->
      (∀C3 rw3 R3 ks3,WI C C3 pd aa tt rr sn rw3 A τ bs R R3 (L2++lK A l1 τ') (gW A l1 τ' N2) ks3 (F2++jV A l1 τ' N2)->ks3.length<=ks2.length+Ln.tws l1->Q' (.ref rw3) C3) ->
      Zf d [.tup (Ln.pvs l1),.ref pd,.ref tt',.ref sn] C2 fun v C3=>dR (.ref rw2) v C3 Q':=by
     rintro l1 τ' tt' ns' R2 C2 rw2 L2 N2 ks2 F2 Q' ⟨d',rfl,o1,hτ'⟩ b1 b2 b3 w2 mt hS' hq;refine⟨d',rfl,l1,pd,aa,tt',rr,sn,A,τ',R2,N2,ks2,bs,rs,ns',rfl,o1,b1,b2,hτ',⟨⟨w2.p.e.ha,mt,w2.p.e.hr,w2.p.e.ne⟩,w2.p.p⟩,w2.s,hsp,hS',w2.w.v,w2.c,fun C3 p R3 ks3 m1 m2 m3 wh ms hc hk x3=>?_⟩;obtain⟨mr,nw⟩:=w2.call x3 m1 m3 wh ms hc;have:=ZR A l1 τ' N2;exact add_l mr m1 (by rw[Wt.pvs_len,Wt.pvs_len];exact Aa (show F2.length+(jV A l1 τ' N2).length<=800 by lia) (by decide)) fun p2 hp2=>hq _ p2 R3 ks3 (nw p2 hp2) hk
    cases u with
    |plain k tag s hs ls=>exact absurd rfl hth
    |part k n g=>exact absurd rfl hth
    |give k n r ls=>exact absurd rfl hth
    |when rk l1 l2 =>
     cases d with
     |zero=>exact hu.elim
     |succ d' =>
     obtain⟨ork,⟨o1,_⟩,o2,_⟩:=hu;have ep:(Ln.when rk l1 l2).pv=.tup [.str "when",rk.pv,.tup (Ln.pvs l1),.tup (Ln.pvs l2)]:=by rw[Ln.pv]
     have etw:(Ln.when rk l1 l2).tw=Ln.tws l1+Ln.tws l2:=by rw[Ln.tw]
     refine xJ ep gX (qX (dQ _ _) (jJ rfl ?_));refine yQ (xJ ep (v:=rk.pv) rfl ⟨rk,pd,aa,tt,rr,A,τ,R1,bs,ns,rfl,ork.mono (by decide),w1.p,hS,hR1,fun C2 m2 e2=>?_⟩);have w2:=w1.rd e2 m2 (Wh.rk w1.w.v ork);obtain⟨er,ec⟩:=JZ (A:=A) (τ:=τ) (r:=rk) (l1:=l1) (l2:=l2) (N:=N1);rw[er,ec,lnA] at fin;refine qX (dX _ _) ?_
     by_cases h0:rk.val A τ=0
     .rw [AW h0,AW h0,AW h0] at fin
      refine rX (by rw[Ai h0];rfl) (xJ ep rfl ?_);exact one l2 τ tt ns _ C2 rv _ N1 ks1 F1 _ ⟨d',rfl,o2,by lia⟩ (by lia) (by lia) (by lia) w2 w2.p.e.ht hS fun C3 rw3 R3 ks3 w3 hk3=>fin _ _ _ _ _ _ _ _ _ (w3.congr (Aj _ _ _) rfl rfl) (by lia)
     .rw [AX h0,AX h0,AX h0] at fin
      refine jJ (by rw[AQ h0];rfl) (xJ ep rfl ?_);exact one l1 τ tt ns _ C2 rv _ N1 ks1 F1 _ ⟨d',rfl,o1,by lia⟩ (by lia) (by lia) (by lia) w2 w2.p.e.ht hS fun C3 rw3 R3 ks3 w3 hk3=>fin _ _ _ _ _ _ _ _ _ (w3.congr (Aj _ _ _) rfl rfl) (by lia)
    |each n rk l1 =>
     cases d with
     |zero=>exact hu.elim
     |succ d' =>
     obtain⟨ork,o1,_⟩:=hu;have ep:(Ln.each n rk l1).pv=.tup [.str "each",.str n,rk.pv,.tup (Ln.pvs l1)]:=by rw[Ln.pv]
     have etw:(Ln.each n rk l1).tw=8 * Ln.tws l1:=by rw[Ln.tw]
     have hS0:=hS;refine xJ ep gX (qX (dQ _ _) (rX rfl (xJ ep gX (qX (dQ _ _) (jJ rfl ?_)))));refine yQ (xJ ep (v:=rk.pv) rfl ⟨rk,pd,aa,tt,rr,A,τ,R1,bs,ns,rfl,ork.mono (by decide),w1.p,hS0,hR1,fun C2 m2 e2=>?_⟩);have w2:=w1.rd e2 m2 (Wh.rk w1.w.v ork);obtain⟨er,ec⟩:=J0 (A:=A) (τ:=τ) (n:=n) (r:=rk) (ls:=l1) (N:=N1);rw[er,ec,lnA] at fin;refine Qq (Qt ?_);have bd:=rY hS0.a hS0.t hS0.h ork;unfold Bd at bd
     have ecap:(if (if rk.val A τ < 8 then rk.val A τ else 8) > 0 then (if rk.val A τ < 8 then rk.val A τ else 8) else 0).toNat=iU (rk.val A τ):=by unfold iU;split<;>split<;>lia
     refine⟨by split<;>split<;>lia,by split<;>split<;>lia,?_⟩;rw[ecap];generalize hcap:iU (rk.val A τ)=n8 at fin;have hn8:n8<=8:=by rw[<- hcap];exact wD _
     refine uJ (fun zs ρ C'=>∃(j:Nat)(rw':Addr)(R':Rds)(ks':List Key)(y7 y8:Option PV),j<=n8/\zs=((List.range n8).drop j).map (fun k:Nat=>PV.int (k:Nat))/\ρ=[some (.tup (Ln.pvs ls)),some (.ref pd),some (.ref tt),some (.ref sn),some (.ref rw'),some (Ln.each n rk l1).pv,some (.int (rk.val A τ)),y7,y8,x9,x10]/\WI C C' pd aa tt rr sn rw' A τ bs R R' ((L1'++rk.asks A τ)++(List.range j).flatMap fun k=>lK A l1 (vZ τ (.inr n) (.int (k:Nat)))) (vK A n l1 τ N1 j).2.1 ks' (F1++(vK A n l1 τ N1 j).1)/\ks'.length<=ks1.length+j * Ln.tws l1) ?_ ?_ _ _ _ ⟨0,rv,_,ks1,_,_,Ae _,rfl,rfl,w2.congr (Al _).symm rfl (Al _).symm,by lia⟩
     .rintro z zs ρ C3 ⟨j,rw3,R3,ks3,y7,y8,hj,hz,rfl,w3,hk3⟩ L3 hL3
      obtain⟨hjn,rfl,rfl⟩:=sY hz
      have hm:j * Ln.tws l1+Ln.tws l1<=8 * Ln.tws l1:=by
       have:(j+1) * Ln.tws l1<=8 * Ln.tws l1:=Bu _ (by lia);rw[Nat.add_mul,Nat.one_mul] at this;exact this
      have el:=Yb A n l1 τ N1 j;refine yQ (Jm w3.p.e.ht fun ia hia=>iZ (xJ ep (v:=.str n) rfl (mV (k:=.inr n) xQ rfl (by lia) ?_)))
      have g4:Gr C3 (uQ (uQ C3 ia (.dK τ)) ia (.dK (vZ τ (.inr n) (.int (j:Nat))))):=fun b o e=>by
       have ne:b≠ia:=fun z=>by rw[z,hia] at e;cases e
       rw[wQ ne,wQ ne];exact e
      have m4:uQ (uQ C3 ia (.dK τ)) ia (.dK (vZ τ (.inr n) (.int (j:Nat)))) ia=some (.dK (vZ τ (.inr n) (.int (j:Nat)))):=xQ;generalize uQ (uQ C3 ia (.dK τ)) ia (.dK (vZ τ (.inr n) (.int (j:Nat))))=C4 at g4 m4 ⊢;have t3:TBd (vZ τ (.inr n) (.int (j:Nat))):=hS.t.put _ (by delta Bd;lia)
      have hS3:uW A (vZ τ (.inr n) (.int (j:Nat))) bs (n::ns):=⟨hS.a,t3,fun m hm=>by
       rw[yP];split
       .rfl
       .next z=>exact hS.h m ((Af.1 hm).resolve_left fun y=>z (by rw[y])),hS.b⟩
      have hlen:(vZ τ (.inr n) (.int (j:Nat))).length<=τ.length+1:=dU _ _ _;refine xJ ep (v:=.tup (Ln.pvs l1)) rfl ?_;refine one l1 _ ia (n::ns) _ C4 rw3 _ _ ks3 _ _ ⟨d',rfl,o1,by lia⟩ (by lia) (by lia) (by rw[AL];lia) (w3.gr g4) m4 hS3 fun C5 rw5 R5 ks5 w5 hk5=>?_;obtain⟨s1,s2⟩:=KA A n l1 τ N1 j;refine hL3 _ _ ⟨j+1,rw5,R5,ks5,_,_,hjn,rfl,rfl,w5.congr ?_ s2.symm ?_,by rw[Nat.add_mul];lia⟩
      .rw [Aj,DY,List.flatMap_append,List.flatMap_singleton]
      .rw [s1,Aj]
     .rintro ρ C3 ⟨j,rw3,R3,ks3,y7,y8,hj,hz,rfl,w3,hk3⟩
      have ej:j=n8:=by
       rcases Cg j n8 with h | h
       .rw [Az (by rw[An];exact h)] at hz
        cases hz
       .lia
      subst ej
      exact fin _ _ _ _ _ _ _ _ _ (w3.congr (Aj _ _ _) rfl rfl) (by
       have:j * Ln.tws l1<=8 * Ln.tws l1:=Bu _ hn8
       lia)
  .rintro ρ C1 ⟨ds,us,rv,R1,ks1,x5,x6,x7,x8,x9,x10,e,hz,rfl,w1,hk1⟩
   cases us with
   |cons u us=>cases hz
   |nil =>
    rw[Al] at e;subst e;exact hL _ _ ⟨_,_,_,_,_,_,_,_,_,rfl,w1,hk1⟩
 rintro ρ' C1 ⟨rv,R1,ks1,x5,x6,x7,x8,x9,x10,rfl,w1,hk1⟩;exact q C1 rv R1 ks1 w1.m w1.f w1.p.e.hr w1.w w1.s w1.c hk1 w1.x
def ok_lws(T:Tx W a)d:Ok W a (2 * d+6) 34 U1 (gWs d):=by
 induction d with
 |zero =>
  have n:Ok W a 5 34 U1 (Zf 0):=xK fun ts C Q ⟨d',e,_⟩=>by lia
  exact mS T 0 5 (by decide) n (xK fun ts C Q z=>by obtain⟨l,sp,pd,aa,tt,rr,A,τ,R,bs,rs,ns,_,_,h,_⟩:=z;exact h)
 |succ d ih =>
  have e1:Zf (d+1)=gWs d:=by
   funext ts C Q
   refine propext ⟨fun⟨d'',z,h⟩=>?_,fun h=>⟨d,rfl,h⟩⟩;cases A4 z;exact h
  have ih':Ok W a (2 * d+6) 34 U1 (Zf (d+1)):=by rwa [e1]
  exact mS T (d+1) (2 * d+6+1) (Br _ _) (ih'.mono (Bv _)) (Wg T (d+1) (2 * d+6) (Br _ _) ih')
end
def rd_pv(h:RdOk bs R)(m:kv∈R):iY (uU kv.1)=some kv.1/\PV.tup [uU kv.1,kv.2]=aZ (rdC kv):=by
 refine wY (h.ks kv.1 (AU.2 ⟨kv,m,rfl⟩)) fun s n e _=>eQ (h.vs kv m) fun i ei _=>?_;obtain⟨k,v⟩:=kv;cases e;cases ei;exact⟨rfl,rfl⟩
def compT_c(h:ce ρ C fun x C1=>match x with
  |.ref d=>match C1 d with
   |some (.dT kvs)=>dJ t c ρ (fun v C2=>C2 d=some (.fT kvs)/\Q v (uQ C2 d (.dT kvs))) (kvs.map fun p=>uU p.1) [] (uQ C1 d (.fT kvs))
   |_=>False
  |_=>False):dA ce t c ρ C Q:=by
 delta dA
 exact h
def tiy_s{kvs:Rds}(m:C p=some (.fT kvs))(hk:iY y=some k)(hv:zK kvs k=some v)(q:Q v C):cTIy (.ref p) y C Q:=by
 delta cTIy
 dsimp only;rw[m,hk];show(match zK kvs k with | some v=>Q v C | none=>False)
 rwa [hv]
def JX(m:C p=some (.lst (cs.map aZ)))(h:cs.length < 64)(q:∀p',C p'=none->Q (.ref p') (uQ C p' (.lst ((jP cs).map aZ)))):gD [.ref p] C Q:=by
 delta gD
 dsimp only;rw[m];dsimp only;rw[wI];exact⟨h,q⟩
def pcRd_rv{cap}(ok:PtOk rs cap x):Rv A (x.first.map (·.1)) (cU A x):=dZ rH ok.wk (tZ rH ok.ls Rv.nil)
def J2{cap}(ok:PtOk rs cap x)(h:Wh A (x.first.map (·.1)) [] (lK A x.ls []++vU A [] x.works) R):jP (R.map rdC)=(wZ A x).reads:=by
 refine ordT_eq (h.v.perm (pcRd_rv ok) fun k=>?_) h.v.nd2;rw[h.k,AV]
 delta cU
 rw[cF,cV,Bk]
section
variable {W:Wd}{a:Adr}
inductive WU(ts:List PV)(C:CH)(Q:K1):Prop
 |mk(x:Pt)(aa:Addr)(A:Rds)(rs:List Str)(cap:Nat)(z0:ts=[x.pv,.ref aa])(z1:PtOk rs cap x)(z2:C aa=some (.dT A))(z3:ABd A)(z4:∀C',Gr C C'->Q (wZ A x).pv C'):WU ts C Q
def Ke(T:Tx W a):Ok W a 19 35 U18 WU:=by
 have S:=(T.F 35 rfl).s;have lV:=ok_lws T 6;have eZ:=(fF T 1).mono (show 2<=18 by decide)
 refine(T.F 35 rfl).ok (fun ts C R h=>?_) fun cdv A outer s H E hr=>⟨_,(jQ (cs1 2 S.nd (zX (qQ (cv 1) (ca1 iE))))
  (jQ (cs1 3 S.nd (ctp T.vX (cf (T.F 34 rfl) lV hr (qQ (cx (cv 0) zQ) (qQ (cv 2) (qQ kD (ca1 (zX sJ))))))))
  (jQ (cs1 4 S.nd (ctp T.vX (Q7 rfl (show(["_law_name","_law_rule","_law_part_here","_law_answers_here","_law_pad","_law_row","_law_works"]:List Str).Nodup by decide +kernel) (aF (N:=U9) (sc:=mX (top 45)) rfl rfl rfl (by decide +kernel)) (zU (cx (cv 0) zQ)) (fun _ _ _ _ _=>nJ) (fun _ _ _ _ _=>(lQ (qQ (cv 0) (ca1 (cf (T.F 31 rfl) eZ hr (qQ (cv 1) (qQ (cv 4) (ca1 kD)))))))))))
  (vQ (gQ (lQ (qQ (ctp T.vX (nQ iL (Q9 (gE hr)) rfl T.eM rfl (ca1 (Yt rfl (S.c (by decide +kernel)) (S.k rfl rfl rfl (by decide +kernel)) (cx (cv 2) zQ) (fun _ _ _ _ _=>nJ) (fun _ _ _ _ _=>(lQ (qQ (cv 0) (ca1 (ce_tiy (yX hr) (cx (cv 3) zQ) (cv 0) (fun _ _=>rfl)))))))))) (qQ (cv 3) (ca1 (cv 4)))))))))),?_⟩
 .obtain ⟨x,aa,A,rs,cap,rfl,_⟩:=h;rfl
 rintro ts C Q ⟨x,aa,A,rs,cap,rfl,ok,ha,hA,q⟩;have hS:uW A [] (x.first.map (·.1)) []:=⟨hA,(fun _ z=>nomatch z),(fun _ z=>nomatch z),by rw[AB];exact ok.fl⟩
 apply yQ
 intro rr hrr;have nar:aa≠rr:=fun z=>by rw[z,hrr] at ha;cases ha
 refine⟨y0 2 rfl,fun pd hpd=>?_⟩;have npr:pd≠rr:=fun z=>by subst z;rw[xQ] at hpd;cases hpd
 have g0:Gr C (uQ (uQ C rr (.dT [])) pd (.lst [.ref aa,.ref rr])):=(Gr.new hrr _).trans (Gr.new hpd _);have mp0:uQ (uQ C rr (.dT [])) pd (.lst [.ref aa,.ref rr]) pd=some (.lst [.ref aa,.ref rr]):=xQ;have mr0:uQ (uQ C rr (.dT [])) pd (.lst [.ref aa,.ref rr]) rr=some (.dT []):=by rw[wQ (Ne.symm npr)];exact xQ
 have hpd0:C pd=none:=by rw[wQ npr] at hpd;exact hpd
 generalize uQ (uQ C rr (.dT [])) pd (.lst [.ref aa,.ref rr])=C0 at g0 mp0 mr0 ⊢;refine yQ (wX (v:=.tup (Ln.pvs x.ls)) rfl ?_);intro tt htt;refine⟨by decide,fun sn hsn=>?_⟩;have g1:Gr C0 (uQ (uQ C0 tt (.dK [])) sn (.lst [])):=(Gr.new htt _).trans (Gr.new hsn _);have nts:tt≠sn:=fun z=>by subst z;rw[xQ] at hsn;cases hsn
 have mt1:uQ (uQ C0 tt (.dK [])) sn (.lst []) tt=some (.dK []):=by rw[wQ nts];exact xQ
 have ms1:uQ (uQ C0 tt (.dK [])) sn (.lst []) sn=some (.lst ((([]:List Key)).map oJ)):=xQ;have hsn0:C0 sn=none:=by rw[wQ (Ne.symm nts)] at hsn;exact hsn
 have nsp:sn≠pd:=fun z=>by rw[z,mp0] at hsn0;cases hsn0
 generalize uQ (uQ C0 tt (.dK [])) sn (.lst [])=C1 at g1 mt1 ms1 ⊢;have P1:Pad C1 pd aa tt rr A [] []:=⟨⟨g1 _ _ (g0 _ _ ha),mt1,g1 _ _ mr0,nar⟩,g1 _ _ mp0⟩;have tw:=ok.tw;refine⟨x.ls,pd,aa,tt,rr,sn,A,[],[],[],[],x.first.map (·.1),rs,[],rfl,ok.ls,by lia,by rw[Be];lia,by decide,P1,ms1,nsp,hS,Rv.nil,SN.nil,fun C2 p R2 ks2 m1 m2 m3 w2 _ _ _ x2=>?_⟩;refine mJ m1 ?_
 have g2:∀b o,C b=some o->C2 b=some o:=fun b o h=>x2 b o (fun z=>by
  rcases Af.1 z with z | z
  .rw [z,hrr] at h;cases h
  .have h:=g0 _ _ h;rw[AE.1 z,hsn0] at h;cases h) (g1 _ _ (g0 _ _ h))
 have mp2:=x2 _ _ (n12 npr (Ne.symm nsp)) P1.p;refine yQ (wX (v:=.tup (x.works.map vW)) rfl ?_);have hR2:=w2.v.rd hA;refine bT (τ:=[]) (A:=A) x.works hA ok.wk ok.wl hR2 m3 (fun u R1 C3 L hu R1o m3' e3 hL=>?_) fun C3 p3 m3' e3 hp3=>?_
 .intro t2 ht2
  have nt2:rr≠t2:=fun z=>by rw[<- z,m3'] at ht2;cases ht2
  have up:∀b o,b≠rr->C2 b=some o->uQ C3 t2 (.dK []) b=some o:=fun b o nb h=>Gr.new ht2 _ _ _ (e3 b o (fun z=>nb (AE.1 z)) h);have P3:Pad (uQ C3 t2 (.dK [])) pd aa t2 rr A [] R1:=⟨⟨up _ _ nar (g2 _ _ ha),xQ,by rw[wQ nt2];exact m3',nar⟩,up _ _ npr mp2⟩;refine⟨u.2,pd,aa,t2,rr,A,[],R1,_,[],rfl,(ok.wk u hu).1,P3,hS,R1o,fun C4 m4 e4=>⟨y0 2 rfl,hL C4 m4 fun b o nb hb=>e4 b o nb (Gr.new ht2 _ _ _ hb)⟩⟩
 refine mJ xQ ?_;have w3:Wh A (x.first.map (·.1)) [] (lK A x.ls []++vU A [] x.works) (jZ A [] x.works R2):=w2.trans (Wh.nums w2.v ok.wk);have g4:Gr C (uQ C3 p3 (.lst ((aX A [] x.works).map yZ))):=fun b o h=>Gr.new hp3 _ _ _ (e3 b o (fun z=>by rw[AE.1 z,hrr] at h;cases h) (g2 b o h));have m4:uQ C3 p3 (.lst ((aX A [] x.works).map yZ)) rr=some (.dT (jZ A [] x.works R2)):=Gr.new hp3 _ _ _ m3'
 have mp4:uQ C3 p3 (.lst ((aX A [] x.works).map yZ)) pd=some (.lst [.ref aa,.ref rr]):=Gr.new hp3 _ _ _ (e3 _ _ (fun z=>npr (AE.1 z)) mp2);generalize uQ C3 p3 (.lst ((aX A [] x.works).map yZ))=C4 at g4 m4 mp4 ⊢;generalize jZ A [] x.works R2=R4 at w3 m4 ⊢;have hR4:=w3.v.rd hA;refine compT_c (mZ mp4 (v:=.ref rr) rfl ?_)
 try dsimp only
 rw[m4];refine rW (fun zs acc C'=>C'=uQ C4 rr (.fT R4)/\∃ds us:Rds,R4=ds++us/\zs=us.map (fun p=>uU p.1)/\acc=(ds.map rdC).map aZ) ?_ ?_ _ _ _ ⟨rfl,[],R4,rfl,rfl,rfl⟩
 .rintro z zs acc C5 ⟨rfl,ds,us,e,hz,rfl⟩ L hL
  cases us with
  |nil=>cases hz
  |cons u us =>
   obtain⟨rfl,rfl⟩:=BQ hz;have mu:u∈R4:=by rw[e];exact AR _ AF
   obtain⟨hk,hp⟩:=rd_pv hR4 mu;refine mZ (by rw[wQ npr];exact mp4) (v:=.ref rr) rfl (tiy_s xQ hk (ZI hR4.nd mu) ⟨y0 2 rfl,?_⟩);rw[hp];refine hL _ _ ⟨?_,rfl,ds++[u],us,by rw[Aj];exact e,rfl,by rw[Ab,Ab];rfl⟩;rw[AB,AB];have:=hR4.len;have e2:=Bg List.length e;rw[AL,AY] at e2
   have:=hS.b;exact A3 (show ds.length<=1000 by lia) (by decide)
 .rintro acc C5 ⟨rfl,ds,us,e,hz,rfl⟩ p5 hp5
  cases us with
  |cons u us=>cases hz
  |nil =>
  rw[Al] at e;subst e;have np5:p5≠rr:=fun z=>by subst z;rw[xQ] at hp5;cases hp5
  have hp54:C4 p5=none:=by rw[wQ np5] at hp5;exact hp5
  refine⟨by rw[wQ (Ne.symm np5)];exact xQ,?_⟩;have m6:uQ (uQ (uQ C4 rr (.fT R4)) p5 (.lst ((R4.map rdC).map aZ))) rr (.dT R4) p5=some (.lst ((R4.map rdC).map aZ)):=by rw[wQ np5];exact xQ
  have g6:Gr C (uQ (uQ (uQ C4 rr (.fT R4)) p5 (.lst ((R4.map rdC).map aZ))) rr (.dT R4)):=fun b o h=>by
   have nb:b≠rr:=fun z=>by rw[z,hrr] at h;cases h
   have h4:=g4 b o h;have nb5:b≠p5:=fun z=>by rw[z,hp54] at h4;cases h4
   rw[wQ nb,wQ nb5,wQ nb];exact h4
  refine JX m6 (by rw[AB];have:=hR4.len;have:=hS.b;lia) fun p7 hp7=>?_;refine mJ xQ ⟨y0 3 rfl,?_⟩;rw[J2 ok w3];exact q _ (g6.trans (Gr.new hp7 _))
end
def xH(h:ABd A)k(hi:Bd i):ABd (putG A k (.int i)):=fun x hx=>by
 rcases tH hx with e | e
 .exact ⟨i,e,hi⟩
 .exact h x e
def sH(A:Rds)k v:(putG A k v).length<=A.length+1:=by
 delta putG
 split
 .rw [AB];lia
 .rw [AL];exact AH _
inductive AI(C0 C:CH)(t d:Addr)(ns:List Int)(n:Nat):Prop
 |mk(A:Rds)(m:C d=some (.dT A))(l:A.length<=n)(b:ABd A)(T:Tp C t ns)(e:Ex t C0 C):AI C0 C t d ns n
def AI.dr(h:AI C0 C t d ns n)(nd:d≠t)(T:Tp C' t ns)(e:Ex t C C'):AI C0 C' t d ns n:=by
 obtain⟨A,m,l,b,_,e0⟩:=h;exact⟨A,e _ _ nd m,l,b,T,e0.trans e⟩
def AI.tp(h:AI C0 C t d ns n):Tp C t ns:=by
 obtain⟨A,m,l,b,T,e0⟩:=h;exact T
def AI.new(h:AI C0 C t d ns n)(hp:C p=none)o:AI C0 (uQ C p o) t d ns n:=by
 obtain⟨A,m,l,b,T,e0⟩:=h;exact⟨A,Gr.new hp _ _ _ m,l,b,T.new hp _,e0.trans (Ex.new hp _)⟩
theorem AI.put(h:AI C0 C t d ns n)(nd:d≠t)(h0:C0 d=none)(hn:n<=900)(hk:iY y=some k)(hi:Bd i)(q:∀C',AI C0 C' t d ns (n+1)->(∀b o,b≠d->C b=some o->C' b=some o)->Q C'):nT (.ref d) y (.int i) C Q:=by
 obtain⟨A,m,l,b,T,e0⟩:=h;refine rD m hk (by lia) (q _ ⟨_,xQ,?_,xH b k hi,T.put nd _,e0.put h0 _⟩ fun b o nb h=>by rwa [wQ nb]);have:=sH A k (.int i)
 lia
section
variable {W:Wd}{a:Adr}
inductive gLans(ts:List PV)(C:CH)(Q:K1):Prop
 |mk(t:Addr)(ns:List Int)(x:Pt)(z0:ts=[.ref t,x.pv])(z1:Tp C t ns)(z2:x.first.length<=4)(z3:∀c∈x.first,-1000000000<=c.2/\c.2<=1000000000)(z4:∀C' d A,C d=none->A.length<=12->C' d=some (.dT A)->ABd A->Tp C' t ns->Ex t C C'->Q (.ref d) C'):gLans ts C Q
def lL(T:Tx W a):Ok W a 3 30 U4 gLans:=by
 have S:=(T.F 30 rfl).s;have bQ:=(zJ T).mono (show 1<=2 by decide);have wK:=mB T
 refine(T.F 30 rfl).ok (fun ts C R h=>?_) fun cdv A outer s H E hr=>⟨_,(jQ (cs1 2 S.nd iE)
  (jQ (rP PassesOwn.never rfl (zX (qQ kQ (ca1 kQ))) (cg1 3 S.nd) (vQ (rP PassesOwn.never rfl (zX (qQ kQ (qQ kQ (qQ kQ (ca1 kQ))))) (cg1 4 S.nd) (vQ (rQ (ct2 jK rZ (cf (T.F 14 rfl) bQ hr (qQ (cv 0) (ca1 zQ))) zQ) (vQ (sG (yX hr) (cv 2) (lQ (qQ (cv 3) (ca1 (cv 4)))) (cf (T.F 16 rfl) wK hr (ca1 (cv 0))))) pQ)))))
  (jQ (oG PassesOwn.never rfl (cx (cv 1) zQ) (aE rfl (nK (cg1 4 S.nd) (nK (cg1 5 S.nd) nP))) (vQ (rQ (ct2 jK rZ (cf (T.F 14 rfl) bQ hr (qQ (cv 0) (ca1 zQ))) zQ) (vQ (sG (yX hr) (cv 2) (lQ (qQ kQ (ca1 (cv 4)))) (cx (zX (qQ (cv 5) (ca1 (cf (T.F 16 rfl) wK hr (ca1 (cv 0)))))) (cf (T.F 14 rfl) bQ hr (qQ (cv 0) (ca1 zQ)))))) pQ)))
  (vQ (gQ (cv 2)))))),?_⟩
 .obtain ⟨t,ns,x,rfl,_⟩:=h;rfl
 rintro ts C Q ⟨t,ns,x,rfl,hT,hf,hb,q⟩
 apply yQ
 intro d hd;have nd:=hT.ne hd;have I0:AI C (uQ C d (.dT [])) t d ns 0:=⟨[],xQ,AH _,(fun _ z=>nomatch z),hT.new hd _,Ex.new hd _⟩;generalize uQ C d (.dT [])=Ca at I0 ⊢;refine aQ (fun ρ' C'=>∃x3 x4:Option PV,ρ'=[some (.ref t),some x.pv,some (.ref d),x3,x4,none]/\AI C C' t d ns 8) (fun L hL=>?_) ?_
 .refine ⟨by decide,fun p1 hp1=>?_⟩
  refine⟨3,vH (fun i ρ C'=>C' p1=some (.lst [.str "take",.str "down"])/\i<=2/\∃x3 x4:Option PV,ρ=[some (.ref t),some x.pv,some (.ref d),x3,x4,none]/\AI C C' t d ns (4 * i)) (fun _ _ _ h=>h.1) ?_ ?_ _ 0 _ _ ⟨xQ,Ae _,_,_,rfl,I0.new hp1 _⟩ rfl (Ae _)⟩
  .rintro i y ρ C1 hy ⟨m1,hi,x3,x4,rfl,I1⟩ L1 hL1
   have hi2:i < 2:=(Ak.1 hy).1;have np1:=I0.tp.ne hp1;have npd:p1≠d:=fun z=>by obtain⟨A,m,_⟩:=I1;rw[<- z,m1] at m;cases m
   obtain⟨sy,rfl⟩:∃sy:Str,y=.str sy:=by
    have:=Ah hy
    simp only[List.mem_cons,List.not_mem_nil,or_false] at this
    rcases this with rfl | rfl<;>exact⟨_,rfl⟩
   refine⟨by decide,fun p2 hp2=>?_⟩;refine⟨5,vH (fun j ρ C'=>C' p2=some (.lst [.str "a",.str "ab",.str "b",.str "zz"])/\C' p1=some (.lst [.str "take",.str "down"])/\j<=4/\∃x4:Option PV,ρ=[some (.ref t),some x.pv,some (.ref d),some (.str sy),x4,none]/\AI C C' t d ns (4 * i+j)) (fun _ _ _ h=>h.1) ?_ ?_ _ 0 _ _ ⟨xQ,Gr.new hp2 _ _ _ m1,Ae _,_,rfl,I1.new hp2 _⟩ rfl (Ae _)⟩
   .rintro j z ρ C2 hz ⟨m2,m12,hj,x4,rfl,I2⟩ L2 hL2
    have hj4:j < 4:=(Ak.1 hz).1
    obtain⟨sz,rfl⟩:∃sz:Str,z=.str sz:=by
     have:=Ah hz
     simp only[List.mem_cons,List.not_mem_nil,or_false] at this
     rcases this with rfl | rfl | rfl | rfl<;>exact⟨_,rfl⟩
    have np2:=I1.tp.ne hp2;have np2d:p2≠d:=fun z=>by obtain⟨A,m,_⟩:=I2;rw[<- z,m2] at m;cases m
    refine⟨t,4,ns,rfl,I2.tp,by decide,by decide,fun v C3 v0 v1 T3 e3=>?_⟩;have I3:=I2.dr nd T3 e3;refine i_i (bZ (fun hb'=>?_) fun hb'=>?_)
    .refine ⟨t,ns,rfl,T3,fun w C4 w0 w1 T4 e4=>⟨y0 2 rfl,?_⟩⟩
     refine(I3.dr nd T4 e4).put nd hd (by lia) rfl ⟨w0,w1⟩ fun C5 I5 k5=>?_;exact hL2 _ _ ⟨k5 _ _ np2d (e4 _ _ np2 (e3 _ _ np2 m2)),k5 _ _ npd (e4 _ _ np1 (e3 _ _ np1 m12)),by lia,_,rfl,I5⟩
    .refine sQ (hL2 _ _ ⟨e3 _ _ np2 m2,e3 _ _ np1 m12,by lia,_,rfl,?_⟩)
     obtain⟨A,m,l,b,T1,e0⟩:=I3;exact⟨A,m,by lia,b,T1,e0⟩
   .rintro ρ C2 ⟨m2,m12,hj,x4,rfl,I2⟩
    exact hL1 _ _ ⟨m12,by lia,_,_,rfl,I2⟩
  .rintro ρ C1 ⟨m1,hi,x3,x4,rfl,I1⟩
   exact hL _ _ ⟨_,_,rfl,I1⟩
 rintro ρ' C1 ⟨x3,x4,rfl,I1⟩;refine aQ (fun ρ' C'=>∃x3 x4 x5:Option PV,ρ'=[some (.ref t),some x.pv,some (.ref d),x3,x4,x5]/\AI C C' t d ns 12) (fun L hL=>?_) ?_
 .refine nN (wX rfl (uJ (fun zs ρ C'=>∃(ds us:List (Str×Int))(x3 x4 x5:Option PV),x.first=ds++us/\zs=us.map yZ/\ρ=[some (.ref t),some x.pv,some (.ref d),x3,x4,x5]/\AI C C' t d ns (8+ds.length)) ?_ ?_ _ _ _ ⟨[],x.first,_,_,_,rfl,rfl,rfl,I1⟩))
  .rintro z zs ρ C2 ⟨ds,us,x3,x4,x5,e,hz,rfl,I2⟩ L1 hL1
   cases us with
   |nil=>cases hz
   |cons u us =>
   obtain⟨rfl,rfl⟩:=BQ hz;have hu:u∈x.first:=by exact e▸AR _ AF
   have hl:ds.length < 4:=by have:=Bg List.length e;rw[AL,AY] at this;lia
   refine⟨rfl,sV (sV (dE ⟨t,6,ns,rfl,I2.tp,by decide,by decide,fun v C3 v0 v1 T3 e3=>?_⟩))⟩;have I3:=I2.dr nd T3 e3
   have fin:∀C' n,n<=8+ds.length+1->AI C C' t d ns n->L1 [some (.ref t),some x.pv,some (.ref d),x3,some (.str u.1),some (.int u.2)] C':=fun C' n hn I=>by
    refine hL1 _ _ ⟨ds++[u],us,_,_,_,by rw[Aj];exact e,rfl,rfl,?_⟩;obtain⟨A,m,l,b,T1,e0⟩:=I;exact⟨A,m,by rw[AL,AZ];lia,b,T1,e0⟩
   refine i_i (bZ (fun hb'=>?_) fun hb'=>?_)
   .refine ⟨t,ns,rfl,T3,fun w C4 w0 w1 T4 e4=>⟨y0 2 rfl,fun p hp=>?_⟩⟩
    have I4:=(I3.dr nd T4 e4).new hp (.lst [.int u.2,.int w]);have npt:=T4.ne hp;refine⟨t,2,ns,rfl,I4.tp,by decide,by decide,fun v2 C5 v20 v21 T5 e5=>?_⟩;have I5:=I4.dr nd T5 e5
    have:∃i:Int,atI [PV.int u.2,.int w] v2=some (.int i)/\Bd i:=by
     have:v2=0\/v2=1:=by lia
     rcases this with rfl | rfl
     .exact ⟨u.2,rfl,hb u hu⟩
     .exact ⟨w,rfl,w0,w1⟩
    obtain⟨i,ei,bi⟩:=this;refine mZ (e5 _ _ npt xQ) ei ⟨y0 2 rfl,?_⟩;exact I5.put nd hd (by lia) rfl bi fun C6 I6 _=>fin C6 _ (AH _) I6
   .exact sQ (fin C3 _ (Bv _) I3)
  .rintro ρ C2 ⟨ds,us,x3,x4,x5,e,hz,rfl,I2⟩
   cases us with
   |cons u us=>cases hz
   |nil =>
    rw[Al] at e;obtain⟨A,m,l,b,T1,e0⟩:=I2;exact hL _ _ ⟨_,_,_,rfl,A,m,by rw[<- e] at l;lia,b,T1,e0⟩
 rintro ρ' C2 ⟨x3,x4,x5,rfl,A,m,l,b,T1,e0⟩;exact q C2 d A hd l m b T1 e0
end
def Qw:Ty->Str
 |.non=>"none"
 |.bl=>"truth"
 |.int=>"whole"
 |.str=>"text"
 |.tup=>"tuple"
 |.lst=>"list"
 |.dct=>"dict"
def rS(h:Qw n=Qw m):n=m:=by
 revert h;cases n<;>cases m<;>decide +kernel
def Vz(h:tyP C (.ref a)=some n):n=.lst\/n=.dct:=by
 delta tyP at h
 dsimp only at h
 split at h<;>cases h
 .exact .inl rfl
 .exact .inr rfl
def isNo_ty(h:tyP C x=some n):bU x=decide (n=.non):=by
 cases x with
 |ref a=>rcases Vz h with rfl | rfl<;>rfl
 |non=>cases h;rfl
 |bl b=>cases h;rfl
 |int i=>cases h;rfl
 |str z=>cases h;rfl
 |tup ts=>cases h;rfl
 |_=>cases h
def sc:PV->Bool
 |.non=>true
 |.bl _=>true
 |.int _=>true
 |.str _=>true
 |_=>false
def sc_eq(hy:sc y=true)(h:tyP C x=some n)(g:tyP C y=some n):n≠.tup/\n≠.lst/\n≠.dct/\∃b,sEq y x=some b/\(b=true↔x=y):=by
 cases y<;>first | exact absurd hy AN | cases g
 all_goals
  cases x with
  |ref a=>rcases Vz h with h | h<;>cases h
  |_=>first | exact⟨by decide,by decide,by decide,_,rfl,by simp[eq_comm]⟩ | cases h
section
variable {W:Wd}{a:Adr}
inductive gKind(ts:List PV)(C:CH)(Q:K1):Prop
 |mk(x:PV)(n:Ty)(z0:ts=[x])(z1:tyP C x=some n)(z2:∀C',Gr C C'->Q (.str (Qw n)) C'):gKind ts C Q
def aW{bs:List Bool}(m:C p=some (.lst (bs.map PV.bl)))(h1:bs[j]?=some true)(h2:∀m,m < j->bs[m]?=some false)(q:Q (.int (j:Nat)) C):qH (.ref p) [.bl true] C Q:=by
 delta qH
 dsimp only;exact m▸⟨bs,j,rfl,h1,h2,q⟩
def Wi(T:Tx W a):Ok W a 1 36 ["_law_thing"] gKind:=by
 have S:=(T.F 36 rfl).s
 refine(T.F 36 rfl).ok (fun ts C R h=>?_) fun cdv A outer s H E hr=>⟨_,(jQ (cs1 1 S.nd (zX (qQ (wV XJ nE (cv 0) vV (wW _)) (qQ (nQ jX nZ rfl T.iQ rfl (qQ (cv 0) (ca1 (gV rfl T.Xo rfl)))) (qQ (nQ jX nZ rfl T.iQ rfl (qQ (cv 0) (ca1 (gV rfl T.aM rfl)))) (ca1 (nQ jX nZ rfl T.iQ rfl (qQ (cv 0) (ca1 (gV rfl T.Vc rfl))))))))))
  (jQ (cs1 1 S.nd (tQ nX sX (cv 1) (zX (qQ (nQ jX nZ rfl T.iQ rfl (qQ (cv 0) (ca1 (gV rfl T.vX rfl)))) (qQ (nQ jX nZ rfl T.iQ rfl (qQ (cv 0) (ca1 (gV rfl T.Xn rfl)))) (ca1 tJ))))))
  (vQ (gQ (cx (zX (qQ kQ (qQ kQ (qQ kQ (qQ kQ (qQ kQ (qQ kQ (ca1 kQ)))))))) (Jw BY PySem.F.slot_list_index PySem.F.type_list_index Kk Zo (cv 1) (ca1 tJ))))))),?_⟩
 .obtain ⟨x,n,rfl,_⟩:=h;rfl
 rintro ts C R ⟨x,n,rfl,hx,q⟩;refine yQ ?_;refine zZ rfl hx ?_;refine zZ rfl hx ?_;refine zZ rfl hx ?_;refine⟨y0 4 rfl,fun p1 h1=>?_⟩;have g1:Gr C (uQ C p1 (.lst [.bl (id (bU x)),.bl (sZ n .bl),.bl (sZ n .int),.bl (sZ n .str)])):=Gr.new h1 _;have m1:uQ C p1 (.lst [.bl (id (bU x)),.bl (sZ n .bl),.bl (sZ n .int),.bl (sZ n .str)]) p1=some (.lst [.bl (id (bU x)),.bl (sZ n .bl),.bl (sZ n .int),.bl (sZ n .str)]):=xQ
 generalize uQ C p1 (.lst [.bl (id (bU x)),.bl (sZ n .bl),.bl (sZ n .int),.bl (sZ n .str)])=C1 at g1 m1 ⊢;have hx1:=lD hx g1;refine yQ ?_;refine zZ (T:=.tup) rfl hx1 ?_;refine zZ (T:=.lst) rfl hx1 ?_;refine⟨y0 3 rfl,fun p2 h2=>?_⟩;refine add_l (Gr.new h2 _ _ _ m1) xQ (by show 4+3<=sizeLine;decide) fun p3 h3=>?_;have g3:Gr C1 (uQ (uQ C1 p2 (.lst [.bl (sZ n .tup),.bl (sZ n .lst),.bl true])) p3 (.lst ([.bl (id (bU x)),.bl (sZ n .bl),.bl (sZ n .int),.bl (sZ n .str)]++[.bl (sZ n .tup),.bl (sZ n .lst),.bl true]))):=(Gr.new h2 _).trans (Gr.new h3 _)
 have m3:uQ (uQ C1 p2 (.lst [.bl (sZ n .tup),.bl (sZ n .lst),.bl true])) p3 (.lst ([.bl (id (bU x)),.bl (sZ n .bl),.bl (sZ n .int),.bl (sZ n .str)]++[.bl (sZ n .tup),.bl (sZ n .lst),.bl true])) p3=some (.lst (([bU x,sZ n .bl,sZ n .int,sZ n .str,sZ n .tup,sZ n .lst,true]:List Bool).map PV.bl)):=xQ;generalize uQ (uQ C1 p2 (.lst [.bl (sZ n .tup),.bl (sZ n .lst),.bl true])) p3 (.lst ([.bl (id (bU x)),.bl (sZ n .bl),.bl (sZ n .int),.bl (sZ n .str)]++[.bl (sZ n .tup),.bl (sZ n .lst),.bl true]))=C3 at g3 m3 ⊢
 refine⟨by decide,fun p4 h4=>?_⟩;have m4:=Gr.new h4 (.lst [.str "none",.str "truth",.str "whole",.str "text",.str "tuple",.str "list",.str "dict"]) _ _ m3;rw[isNo_ty hx] at m4;have fin:=q _ ((g1.trans g3).trans (Gr.new h4 (.lst [.str "none",.str "truth",.str "whole",.str "text",.str "tuple",.str "list",.str "dict"])));have i1:∀(j:Nat)(bs:List Bool),bs[j]?=some true->(∀m,m < j->bs[m]?=some false)->True:=fun _ _ _ _=>trivial
 refine⟨eW m4,?_⟩
 cases n with
 |non=>exact aW m4 (j:=0) rfl (fun m h=>absurd h (Bq _)) (mZ xQ rfl fin)
 |bl=>exact aW m4 (j:=1) rfl (by decide) (mZ xQ rfl fin)
 |int=>exact aW m4 (j:=2) rfl (by decide) (mZ xQ rfl fin)
 |str=>exact aW m4 (j:=3) rfl (by decide) (mZ xQ rfl fin)
 |tup=>exact aW m4 (j:=4) rfl (by decide) (mZ xQ rfl fin)
 |lst=>exact aW m4 (j:=5) rfl (by decide) (mZ xQ rfl fin)
 |dct=>exact aW m4 (j:=6) rfl (by decide) (mZ xQ rfl fin)
end
theorem VI: ∀{ts},t∈ts->pw t<=pws ts
 |x::ts,h=>by
  rw[pws]
  rcases Af.1 h with rfl | h
  .lia
  .have:=VI h;lia
def Pd:Nat->PV->Prop
 |0,_=>False
 |d+1,y=>Pl d y
theorem QL:∀bs:List Bool,lG (bs.map PV.bl)=some (bs.map V.bl)
 |[]=>rfl
 |b::bs=>by
  show(match vT (.bl b),lG (bs.map PV.bl) with | some v,some vs=>some (v::vs) | _,_=>none)=_;rw[QL bs]
  rfl
theorem eS:∀bs:List Bool,(!inV (.bl false) (bs.map V.bl))=bs.all id
 |[]=>rfl
 |b::bs=>by
  have h:=eS bs;unfold inV at h ⊢;rw[A8,BJ,Cq,<- h];cases b<;>rfl
def notF_s{bs:List Bool}(m:C p=some (.lst (bs.map PV.bl)))(q:Q (.bl (bs.all id)) C):KU true (.bl false) (.ref p) C Q:=by
 refine tL ?_ rfl (QL bs) ?_
 .show (match C p with | some (.lst xs)=>some xs | _=>none)=_
  rw[m]
 .rwa [AW rfl,eS]
def Zb{ss:List Str}(q:Q (.bl (decide (x∈ss))) C):KU false (.str x) (.tup (ss.map PV.str)) C Q:=by
 have f:∀ss:List Str,lG (ss.map PV.str)=some (ss.map V.str):=fun ss=>by
  induction ss with
  |nil=>rfl
  |cons s ss ih =>
   show(match vT (.str s),lG (ss.map PV.str) with | some v,some vs=>some (v::vs) | _,_=>none)=_;rw[ih]
   rfl
 apply tL rfl rfl (f ss)
 have e:inV (.str x) (ss.map V.str)=decide (x∈ss):=by
  delta inV
  rw[List.any_map,Cw,List.any_eq_true,Am];refine⟨fun⟨y,hy,e⟩=>?_,fun h=>⟨x,h,beq_self_eq_true x⟩⟩;have e:=e
  rwa [<- eq_of_beq e]
 rwa [e]
def pl_ty(h:Pl d y):∃m,tyP C y=some m/\m≠.lst/\m≠.dct:=by
 cases h<;>exact⟨_,rfl,by decide,by decide⟩
section
variable {W:Wd}{a:Adr}
inductive gAl(d:Nat)(ts:List PV)(C:CH)(Q:K1):Prop
 |mk(x y:PV)(z0:ts=[y,x])(z1:Th C x)(z2:Pd d y)(z3:pw y<=3000000)(z4:∀b C',(b=true↔x=y)->Gr C C'->Q (.bl b) C'):gAl d ts C Q
def XR(T:Tx W a)(d r:Nat)(hr1:1<=r)(zV:Ok W a r 37 U15 (gAl d)):Ok W a (r+1) 37 U15 (gAl (d+1)):=by
 have S:=(T.F 37 rfl).s;have Xi:=(Wi T).mono (show 1<=r by lia)
 refine(T.F 37 rfl).ok (fun ts C R h=>?_) fun cdv A outer s H E hr=>⟨_,(jQ (cs1 2 S.nd (cf (T.F 36 rfl) Xi hr (ca1 (cv 0))))
  (jQ (rQ (ct2 bF tG (cv 2) (cf (T.F 36 rfl) Xi hr (ca1 (cv 1)))) (vQ (gQ tJ)) pQ)
  (jQ (rQ (ct2 fX oQ (cv 2) kQ) (vQ (rP PassesOwn.never rfl (cv 0) (cg1 3 S.nd) (jQ (cE (i:=4) S.nd rfl (Or.inl rfl) rfl (S.c (by decide +kernel)) (S.k rfl rfl rfl (by decide +kernel)) (zU (cv 1)) (fun _ _ _ _ _=>(cf_one (hZ (cf (T.F 37 rfl) zV hr (qQ (cv 4) (ca1 (cv 0))))))) (fun _ _ _ _ _=>(cv 0)))
  (vQ (rQ (cw_pt (cw_or (ct2 bF tG (cln T.yJ (cv 4)) zQ) (cw_or1 (pV (hZ (cf (T.F 37 rfl) zV hr (qQ (cx (cv 0) (cv 3)) (ca1 (cx (cv 1) (cx (cv 4) zQ)))))))))) (vQ (gQ tJ)) pQ))))) pQ)
  (jQ (rQ (cw_pt (cw_and (qC bB eF (cv 2) (lQ (qQ kQ (qQ kQ (ca1 kQ)))) rfl) (cw_and1 (ct2 bF tG (cln T.yJ (cv 0)) (cln T.yJ (cv 1)))))) (vQ (gQ tJ)) pQ)
  (jQ (rQ (qC bB eF (cv 2) (lQ (qQ kQ (ca1 kQ))) rfl) (vQ (gQ (wV rO eF tJ (lY rfl (S.c (by decide +kernel)) (S.k rfl rfl rfl (by decide +kernel)) (eE rfl T.rV (ca1 (cln T.yJ (cv 0)))) (fun _ _ _ _ _=>nJ) (fun _ _ _ _ _=>(cf (T.F 37 rfl) zV hr (qQ (cx (cv 1) (cv 0)) (ca1 (cx (cv 2) (cv 0))))))) rfl))) pQ)
  (vQ (gQ (ce_or (wV fX oQ (cv 2) kQ (wW _)) (Zr (wV fX oQ (cv 0) (cv 1) (wW _))))))))))),?_⟩
 .obtain ⟨x,y,rfl,_⟩:=h;rfl
 rintro ts C R ⟨x,y,rfl,hx,hy,hw,q⟩;have hy:=hy;refine el11 hx.ty fun n hn=>?_;obtain⟨m,hm,nl,nd⟩:=pl_ty hy;refine yQ ⟨y,m,rfl,hm,fun C1 g1=>⟨x,n,rfl,lD hn g1,fun C2 g2=>?_⟩⟩;have g:=g1.trans g2
 apply qX (dQ _ _)
 by_cases e:m=n
 .subst e
  refine rX (by rw[Ai rfl];rfl) (sQ ?_);have ne:∀k,m≠k->Qw m≠Qw k:=fun k h z=>h (rS z);refine qX (dQ _ _) (rX (AQ (ne .dct nd)) (sQ ⟨by decide,Zb (ss:=["tuple","list","dict"]) ?_⟩))
  cases hy with
  |@tup d ys hys =>
   cases hm
   have hx2:∃xs,x=.tup xs/\∀t∈xs,Th C t:=by
    cases hx with
    |tup h=>exact⟨_,rfl,h⟩
    |lst h=>rw[h] at hn;cases hn
    |dct h=>rw[h] at hn;cases hn
    |_=>cases hn
   obtain⟨xs,rfl,hxs⟩:=hx2;rw[pw] at hw;have hlen:=gO ys;refine jJ (by decide +kernel) (wU (wU (qX (dX _ _) ?_)))
   by_cases el:xs.length=ys.length
   .refine rX (by rw[Ai (by rw[el])];rfl) (sQ ?_)
    refine⟨by decide,Zb (ss:=["tuple","list"]) (jJ (by decide +kernel) ?_)⟩;refine wU ⟨by lia,by lia,?_⟩;refine iF (fun t=>match t with | .int i=>.bl (@decide (xs[i.toNat]?=ys[i.toNat]?) (Classical.propDecidable _)) | _=>.non) _ [] C2 Gr.refl (by rw[Be,AB,An];show _<=16777216;lia) (fun t hm C3 Q' g3 hq3=>?_) fun p C3 _ g3 m3=>?_
    .obtain ⟨k,hk,rfl⟩:=AU.1 hm
     rw[BR] at hk;have hk:k < ys.length:=by lia
     refine wX (eC hk) (wX (eC (by lia)) ?_);refine⟨xs[k],ys[k],rfl,((hxs _ (BW _)).gr g).gr g3,hys _ (BW _),by have:=VI (BW hk);lia,fun b C4 hb g4=>?_⟩
     have eb:@decide (xs[k]?=ys[k]?) (Classical.propDecidable _)=b:=by
      rw[Cw,hb,@decide_eq_true_iff _ (Classical.propDecidable _),AO hk,AO (by lia),Option.some.injEq]
     have:=hq3 C4 g4;dsimp only at this
     rwa [show((k:Int)).toNat=k from Ci k,eb] at this
    .apply notF_s (by
      rw[m3,Cu,BX,BX,Ci]
      rfl)
     refine q _ C3 ?_ (g.trans g3);rw[Bz];refine⟨fun h=>?_,fun h b hb=>?_⟩
     .have:=List.ext_getElem? fun k=>by
       rcases Cg k ys.length with hk | hk
       .have:=h _ (AU.2 ⟨k,BR.2 hk,rfl⟩)
        exact(@decide_eq_true_iff _ (Classical.propDecidable _)).1 this
       .rw [B7 (by lia),B7 hk]
      rw[this]
     .obtain ⟨k,_,rfl⟩:=AU.1 hb
      cases h;exact(@decide_eq_true_iff _ (Classical.propDecidable _)).2 rfl
   .exact jJ (by rw[AQ fun z=>el (by lia)];rfl) (q false C2 ⟨(fun z=>nomatch z),fun h=>(el (by cases h;rfl)).elim⟩ g)
  |_ =>
   obtain⟨n1,n2,n3,b,e1,e2⟩:=sc_eq rfl hn hm;refine rX (AQ fun z=>?_) (mU rfl (sQ ?_))
   .simp only[List.mem_cons,List.not_mem_nil,or_false] at z
    rcases z with z | z | z
    .exact ne .tup n1 z
    .exact ne .lst n2 z
    .exact ne .dct n3 z
   refine⟨by decide,Zb (ss:=["tuple","list"]) (rX (AQ fun z=>?_) (sQ ?_))⟩
   .simp only[List.mem_cons,List.not_mem_nil,or_false] at z
    rcases z with z | z
    .exact ne .tup n1 z
    .exact ne .lst n2 z
   exact qX (dQ _ _) (rX (AQ (ne .dct n3)) (qX e1 (q b C2 e2 g)))
 .refine jJ (by rw[AQ fun z=>e (rS z)];rfl) (q false C2 ⟨(fun z=>nomatch z),fun h=>(e ?_).elim⟩ g)
  subst h;rw[hn] at hm;exact(BC hm).symm
def Kg(T:Tx W a)d:Ok W a (d+2) 37 U15 (gAl d):=by
 induction d with
 |zero=>exact xK fun ts C Q ⟨_,_,_,_,h,_,_⟩=>h
 |succ d ih=>exact XR T d (d+2) (Nat.succ_pos _) ih
end
def Tp.gr(h:Tp C t ns)(g:Gr C C'):Tp C' t ns:=by
 obtain⟨⟨i,j,k,e,r⟩,h2⟩:=h;exact⟨⟨i,j,k,g _ _ e,r⟩,h2⟩
def Ex.gr(g:Gr C C'):Ex t C C':=fun b o _ e=>g b o e
theorem Rk.ok.tau(h:∀s∈τ,s∈τ'):∀{d}{r:Rk},r.ok bs τ d->r.ok bs τ' d
 |d,.num i,k=>by unfold Rk.ok at k ⊢;exact k
 |d,.turn n,k=>by unfold Rk.ok at k ⊢;exact h n k
 |d,.ask s n,k=>by unfold Rk.ok at k ⊢;exact k
 |0,.bin _ _ _,k=>k.elim
 |0,.pick _ _ _,k=>k.elim
 |d+1,.bin w x y,k=>⟨k.1,k.2.1.tau h,k.2.2.tau h⟩
 |d+1,.pick x y z,k=>⟨k.1.tau h,k.2.1.tau h,k.2.2.tau h⟩
def PrOk.tau(h:∀s∈τ,s∈τ')(k:PrOk bs τ d ps):PrOk bs τ' d ps:=fun c hc=>⟨(k c hc).1.tau h,(k c hc).2⟩
def koOk.tau(h:∀s∈τ,s∈τ')(k:koOk bs τ o):koOk bs τ' o:=by
 cases o with
 |none=>trivial
 |some r=>exact Rk.ok.tau h k
def LnOk.tau(hr:∀s∈rs,s∈rs'):∀{d}{τ τ'}{l},(∀s∈τ,s∈τ')->LnOk bs rs d τ l->LnOk bs rs' d τ' l:=by
 intro d
 induction d with
 |zero=>intro τ τ' l _ h;exact h.elim
 |succ d ih =>
  intro τ τ' l ht h
  cases l with
  |plain k t s hh ls=>exact⟨h.1.tau ht,⟨h.2.1.1.tau ht,h.2.1.2⟩,⟨fun x hx=>⟨(h.2.2.1.1 x hx).1,fun c hc=>⟨((h.2.2.1.1 x hx).2.1 c hc).1.tau ht,((h.2.2.1.1 x hx).2.1 c hc).2⟩,(h.2.2.1.1 x hx).2.2⟩,h.2.2.1.2⟩,fun x hx=>ih ht (h.2.2.2.1 x hx),h.2.2.2.2⟩
  |part k n g=>exact⟨h.1.tau ht,hr _ h.2.1,h.2.2.1.tau ht,h.2.2.2⟩
  |give k n r ls=>exact⟨h.1.tau ht,h.2.1,h.2.2.1.tau ht,fun x hx=>ih ht (h.2.2.2.1 x hx),h.2.2.2.2⟩
  |when r l1 l2=>exact⟨h.1.tau ht,⟨fun x hx=>ih ht (h.2.1.1 x hx),h.2.1.2⟩,fun x hx=>ih ht (h.2.2.1 x hx),h.2.2.2⟩
  |each n r ls=>exact⟨h.1.tau ht,fun x hx=>ih (fun s hs=>by
    rcases Af.1 hs with hs | hs
    .exact hs▸AF
    .exact AK _ (ht s hs)) (h.2.1 x hx),h.2.2⟩
def Yh xs(k:Nat):zY xs none (some k )=xs.take k:=by
 delta zY
 rw[HT.sIx_nat,HT.sIx_none,List.drop_zero,Nat.sub_zero,List.take_eq_take_iff]
 lia
def cut_lo xs(k:Nat):zY xs (some k ) none=xs.drop k:=by
 delta zY
 rw[HT.sIx_nat,HT.sIx_none,DU (Bx▸AH _)]
 by_cases h:k<=xs.length
 .rw [Nat.min_eq_left h]
 .rw [Nat.min_eq_right (by lia),By,List.drop_eq_nil_of_le (by lia)]
def Pt.ins(x:Pt)(k:Nat)(l:Ln):Pt:=⟨x.name,x.first,x.works,x.ls.take k++[l]++x.ls.drop k⟩
def PtS.ins{cap}(h:PtS rs cap x)(hl:LnOk (x.first.map (·.1)) rs 6 [] l)(ht:l.tw<=72)(hp:l.pw=0)k:PtOk rs cap (x.ins k l):=by
 have e1:Ln.tws (x.ls.take k)+Ln.tws (x.ls.drop k)=Ln.tws x.ls:=by rw[<- Ln.tws_app,List.take_append_drop]
 have e2:Ln.pws (x.ls.take k)+Ln.pws (x.ls.drop k)=Ln.pws x.ls:=by rw[<- Ln.pws_app,List.take_append_drop]
 have e3:Ln.tws [l]=l.tw+0:=rfl;have e4:Ln.pws [l]=l.pw+0:=rfl;have h1:=h.tw;have h2:=h.ok.pw;have h3:=h.ll;refine⟨h.ok.fl,h.ok.wk,h.ok.wl,fun z hz=>?_,?_,?_,?_,h.ok.fb,h.ok.bn⟩
 .rcases AV.1 hz with hz | hz
  .rcases AV.1 hz with hz | hz
   .exact h.ok.ls z (Cr hz)
   .cases AE.1 hz;exact hl
  .exact h.ok.ls z (List.mem_of_mem_drop hz)
 .show (x.ls.take k++[l]++x.ls.drop k).length<=7
  rw[AL,AL,AZ,Bj,Bx]
  lia
 .show Ln.tws (x.ls.take k++[l]++x.ls.drop k)<=120
  rw[Ln.tws_app,Ln.tws_app]
  lia
 .show Ln.pws (x.ls.take k++[l]++x.ls.drop k)<=cap
  rw[Ln.pws_app,Ln.pws_app]
  lia
section
variable {W:Wd}{a:Adr}
inductive gNest(ts:List PV)(C:CH)(Q:K1):Prop
 |mk(t:Addr)(ns:List Int)(x:Pt)(rs:List Str)(cap:Nat)(z0:ts=[.ref t,x.pv])(z1:Tp C t ns)(z2:PtS rs cap x)(z3:∀(y:Pt)(C':CH),PtOk rs cap y->Tp C' t ns->Ex t C C'->Q y.pv C'):gNest ts C Q
def Kd(T:Tx W a):Ok W a 9 29 U4 gNest:=by
 have S:=(T.F 29 rfl).s;have bQ:=(zJ T).mono (show 1<=8 by decide);have eJ:=(jL T 1).mono (show 5<=8 by decide);have qM:=gS T
 refine(T.F 29 rfl).ok (fun ts C R h=>?_) fun cdv A outer s H E hr=>⟨_,(jQ (rQ (ct2 jK rZ (cf (T.F 14 rfl) bQ hr (qQ (cv 0) (ca1 zQ))) zQ) (vQ (gQ (cv 1))) pQ)
  (jQ (cE (i:=2) S.nd rfl (Or.inl rfl) rfl (S.c (by decide +kernel)) (S.k (L:=0) rfl rfl rfl (by decide +kernel)) (zU (cx (cv 1) zQ)) (fun _ _ _ _ _=>nJ) (fun _ _ _ _ _=>(cx (cv 0) zQ)))
  (jQ (cs1 3 S.nd (Jv (lJ kQ (cv 2) (lJ kQ (zX sJ) (lJ kQ zQ (lJ kQ zQ (lJ kQ zQ (lJ kQ vV Js))))))))
  (jQ (cs1 4 S.nd (cx (zX (qQ (zX (qQ kQ (ca1 kQ))) (qQ (zX (qQ kQ (ca1 kQ))) (ca1 (zX (qQ kQ (ca1 kQ))))))) (cf (T.F 14 rfl) bQ hr (qQ (cv 0) (ca1 zQ)))))
  (jQ (cs1 5 S.nd (cf (T.F 22 rfl) qM hr (qQ (cv 0) (qQ (cv 3) (qQ (ctp T.vX (cv 4)) (ca1 zQ))))))
  (jQ (cs1 6 S.nd (zX (qQ (lQ (qQ kQ (ca1 (cf (T.F 14 rfl) bQ hr (qQ (cv 0) (ca1 zQ)))))) (ca1 (lQ (qQ kQ (ca1 (cf (T.F 14 rfl) bQ hr (qQ (cv 0) (ca1 zQ))))))))))
  (jQ (rQ (ct2 fX oQ (cf (T.F 14 rfl) bQ hr (qQ (cv 0) (ca1 zQ))) zQ) (vQ (cs1 6 S.nd (zX (qQ (lQ (qQ kQ (ca1 (tQ pK wJ (cf (T.F 14 rfl) bQ hr (qQ (cv 0) (ca1 zQ))) zQ)))) (ca1 (cf (T.F 18 rfl) eJ hr (qQ (cv 0) (qQ (cv 3) (qQ (lQ (ca1 (cx (cv 4) zQ))) (ca1 zQ)))))))))) pQ)
  (jQ (cs1 7 S.nd (lQ (qQ kQ (qQ (cx (cv 4) zQ) (qQ (cx (cv 6) zQ) (ca1 (lQ (ca1 (cv 5)))))))))
  (jQ (cs1 8 S.nd (zA (zX (qQ (cv 7) (ca1 (cf (T.F 22 rfl) qM hr (qQ (cv 0) (qQ (cv 3) (qQ (lQ (ca1 (cx (cv 4) zQ))) (ca1 zQ)))))))) cY (dY (tQ nX sX zQ (cf (T.F 14 rfl) bQ hr (qQ (cv 0) (ca1 zQ)))))))
  (jQ (cs1 9 S.nd (lQ (qQ kQ (qQ (cx (cv 4) zQ) (qQ (cx (cv 6) zQ) (ca1 (ctp T.vX (cv 8))))))))
  (jQ (cs1 10 S.nd (cf (T.F 14 rfl) bQ hr (qQ (cv 0) (ca1 (tQ nX sX (cln T.yJ (cx (cv 1) zQ)) zQ)))))
  (vQ (gQ (tQ nX sX (qA (cv 1) cY (dY zQ)) (lQ (ca1 (tQ nX sX (tQ nX sX (qA (cx (cv 1) zQ) cY (dY (cv 10))) (lQ (ca1 (cv 9)))) (qA (cx (cv 1) zQ) (dY (cv 10)) cY)))))))))))))))))),?_⟩
 .obtain ⟨_,_,_,_,_,rfl,_⟩:=h;rfl
 rintro ts C R ⟨t,ns,x,rs,cap,rfl,hT,hx,q⟩;refine iZ ⟨t,3,ns,rfl,hT,by decide,by decide,fun v C1 v0 v1 T1 e1=>i_i (bZ (fun hb=>q x C1 hx.ok T1 e1) fun hb=>sQ ?_)⟩;have fl:=hx.ok.fl
 try dsimp only
 apply yQ
 refine wX (v:=.tup (x.first.map yZ)) rfl ?_;refine iF (fun t=>match t with | .tup (s::_)=>s | _=>.non) (x.first.map yZ) [] C1 Gr.refl (by rw[Be,AB];exact Aa (show _<=4 by lia) (by decide)) (fun z hz C2 Q' g2 hq=>?_) fun bl C2 hbl g2 m2=>?_
 .obtain ⟨c,hc,rfl⟩:=AU.1 hz
  exact wX rfl (hq C2 Gr.refl)
 have m2:C2 bl=some (.lst ((x.first.map (·.1)).map PV.str)):=by rw[m2,Cu,BX,BX];rfl
 have e02:Ex t C C2:=e1.trans (Ex.gr g2);have T2:=T1.gr g2;have bt:=T1.ne hbl;clear hbl g2 e1 T1
 apply yQ
 intro kd hkd;have T3:=T2.new hkd (.dK []);have nkt:=T2.ne hkd;refine⟨y0 0 rfl,fun rl hrl=>?_⟩;have T4:=T3.new hrl (.lst []);have nrt:=T3.ne hrl;have nkr:kd≠rl:=fun z=>by subst z;rw[xQ] at hrl;cases hrl
 have hrl2:C2 rl=none:=by rw[wQ (Ne.symm nkr)] at hrl;exact hrl
 have nbk:bl≠kd:=fun z=>by rw[z,hkd] at m2;cases m2
 have nbr:bl≠rl:=fun z=>by rw[z,hrl2] at m2;cases m2
 apply Qa (ps:=lX bl rl 0 0 0 .non) (by rw[wQ nkr];exact xQ) rfl (by show 6<=15;decide)
 rw[show sU [] (lX bl rl 0 0 0 .non)=lX bl rl 0 0 0 .non from rfl];have T5:=T4.put nkt (.dK (lX bl rl 0 0 0 .non))
 have x5:Ex t C (uQ (uQ (uQ C2 kd (.dK [])) rl (.lst [])) kd (.dK (lX bl rl 0 0 0 .non))) :=
  ((e02.trans (Ex.new hkd _)).trans (Ex.new hrl _)).put (e02.none nkt hkd) _
 have k5:KAt (uQ (uQ (uQ C2 kd (.dK [])) rl (.lst [])) kd (.dK (lX bl rl 0 0 0 .non))) t kd ⟨bl,rl,x.first.map (·.1),[],0,0,0,none⟩:=by
  refine⟨xQ,?_,?_,nkt,bt,nrt,by show(x.first.map (·.1)).length<=4;rw[AB];exact fl,Ae _⟩
  .rw [wQ nbk,wQ nbr,wQ nbk];exact m2
  .rw [wQ (Ne.symm nkr)];exact xQ
 have kd0:C kd=none:=e02.none nkt hkd;generalize uQ (uQ (uQ C2 kd (.dK [])) rl (.lst [])) kd (.dK (lX bl rl 0 0 0 .non))=C5 at T5 x5 k5 ⊢;clear T3 T4 hrl hrl2 m2;have exS:∀{Ca Cb:CH},Ex t C Ca->ExS [t,kd] Ca Cb->Ex t C Cb:=fun h g b o nb e=>g b o (n12 nb (fun z=>by subst z;rw[kd0] at e;cases e)) (h b o nb e);refine yQ ⟨y0 2 rfl,fun p1 h1=>⟨y0 2 rfl,fun p2 h2=>⟨y0 2 rfl,fun p3 h3=>⟨y0 3 rfl,fun p4 h4=>⟨t,3,ns,rfl,(((T5.new h1 _).new h2 _).new h3 _).new h4 _,by decide,by decide,fun v3 C6 v30 v31 T6 e6=>?_⟩⟩⟩⟩⟩
 have a1:=Ex.new (t:=t) h1 (.lst [.str "x",.str "y"]);have a2:=Ex.new (t:=t) h2 (.lst [.str "x",.str "x"]);have a3:=Ex.new (t:=t) h3 (.lst [.str "a",.str "ab"]);have a4:=Ex.new (t:=t) h4 (.lst [.ref p1,.ref p2,.ref p3]);have n1:=T5.ne h1;have n2:=(T5.new h1 (.lst [.str "x",.str "y"])).ne h2;have n3:=((T5.new h1 (.lst [.str "x",.str "y"])).new h2 (.lst [.str "x",.str "x"])).ne h3;have n4:=(((T5.new h1 (.lst [.str "x",.str "y"])).new h2 (.lst [.str "x",.str "x"])).new h3 (.lst [.str "a",.str "ab"])).ne h4
 have x6:Ex t C C6:=(((x5.trans a1).trans a2).trans (a3.trans a4)).trans e6;have k6:=((((k5.ex a1).ex a2).ex a3).ex a4).ex e6;have q1:C6 p1=some (.lst [.str "x",.str "y"]):=e6 _ _ n1 (a4 _ _ n1 (a3 _ _ n1 (a2 _ _ n1 xQ)));have q2:C6 p2=some (.lst [.str "x",.str "x"]):=e6 _ _ n2 (a4 _ _ n2 (a3 _ _ n2 xQ));have q3:C6 p3=some (.lst [.str "a",.str "ab"]):=e6 _ _ n3 (a4 _ _ n3 xQ);have q4:C6 p4=some (.lst [.ref p1,.ref p2,.ref p3]):=e6 _ _ n4 xQ
 have hn:∃nl s0 s1,atI [PV.ref p1,.ref p2,.ref p3] v3=some (.ref nl)/\C6 nl=some (.lst [.str s0,.str s1])/\nl≠t:=by
  have:v3=0\/v3=1\/v3=2:=by lia
  rcases this with rfl | rfl | rfl
  .exact ⟨p1,_,_,rfl,q1,n1⟩
  .exact ⟨p2,_,_,rfl,q2,n2⟩
  .exact ⟨p3,_,_,rfl,q3,n3⟩
 obtain⟨nl,s0,s1,en,mn,nnt⟩:=hn;clear a1 a2 a3 a4 h1 h2 h3 h4 n1 n2 n3 n4 q1 q2 q3 e6 k5 T5 x5;refine mZ q4 en ?_;clear q4 en;have nnk:nl≠kd:=fun z=>by have:=k6.at_;rw[<- z,mn] at this;cases this
 have kok0:∀(τ:List Str),τ.length<=4->Kok ⟨bl,rl,x.first.map (·.1),[],0,0,0,none⟩ 0 τ:=fun τ hτ=>⟨BA _,by show(0:Int)<=6;decide,BA _,by show(0:Int)<=2;decide,BA _,BA _,fun z=>absurd z (by decide),fun z=>absurd (show(0:Int) < 0 from z) (by decide),hτ⟩;refine yQ (mJ mn ⟨t,kd,[s0,s1],ns,_,rfl,T6,k6,kok0 _ (by show 2<=4;decide),fun l1 κ1 C7 o1 w1 c1 T7 k7 x7=>?_⟩)
 have x07:=exS x6 x7;have mn7:=x7 _ _ (n12 nnt nnk) mn;have z1:(l1.tw:Int)<=1:=by have:=w1.t;have h:=c1.l0;have h2:κ1.l<=0:=c1.l1;have this:(l1.tw:Int)<=1 * (1+(0 - κ1.l)):=this;lia
 have y1:l1.pw=0:=(w1.n (fun z=>nomatch z)).1;have kok1:∀(τ:List Str),τ.length<=4->Kok κ1 0 τ:=fun τ hτ=>(kok0 τ hτ).chg c1;have b1:κ1.bs=x.first.map (·.1):=c1.bs;have rn1:κ1.rs=[]:=c1.rs;refine yQ ⟨t,4,ns,rfl,T7,by decide,by decide,fun u C8 u0 u1 T8 e8=>⟨y0 2 rfl,⟨t,3,ns,rfl,T8,by decide,by decide,fun w C9 w0 w2 T9 e9=>⟨y0 2 rfl,⟨y0 2 rfl,fun pn hpn=>?_⟩⟩⟩⟩⟩
 have npt:=T9.ne hpn;have e79:Ex t C7 (uQ C9 pn (.lst [(Rk.num u).pv,(Rk.num w).pv])):=(e8.trans e9).trans (Ex.new hpn _);have T10:=T9.new hpn (.lst [(Rk.num u).pv,(Rk.num w).pv]);have m10:uQ C9 pn (.lst [(Rk.num u).pv,(Rk.num w).pv]) pn=some (.lst [(Rk.num u).pv,(Rk.num w).pv]):=xQ;refine aQ (fun ρ' C'=>∃(r0 r1:Rk)(pn:Addr),r0.ok (x.first.map (·.1)) [] 1/\r1.ok (x.first.map (·.1)) [s0] 1/\ρ'=[some (.ref t),some x.pv,some (.ref bl),some (.ref kd),some (.ref nl),some l1.pv,some (.ref pn),none,none,none,none]/\pn≠t/\C' pn=some (.lst [r0.pv,r1.pv])/\Tp C' t ns/\Ex t C7 C') (fun L hL=>?_) ?_
 .refine ⟨t,8,ns,rfl,T10,by decide,by decide,fun v8 C11 _ _ T11 e11=>qX (dX _ _) (bZ (fun hb8=>?_) fun hb8=>?_)⟩
  .refine ⟨t,11,ns,rfl,T11,by decide,by decide,fun v9 C12 v90 v91 T12 e12=>i_i ⟨y0 2 rfl,mZ ((e12 _ _ nnt (e11 _ _ nnt (e79 _ _ nnt mn7)))) (v:=.str s0) rfl ⟨y0 1 rfl,⟨t,kd,[s0],ns,κ1,rfl,T12,((k7.ex e79).ex e11).ex e12,by show 1<=4;decide,fun r1 C13 hr1 T13 e13=>⟨y0 2 rfl,fun pm hpm=>?_⟩⟩⟩⟩⟩
   exact hL _ _ ⟨.num (v9 - 1),r1,pm,⟨by lia,by lia⟩,by rw[<- b1];exact hr1,rfl,T13.ne hpm,xQ,T13.new hpm _,(((e79.trans e11).trans e12).trans e13).trans (Ex.new hpm _)⟩
  .exact sQ (hL _ _ ⟨.num u,.num w,pn,⟨by lia,by lia⟩,⟨by lia,by lia⟩,rfl,npt,e11 _ _ npt m10,T11,e79.trans e11⟩)
 clear T10 m10 e79 npt hpn T9 T8 e8 e9;rintro ρ' C9 ⟨r0,r1,pn,hr0,hr1,rfl,npt,mp9,T9,e79⟩;have mn9:=e79 _ _ nnt mn7;refine yQ (mZ mn9 (v:=.str s1) rfl (mZ mp9 (v:=r1.pv) rfl ⟨y0 1 rfl,⟨y0 4 rfl,?_⟩⟩));refine yQ (mZ mn9 (v:=.str s0) rfl ⟨y0 1 rfl,⟨t,kd,[s0],ns,κ1,rfl,T9,k7.ex e79,kok1 _ (by show 1<=4;decide),fun l2 κ2 C10 o2 w2 c2 T10 k10 x10=>⟨y0 2 rfl,fun pl hpl=>?_⟩⟩⟩)
 have z2:(l2.tw:Int)<=1:=by have:=w2.t;have h:=c2.l0;have h2:κ1.l<=0:=c1.l1;have this:(l2.tw:Int)<=1 * (1+(κ1.l - κ2.l)):=this;lia
 have y2:l2.pw=0:=(w2.n (fun z=>nomatch z)).1;have npk:pn≠kd:=fun z=>by have:=(k7.ex e79).at_;rw[<- z,mp9] at this;cases this
 have T11:=T10.new hpl (.lst [.tup [.str "each",.str s1,r1.pv,.tup [l1.pv]],l2.pv]);refine⟨t,2,ns,rfl,T11,by decide,by decide,fun v12 C12 v120 v121 T12 e12=>qV (sl_l (e12 _ _ (T10.ne hpl) xQ) fun pc hpc=>?_)⟩;have u9:∀b o,b≠t->b≠kd->C9 b=some o->uQ C12 pc (.lst (zY [.tup [.str "each",.str s1,r1.pv,.tup [l1.pv]],l2.pv] none (some (1+v12)))) b=some o:=fun b o nb nk h=>Gr.new hpc _ _ _ (e12 _ _ nb (Gr.new hpl _ _ _ (x10 _ _ (n12 nb nk) h)))
 have mn13:=u9 _ _ nnt nnk mn9;have mp13:=u9 _ _ npt npk mp9;have x13:Ex t C (uQ C12 pc (.lst (zY [.tup [.str "each",.str s1,r1.pv,.tup [l1.pv]],l2.pv] none (some (1+v12))))):=(((exS (x07.trans e79) x10).trans (Ex.new hpl _)).trans e12).trans (Ex.new hpc _);have T13:=T12.new hpc (.lst (zY [.tup [.str "each",.str s1,r1.pv,.tup [l1.pv]],l2.pv] none (some (1+v12))))
 have hls:∃ls:List Ln,zY [.tup [.str "each",.str s1,r1.pv,.tup [l1.pv]],l2.pv] none (some (1+v12))=Ln.pvs ls/\LnOk (x.first.map (·.1)) rs 6 [] (.each s0 r0 ls)/\(Ln.each s0 r0 ls).tw<=72/\(Ln.each s0 r0 ls).pw=0:=by
  have o1':LnOk (x.first.map (·.1)) rs 4 [s1,s0] l1:=(LnOk.tau (fun _(z:_∈([]:List Str))=>nomatch z) (fun s hs=>by
   rcases Af.1 hs with hs | hs
   .exact AK _ (hs▸AF)
   .exact Af.2 (.inl (AE.1 hs))) o1).mono (by decide)
  have o2':LnOk (x.first.map (·.1)) rs 5 [s0] l2:=by
   rw[b1,rn1] at o2;exact(LnOk.tau (fun _(z:_∈([]:List Str))=>nomatch z) (fun s hs=>hs) o2).mono (by decide)
  have oi:LnOk (x.first.map (·.1)) rs 5 [s0] (.each s1 r1 [l1]):=⟨hr1,fun z hz=>by cases AE.1 hz;exact o1',by show 1<=6;decide⟩;have:v12=0\/v12=1:=by lia
  rcases this with rfl | rfl
  .refine ⟨[.each s1 r1 [l1]],rfl,⟨hr0,fun z hz=>by cases AE.1 hz;exact oi,by show 1<=6;decide⟩,?_,?_⟩
   .show 8 * (8 * (l1.tw+0)+0)<=72;lia
   .show 8 * (8 * (l1.pw+0)+0)=0;lia
  .refine ⟨[.each s1 r1 [l1],l2],rfl,⟨hr0,fun z hz=>by
    rcases Af.1 hz with rfl | hz
    .exact oi
    .cases AE.1 hz;exact o2',by show 2<=6;decide⟩,?_,?_⟩
   .show 8 * (8 * (l1.tw+0)+(l2.tw+0))<=72;lia
   .show 8 * (8 * (l1.pw+0)+(l2.pw+0))=0;lia
 have mc13:uQ C12 pc (.lst (zY [.tup [.str "each",.str s1,r1.pv,.tup [l1.pv]],l2.pv] none (some (1+v12)))) pc=some (.lst (zY [.tup [.str "each",.str s1,r1.pv,.tup [l1.pv]],l2.pv] none (some (1+v12)))):=xQ;obtain⟨ls,els,ok1,tw1,pw1⟩:=hls;generalize uQ C12 pc (.lst (zY [.tup [.str "each",.str s1,r1.pv,.tup [l1.pv]],l2.pv] none (some (1+v12))))=C13 at mn13 mp13 x13 T13 mc13 ⊢;rw[els] at mc13;refine yQ (mZ mn13 (v:=.str s0) rfl (mZ mp13 (v:=r0.pv) rfl (mJ mc13 ⟨y0 4 rfl,?_⟩)))
 have ll:=hx.ll;have pl:=Ln.pvs_len x.ls;refine yQ (wX (v:=.tup (Ln.pvs x.ls)) rfl (wU (qV ⟨t,_,ns,rfl,T13,by lia,by lia,fun va C14 va0 va1 T14 e14=>?_⟩)));obtain⟨k,rfl⟩:∃k:Nat,va=k:=⟨va.toNat,by lia⟩;refine ZO ?_;refine wX (v:=.tup (Ln.pvs x.ls)) rfl (ZO ⟨y0 1 rfl,?_⟩);have hk:∀n,n<=20->n<=sizeLine:=fun n h=>Aa h (by decide);rw[Yh];refine JM (hk _ (by rw[Bj,AZ];lia)) (wX (v:=.tup (Ln.pvs x.ls)) rfl (ZO ?_))
 rw[cut_lo];refine JM (hk _ (by rw[AL,Bj,AZ,Bx];lia)) ⟨y0 1 rfl,JM (by show 3+1<=sizeLine;decide) ?_⟩;have:=q (x.ins k (.each s0 r0 ls)) C14 (hx.ins ok1 tw1 pw1 k) T14 (x13.trans e14)
 have e:(x.ins k (.each s0 r0 ls)).pv=.tup [.str x.name,.tup (x.first.map yZ),.tup (x.works.map vW),.tup (List.take k (Ln.pvs x.ls)++[(Ln.each s0 r0 ls).pv]++List.drop k (Ln.pvs x.ls))]:=by
  show PV.tup [_,_,_,.tup (Ln.pvs (x.ls.take k++[.each s0 r0 ls]++x.ls.drop k))]=_;rw[Ln.pvs_app,Ln.pvs_app,Ln.pvs_map x.ls,Ln.pvs_map (x.ls.take k),Ln.pvs_map (x.ls.drop k),List.map_take,List.map_drop]
  rfl
 rw[e] at this;exact this
end
theorem jI[DecidableEq κ]k k':∀A:List (κ×PV),zK (A.filter fun kv=>decide (kv.1≠k)) k'=if k'=k then none else zK A k'
 |[]=>by split<;>rfl
 |x::A=>by
  have ih:=jI k k' A;unfold zK at ih ⊢
  by_cases e:x.1=k
  .rw [Bb (by rw[Am];exact fun z=>z e),ih]
   by_cases e2:k'=k
   .rw [AW e2,AW e2]
   .rw [AX e2,AX e2,DV (by rw[Am];exact fun z=>e2 (z.symm.trans e))]
  .rw [Ba (by rwa [Am])]
   by_cases e3:x.1=k'
   .rw [List.find?_cons_of_pos (by rwa [Am]),AX (fun z=>e (e3.trans z)),List.find?_cons_of_pos (by rwa [Am])]
   .rw [DV (by rwa [Am]),ih,DV (by rwa [Am])]
def sA(A:Rds)k i s n:eX (putG A k (.int i)) s n=if qK s n=k then i else eX A s n:=by
 delta eX
 rw[jF]
 by_cases e:qK s n=k
 .rw [AW e,AW e]
 .rw [AX e,AX e]
def Xd A k s n:eX (A.filter fun kv=>decide (kv.1≠k)) s n=if qK s n=k then 0 else eX A s n:=by
 delta eX
 rw[jI]
 by_cases e:qK s n=k
 .rw [AW e,AW e]
 .rw [AX e,AX e]
inductive AJ(C0 C:CH)(t d:Addr)(ns:List Int)(A0:Rds)(ds:List (List Str×Int))(m:Nat):Prop
 |mk(A:Rds)(h:C d=some (.dT A))(l:A.length<=m)(b:ABd A)(v:∀s n,([s,n],eX A0 s n)∈ds->eX A s n=eX A0 s n)(T:Tp C t ns)(e:Ex t C0 C):AJ C0 C t d ns A0 ds m
section
variable {W:Wd}{a:Adr}
inductive gAgr(ts:List PV)(C:CH)(Q:K1):Prop
 |mk(t:Addr)(ns:List Int)(x:Pt)(A0:Rds)(cs:List (List Str×Int))(z0:ts=[.ref t,x.pv,.tup (cs.map aZ)])(z1:Tp C t ns)(z2:x.first.length<=4)(z3:∀c∈x.first,-1000000000<=c.2/\c.2<=1000000000)(z4:cs.length<=10)(z5:ABd A0)(z6:∀c∈cs,∃s n,c=([s,n],eX A0 s n))(z7:∀C' d A,C d=none->C' d=some (.dT A)->A.length<=23->ABd A->(∀s n,([s,n],eX A0 s n)∈cs->eX A s n=eX A0 s n)->Tp C' t ns->Ex t C C'->Q (.ref d) C'):gAgr ts C Q
def Qj(T:Tx W a):Ok W a 4 38 U16 gAgr:=by
 have S:=(T.F 38 rfl).s;have wK:=(mB T).mono (show 2<=3 by decide)
 refine(T.F 38 rfl).ok (fun ts C R h=>?_) fun cdv A outer s H E hr=>⟨_,(jQ (cs1 3 S.nd (cf (T.F 30 rfl) (lL T) hr (qQ (cv 0) (ca1 (cv 1)))))
  (jQ (sG (yX hr) (cv 3) (lQ (qQ kQ (ca1 kQ))) (cf (T.F 16 rfl) wK hr (ca1 (cv 0))))
  (jQ (oG PassesOwn.never rfl (cv 2) (aE rfl (nK (cg1 4 S.nd) (nK (cg1 5 S.nd) nP))) (jQ (sG (yX hr) (cv 3) (cv 4) (cv 5))
  (vQ (rQ (cw_pt (cw_and (ct2 fX oQ (cv 5) zQ) (cw_and1 (ct2 fX oQ (cf (T.F 14 rfl) ((zJ T).mono (show 1<=3 by decide)) hr (qQ (cv 0) (ca1 zQ))) zQ)))) (vQ (vJ (ce_tpop (yX hr) (cv 3) (cv 4)))) pQ))))
  (vQ (gQ (cv 3)))))),?_⟩
 .obtain ⟨_,_,_,_,_,rfl,_⟩:=h;rfl
 rintro ts C R ⟨t,ns,x,A0,cs,rfl,hT,hf,hb,hl,hA0,hc,q⟩;refine yQ ⟨t,ns,x,rfl,hT,hf,hb,fun C1 d A hd l m bA T1 e1=>?_⟩;have nd:=hT.ne hd;refine iZ ⟨t,ns,rfl,T1,fun i C2 i0 i1 T2 e2=>⟨by decide,?_⟩⟩
 apply rD (e2 _ _ nd m) rfl (by lia)
 have I0:AJ C (uQ C2 d (.dT (putG A [.inr "take",.inr "nobody"] (.int i)))) t d ns A0 [] 13:=⟨_,xQ,by have:=sH A [.inr "take",.inr "nobody"] (.int i);lia,xH bA _ ⟨i0,i1⟩,(fun _ _ z=>nomatch z),T2.put nd _,(e1.trans e2).put hd _⟩
 try dsimp only
 refine aQ (fun ρ' C'=>∃x4 x5:Option PV,ρ'=[some (.ref t),some x.pv,some (.tup (cs.map aZ)),some (.ref d),x4,x5]/\AJ C C' t d ns A0 cs 23) (fun L hL=>?_) ?_
 .refine nN (uJ (fun zs ρ C'=>∃(ds us:List (List Str×Int))(x4 x5:Option PV),cs=ds++us/\zs=us.map aZ/\ρ=[some (.ref t),some x.pv,some (.tup (cs.map aZ)),some (.ref d),x4,x5]/\AJ C C' t d ns A0 ds (13+ds.length)) ?_ ?_ _ _ _ ⟨[],cs,_,_,rfl,rfl,rfl,I0⟩)
  .rintro z zs ρ C4 ⟨ds,us,x4,x5,e,hz,rfl,A,m,l,b,v,T4,e4⟩ L1 hL1
   cases us with
   |nil=>cases hz
   |cons u us =>
   obtain⟨rfl,rfl⟩:=BQ hz;have hu:u∈cs :=e▸AR _ AF;obtain⟨s,n,rfl⟩:=hc u hu;have hll:ds.length < 10:=by have:=Bg List.length e;rw[AL,AY] at this;lia
   have lp:=sH A (qK s n) (.int (eX A0 s n));refine⟨rfl,sV (sV (dE (iZ (rD m rfl (by lia) ?_))))⟩
   have put:∀A':Rds,A'.length<=A.length+1->ABd A'->eX A' s n=eX A0 s n->(∀s' n',qK s' n'≠qK s n->eX A' s' n'=eX A s' n')->∀C',C' d=some (.dT A')->Tp C' t ns->Ex t C C'->L1 [some (.ref t),some x.pv,some (.tup (cs.map aZ)),some (.ref d),some (.tup [.str s,.str n]),some (.int (eX A0 s n))] C':=by
    intro A' h1 h2 h3 h4 C' h5 h6 h7;refine hL1 _ _ ⟨ds++[([s,n],eX A0 s n)],us,_,_,by rw[Aj];exact e,rfl,rfl,A',h5,by rw[AL,AZ];lia,h2,fun s' n' hm=>?_,h6,h7⟩
    by_cases ek:qK s' n'=qK s n
    .cases ek;exact h3
    .rw [h4 s' n' ek]
     rcases AV.1 hm with hm | hm
     .exact v s' n' hm
     .cases AE.1 hm;exact absurd rfl ek
   have p1:ABd (putG A (qK s n) (.int (eX A0 s n))):=xH b _ ((jB hA0 s n).2);have p2:eX (putG A (qK s n) (.int (eX A0 s n))) s n=eX A0 s n:=by rw[sA,AW rfl]
   have p3:∀s' n',qK s' n'≠qK s n->eX (putG A (qK s n) (.int (eX A0 s n))) s' n'=eX A s' n':=fun s' n' h=>by rw[sA,AX h]
   have p4:zK (putG A (qK s n) (.int (eX A0 s n))) (qK s n)=some (.int (eX A0 s n)):=by rw[jF,AW rfl]
   generalize putG A (qK s n) (.int (eX A0 s n))=A1 at lp p1 p2 p3 p4 ⊢;have m5:uQ C4 d (.dT A1) d=some (.dT A1):=xQ;have T5:=T4.put nd (.dT A1);have e5:Ex t C (uQ C4 d (.dT A1)):=e4.put hd _;generalize uQ C4 d (.dT A1)=C5 at m5 T5 e5 ⊢;refine qX (dX _ _) (bZ (fun hz0=>?_) fun hz0=>mU rfl (sQ ?_))
   .refine ⟨t,2,ns,rfl,T5,by decide,by decide,fun w C6 w0 w1 T6 e6=>qX (dX _ _) (bZ (fun hw=>?_) fun hw=>sQ ?_)⟩
    .exact ⟨X7 (e6 _ _ nd m5),tpop_s (e6 _ _ nd m5) rfl p4 (put _ (Aa (List.length_filter_le _ _) lp) (fun kv h=>p1 kv (DZ.1 h).1) (by rw[Xd,AW rfl];exact(Ac hz0).symm) (fun s' n' h=>by rw[Xd,AX h];exact p3 s' n' h) _ xQ (T6.put nd _) ((e5.trans e6).put hd _))⟩
    .exact put A1 lp p1 p2 p3 C6 (e6 _ _ nd m5) T6 (e5.trans e6)
   .exact put A1 lp p1 p2 p3 C5 m5 T5 e5
  .rintro ρ C4 ⟨ds,us,x4,x5,e,hz,rfl,A,m,l,b,v,T4,e4⟩
   cases us with
   |cons u us=>cases hz
   |nil =>
    rw[Al] at e;subst e;exact hL _ _ ⟨_,_,rfl,A,m,by lia,b,v,T4,e4⟩
 rintro ρ' C4 ⟨x4,x5,rfl,A,m,l,b,v,T4,e4⟩;exact q C4 d A hd m l b v T4 e4
end
def Z1 A x:(wZ A x).pv=.tup [.tup ((wZ A x).reads.map aZ),.tup (Wt.pvs (wZ A x).row),.tup ((wZ A x).works.map yZ)]:=rfl
section
variable {rs:List Str}{cap:Nat}{x:Pt}{A A':Rds}
def zN(ok:PtOk rs cap x)(hA:ABd A):Th C (wZ A x).pv:=(Pn.of (vS (pM ok hA))).th
def V5(ok:PtOk rs cap x)(hA:ABd A):Pg (wZ A x).pv:=fun ts y z e=>by
 injection (PV.tup.inj e) with e1 _
 cases e1;refine⟨by rw[AB];exact Aa (uB ok hA) (by decide),fun t ht s w n e=>?_⟩;obtain⟨c,hc,rfl⟩:=AU.1 ht;refine QN (wF ok hA c hc) fun s' n' e' _ hn _=>?_;obtain⟨c1,c2⟩:=c;cases e';cases e;exact Aa (nm8 hn) (by decide)
def Qd(ok:PtOk rs cap x)(hA:ABd A):pw (wZ A x).pv<=3000000:=Aa (pc_pw ok hA) (by decide)
def ag_of(ok:PtOk rs cap x)(v:∀s n,([s,n],eX A s n)∈(wZ A x).reads->eX A' s n=eX A s n):wZ A x=wZ A' x:=by
 refine(V6 ok (A':=A') fun s n hk=>eQ (AU.1 hk) fun kv hm e=>?_).1;obtain⟨s',n',_,rfl⟩:=jN ok kv hm;cases e;exact(v s n (tD.2 (AU.2 ⟨_,hm,rfl⟩))).symm
def pc_ne(ok:PtOk rs cap x)(hm:([s,n],eX A s n)∈(wZ A x).reads)(ne:eX A' s n≠eX A s n):(wZ A x).pv≠(wZ A' x).pv:=fun e=>by
 injection (PV.tup.inj e) with e1 _
 have h:aZ ([s,n],eX A s n)∈(wZ A' x).reads.map aZ :=(PV.tup.inj e1)▸AU.2 ⟨_,hm,rfl⟩;refine eQ (AU.1 h) fun c hc e2=>?_;obtain⟨s',n',_,rfl⟩:=zG ok hc;injection (PV.tup.inj e2) with e3 e4
 injection e4 with e4 _
 injection (PV.tup.inj e3) with e5 e6
 injection e6 with e6 _
 cases e5;cases e6;exact ne (PV.int.inj e4)
end
section
variable {W:Wd}{a:Adr}
inductive gPr(ts:List PV)(C:CH)(Q:K1):Prop
 |mk(t:Addr)(ns:List Int)(x:Pt)(rs:List Str)(cap:Nat)(z0:ts=[.ref t,x.pv])(z1:Tp C t ns)(z2:PtOk rs cap x)(z3:∀C',Tp C' t ns->Ex t C C'->Q (.bl true) C'):gPr ts C Q
def yR(T:Tx W a):Ok W a 31 39 U4 gPr:=by
 have S:=(T.F 39 rfl).s;have Xj:=(lL T).mono (show 3<=30 by decide);have dD:=(Qj T).mono (show 4<=30 by decide);have zV:=(Kg T 19).mono (show 21<=30 by decide);have K3:=(Ke T).mono (show 19<=30 by decide);have zM:=(Qh T).mono (show 29<=30 by decide);have kU:=uR T
 refine(T.F 39 rfl).ok (fun ts C R h=>?_) fun cdv A outer s H E hr=>⟨_,(jQ (cs1 2 S.nd (cf (T.F 9 rfl) zM hr (qQ (cv 1) (ca1 (cf (T.F 30 rfl) Xj hr (qQ (cv 0) (ca1 (cv 1))))))))
  (jQ (rQ (ct2 nO jC (cf (T.F 10 rfl) kU hr (qQ (cv 1) (ca1 (cv 2)))) tJ) (vQ (gQ tJ)) pQ)
  (jQ (oB PassesOwn.never rfl rfl T.rV (ca1 zQ) (cg1 3 S.nd) (vQ (rQ (pV (hZ (cf (T.F 37 rfl) zV hr (qQ (cf (T.F 9 rfl) zM hr (qQ (cv 1) (ca1 (cf (T.F 38 rfl) dD hr (qQ (cv 0) (qQ (cv 1) (ca1 (cx (cv 2) zQ)))))))) (ca1 (cv 2)))))) (vQ (gQ tJ)) pQ)))
  (jQ (oG PassesOwn.never rfl (qA (cx (cv 2) zQ) cY (dY zQ)) (aE rfl (nK (cg1 4 S.nd) (nK (cg1 5 S.nd) nP))) (jQ (cs1 6 S.nd (cf (T.F 38 rfl) dD hr (qQ (cv 0) (qQ (cv 1) (ca1 (cx (cv 2) zQ))))))
  (jQ (sG (yX hr) (cv 6) (cv 4) (xD (ct2 jK rZ (cv 5) zQ) (tQ pK wJ (cv 5) zQ) (tQ nX sX (cv 5) zQ)))
  (jQ (cs1 7 S.nd (cf (T.F 9 rfl) zM hr (qQ (cv 1) (ca1 (cv 6)))))
  (jQ (rQ (cw_pt (cw_or (pV (hZ (cf (T.F 37 rfl) zV hr (qQ (cv 7) (ca1 (cf (T.F 35 rfl) K3 hr (qQ (cv 1) (ca1 (cv 6))))))))) (cw_or1 (hZ (cf (T.F 37 rfl) zV hr (qQ (cv 7) (ca1 (cv 2)))))))) (vQ (gQ tJ)) pQ)
  (jQ (rQ (cw_pt (cw_or (ct2 nO jC (cf (T.F 10 rfl) kU hr (qQ (cv 1) (ca1 (cv 7)))) tJ) (cw_or1 (ct2 nO jC (cf (T.F 10 rfl) kU hr (qQ (cv 1) (ca1 (cv 2)))) tJ)))) (vQ (gQ tJ)) pQ)
  (vQ (rQ (pV (hZ (cf (T.F 37 rfl) zV hr (qQ (cf (T.F 9 rfl) zM hr (qQ (cv 1) (ca1 (bJ (gC rfl (gE hr)) cT rfl T.kH rfl (ca1 (cx (cv 7) zQ)))))) (ca1 (cv 7)))))) (vQ (gQ tJ)) pQ))))))))
  (vQ (gQ tJ)))))),?_⟩
 .obtain ⟨_,_,_,_,_,rfl,_⟩:=h;rfl
 rintro ts C R ⟨t,ns,x,rs,cap,rfl,hT,ok,q⟩;refine yQ ⟨t,ns,x,rfl,hT,ok.fl,ok.fb,fun C1 d A _ _ m1 hA T1 e1=>⟨x,d,A,rs,cap,rfl,ok,m1,hA,fun C2 g2=>?_⟩⟩;refine iZ ⟨x,_,rs,cap,rfl,ok,zN ok hA,V5 ok hA,fun b C3 hb g3=>?_⟩;obtain rfl:b=true:=hb.2 ⟨A,hA,rfl⟩;refine XS (rX rfl (sQ ?_));have T3:=(T1.gr g2).gr g3;have e3:=(e1.trans (Ex.gr g2)).trans (Ex.gr g3);clear hb g3 g2 m1 T1 e1
 have rv:∀c∈(wZ A x).reads,∃s n,c=([s,n],eX A s n):=fun c hc=>by
  obtain⟨s,n,_,e⟩:=zG ok hc;exact⟨s,n,e⟩
 have rl:=uB ok hA
 try dsimp only
 refine aQ (fun ρ' C'=>∃x3:Option PV,ρ'=[some (.ref t),some x.pv,some (wZ A x).pv,x3,none,none,none,none]/\Tp C' t ns/\Ex t C C') (fun L hL=>?_) ?_
 .refine ⟨by decide,by decide,?_⟩
  refine uJ (fun zs ρ C'=>∃x3:Option PV,ρ=[some (.ref t),some x.pv,some (wZ A x).pv,x3,none,none,none,none]/\Tp C' t ns/\Ex t C C') ?_ ?_ _ _ _ ⟨_,rfl,T3,e3⟩
  .rintro z zs ρ C4 ⟨x3,rfl,T4,e4⟩ L1 hL1
   refine xJ (Z1 A x) (v:=.tup ((wZ A x).reads.map aZ)) rfl ⟨t,ns,x,A,_,rfl,T4,ok.fl,ok.fb,rl,hA,rv,fun C5 d5 A5 _ m5 _ b5 v5 T5 e5=>⟨x,d5,A5,rs,cap,rfl,ok,m5,b5,fun C6 g6=>⟨_,_,rfl,zN ok hA,vS (pM ok b5),Qd ok b5,fun b C7 hb g7=>?_⟩⟩⟩;obtain rfl:b=true:=hb.2 (by rw[ag_of ok v5]);exact xP (sQ (hL1 _ _ ⟨_,rfl,(T5.gr g6).gr g7,((e4.trans e5).trans (Ex.gr g6)).trans (Ex.gr g7)⟩))
  .rintro ρ C4 h
   exact hL _ _ h
 clear T3 e3;rintro ρ' C3 ⟨x3,rfl,T3,e3⟩;refine aQ (fun ρ' C'=>∃x3 x4 x5 x6 x7:Option PV,ρ'=[some (.ref t),some x.pv,some (wZ A x).pv,x3,x4,x5,x6,x7]/\Tp C' t ns/\Ex t C C') (fun L hL=>?_) ?_
 .refine nN (xJ (Z1 A x) (v:=.tup ((wZ A x).reads.map aZ)) rfl (ZO ?_))
  refine uJ (fun zs ρ C'=>∃(us:List (List Str×Int))(x3 x4 x5 x6 x7:Option PV),zs=us.map aZ/\(∀c∈us,c∈(wZ A x).reads)/\ρ=[some (.ref t),some x.pv,some (wZ A x).pv,x3,x4,x5,x6,x7]/\Tp C' t ns/\Ex t C C') ?_ ?_ _ _ _ ⟨(wZ A x).reads.take 4,_,_,_,_,_,(Yh _ 4).trans List.map_take.symm,fun c hc=>Cr hc,rfl,T3,e3⟩
  .rintro z zs ρ C4 ⟨us,x3,x4,x5,x6,x7,hz,hus,rfl,T4,e4⟩ L1 hL1
   cases us with
   |nil=>cases hz
   |cons u us =>
   obtain⟨rfl,rfl⟩:=BQ hz;have hu:=hus u AF;obtain⟨s,n,rfl⟩:=rv u hu;refine⟨rfl,sV (sV (dE ?_))⟩;refine yQ (xJ (Z1 A x) (v:=.tup ((wZ A x).reads.map aZ)) rfl ⟨t,ns,x,A,_,rfl,T4,ok.fl,ok.fb,rl,hA,rv,fun C5 d A5 hd m5 l5 b5 _ T5 e5=>?_⟩);have nd:=T4.ne hd;have bv:=(jB hA s n).2
   try dsimp only
   refine aQ (fun ρ' C'=>∃A6,ρ'=[some (.ref t),some x.pv,some (wZ A x).pv,x3,some (.tup [.str s,.str n]),some (.int (eX A s n)),some (.ref d),x7]/\C' d=some (.dT A6)/\ABd A6/\eX A6 s n≠eX A s n/\Tp C' t ns/\Ex t C C') (fun L2 hL2=>?_) ?_
   .have put:∀j,Bd j->j≠eX A s n->nT (.ref d) (.tup [.str s,.str n]) (.int j) C5 fun C'=>L2 [some (.ref t),some x.pv,some (wZ A x).pv,x3,some (.tup [.str s,.str n]),some (.int (eX A s n)),some (.ref d),x7] C':=by
     intro j hj nj;refine rD m5 rfl (by lia) (hL2 _ _ ⟨_,rfl,xQ,xH b5 _ hj,by rw[sA,AW rfl];exact nj,T5.put nd _,e4.trans (e5.put hd _)⟩)
    unfold Bd at put bv;refine if_i (i_i (if_b (fun hb=>?_) fun hb=>?_))
    .have hb:=Ac hb
     exact i_i (put _ ⟨by lia,by lia⟩ (by lia))
    .have hb:=Cd hb
     exact qV (put _ ⟨by lia,by lia⟩ (by lia))
   clear T5 e5 m5 l5 b5;rintro ρ' C5 ⟨A6,rfl,m5,b6,ne,T5,e5⟩;refine yQ ⟨x,d,A6,rs,cap,rfl,ok,m5,b6,fun C6 g6=>?_⟩;refine iZ ⟨x,d,A6,rs,cap,rfl,ok,g6 _ _ m5,b6,fun C7 g7=>⟨_,_,rfl,zN ok b6,vS (pM ok b6),Qd ok b6,fun b C8 hb g8=>?_⟩⟩;obtain rfl:b=true:=hb.2 rfl;refine xP ⟨_,_,rfl,zN ok hA,vS (pM ok b6),Qd ok b6,fun b C9 hb g9=>?_⟩
   obtain rfl:b=false:=by
    cases b with
    |false=>rfl
    |true=>exact(pc_ne ok hu ne (hb.1 rfl)).elim
   refine mU (p:=True) rfl (mU rfl (sQ ?_));refine iZ ⟨x,_,rs,cap,rfl,ok,zN ok b6,V5 ok b6,fun b C10 hb g10=>?_⟩;obtain rfl:b=true:=hb.2 ⟨A6,b6,rfl⟩;refine XS (rX rfl ⟨x,_,rs,cap,rfl,ok,zN ok hA,V5 ok hA,fun b C11 hb g11=>?_⟩);obtain rfl:b=true:=hb.2 ⟨A,hA,rfl⟩;refine XS (rX rfl (sQ ?_));have ro:=wF ok b6;have hM:ABd (mergeG [] (dOf (wZ A6 x).reads)):=yN _ _ (Yf ro) fun _ z=>nomatch z;refine xJ (Z1 A6 x) (v:=.tup ((wZ A6 x).reads.map aZ)) rfl (Jl (uF ro) ?_ fun p hp=>⟨x,p,_,rs,cap,rfl,ok,xQ,hM,fun C12 g12=>⟨_,_,rfl,zN ok b6,vS (pM ok hM),Qd ok hM,fun b C13 hb g13=>?_⟩⟩)
   .delta dOf
    rw[AB];exact Aa (uB ok b6) (by decide)
   obtain rfl:b=true:=hb.2 (Bg Pc.pv (V6 ok (uS ok)).1);have g:=(((((g6.trans g7).trans g8).trans g9).trans (g10.trans g11)).trans ((Gr.new hp _).trans g12)).trans g13;exact xP (sQ (hL1 _ _ ⟨us,_,_,_,_,_,rfl,fun c hc=>hus c (AK _ hc),rfl,T5.gr g,e5.trans (Ex.gr g)⟩))
  .rintro ρ C4 ⟨us,x3,x4,x5,x6,x7,_,_,rfl,T4,e4⟩
   exact hL _ _ ⟨_,_,_,_,_,rfl,T4,e4⟩
 rintro ρ' C4 ⟨x3,x4,x5,x6,x7,rfl,T4,e4⟩;exact q C4 T4 e4
inductive gLaw(ts:List PV)(C:CH)(Q:K1):Prop
 |mk(ns:List Int)(z0:ts=[.fz (ns.map PV.int)])(z1:ns.length<=63)(z2:∀C',Q (.bl true) C'):gLaw ts C Q
def ok_law(T:Tx W a):Ok W a 120 40 ["_law_script"] gLaw:=by
 have S:=(T.F 40 rfl).s;have K5:=(Wj T).mono (show 26<=119 by decide);have jR:=(yR T).mono (show 31<=119 by decide)
 refine(T.F 40 rfl).ok (fun ts C R h=>?_) fun cdv A outer s H E hr=>⟨_,(jQ (cs1 1 S.nd (cf (T.F 13 rfl) ((ok_tape T).mono (show 1<=119 by decide)) hr (ca1 (cv 0))))
  (jQ (oG PassesOwn.never rfl (cf (T.F 28 rfl) K5 hr (ca1 (cv 1))) (cg1 2 S.nd) (vQ (rQ (pV (hZ (cf (T.F 39 rfl) jR hr (qQ (cv 1) (ca1 (cf (T.F 29 rfl) ((Kd T).mono (show 9<=119 by decide)) hr (qQ (cv 1) (ca1 (cv 2))))))))) (vQ (gQ tJ)) pQ)))
  (vQ (gQ tJ)))),?_⟩
 .obtain ⟨ns,rfl,_⟩:=h;rfl
 rintro ts C R ⟨ns,rfl,hl,q⟩;refine yQ ⟨ns,rfl,hl,fun t C1 n1 e1 T1=>aQ (fun ρ' C'=>True) (fun L hL=>nN ⟨t,ns,rfl,T1,fun pts C2 hs T2 e2=>uJ (fun zs ρ C'=>∃us x2,zs=us.map Pt.pv/\(∀p∈us,∃rs cap,PtS rs cap p)/\ρ=[some (.fz (ns.map PV.int)),some (.ref t),x2]/\Tp C' t ns) ?_ ?_ _ _ _ ⟨pts,_,rfl,fun p hp=>let ⟨k,hk⟩:=BU.1 hp;⟨_,_,hs.ok k p hk⟩,rfl,T2⟩⟩) fun _ C2 _=>q C2⟩
 .rintro z zs ρ C3 ⟨us,x2,hz,hus,rfl,T3⟩ L1 hL1
  cases us with
  |nil=>cases hz
  |cons u us =>
  obtain⟨rfl,rfl⟩:=BQ hz;obtain⟨rs,cap,ok⟩:=hus u AF;exact⟨t,ns,u,rs,cap,rfl,T3,ok,fun y C4 oy T4 e4=>⟨t,ns,y,rs,cap,rfl,T4,oy,fun C5 T5 e5=>xP (sQ (hL1 _ _ ⟨us,_,rfl,fun p hp=>hus p (AK _ hp),rfl,T5⟩))⟩⟩
 .rintro ρ C3 _
  exact hL _ _ trivial
end
theorem QB{K:Dl}{H:Hp}:∀ns:List Int,Reps K H (ns.map V.int) (ns.map PV.int)
 |[]=>.nil
 |n::ns=>.cons (.int n) (QB ns)
def walk{l:PySem.W.OpenLaw}{q:Program}{loose:List Str}{XP:(Str->Option Value)->Heap->Prop}{YP:World->Heap->Prop}{d:DefRec}{K:Params->Dl}(hn:l.most=some 63)(hdf:d.params.defaults=[])(hnm:d.name = "law")(hY:∀(w:World)(h:Heap),YP w h->(K w.params).In h)(F:∀(w:World)(mg:Str->Option Value)(h:Heap),(K w.params).In h->h.Ns mainGlobals mg->∃a:Adr,Txt l.prog w (K w.params) mg a):
  PySem.W.WalkO q loose XP YP l.row.toRowW d [] (fun f vs=>PySem.call f vs):=by
 refine L2.walk_of (n:=63) (k:=120) (x:="_law_script") (CX:=fun _=>CX0) (sp:=fun w=>spC (K w.params) gLaw) hn (by decide) hdf ⟨rfl,by decide,by decide⟩ hY ?_ (fun w H a ns hl hO hS=>?_) fun _ _ _ _ _ z=>z
 .intro w mg fa h KX G hmg
  obtain⟨a,T⟩:=F w mg h KX G;rw[hnm] at hmg;have e:=hmg.symm.trans ((T.F 40 rfl).m rfl);cases e;obtain⟨_,_,_,_,_,_,_,_,_,e2,_⟩:=(T.F 40 rfl).F.ex;refine⟨a.d 40,?_,fun base _ _=>ok_law (W:=⟨_,_,_,_,base⟩) T⟩;rw[e2];exact fun s u=>.of_eq rfl
 .have hz:Fz (K w.params) H a (ns.map V.int):=by
   rcases hS with hS | hS
   .rcases hS with hS | ⟨o,hS⟩
    .rcases hO a with h | ⟨o,xs,h⟩
     .rw [hS] at h;cases h
     .rw [hS] at h;cases h
    .exact .inl ⟨o,hS⟩
   .exact .inr hS
  refine⟨[.fz (ns.map PV.int)],fun _=>none,fun v _=>v=.bl true,.cons (.fz hz (QB ns)) .nil,(fun _ _ z=>nomatch z),⟨ns,rfl,hl,fun _=>rfl⟩,?_⟩;rintro v H' t C' rfl r h' f';cases r
  rfl
end K10
open PySem PySem.W PyProof.Rows
namespace PySem.W.Fast
theorem tw10145978641650046122:True:=⟨⟩
theorem tw10200803740023573177:True:=⟨⟩
theorem tw10381513686283642115:True:=⟨⟩
theorem tw10485806789842636226:True:=⟨⟩
theorem tw10569335421455675012:True:=⟨⟩
theorem tw10702113824373066640:True:=⟨⟩
theorem tw10759707394725413043:True:=⟨⟩
theorem tw10764268032944217878:True:=⟨⟩
theorem tw10771955290958530614:True:=⟨⟩
theorem tw11059056968705245923:True:=⟨⟩
theorem tw11182668088257587287:True:=⟨⟩
theorem tw11273132862123820716:True:=⟨⟩
theorem tw11491650459833812145:True:=⟨⟩
theorem tw11610275756107403987:True:=⟨⟩
theorem tw11614362697556521359:True:=⟨⟩
theorem tw11741764297246239036:True:=⟨⟩
theorem tw11791595844865998595:True:=⟨⟩
theorem tw11793947862763496186:True:=⟨⟩
theorem tw12220024206307644728:True:=⟨⟩
theorem tw12388050707807402258:True:=⟨⟩
theorem tw12473945517239059141:True:=⟨⟩
theorem tw1251341311461667901:True:=⟨⟩
theorem tw12530570006402260117:True:=⟨⟩
theorem tw12689466161763222986:True:=⟨⟩
theorem tw12911180429856156408:True:=⟨⟩
theorem tw12935724680019665933:True:=⟨⟩
theorem tw13209902320500522191:True:=⟨⟩
theorem tw13322131089804179943:True:=⟨⟩
theorem tw13413910647487885102:True:=⟨⟩
theorem tw13589011578009771944:True:=⟨⟩
theorem tw13781933461898100561:True:=⟨⟩
theorem tw13932877127592843855:True:=⟨⟩
theorem tw14180468379405555528:True:=⟨⟩
theorem tw14227175640808936055:True:=⟨⟩
theorem tw14378564934668977032:True:=⟨⟩
theorem tw14399638016490742757:True:=⟨⟩
theorem tw14508686163988195628:True:=⟨⟩
theorem tw14707209764991532471:True:=⟨⟩
theorem tw14739216799534476673:True:=⟨⟩
theorem tw1477019064688595178:True:=⟨⟩
theorem tw14829479988191736734:True:=⟨⟩
theorem tw14846827866062175983:True:=⟨⟩
theorem tw15502890770604819630:True:=⟨⟩
theorem tw15550690768001166262:True:=⟨⟩
theorem tw15558664337498411304:True:=⟨⟩
theorem tw15687691328861249030:True:=⟨⟩
theorem tw15891271080525331909:True:=⟨⟩
theorem tw1593934734473353127:True:=⟨⟩
theorem tw16111129288476015042:True:=⟨⟩
theorem tw1621694784449999977:True:=⟨⟩
theorem tw16271341343929770223:True:=⟨⟩
theorem tw162750712103325483:True:=⟨⟩
theorem tw16347343875848689092:True:=⟨⟩
theorem tw16481748577175155281:True:=⟨⟩
theorem tw16546899140978286437:True:=⟨⟩
theorem tw16624396779091912100:True:=⟨⟩
theorem tw16740536664358808753:True:=⟨⟩
theorem tw16878592052804571968:True:=⟨⟩
theorem tw16969910516841383513:True:=⟨⟩
theorem tw16975227117856961504:True:=⟨⟩
theorem tw16993322680949752877:True:=⟨⟩
theorem tw1716128881591501172:True:=⟨⟩
theorem tw17244348192185569785:True:=⟨⟩
theorem tw17317481873277837175:True:=⟨⟩
theorem tw17510203217900853640:True:=⟨⟩
theorem tw17569220833949077352:True:=⟨⟩
theorem tw17777517004690565230:True:=⟨⟩
theorem tw17995571628597448249:True:=⟨⟩
theorem tw18070642357253627457:True:=⟨⟩
theorem tw181015407251110821:True:=⟨⟩
theorem tw18149690420353228393:True:=⟨⟩
theorem tw18425100303076751824:True:=⟨⟩
theorem tw1942504440695690912:True:=⟨⟩
theorem tw2019084356271964124:True:=⟨⟩
theorem tw2083866257873408934:True:=⟨⟩
theorem tw2149540544003124650:True:=⟨⟩
theorem tw2197501773466224319:True:=⟨⟩
theorem tw2218618060977031441:True:=⟨⟩
theorem tw2266011115682509426:True:=⟨⟩
theorem tw2295782732755541977:True:=⟨⟩
theorem tw25115246201302:True:=⟨⟩
theorem tw2565833752511554860:True:=⟨⟩
theorem tw2627601527408101126:True:=⟨⟩
theorem tw2758006419523531097:True:=⟨⟩
theorem tw2877861669463676237:True:=⟨⟩
theorem tw3140397081849537659:True:=⟨⟩
theorem tw322085811168728567:True:=⟨⟩
theorem tw3259466283441543678:True:=⟨⟩
theorem tw3374558165686350848:True:=⟨⟩
theorem tw3556803900021536239:True:=⟨⟩
theorem tw3827609914289967987:True:=⟨⟩
theorem tw3984049446729497142:True:=⟨⟩
theorem tw40476026708465521:True:=⟨⟩
theorem tw42669813747559128:True:=⟨⟩
theorem tw4424939093553461757:True:=⟨⟩
theorem tw443632635584204:True:=⟨⟩
theorem tw4654121401975406547:True:=⟨⟩
theorem tw4883973766989274801:True:=⟨⟩
theorem tw4893555432914397553:True:=⟨⟩
theorem tw5429198816133245576:True:=⟨⟩
theorem tw5434270865495983154:True:=⟨⟩
theorem tw549908920181462507:True:=⟨⟩
theorem tw5550531413070157779:True:=⟨⟩
theorem tw5567477822100000294:True:=⟨⟩
theorem tw5895311146968105353:True:=⟨⟩
theorem tw5977928055389360798:True:=⟨⟩
theorem tw6033193000052498697:True:=⟨⟩
theorem tw6052184511171799811:True:=⟨⟩
theorem tw6261718695905026827:True:=⟨⟩
theorem tw6421173762399140929:True:=⟨⟩
theorem tw6928649369849323666:True:=⟨⟩
theorem tw7077342093504185042:True:=⟨⟩
theorem tw7080362382763171141:True:=⟨⟩
theorem tw7149253258435702479:True:=⟨⟩
theorem tw7296026493326827164:True:=⟨⟩
theorem tw7309501032029268209:True:=⟨⟩
theorem tw7615333337639593371:True:=⟨⟩
theorem tw7641531979984133591:True:=⟨⟩
theorem tw7653719763030095452:True:=⟨⟩
theorem tw7811013285877042001:True:=⟨⟩
theorem tw7819745565095089272:True:=⟨⟩
theorem tw7918277778889752412:True:=⟨⟩
theorem tw8109078606623562026:True:=⟨⟩
theorem tw826585039817658580:True:=⟨⟩
theorem tw8268157313466809507:True:=⟨⟩
theorem tw8446126597474066880:True:=⟨⟩
theorem tw8466588249591953698:True:=⟨⟩
theorem tw8488308229114604080:True:=⟨⟩
theorem tw8758727143603897626:True:=⟨⟩
theorem tw8785707549151357269:True:=⟨⟩
theorem tw912455213357236288:True:=⟨⟩
theorem tw9243701169596839812:True:=⟨⟩
theorem tw929416926044986813:True:=⟨⟩
theorem tw9400710398767392584:True:=⟨⟩
theorem tw9421472447798124476:True:=⟨⟩
theorem tw9522601751727079933:True:=⟨⟩
theorem tw9568518452684119466:True:=⟨⟩
theorem tw9597971334127573608:True:=⟨⟩
theorem tw9627188408450651960:True:=⟨⟩
theorem tw9860762841141519927:True:=⟨⟩
theorem tw9991890455082101325:True:=⟨⟩
end PySem.W.Fast
set_option maxRecDepth 100000 in
set_option maxHeartbeats 0 in
theorem PySem.Challenge.cw_viewwood_k10_whole_pieces_hang_on_reads_holds : PySem.Challenge.rw_viewwood_k10_whole_pieces_hang_on_reads.Holds := by
 w_on;o_law;k_head;(case hw=>w_witness2)
 k_fill
 refine K10.walk (l:=PySem.Challenge.rw_viewwood_k10_whole_pieces_hang_on_reads) rfl rfl rfl (fun w h Y=>PySem.W.kIn_of Y) ?F
 case F =>
  intro w mg h KX G;refine K10.txt_mk KX G ?_ (by k_is) (by k_is) (by k_is) (by k_is) (by k_is) (by k_is) (by k_is) (by k_is) (by k_is) (by k_is) (by k_is) (by k_is) (by k_is) (by k_is) (by k_is) (by k_is) (by k_is) (by k_is) (by k_is) (by k_is) (by k_is) (by k_is) (by k_is) (by k_is) (by k_is) (by k_is) (by k_is) (by k_is) (by k_is) (by k_is);unfold K10.tab
  repeat first | refine⟨⟨_,_,_,_,_,_,_,_,_,_,by k_is,by k_is,by k_is,by k_is⟩,?_⟩ | refine⟨⟨_,_,_,_,_,_,_,_,_,_,_,by k_is,by k_is,by k_is,by k_is,by k_is,by k_is⟩,?_⟩
  exact trivial
