import PyProof.Rows.All
import Wide.All
import OpenK.AllK
import Wide.FinOn
import Lean
import PyProof.EqAt
import PyProof.EqKinds
import PyProof.TupleCall
import PyProof.DictUpdate
import KE.KDictOf
import PyProof.AttrMissHeap
import KE.KSortTup
import KE.KItemsList
import PyProof.DictWalks
import PyProof.Rows.TupDisplay
import KE.KEqDict
import PyProof.NeKinds
import KE.KRevIter
import PyProof.ListRange
import KE.KDictSum
import PyProof.MeetsStr
import PyProof.StrLawsJoin
import PyProof.FitsInt
import PyProof.ZipIter
import PySem.Challenge.RW_viewwood_k23_drawings_let_by
theorem jT{p q:Prop}{g:Prop}(h:p/\q)(k:p->q->g):g:=by obtain⟨j,B⟩:=h;exact k j B
theorem kH{p q r:Prop}{g:Prop}(h:p/\q/\r)(k:p->q->r->g):g:=by obtain⟨j,B,D⟩:=h;exact k j B D
theorem kR{p q r s:Prop}{g:Prop}(h:p/\q/\r/\s)(k:p->q->r->s->g):g:=by obtain⟨j,B,D,F⟩:=h;exact k j B D F
theorem zP{p q r s t:Prop}{g:Prop}(h:p/\q/\r/\s/\t)(k:p->q->r->s->t->g):g:=by obtain⟨j,B,D,F,G⟩:=h;exact k j B D F G
theorem Xo{p q r s t o:Prop}{g:Prop}(h:p/\q/\r/\s/\t/\o)(k:p->q->r->s->t->o->g):g:=by obtain⟨j,B,D,F,G,I⟩:=h;exact k j B D F G I
theorem el11{A:Sort _}{p:A->Prop}{g:Prop}(h:∃a,p a)(k:∀a,p a->g):g:=by obtain⟨a,j⟩:=h;exact k a j
theorem oQ{A:Sort _}{p q:A->Prop}{g:Prop}(h:∃a,p a/\q a)(k:∀a,p a->q a->g):g:=by obtain⟨a,j,B⟩:=h;exact k a j B
theorem jZ{A:Sort _}{p q r:A->Prop}{g:Prop}(h:∃a,p a/\q a/\r a)(k:∀a,p a->q a->r a->g):g:=by obtain⟨a,j,B,D⟩:=h;exact k a j B D
theorem Y7{A:Sort _}{p q r s:A->Prop}{g:Prop}(h:∃a,p a/\q a/\r a/\s a)(k:∀a,p a->q a->r a->s a->g):g:=by obtain⟨a,j,B,D,F⟩:=h;exact k a j B D F
theorem eA{A:Sort _}{p q r s t:A->Prop}{g:Prop}(h:∃a,p a/\q a/\r a/\s a/\t a)(k:∀a,p a->q a->r a->s a->t a->g):g:=by obtain⟨a,j,B,D,F,G⟩:=h;exact k a j B D F G
theorem el21{A:Sort _}{B:Sort _}{p:A->B->Prop}{g:Prop}(h:∃a b,p a b)(k:∀a b,p a b->g):g:=by obtain⟨a,b,j⟩:=h;exact k a b j
theorem wB{A:Sort _}{B:Sort _}{p q:A->B->Prop}{g:Prop}(h:∃a b,p a b/\q a b)(k:∀a b,p a b->q a b->g):g:=by obtain⟨a,b,j,D⟩:=h;exact k a b j D
theorem zT{A:Sort _}{B:Sort _}{p q r:A->B->Prop}{g:Prop}(h:∃a b,p a b/\q a b/\r a b)(k:∀a b,p a b->q a b->r a b->g):g:=by obtain⟨a,b,j,D,F⟩:=h;exact k a b j D F
theorem xR{A:Sort _}{B:Sort _}{p q r s:A->B->Prop}{g:Prop}(h:∃a b,p a b/\q a b/\r a b/\s a b)(k:∀a b,p a b->q a b->r a b->s a b->g):g:=by obtain⟨a,b,j,D,F,G⟩:=h;exact k a b j D F G
theorem el25{A:Sort _}{B:Sort _}{p q r s t:A->B->Prop}{g:Prop}(h:∃a b,p a b/\q a b/\r a b/\s a b/\t a b)(k:∀a b,p a b->q a b->r a b->s a b->t a b->g):g:=by obtain⟨a,b,j,D,F,G,I⟩:=h;exact k a b j D F G I
theorem el26{A:Sort _}{B:Sort _}{p q r s t o:A->B->Prop}{g:Prop}(h:∃a b,p a b/\q a b/\r a b/\s a b/\t a b/\o a b)(k:∀a b,p a b->q a b->r a b->s a b->t a b->o a b->g):g:=by obtain⟨a,b,j,D,F,G,I,J⟩:=h;exact k a b j D F G I J
theorem el31{A:Sort _}{B:Sort _}{C:Sort _}{p:A->B->C->Prop}{g:Prop}(h:∃a b c,p a b c)(k:∀a b c,p a b c->g):g:=by obtain⟨a,b,c,j⟩:=h;exact k a b c j
theorem ZJ{A:Sort _}{B:Sort _}{C:Sort _}{p q:A->B->C->Prop}{g:Prop}(h:∃a b c,p a b c/\q a b c)(k:∀a b c,p a b c->q a b c->g):g:=by obtain⟨a,b,c,j,D⟩:=h;exact k a b c j D
theorem Xn{A:Sort _}{B:Sort _}{C:Sort _}{p q r:A->B->C->Prop}{g:Prop}(h:∃a b c,p a b c/\q a b c/\r a b c)(k:∀a b c,p a b c->q a b c->r a b c->g):g:=by obtain⟨a,b,c,j,D,F⟩:=h;exact k a b c j D F
theorem qP{A:Sort _}{B:Sort _}{C:Sort _}{p q r s:A->B->C->Prop}{g:Prop}(h:∃a b c,p a b c/\q a b c/\r a b c/\s a b c)(k:∀a b c,p a b c->q a b c->r a b c->s a b c->g):g:=by obtain⟨a,b,c,j,D,F,G⟩:=h;exact k a b c j D F G
theorem el35{A:Sort _}{B:Sort _}{C:Sort _}{p q r s t:A->B->C->Prop}{g:Prop}(h:∃a b c,p a b c/\q a b c/\r a b c/\s a b c/\t a b c)(k:∀a b c,p a b c->q a b c->r a b c->s a b c->t a b c->g):g:=by obtain⟨a,b,c,j,D,F,G,I⟩:=h;exact k a b c j D F G I
theorem el36{A:Sort _}{B:Sort _}{C:Sort _}{p q r s t o:A->B->C->Prop}{g:Prop}(h:∃a b c,p a b c/\q a b c/\r a b c/\s a b c/\t a b c/\o a b c)(k:∀a b c,p a b c->q a b c->r a b c->s a b c->t a b c->o a b c->g):g:=by obtain⟨a,b,c,j,D,F,G,I,J⟩:=h;exact k a b c j D F G I J
theorem el42{A:Sort _}{B:Sort _}{C:Sort _}{D:Sort _}{p q:A->B->C->D->Prop}{g:Prop}(h:∃a b c d,p a b c d/\q a b c d)(k:∀a b c d,p a b c d->q a b c d->g):g:=by obtain⟨a,b,c,d,j,F⟩:=h;exact k a b c d j F
theorem el43{A:Sort _}{B:Sort _}{C:Sort _}{D:Sort _}{p q r:A->B->C->D->Prop}{g:Prop}(h:∃a b c d,p a b c d/\q a b c d/\r a b c d)(k:∀a b c d,p a b c d->q a b c d->r a b c d->g):g:=by obtain⟨a,b,c,d,j,F,G⟩:=h;exact k a b c d j F G
theorem el46{A:Sort _}{B:Sort _}{C:Sort _}{D:Sort _}{p q r s t o:A->B->C->D->Prop}{g:Prop}(h:∃a b c d,p a b c d/\q a b c d/\r a b c d/\s a b c d/\t a b c d/\o a b c d)(k:∀a b c d,p a b c d->q a b c d->r a b c d->s a b c d->t a b c d->o a b c d->g):g:=by obtain⟨a,b,c,d,j,F,G,I,J,L⟩:=h;exact k a b c d j F G I J L
theorem el53{A:Sort _}{B:Sort _}{C:Sort _}{D:Sort _}{E:Sort _}{p q r:A->B->C->D->E->Prop}{g:Prop}(h:∃a b c d e,p a b c d e/\q a b c d e/\r a b c d e)(k:∀a b c d e,p a b c d e->q a b c d e->r a b c d e->g):g:=by obtain⟨a,b,c,d,e,j,F,G⟩:=h;exact k a b c d e j F G
theorem el54{A:Sort _}{B:Sort _}{C:Sort _}{D:Sort _}{E:Sort _}{p q r s:A->B->C->D->E->Prop}{g:Prop}(h:∃a b c d e,p a b c d e/\q a b c d e/\r a b c d e/\s a b c d e)(k:∀a b c d e,p a b c d e->q a b c d e->r a b c d e->s a b c d e->g):g:=by obtain⟨a,b,c,d,e,j,F,G,I⟩:=h;exact k a b c d e j F G I
theorem el55{A:Sort _}{B:Sort _}{C:Sort _}{D:Sort _}{E:Sort _}{p q r s t:A->B->C->D->E->Prop}{g:Prop}(h:∃a b c d e,p a b c d e/\q a b c d e/\r a b c d e/\s a b c d e/\t a b c d e)(k:∀a b c d e,p a b c d e->q a b c d e->r a b c d e->s a b c d e->t a b c d e->g):g:=by obtain⟨a,b,c,d,e,j,F,G,I,J⟩:=h;exact k a b c d e j F G I J
noncomputable section
set_option Elab.async false
set_option linter.all false
set_option maxRecDepth 100000
set_option maxHeartbeats 4000000
theorem zz(n:Nat)(h:n.ble 99=true):n<=PySem.sizeLine:=Nat.le_trans (Nat.le_of_ble_eq_true h) (by decide)
abbrev AA:=@PySem.wpAny_bind
abbrev AB:=@List.length_map
abbrev AC:=@PySem.Heap.get?_push_of_some
abbrev AD:=@List.mem_singleton
abbrev AE:=@List.mem_cons_self
abbrev AF:=@PySem.wpAny_pure
abbrev AG:=@List.length_append
abbrev AH:=@List.mem_cons_of_mem
abbrev AI:=@PySem.Heap.lt_size
abbrev AJ:=@Nat.le_refl
abbrev AK:=@List.getElem?_eq_getElem
abbrev AL:=@List.length_cons
abbrev AM:=@PySem.Heap.get?_push_size
abbrev AN:=@List.mem_map
abbrev AO:=@List.map_append
abbrev AQ:=@List.length_singleton
abbrev AR:=@decide_eq_false
abbrev AS:=@Bool.false_ne_true
abbrev AU:=@List.mem_append_right
abbrev AV:=@Nat.lt_of_lt_of_le
abbrev AW:=@List.getElem?_eq_some_iff
abbrev AX:=@List.mem_append
abbrev AY:=@List.append_assoc
abbrev AZ:=@Nat.ne_of_lt
abbrev Aa:=@of_decide_eq_true
abbrev Ab:=@Nat.zero_le
abbrev Ac:=@if_pos
abbrev Ad:=@if_neg
abbrev Ae:=@List.mem_of_getElem?
abbrev Af:=@decide_eq_true
abbrev Ah:=@Nat.le_trans
abbrev Ai:=@List.mem_cons
abbrev Aj:=@List.append_nil
abbrev Ak:=@List.getElem?_map
abbrev Al:=@List.drop_eq_getElem_cons
abbrev Am:=@List.length_range
abbrev An:=@Nat.lt_of_le_of_lt
abbrev Ao:=@List.size_toArray
abbrev Ap:=@PySem.W.mg_none_of
abbrev Aq:=@Nat.ne_of_gt
abbrev Ar:=@PySem.wpAny_field
abbrev As:=@PySem.wpAny_holding
abbrev Au:=@List.mem_append_left
abbrev Av:=@Option.some.inj
abbrev Aw:=@Nat.succ.inj
abbrev Ax:=@PySem.wpAny_setField_rec
abbrev Ay:=@PySem.Heap.get?_update_self
abbrev Az:=@List.nodup_cons
abbrev A0:=@List.find?_cons
abbrev A1:=@PySem.wpAny_seqItems
abbrev A2:=@List.getD_eq_getElem?_getD
abbrev A3:=@Bool.and_eq_true
abbrev A4:=@PySem.wpAny_newObj_type
abbrev A5:=@List.map_cons
abbrev A6:=@PySem.wpAny_call_entry
abbrev A7:=@Nat.lt_irrefl
abbrev A8:=@List.getElem_mem
abbrev A9:=@Nat.le_succ_of_le
abbrev BA:=@List.any_cons
abbrev BB:=@List.take_of_length_le
abbrev BC:=@PySem.Heap.get?_update_other
abbrev BD:=@Array.length_toList
abbrev BE:=@PySem.wpAny_truthy_bool
abbrev BF:=@PySem.W.mg_of
abbrev BG:=@PySem.wpAny_specialOf
abbrev BH:=@PySem.W.kia_one
abbrev BI:=@Nat.zero_add
abbrev BJ:=@List.map_map
abbrev BK:=@PySem.wpAny_mono
abbrev BL:=@List.length_drop
abbrev BM:=@Int.le_refl
abbrev BN:=@List.cons.inj
abbrev BO:=@List.foldl_append
abbrev BP:=@PySem.codeAny_builtin
abbrev BQ:=@List.length_take
abbrev BR:=@PySem.plainId_quiet
abbrev BS:=@PySem.wpAny_callSpecial?_slot
abbrev BU:=@PySem.F.plainAttrs_list
abbrev BV:=@Nat.le_of_lt
abbrev BW:=@List.drop_of_length_le
abbrev BX:=@Nat.le_add_right
abbrev BY:=@List.drop_length
abbrev BZ:=@List.nodup_nil
abbrev Ba:=@List.mem_range
abbrev Bb:=@List.length_replicate
abbrev Bc:=@List.mem_of_find?_eq_some
abbrev Be:=@List.getElem?_append_left
abbrev Bf:=@Array.getElem?_eq_getElem
abbrev Bg:=@PySem.wpAny_updateSeq
abbrev Bh:=@PySem.lookup_relabel_local
abbrev Bi:=@congrArg
abbrev Bj:=@List.reverse_cons
abbrev Bk:=@List.length_reverse
abbrev Bl:=@PySem.Heap.SameBut.update
abbrev Bm:=@Nat.lt_succ_self
abbrev Bn:=@List.not_mem_nil
abbrev Bo:=@List.all_eq_true
abbrev Bp:=@PySem.Heap.size_push
abbrev Bq:=@Nat.lt_of_succ_lt_succ
abbrev Br:=@Int.emod_lt_of_pos
abbrev Bs:=@PySem.wpAny_passesOwn
abbrev Bt:=@PySem.F.slot_dict_get
abbrev Bu:=@List.mem_iff_getElem?
abbrev Bv:=@List.flatMap_cons
abbrev Bw:=@PySem.wpAny_rule
abbrev Bx:=@PySem.sizeLine_eq
abbrev By:=@PySem.F.slot_NoneType_hash
abbrev Bz:=@Nat.mul_le_mul_right
abbrev B0:=@Nat.le_succ
abbrev B1:=@List.getElem?_set_ne
abbrev B2:=@List.getElem?_append_right
abbrev B3:=@PySem.F.slot_tuple_iterator_next
abbrev B4:=@PySem.wpAny_typeOf
abbrev B5:=@PySem.wpAny_isInstance
abbrev B6:=@Nat.le_of_eq
abbrev B7:=@List.cons_append
abbrev B8:=@PySem.F.plain_extend_loop
abbrev B9:=@PySem.F.entry_extend_loop
abbrev CC:=@PySem.mem_of_lookup
abbrev CD:=@List.map_congr_left
abbrev CJ:=@List.getElem_of_mem
abbrev CK:=@PySem.F.slot_dict_itemiterator_next
abbrev CM:=@PySem.wpAny_ite_split
abbrev CN:=@Nat.not_lt_zero
abbrev CP:=@Int.emod_nonneg
abbrev CQ:=@PySem.wpAny_pyIter_tuple
abbrev CU:=@of_decide_eq_false
abbrev CV:=@List.take_add_one
abbrev CY:=@Int.le_trans
abbrev CZ:=@PySem.Calls.callWith_builtin
abbrev Ca:=@PyProof.Rows.slot_tuple_getitem
abbrev Cb:=@PySem.wpAny_notOrdered_dict
abbrev Cc:=@PySem.builtinLookup_eq_fast
abbrev Cd:=@List.getElem?_toArray
abbrev Ce:=@List.getElem?_eq_none
abbrev Cf:=@PySem.wpAny_typeNameOfWhole_itemiter
abbrev Cg:=@PySem.wpAny_forIn_list
abbrev Ci:=@List.mem_flatMap
abbrev Cj:=@List.getElem_map
abbrev Ck:=@beq_false_of_ne
abbrev Cm:=@Nat.le_add_left
abbrev Cn:=@List.of_mem_zip
abbrev Co:=@List.length_nil
abbrev Cp:=@PySem.Heap.get?_update_ne
abbrev Cq:=@Nat.lt_or_ge
abbrev Cr:=@PySem.wpAny_Call_Name_kw
abbrev Cs:=@PySem.call_meets
abbrev Ct:=@List.zip_cons_cons
abbrev Cu:=@Array.forIn_toList
abbrev Cv:=@List.getElem?_eq_none_iff
abbrev Cw:=@PySem.F.slot_tuple_getattribute
abbrev Cy:=@PySem.Calls.call_function_entry
abbrev Cz:=@List.nodup_append
abbrev DA:=@PySem.F.slot_tuple_hash
abbrev DB:=@PySem.F.slot_dict_items
abbrev DC:=@PySem.wpAny_comprehension_free
abbrev DD:=@PySem.F.args_tuple_add_2
abbrev DE:=@List.all_cons
abbrev DF:=@PySem.wpAny_pyNext_tuple_item
abbrev DG:=@PySem.F.plainAttrs_dict
abbrev DH:=@PySem.F.entry_tuple_add
abbrev DI:=@List.pairwise_singleton
abbrev DJ:=@List.any_eq_true
abbrev DK:=@PySem.wpAny_pyNext_tuple_end
abbrev DL:=@PySem.wpAny_isOneOf_itemiter
abbrev DM:=@PySem.codeAny_mono
abbrev DN:=@PySem.call_meetsIn
abbrev DO:=@PySem.F.slot_tuple_add
abbrev DP:=@PySem.F.entry_dict_get
abbrev DQ:=@PySem.wpAny_execs_nil
abbrev DR:=@PySem.typeLookup_type
abbrev DS:=@PySem.SeqAt.EqAt.same
abbrev DT:=@Nat.min_eq_left
abbrev DU:=@List.nil_append
abbrev DV:=@PySem.F.slot_zip_next
abbrev DW:=@PySem.F.slot_tuple_eq
abbrev DX:=@Bool.eq_iff_iff
abbrev DY:=@PySem.wpAny_callSpecialIfBoundUnlessNone?_slot
abbrev DZ:=@PySem.isSubtype_tuple_tuple
abbrev Da:=@List.eq_nil_or_concat
abbrev Dc:=@List.concat_eq_append
abbrev Dd:=@PySem.wpAny_newTuple
abbrev De:=@PySem.wpAny_letGo
abbrev Df:=@PySem.callType_codes
abbrev Dg:=@Nat.pow_le_pow_right
abbrev Dh:=@List.pairwise_append
abbrev Di:=@PySem.Calls.evalArgs_plain
abbrev Dj:=PySem.W.Frag
namespace PySem
open Sem (wp)
section
variable {prog:Program}{w:World}{K:Type}[DecidableEq K](knd:KeyKind prog w K)
inductive ItemsTup(h:Heap):List (List K)->List Value->Prop
 |nil:ItemsTup h [] []
 |cons {k:List K} {b:Addr} {kss:List (List K)} {vs:List Value}:IsTupleKey knd h k b->ItemsTup h kss vs->ItemsTup h (k::kss) (.ref b::vs)
def IsPathKey(h:Heap)(g:List (List K))(a:Addr):Prop:=∃o items n,h.get? a=some o/\o.cls=.type "tuple"/\o.data=.seq items n/\ItemsTup knd h g items.toList
variable {knd}
theorem ItemsTup.inj(j:ItemsTup knd h x vs)(g:ItemsTup knd h y vs):x=y:=by
 induction j generalizing y with
 |nil=>(cases g;rfl)
 |cons h1 _ q=>cases g with | cons h2 B=>rw[h1.inj h2,q B]
theorem ItemsTup.keeps(q:ItemsTup knd h x vs)(j:h.get? d=some o)(g:o.data=.dict es ep)(hs:Heap.SameBut d h h'):ItemsTup knd h' x vs:=by
 induction q with
 |nil=>exact .nil
 |cons h1 _ B=>exact .cons (h1.keeps j g hs) B
theorem IsPathKey.typeIs{s:Shared}(x:IsPathKey knd s.heap g a):s.TypeIs (.ref a) "tuple" :=Xn x fun o _ _ e c _=>⟨o,e,c⟩
theorem IsPathKey.inj(G:IsPathKey knd h x a)(I:IsPathKey knd h y a):x=y:=by
 refine qP G fun o J n g _ j q=>qP I fun o' its' L B _ D F=>?_;cases g.symm.trans B;cases j.symm.trans D;exact q.inj F
theorem IsPathKey.keeps(x:IsPathKey knd h J a)(G:h.get? d=some o)(D:o.data=.dict es ep)(hs:Heap.SameBut d h h'):IsPathKey knd h' J a:=by
 refine qP x fun o' I n g j q B=>?_;have F:a≠d :=by lia
 exact⟨o',I,n,(hs.2 a F).trans g,j,q,B.keeps G D hs⟩
noncomputable def vD(knd:KeyKind prog w K)(g:List (List K)):Int:=reduceHash (Builtin.Tuple.tupleHashOf (g.map (tupleKeyHash knd)))
noncomputable def nL(g:List (List K)):Nat:=(g.map fun k=>k.length+1).sum+1
variable {A:Around}{E:Value->Shared->Prop}{s:Shared}
theorem nF(M:A.units+1 < cLine)(J:IsPathKey knd s.heap G a)(h:Q (vD knd G) { s with toks:=s.toks+nL G }):
  wpAny (model prog w) A (pyHash (.ref a)) Q E s:=by
 have j:=J.typeIs;obtain⟨o,items,n,S,_,O,hi⟩:=J
 (first | delta pyHashByItsType | skip)
 (first | refine AA (wpAny_cRoomFor_or (.inr (Nat.lt_of_succ_lt M)) ?_) | skip)
 refine AA (BG (by exact j) DA.lookup (?_));refine AA (BG (by exact j) DA.lookup (?_));refine AA (DY (by exact j) DA (A6 DA (by exact j) F.entry_tuple_hash (?_) (F.args_tuple_hash_1 _)));show wpAny _ _ (Builtin.Tuple.tupleItemsOf (.ref a) >>= (_)) _ _ s
 (refine AA (wpAny_tupleItemsOf S O (AA ?_));rw[<- Cu])
 refine Cg _ (fun rest b s'=>∃g left,G=g++left/\ItemsTup knd s.heap left rest/\b.toList=g.map (tupleKeyHash knd)/\s'={ s with toks:=s.toks+(g.map fun k=>k.length+1).sum }) _ ?_ ?_ _ _ ⟨[],G,rfl,hi,rfl,rfl⟩
 .rintro x rest b s' ⟨g,left,rfl,I,q,rfl⟩
  cases I with
  |@cons k U N _ h1 L =>
   refine AA (wpAny_pyHash_tuple M h1 ?_)
   first
    |exact AF ⟨g++[k],N,by simp,L,by simp[q],by simp[Nat.add_assoc]⟩
    |exact AA (AF (AF ⟨g++[k],N,by simp,L,by simp[q],by simp[Nat.add_assoc]⟩))
 .rintro b s' ⟨g,left,rfl,I,q,rfl⟩
  cases I;rw[Aj] at h
  (show wpAny _ _ (retInt (Builtin.Tuple.tupleHashOf b.toList)) _ _ _;rw[q];apply wpAny_ret_mkInt)
  delta vD reduceHash nL at h
  generalize Builtin.Tuple.tupleHashOf (g.map (tupleKeyHash knd))=B at h ⊢;show wpAny _ _ (if (decide (-(2:Int) ^ 63<=B)&&decide (B < 2 ^ 63))=true then _ else _) Q E _
  by_cases D:(decide (-(2:Int) ^ 63<=B)&&decide (B < 2 ^ 63))=true
  ·(rw[Ac D];rw[Ac D] at h)
   exact AF (by lia)
  ·(rw[Ad D];rw[Ad D] at h)
   exact AA (Bw (AF (by simpa [Nat.add_assoc] using h)))
theorem aE(hu:A.units < cLine)(hx:IsPathKey knd s.heap x a)(N:IsPathKey knd s.heap y b)(h:P (.done (.ret (.bool (decide (x=y))))) s):
  wpAny (model prog w) A (Builtin.«tuple.__eq__» ⟨[.ref a,.ref b],[]⟩) P E s:=by
 refine qP hx fun oa xs aq af _ U ab=>qP N fun ob ys ar ag _ W ae=>?_
 (show wpAny _ _ (isInstance (.ref b) (.type "tuple") >>= _) _ _ s;refine AA (B5 N.typeIs DZ ?_))
 (refine AA (wpAny_tupleItemsOf af U (AA (wpAny_tupleItemsOf ag W (AA ?_)))))
 refine Cg _ (fun rest r s'=>r.1=none/\s'=s/\∃D F j q,rest=List.zip j q/\ItemsTup knd s.heap D j/\ItemsTup knd s.heap F q/\decide (D=F)=decide (x=y)/\(j.length==q.length)=(xs.size==ys.size)) _ ?_ ?_ _ _ ⟨rfl,rfl,x,y,xs.toList,ys.toList,rfl,ab,ae,rfl,by simp⟩
 .rintro ⟨u,v⟩ rest r s' ⟨M,rfl,D,F,j,q,g,J,B,G,I⟩
  cases J with
  |nil=>simp at g
  |@cons k1 b1 O ak h1 ah =>
   cases B with
   |nil=>simp at g
   |@cons k2 b2 S ao h2 aj =>
    (obtain⟨⟨rfl,rfl⟩,rfl⟩:=g)
    refine AA (wpAny_eqBool_tuple hu h1 h2 ?_)
    by_cases L:k1=k2
    .subst L
     (simp only[ Bool.false_eq_true])
     refine AF ⟨rfl,rfl,O,S,ak,ao,rfl,ah,aj,?_,by simpa using I⟩;rw[<- G]
     (by_cases ai:O=S<;>simp[ai])
    ·(rw[AR L];simp only[ if_true])
     have Y:decide (x=y)=false :=by lia
     rw[Y] at h;exact AA (AF (AF (AF h)))
 .rintro ⟨r1,r2⟩ s' ⟨M,rfl,D,F,j,q,g,J,B,G,I⟩
  (subst M;apply AF)
  have Z:(xs.size==ys.size)=decide (x=y):=by
   rw[<- G,<- I]
   cases J with
   |nil=>(cases B with | nil=>simp | cons _ _=>simp)
   |cons _ _=>(cases B with | nil=>simp | cons _ _=>simp at g)
  (show P (.done (.ret (.bool (xs.size==ys.size)))) s';rwa [Z])
theorem sF(B:A.units+1 < cLine)(g:IsPathKey knd s.heap x a)(j:IsPathKey knd s.heap y b)(h:Q (decide (x=y)) s):
  wpAny (model prog w) A (eqBool (.ref a) (.ref b)) Q E s:=by
 (delta eqBool;try with_reducible refine As ?_)
 by_cases q:(Value.ref a==Value.ref b)=true
 .rw [Ac q]
  have e:a=b :=by lia
  subst e;obtain rfl:=g.inj j;exact AA (Bw (AF (by lia)))
 .exact (Ad q)▸AA (wpAny_richCompare_same_room g.typeIs j.typeIs DW (A6 DW g.typeIs F.entry_tuple_eq (aE B g j ⟨_,rfl,(fun e=>nomatch e),BE h⟩) (F.args_tuple_eq_2 _ _)) (Nat.lt_of_succ_lt B))
theorem QC n(q:IsTupleKey knd s.heap I a)(h:Q true s):wpAny (model prog w) A (eqIsQuiet (n+1) (.ref a)) Q E s:=by
 have g:=q.typeIs;refine qP q fun o items m F _ D hi=>?_
 (unfold eqIsQuiet;refine AA (BG g DW.lookup ?_))
 (refine AA (B5 g DZ ?_))
 (refine AA (A1 F D (AA ?_)))
 (rw[<- Cu])
 refine Cg _ (fun rest r s'=>r.1=none/\s'=s/\∀v∈rest,carriedByValue v=true) _ ?_ ?_ _ _ ⟨rfl,rfl,hi.byValue⟩
 .rintro v rest r s' ⟨B,rfl,j⟩
  (rw[eqIsQuiet_byValue _ (j v AE)];refine AA (AF ?_))
  (exact AF ⟨rfl,rfl,fun u G=>j u (AH _ G)⟩)
 .rintro ⟨J,L⟩ s' ⟨B,rfl,_⟩
  (subst B;exact AF h)
theorem X6(j:IsPathKey knd s.heap I a)(h:Q true s):wpAny (model prog w) A (eqIsQuiet 8 (.ref a)) Q E s:=by
 have g:=j.typeIs;obtain⟨o,items,m,G,_,F,hi⟩:=j
 (unfold eqIsQuiet;refine AA (BG g DW.lookup ?_))
 (refine AA (B5 g DZ ?_))
 (refine AA (A1 G F (AA ?_)))
 (rw[<- Cu])
 refine Cg _ (fun rest r s'=>r.1=none/\s'=s/\∃B,ItemsTup knd s.heap B rest) _ ?_ ?_ _ _ ⟨rfl,rfl,_,hi⟩
 .rintro v rest r s' ⟨q,rfl,B,D⟩
  cases D with
  |cons h1 h2 =>
   refine AA (QC 6 h1 ?_)
   (exact AF ⟨rfl,rfl,_,h2⟩)
 .rintro ⟨J,L⟩ s' ⟨q,rfl,_⟩
  (subst q;exact AF h)
end
noncomputable def bG[DecidableEq K](knd:KeyKind prog w K):HeapKind prog w (List (List K)) where
 is:=IsPathKey knd
 hash:=vD knd
 draws:=nL
 room:=fun A=>A.units+1 < cLine
 inj:=fun q B=>q.inj B
 keeps:=fun x F D hs=>x.keeps F D hs
 pyHash:=fun j g h=>nF j g h
 eqBool:=fun j q B h=>sF j q B h
 quiet:=fun g h=>X6 g h
theorem lJ[DecidableEq K]{knd:KeyKind prog w K}{A:Around}(g:A.units+2 < cLine):(bG knd).room A.in1:=g
end PySem
namespace L2
open PySem PySem.Spec PyProof.Rows
abbrev Key:=Sum (Option Int) Str
def JU:Value->Bool
 |.none=>true
 |_=>false
noncomputable def pO:Key->Value->Bool
 |.inl (some k),v=>Value.isInt k v
 |.inl none,v=>JU v
 |.inr x,v=>Value.isStrOf x v
def keyH(w:World):Key->Int
 |.inl (some k)=>hashInt k
 |.inl none=>4238894112
 |.inr x=>hashStr w x
theorem iS(h:JU v=true):v=.none:=by
 cases v<;>first | rfl | cases h
theorem vJ:∀{k}{v},pO k v=true->(∃i t,k=Sum.inl (some i)/\v=Value.int i t)\/(∃x t,k=Sum.inr x/\v=Value.str x t)\/(k=Sum.inl none/\v=Value.none)
 |.inl (some i),v,h=>by
  obtain⟨t,e⟩:=Value.isInt_shape h;exact .inl ⟨i,t,rfl,e⟩
 |.inl none,v,h=>.inr (.inr ⟨rfl,iS h⟩)
 |.inr x,v,h=>by
  obtain⟨t,e⟩:=Value.isStrOf_shape h;exact .inr (.inl ⟨x,t,rfl,e⟩)
theorem Vf i t:pO (.inl (some i)) (.int i t)=true :=by simp[pO,Value.isInt]
theorem Ve x t:pO (.inr x) (.str x t)=true :=by simp[pO,Value.isStrOf]
theorem key_ii a b:decide ((Sum.inl (some a):Key)=Sum.inl (some b))=(a==b) :=by grind
theorem key_ss a b:decide ((Sum.inr a:Key)=Sum.inr b)=decide (a=b) :=by grind
theorem key_is i y:decide ((Sum.inl (some i):Key)=Sum.inr y)=false:=AR nofun
theorem key_in i:decide ((Sum.inl (some i):Key)=Sum.inl none)=false:=AR nofun
theorem key_si x j:decide ((Sum.inr x:Key)=Sum.inl (some j))=false:=AR nofun
theorem key_sn x:decide ((Sum.inr x:Key)=Sum.inl none)=false:=AR nofun
theorem key_ni j:decide ((Sum.inl none:Key)=Sum.inl (some j))=false:=AR nofun
theorem key_ns y:decide ((Sum.inl none:Key)=Sum.inr y)=false:=AR nofun
theorem Vo(h:Q 4238894112 { s with toks:=s.toks+1 }):wpAny (model prog w) A (pyHash .none) Q E s:=by
 apply AA
 apply AF
 have ty:s.TypeIs .none "NoneType":=rfl
 refine AA (BG ty By.lookup (AA (BG ty By.lookup (AA (DY ty By
  (A6 By ty PySem.F.entry_NoneType_hash
   (wpAny_ret_mkInt ?_) (PySem.F.args_NoneType_hash_1 _)))))))
 exact AF h
theorem Y5(h:Q true s):wpAny (model prog w) A (eqBool .none .none) Q E s :=As (CM (fun _=>AA (Bw (AF h))) (fun g=>absurd rfl g))
noncomputable def qX prog w:PySem.KeyKind prog w Key where
 is:=pO
 hash:=keyH w
 inj:=fun v a b B D=>by
  rcases vJ B with ⟨i,t,rfl,rfl⟩ | ⟨x,t,rfl,rfl⟩ | ⟨rfl,rfl⟩<;>rcases vJ D with ⟨j,u,rfl,e⟩ | ⟨y,u,rfl,e⟩ | ⟨rfl,e⟩<;>cases e<;>rfl
 byValue:=fun k v h=>by
  rcases vJ h with ⟨i,t,rfl,rfl⟩ | ⟨x,t,rfl,rfl⟩ | ⟨rfl,rfl⟩<;>rfl
 pyHash:=fun g h=>by
  rcases vJ g with ⟨i,t,rfl,rfl⟩ | ⟨x,t,rfl,rfl⟩ | ⟨rfl,rfl⟩
  .exact wpAny_pyHash_int h
  .exact wpAny_pyHash_str h
  .exact Vo h
 eqBool:=fun F g h=>by
  rcases vJ F with ⟨i,t,rfl,rfl⟩ | ⟨x,t,rfl,rfl⟩ | ⟨rfl,rfl⟩<;>rcases vJ g with ⟨j,u,rfl,rfl⟩ | ⟨y,u,rfl,rfl⟩ | ⟨rfl,rfl⟩
  .rw [key_ii] at h;exact wpAny_eqBool_int h
  .rw [key_is] at h;exact SeqAt.EqAt.int_str i t y u _ _ _ _ h
  .rw [key_in] at h;exact SeqAt.EqAt.int_none i t _ _ _ _ h
  .rw [key_si] at h;exact SeqAt.EqAt.str_int x t j u _ _ _ _ h
  .rw [key_ss] at h;exact wpAny_eqBool_str h
  .rw [key_sn] at h;exact SeqAt.EqAt.str_none x t _ _ _ _ h
  .rw [key_ni] at h;exact SeqAt.EqAt.none_int j u _ _ _ _ h
  .rw [key_ns] at h;exact SeqAt.EqAt.none_str y u _ _ _ _ h
  .rw [Af (rfl:(Sum.inl none:Key)=Sum.inl none)] at h;exact Y5 h
 «strs»:=fun k x t v h=>by
  rcases vJ h with ⟨i,u,rfl,e⟩ | ⟨y,u,rfl,e⟩ | ⟨rfl,e⟩
  .exact nomatch e
  .injection e with q _
   subst q;cases v<;>rfl
  .exact nomatch e
theorem QZ prog w i t:(qX prog w).is (.inl (some i)) (.int i t)=true:=Vf i t
theorem yA prog w:(qX prog w).is (.inl none) .none=true:=rfl
theorem QY prog w x t:(qX prog w).is (.inr x) (.str x t)=true:=Ve x t
inductive V where
 |non | bl (b:Bool) | int (i:Int) | str (x:Str) | byt (b:Array UInt8) | flt (b:UInt64) | ref (a:Addr) | ty (n:String)
 deriving DecidableEq
def RelV:V->Value->Prop
 |.non,u=>u=Value.none
 |.bl b,u=>u=Value.bool b
 |.int i,u=>∃t,u=Value.int i t
 |.str x,u=>∃t,u=Value.str x t
 |.byt b,u=>∃t,u=Value.bytes b t
 |.flt b,u=>∃t,u=Value.float b t
 |.ref a,u=>u=Value.ref a
 |.ty n,u=>u=Value.type n
abbrev Vals:List V->List Value->Prop:=Paired RelV
theorem Vals.length(r:Vals xs g):xs.length=g.length:=Paired.length r
theorem Vals.get:∀{xs}{g}{i:Nat}{x},Vals xs g->xs[i]?=some x->∃u,g[i]?=some u/\RelV x u
 |_,_,_,_,.nil,e=>by simp at e
 |_,_,0,_,.cons r _,e=>by simp at e;subst e;exact⟨_,rfl,r⟩
 |_,_,i+1,x,.cons _ t,e=>by
  obtain⟨u,h1,h2⟩:=(Vals.get t (by simpa using e));exact⟨u,by simpa using h1,h2⟩
theorem Vals.set(r:RelV x u):∀{xs}{g}i,Vals xs g->Vals (xs.set i x) (g.set i u)
 |_,_,_,.nil=>.nil
 |_,_,0,.cons _ t=>.cons r t
 |_,_,i+1,.cons q t=>.cons q (Vals.set r i t)
theorem Vals.append:∀{xs ys}{g j},Vals xs g->Vals ys j->Vals (xs++ys) (g++j)
 |_,_,_,_,.nil,s=>s
 |_,_,_,_,.cons r t,s=>.cons r (Vals.append t s)
theorem Vals.take:∀{xs}{g}n,Vals xs g->Vals (xs.take n) (g.take n)
 |_,_,0,_=>.nil
 |_,_,_+1,.nil=>.nil
 |_,_,n+1,.cons r t=>.cons r (Vals.take n t)
theorem Vals.drop:∀{xs}{g}n,Vals xs g->Vals (xs.drop n) (g.drop n)
 |_,_,0,r=>r
 |_,_,_+1,.nil=>.nil
 |_,_,n+1,.cons _ t=>Vals.drop n t
def RelO:Option V->Option Value->Prop
 |some v,some u=>RelV v u
 |none,none=>True
 |_,_=>False
def KV: List (κ×V)->List (κ×Value)->Prop:=Paired fun(p:κ×V)(q:κ×Value)=>p.1=q.1/\RelV p.2 q.2
noncomputable def kV:Key->V
 |.inl none=>.non
 |.inl (some i)=>.int i
 |.inr x=>.str x
inductive HO where
 |lst (xs:List V)
 |tup (xs:List V)
 |dK (kvs:List (Key×V)) | dT (kvs:List (List Key×V)) | dP (kvs:List (List (List Key)×V))
 |set (S:Int->Bool) (n:Nat)
 |ins (C dx:Addr) (fs:List (Str×V))
 |own (x:Addr)
 |xd (fs:List (Str×V))
 |met (f x:Addr)
 |rng (lo hi:Int)
 |frz (o:Obj) (u:HO)
 |tbl (ps:Array Value)
 |ext (φ:Heap->Prop)
abbrev Hp:=Addr->Option HO
def upd(H:Hp)(a:Addr)(o:HO):Hp:=fun b=>if b=a then some o else H b
theorem bQ: upd H a o a=some o :=by grind[upd]
theorem mQ(h:b≠a):upd H a o b=H b :=by grind[upd]
theorem Yc{H:Hp}(h:H a=some o)(h':H b=some u)(d:o≠u):a≠b :=by grind
theorem sJ{H:Hp}(h:H a=some o)(h':H b=none):a≠b :=by grind
def IsTupN(h:Heap)(a:Addr)(items:Array Value):Prop:=∃o,h.get? a=some o/\o.cls=.type "tuple"/\(∃n,o.data=.seq items n)/\o.dict=none
theorem IsTupN.is(x:IsTupN h a items):IsTup h a items:=let ⟨o,e,c,d,_⟩:=x;⟨o,e,c,d⟩
theorem IsTupN.new(h:Heap)items:IsTupN (h.push { cls:=.type "tuple",data:=.seq items }) h.objs.size items:=⟨_,AM _ rfl,rfl,⟨_,rfl⟩,rfl⟩
def PKey(H:Hp)(j:List (List Key))(b:Addr):Prop:=∃bs:List Addr,H b=some (.tup (bs.map V.ref))/\Paired (fun(g:List Key)(c:Addr)=>H c=some (.tup (g.map kV))) j bs
section
variable (P:Program)(w:World)
def ObjOk(H:Hp)(h:Heap)(a:Addr):HO->Prop
 |.lst xs=>xs.length<=sizeLine/\∃(g:List Value)(n:Nat),Vals xs g/\h.get? a=some { cls:=.type "list",data:=.seq g.toArray n }
 |.tup xs=>xs.length<=sizeLine/\∃g:List Value,Vals xs g/\IsTupN h a g.toArray
 |.dK kvs=>kvs.length<=sizeLine/\(a==sysModules)=false/\∃vs,KV kvs vs/\h.DictOf (qX P w) a vs
 |.dT kvs=>kvs.length<=sizeLine/\(a==sysModules)=false/\∃xs:List (List Key×Addr×Value),
   Paired (fun(p:List Key×V)(q:List Key×Addr×Value)=>p.1=q.1/\H q.2.1=some (.tup (p.1.map kV))/\RelV p.2 q.2.2) kvs xs /\
   ∃o es ep,h.get? a=some o/\o.ExactDict/\o.data=.dict es ep/\es.toList=xs.map (entryOfKey (tupleKind (qX P w)))/\(xs.map (·.1)).Nodup
 |.dP kvs=>kvs.length<=sizeLine/\(a==sysModules)=false/\∃xs:List (List (List Key)×Addr×Value),
   Paired (fun(p:List (List Key)×V)(q:List (List Key)×Addr×Value)=>p.1=q.1/\PKey H p.1 q.2.1/\RelV p.2 q.2.2) kvs xs /\
   ∃o es ep,h.get? a=some o/\o.ExactDict/\o.data=.dict es ep/\es.toList=xs.map (entryOfKey (bG (qX P w)))/\(xs.map (·.1)).Nodup
 |.set S n=>h.SetOf (intKind P w) a S n
 |.ins C dx fs=>H dx=some (.own a)/\fs.length<=1000/\dx≠a/\h.get? a=some (PySem.W.instObj C dx) /\
   ∃mA,h.Ns1 dx mA/\(∀f,RelO (fs.lookup f) (mA f))/\PySem.Within mA (fs.map (·.1))
 |.own _=>∃o,h.get? a=some o
 |.xd fs=>∃mA,h.Ns1 a mA/\∀f,RelO (fs.lookup f) (mA f)
 |.rng lo hi=>∃t u v,h.get? a=some { cls:=.type "range",data:=.fields #[.int lo t,.int hi u,.int 1 v] }
 |.frz o u=>h.get? a=some o/\ObjOk H h a u
 |.tbl ps=>h.get? a=some { cls:=.none,data:=.fields ps }
 |.met f x=>h.get? a=some (PySem.W.methodObj (.ref f) (.ref x))
 |.ext j=>j h/\(∃o,h.get? a=some o)/\∀h1 h2:Heap,j h1->(∀o,h1.get? a=some o->h2.get? a=some o)->j h2
def HOk(H:Hp)(h:Heap):Prop:=∀a o,H a=some o->ObjOk P w H h a o
end
section
variable {P:Program}{w:World}{H H':Hp}{h h':Heap}{a:Addr}{o:HO}
theorem ObjOk.lt(x:ObjOk P w H h a o):a < h.objs.size:=by
 cases o with
 |lst xs=>obtain⟨_,_,_,_,e⟩:=x;exact AI e
 |tup xs=>obtain⟨_,_,_,o,e,_⟩:=x;exact AI e
 |dK kvs=>obtain⟨_,_,_,_,o,_,_,e,_⟩:=x;exact AI e
 |dT kvs=>obtain⟨_,_,_,_,o,_,_,e,_⟩:=x;exact AI e
 |dP kvs=>obtain⟨_,_,_,_,o,_,_,e,_⟩:=x;exact AI e
 |set S n=>exact el42 x fun o _ _ _ e _=>AI e
 |ins C dx fs=>exact zP x fun _ _ _ e _=>AI e
 |own y=>obtain⟨_,e⟩:=x;exact AI e
 |xd fs=>obtain⟨_,⟨_,_,_,e,_⟩,_⟩:=x;exact AI e
 |rng lo hi=>exact el31 x fun _ _ _ e=>AI e
 |frz g u=>obtain⟨e,_⟩:=x;exact AI e
 |tbl ps=>exact AI x
 |met f y=>exact AI x
 |ext j=>obtain⟨_,⟨_,e⟩,_⟩:=x;exact AI e
theorem Paired.mapP: ∀{g}{j},Paired F g j->(∀a b,F a b->G a b)->Paired G g j
 |_,_,.nil,_=>.nil
 |_,_,.cons r t,f=>.cons (f _ _ r) (Paired.mapP t f)
theorem PKey.mono(x:PKey H j b)(g:∀b xs,H b=some (.tup xs)->H' b=some (.tup xs)):PKey H' j b :=
 let ⟨bs,e,r⟩:=x;⟨bs,g _ _ e,Paired.mapP r fun _ _ z=>g _ _ z⟩
theorem ObjOk.stay(x:ObjOk P w H h a o)(k:∀b u,(b=a\/H b=some (.own a))->h.get? b=some u->h'.get? b=some u)(G:∀b,H b=some (.own a)->H' b=some (.own a))(D:∀b xs,H b=some (.tup xs)->H' b=some (.tup xs)):ObjOk P w H' h' a o:=by
 induction o with
 |lst xs=>obtain⟨z,j,n,r,e⟩:=x;exact⟨z,j,n,r,k _ _ (.inl rfl) e⟩
 |tup xs=>obtain⟨z,j,r,g,e,c⟩:=x;exact⟨z,j,r,g,k _ _ (.inl rfl) e,c⟩
 |dK kvs=>obtain⟨z,y,vs,r,g,es,ep,e,c⟩:=x;exact⟨z,y,vs,r,g,es,ep,k _ _ (.inl rfl) e,c⟩
 |dT kvs =>
  obtain⟨z,y,xs,r,g,es,ep,e,c⟩:=x;exact⟨z,y,xs,Paired.mapP r fun p q z=>⟨z.1,D _ _ z.2.1,z.2.2⟩,g,es,ep,k _ _ (.inl rfl) e,c⟩
 |dP kvs =>
  obtain⟨z,y,xs,r,g,es,ep,e,c⟩:=x;exact⟨z,y,xs,Paired.mapP r fun p q z=>⟨z.1,z.2.1.mono D,z.2.2⟩,g,es,ep,k _ _ (.inl rfl) e,c⟩
 |set S n=>exact el42 x fun g es ep t e c=>⟨g,es,ep,t,k _ _ (.inl rfl) e,c⟩
 |ins C dx fs =>
  obtain⟨d,z,J,e,mA,⟨B,es,ep,F,c⟩,r⟩:=x;exact⟨G _ d,z,J,k _ _ (.inl rfl) e,mA,⟨B,es,ep,k _ _ (.inr d) F,c⟩,r⟩
 |own y=>obtain⟨g,e⟩:=x;exact⟨g,k _ _ (.inl rfl) e⟩
 |xd fs=>obtain⟨mA,⟨B,es,ep,e,c⟩,r⟩:=x;exact⟨mA,⟨B,es,ep,k _ _ (.inl rfl) e,c⟩,r⟩
 |rng lo hi=>exact el31 x fun t u v e=>⟨t,u,v,k _ _ (.inl rfl) e⟩
 |frz g u I=>obtain⟨e,q⟩:=x;exact⟨k _ _ (.inl rfl) e,I q⟩
 |tbl ps =>
  have e:=x;exact k a _ (.inl rfl) e
 |met f y =>
  have e:=x;exact k a _ (.inl rfl) e
 |ext L=>obtain⟨p,⟨o,e⟩,st⟩:=x;exact⟨st _ _ p fun o q=>k _ _ (.inl rfl) q,⟨o,k _ _ (.inl rfl) e⟩,st⟩
theorem HOk.lt(x:HOk P w H h)(e:H a=some o):a < h.objs.size:=(x a o e).lt
theorem HOk.fresh(x:HOk P w H h)(e:h.objs.size<=a):H a=none:=by
 cases q:H a with
 |none=>rfl
 |some u=>exact absurd (AV (x.lt q) e) (A7 _)
theorem HOk.kept(x:HOk P w H h)(k:∀b u,h.get? b=some u->h'.get? b=some u):HOk P w H h':=fun a o e=>
 (x a o e).stay (fun b u _ q=>k b u q) (fun _ q=>q) fun _ _ q=>q
theorem HOk.laid(x:HOk P w H h)(k:∀b u,h.get? b=some u->h'.get? b=some u)(B:h.objs.size<=a)(D:ObjOk P w (upd H a o) h' a o):HOk P w (upd H a o) h':=fun b u e=>by
 have j:=x.fresh B
 by_cases g:b=a
 .subst g;rw[bQ] at e;cases e;exact D
 .rw [mQ g] at e
  exact(x b u e).stay (fun c v _ q=>k c v q) (fun c q=>by rwa [mQ (sJ q j)]) fun c xs q=>by rwa [mQ (sJ q j)]
end
def Rd(H:Hp)(a:Addr)(u:HO):Prop:=H a=some u\/∃o,H a=some (.frz o u)
theorem Rd.ok(r:Rd H a u)(x:HOk P w H h):ObjOk P w H h a u:=by
 rcases r with r | ⟨o,r⟩
 .exact x a u r
 .obtain ⟨_,q⟩:=x a _ r
  exact q
def Mut:Option HO->Prop
 |some (.lst _)=>True
 |some (.dK _)=>True
 |some (.dT _)=>True
 |some (.dP _)=>True
 |some (.set _ _)=>True
 |some (.ins _ _ _)=>True
 |some (.ext _)=>True
 |_=>False
section
variable {P:Program}{w:World}{H:Hp}{h h':Heap}{x e:Addr}{o':HO}
theorem HOk.write(M:HOk P w H h)(D:Mut (H x))(N:e=x\/H e=some (.own x))(k:∀b u,b≠e->h.get? b=some u->h'.get? b=some u)(G:∃u,h'.get? e=some u)(I:ObjOk P w (upd H x o') h' x o'):HOk P w (upd H x o') h':=fun b u q=>by
 have J:∀c y,H c=some (.own y)->c≠x:=fun c y r z=>by subst z;rwa [r] at D
 have L:∀c xs,H c=some (.tup xs)->c≠x:=fun c xs r z=>by subst z;rwa [r] at D
 by_cases g:b=x
 .subst g;rw[bQ] at q;cases q;exact I
 .rw [mQ g] at q
  by_cases j:b=e
  .have F:H b=some (.own x) :=by lia
   rw[q] at F;cases F
   obtain⟨v,O⟩:=G;exact⟨v,by rwa [j]⟩
  .refine (M b u q).stay (fun c v B r=>k c v ?_ r) (fun c r=>by rwa [mQ (J c b r)]) fun c xs r=>(mQ (L c xs r))▸r
   rcases B with rfl | B
   .exact j
   .grind
end
structure Un(fs ex:List Addr)(H H':Hp)(h h':Heap):Prop where
 keep:∀b o,h.get? b=some o->H b=none->b∉fs->b∉ex->h'.get? b=some o
 slot:∀b o,h.get? b=some o->H b=none->b∈fs->b∉ex->∃sl,h'.get? b=some { o with slots:=sl }
 free:∀b o,h.get? b=some o->H b=none->b∉ex->H' b=none
 there:∀b o,h.get? b=some o->b∉ex->∃o',h'.get? b=some o'
 tups:∀b xs,H b=some (.tup xs)->H' b=some (.tup xs)
 frzs:∀b o u,H b=some (.frz o u)->H' b=some (.frz o u)
 tbls:∀b ps,H b=some (.tbl ps)->∃more,H' b=some (.tbl (ps++more))
section
variable {fs fs' ex ex':List Addr}{H H1 H2:Hp}{h h1 h2 h':Heap}{a x e:Addr}{o:HO}
theorem Un.any(u:Un fs ex H H1 h h1)(q:h.get? b=some g)(n:H b=none)(B:b∉ex):∃D,h1.get? b=some { g with slots:=D }:=by
 by_cases j:b∈fs
 .exact u.slot b g q n j B
 .exact ⟨g.slots,u.keep b g q n j B⟩
theorem Un.kept(k:∀b u,h.get? b=some u->h'.get? b=some u):Un fs ex H H h h' :=
 ⟨fun b g q _ _ _=>k b g q,fun b g q _ _ _=>⟨g.slots,k b g q⟩,fun _ _ _ n _=>n,fun b g q _=>⟨g,k b g q⟩,fun _ _ q=>q,fun _ _ _ q=>q,fun _ ps q=>⟨#[],by rw[q];simp⟩⟩
theorem Un.refl:Un fs ex H H h h:=Un.kept fun _ _ q=>q
theorem Un.laid(k:∀b u,h.get? b=some u->h'.get? b=some u)(j:h.objs.size<=a)(g:H a=none):Un fs ex H (upd H a o) h h' where
 keep:=fun b u q _ _ _=>k b u q
 slot:=fun b u q _ _ _=>⟨u.slots,k b u q⟩
 free:=fun b u q n _=>by rwa [mQ (AZ (AV (AI q) j))]
 there:=fun b u q _=>⟨u,k b u q⟩
 tups:=fun b xs q=>by rwa [mQ (sJ q g)]
 frzs:=fun b u xs q=>by rwa [mQ (sJ q g)]
 tbls:=fun b ps q=>⟨#[],by rw[mQ (sJ q g),q];simp⟩
theorem Un.write(j:Mut (H x))(F:e=x\/H e=some (.own x))(k:∀b u,b≠e->h.get? b=some u->h'.get? b=some u)(J:∃u,h'.get? e=some u):Un fs ex H (upd H x o) h h':=by
 have D:∀b,H b=none->b≠x:=fun b n z=>by subst z;rwa [n] at j
 have B:∀b,H b=none->b≠e:=fun b n z=>by
  subst z
  rcases F with r | r
  .exact D b n r
  .lia
 have g:∀b u,H b=some u->¬ Mut (some u)->b≠x:=fun b u q G z=>by subst z;rw[q] at j;exact G j
 refine⟨fun b u q n _ _=>k b u (B b n) q,fun b u q n _ _=>⟨u.slots,k b u (B b n) q⟩,fun b u q n _=>by rw[mQ (D b n)];exact n,fun b u q _=>?_,
  fun b xs q=>by rw[mQ (g b _ q fun z=>z)];exact q,fun b u xs q=>by rw[mQ (g b _ q fun z=>z)];exact q,fun b ps q=>⟨#[],by rw[mQ (g b _ q fun z=>z),q];simp⟩⟩
 by_cases I:b=e
 .grind
 .grind
end
noncomputable def trk(h:Heap)(H:Hp):List Addr:=(List.range h.objs.size).filter fun a=>(H a).isSome
def Xd(h:Heap)(H:Hp):Heap:=PySem.W.hideAll h (trk h H)
theorem Vn h H:(Xd h H).objs.size=h.objs.size:=PySem.W.hideAll_size _ _
theorem YK(e:h.get? b=some o)(n:H b=none):(Xd h H).get? b=some o :=
 PySem.W.hideAll_get _ e fun g=>by
  have q:=(List.mem_filter.mp g).2;rw[n] at q;simp at q
theorem of_hidT(e:(Xd h H).get? b=some o):h.get? b=some o/\H b=none:=by
 have g:=PySem.W.of_hideAll (trk h H) e;refine⟨g,?_⟩
 cases q:H b with
 |none=>rfl
 |some x =>
  have z:(Xd h H).get? b=none:=PySem.W.hideAll_none (trk h H) (List.mem_filter.mpr ⟨Ba.mpr (AI g),by simp[q]⟩);rw[z] at e;cases e
noncomputable def allNews(g h:Heap)(L:Addr):List (Addr×Obj):=(List.range h.objs.size).filterMap fun a=>if a=L\/(g.get? a).isSome=true then none else (h.get? a).map fun o=>(a,o)
noncomputable def rest(g h:Heap)(L d:Addr):List (Addr×Obj):=(allNews g h L).filter fun p=>decide (p.1≠d)
structure Mod(K:Dj)(mg:Str->Option Value)(base:Heap):Prop where
 kin:K.In base
 glob:base.Ns mainGlobals mg
 blt:∃mb,base.Ns builtinsNs mb/\∀x:Str,x ≠ "__name__"->mb x=bootBuiltins x
 nolimit:base.NoLimit
structure Cx where
 prog:Program
 w:World
 K:Dj
 mg:Str->Option Value
 base:Heap
 A:Around
 N:List Str
 s₀:Shared
 H₀:Hp
 env:Env
 outer:List Env
 stack:List Env
 ex:List Addr
 fn:Str->Bool
 calm:Bool
 pn:List (Addr×Obj)
 xe:Value->Shared->Prop
noncomputable def frs(l:List Env):List Addr:=l.filterMap (·.frame)
abbrev Cx.fs(X:Cx):List Addr:=frs X.outer
def Vis(sc:Scope)(x:Str):Prop:=sc.names.lookup x=some .local\/sc.names.lookup x=some .cell\/sc.names.lookup x=some .free
def Loc(sc:Scope)(x:Str):Prop:=sc.names.lookup x=some .local\/sc.names.lookup x=some .cell
def Look(g:Env)(h:Heap)(m:Str->Option Value)(x:Str)(u:Value):Prop :=
 (g.kindOf x=some .local/\m x=some u)\/((g.kindOf x=some .cell\/g.kindOf x=some .free)/\∃c,g.cells.lookup x=some c/\h.IsCell c (some u))
structure Cx.Ok(X:Cx):Prop where
 mod:Mod X.K X.mg X.base
 kind:X.env.scope.kind=.function
 glob:X.env.globals=mainGlobals
 blt:X.env.builtins=builtinsNs
 above:X.s₀.heap.objs.size<=X.env.locals
 inj:∀x y c,X.env.cells.lookup x=some c->X.env.cells.lookup y=some c->x=y
 has:∀x,(X.env.kindOf x=some .cell\/X.env.kindOf x=some .free)->∃c,X.env.cells.lookup x=some c
 cab:∀x c,X.fn x=true->X.env.cells.lookup x=some c->X.s₀.heap.objs.size<=c
 hd:X.calm=true->X.A.handled=none
 frames:X.A.frames=some X.stack
 stk:X.stack=X.outer\/(X.stack=X.env::X.outer/\X.env.frame=some X.env.locals)
 exf:∀b∈X.ex,b≠X.env.locals/\∀x c,X.env.cells.lookup x=some c->c≠b
 bs:∀b o,X.base.get? b=some o->X.s₀.heap.get? b=some o/\X.H₀ b=none
 bsz:X.base.objs.size<=X.s₀.heap.objs.size
 noex:∀b o,X.base.get? b=some o->b∉X.ex
 exfs:∀b∈X.ex,b∉X.fs
 funs:X.s₀.heap.FunFrames X.base X.outer
 frf:∀b∈X.fs,X.H₀ b=none
structure Inv(X:Cx)(pins:List (Addr×Obj))(σ:List (Option V))(H:Hp)(s:Shared):Prop where
 ok:X.Ok
 os:s.os=X.s₀.os
 bare:AllBare s.gens
 base:Un X.fs X.ex X.H₀ H X.s₀.heap s.heap
 loc:∃m,s.heap.Ns X.env.locals m/\∀(i:Nat)(x:Str)(v:V),X.N[i]?=some x->σ[i]?=some (some v)->Vis X.env.scope x->∃u,RelV v u/\Look X.env s.heap m x u
 cell:∀x c,X.env.cells.lookup x=some c->∃v,s.heap.IsCell c v
 free:H X.env.locals=none
 freeC:∀x c,X.env.cells.lookup x=some c->H c=none
 pin:∀p∈X.pn++pins,s.heap.get? p.1=some p.2/\H p.1=none/\p.1≠X.env.locals/\p.1∉X.fs/\∀v,p.2.data≠.cell v
 hok:HOk X.prog X.w H s.heap
 len:σ.length=X.N.length
section
variable {X:Cx}{pins:List (Addr×Obj)}{σ:List (Option V)}{H H':Hp}{s:Shared}{h':Heap}
theorem Cx.Ok.nofr(j:X.Ok)(e:X.base.get? b=some o):b∉X.fs:=fun g=>by
 have:=(j.funs.mem g).1;rw[e] at this;cases this
theorem Inv.bs(I:Inv X pins σ H s):∀b o,X.base.get? b=some o->s.heap.get? b=some o/\H b=none:=fun b o e=>
 ⟨I.base.keep b o (I.ok.bs b o e).1 (I.ok.bs b o e).2 (I.ok.nofr e) (I.ok.noex b o e),I.base.free b o (I.ok.bs b o e).1 (I.ok.bs b o e).2 (I.ok.noex b o e)⟩
theorem Inv.bk(I:Inv X pins σ H s):∀b o,X.base.get? b=some o->s.heap.get? b=some o:=fun b o e=>(I.bs b o e).1
theorem Inv.mod(I:Inv X pins σ H s):Mod X.K X.mg X.base:=I.ok.mod
theorem Inv.kIn(I:Inv X pins σ H s):X.K.In s.heap:=I.ok.mod.kin.keeps I.bk
theorem Inv.fr(I:Inv X pins σ H s):∃m,Fr X.base X.env.locals s.heap m :=
 let ⟨m,g,_⟩:=I.loc
 ⟨m,g,I.bk,Ah I.ok.bsz I.ok.above⟩
theorem Inv.lt(I:Inv X pins σ H s):X.env.locals < s.heap.objs.size:=let ⟨_,g,_⟩:=I.loc;g.lt
theorem Inv.sz(I:Inv X pins σ H s):X.s₀.heap.objs.size<=s.heap.objs.size:=Ah I.ok.above (BV I.lt)
theorem Inv.nofs(I:Inv X pins σ H s){a:Addr}(h:s.heap.objs.size<=a):a∉X.fs:=fun g=>by
 obtain⟨_,o,j,_⟩:=I.ok.funs.mem g;exact absurd (AV (AI j) (Ah I.sz h)) (A7 _)
theorem Inv.cne(I:Inv X pins σ H s):∀x c,X.env.cells.lookup x=some c->c≠X.env.locals:=fun x c e z=>by
 obtain⟨v,o,j,g⟩:=(I.cell x c e);obtain⟨m,⟨o',es,ep,B,q,_⟩,_⟩:=I.loc;rw[z,B] at j;cases j;rw[q] at g;cases g
theorem Inv.funs(I:Inv X pins σ H s):s.heap.FunFrames X.base X.outer:=by
 have B:∀l,(∀b∈frs l,b∈X.fs)->X.s₀.heap.FunFrames X.base l->s.heap.FunFrames X.base l:=by
  intro l
  induction l with
  |nil=>intro _ _;trivial
  |cons S r O =>
   intro hs G;obtain⟨F,⟨L,o,q,J,M,D⟩,N⟩:=G;have g:=hs L (by delta frs;exact List.filterMap_cons▸q▸AE);obtain⟨U,e⟩:=I.base.slot L o M (I.ok.frf L g) g fun z=>I.ok.exfs L z g;exact⟨F,⟨L,_,q,J,e,D⟩,O (fun b j=>hs b (by delta frs;exact List.filterMap_cons▸q▸AH _ j)) N⟩
 exact B X.outer (fun _ j=>j) I.ok.funs
theorem Inv.stack(I:Inv X pins σ H s):s.heap.FunFrames X.base X.stack:=by
 rcases I.ok.stk with e | ⟨e,g⟩
 .exact e▸I.funs
 .rw [e]
  refine oQ I.loc fun m j _=>.cons (by rw[I.ok.kind];decide) g j ?_ I.funs;exact Heap.get?_none_of_le (Ah I.ok.bsz I.ok.above)
theorem Inv.stkSub(I:Inv X pins σ H s):∀b∈frs X.stack,b∈X.env.locals::X.fs:=fun b g=>by
 rcases I.ok.stk with e | ⟨e,j⟩
 .grind
 .rw [e] at g
  delta frs at g
  rwa [List.filterMap_cons,j] at g
theorem Inv.stkFree(I:Inv X pins σ H s):∀b∈frs X.stack,H b=none:=fun b g=>by
 rcases Ai.mp (I.stkSub b g) with e | g
 .exact e▸I.free
 .obtain ⟨_,o,j,_⟩:=I.ok.funs.mem g
  exact I.base.free b o j (I.ok.frf b g) fun z=>I.ok.exfs b z g
theorem Inv.step{ch:List Addr}(I:Inv X pins σ H s)(F:∀b∈ch,(b∈X.ex\/X.s₀.heap.objs.size<=b)/\b≠X.env.locals/\(∀x c,X.env.cells.lookup x=some c->c≠b)/\∀p∈X.pn++pins,p.1≠b)(N:∀b o,b≠X.env.locals->b∉X.fs->b∉ch->s.heap.get? b=some o->H b=none->h'.get? b=some o)(ae:∀b o,b≠X.env.locals->b∈X.fs->b∉ch->s.heap.get? b=some o->H b=none->∃O,h'.get? b=some { o with slots:=O })(J:∀b o,b∉ch->s.heap.get? b=some o->H b=none->H' b=none)(ao:∀b o,b∉ch->s.heap.get? b=some o->∃o',h'.get? b=some o')(aq:∀b xs,H b=some (.tup xs)->H' b=some (.tup xs))(af:∀b o u,H b=some (.frz o u)->H' b=some (.frz o u))(ak:∀b ps,H b=some (.tbl ps)->∃ah,H' b=some (.tbl (ps++ah)))(ns:∀m,s.heap.Ns X.env.locals m->h'.Ns X.env.locals m)(ag:HOk X.prog X.w H' h')(hg:AllBare g'):
  Inv X pins σ H' { s with heap:=h',gens:=g',drawn:=d',toks:=t' }:=by
 have Z:∀b o,X.s₀.heap.get? b=some o->b≠X.env.locals:=fun b o e=>AZ (AV (AI e) I.ok.above)
 have L:∀b o,X.s₀.heap.get? b=some o->b∉X.ex->b∉ch:=fun b o e g q=>by
  rcases(F b q).1 with z | z
  .exact g z
  .exact absurd (AV (AI e) z) (A7 _)
 have S:∀x c,X.env.cells.lookup x=some c->∀v,s.heap.IsCell c v->h'.IsCell c v:=fun x c e v ⟨o,B,M⟩=>by
  have G:c∉ch:=fun z=>(F c z).2.2.1 x c e rfl
  by_cases U:c∈X.fs
  .obtain ⟨O,ai⟩:=ae c o (I.cne x c e) U G B (I.freeC x c e)
   exact⟨_,ai,M⟩
  .exact ⟨o,N c o (I.cne x c e) U G B (I.freeC x c e),M⟩
 refine⟨I.ok,I.os,hg,⟨fun b o e n q g=>?_,fun b o e n q g=>?_,fun b o e n g=>?_,fun b o e g=>?_,fun b xs e=>aq b xs (I.base.tups b xs e),fun b o xs e=>af b o xs (I.base.frzs b o xs e),fun b ps e=>?_⟩,?_,fun x c e=>?_,?_,fun x c e=>?_,fun p W=>?_,ag,I.len⟩
 .exact N b o (Z b o e) q (L b o e g) (I.base.keep b o e n q g) (I.base.free b o e n g)
 .obtain ⟨O,j⟩:=I.base.slot b o e n q g
  obtain⟨aj,D⟩:=ae b _ (Z b o e) q (L b o e g) j (I.base.free b o e n g);exact⟨aj,D⟩
 .obtain ⟨o',j⟩:=I.base.there b o e g
  exact J b o' (L b o e g) j (I.base.free b o e n g)
 .obtain ⟨o',j⟩:=I.base.there b o e g
  exact ao b o' (L b o e g) j
 .obtain ⟨m1,j⟩:=I.base.tbls b ps e
  obtain⟨m2,D⟩:=ak b _ j;exact⟨m1++m2,by rw[D,Array.append_assoc]⟩
 .refine oQ I.loc fun m hn hl=>⟨m,ns m hn,fun i x v j D e3=>oQ (hl i x v j D e3) fun u r l=>⟨u,r,?_⟩⟩
  rcases l with l | ⟨k,c,e,z⟩
  .exact .inl l
  .exact .inr ⟨k,c,e,S x c e _ z⟩
 .obtain ⟨v,z⟩:=I.cell x c e
  exact⟨v,S x c e v z⟩
 .obtain ⟨m,⟨o,_,_,B,_⟩,_⟩:=I.loc
  exact J _ o (fun z=>(F _ z).2.1 rfl) B I.free
 .exact wB (I.cell x c e) fun v o B M=>J c o (fun z=>(F c z).2.2.1 x c e rfl) B (I.freeC x c e)
 .refine zP (I.pin p W) fun e n Y ab d=>?_
  have G:p.1∉ch:=fun z=>(F p.1 z).2.2.2 p W rfl;exact⟨N p.1 p.2 Y ab G e n,J p.1 p.2 G e n,Y,ab,d⟩
theorem Inv.un(I:Inv X pins σ H s)(u:Un X.fs [] H H' s.heap h')(J:HOk X.prog X.w H' h'):Inv X pins σ H' { s with heap:=h',toks:=t' }:=by
 obtain⟨m,⟨o,es,ep,j,r⟩,_⟩:=id I.loc;obtain⟨N,F⟩:=u.any j I.free (by simp)
 exact I.step (g':=s.gens) (d':=s.drawn) (ch:=[]) (fun _ z=>nomatch z) (fun b o _ g _ e n=>u.keep b o e n g (by simp)) (fun b o _ g _ e n=>u.slot b o e n g (by simp)) (fun b o _ e n=>u.free b o e n (by simp)) (fun b o _ e=>u.there b o e (by simp)) u.tups u.frzs u.tbls (fun M G=>by
  obtain⟨o',D,B,q,L⟩:=G;rw[j] at q;cases q
  exact⟨_,D,B,F,L⟩) J I.bare
theorem Inv.call(I:Inv X pins σ H s)(u:Un (frs X.stack) ch H H' s.heap h')(N:HOk X.prog X.w H' h')(L:AllBare g')(q:∀b∈ch,(b∈X.ex\/X.s₀.heap.objs.size<=b)/\b≠X.env.locals/\(∀x c,X.env.cells.lookup x=some c->c≠b)/\∀p∈X.pn++pins,p.1≠b):
  Inv X pins σ H' { s with heap:=h',gens:=g',drawn:=d',toks:=t' }:=by
 obtain⟨m,⟨o,es,ep,B,r⟩,_⟩:=id I.loc;obtain⟨U,j⟩:=u.any B I.free fun z=>(q _ z).2.1 rfl
 exact I.step q (fun b o j J g e n=>u.keep b o e n (fun z=>(Ai.mp (I.stkSub b z)).elim j J) g) (fun b o _ _ g e n=>u.any e n g) (fun b o g e n=>u.free b o e n g) (fun b o g e=>u.there b o e g) u.tups u.frzs u.tbls (fun S M=>by
  obtain⟨o',G,F,D,O⟩:=M;rw[B] at D;cases D
  exact⟨_,G,F,j,O⟩) N L
theorem Inv.turned(I:Inv X pins σ H s)(k:∀b o,b≠it->s.heap.get? b=some o->h'.get? b=some o)(D:H it=none)(j:it≠X.env.locals)(h1:it∈X.ex\/X.s₀.heap.objs.size<=it)(h2:∀x c,X.env.cells.lookup x=some c->c≠it)(G:∀p∈X.pn++pins,p.1≠it):Inv X pins σ H { s with heap:=h',toks:=t' }:=by
 have L:∀b u,H b=some u->b≠it:=fun b u e z=>by rw[z,D] at e;cases e
 refine I.step (g':=s.gens) (d':=s.drawn) (ch:=[it]) (fun b J=>?_) (fun b o _ _ g e _=>k b o (fun z=>g (by simp[z])) e) (fun b o _ _ g e _=>⟨o.slots,k b o (fun z=>g (by simp[z])) e⟩) (fun _ _ _ _ n=>n)
  (fun b o g e=>⟨o,k b o (fun z=>g (by simp[z])) e⟩) (fun _ _ e=>e) (fun _ _ _ e=>e) (fun b ps e=>⟨#[],by rw[e];simp⟩) (fun m B=>?_) (fun b u e=>?_) I.bare
 .grind
 .exact ZJ B fun o es ep F r=>⟨o,es,ep,k _ o (Ne.symm j) F,r⟩
 .refine (I.hok b u e).stay (fun c v g q=>k c v ?_ q) (fun _ q=>q) fun _ _ q=>q
  rcases g with z | z
  .lia
  .lia
theorem Inv.tok(I:Inv X pins σ H s)t:Inv X pins σ H { s with toks:=t }:=I.un (h':=s.heap) (t':=t) Un.refl I.hok
theorem Inv.kept(I:Inv X pins σ H s)(k:∀b u,s.heap.get? b=some u->h'.get? b=some u):Inv X pins σ H { s with heap:=h',toks:=t' }:=I.un (Un.kept k) (I.hok.kept k)
theorem Inv.laid{a:Addr}(I:Inv X pins σ H s)(k:∀b u,s.heap.get? b=some u->h'.get? b=some u)(g:s.heap.objs.size<=a)(j:ObjOk X.prog X.w (upd H a o) h' a o):
  Inv X pins σ (upd H a o) { s with heap:=h',toks:=t' }:=I.un (Un.laid k g (I.hok.fresh g)) (I.hok.laid k g j)
theorem Inv.write(I:Inv X pins σ H s)(q:Mut (H x))(g:e=x\/H e=some (.own x))(k:∀b u,b≠e->s.heap.get? b=some u->h'.get? b=some u)(j:∃u,h'.get? e=some u)(B:ObjOk X.prog X.w (upd H x o) h' x o):Inv X pins σ (upd H x o) { s with heap:=h',toks:=t' }:=I.un (Un.write q g k j) (I.hok.write q g k j B)
theorem Inv.weak(I:Inv X pins σ H s)(D:g.length=σ.length)(w:∀(i:Nat)v,g[i]?=some (some v)->σ[i]?=some (some v)):Inv X pins g H s :=
 ⟨I.ok,I.os,I.bare,I.base,let ⟨m,G,F⟩:=I.loc;⟨m,G,fun i x v j q B=>F i x v j (w i v q) B⟩,I.cell,I.free,I.freeC,I.pin,I.hok,D.trans I.len⟩
theorem Inv.pins_of(I:Inv X pins σ H s)(h:∀p∈j,s.heap.get? p.1=some p.2/\H p.1=none/\p.1≠X.env.locals/\p.1∉X.fs/\∀v,p.2.data≠.cell v):Inv X j σ H s :=
 ⟨I.ok,I.os,I.bare,I.base,I.loc,I.cell,I.free,I.freeC,fun p g=>(AX.mp g).elim (fun z=>I.pin p (Au _ z)) (h p),I.hok,I.len⟩
theorem QW{N:List Str}(B:N.Nodup){j:Nat}(a:N[i]?=some x)(b:N[j]?=some x):i=j:=by
 obtain⟨h1,g⟩:=AW.mp a;obtain⟨h2,q⟩:=AW.mp b;exact(List.getElem_inj B).mp (g.trans q.symm)
theorem qO(I:Inv X pins σ H s)(hN:X.N.Nodup)(hi:X.N[i]?=some x)(D:Loc X.env.scope x)(r:RelV v u)(h:∀s',Inv X pins (σ.set i (some v)) H s'->(∃a,Heap.SameBut a s.heap s'.heap/\(a=X.env.locals\/X.env.cells.lookup x=some a))->Q () s')(ao:X.fn x=true\/X.env.scope.names.lookup x=some .local:=by first | exact .inl rfl | exact .inr rfl | assumption):wpAny au A (storeName X.env x u) Q E s:=by
 refine oQ (id I.loc) fun m Y hl=>?_;have ak:(X.env.scope.kind==.class || (X.env.scope.kind==.module&&X.env.locals != X.env.globals))=false:=by rw[I.ok.kind];rfl
 have ah:i < σ.length :=I.len▸(AW.mp hi).1;have S:=I.cne
 have aj:∀{a:Addr}{h':Heap},(∃o,s.heap.get? a=some o/\H a=none)->Heap.SameBut a s.heap h'->HOk X.prog X.w H h':=fun {a h'}ha hs b ob e=>by
  obtain⟨_,_,ag⟩:=ha;refine(I.hok b ob e).stay (fun c O B q=>(hs.2 c ?_).trans q) (fun _ q=>q) fun _ _ q=>q;rintro rfl
  rcases B with rfl | B
  .rw [ag] at e;cases e
  .rw [ag] at B;cases B
 rcases D with G | G
 .refine wpAny_storeName_local G Y (fun h' aq hs=>ZJ (id Y) fun oL _ _ ar _=>h _ ⟨I.ok,I.os,I.bare,⟨fun b o e n J D=>?_,fun b o e n J D=>?_,I.base.free,fun b o e D=>?_,I.base.tups,I.base.frzs,I.base.tbls⟩,⟨_,aq,fun j y v' g F U=>?_⟩,fun y c e=>?_,I.free,I.freeC,fun p Z=>?_,aj ⟨oL,ar,I.free⟩ hs,by simpa using I.len⟩ ⟨_,hs,.inl rfl⟩) ak
  .exact (hs.2 b (AZ (AV (AI e) I.ok.above))).trans (I.base.keep b o e n J D)
  .obtain ⟨sl,g⟩:=I.base.slot b o e n J D
   exact⟨sl,(hs.2 b (AZ (AV (AI e) I.ok.above))).trans g⟩
  .obtain ⟨o',g⟩:=I.base.there b o e D
   exact⟨o',(hs.2 b (AZ (AV (AI e) I.ok.above))).trans g⟩
  .by_cases L:j=i
   .subst L
    rw[hi] at g;cases g
    rw[List.getElem?_set_self ah] at F;cases F;exact⟨u,r,.inl ⟨G,by simp⟩⟩
   .rw [B1 (Ne.symm L)] at F
    refine oQ (hl j y v' g F U) fun u' r' q=>⟨u',r',?_⟩
    rcases q with ⟨k,e⟩ | ⟨k,c,e,z⟩
    .refine .inl ⟨k,?_⟩
     have:y≠x:=fun e=>L (QW hN g (e▸hi))
     simp[this,e]
    .exact .inr ⟨k,c,e,z.sameBut hs (S y c e)⟩
  .obtain ⟨O,z⟩:=I.cell y c e
   exact⟨O,z.sameBut hs (S y c e)⟩
  .exact zP (I.pin p Z) fun e n N ab d=>⟨(hs.2 p.1 N).trans e,n,N,ab,d⟩
 .have W:X.fn x=true:=by
   rcases ao with z | z
   .exact z
   .rw [z] at G;cases G
  obtain⟨c,B⟩:=I.ok.has x (.inl G);obtain⟨O,z⟩:=I.cell x c B;refine wpAny_storeName_cell I.ok.kind G B z (fun h' ae hs=>oQ (id z) fun oc ai av=>h { s with heap:=h' } ⟨I.ok,I.os,I.bare,⟨fun b o e n J D=>?_,fun b o e n J D=>?_,I.base.free,fun b o e D=>?_,I.base.tups,I.base.frzs,I.base.tbls⟩,⟨m,Y.sameBut hs (Ne.symm (S x c B)),fun j y v' g F U=>?_⟩,fun y M e=>?_,I.free,I.freeC,fun p Z=>?_,aj ⟨oc,ai,I.freeC x c B⟩ hs,by simpa using I.len⟩ ⟨c,hs,.inr B⟩)
  .exact (hs.2 b (AZ (AV (AI e) (I.ok.cab x c W B)))).trans (I.base.keep b o e n J D)
  .obtain ⟨sl,g⟩:=I.base.slot b o e n J D
   exact⟨sl,(hs.2 b (AZ (AV (AI e) (I.ok.cab x c W B)))).trans g⟩
  .obtain ⟨o',g⟩:=I.base.there b o e D
   exact⟨o',(hs.2 b (AZ (AV (AI e) (I.ok.cab x c W B)))).trans g⟩
  .by_cases L:j=i
   .subst L
    rw[hi] at g;cases g
    rw[List.getElem?_set_self ah] at F;cases F;exact⟨u,r,.inr ⟨.inl G,c,B,ae⟩⟩
   .rw [B1 (Ne.symm L)] at F
    refine oQ (hl j y v' g F U) fun u' r' q=>⟨u',r',?_⟩
    rcases q with q | ⟨k,M,e,z'⟩
    .exact .inl q
    .refine .inr ⟨k,M,e,z'.sameBut hs ?_⟩
     rintro rfl;exact L (QW hN g (I.ok.inj _ _ _ e B▸hi))
  .by_cases af:M=c
   .subst af;exact⟨_,ae⟩
   .obtain ⟨w2,z2⟩:=I.cell y M e
    exact⟨w2,z2.sameBut hs af⟩
  .refine zP (I.pin p Z) fun e n N ab d=>⟨(hs.2 p.1 ?_).trans e,n,N,ab,d⟩
   intro q;rw[q,ai] at e;exact d O (by rwa [<- (Av e)])
theorem Qs(I:Inv X pins σ H s)(j:X.N.Nodup)(hi:X.N[i]?=some x)(B:Loc X.env.scope x)(r:RelV v u)(h:∀s',Inv X pins (σ.set i (some v)) H s'->Q () s')(q:X.fn x=true\/X.env.scope.names.lookup x=some .local:=by first | exact .inl rfl | exact .inr rfl | assumption):wpAny M A (storeName X.env x u) Q E s :=
 qO I j hi B r (fun s' g _=>h s' g) q
end
abbrev XK:=Value->Option Addr->Hp->Prop
abbrev St:=List (Option V)
abbrev VK:=V->Hp->Prop
abbrev TE:=St->Hp->VK->Prop
abbrev TT:=St->Hp->(Bool->Hp->Prop)->Prop
abbrev TA:=St->Hp->(List V->Hp->Prop)->Prop
structure G7 where
 nx:St->Hp->Prop
 rt:VK
 bk:St->Hp->Prop:=fun _ _=>False
 ct:St->Hp->Prop:=fun _ _=>False
abbrev TS:=G7->St->Hp->Prop
def EP(X:Cx)(pins:List (Addr×Obj))(σ:St)(Q:VK)(u:Value)(s':Shared):Prop:=∃v H',Inv X pins σ H' s'/\RelV v u/\Q v H'
def TP(X:Cx)(pins:List (Addr×Obj))(σ:St)(Q:Bool->Hp->Prop)(b:Bool)(s':Shared):Prop:=∃H',Inv X pins σ H' s'/\Q b H'
def AP(X:Cx)(pins:List (Addr×Obj))(σ:St)(Q:List V->Hp->Prop)(g:List Value)(s':Shared):Prop:=∃vs H',Inv X pins σ H' s'/\Vals vs g/\Q vs H'
def SP(X:Cx)(pins:List (Addr×Obj))(D:G7)(f:Flow)(s':Shared):Prop :=
 match f with
 |.next=>∃g H',Inv X pins g H' s'/\D.nx g H'
 |.brk=>∃g H',Inv X pins g H' s'/\D.bk g H'
 |.cont=>∃g H',Inv X pins g H' s'/\D.ct g H'
 |.ret u=>∃v g H',Inv X pins g H' s'/\RelV v u/\D.rt v H'
def PE(X:Cx)(e:Expr)(t:TE):Prop :=
 ∀(pins:List (Addr×Obj))(s:Shared)(σ:St)(H:Hp)(Q:VK),Inv X pins σ H s->t σ H Q->wpAny (model X.prog X.w) X.A (eval e X.env) (EP X pins σ Q) X.xe s
def PT(X:Cx)(e:Expr)(t:TT):Prop :=
 ∀(pins:List (Addr×Obj))(s:Shared)(σ:St)(H:Hp)(Q:Bool->Hp->Prop),Inv X pins σ H s->t σ H Q->wpAny (model X.prog X.w) X.A (isTrue e X.env (eval e X.env)) (TP X pins σ Q) X.xe s
def PW(X:Cx)(e:Expr)(t:TT):Prop :=
 ∀(g:Sem Value)(pins:List (Addr×Obj))(s:Shared)(σ:St)(H:Hp)(Q:Bool->Hp->Prop),Inv X pins σ H s->t σ H Q->wpAny (model X.prog X.w) X.A (isTrue e X.env g) (TP X pins σ Q) X.xe s
theorem PW.pt(h:PW X e t):PT X e t:=h _
def PA(X:Cx)(es:List Expr)(t:TA):Prop :=
 ∀(pos:Pos)(pins:List (Addr×Obj))(s:Shared)(σ:St)(H:Hp)(Q:List V->Hp->Prop),Inv X pins σ H s->t σ H Q->wpAny (model X.prog X.w) X.A (spliced (backTo pos (starEach es X.env))) (AP X pins σ Q) X.xe s
def PS(X:Cx)(st:Stmt)(t:TS):Prop :=
 ∀(pins:List (Addr×Obj))(s:Shared)(σ:St)(H:Hp)(D:G7),Inv X pins σ H s->t D σ H->wpAny (model X.prog X.w) X.A (exec st X.env) (SP X pins D) X.xe s
def PSs(X:Cx)(st:List Stmt)(t:TS):Prop :=
 ∀(pins:List (Addr×Obj))(s:Shared)(σ:St)(H:Hp)(D:G7),Inv X pins σ H s->t D σ H->wpAny (model X.prog X.w) X.A (execs st X.env) (SP X pins D) X.xe s
theorem thn(h:wpAny M A t Q E s)(j:∀a s,Q a s->g a s):wpAny M A t g E s:=BK h j fun _ _ x=>x
section
variable {X:Cx}
theorem bin(B:PE X a ta)(D:PE X b tb){σ:St}{R:V->V->Hp->Prop}(I:Inv X pins σ H s)(h:ta σ H fun x H1=>tb σ H1 fun y H2=>R x y H2){f:Value->Value->Sem α}(F:∀v u g x y H2,Inv X pins σ H2 g->RelV x v->RelV y u->R x y H2->wpAny (model X.prog X.w) X.A (f v u) Q X.xe g):
  wpAny (model X.prog X.w) X.A (eval a X.env) (fun v O=>wpAny (model X.prog X.w) X.A (eval b X.env) (fun u S=>wpAny (model X.prog X.w) X.A (f v u) Q X.xe S) X.xe O) X.xe s :=thn (B pins s σ H _ I h) fun v N ⟨x,H1,j,L,G⟩=>thn (D pins N σ H1 _ j G) fun u g ⟨y,H2,q,M,J⟩=>F v u g x y H2 q L M J
inductive IVar(i:Nat)(σ:St)(H:Hp)(Q:VK):Prop
 |mk(v:V)(h:σ[i]?=some (some v))(q:Q v H):IVar i σ H Q
def tVar(i:Nat):TE:=fun σ H Q=>IVar i σ H Q
def tC(v:V):TE:=fun _ H Q=>Q v H
theorem WI{pos}(F:X.N[i]?=some x)(N:Vis X.env.scope x)(q:(x==("__debug__" : Str))=false:=by decide)(G:(x==("__classdict__" : Str))=false:=by decide):PE X (.Name x pos) (tVar i):=by
 intro pins s σ H Q I h;obtain⟨v,e,h⟩:=h;refine oQ I.loc fun m M J=>oQ (J i x v F e N) fun u r l=>?_;have j:EP X pins σ Q u s:=⟨v,H,I,r,h⟩
 rcases l with ⟨g,L⟩ | ⟨g,c,B,D⟩
 .exact wpAny_Name (wpAny_loadName_local I.ok.kind g M L j) q
 .rcases g with g | g
  .exact wpAny_Name (wpAny_loadName_cell I.ok.kind g B D j) q
  .exact wpAny_Name (wpAny_loadName_free I.ok.kind g B D j G) q
theorem pe_int{i j pos}:PE X (.Constant (.int i) j pos) (tC (.int i)):=fun _ _ _ H _ I h=>wpAny_Constant_int ⟨.int i,H,I.tok _,⟨_,rfl⟩,h⟩
theorem pe_bl{b j pos}:PE X (.Constant (.bool b) j pos) (tC (.bl b)):=fun _ _ _ H _ I h=>Constant_bool ⟨.bl b,H,I,rfl,h⟩
theorem pe_non{j pos}:PE X (.Constant .none j pos) (tC .non):=fun _ _ _ H _ I h=>Constant_none ⟨.non,H,I,rfl,h⟩
theorem pe_str{x j pos}:PE X (.Constant (.str x) j pos) (tC (.str x)):=fun _ _ _ H _ I h=>Calls.Constant_str ⟨.str x,H,I.tok _,⟨_,rfl⟩,h⟩
def Gl(X:Cx)(x:Str):Prop:=X.env.kindOf x=some .globalImplicit
theorem bA{σ:St}(I:Inv X pins σ H s)(j:Gl X x)(q:X.mg x=some u)(h:Q u s)(g:(x==("__debug__" : Str))=false:=by decide):wpAny (model X.prog X.w) X.A (eval (.Name x pos) X.env) Q E s :=
 Calls.Name_function_global I.ok.kind j (Calls.loadGlobal_global (I.ok.glob▸I.mod.glob.keeps I.bk) q h) g
theorem fA{E}{σ:St}{pos}(I:Inv X pins σ H s)(j:Gl X x)(q:X.mg x=none)(D:bootBuiltins x=some u)(h:Q u s)(B:x ≠ "__name__":=by decide)(g:(x==("__debug__" : Str))=false:=by decide):wpAny (model X.prog X.w) X.A (eval (.Name x pos) X.env) Q E s :=oQ I.mod.blt fun F h1 h2=>Calls.Name_function_global I.ok.kind j (Calls.loadGlobal_builtin (I.ok.glob▸I.mod.glob.keeps I.bk) q (I.ok.blt▸h1.keeps I.bk) ((h2 x B).trans D) h) g
theorem pe_glob(j:Gl X x)(q:X.mg x=some u)(r:RelV v u)(g:(x==("__debug__" : Str))=false:=by decide):PE X (.Name x pos) (tC v) :=
 fun _ _ _ H _ I h=>bA I j q ⟨v,H,I,r,h⟩ g
theorem pe_bltn{pos}(j:Gl X x)(q:X.mg x=none)(D:bootBuiltins x=some u)(r:RelV v u)(B:x ≠ "__name__":=by decide)(g:(x==("__debug__" : Str))=false:=by decide):PE X (.Name x pos) (tC v) :=
 fun _ _ _ H _ I h=>fA I j q D ⟨v,H,I,r,h⟩ B g
variable {a b:Expr}{ta tb:TE}{pos:Pos}
inductive IBl(Q:Bool->Hp->Prop)(x:V)(H:Hp):Prop
 |mk(c:Bool)(h:x=.bl c)(q:Q c H):IBl Q x H
def tB(t:TE):TT:=fun σ H Q=>t σ H (IBl Q)
theorem pt_val{e:Expr}{t:TE}(h:PE X e t)(B:∀g,isTrue e X.env g=(do let v <- g;standAt e.pos;holding [v] (truthy v)):=by intro _;rfl):PT X e (tB t):=by
 intro pins s σ H Q I D;refine isTrue_plain (thn (h pins s σ H _ I D) fun v J ⟨x,H1,j,G,F⟩=>?_) (B _);obtain⟨d,rfl,q⟩:=F;cases G;exact BE ⟨H1,j,q⟩
variable {tA tB':TT}{rest:List Expr}
def tAnd(t u:TT):TT:=fun σ H Q=>t σ H fun c H1=>if c=true then u σ H1 Q else Q false H1
def tOr(t u:TT):TT:=fun σ H Q=>t σ H fun c H1=>if c=true then Q true H1 else u σ H1 Q
def tNot(t:TT):TT:=fun σ H Q=>t σ H fun c H1=>Q (!c) H1
theorem pw_and1(g:PT X a tA):PW X (.BoolOp .And [a] pos) tA:=by
 intro q pins s σ H Q I h;refine isTrue_and (thn (g pins s σ H Q I h) fun c j e=>?_)
 cases c with
 |true=>exact isTrue_and_nil e
 |false=>exact e
theorem pw_or1(g:PT X a tA):PW X (.BoolOp .Or [a] pos) tA:=by
 intro q pins s σ H Q I h;refine isTrue_or (thn (g pins s σ H Q I h) fun c j e=>?_)
 cases c with
 |false=>exact isTrue_or_nil e
 |true=>exact e
theorem pw_and(q:PT X a tA)(B:PW X (.BoolOp .And (b::rest) pos) tB'):PW X (.BoolOp .And (a::b::rest) pos) (tAnd tA tB'):=by
 intro F pins s σ H Q I h;refine isTrue_and (thn (q pins s σ H _ I h) fun c D ⟨H1,g,j⟩=>?_)
 cases c with
 |true=>exact B F pins D σ H1 Q g j
 |false=>exact⟨H1,g,j⟩
theorem pw_or(q:PT X a tA)(B:PW X (.BoolOp .Or (b::rest) pos) tB'):PW X (.BoolOp .Or (a::b::rest) pos) (tOr tA tB'):=by
 intro F pins s σ H Q I h;refine isTrue_or (thn (q pins s σ H _ I h) fun c D ⟨H1,g,j⟩=>?_)
 cases c with
 |true=>exact⟨H1,g,j⟩
 |false=>exact B F pins D σ H1 Q g j
theorem pt_not(g:PT X a tA):PT X (.UnaryOp .Not a pos) (tNot tA):=by
 intro pins s σ H Q I h;exact isTrue_not (g pins s σ H (fun c H1=>Q (!c) H1) I h)
def tAndV(ta tb:TE):TE:=fun σ H Q=>ta σ H fun x H1=>∃c,x=.bl c/\if c=true then tb σ H1 Q else Q (.bl false) H1
theorem pe_one{op}(h:PE X a t):PE X (.BoolOp op [a] pos) t:=fun pins s σ H Q I g=>BoolOp_one (h pins s σ H Q I g)
theorem pe_and(q:PE X a ta)(B:PE X (.BoolOp .And (b::rest) pos) tb):PE X (.BoolOp .And (a::b::rest) pos) (tAndV ta tb):=by
 intro pins s σ H Q I h;refine BoolOp_and (thn (q pins s σ H _ I h) fun v F ⟨x,H1,j,D,g⟩=>?_);obtain⟨c,rfl,g⟩:=g;cases D
 apply BE
 cases c with
 |true=>exact B pins F σ H1 Q j g
 |false=>exact⟨.bl false,H1,j,rfl,g⟩
def tIf(t:TT)(ta tb:TE):TE:=fun σ H Q=>t σ H fun c H1=>if c=true then ta σ H1 Q else tb σ H1 Q
theorem WL(F:PT X c tA)(B:PE X a ta)(D:PE X b tb):PE X (.IfExp c a b pos) (tIf tA ta tb):=by
 intro pins s σ H Q I h;refine wpAny_IfExp (thn (F pins s σ H _ I h) fun d q ⟨H1,g,j⟩=>?_)
 cases d with
 |true=>exact B pins q σ H1 Q g j
 |false=>exact D pins q σ H1 Q g j
end
def SqL(K:Dj)(H:Hp)(a:Addr)(xs:List V):Prop :=
 Rd H a (.lst xs) \/
  ∃(o:Obj)(g:Array Value)(n:Nat),K.lookup a=some o/\o.cls=.type "list"/\o.dict=none/\o.data=.seq g n/\g.size<=sizeLine/\Vals xs g.toList
def SqT(K:Dj)(H:Hp)(a:Addr)(xs:List V):Prop :=
 Rd H a (.tup xs) \/
  ∃(o:Obj)(g:Array Value)(n:Nat),K.lookup a=some o/\o.cls=.type "tuple"/\o.data=.seq g n/\g.size<=sizeLine/\Vals xs g.toList
noncomputable def absV:Value->Option V
 |.none=>some .non
 |.bool b=>some (.bl b)
 |.int i _=>some (.int i)
 |.str x _=>some (.str x)
 |.bytes b _=>some (.byt b)
 |.float b _=>some (.flt b)
 |.ref a=>some (.ref a)
 |.type n=>some (.ty n)
 |_=>none
theorem RelV.abs(r:RelV x u):absV u=some x:=by
 cases x with
 |non=>cases r;rfl
 |bl _=>cases r;rfl
 |int _=>obtain⟨t,rfl⟩:=r;rfl
 |str _=>obtain⟨t,rfl⟩:=r;rfl
 |byt _=>obtain⟨t,rfl⟩:=r;rfl
 |flt _=>obtain⟨t,rfl⟩:=r;rfl
 |ref _=>cases r;rfl
 |ty _=>cases r;rfl
theorem RelV.inj(r:RelV x u)(q:RelV y u):x=y:=Av (r.abs.symm.trans q.abs)
theorem Vals.inj:∀{xs ys}{g},Vals xs g->Vals ys g->xs=ys
 |_,_,_,.nil,.nil=>rfl
 |_,_,_,.cons r t,.cons j t'=>by rw[r.inj j,Vals.inj t t']
section
variable {X:Cx}{pins:List (Addr×Obj)}{σ:St}{H:Hp}{s:Shared}{a:Addr}{xs ys:List V}
theorem SqL.of{K}(h:H a=some (.lst xs)):SqL K H a xs:=.inl (.inl h)
theorem SqT.of{K}(h:H a=some (.tup xs)):SqT K H a xs:=.inl (.inl h)
theorem Inv.list(I:Inv X pins σ H s)(h:SqL X.K H a xs):∃g,Vals xs g/\PlainL s.heap a g.toArray/\xs.length<=sizeLine:=by
 rcases h with h | ⟨o,g,n,B,j,q,hs,D,r⟩
 .obtain ⟨z,g,n,r,e⟩:=h.ok I.hok
  exact⟨g,r,⟨_,n,e,rfl,rfl,rfl⟩,z⟩
 .refine ⟨g.toList,r,⟨o,n,I.kIn a o B,j,q,by simpa using hs⟩,?_⟩
  have e:=r.length
  simp only[Array.length_toList] at e
  lia
theorem Inv.tuple(I:Inv X pins σ H s)(h:SqT X.K H a xs):∃g,Vals xs g/\IsTup s.heap a g.toArray/\xs.length<=sizeLine:=by
 rcases h with h | ⟨o,g,n,q,j,hs,B,r⟩
 .obtain ⟨z,g,r,p⟩:=h.ok I.hok
  exact⟨g,r,IsTupN.is p,z⟩
 .refine ⟨g.toList,r,⟨o,I.kIn a o q,j,n,by simpa using hs⟩,?_⟩
  have e:=r.length
  simp only[Array.length_toList] at e
  lia
theorem Inv.list_inj(I:Inv X pins σ H s)(h:SqL X.K H a xs)(h':SqL X.K H a ys):xs=ys:=by
 obtain⟨j,r,⟨o,n,e,_,_,d⟩,_⟩:=I.list h;obtain⟨its',q,⟨o',B,g,_,_,d'⟩,_⟩:=I.list h';rw[e] at g;cases g
 rw[d] at d';injection d' with d1 _
 have:j=its' :=by lia
 subst this;exact r.inj q
theorem Inv.tuple_inj(I:Inv X pins σ H s)(h:SqT X.K H a xs)(h':SqT X.K H a ys):xs=ys:=by
 obtain⟨j,r,⟨o,e,_,n,d⟩,_⟩:=I.tuple h;obtain⟨its',q,⟨o',g,_,B,d'⟩,_⟩:=I.tuple h';rw[e] at g;cases g
 rw[d] at d';injection d' with d1 _
 have:j=its' :=by lia
 subst this;exact r.inj q
end
abbrev Cx.wish(X:Cx)(E:Value->Shared->Prop):Cx:={ X with xe:=E }
abbrev Cx.nox(X:Cx):Cx:=X.wish fun _ _=>False
theorem Cx.Ok.wish{X:Cx}(g:X.Ok)E:(X.wish E).Ok :=
 ⟨g.mod,g.kind,g.glob,g.blt,g.above,g.inj,g.has,g.cab,g.hd,g.frames,g.stk,g.exf,g.bs,g.bsz,g.noex,g.exfs,g.funs,g.frf⟩
theorem Cx.Ok.unwish{X:Cx}(g:(X.wish E).Ok):X.Ok :=
 ⟨g.mod,g.kind,g.glob,g.blt,g.above,g.inj,g.has,g.cab,g.hd,g.frames,g.stk,g.exf,g.bs,g.bsz,g.noex,g.exfs,g.funs,g.frf⟩
section
variable {X:Cx}{pins:List (Addr×Obj)}{σ:St}{H:Hp}{s:Shared}{E:Value->Shared->Prop}
theorem Inv.wish(I:Inv X pins σ H s)E:Inv (X.wish E) pins σ H s:=⟨I.ok.wish E,I.os,I.bare,I.base,I.loc,I.cell,I.free,I.freeC,I.pin,I.hok,I.len⟩
theorem Inv.unwish(I:Inv (X.wish E) pins σ H s):Inv X pins σ H s:=⟨I.ok.unwish,I.os,I.bare,I.base,I.loc,I.cell,I.free,I.freeC,I.pin,I.hok,I.len⟩
theorem SP.unwish(h:SP (X.wish E) pins D f s'):SP X pins D f s':=by
 cases f with
 |next=>obtain⟨g,H',I,q⟩:=h;exact⟨g,H',I.unwish,q⟩
 |brk=>obtain⟨g,H',I,q⟩:=h;exact⟨g,H',I.unwish,q⟩
 |cont=>obtain⟨g,H',I,q⟩:=h;exact⟨g,H',I.unwish,q⟩
 |ret u=>exact Xn h fun v g H' I r q=>⟨v,g,H',I.unwish,r,q⟩
theorem PSs.nox{st}(h:PSs X.nox st t):PSs X st t:=fun pins s σ H D I g=>
 BK (h pins s σ H D (I.wish _) g) (fun _ _ q=>q.unwish) fun _ _ z=>False.elim z
end
section
variable {X:Cx}{st:Stmt}{rest:List Stmt}{t u:TS}{e:Expr}{te:TE}{pos:Pos}
def tNext:TS:=fun D σ H=>D.nx σ H
def tSeq(t u:TS):TS:=fun D σ H=>t { D with nx:=u D } σ H
theorem pss_nil:PSs X [] tNext:=fun _ _ σ H _ I h=>DQ ⟨σ,H,I,h⟩
theorem Wy(h1:PS X st t)(h2:PSs X rest u):PSs X (st::rest) (tSeq t u):=by
 intro pins s σ H D I h;refine wpAny_execs_cons (thn (h1 pins s σ H { D with nx:=u D } I h) fun f j q=>?_)
 cases f with
 |next =>
  exact wB q fun B H' g q=>h2 pins j B H' D g q
 |ret v=>exact q
 |brk=>exact q
 |cont=>exact q
theorem pss_one(h1:PS X st t):PSs X [st] t:=by
 intro pins s σ H D I h;refine wpAny_execs_cons (thn (h1 pins s σ H D I h) fun f g q=>?_)
 cases f with
 |next=>exact DQ q
 |ret v=>exact q
 |brk=>exact q
 |cont=>exact q
theorem Inv.quiet{σ:St}(I:Inv X pins σ H s):interactive X.env=false :=by simp[interactive,I.ok.kind]
def tDrop(te:TE):TS:=fun D σ H=>te σ H fun _ H1=>D.nx σ H1
theorem ps_expr(j:PE X e te)(hs:swapsWith e none pos.line X.env=pure false:=by rfl):PS X (.Expr e pos) (tDrop te):=by
 intro pins s σ H D I h;exact wpAny_Expr_any (thn (j pins s σ H _ I h) fun v F ⟨x,H1,g,B,q⟩=>⟨σ,H1,g,q⟩) I.quiet hs
def tRet(te:TE):TS:=fun D σ H=>te σ H D.rt
theorem ps_ret(j:PE X e te):PS X (.Return (some e) pos) (tRet te):=by
 intro pins s σ H D I h;exact wpAny_Return_some (thn (j pins s σ H _ I h) fun v F ⟨x,H1,g,B,q⟩=>⟨x,σ,H1,g,B,q⟩)
def tIfS(c:TT)(t u:TS):TS:=fun D σ H=>c σ H fun b H1=>if b=true then t D σ H1 else u D σ H1
theorem ps_if(G:PT X c tc)(B:PSs X a t)(F:PSs X b u):PS X (.If c a b pos) (tIfS tc t u):=by
 intro pins s σ H D I h;refine wpAny_If (thn (G pins s σ H _ I h) fun d q ⟨H1,g,j⟩=>?_)
 cases d with
 |true=>exact B pins q σ H1 D g j
 |false=>exact F pins q σ H1 D g j
end
abbrev TG:=V->St->Hp->(St->Hp->Prop)->Prop
abbrev TGs:=List V->St->Hp->(St->Hp->Prop)->Prop
def PG(X:Cx)(j:Expr)(t:TG):Prop :=
 ∀(pins:List (Addr×Obj))(s:Shared)(σ:St)(H:Hp)(v:V)(u:Value)(Q:St->Hp->Prop),Inv X pins σ H s->RelV v u->t v σ H Q ->
  wpAny (model X.prog X.w) X.A (assign j X.env u) (fun _ s'=>∃g H',Inv X pins g H' s'/\Q g H') X.xe s
def PGs(X:Cx)(ts:List Expr)(t:TGs):Prop :=
 ∀(pins:List (Addr×Obj))(s:Shared)(σ:St)(H:Hp)(vs:List V)(g:List Value)(Q:St->Hp->Prop),Inv X pins σ H s->Vals vs g->t vs σ H Q ->
  wpAny (model X.prog X.w) X.A (assignInOrder ((assignEach ts X.env).map (·.2)) g) (fun _ s'=>∃j H',Inv X pins j H' s'/\Q j H') X.xe s
abbrev TSet:=V->V->V->Hp->(Hp->Prop)->Prop
def PSet(X:Cx)(t:TSet):Prop :=
 ∀(pins:List (Addr×Obj))(s:Shared)(σ:St)(H:Hp)(o i v:V)(j g u:Value)(Q:Hp->Prop),Inv X pins σ H s->RelV o j->RelV i g->RelV v u->t o i v H Q ->
  wpAny (model X.prog X.w) X.A (setItem j g u) (fun _ s'=>∃H',Inv X pins σ H' s'/\Q H') X.xe s
section
variable {X:Cx}{pos:Pos}
def pU(i:Nat):TG:=fun v σ H Q=>Q (σ.set i (some v)) H
theorem kD(j:X.N.Nodup)(hi:X.N[i]?=some x)(B:Loc X.env.scope x)(q:X.fn x=true\/X.env.scope.names.lookup x=some .local:=by first | exact .inl rfl | exact .inr rfl | assumption):PG X (.Name x pos) (pU i):=by
 intro pins s σ H v u Q I r h;exact wpAny_assign_Name (Qs I j hi B r (fun s' g=>⟨_,H,g,h⟩) q)
def gNil:TGs:=fun vs σ H Q=>vs=[]/\Q σ H
def eC(t:TG)(u:TGs):TGs:=fun vs σ H Q=>∃v r,vs=v::r/\t v σ H fun g H'=>u r g H' Q
theorem JD:PGs X [] gNil:=by
 intro pins s σ H vs g Q I r h;obtain⟨rfl,h⟩:=h;cases r;exact assignInOrder_nil ⟨σ,H,I,h⟩
theorem qC(h1:PG X e t)(h2:PGs X es u)(hs:(assignEach (e::es) X.env).map (·.2)=assign e X.env::(assignEach es X.env).map (·.2):=by rfl):PGs X (e::es) (eC t u):=by
 intro pins s σ H vs D Q I r h;obtain⟨v,F,rfl,h⟩:=h
 cases r with
 |cons r rr =>
  exact hs▸assignInOrder_cons (thn (h1 pins s σ H _ _ _ I r h) fun _ q ⟨B,H1,g,j⟩=>h2 pins q B H1 _ _ Q g rr j)
def gTup(K:Dj)(n:Nat)(t:TGs):TG:=fun v σ H Q=>∃a xs,v=.ref a/\SqT K H a xs/\xs.length=n/\t xs σ H Q
theorem WH{k}(q:X.calm=true)(h:PGs X es t)(D:(assignEach es X.env).length=n:=by rfl)(G:(assignEach es X.env).findIdx? (·.1)=none:=by rfl):PG X (.Tuple es k pos) (gTup X.K n t):=by
 intro pins s σ H v u Q I r g;obtain⟨a,xs,rfl,F,B,g⟩:=g;cases r;refine jZ (I.tuple F) fun O M J N=>assign_Tuple_tuple (I.ok.hd q) J (by simp[D,<- B,M.length]) G fun h' L=>?_;have j:=I.kept (t':=s.toks) fun b o e=>L b o (AZ (AI e)) e;exact h pins _ σ H xs _ Q j (by lia) g
def gSub(to j:TE)(t:TSet):TG:=fun v σ H Q=>to σ H fun o H1=>j σ H1 fun i H2=>t o i v H2 fun g=>Q σ g
theorem pg_sub{o i:Expr}{to q:TE}{t:TSet}(L:PE X o to)(hi:PE X i q)(hs:PSet X t)(J:∀v,assign (.Subscript o i pos) X.env v=(do
   let g <- holding [v] (eval o X.env)
   let j <- holding [v,g] (eval i X.env)
   standAt pos
   holding [v,g,j] (setItem g j v)
   release [v,g,j] []):=by intro _;rfl):PG X (.Subscript o i pos) (gSub to q t):=by
 intro pins s σ H v u Q I r h;rw[J];refine AA (As (thn (L pins s σ H _ I h) fun g W ⟨x,H1,D,S,M⟩=>?_));refine AA (As (thn (hi pins W σ H1 _ D M) fun j Y ⟨y,H2,F,U,N⟩=>?_));refine AA (wpAny_standAt (AA (As (thn (hs pins Y σ H2 x y v g j u _ F S U r N) fun _ Z ⟨B,G,O⟩=>?_))));exact wpAny_release ⟨σ,B,G,O⟩
def V9(te:TE)(g:TG):TS:=fun D σ H=>te σ H fun x H1=>g x σ H1 D.nx
theorem ps_asg(B:PE X e te)(F:PG X tg g)(hs:swapsWithSole [tg] e pos.line X.env=pure false:=by rfl)(G:swappedStores [tg] e X.env=pure none:=by rfl)(h1:(assignEach [tg] X.env).map (·.2)=[assign tg X.env]:=by rfl):PS X (.Assign [tg] e pos) (V9 te g):=by
 intro pins s σ H D I h;refine wpAny_Assign_stores (thn (B pins s σ H _ I h) fun v M ⟨x,H1,j,L,J⟩=>?_) hs G;rw[h1];exact thn (F pins M σ H1 x v _ j L J) fun _ N q=>q
theorem ps_set(q:X.N.Nodup)(hi:X.N[i]?=some x)(G:Loc X.env.scope x)(B:PE X e te)(hs:swapsWith e (some (.Name x pos')) pos.line X.env=pure false:=by rfl)(F:X.fn x=true\/X.env.scope.names.lookup x=some .local:=by first | exact .inl rfl | exact .inr rfl | assumption):
  PS X (.Assign [.Name x pos'] e pos) (V9 te (pU i)):=by
 intro pins s σ H D I h;exact wpAny_Assign_Name (thn (B pins s σ H _ I h) fun v M ⟨y,H1,g,L,J⟩=>Qs g q hi G L (fun N j=>⟨_,H1,j,J⟩) F) hs
def V2(c:TT)(tb:TS):TS:=fun D σ H=>∃W:Nat->St->Hp->Prop,(∃m,W m σ H)/\∀m σ H,W m σ H ->
 c σ H fun b H1=>if b=true then ∃N:St->Hp->Prop,(∀j H',N j H'->∃g,g < m/\W g j H')/\tb { D with nx:=N,ct:=N,bk:=D.nx } σ H1 else D.nx σ H1
theorem Wz(U:PassesOwn (model X.prog X.w) X.A X.env X.xe)(hc:PT X c tc)(hb:PSs X ab tb):PS X (.While c ab [] pos) (V2 tc tb):=by
 intro pins s σ H ai I h;obtain⟨W,⟨ae,w0⟩,ah⟩:=h;refine wpAny_While (codeAny_whileLoop (fun n s'=>∃Y H',Inv X pins Y H' s'/\W n Y H') ?_ ae ⟨σ,H,I,w0⟩);rintro n af ⟨D,H1,Z,w1⟩;refine Bs U (thn (hc pins af D H1 _ Z (ah n D H1 w1)) fun b ag ⟨H2,O,q⟩=>?_)
 cases b with
 |true =>
  refine oQ q fun N S q=>Bs U (thn (hb pins ag D H2 _ O q) fun f aj B=>?_)
  cases f with
  |next =>
   obtain⟨j,g,F,L⟩:=B;obtain⟨J,G,M⟩:=S j g L;exact⟨J,G,j,g,F,M⟩
  |cont =>
   obtain⟨j,g,F,L⟩:=B;obtain⟨J,G,M⟩:=S j g L;exact⟨J,G,j,g,F,M⟩
  |brk=>exact B
  |ret v=>exact B
 |false =>
  exact(Ad AS)▸DQ ⟨D,H2,O,q⟩
end
structure It where
 go:Nat->Hp->Prop
 yld:Nat->Hp->V->Hp->Prop
 stop:Nat->Hp->Prop
def XN(X:Cx)(pins:List (Addr×Obj))(H:Hp)(b:Addr):Prop :=
 H b=none/\b≠X.env.locals/\b∉X.fs/\(b∈X.ex\/X.s₀.heap.objs.size<=b)/\(∀x c,X.env.cells.lookup x=some c->c≠b)/\∀p∈X.pn++pins,p.1≠b
theorem Inv.fpOk{σ:St}{b:Addr}(I:Inv X pins σ H s)(g:s.heap.objs.size<=b)(j:H' b=none):XN X pins H' b:=by
 refine⟨j,Aq (AV I.lt g),I.nofs g,.inr (Ah I.sz g),fun x c e z=>?_,fun p B z=>?_⟩
 .obtain ⟨v,q⟩:=I.cell x c e
  exact absurd (AV q.lt (by rwa [z])) (A7 _)
 .exact absurd (AV (AI (I.pin p B).1) (by rwa [z])) (A7 _)
structure Z6(P:Program)(w:World)(K:Dj)(tg:Expr)(J:It)(fp:List Addr)(it:Addr)(tn:Nat->Heap->Prop):Prop where
 mem:it∈fp
 obj:∀i h,tn i h->∀b∈fp,∃o,h.get? b=some o/\∀v,o.data≠.cell v
 keep:∀i h h',tn i h->(∀b∈fp,∀o,h.get? b=some o->h'.get? b=some o)->tn i h'
 item:∀(X:Cx),X.prog=P->X.w=w->X.K=K->X.calm=true->∀(i:Nat)(pins:List (Addr×Obj))(s:Shared)(σ:St)(H:Hp)(E:Value->Shared->Prop),Inv X pins σ H s->(∀b∈fp,XN X pins H b)->tn i s.heap->J.go i H ->
  wpAny (model P w) X.A (pyNext (.ref it)) (fun r s1=>∃u,r=some u /\
   wpAny (model P w) X.A (letOwnedTupleGo tg (.ref it) u) (fun _ s2=>∃x H',Inv X pins σ H' s2/\RelV x u/\J.yld i H x H'/\tn (i+1) s2.heap/\∀b∈fp,H' b=none) E s1) E s
 done:∀(X:Cx),X.prog=P->X.w=w->X.K=K->X.calm=true->∀(i:Nat)(pins:List (Addr×Obj))(s:Shared)(σ:St)(H:Hp)(E:Value->Shared->Prop),Inv X pins σ H s->(∀b∈fp,XN X pins H b)->tn i s.heap->J.stop i H ->
  wpAny (model P w) X.A (pyNext (.ref it)) (fun r s1=>r=none/\Inv X pins σ H s1) E s
 self:∀(A:Around)(i:Nat)(s:Shared)(Q:Value->Shared->Prop)(E:Value->Shared->Prop),tn i s.heap->Q (.ref it) s->wpAny (model P w) A (pyIter (.ref it)) Q E s
abbrev TI:=St->Hp->(It->Hp->Prop)->Prop
def PIE(X:Cx)(pins:List (Addr×Obj))(σ:St)(tg:Expr)(R:It->Hp->Prop)(B:Value)(j:Shared):Prop :=
 ∃(it:Addr)(g:List Addr)(q:Nat->Heap->Prop)(J:It)(H':Hp),B=.ref it/\Inv X pins σ H' j/\Z6 X.prog X.w X.K tg J g it q/\q 0 j.heap/\(∀b∈g,XN X pins H' b)/\R J H'
def PI(X:Cx)(tg g:Expr)(q:TI):Prop :=
 ∀(pins:List (Addr×Obj))(s:Shared)(σ:St)(H:Hp)(R:It->Hp->Prop),Inv X pins σ H s->q σ H R ->
  wpAny (model X.prog X.w) X.A (eval g X.env) (fun v j=>wpAny (model X.prog X.w) X.A (pyIter v) (PIE X pins σ tg R) X.xe j) X.xe s
theorem Xg(B:s.heap.get? it=some o)(j:o.cls=.type n)(q:o.data=.fields vs)(D:["enumerate","zip","dict_itemiterator","dict_reverseitemiterator","odict_iterator","itertools.zip_longest","itertools.pairwise"].contains n=false)(g:Q () s):wpAny M A (letOwnedTupleGo tg (.ref it) u) Q E s:=by
 cases tg<;>first
  |exact AF g
  | (cases u<;>first
    |exact AF g
    | (refine AA (wpAny_load B ?_)
       rw[j,q];show wpAny M A (if (["enumerate","zip","dict_itemiterator","dict_reverseitemiterator","odict_iterator","itertools.zip_longest","itertools.pairwise"].contains n&&vs[0]?==some (rawInt _))=true then _ else _) Q E s;rw[Ad (by lia)]
       exact AF g))
def Itl(K:Dj)(a:Addr):It :=
 ⟨fun i H=>∃xs x,SqL K H a xs/\xs[i]?=some x,fun i H x H'=>H'=H/\∀xs,SqL K H a xs->xs[i]?=some x,fun i H=>∃xs,SqL K H a xs/\xs.length<=i⟩
def Itt(K:Dj)(a:Addr):It :=
 ⟨fun i H=>∃xs x,SqT K H a xs/\xs[i]?=some x,fun i H x H'=>H'=H/\∀xs,SqT K H a xs->xs[i]?=some x,fun i H=>∃xs,SqT K H a xs/\xs.length<=i⟩
def Itr(lo:Int)(n:Nat):It:=⟨fun i _=>i < n,fun i H x H'=>H'=H/\x=.int (lo+i),fun i _=>n<=i⟩
theorem Kx{K}a it:Z6 P w K tg (Itl K a) [it] it (fun i h=>h.IsListIter it a i) where
 mem:=by simp
 obj:=fun i h st b g=>by
  have e:b=it :=by grind
  subst e;exact jZ st fun o e c d=>⟨o,e,fun v z=>by rw[d] at z;cases z⟩
 keep:=fun i h h' st k=>st.at fun o e=>k it (by simp) o e
 item:=by
  intro X M O L U i pins s σ H E I j st N;subst M O L;refine wB N fun xs x q W=>jZ (I.list q) fun ae S p hz=>oQ (S.get W) fun u hu ru=>Xo (j it (by simp)) fun B D ab F G J=>?_;refine wpAny_pyNext_list_item st p.isList (by simpa using hu) fun h' st' sb=>?_;have Y:=I.turned (t':=s.toks) (fun b o g e=>(sb.2 b g).trans e) B D F G J;exact jZ (id st') fun o e c d=>⟨u,rfl,Xg e c d rfl ⟨x,H,Y,ru,⟨rfl,fun ys hy=>by rwa [I.list_inj hy q]⟩,st',fun b g=>(j b g).1⟩⟩
 done:=by
  intro X M O L U i pins s σ H E I j st N;subst M O L;refine oQ N fun xs q W=>jZ (I.list q) fun ae S p hz=>Xo (j it (by simp)) fun B D ab F G J=>?_;have hl:=S.length;exact wpAny_pyNext_list_end (I.ok.hd U) st p.isList (by simp;lia) fun h' Z=>⟨rfl,I.turned (t':=s.toks) (fun b o g e=>Z b o g e) B D F G J⟩
 self:=fun _ _ _ _ _ st h=>wpAny_pyIter_listiter st h
theorem XW{K}a it:Z6 P w K tg (Itt K a) [it] it (fun i h=>h.IsTupleIter it a i) where
 mem:=by simp
 obj:=fun i h st b g=>by
  have e:b=it :=by grind
  subst e;exact jZ st fun o e c d=>⟨o,e,fun v z=>by rw[d] at z;cases z⟩
 keep:=fun i h h' st k=>st.at fun o e=>k it (by simp) o e
 item:=by
  intro X M O L U i pins s σ H E I j st N;subst M O L;refine wB N fun xs x q W=>jZ (I.tuple q) fun ae S p hz=>oQ (S.get W) fun u hu ru=>Xo (j it (by simp)) fun B D ab F G J=>?_;refine DF st p (by simpa using hu) fun h' st' sb=>?_;have Y:=I.turned (t':=s.toks) (fun b o g e=>(sb.2 b g).trans e) B D F G J;exact jZ (id st') fun o e c d=>⟨u,rfl,Xg e c d rfl ⟨x,H,Y,ru,⟨rfl,fun ys hy=>by rwa [I.tuple_inj hy q]⟩,st',fun b g=>(j b g).1⟩⟩
 done:=by
  intro X M O L U i pins s σ H E I j st N;subst M O L;refine oQ N fun xs q W=>jZ (I.tuple q) fun ae S p hz=>Xo (j it (by simp)) fun B D ab F G J=>?_;have hl:=S.length;exact DK (I.ok.hd U) st p (by simp;lia) fun h' Z=>⟨rfl,I.turned (t':=s.toks) (fun b o g e=>Z b o g e) B D F G J⟩
 self:=fun _ _ _ _ _ st h=>wpAny_pyIter_tupleiter st h
theorem XX{K}it lo n:Z6 P w K tg (Itr lo n) [it] it (fun i h=>IsRangeIter h it (lo+i * 1) ( n - i ) 1) where
 mem:=by simp
 obj:=fun i h st b g=>by
  have e:b=it :=by grind
  subst e
  exact⟨_,st,fun v z=>by
   have z':=z
   cases z'⟩
 keep:=fun i h h' st k=>k it (by simp) _ st
 item:=by
  intro X N O M J i pins s σ H E I j st L;subst N O M;obtain⟨q,B,Y,D,F,G⟩:=j it (by simp);have W:=Walks.range (prog:=X.prog) (w:=X.w) (I.ok.hd J) it lo 1 n;refine W.item i s _ _ L st fun v h' tk Z st' kk=>?_;obtain⟨t,rfl⟩:=Z;have S:Inv X pins σ H { s with heap:=h',toks:=tk }:=I.turned (fun b o g e=>kk b o (by grind) e) q B D F G;refine⟨_,rfl,Xg st' rfl rfl rfl ⟨.int (lo+i),H,S,⟨t,?_⟩,⟨rfl,rfl⟩,st',fun b g=>(j b g).1⟩⟩
  rw[Int.mul_one]
 done:=by
  intro X N O M J i pins s σ H E I j st L;obtain⟨q,B,Y,D,F,G⟩:=j it (by simp);exact wpAny_pyNext_range_end (I.ok.hd J) st (by have:n<=i:=L;omega) fun h' U=>⟨rfl,I.turned (t':=s.toks) (fun b o g e=>U b o g e) q B D F G⟩
 self:=fun _ _ _ _ _ st h=>wpAny_pyIter_rangeiter st h
section
variable {X:Cx}{tg:Expr}
def iList(K:Dj)(tl:TE):TI:=fun σ H R=>tl σ H fun x H1=>∃a,x=.ref a/\(∃xs,SqL K H1 a xs)/\R (Itl K a) H1
def iTup(K:Dj)(tl:TE):TI:=fun σ H R=>tl σ H fun x H1=>∃a,x=.ref a/\(∃xs,SqT K H1 a xs)/\R (Itt K a) H1
theorem pi_list(B:PE X l tl):PI X tg l (iList X.K tl):=by
 intro pins s σ H R I h;refine thn (B pins s σ H _ I h) fun v j ⟨x,H1,g,G,F⟩=>?_;obtain⟨a,e,⟨xs,D⟩,q⟩:=F;subst e;cases G;refine jZ (g.list D) fun M N p L=>wpAny_pyIter_list p.isList ⟨j.heap.objs.size,[j.heap.objs.size],_,_,H1,rfl,g.kept (t':=j.toks) fun b o e=>AC _ e,Kx a _,⟨_,AM _ rfl,rfl,rfl⟩,fun b J=>?_,q⟩;have e:b=j.heap.objs.size :=by grind
 subst e;exact g.fpOk (AJ _) (g.hok.fresh (AJ _))
theorem pi_tup(B:PE X l tl):PI X tg l (iTup X.K tl):=by
 intro pins s σ H R I h;refine thn (B pins s σ H _ I h) fun v j ⟨x,H1,g,G,F⟩=>?_;obtain⟨a,e,⟨xs,D⟩,q⟩:=F;subst e;cases G;refine jZ (g.tuple D) fun M N p L=>CQ p ⟨j.heap.objs.size,[j.heap.objs.size],_,_,H1,rfl,g.kept (t':=j.toks) fun b o e=>AC _ e,XW a _,⟨_,AM _ rfl,rfl,rfl⟩,fun b J=>?_,q⟩;have e:b=j.heap.objs.size :=by grind
 subst e;exact g.fpOk (AJ _) (g.hok.fresh (AJ _))
theorem Wm{σ:St}{lo hi}(I:Inv X pins σ H s)(h1 : -(2 ^ 62)<=lo)(h2:lo < 2 ^ 62)(F : -(2 ^ 62)<=hi)(G:hi < 2 ^ 62)(q:R (Itr lo (hi - lo).toNat) H):wpAny (model X.prog X.w) X.A (pyIter (.ref s.heap.objs.size)) (PIE X pins σ tg R) E { s with heap:=s.heap.push { cls:=.type "range",data:=.fields #[.int lo t,.int hi u,.int 1 v] },toks:=j }:=by
 apply wpAny_pyIter_range (IsRange.new ..) (small_one h1 h2 F G)
 have g:Inv X pins σ H { s with heap:=s.heap.push { cls:=.type "range",data:=.fields #[.int lo t,.int hi u,.int 1 v] },toks:=j }:=I.kept fun b o e=>AC _ e
 refine⟨(s.heap.push { cls:=.type "range",data:=.fields #[.int lo t,.int hi u,.int 1 v] }).objs.size,[(s.heap.push { cls:=.type "range",data:=.fields #[.int lo t,.int hi u,.int 1 v] }).objs.size],_,_,H,rfl,
  g.kept (t':=j) fun b o e=>AC _ e,XX _ lo (hi - lo).toNat,?_,fun b J=>?_,q⟩
 .have B:lo+((0:Nat):Int) * 1=lo:=by simp
  have D:(((hi - lo).toNat:Nat):Int) - ((0:Nat):Int)=Builtin.Range.rangeSize lo hi 1:=by rw[rangeSize_one];split<;>lia
  rw[B,D];exact AM _ rfl
 .have e:b=(s.heap.push { cls:=.type "range",data:=.fields #[.int lo t,.int hi u,.int 1 v] }).objs.size :=by grind
  subst e;exact g.fpOk (AJ _) (g.hok.fresh (AJ _))
def YJ(ta:TA):TI:=fun σ H R=>ta σ H fun vs H1=>∃j:Int,vs=[.int j]/\-(2 ^ 62)<=j/\j < 2 ^ 62/\R (Itr 0 j.toNat) H1
theorem KM(F:Gl X "range")(G:X.mg "range" = none)(D:PA X [a] ta)(hs:starEach [a] X.env=[(false,eval a X.env)]:=by rfl):PI X tg (.Call (.Name "range" p) [a] [] pos) (YJ ta):=by
 intro pins s σ H R I h;refine Call_ (fA I F G boot_range (PyProof.Rows.callWith_type1 (thn (D pos pins s σ H _ I h) fun N M ⟨vs,H1,B,L,g⟩=>?_) hs rfl));obtain⟨j,rfl,g,J,q⟩:=g
 cases L with
 |cons r rr =>
  cases rr;obtain⟨t,rfl⟩:=r;exact call_range_1 (Wm B (by lia) (by lia) g J (by lia))
def tFor(B:TI)(g:TG)(tb:TS):TS:=fun D σ H=>B σ H fun J H1=>∃W:Nat->Nat->St->Hp->Prop,(∃m,W 0 m σ H1)/\∀i m σ H,W i m σ H ->
 (J.stop i H/\D.nx σ H)\/(J.go i H/\∃N:St->Hp->Prop,(∀q H',N q H'->∃j,j < m/\W (i+1) j q H')/\∀x H',J.yld i H x H'->g x σ H' fun F H2=>tb { D with nx:=N,ct:=N,bk:=D.nx } F H2)
def iN(g:List Addr)(h:Heap):List (Addr×Obj):=g.filterMap fun b=>(h.get? b).map fun o=>(b,o)
theorem qU(j:b∈g)(e:h.get? b=some o):(b,o)∈iN g h:=List.mem_filterMap.mpr ⟨b,j,by rw[e];rfl⟩
theorem K6(D:p∈iN j h):p.1∈j/\h.get? p.1=some p.2:=by
 obtain⟨b,B,e⟩:=(List.mem_filterMap.mp D)
 cases q:h.get? b with
 |none=>rw[q] at e;cases e
 |some o =>
  rw[q] at e;have g:=Av e;subst g;exact⟨B,q⟩
theorem Inv.pinned{σ:St}(I:Inv X pins σ H s)(G:∀b∈j,XN X pins H b)(J:∀b∈j,∃o,s.heap.get? b=some o/\∀v,o.data≠.cell v):Inv X (pins++iN j s.heap) σ H s :=
 I.pins_of fun p L=>(AX.mp L).elim (fun z=>I.pin p (AU _ z)) fun z=>by
  obtain⟨q,e⟩:=K6 z;refine kR (G p.1 q) fun B D F _=>oQ (J p.1 q) fun o g d=>?_;rw[e] at g;cases g
  exact⟨e,B,D,F,d⟩
theorem Inv.unpinned{σ:St}(I:Inv X (pins++j) σ H s):Inv X pins σ H s:=I.pins_of fun p g=>I.pin p (AU _ (Au _ g))
theorem ps_for{W:Expr}{ag:List Stmt}{wi:TI}{g:TG}{tb:TS}{pos:Pos}(I:PassesOwn (model X.prog X.w) X.A X.env X.xe)(hc:X.calm=true)(hi:PI X tg W wi)(hg:PG X tg g)(B:PSs X ag tb)(hs:∀x,foldedSetIterable W X.env x=pure x:=by intro _;rfl):PS X (.For tg W ag [] pos) (tFor wi g tb):=by
 intro pins s σ H a6 aq h;refine wpAny_For (thn (hi pins s σ H _ aq h) fun v a8 h1=>thn h1 fun a7 a9 h2=>?_) hs;obtain⟨it,G,tn,J,H2,e,I2,T,az,ah,ae,⟨ax,w0⟩,a4⟩:=h2;subst e;have ab:∀{H':Hp},(∀b∈G,H' b=none)->∀b∈G,XN X pins H' b:=fun hn b B=>⟨hn b B,(ah b B).2⟩;refine codeAny_forLoop_any (fun n s'=>∃i M H',Inv X pins M H' s'/\tn i s'.heap/\(∀b∈G,H' b=none)/\ae i n M H') ?_ ax ⟨0,σ,H2,I2,az,fun b B=>(ah b B).1,w0⟩
 rintro n aj ⟨i,O,S,I3,ao,ai,w3⟩
 rcases a4 i n O S w3 with ⟨a3,qn⟩ | ⟨av,N,hN,a0⟩
 .refine Bs I (thn (T.done X rfl rfl rfl hc i pins aj O S X.xe I3 (ab ai) ao a3) fun r ay ⟨U,I4⟩=>?_)
  subst U;exact DQ ⟨O,S,I4,qn⟩
 .refine Bs I (thn (T.item X rfl rfl rfl hc i pins aj O S X.xe I3 (ab ai) ao av) fun r ay ⟨u,U,h4⟩=>?_)
  subst U;refine Bs I (thn h4 fun _ ak zq=>?_);obtain⟨x,H5,I5,r5,y5,Z,au⟩:=zq;have ar:=I5.pinned (ab au) (T.obj _ _ Z);refine Bs I (thn (hg _ ak O H5 x u _ ar r5 (a0 x H5 y5)) fun _ s6 ⟨a5,H6,I6,q6⟩=>?_);refine Bs I (thn (B _ s6 a5 H6 _ I6 q6) fun f Y F=>?_)
  have af:∀{D:St}{j:Hp},Inv X (pins++iN G ak.heap) D j Y->N D j->∃m,m < n/\∃i M H',Inv X pins M H' Y/\tn i Y.heap/\(∀b∈G,H' b=none)/\ae i m M H':=fun {D j}q L=>by
   obtain⟨m',aw,w7⟩:=hN D j L;refine⟨m',aw,i+1,D,j,q.unpinned,T.keep _ _ _ Z fun b B o e=>(q.pin (b,o) (AU _ (AU _ (qU B e)))).1,fun b B=>?_,w7⟩;obtain⟨o,e,d⟩:=T.obj _ _ Z b B;exact(q.pin (b,o) (AU _ (AU _ (qU B e)))).2.1
  cases f with
  |next=>obtain⟨D,j,q,L⟩:=F;exact af q L
  |cont=>obtain⟨D,j,q,L⟩:=F;exact af q L
  |brk=>obtain⟨D,j,q,F⟩:=F;exact⟨D,j,q.unpinned,F⟩
  |ret v=>obtain⟨x7,D,j,q,r7,F⟩:=F;exact⟨x7,D,j,q.unpinned,r7,F⟩
end
abbrev R2:=V->V->Hp->VK->Prop
def OpR(X:Cx)(f:Value->Value->Sem Value)(r:R2):Prop :=
 ∀(pins:List (Addr×Obj))(s:Shared)(σ:St)(H:Hp)(x y:V)(v u:Value)(Q:VK),Inv X pins σ H s->RelV x v->RelV y u->r x y H Q ->
  wpAny (model X.prog X.w) X.A (f v u) (EP X pins σ Q) X.xe s
def UnR(X:Cx)(f:Value->Sem Value)(r:V->Hp->VK->Prop):Prop :=
 ∀(pins:List (Addr×Obj))(s:Shared)(σ:St)(H:Hp)(x:V)(v:Value)(Q:VK),Inv X pins σ H s->RelV x v->r x H Q ->
  wpAny (model X.prog X.w) X.A (f v) (EP X pins σ Q) X.xe s
def CallR(X:Cx)(f:Value)(r:List V->Hp->VK->Prop):Prop :=
 ∀(pins:List (Addr×Obj))(s:Shared)(σ:St)(H:Hp)(xs:List V)(g:List Value)(Q:VK),Inv X pins σ H s->Vals xs g->r xs H Q ->
  wpAny (model X.prog X.w) X.A (call f g) (EP X pins σ Q) X.xe s
def TruR(X:Cx)(r:V->Hp->(Bool->Hp->Prop)->Prop):Prop :=
 ∀(pins:List (Addr×Obj))(s:Shared)(σ:St)(H:Hp)(x:V)(v:Value)(Q:Bool->Hp->Prop),Inv X pins σ H s->RelV x v->r x H Q ->
  wpAny (model X.prog X.w) X.A (truthy v) (TP X pins σ Q) X.xe s
def tOp(r:R2)(ta tb:TE):TE:=fun σ H Q=>ta σ H fun x H1=>tb σ H1 fun y H2=>r x y H2 Q
def tUn(r:V->Hp->VK->Prop)(ta:TE):TE:=fun σ H Q=>ta σ H fun x H1=>r x H1 Q
inductive II(C:Int->Int->Prop)(g:Int->Int->V)(x y:V)(H:Hp)(Q:VK):Prop
 |mk(i j:Int)(h:x=.int i)(h':y=.int j)(c:C i j)(q:Q (g i j) H):II C g x y H Q
def rI(C:Int->Int->Prop)(g:Int->Int->V):R2:=II C g
inductive II0(g:Int->Int->V)(x y:V)(H:Hp)(Q:VK):Prop
 |mk(i j:Int)(h:x=.int i)(h':y=.int j)(q:Q (g i j) H):II0 g x y H Q
def rI0(g:Int->Int->V):R2:=II0 g
def rU(g:Int->V):V->Hp->VK->Prop:=fun x H Q=>∃i,x=.int i/\Q (g i) H
section
variable {X:Cx}{a b c:Expr}{ta tb tc:TE}{pos:Pos}
theorem binT(B:PE X a ta)(D:PE X b tb){σ:St}{R:V->V->Hp->Prop}(I:Inv X pins σ H s)(h:ta σ H fun x H1=>tb σ H1 fun y H2=>R x y H2){f:Value->Value->Sem Value}(F:∀v u g x y H2,Inv X pins σ H2 g->RelV x v->RelV y u->R x y H2->wpAny (model X.prog X.w) X.A (f v u) Q X.xe g):
  wpAny (model X.prog X.w) X.A (eval a X.env) (fun v O=>wpAny (model X.prog X.w) X.A (eval b X.env) (fun u S=>wpAny (model X.prog X.w) X.A (f v u) Q X.xe S) X.xe O) X.xe s :=thn (B pins s σ H _ I h) fun v N ⟨x,H1,j,L,G⟩=>thn (D pins N σ H1 _ j G) fun u g ⟨y,H2,q,M,J⟩=>F v u g x y H2 q L M J
theorem pe_op(D:OpR X (binaryOp op) r)(j:PE X a ta)(B:PE X b tb):PE X (.BinOp a op b pos) (tOp r ta tb):=by
 intro pins s σ H Q I h;exact wpAny_BinOp (binT j B I h fun v u J x y H2 g F G q=>D pins J σ H2 x y v u Q g F G q)
theorem pe_un(q:UnR X (unaryOp op) r)(j:PE X a ta):PE X (.UnaryOp op a pos) (tUn r ta):=by
 intro pins s σ H Q I h;exact UnaryOp_ (thn (j pins s σ H _ I h) fun v F ⟨x,H1,g,D,B⟩=>q pins F σ H1 x v Q g D B)
theorem opI{g:Int->Int->Int}(D:∀(i j:Int)(t u:Tok)(s:Shared)(Q:Value->Shared->Prop)(E:Value->Shared->Prop),C i j->Q (.int (g i j) s.toks) { s with toks:=s.toks+1 }->wpAny (model X.prog X.w) X.A (f (.int i t) (.int j u)) Q E s):
  OpR X f (rI C fun i j=>.int (g i j)):=by
 intro pins s σ H x y v u Q I F G h;obtain⟨i,j,rfl,rfl,B,q⟩:=h;obtain⟨t,rfl⟩:=F;obtain⟨t',rfl⟩:=G;exact D i j t t' s _ _ B ⟨.int (g i j),H,I.tok _,⟨_,rfl⟩,q⟩
theorem opI0{g:Int->Int->Int}(B:∀(i j:Int)(t u:Tok)(s:Shared)(Q:Value->Shared->Prop)(E:Value->Shared->Prop),Q (.int (g i j) s.toks) { s with toks:=s.toks+1 }->wpAny (model X.prog X.w) X.A (f (.int i t) (.int j u)) Q E s):
  OpR X f (rI0 fun i j=>.int (g i j)):=by
 intro pins s σ H x y v u Q I D F h;obtain⟨i,j,rfl,rfl,q⟩:=h;obtain⟨t,rfl⟩:=D;obtain⟨t',rfl⟩:=F;exact B i j t t' s _ _ ⟨.int (g i j),H,I.tok _,⟨_,rfl⟩,q⟩
theorem opB0{g:Int->Int->Bool}(B:∀(i j:Int)(t u:Tok)(s:Shared)(Q:Value->Shared->Prop)(E:Value->Shared->Prop),Q (.bool (g i j)) s->wpAny (model X.prog X.w) X.A (f (.int i t) (.int j u)) Q E s):
  OpR X f (rI0 fun i j=>.bl (g i j)):=by
 intro pins s σ H x y v u Q I D F h;obtain⟨i,j,rfl,rfl,q⟩:=h;obtain⟨t,rfl⟩:=D;obtain⟨t',rfl⟩:=F;exact B i j t t' s _ _ ⟨.bl (g i j),H,I,rfl,q⟩
def CPow(i j:Int):Prop:=0<=j/\j<=1000000/\i.natAbs < 2 ^ 64
def CMul(i j:Int):Prop:=(-(2 ^ 64) < i/\i < 2 ^ 64)\/(-(2 ^ 64) < j/\j < 2 ^ 64)
theorem CMul.ok(h:CMul i j):IntMulOk i j:=by
 rcases h with ⟨h1,h2⟩ | ⟨h1,h2⟩
 .exact .of_left (intBits_le_64 h1 h2)
 .exact .of_right (intBits_le_64 h1 h2)
theorem op_add:OpR X (binaryOp .Add) (rI0 fun i j=>.int (i+j)):=opI0 fun _ _ _ _ _ _ _ q=>add_int q
theorem mV:OpR X (binaryOp .Sub) (rI0 fun i j=>.int (i - j)):=opI0 fun _ _ _ _ _ _ _ q=>sub_int q
theorem sL:OpR X (binaryOp .Mult) (rI CMul fun i j=>.int (i * j)):=opI fun _ _ _ _ _ _ _ g q=>mul_int q g.ok
theorem tU:OpR X (binaryOp .Mod) (rI (fun _ j=>0 < j) fun i j=>.int (i % j)):=opI fun i j _ _ _ _ _ g q=>mod_int' (by lia) (by grind)
theorem Za:OpR X (binaryOp .Pow) (rI CPow fun i j=>.int (i ^ j.toNat)):=opI fun _ _ _ _ _ _ _ g q=>pow_int_small g.1 g.2.1 g.2.2 q
theorem unI{g:Int->Int}(j:∀(i:Int)(t:Tok)(s:Shared)(Q:Value->Shared->Prop)(E:Value->Shared->Prop),Q (.int (g i) s.toks) { s with toks:=s.toks+1 }->wpAny (model X.prog X.w) X.A (f (.int i t)) Q E s):
  UnR X f (rU fun i=>.int (g i)):=by
 intro pins s σ H x v Q I B h;obtain⟨i,rfl,q⟩:=h;obtain⟨t,rfl⟩:=B;exact j i t s _ _ ⟨.int (g i),H,I.tok _,⟨_,rfl⟩,q⟩
theorem jY:UnR X (unaryOp .USub) (rU fun i=>.int (-i)):=unI fun _ _ _ _ _ q=>neg_int q
end
noncomputable def scal:V->V->Bool
 |.non,.non=>true | .non,.int _=>true | .int _,.non=>true | .non,.bl _=>true | .bl _,.non=>true | .non,.str _=>true | .str _,.non=>true
 |.int _,.int _=>true | .bl _,.bl _=>true | .str _,.str _=>true | .byt _,.byt _=>true
 |.int _,.str _=>true | .str _,.int _=>true | .bl _,.str _=>true | .str _,.bl _=>true
 |_,_=>false
def rEq:R2:=fun x y H Q=>scal x y=true/\Q (.bl (decide (x=y))) H
def rNe:R2:=fun x y H Q=>scal x y=true/\Q (.bl (!decide (x=y))) H
theorem Ka: decide (V.int i=V.int j)=(i==j) :=by grind
theorem Gh: decide (V.bl i=V.bl j)=(i==j) :=by grind
theorem J9: decide (V.str i=V.str j)=(i==j) :=by grind
theorem Kb: decide (V.byt i=V.byt j)=(i.toList==j.toList):=by
 rw[DX];cases i;cases j
 simp
section
variable {X:Cx}{a b c:Expr}{ta tb tc:TE}{pos:Pos}
theorem lX{σ:St}(I:Inv X pins σ H s)(q:Q (.bl k) H)(e:k=g):EP X pins σ Q (.bool g) s:=by
 subst e;exact⟨.bl k,H,I,rfl,q⟩
theorem cX:OpR X (compareOp .Eq) rEq:=by
 intro pins s σ H x y v u Q I B g h;obtain⟨hs,q⟩:=h
 cases x with
 |non =>
  cases B
  cases y with
  |non=>cases g;exact PySem.EqNone.eq_none_none (lX I q (by simp))
  |bl j=>cases g;exact PySem.EqNone.eq_none_bool (lX I q (by simp))
  |int j=>obtain⟨t',rfl⟩:=g;exact PySem.EqNone.eq_none_int (lX I q (by simp))
  |str j=>obtain⟨t',rfl⟩:=g;exact PySem.EqNone.eq_none_str (lX I q (by simp))
  |_=>exact absurd hs AS
 |bl i =>
  cases B
  cases y with
  |non=>cases g;exact PySem.EqNone.eq_bool_none (lX I q (by simp))
  |bl j=>cases g;exact eq_bool (lX I q Gh)
  |str j=>obtain⟨t',rfl⟩:=g;exact PySem.EqMixed.eq_bool_str (lX I q (by simp))
  |_=>exact absurd hs AS
 |int i =>
  obtain⟨t,rfl⟩:=B
  cases y with
  |non=>cases g;exact PySem.EqNone.eq_int_none (lX I q (by simp))
  |int j=>obtain⟨t',rfl⟩:=g;exact eq_int (lX I q Ka)
  |str j=>obtain⟨t',rfl⟩:=g;exact PySem.EqMixed.eq_int_str (lX I q (by simp))
  |_=>exact absurd hs AS
 |str i =>
  obtain⟨t,rfl⟩:=B
  cases y with
  |non=>cases g;exact PySem.EqNone.eq_str_none (lX I q (by simp))
  |bl j=>cases g;exact PySem.EqMixed.eq_str_bool (lX I q (by simp))
  |int j=>obtain⟨t',rfl⟩:=g;exact PySem.EqMixed.eq_str_int (lX I q (by simp))
  |str j=>obtain⟨t',rfl⟩:=g;exact eq_str (lX I q J9)
  |_=>exact absurd hs AS
 |byt i =>
  obtain⟨t,rfl⟩:=B
  cases y with
  |byt j=>obtain⟨t',rfl⟩:=g;exact PySem.W.eq_bytes (lX I q Kb)
  |_=>exact absurd hs AS
 |_=>cases y<;>exact absurd hs AS
theorem wO:OpR X (compareOp .NotEq) rNe:=by
 intro pins s σ H x y v u Q I B g h;obtain⟨hs,q⟩:=h
 cases x with
 |non =>
  cases B
  cases y with
  |non=>cases g;exact PySem.EqNone.ne_none_none (lX I q (by simp))
  |bl j=>cases g;exact PySem.EqNone.ne_none_bool (lX I q (by simp))
  |int j=>obtain⟨t',rfl⟩:=g;exact PySem.EqNone.ne_none_int (lX I q (by simp))
  |str j=>obtain⟨t',rfl⟩:=g;exact PySem.EqNone.ne_none_str (lX I q (by simp))
  |_=>exact absurd hs AS
 |bl i =>
  cases B
  cases y with
  |non=>cases g;exact PySem.EqNone.ne_bool_none (lX I q (by simp))
  |bl j=>cases g;exact ne_bool (lX I q (Bi not Gh))
  |str j=>obtain⟨t',rfl⟩:=g;exact PySem.EqMixed.ne_bool_str (lX I q (by simp))
  |_=>exact absurd hs AS
 |int i =>
  obtain⟨t,rfl⟩:=B
  cases y with
  |non=>cases g;exact PySem.EqNone.ne_int_none (lX I q (by simp))
  |int j=>obtain⟨t',rfl⟩:=g;exact ne_int (lX I q (Bi not Ka))
  |str j=>obtain⟨t',rfl⟩:=g;exact PySem.EqMixed.ne_int_str (lX I q (by simp))
  |_=>exact absurd hs AS
 |str i =>
  obtain⟨t,rfl⟩:=B
  cases y with
  |non=>cases g;exact PySem.EqNone.ne_str_none (lX I q (by simp))
  |bl j=>cases g;exact PySem.EqMixed.ne_str_bool (lX I q (by simp))
  |int j=>obtain⟨t',rfl⟩:=g;exact PySem.EqMixed.ne_str_int (lX I q (by simp))
  |str j=>obtain⟨t',rfl⟩:=g;exact ne_str (lX I q (Bi not J9))
  |_=>exact absurd hs AS
 |byt i =>
  obtain⟨t,rfl⟩:=B
  cases y with
  |byt j=>obtain⟨t',rfl⟩:=g;exact PySem.W.ne_bytes (lX I q (Bi not Kb))
  |_=>exact absurd hs AS
 |_=>cases y<;>exact absurd hs AS
theorem wD:OpR X (compareOp .Lt) (rI0 fun i j=>.bl (decide (i < j))):=opB0 fun _ _ _ _ _ _ _ q=>lt_int q
theorem JJ:OpR X (compareOp .LtE) (rI0 fun i j=>.bl (decide (i<=j))):=opB0 fun _ _ _ _ _ _ _ q=>le_int q
theorem gV:OpR X (compareOp .Gt) (rI0 fun i j=>.bl (decide (j < i))):=opB0 fun _ _ _ _ _ _ _ q=>gt_int q
theorem KY:OpR X (compareOp .In) (fun x y H Q=>∃i j,x=.str i/\y=.str j/\Q (.bl (!(Builtin.Str.occurrences j i 0 j.length 1).isEmpty)) H):=by
 intro pins s σ H x y v u Q I g B h;obtain⟨i,j,rfl,rfl,q⟩:=h;obtain⟨t,rfl⟩:=g;obtain⟨t',rfl⟩:=B;exact in_str (lX I q rfl)
theorem xC:OpR X (compareOp .Is) (fun x y H Q=>y=.non/\Q (.bl (decide (x=.non))) H):=by
 intro pins s σ H x y v u Q I g j h;obtain⟨rfl,q⟩:=h;cases j;refine is_none_gen (lX I q ?_)
 cases x<;>first
  | (cases g;rfl)
  | (obtain⟨t,rfl⟩:=g;rfl)
theorem op_notN:OpR X (compareOp .IsNot) (fun x y H Q=>y=.non/\Q (.bl (!decide (x=.non))) H):=by
 intro pins s σ H x y v u Q I g j h;obtain⟨rfl,q⟩:=h;cases j;refine isnot_none_gen (lX I q ?_)
 cases x<;>first
  | (cases g;rfl)
  | (obtain⟨t,rfl⟩:=g;rfl)
theorem OpR.or(h:OpR X f r)(h':OpR X f B):OpR X f (fun x y H Q=>r x y H Q\/B x y H Q):=by
 intro pins s σ H x y v u Q I g j q
 rcases q with q | q
 .exact h pins s σ H x y v u Q I g j q
 .exact h' pins s σ H x y v u Q I g j q
theorem jG b(h:op≠.In:=by decide)(h2:op≠.NotIn:=by decide):behindInMarks op b=false:=by
 have g:(op==CmpOp.In)=false:=by cases op<;>first | rfl | exact absurd rfl h
 have j:(op==CmpOp.NotIn)=false:=by cases op<;>first | rfl | exact absurd rfl h2
 cases b<;>simp[behindInMarks,g,j]
theorem pe_cmpR(F:OpR X (compareOp op) r)(j:PE X a ta)(B:PE X b tb)(D:behindInMarks op b=false):PE X (.Compare a [op] [b] pos) (tOp r ta tb):=by
 intro pins s σ H Q I h;exact wpAny_Compare1 (binT j B I h fun v u L x y H2 g G J q=>F pins L σ H2 x y v u Q g G J q) D
def Qn(t:TE):TT:=fun σ H Q=>t σ H (IBl Q)
theorem pt_cmpR(J:OpR X (compareOp op) r)(D:PE X a ta)(F:PE X b tb)(G:behindInMarks op b=false):PT X (.Compare a [op] [b] pos) (Qn (tOp r ta tb)):=by
 intro pins s σ H Q I h
 refine wpAny_isTrue_Compare1 (thn (D pins s σ H _ I h) fun v W ⟨x,H1,j,O,L⟩=>thn (F pins W σ H1 _ j L) fun u Y ⟨y,H2,q,S,M⟩ =>
  thn (J pins Y σ H2 x y v u _ q O S M) fun c Z ⟨z,g,B,U,k,e,N⟩=>?_) G
 subst e;cases U;exact BE ⟨g,B,N⟩
def pN(r q:R2)(ta tb tc:TE):TE:=fun σ H Q=>ta σ H fun x H1=>tb σ H1 fun y H2=>r x y H2 fun z g=>∃k,z=.bl k /\
 (if k=true then tc σ g fun B j=>q y B j Q else Q (.bl false) g)
theorem WR(U:OpR X (compareOp op) r)(W:OpR X (compareOp q) r')(M:PE X a ta)(N:PE X b tb)(O:PE X c tc)(S:lastMarks [op,q] [b,c]=false:=by with_unfolding_all rfl):PE X (.Compare a [op,q] [b,c] pos) (pN r r' ta tb tc):=by
 intro pins s σ H Q I h
 refine Compare_chain (thn (M pins s σ H _ I h) fun v ab ⟨x,H1,G,r1,Y⟩=>chain_link (thn (N pins ab σ H1 _ G Y) fun u ae ⟨y,H2,J,D,Z⟩ =>
  thn (U pins ae σ H2 x y v u _ J r1 D Z) fun d af ⟨z,g,j,r3,k,e,B⟩=>?_)) S
 subst e;cases r3
 apply BE
 cases k with
 |false=>exact ite_ff ⟨.bl false,g,j,rfl,B⟩
 |true=>exact ite_tt (chain_last (thn (O pins af σ g _ j B) fun w' ag ⟨z',F,L,r4,q4⟩=>W pins ag σ F y z' u w' Q L D r4 q4))
theorem Wx(Z:OpR X (compareOp op) r)(ab:OpR X (compareOp q) r')(S:PE X a ta)(U:PE X b tb)(W:PE X c tc)(Y:lastMarks [op,q] [b,c]=false:=by with_unfolding_all rfl):PT X (.Compare a [op,q] [b,c] pos) (Qn (pN r r' ta tb tc)):=by
 intro pins s σ H Q I h
 refine isTrue_chain (thn (S pins s σ H _ I h) fun v ae ⟨x,H1,J,r1,q1⟩=>test_link (thn (U pins ae σ H1 _ J q1) fun u af ⟨y,H2,L,D,q2⟩ =>
  thn (Z pins af σ H2 x y v u _ L r1 D q2) fun d ag ⟨z,g,j,r3,k,e,B⟩=>?_)) Y
 subst e;cases r3
 apply BE
 cases k with
 |false =>
  obtain⟨k',O,q'⟩:=B;cases O;exact ite_ff ⟨g,j,q'⟩
 |true =>
  refine ite_tt (test_last (thn (W pins ag σ g _ j B) fun w' ah ⟨z',F,M,r4,q4⟩=>thn (ab pins ah σ F y z' u w' _ M D r4 q4) fun d' ai zq=>?_));obtain⟨z2,G,N,r5,k2,rfl,q5⟩:=zq;cases r5;exact BE ⟨G,N,q5⟩
def TruV(K:Dj)(x:V)(H:Hp)(k:Bool):Prop :=
 match x with
 |.non=>k=false
 |.bl b=>k=b
 |.int i=>k=(i != 0)
 |.str y=>y.length<=sizeLine/\k=((y.length:Int) != 0)
 |.byt y=>y.size<=sizeLine/\k=((y.size:Int) != 0)
 |.ref p=>(∃xs,SqL K H p xs/\k = !xs.isEmpty)\/(∃xs,SqT K H p xs/\k = !xs.isEmpty)\/∃kvs,H p=some (.dK kvs)/\k = !kvs.isEmpty
 |_=>False
theorem Zz(r:KV kvs vs):(!vs.isEmpty) = !kvs.isEmpty:=by
 cases r<;>rfl
theorem nC(r:Vals xs g):(!g.toArray.isEmpty) = !xs.isEmpty:=by
 cases r<;>simp
theorem uF:sizeLine < 2 ^ 63:=by decide
theorem tru_ok:TruR X (fun x H Q=>∃k,TruV X.K x H k/\Q k H):=by
 intro pins s σ H x v Q I j h;obtain⟨k,e,q⟩:=h;have N:=uF;have hs:=Bx
 cases x with
 |non =>
  cases j;have g:=e;subst g;exact truthy_none ⟨H,I,q⟩
 |bl b =>
  cases j;have g:=e;subst g;exact BE ⟨H,I,q⟩
 |int i =>
  obtain⟨t,rfl⟩:=j;have g:=e;subst g;exact PySem.P.truthy_int ⟨H,I,q⟩
 |str y =>
  obtain⟨t,rfl⟩:=j;obtain⟨L,rfl⟩:y.length<=sizeLine/\k=((y.length:Int) != 0):=e;exact PySem.P.truthy_str (by lia) ⟨H,I.tok _,q⟩
 |byt y =>
  obtain⟨t,rfl⟩:=j;obtain⟨L,rfl⟩:y.size<=sizeLine/\k=((y.size:Int) != 0):=e;exact PySem.W.truthy_bytes (by lia) ⟨H,I.tok _,q⟩
 |ref p =>
  cases j;have g:=e
  rcases g with ⟨xs,B,g⟩ | ⟨xs,B,g⟩ | ⟨kvs,B,g⟩
  .subst g
   obtain⟨M,r,D,G⟩:=I.list B;have F:=r.length;exact wpAny_truthy_list D.isList (by simp only[List.size_toArray];lia) ⟨H,I.tok _,by rwa [nC r]⟩
  .subst g
   obtain⟨M,r,D,G⟩:=I.tuple B;have F:=r.length;exact truthy_tuple D (by simp only[List.size_toArray];lia) ⟨H,I.tok _,by rwa [nC r]⟩
  .subst g
   obtain⟨G,J,vs,r,m⟩:kvs.length<=sizeLine/\(p==sysModules)=false/\∃vs,KV kvs vs/\s.heap.DictOf (qX X.prog X.w) p vs:=I.hok p _ B;have F:=Paired.length r;exact wpAny_truthy_dict J m (by lia) ⟨H,I.tok _,by rwa [Zz r]⟩
 |_=>exact e.elim
theorem Ww(q:PE X a ta)(B:∀g,isTrue a X.env g=(do let v <- g;standAt a.pos;holding [v] (truthy v))):
  PT X a (fun σ H Q=>ta σ H fun x H'=>∃k,TruV X.K x H' k/\Q k H'):=by
 intro pins s σ H Q I h;exact isTrue_plain (thn (q pins s σ H _ I h) fun v G ⟨x,H1,j,F,D⟩=>tru_ok pins G σ H1 x v Q j F D) (B _)
theorem Zb:OpR X (binaryOp .Add) (fun x y H Q=>∃i j,x=.str i/\y=.str j/\i.length+j.length<=sizeLine/\Q (.str (i++j)) H):=by
 intro pins s σ H x y v u Q I B D h;obtain⟨i,j,rfl,rfl,g,q⟩:=h;obtain⟨t,rfl⟩:=B;obtain⟨t',rfl⟩:=D;exact add_str (fun t' F=>⟨.str (i++j),H,I.tok _,⟨_,rfl⟩,q⟩) g
theorem fU(r:Vals [x] q):∃u,q=[u]/\RelV x u:=by
 cases r with
 |cons g j=>cases j;exact⟨_,rfl,g⟩
theorem Qh(r:Vals [x,y] F):∃u g,F=[u,g]/\RelV x u/\RelV y g:=by
 cases r with
 |cons j q =>
  cases q with
  |cons B D=>cases D;exact⟨_,_,rfl,j,B⟩
theorem GK:CallR X (.builtin "abs") (fun xs H Q=>∃i,xs=[.int i]/\Q (.int (if i < 0 then -i else i)) H):=by
 intro pins s σ H xs j Q I r h;obtain⟨i,rfl,q⟩:=h;obtain⟨u,rfl,t,rfl⟩:=fU r;exact call_abs_int fun u g=>⟨.int (if i < 0 then -i else i),H,I.tok _,⟨_,rfl⟩,q⟩
theorem VC(B:X.calm=true):CallR X (.builtin "max") (fun xs H Q=>∃i j,xs=[.int i,.int j]/\Q (.int (if j > i then j else i)) H):=by
 intro pins s σ H xs F Q I r h;obtain⟨i,j,rfl,q⟩:=h;obtain⟨u,G,rfl,⟨t,rfl⟩,⟨t',rfl⟩⟩:=Qh r;refine max_two_ints (I.ok.hd B) fun h' D k=>⟨_,H,I.kept k,?_,q⟩
 by_cases g:j > i
 .rw [Ac g,Ac g];exact⟨_,rfl⟩
 .rw [Ad g,Ad g];exact⟨_,rfl⟩
theorem jE(B:X.calm=true):CallR X (.builtin "min") (fun xs H Q=>∃i j,xs=[.int i,.int j]/\Q (.int (if j < i then j else i)) H):=by
 intro pins s σ H xs F Q I r h;obtain⟨i,j,rfl,q⟩:=h;obtain⟨u,G,rfl,⟨t,rfl⟩,⟨t',rfl⟩⟩:=Qh r;refine min_two_ints (I.ok.hd B) fun h' D k=>⟨_,H,I.kept k,?_,q⟩
 by_cases g:j < i
 .rw [Ac g,Ac g];exact⟨_,rfl⟩
 .rw [Ad g,Ad g];exact⟨_,rfl⟩
theorem fM:CallR X (.type "int") (fun xs H Q=>(∃i,xs=[.int i]/\Q (.int i) H)\/∃k,xs=[.bl k]/\Q (.int (if k then 1 else 0)) H):=by
 intro pins s σ H xs g Q I r h
 rcases h with ⟨i,rfl,q⟩ | ⟨k,rfl,q⟩
 .obtain ⟨u,rfl,t,rfl⟩:=fU r
  exact call_int_int ⟨.int i,H,I,⟨_,rfl⟩,q⟩
 .obtain ⟨u,rfl,rfl⟩:=fU r
  exact call_int_bool ⟨.int (if k then 1 else 0),H,I.tok _,⟨_,rfl⟩,q⟩
end
structure ObjM(h:Heap)(x dx C:Addr)(mA:Str->Option Value):Prop where
 obj:h.get? x=some (PySem.W.instObj C dx)
 ns:h.Ns1 dx mA
 ne:dx≠x
theorem Va{h:Heap}(n:h.Ns1 dx mA):∃g,h.get? dx=some g/\∀name,PySem.W.lookIn name g=some (mA name):=by
 refine el35 n fun o es ep I B D _ G=>⟨o,I,fun name=>?_⟩;have e:=G name;unfold nsFind findBy at e;rw[<- Array.find?_toList] at e
 delta PySem.W.lookIn
 rw[B];dsimp only
 split
 .grind
 .rename_i q
  rw[q] at e
  have a:es.toList.any (·.refKey)=false:=by
   rw[List.any_eq_false];intro y J;obtain⟨z,t,F⟩:=(D y (Array.mem_toList_iff.mp J))
   simp[DictEntry.refKey,F]
  have j :=a▸AS;exact(Ad j)▸Bi some e
theorem ObjM.look(I:ObjM h x dx C mA):∃g,PySem.W.InstAt h x (PySem.W.instObj C dx) C (some g)/\∀name,PySem.W.lookIn name g=some (mA name) :=
 let ⟨g,q,j⟩:=Va I.ns
 ⟨g,⟨I.obj,rfl,rfl,q⟩,j⟩
section
variable {prog:Program}{w:World}{A:Around}{E:Value->Shared->Prop}{s:Shared}{K:Dj}{x dx C f:Addr}{mA:Str->Option Value}{name:Str}{v:Value}
theorem get_map(X:K.In s.heap)(I:ObjM s.heap x dx C mA)(j:PySem.W.plainGet K C name=true)(q:PySem.W.hasDictIn K C=true)(g:PySem.W.findIn K (.ref C) name=some none)(G:mA name=some v)(B:PySem.W.handedIn v=true)(h:Q v { s with toks:=s.toks+1 }):
  wpAny (model prog w) A (getAttr (.ref x) name D) Q E s :=oQ I.look fun L J F=>PySem.W.get_value X J (PySem.W.plainGet_of j).1 (PySem.W.findObj_own q g rfl (by grind)) B h
theorem YN(X:K.In s.heap)(I:ObjM s.heap x dx C mA)(g:PySem.W.plainGet K C name=true)(j:PySem.W.findIn K (.ref C) name=some (some (.ref f)))(B:PySem.W.isFn K (.ref f)=true)(D:mA name=none)(h:Q (.ref f,[.ref x]) s):
  wpAny (model prog w) A (getMethod (.ref x) name G) Q E s :=oQ I.look fun F J q=>PySem.W.method_fn X J (PySem.W.plainGet_of g).1 (PySem.W.plainGet_of g).2 j (beq_iff_eq.mp B) (by show(PySem.W.lookIn name F).map (·.isSome)=some false;rw[q,D];rfl) h
theorem set_map(X:K.In s.heap)(I:ObjM s.heap x dx C mA)(hs:PySem.W.findIn K (.ref C) "__setattr__" = some (some (.builtin "object.__setattr__")))(M:PySem.W.plainOver K C=true)(N:PySem.W.takerIn K C name=some none)(G:PySem.W.hasDictIn K C=true)(O:PySem.Within mA ns)(hsz:ns.length<=sizeLine)(h:∀h',ObjM h' x dx C (fun y=>if y=name then some v else mA y)->Heap.SameBut dx s.heap h'->Q () { s with heap:=h',toks:=s.toks+2 }):
  wpAny (model prog w) A (setAttr (.ref x) name v) Q E s:=by
 refine oQ I.look fun od J Y=>PySem.W.set_plain X J hs (PySem.W.osa_open X J M N fun b=>oQ (PySem.W.any_some G) fun S q D=>AA (AF (AA (AA (wpAny_loadPart I.obj (AA (PySem.W.Looks.here (PySem.W.looks_clsIn X q) ?_)))))));rw[D];exact AF (AA (AF (AA (wpAny_nsSet1 I.ns fun h' g j=>Xn (g.count (PySem.Within.cons name v O)) fun Z W U L F B=>AA (wpAny_lookBehind L (F▸pastItsLine_dict (Ah B (by grind))) (AF (h _ ⟨(j.2 _ (Ne.symm I.ne)).trans I.obj,g,I.ne⟩ j)))))))
theorem Yg(X:K.In s.heap)(B:PySem.W.makesIn K C=true)(hi:PySem.W.findIn K (.ref C) "__init__" = some (some (.ref f)))(q:PySem.W.typeIn K (.ref f)=some (.type "function"))(h:codeAny (model prog w) (A.under (.builtin "type.__call__" ⟨.ref C::vs,j⟩)) (.call (.ref f) ⟨.ref (s.heap.objs.size+1)::vs,j⟩) (PySem.W.InitBack (s.heap.objs.size+1) R)
   { s with heap:=(s.heap.push PySem.W.emptyDict).push (PySem.W.instObj C s.heap.objs.size) }):
  codeAny (model prog w) A (.call (.ref C) ⟨vs,j⟩) R s:=by
 obtain⟨F,g,d,t,G⟩:=s;exact PySem.W.make_core (PySem.W.makes_of X B) (PySem.W.looks_findIn X hi) (fun D=>PySem.W.bind_fn X D q) (.inl rfl) h
end
noncomputable def dU(f:Str)(v:V):List (Str×V)->List (Str×V)
 |[]=>[(f,v)]
 | (g,x)::r=>if g=f then (g,v)::r else (g,x)::dU f v r
theorem oP f g v:∀fs,(dU f v fs).lookup g=if g=f then some v else fs.lookup g
 |[]=>by
  show List.lookup g [(f,v)]=_
  by_cases h:g=f
  .grind
  .grind
 | (k,x)::r=>by
  rw[show dU f v ((k,x)::r)=(if k=f then (k,v)::r else (k,x)::dU f v r) from rfl]
  by_cases q:k=f
  .grind
  .rw [Ad q]
   by_cases h:g=k
   .grind
   .have j:=beq_eq_false_iff_ne.mpr h
    simp only[List.lookup,j]
    exact(oP f g v r)
theorem tL f v:∀fs,f∈(dU f v fs).map (·.1)/\∀g,g∈fs.map (·.1)->g∈(dU f v fs).map (·.1)
 |[]=>⟨by simp[dU],fun g h=>by simp at h⟩
 | (k,x)::r=>by
  obtain⟨q,B⟩:=tL f v r;rw[show dU f v ((k,x)::r)=(if k=f then (k,v)::r else (k,x)::dU f v r) from rfl]
  by_cases j:k=f
  .grind
  .grind
theorem eP f v:∀fs,(dU f v fs).length<=fs.length+1
 |[]=>by simp[dU]
 | (k,x)::r=>by
  have j:=eP f v r;rw[show dU f v ((k,x)::r)=(if k=f then (k,v)::r else (k,x)::dU f v r) from rfl]
  by_cases g:k=f
  .grind
  .grind
theorem RelO.some_of(r:RelO (some v) o):∃u,o=some u/\RelV v u:=by
 cases o with
 |none=>exact r.elim
 |some u=>exact⟨u,rfl,r⟩
theorem RelO.none_of(r:RelO none o):o=none:=by
 cases o with
 |none=>rfl
 |some u=>exact r.elim
theorem Vp(r:RelV v u):PySem.W.handedIn u=true:=by
 cases v with
 |non=>cases r;rfl
 |bl b=>cases r;rfl
 |int i=>obtain⟨t,rfl⟩:=r;rfl
 |str x=>obtain⟨t,rfl⟩:=r;rfl
 |byt b=>obtain⟨t,rfl⟩:=r;rfl
 |flt b=>obtain⟨t,rfl⟩:=r;rfl
 |ref a=>cases r;rfl
 |ty n=>cases r;rfl
section
variable {P:Program}{w:World}{H H':Hp}{h h':Heap}{a C dx:Addr}{fs fs':List (Str×V)}
theorem fH(g:HOk P w H h)(e:H a=some (.ins C dx fs)):∃mA,ObjM h a dx C mA/\(∀f,RelO (fs.lookup f) (mA f))/\PySem.Within mA (fs.map (·.1))/\fs.length<=1000/\H dx=some (.own a):=by
 obtain⟨d,z,j,B,mA,n,r,q⟩:=(g a _ e);exact⟨mA,⟨B,n,j⟩,r,q,z,d⟩
end
structure Cls(K:Dj)(C:Addr):Prop where
 pg:PySem.W.plainGet K C Str.empty=true
 hd:PySem.W.hasDictIn K C=true
 po:PySem.W.plainOver K C=true
 sa:PySem.W.findIn K (.ref C) "__setattr__" = some (some (.builtin "object.__setattr__"))
theorem Cls.get{K}(c:Cls K C)f:PySem.W.plainGet K C f=true:=c.pg
def NoAttr(K:Dj)(C:Addr)(f:Str):Prop:=PySem.W.findIn K (.ref C) f=some none
theorem NoAttr.taker{K}(n:NoAttr K C f):PySem.W.takerIn K C f=some none:=by
 delta PySem.W.takerIn
 rw[show PySem.W.findIn K (.ref C) f=some none from n]
 rfl
structure GX(K:Dj)(C:Addr)(m:Str)(f:Addr):Prop where
 at_:PySem.W.findIn K (.ref C) m=some (some (.ref f))
 fn:PySem.W.isFn K (.ref f)=true
 kp:PySem.W.keepIn K (.ref f)=true
section
variable {X:Cx}{pins:List (Addr×Obj)}{σ:St}{H:Hp}{s:Shared}{a C dx:Addr}{fs:List (Str×V)}{f:Str}{v:V}{A:Around}{E:Value->Shared->Prop}
theorem ZD(I:Inv X pins σ H s)(e:H a=some (.ins C dx fs))(c:Cls X.K C)(n:NoAttr X.K C f)(l:fs.lookup f=some v)(h:∀u s',Inv X pins σ H s'->RelV v u->Q u s'):wpAny (model X.prog X.w) A (getAttr (.ref a) f b) Q E s :=eA (fH I.hok e) fun mA O r _ _ _=>oQ (RelO.some_of (l▸r f)) fun u j g=>get_map I.kIn O (c.get f) c.hd n j (Vp g) (h u _ (I.tok _) g)
theorem sC(I:Inv X pins σ H s)(e:H a=some (.ins C dx fs))(c:Cls X.K C)(k:GX X.K C m g)(l:fs.lookup m=none)(h:Q (.ref g,[.ref a]) s):wpAny (model X.prog X.w) A (getMethod (.ref a) m j) Q E s :=eA (fH I.hok e) fun mA O r _ _ _=>YN I.kIn O (c.get m) k.at_ k.fn (RelO.none_of (l▸r m)) h
theorem X3(I:Inv X pins σ H s)(e:H a=some (.ins C dx fs))(c:Cls X.K C)(n:NoAttr X.K C f)(S:fs.length < 1000)(U:RelV y u)(h:∀s',Inv X pins σ (upd H a (.ins C dx (dU f y fs))) s'->Q () s'):wpAny (model X.prog X.w) A (setAttr (.ref a) f u) Q E s:=by
 refine eA (fH I.hok e) fun mA O r D _ B=>?_;have M:(fs.map (·.1)).length<=sizeLine:=by rw[AB,Bx];lia
 refine set_map I.kIn O c.sa c.po n.taker c.hd D M fun h' j N=>h _ ?_;have J:∃o,h'.get? dx=some o:=let ⟨o,_,_,F,_⟩:=j.ns;⟨o,F⟩
 refine I.write (e▸True.intro) (.inr B) (fun b q G z=>(N.2 b G).trans z) J ⟨by rw[mQ O.ne];exact B,?_,O.ne,j.obj,_,j.ns,fun g=>?_,fun g L=>?_⟩
 .have:=eP f y fs;lia
 .rw [oP]
  by_cases q:g=f
  .rwa [Ac q,Ac q]
  .grind
 .by_cases q:g=f
  .exact q▸(tL f y fs).1
  .refine (tL f y fs).2 g (D g fun z=>L ?_)
   show(if g=f then some u else mA g)=none
   rwa [Ad q]
theorem Inv.made(I:Inv X pins σ H s):Inv X pins σ (upd (upd H s.heap.objs.size (.own (s.heap.objs.size+1))) (s.heap.objs.size+1) (.ins C s.heap.objs.size []))
  { s with heap:=(s.heap.push PySem.W.emptyDict).push (PySem.W.instObj C s.heap.objs.size) }:=by
 have g:(s.heap.push PySem.W.emptyDict).get? s.heap.objs.size=some PySem.W.emptyDict:=AM s.heap rfl
 have D:((s.heap.push PySem.W.emptyDict).push (PySem.W.instObj C s.heap.objs.size)).get? (s.heap.objs.size+1)=some (PySem.W.instObj C s.heap.objs.size):=by
  have:=AM (s.heap.push PySem.W.emptyDict) (o:=PySem.W.instObj C s.heap.objs.size) rfl
  rwa [Bp] at this
 have B:=I.laid (o:=.own (s.heap.objs.size+1)) (h':=s.heap.push PySem.W.emptyDict) (t':=s.toks) (fun b u q=>AC _ q) (AJ _) ⟨_,g⟩;refine B.laid (t':=s.toks) (fun b u q=>AC _ q) (B6 (Bp _ _)) ?_;have j:s.heap.objs.size≠s.heap.objs.size+1:=AZ (Bm _);refine⟨by rw[mQ j,bQ],Ab _,j,D,fun _=>none,(Heap.Ns1.of_empty (⟨PySem.W.emptyDict,#[],_,g,rfl,(fun e F=>absurd F (by simp)),fun _=>rfl⟩)).at fun o q=>AC _ q,fun _=>True.intro,fun y G=>absurd rfl G⟩
theorem attr_of(j:attributeBase e f g (eval e g)=eval e g)(h:wpAny (model prog w) A (eval e g) (fun o q=>wpAny (model prog w) A (getAttr o f true) Q E q) E s):wpAny (model prog w) A (eval (.Attribute e f pos) g) Q E s :=
 Attribute_any_ h (by rw[arm_eval_Attribute,j])
end
def tFld(K:Dj)(ta:TE)(f:Str):TE:=fun σ H Q=>ta σ H fun x H1=>∃a C dx fs v,x=.ref a/\H1 a=some (.ins C dx fs)/\Cls K C/\NoAttr K C f/\fs.lookup f=some v/\Q v H1
def sFld(K:Dj)(ta tv:TE)(f:Str):TS:=fun D σ H=>tv σ H fun y H1=>ta σ H1 fun x H2=>∃a C dx fs,x=.ref a/\H2 a=some (.ins C dx fs)/\Cls K C/\NoAttr K C f/\fs.length < 1000 /\
 D.nx σ (upd H2 a (.ins C dx (dU f y fs)))
section
variable {X:Cx}{o e value:Expr}{f:Str}{pos pos' tpos:Pos}{ta tv:TE}
theorem pe_fld(F:PE X e ta)(D:attributeBase e f X.env (eval e X.env)=eval e X.env):PE X (.Attribute e f pos) (tFld X.K ta f):=by
 intro pins s σ H Q I h;refine attr_of D (thn (F pins s σ H _ I h) fun u M L=>?_);obtain⟨x,H1,g,J,a,C,dx,fs,v,rfl,B,c,n,l,q⟩:=L;obtain rfl:u=Value.ref a:=J;exact ZD g B c n l fun O N j G=>⟨v,H1,j,G,q⟩
theorem ps_fld(G:PE X o ta)(J:PE X value tv)(hs:swapsWith value (some (.Attribute o f pos')) pos.line X.env=pure false):PS X (.Assign [.Attribute o f pos'] value pos) (sFld X.K ta tv f):=by
 intro pins s σ H D I h;refine plainObj_wpAny_Assign_Attribute (thn (J pins s σ H _ I h) fun u S ⟨y,H1,g,O,q⟩=>thn (G pins S σ H1 _ g q) fun L W U=>?_) hs;obtain⟨x,H2,j,N,a,C,dx,fs,rfl,F,c,n,l,M⟩:=U;obtain rfl:L=Value.ref a:=N;exact X3 j F c n l O fun Y B=>⟨σ,_,B,M⟩
end
section
variable {X:Cx}{pins:List (Addr×Obj)}{σ:St}{H:Hp}{s:Shared}{A:Around}{E:Value->Shared->Prop}{Q:Value->Shared->Prop}{c:Value}{b:Bool}
inductive bP(K:Dj)(H:Hp):V->Value->Prop where
 |non:bP K H .non (.type "NoneType")
 |bl (x:Bool):bP K H (.bl x) (.type "bool")
 |int (i:Int):bP K H (.int i) (.type "int")
 |str (x:Str):bP K H (.str x) (.type "str")
 |flt (x:UInt64):bP K H (.flt x) (.type "float")
 |lst {a:Addr} {xs:List V} (e:H a=some (.lst xs)):bP K H (.ref a) (.type "list")
 |frz {a:Addr} {o:Obj} {xs:List V} (e:H a=some (.frz o (.lst xs))):bP K H (.ref a) (.type "list")
 |tup {a:Addr} {xs:List V} (e:H a=some (.tup xs)):bP K H (.ref a) (.type "tuple")
 |dK {a:Addr} {kvs:List (Key×V)} (e:H a=some (.dK kvs)):bP K H (.ref a) (.type "dict")
 |dT {a:Addr} {kvs:List (List Key×V)} (e:H a=some (.dT kvs)):bP K H (.ref a) (.type "dict")
 |ins {a C dx:Addr} {fs:List (Str×V)} (e:H a=some (.ins C dx fs)) (cl:Cls K C) (ha:PySem.W.findIn K (.ref C) "__class__" = some (some (.builtin "object.__class__")))
   (hn:PySem.W.specialIn K (.builtin "object.__class__") "__get__" = some (some (.builtin "getset_descriptor.__get__"))) (htk:PySem.W.takesIn K (.builtin "object.__class__")=some true)
   (hm:PySem.W.mroIn K C (.type "object")=some true):bP K H (.ref a) (.ref C)
theorem Vg(I:Inv X pins σ H s)(j:RelV x u)(ty:bP X.K H x t)(e:PySem.W.kitOne X.K t c=some b)(h:∀L,Q (.bool b) { s with toks:=L }):
  wpAny (model X.prog X.w) A (call (.builtin "isinstance") [u,c]) Q E s:=by
 cases ty with
 |non=>cases j;exact BH PySem.W.kitx_none I.kIn True.intro e (fun z=>nomatch z) h
 |bl y=>cases j;exact BH PySem.W.kitx_bool I.kIn True.intro e (fun z=>nomatch z) h
 |int i=>obtain⟨t,rfl⟩:=j;exact BH PySem.W.kitx_int I.kIn True.intro e (fun z=>nomatch z) h
 |str y=>obtain⟨t,rfl⟩:=j;exact BH PySem.W.kitx_str I.kIn True.intro e (fun z=>nomatch z) h
 |flt y=>obtain⟨t,rfl⟩:=j;exact BH PySem.W.kitx_float I.kIn True.intro e (fun z=>nomatch z) h
 |@lst a xs g =>
  cases j;obtain⟨_,_,n,_,h1⟩:=(I.hok a _ g);exact BH PySem.W.kitx_list I.kIn ⟨_,h1,rfl⟩ e (fun z=>nomatch z) h
 |@frz a M xs g =>
  cases j;obtain⟨_,_,_,n,_,h1⟩:=(I.hok a _ g);exact BH PySem.W.kitx_list I.kIn ⟨_,h1,rfl⟩ e (fun z=>nomatch z) h
 |@tup a xs g =>
  cases j;obtain⟨_,_,_,p⟩:=(I.hok a _ g);exact jZ p fun o h1 h2 _=>BH PySem.W.kitx_tuple I.kIn ⟨o,h1,h2⟩ e (fun z=>nomatch z) h
 |@dK a kvs g =>
  cases j;obtain⟨_,_,vs,_,p⟩:=(I.hok a _ g);exact Xn p fun o es ep h1 h2 _=>BH PySem.W.kitx_dict I.kIn ⟨o,h1,h2.1⟩ e (fun z=>nomatch z) h
 |@dT a kvs g =>
  cases j;obtain⟨_,_,xs,_,o,es,ep,h1,h2,_⟩:=(I.hok a _ g);exact BH PySem.W.kitx_dict I.kIn ⟨o,h1,h2.1⟩ e (fun z=>nomatch z) h
 |@ins a C dx fs g q B F G D =>
  cases j;obtain⟨mA,O,_⟩:=(fH I.hok g);obtain⟨N,J,_⟩:=O.look;exact BH (PySem.W.kitx_own (q.get _) q.hd B F G D) I.kIn J e (fun z=>nomatch z) h
end
structure Room(k:Nat)(A:Around):Prop where
 hd:A.handled=none
 dp:A.depth+3 * k+5 < recursionLimit
 un:A.units+16 * k+200 < cLine
theorem Room.mono(r:Room k A)(h:j<=k):Room j A:=⟨r.hd,by have:=r.dp;lia,by have:=r.un;lia⟩
theorem Room.deeper(r:Room (k+1) A)g:Room k (A.deeper g) :=
 ⟨r.hd,by have:=r.dp;show A.depth+1+3 * k+5 < _;lia,by have:=r.un;show A.units+3+16 * k+200 < _;lia⟩
theorem Zl{A:Around}: (A.under (.builtin "type.__call__" ⟨.ref C::j,g⟩)).depth=A.depth+1:=by
 first | rfl | simp[ Code.weight]
theorem Zk{A:Around}: (A.under (.builtin "type.__call__" ⟨.ref C::j,g⟩)).units=A.units+1:=by
 first | rfl | simp[ Code.cUnits]
theorem Room.make(r:Room (k+1) A)C j g:Room k (A.under (.builtin "type.__call__" ⟨.ref C::j,g⟩)) :=
 ⟨r.hd,by have:=r.dp;rw[Zl];lia,by have:=r.un;rw[Zk];lia⟩
theorem Room.depth(r:Room k A):A.depth < recursionLimit:=by have:=r.dp;lia
theorem Room.units(r:Room k A):A.units+64 < cLine:=by have:=r.un;lia
def tNil:TA:=fun _ H Q=>Q [] H
def V6(ta:TE)(g:TA):TA:=fun σ H Q=>ta σ H fun x H1=>g σ H1 fun xs H2=>Q (x::xs) H2
section
variable {X:Cx}{e:Expr}{es:List Expr}{te:TE}{t:TA}{pos:Pos}
theorem pa_nil:PA X [] tNil:=fun _ _ _ _ H Q I h=>Calls.spliced_nil ⟨[],H,I,.nil,h⟩
theorem pa_cons(q:PE X e te)(B:PA X es t)(hs:starEach (e::es) X.env=(false,eval e X.env)::starEach es X.env:=by rfl):PA X (e::es) (V6 te t):=by
 intro pos pins s σ H Q I h;exact hs▸Calls.spliced_cons (thn (q pins s σ H _ I h) fun u L ⟨x,H1,g,G,D⟩=>thn (B pos pins L σ H1 _ g D) fun N M ⟨xs,H2,j,J,F⟩=>⟨x::xs,H2,j,.cons G J,F⟩)
inductive INew(o:List V->HO)(Q:VK)(xs:List V)(H:Hp):Prop
 |mk(h:xs.length<=sizeLine)(q:∀p,H p=none->Q (.ref p) (upd H p (o xs))):INew o Q xs H
def tTup(t:TA):TE:=fun σ H Q=>t σ H (INew .tup Q)
def tLst(t:TA):TE:=fun σ H Q=>t σ H (INew .lst Q)
theorem pe_tup{F}(h:PA X es t):PE X (.Tuple es F pos) (tTup t):=by
 intro pins s σ H Q I B;refine wpAny_Tuple_spliced (thn (h pos pins s σ H _ I B) fun D g ⟨xs,H1,j,r,z,q⟩=>⟨by exact r.length▸z,?_⟩);refine⟨.ref g.heap.objs.size,upd H1 g.heap.objs.size (.tup xs),j.laid (t':=g.toks) (fun b u e=>AC _ e) (AJ _) ?_,rfl,q _ (j.hok.fresh (AJ _))⟩;exact⟨z,D,r,⟨_,AM _ rfl,rfl,⟨_,rfl⟩,rfl⟩⟩
theorem pe_lst(h:PA X es t):PE X (.List es pos) (tLst t):=by
 intro pins s σ H Q I B;refine wpAny_List_spliced (thn (h pos pins s σ H _ I B) fun D g ⟨xs,H1,j,r,z,q⟩=>⟨by exact r.length▸z,?_⟩);refine⟨.ref g.heap.objs.size,upd H1 g.heap.objs.size (.lst xs),j.laid (t':=g.toks) (fun b u e=>AC _ e) (AJ _) ?_,rfl,q _ (j.hok.fresh (AJ _))⟩;exact⟨z,D,0,r,AM _ rfl⟩
end
abbrev Sp:=List V->Hp->VK->XK->Prop
abbrev CXT:=List Env->Hp->Shared->XK->Value->Shared->Prop
structure Env0(P:Program)(w:World)(K:Dj)(mg:Str->Option Value)(base:Heap)(A:Around)(outer:List Env)(s:Shared)(H:Hp):Prop where
 frames:A.frames=some outer
 mod:Mod K mg base
 bs:∀b o,base.get? b=some o->s.heap.get? b=some o/\H b=none
 bsz:base.objs.size<=s.heap.objs.size
 funs:s.heap.FunFrames base outer
 frf:∀b∈frs outer,H b=none
 hok:HOk P w H s.heap
 bare:AllBare s.gens
def CE(g:List Env)(P:Program)(w:World)(H:Hp)(s:Shared)(Q:VK)(u:Value)(s':Shared):Prop :=
 ∃v H',s'.os=s.os/\AllBare s'.gens/\Un (frs g) [] H H' s.heap s'.heap/\HOk P w H' s'.heap/\RelV v u/\Q v H'
def CR(CX:CXT)(g:List Env)(P:Program)(w:World)(H:Hp)(s:Shared)(Q:VK)(E:XK)(r:Result)(s':Shared):Prop :=
 match r with
 |.ok (.ret u)=>CE g P w H s Q u s'
 |.ok _=>False
 |.error e=>CX g H s E e s'
structure FnOk(P:Program)(w:World)(K:Dj)(mg:Str->Option Value)(base:Heap)(CX:CXT)(k:Nat)(f:Addr)(fd:FuncData)(ps:List Str)(sp:Sp):Prop where
 len:∀vs H Q E,sp vs H Q E->vs.length=ps.length
 run:∀(A:Around)(outer:List Env)(s:Shared)(H:Hp)(args:Args)(us:List Value)(vs:List V)(Q:VK)(E:XK),Room k A->Env0 P w K mg base A outer s H->BindsTo s fd args (ps.zip us)->Vals vs us->sp vs H Q E ->
  codeAny (model P w) A (.call (.ref f) args) (CR CX outer P w H s Q E) s
theorem FnOk.mono{K}(F:FnOk P w K mg base CX j f fd ps sp)(h:j<=k):
  FnOk P w K mg base CX k f fd ps sp:=⟨F.len,fun A B s H g D vs Q E q=>F.run A B s H g D vs Q E (q.mono h)⟩
theorem Env0.make{K}(e:Env0 P w K mg base A j s H)C q g:
  Env0 P w K mg base (A.under (.builtin "type.__call__" ⟨.ref C::q,g⟩)) j s H:=⟨by first | exact e.frames | (simpa [Around.under,Code.envs,Code.isFrame,pushEnvs] using e.frames),e.mod,e.bs,e.bsz,e.funs,e.frf,e.hok,e.bare⟩
section
variable {X:Cx}{pins:List (Addr×Obj)}{σ:St}{H:Hp}{s s':Shared}
theorem Inv.env0(I:Inv X pins σ H s):Env0 X.prog X.w X.K X.mg X.base X.A X.stack s H :=
 ⟨I.ok.frames,I.ok.mod,I.bs,Ah I.ok.bsz I.sz,I.stack,I.stkFree,I.hok,I.bare⟩
theorem Inv.after(I:Inv X pins σ H s)(h:CE X.stack X.prog X.w H s Q u s'):EP X pins σ Q u s':=by
 refine el26 h fun v H' F j J D r q=>?_;obtain⟨B,g,d,t,G⟩:=s';obtain rfl:G=s.os:=F;exact⟨v,H',I.call (h':=B) (g':=g) (d':=d) (t':=t) J D j (fun b z=>absurd z (by simp)),r,q⟩
end
def V8(sp:Sp)(dvs:List V)(E:XK)(t:TA):TE:=fun σ H Q=>t σ H fun vs H1=>sp (vs++dvs) H1 Q E
def tMeth(C:Addr)(m:Str)(sp:Sp)(dvs:List V)(E:XK)(ta:TE)(t:TA):TE:=fun σ H Q=>ta σ H fun x H1=>∃a dx fs,x=.ref a/\H1 a=some (.ins C dx fs)/\fs.lookup m=none /\
 t σ H1 fun vs H2=>sp (x::(vs++dvs)) H2 Q E
def tMake(C:Addr)(sp:Sp)(dvs:List V)(E:XK)(t:TA):TE:=fun σ H Q=>t σ H fun vs H1=>∀x dx,H1 x=none->H1 dx=none->dx≠x ->
 sp (.ref x::(vs++dvs)) (upd (upd H1 dx (.own x)) x (.ins C dx [])) (fun v H2=>v=.non/\Q (.ref x) H2) E
def Binds(K:Dj)(fd:FuncData)(ps:List Str)(ds:List Value):Prop :=
 ∀(s:Shared)(g:List Value),K.In s.heap->(g++ds).length=ps.length->BindsTo s fd ⟨g,[]⟩ (ps.zip (g++ds))
theorem Binds.all{K}(h:∀g:List Value,g.length=ps.length->bindArgs fd ⟨g,[]⟩=pure (ps.zip g)):Binds K fd ps []:=fun s g _ j=>by
 rw[Aj] at j ⊢;exact .of_eq (h g j)
def aV(CX:CXT)(X:Cx)(E:XK):Prop:=∀(pins:List (Addr×Obj))(σ:St)(H:Hp)(s:Shared)(e:Value)(s':Shared),Inv X pins σ H s->CX X.stack H s E e s'->X.xe e s'
section
variable {X:Cx}{CX:CXT}{k:Nat}{f C:Addr}{fd:FuncData}{ps:List Str}{sp:Sp}{dvs:List V}{ds:List Value}{E:XK}{x m:Str}{p pos apos:Pos}{e o:Expr}{es:List Expr}{ta:TE}{t:TA}
theorem X4{σ:St}(F:FnOk X.prog X.w X.K X.mg X.base CX k f fd ps sp)(L:Room k X.A)(D:Binds X.K fd ps ds)(G:Vals dvs ds)(M:aV CX X E)(I:Inv X pins σ H s)(r:Vals vs j)(h:sp (vs++dvs) H Q E):wpAny (model X.prog X.w) X.A (call (.ref f) j) (EP X pins σ Q) X.xe s:=by
 have q:=r.append G;have J :=q.length▸F.len _ _ _ _ h;refine wpAny_call (DM (F.run X.A X.stack s H ⟨j,[]⟩ (j++ds) (vs++dvs) Q E L I.env0 (D s j I.kIn J) q h) fun r s' g=>?_)
 cases r with
 |error e=>exact M pins σ H s e s' I g
 |ok B =>
  cases B with
  |ret u=>exact I.after g
  |next=>exact False.elim g
  |brk=>exact False.elim g
  |cont=>exact False.elim g
theorem pe_call(F:FnOk X.prog X.w X.K X.mg X.base CX k f fd ps sp)(S:Room k X.A)(L:Gl X x)(N:X.mg x=some (.ref f))(M:PySem.W.keepIn X.K (.ref f)=true)(B:Binds X.K fd ps ds)(D:Vals dvs ds)(U:aV CX X E)(j:PA X (e::es) t)(G:(x==("__debug__" : Str))=false:=by decide)(J:starEach (e::es) X.env=(false,eval e X.env)::starEach es X.env:=by rfl)(O:(backTo pos (starEach es X.env)).any (·.1)=false:=by rfl):
  PE X (.Call (.Name x p) (e::es) [] pos) (V8 sp dvs E t):=by
 intro pins s σ H Q I h;exact Cr (bA I L N (PySem.W.callWith_K I.ok.mod.kin M (thn (j pos pins s σ H _ I h) fun Y W ⟨vs,H1,g,r,q⟩=>⟨g.kIn,X4 F S B D U g r q⟩) J O) G)
theorem pe_meth{Z}(N:PE X o ta)(c:Cls X.K C)(B:GX X.K C m f)(F:FnOk X.prog X.w X.K X.mg X.base CX k f fd ps sp)(S:Room k X.A)(L:Binds X.K fd ps ds)(M:Vals dvs ds)(Y:aV CX X E)(J:PA X (e::es) t)(U:starEach (e::es) X.env=(false,eval e X.env)::starEach es X.env:=by rfl)(O:(backTo pos (starEach es X.env)).any (·.1)=false:=by rfl)(W:eval (.Call (.Attribute o m apos) (e::es) [] pos) X.env=(do
   let D <- eval o X.env
   standAt apos.atName
   let (f,first) <- holding [D] (getMethod D m Z)
   callWith pos f first (backTo pos (starEach (e::es) X.env)) (backToKw pos (keywordEach [] X.env))):=by rfl):
  PE X (.Call (.Attribute o m apos) (e::es) [] pos) (tMeth C m sp dvs E ta t):=by
 intro pins s σ H Q I h;refine PySem.W.methodCall_KW (thn (N pins s σ H _ I h) fun u ab zq=>?_) W;obtain⟨x,H1,g,rx,a,dx,fs,rfl,G,l,q⟩:=zq;obtain rfl:u=Value.ref a:=rx;exact sC g G c B l (PySem.W.callWith_K I.ok.mod.kin B.kp (thn (J pos pins ab σ H1 _ g q) fun af ae ⟨vs,H2,j,r,q2⟩=>⟨j.kIn,X4 (vs:=.ref a::vs) F S L M Y j (.cons rfl r) q2⟩) U O)
theorem WK(L:PE X o ta)(c:Cls X.K C)(j:GX X.K C m f)(F:FnOk X.prog X.w X.K X.mg X.base CX k f fd ps sp)(M:Room k X.A)(G:Binds X.K fd ps ds)(J:Vals dvs ds)(O:aV CX X E)(N:eval (.Call (.Attribute o m apos) [] [] pos) X.env=(do
   let B <- eval o X.env
   standAt apos.atName
   let (f,first) <- holding [B] (getMethod B m W)
   callWith pos f first (backTo pos (starEach [] X.env)) (backToKw pos (keywordEach [] X.env))):=by rfl):
  PE X (.Call (.Attribute o m apos) [] [] pos) (tMeth C m sp dvs E ta tNil):=by
 intro pins s σ H Q I h;refine PySem.W.methodCall_KW (thn (L pins s σ H _ I h) fun u Y U=>?_) N;obtain⟨x,H1,g,S,a,dx,fs,rfl,D,l,q⟩:=U;obtain rfl:u=Value.ref a:=S;exact sC g D c j l (PySem.W.callWith_K0 g.kIn j.kp (X4 (vs:=[.ref a]) F M G J O g (.cons rfl .nil) q))
structure Mk(K:Dj)(C f:Addr):Prop where
 makes:PySem.W.makesIn K C=true
 init:PySem.W.findIn K (.ref C) "__init__" = some (some (.ref f))
 fn:PySem.W.isFn K (.ref f)=true
 kp:PySem.W.keepIn K (.ref C)=true
theorem We{σ:St}(M:Mk X.K C f)(F:FnOk X.prog X.w X.K X.mg X.base CX k f fd ps sp)(S:Room (k+1) X.A)(L:Binds X.K fd ps ds)(N:Vals dvs ds)(U:aV CX X E)(I:Inv X pins σ H s)(r:Vals vs g)(h:∀x dx,H x=none->H dx=none->dx≠x->sp (.ref x::(vs++dvs)) (upd (upd H dx (.own x)) x (.ins C dx [])) (fun v H2=>v=.non/\Q (.ref x) H2) E):
  wpAny (model X.prog X.w) X.A (call (.ref C) g) (EP X pins σ Q) X.xe s:=by
 have B:=h (s.heap.objs.size+1) s.heap.objs.size (I.hok.fresh (B0 _)) (I.hok.fresh (AJ _)) (AZ (Bm _));have q:=Inv.made (C:=C) I;have D:Vals (V.ref (s.heap.objs.size+1)::(vs++dvs)) (Value.ref (s.heap.objs.size+1)::(g++ds)):=.cons rfl (r.append N)
 have O:(Value.ref (s.heap.objs.size+1)::g++ds).length=ps.length:=by
  have e:=D.length;rw[F.len _ _ _ _ B] at e;exact e.symm
 refine wpAny_call (Yg I.kIn M.makes M.init (beq_iff_eq.mp M.fn) (DM (F.run _ X.stack _ _ ⟨Value.ref (s.heap.objs.size+1)::g,[]⟩ (Value.ref (s.heap.objs.size+1)::(g++ds)) _ _ E (S.make C g [])
  (q.env0.make C g []) (L _ (Value.ref (s.heap.objs.size+1)::g) q.kIn O) D B) fun r s' j=>?_))
 cases r with
 |error e=>exact U pins σ _ _ e s' q j
 |ok J =>
  cases J with
  |ret u =>
   obtain⟨v,H',G,Y,rfl,W⟩:=q.after j;exact⟨Y,⟨V.ref (s.heap.objs.size+1),H',G,rfl,W⟩⟩
  |next=>exact False.elim j
  |brk=>exact False.elim j
  |cont=>exact False.elim j
theorem pe_make(M:Mk X.K C f)(F:FnOk X.prog X.w X.K X.mg X.base CX k f fd ps sp)(S:Room (k+1) X.A)(L:Gl X x)(N:X.mg x=some (.ref C))(B:Binds X.K fd ps ds)(D:Vals dvs ds)(U:aV CX X E)(j:PA X (e::es) t)(G:(x==("__debug__" : Str))=false:=by decide)(J:starEach (e::es) X.env=(false,eval e X.env)::starEach es X.env:=by rfl)(O:(backTo pos (starEach es X.env)).any (·.1)=false:=by rfl):
  PE X (.Call (.Name x p) (e::es) [] pos) (tMake C sp dvs E t):=by
 intro pins s σ H Q I h;exact Cr (bA I L N (PySem.W.callWith_K I.ok.mod.kin M.kp (thn (j pos pins s σ H _ I h) fun Y W ⟨vs,H1,g,r,q⟩=>⟨g.kIn,We M F S B D U g r q⟩) J O) G)
end
structure FnScope(N P:List Str)(sc:Scope):Prop where
 kind:sc.kind=.function
 co:sc.isCoroutine=false
 gen:sc.isGenerator=false
 nd:N.Nodup
 pre:N.take P.length=P
 par:∀x∈P,sc.names.lookup x=some .local\/sc.names.lookup x=some .cell
 nofree:∀y∈sc.names,y.2≠.free
theorem vE{q}: ∀{g}{m},(∀v,(x,v)∉g)->bindL q g m x=m x
 |[],_,_=>rfl
 | (n,v)::r,m,h=>by
  unfold bindL;rw[vE fun w j=>h w (AH _ j)]
  split
  .grind
  .rfl
theorem uE{q}: ∀{g}{m},(∀v,(x,v)∉g)->bindC q g m x=m x
 |[],_,_=>rfl
 | (n,v)::r,m,h=>by
  unfold bindC;rw[uE fun w j=>h w (AH _ j)]
  split
  .rfl
  .grind
theorem yE{j}: ∀{P:List Str}{vs}{i:Nat}{m},P.Nodup->P[i]?=some x->vs[i]?=some v->j x=some .local ->
  bindL j (P.zip vs) m x=some v
 |[],_,_,_,_,h,_,_=>by simp at h
 |_::_,[],_,_,_,_,h,_=>by simp at h
 |p::P,w::vs,0,m,q,h1,h2,g=>by
  simp at h1 h2;subst h1;subst h2
  show bindL j ((p,w)::P.zip vs) m p=_;unfold bindL;rw[vE fun v B=>(Az.mp q).1 (Cn B).1,Ac g]
  simp
 |p::P,w::vs,i+1,m,q,h1,h2,g=>by
  unfold bindL;exact yE (Az.mp q).2 (by simpa using h1) (by simp_all) g
theorem gE{j}: ∀{P:List Str}{vs}{i:Nat}{m},P.Nodup->P[i]?=some x->vs[i]?=some v->j x≠some .local ->
  bindC j (P.zip vs) m x=some v
 |[],_,_,_,_,h,_,_=>by simp at h
 |_::_,[],_,_,_,_,h,_=>by simp at h
 |p::P,w::vs,0,m,q,h1,h2,g=>by
  simp at h1 h2;subst h1;subst h2
  show bindC j ((p,w)::P.zip vs) m p=_;unfold bindC;rw[uE fun v B=>(Az.mp q).1 (Cn B).1,Ad g]
  simp
 |p::P,w::vs,i+1,m,q,h1,h2,g=>by
  unfold bindC;exact gE (Az.mp q).2 (by simpa using h1) (by simp_all) g
noncomputable def start(N:List Str)(vs:List V):St:=vs.map some++List.replicate (N.length - vs.length) none
noncomputable def Xu(CX:CXT)(P:Program)(w:World)(K:Dj)(mg:Str->Option Value)(base:Heap)(N:List Str)(q:Str)(B:Scope)(f:Addr)(g:Value)(A:Around)(j:List Env)(s:Shared)(H:Hp)(E:XK):Cx where
 prog:=P
 w:=w
 K:=K
 mg:=mg
 base:=base
 A:=A.deeper (envOfC q B s.heap.objs.size f g)
 N:=N
 s₀:=s
 H₀:=H
 env:=envOfC q B s.heap.objs.size f g
 outer:=j
 stack:=envOfC q B s.heap.objs.size f g::j
 ex:=[]
 calm:=true
 fn:=fun _=>true
 pn:=[]
 xe:=fun e s'=>wpAny (model P w) (A.deeper (envOfC q B s.heap.objs.size f g)) (leaving (envOfC q B s.heap.objs.size f g) e) (fun _ D=>CX j H s E e D) (fun F D=>CX j H s E F D) s'
theorem nR{sc:Scope}(h:sc.names.lookup x=some .cell):∃c,(cellsFrom n sc.names []).lookup x=some c :=Option.isSome_iff_exists.mp (PySem.W.cellsFrom_some sc.names n [] (.inl h))
theorem Vi{K}(S:FnScope N ps j)(Y:A.handled=none)(g:Env0 P w K mg base A O s H)(hl:vs.length=ps.length)(r:Vals vs U)(x:InCallC s s.heap.objs.size (bindL (envOfC I j s.heap.objs.size f F).kindOf (ps.zip U) fun _=>none) (cellsFrom (s.heap.objs.size+1) j.names []) (bindC (envOfC I j s.heap.objs.size f F).kindOf (ps.zip U) fun _=>none) ab):
  Inv (Xu CX P w K mg base N I j f F A O s H E) [] (start N vs) H ab:=by
 have ae:ps.length<=N.length:=by have:=Bi List.length S.pre;rw[BQ] at this;lia
 obtain⟨h1,tk,rfl,J⟩:=x.done;have G:∀b:Addr,b∉(Xu CX P w K mg base N I j f F A O s H E).ex:=fun b z=>absurd (show b∈([]:List Addr) from z) (by simp)
 refine⟨⟨g.mod,S.kind,rfl,rfl,AJ _,fun y z c h1 h2=>?_,fun y D=>?_,fun y c _ h=>?_,fun _=>Y,Around.frames_deeper g.frames,.inr ⟨rfl,rfl⟩,fun b z=>absurd z (G b),g.bs,g.bsz,fun b _ _=>G b,fun b z=>absurd z (G b),g.funs,g.frf⟩,
  rfl,g.bare,Un.kept J,⟨_,x.toInCall.ns,fun i y v h1 h2 h3=>?_⟩,fun y c h=>⟨_,x.cell y c h⟩,g.hok.fresh (AJ _),fun y c h=>?_,fun p B=>absurd (show p∈([]:List (Addr×Obj)) from B) (by simp),g.hok.kept J,?_⟩
 .exact name_of_addr x.apart (CC h1) (CC h2)
 .rcases D with D | D
  .exact nR D
  .exact absurd rfl (S.nofree _ (CC D))
 .exact BV (x.above y c (CC h))
 .have hi:i < vs.length:=by
   unfold start at h2
   by_cases hi:i < vs.length
   .exact hi
   .grind
  have W:vs[i]?=some v:=by
   unfold start at h2;rw[Be (by simp_all),Ak] at h2
   cases e:vs[i]? with
   |none=>rw[e] at h2;cases h2
   |some a=>rw[e] at h2;cases h2;rfl
  obtain⟨u,L,Z⟩:=(r.get W)
  have B:ps[i]?=some y:=by
   rw[<- S.pre,List.getElem?_take_of_lt (by lia)];exact h1
  have M :=S.pre▸S.nd.sublist (List.take_sublist _ _);refine⟨u,Z,?_⟩
  rcases S.par y (Ae B) with k | k
  .exact .inl ⟨k,yE M B L k⟩
  .obtain ⟨c,e⟩:=nR k
   refine .inr ⟨.inl k,c,e,?_⟩;have q:=x.cell y c e;rw[gE M B L (by show j.names.lookup y≠_;rw[k];decide)] at q;exact q
 .exact g.hok.fresh (BV (x.above y c (CC h)))
 .delta start
  show _=N.length;rw[AG,AB,Bb]
  lia
theorem fn_of{K}{ab W af j U oc}(lk:K.lookup f=some ⟨oc,od,.func (PySem.W.fnOf name F ao O g dV ab W af ag j U),aw⟩)(ai:PySem.W.codeIn K j F=true)(S:FnScope N ps g)(ae:∀vs H Q E,sp vs H Q E->vs.length=ps.length)(ah:∀(A:Around)(D:List Env)(s:Shared)(H:Hp)(vs:List V)(Q:VK)(E:XK),Room k (A.deeper (envOfC F g s.heap.objs.size f j))->sp vs H Q E ->
   ∃t,PSs (Xu CX P w K mg base N F g f j A D s H E) O t/\t { nx:=fun _ H'=>Q .non H',rt:=Q } (start N vs) H):
  FnOk P w K mg base CX (k+1) f (PySem.W.fnOf name F ao O g dV ab W af ag j U) ps sp:=by
 refine⟨ae,fun A D s H au ar vs Q E I B hb r Z=>?_⟩;have M:=B.mod.kin.keeps fun b o e=>(B.bs b o e).1
 have ak:∀y∈ps.zip ar,g.names.lookup y.1=some .local\/(g.names.lookup y.1=some .cell/\((cellsFrom (s.heap.objs.size+1) g.names []).lookup y.1).isSome=true):=fun⟨n,v⟩ hy=>by
  rcases S.par n (Cn hy).1 with q | q
  .exact .inl q
  .exact .inr ⟨q,PySem.W.cellsFrom_some _ _ _ (.inl q)⟩
 refine codeAny_call_function I.depth (M _ _ lk) rfl S.co S.gen rfl (PySem.W.codeRec_of M ai) (hb _ _ _ _ (wpAny_newFunctionEnv_cells S.kind ak fun av aj aq x=>?_));subst aj;refine⟨(B.mod.nolimit.keeps fun b o e=>(B.bs b o e).1).keeps x.toInCall.keep,codeAny_func (oQ (ah A D s H vs Q E (I.deeper _) Z) fun t ht hq=>BK (ht [] aq (start N vs) H _ (Vi S I.hd B (ae _ _ _ _ Z) r x) hq) (fun fl s' hs=>?_) fun e s' hs=>hs)⟩
 have Y:∀{G:St}{H':Hp}{v:V}{u:Value},Inv (Xu CX P w K mg base N F g f j A D s H E) [] G H' s'->RelV v u->Q v H'->CE D P w H s Q u s' :=
  fun {G H' v u}J L q=>⟨v,H',J.os,J.bare,J.base,J.hok,L,q⟩
 cases fl with
 |ret u =>
  exact Xn hs fun v G H' J L q=>Y J L q
 |next =>
  exact wB hs fun G H' J q=>Y (v:=V.non) J rfl q
 |brk =>
  exact wB hs fun _ _ _ q=>False.elim q
 |cont =>
  exact wB hs fun _ _ _ q=>False.elim q
section
variable {X:Cx}{x:Str}{p pos:Pos}{e:Expr}{es:List Expr}{t:TA}{id T:String}{r:List V->Hp->VK->Prop}
def tCB(r:List V->Hp->VK->Prop)(t:TA):TE:=fun σ H Q=>t σ H fun vs H1=>r vs H1 Q
theorem WS(q:CallR X (.builtin id) r)(F:Gl X x)(G:X.mg x=none)(M:bootBuiltins x=some (.builtin id))(j:PA X (e::es) t)(J:x ≠ "__name__":=by decide)(B:(x==("__debug__" : Str))=false:=by decide)(D:starEach (e::es) X.env=(false,eval e X.env)::starEach es X.env:=by rfl)(L:(backTo pos (starEach es X.env)).any (·.1)=false:=by rfl):PE X (.Call (.Name x p) (e::es) [] pos) (tCB r t):=by
 intro pins s σ H Q I h;exact Cr (fA I F G M (PyProof.Rows.callWith_builtin1 (thn (j pos pins s σ H _ I h) fun U S ⟨vs,H1,g,O,N⟩=>q pins S σ H1 vs U Q g O N) D L) J B)
theorem KN(q:CallR X (.type T) r)(F:Gl X x)(G:X.mg x=none)(M:bootBuiltins x=some (.type T))(j:PA X (e::es) t)(J:x ≠ "__name__":=by decide)(B:(x==("__debug__" : Str))=false:=by decide)(D:starEach (e::es) X.env=(false,eval e X.env)::starEach es X.env:=by rfl)(L:(backTo pos (starEach es X.env)).any (·.1)=false:=by rfl):PE X (.Call (.Name x p) (e::es) [] pos) (tCB r t):=by
 intro pins s σ H Q I h;exact Cr (fA I F G M (PyProof.Rows.callWith_type1 (thn (j pos pins s σ H _ I h) fun U S ⟨vs,H1,g,O,N⟩=>q pins S σ H1 vs U Q g O N) D L) J B)
end
end L2
namespace HT
open PySem PyProof.Rows
section
variable {prog:Program}{w:World}{A:Around}{E:Value->Shared->Prop}{s:Shared}
theorem cat_tup(Y:IsTup s.heap t vs.toArray)(N:IsTup s.heap b g.toArray)(Z:vs≠[])(h1:g=[]->Q (.ref t) s)(h2:g≠[]->Q (.ref s.heap.objs.size) { s with heap:=s.heap.push { cls:=.type "tuple",data:=.seq (vs++g).toArray } })(hsz:vs.length+g.length<=sizeLine):wpAny (model prog w) A (binaryOp .Add (.ref t) (.ref b)) Q E s:=by
 obtain⟨⟨L,D,M,I⟩,j,O,n,U⟩:=id Y;obtain⟨⟨ab,F,ae,J⟩,q,S,G,W⟩:=id N;subst O U S W;have e:vs.toArray++g.toArray=(vs++g).toArray:=by simp
 by_cases B:g=[]
 .exact concat_meets ⟨_,j,rfl⟩ ⟨_,q,rfl⟩ noFill_tuple_add seq_tuple_add DO DH (DD _ _)
   (tuple_addW1 t b vs.toArray g.toArray n G D F I J (by grind) (by simp[B])) ⟨j,q,h1 B⟩
 .refine concat_meets ⟨_,j,rfl⟩ ⟨_,q,rfl⟩ noFill_tuple_add seq_tuple_add DO DH (DD _ _)
   (tuple_addW2 t b vs.toArray g.toArray n G D F I J (by simpa using Z) (by grind) (by grind)) ⟨j,q,?_⟩
  exact e▸h2 B
noncomputable def sIx(n d:Nat):Option Int->Nat
 |none=>d
 |some v=>if v < 0 then (v+(n:Int)).toNat else min v.toNat n
theorem sIx_none n d:sIx n d none=d:=rfl
theorem sIx_nat(n d k:Nat):sIx n d (some k )=min k n:=by
 show(if (k:Int) < 0 then ((k:Int)+(n:Int)).toNat else min (k:Int).toNat n)=min k n;rw[Ad (by lia),Int.toNat_natCast]
theorem Kf v(n d:Nat):(if v < 0 then max (v+(n:Int)) 0 else min v n )=((sIx n d (some v):Nat):Int):=by
 show(if v < 0 then max (v+(n:Int)) 0 else min v (n:Int))=(((if v < 0 then (v+(n:Int)).toNat else min v.toNat n):Nat):Int)
 by_cases g:v < 0
 .lia
 .grind
theorem Z5 lo hi(n:Nat):Builtin.Slice.sliceAdjust lo hi 1 n=(( sIx n 0 lo:Int),( sIx n n hi:Int)):=by
 refine Prod.ext ?_ ?_
 .cases lo with
  |none=>rfl
  |some v=>exact Kf v n 0
 .cases hi with
  |none=>rfl
  |some v=>exact Kf v n n
theorem X9(i j:Nat):Builtin.Slice.slicePlaces i j 1=j - i :=by grind[Builtin.Slice.slicePlaces]
theorem sN(p:IsPart v o)(h:Q o s):wpAny (model prog w) A (Builtin.Slice.slicePartIndex v) Q E s:=by
 cases p with
 |none=>exact slicePart_none h
 |int i t=>exact slicePart_int h
theorem fL{lo}{Q:Int×Int×Nat->Shared->Prop}(hs:s.heap.IsSliceOf D F G .none)(q:IsPart F lo)(B:IsPart G hi)(h:Q (( sIx n 0 lo:Int),1,sIx n n hi - sIx n 0 lo) s):wpAny (model prog w) A (Builtin.Slice.sliceApplied (.ref D) (pure n )) Q E s:=by
 refine jZ (id hs) fun J j I g=>AA (AA (Ar j g rfl (AA (Ar j g rfl (AA (Ar j g rfl (AF (AA (slicePart_none (AA (sN q (AA (sN B (AA (AF ?_)))))))))))))));show wpAny _ _ (match Builtin.Slice.sliceAdjust lo hi 1 (n:Int) with | (lo,hi)=>pure (lo,(1:Int),Builtin.Slice.slicePlaces lo hi 1)) _ _ s
 rw[Z5 lo hi n];show wpAny _ _ (pure (((sIx n 0 lo:Nat):Int),(1:Int),Builtin.Slice.slicePlaces ((sIx n 0 lo:Nat):Int) ((sIx n n hi:Nat):Int) 1)) _ _ s;rw[X9];exact AF h
theorem WG(xs:Array Value)(i k:Nat):((List.range k).filterMap fun(m:Nat)=>xs[( i+(m:Int) * 1).toNat]?).toArray=((xs.toList.drop i).take k).toArray:=by
 have e:(fun(m:Nat)=>xs[((i:Int)+(m:Int) * 1).toNat]?)=fun m=>xs[i+m]? :=by grind
 rw[e];have:=pick_run xs i k;rw[List.filterMap_map] at this;have g:((fun x=>xs[x]?) ∘ fun x=>i+x)=fun m=>xs[i+m]?:=rfl;rw[g] at this;rw[this]
theorem getItem_tuple_cut{lo}(g:IsTup s.heap t items)(hs:s.heap.IsSliceOf J L M .none)(G:IsPart L lo)(I:IsPart M hi)(O:¬ (sIx items.size 0 lo=0/\sIx items.size items.size hi=items.size))(h:Q (.ref s.heap.objs.size) { s with heap:=s.heap.push { cls:=.type "tuple",data:=.seq ((items.toList.drop (sIx items.size 0 lo)).take (sIx items.size items.size hi - sIx items.size 0 lo)).toArray } })(hsz:items.size<=sizeLine):wpAny (model prog w) A (getItem (.ref t) (.ref J)) Q E s:=by
 have j:sizeOk (.seq ((items.toList.drop (sIx items.size 0 lo)).take (sIx items.size items.size hi - sIx items.size 0 lo)).toArray):=by
  show((items.toList.drop (sIx items.size 0 lo)).take (sIx items.size items.size hi - sIx items.size 0 lo)).toArray.size<=sizeLine;rw[Ao,BQ,BL,BD];omega
 obtain⟨F,D,q,N⟩:=(id hs)
 delta getItem
 try with_reducible refine As ?_
 first | refine AA (AF ?_) | skip
 refine AA (wpAny_sequenceKey g.typeIs rfl (AA (BS g.typeIs Ca
  (A6 Ca g.typeIs entry_tuple_getitem ?_ (args_tuple_getitem _ _)))))
 show wpAny _ _ (Builtin.Tuple.tupleItemsOf (.ref t) >>= _) _ _ s;refine AA (tupleItemsOf_ g (AA (B4 (⟨F,D,q⟩) (AA (fL hs G I ?_)))));have B:¬ ((((sIx items.size 0 lo:Nat):Int)==0&&(1:Int)==1&&(sIx items.size items.size hi - sIx items.size 0 lo)==items.size)=true) :=by lia
 show wpAny _ _ (if (((sIx items.size 0 lo:Nat):Int)==0&&(1:Int)==1&&(sIx items.size items.size hi - sIx items.size 0 lo)==items.size)=true then _ else _) _ _ s;rw[Ad B,WG]
 first
  |exact AA (A4 (AF ⟨_,rfl,AF h⟩) j)
  |exact AA (A4 (AA (AF (AF ⟨_,rfl,AF h⟩))) j)
  |exact AA (AA (A4 (AF (AF ⟨_,rfl,AF h⟩)) j))
  |exact AA (AA (A4 (AF ⟨_,rfl,AF h⟩) j))
end
end HT
namespace L2
open PySem PySem.Spec PyProof.Rows
abbrev TO:=St->Hp->(Option Int->Hp->Prop)->Prop
def PO(X:Cx)(e:Option Expr)(t:TO):Prop :=
 ∀(pins:List (Addr×Obj))(s:Shared)(σ:St)(H:Hp)(Q:Option Int->Hp->Prop),Inv X pins σ H s->t σ H Q ->
  wpAny (model X.prog X.w) X.A (evalPart e X.env) (fun u s'=>∃o H',Inv X pins σ H' s'/\IsPart u o/\Q o H') X.xe s
def Jp:TO:=fun _ H Q=>Q none H
def tPart(t:TE):TO:=fun σ H Q=>t σ H fun x H1=>∃i,x=.int i/\Q (some i) H1
section
variable {X:Cx}{e:Expr}{te:TE}{lo hi:Option Expr}{tl th:TO}{pos p2:Pos}
theorem po_none:PO X none Jp:=by
 intro pins s σ H Q I h;exact AF ⟨none,H,I,.none,h⟩
theorem po_some(h:PE X e te):PO X (some e) (tPart te):=by
 intro pins s σ H Q I j;refine thn (h pins s σ H _ I j) fun u F ⟨x,H1,g,D,B⟩=>?_;obtain⟨i,rfl,q⟩:=B;obtain⟨t,rfl⟩:=D;exact⟨some i,H1,g,.int i t,q⟩
def SlR(X:Cx)(r:V->Option Int->Option Int->Hp->VK->Prop):Prop :=
 ∀(pins:List (Addr×Obj))(s:Shared)(σ:St)(H:Hp)(x:V)(v j q:Value)(lo hi:Option Int)(g:Addr)(Q:VK),Inv X pins σ H s->RelV x v->s.heap.IsSliceOf g j q .none->IsPart j lo->IsPart q hi->r x lo hi H Q ->
  ∃T id,typeLookup (.type T) "__getitem__" = pure (some (.builtin id))/\s.TypeIs v T/\wpAny (model X.prog X.w) X.A (getItem v (.ref g)) (EP X pins σ Q) X.xe s
def tSl(r:V->Option Int->Option Int->Hp->VK->Prop)(te:TE)(tl th:TO):TE:=fun σ H Q=>te σ H fun x H1=>tl σ H1 fun l H2=>th σ H2 fun u g=>r x l u g Q
theorem WJ(S:SlR X r)(M:PE X e te)(O:PO X lo tl)(W:PO X hi th):PE X (.Subscript e (.Slice lo hi none p2) pos) (tSl r te tl th):=by
 intro pins s σ H Q I h;refine Subscript_ (thn (M pins s σ H _ I h) fun v ae ⟨x,H1,D,r1,q1⟩=>wpAny_Slice (thn (O pins ae σ H1 _ D q1) fun j af ⟨l,H2,F,Y,q2⟩=>thn (W pins af σ H2 _ F q2) fun q g ⟨u,B,G,Z,q3⟩=>?_))
 apply AF
 have J:Inv X pins σ B { g with heap:=g.heap.push { cls:=.type "slice",data:=.fields #[j,q,.none] } }:=G.kept (t':=g.toks) fun b ob ab=>AC _ ab;exact zT (S pins { g with heap:=g.heap.push { cls:=.type "slice",data:=.fields #[j,q,.none] } } σ B x v j q l u g.heap.objs.size Q J r1 (Heap.IsSliceOf.new ..) Y Z q3) fun T id L U N=>tail_any U L N (by with_unfolding_all rfl)
def Vu(xs:List V)(lo hi:Option Int):List V:=(xs.drop (HT.sIx xs.length 0 lo)).take (HT.sIx xs.length xs.length hi - HT.sIx xs.length 0 lo)
theorem iP xs lo hi:(Vu xs lo hi).length<=xs.length:=by
 delta Vu
 rw[BQ,BL]
 lia
def rSlT(K:Dj):V->Option Int->Option Int->Hp->VK->Prop:=fun x lo hi H Q=>∃a xs,x=.ref a/\SqT K H a xs /\
 ¬ (HT.sIx xs.length 0 lo=0/\HT.sIx xs.length xs.length hi=xs.length)/\∀p,H p=none->Q (.ref p) (upd H p (.tup (Vu xs lo hi)))
theorem sl_tup:SlR X (rSlT X.K):=by
 intro pins s σ H x v S U lo hi O Q I J hs F G h;obtain⟨a,xs,rfl,B,L,q⟩:=h;cases J;obtain⟨M,r,j,D⟩:=(I.tuple B);have g :=Ao▸r.length.symm;refine⟨"tuple",_,Ca.lookup,j.typeIs,HT.getItem_tuple_cut j hs F G (by rwa [g]) ?_ (by rwa [g])⟩;rw[g];refine⟨.ref s.heap.objs.size,_,I.laid (t':=s.toks) (fun b N q=>AC _ q) (AJ _) ?_,rfl,q _ (I.hok.fresh (AJ _))⟩
 exact⟨Ah (iP xs lo hi) D,_,(r.drop (HT.sIx xs.length 0 lo)).take (HT.sIx xs.length xs.length hi - HT.sIx xs.length 0 lo),IsTupN.new _ _⟩
def rCatT(K:Dj):R2:=fun x y H Q=>∃a b xs ys,x=.ref a/\y=.ref b/\SqT K H a xs/\SqT K H b ys/\xs≠[]/\xs.length+ys.length<=sizeLine /\
 (ys=[]->Q (.ref a) H)/\(ys≠[]->∀p,H p=none->Q (.ref p) (upd H p (.tup (xs++ys))))
theorem Vals.nil_iff(r:Vals xs g):g=[]↔xs=[]:=by
 cases r with
 |nil=>simp
 |cons _ _=>simp
theorem op_catT:OpR X (binaryOp .Add) (rCatT X.K):=by
 intro pins s σ H x y v u Q I N O h;obtain⟨a,b,xs,ys,rfl,rfl,B,D,F,G,L,M⟩:=h;cases N;cases O;refine jZ (I.tuple B) fun S j J _=>jZ (I.tuple D) fun U g p2 _=>HT.cat_tup J p2 (fun z=>F (j.nil_iff.mp z)) (fun z=>⟨.ref a,H,I,rfl,L (g.nil_iff.mp z)⟩) (fun z=>?_) (by rwa [<- j.length,<- g.length]);refine⟨.ref s.heap.objs.size,_,I.laid (t':=s.toks) (fun b W q=>AC _ q) (AJ _) ?_,rfl,M (fun w=>z (g.nil_iff.mpr w)) _ (I.hok.fresh (AJ _))⟩
 exact⟨by exact AG▸G,_,j.append g,IsTupN.new _ _⟩
end
noncomputable def ixN(n:Nat)(i:Int):Option Nat:=if 0<=i then (if i < n then some i.toNat else none) else if -(n:Int)<=i then some (i+n).toNat else none
def atI{α:Type}(xs:List α)(i:Int):Option α:=(ixN xs.length i).bind fun j=>xs[j]?
theorem JR(h:ixN n i=some j):seqIndex? i n=some j/\j < n/\- n<=i/\i < n :=by grind[ixN,seqIndex_of,seqIndex_neg,lia]
theorem tI(h:atI xs i=some v):∃j,seqIndex? i xs.length=some j/\xs[j]?=some v/\j < xs.length/\-(xs.length:Int)<=i/\i < xs.length:=by
 delta atI at h
 cases e:ixN xs.length i with
 |none=>rw[e] at h;cases h
 |some j =>
  rw[e] at h;exact kR (JR e) fun h1 h2 g q=>⟨j,h1,h,h2,g,q⟩
def xN(b:Expr):Prop:=∀o i,subscripted b false o i=operate [o,i] (getItem o i)
def IxR(X:Cx)(r:R2):Prop :=
 ∀(value g:Expr)(pins:List (Addr×Obj))(s:Shared)(σ:St)(H:Hp)(x y:V)(v u:Value)(Q:VK),Inv X pins σ H s->RelV x v->RelV y u->r x y H Q ->
  subscripted g false v u=operate [v,u] (getItem v u)->wpAny (model X.prog X.w) X.A (subscriptTail value g v u) (EP X pins σ Q) X.xe s
def MtR(X:Cx)(id:String)(r:V->List V->Hp->VK->Prop):Prop :=
 ∀(pins:List (Addr×Obj))(s:Shared)(σ:St)(H:Hp)(x:V)(xs:List V)(v:Value)(g:List Value)(Q:VK),Inv X pins σ H s->RelV x v->Vals xs g->r x xs H Q ->
  wpAny (model X.prog X.w) X.A (call (.builtin id) (v::g)) (EP X pins σ Q) X.xe s
section
variable {X:Cx}{a b:Expr}{ta tb:TE}{pos:Pos}
theorem IxR.or(h:IxR X r)(h':IxR X D):IxR X (fun x y H Q=>r x y H Q\/D x y H Q):=by
 intro value B pins s σ H x y v u Q I g j q hs
 rcases q with q | q
 .exact h value B pins s σ H x y v u Q I g j q hs
 .exact h' value B pins s σ H x y v u Q I g j q hs
theorem pe_ix(D:IxR X r)(j:PE X a ta)(B:PE X b tb)(hs:xN b):PE X (.Subscript a b pos) (tOp r ta tb):=by
 intro pins s σ H Q I h;exact Subscript_ (binT j B I h fun v u J x y H2 g F G q=>D a b pins J σ H2 x y v u Q g F G q (hs _ _))
inductive IIx(S:Hp->Addr->List V->Prop)(x y:V)(H:Hp)(Q:VK):Prop
 |mk(p:Addr)(xs:List V)(i:Int)(v:V)(h:x=.ref p)(h':y=.int i)(s:S H p xs)(a:atI xs i=some v)(q:Q v H):IIx S x y H Q
def rIxL(K:Dj):R2:=IIx (SqL K)
def rIxT(K:Dj):R2:=IIx (SqT K)
def rIxS:R2:=fun x y H Q=>∃z i c,x=.str z/\y=.int i/\z.length<=sizeLine/\atI z.cps.toList i=some c/\Q (.str ⟨#[c]⟩) H
theorem ix_list:IxR X (rIxL X.K):=by
 intro value ab pins s σ H x y v u Q I U W h hs;obtain⟨p,xs,i,z,rfl,rfl,N,L,q⟩:=h;cases U;obtain⟨t,rfl⟩:=W;refine jZ (I.list N) fun O r g hz=>eA (tI L) fun j h1 h2 Y G J=>oQ (r.get h2) fun w F S=>?_;have M:=r.length;have Z:=uF;have B:EP X pins σ Q w s:=⟨z,H,I,S,q⟩
 by_cases h0:0<=i
 .have D:i.toNat=j:=by
   rw[seqIndex_of h0 J] at h1;exact Av h1
  exact item_listR g.isList h0 (by lia) (by simp_all) B hs
 .have D:(i+(O.toArray.size:Int)).toNat=j:=by
   rw[seqIndex_neg (by lia) G] at h1;exact Ao▸M▸Av h1
  exact subscriptTail_builtinR g.isList.typeIs slot_list_getitem.lookup
   (wpAny_getItem_list_neg g.isList (by lia) (by simp_all) (by lia) (by rw[D];simpa using F) ⟨rfl,B⟩) hs
theorem ix_tup:IxR X (rIxT X.K):=by
 intro value Y pins s σ H x y v u Q I G J h hs;obtain⟨p,xs,i,z,rfl,rfl,D,B,q⟩:=h;cases G;obtain⟨t,rfl⟩:=J;refine jZ (I.tuple D) fun W r g U=>eA (tI B) fun j h1 h2 M N O=>oQ (r.get h2) fun w L F=>?_;have S:=uF
 exact subscriptTail_builtinR g.typeIs slot_tuple_getitem.lookup
  (getItem_tuple g (by lia) (by lia) (by rwa [Ao,<- r.length]) (by simp_all) ⟨rfl,(⟨z,H,I,F,q⟩)⟩) hs
theorem ix_str:IxR X rIxS:=by
 intro value O pins s σ H x y v u Q I B D h hs;obtain⟨z,i,c,rfl,rfl,N,g,q⟩:=h;obtain⟨t,rfl⟩:=B;obtain⟨t',rfl⟩:=D;refine eA (tI g) fun j h1 h2 F G J=>?_;have L:z.cps.toList.length=z.length:=by simp[Str.length]
 have M:=uF;exact tail_any (typeIs_str s z t) slot_str_getitem.lookup (getItem_str (by lia) (by grind) ⟨.str ⟨#[c]⟩,H,I.tok _,⟨_,rfl⟩,q⟩) hs
def rIx(K:Dj):R2:=fun x y H Q=>rIxL K x y H Q\/rIxT K x y H Q\/rIxS x y H Q
theorem ix_seq:IxR X (rIx X.K):=ix_list.or (ix_tup.or ix_str)
theorem Zj(g:List Value)n j u:Obj.mapSeq (·.setIfInBounds j u) { cls:=.type "list",data:=.seq g.toArray n }={ cls:=.type "list",data:=.seq (g.set j u).toArray n }:=by
 simp[Obj.mapSeq]
theorem Inv.lst{pins:List (Addr×Obj)}{σ:St}{H:Hp}{s:Shared}{p:Addr}{xs:List V}(I:Inv X pins σ H s)(h:H p=some (.lst xs)):
  ∃(g:List Value)(n:Nat),Vals xs g/\s.heap.get? p=some { cls:=.type "list",data:=.seq g.toArray n }/\xs.length<=sizeLine:=by
 obtain⟨z,g,n,r,e⟩:=I.hok p _ h;exact⟨g,n,r,e,z⟩
theorem Inv.lstUpd{σ:St}{j:List Value}(I:Inv X pins σ H s)(h:H p=some (.lst xs))(F:s.heap.get? p=some { cls:=.type "list",data:=.seq j.toArray n })(g:f { cls:=.type "list",data:=.seq j.toArray n }={ cls:=.type "list",data:=.seq its'.toArray B })(r:Vals ys its')(G:ys.length<=sizeLine)t:
  Inv X pins σ (upd H p (.lst ys)) { s with heap:=s.heap.update p f,toks:=t }:=by
 have e:(s.heap.update p f).get? p=some { cls:=.type "list",data:=.seq its'.toArray B }:=by
  rw[Ay f F (by rw[g]<;>rfl),g]
 refine I.write (by rw[h];trivial) (.inl rfl) (fun b u D q=>(BC _ _ (Ne.symm D)).trans q) ⟨_,e⟩ ?_;exact⟨G,its',B,r,e⟩
def rSetL:V->V->V->Hp->(Hp->Prop)->Prop:=fun o i v H Q=>∃p xs k j,o=.ref p/\i=.int k/\H p=some (.lst xs)/\ixN xs.length k=some j/\Q (upd H p (.lst (xs.set j v)))
theorem Wd:PSet X rSetL:=by
 intro pins s σ H o i v ov Z u Q I S O U h;obtain⟨p,xs,k,j,rfl,rfl,G,N,q⟩:=h;cases S;obtain⟨t,rfl⟩:=O;refine zT (I.lst G) fun J n r B Y=>kR (JR N) fun h1 h2 L M=>?_;have F:=r.length;have W:=uF
 have D :=
  I.lstUpd G B (Zj J n j u) (r.set U j) (by grind) s.toks
 by_cases h0:0<=k
 .have g:k.toNat=j:=by
   rw[seqIndex_of h0 M] at h1;exact Av h1
  exact PySem.W.ki_setAt B h0 (by lia) (by simp_all) (g▸⟨_,D,q⟩)
 .have g:(k+(J.toArray.size:Int)).toNat=j:=by
   rw[seqIndex_neg (by lia) L] at h1;exact Ao▸F▸Av h1
  exact PySem.W.ki_setBack B (by lia) (by rwa [Ao,<- F]) (by lia) (g▸⟨_,D,q⟩)
theorem sE lo hi n:(sliceBounds lo hi none n).1=((HT.sIx n 0 lo:Nat):Int)/\(sliceBounds lo hi none n).2.1=((HT.sIx n n hi:Nat):Int)/\(sliceBounds lo hi none n).2.2=1:=by
 refine⟨?_,?_,rfl⟩
 .cases lo with
  |none=>simp[sliceBounds,HT.sIx]
  |some i =>
   simp only[sliceBounds,HT.sIx,Option.getD_none,show(1:Int) > 0 by decide,if_true]
   by_cases h:i < 0
   .simp only[h,if_true]<;>lia
   .simp only[h,if_false]<;>lia
 .cases hi with
  |none=>simp[sliceBounds,HT.sIx]
  |some i =>
   simp only[sliceBounds,HT.sIx,Option.getD_none,show(1:Int) > 0 by decide,if_true]
   by_cases h:i < 0
   .simp only[h,if_true]<;>lia
   .simp only[h,if_false]<;>lia
theorem rS(g:List Value)lo hi:slicePick g.toArray lo hi none=((g.drop (HT.sIx g.length 0 lo)).take (HT.sIx g.length g.length hi - HT.sIx g.length 0 lo)).toArray:=by
 obtain⟨h1,h2,j⟩:=(sE lo hi g.toArray.size)
 delta slicePick
 rw[h1,h2,j]
 simp only[sliceRange_one,pick_run]<;>rfl
def rSlL(K:Dj):V->Option Int->Option Int->Hp->VK->Prop:=fun x lo hi H Q=>∃a xs,x=.ref a/\SqL K H a xs/\∀p,H p=none->Q (.ref p) (upd H p (.lst (Vu xs lo hi)))
theorem sl_list:SlR X (rSlL X.K):=by
 intro pins s σ H x v O S lo hi N Q I J hs F G h;obtain⟨a,xs,rfl,B,q⟩:=h;cases J;obtain⟨L,r,g,D⟩:=(I.list B);have j:=r.length;refine⟨"list",_,slot_list_getitem.lookup,g.isList.typeIs,wpAny_getItem_list_slice g.isList hs F G .none (by simp) ?_ (by grind)⟩;rw[rS,<- j];refine⟨.ref s.heap.objs.size,_,I.laid (t':=s.toks) (fun b M q=>AC _ q) (AJ _) ?_,rfl,q _ (I.hok.fresh (AJ _))⟩
 exact⟨Ah (iP xs lo hi) D,_,0,(r.drop (HT.sIx xs.length 0 lo)).take (HT.sIx xs.length xs.length hi - HT.sIx xs.length 0 lo),AM _ rfl⟩
def aM:V->Bool
 |.non=>true
 |.bl _=>true
 |.int _=>true
 |.str _=>true
 |_=>false
noncomputable def eqV:V->V->Bool
 |.non,.non=>true
 |.bl a,.bl b=>a==b
 |.bl a,.int b=>(if a then 1 else 0)==b
 |.int a,.bl b=>a==(if b then 1 else 0)
 |.int a,.int b=>a==b
 |.str a,.str b=>a==b
 |_,_=>false
theorem jR(q:RelV y u)(g:RelV x v)(B:aM y=true)(j:aM x=true):SeqAt.EqAt A s u v (eqV y x):=by
 cases y with
 |non =>
  cases q
  cases x with
  |non=>cases g;exact DS _
  |bl b=>cases g;exact SeqAt.EqAt.none_bool b
  |int b=>obtain⟨t,rfl⟩:=g;exact SeqAt.EqAt.none_int b t
  |str b=>obtain⟨t,rfl⟩:=g;exact SeqAt.EqAt.none_str b t
  |_=>exact absurd j AS
 |bl a =>
  cases q
  cases x with
  |non=>cases g;exact SeqAt.EqAt.bool_none a
  |bl b=>cases g;exact SeqAt.EqAt.bool_bool a b
  |int b=>obtain⟨t,rfl⟩:=g;exact SeqAt.EqAt.bool_int a b t
  |str b=>obtain⟨t,rfl⟩:=g;exact SeqAt.EqAt.bool_str a b t
  |_=>exact absurd j AS
 |int a =>
  obtain⟨t',rfl⟩:=q
  cases x with
  |non=>cases g;exact SeqAt.EqAt.int_none a t'
  |bl b=>cases g;exact SeqAt.EqAt.int_bool a t' b
  |int b=>obtain⟨t,rfl⟩:=g;exact SeqAt.EqAt.int_int a t' b t
  |str b=>obtain⟨t,rfl⟩:=g;exact SeqAt.EqAt.int_str a t' b t
  |_=>exact absurd j AS
 |str a =>
  obtain⟨t',rfl⟩:=q
  cases x with
  |non=>cases g;exact SeqAt.EqAt.str_none a t'
  |bl b=>cases g;exact SeqAt.EqAt.str_bool a t' b
  |int b=>obtain⟨t,rfl⟩:=g;exact SeqAt.EqAt.str_int a t' b t
  |str b=>obtain⟨t,rfl⟩:=g;exact SeqAt.EqAt.str_str a t' b t
  |_=>exact absurd j AS
 |_=>exact absurd B AS
noncomputable def eqU(x:V)(u:Value):Bool:=match u with
 |.none=>eqV .non x
 |.bool b=>eqV (.bl b) x
 |.int i _=>eqV (.int i) x
 |.str z _=>eqV (.str z) x
 |_=>false
theorem Y6(r:RelV y u)(f:aM y=true):eqU x u=eqV y x:=by
 cases y with
 |non=>cases r;rfl
 |bl b=>cases r;rfl
 |int i=>obtain⟨t,rfl⟩:=r;rfl
 |str z=>obtain⟨t,rfl⟩:=r;rfl
 |_=>exact absurd f AS
theorem aI: ∀{xs}{g},Vals xs g->xs.all aM=true->g.any (eqU x)=xs.any fun y=>eqV y x
 |_,_,.nil,_=>rfl
 |y::xs,u::g,.cons r t,f=>by
  rw[DE,A3] at f;rw[BA,BA,Y6 r f.1,aI t f.2]
theorem uC(B:RelV x v)(q:aM x=true):∀{xs}{j},Vals xs j->xs.all aM=true->∀u∈j,SeqAt.EqAt A s u v (eqU x u)
 |_,_,.nil,_=>fun u g=>by cases g
 |y::xs,u::j,.cons r t,f=>fun D g=>by
  rw[DE,A3] at f
  rcases Ai.mp g with rfl | g
  .exact (Y6 r f.1)▸jR r B f.1 q
  .exact uC B q t f.2 D g
def inV(x:V)(xs:List V):Bool:=xs.any fun y=>eqV y x
def rIn(K:Dj)(g:Bool):R2:=fun x y H Q=>∃p xs,y=.ref p/\(SqL K H p xs\/SqT K H p xs)/\aM x=true/\xs.all aM=true/\Q (.bl (if g then !inV x xs else inV x xs)) H
theorem KZ:OpR X (compareOp .In) (rIn X.K false):=by
 intro pins s σ H x y v u Q I G L h;obtain⟨p,xs,rfl,g,D,fs,q⟩:=h;cases L
 rcases g with g | g
 .obtain ⟨j,r,B,J⟩:=I.list g
  refine SeqAt.in_listAt (eqU x) B.isList (fun w F=>uC G D r fs w (by grind)) ⟨.bl _,H,I,rfl,?_⟩;rw[show j.toArray.any (eqU x)=j.any (eqU x) by simp,aI r fs];exact q
 .obtain ⟨j,r,B,J⟩:=I.tuple g
  refine SeqAt.in_tupleAt (eqU x) B (fun w F=>uC G D r fs w (by simpa using F)) ⟨.bl _,H,I,rfl,?_⟩;rw[show j.toArray.any (eqU x)=j.any (eqU x) by simp,aI r fs];exact q
theorem mI:CallR X (.builtin "len") (fun xs H Q=>∃p ys,xs=[.ref p]/\(SqL X.K H p ys\/SqT X.K H p ys)/\Q (.int ys.length) H):=by
 intro pins s σ H xs L Q I r h;obtain⟨p,ys,rfl,g,q⟩:=h;obtain⟨u,rfl,rfl⟩:=fU r;have J:=uF
 rcases g with g | g
 .obtain ⟨G,D,B,F⟩:=I.list g
  have j:=D.length;exact Calls.call_len_list B.isList (by grind) ⟨.int ys.length,H,I.tok _,⟨s.toks+1,by rw[Ao,j]⟩,q⟩
 .obtain ⟨G,D,B,F⟩:=I.tuple g
  have j:=D.length;exact len_tuple B (by simp only[List.size_toArray]<;>lia) ⟨.int ys.length,H,I.tok _,⟨s.toks+1,by rw[Ao,j]⟩,q⟩
theorem bI:CallR X (.builtin "len") (fun xs H Q=>∃z,xs=[.str z]/\z.length<=sizeLine/\Q (.int z.length) H):=by
 intro pins s σ H xs B Q I r h;obtain⟨z,rfl,j,q⟩:=h;obtain⟨u,rfl,t,rfl⟩:=fU r;have g:=uF;exact len_str (by lia) ⟨.int z.length,H,I.tok _,⟨_,rfl⟩,q⟩
theorem CallR.or(h:CallR X f r)(h':CallR X f j):CallR X f (fun xs H Q=>r xs H Q\/j xs H Q):=by
 intro pins s σ H xs g Q I rs q
 rcases q with q | q
 .exact h pins s σ H xs g Q I rs q
 .exact h' pins s σ H xs g Q I rs q
theorem tD:CallR X (.type "list") (fun xs H Q=>∃p ys,xs=[.ref p]/\(SqL X.K H p ys\/SqT X.K H p ys)/\∀l,H l=none->Q (.ref l) (upd H l (.lst ys))):=by
 intro pins s σ H xs U Q I r h;obtain⟨p,ys,rfl,D,q⟩:=h;obtain⟨u,rfl,rfl⟩:=fU r
 have O:∀g,Vals ys g->ys.length<=sizeLine->∀h' j,(∀b o',s.heap.get? b=some o'->h'.get? b=some o') ->
   h'.get? s.heap.objs.size=some { cls:=.type "list",dict:=none,data:=.seq g.toArray j,slots:=#[] }->EP X pins σ Q (.ref s.heap.objs.size) { s with heap:=h' }:=fun g B F h' j G e=>
  ⟨.ref s.heap.objs.size,_,I.laid (t':=s.toks) G (AJ _) (show ObjOk X.prog X.w _ h' _ (.lst ys) from⟨F,g,j,B,e⟩),rfl,q _ (I.hok.fresh (AJ _))⟩
 rcases D with D | D
 .obtain ⟨g,B,N,F⟩:=I.list D
  have S:=B.length;obtain⟨o,M,J,n,L⟩:=N.isList;exact call_list_seq p (.inl rfl) M J L (fun h' j G e=>O g B F h' j G e) (by grind)
 .obtain ⟨g,B,N,F⟩:=I.tuple D
  have S:=B.length;obtain⟨o,M,J,n,L⟩:=N;exact call_list_seq p (.inr rfl) M J L (fun h' j G e=>O g B F h' j G e) (by simp only[List.size_toArray]<;>lia)
theorem kT:CallR X (.type "tuple") (fun xs H Q=>∃p ys,xs=[.ref p]/\((SqL X.K H p ys/\∀l,H l=none->Q (.ref l) (upd H l (.tup ys)))\/(SqT X.K H p ys/\Q (.ref p) H))):=by
 intro pins s σ H xs N Q I r h;obtain⟨p,ys,rfl,h⟩:=h;obtain⟨u,rfl,rfl⟩:=fU r
 rcases h with ⟨g,q⟩ | ⟨g,q⟩
 .obtain ⟨G,B,j,F⟩:=(I.list g)
  have M:=B.length;refine call_tuple_list j.isList (fun h' L=>?_) (by grind);have D:=I.kept (t':=s.toks) L
  have J :=
   D.laid (t':=s.toks) (fun b o e=>AC _ e) (AJ _) (show ObjOk X.prog X.w _ _ _ (.tup ys) from⟨F,G,B,IsTupN.new _ _⟩)
  exact⟨.ref h'.objs.size,_,J,rfl,q _ (D.hok.fresh (AJ _))⟩
 .exact jZ (I.tuple g) fun G B j F=>call_tuple_same j ⟨.ref p,H,I,rfl,q⟩
def tyV(K:Dj)(T:String)(x:V)(H:Hp):Prop:=match x with
 |.str _=>T = "str"
 |.int _=>T = "int"
 |.ref p=>(T = "list"/\∃xs,SqL K H p xs)\/(T = "tuple"/\∃o,K.lookup p=some o/\o.cls=.type "tuple"/\o.dict=none) \/
   (T = "dict"/\((∃kvs,H p=some (.dK kvs))\/∃kvs,H p=some (.dT kvs)))\/(T = "set"/\∃S n,H p=some (.set S n))
 |_=>False
theorem VY{σ:St}(I:Inv X pins σ H s)(r:RelV x v)(ty:tyV X.K T x H):
  s.TypeIs v T/\∀a,v=.ref a->∃B,s.heap.get? a=some B/\B.dict=none:=by
 cases x with
 |str z =>
  obtain⟨t,rfl⟩:=r;cases ty;exact⟨typeIs_str s z t,fun _ e=>nomatch e⟩
 |int i =>
  obtain⟨t,rfl⟩:=r;cases ty;exact⟨typeIs_int s i t,fun _ e=>nomatch e⟩
 |ref p =>
  cases r
  rcases ty with ⟨rfl,xs,G⟩ | ⟨rfl,o,g,F,q⟩ | ⟨rfl,g⟩ | ⟨rfl,S,n,g⟩
  .refine jZ (I.list G) fun J _ D _=>⟨D.isList.typeIs,fun a e=>?_⟩
   cases e;exact xR D fun o n e c q _=>⟨o,e,q⟩
  .refine ⟨⟨o,I.kIn p o g,F⟩,fun a e=>?_⟩
   cases e;exact⟨o,I.kIn _ o g,q⟩
  .have z:∃o,s.heap.get? p=some o/\o.ExactDict:=by
    rcases g with ⟨kvs,g⟩ | ⟨kvs,g⟩
    .obtain ⟨_,_,_,_,o,_,_,e,ex,_⟩:=I.hok p _ g
     exact⟨o,e,ex⟩
    .obtain ⟨_,_,_,_,o,_,_,e,ex,_⟩:=I.hok p _ g
     exact⟨o,e,ex⟩
   obtain⟨o,e,ex⟩:=z;refine⟨⟨o,e,ex.1⟩,fun a j=>?_⟩;cases j;exact⟨o,e,ex.2.1⟩
  .refine el43 (I.hok p _ g) fun o _ _ _ e ex _=>⟨⟨o,e,ex.1⟩,fun a j=>?_⟩
   cases j;exact⟨o,e,ex.2.1⟩
 |_=>exact False.elim ty
def tBM0(K:Dj)(T:String)(r:V->List V->Hp->VK->Prop)(to:TE):TE:=fun σ H Q=>to σ H fun x H1=>tyV K T x H1/\r x [] H1 Q
def tBM(K:Dj)(T:String)(r:V->List V->Hp->VK->Prop)(to:TE)(t:TA):TE:=fun σ H Q=>to σ H fun x H1=>tyV K T x H1/\t σ H1 fun xs H2=>r x xs H2 Q
variable {o e:Expr}{es:List Expr}{to:TE}{t:TA}{name:Str}{apos cpos:Pos}{T id:String}{r:V->List V->Hp->VK->Prop}
theorem pe_bm0(J:PlainAttrs T)(N:Slot T name id)(G:typeOf (.builtin id)=pure (.type "method_descriptor"))(D:MtR X id r)(F:PE X o to)(q:attributeBase o name X.env (eval o X.env)=eval o X.env:=by rfl)(B:(apos.endLine==cpos.line)=true:=by rfl):PE X (.Call (.Attribute o name apos) [] [] cpos) (tBM0 X.K T r to):=by
 intro pins s σ H Q I h;refine wpAny_Call_method0_late q B (thn (F pins s σ H _ I h) fun v M O=>xR O fun x H1 g j ty L=>?_);obtain⟨h1,h2⟩:=VY g j ty;exact⟨T,id,J,N,G,h1,h2,CZ rfl (PySem.evalArgs_none (D pins M σ H1 x [] v [] Q g j .nil L))⟩
theorem pe_bm(O:PlainAttrs T)(ab:Slot T name id)(N:typeOf (.builtin id)=pure (.type "method_descriptor"))(L:MtR X id r)(M:PE X o to)(D:PA X (e::es) t)(F:attributeBase o name X.env (eval o X.env)=eval o X.env:=by rfl)(G:((backTo cpos (starEach (e::es) X.env)).all (fun x=>!x.1)&&(backToKw cpos (keywordEach [] X.env)).all (fun x=>x.1.isSome)
   && decide ((e::es).length+([]:List Keyword).length+(if ([]:List Keyword).isEmpty then 0 else 1) < 30))=true:=by rfl)(J:(apos.endLine==cpos.line)=true:=by rfl)(hs:starEach (e::es) X.env=(false,eval e X.env)::starEach es X.env:=by rfl)(af:(backTo cpos (starEach es X.env)).any (·.1)=false:=by rfl):
  PE X (.Call (.Attribute o name apos) (e::es) [] cpos) (tBM X.K T r to t):=by
 intro pins s σ H Q I h;refine wpAny_Call_method_late F G J rfl (thn (M pins s σ H _ I h) fun v Y zq=>xR zq fun x H1 g q ty S=>?_);obtain⟨h1,h2⟩:=VY g q ty;refine⟨T,id,O,ab,N,h1,h2,?_⟩;have j:=D cpos pins Y σ H1 _ g S;rw[hs] at j ⊢;exact CZ (by grind) (Di (thn j fun ae Z ⟨vs,H2,B,W,U⟩=>L pins Z σ H2 x vs v ae Q B q W U))
end
def MtM(X:Cx)(id:String)(r:V->List V->Hp->VK->Prop):Prop :=
 ∀(pins:List (Addr×Obj))(s:Shared)(σ:St)(H:Hp)(x:V)(xs:List V)(v:Value)(g:List Value)(Q:VK),Inv X pins σ H s->RelV x v->Vals xs g->r x xs H Q ->
  wpAny (model X.prog X.w) X.A (call (.builtin id) (v::g)) (EP X pins σ Q) X.xe s
theorem Vals.one(h:Vals [x] g):∃u,g=[u]/\RelV x u:=by
 cases h with
 |cons r h =>
  cases h;exact⟨_,rfl,r⟩
theorem Vals.two(h:Vals [x,y] g):∃u v,g=[u,v]/\RelV x u/\RelV y v:=by
 cases h with
 |cons r h =>
  obtain⟨v,rfl,q⟩:=Vals.one h;exact⟨_,v,rfl,r,q⟩
theorem Vals.zero:∀{g},Vals [] g->g=[]
 |_,.nil=>rfl
theorem Vals.dropLast(h:Vals xs j):Vals xs.dropLast j.dropLast:=by
 induction h with
 |nil=>exact .nil
 |cons r t g =>
  cases t with
  |nil=>exact .nil
  |cons q t'=>exact .cons r g
theorem Vals.reverse(h:Vals xs j):Vals xs.reverse j.reverse:=by
 induction h with
 |nil=>exact .nil
 |cons r t g=>rw[Bj,Bj];exact Vals.append g (.cons r .nil)
section
variable {X:Cx}{pins:List (Addr×Obj)}{σ:St}{H:Hp}{s:Shared}{l b:Addr}{xs ys zs:List V}
theorem Inv.lset{g:List Value}(I:Inv X pins σ H s)(j:H l=some (.lst xs))(e:s.heap.get? l=some { cls:=.type "list",data:=.seq g.toArray n })(D:f g.toArray=its'.toArray)(G:Vals ys its')(J:ys.length<=sizeLine):
  Inv X pins σ (upd H l (.lst ys)) { s with heap:=s.heap.update l (Obj.mapSeq f),toks:=t' }:=by
 have q:=PySem.IsL.update e f;rw[D] at q;refine I.write (j▸trivial) (.inl rfl) (fun L u B F=>(BC s.heap (Obj.mapSeq f) (Ne.symm B)).trans F) ⟨_,q⟩ ?_;exact⟨J,its',_,G,q⟩
theorem Inv.lnew(I:Inv X pins σ H s)(j:Vals ys g)(B:ys.length<=sizeLine):
  Inv X pins σ (upd H s.heap.objs.size (.lst ys)) { s with heap:=s.heap.push { cls:=.type "list",data:=.seq g.toArray },toks:=t' } :=
 I.laid (fun _ _ q=>AC _ q) (AJ _) ⟨B,g,0,j,AM _ rfl⟩
theorem Inv.fresh(I:Inv X pins σ H s):H s.heap.objs.size=none:=I.hok.fresh (AJ _)
theorem Inv.lstM(I:Inv X pins σ H s)(j:H l=some (.lst xs)):xs.length<=sizeLine/\∃g n,Vals xs g/\xs.length=g.length/\s.heap.get? l=some { cls:=.type "list",data:=.seq g.toArray n }:=by
 obtain⟨z,g,n,r,e⟩:=I.hok l _ j;exact⟨z,g,n,r,r.length,e⟩
theorem Ya(h:n<=sizeLine):Builtin.List.listTooLong n=false :=AR (by lia)
end
section
variable {X:Cx}
def Jv:V->List V->Hp->VK->Prop:=fun x vs H Q=>∃l xs y,x=.ref l/\vs=[y]/\H l=some (.lst xs)/\xs.length < sizeLine/\Q .non (upd H l (.lst (xs++[y])))
theorem gO:MtM X "list.append" Jv:=by
 intro pins s σ H x vs v M Q I G D h;obtain⟨l,xs,y,rfl,rfl,g,L,q⟩:=h;cases G;obtain⟨u,rfl,B⟩:=D.one;obtain⟨z,j,n,r,J,e⟩:=I.lstM g;refine Cs F.slot_list_append ⟨_,e,rfl⟩ F.entry_list_append (F.args_list_append_2 _ _) (PySem.list_append l j.toArray n u (by grind)) ⟨e,⟨.non,_,I.lset (its':=j++[u]) g e (by simp) (r.append (.cons B .nil)) ?_,rfl,q⟩⟩;rw[AG,AQ]
 lia
def Ju:V->List V->Hp->VK->Prop:=fun x vs H Q=>∃l b xs zs,x=.ref l/\vs=[.ref b]/\H l=some (.lst xs)/\H b=some (.lst zs)/\xs.length+zs.length<=sizeLine/\Q .non (upd H l (.lst (xs++zs)))
theorem uO:MtM X "list.extend" Ju:=by
 intro pins s σ H x vs v Y Q I O N h;obtain⟨l,b,xs,zs,rfl,rfl,B,G,W,q⟩:=h;cases O;obtain⟨u,rfl,rfl⟩:=N.one;obtain⟨z,g,n,r,S,e⟩:=I.lstM B;obtain⟨Z,j,L,M,U,D⟩:=I.lstM G;have hsz:g.toArray.size+j.toArray.size<=sizeLine :=by simp;lia
 have J:¬ (!g.toArray.isEmpty&&Builtin.List.listTooLong (g.toArray.size+j.toArray.size))=true:=by
  rw[Ya hsz,Bool.and_false];exact AS
 refine Cs F.slot_list_extend ⟨_,e,rfl⟩ F.entry_list_extend (F.args_list_extend_2 _ _)
  (AutoSeq1.list_extend_list_list_0 l g.toArray n b j.toArray L J (by lia) (by lia)) ⟨e,D,?_⟩
 refine⟨.non,_,I.lset (its':=g++j) B e (by simp) (r.append M) ?_,rfl,q⟩;rw[AG]
 lia
def rPop:V->List V->Hp->VK->Prop:=fun x vs H Q=>∃l xs y,x=.ref l/\vs=[]/\H l=some (.lst xs)/\xs[xs.length - 1]?=some y/\Q y (upd H l (.lst xs.dropLast))
theorem Ye:MtM X "list.pop" rPop:=by
 intro pins s σ H x vs v S Q I M L h;obtain⟨l,xs,y,rfl,rfl,j,D,q⟩:=h;cases M;have B:=L.zero;subst B;obtain⟨z,g,n,r,N,e⟩:=I.lstM j;obtain⟨u,O,J⟩:=(r.get D);have G:g.toArray[g.toArray.size - 1]?=some u :=by grind
 refine Cs F.slot_list_pop ⟨_,e,rfl⟩ F.entry_list_pop (F.args_list_pop_1 _) (MeetsSeq.list_pop_last l g.toArray n u G (by grind)) ⟨e,⟨y,_,I.lset (its':=g.dropLast) j e ?_ r.dropLast ?_,J,q⟩⟩
 .grind
 .grind
def QB:V->List V->Hp->VK->Prop:=fun x vs H Q=>∃l xs,x=.ref l/\vs=[]/\H l=some (.lst xs)/\Q .non (upd H l (.lst xs.reverse))
theorem Zh:MtM X "list.reverse" QB:=by
 intro pins s σ H x vs v L Q I G D h;obtain⟨l,xs,rfl,rfl,g,q⟩:=h;cases G;have B:=D.zero;subst B;obtain⟨z,j,n,r,J,e⟩:=I.lstM g;refine Cs F.slot_list_reverse ⟨_,e,rfl⟩ F.entry_list_reverse (F.args_list_reverse_1 _) (AutoSeq1.list_reverse_list_0 l j.toArray n (by grind)) ⟨e,⟨.non,_,I.lset (its':=j.reverse) g e (by simp) r.reverse ?_,rfl,q⟩⟩;rw[Bk]
 lia
def rCat:R2:=fun x y H Q=>∃l b xs zs,x=.ref l/\y=.ref b/\H l=some (.lst xs)/\H b=some (.lst zs)/\xs.length+zs.length<=sizeLine/\∀p,H p=none->Q (.ref p) (upd H p (.lst (xs++zs)))
theorem op_cat:OpR X (binaryOp .Add) rCat:=by
 intro pins s σ H x y v u Q I L M h;obtain⟨l,b,xs,zs,rfl,rfl,G,F,S,q⟩:=h;cases L;cases M;obtain⟨z,g,n,r,N,e⟩:=I.lstM G;obtain⟨W,j,U,J,O,B⟩:=I.lstM F;refine PySem.P.add_list e B ?_ (by grind);have D:g.toArray++j.toArray=(g++j).toArray:=by simp
 exact D▸⟨.ref _,_,I.lnew (t':=s.toks) (r.append J) (by grind),rfl,q _ I.fresh⟩
end
section
variable {κ:Type}[DecidableEq κ]
noncomputable def pY(kvs:List (κ×V))(k:κ):Option V:=(kvs.find? fun g=>decide (g.1=k)).map (·.2)
noncomputable def qV(kvs:List (κ×V))(k:κ)(v:V):List (κ×V) :=
 if (kvs.any fun g=>decide (g.1=k))=true then kvs.map (fun g=>if g.1=k then (g.1,v) else g) else kvs++[(k,v)]
theorem tF{k:κ}(e:p.1=k):pY (p::r) k=some p.2 :=by simp_all[pY]
theorem eF{k:κ}(e:¬ p.1=k):pY (p::r) k=pY r k :=by simp_all[pY]
theorem bN k:∀kvs:List (κ×V),(kvs.any fun g=>decide (g.1=k))=(pY kvs k).isSome
 |[]=>rfl
 |p::r=>by
  rw[BA]
  by_cases e:p.1=k
  .simp only[tF e,decide_eq_true e,Bool.true_or,Option.isSome_some]
  .rw [eF e,AR e];exact bN k r
theorem xW kvs(k:κ)v:(qV kvs k v).length<=kvs.length+1 :=by grind[qV,List.length_map,List.length_append,List.length_cons,List.length_nil]
theorem RelO.isSome_eq(r:RelO o u):o.isSome=u.isSome:=by
 cases o with
 |none=>cases u with
  |none=>rfl
  |some _=>exact r.elim
 |some _=>cases u with
  |none=>exact r.elim
  |some _=>rfl
theorem RelO.getD(r:RelO o u)(g:RelV d d'):RelV (o.getD d) (u.getD d'):=by
 cases o with
 |none=>cases u with
  |none=>exact g
  |some _=>exact r.elim
 |some _=>cases u with
  |none=>exact r.elim
  |some _=>exact r
theorem KV.val(r:KV kvs vs)(k:κ):RelO (pY kvs k) (valueAt vs k):=by
 induction r with
 |nil=>exact True.intro
 |@cons p q ps qs h t j =>
  obtain⟨h1,h2⟩:=h
  by_cases e:p.1=k
  .have g:=h1.symm.trans e
   have b:valueAt (q::qs) k=some q.2:=by simp[valueAt,List.find?_cons,g]
   rwa [tF e,b]
  .have g:¬ q.1=k:=fun z=>e (h1.trans z)
   have b:valueAt (q::qs) k=valueAt qs k:=by simp[valueAt,List.find?_cons,g]
   rwa [eF e,b]
theorem KV.any(r:KV kvs vs)(k:κ):(kvs.any fun g=>decide (g.1=k))=vs.any fun g=>decide (g.1=k):=by
 induction r with
 |nil=>rfl
 |cons h t j=>rw[BA,BA,j,h.1]
theorem KV.repl(r:KV kvs vs)(k:κ)(B:RelV y u):
  KV (kvs.map fun g=>if g.1=k then (g.1,y) else g) (vs.map fun g=>if g.1=k then (g.1,u) else g):=by
 induction r with
 |nil=>exact .nil
 |@cons p q ps qs h t j =>
  refine .cons ?_ j;obtain⟨h1,h2⟩:=h
  by_cases e:p.1=k
  .lia
  .lia
theorem KV.put(r:KV kvs vs)(k:κ)(g:RelV y u):KV (qV kvs k y) (stored vs k u):=by
 delta qV stored
 rw[r.any k]
 by_cases e:(vs.any fun j=>decide (j.1=k))=true
 .rw [Ac e,Ac e];exact r.repl k g
 .rw [Ad e,Ad e];exact Paired.snoc r ⟨rfl,g⟩
theorem KV.length{vs:List (κ×Value)}(r:KV kvs vs):kvs.length=vs.length:=Paired.length r
end
theorem dO(r:RelV (kV k) u):(qX P w).is k u=true:=by
 rcases k with (_ | i) | x
 .cases r;exact yA P w
 .obtain ⟨t,rfl⟩:=r;exact QZ P w i t
 .obtain ⟨t,rfl⟩:=r;exact QY P w x t
theorem lO: ∀{g}{j},Vals (g.map kV) j->ItemsAre (qX P w) g j
 |[],_,r=>by cases r;exact .nil
 |k::g,_,r=>by
  cases r with
  |cons h t=>exact .cons (dO h) (lO t)
abbrev KT(H:Hp):List (List Key×V)->List (List Key×Addr×Value)->Prop:=Paired fun p q=>p.1=q.1/\H q.2.1=some (.tup (p.1.map kV))/\RelV p.2 q.2.2
theorem KT.val(r:KT H kvs xs)k:RelO (pY kvs k) ((atKey xs k).map (·.2)):=by
 induction r with
 |nil=>exact True.intro
 |@cons p q ps qs h t j =>
  obtain⟨h1,_,h2⟩:=h
  by_cases e:p.1=k
  .have g:=h1.symm.trans e
   have b:atKey (q::qs) k=some q.2:=by simp[atKey,List.find?_cons,g]
   rwa [tF e,b]
  .have g:¬ q.1=k:=fun z=>e (h1.trans z)
   have b:atKey (q::qs) k=atKey qs k:=by simp[atKey,List.find?_cons,g]
   rwa [eF e,b]
theorem KT.repl(r:KT H kvs xs)k(D:RelV y u):
  KT H (kvs.map fun g=>if g.1=k then (g.1,y) else g) (xs.map (putAt k u)):=by
 induction r with
 |nil=>exact .nil
 |@cons p q ps qs h t j =>
  refine .cons (kH h fun h1 h2 B=>?_) j
  delta putAt
  by_cases e:p.1=k
  .lia
  .lia
theorem KT.put(r:KT H kvs xs)k(j:H b=some (.tup (k.map kV)))(g:RelV y u):
  KT H (qV kvs k y) (storedH xs k b u):=by
 have e:(kvs.any fun B=>decide (B.1=k))=(atKey xs k).isSome:=by
  rw[bN,(r.val k).isSome_eq,Option.isSome_map]
 delta qV storedH
 rw[e]
 by_cases q:(atKey xs k).isSome=true
 .rw [Ac q,Ac q];exact r.repl k g
 .rw [Ad q,Ad q];exact Paired.snoc r ⟨rfl,j,g⟩
theorem KT.keeps(r:KT H kvs xs)(g:∀b ys,H b=some (.tup ys)->H' b=some (.tup ys)):KT H' kvs xs :=
 Paired.mapP r fun _ _ z=>⟨z.1,g _ _ z.2.1,z.2.2⟩
section
variable {P:Program}{w:World}{H:Hp}{h:Heap}{a:Addr}
theorem rd_of(g:HOk P w H h)(e:Rd H a u):ObjOk P w H h a u:=e.ok g
theorem iO(g:HOk P w H h)(e:Rd H a (.dK kvs)):kvs.length<=sizeLine/\(a==sysModules)=false/\∃vs,KV kvs vs/\h.DictOf (qX P w) a vs :=
 show ObjOk P w H h a (.dK kvs) from rd_of g e
theorem yR(g:HOk P w H h)(e:H a=some (.dK kvs)):kvs.length<=sizeLine/\(a==sysModules)=false/\∃vs,KV kvs vs/\h.DictOf (qX P w) a vs:=iO g (.inl e)
theorem xB(B:HOk P w H h)(e:H a=some (.tup (q.map kV))):(tupleKind (qX P w)).is h q a:=by
 obtain⟨_,j,r,o,h1,h2,⟨n,g⟩,_⟩:=(B a _ e);exact⟨o,j.toArray,n,h1,h2,g,by simpa using lO r⟩
theorem Xp(B:HOk P w H h)(e:Rd H a (.dT kvs)):kvs.length<=sizeLine/\(a==sysModules)=false /\
  ∃xs,KT H kvs xs/\h.DictOfH (tupleKind (qX P w)) a xs:=by
 obtain⟨z,y,xs,r,o,es,ep,h1,h2,F,G,I⟩:=(rd_of B e);refine⟨z,y,xs,r,o,es,ep,h1,h2,F,G,fun x g=>?_,I⟩
 have D:∀{l:List (List Key×V)}{m:List (List Key×Addr×Value)},KT H l m->∀x∈m,(tupleKind (qX P w)).is h x.1 x.2.1:=by
  intro l m q
  induction q with
  |nil=>intro x g;exact nomatch g
  |@cons p q ps qs j t J =>
   intro x g
   rcases Ai.mp g with e | g
   .subst e
    exact xB B (j.1▸j.2.1)
   .exact J x g
 exact D r x g
theorem Ga(g:HOk P w H h)(e:H a=some (.dT kvs)):kvs.length<=sizeLine/\(a==sysModules)=false /\
  ∃xs,KT H kvs xs/\h.DictOfH (tupleKind (qX P w)) a xs:=Xp g (.inl e)
end
def DGet(H:Hp)(a:Addr)(y:V)(r:Option V):Prop :=
 (∃kvs k,Rd H a (.dK kvs)/\y=kV k/\r=pY kvs k)\/∃kvs k b,Rd H a (.dT kvs)/\y=.ref b/\H b=some (.tup (k.map kV))/\r=pY kvs k
def DPut(H:Hp)(a:Addr)(y v:V)(H':Hp):Prop :=
 (∃kvs k,H a=some (.dK kvs)/\y=kV k/\kvs.length < sizeLine/\H'=upd H a (.dK (qV kvs k v))) \/
 ∃kvs k b,H a=some (.dT kvs)/\y=.ref b/\H b=some (.tup (k.map kV))/\kvs.length < sizeLine/\H'=upd H a (.dT (qV kvs k v))
theorem DGet.t{k}(e:H a=some (.dT kvs))(g:H b=some (.tup (k.map kV))):DGet H a (.ref b) (pY kvs k):=.inr ⟨kvs,k,b,.inl e,rfl,g,rfl⟩
theorem DPut.k{k}(e:H a=some (.dK kvs))(g:kvs.length < sizeLine):DPut H a (kV k) v (upd H a (.dK (qV kvs k v))):=.inl ⟨kvs,k,e,rfl,g,rfl⟩
theorem DPut.t{k}(e:H a=some (.dT kvs))(g:H b=some (.tup (k.map kV)))(j:kvs.length < sizeLine):
  DPut H a (.ref b) v (upd H a (.dT (qV kvs k v))):=.inr ⟨kvs,k,b,e,rfl,g,j,rfl⟩
section
variable {X:Cx}{pins:List (Addr×Obj)}{σ:St}{H:Hp}{s:Shared}{a:Addr}{y v:V}{u r:Value}{o:Option V}{A:Around}{E:Value->Shared->Prop}
theorem Inv.big(I:Inv X pins σ H s):sysModules < s.heap.objs.size :=Nat.lt_trans (by decide) ((I.mod.glob.keeps I.bk).lt)
theorem Vr(S:A.units+1 < cLine)(I:Inv X pins σ H s)(g:DGet H a y (some v))(J:RelV y u)(h:∀j s',Inv X pins σ H s'->RelV v j->Q j s'):
  wpAny (model X.prog X.w) A (getItem (.ref a) u) Q E s:=by
 rcases g with ⟨kvs,k,e,B,l⟩ | ⟨kvs,k,b,e,B,L,l⟩
 .subst B
  obtain⟨z,M,vs,F,q⟩:=iO I.hok e;exact oQ (RelO.some_of (l▸F.val k)) fun j D G=>wpAny_getItem_of (dO J) q.mapOf D (h j _ (I.tok _) G)
 .subst B
  cases J;obtain⟨z,M,xs,F,q⟩:=Xp I.hok e;refine oQ (RelO.some_of (l▸F.val k)) fun j D G=>oQ (Option.map_eq_some_iff.mp D) fun p N O=>?_;exact wpAny_getItem_heap (tupleKind_room_in1 S) (xB I.hok L) q N (O▸h j _ (I.tok _) G)
theorem cH(I:Inv X pins σ H s)(D:Mut (H a))(hs:Heap.SameBut a s.heap h')(B:∃q,h'.get? a=some q)(F:ObjOk X.prog X.w (upd H a g) h' a g):
  Inv X pins σ (upd H a g) { s with heap:=h',toks:=t' } :=
 I.write D (.inl rfl) (fun b q j z=>(hs.2 b j).trans z) B F
theorem aA(z:kvs.length<=sizeLine)(j:(a==sysModules)=false)(q:KV kvs vs)(g:h'.DictOf (qX P w) a vs):
  ObjOk P w H' h' a (.dK kvs):=⟨z,j,vs,q,g⟩
theorem Vq(hu:A.units+1 < cLine)(I:Inv X pins σ H s)(g:DPut H a y v H')(U:RelV y u)(S:RelV v r)(h:∀s',Inv X pins σ H' s'->Q () s'):
  wpAny (model X.prog X.w) A (setItem (.ref a) u r) Q E s:=by
 rcases g with ⟨kvs,k,e,J,l,G⟩ | ⟨kvs,k,b,e,J,N,l,G⟩
 .subst J G
  obtain⟨z,L,vs,j,F⟩:=yR I.hok e;have hz:vs.length<=sizeLine:=by rwa [<- j.length]
  have M:(qV kvs k v).length<=sizeLine:=by have:=xW kvs k v;lia
  refine wpAny_setItem_pairs (dO U) F fun h' B hs=>h _ ?_;have ab:∃q,h'.get? a=some q:=let ⟨q,_,_,D,_⟩:=B;⟨q,D⟩
  exact cH I (e▸True.intro) hs ab (aA M L (j.put k S) B)
 .subst J G
  cases U;obtain⟨z,L,xs,j,F⟩:=Ga I.hok e;have hz:xs.length<=sizeLine:=by rwa [<- Paired.length j]
  have M:(qV kvs k v).length<=sizeLine:=by have:=xW kvs k v;lia
  refine wpAny_setItem_heap (tupleKind_room_in1 hu) (xB I.hok N) F fun h' B hs=>h _ (el36 B fun q es ep D h2 W Y _ Z=>cH I (e▸True.intro) hs ⟨q,D⟩ ⟨M,L,_,(j.put k N S).keeps fun c ys O=>?_,q,es,ep,D,h2,W,Y,Z⟩);rw[mQ (Yc O e (fun z=>nomatch z))];exact O
end
section
variable {X:Cx}{pins:List (Addr×Obj)}{σ:St}{H:Hp}{s:Shared}{a:Addr}{kvs:List (Key×V)}{k:Key}{u:Value}{A:Around}{E:Value->Shared->Prop}
theorem d_len(I:Inv X pins σ H s)(e:Rd H a (.dK kvs))(h:∀t s',Inv X pins σ H s'->Q (.int kvs.length t) s'):wpAny (model X.prog X.w) A (call (.builtin "len") [.ref a]) Q E s:=by
 obtain⟨z,q,vs,g,j⟩:=iO I.hok e
 apply call_len_dict q j (by rw[<- g.length];rw[Bx] at z;lia)
 exact g.length▸h _ _ (I.tok _)
end
def Z8(i:Expr):Prop:=∀j g,subscripted i false j g=operate [j,g] (getItem j g)
theorem Jq{id}(J:typeLookup (.type T) "__getitem__" = pure (some (.builtin id)))(hs:Z8 B)(h:wpAny (model prog w) A (eval value D) (fun o F=>wpAny (model prog w) A (eval B D) (fun i g=>g.TypeIs o T/\wpAny (model prog w) A (getItem o i) Q E g) E F) E s):
  wpAny (model prog w) A (eval (.Subscript value B pos) D) Q E s:=by
 refine Subscript_ (BK h (fun o F L=>BK L (fun i g q=>?_) fun _ _ x=>x) fun _ _ x=>x);obtain⟨I,q⟩:=q
 apply AA
 refine AA (BG I J ?_);have j:wpAny (model prog w) A (subscripted B false o i) (fun r G=>wpAny (model prog w) A (letTemporaryGo value o r >>= fun _=>pure r) Q E G) E g :=(hs o i)▸wpAny_operating (BK q (fun r G M=>AA (wpAny_letTemporaryGo (AF M))) fun _ _ x=>x)
 first
  |exact AF (AA j)
  |exact AA (AF (AA j))
  |exact AA j
theorem Xt{σ:St}(I:Inv X pins σ H s)(g:DGet H a y o):s.TypeIs (.ref a) "dict":=by
 rcases g with ⟨kvs,k,e,_,_⟩ | ⟨kvs,k,b,e,_,_,_⟩
 .obtain ⟨_,_,vs,_,j⟩:=iO I.hok e
  exact j.typeIs
 .obtain ⟨_,_,xs,_,j⟩:=Xp I.hok e
  exact j.typeIs
def tDGet(td ty:TE):TE:=fun σ H Q=>td σ H fun x H1=>ty σ H1 fun y H2=>∃a v,x=.ref a/\DGet H2 a y (some v)/\Q v H2
def sDPut(td ty tv:TE):TS:=fun D σ H=>tv σ H fun v H1=>td σ H1 fun x H2=>ty σ H2 fun y j=>∃a g,x=.ref a/\DPut j a y v g/\D.nx σ g
section
variable {X:Cx}{o i e value:Expr}{pos pos' tpos:Pos}{td ty tv:TE}
theorem pe_dget(F:X.A.units+1 < cLine)(D:PE X o td)(hi:PE X i ty)(hs:Z8 i):PE X (.Subscript o i pos) (tDGet td ty):=by
 intro pins s σ H Q I h;refine Jq PySem.F.slot_dict_getitem.lookup hs (thn (D pins s σ H _ I h) fun u O ⟨x,H1,q,M,G⟩=>thn (hi pins O σ H1 _ q G) fun U W S=>?_);obtain⟨y,H2,j,N,a,v,rfl,g,J⟩:=S;obtain rfl:u=Value.ref a:=M;exact⟨Xt j g,Vr F j g N fun Z Y B L=>⟨v,H2,B,L,J⟩⟩
theorem ps_dput(J:X.A.units+1 < cLine)(G:PE X o td)(hi:PE X i ty)(L:PE X value tv)(hs:swapsWith value (some (.Subscript o i pos')) pos.line X.env=pure false):
  PS X (.Assign [.Subscript o i pos'] value pos) (sDPut td ty tv):=by
 intro pins s σ H ab I h;refine wpAny_Assign_Subscript (thn (L pins s σ H _ I h) fun r Y ⟨v,H1,q,S,M⟩=>thn (G pins Y σ H1 _ q M) fun u Z ⟨x,H2,B,U,N⟩=>thn (hi pins Z σ H2 _ B N) fun iv ae zq=>?_) hs;obtain⟨y,H3,D,W,a,j,rfl,g,O⟩:=zq;obtain rfl:u=Value.ref a:=U;exact Vq J D g W S fun af F=>⟨σ,j,F,O⟩
end
theorem Xs(h:Heap)(g:sysModules < h.objs.size):ObjOk P w H (h.push { cls:=.type "dict",data:=.dict #[] }) h.objs.size (.dK []) :=
 ⟨Ab _,beq_eq_false_iff_ne.mpr (Ne.symm (AZ g)),[],.nil,Heap.DictOf.new h⟩
theorem vR(h:Heap)(g:sysModules < h.objs.size):ObjOk P w H (h.push { cls:=.type "dict",data:=.dict #[] }) h.objs.size (.dT []) :=
 ⟨Ab _,beq_eq_false_iff_ne.mpr (Ne.symm (AZ g)),[],.nil,_,#[],0,AM _ rfl,⟨rfl,rfl,rfl⟩,rfl,rfl,BZ⟩
def V4:TE:=fun _ H Q=>∀p,H p=none->Q (.ref p) (upd H p (.dK []))
def V3:TE:=fun _ H Q=>∀p,H p=none->Q (.ref p) (upd H p (.dT []))
section
variable {X:Cx}{pos:Pos}
theorem WN:PE X (.Dict [] [] pos) V4:=fun pins s σ H Q I h=>
 wpAny_Dict_empty ⟨.ref s.heap.objs.size,_,I.laid (t':=s.toks) (fun _ _ q=>AC _ q) (AJ _) (Xs s.heap I.big),rfl,h _ (I.hok.fresh (AJ _))⟩
theorem WM:PE X (.Dict [] [] pos) V3:=fun pins s σ H Q I h=>
 wpAny_Dict_empty ⟨.ref s.heap.objs.size,_,I.laid (t':=s.toks) (fun _ _ q=>AC _ q) (AJ _) (vR s.heap I.big),rfl,h _ (I.hok.fresh (AJ _))⟩
end
def rE:List (TE×TE)->St->Hp->(List (V×V)->Hp->Prop)->Prop
 |[],_,H,Q=>Q [] H
 | (j,tv)::r,σ,H,Q=>j σ H fun x H1=>tv σ H1 fun y H2=>rE r σ H2 fun ps g=>Q ((x,y)::ps) g
abbrev VV:List (V×V)->List (Value×Value)->Prop:=Paired fun p q=>RelV p.1 q.1/\RelV p.2 q.2
def PPs(X:Cx)(pos:Pos)(keys:List (Option Expr))(values:List Expr)(g:List (TE×TE)):Prop :=
 ∀(pins:List (Addr×Obj))(s:Shared)(σ:St)(H:Hp)(Q:List (V×V)->Hp->Prop),Inv X pins σ H s->rE g σ H Q ->
  wpAny (model X.prog X.w) X.A (evalPairs (pairTrees keys values X.env pos)) (fun vs s'=>∃ps H',Inv X pins σ H' s'/\VV ps vs/\Q ps H') X.xe s
theorem pps_nil: PPs X pos [] [] []:=fun pins s σ H Q I h=>pairTrees_nil_walk ⟨[],H,I,.nil,h⟩
theorem WC(D:PE X k Z)(G:PE X v tv)(F:PPs X pos J vs ab):
  PPs X pos (some k::J) (v::vs) ((Z,tv)::ab):=fun pins s σ H Q I h=>
 pairTrees_cons_walk (thn (D pins s σ H _ I h) fun u W ⟨x,H1,j,S,L⟩=>thn (G pins W σ H1 _ j L) fun w2 Y ⟨y,H2,q,U,M⟩ =>
  thn (F pins Y σ H2 _ q M) fun af ae ⟨ps,g,B,O,N⟩=>⟨(x,y)::ps,g,B,.cons ⟨S,U⟩ O,N⟩)
noncomputable def kY(kvs j:List (Key×V)):List (Key×V):=j.foldl (fun acc g=>qV acc g.1 g.2) kvs
theorem KV.merge:∀{g}{rs}{kvs}{vs},KV g rs->KV kvs vs->KV (kY kvs g) (merged vs rs):=by
 intro g rs kvs vs r
 induction r generalizing kvs vs with
 |nil=>intro q;exact q
 |@cons p q ps qs h t j =>
  intro B
  have e:KV (qV kvs p.1 p.2) (stored vs q.1 q.2):=by
   have:=B.put p.1 h.2
   rwa [<- h.1]
  exact j e
theorem zW:∀g kvs,(kY kvs g).length<=kvs.length+g.length
 |[],kvs=>by show kvs.length<=kvs.length+0;lia
 |p::r,kvs=>by
  have h1:=zW r (qV kvs p.1 p.2);have h2:=xW kvs p.1 p.2;show(kY (qV kvs p.1 p.2) r).length<=_;rw[AL];lia
theorem oR: ∀{kvs}{j},VV (kvs.map fun g=>(kV g.1,g.2)) j->∃rs,Carries (qX P w) j rs/\KV kvs rs
 |[],_,r=>by cases r;exact⟨[],True.intro,.nil⟩
 |p::kvs,_,r=>by
  cases r with
  |@cons a b as bs h t =>
   obtain⟨rs,c,q⟩:=(oR (P:=P) (w:=w) t);obtain⟨D,B⟩:=b;exact⟨(p.1,B)::rs,⟨dO h.1,rfl,c⟩,.cons ⟨rfl,h.2⟩ q⟩
def tDisp(j:List (TE×TE)):TE:=fun σ H Q=>∀p,H p=none->rE j σ (upd H p (.dK [])) fun ps H2=>H2 p=some (.dK [])/\∃kvs:List (Key×V),ps=kvs.map (fun g=>(kV g.1,g.2))/\kvs.length<=15/\Q (.ref p) (upd H2 p (.dK (kY [] kvs)))
theorem pe_disp(h:PPs X pos keys values Z)(G:keys.all (·.isSome)=true)(M:keys.length=values.length)(h0:keys≠[])(F:keys.length<=15):PE X (.Dict keys values pos) (tDisp Z):=by
 intro pins s σ H Q I q;have B:=I.laid (h':=s.heap.push { cls:=.type "dict",data:=.dict #[] }) (t':=s.toks) (fun _ _ q=>AC _ q) (AJ _) (Xs s.heap I.big);refine wpAny_Dict_walk (knd:=qX X.prog X.w) G M h0 F (thn (h pins _ σ _ _ B (q _ (I.hok.fresh (AJ s.heap.objs.size)))) fun af ab zq=>?_);obtain⟨ps,H2,g,W,e,kvs,rfl,lk,S⟩:=zq;obtain⟨rs,c,Y⟩:=oR W
 obtain⟨z,J,ae,U,D⟩:=yR g.hok e;cases U;refine⟨rs,c,D,fun h' j hs=>⟨.ref s.heap.objs.size,_,?_,rfl,S⟩⟩
 have O:(kY [] kvs).length<=sizeLine:=by
  have h1:=zW kvs [];rw[Co] at h1;rw[Bx];lia
 have L:∃q,h'.get? s.heap.objs.size=some q:=let ⟨q,_,_,N,_⟩:=j;⟨q,N⟩
 exact cH g (e▸True.intro) hs L (aA O J (Y.merge .nil) j)
structure M2(X:Cx)(o:Expr)(m:Str)(apos:Pos)(e f:Expr)(cpos:Pos):Prop where
 base:attributeBase o m X.env (eval o X.env)=eval o X.env
 few:((backTo cpos (starEach [e,f] X.env)).all (fun x=>!x.1)&&(backToKw cpos (keywordEach [] X.env)).all (fun x=>x.1.isSome)
  && decide (([e,f]:List Expr).length+([]:List Keyword).length+(if ([]:List Keyword).isEmpty then 0 else 1) < 30))=true
 line:(apos.endLine==cpos.line)=true
 trees:backTo cpos (starEach [e,f] X.env)=[(false,eval e X.env),(false,eval f X.env)]
def IsD(H:Hp)(a:Addr):Prop:=(∃kvs,Rd H a (.dK kvs))\/∃kvs,Rd H a (.dT kvs)
theorem isD_at{σ:St}(I:Inv X pins σ H s)(d:IsD H a):
  s.TypeIs (.ref a) "dict"/\(∀b,Value.ref a=.ref b->∃g,s.heap.get? b=some g/\g.dict=none)/\(a==sysModules)=false:=by
 rcases d with ⟨kvs,e⟩ | ⟨kvs,e⟩
 .obtain ⟨_,B,vs,_,j⟩:=iO I.hok e
  refine⟨j.typeIs,fun b q=>?_,B⟩;cases q;exact Xn j fun g _ _ h1 h2 _=>⟨g,h1,h2.2.1⟩
 .obtain ⟨_,B,xs,_,j⟩:=Xp I.hok e
  refine⟨j.typeIs,fun b q=>?_,B⟩;cases q;exact Xn j fun g _ _ h1 h2 _=>⟨g,h1,h2.2.1⟩
section
variable {X:Cx}{pins:List (Addr×Obj)}{σ:St}{H:Hp}{s:Shared}{a:Addr}{y d:V}{u r:Value}{o:Option V}{A:Around}{E:Value->Shared->Prop}
theorem d_get2(M:A.units+1 < cLine)(I:Inv X pins σ H s)(g:DGet H a y o)(G:RelV y u)(F:RelV d r)(h:∀J s',Inv X pins σ H s'->RelV (o.getD d) J->Q J s'):
  wpAny (model X.prog X.w) A (call (.builtin "dict.get") [.ref a,u,r]) Q E s:=by
 rcases g with ⟨kvs,k,e,q,l⟩ | ⟨kvs,k,b,e,q,L,l⟩
 .subst q
  obtain⟨z,B,vs,D,j⟩:=iO I.hok e;exact DN Bt j.typeIs DP (PySem.F.args_dict_get_3 _ _ _) (meets_dict_get_default (qX X.prog X.w) a (dO G) B r) ⟨_,j.mapOf,h _ _ (I.tok _) (l▸(D.val k).getD F)⟩
 .subst q
  cases G;obtain⟨z,B,xs,D,j⟩:=Xp I.hok e;exact DN Bt j.typeIs DP (PySem.F.args_dict_get_3 _ _ _) (meetsH_dict_get_default (tupleKind (qX X.prog X.w)) a b B r) ⟨tupleKind_room_in1 M,k,xs,xB I.hok L,j,h _ _ (I.tok _) (l▸(D.val k).getD F)⟩
end
def V5(td ty tx:TE):TE:=fun σ H Q=>td σ H fun x H1=>∃a,x=.ref a/\IsD H1 a/\ty σ H1 fun y H2=>tx σ H2 fun z g=>∃o,DGet g a y o/\Q (o.getD z) g
section
variable {X:Cx}{o e f:Expr}{apos cpos:Pos}{td ty tx:TE}
theorem WO(M:X.A.units+1 < cLine)(L:PE X o td)(G:PE X e ty)(J:PE X f tx)(m:M2 X o "get" apos e f cpos):PE X (.Call (.Attribute o "get" apos) [e,f] [] cpos) (V5 td ty tx):=by
 intro pins s σ H Q I h;refine wpAny_Call_method m.base m.few m.line DG Bt PySem.F.type_dict_get (thn (L pins s σ H _ I h) fun u ab zq=>?_);obtain⟨x,H1,j,W,a,rfl,d,N⟩:=zq;obtain rfl:u=Value.ref a:=W
 exact kH (isD_at j d) fun af t2 _=>⟨af,t2,m.trees▸CZ rfl (Di (Calls.spliced_cons (thn (G pins ab σ H1 _ j N) fun iv ae ⟨y,H2,B,Y,O⟩ =>
  Calls.spliced_cons (thn (J pins ae σ H2 _ B O) fun fv ag ⟨z,q,D,Z,ov,g,S⟩=>Calls.spliced_nil (d_get2 M D g Y Z fun w' ah F U=>⟨_,q,F,U,S⟩)))))⟩
end
end L2
namespace Att
open PySem PySem.W PySem.Calls PyProof.Rows
theorem xH: ∀ns vs,WellAll P h vs (ns.map WData.int)->IntsAre vs ns:=by
 intro ns
 induction ns with
 |nil =>
  intro vs w;cases w;exact .nil
 |cons n ns g =>
  intro vs w
  cases w with
  |cons a b =>
   cases a;exact .cons _ _ (g _ b)
theorem KF{l:OpenLaw}(L:l.most=some n)(F:l.row.toRowW.claim.pre g=true)(N:WellAll P h S g):
  ∃a vs ns,S=[Value.ref a]/\g=[WData.list (ns.map WData.int)]/\h.get? a=some { cls:=.type "list",data:=.seq vs.toArray }/\IntsAre vs ns/\ns.length<=n:=by
 have D:l.pre.holds [] { args:=g }=true:=(pre_splitW F).2;obtain⟨d,r,rfl,h1,h2⟩:=hasAllW_cons ((pre_splitW F).1);obtain rfl:=hasAllW_nil h2;obtain⟨xs,rfl,G⟩:=hasW_list h1;obtain⟨ns,rfl⟩:=items_int G
 have J:ns.length<=n:=by
  delta OpenLaw.pre at D
  have B:(WTm.not (.lt (.lit (.int (n:Int))) (.len (.arg 0)))).holds [] { args:=[.list (ns.map .int)] }=true:=by
   have B:=(holds_andW D).1
   rwa [L] at B
  have j:=condW_of B (w_not (w_lt w_lit (w_len_list (w_arg rfl))));rw[AB] at j;refine Nat.le_of_not_lt fun q=>?_;have O:(n:Int) < ((ns.length:Nat):Int):=by omega
  first
   | (rw[Af O] at j;exact absurd j (by decide))
   | (simp at j;lia)
 cases N with
 |cons U W =>
  cases W
  cases U with
  |list M I=>exact⟨_,_,ns,rfl,rfl,M,xH ns _ I,J⟩
theorem KJ(l:OpenLaw)g:l.row.toRowW.claim.post g (.bool true) g=true :=
 postW_of
  (show WShape.has [] (.bool true) .bool=true by first | rfl | decide | simp[ WShape.arms])
  (w_eq_bool (w_res rfl) w_lit) rfl
theorem attach_call{l:OpenLaw}(hn:l.most=some n)(ab:d.params.defaults=[])(N:∀w I g mg D j o F q B a vs ns,
   Ground ar aq [] L w I mg D g.heap->M w g.heap ->
   g.heap.get? j=some o->o.data=.func (docDef d.name d.params d.body d.scope F q B)->g.heap.CodeRec q d.name->mg d.name=some (.ref j) ->
   g.heap.get? a=some { cls:=.type "list",data:=.seq vs.toArray }->IntsAre vs ns->ns.length<=n->g.gens = #[] ->
   codeAny (model l.prog w) callerA (.call (.ref j) ⟨[.ref a],[]⟩) (fun r s'=>r=.ok (.ret (.bool true))/\OldK g.heap s'.heap/\s'.os=g.os/\AllBare s'.gens) g):
  WalkO ar aq L M l.row.toRowW d [] (fun f vs=>PySem.call f vs):=by
 intro w I g mg D G Y j o F q B O ao ho Z W J ah hg au ay as aj av ax ak aw;obtain rfl:O=.none:=Dflts.none J ab;obtain rfl:ao=.none:=Dflts.noKw J;obtain⟨a,vs,ns,rfl,rfl,ai,ae,af⟩:=KF hn aj ak;refine enter_call (DM (N w I g mg D j o F q B a vs ns G Y ho (fd_plain Z) W ah ai ae af hg) fun r s' hq=>?_);obtain⟨rfl,h2,S,U⟩:=hq
 exact⟨.inl ⟨.bool true,.bool true,[],rfl,fun _=>rfl,.bool true,KJ l _,fun _=>⟨List.Pairwise.nil,fun _ ag=>(nomatch ag)⟩⟩,h2,S,U⟩
end Att
namespace L2
open PySem PySem.Spec PyProof.Rows
theorem sT:∀{vs}{ns},IntsAre vs ns->Vals (ns.map V.int) vs
 |_,_,.nil=>.nil
 |_,_,.cons n t h=>.cons ⟨t,rfl⟩ (sT h)
def Only(H:Hp):Prop:=∀b,H b=none\/∃o xs,H b=some (.frz o (.lst xs))
theorem Yn{K}(I:K.In g.heap)(W:g.heap.Ns mainGlobals mg)(j:g.heap.Ns builtinsNs Z)(ah:∀x:Str,x ≠ "__name__"->Z x=bootBuiltins x)(aj:g.heap.NoLimit)(hg:g.gens = #[])(B:g.heap.get? a=some { cls:=.type "list",data:=.seq vs.toArray })(hi:IntsAre vs ns)(U:ns.length<=sizeLine)(hr:Room k callerA)(ae:∀base:Heap,K.In base->base.Ns mainGlobals mg->FnOk P w K mg base CX k N fd [x] sp)(ai:∀(s:Shared)(u:Value),BindsTo s fd ⟨[u],[]⟩ [(x,u)])(ao:∀H:Hp,Only H->SqL K H a (ns.map V.int)->sp [.ref a] H (fun v _=>v=.bl true) fun _ _ _=>False)(ag:∀H e s',CX [] H g (fun _ _ _=>False) e s'->False):
  codeAny (model P w) callerA (.call (.ref N) ⟨[.ref a],[]⟩) (fun r s'=>r=.ok (.ret (.bool true))/\OldK g.heap s'.heap/\s'.os=g.os/\AllBare s'.gens) g:=by
 have rv:=sT hi
 have L:∀H:Hp,Only H->SqL K H a (ns.map V.int)->HOk P w H g.heap->(∀b,H b≠none->b=a)->(H a≠none->K.lookup a=none) ->
   codeAny (model P w) callerA (.call (.ref N) ⟨[.ref a],[]⟩) (fun r s'=>r=.ok (.ret (.bool true))/\OldK g.heap s'.heap/\s'.os=g.os/\AllBare s'.gens) g:=by
  intro H S hS Y hA au;have J:∀{b:Addr}{o:Obj},g.heap.get? b=some o->H b=none->(Xd g.heap H).get? b=some o:=fun e n=>YK e n
  have aq:∀{b:Addr}{o:Obj}{es:Array DictEntry}{ep:Nat},g.heap.get? b=some o->o.data=.dict es ep->H b=none:=fun {b o es ep}e d=>by
   cases q:H b with
   |none=>rfl
   |some u =>
    have e':=hA b (by lia);subst e';rw[B] at e;cases e
    cases d
  have D:∀{b:Addr}{m:Str->Option Value},g.heap.Ns b m->(Xd g.heap H).Ns b m:=fun {b m} ⟨o,es,ep,e,d,r⟩=>⟨o,es,ep,J e (aq e d),d,r⟩;have O:K.In (Xd g.heap H):=fun b o e=>J (I b o e) (by grind);have e0:Env0 P w K mg (Xd g.heap H) callerA [] g H:=⟨rfl,(⟨O,D W,⟨Z,D j,ah⟩,let ⟨mc,h1,h2⟩:=aj;⟨mc,D h1,h2⟩⟩),fun b o e=>of_hidT e,B6 (Vn _ _),trivial,fun b j=>absurd (show b∈([]:List Addr) from j) (by simp),Y,.of_eq hg⟩
  refine DM ((ae _ O (D W)).run callerA [] g H ⟨[.ref a],[]⟩ [.ref a] [.ref a] _ _ hr e0 (ai g (.ref a)) (.cons rfl .nil) (ao H S hS)) fun r s' h=>?_
  cases r with
  |error e=>exact(ag H e s' h).elim
  |ok fl =>
   cases fl with
   |next=>exact False.elim h
   |brk=>exact False.elim h
   |cont=>exact False.elim h
   |ret u =>
    refine el26 h fun v H' ar af ab ak r' q=>?_;subst q;obtain rfl:u=Value.bool true:=r';refine⟨rfl,OldK.of_keep fun b o e=>?_,ar,af⟩
    cases q:H b with
    |none=>exact ab.keep b o e q (by intro z;exact absurd (show b∈([]:List Addr) from z) (by simp)) (by simp)
    |some u =>
     rcases S b with z | ⟨ob,xs,z⟩
     .lia
     .obtain ⟨M,_⟩:=Y b _ z
      obtain⟨e2,_⟩:=ak b _ (ab.frzs b ob _ z);rw[e] at M;cases M
      exact e2
 cases F:K.lookup a with
 |some o =>
  have e:=I a o F;rw[B] at e;cases e;refine L (fun _=>none) (fun _=>.inl rfl) (.inr ⟨_,vs.toArray,_,F,rfl,rfl,rfl,by rw[Ao,hi.length];exact U,by simpa using rv⟩) (fun b u z=>by have G:=z;cases G) (fun b z=>absurd rfl z) fun z=>absurd rfl z
 |none =>
  refine L (fun b=>if b=a then some (.frz { cls:=.type "list",data:=.seq vs.toArray } (.lst (ns.map V.int))) else none) (fun b=>?_) (.inl (.inr ⟨{ cls:=.type "list",data:=.seq vs.toArray },Ac rfl⟩)) (fun b u z=>?_) (fun b z=>?_) fun _=>F
  .grind
  .by_cases j:b=a
   .have G:=(Ac j).symm.trans z
    cases G;subst j;exact⟨B,by rw[AB];exact U,vs,_,rv,B⟩
   .lia
  .lia
theorem walk_of{l:PySem.W.OpenLaw}{K:Params->Dj}{CX:World->CXT}{sp:World->Sp}(Z:l.most=some n)(ab:n<=sizeLine)(O:d.params.defaults=[])(hr:Room k callerA)(M:∀(w:World)(h:Heap),B w h->(K w.params).In h)(F:∀(w:World)(mg:Str->Option Value)(g:Addr)(h:Heap),(K w.params).In h->h.Ns mainGlobals mg->mg d.name=some (.ref g) ->
   ∃fd:FuncData,(∀(s:Shared)(u:Value),BindsTo s fd ⟨[u],[]⟩ [(x,u)]) /\
    ∀base:Heap,(K w.params).In base->base.Ns mainGlobals mg->FnOk l.prog w (K w.params) mg base (CX w) k g fd [x] (sp w))(af:∀(w:World)(H:Hp)(a:Addr)(ns:List Int),ns.length<=n->Only H->SqL (K w.params) H a (ns.map V.int)->sp w [.ref a] H (fun v _=>v=.bl true) fun _ _ _=>False)(D:∀(w:World)(H:Hp)(s:Shared)(e:Value)(s':Shared),CX w [] H s (fun _ _ _=>False) e s'->False):
  PySem.W.WalkO ar ao XP B l.row.toRowW d [] (fun f vs=>PySem.call f vs):=by
 refine Att.attach_call Z O fun w au ag mg mb g o aq ah ai a vs ns G Y ho ak aj W ae U q S=>?_;have j:=M w _ Y;exact oQ (F w mg g _ j G.T.g W) fun fd N I=>Yn j G.T.g G.T.b G.T.builtins G.T.nolimit S ae U (Ah q ab) hr I N (fun H J L=>af w H a ns q J L) fun H e s'=>D w H ag e s'
noncomputable def tK(s:Stmt)(j:Nat):Stmt:=match s with
 |.ClassDef _ _ _ g _ _ _ _ _ _ _=>g.getD j (.Pass ⟨0,0,0,0⟩)
 |_=>.Pass ⟨0,0,0,0⟩
noncomputable def rY(s:Stmt):Arguments:=match s with
 |.FunctionDef _ a _ _ _ _ _ _ _ _=>a
 |_=>{ posonlyargs:=[],args:=[],vararg:=none,kwonlyargs:=[],kw_defaults:=[],kwarg:=none,defaults:=[] }
def cV(s:Stmt):List Stmt:=match s with
 |.FunctionDef _ _ b _ _ _ _ _ _ _=>b
 |_=>[]
def fX(s:Stmt):Scope:=match s with
 |.FunctionDef _ _ _ _ _ _ sc _ _ _=>sc
 |_=>{ kind:=.function,names:=[],isGenerator:=false,isCoroutine:=false }
abbrev CX0:CXT:=fun _ _ _ _ _ _=>False
abbrev E0:XK:=fun _ _ _=>False
theorem QG: aV CX0 X E0:=fun _ _ _ _ _ _ _ h=>h.elim
structure Fun(K:Dj)(x qual:Str)(st:Stmt)(f:Addr)(fd:FuncData):Prop where
 ex:∃(oc:Value)(od:Option Addr)(kV doc pm:Value)(an:Option Addr)(cdv ct:Value)(osl:Array (Option Value)),
  fd=PySem.W.fnOf x qual (rY st) (cV st) (fX st) .none kV doc pm an cdv ct/\K.lookup f=some ⟨oc,od,.func fd,osl⟩/\PySem.W.codeIn K cdv qual=true
 kp:PySem.W.keepIn K (.ref f)=true
section
variable {P:Program}{w:World}{K:Dj}{mg:Str->Option Value}{base:Heap}
theorem Fun.ok{st}(F:Fun K x B st f fd)(S:FnScope N ps (fX st))(L:∀vs H Q E,sp vs H Q E->vs.length=ps.length)(D:∀g A j s H vs Q E,Room k (A.deeper (envOfC B (fX st) s.heap.objs.size f g))->sp vs H Q E ->
   ∃t,PSs (Xu CX0 P w K mg base N B (fX st) f g A j s H E).nox (cV st) t/\t { nx:=fun _ H'=>Q .non H',rt:=Q } (start N vs) H):FnOk P w K mg base CX0 (k+1) f fd ps sp:=by
 obtain⟨Z,od,Y,W,ae,O,g,U,ab,rfl,M,G⟩:=F.ex;exact fn_of M G S L fun A j s H vs Q E I J=>oQ (D g A j s H vs Q E I J) fun t h q=>⟨t,h.nox,q⟩
theorem Fun.binds{st}(F:Fun K x J st f fd)(h:∀(D B G:Value)(g:Option Addr)(j q:Value)(I:List Value),I.length=ps.length->bindArgs (PySem.W.fnOf x J (rY st) (cV st) (fX st) .none D B G g j q) ⟨I,[]⟩=pure (ps.zip I)):Binds K fd ps []:=by
 obtain⟨N,O,D,B,G,g,j,q,S,rfl,M,L⟩:=F.ex;exact .all (h D B G g j q)
theorem sA{st}{q B g j}(l:K.lookup f=some ⟨I,J,.func (PySem.W.fnOf x D (rY st) (cV st) (fX st) .none q G B F g j),L⟩)(c:PySem.W.codeIn K g D=true)(k:PySem.W.keepIn K (.ref f)=true):Fun K x D st f (PySem.W.fnOf x D (rY st) (cV st) (fX st) .none q G B F g j):=⟨⟨I,J,q,G,B,F,g,j,L,rfl,l,c⟩,k⟩
end
theorem eX(g:Room k A):A.units+1 < cLine:=An (Nat.add_le_add_left (by lia) _) g.units
section
variable {X:Cx}
theorem pv i{pos}(g:X.N[i]?=some x:=by rfl)(B:Vis X.env.scope x:=by first | exact Or.inl rfl | exact Or.inr (Or.inl rfl) | exact Or.inr (Or.inr rfl))(q:(x==("__debug__" : Str))=false:=by decide)(j:(x==("__classdict__" : Str))=false:=by decide):PE X (.Name x pos) (tVar i):=WI g B q j
end
def Same(H H':Hp):Prop:=∀b o,H b=some o->H' b=some o
theorem Same.refl H:Same H H:=fun _ _ h=>h
section
variable {X:Cx}
theorem VD:CallR X (.builtin "len") (fun xs H Q=>∃a kvs,xs=[V.ref a]/\H a=some (.dK kvs)/\Q (.int kvs.length) H):=by
 intro pins s σ H xs B Q I r h;obtain⟨a,kvs,rfl,j,q⟩:=h;obtain⟨u,rfl,rfl⟩:=fU r;exact d_len I (.inl j) fun t s' g=>⟨.int kvs.length,H,g,⟨t,rfl⟩,q⟩
end
def sQ:Expr->Bool
 |.Starred _ _=>false
 |_=>true
theorem pJ(h:sQ e=true):starEach (e::es) g=(false,eval e g)::starEach es g:=by
 cases e<;>first | rfl | exact absurd h AS
theorem yG: ∀{es},es.all sQ=true->(backTo pos (starEach es g)).any (·.1)=false
 |[],_=>rfl
 |e::es,h=>by
  rw[DE,A3] at h;rw[pJ h.1];show(false || (backTo pos (starEach es g)).any (·.1))=false;rw[yG h.2]
  rfl
section
variable {X:Cx}{e:Expr}{es:List Expr}{te:TE}{t:TA}{x:Str}{p pos:Pos}
theorem qa_cons(g:PE X e te)(j:PA X es t)(hs:sQ e=true:=by rfl):PA X (e::es) (V6 te t):=pa_cons g j (pJ hs)
theorem qe_call(F:FnOk X.prog X.w X.K X.mg X.base CX k f fd ps sp)(L:Room k X.A)(G:Gl X x)(J:X.mg x=some (.ref f))(I:PySem.W.keepIn X.K (.ref f)=true)(q:Binds X.K fd ps ds)(B:Vals dvs ds)(M:aV CX X E)(g:PA X (e::es) t)(D:(x==("__debug__" : Str))=false:=by decide)(hs:sQ e=true:=by rfl)(j:es.all sQ=true:=by rfl):PE X (.Call (.Name x p) (e::es) [] pos) (V8 sp dvs E t) :=
 pe_call F L G J I q B M g D (pJ hs) (yG j)
theorem Wo{id}(q:CallR X (.builtin id) r)(D:Gl X x)(F:X.mg x=none)(I:bootBuiltins x=some (.builtin id))(g:PA X (e::es) t)(G:x ≠ "__name__":=by decide)(B:(x==("__debug__" : Str))=false:=by decide)(hs:sQ e=true:=by rfl)(j:es.all sQ=true:=by rfl):PE X (.Call (.Name x p) (e::es) [] pos) (tCB r t):=WS q D F I g G B (pJ hs) (yG j)
theorem KH(q:CallR X (.type T) r)(D:Gl X x)(F:X.mg x=none)(I:bootBuiltins x=some (.type T))(g:PA X (e::es) t)(G:x ≠ "__name__":=by decide)(B:(x==("__debug__" : Str))=false:=by decide)(hs:sQ e=true:=by rfl)(j:es.all sQ=true:=by rfl):PE X (.Call (.Name x p) (e::es) [] pos) (tCB r t):=KN q D F I g G B (pJ hs) (yG j)
end
section
variable {prog:Program}{w:World}{A:Around}{R:Result->Shared->Prop}{s:Shared}
theorem xI(I:Nat->Shared->Prop)(ab:∀n s,I n s->wpAny (model prog w) A (pyNext it) (fun r j=>match r with
   |none=>R (.ok .next) j
   |some v=>wpAny (model prog w) A (letOwnedTupleGo M it v) (fun _ j=>wpAny (model prog w) A (assign M q v) (fun _ G=>
     wpAny (model prog w) A (forIn Z true fun c r=>if r=true then do let g <- isTrue c q (eval c q);pure (ForInStep.yield g) else pure (ForInStep.yield r)) (fun g B=>
      if g=true then wpAny (model prog w) A (eval N q) (fun x J=>
       wpAny (model prog w) A (call (.builtin "list.append") [acc,x]) (fun _ L=>∃m,m < n/\I m L) (fun _ _=>False) J) (fun _ _=>False) B
      else ∃m,m < n/\I m B) (fun _ _=>False) G) (fun _ _=>False) j) (fun _ _=>False) j) (fun _ _=>False) s)n(h:I n s):
  codeAny (model prog w) A (.compLoop (.ListComp N [⟨M,ae,Z,0⟩] af pos) 0 it acc q) R s:=by
 refine codeAny_loop rfl I (fun n s O=>wpAny_noted (AA (wpAny_standAt (AA (BK (ab n s O) (fun r j D=>?_) fun _ _ h'=>False.elim h'))))) n h
 cases r with
 |none=>exact AF D
 |some v =>
  refine AA (BK D (fun _ ag S=>AA (BK S (fun _ G U=>AA (BK U (fun g B F=>?_) fun _ _ h'=>False.elim h')) fun _ _ h'=>False.elim h')) fun _ _ h'=>False.elim h')
  cases g with
  |false=>exact AF ⟨rfl,F⟩
  |true =>
   exact AA (AA (BK F (fun x J W=>AA (BK W (fun _ L Y=>AF (AF ⟨rfl,Y⟩)) fun _ _ h'=>False.elim h')) fun _ _ h'=>False.elim h'))
end
theorem uV{g:Env}:∀{B:List (Str×NameKind)}{y:Str}{k:NameKind},
  (B.map fun(n,k)=>if (k==NameKind.free&&g.scope.kind==.function&&g.kindOf n==some .cell) then (n,NameKind.cell) else (n,k)).lookup y=some k ->
   ∃j,(y,j)∈B/\(k=j\/(j=.free/\k=.cell))
 |[],_,_,h=>by simp at h
 | (n,D)::r,y,k,h=>by
  cases G:y==n with
  |true =>
   by_cases F:(D==NameKind.free&&g.scope.kind==.function&&g.kindOf y==some .cell)=true
   .grind
   .grind
  |false =>
   have h2:(r.map fun(n,k)=>if (k==NameKind.free&&g.scope.kind==.function&&g.kindOf n==some .cell) then (n,NameKind.cell) else (n,k)).lookup y=some k :=by grind
   exact oQ ((@uV g r y k) h2) fun j m q=>⟨j,AH _ m,q⟩
def VJ(X:Cx)(g:List Expr)(t:TT):Prop :=
 ∀(pins:List (Addr×Obj))(s:Shared)(σ:St)(H:Hp)(Q:Bool->Hp->Prop),Inv X pins σ H s->t σ H Q ->
  wpAny (model X.prog X.w) X.A (forIn g true fun c r=>if r=true then do let j <- isTrue c X.env (eval c X.env);pure (ForInStep.yield j) else pure (ForInStep.yield r)) (TP X pins σ Q) X.xe s
def tYes:TT:=fun _ H Q=>Q true H
theorem WE: VJ X [] tYes:=fun _ _ _ H _ I h=>wpAny_tests_nil ⟨H,I,h⟩
theorem WD(h:PT X c t):VJ X [c] t:=fun pins s σ H Q I g=>wpAny_tests_one (h pins s σ H Q I g)
noncomputable def cxN(X:Cx)(xs:List Str)(B:Scope)(j:List (Str×Addr))(q:List Addr)(C:Addr)(D:Shared)(g:Hp):Cx where
 prog:=X.prog
 w:=X.w
 K:=X.K
 mg:=X.mg
 base:=X.base
 A:=X.A
 N:=xs++X.N
 s₀:=D
 H₀:=g
 env:=compEnvC B j C X.env
 outer:=X.stack
 stack:=X.stack
 ex:=q
 fn:=fun _=>false
 calm:=X.calm
 pn:=[]
 xe:=fun _ _=>False
abbrev mK X x:=cxN X [x]
def Qo(q:TI)(tc:TT)(te:TE):TE:=fun σ H Q=>q σ H fun J H1=>∀D,H1 D=none->∃W:Nat->Nat->List V->Hp->Prop,(∃m,W 0 m [] (upd H1 D (.lst [])))/\∀i m ys H,W i m ys H ->
 (J.stop i H/\Q (.ref D) H)\/(J.go i H/\∀x H',J.yld i H x H'->tc (some x::σ) H' fun b H2=>
  if b=true then te (some x::σ) H2 fun y j=>j D=some (.lst ys)/\ys.length < sizeLine/\∃g,g < m/\W (i+1) g (ys++[y]) (upd j D (.lst (ys++[y])))
  else ∃g,g < m/\W (i+1) g ys H2)
section
variable {X:Cx}
structure oW(X:Cx)(xs:List Str)(scope:Scope)(cl:List (Str×Addr)):Prop where
 clos:closureFor scope X.env=pure cl
 cell:∀y∈scope.names,y.2≠.cell
 kind:scope.kind=.function
 names:∀y∈scope.names,y.2=.local->scope.names.lookup y.1=some .local
 hx:∀x∈xs,scope.names.lookup x=some .local
 loc:∀y∈scope.names,y.2=.local->y.1∉X.N
 free:∀y∈scope.names,y.2=.free->X.env.kindOf y.1≠some .local/\(X.env.kindOf y.1=some .cell\/X.env.kindOf y.1=some .free)/\∃c,cl.lookup y.1=some c
 cl:∀y c,cl.lookup y=some c->X.env.cells.lookup y=some c
abbrev rB X x:=oW X [x]
theorem uB{te:TE}{g:TG}{Tk:V->Hp->List V->Prop}{RR:Value->Addr->Result->Shared->Prop}{EE:Value->Shared->Prop}(hc:X.calm=true)(K:oW X xs L N)(hg:∀I C j F,PG (cxN X xs L N I C j F) tg g)(ht:∀I C j F,VJ (cxN X xs L N I C j F) a6 tc)(bz:∀I C j F,PE (cxN X xs L N I C j F) ay te){pins:List (Addr×Obj)}{σ:St}{j:Shared}{F:Hp}{it:Addr}{I:List Addr}{tn:Nat->Heap->Prop}{J:It}{Q:VK}(hG:∀bf vs x H Q,bf.length=xs.length->Tk x H vs->vs.length=xs.length->Q (vs.map some++σ) H->g x (bf++σ) H Q)(G:Inv X pins σ F j)(T:Z6 X.prog X.w X.K tg J I it tn)(bb:tn 0 j.heap)(S:∀b∈I,XN X pins F b)(R:∀D,F D=none->∃ae:Nat->Nat->List V->Hp->Prop,(∃m,ae 0 m [] (upd F D (.lst [])))/\∀i m ys H,ae i m ys H ->
   (J.stop i H/\Q (.ref D) H)\/(J.go i H/\∀x H',J.yld i H x H'->∃vs,Tk x H' vs/\vs.length=xs.length/\tc (vs.map some++σ) H' fun b H2=>
    if b=true then te (vs.map some++σ) H2 fun y W=>W D=some (.lst ys)/\ys.length < sizeLine/\∃O,O < m/\ae (i+1) O (ys++[y]) (upd W D (.lst (ys++[y])))
    else ∃O,O < m/\ae (i+1) O ys H2))(bu:∀(D C:Addr)(H:Hp)(U:Shared)(m:Str->Option Value),U.heap.Ns C m->C≠X.env.locals->H C=none->(∀x c,X.env.cells.lookup x=some c->c≠C)->j.heap.objs.size<=C->Inv X pins σ H U ->
   Q (.ref D) H->RR (.ref D) C (.ok .next) U):
  wpAny (model X.prog X.w) X.A (newList []) (fun acc ai=>wpAny (model X.prog X.w) X.A (newFunctionEnv L X.env.globals N [] X.env.qual none .none (some X.env)) (fun ax cj=>
   codeAny (model X.prog X.w) X.A (.compStart (.ListComp ay [⟨tg,b2,a6,0⟩] L pos) 0 (.ref it) acc { ax with scope:=relabel L X.env }) (RR acc ax.locals) cj) EE ai) EE j:=by
 refine A4 (wpAny_newFunctionEnv K.cell (by intro y hy;simp at hy) (fun ak ar aj=>?_) K.kind);dsimp only at ar aj ⊢;generalize aq:j.heap.push { cls:=.type "list",dict:=none,data:=.seq ([]:List Value).toArray }=H2 at ar aj ⊢;have hC:H2.objs.size=j.heap.objs.size+1:=by rw[<- aq,Bp]
 have a4:j.heap.objs.size≠H2.objs.size :=hC▸AZ (Bm _);have af:∀b,b < j.heap.objs.size->b≠H2.objs.size/\b≠j.heap.objs.size:=fun b B=>⟨by exact hC▸AZ (Nat.lt_succ_of_lt B),AZ B⟩;have ah:∀b o,j.heap.get? b=some o->ak.get? b=some o:=fun b o e=>aj.extBut b o (af b (AI e)).1 (AC _ (aq▸AC _ e));have fD:=G.hok.fresh (AJ _)
 have fC:F H2.objs.size=none:=G.hok.fresh (hC▸B0 _);have az:∀b∈I,b < j.heap.objs.size:=fun b B=>let ⟨o,e,_⟩:=T.obj _ _ bb b B;AI e
 obtain⟨ae,⟨b4,w0⟩,ck⟩:=R j.heap.objs.size fD
 have ao:(cxN X xs L N I H2.objs.size j F).Ok:=by
  refine⟨G.ok.mod,K.kind,G.ok.glob,G.ok.blt,?_,fun y z c h1 h2=>G.ok.inj y z c (K.cl y c h1) (K.cl z c h2),fun y hy=>?_,fun y c h _=>?_,G.ok.hd,G.ok.frames,.inl rfl,fun b B=>⟨(af b (az b B)).1,fun y c h=>(S b B).2.2.2.2.1 y c (K.cl y c h)⟩,G.bs,
   Ah G.ok.bsz G.sz,fun b o e B=>?_,fun b B z=>?_,G.stack,G.stkFree⟩
  .exact hC▸B0 _
  .have bo:(y,NameKind.free)∈L.names:=by
    rcases hy with q | q
    .obtain ⟨k0,M,z | ⟨z,_⟩⟩:=uV q
     .subst z;exact absurd rfl (K.cell _ M)
     .subst z;exact M
    .obtain ⟨k0,M,z | ⟨z,w⟩⟩:=uV q
     .subst z;exact M
     .cases w
   exact(K.free _ bo rfl).2.2
  .exact absurd h AS
  .refine zP (S b B) fun _ _ _ f3 _=>?_
   rcases f3 with z | z
   .exact G.ok.noex b o e z
   .exact absurd (AV (AI (G.ok.bs b o e).1) z) (A7 _)
  .refine kR (S b B) fun _ bh bj _=>?_
   rcases Ai.mp (G.stkSub b z) with q | q
   .exact bh q
   .exact bj q
 have cq:∀b,F b≠none->b≠j.heap.objs.size:=fun b B z=>B (z▸fD);have b3:HOk X.prog X.w (upd F j.heap.objs.size (.lst [])) ak:=G.hok.laid ah (AJ _) ⟨Ab _,[],_,.nil,(aj.extBut _ _ a4 (AC _ (aq▸AM _ rfl)))⟩
 have cn:∀y,Vis (relabel L X.env) y->y∈X.N->(y,NameKind.free)∈L.names/\((relabel L X.env).names.lookup y=some .cell\/(relabel L X.env).names.lookup y=some .free):=by
  intro y hv b1
  rcases hv with q | q | q
  .obtain ⟨k0,M,z | ⟨z,w⟩⟩:=uV q
   .subst z;exact absurd b1 (K.loc _ M rfl)
   .cases w
  .obtain ⟨k0,M,z | ⟨z,w⟩⟩:=uV q
   .subst z;exact absurd rfl (K.cell _ M)
   .subst z;exact⟨M,.inl q⟩
  .obtain ⟨k0,M,z | ⟨z,w⟩⟩:=uV q
   .subst z;exact⟨M,.inr q⟩
   .cases w
 have I':∀tk,Inv (cxN X xs L N I H2.objs.size j F) [] (List.replicate xs.length none++σ) (upd F j.heap.objs.size (.lst [])) { j with heap:=ak,toks:=tk }:=by
  intro tk;refine⟨ao,rfl,G.bare,Un.laid ah (AJ _) fD,⟨_,ar,fun i y v h1 h2 h3=>?_⟩,fun y c h=>?_,?_,fun y c h=>?_,fun p hp=>absurd hp (by simp[cxN]),b3,?_⟩
  .rcases Cq i xs.length with hi | hi
   .rw [Be (by rwa [Bb]),List.getElem?_replicate,Ac hi] at h2
    cases h2
   .have a3:X.N[i - xs.length]?=some y:=by
     have h1:(xs++X.N)[i]?=some y:=h1
     rwa [B2 hi] at h1
    have br:σ[i - xs.length]?=some (some v):=by
     rw[B2 (by rwa [Bb]),Bb] at h2;exact h2
    obtain⟨fm,kk⟩:=cn y h3 (Ae a3);obtain⟨b5,vz,c,a5⟩:=K.free _ fm rfl;refine oQ G.loc fun mm hn hl=>oQ (hl (i - xs.length) y v a3 br (vz.elim (fun z=>.inr (.inl z)) fun z=>.inr (.inr z))) fun u ru l=>?_
    rcases l with ⟨z,_⟩ | ⟨_,c',bw,bx⟩
    .exact absurd z b5
    .have ec:=Av (bw.symm.trans (K.cl _ _ a5))
     subst ec;obtain⟨o,Y,ag⟩:=bx;exact⟨u,ru,.inr ⟨kk,c',a5,o,ah _ _ Y,ag⟩⟩
  .obtain ⟨v,o,Y,ag⟩:=G.cell y c (K.cl y c h)
   exact⟨v,o,ah _ _ Y,ag⟩
  .show upd F _ _ H2.objs.size=none
   rwa [mQ (Ne.symm a4)]
  .obtain ⟨v,o,Y,ag⟩:=G.cell y c (K.cl y c h)
   exact(mQ (af c (AI Y)).2)▸G.freeC y c (K.cl y c h)
  .show (List.replicate xs.length none++σ).length=(xs++X.N).length
   rw[AG,AG,Bb,G.len]
 have av:∀{H':Hp},(∀b∈I,H' b=none)->∀b∈I,XN (cxN X xs L N I H2.objs.size j F) [] H' b:=fun hn b B=>
  ⟨hn b B,(ao.exf b B).1,ao.exfs b B,.inl B,(ao.exf b B).2,fun p hp=>absurd hp (by simp[cxN])⟩
 have bc:=T.keep _ _ _ bb fun b _ o e=>ah b o e;have bl:∀b∈I,upd F j.heap.objs.size (.lst []) b=none:=fun b B=>(mQ (af b (az b B)).2)▸(S b B).1
 have a7:∀ai:Shared,(∃tk,ai={ j with heap:=ak,toks:=tk }) ->
   codeAny (model X.prog X.w) X.A (.compLoop (.ListComp ay [⟨tg,b2,a6,0⟩] L pos) 0 (.ref it) (.ref j.heap.objs.size) (compEnvC L N H2.objs.size X.env))
    (RR (.ref j.heap.objs.size) H2.objs.size) ai:=by
  rintro ai ⟨tk,rfl⟩
  refine xI (fun n s'=>∃i ys H' Z,Z.length=xs.length/\Inv (cxN X xs L N I H2.objs.size j F) [] (Z++σ) H' s'/\tn i s'.heap/\(∀b∈I,H' b=none)/\ae i n ys H') ?_ b4
   ⟨0,[],_,List.replicate xs.length none,Bb,I' tk,bc,bl,w0⟩
  rintro n a8 ⟨i,ys,W,Z,l0,I3,ba,a0,w3⟩
  rcases ck i n ys W w3 with ⟨cg,qn⟩ | ⟨bq,cb⟩
  .refine thn (T.done (cxN X xs L N I H2.objs.size j F) rfl rfl rfl hc i [] a8 (Z++σ) W (fun _ _=>False) I3 (av a0) ba cg) fun r U ⟨hr,I4⟩=>?_
   subst hr;show RR _ _ (.ok .next) U;refine oQ I4.loc fun m hn _=>?_;have b8:=I4.os;refine bu _ _ W U m hn ?_ I4.free (fun y c h z=>?_) (hC▸B0 _) ?_ qn
   .exact Ne.symm (af _ G.lt).1
   .exact wB (G.cell y c h) fun v o Y ag=>(af c (AI Y)).1 z
   .obtain ⟨hh,g,d,t,b7⟩:=U
    obtain rfl:b7=j.os:=b8;exact G.call (h':=hh) (g':=g) (d':=d) (t':=t) I4.base I4.hok I4.bare fun b B=>⟨(S b B).2.2.2.1,(S b B).2.1,(S b B).2.2.2.2.1,(S b B).2.2.2.2.2⟩
  .refine thn (T.item (cxN X xs L N I H2.objs.size j F) rfl rfl rfl hc i [] a8 (Z++σ) W (fun _ _=>False) I3 (av a0) ba bq) fun r U ⟨u,hr,h4⟩=>?_
   subst hr;refine thn h4 fun _ a9 ⟨x5,H5,I5,r5,y5,au,bp⟩=>?_
   have aw:∀{H':Hp}{s':Shared}{τ:St},Inv (cxN X xs L N I H2.objs.size j F) ([]++iN I a9.heap) τ H' s'->tn (i+1) s'.heap/\∀b∈I,H' b=none:=fun I7=>
    ⟨T.keep _ _ _ au fun b B o e=>(I7.pin (b,o) (AU _ (AU _ (qU B e)))).1,fun b B=>oQ (T.obj _ _ au b B) fun o e d=>(I7.pin (b,o) (AU _ (AU _ (qU B e)))).2.1⟩
   refine jZ (cb x5 H5 y5) fun ab b9 l5 q5=>thn (hg I _ j F _ a9 (Z++σ) H5 x5 u (fun cp H'=>cp=ab.map some++σ/\H'=H5) (I5.pinned (av bp) (T.obj _ _ au)) r5 (hG Z ab x5 H5 _ l0 b9 l5 ⟨rfl,rfl⟩)) fun _ s6 ⟨ct,H6,I6,e6,bg⟩=>?_;subst e6 bg;have l6:(ab.map some).length=xs.length:=by rwa [AB]
   refine thn (ht I _ j F _ s6 (ab.map some++σ) H6 _ I6 q5) fun b6 s7 ⟨H7,I7,q7⟩=>?_
   cases b6 with
   |false =>
    rw[Ad AS] at q7;rw[Ad AS];refine oQ q7 fun O M w7=>?_;obtain⟨k1,k2⟩:=aw I7;exact⟨O,M,i+1,ys,H7,ab.map some,l6,I7.unpinned,k1,k2,w7⟩
   |true =>
    rw[Ac rfl] at q7;rw[Ac rfl];refine thn (bz I _ j F _ s7 (ab.map some++σ) H7 _ I7 q7) fun y s8 ⟨y8,H8,I8,r8,bt,b0,O,M,w8⟩=>thn (gO _ s8 _ H8 (.ref j.heap.objs.size) [y8] (.ref j.heap.objs.size) [y] (fun _ H9=>H9=upd H8 j.heap.objs.size (.lst (ys++[y8]))) I8 rfl (.cons r8 .nil) ⟨_,ys,y8,rfl,rfl,bt,b0,rfl⟩) fun _ s9 ⟨_,H9,I9,_,e9⟩=>?_;subst e9;obtain⟨k1,k2⟩:=aw I9;exact⟨O,M,i+1,ys++[y8],_,ab.map some,l6,I9.unpinned,k1,k2,w8⟩
 exact codeAny_compStart_list (a7 _ ⟨_,rfl⟩) (T.self _ 0 _ _ _ bc (a7 _ ⟨_,rfl⟩))
theorem pe_comp{O N:Expr}{x:Str}{W pos:Pos}{U:List Expr}{F:Scope}{M:List (Str×Addr)}{Y:TI}{tc:TT}{te:TE}(hc:X.calm=true)(hN:(x::X.N).Nodup)(K:rB X x F M)(hi:PI X (.Name x W) N Y)(ht:∀B C G j,VJ (mK X x F M B C G j) U tc)(ai:∀B C G j,PE (mK X x F M B C G j) O te)(hs:∀v,foldedSetIterable N X.env v=pure v:=by intro _;rfl):PE X (.ListComp O [⟨.Name x W,N,U,0⟩] F pos) (Qo Y tc te):=by
 intro pins s σ H Q I h;rw[eval_ListComp];refine DC (use:=none) rfl hs K.clos K.kind K.names (thn (hi pins s σ H _ I h) fun xv aw ak=>thn ak fun av G ao=>?_);obtain⟨it,B,tn,J,j,e,L,T,ar,ae,R⟩:=ao;subst e;refine uB (g:=pU 0) (Tk:=fun x _ vs=>vs=[x]) hc K (fun _ _ _ _=>kD (i:=0) (x:=x) hN rfl (.inl (Bh (K.hx x (.head _)))) (.inr (Bh (K.hx x (.head _))))) ht ai (by rintro au vs y H Q l rfl _ q;match au,l with | [_],_=>exact q) L T ar ae (fun D hD=>let ⟨ab,w0,tu⟩:=R D hD;⟨ab,w0,fun i m ys H w=>(tu i m ys H w).imp id fun⟨g,st⟩=>⟨g,fun x H' y=>⟨[x],rfl,rfl,st x H' y⟩⟩⟩) ?_
 intro D C H aq m hn ag af ah S Z q;refine⟨m,hn,fun h' aj=>⟨.ref D,H,?_,rfl,q⟩⟩;refine Z.turned (it:=C) (t':=aq.toks) (fun b o hb e=>(aj.2 b hb).trans e) af ag (.inr (Ah L.sz S)) ah fun p hp z=>?_;exact absurd (AV (AI (L.pin p hp).1) (by rw[z];exact S)) (A7 _)
end
def Its(x:Str):It:=⟨fun i _=>i < x.cps.size,fun i H v H'=>H'=H/\∃c,x.cps[i]?=some c/\v=.str ⟨#[c]⟩,fun i _=>x.cps.size<=i⟩
theorem nT(j:ty = "str_ascii_iterator"\/ty = "str_iterator")(g:A.handled=none)it x t:
  Walks P w A it [it] [it] x.cps.size (SignAt x) (fun i h=>h.IsStrIter it ty x t i):=by
 rcases j with rfl | rfl
 .exact Walks.strAscii g it x t
 .exact Walks.strWide g it x t
theorem VZ{K}(B:ty = "str_ascii_iterator"\/ty = "str_iterator")x t it:
  Z6 P w K tg (Its x) [it] it (fun i h=>h.IsStrIter it ty x t i/\i<=x.cps.size) where
 mem:=by simp
 obj:=fun i h st b g=>by
  have e:b=it :=by grind
  subst e;obtain⟨⟨o,e,c,d⟩,_⟩:=st;exact⟨o,e,fun v z=>by rw[d] at z;cases z⟩
 keep:=fun i h h' st k=>⟨let ⟨o,Z,r⟩:=st.1;⟨o,k it (by simp) o Z,r⟩,st.2⟩
 item:=by
  intro X Y ab W M i pins s σ H E I j st q;refine Xo (j it (by simp)) fun D F U G J L=>?_;refine(nT B (I.ok.hd M) it x t).item i s _ _ q st.1 fun v h' O hv st' N=>?_;obtain⟨c,u,hx,rfl⟩:=hv;have S:Inv X pins σ H { s with heap:=h',toks:=O }:=I.turned (fun b o g e=>N b o (by simp_all) e) D F G J L;exact jZ (id st') fun o e cc d=>⟨_,rfl,Xg e cc d (by rcases B with rfl | rfl<;>decide) ⟨.str ⟨#[c]⟩,H,S,⟨u,rfl⟩,⟨rfl,c,hx,rfl⟩,⟨st',q⟩,fun b g=>(j b g).1⟩⟩
 done:=by
  intro X Y ab W M i pins s σ H E I j st q;refine Xo (j it (by simp)) fun D F U G J L=>?_;refine(nT B (I.ok.hd M) it x t).done s _ _ ((Nat.le_antisymm st.2 q)▸st.1) fun h' O N=>⟨rfl,I.turned (fun b o g e=>N b o (by simpa using g) e) D F G J L⟩
 self:=fun A i s Q E st h=>by
  rcases B with rfl | rfl
  .exact wpAny_pyIter_striter_ascii st.1 h
  .exact wpAny_pyIter_striter_wide st.1 h
def iStr(tl:TE):TI:=fun σ H R=>tl σ H fun x H1=>∃z,x=.str z/\R (Its z) H1
section
variable {X:Cx}{tg:Expr}
theorem pi_str(F:PE X l tl):PI X tg l (iStr tl):=by
 intro pins s σ H R I h;refine thn (F pins s σ H _ I h) fun v g ⟨x,H1,j,L,J⟩=>?_;obtain⟨z,rfl,q⟩:=J;obtain⟨t,rfl⟩:=L
 have B:∀ty o,(ty = "str_ascii_iterator"\/ty = "str_iterator")->(g.heap.push o).IsStrIter g.heap.objs.size ty z t 0->PIE X pins σ tg R (.ref g.heap.objs.size) { g with heap:=g.heap.push o }:=fun ty o G st=>by
  refine⟨g.heap.objs.size,[g.heap.objs.size],_,_,H1,rfl,j.kept (t':=g.toks) fun b o e=>AC _ e,VZ G z t _,⟨st,Ab _⟩,fun b M=>?_,q⟩;have e:b=g.heap.objs.size :=by grind
  subst e;exact j.fpOk (AJ _) (j.hok.fresh (AJ _))
 cases D:z.cps.all (· < 128)
 .exact wpAny_pyIter_wide D (B _ _ (.inr rfl) ⟨_,AM _ rfl,rfl,rfl⟩)
 .exact wpAny_pyIter_ascii D (B _ _ (.inl rfl) ⟨_,AM _ rfl,rfl,rfl⟩)
end
theorem VG(ys:List Bool):((List.range ys.length).all fun i=>(ys[i]?).getD false)=ys.all id:=by
 rw[DX,Bo,Bo]
 constructor
 .intro h b j
  obtain⟨i,hi⟩:=Bu.mp j;have g:=(AW.mp hi).1;have:=h i (Ba.mpr g)
  rwa [hi] at this
 .intro h i hi
  have g:=Ba.mp hi;exact(AK g)▸h _ (A8 g)
section
variable {X:Cx}
theorem eR(N:X.calm=true):CallR X (.builtin "all") (fun xs H Q=>∃p ys,xs=[.ref p]/\SqL X.K H p (List.map V.bl ys)/\Q (.bl (ys.all id)) H):=by
 intro pins s σ H xs ab Q I r h;obtain⟨p,ys,rfl,S,q⟩:=h;obtain⟨u,rfl,rfl⟩:=fU r;obtain⟨j,J,B,hz⟩:=(I.list S);have D:j.length=ys.length:=by rw[<- J.length,AB]
 refine wB (id B) fun o n O _=>call_all_walk (wpAny_pyIter_list B.isList ⟨s.heap.objs.size,_,_,_,_,_,fun i=>(ys[i]?).getD false,rfl,Walks.list (A:=X.A.in1) (I.ok.hd N) s.heap.objs.size p (AZ (AI O)) j.toArray,⟨⟨_,AM _ rfl,rfl,rfl⟩,B.isList.push _⟩,fun i v s' M E' hP g=>?_,fun h' Z W=>?_⟩)
 .have G:j[i]?=some v :=by simp_all
  have hi :=D▸(AW.mp G).1;have U:(List.map V.bl ys)[i]?=some (.bl ys[i]):=by rw[Ak,AK hi];rfl
  obtain⟨u,F,Y⟩:=(J.get U);rw[G] at F;cases F;cases Y;have g:M ((ys[i]?).getD false) s':=g;rw[AK hi] at g;exact BE g
 .have L:Inv X pins σ H { s with heap:=h',toks:=Z }:=I.kept fun b o e=>W b o (by intro z;exact absurd (AI e) ((AD.mp z)▸A7 _)) (AC _ e)
  have e:((List.range j.toArray.size).all fun i=>(ys[i]?).getD false)=ys.all id:=by rw[Ao,D,VG]
  exact e▸⟨.bl (ys.all id),H,L,rfl,q⟩
inductive Ty where
 |non | bl | int | str | lst | tup | dct
 deriving DecidableEq
noncomputable def qF:Ty->String
 |.non=>"NoneType" | .bl=>"bool" | .int=>"int" | .str=>"str" | .lst=>"list" | .tup=>"tuple" | .dct=>"dict"
noncomputable def tyH:HO->Option Ty
 |.lst _=>some .lst
 |.frz _ (.lst _)=>some .lst
 |.tup _=>some .tup
 |.dK _=>some .dct
 |.dT _=>some .dct
 |_=>none
noncomputable def tyN(H:Hp):V->Option Ty
 |.non=>some .non
 |.bl _=>some .bl
 |.int _=>some .int
 |.str _=>some .str
 |.ref a=>(H a).bind tyH
 |_=>none
theorem tyOf_of{K}(h:tyN H x=some n):bP K H x (.type (qF n)):=by
 cases x with
 |non=>cases h;exact .non
 |bl b=>cases h;exact .bl b
 |int i=>cases h;exact .int i
 |str z=>cases h;exact .str z
 |ref a =>
  have h:(H a).bind tyH=some n:=h
  cases e:H a with
  |none=>rw[e] at h;cases h
  |some o =>
   rw[e] at h
   cases o with
   |lst xs=>cases h;exact .lst e
   |tup xs=>cases h;exact .tup e
   |dK kvs=>cases h;exact .dK e
   |dT kvs=>cases h;exact .dT e
   |frz g u =>
    cases u with
    |lst xs=>cases h;exact .frz e
    |_=>cases h
   |_=>cases h
 |byt b=>cases h
 |flt b=>cases h
 |ty n=>cases h
def Zy:Ty->Ty->Bool
 |.bl,.int=>true
 |a,b=>decide (a=b)
theorem kit_all K n T:PySem.W.kitOne K (.type (qF n)) (.type (qF T))=some (Zy n T):=by
 cases n<;>cases T<;>with_unfolding_all rfl
theorem bX:CallR X (.builtin "isinstance") (fun xs H Q=>∃x T n,xs=[x,.ty (qF T)]/\tyN H x=some n/\Q (.bl (Zy n T)) H):=by
 intro pins s σ H xs D Q I r h;obtain⟨x,T,n,rfl,g,q⟩:=h;obtain⟨u,F,rfl,j,rfl⟩:=Qh r;exact Vg I j (tyOf_of g) (kit_all X.K n T) fun B=>⟨.bl (Zy n T),H,I.tok B,rfl,q⟩
theorem QJ:OpR X (binaryOp .FloorDiv) (rI (fun _ j=>0 < j/\j < 18446744073709551616) fun i j=>.int (i / j)):=opI fun i j _ _ _ _ _ B q=>by
 refine floordiv_int (by lia) (by grind) (.inl (PyProof.noPylong_of_log2 ?_));have g:j.natAbs < 2 ^ 64 :=by lia
 exact AV ((Nat.log2_lt (by omega)).mpr g) (by decide)
end
structure JE(X:Cx)(e:Expr)(t:TE):Prop where
 h:PE X e t
structure JT(X:Cx)(e:Expr)(t:TT):Prop where
 h:PT X e t
structure JW(X:Cx)(e:Expr)(t:TT):Prop where
 h:PW X e t
structure JA(X:Cx)(es:List Expr)(t:TA):Prop where
 h:PA X es t
structure JS(X:Cx)(st:Stmt)(t:TS):Prop where
 h:PS X st t
structure JB(X:Cx)(st:List Stmt)(t:TS):Prop where
 h:PSs X st t
structure JG(X:Cx)(e:Expr)(t:TG):Prop where
 h:PG X e t
structure JGs(X:Cx)(es:List Expr)(t:TGs):Prop where
 h:PGs X es t
structure JI(X:Cx)(tg e:Expr)(t:TI):Prop where
 h:PI X tg e t
structure JF(X:Cx)(ifs:List Expr)(t:TT):Prop where
 h:VJ X ifs t
structure JO(X:Cx)(e:Option Expr)(t:TO):Prop where
 h:PO X e t
section
variable {X:Cx}{a b c e o i:Expr}{es:List Expr}{ta tb tc te:TE}{tA tB':TT}{t:TA}{pos:Pos}{rest:List Expr}
theorem jv i(g:X.N[i]?=some x:=by rfl)(B:Vis X.env.scope x:=by first | exact Or.inl rfl | exact Or.inr (Or.inl rfl) | exact Or.inr (Or.inr rfl))(q:(x==("__debug__" : Str))=false:=by decide)(j:(x==("__classdict__" : Str))=false:=by decide):JE X (.Name x pos) (tVar i):=⟨WI g B q j⟩
theorem je_int{i j pos}:JE X (.Constant (.int i) j pos) (tC (.int i)):=⟨pe_int⟩
theorem je_bl{b j pos}:JE X (.Constant (.bool b) j pos) (tC (.bl b)):=⟨pe_bl⟩
theorem je_non{j pos}:JE X (.Constant .none j pos) (tC .non):=⟨pe_non⟩
theorem je_str{x j pos}:JE X (.Constant (.str x) j pos) (tC (.str x)):=⟨pe_str⟩
theorem je_glob(j:Gl X x)(q:X.mg x=some u)(r:RelV v u)(g:(x==("__debug__" : Str))=false:=by decide):JE X (.Name x pos) (tC v):=⟨pe_glob j q r g⟩
theorem je_bltn(j:Gl X x)(q:X.mg x=none)(D:bootBuiltins x=some u)(r:RelV v u)(B:x ≠ "__name__":=by decide)(g:(x==("__debug__" : Str))=false:=by decide):JE X (.Name x pos) (tC v):=⟨pe_bltn j q D r B g⟩
theorem je_op(q:OpR X (binaryOp op) r)(g:JE X a ta)(j:JE X b tb):JE X (.BinOp a op b pos) (tOp r ta tb):=⟨pe_op q g.h j.h⟩
theorem je_un(j:UnR X (unaryOp op) r)(g:JE X a ta):JE X (.UnaryOp op a pos) (tUn r ta):=⟨pe_un j g.h⟩
theorem je_cmp(B:OpR X (compareOp op) r)(g:JE X a ta)(j:JE X b tb)(q:behindInMarks op b=false):JE X (.Compare a [op] [b] pos) (tOp r ta tb):=⟨pe_cmpR B g.h j.h q⟩
theorem jt_cmp(B:OpR X (compareOp op) r)(g:JE X a ta)(j:JE X b tb)(q:behindInMarks op b=false):JT X (.Compare a [op] [b] pos) (Qn (tOp r ta tb)):=⟨pt_cmpR B g.h j.h q⟩
theorem YA(F:OpR X (compareOp op) r)(G:OpR X (compareOp g) I)(j:JE X a ta)(q:JE X b tb)(B:JE X c tc)(D:lastMarks [op,g] [b,c]=false:=by with_unfolding_all rfl):JE X (.Compare a [op,g] [b,c] pos) (pN r I ta tb tc):=⟨WR F G j.h q.h B.h D⟩
theorem Yt(F:OpR X (compareOp op) r)(G:OpR X (compareOp g) I)(j:JE X a ta)(q:JE X b tb)(B:JE X c tc)(D:lastMarks [op,g] [b,c]=false:=by with_unfolding_all rfl):JT X (.Compare a [op,g] [b,c] pos) (Qn (pN r I ta tb tc)):=⟨Wx F G j.h q.h B.h D⟩
theorem je_one{op}{t}(h:JE X a t):JE X (.BoolOp op [a] pos) t:=⟨pe_one h.h⟩
theorem je_and(g:JE X a ta)(j:JE X (.BoolOp .And (b::rest) pos) tb):JE X (.BoolOp .And (a::b::rest) pos) (tAndV ta tb):=⟨pe_and g.h j.h⟩
theorem jw_pt{t}(h:JW X e t):JT X e t:=⟨h.h.pt⟩
theorem jw_and1(g:JT X a tA):JW X (.BoolOp .And [a] pos) tA:=⟨pw_and1 g.h⟩
theorem jw_or1(g:JT X a tA):JW X (.BoolOp .Or [a] pos) tA:=⟨pw_or1 g.h⟩
theorem jw_and(g:JT X a tA)(j:JW X (.BoolOp .And (b::rest) pos) tB'):JW X (.BoolOp .And (a::b::rest) pos) (tAnd tA tB'):=⟨pw_and g.h j.h⟩
theorem jw_or(g:JT X a tA)(j:JW X (.BoolOp .Or (b::rest) pos) tB'):JW X (.BoolOp .Or (a::b::rest) pos) (tOr tA tB'):=⟨pw_or g.h j.h⟩
theorem jt_not(g:JT X a tA):JT X (.UnaryOp .Not a pos) (tNot tA):=⟨pt_not g.h⟩
noncomputable def gG:Expr->Bool
 |.Name _ _=>true | .Call _ _ _ _=>true | .Subscript _ _ _=>true | .Attribute _ _ _=>true | .IfExp _ _ _ _=>false | _=>false
theorem aN(h:gG e=true):∀g,isTrue e j g=(do let v <- g;standAt e.pos;holding [v] (truthy v)):=by
 cases e<;>first | (intro _;rfl) | exact absurd h AS
theorem jt_val{t}(h:JE X e t)(g:gG e=true:=by rfl):JT X e (tB t):=⟨pt_val h.h (aN g)⟩
theorem Ys(h:JE X e te)(g:gG e=true:=by rfl):JT X e (fun σ H Q=>te σ H fun x H'=>∃k,TruV X.K x H' k/\Q k H'):=⟨Ww h.h (aN g)⟩
theorem je_if(q:JT X c tA)(g:JE X a ta)(j:JE X b tb):JE X (.IfExp c a b pos) (tIf tA ta tb):=⟨WL q.h g.h j.h⟩
theorem dC:JA X [] tNil:=⟨pa_nil⟩
theorem wM(g:JE X e te)(j:JA X es t)(hs:sQ e=true:=by rfl):JA X (e::es) (V6 te t):=⟨qa_cons g.h j.h hs⟩
theorem je_tup{g}(h:JA X es t):JE X (.Tuple es g pos) (tTup t):=⟨pe_tup h.h⟩
theorem je_lst(h:JA X es t):JE X (.List es pos) (tLst t):=⟨pe_lst h.h⟩
theorem Yz:JE X (.Dict [] [] pos) V4:=⟨WN⟩
theorem Yy:JE X (.Dict [] [] pos) V3:=⟨WM⟩
theorem je_call{p}(F:FnOk X.prog X.w X.K X.mg X.base CX k f fd ps sp)(L:Room k X.A)(G:Gl X x)(J:X.mg x=some (.ref f))(I:PySem.W.keepIn X.K (.ref f)=true)(q:Binds X.K fd ps ds)(B:Vals dvs ds)(M:aV CX X E)(g:JA X (e::es) t)(D:(x==("__debug__" : Str))=false:=by decide)(hs:sQ e=true:=by rfl)(j:es.all sQ=true:=by rfl):JE X (.Call (.Name x p) (e::es) [] pos) (V8 sp dvs E t):=⟨qe_call F L G J I q B M g.h D hs j⟩
theorem YB{id}{p}(q:CallR X (.builtin id) r)(D:Gl X x)(F:X.mg x=none)(I:bootBuiltins x=some (.builtin id))(g:JA X (e::es) t)(G:x ≠ "__name__":=by decide)(B:(x==("__debug__" : Str))=false:=by decide)(hs:sQ e=true:=by rfl)(j:es.all sQ=true:=by rfl):JE X (.Call (.Name x p) (e::es) [] pos) (tCB r t):=⟨Wo q D F I g.h G B hs j⟩
theorem dG{p}(q:CallR X (.type T) r)(D:Gl X x)(F:X.mg x=none)(I:bootBuiltins x=some (.type T))(g:JA X (e::es) t)(G:x ≠ "__name__":=by decide)(B:(x==("__debug__" : Str))=false:=by decide)(hs:sQ e=true:=by rfl)(j:es.all sQ=true:=by rfl):JE X (.Call (.Name x p) (e::es) [] pos) (tCB r t):=⟨KH q D F I g.h G B hs j⟩
theorem je_ix(q:IxR X r)(g:JE X a ta)(j:JE X b tb)(hs:xN b):JE X (.Subscript a b pos) (tOp r ta tb):=⟨pe_ix q g.h j.h hs⟩
theorem jo_none:JO X none Jp:=⟨po_none⟩
theorem jo_some(h:JE X e te):JO X (some e) (tPart te):=⟨po_some h.h⟩
theorem Q7{lo}(q:SlR X r)(g:JE X e te)(j:JO X lo tl)(B:JO X hi th):JE X (.Subscript e (.Slice lo hi none p2) pos) (tSl r te tl th):=⟨WJ q g.h j.h B.h⟩
theorem jf_nil:JF X [] tYes:=⟨WE⟩
theorem jf_one{t}(h:JT X c t):JF X [c] t:=⟨WD h.h⟩
theorem je_comp{G F:Expr}{x:Str}{J:Pos}{I:List Expr}{B:Scope}{D:List (Str×Addr)}{L:TI}{tc:TT}(N:X.calm=true)(M:(x::X.N).Nodup)(K:rB X x B D)(hi:JI X (.Name x J) F L)(S:∀j C q g,JF (mK X x B D j C q g) I tc)(O:∀j C q g,JE (mK X x B D j C q g) G te)(hs:∀v,foldedSetIterable F X.env v=pure v:=by intro _;rfl):JE X (.ListComp G [⟨.Name x J,F,I,0⟩] B pos) (Qo L tc te) :=
 ⟨pe_comp N M K hi.h (fun j C q g=>(S j C q g).h) (fun j C q g=>(O j C q g).h) hs⟩
variable {tg:Expr}
theorem JP(h:JE X e te):JI X tg e (iList X.K te):=⟨pi_list h.h⟩
theorem Yw(h:JE X e te):JI X tg e (iTup X.K te):=⟨pi_tup h.h⟩
theorem ji_str(h:JE X e te):JI X tg e (iStr te):=⟨pi_str h.h⟩
theorem cO(j:Gl X "range")(q:X.mg "range" = none)(g:JA X [a] t)(hs:sQ a=true:=by rfl):JI X tg (.Call (.Name "range" p) [a] [] pos) (YJ t):=⟨KM j q g.h (pJ hs)⟩
theorem jg_name{i}(g:X.N.Nodup)(hi:X.N[i]?=some x)(q:Loc X.env.scope x)(j:X.fn x=true\/X.env.scope.names.lookup x=some .local:=by first | exact .inl rfl | exact .inr rfl | assumption):JG X (.Name x pos) (pU i):=⟨kD g hi q j⟩
theorem jgs_nil:JGs X [] gNil:=⟨JD⟩
theorem Yx{t}(h1:JG X e t)(h2:JGs X es u)(hs:(assignEach (e::es) X.env).map (·.2)=assign e X.env::(assignEach es X.env).map (·.2):=by rfl):JGs X (e::es) (eC t u):=⟨qC h1.h h2.h hs⟩
theorem jg_tup{k}{t}(g:X.calm=true)(h:JGs X es t)(j:(assignEach es X.env).length=n:=by rfl)(q:(assignEach es X.env).findIdx? (·.1)=none:=by rfl):JG X (.Tuple es k pos) (gTup X.K n t):=⟨WH g h.h j q⟩
theorem jg_sub{t:TSet}{to q:TE}(D:JE X o to)(hi:JE X i q)(hs:PSet X t)(B:∀v,assign (.Subscript o i pos) X.env v=(do
   let g <- holding [v] (eval o X.env)
   let j <- holding [v,g] (eval i X.env)
   standAt pos
   holding [v,g,j] (setItem g j v)
   release [v,g,j] []):=by intro _;rfl):JG X (.Subscript o i pos) (gSub to q t):=⟨pg_sub D.h hi.h hs B⟩
end
section
variable {X:Cx}{st:Stmt}{sts:List Stmt}{t u:TS}{e c:Expr}{te:TE}{tc:TT}{pos:Pos}
theorem jb_nil:JB X [] tNext:=⟨pss_nil⟩
theorem jb_cons(h1:JS X st t)(h2:JB X sts u):JB X (st::sts) (tSeq t u):=⟨Wy h1.h h2.h⟩
theorem jb_one(h1:JS X st t):JB X [st] t:=⟨pss_one h1.h⟩
theorem js_expr(g:JE X e te)(hs:swapsWith e none pos.line X.env=pure false:=by rfl):JS X (.Expr e pos) (tDrop te):=⟨ps_expr g.h hs⟩
theorem Yv(g:JE X e te):JS X (.Return (some e) pos) (tRet te):=⟨ps_ret g.h⟩
theorem js_if(q:JT X c tc)(g:JB X a t)(j:JB X b u):JS X (.If c a b pos) (tIfS tc t u):=⟨ps_if q.h g.h j.h⟩
theorem js_set(g:X.N.Nodup)(hi:X.N[i]?=some x)(B:Loc X.env.scope x)(j:JE X e te)(hs:swapsWith e (some (.Name x pos')) pos.line X.env=pure false:=by rfl)(q:X.fn x=true\/X.env.scope.names.lookup x=some .local:=by first | exact .inl rfl | exact .inr rfl | assumption):
  JS X (.Assign [.Name x pos'] e pos) (V9 te (pU i)):=⟨ps_set g hi B j.h hs q⟩
theorem js_asg(j:JE X e te)(q:JG X tg g)(hs:swapsWithSole [tg] e pos.line X.env=pure false:=by rfl)(B:swappedStores [tg] e X.env=pure none:=by rfl)(h1:(assignEach [tg] X.env).map (·.2)=[assign tg X.env]:=by rfl):JS X (.Assign [tg] e pos) (V9 te g):=⟨ps_asg j.h q.h hs B h1⟩
theorem Zu{tg j:Expr}{q:List Stmt}{B:TI}{g:TG}{tb:TS}(I:PassesOwn (model X.prog X.w) X.A X.env X.xe)(F:X.calm=true)(hi:JI X tg j B)(G:JG X tg g)(D:JB X q tb)(hs:∀x,foldedSetIterable j X.env x=pure x:=by intro _;rfl):JS X (.For tg j q [] pos) (tFor B g tb):=⟨ps_for I F hi.h G.h D.h hs⟩
theorem Yu(B:PassesOwn (model X.prog X.w) X.A X.env X.xe)(q:JT X c tc)(j:JB X g tb):JS X (.While c g [] pos) (V2 tc tb):=⟨Wz B q.h j.h⟩
end
section
variable {P:Program}{w:World}{K:Dj}{mg:Str->Option Value}{base:Heap}
theorem Fun.okJ{st}(F:Fun K x B st f fd)(S:FnScope N ps (fX st))(J:∀vs H Q E,sp vs H Q E->vs.length=ps.length)(D:∀g A j s H vs Q E,Room k (A.deeper (envOfC B (fX st) s.heap.objs.size f g))->sp vs H Q E ->
   ∃t,JB (Xu CX0 P w K mg base N B (fX st) f g A j s H E).nox (cV st) t/\t { nx:=fun _ H'=>Q .non H',rt:=Q } (start N vs) H):FnOk P w K mg base CX0 (k+1) f fd ps sp :=
 F.ok S J fun g A j s H vs Q E G h=>let ⟨t,I,q⟩:=D g A j s H vs Q E G h;⟨t,I.h,q⟩
end
theorem fF: ∀(G:List (Str×NameKind))acc,(∀y∈G,y.2=.free->∃c,B.cells.lookup y.1=some c)->(∀y c,acc.lookup y=some c->B.cells.lookup y=some c) ->
  ∃j,(forIn G acc fun x r=>(do
    if x.2==NameKind.free then do
     let c <- cellOf B x.1
     pure (ForInStep.yield ((x.1,c)::r))
    else pure (ForInStep.yield r):Sem (ForInStep (List (Str×Addr)))))=pure j/\(∀y c,j.lookup y=some c->B.cells.lookup y=some c)/\(∀y∈G,y.2=.free->∃c,j.lookup y.1=some c)/\∀y c,acc.lookup y=some c->∃q,j.lookup y=some q
 |[],acc,_,D=>⟨acc,rfl,D,fun y g=>absurd g (by simp),fun y c h=>⟨c,h⟩⟩
 | (n,k)::r,acc,F,D=>by
  cases S:(k==NameKind.free) with
  |false =>
   refine Y7 (fF r acc (fun y g=>F y (AH _ g)) D) fun j e h1 h2 I=>⟨j,?_,h1,fun y g N=>?_,I⟩
   .grind
   .grind
  |true =>
   have L:k=.free :=by lia
   refine el11 (F (n,k) AE L) fun c J=>?_
   have M:∀y q,((n,c)::acc).lookup y=some q->B.cells.lookup y=some q:=fun y q h=>by
    rw[List.lookup_cons] at h
    cases g:y==n with
    |true =>
     rw[g] at h;have:y=n :=by lia
     subst this
     rwa [J]
    |false =>
     rw[g] at h;exact D y q h
   refine Y7 (fF r ((n,c)::acc) (fun y g=>F y (AH _ g)) M) fun j e h1 h2 I=>?_;have O:cellOf B n=pure c:=by delta cellOf;rw[J]
   refine⟨j,?_,h1,fun y g N=>?_,fun y q h=>?_⟩
   .grind
   .grind
   .grind
noncomputable def dR(xs:List Str)(g:Scope)(N:List Str)(sc:Scope):Bool :=
 g.names.all (fun y=>decide (y.2≠.cell)&&(decide (y.2≠.free) || decide (sc.names.lookup y.1=some .cell))&&(decide (y.2≠.local) || (decide (g.names.lookup y.1=some .local)&&decide (y.1∉N))))&&decide (g.kind=.function)&&xs.all (fun x=>decide (g.names.lookup x=some .local))
theorem mR(I:X.N=N)(O:X.env.scope=sc)(J:X.env.cells=cellsFrom L sc.names [])(h:dR xs B N sc=true):∃D,oW X xs B D:=by
 subst I O
 delta dR at h
 rw[A3,A3,Bo] at h;obtain⟨⟨h1,h2⟩,G⟩:=h
 have j:∀y∈B.names,y.2≠.cell/\(y.2=.free->X.env.scope.names.lookup y.1=some .cell)/\(y.2=.local->B.names.lookup y.1=some .local/\y.1∉X.N):=fun y g=>by
  have q:=h1 y g;rw[A3,A3] at q;obtain⟨⟨Y,Z⟩,q3⟩:=q;refine⟨Aa Y,fun e=>?_,fun e=>?_⟩
  .lia
  .lia
 refine Y7 (fF B.names [] (fun y g M=>J▸nR ((j y g).2.1 M)) (fun y c z=>by simp at z)) fun D e U W _=>?_;refine⟨D,⟨?_,fun y g=>(j y g).1,Aa h2,fun y g q=>((j y g).2.2 q).1,fun x S=>Aa (Bo.1 G x S),fun y g q=>((j y g).2.2 q).2,fun y g q=>⟨?_,.inl ((j y g).2.1 q),W y g q⟩,U⟩⟩
 .have F:=Bi (fun m:Sem (List (Str×Addr))=>m >>= fun cs=>(pure cs:Sem (List (Str×Addr)))) e
  exact F
 .show X.env.scope.names.lookup y.1≠some .local
  rw[(j y g).2.1 q]
  decide
theorem pC{X:Cx}{G D:Expr}{x:Str}{J pos:Pos}{I:List Expr}{j:Scope}{L:TI}{tc:TT}{te:TE}(N:X.calm=true)(M:(x::X.N).Nodup)(K:∃g,rB X x j g)(hi:JI X (.Name x J) D L)(S:∀g B C F q,JF (mK X x j g B C F q) I tc)(O:∀g B C F q,JE (mK X x j g B C F q) G te)(hs:∀v,foldedSetIterable D X.env v=pure v:=by intro _;rfl):JE X (.ListComp G [⟨.Name x J,D,I,0⟩] j pos) (Qo L tc te) :=
 let ⟨g,K⟩:=K
 je_comp N M K hi (S g) (O g) hs
section
variable {X:Cx}{o e:Expr}{es:List Expr}{to:TE}{t:TA}{name:Str}{apos cpos:Pos}{T id:String}{r:V->List V->Hp->VK->Prop}
theorem Zv(F:PlainAttrs T)(G:Slot T name id)(D:typeOf (.builtin id)=pure (.type "method_descriptor"))(q:MtR X id r)(B:JE X o to)(g:attributeBase o name X.env (eval o X.env)=eval o X.env:=by rfl)(j:(apos.endLine==cpos.line)=true:=by rfl):JE X (.Call (.Attribute o name apos) [] [] cpos) (tBM0 X.K T r to):=⟨pe_bm0 F G D q B.h g j⟩
theorem je_bm(J:PlainAttrs T)(L:Slot T name id)(I:typeOf (.builtin id)=pure (.type "method_descriptor"))(F:MtR X id r)(G:JE X o to)(g:JA X (e::es) t)(q:attributeBase o name X.env (eval o X.env)=eval o X.env:=by rfl)(B:((backTo cpos (starEach (e::es) X.env)).all (fun x=>!x.1)&&(backToKw cpos (keywordEach [] X.env)).all (fun x=>x.1.isSome)
   && decide ((e::es).length+([]:List Keyword).length+(if ([]:List Keyword).isEmpty then 0 else 1) < 30))=true:=by rfl)(D:(apos.endLine==cpos.line)=true:=by rfl)(hs:sQ e=true:=by rfl)(j:es.all sQ=true:=by rfl):
  JE X (.Call (.Attribute o name apos) (e::es) [] cpos) (tBM X.K T r to t):=⟨pe_bm J L I F G.h g.h q B D (pJ hs) (yG j)⟩
end
section
variable {X:Cx}{pos:Pos}
theorem JQ(j:X.A.units+1 < cLine)(g:JE X o td)(hi:JE X i ty)(hs:Z8 i):JE X (.Subscript o i pos) (tDGet td ty):=⟨pe_dget j g.h hi.h hs⟩
theorem m2_of(j:attributeBase o m X.env (eval o X.env)=eval o X.env)(D:(apos.endLine==cpos.line)=true)(q:sQ e=true)(B:sQ f=true):M2 X o m apos e f cpos:=by
 have g:starEach [e,f] X.env=[(false,eval e X.env),(false,eval f X.env)]:=by
  rw[pJ q,pJ B]
  rfl
 refine⟨j,?_,D,?_⟩
 .rw [g];rfl
 .rw [g];rfl
theorem Q8{apos cpos}(F:X.A.units+1 < cLine)(D:JE X o td)(j:JE X e ty)(q:JE X f tx)(g:attributeBase o "get" X.env (eval o X.env)=eval o X.env:=by rfl)(B:(apos.endLine==cpos.line)=true:=by rfl)(h1:sQ e=true:=by rfl)(h2:sQ f=true:=by rfl):JE X (.Call (.Attribute o "get" apos) [e,f] [] cpos) (V5 td ty tx):=⟨WO F D.h j.h q.h (m2_of g B h1 h2)⟩
end
section
variable {X:Cx}{o i value:Expr}{td ty tv:TE}{pos pos':Pos}
theorem JN(j:X.A.units+1 < cLine)(g:JE X o td)(hi:JE X i ty)(q:JE X value tv)(hs:swapsWith value (some (.Subscript o i pos')) pos.line X.env=pure false:=by rfl):
  JS X (.Assign [.Subscript o i pos'] value pos) (sDPut td ty tv):=⟨ps_dput j g.h hi.h q.h hs⟩
end
end L2
namespace PySem.SeqAt
open MeetsSeq
theorem XU b u l j es n B:
  Meets (Builtin.«str.__eq__» ⟨[.str b u,.ref l],[]⟩) (fun _ R s=>s.heap.get? l=some ⟨.type "dict",j,.dict es n,B⟩/\R (.ok (.ret .notImplemented)) s) :=
 .of_wp fun prog w A R s h=>by
  obtain⟨D,g,d,G,F⟩:=s;obtain⟨q,h⟩:=h
  wp_walk using wpAny_load q
  exact⟨_,rfl,h⟩
theorem Qg b u l j es n B:
  Meets (Builtin.«dict.__eq__» ⟨[.ref l,.str b u],[]⟩) (fun _ R s=>s.heap.get? l=some ⟨.type "dict",j,.dict es n,B⟩/\R (.ok (.ret .notImplemented)) s) :=
 .of_wp fun prog w A R s h=>by
  obtain⟨G,g,d,J,I⟩:=s;obtain⟨q,h⟩:=h;have D:=F.sub_str_dict
  wp_walk using wpAny_load q
  exact⟨_,rfl,h⟩
theorem vw_eq_str_dict(j:s.heap.get? l=some ⟨.type "dict",q,.dict es n,B⟩)(G:A.units < cLine):
  EqAt A s (.str b u) (.ref l) false:=fun prog w E Q h=>by
 refine As (CM (fun D=>absurd (eq_of_beq D) nofun) (fun _=>AA ?_))
 have R:RcAt A s (.str b u) (.ref l) false:=fun prog w E Q h=>rc_eq_decline_or (typeIs_str s b u) ⟨_,j,rfl⟩ rfl F.sub_dict_str F.slot_str_eq F.slot_dict_eq_refl
  (fun _ g=>Cs F.slot_str_eq (typeIs_str s b u) F.entry_str_eq (F.args_str_eq_2 _ _) (XU b u l q es n B) ⟨j,g⟩)
  (fun _ g=>Cs F.slot_dict_eq_refl ⟨_,j,rfl⟩ F.entry_dict_eq (F.args_dict_eq_2 _ _) (Qg b u l q es n B) ⟨j,g⟩)
  (fun _ g=>wpAny_of_eq rfl g) (.inr G) h
 exact R prog w E _ (BE h)
end PySem.SeqAt
namespace L2
open PySem PySem.Spec PyProof.Rows
section
variable {X:Cx}
theorem uA(q:∀(z:Str)(t:Tok),SeqAt.EqAt A s (.str z t) v (eqV (.str z) x)):∀{l:List Str}{j},Vals (l.map V.str) j->∀u∈j,SeqAt.EqAt A s u v (eqU x u)
 |[],_,.nil=>fun u g=>by cases g
 |z::l,u::j,.cons r t=>fun B g=>by
  rcases Ai.mp g with rfl | g
  .obtain ⟨t',rfl⟩:=r
   exact q z t'
  .exact uA q t B g
theorem zR(I:Inv X pins σ H s)(B:RelV x v)(g:tyN H x=some c)(j:A.units < cLine)z t:
  SeqAt.EqAt A s (.str z t) v (eqV (.str z) x):=by
 cases x with
 |non=>exact jR ⟨t,rfl⟩ B rfl rfl
 |bl b=>exact jR ⟨t,rfl⟩ B rfl rfl
 |int i=>exact jR ⟨t,rfl⟩ B rfl rfl
 |str y=>exact jR ⟨t,rfl⟩ B rfl rfl
 |ref a =>
  cases B;have g:(H a).bind tyH=some c:=g
  cases e:H a with
  |none=>rw[e] at g;cases g
  |some o =>
   rw[e] at g;have q:=I.hok a o e
   cases o with
   |lst xs =>
    obtain⟨_,F,n,_,h1⟩:=q;exact SeqAt.EqAt.str_list z t ⟨_,h1,rfl,n,rfl⟩ j
   |tup xs =>
    obtain⟨_,F,_,p⟩:=q;exact SeqAt.EqAt.str_tuple z t (IsTupN.is p) j
   |dK kvs =>
    obtain⟨_,_,vs,_,p⟩:=q;obtain⟨⟨G,L,J,M⟩,es,ep,h1,h2,D,_⟩:=p;have h2:=h2.1;subst h2 D;exact SeqAt.vw_eq_str_dict h1 j
   |dT kvs =>
    obtain⟨_,_,xs,_,⟨G,L,J,M⟩,es,ep,h1,h2,D,_⟩:=q;have h2:=h2.1;subst h2 D;exact SeqAt.vw_eq_str_dict h1 j
   |frz N u =>
    cases u with
    |lst xs =>
     obtain⟨_,_,F,n,_,h1⟩:=q;exact SeqAt.EqAt.str_list z t ⟨_,h1,rfl,n,rfl⟩ j
    |_=>cases g
   |_=>cases g
 |byt b=>cases g
 |flt b=>cases g
 |ty b=>cases g
def inS(l:List Str):V->Bool
 |.str z=>l.contains z
 |_=>false
theorem vS x:∀{l}{g},Vals (l.map V.str) g->g.any (eqU x)=inS l x
 |[],_,.nil=>by cases x<;>rfl
 |z::l,u::g,.cons r t=>by
  obtain⟨t',rfl⟩:=r;rw[BA,vS x t]
  cases x with
  |str y =>
   show((z==y) || l.contains y)=(z::l).contains y
   congr 1
   rw[DX,beq_iff_eq,beq_iff_eq];exact eq_comm
  |_=>rfl
def rInS(K:Dj)(g:Bool):R2:=fun x y H Q=>∃p l c,y=.ref p/\(SqL K H p (List.map V.str l)\/SqT K H p (List.map V.str l))/\tyN H x=some c/\Q (.bl (if g then !inS l x else inS l x)) H
theorem WW(F:X.A.units+1 < cLine):OpR X (compareOp .In) (rInS X.K false):=by
 intro pins s σ H x y v u Q I J M h;obtain⟨p,l,c,rfl,g,D,q⟩:=h;cases M
 rcases g with g | g
 .obtain ⟨j,r,B,L⟩:=I.list g
  refine SeqAt.in_listAt (eqU x) B.isList (fun w G=>uA (zR I J D F) r w (by grind)) ⟨.bl _,H,I,rfl,?_⟩;rw[show j.toArray.any (eqU x)=j.any (eqU x) by simp,vS x r];exact q
 .obtain ⟨j,r,B,L⟩:=I.tuple g
  refine SeqAt.in_tupleAt (eqU x) B (fun w G=>uA (zR I J D F) r w (by simpa using G)) ⟨.bl _,H,I,rfl,?_⟩;rw[show j.toArray.any (eqU x)=j.any (eqU x) by simp,vS x r];exact q
def rCatTA(K:Dj):R2:=fun x y H Q=>∃a b xs ys,x=.ref a/\y=.ref b/\SqT K H a xs/\SqT K H b ys/\xs.length+ys.length<=sizeLine /\
 (xs=[]->Q (.ref b) H)/\(xs≠[]->ys=[]->Q (.ref a) H)/\(xs≠[]->ys≠[]->∀p,H p=none->Q (.ref p) (upd H p (.tup (xs++ys))))
theorem WX:OpR X (binaryOp .Add) (rCatTA X.K):=by
 intro pins s σ H x y v u Q I F G h;obtain⟨a,b,xs,ys,rfl,rfl,j,q,U,q0,q1,q2⟩:=h
 by_cases g:xs=[]
 .cases F
  cases G;refine jZ (I.tuple j) fun ai r1 Z _=>jZ (I.tuple q) fun W r2 p2 _=>?_;have e:=r1.nil_iff.mpr g;subst e;obtain⟨⟨ae,J,ag,sl⟩,B,M,n,O⟩:=id Z;obtain⟨⟨af,L,ah,ab⟩,D,N,Y,S⟩:=id p2;subst M O N S
  exact concat_meets ⟨_,B,rfl⟩ ⟨_,D,rfl⟩ noFill_tuple_add seq_tuple_add DO DH (DD _ _)
   (tuple_addW0 a b _ W.toArray n Y J L sl ab rfl) ⟨B,D,⟨.ref b,H,I,rfl,q0 g⟩⟩
 .exact op_catT pins s σ H (.ref a) (.ref b) v u Q I F G ⟨a,b,xs,ys,rfl,rfl,j,q,g,U,q1 g,q2 g⟩
end
abbrev Cx.at_(X:Cx)(k:Nat):Cx:={ X with N:=X.N.set k "?" }
def NoAt(k:Nat)(σ:St):Prop:=∀v,σ[k]?≠some (some v)
section
variable {X:Cx}{pins:List (Addr×Obj)}{σ:St}{H:Hp}{s:Shared}{k:Nat}{e:Expr}{te:TE}{st:Stmt}{t:TS}
theorem ok_at(Y:X.Ok):(X.at_ k).Ok:=by
 obtain⟨h1,h2,L,M,N,O,S,U,W,g,j,q,B,D,F,G,I,J⟩:=Y;exact⟨h1,h2,L,M,N,O,S,U,W,g,j,q,B,D,F,G,I,J⟩
theorem W2(Y:(X.at_ k).Ok):X.Ok:=by
 obtain⟨h1,h2,L,M,N,O,S,U,W,g,j,q,B,D,F,G,I,J⟩:=Y;exact⟨h1,h2,L,M,N,O,S,U,W,g,j,q,B,D,F,G,I,J⟩
theorem inv_at(n:NoAt k σ)(I:Inv X pins σ H s):Inv (X.at_ k) pins σ H s:=by
 refine oQ I.loc fun m D B=>⟨ok_at I.ok,I.os,I.bare,I.base,⟨m,D,fun i x v g j q=>?_⟩,I.cell,I.free,I.freeC,I.pin,I.hok,?_⟩
 .by_cases hi:k=i
  .subst hi;exact absurd j (n v)
  .rw [B1 hi] at g
   exact B i x v g j q
 .rw [List.length_set]
  exact I.len
theorem Vj(n:NoAt k σ)(I:Inv (X.at_ k) pins σ H s):Inv X pins σ H s:=by
 refine oQ I.loc fun m B q=>⟨W2 I.ok,I.os,I.bare,I.base,⟨m,B,fun i x v D g j=>?_⟩,I.cell,I.free,I.freeC,I.pin,I.hok,?_⟩
 .by_cases hi:k=i
  .subst hi;exact absurd g (n v)
  .refine q i x v ?_ g j
   rwa [B1 hi]
 .have:=I.len
  rw[this,List.length_set]
theorem je_drop k(j:JE (X.at_ k) e te):JE X e (fun σ H Q=>NoAt k σ/\te σ H Q) :=
 ⟨fun pins s σ H Q I h=>thn (j.h pins s σ H Q (inv_at h.1 I) h.2) fun v D ⟨x,H1,g,B,q⟩=>⟨x,H1,Vj h.1 g,B,q⟩⟩
theorem js_fg k(h:JS X st t):JS X st (fun D σ H=>t D (σ.set k none) H) :=
 ⟨fun pins s σ H D I q=>h.h pins s (σ.set k none) H D (I.weak (by grind) fun i v e=>by
  by_cases hi:k=i
  .grind
  .rwa [B1 hi] at e) q⟩
end
section
variable {X:Cx}
theorem js_setC{O N pos Z}(ak:X.N.Nodup)(hi:X.N[i]?=some y)(hy:Loc X.env.scope y)(hc:X.calm=true)(hN:(x::X.N).Nodup)(K:rB X x G S)(hI:JI X (.Name x N) M wi)(ht:∀B C F j,JF (mK X x G S B C F j) Y tc)(aq:∀B C F j,JE (mK X x G S B C F j) U te)(hs:∀v,foldedSetIterable M X.env v=pure v:=by intro _;rfl)(av:swapsWith (.ListComp U [⟨.Name x N,M,Y,0⟩] G pos) (some (.Name y O)) Z.line X.env=pure true:=by rfl)(ar:X.fn y=true\/X.env.scope.names.lookup y=some .local:=by first | exact .inl rfl | exact .inr rfl | assumption):
  JS X (.Assign [.Name y O] (.ListComp U [⟨.Name x N,M,Y,0⟩] G pos) Z) (V9 (Qo wi tc te) (pU i)):=by
 refine⟨fun pins s σ H D ab h=>?_⟩;rw[exec_Assign_Name_used _ _ _ _ av];refine AA (wpAny_standAt (AA (AA (DC (use:=some (assign (.Name y O) X.env)) rfl hs K.clos K.kind K.names (thn (hI.h pins s σ H _ ab h) fun xv a5 aw=>thn aw fun a3 F ax=>?_)))));obtain⟨it,B,tn,J,j,e,I,T,az,af,R⟩:=ax;subst e
 apply uB (Q:=fun x H1=>pU i x σ H1 D.nx) hc K (fun _ _ _ _=>kD (i:=0) hN rfl (.inl (Bh (K.hx x (.head _)))) (.inr (Bh (K.hx x (.head _))))) (fun B C F j=>(ht B C F j).h) (fun B C F j=>(aq B C F j).h) (by rintro a0 vs y H Q l rfl _ q;match a0,l with | [_],_=>exact q) I T az af (fun D hD=>let ⟨ae,w0,tu⟩:=R D hD;⟨ae,w0,fun i m ys H w=>(tu i m ys H w).imp id fun⟨g,st⟩=>⟨g,fun x H' y=>⟨[x],rfl,rfl,st x H' y⟩⟩⟩)
 intro D' C H' a4 m hn ah ag ai aj I4 q;refine wpAny_assign_Name (qO I4 ak hi hy (v:=.ref D') rfl (fun ay I5 L=>?_) ar);obtain⟨b,L,W⟩:=L;have ao:C≠b :=by grind
 exact⟨m,hn.at' fun o e=>(L.2 C ao).trans e,fun h' au=>AF (AF ⟨_,H',I5.turned (t':=ay.toks) (fun b o W e=>(au.2 b W).trans e) ag ah (.inr (Ah I.sz aj)) ai fun p hp z=>absurd (AV (AI (I.pin p hp).1) (by lia)) (A7 _),q⟩)⟩
end
theorem sameNew(h:H p=none)o:Same H (upd H p o):=fun b u q=>by rwa [mQ (sJ q h)]
section
variable {X:Cx}
def rCatU:R2:=fun x y H Q=>∃a b xs ys,x=.ref a/\y=.ref b/\H a=some (.tup xs)/\H b=some (.tup ys)/\xs.length+ys.length<=sizeLine/\∀r H',Same H H'->H' r=some (.tup (xs++ys))->(H r=none\/r=a\/r=b)->Q (.ref r) H'
theorem op_catU:OpR X (binaryOp .Add) rCatU:=by
 intro pins s σ H x y v u Q I J L h;exact el46 h fun a b xs ys j B D F G q=>WX pins s σ H x y v u Q I J L ⟨a,b,xs,ys,j,B,SqT.of D,SqT.of F,G,fun h=>q b H (Same.refl H) (by rwa [h]) (.inr (.inr rfl)),fun _ h=>q a H (Same.refl H) (by grind) (.inr (.inl rfl)),fun _ _ p g=>q p _ (sameNew g _) bQ (.inl g)⟩
end
end L2
namespace PySem
open PySem.Spec PyProof.Rows PyProof.Rows.F
theorem uM:entryFor table "dict.update.loop" = some Builtin.«dict.update.loop»:=entryFor_of_tree (by kernel_rfl)
theorem iW:plainId "dict.update.loop" = true:=by decide +kernel
section
variable {prog:Program}{w:World}{κ:Type}[DecidableEq κ]{knd:KeyKind prog w κ}{A:Around}{d it t:Addr}{items:Array Value}{ps:List (κ×Value)}{res:Value}
theorem dZ{h h':Heap}(x:h.IsTuple p xs)(e:∀o,h.get? p=some o->h'.get? p=some o):h'.IsTuple p xs:=let ⟨o,q,r⟩:=x;⟨o,e o q,r⟩
theorem rC{h h':Heap}(x:h.IsTupleIter it p i)(e:∀o,h.get? it=some o->h'.get? it=some o):h'.IsTupleIter it p i:=let ⟨o,q,r⟩:=x;⟨o,e o q,r⟩
theorem xP{h h':Heap}(x:h.DictOf knd d kvs)(e:∀o,h.get? d=some o->h'.get? d=some o):h'.DictOf knd d kvs:=let ⟨o,es,ep,q,r⟩:=x;⟨o,es,ep,e o q,r⟩
theorem QH(ae:A.in1.handled=none)(L:d≠it)(ao:d≠t)(ar:t≠it)(au:items[ps.length]?=none):∀r i s acc,i+r=ps.length ->
   s.heap.IsTupleIter it t i->s.heap.IsTuple t items->s.heap.DictOf knd d acc->acc.length+r<=sizeLine ->
   (∀j(h:j < ps.length),∃p J,items[j]?=some (.ref p)/\p≠d/\p≠it/\s.heap.IsTuple p #[J,ps[j].2]/\knd.is ps[j].1 J=true) ->
   (∀h N,(∀b o,b≠d->b≠it->s.heap.get? b=some o->h.get? b=some o)->h.DictOf knd d (merged acc (ps.drop i))->R (.ok (.ret res)) { s with heap:=h,toks:=N }) ->
   codeAny (model prog w) A (.builtin "dict.update.loop" ⟨[.ref d,.ref it,rawInt i,res],[]⟩) R s:=by
 intro r
 induction r with
 |zero =>
  intro i s acc e G tt F hz I D;have ei:i=ps.length:=by lia
  subst ei;rw[BY] at D;exact BP uM ((Around.under_plainId iW _)▸AA (DK ae G tt au fun h x=>AA (AF (AF (D h s.toks (fun b o _ ak q=>x b o ak q) (xP F fun o q=>x d o L q))))))
 |succ r ih =>
  intro i s acc e G tt F hz I D;have hi:i < ps.length:=by lia
  refine el25 (I i hi) fun p J hp av aq tp kk=>BP uM (AA (DF G tt hp fun h1 ah g=>?_));have Z:=dZ tp fun o q=>g.extBut p o aq q;refine AA (As (AA (wpAny_tryCatch (AA (B4 Z.typeIs ?_)))));obtain⟨op,e1,e2,n,e3⟩:=id Z;refine AA (A1 e1 e3 (AF (As (wpAny_dictSet_pairs kk (xP F fun o q=>g.extBut d o L q) (fun h2 af B=>?_) (by lia)))))
  have ag:merged acc (ps.drop i)=merged (stored acc ps[i].1 ps[i].2) (ps.drop (i+1)):=by
   rw[Al hi];rfl
  refine AF ⟨BR iW _,?_⟩;have ek:rawInt ((i:Int)+1)=rawInt ((i+1:Nat):Int):=by rw[Int.natCast_add];rfl
  refine ih (i+1) _ (stored acc ps[i].1 ps[i].2) (by lia) (rC ah fun o q=>(B.2 it (Ne.symm L)).trans q) (dZ (dZ tt fun o q=>g.extBut t o ar q) fun o q=>(B.2 t (Ne.symm ao)).trans q) af ?_ (fun j hj=>?_) fun h N ai U=>?_
  .have:=stored_length_le acc ps[i].1 ps[i].2
   lia
  .exact el25 (I j hj) fun M aj ab O S a4 a5=>⟨M,aj,ab,O,S,dZ (dZ a4 fun o q=>g.extBut M o S q) fun o q=>(B.2 M O).trans q,a5⟩
  .rw [<- ag] at U
   exact D h N (fun b o W Y q=>ai b o W Y ((B.2 b W).trans (g.extBut b o Y q))) U
end
theorem cS:typeLookup (.type "tuple") "keys" = pure none:=by rw[DR,Cc];kernel_rfl
theorem oM
  (I:s.heap.get? a=some o)(B:o.cls=.type "tuple")(G:o.data=.seq xs k)(D:o.dict=none)(M:A.handled=none)(h:∀(h':Heap)(L:Nat),(∀b u,s.heap.get? b=some u->h'.get? b=some u)->Q none { s with heap:=h',toks:=L }):wpAny (model prog w) A (getAttr? (.ref a) "keys") Q E s:=by
 obtain⟨c,W,U,S⟩:=o
 simp only at B G D
 subst B G D;obtain⟨N,g,d,L,O⟩:=s;have q:∀j,(⟨N,g,d,j,O⟩:Shared).TypeIs (.ref a) "tuple":=fun _=>⟨_,I,rfl⟩;have Y:=sub_AttributeError;have Z:=Cw.lookup;have ab:=Cw.bind (.ref a);have f5:=am_tuple_getattr_none
 delta getAttr? getAttrBy? getAttrBy
 repeat (any_goals (first | assumption | exact q _ | ((with_reducible show wpAny _ _ (call (Value.builtin "tuple.__getattribute__") _ _) _ _ _);refine Cs Cw (q _) am_entry_tuple_getattribute (F.args_tuple_getattribute_2 _ _) (meets_getattribute_miss_tuple a xs k S "keys" _ cS rfl (by decide)) ⟨I,M,fun h' j e J=>?_⟩) | wp_step))
 obtain⟨t',u',ae⟩:=J.there
 delta getattributeRaised
 repeat (any_goals (first | assumption | wp_step))
 exact h h' j J.of.keeps
section
variable {prog:Program}{w:World}{κ:Type}[DecidableEq κ]{knd:KeyKind prog w κ}{A:Around}{E:Value->Shared->Prop}{s:Shared}{d t:Addr}{items:Array Value}{ps acc:List (κ×Value)}{res:Value}
theorem aC{id}(Z:A.handled=none)(ab:S.in1.handled=none)(ak:d≠t)(F:s.heap.get? t=some o)(M:o.cls=.type "tuple")(N:o.data=.seq items n)(ag:o.dict=none)(L:s.heap.DictOf knd d acc)(hz:acc.length+ps.length<=sizeLine)(ao:items[ps.length]?=none)(ai:∀j(h:j < ps.length),∃p B,items[j]?=some (.ref p)/\p≠d/\s.heap.IsTuple p #[B,ps[j].2]/\knd.is ps[j].1 B=true)(D:∀(h:Heap)(G:Nat),(∀b o,b≠d->s.heap.get? b=some o->h.get? b=some o)->h.DictOf knd d (merged acc ps)->R (.ok (.ret res)) { s with heap:=h,toks:=G }):
  wpAny (model prog w) A (Builtin.Dict.updateFrom id d (.ref t) [] res) (fun D s'=>match D with | .done f=>R (.ok f) s' | .again J=>J.quiet=true/\codeAny (model prog w) S J R s') E s:=by
 have tt:s.heap.IsTuple t items:=⟨o,F,M,n,N⟩;refine AA (B4 tt.typeIs (AA (oM F M N ag Z fun h1 aq g=>AA (Bw ?_))));have O:=dZ tt fun o q=>g t o q;refine AA (CQ O ?_);have af :=ZJ L fun od es ep q _=>AI (g d od q);refine AF ⟨BR iW _,QH (knd:=knd) ab (AZ af) ak (AZ (AI (g t o F))) ao ps.length 0 _ acc (BI _) ⟨_,AM _ rfl,rfl,rfl⟩ (O.push _) ?_ hz (fun j hj=>?_) fun h G ah ae=>?_⟩
 .exact xP L fun o q=>AC _ (g d o q)
 .refine xR (ai j hj) fun p B U W I Y=>?_
  have hp :=oQ I fun op q _=>AI (g p op q);exact⟨p,B,U,W,AZ hp,dZ I fun o q=>AC _ (g p o q),Y⟩
 .exact D h G (fun b o aj q=>ah b o aj (AZ (AI (g b o q))) (AC _ (g b o q))) ae
end
end PySem
namespace L2
open PySem PySem.Spec PyProof.Rows
abbrev iY(H:Hp):List Addr->List (Key×V)->Prop:=Paired fun a p=>H a=some (.tup [kV p.1,p.2])
theorem nB:∀{j:List Addr}{g},Vals (j.map V.ref) g->g=j.map Value.ref
 |[],_,.nil=>rfl
 |_::_,_,.cons h r=>by
  cases h;rw[nB r];rfl
theorem kF(F:HOk P w H h):∀{B}{ps},iY H B ps->∃rs,KV ps rs/\B.length=rs.length /\
  ∀j(q:j < rs.length),∃p D,B[j]?=some p/\h.IsTuple p #[D,rs[j].2]/\(qX P w).is rs[j].1 D=true
 |_,_,.nil=>⟨[],.nil,rfl,fun j q=>absurd q (CN j)⟩
 |_,_,@Paired.cons _ _ _ a p Y Z e r=>by
  refine jZ (kF F r) fun rs I J L=>?_;obtain⟨_,U,g,O⟩:=(F a _ e)
  cases g with
  |@cons _ G _ its' M g =>
   cases g with
   |@cons _ S _ W N g =>
    cases g;refine⟨(p.1,S)::rs,.cons ⟨rfl,N⟩ I,by rw[AL,AL,J],fun j q=>?_⟩
    cases j with
    |zero=>exact⟨a,G,rfl,O.is,dO M⟩
    |succ j=>exact L j (Bq q)
section
variable {X:Cx}
theorem tR(U:X.calm=true):CallR X (.type "dict") (fun xs H Q=>∃t j ps,xs=[.ref t]/\H t=some (.tup (List.map V.ref j))/\iY H j ps/\ps.length<=sizeLine/\∀d,H d=none->Q (.ref d) (upd H d (.dK (kY [] ps)))):=by
 intro pins s σ H xs ah Q I r h;obtain⟨t,j,ps,rfl,ht,Y,hz,af⟩:=h;obtain⟨u,rfl,rfl⟩:=r.one;obtain⟨_,ag,rv,o,h1,h2,⟨n,O⟩,S⟩:=(I.hok t _ ht);have N:=nB rv;subst N;refine jZ (kF I.hok Y) fun rs q1 q2 q3=>Df (Q₁:=fun B D=>B=.ref s.heap.objs.size/\D={ s with heap:=s.heap.push { cls:=.type "dict",data:=.dict #[] } }) F.kt_called_dict (F.kt_typeCall_dict_1 _) F.entry_dict_init (kt_code_dict_new _ ⟨rfl,rfl⟩) ?_
 rintro B D ⟨rfl,rfl⟩;have g:(s.heap.push { cls:=.type "dict",data:=.dict #[] }).DictOf (qX X.prog X.w) s.heap.objs.size []:=Heap.DictOf.new s.heap;refine⟨g.typeIs,F.args_dict_init_2 _ _,?_⟩
 apply AA
 refine AA (Cb g.typeIs (AF ?_));have G:=I.ok.hd U;refine aC (ps:=rs) (by lia) (by simp[G]) (Aq (AI h1)) (AC _ h1) h2 O S g ?_ ?_ (fun ab W=>?_) fun h' tk ae J=>?_
 .grind
 .simp_all
 .refine zT (q3 ab W) fun p kv L q M=>?_
  have Z :=oQ q fun op z _=>AI z;refine⟨p,kv,?_,AZ Z,q.push _,M⟩;rw[Cd,Ak,L];rfl
 .refine ⟨rfl,.ref s.heap.objs.size,_,I.laid (t':=tk) (fun b ob e=>ae b ob (AZ (AI e)) (AC _ e)) (AJ _) ?_,rfl,af _ (I.hok.fresh (AJ _))⟩
  refine aA ?_ (Ck (Aq I.big)) (KV.merge q1 .nil) J;have:=zW ps []
  simp at this
  lia
def rUpdP:V->List V->Hp->VK->Prop:=fun x vs H Q=>∃d t g ps kvs,x=.ref d/\vs=[.ref t]/\H d=some (.dK kvs)/\H t=some (.tup (List.map V.ref g))/\iY H g ps/\kvs.length+ps.length<=sizeLine/\Q .non (upd H d (.dK (kY kvs ps)))
theorem mt_updP(hc:X.calm=true):MtR X "dict.update" rUpdP:=by
 intro pins s σ H x xs v ao Q I rx rv h;obtain⟨d,t,pa,ps,kvs,rfl,rfl,q,L,hp,hz,ah⟩:=h;cases rx;obtain⟨u,rfl,rfl⟩:=rv.one;obtain⟨_,ak,ai,o,h1,h2,⟨n,W⟩,Y⟩:=(I.hok t _ L);have ei:=nB ai;refine jZ (kF I.hok hp) fun rs M q2 q3=>?_;have hl:=KV.length M;obtain⟨z,Z,vs,N,D⟩:=yR I.hok q;have aj:=N.length;have j:=D.typeIs;have S:=I.ok.hd hc;refine wpAny_call (codeAny_call_builtin F.slot_dict_update.plain F.entry_dict_update (F.slot_dict_update.check _ _ _ _ _ _ _ _ j (F.args_dict_update_2 _ _) ?_))
 apply AA
 refine AA (Cb j (AF (aC (R:=wants (EP X pins σ Q) X.xe) (ps:=rs) (by lia) (by simp[S]) (Yc q L (fun z=>nomatch z)) h1 h2 W Y D (by lia) ?_ (fun ae hj=>?_) fun h' tk af G=>?_)))
 .simp_all
 .refine zT (q3 ae hj) fun p kv e1 J U=>⟨p,kv,?_,?_,J,U⟩
  .simp_all
  .intro z
   subst z;refine jZ J fun op y1 y2 _=>oQ j fun od O g=>?_;rw[y1] at O;cases O;rw[y2] at g;injection g with g;exact absurd g (by decide)
 .have ab:∃B,h'.get? d=some B:=let ⟨B,_,_,hq,_⟩:=G;⟨B,hq⟩
  refine⟨.non,_,I.write (t':=tk) (q▸True.intro) (.inl rfl) (fun b ob ag e=>af b ob ag e) ab (aA ?_ Z (KV.merge M N) G),rfl,ah⟩;have:=zW ps kvs
  lia
end
end L2
namespace L2
open PySem PySem.W PyProof.Rows
def pD(n:Nat)(P:α->Prop):KasT α->Prop
 |.ret a=>P a
 |.ask i j k=>i < n/\j < n/\∀b,pD n P (k b)
def jU(g:Nat->Nat->Bool):KasT α->α
 |.ret a=>a
 |.ask i j k=>jU g (k (g i j))
theorem qY{f:α->KasT β}:∀t,pD n P t->(∀a,P a->pD n R (f a))->pD n R (t.bind f)
 |.ret a,h,g=>g a h
 |.ask i j k,h,g=>⟨h.1,h.2.1,fun b=>qY (k b) (h.2.2 b) g⟩
theorem Q6: ∀t,pD n P t->P (jU g t)
 |.ret a,h=>h
 |.ask i j k,h=>Q6 (k (g i j)) (h.2.2 _)
theorem kWp{J:Shared->Prop}(D:∀i j C s,i < n->j < n->J s->(∀s',J s'->C (B i j) s')->F i j C s):
  ∀t{Q:α->Shared->Prop}{s},pD n P t->J s->(∀s',J s'->P (jU B t)->Q (jU B t) s')->t.kasWp F Q s
 |.ret a,Q,s,h,g,q=>q s g h
 |.ask i j k,Q,s,h,g,q=>D i j _ s h.1 h.2.1 g fun s' G=>kWp D (k (B i j)) (h.2.2 _) G q
def Ord(n:Nat)(p:Array Nat):Prop:=p.toList.Perm (List.range n)
theorem Ord.lt(h:Ord n p)(h0:0 < n)i:p.getD i 0 < n:=by
 by_cases hi:i < p.size
 .have e:p.getD i 0=p[i] :=by simp_all
  rw[e];have g:p[i]∈p.toList:=by simp
  exact Ba.mp (h.mem_iff.mp g)
 .lia
theorem Ord.size(h:Ord n p):p.size=n:=by
 have:=h.length_eq
 rwa [Am,BD] at this
theorem Ord.rev(h:Ord n p)i j:Ord n (kas_rev p i j):=(Array.Perm.toList (mirror_perm p i j _)).trans h
theorem Ord.bubble(h:Ord n p)i j:Ord n (bubble p i j):=(Array.Perm.toList (bubble_perm p i j)).trans h
section
variable {n:Nat}(h0:0 < n)
include h0
theorem eI(h:Ord n p):∀f m,pD n (fun _=>True) (kas_asc p f m)
 |0,m=>trivial
 |f+1,m=>⟨h.lt h0 _,h.lt h0 _,fun b=>by
  cases b with
  |true=>exact trivial
  |false=>exact eI h f (m+1)⟩
theorem dD:∀f p m q,Ord n p->pD n (fun r=>Ord n r.1) (kas_desc f p m q)
 |0,p,m,q,h=>h
 |f+1,p,m,q,h=>⟨h.lt h0 _,h.lt h0 _,fun b=>by
  cases b with
  |true =>
   split
   .exact dD f _ _ _ (h.rev _ _)
   .exact dD f _ _ _ h
  |false =>
   refine⟨h.lt h0 _,h.lt h0 _,fun b=>?_⟩
   cases b with
   |true=>exact h
   |false=>exact dD f _ _ _ h⟩
theorem aT m r(h:Ord n p):pD n (fun r=>Ord n r.2) (kas_tail3 m r p) :=
 qY _ (eI h0 (h.rev 0 m) _ _) fun _ _=>h.rev 0 m
theorem cD m r(h:Ord n p):pD n (fun r=>Ord n r.2) (kas_descPart m r p) :=
 qY _ (dD h0 _ _ _ _ h) fun x g=>by
  split
  .exact aT h0 _ _ (g.rev _ _)
  .exact aT h0 _ _ g
theorem Vv r(h:Ord n p):pD n (fun r=>Ord n r.2) (kas_count r p) :=
 qY _ (eI h0 h _ _) fun x _=>by
  split
  .exact h
  .split
   .refine ⟨h.lt h0 _,h.lt h0 _,fun b=>?_⟩
    cases b with
    |true=>exact h
    |false=>exact cD h0 _ _ (h.rev _ _)
   .exact cD h0 _ _ h
theorem rL k(h:Ord n p):∀f l r,pD n (fun _=>True) (kas_place p k f l r)
 |0,l,r=>trivial
 |f+1,l,r=>by
  unfold kas_place
  split
  .exact trivial
  .refine ⟨h.lt h0 _,h.lt h0 _,fun b=>?_⟩
   cases b with
   |true=>exact rL k h f _ _
   |false=>exact rL k h f _ _
theorem Ku:∀f p k,Ord n p->pD n (Ord n) (kas_bin f p k)
 |0,p,k,h=>h
 |f+1,p,k,h=>qY _ (rL h0 k h _ _ _) fun l _=>Ku f _ _ (h.bubble _ _)
theorem Qu:pD n (Ord n) (kas_sort n) :=
 qY _ (Vv h0 n (List.Perm.refl _)) fun r g=>by
  split
  .exact Ku h0 _ _ _ g
  .exact g
end
noncomputable def jW(g:Nat->Nat->Bool)(vs:List Value):List Value:=(jU g (kas_sort vs.length)).toList.map fun i=>vs.getD i Value.none
noncomputable def vF(g:Nat->Nat->Bool)(ys:List V):List V:=(jU g (kas_sort ys.length)).toList.map fun i=>ys.getD i .non
theorem Wf g:(jU g (kas_sort 0)).toList=[]:=rfl
theorem rP(h:vs.length < 2):jW g vs=vs:=by
 cases vs with
 |nil=>rfl
 |cons v vs =>
  cases vs with
  |nil=>rfl
  |cons u vs=>exact absurd h (Nat.not_lt.2 (Cm 2 vs.length))
theorem vY g n(h:0 < n):Ord n (jU g (kas_sort n)):=Q6 _ (Qu h)
theorem qA g vs:(jW g vs).length=vs.length:=by
 by_cases h:vs.length < 2
 .rw [rP h]
 .delta jW
  rw[AB,BD,(vY g vs.length (by omega)).size]
noncomputable def jK(h:Heap)(a:Addr)(vs:List Value):Heap:=((h.update a (Obj.mapSeq fun _=>(#[]:Array Value))).push (seqObj "tuple" vs.toArray 0)).push (seqObj "list" #[] 0)
theorem Zi{g:List Value}(e:h.get? a=some (seqObj "list" g.toArray n)):∃k,(h.update a (Obj.mapSeq fun _=>(#[]:Array Value))).get? a=some (seqObj "list" #[] k)/\(jK h a vs).get? a=some (seqObj "list" #[] k) :=
 ⟨_,get?_update_seq e fun _=>#[],AC _ (AC _ (get?_update_seq e fun _=>#[]))⟩
theorem Q0(e:h.get? b=some o)(n:b≠a):(jK h a vs).get? b=some o :=
 AC _ (AC _ ((Cp _ _ _ _ n).trans e))
theorem tM(B:s.heap.get? a=some (seqObj "list" vs.toArray n))(W:vs.length < 64)(hk:2<=vs.length->∀Q:SortKind->Shared->Prop,Q κ { s with heap:=jK s.heap a vs }->wpAny (model q w) A (keyKind' vs.toArray) Q (fun _ _=>False) { s with heap:=jK s.heap a vs })(Z:∀i j,i < vs.length->j < vs.length->∀Q:Bool->Shared->Prop,Q (g i j) { s with heap:=jK s.heap a vs }->wpAny (model q w) A (keyLt' κ (vs.getD i Value.none) (vs.getD j Value.none)) Q (fun _ _=>False) { s with heap:=jK s.heap a vs })(S:R (.done (.ret .none)) { s with heap:=sortedHeap s.heap a vs (jW g vs).toArray }):wpAny (model q w) A (Builtin.«list.sort» ⟨[.ref a],[]⟩) R E s:=by
 obtain⟨D,U,I⟩:=Zi B;have zl:vs.length<=sizeLine:=by rw[Bx];lia
 have zo:(jW g vs).toArray.size<=sizeLine:=by rwa [Ao,qA]
 rw[list_sort_plain];refine AA (listItems_at B rfl (AA (listUpdate_at B rfl (AA (seqEpoch_at U rfl (AA (Dd (AA (wpAny_newList (As ?_) (Ab _))) zl)))) (by grind) (Ab _))))
 have rest:∀st':SortSt,(arrOf st').map (·.2)=(jW g vs).toArray->failedOf st'=none->wpAny (model q w) A (do
   let O <- seqEpoch a
   Builtin.List.listUpdate (.ref a) fun _=>(arrOf st').map (·.2)
   if let some e:=failedOf st' then rule "list.sort.comparison-raised"; throw e
   if (O != D)=true then rule "list.sort.modified"; raiseError "ValueError" "list modified during sort"
   ret .none) R E { s with heap:=jK s.heap a vs }:=fun st' q1 q2=>by
  rw[q1,q2];refine AA (seqEpoch_at I rfl (AA (listUpdate_at I rfl ?_ (Ab _) (A9 zo))));rw[show(D != D)=false by simp];exact AF S
 have L:vs.toArray.size=vs.length:=Ao
 by_cases h2:vs.length < 2
 .rw [L,Ac h2,Ac h2]
  refine AA (AF (AA (AF (rest _ ?_ rfl))));rw[rP h2]
  apply Array.toList_inj.mp
  simp
  exact List.map_snd_zip (AJ _)
 .rw [L,Ad h2,Ad h2]
  refine AA (BK (hk (by lia) (fun c s'=>c=κ/\s'={ s with heap:=jK s.heap a vs }) ⟨rfl,rfl⟩) (fun c ae hs=>?_) fun _ _ x=>x.elim);obtain⟨rfl,rfl⟩:=hs
  refine AA (BK (kat_run (Q:=fun st' s'=>s'={ s with heap:=jK s.heap a vs }/\(arrOf st').map (·.2)=(jW g vs).toArray/\failedOf st'=none)
   (G:=fun p s'=>s'={ s with heap:=jK s.heap a vs }/\p=jU g (kas_sort vs.length)) rfl (by lia) W (fun p' st' s' ab M N F=>⟨F.1,?_,N⟩)
   (kWp (J:=fun s'=>s'={ s with heap:=jK s.heap a vs }) (fun i j C s' hi hj e Y=>?_) _ (Qu (by lia)) rfl fun s' e _=>⟨e,rfl⟩)) ?_ fun _ _ e=>e)
  .rw [kat_snds rfl M,F.2]
   rfl
  .subst e
   exact Z i j hi hj _ (Y _ rfl)
  .rintro ⟨⟨⟩,st'⟩ s' ⟨rfl,q3,q4⟩
   exact rest st' q3 q4
noncomputable def pH(h:Heap)(vs:List Value):Heap:=((h.push (seqObj "list" #[] 0)).update h.objs.size (Obj.mapSeq (· ++ vs.toArray))).push (seqObj "list" vs.toArray 0)
theorem Xf(h:Heap)(vs:List Value):((h.push (seqObj "list" #[] 0)).update h.objs.size (Obj.mapSeq (· ++ vs.toArray))).objs.size=h.objs.size+1 :=by simp_all
theorem ZC h vs:(pH h vs).get? (h.objs.size+1)=some (seqObj "list" vs.toArray 0):=by
 have q:=AM ((h.push (seqObj "list" #[] 0)).update h.objs.size (Obj.mapSeq (· ++ vs.toArray))) (o:=seqObj "list" vs.toArray 0) rfl
 rwa [Xf] at q
theorem YM(e:h.get? b=some o):(pH h vs).get? b=some o :=
 AC _ ((Cp _ _ _ _ (AZ (AI e))).trans (AC _ e))
section
variable {X:Cx}
def Srt(X:Cx)(H:Hp)(ys:List V)(q:Nat->Nat->Bool):Prop:=∀(pins:List (Addr×Obj))(σ:St)(s:Shared)(g:List Value)(A:Around),A.units<=X.A.units+2->Inv X pins σ H s->Vals ys g ->
 ∃κ:SortKind,(2<=ys.length->∀Q:SortKind->Shared->Prop,Q κ s->wpAny (model X.prog X.w) A (keyKind' g.toArray) Q (fun _ _=>False) s) /\
  ∀i j,i < ys.length->j < ys.length->∀Q:Bool->Shared->Prop,Q (q i j) s->wpAny (model X.prog X.w) A (keyLt' κ (g.getD i Value.none) (g.getD j Value.none)) Q (fun _ _=>False) s
theorem wG(r:Vals ys j)i:RelV (ys.getD i .non) (j.getD i Value.none):=by
 induction r generalizing i with
 |nil=>exact rfl
 |cons a b g =>
  cases i with
  |zero=>exact a
  |succ i=>exact g i
theorem wN(r:Vals ys g):∀l:List Nat,Vals (l.map fun i=>ys.getD i .non) (l.map fun i=>g.getD i Value.none)
 |[]=>.nil
 |i::l=>.cons (wG r i) (wN r l)
theorem nP g ys:(vF g ys).length=ys.length:=by
 delta vF
 rw[AB,BD]
 by_cases h:0 < ys.length
 .exact (vY g ys.length h).size
 .have e:ys.length=0:=by lia
  rw[e]
  rfl
theorem XC:CallR X (.builtin "sorted") (fun xs H Q=>∃l ys g,xs=[.ref l]/\SqL X.K H l ys/\ys.length < 64/\Srt X H ys g/\∀p,H p=none->Q (.ref p) (upd H p (.lst (vF g ys)))):=by
 intro pins s σ H xs ae Q I r h;obtain⟨l,ys,g,rfl,W,ab,hs,q⟩:=h;obtain⟨u,rfl,rfl⟩:=r.one;obtain⟨vs,G,Z,_⟩:=(I.list W);have Y:=G.length;have O:vs.length < 64:=by lia
 have M:vs.length<=sizeLine:=by rw[Bx];lia
 have L:∀{b:Addr}{o:Obj},s.heap.get? b=some o->b≠s.heap.objs.size+1:=fun e=>AZ (Nat.lt_succ_of_lt (AI e));have J:∀b o,s.heap.get? b=some o->(jK (pH s.heap vs) (s.heap.objs.size+1) vs).get? b=some o:=fun b o e=>Q0 (YM e) (L e);obtain⟨κ,U,S⟩:=(hs pins σ _ vs X.A.in1.in1 (AJ _) (I.kept (t':=s.toks) J) G);obtain⟨k0,_,N⟩:=Zi (ZC s.heap vs);have D:∃c,(sortedHeap (pH s.heap vs) (s.heap.objs.size+1) vs (jW g vs).toArray).get? (s.heap.objs.size+1)=some (seqObj "list" (jW g vs).toArray c):=⟨_,get?_update_seq N fun _=>(jW g vs).toArray⟩
 obtain⟨c,D⟩:=D;refine Cy kind_sorted plain_sorted entry_sorted (args_sorted1 _) (?_:wpAny _ _ (Builtin.«sorted» _) _ _ _);refine AA (AF (AA (collect_list Z.isList (AA (wpAny_newList ?_ M)) M)));rw[Xf];refine AA (As (A6 slot_list_sort ⟨_,ZC s.heap vs,rfl⟩ entry_list_sort ?inner (args_list_sort _)));refine tM (ZC s.heap vs) O (fun h2 B F=>U (by lia) B F) (fun i j hi hj B F=>S i j (by lia) (by lia) B F) ⟨_,rfl,AF ⟨_,rfl,?_⟩⟩
 refine⟨.ref (s.heap.objs.size+1),_,I.laid (t':=s.toks) (fun b o e=>(Cp _ _ _ _ (L e)).trans (J b o e)) (B0 _) ?_,rfl,q _ (I.hok.fresh (B0 _))⟩;refine⟨by rw[nP,Bx];lia,jW g vs,c,?_,D⟩
 delta vF jW
 exact Y▸wN G _
end
end L2
namespace HT
open PySem PyProof.Rows
inductive TxtsAre:List Value->List Str->Prop
 |nil:TxtsAre [] []
 |cons (z:Str) (t:Tok) {vs:List Value} {zs:List Str}:TxtsAre vs zs->TxtsAre (.str z t::vs) (z::zs)
theorem TxtsAre.length(h:TxtsAre vs zs):vs.length=zs.length:=by
 induction h with
 |nil=>rfl
 |cons z t h g=>rw[AL,AL,g]
noncomputable def lexS:List Str->List Str->Bool
 |[],[]=>false
 |[],_::_=>true
 |_::_,[]=>false
 |x::xs,y::ys=>if x=y then lexS xs ys else decide (x.cps.toList < y.cps.toList)
theorem Vc x y xs ys:lexS (x::xs) (y::ys)=if x=y then lexS xs ys else decide (x.cps.toList < y.cps.toList):=rfl
section
open PySem.SeqAt
open PySem.AutoSeq1 (wpAny_loadPart')
open PySem.MeetsSeq PySem.MeetsSeq2 PySem.MeetsSeq3
theorem lS l b items B n n2 dd ab sl ak ns O(hi:TxtsAre items.toList ns)(Z:TxtsAre B.toList O):
  Meets (Builtin.«tuple.__lt__» ⟨[.ref l,.ref b],[]⟩)
   (fun _ R s=>s.heap.get? l=some { cls:=.type "tuple",dict:=dd,data:=.seq items n,slots:=sl }/\s.heap.get? b=some { cls:=.type "tuple",dict:=ab,data:=.seq B n2,slots:=ak } /\
    R (.ok (.ret (.bool (lexS ns O)))) s) :=
 .of_wp fun prog w A R s hh=>by
  obtain⟨I,g,d,L,J⟩:=s;obtain⟨hl,hb,h⟩:=hh;have ao:=AutoSeq1.sub_tuple_tuple;have z1:items.size=ns.length:=by rw[<- hi.length];simp
  have z2:B.size=O.length:=by rw[<- Z.length];simp
  wp_walk using wpAny_loadPart' hl,wpAny_loadPart' hb,Cg _ (fun rest b s'=>b.1=none/\s'=⟨I,g,d,L,J⟩/\∃vs S F D,rest=vs.zip S /\
   TxtsAre vs F/\TxtsAre S D/\F.length+B.size=D.length+items.size/\R (.ok (.ret (.bool (lexS F D)))) ⟨I,g,d,L,J⟩) _
  case turn =>
   rintro⟨y,x⟩ rest b s' ⟨U,rfl,vs,S,F,D,j,Y,N,G,q⟩
   cases Y with
   |nil=>rw[List.zip_nil_left] at j;cases j
   |cons a t ag =>
    cases N with
    |nil=>rw[List.zip_nil_right] at j;cases j
    |cons c u ai =>
     rw[Ct] at j;injection j with aj ae
     injection aj with hy hx
     subst hy hx;rw[Vc] at q
     simp only[List.length_cons] at G
     refine AA ((fun E Q W=>wpAny_eqBool_str W) _ _ ?_)
     by_cases M:a=c
     .rw [Af M]
      rw[Ac M] at q
      wp_walk
      exact⟨rfl,rfl,_,_,_,_,ae,ag,ai,by lia,q⟩
     .rw [AR M]
      rw[Ad M] at q
      have af:∀E Q,Q (.bool (decide (a.cps.toList < c.cps.toList))) ⟨I,g,d,L,J⟩->wpAny (model prog w) A.in1 (richCompare .Lt (.str a t) (.str c u)) Q E ⟨I,g,d,L,J⟩ :=
       fun E Q W=>(PyProof.Rows.lt_str W:wpAny (model prog w) A.in1 (compareOp .Lt (.str a t) (.str c u)) Q E ⟨I,g,d,L,J⟩)
      wp_walk using af
      exact⟨_,rfl,(by simpa using q)⟩
  case fin =>
   rintro⟨b1,b2⟩ s' ⟨U,rfl,vs,S,F,D,j,Y,N,G,q⟩
   simp only at U
   subst U
   have hv:lexS F D=decide (items.size < B.size):=by
    cases Y with
    |nil =>
     cases N with
     |nil =>
      simp only[List.length_nil] at G
      exact(AR (by lia)).symm
     |cons c u ah =>
      simp only[List.length_nil,List.length_cons] at G
      exact(Af (by lia)).symm
    |cons a t hv =>
     cases N with
     |nil =>
      simp only[List.length_nil,List.length_cons] at G
      exact(AR (by lia)).symm
     |cons c u ah =>
      rw[Ct] at j;cases j
   rw[hv] at q
   wp_walk
   exact⟨_,rfl,(by simpa [Builtin.Tuple.tupleCompareSizes] using q)⟩
  case h =>
   exact⟨rfl,rfl,items.toList,B.toList,ns,O,rfl,hi,Z,by lia,h⟩
end
section
theorem lt_tupStrs(J:IsTup s.heap l items)(G:IsTup s.heap b B)(hi:TxtsAre items.toList ns)(I:TxtsAre B.toList g)(L:A.units < cLine)(h:Q (.bool (lexS ns g)) s):wpAny (model prog w) A (compareOp .Lt (.ref l) (.ref b)) Q E s:=by
 obtain⟨⟨Z,D,d1,W⟩,j,N,n,O⟩:=J;obtain⟨⟨c2,F,d2,Y⟩,q,S,M,U⟩:=G;subst N O S U
 exact richCompare_meets_room (op:=.Lt) ⟨_,j,rfl⟩ ⟨_,q,rfl⟩ PySem.F.slot_tuple_lt PySem.F.entry_tuple_lt (PySem.F.args_tuple_lt_2 _ _) (lS l b items B n M D F W Y ns g hi I)
  ⟨j,q,show Value.bool (lexS ns g)≠Value.notImplemented/\Q (.bool (lexS ns g)) s from⟨(fun x=>nomatch x),h⟩⟩ L
end
end HT
namespace L2
open PySem PySem.W PyProof.Rows
theorem Jl(r:Vals (zs.map V.str) g):HT.TxtsAre g zs:=by
 induction zs generalizing g with
 |nil=>cases r;exact .nil
 |cons z zs j =>
  cases r with
  |cons a b =>
   obtain⟨t,rfl⟩:=a;exact .cons z t (j b)
def ltP(x y:List Str×Int):Bool:=if x.1=y.1 then decide (x.2 < y.2) else HT.lexS x.1 y.1
def gS(H:Hp)(v:V)(c:List Str×Int):Prop:=∃a g,v=.ref a/\H a=some (.tup [.ref g,.int c.2])/\H g=some (.tup (c.1.map V.str))
theorem Zt(k:List Str):(k.map (Sum.inr:Str->Key)).map kV=k.map V.str:=by
 rw[BJ]
 rfl
theorem JM{g:List Str}:(k.map (Sum.inr:Str->Key)=g.map Sum.inr)↔k=g:=by
 constructor
 .intro h
  induction k generalizing g with
  |nil=>cases g with
   |nil=>rfl
   |cons _ _=>cases h
  |cons x k j=>cases g with
   |nil=>cases h
   |cons y g =>
    injection h with h1 h2
    rw[j h2,Sum.inr.inj h1]
 .lia
theorem jC{σ:St}(I:Inv X pins σ H s)(h:gS H v c)(r:RelV v u):
  ∃a g o n t,u=.ref a/\s.heap.get? a=some o/\o.cls=.type "tuple"/\o.data=.seq #[.ref g,.int c.2 t] n/\H g=some (.tup (c.1.map V.str)):=by
 obtain⟨a,g,rfl,h1,h2⟩:=h;cases r;obtain⟨_,G,F,o,j,q,⟨n,B⟩,_⟩:=(I.hok a _ h1);obtain⟨J,L,rfl,rfl,D⟩:=Qh F;obtain⟨t,rfl⟩:=D;exact⟨a,g,o,n,t,rfl,j,q,B,h2⟩
theorem KB(hu:X.A.units+2 < cLine)(cs:Nat->List Str×Int)(M:∀i,i < ys.length->gS H (ys.getD i .non) (cs i)):Srt X H ys (fun i j=>ltP (cs i) (cs j)):=by
 intro pins σ s B A hA I r;have U:A.units < cLine:=by lia
 have ab:∀v∈ys,∃c,gS H v c:=fun v L=>by
  obtain⟨i,hi,e⟩:=CJ L;have q:=M i hi;have eg:ys.getD i .non=v :=by simp_all
  rw[eg] at q;exact⟨_,q⟩
 have ah:∀{ys:List V}{B:List Value},Vals ys B->(∀v∈ys,∃c,gS H v c)->∃fs,KatTups s.heap B fs/\fs.length=B.length/\∀f∈fs,Looks (model X.prog X.w) s.heap (typeOf f) (.type "tuple"):=by
  intro ys B r
  induction r with
  |nil=>exact fun _=>⟨[],.nil,rfl,fun f D=>nomatch D⟩
  |@cons y u ys B ry _ ih =>
   intro S;obtain⟨fs,N,W,O⟩:=(ih fun v L=>S v (AH _ L));obtain⟨c,hc⟩:=S y AE;obtain⟨a,G,o,n,t,rfl,e1,e2,e3,e4⟩:=jC I hc ry;obtain⟨_,ak,_,o2,ae,af,_,_⟩:=(I.hok G _ e4);refine⟨.ref G::fs,.cons e1 e2 e3 rfl N,by rw[AL,AL,W],fun f D=>?_⟩
   rcases Ai.mp D with rfl | D
   .exact af▸((Looks.ld ae).andThen .now)
   .exact O f D
 have aj:=r.length;refine⟨tuples' false,fun h2 Q g=>?_,fun i j hi hj Q g=>?_⟩
 .exact jZ (ah r ab) fun fs N W O=>kat_kind N (by lia) O rfl g
 .have g:Q (ltP (cs i) (cs j)) s:=g
  refine el55 (jC I (M i hi) (wG r i)) fun a ka oa ao ta ea Y ai Z a4=>el55 (jC I (M j hj) (wG r j)) fun b G ob aq tb eb b1 b2 b3 b4=>?_;rw[ea,eb]
  apply kat_lt Y Z b1 b3
  have ag:=xB I.hok (by rwa [Zt]);refine kat_cons (wpAny_eqBool_tuple U (xB I.hok (by rwa [Zt])) ag ?_)
  by_cases F:(cs i).1=(cs j).1
  .rw [Af (JM.mpr F)]
   refine kat_yes (kat_cons (wpAny_eqBool_int ?_));have hl:ltP (cs i) (cs j)=decide ((cs i).2 < (cs j).2):=Ac F;rw[hl] at g
   by_cases J:(cs i).2=(cs j).2
   .rw [show((cs i).2==(cs j).2)=true by simpa using J]
    refine kat_yes (kat_nil ?_)
    rwa [J,AR (Int.lt_irrefl _)] at g
   .rw [show((cs i).2==(cs j).2)=false by simpa using J]
    exact kat_no (kat_one _ _ (PyProof.Rows.lt_int g))
  .rw [AR (fun e=>F (JM.mp e))]
   rw[(show ltP (cs i) (cs j)=HT.lexS (cs i).1 (cs j).1 from Ad F)] at g;obtain⟨_,ia,ra,pa⟩:=(I.hok ka _ a4);obtain⟨_,ib,rb,pb⟩:=(I.hok G _ b4);exact kat_no (kat_one _ _ (HT.lt_tupStrs pa.is pb.is (Jl ra) (Jl rb) U g))
noncomputable def Yh(x y:Str×Int):Bool:=if x.1=y.1 then decide (x.2 < y.2) else decide (x.1.cps.toList < y.1.cps.toList)
def GV(H:Hp)(v:V)(c:Str×Int):Prop:=∃a,v=.ref a/\H a=some (.tup [.str c.1,.int c.2])
theorem X0{σ:St}(I:Inv X pins σ H s)(h:GV H v c)(r:RelV v u):
  ∃a o n t t',u=.ref a/\s.heap.get? a=some o/\o.cls=.type "tuple"/\o.data=.seq #[.str c.1 t',.int c.2 t] n:=by
 obtain⟨a,rfl,h1⟩:=h;cases r;obtain⟨_,G,F,o,g,j,⟨n,q⟩,_⟩:=(I.hok a _ h1);obtain⟨J,L,rfl,B,D⟩:=Qh F;obtain⟨t',rfl⟩:=B;obtain⟨t,rfl⟩:=D;exact⟨a,o,n,t,t',rfl,g,j,q⟩
theorem Wb(cs:Nat->Str×Int)(L:∀i,i < ys.length->GV H (ys.getD i .non) (cs i)):Srt X H ys (fun i j=>Yh (cs i) (cs j)):=by
 intro pins σ s B A hA I r
 have Y:∀v∈ys,∃c,GV H v c:=fun v J=>by
  obtain⟨i,hi,e⟩:=CJ J;have q:=L i hi;have eg:ys.getD i .non=v :=by simp_all
  rw[eg] at q;exact⟨_,q⟩
 have ab:∀{ys:List V}{B:List Value},Vals ys B->(∀v∈ys,∃c,GV H v c)->∃fs,KatTups s.heap B fs/\fs.length=B.length/\∀f∈fs,Looks (model X.prog X.w) s.heap (typeOf f) (.type "str"):=by
  intro ys B r
  induction r with
  |nil=>exact fun _=>⟨[],.nil,rfl,fun f D=>nomatch D⟩
  |@cons y u ys B ry _ ih =>
   intro O;obtain⟨fs,M,S,N⟩:=(ih fun v J=>O v (AH _ J));obtain⟨c,hc⟩:=O y AE;obtain⟨a,o,n,t,t',rfl,e1,e2,e3⟩:=X0 I hc ry;refine⟨.str c.1 t'::fs,.cons e1 e2 e3 rfl M,by rw[AL,AL,S],fun f D=>?_⟩
   rcases Ai.mp D with rfl | D
   .exact .now
   .exact N f D
 have af:=r.length;refine⟨tuples' true,fun h2 Q g=>?_,fun i j hi hj Q g=>?_⟩
 .exact jZ (ab r Y) fun fs M S N=>kat_kind M (by lia) N rfl g
 .have g:Q (Yh (cs i) (cs j)) s:=g
  refine el54 (X0 I (L i hi) (wG r i)) fun a oa ag ta ai ea U ae W=>el54 (X0 I (L j hj) (wG r j)) fun b ob ah tb aj eb Z b2 b3=>?_;rw[ea,eb];refine kat_lt U W Z b3 (kat_cons (wpAny_eqBool_str ?_))
  by_cases F:(cs i).1=(cs j).1
  .rw [Af F]
   refine kat_yes (kat_cons (wpAny_eqBool_int ?_));have hl:Yh (cs i) (cs j)=decide ((cs i).2 < (cs j).2):=Ac F;rw[hl] at g
   by_cases G:(cs i).2=(cs j).2
   .rw [show((cs i).2==(cs j).2)=true by simpa using G]
    refine kat_yes (kat_nil ?_)
    rwa [G,AR (Int.lt_irrefl _)] at g
   .rw [show((cs i).2==(cs j).2)=false by simpa using G]
    exact kat_no (kat_one _ _ (PyProof.Rows.lt_int g))
  .rw [AR F]
   rw[(show Yh (cs i) (cs j)=decide ((cs i).1.cps.toList < (cs j).1.cps.toList) from Ad F)] at g;exact kat_no (kas_lt_str g)
noncomputable def layT(H:Hp)(f:Addr->Option (List V)):Hp:=fun b=>match f b with
 |some xs=>some (.tup xs)
 |none=>H b
theorem fG(e:f b=some xs):layT H f b=some (.tup xs):=by delta layT;rw[e]
theorem xK(e:f b=none):layT H f b=H b:=by delta layT;rw[e]
theorem kK(g:∀b xs,f b=some xs->H b=none)(e:H b=some o):layT H f b=some o:=by
 cases z:f b with
 |none=>rwa [xK z]
 |some xs=>rw[g b xs z] at e;cases e
section
variable {X:Cx}{pins:List (Addr×Obj)}{σ:St}{H:Hp}{s:Shared}{h':Heap}
theorem Inv.tups{f:Addr->Option (List V)}(I:Inv X pins σ H s)(k:∀b u,s.heap.get? b=some u->h'.get? b=some u)(B:∀b xs,f b=some xs->s.heap.objs.size<=b/\xs.length<=sizeLine/\∃j:List Value,Vals xs j/\IsTupN h' b j.toArray):Inv X pins σ (layT H f) { s with heap:=h',toks:=t' }:=by
 have g:∀b xs,f b=some xs->H b=none:=fun b xs e=>I.hok.fresh (B b xs e).1
 have G:∀{b:Addr}{o:Obj},s.heap.get? b=some o->f b=none:=fun {b o}e=>by
  cases z:f b with
  |none=>rfl
  |some xs=>exact absurd (AI e) (Nat.not_lt.mpr (B b xs z).1)
 refine I.un ⟨fun b o q _ _ _=>k b o q,fun b o q _ _ _=>⟨o.slots,k b o q⟩,fun b o q n _=>by rw[xK (G q)];exact n,fun b o q _=>⟨o,k b o q⟩,fun b xs q=>kK g q,fun b o u q=>kK g q,fun b ps q=>⟨#[],by rw[kK g q];simp⟩⟩ fun b u e=>?_
 cases z:f b with
 |some xs =>
  rw[fG z] at e;cases e;obtain⟨_,h2,j,D,F⟩:=B b xs z;exact⟨h2,j,D,F⟩
 |none =>
  rw[xK z] at e;exact(I.hok b u e).stay (fun c v _ q=>k c v q) (fun c q=>kK g q) fun c xs q=>kK g q
end
section
variable {X:Cx}
theorem cP{σ:St}(S:A.in1.units<=X.A.units+2)(I:Inv X pins σ H s)(G:Vals ys vs)(ab:ys.length < 64)(hs:Srt X H ys g)(N:∀p s',H p=none->Inv X pins σ (upd H p (.lst (vF g ys))) s'->Z (.done (.ret (.ref p))) s'):
  wpAny (model X.prog X.w) A (newList vs >>= fun l=>holding [l] (call (.builtin "list.sort") [l] []) >>= fun _=>ret l) Z E s:=by
 have Y:=G.length;have O:vs.length < 64:=by lia
 have zl:vs.length<=sizeLine:=by rw[Bx];lia
 refine AA (wpAny_newList ?_ zl);have D:(s.heap.push (seqObj "list" vs.toArray 0)).get? s.heap.objs.size=some (seqObj "list" vs.toArray 0):=AM _ rfl;have L:∀{b:Addr}{o:Obj},s.heap.get? b=some o->b≠s.heap.objs.size:=fun e=>AZ (AI e);have J:∀b o,s.heap.get? b=some o->(jK (s.heap.push (seqObj "list" vs.toArray 0)) s.heap.objs.size vs).get? b=some o:=fun b o e=>Q0 (AC _ e) (L e)
 obtain⟨κ,W,U⟩:=(hs pins σ _ vs A.in1 S (I.kept (t':=s.toks) J) G);obtain⟨k0,_,M⟩:=Zi D;have B:∃c,(sortedHeap (s.heap.push (seqObj "list" vs.toArray 0)) s.heap.objs.size vs (jW g vs).toArray).get? s.heap.objs.size=some (seqObj "list" (jW g vs).toArray c):=⟨_,get?_update_seq M fun _=>(jW g vs).toArray⟩;obtain⟨c,B⟩:=B;refine AA (As (A6 slot_list_sort ⟨_,D,rfl⟩ entry_list_sort ?inner (args_list_sort _)))
 refine tM D O (fun h2 q F=>W (by lia) q F) (fun i j hi hj q F=>U i j (by lia) (by lia) q F) ⟨_,rfl,AF ?_⟩;refine N _ _ (I.hok.fresh (AJ _)) (I.laid (t':=s.toks) (fun b o e=>(Cp _ _ _ _ (L e)).trans (J b o e)) (AJ _) ⟨by rw[nP,Bx];lia,jW g vs,c,?_,B⟩)
 delta vF jW
 exact Y▸wN G _
abbrev lY(v d:Addr):Heap->Prop:=fun h=>h.IsItemsView v d
def rItems:V->List V->Hp->VK->Prop:=fun x vs H Q=>∃d kvs,x=.ref d/\vs=[]/\H d=some (.dK kvs)/\∀v,H v=none->Q (.ref v) (upd H v (.ext (lY v d)))
theorem Yf:MtR X "dict.items" rItems:=by
 intro pins s σ H x xs v N Q I L J h;obtain⟨d,kvs,rfl,rfl,G,q⟩:=h;cases L;cases J;obtain⟨z,D,vs,M,g⟩:=yR I.hok G;refine DN DB g.typeIs F.entry_dict_items (F.args_dict_items_1 _) (meets_dict_items (qX X.prog X.w) d D) ⟨⟨vs,g⟩,⟨.ref s.heap.objs.size,_,I.laid (t':=s.toks) (fun b o e=>AC _ e) (AJ _) ?_,rfl,q _ (I.hok.fresh (AJ _))⟩⟩
 refine⟨⟨_,AM _ rfl,rfl,rfl⟩,⟨_,AM _ rfl⟩,?_⟩;rintro h1 h2 ⟨o,j,B⟩ e;exact⟨o,e o j,B⟩
noncomputable def mkF(as:List Addr)(kvs:List (Key×V)):Addr->Option (List V):=fun b=>((as.zip kvs).find? fun p=>p.1==b).map fun p=>[kV p.2.1,p.2.2]
theorem Y4{as:List Addr}(D:as.Nodup){j:Nat}{p:Key×V}(g:as[j]?=some a)(B:kvs[j]?=some p):(as.zip kvs).find? (fun q=>q.1==a)=some (a,p):=by
 induction as generalizing kvs j with
 |nil=>cases g
 |cons x as F =>
  cases kvs with
  |nil=>cases B
  |cons y kvs =>
   rw[Az] at D;rw[Ct,A0]
   cases j with
   |zero=>cases g;cases B;simp
   |succ j =>
    exact(show(x==a)=false from Ck fun e=>D.1 (e▸Ae g))▸F D.2 g B
theorem kU{as:List Addr}{q:Addr×(Key×V)}(h:(as.zip kvs).find? (fun q=>q.1==b)=some q):q.1=b/\∃j:Nat,as[j]?=some b/\kvs[j]?=some q.2:=by
 have h1:=List.find?_some h;have h1:=eq_of_beq h1;obtain⟨j,g⟩:=Bu.mp (Bc h);rw[List.getElem?_zip_eq_some] at g;exact⟨h1,j,by exact h1▸g.1,g.2⟩
theorem kO: ∀{as}{kvs},as.length=kvs.length->(∀(j:Nat)a p,as[j]?=some a->kvs[j]?=some p->H a=some (.tup [kV p.1,p.2]))->iY H as kvs
 |[],[],_,_=>.nil
 |[],_::_,h,_=>nomatch h
 |_::_,[],h,_=>nomatch h
 |a::as,p::kvs,h,k=>.cons (k 0 a p rfl rfl) (kO (Aw h) fun j g q h1 h2=>k (j+1) g q h1 h2)
theorem Qy(h:(qX P w).is k u=true):RelV (kV k) u:=by
 rcases vJ h with ⟨i,t,rfl,rfl⟩ | ⟨x,t,rfl,rfl⟩ | ⟨rfl,rfl⟩
 .exact ⟨t,rfl⟩
 .exact ⟨t,rfl⟩
 .exact rfl
theorem Yq(r:KV kvs vs):∀{j:Nat}{p}{q:Key×Value},kvs[j]?=some p->vs[j]?=some q->p.1=q.1/\RelV p.2 q.2:=by
 induction r with
 |nil=>intro j p q h;cases h
 |cons h _ g =>
  intro j p q h1 h2
  cases j with
  |zero=>cases h1;cases h2;exact h
  |succ j=>exact g h1 h2
theorem yI(hc:X.calm=true):CallR X (.builtin "sorted") (fun xs H Q=>∃v d kvs F,xs=[.ref v]/\H v=some (.ext (lY v d))/\H d=some (.dK kvs)/\kvs.length < 64 /\
  ∀as H1,Same H H1->iY H1 as kvs->(∀a∈as,H a=none)->(∀a,H a=none->H1 a≠none->a∈as)->Srt X H1 (List.map V.ref as) F/\∀p,H1 p=none->Q (.ref p) (upd H1 p (.lst (vF F (List.map V.ref as))))):=by
 intro pins s σ H xs ao Q I r h;obtain⟨v,d,kvs,F,rfl,hv,ag,ak,S⟩:=h;obtain⟨u,rfl,rfl⟩:=r.one;obtain⟨z,hS,vs,Y,dd⟩:=yR I.hok ag;obtain⟨ah,_,_⟩:=(I.hok v _ hv);obtain⟨ep,da⟩:=dd.dictAt;have M:=Y.length;refine Cy kind_sorted plain_sorted entry_sorted (args_sorted1 _) (?_:wpAny _ _ (Builtin.«sorted» _) _ _ _);refine AA (AF (AA (kdx_collect (by simp[I.ok.hd hc]) ah da (by rwa [<- M]) fun h' tk as ai N G=>?_)))
 have W:=G.rise.imp fun h=>AZ h;have O:=N.trans M.symm;have B:∀a∈as,s.heap.objs.size<=a:=fun a D=>BV (G.above a D)
 have J:Inv X pins σ (layT H (mkF as kvs)) { s with heap:=h',toks:=tk }:=I.tups ai fun b xs e=>by
  delta mkF at e
  cases z:(as.zip kvs).find? fun p=>p.1==b with
  |none=>rw[z] at e;cases e
  |some q =>
   rw[z] at e;cases e;obtain⟨e1,j,g,e3⟩:=kU z;refine Xn (G.pairs j b g) fun aj k x ab ae af=>?_;obtain⟨r1,r2⟩:=Yq Y e3 ab;refine⟨B b (Ae g),zz 2 rfl,[aj,x],.cons (r1▸Qy ae) (.cons r2 .nil),⟨_,af,rfl,⟨_,rfl⟩,rfl⟩⟩
 have L:∀b xs,mkF as kvs b=some xs->H b=none:=fun b xs e=>by
  delta mkF at e
  cases z:(as.zip kvs).find? fun p=>p.1==b with
  |none=>rw[z] at e;cases e
  |some q =>
   obtain⟨_,j,g,_⟩:=kU z;exact I.hok.fresh (B b (Ae g))
 obtain⟨hs,q⟩:=S as (layT H (mkF as kvs)) (fun b o e=>kK L e) (kO O fun j a p h1 h2=>fG (by delta mkF;rw[Y4 W h1 h2];rfl)) (fun a D=>I.hok.fresh (B a D)) fun a n1 U=>by
  cases z:mkF as kvs a with
  |none=>rw[xK z] at U;exact absurd n1 U
  |some xs =>
   delta mkF at z
   cases y:(as.zip kvs).find? fun p=>p.1==a with
   |none=>rw[y] at z;cases z
   |some q =>
    obtain⟨_,j,g,_⟩:=kU y;exact Ae g
 have rv:Vals (as.map V.ref) (as.map Value.ref):=by
  clear W O B J L hs q N G S
  induction as with
  |nil=>exact .nil
  |cons a as ih=>exact .cons rfl ih
 exact cP (AJ _) J rv (by grind) hs fun p s' hp Z=>⟨_,rfl,.ref p,_,Z,rfl,q p hp⟩
end
end L2
namespace L2
open PySem PySem.Spec PyProof.Rows
section
variable {X:Cx}{pins:List (Addr×Obj)}{σ:St}{H:Hp}{s:Shared}{d:Addr}{o:Obj}{kvs:List (Key×V)}
theorem Inv.freeze(I:Inv X pins σ H s)(j:H d=some (.dK kvs))(D:s.heap.get? d=some o):Inv X pins σ (upd H d (.frz o (.dK kvs))) { s with toks:=t' }:=by
 have g:∀{b:Addr}{u:HO},H b=some u->u≠.dK kvs->b≠d:=fun e n z=>by subst z;rw[j] at e;cases e;exact n rfl
 refine I.un (h':=s.heap) ⟨fun b u q _ _ _=>q,fun b u q _ _ _=>⟨u.slots,q⟩,fun b u q n _=>by rw[mQ (fun z=>by subst z;rw[j] at n;cases n)];exact n,fun b u q _=>⟨u,q⟩,
  fun b xs q=>by rw[mQ (g q nofun)];exact q,fun b u v q=>by rw[mQ (g q nofun)];exact q,fun b ps q=>⟨#[],by rw[mQ (g q nofun),q];simp⟩⟩ fun b u e=>?_
 have st:∀{b:Addr}{u:HO},H b=some u->ObjOk X.prog X.w (upd H d (.frz o (.dK kvs))) s.heap b u:=fun {b u}e=>(I.hok b u e).stay (fun c v _ q=>q) (fun c q=>by rwa [mQ (g q nofun)]) fun c xs q=>by rwa [mQ (g q nofun)]
 by_cases B:b=d
 .subst B
  rw[bQ] at e;cases e;exact⟨D,st j⟩
 .rw [mQ B] at e
  exact st e
def NF(X:Cx)(d:Addr):Prop:=∀g u,X.H₀ d≠some (.frz g u)
theorem Inv.nf(I:Inv X pins σ H s)(g:H d=some (.dK kvs)):NF X d:=fun j u e=>by
 have:=I.base.frzs d j u e;rw[g] at this;cases this
theorem Inv.thaw(I:Inv X pins σ H s)(F:H d=some (.frz o (.dK kvs)))(W:NF X d):Inv X pins σ (upd H d (.dK kvs)) s:=by
 have j:∀{b:Addr}{u:HO},H b=some u->u≠.frz o (.dK kvs)->b≠d:=fun e n z=>by subst z;rw[F] at e;cases e;exact n rfl
 have D:∀{b:Addr},H b=none->b≠d:=fun e z=>by subst z;rw[F] at e;cases e
 obtain⟨m,O,N⟩:=I.loc;have B:=I.base;have st:∀{b:Addr}{u:HO},H b=some u->ObjOk X.prog X.w (upd H d (.dK kvs)) s.heap b u:=fun {b u}e=>(I.hok b u e).stay (fun c v _ q=>q) (fun c q=>by rwa [mQ (j q nofun)]) fun c xs q=>by rwa [mQ (j q nofun)]
 refine⟨I.ok,I.os,I.bare,⟨B.keep,B.slot,fun b u q n x=>by rw[mQ (D (B.free b u q n x))];exact B.free b u q n x,B.there,fun b xs q=>?_,fun b J u q=>?_,fun b ps q=>?_⟩,⟨m,O,N⟩,I.cell,by rw[mQ (D I.free)];exact I.free,fun x c e=>by rw[mQ (D (I.freeC x c e))];exact I.freeC x c e,fun p S=>?_,fun b u e=>?_,I.len⟩
 .have:=B.tups b xs q
  rwa [mQ (j this nofun)]
 .have:=B.frzs b J u q
  have g:b≠d:=fun z=>by subst z;exact W J u q
  rwa [mQ g]
 .obtain ⟨U,e⟩:=B.tbls b ps q
  exact⟨U,by rwa [mQ (j e nofun)]⟩
 .exact kH (I.pin p S) fun L G M=>⟨L,by exact(mQ (D G))▸G,M⟩
 .by_cases g:b=d
  .subst g
   rw[bQ] at e;cases e;exact(st F).2
  .rw [mQ g] at e
   exact st e
theorem je_thaw(h:JE X e t):JE X e (fun σ H Q=>t σ H fun v H'=>∃d o kvs,H' d=some (.frz o (.dK kvs))/\NF X d/\Q v (upd H' d (.dK kvs))) :=
 ⟨fun pins s σ H Q I q=>thn (h.h pins s σ H _ I q) fun u G ⟨v,H1,g,F,d,o,kvs,j,B,D⟩=>⟨v,_,g.thaw j B,F,D⟩⟩
end
def Itd(o:Obj)(d:Addr)(kvs:List (Key×V)):It :=
 ⟨fun i H=>i < kvs.length/\H d=some (.frz o (.dK kvs)),fun i H x H'=>H'=H/\∃p,kvs[i]?=some p/\x=kV p.1,fun i H=>kvs.length<=i/\H d=some (.frz o (.dK kvs))⟩
theorem Y3{σ:St}(I:Inv X pins σ H s)(D:H d=some (.frz o (.dK kvs)))(g:o.data=.dict es ep):
  ∃vs,KV kvs vs/\s.heap.DictAt (qX X.prog X.w) d vs ep/\(d==sysModules)=false:=by
 obtain⟨e,_,B,vs,J,o',M,L,j,F,q,G⟩:=(I.hok d _ D);rw[e] at j;cases j;rw[g] at q;cases q;exact⟨vs,J,⟨o,es,e,F,g,G⟩,B⟩
theorem Ky{K}o d it kvs es ep(ho:o.data=.dict es ep):Z6 P w K tg (Itd o d kvs) [it] it (fun i h=>h.IsKeyIter it d i kvs.length ep) where
 mem:=by simp
 obj:=fun i h st b g=>by
  have e:b=it :=by grind
  subst e;exact jZ st fun o e c d=>⟨o,e,fun v z=>by rw[d] at z;cases z⟩
 keep:=fun i h h' st k=>let ⟨Y,e,r⟩:=st;⟨Y,k it (by simp) Y e,r⟩
 item:=by
  intro X O W N Z i pins s σ H E I j st U;subst O W N;obtain⟨hi,S⟩:=U;obtain⟨vs,B,D,_⟩:=Y3 I S ho;have q:=B.length;refine Xo (j it (by simp)) fun F G ab J L M=>?_;have hv:vs[i]?=some (vs[i]'(by lia)):=AK _;have hk:kvs[i]?=some kvs[i]:=AK _;obtain⟨r1,_⟩:=Yq B hk hv;rw[q] at st;refine wpAny_pyNext_dict_item st D hv fun ae h' ik st' sb=>?_
  have I1:=I.turned (t':=s.toks) (fun b o g e=>(sb.2 b g).trans e) F G J L M;exact jZ (id st') fun Y e c dt=>⟨ae,rfl,Xg e c dt rfl ⟨kV kvs[i].1,H,I1,by rw[r1];exact Qy ik,⟨rfl,_,hk,rfl⟩,by rw[q];exact st',fun b g=>(j b g).1⟩⟩
 done:=by
  intro X O W N Z i pins s σ H E I j st U;subst O W N;obtain⟨hi,S⟩:=U;obtain⟨vs,B,D,_⟩:=Y3 I S ho;have q:=B.length;refine Xo (j it (by simp)) fun F G ab J L M=>?_;rw[q] at st;exact wpAny_pyNext_dict_end (I.ok.hd Z) st D (Cv.mpr (by lia)) fun h' eb=>⟨rfl,I.turned (t':=s.toks) (fun b o g e=>eb b o g e) F G J L M⟩
 self:=fun _ _ _ _ _ st h=>wpAny_pyIter_keyiter st h
section
variable {X:Cx}{tg:Expr}
def iDict(X:Cx)(td:TE):TI:=fun σ H R=>td σ H fun x H1=>∃d kvs,x=.ref d/\H1 d=some (.dK kvs)/\∀o,NF X d->R (Itd o d kvs) (upd H1 d (.frz o (.dK kvs)))
theorem ji_dict(N:JE X e td):JI X tg e (iDict X td):=by
 refine⟨fun pins s σ H R I h=>thn (N.h pins s σ H _ I h) fun v g ⟨x,H1,j,S,O⟩=>?_⟩;obtain⟨d,kvs,rfl,D,q⟩:=O;cases S;obtain⟨z,M,vs,U,G⟩:=yR j.hok D;obtain⟨ep,F⟩:=G.dictAt;refine xR (id F) fun o es J W L Y=>?_;have B:=j.freeze (t':=g.toks) D J;refine wpAny_pyIter_dict M F ⟨g.heap.objs.size,[g.heap.objs.size],_,_,_,rfl,B.kept (t':=g.toks) fun b o e=>AC _ e,Ky o d _ kvs es ep L,⟨_,AM _ rfl,rfl,by rw[U.length];rfl⟩,fun b Z=>?_,q o (j.nf D)⟩
 have e:b=g.heap.objs.size :=by grind
 subst e;exact B.fpOk (AJ _) (B.hok.fresh (AJ _))
end
end L2
namespace PySem.W
open PySem PySem.Calls PyProof.Rows PyProof.V PySem.Spec
def RawD(h:Heap)(d:Addr)(es:Array DictEntry)(ep:Nat):Prop:=∃o,h.get? d=some o/\o.ExactDict/\o.data=.dict es ep
theorem RawD.at(x:RawD h d es ep)(k:∀o,h.get? d=some o->h'.get? d=some o):RawD h' d es ep:=let ⟨o,e,r⟩:=x;⟨o,k o e,r⟩
abbrev RIt(h:Heap)(it d:Addr)(i n ep:Nat)(x0 ok ov:Value)(f:Bool):Prop:=h.get? it=some { cls:=.type "dict_itemiterator",dict:=none,data:=.fields #[x0,.bool f,.ref d,.int i 0,.int n 0,.int ep 0,ok,ov],slots:=#[] }
def RSt(h:Heap)(it d S:Addr)(i n ep:Nat):Prop:=∃g q B f,RIt h it d i n ep g q B f/\((g=.none/\f=false)\/∃a j,g=rawInt (a:Nat)/\h.get? a=some j/\a≠it/\a≠S)
theorem RSt.keep(x:RSt h it d S i n ep)(k:∀b o,b≠S->h.get? b=some o->h'.get? b=some o)(j:it≠S):RSt h' it d S i n ep:=by
 refine el42 x fun J B D f e r=>⟨J,B,D,f,k _ _ j e,r.imp id ?_⟩;rintro⟨a,q,F,G,I,g⟩;exact⟨a,q,F,k _ _ g G,I,g⟩
section
variable {prog:Program}{w:World}{A:Around}{E:Value->Shared->Prop}{s:Shared}
theorem Qz(hh:A.handled=none)(av:RSt s.heap it d S i n ep)(hS:S < s.heap.objs.size)(hD:RawD s.heap d es ep)(hn:es.size=n)(ar:∀e h',es[i]?=some e->RSt h' it d S (i+1) n ep->h'.get? s.heap.objs.size=some { cls:=.type "tuple",data:=.seq #[e.key,e.val] }->h'.objs.size=s.heap.objs.size+1->(∀b o,b≠it->s.heap.get? b=some o->h'.get? b=some o)->Q (some (.ref s.heap.objs.size)) { s with heap:=h' })(aq:es[i]?=none->∀h',(∀b o,b≠it->s.heap.get? b=some o->h'.get? b=some o)->Q none { s with heap:=h' }):wpAny (model prog w) A (pyNext (.ref it)) Q E s:=by
 obtain⟨O,g,U,tk,Z⟩:=s;refine jZ hD fun od d1 d2 d3=>el42 av fun a0 ao ov f N aw=>?_;subst hn;have J:Shared.TypeIs ⟨O,g,U,tk,Z⟩ (.ref it) "dict_itemiterator":=⟨_,N,rfl⟩;have au:Builtin.Dict_items.ownsTuple "dict_itemiterator" = true:=by decide
 delta pyNext
 refine AA (wpAny_attempt (BS J CK (A6 CK J PySem.F.entry_dict_itemiterator_next (AA (AF ?_)) (PySem.F.args_dict_itemiterator_next_1 _))));refine AA (AA (AA (Cf J (AF (AA (wpAny_fieldsOf N rfl ?_))))))
 (simp only[au,if_true];show wpAny _ _ (if (Value.ref d==Value.none)=true then _ else _) _ _ _;rw[Ad (show ¬ ((Value.ref d==Value.none)=true) from AS)])
 refine AA (AF (AA (wpAny_dictEntries d1 d3 ?_)))
 (rw[Ad (by simp)];refine AA (AF (AA (wpAny_dictEpoch d1 d3 ?_)));rw[Ad (by simp)];apply AF)
 cases Y:es[i]? with
 |none =>
  (simp only[show ¬ ((i:Int) < 0) from by lia,if_false,Int.toNat_natCast,Y];refine AA (AA (Cf J (AF ?_))))
  (show wpAny _ _ (setField (.ref it) 2 .none >>= _) _ _ _;refine AA (wpAny_setField N rfl (by simp) ?_))
  (apply AA;simp only[newExc,newTuple];refine AA (A4 ?_ (by size_fits)))
  refine AA (wpAny_of_eq (by first | rfl | (simp only[firstArgMember];rfl)) (A4 ?_ (by size_fits)))
  (simp only[raiseNew];refine AA (wpAny_handled ?_);rw[show A.in1.handled=none from hh];refine AA (AF (wpAny_throw ?_)))
  (refine AA (B5 ⟨_,AM _ rfl,rfl⟩ isSubtype_stop ?_))
  exact AF (aq Y _ fun b o L e=>(((Bl ..).extBut.push _).push _) b o L e)
 |some e =>
  have ag:=AI N
  (simp only[show ¬ ((i:Int) < 0) from by lia,if_false,Int.toNat_natCast,Y];refine AA (AA (Cf J (AF ?_))))
  (refine AA (DL J ?_);show wpAny _ _ (setField (.ref it) 3 (rawInt ((i:Int)+1)) >>= _) _ _ ⟨O,g,U,tk,Z⟩)
  refine AA (Ax N (by simp) fun ah M W=>?_);have W:=W
  have M:RIt ah it d (i+1) es.size ep a0 ao ov f:=by
   have z:((i+1:Nat):Int)=(i:Int)+1:=by lia
   (delta RIt;rw[z];simpa [rawInt] using M)
  have af:Shared.TypeIs ⟨ah,g,U,tk,Z⟩ (.ref it) "dict_itemiterator":=⟨_,M,rfl⟩;refine AA (As (AA (DL af (AA (DL af ?_)))))
  (delta Builtin.Dict_items.pairFromOwner;refine AA (Dd ?_))
  obtain⟨q,I⟩:∃q,q=ah.push { cls:=.type "tuple",data:=.seq #[e.key,e.val] }:=⟨_,rfl⟩;have F:=W.1;have G :=I▸AC _ M;have t2 :=I▸F▸AM _ rfl;have z2:q.objs.size=O.objs.size+1:=by rw[I,Bp,F]
  have k2:∀b o,b≠it->O.get? b=some o->q.get? b=some o:=fun b o L aj=>I▸AC _ (W.extBut b o L aj);have ae:∀j:Heap,Heap.SameBut it q j->RSt j it d S (i+1) es.size ep->Q (some (.ref O.objs.size)) ⟨j,g,U,tk,Z⟩:=fun j D r=>ar e j Y r (D.extBut _ _ (Aq ag) t2) (by rw[D.1,z2]) fun b o L aj=>D.extBut b o L (k2 b o L aj)
  (rw[<- I])
  clear I M af
  (apply AA;delta Builtin.Dict_items.ownedTupleIsFree;refine AA (Ar G rfl rfl ?_))
  rcases aw with ⟨rfl,rfl⟩ | ⟨a,oa,rfl,ha,ai,ax⟩
  ·(apply AF;simp only[if_true])
   refine AA (Ar G rfl rfl (AA (Ar G rfl rfl (AA (Ax G (by simp) fun j e3 ab=>?_)))));refine AA (Ax e3 (by simp) fun h4 e4 ay=>?_);refine AA (Ax e4 (by simp) fun h5 e5 az=>?_);refine AA (Ax e5 (by simp) fun h6 e6 s6=>?_);have D:=((Heap.SameBut.trans ab ay).trans az).trans s6
   have a6 :=F▸D.extBut _ _ (Aq ag) t2;have rs:RSt h6 it d S (i+1) es.size ep:=⟨_,_,_,_,e6,.inr ⟨_,_,rfl,a6,by rw[F];exact Aq ag,by exact F▸Aq hS⟩⟩;have B:=ae h6 D rs;rw[<- F] at B;exact AA (De (AF (AF ⟨_,rfl,AF B⟩)))
  .have ak:=k2 a oa ai ha
   have rs:∀j fl,Heap.SameBut it q j->RIt j it d (i+1) es.size ep (rawInt (a:Nat)) ao ov fl->RSt j it d S (i+1) es.size ep:=fun j fl D r=>⟨_,_,_,_,r,.inr ⟨a,oa,rfl,D.extBut a oa ai ak,ai,ax⟩⟩
   (show wpAny _ _ (loadIfAlive ((a:Int).toNat) >>= _) _ _ _;rw[Int.toNat_natCast])
   (refine AA (kdx_alive ak ?_);simp only[Option.isNone_some,Bool.false_eq_true,if_false];refine AA (Ar G rfl (x:=.bool f) rfl ?_))
   cases f with
   |true =>
    (rw[Ad (show ¬ ((Value.bool true != Value.bool true)=true) from AS)];apply AF;simp only[Bool.false_eq_true,if_false])
    have B:=ae q (Heap.SameBut.refl _ _) (rs q true (Heap.SameBut.refl _ _) G);rw[<- F] at B;exact AF (AF ⟨_,rfl,AF B⟩)
   |false =>
    (rw[Ac (show(Value.bool false != Value.bool true)=true from rfl)];refine AA (Ax G (by simp) fun j e3 ab=>?_))
    have B:=ae j ab (rs j true ab e3);rw[<- F] at B
    (apply AF;simp only[Bool.false_eq_true,if_false])
    exact AF (AF ⟨_,rfl,AF B⟩)
structure RawG(es:Array DictEntry)(lo:Addr)(h:Heap)(as:List Addr):Prop where
 rise:as.Pairwise (· < ·)
 above:∀a∈as,lo < a
 pairs:∀(j:Nat)(a:Addr),as[j]?=some a->∃e,es[j]?=some e/\h.get? a=some { cls:=.type "tuple",data:=.seq #[e.key,e.val] }
theorem RawG.there{lo}(g:RawG es lo h as)(B:a∈as):a < h.objs.size:=by
 obtain⟨j,D⟩:=Bu.mp B;exact oQ (g.pairs j a D) fun e _ q=>AI q
theorem RawG.snoc{lo}{p:Addr}(g:RawG es lo h as)(k:∀b o,lo < b->h.get? b=some o->h'.get? b=some o)(G:h.objs.size=p)(M:lo < p)(L:es[as.length]?=some e)(N:h'.get? p=some { cls:=.type "tuple",data:=.seq #[e.key,e.val] }):RawG es lo h' (as++[p]) where
 rise:=Dh.mpr ⟨g.rise,DI _ _,fun a q b F=>by
  cases AD.mp F
  exact G▸g.there q⟩
 above:=fun a q=>by
  rcases AX.mp q with q | q
  .exact g.above a q
  .grind
 pairs:=fun j a B=>by
  by_cases h1:j < as.length
  .rw [Be h1] at B
   exact oQ (g.pairs j a B) fun D I J=>⟨D,I,k a _ (g.above a (Ae B)) J⟩
  .by_cases h2:j=as.length
   .simp_all
   .grind
theorem Wj{ae:Heap}(Z:A.handled=none)(Y:S < I)(ah:d≠S)(ag:d≠I)(hz:es.size<=sizeLine)(hR:∀h' j acc c as,(∀b o,b≠S->b≠I->ae.get? b=some o->h'.get? b=some o)->h'.get? S=some { cls:=.type "list",dict:=none,data:=.seq acc c,slots:=#[] }->as.length=es.size->RawG es I h' as->acc.toList=as.map Value.ref->R (.ok (.ret res)) { s with heap:=h',toks:=j }):
  ∀k h j c acc as,as.length+k=es.size->RSt h I d S as.length es.size ep->RawD h d es ep->(∀b o,b≠S->b≠I->ae.get? b=some o->h.get? b=some o) ->
   h.get? S=some { cls:=.type "list",dict:=none,data:=.seq acc c,slots:=#[] }->acc.toList=as.map Value.ref->RawG es I h as->I < h.objs.size ->
   codeAny (model prog w) A (.builtin "list.extend.loop" ⟨[.ref S,.ref I,res],[]⟩) R { s with heap:=h,toks:=j }:=by
 have N:=AZ Y;intro k
 induction k with
 |zero =>
  intro h j c acc as hk J D M B G q F
  (apply BP B9)
  (refine AA (Qz Z J (AI B) D rfl (fun e h' L=>?_) fun _ h' g=>?_))
  .grind
  .exact AF (hR h' j acc c as (fun b o h1 h2 e=>g b o h2 (M b o h1 h2 e)) (g S _ N B) (by lia) ⟨q.rise,q.above,fun aj a hj=>let ⟨e,q1,q2⟩:=q.pairs aj a hj;⟨e,q1,g a _ (Aq (q.above a (Ae hj))) q2⟩⟩ G)
 |succ k ih =>
  intro h j c acc as hk J D M B G q F;have hsz:acc.size=as.length:=by rw[<- BD,G,AB]
  (apply BP B9)
  (refine AA (Qz Z J (AI B) D rfl (fun e h' L ai ht aq g=>?_) fun L=>?_))
  .have g:=g
   have W:=g S _ N B;have O:∀b o,b≠S->h'.get? b=some o->(h'.update S (Obj.mapSeq (·.push (Value.ref h.objs.size)))).get? b=some o:=fun b o ak e=>(BC _ _ (Ne.symm ak)).trans e;have U:∀b o,b≠S->b≠I->h.get? b=some o->(h'.update S (Obj.mapSeq (·.push (Value.ref h.objs.size)))).get? b=some o:=fun b o n1 n2 e=>O b o n1 (g b o n2 e);have ab:=O _ _ (Aq (AI B)) ht
   have af:=q.snoc (fun b o lb e=>U b o (Aq (Nat.lt_trans Y lb)) (Aq lb) e) rfl F L ab;have hl:(as++[h.objs.size]).length=as.length+1 :=by grind
   have ao:=ih _ j _ (acc.push (Value.ref h.objs.size)) (as++[h.objs.size]) (by rw[hl];lia) (hl▸ai.keep O (Ne.symm N)) (D.at fun o e=>U d o ah ag e) (fun b o h1 h2 e=>U b o h1 h2 (M b o h1 h2 e)) (Ay _ W rfl) (by grind) af (Nat.lt_trans F (AI ab))
   (apply AA)
   exact Bg W rfl (AF ⟨BR B8 _,ao⟩) (by lia) (by grind)
  .grind
end
section
variable {prog:Program}{w:World}{A:Around}{E:Value->Shared->Prop}{s:Shared}{v d:Addr}{es:Array DictEntry}{ep:Nat}
theorem Wl(g:s.heap.IsItemsView v d)(B:RawD s.heap d es ep)(D:∀h':Heap,(∀b o,s.heap.get? b=some o->h'.get? b=some o)->h'.objs.size=s.heap.objs.size+1->RIt h' s.heap.objs.size d 0 es.size ep .none .none .none false->Q (.ref s.heap.objs.size) { s with heap:=h' }):
  wpAny (model prog w) A (pyIter (.ref v)) Q E s:=by
 refine jZ (id g) fun M G N I=>jZ B fun L j J q=>?_;have F:Builtin.Dict_items.ownsTuple "dict_itemiterator" = true:=by decide
 refine wpAny_pyIter_slot g.typeIs PySem.F.slot_dict_items_iter (A6 PySem.F.slot_dict_items_iter g.typeIs PySem.F.entry_dict_items_iter ?_ (PySem.F.args_dict_items_iter_1 _))
 (refine AA (AF (AA (AA (Ar G I rfl (AF (AA ?_)))))))
 (refine AA (wpAny_dictEntries j q (AA (wpAny_dictEpoch j q ?_)));simp only[F,if_true])
 refine A4 (AF ⟨_,rfl,"dict_itemiterator",_,⟨_,AM _ rfl,rfl⟩,CK.lookup,?_⟩) (by simp only[sizeOk,Builtin.Dict_items.ownedTupleFields,List.size_toArray,List.length_append,List.length_cons,List.length_nil,sizeLine_eq];lia)
 exact D _ (fun b o e=>AC _ e) (Bp _ _) (by
  have e:=AM (o:={ cls:=.type "dict_itemiterator",data:=.fields #[.none,.bool false,.ref d,.int 0 0,.int es.size 0,.int ep 0,.none,.none] }) s.heap rfl
  simpa [RIt,rawInt,Builtin.Dict_items.ownedTupleFields] using e)
theorem X5(hh:A.handled=none)(I:s.heap.IsItemsView v d)(F:RawD s.heap d es ep)(ag:S≠v)(U:d≠S)(M:s.heap.get? S=some { cls:=.type "list",data:=.seq #[] Y })(hz:es.size<=sizeLine)(hR:∀h' q acc c as,(∀b o,b≠S->s.heap.get? b=some o->h'.get? b=some o)->h'.get? S=some { cls:=.type "list",dict:=none,data:=.seq acc c,slots:=#[] }->as.length=es.size->RawG es s.heap.objs.size h' as->acc.toList=as.map Value.ref->R (.ok (.ret res)) { s with heap:=h',toks:=q }):
  wpAny (model prog w) A.in1 (Builtin.List.listExtendWith (.ref S) (.ref v) res) (fun ae s'=>match ae with | .done f=>R (.ok f) s' | .again J=>J.quiet=true/\codeAny (model prog w) A J R s') (fun e s'=>R (.error e) s') s:=by
 have O:=AI M;have ai:=let ⟨_,e,_⟩:=F;AI e
 delta Builtin.List.listExtendWith
 refine AA (B4 I.typeIs ?_);have Z:Builtin.List.listSameRef (.ref S) (.ref v)=false:=by simp[Builtin.List.listSameRef,ag]
 have ab:(Value.type "dict_items" == Value.type "list")=false:=by decide
 have f3:(Value.type "dict_items" == Value.type "tuple")=false:=by decide
 (simp only[Z,ab,f3,Bool.or_false,Bool.false_eq_true,if_false];refine AA (Wl I F fun h1 B z1 r1=>?_))
 have W:∀h D q,(∀b o,b≠S->h1.get? b=some o->h.get? b=some o)->h.get? S=some { cls:=.type "list",data:=.seq #[] D }->codeAny (model prog w) A (.builtin "list.extend.loop" ⟨[.ref S,.ref s.heap.objs.size,res],[]⟩) R { s with heap:=h,toks:=q }:=by
  intro h D q G j;have L:=G _ _ (Aq O) r1;refine Wj hh O U (AZ ai) hz (fun h' aj acc c as kk af hl hG ah=>hR h' aj acc c as (fun b o g e=>kk b o g (AZ (AI e)) e) af hl hG ah) es.size h q D #[] [] (BI _) ⟨_,_,_,_,L,.inl ⟨rfl,rfl⟩⟩ (F.at fun o e=>G d o U (B d o e)) (fun b o g _ e=>G b o g (B b o e)) j rfl ⟨.nil,(fun _ z=>nomatch z),(fun ak a z=>by simp at z)⟩ (AI L)
 have j:=B _ _ M;refine AA (As (kdx_hint (let ⟨o,ho,hc,_⟩:=I;⟨o,B _ _ ho,hc⟩) ?_));refine CM (fun _=>?_) (fun _=>AF ⟨BR B8 _,W _ Y _ (fun b o _ e=>e) j⟩)
 (refine AA (Bw (AA (AA (Bg j rfl ?_)))))
 have N:=Ay (Obj.mapSeq (·.push Value.none)) j rfl;refine Bg N rfl (AF ⟨BR B8 _,W _ _ _ (fun b o g e=>?_) (Ay (Obj.mapSeq (·.pop)) N rfl)⟩);exact(BC _ _ (Ne.symm g)).trans ((BC _ _ (Ne.symm g)).trans e)
theorem RawG.low{lo}(g:RawG es lo h as)(q:B<=lo):RawG es B h as:=⟨g.rise,fun a j=>An q (g.above a j),g.pairs⟩
theorem QA(hh:A.handled=none)(M:s.heap.IsItemsView v d)(L:RawD s.heap d es ep)(hz:es.size<=sizeLine)(U:∀(h':Heap)(g:Nat)(as:List Addr),(∀b o,s.heap.get? b=some o->h'.get? b=some o)->as.length=es.size->RawG es s.heap.objs.size h' as->R (as.map Value.ref) { s with heap:=h',toks:=g }):wpAny (model prog w) A (collect (.ref v)) R E s:=by
 have ae:=let ⟨_,I,_⟩:=M;AI I
 have ab:=let ⟨_,e,_⟩:=L;AI e
 (refine AA (wpAny_runValue (BP entry_proto_collect' ?_)))
 (refine AA (A4 (AF ⟨BR PySem.F.plain_list_iadd _,BP entry_list_iadd' ?_⟩)))
 have J:∀b o,s.heap.get? b=some o->(s.heap.push { cls:=.type "list",data:=.seq ([]:List Value).toArray }).get? b=some o:=fun b o e=>AC _ e;have Y:(s.heap.push { cls:=.type "list",data:=.seq ([]:List Value).toArray }).get? s.heap.objs.size=some { cls:=.type "list",data:=.seq #[] }:=AM _ rfl
 have af:=X5 (prog:=prog) (w:=w) (s:={ s with heap:=s.heap.push { cls:=.type "list",data:=.seq ([]:List Value).toArray } })
  (R:=fun q s'=>∃h' g acc c as,q=.ok (.ret (.ref s.heap.objs.size))/\s'={ s with heap:=h',toks:=g }/\(∀b o,s.heap.get? b=some o->h'.get? b=some o)/\h'.get? s.heap.objs.size=some { cls:=.type "list",dict:=none,data:=.seq acc c,slots:=#[] }/\as.length=es.size/\RawG es s.heap.objs.size h' as/\acc.toList=as.map Value.ref)
  hh (let ⟨o,I,x⟩:=M;⟨o,J _ _ I,x⟩) (L.at fun o e=>J d o e) (Aq ae) (AZ ab) Y hz fun h' g acc c as hk W hl S Z=>⟨h',g,acc,c,as,rfl,rfl,fun b o e=>hk b o (AZ (AI e)) (J b o e),W,hl,S.low (by simp_all),Z⟩
 refine BK af (fun O s' x=>?_) fun e s' x=>?_
 .have N:∀h' g acc c as,(∀b o,s.heap.get? b=some o->h'.get? b=some o)->h'.get? s.heap.objs.size=some { cls:=.type "list",dict:=none,data:=.seq acc c,slots:=#[] }->as.length=es.size->RawG es s.heap.objs.size h' as->acc.toList=as.map Value.ref->R acc.toList { s with heap:=h',toks:=g }:=fun h' g acc c as j _ D F G=>G▸U h' g as j D F
  cases O with
  |done f =>
   obtain⟨h',g,acc,c,as,e,rfl,j,B,D,F,G⟩:=x;cases e
   (exact AA (wpAny_load B (AF (N h' g acc c as j B D F G))))
  |again c1 =>
   refine⟨x.1,DM x.2 ?_⟩;rintro q ag ⟨h',g,acc,c,as,rfl,rfl,j,B,D,F,G⟩
   (exact AA (wpAny_load B (AF (N h' g acc c as j B D F G))))
 .lia
end
end PySem.W
namespace L2
open PySem PySem.W PyProof.Rows
section
variable {α:Type}{as:List Addr}{ps:List α}
theorem zip_at(B:as.Nodup){j:Nat}(g:as[j]?=some a)(D:ps[j]?=some p):(as.zip ps).find? (fun q=>q.1==a)=some (a,p):=by
 induction as generalizing ps j with
 |nil=>cases g
 |cons x as F =>
  cases ps with
  |nil=>cases D
  |cons y ps =>
   have B:=Az.mp B;rw[Ct,A0]
   cases j with
   |zero=>cases g;cases D;simp
   |succ j =>
    exact(show(x==a)=false from Ck fun e=>B.1 (e▸Ae g))▸F B.2 g D
theorem zip_of(h:(as.zip ps).find? (fun q=>q.1==b)=some q):∃j:Nat,as[j]?=some b/\ps[j]?=some q.2:=by
 have h0:=List.find?_some h;obtain⟨j,g⟩:=Bu.mp (Bc h);rw[List.getElem?_zip_eq_some] at g;exact⟨j,by exact(eq_of_beq h0)▸g.1,g.2⟩
end
inductive TPs(H:Hp):List Addr->List (List Key×V)->Prop
 |nil:TPs H [] []
 |cons {a b:Addr} {k:List Key} {v:V} {as:List Addr} {kvs:List (List Key×V)} (h1:H a=some (.tup [.ref b,v])) (h2:H b=some (.tup (k.map kV))) (r:TPs H as kvs):TPs H (a::as) ((k,v)::kvs)
noncomputable def mkT(as:List Addr)(ps:List (Addr×V)):Addr->Option (List V):=fun b=>((as.zip ps).find? fun p=>p.1==b).map fun p=>[.ref p.2.1,p.2.2]
theorem V0: ∀{as}{kvs},as.length=kvs.length->(∀(j:Nat)a p,as[j]?=some a->kvs[j]?=some p->∃b,H a=some (.tup [.ref b,p.2])/\H b=some (.tup (p.1.map kV)))->TPs H as kvs
 |[],[],_,_=>.nil
 |[],_::_,h,_=>nomatch h
 |_::_,[],h,_=>nomatch h
 |a::as,p::kvs,h,k=>let ⟨b,q,B⟩:=k 0 a p rfl rfl;.cons q B (V0 (Aw h) fun j g D h1 h2=>k (j+1) g D h1 h2)
theorem kt_raw(r:KT H kvs xs):∃ps:List (Addr×V),ps.length=kvs.length/\∀j:Nat,∀p∈ps[j]?,∃k u,kvs[j]?=some (k,p.2)/\xs[j]?=some (k,p.1,u)/\H p.1=some (.tup (k.map kV))/\RelV p.2 u:=by
 induction r with
 |nil=>exact⟨[],rfl,fun j p h=>by cases h⟩
 |@cons p q I J h r B =>
  obtain⟨ps,e,f⟩:=B;obtain⟨k,v⟩:=p;obtain⟨G,b,u⟩:=q;obtain⟨rfl,D,F⟩:=h;refine⟨(b,v)::ps,by rw[AL,AL,e],fun j p g=>?_⟩
  cases j with
  |zero=>cases g;exact⟨k,u,rfl,rfl,D,F⟩
  |succ j=>exact f j p g
section
variable {X:Cx}
theorem Q5 d(j:(d==sysModules)=false):MeetsIn prog w (Builtin.«dict.items» ⟨[.ref d],[]⟩) (fun _ R s=>s.TypeIs (.ref d) "dict"/\R (.ok (.ret (.ref s.heap.objs.size))) { s with heap:=s.heap.push { cls:=.type "dict_items",data:=.fields #[.ref d] } }) :=
 .of_wp fun A R s ⟨g,h⟩=>by
  (apply AA;refine AA (Cb g ?_))
  (apply AF;delta Builtin.Dict.showsAll)
  (exact(Ad (j▸AS))▸AA (AF (AA (A4 (AF ⟨_,rfl,h⟩)))))
def rItemsT:V->List V->Hp->VK->Prop:=fun x vs H Q=>∃d kvs,x=.ref d/\vs=[]/\H d=some (.dT kvs)/\∀v,H v=none->Q (.ref v) (upd H v (.ext (lY v d)))
theorem K7:MtR X "dict.items" rItemsT:=by
 intro pins s σ H x xs v N Q I L J h;obtain⟨d,kvs,rfl,rfl,G,q⟩:=h;cases L;cases J;obtain⟨z,D,ys,M,g⟩:=Ga I.hok G;refine DN DB g.typeIs F.entry_dict_items (F.args_dict_items_1 _) (Q5 d D) ⟨g.typeIs,⟨.ref s.heap.objs.size,_,I.laid (t':=s.toks) (o:=.ext (lY s.heap.objs.size d)) (fun b o e=>AC _ e) (AJ _) ⟨⟨_,AM _ rfl,rfl,rfl⟩,⟨_,AM _ rfl⟩,?_⟩,rfl,q _ (I.hok.fresh (AJ _))⟩⟩
 rintro h1 h2 ⟨o,j,B⟩ e;exact⟨o,e o j,B⟩
theorem wI(hc:X.calm=true):CallR X (.builtin "sorted") (fun xs H Q=>∃v d kvs O,xs=[.ref v]/\H v=some (.ext (lY v d))/\H d=some (.dT kvs)/\kvs.length < 64 /\
  ∀as H1,Same H H1->TPs H1 as kvs->(∀a∈as,H a=none)->(∀a,H a=none->H1 a≠none->a∈as)->Srt X H1 (List.map V.ref as) O/\∀p,H1 p=none->Q (.ref p) (upd H1 p (.lst (vF O (List.map V.ref as))))):=by
 intro pins s σ H xs aw Q I r h;obtain⟨v,d,kvs,O,rfl,hv,aq,av,hq⟩:=h;obtain⟨u,rfl,rfl⟩:=r.one;obtain⟨z,hS,ys,aj,dd⟩:=Ga I.hok aq;refine kH (I.hok v _ hv) fun ar _ _=>el36 dd fun od es ep d1 d2 d3 U _ _=>oQ (kt_raw aj) fun ps pl pf=>?_;have ae:es.size=kvs.length:=by rw[size_of_entries U,(Paired.length aj)]
 refine Cy kind_sorted plain_sorted entry_sorted (args_sorted1 _) (?_:wpAny _ _ (Builtin.«sorted» _) _ _ _);refine AA (AF (AA (QA (by simp[I.ok.hd hc]) ar ⟨od,d1,d2,d3⟩ (by rwa [ae]) fun h' tk as au af G=>?_)));have ai:=G.rise.imp fun h=>AZ h;have ag:=af.trans ae;have F:∀a∈as,s.heap.objs.size<=a:=fun a N=>BV (G.above a N)
 have B:∀b xs,mkT as ps b=some xs->∃(j:Nat)(p:Addr×V),as[j]?=some b/\ps[j]?=some p/\xs=[.ref p.1,p.2]:=fun b xs e=>by
  delta mkT at e
  cases y:(as.zip ps).find? fun p=>p.1==b with
  |none=>rw[y] at e;cases e
  |some q =>
   rw[y] at e;cases e;exact oQ (zip_of y) fun j g J=>⟨j,q.2,g,J,rfl⟩
 have S:Inv X pins σ (layT H (mkT as ps)) { s with heap:=h',toks:=tk }:=I.tups au fun b xs e=>by
  obtain⟨j,p,g,J,rfl⟩:=B b xs e;refine xR (pf j p J) fun k u L W Y Z=>oQ (G.pairs j b g) fun en ab ak=>?_;have ao:es[j]?=some (entryOfKey (tupleKind (qX X.prog X.w)) (k,p.1,u)):=by rw[entry_at U,W];rfl
  rw[ao] at ab;cases ab;exact⟨F b (Ae g),zz 2 rfl,[.ref p.1,u],.cons rfl (.cons Z .nil),⟨_,ak,rfl,⟨_,rfl⟩,rfl⟩⟩
 have M:∀b xs,mkT as ps b=some xs->H b=none:=fun b xs e=>wB (B b xs e) fun j p g _=>I.hok.fresh (F b (Ae g))
 obtain⟨hs,q⟩:=hq as (layT H (mkT as ps)) (fun b o e=>kK M e) (V0 ag fun j a p h1 h2=>by
   obtain⟨D,ah⟩:∃D,ps[j]?=some D:=⟨ps[j]'(pl▸(AW.1 h2).1),AK _⟩;refine xR (pf j D ah) fun k u L W Y Z=>?_;rw[h2] at L;cases L
   exact⟨D.1,fG (by delta mkT;rw[zip_at ai h1 ah];rfl),kK M Y⟩) (fun a N=>I.hok.fresh (F a N)) fun a n1 n2=>by
  cases y:mkT as ps a with
  |none=>rw[xK y] at n2;exact absurd n1 n2
  |some xs=>exact wB (B a xs y) fun j p g _=>Ae g
 have rv:Vals (as.map V.ref) (as.map Value.ref):=by
  clear ai ag F S M hs q af G hq B
  induction as with
  |nil=>exact .nil
  |cons a as ih=>exact .cons rfl ih
 exact cP (AJ _) S rv (by grind) hs fun p s' hp I'=>⟨_,rfl,.ref p,_,I',rfl,q p hp⟩
end
end L2
namespace L2
open PySem PySem.W PySem.Spec PyProof.Rows
noncomputable def iG(kvs j:List (List Key×V)):List (List Key×V):=j.foldl (fun acc g=>qV acc g.1 g.2) kvs
section
variable {X:Cx}
noncomputable def cntK(k:Key)(g:List Key):Nat:=g.countP fun j=>decide (j=k)
end
end L2
namespace CL
open PySem PySem.Spec L2
open PyProof.Rows hiding St
inductive PV where
 |non | bl (b:Bool) | int (i:Int) | str (x:Str) | ty (n:String) | tup (xs:List PV) | kt (xs:List PV) | fz (xs:List PV) | vw (d:Addr) | ref (a:Addr)
def imm:HO->Bool
 |.tup _=>true
 |.frz _ (.dK _)=>false
 |.frz _ (.dT _)=>false
 |.frz _ _=>true
 |.ext _=>true
 |_=>false
def Imm(H H':Hp):Prop:=∀a o,imm o=true->H a=some o->H' a=some o
theorem Imm.new(g:H p=none)o:Imm H (upd H p o):=fun a u _ e=>by
 rwa [mQ (sJ e g)]
theorem Imm.mut(g:H p=some u)(j:imm u=false)o:Imm H (upd H p o):=fun a v i e=>by
 have:a≠p:=by
  intro z;subst z;rw[g] at e;cases e;rw[j] at i;cases i
 rwa [mQ this]
def Fz(K:Dj)(H:Hp)(a:Addr)(xs:List V):Prop :=
 (∃o,H a=some (.frz o (.lst xs))) \/
  ∃(o:Obj)(g:Array Value)(n:Nat),K.lookup a=some o/\o.cls=.type "list"/\o.dict=none/\o.data=.seq g n/\g.size<=sizeLine/\Vals xs g.toList
theorem Fz.sq{K}(h:Fz K H a xs):SqL K H a xs:=by
 rcases h with ⟨o,h⟩ | h
 .exact .inl (.inr ⟨o,h⟩)
 .exact .inr h
theorem Fz.imm{K}(h:Fz K H a xs)(k:Imm H H'):Fz K H' a xs:=by
 rcases h with ⟨o,h⟩ | h
 .exact .inl ⟨o,k _ _ rfl h⟩
 .exact .inr h
theorem SqT.imm{K}(h:SqT K H a xs)(k:Imm H H'):SqT K H' a xs:=by
 rcases h with (h | ⟨o,h⟩) | h
 .exact .inl (.inl (k _ _ rfl h))
 .exact .inl (.inr ⟨o,k _ _ rfl h⟩)
 .exact .inr h
mutual
inductive Rep(K:Dj)(H:Hp):V->PV->Prop
 |non:Rep K H .non .non
 |bl (b:Bool):Rep K H (.bl b) (.bl b)
 |int (i:Int):Rep K H (.int i) (.int i)
 |str (x:Str):Rep K H (.str x) (.str x)
 |ty (n:String):Rep K H (.ty n) (.ty n)
 |ref (a:Addr):Rep K H (.ref a) (.ref a)
 |tup {a:Addr} {vs:List V} {ts:List PV} (h:H a=some (.tup vs)) (r:Reps K H vs ts):Rep K H (.ref a) (.tup ts)
 |kt {a:Addr} {vs:List V} {ts:List PV} (h:SqT K H a vs) (r:Reps K H vs ts):Rep K H (.ref a) (.kt ts)
 |fz {a:Addr} {vs:List V} {ts:List PV} (h:Fz K H a vs) (r:Reps K H vs ts):Rep K H (.ref a) (.fz ts)
 |vw {a d:Addr} (h:H a=some (.ext (lY a d))):Rep K H (.ref a) (.vw d)
inductive Reps(K:Dj)(H:Hp):List V->List PV->Prop
 |nil:Reps K H [] []
 |cons {v:V} {t:PV} {vs:List V} {ts:List PV} (h:Rep K H v t) (r:Reps K H vs ts):Reps K H (v::vs) (t::ts)
end
section
variable {K:Dj}{H H' H1 H2:Hp}
mutual
theorem Rep.imm{v:V}{t:PV}(k:Imm H H'):Rep K H v t->Rep K H' v t
 |.non=>.non
 |.bl b=>.bl b
 |.int i=>.int i
 |.str x=>.str x
 |.ty n=>.ty n
 |.ref a=>.ref a
 |.tup h r=>.tup (k _ _ rfl h) (Reps.imm k r)
 |.kt h r=>.kt (SqT.imm h k) (Reps.imm k r)
 |.fz h r=>.fz (Fz.imm h k) (Reps.imm k r)
 |.vw h=>.vw (k _ _ rfl h)
theorem Reps.imm{vs:List V}{ts:List PV}(k:Imm H H'):Reps K H vs ts->Reps K H' vs ts
 |.nil=>.nil
 |.cons h r=>.cons (Rep.imm k h) (Reps.imm k r)
end
theorem Reps.len: Reps K H vs ts->vs.length=ts.length
 |.nil=>rfl
 |.cons _ r=>Bi (· + 1) r.len
theorem Reps.get{i:Nat}: Reps K H vs ts->ts[i]?=some t->∃v,vs[i]?=some v/\Rep K H v t
 |.nil,e=>by cases e
 |.cons h r,e=>by
  cases i with
  |zero=>cases e;exact⟨_,rfl,h⟩
  |succ i=>exact r.get e
theorem Reps.append: Reps K H vs ts->Reps K H g ss->Reps K H (vs++g) (ts++ss)
 |.nil,r=>r
 |.cons h t,r=>.cons h (t.append r)
theorem Reps.take: ∀n,Reps K H vs ts->Reps K H (vs.take n) (ts.take n)
 |0,_=>.nil
 |_+1,.nil=>.nil
 |n+1,.cons h r=>.cons h (r.take n)
theorem Reps.drop: ∀n,Reps K H vs ts->Reps K H (vs.drop n) (ts.drop n)
 |0,r=>r
 |_+1,.nil=>.nil
 |n+1,.cons _ r=>r.drop n
theorem Reps.set(h:Rep K H v t):∀n,Reps K H vs ts->Reps K H (vs.set n v) (ts.set n t)
 |_,.nil=>.nil
 |0,.cons _ r=>.cons h r
 |n+1,.cons g r=>.cons g (r.set h n)
theorem Reps.reverse(r:Reps K H vs ts):Reps K H vs.reverse ts.reverse:=by
 induction vs generalizing ts with
 |nil=>cases r;exact .nil
 |cons v vs g =>
  cases r with
  |cons h r=>rw[Bj,Bj];exact(g r).append (.cons h .nil)
end
inductive CO where
 |lst (xs:List PV)
 |dK (kvs:List (Key×PV))
 |fK (kvs:List (Key×PV))
 |dT (kvs:List (List Key×PV))
 |fT (kvs:List (List Key×PV))
 |dP (kvs:List (List (List Key)×PV))
 |ins (c dx:Addr) (fs:List (Str×PV))
abbrev CH:=Addr->Option CO
def vQ(C:CH)(a:Addr)(o:CO):CH:=fun b=>if b=a then some o else C b
theorem jQ: vQ C a o a=some o:=Ac rfl
theorem yQ(h:b≠a):vQ C a o b=C b:=Ad h
abbrev FP(K:Dj)(H:Hp):List (κ×V)->List (κ×PV)->Prop:=Paired fun p q=>p.1=q.1/\Rep K H p.2 q.2
abbrev KP(K:Dj)(H:Hp):List (Key×V)->List (Key×PV)->Prop:=Paired fun p q=>p.1=q.1/\Rep K H p.2 q.2
def ORel(K:Dj)(H:Hp)(a:Addr):CO->Prop
 |.lst ts=>∃vs,H a=some (.lst vs)/\Reps K H vs ts
 |.dK kvs=>∃vs,H a=some (.dK vs)/\KP K H vs kvs
 |.fK kvs=>∃o vs,H a=some (.frz o (.dK vs))/\KP K H vs kvs
 |.dT kvs=>∃vs,H a=some (.dT vs)/\FP K H vs kvs
 |.fT kvs=>∃o vs,H a=some (.frz o (.dT vs))/\FP K H vs kvs
 |.dP kvs=>∃vs,H a=some (.dP vs)/\FP K H vs kvs
 |.ins c dx fs=>∃g,H a=some (.ins c dx g)/\FP K H g fs
def HRel(K:Dj)(H:Hp)(C:CH):Prop:=∀a o,C a=some o->ORel K H a o
def still:Option CO->Bool
 |none=>true
 |some (.fK _)=>true
 |some (.fT _)=>true
 |_=>false
def Fw(H:Hp)(C:CH)(H':Hp)(C':CH):Prop:=∀a,still (C a)=true->H a≠none->C' a=C a/\H' a=H a
section
variable {K:Dj}{H H' H1 H2:Hp}{C C' C1 C2:CH}
theorem Fw.refl:Fw H C H C:=fun _ _ _=>⟨rfl,rfl⟩
theorem Fw.trans(f:Fw H C H1 C1)(g:Fw H1 C1 H2 C2):Fw H C H2 C2:=fun a h n=>by
 obtain⟨c,e⟩:=f a h n;obtain⟨j,q⟩:=g a (by rwa [c]) (by rwa [e]);exact⟨j.trans c,q.trans e⟩
theorem ORel.mut(h:ORel K H a o):∃u,H a=some u/\imm u=false:=by
 cases o with
 |lst ts=>obtain⟨vs,e,_⟩:=h;exact⟨_,e,rfl⟩
 |dK ts=>obtain⟨vs,e,_⟩:=h;exact⟨_,e,rfl⟩
 |fK ts=>obtain⟨o,vs,e,_⟩:=h;exact⟨_,e,rfl⟩
 |dT ts=>obtain⟨vs,e,_⟩:=h;exact⟨_,e,rfl⟩
 |fT ts=>obtain⟨o,vs,e,_⟩:=h;exact⟨_,e,rfl⟩
 |dP ts=>obtain⟨vs,e,_⟩:=h;exact⟨_,e,rfl⟩
 |ins c dx fs=>obtain⟨vs,e,_⟩:=h;exact⟨_,e,rfl⟩
theorem HRel.hid(h:HRel K H C)(i:imm o=true)(e:H a=some o):C a=none:=by
 cases c:C a with
 |none=>rfl
 |some u =>
  obtain⟨v,g,j⟩:=((h a u c).mut);rw[e] at g;cases g;rw[i] at j;cases j
theorem HRel.fresh(h:HRel K H C)(e:H a=none):C a=none:=by
 cases c:C a with
 |none=>rfl
 |some u =>
  obtain⟨v,g,j⟩:=((h a u c).mut);rw[e] at g;cases g
theorem Fw.imm(f:Fw H C H' C')(h:HRel K H C):Imm H H':=fun a o i e=>by
 rw[(f a (by rw[h.hid i e];rfl) (by lia)).2];exact e
theorem ORel.imm(h:ORel K H a o)(k:Imm H H')(e:H' a=H a):ORel K H' a o:=by
 cases o with
 |lst ts=>obtain⟨vs,q,r⟩:=h;exact⟨vs,e.trans q,r.imm k⟩
 |dK ts=>obtain⟨vs,q,r⟩:=h;exact⟨vs,e.trans q,Paired.mapP r fun _ _ z=>⟨z.1,z.2.imm k⟩⟩
 |fK ts=>obtain⟨o,vs,q,r⟩:=h;exact⟨o,vs,e.trans q,Paired.mapP r fun _ _ z=>⟨z.1,z.2.imm k⟩⟩
 |dT ts=>obtain⟨vs,q,r⟩:=h;exact⟨vs,e.trans q,Paired.mapP r fun _ _ z=>⟨z.1,z.2.imm k⟩⟩
 |fT ts=>obtain⟨o,vs,q,r⟩:=h;exact⟨o,vs,e.trans q,Paired.mapP r fun _ _ z=>⟨z.1,z.2.imm k⟩⟩
 |dP ts=>obtain⟨vs,q,r⟩:=h;exact⟨vs,e.trans q,Paired.mapP r fun _ _ z=>⟨z.1,z.2.imm k⟩⟩
 |ins c dx fs=>obtain⟨vs,q,r⟩:=h;exact⟨vs,e.trans q,Paired.mapP r fun _ _ z=>⟨z.1,z.2.imm k⟩⟩
theorem HRel.new(h:HRel K H C)(g:H p=none)o:HRel K (upd H p o) C:=fun a u c=>oQ ((h a u c).mut) fun v e _=>(h a u c).imm (Imm.new g o) (mQ (sJ e g))
theorem Fw.new(g:H p=none)o:Fw H C (upd H p o) C:=fun a c n=>⟨rfl,mQ fun z=>n (z▸g)⟩
theorem HRel.lay(h:HRel K H C)(g:H p=none)(r:ORel K (upd H p o) p u):HRel K (upd H p o) (vQ C p u):=fun a v c=>by
 by_cases e:a=p
 .subst e;rw[jQ] at c;cases c;exact r
 .rw [yQ e] at c;exact h.new g o a v c
theorem Fw.lay(g:H p=none)o u:Fw H C (upd H p o) (vQ C p u):=fun a c n=>by
 have e:a≠p:=fun z=>n (z▸g);exact⟨yQ e,mQ e⟩
theorem HRel.put(h:HRel K H C)(g:H p=some j)(hi:imm j=false)(r:ORel K (upd H p o) p u):HRel K (upd H p o) (vQ C p u):=fun a v c=>by
 by_cases e:a=p
 .subst e;rw[jQ] at c;cases c;exact r
 .rw [yQ e] at c;exact(h a v c).imm (Imm.mut g hi o) (mQ e)
theorem Fw.put(g:C p=some j)o u(hs:still (some j)=false:=by rfl):Fw H C (upd H p o) (vQ C p u):=fun a c n=>by
 have e:a≠p:=fun z=>by subst z;rw[g,hs] at c;cases c
 exact⟨yQ e,mQ e⟩
end
abbrev CSt:=List (Option PV)
abbrev K1:=PV->CH->Prop
def RepO(K:Dj)(H:Hp):Option V->Option PV->Prop
 |_,none=>True
 |some v,some t=>Rep K H v t
 |none,some _=>False
def SRel(K:Dj)(H:Hp):St->CSt->Prop:=Paired (RepO K H)
section
variable {K:Dj}{H H':Hp}{C C':CH}
theorem RepO.imm(k:Imm H H')(h:RepO K H v t):RepO K H' v t:=by
 cases t with
 |none=>cases v<;>trivial
 |some t=>cases v with
  |none=>exact h
  |some v=>exact Rep.imm k h
theorem SRel.imm(s:SRel K H σ g)(k:Imm H H'):SRel K H' σ g:=Paired.mapP s fun _ _=>RepO.imm k
theorem SRel.get{i:Nat}(s:SRel K H σ j)(e:j[i]?=some (some t)):∃v,σ[i]?=some (some v)/\Rep K H v t:=by
 induction s generalizing i with
 |nil=>cases e
 |@cons a b q B h r g =>
  cases i with
  |zero =>
   cases e
   cases a with
   |none=>exact h.elim
   |some v=>exact⟨v,rfl,h⟩
  |succ i=>exact g e
theorem SRel.set(s:SRel K H σ j)(h:Rep K H v t)i:SRel K H (σ.set i (some v)) (j.set i (some t)):=by
 induction s generalizing i with
 |nil=>exact .nil
 |cons h' r g =>
  cases i with
  |zero=>exact .cons h r
  |succ i=>exact .cons h' (g i)
end
def zJ{α β:Type}(K:Dj)(j:Hp->α->β->Prop)(c:CSt->CH->(β->CH->Prop)->Prop):St->Hp->(α->Hp->Prop)->Prop:=fun σ H Q=>
 ∃g C R,SRel K H σ g/\HRel K H C/\c g C R/\∀v H' t C',R t C'->j H' v t->HRel K H' C'->Fw H C H' C'->Q v H'
abbrev TCE:=CSt->CH->K1->Prop
abbrev TCT:=CSt->CH->(Bool->CH->Prop)->Prop
abbrev TCA:=CSt->CH->(List PV->CH->Prop)->Prop
abbrev pL:Hp->Bool->Bool->Prop:=fun _ a b=>a=b
structure XO where
 nx:CSt->CH->Prop
 rt:K1
 bk:CSt->CH->Prop:=fun _ _=>False
 ct:CSt->CH->Prop:=fun _ _=>False
abbrev TCS:=XO->CSt->CH->Prop
structure ERel(K:Dj)(H:Hp)(C:CH)(E:XO)(D:G7):Prop where
 nx:∀σ' H' ρ' C',E.nx ρ' C'->SRel K H' σ' ρ'->HRel K H' C'->Fw H C H' C'->D.nx σ' H'
 rt:∀v H' t C',E.rt t C'->Rep K H' v t->HRel K H' C'->Fw H C H' C'->D.rt v H'
 bk:∀σ' H' ρ' C',E.bk ρ' C'->SRel K H' σ' ρ'->HRel K H' C'->Fw H C H' C'->D.bk σ' H'
 ct:∀σ' H' ρ' C',E.ct ρ' C'->SRel K H' σ' ρ'->HRel K H' C'->Fw H C H' C'->D.ct σ' H'
theorem ERel.fw{K}(e:ERel K H C E D)(f:Fw H C H1 C1):ERel K H1 C1 E D :=
 ⟨fun q H' j C' h s r g=>e.nx q H' j C' h s r (f.trans g),fun v H' t C' h s r g=>e.rt v H' t C' h s r (f.trans g),fun q H' j C' h s r g=>e.bk q H' j C' h s r (f.trans g),fun q H' j C' h s r g=>e.ct q H' j C' h s r (f.trans g)⟩
def Yj(K:Dj)(c:TCS):TS:=fun D σ H=>∃g C E,SRel K H σ g/\HRel K H C/\c E g C/\ERel K H C E D
structure CE(X:Cx)(e:Expr)(c:TCE):Prop where
 h:JE X e (zJ X.K (Rep X.K) c)
structure CT(X:Cx)(e:Expr)(c:TCT):Prop where
 h:JT X e (zJ X.K pL c)
structure CW(X:Cx)(e:Expr)(c:TCT):Prop where
 h:JW X e (zJ X.K pL c)
structure CA(X:Cx)(es:List Expr)(c:TCA):Prop where
 h:JA X es (zJ X.K (Reps X.K) c)
structure CS(X:Cx)(st:Stmt)(c:TCS):Prop where
 h:JS X st (Yj X.K c)
structure CB(X:Cx)(st:List Stmt)(c:TCS):Prop where
 h:JB X st (Yj X.K c)
section
variable {X:Cx}{a b c e o i:Expr}{es:List Expr}{pos:Pos}{rest:List Expr}{st:Stmt}{sts:List Stmt}
theorem JE.weak(h:JE X e t)(w:∀σ H Q,t' σ H Q->t σ H Q):JE X e t':=⟨fun pins s σ H Q I q=>h.h pins s σ H Q I (w σ H Q q)⟩
theorem JT.weak(h:JT X e t)(w:∀σ H Q,t' σ H Q->t σ H Q):JT X e t':=⟨fun pins s σ H Q I q=>h.h pins s σ H Q I (w σ H Q q)⟩
theorem JW.weak(h:JW X e t)(w:∀σ H Q,t' σ H Q->t σ H Q):JW X e t':=⟨fun g pins s σ H Q I q=>h.h g pins s σ H Q I (w σ H Q q)⟩
theorem JA.weak(h:JA X es t)(w:∀σ H Q,t' σ H Q->t σ H Q):JA X es t':=⟨fun p pins s σ H Q I q=>h.h p pins s σ H Q I (w σ H Q q)⟩
theorem JS.weak(h:JS X st t)(w:∀D σ H,t' D σ H->t D σ H):JS X st t':=⟨fun pins s σ H D I q=>h.h pins s σ H D I (w D σ H q)⟩
theorem JB.weak(h:JB X sts t)(w:∀D σ H,t' D σ H->t D σ H):JB X sts t':=⟨fun pins s σ H D I q=>h.h pins s σ H D I (w D σ H q)⟩
def cZ(i:Nat):TCE:=fun g C Q=>match g[i]? with
 |some (some t)=>Q t C
 |_=>False
def cC(t:PV):TCE:=fun _ C Q=>Q t C
theorem cv i(j:X.N[i]?=some x:=by rfl)(F:Vis X.env.scope x:=by first | exact Or.inl rfl | exact Or.inr (Or.inl rfl) | exact Or.inr (Or.inr rfl))(D:(x==("__debug__" : Str))=false:=by decide)(B:(x==("__classdict__" : Str))=false:=by decide):CE X (.Name x pos) (cZ i):=⟨JE.weak (jv i j F D B) fun σ H Q ⟨G,C,R,s,h,q,f⟩=>by
 delta cZ at q
 split at q
 .next t e =>
  exact oQ (s.get e) fun v g r=>⟨v,g,f v H t C q r h Fw.refl⟩
 .exact q.elim⟩
theorem Vy(h:JE X e (tC v))(r:∀H,Rep X.K H v t):CE X e (cC t):=⟨JE.weak h fun σ H Q ⟨g,C,R,s,h,q,f⟩=>f v H t C q (r H) h Fw.refl⟩
theorem zQ{i j pos}:CE X (.Constant (.int i) j pos) (cC (.int i)):=Vy je_int fun _=>.int i
theorem kW{b j pos}:CE X (.Constant (.bool b) j pos) (cC (.bl b)):=Vy je_bl fun _=>.bl b
theorem wV{j pos}:CE X (.Constant .none j pos) (cC .non):=Vy je_non fun _=>.non
theorem wQ{x j pos}:CE X (.Constant (.str x) j pos) (cC (.str x)):=Vy je_str fun _=>.str x
theorem rW(j:Gl X x)(B:X.mg x=some u)(r:RelV v u)(q:∀H,Rep X.K H v t)(g:(x==("__debug__" : Str))=false:=by decide):CE X (.Name x pos) (cC t):=Vy (je_glob j B r g) q
theorem dW(j:Gl X x)(q:X.mg x=none)(D:bootBuiltins x=some (.type n))(B:x ≠ "__name__":=by decide)(g:(x==("__debug__" : Str))=false:=by decide):CE X (.Name x pos) (cC (.ty n)):=Vy (je_bltn (v:=.ty n) j q D rfl B g) fun _=>.ty n
abbrev R2C:=PV->PV->CH->K1->Prop
def Cop(K:Dj)(r:R2)(q:R2C):Prop:=∀x y g j H C Q R,Rep K H x g->Rep K H y j->HRel K H C->q g j C R->(∀v H' t C',R t C'->Rep K H' v t->HRel K H' C'->Fw H C H' C'->Q v H')->r x y H Q
def cOp(B:R2C)(j q:TCE):TCE:=fun g C Q=>j g C fun x C1=>q g C1 fun y C2=>B x y C2 Q
theorem mH{K}(J:Cop K r G){Q:VK}(h:zJ K (Rep K) (cOp G D F) σ H Q):tOp r (zJ K (Rep K) D) (zJ K (Rep K) F) σ H Q :=qP h fun B C R s h q f=>⟨B,C,_,s,h,q,fun x H1 L C1 O W h1 g=>⟨B,C1,_,s.imm (g.imm h),h1,O,fun y H2 M C2 S Y h2 j=>
  J x y L M H2 C2 Q R (W.imm (j.imm h1)) Y h2 S fun v H' t C' N U h' I=>f v H' t C' N U h' (g.trans (j.trans I))⟩⟩
theorem eQ(F:OpR X (binaryOp op) r)(G:Cop X.K r q)(B:CE X a g)(D:CE X b j):CE X (.BinOp a op b pos) (cOp q g j):=⟨JE.weak (je_op F B.h D.h) fun _ _ _ h=>mH G h⟩
theorem gY(G:OpR X (compareOp op) r)(I:Cop X.K r q)(B:CE X a g)(D:CE X b j)(F:behindInMarks op b=false):CE X (.Compare a [op] [b] pos) (cOp q g j):=⟨JE.weak (je_cmp G B.h D.h F) fun _ _ _ h=>mH I h⟩
def oS(k:Bool->CH->Prop):PV->CH->Prop
 |.bl b,C=>k b C
 |_,_=>False
def xE(c:TCE):TCT:=fun g C Q=>c g C (oS Q)
theorem XD{K}(q:oS Q t C)(r:Rep K H v t):∃b,t=.bl b/\v=.bl b/\Q b C:=by
 cases t with
 |bl b=>cases r;exact⟨b,rfl,rfl,q⟩
 |_=>exact q.elim
theorem Vb{K}{c}(h:zJ K pL (xE c) σ H Q):Qn (zJ K (Rep K) c) σ H Q :=qP h fun F C R s h q f=>⟨F,C,_,s,h,q,fun x H1 G C1 j D h1 g=>by
  obtain⟨b,rfl,rfl,B⟩:=XD j D
  exact⟨b,rfl,f b H1 b C1 B rfl h1 g⟩⟩
theorem ZM(J:OpR X (compareOp op) r)(L:Cop X.K r B)(F:CE X a g)(G:CE X b j)(I:behindInMarks op b=false):CT X (.Compare a [op] [b] pos) (xE (cOp B g j)) :=
 ⟨JT.weak (jt_cmp J F.h G.h I) fun σ H Q h=>by
  refine qP h fun S C R s h q f=>mH L ⟨S,C,_,s,h,q,fun x H1 U C1 M O h1 D=>?_⟩;obtain⟨b,rfl,rfl,N⟩:=XD M O
  exact⟨b,rfl,f b H1 b C1 N rfl h1 D⟩⟩
theorem mZ{c}(h:CE X e c)(g:gG e=true:=by rfl):CT X e (xE c):=⟨JT.weak (jt_val h.h g) fun _ _ _ h=>Vb h⟩
def Z2(F G:R2C)(B D cc:TCE):TCE:=fun g C Q=>B g C fun x C1=>D g C1 fun y C2=>F x y C2 (oS fun b j=>if b=true then cc g j fun z q=>G y z q Q else Q (.bl false) j)
theorem bC{K}(hr:Cop K r Y)(ab:Cop K B Z){Q:VK}(h:zJ K (Rep K) (Z2 Y Z U W cc) σ H Q):pN r B (zJ K (Rep K) U) (zJ K (Rep K) W) (zJ K (Rep K) cc) σ H Q:=by
 refine qP h fun D C R s h ae f=>⟨D,C,_,s,h,ae,fun x H1 px C1 q1 rx h1 g=>⟨D,C1,_,s.imm (g.imm h),h1,q1,fun y H2 J C2 q2 M h2 j=>
  hr x y px J H2 C2 _ _ (rx.imm (j.imm h1)) M h2 q2 fun v O t F q3 r3 I q=>by
   obtain⟨b,rfl,rfl,L⟩:=XD q3 r3;refine⟨b,rfl,?_⟩
   cases b with
   |true =>
    exact⟨D,F,_,(s.imm (g.imm h)).imm ((j.trans q).imm h1),I,L,fun z S pz N q5 rz h4 G=>ab y z J pz S N Q R (M.imm ((q.trans G).imm h2)) rz h4 q5 fun v H' t C' q' B h' f'=>f v H' t C' q' B h' (g.trans (j.trans (q.trans (G.trans f'))))⟩
   |false=>exact f _ O _ F L (.bl false) I (g.trans (j.trans q))⟩⟩
theorem GI(L:OpR X (compareOp op) r)(M:OpR X (compareOp g) S)(N:Cop X.K r B)(O:Cop X.K S D)(F:CE X a j)(G:CE X b q)(I:CE X c cc)(J:lastMarks [op,g] [b,c]=false:=by with_unfolding_all rfl):CE X (.Compare a [op,g] [b,c] pos) (Z2 B D j q cc):=⟨JE.weak (YA L M F.h G.h I.h J) fun _ _ _ h=>bC N O h⟩
theorem Gm(N:OpR X (compareOp op) r)(O:OpR X (compareOp g) Z)(S:Cop X.K r D)(U:Cop X.K Z F)(I:CE X a j)(J:CE X b B)(L:CE X c cc)(M:lastMarks [op,g] [b,c]=false:=by with_unfolding_all rfl):CT X (.Compare a [op,g] [b,c] pos) (xE (Z2 D F j B cc)) :=
 ⟨JT.weak (Yt N O I.h J.h L.h M) fun σ H Q h=>by
  refine qP h fun ρ C R s h q f=>bC S U ⟨ρ,C,_,s,h,q,fun x H1 px C1 W rx h1 G=>?_⟩;obtain⟨b,rfl,rfl,Y⟩:=XD W rx
  exact⟨b,rfl,f b H1 b C1 Y rfl h1 G⟩⟩
def cUn(j:PV->CH->K1->Prop)(g:TCE):TCE:=fun q C Q=>g q C fun x C1=>j x C1 Q
def Cun(K:Dj)(r:V->Hp->VK->Prop)(j:PV->CH->K1->Prop):Prop:=∀x g H C Q R,Rep K H x g->HRel K H C->j g C R->(∀v H' t C',R t C'->Rep K H' v t->HRel K H' C'->Fw H C H' C'->Q v H')->r x H Q
theorem bB(G:UnR X (unaryOp op) r)(I:Cun X.K r j)(F:CE X a g):CE X (.UnaryOp op a pos) (cUn j g):=⟨JE.weak (je_un G F.h) fun σ H Q ⟨S,C,R,s,h,q,f⟩ =>
 ⟨S,C,_,s,h,q,fun x H1 J C1 M O h1 D=>I x J H1 C1 Q R O h1 M fun v H' t C' L N h' B=>f v H' t C' L N h' (D.trans B)⟩⟩
def cAnd(t u:TCT):TCT:=fun g C Q=>t g C fun b C1=>if b=true then u g C1 Q else Q false C1
def cOr(t u:TCT):TCT:=fun g C Q=>t g C fun b C1=>if b=true then Q true C1 else u g C1 Q
def cNot(t:TCT):TCT:=fun g C Q=>t g C fun b C1=>Q (!b) C1
theorem cw_pt(h:CW X e t):CT X e t:=⟨jw_pt h.h⟩
theorem cw_and1(h:CT X a t):CW X (.BoolOp .And [a] pos) t:=⟨jw_and1 h.h⟩
theorem cw_or1(h:CT X a t):CW X (.BoolOp .Or [a] pos) t:=⟨jw_or1 h.h⟩
theorem cw_and(F:CT X a t)(G:CW X (.BoolOp .And (b::rest) pos) u):CW X (.BoolOp .And (a::b::rest) pos) (cAnd t u):=⟨JW.weak (jw_and F.h G.h) fun σ H Q ⟨B,C,R,s,h,q,f⟩ =>
 ⟨B,C,_,s,h,q,fun x H1 y C1 j e h1 g=>by
  cases e
  cases x with
  |true=>exact⟨B,C1,R,s.imm (g.imm h),h1,j,fun v H' t C' I J h' D=>f v H' t C' I J h' (g.trans D)⟩
  |false=>exact f false H1 false C1 j rfl h1 g⟩⟩
theorem cw_or(F:CT X a t)(G:CW X (.BoolOp .Or (b::rest) pos) u):CW X (.BoolOp .Or (a::b::rest) pos) (cOr t u):=⟨JW.weak (jw_or F.h G.h) fun σ H Q ⟨B,C,R,s,h,q,f⟩ =>
 ⟨B,C,_,s,h,q,fun x H1 y C1 j e h1 g=>by
  cases e
  cases x with
  |true=>exact f true H1 true C1 j rfl h1 g
  |false=>exact⟨B,C1,R,s.imm (g.imm h),h1,j,fun v H' t C' I J h' D=>f v H' t C' I J h' (g.trans D)⟩⟩⟩
theorem vV(j:CT X a t):CT X (.UnaryOp .Not a pos) (cNot t):=⟨JT.weak (jt_not j.h) fun σ H Q ⟨D,C,R,s,h,q,f⟩ =>
 ⟨D,C,_,s,h,q,fun x H1 y C1 B e h1 g=>by cases e;exact f _ H1 _ C1 B rfl h1 g⟩⟩
def cAndV(j q:TCE):TCE:=fun g C Q=>j g C (oS fun b C1=>if b=true then q g C1 Q else Q (.bl false) C1)
theorem ZQ{op}{c}(h:CE X a c):CE X (.BoolOp op [a] pos) c:=⟨je_one h.h⟩
theorem ZU(I:CE X a D)(J:CE X (.BoolOp .And (b::rest) pos) F):CE X (.BoolOp .And (a::b::rest) pos) (cAndV D F):=⟨JE.weak (je_and I.h J.h) fun σ H Q ⟨B,C,R,s,h,q,f⟩ =>
 ⟨B,C,_,s,h,q,fun x H1 S C1 M O h1 g=>by
  obtain⟨b,rfl,rfl,j⟩:=XD M O;refine⟨b,rfl,?_⟩
  cases b with
  |true=>exact⟨B,C1,R,s.imm (g.imm h),h1,j,fun v H' t C' L N h' G=>f v H' t C' L N h' (g.trans G)⟩
  |false=>exact f _ H1 _ C1 j (.bl false) h1 g⟩⟩
def cIf(t:TCT)(j q:TCE):TCE:=fun g C Q=>t g C fun b C1=>if b=true then j g C1 Q else q g C1 Q
theorem sR(N:CT X c t)(L:CE X a I)(M:CE X b J):CE X (.IfExp c a b pos) (cIf t I J):=⟨JE.weak (je_if N.h L.h M.h) fun σ H Q ⟨F,C,R,s,h,q,f⟩ =>
 ⟨F,C,_,s,h,q,fun x H1 y C1 G e h1 g=>by
  cases e
  cases x with
  |true=>exact⟨F,C1,R,s.imm (g.imm h),h1,G,fun v H' t C' B D h' j=>f v H' t C' B D h' (g.trans j)⟩
  |false=>exact⟨F,C1,R,s.imm (g.imm h),h1,G,fun v H' t C' B D h' j=>f v H' t C' B D h' (g.trans j)⟩⟩⟩
def qL:TCA:=fun _ C Q=>Q [] C
def rK(j:TCE)(q:TCA):TCA:=fun g C Q=>j g C fun x C1=>q g C1 fun xs C2=>Q (x::xs) C2
theorem yZ:CA X [] qL:=⟨JA.weak dC fun σ H Q ⟨g,C,R,s,h,q,f⟩=>f [] H [] C q .nil h Fw.refl⟩
theorem qQ(G:CE X e D)(I:CA X es F)(hs:sQ e=true:=by rfl):CA X (e::es) (rK D F):=⟨JA.weak (wM G.h I.h hs) fun σ H Q ⟨B,C,R,s,h,q,f⟩ =>
 ⟨B,C,_,s,h,q,fun x H1 J C1 L N h1 g=>⟨B,C1,_,s.imm (g.imm h),h1,L,fun xs H2 ps C2 M rs h2 j=>f (x::xs) H2 (J::ps) C2 M (.cons (N.imm (j.imm h1)) rs) h2 (g.trans j)⟩⟩⟩
def ZY(g:TCA):TCE:=fun j C Q=>g j C fun xs C1=>xs.length<=sizeLine/\Q (.tup xs) C1
def cLst(g:TCA):TCE:=fun j C Q=>g j C fun xs C1=>xs.length<=sizeLine/\∀p,C1 p=none->Q (.ref p) (vQ C1 p (.lst xs))
theorem pQ{F}(h:CA X es B):CE X (.Tuple es F pos) (ZY B):=⟨JE.weak (je_tup h.h) fun σ H Q ⟨G,C,R,s,h,q,f⟩ =>
 ⟨G,C,_,s,h,q,fun xs H1 ps C1 j rs h1 D=>⟨by rw[rs.len];exact j.1,fun p g=>f (.ref p) _ (.tup ps) C1 j.2 (.tup bQ (rs.imm (Imm.new g _))) (h1.new g _) (D.trans (Fw.new g _))⟩⟩⟩
theorem dX(h:CA X es B):CE X (.List es pos) (cLst B):=⟨JE.weak (je_lst h.h) fun σ H Q ⟨F,C,R,s,h,q,f⟩ =>
 ⟨F,C,_,s,h,q,fun xs H1 ps C1 j rs h1 D=>⟨by rw[rs.len];exact j.1,fun p g=>f (.ref p) _ (.ref p) _ (j.2 p (h1.fresh g)) (.ref p) (h1.lay g ⟨xs,bQ,rs.imm (Imm.new g _)⟩) (D.trans (Fw.lay g _ _))⟩⟩⟩
def cDNew:TCE:=fun _ C Q=>∀p,C p=none->Q (.ref p) (vQ C p (.dK []))
theorem oH:CE X (.Dict [] [] pos) cDNew:=⟨JE.weak Yz fun σ H Q ⟨j,C,R,s,h,q,f⟩=>fun p g=>f (.ref p) _ (.ref p) _ (q p (h.fresh g)) (.ref p) (h.lay g ⟨[],bQ,.nil⟩) (Fw.lay g _ _)⟩
abbrev GC:=List PV->CH->K1->Prop
def spC(K:Dj)(G:GC):Sp:=fun vs H Q _=>∃ts C R,Reps K H vs ts/\HRel K H C/\G ts C R/\∀v H' t C',R t C'->Rep K H' v t->HRel K H' C'->Fw H C H' C'->Q v H'
def zL(G:GC)(g:TCA):TCE:=fun j C Q=>g j C fun xs C1=>G xs C1 Q
theorem ce_call{p}(F:FnOk X.prog X.w X.K X.mg X.base CX k f fd ps (spC X.K G))(S:Room k X.A)(M:Gl X x)(O:X.mg x=some (.ref f))(N:PySem.W.keepIn X.K (.ref f)=true)(J:Binds X.K fd ps [])(U:aV CX X E)(D:CA X (e::es) g)(L:(x==("__debug__" : Str))=false:=by decide)(hs:sQ e=true:=by rfl)(I:es.all sQ=true:=by rfl):CE X (.Call (.Name x p) (e::es) [] pos) (zL G g) :=
 ⟨JE.weak (je_call F S M O N J .nil U D.h L hs I) fun σ H Q ⟨ρ,C,R,s,h,q,f⟩ =>
  ⟨ρ,C,_,s,h,q,fun xs H1 ts C1 Y rs h1 B=>⟨ts,C1,R,by rw[Aj];exact rs,h1,Y,fun v H' t C' W Z h' j=>f v H' t C' W Z h' (B.trans j)⟩⟩⟩
def Cbi(K:Dj)(r:List V->Hp->VK->Prop)(g:GC):Prop:=∀xs ps H C Q R,Reps K H xs ps->HRel K H C->g ps C R->(∀v H' t C',R t C'->Rep K H' v t->HRel K H' C'->Fw H C H' C'->Q v H')->r xs H Q
theorem zX{id}{p}(I:CallR X (.builtin id) r)(O:Cbi X.K r j)(L:Gl X x)(M:X.mg x=none)(S:bootBuiltins x=some (.builtin id))(F:CA X (e::es) g)(N:x ≠ "__name__":=by decide)(J:(x==("__debug__" : Str))=false:=by decide)(hs:sQ e=true:=by rfl)(G:es.all sQ=true:=by rfl):CE X (.Call (.Name x p) (e::es) [] pos) (zL j g):=⟨JE.weak (YB I L M S F.h N J hs G) fun σ H Q ⟨Z,C,R,s,h,q,f⟩ =>
  ⟨Z,C,_,s,h,q,fun xs H1 ts C1 W rs h1 D=>O xs ts H1 C1 Q R rs h1 W fun v H' t C' U Y h' B=>f v H' t C' U Y h' (D.trans B)⟩⟩
theorem aZ{p}(I:CallR X (.type T) r)(O:Cbi X.K r j)(L:Gl X x)(M:X.mg x=none)(S:bootBuiltins x=some (.type T))(F:CA X (e::es) g)(N:x ≠ "__name__":=by decide)(J:(x==("__debug__" : Str))=false:=by decide)(hs:sQ e=true:=by rfl)(G:es.all sQ=true:=by rfl):CE X (.Call (.Name x p) (e::es) [] pos) (zL j g):=⟨JE.weak (dG I L M S F.h N J hs G) fun σ H Q ⟨Z,C,R,s,h,q,f⟩ =>
  ⟨Z,C,_,s,h,q,fun xs H1 ts C1 W rs h1 D=>O xs ts H1 C1 Q R rs h1 W fun v H' t C' U Y h' B=>f v H' t C' U Y h' (D.trans B)⟩⟩
theorem ce_ix(F:IxR X r)(G:Cop X.K r q)(B:CE X a g)(D:CE X b j)(hs:xN b):CE X (.Subscript a b pos) (cOp q g j):=⟨JE.weak (je_ix F B.h D.h hs) fun _ _ _ h=>mH G h⟩
def cNext:TCS:=fun E g C=>E.nx g C
def uT(t u:TCS):TCS:=fun E g C=>t { E with nx:=u E } g C
theorem cQ:CB X [] cNext:=⟨JB.weak jb_nil fun D σ H ⟨g,C,E,s,h,q,f⟩=>f.nx σ H g C q s h Fw.refl⟩
theorem kQ(h:CS X st t):CB X [st] t:=⟨jb_one h.h⟩
theorem xQ(h1:CS X st t)(h2:CB X sts u):CB X (st::sts) (uT t u):=⟨JB.weak (jb_cons h1.h h2.h) fun D σ H ⟨j,C,E,s,h,q,f⟩ =>
 ⟨j,C,_,s,h,q,⟨fun F H' B C' n s' h' g=>⟨B,C',E,s',h',n,f.fw g⟩,f.rt,f.bk,f.ct⟩⟩⟩
def cDrop(j:TCE):TCS:=fun E g C=>j g C fun _ C1=>E.nx g C1
theorem zZ(F:CE X e B)(hs:swapsWith e none pos.line X.env=pure false:=by rfl):CS X (.Expr e pos) (cDrop B):=⟨JS.weak (js_expr F.h hs) fun D σ H ⟨j,C,E,s,h,q,f⟩ =>
 ⟨j,C,_,s,h,q,fun x H1 I C1 G J h1 g=>f.nx σ H1 j C1 G (s.imm (g.imm h)) h1 g⟩⟩
def cRet(g:TCE):TCS:=fun E j C=>g j C E.rt
theorem gQ(B:CE X e g):CS X (.Return (some e) pos) (cRet g):=⟨JS.weak (Yv B.h) fun D σ H ⟨J,C,E,s,h,q,f⟩ =>
 ⟨J,C,_,s,h,q,fun x H1 F C1 G I h1 j=>f.rt x H1 F C1 G I h1 j⟩⟩
def GP(t:TCT)(u v:TCS):TCS:=fun E g C=>t g C fun b C1=>if b=true then u E g C1 else v E g C1
theorem nQ(I:CT X c t)(F:CB X x u)(G:CB X y v):CS X (.If c x y pos) (GP t u v):=⟨JS.weak (js_if I.h F.h G.h) fun D σ H ⟨j,C,E,s,h,q,f⟩ =>
 ⟨j,C,_,s,h,q,fun x H1 y C1 B e h1 g=>by
  cases e
  cases x with
  |true=>exact⟨j,C1,E,s.imm (g.imm h),h1,B,f.fw g⟩
  |false=>exact⟨j,C1,E,s.imm (g.imm h),h1,B,f.fw g⟩⟩⟩
def GL(i:Nat)(j:TCE):TCS:=fun E g C=>j g C fun t C1=>E.nx (g.set i (some t)) C1
theorem cs_set{i}(B:X.N.Nodup)(hi:X.N[i]?=some x)(I:Loc X.env.scope x)(F:CE X e j)(hs:swapsWith e (some (.Name x pos')) pos.line X.env=pure false:=by rfl)(G:X.fn x=true\/X.env.scope.names.lookup x=some .local:=by first | exact .inl rfl | exact .inr rfl | assumption):
  CS X (.Assign [.Name x pos'] e pos) (GL i j):=⟨JS.weak (js_set B hi I F.h hs G) fun D σ H ⟨M,C,E,s,h,q,f⟩ =>
 ⟨M,C,_,s,h,q,fun x H1 N C1 J L h1 g=>f.nx _ H1 _ C1 J ((s.imm (g.imm h)).set L i) h1 g⟩⟩
abbrev TCG:=PV->CSt->CH->(CSt->CH->Prop)->Prop
abbrev VI:=List PV->CSt->CH->(CSt->CH->Prop)->Prop
def Yk(K:Dj)(c:TCG):TG:=fun v σ H Q=>∃t g C R,Rep K H v t/\SRel K H σ g/\HRel K H C/\c t g C R/\∀q H' j C',R j C'->SRel K H' q j->HRel K H' C'->Fw H C H' C'->Q q H'
def liftGs(K:Dj)(c:VI):TGs:=fun v σ H Q=>∃t g C R,Reps K H v t/\SRel K H σ g/\HRel K H C/\c t g C R/\∀q H' j C',R j C'->SRel K H' q j->HRel K H' C'->Fw H C H' C'->Q q H'
structure CG(X:Cx)(e:Expr)(c:TCG):Prop where
 h:JG X e (Yk X.K c)
structure CGs(X:Cx)(es:List Expr)(c:VI):Prop where
 h:JGs X es (liftGs X.K c)
theorem JG.weak(h:JG X e t)(w:∀v σ H Q,t' v σ H Q->t v σ H Q):JG X e t':=⟨fun pins s σ H v u Q I r q=>h.h pins s σ H v u Q I r (w v σ H Q q)⟩
theorem JGs.weak(h:JGs X es t)(w:∀v σ H Q,t' v σ H Q->t v σ H Q):JGs X es t':=⟨fun pins s σ H v u Q I r q=>h.h pins s σ H v u Q I r (w v σ H Q q)⟩
def Gi(i:Nat):TCG:=fun t g C Q=>Q (g.set i (some t)) C
def dNil:VI:=fun ts g C Q=>match ts with
 |[]=>Q g C
 |_=>False
def dCons(g:TCG)(u:VI):VI:=fun ts j C Q=>match ts with
 |t::r=>g t j C fun q C'=>u r q C' Q
 |[]=>False
def dTup(n:Nat)(u:VI):TCG:=fun t g C Q=>match t with
 |.tup ts=>ts.length=n/\u ts g C Q
 |_=>False
theorem cg_name{i}(g:X.N.Nodup)(hi:X.N[i]?=some x)(B:Loc X.env.scope x)(j:X.fn x=true\/X.env.scope.names.lookup x=some .local:=by first | exact .inl rfl | exact .inr rfl | assumption):CG X (.Name x pos) (Gi i) :=
 ⟨JG.weak (jg_name g hi B j) fun v σ H Q ⟨t,D,C,R,r,s,h,q,f⟩=>f _ H _ C q (s.set r i) h Fw.refl⟩
theorem tY:CGs X [] dNil:=⟨JGs.weak jgs_nil fun vs σ H Q ⟨ts,g,C,R,r,s,h,q,f⟩=>by
 cases r with
 |nil=>exact⟨rfl,f σ H g C q s h Fw.refl⟩
 |cons _ _=>exact q.elim⟩
theorem pX(h1:CG X e g)(h2:CGs X es u)(hs:(assignEach (e::es) X.env).map (·.2)=assign e X.env::(assignEach es X.env).map (·.2):=by rfl):CGs X (e::es) (dCons g u):=⟨JGs.weak (Yx h1.h h2.h hs) fun vs σ H Q ⟨ts,J,C,R,r,s,h,q,f⟩=>by
 cases r with
 |nil=>exact q.elim
 |@cons v t vs ts G r =>
  exact⟨v,vs,rfl,t,J,C,_,G,s,h,q,fun O H' L C' D s' h' j=>⟨ts,L,C',R,r.imm (j.imm h),s',h',D,fun N H2 M C2 F I h2 B=>f N H2 M C2 F I h2 (j.trans B)⟩⟩⟩
theorem gB{k}(g:X.calm=true)(h:CGs X es u)(j:(assignEach es X.env).length=n:=by rfl)(B:(assignEach es X.env).findIdx? (·.1)=none:=by rfl):CG X (.Tuple es k pos) (dTup n u):=⟨JG.weak (jg_tup g h.h j B) fun v σ H Q ⟨t,G,C,R,r,s,h,q,f⟩=>by
 cases r with
 |@tup a vs ts e r =>
  obtain⟨D,F⟩:=q;exact⟨a,vs,rfl,SqT.of e,by exact r.len▸D,ts,G,C,R,r,s,h,F,f⟩
 |_=>exact q.elim⟩
def cAsg(q:TCE)(g:TCG):TCS:=fun E j C=>q j C fun t C1=>g t j C1 E.nx
theorem bR(I:CE X e F)(J:CG X tg g)(hs:swapsWithSole [tg] e pos.line X.env=pure false:=by rfl)(L:swappedStores [tg] e X.env=pure none:=by rfl)(h1:(assignEach [tg] X.env).map (·.2)=[assign tg X.env]:=by rfl):CS X (.Assign [tg] e pos) (cAsg F g):=⟨JS.weak (js_asg I.h J.h hs L h1) fun D σ H ⟨B,C,E,s,h,q,f⟩ =>
 ⟨B,C,_,s,h,q,fun x H1 M C1 O S h1 j=>⟨M,B,C1,E.nx,S,s.imm (j.imm h),h1,O,fun W H' U C' N s' h' G=>f.nx W H' U C' N s' h' (j.trans G)⟩⟩⟩
@[irreducible] def Km:PV->PV->PV->CH->(CH->Prop)->Prop:=fun o i v C Q=>match o,i with
 |.ref p,.int k=>match C p with
  |some (.lst xs)=>match ixN xs.length k with
   |some j=>Q (vQ C p (.lst (xs.set j v)))
   |none=>False
  |_=>False
 |_,_=>False
def dSub(B q:TCE)(u:PV->PV->PV->CH->(CH->Prop)->Prop):TCG:=fun t g C Q=>B g C fun o C1=>q g C1 fun i C2=>u o i t C2 fun j=>Q g j
theorem sH{M L:TCE}(U:CE X o M)(hi:CE X i L)(S:∀v,assign (.Subscript o i pos) X.env v=(do
   let G <- holding [v] (eval o X.env)
   let I <- holding [v,G] (eval i X.env)
   standAt pos
   holding [v,G,I] (setItem G I v)
   release [v,G,I] []):=by intro _;rfl):CG X (.Subscript o i pos) (dSub M L Km):=⟨JG.weak (jg_sub U.h hi.h Wd S) fun v σ H Q ⟨t,J,C,R,r,s,h,q,f⟩ =>
 ⟨J,C,_,s,h,q,fun x H1 px C1 W Z h1 D=>⟨J,C1,_,s.imm (D.imm h),h1,W,fun y H2 af C2 g ry h2 F=>by
  have Y:=r.imm ((D.trans F).imm h);have ae:=s.imm ((D.trans F).imm h);unfold Km at g
  split at g
  .next p k =>
   split at g
   .next xs e =>
    split at g
    .next j O =>
     obtain⟨vs,B,N⟩:=h2 p _ e;have ab:=Z.imm (F.imm h1);cases ab;cases ry;refine⟨p,vs,k,j,rfl,rfl,B,by rw[N.len];exact O,?_⟩;exact f σ _ J _ g (ae.imm (Imm.mut B rfl _)) (h2.put B rfl ⟨_,bQ,(N.set Y j).imm (Imm.mut B rfl _)⟩) (D.trans (F.trans (Fw.put e _ _)))
    .exact g.elim
   .exact g.elim
  .exact g.elim⟩⟩⟩
def ZX(t:TCT)(u:TCS)(E:XO):Nat->CSt->CH->Prop
 |0,_,_=>False
 |n+1,g,C=>t g C fun b C1=>if b=true then u { nx:=ZX t u E n,ct:=ZX t u E n,bk:=E.nx,rt:=E.rt } g C1 else E.nx g C1
def cWhile(t:TCT)(u:TCS):TCS:=fun E g C=>∃n,ZX t u E n g C
theorem Gn(U:PassesOwn (model X.prog X.w) X.A X.env X.xe)(S:CT X c t)(O:CB X N u):CS X (.While c N [] pos) (cWhile t u):=⟨JS.weak (Yu U S.h O.h) fun ab σ H ⟨Y,C,E,s,h,⟨n,q⟩,f⟩=>by
 refine⟨fun m j H'=>∃g C',SRel X.K H' j g/\HRel X.K H' C'/\Fw H C H' C'/\ZX t u E m g C',⟨n,Y,C,s,h,Fw.refl,q⟩,?_⟩;rintro m Z H1 ⟨J,C1,I,h1,G,L⟩
 cases m with
 |zero=>exact L.elim
 |succ m =>
  refine⟨J,C1,_,I,h1,L,fun b H2 b' C2 M e h2 D=>?_⟩;cases e
  cases b with
  |true =>
   exact(Ac rfl)▸⟨fun j H'=>∃g C',SRel X.K H' j g/\HRel X.K H' C'/\Fw H C H' C'/\ZX t u E m g C',fun j H' z=>⟨m,Bm m,z⟩,
    J,C2,_,I.imm (D.imm h1),h2,M,⟨fun j H' g C' F s' h' B=>⟨g,C',s',h',G.trans (D.trans B),F⟩,fun v H' t C' F W h' B=>f.rt v H' t C' F W h' (G.trans (D.trans B)),
     fun j H' g C' F s' h' B=>f.nx j H' g C' F s' h' (G.trans (D.trans B)),fun j H' g C' F s' h' B=>⟨g,C',s',h',G.trans (D.trans B),F⟩⟩⟩
  |false =>
   exact(Ad AS)▸f.nx Z H2 J C2 M (I.imm (D.imm h1)) h2 (G.trans D)⟩
def eY(g:TCG)(u:TCS)(E:XO):List PV->CSt->CH->Prop
 |[],j,C=>E.nx j C
 |x::r,j,C=>g x j C fun q C1=>u { nx:=eY g u E r,ct:=eY g u E r,bk:=E.nx,rt:=E.rt } q C1
structure XG(K:Dj)(H:Hp)(J:It)(ps:List PV):Prop where
 go:∀i H',i < ps.length->Imm H H'->J.go i H'
 yl:∀i H' x H'',Imm H H'->J.yld i H' x H''->H''=H'/\∀t,ps[i]?=some t->Rep K H' x t
 st:∀H',Imm H H'->J.stop ps.length H'
theorem uH{K}(ab:XG K H J ps)(s:SRel K H σ ρ)(h:HRel K H C)(ah:eY g u E ps ρ C)(f:ERel K H C E D):
  ∃W:Nat->Nat->St->Hp->Prop,(∃m,W 0 m σ H)/\∀i m σ H,W i m σ H ->
   (J.stop i H/\D.nx σ H)\/(J.go i H/\∃N,(∀j H',N j H'->∃m',m' < m/\W (i+1) m' j H')/\∀x H',J.yld i H x H'->Yk K g x σ H' fun aj H2=>Yj K u { D with nx:=N,ct:=N,bk:=D.nx } aj H2):=by
 refine⟨fun i m j H'=>m=ps.length - i/\i<=ps.length/\∃I C',SRel K H' j I/\HRel K H' C'/\Fw H C H' C'/\eY g u E (ps.drop i) I C',⟨ps.length,rfl,Ab _,ρ,C,s,h,Fw.refl,ah⟩,?_⟩;rintro i m ai H1 ⟨rfl,hi,ag,C1,af,h1,L,Z⟩;have k1:=L.imm h
 by_cases Y:i < ps.length
 .refine .inr ⟨ab.go i H1 Y k1,fun j H'=>∃I C',SRel K H' j I/\HRel K H' C'/\Fw H C H' C'/\eY g u E (ps.drop (i+1)) I C',fun j H' z=>⟨ps.length - (i+1),by omega,rfl,Y,z⟩,fun x H2 y=>?_⟩
  obtain⟨rfl,y⟩:=ab.yl i H1 x H2 k1 y;rw[Al Y] at Z
  exact⟨ps[i],ag,C1,_,y _ (AK Y),af,h1,Z,fun j H' I C' q' s' h' U=>⟨I,C',_,s',h',q',⟨fun ae M S q G O F B=>⟨S,q,O,F,L.trans (U.trans B),G⟩,fun v M t q G r3 F B=>f.rt v M t q G r3 F (L.trans (U.trans B)),
   fun ae M S q G O F B=>f.nx ae M S q G O F (L.trans (U.trans B)),fun ae M S q G O F B=>⟨S,q,O,F,L.trans (U.trans B),G⟩⟩⟩⟩
 .have e:i=ps.length:=by lia
  subst e;rw[BY] at Z;exact .inl ⟨ab.st H1 k1,f.nx ai H1 ag C1 Z af h1 L⟩
theorem cA{K}{a}(h:SqT K H a vs)(r:Reps K H vs ts):XG K H (Itt K a) ts where
 go:=fun i H' l k=>⟨vs,vs[i]'(by rwa [r.len]),SqT.imm h k,AK _⟩
 yl:=fun i H' x q k y=>⟨y.1,fun t e=>by
  obtain⟨v,g,j⟩:=((r.imm k).get e);have:=y.2 vs (SqT.imm h k)
  rw[g] at this;cases this;exact j⟩
 st:=fun H' k=>⟨vs,SqT.imm h k,by exact r.len▸AJ _⟩
theorem it_fz{K}{a}(h:Fz K H a vs)(r:Reps K H vs ts):XG K H (Itl K a) ts where
 go:=fun i H' l k=>⟨vs,vs[i]'(by rwa [r.len]),(h.imm k).sq,AK _⟩
 yl:=fun i H' x q k y=>⟨y.1,fun t e=>by
  obtain⟨v,g,j⟩:=((r.imm k).get e);have:=y.2 vs (h.imm k).sq
  rw[g] at this;cases this;exact j⟩
 st:=fun H' k=>⟨vs,(h.imm k).sq,by exact r.len▸AJ _⟩
theorem YD{K}: XG K H (Itr 0 n) ((List.range n).map fun k=>PV.int (k:Nat)) where
 go:=fun i H' l k=>by rwa [AB,Am] at l
 yl:=fun i H' x g k y=>⟨y.1,fun t e=>by
  rw[y.2];rw[Ak] at e
  cases z:(List.range n)[i]? with
  |none=>rw[z] at e;cases e
  |some w =>
   rw[z] at e;cases e;have:=AW.mp z;obtain⟨l,e⟩:=this;rw[List.getElem_range] at e;subst e;rw[Int.zero_add]
   exact .int _⟩
 st:=fun H' k=>by rw[AB,Am];exact AJ _
@[irreducible] def kE(q:TCE)(g:TCG)(u:TCS):TCS:=fun E j C=>q j C fun t C1=>match t with
 |.tup xs=>eY g u E xs j C1
 |.kt xs=>eY g u E xs j C1
 |_=>False
theorem nY{tg B:Expr}{G:List Stmt}{I:TCE}{g:TCG}{u:TCS}(N:PassesOwn (model X.prog X.w) X.A X.env X.xe)(L:X.calm=true)(hi:CE X B I)(M:CG X tg g)(J:CB X G u)(hs:∀x,foldedSetIterable B X.env x=pure x:=by intro _;rfl):CS X (.For tg B G [] pos) (kE I g u):=⟨JS.weak (Zu N L (Yw hi.h) M.h J.h hs) fun D σ H ⟨S,C,E,s,h,q,f⟩=>by
 unfold kE at q
 exact⟨S,C,_,s,h,q,fun x H1 U C1 F O h1 j=>by
  cases O with
  |@tup a vs ts e r=>exact⟨a,rfl,⟨vs,SqT.of e⟩,uH (cA (SqT.of e) r) (s.imm (j.imm h)) h1 F (f.fw j)⟩
  |@kt a vs ts e r=>exact⟨a,rfl,⟨vs,e⟩,uH (cA e r) (s.imm (j.imm h)) h1 F (f.fw j)⟩
  |_=>exact F.elim⟩⟩
noncomputable def cForR(B:TCA)(g:TCG)(u:TCS):TCS:=fun E q C=>B q C fun ts C1=>match ts with
 |[.int j]=>-(2 ^ 62)<=j/\j < 2 ^ 62/\eY g u E ((List.range j.toNat).map fun k=>PV.int (k:Nat)) q C1
 |_=>False
theorem lH{tg:Expr}{D:List Stmt}{F:TCA}{g:TCG}{u:TCS}{p I:Pos}(U:PassesOwn (model X.prog X.w) X.A X.env X.xe)(M:X.calm=true)(O:Gl X "range")(S:X.mg "range" = none)(J:CA X [a] F)(N:CG X tg g)(L:CB X D u)(W:sQ a=true:=by rfl)(hs:∀x,foldedSetIterable (.Call (.Name "range" p) [a] [] I) X.env x=pure x:=by intro _;rfl):CS X (.For tg (.Call (.Name "range" p) [a] [] I) D [] pos) (cForR F g u):=⟨JS.weak (Zu U M (cO O S J.h W) N.h L.h hs) fun ab σ H ⟨Z,C,E,s,h,q,f⟩ =>
 ⟨Z,C,_,s,h,q,fun xs H1 ts C1 B rs h1 G=>by
  split at B
  .next j =>
   cases rs with
   |cons Y r =>
    cases r;cases Y;exact⟨j,rfl,B.1,B.2.1,uH YD (s.imm (G.imm h)) h1 B.2.2 (f.fw G)⟩
  .exact B.elim⟩⟩
noncomputable def uU(a:Addr)(g:TCG)(u:TCS)(E:XO):Nat->Nat->CSt->CH->Prop
 |0,_,_,_=>False
 |n+1,i,j,C=>match C a with
  |some (.lst xs)=>match xs[i]? with
   |some x=>g x j C fun q C1=>u { nx:=uU a g u E n (i+1),ct:=uU a g u E n (i+1),bk:=E.nx,rt:=E.rt } q C1
   |none=>E.nx j C
  |_=>False
def cForL(q:TCE)(g:TCG)(u:TCS):TCS:=fun E j C=>q j C fun t C1=>match t with
 |.ref a=>∃n,uU a g u E n 0 j C1
 |.fz xs=>eY g u E xs j C1
 |_=>False
theorem bM{tg Z:Expr}{ae:List Stmt}{af:TCE}{g:TCG}{u:TCS}(hp:PassesOwn (model X.prog X.w) X.A X.env X.xe)(hc:X.calm=true)(hi:CE X Z af)(hg:CG X tg g)(hb:CB X ae u)(hs:∀x,foldedSetIterable Z X.env x=pure x:=by intro _;rfl):CS X (.For tg Z ae [] pos) (cForL af g u):=⟨JS.weak (Zu hp hc (JP hi.h) hg.h hb.h hs) fun ao σ H ⟨ρ,C,E,s,h,aj,f⟩ =>
 ⟨ρ,C,_,s,h,aj,fun x H1 px C1 j rx h1 L=>by
  cases rx with
  |@fz a vs ts e r=>exact⟨a,rfl,⟨vs,e.sq⟩,uH (it_fz e r) (s.imm (L.imm h)) h1 j (f.fw L)⟩
  |ref a =>
   obtain⟨n,j⟩:=j
   have ex:∃ys,SqL X.K H1 a ys:=by
    cases n with
    |zero=>exact j.elim
    |succ n =>
     unfold uU at j
     split at j
     .next xs e=>obtain⟨vs,M,_⟩:=h1 a _ e;exact⟨vs,SqL.of M⟩
     .exact j.elim
   refine⟨a,rfl,ex,fun i m U H'=>∃I C',SRel X.K H' U I/\HRel X.K H' C'/\Fw H1 C1 H' C'/\uU a g u E m i I C',⟨n,ρ,C1,s.imm (L.imm h),h1,Fw.refl,j⟩,?_⟩;rintro i m ak H2 ⟨ai,C2,ah,h2,N,F⟩
   cases m with
   |zero=>exact F.elim
   |succ m =>
    unfold uU at F
    split at F
    .next xs e =>
     obtain⟨vs,M,rv⟩:=h2 a _ e
     split at F
     .next x ex =>
      obtain⟨v,ag,rx⟩:=rv.get ex;refine .inr ⟨⟨vs,v,SqL.of M,ag⟩,fun U H'=>∃I C',SRel X.K H' U I/\HRel X.K H' C'/\Fw H1 C1 H' C'/\uU a g u E m (i+1) I C',fun U H' z=>⟨m,Bm m,z⟩,fun y J Y=>?_⟩;obtain⟨rfl,Y⟩:=Y;have:=Y vs (SqL.of M);rw[ag] at this;cases this
      exact⟨x,ai,C2,_,rx,ah,h2,F,fun U H' I C' q' s' h' W=>⟨I,C',_,s',h',q',⟨fun ab J S q G O D B=>⟨S,q,O,D,N.trans (W.trans B),G⟩,fun v J t q G r3 D B=>f.rt v J t q G r3 D (L.trans (N.trans (W.trans B))),
       fun ab J S q G O D B=>f.nx ab J S q G O D (L.trans (N.trans (W.trans B))),fun ab J S q G O D B=>⟨S,q,O,D,N.trans (W.trans B),G⟩⟩⟩⟩
     .next ex =>
      refine .inl ⟨⟨vs,SqL.of M,?_⟩,f.nx ak H2 ai C2 F ah h2 (L.trans N)⟩;rw[rv.len];exact Cv.mp ex
    .exact F.elim
  |_=>exact j.elim⟩⟩
def rZ(t:TCT)(c:TCE)(g:CSt)(Q:K1):List PV->List PV->CH->Prop
 |[],acc,C=>∀p,C p=none->Q (.ref p) (vQ C p (.lst acc))
 |x::r,acc,C=>t (some x::g) C fun b C1=>if b=true then c (some x::g) C1 fun y C2=>acc.length < sizeLine/\rZ t c g Q r (acc++[y]) C2 else rZ t c g Q r acc C1
structure CF(X:Cx)(ifs:List Expr)(c:TCT):Prop where
 h:JF X ifs (zJ X.K pL c)
def eD:TCT:=fun _ C Q=>Q true C
theorem JF.weak(h:JF X g t)(w:∀σ H Q,t' σ H Q->t σ H Q):JF X g t':=⟨fun pins s σ H Q I q=>h.h pins s σ H Q I (w σ H Q q)⟩
theorem aJ:CF X [] eD:=⟨JF.weak jf_nil fun σ H Q ⟨g,C,R,s,h,q,f⟩=>f true H true C q rfl h Fw.refl⟩
theorem cf_one(h:CT X c t):CF X [c] t:=⟨jf_one h.h⟩
theorem comp_it{K}{c}{Q:VK}(ae:XG K H J ps)(s:SRel K H σ Z)(h:HRel K H C)(ai:rZ t c Z R ps [] C)(h0:HRel K H0 C0)(ah:Fw H0 C0 H C)(f:∀v H' p C',R p C'->Rep K H' v p->HRel K H' C'->Fw H0 C0 H' C'->Q v H')(j:H D=none):
  ∃W:Nat->Nat->List V->Hp->Prop,(∃m,W 0 m [] (upd H D (.lst [])))/\∀i m ys H,W i m ys H ->
   (J.stop i H/\Q (.ref D) H)\/(J.go i H/\∀x H',J.yld i H x H'->zJ K pL t (some x::σ) H' fun b H2=>
    if b=true then zJ K (Rep K) c (some x::σ) H2 fun y H3=>H3 D=some (.lst ys)/\ys.length < sizeLine/\∃F,F < m/\W (i+1) F (ys++[y]) (upd H3 D (.lst (ys++[y])))
    else ∃F,F < m/\W (i+1) F ys H2):=by
 refine⟨fun i m ys H'=>m=ps.length - i/\i<=ps.length/\∃acc C',H' D=some (.lst ys)/\C' D=none/\Reps K H' ys acc/\HRel K H' C'/\Fw H C H' C'/\rZ t c Z R (ps.drop i) acc C',
  ⟨ps.length,rfl,Ab _,[],C,bQ,h.fresh j,.nil,h.new j _,Fw.new j _,ai⟩,?_⟩
 rintro i m ys H1 ⟨rfl,hi,acc,C1,e1,n1,S,h1,G,O⟩;have B:=G.imm h
 by_cases q:i < ps.length
 .refine .inr ⟨ae.go i H1 q B,fun x H2 y=>?_⟩
  obtain⟨rfl,y⟩:=ae.yl i H1 x H2 B y;have rx:=y _ (AK q);rw[Al q] at O;refine⟨some ps[i]::Z,C1,_,.cons rx (s.imm B),h1,O,fun b H3 b' C3 q3 e h3 I=>?_⟩;cases e;obtain⟨M,e3⟩:=I D (by rw[n1];rfl) (by lia);rw[e1] at e3;rw[n1] at M;have L:=I.imm h1
  cases b with
  |true =>
   refine⟨some ps[i]::Z,C3,_,.cons (rx.imm L) ((s.imm B).imm L),h3,q3,fun v H4 p C4 q4 r4 h4 ab=>jT (ab D (by rw[M];rfl) (by lia)) fun n4 e4=>?_⟩;rw[e3] at e4;rw[M] at n4;have m4:Imm H4 (upd H4 D (.lst (ys++[v]))):=Imm.mut e4 rfl _;refine⟨e4,by rw[S.len];exact q4.1,ps.length - (i+1),by lia,rfl,q,acc++[p],C4,bQ,n4,?_,?_,?_,q4.2⟩
   .exact (((S.imm L).imm (ab.imm h3)).append (.cons r4 .nil)).imm m4
   .intro a o g
    have af:a≠D:=fun z=>by subst z;rw[n4] at g;cases g
    exact(h4 a o g).imm m4 (mQ af)
   .intro a g N
    have af:a≠D:=fun z=>N (z▸j);exact jT ((G.trans (I.trans ab)) a g N) fun U Y=>⟨U,(mQ af).trans Y⟩
  |false =>
   exact⟨ps.length - (i+1),by lia,rfl,q,acc,C3,e3,M,S.imm L,h3,G.trans I,q3⟩
 .have e:i=ps.length:=by lia
  subst e;rw[BY] at O;refine .inl ⟨ae.st H1 B,f (.ref D) H1 (.ref D) _ (O D n1) (.ref D) ?_ ?_⟩
  .intro a o g
   by_cases z:a=D
   .subst z;rw[jQ] at g;cases g;exact⟨ys,e1,S⟩
   .rw [yQ z] at g;exact h1 a o g
  .intro a g N
   obtain⟨U,Y⟩:=ah a g N;have ag:H a≠none:=by rwa [Y]
   obtain⟨y1,y2⟩:=G a (by rwa [U]) ag;exact⟨(yQ (show a≠D from fun z=>ag (z▸j))).trans (y1.trans U),y2.trans Y⟩
structure CI(X:Cx)(tg it:Expr)(wi:TI)(c:CSt->CH->(List PV->CH->Prop)->Prop):Prop where
 j:JI X tg it wi
 w:∀σ H ρ C R Q,SRel X.K H σ ρ->HRel X.K H C->c ρ C R->(∀J H' ps C',R ps C'->XG X.K H' J ps->HRel X.K H' C'->Fw H C H' C'->Q J H')->wi σ H Q
def cItT(g:TCE):CSt->CH->(List PV->CH->Prop)->Prop:=fun j C Q=>g j C fun t C1=>match t with
 |.tup xs=>Q xs C1
 |.kt xs=>Q xs C1
 |_=>False
theorem pF(h:CE X e j):CI X tg e (iTup X.K (zJ X.K (Rep X.K) j)) (cItT j):=⟨Yw h.h,fun σ H F C R Q s h q f=>⟨F,C,_,s,h,q,fun x H1 G C1 g D h1 B=>by
  cases D with
  |@tup a vs ts e r=>exact⟨a,rfl,⟨vs,SqT.of e⟩,f _ H1 ts C1 g (cA (SqT.of e) r) h1 B⟩
  |@kt a vs ts e r=>exact⟨a,rfl,⟨vs,e⟩,f _ H1 ts C1 g (cA e r) h1 B⟩
  |_=>exact g.elim⟩⟩
def cItR(g:TCA):CSt->CH->(List PV->CH->Prop)->Prop:=fun q C Q=>g q C fun ts C1=>match ts with
 |[.int j]=>-(2 ^ 62)<=j/\j < 2 ^ 62/\Q ((List.range j.toNat).map fun k=>PV.int (k:Nat)) C1
 |_=>False
theorem ZP(G:Gl X "range")(I:X.mg "range" = none)(F:CA X [a] B)(J:sQ a=true:=by rfl):CI X tg (.Call (.Name "range" p) [a] [] N) (YJ (zJ X.K (Reps X.K) B)) (cItR B):=⟨cO G I F.h J,fun σ H M C R Q s h q f=>⟨M,C,_,s,h,q,fun xs H1 ts C1 g rs h1 D=>by
  split at g
  .next j =>
   cases rs with
   |cons L r =>
    cases r;cases L;exact⟨j,rfl,g.1,g.2.1,f _ H1 _ C1 g.2.2 YD h1 D⟩
  .exact g.elim⟩⟩
def GR(j:CSt->CH->(List PV->CH->Prop)->Prop)(t:TCT)(c:TCE):TCE:=fun g C Q=>j g C fun ps C1=>rZ t c g Q ps [] C1
theorem mO{c}(hi:CI X tg it I B){Q:VK}(h:zJ X.K (Rep X.K) (GR B t c) σ H Q):Qo I (zJ X.K pL t) (zJ X.K (Rep X.K) c) σ H Q :=qP h fun L C R s h q f=>hi.w σ H L C _ _ s h q fun J H' ps C' G j h' g D F=>comp_it j (s.imm (g.imm h)) h' G h g f F
theorem nW{I F:Expr}{x:Str}{L:Pos}{J:List Expr}{D:Scope}{U:TI}{G:CSt->CH->(List PV->CH->Prop)->Prop}{t:TCT}{c:TCE}(N:X.calm=true)(M:(x::X.N).Nodup)(K:∃g,rB X x D g)(hi:CI X (.Name x L) F U G)(S:∀g q C B j,CF (mK X x D g q C B j) J t)(O:∀g q C B j,CE (mK X x D g q C B j) I c)(hs:∀v,foldedSetIterable F X.env v=pure v:=by intro _;rfl):CE X (.ListComp I [⟨.Name x L,F,J,0⟩] D pos) (GR G t c) :=
 ⟨JE.weak (pC N M K hi.j (fun g q C B j=>(S g q C B j).h) (fun g q C B j=>(O g q C B j).h) hs) fun _ _ _ h=>mO hi h⟩
end
noncomputable def lN(N:List Str)(ts:List PV):CSt:=ts.map some++List.replicate (N.length - ts.length) none
theorem zO{K}: ∀n,SRel K H (List.replicate n none) (List.replicate n none)
 |0=>.nil
 |n+1=>.cons trivial (zO n)
theorem Qt{K}(s:SRel K H σ g):∀{vs}{ts},Reps K H vs ts->SRel K H (vs.map some++σ) (ts.map some++g)
 |_,_,.nil=>s
 |_,_,.cons h r=>.cons h (Qt s r)
theorem XZ{K}(r:Reps K H vs ts):SRel K H (L2.start N vs) (lN N ts):=by
 delta L2.start lN
 exact r.len▸Qt (zO _) r
section
variable {P:Program}{w:World}{K:Dj}{mg:Str->Option Value}{base:Heap}
theorem Fun.okC{st}(F:Fun K x I st f fd)(S:FnScope N ps (fX st))(U:∀ts C R,G ts C R->ts.length=ps.length)(L:∀B A D s H E,Room k (A.deeper (envOfC I (fX st) s.heap.objs.size f B)) ->
   ∃c,CB (Xu CX0 P w K mg base N I (fX st) f B A D s H E).nox (cV st) c/\∀ts C R,G ts C R->c { nx:=fun _ C'=>R .non C',rt:=R } (lN N ts) C):FnOk P w K mg base CX0 (k+1) f fd ps (spC K G):=by
 refine F.okJ S ?_ ?_
 .rintro vs H Q E ⟨ts,C,R,r,h,g,f⟩
  exact r.len▸U ts C R g
 .rintro B A D s H vs Q E O ⟨ts,C,R,r,h,g,f⟩
  exact oQ (L B A D s H E O) fun c M q=>⟨_,M.h,lN N ts,C,_,XZ r,h,q ts C R g,⟨fun Y H' W C' j s' h' J=>f .non H' .non C' j .non h' J,f,fun _ _ _ _ j _ _ _=>j.elim,fun _ _ _ _ j _ _ _=>j.elim⟩⟩
end
section
variable {X:Cx}{a b c e o i:Expr}{es:List Expr}{pos:Pos}
@[irreducible] def cI(g:Int->Int->PV):R2C:=fun x y C Q=>match x,y with
 |.int i,.int j=>Q (g i j) C
 |_,_=>False
def cIc(P:Int->Int->Prop)(g:Int->Int->PV):R2C:=fun x y C Q=>match x,y with
 |.int i,.int j=>P i j/\Q (g i j) C
 |_,_=>False
theorem Kd{K}(B:∀i j H,Rep K H (g i j) (g' i j)):Cop K (rI0 g) (cI g'):=fun x y G I H C Q R D F h q f=>by
 delta cI at q
 split at q
 .cases D;cases F
  exact⟨_,_,rfl,rfl,f _ H _ C q (B _ _ _) h Fw.refl⟩
 .exact q.elim
theorem jI{K}(B:∀i j H,Rep K H (g i j) (g' i j)):Cop K (rI P g) (cIc P g'):=fun x y G I H C Q R D F h q f=>by
 delta cIc at q
 split at q
 .cases D;cases F
  exact⟨_,_,rfl,rfl,q.1,f _ H _ C q.2 (B _ _ _) h Fw.refl⟩
 .exact q.elim
theorem rJ{K}:Cop K (rI0 fun i j=>.int (i - j)) (cI fun i j=>.int (i - j)):=Kd fun _ _ _=>.int _
theorem mM{K}:Cop K (rI CMul fun i j=>.int (i * j)) (cIc CMul fun i j=>.int (i * j)):=jI fun _ _ _=>.int _
theorem Xw{K}:Cop K (rI (fun _ j=>0 < j/\j < 18446744073709551616) fun i j=>.int (i / j)) (cIc (fun _ j=>0 < j/\j < 18446744073709551616) fun i j=>.int (i / j)):=jI fun _ _ _=>.int _
theorem sY{K}:Cop K (rI (fun _ j=>0 < j) fun i j=>.int (i % j)) (cIc (fun _ j=>0 < j) fun i j=>.int (i % j)):=jI fun _ _ _=>.int _
theorem qI{K}:Cop K (rI CPow fun i j=>.int (i ^ j.toNat)) (cIc CPow fun i j=>.int (i ^ j.toNat)):=jI fun _ _ _=>.int _
theorem vU{K}:Cop K (rI0 fun i j=>.bl (decide (i < j))) (cI fun i j=>.bl (decide (i < j))):=Kd fun _ _ _=>.bl _
theorem zI{K}:Cop K (rI0 fun i j=>.bl (decide (i<=j))) (cI fun i j=>.bl (decide (i<=j))):=Kd fun _ _ _=>.bl _
theorem eZ{K}:Cop K (rI0 fun i j=>.bl (decide (j < i))) (cI fun i j=>.bl (decide (j < i))):=Kd fun _ _ _=>.bl _
def cNeg:PV->CH->K1->Prop:=fun x C Q=>match x with
 |.int i=>Q (.int (-i)) C
 |_=>False
theorem lV{K}:Cun K (rU fun i=>.int (-i)) cNeg:=fun x j H C Q R g h q f=>by
 delta cNeg at q
 split at q
 .cases g;exact⟨_,rfl,f _ H _ C q (.int _) h Fw.refl⟩
 .exact q.elim
theorem nA(s:Same H H'):Fw H C H' C:=fun a c n=>⟨rfl,by
 cases e:H a with
 |none=>exact absurd e n
 |some o=>exact s a o e⟩
theorem aL{K}(h:HRel K H C)(s:Same H H'):HRel K H' C:=fun a o c=>oQ ((h a o c).mut) fun u e _=>(h a o c).imm (fun b v _ e=>s b v e) ((s a u e).trans e.symm)
@[irreducible] def sI:R2C:=fun x y C Q=>match x,y with
 |.int i,.int j=>Q (.int (i+j)) C
 |.str i,.str j=>i.length+j.length<=sizeLine/\Q (.str (i++j)) C
 |.tup xs,.tup ys=>xs.length+ys.length<=sizeLine/\Q (.tup (xs++ys)) C
 |.ref a,.ref b=>match C a,C b with
  |some (.lst xs),some (.lst ys)=>xs.length+ys.length<=sizeLine/\∀p,C p=none->Q (.ref p) (vQ C p (.lst (xs++ys)))
  |_,_=>False
 |_,_=>False
abbrev rAddC:R2:=fun x y H Q=>rI0 (fun i j=>.int (i+j)) x y H Q\/((∃i j,x=.str i/\y=.str j/\i.length+j.length<=sizeLine/\Q (.str (i++j)) H)\/(rCatU x y H Q\/rCat x y H Q))
theorem vX:OpR X (binaryOp .Add) rAddC:=OpR.or op_add (OpR.or Zb (OpR.or op_catU op_cat))
theorem wX{K}:Cop K rAddC sI:=fun x y S U H C Q R j B h q f=>by
 delta sI at q
 split at q
 .cases j;cases B
  exact .inl ⟨_,_,rfl,rfl,f _ H _ C q (.int _) h Fw.refl⟩
 .cases j;cases B
  exact .inr (.inl ⟨_,_,rfl,rfl,q.1,f _ H _ C q.2 (.str _) h Fw.refl⟩)
 .cases j with
  |tup e r=>cases B with
   |tup I D =>
    refine .inr (.inr (.inl ⟨_,_,_,_,rfl,rfl,e,I,by rw[r.len,D.len];exact q.1,fun z H' s O _=>?_⟩));exact f _ H' _ C q.2 (.tup O ((r.append D).imm fun b v _ e=>s b v e)) (aL h s) (nA s)
 .split at q
  .next xs ys J L =>
   refine oQ (h _ _ J) fun vs N G=>oQ (h _ _ L) fun W M F=>?_;cases j;cases B
   refine .inr (.inr (.inr ⟨_,_,_,_,rfl,rfl,N,M,by rw[G.len,F.len];exact q.1,fun p g=>?_⟩));exact f _ _ _ _ (q.2 p (h.fresh g)) (.ref p) (h.lay g ⟨_,bQ,(G.append F).imm (Imm.new g _)⟩) (Fw.lay g _ _)
  .exact q.elim
 .exact q.elim
noncomputable def sEq:PV->PV->Option Bool
 |.non,.non=>some true | .non,.int _=>some false | .int _,.non=>some false | .non,.bl _=>some false | .bl _,.non=>some false | .non,.str _=>some false | .str _,.non=>some false
 |.int i,.int j=>some (decide (i=j)) | .bl b,.bl c=>some (decide (b=c)) | .str x,.str y=>some (decide (x=y))
 |.int _,.str _=>some false | .str _,.int _=>some false | .bl _,.str _=>some false | .str _,.bl _=>some false
 |_,_=>none
@[irreducible] def cEq(k:Bool->Bool):R2C:=fun x y C Q=>match sEq x y with
 |some b=>Q (.bl (k b)) C
 |none=>False
def toV:PV->Option V
 |.non=>some .non | .bl b=>some (.bl b) | .int i=>some (.int i) | .str x=>some (.str x) | _=>none
theorem Jo{K}(r:Rep K H x g)(e:toV g=some v):x=v:=by
 cases r<;>cases e<;>rfl
theorem sEq_toV{b}(e:sEq g j=some b):∃v u,toV g=some v/\toV j=some u/\scal v u=true/\decide (v=u)=b:=by
 cases g<;>cases j<;>cases e<;>exact⟨_,_,rfl,rfl,rfl,by simp⟩
theorem Jr{K}{b}(D:Rep K H x q)(F:Rep K H y B)(e:sEq q B=some b):scal x y=true/\decide (x=y)=b:=by
 refine xR (sEq_toV e) fun v u h1 h2 g j=>?_;cases Jo D h1;cases Jo F h2;exact⟨g,j⟩
theorem aQ{K}:Cop K rEq (cEq id):=fun x y B D H C Q R g j h q f=>by
 delta cEq at q
 split at q
 .next b e =>
  obtain⟨h1,h2⟩:=Jr g j e;exact⟨h1,h2▸f _ H _ C q (.bl _) h Fw.refl⟩
 .exact q.elim
theorem kP{K}:Cop K rNe (cEq not):=fun x y B D H C Q R g j h q f=>by
 delta cEq at q
 split at q
 .next b e =>
  obtain⟨h1,h2⟩:=Jr g j e;exact⟨h1,h2▸f _ H _ C q (.bl _) h Fw.refl⟩
 .exact q.elim
def Vh:PV->Bool
 |.non=>true
 |_=>false
def cIs(k:Bool->Bool):R2C:=fun x y C Q=>match y with
 |.non=>Q (.bl (k (Vh x))) C
 |_=>False
theorem Xa{K}(r:Rep K H x g):decide (x=.non)=Vh g:=by
 cases r<;>simp[Vh]
theorem rD{K}:Cop K (fun x y H Q=>y=.non/\Q (.bl (decide (x=.non))) H) (cIs id):=fun x y B D H C Q R g j h q f=>by
 cases j with
 |non=>exact⟨rfl,by exact(Xa g)▸f _ H _ C q (.bl _) h Fw.refl⟩
 |_=>exact q.elim
theorem Gq{K}:Cop K (fun x y H Q=>y=.non/\Q (.bl (!decide (x=.non))) H) (cIs not):=fun x y B D H C Q R g j h q f=>by
 cases j with
 |non=>exact⟨rfl,by exact(Xa g)▸f _ H _ C q (.bl _) h Fw.refl⟩
 |_=>exact q.elim
def cAt(xs:List PV)(i:Int)(C:CH)(Q:K1):Prop:=match atI xs i with
 |some v=>Q v C
 |none=>False
@[irreducible] def cIx:R2C:=fun x y C Q=>match x,y with
 |.tup xs,.int i=>cAt xs i C Q
 |.kt xs,.int i=>cAt xs i C Q
 |.fz xs,.int i=>cAt xs i C Q
 |.ref a,.int i=>match C a with
  |some (.lst xs)=>cAt xs i C Q
  |_=>False
 |.str z,.int i=>z.length<=sizeLine/\match atI z.cps.toList i with
  |some c=>Q (.str ⟨#[c]⟩) C
  |none=>False
 |_,_=>False
theorem Reps.at{K}{i}(r:Reps K H vs ts)(e:atI ts i=some t):∃v,atI vs i=some v/\Rep K H v t:=by
 delta atI at e ⊢
 rw[r.len]
 cases z:ixN ts.length i with
 |none=>rw[z] at e;cases e
 |some j =>
  rw[z] at e;exact r.get e
theorem nI{K}{i}(r:Reps K H vs ts)(q:cAt ts i C R):∃v t,atI vs i=some v/\Rep K H v t/\R t C:=by
 delta cAt at q
 split at q
 .next t e =>
  exact oQ (r.at e) fun v g j=>⟨v,t,g,j,q⟩
 .exact q.elim
theorem cop_ix{K}:Cop K (rIx K) cIx:=fun x y L M H C Q R B D h q f=>by
 delta cIx at q
 split at q
 .cases D
  cases B with
  |tup e r =>
   obtain⟨v,t,g,j,q⟩:=nI r q;exact .inr (.inl ⟨_,_,_,v,rfl,rfl,SqT.of e,g,f _ H _ C q j h Fw.refl⟩)
 .cases D
  cases B with
  |kt e r =>
   obtain⟨v,t,g,j,q⟩:=nI r q;exact .inr (.inl ⟨_,_,_,v,rfl,rfl,e,g,f _ H _ C q j h Fw.refl⟩)
 .cases D
  cases B with
  |fz e r =>
   obtain⟨v,t,g,j,q⟩:=nI r q;exact .inl ⟨_,_,_,v,rfl,rfl,e.sq,g,f _ H _ C q j h Fw.refl⟩
 .cases D
  split at q
  .next xs e =>
   obtain⟨vs,G,J⟩:=(h _ _ e);cases B;exact zT (nI J q) fun v t g j q=>.inl ⟨_,_,_,v,rfl,rfl,SqL.of G,g,f _ H _ C q j h Fw.refl⟩
  .exact q.elim
 .cases D;cases B
  obtain⟨I,F⟩:=q
  split at F
  .next c e=>exact .inr (.inr ⟨_,_,c,rfl,rfl,I,e,f _ H _ C F (.str _) h Fw.refl⟩)
  .exact F.elim
 .exact q.elim
theorem ix_seqC:IxR X (rIx X.K):=ix_seq
@[irreducible] def iR:GC:=fun ts C Q=>match ts with
 |[.tup xs]=>Q (.int xs.length) C
 |[.kt xs]=>Q (.int xs.length) C
 |[.fz xs]=>Q (.int xs.length) C
 |[.ref a]=>match C a with
  |some (.lst xs)=>Q (.int xs.length) C
  |some (.dK kvs)=>Q (.int kvs.length) C
  |_=>False
 |[.str z]=>z.length<=sizeLine/\Q (.int z.length) C
 |_=>False
abbrev rLenC(K:Dj):List V->Hp->VK->Prop:=fun xs H Q=>(∃p ys,xs=[.ref p]/\(SqL K H p ys\/SqT K H p ys)/\Q (.int ys.length) H)\/((∃a kvs,xs=[V.ref a]/\H a=some (.dK kvs)/\Q (.int kvs.length) H)\/∃z,xs=[.str z]/\z.length<=sizeLine/\Q (.int z.length) H)
theorem VE:CallR X (.builtin "len") (rLenC X.K):=CallR.or mI (CallR.or VD bI)
theorem oX{K}(r:Reps K H xs [t]):∃v,xs=[v]/\Rep K H v t:=by
 cases r with
 |cons h r=>cases r;exact⟨_,rfl,h⟩
theorem eB{K}(r:Reps K H xs [t,u]):∃v w,xs=[v,w]/\Rep K H v t/\Rep K H w u:=by
 cases r with
 |cons h r=>obtain⟨w,rfl,h'⟩:=oX r;exact⟨_,w,rfl,h,h'⟩
theorem cbi_len{K}:Cbi K (rLenC K) iR:=fun xs ps H C Q R rs h q f=>by
 delta iR at q
 split at q
 .obtain ⟨v,rfl,r⟩:=oX rs
  cases r with
  |tup e r=>exact .inl ⟨_,_,rfl,.inr (SqT.of e),f _ H _ C (by rwa [r.len]) (.int _) h Fw.refl⟩
 .obtain ⟨v,rfl,r⟩:=oX rs
  cases r with
  |kt e r=>exact .inl ⟨_,_,rfl,.inr e,f _ H _ C (by rwa [r.len]) (.int _) h Fw.refl⟩
 .obtain ⟨v,rfl,r⟩:=oX rs
  cases r with
  |fz e r=>exact .inl ⟨_,_,rfl,.inl e.sq,f _ H _ C (by rwa [r.len]) (.int _) h Fw.refl⟩
 .obtain ⟨v,rfl,r⟩:=oX rs
  split at q
  .next xs e =>
   obtain⟨vs,g,j⟩:=h _ _ e;cases r;exact .inl ⟨_,_,rfl,.inl (SqL.of g),f _ H _ C (by rwa [j.len]) (.int _) h Fw.refl⟩
  .next kvs e =>
   obtain⟨vs,g,j⟩:=h _ _ e;cases r;exact .inr (.inl ⟨_,_,rfl,g,f _ H _ C (by rwa [Paired.length j]) (.int _) h Fw.refl⟩)
  .exact q.elim
 .obtain ⟨v,rfl,r⟩:=oX rs
  cases r;exact .inr (.inr ⟨_,rfl,q.1,f _ H _ C q.2 (.int _) h Fw.refl⟩)
 .exact q.elim
noncomputable def tyP(C:CH):PV->Option Ty
 |.non=>some .non
 |.bl _=>some .bl
 |.int _=>some .int
 |.str _=>some .str
 |.tup _=>some .tup
 |.ref a=>match C a with
  |some (.lst _)=>some .lst
  |some (.dK _)=>some .dct
  |_=>none
 |_=>none
theorem Jk{K}(r:Rep K H x t)(h:HRel K H C)(e:tyP C t=some n):tyN H x=some n:=by
 cases r with
 |tup j _=>cases e;show(H _).bind tyH=_;rw[j];rfl
 |ref a =>
  delta tyP at e
  dsimp only at e
  split at e
  .next xs c=>cases e;obtain⟨vs,g,_⟩:=h _ _ c;show(H _).bind tyH=_;rw[g];rfl
  .next xs c=>cases e;obtain⟨vs,g,_⟩:=h _ _ c;show(H _).bind tyH=_;rw[g];rfl
  .cases e
 |kt _ _=>cases e
 |fz _ _=>cases e
 |ty _=>cases e
 |vw _=>cases e
 |_=>cases e;rfl
noncomputable def aF(n:String):Option Ty:=[Ty.non,.bl,.int,.str,.lst,.tup,.dct].find? fun t=>qF t==n
theorem Ql(h:aF n=some t):n=qF t:=by
 have:=List.find?_some h;exact(eq_of_beq this).symm
@[irreducible] def cIsi:GC:=fun ts C Q=>match ts with
 |[x,.ty n]=>match aF n,tyP C x with
  |some T,some k=>Q (.bl (Zy k T)) C
  |_,_=>False
 |_=>False
theorem oZ{K}:Cbi K (fun xs H Q=>∃x T n,xs=[x,.ty (qF T)]/\tyN H x=some n/\Q (.bl (Zy n T)) H) cIsi:=fun xs ps H C Q R rs h q f=>by
 delta cIsi at q
 split at q
 .split at q
  .next T k g j =>
   obtain⟨v,w,rfl,B,D⟩:=eB rs;cases D;exact(Ql g)▸⟨v,T,k,rfl,Jk B h j,f _ H _ C q (.bl _) h Fw.refl⟩
  .exact q.elim
 .exact q.elim
def cAbs:GC:=fun ts C Q=>match ts with
 |[.int i]=>Q (.int (if i < 0 then -i else i)) C
 |_=>False
theorem cbi_abs{K}:Cbi K (fun xs H Q=>∃i,xs=[.int i]/\Q (.int (if i < 0 then -i else i)) H) cAbs:=fun xs ps H C Q R rs h q f=>by
 delta cAbs at q
 split at q
 .obtain ⟨v,rfl,r⟩:=oX rs
  cases r;exact⟨_,rfl,f _ H _ C q (.int _) h Fw.refl⟩
 .exact q.elim
@[irreducible] def yP:GC:=fun ts C Q=>match ts with
 |[.tup xs]=>Q (.tup xs) C
 |[.ref a]=>match C a with
  |some (.lst xs)=>Q (.tup xs) C
  |_=>False
 |_=>False
theorem cbi_tup{K}:Cbi K (fun xs H Q=>∃p ys,xs=[.ref p]/\((SqL K H p ys/\∀l,H l=none->Q (.ref l) (upd H l (.tup ys)))\/(SqT K H p ys/\Q (.ref p) H))) yP:=fun xs ps H C Q R rs h q f=>by
 delta yP at q
 split at q
 .obtain ⟨v,rfl,r⟩:=oX rs
  cases r with
  |tup e r=>exact⟨_,_,rfl,.inr ⟨SqT.of e,f _ H _ C q (.tup e r) h Fw.refl⟩⟩
 .obtain ⟨v,rfl,r⟩:=oX rs
  split at q
  .next xs e =>
   obtain⟨vs,j,B⟩:=(h _ _ e);cases r;exact⟨_,_,rfl,.inl ⟨SqL.of j,fun l g=>f _ _ _ C q (.tup bQ (B.imm (Imm.new g _))) (h.new g _) (Fw.new g _)⟩⟩
  .exact q.elim
 .exact q.elim
def lF:GC:=fun ts C Q=>match ts with
 |[.tup xs]=>∀p,C p=none->Q (.ref p) (vQ C p (.lst xs))
 |[.ref a]=>match C a with
  |some (.lst xs)=>∀p,C p=none->Q (.ref p) (vQ C p (.lst xs))
  |_=>False
 |_=>False
theorem Kj{K}:Cbi K (fun xs H Q=>∃p ys,xs=[.ref p]/\(SqL K H p ys\/SqT K H p ys)/\∀l,H l=none->Q (.ref l) (upd H l (.lst ys))) lF:=fun xs ps H C Q R rs h q f=>by
 delta lF at q
 split at q
 .obtain ⟨v,rfl,r⟩:=oX rs
  cases r with
  |tup e r=>exact⟨_,_,rfl,.inr (SqT.of e),fun l g=>f _ _ _ _ (q l (h.fresh g)) (.ref l) (h.lay g ⟨_,bQ,r.imm (Imm.new g _)⟩) (Fw.lay g _ _)⟩
 .obtain ⟨v,rfl,r⟩:=oX rs
  split at q
  .next xs e =>
   obtain⟨vs,j,B⟩:=(h _ _ e);cases r;exact⟨_,_,rfl,.inl (SqL.of j),fun l g=>f _ _ _ _ (q l (h.fresh g)) (.ref l) (h.lay g ⟨_,bQ,B.imm (Imm.new g _)⟩) (Fw.lay g _ _)⟩
  .exact q.elim
 .exact q.elim
noncomputable def xS:List PV->Option (List Bool)
 |[]=>some []
 |.bl b::r=>(xS r).map (b :: ·)
 |_=>none
@[irreducible] def cAll:GC:=fun ts C Q=>match ts with
 |[.ref a]=>match C a with
  |some (.lst xs)=>match xS xs with
   |some bs=>Q (.bl (bs.all id)) C
   |none=>False
  |_=>False
 |_=>False
theorem VF{K}(r:Reps K H vs ts)(e:xS ts=some bs):vs=bs.map V.bl:=by
 induction ts generalizing vs bs with
 |nil=>cases r;cases e;rfl
 |cons t ts g =>
  cases r with
  |@cons v _ vs _ h r =>
   cases t with
   |bl b =>
    unfold xS at e
    cases z:xS ts with
    |none=>rw[z] at e;cases e
    |some cs =>
     rw[z] at e;injection e with e
     subst e;cases h;rw[g r z];rfl
   |_=>cases e
theorem vI{K}:Cbi K (fun xs H Q=>∃p ys,xs=[.ref p]/\SqL K H p (List.map V.bl ys)/\Q (.bl (ys.all id)) H) cAll:=fun xs ps H C Q R rs h q f=>by
 delta cAll at q
 split at q
 .obtain ⟨v,rfl,r⟩:=oX rs
  split at q
  .next xs e =>
   split at q
   .next bs g =>
    obtain⟨vs,j,B⟩:=(h _ _ e);cases r;have:=VF B g;subst this;exact⟨_,bs,rfl,SqL.of j,f _ H _ C q (.bl _) h Fw.refl⟩
   .exact q.elim
  .exact q.elim
 .exact q.elim
def isL(x:PV)(C:CH):Prop:=match x with
 |.ref a=>match C a with
  |some (.lst _)=>True
  |_=>False
 |_=>False
def cBM(B:PV->List PV->CH->K1->Prop)(q:TCE)(j:TCA):TCE:=fun g C Q=>q g C fun x C1=>isL x C1/\j g C1 fun xs C2=>B x xs C2 Q
def Cmt(K:Dj)(r:V->List V->Hp->VK->Prop)(j:PV->List PV->CH->K1->Prop):Prop:=∀x g xs ps H C Q R,Rep K H x g->Reps K H xs ps->HRel K H C->j g ps C R->(∀v H' t C',R t C'->Rep K H' v t->HRel K H' C'->Fw H C H' C'->Q v H')->r x xs H Q
theorem YG{K}(l:isL t C)(r:Rep K H x t)(h:HRel K H C):tyV K "list" x H:=by
 delta isL at l
 split at l
 .split at l
  .next e=>obtain⟨vs,g,_⟩:=(h _ _ e);cases r;exact .inl ⟨rfl,vs,SqL.of g⟩
  .exact l.elim
 .exact l.elim
theorem GJ{id}{apos cpos}(pa:PlainAttrs "list")(ae:Slot "list" name id)(Z:typeOf (.builtin id)=pure (.type "method_descriptor"))(U:MtR X id r)(Y:Cmt X.K r I)(W:CE X o G)(L:CA X (e::es) F)(N:attributeBase o name X.env (eval o X.env)=eval o X.env:=by rfl)(O:((backTo cpos (starEach (e::es) X.env)).all (fun x=>!x.1)&&(backToKw cpos (keywordEach [] X.env)).all (fun x=>x.1.isSome)
   && decide ((e::es).length+([]:List Keyword).length+(if ([]:List Keyword).isEmpty then 0 else 1) < 30))=true:=by rfl)(S:(apos.endLine==cpos.line)=true:=by rfl)(hs:sQ e=true:=by rfl)(M:es.all sQ=true:=by rfl):
  CE X (.Call (.Attribute o name apos) (e::es) [] cpos) (cBM I G F):=⟨JE.weak (je_bm pa ae Z U W.h L.h N O S hs M) fun σ H Q ⟨D,C,R,s,h,ab,f⟩ =>
 ⟨D,C,_,s,h,ab,fun x H1 px C1 q B h1 g=>⟨YG q.1 B h1,D,C1,_,s.imm (g.imm h),h1,q.2,fun xs H2 ps C2 q2 rs h2 j=>
  Y x px xs ps H2 C2 Q R (B.imm (j.imm h1)) rs h2 q2 fun v H' t C' q' r' h' J=>f v H' t C' q' r' h' (g.trans (j.trans J))⟩⟩⟩
@[irreducible] def bU:PV->List PV->CH->K1->Prop:=fun x ts C Q=>match x,ts with
 |.ref a,[y]=>match C a with
  |some (.lst xs)=>xs.length < sizeLine/\Q .non (vQ C a (.lst (xs++[y])))
  |_=>False
 |_,_=>False
theorem ZO{K}:Cmt K Jv bU:=fun x D xs ps H C Q R B rs h q f=>by
 delta bU at q
 split at q
 .split at q
  .next ys e =>
   obtain⟨vs,g,j⟩:=(h _ _ e);obtain⟨v,rfl,r⟩:=oX rs;cases B;exact⟨_,vs,v,rfl,rfl,g,by exact j.len▸q.1,f _ _ _ _ q.2 .non (h.put g rfl ⟨_,bQ,(j.append (.cons r .nil)).imm (Imm.mut g rfl _)⟩) (Fw.put e _ _)⟩
  .exact q.elim
 .exact q.elim
end
noncomputable def pV:PV->Option Key
 |.non=>some (.inl none)
 |.int i=>some (.inl (some i))
 |.str x=>some (.inr x)
 |_=>none
def fW:Key->PV
 |.inl none=>.non
 |.inl (some i)=>.int i
 |.inr x=>.str x
theorem keyOf_keyPV k:pV (fW k)=some k:=by rcases k with (_ | i) | x<;>rfl
theorem KG{K}k:Rep K H (kV k) (fW k):=by
 rcases k with (_ | i) | x
 .exact .non
 .exact .int i
 .exact .str x
theorem pG{K}(r:Rep K H v t)(e:pV t=some k):v=kV k:=by
 cases r<;>cases e<;>rfl
noncomputable def gJ(kvs:List (Key×PV))(k:Key):Option PV:=(kvs.find? fun g=>decide (g.1=k)).map (·.2)
noncomputable def qJ(kvs:List (Key×PV))(k:Key)(v:PV):List (Key×PV):=if (kvs.any fun g=>decide (g.1=k))=true then kvs.map fun g=>if g.1=k then (g.1,v) else g else kvs++[(k,v)]
def gW(kvs j:List (Key×PV)):List (Key×PV):=j.foldl (fun acc g=>qJ acc g.1 g.2) kvs
section
variable {K:Dj}{H:Hp}{vs:List (Key×V)}{kvs:List (Key×PV)}
theorem KP.val(r:KP K H vs kvs)k:(∃v t,pY vs k=some v/\gJ kvs k=some t/\Rep K H v t)\/(pY vs k=none/\gJ kvs k=none):=by
 induction r with
 |nil=>exact .inr ⟨rfl,rfl⟩
 |@cons p q j B h r g =>
  delta pY gJ
  rw[A0,A0,h.1]
  by_cases e:q.1=k
  .grind
  .rwa [AR e]
theorem KP.any(r:KP K H vs kvs)k:(vs.any fun g=>decide (g.1=k))=(kvs.any fun g=>decide (g.1=k)):=by
 induction r with
 |nil=>rfl
 |@cons p q B D h r j=>rw[BA,BA,h.1,j]
theorem KP.put(r:KP K H vs kvs)k(h:Rep K H v t):KP K H (qV vs k v) (qJ kvs k t):=by
 delta qV qJ
 rw[r.any k]
 have B:KP K H (vs.map fun g=>if g.1=k then (g.1,v) else g) (kvs.map fun g=>if g.1=k then (g.1,t) else g):=by
  induction r with
  |nil=>exact .nil
  |@cons p q D F h' r j =>
   refine .cons ?_ j
   by_cases e:q.1=k
   .lia
   .lia
 split
 .exact B
 .exact Paired.snoc r ⟨rfl,h⟩
theorem KP.merge(r:KP K H vs kvs)(m:KP K H F D):KP K H (kY vs F) (gW kvs D):=by
 induction m generalizing vs kvs with
 |nil=>exact r
 |@cons p q j B h _ g =>
  show KP K H (kY (qV vs p.1 p.2) j) (gW (qJ kvs q.1 q.2) B);rw[h.1];exact g (r.put q.1 h.2)
end
def dOf:Option CO->Option (List (Key×PV))
 |some (.dK kvs)=>some kvs
 |some (.fK kvs)=>some kvs
 |_=>none
theorem dOf_rd{K}(h:HRel K H C)(e:dOf (C a)=some kvs):∃vs,Rd H a (.dK vs)/\KP K H vs kvs:=by
 cases c:C a with
 |none=>rw[c] at e;cases e
 |some o =>
  rw[c] at e
  cases o with
  |lst xs=>cases e
  |dT l=>cases e
  |fT l=>cases e
  |dP l=>cases e
  |ins c dx fs=>cases e
  |dK l=>cases e;obtain⟨vs,q,r⟩:=h a _ c;exact⟨vs,.inl q,r⟩
  |fK l=>cases e;exact wB (h a _ c) fun o vs q r=>⟨vs,.inr ⟨o,q⟩,r⟩
section
variable {X:Cx}{a b c e o i f:Expr}{es:List Expr}{pos:Pos}{value:Expr}
@[irreducible] def gT:R2C:=fun x y C Q=>match x with
 |.ref a=>match dOf (C a),pV y with
  |some kvs,some k=>match gJ kvs k with
   |some v=>Q v C
   |none=>False
  |_,_=>False
 |_=>False
theorem J8{K}{a}(h:HRel K H C)(g:dOf (C a)=some kvs)(G:Rep K H y F)(j:pV F=some k):
  (∃v t,DGet H a y (some v)/\gJ kvs k=some t/\Rep K H v t)\/(DGet H a y none/\gJ kvs k=none):=by
 obtain⟨vs,q,r⟩:=(dOf_rd h g);have B:=pG G j;subst B
 rcases r.val k with ⟨v,t,h1,h2,D⟩ | ⟨h1,h2⟩
 .exact .inl ⟨v,t,.inl ⟨vs,k,q,rfl,h1.symm⟩,h2,D⟩
 .exact .inr ⟨.inl ⟨vs,k,q,rfl,h1.symm⟩,h2⟩
theorem hZ(S:X.A.units+1 < cLine)(O:CE X o L)(hi:CE X i J)(hs:Z8 i):CE X (.Subscript o i pos) (cOp gT L J):=⟨JE.weak (JQ S O.h hi.h hs) fun σ H Q ⟨I,C,R,s,h,q,f⟩ =>
 ⟨I,C,_,s,h,q,fun x H1 px C1 U W h1 F=>⟨I,C1,_,s.imm (F.imm h),h1,U,fun y H2 ab C2 j Z h2 G=>by
  delta gT at j
  split at j
  .next a =>
   split at j
   .next kvs k M N =>
    split at j
    .next t D =>
     have Y:=W.imm (G.imm h1);cases Y
     rcases J8 h2 M Z N with ⟨v,t',g,B,r⟩ | ⟨_,B⟩
     .rw [D] at B
      cases B;exact⟨a,v,rfl,g,f v H2 t C2 j r h2 (F.trans G)⟩
     .rw [D] at B;cases B
    .exact j.elim
   .exact j.elim
  .exact j.elim⟩⟩⟩
noncomputable def ZA(x:PV)(C:CH):Prop:=match x with
 |.ref a=>match C a with
  |some (.dK _)=>True
  |_=>False
 |_=>False
@[irreducible] def Kr:PV->PV->PV->CH->K1->Prop:=fun x y z C Q=>match x with
 |.ref a=>match dOf (C a),pV y with
  |some kvs,some k=>Q ((gJ kvs k).getD z) C
  |_,_=>False
 |_=>False
def GQ(B q D:TCE):TCE:=fun g C Q=>B g C fun x C1=>ZA x C1/\q g C1 fun y C2=>D g C2 fun z j=>Kr x y z j Q
theorem JV{K}(d:ZA t C)(r:Rep K H x t)(h:HRel K H C):∃a kvs,x=.ref a/\t=.ref a/\H a=some (.dK kvs):=by
 delta ZA at d
 split at d
 .split at d
  .next e=>obtain⟨vs,g,_⟩:=(h _ _ e);cases r;exact⟨_,vs,rfl,rfl,g⟩
  .exact d.elim
 .exact d.elim
theorem GE{apos cpos}(hu:X.A.units+1 < cLine)(ho:CE X o O)(ab:CE X e N)(ae:CE X f S)(Z:attributeBase o "get" X.env (eval o X.env)=eval o X.env:=by rfl)(hl:(apos.endLine==cpos.line)=true:=by rfl)(h1:sQ e=true:=by rfl)(h2:sQ f=true:=by rfl):CE X (.Call (.Attribute o "get" apos) [e,f] [] cpos) (GQ O N S):=⟨JE.weak (Q8 hu ho.h ab.h ae.h Z hl h1 h2) fun σ H Q ⟨I,C,R,s,h,af,f⟩ =>
 ⟨I,C,_,s,h,af,fun x H1 px C1 M rx h1 q=>by
  obtain⟨a,kvs,rfl,rfl,Y⟩:=JV M.1 rx h1;refine⟨a,rfl,.inl ⟨kvs,.inl Y⟩,I,C1,_,s.imm (q.imm h),h1,M.2,fun y H2 ah C2 q2 ry h2 D=>⟨I,C2,_,(s.imm (q.imm h)).imm (D.imm h1),h2,q2,fun z L pz J j rz G F=>?_⟩⟩;unfold Kr at j;dsimp only at j
  split at j
  .next ag k U W =>
   rcases J8 G U (ry.imm (F.imm h2)) W with ⟨v,t',g,B,r⟩ | ⟨g,B⟩
   .rw [B] at j
    exact⟨some v,g,f v L t' J j r G (q.trans (D.trans F))⟩
   .rw [B] at j
    exact⟨none,g,f z L pz J j rz G (q.trans (D.trans F))⟩
  .exact j.elim⟩⟩
@[irreducible] def aR:PV->PV->PV->CH->(CH->Prop)->Prop:=fun x y v C Q=>match x with
 |.ref a=>match C a,pV y with
  |some (.dK kvs),some k=>kvs.length < sizeLine/\Q (vQ C a (.dK (qJ kvs k v)))
  |_,_=>False
 |_=>False
def cDPut(D B F:TCE):TCS:=fun E g C=>F g C fun v C1=>D g C1 fun x C2=>B g C2 fun y j=>aR x y v j fun q=>E.nx g q
theorem rV{J L}(Y:X.A.units+1 < cLine)(W:CE X o O)(hi:CE X i J)(Z:CE X value L)(hs:swapsWith value (some (.Subscript o i pos')) pos.line X.env=pure false:=by rfl):
  CS X (.Assign [.Subscript o i pos'] value pos) (cDPut O J L):=⟨JS.weak (JN Y W.h hi.h Z.h hs) fun af σ H ⟨F,C,E,s,h,q,f⟩ =>
 ⟨F,C,_,s,h,q,fun v H1 ag C1 q1 rv h1 j=>⟨F,C1,_,s.imm (j.imm h),h1,q1,fun x H2 px C2 q2 rx h2 B=>⟨F,C2,_,(s.imm (j.imm h)).imm (B.imm h1),h2,q2,fun y I ah C3 g ry N D=>by
  have ab:=rv.imm ((B.trans D).imm h1)
  delta aR at g
  split at g
  .next a =>
   split at g
   .next kvs k M S =>
    have ae:=rx.imm (D.imm h2);cases ae;refine oQ (N a _ M) fun vs G r=>?_;have U:=pG ry S;subst U;have m:Imm I (upd I a (.dK (qV vs k v))):=Imm.mut G rfl _;refine⟨a,_,rfl,DPut.k G ((Paired.length r)▸g.1),f.nx σ _ F _ g.2 ((((s.imm (j.imm h)).imm (B.imm h1)).imm (D.imm h2)).imm m) (N.put G rfl ⟨_,bQ,Paired.mapP (r.put k ab) fun _ _ z=>⟨z.1,z.2.imm m⟩⟩) (j.trans (B.trans (D.trans (Fw.put M _ _))))⟩
   .exact g.elim
  .exact g.elim⟩⟩⟩⟩
noncomputable def lW:List PV->Option (List (Key×PV))
 |[]=>some []
 |.tup [k,v]::r=>match pV k,lW r with
  |some k,some ps=>some ((k,v)::ps)
  |_,_=>none
 |_=>none
theorem lP{K}(r:Reps K H vs ts)(e:lW ts=some ps):∃g j,vs=List.map V.ref g/\iY H g j/\KP K H j ps:=by
 induction ts generalizing vs ps with
 |nil=>cases r;cases e;exact⟨[],[],rfl,.nil,.nil⟩
 |cons t ts D =>
  cases r with
  |@cons v _ vs _ h r =>
   cases h with
   |@tup a j xs q L =>
    rcases xs with _ | ⟨k,_ | ⟨u,_ | ⟨z,xs⟩⟩⟩
    .cases e
    .cases e
    .unfold lW at e
     split at e
     .next F U G I =>
      cases e;obtain⟨g,S,rfl,J,p2⟩:=D r I;obtain⟨W,O,rfl,M,N⟩:=eB L;have B:=pG M G;subst B;exact⟨a::g,(F,O)::S,rfl,.cons q J,.cons ⟨rfl,N⟩ p2⟩
     .cases e
    .cases e
   |_=>cases e
@[irreducible] def zN:GC:=fun ts C Q=>match ts with
 |[.tup xs]=>match lW xs with
  |some ps=>ps.length<=sizeLine/\∀p,C p=none->Q (.ref p) (vQ C p (.dK (gW [] ps)))
  |none=>False
 |_=>False
theorem XB{K}:Cbi K (fun xs H Q=>∃t j ps,xs=[.ref t]/\H t=some (.tup (List.map V.ref j))/\iY H j ps/\ps.length<=sizeLine/\∀d,H d=none->Q (.ref d) (upd H d (.dK (kY [] ps)))) zN:=fun xs ts H C Q R rs h q f=>by
 delta zN at q
 split at q
 .split at q
  .next ps e =>
   obtain⟨v,rfl,r⟩:=oX rs
   cases r with
   |@tup a vs xs B F =>
    obtain⟨j,G,rfl,D,p2⟩:=lP F e;refine⟨a,j,G,rfl,B,D,by rw[Paired.length p2];exact q.1,fun d g=>?_⟩;exact f _ _ _ _ (q.2 d (h.fresh g)) (.ref d) (h.lay g ⟨_,bQ,Paired.mapP (KP.merge .nil p2) fun _ _ z=>⟨z.1,z.2.imm (Imm.new g _)⟩⟩) (Fw.lay g _ _)
  .exact q.elim
 .exact q.elim
def cBMD(B:PV->List PV->CH->K1->Prop)(q:TCE)(j:TCA):TCE:=fun g C Q=>q g C fun x C1=>ZA x C1/\j g C1 fun xs C2=>B x xs C2 Q
theorem isDk_ty{K}(l:ZA t C)(r:Rep K H x t)(h:HRel K H C):tyV K "dict" x H:=by
 obtain⟨a,kvs,rfl,_,e⟩:=JV l r h;exact .inr (.inr (.inl ⟨rfl,.inl ⟨kvs,e⟩⟩))
theorem ce_bmD{id}{apos cpos}(pa:PlainAttrs "dict")(ae:Slot "dict" name id)(Z:typeOf (.builtin id)=pure (.type "method_descriptor"))(U:MtR X id r)(Y:Cmt X.K r I)(W:CE X o G)(L:CA X (e::es) F)(N:attributeBase o name X.env (eval o X.env)=eval o X.env:=by rfl)(O:((backTo cpos (starEach (e::es) X.env)).all (fun x=>!x.1)&&(backToKw cpos (keywordEach [] X.env)).all (fun x=>x.1.isSome)
   && decide ((e::es).length+([]:List Keyword).length+(if ([]:List Keyword).isEmpty then 0 else 1) < 30))=true:=by rfl)(S:(apos.endLine==cpos.line)=true:=by rfl)(hs:sQ e=true:=by rfl)(M:es.all sQ=true:=by rfl):
  CE X (.Call (.Attribute o name apos) (e::es) [] cpos) (cBMD I G F):=⟨JE.weak (je_bm pa ae Z U W.h L.h N O S hs M) fun σ H Q ⟨D,C,R,s,h,ab,f⟩ =>
 ⟨D,C,_,s,h,ab,fun x H1 px C1 q B h1 g=>⟨isDk_ty q.1 B h1,D,C1,_,s.imm (g.imm h),h1,q.2,fun xs H2 ps C2 q2 rs h2 j=>
  Y x px xs ps H2 C2 Q R (B.imm (j.imm h1)) rs h2 q2 fun v H' t C' q' r' h' J=>f v H' t C' q' r' h' (g.trans (j.trans J))⟩⟩⟩
@[irreducible] def Kk:PV->List PV->CH->K1->Prop:=fun x ts C Q=>match x,ts with
 |.ref a,[.tup xs]=>match C a,lW xs with
  |some (.dK kvs),some ps=>kvs.length+ps.length<=sizeLine/\Q .non (vQ C a (.dK (gW kvs ps)))
  |_,_=>False
 |_,_=>False
theorem cmt_upd{K}:Cmt K rUpdP Kk:=fun x O xs ts H C Q R N rs h q f=>by
 delta Kk at q
 split at q
 .split at q
  .next kvs ps j G =>
   obtain⟨v,rfl,r⟩:=oX rs
   cases r with
   |@tup t vs xs I M =>
    obtain⟨L,F,rfl,J,p2⟩:=lP M G;obtain⟨D,g,B⟩:=(h _ _ j);cases N;have m:=Imm.mut (o:=.dK (kY D F)) g rfl;refine⟨_,t,L,F,D,rfl,rfl,g,I,J,by rw[Paired.length p2,Paired.length B];exact q.1,?_⟩;exact f _ _ _ _ q.2 .non (h.put g rfl ⟨_,bQ,Paired.mapP (KP.merge B p2) fun _ _ z=>⟨z.1,z.2.imm m⟩⟩) (Fw.put j _ _)
  .exact q.elim
 .exact q.elim
@[irreducible] def fI(g:TCE):TCE:=fun j C Q=>g j C fun x C1=>match x with
 |.ref a=>match C1 a with
  |some (.dK _)=>Q (.vw a) C1
  |_=>False
 |_=>False
theorem GD{apos cpos}(L:CE X o D)(I:attributeBase o "items" X.env (eval o X.env)=eval o X.env:=by rfl)(J:(apos.endLine==cpos.line)=true:=by rfl):CE X (.Call (.Attribute o "items" apos) [] [] cpos) (fI D) :=
 ⟨JE.weak (Zv F.plainAttrs_dict DB F.type_dict_items Yf L.h I J) fun σ H Q ⟨N,C,R,s,h,q,f⟩=>by
 delta fI at q
 exact⟨N,C,_,s,h,q,fun x H1 O C1 g M h1 G=>by
  split at g
  .split at g
   .next kvs e =>
    refine oQ (h1 _ _ e) fun vs j r=>?_;cases M;exact⟨.inr (.inr (.inl ⟨rfl,.inl ⟨vs,j⟩⟩)),_,vs,rfl,rfl,j,fun v B=>f _ _ _ _ g (.vw bQ) (h1.new B _) (G.trans (Fw.new B _))⟩
   .exact g.elim
  .exact g.elim⟩⟩
end
end CL
namespace CL
open PySem PySem.Spec L2 PySem.W
open PyProof.Rows hiding St
def dQ(c:Str×Int):PV:=.tup [.str c.1,.int c.2]
noncomputable def X1:List PV->Option (List (Str×Int))
 |[]=>some []
 |.tup [.str x,.int i]::r=>(X1 r).map ((x,i) :: ·)
 |_=>none
noncomputable def siK:List (Key×PV)->Option (List (Str×Int))
 |[]=>some []
 | (.inr x,.int i)::r=>(siK r).map ((x,i) :: ·)
 |_=>none
def X2(cs:List (Str×Int)):Nat->Nat->Bool:=fun i j=>Yh (cs.getD i ("",0)) (cs.getD j ("",0))
noncomputable def mG(cs:List (Str×Int)):List (Str×Int):=(jU (X2 cs) (kas_sort cs.length)).toList.map fun i=>cs.getD i ("",0)
theorem Qv:∀cs,X1 (cs.map dQ)=some cs
 |[]=>rfl
 |c::cs=>by
  show(X1 (cs.map dQ)).map _=_;rw[Qv cs];rfl
theorem siOf_eq(e:X1 ts=some cs):ts=cs.map dQ:=by
 induction ts generalizing cs with
 |nil=>cases e;rfl
 |cons t ts g =>
  unfold X1 at e
  split at e
  .lia
  .rename_i x i r h
   cases h
   cases z:X1 ts with
   |none=>rw[z] at e;cases e
   |some ds =>
    rw[z] at e;cases e;rw[g z];rfl
  .cases e
theorem siK_eq(e:siK ts=some cs):ts=cs.map fun c=>(Sum.inr c.1,PV.int c.2):=by
 induction ts generalizing cs with
 |nil=>cases e;rfl
 |cons t ts g =>
  unfold siK at e
  split at e
  .lia
  .rename_i x i r h
   cases h
   cases z:siK ts with
   |none=>rw[z] at e;cases e
   |some ds =>
    rw[z] at e;cases e;rw[g z];rfl
  .cases e
section
variable {K:Dj}{H:Hp}{X:Cx}
theorem si_at{cs:List (Str×Int)}(r:Reps K H ys (cs.map dQ)):∀i,i < ys.length->GV H (ys.getD i .non) (cs.getD i ("",0)):=by
 induction cs generalizing ys with
 |nil=>cases r;intro i hi;exact absurd hi (CN i)
 |cons c cs g =>
  cases r with
  |@cons v _ vs _ h r =>
   intro i hi
   cases i with
   |zero =>
    cases h with
    |tup e j =>
     obtain⟨D,F,rfl,q,B⟩:=eB j;cases q;cases B
     exact⟨_,rfl,e⟩
   |succ i=>exact g r i (Bq hi)
theorem Reps.getD(r:Reps K H ys ts): ∀i,i < ys.length->Rep K H (ys.getD i .non) (ts.getD i d):=by
 induction ts generalizing ys with
 |nil=>cases r;intro i hi;exact absurd hi (CN i)
 |cons c cs g =>
  cases r with
  |@cons v _ vs _ h r =>
   intro i hi
   cases i with
   |zero=>exact h
   |succ i=>exact g r i (Bq hi)
theorem JH{cs:List (Str×Int)}g(r:Reps K H ys (cs.map dQ)):Reps K H (vF g ys) (((jU g (kas_sort cs.length)).toList.map fun i=>cs.getD i ("",0)).map dQ):=by
 have B:ys.length=cs.length:=by rw[r.len,AB]
 delta vF
 rw[B]
 have q:∀i∈(jU g (kas_sort cs.length)).toList,i < ys.length:=by
  intro i hi
  by_cases h:0 < cs.length
  .have:=(vY g cs.length h).mem_iff.mp hi
   exact B▸Ba.mp this
  .have e:cs.length=0:=by lia
   rw[e,Wf] at hi;cases hi
 generalize (jU g (kas_sort cs.length)).toList=l at q ⊢
 induction l with
 |nil=>exact .nil
 |cons i l F =>
  refine .cons ?_ (F fun j D=>q j (AH _ D));have h1:=r.getD (d:=dQ ("",0)) i (q i AE);have h2:(cs.map dQ).getD i (dQ ("",0))=dQ (cs.getD i ("",0)) :=by grind<;> rfl
  rwa [h2] at h1
@[irreducible] def pM:GC:=fun ts C Q=>match ts with
 |[.ref a]=>match C a with
  |some (.lst xs)=>match X1 xs with
   |some cs=>cs.length < 64/\∀p,C p=none->Q (.ref p) (vQ C p (.lst ((mG cs).map dQ)))
   |none=>False
  |_=>False
 |[.vw a]=>match C a with
  |some (.dK kvs)=>match siK kvs with
   |some cs=>cs.length < 64/\∀p,C p=none->Q (.ref p) (vQ C p (.lst ((mG cs).map dQ)))
   |none=>False
  |_=>False
 |_=>False
abbrev Jt(X:Cx):List V->Hp->VK->Prop:=fun xs H Q=>(∃l ys lt,xs=[.ref l]/\SqL X.K H l ys/\ys.length < 64/\Srt X H ys lt/\∀p,H p=none->Q (.ref p) (upd H p (.lst (vF lt ys)))) \/
 (∃v d kvs lt,xs=[.ref v]/\H v=some (.ext (lY v d))/\H d=some (.dK kvs)/\kvs.length < 64 /\
  ∀as H1,Same H H1->iY H1 as kvs->(∀a∈as,H a=none)->(∀a,H a=none->H1 a≠none->a∈as)->Srt X H1 (List.map V.ref as) lt/\∀p,H1 p=none->Q (.ref p) (upd H1 p (.lst (vF lt (List.map V.ref as)))))
theorem yU(g:X.calm=true):CallR X (.builtin "sorted") (Jt X):=CallR.or XC (yI g)
theorem cF:Cbi X.K (Jt X) pM:=fun xs ts H C Q R rs h q f=>by
 delta pM at q
 split at q
 .obtain ⟨v,rfl,r⟩:=oX rs
  split at q
  .next xs e =>
   split at q
   .next cs B =>
    have ex:=siOf_eq B;subst ex;obtain⟨vs,D,j⟩:=h _ _ e;cases r;have F:vs.length=cs.length:=by rw[j.len,AB]
    refine .inl ⟨_,vs,X2 cs,rfl,SqL.of D,by rw[F];exact q.1,Wb _ (si_at j),fun p g=>?_⟩;exact f _ _ _ _ (q.2 p (h.fresh g)) (.ref p) (h.lay g ⟨_,bQ,(JH (X2 cs) j).imm (Imm.new g _)⟩) (Fw.lay g _ _)
   .exact q.elim
  .exact q.elim
 .obtain ⟨v,rfl,r⟩:=oX rs
  split at q
  .next kvs e =>
   split at q
   .next cs B =>
    have ex:=siK_eq B;subst ex;obtain⟨vs,D,j⟩:=h _ _ e
    cases r with
    |vw N =>
     have F:vs.length=cs.length:=by rw[Paired.length j,AB]
     refine .inr ⟨_,_,vs,X2 cs,rfl,N,D,by rw[F];exact q.1,fun as H1 I G M U=>?_⟩
     have rr:Reps X.K H1 (List.map V.ref as) (cs.map dQ):=by
      clear F M U q e D B
      induction cs generalizing vs as with
      |nil=>cases j;cases G;exact .nil
      |cons c cs O =>
       cases j with
       |@cons p q S W h' j =>
        cases G with
        |@cons a _ l _ J G =>
         obtain⟨k,Y⟩:=p;obtain⟨rfl,L⟩:=h';cases L;exact .cons (.tup J (.cons (.str _) (.cons (.int _) .nil))) (O (vs:=S) j l G)
     refine⟨Wb _ (si_at rr),fun p g=>?_⟩;have h1:=aL h I;exact f _ _ _ _ (q.2 p (h1.fresh g)) (.ref p) (h1.lay g ⟨_,bQ,(JH (X2 cs) rr).imm (Imm.new g _)⟩) ((nA I).trans (Fw.lay g _ _))
   .exact q.elim
  .exact q.elim
 .exact q.elim
end
section
variable {X:Cx}{pos:Pos}
@[irreducible] def lI(j:TCE)(t:TCT)(c:TCE):TCE:=fun g C Q=>j g C fun x C1=>match x with
 |.ref d=>match C1 d with
  |some (.dK kvs)=>rZ t c g (fun v C2=>C2 d=some (.fK kvs)/\Q v (vQ C2 d (.dK kvs))) (kvs.map fun p=>fW p.1) [] (vQ C1 d (.fK kvs))
  |_=>False
 |_=>False
structure ItOn(K:Dj)(S:Hp->Prop)(J:It)(ps:List PV):Prop where
 go:∀i H',i < ps.length->S H'->J.go i H'
 yl:∀i H' x H'',S H'->J.yld i H' x H''->H''=H'/\∀t,ps[i]?=some t->Rep K H' x t
 st:∀H',S H'->J.stop ps.length H'
theorem comp_on{K}{Q:VK}(ae:ItOn K S J ps)(hS:∀H' C',HRel K H' C'->Fw H C H' C'->S H')(s:SRel K H σ Z)(h:HRel K H C)(ai:rZ t c Z R ps [] C)(h0:HRel K H0 C0)(ah:Fw H0 C0 H C)(f:∀v H' p C',R p C'->Rep K H' v p->HRel K H' C'->Fw H0 C0 H' C'->Q v H')(q:H D=none):
  ∃W:Nat->Nat->List V->Hp->Prop,(∃m,W 0 m [] (upd H D (.lst [])))/\∀i m ys H,W i m ys H ->
   (J.stop i H/\Q (.ref D) H)\/(J.go i H/\∀x H',J.yld i H x H'->zJ K pL t (some x::σ) H' fun b H2=>
    if b=true then zJ K (Rep K) c (some x::σ) H2 fun y H3=>H3 D=some (.lst ys)/\ys.length < sizeLine/\∃F,F < m/\W (i+1) F (ys++[y]) (upd H3 D (.lst (ys++[y])))
    else ∃F,F < m/\W (i+1) F ys H2):=by
 refine⟨fun i m ys H'=>m=ps.length - i/\i<=ps.length/\∃acc C',H' D=some (.lst ys)/\C' D=none/\Reps K H' ys acc/\HRel K H' C'/\Fw H C H' C'/\rZ t c Z R (ps.drop i) acc C',
  ⟨ps.length,rfl,Ab _,[],C,bQ,h.fresh q,.nil,h.new q _,Fw.new q _,ai⟩,?_⟩
 rintro i m ys H1 ⟨rfl,hi,acc,C1,e1,n1,O,h1,j,N⟩;have k1:=j.imm h
 by_cases B:i < ps.length
 .refine .inr ⟨ae.go i H1 B (hS H1 C1 h1 j),fun x H2 y=>?_⟩
  obtain⟨rfl,y⟩:=ae.yl i H1 x H2 (hS H1 C1 h1 j) y;have rx:=y _ (AK B);rw[Al B] at N;refine⟨some ps[i]::Z,C1,_,.cons rx (s.imm k1),h1,N,fun b H3 b' C3 q3 e h3 G=>?_⟩;cases e;obtain⟨L,e3⟩:=G D (by rw[n1];rfl) (by lia);rw[e1] at e3;rw[n1] at L;have I:=G.imm h1
  cases b with
  |true =>
   refine⟨some ps[i]::Z,C3,_,.cons (rx.imm I) ((s.imm k1).imm I),h3,q3,fun v H4 p C4 q4 r4 h4 ab=>jT (ab D (by rw[L];rfl) (by lia)) fun n4 e4=>?_⟩;rw[e3] at e4;rw[L] at n4;have m4:Imm H4 (upd H4 D (.lst (ys++[v]))):=Imm.mut e4 rfl _;refine⟨e4,by rw[O.len];exact q4.1,ps.length - (i+1),by lia,rfl,B,acc++[p],C4,bQ,n4,?_,?_,?_,q4.2⟩
   .exact (((O.imm I).imm (ab.imm h3)).append (.cons r4 .nil)).imm m4
   .intro a o g
    have af:a≠D:=fun z=>by subst z;rw[n4] at g;cases g
    exact(h4 a o g).imm m4 (mQ af)
   .intro a g M
    have af:a≠D:=fun z=>M (z▸q);exact jT ((j.trans (G.trans ab)) a g M) fun U Y=>⟨U,(mQ af).trans Y⟩
  |false =>
   exact⟨ps.length - (i+1),by lia,rfl,B,acc,C3,e3,L,O.imm I,h3,j.trans G,q3⟩
 .have e:i=ps.length:=by lia
  subst e;rw[BY] at N;refine .inl ⟨ae.st H1 (hS H1 C1 h1 j),f (.ref D) H1 (.ref D) _ (N D n1) (.ref D) ?_ ?_⟩
  .intro a o g
   by_cases z:a=D
   .subst z;rw[jQ] at g;cases g;exact⟨ys,e1,O⟩
   .rw [yQ z] at g;exact h1 a o g
  .intro a g M
   obtain⟨U,Y⟩:=ah a g M;have ag:H a≠none:=by rwa [Y]
   obtain⟨y1,y2⟩:=j a (by rwa [U]) ag;exact⟨(yQ (show a≠D from fun z=>ag (z▸q))).trans (y1.trans U),y2.trans Y⟩
theorem it_dict{K}{kvs:List (Key×PV)}(e:vs.map (·.1)=kvs.map (·.1)):ItOn K (fun H'=>H' d=some (.frz o (.dK vs))) (Itd o d vs) (kvs.map fun p=>fW p.1) where
 go:=fun i H' l s=>⟨by
  have:(vs.map (·.1)).length=(kvs.map (·.1)).length:=by rw[e]
  rw[AB,AB] at this;rw[AB] at l
  lia,s⟩
 yl:=fun i H' x B s y=>⟨y.1,fun t g=>by
  obtain⟨p,j,rfl⟩:=y.2;have h1:(vs.map (·.1))[i]?=some p.1:=by rw[Ak,j];rfl
  rw[e,Ak] at h1;rw[Ak] at g
  cases z:kvs[i]? with
  |none=>rw[z] at g;cases g
  |some q =>
   rw[z] at g h1;cases g;show Rep K H' (kV p.1) (fW q.1);rw[(show q.1=p.1 from Av h1)]
   exact KG p.1⟩
 st:=fun H' s=>⟨by
  have:(vs.map (·.1)).length=(kvs.map (·.1)).length:=by rw[e]
  rw[AB,AB] at this;rw[AB]
  lia,s⟩
theorem KP.keys{K}(r:KP K H vs kvs):vs.map (·.1)=kvs.map (·.1):=by
 induction r with
 |nil=>rfl
 |cons h _ g=>rw[A5,A5,h.1,g]
theorem GG{U N:Expr}{x:Str}{px:Pos}{Y:List Expr}{J:Scope}{O:TCE}{t:TCT}{c:TCE}(hc:X.calm=true)(hN:(x::X.N).Nodup)(K:∃j,rB X x J j)(hi:CE X N O)(ht:∀j B C D q,CF (mK X x J j B C D q) Y t)(ai:∀j B C D q,CE (mK X x J j B C D q) U c)(hs:∀v,foldedSetIterable N X.env v=pure v:=by intro _;rfl):CE X (.ListComp U [⟨.Name x px,N,Y,0⟩] J pos) (lI O t c) :=
 ⟨JE.weak (je_thaw (pC (te:=zJ X.K (Rep X.K) c) (tc:=zJ X.K pL t) hc hN K (ji_dict hi.h) (fun j B C D q=>(ht j B C D q).h) (fun j B C D q=>(ai j B C D q).h) hs)) fun σ H Q ⟨ρ,C,R,s,h,af,f⟩=>by
  unfold lI at af
  exact⟨ρ,C,_,s,h,af,fun xv H1 px C1 F rx h1 M=>by
   split at F
   .next d =>
    split at F
    .next kvs e =>
     obtain⟨vs,L,r⟩:=h1 d _ e;cases rx;refine⟨d,vs,rfl,L,fun o aj ak hD=>?_⟩;have m:Imm H1 (upd H1 d (.frz o (.dK vs))):=Imm.mut L rfl _;have h2:HRel X.K (upd H1 d (.frz o (.dK vs))) (vQ C1 d (.fK kvs)):=h1.put L rfl ⟨o,vs,bQ,Paired.mapP r fun _ _ z=>⟨z.1,z.2.imm m⟩⟩;have ah:Fw H1 C1 (upd H1 d (.frz o (.dK vs))) (vQ C1 d (.fK kvs)):=Fw.put e _ _
     have ag:∀H' C',Fw (upd H1 d (.frz o (.dK vs))) (vQ C1 d (.fK kvs)) H' C'->H' d=some (.frz o (.dK vs)):=fun H' C' g=>by
      have:=(g d (by rw[jQ];rfl) (by rw[bQ];exact fun z=>nomatch z)).2;rw[this,bQ]
     refine comp_on (Q:=fun v H'=>∃d o kvs,H' d=some (.frz o (.dK kvs))/\NF X d/\Q v (upd H' d (.dK kvs))) (H0:=upd H1 d (.frz o (.dK vs))) (C0:=vQ C1 d (.fK kvs)) (it_dict r.keys) (fun H' C' _ g=>ag H' C' g) ((s.imm (M.imm h)).imm m) h2 F h2 Fw.refl (fun v H' p C' q' r' h' W=>?_) hD;obtain⟨e1,q2⟩:=q';have I:=ag H' C' W;refine⟨d,o,vs,I,aj,?_⟩;have Z:Imm H' (upd H' d (.dK vs)):=Imm.mut I rfl _
     obtain⟨o',ao,S,r3⟩:=h' d _ e1;rw[I] at S;cases S;refine f v _ p _ q2 (r'.imm Z) (h'.put I rfl ⟨vs,bQ,Paired.mapP r3 fun _ _ z=>⟨z.1,z.2.imm Z⟩⟩) ?_;intro a G ab;obtain⟨x1,x2⟩:=(M.trans (ah.trans W)) a G ab
     have ae:a≠d:=fun z=>by
      subst z;obtain⟨y1,y2⟩:=M a G ab;rw[<- y1,e] at G;cases G
     exact⟨(yQ ae).trans x1,(mQ ae).trans x2⟩
    .exact F.elim
   .exact F.elim⟩⟩
end
section
variable {X:Cx}{a b c e o i f:Expr}{es:List Expr}{pos:Pos}{value:Expr}
abbrev relO:Hp->Option Int->Option Int->Prop:=fun _ a b=>a=b
abbrev TCO:=CSt->CH->(Option Int->CH->Prop)->Prop
structure CPt(X:Cx)(e:Option Expr)(c:TCO):Prop where
 h:JO X e (zJ X.K relO c)
theorem JO.weak{e}(h:JO X e t)(w:∀σ H Q,t' σ H Q->t σ H Q):JO X e t':=⟨fun pins s σ H Q I q=>h.h pins s σ H Q I (w σ H Q q)⟩
def cNoPart:TCO:=fun _ C Q=>Q none C
def cPart(g:TCE):TCO:=fun j C Q=>g j C fun t C1=>match t with
 |.int i=>Q (some i) C1
 |_=>False
theorem aK:CPt X none cNoPart:=⟨JO.weak jo_none fun σ H Q ⟨g,C,R,s,h,q,f⟩=>f none H none C q rfl h Fw.refl⟩
theorem eK(h:CE X e j):CPt X (some e) (cPart j):=⟨JO.weak (jo_some h.h) fun σ H Q ⟨F,C,R,s,h,q,f⟩=>⟨F,C,_,s,h,q,fun x H1 G C1 g D h1 B=>by
 split at g
 .cases D;exact⟨_,rfl,f _ H1 _ C1 g rfl h1 B⟩
 .exact g.elim⟩⟩
noncomputable def xZ(xs:List PV)(lo hi:Option Int):List PV:=(xs.drop (HT.sIx xs.length 0 lo)).take (HT.sIx xs.length xs.length hi - HT.sIx xs.length 0 lo)
theorem Reps.cut{K}(r:Reps K H vs ts)lo hi:Reps K H (Vu vs lo hi) (xZ ts lo hi):=by
 delta Vu xZ
 exact r.len▸(r.drop _).take _
@[irreducible] def cSlL:PV->Option Int->Option Int->CH->K1->Prop:=fun x lo hi C Q=>match x with
 |.ref a=>match C a with
  |some (.lst xs)=>∀p,C p=none->Q (.ref p) (vQ C p (.lst (xZ xs lo hi)))
  |_=>False
 |_=>False
def cSl(D:PV->Option Int->Option Int->CH->K1->Prop)(q:TCE)(B ch:TCO):TCE:=fun g C Q=>q g C fun x C1=>B g C1 fun l C2=>ch g C2 fun u j=>D x l u j Q
theorem xG{lo}(S:CE X e J)(U:CPt X lo L)(W:CPt X hi ch):CE X (.Subscript e (.Slice lo hi none p2) pos) (cSl cSlL J L ch):=⟨JE.weak (Q7 sl_list S.h U.h W.h) fun σ H Q ⟨G,C,R,s,h,q,f⟩ =>
 ⟨G,C,_,s,h,q,fun x H1 px C1 Y rx h1 B=>⟨G,C1,_,s.imm (B.imm h),h1,Y,fun l H2 l' C2 Z M h2 D=>⟨G,C2,_,(s.imm (B.imm h)).imm (D.imm h1),h2,Z,fun u H3 u' C3 g N F I=>by
  cases M;cases N
  delta cSlL at g
  split at g
  .split at g
   .next xs e =>
    refine oQ (F _ _ e) fun vs O r=>?_;have ab:=rx.imm ((D.trans I).imm h1);cases ab;exact⟨_,vs,rfl,SqL.of O,fun p j=>f _ _ _ _ (g p (F.fresh j)) (.ref p) (F.lay j ⟨_,bQ,(r.cut l u).imm (Imm.new j _)⟩) (B.trans (D.trans (I.trans (Fw.lay j _ _))))⟩
   .exact g.elim
  .exact g.elim⟩⟩⟩⟩
theorem cs_setC{i:Nat}{y x:Str}{S I pos U:Pos}{J G:Expr}{L:List Expr}{F:Scope}{wi:TI}{M:CSt->CH->(List PV->CH->Prop)->Prop}{t:TCT}{c:TCE}(Y:X.N.Nodup)(hi:X.N[i]?=some y)(hy:Loc X.env.scope y)(Z:X.calm=true)(W:(x::X.N).Nodup)(K:∃g,rB X x F g)(O:CI X (.Name x I) G wi M)(ht:∀g q C B j,CF (mK X x F g q C B j) L t)(ab:∀g q C B j,CE (mK X x F g q C B j) J c)(hs:∀v,foldedSetIterable G X.env v=pure v:=by intro _;rfl)(af:swapsWith (.ListComp J [⟨.Name x I,G,L,0⟩] F pos) (some (.Name y S)) U.line X.env=pure true:=by rfl)(ae:X.fn y=true\/X.env.scope.names.lookup y=some .local:=by first | exact .inl rfl | exact .inr rfl | assumption):
  CS X (.Assign [.Name y S] (.ListComp J [⟨.Name x I,G,L,0⟩] F pos) U) (GL i (GR M t c)):=by
 obtain⟨g,K⟩:=K;refine⟨JS.weak (js_setC (te:=zJ X.K (Rep X.K) c) (tc:=zJ X.K pL t) Y hi hy Z W K O.j (fun q C B j=>(ht g q C B j).h) (fun q C B j=>(ab g q C B j).h) hs af ae) fun D σ H ⟨ρ,C,E,s,h,ag,f⟩=>?_⟩;exact mO (Q:=fun x H'=>D.nx (σ.set i (some x)) H') O ⟨ρ,C,_,s,h,ag,fun x H1 I C1 q1 rx h1 N=>f.nx _ H1 _ C1 q1 ((s.imm (N.imm h)).set rx i) h1 N⟩
theorem Yb k(σ:St):NoAt k (σ.set k none):=fun v e=>by
 rw[List.getElem?_set_self'] at e
 cases g:σ[k]? with
 |none=>rw[g] at e;cases e
 |some x=>rw[g] at e;cases e
theorem SRel.unset{K}(s:SRel K H σ j)k:SRel K H (σ.set k none) (j.set k none):=by
 induction s generalizing k with
 |nil=>exact .nil
 |cons h' r g =>
  cases k with
  |zero=>exact .cons trivial r
  |succ k=>exact .cons h' (g k)
def cRetAt(k:Nat)(g:TCE):TCS:=fun E j C=>g (j.set k none) C E.rt
theorem Gp k(B:CE (X.at_ k) e g):CS X (.Return (some e) pos) (cRetAt k g):=⟨JS.weak (js_fg k (Yv (je_drop k B.h))) fun D σ H ⟨J,C,E,s,h,q,f⟩ =>
 ⟨Yb k σ,J.set k none,C,_,s.unset k,h,q,fun x H1 F C1 G I h1 j=>f.rt x H1 F C1 G I h1 j⟩⟩
def gU(S:CH->Prop)(t:TCT)(c:TCE)(g:CSt)(Q:K1):List PV->List PV->CH->Prop
 |[],acc,C=>S C/\∀p,C p=none->Q (.ref p) (vQ C p (.lst acc))
 |x::r,acc,C=>S C/\t (some x::g) C fun b C1=>if b=true then c (some x::g) C1 fun y C2=>acc.length < sizeLine/\gU S t c g Q r (acc++[y]) C2 else gU S t c g Q r acc C1
structure ItS(K:Dj)(S:CH->Prop)(J:It)(ps:List PV):Prop where
 go:∀i H' C',i < ps.length->HRel K H' C'->S C'->J.go i H'
 yl:∀i H' C' x H'',HRel K H' C'->S C'->J.yld i H' x H''->H''=H'/\∀t,ps[i]?=some t->Rep K H' x t
 st:∀H' C',HRel K H' C'->S C'->J.stop ps.length H'
theorem comp_S{K}{c}{Q:VK}(ae:ItS K S J ps)(s:SRel K H σ Z)(h:HRel K H C)(ai:gU S t c Z R ps [] C)(h0:HRel K H0 C0)(ah:Fw H0 C0 H C)(f:∀v H' p C',R p C'->Rep K H' v p->HRel K H' C'->Fw H0 C0 H' C'->Q v H')(q:H D=none):
  ∃W:Nat->Nat->List V->Hp->Prop,(∃m,W 0 m [] (upd H D (.lst [])))/\∀i m ys H,W i m ys H ->
   (J.stop i H/\Q (.ref D) H)\/(J.go i H/\∀x H',J.yld i H x H'->zJ K pL t (some x::σ) H' fun b H2=>
    if b=true then zJ K (Rep K) c (some x::σ) H2 fun y H3=>H3 D=some (.lst ys)/\ys.length < sizeLine/\∃F,F < m/\W (i+1) F (ys++[y]) (upd H3 D (.lst (ys++[y])))
    else ∃F,F < m/\W (i+1) F ys H2):=by
 refine⟨fun i m ys H'=>m=ps.length - i/\i<=ps.length/\∃acc C',H' D=some (.lst ys)/\C' D=none/\Reps K H' ys acc/\HRel K H' C'/\Fw H C H' C'/\gU S t c Z R (ps.drop i) acc C',
  ⟨ps.length,rfl,Ab _,[],C,bQ,h.fresh q,.nil,h.new q _,Fw.new q _,ai⟩,?_⟩
 rintro i m ys H1 ⟨rfl,hi,acc,C1,e1,n1,O,h1,G,j⟩;have k1:=G.imm h
 have q0:S C1:=by
  cases z:ps.drop i with
  |nil=>rw[z] at j;exact j.1
  |cons x r=>rw[z] at j;exact j.1
 by_cases B:i < ps.length
 .refine .inr ⟨ae.go i H1 C1 B h1 q0,fun x H2 y=>?_⟩
  obtain⟨rfl,y⟩:=ae.yl i H1 C1 x H2 h1 q0 y;have rx:=y _ (AK B);rw[Al B] at j
  replace j:=j.2
  refine⟨some ps[i]::Z,C1,_,.cons rx (s.imm k1),h1,j,fun b H3 b' C3 q3 e h3 I=>?_⟩;cases e;obtain⟨M,e3⟩:=I D (by rw[n1];rfl) (by lia);rw[e1] at e3;rw[n1] at M;have L:=I.imm h1
  cases b with
  |true =>
   refine⟨some ps[i]::Z,C3,_,.cons (rx.imm L) ((s.imm k1).imm L),h3,q3,fun v H4 p C4 q4 r4 h4 ab=>jT (ab D (by rw[M];rfl) (by lia)) fun n4 e4=>?_⟩;rw[e3] at e4;rw[M] at n4;have m4:Imm H4 (upd H4 D (.lst (ys++[v]))):=Imm.mut e4 rfl _;refine⟨e4,by rw[O.len];exact q4.1,ps.length - (i+1),by lia,rfl,B,acc++[p],C4,bQ,n4,?_,?_,?_,q4.2⟩
   .exact (((O.imm L).imm (ab.imm h3)).append (.cons r4 .nil)).imm m4
   .intro a o g
    have af:a≠D:=fun z=>by subst z;rw[n4] at g;cases g
    exact(h4 a o g).imm m4 (mQ af)
   .intro a g N
    have af:a≠D:=fun z=>N (z▸q);exact jT ((G.trans (I.trans ab)) a g N) fun U Y=>⟨U,(mQ af).trans Y⟩
  |false =>
   exact⟨ps.length - (i+1),by lia,rfl,B,acc,C3,e3,M,O.imm L,h3,G.trans I,q3⟩
 .have e:i=ps.length:=by lia
  subst e;rw[BY] at j
  replace j:=j.2
  refine .inl ⟨ae.st H1 C1 h1 q0,f (.ref D) H1 (.ref D) _ (j D n1) (.ref D) ?_ ?_⟩
  .intro a o g
   by_cases z:a=D
   .subst z;rw[jQ] at g;cases g;exact⟨ys,e1,O⟩
   .rw [yQ z] at g;exact h1 a o g
  .intro a g N
   obtain⟨U,Y⟩:=ah a g N;have ag:H a≠none:=by rwa [Y]
   obtain⟨y1,y2⟩:=G a (by rwa [U]) ag;exact⟨(yQ (show a≠D from fun z=>ag (z▸q))).trans (y1.trans U),y2.trans Y⟩
theorem it_lst{K}{a}: ItS K (fun C=>C a=some (.lst xs)) (Itl K a) xs where
 go:=fun i H' C' l h s=>by
  refine oQ (h a _ s) fun vs e r=>oQ (r.get (AK l)) fun v g _=>?_;exact⟨vs,v,SqL.of e,g⟩
 yl:=fun i H' C' x B h s y=>⟨y.1,fun t j=>by
  refine oQ (h a _ s) fun vs e r=>oQ (r.get j) fun v g q=>?_;have:=y.2 vs (SqL.of e)
  rw[g] at this;cases this;exact q⟩
 st:=fun H' C' h s=>oQ (h a _ s) fun vs e r=>⟨vs,SqL.of e,by exact r.len▸AJ _⟩
@[irreducible] def uP(j:TCE)(t:TCT)(c:TCE):TCE:=fun g C Q=>j g C fun x C1=>match x with
 |.ref a=>match C1 a with
  |some (.lst xs)=>gU (fun C=>C a=some (.lst xs)) t c g Q xs [] C1
  |_=>False
 |_=>False
theorem sG{L I:Expr}{x:Str}{O:Pos}{N:List Expr}{G:Scope}{J:TCE}{t:TCT}{c:TCE}(Y:X.calm=true)(W:(x::X.N).Nodup)(K:∃g,rB X x G g)(hi:CE X I J)(ht:∀g B C D j,CF (mK X x G g B C D j) N t)(Z:∀g B C D j,CE (mK X x G g B C D j) L c)(hs:∀v,foldedSetIterable I X.env v=pure v:=by intro _;rfl):CE X (.ListComp L [⟨.Name x O,I,N,0⟩] G pos) (uP J t c) :=
 ⟨JE.weak (pC (te:=zJ X.K (Rep X.K) c) (tc:=zJ X.K pL t) Y W K (JP hi.h) (fun g B C D j=>(ht g B C D j).h) (fun g B C D j=>(Z g B C D j).h) hs) fun σ H Q ⟨ρ,C,R,s,h,q,f⟩=>by
  unfold uP at q
  exact⟨ρ,C,_,s,h,q,fun xv H1 O C1 F rx h1 M=>by
   split at F
   .next a =>
    split at F
    .next xs e =>
     obtain⟨vs,S,r⟩:=h1 a _ e;cases rx;exact⟨a,rfl,⟨vs,SqL.of S⟩,fun ab U=>comp_S (Q:=Q) it_lst (s.imm (M.imm h)) h1 F h M f U⟩
    .exact F.elim
   .exact F.elim⟩⟩
end
section
variable {C:CH}{a p:Addr}{xs ys:List PV}{i:Int}{v:PV}{Q:K1}
theorem cJ(h:C a=some (.lst xs))(e:atI xs i=some v)(q:Q v C):cIx (.ref a) (.int i) C Q:=by
 delta cIx
 show(match C a with | some (.lst xs)=>cAt xs i C Q | _=>False);rw[h];show cAt xs i C Q
 delta cAt
 rwa [e]
theorem ix_f(e:atI xs i=some v)(q:Q v C):cIx (.fz xs) (.int i) C Q:=by
 delta cIx
 show cAt xs i C Q
 delta cAt
 rwa [e]
theorem mX(e:atI xs i=some v)(q:Q v C):cIx (.tup xs) (.int i) C Q:=by
 delta cIx
 show cAt xs i C Q
 delta cAt
 rwa [e]
theorem setL{Q}(h:C p=some (.lst xs))(e:ixN xs.length k=some j)(q:Q (vQ C p (.lst (xs.set j v)))):Km (.ref p) (.int k) v C Q:=by
 delta Km
 dsimp only;rw[h];dsimp only
 rwa [e]
theorem zB(h:C a=some (.lst xs))(q:Q (.int xs.length) C):iR [.ref a] C Q:=by
 delta iR
 show(match C a with | some (.lst xs)=>Q (.int xs.length) C | some (.dK kvs)=>Q (.int kvs.length) C | _=>False)
 rwa [h]
theorem Ym(q:Q (.int xs.length) C):iR [.fz xs] C Q:=by
 delta iR
 exact q
theorem qB(q:Q (.int xs.length) C):iR [.tup xs] C Q:=by
 delta iR
 exact q
theorem vL(h:C a=some (.lst xs))(z:xs.length < sizeLine)(q:Q .non (vQ C a (.lst (xs++[v])))):bU (.ref a) [v] C Q :=by simp_all[bU]
theorem pW(h:C a=some (.lst xs)):isL (.ref a) C:=by
 show(match C a with | some (.lst _)=>True | _=>False);rw[h]
 trivial
end
theorem i_i(q:Q (g i j) C):cI g (.int i) (.int j) C Q:=by
 delta cI
 exact q
theorem aY(q:Q (.int (i+j)) C):sI (.int i) (.int j) C Q:=by
 delta sI
 exact q
theorem qH(h:xs.length+ys.length<=sizeLine)(q:Q (.tup (xs++ys)) C):sI (.tup xs) (.tup ys) C Q:=by
 delta sI
 exact⟨h,q⟩
theorem if_b{q:Prop}(h1:b=true->p)(h2:b=false->q):if b=true then p else q :=by grind
theorem Vm{q:Prop}(e:b=true)(h:p):if b=true then p else q:=by rwa [Ac e]
theorem rM{q:Prop}(e:b=false)(h:q):if b=true then p else q :=by grind
theorem nZ{p q:CH->Prop}(e:b=true)(h:p C):oS (fun b C1=>if b=true then p C1 else q C1) (.bl b) C:=by cases e;exact h
theorem wZ{p q:CH->Prop}(e:b=false)(h:q C):oS (fun b C1=>if b=true then p C1 else q C1) (.bl b) C:=by cases e;exact h
theorem gZ{p q:CH->Prop}(h1:b=true->p C)(h2:b=false->q C):oS (fun b C1=>if b=true then p C1 else q C1) (.bl b) C:=by
 cases b with
 |true=>exact h1 rfl
 |false=>exact h2 rfl
theorem wF{p q:CH->Prop}(h:q C):oS (fun b C1=>if (!b)=true then p C1 else q C1) (.bl true) C :=h
theorem gX(e:sEq x y=some b)(q:Q (.bl (k b)) C):cEq k x y C Q :=by simp_all[cEq]
theorem lQ x y:sEq (.str x) (.str y)=some (decide (x=y)):=rfl
theorem rX x y:sEq (.int x) (.int y)=some (decide (x=y)):=rfl
theorem vP(h:t (some x::g) C fun b C1=>if b=true then c (some x::g) C1 fun y C2=>acc.length < sizeLine/\rZ t c g Q r (acc++[y]) C2 else rZ t c g Q r acc C1):rZ t c g Q (x::r) acc C:=h
theorem fR(h:∀p,C p=none->Q (.ref p) (vQ C p (.lst acc))):rZ t c g Q [] acc C:=h
theorem iX(g:aF n=some T)(j:tyP C x=some k)(q:Q (.bl (Zy k T)) C):cIsi [x,.ty n] C Q:=by
 delta cIsi
 show(match aF n,tyP C x with | some T,some k=>Q (.bl (Zy k T)) C | _,_=>False)
 rwa [g,j]
theorem iM(h1:C a=some (.lst xs))(h2:C b=some (.lst ys))(z:xs.length+ys.length<=sizeLine)(q:∀p,C p=none->Q (.ref p) (vQ C p (.lst (xs++ys)))):sI (.ref a) (.ref b) C Q:=by
 delta sI
 show(match C a,C b with | some (.lst xs),some (.lst ys)=>xs.length+ys.length<=sizeLine/\∀p,C p=none->Q (.ref p) (vQ C p (.lst (xs++ys))) | _,_=>False);exact h1▸h2▸⟨z,q⟩
theorem cK(m:C p=some (.lst xs))(q:Q (.tup xs) C):yP [.ref p] C Q:=by
 delta yP
 show(match C p with | some (.lst xs)=>Q (.tup xs) C | _=>False)
 rwa [m]
def Gr(C C':CH):Prop:=∀b o,C b=some o->C' b=some o
theorem Gr.refl: Gr C C:=fun _ _ h=>h
theorem Gr.trans(h:Gr C C1)(h':Gr C1 C2):Gr C C2:=fun b o e=>h' b o (h b o e)
theorem Gr.new(g:C p=none)o:Gr C (vQ C p o):=fun b u e=>by
 rw[yQ (fun z=>by subst z;rw[g] at e;cases e)];exact e
theorem xX(h:E.nx g C):cNext E g C:=h
theorem uQ(h:j g C fun v C1=>u E (g.set i (some v)) C1):uT (GL i j) u E g C:=h
theorem kZ(h:t { E with nx:=u E } g C):uT t u E g C:=h
theorem c_i(h:Q v C):cC v g C Q:=h
theorem iQ(P:CSt->CH->Prop)(h1:∀K:CSt->CH->Prop,(∀g C',P g C'->K g C')->t { E with nx:=K } j C)(h2:∀g C',P g C'->u E g C'):uT t u E j C:=h1 _ h2
section
variable {X:Cx}{o e value i f:Expr}{es:List Expr}{pos pos':Pos}
noncomputable def QE(f:Str)(v:PV):List (Str×PV)->List (Str×PV)
 |[]=>[(f,v)]
 | (g,x)::r=>if g=f then (g,v)::r else (g,x)::QE f v r
theorem FP.put{K}{f}(h:Rep K H v t):∀{j}{fs},FP K H j fs->FP K H (dU f v j) (QE f t fs):=by
 intro j fs r
 induction r with
 |nil=>exact .cons ⟨rfl,h⟩ .nil
 |@cons p q D F h' r B =>
  obtain⟨g,x⟩:=p;obtain⟨g',y⟩:=q;obtain⟨rfl,h2⟩:=h';unfold dU QE
  by_cases e:g=f
  .rw [Ac e,Ac e];exact .cons ⟨rfl,h⟩ r
  .rw [Ad e,Ad e];exact .cons ⟨rfl,h2⟩ B
theorem FP.look{K}{f}:∀{j}{fs:List (Str×PV)},FP K H j fs->(∃v t,j.lookup f=some v/\fs.lookup f=some t/\Rep K H v t)\/(j.lookup f=none/\fs.lookup f=none):=by
 intro j fs r
 induction r with
 |nil=>exact .inr ⟨rfl,rfl⟩
 |@cons p q D F h' r B =>
  obtain⟨g,x⟩:=p;obtain⟨g',y⟩:=q;obtain⟨rfl,h2⟩:=h';unfold List.lookup
  cases e:(f==g) with
  |true=>exact .inl ⟨x,y,rfl,rfl,h2⟩
  |false=>exact B
@[irreducible] def Z0(c:Addr)(f:Str):PV->CH->K1->Prop:=fun x C Q=>match x with
 |.ref p=>match C p with
  |some (.ins g _ fs)=>g=c/\match fs.lookup f with
   |some v=>Q v C
   |none=>False
  |_=>False
 |_=>False
theorem dF{f}(U:Cls X.K c)(W:NoAttr X.K c f)(Y:CE X o I)(S:attributeBase o f X.env (eval o X.env)=eval o X.env:=by rfl):CE X (.Attribute o f pos) (fun B C Q=>I B C fun x C1=>Z0 c f x C1 Q) :=
 ⟨JE.weak ⟨pe_fld Y.h.h S⟩ fun σ H Q ⟨B,C,R,s,h,q,M⟩=>⟨B,C,_,s,h,q,fun x H1 px C1 g rx h1 N=>by
  delta Z0 at g
  split at g
  .next p =>
   split at g
   .next G dx fs J =>
    obtain⟨rfl,g⟩:=g
    split at g
    .next t D =>
     refine oQ (h1 p _ J) fun O L r=>?_;cases rx
     rcases FP.look r with ⟨v,t',F,j,Z⟩ | ⟨F,j⟩
     .rw [D] at j
      cases j;exact⟨p,G,dx,O,v,rfl,L,U,W,F,M v H1 t C1 g Z h1 N⟩
     .rw [D] at j;cases j
    .exact g.elim
   .exact g.elim
  .exact g.elim⟩⟩
@[irreducible] def Kp(c:Addr)(f:Str):PV->PV->CH->(CH->Prop)->Prop:=fun x v C Q=>match x with
 |.ref p=>match C p with
  |some (.ins g dx fs)=>g=c/\fs.length < 1000/\Q (vQ C p (.ins g dx (QE f v fs)))
  |_=>False
 |_=>False
theorem ZN{f}{I}(S:Cls X.K c)(U:NoAttr X.K c f)(W:CE X o N)(Y:CE X value I)(hs:swapsWith value (some (.Attribute o f pos')) pos.line X.env=pure false:=by rfl):
  CS X (.Assign [.Attribute o f pos'] value pos) (fun E j C=>I j C fun v C1=>N j C1 fun x C2=>Kp c f x v C2 fun M=>E.nx j M):=⟨JS.weak ⟨ps_fld W.h.h Y.h.h hs⟩ fun ae σ H ⟨j,C,E,s,h,q,O⟩ =>
 ⟨j,C,_,s,h,q,fun v H1 af C1 Z rv h1 D=>⟨j,C1,_,s.imm (D.imm h),h1,Z,fun x H2 px C2 g rx h2 F=>by
  have ab:=rv.imm (F.imm h1)
  delta Kp at g
  split at g
  .next p =>
   split at g
   .next G dx fs J =>
    obtain⟨rfl,ql,g⟩:=g;refine oQ (h2 p _ J) fun L B r=>?_;cases rx;have m:Imm H2 (upd H2 p (.ins G dx (dU f v L))):=Imm.mut B rfl _;exact⟨p,G,dx,L,rfl,B,S,U,by exact(Paired.length r)▸ql,O.nx σ _ j _ g (((s.imm (D.imm h)).imm (F.imm h1)).imm m) (h2.put B rfl ⟨_,bQ,Paired.mapP (FP.put ab r) fun _ _ z=>⟨z.1,z.2.imm m⟩⟩) (D.trans (F.trans (Fw.put J _ _)))⟩
   .exact g.elim
  .exact g.elim⟩⟩⟩
def rO(c:Addr)(m:Str)(x:PV)(C:CH):Prop:=match x with
 |.ref p=>match C p with
  |some (.ins g _ fs)=>g=c/\fs.lookup m=none
  |_=>False
 |_=>False
theorem Xb{K}(d:rO c m t C)(r:Rep K H x t)(h:HRel K H C):∃a dx g,x=.ref a/\t=.ref a/\H a=some (.ins c dx g)/\g.lookup m=none:=by
 delta rO at d
 split at d
 .split at d
  .next e =>
   obtain⟨rfl,d⟩:=d;obtain⟨g,B,D⟩:=(h _ _ e);cases r;refine⟨_,_,g,rfl,rfl,B,?_⟩
   rcases FP.look D with ⟨v,t',j,q,_⟩ | ⟨j,q⟩
   .rw [q] at d;cases d
   .exact j
  .exact d.elim
 .exact d.elim
def cMeth(c:Addr)(m:Str)(G:GC)(q:TCE)(j:TCA):TCE:=fun g C Q=>q g C fun x C1=>rO c m x C1/\j g C1 fun xs C2=>G (x::xs) C2 Q
theorem ce_meth{apos}{pl}(W:Cls X.K c)(Y:GX X.K c m N)(F:FnOk X.prog X.w X.K X.mg X.base CX k N fd ps (spC X.K G))(hr:Room k X.A)(U:Binds X.K fd ps [])(hx:aV CX X E)(Z:CE X o I)(S:CA X (e::es) D)(ae:starEach (e::es) X.env=(false,eval e X.env)::starEach es X.env:=by rfl)(ab:(backTo pos (starEach es X.env)).any (·.1)=false:=by rfl)(ht:eval (.Call (.Attribute o m apos) (e::es) [] pos) X.env=(do
   let j <- eval o X.env
   standAt apos.atName
   let (f,first) <- holding [j] (getMethod j m pl)
   callWith pos f first (backTo pos (starEach (e::es) X.env)) (backToKw pos (keywordEach [] X.env))):=by rfl):
  CE X (.Call (.Attribute o m apos) (e::es) [] pos) (cMeth c m G I D) :=
 ⟨JE.weak ⟨pe_meth Z.h.h W Y F hr U .nil hx S.h.h ae ab ht⟩ fun σ H Q ⟨B,C,R,s,h,af,f⟩=>⟨B,C,_,s,h,af,fun x H1 px C1 q rx h1 g=>by
  obtain⟨a,dx,O,rfl,rfl,J,lk⟩:=Xb q.1 rx h1
  exact⟨a,dx,O,rfl,J,lk,B,C1,_,s.imm (g.imm h),h1,q.2,fun xs H2 ts C2 q2 rs h2 M=>⟨.ref a::ts,C2,R,.cons (.ref a) (by grind),h2,q2,fun v H' t C' q' r' h' L=>f v H' t C' q' r' h' (g.trans (M.trans L))⟩⟩⟩⟩
def cMake(c:Addr)(G:GC)(g:TCA):TCE:=fun j C Q=>g j C fun xs C1=>∀x dx,C1 x=none->C1 dx=none->dx≠x->G (.ref x::xs) (vQ C1 x (.ins c dx [])) fun v C2=>v=.non/\Q (.ref x) C2
theorem Kh{p}(M:Mk X.K c L)(F:FnOk X.prog X.w X.K X.mg X.base CX k L fd ps (spC X.K G))(Z:Room (k+1) X.A)(U:Gl X x)(W:X.mg x=some (.ref c))(O:Binds X.K fd ps [])(hx:aV CX X E)(N:CA X (e::es) D)(S:(x==("__debug__" : Str))=false:=by decide)(ab:starEach (e::es) X.env=(false,eval e X.env)::starEach es X.env:=by rfl)(Y:(backTo pos (starEach es X.env)).any (·.1)=false:=by rfl):CE X (.Call (.Name x p) (e::es) [] pos) (cMake c G D) :=
 ⟨JE.weak ⟨pe_make M F Z U W O .nil hx N.h.h S ab Y⟩ fun σ H Q ⟨ρ,C,R,s,h,ae,f⟩=>⟨ρ,C,_,s,h,ae,fun xs H1 ts C1 q1 rs h1 J=>fun y dx hy g B=>by
  have j:upd H1 dx (.own y) y=none:=by rwa [mQ (Ne.symm B)]
  have k2:Imm (upd H1 dx (.own y)) (upd (upd H1 dx (.own y)) y (.ins c dx [])):=Imm.new j _;refine⟨.ref y::ts,vQ C1 y (.ins c dx []),_,.cons (.ref y) (by rw[Aj];exact(rs.imm (Imm.new g _)).imm k2),(h1.new g (.own y)).lay j ⟨[],bQ,.nil⟩,q1 y dx (h1.fresh hy) (h1.fresh g) B,fun v H' t C' q r' h' I=>?_⟩;obtain⟨rfl,q⟩:=q;cases r'
  exact⟨rfl,f _ H' _ C' q (.ref y) h' (J.trans (((Fw.new g _).trans (Fw.lay j _ _)).trans I))⟩⟩⟩
end
end CL
namespace L2
open PySem PySem.Spec PyProof.Rows PySem.W
section
variable {X:Cx}
theorem ZW:CallR X (.type "dict") (fun xs H Q=>∃a kvs,xs=[.ref a]/\H a=some (.dK kvs)/\∀p,H p=none->Q (.ref p) (upd H p (.dK kvs))):=by
 intro pins s σ H xs G Q I r h;obtain⟨a,kvs,rfl,B,q⟩:=h;obtain⟨u,rfl,rfl⟩:=r.one;obtain⟨z,D,vs,g,j⟩:=yR I.hok B;refine kt_call_dict D j (by rwa [<- g.length]) fun h' F hs=>?_;refine⟨.ref s.heap.objs.size,_,I.laid (t':=s.toks) (fun b o e=>hs.extBut b o (AZ (AI e)) (AC _ e)) (AJ _) ?_,rfl,q _ (I.hok.fresh (AJ _))⟩;exact⟨z,Ck (Aq I.big),vs,g,F⟩
end
end L2
namespace CL
open PySem PySem.Spec L2 PySem.W
open PyProof.Rows hiding St
noncomputable def bF:List PV->Option (List Key)
 |[]=>some []
 |t::r=>match pV t,bF r with
  |some k,some g=>some (k::g)
  |_,_=>none
def zF:PV->Option (List Key)
 |.tup ts=>bF ts
 |_=>none
theorem Zr{K}(r:Reps K H vs ts)(e:bF ts=some g):vs=g.map kV:=by
 induction ts generalizing vs g with
 |nil=>cases r;cases e;rfl
 |cons t ts B =>
  cases r with
  |cons h r =>
   unfold bF at e
   split at e
   .next k D j q=>cases e;rw[pG h j,B r q];rfl
   .cases e
theorem lU{K}(r:Rep K H v t)(e:zF t=some g):∃b,v=.ref b/\H b=some (.tup (g.map kV)):=by
 cases r<;>try (cases e)
 next a vs ts h r=>exact⟨a,rfl,by rw[h,Zr r e]⟩
section
variable {κ:Type}[DecidableEq κ]
noncomputable def pK(kvs:List (κ×PV))(k:κ):Option PV:=(kvs.find? fun g=>decide (g.1=k)).map (·.2)
noncomputable def putG(kvs:List (κ×PV))(k:κ)(v:PV):List (κ×PV):=if (kvs.any fun g=>decide (g.1=k))=true then kvs.map fun g=>if g.1=k then (g.1,v) else g else kvs++[(k,v)]
noncomputable def mergeG(kvs j:List (κ×PV)):List (κ×PV):=j.foldl (fun acc g=>putG acc g.1 g.2) kvs
theorem FP.val{K}(r:FP K H vs kvs)(k:κ):(∃v t,pY vs k=some v/\pK kvs k=some t/\Rep K H v t)\/(pY vs k=none/\pK kvs k=none):=by
 induction r with
 |nil=>exact .inr ⟨rfl,rfl⟩
 |@cons p q j B h r g =>
  delta pY pK
  rw[A0,A0,h.1]
  by_cases e:q.1=k
  .simp_all
  .rwa [AR e]
theorem FP.anyG{K}(r:FP K H vs kvs)(k:κ):(vs.any fun g=>decide (g.1=k))=(kvs.any fun g=>decide (g.1=k)):=by
 induction r with
 |nil=>rfl
 |@cons p q B D h r j=>rw[BA,BA,h.1,j]
theorem FP.putG{K}(r:FP K H vs kvs)(k:κ)(h:Rep K H v t):FP K H (qV vs k v) (CL.putG kvs k t):=by
 delta qV CL.putG
 rw[FP.anyG r k]
 have B:FP K H (vs.map fun g=>if g.1=k then (g.1,v) else g) (kvs.map fun g=>if g.1=k then (g.1,t) else g):=by
  induction r with
  |nil=>exact .nil
  |@cons p q D F h' r j =>
   refine .cons ?_ j
   by_cases e:q.1=k
   .lia
   .lia
 split
 .exact B
 .exact Paired.snoc r ⟨rfl,h⟩
end
section
variable {X:Cx}{a b c e o i f value:Expr}{es:List Expr}{pos pos':Pos}
def cTNew:TCE:=fun _ C Q=>∀p,C p=none->Q (.ref p) (vQ C p (.dT []))
theorem kI:CE X (.Dict [] [] pos) cTNew:=⟨JE.weak Yy fun σ H Q ⟨j,C,R,s,h,q,f⟩=>fun p g=>f (.ref p) _ (.ref p) _ (q p (h.fresh g)) (.ref p) (h.lay g ⟨[],bQ,.nil⟩) (Fw.lay g _ _)⟩
@[irreducible] def cTIx:R2C:=fun x y C Q=>match x with
 |.ref a=>match C a,zF y with
  |some (.dT kvs),some k=>match pK kvs k with
   |some v=>Q v C
   |none=>False
  |_,_=>False
 |_=>False
theorem ce_tix(U:X.A.units+1 < cLine)(S:CE X o J)(hi:CE X i I)(hs:Z8 i):CE X (.Subscript o i pos) (cOp cTIx J I):=⟨JE.weak (JQ U S.h hi.h hs) fun σ H Q ⟨G,C,R,s,h,q,f⟩ =>
 ⟨G,C,_,s,h,q,fun x H1 px C1 Y rx h1 D=>⟨G,C1,_,s.imm (D.imm h),h1,Y,fun y H2 ae C2 g ry h2 F=>by
  delta cTIx at g
  split at g
  .next a =>
   split at g
   .next kvs k L M =>
    split at g
    .next t B =>
     have ab:=rx.imm (F.imm h1);cases ab;refine oQ (h2 a _ L) fun vs O r=>?_;obtain⟨b,rfl,N⟩:=lU ry M
     rcases FP.val r k with ⟨v,t',W,j,Z⟩ | ⟨_,j⟩
     .rw [B] at j
      cases j;exact⟨a,v,rfl,by exact W▸DGet.t O N,f v H2 t C2 g Z h2 (D.trans F)⟩
     .rw [B] at j;cases j
    .exact g.elim
   .exact g.elim
  .exact g.elim⟩⟩⟩
def YF(x:PV)(C:CH):Prop:=match x with
 |.ref a=>match C a with
  |some (.dT _)=>True
  |_=>False
 |_=>False
theorem isTd_of{K}(d:YF t C)(r:Rep K H x t)(h:HRel K H C):∃a kvs,x=.ref a/\t=.ref a/\H a=some (.dT kvs):=by
 delta YF at d
 split at d
 .split at d
  .next e=>obtain⟨vs,g,_⟩:=(h _ _ e);cases r;exact⟨_,vs,rfl,rfl,g⟩
  .exact d.elim
 .exact d.elim
@[irreducible] def Kl:PV->PV->PV->CH->K1->Prop:=fun x y z C Q=>match x with
 |.ref a=>match C a,zF y with
  |some (.dT kvs),some k=>Q ((pK kvs k).getD z) C
  |_,_=>False
 |_=>False
def cTGet2(B q D:TCE):TCE:=fun g C Q=>B g C fun x C1=>YF x C1/\q g C1 fun y C2=>D g C2 fun z j=>Kl x y z j Q
theorem Xz{apos cpos}(hu:X.A.units+1 < cLine)(ho:CE X o U)(ab:CE X e S)(ae:CE X f W)(hb:attributeBase o "get" X.env (eval o X.env)=eval o X.env:=by rfl)(hl:(apos.endLine==cpos.line)=true:=by rfl)(h1:sQ e=true:=by rfl)(h2:sQ f=true:=by rfl):CE X (.Call (.Attribute o "get" apos) [e,f] [] cpos) (cTGet2 U S W):=⟨JE.weak (Q8 hu ho.h ab.h ae.h hb hl h1 h2) fun σ H Q ⟨I,C,R,s,h,af,f⟩ =>
 ⟨I,C,_,s,h,af,fun x H1 px C1 O rx h1 j=>by
  obtain⟨a,kvs,rfl,rfl,e1⟩:=isTd_of O.1 rx h1;refine⟨a,rfl,.inr ⟨kvs,.inl e1⟩,I,C1,_,s.imm (j.imm h),h1,O.2,fun y H2 ah C2 q2 ry h2 q=>⟨I,C2,_,(s.imm (j.imm h)).imm (q.imm h1),h2,q2,fun z L pz J g rz D B=>?_⟩⟩;unfold Kl at g;dsimp only at g
  split at g
  .next ag k Y Z =>
   refine oQ (D a _ Y) fun vs N r=>?_;obtain⟨b,rfl,M⟩:=lU (ry.imm (B.imm h2)) Z
   rcases FP.val r k with ⟨v,t',F,G,rv⟩ | ⟨F,G⟩
   .rw [G] at g
    exact⟨some v,by exact F▸DGet.t N M,f v L t' J g rv D (j.trans (q.trans B))⟩
   .rw [G] at g
    exact⟨none,by exact F▸DGet.t N M,f z L pz J g rz D (j.trans (q.trans B))⟩
  .exact g.elim⟩⟩
@[irreducible] def Kn:PV->PV->PV->CH->(CH->Prop)->Prop:=fun x y v C Q=>match x with
 |.ref a=>match C a,zF y with
  |some (.dT kvs),some k=>kvs.length < sizeLine/\Q (vQ C a (.dT (putG kvs k v)))
  |_,_=>False
 |_=>False
def cTPut(D B F:TCE):TCS:=fun E g C=>F g C fun v C1=>D g C1 fun x C2=>B g C2 fun y j=>Kn x y v j fun q=>E.nx g q
theorem iA{J L}(Y:X.A.units+1 < cLine)(W:CE X o O)(hi:CE X i J)(Z:CE X value L)(hs:swapsWith value (some (.Subscript o i pos')) pos.line X.env=pure false:=by rfl):
  CS X (.Assign [.Subscript o i pos'] value pos) (cTPut O J L):=⟨JS.weak (JN Y W.h hi.h Z.h hs) fun af σ H ⟨F,C,E,s,h,q,f⟩ =>
 ⟨F,C,_,s,h,q,fun v H1 ag C1 q1 rv h1 j=>⟨F,C1,_,s.imm (j.imm h),h1,q1,fun x H2 px C2 q2 rx h2 B=>⟨F,C2,_,(s.imm (j.imm h)).imm (B.imm h1),h2,q2,fun y I ah C3 g ry N D=>by
  have ab:=rv.imm ((B.trans D).imm h1)
  delta Kn at g
  split at g
  .next a =>
   split at g
   .next kvs k M S =>
    have ae:=rx.imm (D.imm h2);cases ae;refine oQ (N a _ M) fun vs G r=>?_;obtain⟨b,rfl,U⟩:=lU ry S;have m:Imm I (upd I a (.dT (qV vs k v))):=Imm.mut G rfl _;refine⟨a,_,rfl,DPut.t G U ((Paired.length r)▸g.1),f.nx σ _ F _ g.2 ((((s.imm (j.imm h)).imm (B.imm h1)).imm (D.imm h2)).imm m) (N.put G rfl ⟨_,bQ,Paired.mapP (FP.putG r k ab) fun _ _ z=>⟨z.1,z.2.imm m⟩⟩) (j.trans (B.trans (D.trans (Fw.put M _ _))))⟩
   .exact g.elim
  .exact g.elim⟩⟩⟩⟩
@[irreducible] def cMax:GC:=fun ts C Q=>match ts with
 |[.int i,.int j]=>Q (.int (if j > i then j else i)) C
 |_=>False
@[irreducible] def cMin:GC:=fun ts C Q=>match ts with
 |[.int i,.int j]=>Q (.int (if j < i then j else i)) C
 |_=>False
theorem cbi_max{K}:Cbi K (fun xs H Q=>∃i j,xs=[.int i,.int j]/\Q (.int (if j > i then j else i)) H) cMax:=fun xs ts H C Q R rs h q f=>by
 delta cMax at q
 split at q
 .obtain ⟨D,F,rfl,g,B⟩:=eB rs
  cases g;cases B
  exact⟨_,_,rfl,f _ H _ C q (.int _) h Fw.refl⟩
 .exact q.elim
theorem Ki{K}:Cbi K (fun xs H Q=>∃i j,xs=[.int i,.int j]/\Q (.int (if j < i then j else i)) H) cMin:=fun xs ts H C Q R rs h q f=>by
 delta cMin at q
 split at q
 .obtain ⟨D,F,rfl,g,B⟩:=eB rs
  cases g;cases B
  exact⟨_,_,rfl,f _ H _ C q (.int _) h Fw.refl⟩
 .exact q.elim
@[irreducible] def dI:GC:=fun ts C Q=>match ts with
 |[.ref a]=>match C a with
  |some (.dK kvs)=>∀p,C p=none->Q (.ref p) (vQ C p (.dK kvs))
  |_=>False
 |_=>False
theorem VA{K}:Cbi K (fun xs H Q=>∃a kvs,xs=[.ref a]/\H a=some (.dK kvs)/\∀p,H p=none->Q (.ref p) (upd H p (.dK kvs))) dI:=fun xs ts H C Q R rs h q f=>by
 delta dI at q
 split at q
 .split at q
  .next kvs e =>
   obtain⟨v,rfl,r⟩:=oX rs;obtain⟨vs,j,B⟩:=(h _ _ e);cases r;exact⟨_,vs,rfl,j,fun p g=>f _ _ _ _ (q p (h.fresh g)) (.ref p) (h.lay g ⟨vs,bQ,Paired.mapP B fun _ _ z=>⟨z.1,z.2.imm (Imm.new g _)⟩⟩) (Fw.lay g _ _)⟩
  .exact q.elim
 .exact q.elim
@[irreducible] def cCount:PV->List PV->CH->K1->Prop:=fun x ts C Q=>match x,ts with
 |.ref a,[y]=>match C a,pV y with
  |some (.lst xs),some k=>match bF xs with
   |some g=>Q (.int (cntK k g:Nat)) C
   |none=>False
  |_,_=>False
 |_,_=>False
@[irreducible] def cIndexT:PV->List PV->CH->K1->Prop:=fun x ts C Q=>match x,ts with
 |.ref a,[.bl true]=>match C a with
  |some (.lst xs)=>∃(bs:List Bool)(j:Nat),xs=bs.map PV.bl/\bs[j]?=some true/\(∀m,m < j->bs[m]?=some false)/\Q (.int (j:Nat)) C
  |_=>False
 |_,_=>False
@[irreducible] def cEqT(k:Bool->Bool):R2C:=fun x y C Q=>match zF x,zF y with
 |some j,some g=>Q (.bl (k (decide (j=g)))) C
 |_,_=>False
def J4:PV->Option V
 |.non=>some .non
 |.bl b=>some (.bl b)
 |.int i=>some (.int i)
 |.str x=>some (.str x)
 |_=>none
theorem tO{K}(r:Rep K H v t)(e:J4 t=some w):v=w/\aM w=true:=by
 cases r<;>cases e<;>exact⟨rfl,rfl⟩
noncomputable def qR:List PV->Option (List V)
 |[]=>some []
 |t::r=>match J4 t,qR r with
  |some v,some vs=>some (v::vs)
  |_,_=>none
theorem ZH{K}(r:Reps K H vs ts)(e:qR ts=some g):vs=g/\g.all aM=true:=by
 induction ts generalizing vs g with
 |nil=>cases r;cases e;exact⟨rfl,rfl⟩
 |cons t ts F =>
  cases r with
  |cons h r =>
   unfold qR at e
   split at e
   .next v G j q =>
    cases e;obtain⟨rfl,B⟩:=tO h j;obtain⟨rfl,D⟩:=F r q;exact⟨rfl,by rw[DE,B,D];rfl⟩
   .cases e
noncomputable def seqP(C:CH):PV->Option (List PV)
 |.tup xs=>some xs
 |.kt xs=>some xs
 |.ref a=>match C a with
  |some (.lst xs)=>some xs
  |_=>none
 |_=>none
@[irreducible] def cInS(g:Bool):R2C:=fun x y C Q=>match seqP C y,J4 x with
 |some ts,some v=>match qR ts with
  |some vs=>Q (.bl (if g then !inV v vs else inV v vs)) C
  |none=>False
 |_,_=>False
theorem cop_inS{K}: Cop K (rIn K M) (cInS M):=fun x y U W H C Q R O S h q f=>by
 delta cInS at q
 split at q
 .next ts v g D =>
  split at q
  .next vs F =>
   obtain⟨rfl,I⟩:=tO O D
   have L:∃p j,y=.ref p/\(SqL K H p j\/SqT K H p j)/\Reps K H j ts:=by
    cases S<;>try (cases g)
    .next a =>
     delta seqP at g
     dsimp only at g
     split at g
     .next xs e =>
      cases g;exact oQ (h _ _ e) fun B G N=>⟨a,B,rfl,.inl (SqL.of G),N⟩
     .cases g
    .next p B J r=>exact⟨p,B,rfl,.inr (SqT.of J),r⟩
    .grind
   obtain⟨p,j,rfl,hs,rs⟩:=L;obtain⟨rfl,fs⟩:=ZH rs F;exact⟨p,j,rfl,hs,I,fs,f _ H _ C q (.bl _) h Fw.refl⟩
  .exact q.elim
 .exact q.elim
@[irreducible] def cRepL:R2C:=fun x y C Q=>match x,y with
 |.ref a,.int k=>match C a with
  |some (.lst xs)=>-(2 ^ 63)<=k/\k < 2 ^ 63/\xs.length * k.toNat<=sizeLine/\∀p,C p=none->Q (.ref p) (vQ C p (.lst (List.replicate k.toNat xs).flatten))
  |_=>False
 |.tup [z],.int k=>0<=k/\k < 64/\Q (.tup (List.replicate k.toNat z)) C
 |_,_=>False
end
noncomputable def cN:List Key->Option (List Str)
 |[]=>some []
 |.inr x::r=>(cN r).map (x :: ·)
 |_=>none
theorem KA(e:cN g=some zs):g=zs.map Sum.inr:=by
 induction g generalizing zs with
 |nil=>cases e;rfl
 |cons k g j =>
  rcases k with k | x
  .cases e
  .unfold cN at e
   cases z:cN g with
   |none=>rw[z] at e;cases e
   |some q=>rw[z] at e;cases e;rw[j z];rfl
noncomputable def tiK:List (List Key×PV)->Option (List (List Str×Int))
 |[]=>some []
 | (k,.int i)::r=>match cN k,tiK r with
  |some zs,some cs=>some ((zs,i)::cs)
  |_,_=>none
 |_=>none
theorem tiK_eq(e:tiK kvs=some cs):kvs=cs.map fun c=>(c.1.map Sum.inr,PV.int c.2):=by
 induction kvs generalizing cs with
 |nil=>cases e;rfl
 |cons p kvs q =>
  unfold tiK at e
  split at e
  .lia
  .rename_i k i r h
   cases h
   split at e
   .next zs ds g j=>cases e;rw[q j,KA g];rfl
   .cases e
  .cases e
def dY(c:List Str×Int):PV:=.tup [.tup (c.1.map PV.str),.int c.2]
def tiLt(cs:List (List Str×Int)):Nat->Nat->Bool:=fun i j=>ltP (cs.getD i ([],0)) (cs.getD j ([],0))
noncomputable def KW(cs:List (List Str×Int)):List (List Str×Int):=(jU (tiLt cs) (kas_sort cs.length)).toList.map fun i=>cs.getD i ([],0)
section
variable {K:Dj}{H:Hp}{X:Cx}
theorem Qp:∀zs:List Str,Reps K H (zs.map V.str) (zs.map PV.str)
 |[]=>.nil
 |z::zs=>.cons (.str z) (Qp zs)
theorem WU d g(r:Reps K H ys ts):Reps K H (vF g ys) ((jU g (kas_sort ts.length)).toList.map fun i=>ts.getD i d):=by
 have B:=r.len
 delta vF
 rw[B]
 have q:∀i∈(jU g (kas_sort ts.length)).toList,i < ys.length:=by
  intro i hi
  by_cases h:0 < ts.length
  .exact B▸Ba.mp ((vY g ts.length h).mem_iff.mp hi)
  .have e:ts.length=0:=by lia
   rw[e,Wf] at hi;cases hi
 generalize (jU g (kas_sort ts.length)).toList=l at q ⊢
 induction l with
 |nil=>exact .nil
 |cons i l F=>exact .cons (r.getD i (q i AE)) (F fun j D=>q j (AH _ D))
theorem ti_ord(cs:List (List Str×Int))(l:List Nat):(l.map fun i=>(cs.map dY).getD i (dY ([],0)))=(l.map fun i=>cs.getD i ([],0)).map dY :=by simp_all
@[irreducible] def iH(g:TCE):TCE:=fun j C Q=>g j C fun x C1=>match x with
 |.ref a=>match C1 a with
  |some (.dT _)=>Q (.vw a) C1
  |_=>False
 |_=>False
theorem Vx{apos cpos}(L:CE X o D)(I:attributeBase o "items" X.env (eval o X.env)=eval o X.env:=by rfl)(J:(apos.endLine==cpos.line)=true:=by rfl):CE X (.Call (.Attribute o "items" apos) [] [] cpos) (iH D) :=
 ⟨JE.weak (Zv F.plainAttrs_dict DB F.type_dict_items K7 L.h I J) fun σ H Q ⟨N,C,R,s,h,q,f⟩=>by
 delta iH at q
 exact⟨N,C,_,s,h,q,fun x H1 O C1 g M h1 G=>by
  split at g
  .split at g
   .next kvs e =>
    refine oQ (h1 _ _ e) fun vs j r=>?_;cases M;exact⟨.inr (.inr (.inl ⟨rfl,.inr ⟨vs,j⟩⟩)),_,vs,rfl,rfl,j,fun v B=>f _ _ _ _ g (.vw bQ) (h1.new B _) (G.trans (Fw.new B _))⟩
   .exact g.elim
  .exact g.elim⟩⟩
@[irreducible] def aD:GC:=fun ts C Q=>match ts with
 |[.vw a]=>match C a with
  |some (.dT kvs)=>match tiK kvs with
   |some cs=>cs.length < 64/\∀p,C p=none->Q (.ref p) (vQ C p (.lst ((KW cs).map dY)))
   |none=>False
  |_=>False
 |_=>False
abbrev Wn(X:Cx):List V->Hp->VK->Prop:=fun xs H Q=>∃v d kvs lt,xs=[.ref v]/\H v=some (.ext (lY v d))/\H d=some (.dT kvs)/\kvs.length < 64 /\
  ∀as H1,Same H H1->TPs H1 as kvs->(∀a∈as,H a=none)->(∀a,H a=none->H1 a≠none->a∈as)->Srt X H1 (List.map V.ref as) lt/\∀p,H1 p=none->Q (.ref p) (upd H1 p (.lst (vF lt (List.map V.ref as))))
theorem ti_at{cs:List (List Str×Int)}(r:TPs H as kvs)(e:FP K H kvs (cs.map fun c=>(c.1.map Sum.inr,PV.int c.2))):
  Reps K H (as.map V.ref) (cs.map dY)/\∀i,i < as.length->gS H ((as.map V.ref).getD i .non) (cs.getD i ([],0)):=by
 induction r generalizing cs with
 |nil =>
  cases cs with
  |nil=>exact⟨.nil,fun i hi=>absurd hi (CN i)⟩
  |cons c cs=>cases e
 |@cons a b k v as kvs h1 h2 r D =>
  cases cs with
  |nil=>cases e
  |cons c cs =>
   cases e with
   |cons h e =>
    obtain⟨g,j⟩:=h;obtain⟨q,B⟩:=D e;subst g;cases j;rw[Zt] at h2;refine⟨.cons (.tup h1 (.cons (.tup h2 (Qp c.1)) (.cons (.int _) .nil))) q,fun i hi=>?_⟩
    cases i with
    |zero=>exact⟨a,b,rfl,h1,h2⟩
    |succ i=>exact B i (Bq hi)
theorem XA(J:X.A.units+2 < cLine):Cbi X.K (Wn X) aD:=fun xs ts H C Q R rs h q f=>by
 delta aD at q
 split at q
 .obtain ⟨v,rfl,r⟩:=oX rs
  split at q
  .next kvs e =>
   split at q
   .next cs F =>
    have ex:=tiK_eq F;subst ex;obtain⟨vs,G,D⟩:=(h _ _ e)
    cases r with
    |vw L =>
     have I:vs.length=cs.length:=by rw[Paired.length D,AB]
     refine⟨_,_,vs,tiLt cs,rfl,L,G,by rw[I];exact q.1,fun as H1 j M O S=>?_⟩;obtain⟨rr,N⟩:=ti_at M (Paired.mapP D fun _ _ z=>⟨z.1,z.2.imm fun b v _ e=>j b v e⟩);refine⟨KB J _ (fun i hi=>N i (by grind)),fun p g=>?_⟩;have h1:=aL h j;have B:=WU (dY ([],0)) (tiLt cs) rr;rw[AB,ti_ord] at B;exact f _ _ _ _ (q.2 p (h1.fresh g)) (.ref p) (h1.lay g ⟨_,bQ,B.imm (Imm.new g _)⟩) ((nA j).trans (Fw.lay g _ _))
   .exact q.elim
  .exact q.elim
 .exact q.elim
end
def ZZ:List (TCE×TCE)->CSt->CH->(List (PV×PV)->CH->Prop)->Prop
 |[],_,C,Q=>Q [] C
 | (q,B)::r,g,C,Q=>q g C fun x C1=>B g C1 fun y C2=>ZZ r g C2 fun ps j=>Q ((x,y)::ps) j
abbrev RPs(K:Dj)(H:Hp):List (V×V)->List (PV×PV)->Prop:=Paired fun p q=>Rep K H p.1 q.1/\Rep K H p.2 q.2
noncomputable def liftP(K:Dj)(cs:List (TCE×TCE)):List (TE×TE):=cs.map fun p=>(zJ K (Rep K) p.1,zJ K (Rep K) p.2)
structure CPs(X:Cx)(pos:Pos)(keys:List (Option Expr))(values:List Expr)(cs:List (TCE×TCE)):Prop where
 h:PPs X pos keys values (liftP X.K cs)
theorem cps_nil: CPs X pos [] [] []:=⟨pps_nil⟩
theorem rG{g}(q:CE X k j)(D:CE X v g)(B:CPs X pos F vs cs):CPs X pos (some k::F) (v::vs) ((j,g)::cs):=⟨WC q.h.h D.h.h B.h⟩
theorem Zn{K}: ∀{cs}{H}{C}{R}{Q},SRel K H σ D->HRel K H C->ZZ cs D C R ->
  (∀vs H' ts C',R ts C'->RPs K H' vs ts->HRel K H' C'->Fw H C H' C'->Q vs H')->rE (liftP K cs) σ H Q:=by
 intro cs
 induction cs with
 |nil=>intro H C R Q s h q f;exact f [] H [] C q .nil h Fw.refl
 |cons p cs J =>
  obtain⟨W,Y⟩:=p;intro H C R Q s h q f;exact⟨D,C,_,s,h,q,fun x H1 Z C1 L S h1 g=>⟨D,C1,_,s.imm (g.imm h),h1,L,fun y H2 ab C2 M U h2 j=>J ((s.imm (g.imm h)).imm (j.imm h1)) h2 M fun vs G ts F N O I B=>f _ G _ F N (.cons ⟨(S.imm (j.imm h1)).imm (B.imm h2),U.imm (B.imm h2)⟩ O) I (g.trans (j.trans B))⟩⟩
noncomputable def prK:List (PV×PV)->Option (List (Key×PV))
 |[]=>some []
 | (x,y)::r=>match pV x,prK r with
  |some k,some ps=>some ((k,y)::ps)
  |_,_=>none
theorem prK_rep{K}(r:RPs K H vs ts)(e:prK ts=some ps):∃kvs,vs=kvs.map (fun g=>(kV g.1,g.2))/\KP K H kvs ps:=by
 induction r generalizing ps with
 |nil=>cases e;exact⟨[],rfl,.nil⟩
 |@cons p q J L h r F =>
  obtain⟨x,y⟩:=q;unfold prK at e
  split at e
  .next k M j B =>
   cases e;obtain⟨kvs,rfl,G⟩:=F B;obtain⟨N,I⟩:=p;have D:=pG h.1 j;subst D;exact⟨(k,I)::kvs,rfl,.cons ⟨rfl,h.2⟩ G⟩
  .cases e
noncomputable def prT:List (PV×PV)->Option (List (List Key×PV))
 |[]=>some []
 | (x,y)::r=>match zF x,prT r with
  |some k,some ps=>some ((k,y)::ps)
  |_,_=>none
theorem FP.mergeG{K}(m:FP K H F D):∀{vs}{kvs},FP K H vs kvs->FP K H (iG vs F) (CL.mergeG kvs D):=by
 induction m with
 |nil=>intro vs kvs r;exact r
 |@cons p q j B h _ g =>
  intro vs kvs r;show FP K H (iG (qV vs p.1 p.2) j) (CL.mergeG (CL.putG kvs q.1 q.2) B);rw[h.1];exact g (FP.putG r q.1 h.2)
section
variable {X:Cx}{pos:Pos}{keys:List (Option Expr)}{values:List Expr}{cs:List (TCE×TCE)}
@[irreducible] def aH(p:Addr):List (PV×PV)->CH->K1->Prop:=fun ts C Q=>C p=some (.dK [])/\match prK ts with
 |some ps=>ps.length<=15/\Q (.ref p) (vQ C p (.dK (gW [] ps)))
 |none=>False
def cDisp(cs:List (TCE×TCE)):TCE:=fun g C Q=>∀p,C p=none->ZZ cs g (vQ C p (.dK [])) fun ts C2=>aH p ts C2 Q
theorem ce_disp(h:CPs X pos keys values cs)(M:keys.all (·.isSome)=true:=by rfl)(N:keys.length=values.length:=by rfl)(h0:keys≠[]:=by exact fun z=>nomatch z)(L:keys.length<=15:=by decide):CE X (.Dict keys values pos) (cDisp cs) :=
 ⟨JE.weak ⟨pe_disp h.h M N h0 L⟩ fun σ H Q ⟨W,C,R,s,F,q,f⟩=>fun p j=>by
  refine Zn (C:=vQ C p (.dK [])) (s.imm (Imm.new j _)) (F.lay j ⟨[],bQ,.nil⟩) (q p (F.fresh j)) fun vs H2 ts C2 g O h2 J=>?_;unfold aH at g;obtain⟨D,g⟩:=g
  split at g
  .next ps I =>
   obtain⟨kvs,rfl,G⟩:=prK_rep O I;obtain⟨U,B,S⟩:=(h2 p _ D);have z:U=[]:=by cases S;rfl
   subst z;refine⟨B,kvs,rfl,by exact(Paired.length G)▸g.1,?_⟩;exact f _ _ _ _ g.2 (.ref p) (h2.put B rfl ⟨_,bQ,Paired.mapP (KP.merge .nil G) fun _ _ z=>⟨z.1,z.2.imm (Imm.mut B rfl _)⟩⟩) ((Fw.lay j _ _).trans (J.trans (Fw.put D _ _)))
  .exact g.elim⟩
@[irreducible] def cPutAllT(p:Addr):List (PV×PV)->CH->K1->Prop:=fun ts C Q=>C p=some (.dT [])/\match prT ts with
 |some ps=>ps.length<=15/\Q (.ref p) (vQ C p (.dT (mergeG [] ps)))
 |none=>False
end
theorem kB(g:Room k A):A.units+2 < cLine:=by have:=g.un;lia
section
variable {C:CH}{p:Addr}{Q:K1}{x y v z:PV}
theorem iC(m:C p=some (.ins c dx fs))(e:fs.lookup f=some v)(q:Q v C):Z0 c f (.ref p) C Q :=by simp_all[Z0]
theorem X7{Q}(m:C p=some (.ins c dx fs))(h:fs.length < 1000)(q:Q (vQ C p (.ins c dx (QE f v fs)))):Kp c f (.ref p) v C Q :=by simp_all[Kp]
theorem nX(m:C p=some (.ins c dx fs))(e:fs.lookup f=none):rO c f (.ref p) C:=by
 delta rO
 dsimp only;exact m▸⟨rfl,e⟩
theorem YE(m:C p=some (.dT kvs)):YF (.ref p) C:=by
 delta YF
 dsimp only;rw[m]
 trivial
theorem tix_s(m:C p=some (.dT kvs))(g:zF y=some k)(j:pK kvs k=some v)(q:Q v C):cTIx (.ref p) y C Q:=by
 delta cTIx
 dsimp only;rw[m,g];dsimp only
 rwa [j]
theorem V1(m:C p=some (.dT kvs))(g:zF y=some k)(j:(pK kvs k).getD z=v)(q:Q v C):Kl (.ref p) y z C Q:=by
 delta Kl
 dsimp only;rw[m,g];dsimp only
 rwa [j]
theorem XY{Q}(m:C p=some (.dT kvs))(g:zF y=some k)(h:kvs.length<=1000)(q:Q (vQ C p (.dT (putG kvs k v)))):Kn (.ref p) y v C Q:=by
 delta Kn
 dsimp only;exact m▸g▸⟨An h (by decide),q⟩
theorem bV(m:C p=some (.dK kvs))(g:pV y=some k)(j:gJ kvs k=some v)(q:Q v C):gT (.ref p) y C Q:=by
 delta gT
 dsimp only;rw[m,g];show(match gJ kvs k with | some v=>Q v C | none=>False)
 rwa [j]
theorem getD_g(m:C p=some (.dK kvs))(g:pV y=some k)(j:(gJ kvs k).getD z=v)(q:Q v C):Kr (.ref p) y z C Q:=by
 delta Kr
 dsimp only;rw[m,g];show Q ((gJ kvs k).getD z) C
 rwa [j]
theorem zG{Q}(m:C p=some (.dK kvs))(g:pV y=some k)(h:kvs.length<=1000)(q:Q (vQ C p (.dK (qJ kvs k v)))):aR (.ref p) y v C Q:=by
 delta aR
 dsimp only;exact m▸g▸⟨An h (by decide),q⟩
theorem YH(m:C p=some (.dK kvs)):ZA (.ref p) C:=by
 delta ZA
 dsimp only;rw[m]
 trivial
theorem dictK_s(m:C p=some (.dK kvs))(q:∀g,C g=none->Q (.ref g) (vQ C g (.dK kvs))):dI [.ref p] C Q:=by
 delta dI
 dsimp only
 rwa [m]
theorem YI{g:Bool}(h1:seqP C y=some ts)(h2:J4 x=some w)(j:qR ts=some vs)(q:Q (.bl (if g then !inV w vs else inV w vs)) C):cInS g x y C Q :=by simp_all[cInS]
theorem forT_g(h:q j C fun t C1=>match t with | .tup xs=>eY g u E xs j C1 | .kt xs=>eY g u E xs j C1 | _=>False):kE q g u E j C:=by
 delta kE
 exact h
end
theorem nN(m:C p=some (.lst (cs.map dQ)))(h:cs.length < 64)(q:∀g,C g=none->Q (.ref g) (vQ C g (.lst ((mG cs).map dQ)))):pM [.ref p] C Q:=by
 delta pM
 dsimp only;rw[m];dsimp only;rw[Qv];exact⟨h,q⟩
theorem mF(q:j[i]?=some (some (.tup xs)))(h:eY g u E xs j C):kE (cZ i) g u E j C:=by
 delta kE cZ
 rwa [q]
theorem yX(h:x=.tup xs)(e:atI xs i=some v)(q:Q v C):cIx x (.int i) C Q:=by
 subst h;exact mX e q
theorem min_s(q:Q (.int (if j < i then j else i)) C):cMin [.int i,.int j] C Q:=by
 delta cMin
 exact q
theorem max_s(q:Q (.int (if j > i then j else i)) C):cMax [.int i,.int j] C Q:=by
 delta cMax
 exact q
theorem kS{xs:List PV}(h:k < xs.length):atI xs k=some xs[k] :=by grind[atI,ixN,lia,Int.toNat_natCast]
theorem tQ{r:List PV}:atI (x::r) 0=some x:=kS (Nat.zero_lt_succ _)
theorem if_i(h:t g C fun b C1=>if b=true then j g C1 Q else q g C1 Q):cIf t j q g C Q:=h
theorem hU(j:g[i]?=some (some x))(q:Q (k (Vh x)) C):xE (cOp (cIs k) (cZ i) (cC .non)) g C Q:=by
 show cZ i g C fun x C1=>oS Q (.bl (k (Vh x))) C1
 delta cZ
 rwa [j]
theorem uJ(I:List PV->CSt->CH->Prop)(F:∀x r j C,I (x::r) j C->∀L:CSt->CH->Prop,(∀q C',I r q C'->L q C')->g x j C fun G C1=>u { nx:=L,ct:=L,bk:=E.nx,rt:=E.rt } G C1)(B:∀j C,I [] j C->E.nx j C):
  ∀xs j C,I xs j C->eY g u E xs j C:=by
 intro xs
 induction xs with
 |nil=>intro j C h;exact B j C h
 |cons x r D=>intro j C h;exact F x r j C h _ D
theorem nG(I:List PV->List PV->CH->Prop)(q:∀x r acc C,I (x::r) acc C->∀L:K1,(∀y C2,acc.length < sizeLine/\I r (acc++[y]) C2->L y C2)->c (some x::B) C L)(g:∀acc C,I [] acc C->∀p,C p=none->Q (.ref p) (vQ C p (.lst acc))):
  ∀xs acc C,I xs acc C->rZ eD c B Q xs acc C:=by
 intro xs
 induction xs with
 |nil=>intro acc C h;exact g acc C h
 |cons x r j =>
  intro acc C h;exact q x r acc C h _ fun y C2 z=>⟨z.1,j _ _ z.2⟩
theorem zE(I:List PV->List PV->CH->Prop)(g:∀r acc C,I r acc C->S C)(B:∀x r acc C,I (x::r) acc C->∀L:K1,(∀y C2,acc.length < sizeLine/\I r (acc++[y]) C2->L y C2)->c (some x::D) C L)(j:∀acc C,I [] acc C->∀p,C p=none->Q (.ref p) (vQ C p (.lst acc))):
  ∀xs acc C,I xs acc C->gU S eD c D Q xs acc C:=by
 intro xs
 induction xs with
 |nil=>intro acc C h;exact⟨g _ _ _ h,j acc C h⟩
 |cons x r q =>
  intro acc C h;exact⟨g _ _ _ h,B x r acc C h _ fun y C2 z=>⟨z.1,q _ _ z.2⟩⟩
theorem bW(g:Gr C C1)(j:C p=none)o:Gr C (vQ C1 p o):=fun b u e=>by
 rw[yQ (fun z=>by subst z;rw[j] at e;cases e)];exact g b u e
theorem vK(g:Gr C C')(h:C' p=none):C p=none:=by
 cases e:C p with
 |none=>rfl
 |some o=>rw[g p o e] at h;cases h
theorem uZ(h:n<=1000):n<=sizeLine:=Ah h (by decide)
theorem qD kvs k v:(qJ kvs k v).length<=kvs.length+1 :=by grind[qJ,List.length_map,List.length_append,List.length_singleton]
theorem dE kvs k v q:gJ (qJ kvs k v) q=if q=k then some v else gJ kvs q:=by
 have I:∀l:List (Key×PV),(l.any fun g=>decide (g.1=k))=true->gJ (l.map fun g=>if g.1=k then (g.1,v) else g) q=if q=k then some v else gJ l q:=by
  intro l
  induction l with
  |nil=>intro h;cases h
  |cons x l F =>
   intro h
   delta gJ
   rw[A5,A0,A0]
   by_cases e:x.1=k
   .rw [Ac e]
    by_cases j:q=k
    .rw [Ac j,Af (e.trans j.symm)];rfl
    .rw [Ad j]
     rw[AR (fun z=>j (z.symm.trans e))]
     by_cases D:(l.any fun g=>decide (g.1=k))=true
     .have:=F D
      rwa [Ad j] at this
     .have:(l.map fun g=>if g.1=k then (g.1,v) else g)=l :=(CD fun y G=>Ad ((fun y G z=>D (DJ.2 ⟨y,G,Af z⟩)) y G)).trans (List.map_id l)
      rw[this]
   .rw [Ad e]
    have D:(l.any fun g=>decide (g.1=k))=true:=by
     rwa [BA,AR e,Bool.false_or] at h
    have:=F D
    by_cases B:x.1=q
    .rw [Af B]
     have j:¬ q=k:=fun z=>e (B.trans z);rw[Ad j]
    .rwa [AR B]
 delta qJ
 by_cases b:(kvs.any fun g=>decide (g.1=k))=true
 .rw [Ac b];exact I kvs b
 .rw [Ad b]
  induction kvs with
  |nil =>
   delta gJ
   rw[DU,A0]
   by_cases j:q=k
   .rw [Ac j,Af j.symm];rfl
   .rw [Ad j,AR (fun z=>j z.symm)]
  |cons x l F =>
   rw[BA] at b;have e:¬ x.1=k:=fun e=>b (by rw[Af e];rfl);rw[AR e,Bool.false_or] at b;have:=F b;unfold gJ at this ⊢;rw[B7,A0,A0]
   by_cases B:x.1=q
   .rw [Af B]
    rw[Ad (fun z=>e (B.trans z))]
   .rwa [AR B]
def ExS(S:List Addr)(C C':CH):Prop:=∀b o,b∉S->C b=some o->C' b=some o
theorem ExS.refl: ExS S C C:=fun _ _ _ h=>h
theorem ExS.trans(h:ExS S C C1)(h':ExS S C1 C2):ExS S C C2:=fun b o n e=>h' b o n (h b o n e)
theorem ExS.mono(h:ExS S C C1)(s:∀b∈S,b∈g):ExS g C C1:=fun b o n e=>h b o (fun z=>n (s b z)) e
theorem ExS.at(h:ExS S C C1)(g:p∈S)o:ExS S C (vQ C1 p o):=fun b u n e=>by
 rw[yQ (fun z=>n (by rwa [z]))];exact h b u n e
theorem ExS.put(h:ExS S C C1)(g:C p=none)o:ExS S C (vQ C1 p o):=fun b u n e=>by
 rw[yQ (fun z=>by subst z;rw[g] at e;cases e)];exact h b u n e
theorem ExS.none(g:ExS S C C')(n:p∉S)(h:C' p=none):C p=none:=by
 cases e:C p with
 |none=>rfl
 |some o=>rw[g p o n e] at h;cases h
end CL
namespace L2
open PySem PySem.Spec PyProof.Rows
def V7(K:Dj)(n:Nat)(q:TI)(tc:TT)(te:TE):TE:=fun σ H Q=>q σ H fun J H1=>∀D,H1 D=none->∃W:Nat->Nat->List V->Hp->Prop,(∃m,W 0 m [] (upd H1 D (.lst [])))/\∀i m ys H,W i m ys H ->
 (J.stop i H/\Q (.ref D) H)\/(J.go i H/\∀x H',J.yld i H x H'->∃a vs,x=.ref a/\SqT K H' a vs/\vs.length=n/\tc (vs.map some++σ) H' fun b H2=>
  if b=true then te (vs.map some++σ) H2 fun y j=>j D=some (.lst ys)/\ys.length < sizeLine/\∃g,g < m/\W (i+1) g (ys++[y]) (upd j D (.lst (ys++[y])))
  else ∃g,g < m/\W (i+1) g ys H2)
section
variable {X:Cx}
theorem WQ{U O tg:Expr}{xs:List Str}{pos:Pos}{W:List Expr}{G:Scope}{L:List (Str×Addr)}{Y:TI}{tc:TT}{te:TE}{g:TG}(hc:X.calm=true)(K:oW X xs G L)(hg:∀B C F j,PG (cxN X xs G L B C F j) tg g)(hG:∀M vs a σ H Q,M.length=xs.length->SqT X.K H a vs->vs.length=xs.length->Q (vs.map some++σ) H->g (.ref a) (M++σ) H Q)(hi:PI X tg O Y)(ht:∀B C F j,VJ (cxN X xs G L B C F j) W tc)(aj:∀B C F j,PE (cxN X xs G L B C F j) U te)(hs:∀v,foldedSetIterable O X.env v=pure v:=by intro _;rfl):PE X (.ListComp U [⟨tg,O,W,0⟩] G pos) (V7 X.K xs.length Y tc te):=by
 intro pins s σ H Q I h;rw[eval_ListComp];refine DC (use:=none) rfl hs K.clos K.kind K.names (thn (hi pins s σ H _ I h) fun xv aw ao=>thn ao fun av F aq=>?_);obtain⟨it,B,tn,J,j,e,N,T,au,ae,R⟩:=aq;subst e;refine uB (Tk:=fun x H vs=>∃a,x=.ref a/\SqT X.K H a vs) hc K hg ht aj (fun M vs x H Q l ⟨a,e,S⟩ l' q=>by rw[e];exact hG M vs a σ H Q l S l' q) N T au ae (fun D hD=>let ⟨ab,w0,tu⟩:=R D hD;⟨ab,w0,fun i m ys H w=>(tu i m ys H w).imp id fun⟨g,st⟩=>⟨g,fun x H' y=>let ⟨a,vs,e,S,l,q⟩:=st x H' y;⟨vs,⟨a,e,S⟩,l,q⟩⟩⟩) ?_
 intro D C H ar m hn ag af ah ai Z q;refine⟨m,hn,fun h' ak=>⟨.ref D,H,?_,rfl,q⟩⟩;refine Z.turned (it:=C) (t':=ar.toks) (fun b o hb e=>(ak.2 b hb).trans e) af ag (.inr (Ah N.sz ai)) ah fun p hp z=>?_;exact absurd (AV (AI (N.pin p hp).1) (by simp_all)) (A7 _)
end
end L2
namespace CL
open PySem PySem.Spec L2 PySem.W
open PyProof.Rows hiding St
def dM(n:Nat)(t:TCT)(c:TCE)(g:CSt)(Q:K1):List PV->List PV->CH->Prop
 |[],acc,C=>∀p,C p=none->Q (.ref p) (vQ C p (.lst acc))
 |x::r,acc,C=>∃ts,x=.tup ts/\ts.length=n/\t (ts.map some++g) C fun b C1=>if b=true then c (ts.map some++g) C1 fun y C2=>acc.length < sizeLine/\dM n t c g Q r (acc++[y]) C2 else dM n t c g Q r acc C1
theorem nE{K}: ∀{vs}{ts},Reps K H vs ts->SRel K H (vs.map some) (ts.map some)
 |_,_,.nil=>.nil
 |_,_,.cons h r=>.cons h (nE r)
theorem SRel.app{K}(h:SRel K H σ q)(h':SRel K H τ j):SRel K H (σ++τ) (q++j):=by
 induction h with
 |nil=>exact h'
 |cons a _ g=>exact .cons a g
theorem Gv{K}{Q:VK}(ae:XG K H J ps)(s:SRel K H σ Z)(h:HRel K H C)(ak:dM n t c Z R ps [] C)(h0:HRel K H0 C0)(aj:Fw H0 C0 H C)(f:∀v H' p C',R p C'->Rep K H' v p->HRel K H' C'->Fw H0 C0 H' C'->Q v H')(q:H D=none):
  ∃W:Nat->Nat->List V->Hp->Prop,(∃m,W 0 m [] (upd H D (.lst [])))/\∀i m ys H,W i m ys H ->
   (J.stop i H/\Q (.ref D) H)\/(J.go i H/\∀x H',J.yld i H x H'->∃a vs,x=.ref a/\SqT K H' a vs/\vs.length=n/\zJ K pL t (vs.map some++σ) H' fun b H2=>
    if b=true then zJ K (Rep K) c (vs.map some++σ) H2 fun y H3=>H3 D=some (.lst ys)/\ys.length < sizeLine/\∃G,G < m/\W (i+1) G (ys++[y]) (upd H3 D (.lst (ys++[y])))
    else ∃G,G < m/\W (i+1) G ys H2):=by
 refine⟨fun i m ys H'=>m=ps.length - i/\i<=ps.length/\∃acc C',H' D=some (.lst ys)/\C' D=none/\Reps K H' ys acc/\HRel K H' C'/\Fw H C H' C'/\dM n t c Z R (ps.drop i) acc C',
  ⟨ps.length,rfl,Ab _,[],C,bQ,h.fresh q,.nil,h.new q _,Fw.new q _,ak⟩,?_⟩
 rintro i m ys H1 ⟨rfl,hi,acc,C1,e1,n1,S,h1,I,j⟩;have F:=I.imm h
 by_cases B:i < ps.length
 .refine .inr ⟨ae.go i H1 B F,fun x H2 y=>?_⟩
  obtain⟨rfl,y⟩:=ae.yl i H1 x H2 F y;have rx:=y _ (AK B);rw[Al B] at j;refine jZ j fun ts ai hn j=>?_;rw[ai] at rx
  obtain⟨a5,aq,z5,ao,ag⟩:∃a vs,x=.ref a/\SqT K H2 a vs/\Reps K H2 vs ts:=by
   cases rx with
   |tup e r=>exact⟨_,_,rfl,SqT.of e,r⟩
  refine⟨a5,aq,z5,ao,ag.len.trans hn,⟨ts.map some++Z,C1,_,(nE ag).app (s.imm F),h1,j,fun b H3 b' C3 q3 e h3 L=>?_⟩⟩;cases e;obtain⟨N,e3⟩:=L D (by rw[n1];rfl) (by lia);rw[e1] at e3;rw[n1] at N;have M:=L.imm h1
  cases b with
  |true =>
   refine⟨ts.map some++Z,C3,_,(nE (ag.imm M)).app ((s.imm F).imm M),h3,q3,fun v H4 p C4 q4 r4 h4 ab=>jT (ab D (by rw[N];rfl) (by lia)) fun n4 e4=>?_⟩;rw[e3] at e4;rw[N] at n4;have m4:Imm H4 (upd H4 D (.lst (ys++[v]))):=Imm.mut e4 rfl _;refine⟨e4,by rw[S.len];exact q4.1,ps.length - (i+1),by lia,rfl,B,acc++[p],C4,bQ,n4,?_,?_,?_,q4.2⟩
   .exact (((S.imm M).imm (ab.imm h3)).append (.cons r4 .nil)).imm m4
   .intro a o g
    have af:a≠D:=fun z=>by subst z;rw[n4] at g;cases g
    exact(h4 a o g).imm m4 (mQ af)
   .intro a g O
    have af:a≠D:=fun z=>O (z▸q);exact jT ((I.trans (L.trans ab)) a g O) fun U Y=>⟨U,(mQ af).trans Y⟩
  |false =>
   exact⟨ps.length - (i+1),by lia,rfl,B,acc,C3,e3,N,S.imm M,h3,I.trans L,q3⟩
 .have e:i=ps.length:=by lia
  subst e;rw[BY] at j;refine .inl ⟨ae.st H1 F,f (.ref D) H1 (.ref D) _ (j D n1) (.ref D) ?_ ?_⟩
  .intro a o g
   by_cases z:a=D
   .subst z;rw[jQ] at g;cases g;exact⟨ys,e1,S⟩
   .rw [yQ z] at g;exact h1 a o g
  .intro a g O
   obtain⟨U,Y⟩:=aj a g O;have ah:H a≠none:=by rwa [Y]
   obtain⟨y1,y2⟩:=I a (by rwa [U]) ah;exact⟨(yQ (show a≠D from fun z=>ah (z▸q))).trans (y1.trans U),y2.trans Y⟩
section
variable {X:Cx}{pos:Pos}
def Z1(n:Nat)(j:CSt->CH->(List PV->CH->Prop)->Prop)(t:TCT)(c:TCE):TCE:=fun g C Q=>j g C fun ps C1=>dM n t c g Q ps [] C1
theorem Zo(hi:CI X tg it I B){Q:VK}(h:zJ X.K (Rep X.K) (Z1 n B t c) σ H Q):V7 X.K n I (zJ X.K pL t) (zJ X.K (Rep X.K) c) σ H Q :=qP h fun L C R s h q f=>hi.w σ H L C _ _ s h q fun J H' ps C' G j h' g D F=>Gv j (s.imm (g.imm h)) h' G h g f F
def GOk(K:Dj)(n:Nat)(g:TG):Prop:=∀(j:St)(vs:List V)(a:Addr)(σ:St)(H:Hp)(Q:St->Hp->Prop),j.length=n->SqT K H a vs->vs.length=n->Q (vs.map some++σ) H->g (.ref a) (j++σ) H Q
theorem GF
  (M:X.calm=true)(K:∃j,oW X xs F j)(O:∀j B C D q,oW X xs F j->PG (cxN X xs F j B C D q) tg g)(L:GOk X.K xs.length g)(hi:CI X tg G W I)(S:∀j B C D q,CF (cxN X xs F j B C D q) U t)(N:∀j B C D q,CE (cxN X xs F j B C D q) J c)(hs:∀v,foldedSetIterable G X.env v=pure v:=by intro _;rfl):CE X (.ListComp J [⟨tg,G,U,0⟩] F pos) (Z1 xs.length I t c):=by
 obtain⟨j,K⟩:=K;exact⟨JE.weak ⟨WQ M K (fun B C D q=>O j B C D q K) L hi.j.h (fun B C D q=>(S j B C D q).h.h) (fun B C D q=>(N j B C D q).h.h) hs⟩ fun _ _ _ h=>Zo hi h⟩
abbrev g2(K:Dj):TG:=gTup K 2 (eC (pU 0) (eC (pU 1) gNil))
abbrev g3(K:Dj):TG:=gTup K 3 (eC (pU 0) (eC (pU 1) (eC (pU 2) gNil)))
theorem mC{α:Type}{l:List α}(h:l.length=1):∃a,l=[a]:=by
 cases l with
 |nil=>cases h
 |cons a l =>
  cases l with
  |nil=>exact⟨a,rfl⟩
  |cons b l=>cases h
theorem len2{α:Type}{l:List α}(h:l.length=2):∃a b,l=[a,b]:=by
 cases l with
 |nil=>cases h
 |cons a l =>
  obtain⟨b,rfl⟩:=mC (Aw h);exact⟨a,b,rfl⟩
theorem len3{α:Type}{l:List α}(h:l.length=3):∃a b c,l=[a,b,c]:=by
 cases l with
 |nil=>cases h
 |cons a l =>
  obtain⟨b,c,rfl⟩:=len2 (Aw h);exact⟨a,b,c,rfl⟩
theorem gok2{K}:GOk K 2 (g2 K):=by
 intro G vs a σ H Q h1 h2 B q;obtain⟨D,F,rfl⟩:=len2 h1;obtain⟨j,g,rfl⟩:=len2 B;exact⟨a,[j,g],rfl,h2,rfl,j,[g],rfl,g,[],rfl,rfl,q⟩
theorem pg2(D:X.calm=true)(g:(x::y::X.N).Nodup)(K:oW X [x,y] F B):
  PG (cxN X [x,y] F B I C L G) (.Tuple [.Name x J,.Name y p2] k p) (g2 X.K) :=
 have j:=Bh (K.hx x (by simp));have q:=Bh (K.hx y (by simp))
 WH D (qC (kD g rfl (.inl j) (.inr j)) (qC (kD g rfl (.inl q) (.inr q)) JD))
theorem GH
  (F:X.calm=true)(M:(x::y::X.N).Nodup)(K:∃g,oW X [x,y] B g)(hi:CI X (.Tuple [.Name x U,.Name y p2] k p) G W J)(O:∀g q C D j,CF (cxN X [x,y] B g q C D j) S t)(N:∀g q C D j,CE (cxN X [x,y] B g q C D j) L c)(hs:∀v,foldedSetIterable G X.env v=pure v:=by intro _;rfl):CE X (.ListComp L [⟨.Tuple [.Name x U,.Name y p2] k p,G,S,0⟩] B pos) (Z1 2 J t c) :=
 GF F K (fun _ _ _ _ _ I=>pg2 F M I) gok2 hi O N hs
end
end CL
namespace L2
open PySem PySem.W PySem.Spec PyProof.Rows
abbrev wK:=List (List Key)
abbrev KPt(H:Hp):List (wK×V)->List (wK×Addr×Value)->Prop:=Paired fun p q=>p.1=q.1/\PKey H p.1 q.2.1/\RelV p.2 q.2.2
theorem KPt.val(r:KPt H kvs xs)k:RelO (pY kvs k) ((atKey xs k).map (·.2)):=by
 induction r with
 |nil=>exact True.intro
 |@cons p q ps qs h t g =>
  obtain⟨h1,_,h2⟩:=h
  by_cases e:p.1=k
  .have b:atKey (q::qs) k=some q.2:=by simp[atKey,List.find?_cons,h1.symm.trans e]
   rwa [tF e,b]
  .have b:atKey (q::qs) k=atKey qs k:=by
    simp[atKey,List.find?_cons,(show ¬ q.1=k from fun z=>e (h1.trans z))]
   rwa [eF e,b]
theorem KPt.repl(r:KPt H kvs xs)k(D:RelV y u):
  KPt H (kvs.map fun g=>if g.1=k then (g.1,y) else g) (xs.map (putAt k u)):=by
 induction r with
 |nil=>exact .nil
 |@cons p q ps qs h t j =>
  refine .cons (kH h fun h1 h2 B=>?_) j
  delta putAt
  by_cases e:p.1=k
  .lia
  .lia
theorem KPt.put(r:KPt H kvs xs)(k:wK)(j:PKey H k b)(g:RelV y u):
  KPt H (qV kvs k y) (storedH xs k b u):=by
 have e:(kvs.any fun B=>decide (B.1=k))=(atKey xs k).isSome:=by
  rw[bN,(r.val k).isSome_eq,Option.isSome_map]
 delta qV storedH
 rw[e]
 by_cases q:(atKey xs k).isSome=true
 .rw [Ac q,Ac q];exact r.repl k g
 .rw [Ad q,Ad q];exact Paired.snoc r ⟨rfl,j,g⟩
theorem KPt.keeps(r:KPt H kvs xs)(g:∀b ys,H b=some (.tup ys)->H' b=some (.tup ys)):KPt H' kvs xs :=
 Paired.mapP r fun _ _ z=>⟨z.1,z.2.1.mono g,z.2.2⟩
section
variable {P:Program}{w:World}{H:Hp}{h:Heap}{a:Addr}
theorem Q9(q:HOk P w H h):∀{j}{bs}{g},Paired (fun B c=>H c=some (.tup (B.map kV))) j bs->Vals (bs.map V.ref) g->ItemsTup (qX P w) h j g
 |_,_,_,.nil,r=>by cases r;exact .nil
 |_,_,_,.cons e t,r=>by
  cases r with
  |cons D F =>
   cases D;exact .cons (xB q e) (Q9 q t F)
theorem jD{g:wK}(j:HOk P w H h)(e:PKey H g a):(bG (qX P w)).is h g a:=by
 obtain⟨bs,q,F⟩:=e;obtain⟨_,D,r,o,h1,h2,⟨n,B⟩,_⟩:=(j a _ q);exact⟨o,D.toArray,n,h1,h2,B,by exact List.toList_toArray▸Q9 j F r⟩
theorem Xr{kvs:List (wK×V)}(B:HOk P w H h)(e:H a=some (.dP kvs)):kvs.length<=sizeLine/\(a==sysModules)=false /\
  ∃xs,KPt H kvs xs/\h.DictOfH (bG (qX P w)) a xs:=by
 obtain⟨z,y,xs,r,o,es,ep,h1,h2,F,G,I⟩:=(B a _ e);refine⟨z,y,xs,r,o,es,ep,h1,h2,F,G,fun x g=>?_,I⟩
 have D:∀{l:List (wK×V)}{m:List (wK×Addr×Value)},KPt H l m->∀x∈m,(bG (qX P w)).is h x.1 x.2.1:=by
  intro l m q
  induction q with
  |nil=>intro x g;exact nomatch g
  |@cons p q ps qs j t J =>
   intro x g
   rcases Ai.mp g with e | g
   .subst e
    exact jD B (j.1▸j.2.1)
   .exact J x g
 exact D r x g
end
def Z7(H:Hp)(a:Addr)(y:V)(r:Option V):Prop:=∃kvs k b,H a=some (.dP kvs)/\y=.ref b/\PKey H k b/\r=pY kvs k
def QPut(H:Hp)(a:Addr)(y v:V)(H':Hp):Prop:=∃kvs k b,H a=some (.dP kvs)/\y=.ref b/\PKey H k b/\kvs.length < sizeLine/\H'=upd H a (.dP (qV kvs k v))
section
variable {X:Cx}{pins:List (Addr×Obj)}{σ:St}{H:Hp}{s:Shared}{a:Addr}{y v:V}{u r:Value}{o:Option V}{A:Around}{E:Value->Shared->Prop}
theorem KR(G:A.units+2 < cLine)(I:Inv X pins σ H s)(g:Z7 H a y (some v))(N:RelV y u)(h:∀j s',Inv X pins σ H s'->RelV v j->Q j s'):
  wpAny (model X.prog X.w) A (getItem (.ref a) u) Q E s:=by
 obtain⟨kvs,k,b,e,rfl,B,l⟩:=g;cases N;obtain⟨z,O,xs,L,q⟩:=Xr I.hok e;refine oQ (RelO.some_of (l▸L.val k)) fun j J M=>oQ (Option.map_eq_some_iff.mp J) fun p D F=>?_;exact wpAny_getItem_heap (lJ G) (jD I.hok B) q D (F▸h j _ (I.tok _) M)
theorem p_in(F:A.units+2 < cLine)(I:Inv X pins σ H s)(g:Z7 H a y o)(J:RelV y u)(h:∀s',Inv X pins σ H s'->Q (.bool o.isSome) s'):
  wpAny (model X.prog X.w) A (compareOp .In u (.ref a)) Q E s:=by
 obtain⟨kvs,k,b,e,rfl,B,l⟩:=g;cases J;obtain⟨z,D,xs,G,j⟩:=Xr I.hok e
 apply wpAny_in_heap (lJ F) (jD I.hok B) D j
 have q:=(G.val k).isSome_eq;rw[Option.isSome_map] at q;exact q▸l▸h _ (I.tok _)
theorem KQ(Y:A.units+2 < cLine)(I:Inv X pins σ H s)(g:QPut H a y v H')(ry:RelV y u)(Z:RelV v r)(h:∀s',Inv X pins σ H' s'->Q () s'):
  wpAny (model X.prog X.w) A (setItem (.ref a) u r) Q E s:=by
 refine el35 g fun kvs k b e M j l L=>?_;subst M L;cases ry;obtain⟨z,U,xs,F,G⟩:=Xr I.hok e;have hz:xs.length<=sizeLine:=by rwa [<- Paired.length F]
 have W:(qV kvs k v).length<=sizeLine:=by have:=xW kvs k v;lia
 refine wpAny_setItem_heap (lJ Y) (jD I.hok j) G fun h' J hs=>h _ (el36 J fun q es ep D h2 N O _ S=>cH I (e▸True.intro) hs ⟨q,D⟩ ⟨W,U,_,(F.put k j Z).keeps fun c ys B=>?_,q,es,ep,D,h2,N,O,S⟩);rw[mQ (Yc B e (fun z=>nomatch z))];exact B
theorem p_get1(J:A.units+2 < cLine)(I:Inv X pins σ H s)(g:Z7 H a y o)(M:RelV y u)(h:∀D s',Inv X pins σ H s'->RelV (o.getD .non) D->Q D s'):
  wpAny (model X.prog X.w) A (call (.builtin "dict.get") [.ref a,u]) Q E s:=by
 obtain⟨kvs,k,b,e,rfl,F,l⟩:=g;cases M;obtain⟨z,G,xs,L,B⟩:=Xr I.hok e;refine DN Bt B.typeIs DP (PySem.F.args_dict_get_2 _ _) (meetsH_dict_get (bG (qX X.prog X.w)) a b G) ⟨lJ J,k,xs,jD I.hok F,B,h _ _ (I.tok _) ?_⟩;rw[l];have q:=L.val k
 cases z:pY kvs k with
 |none =>
  cases j:atKey xs k with
  |none=>rfl
  |some p=>rw[z,j] at q;exact q.elim
 |some N =>
  cases j:atKey xs k with
  |none=>rw[z,j] at q;exact q.elim
  |some p=>rwa [z,j] at q
theorem J7{kvs:List (wK×V)}(I:Inv X pins σ H s)(e:H a=some (.dP kvs)):s.TypeIs (.ref a) "dict":=by
 obtain⟨_,_,xs,_,g⟩:=Xr I.hok e;exact g.typeIs
end
section
variable {X:Cx}{o i e value:Expr}{pos pos':Pos}{td ty tv:TE}
def tPGet(td ty:TE):TE:=fun σ H Q=>td σ H fun x H1=>ty σ H1 fun y H2=>∃a v,x=.ref a/\Z7 H2 a y (some v)/\Q v H2
def sPPut(td ty tv:TE):TS:=fun D σ H=>tv σ H fun v H1=>td σ H1 fun x H2=>ty σ H2 fun y j=>∃a g,x=.ref a/\QPut j a y v g/\D.nx σ g
theorem pe_pget(F:X.A.units+2 < cLine)(D:PE X o td)(hi:PE X i ty)(hs:Z8 i):PE X (.Subscript o i pos) (tPGet td ty):=by
 intro pins s σ H Q I h;refine Jq PySem.F.slot_dict_getitem.lookup hs (thn (D pins s σ H _ I h) fun u O ⟨x,H1,q,M,G⟩=>thn (hi pins O σ H1 _ q G) fun U W S=>?_);obtain⟨y,H2,j,N,a,v,rfl,g,J⟩:=S;obtain rfl:u=Value.ref a:=M;exact⟨let ⟨_,_,_,e,_⟩:=g;J7 j e,KR F j g N fun Z Y B L=>⟨v,H2,B,L,J⟩⟩
theorem op_pin(B:X.A.units+2 < cLine):OpR X (compareOp .In) (fun y x H Q=>∃a o,x=.ref a/\Z7 H a y o/\Q (.bl o.isSome) H):=by
 intro pins s σ H y x v u Q I F D h;obtain⟨a,o,rfl,g,q⟩:=h;cases D;exact p_in B I g F fun G j=>⟨.bl o.isSome,H,j,rfl,q⟩
theorem ps_pput(J:X.A.units+2 < cLine)(G:PE X o td)(hi:PE X i ty)(L:PE X value tv)(hs:swapsWith value (some (.Subscript o i pos')) pos.line X.env=pure false):
  PS X (.Assign [.Subscript o i pos'] value pos) (sPPut td ty tv):=by
 intro pins s σ H ab I h;refine wpAny_Assign_Subscript (thn (L pins s σ H _ I h) fun r Y ⟨v,H1,q,S,M⟩=>thn (G pins Y σ H1 _ q M) fun u Z ⟨x,H2,B,U,N⟩=>thn (hi pins Z σ H2 _ B N) fun iv ae zq=>?_) hs;obtain⟨y,H3,D,W,a,j,rfl,g,O⟩:=zq;obtain rfl:u=Value.ref a:=U;exact KQ J D g W S fun af F=>⟨σ,j,F,O⟩
def tPNew:TE:=fun _ H Q=>∀p,H p=none->Q (.ref p) (upd H p (.dP []))
theorem Gf(h:Heap)(q:sysModules < h.objs.size):ObjOk P w H (h.push { cls:=.type "dict",data:=.dict #[] }) h.objs.size (.dP []):=by
 obtain⟨z,y,xs,r,rest⟩:=(show ObjOk P w H (h.push { cls:=.type "dict",data:=.dict #[] }) h.objs.size (.dT []) from vR h q);refine el35 rest fun o es ep h1 h2 g j B=>?_;cases r;exact⟨z,y,[],.nil,o,es,ep,h1,h2,g,j,BZ⟩
theorem pe_pnew:PE X (.Dict [] [] pos) tPNew:=by
 intro pins s σ H Q I h;exact wpAny_Dict_empty ⟨.ref s.heap.objs.size,_,I.laid (t':=s.toks) (fun _ _ q=>AC _ q) (AJ _) (Gf s.heap I.big),rfl,h _ (I.hok.fresh (AJ _))⟩
end
end L2
namespace CL
open PySem PySem.Spec L2 PySem.W
open PyProof.Rows hiding St
section
variable {X:Cx}{a b c e o i f value:Expr}{es:List Expr}{pos pos':Pos}
@[irreducible] def cInt:GC:=fun ts C Q=>match ts with
 |[.bl b]=>Q (.int (if b then 1 else 0)) C
 |[.int i]=>Q (.int i) C
 |_=>False
theorem tH{K}:Cbi K (fun xs H Q=>(∃i,xs=[.int i]/\Q (.int i) H)\/∃k,xs=[.bl k]/\Q (.int (if k then 1 else 0)) H) cInt:=fun xs ts H C Q R rs h q f=>by
 delta cInt at q
 split at q
 .obtain ⟨v,rfl,r⟩:=oX rs
  cases r;exact .inr ⟨_,rfl,f _ H _ C q (.int _) h Fw.refl⟩
 .obtain ⟨v,rfl,r⟩:=oX rs
  cases r;exact .inl ⟨_,rfl,f _ H _ C q (.int _) h Fw.refl⟩
 .exact q.elim
@[irreducible] def cCatT:R2C:=fun x y C Q=>match x,y with
 |.tup xs,.tup ys=>xs.length+ys.length<=sizeLine/\Q (.tup (xs++ys)) C
 |_,_=>False
@[irreducible] def qN:PV->List PV->CH->K1->Prop:=fun x ts C Q=>match x,ts with
 |.ref a,[.ref b]=>match C a,C b with
  |some (.lst xs),some (.lst ys)=>xs.length+ys.length<=sizeLine/\Q .non (vQ C a (.lst (xs++ys)))
  |_,_=>False
 |_,_=>False
theorem lR{K}:Cmt K Ju qN:=fun x L xs ps H C Q R I rs h q f=>by
 delta qN at q
 split at q
 .split at q
  .next ys zs j F =>
   refine oQ (h _ _ j) fun vs g B=>oQ (h _ _ F) fun J G D=>?_;obtain⟨v,rfl,r⟩:=oX rs;cases I;cases r
   exact⟨_,_,vs,J,rfl,rfl,g,G,by exact B.len▸D.len▸q.1,f _ _ _ _ q.2 .non (h.put g rfl ⟨_,bQ,(B.append D).imm (Imm.mut g rfl _)⟩) (Fw.put j _ _)⟩
  .exact q.elim
 .exact q.elim
def cBM0(j:PV->List PV->CH->K1->Prop)(g:TCE):TCE:=fun q C Q=>g q C fun x C1=>isL x C1/\j x [] C1 Q
theorem ZT{id}{apos cpos}(S:PlainAttrs "list")(Z:Slot "list" name id)(O:typeOf (.builtin id)=pure (.type "method_descriptor"))(L:MtR X id r)(N:Cmt X.K r D)(M:CE X o B)(I:attributeBase o name X.env (eval o X.env)=eval o X.env:=by rfl)(J:(apos.endLine==cpos.line)=true:=by rfl):CE X (.Call (.Attribute o name apos) [] [] cpos) (cBM0 D B):=⟨JE.weak (Zv S Z O L M.h I J) fun σ H Q ⟨ρ,C,R,s,h,q,f⟩ =>
 ⟨ρ,C,_,s,h,q,fun x H1 U C1 g j h1 G=>⟨YG g.1 j h1,N x U [] [] H1 C1 Q R j .nil h1 g.2 fun v H' t C' W Y h' F=>f v H' t C' W Y h' (G.trans F)⟩⟩⟩
@[irreducible] def iD:PV->List PV->CH->K1->Prop:=fun x ts C Q=>match x,ts with
 |.ref a,[]=>match C a with
  |some (.lst xs)=>Q .non (vQ C a (.lst xs.reverse))
  |_=>False
 |_,_=>False
theorem Xy{K}:Cmt K QB iD:=fun x F xs ps H C Q R D rs h q f=>by
 delta iD at q
 split at q
 .split at q
  .next ys j =>
   obtain⟨vs,g,B⟩:=(h _ _ j);cases rs;cases D;exact⟨_,vs,rfl,rfl,g,f _ _ _ _ q .non (h.put g rfl ⟨_,bQ,B.reverse.imm (Imm.mut g rfl _)⟩) (Fw.put j _ _)⟩
  .exact q.elim
 .exact q.elim
@[irreducible] def cClear:PV->List PV->CH->K1->Prop:=fun x ts C Q=>match x,ts with
 |.ref a,[]=>match C a with
  |some (.lst xs)=>Q .non (vQ C a (.lst []))
  |_=>False
 |_,_=>False
@[irreducible] def cSlT:PV->Option Int->Option Int->CH->K1->Prop:=fun x lo hi C Q=>match x with
 |.tup xs=>¬ (HT.sIx xs.length 0 lo=0/\HT.sIx xs.length xs.length hi=xs.length)/\Q (.tup (xZ xs lo hi)) C
 |_=>False
theorem Gz{lo}(S:CE X e J)(U:CPt X lo L)(W:CPt X hi ch):CE X (.Subscript e (.Slice lo hi none p2) pos) (cSl cSlT J L ch):=⟨JE.weak (Q7 sl_tup S.h U.h W.h) fun σ H Q ⟨F,C,R,s,h,q,f⟩ =>
 ⟨F,C,_,s,h,q,fun x H1 px C1 Y rx h1 j=>⟨F,C1,_,s.imm (j.imm h),h1,Y,fun l H2 l' C2 Z M h2 B=>⟨F,C2,_,(s.imm (j.imm h)).imm (B.imm h1),h2,Z,fun u H3 u' I g N O G=>by
  cases M;cases N
  delta cSlT at g
  split at g
  .have ab:=rx.imm ((B.trans G).imm h1)
   cases ab with
   |@tup a vs ts e r =>
    exact⟨a,vs,rfl,SqT.of e,by rw[r.len];exact g.1,fun p D=>f _ _ _ I g.2 (.tup bQ ((r.cut l u).imm (Imm.new D _))) (O.new D _) (j.trans (B.trans (G.trans (Fw.new D _))))⟩
  .exact g.elim⟩⟩⟩⟩
noncomputable def xO:List PV->Option wK
 |[]=>some []
 |t::r=>match zF t,xO r with
  |some k,some g=>some (k::g)
  |_,_=>none
def zH:PV->Option wK
 |.tup ts=>xO ts
 |_=>none
theorem KL{K}(r:Reps K H vs ts)(e:xO ts=some j):∃bs,vs=bs.map V.ref/\Paired (fun g c=>H c=some (.tup (g.map kV))) j bs:=by
 induction ts generalizing vs j with
 |nil=>cases r;cases e;exact⟨[],rfl,.nil⟩
 |cons t ts F =>
  cases r with
  |cons h r =>
   unfold xO at e
   split at e
   .next k g q B =>
    cases e;obtain⟨b,rfl,D⟩:=lU h q;obtain⟨bs,rfl,p⟩:=F r B;exact⟨b::bs,rfl,.cons D p⟩
   .cases e
theorem xD{K}(r:Rep K H v t)(e:zH t=some g):∃b,v=.ref b/\PKey H g b:=by
 cases r<;>try (cases e)
 next a vs ts h r =>
  obtain⟨bs,rfl,p⟩:=KL r e;exact⟨a,rfl,bs,h,p⟩
def cPNew:TCE:=fun _ C Q=>∀p,C p=none->Q (.ref p) (vQ C p (.dP []))
theorem Kg:CE X (.Dict [] [] pos) cPNew:=⟨JE.weak ⟨pe_pnew⟩ fun σ H Q ⟨j,C,R,s,h,q,f⟩=>fun p g=>f (.ref p) _ (.ref p) _ (q p (h.fresh g)) (.ref p) (h.lay g ⟨[],bQ,.nil⟩) (Fw.lay g _ _)⟩
@[irreducible] def cPIx:R2C:=fun x y C Q=>match x with
 |.ref a=>match C a,zH y with
  |some (.dP kvs),some k=>match pK kvs k with
   |some v=>Q v C
   |none=>False
  |_,_=>False
 |_=>False
theorem GA(U:X.A.units+2 < cLine)(S:CE X o J)(hi:CE X i I)(hs:Z8 i):CE X (.Subscript o i pos) (cOp cPIx J I):=⟨JE.weak ⟨pe_pget U S.h.h hi.h.h hs⟩ fun σ H Q ⟨G,C,R,s,h,q,f⟩ =>
 ⟨G,C,_,s,h,q,fun x H1 px C1 Y rx h1 D=>⟨G,C1,_,s.imm (D.imm h),h1,Y,fun y H2 ae C2 g ry h2 F=>by
  delta cPIx at g
  split at g
  .next a =>
   split at g
   .next kvs k L M =>
    split at g
    .next t B =>
     have ab:=rx.imm (F.imm h1);cases ab;refine oQ (h2 a _ L) fun vs O r=>?_;obtain⟨b,rfl,N⟩:=xD ry M
     rcases FP.val r k with ⟨v,t',W,j,Z⟩ | ⟨_,j⟩
     .rw [B] at j
      cases j;exact⟨a,v,rfl,⟨vs,k,b,O,rfl,N,W.symm⟩,f v H2 t C2 g Z h2 (D.trans F)⟩
     .rw [B] at j;cases j
    .exact g.elim
   .exact g.elim
  .exact g.elim⟩⟩⟩
@[irreducible] def cPIn:R2C:=fun y x C Q=>match x with
 |.ref a=>match C a,zH y with
  |some (.dP kvs),some k=>Q (.bl (pK kvs k).isSome) C
  |_,_=>False
 |_=>False
theorem cop_pin{K}:Cop K (fun y x H Q=>∃a o,x=.ref a/\Z7 H a y o/\Q (.bl o.isSome) H) cPIn:=fun y x M L H C Q R J I h q f=>by
 delta cPIn at q
 split at q
 .next a =>
  split at q
  .next kvs k B D =>
   cases I;obtain⟨vs,G,r⟩:=(h a _ B);obtain⟨b,rfl,F⟩:=xD J D;refine⟨a,pY vs k,rfl,⟨vs,k,b,G,rfl,F,rfl⟩,?_⟩
   rcases FP.val r k with ⟨v,t',g,j,N⟩ | ⟨g,j⟩
   .rw [j] at q;exact g▸f _ H _ C q (.bl _) h Fw.refl
   .rw [j] at q;exact g▸f _ H _ C q (.bl _) h Fw.refl
  .exact q.elim
 .exact q.elim
@[irreducible] def Ko:PV->PV->PV->CH->(CH->Prop)->Prop:=fun x y v C Q=>match x with
 |.ref a=>match C a,zH y with
  |some (.dP kvs),some k=>kvs.length < sizeLine/\Q (vQ C a (.dP (putG kvs k v)))
  |_,_=>False
 |_=>False
def cPPut(D B F:TCE):TCS:=fun E g C=>F g C fun v C1=>D g C1 fun x C2=>B g C2 fun y j=>Ko x y v j fun q=>E.nx g q
theorem Kc{J L}(Y:X.A.units+2 < cLine)(W:CE X o O)(hi:CE X i J)(Z:CE X value L)(hs:swapsWith value (some (.Subscript o i pos')) pos.line X.env=pure false:=by rfl):
  CS X (.Assign [.Subscript o i pos'] value pos) (cPPut O J L):=⟨JS.weak ⟨ps_pput Y W.h.h hi.h.h Z.h.h hs⟩ fun af σ H ⟨F,C,E,s,h,q,f⟩ =>
 ⟨F,C,_,s,h,q,fun v H1 ag C1 q1 rv h1 j=>⟨F,C1,_,s.imm (j.imm h),h1,q1,fun x H2 px C2 q2 rx h2 B=>⟨F,C2,_,(s.imm (j.imm h)).imm (B.imm h1),h2,q2,fun y I ah C3 g ry N D=>by
  have ab:=rv.imm ((B.trans D).imm h1)
  delta Ko at g
  split at g
  .next a =>
   split at g
   .next kvs k M S =>
    have ae:=rx.imm (D.imm h2);cases ae;refine oQ (N a _ M) fun vs G r=>?_;obtain⟨b,rfl,U⟩:=xD ry S;have m:Imm I (upd I a (.dP (qV vs k v))):=Imm.mut G rfl _;refine⟨a,_,rfl,⟨vs,k,b,G,rfl,U,by exact(Paired.length r)▸g.1,rfl⟩,f.nx σ _ F _ g.2 ((((s.imm (j.imm h)).imm (B.imm h1)).imm (D.imm h2)).imm m) (N.put G rfl ⟨_,bQ,Paired.mapP (FP.putG r k ab) fun _ _ z=>⟨z.1,z.2.imm m⟩⟩) (j.trans (B.trans (D.trans (Fw.put M _ _))))⟩
   .exact g.elim
  .exact g.elim⟩⟩⟩⟩
end
inductive Pl:Nat->PV->Prop
 |non {d:Nat}:Pl d .non
 |bl {d:Nat} (b:Bool):Pl d (.bl b)
 |int {d:Nat} (i:Int):Pl d (.int i)
 |str {d:Nat} (x:Str):Pl d (.str x)
 |tup {d:Nat} {ts:List PV} (h:∀t∈ts,Pl d t):Pl (d+1) (.tup ts)
section
variable {X:Cx}{pins:List (Addr×Obj)}{σ:St}{H:Hp}{s:Shared}
theorem lC(I:∀t∈ts,∀{A:Around}{v L:V}{u J:Value},Rep X.K H v t->Rep X.K H L t->RelV v u->RelV L J->A.units+d < cLine->SeqAt.EqAt A s u J true)(W:A.units+d < cLine)(q:Reps X.K H vs ts)(B:Reps X.K H M ts)(D:Vals vs G)(F:Vals M g):
  G.length=g.length/\∀j h1(h2:j < g.toArray.size),SeqAt.EqAt A s G.toArray[j] g.toArray[j] true:=by
 induction ts generalizing vs M G g with
 |nil =>
  cases q;cases B;cases D;cases F
  exact⟨rfl,fun j h1=>absurd h1 (by simp)⟩
 |cons t ts Y =>
  cases q with
  |cons N q =>
   cases B with
   |cons O B =>
    cases D with
    |cons S D =>
     cases F with
     |cons U F =>
      obtain⟨l,k⟩:=Y (fun t' m=>I t' (AH _ m)) q B D F;refine⟨by rw[AL,AL,l],fun j h1 h2=>?_⟩
      cases j with
      |zero=>exact I t AE N O S U W
      |succ j =>
       have:=k j (by simp_all) (by simp_all)
       simpa using this
theorem eq_deep(I:Inv X pins σ H s)(p:Pl d t):∀{A}{v B}{u q},Rep X.K H v t->Rep X.K H B t->RelV v u->RelV B q->A.units+d < cLine->SeqAt.EqAt A s u q true:=by
 induction p with
 |non =>
  intro A v B u q r j e g D;cases r;cases j
  cases e;cases g
  exact DS _
 |bl b =>
  intro A v B u q r j e g D;cases r;cases j
  cases e;cases g
  exact DS _
 |int i =>
  intro A v B u q r j e g D;cases r;cases j
  obtain⟨F,rfl⟩:=e;obtain⟨G,rfl⟩:=g;have:=SeqAt.EqAt.int_int (A:=A) (s:=s) i F i G
  rwa [beq_self_eq_true] at this
 |str x =>
  intro A v B u q r j e g D;cases r;cases j
  obtain⟨F,rfl⟩:=e;obtain⟨G,rfl⟩:=g;have:=SeqAt.EqAt.str_str (A:=A) (s:=s) x F x G
  rwa [beq_self_eq_true] at this
 |@tup d ts hp ih =>
  intro A v B u q r j e g D
  cases r with
  |@tup N vs _ S r1 =>
   cases j with
   |@tup O ab _ U r2 =>
    cases e;cases g
    by_cases J:N=O
    .subst J;exact DS _
    .refine jZ (I.tuple (SqT.of S)) fun L w1 p1 _=>jZ (I.tuple (SqT.of U)) fun M w2 p2 _=>?_
     have Z:A.in1.units+d < cLine :=by lia
     obtain⟨Y,W⟩:=lC (fun t m=>ih t m) Z r1 r2 w1 w2;have R:=SeqAt.RcAt.tuples p1 p2 (by lia) W;rw[show((List.range (min L.toArray.size M.toArray.size)).all (fun _=>true)&&L.toArray.size==M.toArray.size)=true by simp[Y]] at R;exact SeqAt.EqAt.of_refs J R
end
section
variable {X:Cx}
abbrev rNeD(K:Dj)(d:Nat):R2:=fun x y H Q=>∃a b vs ws ts,x=.ref a/\y=.ref b/\H a=some (.lst vs)/\H b=some (.lst ws)/\Reps K H vs ts/\Reps K H ws ts/\(∀t∈ts,Pl d t)/\Q (.bl false) H
theorem op_neD(F:X.A.units+1+d < cLine):OpR X (compareOp .NotEq) (rNeD X.K d):=by
 intro pins s σ H x y v u Q I N O h;obtain⟨a,b,vs,Z,ts,rfl,rfl,g,j,L,M,D,q⟩:=h;cases N;cases O;refine jZ (I.list (SqL.of g)) fun G S J _=>jZ (I.list (SqL.of j)) fun Y U p2 _=>?_;obtain⟨W,B⟩:=lC (A:=X.A.in1) (fun t m=>eq_deep I (D t m)) F L M S U;have R:=SeqAt.RcNeAt.lists J.isList p2.isList (by grind) (by lia) B;rw[show(!(List.range G.toArray.size).all fun _=>true)=false by simp] at R
 exact R _ _ _ _ ⟨.bl false,H,I,rfl,q⟩
@[irreducible] def cNeD(d:Nat):R2C:=fun x y C Q=>match x,y with
 |.ref a,.ref b=>match C a,C b with
  |some (.lst xs),some (.lst ys)=>xs=ys/\(∀t∈xs,Pl d t)/\Q (.bl false) C
  |_,_=>False
 |_,_=>False
theorem cop_neD{K}: Cop K (rNeD K d) (cNeD d):=fun x y N O H C Q R J L h q f=>by
 delta cNeD at q
 split at q
 .split at q
  .next xs ys g j =>
   obtain⟨rfl,F,q⟩:=q;refine oQ (h _ _ g) fun vs B G=>oQ (h _ _ j) fun M D I=>?_;cases J;cases L
   exact⟨_,_,vs,M,xs,rfl,rfl,B,D,G,I,F,f _ H _ C q (.bl _) h Fw.refl⟩
  .exact q.elim
 .exact q.elim
noncomputable def dN:List PV->Option (List Str)
 |[]=>some []
 |.str x::r=>(dN r).map (x :: ·)
 |_=>none
noncomputable def tiOf:List PV->Option (List (List Str×Int))
 |[]=>some []
 |.tup [.tup g,.int i]::r=>match dN g,tiOf r with
  |some zs,some cs=>some ((zs,i)::cs)
  |_,_=>none
 |_=>none
theorem Wa(e:dN ts=some zs):ts=zs.map PV.str:=by
 induction ts generalizing zs with
 |nil=>cases e;rfl
 |cons t ts g =>
  unfold dN at e
  split at e
  .lia
  .rename_i x r h
   cases h
   cases z:dN ts with
   |none=>rw[z] at e;cases e
   |some ds=>rw[z] at e;cases e;rw[g z];rfl
  .cases e
@[irreducible] def cSortedL:GC:=fun ts C Q=>match ts with
 |[.ref a]=>match C a with
  |some (.lst xs)=>match tiOf xs with
   |some cs=>cs.length < 64/\∀p,C p=none->Q (.ref p) (vQ C p (.lst ((KW cs).map dY)))
   |none=>False
  |_=>False
 |_=>False
end
section
variable {X:Cx}{pos:Pos}
def uK(k:List Key):PV:=.tup (k.map fW)
@[irreducible] def cCompT(j:TCE)(t:TCT)(c:TCE):TCE:=fun g C Q=>j g C fun x C1=>match x with
 |.ref d=>match C1 d with
  |some (.dT kvs)=>rZ t c g (fun v C2=>C2 d=some (.fT kvs)/\Q v (vQ C2 d (.dT kvs))) (kvs.map fun p=>uK p.1) [] (vQ C1 d (.fT kvs))
  |_=>False
 |_=>False
def tOf:Option CO->Option (List (List Key×PV))
 |some (.dT kvs)=>some kvs
 |some (.fT kvs)=>some kvs
 |_=>none
@[irreducible] def cTIy:R2C:=fun x y C Q=>match x with
 |.ref a=>match tOf (C a),zF y with
  |some kvs,some k=>match pK kvs k with
   |some v=>Q v C
   |none=>False
  |_,_=>False
 |_=>False
end
end CL
namespace PySem
section
variable {prog:Program}{w:World}{A:Around}{E:Value->Shared->Prop}{s:Shared}
theorem Zm:typeLookup (.type "list_reverseiterator") "__len__" = pure none:=by rw[DR,Cc];kernel_rfl
theorem Yi:typeLookup (.type "list_reverseiterator") "__length_hint__" = pure (some (.builtin "list_reverseiterator.__length_hint__")):=by kernel_rfl
theorem ZI(hh:A.handled=none)(ai:l≠I)items S res N(L:S≠I)(af:S≠l)(G:s.heap.IsRevIter I l ((items.size:Int) - 1))(hl:s.heap.IsList l items)(Z:s.heap.get? S=some { cls:=.type "list",data:=.seq #[] N })(Y:∀h' tk q g,(∀b o,b≠S->b≠I->s.heap.get? b=some o->h'.get? b=some o)->h'.get? S=some { cls:=.type "list",dict:=none,data:=.seq q g,slots:=#[] } ->
   ItemsOf (fun i v=>items[items.size - 1 - i]?=some v) q items.size->R (.ok (.ret res)) { s with heap:=h',toks:=tk })(hn:items.size<=sizeLine):
  wpAny (model prog w) A.in1 (Builtin.List.listExtendWith (.ref S) (.ref I) res)
   (fun U s'=>match U with | .done f=>R (.ok f) s' | .again g=>g.quiet=true/\codeAny (model prog w) A g R s') (fun e s'=>R (.error e) s') s:=by
 have ae:S∉[I,l]:=fun D=>by
  rcases Ai.mp D with e | e
  .exact L e
  .exact af (AD.mp e)
 have B:=G.typeIs
 delta Builtin.List.listExtendWith
 refine AA (B4 B ?_);have h1:Builtin.List.listSameRef (.ref S) (.ref I)=false:=by simp[Builtin.List.listSameRef,L]
 have h2:(Value.type "list_reverseiterator" == Value.type "list")=false:=by decide
 have h3:(Value.type "list_reverseiterator" == Value.type "tuple")=false:=by decide
 simp only[h1,h2,if_false]
 refine AA (wpAny_pyIter_revIter G (AA (As (AA (BG B Zm (AA (BG B Yi ?_)))))));generalize M:("list_reverseiterator.__length_hint__" : String)=aj
 wp_delta
 rw[show splitId aj=some ("list_reverseiterator","__length_hint__") from by subst M;decide +kernel];subst M;refine AA (B5 (b:=true) B (by kernel_rfl) (CM (fun j=>absurd j (by decide)) (fun _=>?_)));refine CM (fun _=>?_) (fun j=>absurd (by decide +kernel) j);refine CM (fun j=>absurd j (by decide +kernel)) (fun _=>?_)
 apply AF
 have W:=(Walks.listRev (prog:=prog) (w:=w) (A:=A.in1) hh I l ai items).toS;refine AF ⟨BR F.plain_extend_loop _,codeAny_extend_loopS W hn _ ae _ items.size 0 _ _ _ rfl (Ab _) ⟨Ab _,by simpa using G,hl⟩ Z (ItemsOf.nil _) fun s' q g D ab ag=>?_⟩;rw[Moved.eq_with D];refine Y s'.heap s'.toks q g (fun b ob hb ah e=>D.heap b ob (fun J=>?_) e) ab ag
 rcases Ai.mp J with O | J
 .exact hb O
 .exact ah (AD.mp J)
theorem aS(Y:A.handled=none)(ab:l≠I)items S(G:S≠I)(J:S≠l)(Z:s.heap.IsRevIter I l ((items.size:Int) - 1))(hl:s.heap.IsList l items)(B:s.heap.get? S=some { cls:=.type "list",data:=.seq #[] })(M:∀h' F j g,(∀b o,b≠S->b≠I->s.heap.get? b=some o->h'.get? b=some o)->h'.get? S=some { cls:=.type "list",dict:=none,data:=.seq j g,slots:=#[] } ->
   ItemsOf (fun i v=>items[items.size - 1 - i]?=some v) j items.size->R (.ok (.ret .none)) { s with heap:=h',toks:=F })(hn:items.size<=sizeLine):
  wpAny (model prog w) A.in1 (Builtin.«list.__init__» ⟨[.ref S,.ref I],[]⟩)
   (fun L s'=>match L with | .done f=>R (.ok f) s' | .again g=>g.quiet=true/\codeAny (model prog w) A g R s') (fun e s'=>R (.error e) s') s:=by
 apply AA
 refine AA (A1 B rfl (AF (AA (Bg B rfl ?_))));have O:=Ay (Obj.mapSeq (fun _=>(#[]:Array Value))) B rfl
 have D:∀b o,b≠S->s.heap.get? b=some o->(s.heap.update S (Obj.mapSeq (fun _=>(#[]:Array Value)))).get? b=some o :=
  fun b o q e=>(BC _ _ (Ne.symm q)).trans e
 exact AA (De (ZI (s:={ s with heap:=s.heap.update S (Obj.mapSeq (fun _=>(#[]:Array Value))) }) Y ab items S .none _ G J (Z.at fun o e=>D I o (Ne.symm G) e) (hl.at fun o e=>D l o (Ne.symm J) e) O (fun h' F j g hk N U=>M h' F j g (fun b o q W e=>hk b o q W (D b o q e)) N U) hn))
theorem yT(Y:A.handled=none)(ae:l≠I)items(G:s.heap.IsRevIter I l ((items.size:Int) - 1))(J:s.heap.IsList l items)(O:∀h' B g j,(∀b o,b≠I->s.heap.get? b=some o->h'.get? b=some o)->h'.get? s.heap.objs.size=some { cls:=.type "list",dict:=none,data:=.seq g j,slots:=#[] } ->
   ItemsOf (fun i v=>items[items.size - 1 - i]?=some v) g items.size->Q (.ref s.heap.objs.size) { s with heap:=h',toks:=B })(hn:items.size<=sizeLine):
  wpAny (model prog w) A (call (.type "list") [.ref I]) Q E s:=by
 have N:=let ⟨o,q,_⟩:=G;AI q
 have ab:=let ⟨o,q,_⟩:=J;AI q
 refine Df (Q₁:=fun L M=>L=.ref s.heap.objs.size/\M={ s with heap:=s.heap.push { cls:=.type "list",data:=.seq #[] } }) F.called_list (F.typeCall_list_1 _) F.entry_list_init
  (code_list_new _ ⟨rfl,rfl⟩) fun L M af=>?_
 obtain⟨rfl,rfl⟩:=af;have D:(s.heap.push { cls:=.type "list",data:=.seq #[] }).get? s.heap.objs.size=some { cls:=.type "list",data:=.seq #[] }:=AM _ rfl;refine⟨⟨_,D,rfl⟩,F.args_list_init_2 _ _,aS (A:=A.in1) Y ae items _ (fun e=>A7 _ (e▸N)) (fun e=>A7 _ (e▸ab)) (G.at fun o e=>AC _ e) (J.at fun o e=>AC _ e) D (fun h' B g j Z S U=>?_) hn⟩
 exact⟨rfl,O h' B g j (fun b o W e=>Z b o (AZ (AI e)) W (AC _ e)) S U⟩
end
end PySem
namespace L2
open PySem PySem.W PyProof.Rows
def drop(H:Hp)(a:Addr):Hp:=fun b=>if b=a then none else H b
theorem aO: drop H a a=none :=by grind[drop]
theorem dH(h:b≠a):drop H a b=H b :=by grind[drop]
theorem Gb(h:H a=none):drop (upd H a o) a=H :=by grind[aO,dH,mQ]
section
variable {X:Cx}{pins:List (Addr×Obj)}{σ:St}{H:Hp}{s:Shared}{h':Heap}
theorem Inv.gone{l:Addr}(I:Inv X pins σ H s)(j:H it=some (.ext U))(h0:X.s₀.heap.objs.size<=it)(k:∀b o,b≠it->s.heap.get? b=some o->h'.get? b=some o)(D:s.heap.objs.size<=l)(O:ObjOk X.prog X.w (upd (drop H it) l o) h' l o):Inv X pins σ (upd (drop H it) l o) { s with heap:=h',toks:=t' }:=by
 have S:∀{b u},H b=some u->b≠l:=fun e z=>by rw[z,(I.hok.fresh D)] at e;cases e
 have N:∀{b u},H b=some u->(∀F,u≠.ext F)->b≠it:=fun e h z=>by rw[z,j] at e;exact h U (Av e).symm
 have B:∀{b u},H b=some u->(∀F,u≠.ext F)->upd (drop H it) l o b=some u:=fun e h=>by rwa [mQ (S e),dH (N e h)]
 refine I.step (g':=s.gens) (d':=s.drawn) (ch:=[it]) (fun b W=>?_) (fun b o _ _ g e _=>k b o (fun z=>g (by simp[z])) e) (fun b o _ _ g e _=>⟨o.slots,k b o (fun z=>g (by simp[z])) e⟩) (fun b u g e n=>?_)
  (fun b o g e=>⟨o,k b o (fun z=>g (by simp[z])) e⟩) (fun b xs e=>B e fun _ z=>nomatch z) (fun b o u e=>B e fun _ z=>nomatch z) (fun b ps e=>⟨#[],by rw[B e fun _ z=>nomatch z];simp⟩) (fun m L=>?_) (fun b u e=>?_) I.bare
 .have e:b=it :=by grind
  subst e;refine⟨.inr h0,fun z=>?_,fun x c e z=>?_,fun p D z=>?_⟩
  .rw [z,I.free] at j;cases j
  .have:=I.freeC x c e;rw[z,j] at this;cases this
  .have:=(I.pin p D).2.1;rw[z,j] at this;cases this
 .rw [mQ (AZ (AV (AI e) D)),dH (fun z=>g (by simp[z]))];exact n
 .exact ZJ L fun o es ep M r=>⟨o,es,ep,k _ o (fun z=>by have:=I.free;rw[z,j] at this;cases this) M,r⟩
 .by_cases J:b=l
  .subst J;rw[bQ] at e;cases e;exact O
  .rw [mQ J] at e
   by_cases G:b=it
   .rw [G,aO] at e;cases e
   .rw [dH G] at e
    refine(I.hok b u e).stay (fun c v g q=>k c v ?_ q) (fun c q=>B q fun _ z=>nomatch z) fun c xs q=>B q fun _ z=>nomatch z
    rcases g with z | z
    .rwa [z]
    .lia
end
section
variable {X:Cx}
abbrev isRev(z:Nat)(it p:Addr)(n:Nat):Heap->Prop:=fun h=>z<=it/\h.IsRevIter it p ((n:Int) - 1)
theorem vT:CallR X (.type "reversed") (fun xs H Q=>∃p ys,xs=[.ref p]/\H p=some (.lst ys)/\∀it,H it=none->Q (.ref it) (upd H it (.ext (isRev X.s₀.heap.objs.size it p ys.length)))):=by
 intro pins s σ H xs J Q I r h;obtain⟨p,ys,rfl,j,q⟩:=h;obtain⟨u,rfl,rfl⟩:=fU r;refine jZ (I.list (SqL.of j)) fun G D B F=>call_reversed_list B.isList ⟨.ref s.heap.objs.size,_,I.laid (t':=s.toks) (fun b o e=>AC _ e) (AJ _) ?_,rfl,q _ (I.hok.fresh (AJ _))⟩;refine⟨⟨I.sz,_,AM _ rfl,rfl,by simp[revObj,D.length]⟩,⟨_,AM _ rfl⟩,?_⟩
 rintro h1 h2 ⟨z,g⟩ e;exact⟨z,g.at e⟩
theorem VW(r:Vals ys j):Vals ys.reverse j.reverse:=by
 induction r with
 |nil=>exact .nil
 |cons h _ g=>rw[Bj,Bj];exact g.append (.cons h .nil)
theorem gI(M:X.calm=true):CallR X (.type "list") (fun xs H Q=>∃it p ys,xs=[.ref it]/\H it=some (.ext (isRev X.s₀.heap.objs.size it p ys.length))/\H p=some (.lst ys)/\∀l,H l=none->Q (.ref l) (upd (drop H it) l (.lst ys.reverse))):=by
 intro pins s σ H xs ae Q I r h;obtain⟨it,p,ys,rfl,hi,j,q⟩:=h;obtain⟨u,rfl,rfl⟩:=fU r;obtain⟨g,F,U,O⟩:=(I.list (SqL.of j));have Z:=F.length;obtain⟨⟨h0,ab⟩,_,_⟩:=(I.hok it _ hi);have N:p≠it:=fun z=>by rw[z,hi] at j;cases j
 refine yT (I.ok.hd M) N g.toArray (by grind) U.isList (fun h' W B G S e D=>?_) (by grind)
 have L:B=g.reverse.toArray:=by
  apply Array.ext
  .rw [D.1,Ao,Ao,Bk]
  .intro i h1 h2
   have:=D.2 i B[i] (Bf h1);rw[Ao,Cd] at this;have Y:i < g.length :=by simp_all
   rw[AK (by omega)] at this;have J:g.reverse.toArray[i]=g[g.length - 1 - i]:=by simp
   exact J▸(Av this).symm
 subst L;exact⟨.ref s.heap.objs.size,_,I.gone (t':=W) hi h0 S (AJ _) (show ObjOk X.prog X.w _ h' _ (.lst ys.reverse) from⟨by rw[Bk];exact O,g.reverse,G,VW F,e⟩),rfl,q _ (I.hok.fresh (AJ _))⟩
end
end L2
namespace CL
open PySem PySem.Spec L2 PySem.W
open PyProof.Rows hiding St
section
variable {X:Cx}{a b c e o i f value:Expr}{es:List Expr}{pos pos':Pos}
@[irreducible] def cRev:PV->CH->K1->Prop:=fun x C Q=>match x with
 |.ref a=>match C a with
  |some (.lst xs)=>∀p,C p=none->Q (.ref p) (vQ C p (.lst xs.reverse))
  |_=>False
 |_=>False
def GO(g:TCE):TCE:=fun j C Q=>g j C fun x C1=>cRev x C1 Q
theorem ZS(J:X.calm=true)(M:Gl X "list")(N:Gl X "reversed")(O:X.mg "list" = none)(S:X.mg "reversed" = none)(L:CE X e F)(hs:sQ e=true:=by rfl):
  CE X (.Call (.Name "list" p) [.Call (.Name "reversed" p2) [e] [] ab] [] pos) (GO F):=⟨JE.weak (dG (gI J) M O rfl (wM (dG vT N S rfl (wM L.h dC hs) (by decide) rfl hs rfl) dC)) fun σ H Q ⟨Z,C,R,s,h,q,f⟩ =>
  ⟨Z,C,_,s,h,q,fun x H1 px C1 j Y h1 I=>by
   delta cRev at j
   split at j
   .split at j
    .next xs G =>
     obtain⟨vs,B,W⟩:=(h1 _ _ G);cases Y;refine⟨_,vs,rfl,B,fun it D=>⟨it,_,vs,rfl,bQ,?_,fun l g=>?_⟩⟩
     .rw [mQ (fun z=>by rw[z,D] at B;cases B)];exact B
     .have U:l≠it:=fun z=>by rw[z,bQ] at g;cases g
      rw[mQ U] at g;rw[Gb D];exact f _ _ _ _ (j l (h1.fresh g)) (.ref l) (h1.lay g ⟨_,bQ,W.reverse.imm (Imm.new g _)⟩) (I.trans (Fw.lay g _ _))
    .exact j.elim
   .exact j.elim⟩⟩
def rngPV(n:Nat):List PV:=(List.range n).map fun k=>PV.int (k:Nat)
@[irreducible] def cRng:PV->CH->K1->Prop:=fun x C Q=>match x with
 |.int j=>0<=j/\j<=100000/\∀p,C p=none->Q (.ref p) (vQ C p (.lst (rngPV j.toNat)))
 |_=>False
@[irreducible] def cPop:PV->List PV->CH->K1->Prop:=fun x ts C Q=>match x,ts with
 |.ref a,[]=>match C a with
  |some (.lst xs)=>match xs[xs.length - 1]? with
   |some y=>Q y (vQ C a (.lst xs.dropLast))
   |none=>False
  |_=>False
 |_,_=>False
theorem Ke{K}:Cmt K rPop cPop:=fun x L xs ps H C Q R J rs h q f=>by
 delta cPop at q
 split at q
 .split at q
  .next ys B =>
   split at q
   .next y D =>
    obtain⟨vs,g,j⟩:=(h _ _ B);cases rs;cases J;obtain⟨v,G,I⟩:=(j.get D)
    have F:Reps K H vs.dropLast ys.dropLast:=by
     rw[List.dropLast_eq_take,List.dropLast_eq_take,j.len];exact j.take _
    exact⟨_,vs,v,rfl,rfl,g,by exact j.len▸G,f _ _ _ _ q (I.imm (Imm.mut g rfl _)) (h.put g rfl ⟨_,bQ,F.imm (Imm.mut g rfl _)⟩) (Fw.put B _ _)⟩
   .exact q.elim
  .exact q.elim
 .exact q.elim
@[irreducible] def cTru(c:TCE):TCT:=fun g C Q=>c g C fun x C1=>match x with
 |.ref a=>match C1 a with
  |some (.lst xs)=>Q (!xs.isEmpty) C1
  |_=>False
 |_=>False
theorem Gk{c}(h:CE X e c)(F:gG e=true:=by rfl):CT X e (cTru c):=⟨JT.weak (Ys h.h F) fun σ H Q ⟨J,C,R,s,h,q,f⟩=>by
 delta cTru at q
 exact⟨J,C,_,s,h,q,fun x H1 L C1 g I h1 D=>by
  split at g
  .split at g
   .next xs j =>
    refine oQ (h1 _ _ j) fun vs B G=>?_;cases I;refine⟨!xs.isEmpty,.inl ⟨vs,SqL.of B,?_⟩,f _ H1 _ C1 g rfl h1 D⟩;have:=G.len;cases vs<;>cases xs<;>simp_all
   .exact g.elim
  .exact g.elim⟩⟩
def GM(c:Addr)(m:Str)(G:GC)(g:TCE):TCE:=fun j C Q=>g j C fun x C1=>rO c m x C1/\G [x] C1 Q
theorem GB{c}(N:Cls X.K c)(O:GX X.K c m J)(F:FnOk X.prog X.w X.K X.mg X.base CX k J fd ps (spC X.K G))(U:Room k X.A)(M:Binds X.K fd ps [])(Y:aV CX X E)(S:CE X o q)(W:eval (.Call (.Attribute o m apos) [] [] pos) X.env=(do
   let g <- eval o X.env
   standAt apos.atName
   let (f,first) <- holding [g] (getMethod g m pl)
   callWith pos f first (backTo pos (starEach [] X.env)) (backToKw pos (keywordEach [] X.env))):=by rfl):
  CE X (.Call (.Attribute o m apos) [] [] pos) (GM c m G q) :=
 ⟨JE.weak ⟨WK S.h.h N O F U M .nil Y W⟩ fun σ H Q ⟨ρ,C,R,s,h,ab,f⟩=>⟨ρ,C,_,s,h,ab,fun x H1 px C1 j rx h1 I=>by
  obtain⟨a,dx,L,rfl,rfl,B,Z⟩:=Xb j.1 rx h1
  exact⟨a,dx,L,rfl,B,Z,⟨[.ref a],C1,R,.cons (.ref a) .nil,h1,j.2,fun v H' t C' q' r' h' D=>f v H' t C' q' r' h' (I.trans D)⟩⟩⟩⟩
theorem lrev_s(m:C p=some (.lst xs))(q:∀g,C g=none->Q (.ref g) (vQ C g (.lst xs.reverse))):cRev (.ref p) C Q :=by simp_all[cRev]
theorem pop_s(m:C p=some (.lst xs))(e:xs[xs.length - 1]?=some y)(q:Q y (vQ C p (.lst xs.dropLast))):cPop (.ref p) [] C Q :=by simp_all[cPop]
theorem tru_i{c}(h:c g C fun x C1=>∃a xs,x=.ref a/\C1 a=some (.lst xs)/\Q (!xs.isEmpty) C1)(D:∀(j B:K1),(∀v C1,j v C1->B v C1)->c g C j->c g C B):cTru c g C Q:=by
 delta cTru
 refine D _ _ ?_ h;rintro v C1 ⟨b,xs,rfl,m,q⟩;dsimp only
 rwa [m]
end
structure Row where
 k:Option Str
 nm:Str
 q:Str
 st:Stmt
 ps:List Str
 N:List Str
def AllR(p:Row->Prop):List Row->Prop
 |[]=>True
 |r::rs=>p r/\AllR p rs
def FH(K:Dj)(r:Row):Prop:=match r with
 |⟨none,j,q,st,_,_⟩=>∃(f:Addr)(I:Value)(J:Option Addr)(G F L:Value)(B:Option Addr)(g D:Value)(M:Array (Option Value)),
  PySem.W.nsIn K mainGlobals j=some (some (.ref f))/\K.lookup f=some ⟨I,J,.func (PySem.W.fnOf j q (rY st) (cV st) (fX st) .none G F L B g D),M⟩/\PySem.W.codeIn K g q=true/\PySem.W.keepIn K (.ref f)=true
 |⟨some c,j,q,st,_,_⟩=>∃(cc f:Addr)(I:Value)(J:Option Addr)(G F L:Value)(B:Option Addr)(g D:Value)(M:Array (Option Value)),
  PySem.W.nsIn K mainGlobals c=some (some (.ref cc))/\PySem.W.findIn K (.ref cc) j=some (some (.ref f))/\K.lookup f=some ⟨I,J,.func (PySem.W.fnOf j q (rY st) (cV st) (fX st) .none G F L B g D),M⟩/\PySem.W.codeIn K g q=true/\PySem.W.keepIn K (.ref f)=true/\PySem.W.isFn K (.ref f)=true
def RB(r:Row):Prop:=FnScope r.N r.ps (fX r.st)/\∀(F D G:Value)(j:Option Addr)(q B:Value)(g:List Value),g.length=r.ps.length->bindArgs (PySem.W.fnOf r.nm r.q (rY r.st) (cV r.st) (fX r.st) .none F D G j q B) ⟨g,[]⟩=pure (r.ps.zip g)
structure FI(K:Dj)(mg:Str->Option Value)(k:Option Str)(nm q:Str)(st:Stmt)(ps N:List Str)(f:Addr)(d:FuncData):Prop where
 m:k=none->mg nm=some (.ref f)
 M:∀c ca,k=some c->mg c=some (.ref ca)->PySem.W.findIn K (.ref ca) nm=some (some (.ref f))/\PySem.W.isFn K (.ref f)=true
 F:Fun K nm q st f d
 s:FnScope N ps (fX st)
 b:Binds K d ps []
section
variable {P:List Value->Prop}
theorem XE(h:∀a(g:List Value),g.length=n->P (a::g))g(e:g.length=n+1):P g:=by
 cases g with
 |nil=>cases e
 |cons a g=>exact h a g (Aw e)
theorem args0(h:P [])g(e:g.length=0):P g :=by grind
theorem args1(h:∀a,P [a]):∀g,g.length=1->P g:=XE fun a=>args0 (h a)
theorem args2(h:∀a b,P [a,b]):∀g,g.length=2->P g:=XE fun a=>args1 (h a)
theorem args3(h:∀a b c,P [a,b,c]):∀g,g.length=3->P g:=XE fun a=>args2 (h a)
theorem args4(h:∀a b c d,P [a,b,c,d]):∀g,g.length=4->P g:=XE fun a=>args3 (h a)
theorem args5(h:∀a b c d e,P [a,b,c,d,e]):∀g,g.length=5->P g:=XE fun a=>args4 (h a)
end
theorem fi_one{K}(X:K.In h)(G:h.Ns mainGlobals mg)(x:FH K r)(y:RB r):∃f d,FI K mg r.k r.nm r.q r.st r.ps r.N f d:=by
 obtain⟨k,ae,af,st,ps,N⟩:=r;obtain⟨q,B⟩:=y
 cases k with
 |none =>
  obtain⟨f,S,U,O,J,W,D,F,I,Y,h1,h2,g,j⟩:=x;exact⟨f,_,⟨fun _=>BF X G h1,fun _ _ e=>(nomatch e),sA h2 g j,q,Fun.binds (sA h2 g j) B⟩⟩
 |some c =>
  obtain⟨cc,f,S,U,O,J,W,D,F,I,Y,h0,h1,h2,g,j,M⟩:=x;refine⟨f,_,⟨fun e=>(nomatch e),fun Z ab e L=>?_,sA h2 g j,q,Fun.binds (sA h2 g j) B⟩⟩;cases e;have:=(BF X G h0).symm.trans L;cases this;exact⟨h1,M⟩
theorem fi_all{K}(X:K.In h)(G:h.Ns mainGlobals mg):∀{t},AllR (FH K) t->AllR RB t->∃(f:Nat->Addr)(d:Nat->FuncData),∀i{k}{g q}{st}{ps N},t[i]?=some ⟨k,g,q,st,ps,N⟩->FI K mg k g q st ps N (f i) (d i)
 |[],_,_=>⟨fun _=>mainGlobals,fun _=>PySem.W.fnOf "" "" (rY (.Pass ⟨0,0,0,0⟩)) [] (fX (.Pass ⟨0,0,0,0⟩)) .none .none .none .none none .none .none,fun i _ _ _ _ _ _ e=>by simp at e⟩
 |r::t,x,y=>by
  refine el21 (fi_one X G x.1 y.1) fun B j h0=>el21 (fi_all X G x.2 y.2) fun f d h=>⟨fun i=>match i with | 0=>B | i+1=>f i,fun i=>match i with | 0=>j | i+1=>d i,fun i=>?_⟩
  cases i with
  |zero=>intro k g q st ps N e;cases e;exact h0
  |succ i=>intro k g q st ps N e;exact h i e
section
variable {P:Program}{w:World}{K:Dj}{mg:Str->Option Value}{base:Heap}
theorem FI.ok{st}(F:FI K mg I x j st ps N f fd)(B:∀ts C R,G ts C R->ts.length=ps.length)(q:∀g A D s H E,Room k (A.deeper (envOfC j (fX st) s.heap.objs.size f g)) ->
   ∃c,CB (Xu CX0 P w K mg base N j (fX st) f g A D s H E).nox (cV st) c/\∀ts C R,G ts C R->c { nx:=fun _ C'=>R .non C',rt:=R } (lN N ts) C):FnOk P w K mg base CX0 (k+1) f fd ps (spC K G):=Fun.okC F.F F.s B q
end
section
variable {X:Cx}{e o:Expr}{es:List Expr}{pos:Pos}
theorem cf{st}{p}(T:FI X.K X.mg none x q st ps N f fd)(F:FnOk X.prog X.w X.K X.mg X.base CX0 k f fd ps (spC X.K G))(J:Room k X.A)(j:CA X (e::es) g)(I:Gl X x:=by rfl)(D:(x==("__debug__" : Str))=false:=by decide)(hs:sQ e=true:=by rfl)(B:es.all sQ=true:=by rfl):CE X (.Call (.Name x p) (e::es) [] pos) (zL G g) :=
 ce_call F J I (T.m rfl) T.F.kp T.b QG j D hs B
theorem cm{st}{apos}{Z}(M:Cls X.K c)(T:FI X.K X.mg (some D) m q st ps N J fd)(g:X.mg D=some (.ref c))(F:FnOk X.prog X.w X.K X.mg X.base CX0 k J fd ps (spC X.K G))(U:Room k X.A)(O:CE X o I)(L:CA X (e::es) B)(W:starEach (e::es) X.env=(false,eval e X.env)::starEach es X.env:=by rfl)(S:(backTo pos (starEach es X.env)).any (·.1)=false:=by rfl)(Y:eval (.Call (.Attribute o m apos) (e::es) [] pos) X.env=(do
   let j <- eval o X.env
   standAt apos.atName
   let (f,first) <- holding [j] (getMethod j m Z)
   callWith pos f first (backTo pos (starEach (e::es) X.env)) (backToKw pos (keywordEach [] X.env))):=by rfl):
  CE X (.Call (.Attribute o m apos) (e::es) [] pos) (cMeth c m G I B) :=
 ce_meth M ⟨(T.M _ _ rfl g).1,(T.M _ _ rfl g).2,T.F.kp⟩ F U T.b QG O L W S Y
theorem cm0{st}(J:Cls X.K c)(T:FI X.K X.mg (some B) m q st ps N I fd)(g:X.mg B=some (.ref c))(F:FnOk X.prog X.w X.K X.mg X.base CX0 k I fd ps (spC X.K G))(M:Room k X.A)(L:CE X o D)(O:eval (.Call (.Attribute o m apos) [] [] pos) X.env=(do
   let j <- eval o X.env
   standAt apos.atName
   let (f,first) <- holding [j] (getMethod j m S)
   callWith pos f first (backTo pos (starEach [] X.env)) (backToKw pos (keywordEach [] X.env))):=by rfl):
  CE X (.Call (.Attribute o m apos) [] [] pos) (GM c m G D) :=
 GB J ⟨(T.M _ _ rfl g).1,(T.M _ _ rfl g).2,T.F.kp⟩ F M T.b QG L O
theorem cx(q:CE X a g)(B:CE X b j)(hs:xN b:=by exact fun _ _=>rfl):CE X (.Subscript a b pos) (cOp cIx g j):=ce_ix ix_seqC cop_ix q B hs
theorem ca1(j:CE X e g)(hs:sQ e=true:=by rfl):CA X [e] (rK g qL):=qQ j yZ hs
theorem cs1 i{pos'}(j:X.N.Nodup)(q:CE X e g)(hi:X.N[i]?=some x:=by rfl)(D:Loc X.env.scope x:=by first | exact Or.inl rfl | exact Or.inr rfl)(hs:swapsWith e (some (.Name x pos')) pos.line X.env=pure false:=by rfl)(B:X.fn x=true\/X.env.scope.names.lookup x=some .local:=by first | exact .inl rfl | exact .inr rfl | assumption):
  CS X (.Assign [.Name x pos'] e pos) (GL i g):=cs_set j hi D q hs B
theorem cg1 i(g:X.N.Nodup)(hi:X.N[i]?=some x:=by rfl)(q:Loc X.env.scope x:=by first | exact Or.inl rfl | exact Or.inr rfl)(j:X.fn x=true\/X.env.scope.names.lookup x=some .local:=by first | exact .inl rfl | exact .inr rfl | assumption):CG X (.Name x pos) (Gi i):=cg_name g hi q j
theorem cln{p}(B:X.mg "len" = none)(j:CE X e g)(q:Gl X "len":=by rfl)(hs:sQ e=true:=by rfl):CE X (.Call (.Name "len" p) [e] [] pos) (zL iR (rK g qL)):=zX VE cbi_len q B rfl (ca1 j hs) (hs:=hs)
theorem ctp{p}(B:X.mg "tuple" = none)(j:CE X e g)(q:Gl X "tuple":=by rfl)(hs:sQ e=true:=by rfl):CE X (.Call (.Name "tuple" p) [e] [] pos) (zL yP (rK g qL)):=aZ kT cbi_tup q B rfl (ca1 j hs) (hs:=hs)
theorem cap{apos cpos}(G:CE X o j)(q:CE X e g)(B:attributeBase o "append" X.env (eval o X.env)=eval o X.env:=by rfl)(D:((backTo cpos (starEach [e] X.env)).all (fun x=>!x.1)&&(backToKw cpos (keywordEach [] X.env)).all (fun x=>x.1.isSome)
   && decide ([e].length+([]:List Keyword).length+(if ([]:List Keyword).isEmpty then 0 else 1) < 30))=true:=by rfl)(F:(apos.endLine==cpos.line)=true:=by rfl)(hs:sQ e=true:=by rfl):CE X (.Call (.Attribute o "append" apos) [e] [] cpos) (cBM bU j (rK g qL)) :=
 GJ BU PySem.F.slot_list_append PySem.F.type_list_append gO ZO G (ca1 q hs) B D F hs
theorem ct2(G:OpR X (compareOp op) r)(I:Cop X.K r q)(B:CE X a g)(D:CE X b j)(F:behindInMarks op b=false:=by exact jG _):CT X (.Compare a [op] [b] pos) (xE (cOp q g j)):=ZM G I B D F
end
end CL
namespace L2
open PySem
theorem FnScope.c(S:FnScope N ps sc)(h:N.contains x=false):(x::N).Nodup:=by
 refine Az.2 ⟨fun m=>?_,S.nd⟩;rw[List.contains_iff_mem.2 m] at h;cases h
theorem FnScope.k(S:FnScope N ps sc)(j:X.N=N)(B:X.env.scope=sc)(q:X.env.cells=cellsFrom L sc.names [])(h:dR xs D N sc=true):∃g,oW X xs D g:=mR j B q h
end L2
namespace L2
open PySem PySem.W PyProof.Rows
section
variable {X:Cx}
def rGetQ:V->List V->Hp->VK->Prop:=fun x vs H Q=>∃a y o,x=.ref a/\vs=[y]/\Z7 H a y o/\Q (o.getD .non) H
theorem mt_getQ(B:X.A.units+2 < cLine):MtR X "dict.get" rGetQ:=by
 intro pins s σ H x vs v L Q I J G h;obtain⟨a,y,o,rfl,rfl,g,q⟩:=h;cases J;obtain⟨u,rfl,F⟩:=G.one;exact p_get1 B I g F fun M s' j D=>⟨_,H,j,D,q⟩
def TyOk(X:Cx)(T:String)(x:V)(H:Hp):Prop:=∀(pins:List (Addr×Obj))(σ:St)(s:Shared)(v:Value),Inv X pins σ H s->RelV x v->s.TypeIs v T/\∀a,v=.ref a->∃g,s.heap.get? a=some g/\g.dict=none
theorem dp_ty{kvs:List (wK×V)}(e:H a=some (.dP kvs)):TyOk X "dict" (.ref a) H:=by
 intro pins σ s v I r;cases r;refine⟨J7 I e,fun b g=>?_⟩;cases g;obtain⟨_,_,_,_,o,_,_,j,q,_⟩:=(I.hok a _ e);exact⟨o,j,q.2.1⟩
variable {o e:Expr}{es:List Expr}{to:TE}{t:TA}{name:Str}{apos cpos:Pos}{T id:String}{r:V->List V->Hp->VK->Prop}
theorem pe_bmG(O:PlainAttrs T)(ab:Slot T name id)(N:typeOf (.builtin id)=pure (.type "method_descriptor"))(L:MtR X id r)(M:PE X o to)(D:PA X (e::es) t)(F:attributeBase o name X.env (eval o X.env)=eval o X.env)(G:((backTo cpos (starEach (e::es) X.env)).all (fun x=>!x.1)&&(backToKw cpos (keywordEach [] X.env)).all (fun x=>x.1.isSome)
   && decide ((e::es).length+([]:List Keyword).length+(if ([]:List Keyword).isEmpty then 0 else 1) < 30))=true)(J:(apos.endLine==cpos.line)=true)(hs:starEach (e::es) X.env=(false,eval e X.env)::starEach es X.env)(af:(backTo cpos (starEach es X.env)).any (·.1)=false):
  PE X (.Call (.Attribute o name apos) (e::es) [] cpos) (fun σ H Q=>to σ H fun x H1=>TyOk X T x H1/\t σ H1 fun xs H2=>r x xs H2 Q):=by
 intro pins s σ H Q I h;refine wpAny_Call_method_late F G J rfl (thn (M pins s σ H _ I h) fun v Y ⟨x,H1,g,q,ty,S⟩=>?_);obtain⟨h1,h2⟩:=ty _ _ _ _ g q;refine⟨T,id,O,ab,N,h1,h2,?_⟩;have j:=D cpos pins Y σ H1 _ g S;rw[hs] at j ⊢;exact CZ (by grind) (Di (thn j fun ae Z ⟨vs,H2,B,W,U⟩=>L pins Z σ H2 x vs v ae Q B q W U))
end
end L2
namespace CL
open PySem PySem.Spec L2 PySem.W
open PyProof.Rows hiding St
section
variable {X:Cx}{a b c e o i f value:Expr}{es:List Expr}{pos pos':Pos}
def isPd(x:PV)(C:CH):Prop:=∃a kvs,x=.ref a/\C a=some (.dP kvs)
theorem isPd_of(d:isPd t C)(r:Rep X.K H x t)(h:HRel X.K H C):TyOk X "dict" x H:=by
 obtain⟨a,kvs,rfl,e⟩:=d;cases r;exact oQ (h a _ e) fun vs g _=>dp_ty g
def cBMQ(B:PV->List PV->CH->K1->Prop)(q:TCE)(j:TCA):TCE:=fun g C Q=>q g C fun x C1=>isPd x C1/\j g C1 fun xs C2=>B x xs C2 Q
theorem ce_bmQ{id}{apos cpos}(pa:PlainAttrs "dict")(ae:Slot "dict" name id)(Z:typeOf (.builtin id)=pure (.type "method_descriptor"))(U:MtR X id r)(Y:Cmt X.K r I)(W:CE X o G)(L:CA X (e::es) F)(N:attributeBase o name X.env (eval o X.env)=eval o X.env:=by rfl)(O:((backTo cpos (starEach (e::es) X.env)).all (fun x=>!x.1)&&(backToKw cpos (keywordEach [] X.env)).all (fun x=>x.1.isSome)
   && decide ((e::es).length+([]:List Keyword).length+(if ([]:List Keyword).isEmpty then 0 else 1) < 30))=true:=by rfl)(S:(apos.endLine==cpos.line)=true:=by rfl)(hs:sQ e=true:=by rfl)(M:es.all sQ=true:=by rfl):
  CE X (.Call (.Attribute o name apos) (e::es) [] cpos) (cBMQ I G F) :=
 ⟨JE.weak ⟨pe_bmG pa ae Z U W.h.h L.h.h N O S (pJ hs) (yG M)⟩ fun σ H Q ⟨D,C,R,s,h,ab,f⟩ =>
 ⟨D,C,_,s,h,ab,fun x H1 px C1 q B h1 g=>⟨isPd_of q.1 B h1,D,C1,_,s.imm (g.imm h),h1,q.2,fun xs H2 ps C2 q2 rs h2 j=>
  Y x px xs ps H2 C2 Q R (B.imm (j.imm h1)) rs h2 q2 fun v H' t C' q' r' h' J=>f v H' t C' q' r' h' (g.trans (j.trans J))⟩⟩⟩
@[irreducible] def Kq:PV->List PV->CH->K1->Prop:=fun x ts C Q=>match x,ts with
 |.ref a,[y]=>match C a,zH y with
  |some (.dP kvs),some k=>Q ((pK kvs k).getD .non) C
  |_,_=>False
 |_,_=>False
theorem Gw{K}:Cmt K rGetQ Kq:=fun x M xs ps H C Q R J rs h q f=>by
 delta Kq at q
 split at q
 .next a y =>
  split at q
  .next kvs k B D =>
   obtain⟨v,rfl,L⟩:=oX rs;cases J;obtain⟨vs,G,r⟩:=(h a _ B);obtain⟨b,rfl,F⟩:=xD L D;refine⟨a,.ref b,pY vs k,rfl,rfl,⟨vs,k,b,G,rfl,F,rfl⟩,?_⟩
   rcases FP.val r k with ⟨v,t',g,j,I⟩ | ⟨g,j⟩
   .rw [j] at q;exact g▸f _ H _ C q I h Fw.refl
   .rw [j] at q;exact g▸f _ H _ C q .non h Fw.refl
  .exact q.elim
 .exact q.elim
@[irreducible] def cClearQ:PV->List PV->CH->K1->Prop:=fun x ts C Q=>match x,ts with
 |.ref a,[]=>match C a with
  |some (.dP kvs)=>Q .non (vQ C a (.dP []))
  |_=>False
 |_,_=>False
def hK:Key->Int
 |.inl (some k)=>hashInt k
 |.inl none=>4238894112
 |.inr _=>0
noncomputable def pHash(k:wK):Int:=reduceHash (Builtin.Tuple.tupleHashOf (k.map fun g=>reduceHash (Builtin.Tuple.tupleHashOf (g.map hK))))
def noT:Key->Bool
 |.inr _=>false
 |_=>true
@[irreducible] def cDictQ:GC:=fun ts C Q=>match ts with
 |[.ref a]=>match C a with
  |some (.dP kvs)=>(∀p∈kvs,p.1.all (fun g=>g.all noT)=true)/\(kvs.map fun p=>pHash p.1).Nodup/\∀p,C p=none->Q (.ref p) (vQ C p (.dP kvs))
  |_=>False
 |_=>False
@[irreducible] def cNeQ(d:Nat):R2C:=fun x y C Q=>match x,y with
 |.ref a,.ref b=>match C a,C b with
  |some (.dP xs),some (.dP ys)=>xs=ys/\(∀p∈xs,Pl d p.2)/\Q (.bl false) C
  |_,_=>False
 |_,_=>False
def kkLt(g:List (List Str)):Nat->Nat->Bool:=fun i j=>HT.lexS (g.getD i []) (g.getD j [])
noncomputable def ordK(g:List (List Str)):List (List Str):=(jU (kkLt g) (kas_sort g.length)).toList.map fun i=>g.getD i []
def kkPV(k:List Str):PV:=.tup (k.map PV.str)
noncomputable def kkOf:List (List Key×PV)->Option (List (List Str))
 |[]=>some []
 | ([.inr x,.inr y],_)::r=>(kkOf r).map ([x,y] :: ·)
 |_=>none
@[irreducible] def cSortedD:GC:=fun ts C Q=>match ts with
 |[.ref a]=>match C a with
  |some (.dT kvs)=>match kkOf kvs with
   |some g=>g.length < 64/\∀p,C p=none->Q (.ref p) (vQ C p (.lst ((ordK g).map kkPV)))
   |none=>False
  |_=>False
 |_=>False
@[irreducible] def cIsiT:GC:=fun ts C Q=>match ts with
 |[.ref a,.ty n]=>match C a with
  |some (.dT _)=>n = "dict"/\Q (.bl true) C
  |_=>False
 |_=>False
theorem getQ_s{a}{kvs:List (wK×PV)}(m:C a=some (.dP kvs))(e:zH y=some k)(q:Q ((pK kvs k).getD .non) C):Kq (.ref a) [y] C Q:=by
 delta Kq;dsimp only;rwa [m,e]
end
section
variable {X:Cx}{e o:Expr}{es:List Expr}
@[irreducible] def cJoin:PV->List PV->CH->K1->Prop:=fun x ts C Q=>match x,ts with
 |.str g,[.ref a]=>match C a with
  |some (.lst xs)=>∃zs:List Str,xs=zs.map PV.str/\(zs.map (·.length)).sum+zs.length * g.length<=16777216/\Q (.str (Str.join g zs)) C
  |_=>False
 |_,_=>False
def txI(i:Int):Str:=toString i
@[irreducible] def cStrI:GC:=fun ts C Q=>match ts with
 |[.int i]=>i.natAbs<=1000000000000/\Q (.str (txI i)) C
 |_=>False
end
end CL
namespace TB
def step(M i:Nat):Nat:=(i * 5+1) % M
end TB
namespace TB
open PySem SetTable
structure TOk(t:SetTable)(k:Nat):Prop where
 mask:t.mask+1=2 ^ k
 dum:t.dummies = #[]
 few:t.place.size<=t.mask
end TB
namespace PySem
open Sem (wp)
open TB
section
variable {prog:Program}{w:World}{K:Type}[DecidableEq K]{knd:KeyKind prog w K}
variable (knd)
noncomputable def entP(x:List (List K)×Addr):Int×Value:=(vD knd x.1,.ref x.2)
structure PSet(h:Heap)(a:Addr)(xs:List (List (List K)×Addr))(o:Obj)(es:Array (Int×Value))(ep:Nat)(t:SetTable)(k:Nat):Prop where
 at':h.get? a=some o
 ex:o.ExactSet
 dat:o.data=.set es ep t
 tok:TOk t k
 size:t.place.size=es.size
 ents:es.toList=xs.map (entP knd)
 keys:∀x∈xs,IsPathKey knd h x.1 x.2
 big:2<=t.mask
variable {knd}{A:Around}{E:Value->Shared->Prop}{s:Shared}{a:Addr}{xs:List (List (List K)×Addr)}{o:Obj}{es:Array (Int×Value)}{ep:Nat}{t:SetTable}{k:Nat}
end
end PySem
namespace CL
open PySem PySem.Spec L2 PySem.W
open PyProof.Rows hiding St
section
variable {X:Cx}{e:Expr}{pos:Pos}
noncomputable def nK:List PV->Option (List wK)
 |[]=>some []
 |t::r=>match zH t,nK r with
  |some k,some g=>some (k::g)
  |_,_=>none
@[irreducible] def cLenSR:PV->CH->K1->Prop:=fun x C Q=>match x with
 |.ref a=>match C a with
  |some (.lst xs)=>∃g,nK xs=some g/\g.Nodup/\g.length<=9900/\Q (.int g.length) C
  |_=>False
 |_=>False
@[irreducible] def cPNin:R2C:=fun y x C Q=>match x with
 |.ref a=>match C a,zH y with
  |some (.dP kvs),some k=>Q (.bl (!(pK kvs k).isSome)) C
  |_,_=>False
 |_=>False
@[irreducible] def cInE:R2C:=fun x y C Q=>match x,y with
 |.tup [],.ref a=>match C a with
  |some (.lst xs)=>(∀t∈xs,∃u g,t=.tup (u::g))/\Q (.bl false) C
  |_=>False
 |_,_=>False
@[irreducible] def cNeU(d:Nat):R2C:=fun x y C Q=>match x,y with
 |.tup xs,.tup ys=>xs=ys/\(∀t∈xs,Pl d t)/\Q (.bl false) C
 |_,_=>False
end
@[irreducible] def cLenQ:GC:=fun ts C Q=>match ts with
 |[.ref a]=>match C a with
  |some (.dP kvs)=>Q (.int kvs.length) C
  |_=>False
 |_=>False
section
variable {X:Cx}{e:Expr}
noncomputable def iF(z:Str):List PV:=z.cps.toList.map fun c=>PV.str ⟨#[c]⟩
theorem it_str{K}z:XG K H (Its z) (iF z) where
 go:=fun i H' l k=>by
  delta iF at l
  rwa [AB,BD] at l
 yl:=fun i H' x j k y=>by
  obtain⟨rfl,c,g,rfl⟩:=y;refine⟨rfl,fun t e=>?_⟩;unfold iF at e;rw[Ak,Array.getElem?_toList,g] at e;cases e;exact .str _
 st:=fun H' k=>by
  delta iF
  rw[AB,BD];exact AJ _
def cItS(g:TCE):CSt->CH->(List PV->CH->Prop)->Prop:=fun j C Q=>g j C fun t C1=>match t with
 |.str z=>Q (iF z) C1
 |_=>False
theorem ci_str(h:CE X e g):CI X tg e (iStr (zJ X.K (Rep X.K) g)) (cItS g):=⟨ji_str h.h,fun σ H F C R Q s h q f=>⟨F,C,_,s,h,q,fun x H1 G C1 j D h1 B=>by
  cases D with
  |str z=>exact⟨z,rfl,f _ H1 (iF z) C1 j (it_str z) h1 B⟩
  |_=>exact j.elim⟩⟩
end
end CL
namespace PySem
section
variable {prog:Program}{w:World}{A:Around}{E:Value->Shared->Prop}{s:Shared}
theorem oK{items}(q:s.heap.IsTupleIter it t i)(J:s.heap.IsTuple t items)(L:items[i]?=some x)(B:∀h',h'.IsTupleIter it t (i+1)->Heap.SameBut it s.heap h'->Q x { s with heap:=h' }):
  wpAny (model prog w) A (Builtin.SmallTypes.nextOf (.ref it)) Q E s:=by
 obtain⟨o,j,D,g⟩:=(id q);obtain⟨N,I,_,M,G⟩:=J
 refine AA (BS q.typeIs B3
  (A6 B3 q.typeIs F.entry_tuple_iterator_next ?_ (F.args_tuple_iterator_next_1 _)))
 show wpAny _ _ (field (.ref it) 0 >>= _) _ _ s;refine AA (Ar j g rfl (AA (Ar j g rfl (AA (A1 I G ?_)))))
 simp only[Int.toNat_natCast,L]
 refine AA (wpAny_setField j g (by simp) (AF ⟨x,rfl,AF (B _ ?_ (Bl ..))⟩))
 exact⟨_,Ay _ j (Obj.isFreed_of_fields (Obj.data_mapFields g _)),(Obj.cls_mapFields ..).trans D,by
  rw[Obj.data_mapFields g];simp[rawInt]⟩
theorem aU{items}(B:A.handled=none)(j:s.heap.IsTupleIter it t i)(J:s.heap.IsTuple t items)(L:items[i]?=none)(D:∀h' e,Heap.ExtBut it s.heap h'->(∃o,h'.get? e=some o/\o.cls=.type "StopIteration")->E (.ref e) { s with heap:=h' }):
  wpAny (model prog w) A (Builtin.SmallTypes.nextOf (.ref it)) Q E s:=by
 obtain⟨o,q,M,g⟩:=(id j);obtain⟨O,I,_,N,G⟩:=J
 refine AA (BS j.typeIs B3
  (A6 B3 j.typeIs F.entry_tuple_iterator_next ?_ (F.args_tuple_iterator_next_1 _)))
 show wpAny _ _ (field (.ref it) 0 >>= _) _ _ s;refine AA (Ar q g rfl (AA (Ar q g rfl (AA (A1 I G ?_)))))
 simp only[Int.toNat_natCast,L]
 refine AA (Bw (AA (wpAny_setField q g (by simp) ?_)))
 apply AA
 refine AA (A4 (AA (wpAny_of_eq (by first | rfl | (rfl)) ?_)) (by size_fits));refine A4 (AA (wpAny_handled ?_)) (by size_fits)
 first | rw[show A.in1.handled=none from B] | rw[B]
 refine AA (AF (wpAny_throw (D _ _ (((Bl ..).extBut.push _).push _) ⟨_,AM _ rfl,rfl⟩)))
abbrev XF(h:Heap)(z TI TO T:Addr)(f:Bool):Prop :=
 h.get? z=some { cls:=.type "zip",dict:=none,data:=.fields #[rawInt T,.bool f,.bool false,.ref TI,.ref TO],slots:=#[] }
structure ZIt(h:Heap)(z TI i1 i2 l1 l2:Addr)(xs ys:Array Value)(i:Nat):Prop where
 it:IsPair h TI (.ref i1) (.ref i2)
 a:h.IsTupleIter i1 l1 i
 b:h.IsTupleIter i2 l2 i
 x:h.IsTuple l1 xs
 y:h.IsTuple l2 ys
theorem yM{h h':Heap}(x:h.IsTuple t xs)(k:∀o,h.get? t=some o->h'.get? t=some o):h'.IsTuple t xs:=let ⟨o,e,r⟩:=x;⟨o,k o e,r⟩
theorem cG{h h':Heap}(x:h.IsTupleIter i t n)(k:∀o,h.get? i=some o->h'.get? i=some o):h'.IsTupleIter i t n:=let ⟨o,e,r⟩:=x;⟨o,k o e,r⟩
theorem VQ{Q:Value->Shared->Prop}(D:ZipApart z j TO M N l1 l2)(L:IsZip s.heap z j TO .none)(az:IsPair s.heap j (.ref M) (.ref N))(a0:IsPair s.heap TO a b)(h1:s.heap.IsTupleIter M l1 k1)(h2:s.heap.IsTupleIter N l2 k2)(a4:s.heap.IsTuple l1 xs)(a5:s.heap.IsTuple l2 ys)(hx:xs[k1]?=some x)(hy:ys[k2]?=some y)(hQ:∀h',XF h' z j TO s.heap.objs.size false->h'.IsTupleIter M l1 (k1+1)->h'.IsTupleIter N l2 (k2+1)->IsPair h' s.heap.objs.size x y->h'.objs.size=s.heap.objs.size+1 ->
   (∀c o,c≠z->c≠TO->c≠M->c≠N->s.heap.get? c=some o->h'.get? c=some o)->Q (.ref s.heap.objs.size) { s with heap:=h' }):
  wpAny (model prog w) A (Builtin.«zip.__next__» ⟨[.ref z],[]⟩) (fun av s'=>∃v,av=.done (.ret v)/\Q v s') E s:=by
 show wpAny _ _ (field (.ref z) 2 >>= _) _ _ _;refine AA (Ar L rfl rfl (AA (Ar L rfl rfl (AA (A1 az rfl (AA ?_))))))
 delta Builtin.SmallTypes.ownedTupleIsFree
 refine AA (Ar L rfl rfl (AF ?_));refine AA (Bw (AA (Ar L rfl rfl (AA (Ax L (by simp) fun a7 ag B=>?_)))))
 replace ag:IsZip a7 z j TO .ellipsis:=ag
 apply AA
 refine AA (AA (wpAny_onRaise (AA (oK (h1.extBut B.extBut D.i1z) (a4.extBut B.extBut D.l1z) hx fun ba aw F=>AF ?_))));have aj:=F.extBut _ _ D.TOi1 (B.extBut _ _ D.TOz a0);refine AA (A1 aj rfl (AA (wpAny_updateSeq_pair aj fun a8 Z G=>?_)))
 replace Z:IsPair a8 TO x b:=Z
 refine AA (De (AF (AA (AA (wpAny_onRaise (AA (oK (((h2.extBut B.extBut D.i2z).extBut F.extBut D.i12.symm).extBut G.extBut D.TOi2.symm)
  (((a5.extBut B.extBut D.l2z).extBut F.extBut D.l2i1).extBut G.extBut D.l2TO) hy fun bb ay I=>AF ?_)))))))
 have ak:=I.extBut _ _ D.TOi2 Z;refine AA (A1 ak rfl (AA (wpAny_updateSeq_pair ak fun g ab J=>?_)))
 replace ab:IsPair g TO x y:=ab
 refine AA (De (AF (AF (AA (A1 ab rfl (AA (Dd ?_)))))));have hsz:g.objs.size=s.heap.objs.size:=by rw[J.1,I.1,G.1,F.1,B.1]
 have au:=J.extBut _ _ D.TOz.symm (I.extBut _ _ D.i2z.symm (G.extBut _ _ D.TOz.symm (F.extBut _ _ D.i1z.symm ag)))
 have a3:∀c o,c≠z->c≠TO->c≠M->c≠N->s.heap.get? c=some o->g.get? c=some o:=fun c o q O W Y e=>
  J.extBut _ _ O (I.extBut _ _ Y (G.extBut _ _ O (F.extBut _ _ W (B.extBut _ _ q e))))
 have ax:=((aw.extBut G.extBut D.TOi1.symm).extBut I.extBut D.i12).extBut J.extBut D.TOi1.symm;have ar:=AI au
 apply AA
 have a6:IsZip (g.push { cls:=.type "tuple",data:=.seq #[x,y] }) z j TO .ellipsis:=AC _ au;refine AA (Ax a6 (by simp) fun a9 ah ae=>?_)
 replace ah:IsZip a9 z j TO (rawInt g.objs.size):=ah
 refine Ax ah (by simp) fun U S af=>?_
 replace S:XF U z j TO g.objs.size false:=S
 have ai:∀c o,c≠z->g.get? c=some o->U.get? c=some o:=fun c o q e=>af.extBut _ _ q (ae.extBut _ _ q (AC _ e));have ao:=af.extBut _ _ (Aq ar) (ae.extBut _ _ (Aq ar) (AM _ rfl));have aq:U.objs.size=g.objs.size+1:=by rw[af.1,ae.1,Bp]
 rw[hsz] at S ao aq;refine AF ⟨_,rfl,?_⟩;rw[hsz];exact hQ U S (cG ax fun o e=>ai _ o D.i1z e) (cG (ay.extBut J.extBut D.TOi2.symm) fun o e=>ai _ o D.i2z e) ao aq fun c o q O W Y e=>ai c o q (a3 c o q O W Y e)
theorem Jg(g:XF s.heap z q TO T f)(B:s.heap.get? T=some J):
  wpAny (model prog w) A (Builtin.SmallTypes.ownedTupleIsFree (.ref z)) (fun b G=>∃j,b=false/\G={ s with heap:=j }/\XF j z q TO T true/\Heap.SameBut z s.heap j) E s:=by
 refine AA (Ar g rfl rfl (AA (W.kdx_alive B (AA (Ar g rfl rfl ?_)))))
 cases f with
 |true =>
  exact AF ⟨_,rfl,rfl,g,Heap.SameBut.refl _ _⟩
 |false =>
  refine AA (Ax g (by simp) fun I D F=>?_);exact AF ⟨_,rfl,rfl,D,F⟩
theorem VP{Q:Value->Shared->Prop}(D:ZipApart z G TO B F L M)(I:XF s.heap z G TO T f)(hT:s.heap.get? T=some oT)(ak:T≠z)(af:IsPair s.heap G (.ref B) (.ref F))(h1:s.heap.IsTupleIter B L O)(h2:s.heap.IsTupleIter F M S)(ag:s.heap.IsTuple L xs)(ah:s.heap.IsTuple M ys)(hx:xs[O]?=some x)(hy:ys[S]?=some y)(hQ:∀h',XF h' z G TO T true->h'.IsTupleIter B L (O+1)->h'.IsTupleIter F M (S+1)->IsPair h' s.heap.objs.size x y->h'.objs.size=s.heap.objs.size+1 ->
   (∀c o,c≠z->c≠B->c≠F->s.heap.get? c=some o->h'.get? c=some o)->Q (.ref s.heap.objs.size) { s with heap:=h' }):
  wpAny (model prog w) A (Builtin.«zip.__next__» ⟨[.ref z],[]⟩) (fun Z s'=>∃v,Z=.done (.ret v)/\Q v s') E s:=by
 show wpAny _ _ (field (.ref z) 2 >>= _) _ _ _;refine AA (Ar I rfl rfl (AA (Ar I rfl rfl (AA (A1 af rfl (AA (BK (Jg I hT) ?_ fun _ _ h=>h)))))));rintro b aq ⟨ao,rfl,rfl,ai,g⟩
 simp only[ if_false]
 rw[<- Cu];refine AA (AA (AA (As (AA (oK (h1.extBut g.extBut D.i1z) (ag.extBut g.extBut D.l1z) hx fun aj ab j=>AF (AF (AA (AA (As (AA (oK (s:={ s with heap:=aj }) ((h2.extBut g.extBut D.i2z).extBut j.extBut D.i12.symm) ((ah.extBut g.extBut D.l2z).extBut j.extBut D.l2i1) hy fun J ae q=>AF (AF (AF (AA (Dd (hsz:=zz 2 rfl) ?_)))))))))))))))
 have hsz:J.objs.size=s.heap.objs.size:=by rw[q.1,j.1,g.1]
 refine AF ⟨_,rfl,?_⟩;have N:IsPair (J.push { cls:=.type "tuple",data:=.seq #[x,y] }) J.objs.size x y:=AM _ rfl;rw[hsz] at N ⊢
 exact hQ _ (AC _ (q.extBut _ _ D.i2z.symm (j.extBut _ _ D.i1z.symm ai))) (cG (ab.extBut q.extBut D.i12) fun o e=>AC _ e) (cG ae fun o e=>AC _ e) N (by simp_all)
  fun c o U W Y e=>AC _ (q.extBut _ _ Y (j.extBut _ _ W (g.extBut _ _ U e)))
theorem zt_end(U:A.handled=none)(D:ZipApart z q TO M i2 l1 l2)(g:IsZip s.heap z q TO .none\/∃T f oT,XF s.heap z q TO T f/\s.heap.get? T=some oT)(O:IsPair s.heap q (.ref M) (.ref i2))(h1:s.heap.IsTupleIter M l1 k1)(W:s.heap.IsTuple l1 xs)(Z:xs[k1]?=none)(N:∀h' e,(∀c o,c≠z->c≠M->s.heap.get? c=some o->h'.get? c=some o)->(∃o,h'.get? e=some o/\o.cls=.type "StopIteration")->E (.ref e) { s with heap:=h' }):
  wpAny (model prog w) A (Builtin.«zip.__next__» ⟨[.ref z],[]⟩) Q E s:=by
 rcases g with g | ⟨T,f,oT,g,hT⟩
 .show wpAny _ _ (field (.ref z) 2 >>= _) _ _ _
  refine AA (Ar g rfl rfl (AA (Ar g rfl rfl (AA (A1 O rfl (AA (AA (Ar g rfl rfl (AF (AA (Bw (AA (Ar g rfl rfl (AA (Ax g (by simp) fun ae G j=>?_)))))))))))))))
  replace G:IsZip ae z q TO .ellipsis:=G
  apply AA
  refine AA (AA (wpAny_onRaise (AA (aU U (h1.extBut j.extBut D.i1z) (W.extBut j.extBut D.l1z) Z fun af e F J=>oQ J fun oe L S=>?_))));have ab:=F _ _ D.i1z.symm G;have ag:e≠z:=fun x=>by subst x;rw[ab] at L;cases L;simp at S
  exact Ax ab (by simp) fun ah _ Y=>N ah e (fun c o B I x=>Y.extBut _ _ B (F _ _ I (j.extBut _ _ B x))) ⟨oe,Y.extBut _ _ ag L,S⟩
 .show wpAny _ _ (field (.ref z) 2 >>= _) _ _ _
  refine AA (Ar g rfl rfl (AA (Ar g rfl rfl (AA (A1 O rfl (AA (BK (Jg g hT) ?_ fun _ _ h=>h)))))));rintro b ai ⟨ae,rfl,rfl,G,j⟩;exact AA (AA (AA (As (AA (aU U (h1.extBut j.extBut D.i1z) (W.extBut j.extBut D.l1z) Z fun af e F J=>N af e (fun c o B I x=>F _ _ I (j.extBut _ _ B x)) J)))))
def ZSt(h:Heap)(z g TO j q B D S:Addr)(xs ys:Array Value)(i:Nat):Prop :=
 ((i=0/\IsZip h z g TO .none/\∃a b,IsPair h TO a b)\/∃T f F,XF h z g TO T f/\h.get? T=some F/\T≠z/\T≠j/\T≠q/\T≠S)/\ZIt h z g j q B D xs ys i
theorem ZIt.at(x:ZIt h z g j q B D xs ys i)(k:∀b o,(b=g\/b=j\/b=q\/b=B\/b=D)->h.get? b=some o->h'.get? b=some o):ZIt h' z g j q B D xs ys i :=
 ⟨k _ _ (.inl rfl) x.it,cG x.a fun o e=>k _ o (.inr (.inl rfl)) e,cG x.b fun o e=>k _ o (.inr (.inr (.inl rfl))) e,yM x.x fun o e=>k _ o (.inr (.inr (.inr (.inl rfl)))) e,yM x.y fun o e=>k _ o (.inr (.inr (.inr (.inr rfl)))) e⟩
theorem zt_item(D:ZipApart z B TO N O U W)(hl:U≠B/\W≠B)(ah:ZSt s.heap z B TO N O U W S xs ys i)(hS:S < s.heap.objs.size)(hx:xs[i]?=some x)(hy:ys[i]?=some y)(hQ:∀h',ZSt h' z B TO N O U W S xs ys (i+1)->IsPair h' s.heap.objs.size x y->h'.objs.size=s.heap.objs.size+1 ->
   (∀c o,c≠z->c≠TO->c≠N->c≠O->s.heap.get? c=some o->h'.get? c=some o)->Q (some (.ref s.heap.objs.size)) { s with heap:=h' }):
  wpAny (model prog w) A (pyNext (.ref z)) Q E s:=by
 obtain⟨j,g⟩:=ah;have Y:∀{c o},s.heap.get? c=some o->s.heap.objs.size≠c:=fun e=>Aq (AI e);have n1:=let ⟨o,e,_⟩:=g.a;Y e
 have n2:=let ⟨o,e,_⟩:=g.b;Y e
 have hT:s.TypeIs (.ref z) "zip":=by
  rcases j with ⟨_,j,_⟩ | ⟨_,_,_,j,_⟩
  .exact ⟨_,j,rfl⟩
  .exact ⟨_,j,rfl⟩
 refine AA (wpAny_attempt (BS hT DV (A6 DV hT F.entry_zip_next ?_ (F.args_zip_next_1 _))))
 rcases j with ⟨e0,j,a,b,ag⟩ | ⟨T,f,oT,j,ab,Z,ae,af,nS⟩
 .refine VQ D j g.it ag g.a g.b g.x g.y hx hy fun h' I J L G M q=>AF (hQ h' ⟨.inr ⟨_,false,_,I,G,Y j,n1,n2,Aq hS⟩,⟨q _ _ D.TIz D.TITO D.TIi1 D.TIi2 g.it,J,L,yM g.x fun o e=>q _ o D.l1z D.l1TO D.l1i1 D.l1i2 e,yM g.y fun o e=>q _ o D.l2z D.l2TO D.l2i1 D.l2i2 e⟩⟩ G M q)
 .refine VP D j ab Z g.it g.a g.b g.x g.y hx hy fun h' I J L G M q=>AF (hQ h' ⟨.inr ⟨T,true,oT,I,q _ _ Z ae af ab,Z,ae,af,nS⟩,⟨q _ _ D.TIz D.TIi1 D.TIi2 g.it,J,L,yM g.x fun o e=>q _ o D.l1z D.l1i1 D.l1i2 e,yM g.y fun o e=>q _ o D.l2z D.l2i1 D.l2i2 e⟩⟩ G M fun c o c1 _ c3 c4 e=>q c o c1 c3 c4 e)
theorem zt_done(M:A.handled=none)(D:ZipApart z G TO B Y Z l2)(U:ZSt s.heap z G TO B Y Z l2 S xs ys i)(W:xs[i]?=none)(I:∀h',(∀c o,c≠z->c≠B->s.heap.get? c=some o->h'.get? c=some o)->Q none { s with heap:=h' }):
  wpAny (model prog w) A (pyNext (.ref z)) Q E s:=by
 obtain⟨g,j⟩:=U
 have q:s.TypeIs (.ref z) "zip":=by
  rcases g with ⟨_,g,_⟩ | ⟨_,_,_,g,_⟩
  .exact ⟨_,g,rfl⟩
  .exact ⟨_,g,rfl⟩
 refine AA (wpAny_attempt (BS q DV
  (A6 DV q F.entry_zip_next (zt_end M D (by grind) j.it j.a j.x W fun h' e N L=>?_) (F.args_zip_next_1 _))))
 exact oQ L fun o O J=>AA (B5 ⟨o,O,J⟩ isSubtype_stop (AF (I _ N)))
end
structure ZG(xs ys:Array Value)(lo:Addr)(h:Heap)(as:List Addr):Prop where
 rise:as.Pairwise (· < ·)
 above:∀a∈as,lo < a
 pairs:∀(j:Nat)(a:Addr),as[j]?=some a->∃x y,xs[j]?=some x/\ys[j]?=some y/\IsPair h a x y
section
variable {prog:Program}{w:World}{A:Around}{s:Shared}{R:Result->Shared->Prop}{xs ys:Array Value}
theorem zt_loop(hh:A.handled=none)(ao:ZipApart z N TO L M l1 l2)(hl:l1≠N/\l2≠N)(B:S≠z/\S≠N/\S≠TO/\S≠L/\S≠M/\S≠l1/\S≠l2)(G:S<=lo/\z<=lo/\TO<=lo/\L<=lo/\M<=lo)(a6:xs.size=ys.size)(hn:xs.size<=sizeLine)res{ax:Heap}(hR:∀h' I acc c as,(∀b o,b≠S->b≠z->b≠TO->b≠L->b≠M->ax.get? b=some o->h'.get? b=some o)->h'.get? S=some { cls:=.type "list",dict:=none,data:=.seq acc c,slots:=#[] }->as.length=xs.size->ZG xs ys lo h' as ->
   acc.toList=as.map Value.ref->R (.ok (.ret res)) { s with heap:=h',toks:=I }):
  ∀k i h I c acc as,xs.size - i=k->i<=xs.size->ZSt h z N TO L M l1 l2 S xs ys i->(∀b o,b≠S->b≠z->b≠TO->b≠L->b≠M->ax.get? b=some o->h.get? b=some o) ->
   h.get? S=some { cls:=.type "list",dict:=none,data:=.seq acc c,slots:=#[] }->acc.toList=as.map Value.ref->as.length=i->ZG xs ys lo h as->lo < h.objs.size ->
   codeAny (model prog w) A (.builtin "list.extend.loop" ⟨[.ref S,.ref z,res],[]⟩) R { s with heap:=h,toks:=I }:=by
 have aj:=B.1;intro k
 induction k with
 |zero =>
  intro i h I c acc as hk hi ak ai hS ab W q av
  apply BP B9
  refine AA (zt_done hh ao ak (Array.getElem?_eq_none (by lia)) fun h' ag=>?_);refine AF (hR h' I acc c as (fun b o Z O b3 U b5 e=>ag b o O U (ai b o Z O b3 U b5 e)) (ag S _ aj B.2.2.2.1 hS) (by lia) ⟨q.rise,q.above,fun j a g=>?_⟩ ab);obtain⟨x,y,e1,e2,e3⟩:=(q.pairs j a g);have aq:=q.above a (Ae g);exact⟨x,y,e1,e2,ag a _ (Aq (An G.2.1 aq)) (Aq (An G.2.2.2.1 aq)) e3⟩
 |succ k ih =>
  intro i h I c acc as hk hi ak ai hS ab W q av;have ah:i < xs.size:=by lia
  have au:i < ys.size:=by lia
  have hsz:acc.size=i:=by rw[<- BD,ab,AB,W]
  have af:=AI hS
  apply BP B9
  refine AA (zt_item ao hl ak af (Bf ah) (Bf au) fun h' aw ht hz ae=>?_);dsimp only at ht hz ae ⊢;have ar:=ae S _ aj B.2.2.1 B.2.2.2.1 B.2.2.2.2.1 hS;have J:∀b o,b≠S->h'.get? b=some o->(h'.update S (Obj.mapSeq (·.push (Value.ref h.objs.size)))).get? b=some o:=fun b o F e=>(BC _ _ (Ne.symm F)).trans e
  apply AA
  have a5:ZSt (h'.update S (Obj.mapSeq (·.push (Value.ref h.objs.size)))) z N TO L M l1 l2 S xs ys (i+1):=by
   refine⟨?_,aw.2.at fun b o F e=>J b o (fun z=>?_) e⟩
   .rcases aw.1 with ⟨e0,_⟩ | ⟨T,f,oT,az,a0,a3,g4,g5,g6⟩
    .cases e0
    .exact .inr ⟨T,f,oT,J _ _ aj.symm az,J _ _ g6 a0,a3,g4,g5,g6⟩
   .rcases F with rfl | rfl | rfl | rfl | rfl
    .exact B.2.1 z.symm
    .exact B.2.2.2.1 z.symm
    .exact B.2.2.2.2.1 z.symm
    .exact B.2.2.2.2.2.1 z.symm
    .exact B.2.2.2.2.2.2 z.symm
  refine Bg ar rfl (AF ⟨BR B8 _,ih (i+1) _ I _ (acc.push (Value.ref h.objs.size)) (as++[h.objs.size]) (by lia) ah a5
   (fun b o Z O b3 U b5 e=>J b o Z (ae b o O b3 U b5 (ai b o Z O b3 U b5 e))) (Ay _ ar rfl) (by rw[Array.toList_push,ab,AO];rfl) (by rw[AG,W];rfl) ⟨?_,?_,?_⟩ ?_⟩) (by lia) (by rw[Array.size_push,hsz];lia)
  .refine Dh.mpr ⟨q.rise,DI _ _,fun a D b F=>?_⟩
   rw[AD.mp F];obtain⟨j,g⟩:=Bu.mp D;exact zT (q.pairs j a g) fun _ _ _ _ e=>AI e
  .intro a D
   rcases AX.mp D with D | D
   .exact q.above a D
   .rwa [AD.mp D]
  .intro j b g
   rcases Nat.lt_trichotomy j as.length with h1 | h1 | h1
   .rw [Be h1] at g
    obtain⟨x,y,e1,e2,e3⟩:=(q.pairs j b g);have Y:∀{ay:Addr},ay<=lo->b≠ay:=fun hq=>Aq (An hq (q.above b (Ae g)));exact⟨x,y,e1,e2,J b _ (Y G.1) (ae b _ (Y G.2.1) (Y G.2.2.1) (Y G.2.2.2.1) (Y G.2.2.2.2) e3)⟩
   .subst h1
    have F:h.objs.size=b:=by simpa using g
    subst F;exact⟨_,_,by rw[W];exact Bf ah,by rw[W];exact Bf au,J _ _ (Aq af) ht⟩
   .have a4:(as++[h.objs.size])[j]?=none:=Ce (by rw[AG,AQ];lia)
    rw[a4] at g;cases g
  .exact Nat.lt_trans av (AI (J _ _ (Aq af) ht))
end
theorem XQ:typeLookup (.type "zip") "__len__" = pure none:=by rw[DR,Cc];kernel_rfl
theorem Qf:typeLookup (.type "zip") "__length_hint__" = pure none:=by rw[DR,Cc];kernel_rfl
section
variable {prog:Program}{w:World}{A:Around}{E:Value->Shared->Prop}{s:Shared}{xs ys:Array Value}
theorem zt_list(hh:A.handled=none)(aw:ZipApart z J TO i1 i2 l1 l2)(hl:l1≠J/\l2≠J)(N:IsZip s.heap z J TO .none)(ah:IsPair s.heap TO .none .none)(D:ZIt s.heap z J i1 i2 l1 l2 xs ys 0)(ay:xs.size=ys.size)(hn:xs.size<=sizeLine)(hQ:∀h' tk acc c as,(∀b o,b≠z->b≠TO->b≠i1->b≠i2->s.heap.get? b=some o->h'.get? b=some o)->h'.get? s.heap.objs.size=some { cls:=.type "list",dict:=none,data:=.seq acc c,slots:=#[] }->as.length=xs.size->ZG xs ys s.heap.objs.size h' as ->
   acc.toList=as.map Value.ref->Q (.ref s.heap.objs.size) { s with heap:=h',toks:=tk }):
  wpAny (model prog w) A (call (.type "list") [.ref z]) Q E s:=by
 have B:=AI N;have ab:=AI ah;have a0:=AI D.it;have aq:=let ⟨o,e,_⟩:=D.a;AI e
 have ar:=let ⟨o,e,_⟩:=D.b;AI e
 have a3:=let ⟨o,e,_⟩:=D.x;AI e
 have a4:=let ⟨o,e,_⟩:=D.y;AI e
 refine Df (Q₁:=fun au av=>au=.ref s.heap.objs.size/\av={ s with heap:=s.heap.push { cls:=.type "list",data:=.seq #[] } }) F.called_list (F.typeCall_list_1 _) F.entry_list_init
  (code_list_new _ ⟨rfl,rfl⟩) fun au av az=>?_
 obtain⟨rfl,rfl⟩:=az;generalize U:s.heap.objs.size=S at *
 have G:(s.heap.push { cls:=.type "list",data:=.seq #[] }).get? S=some { cls:=.type "list",data:=.seq #[] } :=U▸AM _ rfl;have ai:∀b o,s.heap.get? b=some o->(s.heap.push { cls:=.type "list",data:=.seq #[] }).get? b=some o:=fun b o e=>AC _ e;have aj:(s.heap.push { cls:=.type "list",data:=.seq #[] }).objs.size=S+1:=by rw[Bp,U]
 generalize s.heap.push { cls:=.type "list",data:=.seq #[] }=g at G ai aj ⊢;refine⟨⟨_,G,rfl⟩,F.args_list_init_2 _ _,AA ?_⟩
 delta Builtin.List.listItems
 refine AA (A1 G rfl (AF (AA (Bg G rfl ?_))));have W:=Ay (Obj.mapSeq (fun _=>(#[]:Array Value))) G rfl;refine AA (De ?_);have ae:∀f b o(g:Heap),b≠S->g.get? b=some o->(g.update S (Obj.mapSeq f)).get? b=some o:=fun f b o g q e=>(BC _ _ (Ne.symm q)).trans e;have j:∀{b:Addr},b < S->b≠S:=fun h=>AZ h
 have M:∀b o,b≠S->s.heap.get? b=some o->(g.update S (Obj.mapSeq (fun _=>(#[]:Array Value)))).get? b=some o:=fun b o q e=>ae _ b o g q (ai b o e);have ak:(g.update S (Obj.mapSeq (fun _=>(#[]:Array Value)))).objs.size=S+1 :=aj▸(Bl ..).1;generalize g.update S (Obj.mapSeq (fun _=>(#[]:Array Value)))=L at W M ak ⊢;have Y:Shared.TypeIs { s with heap:=L } (.ref z) "zip":=⟨_,M z _ (j B) N,rfl⟩
 delta Builtin.List.listExtendWith
 refine AA (B4 Y ?_);have h1:Builtin.List.listSameRef (.ref S) (.ref z)=false:=by simp[Builtin.List.listSameRef,Ne.symm (j B)]
 have h2:(Value.type "zip" == Value.type "list")=false:=by decide
 have h3:(Value.type "zip" == Value.type "tuple")=false:=by decide
 simp only[h1,h2,h3,Bool.or_false,Bool.false_eq_true,if_false]
 refine AA (wpAny_pyIter_zip (M z _ (j B) N) (AA (As ?_)))
 delta Builtin.List.listLengthHint
 refine AA (BG Y XQ (AA (BG Y Qf (AF ?_))));rw[Ac (by simp)];refine AA (Bw (AA (AA (Bg W rfl ?_))));have af:=Ay (Obj.mapSeq (·.push Value.none)) W rfl
 apply Bg af rfl
 have ag:=Ay (Obj.mapSeq (·.pop)) af rfl;have I:∀b o,b≠S->s.heap.get? b=some o->((L.update S (Obj.mapSeq (·.push Value.none))).update S (Obj.mapSeq (·.pop))).get? b=some o:=fun b o q e=>ae _ b o _ q (ae _ b o _ q (M b o q e));have ao:((L.update S (Obj.mapSeq (·.push Value.none))).update S (Obj.mapSeq (·.pop))).objs.size=S+1:=by rw[(Bl ..).1,(Bl ..).1,ak]
 generalize (L.update S (Obj.mapSeq (·.push Value.none))).update S (Obj.mapSeq (·.pop))=g4 at ag I ao ⊢
 refine AF ⟨BR F.plain_extend_loop _,zt_loop (A:=A.in1) hh aw hl ⟨Ne.symm (j B),Ne.symm (j a0),Ne.symm (j ab),Ne.symm (j aq),Ne.symm (j ar),Ne.symm (j a3),Ne.symm (j a4)⟩ ⟨AJ _,BV B,BV ab,BV aq,BV ar⟩ ay hn .none (fun h' tk acc c as kp e Z hG ax=>?_)
  xs.size 0 g4 s.toks _ #[] [] (Nat.sub_zero _) (Ab _) ⟨.inl ⟨rfl,I z _ (j B) N,_,_,I TO _ (j ab) ah⟩,D.at fun b o q e=>I b o (by rcases q with rfl | rfl | rfl | rfl | rfl<;>exact j ‹_›) e⟩ (fun b o q _ _ _ _ e=>I b o q e) ag rfl rfl ⟨List.Pairwise.nil,(fun _ Z=>nomatch Z),(fun a6 a hj=>by simp at hj)⟩ (ao▸Bm _)⟩
 exact⟨rfl,hQ h' tk acc c as (fun b o b1 b2 b3 b4 O=>kp b o (fun a5=>by rw[a5] at O;have:=AI O;rw[U] at this;exact A7 _ this) b1 b2 b3 b4 O) e Z hG ax⟩
abbrev zpI(l:Addr):Obj:={ cls:=.type "tuple_iterator",data:=.fields #[.ref l,.int 0 0] }
abbrev zpP(a b:Value):Obj:={ cls:=.type "tuple",data:=.seq #[a,b] }
abbrev zpZ(TI TO:Addr):Obj:={ cls:=.type "zip",data:=.fields #[.none,.bool false,.bool false,.ref TI,.ref TO] }
theorem gC j q xs ys:
  Meets (Builtin.«zip.__new__» ⟨[.type "zip",.ref j,.ref q],[]⟩) (fun _ R s=>s.heap.IsTuple j xs/\s.heap.IsTuple q ys /\
   R (.ok (.ret (.ref ((((s.heap.push (zpI j)).push (zpI q)).push (zpP (.ref s.heap.objs.size) (.ref (s.heap.push (zpI j)).objs.size))).push (zpP .none .none)).objs.size))) { s with heap:=((((s.heap.push (zpI j)).push (zpI q)).push (zpP (.ref s.heap.objs.size) (.ref (s.heap.push (zpI j)).objs.size))).push (zpP .none .none)).push (zpZ ((s.heap.push (zpI j)).push (zpI q)).objs.size (((s.heap.push (zpI j)).push (zpI q)).push (zpP (.ref s.heap.objs.size) (.ref (s.heap.push (zpI j)).objs.size))).objs.size) }) :=
 .of_wp fun prog w A R s h=>by
  obtain⟨G,g,d,J,I⟩:=s;obtain⟨D,F,h⟩:=h
  have L:=sub_zip;have B:Heap.IsTuple (Shared.heap ⟨G.push { cls:=.type "tuple_iterator",data:=.fields #[.ref j,.int 0 0] },g,d,J,I⟩) q ys:=Heap.IsTuple.push F _
  wp_walk using CQ D,CQ B
  exact⟨_,rfl,h⟩
end
end PySem
namespace L2
open PySem PySem.W PyProof.Rows
abbrev hM(z:Nat)(a:Addr)(o:Obj):Heap->Prop:=fun h=>z<=a/\h.get? a=some o
theorem Xm{a:Addr}{z:Nat}(g:z<=a)(e:h.get? a=some o):ObjOk P w H h a (.ext (hM z a o)):=⟨⟨g,e⟩,⟨o,e⟩,fun _ _ ⟨q,e⟩ k=>⟨q,k _ e⟩⟩
noncomputable def zpH(n:Nat)(H:Hp)(j q g TO z B D:Addr):Hp :=
 upd (upd (upd (upd (upd H j (.ext (hM n j (zpI B)))) q (.ext (hM n q (zpI D)))) g (.ext (hM n g (zpP (.ref j) (.ref q))))) TO (.ext (hM n TO (zpP .none .none)))) z (.ext (hM n z (zpZ g TO)))
def wR(H:Hp)(ds:List Addr):Hp:=fun b=>if b∈ds then none else H b
theorem Xq(h:b∈ds):wR H ds b=none:=Ac h
theorem gM(h:b∉ds):wR H ds b=H b:=Ad h
theorem VR{q j TO z I J}(h1:H B=none)(h2:H q=none)(D:H j=none)(F:H TO=none)(G:H z=none):wR (zpH n H B q j TO z I J) [z,TO,j,B,q]=H:=by
 funext b
 by_cases g:b∈[z,TO,j,B,q]
 .rw [Xq g]
  simp only[List.mem_cons,List.not_mem_nil,or_false] at g
  rcases g with rfl | rfl | rfl | rfl | rfl
  .exact G.symm
  .exact F.symm
  .exact D.symm
  .exact h1.symm
  .exact h2.symm
 .rw [gM g]
  simp only[List.mem_cons,List.not_mem_nil,or_false,not_or] at g
  delta zpH
  rw[mQ g.1,mQ g.2.1,mQ g.2.2.1,mQ g.2.2.2.2,mQ g.2.2.2.1]
section
variable {X:Cx}{pins:List (Addr×Obj)}{σ:St}{H:Hp}{s:Shared}{h':Heap}
theorem Inv.goneT{f:Addr->Option (List V)}{l:Addr}(I:Inv X pins σ H s)(G:∀b∈ds,∃F,H b=some (.ext F)/\X.s₀.heap.objs.size<=b)(k:∀b o,b∉ds->s.heap.get? b=some o->h'.get? b=some o)(J:∀b xs,f b=some xs->s.heap.objs.size<=b/\xs.length<=sizeLine/\∃B:List Value,Vals xs B/\IsTupN h' b B.toArray)(S:s.heap.objs.size<=l)(fl:f l=none)(af:ys.length<=sizeLine/\∃B:List Value,∃n,Vals ys B/\h'.get? l=some (seqObj "list" B.toArray n)):Inv X pins σ (upd (layT (wR H ds) f) l (.lst ys)) { s with heap:=h',toks:=t' }:=by
 have ag:∀{b u},H b=some u->b≠l:=fun e z=>by rw[z,(I.hok.fresh S)] at e;cases e
 have ae:∀{b u},H b=some u->(∀L,u≠.ext L)->b∉ds:=fun e h z=>by
  obtain⟨F,M,_⟩:=G _ z;rw[e] at M;cases M;exact h F rfl
 have kp:∀{b u},H b=some u->b∉ds->upd (layT (wR H ds) f) l (.lst ys) b=some u:=fun {b u}e h=>by
  rw[mQ (ag e)]
  cases z:f b with
  |none=>rwa [xK z,gM h]
  |some xs=>rw[(fun b xs e=>I.hok.fresh (J b xs e).1) b xs z] at e;cases e
 have D:∀{b u},H b=some u->(∀L,u≠.ext L)->upd (layT (wR H ds) f) l (.lst ys) b=some u:=fun e h=>kp e (ae e h)
 refine I.step (g':=s.gens) (d':=s.drawn) (fun b Z=>?_) (fun b o _ _ g e _=>k b o g e) (fun b o _ _ g e _=>⟨o.slots,k b o g e⟩) (fun b u g e n=>?_)
  (fun b o g e=>⟨o,k b o g e⟩) (fun b xs e=>D e fun _ z=>nomatch z) (fun b o u e=>D e fun _ z=>nomatch z) (fun b ps e=>⟨#[],by rw[D e fun _ z=>nomatch z];simp⟩) (fun m ab=>?_) (fun b u e=>?_) I.bare
 .refine oQ (G b Z) fun F j U=>⟨.inr U,fun z=>?_,fun x c e z=>?_,fun p hp z=>?_⟩
  .rw [z,I.free] at j;cases j
  .have:=I.freeC x c e;rw[z,j] at this;cases this
  .have:=(I.pin p hp).2.1;rw[z,j] at this;cases this
 .rw [mQ (AZ (AV (AI e) S))]
  cases z:f b with
  |none=>rwa [xK z,gM g]
  |some xs=>exact absurd (AI e) (Nat.not_lt.mpr (J b xs z).1)
 .exact ZJ ab fun o es ep ho r=>⟨o,es,ep,k _ o (fun z=>by obtain⟨F,j,_⟩:=G _ z;rw[I.free] at j;cases j) ho,r⟩
 .by_cases O:b=l
  .subst O;rw[bQ] at e;cases e;exact af
  .rw [mQ O] at e
   cases z:f b with
   |some xs =>
    rw[fG z] at e;cases e;obtain⟨_,h2,B,W,Y⟩:=J b xs z;exact⟨h2,B,W,Y⟩
   |none =>
    rw[xK z] at e
    by_cases N:b∈ds
    .rw [Xq N] at e;cases e
    .rw [gM N] at e
     refine(I.hok b u e).stay (fun c v g q=>k c v ?_ q) (fun c q=>D q fun _ z=>nomatch z) fun c xs q=>D q fun _ z=>nomatch z
     rcases g with z | z
     .rwa [z]
     .grind
end
section
variable {X:Cx}
theorem VB:CallR X (.type "zip") (fun xs H Q=>∃g j as bs,xs=[.ref g,.ref j]/\SqT X.K H g as/\SqT X.K H j bs/\∀J L q TO z,H J=none->H L=none->H q=none->H TO=none->H z=none->ZipApart z q TO J L g j->g≠q/\j≠q->Q (.ref z) (zpH X.s₀.heap.objs.size H J L q TO z g j)):=by
 intro pins s σ H xs aq Q I r h;obtain⟨g,j,as,bs,rfl,h1,h2,ao⟩:=h;obtain⟨u,v,rfl,rfl,ry⟩:=r.two;cases ry;refine jZ (I.tuple h1) fun ag r1 Y _=>jZ (I.tuple h2) fun ah r2 p2 _=>callType_new F.called_zip rfl (F.typeCall_zip_2 _ _) (F.newCall_zip_2 _ _) (fun ak=>F.args_object_init_3 ak _ _) F.entry_zip_new (gC g j ag.toArray ah.toArray) ⟨Y,p2,?_⟩;have ai:=let ⟨o,e,_⟩:=Y;AI e
 have aj:=let ⟨o,e,_⟩:=p2;AI e
 have D:=I.sz;have M:(s.heap.push (zpI g)).objs.size=s.heap.objs.size+1:=Bp ..;have N:((s.heap.push (zpI g)).push (zpI j)).objs.size=s.heap.objs.size+2 :=by simp_all
 rw[M,N];have O:(((s.heap.push (zpI g)).push (zpI j)).push (zpP (.ref s.heap.objs.size) (.ref (s.heap.objs.size+1)))).objs.size=s.heap.objs.size+3 :=by simp_all
 rw[O];have U:((((s.heap.push (zpI g)).push (zpI j)).push (zpP (.ref s.heap.objs.size) (.ref (s.heap.objs.size+1)))).push (zpP .none .none)).objs.size=s.heap.objs.size+4 :=by simp_all
 rw[U];generalize G:s.heap.objs.size=S at *
 have ab:(s.heap.push (zpI g)).get? S=some (zpI g) :=G▸AM _ rfl;have Z:Inv X pins σ (upd H S (.ext (hM X.s₀.heap.objs.size S (zpI g)))) { s with heap:=s.heap.push (zpI g),toks:=s.toks }:=I.laid (fun b o e=>AC _ e) (B6 G) (Xm D ab);have ae:((s.heap.push (zpI g)).push (zpI j)).get? (S+1)=some (zpI j) :=M▸AM _ rfl;have I2:=Z.laid (t':=s.toks) (o:=.ext (hM X.s₀.heap.objs.size (S+1) (zpI j))) (h':=(s.heap.push (zpI g)).push (zpI j)) (fun b o e=>AC _ e) (B6 M) (Xm (A9 D) ae)
 have af:(((s.heap.push (zpI g)).push (zpI j)).push (zpP (.ref S) (.ref (S+1)))).get? (S+2)=some (zpP (.ref S) (.ref (S+1))) :=N▸AM _ rfl;have I3:=I2.laid (t':=s.toks) (o:=.ext (hM X.s₀.heap.objs.size (S+2) (zpP (.ref S) (.ref (S+1))))) (h':=((s.heap.push (zpI g)).push (zpI j)).push (zpP (.ref S) (.ref (S+1)))) (fun b o e=>AC _ e) (B6 N) (Xm (A9 (A9 D)) af)
 have g4:((((s.heap.push (zpI g)).push (zpI j)).push (zpP (.ref S) (.ref (S+1)))).push (zpP .none .none)).get? (S+3)=some (zpP .none .none) :=O▸AM _ rfl;have I4:=I3.laid (t':=s.toks) (o:=.ext (hM X.s₀.heap.objs.size (S+3) (zpP .none .none))) (h':=(((s.heap.push (zpI g)).push (zpI j)).push (zpP (.ref S) (.ref (S+1)))).push (zpP .none .none)) (fun b o e=>AC _ e) (B6 O) (Xm (A9 (A9 (A9 D))) g4)
 have W:(((((s.heap.push (zpI g)).push (zpI j)).push (zpP (.ref S) (.ref (S+1)))).push (zpP .none .none)).push (zpZ (S+2) (S+3))).get? (S+4)=some (zpZ (S+2) (S+3)) :=U▸AM _ rfl;have I5:=I4.laid (t':=s.toks) (o:=.ext (hM X.s₀.heap.objs.size (S+4) (zpZ (S+2) (S+3)))) (h':=((((s.heap.push (zpI g)).push (zpI j)).push (zpP (.ref S) (.ref (S+1)))).push (zpP .none .none)).push (zpZ (S+2) (S+3))) (fun b o e=>AC _ e) (B6 U) (Xm (A9 (A9 (A9 (A9 D)))) W)
 have B:∀{b:Addr},S<=b->H b=none:=fun hb=>I.hok.fresh (by rwa [G]);refine⟨⟨_,W,rfl⟩,.ref (S+4),_,I5,rfl,ao S (S+1) (S+2) (S+3) (S+4) (B (AJ _)) (B (BX _ _)) (B (BX _ _)) (B (BX _ _)) (B (BX _ _)) ?_ ?_⟩
 .have:=zipApart_new ai aj
  exact this
 .lia
noncomputable def zpF(ps:List Addr)(as bs:List V):Addr->Option (List V):=fun b=>if b∈ps then some [as.getD (ps.idxOf b) .non,bs.getD (ps.idxOf b) .non] else none
theorem zpF_at(g:ps.Nodup){j:Nat}(h:ps[j]?=some a)(q:as[j]?=some x)(B:bs[j]?=some y):zpF ps as bs a=some [x,y] :=by grind[zpF,List.getElem_mem,g.idxOf_getElem]
theorem uI(hc:X.calm=true):CallR X (.type "list") (fun xs H Q=>∃B D g TO z F J as bs,xs=[.ref z]/\H B=some (.ext (hM X.s₀.heap.objs.size B (zpI F)))/\H D=some (.ext (hM X.s₀.heap.objs.size D (zpI J)))/\H g=some (.ext (hM X.s₀.heap.objs.size g (zpP (.ref B) (.ref D))))/\H TO=some (.ext (hM X.s₀.heap.objs.size TO (zpP .none .none)))/\H z=some (.ext (hM X.s₀.heap.objs.size z (zpZ g TO))) /\
  SqT X.K H F as/\SqT X.K H J bs/\as.length=bs.length/\ZipApart z g TO B D F J/\(F≠g/\J≠g)/\∀ps l,ps.length=as.length->ps.Nodup->(∀b∈ps,H b=none)->H l=none->l∉ps->Q (.ref l) (upd (layT (wR H [z,TO,g,B,D]) (zpF ps as bs)) l (.lst (ps.map V.ref)))):=by
 intro pins s σ H xs ar Q I r h;obtain⟨B,D,g,TO,z,F,J,as,bs,rfl,h1,h2,h3,h4,h5,ak,t2,hl,ah,aj,ag⟩:=h;obtain⟨u,rfl,rfl⟩:=fU r;refine jZ (I.tuple ak) fun ao r1 p1 z1=>jZ (I.tuple t2) fun aq r2 p2 z2=>?_;have U:=(I.hok _ _ h1).1;have W:=(I.hok _ _ h2).1;have Y:=(I.hok _ _ h3).1;have Z:=(I.hok _ _ h4).1;have e5:=(I.hok _ _ h5).1;have n1:=r1.length;refine zt_list (I.ok.hd hc) ah aj e5.2 Z.2 ⟨Y.2,⟨_,U.2,rfl,rfl⟩,⟨_,W.2,rfl,rfl⟩,p1,p2⟩ (by rw[Ao,Ao,<- n1,<- r2.length,hl]) (by grind) fun h' tk acc c ps kp el N G ha=>?_
 have af:=G.rise.imp fun h=>AZ h;rw[Ao,<- n1] at N;have O:=G.above;have S:s.heap.objs.size∉ps:=fun z=>A7 _ (O _ z);have ez:acc=(ps.map Value.ref).toArray:=by rw[<- ha,Array.toArray_toList]
 have rv:Vals (ps.map V.ref) (ps.map Value.ref):=by
  clear af N O S ez G ag ha
  induction ps with
  |nil=>exact .nil
  |cons a as ih=>exact .cons rfl ih
 refine⟨.ref s.heap.objs.size,_,I.goneT (t':=tk) (fun b q=>?_) (fun b o q e=>?_) (fun b xs e=>?_) (AJ _) ?_ ⟨by rw[AB,N];exact z1,_,c,rv,by rwa [<- ez]⟩,rfl,ag ps _ N af (fun b q=>I.hok.fresh (BV (O b q))) (I.hok.fresh (AJ _)) S⟩
 .simp only[List.mem_cons,List.not_mem_nil,or_false] at q
  rcases q with rfl | rfl | rfl | rfl | rfl
  .simp_all
  .exact ⟨_,h4,Z.1⟩
  .exact ⟨_,h3,Y.1⟩
  .exact ⟨_,h1,U.1⟩
  .exact ⟨_,h2,W.1⟩
 .grind
 .unfold zpF at e
  split at e
  .next q =>
   cases e;have hj:=List.idxOf_lt_length_of_mem q;have hg:ps[ps.idxOf b]?=some b :=by grind
   generalize ps.idxOf b=j at hj hg ⊢;refine zT (G.pairs j b hg) fun x y ab ae ai=>?_;rw[Cd] at ab ae;refine⟨BV (O b q),zz 2 rfl,[x,y],.cons ?_ (.cons ?_ .nil),⟨_,ai,rfl,⟨_,rfl⟩,rfl⟩⟩
   .have L:as[j]?=some as[j]:=AK (by omega)
    refine oQ (r1.get L) fun u M q2=>?_;rw[ab] at M;cases M
    rwa [A2,L]
   .have L:bs[j]?=some bs[j]:=AK (by omega)
    refine oQ (r2.get L) fun u M q2=>?_;rw[ae] at M;cases M
    rwa [A2,L]
  .cases e
 .delta zpF
  rw[Ad S]
end
end L2
namespace CL
open PySem PySem.Spec L2 PySem.W
open PyProof.Rows hiding St
section
variable {X:Cx}{a b:Expr}{pos:Pos}
@[irreducible] def cZip:PV->PV->CH->K1->Prop:=fun x y C Q=>match x,y with
 |.tup xs,.tup ys=>xs.length=ys.length/\∀p,C p=none->Q (.ref p) (vQ C p (.lst (List.zipWith (fun a b=>PV.tup [a,b]) xs ys)))
 |_,_=>False
def GN(j q:TCE):TCE:=fun g C Q=>j g C fun x C1=>q g C1 fun y C2=>cZip x y C2 Q
theorem zip_s(h:xs.length=ys.length)(q:∀p,C p=none->Q (.ref p) (vQ C p (.lst (List.zipWith (fun a b=>PV.tup [a,b]) xs ys)))):cZip (.tup xs) (.tup ys) C Q:=by
 delta cZip
 exact⟨h,q⟩
theorem HRel.layT{K}(h:HRel K H C)(j:∀b xs,f b=some xs->H b=none):HRel K (L2.layT H f) C/\Fw H C (L2.layT H f) C/\Imm H (L2.layT H f):=by
 have k:∀{b:Addr}{o:HO},H b=some o->L2.layT H f b=some o:=fun e=>kK j e;have g:Imm H (L2.layT H f):=fun b o _ e=>k e;refine⟨fun b u c=>?_,fun b c n=>⟨rfl,?_⟩,g⟩
 .exact oQ ((h b u c).mut) fun v e _=>(h b u c).imm g (by simp_all)
 .cases e:H b with
  |none=>exact absurd e n
  |some o=>exact k e
theorem Qw{K}{f:Addr->Option (List V)}:∀{ps:List Addr}{vs B}{xs ys},Reps K H vs xs->Reps K H B ys->ps.length=xs.length->xs.length=ys.length->(∀(j:Nat)p v w,ps[j]?=some p->vs[j]?=some v->B[j]?=some w->H p=some (.tup [v,w]))->Reps K H (ps.map V.ref) (List.zipWith (fun a b=>PV.tup [a,b]) xs ys)
 |[],_,_,[],_,.nil,_,_,_,_=>.nil
 |p::ps,v::vs,w::B,x::xs,y::ys,.cons h1 L,.cons h2 M,g,q,D =>
  .cons (.tup (D 0 p v w rfl rfl rfl) (.cons h1 (.cons h2 .nil))) (Qw (f:=f) L M (Aw g) (Aw q) fun j J N O F G I=>D (j+1) J N O F G I)
 |[],_,_,_::_,_,_,_,g,_,_=>nomatch g
 |_::_,_,_,[],_,_,_,g,_,_=>nomatch g
 |_::_,_,_,_::_,[],_,_,_,q,_=>nomatch q
theorem ZR{p p2 ax}(hc:X.calm=true)(aq:X.mg "list" = none)(ar:X.mg "zip" = none)(ha:CE X a ai)(hb:CE X b cb)(hg:Gl X "list":=by rfl)(ak:Gl X "zip":=by rfl)(hs:sQ a=true:=by rfl)(au:sQ b=true:=by rfl):
  CE X (.Call (.Name "list" p) [.Call (.Name "zip" p2) [a,b] [] ax] [] pos) (GN ai cb):=⟨JE.weak (dG (uI hc) hg aq rfl (wM (dG VB ak ar rfl (wM ha.h (wM hb.h dC au) hs) (by decide) rfl hs (by grind)) dC)) fun σ H Q ⟨ρ,C,R,s,h,ay,f⟩ =>
  ⟨ρ,C,_,s,h,ay,fun x H1 px C1 q1 j h1 O=>⟨ρ,C1,_,s.imm (O.imm h),h1,q1,fun y H2 a4 C2 g B h2 S=>by
   have j:=j.imm (S.imm h1)
   delta cZip at g
   split at g
   .next xs ys =>
    cases j with
    |@tup l1 vs _ W j =>
    cases B with
    |@tup l2 ae _ Y B =>
    have lx:=j.len;refine⟨_,_,_,_,rfl,.inl (.inl W),.inl (.inl Y),fun I J F TO z o1 o2 o3 o4 o5 D hl=>?_⟩;have q:∀{b c:Addr}{u:HO},H2 b=some u->H2 c=none->b≠c:=fun N G z=>by rw[z,G] at N;cases N
    have L:∀{n:Nat}{b:Addr}{u:HO},H2 b=some u->zpH n H2 I J F TO z l1 l2 b=some u:=fun e=>by
     delta zpH
     rwa [mQ (q e o5),mQ (q e o4),mQ (q e o3),mQ (q e o2),mQ (q e o1)]
    refine⟨I,J,F,TO,z,_,_,_,_,rfl,?_,?_,?_,?_,bQ,.inl (.inl (L W)),.inl (.inl (L Y)),lx.trans (g.1.trans B.len.symm),D,hl,fun ps l hn av az ao aw=>?_⟩
    .delta zpH;rw[mQ D.i1z,mQ (Ne.symm D.TOi1),mQ (Ne.symm D.TIi1),mQ D.i12,bQ]
    .delta zpH;rw[mQ D.i2z,mQ (Ne.symm D.TOi2),mQ (Ne.symm D.TIi2),bQ]
    .delta zpH;rw[mQ D.TIz,mQ D.TITO,bQ]
    .delta zpH;rw[mQ D.TOz,bQ]
    .have ah:∀{b:Addr},zpH X.s₀.heap.objs.size H2 I J F TO z l1 l2 b=none->H2 b=none:=fun {b}e=>by
      cases G:H2 b with
      |none=>rfl
      |some u=>rw[L G] at e;cases e
     rw[VR o1 o2 o3 o4 o5];have U:=ah ao
     have aj:∀b ab,zpF ps vs ae b=some ab->H2 b=none:=fun b ab e=>by
      delta zpF at e
      split at e
      .grind
      .cases e
     refine kH (h2.layT aj) fun h3 f3 Z=>?_;have M:L2.layT H2 (zpF ps vs ae) l=none:=by rw[xK (by delta zpF;rw[Ad aw])];exact U
     exact f _ _ _ _ (g.2 l (h2.fresh U)) (.ref l) (h3.lay M ⟨_,bQ,Reps.imm (Imm.new M _) (Qw (f:=fun _=>none) (j.imm Z) (B.imm Z) (hn.trans lx) g.1 fun a0 p' v' w' af ag a3=>fG (zpF_at av af ag a3))⟩) (O.trans (S.trans (f3.trans (Fw.lay M _ _))))
   .exact g.elim⟩⟩⟩
end
end CL
namespace PySem
open PySem.Spec PyProof.Rows PyProof.Rows.F
section
variable {prog:Program}{w:World}{κ:Type}[DecidableEq κ]{knd:KeyKind prog w κ}{A:Around}{d it t:Addr}{items:Array Value}{qs:List (List κ×Addr×Value)}{res:Value}
noncomputable def kM(acc qs:List (List κ×Addr×Value)):List (List κ×Addr×Value):=qs.foldl (fun acc q=>storedH acc q.1 q.2.1 q.2.2) acc
theorem oB(x:IsTupleKey knd h g a)(e:∀o,h.get? a=some o->h'.get? a=some o):IsTupleKey knd h' g a:=let ⟨o,i,n,q,r⟩:=x;⟨o,i,n,e o q,r⟩
theorem uR(x:h.DictOfH (tupleKind knd) d xs)(e:∀o,h.get? d=some o->h'.get? d=some o)(k:∀(g:List κ)(a:Addr),IsTupleKey knd h g a->IsTupleKey knd h' g a):h'.DictOfH (tupleKind knd) d xs :=
 let ⟨o,es,ep,q,j,B,D,F,G⟩:=x;⟨o,es,ep,e o q,j,B,D,fun x I=>k _ _ (F x I),G⟩
theorem Qr acc(k:List κ)a v:(storedH acc k a v).length<=acc.length+1:=by
 cases e:atKey acc k with
 |none=>rw[storedH_new e,AG];exact AJ _
 |some p=>rw[storedH_old e,AB];exact B0 _
theorem KO(ah:A.in1.handled=none)(hu:A.in1.units < cLine)(O:d≠it)(ar:d≠t)(aw:t≠it)(ax:items[qs.length]?=none):∀r i s acc,i+r=qs.length ->
   s.heap.IsTupleIter it t i->s.heap.IsTuple t items->s.heap.DictOfH (tupleKind knd) d acc->acc.length+r<=sizeLine ->
   (∀j(h:j < qs.length),∃p,items[j]?=some (.ref p)/\p≠d/\p≠it/\s.heap.IsTuple p #[.ref qs[j].2.1,qs[j].2.2]/\IsTupleKey knd s.heap qs[j].1 qs[j].2.1) ->
   (∀h U,(∀b o,b≠d->b≠it->s.heap.get? b=some o->h.get? b=some o)->h.DictOfH (tupleKind knd) d (kM acc (qs.drop i))->R (.ok (.ret res)) { s with heap:=h,toks:=U }) ->
   codeAny (model prog w) A (.builtin "dict.update.loop" ⟨[.ref d,.ref it,rawInt i,res],[]⟩) R s:=by
 have ae:∀{h:Heap}{g:List κ}{a:Addr}{i:Nat},IsTupleKey knd h g a->h.IsTupleIter it t i->a≠it:=by
  rintro h g a i ⟨o,x,n,e,c,_⟩ ⟨o',I,G,_⟩ rfl;rw[e] at I;cases I;rw[c] at G;exact absurd G (by decide)
 have au:∀{h:Heap}{g:List κ}{a:Addr}{xs:List (List κ×Addr×Value)},IsTupleKey knd h g a->h.DictOfH (tupleKind knd) d xs->a≠d:=by
  rintro h g a xs ⟨o,x,n,e,c,D,_⟩ ⟨o',es,ep,I,_,G,_⟩ rfl;rw[e] at I;cases I;rw[D] at G;cases G
 intro r
 induction r with
 |zero =>
  intro i s acc e L tt D hz N M;have ei:i=qs.length:=by lia
  subst ei;rw[BY] at M;exact BP uM ((Around.under_plainId iW _)▸AA (DK ah L tt ax fun h x=>AA (AF (AF (M h s.toks (fun b o _ aq q=>x b o aq q) (uR D (fun o q=>x d o O q) fun g a J=>oB J fun o q=>x a o (ae J L) q))))))
 |succ r ih =>
  intro i s acc e L tt D hz N M;have hi:i < qs.length:=by lia
  refine eA (N i hi) fun p hp ay av tp kk=>BP uM (AA (DF L tt hp fun h1 ak B=>?_));have W:∀g a,IsTupleKey knd s.heap g a->IsTupleKey knd h1 g a:=fun g a J=>oB J fun o q=>B.extBut a o (ae J L) q;have af:=dZ tp fun o q=>B.extBut p o av q;refine AA (As (AA (wpAny_tryCatch (AA (B4 af.typeIs ?_)))))
  obtain⟨op,e1,e2,n,e3⟩:=id af;refine AA (A1 e1 e3 (AF (As (wpAny_dictSet_heap hu (W _ _ kk) (uR D (fun o q=>B.extBut d o O q) W) (fun h2 ai F=>?_) (by lia)))))
  have aj:kM acc (qs.drop i)=kM (storedH acc qs[i].1 qs[i].2.1 qs[i].2.2) (qs.drop (i+1)):=by
   rw[Al hi];rfl
  refine AF ⟨BR iW _,?_⟩;have ek:rawInt ((i:Int)+1)=rawInt ((i+1:Nat):Int):=by rw[Int.natCast_add];rfl
  refine ih (i+1) _ (storedH acc qs[i].1 qs[i].2.1 qs[i].2.2) (by lia) (rC ak fun o q=>(F.2 it (Ne.symm O)).trans q) (dZ (dZ tt fun o q=>B.extBut t o aw q) fun o q=>(F.2 t (Ne.symm ar)).trans q) ai ?_ (fun j hj=>?_) fun h U ao ab=>?_
  .have:=Qr acc qs[i].1 qs[i].2.1 qs[i].2.2
   lia
  .exact eA (N j hj) fun S ag Y Z a4 a5=>⟨S,ag,Y,Z,dZ (dZ a4 fun o q=>B.extBut S o Z q) fun o q=>(F.2 S Y).trans q,oB (W _ _ a5) fun o q=>(F.2 _ (au a5 D)).trans q⟩
  .rw [<- aj] at ab
   exact M h U (fun b o n1 n2 q=>ao b o n1 n2 ((F.2 b n1).trans (B.extBut b o n2 q))) ab
theorem Xj{id}(Y:A.handled=none)(Z:G.in1.handled=none)(hu:G.in1.units < cLine)(aj:d≠t)(D:s.heap.get? t=some o)(M:o.cls=.type "tuple")(N:o.data=.seq items n)(af:o.dict=none)(L:s.heap.DictOfH (tupleKind knd) d [])(hz:qs.length<=sizeLine)(ak:items[qs.length]?=none)(ah:∀j(h:j < qs.length),∃p,items[j]?=some (.ref p)/\p≠d/\s.heap.IsTuple p #[.ref qs[j].2.1,qs[j].2.2]/\IsTupleKey knd s.heap qs[j].1 qs[j].2.1)(B:∀(h:Heap)(F:Nat),(∀b o,b≠d->s.heap.get? b=some o->h.get? b=some o)->h.DictOfH (tupleKind knd) d (kM [] qs)->R (.ok (.ret res)) { s with heap:=h,toks:=F }):
  wpAny (model prog w) A (Builtin.Dict.updateFrom id d (.ref t) [] res) (fun B s'=>match B with | .done f=>R (.ok f) s' | .again J=>J.quiet=true/\codeAny (model prog w) G J R s') E s:=by
 have tt:s.heap.IsTuple t items:=⟨o,D,M,n,N⟩;refine AA (B4 tt.typeIs (AA (oM D M N af Y fun h1 ao g=>AA (Bw ?_))));have O:=dZ tt fun o q=>g t o q;refine AA (CQ O ?_);have ae :=ZJ L fun od es ep q _=>AI (g d od q);refine AF ⟨BR iW _,KO (knd:=knd) Z hu (AZ ae) aj (AZ (AI (g t o D))) ak qs.length 0 _ [] (BI _) ⟨_,AM _ rfl,rfl,rfl⟩ (O.push _) ?_ (by simp_all) (fun j hj=>?_) fun h F ag ab=>?_⟩
 .exact uR L (fun o q=>AC _ (g d o q)) fun ks a hk=>oB hk fun o q=>AC _ (g a o q)
 .refine Y7 (ah j hj) fun p S U I W=>?_
  have hp :=oQ I fun op q _=>AI (g p op q);exact⟨p,S,U,AZ hp,dZ I fun o q=>AC _ (g p o q),oB W fun o q=>AC _ (g _ o q)⟩
 .exact B h F (fun b o ai q=>ag b o ai (AZ (AI (g b o q))) (AC _ (g b o q))) ab
end
end PySem
namespace L2
open PySem PySem.Spec PyProof.Rows
abbrev TPrs(H:Hp):List Addr->List (List Key×V)->Prop:=Paired fun a p=>∃b,H a=some (.tup [.ref b,p.2])/\H b=some (.tup (p.1.map kV))
theorem eT(B:HOk P w H h):∀{D}{ps},TPrs H D ps->∃qs,KT H ps qs/\D.length=qs.length /\
  ∀j(q:j < qs.length),∃p,D[j]?=some p/\h.IsTuple p #[.ref qs[j].2.1,qs[j].2.2]/\IsTupleKey (qX P w) h qs[j].1 qs[j].2.1
 |_,_,.nil=>⟨[],.nil,rfl,fun j q=>absurd q (CN j)⟩
 |_,_,@Paired.cons _ _ _ a p Y Z ⟨b,e,F⟩ r=>by
  refine jZ (eT B r) fun rs G I J=>?_;obtain⟨_,S,g,N⟩:=(B a _ e)
  cases g with
  |@cons _ W _ its' L g =>
   cases g with
   |@cons _ O _ U M g =>
    cases g;cases L;refine⟨(p.1,b,O)::rs,.cons ⟨rfl,F,M⟩ G,by rw[AL,AL,I],fun j q=>?_⟩
    cases j with
    |zero=>exact⟨a,rfl,N.is,xB B F⟩
    |succ j=>exact J j (Bq q)
theorem KT.merge: ∀{ps}{qs},KT H ps qs->∀{kvs}{xs},KT H kvs xs->KT H (iG kvs ps) (kM xs qs)
 |_,_,.nil,_,_,r=>r
 |_,_,@Paired.cons _ _ _ p q D F ⟨g,j,B⟩ t,kvs,xs,r=>by
  have:=KT.put r p.1 j B;rw[g] at this
  delta iG kM
  rw[ List.foldl_cons,g];exact KT.merge t this
theorem eM:∀ps kvs,(iG kvs ps).length<=kvs.length+ps.length
 |[],kvs=>AJ _
 |p::ps,kvs=>by
  have h1:=eM ps (qV kvs p.1 p.2);have h2:=xW kvs p.1 p.2;unfold iG at h1 ⊢;rw[List.foldl_cons,AL]
  lia
section
variable {X:Cx}
theorem ZV(hc:X.calm=true)(hu:X.A.units+2 < cLine):CallR X (.type "dict") (fun xs H Q=>∃t J ps,xs=[.ref t]/\H t=some (.tup (List.map V.ref J))/\TPrs H J ps/\ps.length<=sizeLine/\∀d,H d=none->Q (.ref d) (upd H d (.dT (iG [] ps)))):=by
 intro pins s σ H xs aj Q I r h;obtain⟨t,J,ps,rfl,ht,hp,hz,q⟩:=h;obtain⟨u,rfl,rfl⟩:=r.one;obtain⟨_,ai,rv,o,h1,h2,⟨n,h3⟩,h4⟩:=(I.hok t _ ht);have ei:=nB rv;subst ei;refine jZ (eT I.hok hp) fun qs O q2 q3=>Df (Q₁:=fun N S=>N=.ref s.heap.objs.size/\S={ s with heap:=s.heap.push { cls:=.type "dict",data:=.dict #[] } }) F.kt_called_dict (F.kt_typeCall_dict_1 _) F.entry_dict_init (kt_code_dict_new _ ⟨rfl,rfl⟩) ?_
 rintro N S ⟨rfl,rfl⟩;have M:(s.heap.push { cls:=.type "dict",data:=.dict #[] }).DictOf (qX X.prog X.w) s.heap.objs.size []:=Heap.DictOf.new s.heap
 have ae:(s.heap.push { cls:=.type "dict",data:=.dict #[] }).DictOfH (tupleKind (qX X.prog X.w)) s.heap.objs.size []:=by
  obtain⟨_,_,xs,k,o,es,ep,g,j,B,D,G⟩:=vR (H:=H) s.heap I.big;cases k;exact⟨o,es,ep,g,j,B,D,(fun _ z=>nomatch z),G⟩
 refine⟨M.typeIs,F.args_dict_init_2 _ _,?_⟩
 apply AA
 refine AA (Cb M.typeIs (AF ?_));have U:=I.ok.hd hc;refine Xj (by lia) (by simp[U]) hu (Aq (AI h1)) (AC _ h1) h2 h3 h4 ae (by rwa [<- (Paired.length O)]) ?_ (fun ag hj=>?_) fun h' tk ah W=>?_
 .simp_all
 .obtain ⟨p,Y,L,Z⟩:=(q3 ag hj)
  have af :=oQ L fun op z _=>AI z;refine⟨p,?_,AZ af,L.push _,oB Z fun o q=>AC _ q⟩;rw[Cd,Ak,Y];rfl
 .refine el36 W fun o es ep g j B D _ G=>?_
  have ab:=eM ps [];refine⟨rfl,.ref s.heap.objs.size,_,I.laid (t':=tk) (o:=.dT (iG [] ps)) (fun b ob e=>ah b ob (AZ (AI e)) (AC _ e)) (AJ _) ⟨by simp at ab;lia,Ck (Aq I.big),_,(KT.merge O .nil).keeps fun b ys e=>?_,o,es,ep,g,j,B,D,G⟩,rfl,q _ (I.hok.fresh (AJ _))⟩;rw[mQ (fun z=>by rw[z,I.hok.fresh (AJ _)] at e;cases e)];exact e
end
end L2
namespace CL
open PySem PySem.Spec L2 PySem.W
open PyProof.Rows hiding St
section
variable {X:Cx}
noncomputable def X8:List PV->Option (List (List Key×PV))
 |[]=>some []
 |.tup [k,v]::r=>match zF k,X8 r with
  |some k,some ps=>some ((k,v)::ps)
  |_,_=>none
 |_=>none
theorem WA{K}(r:Reps K H vs ts)(e:X8 ts=some ps):∃g j,vs=List.map V.ref g/\TPrs H g j/\FP K H j ps:=by
 induction ts generalizing vs ps with
 |nil=>cases r;cases e;exact⟨[],[],rfl,.nil,.nil⟩
 |cons t ts D =>
  cases r with
  |@cons v _ vs _ h r =>
   cases h with
   |@tup a j xs q L =>
    rcases xs with _ | ⟨k,_ | ⟨u,_ | ⟨z,xs⟩⟩⟩
    .cases e
    .cases e
    .unfold X8 at e
     split at e
     .next F U G I =>
      cases e;obtain⟨g,S,rfl,J,p2⟩:=D r I;obtain⟨W,O,rfl,M,N⟩:=eB L;obtain⟨b,rfl,B⟩:=lU M G;exact⟨a::g,(F,O)::S,rfl,.cons ⟨b,q,B⟩ J,.cons ⟨rfl,N⟩ p2⟩
     .cases e
    .cases e
   |_=>cases e
@[irreducible] def pI:GC:=fun ts C Q=>match ts with
 |[.tup xs]=>match X8 xs with
  |some ps=>ps.length<=sizeLine/\∀p,C p=none->Q (.ref p) (vQ C p (.dT (mergeG [] ps)))
  |none=>False
 |_=>False
theorem Vz{K}:Cbi K (fun xs H Q=>∃t j ps,xs=[.ref t]/\H t=some (.tup (List.map V.ref j))/\TPrs H j ps/\ps.length<=sizeLine/\∀d,H d=none->Q (.ref d) (upd H d (.dT (iG [] ps)))) pI:=fun xs ts H C Q R rs h q f=>by
 delta pI at q
 split at q
 .split at q
  .next ps e =>
   obtain⟨v,rfl,r⟩:=oX rs
   cases r with
   |@tup a vs xs B F =>
    obtain⟨j,G,rfl,D,p2⟩:=WA F e;refine⟨a,j,G,rfl,B,D,by rw[Paired.length p2];exact q.1,fun d g=>?_⟩;exact f _ _ _ _ (q.2 d (h.fresh g)) (.ref d) (h.lay g ⟨_,bQ,Paired.mapP (FP.mergeG p2 .nil) fun _ _ z=>⟨z.1,z.2.imm (Imm.new g _)⟩⟩) (Fw.lay g _ _)
  .exact q.elim
 .exact q.elim
theorem dictT_s(e:X8 xs=some ps)(h:ps.length<=sizeLine)(q:∀p,C p=none->Q (.ref p) (vQ C p (.dT (mergeG [] ps)))):pI [.tup xs] C Q :=by grind[pI]
@[irreducible] def cInT:R2C:=fun x y C Q=>match x,y with
 |.str i,.str j=>Q (.bl (!(Builtin.Str.occurrences j i 0 j.length 1).isEmpty)) C
 |_,_=>False
theorem cop_inT{K}:Cop K (fun x y H Q=>∃i j,x=.str i/\y=.str j/\Q (.bl (!(Builtin.Str.occurrences j i 0 j.length 1).isEmpty)) H) cInT:=fun x y D F H C Q R g B h q f=>by
 delta cInT at q
 split at q
 .cases g;cases B
  exact⟨_,_,rfl,rfl,f _ H _ C q (.bl _) h Fw.refl⟩
 .exact q.elim
theorem inT_s(q:Q (.bl (!(Builtin.Str.occurrences j i 0 j.length 1).isEmpty)) C):cInT (.str i) (.str j) C Q:=by
 delta cInT
 exact q
end
theorem Qq{K}: ∀{l:List Str}{vs},Reps K H vs (l.map PV.str)->vs=l.map V.str
 |[],_,.nil=>rfl
 |z::l,_,.cons h t=>by cases h;rw[Qq t];rfl
def Vk(l:List Str):PV->Bool
 |.str z=>l.contains z
 |_=>false
@[irreducible] def cInA:R2C:=fun x y C Q=>match y with
 |.kt ys=>match dN ys,tyP C x with
  |some l,some _=>Q (.bl (Vk l x)) C
  |_,_=>False
 |_=>False
theorem cop_inA{K}:Cop K (rInS K false) cInA:=fun x y G J H C Q R j I h q f=>by
 delta cInA at q
 split at q
 .split at q
  .next l c B D =>
   cases I with
   |kt e r =>
    have g:=Wa B;subst g;have g:=Qq r;subst g;refine⟨_,l,c,rfl,.inr e,Jk j h D,?_⟩;have F:inS l x=Vk l G:=by cases j<;>rfl
    exact F▸f _ H _ C q (.bl _) h Fw.refl
  .exact q.elim
 .exact q.elim
theorem inA_s(g:dN ys=some l)(j:tyP C x=some c)(q:Q (.bl (Vk l x)) C):cInA x (.kt ys) C Q :=by simp_all[cInA]
end CL
namespace CL
open PySem L2 PySem.W
theorem Jj(I:Nat->CSt->CH->Prop)(q:∀n g C(L:CSt->CH->Prop),I n g C->(∀m j C',m < n->I m j C'->L j C')->t g C fun b C1=>if b=true then u { nx:=L,ct:=L,bk:=E.nx,rt:=E.rt } g C1 else E.nx g C1):∀k n g C,n < k->I n g C->ZX t u E k g C
 |0,n,_,_,h,_=>absurd h (CN n)
 |k+1,n,g,C,h,B=>q n g C (ZX t u E k) B fun m j C' F D=>Jj I q k m j C' (by lia) D
theorem rH f:∀xs acc C,Gr C0 C->acc.length+xs.length<=sizeLine->(∀x∈xs,∀C j,Gr C0 C->(∀C',Gr C C'->j (f x) C')->c (some x::I) C j)->(∀p C',C0 p=none->Gr C0 C'->C' p=some (.lst (acc++xs.map f))->Q (.ref p) C')->rZ eD c I Q xs acc C
 |[],acc,C,g,_,_,q=>fR fun p B=>q p _ (vK g B) (g.trans (Gr.new B _)) (by rw[jQ,List.map_nil,Aj])
 |x::xs,acc,C,g,F,h,q=>by
  rw[AL] at F;refine vP (h x AE C _ g fun C' g'=>⟨by lia,rH f xs _ C' (g.trans g') (by grind) (fun y G=>h y (AH _ G)) fun p C2 h1 h2 D=>q p C2 h1 h2 ?_⟩);rw[D,AY]
  rfl
theorem Ks:∀bs,xS (bs.map PV.bl)=some bs
 |[]=>rfl
 |b::bs=>by show(xS (bs.map PV.bl)).map _=_;rw[Ks bs];rfl
theorem GU{bs:List Bool}(h:C p=some (.lst (bs.map PV.bl)))(q:Q (.bl (bs.all id)) C):cAll [.ref p] C Q:=by
 delta cAll
 dsimp only;rw[h];dsimp only
 rwa [Ks]
theorem mJ{p q:CH->Prop}(h:p C):oS (fun b C1=>if (!b)=true then p C1 else q C1) (.bl false) C:=h
theorem len_z(h:z.length<=sizeLine)(q:Q (.int z.length) C):iR [.str z] C Q:=by
 delta iR
 exact⟨h,q⟩
theorem WV{α:Type}g cs(d:α):((jU g (kas_sort cs.length)).toList.map fun i=>cs.getD i d).Perm cs:=by
 rcases Nat.eq_zero_or_pos cs.length with z | z
 .rw [z,Wf,List.length_eq_zero_iff.1 z]
  exact .refl _
 .have e:(List.range cs.length).map (fun i=>cs.getD i d)=cs:=by
   apply List.ext_getElem
   .grind
   .grind
  have:=(vY g cs.length z).map fun i=>cs.getD i d
  rwa [e] at this
theorem vO cs:(KW cs).Perm cs:=WV _ cs _
end CL
namespace K23
open PySem L2
abbrev U0:List Str:=["_law_tape_here","_law_kit","_law_turns","_law_deep"]
abbrev U1:List Str:=["_law_tape_here","_law_kit","_law_turns"]
abbrev U2:List Str:=["_law_house_here","_law_values_here","_law_due"]
abbrev U3:List Str:=["_law_row","_law_spots","_law_downs"]
abbrev U4:List Str:=["_law_tape_here","_law_kit","_law_deep"]
abbrev U5:List Str:=["_law_tape_here","_law_part_here"]
abbrev U6:List Str:=["_law_house_here","_law_values_here","_law_thing","_law_due"]
abbrev U7:List Str:=["_law_tape_here","_law_many"]
abbrev U8:List Str:=["_law_tape_here","_law_names_here","_law_k","_law_keyed"]
abbrev U9:List Str:=["_law_house_here","_law_values_here"]
abbrev U10:List Str:=["_law_tape_here","_law_kit","_law_turns","_law_most"]
abbrev U11:List Str:=["_law_tape_here","_law_kit","_law_turns","_law_name"]
abbrev U12:List Str:=["_law_tape_here","_law_kit","_law_turns","_law_way"]
abbrev U13:List Str:=["_law_house_here","_law_name"]
abbrev U14:List Str:=["_law_tape_here"]
abbrev U15:List Str:=["_law_tape_here","_law_house_here"]
def top(i:Nat):Stmt:=PySem.Challenge.pw_viewwood_k23_drawings_let_by.main.body.getD i (.Pass ⟨0,0,0,0⟩)
noncomputable def tab:List CL.Row:=[
 ⟨none,"is_number","is_number",(top 4),["thing"],["thing"]⟩,
 ⟨none,"is_name","is_name",(top 5),["thing"],["thing"]⟩,
 ⟨none,"cut","cut",(top 6),["number"],["number"]⟩,
 ⟨none,"alike","alike",(top 7),["one","other"],["one","other","pairs","pair","inner"]⟩,
 ⟨none,"pairs_within","pairs_within",(top 8),["one","other"],["one","other","kind"]⟩,
 ⟨none,"dict_pairs","dict_pairs",(top 9),["one","other"],["one","other","own","key","pairs"]⟩,
 ⟨none,"kind_of","kind_of",(top 10),["thing"],["thing"]⟩,
 ⟨none,"number_of","number_of",(top 13),["reckoning","answers","turns","asked"],["reckoning","answers","turns","asked","word","question","first","taken","second"]⟩,
 ⟨none,"joined","joined",(top 14),["word","first","second"],["word","first","second"]⟩,
 ⟨none,"part_of","part_of",(top 16),["house","name"],["house","name","part"]⟩,
 ⟨none,"drawn","drawn",(top 20),["part","answers"],["part","answers","drawer","row","works"]⟩,
 ⟨none,"lets_piece","lets_piece",(top 21),["part","piece"],["part","piece"]⟩,
 ⟨none,"reads_fit","reads_fit",(top 22),["thing"],["thing"]⟩,
 ⟨none,"read_fits","read_fits",(top 23),["thing"],["thing","question"]⟩,
 ⟨none,"parts_in","parts_in",(top 25),["row"],["row","told"]⟩,
 ⟨none,"gather","gather",(top 26),["row","spots","downs","told"],["row","spots","downs","told","want","here"]⟩,
 ⟨none,"laid_over","laid_over",(top 27),["downs","nearer"],["downs","nearer","numbers"]⟩,
 ⟨none,"asked_by","asked_by",(top 28),["entry"],["entry"]⟩,
 ⟨none,"answers_at","answers_at",(top 31),["gives","downs","boxes"],["gives","downs","boxes","answers","sort","pairs","name","number"]⟩,
 ⟨none,"boxes_at","boxes_at",(top 32),["part","values","path"],["part","values","path","kept"]⟩,
 ⟨none,"answers_due","answers_due",(top 33),["house","values","due"],["house","values","due","boxes"]⟩,
 ⟨none,"answered","answered",(top 34),["piece","answers"],["piece","answers"]⟩,
 ⟨none,"lets_due","lets_due",(top 35),["house","values","due","entry"],["house","values","due","entry"]⟩,
 ⟨none,"lets_drawing","lets_drawing",(top 36),["house","values","drawing"],["house","values","drawing","walk","entry"]⟩,
 ⟨none,"_law_tape","_law_tape",(top 38),["_law_script"],["_law_script"]⟩,
 ⟨none,"_law_draw","_law_draw",(top 39),U7,["_law_tape_here","_law_many","_law_script","_law_digit","_law_cell","_law_mixed"]⟩,
 ⟨none,"_law_names","_law_names",(top 40),U7,["_law_tape_here","_law_many","_law_pool","_law_start","_law_stride"]⟩,
 ⟨none,"_law_number","_law_number",(top 41),U14,U14⟩,
 ⟨none,"_law_leaf","_law_leaf",(top 42),U1,U12⟩,
 ⟨none,"_law_sum","_law_sum",(top 43),U0,["_law_tape_here","_law_kit","_law_turns","_law_deep","_law_way","_law_word","_law_many"]⟩,
 ⟨none,"_law_key","_law_key",(top 44),U1,U12⟩,
 ⟨none,"_law_pairs","_law_pairs",(top 45),U10,["_law_tape_here","_law_kit","_law_turns","_law_most","_law_names_here"]⟩,
 ⟨none,"_law_hands","_law_hands",(top 46),U1,["_law_tape_here","_law_kit","_law_turns","_law_hands_here","_law_event","_law_changes","_law_k","_law_box","_law_word"]⟩,
 ⟨none,"_law_plain","_law_plain",(top 47),U0,["_law_tape_here","_law_kit","_law_turns","_law_deep","_law_key_here","_law_tag","_law_sets","_law_hands_here","_law_lines_here"]⟩,
 ⟨none,"_law_part_line","_law_part_line",(top 48),U11,["_law_tape_here","_law_kit","_law_turns","_law_name","_law_key_here","_law_names_here"]⟩,
 ⟨none,"_law_each","_law_each",(top 49),U4,["_law_tape_here","_law_kit","_law_deep","_law_name","_law_number_here","_law_lines_here","_law_k"]⟩,
 ⟨none,"_law_line","_law_line",(top 50),U0,["_law_tape_here","_law_kit","_law_turns","_law_deep","_law_way","_law_name","_law_key_here","_law_number_here","_law_lines_here"]⟩,
 ⟨none,"_law_lines","_law_lines",(top 51),U0,["_law_tape_here","_law_kit","_law_turns","_law_deep","_law_lines_here","_law_k"]⟩,
 ⟨none,"_law_part","_law_part",(top 52),U8,["_law_tape_here","_law_names_here","_law_k","_law_keyed","_law_many","_law_boxes_here","_law_kit","_law_first","_law_lines_here","_law_work_names","_law_works"]⟩,
 ⟨none,"_law_house","_law_house",(top 53),U14,["_law_tape_here","_law_names_here","_law_keyed"]⟩,
 ⟨none,"_law_over","_law_over",(top 54),["_law_downs","_law_more"],["_law_downs","_law_more","_law_found","_law_name","_law_number_here"]⟩,
 ⟨none,"_law_parts","_law_parts",(top 55),U3,["_law_row","_law_spots","_law_downs","_law_found","_law_want","_law_here"]⟩,
 ⟨none,"_law_named","_law_named",(top 56),U13,U13⟩,
 ⟨none,"_law_answers","_law_answers",(top 57),U2,["_law_house_here","_law_values_here","_law_due","_law_path","_law_name","_law_gives","_law_downs","_law_boxes_here","_law_answers_here","_law_sort","_law_pairs_here","_law_one","_law_number_here"]⟩,
 ⟨none,"_law_within","_law_within",(top 58),U2,["_law_house_here","_law_values_here","_law_due","_law_piece","_law_found","_law_spots","_law_name","_law_gives","_law_downs"]⟩,
 ⟨none,"_law_fresh","_law_fresh",(top 59),U9,U9⟩,
 ⟨none,"_law_boxes","_law_boxes",(top 60),U5,U5⟩,
 ⟨none,"_law_values","_law_values",(top 61),U15,["_law_tape_here","_law_house_here","_law_values_here","_law_path","_law_name","_law_gives","_law_downs","_law_piece","_law_way","_law_part_here"]⟩,
 ⟨none,"_law_let","_law_let",(top 62),U6,["_law_house_here","_law_values_here","_law_thing","_law_due","_law_found"]⟩,
 ⟨none,"law","law",(top 63),["_law_script"],["_law_script","_law_tape_here","_law_house_here","_law_values_here","_law_drawing","_law_handed","_law_at","_law_far","_law_others","_law_thing"]⟩,
 ⟨some "Drawer","__init__","Drawer.__init__",(tK (top 19) 0),["self","answers"],["self","answers"]⟩,
 ⟨some "Drawer","number","Drawer.number",(tK (top 19) 1),["self","reckoning","turns"],["self","reckoning","turns"]⟩,
 ⟨some "Drawer","numbered","Drawer.numbered",(tK (top 19) 2),["self","pairs","turns"],["self","pairs","turns"]⟩,
 ⟨some "Drawer","row","Drawer.row",(tK (top 19) 3),["self","lines","turns"],["self","lines","turns","row"]⟩,
 ⟨some "Drawer","bring","Drawer.bring",(tK (top 19) 4),["self","lines","turns","row","counts"],["self","lines","turns","row","counts","line","taken"]⟩,
 ⟨some "Drawer","bring_each","Drawer.bring_each",(tK (top 19) 5),["self","line","turns","row","counts"],["self","line","turns","row","counts","count","turn","inner"]⟩,
 ⟨some "Drawer","want","Drawer.want",(tK (top 19) 6),["self","line","turns","counts"],["self","line","turns","counts","spot","pairs","hands"]⟩,
 ⟨some "Drawer","spot","Drawer.spot",(tK (top 19) 7),["self","key","turns","counts"],["self","key","turns","counts","told","nth"]⟩,
 ⟨some "Drawer","hand","Drawer.hand",(tK (top 19) 8),["self","hand","turns"],["self","hand","turns","changes"]⟩,
 ⟨some "Walk","__init__","Walk.__init__",(tK (top 29) 0),["self","house"],["self","house"]⟩,
 ⟨some "Walk","due","Walk.due",(tK (top 29) 1),["self"],["self"]⟩,
 ⟨some "Walk","pass_by","Walk.pass_by",(tK (top 29) 2),["self","entry"],["self","entry"]⟩]
set_option genInjectivity false in
structure Adr where
 f:Nat->Addr
 d:Nat->FuncData
 t_BOUND:Tok
 Kz:Tok
 fN:Tok
 ASKING:Addr
 lE:Tok
 Drawer:Addr
 Walk:Addr
structure Txt(P:Program)(w:World)(K:Dj)(mg:Str->Option Value)(a:Adr):Prop where
 F:∀(i:Nat){k:Option Str}{nm q:Str}{st:Stmt}{ps N:List Str},tab[i]?=some ⟨k,nm,q,st,ps,N⟩->CL.FI K mg k nm q st ps N (a.f i) (a.d i)
 rA:mg "BOUND" = some (.int 1000000000 a.t_BOUND)
 YW:mg "LETTERS" = some (.str "abcdefghijklmnopqrstuvwxyz" a.Kz)
 qT:mg "LONGEST_NAME" = some (.int 8 a.fN)
 J1:mg "ASKING" = some (.ref a.ASKING)
 Jw:∀H:Hp,SqT K H a.ASKING [.str "take",.str "box",.str "down"]
 Xi:mg "MOST_TURNS" = some (.int 8 a.lE)
 z_abs:mg "abs" = none
 VT:mg "all" = none
 XT:mg "bool" = none
 kN:mg "dict" = none
 rT:mg "int" = none
 jX:mg "isinstance" = none
 jJ:mg "len" = none
 bL:mg "list" = none
 z_max:mg "max" = none
 z_min:mg "min" = none
 aG:mg "range" = none
 XR:mg "reversed" = none
 rF:mg "sorted" = none
 z_str:mg "str" = none
 hX:mg "tuple" = none
 z_zip:mg "zip" = none
 aX:mg "Drawer" = some (.ref a.Drawer)
 kX:Cls K a.Drawer
 K8:Mk K a.Drawer (a.f 50)
 tG:NoAttr K a.Drawer "answers"
 fY:NoAttr K a.Drawer "asked"
 gA:mg "Walk" = some (.ref a.Walk)
 oY:Cls K a.Walk
 mk_Walk:Mk K a.Walk (a.f 59)
 iJ:NoAttr K a.Walk "lacking"
theorem tab_ok:CL.AllR CL.RB tab:=by
 unfold tab
 repeat refine⟨⟨⟨rfl,rfl,rfl,by decide +kernel,rfl,by decide +kernel,by decide +kernel⟩,fun _ _ _ _ _ _=>by first | (refine CL.args1 ?_;exact fun _=>rfl) | (refine CL.args2 ?_;exact fun _ _=>rfl) | (refine CL.args3 ?_;exact fun _ _ _=>rfl) | (refine CL.args4 ?_;exact fun _ _ _ _=>rfl) | (refine CL.args5 ?_;exact fun _ _ _ _ _=>rfl)⟩,?_⟩
 exact trivial
theorem txt_mk{P:Program}{w:World}{K:Dj}{h:Heap}{mg:Str->Option Value}(X:K.In h)(G:h.Ns mainGlobals mg){D g j:Addr}{I J L az a0 a3 M:Tok}{ar:Nat}(au:CL.AllR (CL.FH K) tab)(ai:PySem.W.nsIn K mainGlobals "BOUND" = some (some (.int 1000000000 I)))(aj:PySem.W.nsIn K mainGlobals "LETTERS" = some (some (.str "abcdefghijklmnopqrstuvwxyz" J)))(ak:PySem.W.nsIn K mainGlobals "LONGEST_NAME" = some (some (.int 8 L)))(ao:PySem.W.nsIn K mainGlobals "ASKING" = some (some (.ref D)))(ay:K.lookup D=some { cls:=.type "tuple",data:=.seq #[.str "take" az,.str "box" a0,.str "down" a3] ar })(aq:PySem.W.nsIn K mainGlobals "MOST_TURNS" = some (some (.int 8 M)))(z0:PySem.W.nsIn K mainGlobals "abs" = some none)(z1:PySem.W.nsIn K mainGlobals "all" = some none)(z2:PySem.W.nsIn K mainGlobals "bool" = some none)(z3:PySem.W.nsIn K mainGlobals "dict" = some none)(z4:PySem.W.nsIn K mainGlobals "int" = some none)(z5:PySem.W.nsIn K mainGlobals "isinstance" = some none)(z6:PySem.W.nsIn K mainGlobals "len" = some none)(z7:PySem.W.nsIn K mainGlobals "list" = some none)(z8:PySem.W.nsIn K mainGlobals "max" = some none)(z9:PySem.W.nsIn K mainGlobals "min" = some none)(a4:PySem.W.nsIn K mainGlobals "range" = some none)(a5:PySem.W.nsIn K mainGlobals "reversed" = some none)(a6:PySem.W.nsIn K mainGlobals "sorted" = some none)(a7:PySem.W.nsIn K mainGlobals "str" = some none)(a8:PySem.W.nsIn K mainGlobals "tuple" = some none)(a9:PySem.W.nsIn K mainGlobals "zip" = some none)(q:PySem.W.nsIn K mainGlobals "Drawer" = some (some (.ref g)))(N:PySem.W.plainGet K g Str.empty=true)(S:PySem.W.hasDictIn K g=true)(W:PySem.W.plainOver K g=true)(Z:PySem.W.findIn K (.ref g) "__setattr__" = some (some (.builtin "object.__setattr__")))(ae:PySem.W.makesIn K g=true)(ag:PySem.W.keepIn K (.ref g)=true)(av:PySem.W.findIn K (.ref g) "answers" = some none)(aw:PySem.W.findIn K (.ref g) "asked" = some none)(B:PySem.W.nsIn K mainGlobals "Walk" = some (some (.ref j)))(O:PySem.W.plainGet K j Str.empty=true)(U:PySem.W.hasDictIn K j=true)(Y:PySem.W.plainOver K j=true)(ab:PySem.W.findIn K (.ref j) "__setattr__" = some (some (.builtin "object.__setattr__")))(af:PySem.W.makesIn K j=true)(ah:PySem.W.keepIn K (.ref j)=true)(ax:PySem.W.findIn K (.ref j) "lacking" = some none): ∃a:Adr,Txt P w K mg a:=by
 obtain⟨f,d,F⟩:=CL.fi_all X G au tab_ok
 exact⟨⟨f,d,I,J,L,D,M,g,j⟩,F,
  BF X G ai,
  BF X G aj,
  BF X G ak,
  BF X G ao,
  fun _=>.inr ⟨_,_,_,ay,rfl,rfl,zz 3 rfl,(.cons ⟨_,rfl⟩ (.cons ⟨_,rfl⟩ (.cons ⟨_,rfl⟩ .nil)))⟩,
  BF X G aq,
  Ap X G z0,
  Ap X G z1,
  Ap X G z2,
  Ap X G z3,
  Ap X G z4,
  Ap X G z5,
  Ap X G z6,
  Ap X G z7,
  Ap X G z8,
  Ap X G z9,
  Ap X G a4,
  Ap X G a5,
  Ap X G a6,
  Ap X G a7,
  Ap X G a8,
  Ap X G a9,
  BF X G q,
  ⟨N,S,W,Z⟩,
  ⟨ae,((F 50 rfl).M _ _ rfl (BF X G q)).1,((F 50 rfl).M _ _ rfl (BF X G q)).2,ag⟩,
  av,
  aw,
  BF X G B,
  ⟨O,U,Y,ab⟩,
  ⟨af,((F 59 rfl).M _ _ rfl (BF X G B)).1,((F 59 rfl).M _ _ rfl (BF X G B)).2,ah⟩,
  ax⟩
end K23
namespace K23
open PySem L2 CL
section
variable {P:Program}{w:World}{K:Dj}{mg:Str->Option Value}{base:Heap}{a:Adr}
structure Tp(C:CH)(t:Addr)(ns:List Int):Prop where
 at_:∃a b c:Int,C t=some (.lst [.fz (ns.map PV.int),.int a,.int b,.int c])/\0<=a/\0<=b/\0<=c
 len:ns.length<=63
def Ex(t:Addr)(C C':CH):Prop:=∀b o,b≠t->C b=some o->C' b=some o
theorem Ex.refl: Ex t C C:=fun _ _ _ h=>h
theorem Ex.trans(h:Ex t C C1)(h':Ex t C1 C2):Ex t C C2:=fun b o n e=>h' b o n (h b o n e)
theorem Ex.new(g:C p=none)o:Ex t C (vQ C p o):=fun b u _ e=>by
 rw[yQ (fun z=>by subst z;rw[g] at e;cases e)];exact e
inductive gTape(ts:List PV)(C:CH)(Q:K1):Prop
 |mk(ns:List Int)(z0:ts=[.fz (ns.map PV.int)])(z1:ns.length<=63)(z2:∀t C',C t=none->Ex t C C'->Tp C' t ns->Q (.ref t) C'):gTape ts C Q
theorem ok_tape(T:Txt P w K mg a):FnOk P w K mg base CX0 1 (a.f 24) (a.d 24) ["_law_script"] (spC K gTape):=by
 refine(T.F 24 rfl).ok (fun ts C R h=>?_) fun B A F s H E D=>⟨_,(kQ (gQ (dX (qQ (cv 0) (qQ zQ (qQ zQ (ca1 zQ))))))),?_⟩
 .obtain ⟨ns,rfl,_⟩:=h;rfl
 rintro ts C R ⟨ns,rfl,j,q⟩;show 4<=sizeLine/\∀p,C p=none->R (.ref p) (vQ C p (.lst [.fz (ns.map PV.int),.int 0,.int 0,.int 0]));exact⟨by decide,fun p g=>q p _ g (Ex.new g _) ⟨⟨0,0,0,jQ,by decide,by decide,by decide⟩,j⟩⟩
theorem Ex.tape o:Ex t C (vQ C t o):=fun b u n e=>by rwa [yQ n]
theorem GT{ns:List Int}(h0:0<=k)(h1:k < ((ns.map PV.int).length:Int)):∃v,atI (ns.map PV.int) k=some (.int v):=by
 delta atI ixN
 rw[Ac h0,Ac h1];rw[AB] at h1;show ∃v,(ns.map PV.int)[k.toNat]?=some (.int v);rw[Ak,AK (by lia)];exact⟨_,rfl⟩
inductive Y1(ts:List PV)(C:CH)(Q:K1):Prop
 |mk(t:Addr)(m:Int)(ns:List Int)(z0:ts=[.ref t,.int m])(z1:Tp C t ns)(z2:0 < m)(z3:m < 4611686018427387904)(z4:∀(v:Int)(C':CH),0<=v->v < m->Tp C' t ns->Ex t C C'->Q (.int v) C'):Y1 ts C Q
theorem sZ(T:Txt P w K mg a):FnOk P w K mg base CX0 1 (a.f 25) (a.d 25) U7 (spC K Y1):=by
 have S:=(T.F 25 rfl).s
 refine(T.F 25 rfl).ok (fun ts C R h=>?_) fun ab A ae s H E hr=>⟨_,(xQ (cs1 2 S.nd (cx (cv 0) zQ))
  (xQ (bR (eQ vX wX (cx (cv 0) zQ) zQ) (sH (cv 0) zQ))
  (xQ (nQ (cw_pt (cw_and (ct2 cX aQ (cx (cv 0) zQ) zQ) (cw_and1 (ct2 wD vU (cx (cv 0) zQ) (cln T.jJ (cv 2)))))) (xQ (bR (eQ QJ Xw (zX GK cbi_abs rfl T.z_abs rfl (ca1 (cx (cv 2) (cx (cv 0) zQ)))) (eQ Za qI zQ zQ)) (sH (cv 0) zQ))
  (kQ (bR (eQ vX wX (cx (cv 0) zQ) zQ) (sH (cv 0) zQ)))) cQ)
  (xQ (nQ (ct2 gV eZ (cx (cv 0) zQ) zQ) (xQ (cs1 3 S.nd (eQ tU sY (cx (cv 0) zQ) (cv 1)))
  (xQ (bR (eQ QJ Xw (cx (cv 0) zQ) (cv 1)) (sH (cv 0) zQ))
  (kQ (gQ (cv 3))))) cQ)
  (xQ (cs1 4 S.nd zQ)
  (xQ (nQ (ct2 gV eZ (cln T.jJ (cv 2)) zQ) (kQ (cs1 4 S.nd (cx (cv 2) (eQ tU sY (cx (cv 0) zQ) (cln T.jJ (cv 2)))))) cQ)
  (xQ (cs1 5 S.nd (eQ tU sY (eQ vX wX (eQ vX wX (eQ sL mM (eQ tU sY (cv 4) zQ) zQ) (eQ sL mM (cx (cv 0) zQ) zQ)) zQ) zQ))
  (xQ (cs1 5 S.nd (eQ tU sY (eQ sL mM (cv 5) (eQ vX wX (cv 5) zQ)) zQ))
  (kQ (gQ (eQ tU sY (eQ tU sY (eQ sL mM (cv 5) zQ) zQ) (cv 1)))))))))))),?_⟩
 .obtain ⟨t,m,ns,rfl,_⟩:=h;rfl
 rintro ts C R ⟨t,m,ns,rfl,⟨⟨x,y,z,h,hx,O,J⟩,M⟩,D,m1,q⟩;refine cJ h rfl ?_;refine cJ h rfl ?_;refine aY ?_;refine setL h rfl ?_;dsimp only;have h1:(vQ C t (.lst [.fz (ns.map PV.int),.int (x+1),.int y,.int z])) t=_:=jQ;have g:Ex t C (vQ C t (.lst [.fz (ns.map PV.int),.int (x+1),.int y,.int z])):=Ex.tape _;refine iQ (fun F C'=>F=[some (.ref t),some (.int m),some (.fz (ns.map PV.int)),none,none,none]/\∃y z:Int,C' t=some (.lst [.fz (ns.map PV.int),.int (x+1),.int y,.int z])/\0<=y/\0<=z/\Ex t C C') (fun L j=>?_) ?_
 .refine cJ h1 rfl ?_
  refine gX (rX _ _) ?_;refine gZ (fun I=>?_) fun I=>?_
  .refine cJ h1 rfl ?_
   refine Ym ?_;refine i_i ?_;refine gZ (fun B=>?_) fun B=>?_
   .obtain ⟨c,G⟩:=GT J (Aa B)
    refine cJ h1 rfl ?_;refine ix_f G ?_;refine⟨⟨by decide,by decide,by decide⟩,⟨by decide,by decide⟩,?_⟩;refine setL h1 rfl ?_;refine cJ jQ rfl ?_;refine aY ?_;refine setL jQ rfl ?_;refine j _ _ ⟨rfl,_,_,jQ,?_,by lia,(g.trans (Ex.tape _)).trans (Ex.tape _)⟩;refine Int.ediv_nonneg ?_ (by decide)
    split<;>lia
   .refine xX ?_
    exact j _ _ ⟨rfl,y,z,h1,O,J,g⟩
  .refine rM rfl ?_
   refine xX ?_;exact j _ _ ⟨rfl,y,z,h1,O,J,g⟩
 clear h1 g;rintro F C1 ⟨rfl,y',z',h1,U,W,g⟩;refine kZ ?_;refine cJ h1 rfl ?_;refine i_i ?_;refine gZ (fun I=>?_) fun I=>?_
 .refine cJ h1 rfl ?_
  refine⟨D,?_⟩;refine cJ h1 rfl ?_;refine⟨⟨D,by lia⟩,?_⟩;refine setL h1 rfl ?_;exact q _ _ (CP _ (by lia)) (Br _ D) ⟨⟨_,_,_,jQ,by lia,Int.ediv_nonneg U (by lia),W⟩,M⟩ (g.trans (Ex.tape _))
 .refine xX ?_
  refine uQ (c_i ?_)
  try dsimp only
  refine iQ (fun F C'=>C'=C1/\∃v:Int,F=[some (.ref t),some (.int m),some (.fz (ns.map PV.int)),none,some (.int v),none]) (fun L j=>?_) ?_
  .refine Ym ?_
   refine i_i ?_;refine gZ (fun B=>?_) fun B=>?_
   .have N:(0:Int) < ((ns.map PV.int).length:Int):=Aa B
    obtain⟨c,G⟩:=GT (CP (x+1) (b:=((ns.map PV.int).length:Int)) (by lia)) (Br (x+1) N);refine cJ h1 rfl ?_;refine Ym ?_;refine⟨N,?_⟩;refine ix_f G ?_;exact j _ _ ⟨rfl,_,rfl⟩
   .refine xX ?_
    exact j _ _ ⟨rfl,0,rfl⟩
  .rintro F C2 ⟨rfl,v,rfl⟩
   refine uQ ?_;refine⟨(by show(0:Int) < _;decide),?_⟩;refine⟨.inr ⟨by decide,by decide⟩,?_⟩;refine cJ h1 rfl ?_;refine⟨.inr ⟨by decide,by decide⟩,?_⟩;refine aY ?_;refine aY ?_;refine⟨(by show(0:Int) < _;decide),?_⟩;have Y:=CP (v % 2147483647 * 48271+(x+1) * 7919+12345) (b:=2147483629) (by decide);have Z:=Br (v % 2147483647 * 48271+(x+1) * 7919+12345) (b:=2147483629) (by decide)
   refine uQ ?_;refine aY ?_;refine⟨.inl ⟨by lia,by lia⟩,?_⟩;refine⟨(by show(0:Int) < _;decide),?_⟩;refine⟨.inr ⟨by decide,by decide⟩,?_⟩;refine⟨(by show(0:Int) < _;decide),?_⟩;refine⟨D,?_⟩;exact q _ _ (CP _ (by lia)) (Br _ D) ⟨⟨_,_,_,h1,by lia,U,W⟩,M⟩ g
theorem Tp.ne(h:Tp C t ns)(g:C p=none):p≠t:=fun e=>by
 obtain⟨⟨x,y,z,h,_⟩,_⟩:=h;rw[<- e,g] at h;cases h
theorem Tp.new(h:Tp C t ns)(g:C p=none)o:Tp (vQ C p o) t ns:=by
 have n:=h.ne g;obtain⟨⟨x,y,z,h,q⟩,l⟩:=h;exact⟨⟨x,y,z,(yQ (Ne.symm n)).trans h,q⟩,l⟩
noncomputable def POOL:List Str:=["a","ab","abc","b","ba","box","end","give","part","plain","turn","abcdefgh"]
theorem nV{α:Type}{f:α->PV}{ss:List α}d(h0:0<=k)(h1:k < (ss.length:Int)):atI (ss.map f) k=some (f (ss.getD k.toNat d)):=by
 delta atI ixN
 rw[Ac h0,Ac (by rwa [AB])];show(ss.map f)[k.toNat]?=_;rw[Ak,A2,AK (by lia)]
 rfl
noncomputable def Zg(v c:Int)(i:Nat):Str:=POOL.getD ((v+c * (i:Int)) % 12).toNat ""
noncomputable def qW(v c:Int)(m:Nat):List Str:=(List.range m).map (Zg v c)
theorem VH:∀v∈List.range 12,∀c∈[1,5,7,11],(qW v (c:Nat) 12).Nodup:=by decide +kernel
theorem QX(D:0<=v)(F:v < 12)(q:c=1\/c=5\/c=7\/c=11)(B:m<=12):(qW v c m).Nodup:=by
 have j:(qW v c 12).Nodup:=by
  have:=VH v.toNat (Ba.2 (by lia));have g:=Int.toNat_of_nonneg D
  rcases q with rfl | rfl | rfl | rfl
  .have:=this 1 (by decide);rwa [g] at this
  .have:=this 5 (by decide);rwa [g] at this
  .have:=this 7 (by decide);rwa [g] at this
  .have:=this 11 (by decide);rwa [g] at this
 have e:qW v c m=(qW v c 12).take m:=by
  delta qW
  rw[<- List.map_take,List.take_range,DT B]
 exact e▸j.sublist (List.take_sublist _ _)
theorem Gu f(I:CH->Prop)m(h:∀k C D,k < m->I C->(∀C',I C'->D (f k) C')->c (some (.int k )::G) C D)(q:∀p C',I C'->C' p=none->Q (.ref p) (vQ C' p (.lst ((List.range m).map f)))):∀n C,n<=m->m<=1000->I C->rZ eD c G Q ((List.range m).drop n |>.map fun k=>PV.int (k:Nat)) ((List.range n).map f) C:=by
 suffices ∀j n C,n+j=m->m<=1000->I C->rZ eD c G Q ((List.range m).drop n |>.map fun k=>PV.int (k:Nat)) ((List.range n).map f) C by
  intro n C F B g;exact this (m - n) n C (by lia) B g
 intro j
 induction j with
 |zero =>
  intro n C F B g;have e:n=m:=by lia
  subst e;rw[BW (Am▸AJ _)];exact fR fun p L=>q p C g L
 |succ j M =>
  intro n C F B g;rw[Al (by rw[Am];lia),A5,List.getElem_range];refine vP (h n C _ (by lia) g fun C' J=>⟨?_,?_⟩)
  .rw [AB,Am]
   exact AV (show n < 1001 by lia) (by decide)
  .have e:(List.range n).map f++[f n]=(List.range (n+1)).map f:=by rw[List.range_succ,AO];rfl
   exact e▸M (n+1) C' (by lia) B J
noncomputable def JY(c:Nat):Bool:=!(Builtin.Str.occurrences ("abcdefghijklmnopqrstuvwxyz" : Str) ⟨#[c]⟩ 0 ("abcdefghijklmnopqrstuvwxyz" : Str).length 1).isEmpty
noncomputable def yF(z:Str):Bool:=(decide ((1:Int)<=(z.length:Nat))&&decide (((z.length:Nat):Int)<=8))&&z.cps.toList.all JY
theorem pool_ok:POOL.all yF=true:=by decide +kernel
theorem Yd v c n:∀s∈qW v c n,yF s=true:=by
 intro s hs;obtain⟨i,_,rfl⟩:=AN.1 hs
 delta Zg
 have g:((v+c * (i:Int)) % 12).toNat < POOL.length:=by
  have h1:=CP (v+c * (i:Int)) (show(12:Int)≠0 by decide);have h2:=Br (v+c * (i:Int)) (show(0:Int) < 12 by decide);show _ < 12
  lia
 exact A2▸(AK g)▸Bo.1 pool_ok _ (A8 g)
inductive ZE(ts:List PV)(C:CH)(Q:K1):Prop
 |mk(t:Addr)(m:Int)(ns:List Int)(z0:ts=[.ref t,.int m])(z1:Tp C t ns)(z2:0<=m)(z3:m<=12)(z4:∀(p:Addr)(ss:List Str)(C':CH),C' p=some (.lst (ss.map PV.str))->C p=none->p≠t->ss.length=m.toNat->(ss.Nodup/\∀s∈ss,yF s=true)->Tp C' t ns->Ex t C C'->Q (.ref p) C'):ZE ts C Q
theorem eU(T:Txt P w K mg a):FnOk P w K mg base CX0 2 (a.f 26) (a.d 26) U7 (spC K ZE):=by
 have S:=(T.F 26 rfl).s;have U:=sZ (base:=base) T
 refine(T.F 26 rfl).ok (fun ts C R h=>?_) fun ag A ai s H E W=>⟨_,(xQ (cs1 2 S.nd (dX (qQ wQ (qQ wQ (qQ wQ (qQ wQ (qQ wQ (qQ wQ (qQ wQ (qQ wQ (qQ wQ (qQ wQ (qQ wQ (ca1 wQ))))))))))))))
  (xQ (cs1 3 S.nd (cf (T.F 25 rfl) U W (qQ (cv 0) (ca1 zQ))))
  (xQ (cs1 4 S.nd (cx (dX (qQ zQ (qQ zQ (qQ zQ (ca1 zQ))))) (cf (T.F 25 rfl) U W (qQ (cv 0) (ca1 zQ)))))
  (kQ (gQ (nW rfl (S.c (by decide +kernel)) (S.k rfl rfl rfl (by decide +kernel)) (ZP rfl T.aG (ca1 (cv 1))) (fun _ _ _ _ _=>aJ) (fun _ _ _ _ _=>(cx (cv 3) (eQ tU sY (eQ vX wX (cv 4) (eQ sL mM (cv 5) (cv 0))) zQ))))))))),?_⟩
 .obtain ⟨t,m,ns,rfl,_⟩:=h;rfl
 rintro ts C R ⟨t,m,ns,rfl,G,ah,m1,ab⟩;refine⟨by decide,fun p q=>?_⟩;refine⟨t,12,ns,rfl,G.new q _,by decide,by decide,fun v C1 ae af J M=>?_⟩;refine⟨by decide,fun p2 I=>⟨t,4,ns,rfl,J.new I _,by decide,by decide,fun k C2 k0 k1 D O=>?_⟩⟩;have N:=(Ex.new I _).trans O;have F:=nV (f:=PV.int) (ss:=[1,5,7,11]) 0 k0 k1
 have j:[1,5,7,11].getD k.toNat (0:Int)=1\/[1,5,7,11].getD k.toNat (0:Int)=5\/[1,5,7,11].getD k.toNat (0:Int)=7\/[1,5,7,11].getD k.toNat (0:Int)=11:=by
  have:k=0\/k=1\/k=2\/k=3:=by lia
  rcases this with rfl | rfl | rfl | rfl
  .exact .inl rfl
  .exact .inr (.inl rfl)
  .exact .inr (.inr (.inl rfl))
  .exact .inr (.inr (.inr rfl))
 revert F j;generalize [1,5,7,11].getD k.toNat (0:Int)=c;intro F j;refine cJ (O p2 _ (J.ne I) jQ) F ⟨by lia,by lia,?_⟩;have L:=((Ex.new q _).trans M).trans N;have hb:c<=11/\1<=c:=by rcases j with rfl | rfl | rfl | rfl<;>lia
 refine Gu (fun i=>.str (Zg v c i)) (fun C'=>C'=C2) m.toNat (fun i Y Q' hi e hq=>?_) (fun B Y e g=>?_) 0 C2 (Ab _) (by lia) rfl
 .subst e
  refine⟨.inr ⟨by lia,by lia⟩,?_⟩;refine aY ⟨(by show(0:Int) < _;decide),?_⟩;have r0:=CP (v+c * (i:Int)) (b:=12) (by decide);have r1:=Br (v+c * (i:Int)) (b:=12) (by decide);exact cJ (N p _ (G.ne q) (M p _ (G.ne q) jQ)) (nV (ss:=POOL) "" r0 r1) (hq _ rfl)
 .subst e
  have Z:C B=none:=by
   cases z:C B with
   |none=>rfl
   |some o =>
    rw[L B o (D.ne g) z] at g;cases g
  refine ab B (qW v c m.toNat) _ ?_ Z (D.ne g) ?_ ⟨QX ae af j (by lia),Yd v c m.toNat⟩ (D.new g _) (L.trans (Ex.new g _))
  .rw [jQ]
   delta qW
   rw[BJ]
   rfl
  .delta qW
   rw[AB,Am]
inductive lA(ts:List PV)(C:CH)(Q:K1):Prop
 |mk(t:Addr)(ns:List Int)(z0:ts=[.ref t])(z1:Tp C t ns)(z2:∀(i:Int)(C':CH),-1000000000<=i->i<=1000000000->Tp C' t ns->Ex t C C'->Q (.int i) C'):lA ts C Q
theorem at_ints{ns:List Int}(g:∀x∈ns,lo<=x/\x<=hi)(h0:0<=k)(h1:k < ((ns.map PV.int).length:Int)):∃v,atI (ns.map PV.int) k=some (.int v)/\lo<=v/\v<=hi:=by
 delta atI ixN
 rw[Ac h0,Ac h1];rw[AB] at h1;show ∃v,(ns.map PV.int)[k.toNat]?=some (.int v)/\lo<=v/\v<=hi;rw[Ak,AK (by lia)];exact⟨_,rfl,g _ (A8 _)⟩
theorem jM(T:Txt P w K mg a):FnOk P w K mg base CX0 2 (a.f 27) (a.d 27) U14 (spC K lA):=by
 have D:=sZ (base:=base) T
 refine(T.F 27 rfl).ok (fun ts C R h=>?_) fun Z A ab s H E G=>⟨_,(xQ (nQ (ct2 gV eZ (cf (T.F 25 rfl) D G (qQ (cv 0) (ca1 zQ))) zQ) (kQ (gQ (eQ mV rJ (cf (T.F 25 rfl) D G (qQ (cv 0) (ca1 zQ))) zQ))) cQ)
  (kQ (gQ (cx (dX (qQ (eQ Za qI zQ zQ) (qQ (bB jY lV (eQ Za qI zQ zQ)) (qQ zQ (ca1 (bB jY lV zQ)))))) (cf (T.F 25 rfl) D G (qQ (cv 0) (ca1 zQ))))))),?_⟩
 .obtain ⟨t,ns,rfl,_⟩:=h;rfl
 rintro ts C R ⟨t,ns,rfl,N,q⟩;refine⟨t,8,ns,rfl,N,by decide,by decide,fun v C1 W Y j I=>?_⟩;refine i_i (gZ (fun O=>?_) fun O=>?_)
 .refine ⟨t,9,ns,rfl,j,by decide,by decide,fun v C2 W Y B g=>?_⟩
  exact i_i (q (v - 3) C2 (by lia) (by lia) B (I.trans g))
 .refine xX ⟨⟨by decide,by decide,by decide⟩,?_⟩
  refine⟨⟨by decide,by decide,by decide⟩,?_⟩;refine⟨by decide,fun p2 F=>?_⟩;refine⟨t,4,ns,rfl,j.new F _,by decide,by decide,fun k C2 S U B g=>?_⟩;refine jZ (at_ints (ns:=[10 ^ 9,-10 ^ 9,999983,-70001]) (lo:=-1000000000) (hi:=1000000000) (by decide) S U) fun c M J L=>?_;exact cJ (g p2 _ (j.ne F) jQ) M (q c C2 J L B ((I.trans (Ex.new F _)).trans g))
end
inductive Rk where
 |num (i:Int) | turn (n:Str) | ask (s n:Str) | bin (w:Str) (x y:Rk) | pick (x y z:Rk)
noncomputable def Rk.pv:Rk->PV
 |.num i=>.tup [.str "num",.int i]
 |.turn n=>.tup [.str "turn",.str n]
 |.ask s n=>.tup [.str s,.str n]
 |.bin w x y=>.tup [.str w,x.pv,y.pv]
 |.pick x y z=>.tup [.str "pick",x.pv,y.pv,z.pv]
def jL(bs:List Str)(s n:Str):Prop:=((s = "take"\/s = "down")/\n∈(["a","ab","b"]:List Str))\/(s = "box"/\n∈bs)
noncomputable def Rk.ok(bs τ:List Str):Nat->Rk->Prop
 |_,.num i=>-1000000000<=i/\i<=1000000000
 |_,.turn n=>n∈τ
 |_,.ask s n=>jL bs s n
 |0,.bin _ _ _=>False
 |0,.pick _ _ _=>False
 |d+1,.bin w x y=>(w = "add"\/w = "times"\/w = "less")/\x.ok bs τ d/\y.ok bs τ d
 |d+1,.pick x y z=>x.ok bs τ d/\y.ok bs τ d/\z.ok bs τ d
theorem Rk.ok.up: ∀{d}{r:Rk},r.ok bs τ d->r.ok bs τ (d+1)
 |d,.num i,h=>by unfold Rk.ok at h ⊢;exact h
 |d,.turn n,h=>by unfold Rk.ok at h ⊢;exact h
 |d,.ask s n,h=>by unfold Rk.ok at h ⊢;exact h
 |0,.bin _ _ _,h=>by exact h.elim
 |0,.pick _ _ _,h=>by exact h.elim
 |d+1,.bin w x y,h=>by
  exact⟨h.1,h.2.1.up,h.2.2.up⟩
 |d+1,.pick x y z,h=>by
  exact⟨h.1.up,h.2.1.up,h.2.2.up⟩
theorem Rk.ok.mono{r:Rk}(h:r.ok bs τ d)(l:d<=e):r.ok bs τ e:=by
 induction l with
 |refl=>exact h
 |step _ g=>exact g.up
structure Kt where
 b:Addr
 r:Addr
 bs:List Str
 rs:List Str
 l:Int
 p:Int
 e:Int
 la:Option Str
def jB:Option Str->PV
 |none=>.non
 |some s=>.str s
noncomputable def vZ(b r:Addr)(l p e:Int)(la:PV):List (Key×PV):=[(.inr "boxes",.ref b),(.inr "rest",.ref r),(.inr "left",.int l),(.inr "parts",.int p),(.inr "eaches",.int e),(.inr "last",la)]
structure KAt(C:CH)(t k:Addr)(κ:Kt):Prop where
 at_:C k=some (.dK (vZ κ.b κ.r κ.l κ.p κ.e (jB κ.la)))
 bx:C κ.b=some (.lst (κ.bs.map PV.str))
 rx:C κ.r=some (.lst (κ.rs.map PV.str))
 nk:k≠t
 nb:κ.b≠t
 nr:κ.r≠t
 lb:κ.bs.length<=4
 lr:κ.rs.length<=6
theorem KAt.ex(h:KAt C t k κ)(e:Ex t C C'):KAt C' t k κ :=
 ⟨e _ _ h.nk h.at_,e _ _ h.nb h.bx,e _ _ h.nr h.rx,h.nk,h.nb,h.nr,h.lb,h.lr⟩
section
variable {b r:Addr}{l p e:Int}{la:PV}
theorem tW:gJ (vZ b r l p e la) (.inr "boxes")=some (.ref b):=rfl
theorem yN:gJ (vZ b r l p e la) (.inr "rest")=some (.ref r):=rfl
theorem oF:gJ (vZ b r l p e la) (.inr "left")=some (.int l):=rfl
theorem tT:gJ (vZ b r l p e la) (.inr "parts")=some (.int p):=rfl
theorem uN:gJ (vZ b r l p e la) (.inr "eaches")=some (.int e):=rfl
theorem Qj:gJ (vZ b r l p e la) (.inr "last")=some la:=rfl
theorem QD: qJ (vZ b r l p e la) (.inr "left") (.int g)=vZ b r g p e la:=rfl
theorem KI: qJ (vZ b r l p e la) (.inr "parts") (.int g)=vZ b r l g e la:=rfl
theorem tN: qJ (vZ b r l p e la) (.inr "eaches") (.int g)=vZ b r l p g la:=rfl
end
theorem lG{ss:List Str}(h0:0<=i)(h1:i < (ss.length:Int)):ss.getD i.toNat "" ∈ ss:=by
 rw[A2,AK (by lia)];exact A8 _
section
variable {P:Program}{w:World}{K:Dj}{mg:Str->Option Value}{base:Heap}{a:Adr}
inductive YV(ts:List PV)(C:CH)(Q:K1):Prop
 |mk(t k:Addr)(τ:List Str)(ns:List Int)(κ:Kt)(z0:ts=[.ref t,.ref k,.tup (τ.map PV.str)])(z1:Tp C t ns)(z2:KAt C t k κ)(z3:τ.length<=4)(z4:∀(r:Rk)(C':CH),r.ok κ.bs τ 0->Tp C' t ns->Ex t C C'->Q r.pv C'):YV ts C Q
theorem vA(T:Txt P w K mg a):FnOk P w K mg base CX0 3 (a.f 28) (a.d 28) U1 (spC K YV):=by
 have S:=(T.F 28 rfl).s;have U:=(sZ (base:=base) T).mono (show 1<=2 by decide);have yV:=jM (base:=base) T
 refine(T.F 28 rfl).ok (fun ts C R h=>?_) fun ag A ai s H E F=>⟨_,(xQ (cs1 3 S.nd (cf (T.F 25 rfl) U F (qQ (cv 0) (ca1 zQ))))
  (xQ (nQ (ct2 cX aQ (cv 3) zQ) (kQ (gQ (pQ (qQ wQ (ca1 (cx (dX (qQ wQ (qQ wQ (ca1 wQ)))) (cf (T.F 25 rfl) U F (qQ (cv 0) (ca1 zQ))))))))) cQ)
  (xQ (nQ (ct2 cX aQ (cv 3) zQ) (kQ (gQ (pQ (qQ wQ (ca1 (cx (dX (qQ wQ (qQ wQ (ca1 wQ)))) (cf (T.F 25 rfl) U F (qQ (cv 0) (ca1 zQ))))))))) cQ)
  (xQ (nQ (cw_pt (cw_and (ct2 wD vU (cv 3) zQ) (cw_and1 (ct2 gV eZ (cln T.jJ (hZ (eX F) (cv 1) wQ (fun _ _=>rfl))) zQ)))) (kQ (gQ (pQ (qQ wQ (ca1 (cx (hZ (eX F) (cv 1) wQ (fun _ _=>rfl)) (cf (T.F 25 rfl) U F (qQ (cv 0) (ca1 (cln T.jJ (hZ (eX F) (cv 1) wQ (fun _ _=>rfl)))))))))))) cQ)
  (xQ (nQ (cw_pt (cw_and (ct2 cX aQ (cv 3) zQ) (cw_and1 (ct2 gV eZ (cln T.jJ (cv 2)) zQ)))) (kQ (gQ (pQ (qQ wQ (ca1 (cx (cv 2) (cf (T.F 25 rfl) U F (qQ (cv 0) (ca1 (cln T.jJ (cv 2))))))))))) cQ)
  (kQ (gQ (pQ (qQ wQ (ca1 (cf (T.F 27 rfl) yV F (ca1 (cv 0))))))))))))),?_⟩
 .obtain ⟨t,k,τ,ns,κ,rfl,_⟩:=h;rfl
 rintro ts C R ⟨t,k,τ,ns,κ,rfl,hT,hk,ah,q⟩;refine⟨t,6,ns,rfl,hT,by decide,by decide,fun v C1 aj ak G O=>?_⟩
 try dsimp only
 have M:=hk.ex O
 have af:∀C2,Tp C2 t ns->Ex t C C2->lA [.ref t] C2 fun x Z=>2<=sizeLine/\R (.tup [.str "num",x]) Z:=by
  intro C2 D B;refine⟨t,ns,rfl,D,fun i Z g j T3 e3=>⟨by decide,?_⟩⟩;exact q (.num i) Z ⟨g,j⟩ T3 (B.trans e3)
 refine kZ ?_;refine gX (rX _ _) ?_;refine gZ (fun I=>?_) fun I=>?_
 .refine ⟨by decide,fun p N=>?_⟩
  refine⟨t,3,ns,rfl,G.new N _,by decide,by decide,fun i C2 g j D B=>?_⟩;refine cJ (B p _ (G.ne N) jQ) (nV (f:=PV.str) (ss:=["a","ab","b"]) "" g j) ?_;refine⟨zz 2 rfl,?_⟩;exact q (.ask "take" _) C2 (.inl ⟨.inl rfl,lG g j⟩) D ((O.trans (Ex.new N _)).trans B)
 refine xX ?_;refine kZ ?_;refine gX (rX _ _) ?_;refine gZ (fun I=>?_) fun I=>?_
 .refine ⟨by decide,fun p N=>?_⟩
  refine⟨t,3,ns,rfl,G.new N _,by decide,by decide,fun i C2 g j D B=>?_⟩;refine cJ (B p _ (G.ne N) jQ) (nV (f:=PV.str) (ss:=["a","ab","b"]) "" g j) ?_;refine⟨zz 2 rfl,?_⟩;exact q (.ask "down" _) C2 (.inl ⟨.inr rfl,lG (ss:=["a","ab","b"]) g j⟩) D ((O.trans (Ex.new N _)).trans B)
 refine xX ?_
 try dsimp only
 refine iQ (fun Y C'=>C'=C1/\Y=[some (.ref t),some (.ref k),some (.tup (τ.map PV.str)),some (.int v)]) (fun L W=>?_) ?_
 .refine i_i ?_
  refine gZ (fun I=>?_) fun I=>?_
  .refine bV M.at_ rfl tW ?_
   refine zB M.bx ?_;refine i_i ?_;refine gZ (fun J=>?_) fun J=>?_
   .refine bV M.at_ rfl tW ?_
    refine bV M.at_ rfl tW ?_;refine zB M.bx ?_;have hl:=M.lb;rw[AB] at J ⊢;have ab:=Aa J;refine⟨t,_,ns,rfl,G,ab,by lia,fun i C2 g j D B=>?_⟩;refine cJ ((M.ex B).bx) (nV (f:=PV.str) "" g j) ?_;refine⟨zz 2 rfl,?_⟩;exact q (.ask "box" _) C2 (.inr ⟨rfl,lG g j⟩) D (O.trans B)
   .refine xX ?_
    exact W _ _ ⟨rfl,rfl⟩
  .refine rM rfl ?_
   refine xX ?_;exact W _ _ ⟨rfl,rfl⟩
 rintro Y C' ⟨rfl,rfl⟩;refine iQ (fun Y ae=>ae=C'/\Y=[some (.ref t),some (.ref k),some (.tup (τ.map PV.str)),some (.int v)]) (fun L W=>?_) ?_
 .refine gX (rX _ _) ?_
  refine gZ (fun I=>?_) fun I=>?_
  .refine qB ?_
   refine i_i ?_;refine gZ (fun J=>?_) fun J=>?_
   .refine qB ?_
    rw[AB] at J ⊢;have ab:=Aa J;refine⟨t,_,ns,rfl,G,ab,by lia,fun i C2 g j D B=>?_⟩;refine mX (nV (f:=PV.str) "" g j) ?_;refine⟨zz 2 rfl,?_⟩;exact q (.turn _) C2 (lG g j) D (O.trans B)
   .refine xX ?_
    exact W _ _ ⟨rfl,rfl⟩
  .refine rM rfl ?_
   refine xX ?_;exact W _ _ ⟨rfl,rfl⟩
 rintro Y ae ⟨rfl,rfl⟩;exact af _ G O
end
theorem JX(q:Q (.int (if b then 1 else 0)) C):cInt [.bl b] C Q:=by
 delta cInt
 exact q
def rngP(m:Nat):List PV:=(List.range m).map fun k=>PV.int (k:Nat)
theorem Wi m:(rngP m).length=m:=by delta rngP;rw[AB,Am]
section
variable {P:Program}{w:World}{K:Dj}{mg:Str->Option Value}{base:Heap}{a:Adr}
inductive Xh(d:Nat)(ts:List PV)(C:CH)(Q:K1):Prop
 |mk(t k:Addr)(τ:List Str)(ns:List Int)(κ:Kt)(z0:ts=[.ref t,.ref k,.tup (τ.map PV.str),.int (d:Nat)])(z1:Tp C t ns)(z2:KAt C t k κ)(z3:τ.length<=4)(z4:∀(r:Rk)(C':CH),r.ok κ.bs τ d->Tp C' t ns->Ex t C C'->Q r.pv C'):Xh d ts C Q
theorem kC(T:Txt P w K mg a)(d:Nat):FnOk P w K mg base CX0 (d+4) (a.f 29) (a.d 29) U0 (spC K (Xh d)):=by
 have aj:∀n,(∀d',n=d'+1->FnOk P w K mg base CX0 (d'+4) (a.f 29) (a.d 29) U0 (spC K (Xh d')))->FnOk P w K mg base CX0 (n+4) (a.f 29) (a.d 29) U0 (spC K (Xh n)):=by
  intro n ih;have S:=(T.F 29 rfl).s;have fQ:=(sZ (base:=base) T).mono (show 1<=n+3 by lia);have cB:=(vA (base:=base) T).mono (show 3<=n+3 by lia)
  have iK:FnOk P w K mg base CX0 (n+3) (a.f 29) (a.d 29) U0 (spC K (fun ts C Q=>∃d',n=d'+1/\Xh d' ts C Q)):=by
   cases n with
   |zero=>exact⟨fun vs H Q E ⟨ts,C,R,_,_,⟨d',e,_⟩,_⟩=>by lia,fun _ _ _ _ _ _ _ _ _ _ _ _ _ ⟨ts,C,R,_,_,⟨d',e,_⟩,_⟩=>by lia⟩
   |succ d' =>
    have:=ih d' rfl
    have e:(fun ts C Q=>∃Z,d'+1=Z+1/\Xh Z ts C Q)=Xh d':=by
     funext ts C Q
     refine propext ⟨fun⟨Z,e,h⟩=>?_,fun h=>⟨d',rfl,h⟩⟩;cases Aw e;exact h
    rw[e];exact this
  refine(T.F 29 rfl).ok (fun ts C R h=>?_) fun ay A a0 s H E q=>⟨_,(xQ (cs1 4 S.nd (cf (T.F 25 rfl) fQ q (qQ (cv 0) (ca1 zQ))))
  (xQ (nQ (cw_pt (cw_or (ct2 cX aQ (cv 3) zQ) (cw_or1 (ct2 wD vU (cv 4) zQ)))) (kQ (gQ (cf (T.F 28 rfl) cB q (qQ (cv 0) (qQ (cv 1) (ca1 (cv 2))))))) cQ)
  (xQ (cs1 5 S.nd (cx (dX (qQ wQ (qQ wQ (qQ wQ (ca1 wQ))))) (eQ mV rJ (cv 4) zQ)))
  (xQ (cs1 6 S.nd (cx (dX (qQ zQ (ca1 zQ))) (aZ fM tH rfl T.rT rfl (ca1 (gY cX aQ (cv 5) wQ (jG _))))))
  (kQ (gQ (eQ vX wX (pQ (ca1 (cv 5))) (ctp T.hX (nW rfl (S.c (by decide +kernel)) (S.k rfl rfl rfl (by decide +kernel)) (ZP rfl T.aG (ca1 (cv 6))) (fun _ _ _ _ _=>aJ) (fun _ _ _ _ _=>(cf (T.F 29 rfl) iK q (qQ (cv 1) (qQ (cv 2) (qQ (cv 3) (ca1 (eQ mV rJ (cv 4) zQ)))))))))))))))),?_⟩
  .obtain ⟨t,k,τ,ns,κ,rfl,_⟩:=h;rfl
  rintro ts C R ⟨t,k,τ,ns,κ,rfl,hT,hk,ah,ak⟩;refine⟨t,8,ns,rfl,hT,by decide,by decide,fun v C1 a3 a4 T1 e1=>?_⟩
  try dsimp only
  have av:=hk.ex e1
  have ai:∀W:K1,W=R->YV [.ref t,.ref k,.tup (τ.map PV.str)] C1 W:=by
   rintro W rfl;exact⟨t,k,τ,ns,κ,rfl,T1,av,ah,fun r C2 q J M=>ak r C2 (q.mono (Ab _)) J (e1.trans M)⟩
  refine iQ (fun ao C'=>C'=C1/\0 < n/\4<=v/\ao=[some (.ref t),some (.ref k),some (.tup (τ.map PV.str)),some (.int (n:Nat)),some (.int v),none,none]) (fun L N=>?_) ?_
  .refine gX (rX _ _) ?_
   refine gZ (fun hb=>?_) fun hb=>?_
   .refine Vm rfl ?_
    exact ai _ rfl
   .refine i_i ?_
    refine gZ (fun af=>?_) fun af=>?_
    .exact ai _ rfl
    .refine xX ?_
     have:=CU hb;have:=CU af;exact N _ _ ⟨rfl,by lia,by lia,rfl⟩
  rintro ao C' ⟨rfl,hn,hv,rfl⟩;obtain⟨d',rfl⟩:∃d',n=d'+1:=⟨n - 1,by lia⟩
  have ab:∀(j:Str)(m:Nat)(C2:CH),(m=2/\(j = "add"\/j = "times"\/j = "less"))\/(m=3/\j = "pick")->Tp C2 t ns->Ex t C C2 ->
    ∀(c:TCE)(ρ:CSt)(Q:K1),(∀x g(L:K1),Tp g t ns->Ex t C g->(∀r I,Rk.ok κ.bs τ d' r->Tp I t ns->Ex t C I->L r.pv I)->c (some x::ρ) g L)->(∀(p:Addr)(rs:List Rk)(g:CH),Tp g t ns->Ex t C g->g p=some (.lst (rs.map Rk.pv))->(∃r:Rk,r.ok κ.bs τ (d'+1)/\r.pv=.tup (.str j::rs.map Rk.pv)/\rs.length<=3)->Q (.ref p) g) ->
    rZ eD c ρ Q (rngP m) [] C2:=by
   intro j m C2 B J M c ρ Q ax ab;refine nG (fun zs acc g=>Tp g t ns/\Ex t C g/\∃rs:List Rk,acc=rs.map Rk.pv/\rs.length+zs.length=m/\∀r∈rs,Rk.ok κ.bs τ d' r) ?_ ?_ _ _ _ ⟨J,M,[],rfl,by rw[Wi];exact BI _,fun r q=>nomatch q⟩
   .rintro x r acc g ⟨F,D,rs,rfl,O,G⟩ L N
    refine ax x g L F D fun r4 I ae Y e4=>N _ _ ⟨?_,Y,e4,rs++[r4],by rw[AO];rfl,by rw[AG,AQ];rw[AL] at O;lia,fun r q=>?_⟩
    .rw [AB]
     exact AV (show rs.length < 4 by lia) (by decide)
    .rcases AX.1 q with q | q
     .exact G r q
     .cases AD.1 q;exact ae
   .rintro acc g ⟨F,D,rs,rfl,O,G⟩ p U
    refine ab p rs _ (F.new U _) (D.trans (Ex.new U _)) jQ ?_;rw[Co,Nat.add_zero] at O
    rcases B with ⟨rfl,B⟩ | ⟨rfl,B⟩
    .match rs,O with
     |[x,y],_=>exact⟨.bin j x y,by unfold Rk.ok;exact⟨B,G x (by simp),G y (by simp)⟩,rfl,by show 2<=3;decide⟩
    .match rs,O with
     |[x,y,z],_=>exact⟨.pick x y z,by unfold Rk.ok;exact⟨G x (by simp),G y (by simp),G z (by simp)⟩,by rw[B];rfl,by show 3<=3;decide⟩
  refine uQ ?_;refine⟨by decide,fun p U=>?_⟩;refine i_i ?_;have J:=T1.new U (.lst [PV.str "add",PV.str "times",PV.str "less",PV.str "pick"]);have M:=e1.trans (Ex.new U (.lst [PV.str "add",PV.str "times",PV.str "less",PV.str "pick"]));have aq:v=4\/v=5\/v=6\/v=7:=by lia
  obtain⟨j,m,ar,B⟩:∃(j:Str)(m:Nat),atI ([PV.str "add",PV.str "times",PV.str "less",PV.str "pick"]) (v - 4)=some (.str j)/\((m=2/\(j = "add"\/j = "times"\/j = "less"))\/(m=3/\j = "pick")):=by
   rcases aq with rfl | rfl | rfl | rfl
   .exact ⟨"add",2,rfl,.inl ⟨rfl,.inl rfl⟩⟩
   .exact ⟨"times",2,rfl,.inl ⟨rfl,.inr (.inl rfl)⟩⟩
   .exact ⟨"less",2,rfl,.inl ⟨rfl,.inr (.inr rfl)⟩⟩
   .exact ⟨"pick",3,rfl,.inr ⟨rfl,rfl⟩⟩
  refine cJ jQ ar ?_;refine uQ ?_;refine⟨by decide,fun p2 ag=>?_⟩;refine gX (lQ _ _) ?_;refine JX ?_
  have au:atI [PV.int 2,PV.int 3] (if decide (j = "pick") then 1 else 0)=some (.int (m:Nat)):=by
   rcases B with ⟨rfl,B⟩ | ⟨rfl,rfl⟩
   .have:¬ j = "pick":=by rcases B with rfl | rfl | rfl<;>decide
    rw[AR this];rfl
   .rfl
  refine cJ jQ au ?_;refine⟨zz 1 rfl,?_⟩;have az:m<=3:=by rcases B with ⟨rfl,_⟩ | ⟨rfl,_⟩<;>decide
  refine⟨by lia,by lia,?_⟩;refine ab j m _ B (J.new ag _) (M.trans (Ex.new ag _)) _ _ _ (fun x g L F D N=>?_) fun p3 rs g F D m3 q=>?_
  .refine i_i ?_
   refine⟨d',rfl,t,k,τ,ns,κ,?_,F,hk.ex D,ah,fun r I ae Y e4=>N r I ae Y (D.trans e4)⟩;have:((d'+1:Nat):Int) - 1=(d':Nat):=by lia
   rw[this]
  .obtain ⟨r,aw,ep,lr⟩:=q
   refine cK m3 ?_;refine qH (by show 1+_<=sizeLine;rw[AB];exact Ah (show 1+rs.length<=4 by lia) (by decide)) ?_;have:=ak r g aw F D;rw[ep] at this;exact this
 induction d with
 |zero=>exact aj 0 fun d' e=>by lia
 |succ d ih=>exact aj (d+1) fun d' e=>by cases Aw e;exact ih
end
def bD:Option Rk->PV
 |none=>.non
 |some r=>r.pv
def pA(bs τ:List Str):Option Rk->Prop
 |none=>True
 |some r=>r.ok bs τ 0
def lM(c:Str×Rk):PV:=.tup [.str c.1,c.2.pv]
def wH(bs τ:List Str)(d:Nat)(ps:List (Str×Rk)):Prop:=∀c∈ps,c.2.ok bs τ d
theorem at_last{τ:List Str}(h:0 < τ.length):∃s∈τ,atI (τ.map PV.str) (-1)=some (.str s):=by
 delta atI ixN
 rw[Ad (by decide),AB,Ac (by lia)];have:((τ.length:Int) + -1).toNat < τ.length:=by lia
 refine⟨τ[((τ.length:Int) + -1).toNat],A8 _,?_⟩;show(τ.map PV.str)[((τ.length:Int) + -1).toNat]?=_;rw[Ak,AK this]
 rfl
theorem Gx(h:C a=some (.lst xs))(j:g[i]?=some (some (.ref a)))(q:gU (fun C=>C a=some (.lst xs)) t c g Q xs [] C):uP (cZ i) t c g C Q:=by
 delta uP cZ
 rw[j];dsimp only
 rwa [h]
theorem wU{β:Type}F(G:β->Prop)(J:CH->Prop)(N:∀C,J C->C p=some (.lst (ss.map PV.str)))(hl:ss.length<=1000)(Y:∀z C L,J C->(∀b C',G b->J C'->L (F (z,b)) C')->c (some (.str z)::Z) C L)(I:∀(bs:List (Str×β))C q,J C->C q=none->bs.map (·.1)=ss->(∀x∈bs,G x.2)->Q (.ref q) (vQ C q (.lst (bs.map F))))(M:J C):
  gU (fun C=>C p=some (.lst (ss.map PV.str))) eD c Z Q (ss.map PV.str) [] C:=by
 refine zE (fun zs acc C=>J C/\∃(bs:List (Str×β))(g:List Str),zs=g.map PV.str/\acc=bs.map F/\bs.map (·.1)++g=ss/\∀x∈bs,G x.2) (fun _ _ _ h=>N _ h.1) ?_ ?_ _ _ _ ⟨M,[],ss,rfl,rfl,rfl,fun x h=>nomatch h⟩
 .rintro x r acc C1 ⟨D,bs,g,B,rfl,e,o⟩ L O
  cases g with
  |nil=>cases B
  |cons u g =>
   obtain⟨rfl,rfl⟩:=BN B;refine Y u C1 L D fun b C' W U=>O _ _ ⟨?_,U,bs++[(u,b)],g,rfl,by rw[AO];rfl,by rw[AO,AY];exact e,fun x j=>?_⟩
   .have:=Bi List.length e
    rw[AG,AB] at this;rw[AB];exact AV (show bs.length < 1001 by lia) (by decide)
   .rcases AX.1 j with j | j
    .exact o x j
    .cases AD.1 j;exact W
 .rintro acc C1 ⟨D,bs,g,B,rfl,e,o⟩ q S
  cases g with
  |nil=>rw[Aj] at e;exact I bs C1 q D S e o
  |cons u g=>cases B
section
variable {P:Program}{w:World}{K:Dj}{mg:Str->Option Value}{base:Heap}{a:Adr}
inductive gKey(ts:List PV)(C:CH)(Q:K1):Prop
 |mk(t k:Addr)(τ:List Str)(ns:List Int)(κ:Kt)(z0:ts=[.ref t,.ref k,.tup (τ.map PV.str)])(z1:Tp C t ns)(z2:KAt C t k κ)(z3:τ.length<=4)(z4:∀(o:Option Rk)(C':CH),pA κ.bs τ o->Tp C' t ns->Ex t C C'->Q (bD o) C'):gKey ts C Q
theorem Zd(T:Txt P w K mg a):FnOk P w K mg base CX0 4 (a.f 30) (a.d 30) U1 (spC K gKey):=by
 have O:=(sZ (base:=base) T).mono (show 1<=3 by decide);have M:=vA (base:=base) T
 refine(T.F 30 rfl).ok (fun ts C R h=>?_) fun Y A ab s H E j=>⟨_,(xQ (cs1 3 ((T.F 30 rfl).s).nd (cf (T.F 25 rfl) O j (qQ (cv 0) (ca1 zQ))))
  (xQ (nQ (ct2 wD vU (cv 3) zQ) (kQ (gQ wV)) cQ)
  (xQ (nQ (cw_pt (cw_and (ct2 cX aQ (cv 3) zQ) (cw_and1 (ct2 gV eZ (cln T.jJ (cv 2)) zQ)))) (kQ (gQ (pQ (qQ wQ (ca1 (cx (cv 2) (bB jY lV zQ))))))) cQ)
  (kQ (gQ (cf (T.F 28 rfl) M j (qQ (cv 0) (qQ (cv 1) (ca1 (cv 2)))))))))),?_⟩
 .obtain ⟨t,k,τ,ns,κ,rfl,_⟩:=h;rfl
 rintro ts C R ⟨t,k,τ,ns,κ,rfl,S,U,W,q⟩;refine⟨t,4,ns,rfl,S,by decide,by decide,fun v C1 ae af B g=>?_⟩;refine kZ (i_i (gZ (fun D=>?_) fun D=>?_))
 .exact q none C1 trivial B g
 apply xX
 try dsimp only
 refine iQ (fun I C'=>C'=C1/\I=[some (.ref t),some (.ref k),some (.tup (τ.map PV.str)),some (.int v)]) (fun L G=>?_) ?_
 .refine gX (rX _ _) (gZ (fun D=>?_) fun D=>?_)
  .refine qB (i_i (gZ (fun F=>?_) fun F=>?_))
   .rw [AB] at F
    have Z:=Aa F;refine oQ (at_last (τ:=τ) (by lia)) fun s hs es=>?_;refine mX es ⟨zz 2 rfl,?_⟩;exact q (some (.turn s)) C1 hs B g
   .exact xX (G _ _ ⟨rfl,rfl⟩)
  .exact rM rfl (xX (G _ _ ⟨rfl,rfl⟩))
 rintro I C' ⟨rfl,rfl⟩;exact⟨t,k,τ,ns,κ,rfl,B,(U.ex g),W,fun r C2 j J N=>q (some r) C2 j J (g.trans N)⟩
inductive YS(ts:List PV)(C:CH)(Q:K1):Prop
 |mk(t k:Addr)(τ:List Str)(ns:List Int)(κ:Kt)(z0:ts=[.ref t,.ref k,.tup (τ.map PV.str),.int 2])(z1:Tp C t ns)(z2:KAt C t k κ)(z3:τ.length<=4)(z4:∀(ps:List (Str×Rk))(C':CH),wH κ.bs τ 2 ps->ps.length<=4->Tp C' t ns->Ex t C C'->Q (.tup (ps.map lM)) C'):YS ts C Q
theorem W1(T:Txt P w K mg a):FnOk P w K mg base CX0 7 (a.f 31) (a.d 31) U10 (spC K YS):=by
 have S:=(T.F 31 rfl).s;have Z:=(sZ (base:=base) T).mono (show 1<=6 by decide);have U:=(eU (base:=base) T).mono (show 2<=6 by decide);have iK:=kC (base:=base) T 2
 refine(T.F 31 rfl).ok (fun ts C R h=>?_) fun ah A aj s H E g=>⟨_,(xQ (cs1 4 S.nd (cf (T.F 26 rfl) U g (qQ (cv 0) (ca1 (cf (T.F 25 rfl) Z g (qQ (cv 0) (ca1 (eQ vX wX (cv 3) zQ))))))))
  (kQ (gQ (ctp T.hX (sG rfl (S.c (by decide +kernel)) (S.k rfl rfl rfl (by decide +kernel)) (cv 4) (fun _ _ _ _ _=>aJ) (fun _ _ _ _ _=>(pQ (qQ (cv 0) (ca1 (cf (T.F 29 rfl) iK g (qQ (cv 1) (qQ (cv 2) (qQ (cv 3) (ca1 zQ)))))))))))))),?_⟩
 .obtain ⟨t,k,τ,ns,κ,rfl,_⟩:=h;rfl
 rintro ts C R ⟨t,k,τ,ns,κ,rfl,hT,hk,ab,af⟩;refine aY ⟨t,3,ns,rfl,hT,by decide,by decide,fun v C1 ag ak M W=>?_⟩;refine⟨t,v,ns,rfl,M,ag,by lia,fun p ss C2 F n2 ae hl ai N Y=>?_⟩;refine Gx F rfl (wU lM (fun r=>r.ok κ.bs τ 2) (fun C'=>Tp C' t ns/\Ex t C C'/\C' p=some (.lst (ss.map PV.str))) (fun _ h=>h.2.2) (by lia) (fun z I L ⟨q,j,G⟩ hL=>?_) (fun bs I p3 ⟨q,j,G⟩ D hb ho=>?_) ⟨N,W.trans Y,F⟩)
 .refine ⟨t,k,τ,ns,κ,rfl,q,hk.ex j,ab,fun r J g O B=>⟨zz 2 rfl,hL r J g ⟨O,j.trans B,B _ _ ae G⟩⟩⟩
 .exact cK jQ (af bs _ ho (by have:=Bi List.length hb;rw[AB] at this;lia) (q.new D _) (j.trans (Ex.new D _)))
end
structure Hd where
 ev:Str
 rank:Int
 last:Bool
 ch:List (Str×Str×Rk)
def chPV(c:Str×Str×Rk):PV:=.tup [.str c.1,.str c.2.1,c.2.2.pv]
noncomputable def Hd.pv(h:Hd):PV:=.tup [.str h.ev,.int h.rank,.bl h.last,.tup (h.ch.map chPV)]
def Hd.ok(bs τ:List Str)(h:Hd):Prop:=h.ch.length<=4/\∀c∈h.ch,c.2.2.ok bs τ 1
theorem Ex.put(g:Ex t C C1)(j:C p=none)o:Ex t C (vQ C1 p o):=fun b u n e=>by
 rw[yQ (fun z=>by subst z;rw[j] at e;cases e)];exact g b u n e
theorem Tp.put(h:Tp C t ns)(g:p≠t)o:Tp (vQ C p o) t ns:=by
 obtain⟨⟨a,b,c,e,r⟩,l⟩:=h;exact⟨⟨a,b,c,by exact(yQ (Ne.symm g))▸e,r⟩,l⟩
theorem Ex.none(g:Ex t C C')(n:p≠t)(h:C' p=none):C p=none:=by
 cases e:C p with
 |none=>rfl
 |some o=>rw[g p o n e] at h;cases h
theorem vG(I:Nat->CSt->CH->Prop)(D:∀i j C,I i j C->C b=some (.lst xs))(G:∀i x j C,xs[i]?=some x->I i j C->∀L:CSt->CH->Prop,(∀q C',I (i+1) q C'->L q C')->g x j C fun J C1=>u { nx:=L,ct:=L,bk:=E.nx,rt:=E.rt } J C1)(B:∀j C,I xs.length j C->E.nx j C):
  ∀n i j C,I i j C->i+n=xs.length+1->i<=xs.length->uU b g u E n i j C:=by
 intro n
 induction n with
 |zero=>lia
 |succ n F =>
  intro i j C h h1 h2;unfold uU;rw[D i j C h];dsimp only
  cases e:xs[i]? with
  |none =>
   have:=Cv.1 e;have:i=xs.length:=by lia
   subst this;exact B j C h
  |some x =>
   have hi:=(AW.1 e).1;exact G i x j C e h _ fun q C' h'=>F (i+1) q C' h' (by lia) (by lia)
theorem sS(h:C b=some (.lst xs))(q:∀p,C p=none->Q (.ref p) (vQ C p (.lst (xZ xs lo hi)))):cSlL (.ref b) lo hi C Q:=by
 delta cSlL
 dsimp only
 rwa [h]
theorem cut_two v(h0:0<=v)(h1:v < 3):xZ [PV.str "tap",PV.str "key"] none (some v)=((["tap","key"]:List Str).take v.toNat).map PV.str:=by
 have:v=0\/v=1\/v=2:=by lia
 rcases this with rfl | rfl | rfl<;>rfl
section
variable {P:Program}{w:World}{K:Dj}{mg:Str->Option Value}{base:Heap}{a:Adr}
inductive YY(ts:List PV)(C:CH)(Q:K1):Prop
 |mk(t k:Addr)(τ:List Str)(ns:List Int)(κ:Kt)(z0:ts=[.ref t,.ref k,.tup (τ.map PV.str)])(z1:Tp C t ns)(z2:KAt C t k κ)(z3:τ.length<=4)(z4:∀(hs:List Hd)(C':CH),(∀h∈hs,h.ok κ.bs τ)->hs.length<=4->Tp C' t ns->Ex t C C'->Q (.tup (hs.map Hd.pv)) C'):YY ts C Q
theorem W5(T:Txt P w K mg a):FnOk P w K mg base CX0 6 (a.f 32) (a.d 32) U1 (spC K YY):=by
 have S:=(T.F 32 rfl).s;have J:=(sZ (base:=base) T).mono (show 1<=5 by decide);have iK:=kC (base:=base) T 1
 refine(T.F 32 rfl).ok (fun ts C R h=>?_) fun b0 A b3 s H E g=>⟨_,(xQ (cs1 3 S.nd (dX yZ))
  (xQ (bM PassesOwn.never rfl (xG (dX (qQ wQ (ca1 wQ))) aK (eK (cf (T.F 25 rfl) J g (qQ (cv 0) (ca1 zQ))))) (cg1 4 S.nd) (xQ (cs1 5 S.nd (dX yZ))
  (xQ (nQ (ct2 gV eZ (cln T.jJ (hZ (eX g) (cv 1) wQ (fun _ _=>rfl))) zQ) (kQ (lH PassesOwn.never rfl rfl T.aG (ca1 (cf (T.F 25 rfl) J g (qQ (cv 0) (ca1 zQ)))) (cg1 6 S.nd) (xQ (cs1 7 S.nd (cx (hZ (eX g) (cv 1) wQ (fun _ _=>rfl)) (cf (T.F 25 rfl) J g (qQ (cv 0) (ca1 (cln T.jJ (hZ (eX g) (cv 1) wQ (fun _ _=>rfl))))))))
  (xQ (cs1 8 S.nd (cx (dX (qQ wQ (qQ wQ (ca1 wQ)))) (cf (T.F 25 rfl) J g (qQ (cv 0) (ca1 zQ)))))
  (kQ (zZ (cap (cv 5) (pQ (qQ (cv 7) (qQ (cv 8) (ca1 (cf (T.F 29 rfl) iK g (qQ (cv 0) (qQ (cv 1) (qQ (cv 2) (ca1 zQ)))))))))))))))) cQ)
  (kQ (zZ (cap (cv 3) (pQ (qQ (cv 4) (qQ (eQ vX wX zQ (cf (T.F 25 rfl) J g (qQ (cv 0) (ca1 zQ)))) (qQ (gY cX aQ (cf (T.F 25 rfl) J g (qQ (cv 0) (ca1 zQ))) zQ (jG _)) (ca1 (ctp T.hX (cv 5)))))))))))))
  (kQ (gQ (ctp T.hX (cv 3)))))),?_⟩
 .obtain ⟨t,k,τ,ns,κ,rfl,_⟩:=h;rfl
 rintro ts C R ⟨t,k,τ,ns,κ,rfl,hT,hk,bq,bw⟩;refine uQ ?_;refine⟨by decide,fun h hh=>?_⟩;have ah:=hT.ne hh;refine iQ (fun ai C'=>∃(hs:List Hd)(W Y j q B:Option PV),ai=[some (.ref t),some (.ref k),some (.tup (τ.map PV.str)),some (.ref h),W,Y,j,q,B]/\C' h=some (.lst (hs.map Hd.pv))/\hs.length<=2/\(∀h∈hs,h.ok κ.bs τ)/\Tp C' t ns/\Ex t C C') (fun L hL=>?_) ?_
 .refine ⟨by decide,fun p1 ag=>?_⟩
  have T1:=(hT.new hh (.lst [])).new ag (.lst [PV.str "tap",PV.str "key"]);refine⟨t,3,ns,rfl,T1,by decide,by decide,fun v C2 bx bz T2 e2=>?_⟩;have bu:p1≠t:=(hT.new hh (.lst [])).ne ag;have m2:C2 p1=_:=e2 p1 _ bu jQ;have bt:h≠p1:=fun z=>by subst z;rw[jQ] at ag;cases ag
  have ax:C2 h=some (.lst []):=e2 h _ ah (by rw[yQ bt];exact jQ);refine sS m2 fun p2 aq=>?_;rw[cut_two v bx bz];have a0:p2≠t:=T2.ne aq;have bb:h≠p2:=fun z=>by subst z;rw[aq] at ax;cases ax
  have bc:Ex t C C2:=fun b o n e=>e2 b o n (Gr.new ag _ _ _ (Gr.new hh _ _ _ e));generalize bo:(["tap","key"]:List Str).take v.toNat=ss;have b1:ss.length<=2:=by rw[<- bo,BQ];exact Nat.min_le_right _ _
  refine⟨ss.length+1,?_⟩;refine vG (xs:=ss.map PV.str) (fun i F C'=>C' p2=some (.lst (ss.map PV.str))/\∃(hs:List Hd)(W Y j q B:Option PV),F=[some (.ref t),some (.ref k),some (.tup (τ.map PV.str)),some (.ref h),W,Y,j,q,B]/\C' h=some (.lst (hs.map Hd.pv))/\hs.length=i/\i<=ss.length/\(∀h∈hs,h.ok κ.bs τ)/\Tp C' t ns/\Ex t C C') (fun _ _ _ h=>h.1) ?_ ?_ _ 0 _ _ ⟨jQ,[],_,_,_,_,_,rfl,?_,rfl,Ab _,(fun _ z=>nomatch z),T2.new aq _,bc.trans (Ex.new aq _)⟩ (by rw[AB];lia) (Ab _)
  .rintro i x F C3 M ⟨m3,hs,W,Y,j,q,B,rfl,O,hl,hi,ho,T3,e3⟩ L1 bg
   have bp:∃z:Str,x=.str z:=by
    rw[Ak] at M
    cases z:ss[i]? with
    |none=>rw[z] at M;cases M
    |some u=>rw[z] at M;cases M;exact⟨u,rfl⟩
   have bl:i < ss.length:=by
    have:=(AW.1 M).1;rw[AB] at this;exact this
   obtain⟨au,rfl⟩:=bp;refine uQ ?_;refine⟨by decide,fun c D=>?_⟩;have U:=T3.ne D;have a9:c≠h:=fun z=>by subst z;rw[O] at D;cases D
   have ba:c≠p2:=fun z=>by subst z;rw[m3] at D;cases D
   have av:C c=none:=e3.none U D
   try dsimp only
   refine iQ (fun ai C'=>∃(cs:List (Str×Str×Rk))(j q B:Option PV),ai=[some (.ref t),some (.ref k),some (.tup (τ.map PV.str)),some (.ref h),some (.str au),some (.ref c),j,q,B]/\C' c=some (.lst (cs.map chPV))/\cs.length<=2/\(∀c∈cs,c.2.2.ok κ.bs τ 1)/\C' h=some (.lst (hs.map Hd.pv))/\C' p2=some (.lst (ss.map PV.str))/\Tp C' t ns/\Ex t C C') (fun L2 a5=>?_) ?_
   .have k3:=hk.ex (e3.put av (.lst []))
    refine bV k3.at_ rfl tW ?_;refine zB k3.bx ?_;refine i_i ?_;have a3:=T3.new D (.lst []);have a4:Ex t C (vQ C3 c (.lst [])):=e3.put av _;have a6:vQ C3 c (.lst []) h=some (.lst (hs.map Hd.pv)):=by rw[yQ (Ne.symm a9)];exact O
    have a8:vQ C3 c (.lst []) p2=some (.lst (ss.map PV.str)):=by rw[yQ (Ne.symm ba)];exact m3
    refine gZ (fun hb=>?_) fun hb=>?_
    .rw [AB] at hb
     have bj:=Aa hb;refine⟨t,3,ns,rfl,a3,by decide,by decide,fun n C4 n0 n1 T4 G=>?_⟩;refine⟨by lia,by lia,?_⟩;refine uJ (fun zs F C'=>∃(cs:List (Str×Str×Rk))(j q B:Option PV),F=[some (.ref t),some (.ref k),some (.tup (τ.map PV.str)),some (.ref h),some (.str au),some (.ref c),j,q,B]/\C' c=some (.lst (cs.map chPV))/\cs.length+zs.length<=2/\(∀c∈cs,c.2.2.ok κ.bs τ 1)/\C' h=some (.lst (hs.map Hd.pv))/\C' p2=some (.lst (ss.map PV.str))/\Tp C' t ns/\Ex t C C') ?_ ?_ _ _ _ ⟨[],_,_,_,rfl,G _ _ U jQ,by rw[AB,Am];show 0+_<=2;lia,(fun _ z=>nomatch z),G _ _ ah a6,G _ _ a0 a8,T4,a4.trans G⟩
     .rintro z zs F C5 ⟨cs,y6,y7,y8,rfl,N,ao,ae,ay,az,Z,I⟩ L3 bh
      have k5:=hk.ex I;refine uQ ?_;refine bV k5.at_ rfl tW ?_;refine bV k5.at_ rfl tW ?_;refine zB k5.bx ?_;have lb:=hk.lb;rw[AB];refine⟨t,_,ns,rfl,Z,bj,by lia,fun i C6 i0 i1 T6 e6=>?_⟩;refine cJ ((k5.ex e6).bx) (nV (f:=PV.str) "" i0 i1) ?_;refine uQ ?_;refine⟨by decide,fun p4 aw=>?_⟩;refine⟨t,3,ns,rfl,T6.new aw _,by decide,by decide,fun b2 C7 j0 j1 T7 e7=>?_⟩;refine cJ (e7 p4 _ (T6.ne aw) jQ) (nV (f:=PV.str) (ss:=["set","add","times"]) "" j0 j1) ?_
      have bf:Ex t C6 C7:=(Ex.new aw _).trans e7;have ar:Ex t C5 C7:=e6.trans bf;refine⟨pW (ar _ _ U N),?_⟩;refine⟨t,k,τ,ns,κ,rfl,T7,k5.ex ar,bq,fun r C8 g T8 e8=>⟨zz 3 rfl,?_⟩⟩;have ak:Ex t C5 C8:=ar.trans e8;refine vL (ak _ _ U N) (by rw[AB];exact AV (show cs.length < 3 by rw[AL] at ao;lia) (by decide)) ?_;refine bh _ _ ⟨cs++[(_,_,r)],_,_,_,rfl,by rw[jQ,AO];rfl,by rw[AG,AQ];rw[AL] at ao;lia,fun c' ab=>?_,?_,?_,T8.put U _,(I.trans ak).put av _⟩
      .rcases AX.1 ab with ab | ab
       .exact ae c' ab
       .cases AD.1 ab;exact g
      .rw [yQ (Ne.symm a9)];exact ak _ _ ah ay
      .rw [yQ (Ne.symm ba)];exact ak _ _ a0 az
     .rintro F C5 ⟨cs,y6,y7,y8,rfl,N,ao,ae,ay,az,Z,I⟩
      exact a5 _ _ ⟨cs,_,_,_,rfl,N,by lia,ae,ay,az,Z,I⟩
    .refine xX ?_
     exact a5 _ _ ⟨[],_,_,_,rfl,jQ,Ab _,(fun _ z=>nomatch z),a6,a8,a3,a4⟩
   rintro ai C4 ⟨cs,y6,y7,y8,rfl,N,ao,ae,a7,br,T4,G⟩;refine⟨pW a7,?_⟩;refine⟨t,3,ns,rfl,T4,by decide,by decide,fun rk C5 r0 r1 Z I=>?_⟩;refine aY ?_;refine⟨t,2,ns,rfl,Z,by decide,by decide,fun z C6 z0 z1 T6 e6=>?_⟩;refine gX (rX _ _) ?_;have aj:=I.trans e6;refine cK (aj _ _ U N) ?_;refine⟨zz 4 rfl,?_⟩;refine vL (aj _ _ ah a7) (by rw[AB];exact AV (show hs.length < 3 by lia) (by decide)) ?_
   refine bg _ _ ⟨by rw[yQ (Ne.symm bb)];exact aj _ _ a0 br,hs++[⟨au,1+rk,decide (z=0),cs⟩],_,_,_,_,_,rfl,by rw[jQ,AO];rfl,by rw[AG,AQ,hl],bl,fun h' af=>?_,T6.put ah _,(G.trans aj).put hh _⟩
   rcases AX.1 af with af | af
   .exact ho h' af
   .cases AD.1 af;exact⟨by show cs.length<=4;lia,ae⟩
  .rintro F C3 ⟨m3,hs,W,Y,j,q,B,rfl,O,hl,hi,ho,T3,e3⟩
   exact hL _ _ ⟨hs,_,_,_,_,_,rfl,O,by lia,ho,T3,e3⟩
  .rw [yQ bb];exact ax
 rintro ai C' ⟨hs,W,Y,j,q,B,rfl,O,hl,ho,T',e'⟩;refine cK O ?_;exact bw hs C' ho (by lia) T' e'
end
inductive Ln where
 |plain (k:Option Rk) (tag:Str) (sets:List (Str×Rk)) (hands:List Hd) (ls:List Ln)
 |part (k:Option Rk) (name:Str) (gives:List (Str×Rk))
 |give (k:Option Rk) (name:Str) (r:Rk) (ls:List Ln)
 |when (r:Rk) (l1 l2:List Ln)
 |each (name:Str) (r:Rk) (ls:List Ln)
mutual
def Ln.pv:Ln->PV
 |.plain k D s h j=>.tup [.str "plain",bD k,.str D,.tup (s.map lM),.tup (h.map Hd.pv),.tup (Ln.pvs j)]
 |.part k n g=>.tup [.str "part",bD k,.str n,.tup (g.map lM)]
 |.give k n r j=>.tup [.str "give",bD k,.str n,r.pv,.tup (Ln.pvs j)]
 |.when r q B=>.tup [.str "when",r.pv,.tup (Ln.pvs q),.tup (Ln.pvs B)]
 |.each n r j=>.tup [.str "each",.str n,r.pv,.tup (Ln.pvs j)]
def Ln.pvs:List Ln->List PV
 |[]=>[]
 |l::j=>l.pv::Ln.pvs j
end
theorem Ln.pvs_map g:Ln.pvs g=g.map Ln.pv:=by
 induction g with
 |nil=>rfl
 |cons l g j=>rw[A5,<- j];rfl
mutual
def Ln.tw:Ln->Nat
 |.plain _ _ _ _ g=>1+Ln.tws g
 |.part _ _ _=>1
 |.give _ _ _ g=>1+Ln.tws g
 |.when _ j q=>Ln.tws j+Ln.tws q
 |.each _ _ g=>8 * Ln.tws g
def Ln.tws:List Ln->Nat
 |[]=>0
 |l::g=>l.tw+Ln.tws g
end
mutual
def Ln.pw:Ln->Nat
 |.plain _ _ _ _ g=>Ln.pws g
 |.part _ _ _=>1
 |.give _ _ _ g=>Ln.pws g
 |.when _ j q=>Ln.pws j+Ln.pws q
 |.each _ _ g=>8 * Ln.pws g
def Ln.pws:List Ln->Nat
 |[]=>0
 |l::g=>l.pw+Ln.pws g
end
theorem Ln.tws_app xs ys:Ln.tws (xs++ys)=Ln.tws xs+Ln.tws ys:=by
 induction xs with
 |nil=>show _=0+_;rw[BI];rfl
 |cons x xs g=>show x.tw+Ln.tws (xs++ys)=x.tw+Ln.tws xs+Ln.tws ys;rw[g];lia
theorem Ln.pws_app xs ys:Ln.pws (xs++ys)=Ln.pws xs+Ln.pws ys:=by
 induction xs with
 |nil=>show _=0+_;rw[BI];rfl
 |cons x xs g=>show x.pw+Ln.pws (xs++ys)=x.pw+Ln.pws xs+Ln.pws ys;rw[g];lia
def LnOk(bs rs:List Str):Nat->List Str->Ln->Prop
 |0,_,_=>False
 |d+1,τ,.plain k _ s h j=>pA bs τ k/\(wH bs τ 2 s/\s.length<=4)/\((∀x∈h,x.ok bs τ)/\h.length<=4)/\(∀x∈j,LnOk bs rs d τ x)/\j.length<=6
 |_+1,τ,.part k n g=>pA bs τ k/\n∈rs/\wH bs τ 1 g/\g.length<=4
 |d+1,τ,.give k n r j=>pA bs τ k/\n∈(["a","ab","b"]:List Str)/\r.ok bs τ 1/\(∀x∈j,LnOk bs rs d τ x)/\j.length<=6
 |d+1,τ,.when r q B=>r.ok bs τ 1/\((∀x∈q,LnOk bs rs d τ x)/\q.length<=6)/\(∀x∈B,LnOk bs rs d τ x)/\B.length<=6
 |d+1,_,.each n r j=>r.ok bs [] 0/\(∀x∈j,LnOk bs rs d [n] x)/\j.length<=6
theorem LnOk.up: ∀{d}{τ}{l},LnOk bs rs d τ l->LnOk bs rs (d+1) τ l:=by
 intro d
 induction d with
 |zero=>intro τ l h;exact h.elim
 |succ d F =>
  intro τ l h
  cases l with
  |plain k t s I G=>exact zP h fun h1 h2 q B D=>⟨h1,h2,q,fun x j=>F (B x j),D⟩
  |part k n g=>exact h
  |give k n r G=>exact zP h fun h1 h2 q B D=>⟨h1,h2,q,fun x j=>F (B x j),D⟩
  |when r J L=>obtain⟨h1,⟨h2,q⟩,B,D⟩:=h;exact⟨h1,⟨fun x j=>F (h2 x j),q⟩,fun x j=>F (B x j),D⟩
  |each n r G=>exact kH h fun h1 h2 q=>⟨h1,fun x j=>F (h2 x j),q⟩
theorem LnOk.mono(h:LnOk bs rs d τ l)(j:d<=e):LnOk bs rs e τ l:=by
 induction j with
 |refl=>exact h
 |step _ g=>exact g.up
structure Chg(κ κ':Kt):Prop where
 b:κ'.b=κ.b
 r:κ'.r=κ.r
 bs:κ'.bs=κ.bs
 rs:κ'.rs=κ.rs
 la:κ'.la=κ.la
 l0:0<=κ'.l
 l1:κ'.l<=κ.l
 p0:0<=κ'.p
 p1:κ'.p<=κ.p
 e0:0<=κ'.e
 e1:κ'.e<=κ.e
structure Kok(κ:Kt)(e:Nat)(τ:List Str):Prop where
 l0:0<=κ.l
 l1:κ.l<=6
 p0:0<=κ.p
 p1:κ.p<=2
 e0:0<=κ.e
 e1:κ.e<=(e:Nat)
 t:0 < e->τ=[]
 ly:0 < κ.e->∀s,κ.la=some s->s∈κ.rs
 tl:τ.length<=4
theorem Chg.refl(h:Kok κ e τ):Chg κ κ:=⟨rfl,rfl,rfl,rfl,rfl,h.l0,BM _,h.p0,BM _,h.e0,BM _⟩
theorem Chg.trans(h:Chg κ j)(g:Chg j q):Chg κ q:=⟨g.b.trans h.b,g.r.trans h.r,g.bs.trans h.bs,g.rs.trans h.rs,g.la.trans h.la,g.l0,CY g.l1 h.l1,g.p0,CY g.p1 h.p1,g.e0,CY g.e1 h.e1⟩
theorem Kok.chg(h:Kok κ e τ)(g:Chg κ j):Kok j e τ:=⟨g.l0,CY g.l1 h.l1,g.p0,CY g.p1 h.p1,g.e0,CY g.e1 h.e1,h.t,fun z s hs=>g.rs▸h.ly (Int.lt_of_lt_of_le z g.e1) s (by rwa [<- g.la]),h.tl⟩
def zOf(κ:Kt):Int:=if κ.la.isSome then 16 else 0
theorem zOf_chg(g:Chg κ j):zOf j=zOf κ:=by delta zOf;rw[g.la]
def mOf(e:Nat):Int:=if e=0 then 1 else 8
def yY(e d:Nat):Nat:=if e=0 then d+1 else d+3
structure Wgt(e:Nat)(τ:List Str)(κ κ':Kt)(extra:Int)(tw pw:Nat):Prop where
 t:(tw:Int)<=mOf e * (extra+(κ.l - κ'.l))
 p:(pw:Int)<=(κ.p - κ'.p)+zOf κ * (κ.e - κ'.e)
 n:τ≠[]->pw=0/\κ'.p=κ.p
theorem ExS.ofEx(h:Ex t C C'):ExS [t,k] C C':=fun b o n e=>h b o (fun z=>n (z▸AE)) e
section
variable {P:Program}{w:World}{K:Dj}{mg:Str->Option Value}{base:Heap}{a:Adr}
inductive sO(ts:List PV)(C:CH)(Q:K1):Prop
 |mk(t k:Addr)(τ:List Str)(ns:List Int)(κ:Kt)(name:Str)(z0:ts=[.ref t,.ref k,.tup (τ.map PV.str),.str name])(z1:Tp C t ns)(z2:KAt C t k κ)(z3:τ.length<=4)(z4:∀(o:Option Rk)(g:List (Str×Rk))(C':CH),pA κ.bs τ o->wH κ.bs τ 1 g->g.length<=4->Tp C' t ns->Ex t C C'->Q (Ln.part o name g).pv C'):sO ts C Q
theorem Vt v(h0:0<=v)(h1:v < 4):xZ [PV.str "a",PV.str "ab",PV.str "b"] none (some v)=((["a","ab","b"]:List Str).take v.toNat).map PV.str:=by
 have:v=0\/v=1\/v=2\/v=3:=by lia
 rcases this with rfl | rfl | rfl | rfl<;>rfl
theorem rev_s(h:C b=some (.lst xs))(q:Q .non (vQ C b (.lst xs.reverse))):iD (.ref b) [] C Q:=by
 delta iD
 dsimp only
 rwa [h]
theorem yD(T:Txt P w K mg a):FnOk P w K mg base CX0 6 (a.f 34) (a.d 34) U11 (spC K sO):=by
 have S:=(T.F 34 rfl).s;have fQ:=(sZ (base:=base) T).mono (show 1<=5 by decide);have yL:=(Zd (base:=base) T).mono (show 4<=5 by decide);have iK:=kC (base:=base) T 1
 refine(T.F 34 rfl).ok (fun ts C R h=>?_) fun aq A av s H E g=>⟨_,(xQ (cs1 4 S.nd (cf (T.F 30 rfl) yL g (qQ (cv 0) (qQ (cv 1) (ca1 (cv 2))))))
  (xQ (cs1 5 S.nd (xG (dX (qQ wQ (qQ wQ (ca1 wQ)))) aK (eK (cf (T.F 25 rfl) fQ g (qQ (cv 0) (ca1 zQ))))))
  (xQ (nQ (ct2 cX aQ (cf (T.F 25 rfl) fQ g (qQ (cv 0) (ca1 zQ))) zQ) (kQ (zZ (ZT BU PySem.F.slot_list_reverse PySem.F.type_list_reverse Zh Xy (cv 5)))) cQ)
  (kQ (gQ (pQ (qQ wQ (qQ (cv 4) (qQ (cv 3) (ca1 (ctp T.hX (sG rfl (S.c (by decide +kernel)) (S.k rfl rfl rfl (by decide +kernel)) (cv 5) (fun _ _ _ _ _=>aJ) (fun _ _ _ _ _=>(pQ (qQ (cv 0) (ca1 (cf (T.F 29 rfl) iK g (qQ (cv 1) (qQ (cv 2) (qQ (cv 3) (ca1 zQ))))))))))))))))))))),?_⟩
 .obtain ⟨t,k,τ,ns,κ,name,rfl,_⟩:=h;rfl
 rintro ts C R ⟨t,k,τ,ns,κ,name,rfl,hT,hk,af,aj⟩;refine uQ ⟨t,k,τ,ns,κ,rfl,hT,hk,af,fun o C1 ho U e1=>uQ ⟨by decide,fun p1 N=>?_⟩⟩;refine⟨t,4,ns,rfl,U.new N _,by decide,by decide,fun v C2 ak ao W e2=>?_⟩;have Y:Ex t C C2:=fun b o n e=>e2 b o n (Gr.new N _ _ _ (e1 b o n e));refine sS (e2 p1 _ (U.ne N) jQ) fun p2 O=>?_;rw[Vt v ak ao];have G:=W.ne O;have ab:=Y.none G O
 generalize ai:(["a","ab","b"]:List Str).take v.toNat=ss;have ar:ss.length<=3 :=ai▸BQ▸Nat.min_le_right _ _;refine iQ (fun ag C'=>∃I:List Str,I.length=ss.length/\ag=[some (.ref t),some (.ref k),some (.tup (τ.map PV.str)),some (.str name),some (bD o),some (.ref p2)]/\C' p2=some (.lst (I.map PV.str))/\Tp C' t ns/\Ex t C C') (fun L F=>?_) ?_
 .refine ⟨t,2,ns,rfl,W.new O _,by decide,by decide,fun z C3 z0 z1 q B=>?_⟩
  have j:=B p2 _ G jQ;have Z:=(Y.put ab _).trans B;refine gX (rX _ _) (gZ (fun M=>?_) fun M=>?_)
  .exact ⟨pW j,rev_s j (F _ _ ⟨ss.reverse,Bk,rfl,by rw[jQ,List.map_reverse],q.put G _,Z.put ab _⟩)⟩
  .exact xX (F _ _ ⟨ss,rfl,rfl,j,q,Z⟩)
 rintro ag C3 ⟨I,au,rfl,j,q,B⟩;refine Gx j rfl (wU lM (fun r=>r.ok κ.bs τ 1) (fun C'=>Tp C' t ns/\Ex t C C'/\C' p2=some (.lst (I.map PV.str))) (fun _ h=>h.2.2) (by lia) (fun z C4 L ⟨J,D,m4⟩ F=>?_) (fun bs C4 p3 ⟨J,D,m4⟩ ae M ah=>?_) ⟨q,B,j⟩)
 .refine ⟨t,k,τ,ns,κ,rfl,J,hk.ex D,af,fun r C5 g T5 e5=>⟨zz 2 rfl,F r C5 g ⟨T5,D.trans e5,e5 _ _ G m4⟩⟩⟩
 .refine cK jQ ⟨zz 4 rfl,?_⟩
  exact aj o bs _ ho ah (by have:=Bi List.length M;rw[AB] at this;lia) (J.new ae _) (D.trans (Ex.new ae _))
end
theorem gD e:mOf e=1\/mOf e=8:=by delta mOf;split;exact .inl rfl;exact .inr rfl
theorem Wgt.one(h:Wgt e τ κ q 0 j g):Wgt e τ κ q 1 (1+j) g:=by
 refine⟨?_,h.p,h.n⟩;have:=h.t
 rcases gD e with z | z<;>rw[z] at this ⊢ <;> lia
theorem Wgt.up(h:Wgt e τ κ q 0 j g):Wgt e τ κ q 1 j g:=by
 refine⟨?_,h.p,h.n⟩;have:=h.t
 rcases gD e with z | z<;>rw[z] at this ⊢ <;> lia
theorem Wgt.add(h:Wgt e τ κ j x F D)(g:Wgt e τ j I y G p2)(c:Chg κ j):Wgt e τ κ I (x+y) (F+G) (D+p2):=by
 refine⟨?_,?_,fun z=>?_⟩
 .have h1:=h.t
  have h2:=g.t
  rcases gD e with z | z<;>rw[z] at h1 h2 ⊢ <;> lia
 .have h1:=h.p
  have h2:=g.p;rw[zOf_chg c] at h2
  lia
 .obtain ⟨J,q⟩:=h.n z
  obtain⟨L,B⟩:=g.n z;exact⟨by lia,B.trans q⟩
theorem Wgt.nil: Wgt e τ κ κ 0 0 0:=by
 refine⟨?_,?_,fun _=>⟨rfl,rfl⟩⟩
 .rcases gD e with z | z<;>rw[z]<;>lia
 .rw [Int.sub_self,Int.sub_self,Int.mul_zero];decide
theorem KAt.put(h:KAt C t k κ)l p e la:KAt (vQ C k (.dK (vZ κ.b κ.r l p e (jB la)))) t k { κ with l:=l,p:=p,e:=e,la:=la }:=by
 have g:κ.b≠k:=fun z=>by have:=h.bx;rw[z,h.at_] at this;cases this
 have j:κ.r≠k:=fun z=>by have:=h.rx;rw[z,h.at_] at this;cases this
 exact⟨jQ,by rw[yQ g];exact h.bx,by exact(yQ j)▸h.rx,h.nk,h.nb,h.nr,h.lb,h.lr⟩
inductive vB(e d:Nat)(ts:List PV)(C:CH)(Q:K1):Prop
 |mk(t k:Addr)(τ:List Str)(ns:List Int)(κ:Kt)(z0:ts=[.ref t,.ref k,.tup (τ.map PV.str),.int (d:Nat)])(z1:Tp C t ns)(z2:KAt C t k κ)(z3:Kok κ e τ)(z4:∀(ls:List Ln)(κ':Kt)(C':CH),(∀x∈ls,LnOk κ.bs κ.rs (yY e d) τ x)->ls.length<=6->Wgt e τ κ κ' 0 (Ln.tws ls) (Ln.pws ls)->Chg κ κ'->Tp C' t ns->KAt C' t k κ'->ExS [t,k] C C'->Q (.tup (Ln.pvs ls)) C'):vB e d ts C Q
inductive aP(e d:Nat)(ts:List PV)(C:CH)(Q:K1):Prop
 |mk(t k:Addr)(τ:List Str)(ns:List Int)(κ:Kt)(z0:ts=[.ref t,.ref k,.tup (τ.map PV.str),.int (d:Nat)])(z1:Tp C t ns)(z2:KAt C t k κ)(z3:Kok κ e τ)(z4:∀(l:Ln)(κ':Kt)(C':CH),LnOk κ.bs κ.rs (yY e d) τ l->Wgt e τ κ κ' 1 l.tw l.pw->Chg κ κ'->Tp C' t ns->KAt C' t k κ'->ExS [t,k] C C'->Q l.pv C'):aP e d ts C Q
inductive oC(e d:Nat)(ts:List PV)(C:CH)(Q:K1):Prop
 |mk d'(z0:d=d'+1)(z1:vB e d' ts C Q):oC e d ts C Q
theorem gR e d:yY e (d+1)=yY e d+1:=by delta yY;split<;>rfl
theorem qE e d:∃n,yY e d=n+1:=by delta yY;split;exact⟨_,rfl⟩;exact⟨d+2,rfl⟩
section
variable {P:Program}{w:World}{K:Dj}{mg:Str->Option Value}{base:Heap}{a:Adr}
theorem QK(T:Txt P w K mg a)e d r(h7:7<=r)(iV:FnOk P w K mg base CX0 r (a.f 37) (a.d 37) U0 (spC K (oC e d))):
  FnOk P w K mg base CX0 (r+1) (a.f 33) (a.d 33) U0 (spC K (aP e d)):=by
 have S:=(T.F 33 rfl).s;have fQ:=(sZ (base:=base) T).mono (show 1<=r by lia);have dJ:=(eU (base:=base) T).mono (show 2<=r by lia);have yL:=(Zd (base:=base) T).mono (show 4<=r by lia);have VL:=(W1 (base:=base) T).mono (show 7<=r by lia);have VN:=(W5 (base:=base) T).mono (show 6<=r by lia)
 refine(T.F 33 rfl).ok (fun ts C R h=>?_) fun au A ax s H E q=>⟨_,(xQ (cs1 4 S.nd (cf (T.F 30 rfl) yL q (qQ (cv 0) (qQ (cv 1) (ca1 (cv 2))))))
  (xQ (cs1 5 S.nd (cx (cf (T.F 26 rfl) dJ q (qQ (cv 0) (ca1 zQ))) zQ))
  (xQ (cs1 6 S.nd (cf (T.F 31 rfl) VL q (qQ (cv 0) (qQ (cv 1) (qQ (cv 2) (ca1 zQ))))))
  (xQ (cs1 7 S.nd (cf (T.F 32 rfl) VN q (qQ (cv 0) (qQ (cv 1) (ca1 (cv 2))))))
  (xQ (cs1 8 S.nd (pQ yZ))
  (xQ (nQ (cw_pt (cw_and (ct2 gV eZ (cv 3) zQ) (cw_and1 (ct2 cX aQ (cf (T.F 25 rfl) fQ q (qQ (cv 0) (ca1 zQ))) zQ)))) (kQ (cs1 8 S.nd (cf (T.F 37 rfl) iV q (qQ (cv 0) (qQ (cv 1) (qQ (cv 2) (ca1 (eQ mV rJ (cv 3) zQ)))))))) cQ)
  (kQ (gQ (pQ (qQ wQ (qQ (cv 4) (qQ (cv 5) (qQ (cv 6) (qQ (cv 7) (ca1 (cv 8)))))))))))))))),?_⟩
 .obtain ⟨t,k,τ,ns,κ,rfl,_⟩:=h;rfl
 rintro ts C R ⟨t,k,τ,ns,κ,rfl,hT,J,B,ar⟩;refine uQ ⟨t,k,τ,ns,κ,rfl,hT,J,B.tl,fun o C1 ho T1 M=>uQ ⟨t,1,ns,rfl,T1,by decide,by decide,fun p ss C2 m2 _ ay hl aw T2 N=>?_⟩⟩
 obtain⟨D,rfl⟩:∃D,ss=[D]:=by
  match ss,hl with
  |[x],_=>exact⟨x,rfl⟩
 refine cJ m2 tQ (uQ ⟨t,k,τ,ns,κ,rfl,T2,(J.ex M).ex N,B.tl,fun ps C3 ao ak T3 e3=>uQ ⟨t,k,τ,ns,κ,rfl,T3,((J.ex M).ex N).ex e3,B.tl,fun hs C4 ah ag T4 e4=>uQ ⟨by decide,?_⟩⟩⟩);have G:=((M.trans N).trans e3).trans e4;have k4:=J.ex G
 have ae:∀g j C',(∀x∈g,∃d',d=d'+1/\LnOk κ.bs κ.rs (yY e d') τ x)->g.length<=6->Wgt e τ κ j 0 (Ln.tws g) (Ln.pws g)->Chg κ j->Tp C' t ns->KAt C' t k j->ExS [t,k] C C' ->
   R (.tup [.str "plain",bD o,.str D,.tup (ps.map lM),.tup (hs.map Hd.pv),.tup (Ln.pvs g)]) C':=by
  intro g j C' aj ai aq hc T' k' x';refine ar (.plain o D ps hs g) j C' ?_ aq.one hc T' k' x';obtain⟨n,en⟩:=qE e d;rw[en];refine⟨ho,⟨ao,ak⟩,⟨ah,ag⟩,fun x Z=>?_,ai⟩;obtain⟨d',rfl,av⟩:=aj x Z;rw[gR] at en;have:n=yY e d':=by lia
  rwa [this]
 refine iQ (fun ab C'=>∃g j,ab=[some (.ref t),some (.ref k),some (.tup (τ.map PV.str)),some (.int (d:Nat)),some (bD o),some (.str D),some (.tup (ps.map lM)),some (.tup (hs.map Hd.pv)),some (.tup (Ln.pvs g))]/\(∀x∈g,∃d',d=d'+1/\LnOk κ.bs κ.rs (yY e d') τ x)/\g.length<=6/\Wgt e τ κ j 0 (Ln.tws g) (Ln.pws g)/\Chg κ j/\Tp C' t ns/\KAt C' t k j/\ExS [t,k] C C') (fun L W=>?_) ?_
 .refine i_i (gZ (fun Y=>?_) fun Y=>?_)
  .have Y:=Aa Y
   refine⟨t,2,ns,rfl,T4,by decide,by decide,fun z C5 z0 z1 F I=>?_⟩;refine gX (rX _ _) (gZ (fun af=>?_) fun af=>?_)
   .apply i_i
    obtain⟨d',rfl⟩:∃d',d=d'+1:=⟨d - 1,by lia⟩;refine⟨d',rfl,t,k,τ,ns,κ,?_,F,k4.ex I,B,fun g j C6 h1 h2 O U T6 k6 x6=>?_⟩
    .have:((d'+1:Nat):Int) - 1=(d':Nat):=by lia
     rw[this]
    .exact W _ _ ⟨g,j,rfl,fun x Z=>⟨d',rfl,h1 x Z⟩,h2,O,U,T6,k6,(ExS.ofEx (G.trans I)).trans x6⟩
   .exact xX (W _ _ ⟨[],κ,rfl,(fun _ z=>nomatch z),Ab _,Wgt.nil,Chg.refl B,F,k4.ex I,ExS.ofEx (G.trans I)⟩)
  .exact rM rfl (xX (W _ _ ⟨[],κ,rfl,(fun _ z=>nomatch z),Ab _,Wgt.nil,Chg.refl B,T4,k4,ExS.ofEx G⟩))
 rintro ab C5 ⟨g,j,rfl,h1,h2,O,U,F,k5,x5⟩;refine⟨zz 6 rfl,?_⟩;exact ae g j C5 h1 h2 O U F k5 x5
end
inductive J0(e:Nat)(ts:List PV)(C:CH)(Q:K1):Prop
 |mk(t k:Addr)(d:Nat)(ns:List Int)(κ:Kt)(z0:ts=[.ref t,.ref k,.int (d:Nat)])(z1:Tp C t ns)(z2:KAt C t k κ)(z3:Kok κ e [])(z4:0 < κ.e)(z5:∀(l:Ln)(κ':Kt)(C':CH),LnOk κ.bs κ.rs 3 [] l->Wgt e [] κ κ' 1 l.tw l.pw->Chg κ κ'->Tp C' t ns->KAt C' t k κ'->ExS [t,k] C C'->Q l.pv C'):J0 e ts C Q
section
variable {P:Program}{w:World}{K:Dj}{mg:Str->Option Value}{base:Heap}{a:Adr}
theorem ok_line(T:Txt P w K mg a)(e d r:Nat)(aw:0 < e)(h7:7<=r)(iV:FnOk P w K mg base CX0 r (a.f 37) (a.d 37) U0 (spC K (oC e d)))(fP:FnOk P w K mg base CX0 r (a.f 33) (a.d 33) U0 (spC K (aP e d)))(G5:FnOk P w K mg base CX0 r (a.f 35) (a.d 35) U4 (spC K (J0 e))):
  FnOk P w K mg base CX0 (r+1) (a.f 36) (a.d 36) U0 (spC K (aP e d)):=by
 have S:=(T.F 36 rfl).s;have fQ:=(sZ (base:=base) T).mono (show 1<=r by lia);have yL:=(Zd (base:=base) T).mono (show 4<=r by lia);have iK:=(kC (base:=base) T 1).mono (show 5<=r by lia);have kG:=(yD (base:=base) T).mono (show 6<=r by lia)
 refine(T.F 36 rfl).ok (fun ts C R h=>?_) fun az A a0 s H E j=>⟨_,(xQ (cs1 4 S.nd (cf (T.F 25 rfl) fQ j (qQ (cv 0) (ca1 zQ))))
  (xQ (nQ (cw_pt (cw_and (ct2 wD vU (cv 4) zQ) (cw_and (ct2 gV eZ (hZ (eX j) (cv 1) wQ (fun _ _=>rfl)) zQ) (cw_and1 (ct2 gV eZ (cln T.jJ (hZ (eX j) (cv 1) wQ (fun _ _=>rfl))) zQ))))) (xQ (rV (eX j) (cv 1) wQ (eQ mV rJ (hZ (eX j) (cv 1) wQ (fun _ _=>rfl)) zQ))
  (kQ (gQ (cf (T.F 34 rfl) kG j (qQ (cv 0) (qQ (cv 1) (qQ (cv 2) (ca1 (cx (hZ (eX j) (cv 1) wQ (fun _ _=>rfl)) (cf (T.F 25 rfl) fQ j (qQ (cv 0) (ca1 (cln T.jJ (hZ (eX j) (cv 1) wQ (fun _ _=>rfl))))))))))))))) cQ)
  (xQ (nQ (cw_pt (cw_and (ct2 cX aQ (cv 4) zQ) (cw_and1 (ct2 gV eZ (cv 3) zQ)))) (xQ (cs1 5 S.nd (cx (dX (qQ wQ (qQ wQ (ca1 wQ)))) (cf (T.F 25 rfl) fQ j (qQ (cv 0) (ca1 zQ)))))
  (xQ (cs1 6 S.nd (cf (T.F 30 rfl) yL j (qQ (cv 0) (qQ (cv 1) (ca1 (cv 2))))))
  (kQ (gQ (pQ (qQ wQ (qQ (cv 6) (qQ (cv 5) (qQ (cf (T.F 29 rfl) iK j (qQ (cv 0) (qQ (cv 1) (qQ (cv 2) (ca1 zQ))))) (ca1 (cf (T.F 37 rfl) iV j (qQ (cv 0) (qQ (cv 1) (qQ (cv 2) (ca1 (eQ mV rJ (cv 3) zQ)))))))))))))))) cQ)
  (xQ (nQ (cw_pt (cw_and (ct2 cX aQ (cv 4) zQ) (cw_and1 (ct2 gV eZ (cv 3) zQ)))) (xQ (cs1 7 S.nd (cf (T.F 29 rfl) iK j (qQ (cv 0) (qQ (cv 1) (qQ (cv 2) (ca1 zQ))))))
  (xQ (cs1 8 S.nd (cf (T.F 37 rfl) iV j (qQ (cv 0) (qQ (cv 1) (qQ (cv 2) (ca1 (eQ mV rJ (cv 3) zQ)))))))
  (kQ (gQ (pQ (qQ wQ (qQ (cv 7) (qQ (cv 8) (ca1 (cf (T.F 37 rfl) iV j (qQ (cv 0) (qQ (cv 1) (qQ (cv 2) (ca1 (eQ mV rJ (cv 3) zQ))))))))))))))) cQ)
  (xQ (nQ (cw_pt (cw_and (ct2 gV eZ (cv 4) zQ) (cw_and1 (ct2 gV eZ (hZ (eX j) (cv 1) wQ (fun _ _=>rfl)) zQ)))) (kQ (gQ (cf (T.F 35 rfl) G5 j (qQ (cv 0) (qQ (cv 1) (ca1 (cv 3))))))) cQ)
  (kQ (gQ (cf (T.F 33 rfl) fP j (qQ (cv 0) (qQ (cv 1) (qQ (cv 2) (ca1 (cv 3))))))))))))),?_⟩
 .obtain ⟨t,k,τ,ns,κ,rfl,_⟩:=h;rfl
 rintro ts C R ⟨t,k,τ,ns,κ,rfl,hT,hk,B,af⟩;have ao:=B.t aw;refine uQ ?_;refine⟨t,9,ns,rfl,hT,by decide,by decide,fun v C1 a3 a4 T1 e1=>?_⟩;have F:=hk.ex e1;obtain⟨dn,ah⟩:=qE e d
 have ak:∀(I:List Ln),(∀x∈I,∃d',d=d'+1/\LnOk κ.bs κ.rs (yY e d') τ x)->∀x∈I,LnOk κ.bs κ.rs dn τ x:=by
  intro I h x Y;obtain⟨d',rfl,h'⟩:=h x Y;rw[gR] at ah;have:dn=yY e d':=by lia
  rw[this];exact h'
 refine iQ (fun G C'=>C'=C1/\G=[some (.ref t),some (.ref k),some (.tup (τ.map PV.str)),some (.int (d:Nat)),some (.int v),none,none,none,none]) (fun L D=>?_) ?_
 .refine i_i ?_
  refine gZ (fun W=>?_) fun W=>?_
  .refine bV F.at_ rfl tT ?_
   refine i_i ?_;refine gZ (fun q=>?_) fun q=>?_
   .refine bV F.at_ rfl yN ?_
    refine zB F.rx ?_;refine i_i ?_;refine gZ (fun ae=>?_) fun ae=>?_
    .have q:=Aa q
     rw[AB] at ae;have ae:=Aa ae;refine kZ ?_;refine bV F.at_ rfl tT ?_;refine i_i ?_;refine zG F.at_ rfl (by show 6<=1000;decide) ?_;rw[KI];have k2:=F.put κ.l (κ.p - 1) κ.e κ.la;have T2:=T1.put F.nk (.dK (vZ κ.b κ.r κ.l (κ.p - 1) κ.e (jB κ.la)));refine bV k2.at_ rfl yN ?_;refine bV k2.at_ rfl yN ?_;refine zB k2.rx ?_;have lr:=hk.lr;have el:(κ.rs.map PV.str).length=κ.rs.length:=AB _
     refine⟨t,_,ns,rfl,T2,by rw[el];exact ae,by rw[el];lia,fun i C3 i0 M T3 e3=>?_⟩;have M:i < (((κ.rs.map PV.str).length:Nat):Int):=M;rw[el] at M;have k3:=k2.ex e3;refine cJ k3.rx (nV (f:=PV.str) "" i0 M) ?_;refine⟨t,k,τ,ns,{ κ with p:=κ.p - 1 },_,rfl,T3,k3,B.tl,fun o g C4 ho hg ax T4 J=>?_⟩;have p0:=B.p0;refine af _ { κ with p:=κ.p - 1 } C4 ?_ ?_ ?_ T4 (k3.ex J) ?_
     .rw [ah];exact⟨ho,lG i0 M,hg,ax⟩
     .refine ⟨?_,?_,fun z=>absurd ao z⟩
      .show ((1:Nat):Int)<=mOf e * (1+(κ.l - κ.l))
       rcases gD e with z | z<;>rw[z]<;>lia
      .show ((1:Nat):Int)<=(κ.p - (κ.p - 1))+zOf κ * (κ.e - κ.e)
       rw[Int.sub_self κ.e,Int.mul_zero];lia
     .exact ⟨rfl,rfl,rfl,rfl,rfl,B.l0,BM _,by show 0<=κ.p - 1;lia,by show κ.p - 1<=κ.p;lia,B.e0,BM _⟩
     .exact (((ExS.ofEx e1).at (by simp) _).trans (ExS.ofEx e3)).trans (ExS.ofEx J)
    .refine xX ?_
     exact D _ _ ⟨rfl,rfl⟩
   .refine rM rfl ?_
    refine xX ?_;exact D _ _ ⟨rfl,rfl⟩
  .refine rM rfl ?_
   refine xX ?_;exact D _ _ ⟨rfl,rfl⟩
 rintro G C' ⟨rfl,rfl⟩;refine iQ (fun G ai=>ai=C'/\G=[some (.ref t),some (.ref k),some (.tup (τ.map PV.str)),some (.int (d:Nat)),some (.int v),none,none,none,none]) (fun L D=>?_) ?_
 .refine gX (rX _ _) ?_
  refine gZ (fun W=>?_) fun W=>?_
  .refine i_i ?_
   refine gZ (fun q=>?_) fun q=>?_
   .have q:=Aa q
    obtain⟨d',rfl⟩:∃d',d=d'+1:=⟨d - 1,by lia⟩;refine uQ ?_;refine⟨zz 3 rfl,fun p hp=>?_⟩;refine⟨t,3,ns,rfl,T1.new hp _,by decide,by decide,fun i C2 i0 M T2 e2=>?_⟩;refine cJ (e2 p _ (T1.ne hp) jQ) (nV (f:=PV.str) (ss:=["a","ab","b"]) "" i0 M) ?_;have ag:Ex t C C2:=fun b o n z=>e2 b o n (Gr.new hp _ _ _ (e1 b o n z));refine uQ ?_;refine⟨t,k,τ,ns,κ,rfl,T2,hk.ex ag,B.tl,fun o C3 ho T3 e3=>?_⟩
    refine⟨t,k,τ,ns,κ,rfl,T3,(hk.ex ag).ex e3,B.tl,fun rk C4 aj T4 J=>?_⟩;refine i_i ?_;refine⟨d',rfl,t,k,τ,ns,κ,?_,T4,((hk.ex ag).ex e3).ex J,B,fun I ab C5 h1 h2 O U N Z x5=>⟨zz 5 rfl,?_⟩⟩
    .have:((d'+1:Nat):Int) - 1=(d':Nat):=by lia
     rw[this]
    refine af (.give o _ rk I) ab C5 ?_ O.one U N Z ((ExS.ofEx ((ag.trans e3).trans J)).trans x5);rw[ah];exact⟨ho,lG (ss:=["a","ab","b"]) i0 M,aj,ak I fun x Y=>⟨d',rfl,h1 x Y⟩,h2⟩
   .refine xX ?_
    exact D _ _ ⟨rfl,rfl⟩
  .refine rM rfl ?_
   refine xX ?_;exact D _ _ ⟨rfl,rfl⟩
 rintro G ai ⟨rfl,rfl⟩;refine iQ (fun G C'=>C'=ai/\G=[some (.ref t),some (.ref k),some (.tup (τ.map PV.str)),some (.int (d:Nat)),some (.int v),none,none,none,none]) (fun L D=>?_) ?_
 .refine gX (rX _ _) ?_
  refine gZ (fun W=>?_) fun W=>?_
  .refine i_i ?_
   refine gZ (fun q=>?_) fun q=>?_
   .have q:=Aa q
    obtain⟨d',rfl⟩:∃d',d=d'+1:=⟨d - 1,by lia⟩;have ed:((d'+1:Nat):Int) - 1=(d':Nat):=by lia
    refine uQ ?_;refine⟨t,k,τ,ns,κ,rfl,T1,F,B.tl,fun rk C4 aj T4 J=>?_⟩;refine uQ ?_;refine i_i ?_;refine⟨d',rfl,t,k,τ,ns,κ,by rw[ed],T4,F.ex J,B,fun I ab C5 h1 h2 O U N Z x5=>?_⟩;refine i_i ?_;refine⟨d',rfl,t,k,τ,ns,ab,by rw[ed],N,Z,B.chg U,fun aq ay C6 ar au av g4 T6 k6 x6=>⟨zz 4 rfl,?_⟩⟩;refine af (.when rk I aq) ay C6 ?_ (Wgt.up (O.add av U)) (U.trans g4) T6 k6 (((ExS.ofEx (e1.trans J)).trans x5).trans x6)
    rw[ah];refine⟨aj,⟨ak I fun x Y=>⟨d',rfl,h1 x Y⟩,h2⟩,ak aq fun x Y=>⟨d',rfl,?_⟩,au⟩;have:=ar x Y;rw[U.bs,U.rs] at this;exact this
   .refine xX ?_
    exact D _ _ ⟨rfl,rfl⟩
  .refine rM rfl ?_
   refine xX ?_;exact D _ _ ⟨rfl,rfl⟩
 rintro G C2 ⟨rfl,rfl⟩;refine iQ (fun G C'=>C'=C2/\G=[some (.ref t),some (.ref k),some (.tup (τ.map PV.str)),some (.int (d:Nat)),some (.int v),none,none,none,none]) (fun L D=>?_) ?_
 .refine i_i ?_
  refine gZ (fun W=>?_) fun W=>?_
  .refine bV F.at_ rfl uN ?_
   refine i_i ?_;refine gZ (fun q=>?_) fun q=>?_
   .have q:=Aa q
    subst ao;refine⟨t,k,d,ns,κ,rfl,T1,F,B,q,fun l ab C5 h1 h2 O N Z x5=>?_⟩;refine af l ab C5 (h1.mono ?_) h2 O N Z ((ExS.ofEx e1).trans x5);have:=B.e1
    delta yY
    rw[Ad (by lia)]
    lia
   .refine xX ?_
    exact D _ _ ⟨rfl,rfl⟩
  .refine rM rfl ?_
   refine xX ?_;exact D _ _ ⟨rfl,rfl⟩
 rintro G C3 ⟨rfl,rfl⟩;exact⟨t,k,τ,ns,κ,rfl,T1,F,B,fun l ab C5 h1 h2 O N Z x5=>af l ab C5 h1 h2 O N Z ((ExS.ofEx e1).trans x5)⟩
end
theorem Ln.pvs_app xs ys:Ln.pvs (xs++ys)=Ln.pvs xs++Ln.pvs ys:=by
 rw[Ln.pvs_map,Ln.pvs_map,Ln.pvs_map,AO]
theorem Ln.pvs_len xs:(Ln.pvs xs).length=xs.length:=by rw[Ln.pvs_map,AB]
theorem Wgt.pay(h:Wgt e τ { κ with l:=κ.l - 1 } g 1 B q):Wgt e τ κ g 0 B q:=by
 refine⟨?_,h.p,h.n⟩;have:=h.t;have j:1+(κ.l - 1 - g.l)=0+(κ.l - g.l):=by lia
 rwa [j] at this
theorem KAt.upd(h:KAt C t k κ)(g:p≠k)(j:p≠κ.b)(q:p≠κ.r)o:KAt (vQ C p o) t k κ :=
 ⟨by rw[yQ (Ne.symm g)];exact h.at_,by rw[yQ (Ne.symm j)];exact h.bx,by exact(yQ (Ne.symm q))▸h.rx,h.nk,h.nb,h.nr,h.lb,h.lr⟩
section
variable {P:Program}{w:World}{K:Dj}{mg:Str->Option Value}{base:Heap}{a:Adr}
theorem W3(T:Txt P w K mg a)(e d r:Nat)(h1:1<=r)(G4:FnOk P w K mg base CX0 r (a.f 36) (a.d 36) U0 (spC K (aP e d))):
  FnOk P w K mg base CX0 (r+1) (a.f 37) (a.d 37) U0 (spC K (vB e d)):=by
 have S:=(T.F 37 rfl).s;have fQ:=(sZ (base:=base) T).mono (show 1<=r by lia)
 refine(T.F 37 rfl).ok (fun ts C R h=>?_) fun av A ay s H E O=>⟨_,(xQ (cs1 4 S.nd (dX yZ))
  (xQ (lH PassesOwn.never rfl rfl T.aG (ca1 (eQ mV rJ (eQ vX wX zQ (cf (T.F 25 rfl) fQ O (qQ (cv 0) (ca1 zQ)))) (aZ fM tH rfl T.rT rfl (ca1 (gY wD vU (cv 3) zQ (jG _)))))) (cg1 5 S.nd) (kQ (nQ (ct2 gV eZ (hZ (eX O) (cv 1) wQ (fun _ _=>rfl)) zQ) (xQ (rV (eX O) (cv 1) wQ (eQ mV rJ (hZ (eX O) (cv 1) wQ (fun _ _=>rfl)) zQ))
  (kQ (zZ (cap (cv 4) (cf (T.F 36 rfl) G4 O (qQ (cv 0) (qQ (cv 1) (qQ (cv 2) (ca1 (cv 3)))))))))) cQ)))
  (kQ (gQ (ctp T.hX (cv 4)))))),?_⟩
 .obtain ⟨t,k,τ,ns,κ,rfl,_⟩:=h;rfl
 rintro ts C R ⟨t,k,τ,ns,κ,rfl,hT,Z,aj,ar⟩;refine uQ ⟨by decide,fun h B=>?_⟩;have ag:=hT.ne B;have af:h≠k:=fun z=>by subst z;rw[Z.at_] at B;cases B
 have nS:h∉[t,k]:=fun z=>by
  rcases Ai.1 z with z | z
  .exact ag z
  .exact af (AD.1 z)
 have ax:h≠κ.b:=fun z=>by rw[z,Z.bx] at B;cases B
 have nr:h≠κ.r:=fun z=>by rw[z,Z.rx] at B;cases B
 have e1:Ex t C (vQ C h (.lst [])):=Ex.new B _;refine iQ (fun ak C'=>∃j G F,ak=[some (.ref t),some (.ref k),some (.tup (τ.map PV.str)),some (.int (d:Nat)),some (.ref h),F]/\C' h=some (.lst (Ln.pvs j))/\(∀x∈j,LnOk κ.bs κ.rs (yY e d) τ x)/\j.length<=3/\Wgt e τ κ G 0 (Ln.tws j) (Ln.pws j)/\Chg κ G/\Tp C' t ns/\KAt C' t k G/\ExS [t,k] C C') (fun L hL=>?_) ?_
 .refine ⟨t,3,ns,rfl,hT.new B _,by decide,by decide,fun v C2 az a0 T2 e2=>?_⟩
  refine aY (i_i (JX (i_i ?_)));generalize hn:1+v - (if decide ((d:Int) < 2)=true then (1:Int) else 0)=n;have aw:n<=3/\0<=n:=by rw[<- hn];split<;>lia
  refine⟨by lia,by lia,?_⟩;refine uJ (fun zs ρ C'=>∃j G F,ρ=[some (.ref t),some (.ref k),some (.tup (τ.map PV.str)),some (.int (d:Nat)),some (.ref h),F]/\C' h=some (.lst (Ln.pvs j))/\(∀x∈j,LnOk κ.bs κ.rs (yY e d) τ x)/\j.length+zs.length<=3/\Wgt e τ κ G 0 (Ln.tws j) (Ln.pws j)/\Chg κ G/\Tp C' t ns/\KAt C' t k G/\ExS [t,k] C C') ?_ ?_ _ _ _ ⟨[],κ,_,rfl,e2 _ _ ag jQ,(fun _ z=>nomatch z),by rw[AB,Am];show 0+_<=3;lia,Wgt.nil,Chg.refl aj,T2,(Z.ex e1).ex e2,ExS.ofEx (e1.trans e2)⟩
  .rintro z zs ρ Y ⟨j,g,F,rfl,W,J,ab,M,q,I,D,N⟩ L3 ah
   refine bV D.at_ rfl oF (i_i (gZ (fun hb=>?_) fun hb=>?_))
   .have hb:=Aa hb
    refine kZ (bV D.at_ rfl oF (i_i (zG D.at_ rfl (by show 6<=1000;decide) ?_)));rw[QD];have T4:=I.put D.nk (.dK (vZ g.b g.r (g.l - 1) g.p g.e (jB g.la)));have ai:vQ Y k (.dK (vZ g.b g.r (g.l - 1) g.p g.e (jB g.la))) h=some (.lst (Ln.pvs j)):=by rwa [yQ af]
    have c4:Chg g { g with l:=g.l - 1 }:=⟨rfl,rfl,rfl,rfl,rfl,by lia,by lia,q.p0,BM _,q.e0,BM _⟩;refine⟨pW ai,⟨t,k,τ,ns,_,rfl,T4,(D.put (g.l - 1) g.p g.e g.la),(aj.chg q).chg c4,fun l au C5 ao aq ae T5 k5 F=>?_⟩⟩;refine vL (F h _ nS ai) (by rw[Ln.pvs_len];exact AV (show j.length < 4 by lia) (by decide)) ?_;refine ah _ _ ⟨j++[l],au,_,rfl,by rw[jQ,Ln.pvs_app];rfl,fun x U=>?_,by rw[AG,AQ];rw[AL] at ab;lia,?_,q.trans (c4.trans ae),T5.put ag _,?_,?_⟩
    .rcases AX.1 U with U | U
     .exact J x U
     .cases AD.1 U
      have:=ao
      rwa [q.bs,q.rs] at this
    .rw [Ln.tws_app,Ln.pws_app]
     have:=M.add aq.pay q;exact this
    .exact k5.upd af (by rw[ae.b];rwa [q.b]) (by rw[ae.r];rwa [q.r]) _
    .exact (((N.at (by simp) _).trans F).put B _)
   .exact xX (ah _ _ ⟨j,g,_,rfl,W,J,by rw[AL] at ab;lia,M,q,I,D,N⟩)
  .rintro ρ Y ⟨j,g,F,rfl,W,J,ab,M,q,I,D,N⟩
   exact hL _ _ ⟨j,g,_,rfl,W,J,by lia,M,q,I,D,N⟩
 rintro ak Y ⟨j,g,F,rfl,W,J,ab,M,q,I,D,N⟩;exact cK W (ar j g Y J (by lia) M q I D N)
structure EI(C0 C:CH)(t k h:Addr)(ns:List Int)(κ κ':Kt)(name:Str)(ls:List Ln)(m:Nat):Prop where
 mh:C h=some (.lst (Ln.pvs ls))
 ok:∀x∈ls,LnOk κ.bs κ.rs 1 [name] x
 len:ls.length+m<=2
 tw:(Ln.tws ls:Int)<=κ.l - κ'.l
 pw:Ln.pws ls<=if κ.la.isSome then ls.length else 0
 ch:Chg κ κ'
 p:κ'.p=κ.p
 e:κ'.e=κ.e
 tp:Tp C t ns
 kt:KAt C t k κ'
 ex:ExS [t,k] C0 C
theorem ok_each(T:Txt P w K mg a)(r:Nat)(h1:6<=r)(fP:FnOk P w K mg base CX0 r (a.f 33) (a.d 33) U0 (spC K (aP 0 0))):
  FnOk P w K mg base CX0 (r+1) (a.f 35) (a.d 35) U4 (spC K (J0 1)):=by
 have S:=(T.F 35 rfl).s;have fQ:=(sZ (base:=base) T).mono (show 1<=r by lia);have dJ:=(eU (base:=base) T).mono (show 2<=r by lia);have cB:=(vA (base:=base) T).mono (show 3<=r by lia);have kG:=(yD (base:=base) T).mono (show 6<=r by lia)
 refine(T.F 35 rfl).ok (fun ts C R h=>?_) fun bq A b3 s H E B=>⟨_,(xQ (rV (eX B) (cv 1) wQ (eQ mV rJ (hZ (eX B) (cv 1) wQ (fun _ _=>rfl)) zQ))
  (xQ (cs1 3 S.nd (cx (cf (T.F 26 rfl) dJ B (qQ (cv 0) (ca1 zQ))) zQ))
  (xQ (cs1 4 S.nd (pQ (qQ wQ (ca1 (cf (T.F 25 rfl) fQ B (qQ (cv 0) (ca1 zQ)))))))
  (xQ (nQ (ct2 cX aQ (cf (T.F 25 rfl) fQ B (qQ (cv 0) (ca1 zQ))) zQ) (kQ (cs1 4 S.nd (cf (T.F 28 rfl) cB B (qQ (cv 0) (qQ (cv 1) (ca1 (pQ yZ))))))) cQ)
  (xQ (cs1 5 S.nd (dX yZ))
  (xQ (lH PassesOwn.never rfl rfl T.aG (ca1 (eQ vX wX zQ (cf (T.F 25 rfl) fQ B (qQ (cv 0) (ca1 zQ))))) (cg1 6 S.nd) (kQ (nQ (ct2 gV eZ (hZ (eX B) (cv 1) wQ (fun _ _=>rfl)) zQ) (xQ (rV (eX B) (cv 1) wQ (eQ mV rJ (hZ (eX B) (cv 1) wQ (fun _ _=>rfl)) zQ))
  (kQ (nQ (cw_pt (cw_and (ct2 op_notN Gq (hZ (eX B) (cv 1) wQ (fun _ _=>rfl)) wV) (cw_and1 (ct2 cX aQ (cf (T.F 25 rfl) fQ B (qQ (cv 0) (ca1 zQ))) zQ)))) (kQ (zZ (cap (cv 5) (cf (T.F 34 rfl) kG B (qQ (cv 0) (qQ (cv 1) (qQ (pQ (ca1 (cv 3))) (ca1 (hZ (eX B) (cv 1) wQ (fun _ _=>rfl)))))))))) (kQ (zZ (cap (cv 5) (cf (T.F 33 rfl) fP B (qQ (cv 0) (qQ (cv 1) (qQ (pQ (ca1 (cv 3))) (ca1 zQ))))))))))) cQ)))
  (kQ (gQ (pQ (qQ wQ (qQ (cv 3) (qQ (cv 4) (ca1 (ctp T.hX (cv 5))))))))))))))),?_⟩
 .obtain ⟨t,k,d,ns,κ,rfl,_⟩:=h;rfl
 rintro ts C R ⟨t,k,d,ns,κ,rfl,hT,hk,Z,bb,bj⟩;have b0:κ.e=1:=by have:=Z.e1;lia
 refine kZ ?_;refine bV hk.at_ rfl uN ?_;refine i_i ?_;refine zG hk.at_ rfl (by show 6<=1000;decide) ?_;rw[tN]
 try dsimp only
 have k1:=hk.put κ.l κ.p (κ.e - 1) κ.la;have T1:=hT.put hk.nk (.dK (vZ κ.b κ.r κ.l κ.p (κ.e - 1) (jB κ.la)));have x1:ExS [t,k] C (vQ C k (.dK (vZ κ.b κ.r κ.l κ.p (κ.e - 1) (jB κ.la)))):=ExS.refl.at (by simp) _;refine uQ ?_;refine⟨t,1,ns,rfl,T1,by decide,by decide,fun p ss C2 m2 _ b4 hl b1 T2 e2=>?_⟩;have hl:ss.length=1:=hl
 obtain⟨name,rfl⟩:∃bl,ss=[bl]:=by
  match ss,hl with
  |[x],_=>exact⟨x,rfl⟩
 refine cJ m2 tQ ?_;refine uQ ?_;refine⟨t,4,ns,rfl,T2,by decide,by decide,fun v C3 b5 b6 T3 e3=>⟨zz 2 rfl,?_⟩⟩;have k3:=(k1.ex e2).ex e3;have x3:ExS [t,k] C C3:=x1.trans (ExS.ofEx (e2.trans e3));refine iQ (fun O C'=>∃G:Rk,G.ok κ.bs [] 0/\O=[some (.ref t),some (.ref k),some (.int (d:Nat)),some (.str name),some G.pv,none,none]/\Tp C' t ns/\Ex t C3 C') (fun L hL=>?_) ?_
 .refine ⟨t,3,ns,rfl,T3,by decide,by decide,fun z C4 z0 z1 T4 e4=>?_⟩
  refine gX (rX _ _) ?_;refine gZ (fun hb=>?_) fun hb=>?_
  .refine ⟨zz 0 rfl,?_⟩
   refine⟨t,k,[],ns,_,rfl,T4,k3.ex e4,Ab _,fun G C5 aq T5 e5=>?_⟩;exact hL _ _ ⟨G,aq,rfl,T5,e4.trans e5⟩
  .refine xX ?_
   exact hL _ _ ⟨.num v,⟨by lia,by lia⟩,rfl,T4,e4⟩
 rintro O C4 ⟨G,aq,rfl,T4,e4⟩;have k4:=k3.ex e4;have x4:ExS [t,k] C C4:=x3.trans (ExS.ofEx e4);have k5:KAt C4 t k { κ with l:=κ.l,e:=κ.e - 1 }:=k4;have T5:=T4;have x5:=x4;generalize C4=C5 at k5 T5 x5 ⊢;refine uQ ?_;refine⟨zz 0 rfl,fun h U=>?_⟩;have af:=T5.ne U;have ah:h≠k:=fun z=>by subst z;rw[k5.at_] at U;cases U
 have a4:h≠κ.b:=fun z=>by have:=k5.bx;rw[<- z,U] at this;cases this
 have nr:h≠κ.r:=fun z=>by have:=k5.rx;rw[<- z,U] at this;cases this
 have nS:h∉[t,k]:=fun z=>by
  rcases Ai.1 z with z | z
  .exact af z
  .exact ah (AD.1 z)
 have a0:C h=none:=x5.none nS U;have c5:Chg κ { κ with l:=κ.l,e:=κ.e - 1 }:=⟨rfl,rfl,rfl,rfl,rfl,Z.l0,BM _,Z.p0,BM _,by show 0<=κ.e - 1;lia,by show κ.e - 1<=κ.e;lia⟩;have a5:Kok { κ with l:=κ.l,e:=κ.e - 1 } 0 [name]:=⟨c5.l0,CY c5.l1 Z.l1,Z.p0,Z.p1,c5.e0,by show κ.e - 1<=0;lia,fun z=>absurd z (by decide),fun z=>absurd (show(0:Int) < κ.e - 1 from z) (by lia),by show 1<=4;decide⟩
 refine iQ (fun O C'=>∃(q:List Ln)(ag:Kt)(N:Option PV),O=[some (.ref t),some (.ref k),some (.int (d:Nat)),some (.str name),some G.pv,some (.ref h),N]/\EI C C' t k h ns { κ with l:=κ.l,e:=κ.e - 1 } ag name q 0) (fun L hL=>?_) ?_
 .refine ⟨t,2,ns,rfl,T5.new U _,by decide,by decide,fun b7 C6 b8 b9 T6 e6=>?_⟩
  refine aY ?_;refine⟨by lia,by lia,?_⟩;have k6:KAt C6 t k { κ with l:=κ.l,e:=κ.e - 1 }:=(k5.upd ah a4 nr _).ex e6;refine uJ (fun zs ρ C'=>∃(q:List Ln)(ag:Kt)(N:Option PV),ρ=[some (.ref t),some (.ref k),some (.int (d:Nat)),some (.str name),some G.pv,some (.ref h),N]/\EI C C' t k h ns { κ with l:=κ.l,e:=κ.e - 1 } ag name q zs.length) ?_ ?_ _ _ _ ⟨[],_,_,rfl,⟨e6 _ _ af jQ,(fun _ z=>nomatch z),by rw[AB,Am];show 0+_<=2;lia,by show(0:Int)<=_ - _;lia,Ab _,Chg.refl a5,rfl,rfl,T6,k6,(x5.put a0 _).trans (ExS.ofEx e6)⟩⟩
  .rintro z zs ρ C7 ⟨q,j,N,rfl,I⟩ L3 ao
   have a6:=a5.chg I.ch;have bf:=I.len;rw[AL] at bf;refine bV I.kt.at_ rfl oF ?_;refine i_i ?_;refine gZ (fun hb=>?_) fun hb=>?_
   .have hb:=Aa hb
    refine kZ ?_;refine bV I.kt.at_ rfl oF ?_;refine i_i ?_;refine zG I.kt.at_ rfl (by show 6<=1000;decide) ?_;rw[QD]
    try dsimp only
    have k8:=I.kt.put (j.l - 1) j.p j.e j.la;have T8:=I.tp.put hk.nk (.dK (vZ j.b j.r (j.l - 1) j.p j.e (jB j.la)));have ae:vQ C7 k (.dK (vZ j.b j.r (j.l - 1) j.p j.e (jB j.la))) h=some (.lst (Ln.pvs q)):=by rw[yQ ah];exact I.mh
    have x8:ExS [t,k] C (vQ C7 k (.dK (vZ j.b j.r (j.l - 1) j.p j.e (jB j.la)))):=I.ex.at (by simp) _;generalize vQ C7 k (.dK (vZ j.b j.r (j.l - 1) j.p j.e (jB j.la)))=C8 at k8 T8 ae x8 ⊢;have k8:KAt C8 t k { j with l:=j.l - 1 }:=k8;have c8:Chg j { j with l:=j.l - 1 }:=⟨rfl,rfl,rfl,rfl,rfl,by show 0<=j.l - 1;lia,by show j.l - 1<=j.l;lia,I.ch.p0,BM _,I.ch.e0,BM _⟩
    have ax:j.la=κ.la:=I.ch.la
    have a3:∀(l:Ln)(D:Kt)(F:CH),LnOk κ.bs κ.rs 1 [name] l->(l.tw:Int)<=1+(j.l - 1 - D.l)->(l.pw<=if κ.la.isSome then 1 else 0)->Chg { j with l:=j.l - 1 } D->D.p=j.p->D.e=j.e->Tp F t ns->KAt F t k D->ExS [t,k] C8 F->(∀O C',(∃(q:List Ln)(ag:Kt)(N:Option PV),O=[some (.ref t),some (.ref k),some (.int (d:Nat)),some (.str name),some G.pv,some (.ref h),N]/\EI C C' t k h ns { κ with l:=κ.l,e:=κ.e - 1 } ag name q zs.length)->L3 O C') ->
      bU (.ref h) [l.pv] F fun _ C'=>L3 [some (.ref t),some (.ref k),some (.int (d:Nat)),some (.str name),some G.pv,some (.ref h),some z] C':=by
     intro l D F h1 h2 h3 h4 h5 h6 T9 k9 x9 a9;have bh:=x9 h _ nS ae;refine vL bh (by rw[Ln.pvs_len];exact AV (show q.length < 4 by lia) (by decide)) ?_;have b2:h≠D.b:=by rw[h4.b];show h≠j.b;rw[I.ch.b];exact a4
     have r2:h≠D.r:=by rw[h4.r];show h≠j.r;rw[I.ch.r];exact nr
     refine a9 _ _ ⟨q++[l],D,_,rfl,⟨by rw[jQ,Ln.pvs_app];rfl,fun x W=>?_,by rw[AG,AQ];lia,?_,?_,I.ch.trans (c8.trans h4),h5.trans I.p,h6.trans I.e,T9.put af _,k9.upd ah b2 r2 _,(x8.trans x9).put a0 _⟩⟩
     .rcases AX.1 W with W | W
      .exact I.ok x W
      .cases AD.1 W;exact h1
     .rw [Ln.tws_app]
      have:=I.tw;show((Ln.tws q+(l.tw+0):Nat):Int)<=_
      lia
     .rw [Ln.pws_app,AG,AQ]
      have g:=I.pw;have g:Ln.pws q<=if κ.la.isSome then q.length else 0:=g
      show Ln.pws q+(l.pw+0)<=if κ.la.isSome then q.length+1 else 0
      cases Y:κ.la.isSome with
      |true=>rw[Y,Ac rfl] at g h3;rw[Ac rfl];lia
      |false=>rw[Y,Ad AS] at g h3;rw[Ad AS];lia
    have bz:j.e=0:=by have:=I.e;have:j.e=κ.e - 1:=this;lia
    have ay:∀F,Tp F t ns->Ex t C8 F->aP 0 0 [.ref t,.ref k,.tup [.str name],.int 0] F fun v C'=>bU (.ref h) [v] C' fun _ a7=>L3 [some (.ref t),some (.ref k),some (.int (d:Nat)),some (.str name),some G.pv,some (.ref h),some z] a7:=by
     intro F T9 J;refine⟨t,k,[name],ns,_,rfl,T9,k8.ex J,a6.chg c8,fun l D ai a8 az ak aj bg bo=>?_⟩;obtain⟨n1,n2⟩:=az.n (fun z=>nomatch z);refine a3 l D ai ?_ ?_ (by rw[n1];exact Ab _) ak n2 ?_ aj bg ((ExS.ofEx J).trans bo) ao
     .have:LnOk j.bs j.rs 1 [name] l:=a8
      rw[I.ch.bs,I.ch.rs] at this;exact this
     .have:=az.t
      have this:(l.tw:Int)<=1 * (1+(j.l - 1 - D.l)):=this
      lia
     .have bp:=ak.e0
      have au:=ak.e1;have au:D.e<=j.e:=au
      lia
    refine bV k8.at_ rfl Qj ?_;refine c_i ?_;refine if_b (fun ab=>?_) fun ab=>?_
    .refine ⟨t,2,ns,rfl,T8,by decide,by decide,fun z2 F cb cg T9 J=>?_⟩
     refine gX (rX _ _) ?_;refine gZ (fun ba=>?_) fun ba=>?_
     .have ab:(!Vh (jB j.la))=true:=ab
      obtain⟨M,ar⟩:∃M,j.la=some M:=by
       cases Y:j.la with
       |none=>rw[Y] at ab;cases ab
       |some M=>exact⟨M,rfl⟩
      have k9:=k8.ex J;refine⟨pW (J _ _ af ae),?_⟩;refine⟨zz 1 rfl,?_⟩;refine bV k9.at_ rfl (v:=.str M) (by rw[Qj];show some (jB j.la)=_;rw[ar];rfl) ?_;refine⟨t,k,[name],ns,_,M,rfl,T9,k9,by show 1<=4;decide,fun o g ai ho hg bc aj aw=>?_⟩;refine a3 (.part o M g) { j with l:=j.l - 1 } ai ?_ ?_ ?_ (Chg.refl (a6.chg c8)) rfl rfl aj (k9.ex aw) ((ExS.ofEx J).trans (ExS.ofEx aw)) ao
      .have ho:pA j.bs [name] o:=ho
       have hg:wH j.bs [name] 1 g:=hg;rw[I.ch.bs] at ho hg;exact⟨ho,Z.ly bb M (by rw[<- ax];exact ar),hg,bc⟩
      .show ((1:Nat):Int)<=1+(j.l - 1 - (j.l - 1));lia
      .rw [<- ax,ar];exact AJ _
     .refine ⟨pW (J _ _ af ae),?_⟩
      refine⟨zz 1 rfl,?_⟩;exact ay F T9 J
    .refine rM rfl ?_
     refine⟨pW ae,?_⟩;refine⟨zz 1 rfl,?_⟩;exact ay C8 T8 Ex.refl
   .refine xX ?_
    exact ao _ _ ⟨q,j,_,rfl,⟨I.mh,I.ok,by lia,I.tw,I.pw,I.ch,I.p,I.e,I.tp,I.kt,I.ex⟩⟩
  .rintro ρ C7 ⟨q,j,N,rfl,I⟩
   exact hL _ _ ⟨q,j,_,rfl,I⟩
 rintro O C7 ⟨q,j,N,rfl,I⟩;refine cK I.mh ?_;refine⟨zz 4 rfl,?_⟩;have bt:=I.ch.l0;have bu:j.l<=κ.l:=I.ch.l1;have br:j.e=κ.e - 1:=I.e;have cp:j.p=κ.p:=I.p;have bx:(Ln.tws q:Int)<=κ.l - j.l:=I.tw;have av:Ln.pws q<=if κ.la.isSome then q.length else 0:=I.pw
 have bw:q.length+0<=2:=I.len;refine bj (.each name G q) j _ ?_ ?_ ?_ I.tp I.kt I.ex
 .exact ⟨aq,fun x W=>(I.ok x W).mono (by decide),by lia⟩
 .refine ⟨?_,?_,fun z=>absurd rfl z⟩
  .show ((8 * Ln.tws q:Nat):Int)<=8 * (1+(κ.l - j.l))
   lia
  .show ((8 * Ln.pws q:Nat):Int)<=(κ.p - j.p)+zOf κ * (κ.e - j.e)
   have e1:κ.e - j.e=1:=by lia
   rw[e1,Int.mul_one]
   delta zOf
   cases Y:κ.la.isSome with
   |true=>rw[Y,Ac rfl] at av;rw[Ac rfl];lia
   |false=>rw[Y,Ad AS] at av;rw[Ad AS];lia
 .exact ⟨I.ch.b,I.ch.r,I.ch.bs,I.ch.rs,I.ch.la,I.ch.l0,by lia,I.ch.p0,I.ch.p1,I.ch.e0,by show j.e<=κ.e;lia⟩
end
structure Pt where
 name:Str
 first:List (Str×Int)
 works:List (Str×Rk)
 ls:List Ln
noncomputable def Pt.pv(x:Pt):PV:=.tup [.str x.name,.tup (x.first.map dQ),.tup (x.works.map lM),.tup (Ln.pvs x.ls)]
structure cU(rs:List Str)(cap:Nat)(x:Pt):Prop where
 fl:x.first.length<=4
 wk:wH (x.first.map (·.1)) [] 1 x.works
 wl:x.works.length<=4
 ls:∀l∈x.ls,LnOk (x.first.map (·.1)) rs 6 [] l
 ll:x.ls.length<=6
 tw:Ln.tws x.ls<=48
 pw:Ln.pws x.ls<=cap
 fb:∀c∈x.first,-1000000000<=c.2/\c.2<=1000000000
 bn:∀c∈x.first,yF c.1=true
theorem Wu(m:C p=some (.dK []))(e:prK ts=some ps)(h:ps.length<=15)(q:Q (.ref p) (vQ C p (.dK (gW [] ps)))):aH p ts C Q:=by
 delta aH
 exact⟨m,e▸⟨h,q⟩⟩
theorem Xv{ss:List Str}(n:Nat):xZ (ss.map PV.str) (some ( n+1)) none=(ss.drop (n+1)).map PV.str:=by
 delta xZ
 have e:HT.sIx (ss.map PV.str).length 0 (some ((n:Int)+1))=min (n+1) ss.length:=by
  have:((n:Int)+1)=((n+1:Nat):Int):=by lia
  rw[this,HT.sIx_nat,AB]
 rw[e,HT.sIx_none,AB,<- List.map_drop,BB (by rw[AB,BL];exact AJ _)]
 congr 1
 by_cases h:n+1<=ss.length
 .rw [DT h]
 .rw [Nat.min_eq_right (by lia),BW (AJ _),BW (by lia)]
theorem GS{ss:List Str}(h:1 < ss.length):∃s∈ss.drop 1,atI (ss.map PV.str) (-1)=some (.str s):=by
 delta atI ixN
 rw[Ad (by decide),AB,Ac (by lia)];have e:((ss.length:Int) + -1).toNat=ss.length - 1:=by lia
 refine⟨ss[ss.length - 1],?_,?_⟩
 .have:ss[ss.length - 1]=(ss.drop 1)[ss.length - 2]'(by rw[BL];lia):=by
   rw[List.getElem_drop]
   congr 1
   lia
  rw[this];exact A8 _
 .show (ss.map PV.str)[((ss.length:Int) + -1).toNat]?=_
  rw[e,Ak,AK (by lia)]
  rfl
theorem Z3{ss:List Str}(h:n < ss.length):atI (ss.map PV.str) n=some (.str ss[n]):=by
 have:=kS (xs:=ss.map PV.str) (by rwa [AB])
 rwa [Cj] at this
section
variable {P:Program}{w:World}{K:Dj}{mg:Str->Option Value}{base:Heap}{a:Adr}
theorem fV(h:∀ts C Q,¬ G ts C Q):FnOk P w K mg base CX0 r f fd ps (spC K G) :=
 ⟨fun vs H Q E ⟨ts,C,R,_,_,z,_⟩=>(h _ _ _ z).elim,fun _ _ _ _ _ _ _ _ _ _ _ _ _ ⟨ts,C,R,_,_,z,_⟩=>(h _ _ _ z).elim⟩
theorem QM(h:∀d',d=d'+1->FnOk P w K mg base CX0 r (a.f 37) (a.d 37) U0 (spC K (vB e d'))):FnOk P w K mg base CX0 r (a.f 37) (a.d 37) U0 (spC K (oC e d)):=by
 cases d with
 |zero=>exact fV fun ts C Q ⟨d',e,_⟩=>by lia
 |succ d' =>
  have e:oC e (d'+1)=vB e d':=by
   funext ts C Q
   refine propext ⟨fun⟨g,z,h⟩=>?_,fun h=>⟨d',rfl,h⟩⟩;cases Aw z;exact h
  exact e▸h d' rfl
theorem K3(T:Txt P w K mg a):FnOk P w K mg base CX0 8 (a.f 33) (a.d 33) U0 (spC K (aP 0 0)) :=
 QK T 0 0 7 (by decide) (QM fun d' e=>by omega)
theorem W6(T:Txt P w K mg a):FnOk P w K mg base CX0 13 (a.f 35) (a.d 35) U4 (spC K (J0 1)) :=
 (ok_each T 8 (by decide) (K3 T)).mono (by decide)
theorem yO(T:Txt P w K mg a)d:FnOk P w K mg base CX0 (15+3 * d) (a.f 37) (a.d 37) U0 (spC K (vB 1 d)):=by
 have g:∀d,(∀d',d=d'+1->FnOk P w K mg base CX0 (12+3 * d) (a.f 37) (a.d 37) U0 (spC K (vB 1 d')))->FnOk P w K mg base CX0 (15+3 * d) (a.f 37) (a.d 37) U0 (spC K (vB 1 d)):=by
  intro d h;have lo:=QM h;have q:=ok_line T 1 d (12+3 * d+1) (by decide) (by lia) (lo.mono (B0 _)) (QK T 1 d (12+3 * d) (by lia) lo) ((W6 T).mono (by lia));have:=W3 T 1 d (12+3 * d+1+1) (Nat.succ_pos _) q;have e:12+3 * d+1+1+1=15+3 * d:=by lia
  rwa [e] at this
 induction d with
 |zero=>exact g 0 fun d' e=>by lia
 |succ d j=>exact g (d+1) fun d' e=>by cases Aw e;exact j.mono (by lia)
theorem ok_or(h1:FnOk P w K mg base CX0 r f fd ps (spC K I))(h2:FnOk P w K mg base CX0 r f fd ps (spC K J)):FnOk P w K mg base CX0 r f fd ps (spC K (fun ts C Q=>I ts C Q\/J ts C Q)) :=
 ⟨fun vs H Q E ⟨ts,C,R,x,y,z,u⟩=>by
  rcases z with z | z
  .exact h1.len vs H Q E ⟨ts,C,R,x,y,z,u⟩
  .exact h2.len vs H Q E ⟨ts,C,R,x,y,z,u⟩,fun A B s H g F vs Q E D q j G ⟨ts,C,R,x,y,z,u⟩=>by
  rcases z with z | z
  .exact h1.run A B s H g F vs Q E D q j G ⟨ts,C,R,x,y,z,u⟩
  .exact h2.run A B s H g F vs Q E D q j G ⟨ts,C,R,x,y,z,u⟩⟩
def vW(k:Nat):Nat:=if k=0 then 18 else 2
structure KS(κ:Kt)(bl rl:Addr)(bs rs:List Str)(k:Nat):Prop where
 b:κ.b=bl
 r:κ.r=rl
 bs:κ.bs=bs
 rs:κ.rs=rs
 l:κ.l=6
 p0:1<=κ.p
 p1:κ.p<=2
 e0:0<=κ.e
 e1:κ.e<=1
 ly:0 < κ.e->∀s,κ.la=some s->s∈κ.rs
 cap:κ.p+zOf κ * κ.e<=(vW k:Nat)
inductive gPart(ts:List PV)(C:CH)(Q:K1):Prop
 |mk(t nl:Addr)(ns:List Int)(names:List Str)(k:Nat)(keyed:Bool)(z0:ts=[.ref t,.ref nl,.int (k:Nat),.bl keyed])(z1:Tp C t ns)(z2:C nl=some (.lst (names.map PV.str)))(z3:nl≠t)(z4:names.length<=6)(z5:k < names.length)(z6:∀(x:Pt)(C':CH),names[k]?=some x.name->cU (names.drop (k+1)) (vW k) x->Tp C' t ns->Ex t C C'->Q x.pv C'):gPart ts C Q
theorem ok_part(T:Txt P w K mg a):FnOk P w K mg base CX0 25 (a.f 38) (a.d 38) U8 (spC K gPart):=by
 have S:=(T.F 38 rfl).s;have fQ:=(sZ (base:=base) T).mono (show 1<=24 by decide);have dJ:=(eU (base:=base) T).mono (show 2<=24 by decide);have yV:=(jM (base:=base) T).mono (show 2<=24 by decide);have iK:=(kC (base:=base) T 1).mono (show 5<=24 by decide);have iV:=ok_or (yO (base:=base) T 3) ((yO (base:=base) T 1).mono (show 15+3 * 1<=24 by decide))
 refine(T.F 38 rfl).ok (fun ts C R h=>?_) fun da A dh s H E I=>⟨_,(xQ (cs1 4 S.nd (cx (dX (qQ zQ (qQ zQ (qQ zQ (qQ zQ (qQ zQ (ca1 zQ))))))) (cf (T.F 25 rfl) fQ I (qQ (cv 0) (ca1 zQ)))))
  (xQ (cs1 5 S.nd (cf (T.F 26 rfl) dJ I (qQ (cv 0) (ca1 (cv 4)))))
  (xQ (cs1 6 S.nd (ce_disp (rG wQ (cv 5) (rG wQ (xG (cv 1) (eK (eQ vX wX (cv 2) zQ)) aK) (rG wQ zQ (rG wQ zQ (rG wQ zQ (rG wQ wV cps_nil))))))))
  (xQ (nQ (cw_pt (cw_or (ct2 wD vU (cln T.jJ (cv 1)) zQ) (cw_or1 (cw_pt (cw_and (mZ (cv 3)) (cw_and1 (ct2 cX aQ (cv 2) zQ))))))) (kQ (rV (eX I) (cv 6) wQ zQ)) cQ)
  (xQ (nQ (mZ (cv 3)) (xQ (rV (eX I) (cv 6) wQ (aZ fM tH rfl T.rT rfl (ca1 (gY cX aQ (cv 2) zQ (jG _)))))
  (xQ (nQ (ct2 gV eZ (cln T.jJ (cv 1)) zQ) (kQ (rV (eX I) (cv 6) wQ (cx (cv 1) (bB jY lV zQ)))) cQ)
  (kQ (nQ (ct2 gV eZ (cv 2) zQ) (kQ (rV (eX I) (cv 6) wQ zQ)) cQ)))) cQ)
  (xQ (cs1 7 S.nd (ctp T.hX (sG rfl (S.c (by decide +kernel)) (S.k rfl rfl rfl (by decide +kernel)) (cv 5) (fun _ _ _ _ _=>aJ) (fun _ _ _ _ _=>(pQ (qQ (cv 0) (ca1 (cf (T.F 27 rfl) yV I (ca1 (cv 1))))))))))
  (xQ (cs1 8 S.nd (cf (T.F 37 rfl) iV I (qQ (cv 0) (qQ (cv 6) (qQ (pQ yZ) (ca1 (cx (dX (qQ zQ (ca1 zQ))) (aZ fM tH rfl T.rT rfl (ca1 (gY gV eZ (cln T.jJ (cv 1)) zQ (jG _)))))))))))
  (xQ (cs1 9 S.nd (cf (T.F 26 rfl) dJ I (qQ (cv 0) (ca1 (cf (T.F 25 rfl) fQ I (qQ (cv 0) (ca1 zQ)))))))
  (xQ (cs1 10 S.nd (ctp T.hX (sG rfl (S.c (by decide +kernel)) (S.k rfl rfl rfl (by decide +kernel)) (cv 9) (fun _ _ _ _ _=>aJ) (fun _ _ _ _ _=>(pQ (qQ (cv 0) (ca1 (cf (T.F 29 rfl) iK I (qQ (cv 1) (qQ (cv 7) (qQ (pQ yZ) (ca1 zQ))))))))))))
  (kQ (gQ (pQ (qQ (cx (cv 1) (cv 2)) (qQ (cv 7) (qQ (cv 10) (ca1 (cv 8))))))))))))))))),?_⟩
 .obtain ⟨t,U,ns,F,k,ak,rfl,_⟩:=h;rfl
 rintro ts C R ⟨t,U,ns,F,k,ak,rfl,hT,mn,ae,de,bf,c4⟩;refine uQ ?_;refine⟨by decide,fun p1 ax=>?_⟩;refine⟨t,6,ns,rfl,hT.new ax _,by decide,by decide,fun v C1 a4 bw T1 e1=>?_⟩;have b6:Ex t C C1:=(Ex.new ax _).trans e1;refine cJ (e1 p1 _ (hT.ne ax) jQ) (nV (f:=PV.int) (ss:=[0,1,1,2,2,4]) 0 a4 bw) ?_
 have bg:0<=([0,1,1,2,2,4]:List Int).getD v.toNat 0/\([0,1,1,2,2,4]:List Int).getD v.toNat 0<=4:=by
  have:v=0\/v=1\/v=2\/v=3\/v=4\/v=5:=by lia
  rcases this with rfl | rfl | rfl | rfl | rfl | rfl<;>decide
 generalize ([0,1,1,2,2,4]:List Int).getD v.toNat 0=m at bg ⊢;refine uQ ?_;refine⟨t,m,ns,rfl,T1,bg.1,by lia,fun q bs C2 m2 n2 bt dc br T2 e2=>?_⟩;have ao:=b6.trans e2;have bb:bs.length<=4:=by lia
 refine uQ ?_;intro j ag;have T3:=T2.new ag (.dK []);have ab:=T2.ne ag;refine aY ?_;refine sS (Gr.new ag _ _ _ (ao _ _ ae mn)) fun B ah=>?_;have T4:=T3.new ah (.lst (xZ (F.map PV.str) (some ((k:Int)+1)) none));have c2:=T3.ne ah;have a0:j≠B:=fun z=>by subst z;rw[jQ] at ah;cases ah
 have ct:C2 B=none:=by rw[yQ (Ne.symm a0)] at ah;exact ah
 have bq:q≠j:=fun z=>by rw[z,ag] at m2;cases m2
 have cz:q≠B:=fun z=>by rw[z,ct] at m2;cases m2
 rw[Xv];rw[Xv] at T4;refine Wu (ps:=vZ q B 6 1 1 .non) (by rw[yQ a0];exact jQ) rfl (by show 6<=15;decide) ?_;rw[show gW [] (vZ q B 6 1 1 .non)=vZ q B 6 1 1 .non from rfl];have T5:=T4.put ab (.dK (vZ q B 6 1 1 .non))
 have x5:Ex t C (vQ (vQ (vQ C2 j (.dK [])) B (.lst ((F.drop (k+1)).map PV.str))) j (.dK (vZ q B 6 1 1 .non))) :=
  ((ao.trans (Ex.new ag _)).trans (Ex.new ah _)).put (ao.none ab ag) _
 have k5:KAt (vQ (vQ (vQ C2 j (.dK [])) B (.lst ((F.drop (k+1)).map PV.str))) j (.dK (vZ q B 6 1 1 .non))) t j ⟨q,B,bs,F.drop (k+1),6,1,1,none⟩:=by
  refine⟨jQ,?_,?_,ab,bt,c2,bb,?_⟩
  .rw [yQ bq,yQ cz,yQ bq];exact m2
  .rw [yQ (Ne.symm a0)];exact jQ
  .rw [BL];lia
 have aj:C j=none:=ao.none ab ag;generalize vQ (vQ (vQ C2 j (.dK [])) B (.lst ((F.drop (k+1)).map PV.str))) j (.dK (vZ q B 6 1 1 .non))=C5 at T5 x5 k5 ⊢;refine iQ (fun af C'=>∃p:Int,1<=p/\p<=2/\af=[some (.ref t),some (.ref U),some (.int (k:Nat)),some (.bl ak),some (.int m),some (.ref q),some (.ref j),none,none,none,none]/\Tp C' t ns/\Ex t C C'/\KAt C' t j ⟨q,B,bs,F.drop (k+1),6,p,1,none⟩) (fun L O=>?_) ?_
 .have bx:∀L':CSt->CH->Prop,L'=L->aR (.ref j) (.str "parts") (.int 2) C5 fun C4=>L' [some (.ref t),some (.ref U),some (.int (k:Nat)),some (.bl ak),some (.int m),some (.ref q),some (.ref j),none,none,none,none] C4:=by
   rintro L' rfl;refine zG k5.at_ rfl (by show 6<=1000;decide) ?_;exact O _ _ ⟨2,by decide,by decide,rfl,T5.put ab _,x5.put aj _,k5.put 6 2 1 none⟩
  refine zB (x5 _ _ ae mn) ?_;refine i_i ?_;refine gZ (fun Y=>?_) fun Y=>?_
  .refine Vm rfl ?_
   exact bx _ rfl
  .refine if_b (fun M=>?_) fun M=>?_
   .refine gX (rX _ _) ?_
    refine gZ (fun cj=>?_) fun cj=>?_
    .exact bx _ rfl
    .refine xX ?_
     exact O _ _ ⟨1,by decide,by decide,rfl,T5,x5,k5⟩
   .refine rM rfl ?_
    refine xX ?_;exact O _ _ ⟨1,by decide,by decide,rfl,T5,x5,k5⟩
 clear k5 T5 x5;rintro af C6 ⟨p,p0,p1,rfl,T6,x6,k6⟩;have c8:∀κ:Kt,zOf κ<=16:=fun κ=>by delta zOf;split<;>decide
 refine iQ (fun af C'=>∃κ:Kt,KS κ q B bs (F.drop (k+1)) k/\af=[some (.ref t),some (.ref U),some (.int (k:Nat)),some (.bl ak),some (.int m),some (.ref q),some (.ref j),none,none,none,none]/\Tp C' t ns/\Ex t C C'/\KAt C' t j κ) (fun L O=>?_) ?_
 .refine if_b (fun Y=>?_) fun Y=>?_
  .refine kZ ?_
   refine gX (rX _ _) ?_;refine JX ?_;refine zG k6.at_ rfl (by show 6<=1000;decide) ?_;rw[tN]
   try dsimp only
   have cn:∃e:Int,(if id (decide ((k:Int)=0))=true then (1:Int) else 0)=e/\((k=0/\e=1)\/(0 < k/\e=0)):=by
    by_cases ai:k=0
    .refine ⟨1,?_,.inl ⟨ai,rfl⟩⟩
     rw[Ac (by exact Af (by lia))]
    .refine ⟨0,?_,.inr ⟨by lia,rfl⟩⟩
     rw[Ad (by rw[AR (by lia)];decide)]
   obtain⟨e,ee,dd⟩:=cn;rw[ee];have k7:=k6.put 6 p e none;have T7:=T6.put ab (.dK (vZ q B 6 p e (jB none)));have x7:=x6.put aj (.dK (vZ q B 6 p e (jB none)));have e7:(CO.dK (vZ q B 6 p e .non))=.dK (vZ q B 6 p e (jB none)):=rfl;generalize vQ C6 j (CO.dK (vZ q B 6 p e (jB none)))=C7 at k7 T7 x7 ⊢;refine iQ (fun af C'=>∃la:Option Str,(k=0->∀s,la=some s->s∈F.drop (k+1))/\af=[some (.ref t),some (.ref U),some (.int (k:Nat)),some (.bl ak),some (.int m),some (.ref q),some (.ref j),none,none,none,none]/\Tp C' t ns/\Ex t C C'/\KAt C' t j ⟨q,B,bs,F.drop (k+1),6,p,e,la⟩) (fun L1 ba=>?_) ?_
   .refine zB (x7 _ _ ae mn) ?_
    refine i_i ?_;refine gZ (fun M=>?_) fun M=>?_
    .have M:=Aa M
     rw[AB] at M;obtain⟨sl,cu,cb⟩:=GS (ss:=F) (by lia);refine cJ (x7 _ _ ae mn) cb ?_;refine zG k7.at_ rfl (by show 6<=1000;decide) ?_;exact ba _ _ ⟨some sl,fun ai s hs=>by cases hs;rw[ai];exact cu,rfl,T7.put ab _,x7.put aj _,k7.put 6 p e (some sl)⟩
    .refine xX ?_
     exact ba _ _ ⟨none,(fun _ _ z=>nomatch z),rfl,T7,x7,k7⟩
   rintro af C8 ⟨la,cq,rfl,T8,x8,k8⟩;refine i_i ?_;refine gZ (fun M=>?_) fun M=>?_
   .have M:=Aa M
    have e0:e=0:=by lia
    subst e0;refine zG k8.at_ rfl (by show 6<=1000;decide) ?_;refine O _ _ ⟨⟨q,B,bs,F.drop (k+1),6,1,0,la⟩,⟨rfl,rfl,rfl,rfl,rfl,BM _,(by show(1:Int)<=2;decide),BM _,(by show(0:Int)<=1;decide),fun z=>absurd (show(0:Int) < 0 from z) (by decide),?_⟩,rfl,T8.put ab _,x8.put aj _,k8.put 6 1 0 la⟩;show(1:Int)+zOf _ * 0<=_;rw[Int.mul_zero]
    delta vW
    split<;>decide
   .refine xX ?_
    have M:=CU M;have ai:k=0:=by lia
    have e1:e=1:=by lia
    subst e1;refine O _ _ ⟨⟨q,B,bs,F.drop (k+1),6,p,1,la⟩,⟨rfl,rfl,rfl,rfl,rfl,p0,p1,(by show(0:Int)<=1;decide),BM _,fun _=>cq ai,?_⟩,rfl,T8,x8,k8⟩;show p+zOf _ * 1<=_;rw[Int.mul_one];have:=c8 ⟨q,B,bs,F.drop (k+1),6,p,1,la⟩
    delta vW
    rw[Ac ai]
    lia
  .refine xX ?_
   refine O _ _ ⟨⟨q,B,bs,F.drop (k+1),6,p,1,none⟩,⟨rfl,rfl,rfl,rfl,rfl,p0,p1,(by show(0:Int)<=1;decide),BM _,(fun _ _ z=>nomatch z),?_⟩,rfl,T6,x6,k6⟩;show p+0 * 1<=_
   delta vW
   split<;>lia
 clear k6 T6 x6;rintro af C7 ⟨κ,J,rfl,T7,x7,k7⟩;have bp:C7 q=some (.lst (bs.map PV.str)):=by have:=k7.bx;rw[J.b,J.bs] at this;exact this
 refine uQ ?_;refine Gx bp rfl ?_;refine wU (β:=Int) dQ (fun i:Int=>-1000000000<=i/\i<=1000000000) (fun C'=>Tp C' t ns/\Ex t C7 C') (fun C' h=>h.2 _ _ bt bp) (by lia) (fun z C8 L ⟨T8,e8⟩ O=>?_) (fun fs C8 p8 ⟨T8,e8⟩ bj bc cp=>?_) ⟨T7,Ex.refl⟩
 .exact ⟨t,ns,rfl,T8,fun i C9 i0 i1 T9 e9=>⟨zz 2 rfl,O i C9 ⟨i0,i1⟩ ⟨T9,e8.trans e9⟩⟩⟩
 refine cK jQ ?_;have T9:=T8.new bj (.lst (fs.map dQ));have e9:Ex t C7 (vQ C8 p8 (.lst (fs.map dQ))):=e8.trans (Ex.new bj _);generalize vQ C8 p8 (.lst (fs.map dQ))=C9 at T9 e9 ⊢;have k9:=k7.ex e9;have x9:Ex t C C9:=x7.trans e9;have bu:Kok κ 1 []:=⟨by rw[J.l];decide,by rw[J.l];decide,by have:=J.p0;lia,J.p1,J.e0,J.e1,fun _=>rfl,J.ly,Ab _⟩;refine uQ ?_;refine⟨zz 0 rfl,?_⟩
 refine⟨zz 2 rfl,fun a3 ay=>?_⟩;have a7:=T9.new ay (.lst [PV.int 3,PV.int 1]);have bl:=k9.ex (Ex.new ay (.lst [PV.int 3,PV.int 1]));have a5:Ex t C (vQ C9 a3 (.lst [PV.int 3,PV.int 1])):=x9.trans (Ex.new ay _);refine zB (a5 _ _ ae mn) ?_;refine i_i ?_;refine JX ?_
 have cg:∀(D:List Ln)(G:Kt)(C':CH),(∀x∈D,LnOk κ.bs κ.rs 6 [] x)->D.length<=6->Wgt 1 [] κ G 0 (Ln.tws D) (Ln.pws D)->Chg κ G->Tp C' t ns->KAt C' t j G->ExS [t,j] (vQ C9 a3 (.lst [PV.int 3,PV.int 1])) C'->∀(x:Pt),x.name=F[k]->x.first=fs->x.ls=D->wH bs [] 1 x.works->x.works.length<=4->∀W,Tp W t ns->Ex t C' W->R x.pv W:=by
  intro D G C' h1 h2 Z N T' k' x' x xn xf xl xw c7 W b1 b5;refine c4 x W (by rw[AK bf,xn]) ?_ b1 ?_
  .have aw:x.first.map (·.1)=bs:=by rw[xf];exact bc
   refine⟨by rw[xf,<- AB (f:=(·.1)),bc];exact bb,by rw[aw];exact xw,c7,?_,by rw[xl];exact h2,?_,?_,by rw[xf];exact cp,fun c hc=>br.2 c.1 (by rw[<- aw];exact AN.2 ⟨c,hc,rfl⟩)⟩
   .rw [xl,aw]
    intro l hl;have:=h1 l hl;rw[J.bs,J.rs] at this;exact this
   .rw [xl]
    have:=Z.t;have l0:=N.l0;have kl:=J.l;have this:(Ln.tws D:Int)<=8 * (0+(κ.l - G.l)):=this
    lia
   .rw [xl]
    have g:=Z.p;have c:=J.cap;have e0:=N.e0;have e1:=N.e1;have q0:=N.p0;have z:zOf κ=0\/zOf κ=16:=by delta zOf;split;exact .inr rfl;exact .inl rfl
    rcases z with z | z<;>rw[z] at g c<;>lia
  .intro b o az Y
   have nk:b≠j:=fun z=>by rw[z,aj] at Y;cases Y
   exact b5 b o az (x' b o (fun z=>by
    rcases Ai.1 z with z | z
    .exact az z
    .exact nk (AD.1 z)) (a5 b o az Y))
 have rest:∀(D:List Ln)(G:Kt)(C':CH),(∀x∈D,LnOk κ.bs κ.rs 6 [] x)->D.length<=6->Wgt 1 [] κ G 0 (Ln.tws D) (Ln.pws D)->Chg κ G->Tp C' t ns->KAt C' t j G->ExS [t,j] (vQ C9 a3 (.lst [PV.int 3,PV.int 1])) C' ->
   Y1 [.ref t,.int 3] C' fun v C1=>ZE [.ref t,v] C1 fun c5 C2=>uP (cZ 9) eD (ZY (rK (cZ 0) (rK (zL (Xh 1) (rK (cZ 1) (rK (cZ 7) (rK (ZY qL) (rK (cC (.int 1)) qL))))) qL))) [some (.ref t),some (.ref U),some (.int (k:Nat)),some (.bl ak),some (.int m),some (.ref q),some (.ref j),some (.tup (fs.map dQ)),some (.tup (Ln.pvs D)),some c5,none] C2 fun cw C3=>yP [cw] C3 fun c6 C4=>cIx (.ref U) (.int (k:Nat)) C4 fun c0 C5=>4<=sizeLine/\R (.tup [c0,.tup (fs.map dQ),c6,.tup (Ln.pvs D)]) C5:=by
  intro D G C' h1 h2 Z N T' k' x';refine⟨t,3,ns,rfl,T',by decide,by decide,fun v c9 a4 bw b2 b7=>?_⟩;refine⟨t,v,ns,rfl,b2,a4,by lia,fun di dj bz bo dg wt df br b3 b8=>?_⟩;refine Gx bo rfl ?_;have a9:=b7.trans b8;refine wU (β:=Rk) lM (fun r=>r.ok bs [] 1) (fun W=>Tp W t ns/\Ex t bz W) (fun W h=>h.2 _ _ wt bo) (by lia) (fun z a6 L ⟨ar,aq⟩ O=>?_) (fun au a6 c3 ⟨ar,aq⟩ bh Y ho=>?_) ⟨b3,Ex.refl⟩
  .refine ⟨zz 0 rfl,?_⟩
   refine⟨t,j,[],ns,G,rfl,ar,k'.ex (a9.trans aq),Ab _,fun r b0 I b4 b9=>⟨zz 2 rfl,O r b0 ?_ ⟨b4,aq.trans b9⟩⟩⟩;rw[N.bs,J.bs] at I;exact I
  .refine cK jQ ?_
   have a8:Ex t C' (vQ a6 c3 (.lst (au.map lM))):=(a9.trans aq).trans (Ex.new bh _);have c1:U≠j:=fun z=>by rw[z,aj] at mn;cases mn
   have cy:C' U=some (.lst (F.map PV.str)):=x' U _ (fun z=>by
    rcases Ai.1 z with z | z
    .exact ae z
    .exact c1 (AD.1 z)) (a5 _ _ ae mn)
   refine cJ (a8 _ _ ae cy) (Z3 bf) ?_;refine⟨by decide,?_⟩;exact cg D G C' h1 h2 Z N T' k' x' ⟨F[k],fs,au,D⟩ rfl rfl rfl ho (by show au.length<=4;have:=Bi List.length Y;rw[AB] at this;lia) _ (ar.new bh _) a8
 have ck:atI [PV.int 3,PV.int 1] (if decide ((((F.map PV.str).length:Nat):Int) > 3)=true then (1:Int) else 0)=some (.int 3)\/atI [PV.int 3,PV.int 1] (if decide ((((F.map PV.str).length:Nat):Int) > 3)=true then (1:Int) else 0)=some (.int 1):=by
  cases decide ((((F.map PV.str).length:Nat):Int) > 3) with
  |false=>exact .inl rfl
  |true=>exact .inr rfl
 rcases ck with av | av
 .refine cJ jQ av ?_
  refine .inl ⟨t,j,[],ns,κ,rfl,a7,bl,bu,fun D G C' h1 h2 Z N T' k' x'=>?_⟩;exact rest D G C' (fun x hx=>(h1 x hx).mono (by decide)) h2 Z N T' k' x'
 .refine cJ jQ av ?_
  refine .inr ⟨t,j,[],ns,κ,rfl,a7,bl,bu,fun D G C' h1 h2 Z N T' k' x'=>?_⟩;exact rest D G C' (fun x hx=>(h1 x hx).mono (by decide)) h2 Z N T' k' x'
end
def kJ(g:List Pt):List Str:=g.map (·.name)
structure pB(pts:List Pt):Prop where
 n1:1<=pts.length
 n6:pts.length<=6
 nd:(kJ pts).Nodup
 ok:∀k x,pts[k]?=some x->cU ((kJ pts).drop (k+1)) (vW k) x
theorem sM(h:z::zs=((List.range N).drop j).map (fun k:Nat=>PV.int (k:Nat))):j < N/\z=.int j/\zs=((List.range N).drop (j+1)).map (fun k:Nat=>PV.int (k:Nat)):=by
 have g:j < (List.range N).length:=by
  rcases Cq j (List.range N).length with h' | h'
  .exact h'
  .rw [BW h'] at h;cases h
 rw[Al g,A5,List.getElem_range] at h;injection h with h1 h2
 exact⟨by rw[Am] at g;exact g,h1,h2⟩
section
variable {P:Program}{w:World}{K:Dj}{mg:Str->Option Value}{base:Heap}{a:Adr}
inductive YX(ts:List PV)(C:CH)(Q:K1):Prop
 |mk(t:Addr)(ns:List Int)(z0:ts=[.ref t])(z1:Tp C t ns)(z2:∀(pts:List Pt)(C':CH),pB pts->Tp C' t ns->Ex t C C'->Q (.tup (pts.map Pt.pv)) C'):YX ts C Q
theorem W4(T:Txt P w K mg a):FnOk P w K mg base CX0 26 (a.f 39) (a.d 39) U14 (spC K YX):=by
 have S:=(T.F 39 rfl).s;have W:=(sZ (base:=base) T).mono (show 1<=25 by decide);have dJ:=(eU (base:=base) T).mono (show 2<=25 by decide);have GZ:=ok_part (base:=base) T
 refine(T.F 39 rfl).ok (fun ts C R h=>?_) fun aq A au s H E D=>⟨_,(xQ (cs1 1 S.nd (cf (T.F 26 rfl) dJ D (qQ (cv 0) (ca1 (cx (dX (qQ zQ (qQ zQ (qQ zQ (qQ zQ (qQ zQ (qQ zQ (qQ zQ (ca1 zQ))))))))) (cf (T.F 25 rfl) W D (qQ (cv 0) (ca1 zQ))))))))
  (xQ (cs1 2 S.nd (gY cX aQ (cf (T.F 25 rfl) W D (qQ (cv 0) (ca1 zQ))) zQ (jG _)))
  (kQ (gQ (ctp T.hX (nW rfl (S.c (by decide +kernel)) (S.k rfl rfl rfl (by decide +kernel)) (ZP rfl T.aG (ca1 (cln T.jJ (cv 1)))) (fun _ _ _ _ _=>aJ) (fun _ _ _ _ _=>(cf (T.F 38 rfl) GZ D (qQ (cv 1) (qQ (cv 2) (qQ (cv 0) (ca1 (cv 3))))))))))))),?_⟩
 .obtain ⟨t,ns,rfl,_⟩:=h;rfl
 rintro ts C R ⟨t,ns,rfl,Y,aj⟩;refine uQ ⟨by decide,fun p1 I=>?_⟩;refine⟨t,8,ns,rfl,Y.new I _,by decide,by decide,fun v C1 ak ao T1 O=>?_⟩
 apply cJ (O p1 _ (Y.ne I) jQ) (nV (ss:=[1,2,2,3,3,4,2,6]) 0 ak ao)
 have ae:1<=([1,2,2,3,3,4,2,6]:List Int).getD v.toNat 0/\([1,2,2,3,3,4,2,6]:List Int).getD v.toNat 0<=6:=by
  have:v=0\/v=1\/v=2\/v=3\/v=4\/v=5\/v=6\/v=7:=by lia
  rcases this with rfl | rfl | rfl | rfl | rfl | rfl | rfl | rfl<;>decide
 generalize ([1,2,2,3,3,4,2,6]:List Int).getD v.toNat 0=m at ae ⊢;refine⟨t,m,ns,rfl,T1,by lia,by lia,fun ah j C2 m2 n2 N ar ag T2 e2=>?_⟩;refine uQ ⟨t,2,ns,rfl,T2,by decide,by decide,fun z C3 z0 z1 T3 U=>?_⟩
 apply gX (rX _ _)
 have m3:=U _ _ N m2
 apply zB m3
 rw[AB];refine⟨by lia,by lia,?_⟩;rw[Int.toNat_natCast];refine nG (fun zs acc C'=>Tp C' t ns/\Ex t C3 C'/\∃g:List Pt,acc=g.map Pt.pv/\zs=((List.range j.length).drop g.length).map (fun k:Nat=>PV.int (k:Nat))/\g.length<=j.length/\kJ g=j.take g.length/\∀k x,g[k]?=some x->cU (j.drop (k+1)) (vW k) x) ?_ ?_ _ _ _ ⟨T3,Ex.refl,[],rfl,rfl,Ab _,rfl,(fun k x h=>by simp at h)⟩
 .rintro x r acc C4 ⟨G,B,g,rfl,F,af,J,M⟩ L hL
  obtain⟨hj,rfl,rfl⟩:=sM F;refine⟨t,ah,ns,j,g.length,_,rfl,G,B _ _ N m3,N,by lia,hj,fun x C5 hx ai T5 e5=>hL _ _ ⟨?_,T5,B.trans e5,g++[x],by rw[AO];rfl,by rw[AG,AQ],by rw[AG,AQ];lia,?_,fun k y q=>?_⟩⟩
  .rw [AB]
   exact AV (show g.length < 7 by lia) (by decide)
  .rw [AG,AQ,CV,<- J,hx]
   delta kJ
   rw[AO]
   rfl
  .rcases Nat.lt_trichotomy k g.length with h | h | h
   .rw [Be h] at q
    exact M k y q
   .subst h
    rw[B2 (AJ _),Nat.sub_self] at q;cases q;exact ai
   .rw [Ce (by rw[AG,AQ];lia)] at q
    cases q
 .rintro acc C4 ⟨G,B,g,rfl,F,af,J,M⟩ p hp
  have ab:g.length=j.length:=by
   rcases Cq g.length j.length with h | h
   .rw [Al (by rwa [Am])] at F
    cases F
   .lia
  apply cK jQ
  have Z:kJ g=j:=by rw[J,ab,BB (AJ _)]
  exact aj g _ ⟨by lia,by lia,by rw[Z];exact ag.1,fun k x hk=>Z▸M k x hk⟩ (G.new hp _) ((((((Ex.new I _).trans O).trans e2).trans U).trans B).trans (Ex.new hp _))
end
abbrev Rds:=List (List Key×PV)
abbrev Tns:=List (Key×PV)
abbrev qK(s n:Str):List Key:=[.inr s,.inr n]
def Bd(i:Int):Prop:=-1000000000<=i/\i<=1000000000
def ABd(A:Rds):Prop:=∀g∈A,∃i,g.2=.int i/\Bd i
def TBd(τ:Tns):Prop:=∀g∈τ,∃i,g.2=.int i/\Bd i
noncomputable def mU(A:Rds)(s n:Str):Int:=match pK A (qK s n) with
 |some (.int i)=>i
 |_=>0
def Jn(τ:Tns)(n:Str):Int:=match gJ τ (.inr n) with
 |some (.int i)=>i
 |_=>0
def HasT(τ:Tns)(ns:List Str):Prop:=∀n∈ns,(gJ τ (.inr n)).isSome=true
noncomputable def ZL(i:Int):Int:=if (if i < 1000000000 then i else 1000000000) > -1000000000 then (if i < 1000000000 then i else 1000000000) else -1000000000
noncomputable def Rk.val(A:Rds)(τ:Tns):Rk->Int
 |.num i=>i
 |.turn n=>Jn τ n
 |.ask s n=>mU A s n
 |.bin w x y=>if w = "less" then (if x.val A τ < y.val A τ then 1 else 0) else if w = "times" then ZL (x.val A τ * y.val A τ) else ZL (x.val A τ+y.val A τ)
 |.pick x y z=>if x.val A τ=0 then z.val A τ else y.val A τ
noncomputable def Rk.rds(A:Rds)(τ:Tns):Rk->Rds->Rds
 |.num _,R=>R
 |.turn _,R=>R
 |.ask s n,R=>putG R (qK s n) (.int (mU A s n))
 |.bin _ x y,R=>y.rds A τ (x.rds A τ R)
 |.pick x y z,R=>if x.val A τ=0 then z.rds A τ (x.rds A τ R) else y.rds A τ (x.rds A τ R)
theorem cutI_bd i:Bd (ZL i):=by delta ZL Bd;split<;>split<;>lia
theorem VX[DecidableEq κ]{k:κ}(h:pK A k=some v):∃g∈A,g.2=v:=by
 delta pK at h
 cases e:A.find? fun g=>decide (g.1=k) with
 |none=>rw[e] at h;cases h
 |some x=>rw[e] at h;cases h;exact⟨x,Bc e,rfl⟩
theorem Qk{A:Tns}(h:gJ A k=some v):∃g∈A,g.2=v:=by
 delta gJ at h
 cases e:A.find? fun g=>decide (g.1=k) with
 |none=>rw[e] at h;cases h
 |some x=>rw[e] at h;cases h;exact⟨x,Bc e,rfl⟩
theorem yS(h:ABd A)s n:(pK A (qK s n)).getD (.int 0)=.int (mU A s n)/\Bd (mU A s n):=by
 delta mU
 cases e:pK A (qK s n) with
 |none=>exact⟨rfl,by delta Bd;decide⟩
 |some v =>
  obtain⟨B,q,rfl⟩:=VX e;exact oQ (h B q) fun i j g=>j▸⟨rfl,g⟩
theorem Jm(h:TBd τ)(g:(gJ τ (.inr n)).isSome=true):gJ τ (.inr n)=some (.int (Jn τ n))/\Bd (Jn τ n):=by
 delta Jn
 cases e:gJ τ (.inr n) with
 |none=>rw[e] at g;cases g
 |some v =>
  obtain⟨D,B,rfl⟩:=Qk e;exact oQ (h D B) fun i q j=>q▸⟨rfl,j⟩
theorem gN(j:ABd A)(q:TBd τ)(B:HasT τ ts):∀{d}{r:Rk},r.ok bs ts d->Bd (r.val A τ):=by
 intro d r
 induction r generalizing d with
 |num i=>intro h;unfold Rk.ok at h;exact h
 |turn n=>intro h;unfold Rk.ok at h;exact(Jm q (B n h)).2
 |ask s n=>intro h;exact(yS j s n).2
 |bin w x y D g =>
  intro h
  cases d with
  |zero=>exact h.elim
  |succ d =>
   unfold Rk.val
   split
   .split<;>(delta Bd;decide)
   .split<;>exact cutI_bd _
 |pick x y z D g F =>
  intro h
  cases d with
  |zero=>exact h.elim
  |succ d =>
   unfold Rk.val
   split
   .exact F h.2.2
   .exact g h.2.1
structure RdOk(bs:List Str)(R:Rds):Prop where
 nd:(R.map (·.1)).Nodup
 ks:∀k∈R.map (·.1),∃s n,k=qK s n/\jL bs s n
 vs:ABd R
theorem Kw{κ:Type}[DecidableEq κ](R:List (κ×PV))k:(R.any fun j=>decide (j.1=k))=true↔k∈R.map (·.1):=by
 rw[DJ,AN];exact⟨fun⟨x,g,e⟩=>⟨x,g,Aa e⟩,fun⟨x,g,e⟩=>⟨x,g,Af e⟩⟩
theorem aB[DecidableEq κ]R(k:κ)v:(putG R k v).map (·.1)=if k∈R.map (·.1) then R.map (·.1) else R.map (·.1)++[k]:=by
 delta putG
 by_cases h:k∈R.map (·.1)
 .rw [Ac ((Kw R k).2 h),Ac h,BJ]
  refine CD fun x _=>?_;show(if x.1=k then (x.1,v) else x).1=x.1
  split<;>rfl
 .rw [Ad (fun z=>h ((Kw R k).1 z)),Ad h,AO]
  rfl
theorem eN[DecidableEq κ]{x:κ×PV}(h:x∈putG R k v):x.2=v\/x∈R:=by
 delta putG at h
 split at h
 .obtain ⟨y,g,rfl⟩:=AN.1 h
  split
  .exact .inl rfl
  .exact .inr g
 .rcases AX.1 h with h | h
  .exact .inr h
  .cases AD.1 h;exact .inl rfl
theorem RdOk.put(h:RdOk bs R)(F:jL bs s n)(hi:Bd i):RdOk bs (putG R (qK s n) (.int i)):=by
 refine⟨?_,?_,fun G B=>?_⟩
 .rw [aB]
  split
  .exact h.nd
  .next D =>
   rw[Cz];refine⟨h.nd,by simp,fun a j b q e=>?_⟩;cases AD.1 q;exact D (e▸j)
 .rw [aB]
  intro k g
  split at g
  .exact h.ks k g
  .rcases AX.1 g with g | g
   .exact h.ks k g
   .cases AD.1 g;exact⟨s,n,rfl,F⟩
 .rcases eN B with e | e
  .exact ⟨i,e,hi⟩
  .exact h.vs G e
theorem QV{α:Type}[DecidableEq α]:∀(l m:List α),l.Nodup->(∀x∈l,x∈m)->l.length<=m.length
 |[],_,_,_=>Ab _
 |x::l,m,g,hs=>by
  have j:=hs x AE;rw[Az] at g;have B:=QV l (m.erase x) g.2 fun y q=>(List.mem_erase_of_ne (show y≠x from fun e=>g.1 (e▸q))).2 (hs y (AH _ q));rw[List.length_erase_of_mem j] at B;have:=List.length_pos_of_mem j;rw[AL]
  lia
noncomputable def jN(bs:List Str):List (List Key):=(["a","ab","b"]:List Str).map (qK "take")++((["a","ab","b"]:List Str).map (qK "down")++bs.map (qK "box"))
theorem ask_in(h:jL bs s n):qK s n∈jN bs:=by
 rcases h with ⟨rfl | rfl,h⟩ | ⟨rfl,h⟩
 .exact Au _ (AN.2 ⟨n,h,rfl⟩)
 .exact AU _ (Au _ (AN.2 ⟨n,h,rfl⟩))
 .exact AU _ (AU _ (AN.2 ⟨n,h,rfl⟩))
theorem RdOk.len(h:RdOk bs R):R.length<=6+bs.length:=by
 have:=QV (R.map (·.1)) (jN bs) h.nd fun k g=>by
  obtain⟨s,n,rfl,j⟩:=h.ks k g;exact ask_in j
 rw[AB] at this
 have e:(jN bs).length=6+bs.length:=by
  delta jN
  rw[AG,AG,AB,AB,AB];show 3+(3+_)=_
  lia
 lia
def bT(A:Rds)(bs:List Str)(P:Rds->Prop):Prop:=∀R s n,jL bs s n->P R->P (putG R (qK s n) (.int (mU A s n)))
theorem wJ(g:ABd A): bT A bs (RdOk bs):=fun _ s n h j=>j.put h (yS g s n).2
theorem gK(B:bT A bs P):∀{d}{r:Rk}{R},r.ok bs ts d->P R->P (r.rds A τ R):=by
 intro d r
 induction r generalizing d with
 |num i=>intro R _ h;exact h
 |turn n=>intro R _ h;exact h
 |ask s n=>intro R h g;unfold Rk.ok at h;exact B _ s n h g
 |bin w x y j q =>
  intro R h g
  cases d with
  |zero=>exact h.elim
  |succ d =>
   exact q h.2.2 (j h.2.1 g)
 |pick x y z j q D =>
  intro R h g
  cases d with
  |zero=>exact h.elim
  |succ d =>
   unfold Rk.rds
   split
   .exact D h.2.2 (j h.1 g)
   .exact q h.2.1 (j h.1 g)
structure Env(C:CH)(aa tt rr:Addr)(A:Rds)(τ:Tns)(R:Rds):Prop where
 ha:C aa=some (.dT A)
 ht:C tt=some (.dK τ)
 hr:C rr=some (.dT R)
 ne:aa≠rr
theorem Env.nt(h:Env C aa tt rr A τ R):tt≠rr:=fun z=>by have:=h.ht;rw[z,h.hr] at this;cases this
theorem Env.ex{g:Rds}(h:Env C aa tt rr A τ R)(e:ExS [rr] C C')(j:C' rr=some (.dT g)):Env C' aa tt rr A τ g :=
 ⟨e _ _ (fun z=>h.ne (AD.1 z)) h.ha,e _ _ (fun z=>h.nt (AD.1 z)) h.ht,j,h.ne⟩
theorem eW[DecidableEq κ]x l(k:κ):pK (x::l) k=if x.1=k then some x.2 else pK l k:=by
 delta pK
 rw[A0]
 by_cases e:x.1=k
 .rw [Af e,Ac e];rfl
 .rw [AR e,Ad e]
theorem Qi[DecidableEq κ]R k v(j:κ):pK (putG R k v) j=if j=k then some v else pK R j:=by
 delta putG
 by_cases b:(R.any fun q=>decide (q.1=k))=true
 .rw [Ac b]
  induction R with
  |nil=>cases b
  |cons x l F =>
   rw[A5,eW,eW];have G:(if x.1=k then (x.1,v) else x).1=x.1:=by split<;>rfl
   rw[G]
   by_cases e:x.1=j
   .rw [Ac e,Ac e]
    by_cases g:j=k
    .rw [Ac g,Ac (e.trans g)]
    .rw [Ad g,Ad (fun z=>g (e.symm.trans z))]
   .rw [Ad e,Ad e]
    by_cases B:(l.any fun q=>decide (q.1=k))=true
    .exact F B
    .have:(l.map fun q=>if q.1=k then (q.1,v) else q)=l:=(CD fun y D=>Ad ((fun y D z=>B (DJ.2 ⟨y,D,Af z⟩)) y D)).trans (List.map_id l)
     rw[this]
     have I:x.1=k:=by
      rw[BA,Bool.or_eq_true] at b
      rcases b with b | b
      .exact Aa b
      .exact absurd b B
     rw[Ad (fun z=>e (I.trans z.symm))]
 .rw [Ad b]
  induction R with
  |nil =>
   rw[DU,eW]
   by_cases e:k=j
   .rw [Ac e,Ac e.symm]
   .rw [Ad e,Ad (fun z=>e z.symm)]
  |cons x l F =>
   rw[BA] at b;have e:¬ x.1=k:=fun e=>b (by rw[Af e];rfl);rw[AR e,Bool.false_or] at b;rw[B7,eW,eW]
   by_cases g:x.1=j
   .rw [Ac g,Ac g,Ad (fun z=>e (g.trans z))]
   .rw [Ad g,Ad g];exact F b
structure mB(A:Rds)(τ:Tns)(bs ns:List Str):Prop where
 a:ABd A
 t:TBd τ
 h:HasT τ ns
 b:bs.length<=4
section
variable {P:Program}{w:World}{K:Dj}{mg:Str->Option Value}{base:Heap}{a:Adr}
inductive gCut(ts:List PV)(C:CH)(Q:K1):Prop
 |mk(i:Int)(z0:ts=[.int i])(z1:Q (.int (ZL i)) C):gCut ts C Q
theorem ok_cut(T:Txt P w K mg a):FnOk P w K mg base CX0 1 (a.f 2) (a.d 2) ["number"] (spC K gCut):=by
 have S:=(T.F 2 rfl).s;refine(T.F 2 rfl).ok (fun ts C R h=>?_) fun g A B s H E j=>⟨_,(kQ (gQ (zX (VC rfl) cbi_max rfl T.z_max rfl (qQ (bB jY lV (rW (v:=.int 1000000000) rfl T.rA ⟨_,rfl⟩ (fun _=>.int _))) (ca1 (zX (jE rfl) Ki rfl T.z_min rfl (qQ (rW (v:=.int 1000000000) rfl T.rA ⟨_,rfl⟩ (fun _=>.int _)) (ca1 (cv 0))))))))),?_⟩
 .obtain ⟨i,rfl,_⟩:=h;rfl
 rintro ts C R ⟨i,rfl,q⟩;exact min_s (max_s q)
noncomputable def joinI(w:Str)(i j:Int):Int:=if w = "less" then (if i < j then 1 else 0) else if w = "times" then ZL (i * j) else ZL (i+j)
inductive gJoin(ts:List PV)(C:CH)(Q:K1):Prop
 |mk(w:Str)(i j:Int)(z0:ts=[.str w,.int i,.int j])(z1:(w = "add"\/w = "times"\/w = "less"))(z2:Bd i)(z3:Bd j)(z4:Q (.int (joinI w i j)) C):gJoin ts C Q
theorem K4(T:Txt P w K mg a):FnOk P w K mg base CX0 2 (a.f 8) (a.d 8) ["word","first","second"] (spC K gJoin):=by
 have B:=ok_cut (base:=base) T
 refine(T.F 8 rfl).ok (fun ts C R h=>?_) fun J A L s H E D=>⟨_,(xQ (nQ (ct2 cX aQ (cv 0) wQ) (kQ (gQ (cf (T.F 2 rfl) B D (ca1 (eQ vX wX (cv 1) (cv 2)))))) cQ)
  (xQ (nQ (ct2 cX aQ (cv 0) wQ) (kQ (gQ (cf (T.F 2 rfl) B D (ca1 (eQ sL mM (cv 1) (cv 2)))))) cQ)
  (kQ (gQ (sR (ct2 wD vU (cv 1) (cv 2)) zQ zQ))))),?_⟩
 .obtain ⟨w,i,j,rfl,_⟩:=h;rfl
 rintro ts C R ⟨w,i,j,rfl,I,F,G,q⟩
 delta joinI at q
 apply gX (lQ _ _)
 rcases I with rfl | rfl | rfl
 .exact nZ rfl (aY ⟨_,rfl,q⟩)
 .refine wZ rfl (xX (gX (lQ _ _) (nZ rfl ?_)))
  delta Bd at F G
  refine⟨.inr ⟨by omega,by omega⟩,?_⟩;exact⟨_,rfl,q⟩
 .refine wZ rfl (xX (gX (lQ _ _) (wZ rfl (xX (i_i (gZ (fun g=>?_) fun g=>?_))))))
  .rwa [Ac (Aa g)] at q
  .rwa [Ad (CU g)] at q
inductive gRk(d:Nat)(ts:List PV)(C:CH)(Q:K1):Prop
 |mk(r:Rk)(aa tt rr:Addr)(A:Rds)(τ:Tns)(R:Rds)(bs ns:List Str)(z0:ts=[r.pv,.ref aa,.ref tt,.ref rr])(z1:r.ok bs ns d)(z2:Env C aa tt rr A τ R)(z3:mB A τ bs ns)(z4:RdOk bs R)(z5:∀C',C' rr=some (.dT (r.rds A τ R))->ExS [rr] C C'->Q (.int (r.val A τ)) C'):gRk d ts C Q
theorem kA(T:Txt P w K mg a)(d:Nat):FnOk P w K mg base CX0 (d+3) (a.f 7) (a.d 7) ["reckoning","answers","turns","asked"] (spC K (gRk d)):=by
 have ab:∀n,(∀d',n=d'+1->FnOk P w K mg base CX0 (d'+3) (a.f 7) (a.d 7) ["reckoning","answers","turns","asked"] (spC K (gRk d')))->FnOk P w K mg base CX0 (n+3) (a.f 7) (a.d 7) ["reckoning","answers","turns","asked"] (spC K (gRk n)):=by
  intro n ih;have S:=(T.F 7 rfl).s;have G6:=(K4 (base:=base) T).mono (show 2<=n+2 by lia)
  have uW:FnOk P w K mg base CX0 (n+2) (a.f 7) (a.d 7) ["reckoning","answers","turns","asked"] (spC K (fun ts C Q=>∃d',n=d'+1/\gRk d' ts C Q)):=by
   cases n with
   |zero=>exact fV fun ts C Q ⟨d',e,_⟩=>by lia
   |succ d' =>
    have:=ih d' rfl
    have e:(fun ts C Q=>∃W,d'+1=W+1/\gRk W ts C Q)=gRk d':=by
     funext ts C Q
     refine propext ⟨fun⟨W,e,h⟩=>?_,fun h=>⟨d',rfl,h⟩⟩;cases Aw e;exact h
    rw[e];exact this
  refine(T.F 7 rfl).ok (fun ts C R h=>?_) fun af A ag s H E D=>⟨_,(xQ (cs1 4 S.nd (cx (cv 0) zQ))
  (xQ (nQ (ct2 cX aQ (cv 4) wQ) (kQ (gQ (cx (cv 0) zQ))) cQ)
  (xQ (nQ (ct2 cX aQ (cv 4) wQ) (kQ (gQ (hZ (eX D) (cv 2) (cx (cv 0) zQ) (fun _ _=>rfl)))) cQ)
  (xQ (nQ (ZM KZ cop_inS (cv 4) (rW (v:=.ref a.ASKING) (t:=.kt [.str "take",.str "box",.str "down"]) rfl T.J1 rfl (fun H=>.kt (T.Jw H) (.cons (.str _) (.cons (.str _) (.cons (.str _) .nil))))) rfl) (xQ (cs1 5 S.nd (pQ (qQ (cv 4) (ca1 (cx (cv 0) zQ)))))
  (xQ (iA (eX D) (cv 3) (cv 5) (Xz (eX D) (cv 1) (cv 5) zQ))
  (kQ (gQ (ce_tix (eX D) (cv 3) (cv 5) (fun _ _=>rfl)))))) cQ)
  (xQ (cs1 6 S.nd (cf (T.F 7 rfl) uW D (qQ (cx (cv 0) zQ) (qQ (cv 1) (qQ (cv 2) (ca1 (cv 3)))))))
  (xQ (nQ (ct2 cX aQ (cv 4) wQ) (xQ (cs1 7 S.nd (sR (ct2 cX aQ (cv 6) zQ) (cx (cv 0) zQ) (cx (cv 0) zQ)))
  (kQ (gQ (cf (T.F 7 rfl) uW D (qQ (cv 7) (qQ (cv 1) (qQ (cv 2) (ca1 (cv 3))))))))) cQ)
  (xQ (cs1 8 S.nd (cf (T.F 7 rfl) uW D (qQ (cx (cv 0) zQ) (qQ (cv 1) (qQ (cv 2) (ca1 (cv 3)))))))
  (kQ (gQ (cf (T.F 8 rfl) G6 D (qQ (cv 4) (qQ (cv 6) (ca1 (cv 8)))))))))))))),?_⟩
  .obtain ⟨r,aa,tt,rr,A,τ,R,bs,ns,rfl,_⟩:=h;rfl
  rintro ts C Q ⟨r,aa,tt,rr,A,τ,R,bs,ns,rfl,j,B,g,J,q⟩;refine uQ ?_
  cases r with
  |num i =>
   refine mX tQ ?_
   try dsimp only
   refine gX (lQ _ _) ?_;refine nZ (by decide) ?_;refine mX (v:=.int i) rfl ?_;exact q C B.hr ExS.refl
  |turn m =>
   unfold Rk.ok at j;refine mX tQ ?_
   try dsimp only
   refine gX (lQ _ _) ?_;refine wZ (by decide) ?_;refine xX ?_
   try dsimp only
   refine gX (lQ _ _) ?_;refine nZ (by decide) ?_;refine mX (v:=.str m) rfl ?_;refine bV B.ht rfl (Jm g.t (g.h m j)).1 ?_;exact q C B.hr ExS.refl
  |ask s m =>
   unfold Rk.ok at j;refine mX tQ ?_
   try dsimp only
   refine gX (lQ _ _) ?_
   have hs:s = "take"\/s = "down"\/s = "box":=by
    rcases j with ⟨h | h,_⟩ | ⟨h,_⟩
    .exact .inl h
    .exact .inr (.inl h)
    .exact .inr (.inr h)
   have Y:decide (s = "num")=false:=by rcases hs with rfl | rfl | rfl<;>decide
   have Z:decide (s = "turn")=false:=by rcases hs with rfl | rfl | rfl<;>decide
   refine wZ (by rw[Y];rfl) ?_;refine xX ?_
   try dsimp only
   refine gX (lQ _ _) ?_;refine wZ (by rw[Z];rfl) ?_;refine xX ?_
   try dsimp only
   refine YI (ts:=[.str "take",.str "box",.str "down"]) (w:=.str s) (vs:=[.str "take",.str "box",.str "down"]) rfl rfl rfl ?_;refine nZ (by rcases hs with rfl | rfl | rfl<;>rfl) ?_;refine uQ ?_;refine mX (v:=.str m) rfl ?_;refine⟨zz 2 rfl,?_⟩
   try dsimp only
   refine kZ ?_;refine⟨YE B.ha,?_⟩;refine V1 (k:=qK s m) B.ha rfl (yS g.a s m).1 ?_;have hb:=g.b;refine XY (k:=qK s m) B.hr rfl (by have:=J.len;lia) ?_
   try dsimp only
   refine tix_s (k:=qK s m) jQ rfl (by rw[Qi,Ac rfl]) ?_;exact q _ jQ (ExS.refl.at (by simp) _)
  |bin w x y =>
   cases n with
   |zero=>delta Rk.ok at j;exact j.elim
   |succ d' =>
   unfold Rk.ok at j;obtain⟨L,G,U⟩:=j;have Y:decide (w = "num")=false:=by rcases L with rfl | rfl | rfl<;>decide
   have Z:decide (w = "turn")=false:=by rcases L with rfl | rfl | rfl<;>decide
   refine mX tQ ?_
   try dsimp only
   refine gX (lQ _ _) ?_;refine wZ (by rw[Y];rfl) ?_;refine xX ?_
   try dsimp only
   refine gX (lQ _ _) ?_;refine wZ (by rw[Z];rfl) ?_;refine xX ?_
   try dsimp only
   refine YI (ts:=[.str "take",.str "box",.str "down"]) (w:=.str w) (vs:=[.str "take",.str "box",.str "down"]) rfl rfl rfl ?_;refine wZ (by rcases L with rfl | rfl | rfl<;>rfl) ?_;refine xX ?_
   try dsimp only
   refine uQ ?_;refine mX (v:=x.pv) rfl ?_;refine⟨d',rfl,x,aa,tt,rr,A,τ,R,bs,ns,rfl,G,B,g,J,fun C1 m1 F=>?_⟩;have N:=B.ex F m1;have O:=gK (τ:=τ) (wJ g.a) G J
   try dsimp only
   refine gX (lQ _ _) ?_;refine wZ (by rcases L with rfl | rfl | rfl<;>decide) ?_;refine xX ?_
   try dsimp only
   refine uQ ?_;refine mX (v:=y.pv) rfl ?_;refine⟨d',rfl,y,aa,tt,rr,A,τ,_,bs,ns,rfl,U,N,g,O,fun C2 M I=>?_⟩
   try dsimp only
   have bx:=gN g.a g.t g.h G;have ae:=gN g.a g.t g.h U
   exact⟨w,_,_,rfl,L,bx,ae,q C2 M (F.trans I)⟩
  |pick x y z =>
   cases n with
   |zero=>delta Rk.ok at j;exact j.elim
   |succ d' =>
   unfold Rk.ok at j;obtain⟨G,U,oz⟩:=j;refine mX tQ ?_
   try dsimp only
   refine gX (lQ _ _) ?_;refine wZ (by decide) ?_;refine xX ?_
   try dsimp only
   refine gX (lQ _ _) ?_;refine wZ (by decide) ?_;refine xX ?_
   try dsimp only
   refine YI (ts:=[.str "take",.str "box",.str "down"]) (w:=.str "pick") (vs:=[.str "take",.str "box",.str "down"]) rfl rfl rfl ?_;refine wZ rfl ?_;refine xX ?_
   try dsimp only
   refine uQ ?_;refine mX (v:=x.pv) rfl ?_;refine⟨d',rfl,x,aa,tt,rr,A,τ,R,bs,ns,rfl,G,B,g,J,fun C1 m1 F=>?_⟩;have N:=B.ex F m1;have O:=gK (τ:=τ) (wJ g.a) G J
   try dsimp only
   refine gX (lQ _ _) ?_;refine nZ (by decide) ?_;refine uQ ?_;refine gX (rX _ _) ?_
   by_cases h0:x.val A τ=0
   .refine nZ (Af h0) ?_
    refine mX (v:=z.pv) rfl ?_
    try dsimp only
    refine⟨d',rfl,z,aa,tt,rr,A,τ,_,bs,ns,rfl,oz,N,g,O,fun C2 M I=>?_⟩;have:=q C2 (by unfold Rk.rds;rw[Ac h0];exact M) (F.trans I);unfold Rk.val at this;rw[Ac h0] at this;exact this
   .refine wZ (AR h0) ?_
    refine mX (v:=y.pv) rfl ?_
    try dsimp only
    refine⟨d',rfl,y,aa,tt,rr,A,τ,_,bs,ns,rfl,U,N,g,O,fun C2 M I=>?_⟩;have:=q C2 (by unfold Rk.rds;rw[Ad h0];exact M) (F.trans I);unfold Rk.val at this;rw[Ad h0] at this;exact this
 induction d with
 |zero=>exact ab 0 fun d' e=>by lia
 |succ d ih=>exact ab (d+1) fun d' e=>by cases Aw e;exact ih
end
structure HdV where
 ev:Str
 rank:Int
 last:Bool
 ch:List (Str×Str×Int)
inductive Wt where
 |plain (sp:List Key) (tag:Str) (sets:List (Str×Int)) (hands:List HdV) (row:List Wt)
 |part (sp:List Key) (name:Str) (gives:List (Str×Int))
 |give (sp:List Key) (name:Str) (num:Int) (row:List Wt)
noncomputable def Vs(c:Str×Str×Int):PV:=.tup [.str c.1,.str c.2.1,.int c.2.2]
def HdV.pv(h:HdV):PV:=.tup [.str h.ev,.int h.rank,.bl h.last,.tup (h.ch.map Vs)]
mutual
def Wt.pv:Wt->PV
 |.plain sp j s h r=>.tup [.str "plain",uK sp,.str j,.tup (s.map dQ),.tup (h.map HdV.pv),.tup (Wt.pvs r)]
 |.part sp n g=>.tup [.str "part",uK sp,.str n,.tup (g.map dQ)]
 |.give sp n i r=>.tup [.str "give",uK sp,.str n,.int i,.tup (Wt.pvs r)]
def Wt.pvs:List Wt->List PV
 |[]=>[]
 |w::q=>w.pv::Wt.pvs q
end
theorem Wt.pvs_map g:Wt.pvs g=g.map Wt.pv:=by
 induction g with
 |nil=>rfl
 |cons l g j=>rw[A5,<- j];rfl
theorem Wt.pvs_app xs ys:Wt.pvs (xs++ys)=Wt.pvs xs++Wt.pvs ys:=by
 rw[Wt.pvs_map,Wt.pvs_map,Wt.pvs_map,AO]
theorem Wt.pvs_len xs:(Wt.pvs xs).length=xs.length:=by rw[Wt.pvs_map,AB]
section
variable (A:Rds)(τ:Tns)
noncomputable def xJ(ps:List (Str×Rk)):List (Str×Int):=ps.map fun c=>(c.1,c.2.val A τ)
def yK(ps:List (Str×Rk))(R:Rds):Rds:=ps.foldl (fun R c=>c.2.rds A τ R) R
noncomputable def rR(cs:List (Str×Str×Rk)):List (Str×Str×Int):=cs.map fun c=>(c.1,c.2.1,c.2.2.val A τ)
noncomputable def nD(cs:List (Str×Str×Rk))(R:Rds):Rds:=cs.foldl (fun R c=>c.2.2.rds A τ R) R
def nO(h:Hd):HdV:=⟨h.ev,h.rank,h.last,rR A τ h.ch⟩
def xV(hs:List Hd):List HdV:=hs.map (nO A τ)
noncomputable def tJ(hs:List Hd)(R:Rds):Rds:=hs.foldl (fun R h=>nD A τ h.ch R) R
def zU:Option Rk->Key
 |none=>.inl none
 |some r=>.inl (some (r.val A τ))
def hW:Option Rk->Rds->Rds
 |none,R=>R
 |some r,R=>r.rds A τ R
end
def xT(N:Tns)(k:Key):Int:=match gJ N k with
 |some (.int i)=>i
 |_=>0
def vH(i:Int):Nat:=(if i < 8 then i else 8).toNat
theorem sD i:vH i<=8:=by delta vH;split<;>lia
abbrev DSt:=List Wt×Tns×Rds
def qG(N:Tns)(k:Key):List Key:=[k,.inl (some (xT N k))]
def bY(N:Tns)(k:Key):Tns:=qJ N k (.int (xT N k+1))
mutual
def sX(A:Rds):Ln->Tns->DSt->DSt
 |.when r q B,τ,st=>if r.val A τ=0 then rQ A B τ (st.1,st.2.1,r.rds A τ st.2.2) else rQ A q τ (st.1,st.2.1,r.rds A τ st.2.2)
 |.each n r j,τ,st=>(List.range (vH (r.val A τ))).foldl (fun st k=>rQ A j (qJ τ (.inr n) (.int (k:Nat))) st) (st.1,st.2.1,r.rds A τ st.2.2)
 |.part k n g,τ,st=>(st.1++[.part (qG st.2.1 (zU A τ k)) n (mG (xJ A τ g))],bY st.2.1 (zU A τ k),yK A τ g (hW A τ k st.2.2))
 |.give k n r j,τ,st =>
  let d:=rQ A j τ ([],[],r.rds A τ (hW A τ k st.2.2))
  (st.1++[.give (qG st.2.1 (zU A τ k)) n (r.val A τ) d.1],bY st.2.1 (zU A τ k),d.2.2)
 |.plain k D s hs j,τ,st =>
  let d:=rQ A j τ ([],[],tJ A τ hs (yK A τ s (hW A τ k st.2.2)))
  (st.1++[.plain (qG st.2.1 (zU A τ k)) D (mG (xJ A τ s)) (xV A τ hs) d.1],bY st.2.1 (zU A τ k),d.2.2)
def rQ(A:Rds):List Ln->Tns->DSt->DSt
 |[],_,st=>st
 |l::j,τ,st=>rQ A j τ (sX A l τ st)
end
noncomputable def gF(A:Rds)(τ:Tns)(sp:List Key):Ln->Rds->Wt×Rds
 |.part _ n g,R=>(.part sp n (mG (xJ A τ g)),yK A τ g R)
 |.give _ n r j,R=>(.give sp n (r.val A τ) (rQ A j τ ([],[],r.rds A τ R)).1,(rQ A j τ ([],[],r.rds A τ R)).2.2)
 |.plain _ q s hs j,R=>(.plain sp q (mG (xJ A τ s)) (xV A τ hs) (rQ A j τ ([],[],tJ A τ hs (yK A τ s R))).1,(rQ A j τ ([],[],tJ A τ hs (yK A τ s R))).2.2)
 |_,R=>(.part sp "" [],R)
theorem jV A τ st:rQ A [] τ st=st:=by rfl
theorem pZ A l g τ st:rQ A (l::g) τ st=rQ A g τ (sX A l τ st):=by rw[rQ]
theorem Zq A xs ys τ st:rQ A (xs++ys) τ st=rQ A ys τ (rQ A xs τ st):=by
 induction xs generalizing st with
 |nil=>rfl
 |cons x xs g=>rw[B7,pZ,pZ,g]
def isTh:Ln->Bool
 |.when _ _ _=>false
 |.each _ _ _=>false
 |_=>true
def iU:Ln->Option Rk
 |.plain k _ _ _ _=>k
 |.part k _ _=>k
 |.give k _ _ _=>k
 |_=>none
theorem Zp(A:Rds)(τ:Tns)(l:Ln)(F:List Wt)(N:Tns)(R:Rds)(h:isTh l=true):
  sX A l τ (F,N,R)=(F++[(gF A τ (qG N (zU A τ (iU l))) l (hW A τ (iU l) R)).1],bY N (zU A τ (iU l)),(gF A τ (qG N (zU A τ (iU l))) l (hW A τ (iU l) R)).2):=by
 cases l with
 |plain k D s hs j=>rw[sX];rfl
 |part k n g=>rw[sX];rfl
 |give k n r j=>rw[sX];rfl
 |when r q B=>cases h
 |each n r j=>cases h
theorem xU{α:Type}{f}{m:α->Nat}(h:∀x k,m (f x k)<=m x+c):∀(l:List Nat)x,m (l.foldl f x)<=m x+l.length * c
 |[],x=>by show m x<=m x+0 * c;lia
 |k::l,x=>by
  have h1:=xU h l (f x k);have h2:=h x k;rw[List.foldl_cons,AL,Nat.add_mul,Nat.one_mul]
  lia
mutual
theorem Yp(A:Rds):∀(l:Ln)(τ:Tns)(st:DSt),(sX A l τ st).1.length<=st.1.length+l.tw/\(sX A l τ st).2.1.length<=st.2.1.length+l.tw
 |.when r q B,τ,st=>by
  rw[sX];have h1:=oJ A q τ (st.1,st.2.1,r.rds A τ st.2.2);have h2:=oJ A B τ (st.1,st.2.1,r.rds A τ st.2.2);show _<=_+(Ln.tws q+Ln.tws B)/\_<=_+(Ln.tws q+Ln.tws B)
  split
  .exact ⟨Ah h2.1 (by show st.1.length+_<=_;omega),Ah h2.2 (by show st.2.1.length+_<=_;omega)⟩
  .exact ⟨Ah h1.1 (by show st.1.length+_<=_;omega),Ah h1.2 (by show st.2.1.length+_<=_;omega)⟩
 |.each n r j,τ,st=>by
  rw[sX];have c:=sD (r.val A τ);have D:=xU (f:=fun st k=>rQ A j (qJ τ (.inr n) (.int (k:Nat))) st) (m:=fun st=>st.1.length) (c:=Ln.tws j) (fun x k=>(oJ A j _ x).1) (List.range (vH (r.val A τ))) (st.1,st.2.1,r.rds A τ st.2.2);have F:=xU (f:=fun st k=>rQ A j (qJ τ (.inr n) (.int (k:Nat))) st) (m:=fun st=>st.2.1.length) (c:=Ln.tws j) (fun x k=>(oJ A j _ x).2) (List.range (vH (r.val A τ))) (st.1,st.2.1,r.rds A τ st.2.2)
  rw[Am] at D F;have G:vH (r.val A τ) * Ln.tws j<=8 * Ln.tws j:=Bz _ c;show _<=st.1.length+8 * Ln.tws j/\_<=st.2.1.length+8 * Ln.tws j;exact⟨Ah D (by show st.1.length+_<=_;omega),Ah F (by show st.2.1.length+_<=_;omega)⟩
 |.part k n g,τ,st=>by
  rw[sX];refine⟨by show(st.1++[_]).length<=st.1.length+1;rw[AG,AQ];exact AJ _,qD _ _ _⟩
 |.give k n r j,τ,st=>by
  rw[sX];refine⟨by show(st.1++[_]).length<=st.1.length+(1+_);rw[AG,AQ];omega,Ah (qD _ _ _) (by show _<=_+(1+_);omega)⟩
 |.plain k I s hs j,τ,st=>by
  rw[sX];refine⟨by show(st.1++[_]).length<=st.1.length+(1+_);rw[AG,AQ];omega,Ah (qD _ _ _) (by show _<=_+(1+_);omega)⟩
theorem oJ A:∀j τ st,(rQ A j τ st).1.length<=st.1.length+Ln.tws j/\(rQ A j τ st).2.1.length<=st.2.1.length+Ln.tws j
 |[],τ,st=>by exact⟨BX _ _,BX _ _⟩
 |l::j,τ,st=>by
  rw[pZ];have h1:=Yp A l τ st;have h2:=oJ A j τ (sX A l τ st);show _<=_+(l.tw+Ln.tws j)/\_<=_+(l.tw+Ln.tws j)
  lia
end
theorem fJ(g:bT A bs P): ∀{ps}{R},wH bs ns d ps->P R->P (yK A τ ps R)
 |[],R,_,h=>h
 |c::ps,R,j,h=>fJ (ps:=ps) g (fun x q=>j x (AH _ q)) (gK g (j c AE) h)
theorem nH(g:bT A bs P): ∀{cs}{R},(∀c∈cs,c.2.2.ok bs ns d)->P R->P (nD A τ cs R)
 |[],R,_,h=>h
 |c::ps,R,j,h=>nH (cs:=ps) g (fun x q=>j x (AH _ q)) (gK g (j c AE) h)
theorem zY(g:bT A bs P):∀{hs}{R},(∀h∈hs,h.ok bs ns)->P R->P (tJ A τ hs R)
 |[],R,_,h=>h
 |c::ps,R,j,h=>zY (hs:=ps) g (fun x q=>j x (AH _ q)) (nH g (j c AE).2 h)
theorem vM(j:bT A bs P)(h:pA bs ns k)(g:P R):P (hW A τ k R):=by
 cases k with
 |none=>exact g
 |some r=>exact gK j h g
theorem zS{P:Rds->Prop}(h1:∀l ns τ st,LnOk bs rs d ns l->P st.2.2->P (sX A l τ st).2.2):∀g ns τ st,(∀x∈g,LnOk bs rs d ns x)->P st.2.2->P (rQ A g τ st).2.2
 |[],ns,τ,st,_,h=>by rwa [jV]
 |l::g,ns,τ,st,j,h=>by
  exact zS h1 g ns τ _ (fun x q=>j x (AH _ q)) (h1 l ns τ st (j l AE) h)
theorem wY{α β:Type}{f}{P:α->Prop}(h:∀x k,P x->P (f x k)):∀(l:List β)x,P x->P (l.foldl f x)
 |[],x,p=>p
 |k::l,x,p=>wY h l _ (h x k p)
theorem one_rd(j:bT A bs P):∀d l ns τ st,LnOk bs rs d ns l->P st.2.2->P (sX A l τ st).2.2:=by
 intro d
 induction d with
 |zero=>intro l ns τ st h;exact h.elim
 |succ d J =>
  intro l ns τ st h D;have F:=zS J
  cases l with
  |plain k N s hs G =>
   exact zP h fun h1 h2 q B I=>F G ns τ _ B (zY j q.1 (fJ j h2.1 (vM j h1 D)))
  |part k n g =>
   exact kR h fun h1 h2 q B=>fJ j q (vM j h1 D)
  |give k n r G =>
   exact zP h fun h1 h2 q B I=>F G ns τ _ B (gK j q (vM j h1 D))
  |when r L M =>
   obtain⟨h1,⟨h2,q⟩,B,I⟩:=h;rw[sX]
   split
   .exact F M ns τ _ B (gK j h1 D)
   .exact F L ns τ _ h2 (gK j h1 D)
  |each n r G =>
   exact kH h fun h1 h2 q=>wY (fun x k p=>F G [n] _ x h2 p) _ _ (gK j h1 D)
theorem iZ(j:bT A bs P)(h:∀x∈g,LnOk bs rs d ns x)(q:P st.2.2):P (rQ A g τ st).2.2:=zS (one_rd j d) g ns τ st h q
def CInts(N:Tns):Prop:=∀g∈N,∃i,g.2=.int i
theorem CInts.put(h:CInts N)k i:CInts (qJ N k (.int i)):=by
 intro q g
 delta qJ at g
 split at g
 .obtain ⟨x,j,rfl⟩:=AN.1 g
  split
  .exact ⟨i,rfl⟩
  .exact h x j
 .rcases AX.1 g with g | g
  .exact h q g
  .cases AD.1 g;exact⟨i,rfl⟩
theorem cnt_is(h:CInts N)k:(gJ N k).getD (.int 0)=.int (xT N k):=by
 delta xT
 cases e:gJ N k with
 |none=>rfl
 |some v =>
  obtain⟨q,j,rfl⟩:=Qk e;obtain⟨i,g⟩:=h q j;rw[g]
  rfl
mutual
theorem one_ci(A:Rds):∀(l:Ln)(τ:Tns)(st:DSt),CInts st.2.1->CInts (sX A l τ st).2.1
 |.when r q B,τ,st,h=>by
  rw[sX]
  split
  .exact oG A B τ _ h
  .exact oG A q τ _ h
 |.each n r j,τ,st,h=>by
  rw[sX];exact wY (P:=fun st:DSt=>CInts st.2.1) (fun x k p=>oG A j _ x p) _ _ h
 |.part k n g,τ,st,h=>by rw[sX];exact h.put _ _
 |.give k n r j,τ,st,h=>by rw[sX];exact h.put _ _
 |.plain k D s hs j,τ,st,h=>by rw[sX];exact h.put _ _
theorem oG A:∀j τ st,CInts st.2.1->CInts (rQ A j τ st).2.1
 |[],τ,st,h=>by rwa [jV]
 |l::j,τ,st,h=>by exact oG A j τ _ (one_ci A l τ st h)
end
theorem Vw(I:List PV->List PV->CH->Prop)(B:∀x r acc C,I (x::r) acc C->∃ts,x=.tup ts/\ts.length=n/\∀L:K1,(∀y C2,acc.length < sizeLine/\I r (acc++[y]) C2->L y C2)->c (ts.map some++D) C L)(g:∀acc C,I [] acc C->∀p,C p=none->Q (.ref p) (vQ C p (.lst acc))):
  ∀xs acc C,I xs acc C->dM n eD c D Q xs acc C:=by
 intro xs
 induction xs with
 |nil=>intro acc C h;exact g acc C h
 |cons x r q =>
  intro acc C h;exact jZ (B x r acc C h) fun ts e j st=>⟨ts,e,j,st _ fun y C2 z=>⟨z.1,q _ _ z.2⟩⟩
section
variable {P:Program}{w:World}{K:Dj}{mg:Str->Option Value}{base:Heap}{a:Adr}
structure Sf(a:Adr)(C:CH)(x aa rr:Addr)(A R:Rds):Prop where
 ins:∃dx,C x=some (.ins a.Drawer dx [("answers",.ref aa),("asked",.ref rr)])
 ans:C aa=some (.dT A)
 ask:C rr=some (.dT R)
 ne:aa≠rr
theorem Sf.nx(h:Sf a C x aa rr A R):x≠rr:=fun e=>by
 obtain⟨dx,h1⟩:=h.ins;rw[e,h.ask] at h1;cases h1
theorem Sf.keep{R g:Rds}(h:Sf a C x aa rr A R)(e:ExS S C C')(B:x∉S)(q:aa∉S)(j:C' rr=some (.dT g)):Sf a C' x aa rr A g :=
 ⟨let ⟨dx,h1⟩:=h.ins;⟨dx,e _ _ B h1⟩,e _ _ q h.ans,j,h.ne⟩
theorem Sf.keep'(h:Sf a C x aa rr A R)(e:ExS S C C')(q:x∉S)(j:aa∉S)(g:rr∉S):Sf a C' x aa rr A R :=
 h.keep e q j (e _ _ g h.ask)
theorem Sf.rd{R g:Rds}(h:Sf a C x aa rr A R)(e:ExS [rr] C C')(j:C' rr=some (.dT g)):Sf a C' x aa rr A g :=
 h.keep e (fun z=>h.nx (AD.1 z)) (fun z=>h.ne (AD.1 z)) j
theorem Sf.new(h:Sf a C x aa rr A R)(g:C p=none)o:Sf a (vQ C p o) x aa rr A R :=h.keep' (ExS.refl.put g o) (Bn) (Bn) (Bn)
theorem Sf.nd(h:Sf a C x aa rr A R)(m:C g=some (.dK cs)):x≠g/\aa≠g/\rr≠g:=by
 obtain⟨dx,h1⟩:=h.ins;refine⟨fun e=>?_,fun e=>?_,fun e=>?_⟩
 .rw [e,m] at h1;cases h1
 .have:=h.ans;rw[e,m] at this;cases this
 .have:=h.ask;rw[e,m] at this;cases this
theorem Sf.nl(h:Sf a C x aa rr A R)(m:C p=some (.lst xs)):x≠p/\aa≠p/\rr≠p:=by
 obtain⟨dx,h1⟩:=h.ins;refine⟨fun e=>?_,fun e=>?_,fun e=>?_⟩
 .rw [e,m] at h1;cases h1
 .have:=h.ans;rw[e,m] at this;cases this
 .have:=h.ask;rw[e,m] at this;cases this
theorem Sf.nn(h:Sf a C x aa rr A R)(m:C p=none):x≠p/\aa≠p/\rr≠p:=by
 obtain⟨dx,h1⟩:=h.ins;refine⟨fun e=>?_,fun e=>?_,fun e=>?_⟩
 .rw [e,m] at h1;cases h1
 .have:=h.ans;rw[e,m] at this;cases this
 .have:=h.ask;rw[e,m] at this;cases this
inductive gInit(a:Adr)(ts:List PV)(C:CH)(Q:K1):Prop
 |mk(x dx aa:Addr)(A:Rds)(z0:ts=[.ref x,.ref aa])(z1:C x=some (.ins a.Drawer dx []))(z2:C aa=some (.dT A))(z3:∀C' rr,C rr=none->Sf a C' x aa rr A []->ExS [x] C C'->Q .non C'):gInit a ts C Q
theorem ok_init(T:Txt P w K mg a):FnOk P w K mg base CX0 1 (a.f 50) (a.d 50) ["self","answers"] (spC K (gInit a)):=by
 refine(T.F 50 rfl).ok (fun ts C R h=>?_) fun L A N s H E M=>⟨_,(xQ (ZN T.kX T.tG (cv 0) (cv 1))
  (kQ (ZN T.kX T.fY (cv 0) kI))),?_⟩
 .obtain ⟨_,_,_,_,rfl,_⟩:=h;rfl
 rintro ts C R ⟨x,dx,J,A,rfl,F,g,q⟩;have G:J≠x:=fun e=>by rw[e,F] at g;cases g
 apply X7 F (by decide)
 intro D B
 have j:C D=none:=by
  rw[yQ (fun z=>by rw[z,jQ] at B;cases B)] at B;exact B
 have I:D≠x:=fun e=>by rw[e,F] at j;cases j
 apply X7 (by rw[yQ (Ne.symm I)];exact jQ) (by show 1 < 1000;decide)
 refine q _ D j ⟨⟨dx,?_⟩,?_,?_,fun e=>by rw[e,j] at g;cases g⟩ ?_
 .rw [jQ]
  rfl
 .rw [yQ G,yQ (fun e=>by rw[e,j] at g;cases g),yQ G];exact g
 .exact (yQ I)▸jQ
 .exact ((ExS.refl.at AE _).put j _).at AE _
inductive gDnum(a:Adr)(d:Nat)(ts:List PV)(C:CH)(Q:K1):Prop
 |mk(r:Rk)(x aa tt rr:Addr)(A:Rds)(τ:Tns)(R:Rds)(bs ns:List Str)(z0:ts=[.ref x,r.pv,.ref tt])(z1:r.ok bs ns d)(z2:Sf a C x aa rr A R)(z3:C tt=some (.dK τ))(z4:mB A τ bs ns)(z5:RdOk bs R)(z6:∀C',Sf a C' x aa rr A (r.rds A τ R)->ExS [rr] C C'->Q (.int (r.val A τ)) C'):gDnum a d ts C Q
theorem xM(T:Txt P w K mg a)d:FnOk P w K mg base CX0 (d+4) (a.f 51) (a.d 51) ["self","reckoning","turns"] (spC K (gDnum a d)):=by
 have M:=kA (base:=base) T d;refine(T.F 51 rfl).ok (fun ts C R h=>?_) fun N A O s H E G=>⟨_,(kQ (gQ (cf (T.F 7 rfl) M G (qQ (cv 1) (qQ (dF T.kX T.tG (cv 0)) (qQ (cv 2) (ca1 (dF T.kX T.fY (cv 0))))))))),?_⟩
 .obtain ⟨r,_,_,_,_,_,_,_,_,_,rfl,_⟩:=h;rfl
 rintro ts C Q ⟨r,x,aa,tt,rr,A,τ,R,bs,ns,rfl,L,g,J,F,D,q⟩;obtain⟨dx,j⟩:=g.ins;exact iC j rfl (iC j rfl ⟨r,aa,tt,rr,A,τ,R,bs,ns,rfl,L,⟨g.ans,J,g.ask,g.ne⟩,F,D,fun C1 I B=>q C1 (g.rd B I) B⟩)
inductive oO(a:Adr)(ts:List PV)(C:CH)(Q:K1):Prop
 |mk(ps:List (Str×Rk))(x aa tt rr:Addr)(A:Rds)(τ:Tns)(R:Rds)(bs ns:List Str)(z0:ts=[.ref x,.tup (ps.map lM),.ref tt])(z1:wH bs ns 2 ps)(z2:ps.length<=4)(z3:Sf a C x aa rr A R)(z4:C tt=some (.dK τ))(z5:mB A τ bs ns)(z6:RdOk bs R)(z7:∀C' l,C l=none->C' l=some (.lst ((xJ A τ ps).map dQ))->Sf a C' x aa rr A (yK A τ ps R)->ExS [rr] C C'->Q (.ref l) C'):oO a ts C Q
theorem sP(T:Txt P w K mg a):FnOk P w K mg base CX0 7 (a.f 52) (a.d 52) ["self","pairs","turns"] (spC K (oO a)):=by
 have S:=(T.F 52 rfl).s;have uX:=xM (base:=base) T 2;refine(T.F 52 rfl).ok (fun ts C R h=>?_) fun af A ag s H E Y=>⟨_,(kQ (gQ (nW rfl (S.c (by decide +kernel)) (S.k rfl rfl rfl (by decide +kernel)) (pF (cv 1)) (fun _ _ _ _ _=>aJ) (fun _ _ _ _ _=>(pQ (qQ (cx (cv 0) zQ) (ca1 (cm T.kX (T.F 51 rfl) T.aX uX Y (cv 1) (qQ (cx (cv 0) zQ) (ca1 (cv 3))))))))))),?_⟩
 .obtain ⟨_,_,_,_,_,_,_,_,_,_,rfl,_⟩:=h;rfl
 rintro ts C Q ⟨ps,x,aa,tt,rr,A,τ,R,bs,ns,rfl,G,W,M,I,F,U,ab⟩;refine nG (fun zs acc C1=>∃ds es:List (Str×Rk),ps=ds++es/\zs=es.map lM/\acc=(xJ A τ ds).map dQ/\Sf a C1 x aa rr A (yK A τ ds R)/\ExS [rr] C C1) ?_ ?_ _ _ _ ⟨[],ps,rfl,rfl,rfl,M,ExS.refl⟩
 .rintro z zs acc C1 ⟨ds,es,g,j,rfl,q,B⟩ L O
  cases es with
  |nil=>cases j
  |cons p es =>
   injection j with j N
   subst j N;obtain⟨dx,mx⟩:=q.ins;refine mX rfl ⟨nX mx rfl,mX rfl ⟨p.2,x,aa,tt,rr,A,τ,_,bs,ns,rfl,G p (g▸AU _ AE),q,B _ _ (fun z=>(M.nd I).2.2 (AD.1 z).symm) I,F,fJ (wJ F.a) (fun y Z=>G y (g▸Au _ Z)) U,fun C2 ae x2=>⟨zz 2 rfl,?_⟩⟩⟩;refine O _ _ ⟨?_,ds++[p],es,by rw[g,AY];rfl,rfl,by delta xJ;rw[AO,AO];rfl,?_,B.trans x2⟩
   .rw [AB]
    delta xJ
    rw[AB];have:ds.length<=4:=by rw[g,AG] at W;lia
    exact An this (by decide)
   .unfold yK at ae ⊢
    rwa [BO]
 .rintro acc C1 ⟨ds,es,g,j,rfl,q,B⟩ p D
  cases es with
  |cons _ _=>cases j
  |nil =>
   rw[Aj] at g;subst g;have J:=B.none (fun z=>(q.nn D).2.2 (AD.1 z).symm) D;exact ab _ p J jQ (q.new D _) (B.put J _)
theorem keyOf_keyPV k:pV (fW k)=some k:=by
 rcases k with (_ | i) | x<;>rfl
inductive gSpot(a:Adr)(ts:List PV)(C:CH)(Q:K1):Prop
 |mk(k:Option Rk)(x aa tt rr cc:Addr)(A:Rds)(τ:Tns)(R:Rds)(N:Tns)(bs ns:List Str)(z0:ts=[.ref x,bD k,.ref tt,.ref cc])(z1:pA bs ns k)(z2:Sf a C x aa rr A R)(z3:C tt=some (.dK τ))(z4:C cc=some (.dK N))(z5:CInts N)(z6:N.length<=900)(z7:mB A τ bs ns)(z8:RdOk bs R)(z9:∀C',C' cc=some (.dK (bY N (zU A τ k)))->Sf a C' x aa rr A (hW A τ k R)->ExS [rr,cc] C C'->Q (uK (qG N (zU A τ k))) C'):gSpot a ts C Q
theorem ok_spot(T:Txt P w K mg a):FnOk P w K mg base CX0 5 (a.f 57) (a.d 57) ["self","key","turns","counts"] (spC K (gSpot a)):=by
 have S:=(T.F 57 rfl).s;have uX:=xM (base:=base) T 0
 refine(T.F 57 rfl).ok (fun ts C R h=>?_) fun ae A af s H E g=>⟨_,(xQ (cs1 4 S.nd (sR (ct2 xC rD (cv 1) wV) wV (cm T.kX (T.F 51 rfl) T.aX uX g (cv 0) (qQ (cv 1) (ca1 (cv 2))))))
  (xQ (cs1 5 S.nd (GE (eX g) (cv 3) (cv 4) zQ))
  (xQ (rV (eX g) (cv 3) (cv 4) (eQ vX wX (cv 5) zQ))
  (kQ (gQ (pQ (qQ (cv 4) (ca1 (cv 5))))))))),?_⟩
 .obtain ⟨_,_,_,_,_,_,_,_,_,_,_,_,rfl,_⟩:=h;rfl
 rintro ts C Q ⟨j,x,aa,tt,rr,cc,A,τ,R,N,bs,ns,rfl,W,q,Y,G,U,hs,M,L,ab⟩;refine kH (q.nd G) fun n1 n2 I=>?_
 have rest:∀C1,Sf a C1 x aa rr A (hW A τ j R)->ExS [rr] C C1->uT (GL 5 (GQ (cZ 3) (cZ 4) (cC (.int 0)))) (uT (cDPut (cZ 3) (cZ 4) (cOp sI (cZ 5) (cC (.int 1)))) (cRet (ZY (rK (cZ 4) (rK (cZ 5) qL))))) { nx:=fun _ C'=>Q .non C',rt:=Q } [some (.ref x),some (bD j),some (.ref tt),some (.ref cc),some (fW (zU A τ j)),none] C1:=by
  intro C1 F B;have D:=B _ _ (fun z=>I (AD.1 z).symm) G;refine uQ ⟨YH D,getD_g D (keyOf_keyPV _) (cnt_is U _) (kZ (aY (zG D (keyOf_keyPV _) (by lia) ?_)))⟩;refine⟨zz 2 rfl,?_⟩;refine ab _ jQ (F.keep' (S:=[cc]) (ExS.refl.at AE _) ?_ ?_ ?_) ((B.mono fun b O=>Ai.2 (.inl (AD.1 O))).at (AH _ AE) _)
  .exact fun z=>n1 (AD.1 z)
  .exact fun z=>n2 (AD.1 z)
  .exact fun z=>I (AD.1 z)
 cases j with
 |none=>exact rest C q ExS.refl
 |some r =>
   obtain⟨dx,Z⟩:=q.ins;have g:∃xs,r.pv=.tup xs:=by cases r<;>exact⟨_,rfl⟩
   obtain⟨xs,g⟩:=g;have J:=rest
   simp only[bD,g] at J ⊢
   refine uQ (if_i (hU rfl (rM rfl ⟨nX Z rfl,⟨r,x,aa,tt,rr,A,τ,R,bs,ns,by rw[g],W,q,Y,M,L,fun C1 F B=>?_⟩⟩)));exact J C1 F B
inductive gHand(a:Adr)(ts:List PV)(C:CH)(Q:K1):Prop
 |mk(h:Hd)(x aa tt rr:Addr)(A:Rds)(τ:Tns)(R:Rds)(bs ns:List Str)(z0:ts=[.ref x,h.pv,.ref tt])(z1:h.ok bs ns)(z2:Sf a C x aa rr A R)(z3:C tt=some (.dK τ))(z4:mB A τ bs ns)(z5:RdOk bs R)(z6:∀C',Sf a C' x aa rr A (nD A τ h.ch R)->ExS [rr] C C'->Q (nO A τ h).pv C'):gHand a ts C Q
theorem ok_hand(T:Txt P w K mg a):FnOk P w K mg base CX0 6 (a.f 58) (a.d 58) ["self","hand","turns"] (spC K (gHand a)):=by
 have S:=(T.F 58 rfl).s;have uX:=xM (base:=base) T 1
 refine(T.F 58 rfl).ok (fun ts C R h=>?_) fun af A ag s H E W=>⟨_,(xQ (cs_setC (i:=3) S.nd rfl (Or.inl rfl) rfl (S.c (by decide +kernel)) (S.k rfl rfl rfl (by decide +kernel)) (pF (cx (cv 1) zQ)) (fun _ _ _ _ _=>aJ) (fun _ _ _ _ _=>(pQ (qQ (cx (cv 0) zQ) (qQ (cx (cv 0) zQ) (ca1 (cm T.kX (T.F 51 rfl) T.aX uX W (cv 1) (qQ (cx (cv 0) zQ) (ca1 (cv 3))))))))))
  (kQ (gQ (pQ (qQ (cx (cv 1) zQ) (qQ (cx (cv 1) zQ) (qQ (cx (cv 1) zQ) (ca1 (ctp T.hX (cv 3)))))))))),?_⟩
 .obtain ⟨_,_,_,_,_,_,_,_,_,_,rfl,_⟩:=h;rfl
 rintro ts C Q ⟨h,x,aa,tt,rr,A,τ,R,bs,ns,rfl,D,J,I,G,O,ab⟩;refine uQ (mX rfl (nG (fun zs acc C1=>∃ds es:List (Str×Str×Rk),h.ch=ds++es/\zs=es.map chPV/\acc=(rR A τ ds).map Vs/\Sf a C1 x aa rr A (nD A τ ds R)/\ExS [rr] C C1) ?_ ?_ _ _ _ ⟨[],h.ch,rfl,rfl,rfl,J,ExS.refl⟩))
 .rintro z zs acc C1 ⟨ds,es,g,j,rfl,q,B⟩ L N
  cases es with
  |nil=>cases j
  |cons p es =>
   injection j with j M
   subst j M;obtain⟨dx,Z⟩:=q.ins;refine mX rfl (mX rfl ⟨nX Z rfl,mX rfl ⟨p.2.2,x,aa,tt,rr,A,τ,_,bs,ns,rfl,D.2 p (g▸AU _ AE),q,B _ _ (fun z=>(J.nd I).2.2 (AD.1 z).symm) I,G,nH (wJ G.a) (fun y Y=>D.2 y (g▸Au _ Y)) O,fun C2 ae x2=>⟨zz 3 rfl,?_⟩⟩⟩);refine N _ _ ⟨?_,ds++[p],es,by rw[g,AY];rfl,rfl,by delta rR;rw[AO,AO];rfl,?_,B.trans x2⟩
   .rw [AB]
    delta rR
    rw[AB];have U:=D.1;have:ds.length<=4:=by rw[g,AG] at U;lia
    exact An this (by decide)
   .unfold nD at ae ⊢
    rwa [BO]
 .rintro acc C1 ⟨ds,es,g,j,rfl,q,B⟩ p F
  cases es with
  |cons _ _=>cases j
  |nil =>
   rw[Aj] at g;refine mX rfl (mX rfl (mX rfl (cK jQ ⟨zz 4 rfl,?_⟩)));have:=ab _ (by rw[g];exact q.new F _) (B.put (B.none (fun z=>(q.nn F).2.2 (AD.1 z).symm) F) (.lst ((rR A τ ds).map Vs)));unfold HdV.pv nO at this
   rwa [g] at this
end
structure S6(a:Adr)(C:CH)(x aa rr tt ff cc:Addr)(A:Rds)(τ:Tns)(st:DSt):Prop where
 sf:Sf a C x aa rr A st.2.2
 mt:C tt=some (.dK τ)
 mf:C ff=some (.lst (Wt.pvs st.1))
 mc:C cc=some (.dK st.2.1)
 tc:tt≠cc
section
variable {a:Adr}{C C':CH}{x aa rr tt ff cc:Addr}{A:Rds}{τ:Tns}{st st':DSt}
theorem S6.fc(h:S6 a C x aa rr tt ff cc A τ st):ff≠cc:=fun z=>by have:=h.mf;rw[z,h.mc] at this;cases this
theorem S6.tf(h:S6 a C x aa rr tt ff cc A τ st):tt≠ff:=fun z=>by have:=h.mt;rw[z,h.mf] at this;cases this
theorem S6.fr(h:S6 a C x aa rr tt ff cc A τ st):ff≠rr:=fun z=>(h.sf.nl h.mf).2.2 z.symm
theorem S6.cr(h:S6 a C x aa rr tt ff cc A τ st):cc≠rr:=fun z=>(h.sf.nd h.mc).2.2 z.symm
theorem S6.tr(h:S6 a C x aa rr tt ff cc A τ st):tt≠rr:=fun z=>(h.sf.nd h.mt).2.2 z.symm
theorem S6.nt(h:S6 a C x aa rr tt ff cc A τ st):tt∉[ff,cc,rr]:=fun z=>by
 simp only[List.mem_cons,List.not_mem_nil,or_false] at z
 rcases z with z | z | z
 .exact h.tf z
 .exact h.tc z
 .exact h.tr z
theorem S6.rd(h:S6 a C x aa rr tt ff cc A τ st)(e:ExS [rr] C C')(s:Sf a C' x aa rr A R):S6 a C' x aa rr tt ff cc A τ (st.1,st.2.1,R) :=
 ⟨s,e _ _ (fun z=>h.tr (AD.1 z)) h.mt,e _ _ (fun z=>h.fr (AD.1 z)) h.mf,e _ _ (fun z=>h.cr (AD.1 z)) h.mc,h.tc⟩
end
theorem oA(h:ExS [rr] C C'):ExS [ff,cc,rr] C C':=h.mono fun b z=>by rw[AD.1 z];simp
theorem iL(h:ExS [rr] C C'):ExS [rr,cc] C C':=h.mono fun b z=>by rw[AD.1 z];simp
theorem J5(h:ExS [rr,cc] C C'):ExS [ff,cc,rr] C C':=h.mono fun b z=>by
 simp only[List.mem_cons,List.not_mem_nil,or_false] at z ⊢
 rcases z with z | z
 .exact .inr (.inr z)
 .exact .inr (.inl z)
theorem Kv{r:List PV}:atI (x::y::r) 1=some y:=kS (by simp)
theorem th_pv(h:isTh l=true):∃j rest,l.pv=.tup (.str j::bD (iU l)::rest)/\decide (j = "when")=false/\decide (j = "each")=false:=by
 cases l with
 |plain k F s hs q=>exact⟨"plain",_,by rfl,by decide,by decide⟩
 |part k n g=>exact⟨"part",_,by rfl,by decide,by decide⟩
 |give k n r q=>exact⟨"give",_,by rfl,by decide,by decide⟩
 |when r B D=>cases h
 |each n r q=>cases h
inductive gBr(a:Adr)(d:Nat)(ts:List PV)(C:CH)(Q:K1):Prop
 |mk(ls:List Ln)(x aa tt rr ff cc:Addr)(A:Rds)(τ:Tns)(st:DSt)(bs rs ns:List Str)(z0:ts=[.ref x,.tup (Ln.pvs ls),.ref tt,.ref ff,.ref cc])(z1:(∀x∈ls,LnOk bs rs d ns x))(z2:st.1.length+Ln.tws ls<=400)(z3:st.2.1.length+Ln.tws ls<=400)(z4:τ.length+d<=50)(z5:S6 a C x aa rr tt ff cc A τ st)(z6:mB A τ bs ns)(z7:RdOk bs st.2.2)(z8:CInts st.2.1)(z9:∀C',S6 a C' x aa rr tt ff cc A τ (rQ A ls τ st)->ExS [ff,cc,rr] C C'->Q .non C'):gBr a d ts C Q
inductive gBrL(a:Adr)(d:Nat)(ts:List PV)(C:CH)(Q:K1):Prop
 |mk d'(z0:d=d'+1)(z1:gBr a d' ts C Q):gBrL a d ts C Q
inductive gRow(a:Adr)(d:Nat)(ts:List PV)(C:CH)(Q:K1):Prop
 |mk(ls:List Ln)(x aa tt rr:Addr)(A:Rds)(τ:Tns)(R:Rds)(bs rs ns:List Str)(z0:ts=[.ref x,.tup (Ln.pvs ls),.ref tt])(z1:(∀x∈ls,LnOk bs rs d ns x))(z2:Ln.tws ls<=400)(z3:τ.length+d<=50)(z4:Sf a C x aa rr A R)(z5:C tt=some (.dK τ))(z6:mB A τ bs ns)(z7:RdOk bs R)(z8:∀C',Sf a C' x aa rr A (rQ A ls τ ([],[],R)).2.2->ExS [rr] C C'->Q (.tup (Wt.pvs (rQ A ls τ ([],[],R)).1)) C'):gRow a d ts C Q
inductive YR(a:Adr)(d:Nat)(ts:List PV)(C:CH)(Q:K1):Prop
 |mk d'(z0:d=d'+1)(z1:gRow a d' ts C Q):YR a d ts C Q
inductive YO(a:Adr)(d:Nat)(ts:List PV)(C:CH)(Q:K1):Prop
 |mk(l:Ln)(x aa tt rr cc:Addr)(A:Rds)(τ:Tns)(R:Rds)(N:Tns)(bs rs ns:List Str)(z0:ts=[.ref x,l.pv,.ref tt,.ref cc])(z1:isTh l=true)(z2:LnOk bs rs d ns l)(z3:l.tw<=400)(z4:τ.length+d<=50)(z5:Sf a C x aa rr A R)(z6:C tt=some (.dK τ))(z7:C cc=some (.dK N))(z8:tt≠cc)(z9:CInts N)(z10:N.length<=900)(z11:mB A τ bs ns)(z12:RdOk bs R)(z13:∀C',C' cc=some (.dK (bY N (zU A τ (iU l))))->Sf a C' x aa rr A (gF A τ (qG N (zU A τ (iU l))) l (hW A τ (iU l) R)).2->ExS [rr,cc] C C'->Q (gF A τ (qG N (zU A τ (iU l))) l (hW A τ (iU l) R)).1.pv C'):YO a d ts C Q
section
variable {P:Program}{w:World}{K:Dj}{mg:Str->Option Value}{base:Heap}{a:Adr}
theorem WZ(T:Txt P w K mg a)(zK:FnOk P w K mg base CX0 k (a.f 54) (a.d 54) ["self","lines","turns","row","counts"] (spC K (gBr a d))):FnOk P w K mg base CX0 (k+1) (a.f 53) (a.d 53) ["self","lines","turns"] (spC K (gRow a d)):=by
 refine(T.F 53 rfl).ok (fun ts C R h=>?_) fun ag A ai s H E W=>⟨_,(xQ (cs1 3 ((T.F 53 rfl).s).nd (dX yZ))
  (xQ (zZ (cm T.kX (T.F 54 rfl) T.aX zK W (cv 0) (qQ (cv 1) (qQ (cv 2) (qQ (cv 3) (ca1 oH))))))
  (kQ (gQ (ctp T.hX (cv 3)))))),?_⟩
 .obtain ⟨_,_,_,_,_,_,_,_,_,_,_,rfl,_⟩:=h;rfl
 rintro ts C Q ⟨Z,x,aa,tt,rr,A,τ,R,bs,rs,ns,rfl,ae,ah,Y,sf,g,S,O,af⟩;refine⟨by decide,fun ff B=>?_⟩;have M:=sf.new B (.lst []);refine el11 M.ins fun dx mx=>kZ ⟨nX mx rfl,?_⟩;intro cc j;have I:cc≠ff:=fun z=>by rw[z,jQ] at j;cases j
 have G:C cc=none:=by rwa [yQ I] at j
 have ab:tt≠ff:=fun z=>by rw[z,B] at g;cases g
 have J:tt≠cc:=fun z=>by rw[z,G] at g;cases g
 refine⟨Z,x,aa,tt,rr,ff,cc,A,τ,([],[],R),bs,rs,ns,rfl,ae,by show 0+_<=400;lia,by show 0+_<=400;lia,Y,⟨(M.new j (.dK [])),by rw[yQ J,yQ ab];exact g,by exact(yQ (Ne.symm I))▸jQ,jQ,J⟩,S,O,(fun _ z=>nomatch z),fun C2 L N=>?_⟩;refine cK L.mf (af C2 L.sf fun b o U q=>?_);have D:b≠ff:=fun z=>by rw[z,B] at q;cases q
 have F:b≠cc:=fun z=>by rw[z,G] at q;cases q
 refine N b o (fun z=>?_) (by rwa [yQ F,yQ D])
 simp only[List.mem_cons,List.not_mem_nil,or_false] at z
 rcases z with z | z | z
 .exact D z
 .exact F z
 .exact U (z▸AD.2 rfl)
theorem ok_want(T:Txt P w K mg a)(d k:Nat)(h7:7<=k)(sW:FnOk P w K mg base CX0 k (a.f 53) (a.d 53) ["self","lines","turns"] (spC K (YR a d))):FnOk P w K mg base CX0 (k+1) (a.f 56) (a.d 56) ["self","line","turns","counts"] (spC K (YO a d)):=by
 have S:=(T.F 56 rfl).s;have cT:=(ok_spot (base:=base) T).mono (show 5<=k by lia);have uX:=(xM (base:=base) T 1).mono (show 5<=k by lia);have sV:=(sP (base:=base) T).mono h7;have lT:=(ok_hand (base:=base) T).mono (show 6<=k by lia)
 refine(T.F 56 rfl).ok (fun ts C R h=>?_) fun bq A bz s H E hr=>⟨_,(xQ (cs1 4 S.nd (cm T.kX (T.F 57 rfl) T.aX cT hr (cv 0) (qQ (cx (cv 1) zQ) (qQ (cv 2) (ca1 (cv 3))))))
  (xQ (nQ (ct2 cX aQ (cx (cv 1) zQ) wQ) (kQ (gQ (pQ (qQ wQ (qQ (cv 4) (qQ (cx (cv 1) zQ) (qQ (cm T.kX (T.F 51 rfl) T.aX uX hr (cv 0) (qQ (cx (cv 1) zQ) (ca1 (cv 2)))) (ca1 (cm T.kX (T.F 53 rfl) T.aX sW hr (cv 0) (qQ (cx (cv 1) zQ) (ca1 (cv 2)))))))))))) cQ)
  (xQ (cs1 5 S.nd (ctp T.hX (zX (yU rfl) cF rfl T.rF rfl (ca1 (cm T.kX (T.F 52 rfl) T.aX sV hr (cv 0) (qQ (cx (cv 1) zQ) (ca1 (cv 2))))))))
  (xQ (nQ (ct2 cX aQ (cx (cv 1) zQ) wQ) (kQ (gQ (pQ (qQ wQ (qQ (cv 4) (qQ (cx (cv 1) zQ) (ca1 (cv 5)))))))) cQ)
  (xQ (cs1 6 S.nd (ctp T.hX (nW rfl (S.c (by decide +kernel)) (S.k rfl rfl rfl (by decide +kernel)) (pF (cx (cv 1) zQ)) (fun _ _ _ _ _=>aJ) (fun _ _ _ _ _=>(cm T.kX (T.F 58 rfl) T.aX lT hr (cv 1) (qQ (cv 0) (ca1 (cv 3))))))))
  (kQ (gQ (pQ (qQ wQ (qQ (cv 4) (qQ (cx (cv 1) zQ) (qQ (cv 5) (qQ (cv 6) (ca1 (cm T.kX (T.F 53 rfl) T.aX sW hr (cv 0) (qQ (cx (cv 1) zQ) (ca1 (cv 2)))))))))))))))))),?_⟩
 .obtain ⟨_,_,_,_,_,_,_,_,_,_,_,_,_,rfl,_⟩:=h;rfl
 rintro ts C Q ⟨l,x,aa,tt,rr,cc,A,τ,R,N,bs,rs,ns,rfl,a5,ar,a6,bx,sf,Z,ak,bl,hc,hs,j,hR,az⟩;obtain⟨dx,mx⟩:=sf.ins;obtain⟨n1,n2,n3⟩:=sf.nd ak
 have ao:tt∉[rr,cc]:=fun z=>by
  rcases Ai.1 z with z | z
  .exact (sf.nd Z).2.2 z.symm
  .exact bl (AD.1 z)
 have aq:tt∉[rr]:=fun z=>ao (Ai.2 (.inl (AD.1 z)));have ae:cc∉[rr]:=fun z=>n3 (AD.1 z).symm
 cases d with
 |zero=>exact ar.elim
 |succ d =>
 cases l with
 |when r l1 l2=>cases a5
 |each n r G=>cases a5
 |give q n rk G =>
  obtain⟨h1,h2,F,ah,h5⟩:=ar;unfold Ln.pv;refine⟨nX mx rfl,?_⟩;refine mX rfl ?_;refine⟨q,x,aa,tt,rr,cc,A,τ,R,N,bs,ns,rfl,h1,sf,Z,ak,hc,hs,j,hR,fun C1 m1 M O=>?_⟩;have ab:=O _ _ ao Z;have U:=vM (τ:=τ) (wJ j.a) h1 hR;obtain⟨a4,aj⟩:=M.ins;refine kZ ?_;refine mX tQ ?_;refine gX (lQ _ _) ?_;refine nZ (by decide) ?_;refine mX rfl ?_;refine⟨nX aj rfl,?_⟩;refine mX rfl ?_;refine⟨rk,x,aa,tt,rr,A,τ,_,bs,ns,rfl,F,M,ab,j,U,fun C2 af B=>?_⟩
  have ax:=B _ _ aq ab;obtain⟨br,bf⟩:=af.ins;refine⟨nX bf rfl,?_⟩;refine mX rfl ?_;have bb:1+Ln.tws G<=400:=a6;refine⟨d,rfl,G,x,aa,tt,rr,A,τ,_,bs,rs,ns,rfl,ah,by lia,by lia,af,ax,j,gK (wJ j.a) F U,fun C3 av x3=>?_⟩;refine⟨zz 5 rfl,?_⟩;have:=az C3 (x3 _ _ ae (B _ _ ae m1)) av ((O.trans (iL B)).trans (iL x3));unfold gF Wt.pv at this;exact this
 |part q n g =>
  obtain⟨h1,h2,F,ah⟩:=ar
  delta Ln.pv
  refine⟨nX mx rfl,?_⟩;refine mX rfl ?_;refine⟨q,x,aa,tt,rr,cc,A,τ,R,N,bs,ns,rfl,h1,sf,Z,ak,hc,hs,j,hR,fun C1 m1 M O=>?_⟩;have ab:=O _ _ ao Z;have U:=vM (τ:=τ) (wJ j.a) h1 hR;obtain⟨a4,aj⟩:=M.ins;refine kZ ?_;refine mX tQ ?_;refine gX (lQ _ _) ?_;refine wZ (by decide) ?_;refine xX ?_
  try dsimp only
  refine uQ (i:=5) ?_;refine⟨nX aj rfl,?_⟩;refine mX (v:=.tup (g.map lM)) rfl ?_;refine⟨g,x,aa,tt,rr,A,τ,_,bs,ns,rfl,fun y hy=>(F y hy).mono (by decide),ah,M,ab,j,U,fun C2 p p0 m2 af B=>?_⟩;refine nN m2 (by delta xJ;rw[AB];lia) fun p2 J=>?_;refine cK jQ ?_;refine kZ ?_;refine mX tQ ?_;refine gX (lQ _ _) ?_;refine nZ (by decide) ?_;refine mX (v:=.str n) rfl ?_;refine⟨zz 4 rfl,?_⟩
  have bj:cc≠p2:=fun z=>by have:=B _ _ ae m1;rw[z,J] at this;cases this
  have:=az (vQ C2 p2 (.lst ((mG (xJ A τ g)).map dQ))) (by rw[yQ bj];exact B _ _ ae m1) (af.new J _) (by
   intro b o hb ai;have h2:=(O.trans (iL B)) b o hb ai;rw[yQ (fun z=>by rw[z,J] at h2;cases h2)]
   exact h2)
  unfold gF Wt.pv at this;exact this
 |plain q a0 ss D G =>
  obtain⟨h1,h2,F,ah,h5⟩:=ar;unfold Ln.pv;generalize ba:PV.tup [PV.str "plain",bD q,PV.str a0,PV.tup (List.map lM ss),PV.tup (List.map Hd.pv D),PV.tup (Ln.pvs G)]=lp
  have Y:∀(i:Int)(v:PV)(C':CH)(Q':K1),atI [PV.str "plain",bD q,PV.str a0,PV.tup (List.map lM ss),PV.tup (List.map Hd.pv D),PV.tup (Ln.pvs G)] i=some v->Q' v C'->cIx lp (.int i) C' Q':=by
   intro i v C' Q' e h;rw[<- ba];exact mX e h
  refine⟨nX mx rfl,?_⟩;refine Y 1 (bD q) _ _ rfl ?_;refine⟨q,x,aa,tt,rr,cc,A,τ,R,N,bs,ns,rfl,h1,sf,Z,ak,hc,hs,j,hR,fun C1 m1 M O=>?_⟩;have ab:=O _ _ ao Z;have U:=vM (τ:=τ) (wJ j.a) h1 hR;obtain⟨a4,aj⟩:=M.ins;refine kZ ?_;refine Y 0 (.str "plain") _ _ rfl ?_;refine gX (lQ _ _) ?_;refine wZ (by decide) ?_;refine xX ?_
  try dsimp only
  refine uQ (i:=5) ?_;refine⟨nX aj rfl,?_⟩;refine Y 3 (.tup (ss.map lM)) _ _ rfl ?_;refine⟨ss,x,aa,tt,rr,A,τ,_,bs,ns,rfl,h2.1,h2.2,M,ab,j,U,fun C2 p p0 m2 af B=>?_⟩;have bw:=h2.2;refine nN m2 (by delta xJ;rw[AB];lia) fun p2 J=>?_;refine cK jQ ?_;refine kZ ?_;refine Y 0 (.str "plain") _ _ rfl ?_;refine gX (lQ _ _) ?_;refine wZ (by decide) ?_;refine xX ?_
  try dsimp only
  have a3:=fJ (τ:=τ) (wJ j.a) h2.1 U;have bc:=B _ _ ae m1;have ax:=B _ _ aq ab;have bp:=O.trans (iL (cc:=cc) B);have av:=af.new J (.lst ((mG (xJ A τ ss)).map dQ));have a7:(vQ C2 p2 (.lst ((mG (xJ A τ ss)).map dQ))) cc=some (.dK (bY N (zU A τ q))):=Gr.new J _ _ _ bc;have ay:(vQ C2 p2 (.lst ((mG (xJ A τ ss)).map dQ))) tt=some (.dK τ):=Gr.new J _ _ _ ax;have x3:ExS [rr,cc] C (vQ C2 p2 (.lst ((mG (xJ A τ ss)).map dQ))):=fun b o hb ai=>Gr.new J _ _ _ (bp b o hb ai)
  generalize vQ C2 p2 (.lst ((mG (xJ A τ ss)).map dQ))=C3 at av a7 ay x3 ⊢;refine uQ (i:=6) ?_;refine Y 4 (.tup (D.map Hd.pv)) _ _ rfl ?_;refine nG (fun zs acc I=>∃ds es:List Hd,D=ds++es/\zs=es.map Hd.pv/\acc=(xV A τ ds).map HdV.pv/\Sf a I x aa rr A (tJ A τ ds (yK A τ ss (hW A τ q R)))/\ExS [rr] C3 I) ?_ ?_ _ _ _ ⟨[],D,rfl,rfl,rfl,av,ExS.refl⟩
  .rintro z zs acc I ⟨ds,es,W,e2,rfl,aw,x4⟩ L hL
   cases es with
   |nil=>cases e2
   |cons u es =>
    obtain⟨rfl,rfl⟩:=BN e2;obtain⟨bt,bg⟩:=aw.ins;refine⟨nX bg rfl,?_⟩;refine⟨u,x,aa,tt,rr,A,τ,_,bs,ns,rfl,F.1 u (by rw[W];exact AU _ AE),aw,x4 _ _ aq ay,j,zY (wJ j.a) (fun y hy=>F.1 y (by rw[W];exact Au _ hy)) a3,fun C5 ag x5=>?_⟩;refine hL _ _ ⟨?_,ds++[u],es,by rw[W,AY];rfl,rfl,by delta xV;rw[AO,AO];rfl,?_,x4.trans x5⟩
    .rw [AB]
     delta xV
     rw[AB];have hl:=F.2;have:ds.length<=4:=by rw[W,AG] at hl;lia
     exact An this (by decide)
    .unfold tJ at ag ⊢
     rw[BO];exact ag
  .rintro acc I ⟨ds,es,W,e2,rfl,aw,x4⟩ p4 au
   cases es with
   |cons _ _=>cases e2
   |nil =>
    rw[Aj] at W;subst W;refine cK jQ ?_;have ag:=aw.new au (.lst ((xV A τ D).map HdV.pv));have a8:(vQ I p4 (.lst ((xV A τ D).map HdV.pv))) cc=some (.dK (bY N (zU A τ q))):=Gr.new au _ _ _ (x4 _ _ ae a7);have a9:(vQ I p4 (.lst ((xV A τ D).map HdV.pv))) tt=some (.dK τ):=Gr.new au _ _ _ (x4 _ _ aq ay);have x5:ExS [rr,cc] C (vQ I p4 (.lst ((xV A τ D).map HdV.pv))):=fun b o hb ai=>Gr.new au _ _ _ ((iL (cc:=cc) x4) b o hb (x3 b o hb ai))
    generalize vQ I p4 (.lst ((xV A τ D).map HdV.pv))=C5 at ag a8 a9 x5 ⊢;obtain⟨bu,bh⟩:=ag.ins;refine Y 2 (.str a0) _ _ rfl ?_;refine⟨nX bh rfl,?_⟩;refine Y 5 (.tup (Ln.pvs G)) _ _ rfl ?_;have bb:1+Ln.tws G<=400:=a6;refine⟨d,rfl,G,x,aa,tt,rr,A,τ,_,bs,rs,ns,rfl,ah,by lia,by lia,ag,a9,j,zY (wJ j.a) F.1 a3,fun C6 bo x6=>?_⟩;refine⟨zz 6 rfl,?_⟩;have:=az C6 (x6 _ _ ae a8) bo (x5.trans (iL x6))
    unfold gF Wt.pv at this;exact this
end
theorem TBd.put(h:TBd τ)k(hi:Bd i):TBd (qJ τ k (.int i)):=by
 intro q g
 delta qJ at g
 split at g
 .obtain ⟨x,j,rfl⟩:=AN.1 g
  split
  .exact ⟨i,rfl,hi⟩
  .exact h x j
 .rcases AX.1 g with g | g
  .exact h q g
  .cases AD.1 g;exact⟨i,rfl,hi⟩
inductive ZF(a:Adr)(d:Nat)(ts:List PV)(C:CH)(Q:K1):Prop
 |mk(n:Str)(rk:Rk)(l1:List Ln)(x aa tt rr ff cc:Addr)(A:Rds)(τ:Tns)(st:DSt)(bs rs ns:List Str)(z0:ts=[.ref x,(Ln.each n rk l1).pv,.ref tt,.ref ff,.ref cc])(z1:LnOk bs rs d ns (.each n rk l1))(z2:st.1.length+(Ln.each n rk l1).tw<=400)(z3:st.2.1.length+(Ln.each n rk l1).tw<=400)(z4:τ.length+d<=50)(z5:S6 a C x aa rr tt ff cc A τ st)(z6:mB A τ bs ns)(z7:RdOk bs st.2.2)(z8:CInts st.2.1)(z9:∀C',S6 a C' x aa rr tt ff cc A τ (sX A (.each n rk l1) τ st)->ExS [ff,cc,rr] C C'->Q .non C'):ZF a d ts C Q
section
variable {P:Program}{w:World}{K:Dj}{mg:Str->Option Value}{base:Heap}{a:Adr}
theorem W7(T:Txt P w K mg a)(d k:Nat)(h7:7<=k)(zK:FnOk P w K mg base CX0 k (a.f 54) (a.d 54) ["self","lines","turns","row","counts"] (spC K (gBrL a d))):FnOk P w K mg base CX0 (k+1) (a.f 55) (a.d 55) ["self","line","turns","row","counts"] (spC K (ZF a d)):=by
 have S:=(T.F 55 rfl).s;have uX:=(xM (base:=base) T 2).mono (show 6<=k by lia)
 refine(T.F 55 rfl).ok (fun ts C R h=>?_) fun a3 A a9 s H E hr=>⟨_,(xQ (cs1 5 S.nd (zX (jE rfl) Ki rfl T.z_min rfl (qQ (rW (v:=.int 8) rfl T.Xi ⟨_,rfl⟩ (fun _=>.int _)) (ca1 (cm T.kX (T.F 51 rfl) T.aX uX hr (cv 0) (qQ (cx (cv 1) zQ) (ca1 (cv 2))))))))
  (kQ (lH PassesOwn.never rfl rfl T.aG (ca1 (cv 5)) (cg1 6 S.nd) (xQ (cs1 7 S.nd (aZ ZW VA rfl T.kN rfl (ca1 (cv 2))))
  (xQ (rV (eX hr) (cv 7) (cx (cv 1) zQ) (cv 6))
  (kQ (zZ (cm T.kX (T.F 54 rfl) T.aX zK hr (cv 0) (qQ (cx (cv 1) zQ) (qQ (cv 7) (qQ (cv 3) (ca1 (cv 4))))))))))))),?_⟩
 .obtain ⟨_,_,_,_,_,_,_,_,_,_,_,_,_,_,_,rfl,_⟩:=h;rfl
 rintro ts C Q ⟨n,B,g,x,aa,tt,rr,ff,cc,A,τ,ag,bs,rs,ns,rfl,hu,hF,hN,a8,N,G,R1,ak,ax⟩
 cases d with
 |zero=>exact hu.elim
 |succ d' =>
 refine kH hu fun ae o1 _=>?_;have ep:(Ln.each n B g).pv=.tup [.str "each",.str n,B.pv,.tup (Ln.pvs g)]:=by rw[Ln.pv]
 have a5:(Ln.each n B g).tw=8 * Ln.tws g:=by rw[Ln.tw]
 have L:mB A τ bs []:=⟨G.a,G.t,(fun _ z=>nomatch z),G.b⟩;obtain⟨dx,mx⟩:=N.sf.ins;refine⟨nX mx rfl,yX ep rfl ⟨B,x,aa,tt,rr,A,τ,_,bs,[],rfl,ae.mono (by decide),N.sf,N.mt,L,R1,fun C2 ay e2=>?_⟩⟩
 apply min_s
 have aq:=gN L.a L.t L.h ae;unfold Bd at aq;refine⟨by split<;>lia,by split<;>lia,?_⟩;have ao:=gK (τ:=τ) (wJ G.a) ae R1;show eY _ _ _ ((List.range (vH (B.val A τ))).map fun k=>PV.int (k:Nat)) _ _;generalize ah:vH (B.val A τ)=J;have a7:J<=8 :=ah▸sD _
 let f:DSt->Nat->DSt:=fun st k=>rQ A g (qJ τ (.inr n) (.int (k:Nat))) st
 let I:DSt:=(ag.1,ag.2.1,B.rds A τ ag.2.2)
 refine uJ (fun zs ρ C'=>∃j x6 x7,j<=J/\zs=((List.range J).drop j).map (fun k:Nat=>PV.int (k:Nat))/\ρ=[some (.ref x),some (Ln.each n B g).pv,some (.ref tt),some (.ref ff),some (.ref cc),some (.int (if B.val A τ < 8 then B.val A τ else 8)),x6,x7]/\S6 a C' x aa rr tt ff cc A τ ((List.range j).foldl f I)/\ExS [ff,cc,rr] C C') ?_ ?_ _ _ _ ⟨0,_,_,Ab _,rfl,rfl,(N.rd e2 ay),oA e2⟩
 .rintro z zs ρ D ⟨j,y9,a0,hj,M,rfl,F,U⟩ L3 ar
  obtain⟨av,rfl,rfl⟩:=sM M;refine uQ (dictK_s F.mt fun q Z=>kZ (yX ep rfl (zG jQ rfl (by lia) ?_)));have ab:∀b o,D b=some o->b≠q:=fun b o h z=>by rw[z,Z] at h;cases h
  have W:=xU (f:=f) (m:=fun st=>st.1.length) (fun x k=>(oJ A g _ x).1) (List.range j) I;have Y:=xU (f:=f) (m:=fun st=>st.2.1.length) (fun x k=>(oJ A g _ x).2) (List.range j) I;rw[Am] at W Y
  have ai:j * Ln.tws g+Ln.tws g<=8 * Ln.tws g:=by
   have:(j+1) * Ln.tws g<=8 * Ln.tws g:=Bz _ (by lia)
   rwa [Nat.add_mul,Nat.one_mul] at this
  have W:=W;have Y:=Y;have R3:RdOk bs ((List.range j).foldl f I).2.2:=wY (P:=fun st:DSt=>RdOk bs st.2.2) (fun x k p=>iZ (wJ G.a) o1 p) _ _ ao;have az:TBd (qJ τ (.inr n) (.int (j:Nat))):=G.t.put _ (by delta Bd;lia)
  have au:mB A (qJ τ (.inr n) (.int (j:Nat))) bs [n]:=⟨G.a,az,fun m ai=>by
   cases AD.1 ai
   rw[dE,Ac rfl];rfl,G.b⟩
  have a6:(qJ τ (.inr n) (.int (j:Nat))).length<=τ.length+1:=qD _ _ _;have x4:ExS [ff,cc,rr] D (vQ (vQ D q (.dK τ)) q (.dK (qJ τ (.inr n) (.int (j:Nat))))):=(ExS.refl.put Z _).put Z _;have O:∀b o,D b=some o->vQ (vQ D q (.dK τ)) q (.dK (qJ τ (.inr n) (.int (j:Nat)))) b=some o:=fun b o h=>by rwa [yQ (ab b o h),yQ (ab b o h)]
  have m4:vQ (vQ D q (.dK τ)) q (.dK (qJ τ (.inr n) (.int (j:Nat)))) q=some (.dK (qJ τ (.inr n) (.int (j:Nat)))):=jQ;generalize vQ (vQ D q (.dK τ)) q (.dK (qJ τ (.inr n) (.int (j:Nat))))=C4 at x4 O m4 ⊢;have aj:=F.sf.keep' (fun b o _ h=>O b o h) Bn Bn Bn;obtain⟨a4,aw⟩:=aj.ins;refine⟨nX aw rfl,yX ep rfl ⟨d',rfl,g,x,aa,q,rr,ff,cc,A,_,_,bs,rs,[n],rfl,o1,by lia,by lia,by lia,(⟨aj,m4,O _ _ F.mf,O _ _ F.mc,Ne.symm (ab _ _ F.mc)⟩),au,R3,(wY (fun x k p=>oG A g _ x p) _ _ ak),fun C5 af e5=>?_⟩⟩
  refine ar _ _ ⟨j+1,_,_,av,rfl,rfl,?_,U.trans (x4.trans e5)⟩;have ef:(List.range (j+1)).foldl f I=f ((List.range j).foldl f I) j:=by rw[List.range_succ,BO];rfl
  exact ef▸⟨af.sf,(x4.trans e5) _ _ F.nt F.mt,af.mf,af.mc,F.tc⟩
 .rintro ρ D ⟨j,y9,a0,hj,M,rfl,F,U⟩
  have ej:j=J:=by
   rcases Cq j J with h | h
   .rw [Al (by rwa [Am])] at M
    cases M
   .lia
  subst ej;refine ax D ?_ U
  rwa [sX,ah]
theorem QQ(T:Txt P w K mg a)d k(h7:7<=k)(zK:FnOk P w K mg base CX0 k (a.f 54) (a.d 54) ["self","lines","turns","row","counts"] (spC K (gBrL a d)))(pT:FnOk P w K mg base CX0 k (a.f 56) (a.d 56) ["self","line","turns","counts"] (spC K (YO a d)))(nM:FnOk P w K mg base CX0 k (a.f 55) (a.d 55) ["self","line","turns","row","counts"] (spC K (ZF a d))):
  FnOk P w K mg base CX0 (k+1) (a.f 54) (a.d 54) ["self","lines","turns","row","counts"] (spC K (gBr a d)):=by
 have S:=(T.F 54 rfl).s;have uX:=(xM (base:=base) T 2).mono (show 6<=k by lia)
 refine(T.F 54 rfl).ok (fun ts C R h=>?_) fun aw A a4 s H E hr=>⟨_,(kQ (nY PassesOwn.never rfl (cv 1) (cg1 5 S.nd) (kQ (nQ (ct2 cX aQ (cx (cv 5) zQ) wQ) (xQ (cs1 6 S.nd (sR (ct2 cX aQ (cm T.kX (T.F 51 rfl) T.aX uX hr (cv 0) (qQ (cx (cv 5) zQ) (ca1 (cv 2)))) zQ) (cx (cv 5) zQ) (cx (cv 5) zQ)))
  (kQ (zZ (cm T.kX (T.F 54 rfl) T.aX zK hr (cv 0) (qQ (cv 6) (qQ (cv 2) (qQ (cv 3) (ca1 (cv 4))))))))) (kQ (nQ (ct2 cX aQ (cx (cv 5) zQ) wQ) (kQ (zZ (cm T.kX (T.F 55 rfl) T.aX nM hr (cv 0) (qQ (cv 5) (qQ (cv 2) (qQ (cv 3) (ca1 (cv 4)))))))) (kQ (zZ (cap (cv 3) (cm T.kX (T.F 56 rfl) T.aX pT hr (cv 0) (qQ (cv 5) (qQ (cv 2) (ca1 (cv 4)))))))))))))),?_⟩
 .obtain ⟨_,_,_,_,_,_,_,_,_,_,_,_,_,rfl,_⟩:=h;rfl
 rintro ts C Q ⟨J,x,aa,tt,rr,ff,cc,A,τ,st,bs,rs,ns,rfl,ao,hF,hN,ai,hE,I,hR,hC,av⟩;refine mF rfl (uJ (fun zs ρ C'=>∃ds D x5 x6,J=ds++D/\zs=Ln.pvs D/\ρ=[some (.ref x),some (.tup (Ln.pvs J)),some (.ref tt),some (.ref ff),some (.ref cc),x5,x6]/\S6 a C' x aa rr tt ff cc A τ (rQ A ds τ st)/\ExS [ff,cc,rr] C C') ?_ ?_ _ _ _ ⟨[],J,_,_,rfl,rfl,rfl,by rw[jV];exact hE,ExS.refl⟩)
 .rintro z zs ρ C1 ⟨ds,D,x5,x6,e,hz,rfl,j,e1⟩ L hL
  cases D with
  |nil=>cases hz
  |cons u D =>
  obtain⟨rfl,rfl⟩:=BN hz;have hu:=ao u (e▸AU _ AE);have a3:Ln.tws J=Ln.tws ds+(u.tw+Ln.tws D):=by rw[e,Ln.tws_app];rfl
  have G:=oJ A ds τ st;have U:RdOk bs (rQ A ds τ st).2.2:=iZ (wJ I.a) (fun x hx=>ao x (e▸Au _ hx)) hR;have N:=oG A ds τ st hC
  have Y:∀C' x5 x6,S6 a C' x aa rr tt ff cc A τ (sX A u τ (rQ A ds τ st))->ExS [ff,cc,rr] C1 C'->L [some (.ref x),some (.tup (Ln.pvs J)),some (.ref tt),some (.ref ff),some (.ref cc),x5,x6] C':=by
   intro C' y5 y6 h1 h2;refine hL _ _ ⟨ds++[u],D,y5,y6,by rw[AY];exact e,rfl,rfl,?_,e1.trans h2⟩
   rwa [Zq,pZ,jV]
  clear hL;generalize a0:rQ A ds τ st=q at j G U N Y;obtain⟨ax,ae⟩:=j.sf.ins
  by_cases M:isTh u=true
  .refine zT (th_pv M) fun wd rest ep n1 n2=>yX ep tQ (gX (lQ _ _) (wZ (by rw[n1];rfl) ?_))
   refine yX ep tQ (gX (lQ _ _) (wZ (by rw[n2];rfl) ?_));refine⟨pW j.mf,⟨nX ae rfl,⟨u,x,aa,tt,rr,cc,A,τ,_,_,bs,rs,ns,rfl,M,hu,by lia,ai,j.sf,j.mt,j.mc,j.tc,N,by have:=G.2;lia,I,U,fun C2 m2 ab x2=>?_⟩⟩⟩
   have au:ff∉[rr,cc]:=fun z=>by
    simp only[List.mem_cons,List.not_mem_nil,or_false] at z
    rcases z with z | z
    .exact j.fr z
    .exact j.fc z
   have aj:=x2 _ _ au j.mf
   apply vL aj (by rw[Wt.pvs_len];have:=G.1;exact An (show q.1.length<=400 by lia) (by decide))
   have af:=ab.nl aj;refine Y _ _ _ ?_ ((J5 x2).at (by simp) _);rw[show q=(q.1,q.2.1,q.2.2) from rfl,(Zp A τ u q.1 q.2.1 q.2.2 M)];refine⟨ab.keep' (ExS.refl.at AE _) (fun z=>af.1 (AD.1 z)) (fun z=>af.2.1 (AD.1 z)) (fun z=>af.2.2 (AD.1 z)),?_,by rw[jQ,Wt.pvs_app];rfl,by rw[yQ (Ne.symm j.fc)];exact m2,j.tc⟩;exact(yQ j.tf)▸(J5 x2) _ _ j.nt j.mt
  .cases u with
   |plain k a5 s hs J=>exact absurd rfl M
   |part k n g=>exact absurd rfl M
   |give k n r J=>exact absurd rfl M
   |when B F Z =>
    cases d with
    |zero=>exact hu.elim
    |succ d' =>
    obtain⟨aq,⟨o1,_⟩,o2,_⟩:=hu;have ep:(Ln.when B F Z).pv=.tup [.str "when",B.pv,.tup (Ln.pvs F),.tup (Ln.pvs Z)]:=by rw[Ln.pv]
    have az:(Ln.when B F Z).tw=Ln.tws F+Ln.tws Z:=by rw[Ln.tw]
    refine yX ep tQ (gX (lQ _ _) (nZ rfl (uQ (if_i ⟨nX ae rfl,yX ep rfl ⟨B,x,aa,tt,rr,A,τ,_,bs,ns,rfl,aq.mono (by decide),j.sf,j.mt,I,U,fun C2 ab e2=>?_⟩⟩))));have ah:=gK (τ:=τ) (wJ I.a) aq U;have ar:=j.rd e2 ab;obtain⟨ay,ak⟩:=ab.ins
    apply gX (rX _ _)
    by_cases h0:B.val A τ=0
    .refine nZ (Af h0) (yX ep rfl ⟨nX ak rfl,⟨d',rfl,Z,x,aa,tt,rr,ff,cc,A,τ,(q.1,q.2.1,B.rds A τ q.2.2),bs,rs,ns,rfl,o2,by have:=G.1;lia,by have:=G.2;lia,by lia,ar,I,ah,N,fun O ag W=>?_⟩⟩)
     refine Y O _ _ ?_ ((oA e2).trans W)
     rwa [sX,Ac h0]
    .refine wZ (AR h0) (yX ep rfl ⟨nX ak rfl,⟨d',rfl,F,x,aa,tt,rr,ff,cc,A,τ,(q.1,q.2.1,B.rds A τ q.2.2),bs,rs,ns,rfl,o1,by have:=G.1;lia,by have:=G.2;lia,by lia,ar,I,ah,N,fun O ag W=>?_⟩⟩)
     refine Y O _ _ ?_ ((oA e2).trans W)
     rwa [sX,Ad h0]
   |each n B F =>
    have ep:(Ln.each n B F).pv=.tup [.str "each",.str n,B.pv,.tup (Ln.pvs F)]:=by rw[Ln.pv]
    refine yX ep tQ (gX (lQ _ _) (wZ rfl (yX ep tQ (gX (lQ _ _) (nZ rfl ⟨nX ae rfl,⟨n,B,F,x,aa,tt,rr,ff,cc,A,τ,q,bs,rs,ns,rfl,hu,by have:=G.1;lia,by have:=G.2;lia,ai,j,I,U,N,fun O ag W=>?_⟩⟩)))));exact Y O _ _ ag W
 .rintro ρ C1 ⟨ds,D,x5,x6,e,hz,rfl,j,e1⟩
  cases D with
  |cons u D=>cases hz
  |nil =>
   rw[Aj] at e;subst e;exact av C1 j e1
theorem ok_br(T:Txt P w K mg a)d:FnOk P w K mg base CX0 (3 * d+9) (a.f 54) (a.d 54) ["self","lines","turns","row","counts"] (spC K (gBr a d)):=by
 induction d with
 |zero =>
  exact QQ T 0 8 (by decide) (fV fun ts C Q ⟨d',e,_⟩=>by lia) (fV fun ts C Q z=>by obtain⟨l,x,aa,tt,rr,cc,A,τ,R,N,bs,rs,ns,_,_,h,_⟩:=z;exact h) (fV fun ts C Q z=>by obtain⟨n,G,F,x,aa,tt,rr,ff,cc,A,τ,J,bs,rs,ns,_,h,_⟩:=z;exact h)
 |succ d j =>
  have I:=WZ T j
  have B:YR a (d+1)=gRow a d:=by
   funext ts C Q
   refine propext ⟨fun⟨q,z,h⟩=>?_,fun h=>⟨d,rfl,h⟩⟩;cases Aw z;exact h
  have g:gBrL a (d+1)=gBr a d:=by
   funext ts C Q
   refine propext ⟨fun⟨q,z,h⟩=>?_,fun h=>⟨d,rfl,h⟩⟩;cases Aw z;exact h
  have D:=W7 T (d+1) (3 * d+9) (Cm _ _) (by rwa [g]);have:=QQ T (d+1) (3 * d+9+1+1) (Cm _ _) (g▸j.mono (by lia)) (ok_want T (d+1) (3 * d+9+1) (Cm _ _) (by rwa [B])) (D.mono (B0 _));have e:3 * d+9+1+1+1=3 * (d+1)+9:=by lia
  rwa [e] at this
end
def stOf:Key->Str
 |.inr x=>x
 |_=>""
def ciOf:PV->Int
 |.int i=>i
 |_=>0
noncomputable def rdC(g:List Key×PV):List Str×Int:=(g.1.map stOf,ciOf g.2)
structure Pc where
 reads:List (List Str×Int)
 row:List Wt
 works:List (Str×Int)
noncomputable def Pc.pv(x:Pc):PV:=.tup [.tup (x.reads.map dY),.tup (Wt.pvs x.row),.tup (x.works.map dQ)]
noncomputable def oU(A:Rds)(x:Pt):Rds:=yK A [] x.works (rQ A x.ls [] ([],[],[])).2.2
noncomputable def bJ(A:Rds)(x:Pt):Pc:=⟨KW ((oU A x).map rdC),(rQ A x.ls [] ([],[],[])).1,xJ A [] x.works⟩
theorem YC(h:g j C fun x C1=>∃b kvs,x=.ref b/\C1 b=some (.dT kvs)/\Q (.vw b) C1)(F:∀(B D:K1),(∀v C1,B v C1->D v C1)->g j C B->g j C D):iH g j C Q:=by
 delta iH
 refine F _ _ ?_ h;rintro v C1 ⟨b,kvs,rfl,m,q⟩;dsimp only
 rwa [m]
theorem KD(m:C p=some (.dT kvs))(e:tiK kvs=some cs)(h:cs.length < 64)(q:∀g,C g=none->Q (.ref g) (vQ C g (.lst ((KW cs).map dY)))):aD [.vw p] C Q:=by
 delta aD
 dsimp only;rw[m];dsimp only;exact e▸⟨h,q⟩
theorem Xl g j(h:∀v C1,g v C1->j v C1)(q:Z0 c f x C g):Z0 c f x C j:=by
 delta Z0 at q ⊢
 split at q
 .split at q
  .refine ⟨q.1,?_⟩
   have q:=q.2
   split at q
   .exact h _ _ q
   .exact q
  .exact q
 .exact q
theorem vN g j(h:∀v C1,g v C1->j v C1)(q:cZ i B C g):cZ i B C j:=by
 delta cZ at q ⊢
 split at q
 .exact h _ _ q
 .exact q
theorem ti_rd: ∀{R},(∀k∈R.map (·.1),∃s n,k=qK s n/\jL bs s n)->ABd R->tiK R=some (R.map rdC)
 |[],_,_=>rfl
 |x::R,h1,h2=>by
  refine wB (h1 x.1 AE) fun s n e _=>oQ (h2 x AE) fun i j _=>?_;have q:=ti_rd (fun k g=>h1 k (AH _ g)) fun B g=>h2 B (AH _ g);obtain⟨k,v⟩:=x;cases e;cases j;unfold tiK;rw[q]
  rfl
section
variable {P:Program}{w:World}{K:Dj}{mg:Str->Option Value}{base:Heap}{a:Adr}
inductive Y0(ts:List PV)(C:CH)(Q:K1):Prop
 |mk(x:Pt)(aa:Addr)(A:Rds)(rs:List Str)(cap:Nat)(z0:ts=[x.pv,.ref aa])(z1:cU rs cap x)(z2:C aa=some (.dT A))(z3:ABd A)(z4:∀C',Gr C C'->Q (bJ A x).pv C'):Y0 ts C Q
theorem QP(T:Txt P w K mg a):FnOk P w K mg base CX0 29 (a.f 10) (a.d 10) ["part","answers"] (spC K Y0):=by
 have S:=(T.F 10 rfl).s;have gL:=(ok_init (base:=base) T).mono (show 1<=27 by decide);have sW:=WZ T (ok_br (base:=base) T 6);have sV:=(sP (base:=base) T).mono (show 7<=28 by decide)
 refine(T.F 10 rfl).ok (fun ts C R h=>?_) fun ax A a5 s H E D=>⟨_,(xQ (cs1 2 S.nd (Kh T.K8 gL D rfl T.aX (T.F 50 rfl).b QG (ca1 (cv 1))))
  (xQ (cs1 3 S.nd (cm T.kX (T.F 53 rfl) T.aX sW D (cv 2) (qQ (cx (cv 0) zQ) (ca1 oH))))
  (xQ (cs1 4 S.nd (ctp T.hX (cm T.kX (T.F 52 rfl) T.aX sV D (cv 2) (qQ (cx (cv 0) zQ) (ca1 oH)))))
  (kQ (gQ (pQ (qQ (ctp T.hX (zX (wI rfl) (XA (kB D)) rfl T.rF rfl (ca1 (Vx (dF T.kX T.fY (cv 2)))))) (qQ (cv 3) (ca1 (cv 4)))))))))),?_⟩
 .obtain ⟨_,_,_,_,_,rfl,_⟩:=h;rfl
 rintro ts C Q ⟨j,aa,A,rs,cap,rfl,B,L,I,q⟩;have J:mB A [] (j.first.map (·.1)) []:=⟨I,(fun _ z=>nomatch z),(fun _ z=>nomatch z),by rw[AB];exact B.fl⟩;have U:RdOk (j.first.map (·.1)) []:=⟨BZ,(fun _ z=>nomatch z),(fun _ z=>nomatch z)⟩;intro x dx af ay a4;have ao:aa≠x:=fun z=>by rw[z,af] at L;cases L
 refine⟨x,dx,aa,A,rfl,jQ,by rw[yQ ao];exact L,fun C1 rr ar M x1=>⟨rfl,?_⟩⟩
 try dsimp only
 have ag:Gr C C1:=fun b o h=>by
  have:b≠x:=fun z=>by rw[z,af] at h;cases h
  exact x1 b o (fun z=>this (AD.1 z)) (by rwa [yQ this])
 have au:C rr=none:=by
  rwa [yQ (Ne.symm M.nx)] at ar
 have O:∀{C2 F:CH},Gr C C2->ExS [rr] C2 F->Gr C F:=fun g e b o h=>e b o (fun z=>by rw[AD.1 z,au] at h;cases h) (g b o h);obtain⟨az,ai⟩:=M.ins;refine uQ ⟨nX ai rfl,mX rfl ?_⟩;intro p Y;have av:=M.new Y (.dK []);have a6:=B.tw;refine⟨j.ls,x,aa,p,rr,A,[],[],_,rs,[],rfl,B.ls,by lia,by decide,av,jQ,J,U,fun F ab x3=>?_⟩;have N:=iZ (τ:=[]) (st:=([],[],[])) (wJ I) B.ls U
 have ah:=O (ag.trans (Gr.new Y _)) x3;obtain⟨a0,aj⟩:=ab.ins;refine uQ ⟨nX aj rfl,mX rfl ?_⟩;intro p2 Z;have aw:=ab.new Z (.dK []);refine⟨j.works,x,aa,p2,rr,A,[],_,_,[],rfl,fun y hy=>(B.wk y hy).mono (by decide),B.wl,aw,jQ,J,N,fun C5 l l0 m5 ae x5=>?_⟩;have g5:=O (ah.trans (Gr.new Z _)) x5;refine cK m5 ?_;obtain⟨a3,ak⟩:=ae.ins;have G:RdOk (j.first.map (·.1)) (oU A j):=fJ (wJ I) B.wk N
 have W:C5 rr=some (.dT (oU A j)):=ae.ask;have hb:=J.b;refine YC ?_ ?_
 .refine iC ak rfl ⟨rr,oU A j,rfl,W,KD W (ti_rd G.ks G.vs) (by rw[AB];have:=G.len;lia) fun p6 aq=>?_⟩
  refine cK jQ ⟨zz 3 rfl,?_⟩;exact q _ (g5.trans (Gr.new aq _))
 .intro Q1 Q2 h q
  exact vN _ _ (fun v C1 q=>Xl _ _ h q) q
end
theorem qZ(h:u r (g.set i (some t)) C Q):dCons (Gi i) u (t::r) g C Q:=h
theorem yB(h:Q g C):dNil [] g C Q:=h
def kOf(c:Str×Int):Key×PV:=(.inr c.1,.int c.2)
noncomputable def zD(ds:List (Str×Int))(n:Str)(i:Int):List (Str×Int):=if (ds.any fun c=>decide (c.1=n))=true then ds.map fun c=>if c.1=n then (c.1,i) else c else ds++[(n,i)]
def lZ(cs ds:List (Str×Int)):List (Str×Int):=ds.foldl (fun acc c=>zD acc c.1 c.2) cs
theorem dA: ((Sum.inr x:Key)=Sum.inr y)↔x=y:=⟨fun h=>Sum.inr.inj h,fun h=>by rw[h]⟩
theorem put_k ds n i:qJ (ds.map kOf) (.inr n) (.int i)=(zD ds n i).map kOf:=by
 have h1:((ds.map kOf).any fun g=>decide (g.1=(Sum.inr n:Key)))=ds.any fun c=>decide (c.1=n):=by
  rw[List.any_map]
  congr 1
  funext c
  exact decide_eq_decide.2 dA
 have h2:((ds.map kOf).map fun g=>if g.1=(Sum.inr n:Key) then (g.1,PV.int i) else g)=(ds.map fun c=>if c.1=n then (c.1,i) else c).map kOf:=by
  rw[BJ,BJ]
  congr 1
  funext c
  show(if (Sum.inr c.1:Key)=Sum.inr n then ((Sum.inr c.1:Key),PV.int i) else kOf c)=kOf (if c.1=n then (c.1,i) else c)
  by_cases e:c.1=n
  .rw [Ac (dA.2 e),Ac e];rfl
  .rw [Ad (fun z=>e (dA.1 z)),Ad e]
 delta qJ zD
 rw[h1]
 by_cases b:(ds.any fun c=>decide (c.1=n))=true
 .rw [Ac b,Ac b,h2]
 .rw [Ad b,Ad b,AO];rfl
theorem JL ds:∀cs,gW (cs.map kOf) (ds.map kOf)=(lZ cs ds).map kOf:=by
 induction ds with
 |nil=>intro cs;rfl
 |cons d ds g =>
  intro cs;show gW (qJ (cs.map kOf) (.inr d.1) (.int d.2)) (ds.map kOf)=(lZ (zD cs d.1 d.2) ds).map kOf;rw[put_k,g]
theorem iE:∀ds:List (Str×Int),lW (ds.map dQ)=some (ds.map kOf)
 |[]=>rfl
 |d::ds=>by
  show(match pV (.str d.1),lW (ds.map dQ) with | some k,some ps=>some ((k,PV.int d.2)::ps) | _,_=>none)=_;rw[iE ds];rfl
theorem si_k:∀ds,siK (ds.map kOf)=some ds
 |[]=>rfl
 |d::ds=>by
  show(siK (ds.map kOf)).map _=_;rw[si_k ds];rfl
theorem put_len ds n i:(zD ds n i).length<=ds.length+1:=by
 delta zD
 split
 .rw [AB];lia
 .rw [AG,AQ];exact AJ _
theorem eV ds:∀cs,(lZ cs ds).length<=cs.length+ds.length:=by
 induction ds with
 |nil=>intro cs;exact AJ _
 |cons d ds g =>
  intro cs;have h1:=g (zD cs d.1 d.2);have h2:=put_len cs d.1 d.2;show(lZ (zD cs d.1 d.2) ds).length<=_;rw[AL]
  lia
theorem zA cs:(mG cs).length=cs.length:=by
 delta mG
 rw[AB]
 by_cases h:0 < cs.length
 .have:=(vY (X2 cs) cs.length h).length_eq
  rw[this,Am]
 .have e:cs.length=0:=by lia
  rw[e,Wf];rfl
theorem Wq ds n i:(zD ds n i).map (·.1)=if n∈ds.map (·.1) then ds.map (·.1) else ds.map (·.1)++[n]:=by
 have h:(ds.any fun c=>decide (c.1=n))=true↔n∈ds.map (·.1):=by
  rw[DJ,AN]
  constructor
  .rintro ⟨c,h1,h2⟩;exact⟨c,h1,Aa h2⟩
  .rintro ⟨c,h1,h2⟩;exact⟨c,h1,Af h2⟩
 delta zD
 by_cases b:(ds.any fun c=>decide (c.1=n))=true
 .rw [Ac b,Ac (h.1 b),BJ]
  congr 1
  funext c
  show(if c.1=n then (c.1,i) else c).1=c.1
  split<;>rfl
 .rw [Ad b,Ad (fun z=>b (h.2 z)),AO];rfl
theorem put_nd(h:(ds.map (·.1)).Nodup)n i:((zD ds n i).map (·.1)).Nodup:=by
 rw[Wq]
 split
 .exact h
 .next z =>
  rw[Cz]
  exact⟨h,Az.2 ⟨Bn,BZ⟩,fun x g y j=>by
   cases AD.1 j
   exact fun e=>z (e▸g)⟩
theorem Q3 ds:∀{cs},(cs.map (·.1)).Nodup->((lZ cs ds).map (·.1)).Nodup:=by
 induction ds with
 |nil=>intro cs h;exact h
 |cons d ds g=>intro cs h;exact g (put_nd h d.1 d.2)
theorem val_k{cs:List (Str×Int)}(h:(cs.map (·.1)).Nodup)(g:c∈cs):gJ (cs.map kOf) (.inr c.1)=some (.int c.2):=by
 induction cs with
 |nil=>cases g
 |cons d cs q =>
  have h':=Az.1 h;show(match decide ((Sum.inr d.1:Key)=Sum.inr c.1) with | true=>some (kOf d) | false=>(cs.map kOf).find? fun j=>decide (j.1=Sum.inr c.1)).map (fun j:Key×PV=>j.2)=_
  rcases Ai.1 g with rfl | g
  .rw [Af rfl];rfl
  .exact (AR (fun z=>(fun e=>h'.1 (AN.2 ⟨c,g,e.symm⟩)) (dA.1 z)))▸q h'.2 g
theorem Gg(h:ds.length<=1000)(q:∀p,C p=none->Q (.ref p) (vQ C p (.dK ((lZ [] ds).map kOf)))):zN [.tup (ds.map dQ)] C Q:=by
 delta zN
 show(match lW (ds.map dQ) with | some ps=>ps.length<=sizeLine/\∀p,C p=none->Q (.ref p) (vQ C p (.dK (gW [] ps))) | none=>False);rw[iE];dsimp only;rw[show gW [] (ds.map kOf)=(lZ [] ds).map kOf from JL ds []];exact⟨by rw[AB];exact Ah h (by decide),q⟩
theorem putD_s(m:C p=some (.dK (cs.map kOf)))(h:cs.length<=1000)(q:Q (vQ C p (.dK ((zD cs n i).map kOf)))):aR (.ref p) (.str n) (.int i) C Q:=by
 delta aR
 show(match C p,pV (.str n) with | some (.dK kvs),some k=>kvs.length < sizeLine/\Q (vQ C p (.dK (qJ kvs k (.int i)))) | _,_=>False);rw[m];show(cs.map kOf).length < sizeLine/\Q (vQ C p (.dK (qJ (cs.map kOf) (.inr n) (.int i))));rw[put_k,AB];exact⟨An h (by decide),q⟩
theorem dix_s(m:dOf (C p)=some kvs)(g:pV y=some k)(j:gJ kvs k=some v)(q:Q v C):gT (.ref p) y C Q:=by
 delta gT
 show(match dOf (C p),pV y with | some kvs,some k=>(match gJ kvs k with | some v=>Q v C | none=>False) | _,_=>False);rw[m,g];dsimp only
 rwa [j]
theorem Gs(L:(cs.map (·.1)).Nodup)(G:cs.length<=1000)(F:B[j]?=some (some (.ref d)))(m:C d=some (.fK (cs.map kOf)))(q:∀p,C p=none->R (.ref p) (vQ C p (.lst (cs.map dQ))))zs:
  ∀g:List (Str×Int),cs=g++zs->rZ eD (ZY (rK (cZ 0) (rK (cOp gT (cZ (j+1)) (cZ 0)) qL))) B R (zs.map fun c=>PV.str c.1) (g.map dQ) C:=by
 induction zs with
 |nil =>
  intro g e;rw[Aj] at e;subst e;exact q
 |cons z zs J =>
  intro g e;have I:z∈cs :=e▸AU _ AE;show cZ (j+1) (some (.str z.1)::B) C fun x C1=>cZ 0 (some (.str z.1)::B) C1 fun y C2=>gT x y C2 fun v D=>[PV.str z.1,v].length<=sizeLine/\(g.map dQ).length < sizeLine/\rZ eD (ZY (rK (cZ 0) (rK (cOp gT (cZ (j+1)) (cZ 0)) qL))) B R (zs.map fun c=>PV.str c.1) (g.map dQ++[.tup [.str z.1,v]]) D
  delta cZ
  rw[show(some (PV.str z.1)::B)[j+1]?=some (some (.ref d)) from F];refine dix_s (by rw[m];rfl) rfl (val_k L I) ⟨zz 2 rfl,?_,?_⟩
  .rw [AB]
   have:g.length<=cs.length:=by rw[e,AG];lia
   exact An (Ah this G) (by decide)
  .rw [show g.map dQ++[.tup [.str z.1,.int z.2]]=(g++[z]).map dQ by rw[AO];rfl]
   exact J (g++[z]) (by rw[e,AY];rfl)
theorem Yr:∀cs:List (Str×Int),((cs.map kOf).map fun p=>fW p.1)=cs.map fun c=>PV.str c.1
 |[]=>rfl
 |c::cs=>by
  show PV.str c.1::((cs.map kOf).map fun p=>fW p.1)=_;rw[Yr cs];rfl
theorem compD_s{cs:List (Str×Int)}(L:(cs.map (·.1)).Nodup)(G:cs.length<=1000)(D:F[j]?=some (some (.ref d)))(m:C d=some (.dK (cs.map kOf)))(q:∀p C',C' p=some (.lst (cs.map dQ))->Gr C C'->Q (.ref p) C'):
  lI (cZ j) eD (ZY (rK (cZ 0) (rK (cOp gT (cZ (j+1)) (cZ 0)) qL))) F C Q:=by
 delta lI
 have J:∀Q,Q (.ref d) C->cZ j F C Q:=fun Q h=>by delta cZ;rwa [D]
 apply J _
 dsimp only;rw[m];dsimp only;rw[Yr];refine Gs L G D jQ (fun p g=>?_) cs [] rfl;have B:p≠d:=fun e=>by subst e;rw[jQ] at g;cases g
 have I:C p=none:=by rwa [yQ B] at g
 refine⟨by rw[yQ (Ne.symm B),jQ],q p _ (by rw[yQ B,jQ]) fun b o e=>?_⟩
 by_cases h1:b=d
 .subst h1;rw[m] at e;cases e;exact jQ
 .by_cases h2:b=p
  .subst h2;rw[I] at e;cases e
  .rwa [yQ h1,yQ h2,yQ h1]
def mW(ds g:List (Str×Int)):List (Str×Int):=mG (lZ (lZ [] ds) g)
theorem zM ds g:(mW ds g).length<=ds.length+g.length:=by
 delta mW
 rw[zA];have h1:=eV g (lZ [] ds);have h2:=eV ds [];have:([]:List (Str×Int)).length=0:=rfl
 lia
def SBd(cs:List (Str×Int)):Prop:=∀c∈cs,Bd c.2
theorem QI(h:c∈mG cs):c∈cs:=by
 obtain⟨i,hi,rfl⟩:=AN.1 h
 have g:0 < cs.length:=by
  rcases Nat.eq_zero_or_pos cs.length with z | z
  .rw [z,Wf] at hi;cases hi
  .exact z
 have:=(vY (X2 cs) cs.length g).mem_iff.mp hi;rw[Ba] at this;rw[A2,AK this];exact A8 _
theorem SBd.put(h:SBd cs)n(hi:Bd i):SBd (zD cs n i):=by
 intro c g
 delta zD at g
 split at g
 .obtain ⟨x,j,rfl⟩:=AN.1 g
  split
  .exact hi
  .exact h x j
 .rcases AX.1 g with g | g
  .exact h c g
  .cases AD.1 g;exact hi
theorem SBd.merge(j:SBd g):∀{cs},SBd cs->SBd (lZ cs g):=by
 induction g with
 |nil=>intro cs h;exact h
 |cons m g B =>
  intro cs h;exact B (fun c q=>j c (AH _ q)) (h.put m.1 (j m AE))
theorem SBd.over(j:SBd ds)(q:SBd B):SBd (mW ds B):=fun c g=>(SBd.merge q (SBd.merge j (cs:=[]) (fun _ z=>nomatch z))) c (QI g)
section
variable {P:Program}{w:World}{K:Dj}{mg:Str->Option Value}{base:Heap}{a:Adr}
inductive YT(ts:List PV)(C:CH)(Q:K1):Prop
 |mk(ds ms:List (Str×Int))(z0:ts=[.tup (ds.map dQ),.tup (ms.map dQ)])(z1:ds.length+ms.length<=60)(z2:∀C',Gr C C'->Q (.tup ((mW ds ms).map dQ)) C'):YT ts C Q
theorem JK(T:Txt P w K mg a):FnOk P w K mg base CX0 1 (a.f 40) (a.d 40) ["_law_downs","_law_more"] (spC K YT):=by
 have S:=(T.F 40 rfl).s
 refine(T.F 40 rfl).ok (fun ts C R h=>?_) fun ae A ai s H E J=>⟨_,(xQ (cs1 2 S.nd (aZ (tR rfl) XB rfl T.kN rfl (ca1 (cv 0))))
  (xQ (nY PassesOwn.never rfl (cv 1) (gB rfl (pX (cg1 3 S.nd) (pX (cg1 4 S.nd) tY))) (kQ (rV (eX J) (cv 2) (cv 3) (cv 4))))
  (kQ (Gp 3 (ctp T.hX (zX (yU rfl) cF rfl T.rF rfl (ca1 (GG rfl (show(["_law_name","_law_downs","_law_more","_law_found","?","_law_number_here"]:List Str).Nodup by decide +kernel) (mR (N:=["_law_downs","_law_more","_law_found","?","_law_number_here"]) (sc:=fX (top 54)) rfl rfl rfl (by decide +kernel)) (cv 2) (fun _ _ _ _ _=>aJ) (fun _ _ _ _ _=>(pQ (qQ (cv 0) (ca1 (hZ (eX J) (cv 3) (cv 0) (fun _ _=>rfl)))))))))))))),?_⟩
 .obtain ⟨ds,g,rfl,_⟩:=h;rfl
 rintro ts C R ⟨ds,g,rfl,af,ab⟩;have ag:=Ah (eV ds []) (by show 0+ds.length<=ds.length;lia);refine uQ (Gg (by lia) fun p M=>?_);refine kZ (mF rfl (uJ (fun zs I C'=>∃F G j vs,g=j++vs/\zs=vs.map dQ/\I=[some (.tup (ds.map dQ)),some (.tup (g.map dQ)),some (.ref p),F,G]/\C' p=some (.dK ((lZ (lZ [] ds) j).map kOf))/\Gr C C') ?_ ?_ _ _ _ ⟨_,_,[],g,rfl,rfl,rfl,jQ,Gr.new M _⟩))
 .rintro z zs I C1 ⟨F,G,j,vs,e,q,rfl,D,B⟩ L U
  cases vs with
  |nil=>cases q
  |cons v vs =>
   obtain⟨rfl,rfl⟩:=BN q;refine⟨rfl,qZ (qZ (yB ?_))⟩;have W:=eV j (lZ [] ds);have ah:j.length<=g.length:=by rw[e,AG];lia
   apply putD_s D (by lia)
   refine U _ _ ⟨_,_,j++[v],vs,by rw[AY];exact e,rfl,rfl,?_,bW B M _⟩;rw[jQ]
   delta lZ
   rw[BO]
   rfl
 .rintro I C1 ⟨F,G,j,vs,e,q,rfl,D,B⟩
  cases vs with
  |cons v vs=>cases q
  |nil =>
  rw[Aj] at e;subst e;have W:=eV g (lZ [] ds);refine compD_s (Q3 g (Q3 ds (cs:=[]) BZ)) (by lia) rfl D fun p2 C2 Y O=>?_;refine nN Y (by lia) fun p3 Z=>?_;exact cK jQ (ab _ ((B.trans O).trans (Gr.new Z _)))
end
def Wt.sp:Wt->List Key
 |.plain s _ _ _ _=>s
 |.part s _ _=>s
 |.give s _ _ _=>s
def WtOk(rs:List Str):Nat->Wt->Prop
 |0,_=>False
 |_+1,.part sp n g=>sp.length<=2/\n∈rs/\g.length<=4/\SBd g
 |d+1,.give sp _ i r=>sp.length<=2/\Bd i/\(∀x∈r,WtOk rs d x)/\(r.map Wt.sp).Nodup
 |d+1,.plain sp _ ss h r=>sp.length<=2/\(ss.length<=4/\h.length<=4/\∀x∈h,x.ch.length<=4)/\(∀x∈r,WtOk rs d x)/\(r.map Wt.sp).Nodup
def fB(rs:List Str)(d:Nat)(r:List Wt):Prop:=(∀x∈r,WtOk rs d x)/\(r.map Wt.sp).Nodup
theorem WtOk.up: ∀{d}{x},WtOk rs d x->WtOk rs (d+1) x:=by
 intro d
 induction d with
 |zero=>intro x h;exact h.elim
 |succ d q =>
  intro x h
  cases x with
  |plain s t g hs r=>exact⟨h.1,h.2.1,fun y j=>q (h.2.2.1 y j),h.2.2.2⟩
  |part s n g=>exact h
  |give s n i r=>exact⟨h.1,h.2.1,fun y j=>q (h.2.2.1 y j),h.2.2.2⟩
theorem WtOk.mono(h:WtOk rs d x)(j:d<=e):WtOk rs e x:=by
 induction j with
 |refl=>exact h
 |step _ g=>exact g.up
def SpInv(F:List Wt)(N:Tns):Prop:=(F.map Wt.sp).Nodup/\∀x∈F,∃k c,x.sp=[k,.inl (some c)]/\c < xT N k
def StOk(rs:List Str)(e:Nat)(st:DSt):Prop:=(∀x∈st.1,WtOk rs e x)/\SpInv st.1 st.2.1
theorem cR N k g:xT (bY N k) g=if g=k then xT N k+1 else xT N g:=by
 show(match gJ (qJ N k (.int (xT N k+1))) g with | some (.int i)=>i | _=>0)=_;rw[dE]
 by_cases e:g=k
 .rw [Ac e,Ac e]
 .rw [Ad e,Ad e];rfl
theorem SpInv.add(h:SpInv F N)(G:x.sp=qG N k):SpInv (F++[x]) (bY N k):=by
 refine⟨?_,fun y g=>?_⟩
 .rw [AO,Cz]
  refine⟨h.1,by simp,fun a M b D e=>?_⟩;have D:b=x.sp:=by simpa using D
  obtain⟨y,g,rfl⟩:=AN.1 M;refine wB (h.2 y g) fun I c q B=>?_;rw[D,G,q] at e;injection e with J L
  injection L with j
  injection j with j
  injection j with j
  rw[J,j] at B
  lia
 .rcases AX.1 g with g | g
  .refine wB (h.2 y g) fun I c q B=>⟨I,c,q,?_⟩
   rw[cR]
   split
   .next z=>rw[<- z];lia
   .exact B
  .cases AD.1 g
   exact⟨k,xT N k,G,by rw[cR,Ac rfl];lia⟩
theorem W9(g:mB A τ bs ns)(h:wH bs ns d ps):SBd (mG (xJ A τ ps)):=fun c j=>by
 have:=QI j;obtain⟨p,q,rfl⟩:=AN.1 this;exact gN g.a g.t g.h (h p q)
theorem qS(h1:∀e,d<=e->∀l ns τ st,LnOk bs rs d ns l->mB A τ bs ns->StOk rs e st->StOk rs e (sX A l τ st)):∀e,d<=e->∀g ns τ st,(∀x∈g,LnOk bs rs d ns x)->mB A τ bs ns->StOk rs e st->StOk rs e (rQ A g τ st)
 |e,j,[],ns,τ,st,_,_,h=>by rwa [jV]
 |e,j,l::g,ns,τ,st,B,q,h=>by
  exact qS h1 e j g ns τ _ (fun x D=>B x (AH _ D)) q (h1 e j l ns τ st (B l AE) q h)
theorem StOk.nil: StOk rs e ([],[],R):=⟨fun _ z=>(nomatch z),BZ,fun _ z=>(nomatch z)⟩
theorem one_st: ∀d e,d<=e->∀l ns τ st,LnOk bs rs d ns l->mB A τ bs ns->StOk rs e st->StOk rs e (sX A l τ st):=by
 intro d
 induction d with
 |zero=>intro e O l ns τ st h;exact h.elim
 |succ d Y =>
  intro e O l ns τ st h j J;have I:=qS Y
  have M:∀x k R,WtOk rs (d+1) x->x.sp=qG st.2.1 k->StOk rs e (st.1++[x],bY st.2.1 k,R):=by
   intro x k R B W;refine⟨fun y D=>?_,J.2.add W⟩
   rcases AX.1 D with D | D
   .exact J.1 y D
   .cases AD.1 D;exact B.mono O
  cases l with
  |plain k ae s hs G =>
   refine zP h fun h1 h2 q F N=>?_;have b:=I d (AJ _) G ns τ ([],[],tJ A τ hs (yK A τ s (hW A τ k st.2.2))) F j StOk.nil;refine M _ _ _ ⟨AJ 2,⟨?_,?_,fun x B=>?_⟩,b.1,b.2.1⟩ rfl
   .rw [zA];delta xJ;rw[AB];exact h2.2
   .delta xV;rw[AB];exact q.2
   .obtain ⟨y,D,rfl⟩:=AN.1 B
    show(rR A τ y.ch).length<=4
    delta rR
    rw[AB];exact(q.1 y D).1
  |part k n g =>
   refine kR h fun h1 h2 q F=>M _ _ _ ⟨AJ 2,h2,?_,W9 j q⟩ rfl;rw[zA]
   delta xJ
   rwa [AB]
  |give k n r G =>
   refine zP h fun h1 h2 q F N=>?_;have b:=I d (AJ _) G ns τ ([],[],r.rds A τ (hW A τ k st.2.2)) F j StOk.nil;exact M _ _ _ ⟨AJ 2,gN j.a j.t j.h q,b.1,b.2.1⟩ rfl
  |when r l1 l2 =>
   obtain⟨h1,⟨h2,q⟩,F,N⟩:=h;rw[sX]
   split
   .exact I e (by lia) l2 ns τ _ F j J
   .exact I e (by lia) l1 ns τ _ h2 j J
  |each n r G =>
   refine kH h fun h1 h2 q=>?_
   have:∀(l:List Nat),(∀k∈l,k < 8)->∀x:DSt,StOk rs e x->StOk rs e (l.foldl (fun st k=>rQ A G (qJ τ (.inr n) (.int (k:Nat))) st) x):=by
    intro l
    induction l with
    |nil=>intro _ x B;exact B
    |cons k l Z =>
     intro L x B;have k8:=L k AE;refine Z (fun ab S=>L ab (AH _ S)) _ (I e (by lia) G [n] _ x h2 ⟨j.a,j.t.put _ (by delta Bd;lia),fun m U=>?_,j.b⟩ B);cases AD.1 U;rw[dE,Ac rfl];rfl
   refine this _ (fun k L=>?_) _ J;rw[Ba] at L;have:=sD (r.val A τ)
   lia
theorem Wg(h:∀x∈g,LnOk bs rs d ns x)(j:mB A τ bs ns):fB rs d (rQ A g τ ([],[],R)).1:=by
 have b:=qS (one_st d) d (AJ _) g ns τ ([],[],R) h j StOk.nil;exact⟨b.1,b.2.1⟩
mutual
def Wt.pc:Wt->Nat
 |.plain _ _ _ _ r=>Wt.pcs r
 |.part _ _ _=>1
 |.give _ _ _ r=>Wt.pcs r
def Wt.pcs:List Wt->Nat
 |[]=>0
 |x::r=>x.pc+Wt.pcs r
end
theorem Wt.pcs_app xs ys:Wt.pcs (xs++ys)=Wt.pcs xs+Wt.pcs ys:=by
 induction xs with
 |nil=>show _=0+_;rw[BI];rfl
 |cons x xs g=>show x.pc+Wt.pcs (xs++ys)=x.pc+Wt.pcs xs+Wt.pcs ys;rw[g];lia
mutual
theorem one_pc(A:Rds):∀(l:Ln)(τ:Tns)(st:DSt),Wt.pcs (sX A l τ st).1<=Wt.pcs st.1+l.pw
 |.when r B D,τ,st=>by
  rw[sX];have h1:=mY A B τ (st.1,st.2.1,r.rds A τ st.2.2);have h2:=mY A D τ (st.1,st.2.1,r.rds A τ st.2.2);show _<=_+(Ln.pws B+Ln.pws D)
  split
  .exact Ah h2 (by show Wt.pcs st.1+_<=_;omega)
  .exact Ah h1 (by show Wt.pcs st.1+_<=_;omega)
 |.each n r j,τ,st=>by
  rw[sX];have c:=sD (r.val A τ);have q:=xU (f:=fun st k=>rQ A j (qJ τ (.inr n) (.int (k:Nat))) st) (m:=fun st=>Wt.pcs st.1) (c:=Ln.pws j) (fun x k=>mY A j _ x) (List.range (vH (r.val A τ))) (st.1,st.2.1,r.rds A τ st.2.2);rw[Am] at q;have F:vH (r.val A τ) * Ln.pws j<=8 * Ln.pws j:=Bz _ c;show _<=Wt.pcs st.1+8 * Ln.pws j;exact Ah q (by show Wt.pcs st.1+_<=_;omega)
 |.part k n g,τ,st=>by
  rw[sX];show Wt.pcs (st.1++[_])<=_;rw[Wt.pcs_app];exact AJ _
 |.give k n r j,τ,st=>by
  rw[sX];have h:=mY A j τ ([],[],r.rds A τ (hW A τ k st.2.2));show Wt.pcs (st.1++[_])<=_;rw[Wt.pcs_app];show Wt.pcs st.1+(Wt.pcs _+0)<=Wt.pcs st.1+Ln.pws j;have h:Wt.pcs (rQ A j τ ([],[],r.rds A τ (hW A τ k st.2.2))).1<=0+Ln.pws j:=h;omega
 |.plain k G s hs j,τ,st=>by
  rw[sX];have h:=mY A j τ ([],[],tJ A τ hs (yK A τ s (hW A τ k st.2.2)));show Wt.pcs (st.1++[_])<=_;rw[Wt.pcs_app];show Wt.pcs st.1+(Wt.pcs _+0)<=Wt.pcs st.1+Ln.pws j;have h:Wt.pcs (rQ A j τ ([],[],tJ A τ hs (yK A τ s (hW A τ k st.2.2)))).1<=0+Ln.pws j:=h;omega
theorem mY A:∀j τ st,Wt.pcs (rQ A j τ st).1<=Wt.pcs st.1+Ln.pws j
 |[],τ,st=>by exact BX _ _
 |l::j,τ,st=>by
  rw[pZ];have h1:=one_pc A l τ st;have h2:=mY A j τ (sX A l τ st);show _<=_+(l.pw+Ln.pws j)
  lia
end
mutual
def Wt.wc:Wt->Nat
 |.plain _ _ _ _ r=>1+Wt.wcs r
 |.part _ _ _=>1
 |.give _ _ _ r=>1+Wt.wcs r
def Wt.wcs:List Wt->Nat
 |[]=>0
 |x::r=>x.wc+Wt.wcs r
end
theorem Wt.wcs_app xs ys:Wt.wcs (xs++ys)=Wt.wcs xs+Wt.wcs ys:=by
 induction xs with
 |nil=>show _=0+_;rw[BI];rfl
 |cons x xs g=>show x.wc+Wt.wcs (xs++ys)=x.wc+Wt.wcs xs+Wt.wcs ys;rw[g];lia
mutual
theorem one_wc(A:Rds):∀(l:Ln)(τ:Tns)(st:DSt),Wt.wcs (sX A l τ st).1<=Wt.wcs st.1+l.tw
 |.when r B D,τ,st=>by
  rw[sX];have h1:=wW A B τ (st.1,st.2.1,r.rds A τ st.2.2);have h2:=wW A D τ (st.1,st.2.1,r.rds A τ st.2.2);show _<=_+(Ln.tws B+Ln.tws D)
  split
  .exact Ah h2 (by show Wt.wcs st.1+_<=_;omega)
  .exact Ah h1 (by show Wt.wcs st.1+_<=_;omega)
 |.each n r j,τ,st=>by
  rw[sX];have c:=sD (r.val A τ);have q:=xU (f:=fun st k=>rQ A j (qJ τ (.inr n) (.int (k:Nat))) st) (m:=fun st=>Wt.wcs st.1) (c:=Ln.tws j) (fun x k=>wW A j _ x) (List.range (vH (r.val A τ))) (st.1,st.2.1,r.rds A τ st.2.2);rw[Am] at q;have F:vH (r.val A τ) * Ln.tws j<=8 * Ln.tws j:=Bz _ c;show _<=Wt.wcs st.1+8 * Ln.tws j;exact Ah q (by show Wt.wcs st.1+_<=_;omega)
 |.part k n g,τ,st=>by
  rw[sX];show Wt.wcs (st.1++[_])<=_;rw[Wt.wcs_app];exact AJ _
 |.give k n r j,τ,st=>by
  rw[sX];have h:=wW A j τ ([],[],r.rds A τ (hW A τ k st.2.2));show Wt.wcs (st.1++[_])<=_;rw[Wt.wcs_app];show Wt.wcs st.1+((1+Wt.wcs _)+0)<=Wt.wcs st.1+(1+Ln.tws j);have h:Wt.wcs (rQ A j τ ([],[],r.rds A τ (hW A τ k st.2.2))).1<=0+Ln.tws j:=h;omega
 |.plain k G s hs j,τ,st=>by
  rw[sX];have h:=wW A j τ ([],[],tJ A τ hs (yK A τ s (hW A τ k st.2.2)));show Wt.wcs (st.1++[_])<=_;rw[Wt.wcs_app];show Wt.wcs st.1+((1+Wt.wcs _)+0)<=Wt.wcs st.1+(1+Ln.tws j);have h:Wt.wcs (rQ A j τ ([],[],tJ A τ hs (yK A τ s (hW A τ k st.2.2)))).1<=0+Ln.tws j:=h;omega
theorem wW A:∀j τ st,Wt.wcs (rQ A j τ st).1<=Wt.wcs st.1+Ln.tws j
 |[],τ,st=>by exact BX _ _
 |l::j,τ,st=>by
  rw[pZ];have h1:=one_wc A l τ st;have h2:=wW A j τ (sX A l τ st);show _<=_+(l.tw+Ln.tws j)
  lia
end
structure Prt where
 path:wK
 name:Str
 gives:List (Str×Int)
 downs:List (Str×Int)
def bZ(p:wK):PV:=.tup (p.map uK)
noncomputable def Prt.pv(x:Prt):PV:=.tup [bZ x.path,.str x.name,.tup (x.gives.map dQ),.tup (x.downs.map dQ)]
mutual
def Wt.prt:Wt->wK->List (Str×Int)->List Prt
 |.part sp n g,s,ds=>[⟨s++[sp],n,g,ds⟩]
 |.give sp n i r,s,ds=>Wt.prts r (s++[sp]) (mW ds [(n,i)])
 |.plain sp _ _ _ r,s,ds=>Wt.prts r (s++[sp]) ds
def Wt.prts:List Wt->wK->List (Str×Int)->List Prt
 |[],_,_=>[]
 |x::r,s,ds=>x.prt s ds++Wt.prts r s ds
end
mutual
theorem prt_len:∀(x:Wt)(s:wK)(ds:List (Str×Int)),(x.prt s ds).length=x.pc
 |.part _ _ _,_,_=>rfl
 |.give sp n i r,s,ds=>by rw[Wt.prt,Wt.pc];exact lK r _ _
 |.plain sp _ _ _ r,s,ds=>by rw[Wt.prt,Wt.pc];exact lK r _ _
theorem lK:∀r s ds,(Wt.prts r s ds).length=Wt.pcs r
 |[],_,_=>rfl
 |x::r,s,ds=>by rw[Wt.prts,Wt.pcs,AG,prt_len x,lK r]
end
theorem QF xs ys s ds:Wt.prts (xs++ys) s ds=Wt.prts xs s ds++Wt.prts ys s ds:=by
 induction xs with
 |nil=>rfl
 |cons x xs g=>rw[B7,Wt.prts,Wt.prts,g,AY]
theorem wt_pv(x:Wt):∃j rest,x.pv=.tup (.str j::uK x.sp::rest)/\(j = "plain"\/j = "part"\/j = "give"):=by
 cases x with
 |plain s t g h r=>exact⟨"plain",_,by rfl,.inl rfl⟩
 |part s n g=>exact⟨"part",_,by rfl,.inr (.inl rfl)⟩
 |give s n i r=>exact⟨"give",_,by rfl,.inr (.inr rfl)⟩
section
variable {P:Program}{w:World}{K:Dj}{mg:Str->Option Value}{base:Heap}{a:Adr}
inductive gPs(d:Nat)(ts:List PV)(C:CH)(Q:K1):Prop
 |mk(r:List Wt)(s:wK)(ds:List (Str×Int))(rs:List Str)(z0:ts=[.tup (Wt.pvs r),bZ s,.tup (ds.map dQ)])(z1:fB rs d r)(z2:s.length+d<=50)(z3:ds.length+d<=50)(z4:Wt.pcs r<=1000)(z5:∀p C',C p=none->C' p=some (.lst ((Wt.prts r s ds).map Prt.pv))->Gr C C'->Q (.ref p) C'):gPs d ts C Q
theorem W0(T:Txt P w K mg a)(d:Nat):FnOk P w K mg base CX0 (d+2) (a.f 41) (a.d 41) U3 (spC K (gPs d)):=by
 have ag:∀n,(∀d',n=d'+1->FnOk P w K mg base CX0 (n+1) (a.f 41) (a.d 41) U3 (spC K (gPs d')))->FnOk P w K mg base CX0 (n+2) (a.f 41) (a.d 41) U3 (spC K (gPs n)):=by
  intro n ih;have S:=(T.F 41 rfl).s;have fS:=(JK (base:=base) T).mono (show 1<=n+1 by lia)
  have cM:FnOk P w K mg base CX0 (n+1) (a.f 41) (a.d 41) U3 (spC K (fun ts C Q=>∃d',n=d'+1/\gPs d' ts C Q)):=by
   cases n with
   |zero=>exact fV fun ts C Q ⟨d',e,_⟩=>by lia
   |succ d' =>
    have:=ih d' rfl
    have e:(fun ts C Q=>∃Y,d'+1=Y+1/\gPs Y ts C Q)=gPs d':=by
     funext ts C Q
     refine propext ⟨fun⟨Y,e,h⟩=>?_,fun h=>⟨d',rfl,h⟩⟩;cases Aw e;exact h
    rw[e];exact this
  refine(T.F 41 rfl).ok (fun ts C R h=>?_) fun aq A aw s H E hr=>⟨_,(xQ (cs1 3 S.nd (dX yZ))
  (xQ (nY PassesOwn.never rfl (cv 0) (cg1 4 S.nd) (xQ (cs1 5 S.nd (eQ vX wX (cv 1) (pQ (ca1 (cx (cv 4) zQ)))))
  (xQ (nQ (ct2 cX aQ (cx (cv 4) zQ) wQ) (kQ (zZ (cap (cv 3) (pQ (qQ (cv 5) (qQ (cx (cv 4) zQ) (qQ (cx (cv 4) zQ) (ca1 (cv 2))))))))) cQ)
  (xQ (nQ (ct2 cX aQ (cx (cv 4) zQ) wQ) (kQ (cs1 3 S.nd (eQ vX wX (cv 3) (cf (T.F 41 rfl) cM hr (qQ (cx (cv 4) zQ) (qQ (cv 5) (ca1 (cf (T.F 40 rfl) fS hr (qQ (cv 2) (ca1 (pQ (ca1 (pQ (qQ (cx (cv 4) zQ) (ca1 (cx (cv 4) zQ)))))))))))))))) cQ)
  (kQ (nQ (ct2 cX aQ (cx (cv 4) zQ) wQ) (kQ (cs1 3 S.nd (eQ vX wX (cv 3) (cf (T.F 41 rfl) cM hr (qQ (cx (cv 4) zQ) (qQ (cv 5) (ca1 (cv 2)))))))) cQ))))))
  (kQ (gQ (cv 3))))),?_⟩
  .obtain ⟨r,s,ds,rs,rfl,_⟩:=h;rfl
  rintro ts C R ⟨r,s,ds,rs,rfl,aj,hs,ar,ah,ak⟩;refine uQ ?_;refine⟨by decide,fun p D=>?_⟩;refine kZ ?_;refine mF rfl ?_;refine uJ (fun zs ρ C'=>∃(p:Addr)(x4 x5:Option PV)(B vs:List Wt),r=B++vs/\zs=Wt.pvs vs/\ρ=[some (.tup (Wt.pvs r)),some (bZ s),some (.tup (ds.map dQ)),some (.ref p),x4,x5]/\C p=none/\C' p=some (.lst ((Wt.prts B s ds).map Prt.pv))/\Gr C C') ?_ ?_ _ _ _ ⟨p,_,_,[],r,rfl,rfl,rfl,D,jQ,Gr.new D _⟩
  .rintro z zs ρ C1 ⟨p,x4,x5,B,vs,e,N,rfl,D,F,G⟩ L hL
   cases vs with
   |nil=>cases N
   |cons u vs =>
   obtain⟨rfl,rfl⟩:=BN (show z::zs=u.pv::Wt.pvs vs from N);have hu:=aj.1 u (by rw[e];exact AU _ AE);have au:Wt.pcs B+(u.pc+Wt.pcs vs)<=1000:=by have:=ah;rw[e,Wt.pcs_app] at this;exact this
   have ab:((Wt.prts B s ds).map Prt.pv).length=Wt.pcs B:=by rw[AB,lK]
   have Z:Wt.prts (B++[u]) s ds=Wt.prts B s ds++u.prt s ds:=by rw[QF,Wt.prts,Wt.prts,Aj]
   obtain⟨wd,rest,ep,av⟩:=wt_pv u;refine uQ ?_;refine yX ep Kv ?_;refine⟨zz 1 rfl,?_⟩;refine qH (uZ (by rw[AB];show s.length+1<=1000;lia)) ?_;have eh:PV.tup (s.map uK++[uK u.sp])=bZ (s++[u.sp]):=by delta bZ;rw[AO];rfl
   rw[eh]
   cases n with
   |zero=>exact hu.elim
   |succ d' =>
   cases u with
   |part sp q g =>
    have ep:(Wt.part sp q g).pv=.tup [.str "part",uK sp,.str q,.tup (g.map dQ)]:=by rw[Wt.pv]
    refine kZ ?_;refine yX ep tQ ?_;refine gX (lQ _ _) ?_;refine nZ (by decide) ?_;refine⟨pW F,?_⟩;refine yX ep (v:=.str q) rfl ?_;refine yX ep (v:=.tup (g.map dQ)) rfl ?_;refine⟨zz 4 rfl,?_⟩;refine vL F (by rw[ab];exact An (show Wt.pcs B<=1000 by lia) (by decide)) ?_;refine kZ ?_;refine yX ep tQ ?_;refine gX (lQ _ _) ?_;refine wZ (by decide) ?_;refine xX ?_
    refine yX ep tQ ?_;refine gX (lQ _ _) ?_;refine wZ (by decide) ?_;refine xX ?_;refine hL _ _ ⟨p,_,_,B++[.part sp q g],vs,by rw[AY];exact e,rfl,rfl,D,?_,bW G D _⟩;rw[jQ,Z,AO,Wt.prt]
    rfl
   |give sp q i j =>
    obtain⟨_,ao,o1,o2⟩:=hu;have ep:(Wt.give sp q i j).pv=.tup [.str "give",uK sp,.str q,.int i,.tup (Wt.pvs j)]:=by rw[Wt.pv]
    have ai:Wt.pcs j=(Wt.give sp q i j).pc:=by rw[Wt.pc]
    refine kZ ?_;refine yX ep tQ ?_;refine gX (lQ _ _) ?_;refine wZ (by decide) ?_;refine xX ?_;refine kZ ?_;refine yX ep tQ ?_;refine gX (lQ _ _) ?_;refine nZ (by decide) ?_;refine yX ep (v:=.tup (Wt.pvs j)) rfl ?_;refine yX ep (v:=.str q) rfl ?_;refine yX ep (v:=.int i) rfl ?_;refine⟨zz 2 rfl,?_⟩;refine⟨zz 1 rfl,?_⟩;refine⟨ds,[(q,i)],rfl,by show ds.length+1<=60;lia,fun C2 ae=>?_⟩
    have af:=zM ds [(q,i)];have af:(mW ds [(q,i)]).length<=ds.length+1:=af;refine⟨d',rfl,j,s++[sp],mW ds [(q,i)],rs,rfl,⟨o1,o2⟩,by rw[AG,AQ];lia,by lia,by lia,fun p3 W n3 m3 J=>?_⟩;refine iM (J _ _ (ae _ _ F)) m3 (uZ (by rw[ab,AB,lK];lia)) fun p4 M=>?_;refine yX ep tQ ?_;refine gX (lQ _ _) ?_;refine wZ (by decide) ?_;refine xX ?_
    have I:Gr C W:=(G.trans ae).trans J;refine hL _ _ ⟨p4,_,_,B++[.give sp q i j],vs,by rw[AY];exact e,rfl,rfl,vK I M,?_,I.trans (Gr.new M _)⟩;rw[jQ,Z,AO,Wt.prt]
   |plain sp U O hs j =>
    obtain⟨_,_,o1,o2⟩:=hu;have ep:(Wt.plain sp U O hs j).pv=.tup [.str "plain",uK sp,.str U,.tup (O.map dQ),.tup (hs.map HdV.pv),.tup (Wt.pvs j)]:=by rw[Wt.pv]
    have ai:Wt.pcs j=(Wt.plain sp U O hs j).pc:=by rw[Wt.pc]
    refine kZ ?_;refine yX ep tQ ?_;refine gX (lQ _ _) ?_;refine wZ (by decide) ?_;refine xX ?_;refine kZ ?_;refine yX ep tQ ?_;refine gX (lQ _ _) ?_;refine wZ (by decide) ?_;refine xX ?_;refine yX ep tQ ?_;refine gX (lQ _ _) ?_;refine nZ (by decide) ?_;refine yX ep (v:=.tup (Wt.pvs j)) rfl ?_;refine⟨d',rfl,j,s++[sp],ds,rs,rfl,⟨o1,o2⟩,by rw[AG,AQ];lia,by lia,by lia,fun p3 W n3 m3 J=>?_⟩
    refine iM (J _ _ F) m3 (uZ (by rw[ab,AB,lK];lia)) fun p4 M=>?_;have I:Gr C W:=G.trans J;refine hL _ _ ⟨p4,_,_,B++[.plain sp U O hs j],vs,by rw[AY];exact e,rfl,rfl,vK I M,?_,I.trans (Gr.new M _)⟩;rw[jQ,Z,AO,Wt.prt]
  .rintro ρ C1 ⟨p,x4,x5,B,vs,e,N,rfl,D,F,G⟩
   cases vs with
   |cons u vs=>cases N
   |nil =>
   rw[Aj] at e;subst e;exact ak p C1 D F G
 induction d with
 |zero=>exact ag 0 fun d' e=>by lia
 |succ d ih=>exact ag (d+1) fun d' e=>by cases Aw e;exact ih
end
def Div(p q:wK):Prop:=∃c x y g j,p=c++x::g/\q=c++y::j/\x≠y
theorem Div.ext(h:Div p q)u v:Div (p++u) (q++v):=by
 obtain⟨c,x,y,g,j,rfl,rfl,n⟩:=h;exact⟨c,x,y,g++u,j++v,by rw[AY];rfl,by rw[AY];rfl,n⟩
theorem Div.ne(h:Div p q):p≠q:=by
 obtain⟨c,x,y,g,j,rfl,rfl,n⟩:=h;intro e;have:=List.append_cancel_left e;injection this with h1 _
 exact n h1
structure GW(rs:List Str)(s:wK)(nd:Nat)(x:Prt)(d:Nat):Prop where
 name:x.name∈rs
 gl:x.gives.length<=4
 gb:SBd x.gives
 db:SBd x.downs
 dl:x.downs.length<=nd+d
 path:∃u,x.path=s++u/\u≠[]/\u.length<=d
theorem eE: ∀d r s ds,fB rs d r->SBd ds->(∀x∈Wt.prts r s ds,GW rs s ds.length x d)/\(Wt.prts r s ds).Pairwise (fun x y=>Div x.path y.path):=by
 intro d
 induction d with
 |zero =>
  intro r s ds F D
  cases r with
  |nil=>exact⟨fun _ z=>(nomatch z),.nil⟩
  |cons x r=>exact(F.1 x AE).elim
 |succ d W =>
  intro r s ds F D
  have ag:∀x:Wt,WtOk rs (d+1) x->(∀y∈x.prt s ds,GW rs s ds.length y (d+1)/\∃u,y.path=s++x.sp::u)/\(x.prt s ds).Pairwise (fun x y=>Div x.path y.path):=by
   intro x q
   cases x with
   |part sp n g =>
    rw[Wt.prt];refine⟨fun y j=>?_,DI _ _⟩;cases AD.1 j;exact⟨⟨q.2.1,q.2.2.1,q.2.2.2,D,by show ds.length<=_;lia,[sp],rfl,by simp,by show 1<=d+1;lia⟩,[],rfl⟩
   |give sp n i S =>
    rw[Wt.prt];refine kR q fun _ ab N O=>?_;have ae:SBd (mW ds [(n,i)]):=D.over fun c hc=>by cases AD.1 hc;exact ab
    have ai:(mW ds [(n,i)]).length<=ds.length+1:=zM ds [(n,i)];obtain⟨h1,h2⟩:=W S (s++[sp]) (mW ds [(n,i)]) ⟨N,O⟩ ae;refine⟨fun y j=>?_,h2⟩;have o:=h1 y j;refine jZ o.path fun u e _ ah=>?_;have B:y.path=s++sp::u:=by rw[e,AY];rfl
    exact⟨⟨o.name,o.gl,o.gb,o.db,by have:=o.dl;lia,sp::u,B,by simp,by rw[List.length_cons];lia⟩,u,B⟩
   |plain sp aj ss hs S =>
    refine kR q fun _ _ N O=>?_;obtain⟨h1,h2⟩:=W S (s++[sp]) ds ⟨N,O⟩ D;refine⟨fun y j=>?_,h2⟩;have o:=h1 y j;refine jZ o.path fun u e _ ah=>?_;have B:y.path=s++sp::u:=by rw[e,AY];rfl
    exact⟨⟨o.name,o.gl,o.gb,o.db,by have:=o.dl;lia,sp::u,B,by simp,by rw[List.length_cons];lia⟩,u,B⟩
  have Z:∀r:List Wt,(∀x∈r,WtOk rs (d+1) x)->(r.map Wt.sp).Nodup->(∀x∈Wt.prts r s ds,GW rs s ds.length x (d+1)/\∃y∈r,∃u,x.path=s++y.sp::u)/\(Wt.prts r s ds).Pairwise (fun x y=>Div x.path y.path):=by
   intro r
   induction r with
   |nil=>intro _ _;exact⟨fun _ z=>(nomatch z),.nil⟩
   |cons x r af =>
    intro h M;rw[A5,Az] at M;obtain⟨G,Y⟩:=ag x (h x AE);obtain⟨U,b2⟩:=af (fun y j=>h y (AH _ j)) M.2;rw[Wt.prts];refine⟨fun y j=>?_,?_⟩
    .rcases AX.1 j with j | j
     .exact ⟨(G y j).1,x,AE,(G y j).2⟩
     .obtain ⟨I,z,L,J⟩:=U y j
      exact⟨I,z,AH _ L,J⟩
    .rw [Dh]
     refine⟨Y,b2,fun y j z L=>?_⟩;obtain⟨_,u,e1⟩:=G y j;obtain⟨_,t,ht,v,e2⟩:=U z L;exact⟨s,x.sp,t.sp,u,v,e1,e2,fun e=>M.1 (e▸AN.2 ⟨t,ht,rfl⟩)⟩
  obtain⟨I,J⟩:=Z r F.1 F.2;exact⟨fun x q=>(I x q).1,J⟩
theorem Xx b:∀xs acc C,(∀x∈xs,∀K,K (b x) C->t (some x::G) C K)->(∀x∈xs,∀L,L x C->c (some x::G) C L)->acc.length+xs.length<=1000->(∀p,C p=none->Q (.ref p) (vQ C p (.lst (acc++xs.filter b))))->rZ t c G Q xs acc C:=by
 intro xs
 induction xs with
 |nil =>
  intro acc C _ _ _ q;rw[List.filter_nil,Aj] at q;exact fR q
 |cons x xs F =>
  intro acc C D j I q;rw[AL] at I;refine vP (D x AE _ ?_)
  cases e:b x with
  |true =>
   refine j x AE _ ⟨AV (show acc.length < 1000 by lia) (by decide),?_⟩;refine F (acc++[x]) C (fun y g=>D y (AH _ g)) (fun y g=>j y (AH _ g)) (by rw[AG,AQ];lia) fun p B=>?_;have:=q p B;rw[List.filter_cons,e] at this
   rwa [AY]
  |false =>
   refine F acc C (fun y g=>D y (AH _ g)) (fun y g=>j y (AH _ g)) (by lia) fun p B=>?_;have:=q p B;rw[List.filter_cons,e] at this;exact this
def isNm(g:Str):PV->Bool
 |.tup (.str s::_)=>decide (s=g)
 |_=>false
theorem eO: ∀{q}{x},(kJ q).Nodup->x∈q->x.name=j->(q.map Pt.pv).filter (isNm j)=[x.pv]
 |[],x,_,m,_=>nomatch m
 |y::q,x,g,m,e=>by
  have g:(y.name::kJ q).Nodup:=g;rw[Az] at g
  have I:∀l:List Pt,(∀z∈l,z.name≠j)->(l.map Pt.pv).filter (isNm j)=[]:=by
   intro l h;rw[List.filter_eq_nil_iff];intro z B;obtain⟨w,F,rfl⟩:=AN.1 B;show ¬ decide (w.name=j)=true;rw[AR (h w F)]
   decide
  rw[A5,List.filter_cons];have D:isNm j y.pv=decide (y.name=j):=rfl
  rcases Ai.1 m with rfl | m
  .rw [D,Af e,Ac rfl,I q fun z B G=>g.1 (by exact e▸G▸AN.2 ⟨z,B,rfl⟩)]
  .rw [D,AR (fun z=>g.1 (by exact z▸e▸AN.2 ⟨x,m,rfl⟩))]
   exact eO g.2 m e
abbrev Vl:=List (wK×(Str×List (Str×Int)))
def vPV(v:Str×List (Str×Int)):PV:=.tup [.str v.1,.tup (v.2.map dQ)]
noncomputable def vlP(V:Vl):List (wK×PV):=V.map fun e=>(e.1,vPV e.2)
noncomputable def tP(V:Vl)(p:wK):Option (Str×List (Str×Int)):=(V.find? fun e=>decide (e.1=p)).map (·.2)
theorem pE V p:pK (vlP V) p=(tP V p).map vPV:=by
 induction V with
 |nil=>rfl
 |cons e V g =>
  show pK ((e.1,vPV e.2)::vlP V) p=_;rw[eW]
  delta tP
  rw[A0]
  by_cases h:e.1=p
  .rw [Ac h,Af h];rfl
  .rw [Ad h,AR h,g];rfl
noncomputable def tX(V:Vl)(y:Pt)(p:wK):List (Str×Int):=match tP V p with
 |some v=>if v.1=y.name then v.2 else y.first
 |none=>y.first
noncomputable def tZ(s:Str)(ps:List (Str×Int))(A:Rds):Rds:=ps.foldl (fun A c=>putG A (qK s c.1) (.int c.2)) A
def oV(L:List (Str×List (Str×Int)))(A:Rds):Rds:=L.foldl (fun A e=>tZ e.1 e.2 A) A
noncomputable def wL(x:Prt)(g:List (Str×Int)):List (Str×List (Str×Int)):=[("take",x.gives),("down",x.downs),("box",g)]
def yW(x:Prt)(g:List (Str×Int)):Rds:=oV (wL x g) []
def srPV(e:Str×List (Str×Int)):PV:=.tup [.str e.1,.tup (e.2.map dQ)]
structure VOk(V:Vl):Prop where
 b:∀e∈V,SBd e.2.2
 l:∀e∈V,e.2.2.length<=4
theorem K9{V}(h:tP V p=some v):∃e∈V,e.2=v:=by
 delta tP at h
 cases e:V.find? fun e=>decide (e.1=p) with
 |none=>rw[e] at h;cases h
 |some x=>rw[e] at h;cases h;exact⟨x,Bc e,rfl⟩
theorem jS{V}(q:VOk V){cap}(g:cU rs cap y)p:SBd (tX V y p)/\(tX V y p).length<=4:=by
 delta tX
 cases e:tP V p with
 |none=>exact⟨fun c j=>g.fb c j,g.fl⟩
 |some v =>
  obtain⟨x,B,rfl⟩:=K9 e;dsimp only
  split
  .exact ⟨q.b x B,q.l x B⟩
  .exact ⟨fun c j=>g.fb c j,g.fl⟩
theorem ABd.put(h:ABd A)k(hi:Bd i):ABd (putG A k (.int i)):=fun j g=>by
 rcases eN g with e | e
 .exact ⟨i,e,hi⟩
 .exact h j e
theorem iB: ∀{ps}{A},SBd ps->ABd A->ABd (tZ s ps A)
 |[],A,_,h=>h
 |c::ps,A,g,h=>iB (ps:=ps) (fun x j=>g x (AH _ j)) (h.put _ (g c AE))
theorem ans_bd(h1:SBd x.gives)(h2:SBd x.downs)(j:SBd g):ABd (yW x g):=iB j (iB h2 (iB h1 fun _ z=>(nomatch z)))
theorem Ws[DecidableEq κ]R(k:κ)v:(putG R k v).length<=R.length+1:=by
 delta putG
 split
 .rw [AB];lia
 .rw [AG,AQ];exact AJ _
theorem zV: ∀ps A,(tZ s ps A).length<=A.length+ps.length
 |[],A=>AJ _
 |c::ps,A=>by
  have h1:=zV (s:=s) ps (putG A (qK s c.1) (.int c.2));have h2:=Ws A (qK s c.1) (.int c.2);show(tZ s ps (putG A (qK s c.1) (.int c.2))).length<=_;rw[AL]
  lia
theorem xY:∀p,zH (bZ p)=some p:=by
 intro p;show xO (p.map uK)=some p
 induction p with
 |nil=>rfl
 |cons k p q =>
  have j:zF (uK k)=some k:=by
   show bF (k.map fW)=some k
   induction k with
   |nil=>rfl
   |cons a k B =>
    show(match pV (fW a),bF (k.map fW) with | some k,some g=>some (k::g) | _,_=>none)=_;rw[CL.keyOf_keyPV,B]
  show(match zF (uK k),xO (p.map uK) with | some k,some g=>some (k::g) | _,_=>none)=_;rw[j,q]
theorem pin_s{kvs:List (wK×PV)}(m:C p=some (.dP kvs))(g:zH y=some k)(q:Q (.bl (pK kvs k).isSome) C):cPIn y (.ref p) C Q:=by
 delta cPIn
 dsimp only
 rwa [m,g]
theorem pix_s(m:C p=some (.dP kvs))(g:zH y=some k)(j:pK kvs k=some v)(q:Q v C):cPIx (.ref p) y C Q:=by
 delta cPIx
 dsimp only;rw[m,g];show(match pK kvs k with | some v=>Q v C | none=>False)
 rwa [j]
theorem WB{kvs:List (wK×PV)}(m:C p=some (.dP kvs))(g:zH y=some k)(h:kvs.length<=100000)(q:Q (vQ C p (.dP (putG kvs k v)))):Ko (.ref p) y v C Q:=by
 delta Ko
 dsimp only;exact m▸g▸⟨An h (by decide),q⟩
section
variable {P:Program}{w:World}{K:Dj}{mg:Str->Option Value}{base:Heap}{a:Adr}
inductive YU(ts:List PV)(C:CH)(Q:K1):Prop
 |mk(pts:List Pt)(x:Pt)(z0:ts=[.tup (pts.map Pt.pv),.str x.name])(z1:pts.length<=6)(z2:(kJ pts).Nodup)(z3:x∈pts)(z4:∀C',Gr C C'->Q x.pv C'):YU ts C Q
theorem wC(T:Txt P w K mg a):FnOk P w K mg base CX0 1 (a.f 42) (a.d 42) U13 (spC K YU):=by
 have S:=(T.F 42 rfl).s;refine(T.F 42 rfl).ok (fun ts C R h=>?_) fun J A U s H E N=>⟨_,(kQ (gQ (cx (nW rfl (S.c (by decide +kernel)) (S.k rfl rfl rfl (by decide +kernel)) (pF (cv 0)) (fun _ _ _ _ _=>(cf_one (ct2 cX aQ (cx (cv 0) zQ) (cv 2)))) (fun _ _ _ _ _=>(cv 0))) zQ))),?_⟩
 .obtain ⟨j,x,rfl,_⟩:=h;rfl
 rintro ts C R ⟨j,x,rfl,M,I,G,q⟩;refine Xx (isNm x.name) _ [] C (fun y g K B=>?_) (fun y g L D=>D) (by rw[AB];show 0+j.length<=1000;lia) fun p F=>?_
 .obtain ⟨z,O,rfl⟩:=AN.1 g
  exact mX tQ (gX (lQ _ _) B)
 .rw [ eO I G rfl]
  exact cJ jQ tQ (q _ (Gr.new F _))
inductive gAns(ts:List PV)(C:CH)(Q:K1):Prop
 |mk(pts:List Pt)(vv:Addr)(V:Vl)(x:Prt)(y:Pt)(z0:ts=[.tup (pts.map Pt.pv),.ref vv,x.pv])(z1:pts.length<=6)(z2:(kJ pts).Nodup)(z3:y∈pts)(z4:y.name=x.name)(z5:C vv=some (.dP (vlP V)))(z6:(x.gives.length<=4/\x.downs.length<=60/\(tX V y x.path).length<=4))(z7:∀aa C',C aa=none->C' aa=some (.dT (yW x (tX V y x.path)))->Gr C C'->Q (.ref aa) C'):gAns ts C Q
theorem Zf(T:Txt P w K mg a):FnOk P w K mg base CX0 2 (a.f 43) (a.d 43) U2 (spC K gAns):=by
 have S:=(T.F 43 rfl).s;have eG:=wC (base:=base) T
 refine(T.F 43 rfl).ok (fun ts C R h=>?_) fun a3 A a8 s H E U=>⟨_,(xQ (bR (cv 2) (gB rfl (pX (cg1 3 S.nd) (pX (cg1 4 S.nd) (pX (cg1 5 S.nd) (pX (cg1 6 S.nd) tY))))))
  (xQ (cs1 7 S.nd (cx (cf (T.F 42 rfl) eG U (qQ (cv 0) (ca1 (cv 4)))) zQ))
  (xQ (nQ (cw_pt (cw_and (ZM (op_pin (kB U)) cop_pin (cv 3) (cv 1) rfl) (cw_and1 (ct2 cX aQ (cx (GA (kB U) (cv 1) (cv 3) (fun _ _=>rfl)) zQ) (cv 4))))) (kQ (cs1 7 S.nd (cx (GA (kB U) (cv 1) (cv 3) (fun _ _=>rfl)) zQ))) cQ)
  (xQ (cs1 8 S.nd kI)
  (xQ (bM PassesOwn.never rfl (dX (qQ (pQ (qQ wQ (ca1 (cv 5)))) (qQ (pQ (qQ wQ (ca1 (cv 6)))) (ca1 (pQ (qQ wQ (ca1 (cv 7)))))))) (gB rfl (pX (cg1 9 S.nd) (pX (cg1 10 S.nd) tY))) (kQ (nY PassesOwn.never rfl (cv 10) (gB rfl (pX (cg1 11 S.nd) (pX (cg1 12 S.nd) tY))) (kQ (iA (eX U) (cv 8) (pQ (qQ (cv 9) (ca1 (cv 11)))) (cv 12))))))
  (kQ (gQ (cv 8)))))))),?_⟩
 .obtain ⟨G,Z,V,x,y,rfl,_⟩:=h;rfl
 rintro ts C R ⟨G,Z,V,x,y,rfl,hl,ay,hy,hn,hv,⟨l1,l2,l3⟩,aq⟩;refine kZ ?_;refine⟨rfl,?_⟩;refine qZ (qZ (qZ (qZ (yB ?_))))
 try dsimp only
 refine uQ ?_;refine⟨G,y,by rw[hn],hl,ay,hy,fun C1 ae=>?_⟩;refine mX rfl ?_;have aj:=ae _ _ hv;refine iQ (fun ab C'=>C'=C1/\ab=[some (.tup (G.map Pt.pv)),some (.ref Z),some x.pv,some (bZ x.path),some (.str x.name),some (.tup (x.gives.map dQ)),some (.tup (x.downs.map dQ)),some (.tup ((tX V y x.path).map dQ)),none,none,none,none,none]) (fun L j=>?_) ?_
 .refine pin_s aj (xY _) ?_
  rw[pE];unfold tX at j
  cases e:tP V x.path with
  |none =>
   rw[e] at j;refine wZ rfl ?_;refine rM rfl ?_;refine xX ?_;exact j _ _ ⟨rfl,rfl⟩
  |some v =>
   rw[e] at j;dsimp only at j;refine nZ rfl ?_;refine pix_s aj (xY _) (by rw[pE,e];rfl) ?_;refine mX tQ ?_;refine gX (lQ _ _) ?_
   by_cases h:v.1=x.name
   .rw [Ac (h.trans hn.symm)] at j
    refine nZ (Af h) ?_;refine pix_s aj (xY _) (by rw[pE,e];rfl) ?_;refine mX rfl ?_;exact j _ _ ⟨rfl,rfl⟩
   .rw [Ad (fun z=>h (z.trans hn))] at j
    refine wZ (AR h) ?_;refine xX ?_;exact j _ _ ⟨rfl,rfl⟩
 generalize a5:tX V y x.path=g at l3 aq;rintro ab C' ⟨rfl,rfl⟩;refine uQ ?_;intro aa av;have af:=vK ae av;refine iQ (fun ab ak=>∃J I q B,ab=[some (.tup (G.map Pt.pv)),some (.ref Z),some x.pv,some (bZ x.path),some (.str x.name),some (.tup (x.gives.map dQ)),some (.tup (x.downs.map dQ)),some (.tup (g.map dQ)),some (.ref aa),J,I,q,B]/\ak aa=some (.dT (yW x g))/\Gr C ak) (fun L j=>?_) ?_
 .refine ⟨zz 2 rfl,?_⟩
  refine⟨zz 2 rfl,?_⟩;refine⟨zz 2 rfl,?_⟩;refine⟨zz 3 rfl,fun p hp=>?_⟩;have ai:p≠aa:=fun z=>by subst z;rw[jQ] at hp;cases hp
  have ax:C p=none:=by rw[yQ ai] at hp;exact vK ae hp
  refine⟨4,?_⟩
  have aw:∀i,(oV ((wL x g).take i) []).length<=100:=by
   intro i;have ao:=zV (s:="take") x.gives [];have a4:=zV (s:="down") x.downs (tZ "take" x.gives []);have f3:=zV (s:="box") g (tZ "down" x.downs (tZ "take" x.gives []));have ao:(tZ "take" x.gives []).length<=0+x.gives.length:=ao
   match i with
   |0=>exact Ab _
   |1=>show(tZ "take" x.gives []).length<=100;lia
   |2=>show(tZ "down" x.downs (tZ "take" x.gives [])).length<=100;lia
   |i+3=>rw[BB (by show 3<=i+3;lia)];show(tZ "box" g (tZ "down" x.downs (tZ "take" x.gives []))).length<=100;lia
  refine vG (fun i F C'=>C' p=some (.lst ((wL x g).map srPV))/\∃J I q B,F=[some (.tup (G.map Pt.pv)),some (.ref Z),some x.pv,some (bZ x.path),some (.str x.name),some (.tup (x.gives.map dQ)),some (.tup (x.downs.map dQ)),some (.tup (g.map dQ)),some (.ref aa),J,I,q,B]/\C' aa=some (.dT (oV ((wL x g).take i) []))/\Gr C C') (fun _ _ _ h=>h.1) ?_ ?_ _ 0 _ _ ⟨jQ,_,_,_,_,rfl,by exact(yQ (Ne.symm ai))▸jQ,bW (bW ae af _) ax _⟩ rfl (Ab _)
  .rintro i z F C3 W ⟨m3,J,I,q,B,rfl,Y,N⟩ L1 ar
   rw[Ak] at W
   cases O:(wL x g)[i]? with
   |none=>rw[O] at W;cases W
   |some e =>
   rw[O] at W;cases W;have hi:=(AW.1 O).1
   have a6:e.2.length<=60:=by
    have ag:=Ae O;unfold wL at ag
    simp only[List.mem_cons,List.not_mem_nil,or_false] at ag
    rcases ag with rfl | rfl | rfl
    .lia
    .exact l2
    .lia
   refine⟨rfl,?_⟩;refine qZ (qZ (yB ?_))
   try dsimp only
   refine mF rfl ?_;refine uJ (fun zs F C'=>∃(D vs:List (Str×Int))(q B:Option PV),e.2=D++vs/\zs=vs.map dQ/\F=[some (.tup (G.map Pt.pv)),some (.ref Z),some x.pv,some (bZ x.path),some (.str x.name),some (.tup (x.gives.map dQ)),some (.tup (x.downs.map dQ)),some (.tup (g.map dQ)),some (.ref aa),some (.str e.1),some (.tup (e.2.map dQ)),q,B]/\C' p=some (.lst ((wL x g).map srPV))/\C' aa=some (.dT (tZ e.1 D (oV ((wL x g).take i) [])))/\Gr C C') ?_ ?_ _ _ _ ⟨[],e.2,_,_,rfl,rfl,rfl,m3,Y,N⟩
   .rintro z zs F C4 ⟨D,vs,az,a0,M,hz,rfl,m4,ah,g4⟩ L2 au
    cases vs with
    |nil=>cases hz
    |cons v vs =>
    obtain⟨rfl,rfl⟩:=BN hz;refine⟨rfl,?_⟩;refine qZ (qZ (yB ?_));refine⟨zz 2 rfl,?_⟩;have a7:D.length<=e.2.length:=by rw[M,AG];lia
    refine XY ah rfl (by have:=zV (s:=e.1) D (oV ((wL x g).take i) []);have:=aw i;lia) ?_;refine au _ _ ⟨D++[v],vs,_,_,by rw[AY];exact M,rfl,rfl,by exact(yQ ai)▸m4,?_,bW g4 af _⟩;rw[jQ]
    delta tZ
    rw[BO]
    rfl
   .rintro F C4 ⟨D,vs,az,a0,M,hz,rfl,m4,ah,g4⟩
    cases vs with
    |cons v vs=>cases hz
    |nil =>
    rw[Aj] at M;subst M;refine ar _ _ ⟨m4,_,_,_,_,rfl,?_,g4⟩;rw[ah];have et:(wL x g).take (i+1)=(wL x g).take i++[e]:=by rw[CV,O];rfl
    rw[et]
    delta oV
    rw[BO]
    rfl
  .rintro F C3 ⟨m3,J,I,q,B,rfl,Y,N⟩
   exact j _ _ ⟨_,_,_,_,rfl,Y,N⟩
 rintro ab C3 ⟨J,I,q,B,rfl,Y,N⟩;exact aq aa C3 af Y N
end
structure En where
 x:Prt
 pc:Pc
noncomputable def En.pv(e:En):PV:=.tup [bZ e.x.path,.str e.x.name,.tup (e.x.gives.map dQ),.tup (e.x.downs.map dQ),e.pc.pv]
noncomputable def zC(j:List Pt)(g:Str):Pt:=(j.find? fun y=>decide (y.name=g)).getD ⟨"",[],[],[]⟩
theorem gH: ∀{j}{y},(kJ j).Nodup->y∈j->y.name=q->zC j q=y
 |[],y,_,m,_=>nomatch m
 |z::j,y,g,m,e=>by
  have g:(z.name::kJ j).Nodup:=g;rw[Az] at g
  delta zC
  rw[A0]
  rcases Ai.1 m with rfl | m
  .rw [Af e];rfl
  .have B:¬ z.name=q:=fun h=>g.1 (by exact h▸e▸AN.2 ⟨y,m,rfl⟩)
   exact(AR B)▸gH g.2 m e
def tV(g:List Pt)(V:Vl)(x:Prt):Pc:=bJ (yW x (tX V (zC g x.name) x.path)) (zC g x.name)
noncomputable def nJ(x q:Prt):Prt:=⟨x.path++q.path,q.name,q.gives,mW x.downs q.downs⟩
noncomputable def dr(g:List Pt)(V:Vl):Nat->Prt->List En
 |0,_=>[]
 |n+1,x=>⟨x,tV g V x⟩::(Wt.prts (tV g V x).row [] []).flatMap fun q=>dr g V n (nJ x q)
structure lB(pts:List Pt)(k:Nat)(x:Prt):Prop where
 nm:(kJ pts)[k]?=some x.name
 gl:x.gives.length<=4
 gb:SBd x.gives
 db:SBd x.downs
 pl:x.path.length<=6 * k
 dl:x.downs.length<=6 * k
structure AtK(pts:List Pt)(V:Vl)(k:Nat)(x:Prt)(y:Pt):Prop where
 mem:y∈pts
 nm:y.name=x.name
 is:zC pts x.name=y
 ok:cU ((kJ pts).drop (k+1)) (vW k) y
 ab:ABd (yW x (tX V y x.path))
 row:fB ((kJ pts).drop (k+1)) 6 (tV pts V x).row
 pcs:Wt.pcs (tV pts V x).row<=vW k
 wcs:Wt.wcs (tV pts V x).row<=48
theorem oI(hs:pB B){V}(I:VOk V)(h:lB B k x):∃y,AtK B V k x y:=by
 have g:=h.nm;unfold kJ at g;rw[Ak] at g
 cases e:B[k]? with
 |none=>rw[e] at g;cases g
 |some y =>
  rw[e] at g;have G:=Av g;have F:=Ae e;have q:=gH hs.nd F G;have j:=hs.ok k y e;have D:=ans_bd h.gb h.db (jS I j x.path).1;refine⟨y,F,G,q,j,D,?_,?_,?_⟩
  .delta tV
   exact q▸Wg j.ls ⟨D,(fun _ z=>nomatch z),(fun _ z=>nomatch z),by rw[AB];exact j.fl⟩
  .delta tV
   rw[q];have:=mY (yW x (tX V y x.path)) y.ls [] ([],[],[]);have this:Wt.pcs (rQ (yW x (tX V y x.path)) y.ls [] ([],[],[])).1<=0+Ln.pws y.ls:=this;show Wt.pcs (rQ (yW x (tX V y x.path)) y.ls [] ([],[],[])).1<=vW k;have:=j.pw
   lia
  .delta tV
   rw[q];have:=wW (yW x (tX V y x.path)) y.ls [] ([],[],[]);have this:Wt.wcs (rQ (yW x (tX V y x.path)) y.ls [] ([],[],[])).1<=0+Ln.tws y.ls:=this;show Wt.wcs (rQ (yW x (tX V y x.path)) y.ls [] ([],[],[])).1<=48;have:=j.tw
   lia
theorem uY{V}(h:lB g k x)(F:AtK g V k x y)(I:q∈Wt.prts (tV g V x).row [] []):∃B,k < B/\lB g B (nJ x q)/\q.path≠[]/\q.path.length<=6/\q.downs.length<=6:=by
 have o:=(eE 6 _ [] [] F.row (fun _ z=>nomatch z)).1 q I;refine jZ o.path fun u e L J=>?_;have e:q.path=u:=e;obtain⟨j,G,D⟩:=CJ o.name;have M:q.downs.length<=0+6:=o.dl;refine⟨k+1+j,by lia,⟨?_,o.gl,o.gb,h.db.over o.db,?_,?_⟩,by rw[e];exact L,by rw[e];exact J,by lia⟩
 .have:((kJ g).drop (k+1))[j]?=some q.name:=by rw[AK G,D]
  rwa [List.getElem?_drop] at this
 .show (x.path++q.path).length<=_
  rw[AG,e];have:=h.pl
  lia
 .have:=zM x.downs q.downs
  have:=h.dl;show(mW x.downs q.downs).length<=_
  lia
theorem J3{α β:Type}{f:α->List β}: ∀(l:List α),(∀x∈l,(f x).length<=b)->(l.flatMap f).length<=l.length * b
 |[],_=>by simp
 |x::l,h=>by
  have h1:=J3 l fun y g=>h y (AH _ g);have h2:=h x AE;rw[Bv,AG,AL,Nat.add_mul,Nat.one_mul]
  lia
def lbd(m k:Nat):Nat:=if k=0 then 559 else 2 ^ m - 1
theorem dr_len(hs:pB g){V}(G:VOk V):∀n k x,lB g k x->(dr g V n x).length<=lbd (g.length - k) k:=by
 intro n
 induction n with
 |zero=>intro k x _;exact Ab _
 |succ n M =>
  intro k x h;obtain⟨y,B⟩:=oI hs G h
  have S:k < g.length:=by
   have:=(AW.1 h.nm).1;unfold kJ at this
   rwa [AB] at this
  have N:=hs.n6
  have h1:(dr g V (n+1) x).length<=1+vW k * (2 ^ (g.length - k - 1) - 1):=by
   rw[dr,AL]
   have I:=J3 (f:=fun q=>dr g V n (nJ x q)) (b:=2 ^ (g.length - k - 1) - 1) (Wt.prts (tV g V x).row [] []) fun q L=>by
    refine jZ (uY h B L) fun D O F _=>?_;have:=M D (nJ x q) F;unfold lbd at this;rw[Ad (by lia)] at this;have J:2 ^ (g.length - D)<=2 ^ (g.length - k - 1):=Dg (by decide) (by lia)
    lia
   rw[lK] at I;have:Wt.pcs (tV g V x).row * (2 ^ (g.length - k - 1) - 1)<=vW k * (2 ^ (g.length - k - 1) - 1):=Bz _ B.pcs
   lia
  delta lbd
  unfold vW at h1
  split
  .next j =>
   rw[Ac j] at h1;have J:2 ^ (g.length - k - 1)<=2 ^ 5:=Dg (by decide) (by lia)
   lia
  .next j =>
   rw[Ad j] at h1;have e:g.length - k=(g.length - k - 1)+1:=by lia
   rw[e,Nat.pow_succ];have:1<=2 ^ (g.length - k - 1):=Nat.one_le_two_pow
   lia
theorem J6(hs:pB g){V}(j:VOk V)(h:lB g k x):(dr g V n x).length<=559:=by
 have:=dr_len hs j n k x h;unfold lbd at this
 split at this
 .exact this
 .have q:=hs.n6
  have B:2 ^ (g.length - k)<=2 ^ 6:=Dg (by decide) (by lia)
  lia
section
variable {P:Program}{w:World}{K:Dj}{mg:Str->Option Value}{base:Heap}{a:Adr}
inductive gWi(n:Nat)(ts:List PV)(C:CH)(Q:K1):Prop
 |mk(pts:List Pt)(vv:Addr)(V:Vl)(x:Prt)(k:Nat)(z0:ts=[.tup (pts.map Pt.pv),.ref vv,x.pv])(z1:pB pts)(z2:VOk V)(z3:C vv=some (.dP (vlP V)))(z4:lB pts k x)(z5:pts.length<=k+n)(z6:∀p C',C p=none->C' p=some (.lst ((dr pts V n x).map En.pv))->Gr C C'->Q (.ref p) C'):gWi n ts C Q
theorem K0(T:Txt P w K mg a)n:FnOk P w K mg base CX0 (n+30) (a.f 44) (a.d 44) U2 (spC K (gWi n)):=by
 induction n with
 |zero =>
  refine fV fun ts C Q ⟨j,N,V,x,k,_,_,_,_,d,l,_⟩=>?_;have:=(AW.1 d.nm).1;unfold kJ at this;rw[AB] at this
  lia
 |succ n ih =>
 have S:=(T.F 44 rfl).s;have eG:=(wC (base:=base) T).mono (show 1<=n+30 by lia);have XJ:=(Zf (base:=base) T).mono (show 2<=n+30 by lia);have Qb:=(QP (base:=base) T).mono (show 29<=n+30 by lia);have cM:=(W0 (base:=base) T 6).mono (show 8<=n+30 by lia);have fS:=(JK (base:=base) T).mono (show 1<=n+30 by lia)
 refine(T.F 44 rfl).ok (fun ts C R h=>?_) fun az A bc s H E I=>⟨_,(xQ (cs1 3 S.nd (cf (T.F 10 rfl) Qb I (qQ (cf (T.F 42 rfl) eG I (qQ (cv 0) (ca1 (cx (cv 2) zQ)))) (ca1 (cf (T.F 43 rfl) XJ I (qQ (cv 0) (qQ (cv 1) (ca1 (cv 2)))))))))
  (xQ (cs1 4 S.nd (dX (ca1 (eQ vX wX (cv 2) (pQ (ca1 (cv 3)))))))
  (xQ (bM PassesOwn.never rfl (cf (T.F 41 rfl) cM I (qQ (cx (cv 3) zQ) (qQ (pQ yZ) (ca1 (pQ yZ))))) (gB rfl (pX (cg1 5 S.nd) (pX (cg1 6 S.nd) (pX (cg1 7 S.nd) (pX (cg1 8 S.nd) tY))))) (kQ (cs1 4 S.nd (eQ vX wX (cv 4) (cf (T.F 44 rfl) ih I (qQ (cv 0) (qQ (cv 1) (ca1 (pQ (qQ (eQ vX wX (cx (cv 2) zQ) (cv 5)) (qQ (cv 6) (qQ (cv 7) (ca1 (cf (T.F 40 rfl) fS I (qQ (cx (cv 2) zQ) (ca1 (cv 8)))))))))))))))))
  (kQ (gQ (cv 4)))))),?_⟩
 .obtain ⟨j,N,V,x,k,rfl,_⟩:=h;rfl
 rintro ts C R ⟨j,N,V,x,k,rfl,hs,Y,hv,F,hn,q⟩;obtain⟨y,B⟩:=oI hs Y F
 have a6:k < j.length:=by
  have:=(AW.1 F.nm).1;unfold kJ at this
  rwa [AB] at this
 have hN:=hs.n6;have hx:x.pv=.tup [bZ x.path,.str x.name,.tup (x.gives.map dQ),.tup (x.downs.map dQ)]:=rfl;refine uQ (yX hx rfl ⟨j,y,by rw[B.nm],hN,hs.nd,B.mem,fun C1 ah=>?_⟩);refine⟨j,N,V,x,y,rfl,hN,hs.nd,B.mem,B.nm,ah _ _ hv,⟨F.gl,by have:=F.dl;lia,(jS Y B.ok x.path).2⟩,fun aa C2 bb ma aq=>?_⟩;refine⟨y,aa,_,_,_,rfl,B.ok,ma,B.ab,fun O ar=>?_⟩;have ep:bJ (yW x (tX V y x.path)) y=tV j V x:=by delta tV;rw[B.is]
 rw[ep];generalize ab:tV j V x=g;have ao:=B.row;have ay:=B.pcs;rw[ab] at ao ay;refine uQ ⟨zz 1 rfl,?_⟩
 apply qH (by show 4+1<=sizeLine;decide)
 refine⟨zz 1 rfl,fun G av=>?_⟩;have ag:=(ah.trans aq).trans ar;have aj:=vK ag av;have Z:Gr C (vQ O G (.lst [En.pv ⟨x,g⟩])):=bW ag aj _;have m4:vQ O G (.lst [En.pv ⟨x,g⟩]) G=some (.lst [En.pv ⟨x,g⟩]):=jQ;show uT _ _ _ _ (vQ O G (.lst [En.pv ⟨x,g⟩]));generalize vQ O G (.lst [En.pv ⟨x,g⟩])=C4 at Z m4 ⊢;refine kZ (mX rfl ⟨by decide,?_⟩);refine⟨by decide,?_⟩
 have a3:vW k<=18:=by delta vW;split<;>decide
 refine⟨g.row,[],[],_,rfl,ao,by decide,by decide,by lia,fun pl C5 ax m5 g5=>?_⟩;have a9:=vK Z ax;have au:=Z.trans g5;refine⟨(Wt.prts g.row [] []).length+1,?_⟩;have af:dr j V (n+1) x=⟨x,g⟩::(Wt.prts g.row [] []).flatMap fun q=>dr j V n (nJ x q):=by rw[dr,ab]
 have aw:=J6 hs Y (n:=n+1) F;refine vG (fun i ρ C'=>C' pl=some (.lst ((Wt.prts g.row [] []).map Prt.pv))/\∃ff x5 x6 x7 x8,i<=(Wt.prts g.row [] []).length/\ρ=[some (.tup (j.map Pt.pv)),some (.ref N),some x.pv,some g.pv,some (.ref ff),x5,x6,x7,x8]/\C ff=none/\C' ff=some (.lst ((⟨x,g⟩::((Wt.prts g.row [] []).take i).flatMap fun q=>dr j V n (nJ x q)).map En.pv))/\Gr C C') (fun _ _ _ h=>h.1) ?_ ?_ _ 0 _ _ ⟨m5,G,_,_,_,_,Ab _,rfl,aj,g5 _ _ m4,au⟩ (by rw[AB];lia) (Ab _)
 .rintro i z ρ C6 M ⟨m6,ff,x5,x6,x7,x8,hi,rfl,ak,mf,U⟩ L hL
  rw[Ak] at M
  cases J:(Wt.prts g.row [] [])[i]? with
  |none=>rw[J] at M;cases M
  |some D =>
  rw[J] at M;cases M;have a8:=Ae J;refine eA (uY F B (by rwa [ab])) fun k' a5 dq pn bf a0=>?_;refine⟨rfl,qZ (qZ (qZ (qZ (yB (yX hx rfl ?_)))))⟩;have ba:=F.pl;have a4:=F.dl
  apply qH (uZ (by rw[AB,AB];lia))
  refine yX hx rfl ⟨x.downs,D.downs,rfl,by lia,fun C7 W=>⟨zz 4 rfl,?_⟩⟩
  have ec:PV.tup [PV.tup (x.path.map uK++D.path.map uK),.str D.name,.tup (D.gives.map dQ),.tup ((mW x.downs D.downs).map dQ)]=(nJ x D).pv:=by
   delta nJ Prt.pv bZ
   rw[AO]
  rw[ec];refine⟨j,N,V,nJ x D,k',rfl,hs,Y,W _ _ (U _ _ hv),dq,by lia,fun p8 C8 n8 m8 g8=>?_⟩;have et:(Wt.prts g.row [] []).take (i+1)=(Wt.prts g.row [] []).take i++[D]:=by rw[CV,J];rfl
  have en:(⟨x,g⟩::((Wt.prts g.row [] []).take (i+1)).flatMap fun q=>dr j V n (nJ x q)).map En.pv=(⟨x,g⟩::((Wt.prts g.row [] []).take i).flatMap fun q=>dr j V n (nJ x q)).map En.pv++(dr j V n (nJ x D)).map En.pv:=by
   rw[et,List.flatMap_append,Bv,List.flatMap_nil,Aj,<- AO]
   rfl
  have a7:((⟨x,g⟩::((Wt.prts g.row [] []).take (i+1)).flatMap fun q=>dr j V n (nJ x q)):List En).length<=559:=by
   refine Ah ?_ aw;rw[af,AL,AL]
   have:((Wt.prts g.row [] []).flatMap fun q=>dr j V n (nJ x q))=(((Wt.prts g.row [] []).take (i+1)).flatMap fun q=>dr j V n (nJ x q))++((Wt.prts g.row [] []).drop (i+1)).flatMap fun q=>dr j V n (nJ x q):=by
    rw[<- List.flatMap_append,List.take_append_drop]
   rw[this,AG]
   lia
  refine iM (g8 _ _ (W _ _ mf)) m8 (uZ ?_) fun p9 ae=>?_
  .rw [<- AG,<- en,AB];lia
  have ai:=(U.trans W).trans g8;refine hL _ _ ⟨Gr.new ae _ _ _ (g8 _ _ (W _ _ m6)),p9,_,_,_,_,((AW.1 J).1),rfl,vK ai ae,by rw[jQ,en],ai.trans (Gr.new ae _)⟩
 .rintro ρ C6 ⟨m6,ff,x5,x6,x7,x8,hi,rfl,ak,mf,U⟩
  refine q ff C6 ak ?_ U;rw[mf,af,AB,BB (AJ _)]
end
theorem Ge(hs:pB j){V}(F:VOk V):∀n k x,lB j k x->∀e∈dr j V n x,∃B,lB j B e.x/\e.pc=tV j V e.x:=by
 intro n
 induction n with
 |zero=>intro k x _ e g;exact nomatch g
 |succ n J =>
  intro k x h e g
  rcases Ai.1 g with rfl | g
  .exact ⟨k,h,rfl⟩
  .refine oQ (Ci.1 g) fun q I g=>?_
   obtain⟨y,G⟩:=oI hs F h;exact jZ (uY h G I) fun B _ D _=>J B _ D e g
theorem Gc{V}:∀n x,∀e∈dr F V n x,∃u,e.x.path=x.path++u:=by
 intro n
 induction n with
 |zero=>intro x e g;exact nomatch g
 |succ n B =>
  intro x e g
  rcases Ai.1 g with rfl | g
  .exact ⟨[],by rw[Aj]⟩
  .refine oQ (Ci.1 g) fun q D g=>?_
   obtain⟨u,j⟩:=B _ e g;exact⟨q.path++u,by rw[j];show(x.path++q.path)++u=_;rw[AY]⟩
noncomputable def nK(es:List En):List wK:=es.map fun e=>e.x.path
theorem J2{α:Type}{f}{g:α->wK}:∀(l:List α),l.Pairwise (fun x y=>Div (g x) (g y))->(∀x∈l,(nK (f x)).Nodup/\∀e∈f x,∃u,e.x.path=g x++u)->(nK (l.flatMap f)).Nodup
 |[],_,_=>BZ
 |x::l,B,h=>by
  rw[List.pairwise_cons] at B;obtain⟨h1,h2⟩:=h x AE
  delta nK at *
  rw[Bv,AO,Cz];refine⟨h1,(J2 l B.2 fun y j=>h y (AH _ j)),fun a J b L e=>?_⟩;obtain⟨D,M,rfl⟩:=AN.1 J;obtain⟨F,q,rfl⟩:=AN.1 L;refine oQ (Ci.1 q) fun y j q=>?_;obtain⟨u,G⟩:=h2 D M;obtain⟨v,I⟩:=(h y (AH _ j)).2 F q;have d:=(B.1 y j).ext u v;rw[<- G,<- I] at d
  exact d.ne e
theorem dr_nd(hs:pB I){V}(O:VOk V):∀n k x,lB I k x->(nK (dr I V n x)).Nodup:=by
 intro n
 induction n with
 |zero=>intro k x _;exact BZ
 |succ n U =>
  intro k x h;obtain⟨y,B⟩:=oI hs O h;show(x.path::nK _).Nodup;rw[Az];refine⟨fun S=>?_,?_⟩
  .refine oQ (AN.1 S) fun e D j=>oQ (Ci.1 D) fun q F D=>?_
   obtain⟨u,N⟩:=Gc n _ e D;refine Y7 (uY h B F) fun G _ _ Z _=>?_;rw[N] at j;have j:(x.path++q.path)++u=x.path:=j;have:=Bi List.length j;rw[AG,AG] at this;have:=List.length_pos_iff.2 Z
   lia
  .refine J2 (g:=fun q=>(nJ x q).path) _ (((eE 6 _ [] [] B.row (fun _ z=>nomatch z)).2).imp fun {a b}d=>?_) fun q F=>?_
   .exact el53 d fun c u v W Y L M n=>⟨x.path++c,u,v,W,Y,by show x.path++a.path=_;rw[L,AY],by show x.path++b.path=_;rw[M,AY],n⟩
   .exact jZ (uY h B F) fun G _ J _=>⟨U G _ J,Gc n _⟩
def Wh(g:List Pt):Prt:=⟨[],(g.head?.map (·.name)).getD "",[],[]⟩
theorem cW(hs:pB g):lB g 0 (Wh g):=by
 have:=hs.n1
 cases g with
 |nil=>exact absurd this (by show ¬ 1<=0;lia)
 |cons y g=>exact⟨rfl,Ab _,(fun _ z=>nomatch z),(fun _ z=>nomatch z),Ab _,Ab _⟩
def eJ(g:List Pt)(V:Vl):List En:=dr g V 6 (Wh g)
noncomputable def tE(V:Vl)(p:wK)(v:Str×List (Str×Int)):Vl:=if (V.any fun e=>decide (e.1=p))=true then V.map fun e=>if e.1=p then (e.1,v) else e else V++[(p,v)]
theorem Wp V p v:putG (vlP V) p (vPV v)=vlP (tE V p v):=by
 have h1:((vlP V).any fun g=>decide (g.1=p))=V.any fun e=>decide (e.1=p):=by
  delta vlP
  rw[List.any_map]
  rfl
 delta putG tE
 rw[h1]
 split
 .delta vlP
  rw[BJ,BJ];refine CD fun e _=>?_;show(if e.1=p then (e.1,vPV v) else (e.1,vPV e.2))=((if e.1=p then (e.1,v) else e).1,vPV (if e.1=p then (e.1,v) else e).2)
  split<;>rfl
 .delta vlP
  rw[AO]
  rfl
theorem JC{V}(h:VOk V)p(q:SBd v.2)(B:v.2.length<=4):VOk (tE V p v):=by
 have:∀e∈tE V p v,e.2=v\/e∈V:=by
  intro e g
  delta tE at g
  split at g
  .obtain ⟨x,j,rfl⟩:=AN.1 g
   split
   .exact .inl rfl
   .exact .inr j
  .rcases AX.1 g with g | g
   .exact .inr g
   .cases AD.1 g;exact .inl rfl
 refine⟨fun e g=>?_,fun e g=>?_⟩
 .rcases this e g with z | z
  .rwa [z]
  .exact h.b e z
 .rcases this e g with z | z
  .rwa [z]
  .exact h.l e z
theorem Wr V p v:(tE V p v).length<=V.length+1:=by
 delta tE
 split
 .rw [AB];lia
 .rw [AG,AQ];exact AJ _
theorem VOk.nil:VOk []:=⟨fun _ z=>(nomatch z),fun _ z=>(nomatch z)⟩
section
variable {P:Program}{w:World}{K:Dj}{mg:Str->Option Value}{base:Heap}{a:Adr}
inductive YZ(ts:List PV)(C:CH)(Q:K1):Prop
 |mk(pts:List Pt)(vv:Addr)(V:Vl)(z0:ts=[.tup (pts.map Pt.pv),.ref vv])(z1:pB pts)(z2:VOk V)(z3:C vv=some (.dP (vlP V)))(z4:∀p C',C p=none->C' p=some (.lst ((eJ pts V).map En.pv))->Gr C C'->Q (.ref p) C'):YZ ts C Q
theorem QO(T:Txt P w K mg a):FnOk P w K mg base CX0 37 (a.f 45) (a.d 45) U9 (spC K YZ):=by
 have D:=K0 (base:=base) T 6;refine(T.F 45 rfl).ok (fun ts C R h=>?_) fun M A O s H E G=>⟨_,(kQ (gQ (cf (T.F 44 rfl) D G (qQ (cv 0) (qQ (cv 1) (ca1 (pQ (qQ (pQ yZ) (qQ (cx (cx (cv 0) zQ) zQ) (qQ (pQ yZ) (ca1 (pQ yZ)))))))))))),?_⟩
 .obtain ⟨j,B,V,rfl,_⟩:=h;rfl
 rintro ts C R ⟨j,B,V,rfl,hs,F,I,q⟩;have N:=hs.n6
 cases j with
 |nil=>exact absurd hs.n1 (by show ¬ 1<=0;lia)
 |cons y j =>
 refine⟨by decide,?_⟩;refine mX tQ (mX tQ ⟨by decide,?_⟩);refine⟨by decide,?_⟩;refine⟨zz 4 rfl,?_⟩;exact⟨y::j,B,V,Wh (y::j),0,rfl,hs,F,I,(cW hs),by omega,fun p C' L J g=>q p C' L J g⟩
inductive Y2(ts:List PV)(C:CH)(Q:K1):Prop
 |mk(t:Addr)(y:Pt)(ns:List Int)(z0:ts=[.ref t,y.pv])(z1:Tp C t ns)(z2:y.first.length<=4)(z3:∀bs C',SBd bs->bs.length<=4->Tp C' t ns->Ex t C C'->Q (.tup (bs.map dQ)) C'):Y2 ts C Q
theorem W8(T:Txt P w K mg a):FnOk P w K mg base CX0 3 (a.f 46) (a.d 46) U5 (spC K Y2):=by
 have yV:=jM (base:=base) T;refine(T.F 46 rfl).ok (fun ts C R h=>?_) fun ab A ae s H E W=>⟨_,(kQ (gQ (ctp T.hX (GH rfl (show(["_law_name","_law_first","_law_tape_here","_law_part_here"]:List Str).Nodup by decide +kernel) (mR (N:=U5) (sc:=fX (top 60)) rfl rfl rfl (by decide +kernel)) (pF (cx (cv 1) zQ)) (fun _ _ _ _ _=>aJ) (fun _ _ _ _ _=>(pQ (qQ (cv 0) (ca1 (cf (T.F 27 rfl) yV W (ca1 (cv 2))))))))))),?_⟩
 .obtain ⟨t,y,ns,rfl,_⟩:=h;rfl
 rintro ts C R ⟨t,y,ns,rfl,U,hl,q⟩;refine mX rfl (Vw (fun zs acc C'=>∃(g:List (Str×Int))(bs:List (Str×Int)),zs=g.map dQ/\acc=bs.map dQ/\SBd bs/\bs.length+g.length=y.first.length/\Tp C' t ns/\Ex t C C') ?_ ?_ _ _ _ ⟨y.first,[],rfl,rfl,(fun _ z=>nomatch z),BI _,U,Ex.refl⟩)
 .rintro z zs acc C1 ⟨g,bs,B,rfl,G,I,D,F⟩
  cases g with
  |nil=>cases B
  |cons u g =>
  obtain⟨rfl,rfl⟩:=BN B;refine⟨[.str u.1,.int u.2],rfl,rfl,fun L S=>?_⟩;rw[AL] at I;refine⟨t,ns,rfl,D,fun i C2 Y Z M O=>⟨zz 2 rfl,S _ _ ⟨?_,g,bs++[(u.1,i)],rfl,by rw[AO];rfl,fun c j=>?_,by rw[AG,AQ];lia,M,F.trans O⟩⟩⟩
  .rw [AB]
   exact AV (show bs.length < 5 by lia) (by decide)
  .rcases AX.1 j with j | j
   .exact G c j
   .cases AD.1 j;exact⟨Y,Z⟩
 .rintro acc C1 ⟨g,bs,B,rfl,G,I,D,F⟩ p J
  cases g with
  |cons u g=>cases B
  |nil =>
  exact cK jQ (q bs _ G (by lia) (D.new J _) (F.trans (Ex.new J _)))
inductive JZ(ts:List PV)(C:CH)(Q:K1):Prop
 |mk(t:Addr)(pts:List Pt)(ns:List Int)(z0:ts=[.ref t,.tup (pts.map Pt.pv)])(z1:Tp C t ns)(z2:pB pts)(z3:∀vv V C',VOk V->C vv=none->C' vv=some (.dP (vlP V))->vv≠t->Tp C' t ns->Ex t C C'->Q (.ref vv) C'):JZ ts C Q
theorem K2(T:Txt P w K mg a):FnOk P w K mg base CX0 38 (a.f 47) (a.d 47) U15 (spC K JZ):=by
 have S:=(T.F 47 rfl).s;have pP:=QO (base:=base) T;have fQ:=(sZ (base:=base) T).mono (show 1<=37 by decide);have eG:=(wC (base:=base) T).mono (show 1<=37 by decide);have bE:=(W8 (base:=base) T).mono (show 3<=37 by decide);have yV:=(jM (base:=base) T).mono (show 2<=37 by decide)
 refine(T.F 47 rfl).ok (fun ts C R h=>?_) fun bc A bh s H E B=>⟨_,(xQ (cs1 2 S.nd Kg)
  (xQ (bM PassesOwn.never rfl (cf (T.F 45 rfl) pP B (qQ (cv 1) (ca1 Kg))) (gB rfl (pX (cg1 3 S.nd) (pX (cg1 4 S.nd) (pX (cg1 5 S.nd) (pX (cg1 6 S.nd) (pX (cg1 7 S.nd) tY)))))) (xQ (cs1 8 S.nd (cf (T.F 25 rfl) fQ B (qQ (cv 0) (ca1 zQ))))
  (kQ (nQ (ct2 wD vU (cv 8) zQ) (xQ (cs1 9 S.nd (cf (T.F 42 rfl) eG B (qQ (cv 1) (ca1 (cv 4)))))
  (xQ (nQ (ct2 cX aQ (cv 8) zQ) (kQ (cs1 9 S.nd (cx (cv 1) (cf (T.F 25 rfl) fQ B (qQ (cv 0) (ca1 (cln T.jJ (cv 1)))))))) cQ)
  (kQ (Kc (kB B) (cv 2) (cv 3) (pQ (qQ (cx (cv 9) zQ) (ca1 (cf (T.F 46 rfl) bE B (qQ (cv 0) (ca1 (cv 9))))))))))) cQ))))
  (xQ (nQ (ct2 cX aQ (cf (T.F 25 rfl) fQ B (qQ (cv 0) (ca1 zQ))) zQ) (xQ (cs1 9 S.nd (cx (cv 1) (cf (T.F 25 rfl) fQ B (qQ (cv 0) (ca1 (cln T.jJ (cv 1)))))))
  (kQ (Kc (kB B) (cv 2) (pQ (ca1 (pQ (qQ (cf (T.F 27 rfl) yV B (ca1 (cv 0))) (ca1 (cf (T.F 25 rfl) fQ B (qQ (cv 0) (ca1 zQ)))))))) (pQ (qQ (cx (cv 9) zQ) (ca1 (cf (T.F 46 rfl) bE B (qQ (cv 0) (ca1 (cv 9)))))))))) cQ)
  (kQ (gQ (cv 2)))))),?_⟩
 .obtain ⟨t,g,ns,rfl,_⟩:=h;rfl
 rintro ts C R ⟨t,g,ns,rfl,hT,hs,a9⟩;have h6:=hs.n6;have h1:=hs.n1
 apply uQ
 intro G ab;have N:=hT.ne ab;refine iQ (fun O C'=>∃V x3 x4 x5 x6 J x8 D,O=[some (.ref t),some (.tup (g.map Pt.pv)),some (.ref G),x3,x4,x5,x6,J,x8,D]/\VOk V/\V.length<=559/\C' G=some (.dP (vlP V))/\Tp C' t ns/\Ex t C C') (fun L0 af=>?_) ?_
 rotate_left
 .rintro O C3 ⟨V,x3,x4,x5,x6,J,x8,D,rfl,I,ao,Z,T3,W⟩
  refine iQ (fun O C'=>∃V D,O=[some (.ref t),some (.tup (g.map Pt.pv)),some (.ref G),x3,x4,x5,x6,J,x8,D]/\VOk V/\C' G=some (.dP (vlP V))/\Tp C' t ns/\Ex t C C') (fun L0 af=>?_) ?_
  .refine ⟨t,3,ns,rfl,T3,by decide,by decide,fun v C4 ba bb U F=>?_⟩
   have ae:=F _ _ N Z;refine gX (rX _ _) (gZ (fun hb=>?_) fun hb=>?_)
   .refine uQ (qB ?_)
    rw[AB];refine⟨t,_,ns,rfl,U,by lia,by lia,fun j C6 j0 j1 T6 Y=>?_⟩
    obtain⟨y0,bg⟩:∃y0,y0∈g:=by
     cases g with
     |nil=>exact absurd h1 (by show ¬ 1<=0;lia)
     |cons y _=>exact⟨y,AE⟩
    apply mX (nV y0 j0 j1)
    have ai:g.getD j.toNat y0∈g:=by
     rw[A2,AK (by lia)];exact A8 _
    generalize g.getD j.toNat y0=q at ai ⊢
    have au:q.first.length<=4:=by
     obtain⟨j,hj,ej⟩:=CJ ai;exact(hs.ok j q (by rw[AK hj,ej])).fl
    refine mX tQ ⟨t,q,ns,rfl,T6,au,fun bs C7 ar aq T7 e7=>⟨zz 2 rfl,?_⟩⟩;refine⟨t,ns,rfl,T7,fun i C8 i0 i1 T8 e8=>⟨t,3,ns,rfl,T8,by decide,by decide,fun w C9 w0 w1 T9 e9=>?_⟩⟩;refine⟨zz 2 rfl,?_⟩;refine⟨zz 1 rfl,?_⟩;have ax:Ex t C4 C9:=fun b o n h=>e9 b o n (e8 b o n (e7 b o n (Y b o n h)));have a7:=ax _ _ N ae
    apply WB a7 rfl (by delta vlP;rw[AB];lia)
    rw[show PV.tup [PV.str q.name,PV.tup (bs.map dQ)]=vPV (q.name,bs) from rfl,Wp];refine af _ _ ⟨tE V [[.inl (some i),.inl (some w)]] (q.name,bs),_,rfl,JC I _ ar aq,jQ,T9.put N _,?_⟩;have D:=(W.trans F).trans ax;exact D.put ab _
   .exact xX (af _ _ ⟨V,_,rfl,I,ae,U,W.trans F⟩)
  .rintro O C4 ⟨V,D,rfl,I,Z,U,F⟩
   exact a9 G V C4 I ab Z N U F
 intro a3 ah;have a0:G≠a3:=fun z=>by subst z;rw[jQ] at ah;cases ah
 have T1:=(hT.new ab (.dP [])).new ah (.dP []);refine⟨g,a3,[],rfl,hs,VOk.nil,jQ,fun p C2 av a6 ak=>?_⟩
 have T2:Tp C2 t ns:=by
  obtain⟨⟨aj,b1,c1,e1,r1⟩,l1⟩:=T1;exact⟨⟨aj,b1,c1,ak _ _ e1,r1⟩,l1⟩
 have aw:=T1.ne av;have a8:p≠G:=fun z=>by rw[z,yQ a0,jQ] at av;cases av
 have a4:=((Gr.new ab _).trans (Gr.new ah _)).trans ak;have bf:(eJ g []).length<=559:=J6 hs VOk.nil (cW hs);refine⟨(eJ g []).length+1,vG (fun i ρ C'=>C' p=some (.lst ((eJ g []).map En.pv))/\∃V x3 x4 x5 x6 J x8 D,ρ=[some (.ref t),some (.tup (g.map Pt.pv)),some (.ref G),x3,x4,x5,x6,J,x8,D]/\VOk V/\V.length<=i/\i<=(eJ g []).length/\C' G=some (.dP (vlP V))/\Tp C' t ns/\Ex t C C') (fun _ _ _ h=>h.1) ?_ ?_ _ 0 _ _ ⟨a6,[],_,_,_,_,_,_,_,rfl,VOk.nil,AJ _,Ab _,(ak _ _ (by rw[yQ a0];exact jQ)),T2,(fun b o _ h=>a4 b o h)⟩ (by rw[AB];lia) (Ab _)⟩
 .rintro i z ρ C3 hz ⟨m3,V,x3,x4,x5,x6,J,x8,D,rfl,I,ao,hi,Z,T3,W⟩ L hL
  rw[Ak] at hz
  cases ag:(eJ g [])[i]? with
  |none=>rw[ag] at hz;cases hz
  |some M =>
  rw[ag] at hz;cases hz;have az:=(AW.1 ag).1;refine oQ (Ge hs VOk.nil 6 0 _ (cW hs) M (Ae ag)) fun k' du _=>el11 (oI hs VOk.nil du) fun y ha=>⟨rfl,qZ (qZ (qZ (qZ (qZ (yB ?_)))))⟩
  try dsimp only
  refine uQ ⟨t,6,ns,rfl,T3,by decide,by decide,fun v C4 ba bb U F=>?_⟩;have m4:=F _ _ aw m3;have ae:=F _ _ N Z;refine i_i (gZ (fun hb=>?_) fun hb=>?_)
  .refine uQ ⟨g,y,by rw[ha.nm],h6,hs.nd,ha.mem,fun C5 g5=>?_⟩
   have T5:Tp C5 t ns:=by
    obtain⟨⟨aj,b1,c1,e1,r1⟩,l1⟩:=U;exact⟨⟨aj,b1,c1,g5 _ _ e1,r1⟩,l1⟩
   refine iQ (fun O C'=>∃z∈g,O=[some (.ref t),some (.tup (g.map Pt.pv)),some (.ref G),some (bZ M.x.path),some (.str M.x.name),some (.tup (M.x.gives.map dQ)),some (.tup (M.x.downs.map dQ)),some M.pc.pv,some (.int v),some z.pv]/\Tp C' t ns/\Ex t C5 C') (fun L1 ay=>?_) ?_
   .refine gX (rX _ _) (gZ (fun a5=>?_) fun a5=>?_)
    .apply qB
     rw[AB];refine⟨t,_,ns,rfl,T5,by lia,by lia,fun j C6 j0 j1 T6 Y=>?_⟩;refine mX (nV y j0 j1) (ay _ _ ⟨g.getD j.toNat y,?_,rfl,T6,Y⟩);rw[A2,AK (by lia)];exact A8 _
    .exact xX (ay _ _ ⟨y,ha.mem,rfl,T5,Ex.refl⟩)
   rintro O C6 ⟨q,ai,rfl,T6,Y⟩
   have au:q.first.length<=4:=by
    obtain⟨j,hj,ej⟩:=CJ ai;exact(hs.ok j q (by rw[AK hj,ej])).fl
   refine mX tQ ⟨t,q,ns,rfl,T6,au,fun bs C7 ar aq T7 e7=>⟨zz 2 rfl,?_⟩⟩;have m7:=e7 _ _ aw (Y _ _ aw (g5 _ _ m4))
   apply WB (e7 _ _ N (Y _ _ N (g5 _ _ ae))) (xY _) (by delta vlP;rw[AB];lia)
   rw[show PV.tup [PV.str q.name,PV.tup (bs.map dQ)]=vPV (q.name,bs) from rfl,Wp];refine hL _ _ ⟨by rw[yQ a8];exact m7,tE V M.x.path (q.name,bs),_,_,_,_,_,_,_,rfl,JC I _ ar aq,by have:=Wr V M.x.path (q.name,bs);lia,az,jQ,T7.put N _,?_⟩;have J:Ex t C C7:=fun b o n h=>e7 b o n (Y b o n (g5 b o (F b o n (W b o n h))));exact J.put ab _
  .exact xX (hL _ _ ⟨m4,V,_,_,_,_,_,_,_,rfl,I,by lia,az,ae,U,W.trans F⟩)
 .rintro ρ C3 ⟨m3,V,x3,x4,x5,x6,J,x8,D,rfl,I,ao,hi,Z,T3,W⟩
  exact af _ _ ⟨V,_,_,_,_,_,_,_,rfl,I,by rw[AB] at ao;lia,Z,T3,W⟩
end
theorem upd_m(m:C p=some (.dK (cs.map kOf)))(h:cs.length+g.length<=1000)(q:Q .non (vQ C p (.dK ((lZ cs g).map kOf)))):Kk (.ref p) [.tup (g.map dQ)] C Q:=by
 delta Kk
 show(match C p,lW (g.map dQ) with | some (.dK kvs),some ps=>kvs.length+ps.length<=sizeLine/\Q .non (vQ C p (.dK (gW kvs ps))) | _,_=>False);rw[m,iE];dsimp only;rw[JL,AB,AB];exact⟨Ah h (by decide),q⟩
theorem KC(m:C p=some (.dK (cs.map kOf)))(h:cs.length < 64)(q:∀g,C g=none->Q (.ref g) (vQ C g (.lst ((mG cs).map dQ)))):pM [.vw p] C Q:=by
 delta pM
 show(match C p with | some (.dK kvs)=>(match siK kvs with | some cs=>cs.length < 64/\∀p,C p=none->Q (.ref p) (vQ C p (.lst ((mG cs).map dQ))) | none=>False) | _=>False);rw[m];dsimp only;rw[si_k];exact⟨h,q⟩
theorem items_s(g:j[i]?=some (some (.ref p)))(m:C p=some (.dK kvs))(q:Q (.vw p) C):fI (cZ i) j C Q:=by
 delta fI cZ
 rw[g];dsimp only
 rwa [m]
section
variable {P:Program}{w:World}{K:Dj}{mg:Str->Option Value}{base:Heap}{a:Adr}
theorem uD(T:Txt P w K mg a):FnOk P w K mg base CX0 1 (a.f 16) (a.d 16) ["downs","nearer"] (spC K YT):=by
 refine(T.F 16 rfl).ok (fun ts C R h=>?_) fun F A M s H E L=>⟨_,(xQ (cs1 2 ((T.F 16 rfl).s).nd (aZ (tR rfl) XB rfl T.kN rfl (ca1 (cv 0))))
  (xQ (zZ (ce_bmD DG PySem.F.slot_dict_update PySem.F.type_dict_update (mt_updP rfl) cmt_upd (cv 2) (ca1 (cv 1))))
  (kQ (gQ (ctp T.hX (zX (yU rfl) cF rfl T.rF rfl (ca1 (GD (cv 2))))))))),?_⟩
 .obtain ⟨ds,g,rfl,_⟩:=h;rfl
 rintro ts C R ⟨ds,g,rfl,G,q⟩;have I:=Ah (eV ds []) (by show 0+ds.length<=ds.length;lia);have J:=eV g (lZ [] ds);refine Gg (by lia) fun p j=>?_;refine⟨YH jQ,upd_m jQ (by lia) ?_⟩;refine items_s rfl jQ (KC jQ (by lia) fun p2 D=>?_);refine cK jQ (q _ ?_);have B:=bW (show Gr C (vQ C p (.dK ((lZ [] ds).map kOf))) from Gr.new j _) j (.dK ((lZ (lZ [] ds) g).map kOf));exact B.trans (Gr.new D _)
inductive gGa(d:Nat)(ts:List PV)(C:CH)(Q:K1):Prop
 |mk(r:List Wt)(s:wK)(ds:List (Str×Int))(rs:List Str)(t:Addr)(acc:List PV)(z0:ts=[.tup (Wt.pvs r),bZ s,.tup (ds.map dQ),.ref t])(z1:fB rs d r)(z2:s.length+d<=50)(z3:ds.length+d<=50)(z4:acc.length+Wt.pcs r<=1000)(z5:C t=some (.lst acc))(z6:∀C',C' t=some (.lst (acc++(Wt.prts r s ds).map Prt.pv))->ExS [t] C C'->Q .non C'):gGa d ts C Q
theorem K5(T:Txt P w K mg a)d:FnOk P w K mg base CX0 (d+2) (a.f 15) (a.d 15) ["row","spots","downs","told"] (spC K (gGa d)):=by
 have ag:∀n,(∀d',n=d'+1->FnOk P w K mg base CX0 (n+1) (a.f 15) (a.d 15) ["row","spots","downs","told"] (spC K (gGa d')))->FnOk P w K mg base CX0 (n+2) (a.f 15) (a.d 15) ["row","spots","downs","told"] (spC K (gGa n)):=by
  intro n ih;have S:=(T.F 15 rfl).s;have dB:=(uD (base:=base) T).mono (show 1<=n+1 by lia)
  have uL:FnOk P w K mg base CX0 (n+1) (a.f 15) (a.d 15) ["row","spots","downs","told"] (spC K (fun ts C Q=>∃d',n=d'+1/\gGa d' ts C Q)):=by
   cases n with
   |zero=>exact fV fun ts C Q ⟨d',e,_⟩=>by lia
   |succ d' =>
    have:=ih d' rfl
    have e:(fun ts C Q=>∃N,d'+1=N+1/\gGa N ts C Q)=gGa d':=by
     funext ts C Q
     refine propext ⟨fun⟨N,e,h⟩=>?_,fun h=>⟨d',rfl,h⟩⟩;cases Aw e;exact h
    rwa [e]
  refine(T.F 15 rfl).ok (fun ts C R h=>?_) fun au A ay s H E Y=>⟨_,(kQ (nY PassesOwn.never rfl (cv 0) (cg1 4 S.nd) (xQ (cs1 5 S.nd (eQ vX wX (cv 1) (pQ (ca1 (cx (cv 4) zQ)))))
  (kQ (nQ (ct2 cX aQ (cx (cv 4) zQ) wQ) (kQ (zZ (cap (cv 3) (pQ (qQ (cv 5) (qQ (cx (cv 4) zQ) (qQ (cx (cv 4) zQ) (ca1 (cv 2))))))))) (kQ (nQ (ct2 cX aQ (cx (cv 4) zQ) wQ) (kQ (zZ (cf (T.F 15 rfl) uL Y (qQ (cx (cv 4) zQ) (qQ (cv 5) (qQ (cf (T.F 16 rfl) dB Y (qQ (cv 2) (ca1 (pQ (ca1 (pQ (qQ (cx (cv 4) zQ) (ca1 (cx (cv 4) zQ))))))))) (ca1 (cv 3)))))))) (kQ (zZ (cf (T.F 15 rfl) uL Y (qQ (cx (cv 4) zQ) (qQ (cv 5) (qQ (cv 2) (ca1 (cv 3))))))))))))))),?_⟩
  .obtain ⟨r,s,ds,rs,t,acc,rfl,_⟩:=h;rfl
  rintro ts C R ⟨r,s,ds,rs,t,acc,rfl,ao,hs,av,ai,ak,aq⟩;refine mF rfl (uJ (fun zs ρ C'=>∃x4 x5 q vs,r=q++vs/\zs=Wt.pvs vs/\ρ=[some (.tup (Wt.pvs r)),some (bZ s),some (.tup (ds.map dQ)),some (.ref t),x4,x5]/\C' t=some (.lst (acc++(Wt.prts q s ds).map Prt.pv))/\ExS [t] C C') ?_ ?_ _ _ _ ⟨_,_,[],r,rfl,rfl,rfl,by show C t=some (.lst (acc++[]));rw[Aj];exact ak,ExS.refl⟩)
  .rintro z zs ρ C1 ⟨x4,x5,q,vs,e,I,rfl,D,F⟩ L W
   cases vs with
   |nil=>cases I
   |cons u vs =>
   obtain⟨rfl,rfl⟩:=BN I;have Z:=ao.1 u (e▸AU _ AE);have aw:acc.length+(Wt.pcs q+(u.pc+Wt.pcs vs))<=1000:=by have:=ai;rwa [e,Wt.pcs_app] at this
   have ab:(acc++(Wt.prts q s ds).map Prt.pv).length=acc.length+Wt.pcs q:=by rw[AG,AB,lK]
   have O:Wt.prts (q++[u]) s ds=Wt.prts q s ds++u.prt s ds:=by rw[QF,Wt.prts,Wt.prts,Aj]
   refine wB (wt_pv u) fun wd rest ep ax=>uQ (yX ep Kv ⟨zz 1 rfl,?_⟩)
   apply qH (uZ (by rw[AB];show s.length+1<=1000;lia))
   try dsimp only
   have eh:PV.tup (s.map uK++[uK u.sp])=bZ (s++[u.sp]):=by delta bZ;rw[AO];rfl
   rw[eh]
   cases n with
   |zero=>exact Z.elim
   |succ d' =>
   cases u with
   |part sp B g =>
    have ep:(Wt.part sp B g).pv=.tup [.str "part",uK sp,.str B,.tup (g.map dQ)]:=by rw[Wt.pv]
    refine yX ep tQ (gX (lQ _ _) (nZ rfl ⟨pW D,yX ep rfl (yX ep rfl ⟨zz 4 rfl,?_⟩)⟩))
    apply vL D (ab▸An (show acc.length+Wt.pcs q<=1000 by lia) (by decide))
    refine W _ _ ⟨_,_,q++[.part sp B g],vs,by rw[AY];exact e,rfl,rfl,?_,F.at (by simp) _⟩;rw[jQ,O,AO,Wt.prt,AY]
    rfl
   |give sp B i j =>
    refine kR Z fun _ ar o1 o2=>?_;have ep:(Wt.give sp B i j).pv=.tup [.str "give",uK sp,.str B,.int i,.tup (Wt.pvs j)]:=by rw[Wt.pv]
    have aj:Wt.pcs j=(Wt.give sp B i j).pc:=by rw[Wt.pc]
    refine yX ep tQ (gX (lQ _ _) (wZ rfl (yX ep tQ (gX (lQ _ _) (nZ rfl (yX ep rfl (yX ep rfl (yX ep rfl ⟨zz 2 rfl,?_⟩))))))));refine⟨zz 1 rfl,?_⟩;refine⟨ds,[(B,i)],rfl,by show ds.length+1<=60;lia,fun C2 ae=>?_⟩;have af:=zM ds [(B,i)];have af:(mW ds [(B,i)]).length<=ds.length+1:=af;refine⟨d',rfl,j,s++[sp],mW ds [(B,i)],rs,t,_,rfl,⟨o1,o2⟩,by rw[AG,AQ];lia,by lia,by rw[ab];lia,ae _ _ D,fun C3 m3 U=>?_⟩
    refine W _ _ ⟨_,_,q++[.give sp B i j],vs,by rw[AY];exact e,rfl,rfl,?_,fun b o ah hb=>U b o ah (ae _ _ (F b o ah hb))⟩;rw[m3,O,AO,Wt.prt,AY]
   |plain sp M J G j =>
    refine kR Z fun _ _ o1 o2=>?_;have ep:(Wt.plain sp M J G j).pv=.tup [.str "plain",uK sp,.str M,.tup (J.map dQ),.tup (G.map HdV.pv),.tup (Wt.pvs j)]:=by rw[Wt.pv]
    have aj:Wt.pcs j=(Wt.plain sp M J G j).pc:=by rw[Wt.pc]
    refine yX ep tQ (gX (lQ _ _) (wZ rfl (yX ep tQ (gX (lQ _ _) (wZ rfl (yX ep rfl ⟨d',rfl,j,s++[sp],ds,rs,t,_,rfl,⟨o1,o2⟩,by rw[AG,AQ];lia,by lia,by rw[ab];lia,D,fun C3 m3 U=>?_⟩))))));refine W _ _ ⟨_,_,q++[.plain sp M J G j],vs,by rw[AY];exact e,rfl,rfl,?_,F.trans U⟩;rw[m3,O,AO,Wt.prt,AY]
  .rintro ρ C1 ⟨x4,x5,q,vs,e,I,rfl,D,F⟩
   cases vs with
   |cons u vs=>cases I
   |nil =>
   rw[Aj] at e;subst e;exact aq C1 D F
 induction d with
 |zero=>exact ag 0 fun d' e=>by lia
 |succ d ih=>exact ag (d+1) fun d' e=>by cases Aw e;exact ih
inductive gPi(ts:List PV)(C:CH)(Q:K1):Prop
 |mk(r:List Wt)(rs:List Str)(z0:ts=[.tup (Wt.pvs r)])(z1:fB rs 6 r)(z2:Wt.pcs r<=1000)(z3:∀p C',C p=none->C' p=some (.lst ((Wt.prts r [] []).map Prt.pv))->Gr C C'->Q (.ref p) C'):gPi ts C Q
theorem QL(T:Txt P w K mg a):FnOk P w K mg base CX0 9 (a.f 14) (a.d 14) ["row"] (spC K gPi):=by
 have J:=K5 (base:=base) T 6
 refine(T.F 14 rfl).ok (fun ts C R h=>?_) fun L A N s H E F=>⟨_,(xQ (cs1 1 ((T.F 14 rfl).s).nd (dX yZ))
  (xQ (zZ (cf (T.F 15 rfl) J F (qQ (cv 0) (qQ (pQ yZ) (qQ (pQ yZ) (ca1 (cv 1)))))))
  (kQ (gQ (cv 1))))),?_⟩
 .obtain ⟨r,rs,rfl,_⟩:=h;rfl
 rintro ts C R ⟨r,rs,rfl,I,M,q⟩;refine uQ ⟨by decide,fun t B=>?_⟩;refine kZ ⟨by decide,?_⟩;refine⟨by decide,?_⟩;refine⟨r,[],[],rs,t,[],rfl,I,by decide,by decide,by show 0+_<=1000;lia,jQ,fun C2 G D=>?_⟩;refine q t C2 B G fun b o g=>?_;have j:b≠t:=fun z=>by rw[z,B] at g;cases g
 exact D b o (fun z=>j (AD.1 z)) (by rwa [yQ j])
inductive gAsk(ts:List PV)(C:CH)(Q:K1):Prop
 |mk(e:En)(rs:List Str)(z0:ts=[e.pv])(z1:fB rs 6 e.pc.row)(z2:Wt.pcs e.pc.row<=50)(z3:e.x.path.length<=40)(z4:e.x.downs.length<=40)(z5:∀p C',C p=none->C' p=some (.lst (((Wt.prts e.pc.row [] []).map (nJ e.x)).map Prt.pv))->Gr C C'->Q (.ref p) C'):gAsk ts C Q
theorem QS(T:Txt P w K mg a):FnOk P w K mg base CX0 10 (a.f 17) (a.d 17) ["entry"] (spC K gAsk):=by
 have S:=(T.F 17 rfl).s;have W:=QL (base:=base) T;have Y:=(uD (base:=base) T).mono (show 1<=9 by decide);refine(T.F 17 rfl).ok (fun ts C R h=>?_) fun ag A ao s H E J=>⟨_,(kQ (gQ (sG rfl (S.c (by decide +kernel)) (S.k rfl rfl rfl (by decide +kernel)) (cf (T.F 14 rfl) W J (ca1 (cx (cx (cv 0) zQ) zQ))) (fun _ _ _ _ _=>aJ) (fun _ _ _ _ _=>(pQ (qQ (eQ vX wX (cx (cv 1) zQ) (cx (cv 0) zQ)) (qQ (cx (cv 0) zQ) (qQ (cx (cv 0) zQ) (ca1 (cf (T.F 16 rfl) Y J (qQ (cx (cv 1) zQ) (ca1 (cx (cv 0) zQ))))))))))))),?_⟩
 .obtain ⟨e,rs,rfl,_⟩:=h;rfl
 rintro ts C R ⟨e,rs,rfl,U,aj,ak,ah,af⟩;have F:e.pv=.tup [bZ e.x.path,.str e.x.name,.tup (e.x.gives.map dQ),.tup (e.x.downs.map dQ),e.pc.pv]:=rfl
 delta uP
 refine yX F rfl (yX rfl rfl ⟨e.pc.row,rs,rfl,U,by lia,fun p C1 n1 N ab=>?_⟩);dsimp only;rw[N];refine zE (fun zs acc C'=>∃ds g:List Prt,Wt.prts e.pc.row [] []=ds++g/\zs=g.map Prt.pv/\acc=(ds.map (nJ e.x)).map Prt.pv/\C' p=some (.lst ((Wt.prts e.pc.row [] []).map Prt.pv))/\Gr C C') (fun _ _ _ h=>let ⟨_,_,_,_,_,h,_⟩:=h;h) ?_ ?_ _ _ _ ⟨[],_,rfl,rfl,rfl,N,ab⟩
 .rintro z zs acc C2 ⟨ds,g,j,B,rfl,O,q⟩ L hL
  cases g with
  |nil=>cases B
  |cons u g =>
  obtain⟨rfl,rfl⟩:=BN B;have M:=(eE 6 _ [] [] U (fun _ z=>nomatch z)).1 u (j▸AU _ AE);refine jZ M.path fun v D _ aq=>?_;have D:u.path=v:=D;have ai:u.downs.length<=0+6:=M.dl
  have ae:ds.length<=50:=by
   have:=Bi List.length j;rw[lK,AG] at this
   lia
  refine yX F rfl (mX rfl (qH (uZ (by rw[AB,AB,D];lia)) ?_));refine mX rfl (mX rfl (yX F rfl (mX rfl ⟨e.x.downs,u.downs,rfl,by lia,fun C3 G=>⟨zz 4 rfl,?_⟩⟩)))
  have Z:PV.tup [PV.tup (e.x.path.map uK++u.path.map uK),.str u.name,.tup (u.gives.map dQ),.tup ((mW e.x.downs u.downs).map dQ)]=(nJ e.x u).pv:=by
   delta nJ Prt.pv bZ
   rw[AO]
  rw[Z];refine hL _ _ ⟨?_,ds++[u],g,by rw[AY];exact j,rfl,by rw[AO,AO];rfl,G _ _ O,q.trans G⟩;rw[AB,AB];exact An ae (by decide)
 .rintro acc C2 ⟨ds,g,j,B,rfl,O,q⟩ p2 I
  cases g with
  |cons u g=>cases B
  |nil =>
  rw[Aj] at j;refine af p2 _ (vK q I) (by rw[jQ,j]) (q.trans (Gr.new I _))
end
abbrev Stk:=List (Prt×Nat)
noncomputable def cY(g:List Pt)(V:Vl)(st:Stk):List En:=st.flatMap fun p=>dr g V p.2 p.1
def uS(g:List Pt)(st:Stk):Prop:=∀p∈st,∃k,lB g k p.1/\g.length<=k+p.2
def bK(st:Stk):List PV:=(st.map fun p=>p.1.pv).reverse
theorem Gd{V:Vl}(h:∃k,lB g k x/\g.length<=k+n):∃m,n=m+1:=by
 obtain⟨k,d,l⟩:=h;have:=(AW.1 d.nm).1;unfold kJ at this;rw[AB] at this;exact⟨n - 1,by lia⟩
theorem oE{g:List Pt}{V:Vl}:∀{st:Stk},uS g st->st.length<=(cY g V st).length
 |[],_=>Ab _
 |p::st,h=>by
  have D:=oE (V:=V) (st:=st) fun q B=>h q (AH _ B);obtain⟨m,j⟩:=Gd (V:=V) (h p AE);unfold cY at D ⊢;rw[Bv,AG,AL,j,dr,AL];omega
theorem rem_nil{V}(h:uS g st)(e:cY g V st=[]):st=[]:=by
 have:=oE (V:=V) h;rw[e] at this;exact List.length_eq_zero_iff.1 (Nat.le_zero.1 this)
noncomputable def kids(g:List Pt)(V:Vl)(x:Prt):List Prt:=(Wt.prts (tV g V x).row [] []).map (nJ x)
theorem Qx(hs:pB g){V}(I:VOk V)(h:uS g st)(j:cY g V st=e::r):
  ∃(x:Prt)(n:Nat)(st':Stk),st=(x,n+1)::st'/\e=⟨x,tV g V x⟩/\(∃k y,lB g k x/\AtK g V k x y)/\r=cY g V ((kids g V x).map (fun y=>(y,n))++st')/\uS g ((kids g V x).map (fun y=>(y,n))++st'):=by
 cases st with
 |nil=>cases j
 |cons p st =>
  obtain⟨x,m⟩:=p;obtain⟨n,rfl⟩:=Gd (V:=V) (h (x,m) AE);refine oQ (h (x,n+1) AE) fun k D N=>?_;obtain⟨y,F⟩:=oI hs I D
  delta cY at j
  rw[Bv] at j;rw[dr,B7] at j;injection j with h1 h2
  refine⟨x,n,st,rfl,h1.symm,⟨k,y,D,F⟩,?_,?_⟩
  .delta cY
   rw[List.flatMap_append,<- h2,List.flatMap_map]
   delta kids
   rw[List.flatMap_map]
  .intro q B
   rcases AX.1 B with B | B
   .obtain ⟨z,L,rfl⟩:=AN.1 B
    obtain⟨u,J,rfl⟩:=AN.1 L;exact jZ (uY D F J) fun M O G _=>⟨M,G,by lia⟩
   .exact h q (AH _ B)
theorem fO p(st:Stk):bK (p::st)=bK st++[p.1.pv]:=by
 delta bK
 rw[A5,Bj]
theorem Vd(g:List Prt)(n:Nat)st:bK (g.map (fun y=>(y,n))++st)=bK st++(g.map Prt.pv).reverse:=by
 delta bK
 rw[AO,List.reverse_append,BJ]
 rfl
theorem Yo st:(bK st).length=st.length:=by delta bK;rw[Bk,AB]
theorem Yl(g:C p=some (.lst xs))(j:C r=some (.lst ys))(h:xs.length+ys.length<=sizeLine)(q:Q .non (vQ C p (.lst (xs++ys)))):qN (.ref p) [.ref r] C Q:=by
 delta qN
 dsimp only;exact g▸j▸⟨h,q⟩
section
variable {P:Program}{w:World}{K:Dj}{mg:Str->Option Value}{base:Heap}{a:Adr}
structure Wk(a:Adr)(C:CH)(x ll:Addr)(xs:List PV):Prop where
 ins:∃dx,C x=some (.ins a.Walk dx [("lacking",.ref ll)])
 lst:C ll=some (.lst xs)
theorem Wk.ne(h:Wk a C x g xs):x≠g:=fun z=>by
 obtain⟨dx,e⟩:=h.ins;rw[z,h.lst] at e;cases e
inductive YQ(a:Adr)(ts:List PV)(C:CH)(Q:K1):Prop
 |mk(x dx:Addr)(pts:List Pt)(z0:ts=[.ref x,.tup (pts.map Pt.pv)])(z1:1<=pts.length)(z2:C x=some (.ins a.Walk dx []))(z3:∀C' ll,C ll=none->Wk a C' x ll [(Wh pts).pv]->ExS [x] C C'->Q .non C'):YQ a ts C Q
theorem WY(T:Txt P w K mg a):FnOk P w K mg base CX0 1 (a.f 59) (a.d 59) ["self","house"] (spC K (YQ a)):=by
 refine(T.F 59 rfl).ok (fun ts C R h=>?_) fun I A L s H E J=>⟨_,(kQ (ZN T.oY T.iJ (cv 0) (dX (ca1 (pQ (qQ (pQ yZ) (qQ (cx (cx (cv 1) zQ) zQ) (qQ (pQ yZ) (ca1 (pQ yZ)))))))))),?_⟩
 .obtain ⟨_,_,_,rfl,_⟩:=h;rfl
 rintro ts C R ⟨x,dx,D,rfl,F,G,q⟩
 cases D with
 |nil=>exact absurd F (by show ¬ 1<=0;lia)
 |cons y D =>
 refine⟨by decide,?_⟩;refine mX tQ (mX tQ ⟨by decide,?_⟩);refine⟨by decide,?_⟩;refine⟨zz 4 rfl,?_⟩;refine⟨zz 1 rfl,fun j g=>?_⟩;have B:j≠x:=fun z=>by rw[z,G] at g;cases g
 apply X7 (by rwa [yQ (Ne.symm B)]) (by decide)
 refine q _ j g ⟨⟨dx,?_⟩,?_⟩ ?_
 .rw [jQ]
  rfl
 .exact (yQ B)▸jQ
 .exact (ExS.refl.put g _).at AE _
inductive gDue(a:Adr)(ts:List PV)(C:CH)(Q:K1):Prop
 |mk(x ll:Addr)(xs:List PV)(z0:ts=[.ref x])(z1:Wk a C x ll xs)(z2:Q ((xs[xs.length - 1]?).getD .non) C):gDue a ts C Q
theorem Z4{y:PV}:atI (xs++[y]) (-1)=some y:=by
 delta atI ixN
 rw[Ad (by decide),AG,AQ,Ac (by lia)];have:(-1+((xs.length+1:Nat):Int)).toNat=xs.length:=by lia
 first
 |rw[this]
 | (rw[ this])
 simp
theorem ok_due(T:Txt P w K mg a):FnOk P w K mg base CX0 1 (a.f 60) (a.d 60) ["self"] (spC K (gDue a)):=by
 refine(T.F 60 rfl).ok (fun ts C R h=>?_) fun I A L s H E J=>⟨_,(kQ (gQ (sR (Gk (dF T.oY T.iJ (cv 0))) (cx (dF T.oY T.iJ (cv 0)) (bB jY lV zQ)) wV))),?_⟩
 .obtain ⟨_,_,_,rfl,_⟩:=h;rfl
 rintro ts C R ⟨x,D,xs,rfl,g,q⟩;obtain⟨dx,j⟩:=g.ins;refine tru_i ?_ ?_
 .refine iC j rfl ⟨D,xs,rfl,g.lst,?_⟩
  rcases Da xs with rfl | ⟨ys,y,rfl⟩
  .exact q
  .have e:(!(ys.concat y).isEmpty)=true:=by simp
   rw[e];refine iC j rfl (cJ g.lst (Dc▸Z4) ?_);have B:((ys.concat y)[(ys.concat y).length - 1]?).getD .non=y:=by simp
   rwa [B] at q
 .intro F G h q
  exact vN _ _ (fun v C1 q=>Xl _ _ h q) q
inductive gPass(a:Adr)(ts:List PV)(C:CH)(Q:K1):Prop
 |mk(x ll:Addr)(xs:List PV)(y:PV)(e:En)(rs:List Str)(z0:ts=[.ref x,e.pv])(z1:Wk a C x ll (xs++[y]))(z2:xs.length<=900)(z3:fB rs 6 e.pc.row)(z4:Wt.pcs e.pc.row<=50)(z5:e.x.path.length<=40)(z6:e.x.downs.length<=40)(z7:∀C',Wk a C' x ll (xs++(((Wt.prts e.pc.row [] []).map (nJ e.x)).map Prt.pv).reverse)->ExS [ll] C C'->Q .non C'):gPass a ts C Q
theorem ok_pass(T:Txt P w K mg a):FnOk P w K mg base CX0 11 (a.f 61) (a.d 61) ["self","entry"] (spC K (gPass a)):=by
 have J:=QS (base:=base) T
 refine(T.F 61 rfl).ok (fun ts C R h=>?_) fun af A ah s H E U=>⟨_,(xQ (zZ (ZT BU PySem.F.slot_list_pop PySem.F.type_list_pop Ye Ke (dF T.oY T.iJ (cv 0))))
  (kQ (zZ (GJ BU PySem.F.slot_list_extend PySem.F.type_list_extend (fun p s σ H x vs v ae Q=>uO p s σ H x vs v ae Q) lR (dF T.oY T.iJ (cv 0)) (ca1 (ZS rfl rfl rfl T.bL T.XR (cf (T.F 17 rfl) J U (ca1 (cv 1))))))))),?_⟩
 .obtain ⟨_,_,_,_,_,_,rfl,_⟩:=h;rfl
 rintro ts C R ⟨x,g,xs,y,e,rs,rfl,B,hl,Z,O,S,N,ab⟩;obtain⟨dx,Y⟩:=B.ins;have I:=B.ne;refine iC Y rfl ⟨pW B.lst,pop_s B.lst (y:=y) (by simp) ?_⟩;rw[List.dropLast_concat];have F:vQ C g (.lst xs) x=some (.ins a.Walk dx [("lacking",.ref g)]):=by rwa [yQ I]
 have D:vQ C g (.lst xs) g=some (.lst xs):=jQ;have L:ExS [g] C (vQ C g (.lst xs)):=ExS.refl.at (by simp) _;refine iC F rfl ⟨pW D,⟨e,rs,rfl,Z,O,S,N,fun p C2 n2 W q=>lrev_s W fun p3 j=>?_⟩⟩;have n3:p3≠g:=fun z=>by rw[z,q _ _ D] at j;cases j
 have ag:=Gr.new j (.lst ((((Wt.prts e.pc.row [] []).map (nJ e.x)).map Prt.pv).reverse)) _ _ (q _ _ F)
 apply Yl (Gr.new j _ _ _ (q _ _ D)) jQ (uZ (by rw[Bk,AB,AB,lK];lia))
 apply ab _ ⟨⟨dx,by rwa [yQ I]⟩,jQ⟩
 intro b o G M;rw[yQ (fun z=>G (AD.2 z))];exact Gr.new j _ _ _ (q _ _ (L b o G M))
end
def Sub(R g:Rds):Prop:=∀k∈R.map (·.1),k∈g.map (·.1)
theorem Sub.refl: Sub R R:=fun _ h=>h
theorem fZ: bT A bs (Sub j):=fun R s n _ h k g=>by
 rw[aB]
 split
 .exact h k g
 .exact Au _ (h k g)
def Ag(A A' R:Rds):Prop:=∀s n,qK s n∈R.map (·.1)->mU A s n=mU A' s n
theorem Ag.sub(h:Ag A A' g)(s:Sub R g):Ag A A' R:=fun x n j=>h x n (s _ j)
section
variable {A A':Rds}{τ:Tns}{bs ns rs:List Str}
theorem jO:∀{d}{r:Rk}{R},r.ok bs ns d->Ag A A' (r.rds A τ R)->r.val A τ=r.val A' τ/\r.rds A τ R=r.rds A' τ R:=by
 intro d r
 induction r generalizing d with
 |num i=>intro R _ _;exact⟨rfl,rfl⟩
 |turn n=>intro R _ _;exact⟨rfl,rfl⟩
 |ask s n =>
  intro R _ h
  have e:=h s n (by
   rw[Rk.rds,aB]
   split
   .assumption
   .exact AU _ AE)
  unfold Rk.val Rk.rds;exact e▸⟨rfl,rfl⟩
 |bin w x y q B =>
  intro R o h
  cases d with
  |zero=>exact o.elim
  |succ d =>
   rw[Rk.rds] at h;obtain⟨D,F⟩:=q o.2.1 (h.sub (gK fZ o.2.2 Sub.refl));obtain⟨g,j⟩:=B o.2.2 h;rw[ Rk.val,Rk.rds,j,D,g,F];exact⟨rfl,rfl⟩
 |pick x y z q B I =>
  intro R o h
  cases d with
  |zero=>exact o.elim
  |succ d =>
   rw[Rk.rds] at h
   have G:Ag A A' (x.rds A τ R):=by
    split at h
    .exact h.sub (gK fZ o.2.2 Sub.refl)
    .exact h.sub (gK fZ o.2.1 Sub.refl)
   refine jT (q o.1 G) fun D F=>?_;rw[Rk.val,Rk.val,Rk.rds,Rk.rds,<- D,<- F]
   split at h
   .next e =>
    obtain⟨g,j⟩:=I o.2.2 h;rw[Ac e,Ac e,Ac e,Ac e];exact⟨g,j⟩
   .next e =>
    obtain⟨g,j⟩:=B o.2.1 h;rw[Ad e,Ad e,Ad e,Ad e];exact⟨g,j⟩
theorem bH: ∀{ps}{R},wH bs ns d ps->Ag A A' (yK A τ ps R)->xJ A τ ps=xJ A' τ ps/\yK A τ ps R=yK A' τ ps R
 |[],R,_,_=>⟨rfl,rfl⟩
 |c::ps,R,o,h=>by
  have o':wH bs ns d ps:=fun x q=>o x (AH _ q);have h:Ag A A' (yK A τ ps (c.2.rds A τ R)):=h;obtain⟨g,j⟩:=jO (o c AE) (h.sub (fJ fZ o' Sub.refl));obtain⟨B,p2⟩:=bH o' h;exact⟨by show(c.1,c.2.val A τ)::xJ A τ ps=(c.1,c.2.val A' τ)::xJ A' τ ps;rw[g,B],by show yK A τ ps (c.2.rds A τ R)=yK A' τ ps (c.2.rds A' τ R);rw[p2,j]⟩
theorem Gy: ∀{cs}{R},(∀c∈cs,c.2.2.ok bs ns d)->Ag A A' (nD A τ cs R)->rR A τ cs=rR A' τ cs/\nD A τ cs R=nD A' τ cs R
 |[],R,_,_=>⟨rfl,rfl⟩
 |c::ps,R,o,h=>by
  have o':∀c∈ps,c.2.2.ok bs ns d:=fun x q=>o x (AH _ q);have h:Ag A A' (nD A τ ps (c.2.2.rds A τ R)):=h;obtain⟨g,j⟩:=jO (o c AE) (h.sub (nH fZ o' Sub.refl));obtain⟨B,p2⟩:=Gy o' h;exact⟨by show(c.1,c.2.1,c.2.2.val A τ)::rR A τ ps=(c.1,c.2.1,c.2.2.val A' τ)::rR A' τ ps;rw[g,B],by show nD A τ ps (c.2.2.rds A τ R)=nD A' τ ps (c.2.2.rds A' τ R);rw[p2,j]⟩
theorem Xe:∀{hs}{R},(∀h∈hs,h.ok bs ns)->Ag A A' (tJ A τ hs R)->xV A τ hs=xV A' τ hs/\tJ A τ hs R=tJ A' τ hs R
 |[],R,_,_=>⟨rfl,rfl⟩
 |c::ps,R,o,h=>by
  have o':∀h∈ps,h.ok bs ns:=fun x q=>o x (AH _ q);have h:Ag A A' (tJ A τ ps (nD A τ c.ch R)):=h;obtain⟨g,j⟩:=Gy (o c AE).2 (h.sub (zY fZ o' Sub.refl));obtain⟨B,p2⟩:=Xe o' h;exact⟨by show nO A τ c::xV A τ ps=nO A' τ c::xV A' τ ps;rw[B];delta nO;rw[g],by show tJ A τ ps (nD A τ c.ch R)=tJ A' τ ps (nD A' τ c.ch R);rw[p2,j]⟩
theorem Zs(o:pA bs ns k)(h:Ag A A' (hW A τ k R)):zU A τ k=zU A' τ k/\hW A τ k R=hW A' τ k R:=by
 cases k with
 |none=>exact⟨rfl,rfl⟩
 |some r =>
  obtain⟨g,j⟩:=jO o h;exact⟨by show(Sum.inl (some _):Key)=Sum.inl (some _);rw[g],j⟩
end
theorem gP(h1:∀l ns τ st,LnOk bs rs d ns l->Ag A A' (sX A l τ st).2.2->sX A l τ st=sX A' l τ st):∀g ns τ st,(∀x∈g,LnOk bs rs d ns x)->Ag A A' (rQ A g τ st).2.2->rQ A g τ st=rQ A' g τ st
 |[],ns,τ,st,_,h=>by rw[jV,jV]
 |l::g,ns,τ,st,j,h=>by
  rw[pZ] at h;rw[pZ,pZ];have o':∀x∈g,LnOk bs rs d ns x:=fun x q=>j x (AH _ q);exact(h1 l ns τ st (j l AE) (h.sub (iZ fZ o' Sub.refl)))▸gP h1 g ns τ _ o' h
theorem Xk(hs:∀x k,Sub x.2.2 (f x k).2.2)(B:∀x k,Ag A A' (f x k).2.2->f x k=g x k):∀(l:List Nat)(x:DSt),Ag A A' (l.foldl f x).2.2->l.foldl f x=l.foldl g x
 |[],_,_=>rfl
 |k::l,x,h=>by
  have:=wY (P:=fun st:DSt=>Sub (f x k).2.2 st.2.2) (fun y j p q D=>hs y j q (p q D)) l _ Sub.refl;show l.foldl f (f x k)=l.foldl g (g x k);exact(B x k (h.sub this))▸Xk hs B l _ h
theorem one_ag: ∀d l ns τ st,LnOk bs rs d ns l->Ag A A' (sX A l τ st).2.2->sX A l τ st=sX A' l τ st:=by
 intro d
 induction d with
 |zero=>intro l ns τ st h;exact h.elim
 |succ d Z =>
  intro l ns τ st o h;have G:=gP Z
  cases l with
  |plain k ab s hs F =>
   refine zP o fun h1 h2 B D U=>?_;have b:=G F ns τ _ D h;have S:=h.sub (iZ fZ D Sub.refl);obtain⟨u3,v3⟩:=Xe B.1 S;have I:=S.sub (zY fZ B.1 Sub.refl);obtain⟨L,N⟩:=bH h2.1 I;obtain⟨J,M⟩:=Zs h1 (I.sub (fJ fZ h2.1 Sub.refl));rw[sX,sX,b,v3,N,M,u3,L,J]
  |part k n g =>
   refine kR o fun h1 h2 B D=>?_;obtain⟨L,N⟩:=bH B h;obtain⟨J,M⟩:=Zs h1 (h.sub (fJ fZ B Sub.refl));rw[sX,sX,N,M,L,J]
  |give k n r F =>
   refine zP o fun h1 h2 B D U=>?_;have I:=h.sub (iZ fZ D Sub.refl);obtain⟨L,N⟩:=jO B I;obtain⟨J,M⟩:=Zs h1 (I.sub (gK fZ B Sub.refl));rw[sX,sX,(G F ns τ _ D h),N,M,L,J]
  |when r l1 l2 =>
   obtain⟨h1,⟨h2,B⟩,D,U⟩:=o;rw[sX] at h
   have O:Ag A A' (r.rds A τ st.2.2):=by
    split at h
    .exact h.sub (iZ fZ D Sub.refl)
    .exact h.sub (iZ fZ h2 Sub.refl)
   obtain⟨u,v⟩:=jO h1 O;rw[sX,sX,<- u,<- v]
   split at h
   .next e=>rw[Ac e,Ac e];exact G l2 ns τ _ D h
   .next e=>rw[Ad e,Ad e];exact G l1 ns τ _ h2 h
  |each n r F =>
   refine kH o fun h1 h2 B=>?_;have hs:∀x k,Sub x.2.2 (rQ A F (qJ τ (.inr n) (.int (k:Nat))) x).2.2:=fun x k=>iZ fZ h2 Sub.refl;have O:=h.sub (wY (P:=fun x:DSt=>Sub (r.rds A τ st.2.2) x.2.2) (fun y j p q W=>hs y j q (p q W)) _ _ Sub.refl);obtain⟨u,v⟩:=jO h1 O;rw[sX,sX,<- u,<- v];exact Xk hs (fun x k Y=>G F [n] _ x h2 Y) _ _ h
theorem pc_ag{cap}(g:cU rs cap x)(h:Ag A A' (oU A x)):bJ A x=bJ A' x/\oU A x=oU A' x:=by
 refine jT (bH g.wk h) fun u v=>?_;have b:=gP (one_ag 6) x.ls [] [] ([],[],[]) g.ls (h.sub (fJ fZ g.wk Sub.refl));have e:oU A x=oU A' x:=by delta oU;rw[v,b]
 delta bJ
 exact e▸u▸b▸⟨rfl,rfl⟩
inductive Th(C:CH):PV->Prop
 |non:Th C .non
 |bl (b:Bool):Th C (.bl b)
 |int (i:Int):Th C (.int i)
 |str (z:Str):Th C (.str z)
 |tup {ts:List PV} (h:∀t∈ts,Th C t):Th C (.tup ts)
 |lst {a:Addr} (h:tyP C (.ref a)=some .lst):Th C (.ref a)
 |dct {a:Addr} (h:tyP C (.ref a)=some .dct):Th C (.ref a)
abbrev Pn:PV->Prop:=Th fun _=>none
theorem cE(h:tyP C x=some n)(g:Gr C C'):tyP C' x=some n:=by
 cases x with
 |ref a =>
  delta tyP at h ⊢
  dsimp only at h ⊢
  split at h
  .next e=>rwa [g a _ e]
  .next e=>rwa [g a _ e]
  .cases h
 |_=>exact h
theorem Th.gr(h:Th C x)(g:Gr C C'):Th C' x:=by
 induction h with
 |non=>exact .non
 |bl b=>exact .bl b
 |int i=>exact .int i
 |str z=>exact .str z
 |tup _ j=>exact .tup j
 |lst h=>exact .lst (cE h g)
 |dct h=>exact .dct (cE h g)
theorem Pn.th(h:Pn x):Th C x:=h.gr fun _ _ z=>nomatch z
noncomputable def kn:Ty->Str
 |.bl=>"truth"
 |.int=>"number"
 |.str=>"text"
 |.tup=>"tuple"
 |.lst=>"list"
 |.dct=>"dict"
 |_=>"none"
theorem Th.ty(h:Th C x):∃n,tyP C x=some n:=by
 cases h with
 |lst h=>exact⟨_,h⟩
 |dct h=>exact⟨_,h⟩
 |_=>exact⟨_,rfl⟩
theorem Th.cmp(q:Th C x)(B:Pn y)(g:tyP C x=some n)(j:tyP C y=some m):(kn n≠kn m/\x≠y)\/(n=.tup/\m=.tup/\∃xs ys,x=.tup xs/\y=.tup ys/\(∀t∈xs,Th C t)/\∀t∈ys,Pn t)\/∃b,kn n=kn m/\kn n ≠ "tuple"/\kn n ≠ "list"/\kn n ≠ "dict"/\sEq x y=some b/\(b=true↔x=y):=by
 cases B with
 |lst h=>cases h
 |dct h=>cases h
 |tup h =>
  cases j
  cases q with
  |tup h'=>cases g;exact .inr (.inl ⟨rfl,rfl,_,_,rfl,rfl,h',h⟩)
  |lst h'=>rw[h'] at g;cases g;exact .inl ⟨by decide,nofun⟩
  |dct h'=>rw[h'] at g;cases g;exact .inl ⟨by decide,nofun⟩
  |_=>cases g;exact .inl ⟨by decide,nofun⟩
 |_ =>
  cases j
  cases q with
  |lst h'=>rw[h'] at g;cases g;exact .inl ⟨by decide,nofun⟩
  |dct h'=>rw[h'] at g;cases g;exact .inl ⟨by decide,nofun⟩
  |_=>cases g;first | exact .inl ⟨by decide,nofun⟩ | exact .inr (.inr ⟨_,rfl,by decide,by decide,by decide,rfl,by simp⟩)
mutual
def pw:PV->Nat
 |.tup ts=>1+pws ts
 |_=>1
def pws:List PV->Nat
 |[]=>0
 |t::ts=>pw t+pws ts
end
theorem pw_pos(t:PV):1<=pw t:=by
 cases t<;>(unfold pw;omega)
def prP(z:PV×PV):PV:=.tup [z.1,z.2]
def zw(zs:List (PV×PV)):Nat:=pws (zs.map (·.2))
theorem pws_app xs ys:pws (xs++ys)=pws xs+pws ys:=by
 induction xs with
 |nil=>rw[DU,pws,BI]
 |cons x xs g=>rw[B7,pws,pws,g];lia
theorem Jx xs:xs.length<=pws xs:=by
 induction xs with
 |nil=>exact Ab _
 |cons x xs g=>rw[pws,AL];have:=pw_pos x;lia
theorem Jh:∀xs ys,List.zipWith (fun a b=>PV.tup [a,b]) xs ys=(xs.zip ys).map prP
 |[],_=>rfl
 |_::_,[]=>rfl
 |x::xs,y::ys=>by rw[List.zipWith_cons_cons,Jh xs ys];rfl
theorem VS:∀{xs ys:List PV},xs.length=ys.length->(xs=ys↔∀z∈xs.zip ys,z.1=z.2)
 |[],[],_=>⟨fun _ _ z=>(nomatch z),fun _=>rfl⟩
 |x::xs,y::ys,h=>by
  have j:=VS (Aw h);refine⟨fun e z g=>?_,fun g=>?_⟩
  .injection e with q B
   rcases Ai.1 g with rfl | g
   .exact q
   .exact j.1 B z g
  .rw [(show x=y from g (x,y) AE),j.2 fun z h=>g z (AH _ h)]
section
variable {P:Program}{w:World}{K:Dj}{mg:Str->Option Value}{base:Heap}{a:Adr}
inductive gKo(ts:List PV)(C:CH)(Q:K1):Prop
 |mk x n(z0:ts=[x])(z1:tyP C x=some n)(z2:Q (.str (kn n)) C):gKo ts C Q
theorem Zc(T:Txt P w K mg a):FnOk P w K mg base CX0 1 (a.f 6) (a.d 6) ["thing"] (spC K gKo):=by
 have S:=(T.F 6 rfl).s
 refine(T.F 6 rfl).ok (fun ts C R h=>?_) fun j A D s H E B=>⟨_,(xQ (nQ (mZ (zX bX oZ rfl T.jX rfl (qQ (cv 0) (ca1 (dW rfl T.XT rfl))))) (kQ (gQ wQ)) cQ)
  (xQ (nQ (mZ (zX bX oZ rfl T.jX rfl (qQ (cv 0) (ca1 (dW rfl T.rT rfl))))) (kQ (gQ wQ)) cQ)
  (xQ (nQ (mZ (zX bX oZ rfl T.jX rfl (qQ (cv 0) (ca1 (dW rfl T.z_str rfl))))) (kQ (gQ wQ)) cQ)
  (xQ (nQ (mZ (zX bX oZ rfl T.jX rfl (qQ (cv 0) (ca1 (dW rfl T.hX rfl))))) (kQ (gQ wQ)) cQ)
  (xQ (nQ (mZ (zX bX oZ rfl T.jX rfl (qQ (cv 0) (ca1 (dW rfl T.bL rfl))))) (kQ (gQ wQ)) cQ)
  (xQ (nQ (mZ (zX bX oZ rfl T.jX rfl (qQ (cv 0) (ca1 (dW rfl T.kN rfl))))) (kQ (gQ wQ)) cQ)
  (kQ (gQ wQ)))))))),?_⟩
 .obtain ⟨_,_,rfl,_⟩:=h;rfl
 rintro ts C R ⟨x,n,rfl,g,q⟩;cases n<;>repeat (first | exact q | exact iX rfl g (nZ rfl q) | (refine iX rfl g (wZ rfl (xX ?_))))
inductive gPw(ts:List PV)(C:CH)(Q:K1):Prop
 |mk x y C0(z0:ts=[x,y])(z1:Gr C0 C)(z2:Th C0 x)(z3:Pn y)(z4:pw y<=1000000)(z5:(x≠y->∀C',Gr C C'->Q .non C'))(z6:∀(zs:List (PV×PV))p C',(x=y↔∀z∈zs,z.1=z.2)->(∀z∈zs,Th C0 z.1/\Pn z.2)->zw zs+1=pw y->C p=none->C' p=some (.lst (zs.map prP))->Gr C C'->Q (.ref p) C'):gPw ts C Q
def gNo:GC:=fun _ _ _=>False
theorem ok_pw(T:Txt P w K mg a):FnOk P w K mg base CX0 2 (a.f 4) (a.d 4) ["one","other"] (spC K gPw):=by
 have S:=(T.F 4 rfl).s;have W:=Zc (base:=base) T;have Y:FnOk P w K mg base CX0 1 (a.f 5) (a.d 5) ["one","other"] (spC K gNo):=fV fun _ _ _ z=>z
 refine(T.F 4 rfl).ok (fun ts C R h=>?_) fun ag A ai s H E D=>⟨_,(xQ (cs1 2 S.nd (cf (T.F 6 rfl) W D (ca1 (cv 0))))
  (xQ (nQ (ct2 wO kP (cv 2) (cf (T.F 6 rfl) W D (ca1 (cv 1)))) (kQ (gQ wV)) cQ)
  (xQ (nQ (cw_pt (cw_or (ct2 cX aQ (cv 2) wQ) (cw_or1 (ct2 cX aQ (cv 2) wQ)))) (kQ (gQ (sR (ct2 cX aQ (cln T.jJ (cv 0)) (cln T.jJ (cv 1))) (ZR rfl T.bL T.z_zip (cv 0) (cv 1)) wV))) cQ)
  (xQ (nQ (ct2 cX aQ (cv 2) wQ) (kQ (gQ (cf (T.F 5 rfl) Y D (qQ (cv 0) (ca1 (cv 1)))))) cQ)
  (kQ (gQ (sR (ct2 cX aQ (cv 0) (cv 1)) (dX yZ) wV))))))),?_⟩
 .obtain ⟨_,_,_,rfl,_⟩:=h;rfl
 rintro ts C R ⟨x,y,C0,rfl,G,N,O,ah,F,q⟩;obtain⟨n,M⟩:=N.ty;have hn:=cE M G;obtain⟨m,L⟩:=(O.th (C:=C0)).ty;have ab:=cE L G;refine uQ ?_;refine⟨x,n,rfl,hn,?_⟩
 try dsimp only
 refine⟨y,m,rfl,ab,?_⟩;refine gX (lQ _ _) ?_
 rcases N.cmp O M L with ⟨h1,h2⟩ | ⟨rfl,rfl,xs,ys,rfl,rfl,ae,af⟩ | ⟨b,h1,h2,Z,h4,I,J⟩
 .exact nZ (by rw[AR h1];rfl) (F h2 C Gr.refl)
 .refine wZ rfl (xX ?_)
  try dsimp only
  refine gX (lQ _ _) ?_;refine nZ rfl ?_;refine Vm rfl ?_;refine qB ?_;refine qB ?_;refine gX (rX _ _) ?_;refine gZ (fun g=>?_) fun g=>?_
  .have g:xs.length=ys.length:=by have:=Aa g;omega
   refine zip_s g fun p j=>?_;rw[Jh];refine q (xs.zip ys) p _ (PV.tup.injEq .. ▸ VS g) (fun z U=>?_) ?_ j jQ (Gr.new j _)
   .exact ⟨ae _ (Cn U).1,af _ (Cn U).2⟩
   .unfold zw
    rw[List.map_snd_zip (by omega),pw];omega
  .exact F (fun e=>by cases e;rw[Af rfl] at g;cases g) C Gr.refl
 .refine wZ (by rw[Af h1];rfl) (xX ?_)
  try dsimp only
  refine gX (lQ _ _) ?_;refine wZ (AR h2) ?_;refine gX (lQ _ _) ?_;refine wZ (AR Z) (xX ?_)
  try dsimp only
  refine gX (lQ _ _) ?_;refine wZ (AR h4) (xX ?_)
  try dsimp only
  refine gX I ?_;refine gZ (fun B=>?_) fun B=>?_
  .refine ⟨zz 0 rfl,fun p j=>?_⟩
   refine q [] p _ ⟨fun _ _ z=>(nomatch z),fun _=>J.1 B⟩ (fun _ z=>nomatch z) ?_ j jQ (Gr.new j _);have:pw y=1:=by cases y<;>first | rfl | (cases x<;>cases I)
   rw[this]
   rfl
  .exact F (fun e=>by rw[J.2 e] at B;cases B) C Gr.refl
inductive gAk(ts:List PV)(C:CH)(Q:K1):Prop
 |mk x y(z0:ts=[x,y])(z1:Th C x)(z2:Pn y)(z3:pw y<=1000000)(z4:∀b C',(b=true↔x=y)->Gr C C'->Q (.bl b) C'):gAk ts C Q
theorem QU(T:Txt P w K mg a):FnOk P w K mg base CX0 3 (a.f 3) (a.d 3) ["one","other"] (spC K gAk):=by
 have S:=(T.F 3 rfl).s;have bS:=ok_pw (base:=base) T
 refine(T.F 3 rfl).ok (fun ts C R h=>?_) fun aj A ar s H E W=>⟨_,(xQ (cs1 2 S.nd (dX (ca1 (pQ (qQ (cv 0) (ca1 (cv 1)))))))
  (xQ (Gn PassesOwn.never (Gk (cv 2)) (xQ (cs1 3 S.nd (ZT BU PySem.F.slot_list_pop PySem.F.type_list_pop Ye Ke (cv 2)))
  (xQ (cs1 4 S.nd (cf (T.F 4 rfl) bS W (qQ (cx (cv 3) zQ) (ca1 (cx (cv 3) zQ)))))
  (xQ (nQ (ct2 xC rD (cv 4) wV) (kQ (gQ kW)) cQ)
  (kQ (zZ (GJ BU PySem.F.slot_list_extend PySem.F.type_list_extend (fun p s σ H x vs v ah Q=>uO p s σ H x vs v ah Q) lR (cv 2) (ca1 (cv 4)))))))))
  (kQ (gQ kW)))),?_⟩
 .obtain ⟨_,_,rfl,_⟩:=h;rfl
 rintro ts C R ⟨x,y,rfl,hx,hy,ae,q⟩;refine uQ ⟨zz 2 rfl,?_⟩;refine⟨zz 1 rfl,fun p J=>?_⟩;refine⟨pw y+1,?_⟩;have ai:(1000000:Nat)<=sizeLine:=by decide
 refine Jj (fun n ρ C'=>∃zs Z x4,n=zw zs/\ρ=[some x,some y,some (.ref p),Z,x4]/\(x=y↔∀z∈zs,z.1=z.2)/\(∀z∈zs,Th C z.1/\Pn z.2)/\zw zs<=1000000/\C' p=some (.lst (zs.map prP))/\Gr C C') ?_ _ (pw y) _ _ (Bm _) ⟨[(x,y)],none,none,(Nat.add_zero _).symm,rfl,⟨fun e z N=>by cases AD.1 N;exact e,fun h=>h _ AE⟩,fun z N=>by cases AD.1 N;exact⟨hx,hy⟩,ae,jQ,Gr.new J _⟩
 rintro n ρ C1 L ⟨zs,Z,x4,rfl,rfl,hi,M,ab,G,g⟩ U;refine tru_i ?_ ?_
 .refine ⟨p,zs.map prP,rfl,G,?_⟩
  rcases Da zs with rfl | ⟨B,z,rfl⟩
  .exact q true C1 ⟨fun _=>hi.2 fun _ z=>(nomatch z),fun _=>rfl⟩ g
  .rw [Dc] at G hi M ab U ⊢
   obtain⟨ag,t2⟩:=M z (AU _ AE);have ez:zw (B++[z])=zw B+pw z.2:=by delta zw;rw[AO,pws_app];rfl
   apply Vm (by simp)
   refine uQ ⟨pW G,pop_s G (y:=prP z) (by simp) ?_⟩;rw[AO,List.map_singleton,List.dropLast_concat];have I:Gr C (vQ C1 p (.lst (B.map prP))):=bW g J _;have Y:vQ C1 p (.lst (B.map prP)) p=some (.lst (B.map prP)):=jQ;refine uQ (mX rfl (mX rfl ⟨z.1,z.2,C,rfl,I,ag,t2,by lia,fun af O F=>?_,fun D r O h1 h2 h3 W m3 F=>?_⟩))
   .exact q false O ⟨(fun h=>nomatch h),fun e=>absurd (hi.1 e z (AU _ AE)) af⟩ (I.trans F)
   .refine xX ⟨pW (F _ _ Y),?_⟩
    have ao:B.length<=zw B:=by have:=Jx (B.map (·.2));rwa [AB] at this
    have aq:D.length<=zw D:=by have:=Jx (D.map (·.2));rwa [AB] at this
    apply Yl (F _ _ Y) m3 (by rw[AB,AB];lia)
    have ak:zw (B++D)=zw B+zw D:=by delta zw;rw[AO,pws_app]
    refine U (zw (B++D)) _ _ (by lia) ⟨B++D,_,_,rfl,rfl,?_,fun u j=>?_,by lia,by rw[jQ,AO],bW (I.trans F) J _⟩
    .rw [hi]
     refine⟨fun h u j=>?_,fun h u j=>?_⟩
     .rcases AX.1 j with j | j
      .exact h u (Au _ j)
      .exact h1.1 (h z (AU _ AE)) u j
     .rcases AX.1 j with j | j
      .exact h u (Au _ j)
      .cases AD.1 j
       exact h1.2 fun v hv=>h v (AU _ hv)
    .rcases AX.1 j with j | j
     .exact M u (Au _ j)
     .exact h2 u j
 .intro Q1 Q2 h q
  exact vN _ _ h q
end
def Zw:PV->Bool
 |.int i=>decide (-1000000000<=i)&&decide (i<=1000000000)
 |_=>false
def Zx:PV->Bool
 |.str z=>yF z
 |_=>false
section
variable {P:Program}{w:World}{K:Dj}{mg:Str->Option Value}{base:Heap}{a:Adr}
inductive gNu(ts:List PV)(C:CH)(Q:K1):Prop
 |mk x(z0:ts=[x])(z1:Th C x)(z2:Q (.bl (Zw x)) C):gNu ts C Q
theorem wA(T:Txt P w K mg a):FnOk P w K mg base CX0 1 (a.f 0) (a.d 0) ["thing"] (spC K gNu):=by
 have S:=(T.F 0 rfl).s
 refine(T.F 0 rfl).ok (fun ts C R h=>?_) fun D A G s H E F=>⟨_,(xQ (nQ (cw_pt (cw_or (mZ (zX bX oZ rfl T.jX rfl (qQ (cv 0) (ca1 (dW rfl T.XT rfl))))) (cw_or1 (vV (mZ (zX bX oZ rfl T.jX rfl (qQ (cv 0) (ca1 (dW rfl T.rT rfl))))))))) (kQ (gQ kW)) cQ)
  (kQ (gQ (GI JJ JJ zI zI (bB jY lV (rW (v:=.int 1000000000) rfl T.rA ⟨_,rfl⟩ (fun _=>.int _))) (cv 0) (rW (v:=.int 1000000000) rfl T.rA ⟨_,rfl⟩ (fun _=>.int _)))))),?_⟩
 .obtain ⟨_,rfl,_⟩:=h;rfl
 rintro ts C R ⟨x,rfl,j,q⟩;obtain⟨n,B⟩:=j.ty
 cases j with
 |int i =>
  cases B;refine iX rfl rfl (wZ rfl (iX rfl rfl (wF (xX (i_i (gZ (fun g=>?_) fun g=>?_))))))
  .apply i_i
   have e:Zw (.int i)=decide (i<=1000000000):=by show(decide (-1000000000<=i)&&decide (i<=1000000000))=_;rw[g];rfl
   rwa [e] at q
  .have e:Zw (.int i)=false:=by show(decide (-1000000000<=i)&&decide (i<=1000000000))=_;rw[g];rfl
   rwa [e] at q
 |bl b=>exact iX rfl rfl (nZ rfl q)
 |lst h=>exact iX rfl h (wZ rfl (iX rfl h (mJ q)))
 |dct h=>exact iX rfl h (wZ rfl (iX rfl h (mJ q)))
 |_=>exact iX rfl rfl (wZ rfl (iX rfl rfl (mJ q)))
inductive gNa(ts:List PV)(C:CH)(Q:K1):Prop
 |mk x(z0:ts=[x])(z1:Th C x)(z2:(∀z,x=.str z->z.length<=sizeLine))(z3:∀C',Gr C C'->Q (.bl (Zx x)) C'):gNa ts C Q
theorem Ze(T:Txt P w K mg a):FnOk P w K mg base CX0 1 (a.f 1) (a.d 1) ["thing"] (spC K gNa):=by
 have S:=(T.F 1 rfl).s
 refine(T.F 1 rfl).ok (fun ts C R h=>?_) fun M A U s H E O=>⟨_,(xQ (nQ (cw_pt (cw_or (vV (mZ (zX bX oZ rfl T.jX rfl (qQ (cv 0) (ca1 (dW rfl T.z_str rfl)))))) (cw_or1 (vV (Gm JJ JJ zI zI zQ (cln T.jJ (cv 0)) (rW (v:=.int 8) rfl T.qT ⟨_,rfl⟩ (fun _=>.int _))))))) (kQ (gQ kW)) cQ)
  (kQ (gQ (zX (eR rfl) vI rfl T.VT rfl (ca1 (nW rfl (S.c (by decide +kernel)) (S.k (L:=0) rfl rfl rfl (by decide +kernel)) (ci_str (cv 0)) (fun _ _ _ _ _=>aJ) (fun _ _ _ _ _=>(gY KY cop_inT (cv 0) (rW (v:=.str "abcdefghijklmnopqrstuvwxyz") rfl T.YW ⟨_,rfl⟩ (fun _=>.str _)) rfl)))))))),?_⟩
 .obtain ⟨_,rfl,_⟩:=h;rfl
 rintro ts C R ⟨x,rfl,j,D,q⟩;obtain⟨n,F⟩:=j.ty
 cases j with
 |str z =>
  cases F;have I:=D z rfl;refine iX rfl rfl (wF (len_z I ?_));have B:yF z=false->R (.bl false) C:=fun e=>by have:=q C Gr.refl;rwa [show Zx (.str z)=false from e] at this
  refine i_i (gZ (fun h1=>?_) fun h1=>?_)
  .apply i_i
   cases h2:decide (((z.length:Nat):Int)<=8) with
   |false=>exact B (by delta yF;rw[h1,h2];rfl)
   |true =>
    refine wF (xX (rH (fun s=>match s with | .str u=>.bl (!(Builtin.Str.occurrences ("abcdefghijklmnopqrstuvwxyz" : Str) u 0 ("abcdefghijklmnopqrstuvwxyz" : Str).length 1).isEmpty) | _=>.non) (iF z) [] C Gr.refl ?_ (fun x j C1 J g G=>?_) fun p C1 N g m=>?_))
    .delta iF
     rwa [AB,Co,BI,BD]
    .obtain ⟨c,_,rfl⟩:=AN.1 j
     exact inT_s (G C1 Gr.refl)
    .apply GU (bs:=z.cps.toList.map JY) (by rw[m];delta iF;rw[BJ,BJ];rfl)
     have e:Zx (.str z)=(z.cps.toList.map JY).all id:=by
      show((decide ((1:Int)<=(z.length:Nat))&&decide (((z.length:Nat):Int)<=8))&&z.cps.toList.all JY)=_;rw[h1,h2,List.all_map]
      rfl
     exact e▸q C1 g
  .exact B (by delta yF;rw[h1];rfl)
 |lst h=>exact iX rfl h (mJ (q C Gr.refl))
 |dct h=>exact iX rfl h (mJ (q C Gr.refl))
 |_=>exact iX rfl rfl (mJ (q C Gr.refl))
noncomputable def quF:PV->Bool
 |.tup [s,m]=>Vk ["take","box","down"] s&&Zx m
 |_=>false
def rdF:PV->Bool
 |.tup [q,n]=>Zw n&&quF q
 |_=>false
theorem len3{α:Type}x y z(r:List α)k(h:k=2):(!decide (((x::y::z::r).length:Int)=k))=true:=by
 rw[AR (by rw[AL,AL,AL];lia)]
 rfl
def Sg(x:PV):Prop:=∀s z n,x=.tup [.tup [s,.str z],n]->z.length<=sizeLine
inductive gRf(ts:List PV)(C:CH)(Q:K1):Prop
 |mk x(z0:ts=[x])(z1:Th C x)(z2:Sg x)(z3:∀C',Gr C C'->Q (.bl (rdF x)) C'):gRf ts C Q
theorem xA(T:Txt P w K mg a):FnOk P w K mg base CX0 2 (a.f 13) (a.d 13) ["thing"] (spC K gRf):=by
 have L:=wA (base:=base) T;have J:=Ze (base:=base) T
 refine(T.F 13 rfl).ok (fun ts C R h=>?_) fun W A Y s H E D=>⟨_,(xQ (nQ (cw_pt (cw_or (vV (mZ (zX bX oZ rfl T.jX rfl (qQ (cv 0) (ca1 (dW rfl T.hX rfl)))))) (cw_or (ct2 wO kP (cln T.jJ (cv 0)) zQ) (cw_or1 (vV (mZ (cf (T.F 0 rfl) L D (ca1 (cx (cv 0) zQ))))))))) (kQ (gQ kW)) cQ)
  (xQ (cs1 1 ((T.F 13 rfl).s).nd (cx (cv 0) zQ))
  (xQ (nQ (cw_pt (cw_or (vV (mZ (zX bX oZ rfl T.jX rfl (qQ (cv 1) (ca1 (dW rfl T.hX rfl)))))) (cw_or1 (ct2 wO kP (cln T.jJ (cv 1)) zQ)))) (kQ (gQ kW)) cQ)
  (kQ (gQ (ZU (gY (WW (eX D)) cop_inA (cx (cv 1) zQ) (rW (v:=.ref a.ASKING) rfl T.J1 rfl (fun H=>.kt (T.Jw H) (.cons (.str _) (.cons (.str _) (.cons (.str _) .nil))))) rfl) (ZQ (cf (T.F 1 rfl) J D (ca1 (cx (cv 1) zQ)))))))))),?_⟩
 .obtain ⟨_,rfl,_⟩:=h;rfl
 rintro ts C R ⟨x,rfl,S,O,q⟩
 cases S with
 |@tup ts I =>
  refine iX rfl rfl (wF (qB (gX (rX _ _) ?_)))
  rcases ts with _ | ⟨g,_ | ⟨n,_ | ⟨z,r⟩⟩⟩
  .exact nZ rfl (q C Gr.refl)
  .exact nZ rfl (q C Gr.refl)
  .refine wZ rfl (mX rfl ⟨n,rfl,I n (by simp),?_⟩)
   cases F:Zw n with
   |false =>
    have e:rdF (.tup [g,n])=false:=by show(Zw n&&quF g)=_;rw[F];rfl
    rw[e] at q;exact mJ (q C Gr.refl)
   |true =>
    have e:rdF (.tup [g,n])=quF g:=by show(Zw n&&quF g)=_;rw[F];rfl
    rw[e] at q;refine wF (xX ?_)
    try dsimp only
    refine uQ (mX rfl ?_)
    cases I g AE with
    |@tup qs G =>
     refine iX rfl rfl (wF (qB (gX (rX _ _) ?_)))
     rcases qs with _ | ⟨j,_ | ⟨m,_ | ⟨z,r⟩⟩⟩
     .exact nZ rfl (q C Gr.refl)
     .exact nZ rfl (q C Gr.refl)
     .refine wZ rfl (xX (mX rfl ?_))
      refine el11 ((G j AE).ty) fun c N=>?_;refine inA_s rfl N (gZ (fun B=>?_) fun B=>?_)
      .refine mX rfl ⟨m,rfl,G m (by simp),fun z U=>O j z n (by rw[U]),fun C1 M=>?_⟩
       have e:quF (.tup [j,m])=Zx m:=by show(Vk ["take","box","down"] j&&Zx m)=_;rw[B];rfl
       exact e▸q C1 M
      .have e:quF (.tup [j,m])=false:=by show(Vk ["take","box","down"] j&&Zx m)=_;rw[B];rfl
       rw[e] at q;exact q C Gr.refl
     .exact nZ (len3 _ _ _ _ _ rfl) (q C Gr.refl)
    |lst h=>exact iX rfl h (mJ (q C Gr.refl))
    |dct h=>exact iX rfl h (mJ (q C Gr.refl))
    |_=>exact iX rfl rfl (mJ (q C Gr.refl))
  .exact nZ (len3 _ _ _ _ _ rfl) (q C Gr.refl)
 |lst h=>exact iX rfl h (mJ (q C Gr.refl))
 |dct h=>exact iX rfl h (mJ (q C Gr.refl))
 |_=>exact iX rfl rfl (mJ (q C Gr.refl))
noncomputable def rdsF:PV->Bool
 |.tup ts=>(ts.map rdF).all id
 |_=>false
inductive gRsf(ts:List PV)(C:CH)(Q:K1):Prop
 |mk x(z0:ts=[x])(z1:Th C x)(z2:(∀ts,x=.tup ts->ts.length<=sizeLine/\∀t∈ts,Sg t))(z3:∀C',Gr C C'->Q (.bl (rdsF x)) C'):gRsf ts C Q
theorem jA(T:Txt P w K mg a):FnOk P w K mg base CX0 3 (a.f 12) (a.d 12) ["thing"] (spC K gRsf):=by
 have S:=(T.F 12 rfl).s;have D:=xA (base:=base) T;refine(T.F 12 rfl).ok (fun ts C R h=>?_) fun N A U s H E G=>⟨_,(kQ (gQ (ZU (zX bX oZ rfl T.jX rfl (qQ (cv 0) (ca1 (dW rfl T.hX rfl)))) (ZQ (zX (eR rfl) vI rfl T.VT rfl (ca1 (nW rfl (S.c (by decide +kernel)) (S.k (L:=0) rfl rfl rfl (by decide +kernel)) (pF (cv 0)) (fun _ _ _ _ _=>aJ) (fun _ _ _ _ _=>(cf (T.F 13 rfl) D G (ca1 (cv 0))))))))))),?_⟩
 .obtain ⟨_,rfl,_⟩:=h;rfl
 rintro ts C R ⟨x,rfl,J,j,q⟩
 cases J with
 |@tup ts I =>
  refine iX rfl rfl (nZ rfl (rH (fun t=>.bl (rdF t)) ts [] C Gr.refl (by rw[Co,BI];exact(j ts rfl).1) (fun y B C1 M g F=>⟨y,rfl,(I y B).gr g,(j ts rfl).2 y B,F⟩) fun p C1 O g m=>?_));exact GU (by rw[m,BJ];rfl) (q C1 g)
 |lst h=>exact iX rfl h (wZ rfl (q C Gr.refl))
 |dct h=>exact iX rfl h (wZ rfl (q C Gr.refl))
 |_=>exact iX rfl rfl (wZ rfl (q C Gr.refl))
end
theorem pl_up(h:Pl d t):Pl (d+1) t:=by
 induction h with
 |non=>exact .non
 |bl b=>exact .bl b
 |int i=>exact .int i
 |str x=>exact .str x
 |tup _ g=>exact .tup g
theorem yJ(h:Pl d t)(j:d<=e):Pl e t:=by
 induction j with
 |refl=>exact h
 |step _ g=>exact pl_up g
theorem key_pl k:Pl 0 (fW k):=by
 rcases k with (_ | i) | x
 .exact .non
 .exact .int i
 .exact .str x
theorem Qm sp:Pl 1 (uK sp):=.tup fun t g=>by
 obtain⟨k,_,rfl⟩:=AN.1 g;exact key_pl k
theorem Wv p:Pl 2 (bZ p):=.tup fun t g=>by
 obtain⟨sp,hs,rfl⟩:=AN.1 g;exact Qm sp
theorem si_pl c:Pl 1 (dQ c):=.tup fun t g=>by
 rcases Ai.1 g with rfl | g
 .exact .str _
 .cases AD.1 g;exact .int _
theorem jF(cs:List (Str×Int)):Pl 2 (.tup (cs.map dQ)):=.tup fun t g=>by
 obtain⟨c,_,rfl⟩:=AN.1 g;exact si_pl c
theorem cv_pl c:Pl 1 (Vs c):=.tup fun t g=>by
 simp only[List.mem_cons,List.not_mem_nil,or_false] at g
 rcases g with rfl | rfl | rfl
 .exact .str _
 .exact .str _
 .exact .int _
theorem hdv_pl(h:HdV):Pl 3 h.pv:=.tup fun t g=>by
 simp only[List.mem_cons,List.not_mem_nil,or_false] at g
 rcases g with rfl | rfl | rfl | rfl
 .exact .str _
 .exact .int _
 .exact .bl _
 .exact .tup fun t g=>by
   obtain⟨c,_,rfl⟩:=AN.1 g;exact cv_pl c
theorem wt_pl: ∀d x,WtOk rs d x->Pl (2 * d+4) x.pv:=by
 intro d
 induction d with
 |zero=>intro x h;exact h.elim
 |succ d F =>
  intro x h;have e:2 * (d+1)+4=(2 * d+5)+1:=by lia
  rw[e]
  have B:∀r:List Wt,(∀y∈r,WtOk rs d y)->Pl (2 * d+5) (.tup (Wt.pvs r)):=fun r D=>.tup fun t j=>by
   rw[Wt.pvs_map] at j;obtain⟨y,q,rfl⟩:=AN.1 j;exact F y (D y q)
  cases x with
  |plain sp G ss hs r =>
   refine .tup fun t j=>?_
   simp only[List.mem_cons,List.not_mem_nil,or_false] at j
   rcases j with rfl | rfl | rfl | rfl | rfl | rfl
   .exact .str _
   .exact yJ (Qm sp) (by lia)
   .exact .str _
   .exact yJ (jF ss) (by lia)
   .refine yJ (d:=4) (.tup fun t j=>?_) (Cm _ _)
    obtain⟨y,q,rfl⟩:=AN.1 j;exact hdv_pl y
   .exact B r h.2.2.1
  |part sp n g =>
   refine .tup fun t j=>?_
   simp only[List.mem_cons,List.not_mem_nil,or_false] at j
   rcases j with rfl | rfl | rfl | rfl
   .exact .str _
   .exact yJ (Qm sp) (by lia)
   .exact .str _
   .exact yJ (jF g) (by lia)
  |give sp n i r =>
   refine .tup fun t j=>?_
   simp only[List.mem_cons,List.not_mem_nil,or_false] at j
   rcases j with rfl | rfl | rfl | rfl | rfl
   .exact .str _
   .exact yJ (Qm sp) (by lia)
   .exact .str _
   .exact .int _
   .exact B r h.2.2.1
theorem ti_pl c:Pl 2 (dY c):=.tup fun t g=>by
 rcases Ai.1 g with rfl | g
 .exact .tup fun t g=>by
   obtain⟨x,_,rfl⟩:=AN.1 g;exact .str x
 .cases AD.1 g;exact .int _
theorem pc_pl{x:Pc}(h:fB rs 6 x.row):Pl 18 x.pv:=by
 refine .tup fun t g=>?_
 simp only[List.mem_cons,List.not_mem_nil,or_false] at g
 rcases g with rfl | rfl | rfl
 .refine yJ (d:=3) (.tup fun t g=>?_) (by decide)
  obtain⟨c,_,rfl⟩:=AN.1 g;exact ti_pl c
 .refine .tup fun t g=>?_
  rw[Wt.pvs_map] at g;obtain⟨y,j,rfl⟩:=AN.1 g;exact wt_pl 6 y (h.1 y j)
 .exact yJ (jF _) (by decide)
theorem prt_pl(x:Prt):Pl 20 x.pv:=by
 refine .tup fun t g=>?_
 simp only[List.mem_cons,List.not_mem_nil,or_false] at g
 rcases g with rfl | rfl | rfl | rfl
 .exact yJ (Wv _) (by decide)
 .exact .str _
 .exact yJ (jF _) (by decide)
 .exact yJ (jF _) (by decide)
theorem en_pl{e:En}(h:fB rs 6 e.pc.row):Pl 20 e.pv:=by
 refine .tup fun t g=>?_
 simp only[List.mem_cons,List.not_mem_nil,or_false] at g
 rcases g with rfl | rfl | rfl | rfl | rfl
 .exact yJ (Wv _) (by decide)
 .exact .str _
 .exact yJ (jF _) (by decide)
 .exact yJ (jF _) (by decide)
 .exact yJ (pc_pl h) (by decide)
theorem Pn.of(h:Pl d t):Pn t:=by
 induction h with
 |non=>exact .non
 |bl b=>exact .bl b
 |int i=>exact .int i
 |str x=>exact .str x
 |tup _ g=>exact .tup g
theorem xF{α:Type}{f}: ∀{l:List α},(∀x∈l,pw (f x)<=c)->pws (l.map f)<=c * l.length
 |[],_=>by exact Ab _
 |x::l,h=>by
  have h1:=xF fun y g=>h y (AH _ g);have h2:=h x AE;rw[A5,pws,AL,Nat.mul_add,Nat.mul_one]
  lia
theorem lL ts:pw (.tup ts)=1+pws ts:=by rw[pw]
theorem pw_key k:pw (fW k)<=1:=by rcases k with (_ | i) | x<;>simp[fW,pw]
theorem Jy sp:pw (uK sp)<=1+sp.length:=by
 have:=xF (l:=sp) fun k _=>pw_key k
 delta uK
 rw[lL]
 lia
theorem pw_si c:pw (dQ c)=3:=by delta dQ;simp[pw,pws]
theorem oN(cs:List (Str×Int)):pw (.tup (cs.map dQ))<=1+3 * cs.length:=by
 have:=xF (l:=cs) fun c _=>B6 (pw_si c);rw[lL]
 lia
theorem pw_hd{h:HdV}(g:h.ch.length<=4):pw h.pv<=21:=by
 have:=xF (f:=Vs) (c:=4) (l:=h.ch) fun c _=>by delta Vs;simp[pw,pws]
 delta HdV.pv
 simp only[pw,pws]
 lia
theorem pw_wt: ∀d x,WtOk rs d x->pw x.pv<=105 * x.wc:=by
 intro d
 induction d with
 |zero=>intro x h;exact h.elim
 |succ d J =>
  intro x h
  have D:∀r:List Wt,(∀y∈r,WtOk rs d y)->pws (Wt.pvs r)<=105 * Wt.wcs r:=by
   intro r
   induction r with
   |nil=>intro _;rw[Wt.pvs,pws];exact Ab _
   |cons y r L =>
    intro B;have h1:=L fun z I=>B z (AH _ I);have h2:=J y (B y AE);rw[Wt.pvs,pws,Wt.wcs,Nat.mul_add]
    lia
  cases x with
  |plain sp N ss hs r =>
   have h1:=h.1;have h2:=h.2.1;have q:=Jy sp;have j:=oN ss;have M:=xF (f:=HdV.pv) fun y G=>pw_hd (h2.2.2 y G);have F:=D r h.2.2.1;rw[Wt.pv,Wt.wc];rw[lL] at j
   simp only[pw,pws]
   lia
  |part sp n g =>
   have h1:=h.1;have h2:=h.2.2.1;have q:=Jy sp;have j:=oN g;rw[Wt.pv,Wt.wc];rw[lL] at j
   simp only[pw,pws]
   lia
  |give sp n i r =>
   have h1:=h.1;have q:=Jy sp;have F:=D r h.2.2.1;rw[Wt.pv,Wt.wc]
   simp only[pw,pws]
   lia
noncomputable def dOf(cs:List (List Str×Int)):Rds:=cs.map fun c=>(c.1.map Sum.inr,.int c.2)
abbrev ASKW:List Str:=["take","box","down"]
def RdP(cs:List (List Str×Int)):Prop:=∀c∈cs,∃s n,c.1=[s,n]/\ASKW.contains s=true/\yF n=true/\Bd c.2
theorem rdF_is(h:rdF x=true):∃s n i,x=dY ([s,n],i)/\ASKW.contains s=true/\yF n=true/\Bd i:=by
 delta rdF at h
 split at h
 .next q n =>
  rw[A3] at h;obtain⟨h1,h2⟩:=h
  delta quF at h2
  split at h2
  .next s m =>
   rw[A3] at h2;obtain⟨h2,g⟩:=h2
   cases n with
   |int i =>
    have h1:(decide (-1000000000<=i)&&decide (i<=1000000000))=true:=h1;rw[A3] at h1
    cases s with
    |str s =>
     cases m with
     |str n=>exact⟨s,n,i,rfl,h2,g,Aa h1.1,Aa h1.2⟩
     |_=>cases g
    |_=>cases h2
   |_=>cases h1
  .cases h2
 .cases h
theorem rdF_of(h1:ASKW.contains s=true)(h2:yF n=true)(g:Bd i):rdF (dY ([s,n],i))=true:=by
 show((decide (-1000000000<=i)&&decide (i<=1000000000))&&(ASKW.contains s&&yF n))=true;rw[h1,h2,Af g.1,Af g.2]
 rfl
theorem Js:∀{ts},(ts.map rdF).all id=true->∃cs,ts=cs.map dY/\RdP cs
 |[],_=>⟨[],rfl,fun _ z=>nomatch z⟩
 |t::ts,h=>by
  rw[A5,DE,A3] at h;refine oQ (Js h.2) fun cs e o=>ZJ (rdF_is h.1) fun s n i j o'=>⟨([s,n],i)::cs,by rw[e,j];rfl,fun c g=>?_⟩
  rcases Ai.1 g with rfl | g
  .exact ⟨s,n,rfl,o'⟩
  .exact o c g
theorem rdsF_of(h:RdP cs):rdsF (.tup (cs.map dY))=true:=by
 show((cs.map dY).map rdF).all id=true;rw[Bo];intro b j;obtain⟨t,B,rfl⟩:=AN.1 j;obtain⟨c,q,rfl⟩:=AN.1 B;refine xR (h c q) fun s n e h1 h2 g=>?_;obtain⟨D,F⟩:=c;cases e;exact rdF_of h1 h2 g
theorem qM:∀{cs},RdP cs->X8 (cs.map dY)=some (dOf cs)
 |[],_=>rfl
 |c::cs,h=>by
  have q:=qM fun x j=>h x (AH _ j);refine wB (h c AE) fun s n e _=>?_;obtain⟨B,g⟩:=c;cases e;show(match some ([Sum.inr s,Sum.inr n]:List Key),X8 (cs.map dY) with | some k,some ps=>some ((k,PV.int g)::ps) | _,_=>none)=_;rw[q]
  rfl
theorem bO[DecidableEq κ](g:κ->PV):∀ps acc,(∀p∈ps,p.2=g p.1)->∀k,pK (mergeG acc ps) k=if k∈ps.map (·.1) then some (g k) else pK acc k
 |[],acc,_,k=>by rfl
 |p::ps,acc,h,k=>by
  show pK (mergeG (putG acc p.1 p.2) ps) k=_;rw[bO g ps _ (fun x q=>h x (AH _ q)) k,Qi,A5]
  by_cases e:k∈ps.map (·.1)
  .rw [Ac e,Ac (AH _ e)]
  .rw [Ad e]
   by_cases j:k=p.1
   .rw [Ac j,Ac (j▸AE),h p AE,j]
   .rw [Ad j,Ad (fun z=>(Ai.1 z).elim j e)]
theorem Q4:∀ps acc,ABd ps->ABd acc->ABd (mergeG acc ps)
 |[],acc,_,h=>h
 |p::ps,acc,h,j=>Q4 ps (putG acc p.1 p.2) (fun x g=>h x (AH _ g)) fun x g=>by
  rcases eN g with e | e
  .exact e▸h p AE
  .exact j x e
theorem dOf_bd(h:RdP cs):ABd (dOf cs):=fun B q=>by
 obtain⟨c,j,rfl⟩:=AN.1 q;exact xR (h c j) fun _ _ _ _ _ g=>⟨c.2,rfl,g⟩
section
variable {A:Rds}{rs:List Str}{cap:Nat}{x:Pt}
theorem Jz: bT A bs fun R=>∀j∈R,∃s n,jL bs s n/\j=(qK s n,.int (mU A s n)):=fun R s n h q j g=>by
 delta putG at g
 split at g
 .obtain ⟨y,B,rfl⟩:=AN.1 g
  split
  .next e=>exact⟨s,n,h,by rw[e]⟩
  .exact q y B
 .rcases AX.1 g with g | g
  .exact q j g
  .cases AD.1 g;exact⟨s,n,h,rfl⟩
theorem sU(g:cU rs cap x):∀j∈oU A x,∃s n,jL (x.first.map (·.1)) s n/\j=(qK s n,.int (mU A s n)) :=
 fJ Jz g.wk (iZ Jz g.ls fun _ z=>nomatch z)
theorem uG: c∈(bJ A x).reads↔c∈(oU A x).map rdC:=(vO _).mem_iff
theorem aW(q:cU rs cap x)(h:c∈(bJ A x).reads):∃s n,jL (x.first.map (·.1)) s n/\c=([s,n],mU A s n):=by
 obtain⟨j,g,rfl⟩:=AN.1 (uG.1 h);obtain⟨s,n,h1,rfl⟩:=sU q j g;exact⟨s,n,h1,rfl⟩
theorem nU(g:cU rs cap x)(q:ABd A):RdP (bJ A x).reads:=fun c B=>by
 obtain⟨s,n,h1,rfl⟩:=aW g B;refine⟨s,n,rfl,?_,?_,(yS q s n).2⟩
 .rcases h1 with ⟨rfl | rfl,_⟩ | ⟨rfl,_⟩<;>decide +kernel
 .rcases h1 with ⟨_,h⟩ | ⟨_,h⟩
  .have j:∀m∈(["a","ab","b"]:List Str),yF m=true:=by decide +kernel
   exact j n h
  .obtain ⟨y,D,rfl⟩:=AN.1 h
   exact g.bn y D
theorem KU(q:cU rs cap x):Ag A (mergeG [] (dOf (bJ A x).reads)) (oU A x):=fun s n g=>by
 refine oQ (AN.1 g) fun F j e=>?_;obtain⟨s',G,_,rfl⟩:=sU q F j;cases e
 have v:=bO (fun k:List Key=>match k with | [.inr s,.inr n]=>PV.int (mU A s n) | _=>.non) (dOf (bJ A x).reads) [] (fun p D=>by
  obtain⟨c,B,rfl⟩:=AN.1 D;obtain⟨s,n,_,rfl⟩:=aW q B
  rfl) (qK s n)
 have g:qK s n∈(dOf (bJ A x).reads).map (·.1):=AN.2 ⟨(qK s n,.int (mU A s n)),AN.2 ⟨([s,n],mU A s n),uG.2 (AN.2 ⟨_,j,rfl⟩),rfl⟩,rfl⟩;rw[Ac g] at v;show _=(match pK (mergeG [] (dOf (bJ A x).reads)) (qK s n) with | some (.int i)=>i | _=>0);rw[v]
theorem WT(g:cU rs cap x)(j:ABd A):fB rs 6 (bJ A x).row:=Wg g.ls ⟨j,(fun _ z=>nomatch z),(fun _ z=>nomatch z),by rw[AB];exact g.fl⟩
theorem cL(g:cU rs cap x)(j:ABd A):(bJ A x).reads.length<=10:=by
 have h1:=(vO ((oU A x).map rdC)).length_eq;have h2:RdOk (x.first.map (·.1)) (oU A x):=fJ (wJ j) g.wk (iZ (wJ j) g.ls ⟨BZ,(fun _ z=>nomatch z),(fun _ z=>nomatch z)⟩);have q:=h2.len;have B:=g.fl;rw[AB] at h1 q;show(KW _).length<=_
 lia
theorem pc_pw(g:cU rs cap x)(q:ABd A):pw (bJ A x).pv<=1000000:=by
 have h1:=cL g q
 have h2:=xF (f:=dY) (c:=5) (l:=(bJ A x).reads) fun c G=>by
  obtain⟨s,n,_,rfl⟩:=aW g G
  delta dY
  simp[pw,pws]
 have N:pws (Wt.pvs (bJ A x).row)<=105 * Wt.wcs (bJ A x).row:=by
  have D:∀r:List Wt,(∀y∈r,WtOk rs 6 y)->pws (Wt.pvs r)<=105 * Wt.wcs r:=by
   intro r
   induction r with
   |nil=>intro _;rw[Wt.pvs,pws];exact Ab _
   |cons y r J =>
    intro B;have L:=J fun z I=>B z (AH _ I);have M:=pw_wt 6 y (B y AE);rw[Wt.pvs,pws,Wt.wcs,Nat.mul_add]
    lia
  exact D _ (WT g q).1
 have j:=wW A x.ls [] ([],[],[]);have j:Wt.wcs (bJ A x).row<=0+Ln.tws x.ls:=j;have O:=g.tw;have F:=oN (bJ A x).works;have S:(bJ A x).works.length<=4:=by show(xJ A [] x.works).length<=4;delta xJ;rw[AB];exact g.wl
 rw[lL] at F
 delta Pc.pv
 simp only[pw,pws]
 lia
end
section
variable {P:Program}{w:World}{K:Dj}{mg:Str->Option Value}{base:Heap}{a:Adr}
def Pg(x:PV):Prop:=∀ts y z,x=.tup [.tup ts,y,z]->ts.length<=sizeLine/\∀t∈ts,Sg t
theorem len4{α:Type}x y z u(r:List α)k(h:k=3):(!decide (((x::y::z::u::r).length:Int)=k))=true:=by
 rw[AR (by rw[AL,AL,AL,AL];lia)]
 rfl
inductive gLp(ts:List PV)(C:CH)(Q:K1):Prop
 |mk(pt:Pt)(x:PV)(rs:List Str)(cap:Nat)(z0:ts=[pt.pv,x])(z1:cU rs cap pt)(z2:Th C x)(z3:Pg x)(z4:∀b C',(b=true↔∃A,ABd A/\x=(bJ A pt).pv)->Gr C C'->Q (.bl b) C'):gLp ts C Q
theorem tS(T:Txt P w K mg a):FnOk P w K mg base CX0 30 (a.f 11) (a.d 11) ["part","piece"] (spC K gLp):=by
 have S:=(T.F 11 rfl).s;have XH:=(jA (base:=base) T).mono (show 3<=29 by decide);have Z:=(QU (base:=base) T).mono (show 3<=29 by decide);have Y:=QP (base:=base) T
 refine(T.F 11 rfl).ok (fun ts C R h=>?_) fun ah A ai s H E j=>⟨_,(xQ (nQ (cw_pt (cw_or (vV (mZ (zX bX oZ rfl T.jX rfl (qQ (cv 1) (ca1 (dW rfl T.hX rfl)))))) (cw_or (ct2 wO kP (cln T.jJ (cv 1)) zQ) (cw_or1 (vV (mZ (cf (T.F 12 rfl) XH j (ca1 (cx (cv 1) zQ))))))))) (kQ (gQ kW)) cQ)
  (kQ (gQ (cf (T.F 3 rfl) Z j (qQ (cv 1) (ca1 (cf (T.F 10 rfl) Y j (qQ (cv 0) (ca1 (aZ (ZV rfl (kB j)) Vz rfl T.kN rfl (ca1 (cx (cv 1) zQ)))))))))))),?_⟩
 .obtain ⟨_,_,_,_,rfl,_⟩:=h;rfl
 rintro ts C R ⟨U,x,rs,cap,rfl,D,hx,N,q⟩;have B:∀C',(∀A,ABd A->x≠(bJ A U).pv)->Gr C C'->R (.bl false) C':=fun C' h g=>q false C' ⟨(fun z=>nomatch z),fun⟨A,k,e⟩=>(h A k e).elim⟩ g
 cases hx with
 |@tup ts O =>
  refine iX rfl rfl (wF (qB (gX (rX _ _) ?_)))
  rcases ts with _ | ⟨r,_ | ⟨y,_ | ⟨z,_ | ⟨u,l⟩⟩⟩⟩
  .exact nZ rfl (B C (fun A _ e=>nomatch PV.tup.inj e) Gr.refl)
  .exact nZ rfl (B C (fun A _ e=>nomatch PV.tup.inj e) Gr.refl)
  .exact nZ rfl (B C (fun A _ e=>nomatch PV.tup.inj e) Gr.refl)
  .refine wZ rfl (mX rfl ⟨r,rfl,O r AE,fun ts e=>N ts y z (by rw[e]),fun C1 M=>?_⟩)
   cases j:rdsF r with
   |false =>
    refine mJ (B C1 (fun A F e=>?_) M);have e0:=PV.tup.inj e;injection e0 with G _
    rw[G,rdsF_of (nU D F)] at j;cases j
   |true =>
    refine wF (xX ?_)
    try dsimp only
    cases r with
    |tup ts =>
     obtain⟨cs,rfl,I⟩:=Js j;refine mX rfl (dictT_s (qM I) ?_ fun d ag=>?_)
     .delta dOf
      rw[AB];have:=(N _ y z rfl).1
      rwa [AB] at this
     have F:ABd (mergeG [] (dOf cs)):=Q4 _ _ (dOf_bd I) fun _ z=>nomatch z;refine⟨U,d,_,rs,cap,rfl,D,jQ,F,fun C2 ab=>?_⟩;have L:=(M.trans (Gr.new ag _)).trans ab;refine⟨_,_,rfl,(Th.tup O).gr L,Pn.of (pc_pl (WT D F)),pc_pw D F,fun b W hb ae=>q b W ?_ (L.trans ae)⟩;rw[hb];refine⟨fun e=>⟨_,F,e⟩,fun⟨A,af,e⟩=>?_⟩;injection (PV.tup.inj e) with G _
     have J:=qM I;rw[(PV.tup.inj G),qM (nU D af)] at J;rw[e,(pc_ag D (KU D)).1,Av J]
    |_=>cases j
  .exact nZ (len4 _ _ _ _ _ _ rfl) (B C (fun A _ e=>nomatch PV.tup.inj e) Gr.refl)
 |lst h=>exact iX rfl h (mJ (B C (fun A _ e=>nomatch e) Gr.refl))
 |dct h=>exact iX rfl h (mJ (B C (fun A _ e=>nomatch e) Gr.refl))
 |_=>exact iX rfl rfl (mJ (B C (fun A _ e=>nomatch e) Gr.refl))
end
theorem rN:∀L A,(oV L A).length<=A.length+(L.map fun e=>e.2.length).sum
 |[],A=>AJ _
 |e::L,A=>by
  have h1:=rN L (tZ e.1 e.2 A);have h2:=zV (s:=e.1) e.2 A;show(oV L (tZ e.1 e.2 A)).length<=_;rw[A5,List.sum_cons]
  lia
section
variable {P:Program}{w:World}{K:Dj}{mg:Str->Option Value}{base:Heap}{a:Adr}
inductive gPo(ts:List PV)(C:CH)(Q:K1):Prop
 |mk(pts:List Pt)(x:Pt)(z0:ts=[.tup (pts.map Pt.pv),.str x.name])(z1:(kJ pts).Nodup)(z2:x∈pts)(z3:Q x.pv C):gPo ts C Q
theorem vC(T:Txt P w K mg a):FnOk P w K mg base CX0 1 (a.f 9) (a.d 9) ["house","name"] (spC K gPo):=by
 refine(T.F 9 rfl).ok (fun ts C R h=>?_) fun U A Y s H E W=>⟨_,(xQ (nY PassesOwn.never rfl (cv 0) (cg1 2 ((T.F 9 rfl).s).nd) (kQ (nQ (ct2 cX aQ (cx (cv 2) zQ) (cv 1)) (kQ (gQ (cv 2))) cQ)))
  (kQ (gQ wV))),?_⟩
 .obtain ⟨F,x,rfl,_⟩:=h;rfl
 rintro ts C R ⟨F,x,rfl,O,M,q⟩;refine kZ (mF rfl (uJ (fun zs J C'=>C'=C/\∃B vs I,F=B++vs/\zs=vs.map Pt.pv/\(∀u∈B,u.name≠x.name)/\J=[some (.tup (F.map Pt.pv)),some (.str x.name),I]) ?_ ?_ _ _ _ ⟨rfl,[],F,_,rfl,rfl,(fun _ z=>nomatch z),rfl⟩))
 .rintro z zs J C' ⟨rfl,B,vs,I,e,D,G,rfl⟩ L S
  cases vs with
  |nil=>cases D
  |cons v vs =>
  obtain⟨rfl,rfl⟩:=BN D;refine mX rfl (gX (lQ _ _) (gZ (fun g=>?_) fun g=>?_))
  .have g:=Aa g
   have N:=gH O (e▸AU _ AE) g;rw[gH O M rfl] at N
   rwa [N] at q
  .refine xX (S _ _ ⟨rfl,B++[v],vs,_,by rw[AY];exact e,rfl,fun u j=>?_,rfl⟩)
   rcases AX.1 j with j | j
   .exact G u j
   .cases AD.1 j
    exact CU g
 .rintro J C' ⟨rfl,B,vs,I,e,D,G,rfl⟩
  cases vs with
  |cons v vs=>cases D
  |nil =>
  rw[Aj] at e;subst e;exact absurd rfl (G x M)
inductive gBx(ts:List PV)(C:CH)(Q:K1):Prop
 |mk(y:Pt)(vv:Addr)(V:Vl)(p:wK)(z0:ts=[y.pv,.ref vv,bZ p])(z1:C vv=some (.dP (vlP V)))(z2:Q (.tup ((tX V y p).map dQ)) C):gBx ts C Q
theorem QR(T:Txt P w K mg a):FnOk P w K mg base CX0 1 (a.f 19) (a.d 19) ["part","values","path"] (spC K gBx):=by
 refine(T.F 19 rfl).ok (fun ts C R h=>?_) fun D A F s H E B=>⟨_,(xQ (cs1 3 ((T.F 19 rfl).s).nd (ce_bmQ DG Bt PySem.F.type_dict_get (mt_getQ (kB B)) Gw (cv 1) (ca1 (cv 2))))
  (xQ (nQ (cw_pt (cw_or (ct2 xC rD (cv 3) wV) (cw_or1 (ct2 wO kP (cx (cv 3) zQ) (cx (cv 0) zQ))))) (kQ (gQ (cx (cv 0) zQ))) cQ)
  (kQ (gQ (cx (cv 3) zQ))))),?_⟩
 .obtain ⟨y,j,V,p,rfl,_⟩:=h;rfl
 rintro ts C R ⟨y,j,V,p,rfl,g,q⟩;refine uQ ⟨⟨j,_,rfl,g⟩,getQ_s g (xY p) ?_⟩;rw[pE]
 delta tX at q
 cases e:tP V p with
 |none =>
  rw[e] at q
  apply kZ
  delta GP cOr
  refine hU (x:=.non) ?_ ?_
  .rfl
  exact Vm rfl (mX rfl q)
 |some v =>
  rw[e] at q;dsimp only at q
  apply kZ
  delta GP cOr
  refine hU (x:=vPV v) ?_ ?_
  .rfl
  refine rM rfl (mX tQ (mX tQ (gX (lQ _ _) ?_)))
  by_cases h:v.1=y.name
  .rw [Ac h] at q
   apply wZ (by rw[Af h];rfl)
   exact xX (mX rfl q)
  .rw [Ad h] at q
   apply nZ (by rw[AR h];rfl)
   exact mX rfl q
inductive gAt(ts:List PV)(C:CH)(Q:K1):Prop
 |mk(x:Prt)(bx:List (Str×Int))(z0:ts=[.tup (x.gives.map dQ),.tup (x.downs.map dQ),.tup (bx.map dQ)])(z1:x.gives.length+x.downs.length+bx.length<=100)(z2:∀aa C',C aa=none->C' aa=some (.dT (yW x bx))->Gr C C'->Q (.ref aa) C'):gAt ts C Q
theorem eS(T:Txt P w K mg a):FnOk P w K mg base CX0 1 (a.f 18) (a.d 18) ["gives","downs","boxes"] (spC K gAt):=by
 have S:=(T.F 18 rfl).s
 refine(T.F 18 rfl).ok (fun ts C R h=>?_) fun ag A ah s H E hr=>⟨_,(xQ (cs1 3 S.nd kI)
  (xQ (nY PassesOwn.never rfl (pQ (qQ (pQ (qQ wQ (ca1 (cv 0)))) (qQ (pQ (qQ wQ (ca1 (cv 1)))) (ca1 (pQ (qQ wQ (ca1 (cv 2)))))))) (gB rfl (pX (cg1 4 S.nd) (pX (cg1 5 S.nd) tY))) (kQ (nY PassesOwn.never rfl (cv 5) (gB rfl (pX (cg1 6 S.nd) (pX (cg1 7 S.nd) tY))) (kQ (iA (eX hr) (cv 3) (pQ (qQ (cv 4) (ca1 (cv 6)))) (cv 7))))))
  (kQ (gQ (cv 3))))),?_⟩
 .obtain ⟨_,_,rfl,_⟩:=h;rfl
 rintro ts C R ⟨x,q,rfl,hl,af⟩
 apply uQ
 intro aa U;have hs:((wL x q).map fun e=>e.2.length).sum<=100:=by show x.gives.length+(x.downs.length+(q.length+0))<=100;lia
 refine iQ (fun Z C'=>∃G I B D,Z=[some (.tup (x.gives.map dQ)),some (.tup (x.downs.map dQ)),some (.tup (q.map dQ)),some (.ref aa),G,I,B,D]/\C' aa=some (.dT (yW x q))/\Gr C C') (fun L hL=>?_) ?_
 .refine forT_g ⟨zz 2 rfl,?_⟩
  refine⟨zz 2 rfl,?_⟩;refine⟨zz 2 rfl,?_⟩;refine⟨zz 3 rfl,?_⟩;refine uJ (fun zs F C'=>∃(j vs:List (Str×List (Str×Int)))(G I B D:Option PV),wL x q=j++vs/\zs=vs.map srPV/\F=[some (.tup (x.gives.map dQ)),some (.tup (x.downs.map dQ)),some (.tup (q.map dQ)),some (.ref aa),G,I,B,D]/\C' aa=some (.dT (oV j []))/\Gr C C') ?_ ?_ _ _ _ ⟨[],wL x q,_,_,_,_,rfl,rfl,rfl,jQ,Gr.new U _⟩
  .rintro z zs F N ⟨j,vs,G,I,B,D,e,g,rfl,M,J⟩ L1 ab
   cases vs with
   |nil=>cases g
   |cons v vs =>
   obtain⟨rfl,rfl⟩:=BN g;refine⟨rfl,qZ (qZ (yB ?_))⟩
   try dsimp only
   apply mF rfl
   have Y:=rN j [];rw[e,AO,List.sum_append,A5,List.sum_cons] at hs;have Y:(oV j []).length<=0+_:=Y;refine uJ (fun zs F C'=>∃(ps qs:List (Str×Int))(B D:Option PV),v.2=ps++qs/\zs=qs.map dQ/\F=[some (.tup (x.gives.map dQ)),some (.tup (x.downs.map dQ)),some (.tup (q.map dQ)),some (.ref aa),some (.str v.1),some (.tup (v.2.map dQ)),B,D]/\C' aa=some (.dT (tZ v.1 ps (oV j [])))/\Gr C C') ?_ ?_ _ _ _ ⟨[],v.2,_,_,rfl,rfl,rfl,M,J⟩
   .rintro z zs F C4 ⟨ps,qs,y6,y7,ep,g,rfl,W,O⟩ L2 ae
    cases qs with
    |nil=>cases g
    |cons c qs =>
    obtain⟨rfl,rfl⟩:=BN g;refine⟨rfl,qZ (qZ (yB ⟨zz 2 rfl,?_⟩))⟩;have hp:=zV (s:=v.1) ps (oV j []);have hv:=Bi List.length ep;rw[AG] at hv
    apply XY W rfl (by lia)
    refine ae _ _ ⟨ps++[c],qs,_,_,by rw[AY];exact ep,rfl,rfl,?_,bW O U _⟩;rw[jQ]
    delta tZ
    rw[BO]
    rfl
   .rintro F C4 ⟨ps,qs,y6,y7,ep,g,rfl,W,O⟩
    cases qs with
    |cons c qs=>cases g
    |nil =>
    rw[Aj] at ep;refine ab _ _ ⟨j++[v],vs,_,_,_,_,by rw[AY];exact e,rfl,rfl,?_,O⟩;rw[W,<- ep]
    delta oV
    rw[BO]
    rfl
  .rintro F N ⟨j,vs,G,I,B,D,e,g,rfl,M,J⟩
   cases vs with
   |cons v vs=>cases g
   |nil =>
   rw[Aj] at e;exact hL _ _ ⟨_,_,_,_,rfl,by rw[M,<- e];rfl,J⟩
 rintro Z N ⟨G,I,B,D,rfl,M,J⟩;exact af aa N U M J
end
theorem Wc(e:x=.tup xs)(h:¬ (HT.sIx xs.length 0 lo=0/\HT.sIx xs.length xs.length hi=xs.length))(q:Q (.tup (xZ xs lo hi)) C):cSlT x lo hi C Q:=by
 subst e
 delta cSlT
 exact⟨h,q⟩
theorem ag_of{cap}(g:cU rs cap y)(L:ABd A)(M:ABd B)(e:(bJ A y).pv=(bJ B y).pv):Ag A B (oU A y):=fun s n S=>by
 injection (PV.tup.inj e) with F _
 have q:=qM (nU g L);rw[PV.tup.inj F,qM (nU g M)] at q;refine oQ (AN.1 S) fun U D J=>?_;obtain⟨s',W,_,rfl⟩:=sU g U D;cases J;have O:(qK s n,PV.int (mU A s n))∈dOf (bJ B y).reads :=(Av q)▸AN.2 ⟨([s,n],mU A s n),uG.2 (AN.2 ⟨_,D,rfl⟩),rfl⟩;refine oQ (AN.1 O) fun c N I=>?_;obtain⟨s',W,_,rfl⟩:=aW g N;injection I with G j
 cases G;injection j with j
 exact j.symm
section
variable {P:Program}{w:World}{K:Dj}{mg:Str->Option Value}{base:Heap}{a:Adr}
inductive gAd(ts:List PV)(C:CH)(Q:K1):Prop
 |mk(pts:List Pt)(vv:Addr)(V:Vl)(x:Prt)(y:Pt)(z0:ts=[.tup (pts.map Pt.pv),.ref vv,x.pv])(z1:(kJ pts).Nodup)(z2:y∈pts)(z3:y.name=x.name)(z4:C vv=some (.dP (vlP V)))(z5:x.gives.length+x.downs.length+(tX V y x.path).length<=100)(z6:∀aa C',C aa=none->C' aa=some (.dT (yW x (tX V y x.path)))->Gr C C'->Q (.ref aa) C'):gAd ts C Q
theorem yC(T:Txt P w K mg a):FnOk P w K mg base CX0 2 (a.f 20) (a.d 20) ["house","values","due"] (spC K gAd):=by
 have L:=vC (base:=base) T;have B:=QR (base:=base) T;have D:=eS (base:=base) T
 refine(T.F 20 rfl).ok (fun ts C R h=>?_) fun S A U s H E j=>⟨_,(xQ (cs1 3 ((T.F 20 rfl).s).nd (cf (T.F 19 rfl) B j (qQ (cf (T.F 9 rfl) L j (qQ (cv 0) (ca1 (cx (cv 2) zQ)))) (qQ (cv 1) (ca1 (cx (cv 2) zQ))))))
  (kQ (gQ (cf (T.F 18 rfl) D j (qQ (cx (cv 2) zQ) (qQ (cx (cv 2) zQ) (ca1 (cv 3)))))))),?_⟩
 .obtain ⟨_,_,_,_,_,rfl,_⟩:=h;rfl
 rintro ts C R ⟨N,O,V,x,y,rfl,M,J,G,I,F,q⟩;have g:x.pv=.tup [bZ x.path,.str x.name,.tup (x.gives.map dQ),.tup (x.downs.map dQ)]:=rfl;refine uQ (yX g rfl ⟨N,y,by rw[G],M,J,?_⟩);exact yX g rfl ⟨y,O,V,x.path,rfl,I,yX g rfl (yX g rfl ⟨x,tX V y x.path,rfl,F,q⟩)⟩
inductive gAw(ts:List PV)(C:CH)(Q:K1):Prop
 |mk(A B:Rds)(y:Pt)(rs:List Str)(cap:Nat)(aa:Addr)(z0:ts=[(bJ A y).pv,.ref aa])(z1:cU rs cap y)(z2:ABd A)(z3:ABd B)(z4:C aa=some (.dT B))(z5:∀b C',(b=true↔Ag A B (oU A y))->Gr C C'->Q (.bl b) C'):gAw ts C Q
theorem QT(T:Txt P w K mg a):FnOk P w K mg base CX0 1 (a.f 21) (a.d 21) ["piece","answers"] (spC K gAw):=by
 have S:=(T.F 21 rfl).s;refine(T.F 21 rfl).ok (fun ts C R h=>?_) fun ab A af s H E W=>⟨_,(kQ (gQ (zX (eR rfl) vI rfl T.VT rfl (ca1 (nW rfl (S.c (by decide +kernel)) (S.k rfl rfl rfl (by decide +kernel)) (pF (cx (cv 0) zQ)) (fun _ _ _ _ _=>aJ) (fun _ _ _ _ _=>(gY cX aQ (Xz (eX W) (cv 2) (cx (cv 0) zQ) zQ) (cx (cv 0) zQ) (jG _)))))))),?_⟩
 .obtain ⟨_,_,_,_,_,_,rfl,_⟩:=h;rfl
 rintro ts C R ⟨A,B,y,rs,cap,aa,rfl,F,L,M,Z,q⟩
 apply mX (xs:=[.tup ((bJ A y).reads.map dY),.tup (Wt.pvs (bJ A y).row),.tup ((bJ A y).works.map dQ)]) (v:=.tup ((bJ A y).reads.map dY)) rfl
 have ae:=cL F L;refine rH (fun t=>match t with | .tup [.tup [.str s,.str n],.int i]=>.bl (decide (mU B s n=i)) | _=>.non) ((bJ A y).reads.map dY) [] C Gr.refl (uZ (by rw[Co,AB];lia)) (fun t Y C1 Q' g U=>?_) fun p C1 h3 g m=>?_
 .obtain ⟨c,j,rfl⟩:=AN.1 Y
  obtain⟨s,n,_,rfl⟩:=aW F j;have I:=g _ _ Z;exact⟨YE I,mX rfl (V1 I rfl (yS M s n).1 (mX rfl (gX (rX _ _) (U C1 Gr.refl))))⟩
 .refine GU (bs:=(bJ A y).reads.map fun c=>decide (mU B (c.1.getD 0 "") (c.1.getD 1 "")=c.2)) (by
   rw[m,DU,BJ,BJ]
   congr 2
   refine CD fun c j=>?_;obtain⟨s,n,_,rfl⟩:=aW F j
   rfl) ?_
  refine q _ C1 ?_ g;rw[Bo];refine⟨fun h s n O=>?_,fun h b N=>?_⟩
  .refine oQ (AN.1 O) fun G D J=>?_
   obtain⟨s',n',_,rfl⟩:=sU F G D;cases J;have:=h _ (AN.2 ⟨([s,n],mU A s n),uG.2 (AN.2 ⟨_,D,rfl⟩),rfl⟩);exact(Aa this).symm
  .obtain ⟨c,j,rfl⟩:=AN.1 N
   obtain⟨G,D,rfl⟩:=AN.1 (uG.1 j);obtain⟨s,n,_,rfl⟩:=sU F G D;exact Af (h s n (AN.2 ⟨_,D,rfl⟩)).symm
noncomputable def duPV:Option Prt->PV
 |some x=>x.pv
 |none=>.non
def Eg(x:PV):Prop:=∀a b c d p,x=.tup [a,b,c,d,p]->Pg p
inductive gLd(ts:List PV)(C:CH)(Q:K1):Prop
 |mk(pts:List Pt)(vv:Addr)(V:Vl)(du:Option Prt)(x:PV)(z0:ts=[.tup (pts.map Pt.pv),.ref vv,duPV du,x])(z1:pB pts)(z2:VOk V)(z3:C vv=some (.dP (vlP V)))(z4:(∀d,du=some d->(∃k,lB pts k d)/\pw d.pv<=1000000))(z5:Th C x)(z6:Eg x)(z7:∀b C',(b=true↔∃d,du=some d/\x=(En.mk d (tV pts V d)).pv)->Gr C C'->Q (.bl b) C'):gLd ts C Q
theorem len6{α:Type}x y z u v t(r:List α)k(h:k=5):(!decide (((x::y::z::u::v::t::r).length:Int)=k))=true:=by
 rw[AR (by rw[AL,AL,AL,AL,AL,AL];lia)]
 rfl
theorem QN(T:Txt P w K mg a):FnOk P w K mg base CX0 31 (a.f 22) (a.d 22) ["house","values","due","entry"] (spC K gLd):=by
 have S:=(T.F 22 rfl).s;have Qe:=(QU (base:=base) T).mono (show 3<=30 by decide);have mP:=(vC (base:=base) T).mono (show 1<=30 by decide);have iI:=tS (base:=base) T;have mT:=(yC (base:=base) T).mono (show 2<=30 by decide);have Jf:=(QT (base:=base) T).mono (show 1<=30 by decide)
 refine(T.F 22 rfl).ok (fun ts C R h=>?_) fun ar A av s H E F=>⟨_,(xQ (nQ (cw_pt (cw_or (ct2 xC rD (cv 2) wV) (cw_or (vV (mZ (zX bX oZ rfl T.jX rfl (qQ (cv 3) (ca1 (dW rfl T.hX rfl)))))) (cw_or1 (ct2 wO kP (cln T.jJ (cv 3)) zQ))))) (kQ (gQ kW)) cQ)
  (xQ (nQ (cw_pt (cw_or (vV (mZ (cf (T.F 3 rfl) Qe F (qQ (Gz (cv 3) aK (eK zQ)) (ca1 (cv 2)))))) (cw_or1 (vV (mZ (cf (T.F 11 rfl) iI F (qQ (cf (T.F 9 rfl) mP F (qQ (cv 0) (ca1 (cx (cv 2) zQ)))) (ca1 (cx (cv 3) zQ))))))))) (kQ (gQ kW)) cQ)
  (kQ (gQ (cf (T.F 21 rfl) Jf F (qQ (cx (cv 3) zQ) (ca1 (cf (T.F 20 rfl) mT F (qQ (cv 0) (qQ (cv 1) (ca1 (cv 2)))))))))))),?_⟩
 .obtain ⟨_,_,_,_,_,rfl,_⟩:=h;rfl
 rintro ts C R ⟨G,vv,V,du,x,rfl,hs,hV,hv,ak,hx,hg,ah⟩;have q:∀C',(∀d,du=some d->x≠(En.mk d (tV G V d)).pv)->Gr C C'->R (.bl false) C':=fun C' h g=>ah false C' ⟨(fun z=>nomatch z),fun⟨d,k,e⟩=>(h d k e).elim⟩ g
 cases du with
 |none =>
  refine kZ ?_
  delta GP cOr
  refine hU (x:=.non) ?_ ?_
  .rfl
  refine Vm rfl ?_;exact q C (fun d e=>nomatch e) Gr.refl
 |some d =>
 obtain⟨⟨k,I⟩,aq⟩:=ak d rfl;obtain⟨y,j⟩:=oI hs hV I
 have au:k < G.length:=by
  have:=(AW.1 I.nm).1;unfold kJ at this;rw[AB] at this;exact this
 have h6:=hs.n6;have hb:=jS hV j.ok d.path;have W:tV G V d=bJ (yW d (tX V y d.path)) y:=by delta tV;rw[j.is]
 have ao:d.pv=.tup [bZ d.path,.str d.name,.tup (d.gives.map dQ),.tup (d.downs.map dQ)]:=rfl;refine kZ ?_
 delta GP cOr
 refine hU (x:=d.pv) ?_ ?_
 .rfl
 refine rM rfl ?_
 cases hx with
 |@tup ts ag =>
  refine iX rfl rfl (wF ?_);refine qB ?_;refine gX (rX _ _) ?_
  rcases ts with _ | ⟨ab,_ | ⟨x1,_ | ⟨x2,_ | ⟨x3,_ | ⟨B,_ | ⟨x5,l⟩⟩⟩⟩⟩⟩
  .exact nZ rfl (q C (fun d _ e=>nomatch PV.tup.inj e) Gr.refl)
  .exact nZ rfl (q C (fun d _ e=>nomatch PV.tup.inj e) Gr.refl)
  .exact nZ rfl (q C (fun d _ e=>nomatch PV.tup.inj e) Gr.refl)
  .exact nZ rfl (q C (fun d _ e=>nomatch PV.tup.inj e) Gr.refl)
  .exact nZ rfl (q C (fun d _ e=>nomatch PV.tup.inj e) Gr.refl)
  .refine wZ rfl (xX ?_)
   have L:∀M:Pc,PV.tup [ab,x1,x2,x3,B]=(En.mk d M).pv↔PV.tup [ab,x1,x2,x3]=d.pv/\B=M.pv:=by
    intro M
    constructor
    .intro e
     have N:[ab,x1,x2,x3,B]=[bZ d.path,.str d.name,.tup (d.gives.map dQ),.tup (d.downs.map dQ),M.pv]:=PV.tup.inj e;cases N;exact⟨rfl,rfl⟩
    .rintro ⟨e,rfl⟩
     have N:=PV.tup.inj e;cases N
     rfl
   refine Wc rfl (by show ¬ (0=0/\4=5);decide) ?_;refine⟨_,d.pv,rfl,Th.tup fun t Z=>ag t ?_,Pn.of (prt_pl d),aq,fun b1 C1 J D=>?_⟩
   .have Z:=Z
    exact Au [B] Z
   have J:=J
   cases b1 with
   |false =>
    refine mJ (q C1 (fun d' O e=>?_) D);cases O;exact nomatch J.2 ((L _).1 e).1
   |true =>
    have O:=J.1 rfl;refine wF ?_;refine yX ao rfl ?_;refine⟨G,y,by rw[j.nm],hs.nd,j.mem,?_⟩;refine mX (v:=B) rfl ?_;refine⟨y,B,_,_,rfl,j.ok,(ag B (by simp)).gr D,hg _ _ _ _ _ rfl,fun b2 C2 af Y=>?_⟩
    cases b2 with
    |false =>
     refine mJ (q C2 (fun d' U e=>?_) (D.trans Y));cases U;exact nomatch af.2 ⟨_,j.ab,by rw[<- W];exact((L _).1 e).2⟩
    |true =>
     obtain⟨ae,hB,rfl⟩:=af.1 rfl;refine wF (xX ?_);refine mX (v:=(bJ ae y).pv) rfl ?_;have:=I.gl;have:=I.dl;refine⟨G,vv,V,d,y,rfl,hs.nd,j.mem,j.nm,(D.trans Y) _ _ hv,by lia,fun aa C3 _ m3 ai=>?_⟩;refine⟨ae,_,y,_,_,aa,rfl,j.ok,hB,j.ab,m3,fun b3 C4 aj g4=>?_⟩;refine ah b3 C4 ?_ (((D.trans Y).trans ai).trans g4);rw[aj];refine⟨fun h=>⟨d,rfl,(L _).2 ⟨O,by rw[W,(pc_ag j.ok h).1]⟩⟩,fun⟨d',U,e⟩=>?_⟩
     cases U;exact ag_of j.ok hB j.ab (by rw[<- W];exact((L _).1 e).2)
  .exact nZ (len6 _ _ _ _ _ _ _ _ rfl) (q C (fun d _ e=>nomatch PV.tup.inj e) Gr.refl)
 |lst h=>exact iX rfl h (mJ (q C (fun d _ e=>nomatch e) Gr.refl))
 |dct h=>exact iX rfl h (mJ (q C (fun d _ e=>nomatch e) Gr.refl))
 |_=>exact iX rfl rfl (mJ (q C (fun d _ e=>nomatch e) Gr.refl))
end
def Sp2(p:wK):Prop:=∀sp∈p,sp.length<=2
theorem Sp2.app(h:Sp2 p)(k:Sp2 q):Sp2 (p++q):=fun sp hs=>by
 rcases AX.1 hs with hs | hs
 .exact h sp hs
 .exact k sp hs
theorem Sp2.one(h:sp.length<=2):Sp2 [sp]:=fun x g=>by cases AD.1 g;exact h
theorem prts_sp: ∀d r s ds,(∀x∈r,WtOk rs d x)->Sp2 s->∀x∈Wt.prts r s ds,Sp2 x.path:=by
 intro d
 induction d with
 |zero =>
  intro r s ds B hs x j
  cases r with
  |nil=>exact nomatch j
  |cons y r=>exact(B y AE).elim
 |succ d F =>
  intro r s ds B hs
  induction r with
  |nil=>intro x j;exact nomatch j
  |cons y r I =>
   intro x j;have q:=B y AE
   rcases AX.1 j with j | j
   .cases y with
    |part sp n g=>cases AD.1 j;exact hs.app (Sp2.one q.1)
    |give sp n i D=>exact F D _ _ q.2.2.1 (hs.app (Sp2.one q.1)) x j
    |plain sp L ss J D=>exact F D _ _ q.2.2.1 (hs.app (Sp2.one q.1)) x j
   .exact I (fun z G=>B z (AH _ G)) x j
theorem dr_sp(hs:pB F){V}(I:VOk V):∀n k x,lB F k x->Sp2 x.path->∀e∈dr F V n x,Sp2 e.x.path:=by
 intro n
 induction n with
 |zero=>intro k x _ _ e g;exact nomatch g
 |succ n J =>
  intro k x h D e g
  rcases Ai.1 g with rfl | g
  .exact D
  .refine oQ (Ci.1 g) fun q B g=>?_
   obtain⟨y,j⟩:=oI hs I h;exact jZ (uY h j B) fun L _ G _=>J L _ G (D.app (prts_sp 6 _ [] [] j.row.1 (fun _ z=>nomatch z) q B)) e g
theorem jP(hs:pB j){V}(q:VOk V)(B:e∈eJ j V):(∃k,lB j k e.x)/\e=⟨e.x,tV j V e.x⟩/\pw e.x.pv<=1000000:=by
 refine oQ (Ge hs q 6 0 _ (cW hs) e B) fun k g ep=>?_;have G:=hs.n6
 have I:k < j.length:=by
  have:=(AW.1 g.nm).1;unfold kJ at this
  rwa [AB] at this
 refine⟨⟨k,g⟩,?_,?_⟩
 .rw [<- ep]
 .have h1:=xF (f:=uK) (c:=3) fun sp F=>by
   have:=Jy sp;have:=(dr_sp hs q 6 0 _ (cW hs) (fun _ z=>nomatch z) e B) sp F
   lia
  have h2:=oN e.x.gives;have D:=oN e.x.downs;have:=g.pl;have:=g.gl;have:=g.dl;rw[lL] at h2 D
  delta Prt.pv bZ
  simp only[pw,pws]
  lia
section
variable {P:Program}{w:World}{K:Dj}{mg:Str->Option Value}{base:Heap}{a:Adr}
theorem Y9(hs:pB g){V}(J:VOk V)(F:uS g st){D:List En}(B:cY g V st=D.drop i):((bK st)[(bK st).length - 1]?).getD .non=duPV (D[i]?.map (·.x)):=by
 rcases Cq i D.length with q | j
 .have G:cY g V st=D[i]::D.drop (i+1):=by rw[B,Al q]
  obtain⟨y,n,st',rfl,I,_⟩:=Qx hs J F G;rw[AK q,I,fO]
  simp[duPV]
 .have:=rem_nil F (by rw[B,BW j])
  subst this;rw[Ce j]
  rfl
inductive gLg(ts:List PV)(C:CH)(Q:K1):Prop
 |mk(pts:List Pt)(vv:Addr)(V:Vl)(x:PV)(z0:ts=[.tup (pts.map Pt.pv),.ref vv,x])(z1:pB pts)(z2:VOk V)(z3:C vv=some (.dP (vlP V)))(z4:Th C x)(z5:(∀l xs,x=.ref l->C l=some (.lst xs)->∀t∈xs,Th C t/\Eg t))(z6:∀b C',(b=true↔∃l,x=.ref l/\C l=some (.lst ((eJ pts V).map En.pv)))->Gr C C'->Q (.bl b) C'):gLg ts C Q
theorem jH(T:Txt P w K mg a):FnOk P w K mg base CX0 32 (a.f 23) (a.d 23) ["house","values","drawing"] (spC K gLg):=by
 have S:=(T.F 23 rfl).s;have yH:=(WY (base:=base) T).mono (show 1<=30 by decide);have dS:=(ok_due (base:=base) T).mono (show 1<=31 by decide);have pS:=(ok_pass (base:=base) T).mono (show 11<=31 by decide);have Ja:=QN (base:=base) T
 refine(T.F 23 rfl).ok (fun ts C R h=>?_) fun ba A bq s H E hr=>⟨_,(xQ (nQ (vV (mZ (zX bX oZ rfl T.jX rfl (qQ (cv 2) (ca1 (dW rfl T.bL rfl)))))) (kQ (gQ kW)) cQ)
  (xQ (cs1 3 S.nd (Kh T.mk_Walk yH hr rfl T.gA (T.F 59 rfl).b QG (ca1 (cv 0))))
  (xQ (bM PassesOwn.never rfl (cv 2) (cg1 4 S.nd) (xQ (nQ (vV (mZ (cf (T.F 22 rfl) Ja hr (qQ (cv 0) (qQ (cv 1) (qQ (cm0 T.oY (T.F 60 rfl) T.gA dS hr (cv 3)) (ca1 (cv 4)))))))) (kQ (gQ kW)) cQ)
  (kQ (zZ (cm T.oY (T.F 61 rfl) T.gA pS hr (cv 3) (ca1 (cv 4)))))))
  (kQ (gQ (gY xC rD (cm0 T.oY (T.F 60 rfl) T.gA dS hr (cv 3)) wV (jG _))))))),?_⟩
 .obtain ⟨_,_,_,_,rfl,_⟩:=h;rfl
 rintro ts C R ⟨j,vv,V,u,rfl,hs,U,hv,hu,ai,aj⟩;have ag:∀C',(∀l,u=.ref l->C l≠some (.lst ((eJ j V).map En.pv)))->Gr C C'->R (.bl false) C':=fun C' h g=>aj false C' ⟨(fun z=>nomatch z),fun⟨l,k,e⟩=>(h l k e).elim⟩ g
 cases hu with
 |@lst d W =>
  have I:∃xs,C d=some (.lst xs):=by
   delta tyP at W
   dsimp only at W
   split at W
   .next xs e=>exact⟨xs,e⟩
   .cases W
   .cases W
  obtain⟨xs,I⟩:=I;have ai:=ai d xs rfl I;refine iX rfl W (wF (xX ?_))
  try dsimp only
  have a0:(eJ j V).length<=559:=J6 hs U (cW hs);have h6:=hs.n6;refine uQ ?_;intro x dx a9 bb bp;refine⟨x,dx,j,rfl,hs.n1,jQ,fun C1 N a4 av e1=>⟨rfl,?_⟩⟩
  have ao:Gr C C1:=fun b o h=>by
   have:b≠x:=fun z=>by rw[z,a9] at h;cases h
   exact e1 b o (fun z=>this (AD.1 z)) (by rwa [yQ this])
  have a5:C N=none:=by
   rwa [yQ (Ne.symm av.ne)] at a4
  generalize hD:eJ j V=D at a0 ag aj;have dm:∀e∈D,(∃k,lB j k e.x)/\e=⟨e.x,tV j V e.x⟩/\pw e.x.pv<=1000000:=fun e Z=>jP hs U (by rwa [hD]);refine iQ (fun aw C'=>∃Y st,xs.length<=D.length/\xs=(D.take xs.length).map En.pv/\aw=[some (.tup (j.map Pt.pv)),some (.ref vv),some (.ref d),some (.ref x),Y]/\Wk a C' x N (bK st)/\uS j st/\cY j V st=D.drop xs.length/\Gr C C') (fun L0 az=>?_) ?_
  .refine ⟨xs.length+1,?_⟩
   refine vG (fun i ρ C'=>C' d=some (.lst xs)/\∃Y st,i<=D.length/\xs.take i=(D.take i).map En.pv/\ρ=[some (.tup (j.map Pt.pv)),some (.ref vv),some (.ref d),some (.ref x),Y]/\Wk a C' x N (bK st)/\uS j st/\cY j V st=D.drop i/\Gr C C') (fun _ _ _ h=>h.1) ?_ ?_ _ 0 _ _ ⟨ao _ _ I,_,[(Wh j,6)],Ab _,rfl,rfl,av,?_,?_,ao⟩ (BI _) (Ab _)
   .rintro i z ρ C2 G ⟨m2,Y,st,hi,B,rfl,F,O,M,J⟩ L hL
    obtain⟨af,bg⟩:=AW.1 G;obtain⟨ak,ab⟩:=F.ins;obtain⟨a7,ez⟩:=ai z (Ae G);refine⟨nX ab rfl,?_⟩;refine⟨x,N,bK st,rfl,F,?_⟩;rw[Y9 hs U O M];refine⟨j,vv,V,D[i]?.map (·.x),z,rfl,hs,U,J _ _ hv,fun e Z=>?_,a7.gr J,ez,fun b C3 hb ae=>?_⟩
    .cases q:D[i]? with
     |none=>rw[q] at Z;cases Z
     |some en =>
      rw[q] at Z;cases Z;have:=dm en (Ae q);exact⟨this.1,this.2.2⟩
    have aq:=J.trans ae
    cases b with
    |false =>
     refine mJ (ag C3 (fun l e k=>?_) aq);cases e;rw[I] at k;cases k;rw[AB] at af;rw[Ak,AK af] at G;have G:=Av G;exact nomatch hb.2 ⟨D[i].x,by rw[AK af];rfl,by rw[<- G,<- (dm D[i] (A8 af)).2.1]⟩
    |true =>
     obtain⟨y,ey,rfl⟩:=hb.1 rfl
     cases q:D[i]? with
     |none=>rw[q] at ey;cases ey
     |some en =>
     rw[q] at ey;cases ey;obtain⟨ar,ay⟩:=AW.1 q;have ax:=(dm en (Ae q)).2.1;rw[<- ax] at G ⊢;have ed:cY j V st=en::D.drop (i+1):=by rw[M,Al ar,ay]
     obtain⟨y,n,st',rfl,rfl,⟨k',yp,du,ha⟩,er,a6⟩:=Qx hs U O ed;have a3:=oE (V:=V) O;have bo:(cY j V ((y,n+1)::st')).length<=559:=by rw[M,BL];lia
     rw[AL] at a3;refine wF (xX ?_);refine⟨nX (ae _ _ ab) rfl,?_⟩
     have bh:k' < j.length:=by
      have:=(AW.1 du.nm).1;unfold kJ at this
      rwa [AB] at this
     have bl:=du.pl;have bf:=du.dl;have bc:vW k'<=18:=by delta vW;split<;>decide
     have bj:=ha.pcs
     have a8:Wk a C3 x N (bK st'++[y.pv]):=by
      rw[fO] at F;exact⟨⟨ak,ae _ _ ab⟩,ae _ _ F.lst⟩
     refine⟨x,N,bK st',y.pv,⟨y,tV j V y⟩,_,rfl,a8,by rw[Yo];lia,ha.row,by lia,by lia,by lia,fun C4 br e4=>?_⟩;have g4:Gr C C4:=fun b o h=>e4 b o (fun z=>by rw[AD.1 z,a5] at h;cases h) (aq b o h);refine hL _ _ ⟨g4 _ _ I,_,(kids j V y).map (fun z=>(z,n))++st',ar,?_,rfl,?_,a6,er.symm,g4⟩
     .rw [CV,CV,G,q,B,AO]
      rfl
     .rwa [Vd]
   .rintro ρ C2 ⟨m2,Y,st,hi,B,rfl,F,O,M,J⟩
    rw[BB (AJ _)] at B;exact az _ _ ⟨_,st,hi,B,rfl,F,O,M,J⟩
   .intro p B
    cases AD.1 B;exact⟨0,cW hs,by lia⟩
   .delta cY
    rw[Bv,List.flatMap_nil,Aj,<- hD]
    rfl
  .rintro aw C2 ⟨Y,st,hi,B,rfl,F,O,M,J⟩
   obtain⟨ak,ab⟩:=F.ins;refine⟨nX ab rfl,?_⟩;refine⟨x,N,bK st,rfl,F,?_⟩;rw[Y9 hs U O M];refine aj _ C2 ?_ J
   rcases Cq xs.length D.length with ah | au
   .rw [AK ah]
    refine⟨(fun z=>nomatch z),fun⟨l,e,k⟩=>?_⟩;cases e;rw[I] at k;cases k;rw[AB] at ah;exact absurd ah (A7 _)
   .rw [Ce au]
    rw[BB au] at B;exact⟨fun _=>⟨d,rfl,by rw[I,B]⟩,fun _=>rfl⟩
 |dct h=>exact iX rfl h (mJ (ag C (fun l e k=>by cases e;delta tyP at h;dsimp only at h;rw[k] at h;cases h) Gr.refl))
 |_=>exact iX rfl rfl (mJ (ag C (fun l e=>nomatch e) Gr.refl))
end
theorem nm_len(h:yF z=true):z.length<=sizeLine:=by
 delta yF at h
 rw[A3,A3] at h;have:=Aa h.1.2;exact uZ (by omega)
theorem pc_pg{cap}(j:cU rs cap y)(g:ABd A):Pg (bJ A y).pv:=fun ts u v e=>by
 injection (PV.tup.inj e) with q _
 cases PV.tup.inj q;refine⟨uZ (by rw[AB];have:=cL j g;lia),fun t G s z n D=>?_⟩;obtain⟨c,F,rfl⟩:=AN.1 G;refine xR (nU j g c F) fun s' L B _ h2 _=>?_;obtain⟨I,J⟩:=c;cases B;cases D;exact nm_len h2
inductive Bad(D:List En)(C:CH):PV->Prop
 |lst {l:Addr} {xs:List PV} (m:C l=some (.lst xs)) (h:∀e∈xs,Th C e/\Eg e) (n:xs≠D.map En.pv):Bad D C (.ref l)
 |dct {l:Addr} {kvs:List (Key×PV)} (m:C l=some (.dK kvs)):Bad D C (.ref l)
 |oth {x:PV} (h:Th C x) (n:∀l,x≠.ref l):Bad D C x
theorem mN(m:C l=some (.lst xs)):tyP C (.ref l)=some .lst:=by
 show(match C l with | some (.lst _)=>some Ty.lst | some (.dK _)=>some Ty.dct | _=>none)=_;rw[m]
theorem ty_dct(m:C l=some (.dK xs)):tyP C (.ref l)=some .dct:=by
 show(match C l with | some (.lst _)=>some Ty.lst | some (.dK _)=>some Ty.dct | _=>none)=_;rw[m]
theorem Bad.gr(h:Bad D C x)(g:Gr C C'):Bad D C' x:=by
 cases h with
 |lst m h n=>exact .lst (g _ _ m) (fun e j=>⟨(h e j).1.gr g,(h e j).2⟩) n
 |dct m=>exact .dct (g _ _ m)
 |oth h n=>exact .oth (h.gr g) n
theorem Bad.is(h:Bad D C x):Th C x/\(∀l xs,x=.ref l->C l=some (.lst xs)->∀t∈xs,Th C t/\Eg t)/\¬ ∃l,x=.ref l/\C l=some (.lst (D.map En.pv)):=by
 cases h with
 |lst m h n =>
  refine⟨.lst (mN m),fun l xs e k=>?_,fun⟨l,e,k⟩=>?_⟩
  .cases e;rw[m] at k;cases k;exact h
  .cases e;rw[m] at k;cases k;exact n rfl
 |dct m =>
  refine⟨.dct (ty_dct m),fun l xs e k=>?_,fun⟨l,e,k⟩=>?_⟩
  .cases e;rw[m] at k;cases k
  .cases e;rw[m] at k;cases k
 |oth h n=>exact⟨h,fun l xs e=>absurd e (n l),fun⟨l,e,_⟩=>n l e⟩
theorem Y8 l:Eg (.ref l):=fun _ _ _ _ _ e=>nomatch e
section
variable {P:Program}{w:World}{K:Dj}{mg:Str->Option Value}{base:Heap}{a:Adr}
inductive gLet(ts:List PV)(C:CH)(Q:K1):Prop
 |mk(pts:List Pt)(vv:Addr)(V:Vl)(x:PV)(b:Bool)(z0:ts=[.tup (pts.map Pt.pv),.ref vv,x,.bl b])(z1:pB pts)(z2:VOk V)(z3:C vv=some (.dP (vlP V)))(z4:Th C x)(z5:(∀l xs,x=.ref l->C l=some (.lst xs)->∀t∈xs,Th C t/\Eg t))(z6:(b=true↔∃l,x=.ref l/\C l=some (.lst ((eJ pts V).map En.pv))))(z7:∀C',Gr C C'->Q (.bl true) C'):gLet ts C Q
theorem ok_let(T:Txt P w K mg a):FnOk P w K mg base CX0 33 (a.f 48) (a.d 48) U6 (spC K gLet):=by
 have M:=jH (base:=base) T
 refine(T.F 48 rfl).ok (fun ts C R h=>?_) fun S A U s H E G=>⟨_,(xQ (cs1 4 ((T.F 48 rfl).s).nd (cf (T.F 23 rfl) M G (qQ (cv 0) (qQ (cv 1) (ca1 (cv 2))))))
  (kQ (gQ (ZU (zX bX oZ rfl T.jX rfl (qQ (cv 4) (ca1 (dW rfl T.XT rfl)))) (ZQ (gY cX aQ (cv 4) (cv 3) (jG _))))))),?_⟩
 .obtain ⟨_,_,_,_,_,rfl,_⟩:=h;rfl
 rintro ts C R ⟨N,O,V,x,b,rfl,hs,B,I,J,L,D,q⟩;refine uQ ⟨N,O,V,x,rfl,hs,B,I,J,L,fun g C1 F j=>?_⟩;have e:g=b:=by rw[DX,F,D]
 subst e;exact iX rfl rfl (nZ rfl (gX (by show some (decide (g=g))=_;rw[Af rfl]) (q C1 j)))
theorem Tp.gr(h:Tp C t ns)(g:Gr C C'):Tp C' t ns:=by
 obtain⟨⟨i,j,k,e,r⟩,h2⟩:=h;exact⟨⟨i,j,k,g _ _ e,r⟩,h2⟩
theorem ZK xs k:xZ xs (some (k:Nat)) none=xs.drop k:=by
 delta xZ
 rw[HT.sIx_nat,HT.sIx_none,BB (BL▸AJ _)]
 rcases Nat.le_total k xs.length with h | h
 .rw [DT h]
 .rw [Nat.min_eq_right h,BY,BW h]
theorem Gj xs k:xZ xs none (some (k:Nat))=xs.take k:=by
 delta xZ
 rw[HT.sIx_nat,HT.sIx_none,List.drop_zero,Nat.sub_zero]
 rcases Nat.le_total k xs.length with h | h
 .rw [DT h]
 .rw [Nat.min_eq_right h,List.take_length,BB h]
theorem cut_h1 xs y:xZ (xs++[y]) none (some (-1))=xs:=by
 delta xZ HT.sIx
 dsimp only;rw[ AG,AQ];have:(-1+((xs.length+1:Nat):Int)).toNat=xs.length:=by lia
 rw[this]
 simp
theorem cut_l1 xs y:xZ (xs++[y]) (some (-1)) none=[y]:=by
 delta xZ HT.sIx
 dsimp only;rw[ AG,AQ];have:(-1+((xs.length+1:Nat):Int)).toNat=xs.length:=by lia
 rw[this]
 simp
theorem lD(h:z∈xZ xs lo hi):z∈xs:=List.mem_of_mem_drop (List.mem_of_mem_take h)
theorem pR(m:C0 O=some (.lst G)):∀xs acc C,(∀u∈xs,∃ts,u=.tup ts)->Gr C0 C->(∀z∈acc,∃l ts,z=.ref l/\C0 l=none/\C l=some (.lst ts))->acc.length+xs.length<=1000 ->
  (∀p zs C',Gr C0 C'->C0 p=none->C' p=some (.lst zs)->zs.length=acc.length+xs.length->(∀z∈zs,∃l ts,z=.ref l/\C0 l=none/\C' l=some (.lst ts))->Q (.ref p) C')->gU (fun C=>C O=some (.lst G)) eD (zL lF (rK (cZ 0) qL)) S Q xs acc C
 |[],acc,C,_,g,D,_,q=>⟨g _ _ m,fun p j=>q p acc _ (g.trans (Gr.new j _)) (vK g j) jQ rfl fun z B=>zT (D z B) fun l ts e n k=>⟨l,ts,e,n,Gr.new j _ _ _ k⟩⟩
 |x::xs,acc,C,F,g,D,L,q=>by
  obtain⟨ts,rfl⟩:=F x AE;rw[AL] at L;refine⟨g _ _ m,?_⟩;intro p j;refine⟨AV (show acc.length < 1000 by lia) (by decide),?_⟩;refine pR m xs _ _ (fun u M=>F u (AH _ M)) (g.trans (Gr.new j _)) (fun z B=>?_) (by rw[AG,AQ];lia) fun N zs C' h1 h0 h2 I J=>q N zs C' h1 h0 h2 (by rw[I,AG,AQ,AL];lia) J
  rcases AX.1 B with B | B
  .exact zT (D z B) fun l ts e n k=>⟨l,ts,e,n,Gr.new j _ _ _ k⟩
  .cases AD.1 B
   exact⟨p,ts,rfl,vK g j,jQ⟩
def wo(o:Addr)(C:CH):CH:=fun b=>if b=o then none else C b
theorem Ji(h:b≠o):wo o C b=C b:=Ad h
theorem fE: Gr (wo o C) C:=fun b u e=>by
 delta wo at e
 split at e
 .cases e
 .exact e
theorem YL(g:Gr B C)(h:B o=none):Gr B (wo o C):=fun b u e=>by
 rw[Ji (fun z=>by rw[z,h] at e;cases e)];exact g b u e
theorem VU v:wo o (vQ C o v)=wo o C:=by
 funext b
 delta wo
 split
 .rfl
 .next h=>exact yQ h
inductive gLaw(ts:List PV)(C:CH)(Q:K1):Prop
 |mk(ns:List Int)(z0:ts=[.fz (ns.map PV.int)])(z1:ns.length<=63)(z2:∀C',Q (.bl true) C'):gLaw ts C Q
theorem lst_s{a}(h:C a=some (.lst xs))(q:∀p,C p=none->Q (.ref p) (vQ C p (.lst xs))):lF [.ref a] C Q:=by
 delta lF
 dsimp only
 rwa [h]
theorem lstc_s{a}(j:g[i]?=some (some (.ref a)))(h:C a=some (.lst xs))(q:∀p,C p=none->Q (.ref p) (vQ C p (.lst xs))):zL lF (rK (cZ i) qL) g C Q:=by
 show cZ i g C fun x C1=>lF [x] C1 Q
 delta cZ
 exact j▸lst_s h q
theorem neD_s{a}(h1:C a=some (.lst xs))(h2:C b=some (.lst xs))(g:∀t∈xs,Pl d t)(q:Q (.bl false) C):cNeD d (.ref a) (.ref b) C Q:=by
 delta cNeD
 dsimp only;rw[h1,h2];exact⟨rfl,g,q⟩
theorem hu21_of(g:Room k A):A.units+1+20 < cLine:=by have:=g.un;lia
theorem ok_law(T:Txt P w K mg a):FnOk P w K mg base CX0 120 (a.f 49) (a.d 49) ["_law_script"] (spC K gLaw):=by
 have S:=(T.F 49 rfl).s;have GY:=(ok_tape (base:=base) T).mono (show 1<=119 by decide);have VM:=(W4 (base:=base) T).mono (show 26<=119 by decide);have Jc:=(K2 (base:=base) T).mono (show 38<=119 by decide);have pP:=(QO (base:=base) T).mono (show 37<=119 by decide);have fQ:=(sZ (base:=base) T).mono (show 1<=119 by decide);have Qa:=(ok_let (base:=base) T).mono (show 33<=119 by decide)
 refine(T.F 49 rfl).ok (fun ts C R h=>?_) fun ea A el s H E hr=>⟨_,(xQ (cs1 1 S.nd (cf (T.F 24 rfl) GY hr (ca1 (cv 0))))
  (xQ (cs1 2 S.nd (cf (T.F 39 rfl) VM hr (ca1 (cv 1))))
  (xQ (cs1 3 S.nd (cf (T.F 47 rfl) Jc hr (qQ (cv 1) (ca1 (cv 2)))))
  (xQ (cs1 4 S.nd (cf (T.F 45 rfl) pP hr (qQ (cv 2) (ca1 (cv 3)))))
  (xQ (cs1 5 S.nd (aZ tD Kj rfl T.bL rfl (ca1 (cv 4))))
  (xQ (nQ (cw_pt (cw_or (vV (mZ (cf (T.F 48 rfl) Qa hr (qQ (cv 2) (qQ (cv 3) (qQ (cv 5) (ca1 kW))))))) (cw_or1 (ct2 (op_neD (d:=20) (hu21_of hr)) cop_neD (cv 5) (cv 4))))) (kQ (gQ kW)) cQ)
  (xQ (cs1 6 S.nd (cf (T.F 25 rfl) fQ hr (qQ (cv 1) (ca1 (cln T.jJ (cv 4))))))
  (xQ (cs1 7 S.nd (eQ vX wX (pQ (ca1 (eQ vX wX (pQ (ca1 (pQ (qQ zQ (ca1 zQ))))) (cx (cx (cv 4) (bB jY lV zQ)) zQ)))) (Gz (cx (cv 4) (bB jY lV zQ)) (eK zQ) aK)))
  (xQ (cs1 8 S.nd (dX (qQ wV (qQ (dX yZ) (qQ (pQ yZ) (qQ oH (qQ zQ (qQ wQ (qQ kW (qQ (ctp T.hX (cv 4)) (qQ (xG (cv 4) (eK zQ) aK) (qQ (xG (cv 4) aK (eK (bB jY lV zQ))) (ca1 (eQ vX wX (cv 4) (xG (cv 4) (eK (bB jY lV zQ)) aK)))))))))))))))
  (xQ (cs1 8 S.nd (eQ vX wX (cv 8) (dX (qQ (eQ vX wX (eQ vX wX (xG (cv 4) aK (eK (cv 6))) (dX (ca1 (cv 7)))) (xG (cv 4) (eK (cv 6)) aK)) (qQ (eQ vX wX (cv 4) (dX (ca1 (cv 7)))) (ca1 (dX (ca1 (cv 4)))))))))
  (xQ (zZ (cap (cv 8) (sG rfl (S.c (by decide +kernel)) (S.k (L:=0) rfl rfl rfl (by decide +kernel)) (cv 4) (fun _ _ _ _ _=>aJ) (fun _ _ _ _ _=>(aZ tD Kj rfl T.bL rfl (ca1 (cv 0)))))))
  (xQ (nQ (ct2 gV eZ (cv 6) zQ) (kQ (zZ (cap (cv 8) (eQ vX wX (eQ vX wX (xG (cv 4) aK (eK (eQ mV rJ (cv 6) zQ))) (dX (qQ (cx (cv 4) (cv 6)) (ca1 (cx (cv 4) (eQ mV rJ (cv 6) zQ)))))) (xG (cv 4) (eK (eQ vX wX (cv 6) zQ)) aK))))) cQ)
  (xQ (bM PassesOwn.never rfl (cv 8) (cg1 9 S.nd) (kQ (nQ (vV (mZ (cf (T.F 48 rfl) Qa hr (qQ (cv 2) (qQ (cv 3) (qQ (cv 9) (ca1 kW))))))) (kQ (gQ kW)) cQ)))
  (kQ (gQ (cf (T.F 48 rfl) Qa hr (qQ (cv 2) (qQ (cv 3) (qQ (cv 5) (ca1 kW)))))))))))))))))))),?_⟩
 .obtain ⟨ns,rfl,_⟩:=h;rfl
 rintro ts C R ⟨ns,rfl,hl,d8⟩;refine uQ ?_;refine⟨ns,rfl,hl,fun t C1 n1 e1 T1=>?_⟩
 try dsimp only
 refine uQ ?_;refine⟨t,ns,rfl,T1,fun J C2 hs T2 e2=>?_⟩
 try dsimp only
 refine uQ ?_;refine⟨t,J,ns,rfl,T2,hs,fun vv V C3 hV n3 m3 d7 T3 e3=>?_⟩
 try dsimp only
 refine uQ ?_;refine⟨J,vv,V,rfl,hs,hV,m3,fun p1 C4 n4 m4 g4=>?_⟩
 try dsimp only
 have eg:(eJ J V).length<=559:=J6 hs hV (cW hs);have cw:eJ J V≠[]:=fun z=>nomatch z;have dm:(nK (eJ J V)).Nodup:=dr_nd hs hV 6 0 _ (cW hs)
 have aq:∀e∈eJ J V,Pl 20 e.pv/\Eg e.pv:=fun e af=>by
  obtain⟨⟨k,du⟩,ee,_⟩:=jP hs hV af;obtain⟨y,ha⟩:=oI hs hV du;have di:tV J V e.x=bJ (yW e.x (tX V y e.x.path)) y:=by delta tV;rw[ha.is]
  rw[ee];refine⟨en_pl ha.row,fun a b c d p ep=>?_⟩;have e0:[bZ e.x.path,.str e.x.name,.tup (e.x.gives.map dQ),.tup (e.x.downs.map dQ),(tV J V e.x).pv]=[a,b,c,d,p]:=PV.tup.inj ep;cases e0;rw[di];exact pc_pg ha.ok ha.ab
 have d6:p1≠t:=T3.ne n4;have T4:=T3.gr g4;have c7:=g4 _ _ m3;generalize hD:eJ J V=D at *
 have ab:∀C',∀u∈D.map En.pv,Th C' u/\Eg u:=fun C' u q=>by
  obtain⟨e,af,rfl⟩:=AN.1 q;exact⟨(Pn.of (aq e af).1).th,(aq e af).2⟩
 refine uQ ?_;refine lstc_s rfl m4 fun Y ct=>?_
 try dsimp only
 have g5:=Gr.new ct (.lst (D.map En.pv));have m5:vQ C4 Y (.lst (D.map En.pv)) Y=some (.lst (D.map En.pv)):=jQ;have nh:Y≠t:=T4.ne ct;generalize vQ C4 Y (.lst (D.map En.pv))=C5 at g5 m5 ⊢;refine kZ ?_
 have dc:∀C'(Q':K1),Gr C5 C'->(∀aj,Gr C' aj->Q' (.bl true) aj)->gLet [.tup (J.map Pt.pv),.ref vv,.ref Y,.bl true] C' Q':=fun C' Q' g hq=>
  ⟨J,vv,V,.ref Y,true,rfl,hs,hV,g _ _ (g5 _ _ c7),.lst (mN (g _ _ m5)),fun l xs e k=>by cases e;rw[g _ _ m5] at k;cases k;exact ab C',⟨fun _=>⟨Y,rfl,by rw[hD];exact g _ _ m5⟩,fun _=>rfl⟩,hq⟩
 refine dc C5 _ Gr.refl fun C6 g6=>?_;refine wF ?_;have bb:=g6 _ _ (g5 _ _ m4);refine neD_s (g6 _ _ m5) bb (fun u q=>?_) ?_
 .obtain ⟨e,af,rfl⟩:=AN.1 q
  exact(aq e af).1
 refine wZ rfl (xX ?_)
 try dsimp only
 refine uQ ?_;refine zB bb ?_;have ei:0 < D.length:=List.length_pos_iff.2 cw;refine⟨t,_,ns,rfl,(T4.gr g5).gr g6,by rw[AB];lia,by rw[AB];lia,fun v C7 eo d9 T7 e7=>?_⟩
 try dsimp only
 have mD:=e7 _ _ d6 bb;have mh:=e7 _ _ nh (g6 _ _ m5);have mv:=e7 _ _ d7 (g6 _ _ (g5 _ _ c7));rw[AB] at d9;obtain⟨k,rfl⟩:∃k:Nat,v=(k:Nat):=⟨v.toNat,by lia⟩;have hk:k < D.length:=by lia
 clear dc g6 g5 bb T7 e7
 obtain⟨U,B,rfl⟩:∃U B,D=U++[B]:=by
  rcases Da D with rfl | ⟨U,B,rfl⟩
  .exact absurd rfl cw
  .exact ⟨U,B,Dc⟩
 have mL:C7 p1=some (.lst (U.map En.pv++[B.pv])):=by rw[mD,AO];rfl
 have bp:B∈U++[B]:=AU _ AE;have cn:B.pv=.tup [bZ B.x.path,.str B.x.name,.tup (B.x.gives.map dQ),.tup (B.x.downs.map dQ),B.pc.pv]:=rfl;obtain⟨⟨kL,ck⟩,_,_⟩:=jP hs hV (by rw[hD];exact bp);have eh:=ck.pl;have h6:=hs.n6
 have ef:kL < J.length:=by
  have:=(AW.1 ck.nm).1;unfold kJ at this;rw[AB] at this;exact this
 refine uQ ?_;refine⟨zz 2 rfl,?_⟩;refine⟨zz 1 rfl,?_⟩;refine cJ mL (v:=B.pv) Z4 ?_;refine yX cn (v:=bZ B.x.path) rfl ?_;refine qH (uZ (by rw[AB];show 1+_<=1000;lia)) ?_;refine⟨zz 1 rfl,?_⟩;refine cJ mL (v:=B.pv) Z4 ?_;refine Wc cn (by show ¬ (1=0/\5=5);decide) ?_;refine qH (by show 1+4<=sizeLine;decide) ?_
 try dsimp only
 have bq:∀C':CH,Th C' (.tup [.tup (.tup [.int 5,.int 0]::B.x.path.map uK),.str B.x.name,.tup (B.x.gives.map dQ),.tup (B.x.downs.map dQ),B.pc.pv])/\Eg (.tup [.tup (.tup [.int 5,.int 0]::B.x.path.map uK),.str B.x.name,.tup (B.x.gives.map dQ),.tup (B.x.downs.map dQ),B.pc.pv]):=fun C'=>by
  refine⟨.tup fun u q=>?_,fun a b c d p ep=>?_⟩
  .have hp:=Pn.of (aq B bp).1
   cases hp with
   |tup hp =>
    rcases Ai.1 q with rfl | q
    .refine .tup fun v hv=>?_
     rcases Ai.1 hv with rfl | hv
     .refine .tup fun w bw=>?_
      rcases Ai.1 bw with rfl | bw
      .exact .int 5
      .cases AD.1 bw;exact .int 0
     .obtain ⟨sp,_,rfl⟩:=AN.1 hv
      exact(Pn.of (Qm sp)).th
    .exact Pn.th (hp u (AH _ q))
  .have e0:=PV.tup.inj ep
   cases e0;exact(aq B bp).2 _ _ _ _ _ rfl
 show uT _ _ _ [_,_,_,_,_,_,_,some (.tup [.tup (.tup [.int 5,.int 0]::B.x.path.map uK),.str B.x.name,.tup (B.x.gives.map dQ),.tup (B.x.downs.map dQ),B.pc.pv]),_,_] _;generalize PV.tup [.tup (.tup [.int 5,.int 0]::B.x.path.map uK),.str B.x.name,.tup (B.x.gives.map dQ),.tup (B.x.downs.map dQ),B.pc.pv]=G at bq ⊢;have hn:((U++[B]).map En.pv).length=(U++[B]).length:=AB ..
 have eb:(xZ ((U++[B]).map En.pv) none (some (-1))).length+1=(U++[B]).length:=by rw[AO,List.map_singleton,cut_h1,AG,AB];rfl
 have ec:(xZ ((U++[B]).map En.pv) (some (-1)) none).length=1:=by rw[AO,List.map_singleton,cut_l1];rfl
 have tup:∀u∈(U++[B]).map En.pv,∃ts,u=.tup ts:=fun u q=>by
  obtain⟨e,_,rfl⟩:=AN.1 q;exact⟨_,rfl⟩
 clear mL;generalize U++[B]=D at *
 generalize az:D.map En.pv=j at *
 have bl:∀{C':CH}{l:Addr}{xs:List PV},C' l=some (.lst xs)->(∀u∈xs,Th C' u/\Eg u)->xs.length≠D.length->Bad D C' (.ref l):=fun m h n=>.lst m h fun e=>n (by rw[e,AB]);refine uQ ?_;refine⟨zz 0 rfl,fun q1 dp=>?_⟩;have W:=Gr.new dp (.lst []);have b1:Bad D (vQ C7 q1 (.lst [])) (.ref q1):=bl jQ (fun _ z=>nomatch z) (by show 0≠_;lia);generalize vQ C7 q1 (.lst [])=E1 at W b1 ⊢
 refine⟨zz 0 rfl,?_⟩;intro q2 dq;have ak:=Gr.new dq (.dK []);have b2:Bad D (vQ E1 q2 (.dK [])) (.ref q2):=.dct jQ;generalize vQ E1 q2 (.dK [])=E2 at ak b2 ⊢;have ar:=ak _ _ (W _ _ mD);refine cK ar ?_;refine sS ar fun q3 dt=>?_;have I:=Gr.new dt (.lst (xZ j (some 1) none));have b3:Bad D (vQ E2 q3 (.lst (xZ j (some 1) none))) (.ref q3):=bl jQ (fun u q=>ab _ u (lD q)) (by rw[show xZ j (some 1) none=j.drop 1 from ZK j 1,BL];lia)
 generalize vQ E2 q3 (.lst (xZ j (some 1) none))=E3 at I b3 ⊢;refine sS (I _ _ ar) fun q4 dv=>?_;have a4:=Gr.new dv (.lst (xZ j none (some (-1))));have b4:Bad D (vQ E3 q4 (.lst (xZ j none (some (-1))))) (.ref q4):=bl jQ (fun u q=>ab _ u (lD q)) (by lia);generalize vQ E3 q4 (.lst (xZ j none (some (-1))))=E4 at a4 b4 ⊢;have b0:=a4 _ _ (I _ _ ar);refine sS b0 fun q5 cy=>?_;refine iM (Gr.new cy _ _ _ b0) jQ (uZ (by show _+(xZ j (some (-1)) none).length<=1000;lia)) fun Z dw=>?_
 have a6:Gr E4 (vQ (vQ E4 q5 (.lst (xZ j (some (-1)) none))) Z (.lst (j++xZ j (some (-1)) none))):=(Gr.new cy _).trans (Gr.new dw _)
 have b6:Bad D (vQ (vQ E4 q5 (.lst (xZ j (some (-1)) none))) Z (.lst (j++xZ j (some (-1)) none))) (.ref Z):=bl jQ (fun u q=>by
  rcases AX.1 q with q | q
  .exact ab _ u q
  .exact ab _ u (lD q)) (by rw[AG];lia)
 generalize vQ (vQ E4 q5 (.lst (xZ j (some (-1)) none))) Z (.lst (j++xZ j (some (-1)) none))=E6 at a6 b6 ⊢;refine⟨zz 11 rfl,fun oo dn=>?_⟩
 try dsimp only
 have g7:Gr C7 E6:=(((W.trans ak).trans I).trans a4).trans a6
 have bs:∀u∈[PV.non,.ref q1,.tup [],.ref q2,.int 0,.str "",.bl true,.tup j,.ref q3,.ref q4,.ref Z],Bad D E6 u:=fun u q=>by
  simp only[List.mem_cons,List.not_mem_nil,or_false] at q
  rcases q with rfl | rfl | rfl | rfl | rfl | rfl | rfl | rfl | rfl | rfl | rfl
  .exact .oth .non nofun
  .exact (((b1.gr ak).gr I).gr a4).gr a6
  .exact .oth (.tup fun _ z=>nomatch z) nofun
  .exact ((b2.gr I).gr a4).gr a6
  .exact .oth (.int 0) nofun
  .exact .oth (.str "") nofun
  .exact .oth (.bl true) nofun
  .exact .oth (.tup fun u q=>(ab _ u q).1) nofun
  .exact (b3.gr a4).gr a6
  .exact b4.gr a6
  .exact b6
 have a8:=Gr.new dn (.lst [PV.non,.ref q1,.tup [],.ref q2,.int 0,.str "",.bl true,.tup j,.ref q3,.ref q4,.ref Z]);have bc:vQ E6 oo (.lst [PV.non,.ref q1,.tup [],.ref q2,.int 0,.str "",.bl true,.tup j,.ref q3,.ref q4,.ref Z]) oo=some (.lst [PV.non,.ref q1,.tup [],.ref q2,.int 0,.str "",.bl true,.tup j,.ref q3,.ref q4,.ref Z]):=jQ;show uT _ _ _ _ (vQ E6 oo (.lst [PV.non,.ref q1,.tup [],.ref q2,.int 0,.str "",.bl true,.tup j,.ref q3,.ref q4,.ref Z]))
 generalize dj:vQ E6 oo (.lst [PV.non,.ref q1,.tup [],.ref q2,.int 0,.str "",.bl true,.tup j,.ref q3,.ref q4,.ref Z])=E8 at a8 bc ⊢;have g8:=g7.trans a8;have bg:=fun u q=>(bs u q).gr a8;have a3:[PV.non,.ref q1,.tup [],.ref q2,.int 0,.str "",.bl true,.tup j,.ref q3,.ref q4,.ref Z].length=11:=rfl;generalize [PV.non,.ref q1,.tup [],.ref q2,.int 0,.str "",.bl true,.tup j,.ref q3,.ref q4,.ref Z]=ys at bc bg a3
 clear W ak I a4 a6 a8 b1 b2 b3 b4 b6 bs dj g7 ar b0;have ae:=g8 _ _ mD;have bo:(xZ j none (some (k:Nat))).length=k:=by rw[Gj,BQ];lia
 have cq:(xZ j (some (k:Nat)) none).length=D.length - k:=by rw[ZK,BL];lia
 refine uQ ?_;refine sS ae fun r1 dy=>?_;have W:=Gr.new dy (.lst (xZ j none (some (k:Nat))));have m1:vQ E8 r1 (.lst (xZ j none (some (k:Nat)))) r1=some (.lst (xZ j none (some (k:Nat)))):=jQ;generalize vQ E8 r1 (.lst (xZ j none (some (k:Nat))))=F1 at W m1 ⊢;refine⟨zz 1 rfl,fun r2 cz=>?_⟩;refine iM (Gr.new cz _ _ _ m1) jQ (uZ (by rw[bo];show k+1<=1000;lia)) fun r3 dz=>?_
 have I:Gr E8 (vQ (vQ F1 r2 (.lst [G])) r3 (.lst (xZ j none (some (k:Nat))++[G]))):=(W.trans (Gr.new cz _)).trans (Gr.new dz _);have m3:vQ (vQ F1 r2 (.lst [G])) r3 (.lst (xZ j none (some (k:Nat))++[G])) r3=some (.lst (xZ j none (some (k:Nat))++[G])):=jQ;generalize vQ (vQ F1 r2 (.lst [G])) r3 (.lst (xZ j none (some (k:Nat))++[G]))=F3 at I m3 ⊢;refine sS (I _ _ ae) fun r4 c0=>?_
 refine iM (Gr.new c0 _ _ _ m3) jQ (uZ (by rw[AG,bo,cq];show k+1+_<=1000;lia)) fun M d0=>?_;have a5:Gr E8 (vQ (vQ F3 r4 (.lst (xZ j (some (k:Nat)) none))) M (.lst (xZ j none (some (k:Nat))++[G]++xZ j (some (k:Nat)) none))):=(I.trans (Gr.new c0 _)).trans (Gr.new d0 _)
 have b5:Bad D (vQ (vQ F3 r4 (.lst (xZ j (some (k:Nat)) none))) M (.lst (xZ j none (some (k:Nat))++[G]++xZ j (some (k:Nat)) none))) (.ref M):=bl jQ (fun u q=>by
  rcases AX.1 q with q | q
  .rcases AX.1 q with q | q
   .exact ab _ u (lD q)
   .cases AD.1 q;exact bq _
  .exact ab _ u (lD q)) (by rw[AG,AG,bo,cq,AQ];lia)
 generalize vQ (vQ F3 r4 (.lst (xZ j (some (k:Nat)) none))) M (.lst (xZ j none (some (k:Nat))++[G]++xZ j (some (k:Nat)) none))=F5 at a5 b5 ⊢;refine⟨zz 1 rfl,fun r6 c2=>?_⟩;refine iM (Gr.new c2 _ _ _ (a5 _ _ ae)) jQ (uZ (by show _+1<=1000;lia)) fun N d1=>?_;have a7:Gr F5 (vQ (vQ F5 r6 (.lst [G])) N (.lst (j++[G]))):=(Gr.new c2 _).trans (Gr.new d1 _)
 have b7:Bad D (vQ (vQ F5 r6 (.lst [G])) N (.lst (j++[G]))) (.ref N):=bl jQ (fun u q=>by
  rcases AX.1 q with q | q
  .exact ab _ u q
  .cases AD.1 q;exact bq _) (by rw[AG,AQ];lia)
 generalize vQ (vQ F5 r6 (.lst [G])) N (.lst (j++[G]))=F7 at a7 b7 ⊢;refine⟨zz 1 rfl,fun O d2=>?_⟩;have a8:=Gr.new d2 (.lst [PV.ref p1])
 have c9:∀(xs:List PV)(l:Addr),PV.ref l∈xs->xs≠D.map En.pv:=fun xs l cu e=>by
  rw[e,az] at cu;obtain⟨ts,h⟩:=tup _ cu;cases h
 have b8:Bad D (vQ F7 O (.lst [PV.ref p1])) (.ref O):=.lst jQ (fun u q=>by
  cases AD.1 q
  exact⟨.lst (mN (a8 _ _ (a7 _ _ (a5 _ _ ae)))),Y8 _⟩) (c9 _ p1 AE)
 generalize vQ F7 O (.lst [PV.ref p1])=F8 at a8 b8 ⊢;refine⟨zz 3 rfl,fun r9 a0=>?_⟩;have ao:Gr E8 F8:=(a5.trans a7).trans a8;refine iM (Gr.new a0 _ _ _ (ao _ _ bc)) jQ (uZ (by rw[a3];show 11+3<=1000;decide)) fun F br=>?_
 try dsimp only
 have a9:Gr F8 (vQ (vQ F8 r9 (.lst [PV.ref M,.ref N,.ref O])) F (.lst (ys++[PV.ref M,.ref N,.ref O]))):=(Gr.new a0 _).trans (Gr.new br _);have au:vQ (vQ F8 r9 (.lst [PV.ref M,.ref N,.ref O])) F (.lst (ys++[PV.ref M,.ref N,.ref O])) F=some (.lst (ys++[PV.ref M,.ref N,.ref O])):=jQ
 have ax:∀u∈ys++[PV.ref M,.ref N,.ref O],Bad D F8 u:=fun u q=>by
  rcases AX.1 q with q | q
  .exact (bg u q).gr ao
  .simp only[List.mem_cons,List.not_mem_nil,or_false] at q
   rcases q with rfl | rfl | rfl
   .exact (b5.gr a7).gr a8
   .exact b7.gr a8
   .exact b8
 have da:E8 F=none:=vK (ao.trans (Gr.new a0 _)) br;have bx:(ys++[PV.ref M,.ref N,.ref O]).length=14:=by rw[AG,a3];rfl
 show uT _ _ _ _ (vQ (vQ F8 r9 (.lst [PV.ref M,.ref N,.ref O])) F (.lst (ys++[PV.ref M,.ref N,.ref O])));generalize vQ (vQ F8 r9 (.lst [PV.ref M,.ref N,.ref O])) F (.lst (ys++[PV.ref M,.ref N,.ref O]))=G0 at a9 au ⊢;have g9:Gr E8 G0:=ao.trans a9;have ax:∀u∈ys++[PV.ref M,.ref N,.ref O],Bad D (wo F G0) u:=fun u q=>(ax u q).gr (YL a9 (vK (Gr.new a0 _) br));generalize ys++[PV.ref M,.ref N,.ref O]=zs at au ax bx
 clear W I a5 a7 a8 ao a9 b5 b7 b8 m1 m3 bg bc a3;refine kZ ?_;refine⟨pW au,?_⟩;refine Gx (g9 _ _ ae) rfl ?_;refine pR (g9 _ _ ae) j [] G0 tup Gr.refl (fun _ z=>nomatch z) (by show 0+_<=1000;lia) fun cp cs G1 c1 df dg c3 c4=>?_;refine vL (c1 _ _ au) (by rw[bx];decide) ?_;have c8:∀{l:Addr},G0 l=none->l≠F:=fun h z=>by rw[z,au] at h;cases h
 have dd:Bad D (wo F G1) (.ref cp):=by
  refine .lst ((Ji (c8 df)).trans dg) (fun u q=>?_) ?_
  .obtain ⟨l,ts,rfl,n,k⟩:=c4 u q
   exact⟨.lst (mN ((Ji (c8 n)).trans k)),Y8 _⟩
  .cases cs with
   |nil=>have c3:0=0+_:=c3;lia
   |cons u en =>
    obtain⟨l,ts,rfl,_⟩:=c4 u AE;exact c9 _ l AE
 have ay:Gr E8 (vQ G1 F (.lst (zs++[.ref cp]))):=bW (g9.trans c1) da _;have ag:vQ G1 F (.lst (zs++[.ref cp])) F=some (.lst (zs++[.ref cp])):=jQ
 have aw:∀u∈zs++[PV.ref cp],Bad D (wo F (vQ G1 F (.lst (zs++[.ref cp])))) u:=fun u q=>by
  rw[VU]
  rcases AX.1 q with q | q
  .exact (ax u q).gr (YL (fE.trans c1) (Ac rfl))
  .cases AD.1 q;exact dd
 have bz:(zs++[PV.ref cp]).length=15:=by rw[AG,bx];rfl
 generalize vQ G1 F (.lst (zs++[.ref cp]))=G2 at ay ag aw ⊢;generalize zs++[PV.ref cp]=ai at ag aw bz
 try dsimp only
 refine iQ (fun av C'=>av=[some (.fz (ns.map PV.int)),some (.ref t),some (.tup (J.map Pt.pv)),some (.ref vv),some (.ref p1),some (.ref Y),some (.int (k:Nat)),some G,some (.ref F),none]/\∃ai,C' F=some (.lst ai)/\Gr E8 C'/\(∀u∈ai,Bad D (wo F C') u)/\ai.length<=16) (fun L hL=>?_) ?_
 .refine i_i (gZ (fun hb=>?_) fun hb=>?_)
  .have k0:0 < k:=by have:=Aa hb;lia
   have ed:k - 1 < D.length:=by lia
   have ek:(k:Int) - 1=((k - 1:Nat):Int):=by lia
   have ba:=ay _ _ ae;refine⟨pW ag,?_⟩;refine i_i ?_;rw[ek];refine sS ba fun cb d3=>?_;rw[Gj];have W:=Gr.new d3 (.lst (j.take (k - 1)));have m1:vQ G2 cb (.lst (j.take (k - 1))) cb=some (.lst (j.take (k - 1))):=jQ;generalize vQ G2 cb (.lst (j.take (k - 1)))=H1 at W m1 ⊢;refine cJ (W _ _ ba) (v:=j[k]) (kS (by lia)) ?_;refine i_i ?_;rw[ek];refine cJ (W _ _ ba) (v:=j[k - 1]) (kS (by lia)) ?_
   refine⟨zz 2 rfl,fun cg c5=>?_⟩;refine iM (Gr.new c5 _ _ _ m1) jQ (uZ (by rw[BQ];show _+2<=1000;lia)) fun bf d4=>?_;have I:Gr G2 (vQ (vQ H1 cg (.lst [j[k],j[k - 1]])) bf (.lst (j.take (k - 1)++[j[k],j[k - 1]]))):=(W.trans (Gr.new c5 _)).trans (Gr.new d4 _);have m3:vQ (vQ H1 cg (.lst [j[k],j[k - 1]])) bf (.lst (j.take (k - 1)++[j[k],j[k - 1]])) bf=some (.lst (j.take (k - 1)++[j[k],j[k - 1]])):=jQ
   generalize vQ (vQ H1 cg (.lst [j[k],j[k - 1]])) bf (.lst (j.take (k - 1)++[j[k],j[k - 1]]))=H3 at I m3 ⊢;refine aY ?_;have dh:(k:Int)+1=((k+1:Nat):Int):=by lia
   rw[dh];refine sS (I _ _ ba) fun cj bt=>?_;rw[ZK];refine iM (Gr.new bt _ _ _ m3) jQ (uZ (by rw[AG,BQ,BL];show _+2+_<=1000;lia)) fun ah bu=>?_;have a5:Gr G2 (vQ (vQ H3 cj (.lst (j.drop (k+1)))) ah (.lst (j.take (k - 1)++[j[k],j[k - 1]]++j.drop (k+1)))):=(I.trans (Gr.new bt _)).trans (Gr.new bu _);have n5:ah≠F:=fun z=>by rw[z,(I.trans (Gr.new bt _)) _ _ ag] at bu;cases bu
   have c6:vQ (vQ H3 cj (.lst (j.drop (k+1)))) ah (.lst (j.take (k - 1)++[j[k],j[k - 1]]++j.drop (k+1))) ah=some (.lst (j.take (k - 1)++[j[k],j[k - 1]]++j.drop (k+1))):=jQ;generalize vQ (vQ H3 cj (.lst (j.drop (k+1)))) ah (.lst (j.take (k - 1)++[j[k],j[k - 1]]++j.drop (k+1)))=H5 at a5 c6 ⊢;refine vL (a5 _ _ ag) (by rw[bz];decide) ?_;refine hL _ _ ⟨rfl,ai++[.ref ah],jQ,bW (ay.trans a5) da _,fun u q=>?_,by rw[AG,bz];exact AJ 16⟩
   rw[VU]
   rcases AX.1 q with q | q
   .exact (aw u q).gr (YL (fE.trans a5) (Ac rfl))
   .cases AD.1 q
    refine .lst ((Ji n5).trans c6) (fun u q=>ab _ u ?_) fun e=>?_
    .rcases AX.1 q with q | q
     .rcases AX.1 q with q | q
      .exact List.mem_of_mem_take q
      .simp only[List.mem_cons,List.not_mem_nil,or_false] at q
       rcases q with rfl | rfl
       .exact A8 _
       .exact A8 _
     .exact List.mem_of_mem_drop q
    .have e1:=Bi (fun l:List PV=>l[k - 1]?) e
     have hx:(j.take (k - 1)).length=k - 1:=by rw[BQ];lia
     try dsimp only at e1
     rw[az,AY,B2 (by lia),hx,Nat.sub_self] at e1;have e1:some j[k]=j[k - 1]?:=e1;rw[AK (by lia)] at e1;have e2:=Av e1;subst az;rw[Cj,Cj] at e2;have e3:[bZ D[k].x.path,.str D[k].x.name,.tup (D[k].x.gives.map dQ),.tup (D[k].x.downs.map dQ),D[k].pc.pv]=[bZ D[k - 1].x.path,.str D[k - 1].x.name,.tup (D[k - 1].x.gives.map dQ),.tup (D[k - 1].x.downs.map dQ),D[k - 1].pc.pv]:=PV.tup.inj e2
     injection e3 with e4 _
     have e5:D[k].x.path=D[k - 1].x.path:=by
      have:=xY D[k].x.path;rw[e4,xY] at this;exact(Av this).symm
     have:=(List.nodup_iff_pairwise_ne.1 dm);have h1:=List.pairwise_iff_getElem.1 this (k - 1) k (by delta nK;rw[AB];lia) (by delta nK;rw[AB];lia) (by lia);unfold nK at h1;rw[Cj,Cj] at h1;exact h1 e5.symm
  .exact xX (hL _ _ ⟨rfl,ai,ag,ay,aw,by lia⟩)
 .rintro av G3 ⟨rfl,vs,d5,bj,b3,ej⟩
  try dsimp only
  refine iQ (fun av C'=>∃x9:Option PV,av=[some (.fz (ns.map PV.int)),some (.ref t),some (.tup (J.map Pt.pv)),some (.ref vv),some (.ref p1),some (.ref Y),some (.int (k:Nat)),some G,some (.ref F),x9]/\Gr G3 C') (fun L hL=>?_) ?_
  .refine ⟨vs.length+1,?_⟩
   refine vG (xs:=vs) (fun i ρ C'=>C' F=some (.lst vs)/\∃x9:Option PV,ρ=[some (.fz (ns.map PV.int)),some (.ref t),some (.tup (J.map Pt.pv)),some (.ref vv),some (.ref p1),some (.ref Y),some (.int (k:Nat)),some G,some (.ref F),x9]/\Gr G3 C') (fun _ _ _ h=>h.1) ?_ ?_ _ 0 _ _ ⟨d5,_,rfl,Gr.refl⟩ (BI _) (Ab _)
   .rintro i z ρ C' hz ⟨m',x9,rfl,g'⟩ L' dk
    have de:=((b3 z (Ae hz)).gr fE).gr g';obtain⟨h1,h2,h3⟩:=de.is;refine⟨J,vv,V,z,false,rfl,hs,hV,g' _ _ (bj _ _ (g8 _ _ mv)),h1,h2,⟨(fun z=>nomatch z),fun h=>absurd (by rw[hD] at h;exact h) h3⟩,fun aj bh=>?_⟩;refine wF (xX ?_);exact dk _ _ ⟨bh _ _ m',_,rfl,g'.trans bh⟩
   .rintro ρ C' ⟨m',x9,rfl,g'⟩
    exact hL _ _ ⟨_,rfl,g'⟩
  .rintro av C' ⟨x9,rfl,g'⟩
   try dsimp only
   have b9:=g' _ _ (bj _ _ (g8 _ _ mh));refine⟨J,vv,V,.ref Y,true,rfl,hs,hV,g' _ _ (bj _ _ (g8 _ _ mv)),.lst (mN b9),fun l xs e k=>by cases e;rw[b9] at k;cases k;exact ab C',⟨fun _=>⟨Y,rfl,by rw[hD,az];exact b9⟩,fun _=>rfl⟩,fun aj bh=>d8 aj⟩
end
theorem Xc{K:Dj}{H:Hp}:∀ns:List Int,Reps K H (ns.map V.int) (ns.map PV.int)
 |[]=>.nil
 |n::ns=>.cons (.int n) (Xc ns)
theorem walk{l:PySem.W.OpenLaw}{q:Program}{Y:List Str}{I:(Str->Option Value)->Heap->Prop}{j:World->Heap->Prop}{d:DefRec}{K:Params->Dj}(S:l.most=some 63)(N:d.params.defaults=[])(U:d.name = "law")(M:∀(w:World)(h:Heap),j w h->(K w.params).In h)(F:∀(w:World)(mg:Str->Option Value)(h:Heap),(K w.params).In h->h.Ns mainGlobals mg->∃a:Adr,Txt l.prog w (K w.params) mg a):
  PySem.W.WalkO q Y I j l.row.toRowW d [] (fun f vs=>PySem.call f vs):=by
 refine L2.walk_of (n:=63) (k:=120) (x:="_law_script") (CX:=fun _=>CX0) (sp:=fun w=>spC (K w.params) gLaw) S (by decide) N ⟨rfl,by decide,by decide⟩ M ?_ (fun w H a ns O L g=>?_) fun _ _ _ _ _ z=>z
 .intro w mg fa h D G B
  obtain⟨a,T⟩:=F w mg h D G;rw[U] at B;have e:=B.symm.trans ((T.F 49 rfl).m rfl);cases e;obtain⟨_,_,_,_,_,_,_,_,_,J,_⟩:=(T.F 49 rfl).F.ex;refine⟨a.d 49,?_,fun base _ _=>ok_law T⟩;rw[J];exact fun s u=>.of_eq rfl
 .have W:Fz (K w.params) H a (ns.map V.int):=by
   rcases g with g | g
   .rcases g with g | ⟨o,g⟩
    .rcases L a with h | ⟨o,xs,h⟩
     .rw [g] at h;cases h
     .rw [g] at h;cases h
    .exact .inl ⟨o,g⟩
   .exact .inr g
  refine⟨[.fz (ns.map PV.int)],fun _=>none,fun v _=>v=.bl true,.cons (.fz W (Xc ns)) .nil,(fun _ _ z=>nomatch z),⟨ns,rfl,O,fun _=>rfl⟩,?_⟩;rintro v H' t C' rfl r h' Z;cases r
  rfl
end K23
open PySem PySem.W PyProof.Rows
namespace PySem.W.Fast
theorem tw10017229917969182992:True:=⟨⟩
theorem tw10022597486104266331:True:=⟨⟩
theorem tw10198569889854557334:True:=⟨⟩
theorem tw10278303888578529011:True:=⟨⟩
theorem tw10532080737395865425:True:=⟨⟩
theorem tw105461631828132944:True:=⟨⟩
theorem tw10558016138367063337:True:=⟨⟩
theorem tw10577132142945815774:True:=⟨⟩
theorem tw10744312549927063319:True:=⟨⟩
theorem tw10809153344535682959:True:=⟨⟩
theorem tw11197370754819986465:True:=⟨⟩
theorem tw11274473977236246897:True:=⟨⟩
theorem tw11283349896388466745:True:=⟨⟩
theorem tw11369503083331944807:True:=⟨⟩
theorem tw11427191461986889338:True:=⟨⟩
theorem tw11537645408042737856:True:=⟨⟩
theorem tw11620627225255971895:True:=⟨⟩
theorem tw12168008083348891646:True:=⟨⟩
theorem tw12245629497531963050:True:=⟨⟩
theorem tw12409668002152572050:True:=⟨⟩
theorem tw12409928066414078098:True:=⟨⟩
theorem tw12522621622018952534:True:=⟨⟩
theorem tw12528734180082790523:True:=⟨⟩
theorem tw13053137499845296619:True:=⟨⟩
theorem tw13068001687822434:True:=⟨⟩
theorem tw13129509440516442002:True:=⟨⟩
theorem tw13131409224389435893:True:=⟨⟩
theorem tw13267297236742119212:True:=⟨⟩
theorem tw13387853484046072639:True:=⟨⟩
theorem tw13394766660041919356:True:=⟨⟩
theorem tw1350264534351961731:True:=⟨⟩
theorem tw13556032161488638713:True:=⟨⟩
theorem tw13623874828987017788:True:=⟨⟩
theorem tw13668052636697700116:True:=⟨⟩
theorem tw14062153031920092873:True:=⟨⟩
theorem tw14103293744864057640:True:=⟨⟩
theorem tw14123487064718994745:True:=⟨⟩
theorem tw14156975611297497263:True:=⟨⟩
theorem tw14228411774211477143:True:=⟨⟩
theorem tw14317074260485816190:True:=⟨⟩
theorem tw14372306683246699313:True:=⟨⟩
theorem tw14388621053128986654:True:=⟨⟩
theorem tw1451283909780134541:True:=⟨⟩
theorem tw14595389055747105901:True:=⟨⟩
theorem tw14795665350603108813:True:=⟨⟩
theorem tw14827508107356442202:True:=⟨⟩
theorem tw14878820706319502518:True:=⟨⟩
theorem tw14882932371523609298:True:=⟨⟩
theorem tw14938055388762004270:True:=⟨⟩
theorem tw14957454863811505281:True:=⟨⟩
theorem tw14961928785473798089:True:=⟨⟩
theorem tw15151280994346998042:True:=⟨⟩
theorem tw15183543647928651252:True:=⟨⟩
theorem tw15218628409474830696:True:=⟨⟩
theorem tw15299231666152567322:True:=⟨⟩
theorem tw15307004637001964797:True:=⟨⟩
theorem tw15308398517195402316:True:=⟨⟩
theorem tw15519779751201483557:True:=⟨⟩
theorem tw15952857301894873578:True:=⟨⟩
theorem tw15960023367284621724:True:=⟨⟩
theorem tw16152498549957486916:True:=⟨⟩
theorem tw16200153495949192062:True:=⟨⟩
theorem tw16230022566980217547:True:=⟨⟩
theorem tw16328365244537857313:True:=⟨⟩
theorem tw1651834529922051823:True:=⟨⟩
theorem tw16633799462473568674:True:=⟨⟩
theorem tw16777253013238600509:True:=⟨⟩
theorem tw16840206175926791299:True:=⟨⟩
theorem tw16977436385847464723:True:=⟨⟩
theorem tw17157276470706694221:True:=⟨⟩
theorem tw17198607873411638791:True:=⟨⟩
theorem tw17321094143124033656:True:=⟨⟩
theorem tw1733830887701176760:True:=⟨⟩
theorem tw17369855308627073603:True:=⟨⟩
theorem tw17400322920491433049:True:=⟨⟩
theorem tw17449801971755699129:True:=⟨⟩
theorem tw17573461184695250691:True:=⟨⟩
theorem tw17640350259813192738:True:=⟨⟩
theorem tw17695189481779457857:True:=⟨⟩
theorem tw17714556631774113044:True:=⟨⟩
theorem tw17724606085008622428:True:=⟨⟩
theorem tw1782901162728795479:True:=⟨⟩
theorem tw17941540190318177793:True:=⟨⟩
theorem tw1796232921691352957:True:=⟨⟩
theorem tw17966274515298078676:True:=⟨⟩
theorem tw179813380980119050:True:=⟨⟩
theorem tw18212806868659231338:True:=⟨⟩
theorem tw18251794524701823533:True:=⟨⟩
theorem tw18259890535278367253:True:=⟨⟩
theorem tw18287896104742945565:True:=⟨⟩
theorem tw18316856342709925844:True:=⟨⟩
theorem tw1888722001629035540:True:=⟨⟩
theorem tw1889278040192507871:True:=⟨⟩
theorem tw1933946005003883629:True:=⟨⟩
theorem tw2225516006718439266:True:=⟨⟩
theorem tw2256463683953166530:True:=⟨⟩
theorem tw2555271421511400350:True:=⟨⟩
theorem tw2655321597410801318:True:=⟨⟩
theorem tw2767342114196773384:True:=⟨⟩
theorem tw2778044791395197536:True:=⟨⟩
theorem tw283231126721535380:True:=⟨⟩
theorem tw2850426907660541417:True:=⟨⟩
theorem tw2916717197813310691:True:=⟨⟩
theorem tw2998135898150081863:True:=⟨⟩
theorem tw3242551271731205530:True:=⟨⟩
theorem tw336169880596301983:True:=⟨⟩
theorem tw338651076026545134:True:=⟨⟩
theorem tw3492138381703507123:True:=⟨⟩
theorem tw350366094316475059:True:=⟨⟩
theorem tw366050521460762011:True:=⟨⟩
theorem tw3837710818518748676:True:=⟨⟩
theorem tw4005460308478181048:True:=⟨⟩
theorem tw4065333881066148469:True:=⟨⟩
theorem tw4119024293426428410:True:=⟨⟩
theorem tw4151305996362654176:True:=⟨⟩
theorem tw4207938956410184714:True:=⟨⟩
theorem tw4245646502811269525:True:=⟨⟩
theorem tw431649400588973895:True:=⟨⟩
theorem tw4409982087639275137:True:=⟨⟩
theorem tw4475301241559667320:True:=⟨⟩
theorem tw4712413226842517221:True:=⟨⟩
theorem tw4868653426063762152:True:=⟨⟩
theorem tw4896250789601427163:True:=⟨⟩
theorem tw4937901924380122352:True:=⟨⟩
theorem tw5303341441610449100:True:=⟨⟩
theorem tw5431311483098214651:True:=⟨⟩
theorem tw5554336951087319713:True:=⟨⟩
theorem tw5652262366393761137:True:=⟨⟩
theorem tw5753295039147122571:True:=⟨⟩
theorem tw6041924680531845877:True:=⟨⟩
theorem tw6053405581936438296:True:=⟨⟩
theorem tw6093775330838692909:True:=⟨⟩
theorem tw6225710026248151005:True:=⟨⟩
theorem tw6291363989871582042:True:=⟨⟩
theorem tw6520621386630073943:True:=⟨⟩
theorem tw6535713072698475648:True:=⟨⟩
theorem tw6559198279052413124:True:=⟨⟩
theorem tw6572810990248114214:True:=⟨⟩
theorem tw6587915403057358816:True:=⟨⟩
theorem tw6783850694114876797:True:=⟨⟩
theorem tw6858355522906323781:True:=⟨⟩
theorem tw6952795416222152814:True:=⟨⟩
theorem tw7081720301728373733:True:=⟨⟩
theorem tw7415678987653215223:True:=⟨⟩
theorem tw7444823189759427044:True:=⟨⟩
theorem tw7462823073321197297:True:=⟨⟩
theorem tw7466740507529274988:True:=⟨⟩
theorem tw7600894763695778767:True:=⟨⟩
theorem tw7657465185188733780:True:=⟨⟩
theorem tw8055940499365383820:True:=⟨⟩
theorem tw8079669606279430812:True:=⟨⟩
theorem tw8106158863251960197:True:=⟨⟩
theorem tw8119690396816640524:True:=⟨⟩
theorem tw8161070427980494068:True:=⟨⟩
theorem tw8180986756950558191:True:=⟨⟩
theorem tw8373610321813832719:True:=⟨⟩
theorem tw8461392922652470901:True:=⟨⟩
theorem tw8485286097765069708:True:=⟨⟩
theorem tw8491277889568792187:True:=⟨⟩
theorem tw8623615195879376617:True:=⟨⟩
theorem tw8660250144262279347:True:=⟨⟩
theorem tw8866683800363465588:True:=⟨⟩
theorem tw9022100643245785391:True:=⟨⟩
theorem tw9263992651720008237:True:=⟨⟩
theorem tw9344838284211800906:True:=⟨⟩
theorem tw938104196518074984:True:=⟨⟩
theorem tw9521795195969088274:True:=⟨⟩
theorem tw9605523671480488284:True:=⟨⟩
theorem tw97192872499890819:True:=⟨⟩
theorem tw9747160711088251882:True:=⟨⟩
theorem tw9797809024702884604:True:=⟨⟩
theorem tw9817118605372211521:True:=⟨⟩
theorem tw9839619458925979437:True:=⟨⟩
theorem tw9886619446526615182:True:=⟨⟩
end PySem.W.Fast
set_option maxRecDepth 100000 in
set_option maxHeartbeats 0 in
theorem PySem.Challenge.cw_viewwood_k23_drawings_let_by_holds : PySem.Challenge.rw_viewwood_k23_drawings_let_by.Holds := by
 w_on;o_law;k_head;(case hw=>w_witness2)
 k_fill
 refine K23.walk (l:=PySem.Challenge.rw_viewwood_k23_drawings_let_by) rfl rfl rfl (fun w h Y=>PySem.W.kIn_of Y) ?F
 case F =>
  intro w mg h KX G;refine K23.txt_mk KX G ?_ (by k_is) (by k_is) (by k_is) (by k_is) (by k_is) (by k_is) (by k_is) (by k_is) (by k_is) (by k_is) (by k_is) (by k_is) (by k_is) (by k_is) (by k_is) (by k_is) (by k_is) (by k_is) (by k_is) (by k_is) (by k_is) (by k_is) (by k_is) (by k_is) (by k_is) (by k_is) (by k_is) (by k_is) (by k_is) (by k_is) (by k_is) (by k_is) (by k_is) (by k_is) (by k_is) (by k_is) (by k_is) (by k_is) (by k_is)
  unfold K23.tab
  repeat first | refine⟨⟨_,_,_,_,_,_,_,_,_,_,by k_is,by k_is,by k_is,by k_is⟩,?_⟩ | refine⟨⟨_,_,_,_,_,_,_,_,_,_,_,by k_is,by k_is,by k_is,by k_is,by k_is,by k_is⟩,?_⟩
  exact trivial
