import PyProof.Rows.All
import Wide.All
import OpenK.AllK
import Wide.FinOn
import Lean
import PyProof.EqAt
import PyProof.EqKinds
import PyProof.TupleCall
import PyProof.DictUpdate
import KE.KDictOf
import PyProof.AttrMissHeap
import KE.KSortTup
import KE.KItemsList
import PyProof.DictWalks
import PyProof.Rows.TupDisplay
import KE.KEqDict
import PyProof.NeKinds
import KE.KRevIter
import PyProof.ListRange
import KE.KDictSum
import PyProof.MeetsStr
import PyProof.StrLawsJoin
import PyProof.FitsInt
import PyProof.ZipIter
import PySem.Challenge.RW_viewwood_k11_bent_pieces
def yF{p q:Prop}{g:Prop}(h:p/\q)(k:p->q->g):g:=by obtain⟨B,D⟩:=h;exact k B D
def Vh{p q r:Prop}{g:Prop}(h:p/\q/\r)(k:p->q->r->g):g:=by obtain⟨B,D,I⟩:=h;exact k B D I
def zT{p q r s:Prop}{g:Prop}(h:p/\q/\r/\s)(k:p->q->r->s->g):g:=by obtain⟨B,D,I,J⟩:=h;exact k B D I J
def qT{p q r s t:Prop}{g:Prop}(h:p/\q/\r/\s/\t)(k:p->q->r->s->t->g):g:=by obtain⟨B,D,I,J,O⟩:=h;exact k B D I J O
def Xr{p q r s t o:Prop}{g:Prop}(h:p/\q/\r/\s/\t/\o)(k:p->q->r->s->t->o->g):g:=by obtain⟨B,D,I,J,O,S⟩:=h;exact k B D I J O S
def el11{A:Sort _}{p:A->Prop}{g:Prop}(h:∃a,p a)(k:∀a,p a->g):g:=by obtain⟨a,q⟩:=h;exact k a q
def zX{A:Sort _}{p q:A->Prop}{g:Prop}(h:∃a,p a/\q a)(k:∀a,p a->q a->g):g:=by obtain⟨a,B,D⟩:=h;exact k a B D
def jK{A:Sort _}{p q r:A->Prop}{g:Prop}(h:∃a,p a/\q a/\r a)(k:∀a,p a->q a->r a->g):g:=by obtain⟨a,B,D,I⟩:=h;exact k a B D I
def ZT{A:Sort _}{p q r s:A->Prop}{g:Prop}(h:∃a,p a/\q a/\r a/\s a)(k:∀a,p a->q a->r a->s a->g):g:=by obtain⟨a,B,D,I,J⟩:=h;exact k a B D I J
def Xq{A:Sort _}{p q r s t:A->Prop}{g:Prop}(h:∃a,p a/\q a/\r a/\s a/\t a)(k:∀a,p a->q a->r a->s a->t a->g):g:=by obtain⟨a,B,D,I,J,O⟩:=h;exact k a B D I J O
def el21{A:Sort _}{B:Sort _}{p:A->B->Prop}{g:Prop}(h:∃a b,p a b)(k:∀a b,p a b->g):g:=by obtain⟨a,b,q⟩:=h;exact k a b q
def mG{A:Sort _}{B:Sort _}{p q:A->B->Prop}{g:Prop}(h:∃a b,p a b/\q a b)(k:∀a b,p a b->q a b->g):g:=by obtain⟨a,b,D,I⟩:=h;exact k a b D I
theorem uZ{A:Sort _}{B:Sort _}{p q r:A->B->Prop}{g:Prop}(h:∃a b,p a b/\q a b/\r a b)(k:∀a b,p a b->q a b->r a b->g):g:=by obtain⟨a,b,D,I,J⟩:=h;exact k a b D I J
def ZS{A:Sort _}{B:Sort _}{p q r s:A->B->Prop}{g:Prop}(h:∃a b,p a b/\q a b/\r a b/\s a b)(k:∀a b,p a b->q a b->r a b->s a b->g):g:=by obtain⟨a,b,D,I,J,O⟩:=h;exact k a b D I J O
def el25{A:Sort _}{B:Sort _}{p q r s t:A->B->Prop}{g:Prop}(h:∃a b,p a b/\q a b/\r a b/\s a b/\t a b)(k:∀a b,p a b->q a b->r a b->s a b->t a b->g):g:=by obtain⟨a,b,D,I,J,O,S⟩:=h;exact k a b D I J O S
def el26{A:Sort _}{B:Sort _}{p q r s t o:A->B->Prop}{g:Prop}(h:∃a b,p a b/\q a b/\r a b/\s a b/\t a b/\o a b)(k:∀a b,p a b->q a b->r a b->s a b->t a b->o a b->g):g:=by obtain⟨a,b,D,I,J,O,S,U⟩:=h;exact k a b D I J O S U
def el31{A:Sort _}{B:Sort _}{C:Sort _}{p:A->B->C->Prop}{g:Prop}(h:∃a b c,p a b c)(k:∀a b c,p a b c->g):g:=by obtain⟨a,b,c,q⟩:=h;exact k a b c q
def Ga{A:Sort _}{B:Sort _}{C:Sort _}{p q:A->B->C->Prop}{g:Prop}(h:∃a b c,p a b c/\q a b c)(k:∀a b c,p a b c->q a b c->g):g:=by obtain⟨a,b,c,D,I⟩:=h;exact k a b c D I
def iS{A:Sort _}{B:Sort _}{C:Sort _}{p q r:A->B->C->Prop}{g:Prop}(h:∃a b c,p a b c/\q a b c/\r a b c)(k:∀a b c,p a b c->q a b c->r a b c->g):g:=by obtain⟨a,b,c,D,I,J⟩:=h;exact k a b c D I J
theorem tX{A:Sort _}{B:Sort _}{C:Sort _}{p q r s:A->B->C->Prop}{g:Prop}(h:∃a b c,p a b c/\q a b c/\r a b c/\s a b c)(k:∀a b c,p a b c->q a b c->r a b c->s a b c->g):g:=by obtain⟨a,b,c,D,I,J,O⟩:=h;exact k a b c D I J O
def el35{A:Sort _}{B:Sort _}{C:Sort _}{p q r s t:A->B->C->Prop}{g:Prop}(h:∃a b c,p a b c/\q a b c/\r a b c/\s a b c/\t a b c)(k:∀a b c,p a b c->q a b c->r a b c->s a b c->t a b c->g):g:=by obtain⟨a,b,c,D,I,J,O,S⟩:=h;exact k a b c D I J O S
def el36{A:Sort _}{B:Sort _}{C:Sort _}{p q r s t o:A->B->C->Prop}{g:Prop}(h:∃a b c,p a b c/\q a b c/\r a b c/\s a b c/\t a b c/\o a b c)(k:∀a b c,p a b c->q a b c->r a b c->s a b c->t a b c->o a b c->g):g:=by obtain⟨a,b,c,D,I,J,O,S,U⟩:=h;exact k a b c D I J O S U
def el42{A:Sort _}{B:Sort _}{C:Sort _}{D:Sort _}{p q:A->B->C->D->Prop}{g:Prop}(h:∃a b c d,p a b c d/\q a b c d)(k:∀a b c d,p a b c d->q a b c d->g):g:=by obtain⟨a,b,c,d,I,J⟩:=h;exact k a b c d I J
def el43{A:Sort _}{B:Sort _}{C:Sort _}{D:Sort _}{p q r:A->B->C->D->Prop}{g:Prop}(h:∃a b c d,p a b c d/\q a b c d/\r a b c d)(k:∀a b c d,p a b c d->q a b c d->r a b c d->g):g:=by obtain⟨a,b,c,d,I,J,O⟩:=h;exact k a b c d I J O
def Y9{A:Sort _}{B:Sort _}{C:Sort _}{D:Sort _}{p q r s t:A->B->C->D->Prop}{g:Prop}(h:∃a b c d,p a b c d/\q a b c d/\r a b c d/\s a b c d/\t a b c d)(k:∀a b c d,p a b c d->q a b c d->r a b c d->s a b c d->t a b c d->g):g:=by obtain⟨a,b,c,d,I,J,O,S,U⟩:=h;exact k a b c d I J O S U
def el46{A:Sort _}{B:Sort _}{C:Sort _}{D:Sort _}{p q r s t o:A->B->C->D->Prop}{g:Prop}(h:∃a b c d,p a b c d/\q a b c d/\r a b c d/\s a b c d/\t a b c d/\o a b c d)(k:∀a b c d,p a b c d->q a b c d->r a b c d->s a b c d->t a b c d->o a b c d->g):g:=by obtain⟨a,b,c,d,I,J,O,S,U,Y⟩:=h;exact k a b c d I J O S U Y
def el54{A:Sort _}{B:Sort _}{C:Sort _}{D:Sort _}{E:Sort _}{p q r s:A->B->C->D->E->Prop}{g:Prop}(h:∃a b c d e,p a b c d e/\q a b c d e/\r a b c d e/\s a b c d e)(k:∀a b c d e,p a b c d e->q a b c d e->r a b c d e->s a b c d e->g):g:=by obtain⟨a,b,c,d,e,I,J,O,S⟩:=h;exact k a b c d e I J O S
def el55{A:Sort _}{B:Sort _}{C:Sort _}{D:Sort _}{E:Sort _}{p q r s t:A->B->C->D->E->Prop}{g:Prop}(h:∃a b c d e,p a b c d e/\q a b c d e/\r a b c d e/\s a b c d e/\t a b c d e)(k:∀a b c d e,p a b c d e->q a b c d e->r a b c d e->s a b c d e->t a b c d e->g):g:=by obtain⟨a,b,c,d,e,I,J,O,S,U⟩:=h;exact k a b c d e I J O S U
set_option genSizeOf false
set_option bootstrap.genMatcherCode false
set_option Elab.async false
set_option linter.all false
set_option maxRecDepth 100000
set_option maxHeartbeats 4000000
def y0(n:Nat)(h:n.ble 99=true):n<=PySem.sizeLine:=Nat.le_trans (Nat.le_of_ble_eq_true h) (by decide)
abbrev AA:=@PySem.wpAny_bind
abbrev AB:=@List.length_map
abbrev AC:=@PySem.wpAny_pure
abbrev AD:=@PySem.Heap.get?_push_of_some
abbrev AE:=@List.mem_singleton
abbrev AF:=@List.mem_cons_self
abbrev AG:=@PySem.Heap.lt_size
abbrev AH:=@Nat.le_refl
abbrev AJ:=@Bool.false_ne_true
abbrev AK:=@PySem.Heap.get?_push_size
abbrev AL:=@List.mem_cons_of_mem
abbrev AM:=@decide_eq_false
abbrev AN:=@List.length_append
abbrev AO:=@List.getElem?_eq_getElem
abbrev AQ:=@Nat.lt_of_lt_of_le
abbrev AR:=@List.mem_append_right
abbrev AS:=@List.mem_append
abbrev AU:=@List.mem_map
abbrev AV:=@List.length_cons
abbrev AW:=@Nat.le_trans
abbrev AX:=@if_neg
abbrev AY:=@Nat.zero_le
abbrev AZ:=@if_pos
abbrev Aa:=@of_decide_eq_true
abbrev Ab:=@Nat.ne_of_lt
abbrev Ac:=@List.map_append
abbrev Ad:=@decide_eq_true
abbrev Ae:=@List.mem_of_getElem?
abbrev Af:=@List.append_assoc
abbrev Ah:=@List.append_nil
abbrev Ai:=@List.mem_cons
abbrev Aj:=@Nat.lt_of_le_of_lt
abbrev Ak:=@List.length_range
abbrev Al:=@List.length_singleton
abbrev Am:=@List.size_toArray
abbrev An:=@List.length_take
abbrev Ao:=@List.mem_append_left
abbrev Ap:=@List.getElem?_eq_some_iff
abbrev Aq:=@Array.getElem?_eq_getElem
abbrev Ar:=@PySem.wpAny_field
abbrev As:=@PySem.W.mg_none_of
abbrev Au:=@Nat.ne_of_gt
abbrev Av:=@PySem.wpAny_newObj_type
abbrev Aw:=@PySem.wpAny_call_entry
abbrev Ax:=@List.length_drop
abbrev Ay:=@Nat.succ.inj
abbrev Az:=@PySem.wpAny_holding
abbrev A0:=@List.getElem?_map
abbrev A1:=@PySem.F.plainAttrs_list
abbrev A3:=@Array.length_toList
abbrev A4:=@List.drop_eq_getElem_cons
abbrev A5:=@PySem.wpAny_setField_rec
abbrev A6:=@PySem.Heap.get?_update_self
abbrev A7:=@Option.some.inj
abbrev A8:=@PySem.wpAny_truthy_bool
abbrev A9:=@Nat.lt_irrefl
abbrev BA:=@List.map_cons
abbrev BB:=@List.any_cons
abbrev BC:=@Nat.le_succ_of_le
abbrev BD:=@PySem.wpAny_callSpecial?_slot
abbrev BE:=@PySem.wpAny_seqItems
abbrev BF:=@PySem.lookup_relabel_local
abbrev BG:=@List.mem_of_mem_take
abbrev BH:=@List.getElem_mem
abbrev BI:=@Bool.and_eq_true
abbrev BJ:=@PySem.W.kia_tup
abbrev BK:=@PySem.W.kia_one
abbrev BL:=@List.find?_cons
abbrev BM:=@PySem.wpAny_mono
abbrev BN:=@List.mem_range
abbrev BO:=@PySem.Heap.get?_update_other
abbrev BP:=@PySem.Heap.SameBut.update
abbrev BQ:=@List.length_nil
abbrev BR:=@of_decide_eq_false
abbrev BS:=@Nat.le_add_right
abbrev BU:=@Nat.zero_add
abbrev BV:=@List.mem_of_mem_drop
abbrev BW:=@List.foldl_append
abbrev BX:=@PySem.wpAny_specialOf
abbrev BY:=@Nat.not_lt_zero
abbrev BZ:=@Nat.le_add_left
abbrev Ba:=@List.nodup_cons
abbrev Bb:=@PySem.F.slot_dict_keyiterator_next
abbrev Bc:=@Nat.le_of_lt
abbrev Be:=@List.map_map
abbrev Bf:=@PySem.W.mg_of
abbrev Bg:=@Int.le_refl
abbrev Bh:=@List.getD_eq_getElem?_getD
abbrev Bi:=@List.length_replicate
abbrev Bj:=@PySem.codeAny_builtin
abbrev Bk:=@congrArg
abbrev Bl:=@Nat.mul_le_mul_right
abbrev Bm:=@Nat.le_succ
abbrev Bn:=@List.cons.inj
abbrev Bq:=@or_assoc
abbrev Br:=@Nat.lt_succ_self
abbrev Bs:=@List.all_eq_true
abbrev Bt:=@PySem.Heap.size_push
abbrev Bu:=@PySem.wpAny_typeNameOfWhole_keyiter
abbrev Bv:=@Nat.lt_of_succ_lt_succ
abbrev Bw:=@Int.emod_lt_of_pos
abbrev Bx:=@PySem.wpAny_updateSeq
abbrev By:=@PySem.wpAny_passesOwn
abbrev Bz:=@PySem.plainId_quiet
abbrev B0:=@List.mem_iff_getElem?
abbrev B1:=@PySem.sizeLine_eq
abbrev B2:=@PySem.call_meets
abbrev B3:=@PySem.F.slot_NoneType_hash
abbrev B4:=@PySem.F.slot_tuple_iterator_next
abbrev B5:=@PySem.wpAny_isInstance
abbrev B6:=@Nat.le_of_eq
abbrev B7:=@List.not_mem_nil
abbrev B8:=@List.drop_length
abbrev B9:=@PySem.F.plain_extend_loop
abbrev CC:=@PySem.F.entry_extend_loop
abbrev CD:=@List.mem_of_find?_eq_some
abbrev CJ:=@List.getElem?_append_left
abbrev CK:=@PySem.mem_of_lookup
abbrev CM:=@PySem.wpAny_typeNameOf_keyiter
abbrev CN:=@PySem.wpAny_comprehension_free
abbrev CP:=@PySem.F.slot_dict_itemiterator_next
abbrev CQ:=@List.all_cons
abbrev CU:=@List.nil_append
abbrev CV:=@Int.emod_nonneg
abbrev CY:=@PySem.F.slot_tuple_eq
abbrev CZ:=@Bool.eq_iff_iff
abbrev Cb:=@PySem.wpAny_rule
abbrev Cc:=@PySem.wpAny_getItem_str_slice
abbrev Cd:=@PySem.wpAny_dictEntries
abbrev Ce:=@Int.le_trans
abbrev Cf:=@PyProof.Rows.slot_tuple_getitem
abbrev Cg:=@List.getElem?_eq_none
abbrev Ci:=@PySem.wpAny_typeNameOfWhole_itemiter
abbrev Cj:=@PySem.wpAny_forIn_list
abbrev Ck:=@List.cons_append
abbrev Cm:=@PySem.wpAny_dictEpoch
abbrev Cn:=@List.of_mem_zip
abbrev Co:=@List.foldl_cons
abbrev Cp:=@List.map_congr_left
abbrev Cq:=@List.length_reverse
abbrev Cr:=@PySem.Heap.get?_update_ne
abbrev Cs:=@Nat.lt_or_ge
abbrev Ct:=@PySem.wpAny_setField
abbrev Cu:=@PySem.wpAny_pyIter_tuple
abbrev Cv:=@PySem.wpAny_Call_Name_kw
abbrev Cw:=@Nat.eq_zero_or_pos
abbrev Cy:=@List.zip_cons_cons
abbrev Cz:=@List.nodup_nil
abbrev DA:=@Array.forIn_toList
abbrev DB:=@PySem.F.type_list_reverse
abbrev DC:=@PySem.F.slot_list_reverse
abbrev DD:=@PySem.F.slot_tuple_getattribute
abbrev DE:=@PySem.Calls.call_function_entry
abbrev DF:=@PySem.W.kitx_list
abbrev DG:=@PySem.W.kitx_dict
abbrev DH:=@List.reverse_cons
abbrev DI:=@Int.toNat_natCast
abbrev DJ:=@PySem.F.slot_tuple_hash
abbrev DK:=@PySem.wpAny_attempt
abbrev DL:=@PySem.F.args_tuple_add_2
abbrev DM:=@PySem.F.entry_tuple_add
abbrev DN:=@PySem.wpAny_typeOf
abbrev DO:=@PySem.wpAny_isOneOf_itemiter
abbrev DP:=@PySem.codeAny_mono
abbrev DQ:=@PySem.F.slot_tuple_add
abbrev DR:=@PySem.Calls.callWith_builtin
abbrev DS:=@PySem.wpAny_execs_nil
abbrev DT:=@PySem.post_val_or_str
abbrev DU:=@beq_false_of_ne
abbrev DV:=@List.range_succ
abbrev DW:=@PySem.F.slot_zip_next
abbrev DX:=@PySem.wpAny_notOrdered_dict
abbrev DY:=@PySem.wpAny_callSpecialIfBoundUnlessNone?_slot
abbrev DZ:=@PySem.isSubtype_tuple_tuple
abbrev Da:=@PySem.builtinLookup_eq_fast
abbrev Dc:=@PySem.F.slot_dict_get
abbrev Dd:=@PySem.wpAny_newTuple
abbrev De:=PySem.W.Frag
namespace PySem
open Sem (wp)
section
variable {prog:Program}{w:World}{K:Type}[DecidableEq K](knd:KeyKind prog w K)
inductive ItemsTup(h:Heap):List (List K)->List Value->Prop
 |nil:ItemsTup h [] []
 |cons {k:List K} {b:Addr} {kss:List (List K)} {vs:List Value}:IsTupleKey knd h k b->ItemsTup h kss vs->ItemsTup h (k::kss) (.ref b::vs)
def IsPathKey(h:Heap)(g:List (List K))(a:Addr):Prop:=∃o items n,h.get? a=some o/\o.cls=.type "tuple"/\o.data=.seq items n/\ItemsTup knd h g items.toList
variable {knd}
def ItemsTup.inj(q:ItemsTup knd h x vs)(g:ItemsTup knd h y vs):x=y:=by
 induction q generalizing y with
 |nil=>(cases g;rfl)
 |cons h1 _ B=>cases g with | cons h2 D=>rw[h1.inj h2,B D]
def ItemsTup.keeps(B:ItemsTup knd h x vs)(q:h.get? d=some o)(g:o.data=.dict es ep)(hs:Heap.SameBut d h h'):ItemsTup knd h' x vs:=by
 induction B with
 |nil=>exact .nil
 |cons h1 _ D=>exact .cons (h1.keeps q g hs) D
def IsPathKey.typeIs{s:Shared}(x:IsPathKey knd s.heap g a):s.TypeIs (.ref a) "tuple" :=iS x fun o _ _ e c _=>⟨o,e,c⟩
def IsPathKey.inj(O:IsPathKey knd h x a)(S:IsPathKey knd h y a):x=y:=by
 refine tX O fun o U n g _ q B=>tX S fun o' its' Y D _ I J=>?_;cases g.symm.trans D;cases q.symm.trans I;exact B.inj J
def IsPathKey.keeps(x:IsPathKey knd h U a)(O:h.get? d=some o)(I:o.data=.dict es ep)(hs:Heap.SameBut d h h'):IsPathKey knd h' U a:=by
 refine tX x fun o' S n g q B D=>?_;have J:a≠d :=by lia
 exact⟨o',S,n,(hs.2 a J).trans g,q,B,D.keeps O I hs⟩
def iF(knd:KeyKind prog w K)(g:List (List K)):Int:=reduceHash (Builtin.Tuple.tupleHashOf (g.map (tupleKeyHash knd)))
def rL(g:List (List K)):Nat:=(g.map fun k=>k.length+1).sum+1
variable {A:Around}{E:Value->Shared->Prop}{s:Shared}
def dF(Y:A.units+1 < cLine)(S:IsPathKey knd s.heap J a)(h:Q (iF knd J) { s with toks:=s.toks+rL J }):
  wpAny (model prog w) A (pyHash (.ref a)) Q E s:=by
 have q:=S.typeIs;obtain⟨o,items,n,ho,_,Z,hi⟩:=S
 (first | delta pyHashByItsType | skip)
 (first | refine AA (wpAny_cRoomFor_or (.inr (Nat.lt_of_succ_lt Y)) ?_) | skip)
 refine AA (BX (by exact q) DJ.lookup (?_));refine AA (BX (by exact q) DJ.lookup (?_));refine AA (DY (by exact q) DJ (Aw DJ (by exact q) F.entry_tuple_hash (?_) (F.args_tuple_hash_1 _)));show wpAny _ _ (Builtin.Tuple.tupleItemsOf (.ref a) >>= (_)) _ _ s
 (refine AA (wpAny_tupleItemsOf ho Z (AA ?_));rw[<- DA])
 refine Cj _ (fun rest b s'=>∃g left,J=g++left/\ItemsTup knd s.heap left rest/\b.toList=g.map (tupleKeyHash knd)/\s'={ s with toks:=s.toks+(g.map fun k=>k.length+1).sum }) _ ?_ ?_ _ _ ⟨[],J,rfl,hi,rfl,rfl⟩
 .rintro x rest b s' ⟨g,left,rfl,O,B,rfl⟩
  cases O with
  |@cons k b' ks' _ h1 U =>
   refine AA (wpAny_pyHash_tuple Y h1 ?_)
   first
    |exact AC ⟨g++[k],ks',by simp,U,by simp[B],by simp[Nat.add_assoc]⟩
    |exact AA (AC (AC ⟨g++[k],ks',by simp,U,by simp[B],by simp[Nat.add_assoc]⟩))
 .rintro b s' ⟨g,left,rfl,O,B,rfl⟩
  cases O;rw[Ah] at h
  (show wpAny _ _ (retInt (Builtin.Tuple.tupleHashOf b.toList)) _ _ _;rw[B];apply wpAny_ret_mkInt)
  delta iF reduceHash rL at h
  generalize Builtin.Tuple.tupleHashOf (g.map (tupleKeyHash knd))=D at h ⊢;show wpAny _ _ (if (decide (-(2:Int) ^ 63<=D)&&decide (D < 2 ^ 63))=true then _ else _) Q E _
  by_cases I:(decide (-(2:Int) ^ 63<=D)&&decide (D < 2 ^ 63))=true
  ·(rw[AZ I];rw[AZ I] at h)
   exact AC (by lia)
  ·(rw[AX I];rw[AX I] at h)
   exact AA (Cb (AC (by simpa [Nat.add_assoc] using h)))
def zA(hu:A.units < cLine)(hx:IsPathKey knd s.heap x a)(hy:IsPathKey knd s.heap y b)(h:P (.done (.ret (.bool (decide (x=y))))) s):
  wpAny (model prog w) A (Builtin.«tuple.__eq__» ⟨[.ref a,.ref b],[]⟩) P E s:=by
 refine tX hx fun oa xs ay ao _ af aj=>tX hy fun ob ys az aq _ ag ak=>?_
 (show wpAny _ _ (isInstance (.ref b) (.type "tuple") >>= _) _ _ s;refine AA (B5 hy.typeIs DZ ?_))
 (refine AA (wpAny_tupleItemsOf ao af (AA (wpAny_tupleItemsOf aq ag (AA ?_)))))
 refine Cj _ (fun rest r s'=>r.1=none/\s'=s/\∃I J q B,rest=List.zip q B/\ItemsTup knd s.heap I q/\ItemsTup knd s.heap J B/\decide (I=J)=decide (x=y)/\(q.length==B.length)=(xs.size==ys.size)) _ ?_ ?_ _ _ ⟨rfl,rfl,x,y,xs.toList,ys.toList,rfl,aj,ak,rfl,by simp⟩
 .rintro ⟨u,v⟩ rest r s' ⟨Z,rfl,I,J,q,B,g,U,D,O,S⟩
  cases U with
  |nil=>simp at g
  |@cons k1 b1 ab aw h1 ar =>
   cases D with
   |nil=>simp at g
   |@cons k2 b2 ae ax h2 av =>
    (obtain⟨⟨rfl,rfl⟩,rfl⟩:=g)
    refine AA (wpAny_eqBool_tuple hu h1 h2 ?_)
    by_cases Y:k1=k2
    .subst Y
     (simp only[ Bool.false_eq_true])
     refine AC ⟨rfl,rfl,ab,ae,aw,ax,rfl,ar,av,?_,by simpa using S⟩;rw[<- O]
     (by_cases au:ab=ae<;>simp[au])
    ·(rw[AM Y];simp only[ if_true])
     have ah:decide (x=y)=false :=by lia
     rw[ah] at h;exact AA (AC (AC (AC h)))
 .rintro ⟨r1,r2⟩ s' ⟨Z,rfl,I,J,q,B,g,U,D,O,S⟩
  (subst Z;apply AC)
  have ai:(xs.size==ys.size)=decide (x=y):=by
   rw[<- O,<- S]
   cases U with
   |nil=>(cases D with | nil=>simp | cons _ _=>simp)
   |cons _ _=>(cases D with | nil=>simp | cons _ _=>simp at g)
  (show P (.done (.ret (.bool (xs.size==ys.size)))) s';rwa [ai])
def cF(D:A.units+1 < cLine)(g:IsPathKey knd s.heap x a)(q:IsPathKey knd s.heap y b)(h:Q (decide (x=y)) s):
  wpAny (model prog w) A (eqBool (.ref a) (.ref b)) Q E s:=by
 (delta eqBool;try with_reducible refine Az ?_)
 by_cases B:(Value.ref a==Value.ref b)=true
 .rw [AZ B]
  have e:a=b :=by lia
  subst e;obtain rfl:=g.inj q;exact AA (Cb (AC (by lia)))
 .exact (AX B)▸AA (wpAny_richCompare_same_room g.typeIs q.typeIs CY (Aw CY g.typeIs F.entry_tuple_eq (zA D g q ⟨_,rfl,(fun e=>nomatch e),A8 h⟩) (F.args_tuple_eq_2 _ _)) (Nat.lt_of_succ_lt D))
def QJ n(B:IsTupleKey knd s.heap ks a)(h:Q true s):wpAny (model prog w) A (eqIsQuiet (n+1) (.ref a)) Q E s:=by
 have g:=B.typeIs;refine tX B fun o items m J _ I hi=>?_
 (unfold eqIsQuiet;refine AA (BX g CY.lookup ?_))
 (refine AA (B5 g DZ ?_))
 (refine AA (BE J I (AA ?_)))
 (rw[<- DA])
 refine Cj _ (fun rest r s'=>r.1=none/\s'=s/\∀v∈rest,carriedByValue v=true) _ ?_ ?_ _ _ ⟨rfl,rfl,hi.byValue⟩
 .rintro v rest r s' ⟨D,rfl,q⟩
  (rw[eqIsQuiet_byValue _ (q v AF)];refine AA (AC ?_))
  (exact AC ⟨rfl,rfl,fun u O=>q u (AL _ O)⟩)
 .rintro ⟨S,U⟩ s' ⟨D,rfl,_⟩
  (subst D;exact AC h)
def Zc(q:IsPathKey knd s.heap S a)(h:Q true s):wpAny (model prog w) A (eqIsQuiet 8 (.ref a)) Q E s:=by
 have g:=q.typeIs;obtain⟨o,items,m,O,_,J,hi⟩:=q
 (unfold eqIsQuiet;refine AA (BX g CY.lookup ?_))
 (refine AA (B5 g DZ ?_))
 (refine AA (BE O J (AA ?_)))
 (rw[<- DA])
 refine Cj _ (fun rest r s'=>r.1=none/\s'=s/\∃D,ItemsTup knd s.heap D rest) _ ?_ ?_ _ _ ⟨rfl,rfl,_,hi⟩
 .rintro v rest r s' ⟨B,rfl,D,I⟩
  cases I with
  |cons h1 h2 =>
   refine AA (QJ 6 h1 ?_)
   (exact AC ⟨rfl,rfl,_,h2⟩)
 .rintro ⟨U,Y⟩ s' ⟨B,rfl,_⟩
  (subst B;exact AC h)
end
def WS[DecidableEq K](knd:KeyKind prog w K):HeapKind prog w (List (List K)) where
 is:=IsPathKey knd
 hash:=iF knd
 draws:=rL
 room:=fun A=>A.units+1 < cLine
 inj:=fun B D=>B.inj D
 keeps:=fun x J I hs=>x.keeps J I hs
 pyHash:=fun q g h=>dF q g h
 eqBool:=fun q B D h=>cF q B D h
 quiet:=fun g h=>Zc g h
end PySem
namespace L2
open PySem PySem.Spec PyProof.Rows
abbrev Key:=Sum (Option Int) Str
def JZ:Value->Bool
 |.none=>true
 |_=>false
def dO:Key->Value->Bool
 |.inl (some k),v=>Value.isInt k v
 |.inl none,v=>JZ v
 |.inr x,v=>Value.isStrOf x v
def keyH(w:World):Key->Int
 |.inl (some k)=>hashInt k
 |.inl none=>4238894112
 |.inr x=>hashStr w x
def tS(h:JZ v=true):v=.none:=by
 cases v<;>first | rfl | cases h
theorem rJ:∀{k}{v},dO k v=true->(∃i t,k=Sum.inl (some i)/\v=Value.int i t)\/(∃x t,k=Sum.inr x/\v=Value.str x t)\/(k=Sum.inl none/\v=Value.none)
 |.inl (some i),v,h=>by
  obtain⟨t,e⟩:=Value.isInt_shape h;exact .inl ⟨i,t,rfl,e⟩
 |.inl none,v,h=>.inr (.inr ⟨rfl,tS h⟩)
 |.inr x,v,h=>by
  obtain⟨t,e⟩:=Value.isStrOf_shape h;exact .inr (.inl ⟨x,t,rfl,e⟩)
def Vb i t:dO (.inl (some i)) (.int i t)=true :=by simp[dO,Value.isInt]
def Va x t:dO (.inr x) (.str x t)=true :=by simp[dO,Value.isStrOf]
def key_ii a b:decide ((Sum.inl (some a):Key)=Sum.inl (some b))=(a==b) :=by grind
def key_ss a b:decide ((Sum.inr a:Key)=Sum.inr b)=decide (a=b) :=by grind
def key_is i y:decide ((Sum.inl (some i):Key)=Sum.inr y)=false:=AM nofun
def key_in i:decide ((Sum.inl (some i):Key)=Sum.inl none)=false:=AM nofun
def key_si x j:decide ((Sum.inr x:Key)=Sum.inl (some j))=false:=AM nofun
def key_sn x:decide ((Sum.inr x:Key)=Sum.inl none)=false:=AM nofun
def key_ni j:decide ((Sum.inl none:Key)=Sum.inl (some j))=false:=AM nofun
def key_ns y:decide ((Sum.inl none:Key)=Sum.inr y)=false:=AM nofun
def Vf(h:Q 4238894112 { s with toks:=s.toks+1 }):wpAny (model prog w) A (pyHash .none) Q E s:=by
 apply AA
 apply AC
 have ty:s.TypeIs .none "NoneType":=rfl
 refine AA (BX ty B3.lookup (AA (BX ty B3.lookup (AA (DY ty B3
  (Aw B3 ty PySem.F.entry_NoneType_hash
   (wpAny_ret_mkInt ?_) (PySem.F.args_NoneType_hash_1 _)))))))
 exact AC h
def Y6(h:Q true s):wpAny (model prog w) A (eqBool .none .none) Q E s :=Az (wpAny_ite_split (fun _=>AA (Cb (AC h))) (fun g=>absurd rfl g))
def sX prog w:PySem.KeyKind prog w Key where
 is:=dO
 hash:=keyH w
 inj:=fun v a b B D=>by
  rcases rJ B with ⟨i,t,rfl,rfl⟩ | ⟨x,t,rfl,rfl⟩ | ⟨rfl,rfl⟩<;>rcases rJ D with ⟨j,u,rfl,e⟩ | ⟨y,u,rfl,e⟩ | ⟨rfl,e⟩<;>cases e<;>rfl
 byValue:=fun k v h=>by
  rcases rJ h with ⟨i,t,rfl,rfl⟩ | ⟨x,t,rfl,rfl⟩ | ⟨rfl,rfl⟩<;>rfl
 pyHash:=fun g h=>by
  rcases rJ g with ⟨i,t,rfl,rfl⟩ | ⟨x,t,rfl,rfl⟩ | ⟨rfl,rfl⟩
  .exact wpAny_pyHash_int h
  .exact wpAny_pyHash_str h
  .exact Vf h
 eqBool:=fun I g h=>by
  rcases rJ I with ⟨i,t,rfl,rfl⟩ | ⟨x,t,rfl,rfl⟩ | ⟨rfl,rfl⟩<;>rcases rJ g with ⟨j,u,rfl,rfl⟩ | ⟨y,u,rfl,rfl⟩ | ⟨rfl,rfl⟩
  .rw [key_ii] at h;exact wpAny_eqBool_int h
  .rw [key_is] at h;exact SeqAt.EqAt.int_str i t y u _ _ _ _ h
  .rw [key_in] at h;exact SeqAt.EqAt.int_none i t _ _ _ _ h
  .rw [key_si] at h;exact SeqAt.EqAt.str_int x t j u _ _ _ _ h
  .rw [key_ss] at h;exact wpAny_eqBool_str h
  .rw [key_sn] at h;exact SeqAt.EqAt.str_none x t _ _ _ _ h
  .rw [key_ni] at h;exact SeqAt.EqAt.none_int j u _ _ _ _ h
  .rw [key_ns] at h;exact SeqAt.EqAt.none_str y u _ _ _ _ h
  .rw [Ad (rfl:(Sum.inl none:Key)=Sum.inl none)] at h;exact Y6 h
 «strs»:=fun k x t v h=>by
  rcases rJ h with ⟨i,u,rfl,e⟩ | ⟨y,u,rfl,e⟩ | ⟨rfl,e⟩
  .exact nomatch e
  .injection e with q _
   subst q;cases v<;>rfl
  .exact nomatch e
def QZ prog w i t:(sX prog w).is (.inl (some i)) (.int i t)=true:=Vb i t
def cA prog w:(sX prog w).is (.inl none) .none=true:=rfl
def QY prog w x t:(sX prog w).is (.inr x) (.str x t)=true:=Va x t
inductive V where
 |non | bl (b:Bool) | int (i:Int) | str (x:Str) | byt (b:Array UInt8) | flt (b:UInt64) | ref (a:Addr) | ty (n:String)
 deriving DecidableEq
def RelV:V->Value->Prop
 |.non,u=>u=Value.none
 |.bl b,u=>u=Value.bool b
 |.int i,u=>∃t,u=Value.int i t
 |.str x,u=>∃t,u=Value.str x t
 |.byt b,u=>∃t,u=Value.bytes b t
 |.flt b,u=>∃t,u=Value.float b t
 |.ref a,u=>u=Value.ref a
 |.ty n,u=>u=Value.type n
abbrev Vals:List V->List Value->Prop:=Paired RelV
def Vals.length(r:Vals xs g):xs.length=g.length:=Paired.length r
theorem Vals.get:∀{xs}{g}{i:Nat}{x},Vals xs g->xs[i]?=some x->∃u,g[i]?=some u/\RelV x u
 |_,_,_,_,.nil,e=>by simp at e
 |_,_,0,_,.cons r _,e=>by simp at e;subst e;exact⟨_,rfl,r⟩
 |_,_,i+1,x,.cons _ t,e=>by
  obtain⟨u,h1,h2⟩:=(Vals.get t (by simpa using e));exact⟨u,by simpa using h1,h2⟩
theorem Vals.set(r:RelV x u):∀{xs}{g}i,Vals xs g->Vals (xs.set i x) (g.set i u)
 |_,_,_,.nil=>.nil
 |_,_,0,.cons _ t=>.cons r t
 |_,_,i+1,.cons q t=>.cons q (Vals.set r i t)
theorem Vals.append:∀{xs ys}{g q},Vals xs g->Vals ys q->Vals (xs++ys) (g++q)
 |_,_,_,_,.nil,s=>s
 |_,_,_,_,.cons r t,s=>.cons r (Vals.append t s)
theorem Vals.take:∀{xs}{g}n,Vals xs g->Vals (xs.take n) (g.take n)
 |_,_,0,_=>.nil
 |_,_,_+1,.nil=>.nil
 |_,_,n+1,.cons r t=>.cons r (Vals.take n t)
theorem Vals.drop:∀{xs}{g}n,Vals xs g->Vals (xs.drop n) (g.drop n)
 |_,_,0,r=>r
 |_,_,_+1,.nil=>.nil
 |_,_,n+1,.cons _ t=>Vals.drop n t
def RelO:Option V->Option Value->Prop
 |some v,some u=>RelV v u
 |none,none=>True
 |_,_=>False
def KV: List (κ×V)->List (κ×Value)->Prop:=Paired fun(p:κ×V)(q:κ×Value)=>p.1=q.1/\RelV p.2 q.2
def kV:Key->V
 |.inl none=>.non
 |.inl (some i)=>.int i
 |.inr x=>.str x
inductive HO where
 |lst (xs:List V)
 |tup (xs:List V)
 |dK (kvs:List (Key×V)) | dT (kvs:List (List Key×V)) | dP (kvs:List (List (List Key)×V))
 |set (S:Int->Bool) (n:Nat)
 |ins (C dx:Addr) (fs:List (Str×V))
 |own (x:Addr)
 |xd (fs:List (Str×V))
 |met (f x:Addr)
 |rng (lo hi:Int)
 |frz (o:Obj) (u:HO)
 |tbl (ps:Array Value)
 |ext (φ:Heap->Prop)
abbrev Hp:=Addr->Option HO
def upd(H:Hp)(a:Addr)(o:HO):Hp:=fun b=>if b=a then some o else H b
theorem fQ: upd H a o a=some o :=by grind[upd]
def dQ(h:b≠a):upd H a o b=H b :=by grind[upd]
def ne_of{H:Hp}(h:H a=some o)(h':H b=some u)(d:o≠u):a≠b :=by grind
def kK{H:Hp}(h:H a=some o)(h':H b=none):a≠b :=by grind
def IsTupN(h:Heap)(a:Addr)(items:Array Value):Prop:=∃o,h.get? a=some o/\o.cls=.type "tuple"/\(∃n,o.data=.seq items n)/\o.dict=none
def IsTupN.is(x:IsTupN h a items):IsTup h a items:=let ⟨o,e,c,d,_⟩:=x;⟨o,e,c,d⟩
def IsTupN.new(h:Heap)items:IsTupN (h.push { cls:=.type "tuple",data:=.seq items }) h.objs.size items:=⟨_,AK _ rfl,rfl,⟨_,rfl⟩,rfl⟩
def PKey(H:Hp)(g:List (List Key))(b:Addr):Prop:=∃bs:List Addr,H b=some (.tup (bs.map V.ref))/\Paired (fun(ks:List Key)(c:Addr)=>H c=some (.tup (ks.map kV))) g bs
section
variable (P:Program)(w:World)
def ObjOk(H:Hp)(h:Heap)(a:Addr):HO->Prop
 |.lst xs=>xs.length<=sizeLine/\∃(g:List Value)(n:Nat),Vals xs g/\h.get? a=some { cls:=.type "list",data:=.seq g.toArray n }
 |.tup xs=>xs.length<=sizeLine/\∃g:List Value,Vals xs g/\IsTupN h a g.toArray
 |.dK kvs=>kvs.length<=sizeLine/\(a==sysModules)=false/\∃vs,KV kvs vs/\h.DictOf (sX P w) a vs
 |.dT kvs=>kvs.length<=sizeLine/\(a==sysModules)=false/\∃xs:List (List Key×Addr×Value),
   Paired (fun(p:List Key×V)(q:List Key×Addr×Value)=>p.1=q.1/\H q.2.1=some (.tup (p.1.map kV))/\RelV p.2 q.2.2) kvs xs /\
   ∃o es ep,h.get? a=some o/\o.ExactDict/\o.data=.dict es ep/\es.toList=xs.map (entryOfKey (tupleKind (sX P w)))/\(xs.map (·.1)).Nodup
 |.dP kvs=>kvs.length<=sizeLine/\(a==sysModules)=false/\∃xs:List (List (List Key)×Addr×Value),
   Paired (fun(p:List (List Key)×V)(q:List (List Key)×Addr×Value)=>p.1=q.1/\PKey H p.1 q.2.1/\RelV p.2 q.2.2) kvs xs /\
   ∃o es ep,h.get? a=some o/\o.ExactDict/\o.data=.dict es ep/\es.toList=xs.map (entryOfKey (WS (sX P w)))/\(xs.map (·.1)).Nodup
 |.set S n=>h.SetOf (intKind P w) a S n
 |.ins C dx fs=>H dx=some (.own a)/\fs.length<=1000/\dx≠a/\h.get? a=some (PySem.W.instObj C dx) /\
   ∃mA,h.Ns1 dx mA/\(∀f,RelO (fs.lookup f) (mA f))/\PySem.Within mA (fs.map (·.1))
 |.own _=>∃o,h.get? a=some o
 |.xd fs=>∃mA,h.Ns1 a mA/\∀f,RelO (fs.lookup f) (mA f)
 |.rng lo hi=>∃t u v,h.get? a=some { cls:=.type "range",data:=.fields #[.int lo t,.int hi u,.int 1 v] }
 |.frz o u=>h.get? a=some o/\ObjOk H h a u
 |.tbl ps=>h.get? a=some { cls:=.none,data:=.fields ps }
 |.met f x=>h.get? a=some (PySem.W.methodObj (.ref f) (.ref x))
 |.ext B=>B h/\(∃o,h.get? a=some o)/\∀h1 h2:Heap,B h1->(∀o,h1.get? a=some o->h2.get? a=some o)->B h2
def HOk(H:Hp)(h:Heap):Prop:=∀a o,H a=some o->ObjOk P w H h a o
end
section
variable {P:Program}{w:World}{H H':Hp}{h h':Heap}{a:Addr}{o:HO}
def ObjOk.lt(x:ObjOk P w H h a o):a < h.objs.size:=by
 cases o with
 |lst xs=>obtain⟨_,_,_,_,e⟩:=x;exact AG e
 |tup xs=>obtain⟨_,_,_,o,e,_⟩:=x;exact AG e
 |dK kvs=>obtain⟨_,_,_,_,o,_,_,e,_⟩:=x;exact AG e
 |dT kvs=>obtain⟨_,_,_,_,o,_,_,e,_⟩:=x;exact AG e
 |dP kvs=>obtain⟨_,_,_,_,o,_,_,e,_⟩:=x;exact AG e
 |set S n=>exact el42 x fun o _ _ _ e _=>AG e
 |ins C dx fs=>exact qT x fun _ _ _ e _=>AG e
 |own y=>obtain⟨_,e⟩:=x;exact AG e
 |xd fs=>obtain⟨_,⟨_,_,_,e,_⟩,_⟩:=x;exact AG e
 |rng lo hi=>exact el31 x fun _ _ _ e=>AG e
 |frz g u=>obtain⟨e,_⟩:=x;exact AG e
 |tbl ps=>exact AG x
 |met f y=>exact AG x
 |ext q=>obtain⟨_,⟨_,e⟩,_⟩:=x;exact AG e
theorem Paired.mapP: ∀{g}{q},Paired F g q->(∀a b,F a b->G a b)->Paired G g q
 |_,_,.nil,_=>.nil
 |_,_,.cons r t,f=>.cons (f _ _ r) (Paired.mapP t f)
def PKey.mono(x:PKey H q b)(g:∀b xs,H b=some (.tup xs)->H' b=some (.tup xs)):PKey H' q b :=
 let ⟨bs,e,r⟩:=x;⟨bs,g _ _ e,Paired.mapP r fun _ _ z=>g _ _ z⟩
def ObjOk.stay(x:ObjOk P w H h a o)(k:∀b u,(b=a\/H b=some (.own a))->h.get? b=some u->h'.get? b=some u)(O:∀b,H b=some (.own a)->H' b=some (.own a))(I:∀b xs,H b=some (.tup xs)->H' b=some (.tup xs)):ObjOk P w H' h' a o:=by
 induction o with
 |lst xs=>obtain⟨z,B,n,r,e⟩:=x;exact⟨z,B,n,r,k _ _ (.inl rfl) e⟩
 |tup xs=>obtain⟨z,B,r,g,e,c⟩:=x;exact⟨z,B,r,g,k _ _ (.inl rfl) e,c⟩
 |dK kvs=>obtain⟨z,y,vs,r,g,es,ep,e,c⟩:=x;exact⟨z,y,vs,r,g,es,ep,k _ _ (.inl rfl) e,c⟩
 |dT kvs =>
  obtain⟨z,y,xs,r,g,es,ep,e,c⟩:=x;exact⟨z,y,xs,Paired.mapP r fun p q z=>⟨z.1,I _ _ z.2.1,z.2.2⟩,g,es,ep,k _ _ (.inl rfl) e,c⟩
 |dP kvs =>
  obtain⟨z,y,xs,r,g,es,ep,e,c⟩:=x;exact⟨z,y,xs,Paired.mapP r fun p q z=>⟨z.1,z.2.1.mono I,z.2.2⟩,g,es,ep,k _ _ (.inl rfl) e,c⟩
 |set S n=>exact el42 x fun g es ep t e c=>⟨g,es,ep,t,k _ _ (.inl rfl) e,c⟩
 |ins C dx fs =>
  obtain⟨d,z,Y,e,mA,⟨D,es,ep,J,c⟩,r⟩:=x;exact⟨O _ d,z,Y,k _ _ (.inl rfl) e,mA,⟨D,es,ep,k _ _ (.inr d) J,c⟩,r⟩
 |own y=>obtain⟨g,e⟩:=x;exact⟨g,k _ _ (.inl rfl) e⟩
 |xd fs=>obtain⟨mA,⟨D,es,ep,e,c⟩,r⟩:=x;exact⟨mA,⟨D,es,ep,k _ _ (.inl rfl) e,c⟩,r⟩
 |rng lo hi=>exact el31 x fun t u v e=>⟨t,u,v,k _ _ (.inl rfl) e⟩
 |frz g u U=>obtain⟨e,q⟩:=x;exact⟨k _ _ (.inl rfl) e,U q⟩
 |tbl ps =>
  have e:=x;exact k a _ (.inl rfl) e
 |met f y =>
  have e:=x;exact k a _ (.inl rfl) e
 |ext Z=>obtain⟨p,⟨o,e⟩,st⟩:=x;exact⟨st _ _ p fun o q=>k _ _ (.inl rfl) q,⟨o,k _ _ (.inl rfl) e⟩,st⟩
def HOk.lt(x:HOk P w H h)(e:H a=some o):a < h.objs.size:=(x a o e).lt
def HOk.fresh(x:HOk P w H h)(e:h.objs.size<=a):H a=none:=by
 cases q:H a with
 |none=>rfl
 |some u=>exact absurd (AQ (x.lt q) e) (A9 _)
def HOk.kept(x:HOk P w H h)(k:∀b u,h.get? b=some u->h'.get? b=some u):HOk P w H h':=fun a o e=>
 (x a o e).stay (fun b u _ q=>k b u q) (fun _ q=>q) fun _ _ q=>q
def HOk.laid(x:HOk P w H h)(k:∀b u,h.get? b=some u->h'.get? b=some u)(D:h.objs.size<=a)(I:ObjOk P w (upd H a o) h' a o):HOk P w (upd H a o) h':=fun b u e=>by
 have B:=x.fresh D
 by_cases g:b=a
 .subst g;rw[fQ] at e;cases e;exact I
 .rw [dQ g] at e
  exact(x b u e).stay (fun c v _ q=>k c v q) (fun c q=>by rwa [dQ (kK q B)]) fun c xs q=>by rwa [dQ (kK q B)]
end
def Rd(H:Hp)(a:Addr)(u:HO):Prop:=H a=some u\/∃o,H a=some (.frz o u)
theorem Rd.ok(r:Rd H a u)(x:HOk P w H h):ObjOk P w H h a u:=by
 rcases r with r | ⟨o,r⟩
 .exact x a u r
 .obtain ⟨_,q⟩:=x a _ r
  exact q
def Mut:Option HO->Prop
 |some (.lst _)=>True
 |some (.dK _)=>True
 |some (.dT _)=>True
 |some (.dP _)=>True
 |some (.set _ _)=>True
 |some (.ins _ _ _)=>True
 |some (.ext _)=>True
 |_=>False
section
variable {P:Program}{w:World}{H:Hp}{h h':Heap}{x e:Addr}{o':HO}
def HOk.write(Z:HOk P w H h)(I:Mut (H x))(ab:e=x\/H e=some (.own x))(k:∀b u,b≠e->h.get? b=some u->h'.get? b=some u)(O:∃u,h'.get? e=some u)(S:ObjOk P w (upd H x o') h' x o'):HOk P w (upd H x o') h':=fun b u q=>by
 have U:∀c y,H c=some (.own y)->c≠x:=fun c y r z=>by subst z;rwa [r] at I
 have Y:∀c xs,H c=some (.tup xs)->c≠x:=fun c xs r z=>by subst z;rwa [r] at I
 by_cases g:b=x
 .subst g;rw[fQ] at q;cases q;exact S
 .rw [dQ g] at q
  by_cases B:b=e
  .have J:H b=some (.own x) :=by lia
   rw[q] at J;cases J
   obtain⟨v,hv⟩:=O;exact⟨v,by rwa [B]⟩
  .refine (Z b u q).stay (fun c v D r=>k c v ?_ r) (fun c r=>by rwa [dQ (U c b r)]) fun c xs r=>(dQ (Y c xs r))▸r
   rcases D with rfl | D
   .exact B
   .grind
end
structure Un(fs ex:List Addr)(H H':Hp)(h h':Heap):Prop where
 keep:∀b o,h.get? b=some o->H b=none->b∉fs->b∉ex->h'.get? b=some o
 slot:∀b o,h.get? b=some o->H b=none->b∈fs->b∉ex->∃sl,h'.get? b=some { o with slots:=sl }
 free:∀b o,h.get? b=some o->H b=none->b∉ex->H' b=none
 there:∀b o,h.get? b=some o->b∉ex->∃o',h'.get? b=some o'
 tups:∀b xs,H b=some (.tup xs)->H' b=some (.tup xs)
 frzs:∀b o u,H b=some (.frz o u)->H' b=some (.frz o u)
 tbls:∀b ps,H b=some (.tbl ps)->∃more,H' b=some (.tbl (ps++more))
section
variable {fs fs' ex ex':List Addr}{H H1 H2:Hp}{h h1 h2 h':Heap}{a x e:Addr}{o:HO}
def Un.any(u:Un fs ex H H1 h h1)(q:h.get? b=some g)(n:H b=none)(D:b∉ex):∃I,h1.get? b=some { g with slots:=I }:=by
 by_cases B:b∈fs
 .exact u.slot b g q n B D
 .exact ⟨g.slots,u.keep b g q n B D⟩
def Un.kept(k:∀b u,h.get? b=some u->h'.get? b=some u):Un fs ex H H h h' :=
 ⟨fun b g q _ _ _=>k b g q,fun b g q _ _ _=>⟨g.slots,k b g q⟩,fun _ _ _ n _=>n,fun b g q _=>⟨g,k b g q⟩,fun _ _ q=>q,fun _ _ _ q=>q,fun _ ps q=>⟨#[],by rw[q];simp⟩⟩
def Un.refl:Un fs ex H H h h:=Un.kept fun _ _ q=>q
def Un.laid(k:∀b u,h.get? b=some u->h'.get? b=some u)(B:h.objs.size<=a)(g:H a=none):Un fs ex H (upd H a o) h h' where
 keep:=fun b u q _ _ _=>k b u q
 slot:=fun b u q _ _ _=>⟨u.slots,k b u q⟩
 free:=fun b u q n _=>by rwa [dQ (Ab (AQ (AG q) B))]
 there:=fun b u q _=>⟨u,k b u q⟩
 tups:=fun b xs q=>by rwa [dQ (kK q g)]
 frzs:=fun b u xs q=>by rwa [dQ (kK q g)]
 tbls:=fun b ps q=>⟨#[],by rw[dQ (kK q g),q];simp⟩
def Un.write(B:Mut (H x))(J:e=x\/H e=some (.own x))(k:∀b u,b≠e->h.get? b=some u->h'.get? b=some u)(U:∃u,h'.get? e=some u):Un fs ex H (upd H x o) h h':=by
 have I:∀b,H b=none->b≠x:=fun b n z=>by subst z;rwa [n] at B
 have D:∀b,H b=none->b≠e:=fun b n z=>by
  subst z
  rcases J with r | r
  .exact I b n r
  .lia
 have g:∀b u,H b=some u->¬ Mut (some u)->b≠x:=fun b u q O z=>by subst z;rw[q] at B;exact O B
 refine⟨fun b u q n _ _=>k b u (D b n) q,fun b u q n _ _=>⟨u.slots,k b u (D b n) q⟩,fun b u q n _=>by rw[dQ (I b n)];exact n,fun b u q _=>?_,
  fun b xs q=>by rw[dQ (g b _ q fun z=>z)];exact q,fun b u xs q=>by rw[dQ (g b _ q fun z=>z)];exact q,fun b ps q=>⟨#[],by rw[dQ (g b _ q fun z=>z),q];simp⟩⟩
 by_cases S:b=e
 .grind
 .grind
end
def trk(h:Heap)(H:Hp):List Addr:=(List.range h.objs.size).filter fun a=>(H a).isSome
def Xg(h:Heap)(H:Hp):Heap:=PySem.W.hideAll h (trk h H)
def Ve h H:(Xg h H).objs.size=h.objs.size:=PySem.W.hideAll_size _ _
def YL(e:h.get? b=some o)(n:H b=none):(Xg h H).get? b=some o :=
 PySem.W.hideAll_get _ e fun g=>by
  have q:=(List.mem_filter.mp g).2;rw[n] at q;simp at q
def of_hidT(e:(Xg h H).get? b=some o):h.get? b=some o/\H b=none:=by
 have g:=PySem.W.of_hideAll (trk h H) e;refine⟨g,?_⟩
 cases q:H b with
 |none=>rfl
 |some x =>
  have z:(Xg h H).get? b=none:=PySem.W.hideAll_none (trk h H) (List.mem_filter.mpr ⟨BN.mpr (AG g),by simp[q]⟩);rw[z] at e;cases e
def allNews(g h:Heap)(L:Addr):List (Addr×Obj):=(List.range h.objs.size).filterMap fun a=>if a=L\/(g.get? a).isSome=true then none else (h.get? a).map fun o=>(a,o)
def rest(g h:Heap)(L d:Addr):List (Addr×Obj):=(allNews g h L).filter fun p=>decide (p.1≠d)
structure Mod(K:De)(mg:Str->Option Value)(base:Heap):Prop where
 kin:K.In base
 glob:base.Ns mainGlobals mg
 blt:∃mb,base.Ns builtinsNs mb/\∀x:Str,x ≠ "__name__"->mb x=bootBuiltins x
 nolimit:base.NoLimit
structure Cx where
 prog:Program
 w:World
 K:De
 mg:Str->Option Value
 base:Heap
 A:Around
 N:List Str
 s₀:Shared
 H₀:Hp
 env:Env
 outer:List Env
 stack:List Env
 ex:List Addr
 fn:Str->Bool
 calm:Bool
 pn:List (Addr×Obj)
 xe:Value->Shared->Prop
def frs(l:List Env):List Addr:=l.filterMap (·.frame)
abbrev Cx.fs(X:Cx):List Addr:=frs X.outer
def Vis(sc:Scope)(x:Str):Prop:=sc.names.lookup x=some .local\/sc.names.lookup x=some .cell\/sc.names.lookup x=some .free
def Loc(sc:Scope)(x:Str):Prop:=sc.names.lookup x=some .local\/sc.names.lookup x=some .cell
def Look(env:Env)(h:Heap)(m:Str->Option Value)(x:Str)(u:Value):Prop :=
 (env.kindOf x=some .local/\m x=some u)\/((env.kindOf x=some .cell\/env.kindOf x=some .free)/\∃c,env.cells.lookup x=some c/\h.IsCell c (some u))
structure Cx.Ok(X:Cx):Prop where
 mod:Mod X.K X.mg X.base
 kind:X.env.scope.kind=.function
 glob:X.env.globals=mainGlobals
 blt:X.env.builtins=builtinsNs
 above:X.s₀.heap.objs.size<=X.env.locals
 inj:∀x y c,X.env.cells.lookup x=some c->X.env.cells.lookup y=some c->x=y
 has:∀x,(X.env.kindOf x=some .cell\/X.env.kindOf x=some .free)->∃c,X.env.cells.lookup x=some c
 cab:∀x c,X.fn x=true->X.env.cells.lookup x=some c->X.s₀.heap.objs.size<=c
 hd:X.calm=true->X.A.handled=none
 frames:X.A.frames=some X.stack
 stk:X.stack=X.outer\/(X.stack=X.env::X.outer/\X.env.frame=some X.env.locals)
 exf:∀b∈X.ex,b≠X.env.locals/\∀x c,X.env.cells.lookup x=some c->c≠b
 bs:∀b o,X.base.get? b=some o->X.s₀.heap.get? b=some o/\X.H₀ b=none
 bsz:X.base.objs.size<=X.s₀.heap.objs.size
 noex:∀b o,X.base.get? b=some o->b∉X.ex
 exfs:∀b∈X.ex,b∉X.fs
 funs:X.s₀.heap.FunFrames X.base X.outer
 frf:∀b∈X.fs,X.H₀ b=none
structure Inv(X:Cx)(pins:List (Addr×Obj))(σ:List (Option V))(H:Hp)(s:Shared):Prop where
 ok:X.Ok
 os:s.os=X.s₀.os
 bare:AllBare s.gens
 base:Un X.fs X.ex X.H₀ H X.s₀.heap s.heap
 loc:∃m,s.heap.Ns X.env.locals m/\∀(i:Nat)(x:Str)(v:V),X.N[i]?=some x->σ[i]?=some (some v)->Vis X.env.scope x->∃u,RelV v u/\Look X.env s.heap m x u
 cell:∀x c,X.env.cells.lookup x=some c->∃v,s.heap.IsCell c v
 free:H X.env.locals=none
 freeC:∀x c,X.env.cells.lookup x=some c->H c=none
 pin:∀p∈X.pn++pins,s.heap.get? p.1=some p.2/\H p.1=none/\p.1≠X.env.locals/\p.1∉X.fs/\∀v,p.2.data≠.cell v
 hok:HOk X.prog X.w H s.heap
 len:σ.length=X.N.length
section
variable {X:Cx}{pins:List (Addr×Obj)}{σ:List (Option V)}{H H':Hp}{s:Shared}{h':Heap}
def Cx.Ok.nofr(q:X.Ok)(e:X.base.get? b=some o):b∉X.fs:=fun g=>by
 have:=(q.funs.mem g).1;rw[e] at this;cases this
def Inv.bs(I:Inv X pins σ H s):∀b o,X.base.get? b=some o->s.heap.get? b=some o/\H b=none:=fun b o e=>
 ⟨I.base.keep b o (I.ok.bs b o e).1 (I.ok.bs b o e).2 (I.ok.nofr e) (I.ok.noex b o e),I.base.free b o (I.ok.bs b o e).1 (I.ok.bs b o e).2 (I.ok.noex b o e)⟩
def Inv.bk(I:Inv X pins σ H s):∀b o,X.base.get? b=some o->s.heap.get? b=some o:=fun b o e=>(I.bs b o e).1
def Inv.mod(I:Inv X pins σ H s):Mod X.K X.mg X.base:=I.ok.mod
def Inv.kIn(I:Inv X pins σ H s):X.K.In s.heap:=I.ok.mod.kin.keeps I.bk
def Inv.lt(I:Inv X pins σ H s):X.env.locals < s.heap.objs.size:=let ⟨_,g,_⟩:=I.loc;g.lt
def Inv.sz(I:Inv X pins σ H s):X.s₀.heap.objs.size<=s.heap.objs.size:=AW I.ok.above (Bc I.lt)
def Inv.nofs(I:Inv X pins σ H s){a:Addr}(h:s.heap.objs.size<=a):a∉X.fs:=fun g=>by
 obtain⟨_,o,q,_⟩:=I.ok.funs.mem g;exact absurd (AQ (AG q) (AW I.sz h)) (A9 _)
def Inv.cne(I:Inv X pins σ H s):∀x c,X.env.cells.lookup x=some c->c≠X.env.locals:=fun x c e z=>by
 obtain⟨v,o,q,g⟩:=(I.cell x c e);obtain⟨m,⟨o',es,ep,D,B,_⟩,_⟩:=I.loc;rw[z,D] at q;cases q;rw[B] at g;cases g
def Inv.funs(I:Inv X pins σ H s):s.heap.FunFrames X.base X.outer:=by
 have D:∀l,(∀b∈frs l,b∈X.fs)->X.s₀.heap.FunFrames X.base l->s.heap.FunFrames X.base l:=by
  intro l
  induction l with
  |nil=>intro _ _;trivial
  |cons env r ih =>
   intro hs S;obtain⟨O,⟨L,o,B,U,Y,J⟩,Z⟩:=S;have g:=hs L (by delta frs;exact List.filterMap_cons▸B▸AF);obtain⟨sl,e⟩:=I.base.slot L o Y (I.ok.frf L g) g fun z=>I.ok.exfs L z g;exact⟨O,⟨L,_,B,U,e,J⟩,ih (fun b q=>hs b (by delta frs;exact List.filterMap_cons▸B▸AL _ q)) Z⟩
 exact D X.outer (fun _ q=>q) I.ok.funs
def Inv.stack(I:Inv X pins σ H s):s.heap.FunFrames X.base X.stack:=by
 rcases I.ok.stk with e | ⟨e,g⟩
 .exact e▸I.funs
 .rw [e]
  refine zX I.loc fun m q _=>.cons (by rw[I.ok.kind];decide) g q ?_ I.funs;exact Heap.get?_none_of_le (AW I.ok.bsz I.ok.above)
def Inv.stkSub(I:Inv X pins σ H s):∀b∈frs X.stack,b∈X.env.locals::X.fs:=fun b g=>by
 rcases I.ok.stk with e | ⟨e,q⟩
 .grind
 .rw [e] at g
  delta frs at g
  rwa [List.filterMap_cons,q] at g
def Inv.stkFree(I:Inv X pins σ H s):∀b∈frs X.stack,H b=none:=fun b g=>by
 rcases Ai.mp (I.stkSub b g) with e | g
 .exact e▸I.free
 .obtain ⟨_,o,q,_⟩:=I.ok.funs.mem g
  exact I.base.free b o q (I.ok.frf b g) fun z=>I.ok.exfs b z g
def Inv.step{ch:List Addr}(I:Inv X pins σ H s)(O:∀b∈ch,(b∈X.ex\/X.s₀.heap.objs.size<=b)/\b≠X.env.locals/\(∀x c,X.env.cells.lookup x=some c->c≠b)/\∀p∈X.pn++pins,p.1≠b)(ab:∀b o,b≠X.env.locals->b∉X.fs->b∉ch->s.heap.get? b=some o->H b=none->h'.get? b=some o)(ah:∀b o,b≠X.env.locals->b∈X.fs->b∉ch->s.heap.get? b=some o->H b=none->∃sl,h'.get? b=some { o with slots:=sl })(U:∀b o,b∉ch->s.heap.get? b=some o->H b=none->H' b=none)(au:∀b o,b∉ch->s.heap.get? b=some o->∃o',h'.get? b=some o')(av:∀b xs,H b=some (.tup xs)->H' b=some (.tup xs))(ai:∀b o u,H b=some (.frz o u)->H' b=some (.frz o u))(ar:∀b ps,H b=some (.tbl ps)->∃ak,H' b=some (.tbl (ps++ak)))(ns:∀m,s.heap.Ns X.env.locals m->h'.Ns X.env.locals m)(aj:HOk X.prog X.w H' h')(hg:AllBare g'):
  Inv X pins σ H' { s with heap:=h',gens:=g',drawn:=d',toks:=t' }:=by
 have ag:∀b o,X.s₀.heap.get? b=some o->b≠X.env.locals:=fun b o e=>Ab (AQ (AG e) I.ok.above)
 have Y:∀b o,X.s₀.heap.get? b=some o->b∉X.ex->b∉ch:=fun b o e g B=>by
  rcases(O b B).1 with z | z
  .exact g z
  .exact absurd (AQ (AG e) z) (A9 _)
 have ae:∀x c,X.env.cells.lookup x=some c->∀v,s.heap.IsCell c v->h'.IsCell c v:=fun x c e v zz=>zX zz fun o D Z=> by
  have S:c∉ch:=fun z=>(O c z).2.2.1 x c e rfl
  by_cases hc:c∈X.fs
  .obtain ⟨sl,ao⟩:=ah c o (I.cne x c e) hc S D (I.freeC x c e)
   exact⟨_,ao,Z⟩
  .exact ⟨o,ab c o (I.cne x c e) hc S D (I.freeC x c e),Z⟩
 refine⟨I.ok,I.os,hg,⟨fun b o e n B g=>?_,fun b o e n B g=>?_,fun b o e n g=>?_,fun b o e g=>?_,fun b xs e=>av b xs (I.base.tups b xs e),fun b o xs e=>ai b o xs (I.base.frzs b o xs e),fun b ps e=>?_⟩,?_,fun x c e=>?_,?_,fun x c e=>?_,fun p hp=>?_,aj,I.len⟩
 .exact ab b o (ag b o e) B (Y b o e g) (I.base.keep b o e n B g) (I.base.free b o e n g)
 .obtain ⟨sl,q⟩:=I.base.slot b o e n B g
  obtain⟨aq,J⟩:=ah b _ (ag b o e) B (Y b o e g) q (I.base.free b o e n g);exact⟨aq,J⟩
 .obtain ⟨o',q⟩:=I.base.there b o e g
  exact U b o' (Y b o e g) q (I.base.free b o e n g)
 .obtain ⟨o',q⟩:=I.base.there b o e g
  exact au b o' (Y b o e g) q
 .obtain ⟨m1,q⟩:=I.base.tbls b ps e
  obtain⟨m2,J⟩:=ar b _ q;exact⟨m1++m2,by rw[J,Array.append_assoc]⟩
 .refine zX I.loc fun m hn hl=>⟨m,ns m hn,fun i x v q J e3=>zX (hl i x v q J e3) fun u r l=>⟨u,r,?_⟩⟩
  rcases l with l | ⟨k,c,e,z⟩
  .exact .inl l
  .exact .inr ⟨k,c,e,ae x c e _ z⟩
 .obtain ⟨v,z⟩:=I.cell x c e
  exact⟨v,ae x c e v z⟩
 .obtain ⟨m,⟨o,_,_,D,_⟩,_⟩:=I.loc
  exact U _ o (fun z=>(O _ z).2.1 rfl) D I.free
 .exact mG (I.cell x c e) fun v o D Z=>U c o (fun z=>(O c z).2.2.1 x c e rfl) D (I.freeC x c e)
 .refine qT (I.pin p hp) fun e n af nf d=>?_
  have S:p.1∉ch:=fun z=>(O p.1 z).2.2.2 p hp rfl;exact⟨ab p.1 p.2 af nf S e n,U p.1 p.2 S e n,af,nf,d⟩
def Inv.un(I:Inv X pins σ H s)(u:Un X.fs [] H H' s.heap h')(U:HOk X.prog X.w H' h'):Inv X pins σ H' { s with heap:=h',toks:=t' }:=by
 obtain⟨m,⟨o,es,ep,q,r⟩,_⟩:=id I.loc;obtain⟨sl,O⟩:=u.any q I.free (by simp)
 exact I.step (g':=s.gens) (d':=s.drawn) (ch:=[]) (fun _ z=>nomatch z) (fun b o _ g _ e n=>u.keep b o e n g (by simp)) (fun b o _ g _ e n=>u.slot b o e n g (by simp)) (fun b o _ e n=>u.free b o e n (by simp)) (fun b o _ e=>u.there b o e (by simp)) u.tups u.frzs u.tbls (fun Z S=>by
  obtain⟨o',J,D,B,Y⟩:=S;rw[q] at B;cases B
  exact⟨_,J,D,O,Y⟩) U I.bare
def Inv.call(I:Inv X pins σ H s)(u:Un (frs X.stack) ch H H' s.heap h')(ab:HOk X.prog X.w H' h')(Y:AllBare g')(B:∀b∈ch,(b∈X.ex\/X.s₀.heap.objs.size<=b)/\b≠X.env.locals/\(∀x c,X.env.cells.lookup x=some c->c≠b)/\∀p∈X.pn++pins,p.1≠b):
  Inv X pins σ H' { s with heap:=h',gens:=g',drawn:=d',toks:=t' }:=by
 obtain⟨m,⟨o,es,ep,D,r⟩,_⟩:=id I.loc;obtain⟨sl,q⟩:=u.any D I.free fun z=>(B _ z).2.1 rfl
 exact I.step B (fun b o q U g e n=>u.keep b o e n (fun z=>(Ai.mp (I.stkSub b z)).elim q U) g) (fun b o _ _ g e n=>u.any e n g) (fun b o g e n=>u.free b o e n g) (fun b o g e=>u.there b o e g) u.tups u.frzs u.tbls (fun m' Z=>by
  obtain⟨o',S,O,J,r'⟩:=Z;rw[D] at J;cases J
  exact⟨_,S,O,q,r'⟩) ab Y
def Inv.turned(I:Inv X pins σ H s)(k:∀b o,b≠it->s.heap.get? b=some o->h'.get? b=some o)(J:H it=none)(B:it≠X.env.locals)(h1:it∈X.ex\/X.s₀.heap.objs.size<=it)(h2:∀x c,X.env.cells.lookup x=some c->c≠it)(S:∀p∈X.pn++pins,p.1≠it):Inv X pins σ H { s with heap:=h',toks:=t' }:=by
 have Y:∀b u,H b=some u->b≠it:=fun b u e z=>by rw[z,J] at e;cases e
 refine I.step (g':=s.gens) (d':=s.drawn) (ch:=[it]) (fun b U=>?_) (fun b o _ _ g e _=>k b o (fun z=>g (by simp[z])) e) (fun b o _ _ g e _=>⟨o.slots,k b o (fun z=>g (by simp[z])) e⟩) (fun _ _ _ _ n=>n)
  (fun b o g e=>⟨o,k b o (fun z=>g (by simp[z])) e⟩) (fun _ _ e=>e) (fun _ _ _ e=>e) (fun b ps e=>⟨#[],by rw[e];simp⟩) (fun m D=>?_) (fun b u e=>?_) I.bare
 .grind
 .exact Ga D fun o es ep O r=>⟨o,es,ep,k _ o (Ne.symm B) O,r⟩
 .refine (I.hok b u e).stay (fun c v g q=>k c v ?_ q) (fun _ q=>q) fun _ _ q=>q
  rcases g with z | z
  .lia
  .lia
def Inv.tok(I:Inv X pins σ H s)t:Inv X pins σ H { s with toks:=t }:=I.un (h':=s.heap) (t':=t) Un.refl I.hok
def Inv.kept(I:Inv X pins σ H s)(k:∀b u,s.heap.get? b=some u->h'.get? b=some u):Inv X pins σ H { s with heap:=h',toks:=t' }:=I.un (Un.kept k) (I.hok.kept k)
def Inv.laid{a:Addr}(I:Inv X pins σ H s)(k:∀b u,s.heap.get? b=some u->h'.get? b=some u)(g:s.heap.objs.size<=a)(q:ObjOk X.prog X.w (upd H a o) h' a o):
  Inv X pins σ (upd H a o) { s with heap:=h',toks:=t' }:=I.un (Un.laid k g (I.hok.fresh g)) (I.hok.laid k g q)
def Inv.write(I:Inv X pins σ H s)(B:Mut (H x))(g:e=x\/H e=some (.own x))(k:∀b u,b≠e->s.heap.get? b=some u->h'.get? b=some u)(q:∃u,h'.get? e=some u)(D:ObjOk X.prog X.w (upd H x o) h' x o):Inv X pins σ (upd H x o) { s with heap:=h',toks:=t' }:=I.un (Un.write B g k q) (I.hok.write B g k q D)
def Inv.pins_of(I:Inv X pins σ H s)(h:∀p∈q,s.heap.get? p.1=some p.2/\H p.1=none/\p.1≠X.env.locals/\p.1∉X.fs/\∀v,p.2.data≠.cell v):Inv X q σ H s :=
 ⟨I.ok,I.os,I.bare,I.base,I.loc,I.cell,I.free,I.freeC,fun p g=>(AS.mp g).elim (fun z=>I.pin p (Ao _ z)) (h p),I.hok,I.len⟩
def QW{N:List Str}(B:N.Nodup){j:Nat}(a:N[i]?=some x)(b:N[j]?=some x):i=j:=by
 obtain⟨h1,g⟩:=Ap.mp a;obtain⟨h2,q⟩:=Ap.mp b;exact(List.getElem_inj B).mp (g.trans q.symm)
def mL(I:Inv X pins σ H s)(hN:X.N.Nodup)(hi:X.N[i]?=some x)(D:Loc X.env.scope x)(r:RelV v u)(h:∀s',Inv X pins (σ.set i (some v)) H s'->(∃a,Heap.SameBut a s.heap s'.heap/\(a=X.env.locals\/X.env.cells.lookup x=some a))->Q () s')(aq:X.fn x=true\/X.env.scope.names.lookup x=some .local:=by first | exact .inl rfl | exact .inr rfl | assumption):wpAny M A (storeName X.env x u) Q E s:=by
 refine zX (id I.loc) fun m hn hl=>?_;have ao:(X.env.scope.kind==.class || (X.env.scope.kind==.module&&X.env.locals != X.env.globals))=false:=by rw[I.ok.kind];rfl
 have ai:i < σ.length :=I.len▸(Ap.mp hi).1;have ab:=I.cne
 have ak:∀{a:Addr}{h':Heap},(∃o,s.heap.get? a=some o/\H a=none)->Heap.SameBut a s.heap h'->HOk X.prog X.w H h':=fun {a h'}ha hs b ob e=>by
  obtain⟨_,_,ah⟩:=ha;refine(I.hok b ob e).stay (fun c Z B q=>(hs.2 c ?_).trans q) (fun _ q=>q) fun _ _ q=>q;rintro rfl
  rcases B with rfl | B
  .rw [ah] at e;cases e
  .rw [ah] at B;cases B
 rcases D with O | O
 .refine wpAny_storeName_local O hn (fun h' ar hs=>Ga (id hn) fun oL _ _ au _=>h _ ⟨I.ok,I.os,I.bare,⟨fun b o e n S D=>?_,fun b o e n S D=>?_,I.base.free,fun b o e D=>?_,I.base.tups,I.base.frzs,I.base.tbls⟩,⟨_,ar,fun j y v' g J e3=>?_⟩,fun y c e=>?_,I.free,I.freeC,fun p hp=>?_,ak ⟨oL,au,I.free⟩ hs,by simpa using I.len⟩ ⟨_,hs,.inl rfl⟩) ao
  .exact (hs.2 b (Ab (AQ (AG e) I.ok.above))).trans (I.base.keep b o e n S D)
  .obtain ⟨sl,g⟩:=I.base.slot b o e n S D
   exact⟨sl,(hs.2 b (Ab (AQ (AG e) I.ok.above))).trans g⟩
  .obtain ⟨o',g⟩:=I.base.there b o e D
   exact⟨o',(hs.2 b (Ab (AQ (AG e) I.ok.above))).trans g⟩
  .by_cases hj:j=i
   .subst hj
    rw[hi] at g;cases g
    rw[List.getElem?_set_self ai] at J;cases J;exact⟨u,r,.inl ⟨O,by simp⟩⟩
   .rw [List.getElem?_set_ne (Ne.symm hj)] at J
    refine zX (hl j y v' g J e3) fun u' r' q=>⟨u',r',?_⟩
    rcases q with ⟨k,e⟩ | ⟨k,c,e,z⟩
    .refine .inl ⟨k,?_⟩
     have:y≠x:=fun e=>hj (QW hN g (e▸hi))
     simp[this,e]
    .exact .inr ⟨k,c,e,z.sameBut hs (ab y c e)⟩
  .obtain ⟨Z,z⟩:=I.cell y c e
   exact⟨Z,z.sameBut hs (ab y c e)⟩
  .exact qT (I.pin p hp) fun e n Y nf d=>⟨(hs.2 p.1 Y).trans e,n,Y,nf,d⟩
 .have ae:X.fn x=true:=by
   rcases aq with z | z
   .exact z
   .rw [z] at O;cases O
  obtain⟨c,B⟩:=I.ok.has x (.inl O);obtain⟨Z,z⟩:=I.cell x c B;refine wpAny_storeName_cell I.ok.kind O B z (fun h' af hs=>zX (id z) fun oc aj av=>h { s with heap:=h' } ⟨I.ok,I.os,I.bare,⟨fun b o e n S D=>?_,fun b o e n S D=>?_,I.base.free,fun b o e D=>?_,I.base.tups,I.base.frzs,I.base.tbls⟩,⟨m,hn.sameBut hs (Ne.symm (ab x c B)),fun j y v' g J e3=>?_⟩,fun y U e=>?_,I.free,I.freeC,fun p hp=>?_,ak ⟨oc,aj,I.freeC x c B⟩ hs,by simpa using I.len⟩ ⟨c,hs,.inr B⟩)
  .exact (hs.2 b (Ab (AQ (AG e) (I.ok.cab x c ae B)))).trans (I.base.keep b o e n S D)
  .obtain ⟨sl,g⟩:=I.base.slot b o e n S D
   exact⟨sl,(hs.2 b (Ab (AQ (AG e) (I.ok.cab x c ae B)))).trans g⟩
  .obtain ⟨o',g⟩:=I.base.there b o e D
   exact⟨o',(hs.2 b (Ab (AQ (AG e) (I.ok.cab x c ae B)))).trans g⟩
  .by_cases hj:j=i
   .subst hj
    rw[hi] at g;cases g
    rw[List.getElem?_set_self ai] at J;cases J;exact⟨u,r,.inr ⟨.inl O,c,B,af⟩⟩
   .rw [List.getElem?_set_ne (Ne.symm hj)] at J
    refine zX (hl j y v' g J e3) fun u' r' q=>⟨u',r',?_⟩
    rcases q with q | ⟨k,U,e,z'⟩
    .exact .inl q
    .refine .inr ⟨k,U,e,z'.sameBut hs ?_⟩
     rintro rfl;exact hj (QW hN g (I.ok.inj _ _ _ e B▸hi))
  .by_cases ag:U=c
   .subst ag;exact⟨_,af⟩
   .obtain ⟨w2,z2⟩:=I.cell y U e
    exact⟨w2,z2.sameBut hs ag⟩
  .refine qT (I.pin p hp) fun e n Y nf d=>⟨(hs.2 p.1 ?_).trans e,n,Y,nf,d⟩
   intro q;rw[q,aj] at e;exact d Z (by lia)
def QA(I:Inv X pins σ H s)(q:X.N.Nodup)(hi:X.N[i]?=some x)(D:Loc X.env.scope x)(r:RelV v u)(h:∀s',Inv X pins (σ.set i (some v)) H s'->Q () s')(B:X.fn x=true\/X.env.scope.names.lookup x=some .local:=by first | exact .inl rfl | exact .inr rfl | assumption):wpAny M A (storeName X.env x u) Q E s :=
 mL I q hi D r (fun s' g _=>h s' g) B
end
abbrev XK:=Value->Option Addr->Hp->Prop
abbrev St:=List (Option V)
abbrev VK:=V->Hp->Prop
abbrev TE:=St->Hp->VK->Prop
abbrev TT:=St->Hp->(Bool->Hp->Prop)->Prop
abbrev TA:=St->Hp->(List V->Hp->Prop)->Prop
structure GV where
 nx:St->Hp->Prop
 rt:VK
 bk:St->Hp->Prop:=fun _ _=>False
 ct:St->Hp->Prop:=fun _ _=>False
abbrev TS:=GV->St->Hp->Prop
def EP(X:Cx)(pins:List (Addr×Obj))(σ:St)(Q:VK)(u:Value)(s':Shared):Prop:=∃v H',Inv X pins σ H' s'/\RelV v u/\Q v H'
def TP(X:Cx)(pins:List (Addr×Obj))(σ:St)(Q:Bool->Hp->Prop)(b:Bool)(s':Shared):Prop:=∃H',Inv X pins σ H' s'/\Q b H'
def AP(X:Cx)(pins:List (Addr×Obj))(σ:St)(Q:List V->Hp->Prop)(g:List Value)(s':Shared):Prop:=∃vs H',Inv X pins σ H' s'/\Vals vs g/\Q vs H'
def SP(X:Cx)(pins:List (Addr×Obj))(D:GV)(f:Flow)(s':Shared):Prop :=
 match f with
 |.next=>∃g H',Inv X pins g H' s'/\D.nx g H'
 |.brk=>∃g H',Inv X pins g H' s'/\D.bk g H'
 |.cont=>∃g H',Inv X pins g H' s'/\D.ct g H'
 |.ret u=>∃v g H',Inv X pins g H' s'/\RelV v u/\D.rt v H'
def PE(X:Cx)(e:Expr)(t:TE):Prop :=
 ∀(pins:List (Addr×Obj))(s:Shared)(σ:St)(H:Hp)(Q:VK),Inv X pins σ H s->t σ H Q->wpAny (model X.prog X.w) X.A (eval e X.env) (EP X pins σ Q) X.xe s
def PT(X:Cx)(e:Expr)(t:TT):Prop :=
 ∀(pins:List (Addr×Obj))(s:Shared)(σ:St)(H:Hp)(Q:Bool->Hp->Prop),Inv X pins σ H s->t σ H Q->wpAny (model X.prog X.w) X.A (isTrue e X.env (eval e X.env)) (TP X pins σ Q) X.xe s
def PW(X:Cx)(e:Expr)(t:TT):Prop :=
 ∀(g:Sem Value)(pins:List (Addr×Obj))(s:Shared)(σ:St)(H:Hp)(Q:Bool->Hp->Prop),Inv X pins σ H s->t σ H Q->wpAny (model X.prog X.w) X.A (isTrue e X.env g) (TP X pins σ Q) X.xe s
theorem PW.pt(h:PW X e t):PT X e t:=h _
def PA(X:Cx)(es:List Expr)(t:TA):Prop :=
 ∀(pos:Pos)(pins:List (Addr×Obj))(s:Shared)(σ:St)(H:Hp)(Q:List V->Hp->Prop),Inv X pins σ H s->t σ H Q->wpAny (model X.prog X.w) X.A (spliced (backTo pos (starEach es X.env))) (AP X pins σ Q) X.xe s
def PS(X:Cx)(st:Stmt)(t:TS):Prop :=
 ∀(pins:List (Addr×Obj))(s:Shared)(σ:St)(H:Hp)(D:GV),Inv X pins σ H s->t D σ H->wpAny (model X.prog X.w) X.A (exec st X.env) (SP X pins D) X.xe s
def PSs(X:Cx)(st:List Stmt)(t:TS):Prop :=
 ∀(pins:List (Addr×Obj))(s:Shared)(σ:St)(H:Hp)(D:GV),Inv X pins σ H s->t D σ H->wpAny (model X.prog X.w) X.A (execs st X.env) (SP X pins D) X.xe s
theorem thn(h:wpAny M A t Q E s)(q:∀a s,Q a s->g a s):wpAny M A t g E s:=BM h q fun _ _ x=>x
section
variable {X:Cx}
def bin(J:PE X a ta)(O:PE X b tb){σ:St}{R:V->V->Hp->Prop}(I:Inv X pins σ H s)(h:ta σ H fun x H1=>tb σ H1 fun y H2=>R x y H2){f:Value->Value->Sem α}(S:∀v u g x y H2,Inv X pins σ H2 g->RelV x v->RelV y u->R x y H2->wpAny (model X.prog X.w) X.A (f v u) Q X.xe g):
  wpAny (model X.prog X.w) X.A (eval a X.env) (fun v ae=>wpAny (model X.prog X.w) X.A (eval b X.env) (fun u af=>wpAny (model X.prog X.w) X.A (f v u) Q X.xe af) X.xe ae) X.xe s :=thn (J pins s σ H _ I h) fun v ab q=>uZ q fun x H1 B Z U=> thn (O pins ab σ H1 _ B U) fun u g q=>uZ q fun y H2 D r2 Y=> S v u g x y H2 D Z r2 Y
inductive IVar(i:Nat)(σ:St)(H:Hp)(Q:VK):Prop
 |mk(v:V)(h:σ[i]?=some (some v))(q:Q v H)
def tVar(i:Nat):TE:=fun σ H Q=>IVar i σ H Q
def tC(v:V):TE:=fun _ H Q=>Q v H
def WD{pos}(O:X.N[i]?=some x)(hv:Vis X.env.scope x)(B:(x==("__debug__" : Str))=false:=by decide)(S:(x==("__classdict__" : Str))=false:=by decide):PE X (.Name x pos) (tVar i):=by
 intro pins s σ H Q I h;obtain⟨v,e,h⟩:=h;refine zX I.loc fun m Z U=>zX (U i x v O e hv) fun u r l=>?_;have q:EP X pins σ Q u s:=⟨v,H,I,r,h⟩
 rcases l with ⟨g,Y⟩ | ⟨g,c,D,J⟩
 .exact wpAny_Name (wpAny_loadName_local I.ok.kind g Z Y q) B
 .rcases g with g | g
  .exact wpAny_Name (wpAny_loadName_cell I.ok.kind g D J q) B
  .exact wpAny_Name (wpAny_loadName_free I.ok.kind g D J q S) B
def pe_int{i j pos}:PE X (.Constant (.int i) j pos) (tC (.int i)):=fun _ _ _ H _ I h=>wpAny_Constant_int ⟨.int i,H,I.tok _,⟨_,rfl⟩,h⟩
def pe_bl{b j pos}:PE X (.Constant (.bool b) j pos) (tC (.bl b)):=fun _ _ _ H _ I h=>Constant_bool ⟨.bl b,H,I,rfl,h⟩
def pe_non{j pos}:PE X (.Constant .none j pos) (tC .non):=fun _ _ _ H _ I h=>Constant_none ⟨.non,H,I,rfl,h⟩
def pe_str{x j pos}:PE X (.Constant (.str x) j pos) (tC (.str x)):=fun _ _ _ H _ I h=>Calls.Constant_str ⟨.str x,H,I.tok _,⟨_,rfl⟩,h⟩
def Gl(X:Cx)(x:Str):Prop:=X.env.kindOf x=some .globalImplicit
def nA{σ:St}(I:Inv X pins σ H s)(q:Gl X x)(B:X.mg x=some u)(h:Q u s)(g:(x==("__debug__" : Str))=false:=by decide):wpAny (model X.prog X.w) X.A (eval (.Name x pos) X.env) Q E s :=
 Calls.Name_function_global I.ok.kind q (Calls.loadGlobal_global (I.ok.glob▸I.mod.glob.keeps I.bk) B h) g
def sA{E}{σ:St}{pos}(I:Inv X pins σ H s)(q:Gl X x)(B:X.mg x=none)(J:bootBuiltins x=some u)(h:Q u s)(D:x ≠ "__name__":=by decide)(g:(x==("__debug__" : Str))=false:=by decide):wpAny (model X.prog X.w) X.A (eval (.Name x pos) X.env) Q E s :=zX I.mod.blt fun O h1 h2=>Calls.Name_function_global I.ok.kind q (Calls.loadGlobal_builtin (I.ok.glob▸I.mod.glob.keeps I.bk) B (I.ok.blt▸h1.keeps I.bk) ((h2 x D).trans J) h) g
def pe_glob(q:Gl X x)(B:X.mg x=some u)(r:RelV v u)(g:(x==("__debug__" : Str))=false:=by decide):PE X (.Name x pos) (tC v) :=
 fun _ _ _ H _ I h=>nA I q B ⟨v,H,I,r,h⟩ g
def pe_bltn{pos}(q:Gl X x)(B:X.mg x=none)(J:bootBuiltins x=some u)(r:RelV v u)(D:x ≠ "__name__":=by decide)(g:(x==("__debug__" : Str))=false:=by decide):PE X (.Name x pos) (tC v) :=
 fun _ _ _ H _ I h=>sA I q B J ⟨v,H,I,r,h⟩ D g
variable {a b:Expr}{ta tb:TE}{pos:Pos}
inductive IBl(Q:Bool->Hp->Prop)(x:V)(H:Hp):Prop
 |mk(c:Bool)(h:x=.bl c)(q:Q c H)
def tB(t:TE):TT:=fun σ H Q=>t σ H (IBl Q)
def pt_val(h:PE X e t)(D:∀g,isTrue e X.env g=(do let v <- g;standAt e.pos;holding [v] (truthy v)):=by intro _;rfl):PT X e (tB t):=by
 intro pins s σ H Q I J;refine isTrue_plain (thn (h pins s σ H _ I J) fun v Y U=>uZ U fun x H1 B S O=> ?_) (D _);obtain⟨d,rfl,q⟩:=O;cases S;exact A8 ⟨H1,B,q⟩
variable {tA tB':TT}{rest:List Expr}
def tAnd(t u:TT):TT:=fun σ H Q=>t σ H fun c H1=>if c=true then u σ H1 Q else Q false H1
def tOr(t u:TT):TT:=fun σ H Q=>t σ H fun c H1=>if c=true then Q true H1 else u σ H1 Q
def tNot(t:TT):TT:=fun σ H Q=>t σ H fun c H1=>Q (!c) H1
def pw_and1(g:PT X a tA):PW X (.BoolOp .And [a] pos) tA:=by
 intro B pins s σ H Q I h;refine isTrue_and (thn (g pins s σ H Q I h) fun c q e=>?_)
 cases c with
 |true=>exact isTrue_and_nil e
 |false=>exact e
def pw_or1(g:PT X a tA):PW X (.BoolOp .Or [a] pos) tA:=by
 intro B pins s σ H Q I h;refine isTrue_or (thn (g pins s σ H Q I h) fun c q e=>?_)
 cases c with
 |false=>exact isTrue_or_nil e
 |true=>exact e
def pw_and(B:PT X a tA)(D:PW X (.BoolOp .And (b::rest) pos) tB'):PW X (.BoolOp .And (a::b::rest) pos) (tAnd tA tB'):=by
 intro O pins s σ H Q I h;refine isTrue_and (thn (B pins s σ H _ I h) fun c J S=>zX S fun H1 g q=> ?_)
 cases c with
 |true=>exact D O pins J σ H1 Q g q
 |false=>exact⟨H1,g,q⟩
def pw_or(B:PT X a tA)(D:PW X (.BoolOp .Or (b::rest) pos) tB'):PW X (.BoolOp .Or (a::b::rest) pos) (tOr tA tB'):=by
 intro O pins s σ H Q I h;refine isTrue_or (thn (B pins s σ H _ I h) fun c J S=>zX S fun H1 g q=> ?_)
 cases c with
 |true=>exact⟨H1,g,q⟩
 |false=>exact D O pins J σ H1 Q g q
def pt_not(g:PT X a tA):PT X (.UnaryOp .Not a pos) (tNot tA):=by
 intro pins s σ H Q I h;exact isTrue_not (g pins s σ H (fun c H1=>Q (!c) H1) I h)
def tAndV(ta tb:TE):TE:=fun σ H Q=>ta σ H fun x H1=>∃c,x=.bl c/\if c=true then tb σ H1 Q else Q (.bl false) H1
def tOrV(ta tb:TE):TE:=fun σ H Q=>ta σ H fun x H1=>∃c,x=.bl c/\if c=true then Q (.bl true) H1 else tb σ H1 Q
def tNotV(ta:TE):TE:=fun σ H Q=>ta σ H fun x H1=>∃c,x=.bl c/\Q (.bl (!c)) H1
def pe_one{op}(h:PE X a t):PE X (.BoolOp op [a] pos) t:=fun pins s σ H Q I g=>BoolOp_one (h pins s σ H Q I g)
def pe_and(B:PE X a ta)(D:PE X (.BoolOp .And (b::rest) pos) tb):PE X (.BoolOp .And (a::b::rest) pos) (tAndV ta tb):=by
 intro pins s σ H Q I h;refine BoolOp_and (thn (B pins s σ H _ I h) fun v O S=>uZ S fun x H1 q J g=> ?_);obtain⟨c,rfl,g⟩:=g;cases J
 apply A8
 cases c with
 |true=>exact D pins O σ H1 Q q g
 |false=>exact⟨.bl false,H1,q,rfl,g⟩
def pe_or(B:PE X a ta)(D:PE X (.BoolOp .Or (b::rest) pos) tb):PE X (.BoolOp .Or (a::b::rest) pos) (tOrV ta tb):=by
 intro pins s σ H Q I h;refine BoolOp_or (thn (B pins s σ H _ I h) fun v O S=>uZ S fun x H1 q J g=> ?_);obtain⟨c,rfl,g⟩:=g;cases J
 apply A8
 cases c with
 |false=>exact D pins O σ H1 Q q g
 |true=>exact⟨.bl true,H1,q,rfl,g⟩
def pe_not(B:PE X a ta):PE X (.UnaryOp .Not a pos) (tNotV ta):=by
 intro pins s σ H Q I h;refine UnaryOp_ (thn (B pins s σ H _ I h) fun v O J=>uZ J fun x H1 q D g=> ?_);obtain⟨c,rfl,g⟩:=g;cases D;exact not_of (A8 ⟨.bl (!c),H1,q,rfl,g⟩)
def tIf(t:TT)(ta tb:TE):TE:=fun σ H Q=>t σ H fun c H1=>if c=true then ta σ H1 Q else tb σ H1 Q
def WG(O:PT X c tA)(D:PE X a ta)(J:PE X b tb):PE X (.IfExp c a b pos) (tIf tA ta tb):=by
 intro pins s σ H Q I h;refine wpAny_IfExp (thn (O pins s σ H _ I h) fun d B S=>zX S fun H1 g q=> ?_)
 cases d with
 |true=>exact D pins B σ H1 Q g q
 |false=>exact J pins B σ H1 Q g q
end
def SqL(K:De)(H:Hp)(a:Addr)(xs:List V):Prop :=
 Rd H a (.lst xs) \/
  ∃(o:Obj)(g:Array Value)(n:Nat),K.lookup a=some o/\o.cls=.type "list"/\o.dict=none/\o.data=.seq g n/\g.size<=sizeLine/\Vals xs g.toList
def SqT(K:De)(H:Hp)(a:Addr)(xs:List V):Prop :=
 Rd H a (.tup xs) \/
  ∃(o:Obj)(g:Array Value)(n:Nat),K.lookup a=some o/\o.cls=.type "tuple"/\o.data=.seq g n/\g.size<=sizeLine/\Vals xs g.toList
def absV:Value->Option V
 |.none=>some .non
 |.bool b=>some (.bl b)
 |.int i _=>some (.int i)
 |.str x _=>some (.str x)
 |.bytes b _=>some (.byt b)
 |.float b _=>some (.flt b)
 |.ref a=>some (.ref a)
 |.type n=>some (.ty n)
 |_=>none
def RelV.abs(r:RelV x u):absV u=some x:=by
 cases x with
 |non=>cases r;rfl
 |bl _=>cases r;rfl
 |int _=>obtain⟨t,rfl⟩:=r;rfl
 |str _=>obtain⟨t,rfl⟩:=r;rfl
 |byt _=>obtain⟨t,rfl⟩:=r;rfl
 |flt _=>obtain⟨t,rfl⟩:=r;rfl
 |ref _=>cases r;rfl
 |ty _=>cases r;rfl
def RelV.inj(r:RelV x u)(q:RelV y u):x=y:=A7 (r.abs.symm.trans q.abs)
theorem Vals.inj:∀{xs ys}{g},Vals xs g->Vals ys g->xs=ys
 |_,_,_,.nil,.nil=>rfl
 |_,_,_,.cons r t,.cons q t'=>by rw[r.inj q,Vals.inj t t']
section
variable {X:Cx}{pins:List (Addr×Obj)}{σ:St}{H:Hp}{s:Shared}{a:Addr}{xs ys:List V}
def SqL.of{K}(h:H a=some (.lst xs)):SqL K H a xs:=.inl (.inl h)
def SqT.of{K}(h:H a=some (.tup xs)):SqT K H a xs:=.inl (.inl h)
def Inv.list(I:Inv X pins σ H s)(h:SqL X.K H a xs):∃g,Vals xs g/\PlainL s.heap a g.toArray/\xs.length<=sizeLine:=by
 rcases h with h | ⟨o,g,n,D,q,B,hs,J,r⟩
 .obtain ⟨z,g,n,r,e⟩:=h.ok I.hok
  exact⟨g,r,⟨_,n,e,rfl,rfl,rfl⟩,z⟩
 .refine ⟨g.toList,r,⟨o,n,I.kIn a o D,q,B,by simpa using hs⟩,?_⟩
  have e:=r.length
  simp only[Array.length_toList] at e
  lia
def Inv.tuple(I:Inv X pins σ H s)(h:SqT X.K H a xs):∃g,Vals xs g/\IsTup s.heap a g.toArray/\xs.length<=sizeLine:=by
 rcases h with h | ⟨o,g,n,B,q,hs,D,r⟩
 .obtain ⟨z,g,r,p⟩:=h.ok I.hok
  exact⟨g,r,IsTupN.is p,z⟩
 .refine ⟨g.toList,r,⟨o,I.kIn a o B,q,n,by simpa using hs⟩,?_⟩
  have e:=r.length
  simp only[Array.length_toList] at e
  lia
def Inv.list_inj(I:Inv X pins σ H s)(h:SqL X.K H a xs)(h':SqL X.K H a ys):xs=ys:=by
 obtain⟨q,r,⟨o,n,e,_,_,d⟩,_⟩:=I.list h;obtain⟨its',B,⟨o',D,g,_,_,d'⟩,_⟩:=I.list h';rw[e] at g;cases g
 rw[d] at d';injection d' with d1 _
 have:q=its' :=by lia
 subst this;exact r.inj B
def Inv.tuple_inj(I:Inv X pins σ H s)(h:SqT X.K H a xs)(h':SqT X.K H a ys):xs=ys:=by
 obtain⟨q,r,⟨o,e,_,n,d⟩,_⟩:=I.tuple h;obtain⟨its',B,⟨o',g,_,D,d'⟩,_⟩:=I.tuple h';rw[e] at g;cases g
 rw[d] at d';injection d' with d1 _
 have:q=its' :=by lia
 subst this;exact r.inj B
end
abbrev Cx.wish(X:Cx)(E:Value->Shared->Prop):Cx:={ X with xe:=E }
abbrev Cx.nox(X:Cx):Cx:=X.wish fun _ _=>False
def Cx.Ok.wish{X:Cx}(g:X.Ok)E:(X.wish E).Ok :=
 ⟨g.mod,g.kind,g.glob,g.blt,g.above,g.inj,g.has,g.cab,g.hd,g.frames,g.stk,g.exf,g.bs,g.bsz,g.noex,g.exfs,g.funs,g.frf⟩
def Cx.Ok.unwish{X:Cx}(g:(X.wish E).Ok):X.Ok :=
 ⟨g.mod,g.kind,g.glob,g.blt,g.above,g.inj,g.has,g.cab,g.hd,g.frames,g.stk,g.exf,g.bs,g.bsz,g.noex,g.exfs,g.funs,g.frf⟩
section
variable {X:Cx}{pins:List (Addr×Obj)}{σ:St}{H:Hp}{s:Shared}{E:Value->Shared->Prop}
def Inv.wish(I:Inv X pins σ H s)E:Inv (X.wish E) pins σ H s:=⟨I.ok.wish E,I.os,I.bare,I.base,I.loc,I.cell,I.free,I.freeC,I.pin,I.hok,I.len⟩
def Inv.unwish(I:Inv (X.wish E) pins σ H s):Inv X pins σ H s:=⟨I.ok.unwish,I.os,I.bare,I.base,I.loc,I.cell,I.free,I.freeC,I.pin,I.hok,I.len⟩
def SP.unwish(h:SP (X.wish E) pins D f s'):SP X pins D f s':=by
 cases f with
 |next=>obtain⟨g,H',I,q⟩:=h;exact⟨g,H',I.unwish,q⟩
 |brk=>obtain⟨g,H',I,q⟩:=h;exact⟨g,H',I.unwish,q⟩
 |cont=>obtain⟨g,H',I,q⟩:=h;exact⟨g,H',I.unwish,q⟩
 |ret u=>exact iS h fun v g H' I r q=>⟨v,g,H',I.unwish,r,q⟩
def PSs.nox{st}(h:PSs X.nox st t):PSs X st t:=fun pins s σ H D I g=>
 BM (h pins s σ H D (I.wish _) g) (fun _ _ q=>q.unwish) fun _ _ z=>False.elim z
end
section
variable {X:Cx}{st:Stmt}{rest:List Stmt}{t u:TS}{e:Expr}{te:TE}{pos:Pos}
def tNext:TS:=fun D σ H=>D.nx σ H
def tSeq(t u:TS):TS:=fun D σ H=>t { D with nx:=u D } σ H
def pss_nil:PSs X [] tNext:=fun _ _ σ H _ I h=>DS ⟨σ,H,I,h⟩
def Ww(h1:PS X st t)(h2:PSs X rest u):PSs X (st::rest) (tSeq t u):=by
 intro pins s σ H D I h;refine wpAny_execs_cons (thn (h1 pins s σ H { D with nx:=u D } I h) fun f B q=>?_)
 cases f with
 |next =>
  exact mG q fun J H' g q=>h2 pins B J H' D g q
 |ret v=>exact q
 |brk=>exact q
 |cont=>exact q
def pss_one(h1:PS X st t):PSs X [st] t:=by
 intro pins s σ H D I h;refine wpAny_execs_cons (thn (h1 pins s σ H D I h) fun f g q=>?_)
 cases f with
 |next=>exact DS q
 |ret v=>exact q
 |brk=>exact q
 |cont=>exact q
def Inv.quiet{σ:St}(I:Inv X pins σ H s):interactive X.env=false :=by simp[interactive,I.ok.kind]
def tDrop(te:TE):TS:=fun D σ H=>te σ H fun _ H1=>D.nx σ H1
def ps_expr(q:PE X e te)(hs:swapsWith e none pos.line X.env=pure false:=by rfl):PS X (.Expr e pos) (tDrop te):=by
 intro pins s σ H D I h;exact wpAny_Expr_any (thn (q pins s σ H _ I h) fun v S J=>uZ J fun x H1 g O B=> ⟨σ,H1,g,B⟩) I.quiet hs
def tRet(te:TE):TS:=fun D σ H=>te σ H D.rt
def ps_ret(q:PE X e te):PS X (.Return (some e) pos) (tRet te):=by
 intro pins s σ H D I h;exact wpAny_Return_some (thn (q pins s σ H _ I h) fun v S O=>uZ O fun x H1 g J B=> ⟨x,σ,H1,g,J,B⟩)
def tIfS(c:TT)(t u:TS):TS:=fun D σ H=>c σ H fun b H1=>if b=true then t D σ H1 else u D σ H1
def ps_if(S:PT X c tc)(J:PSs X a t)(O:PSs X b u):PS X (.If c a b pos) (tIfS tc t u):=by
 intro pins s σ H D I h;refine wpAny_If (thn (S pins s σ H _ I h) fun d B U=>zX U fun H1 g q=> ?_)
 cases d with
 |true=>exact J pins B σ H1 D g q
 |false=>exact O pins B σ H1 D g q
end
abbrev TG:=V->St->Hp->(St->Hp->Prop)->Prop
abbrev TGs:=List V->St->Hp->(St->Hp->Prop)->Prop
def PG(X:Cx)(q:Expr)(t:TG):Prop :=
 ∀(pins:List (Addr×Obj))(s:Shared)(σ:St)(H:Hp)(v:V)(u:Value)(Q:St->Hp->Prop),Inv X pins σ H s->RelV v u->t v σ H Q ->
  wpAny (model X.prog X.w) X.A (assign q X.env u) (fun _ s'=>∃g H',Inv X pins g H' s'/\Q g H') X.xe s
def PGs(X:Cx)(ts:List Expr)(t:TGs):Prop :=
 ∀(pins:List (Addr×Obj))(s:Shared)(σ:St)(H:Hp)(vs:List V)(g:List Value)(Q:St->Hp->Prop),Inv X pins σ H s->Vals vs g->t vs σ H Q ->
  wpAny (model X.prog X.w) X.A (assignInOrder ((assignEach ts X.env).map (·.2)) g) (fun _ s'=>∃q H',Inv X pins q H' s'/\Q q H') X.xe s
abbrev TSet:=V->V->V->Hp->(Hp->Prop)->Prop
def PSet(X:Cx)(t:TSet):Prop :=
 ∀(pins:List (Addr×Obj))(s:Shared)(σ:St)(H:Hp)(o i v:V)(q g u:Value)(Q:Hp->Prop),Inv X pins σ H s->RelV o q->RelV i g->RelV v u->t o i v H Q ->
  wpAny (model X.prog X.w) X.A (setItem q g u) (fun _ s'=>∃H',Inv X pins σ H' s'/\Q H') X.xe s
section
variable {X:Cx}{pos:Pos}
def sY(i:Nat):TG:=fun v σ H Q=>Q (σ.set i (some v)) H
def lY(q:X.N.Nodup)(hi:X.N[i]?=some x)(D:Loc X.env.scope x)(B:X.fn x=true\/X.env.scope.names.lookup x=some .local:=by first | exact .inl rfl | exact .inr rfl | assumption):PG X (.Name x pos) (sY i):=by
 intro pins s σ H v u Q I r h;exact wpAny_assign_Name (QA I q hi D r (fun s' g=>⟨_,H,g,h⟩) B)
def gNil:TGs:=fun vs σ H Q=>vs=[]/\Q σ H
def iC(t:TG)(u:TGs):TGs:=fun vs σ H Q=>∃v r,vs=v::r/\t v σ H fun g H'=>u r g H' Q
def qA:PGs X [] gNil:=by
 intro pins s σ H vs g Q I r h;obtain⟨rfl,h⟩:=h;cases r;exact assignInOrder_nil ⟨σ,H,I,h⟩
def wG(h1:PG X e t)(h2:PGs X es u)(hs:(assignEach (e::es) X.env).map (·.2)=assign e X.env::(assignEach es X.env).map (·.2):=by rfl):PGs X (e::es) (iC t u):=by
 intro pins s σ H vs O Q I r h;obtain⟨v,S,rfl,h⟩:=h
 cases r with
 |cons r rr =>
  exact hs▸assignInOrder_cons (thn (h1 pins s σ H _ _ _ I r h) fun _ B D=>mG D fun J H1 g q=> h2 pins B J H1 _ _ Q g rr q)
def gTup(K:De)(n:Nat)(t:TGs):TG:=fun v σ H Q=>∃a xs,v=.ref a/\SqT K H a xs/\xs.length=n/\t xs σ H Q
def Zh{k}(B:X.calm=true)(h:PGs X es t)(J:(assignEach es X.env).length=n:=by rfl)(S:(assignEach es X.env).findIdx? (·.1)=none:=by rfl):PG X (.Tuple es k pos) (gTup X.K n t):=by
 intro pins s σ H v u Q I r g;obtain⟨a,xs,rfl,O,D,g⟩:=g;cases r;refine jK (I.tuple O) fun ab rv U Z=>assign_Tuple_tuple (I.ok.hd B) U (by simp[J,<- D,rv.length]) S fun h' Y=>?_;have q:=I.kept (t':=s.toks) fun b o e=>Y b o (Ab (AG e)) e;exact h pins _ σ H xs _ Q q (by lia) g
def gSub(to q:TE)(t:TSet):TG:=fun v σ H Q=>to σ H fun o H1=>q σ H1 fun i H2=>t o i v H2 fun g=>Q σ g
def pg_sub(U:PE X o to)(hi:PE X i ti)(hs:PSet X t)(ha:∀v,assign (.Subscript o i pos) X.env v=(do
   let g <- holding [v] (eval o X.env)
   let q <- holding [v,g] (eval i X.env)
   standAt pos
   holding [v,g,q] (setItem g q v)
   release [v,g,q] []):=by intro _;rfl):PG X (.Subscript o i pos) (gSub to ti t):=by
 intro pins s σ H v u Q I r h;exact AA (Az (thn (U pins s σ H _ I h) fun g ab B=>uZ B fun x H1 J r1 Y=> AA (Az (thn (hi pins ab σ H1 _ J Y) fun q ae B=>uZ B fun y H2 O r2 Z=> AA (wpAny_standAt (AA (Az (thn (hs pins ae σ H2 x y v g q u _ O r1 r2 r Z) fun _ af B=>zX B fun D S q3=> wpAny_release ⟨σ,D,S,q3⟩))))))))
def Kw(te:TE)(g:TG):TS:=fun D σ H=>te σ H fun x H1=>g x σ H1 D.nx
def ps_asg(D:PE X e te)(J:PG X tg g)(hs:swapsWithSole [tg] e pos.line X.env=pure false:=by rfl)(O:swappedStores [tg] e X.env=pure none:=by rfl)(h1:(assignEach [tg] X.env).map (·.2)=[assign tg X.env]:=by rfl):PS X (.Assign [tg] e pos) (Kw te g):=by
 intro pins s σ H ab I h;refine wpAny_Assign_stores (thn (D pins s σ H _ I h) fun v Y Z=>uZ Z fun x H1 B U S=> ?_) hs O;rw[h1];exact thn (J pins Y σ H1 x v _ B U S) fun _ ae q=>q
def ps_set(B:X.N.Nodup)(hi:X.N[i]?=some x)(S:Loc X.env.scope x)(J:PE X e te)(hs:swapsWith e (some (.Name x pos')) pos.line X.env=pure false:=by rfl)(O:X.fn x=true\/X.env.scope.names.lookup x=some .local:=by first | exact .inl rfl | exact .inr rfl | assumption):
  PS X (.Assign [.Name x pos'] e pos) (Kw te (sY i)):=by
 intro pins s σ H D I h;exact wpAny_Assign_Name (thn (J pins s σ H _ I h) fun v ab Z=>uZ Z fun y H1 g Y U=> QA g B hi S Y (fun ae q=>⟨_,H1,q,U⟩) O) hs
def V1(c:TT)(tb:TS):TS:=fun D σ H=>∃W:Nat->St->Hp->Prop,(∃m,W m σ H)/\∀m σ H,W m σ H ->
 c σ H fun b H1=>if b=true then ∃N:St->Hp->Prop,(∀q H',N q H'->∃g,g < m/\W g q H')/\tb { D with nx:=N,ct:=N,bk:=D.nx } σ H1 else D.nx σ H1
def Wx(hp:PassesOwn (model X.prog X.w) X.A X.env X.xe)(hc:PT X c tc)(hb:PSs X af tb):PS X (.While c af [] pos) (V1 tc tb):=by
 intro pins s σ H ak ae h;obtain⟨W,⟨ag,w0⟩,aj⟩:=h;refine wpAny_While (codeAny_whileLoop (fun n s'=>∃ab H',Inv X pins ab H' s'/\W n ab H') ?_ ag ⟨σ,H,ae,w0⟩);rintro n ah ⟨I,H1,I1,w1⟩;refine By hp (thn (hc pins ah I H1 _ I1 (aj n I H1 w1)) fun b ai zz=>zX zz fun H2 Z B=> ?_)
 cases b with
 |true =>
  refine zX B fun N hN B=>By hp (thn (hb pins ai I H2 _ Z B) fun f ao D=>?_)
  cases f with
  |next =>
   obtain⟨q,g,J,U⟩:=D;obtain⟨S,O,Y⟩:=hN q g U;exact⟨S,O,q,g,J,Y⟩
  |cont =>
   obtain⟨q,g,J,U⟩:=D;obtain⟨S,O,Y⟩:=hN q g U;exact⟨S,O,q,g,J,Y⟩
  |brk=>exact D
  |ret v=>exact D
 |false =>
  exact(AX AJ)▸DS ⟨I,H2,Z,B⟩
end
structure It where
 go:Nat->Hp->Prop
 yld:Nat->Hp->V->Hp->Prop
 stop:Nat->Hp->Prop
def XT(X:Cx)(pins:List (Addr×Obj))(H:Hp)(b:Addr):Prop :=
 H b=none/\b≠X.env.locals/\b∉X.fs/\(b∈X.ex\/X.s₀.heap.objs.size<=b)/\(∀x c,X.env.cells.lookup x=some c->c≠b)/\∀p∈X.pn++pins,p.1≠b
def Inv.fpOk{σ:St}{b:Addr}(I:Inv X pins σ H s)(g:s.heap.objs.size<=b)(B:H' b=none):XT X pins H' b:=by
 refine⟨B,Au (AQ I.lt g),I.nofs g,.inr (AW I.sz g),fun x c e z=>?_,fun p D z=>?_⟩
 .obtain ⟨v,q⟩:=I.cell x c e
  exact absurd (AQ q.lt (by rwa [z])) (A9 _)
 .exact absurd (AQ (AG (I.pin p D).1) (by rwa [z])) (A9 _)
structure Jd(P:Program)(w:World)(K:De)(tg:Expr)(J:It)(fp:List Addr)(it:Addr)(tn:Nat->Heap->Prop):Prop where
 mem:it∈fp
 obj:∀i h,tn i h->∀b∈fp,∃o,h.get? b=some o/\∀v,o.data≠.cell v
 keep:∀i h h',tn i h->(∀b∈fp,∀o,h.get? b=some o->h'.get? b=some o)->tn i h'
 item:∀(X:Cx),X.prog=P->X.w=w->X.K=K->X.calm=true->∀(i:Nat)(pins:List (Addr×Obj))(s:Shared)(σ:St)(H:Hp)(E:Value->Shared->Prop),Inv X pins σ H s->(∀b∈fp,XT X pins H b)->tn i s.heap->J.go i H ->
  wpAny (model P w) X.A (pyNext (.ref it)) (fun r s1=>∃u,r=some u /\
   wpAny (model P w) X.A (letOwnedTupleGo tg (.ref it) u) (fun _ s2=>∃x H',Inv X pins σ H' s2/\RelV x u/\J.yld i H x H'/\tn (i+1) s2.heap/\∀b∈fp,H' b=none) E s1) E s
 done:∀(X:Cx),X.prog=P->X.w=w->X.K=K->X.calm=true->∀(i:Nat)(pins:List (Addr×Obj))(s:Shared)(σ:St)(H:Hp)(E:Value->Shared->Prop),Inv X pins σ H s->(∀b∈fp,XT X pins H b)->tn i s.heap->J.stop i H ->
  wpAny (model P w) X.A (pyNext (.ref it)) (fun r s1=>r=none/\Inv X pins σ H s1) E s
 self:∀(A:Around)(i:Nat)(s:Shared)(Q:Value->Shared->Prop)(E:Value->Shared->Prop),tn i s.heap->Q (.ref it) s->wpAny (model P w) A (pyIter (.ref it)) Q E s
abbrev TI:=St->Hp->(It->Hp->Prop)->Prop
def PIE(X:Cx)(pins:List (Addr×Obj))(σ:St)(tg:Expr)(R:It->Hp->Prop)(D:Value)(q:Shared):Prop :=
 ∃(it:Addr)(g:List Addr)(B:Nat->Heap->Prop)(J:It)(H':Hp),D=.ref it/\Inv X pins σ H' q/\Jd X.prog X.w X.K tg J g it B/\B 0 q.heap/\(∀b∈g,XT X pins H' b)/\R J H'
def PI(X:Cx)(tg g:Expr)(B:TI):Prop :=
 ∀(pins:List (Addr×Obj))(s:Shared)(σ:St)(H:Hp)(R:It->Hp->Prop),Inv X pins σ H s->B σ H R ->
  wpAny (model X.prog X.w) X.A (eval g X.env) (fun v q=>wpAny (model X.prog X.w) X.A (pyIter v) (PIE X pins σ tg R) X.xe q) X.xe s
def Xj(D:s.heap.get? it=some o)(q:o.cls=.type n)(B:o.data=.fields vs)(I:["enumerate","zip","dict_itemiterator","dict_reverseitemiterator","odict_iterator","itertools.zip_longest","itertools.pairwise"].contains n=false)(g:Q () s):wpAny M A (letOwnedTupleGo tg (.ref it) u) Q E s:=by
 cases tg<;>first
  |exact AC g
  | (cases u<;>first
    |exact AC g
    | (refine AA (wpAny_load D ?_)
       rw[q,B];show wpAny M A (if (["enumerate","zip","dict_itemiterator","dict_reverseitemiterator","odict_iterator","itertools.zip_longest","itertools.pairwise"].contains n&&vs[0]?==some (rawInt _))=true then _ else _) Q E s;rw[AX (by lia)]
       exact AC g))
def Itl(K:De)(a:Addr):It :=
 ⟨fun i H=>∃xs x,SqL K H a xs/\xs[i]?=some x,fun i H x H'=>H'=H/\∀xs,SqL K H a xs->xs[i]?=some x,fun i H=>∃xs,SqL K H a xs/\xs.length<=i⟩
def Itt(K:De)(a:Addr):It :=
 ⟨fun i H=>∃xs x,SqT K H a xs/\xs[i]?=some x,fun i H x H'=>H'=H/\∀xs,SqT K H a xs->xs[i]?=some x,fun i H=>∃xs,SqT K H a xs/\xs.length<=i⟩
def Itr(lo:Int)(n:Nat):It:=⟨fun i _=>i < n,fun i H x H'=>H'=H/\x=.int (lo+i),fun i _=>n<=i⟩
def Ks{K}a it:Jd P w K tg (Itl K a) [it] it (fun i h=>h.IsListIter it a i) where
 mem:=by simp
 obj:=fun i h st b g=>by
  have e:b=it :=by grind
  subst e;exact jK st fun o e c d=>⟨o,e,fun v z=>by rw[d] at z;cases z⟩
 keep:=fun i h h' st k=>st.at fun o e=>k it (by simp) o e
 item:=by
  intro X Z ab Y hc i pins s σ H E I q st hg;subst Z ab Y;refine mG hg fun xs x B hx=>jK (I.list B) fun af rv p hz=>zX (rv.get hx) fun u hu ru=>Xr (q it (by simp)) fun D J ae O S U=>?_;refine wpAny_pyNext_list_item st p.isList (by simpa using hu) fun h' st' sb=>?_;have I1:=I.turned (t':=s.toks) (fun b o g e=>(sb.2 b g).trans e) D J O S U;exact jK (id st') fun o e c d=>⟨u,rfl,Xj e c d rfl ⟨x,H,I1,ru,⟨rfl,fun ys hy=>by rwa [I.list_inj hy B]⟩,st',fun b g=>(q b g).1⟩⟩
 done:=by
  intro X Z ab Y hc i pins s σ H E I q st hg;subst Z ab Y;refine zX hg fun xs B hx=>jK (I.list B) fun af rv p hz=>Xr (q it (by simp)) fun D J ae O S U=>?_;have hl:=rv.length;exact wpAny_pyNext_list_end (I.ok.hd hc) st p.isList (by simp;lia) fun h' eb=>⟨rfl,I.turned (t':=s.toks) (fun b o g e=>eb b o g e) D J O S U⟩
 self:=fun _ _ _ _ _ st h=>wpAny_pyIter_listiter st h
def XY{K}a it:Jd P w K tg (Itt K a) [it] it (fun i h=>h.IsTupleIter it a i) where
 mem:=by simp
 obj:=fun i h st b g=>by
  have e:b=it :=by grind
  subst e;exact jK st fun o e c d=>⟨o,e,fun v z=>by rw[d] at z;cases z⟩
 keep:=fun i h h' st k=>st.at fun o e=>k it (by simp) o e
 item:=by
  intro X Z ab Y hc i pins s σ H E I q st hg;subst Z ab Y;refine mG hg fun xs x B hx=>jK (I.tuple B) fun af rv p hz=>zX (rv.get hx) fun u hu ru=>Xr (q it (by simp)) fun D J ae O S U=>?_;refine wpAny_pyNext_tuple_item st p (by simpa using hu) fun h' st' sb=>?_;have I1:=I.turned (t':=s.toks) (fun b o g e=>(sb.2 b g).trans e) D J O S U;exact jK (id st') fun o e c d=>⟨u,rfl,Xj e c d rfl ⟨x,H,I1,ru,⟨rfl,fun ys hy=>by rwa [I.tuple_inj hy B]⟩,st',fun b g=>(q b g).1⟩⟩
 done:=by
  intro X Z ab Y hc i pins s σ H E I q st hg;subst Z ab Y;refine zX hg fun xs B hx=>jK (I.tuple B) fun af rv p hz=>Xr (q it (by simp)) fun D J ae O S U=>?_;have hl:=rv.length;exact wpAny_pyNext_tuple_end (I.ok.hd hc) st p (by grind) fun h' eb=>⟨rfl,I.turned (t':=s.toks) (fun b o g e=>eb b o g e) D J O S U⟩
 self:=fun _ _ _ _ _ st h=>wpAny_pyIter_tupleiter st h
def XZ{K}it lo n:Jd P w K tg (Itr lo n) [it] it (fun i h=>IsRangeIter h it (lo+i * 1) ( n - i ) 1) where
 mem:=by simp
 obj:=fun i h st b g=>by
  have e:b=it :=by grind
  subst e
  exact⟨_,st,fun v z=>by
   cases z⟩
 keep:=fun i h h' st k=>k it (by simp) _ st
 item:=by
  intro X hP ab Z U i pins s σ H E I q st Y;subst hP ab Z;refine Xr (q it (by simp)) fun B D ae J O S=>?_;have W:=Walks.range (prog:=X.prog) (w:=X.w) (I.ok.hd U) it lo 1 n;refine W.item i s _ _ Y st fun v h' tk hv st' kk=>?_;obtain⟨t,rfl⟩:=hv;have I1:Inv X pins σ H { s with heap:=h',toks:=tk }:=I.turned (fun b o g e=>kk b o (by grind) e) B D J O S;refine⟨_,rfl,Xj st' rfl rfl rfl ⟨.int (lo+i),H,I1,⟨t,?_⟩,⟨rfl,rfl⟩,st',fun b g=>(q b g).1⟩⟩
  rw[Int.mul_one]
 done:=by
  intro X hP ab Z U i pins s σ H E I q st Y;refine Xr (q it (by simp)) fun B D ae J O S=>?_;exact wpAny_pyNext_range_end (I.ok.hd U) st (by have:n<=i:=Y;lia) fun h' eb=>⟨rfl,I.turned (t':=s.toks) (fun b o g e=>eb b o g e) B D J O S⟩
 self:=fun _ _ _ _ _ st h=>wpAny_pyIter_rangeiter st h
section
variable {X:Cx}{tg:Expr}
def iList(K:De)(tl:TE):TI:=fun σ H R=>tl σ H fun x H1=>∃a,x=.ref a/\(∃xs,SqL K H1 a xs)/\R (Itl K a) H1
def iTup(K:De)(tl:TE):TI:=fun σ H R=>tl σ H fun x H1=>∃a,x=.ref a/\(∃xs,SqT K H1 a xs)/\R (Itt K a) H1
def pi_list(D:PE X l tl):PI X tg l (iList X.K tl):=by
 intro pins s σ H R I h;refine thn (D pins s σ H _ I h) fun v B U=>uZ U fun x H1 g S O=> ?_;obtain⟨a,e,⟨xs,J⟩,q⟩:=O;subst e;cases S;refine jK (g.list J) fun ab rv p Z=>wpAny_pyIter_list p.isList ⟨B.heap.objs.size,[B.heap.objs.size],_,_,H1,rfl,g.kept (t':=B.toks) fun b o e=>AD _ e,Ks a _,⟨_,AK _ rfl,rfl,rfl⟩,fun b Y=>?_,q⟩;have e:b=B.heap.objs.size :=by grind
 subst e;exact g.fpOk (AH _) (g.hok.fresh (AH _))
def pi_tup(D:PE X l tl):PI X tg l (iTup X.K tl):=by
 intro pins s σ H R I h;refine thn (D pins s σ H _ I h) fun v B U=>uZ U fun x H1 g S O=> ?_;obtain⟨a,e,⟨xs,J⟩,q⟩:=O;subst e;cases S;refine jK (g.tuple J) fun ab rv p Z=>Cu p ⟨B.heap.objs.size,[B.heap.objs.size],_,_,H1,rfl,g.kept (t':=B.toks) fun b o e=>AD _ e,XY a _,⟨_,AK _ rfl,rfl,rfl⟩,fun b Y=>?_,q⟩;have e:b=B.heap.objs.size :=by grind
 subst e;exact g.fpOk (AH _) (g.hok.fresh (AH _))
def Wl{σ:St}{lo}(I:Inv X pins σ H s)(h1 : -(2 ^ 62)<=lo)(h2:lo < 2 ^ 62)(O : -(2 ^ 62)<=hi)(S:hi < 2 ^ 62)(q:R (Itr lo (hi - lo).toNat) H):wpAny (model X.prog X.w) X.A (pyIter (.ref s.heap.objs.size)) (PIE X pins σ tg R) E { s with heap:=s.heap.push { cls:=.type "range",data:=.fields #[.int lo t,.int hi u,.int 1 v] },toks:=B }:=by
 apply wpAny_pyIter_range (IsRange.new ..) (small_one h1 h2 O S)
 have g:Inv X pins σ H { s with heap:=s.heap.push { cls:=.type "range",data:=.fields #[.int lo t,.int hi u,.int 1 v] },toks:=B }:=I.kept fun b o e=>AD _ e
 refine⟨(s.heap.push { cls:=.type "range",data:=.fields #[.int lo t,.int hi u,.int 1 v] }).objs.size,[(s.heap.push { cls:=.type "range",data:=.fields #[.int lo t,.int hi u,.int 1 v] }).objs.size],_,_,H,rfl,
  g.kept (t':=B) fun b o e=>AD _ e,XZ _ lo (hi - lo).toNat,?_,fun b U=>?_,q⟩
 .have D:lo+((0:Nat):Int) * 1=lo:=by simp
  have J:(((hi - lo).toNat:Nat):Int) - ((0:Nat):Int)=Builtin.Range.rangeSize lo hi 1:=by rw[rangeSize_one];split<;>lia
  rw[D,J];exact AK _ rfl
 .have e:b=(s.heap.push { cls:=.type "range",data:=.fields #[.int lo t,.int hi u,.int 1 v] }).objs.size :=by grind
  subst e;exact g.fpOk (AH _) (g.hok.fresh (AH _))
def YJ(ta:TA):TI:=fun σ H R=>ta σ H fun vs H1=>∃j:Int,vs=[.int j]/\-(2 ^ 62)<=j/\j < 2 ^ 62/\R (Itr 0 j.toNat) H1
def KQ(J:Gl X "range")(O:X.mg "range" = none)(D:PA X [a] ta)(hs:starEach [a] X.env=[(false,eval a X.env)]:=by rfl):PI X tg (.Call (.Name "range" p) [a] [] pos) (YJ ta):=by
 intro pins s σ H R I h;refine Call_ (sA I J O boot_range (PyProof.Rows.callWith_type1 (thn (D pos pins s σ H _ I h) fun ab Z Y=>uZ Y fun vs H1 B U g=> ?_) hs rfl));obtain⟨j,rfl,g,S,q⟩:=g
 cases U with
 |cons r rr =>
  cases rr;obtain⟨t,rfl⟩:=r;exact call_range_1 (Wl B (by lia) (by lia) g S (by lia))
def tFor(I:TI)(g:TG)(tb:TS):TS:=fun D σ H=>I σ H fun J H1=>∃W:Nat->Nat->St->Hp->Prop,(∃m,W 0 m σ H1)/\∀i m σ H,W i m σ H ->
 (J.stop i H/\D.nx σ H)\/(J.go i H/\∃N:St->Hp->Prop,(∀B H',N B H'->∃q,q < m/\W (i+1) q B H')/\∀x H',J.yld i H x H'->g x σ H' fun O H2=>tb { D with nx:=N,ct:=N,bk:=D.nx } O H2)
def jC(g:List Addr)(h:Heap):List (Addr×Obj):=g.filterMap fun b=>(h.get? b).map fun o=>(b,o)
def qU(q:b∈g)(e:h.get? b=some o):(b,o)∈jC g h:=List.mem_filterMap.mpr ⟨b,q,by rw[e];rfl⟩
def K3(I:p∈jC B h):p.1∈B/\h.get? p.1=some p.2:=by
 obtain⟨b,D,e⟩:=(List.mem_filterMap.mp I)
 cases q:h.get? b with
 |none=>rw[q] at e;cases e
 |some o =>
  rw[q] at e;have g:=A7 e;subst g;exact⟨D,q⟩
def Inv.pinned{σ:St}(I:Inv X pins σ H s)(S:∀b∈q,XT X pins H b)(U:∀b∈q,∃o,s.heap.get? b=some o/\∀v,o.data≠.cell v):Inv X (pins++jC q s.heap) σ H s :=
 I.pins_of fun p Y=>(AS.mp Y).elim (fun z=>I.pin p (AR _ z)) fun z=>by
  obtain⟨B,e⟩:=K3 z;refine zT (S p.1 B) fun D J O _=>zX (U p.1 B) fun o g d=>?_;rw[e] at g;cases g
  exact⟨e,D,J,O,d⟩
def Inv.unpinned{σ:St}(I:Inv X (pins++q) σ H s):Inv X pins σ H s:=I.pins_of fun p g=>I.pin p (AR _ (Ao _ g))
def ps_for(U:PassesOwn (model X.prog X.w) X.A X.env X.xe)(hc:X.calm=true)(hi:PI X tg ak wi)(hg:PG X tg g)(D:PSs X av tb)(hs:∀x,foldedSetIterable ak X.env x=pure x:=by intro _;rfl):PS X (.For tg ak av [] pos) (tFor wi g tb):=by
 intro pins s σ H a8 au h;refine wpAny_For (thn (hi pins s σ H _ au h) fun v ba h1=>thn h1 fun a9 bb h2=>?_) hs;obtain⟨it,S,tn,J,H2,e,I2,T,a3,ai,W,⟨az,w0⟩,a6⟩:=h2;subst e;have ag:∀{H':Hp},(∀b∈S,H' b=none)->∀b∈S,XT X pins H' b:=fun hn b D=>⟨hn b D,(ai b D).2⟩;refine codeAny_forLoop_any (fun n s'=>∃i ab H',Inv X pins ab H' s'/\tn i s'.heap/\(∀b∈S,H' b=none)/\W i n ab H') ?_ az ⟨0,σ,H2,I2,a3,fun b D=>(ai b D).1,w0⟩
 rintro n ao ⟨i,ae,H3,I3,ar,aj,w3⟩
 rcases a6 i n ae H3 w3 with ⟨a5,qn⟩ | ⟨ax,N,hN,a4⟩
 .refine By U (thn (T.done X rfl rfl rfl hc i pins ao ae H3 X.xe I3 (ag aj) ar a5) fun r a0 Z=>yF Z fun hr I4=> ?_)
  subst hr;exact DS ⟨ae,H3,I4,qn⟩
 .refine By U (thn (T.item X rfl rfl rfl hc i pins ao ae H3 X.xe I3 (ag aj) ar ax) fun r a0 Z=>zX Z fun u hr h4=> ?_)
  subst hr;refine By U (thn h4 fun _ aq zq=>el25 zq fun x H5 I5 r5 y5 af aw=>By U (thn (hg _ aq ae H5 x u _ (I5.pinned (ag aw) (T.obj _ _ af)) r5 (a4 x H5 y5)) fun _ s6 Z=>mG Z fun a7 H6 I6 q6=> By U (thn (D _ s6 a7 H6 _ I6 q6) fun f s7 O=>?_)))
  have ah:∀{I:St}{q:Hp},Inv X (pins++jC S aq.heap) I q s7->N I q->∃m,m < n/\∃i ab H',Inv X pins ab H' s7/\tn i s7.heap/\(∀b∈S,H' b=none)/\W i m ab H':=fun {I q}B Y=>by
   obtain⟨m',ay,w7⟩:=hN I q Y;exact⟨m',ay,i+1,I,q,B.unpinned,T.keep _ _ _ af fun b D o e=>(B.pin (b,o) (AR _ (AR _ (qU D e)))).1,fun b D=>zX (T.obj _ _ af b D) fun o e d=>(B.pin (b,o) (AR _ (AR _ (qU D e)))).2.1,w7⟩
  cases f with
  |next=>exact mG O fun I q B Y=>ah B Y
  |cont=>exact mG O fun I q B Y=>ah B Y
  |brk=>exact mG O fun I q B O=>⟨I,q,B.unpinned,O⟩
  |ret v=>exact iS O fun x7 I q B r7 O=>⟨x7,I,q,B.unpinned,r7,O⟩
end
abbrev R2:=V->V->Hp->VK->Prop
def OpR(X:Cx)(f:Value->Value->Sem Value)(r:R2):Prop :=
 ∀(pins:List (Addr×Obj))(s:Shared)(σ:St)(H:Hp)(x y:V)(v u:Value)(Q:VK),Inv X pins σ H s->RelV x v->RelV y u->r x y H Q ->
  wpAny (model X.prog X.w) X.A (f v u) (EP X pins σ Q) X.xe s
def UnR(X:Cx)(f:Value->Sem Value)(r:V->Hp->VK->Prop):Prop :=
 ∀(pins:List (Addr×Obj))(s:Shared)(σ:St)(H:Hp)(x:V)(v:Value)(Q:VK),Inv X pins σ H s->RelV x v->r x H Q ->
  wpAny (model X.prog X.w) X.A (f v) (EP X pins σ Q) X.xe s
def CallR(X:Cx)(f:Value)(r:List V->Hp->VK->Prop):Prop :=
 ∀(pins:List (Addr×Obj))(s:Shared)(σ:St)(H:Hp)(xs:List V)(g:List Value)(Q:VK),Inv X pins σ H s->Vals xs g->r xs H Q ->
  wpAny (model X.prog X.w) X.A (call f g) (EP X pins σ Q) X.xe s
def TruR(X:Cx)(r:V->Hp->(Bool->Hp->Prop)->Prop):Prop :=
 ∀(pins:List (Addr×Obj))(s:Shared)(σ:St)(H:Hp)(x:V)(v:Value)(Q:Bool->Hp->Prop),Inv X pins σ H s->RelV x v->r x H Q ->
  wpAny (model X.prog X.w) X.A (truthy v) (TP X pins σ Q) X.xe s
def tOp(r:R2)(ta tb:TE):TE:=fun σ H Q=>ta σ H fun x H1=>tb σ H1 fun y H2=>r x y H2 Q
def tUn(r:V->Hp->VK->Prop)(ta:TE):TE:=fun σ H Q=>ta σ H fun x H1=>r x H1 Q
inductive II(C:Int->Int->Prop)(g:Int->Int->V)(x y:V)(H:Hp)(Q:VK):Prop
 |mk(i j:Int)(h:x=.int i)(h':y=.int j)(c:C i j)(q:Q (g i j) H)
def rI(C:Int->Int->Prop)(g:Int->Int->V):R2:=II C g
inductive II0(g:Int->Int->V)(x y:V)(H:Hp)(Q:VK):Prop
 |mk(i j:Int)(h:x=.int i)(h':y=.int j)(q:Q (g i j) H)
def rI0(g:Int->Int->V):R2:=II0 g
def rU(g:Int->V):V->Hp->VK->Prop:=fun x H Q=>∃i,x=.int i/\Q (g i) H
section
variable {X:Cx}{a b c:Expr}{ta tb tc:TE}{pos:Pos}
def binT(D:PE X a ta)(J:PE X b tb){σ:St}{R:V->V->Hp->Prop}(I:Inv X pins σ H s)(h:ta σ H fun x H1=>tb σ H1 fun y H2=>R x y H2){f:Value->Value->Sem Value}(O:∀v u g x y H2,Inv X pins σ H2 g->RelV x v->RelV y u->R x y H2->wpAny (model X.prog X.w) X.A (f v u) Q X.xe g):
  wpAny (model X.prog X.w) X.A (eval a X.env) (fun v ae=>wpAny (model X.prog X.w) X.A (eval b X.env) (fun u af=>wpAny (model X.prog X.w) X.A (f v u) Q X.xe af) X.xe ae) X.xe s :=thn (D pins s σ H _ I h) fun v ab ⟨x,H1,q,Y,S⟩=>thn (J pins ab σ H1 _ q S) fun u g ⟨y,H2,B,Z,U⟩=>O v u g x y H2 B Y Z U
def pe_op(J:OpR X (binaryOp op) r)(B:PE X a ta)(D:PE X b tb):PE X (.BinOp a op b pos) (tOp r ta tb):=by
 intro pins s σ H Q I h;exact wpAny_BinOp (binT B D I h fun v u U x y H2 g O S q=>J pins U σ H2 x y v u Q g O S q)
def pe_un(B:UnR X (unaryOp op) r)(q:PE X a ta):PE X (.UnaryOp op a pos) (tUn r ta):=by
 intro pins s σ H Q I h;exact UnaryOp_ (thn (q pins s σ H _ I h) fun v O S=>uZ S fun x H1 g J D=> B pins O σ H1 x v Q g J D)
def opI{g:Int->Int->Int}(D:∀(i j:Int)(t u:Tok)(s:Shared)(Q:Value->Shared->Prop)(E:Value->Shared->Prop),C i j->Q (.int (g i j) s.toks) { s with toks:=s.toks+1 }->wpAny (model X.prog X.w) X.A (f (.int i t) (.int j u)) Q E s):
  OpR X f (rI C fun i j=>.int (g i j)):=by
 intro pins s σ H x y v u Q I J O h;obtain⟨i,j,rfl,rfl,B,q⟩:=h;obtain⟨t,rfl⟩:=J;obtain⟨t',rfl⟩:=O;exact D i j t t' s _ _ B ⟨.int (g i j),H,I.tok _,⟨_,rfl⟩,q⟩
def opI0{g:Int->Int->Int}(B:∀(i j:Int)(t u:Tok)(s:Shared)(Q:Value->Shared->Prop)(E:Value->Shared->Prop),Q (.int (g i j) s.toks) { s with toks:=s.toks+1 }->wpAny (model X.prog X.w) X.A (f (.int i t) (.int j u)) Q E s):
  OpR X f (rI0 fun i j=>.int (g i j)):=by
 intro pins s σ H x y v u Q I D J h;obtain⟨i,j,rfl,rfl,q⟩:=h;obtain⟨t,rfl⟩:=D;obtain⟨t',rfl⟩:=J;exact B i j t t' s _ _ ⟨.int (g i j),H,I.tok _,⟨_,rfl⟩,q⟩
def opB0{g:Int->Int->Bool}(B:∀(i j:Int)(t u:Tok)(s:Shared)(Q:Value->Shared->Prop)(E:Value->Shared->Prop),Q (.bool (g i j)) s->wpAny (model X.prog X.w) X.A (f (.int i t) (.int j u)) Q E s):
  OpR X f (rI0 fun i j=>.bl (g i j)):=by
 intro pins s σ H x y v u Q I D J h;obtain⟨i,j,rfl,rfl,q⟩:=h;obtain⟨t,rfl⟩:=D;obtain⟨t',rfl⟩:=J;exact B i j t t' s _ _ ⟨.bl (g i j),H,I,rfl,q⟩
def CPow(i j:Int):Prop:=0<=j/\j<=1000000/\i.natAbs < 2 ^ 64
def CMul(i j:Int):Prop:=(-(2 ^ 64) < i/\i < 2 ^ 64)\/(-(2 ^ 64) < j/\j < 2 ^ 64)
theorem CMul.ok(h:CMul i j):IntMulOk i j:=by
 rcases h with ⟨h1,h2⟩ | ⟨h1,h2⟩
 .exact .of_left (intBits_le_64 h1 h2)
 .exact .of_right (intBits_le_64 h1 h2)
def op_add:OpR X (binaryOp .Add) (rI0 fun i j=>.int (i+j)):=opI0 fun _ _ _ _ _ _ _ q=>add_int q
def iJ:OpR X (binaryOp .Sub) (rI0 fun i j=>.int (i - j)):=opI0 fun _ _ _ _ _ _ _ q=>sub_int q
def qF:OpR X (binaryOp .Mult) (rI CMul fun i j=>.int (i * j)):=opI fun _ _ _ _ _ _ _ g q=>mul_int q g.ok
def kY:OpR X (binaryOp .Mod) (rI (fun _ j=>0 < j) fun i j=>.int (i % j)):=opI fun i j _ _ _ _ _ g q=>mod_int' (by lia) (by grind)
def iY:OpR X (binaryOp .Pow) (rI CPow fun i j=>.int (i ^ j.toNat)):=opI fun _ _ _ _ _ _ _ g q=>pow_int_small g.1 g.2.1 g.2.2 q
def unI{g:Int->Int}(B:∀(i:Int)(t:Tok)(s:Shared)(Q:Value->Shared->Prop)(E:Value->Shared->Prop),Q (.int (g i) s.toks) { s with toks:=s.toks+1 }->wpAny (model X.prog X.w) X.A (f (.int i t)) Q E s):
  UnR X f (rU fun i=>.int (g i)):=by
 intro pins s σ H x v Q I D h;obtain⟨i,rfl,q⟩:=h;obtain⟨t,rfl⟩:=D;exact B i t s _ _ ⟨.int (g i),H,I.tok _,⟨_,rfl⟩,q⟩
def jY:UnR X (unaryOp .USub) (rU fun i=>.int (-i)):=unI fun _ _ _ _ _ q=>neg_int q
end
def scal:V->V->Bool
 |.non,.non=>true | .non,.int _=>true | .int _,.non=>true | .non,.bl _=>true | .bl _,.non=>true | .non,.str _=>true | .str _,.non=>true
 |.int _,.int _=>true | .bl _,.bl _=>true | .str _,.str _=>true | .byt _,.byt _=>true
 |.int _,.str _=>true | .str _,.int _=>true | .bl _,.str _=>true | .str _,.bl _=>true
 |_,_=>false
def rEq:R2:=fun x y H Q=>scal x y=true/\Q (.bl (decide (x=y))) H
def rNe:R2:=fun x y H Q=>scal x y=true/\Q (.bl (!decide (x=y))) H
def Kc: decide (V.int i=V.int j)=(i==j) :=by grind
def Gf: decide (V.bl i=V.bl j)=(i==j) :=by grind
def Kb: decide (V.str i=V.str j)=(i==j) :=by grind
def Kd: decide (V.byt i=V.byt j)=(i.toList==j.toList):=by
 rw[CZ];cases i;cases j
 simp
section
variable {X:Cx}{a b c:Expr}{ta tb tc:TE}{pos:Pos}
def eX{σ:St}(I:Inv X pins σ H s)(q:Q (.bl k) H)(e:k=g):EP X pins σ Q (.bool g) s:=by
 subst e;exact⟨.bl k,H,I,rfl,q⟩
def bX:OpR X (compareOp .Eq) rEq:=by
 intro pins s σ H x y v u Q I B g h;obtain⟨hs,q⟩:=h
 cases x with
 |non =>
  cases B
  cases y with
  |non=>cases g;exact PySem.EqNone.eq_none_none (eX I q (by simp))
  |bl j=>cases g;exact PySem.EqNone.eq_none_bool (eX I q (by simp))
  |int j=>obtain⟨t',rfl⟩:=g;exact PySem.EqNone.eq_none_int (eX I q (by simp))
  |str j=>obtain⟨t',rfl⟩:=g;exact PySem.EqNone.eq_none_str (eX I q (by simp))
  |_=>exact absurd hs AJ
 |bl i =>
  cases B
  cases y with
  |non=>cases g;exact PySem.EqNone.eq_bool_none (eX I q (by simp))
  |bl j=>cases g;exact eq_bool (eX I q Gf)
  |str j=>obtain⟨t',rfl⟩:=g;exact PySem.EqMixed.eq_bool_str (eX I q (by simp))
  |_=>exact absurd hs AJ
 |int i =>
  obtain⟨t,rfl⟩:=B
  cases y with
  |non=>cases g;exact PySem.EqNone.eq_int_none (eX I q (by simp))
  |int j=>obtain⟨t',rfl⟩:=g;exact eq_int (eX I q Kc)
  |str j=>obtain⟨t',rfl⟩:=g;exact PySem.EqMixed.eq_int_str (eX I q (by simp))
  |_=>exact absurd hs AJ
 |str i =>
  obtain⟨t,rfl⟩:=B
  cases y with
  |non=>cases g;exact PySem.EqNone.eq_str_none (eX I q (by simp))
  |bl j=>cases g;exact PySem.EqMixed.eq_str_bool (eX I q (by simp))
  |int j=>obtain⟨t',rfl⟩:=g;exact PySem.EqMixed.eq_str_int (eX I q (by simp))
  |str j=>obtain⟨t',rfl⟩:=g;exact eq_str (eX I q Kb)
  |_=>exact absurd hs AJ
 |byt i =>
  obtain⟨t,rfl⟩:=B
  cases y with
  |byt j=>obtain⟨t',rfl⟩:=g;exact PySem.W.eq_bytes (eX I q Kd)
  |_=>exact absurd hs AJ
 |_=>cases y<;>exact absurd hs AJ
def tU:OpR X (compareOp .NotEq) rNe:=by
 intro pins s σ H x y v u Q I B g h;obtain⟨hs,q⟩:=h
 cases x with
 |non =>
  cases B
  cases y with
  |non=>cases g;exact PySem.EqNone.ne_none_none (eX I q (by simp))
  |bl j=>cases g;exact PySem.EqNone.ne_none_bool (eX I q (by simp))
  |int j=>obtain⟨t',rfl⟩:=g;exact PySem.EqNone.ne_none_int (eX I q (by simp))
  |str j=>obtain⟨t',rfl⟩:=g;exact PySem.EqNone.ne_none_str (eX I q (by simp))
  |_=>exact absurd hs AJ
 |bl i =>
  cases B
  cases y with
  |non=>cases g;exact PySem.EqNone.ne_bool_none (eX I q (by simp))
  |bl j=>cases g;exact ne_bool (eX I q (Bk not Gf))
  |str j=>obtain⟨t',rfl⟩:=g;exact PySem.EqMixed.ne_bool_str (eX I q (by simp))
  |_=>exact absurd hs AJ
 |int i =>
  obtain⟨t,rfl⟩:=B
  cases y with
  |non=>cases g;exact PySem.EqNone.ne_int_none (eX I q (by simp))
  |int j=>obtain⟨t',rfl⟩:=g;exact ne_int (eX I q (Bk not Kc))
  |str j=>obtain⟨t',rfl⟩:=g;exact PySem.EqMixed.ne_int_str (eX I q (by simp))
  |_=>exact absurd hs AJ
 |str i =>
  obtain⟨t,rfl⟩:=B
  cases y with
  |non=>cases g;exact PySem.EqNone.ne_str_none (eX I q (by simp))
  |bl j=>cases g;exact PySem.EqMixed.ne_str_bool (eX I q (by simp))
  |int j=>obtain⟨t',rfl⟩:=g;exact PySem.EqMixed.ne_str_int (eX I q (by simp))
  |str j=>obtain⟨t',rfl⟩:=g;exact ne_str (eX I q (Bk not Kb))
  |_=>exact absurd hs AJ
 |byt i =>
  obtain⟨t,rfl⟩:=B
  cases y with
  |byt j=>obtain⟨t',rfl⟩:=g;exact PySem.W.ne_bytes (eX I q (Bk not Kd))
  |_=>exact absurd hs AJ
 |_=>cases y<;>exact absurd hs AJ
def rY:OpR X (compareOp .Lt) (rI0 fun i j=>.bl (decide (i < j))):=opB0 fun _ _ _ _ _ _ _ q=>lt_int q
def vO:OpR X (compareOp .LtE) (rI0 fun i j=>.bl (decide (i<=j))):=opB0 fun _ _ _ _ _ _ _ q=>le_int q
def wV:OpR X (compareOp .Gt) (rI0 fun i j=>.bl (decide (j < i))):=opB0 fun _ _ _ _ _ _ _ q=>gt_int q
def KU:OpR X (compareOp .In) (fun x y H Q=>∃i j,x=.str i/\y=.str j/\Q (.bl (!(Builtin.Str.occurrences j i 0 j.length 1).isEmpty)) H):=by
 intro pins s σ H x y v u Q I g B h;obtain⟨i,j,rfl,rfl,q⟩:=h;obtain⟨t,rfl⟩:=g;obtain⟨t',rfl⟩:=B;exact in_str (eX I q rfl)
def Zi:OpR X (compareOp .Is) (fun x y H Q=>y=.non/\Q (.bl (decide (x=.non))) H):=by
 intro pins s σ H x y v u Q I g B h;obtain⟨rfl,q⟩:=h;cases B;refine is_none_gen (eX I q ?_)
 cases x<;>first
  | (cases g;rfl)
  | (obtain⟨t,rfl⟩:=g;rfl)
def kA:OpR X (compareOp .IsNot) (fun x y H Q=>y=.non/\Q (.bl (!decide (x=.non))) H):=by
 intro pins s σ H x y v u Q I g B h;obtain⟨rfl,q⟩:=h;cases B;refine isnot_none_gen (eX I q ?_)
 cases x<;>first
  | (cases g;rfl)
  | (obtain⟨t,rfl⟩:=g;rfl)
def OpR.or(h:OpR X f r)(h':OpR X f D):OpR X f (fun x y H Q=>r x y H Q\/D x y H Q):=by
 intro pins s σ H x y v u Q I g B q
 rcases q with q | q
 .exact h pins s σ H x y v u Q I g B q
 .exact h' pins s σ H x y v u Q I g B q
def uW b(h:op≠.In:=by decide)(h2:op≠.NotIn:=by decide):behindInMarks op b=false:=by
 have g:(op==CmpOp.In)=false:=by cases op<;>first | rfl | exact absurd rfl h
 have q:(op==CmpOp.NotIn)=false:=by cases op<;>first | rfl | exact absurd rfl h2
 cases b<;>simp[behindInMarks,g,q]
def pe_cmpR(O:OpR X (compareOp op) r)(B:PE X a ta)(D:PE X b tb)(J:behindInMarks op b=false):PE X (.Compare a [op] [b] pos) (tOp r ta tb):=by
 intro pins s σ H Q I h;exact wpAny_Compare1 (binT B D I h fun v u Y x y H2 g S U q=>O pins Y σ H2 x y v u Q g S U q) J
def Qu(t:TE):TT:=fun σ H Q=>t σ H (IBl Q)
def pt_cmpR(Y:OpR X (compareOp op) r)(O:PE X a ta)(S:PE X b tb)(U:behindInMarks op b=false):PT X (.Compare a [op] [b] pos) (Qu (tOp r ta tb)):=by
 intro pins s σ H Q I h
 refine wpAny_isTrue_Compare1 (thn (O pins s σ H _ I h) fun v ab g=>uZ g fun x H1 B r1 Z=> thn (S pins ab σ H1 _ B Z) fun u ae g=>uZ g fun y H2 D r2 q2=>
  thn (Y pins ae σ H2 x y v u _ D r1 r2 q2) fun c af ⟨z,q,J,r3,k,e,q3⟩=>?_) U
 subst e;cases r3;exact A8 ⟨q,J,q3⟩
def rN(r B:R2)(ta tb tc:TE):TE:=fun σ H Q=>ta σ H fun x H1=>tb σ H1 fun y H2=>r x y H2 fun z g=>∃k,z=.bl k /\
 (if k=true then tc σ g fun D q=>B y D q Q else Q (.bl false) g)
def WM(ho:OpR X (compareOp op) r)(ae:OpR X (compareOp D) r')(ha:PE X a ta)(hb:PE X b tb)(hc:PE X c tc)(ab:lastMarks [op,D] [b,c]=false:=by with_unfolding_all rfl):PE X (.Compare a [op,D] [b,c] pos) (rN r r' ta tb tc):=by
 intro pins s σ H Q I h
 refine Compare_chain (thn (ha pins s σ H _ I h) fun v af g=>uZ g fun x H1 U r1 q1=> chain_link (thn (hb pins af σ H1 _ U q1) fun u ag g=>uZ g fun y H2 Y O q2=>
  thn (ho pins ag σ H2 x y v u _ Y r1 O q2) fun d ah ⟨z,q,B,r3,k,e,J⟩=>?_)) ab
 subst e;cases r3
 apply A8
 cases k with
 |false=>exact ite_ff ⟨.bl false,q,B,rfl,J⟩
 |true=>exact ite_tt (chain_last (thn (hc pins ah σ q _ B J) fun w' ai g=>uZ g fun z' S Z r4 q4=> ae pins ai σ S y z' u w' Q Z O r4 q4))
def Wv(ho:OpR X (compareOp op) r)(ae:OpR X (compareOp D) r')(ha:PE X a ta)(hb:PE X b tb)(hc:PE X c tc)(ab:lastMarks [op,D] [b,c]=false:=by with_unfolding_all rfl):PT X (.Compare a [op,D] [b,c] pos) (Qu (rN r r' ta tb tc)):=by
 intro pins s σ H Q I h
 refine isTrue_chain (thn (ha pins s σ H _ I h) fun v af g=>uZ g fun x H1 Y r1 q1=> test_link (thn (hb pins af σ H1 _ Y q1) fun u ag g=>uZ g fun y H2 Z O q2=>
  thn (ho pins ag σ H2 x y v u _ Z r1 O q2) fun d ah ⟨z,q,B,r3,k,e,J⟩=>?_)) ab
 subst e;cases r3
 apply A8
 cases k with
 |false =>
  obtain⟨k',e',q'⟩:=J;cases e';exact ite_ff ⟨q,B,q'⟩
 |true =>
  refine ite_tt (test_last (thn (hc pins ah σ q _ B J) fun w' ai g=>uZ g fun z' S I4 r4 q4=> thn (ae pins ai σ S y z' u w' _ I4 O r4 q4) fun d' aj zq=>?_));obtain⟨z2,U,I5,r5,k2,rfl,q5⟩:=zq;cases r5;exact A8 ⟨U,I5,q5⟩
def TruV(K:De)(x:V)(H:Hp)(k:Bool):Prop :=
 match x with
 |.non=>k=false
 |.bl b=>k=b
 |.int i=>k=(i != 0)
 |.str y=>y.length<=sizeLine/\k=((y.length:Int) != 0)
 |.byt y=>y.size<=sizeLine/\k=((y.size:Int) != 0)
 |.ref p=>(∃xs,SqL K H p xs/\k = !xs.isEmpty)\/(∃xs,SqT K H p xs/\k = !xs.isEmpty)\/∃kvs,H p=some (.dK kvs)/\k = !kvs.isEmpty
 |_=>False
def ZJ(r:KV kvs vs):(!vs.isEmpty) = !kvs.isEmpty:=by
 cases r<;>rfl
def aC(r:Vals xs g):(!g.toArray.isEmpty) = !xs.isEmpty:=by
 cases r<;>simp
def zU:sizeLine < 2 ^ 63:=by decide
def tru_ok:TruR X (fun x H Q=>∃k,TruV X.K x H k/\Q k H):=by
 intro pins s σ H x v Q I B h;obtain⟨k,e,q⟩:=h;have hl:=zU;have hs:=B1
 cases x with
 |non =>
  cases B;have g:=e;subst g;exact truthy_none ⟨H,I,q⟩
 |bl b =>
  cases B;have g:=e;subst g;exact A8 ⟨H,I,q⟩
 |int i =>
  obtain⟨t,rfl⟩:=B;have g:=e;subst g;exact PySem.P.truthy_int ⟨H,I,q⟩
 |str y =>
  obtain⟨t,rfl⟩:=B;obtain⟨Y,rfl⟩:y.length<=sizeLine/\k=((y.length:Int) != 0):=e;exact PySem.P.truthy_str (by lia) ⟨H,I.tok _,q⟩
 |byt y =>
  obtain⟨t,rfl⟩:=B;obtain⟨Y,rfl⟩:y.size<=sizeLine/\k=((y.size:Int) != 0):=e;exact PySem.W.truthy_bytes (by lia) ⟨H,I.tok _,q⟩
 |ref p =>
  cases B;have g:=e
  rcases g with ⟨xs,D,g⟩ | ⟨xs,D,g⟩ | ⟨kvs,D,g⟩
  .subst g
   obtain⟨Z,r,J,S⟩:=I.list D;have O:=r.length;exact wpAny_truthy_list J.isList (by simp only[List.size_toArray];lia) ⟨H,I.tok _,by rwa [aC r]⟩
  .subst g
   obtain⟨Z,r,J,S⟩:=I.tuple D;have O:=r.length;exact truthy_tuple J (by simp only[List.size_toArray];lia) ⟨H,I.tok _,by rwa [aC r]⟩
  .subst g
   obtain⟨S,U,vs,r,m⟩:kvs.length<=sizeLine/\(p==sysModules)=false/\∃vs,KV kvs vs/\s.heap.DictOf (sX X.prog X.w) p vs:=I.hok p _ D;have O:=Paired.length r;exact wpAny_truthy_dict U m (by lia) ⟨H,I.tok _,by rwa [ZJ r]⟩
 |_=>exact e.elim
def Wu(B:PE X a ta)(D:∀g,isTrue a X.env g=(do let v <- g;standAt a.pos;holding [v] (truthy v))):
  PT X a (fun σ H Q=>ta σ H fun x H'=>∃k,TruV X.K x H' k/\Q k H'):=by
 intro pins s σ H Q I h;exact isTrue_plain (thn (B pins s σ H _ I h) fun v S U=>uZ U fun x H1 q O J=> tru_ok pins S σ H1 x v Q q O J) (D _)
def Zj:OpR X (binaryOp .Add) (fun x y H Q=>∃i j,x=.str i/\y=.str j/\i.length+j.length<=sizeLine/\Q (.str (i++j)) H):=by
 intro pins s σ H x y v u Q I B D h;obtain⟨i,j,rfl,rfl,g,q⟩:=h;obtain⟨t,rfl⟩:=B;obtain⟨t',rfl⟩:=D;exact add_str (fun t' J=>⟨.str (i++j),H,I.tok _,⟨_,rfl⟩,q⟩) g
def xB(r:Vals [x] B):∃u,B=[u]/\RelV x u:=by
 cases r with
 |cons g q=>cases q;exact⟨_,rfl,g⟩
def cT(r:Vals [x,y] J):∃u g,J=[u,g]/\RelV x u/\RelV y g:=by
 cases r with
 |cons q B =>
  cases B with
  |cons D I=>cases I;exact⟨_,_,rfl,q,D⟩
def GG:CallR X (.builtin "abs") (fun xs H Q=>∃i,xs=[.int i]/\Q (.int (if i < 0 then -i else i)) H):=by
 intro pins s σ H xs B Q I r h;obtain⟨i,rfl,q⟩:=h;obtain⟨u,rfl,t,rfl⟩:=xB r;exact call_abs_int fun u g=>⟨.int (if i < 0 then -i else i),H,I.tok _,⟨_,rfl⟩,q⟩
def iW(g:X.calm=true):CallR X (.builtin "max") (fun xs H Q=>∃i j,xs=[.int i,.int j]/\Q (.int (if j > i then j else i)) H):=by
 intro pins s σ H xs D Q I r h;obtain⟨i,j,rfl,q⟩:=h;obtain⟨u,J,rfl,⟨t,rfl⟩,⟨t',rfl⟩⟩:=cT r;refine max_two_ints (I.ok.hd g) fun h' B k=>⟨_,H,I.kept k,?_,q⟩
 by_cases hj:j > i
 .rw [AZ hj,AZ hj];exact⟨_,rfl⟩
 .rw [AX hj,AX hj];exact⟨_,rfl⟩
def pM(g:X.calm=true):CallR X (.builtin "min") (fun xs H Q=>∃i j,xs=[.int i,.int j]/\Q (.int (if j < i then j else i)) H):=by
 intro pins s σ H xs D Q I r h;obtain⟨i,j,rfl,q⟩:=h;obtain⟨u,J,rfl,⟨t,rfl⟩,⟨t',rfl⟩⟩:=cT r;refine min_two_ints (I.ok.hd g) fun h' B k=>⟨_,H,I.kept k,?_,q⟩
 by_cases hj:j < i
 .rw [AZ hj,AZ hj];exact⟨_,rfl⟩
 .rw [AX hj,AX hj];exact⟨_,rfl⟩
def cG:CallR X (.type "int") (fun xs H Q=>(∃i,xs=[.int i]/\Q (.int i) H)\/∃k,xs=[.bl k]/\Q (.int (if k then 1 else 0)) H):=by
 intro pins s σ H xs g Q I r h
 rcases h with ⟨i,rfl,q⟩ | ⟨k,rfl,q⟩
 .obtain ⟨u,rfl,t,rfl⟩:=xB r
  exact call_int_int ⟨.int i,H,I,⟨_,rfl⟩,q⟩
 .obtain ⟨u,rfl,rfl⟩:=xB r
  exact call_int_bool ⟨.int (if k then 1 else 0),H,I.tok _,⟨_,rfl⟩,q⟩
def dI:CallR X (.type "str") (fun xs H Q=>∃i,xs=[.int i]/\i.natAbs.log2 < 1920/\Q (.str (toString i)) H):=by
 intro pins s σ H xs B Q I r h;obtain⟨i,rfl,g,q⟩:=h;obtain⟨u,rfl,t,rfl⟩:=xB r;exact PySem.P.str_of_int g ⟨.str _,H,I.tok _,⟨_,rfl⟩,q⟩
end
structure ObjM(h:Heap)(x dx C:Addr)(mA:Str->Option Value):Prop where
 obj:h.get? x=some (PySem.W.instObj C dx)
 ns:h.Ns1 dx mA
 ne:dx≠x
def K8{h:Heap}(n:h.Ns1 dx mA):∃g,h.get? dx=some g/\∀name,PySem.W.lookIn name g=some (mA name):=by
 refine el35 n fun o es ep S D I _ O=>⟨o,S,fun name=>?_⟩;have e:=O name;unfold nsFind findBy at e;rw[<- Array.find?_toList] at e
 delta PySem.W.lookIn
 rw[D];dsimp only
 split
 .grind
 .rename_i q
  rw[q] at e
  have a:es.toList.any (·.refKey)=false:=by
   rw[List.any_eq_false];intro y U;obtain⟨z,t,J⟩:=(I y (Array.mem_toList_iff.mp U))
   simp[DictEntry.refKey,J]
  have B :=a▸AJ;exact(AX B)▸Bk some e
def ObjM.look(I:ObjM h x dx C mA):∃g,PySem.W.InstAt h x (PySem.W.instObj C dx) C (some g)/\∀name,PySem.W.lookIn name g=some (mA name) :=
 let ⟨g,B,q⟩:=K8 I.ns
 ⟨g,⟨I.obj,rfl,rfl,B⟩,q⟩
section
variable {prog:Program}{w:World}{A:Around}{E:Value->Shared->Prop}{s:Shared}{K:De}{x dx C f:Addr}{mA:Str->Option Value}{name:Str}{v:Value}
def get_map(X:K.In s.heap)(I:ObjM s.heap x dx C mA)(q:PySem.W.plainGet K C name=true)(B:PySem.W.hasDictIn K C=true)(g:PySem.W.findIn K (.ref C) name=some none)(U:mA name=some v)(D:PySem.W.handedIn v=true)(h:Q v { s with toks:=s.toks+1 }):
  wpAny (model prog w) A (getAttr (.ref x) name O) Q E s :=zX I.look fun Y J S=>PySem.W.get_value X J (PySem.W.plainGet_of q).1 (PySem.W.findObj_own B g rfl (by grind)) D h
def YO(X:K.In s.heap)(I:ObjM s.heap x dx C mA)(g:PySem.W.plainGet K C name=true)(q:PySem.W.findIn K (.ref C) name=some (some (.ref f)))(D:PySem.W.isFn K (.ref f)=true)(O:mA name=none)(h:Q (.ref f,[.ref x]) s):
  wpAny (model prog w) A (getMethod (.ref x) name U) Q E s :=zX I.look fun S J B=>PySem.W.method_fn X J (PySem.W.plainGet_of g).1 (PySem.W.plainGet_of g).2 q (beq_iff_eq.mp D) (by show(PySem.W.lookIn name S).map (·.isSome)=some false;rw[B,O];rfl) h
def set_map(X:K.In s.heap)(I:ObjM s.heap x dx C mA)(hs:PySem.W.findIn K (.ref C) "__setattr__" = some (some (.builtin "object.__setattr__")))(Z:PySem.W.plainOver K C=true)(ht:PySem.W.takerIn K C name=some none)(U:PySem.W.hasDictIn K C=true)(ab:PySem.Within mA ns)(hsz:ns.length<=sizeLine)(h:∀h',ObjM h' x dx C (fun y=>if y=name then some v else mA y)->Heap.SameBut dx s.heap h'->Q () { s with heap:=h',toks:=s.toks+2 }):
  wpAny (model prog w) A (setAttr (.ref x) name v) Q E s:=by
 refine zX I.look fun od J hl=>PySem.W.set_plain X J hs (PySem.W.osa_open X J Z ht fun b=>zX (PySem.W.any_some U) fun ae B O=>AA (AC (AA (AA (wpAny_loadPart I.obj (AA (PySem.W.Looks.here (PySem.W.looks_clsIn X B) ?_)))))));rw[O];exact AC (AA (AC (AA (wpAny_nsSet1 I.ns fun h' g q=>iS (g.count (PySem.Within.cons name v ab)) fun oD ag af Y S D=>AA (wpAny_lookBehind Y (S▸pastItsLine_dict (AW D (by grind))) (AC (h _ ⟨(q.2 _ (Ne.symm I.ne)).trans I.obj,g,I.ne⟩ q)))))))
def Yg(X:K.In s.heap)(D:PySem.W.makesIn K C=true)(hi:PySem.W.findIn K (.ref C) "__init__" = some (some (.ref f)))(B:PySem.W.typeIn K (.ref f)=some (.type "function"))(h:codeAny (model prog w) (A.under (.builtin "type.__call__" ⟨.ref C::vs,q⟩)) (.call (.ref f) ⟨.ref (s.heap.objs.size+1)::vs,q⟩) (PySem.W.InitBack (s.heap.objs.size+1) R)
   { s with heap:=(s.heap.push PySem.W.emptyDict).push (PySem.W.instObj C s.heap.objs.size) }):
  codeAny (model prog w) A (.call (.ref C) ⟨vs,q⟩) R s:=by
 obtain⟨J,g,d,t,O⟩:=s;exact PySem.W.make_core (PySem.W.makes_of X D) (PySem.W.looks_findIn X hi) (fun I=>PySem.W.bind_fn X I B) (.inl rfl) h
end
def iU(f:Str)(v:V):List (Str×V)->List (Str×V)
 |[]=>[(f,v)]
 | (g,x)::r=>if g=f then (g,v)::r else (g,x)::iU f v r
theorem tP f g v:∀fs,(iU f v fs).lookup g=if g=f then some v else fs.lookup g
 |[]=>by
  show List.lookup g [(f,v)]=_
  by_cases h:g=f
  .grind
  .grind
 | (k,x)::r=>by
  rw[show iU f v ((k,x)::r)=(if k=f then (k,v)::r else (k,x)::iU f v r) from rfl]
  by_cases B:k=f
  .grind
  .rw [AX B]
   by_cases h:g=k
   .grind
   .have q:=beq_eq_false_iff_ne.mpr h
    simp only[List.lookup,q]
    exact(tP f g v r)
theorem tL f v:∀fs,f∈(iU f v fs).map (·.1)/\∀g,g∈fs.map (·.1)->g∈(iU f v fs).map (·.1)
 |[]=>⟨by simp[iU],fun g h=>by simp at h⟩
 | (k,x)::r=>by
  obtain⟨B,D⟩:=tL f v r;rw[show iU f v ((k,x)::r)=(if k=f then (k,v)::r else (k,x)::iU f v r) from rfl]
  by_cases q:k=f
  .grind
  .grind
theorem eP f v:∀fs,(iU f v fs).length<=fs.length+1
 |[]=>by simp[iU]
 | (k,x)::r=>by
  have q:=eP f v r;rw[show iU f v ((k,x)::r)=(if k=f then (k,v)::r else (k,x)::iU f v r) from rfl]
  by_cases g:k=f
  .grind
  .grind
def RelO.some_of(r:RelO (some v) o):∃u,o=some u/\RelV v u:=by
 cases o with
 |none=>exact r.elim
 |some u=>exact⟨u,rfl,r⟩
def RelO.none_of(r:RelO none o):o=none:=by
 cases o with
 |none=>rfl
 |some u=>exact r.elim
def Vg(r:RelV v u):PySem.W.handedIn u=true:=by
 cases v with
 |non=>cases r;rfl
 |bl b=>cases r;rfl
 |int i=>obtain⟨t,rfl⟩:=r;rfl
 |str x=>obtain⟨t,rfl⟩:=r;rfl
 |byt b=>obtain⟨t,rfl⟩:=r;rfl
 |flt b=>obtain⟨t,rfl⟩:=r;rfl
 |ref a=>cases r;rfl
 |ty n=>cases r;rfl
section
variable {P:Program}{w:World}{H H':Hp}{h h':Heap}{a C dx:Addr}{fs fs':List (Str×V)}
def yD(g:HOk P w H h)(e:H a=some (.ins C dx fs)):∃mA,ObjM h a dx C mA/\(∀f,RelO (fs.lookup f) (mA f))/\PySem.Within mA (fs.map (·.1))/\fs.length<=1000/\H dx=some (.own a):=by
 obtain⟨d,z,B,D,mA,n,r,q⟩:=(g a _ e);exact⟨mA,⟨D,n,B⟩,r,q,z,d⟩
end
structure Cls(K:De)(C:Addr):Prop where
 pg:PySem.W.plainGet K C Str.empty=true
 hd:PySem.W.hasDictIn K C=true
 po:PySem.W.plainOver K C=true
 sa:PySem.W.findIn K (.ref C) "__setattr__" = some (some (.builtin "object.__setattr__"))
def Cls.get{K}(c:Cls K C)f:PySem.W.plainGet K C f=true:=c.pg
def NoAttr(K:De)(C:Addr)(f:Str):Prop:=PySem.W.findIn K (.ref C) f=some none
def NoAttr.taker{K}(n:NoAttr K C f):PySem.W.takerIn K C f=some none:=by
 delta PySem.W.takerIn
 rw[show PySem.W.findIn K (.ref C) f=some none from n]
 rfl
structure Meth(K:De)(C:Addr)(m:Str)(f:Addr):Prop where
 at_:PySem.W.findIn K (.ref C) m=some (some (.ref f))
 fn:PySem.W.isFn K (.ref f)=true
 kp:PySem.W.keepIn K (.ref f)=true
section
variable {X:Cx}{pins:List (Addr×Obj)}{σ:St}{H:Hp}{s:Shared}{a C dx:Addr}{fs:List (Str×V)}{f:Str}{v:V}{A:Around}{E:Value->Shared->Prop}
def ZM(I:Inv X pins σ H s)(e:H a=some (.ins C dx fs))(c:Cls X.K C)(n:NoAttr X.K C f)(l:fs.lookup f=some v)(h:∀u s',Inv X pins σ H s'->RelV v u->Q u s'):wpAny (model X.prog X.w) A (getAttr (.ref a) f b) Q E s :=Xq (yD I.hok e) fun mA O r _ _ _=>zX (RelO.some_of (l▸r f)) fun u q g=>get_map I.kIn O (c.get f) c.hd n q (Vg g) (h u _ (I.tok _) g)
def ZL(I:Inv X pins σ H s)(e:H a=some (.ins C dx fs))(c:Cls X.K C)(k:Meth X.K C m g)(l:fs.lookup m=none)(h:Q (.ref g,[.ref a]) s):wpAny (model X.prog X.w) A (getMethod (.ref a) m q) Q E s :=Xq (yD I.hok e) fun mA O r _ _ _=>YO I.kIn O (c.get m) k.at_ k.fn (RelO.none_of (l▸r m)) h
def X9(I:Inv X pins σ H s)(e:H a=some (.ins C dx fs))(c:Cls X.K C)(n:NoAttr X.K C f)(hl:fs.length < 1000)(ry:RelV y u)(h:∀s',Inv X pins σ (upd H a (.ins C dx (iU f y fs))) s'->Q () s'):wpAny (model X.prog X.w) A (setAttr (.ref a) f u) Q E s:=by
 refine Xq (yD I.hok e) fun mA O r J _ D=>?_;have hz:(fs.map (·.1)).length<=sizeLine:=by rw[AB,B1];lia
 refine set_map I.kIn O c.sa c.po n.taker c.hd J hz fun h' B sb=>h _ ?_;have Y:∃o,h'.get? dx=some o:=let ⟨o,_,_,S,_⟩:=B.ns;⟨o,S⟩
 refine I.write (e▸True.intro) (.inr D) (fun b q U z=>(sb.2 b U).trans z) Y ⟨by rw[dQ O.ne];exact D,?_,O.ne,B.obj,_,B.ns,fun g=>?_,fun g Z=>?_⟩
 .have:=eP f y fs;lia
 .rw [tP]
  by_cases q:g=f
  .rwa [AZ q,AZ q]
  .grind
 .by_cases q:g=f
  .exact q▸(tL f y fs).1
  .refine (tL f y fs).2 g (J g fun z=>Z ?_)
   show(if g=f then some u else mA g)=none
   rwa [AX q]
def Inv.made(I:Inv X pins σ H s):Inv X pins σ (upd (upd H s.heap.objs.size (.own (s.heap.objs.size+1))) (s.heap.objs.size+1) (.ins C s.heap.objs.size []))
  { s with heap:=(s.heap.push PySem.W.emptyDict).push (PySem.W.instObj C s.heap.objs.size) }:=by
 have g:(s.heap.push PySem.W.emptyDict).get? s.heap.objs.size=some PySem.W.emptyDict:=AK s.heap rfl
 have J:((s.heap.push PySem.W.emptyDict).push (PySem.W.instObj C s.heap.objs.size)).get? (s.heap.objs.size+1)=some (PySem.W.instObj C s.heap.objs.size):=by
  have:=AK (s.heap.push PySem.W.emptyDict) (o:=PySem.W.instObj C s.heap.objs.size) rfl
  rwa [Bt] at this
 have D:=I.laid (o:=.own (s.heap.objs.size+1)) (h':=s.heap.push PySem.W.emptyDict) (t':=s.toks) (fun b u q=>AD _ q) (AH _) ⟨_,g⟩;refine D.laid (t':=s.toks) (fun b u q=>AD _ q) (B6 (Bt _ _)) ?_;have B:s.heap.objs.size≠s.heap.objs.size+1:=Ab (Br _);refine⟨by rw[dQ B,fQ],AY _,B,J,fun _=>none,(Heap.Ns1.of_empty (⟨PySem.W.emptyDict,#[],_,g,rfl,(fun e O=>absurd O (by simp)),fun _=>rfl⟩)).at fun o q=>AD _ q,fun _=>True.intro,fun y S=>absurd rfl S⟩
def attr_of(g:attributeBase e f env (eval e env)=eval e env)(h:wpAny (model prog w) A (eval e env) (fun o q=>wpAny (model prog w) A (getAttr o f true) Q E q) E s):wpAny (model prog w) A (eval (.Attribute e f pos) env) Q E s :=
 Attribute_any_ h (by rw[arm_eval_Attribute,g])
end
def tFld(K:De)(ta:TE)(f:Str):TE:=fun σ H Q=>ta σ H fun x H1=>∃a C dx fs v,x=.ref a/\H1 a=some (.ins C dx fs)/\Cls K C/\NoAttr K C f/\fs.lookup f=some v/\Q v H1
def sFld(K:De)(ta tv:TE)(f:Str):TS:=fun D σ H=>tv σ H fun y H1=>ta σ H1 fun x H2=>∃a C dx fs,x=.ref a/\H2 a=some (.ins C dx fs)/\Cls K C/\NoAttr K C f/\fs.length < 1000 /\
 D.nx σ (upd H2 a (.ins C dx (iU f y fs)))
section
variable {X:Cx}{o e value:Expr}{f:Str}{pos pos' tpos:Pos}{ta tv:TE}
def pe_fld(O:PE X e ta)(J:attributeBase e f X.env (eval e X.env)=eval e X.env):PE X (.Attribute e f pos) (tFld X.K ta f):=by
 intro pins s σ H Q I h;refine attr_of J (thn (O pins s σ H _ I h) fun u Z Y=>?_);obtain⟨x,H1,g,U,a,C,dx,fs,v,rfl,D,c,n,l,q⟩:=Y;obtain rfl:u=Value.ref a:=U;exact ZM g D c n l fun u' ab B S=>⟨v,H1,B,S,q⟩
def ps_fld(O:PE X o ta)(S:PE X value tv)(hs:swapsWith value (some (.Attribute o f pos')) pos.line X.env=pure false):PS X (.Assign [.Attribute o f pos'] value pos) (sFld X.K ta tv f):=by
 intro pins s σ H ae I h;refine plainObj_wpAny_Assign_Attribute (thn (S pins s σ H _ I h) fun u ab zz=>uZ zz fun y H1 g ry q=> thn (O pins ab σ H1 _ g q) fun U af zq=>?_) hs;obtain⟨x,H2,B,Z,a,C,dx,fs,rfl,J,c,n,l,Y⟩:=zq;obtain rfl:U=Value.ref a:=Z;exact X9 B J c n l ry fun ag D=>⟨σ,_,D,Y⟩
end
section
variable {X:Cx}{pins:List (Addr×Obj)}{σ:St}{H:Hp}{s:Shared}{A:Around}{E:Value->Shared->Prop}{Q:Value->Shared->Prop}{c:Value}{b:Bool}
inductive yL(K:De)(H:Hp):V->Value->Prop where
 |non:yL K H .non (.type "NoneType")
 |bl (x:Bool):yL K H (.bl x) (.type "bool")
 |int (i:Int):yL K H (.int i) (.type "int")
 |str (x:Str):yL K H (.str x) (.type "str")
 |flt (x:UInt64):yL K H (.flt x) (.type "float")
 |lst {a:Addr} {xs:List V} (e:H a=some (.lst xs)):yL K H (.ref a) (.type "list")
 |frz {a:Addr} {o:Obj} {xs:List V} (e:H a=some (.frz o (.lst xs))):yL K H (.ref a) (.type "list")
 |tup {a:Addr} {xs:List V} (e:H a=some (.tup xs)):yL K H (.ref a) (.type "tuple")
 |dK {a:Addr} {kvs:List (Key×V)} (e:H a=some (.dK kvs)):yL K H (.ref a) (.type "dict")
 |dT {a:Addr} {kvs:List (List Key×V)} (e:H a=some (.dT kvs)):yL K H (.ref a) (.type "dict")
 |ins {a C dx:Addr} {fs:List (Str×V)} (e:H a=some (.ins C dx fs)) (cl:Cls K C) (ha:PySem.W.findIn K (.ref C) "__class__" = some (some (.builtin "object.__class__")))
   (hn:PySem.W.specialIn K (.builtin "object.__class__") "__get__" = some (some (.builtin "getset_descriptor.__get__"))) (htk:PySem.W.takesIn K (.builtin "object.__class__")=some true)
   (hm:PySem.W.mroIn K C (.type "object")=some true):yL K H (.ref a) (.ref C)
def Vc(I:Inv X pins σ H s)(q:RelV x u)(ty:yL X.K H x t)(e:PySem.W.kitOne X.K t c=some b)(h:∀Z,Q (.bool b) { s with toks:=Z }):
  wpAny (model X.prog X.w) A (call (.builtin "isinstance") [u,c]) Q E s:=by
 cases ty with
 |non=>cases q;exact BK PySem.W.kitx_none I.kIn True.intro e (fun z=>nomatch z) h
 |bl y=>cases q;exact BK PySem.W.kitx_bool I.kIn True.intro e (fun z=>nomatch z) h
 |int i=>obtain⟨t,rfl⟩:=q;exact BK PySem.W.kitx_int I.kIn True.intro e (fun z=>nomatch z) h
 |str y=>obtain⟨t,rfl⟩:=q;exact BK PySem.W.kitx_str I.kIn True.intro e (fun z=>nomatch z) h
 |flt y=>obtain⟨t,rfl⟩:=q;exact BK PySem.W.kitx_float I.kIn True.intro e (fun z=>nomatch z) h
 |@lst a xs g =>
  cases q;obtain⟨_,_,n,_,h1⟩:=(I.hok a _ g);exact BK DF I.kIn ⟨_,h1,rfl⟩ e (fun z=>nomatch z) h
 |@frz a ob xs g =>
  cases q;obtain⟨_,_,_,n,_,h1⟩:=(I.hok a _ g);exact BK DF I.kIn ⟨_,h1,rfl⟩ e (fun z=>nomatch z) h
 |@tup a xs g =>
  cases q;obtain⟨_,_,_,p⟩:=(I.hok a _ g);exact jK p fun o h1 h2 _=>BK PySem.W.kitx_tuple I.kIn ⟨o,h1,h2⟩ e (fun z=>nomatch z) h
 |@dK a kvs g =>
  cases q;obtain⟨_,_,vs,_,p⟩:=(I.hok a _ g);exact iS p fun o es ep h1 h2 _=>BK DG I.kIn ⟨o,h1,h2.1⟩ e (fun z=>nomatch z) h
 |@dT a kvs g =>
  cases q;obtain⟨_,_,xs,_,o,es,ep,h1,h2,_⟩:=(I.hok a _ g);exact BK DG I.kIn ⟨o,h1,h2.1⟩ e (fun z=>nomatch z) h
 |@ins a C dx fs g B D U Y S =>
  cases q;obtain⟨mA,O,_⟩:=(yD I.hok g);obtain⟨od,J,_⟩:=O.look;exact BK (PySem.W.kitx_own (B.get _) B.hd D U Y S) I.kIn J e (fun z=>nomatch z) h
end
structure Room(k:Nat)(A:Around):Prop where
 hd:A.handled=none
 dp:A.depth+3 * k+5 < recursionLimit
 un:A.units+16 * k+200 < cLine
def Room.mono(r:Room k A)(h:j<=k):Room j A:=⟨r.hd,by have:=r.dp;lia,by have:=r.un;lia⟩
def Room.deeper(r:Room (k+1) A)env:Room k (A.deeper env) :=
 ⟨r.hd,by have:=r.dp;show A.depth+1+3 * k+5 < _;lia,by have:=r.un;show A.units+3+16 * k+200 < _;lia⟩
def Zt{A:Around}: (A.under (.builtin "type.__call__" ⟨.ref C::q,g⟩)).depth=A.depth+1:=by
 first | rfl | simp[ Code.weight]
def Zs{A:Around}: (A.under (.builtin "type.__call__" ⟨.ref C::q,g⟩)).units=A.units+1:=by
 first | rfl | simp[ Code.cUnits]
def Room.make(r:Room (k+1) A)C q g:Room k (A.under (.builtin "type.__call__" ⟨.ref C::q,g⟩)) :=
 ⟨r.hd,by have:=r.dp;rw[Zt];lia,by have:=r.un;rw[Zs];lia⟩
def Room.depth(r:Room k A):A.depth < recursionLimit:=by have:=r.dp;lia
def Room.units(r:Room k A):A.units+64 < cLine:=by have:=r.un;lia
def tNil:TA:=fun _ H Q=>Q [] H
def V5(ta:TE)(g:TA):TA:=fun σ H Q=>ta σ H fun x H1=>g σ H1 fun xs H2=>Q (x::xs) H2
section
variable {X:Cx}{e:Expr}{es:List Expr}{te:TE}{t:TA}{pos:Pos}
def pa_nil:PA X [] tNil:=fun _ _ _ _ H Q I h=>Calls.spliced_nil ⟨[],H,I,.nil,h⟩
def pa_cons(D:PE X e te)(J:PA X es t)(hs:starEach (e::es) X.env=(false,eval e X.env)::starEach es X.env:=by rfl):PA X (e::es) (V5 te t):=by
 intro pos pins s σ H Q I h;exact hs▸Calls.spliced_cons (thn (D pins s σ H _ I h) fun u Z g=>uZ g fun x H1 q U O=> thn (J pos pins Z σ H1 _ q O) fun ae ab g=>uZ g fun xs H2 B Y S=> ⟨x::xs,H2,B,.cons U Y,S⟩)
inductive INew(o:List V->HO)(Q:VK)(xs:List V)(H:Hp):Prop
 |mk(h:xs.length<=sizeLine)(q:∀p,H p=none->Q (.ref p) (upd H p (o xs)))
def tTup(t:TA):TE:=fun σ H Q=>t σ H (INew .tup Q)
def tLst(t:TA):TE:=fun σ H Q=>t σ H (INew .lst Q)
def pe_tup{O}(h:PA X es t):PE X (.Tuple es O pos) (tTup t):=by
 intro pins s σ H Q I D;refine wpAny_Tuple_spliced (thn (h pos pins s σ H _ I D) fun J g ⟨xs,H1,B,r,z,q⟩=>⟨by exact r.length▸z,?_⟩);refine⟨.ref g.heap.objs.size,upd H1 g.heap.objs.size (.tup xs),B.laid (t':=g.toks) (fun b u e=>AD _ e) (AH _) ?_,rfl,q _ (B.hok.fresh (AH _))⟩;exact⟨z,J,r,⟨_,AK _ rfl,rfl,⟨_,rfl⟩,rfl⟩⟩
def pe_lst(h:PA X es t):PE X (.List es pos) (tLst t):=by
 intro pins s σ H Q I D;refine wpAny_List_spliced (thn (h pos pins s σ H _ I D) fun J g ⟨xs,H1,B,r,z,q⟩=>⟨by exact r.length▸z,?_⟩);refine⟨.ref g.heap.objs.size,upd H1 g.heap.objs.size (.lst xs),B.laid (t':=g.toks) (fun b u e=>AD _ e) (AH _) ?_,rfl,q _ (B.hok.fresh (AH _))⟩;exact⟨z,J,0,r,AK _ rfl⟩
end
abbrev Sp:=List V->Hp->VK->XK->Prop
abbrev CXT:=List Env->Hp->Shared->XK->Value->Shared->Prop
structure Env0(P:Program)(w:World)(K:De)(mg:Str->Option Value)(base:Heap)(A:Around)(outer:List Env)(s:Shared)(H:Hp):Prop where
 frames:A.frames=some outer
 mod:Mod K mg base
 bs:∀b o,base.get? b=some o->s.heap.get? b=some o/\H b=none
 bsz:base.objs.size<=s.heap.objs.size
 funs:s.heap.FunFrames base outer
 frf:∀b∈frs outer,H b=none
 hok:HOk P w H s.heap
 bare:AllBare s.gens
def CE(g:List Env)(P:Program)(w:World)(H:Hp)(s:Shared)(Q:VK)(u:Value)(s':Shared):Prop :=
 ∃v H',s'.os=s.os/\AllBare s'.gens/\Un (frs g) [] H H' s.heap s'.heap/\HOk P w H' s'.heap/\RelV v u/\Q v H'
def CR(CX:CXT)(g:List Env)(P:Program)(w:World)(H:Hp)(s:Shared)(Q:VK)(E:XK)(r:Result)(s':Shared):Prop :=
 match r with
 |.ok (.ret u)=>CE g P w H s Q u s'
 |.ok _=>False
 |.error e=>CX g H s E e s'
structure FnOk(P:Program)(w:World)(K:De)(mg:Str->Option Value)(base:Heap)(CX:CXT)(k:Nat)(f:Addr)(fd:FuncData)(ps:List Str)(sp:Sp):Prop where
 len:∀vs H Q E,sp vs H Q E->vs.length=ps.length
 run:∀(A:Around)(outer:List Env)(s:Shared)(H:Hp)(args:Args)(us:List Value)(vs:List V)(Q:VK)(E:XK),Room k A->Env0 P w K mg base A outer s H->BindsTo s fd args (ps.zip us)->Vals vs us->sp vs H Q E ->
  codeAny (model P w) A (.call (.ref f) args) (CR CX outer P w H s Q E) s
def FnOk.mono{K}(F:FnOk P w K mg base CX j f fd ps sp)(h:j<=k):
  FnOk P w K mg base CX k f fd ps sp:=⟨F.len,fun A B s H g D vs Q E q=>F.run A B s H g D vs Q E (q.mono h)⟩
def Env0.make{K}(e:Env0 P w K mg base A q s H)C B g:
  Env0 P w K mg base (A.under (.builtin "type.__call__" ⟨.ref C::B,g⟩)) q s H:=⟨by first | exact e.frames | (simpa [Around.under,Code.envs,Code.isFrame,pushEnvs] using e.frames),e.mod,e.bs,e.bsz,e.funs,e.frf,e.hok,e.bare⟩
section
variable {X:Cx}{pins:List (Addr×Obj)}{σ:St}{H:Hp}{s s':Shared}
def Inv.env0(I:Inv X pins σ H s):Env0 X.prog X.w X.K X.mg X.base X.A X.stack s H :=
 ⟨I.ok.frames,I.ok.mod,I.bs,AW I.ok.bsz I.sz,I.stack,I.stkFree,I.hok,I.bare⟩
def Inv.after(I:Inv X pins σ H s)(h:CE X.stack X.prog X.w H s Q u s'):EP X pins σ Q u s':=by
 refine el26 h fun v H' O B U J r q=>?_;obtain⟨D,g,d,t,S⟩:=s';obtain rfl:S=s.os:=O;exact⟨v,H',I.call (h':=D) (g':=g) (d':=d) (t':=t) U J B (fun b z=>absurd z (by simp)),r,q⟩
end
def V6(sp:Sp)(dvs:List V)(E:XK)(t:TA):TE:=fun σ H Q=>t σ H fun vs H1=>sp (vs++dvs) H1 Q E
def tMeth(C:Addr)(m:Str)(sp:Sp)(dvs:List V)(E:XK)(ta:TE)(t:TA):TE:=fun σ H Q=>ta σ H fun x H1=>∃a dx fs,x=.ref a/\H1 a=some (.ins C dx fs)/\fs.lookup m=none /\
 t σ H1 fun vs H2=>sp (x::(vs++dvs)) H2 Q E
def tMake(C:Addr)(sp:Sp)(dvs:List V)(E:XK)(t:TA):TE:=fun σ H Q=>t σ H fun vs H1=>∀x dx,H1 x=none->H1 dx=none->dx≠x ->
 sp (.ref x::(vs++dvs)) (upd (upd H1 dx (.own x)) x (.ins C dx [])) (fun v H2=>v=.non/\Q (.ref x) H2) E
def Binds(K:De)(fd:FuncData)(ps:List Str)(ds:List Value):Prop :=
 ∀(s:Shared)(g:List Value),K.In s.heap->(g++ds).length=ps.length->BindsTo s fd ⟨g,[]⟩ (ps.zip (g++ds))
def Binds.all{K}(h:∀g:List Value,g.length=ps.length->bindArgs fd ⟨g,[]⟩=pure (ps.zip g)):Binds K fd ps []:=fun s g _ q=>by
 rw[Ah] at q ⊢;exact .of_eq (h g q)
def fY(CX:CXT)(X:Cx)(E:XK):Prop:=∀(pins:List (Addr×Obj))(σ:St)(H:Hp)(s:Shared)(e:Value)(s':Shared),Inv X pins σ H s->CX X.stack H s E e s'->X.xe e s'
section
variable {X:Cx}{CX:CXT}{k:Nat}{f C:Addr}{fd:FuncData}{ps:List Str}{sp:Sp}{dvs:List V}{ds:List Value}{E:XK}{x m:Str}{p pos apos:Pos}{e o:Expr}{es:List Expr}{ta:TE}{t:TA}
def Wa{σ:St}(F:FnOk X.prog X.w X.K X.mg X.base CX k f fd ps sp)(U:Room k X.A)(J:Binds X.K fd ps ds)(O:Vals dvs ds)(Y:fY CX X E)(I:Inv X pins σ H s)(r:Vals vs q)(h:sp (vs++dvs) H Q E):wpAny (model X.prog X.w) X.A (call (.ref f) q) (EP X pins σ Q) X.xe s:=by
 have B:=r.append O;have S :=B.length▸F.len _ _ _ _ h;refine wpAny_call (DP (F.run X.A X.stack s H ⟨q,[]⟩ (q++ds) (vs++dvs) Q E U I.env0 (J s q I.kIn S) B h) fun r s' g=>?_)
 cases r with
 |error e=>exact Y pins σ H s e s' I g
 |ok D =>
  cases D with
  |ret u=>exact I.after g
  |next=>exact False.elim g
  |brk=>exact False.elim g
  |cont=>exact False.elim g
def pe_call(F:FnOk X.prog X.w X.K X.mg X.base CX k f fd ps sp)(hr:Room k X.A)(S:Gl X x)(Y:X.mg x=some (.ref f))(U:PySem.W.keepIn X.K (.ref f)=true)(B:Binds X.K fd ps ds)(D:Vals dvs ds)(hx:fY CX X E)(q:PA X (e::es) t)(J:(x==("__debug__" : Str))=false:=by decide)(O:starEach (e::es) X.env=(false,eval e X.env)::starEach es X.env:=by rfl)(Z:(backTo pos (starEach es X.env)).any (·.1)=false:=by rfl):
  PE X (.Call (.Name x p) (e::es) [] pos) (V6 sp dvs E t):=by
 intro pins s σ H Q I h;exact Cv (nA I S Y (PySem.W.callWith_K I.ok.mod.kin U (thn (q pos pins s σ H _ I h) fun af ae zz=>uZ zz fun vs H1 g r ab=> ⟨g.kIn,Wa F hr B D hx g r ab⟩) O Z) J)
def pe_meth{pl}(Y:PE X o ta)(c:Cls X.K C)(B:Meth X.K C m f)(F:FnOk X.prog X.w X.K X.mg X.base CX k f fd ps sp)(hr:Room k X.A)(S:Binds X.K fd ps ds)(U:Vals dvs ds)(hx:fY CX X E)(O:PA X (e::es) t)(ab:starEach (e::es) X.env=(false,eval e X.env)::starEach es X.env:=by rfl)(Z:(backTo pos (starEach es X.env)).any (·.1)=false:=by rfl)(ht:eval (.Call (.Attribute o m apos) (e::es) [] pos) X.env=(do
   let D <- eval o X.env
   standAt apos.atName
   let (f,first) <- holding [D] (getMethod D m pl)
   callWith pos f first (backTo pos (starEach (e::es) X.env)) (backToKw pos (keywordEach [] X.env))):=by rfl):
  PE X (.Call (.Attribute o m apos) (e::es) [] pos) (tMeth C m sp dvs E ta t):=by
 intro pins s σ H Q I h;refine PySem.W.methodCall_KW (thn (Y pins s σ H _ I h) fun u af zq=>?_) ht;obtain⟨x,H1,g,rx,a,dx,fs,rfl,J,l,ae⟩:=zq;obtain rfl:u=Value.ref a:=rx;exact ZL g J c B l (PySem.W.callWith_K I.ok.mod.kin B.kp (thn (O pos pins af σ H1 _ g ae) fun ah ag zz=>uZ zz fun vs H2 q r q2=> ⟨q.kIn,Wa (vs:=.ref a::vs) F hr S U hx q (.cons rfl r) q2⟩) ab Z)
structure Mk(K:De)(C f:Addr):Prop where
 makes:PySem.W.makesIn K C=true
 init:PySem.W.findIn K (.ref C) "__init__" = some (some (.ref f))
 fn:PySem.W.isFn K (.ref f)=true
 kp:PySem.W.keepIn K (.ref C)=true
def V9{σ:St}(M:Mk X.K C f)(F:FnOk X.prog X.w X.K X.mg X.base CX k f fd ps sp)(hr:Room (k+1) X.A)(U:Binds X.K fd ps ds)(Y:Vals dvs ds)(hx:fY CX X E)(I:Inv X pins σ H s)(r:Vals vs g)(h:∀x dx,H x=none->H dx=none->dx≠x->sp (.ref x::(vs++dvs)) (upd (upd H dx (.own x)) x (.ins C dx [])) (fun v H2=>v=.non/\Q (.ref x) H2) E):
  wpAny (model X.prog X.w) X.A (call (.ref C) g) (EP X pins σ Q) X.xe s:=by
 have D:=h (s.heap.objs.size+1) s.heap.objs.size (I.hok.fresh (Bm _)) (I.hok.fresh (AH _)) (Ab (Br _));have B:=Inv.made (C:=C) I;have J:Vals (V.ref (s.heap.objs.size+1)::(vs++dvs)) (Value.ref (s.heap.objs.size+1)::(g++ds)):=.cons rfl (r.append Y)
 have Z:(Value.ref (s.heap.objs.size+1)::g++ds).length=ps.length:=by
  have e:=J.length;rw[F.len _ _ _ _ D] at e;exact e.symm
 refine wpAny_call (Yg I.kIn M.makes M.init (beq_iff_eq.mp M.fn) (DP (F.run _ X.stack _ _ ⟨Value.ref (s.heap.objs.size+1)::g,[]⟩ (Value.ref (s.heap.objs.size+1)::(g++ds)) _ _ E (hr.make C g [])
  (B.env0.make C g []) (U _ (Value.ref (s.heap.objs.size+1)::g) B.kIn Z) J D) fun r s' q=>?_))
 cases r with
 |error e=>exact hx pins σ _ _ e s' B q
 |ok S =>
  cases S with
  |ret u =>
   obtain⟨v,H',O,rv,rfl,q3⟩:=B.after q;exact⟨rv,⟨V.ref (s.heap.objs.size+1),H',O,rfl,q3⟩⟩
  |next=>exact False.elim q
  |brk=>exact False.elim q
  |cont=>exact False.elim q
def pe_make(M:Mk X.K C f)(F:FnOk X.prog X.w X.K X.mg X.base CX k f fd ps sp)(Z:Room (k+1) X.A)(S:Gl X x)(U:X.mg x=some (.ref C))(B:Binds X.K fd ps ds)(D:Vals dvs ds)(hx:fY CX X E)(q:PA X (e::es) t)(J:(x==("__debug__" : Str))=false:=by decide)(O:starEach (e::es) X.env=(false,eval e X.env)::starEach es X.env:=by rfl)(Y:(backTo pos (starEach es X.env)).any (·.1)=false:=by rfl):
  PE X (.Call (.Name x p) (e::es) [] pos) (tMake C sp dvs E t):=by
 intro pins s σ H Q I h;exact Cv (nA I S U (PySem.W.callWith_K I.ok.mod.kin M.kp (thn (q pos pins s σ H _ I h) fun af ae zz=>uZ zz fun vs H1 g r ab=> ⟨g.kIn,V9 M F Z B D hx g r ab⟩) O Y) J)
end
structure FnScope(N P:List Str)(sc:Scope):Prop where
 kind:sc.kind=.function
 co:sc.isCoroutine=false
 gen:sc.isGenerator=false
 nd:N.Nodup
 pre:N.take P.length=P
 par:∀x∈P,sc.names.lookup x=some .local\/sc.names.lookup x=some .cell
 nofree:∀y∈sc.names,y.2≠.free
theorem mE{B}: ∀{g}{m},(∀v,(x,v)∉g)->bindL B g m x=m x
 |[],_,_=>rfl
 | (n,v)::r,m,h=>by
  unfold bindL;rw[mE fun w q=>h w (AL _ q)]
  split
  .grind
  .rfl
theorem pE{B}: ∀{g}{m},(∀v,(x,v)∉g)->bindC B g m x=m x
 |[],_,_=>rfl
 | (n,v)::r,m,h=>by
  unfold bindC;rw[pE fun w q=>h w (AL _ q)]
  split
  .rfl
  .grind
theorem fE{q}: ∀{P:List Str}{vs}{i:Nat}{m},P.Nodup->P[i]?=some x->vs[i]?=some v->q x=some .local ->
  bindL q (P.zip vs) m x=some v
 |[],_,_,_,_,h,_,_=>by simp at h
 |_::_,[],_,_,_,_,h,_=>by simp at h
 |p::P,w::vs,0,m,nd,h1,h2,g=>by
  simp at h1 h2;subst h1;subst h2
  show bindL q ((p,w)::P.zip vs) m p=_;unfold bindL;rw[mE fun v B=>(Ba.mp nd).1 (Cn B).1,AZ g]
  simp
 |p::P,w::vs,i+1,m,nd,h1,h2,g=>by
  unfold bindL;exact fE (Ba.mp nd).2 (by simpa using h1) (by simp_all) g
theorem dE{q}: ∀{P:List Str}{vs}{i:Nat}{m},P.Nodup->P[i]?=some x->vs[i]?=some v->q x≠some .local ->
  bindC q (P.zip vs) m x=some v
 |[],_,_,_,_,h,_,_=>by simp at h
 |_::_,[],_,_,_,_,h,_=>by simp at h
 |p::P,w::vs,0,m,nd,h1,h2,g=>by
  simp at h1 h2;subst h1;subst h2
  show bindC q ((p,w)::P.zip vs) m p=_;unfold bindC;rw[pE fun v B=>(Ba.mp nd).1 (Cn B).1,AX g]
  simp
 |p::P,w::vs,i+1,m,nd,h1,h2,g=>by
  unfold bindC;exact dE (Ba.mp nd).2 (by simpa using h1) (by simp_all) g
def start(N:List Str)(vs:List V):St:=vs.map some++List.replicate (N.length - vs.length) none
def Xx(CX:CXT)(P:Program)(w:World)(K:De)(mg:Str->Option Value)(base:Heap)(N:List Str)(B:Str)(D:Scope)(f:Addr)(g:Value)(A:Around)(q:List Env)(s:Shared)(H:Hp)(E:XK):Cx where
 prog:=P
 w:=w
 K:=K
 mg:=mg
 base:=base
 A:=A.deeper (envOfC B D s.heap.objs.size f g)
 N:=N
 s₀:=s
 H₀:=H
 env:=envOfC B D s.heap.objs.size f g
 outer:=q
 stack:=envOfC B D s.heap.objs.size f g::q
 ex:=[]
 calm:=true
 fn:=fun _=>true
 pn:=[]
 xe:=fun e s'=>wpAny (model P w) (A.deeper (envOfC B D s.heap.objs.size f g)) (leaving (envOfC B D s.heap.objs.size f g) e) (fun _ I=>CX q H s E e I) (fun J I=>CX q H s E J I) s'
def dR{sc:Scope}(h:sc.names.lookup x=some .cell):∃c,(cellsFrom n sc.names []).lookup x=some c :=Option.isSome_iff_exists.mp (PySem.W.cellsFrom_some sc.names n [] (.inl h))
def Vd{K}(S:FnScope N ps q)(ag:A.handled=none)(g:Env0 P w K mg base A ab s H)(hl:vs.length=ps.length)(r:Vals vs af)(x:InCallC s s.heap.objs.size (bindL (envOfC O q s.heap.objs.size f I).kindOf (ps.zip af) fun _=>none) (cellsFrom (s.heap.objs.size+1) q.names []) (bindC (envOfC O q s.heap.objs.size f I).kindOf (ps.zip af) fun _=>none) ah):
  Inv (Xx CX P w K mg base N O q f I A ab s H E) [] (start N vs) H ah:=by
 have ai:ps.length<=N.length:=by have:=Bk List.length S.pre;rw[An] at this;lia
 obtain⟨h1,tk,rfl,U⟩:=x.done;have J:∀b:Addr,b∉(Xx CX P w K mg base N O q f I A ab s H E).ex:=fun b z=>absurd (show b∈([]:List Addr) from z) (by simp)
 refine⟨⟨g.mod,S.kind,rfl,rfl,AH _,fun y z c h1 h2=>?_,fun y D=>?_,fun y c _ h=>?_,fun _=>ag,Around.frames_deeper g.frames,.inr ⟨rfl,rfl⟩,fun b z=>absurd z (J b),g.bs,g.bsz,fun b _ _=>J b,fun b z=>absurd z (J b),g.funs,g.frf⟩,
  rfl,g.bare,Un.kept U,⟨_,x.toInCall.ns,fun i y v h1 h2 h3=>?_⟩,fun y c h=>⟨_,x.cell y c h⟩,g.hok.fresh (AH _),fun y c h=>?_,fun p B=>absurd (show p∈([]:List (Addr×Obj)) from B) (by simp),g.hok.kept U,?_⟩
 .exact name_of_addr x.apart (CK h1) (CK h2)
 .rcases D with D | D
  .exact dR D
  .exact absurd rfl (S.nofree _ (CK D))
 .exact Bc (x.above y c (CK h))
 .have hi:i < vs.length:=by
   unfold start at h2
   by_cases hi:i < vs.length
   .exact hi
   .grind
  have ha:vs[i]?=some v:=by
   unfold start at h2;rw[CJ (by simp_all),A0] at h2
   cases e:vs[i]? with
   |none=>rw[e] at h2;cases h2
   |some a=>rw[e] at h2;cases h2;rfl
  obtain⟨u,Y,rv⟩:=(r.get ha)
  have B:ps[i]?=some y:=by
   rw[<- S.pre,List.getElem?_take_of_lt (by lia)];exact h1
  have Z :=S.pre▸S.nd.sublist (List.take_sublist _ _);refine⟨u,rv,?_⟩
  rcases S.par y (Ae B) with k | k
  .exact .inl ⟨k,fE Z B Y k⟩
  .obtain ⟨c,e⟩:=dR k
   refine .inr ⟨.inl k,c,e,?_⟩;have ae:=x.cell y c e;rw[dE Z B Y (by show q.names.lookup y≠_;rw[k];decide)] at ae;exact ae
 .exact g.hok.fresh (Bc (x.above y c (CK h)))
 .delta start
  show _=N.length;rw[AN,AB,Bi]
  lia
def fn_of{K}{ah ae aj B ct oc}(lk:K.lookup f=some ⟨oc,od,.func (PySem.W.fnOf name O av ab g dV ah ae aj ak B ct),az⟩)(aq:PySem.W.codeIn K B O=true)(S:FnScope N ps g)(ai:∀vs H Q E,sp vs H Q E->vs.length=ps.length)(ao:∀(A:Around)(I:List Env)(s:Shared)(H:Hp)(vs:List V)(Q:VK)(E:XK),Room k (A.deeper (envOfC O g s.heap.objs.size f B))->sp vs H Q E ->
   ∃t,PSs (Xx CX P w K mg base N O g f B A I s H E) ab t/\t { nx:=fun _ H'=>Q .non H',rt:=Q } (start N vs) H):
  FnOk P w K mg base CX (k+1) f (PySem.W.fnOf name O av ab g dV ah ae aj ak B ct) ps sp:=by
 refine⟨ai,fun A I s H ay ax vs Q E Y D hb r ag=>?_⟩;have Z:=D.mod.kin.keeps fun b o e=>(D.bs b o e).1
 have au:∀y∈ps.zip ax,g.names.lookup y.1=some .local\/(g.names.lookup y.1=some .cell/\((cellsFrom (s.heap.objs.size+1) g.names []).lookup y.1).isSome=true):=fun⟨n,v⟩ hy=>by
  rcases S.par n (Cn hy).1 with q | q
  .exact .inl q
  .exact .inr ⟨q,PySem.W.cellsFrom_some _ _ _ (.inl q)⟩
 refine codeAny_call_function Y.depth (Z _ _ lk) rfl S.co S.gen rfl (PySem.W.codeRec_of Z aq) (hb _ _ _ _ (wpAny_newFunctionEnv_cells S.kind au fun env ar aw x=>?_));subst ar;refine⟨(D.mod.nolimit.keeps fun b o e=>(D.bs b o e).1).keeps x.toInCall.keep,codeAny_func (zX (ao A I s H vs Q E (Y.deeper _) ag) fun t ht hq=>BM (ht [] aw (start N vs) H _ (Vd S Y.hd D (ai _ _ _ _ ag) r x) hq) (fun fl s' hs=>?_) fun e s' hs=>hs)⟩
 have af:∀{U:St}{H':Hp}{v:V}{u:Value},Inv (Xx CX P w K mg base N O g f B A I s H E) [] U H' s'->RelV v u->Q v H'->CE I P w H s Q u s' :=
  fun {U H' v u}J rv q=>⟨v,H',J.os,J.bare,J.base,J.hok,rv,q⟩
 cases fl with
 |ret u =>
  exact iS hs fun v U H' J rv q=>af J rv q
 |next =>
  exact mG hs fun U H' J q=>af (v:=V.non) J rfl q
 |brk =>
  exact mG hs fun _ _ _ q=>False.elim q
 |cont =>
  exact mG hs fun _ _ _ q=>False.elim q
section
variable {X:Cx}{x:Str}{p pos:Pos}{e:Expr}{es:List Expr}{t:TA}{id T:String}{r:List V->Hp->VK->Prop}
def tCB(r:List V->Hp->VK->Prop)(t:TA):TE:=fun σ H Q=>t σ H fun vs H1=>r vs H1 Q
def WN(B:CallR X (.builtin id) r)(O:Gl X x)(S:X.mg x=none)(Z:bootBuiltins x=some (.builtin id))(q:PA X (e::es) t)(U:x ≠ "__name__":=by decide)(D:(x==("__debug__" : Str))=false:=by decide)(J:starEach (e::es) X.env=(false,eval e X.env)::starEach es X.env:=by rfl)(Y:(backTo pos (starEach es X.env)).any (·.1)=false:=by rfl):PE X (.Call (.Name x p) (e::es) [] pos) (tCB r t):=by
 intro pins s σ H Q I h;exact Cv (sA I O S Z (PyProof.Rows.callWith_builtin1 (thn (q pos pins s σ H _ I h) fun ae ab zz=>uZ zz fun vs H1 g r1 q1=> B pins ab σ H1 vs ae Q g r1 q1) J Y) U D)
def KR(B:CallR X (.type T) r)(O:Gl X x)(S:X.mg x=none)(Z:bootBuiltins x=some (.type T))(q:PA X (e::es) t)(U:x ≠ "__name__":=by decide)(D:(x==("__debug__" : Str))=false:=by decide)(J:starEach (e::es) X.env=(false,eval e X.env)::starEach es X.env:=by rfl)(Y:(backTo pos (starEach es X.env)).any (·.1)=false:=by rfl):PE X (.Call (.Name x p) (e::es) [] pos) (tCB r t):=by
 intro pins s σ H Q I h;exact Cv (sA I O S Z (PyProof.Rows.callWith_type1 (thn (q pos pins s σ H _ I h) fun ae ab zz=>uZ zz fun vs H1 g r1 q1=> B pins ab σ H1 vs ae Q g r1 q1) J Y) U D)
end
end L2
namespace HT
open PySem PyProof.Rows
section
variable {prog:Program}{w:World}{A:Around}{E:Value->Shared->Prop}{s:Shared}
def cat_tup(ht:IsTup s.heap t vs.toArray)(hb:IsTup s.heap b g.toArray)(hv:vs≠[])(h1:g=[]->Q (.ref t) s)(h2:g≠[]->Q (.ref s.heap.objs.size) { s with heap:=s.heap.push { cls:=.type "tuple",data:=.seq (vs++g).toArray } })(hsz:vs.length+g.length<=sizeLine):wpAny (model prog w) A (binaryOp .Add (.ref t) (.ref b)) Q E s:=by
 obtain⟨⟨Y,I,Z,S⟩,q,hc,n,ae⟩:=id ht;obtain⟨⟨ag,J,ah,U⟩,B,ab,O,af⟩:=id hb;subst hc ae ab af;have e:vs.toArray++g.toArray=(vs++g).toArray:=by simp
 by_cases D:g=[]
 .exact concat_meets ⟨_,q,rfl⟩ ⟨_,B,rfl⟩ noFill_tuple_add seq_tuple_add DQ DM (DL _ _)
   (tuple_addW1 t b vs.toArray g.toArray n O I J S U (by grind) (by simp[D])) ⟨q,B,h1 D⟩
 .refine concat_meets ⟨_,q,rfl⟩ ⟨_,B,rfl⟩ noFill_tuple_add seq_tuple_add DQ DM (DL _ _)
   (tuple_addW2 t b vs.toArray g.toArray n O I J S U (by simpa using hv) (by grind) (by grind)) ⟨q,B,?_⟩
  exact e▸h2 D
def sIx(n d:Nat):Option Int->Nat
 |none=>d
 |some v=>if v < 0 then (v+(n:Int)).toNat else min v.toNat n
def sIx_none n d:sIx n d none=d:=rfl
def sIx_nat(n d k:Nat):sIx n d (some k )=min k n:=by
 show(if (k:Int) < 0 then ((k:Int)+(n:Int)).toNat else min (k:Int).toNat n)=min k n;rw[AX (by lia),DI]
def Kg v(n d:Nat):(if v < 0 then max (v+(n:Int)) 0 else min v n )=((sIx n d (some v):Nat):Int):=by
 show(if v < 0 then max (v+(n:Int)) 0 else min v (n:Int))=(((if v < 0 then (v+(n:Int)).toNat else min v.toNat n):Nat):Int)
 by_cases g:v < 0
 .lia
 .grind
def Jc lo hi(n:Nat):Builtin.Slice.sliceAdjust lo hi 1 n=(( sIx n 0 lo:Int),( sIx n n hi:Int)):=by
 refine Prod.ext ?_ ?_
 .cases lo with
  |none=>rfl
  |some v=>exact Kg v n 0
 .cases hi with
  |none=>rfl
  |some v=>exact Kg v n n
def Zg(i j:Nat):Builtin.Slice.slicePlaces i j 1=j - i :=by grind[Builtin.Slice.slicePlaces]
def tN(p:IsPart v o)(h:Q o s):wpAny (model prog w) A (Builtin.Slice.slicePartIndex v) Q E s:=by
 cases p with
 |none=>exact slicePart_none h
 |int i t=>exact slicePart_int h
def fL{lo}{Q:Int×Int×Nat->Shared->Prop}(hs:s.heap.IsSliceOf I J O .none)(B:IsPart J lo)(D:IsPart O hi)(h:Q (( sIx n 0 lo:Int),1,sIx n n hi - sIx n 0 lo) s):wpAny (model prog w) A (Builtin.Slice.sliceApplied (.ref I) (pure n )) Q E s:=by
 refine jK (id hs) fun U q S g=>AA (AA (Ar q g rfl (AA (Ar q g rfl (AA (Ar q g rfl (AC (AA (slicePart_none (AA (tN B (AA (tN D (AA (AC ?_)))))))))))))));show wpAny _ _ (match Builtin.Slice.sliceAdjust lo hi 1 (n:Int) with | (lo,hi)=>pure (lo,(1:Int),Builtin.Slice.slicePlaces lo hi 1)) _ _ s
 rw[Jc lo hi n];show wpAny _ _ (pure (((sIx n 0 lo:Nat):Int),(1:Int),Builtin.Slice.slicePlaces ((sIx n 0 lo:Nat):Int) ((sIx n n hi:Nat):Int) 1)) _ _ s;rw[Zg];exact AC h
def WC(xs:Array Value)(i k:Nat):((List.range k).filterMap fun(m:Nat)=>xs[( i+(m:Int) * 1).toNat]?).toArray=((xs.toList.drop i).take k).toArray:=by
 have e:(fun(m:Nat)=>xs[((i:Int)+(m:Int) * 1).toNat]?)=fun m=>xs[i+m]? :=by grind
 rw[e];have:=pick_run xs i k;rw[List.filterMap_map] at this;have g:((fun x=>xs[x]?) ∘ fun x=>i+x)=fun m=>xs[i+m]?:=rfl;rw[g] at this;rw[this]
def getItem_tuple_cut{lo}(g:IsTup s.heap t items)(hs:s.heap.IsSliceOf U Y Z .none)(O:IsPart Y lo)(S:IsPart Z hi)(ae:¬ (sIx items.size 0 lo=0/\sIx items.size items.size hi=items.size))(h:Q (.ref s.heap.objs.size) { s with heap:=s.heap.push { cls:=.type "tuple",data:=.seq ((items.toList.drop (sIx items.size 0 lo)).take (sIx items.size items.size hi - sIx items.size 0 lo)).toArray } })(hsz:items.size<=sizeLine):wpAny (model prog w) A (getItem (.ref t) (.ref U)) Q E s:=by
 have q:sizeOk (.seq ((items.toList.drop (sIx items.size 0 lo)).take (sIx items.size items.size hi - sIx items.size 0 lo)).toArray):=by
  show((items.toList.drop (sIx items.size 0 lo)).take (sIx items.size items.size hi - sIx items.size 0 lo)).toArray.size<=sizeLine;rw[Am,An,Ax,A3];omega
 obtain⟨J,I,B,ab⟩:=(id hs)
 delta getItem
 try with_reducible refine Az ?_
 first | refine AA (AC ?_) | skip
 refine AA (wpAny_sequenceKey g.typeIs rfl (AA (BD g.typeIs Cf
  (Aw Cf g.typeIs entry_tuple_getitem ?_ (args_tuple_getitem _ _)))))
 show wpAny _ _ (Builtin.Tuple.tupleItemsOf (.ref t) >>= _) _ _ s;refine AA (tupleItemsOf_ g (AA (DN (⟨J,I,B⟩) (AA (fL hs O S ?_)))));have D:¬ ((((sIx items.size 0 lo:Nat):Int)==0&&(1:Int)==1&&(sIx items.size items.size hi - sIx items.size 0 lo)==items.size)=true) :=by lia
 show wpAny _ _ (if (((sIx items.size 0 lo:Nat):Int)==0&&(1:Int)==1&&(sIx items.size items.size hi - sIx items.size 0 lo)==items.size)=true then _ else _) _ _ s;rw[AX D,WC]
 first
  |exact AA (Av (AC ⟨_,rfl,AC h⟩) q)
  |exact AA (Av (AA (AC (AC ⟨_,rfl,AC h⟩))) q)
  |exact AA (AA (Av (AC (AC ⟨_,rfl,AC h⟩)) q))
  |exact AA (AA (Av (AC ⟨_,rfl,AC h⟩) q))
end
end HT
namespace L2
open PySem PySem.Spec PyProof.Rows
abbrev TO:=St->Hp->(Option Int->Hp->Prop)->Prop
def PO(X:Cx)(e:Option Expr)(t:TO):Prop :=
 ∀(pins:List (Addr×Obj))(s:Shared)(σ:St)(H:Hp)(Q:Option Int->Hp->Prop),Inv X pins σ H s->t σ H Q ->
  wpAny (model X.prog X.w) X.A (evalPart e X.env) (fun u s'=>∃o H',Inv X pins σ H' s'/\IsPart u o/\Q o H') X.xe s
def Jp:TO:=fun _ H Q=>Q none H
def tPart(t:TE):TO:=fun σ H Q=>t σ H fun x H1=>∃i,x=.int i/\Q (some i) H1
section
variable {X:Cx}{e:Expr}{te:TE}{lo hi:Option Expr}{tl th:TO}{pos p2:Pos}
def po_none:PO X none Jp:=by
 intro pins s σ H Q I h;exact AC ⟨none,H,I,.none,h⟩
def po_some(h:PE X e te):PO X (some e) (tPart te):=by
 intro pins s σ H Q I B;refine thn (h pins s σ H _ I B) fun u S O=>uZ O fun x H1 g J D=> ?_;obtain⟨i,rfl,q⟩:=D;obtain⟨t,rfl⟩:=J;exact⟨some i,H1,g,.int i t,q⟩
def SlR(X:Cx)(r:V->Option Int->Option Int->Hp->VK->Prop):Prop :=
 ∀(pins:List (Addr×Obj))(s:Shared)(σ:St)(H:Hp)(x:V)(v q B:Value)(lo hi:Option Int)(g:Addr)(Q:VK),Inv X pins σ H s->RelV x v->s.heap.IsSliceOf g q B .none->IsPart q lo->IsPart B hi->r x lo hi H Q ->
  ∃T id,typeLookup (.type T) "__getitem__" = pure (some (.builtin id))/\s.TypeIs v T/\wpAny (model X.prog X.w) X.A (getItem v (.ref g)) (EP X pins σ Q) X.xe s
def tSl(r:V->Option Int->Option Int->Hp->VK->Prop)(te:TE)(tl th:TO):TE:=fun σ H Q=>te σ H fun x H1=>tl σ H1 fun l H2=>th σ H2 fun u g=>r x l u g Q
def WE(hr:SlR X r)(ab:PE X e te)(hl:PO X lo tl)(hu:PO X hi th):PE X (.Subscript e (.Slice lo hi none p2) pos) (tSl r te tl th):=by
 intro pins s σ H Q I h;refine Subscript_ (thn (ab pins s σ H _ I h) fun v ag q=>uZ q fun x H1 O r1 q1=> wpAny_Slice (thn (hl pins ag σ H1 _ O q1) fun B ah q=>uZ q fun l H2 S pl q2=> thn (hu pins ah σ H2 _ S q2) fun D g q=>uZ q fun u J U ae q3=> ?_))
 apply AC
 have Y:Inv X pins σ J { g with heap:=g.heap.push { cls:=.type "slice",data:=.fields #[B,D,.none] } }:=U.kept (t':=g.toks) fun b ob af=>AD _ af;exact uZ (hr pins { g with heap:=g.heap.push { cls:=.type "slice",data:=.fields #[B,D,.none] } } σ J x v B D l u g.heap.objs.size Q Y r1 (Heap.IsSliceOf.new ..) pl ae q3) fun T id Z ht hg=>tail_any ht Z hg (by with_unfolding_all rfl)
def Vm(xs:List V)(lo hi:Option Int):List V:=(xs.drop (HT.sIx xs.length 0 lo)).take (HT.sIx xs.length xs.length hi - HT.sIx xs.length 0 lo)
def iP xs lo hi:(Vm xs lo hi).length<=xs.length:=by
 delta Vm
 rw[An,Ax]
 lia
def rSlT(K:De):V->Option Int->Option Int->Hp->VK->Prop:=fun x lo hi H Q=>∃a xs,x=.ref a/\SqT K H a xs /\
 ¬ (HT.sIx xs.length 0 lo=0/\HT.sIx xs.length xs.length hi=xs.length)/\∀p,H p=none->Q (.ref p) (upd H p (.tup (Vm xs lo hi)))
def sl_tup:SlR X (rSlT X.K):=by
 intro pins s σ H x v vl vu lo hi sl Q I U hs O S h;obtain⟨a,xs,rfl,D,Y,q⟩:=h;cases U;obtain⟨Z,r,B,J⟩:=(I.tuple D);have g :=Am▸r.length.symm;refine⟨"tuple",_,Cf.lookup,B.typeIs,HT.getItem_tuple_cut B hs O S (by rwa [g]) ?_ (by rwa [g])⟩;rw[g];refine⟨.ref s.heap.objs.size,_,I.laid (t':=s.toks) (fun b ob q=>AD _ q) (AH _) ?_,rfl,q _ (I.hok.fresh (AH _))⟩
 exact⟨AW (iP xs lo hi) J,_,(r.drop (HT.sIx xs.length 0 lo)).take (HT.sIx xs.length xs.length hi - HT.sIx xs.length 0 lo),IsTupN.new _ _⟩
def rCatT(K:De):R2:=fun x y H Q=>∃a b xs ys,x=.ref a/\y=.ref b/\SqT K H a xs/\SqT K H b ys/\xs≠[]/\xs.length+ys.length<=sizeLine /\
 (ys=[]->Q (.ref a) H)/\(ys≠[]->∀p,H p=none->Q (.ref p) (upd H p (.tup (xs++ys))))
def Vals.nil_iff(r:Vals xs g):g=[]↔xs=[]:=by
 cases r with
 |nil=>simp
 |cons _ _=>simp
def op_catT:OpR X (binaryOp .Add) (rCatT X.K):=by
 intro pins s σ H x y v u Q I rx ry h;obtain⟨a,b,xs,ys,rfl,rfl,D,J,O,S,Y,Z⟩:=h;cases rx;cases ry;refine jK (I.tuple D) fun ab B U _=>jK (I.tuple J) fun ae g p2 _=>HT.cat_tup U p2 (fun z=>O (B.nil_iff.mp z)) (fun z=>⟨.ref a,H,I,rfl,Y (g.nil_iff.mp z)⟩) (fun z=>?_) (by rwa [<- B.length,<- g.length]);refine⟨.ref s.heap.objs.size,_,I.laid (t':=s.toks) (fun b ob q=>AD _ q) (AH _) ?_,rfl,Z (fun w=>z (g.nil_iff.mpr w)) _ (I.hok.fresh (AH _))⟩
 exact⟨by exact AN▸S,_,B.append g,IsTupN.new _ _⟩
end
def ixN(n:Nat)(i:Int):Option Nat:=if 0<=i then (if i < n then some i.toNat else none) else if -(n:Int)<=i then some (i+n).toNat else none
def atI{α:Type}(xs:List α)(i:Int):Option α:=(ixN xs.length i).bind fun j=>xs[j]?
def JY(h:ixN n i=some j):seqIndex? i n=some j/\j < n/\- n<=i/\i < n :=by grind[ixN,seqIndex_of,seqIndex_neg,lia,Option.some.inj]
def Qg(h:atI xs i=some v):∃j,seqIndex? i xs.length=some j/\xs[j]?=some v/\j < xs.length/\-(xs.length:Int)<=i/\i < xs.length:=by
 delta atI at h
 cases e:ixN xs.length i with
 |none=>rw[e] at h;cases h
 |some j =>
  rw[e] at h;exact zT (JY e) fun h1 h2 g q=>⟨j,h1,h,h2,g,q⟩
def kN(b:Expr):Prop:=∀o i,subscripted b false o i=operate [o,i] (getItem o i)
def IxR(X:Cx)(r:R2):Prop :=
 ∀(value g:Expr)(pins:List (Addr×Obj))(s:Shared)(σ:St)(H:Hp)(x y:V)(v u:Value)(Q:VK),Inv X pins σ H s->RelV x v->RelV y u->r x y H Q ->
  subscripted g false v u=operate [v,u] (getItem v u)->wpAny (model X.prog X.w) X.A (subscriptTail value g v u) (EP X pins σ Q) X.xe s
def MtR(X:Cx)(id:String)(r:V->List V->Hp->VK->Prop):Prop :=
 ∀(pins:List (Addr×Obj))(s:Shared)(σ:St)(H:Hp)(x:V)(xs:List V)(v:Value)(g:List Value)(Q:VK),Inv X pins σ H s->RelV x v->Vals xs g->r x xs H Q ->
  wpAny (model X.prog X.w) X.A (call (.builtin id) (v::g)) (EP X pins σ Q) X.xe s
section
variable {X:Cx}{a b:Expr}{ta tb:TE}{pos:Pos}
def IxR.or(h:IxR X r)(h':IxR X J):IxR X (fun x y H Q=>r x y H Q\/J x y H Q):=by
 intro value D pins s σ H x y v u Q I g B q hs
 rcases q with q | q
 .exact h value D pins s σ H x y v u Q I g B q hs
 .exact h' value D pins s σ H x y v u Q I g B q hs
def pe_ix(J:IxR X r)(B:PE X a ta)(D:PE X b tb)(hs:kN b):PE X (.Subscript a b pos) (tOp r ta tb):=by
 intro pins s σ H Q I h;exact Subscript_ (binT B D I h fun v u U x y H2 g O S q=>J a b pins U σ H2 x y v u Q g O S q (hs _ _))
inductive IIx(S:Hp->Addr->List V->Prop)(x y:V)(H:Hp)(Q:VK):Prop
 |mk(p:Addr)(xs:List V)(i:Int)(v:V)(h:x=.ref p)(h':y=.int i)(s:S H p xs)(a:atI xs i=some v)(q:Q v H)
def rIxL(K:De):R2:=IIx (SqL K)
def rIxT(K:De):R2:=IIx (SqT K)
def rIxS:R2:=fun x y H Q=>∃z i c,x=.str z/\y=.int i/\z.length<=sizeLine/\atI z.cps.toList i=some c/\Q (.str ⟨#[c]⟩) H
def ix_list:IxR X (rIxL X.K):=by
 intro value ae pins s σ H x y v u Q I rx ry h hs;obtain⟨p,xs,i,z,rfl,rfl,Y,S,q⟩:=h;cases rx;obtain⟨t,rfl⟩:=ry;refine jK (I.list Y) fun Z r g hz=>Xq (Qg S) fun j h1 h2 h3 J O=>zX (r.get h2) fun w D ab=>?_;have U:=r.length;have hn:=zU;have B:EP X pins σ Q w s:=⟨z,H,I,ab,q⟩
 by_cases h0:0<=i
 .have hj:i.toNat=j:=by
   rw[seqIndex_of h0 O] at h1;exact A7 h1
  exact item_listR g.isList h0 (by lia) (by simp_all) B hs
 .have hj:(i+(Z.toArray.size:Int)).toNat=j:=by
   rw[seqIndex_neg (by lia) J] at h1;exact Am▸U▸A7 h1
  exact subscriptTail_builtinR g.isList.typeIs slot_list_getitem.lookup
   (wpAny_getItem_list_neg g.isList (by lia) (by simp_all) (by lia) (by rw[hj];simpa using D) ⟨rfl,B⟩) hs
def ix_tup:IxR X (rIxT X.K):=by
 intro value ae pins s σ H x y v u Q I O S h hs;obtain⟨p,xs,i,z,rfl,rfl,D,B,q⟩:=h;cases O;obtain⟨t,rfl⟩:=S;refine jK (I.tuple D) fun ab r g hz=>Xq (Qg B) fun j h1 h2 Y Z h5=>zX (r.get h2) fun w U J=>?_;have hn:=zU
 exact subscriptTail_builtinR g.typeIs slot_tuple_getitem.lookup
  (getItem_tuple g (by lia) (by lia) (by rwa [Am,<- r.length]) (by simp_all) ⟨rfl,(⟨z,H,I,J,q⟩)⟩) hs
def ix_str:IxR X rIxS:=by
 intro value ab pins s σ H x y v u Q I B D h hs;obtain⟨z,i,c,rfl,rfl,Z,g,q⟩:=h;obtain⟨t,rfl⟩:=B;obtain⟨t',rfl⟩:=D;refine Xq (Qg g) fun j h1 h2 J O S=>?_;have U:z.cps.toList.length=z.length:=by simp[Str.length]
 have Y:=zU;exact tail_any (typeIs_str s z t) slot_str_getitem.lookup (getItem_str (by lia) (by grind) ⟨.str ⟨#[c]⟩,H,I.tok _,⟨_,rfl⟩,q⟩) hs
def rIx(K:De):R2:=fun x y H Q=>rIxL K x y H Q\/rIxT K x y H Q\/rIxS x y H Q
def ix_seq:IxR X (rIx X.K):=ix_list.or (ix_tup.or ix_str)
def Zr(g:List Value)n j u:Obj.mapSeq (·.setIfInBounds j u) { cls:=.type "list",data:=.seq g.toArray n }={ cls:=.type "list",data:=.seq (g.set j u).toArray n }:=by
 simp[Obj.mapSeq]
theorem Inv.lst{pins:List (Addr×Obj)}{σ:St}{H:Hp}{s:Shared}{p:Addr}{xs:List V}(I:Inv X pins σ H s)(h:H p=some (.lst xs)):
  ∃(g:List Value)(n:Nat),Vals xs g/\s.heap.get? p=some { cls:=.type "list",data:=.seq g.toArray n }/\xs.length<=sizeLine:=by
 obtain⟨z,g,n,r,e⟩:=I.hok p _ h;exact⟨g,n,r,e,z⟩
def Inv.lstUpd{σ:St}{B:List Value}(I:Inv X pins σ H s)(h:H p=some (.lst xs))(O:s.heap.get? p=some { cls:=.type "list",data:=.seq B.toArray n })(g:f { cls:=.type "list",data:=.seq B.toArray n }={ cls:=.type "list",data:=.seq its'.toArray D })(r:Vals ys its')(S:ys.length<=sizeLine)t:
  Inv X pins σ (upd H p (.lst ys)) { s with heap:=s.heap.update p f,toks:=t }:=by
 have e:(s.heap.update p f).get? p=some { cls:=.type "list",data:=.seq its'.toArray D }:=by
  rw[A6 f O (by rw[g]<;>rfl),g]
 refine I.write (by rw[h];trivial) (.inl rfl) (fun b u J q=>(BO _ _ (Ne.symm J)).trans q) ⟨_,e⟩ ?_;exact⟨S,its',D,r,e⟩
def rSetL:V->V->V->Hp->(Hp->Prop)->Prop:=fun o i v H Q=>∃p xs k j,o=.ref p/\i=.int k/\H p=some (.lst xs)/\ixN xs.length k=some j/\Q (upd H p (.lst (xs.set j v)))
def V8:PSet X rSetL:=by
 intro pins s σ H o i v ov iv u Q I ro Z rv h;obtain⟨p,xs,k,j,rfl,rfl,O,hj,q⟩:=h;cases ro;obtain⟨t,rfl⟩:=Z;refine uZ (I.lst O) fun S n r B hz=>zT (JY hj) fun h1 h2 U Y=>?_;have J:=r.length;have hn:=zU
 have D :=
  I.lstUpd O B (Zr S n j u) (r.set rv j) (by grind) s.toks
 by_cases h0:0<=k
 .have g:k.toNat=j:=by
   rw[seqIndex_of h0 Y] at h1;exact A7 h1
  exact PySem.W.ki_setAt B h0 (by lia) (by simp_all) (g▸⟨_,D,q⟩)
 .have g:(k+(S.toArray.size:Int)).toNat=j:=by
   rw[seqIndex_neg (by lia) U] at h1;exact Am▸J▸A7 h1
  exact PySem.W.ki_setBack B (by lia) (by rwa [Am,<- J]) (by lia) (g▸⟨_,D,q⟩)
def tE lo hi n:(sliceBounds lo hi none n).1=((HT.sIx n 0 lo:Nat):Int)/\(sliceBounds lo hi none n).2.1=((HT.sIx n n hi:Nat):Int)/\(sliceBounds lo hi none n).2.2=1:=by
 refine⟨?_,?_,rfl⟩
 .cases lo with
  |none=>simp[sliceBounds,HT.sIx]
  |some i =>
   simp only[sliceBounds,HT.sIx,Option.getD_none,show(1:Int) > 0 by decide,if_true]
   by_cases h:i < 0
   .simp only[h,if_true]<;>lia
   .simp only[h,if_false]<;>lia
 .cases hi with
  |none=>simp[sliceBounds,HT.sIx]
  |some i =>
   simp only[sliceBounds,HT.sIx,Option.getD_none,show(1:Int) > 0 by decide,if_true]
   by_cases h:i < 0
   .simp only[h,if_true]<;>lia
   .simp only[h,if_false]<;>lia
def cS(g:List Value)lo hi:slicePick g.toArray lo hi none=((g.drop (HT.sIx g.length 0 lo)).take (HT.sIx g.length g.length hi - HT.sIx g.length 0 lo)).toArray:=by
 obtain⟨h1,h2,q⟩:=(tE lo hi g.toArray.size)
 delta slicePick
 rw[h1,h2,q]
 simp only[sliceRange_one,pick_run]<;>rfl
def rSlL(K:De):V->Option Int->Option Int->Hp->VK->Prop:=fun x lo hi H Q=>∃a xs,x=.ref a/\SqL K H a xs/\∀p,H p=none->Q (.ref p) (upd H p (.lst (Vm xs lo hi)))
def sl_list:SlR X (rSlL X.K):=by
 intro pins s σ H x v vl vu lo hi sl Q I U hs O S h;obtain⟨a,xs,rfl,D,q⟩:=h;cases U;obtain⟨Y,r,g,J⟩:=(I.list D);have B:=r.length;refine⟨"list",_,slot_list_getitem.lookup,g.isList.typeIs,wpAny_getItem_list_slice g.isList hs O S .none (by simp) ?_ (by grind)⟩;rw[cS,<- B];refine⟨.ref s.heap.objs.size,_,I.laid (t':=s.toks) (fun b Z q=>AD _ q) (AH _) ?_,rfl,q _ (I.hok.fresh (AH _))⟩
 exact⟨AW (iP xs lo hi) J,_,0,(r.drop (HT.sIx xs.length 0 lo)).take (HT.sIx xs.length xs.length hi - HT.sIx xs.length 0 lo),AK _ rfl⟩
def aM:V->Bool
 |.non=>true
 |.bl _=>true
 |.int _=>true
 |.str _=>true
 |_=>false
def eqV:V->V->Bool
 |.non,.non=>true
 |.bl a,.bl b=>a==b
 |.bl a,.int b=>(if a then 1 else 0)==b
 |.int a,.bl b=>a==(if b then 1 else 0)
 |.int a,.int b=>a==b
 |.str a,.str b=>a==b
 |_,_=>false
def xR(B:RelV y u)(g:RelV x v)(D:aM y=true)(q:aM x=true):SeqAt.EqAt A s u v (eqV y x):=by
 cases y with
 |non =>
  cases B
  cases x with
  |non=>cases g;exact SeqAt.EqAt.same _
  |bl b=>cases g;exact SeqAt.EqAt.none_bool b
  |int b=>obtain⟨t,rfl⟩:=g;exact SeqAt.EqAt.none_int b t
  |str b=>obtain⟨t,rfl⟩:=g;exact SeqAt.EqAt.none_str b t
  |_=>exact absurd q AJ
 |bl a =>
  cases B
  cases x with
  |non=>cases g;exact SeqAt.EqAt.bool_none a
  |bl b=>cases g;exact SeqAt.EqAt.bool_bool a b
  |int b=>obtain⟨t,rfl⟩:=g;exact SeqAt.EqAt.bool_int a b t
  |str b=>obtain⟨t,rfl⟩:=g;exact SeqAt.EqAt.bool_str a b t
  |_=>exact absurd q AJ
 |int a =>
  obtain⟨t',rfl⟩:=B
  cases x with
  |non=>cases g;exact SeqAt.EqAt.int_none a t'
  |bl b=>cases g;exact SeqAt.EqAt.int_bool a t' b
  |int b=>obtain⟨t,rfl⟩:=g;exact SeqAt.EqAt.int_int a t' b t
  |str b=>obtain⟨t,rfl⟩:=g;exact SeqAt.EqAt.int_str a t' b t
  |_=>exact absurd q AJ
 |str a =>
  obtain⟨t',rfl⟩:=B
  cases x with
  |non=>cases g;exact SeqAt.EqAt.str_none a t'
  |bl b=>cases g;exact SeqAt.EqAt.str_bool a t' b
  |int b=>obtain⟨t,rfl⟩:=g;exact SeqAt.EqAt.str_int a t' b t
  |str b=>obtain⟨t,rfl⟩:=g;exact SeqAt.EqAt.str_str a t' b t
  |_=>exact absurd q AJ
 |_=>exact absurd D AJ
def eqU(x:V)(u:Value):Bool:=match u with
 |.none=>eqV .non x
 |.bool b=>eqV (.bl b) x
 |.int i _=>eqV (.int i) x
 |.str z _=>eqV (.str z) x
 |_=>false
def Y7(r:RelV y u)(f:aM y=true):eqU x u=eqV y x:=by
 cases y with
 |non=>cases r;rfl
 |bl b=>cases r;rfl
 |int i=>obtain⟨t,rfl⟩:=r;rfl
 |str z=>obtain⟨t,rfl⟩:=r;rfl
 |_=>exact absurd f AJ
theorem wL: ∀{xs}{g},Vals xs g->xs.all aM=true->g.any (eqU x)=xs.any fun y=>eqV y x
 |_,_,.nil,_=>rfl
 |y::xs,u::g,.cons r t,f=>by
  rw[CQ,BI] at f;rw[BB,BB,Y7 r f.1,wL t f.2]
theorem mB(D:RelV x v)(B:aM x=true):∀{xs}{q},Vals xs q->xs.all aM=true->∀u∈q,SeqAt.EqAt A s u v (eqU x u)
 |_,_,.nil,_=>fun u g=>by cases g
 |y::xs,u::q,.cons r t,f=>fun I g=>by
  rw[CQ,BI] at f
  rcases Ai.mp g with rfl | g
  .exact (Y7 r f.1)▸xR r D f.1 B
  .exact mB D B t f.2 I g
def inV(x:V)(xs:List V):Bool:=xs.any fun y=>eqV y x
def rIn(K:De)(g:Bool):R2:=fun x y H Q=>∃p xs,y=.ref p/\(SqL K H p xs\/SqT K H p xs)/\aM x=true/\xs.all aM=true/\Q (.bl (if g then !inV x xs else inV x xs)) H
def tW:OpR X (compareOp .In) (rIn X.K false):=by
 intro pins s σ H x y v u Q I S Y h;obtain⟨p,xs,rfl,g,J,fs,q⟩:=h;cases Y
 rcases g with g | g
 .obtain ⟨B,r,D,U⟩:=I.list g
  refine SeqAt.in_listAt (eqU x) D.isList (fun w O=>mB S J r fs w (by grind)) ⟨.bl _,H,I,rfl,?_⟩;rw[show B.toArray.any (eqU x)=B.any (eqU x) by simp,wL r fs];exact q
 .obtain ⟨B,r,D,U⟩:=I.tuple g
  refine SeqAt.in_tupleAt (eqU x) D (fun w O=>mB S J r fs w (by simpa using O)) ⟨.bl _,H,I,rfl,?_⟩;rw[show B.toArray.any (eqU x)=B.any (eqU x) by simp,wL r fs];exact q
def wA:OpR X (compareOp .NotIn) (rIn X.K true):=by
 intro pins s σ H x y v u Q I S Y h;obtain⟨p,xs,rfl,g,J,fs,q⟩:=h;cases Y
 rcases g with g | g
 .obtain ⟨B,r,D,U⟩:=I.list g
  refine SeqAt.notIn_listAt (eqU x) D.isList (fun w O=>mB S J r fs w (by grind)) ⟨.bl _,H,I,rfl,?_⟩;rw[show B.toArray.any (eqU x)=B.any (eqU x) by simp,wL r fs];exact q
 .obtain ⟨B,r,D,U⟩:=I.tuple g
  refine SeqAt.notIn_tupleAt (eqU x) D (fun w O=>mB S J r fs w (by simpa using O)) ⟨.bl _,H,I,rfl,?_⟩;rw[show B.toArray.any (eqU x)=B.any (eqU x) by simp,wL r fs];exact q
def vA:OpR X (compareOp .NotIn) (fun x y H Q=>∃i j,x=.str i/\y=.str j/\Q (.bl (!(!(Builtin.Str.occurrences j i 0 j.length 1).isEmpty))) H):=by
 intro pins s σ H x y v u Q I g B h;obtain⟨i,j,rfl,rfl,q⟩:=h;obtain⟨t,rfl⟩:=g;obtain⟨t',rfl⟩:=B;exact notIn_str ⟨.bl _,H,I,rfl,q⟩
def tI:CallR X (.builtin "len") (fun xs H Q=>∃p ys,xs=[.ref p]/\(SqL X.K H p ys\/SqT X.K H p ys)/\Q (.int ys.length) H):=by
 intro pins s σ H xs Y Q I r h;obtain⟨p,ys,rfl,g,q⟩:=h;obtain⟨u,rfl,rfl⟩:=xB r;have U:=zU
 rcases g with g | g
 .obtain ⟨S,J,D,O⟩:=I.list g
  have B:=J.length;exact Calls.call_len_list D.isList (by grind) ⟨.int ys.length,H,I.tok _,⟨s.toks+1,by rw[Am,B]⟩,q⟩
 .obtain ⟨S,J,D,O⟩:=I.tuple g
  have B:=J.length;exact len_tuple D (by simp only[List.size_toArray]<;>lia) ⟨.int ys.length,H,I.tok _,⟨s.toks+1,by rw[Am,B]⟩,q⟩
def oI:CallR X (.builtin "len") (fun xs H Q=>∃z,xs=[.str z]/\z.length<=sizeLine/\Q (.int z.length) H):=by
 intro pins s σ H xs D Q I r h;obtain⟨z,rfl,B,q⟩:=h;obtain⟨u,rfl,t,rfl⟩:=xB r;have g:=zU;exact len_str (by lia) ⟨.int z.length,H,I.tok _,⟨_,rfl⟩,q⟩
def CallR.or(h:CallR X f r)(h':CallR X f B):CallR X f (fun xs H Q=>r xs H Q\/B xs H Q):=by
 intro pins s σ H xs g Q I rs q
 rcases q with q | q
 .exact h pins s σ H xs g Q I rs q
 .exact h' pins s σ H xs g Q I rs q
def cU:CallR X (.type "list") (fun xs H Q=>∃p ys,xs=[.ref p]/\(SqL X.K H p ys\/SqT X.K H p ys)/\∀l,H l=none->Q (.ref l) (upd H l (.lst ys))):=by
 intro pins s σ H xs ag Q I r h;obtain⟨p,ys,rfl,D,af⟩:=h;obtain⟨u,rfl,rfl⟩:=xB r
 have ab:∀g,Vals ys g->ys.length<=sizeLine->∀h' q,(∀b o',s.heap.get? b=some o'->h'.get? b=some o') ->
   h'.get? s.heap.objs.size=some { cls:=.type "list",dict:=none,data:=.seq g.toArray q,slots:=#[] }->EP X pins σ Q (.ref s.heap.objs.size) { s with heap:=h' }:=fun g B J h' q O e=>
  ⟨.ref s.heap.objs.size,_,I.laid (t':=s.toks) O (AH _) (show ObjOk X.prog X.w _ h' _ (.lst ys) from⟨J,g,q,B,e⟩),rfl,af _ (I.hok.fresh (AH _))⟩
 rcases D with D | D
 .obtain ⟨g,B,Z,J⟩:=I.list D
  have ae:=B.length;obtain⟨o,Y,S,n,U⟩:=Z.isList;exact call_list_seq p (.inl rfl) Y S U (fun h' q O e=>ab g B J h' q O e) (by grind)
 .obtain ⟨g,B,Z,J⟩:=I.tuple D
  have ae:=B.length;obtain⟨o,Y,S,n,U⟩:=Z;exact call_list_seq p (.inr rfl) Y S U (fun h' q O e=>ab g B J h' q O e) (by simp only[List.size_toArray]<;>omega)
def jT:CallR X (.type "tuple") (fun xs H Q=>∃p ys,xs=[.ref p]/\((SqL X.K H p ys/\∀l,H l=none->Q (.ref l) (upd H l (.tup ys)))\/(SqT X.K H p ys/\Q (.ref p) H))):=by
 intro pins s σ H xs ab Q I r h;obtain⟨p,ys,rfl,h⟩:=h;obtain⟨u,rfl,rfl⟩:=xB r
 rcases h with ⟨g,q⟩ | ⟨g,q⟩
 .obtain ⟨S,D,B,O⟩:=(I.list g)
  have Z:=D.length;refine call_tuple_list B.isList (fun h' Y=>?_) (by grind);have J:=I.kept (t':=s.toks) Y
  have U :=
   J.laid (t':=s.toks) (fun b o e=>AD _ e) (AH _) (show ObjOk X.prog X.w _ _ _ (.tup ys) from⟨O,S,D,IsTupN.new _ _⟩)
  exact⟨.ref h'.objs.size,_,U,rfl,q _ (J.hok.fresh (AH _))⟩
 .exact jK (I.tuple g) fun S D B O=>call_tuple_same B ⟨.ref p,H,I,rfl,q⟩
def tyV(K:De)(T:String)(x:V)(H:Hp):Prop:=match x with
 |.str _=>T = "str"
 |.int _=>T = "int"
 |.ref p=>(T = "list"/\∃xs,SqL K H p xs)\/(T = "tuple"/\∃o,K.lookup p=some o/\o.cls=.type "tuple"/\o.dict=none) \/
   (T = "dict"/\((∃kvs,H p=some (.dK kvs))\/∃kvs,H p=some (.dT kvs)))\/(T = "set"/\∃S n,H p=some (.set S n))
 |_=>False
def VR{σ:St}(I:Inv X pins σ H s)(r:RelV x v)(ty:tyV X.K T x H):
  s.TypeIs v T/\∀a,v=.ref a->∃D,s.heap.get? a=some D/\D.dict=none:=by
 cases x with
 |str z =>
  obtain⟨t,rfl⟩:=r;cases ty;exact⟨typeIs_str s z t,fun _ e=>nomatch e⟩
 |int i =>
  obtain⟨t,rfl⟩:=r;cases ty;exact⟨typeIs_int s i t,fun _ e=>nomatch e⟩
 |ref p =>
  cases r
  rcases ty with ⟨rfl,xs,U⟩ | ⟨rfl,o,g,O,B⟩ | ⟨rfl,g⟩ | ⟨rfl,S,n,g⟩
  .refine jK (I.list U) fun Y _ J _=>⟨J.isList.typeIs,fun a e=>?_⟩
   cases e;exact ZS J fun o n e c B _=>⟨o,e,B⟩
  .refine ⟨⟨o,I.kIn p o g,O⟩,fun a e=>?_⟩
   cases e;exact⟨o,I.kIn _ o g,B⟩
  .have z:∃o,s.heap.get? p=some o/\o.ExactDict:=by
    rcases g with ⟨kvs,g⟩ | ⟨kvs,g⟩
    .obtain ⟨_,_,_,_,o,_,_,e,ex,_⟩:=I.hok p _ g
     exact⟨o,e,ex⟩
    .obtain ⟨_,_,_,_,o,_,_,e,ex,_⟩:=I.hok p _ g
     exact⟨o,e,ex⟩
   obtain⟨o,e,ex⟩:=z;refine⟨⟨o,e,ex.1⟩,fun a q=>?_⟩;cases q;exact⟨o,e,ex.2.1⟩
  .refine el43 (I.hok p _ g) fun o _ _ _ e ex _=>⟨⟨o,e,ex.1⟩,fun a q=>?_⟩
   cases q;exact⟨o,e,ex.2.1⟩
 |_=>exact False.elim ty
def tBM0(K:De)(T:String)(r:V->List V->Hp->VK->Prop)(to:TE):TE:=fun σ H Q=>to σ H fun x H1=>tyV K T x H1/\r x [] H1 Q
def tBM(K:De)(T:String)(r:V->List V->Hp->VK->Prop)(to:TE)(t:TA):TE:=fun σ H Q=>to σ H fun x H1=>tyV K T x H1/\t σ H1 fun xs H2=>r x xs H2 Q
variable {o e:Expr}{es:List Expr}{to:TE}{t:TA}{name:Str}{apos cpos:Pos}{T id:String}{r:V->List V->Hp->VK->Prop}
def pe_bm0(U:PlainAttrs T)(ab:Slot T name id)(S:typeOf (.builtin id)=pure (.type "method_descriptor"))(J:MtR X id r)(O:PE X o to)(B:attributeBase o name X.env (eval o X.env)=eval o X.env:=by rfl)(D:(apos.endLine==cpos.line)=true:=by rfl):PE X (.Call (.Attribute o name apos) [] [] cpos) (tBM0 X.K T r to):=by
 intro pins s σ H Q I h;refine wpAny_Call_method0_late B D (thn (O pins s σ H _ I h) fun v Z zq=>ZS zq fun x H1 g q ty Y=>?_);obtain⟨h1,h2⟩:=VR g q ty;exact⟨T,id,U,ab,S,h1,h2,DR rfl (PySem.evalArgs_none (J pins Z σ H1 x [] v [] Q g q .nil Y))⟩
def pe_bm(pa:PlainAttrs T)(ag:Slot T name id)(ab:typeOf (.builtin id)=pure (.type "method_descriptor"))(Y:MtR X id r)(Z:PE X o to)(J:PA X (e::es) t)(O:attributeBase o name X.env (eval o X.env)=eval o X.env:=by rfl)(S:((backTo cpos (starEach (e::es) X.env)).all (fun x=>!x.1)&&(backToKw cpos (keywordEach [] X.env)).all (fun x=>x.1.isSome)
   && decide ((e::es).length+([]:List Keyword).length+(if ([]:List Keyword).isEmpty then 0 else 1) < 30))=true:=by rfl)(U:(apos.endLine==cpos.line)=true:=by rfl)(hs:starEach (e::es) X.env=(false,eval e X.env)::starEach es X.env:=by rfl)(ai:(backTo cpos (starEach es X.env)).any (·.1)=false:=by rfl):
  PE X (.Call (.Attribute o name apos) (e::es) [] cpos) (tBM X.K T r to t):=by
 intro pins s σ H Q I h;refine wpAny_Call_method_late O S U rfl (thn (Z pins s σ H _ I h) fun v ae zq=>ZS zq fun x H1 g B ty q1=>?_);obtain⟨h1,h2⟩:=VR g B ty;refine⟨T,id,pa,ag,ab,h1,h2,?_⟩;have q:=J cpos pins ae σ H1 _ g q1;rw[hs] at q ⊢;exact DR (by grind) (Calls.evalArgs_plain (thn q fun ah af zz=>uZ zz fun vs H2 D r2 q2=> Y pins af σ H2 x vs v ah Q D B r2 q2))
end
def MtM(X:Cx)(id:String)(r:V->List V->Hp->VK->Prop):Prop :=
 ∀(pins:List (Addr×Obj))(s:Shared)(σ:St)(H:Hp)(x:V)(xs:List V)(v:Value)(g:List Value)(Q:VK),Inv X pins σ H s->RelV x v->Vals xs g->r x xs H Q ->
  wpAny (model X.prog X.w) X.A (call (.builtin id) (v::g)) (EP X pins σ Q) X.xe s
def Vals.one(h:Vals [x] g):∃u,g=[u]/\RelV x u:=by
 cases h with
 |cons r h =>
  cases h;exact⟨_,rfl,r⟩
def Vals.two(h:Vals [x,y] g):∃u v,g=[u,v]/\RelV x u/\RelV y v:=by
 cases h with
 |cons r h =>
  obtain⟨v,rfl,q⟩:=Vals.one h;exact⟨_,v,rfl,r,q⟩
theorem Vals.zero:∀{g},Vals [] g->g=[]
 |_,.nil=>rfl
def Vals.dropLast(h:Vals xs B):Vals xs.dropLast B.dropLast:=by
 induction h with
 |nil=>exact .nil
 |cons r t g =>
  cases t with
  |nil=>exact .nil
  |cons q t'=>exact .cons r g
def Vals.reverse(h:Vals xs q):Vals xs.reverse q.reverse:=by
 induction h with
 |nil=>exact .nil
 |cons r t g=>rw[DH,DH];exact Vals.append g (.cons r .nil)
section
variable {X:Cx}{pins:List (Addr×Obj)}{σ:St}{H:Hp}{s:Shared}{l b:Addr}{xs ys zs:List V}
def Inv.lset{g:List Value}(I:Inv X pins σ H s)(B:H l=some (.lst xs))(e:s.heap.get? l=some { cls:=.type "list",data:=.seq g.toArray n })(J:f g.toArray=its'.toArray)(S:Vals ys its')(U:ys.length<=sizeLine):
  Inv X pins σ (upd H l (.lst ys)) { s with heap:=s.heap.update l (Obj.mapSeq f),toks:=t' }:=by
 have q:=PySem.IsL.update e f;rw[J] at q;refine I.write (B▸trivial) (.inl rfl) (fun Y u D O=>(BO s.heap (Obj.mapSeq f) (Ne.symm D)).trans O) ⟨_,q⟩ ?_;exact⟨U,its',_,S,q⟩
def Inv.lnew(I:Inv X pins σ H s)(B:Vals ys g)(D:ys.length<=sizeLine):
  Inv X pins σ (upd H s.heap.objs.size (.lst ys)) { s with heap:=s.heap.push { cls:=.type "list",data:=.seq g.toArray },toks:=t' } :=
 I.laid (fun _ _ q=>AD _ q) (AH _) ⟨D,g,0,B,AK _ rfl⟩
def Inv.fresh(I:Inv X pins σ H s):H s.heap.objs.size=none:=I.hok.fresh (AH _)
def Inv.lstM(I:Inv X pins σ H s)(q:H l=some (.lst xs)):xs.length<=sizeLine/\∃g n,Vals xs g/\xs.length=g.length/\s.heap.get? l=some { cls:=.type "list",data:=.seq g.toArray n }:=by
 obtain⟨z,g,n,r,e⟩:=I.hok l _ q;exact⟨z,g,n,r,r.length,e⟩
def Yb(h:n<=sizeLine):Builtin.List.listTooLong n=false :=AM (by lia)
end
section
variable {X:Cx}
def Jz:V->List V->Hp->VK->Prop:=fun x vs H Q=>∃l xs y,x=.ref l/\vs=[y]/\H l=some (.lst xs)/\xs.length < sizeLine/\Q .non (upd H l (.lst (xs++[y])))
def bO:MtM X "list.append" Jz:=by
 intro pins s σ H x vs v U Q I J rv h;obtain⟨l,xs,y,rfl,rfl,g,S,q⟩:=h;cases J;obtain⟨u,rfl,D⟩:=rv.one;obtain⟨z,B,n,r,O,e⟩:=I.lstM g;refine B2 F.slot_list_append ⟨_,e,rfl⟩ F.entry_list_append (F.args_list_append_2 _ _) (PySem.list_append l B.toArray n u (by grind)) ⟨e,⟨.non,_,I.lset (its':=B++[u]) g e (by simp) (r.append (.cons D .nil)) ?_,rfl,q⟩⟩;rw[AN,Al]
 lia
def Jy:V->List V->Hp->VK->Prop:=fun x vs H Q=>∃l b xs zs,x=.ref l/\vs=[.ref b]/\H l=some (.lst xs)/\H b=some (.lst zs)/\xs.length+zs.length<=sizeLine/\Q .non (upd H l (.lst (xs++zs)))
def K6:MtM X "list.extend" Jy:=by
 intro pins s σ H x vs v ae Q I Z rv h;obtain⟨l,b,xs,zs,rfl,rfl,D,O,hz,q⟩:=h;cases Z;obtain⟨u,rfl,rfl⟩:=rv.one;obtain⟨z,g,n,r,hl,e⟩:=I.lstM D;obtain⟨z2,B,U,Y,ab,J⟩:=I.lstM O;have hsz:g.toArray.size+B.toArray.size<=sizeLine :=by simp;lia
 have S:¬ (!g.toArray.isEmpty&&Builtin.List.listTooLong (g.toArray.size+B.toArray.size))=true:=by
  rw[Yb hsz,Bool.and_false];exact AJ
 refine B2 F.slot_list_extend ⟨_,e,rfl⟩ F.entry_list_extend (F.args_list_extend_2 _ _)
  (AutoSeq1.list_extend_list_list_0 l g.toArray n b B.toArray U S (by lia) (by lia)) ⟨e,J,?_⟩
 refine⟨.non,_,I.lset (its':=g++B) D e (by simp) (r.append Y) ?_,rfl,q⟩;rw[AN]
 lia
def rPop:V->List V->Hp->VK->Prop:=fun x vs H Q=>∃l xs y,x=.ref l/\vs=[]/\H l=some (.lst xs)/\xs[xs.length - 1]?=some y/\Q y (upd H l (.lst xs.dropLast))
def mt_pop:MtM X "list.pop" rPop:=by
 intro pins s σ H x vs v ab Q I U rv h;obtain⟨l,xs,y,rfl,rfl,B,J,q⟩:=h;cases U;have D:=rv.zero;subst D;obtain⟨z,g,n,r,Y,e⟩:=I.lstM B;obtain⟨u,Z,S⟩:=(r.get J);have O:g.toArray[g.toArray.size - 1]?=some u :=by grind
 refine B2 F.slot_list_pop ⟨_,e,rfl⟩ F.entry_list_pop (F.args_list_pop_1 _) (MeetsSeq.list_pop_last l g.toArray n u O (by grind)) ⟨e,?_⟩;refine⟨y,_,I.lset (its':=g.dropLast) B e ?_ r.dropLast ?_,S,q⟩
 .grind
 .grind
def QI:V->List V->Hp->VK->Prop:=fun x vs H Q=>∃l xs,x=.ref l/\vs=[]/\H l=some (.lst xs)/\Q .non (upd H l (.lst xs.reverse))
def zF:MtM X "list.reverse" QI:=by
 intro pins s σ H x vs v S Q I J rv h;obtain⟨l,xs,rfl,rfl,g,q⟩:=h;cases J;have D:=rv.zero;subst D;obtain⟨z,B,n,r,O,e⟩:=I.lstM g;refine B2 F.slot_list_reverse ⟨_,e,rfl⟩ F.entry_list_reverse (F.args_list_reverse_1 _) (AutoSeq1.list_reverse_list_0 l B.toArray n (by grind)) ⟨e,⟨.non,_,I.lset (its':=B.reverse) g e (by simp) r.reverse ?_,rfl,q⟩⟩;rw[Cq];omega
def rCat:R2:=fun x y H Q=>∃l b xs zs,x=.ref l/\y=.ref b/\H l=some (.lst xs)/\H b=some (.lst zs)/\xs.length+zs.length<=sizeLine/\∀p,H p=none->Q (.ref p) (upd H p (.lst (xs++zs)))
def op_cat:OpR X (binaryOp .Add) rCat:=by
 intro pins s σ H x y v u Q I Y Z h;obtain⟨l,b,xs,zs,rfl,rfl,S,O,hz,q⟩:=h;cases Y;cases Z;obtain⟨z,g,n,r,hl,e⟩:=I.lstM S;obtain⟨z2,B,n2,U,ab,D⟩:=I.lstM O;refine PySem.P.add_list e D ?_ (by grind);have J:g.toArray++B.toArray=(g++B).toArray:=by simp
 exact J▸⟨.ref _,_,I.lnew (t':=s.toks) (r.append U) (by grind),rfl,q _ I.fresh⟩
end
section
variable {κ:Type}[DecidableEq κ]
def vB(kvs:List (κ×V))(k:κ):Option V:=(kvs.find? fun g=>decide (g.1=k)).map (·.2)
def iV(kvs:List (κ×V))(k:κ)(v:V):List (κ×V) :=
 if (kvs.any fun g=>decide (g.1=k))=true then kvs.map (fun g=>if g.1=k then (g.1,v) else g) else kvs++[(k,v)]
theorem dN{k:κ}(e:p.1=k):vB (p::r) k=some p.2 :=by simp_all[vB]
def cN{k:κ}(e:¬ p.1=k):vB (p::r) k=vB r k :=by simp_all[vB]
theorem Qq k:∀kvs:List (κ×V),(kvs.any fun g=>decide (g.1=k))=(vB kvs k).isSome
 |[]=>rfl
 |p::r=>by
  rw[BB]
  by_cases e:p.1=k
  .simp only[dN e,decide_eq_true e,Bool.true_or,Option.isSome_some]
  .rw [cN e,AM e];exact Qq k r
def nY kvs(k:κ)v:(iV kvs k v).length<=kvs.length+1 :=by grind[iV,List.length_map,List.length_append,List.length_cons,List.length_nil]
def RelO.isSome_eq(r:RelO o u):o.isSome=u.isSome:=by
 cases o with
 |none=>cases u with
  |none=>rfl
  |some _=>exact r.elim
 |some _=>cases u with
  |none=>exact r.elim
  |some _=>rfl
def RelO.getD(r:RelO o u)(g:RelV d d'):RelV (o.getD d) (u.getD d'):=by
 cases o with
 |none=>cases u with
  |none=>exact g
  |some _=>exact r.elim
 |some _=>cases u with
  |none=>exact r.elim
  |some _=>exact r
def KV.val(r:KV kvs vs)(k:κ):RelO (vB kvs k) (valueAt vs k):=by
 induction r with
 |nil=>exact True.intro
 |@cons p q ps qs h t B =>
  obtain⟨h1,h2⟩:=h
  by_cases e:p.1=k
  .have g:=h1.symm.trans e
   have b:valueAt (q::qs) k=some q.2:=by simp[valueAt,List.find?_cons,g]
   rwa [dN e,b]
  .have g:¬ q.1=k:=fun z=>e (h1.trans z)
   have b:valueAt (q::qs) k=valueAt qs k:=by simp[valueAt,List.find?_cons,g]
   rwa [cN e,b]
def KV.any(r:KV kvs vs)(k:κ):(kvs.any fun g=>decide (g.1=k))=vs.any fun g=>decide (g.1=k):=by
 induction r with
 |nil=>rfl
 |cons h t q=>rw[BB,BB,q,h.1]
def KV.repl(r:KV kvs vs)(k:κ)(D:RelV y u):
  KV (kvs.map fun g=>if g.1=k then (g.1,y) else g) (vs.map fun g=>if g.1=k then (g.1,u) else g):=by
 induction r with
 |nil=>exact .nil
 |@cons p q ps qs h t B =>
  refine .cons ?_ B;obtain⟨h1,h2⟩:=h
  by_cases e:p.1=k
  .lia
  .lia
theorem KV.put(r:KV kvs vs)(k:κ)(g:RelV y u):KV (iV kvs k y) (stored vs k u):=by
 delta iV stored
 rw[r.any k]
 by_cases e:(vs.any fun q=>decide (q.1=k))=true
 .rw [AZ e,AZ e];exact r.repl k g
 .rw [AX e,AX e];exact Paired.snoc r ⟨rfl,g⟩
def KV.length{vs:List (κ×Value)}(r:KV kvs vs):kvs.length=vs.length:=Paired.length r
end
def sC(r:RelV (kV k) u):(sX P w).is k u=true:=by
 rcases k with (_ | i) | x
 .cases r;exact cA P w
 .obtain ⟨t,rfl⟩:=r;exact QZ P w i t
 .obtain ⟨t,rfl⟩:=r;exact QY P w x t
theorem lO: ∀{ks}{g},Vals (ks.map kV) g->ItemsAre (sX P w) ks g
 |[],_,r=>by cases r;exact .nil
 |k::ks,_,r=>by
  cases r with
  |cons h t=>exact .cons (sC h) (lO t)
abbrev KT(H:Hp):List (List Key×V)->List (List Key×Addr×Value)->Prop:=Paired fun p q=>p.1=q.1/\H q.2.1=some (.tup (p.1.map kV))/\RelV p.2 q.2.2
def KT.val(r:KT H kvs xs)k:RelO (vB kvs k) ((atKey xs k).map (·.2)):=by
 induction r with
 |nil=>exact True.intro
 |@cons p q ps qs h t B =>
  obtain⟨h1,_,h2⟩:=h
  by_cases e:p.1=k
  .have g:=h1.symm.trans e
   have b:atKey (q::qs) k=some q.2:=by simp[atKey,List.find?_cons,g]
   rwa [dN e,b]
  .have g:¬ q.1=k:=fun z=>e (h1.trans z)
   have b:atKey (q::qs) k=atKey qs k:=by simp[atKey,List.find?_cons,g]
   rwa [cN e,b]
def KT.repl(r:KT H kvs xs)k(I:RelV y u):
  KT H (kvs.map fun g=>if g.1=k then (g.1,y) else g) (xs.map (putAt k u)):=by
 induction r with
 |nil=>exact .nil
 |@cons p q ps qs h t B =>
  refine .cons (Vh h fun h1 h2 D=>?_) B
  delta putAt
  by_cases e:p.1=k
  .lia
  .lia
theorem KT.put(r:KT H kvs xs)k(B:H b=some (.tup (k.map kV)))(g:RelV y u):
  KT H (iV kvs k y) (storedH xs k b u):=by
 have e:(kvs.any fun D=>decide (D.1=k))=(atKey xs k).isSome:=by
  rw[Qq,(r.val k).isSome_eq,Option.isSome_map]
 delta iV storedH
 rw[e]
 by_cases q:(atKey xs k).isSome=true
 .rw [AZ q,AZ q];exact r.repl k g
 .rw [AX q,AX q];exact Paired.snoc r ⟨rfl,B,g⟩
def KT.keeps(r:KT H kvs xs)(g:∀b ys,H b=some (.tup ys)->H' b=some (.tup ys)):KT H' kvs xs :=
 Paired.mapP r fun _ _ z=>⟨z.1,g _ _ z.2.1,z.2.2⟩
section
variable {P:Program}{w:World}{H:Hp}{h:Heap}{a:Addr}
def rd_of(g:HOk P w H h)(e:Rd H a u):ObjOk P w H h a u:=e.ok g
def qE(g:HOk P w H h)(e:Rd H a (.dK kvs)):kvs.length<=sizeLine/\(a==sysModules)=false/\∃vs,KV kvs vs/\h.DictOf (sX P w) a vs :=
 show ObjOk P w H h a (.dK kvs) from rd_of g e
def J6(g:HOk P w H h)(e:H a=some (.dK kvs)):kvs.length<=sizeLine/\(a==sysModules)=false/\∃vs,KV kvs vs/\h.DictOf (sX P w) a vs:=qE g (.inl e)
def kU(B:HOk P w H h)(e:H a=some (.tup (ks.map kV))):(tupleKind (sX P w)).is h ks a:=by
 obtain⟨_,q,r,o,h1,h2,⟨n,g⟩,_⟩:=(B a _ e);exact⟨o,q.toArray,n,h1,h2,g,by simpa using lO r⟩
def Xs(D:HOk P w H h)(e:Rd H a (.dT kvs)):kvs.length<=sizeLine/\(a==sysModules)=false /\
  ∃xs,KT H kvs xs/\h.DictOfH (tupleKind (sX P w)) a xs:=by
 obtain⟨z,y,xs,r,o,es,ep,h1,h2,J,O,S⟩:=(rd_of D e);refine⟨z,y,xs,r,o,es,ep,h1,h2,J,O,fun x g=>?_,S⟩
 have I:∀{l:List (List Key×V)}{m:List (List Key×Addr×Value)},KT H l m->∀x∈m,(tupleKind (sX P w)).is h x.1 x.2.1:=by
  intro l m q
  induction q with
  |nil=>intro x g;exact nomatch g
  |@cons p q ps qs B t U =>
   intro x g
   rcases Ai.mp g with e | g
   .subst e
    exact kU D (B.1▸B.2.1)
   .exact U x g
 exact I r x g
def Gc(g:HOk P w H h)(e:H a=some (.dT kvs)):kvs.length<=sizeLine/\(a==sysModules)=false /\
  ∃xs,KT H kvs xs/\h.DictOfH (tupleKind (sX P w)) a xs:=Xs g (.inl e)
end
def DGet(H:Hp)(a:Addr)(y:V)(r:Option V):Prop :=
 (∃kvs k,Rd H a (.dK kvs)/\y=kV k/\r=vB kvs k)\/∃kvs k b,Rd H a (.dT kvs)/\y=.ref b/\H b=some (.tup (k.map kV))/\r=vB kvs k
def DPut(H:Hp)(a:Addr)(y v:V)(H':Hp):Prop :=
 (∃kvs k,H a=some (.dK kvs)/\y=kV k/\kvs.length < sizeLine/\H'=upd H a (.dK (iV kvs k v))) \/
 ∃kvs k b,H a=some (.dT kvs)/\y=.ref b/\H b=some (.tup (k.map kV))/\kvs.length < sizeLine/\H'=upd H a (.dT (iV kvs k v))
theorem DGet.t{k}(e:H a=some (.dT kvs))(g:H b=some (.tup (k.map kV))):DGet H a (.ref b) (vB kvs k):=.inr ⟨kvs,k,b,.inl e,rfl,g,rfl⟩
theorem DPut.k{k}(e:H a=some (.dK kvs))(g:kvs.length < sizeLine):DPut H a (kV k) v (upd H a (.dK (iV kvs k v))):=.inl ⟨kvs,k,e,rfl,g,rfl⟩
theorem DPut.t{k}(e:H a=some (.dT kvs))(g:H b=some (.tup (k.map kV)))(q:kvs.length < sizeLine):
  DPut H a (.ref b) v (upd H a (.dT (iV kvs k v))):=.inr ⟨kvs,k,b,e,rfl,g,q,rfl⟩
section
variable {X:Cx}{pins:List (Addr×Obj)}{σ:St}{H:Hp}{s:Shared}{a:Addr}{y v:V}{u r:Value}{o:Option V}{A:Around}{E:Value->Shared->Prop}
def Inv.big(I:Inv X pins σ H s):sysModules < s.heap.objs.size :=Nat.lt_trans (by decide) ((I.mod.glob.keeps I.bk).lt)
def Vk(hu:A.units+1 < cLine)(I:Inv X pins σ H s)(g:DGet H a y (some v))(U:RelV y u)(h:∀q s',Inv X pins σ H s'->RelV v q->Q q s'):
  wpAny (model X.prog X.w) A (getItem (.ref a) u) Q E s:=by
 rcases g with ⟨kvs,k,e,D,l⟩ | ⟨kvs,k,b,e,D,Y,l⟩
 .subst D
  obtain⟨z,Z,vs,O,B⟩:=qE I.hok e;exact zX (RelO.some_of (l▸O.val k)) fun q J S=>wpAny_getItem_of (sC U) B.mapOf J (h q _ (I.tok _) S)
 .subst D
  cases U;obtain⟨z,Z,xs,O,B⟩:=Xs I.hok e;refine zX (RelO.some_of (l▸O.val k)) fun q J S=>zX (Option.map_eq_some_iff.mp J) fun p hp ab=>?_;exact wpAny_getItem_heap (tupleKind_room_in1 hu) (kU I.hok Y) B hp (ab▸h q _ (I.tok _) S)
def wI(I:Inv X pins σ H s)(J:Mut (H a))(hs:Heap.SameBut a s.heap h')(D:∃q,h'.get? a=some q)(O:ObjOk X.prog X.w (upd H a g) h' a g):
  Inv X pins σ (upd H a g) { s with heap:=h',toks:=t' } :=
 I.write J (.inl rfl) (fun b q B z=>(hs.2 b B).trans z) D O
def Ge(z:kvs.length<=sizeLine)(q:(a==sysModules)=false)(B:KV kvs vs)(g:h'.DictOf (sX P w) a vs):
  ObjOk P w H' h' a (.dK kvs):=⟨z,q,vs,B,g⟩
def Vj(hu:A.units+1 < cLine)(I:Inv X pins σ H s)(g:DPut H a y v H')(ry:RelV y u)(rv:RelV v r)(h:∀s',Inv X pins σ H' s'->Q () s'):
  wpAny (model X.prog X.w) A (setItem (.ref a) u r) Q E s:=by
 rcases g with ⟨kvs,k,e,U,l,S⟩ | ⟨kvs,k,b,e,U,eb,l,S⟩
 .subst U S
  obtain⟨z,Y,vs,B,O⟩:=J6 I.hok e;have hz:vs.length<=sizeLine:=by rwa [<- B.length]
  have Z:(iV kvs k v).length<=sizeLine:=by have:=nY kvs k v;lia
  refine wpAny_setItem_pairs (sC ry) O fun h' D hs=>h _ ?_;have ab:∃q,h'.get? a=some q:=let ⟨q,_,_,J,_⟩:=D;⟨q,J⟩
  exact wI I (e▸True.intro) hs ab (Ge Z Y (B.put k rv) D)
 .subst U S
  cases ry;obtain⟨z,Y,xs,B,O⟩:=Gc I.hok e;have hz:xs.length<=sizeLine:=by rwa [<- Paired.length B]
  have Z:(iV kvs k v).length<=sizeLine:=by have:=nY kvs k v;lia
  refine wpAny_setItem_heap (tupleKind_room_in1 hu) (kU I.hok eb) O fun h' D hs=>h _ (el36 D fun q es ep J h2 h3 h4 _ h5=>wI I (e▸True.intro) hs ⟨q,J⟩ ⟨Z,Y,_,(B.put k eb rv).keeps fun c ys ec=>?_,q,es,ep,J,h2,h3,h4,h5⟩);rw[dQ (ne_of ec e (fun z=>nomatch z))];exact ec
end
section
variable {X:Cx}{pins:List (Addr×Obj)}{σ:St}{H:Hp}{s:Shared}{a:Addr}{kvs:List (Key×V)}{k:Key}{u:Value}{A:Around}{E:Value->Shared->Prop}
def d_len(I:Inv X pins σ H s)(e:Rd H a (.dK kvs))(h:∀t s',Inv X pins σ H s'->Q (.int kvs.length t) s'):wpAny (model X.prog X.w) A (call (.builtin "len") [.ref a]) Q E s:=by
 obtain⟨z,B,vs,g,q⟩:=qE I.hok e
 apply call_len_dict B q (by rw[<- g.length];rw[B1] at z;lia)
 exact g.length▸h _ _ (I.tok _)
end
def VE(i:Expr):Prop:=∀q g,subscripted i false q g=operate [q,g] (getItem q g)
def subD_of{id}(S:typeLookup (.type T) "__getitem__" = pure (some (.builtin id)))(hs:VE D)(h:wpAny (model prog w) A (eval value env) (fun o I=>wpAny (model prog w) A (eval D env) (fun i g=>g.TypeIs o T/\wpAny (model prog w) A (getItem o i) Q E g) E I) E s):
  wpAny (model prog w) A (eval (.Subscript value D pos) env) Q E s:=by
 refine Subscript_ (BM h (fun o I U=>BM U (fun i g B=>?_) fun _ _ x=>x) fun _ _ x=>x);obtain⟨O,B⟩:=B
 apply AA
 refine AA (BX O S ?_);have q:wpAny (model prog w) A (subscripted D false o i) (fun r J=>wpAny (model prog w) A (letTemporaryGo value o r >>= fun _=>pure r) Q E J) E g :=(hs o i)▸wpAny_operating (BM B (fun r J Y=>AA (wpAny_letTemporaryGo (AC Y))) fun _ _ x=>x)
 first
  |exact AC (AA q)
  |exact AA (AC (AA q))
  |exact AA q
def Xw{σ:St}(I:Inv X pins σ H s)(g:DGet H a y o):s.TypeIs (.ref a) "dict":=by
 rcases g with ⟨kvs,k,e,_,_⟩ | ⟨kvs,k,b,e,_,_,_⟩
 .obtain ⟨_,_,vs,_,q⟩:=qE I.hok e
  exact q.typeIs
 .obtain ⟨_,_,xs,_,q⟩:=Xs I.hok e
  exact q.typeIs
def tDGet(td ty:TE):TE:=fun σ H Q=>td σ H fun x H1=>ty σ H1 fun y H2=>∃a v,x=.ref a/\DGet H2 a y (some v)/\Q v H2
def sDPut(td ty tv:TE):TS:=fun D σ H=>tv σ H fun v H1=>td σ H1 fun x H2=>ty σ H2 fun y q=>∃a g,x=.ref a/\DPut q a y v g/\D.nx σ g
section
variable {X:Cx}{o i e value:Expr}{pos pos' tpos:Pos}{td ty tv:TE}
def pe_dget(O:X.A.units+1 < cLine)(J:PE X o td)(hi:PE X i ty)(hs:VE i):PE X (.Subscript o i pos) (tDGet td ty):=by
 intro pins s σ H Q I h;refine subD_of PySem.F.slot_dict_getitem.lookup hs (thn (J pins s σ H _ I h) fun u ab zz=>uZ zz fun x H1 B Z S=> thn (hi pins ab σ H1 _ B S) fun iv ae zq=>?_);obtain⟨y,H2,q,ry,a,v,rfl,g,U⟩:=zq;obtain rfl:u=Value.ref a:=Z;exact⟨Xw q g,Vk O q g ry fun w' af D Y=>⟨v,H2,D,Y,U⟩⟩
def ps_dput(Y:X.A.units+1 < cLine)(U:PE X o td)(hi:PE X i ty)(Z:PE X value tv)(hs:swapsWith value (some (.Subscript o i pos')) pos.line X.env=pure false):
  PS X (.Assign [.Subscript o i pos'] value pos) (sDPut td ty tv):=by
 intro pins s σ H af I h;refine wpAny_Assign_Subscript (thn (Z pins s σ H _ I h) fun r ab q=>uZ q fun v H1 D rv q1=> thn (U pins ab σ H1 _ D q1) fun u ae q=>uZ q fun x H2 J rx q2=> thn (hi pins ae σ H2 _ J q2) fun iv ag zq=>?_) hs;obtain⟨y,H3,O,ry,a,B,rfl,g,q3⟩:=zq;obtain rfl:u=Value.ref a:=rx;exact Vj Y O g ry rv fun ah S=>⟨σ,B,S,q3⟩
end
def Xv(h:Heap)(g:sysModules < h.objs.size):ObjOk P w H (h.push { cls:=.type "dict",data:=.dict #[] }) h.objs.size (.dK []) :=
 ⟨AY _,beq_eq_false_iff_ne.mpr (Ne.symm (Ab g)),[],.nil,Heap.DictOf.new h⟩
def Xt(h:Heap)(g:sysModules < h.objs.size):ObjOk P w H (h.push { cls:=.type "dict",data:=.dict #[] }) h.objs.size (.dT []) :=
 ⟨AY _,beq_eq_false_iff_ne.mpr (Ne.symm (Ab g)),[],.nil,_,#[],0,AK _ rfl,⟨rfl,rfl,rfl⟩,rfl,rfl,Cz⟩
def V3:TE:=fun _ H Q=>∀p,H p=none->Q (.ref p) (upd H p (.dK []))
def V2:TE:=fun _ H Q=>∀p,H p=none->Q (.ref p) (upd H p (.dT []))
section
variable {X:Cx}{pos:Pos}
def WJ:PE X (.Dict [] [] pos) V3:=fun pins s σ H Q I h=>
 wpAny_Dict_empty ⟨.ref s.heap.objs.size,_,I.laid (t':=s.toks) (fun _ _ q=>AD _ q) (AH _) (Xv s.heap I.big),rfl,h _ (I.hok.fresh (AH _))⟩
def WH:PE X (.Dict [] [] pos) V2:=fun pins s σ H Q I h=>
 wpAny_Dict_empty ⟨.ref s.heap.objs.size,_,I.laid (t':=s.toks) (fun _ _ q=>AD _ q) (AH _) (Xt s.heap I.big),rfl,h _ (I.hok.fresh (AH _))⟩
end
def sE:List (TE×TE)->St->Hp->(List (V×V)->Hp->Prop)->Prop
 |[],_,H,Q=>Q [] H
 | (q,tv)::r,σ,H,Q=>q σ H fun x H1=>tv σ H1 fun y H2=>sE r σ H2 fun ps g=>Q ((x,y)::ps) g
abbrev VV:List (V×V)->List (Value×Value)->Prop:=Paired fun p q=>RelV p.1 q.1/\RelV p.2 q.2
def PPs(X:Cx)(pos:Pos)(keys:List (Option Expr))(values:List Expr)(g:List (TE×TE)):Prop :=
 ∀(pins:List (Addr×Obj))(s:Shared)(σ:St)(H:Hp)(Q:List (V×V)->Hp->Prop),Inv X pins σ H s->sE g σ H Q ->
  wpAny (model X.prog X.w) X.A (evalPairs (pairTrees keys values X.env pos)) (fun vs s'=>∃ps H',Inv X pins σ H' s'/\VV ps vs/\Q ps H') X.xe s
def pps_nil: PPs X pos [] [] []:=fun pins s σ H Q I h=>pairTrees_nil_walk ⟨[],H,I,.nil,h⟩
def Wz(O:PE X k tk)(U:PE X v tv)(S:PPs X pos ks vs ag):
  PPs X pos (some k::ks) (v::vs) ((tk,tv)::ag):=fun pins s σ H Q I h=>
 pairTrees_cons_walk (thn (O pins s σ H _ I h) fun u ae g=>uZ g fun x H1 B rx Y=> thn (U pins ae σ H1 _ B Y) fun w2 af g=>uZ g fun y H2 D ry Z=>
  thn (S pins af σ H2 _ D Z) fun ai ah g=>uZ g fun ps q J ab q3=> ⟨(x,y)::ps,q,J,.cons ⟨rx,ry⟩ ab,q3⟩)
def xF(kvs B:List (Key×V)):List (Key×V):=B.foldl (fun q g=>iV q g.1 g.2) kvs
def KV.merge:∀{g}{rs}{kvs}{vs},KV g rs->KV kvs vs->KV (xF kvs g) (merged vs rs):=by
 intro g rs kvs vs r
 induction r generalizing kvs vs with
 |nil=>intro q;exact q
 |@cons p q ps qs h t B =>
  intro D
  have e:KV (iV kvs p.1 p.2) (stored vs q.1 q.2):=by
   have:=D.put p.1 h.2
   rwa [<- h.1]
  exact B e
theorem eM:∀g kvs,(xF kvs g).length<=kvs.length+g.length
 |[],kvs=>by show kvs.length<=kvs.length+0;lia
 |p::r,kvs=>by
  have h1:=eM r (iV kvs p.1 p.2);have h2:=nY kvs p.1 p.2;show(xF (iV kvs p.1 p.2) r).length<=_;rw[AV];lia
theorem nR: ∀{kvs}{B},VV (kvs.map fun g=>(kV g.1,g.2)) B->∃rs,Carries (sX P w) B rs/\KV kvs rs
 |[],_,r=>by cases r;exact⟨[],True.intro,.nil⟩
 |p::kvs,_,r=>by
  cases r with
  |@cons a b as bs h t =>
   obtain⟨rs,c,q⟩:=(nR (P:=P) (w:=w) t);obtain⟨I,D⟩:=b;exact⟨(p.1,D)::rs,⟨sC h.1,rfl,c⟩,.cons ⟨rfl,h.2⟩ q⟩
def tDisp(q:List (TE×TE)):TE:=fun σ H Q=>∀p,H p=none->sE q σ (upd H p (.dK [])) fun ps H2=>H2 p=some (.dK [])/\∃kvs:List (Key×V),ps=kvs.map (fun g=>(kV g.1,g.2))/\kvs.length<=15/\Q (.ref p) (upd H2 p (.dK (xF [] kvs)))
def pe_disp(h:PPs X pos keys values af)(S:keys.all (·.isSome)=true)(Z:keys.length=values.length)(h0:keys≠[])(O:keys.length<=15):PE X (.Dict keys values pos) (tDisp af):=by
 intro pins s σ H Q I q;have D:=I.laid (h':=s.heap.push { cls:=.type "dict",data:=.dict #[] }) (t':=s.toks) (fun _ _ q=>AD _ q) (AH _) (Xv s.heap I.big);refine wpAny_Dict_walk (knd:=sX X.prog X.w) S Z h0 O (thn (h pins _ σ _ _ D (q _ (I.hok.fresh (AH s.heap.objs.size)))) fun ai ag zq=>?_);obtain⟨ps,H2,g,ab,e,kvs,rfl,lk,q2⟩:=zq;obtain⟨rs,c,ae⟩:=nR ab
 obtain⟨z,U,ah,r0,J⟩:=J6 g.hok e;cases r0;refine⟨rs,c,J,fun h' B hs=>⟨.ref s.heap.objs.size,_,?_,rfl,q2⟩⟩
 have hz:(xF [] kvs).length<=sizeLine:=by
  have h1:=eM kvs [];rw[BQ] at h1;rw[B1];lia
 have Y:∃q,h'.get? s.heap.objs.size=some q:=let ⟨q,_,_,hq,_⟩:=B;⟨q,hq⟩
 exact wI g (e▸True.intro) hs Y (Ge hz U (ae.merge .nil) B)
structure M2(X:Cx)(o:Expr)(m:Str)(apos:Pos)(e f:Expr)(cpos:Pos):Prop where
 base:attributeBase o m X.env (eval o X.env)=eval o X.env
 few:((backTo cpos (starEach [e,f] X.env)).all (fun x=>!x.1)&&(backToKw cpos (keywordEach [] X.env)).all (fun x=>x.1.isSome)
  && decide (([e,f]:List Expr).length+([]:List Keyword).length+(if ([]:List Keyword).isEmpty then 0 else 1) < 30))=true
 line:(apos.endLine==cpos.line)=true
 trees:backTo cpos (starEach [e,f] X.env)=[(false,eval e X.env),(false,eval f X.env)]
def IsD(H:Hp)(a:Addr):Prop:=(∃kvs,Rd H a (.dK kvs))\/∃kvs,Rd H a (.dT kvs)
def isD_at{σ:St}(I:Inv X pins σ H s)(d:IsD H a):
  s.TypeIs (.ref a) "dict"/\(∀b,Value.ref a=.ref b->∃g,s.heap.get? b=some g/\g.dict=none)/\(a==sysModules)=false:=by
 rcases d with ⟨kvs,e⟩ | ⟨kvs,e⟩
 .obtain ⟨_,D,vs,_,B⟩:=qE I.hok e
  refine⟨B.typeIs,fun b q=>?_,D⟩;cases q;exact iS B fun g _ _ h1 h2 _=>⟨g,h1,h2.2.1⟩
 .obtain ⟨_,D,xs,_,B⟩:=Xs I.hok e
  refine⟨B.typeIs,fun b q=>?_,D⟩;cases q;exact iS B fun g _ _ h1 h2 _=>⟨g,h1,h2.2.1⟩
section
variable {X:Cx}{pins:List (Addr×Obj)}{σ:St}{H:Hp}{s:Shared}{a:Addr}{y d:V}{u r:Value}{o:Option V}{A:Around}{E:Value->Shared->Prop}
def d_get2(Z:A.units+1 < cLine)(I:Inv X pins σ H s)(g:DGet H a y o)(S:RelV y u)(O:RelV d r)(h:∀U s',Inv X pins σ H s'->RelV (o.getD d) U->Q U s'):
  wpAny (model X.prog X.w) A (call (.builtin "dict.get") [.ref a,u,r]) Q E s:=by
 rcases g with ⟨kvs,k,e,B,l⟩ | ⟨kvs,k,b,e,B,Y,l⟩
 .subst B
  obtain⟨z,D,vs,J,q⟩:=qE I.hok e;exact call_meetsIn Dc q.typeIs PySem.F.entry_dict_get (PySem.F.args_dict_get_3 _ _ _) (meets_dict_get_default (sX X.prog X.w) a (sC S) D r) ⟨_,q.mapOf,h _ _ (I.tok _) (l▸(J.val k).getD O)⟩
 .subst B
  cases S;obtain⟨z,D,xs,J,q⟩:=Xs I.hok e;exact call_meetsIn Dc q.typeIs PySem.F.entry_dict_get (PySem.F.args_dict_get_3 _ _ _) (meetsH_dict_get_default (tupleKind (sX X.prog X.w)) a b D r) ⟨tupleKind_room_in1 Z,k,xs,kU I.hok Y,q,h _ _ (I.tok _) (l▸(J.val k).getD O)⟩
end
def V4(td ty tx:TE):TE:=fun σ H Q=>td σ H fun x H1=>∃a,x=.ref a/\IsD H1 a/\ty σ H1 fun y H2=>tx σ H2 fun z g=>∃o,DGet g a y o/\Q (o.getD z) g
section
variable {X:Cx}{o e f:Expr}{apos cpos:Pos}{td ty tx:TE}
def WK(Z:X.A.units+1 < cLine)(Y:PE X o td)(S:PE X e ty)(U:PE X f tx)(m:M2 X o "get" apos e f cpos):PE X (.Call (.Attribute o "get" apos) [e,f] [] cpos) (V4 td ty tx):=by
 intro pins s σ H Q I h;refine wpAny_Call_method m.base m.few m.line PySem.F.plainAttrs_dict Dc PySem.F.type_dict_get (thn (Y pins s σ H _ I h) fun u ae zq=>?_);obtain⟨x,H1,q,rx,a,rfl,d,q1⟩:=zq;obtain rfl:u=Value.ref a:=rx
 exact Vh (isD_at q d) fun ag t2 _=>⟨ag,t2,m.trees▸DR rfl (Calls.evalArgs_plain (Calls.spliced_cons (thn (S pins ae σ H1 _ q q1) fun iv af zz=>uZ zz fun y H2 D ry q2=>
  Calls.spliced_cons (thn (U pins af σ H2 _ D q2) fun fv ah ⟨z,B,J,rz,ov,g,q3⟩=>Calls.spliced_nil (d_get2 Z J g ry rz fun w' ai O ab=>⟨_,B,O,ab,q3⟩)))))⟩
end
end L2
namespace Att
open PySem PySem.W PySem.Calls PyProof.Rows
def yH: ∀ns vs,WellAll P h vs (ns.map WData.int)->IntsAre vs ns:=by
 intro ns
 induction ns with
 |nil =>
  intro vs w;cases w;exact .nil
 |cons n ns g =>
  intro vs w
  cases w with
  |cons a b =>
   cases a;exact .cons _ _ (g _ b)
def KC{l:OpenLaw}(U:l.most=some n)(I:l.row.toRowW.claim.pre g=true)(Z:WellAll P h ab g):
  ∃a vs ns,ab=[Value.ref a]/\g=[WData.list (ns.map WData.int)]/\h.get? a=some { cls:=.type "list",data:=.seq vs.toArray }/\IntsAre vs ns/\ns.length<=n:=by
 have D:l.pre.holds [] { args:=g }=true:=(pre_splitW I).2;obtain⟨d,r,rfl,h1,h2⟩:=hasAllW_cons ((pre_splitW I).1);obtain rfl:=hasAllW_nil h2;obtain⟨xs,rfl,J⟩:=hasW_list h1;obtain⟨ns,rfl⟩:=items_int J
 have S:ns.length<=n:=by
  delta OpenLaw.pre at D
  have B:(WTm.not (.lt (.lit (.int (n:Int))) (.len (.arg 0)))).holds [] { args:=[.list (ns.map .int)] }=true:=by
   have B:=(holds_andW D).1
   rwa [U] at B
  have q:=condW_of B (w_not (w_lt w_lit (w_len_list (w_arg rfl))));rw[AB] at q;refine Nat.le_of_not_lt fun ae=>?_;have q':(n:Int) < ((ns.length:Nat):Int):=by omega
  first
   | (rw[Ad q'] at q;exact absurd q (by decide))
   | (simp at q;lia)
 cases Z with
 |cons w1 w2 =>
  cases w2
  cases w1 with
  |list Y O=>exact⟨_,_,ns,rfl,rfl,Y,yH ns _ O,S⟩
def KN(l:OpenLaw)g:l.row.toRowW.claim.post g (.bool true) g=true :=
 postW_of
  (show WShape.has [] (.bool true) .bool=true by first | rfl | decide | simp[ WShape.arms])
  (w_eq_bool (w_res rfl) w_lit) rfl
def attach_call{l:OpenLaw}(hn:l.most=some n)(ag:d.params.defaults=[])(ab:∀w O g mg I q o J B D a vs ns,
   Ground aw av [] U w O mg I g.heap->Z w g.heap ->
   g.heap.get? q=some o->o.data=.func (docDef d.name d.params d.body d.scope J B D)->g.heap.CodeRec B d.name->mg d.name=some (.ref q) ->
   g.heap.get? a=some { cls:=.type "list",data:=.seq vs.toArray }->IntsAre vs ns->ns.length<=n->g.gens = #[] ->
   codeAny (model l.prog w) callerA (.call (.ref q) ⟨[.ref a],[]⟩) (fun r s'=>r=.ok (.ret (.bool true))/\OldK g.heap s'.heap/\s'.os=g.os/\AllBare s'.gens) g):
  WalkO aw av U Z l.row.toRowW d [] (fun f vs=>PySem.call f vs):=by
 intro w O g mg I G Y q o J B D dV au ho af ae S ak hg ax a3 as aq ay a0 ar az;obtain rfl:dV=.none:=Dflts.none S ag;obtain rfl:au=.none:=Dflts.noKw S;obtain⟨a,vs,ns,rfl,rfl,ao,ah,ai⟩:=KC hn aq ar;refine enter_call (DP (ab w O g mg I q o J B D a vs ns G Y ho (fd_plain af) ae ak ao ah ai hg) fun r s' hq=>?_);obtain⟨rfl,h2,h3,h4⟩:=hq
 exact⟨.inl ⟨.bool true,.bool true,[],rfl,fun _=>rfl,.bool true,KN l _,fun _=>⟨List.Pairwise.nil,fun _ aj=>(nomatch aj)⟩⟩,h2,h3,h4⟩
end Att
namespace L2
open PySem PySem.Spec PyProof.Rows
theorem pT:∀{vs}{ns},IntsAre vs ns->Vals (ns.map V.int) vs
 |_,_,.nil=>.nil
 |_,_,.cons n t h=>.cons ⟨t,rfl⟩ (pT h)
def Only(H:Hp):Prop:=∀b,H b=none\/∃o xs,H b=some (.frz o (.lst xs))
def Yn{K}(S:K.In g.heap)(ae:g.heap.Ns mainGlobals mg)(B:g.heap.Ns builtinsNs mb)(aj:∀x:Str,x ≠ "__name__"->mb x=bootBuiltins x)(ao:g.heap.NoLimit)(hg:g.gens = #[])(D:g.heap.get? a=some { cls:=.type "list",data:=.seq vs.toArray })(hi:IntsAre vs ns)(hl:ns.length<=sizeLine)(hr:Room k callerA)(F:∀base:Heap,K.In base->base.Ns mainGlobals mg->FnOk P w K mg base CX k fa fd [x] sp)(ak:∀(s:Shared)(u:Value),BindsTo s fd ⟨[u],[]⟩ [(x,u)])(ar:∀H:Hp,Only H->SqL K H a (ns.map V.int)->sp [.ref a] H (fun v _=>v=.bl true) fun _ _ _=>False)(ai:∀H e s',CX [] H g (fun _ _ _=>False) e s'->False):
  codeAny (model P w) callerA (.call (.ref fa) ⟨[.ref a],[]⟩) (fun r s'=>r=.ok (.ret (.bool true))/\OldK g.heap s'.heap/\s'.os=g.os/\AllBare s'.gens) g:=by
 have rv:=pT hi
 have Y:∀H:Hp,Only H->SqL K H a (ns.map V.int)->HOk P w H g.heap->(∀b,H b≠none->b=a)->(H a≠none->K.lookup a=none) ->
   codeAny (model P w) callerA (.call (.ref fa) ⟨[.ref a],[]⟩) (fun r s'=>r=.ok (.ret (.bool true))/\OldK g.heap s'.heap/\s'.os=g.os/\AllBare s'.gens) g:=by
  intro H hO hS af hA aw;have U:∀{b:Addr}{o:Obj},g.heap.get? b=some o->H b=none->(Xg g.heap H).get? b=some o:=fun e n=>YL e n
  have au:∀{b:Addr}{o:Obj}{es:Array DictEntry}{ep:Nat},g.heap.get? b=some o->o.data=.dict es ep->H b=none:=fun {b o es ep}e d=>by
   cases q:H b with
   |none=>rfl
   |some u =>
    have e':=hA b (by lia);subst e';rw[D] at e;cases e
    cases d
  have I:∀{b:Addr}{m:Str->Option Value},g.heap.Ns b m->(Xg g.heap H).Ns b m:=fun {b m}zz=>iS zz fun o es ep e d r=> ⟨o,es,ep,U e (au e d),d,r⟩;have ab:K.In (Xg g.heap H):=fun b o e=>U (S b o e) (by grind);have e0:Env0 P w K mg (Xg g.heap H) callerA [] g H:=⟨rfl,(⟨ab,I ae,⟨mb,I B,aj⟩,let ⟨mc,h1,h2⟩:=ao;⟨mc,I h1,h2⟩⟩),fun b o e=>of_hidT e,B6 (Ve _ _),trivial,fun b B=>absurd (show b∈([]:List Addr) from B) (by simp),af,.of_eq hg⟩
  refine DP ((F _ ab (I ae)).run callerA [] g H ⟨[.ref a],[]⟩ [.ref a] [.ref a] _ _ hr e0 (ak g (.ref a)) (.cons rfl .nil) (ar H hO hS)) fun r s' h=>?_
  cases r with
  |error e=>exact(ai H e s' h).elim
  |ok fl =>
   cases fl with
   |next=>exact False.elim h
   |brk=>exact False.elim h
   |cont=>exact False.elim h
   |ret u =>
    refine el26 h fun v H' av ah ag aq r' q=>?_;subst q;obtain rfl:u=Value.bool true:=r';refine⟨rfl,OldK.of_keep fun b o e=>?_,av,ah⟩
    cases q:H b with
    |none=>exact ag.keep b o e q (by intro z;exact absurd (show b∈([]:List Addr) from z) (by simp)) (by simp)
    |some u =>
     rcases hO b with z | ⟨ob,xs,z⟩
     .lia
     .obtain ⟨Z,_⟩:=af b _ z
      obtain⟨e2,_⟩:=aq b _ (ag.frzs b ob _ z);rw[e] at Z;cases Z
      exact e2
 cases J:K.lookup a with
 |some o =>
  have e:=S a o J;rw[D] at e;cases e;refine Y (fun _=>none) (fun _=>.inl rfl) (.inr ⟨_,vs.toArray,_,J,rfl,rfl,rfl,by rw[Am,hi.length];exact hl,by simpa using rv⟩) (fun b u z=>by have O:=z;cases O) (fun b z=>absurd rfl z) fun z=>absurd rfl z
 |none =>
  refine Y (fun b=>if b=a then some (.frz { cls:=.type "list",data:=.seq vs.toArray } (.lst (ns.map V.int))) else none) (fun b=>?_) (.inl (.inr ⟨{ cls:=.type "list",data:=.seq vs.toArray },AZ rfl⟩)) (fun b u z=>?_) (fun b z=>?_) fun _=>J
  .grind
  .by_cases B:b=a
   .have O:=(AZ B).symm.trans z
    cases O;subst B;exact⟨D,by rw[AB];exact hl,vs,_,rv,D⟩
   .lia
  .lia
def walk_of{l:PySem.W.OpenLaw}{K:Params->De}{CX:World->CXT}{sp:World->Sp}(hn:l.most=some n)(ag:n<=sizeLine)(ab:d.params.defaults=[])(hr:Room k callerA)(U:∀(w:World)(h:Heap),D w h->(K w.params).In h)(F:∀(w:World)(mg:Str->Option Value)(g:Addr)(h:Heap),(K w.params).In h->h.Ns mainGlobals mg->mg d.name=some (.ref g) ->
   ∃fd:FuncData,(∀(s:Shared)(u:Value),BindsTo s fd ⟨[u],[]⟩ [(x,u)]) /\
    ∀base:Heap,(K w.params).In base->base.Ns mainGlobals mg->FnOk l.prog w (K w.params) mg base (CX w) k g fd [x] (sp w))(ai:∀(w:World)(H:Hp)(a:Addr)(ns:List Int),ns.length<=n->Only H->SqL (K w.params) H a (ns.map V.int)->sp w [.ref a] H (fun v _=>v=.bl true) fun _ _ _=>False)(I:∀(w:World)(H:Hp)(s:Shared)(e:Value)(s':Shared),CX w [] H s (fun _ _ _=>False) e s'->False):
  PySem.W.WalkO aw au XP D l.row.toRowW d [] (fun f vs=>PySem.call f vs):=by
 refine Att.attach_call hn ab fun w ax aj mg mb g o av ak ao a vs ns G Y ho ar aq af ah ae B hg=>?_;have q:=U w _ Y;exact zX (F w mg g _ q G.T.g af) fun fd Z J=>Yn q G.T.g G.T.b G.T.builtins G.T.nolimit hg ah ae (AW B ag) hr J Z (fun H O S=>ai w H a ns B O S) fun H e s'=>I w H aj e s'
def dW(s:Stmt)(j:Nat):Stmt:=match s with
 |.ClassDef _ _ _ g _ _ _ _ _ _ _=>g.getD j (.Pass ⟨0,0,0,0⟩)
 |_=>.Pass ⟨0,0,0,0⟩
def oY(s:Stmt):Arguments:=match s with
 |.FunctionDef _ a _ _ _ _ _ _ _ _=>a
 |_=>{ posonlyargs:=[],args:=[],vararg:=none,kwonlyargs:=[],kw_defaults:=[],kwarg:=none,defaults:=[] }
def uV(s:Stmt):List Stmt:=match s with
 |.FunctionDef _ _ b _ _ _ _ _ _ _=>b
 |_=>[]
def nX(s:Stmt):Scope:=match s with
 |.FunctionDef _ _ _ _ _ _ sc _ _ _=>sc
 |_=>{ kind:=.function,names:=[],isGenerator:=false,isCoroutine:=false }
abbrev CX0:CXT:=fun _ _ _ _ _ _=>False
abbrev E0:XK:=fun _ _ _=>False
def WT: fY CX0 X E0:=fun _ _ _ _ _ _ _ h=>h.elim
structure Fun(K:De)(x qual:Str)(st:Stmt)(f:Addr)(fd:FuncData):Prop where
 ex:∃(oc:Value)(od:Option Addr)(kV doc pm:Value)(an:Option Addr)(cdv ct:Value)(osl:Array (Option Value)),
  fd=PySem.W.fnOf x qual (oY st) (uV st) (nX st) .none kV doc pm an cdv ct/\K.lookup f=some ⟨oc,od,.func fd,osl⟩/\PySem.W.codeIn K cdv qual=true
 kp:PySem.W.keepIn K (.ref f)=true
section
variable {P:Program}{w:World}{K:De}{mg:Str->Option Value}{base:Heap}
theorem Fun.ok{st}(F:Fun K x D st f fd)(S:FnScope N ps (nX st))(Y:∀vs H Q E,sp vs H Q E->vs.length=ps.length)(I:∀g A B s H vs Q E,Room k (A.deeper (envOfC D (nX st) s.heap.objs.size f g))->sp vs H Q E ->
   ∃t,PSs (Xx CX0 P w K mg base N D (nX st) f g A B s H E).nox (uV st) t/\t { nx:=fun _ H'=>Q .non H',rt:=Q } (start N vs) H):FnOk P w K mg base CX0 (k+1) f fd ps sp:=by
 obtain⟨oc,od,af,ae,ah,ab,g,ct,ag,rfl,Z,J⟩:=F.ex;exact fn_of Z J S Y fun A B s H vs Q E O U=>zX (I g A B s H vs Q E O U) fun t h q=>⟨t,h.nox,q⟩
def Fun.binds{st}(F:Fun K x S st f fd)(h:∀(I D J:Value)(g:Option Addr)(q B:Value)(O:List Value),O.length=ps.length->bindArgs (PySem.W.fnOf x S (oY st) (uV st) (nX st) .none I D J g q B) ⟨O,[]⟩=pure (ps.zip O)):Binds K fd ps []:=by
 obtain⟨Z,od,I,D,J,g,q,B,ab,rfl,Y,U⟩:=F.ex;exact .all (h I D J g q B)
def kI{st}{B D g q}(l:K.lookup f=some ⟨S,U,.func (PySem.W.fnOf x I (oY st) (uV st) (nX st) .none B O D J g q),Y⟩)(c:PySem.W.codeIn K g I=true)(k:PySem.W.keepIn K (.ref f)=true):Fun K x I st f (PySem.W.fnOf x I (oY st) (uV st) (nX st) .none B O D J g q):=⟨⟨S,U,B,O,D,J,g,q,Y,rfl,l,c⟩,k⟩
end
def qZ(g:Room k A):A.units+1 < cLine:=Aj (Nat.add_le_add_left (by lia) _) g.units
section
variable {X:Cx}
def pv i{pos}(g:X.N[i]?=some x:=by rfl)(D:Vis X.env.scope x:=by first | exact Or.inl rfl | exact Or.inr (Or.inl rfl) | exact Or.inr (Or.inr rfl))(B:(x==("__debug__" : Str))=false:=by decide)(q:(x==("__classdict__" : Str))=false:=by decide):PE X (.Name x pos) (tVar i):=WD g D B q
end
def Same(H H':Hp):Prop:=∀b o,H b=some o->H' b=some o
def Same.refl H:Same H H:=fun _ _ h=>h
section
variable {X:Cx}
def Vu:CallR X (.builtin "len") (fun xs H Q=>∃a kvs,xs=[V.ref a]/\H a=some (.dK kvs)/\Q (.int kvs.length) H):=by
 intro pins s σ H xs D Q I r h;obtain⟨a,kvs,rfl,B,q⟩:=h;obtain⟨u,rfl,rfl⟩:=xB r;exact d_len I (.inl B) fun t s' g=>⟨.int kvs.length,H,g,⟨t,rfl⟩,q⟩
end
def wX:Expr->Bool
 |.Starred _ _=>false
 |_=>true
def gK(h:wX e=true):starEach (e::es) env=(false,eval e env)::starEach es env:=by
 cases e<;>first | rfl | exact absurd h AJ
theorem yB: ∀{es},es.all wX=true->(backTo pos (starEach es env)).any (·.1)=false
 |[],_=>rfl
 |e::es,h=>by
  rw[CQ,BI] at h;rw[gK h.1];show(false || (backTo pos (starEach es env)).any (·.1))=false;rw[yB h.2]
  rfl
section
variable {X:Cx}{e:Expr}{es:List Expr}{te:TE}{t:TA}{x:Str}{p pos:Pos}
def qa_cons(g:PE X e te)(q:PA X es t)(hs:wX e=true:=by rfl):PA X (e::es) (V5 te t):=pa_cons g q (gK hs)
def qe_call(F:FnOk X.prog X.w X.K X.mg X.base CX k f fd ps sp)(U:Room k X.A)(J:Gl X x)(S:X.mg x=some (.ref f))(O:PySem.W.keepIn X.K (.ref f)=true)(B:Binds X.K fd ps ds)(D:Vals dvs ds)(Y:fY CX X E)(g:PA X (e::es) t)(I:(x==("__debug__" : Str))=false:=by decide)(hs:wX e=true:=by rfl)(q:es.all wX=true:=by rfl):PE X (.Call (.Name x p) (e::es) [] pos) (V6 sp dvs E t) :=
 pe_call F U J S O B D Y g I (gK hs) (yB q)
def Wo{id}(B:CallR X (.builtin id) r)(I:Gl X x)(J:X.mg x=none)(S:bootBuiltins x=some (.builtin id))(g:PA X (e::es) t)(O:x ≠ "__name__":=by decide)(D:(x==("__debug__" : Str))=false:=by decide)(hs:wX e=true:=by rfl)(q:es.all wX=true:=by rfl):PE X (.Call (.Name x p) (e::es) [] pos) (tCB r t):=WN B I J S g O D (gK hs) (yB q)
def KL(B:CallR X (.type T) r)(I:Gl X x)(J:X.mg x=none)(S:bootBuiltins x=some (.type T))(g:PA X (e::es) t)(O:x ≠ "__name__":=by decide)(D:(x==("__debug__" : Str))=false:=by decide)(hs:wX e=true:=by rfl)(q:es.all wX=true:=by rfl):PE X (.Call (.Name x p) (e::es) [] pos) (tCB r t):=KR B I J S g O D (gK hs) (yB q)
end
section
variable {prog:Program}{w:World}{A:Around}{R:Result->Shared->Prop}{s:Shared}
def gI(I:Nat->Shared->Prop)(aj:∀n s,I n s->wpAny (model prog w) A (pyNext it) (fun r q=>match r with
   |none=>R (.ok .next) q
   |some v=>wpAny (model prog w) A (letOwnedTupleGo Y it v) (fun _ q=>wpAny (model prog w) A (assign Y env v) (fun _ O=>
     wpAny (model prog w) A (forIn ai true fun c r=>if r=true then do let g <- isTrue c env (eval c env);pure (ForInStep.yield g) else pure (ForInStep.yield r)) (fun g B=>
      if g=true then wpAny (model prog w) A (eval ab env) (fun x S=>
       wpAny (model prog w) A (call (.builtin "list.append") [Z,x]) (fun _ U=>∃m,m < n/\I m U) (fun _ _=>False) S) (fun _ _=>False) B
      else ∃m,m < n/\I m B) (fun _ _=>False) O) (fun _ _=>False) q) (fun _ _=>False) q) (fun _ _=>False) s)n(h:I n s):
  codeAny (model prog w) A (.compLoop (.ListComp ab [⟨Y,ak,ai,0⟩] ao pos) 0 it Z env) R s:=by
 refine codeAny_loop rfl I (fun n s hI=>wpAny_noted (AA (wpAny_standAt (AA (BM (aj n s hI) (fun r q D=>?_) fun _ _ h'=>False.elim h'))))) n h
 cases r with
 |none=>exact AC D
 |some v =>
  refine AA (BM D (fun _ aq ae=>AA (BM ae (fun _ O af=>AA (BM af (fun g B J=>?_) fun _ _ h'=>False.elim h')) fun _ _ h'=>False.elim h')) fun _ _ h'=>False.elim h')
  cases g with
  |false=>exact AC ⟨rfl,J⟩
  |true =>
   exact AA (AA (BM J (fun x S ag=>AA (BM ag (fun _ U ah=>AC (AC ⟨rfl,ah⟩)) fun _ _ h'=>False.elim h')) fun _ _ h'=>False.elim h'))
end
theorem qV{env:Env}:∀{B:List (Str×NameKind)}{y:Str}{k:NameKind},
  (B.map fun(n,k)=>if (k==NameKind.free&&env.scope.kind==.function&&env.kindOf n==some .cell) then (n,NameKind.cell) else (n,k)).lookup y=some k ->
   ∃g,(y,g)∈B/\(k=g\/(g=.free/\k=.cell))
 |[],_,_,h=>by simp at h
 | (n,D)::r,y,k,h=>by
  cases J:y==n with
  |true =>
   by_cases I:(D==NameKind.free&&env.scope.kind==.function&&env.kindOf y==some .cell)=true
   .grind
   .grind
  |false =>
   have h2:(r.map fun(n,k)=>if (k==NameKind.free&&env.scope.kind==.function&&env.kindOf n==some .cell) then (n,NameKind.cell) else (n,k)).lookup y=some k :=by grind
   exact zX ((@qV env r y k) h2) fun g m q=>⟨g,AL _ m,q⟩
def VD(X:Cx)(g:List Expr)(t:TT):Prop :=
 ∀(pins:List (Addr×Obj))(s:Shared)(σ:St)(H:Hp)(Q:Bool->Hp->Prop),Inv X pins σ H s->t σ H Q ->
  wpAny (model X.prog X.w) X.A (forIn g true fun c r=>if r=true then do let q <- isTrue c X.env (eval c X.env);pure (ForInStep.yield q) else pure (ForInStep.yield r)) (TP X pins σ Q) X.xe s
def tYes:TT:=fun _ H Q=>Q true H
def WB: VD X [] tYes:=fun _ _ _ H _ I h=>wpAny_tests_nil ⟨H,I,h⟩
def WA(h:PT X c t):VD X [c] t:=fun pins s σ H Q I g=>wpAny_tests_one (h pins s σ H Q I g)
def cxN(X:Cx)(xs:List Str)(D:Scope)(q:List (Str×Addr))(B:List Addr)(C:Addr)(I:Shared)(g:Hp):Cx where
 prog:=X.prog
 w:=X.w
 K:=X.K
 mg:=X.mg
 base:=X.base
 A:=X.A
 N:=xs++X.N
 s₀:=I
 H₀:=g
 env:=compEnvC D q C X.env
 outer:=X.stack
 stack:=X.stack
 ex:=B
 fn:=fun _=>false
 calm:=X.calm
 pn:=[]
 xe:=fun _ _=>False
abbrev cK X x:=cxN X [x]
def Qv(B:TI)(tc:TT)(te:TE):TE:=fun σ H Q=>B σ H fun J H1=>∀D,H1 D=none->∃W:Nat->Nat->List V->Hp->Prop,(∃m,W 0 m [] (upd H1 D (.lst [])))/\∀i m ys H,W i m ys H ->
 (J.stop i H/\Q (.ref D) H)\/(J.go i H/\∀x H',J.yld i H x H'->tc (some x::σ) H' fun b H2=>
  if b=true then te (some x::σ) H2 fun y q=>q D=some (.lst ys)/\ys.length < sizeLine/\∃g,g < m/\W (i+1) g (ys++[y]) (upd q D (.lst (ys++[y])))
  else ∃g,g < m/\W (i+1) g ys H2)
section
variable {X:Cx}
structure eK(X:Cx)(xs:List Str)(scope:Scope)(cl:List (Str×Addr)):Prop where
 clos:closureFor scope X.env=pure cl
 cell:∀y∈scope.names,y.2≠.cell
 kind:scope.kind=.function
 names:∀y∈scope.names,y.2=.local->scope.names.lookup y.1=some .local
 hx:∀x∈xs,scope.names.lookup x=some .local
 loc:∀y∈scope.names,y.2=.local->y.1∉X.N
 free:∀y∈scope.names,y.2=.free->X.env.kindOf y.1≠some .local/\(X.env.kindOf y.1=some .cell\/X.env.kindOf y.1=some .free)/\∃c,cl.lookup y.1=some c
 cl:∀y c,cl.lookup y=some c->X.env.cells.lookup y=some c
abbrev aB X x:=eK X [x]
def tY{te:TE}{g:TG}{Tk:V->Hp->List V->Prop}{RR:Value->Addr->Result->Shared->Prop}{EE:Value->Shared->Prop}(hc:X.calm=true)(K:eK X xs U Z)(hg:∀S C B I,PG (cxN X xs U Z S C B I) tg g)(ht:∀S C B I,VD (cxN X xs U Z S C B I) ba tc)(b4:∀S C B I,PE (cxN X xs U Z S C B I) a4 te){pins:List (Addr×Obj)}{σ:St}{B:Shared}{I:Hp}{it:Addr}{S:List Addr}{tn:Nat->Heap->Prop}{J:It}{Q:VK}(hG:∀bl vs x H Q,bl.length=xs.length->Tk x H vs->vs.length=xs.length->Q (vs.map some++σ) H->g x (bl++σ) H Q)(O:Inv X pins σ I B)(T:Jd X.prog X.w X.K tg J S it tn)(bh:tn 0 B.heap)(ae:∀b∈S,XT X pins I b)(R:∀ab,I ab=none->∃W:Nat->Nat->List V->Hp->Prop,(∃m,W 0 m [] (upd I ab (.lst [])))/\∀i m ys H,W i m ys H ->
   (J.stop i H/\Q (.ref ab) H)\/(J.go i H/\∀x H',J.yld i H x H'->∃vs,Tk x H' vs/\vs.length=xs.length/\tc (vs.map some++σ) H' fun b H2=>
    if b=true then te (vs.map some++σ) H2 fun y H3=>H3 ab=some (.lst ys)/\ys.length < sizeLine/\∃m',m' < m/\W (i+1) m' (ys++[y]) (upd H3 ab (.lst (ys++[y])))
    else ∃m',m' < m/\W (i+1) m' ys H2))(b1:∀(ab C:Addr)(H:Hp)(af:Shared)(m:Str->Option Value),af.heap.Ns C m->C≠X.env.locals->H C=none->(∀x c,X.env.cells.lookup x=some c->c≠C)->B.heap.objs.size<=C->Inv X pins σ H af ->
   Q (.ref ab) H->RR (.ref ab) C (.ok .next) af):
  wpAny (model X.prog X.w) X.A (newList []) (fun az ao=>wpAny (model X.prog X.w) X.A (newFunctionEnv U X.env.globals Z [] X.env.qual none .none (some X.env)) (fun a3 cu=>
   codeAny (model X.prog X.w) X.A (.compStart (.ListComp a4 [⟨tg,b7,ba,0⟩] U pos) 0 (.ref it) az { a3 with scope:=relabel U X.env }) (RR az a3.locals) cu) EE ao) EE B:=by
 refine Av (wpAny_newFunctionEnv K.cell (by intro y hy;simp at hy) (fun ar aw aq=>?_) K.kind);dsimp only at aw aq ⊢;generalize av:B.heap.push { cls:=.type "list",dict:=none,data:=.seq ([]:List Value).toArray }=H2 at aw aq ⊢;have hC:H2.objs.size=B.heap.objs.size+1:=by rw[<- av,Bt]
 have a8:B.heap.objs.size≠H2.objs.size :=hC▸Ab (Br _);have ai:∀b,b < B.heap.objs.size->b≠H2.objs.size/\b≠B.heap.objs.size:=fun b D=>⟨by exact hC▸Ab (Nat.lt_succ_of_lt D),Ab D⟩;have ak:∀b o,B.heap.get? b=some o->ar.get? b=some o:=fun b o e=>aq.extBut b o (ai b (AG e)).1 (AD _ (av▸AD _ e));have fD:=O.hok.fresh (AH _)
 have fC:I H2.objs.size=none:=O.hok.fresh (hC▸Bm _);have a5:∀b∈S,b < B.heap.objs.size:=fun b D=>let ⟨o,e,_⟩:=T.obj _ _ bh b D;AG e
 obtain⟨W,⟨cb,w0⟩,cw⟩:=R B.heap.objs.size fD
 have au:(cxN X xs U Z S H2.objs.size B I).Ok:=by
  refine⟨O.ok.mod,K.kind,O.ok.glob,O.ok.blt,?_,fun y z c h1 h2=>O.ok.inj y z c (K.cl y c h1) (K.cl z c h2),fun y hy=>?_,fun y c h _=>?_,O.ok.hd,O.ok.frames,.inl rfl,fun b D=>⟨(ai b (a5 b D)).1,fun y c h=>(ae b D).2.2.2.2.1 y c (K.cl y c h)⟩,O.bs,
   AW O.ok.bsz O.sz,fun b o e D=>?_,fun b D z=>?_,O.stack,O.stkFree⟩
  .exact hC▸Bm _
  .have bu:(y,NameKind.free)∈U.names:=by
    rcases hy with q | q
    .obtain ⟨k0,Y,z | ⟨z,_⟩⟩:=qV q
     .subst z;exact absurd rfl (K.cell _ Y)
     .subst z;exact Y
    .obtain ⟨k0,Y,z | ⟨z,w⟩⟩:=qV q
     .subst z;exact Y
     .cases w
   exact(K.free _ bu rfl).2.2
  .exact absurd h AJ
  .refine qT (ae b D) fun _ _ _ f3 _=>?_
   rcases f3 with z | z
   .exact O.ok.noex b o e z
   .exact absurd (AQ (AG (O.ok.bs b o e).1) z) (A9 _)
  .refine zT (ae b D) fun _ bq br _=>?_
   rcases Ai.mp (O.stkSub b z) with q | q
   .exact bq q
   .exact br q
 have c1:∀b,I b≠none->b≠B.heap.objs.size:=fun b D z=>D (z▸fD);have b9:HOk X.prog X.w (upd I B.heap.objs.size (.lst [])) ar:=O.hok.laid ak (AH _) ⟨AY _,[],_,.nil,(aq.extBut _ _ a8 (AD _ (av▸AK _ rfl)))⟩
 have cy:∀y,Vis (relabel U X.env) y->y∈X.N->(y,NameKind.free)∈U.names/\((relabel U X.env).names.lookup y=some .cell\/(relabel U X.env).names.lookup y=some .free):=by
  intro y hv b6
  rcases hv with q | q | q
  .obtain ⟨k0,Y,z | ⟨z,w⟩⟩:=qV q
   .subst z;exact absurd b6 (K.loc _ Y rfl)
   .cases w
  .obtain ⟨k0,Y,z | ⟨z,w⟩⟩:=qV q
   .subst z;exact absurd rfl (K.cell _ Y)
   .subst z;exact⟨Y,.inl q⟩
  .obtain ⟨k0,Y,z | ⟨z,w⟩⟩:=qV q
   .subst z;exact⟨Y,.inr q⟩
   .cases w
 have I':∀tk,Inv (cxN X xs U Z S H2.objs.size B I) [] (List.replicate xs.length none++σ) (upd I B.heap.objs.size (.lst [])) { B with heap:=ar,toks:=tk }:=by
  intro tk;refine⟨au,rfl,O.bare,Un.laid ak (AH _) fD,⟨_,aw,fun i y v h1 h2 h3=>?_⟩,fun y c h=>?_,?_,fun y c h=>?_,fun p hp=>absurd hp (by simp[cxN]),b9,?_⟩
  .rcases Cs i xs.length with hi | hi
   .rw [CJ (by rwa [Bi]),List.getElem?_replicate,AZ hi] at h2
    cases h2
   .have a7:X.N[i - xs.length]?=some y:=by
     have h1:(xs++X.N)[i]?=some y:=h1
     rwa [List.getElem?_append_right hi] at h1
    have bz:σ[i - xs.length]?=some (some v):=by
     rw[List.getElem?_append_right (by rwa [Bi]),Bi] at h2;exact h2
    obtain⟨fm,kk⟩:=cy y h3 (Ae a7);obtain⟨cg,vz,c,a9⟩:=K.free _ fm rfl;refine zX O.loc fun mm hn hl=>zX (hl (i - xs.length) y v a7 bz (vz.elim (fun z=>.inr (.inl z)) fun z=>.inr (.inr z))) fun u ru l=>?_
    rcases l with ⟨z,_⟩ | ⟨_,c',b2,b3⟩
    .exact absurd z cg
    .have ec:=A7 (b2.symm.trans (K.cl _ _ a9))
     subst ec;obtain⟨o,ho,aj⟩:=b3;exact⟨u,ru,.inr ⟨kk,c',a9,o,ak _ _ ho,aj⟩⟩
  .obtain ⟨v,o,ho,aj⟩:=O.cell y c (K.cl y c h)
   exact⟨v,o,ak _ _ ho,aj⟩
  .show upd I _ _ H2.objs.size=none
   rwa [dQ (Ne.symm a8)]
  .obtain ⟨v,o,ho,aj⟩:=O.cell y c (K.cl y c h)
   exact(dQ (ai c (AG ho)).2)▸O.freeC y c (K.cl y c h)
  .show (List.replicate xs.length none++σ).length=(xs++X.N).length
   rw[AN,AN,Bi,O.len]
 have ay:∀{H':Hp},(∀b∈S,H' b=none)->∀b∈S,XT (cxN X xs U Z S H2.objs.size B I) [] H' b:=fun hn b D=>
  ⟨hn b D,(au.exf b D).1,au.exfs b D,.inl D,(au.exf b D).2,fun p hp=>absurd hp (by simp[cxN])⟩
 have bj:=T.keep _ _ _ bh fun b _ o e=>ak b o e;have bt:∀b∈S,upd I B.heap.objs.size (.lst []) b=none:=fun b D=>(dQ (ai b (a5 b D)).2)▸(ae b D).1
 have bb:∀ao:Shared,(∃tk,ao={ B with heap:=ar,toks:=tk }) ->
   codeAny (model X.prog X.w) X.A (.compLoop (.ListComp a4 [⟨tg,b7,ba,0⟩] U pos) 0 (.ref it) (.ref B.heap.objs.size) (compEnvC U Z H2.objs.size X.env))
    (RR (.ref B.heap.objs.size) H2.objs.size) ao:=by
  rintro ao ⟨tk,rfl⟩
  refine gI (fun n s'=>∃i ys H' ag,ag.length=xs.length/\Inv (cxN X xs U Z S H2.objs.size B I) [] (ag++σ) H' s'/\tn i s'.heap/\(∀b∈S,H' b=none)/\W i n ys H') ?_ cb
   ⟨0,[],_,List.replicate xs.length none,Bi,I' tk,bj,bt,w0⟩
  rintro n bc ⟨i,ys,H3,ag,l0,I3,bg,a6,w3⟩
  rcases cw i n ys H3 w3 with ⟨ct,qn⟩ | ⟨bx,cq⟩
  .refine thn (T.done (cxN X xs U Z S H2.objs.size B I) rfl rfl rfl hc i [] bc (ag++σ) H3 (fun _ _=>False) I3 (ay a6) bg ct) fun r af zz=>yF zz fun hr I4=> ?_
   subst hr;show RR _ _ (.ok .next) af;refine zX I4.loc fun m hn _=>?_;have cn:=I4.os;refine b1 _ _ H3 af m hn ?_ I4.free (fun y c h z=>?_) (hC▸Bm _) ?_ qn
   .exact Ne.symm (ai _ O.lt).1
   .exact mG (O.cell y c h) fun v o ho aj=>(ai c (AG ho)).1 z
   .obtain ⟨hh,g,d,t,ck⟩:=af
    obtain rfl:ck=B.os:=cn;exact O.call (h':=hh) (g':=g) (d':=d) (t':=t) I4.base I4.hok I4.bare fun b D=>⟨(ae b D).2.2.2.1,(ae b D).2.1,(ae b D).2.2.2.2.1,(ae b D).2.2.2.2.2⟩
  .refine thn (T.item (cxN X xs U Z S H2.objs.size B I) rfl rfl rfl hc i [] bc (ag++σ) H3 (fun _ _=>False) I3 (ay a6) bg bx) fun r af zz=>zX zz fun u hr h4=> ?_
   subst hr;refine thn h4 fun _ bf zz=>el25 zz fun x5 H5 I5 r5 y5 ax bw=> ?_
   have a0:∀{H':Hp}{s':Shared}{τ:St},Inv (cxN X xs U Z S H2.objs.size B I) ([]++jC S bf.heap) τ H' s'->tn (i+1) s'.heap/\∀b∈S,H' b=none:=fun I7=>
    ⟨T.keep _ _ _ ax fun b D o e=>(I7.pin (b,o) (AR _ (AR _ (qU D e)))).1,fun b D=>zX (T.obj _ _ ax b D) fun o e d=>(I7.pin (b,o) (AR _ (AR _ (qU D e)))).2.1⟩
   refine jK (cq x5 H5 y5) fun ah cp l5 q5=>thn (hg S _ B I _ bf (ag++σ) H5 x5 u (fun c0 H'=>c0=ah.map some++σ/\H'=H5) (I5.pinned (ay bw) (T.obj _ _ ax)) r5 (hG ag ah x5 H5 _ l0 cp l5 ⟨rfl,rfl⟩)) fun _ s6 zz=>uZ zz fun c2 H6 I6 e6 bp=> ?_;subst e6 bp;have l6:(ah.map some).length=xs.length:=by rwa [AB]
   refine thn (ht S _ B I _ s6 (ah.map some++σ) H6 _ I6 q5) fun cj s7 zz=>zX zz fun H7 I7 q7=> ?_
   cases cj with
   |false =>
    rw[AX AJ] at q7;rw[AX AJ];refine zX q7 fun m' Y w7=>?_;obtain⟨k1,k2⟩:=a0 I7;exact⟨m',Y,i+1,ys,H7,ah.map some,l6,I7.unpinned,k1,k2,w7⟩
   |true =>
    rw[AZ rfl] at q7;rw[AZ rfl];refine thn (b4 S _ B I _ s7 (ah.map some++σ) H7 _ I7 q7) fun y s8 ⟨y8,H8,I8,r8,b0,b5,m',Y,cz⟩=>thn (bO _ s8 _ H8 (.ref B.heap.objs.size) [y8] (.ref B.heap.objs.size) [y] (fun _ H9=>H9=upd H8 B.heap.objs.size (.lst (ys++[y8]))) I8 rfl (.cons r8 .nil) ⟨_,ys,y8,rfl,rfl,b0,b5,rfl⟩) fun _ s9 zz=>uZ zz fun _ H9 I9 _ e9=> ?_;subst e9;obtain⟨k1,k2⟩:=a0 I9
    exact⟨m',Y,i+1,ys++[y8],_,ah.map some,l6,I9.unpinned,k1,k2,cz⟩
 exact codeAny_compStart_list (bb _ ⟨_,rfl⟩) (T.self _ 0 _ _ _ bj (bb _ ⟨_,rfl⟩))
def pe_comp{ab Z:Expr}{x:Str}{px pos:Pos}{af:List Expr}{O:Scope}{Y:List (Str×Addr)}{wi:TI}{tc:TT}{te:TE}(hc:X.calm=true)(hN:(x::X.N).Nodup)(K:aB X x O Y)(hi:PI X (.Name x px) Z wi)(ht:∀I C S B,VD (cK X x O Y I C S B) af tc)(ao:∀I C S B,PE (cK X x O Y I C S B) ab te)(hs:∀v,foldedSetIterable Z X.env v=pure v:=by intro _;rfl):PE X (.ListComp ab [⟨.Name x px,Z,af,0⟩] O pos) (Qv wi tc te):=by
 intro pins s σ H Q ag h;rw[eval_ListComp];refine CN (use:=none) rfl hs K.clos K.kind K.names (thn (hi pins s σ H _ ag h) fun xv a0 ar=>thn ar fun az S au=>?_);obtain⟨it,I,tn,J,B,e,U,T,aw,ah,R⟩:=au;subst e;refine tY (g:=sY 0) (Tk:=fun x _ vs=>vs=[x]) hc K (fun _ _ _ _=>lY (i:=0) (x:=x) hN rfl (.inl (BF (K.hx x (.head _)))) (.inr (BF (K.hx x (.head _))))) ht ao (by rintro ay vs y H Q l rfl _ q;match ay,l with | [_],_=>exact q) U T aw ah (fun D hD=>let ⟨W,w0,ax⟩:=R D hD;⟨W,w0,fun i m ys H w=>(ax i m ys H w).imp id fun zz=>yF zz fun g st=> ⟨g,fun x H' y=>⟨[x],rfl,rfl,st x H' y⟩⟩⟩) ?_
 intro D C H av m hn aj ai ak ae I4 q;refine⟨m,hn,fun h' aq=>⟨.ref D,H,?_,rfl,q⟩⟩;refine I4.turned (it:=C) (t':=av.toks) (fun b o hb e=>(aq.2 b hb).trans e) ai aj (.inr (AW U.sz ae)) ak fun p hp z=>?_;exact absurd (AQ (AG (U.pin p hp).1) (by rw[z];exact ae)) (A9 _)
end
def Its(x:Str):It:=⟨fun i _=>i < x.cps.size,fun i H v H'=>H'=H/\∃c,x.cps[i]?=some c/\v=.str ⟨#[c]⟩,fun i _=>x.cps.size<=i⟩
def bT(q:ty = "str_ascii_iterator"\/ty = "str_iterator")(g:A.handled=none)it x t:
  Walks P w A it [it] [it] x.cps.size (SignAt x) (fun i h=>h.IsStrIter it ty x t i):=by
 rcases q with rfl | rfl
 .exact Walks.strAscii g it x t
 .exact Walks.strWide g it x t
def VS{K}(D:ty = "str_ascii_iterator"\/ty = "str_iterator")x t it:
  Jd P w K tg (Its x) [it] it (fun i h=>h.IsStrIter it ty x t i/\i<=x.cps.size) where
 mem:=by simp
 obj:=fun i h st b g=>by
  have e:b=it :=by grind
  subst e;obtain⟨⟨o,e,c,d⟩,_⟩:=st;exact⟨o,e,fun v z=>by rw[d] at z;cases z⟩
 keep:=fun i h h' st k=>⟨let ⟨o,ho,r⟩:=st.1;⟨o,k it (by simp) o ho,r⟩,st.2⟩
 item:=by
  intro X hP af ae Z i pins s σ H E I q st B;refine Xr (q it (by simp)) fun J O ab S U Y=>?_;refine(bT D (I.ok.hd Z) it x t).item i s _ _ B st.1 fun v h' tk hv st' kk=>?_;obtain⟨c,u,hx,rfl⟩:=hv;have I1:Inv X pins σ H { s with heap:=h',toks:=tk }:=I.turned (fun b o g e=>kk b o (by simp_all) e) J O S U Y;exact jK (id st') fun o e cc d=>⟨_,rfl,Xj e cc d (by rcases D with rfl | rfl<;>decide) ⟨.str ⟨#[c]⟩,H,I1,⟨u,rfl⟩,⟨rfl,c,hx,rfl⟩,⟨st',B⟩,fun b g=>(q b g).1⟩⟩
 done:=by
  intro X hP af ae Z i pins s σ H E I q st B;refine Xr (q it (by simp)) fun J O ab S U Y=>?_;refine(bT D (I.ok.hd Z) it x t).done s _ _ ((Nat.le_antisymm st.2 B)▸st.1) fun h' tk kk=>⟨rfl,I.turned (fun b o g e=>kk b o (by simpa using g) e) J O S U Y⟩
 self:=fun A i s Q E st h=>by
  rcases D with rfl | rfl
  .exact wpAny_pyIter_striter_ascii st.1 h
  .exact wpAny_pyIter_striter_wide st.1 h
def iStr(tl:TE):TI:=fun σ H R=>tl σ H fun x H1=>∃z,x=.str z/\R (Its z) H1
section
variable {X:Cx}{tg:Expr}
def pi_str(O:PE X l tl):PI X tg l (iStr tl):=by
 intro pins s σ H R I h;refine thn (O pins s σ H _ I h) fun v g Z=>uZ Z fun x H1 B Y U=> ?_;obtain⟨z,rfl,q⟩:=U;obtain⟨t,rfl⟩:=Y
 have D:∀ty o,(ty = "str_ascii_iterator"\/ty = "str_iterator")->(g.heap.push o).IsStrIter g.heap.objs.size ty z t 0->PIE X pins σ tg R (.ref g.heap.objs.size) { g with heap:=g.heap.push o }:=fun ty o S st=>by
  refine⟨g.heap.objs.size,[g.heap.objs.size],_,_,H1,rfl,B.kept (t':=g.toks) fun b o e=>AD _ e,VS S z t _,⟨st,AY _⟩,fun b hb=>?_,q⟩;have e:b=g.heap.objs.size :=by grind
  subst e;exact B.fpOk (AH _) (B.hok.fresh (AH _))
 cases J:z.cps.all (· < 128)
 .exact wpAny_pyIter_wide J (D _ _ (.inr rfl) ⟨_,AK _ rfl,rfl,rfl⟩)
 .exact wpAny_pyIter_ascii J (D _ _ (.inl rfl) ⟨_,AK _ rfl,rfl,rfl⟩)
end
def VA(ys:List Bool):((List.range ys.length).all fun i=>(ys[i]?).getD false)=ys.all id:=by
 rw[CZ,Bs,Bs]
 constructor
 .intro h b q
  obtain⟨i,hi⟩:=B0.mp q;have g:=(Ap.mp hi).1;have:=h i (BN.mpr g)
  rwa [hi] at this
 .intro h i hi
  have g:=BN.mp hi;exact(AO g)▸h _ (BH g)
section
variable {X:Cx}
def XF(Y:X.calm=true):CallR X (.builtin "all") (fun xs H Q=>∃p ys,xs=[.ref p]/\SqL X.K H p (List.map V.bl ys)/\Q (.bl (ys.all id)) H):=by
 intro pins s σ H xs ae Q I r h;obtain⟨p,ys,rfl,hq,ab⟩:=h;obtain⟨u,rfl,rfl⟩:=xB r;obtain⟨q,rv,B,hz⟩:=(I.list hq);have D:q.length=ys.length:=by rw[<- rv.length,AB]
 refine mG (id B) fun o n Z _=>call_all_walk (wpAny_pyIter_list B.isList ⟨s.heap.objs.size,_,_,_,_,_,fun i=>(ys[i]?).getD false,rfl,Walks.list (A:=X.A.in1) (I.ok.hd Y) s.heap.objs.size p (Ab (AG Z)) q.toArray,⟨⟨_,AK _ rfl,rfl,rfl⟩,B.isList.push _⟩,fun i v s' U E' hP g=>?_,fun h' tk kk=>?_⟩)
 .have O:q[i]?=some v :=by simp_all
  have hi :=D▸(Ap.mp O).1;have hy:(List.map V.bl ys)[i]?=some (.bl ys[i]):=by rw[A0,AO hi];rfl
  obtain⟨u,J,ru⟩:=(rv.get hy);rw[O] at J;cases J;cases ru;have g:U ((ys[i]?).getD false) s':=g;rw[AO hi] at g;exact A8 g
 .have S:Inv X pins σ H { s with heap:=h',toks:=tk }:=I.kept fun b o e=>kk b o (by intro z;exact absurd (AG e) ((AE.mp z)▸A9 _)) (AD _ e)
  have e:((List.range q.toArray.size).all fun i=>(ys[i]?).getD false)=ys.all id:=by rw[Am,D,VA]
  exact e▸⟨.bl (ys.all id),H,S,rfl,ab⟩
inductive Ty where
 |non | bl | int | str | lst | tup | dct
 deriving DecidableEq
def kJ:Ty->String
 |.non=>"NoneType" | .bl=>"bool" | .int=>"int" | .str=>"str" | .lst=>"list" | .tup=>"tuple" | .dct=>"dict"
def tyH:HO->Option Ty
 |.lst _=>some .lst
 |.frz _ (.lst _)=>some .lst
 |.tup _=>some .tup
 |.dK _=>some .dct
 |.dT _=>some .dct
 |_=>none
def tyN(H:Hp):V->Option Ty
 |.non=>some .non
 |.bl _=>some .bl
 |.int _=>some .int
 |.str _=>some .str
 |.ref a=>(H a).bind tyH
 |_=>none
def Jl{K}(h:tyN H x=some n):yL K H x (.type (kJ n)):=by
 cases x with
 |non=>cases h;exact .non
 |bl b=>cases h;exact .bl b
 |int i=>cases h;exact .int i
 |str z=>cases h;exact .str z
 |ref a =>
  have h:(H a).bind tyH=some n:=h
  cases e:H a with
  |none=>rw[e] at h;cases h
  |some o =>
   rw[e] at h
   cases o with
   |lst xs=>cases h;exact .lst e
   |tup xs=>cases h;exact .tup e
   |dK kvs=>cases h;exact .dK e
   |dT kvs=>cases h;exact .dT e
   |frz g u =>
    cases u with
    |lst xs=>cases h;exact .frz e
    |_=>cases h
   |_=>cases h
 |byt b=>cases h
 |flt b=>cases h
 |ty n=>cases h
def bZ:Ty->Ty->Bool
 |.bl,.int=>true
 |a,b=>decide (a=b)
def JP K n T:PySem.W.kitOne K (.type (kJ n)) (.type (kJ T))=some (bZ n T):=by
 cases n<;>cases T<;>with_unfolding_all rfl
def nQ:CallR X (.builtin "isinstance") (fun xs H Q=>∃x T n,xs=[x,.ty (kJ T)]/\tyN H x=some n/\Q (.bl (bZ n T)) H):=by
 intro pins s σ H xs J Q I r h;obtain⟨x,T,n,rfl,g,q⟩:=h;obtain⟨u,O,rfl,B,rfl⟩:=cT r;exact Vc I B (Jl g) (JP X.K n T) fun D=>⟨.bl (bZ n T),H,I.tok D,rfl,q⟩
def WX(g:X.A.units < cLine):OpR X (compareOp .Eq) (fun x y H Q=>∃a b xs,x=.ref a/\y=.ref b/\SqL X.K H a xs/\SqL X.K H b []/\Q (.bl xs.isEmpty) H):=by
 intro pins s σ H x y v u Q I rx ry h;obtain⟨a,b,xs,rfl,rfl,S,U,q⟩:=h;cases rx;cases ry;obtain⟨Y,D,B,_⟩:=I.list S;obtain⟨Z,r2,p2,_⟩:=I.list U;have O:Z=[]:=Vals.zero r2;subst O
 cases xs with
 |nil =>
  have J:Y=[]:=Vals.zero D;subst J;exact SeqAt.eq_listAt (e:=fun _=>true) B.isList p2.isList rfl g (fun j h1 _=>absurd h1 (BY _)) ⟨.bl true,H,I,rfl,q⟩
 |cons ab xr =>
  cases D with
  |cons _ t =>
   exact SeqAt.eq_list_lengthsAt B.isList p2.isList (by simp) g ⟨.bl false,H,I,rfl,q⟩
def sl_str:SlR X (fun x lo hi H Q=>∃z,x=.str z/\z.length<=sizeLine/\Q (.str (Txt.slice z lo hi)) H):=by
 intro pins s σ H x v Z vu lo hi Y Q I U hs S J h;obtain⟨z,rfl,B,q⟩:=h;obtain⟨t,rfl⟩:=U;refine⟨"str",_,F.slot_str_getitem.lookup,typeIs_str _ _ _,?_⟩;have g:∀(t':Tok)(k:Nat),EP X pins σ Q (.str (Txt.slice z lo hi) t') { s with toks:=k }:=fun t' k=>⟨.str _,H,I.tok k,⟨_,rfl⟩,q⟩
 cases S with
 |none =>
  cases J with
  |none=>exact Cc (l:=none) (u:=none) (st:=none) hs rfl (DT ⟨AW (Txt.slice_le z _ _) B,g⟩)
  |int j D=>exact Cc (l:=none) (u:=some (j,D)) (st:=none) hs rfl (DT ⟨AW (Txt.slice_le z _ _) B,g⟩)
 |int i O =>
  cases J with
  |none=>exact Cc (l:=some (i,O)) (u:=none) (st:=none) hs rfl (DT ⟨AW (Txt.slice_le z _ _) B,g⟩)
  |int j D=>exact Cc (l:=some (i,O)) (u:=some (j,D)) (st:=none) hs rfl (DT ⟨AW (Txt.slice_le z _ _) B,g⟩)
def QN:OpR X (binaryOp .FloorDiv) (rI (fun _ j=>0 < j/\j < 18446744073709551616) fun i j=>.int (i / j)):=opI fun i j _ _ _ _ _ B q=>by
 refine floordiv_int (by lia) (by grind) (.inl (PyProof.noPylong_of_log2 ?_));have g:j.natAbs < 2 ^ 64 :=by lia
 exact AQ ((Nat.log2_lt (by omega)).mpr g) (by decide)
end
structure JE(X:Cx)(e:Expr)(t:TE):Prop where
 h:PE X e t
structure JT(X:Cx)(e:Expr)(t:TT):Prop where
 h:PT X e t
structure JW(X:Cx)(e:Expr)(t:TT):Prop where
 h:PW X e t
structure JA(X:Cx)(es:List Expr)(t:TA):Prop where
 h:PA X es t
structure JS(X:Cx)(st:Stmt)(t:TS):Prop where
 h:PS X st t
structure JB(X:Cx)(st:List Stmt)(t:TS):Prop where
 h:PSs X st t
structure JG(X:Cx)(e:Expr)(t:TG):Prop where
 h:PG X e t
structure JGs(X:Cx)(es:List Expr)(t:TGs):Prop where
 h:PGs X es t
structure JI(X:Cx)(tg e:Expr)(t:TI):Prop where
 h:PI X tg e t
structure JF(X:Cx)(ifs:List Expr)(t:TT):Prop where
 h:VD X ifs t
structure JO(X:Cx)(e:Option Expr)(t:TO):Prop where
 h:PO X e t
section
variable {X:Cx}{a b c e o i:Expr}{es:List Expr}{ta tb tc te:TE}{tA tB':TT}{t:TA}{pos:Pos}{rest:List Expr}
def jv i(g:X.N[i]?=some x:=by rfl)(D:Vis X.env.scope x:=by first | exact Or.inl rfl | exact Or.inr (Or.inl rfl) | exact Or.inr (Or.inr rfl))(B:(x==("__debug__" : Str))=false:=by decide)(q:(x==("__classdict__" : Str))=false:=by decide):JE X (.Name x pos) (tVar i):=⟨WD g D B q⟩
def je_int{i j pos}:JE X (.Constant (.int i) j pos) (tC (.int i)):=⟨pe_int⟩
def je_bl{b j pos}:JE X (.Constant (.bool b) j pos) (tC (.bl b)):=⟨pe_bl⟩
def je_non{j pos}:JE X (.Constant .none j pos) (tC .non):=⟨pe_non⟩
def je_str{x j pos}:JE X (.Constant (.str x) j pos) (tC (.str x)):=⟨pe_str⟩
def je_glob(q:Gl X x)(B:X.mg x=some u)(r:RelV v u)(g:(x==("__debug__" : Str))=false:=by decide):JE X (.Name x pos) (tC v):=⟨pe_glob q B r g⟩
def je_bltn(q:Gl X x)(B:X.mg x=none)(I:bootBuiltins x=some u)(r:RelV v u)(D:x ≠ "__name__":=by decide)(g:(x==("__debug__" : Str))=false:=by decide):JE X (.Name x pos) (tC v):=⟨pe_bltn q B I r D g⟩
def je_op(B:OpR X (binaryOp op) r)(g:JE X a ta)(q:JE X b tb):JE X (.BinOp a op b pos) (tOp r ta tb):=⟨pe_op B g.h q.h⟩
def je_un(q:UnR X (unaryOp op) r)(g:JE X a ta):JE X (.UnaryOp op a pos) (tUn r ta):=⟨pe_un q g.h⟩
def je_cmp(D:OpR X (compareOp op) r)(g:JE X a ta)(q:JE X b tb)(B:behindInMarks op b=false):JE X (.Compare a [op] [b] pos) (tOp r ta tb):=⟨pe_cmpR D g.h q.h B⟩
def jt_cmp(D:OpR X (compareOp op) r)(g:JE X a ta)(q:JE X b tb)(B:behindInMarks op b=false):JT X (.Compare a [op] [b] pos) (Qu (tOp r ta tb)):=⟨pt_cmpR D g.h q.h B⟩
def Yy(J:OpR X (compareOp op) r)(O:OpR X (compareOp g) S)(q:JE X a ta)(B:JE X b tb)(D:JE X c tc)(I:lastMarks [op,g] [b,c]=false:=by with_unfolding_all rfl):JE X (.Compare a [op,g] [b,c] pos) (rN r S ta tb tc):=⟨WM J O q.h B.h D.h I⟩
def Yp(J:OpR X (compareOp op) r)(O:OpR X (compareOp g) S)(q:JE X a ta)(B:JE X b tb)(D:JE X c tc)(I:lastMarks [op,g] [b,c]=false:=by with_unfolding_all rfl):JT X (.Compare a [op,g] [b,c] pos) (Qu (rN r S ta tb tc)):=⟨Wv J O q.h B.h D.h I⟩
def je_one{op}{t}(h:JE X a t):JE X (.BoolOp op [a] pos) t:=⟨pe_one h.h⟩
def je_and(g:JE X a ta)(q:JE X (.BoolOp .And (b::rest) pos) tb):JE X (.BoolOp .And (a::b::rest) pos) (tAndV ta tb):=⟨pe_and g.h q.h⟩
def je_or(g:JE X a ta)(q:JE X (.BoolOp .Or (b::rest) pos) tb):JE X (.BoolOp .Or (a::b::rest) pos) (tOrV ta tb):=⟨pe_or g.h q.h⟩
def je_not(g:JE X a ta):JE X (.UnaryOp .Not a pos) (tNotV ta):=⟨pe_not g.h⟩
def jw_pt{t}(h:JW X e t):JT X e t:=⟨h.h.pt⟩
def jw_and1(g:JT X a tA):JW X (.BoolOp .And [a] pos) tA:=⟨pw_and1 g.h⟩
def jw_or1(g:JT X a tA):JW X (.BoolOp .Or [a] pos) tA:=⟨pw_or1 g.h⟩
def jw_and(g:JT X a tA)(q:JW X (.BoolOp .And (b::rest) pos) tB'):JW X (.BoolOp .And (a::b::rest) pos) (tAnd tA tB'):=⟨pw_and g.h q.h⟩
def jw_or(g:JT X a tA)(q:JW X (.BoolOp .Or (b::rest) pos) tB'):JW X (.BoolOp .Or (a::b::rest) pos) (tOr tA tB'):=⟨pw_or g.h q.h⟩
def jt_not(g:JT X a tA):JT X (.UnaryOp .Not a pos) (tNot tA):=⟨pt_not g.h⟩
def vG:Expr->Bool
 |.Name _ _=>true | .Call _ _ _ _=>true | .Subscript _ _ _=>true | .Attribute _ _ _=>true | .IfExp _ _ _ _=>false | _=>false
def qC(h:vG e=true):∀g,isTrue e env g=(do let v <- g;standAt e.pos;holding [v] (truthy v)):=by
 cases e<;>first | (intro _;rfl) | exact absurd h AJ
def jt_val{t}(h:JE X e t)(g:vG e=true:=by rfl):JT X e (tB t):=⟨pt_val h.h (qC g)⟩
def Yo(h:JE X e te)(g:vG e=true:=by rfl):JT X e (fun σ H Q=>te σ H fun x H'=>∃k,TruV X.K x H' k/\Q k H'):=⟨Wu h.h (qC g)⟩
def je_if(B:JT X c tA)(g:JE X a ta)(q:JE X b tb):JE X (.IfExp c a b pos) (tIf tA ta tb):=⟨WG B.h g.h q.h⟩
theorem ZF:JA X [] tNil:=⟨pa_nil⟩
def cH(g:JE X e te)(q:JA X es t)(hs:wX e=true:=by rfl):JA X (e::es) (V5 te t):=⟨qa_cons g.h q.h hs⟩
def je_tup{g}(h:JA X es t):JE X (.Tuple es g pos) (tTup t):=⟨pe_tup h.h⟩
def je_lst(h:JA X es t):JE X (.List es pos) (tLst t):=⟨pe_lst h.h⟩
def Yx:JE X (.Dict [] [] pos) V3:=⟨WJ⟩
def Yw:JE X (.Dict [] [] pos) V2:=⟨WH⟩
def je_call{p}(F:FnOk X.prog X.w X.K X.mg X.base CX k f fd ps sp)(U:Room k X.A)(J:Gl X x)(S:X.mg x=some (.ref f))(O:PySem.W.keepIn X.K (.ref f)=true)(B:Binds X.K fd ps ds)(D:Vals dvs ds)(Y:fY CX X E)(g:JA X (e::es) t)(I:(x==("__debug__" : Str))=false:=by decide)(hs:wX e=true:=by rfl)(q:es.all wX=true:=by rfl):JE X (.Call (.Name x p) (e::es) [] pos) (V6 sp dvs E t):=⟨qe_call F U J S O B D Y g.h I hs q⟩
def Yz{id}{p}(B:CallR X (.builtin id) r)(I:Gl X x)(J:X.mg x=none)(S:bootBuiltins x=some (.builtin id))(g:JA X (e::es) t)(O:x ≠ "__name__":=by decide)(D:(x==("__debug__" : Str))=false:=by decide)(hs:wX e=true:=by rfl)(q:es.all wX=true:=by rfl):JE X (.Call (.Name x p) (e::es) [] pos) (tCB r t):=⟨Wo B I J S g.h O D hs q⟩
def eL{p}(B:CallR X (.type T) r)(I:Gl X x)(J:X.mg x=none)(S:bootBuiltins x=some (.type T))(g:JA X (e::es) t)(O:x ≠ "__name__":=by decide)(D:(x==("__debug__" : Str))=false:=by decide)(hs:wX e=true:=by rfl)(q:es.all wX=true:=by rfl):JE X (.Call (.Name x p) (e::es) [] pos) (tCB r t):=⟨KL B I J S g.h O D hs q⟩
def je_ix(B:IxR X r)(g:JE X a ta)(q:JE X b tb)(hs:kN b):JE X (.Subscript a b pos) (tOp r ta tb):=⟨pe_ix B g.h q.h hs⟩
def jo_none:JO X none Jp:=⟨po_none⟩
def jo_some(h:JE X e te):JO X (some e) (tPart te):=⟨po_some h.h⟩
def oC{lo}(B:SlR X r)(g:JE X e te)(q:JO X lo tl)(D:JO X hi th):JE X (.Subscript e (.Slice lo hi none p2) pos) (tSl r te tl th):=⟨WE B g.h q.h D.h⟩
def jf_nil:JF X [] tYes:=⟨WB⟩
def jf_one{t}(h:JT X c t):JF X [c] t:=⟨WA h.h⟩
def je_comp{O J:Expr}{x:Str}{U:Pos}{S:List Expr}{D:Scope}{I:List (Str×Addr)}{Y:TI}{tc:TT}(hc:X.calm=true)(Z:(x::X.N).Nodup)(K:aB X x D I)(hi:JI X (.Name x U) J Y)(ht:∀q C B g,JF (cK X x D I q C B g) S tc)(ab:∀q C B g,JE (cK X x D I q C B g) O te)(hs:∀v,foldedSetIterable J X.env v=pure v:=by intro _;rfl):JE X (.ListComp O [⟨.Name x U,J,S,0⟩] D pos) (Qv Y tc te) :=
 ⟨pe_comp hc Z K hi.h (fun q C B g=>(ht q C B g).h) (fun q C B g=>(ab q C B g).h) hs⟩
variable {tg:Expr}
def JX(h:JE X e te):JI X tg e (iList X.K te):=⟨pi_list h.h⟩
def Ys(h:JE X e te):JI X tg e (iTup X.K te):=⟨pi_tup h.h⟩
def ji_str(h:JE X e te):JI X tg e (iStr te):=⟨pi_str h.h⟩
def cO(q:Gl X "range")(B:X.mg "range" = none)(g:JA X [a] t)(hs:wX a=true:=by rfl):JI X tg (.Call (.Name "range" p) [a] [] pos) (YJ t):=⟨KQ q B g.h (gK hs)⟩
def jg_name{i}(g:X.N.Nodup)(hi:X.N[i]?=some x)(B:Loc X.env.scope x)(q:X.fn x=true\/X.env.scope.names.lookup x=some .local:=by first | exact .inl rfl | exact .inr rfl | assumption):JG X (.Name x pos) (sY i):=⟨lY g hi B q⟩
def jgs_nil:JGs X [] gNil:=⟨qA⟩
def Yu{t}(h1:JG X e t)(h2:JGs X es u)(hs:(assignEach (e::es) X.env).map (·.2)=assign e X.env::(assignEach es X.env).map (·.2):=by rfl):JGs X (e::es) (iC t u):=⟨wG h1.h h2.h hs⟩
def jg_tup{k}{t}(g:X.calm=true)(h:JGs X es t)(q:(assignEach es X.env).length=n:=by rfl)(B:(assignEach es X.env).findIdx? (·.1)=none:=by rfl):JG X (.Tuple es k pos) (gTup X.K n t):=⟨Zh g h.h q B⟩
def jg_sub{t:TSet}{to B:TE}(I:JE X o to)(hi:JE X i B)(hs:PSet X t)(D:∀v,assign (.Subscript o i pos) X.env v=(do
   let g <- holding [v] (eval o X.env)
   let q <- holding [v,g] (eval i X.env)
   standAt pos
   holding [v,g,q] (setItem g q v)
   release [v,g,q] []):=by intro _;rfl):JG X (.Subscript o i pos) (gSub to B t):=⟨pg_sub I.h hi.h hs D⟩
end
section
variable {X:Cx}{st:Stmt}{sts:List Stmt}{t u:TS}{e c:Expr}{te:TE}{tc:TT}{pos:Pos}
def jb_nil:JB X [] tNext:=⟨pss_nil⟩
def jb_cons(h1:JS X st t)(h2:JB X sts u):JB X (st::sts) (tSeq t u):=⟨Ww h1.h h2.h⟩
def jb_one(h1:JS X st t):JB X [st] t:=⟨pss_one h1.h⟩
def js_expr(g:JE X e te)(hs:swapsWith e none pos.line X.env=pure false:=by rfl):JS X (.Expr e pos) (tDrop te):=⟨ps_expr g.h hs⟩
def js_ret(g:JE X e te):JS X (.Return (some e) pos) (tRet te):=⟨ps_ret g.h⟩
def js_if(B:JT X c tc)(g:JB X a t)(q:JB X b u):JS X (.If c a b pos) (tIfS tc t u):=⟨ps_if B.h g.h q.h⟩
def js_set(g:X.N.Nodup)(hi:X.N[i]?=some x)(D:Loc X.env.scope x)(q:JE X e te)(hs:swapsWith e (some (.Name x pos')) pos.line X.env=pure false:=by rfl)(B:X.fn x=true\/X.env.scope.names.lookup x=some .local:=by first | exact .inl rfl | exact .inr rfl | assumption):
  JS X (.Assign [.Name x pos'] e pos) (Kw te (sY i)):=⟨ps_set g hi D q.h hs B⟩
def js_asg(q:JE X e te)(B:JG X tg g)(hs:swapsWithSole [tg] e pos.line X.env=pure false:=by rfl)(D:swappedStores [tg] e X.env=pure none:=by rfl)(h1:(assignEach [tg] X.env).map (·.2)=[assign tg X.env]:=by rfl):JS X (.Assign [tg] e pos) (Kw te g):=⟨ps_asg q.h B.h hs D h1⟩
def ZD{tg q:Expr}{B:List Stmt}{D:TI}{g:TG}{tb:TS}(S:PassesOwn (model X.prog X.w) X.A X.env X.xe)(J:X.calm=true)(hi:JI X tg q D)(O:JG X tg g)(I:JB X B tb)(hs:∀x,foldedSetIterable q X.env x=pure x:=by intro _;rfl):JS X (.For tg q B [] pos) (tFor D g tb):=⟨ps_for S J hi.h O.h I.h hs⟩
def Yq(D:PassesOwn (model X.prog X.w) X.A X.env X.xe)(B:JT X c tc)(q:JB X g tb):JS X (.While c g [] pos) (V1 tc tb):=⟨Wx D B.h q.h⟩
end
section
variable {P:Program}{w:World}{K:De}{mg:Str->Option Value}{base:Heap}
def Fun.okJ{st}(F:Fun K x D st f fd)(S:FnScope N ps (nX st))(U:∀vs H Q E,sp vs H Q E->vs.length=ps.length)(I:∀g A B s H vs Q E,Room k (A.deeper (envOfC D (nX st) s.heap.objs.size f g))->sp vs H Q E ->
   ∃t,JB (Xx CX0 P w K mg base N D (nX st) f g A B s H E).nox (uV st) t/\t { nx:=fun _ H'=>Q .non H',rt:=Q } (start N vs) H):FnOk P w K mg base CX0 (k+1) f fd ps sp :=
 F.ok S U fun g A B s H vs Q E J h=>let ⟨t,O,q⟩:=I g A B s H vs Q E J h;⟨t,O.h,q⟩
end
section
variable {X:Cx}{d:Addr}{kvs:List (Key×V)}
theorem JN(K:De)(n:Ty):∀g:List Ty,PySem.W.kitAny K (.type (kJ n)) (g.map fun T=>.type (kJ T))=some (g.any (bZ n))
 |[]=>rfl
 |T::r=>by
  have q:=JN K n r;show(match PySem.W.kitOne K (.type (kJ n)) (.type (kJ T)) with | some true=>some true | some false=>PySem.W.kitAny K (.type (kJ n)) (r.map fun T=>.type (kJ T)) | none=>none)=_;rw[JP,BB]
  cases bZ n T with
  |true=>rfl
  |false=>rw[q];rfl
def ZH{pins:List (Addr×Obj)}{σ:St}{H:Hp}{s:Shared}{A:Around}{E:Value->Shared->Prop}{Q:Value->Shared->Prop}{b:Bool}{x:V}{u t:Value}{Y:Addr}{Z:Option Addr}{U:List Value}{k:Nat}{sl:Array (Option Value)}(I:Inv X pins σ H s)(D:RelV x u)(ty:yL X.K H x t)(B:s.heap.get? Y=some ⟨.type "tuple",Z,.seq U.toArray k,sl⟩)(e:PySem.W.kitAny X.K t U=some b)(h:∀tk,Q (.bool b) { s with toks:=tk }):
  wpAny (model X.prog X.w) A (call (.builtin "isinstance") [u,.ref Y]) Q E s:=by
 cases ty with
 |non=>cases (show u=Value.none from D);exact BJ PySem.W.kitx_none I.kIn True.intro B e (fun z=>nomatch z) h
 |bl y=>cases (show u=Value.bool y from D);exact BJ PySem.W.kitx_bool I.kIn True.intro B e (fun z=>nomatch z) h
 |int i=>obtain⟨t,q⟩:=(show ∃t,u=Value.int i t from D);cases q;exact BJ PySem.W.kitx_int I.kIn True.intro B e (fun z=>nomatch z) h
 |str y=>obtain⟨t,q⟩:=(show ∃t,u=Value.str y t from D);cases q;exact BJ PySem.W.kitx_str I.kIn True.intro B e (fun z=>nomatch z) h
 |flt y=>obtain⟨t,q⟩:=(show ∃t,u=Value.float y t from D);cases q;exact BJ PySem.W.kitx_float I.kIn True.intro B e (fun z=>nomatch z) h
 |@lst a xs g =>
  cases (show u=Value.ref a from D);obtain⟨_,_,n,_,h1⟩:=(show ObjOk X.prog X.w H s.heap a (.lst xs) from I.hok a _ g);exact BJ DF I.kIn ⟨_,h1,rfl⟩ B e (fun z=>nomatch z) h
 |@frz a ob xs g =>
  cases (show u=Value.ref a from D);obtain⟨_,_,_,n,_,h1⟩:=(show ObjOk X.prog X.w H s.heap a (.frz ob (.lst xs)) from I.hok a _ g);exact BJ DF I.kIn ⟨_,h1,rfl⟩ B e (fun z=>nomatch z) h
 |@tup a xs g =>
  cases (show u=Value.ref a from D);obtain⟨_,_,_,p⟩:=(show ObjOk X.prog X.w H s.heap a (.tup xs) from I.hok a _ g);obtain⟨o,h1,h2,_⟩:=p;exact BJ PySem.W.kitx_tuple I.kIn ⟨o,h1,h2⟩ B e (fun z=>nomatch z) h
 |@dK a kvs g =>
  cases (show u=Value.ref a from D);obtain⟨_,_,vs,_,p⟩:=(show ObjOk X.prog X.w H s.heap a (.dK kvs) from I.hok a _ g);obtain⟨o,es,ep,h1,h2,_⟩:=p;exact BJ DG I.kIn ⟨o,h1,h2.1⟩ B e (fun z=>nomatch z) h
 |@dT a kvs g =>
  cases (show u=Value.ref a from D);obtain⟨_,_,xs,_,o,es,ep,h1,h2,_⟩:=(show ObjOk X.prog X.w H s.heap a (.dT kvs) from I.hok a _ g);exact BJ DG I.kIn ⟨o,h1,h2.1⟩ B e (fun z=>nomatch z) h
 |@ins a C dx fs g S ha hn ae ab =>
  cases (show u=Value.ref a from D);obtain⟨mA,O,_⟩:=yD I.hok g;obtain⟨od,J,_⟩:=O.look;exact BJ (PySem.W.kitx_own (S.get _) S.hd ha hn ae ab) I.kIn J B e (fun z=>nomatch z) h
theorem Qo:∀{g:List Ty}{q:List Value},Vals (g.map fun T=>.ty (kJ T)) q->q=g.map fun T=>.type (kJ T)
 |[],_,.nil=>rfl
 |T::r,_,.cons a b=>by
  rw[BA,<- Qo b];cases (show _=Value.type (kJ T) from a)
  rfl
def qL:CallR X (.builtin "isinstance") (fun xs H Q=>∃x p g n,xs=[x,.ref p]/\H p=some (.tup (List.map (fun T=>V.ty (kJ T)) g))/\tyN H x=some n/\Q (.bl (g.any (bZ n))) H):=by
 intro pins s σ H xs af Q I r h;obtain⟨x,p,g,n,rfl,J,D,q⟩:=h;obtain⟨u,Y,rfl,S,O⟩:=cT r;cases (show Y=Value.ref p from O);obtain⟨z,ae,rv,o,h1,h2,⟨m,B⟩,_⟩:=(show ObjOk X.prog X.w H s.heap p (.tup _) from I.hok p _ J);have e:=Qo rv;subst e;obtain⟨Z,dd,ab,sl⟩:=o
 simp only at h2 B
 subst h2 B;exact ZH I S (Jl D) h1 (JN X.K n g) fun U=>⟨.bl _,H,I.tok U,rfl,q⟩
def Jw:V->List V->Hp->VK->Prop:=fun x vs H Q=>∃l xs i y,x=.ref l/\vs=[.int i,y]/\H l=some (.lst xs)/\0<=i/\i<=xs.length/\xs.length < sizeLine/\Q .non (upd H l (.lst (xs.take i.toNat++y::xs.drop i.toNat)))
def gO:MtM X "list.insert" Jw:=by
 intro pins s σ H x vs v ab Q I U rv h;obtain⟨l,xs,i,y,rfl,rfl,D,h0,h1,hz,q⟩:=h;cases U;obtain⟨u1,B,rfl,O,S⟩:=rv.two;obtain⟨t,rfl⟩:=O;obtain⟨z,g,n,r,Y,e⟩:=I.lstM D;have Z:=zU
 refine B2 F.slot_list_insert ⟨_,e,rfl⟩ F.entry_list_insert (F.args_list_insert_3 _ _ _)
  (AutoListH.list_insert_list_int_val_1 l g.toArray n i t B (by rw[fitsIndex_both (by omega) (by omega)];exact AJ) (by rw[Am];omega)) ⟨e,?_⟩
 refine⟨.non,_,I.lset (its':=g.take i.toNat++B::g.drop i.toNat) D e ?_ (Vals.append (r.take _) (.cons S (r.drop _))) ?_,rfl,q⟩
 .have J:(if i < 0 then (i+((g.toArray.size:Nat):Int)).toNat else min i.toNat g.toArray.size)=i.toNat:=by
   rw[AX (by omega),Am];omega
  show(g.toArray.extract 0 (if i < 0 then (i+((g.toArray.size:Nat):Int)).toNat else min i.toNat g.toArray.size)).push B++g.toArray.extract (if i < 0 then (i+((g.toArray.size:Nat):Int)).toNat else min i.toNat g.toArray.size)=_;rw[J]
  apply Array.toList_inj.mp
  simp
  exact List.take_of_length_le (by rw[Ax];exact AH _)
 .rw [AN,AV,An,Ax]
  omega
end
section
variable {X:Cx}
def rUpper:V->List V->Hp->VK->Prop:=fun x vs H Q=>∃z,x=.str z/\vs=[]/\z.length<=1000000/\∀y:Str,y.length<=3 * z.length->Q (.str y) H
def Ye:MtM X "str.upper" rUpper:=by
 intro pins s σ H x vs v O Q I D rv h;obtain⟨z,rfl,rfl,J,q⟩:=h;obtain⟨t,rfl⟩:=D;have B:=rv.zero;subst B;exact SCL.upper (by omega) fun g=>⟨.str _,H,I.tok _,⟨_,rfl⟩,q _ g⟩
end
theorem gF: ∀(O:List (Str×NameKind))q,(∀y∈O,y.2=.free->∃c,env.cells.lookup y.1=some c)->(∀y c,q.lookup y=some c->env.cells.lookup y=some c) ->
  ∃B,(forIn O q fun x r=>(do
    if x.2==NameKind.free then do
     let c <- cellOf env x.1
     pure (ForInStep.yield ((x.1,c)::r))
    else pure (ForInStep.yield r):Sem (ForInStep (List (Str×Addr)))))=pure B/\(∀y c,B.lookup y=some c->env.cells.lookup y=some c)/\(∀y∈O,y.2=.free->∃c,B.lookup y.1=some c)/\∀y c,q.lookup y=some c->∃D,B.lookup y=some D
 |[],q,_,I=>⟨q,rfl,I,fun y g=>absurd g (by simp),fun y c h=>⟨c,h⟩⟩
 | (n,k)::r,q,J,I=>by
  cases hk:(k==NameKind.free) with
  |false =>
   refine ZT (gF r q (fun y g=>J y (AL _ g)) I) fun B e h1 h2 S=>⟨B,?_,h1,fun y g ab=>?_,S⟩
   .grind
   .grind
  |true =>
   have Y:k=.free :=by lia
   refine el11 (J (n,k) AF Y) fun c U=>?_
   have Z:∀y D,((n,c)::q).lookup y=some D->env.cells.lookup y=some D:=fun y D h=>by
    rw[List.lookup_cons] at h
    cases g:y==n with
    |true =>
     rw[g] at h;have:y=n :=by lia
     subst this
     rwa [U]
    |false =>
     rw[g] at h;exact I y D h
   refine ZT (gF r ((n,c)::q) (fun y g=>J y (AL _ g)) Z) fun B e h1 h2 S=>?_;have ae:cellOf env n=pure c:=by delta cellOf;rw[U]
   refine⟨B,?_,h1,fun y g ab=>?_,fun y D h=>?_⟩
   .grind
   .grind
   .grind
def fR(xs:List Str)(g:Scope)(N:List Str)(sc:Scope):Bool :=
 g.names.all (fun y=>decide (y.2≠.cell)&&(decide (y.2≠.free) || decide (sc.names.lookup y.1=some .cell))&&(decide (y.2≠.local) || (decide (g.names.lookup y.1=some .local)&&decide (y.1∉N))))&&decide (g.kind=.function)&&xs.all (fun x=>decide (g.names.lookup x=some .local))
def dD(S:X.N=N)(Z:X.env.scope=sc)(U:X.env.cells=cellsFrom L sc.names [])(h:fR xs D N sc=true):∃I,eK X xs D I:=by
 subst S Z
 delta fR at h
 rw[BI,BI,Bs] at h;obtain⟨⟨h1,h2⟩,O⟩:=h
 have B:∀y∈D.names,y.2≠.cell/\(y.2=.free->X.env.scope.names.lookup y.1=some .cell)/\(y.2=.local->D.names.lookup y.1=some .local/\y.1∉X.N):=fun y g=>by
  have q:=h1 y g;rw[BI,BI] at q;obtain⟨⟨q1,q2⟩,q3⟩:=q;refine⟨Aa q1,fun e=>?_,fun e=>?_⟩
  .lia
  .lia
 refine ZT (gF D.names [] (fun y g Y=>U▸dR ((B y g).2.1 Y)) (fun y c z=>by simp at z)) fun I e k1 k2 _=>?_;refine⟨I,⟨?_,fun y g=>(B y g).1,Aa h2,fun y g q=>((B y g).2.2 q).1,fun x hx=>Aa (Bs.1 O x hx),fun y g q=>((B y g).2.2 q).2,fun y g q=>⟨?_,.inl ((B y g).2.1 q),k2 y g q⟩,k1⟩⟩
 .have J:=Bk (fun m:Sem (List (Str×Addr))=>m >>= fun cs=>(pure cs:Sem (List (Str×Addr)))) e
  exact J
 .show X.env.scope.names.lookup y.1≠some .local
  rw[(B y g).2.1 q]
  decide
def eC{X:Cx}{O I:Expr}{x:Str}{U pos:Pos}{S:List Expr}{q:Scope}{Y:TI}{tc:TT}{te:TE}(hc:X.calm=true)(Z:(x::X.N).Nodup)(K:∃g,aB X x q g)(hi:JI X (.Name x U) I Y)(ht:∀g D C J B,JF (cK X x q g D C J B) S tc)(ab:∀g D C J B,JE (cK X x q g D C J B) O te)(hs:∀v,foldedSetIterable I X.env v=pure v:=by intro _;rfl):JE X (.ListComp O [⟨.Name x U,I,S,0⟩] q pos) (Qv Y tc te) :=
 let ⟨g,K⟩:=K
 je_comp hc Z K hi (ht g) (ab g) hs
section
variable {X:Cx}{o e:Expr}{es:List Expr}{to:TE}{t:TA}{name:Str}{apos cpos:Pos}{T id:String}{r:V->List V->Hp->VK->Prop}
def ZE(J:PlainAttrs T)(O:Slot T name id)(I:typeOf (.builtin id)=pure (.type "method_descriptor"))(B:MtR X id r)(D:JE X o to)(g:attributeBase o name X.env (eval o X.env)=eval o X.env:=by rfl)(q:(apos.endLine==cpos.line)=true:=by rfl):JE X (.Call (.Attribute o name apos) [] [] cpos) (tBM0 X.K T r to):=⟨pe_bm0 J O I B D.h g q⟩
def je_bm(U:PlainAttrs T)(Y:Slot T name id)(S:typeOf (.builtin id)=pure (.type "method_descriptor"))(J:MtR X id r)(O:JE X o to)(g:JA X (e::es) t)(B:attributeBase o name X.env (eval o X.env)=eval o X.env:=by rfl)(D:((backTo cpos (starEach (e::es) X.env)).all (fun x=>!x.1)&&(backToKw cpos (keywordEach [] X.env)).all (fun x=>x.1.isSome)
   && decide ((e::es).length+([]:List Keyword).length+(if ([]:List Keyword).isEmpty then 0 else 1) < 30))=true:=by rfl)(I:(apos.endLine==cpos.line)=true:=by rfl)(hs:wX e=true:=by rfl)(q:es.all wX=true:=by rfl):
  JE X (.Call (.Attribute o name apos) (e::es) [] cpos) (tBM X.K T r to t):=⟨pe_bm U Y S J O.h g.h B D I (gK hs) (yB q)⟩
end
section
variable {X:Cx}{pos:Pos}
def eA(q:X.A.units+1 < cLine)(g:JE X o td)(hi:JE X i ty)(hs:VE i):JE X (.Subscript o i pos) (tDGet td ty):=⟨pe_dget q g.h hi.h hs⟩
def m2_of(q:attributeBase o m X.env (eval o X.env)=eval o X.env)(I:(apos.endLine==cpos.line)=true)(B:wX e=true)(D:wX f=true):M2 X o m apos e f cpos:=by
 have g:starEach [e,f] X.env=[(false,eval e X.env),(false,eval f X.env)]:=by
  rw[gK B,gK D]
  rfl
 refine⟨q,?_,I,?_⟩
 .rw [g];rfl
 .rw [g];rfl
def Q9{apos cpos}(J:X.A.units+1 < cLine)(I:JE X o td)(q:JE X e ty)(B:JE X f tx)(g:attributeBase o "get" X.env (eval o X.env)=eval o X.env:=by rfl)(D:(apos.endLine==cpos.line)=true:=by rfl)(h1:wX e=true:=by rfl)(h2:wX f=true:=by rfl):JE X (.Call (.Attribute o "get" apos) [e,f] [] cpos) (V4 td ty tx):=⟨WK J I.h q.h B.h (m2_of g D h1 h2)⟩
end
section
variable {X:Cx}{o i value:Expr}{td ty tv:TE}{pos pos':Pos}
def JV(q:X.A.units+1 < cLine)(g:JE X o td)(hi:JE X i ty)(B:JE X value tv)(hs:swapsWith value (some (.Subscript o i pos')) pos.line X.env=pure false:=by rfl):
  JS X (.Assign [.Subscript o i pos'] value pos) (sDPut td ty tv):=⟨ps_dput q g.h hi.h B.h hs⟩
end
end L2
namespace PySem.SeqAt
open MeetsSeq
def XX b u l q es n D:
  Meets (Builtin.«str.__eq__» ⟨[.str b u,.ref l],[]⟩) (fun _ R s=>s.heap.get? l=some ⟨.type "dict",q,.dict es n,D⟩/\R (.ok (.ret .notImplemented)) s) :=
 .of_wp fun prog w A R s h=>by
  obtain⟨I,g,d,O,J⟩:=s;obtain⟨B,h⟩:=h
  wp_walk using wpAny_load B
  exact⟨_,rfl,h⟩
def Qm b u l q es n D:
  Meets (Builtin.«dict.__eq__» ⟨[.ref l,.str b u],[]⟩) (fun _ R s=>s.heap.get? l=some ⟨.type "dict",q,.dict es n,D⟩/\R (.ok (.ret .notImplemented)) s) :=
 .of_wp fun prog w A R s h=>by
  obtain⟨J,g,d,S,O⟩:=s;obtain⟨B,h⟩:=h;have I:=F.sub_str_dict
  wp_walk using wpAny_load B
  exact⟨_,rfl,h⟩
def vw_eq_str_dict(q:s.heap.get? l=some ⟨.type "dict",B,.dict es n,D⟩)(J:A.units < cLine):
  EqAt A s (.str b u) (.ref l) false:=fun prog w E Q h=>by
 refine Az (wpAny_ite_split (fun I=>absurd (eq_of_beq I) nofun) (fun _=>AA ?_))
 have R:RcAt A s (.str b u) (.ref l) false:=fun prog w E Q h=>rc_eq_decline_or (typeIs_str s b u) ⟨_,q,rfl⟩ rfl F.sub_dict_str F.slot_str_eq F.slot_dict_eq_refl
  (fun _ g=>B2 F.slot_str_eq (typeIs_str s b u) F.entry_str_eq (F.args_str_eq_2 _ _) (XX b u l B es n D) ⟨q,g⟩)
  (fun _ g=>B2 F.slot_dict_eq_refl ⟨_,q,rfl⟩ F.entry_dict_eq (F.args_dict_eq_2 _ _) (Qm b u l B es n D) ⟨q,g⟩)
  (fun _ g=>wpAny_of_eq rfl g) (.inr J) h
 exact R prog w E _ (A8 h)
end PySem.SeqAt
namespace L2
open PySem PySem.Spec PyProof.Rows
section
variable {X:Cx}
theorem lA(B:∀(z:Str)(t:Tok),SeqAt.EqAt A s (.str z t) v (eqV (.str z) x)):∀{l:List Str}{q},Vals (l.map V.str) q->∀u∈q,SeqAt.EqAt A s u v (eqU x u)
 |[],_,.nil=>fun u g=>by cases g
 |z::l,u::q,.cons r t=>fun D g=>by
  rcases Ai.mp g with rfl | g
  .obtain ⟨t',rfl⟩:=r
   exact B z t'
  .exact lA B t D g
def jR(I:Inv X pins σ H s)(D:RelV x v)(g:tyN H x=some c)(q:A.units < cLine)z t:
  SeqAt.EqAt A s (.str z t) v (eqV (.str z) x):=by
 cases x with
 |non=>exact xR ⟨t,rfl⟩ D rfl rfl
 |bl b=>exact xR ⟨t,rfl⟩ D rfl rfl
 |int i=>exact xR ⟨t,rfl⟩ D rfl rfl
 |str y=>exact xR ⟨t,rfl⟩ D rfl rfl
 |ref a =>
  cases D;have g:(H a).bind tyH=some c:=g
  cases e:H a with
  |none=>rw[e] at g;cases g
  |some o =>
   rw[e] at g;have B:=I.hok a o e
   cases o with
   |lst xs =>
    obtain⟨_,O,n,_,h1⟩:=B;exact SeqAt.EqAt.str_list z t ⟨_,h1,rfl,n,rfl⟩ q
   |tup xs =>
    obtain⟨_,O,_,p⟩:=B;exact SeqAt.EqAt.str_tuple z t (IsTupN.is p) q
   |dK kvs =>
    obtain⟨_,_,vs,_,p⟩:=B;obtain⟨⟨S,Y,U,Z⟩,es,ep,h1,h2,J,_⟩:=p;have h2:=h2.1;subst h2 J;exact SeqAt.vw_eq_str_dict h1 q
   |dT kvs =>
    obtain⟨_,_,xs,_,⟨S,Y,U,Z⟩,es,ep,h1,h2,J,_⟩:=B;have h2:=h2.1;subst h2 J;exact SeqAt.vw_eq_str_dict h1 q
   |frz ob u =>
    cases u with
    |lst xs =>
     obtain⟨_,_,O,n,_,h1⟩:=B;exact SeqAt.EqAt.str_list z t ⟨_,h1,rfl,n,rfl⟩ q
    |_=>cases g
   |_=>cases g
 |byt b=>cases g
 |flt b=>cases g
 |ty b=>cases g
def inS(l:List Str):V->Bool
 |.str z=>l.contains z
 |_=>false
theorem kS x:∀{l}{g},Vals (l.map V.str) g->g.any (eqU x)=inS l x
 |[],_,.nil=>by cases x<;>rfl
 |z::l,u::g,.cons r t=>by
  obtain⟨t',rfl⟩:=r;rw[BB,kS x t]
  cases x with
  |str y =>
   show((z==y) || l.contains y)=(z::l).contains y
   congr 1
   rw[CZ,beq_iff_eq,beq_iff_eq];exact eq_comm
  |_=>rfl
def rInS(K:De)(g:Bool):R2:=fun x y H Q=>∃p l c,y=.ref p/\(SqL K H p (List.map V.str l)\/SqT K H p (List.map V.str l))/\tyN H x=some c/\Q (.bl (if g then !inS l x else inS l x)) H
def WW(O:X.A.units+1 < cLine):OpR X (compareOp .In) (rInS X.K false):=by
 intro pins s σ H x y v u Q I U Z h;obtain⟨p,l,c,rfl,g,J,q⟩:=h;cases Z
 rcases g with g | g
 .obtain ⟨B,r,D,Y⟩:=I.list g
  refine SeqAt.in_listAt (eqU x) D.isList (fun w S=>lA (jR I U J O) r w (by grind)) ⟨.bl _,H,I,rfl,?_⟩;rw[show B.toArray.any (eqU x)=B.any (eqU x) by simp,kS x r];exact q
 .obtain ⟨B,r,D,Y⟩:=I.tuple g
  refine SeqAt.in_tupleAt (eqU x) D (fun w S=>lA (jR I U J O) r w (by simpa using S)) ⟨.bl _,H,I,rfl,?_⟩;rw[show B.toArray.any (eqU x)=B.any (eqU x) by simp,kS x r];exact q
def rCatTA(K:De):R2:=fun x y H Q=>∃a b xs ys,x=.ref a/\y=.ref b/\SqT K H a xs/\SqT K H b ys/\xs.length+ys.length<=sizeLine /\
 (xs=[]->Q (.ref b) H)/\(xs≠[]->ys=[]->Q (.ref a) H)/\(xs≠[]->ys≠[]->∀p,H p=none->Q (.ref p) (upd H p (.tup (xs++ys))))
def WY:OpR X (binaryOp .Add) (rCatTA X.K):=by
 intro pins s σ H x y v u Q I O S h;obtain⟨a,b,xs,ys,rfl,rfl,q,B,hz,q0,q1,q2⟩:=h
 by_cases g:xs=[]
 .cases O
  cases S;refine jK (I.tuple q) fun aq r1 p1 _=>jK (I.tuple B) fun ag r2 p2 _=>?_;have e:=r1.nil_iff.mpr g;subst e;obtain⟨⟨ai,U,ak,sl⟩,D,Z,n,ae⟩:=id p1;obtain⟨⟨aj,Y,ao,ah⟩,J,ab,n2,af⟩:=id p2;subst Z ae ab af
  exact concat_meets ⟨_,D,rfl⟩ ⟨_,J,rfl⟩ noFill_tuple_add seq_tuple_add DQ DM (DL _ _)
   (tuple_addW0 a b _ ag.toArray n n2 U Y sl ah rfl) ⟨D,J,⟨.ref b,H,I,rfl,q0 g⟩⟩
 .exact op_catT pins s σ H (.ref a) (.ref b) v u Q I O S ⟨a,b,xs,ys,rfl,rfl,q,B,g,hz,q1 g,q2 g⟩
def js_setC{ab Z pos ai}(av:X.N.Nodup)(hi:X.N[i]?=some y)(hy:Loc X.env.scope y)(hc:X.calm=true)(hN:(x::X.N).Nodup)(K:aB X x O af)(hI:JI X (.Name x Z) Y wi)(ht:∀B C I q,JF (cK X x O af B C I q) ah tc)(ax:∀B C I q,JE (cK X x O af B C I q) ag te)(hs:∀v,foldedSetIterable Y X.env v=pure v:=by intro _;rfl)(a0:swapsWith (.ListComp ag [⟨.Name x Z,Y,ah,0⟩] O pos) (some (.Name y ab)) ai.line X.env=pure true:=by rfl)(ay:X.fn y=true\/X.env.scope.names.lookup y=some .local:=by first | exact .inl rfl | exact .inr rfl | assumption):
  JS X (.Assign [.Name y ab] (.ListComp ag [⟨.Name x Z,Y,ah,0⟩] O pos) ai) (Kw (Qv wi tc te) (sY i)):=by
 refine⟨fun pins s σ H D aj h=>?_⟩;rw[exec_Assign_Name_used _ _ _ _ a0];refine AA (wpAny_standAt (AA (AA (CN (use:=some (assign (.Name y ab) X.env)) rfl hs K.clos K.kind K.names (thn (hI.h pins s σ H _ aj h) fun xv bb a3=>thn a3 fun a9 I a4=>?_)))));obtain⟨it,B,tn,J,q,e,S,T,a6,ak,R⟩:=a4;subst e
 apply tY (Q:=fun x H1=>sY i x σ H1 D.nx) hc K (fun _ _ _ _=>lY (i:=0) hN rfl (.inl (BF (K.hx x (.head _)))) (.inr (BF (K.hx x (.head _))))) (fun B C I q=>(ht B C I q).h) (fun B C I q=>(ax B C I q).h) (by rintro a8 vs y H Q l rfl _ ae;match a8,l with | [_],_=>exact ae) S T a6 ak (fun D hD=>let ⟨W,w0,a7⟩:=R D hD;⟨W,w0,fun i m ys H w=>(a7 i m ys H w).imp id fun zz=>yF zz fun g st=> ⟨g,fun x H' y=>⟨[x],rfl,rfl,st x H' y⟩⟩⟩)
 intro D' C H' ba m hn aq ao ar au I4 ae;refine wpAny_assign_Name (mL I4 av hi hy (v:=.ref D') rfl (fun a5 I5 U=>?_) ay);obtain⟨b,U,hb⟩:=U;have aw:C≠b :=by grind
 exact⟨m,hn.at' fun o e=>(U.2 C aw).trans e,fun h' az=>AC (AC ⟨_,H',I5.turned (t':=a5.toks) (fun b o hb e=>(az.2 b hb).trans e) ao aq (.inr (AW S.sz au)) ar fun p hp z=>absurd (AQ (AG (S.pin p hp).1) (by lia)) (A9 _),ae⟩)⟩
end
theorem sameNew(h:H p=none)o:Same H (upd H p o):=fun b u q=>by rwa [dQ (kK q h)]
section
variable {X:Cx}
def rCatU:R2:=fun x y H Q=>∃a b xs ys,x=.ref a/\y=.ref b/\H a=some (.tup xs)/\H b=some (.tup ys)/\xs.length+ys.length<=sizeLine/\∀r H',Same H H'->H' r=some (.tup (xs++ys))->(H r=none\/r=a\/r=b)->Q (.ref r) H'
def op_catU:OpR X (binaryOp .Add) rCatU:=by
 intro pins s σ H x y v u Q I U Y h;exact el46 h fun a b xs ys B D J O S q=>WY pins s σ H x y v u Q I U Y ⟨a,b,xs,ys,B,D,SqT.of J,SqT.of O,S,fun h=>q b H (Same.refl H) (by rwa [h]) (.inr (.inr rfl)),fun _ h=>q a H (Same.refl H) (by grind) (.inr (.inl rfl)),fun _ _ p g=>q p _ (sameNew g _) fQ (.inl g)⟩
end
end L2
namespace PySem
open PySem.Spec PyProof.Rows PyProof.Rows.F
def iO:entryFor table "dict.update.loop" = some Builtin.«dict.update.loop»:=entryFor_of_tree (by kernel_rfl)
def cL:plainId "dict.update.loop" = true:=by decide +kernel
section
variable {prog:Program}{w:World}{κ:Type}[DecidableEq κ]{knd:KeyKind prog w κ}{A:Around}{d it t:Addr}{items:Array Value}{ps:List (κ×Value)}{res:Value}
def wY{h h':Heap}(x:h.IsTuple p xs)(e:∀o,h.get? p=some o->h'.get? p=some o):h'.IsTuple p xs:=let ⟨o,q,r⟩:=x;⟨o,e o q,r⟩
def ZI{h h':Heap}(x:h.IsTupleIter it p i)(e:∀o,h.get? it=some o->h'.get? it=some o):h'.IsTupleIter it p i:=let ⟨o,q,r⟩:=x;⟨o,e o q,r⟩
end
def pS:typeLookup (.type "tuple") "keys" = pure none:=by rw[typeLookup_type,Da];kernel_rfl
def oS
  (O:s.heap.get? a=some o)(D:o.cls=.type "tuple")(J:o.data=.seq xs k)(I:o.dict=none)(Y:A.handled=none)(h:∀(h':Heap)(U:Nat),(∀b u,s.heap.get? b=some u->h'.get? b=some u)->Q none { s with heap:=h',toks:=U }):wpAny (model prog w) A (getAttr? (.ref a) "keys") Q E s:=by
 obtain⟨c,af,ae,sl⟩:=o
 simp only at D J I
 subst D J I;obtain⟨Z,g,d,U,ab⟩:=s;have B:∀q,(⟨Z,g,d,q,ab⟩:Shared).TypeIs (.ref a) "tuple":=fun _=>⟨_,O,rfl⟩;have ag:=sub_AttributeError;have f3:=DD.lookup;have ah:=DD.bind (.ref a);have f5:=am_tuple_getattr_none
 delta getAttr? getAttrBy? getAttrBy
 repeat (any_goals (first | assumption | exact B _ | ((with_reducible show wpAny _ _ (call (Value.builtin "tuple.__getattribute__") _ _) _ _ _);refine B2 DD (B _) am_entry_tuple_getattribute (F.args_tuple_getattribute_2 _ _) (meets_getattribute_miss_tuple a xs k sl "keys" _ pS rfl (by decide)) ⟨O,Y,fun h' q e S=>?_⟩) | wp_step))
 obtain⟨t',u',ai⟩:=S.there
 delta getattributeRaised
 repeat (any_goals (first | assumption | wp_step))
 exact h h' q S.of.keeps
end PySem
namespace L2
open PySem PySem.Spec PyProof.Rows
abbrev Qi(H:Hp):List Addr->List (Key×V)->Prop:=Paired fun a p=>H a=some (.tup [kV p.1,p.2])
theorem mT:∀{q:List Addr}{g},Vals (q.map V.ref) g->g=q.map Value.ref
 |[],_,.nil=>rfl
 |_::_,_,.cons h r=>by
  cases h;rw[mT r];rfl
end L2
namespace L2
open PySem PySem.W PyProof.Rows
def wD(n:Nat)(P:α->Prop):KasT α->Prop
 |.ret a=>P a
 |.ask i j k=>i < n/\j < n/\∀b,wD n P (k b)
def vJ(lt:Nat->Nat->Bool):KasT α->α
 |.ret a=>a
 |.ask i j k=>vJ lt (k (lt i j))
theorem aW{f:α->KasT β}:∀t,wD n P t->(∀a,P a->wD n R (f a))->wD n R (t.bind f)
 |.ret a,h,g=>g a h
 |.ask i j k,h,g=>⟨h.1,h.2.1,fun b=>aW (k b) (h.2.2 b) g⟩
theorem Q8: ∀t,wD n P t->P (vJ lt t)
 |.ret a,h=>h
 |.ask i j k,h=>Q8 (k (lt i j)) (h.2.2 _)
theorem kWp{J:Shared->Prop}(q:∀i j C s,i < n->j < n->J s->(∀s',J s'->C (lt i j) s')->B i j C s):
  ∀t{Q:α->Shared->Prop}{s},wD n P t->J s->(∀s',J s'->P (vJ lt t)->Q (vJ lt t) s')->t.kasWp B Q s
 |.ret a,Q,s,h,hj,g=>g s hj h
 |.ask i j k,Q,s,h,hj,g=>q i j _ s h.1 h.2.1 hj fun s' D=>kWp q (k (lt i j)) (h.2.2 _) D g
def Ord(n:Nat)(p:Array Nat):Prop:=p.toList.Perm (List.range n)
def Ord.lt(h:Ord n p)(h0:0 < n)i:p.getD i 0 < n:=by
 by_cases hi:i < p.size
 .have e:p.getD i 0=p[i] :=by simp_all
  rw[e];have g:p[i]∈p.toList:=by simp
  exact BN.mp (h.mem_iff.mp g)
 .lia
def Ord.size(h:Ord n p):p.size=n:=by
 have:=h.length_eq
 rwa [Ak,A3] at this
def Ord.rev(h:Ord n p)i j:Ord n (kas_rev p i j):=(Array.Perm.toList (mirror_perm p i j _)).trans h
def Ord.bubble(h:Ord n p)i j:Ord n (bubble p i j):=(Array.Perm.toList (bubble_perm p i j)).trans h
section
variable {n:Nat}(h0:0 < n)
include h0
theorem Qh(h:Ord n p):∀f m,wD n (fun _=>True) (kas_asc p f m)
 |0,m=>trivial
 |f+1,m=>⟨h.lt h0 _,h.lt h0 _,fun b=>by
  cases b with
  |true=>exact trivial
  |false=>exact Qh h f (m+1)⟩
theorem mD:∀f p m q,Ord n p->wD n (fun r=>Ord n r.1) (kas_desc f p m q)
 |0,p,m,q,h=>h
 |f+1,p,m,q,h=>⟨h.lt h0 _,h.lt h0 _,fun b=>by
  cases b with
  |true =>
   split
   .exact mD f _ _ _ (h.rev _ _)
   .exact mD f _ _ _ h
  |false =>
   refine⟨h.lt h0 _,h.lt h0 _,fun b=>?_⟩
   cases b with
   |true=>exact h
   |false=>exact mD f _ _ _ h⟩
def nT m r(h:Ord n p):wD n (fun r=>Ord n r.2) (kas_tail3 m r p) :=
 aW _ (Qh h0 (h.rev 0 m) _ _) fun _ _=>h.rev 0 m
def pD m r(h:Ord n p):wD n (fun r=>Ord n r.2) (kas_descPart m r p) :=
 aW _ (mD h0 _ _ _ _ h) fun x g=>by
  split
  .exact nT h0 _ _ (g.rev _ _)
  .exact nT h0 _ _ g
def Vn r(h:Ord n p):wD n (fun r=>Ord n r.2) (kas_count r p) :=
 aW _ (Qh h0 h _ _) fun x _=>by
  split
  .exact h
  .split
   .refine ⟨h.lt h0 _,h.lt h0 _,fun b=>?_⟩
    cases b with
    |true=>exact h
    |false=>exact pD h0 _ _ (h.rev _ _)
   .exact pD h0 _ _ h
theorem lL k(h:Ord n p):∀f l r,wD n (fun _=>True) (kas_place p k f l r)
 |0,l,r=>trivial
 |f+1,l,r=>by
  unfold kas_place
  split
  .exact trivial
  .refine ⟨h.lt h0 _,h.lt h0 _,fun b=>?_⟩
   cases b with
   |true=>exact lL k h f _ _
   |false=>exact lL k h f _ _
theorem Kq:∀f p k,Ord n p->wD n (Ord n) (kas_bin f p k)
 |0,p,k,h=>h
 |f+1,p,k,h=>aW _ (lL h0 k h _ _ _) fun l _=>Kq f _ _ (h.bubble _ _)
def QC:wD n (Ord n) (kas_sort n) :=
 aW _ (Vn h0 n (List.Perm.refl _)) fun r g=>by
  split
  .exact Kq h0 _ _ _ g
  .exact g
end
def zW(lt:Nat->Nat->Bool)(vs:List Value):List Value:=(vJ lt (kas_sort vs.length)).toList.map fun i=>vs.getD i Value.none
def dM(lt:Nat->Nat->Bool)(ys:List V):List V:=(vJ lt (kas_sort ys.length)).toList.map fun i=>ys.getD i .non
def Wb lt:(vJ lt (kas_sort 0)).toList=[]:=rfl
def lP(h:vs.length < 2):zW lt vs=vs:=by
 cases vs with
 |nil=>rfl
 |cons v vs =>
  cases vs with
  |nil=>rfl
  |cons u vs=>exact absurd h (Nat.not_lt.2 (BZ 2 vs.length))
def vW lt n(h:0 < n):Ord n (vJ lt (kas_sort n)):=Q8 _ (QC h)
def xA lt vs:(zW lt vs).length=vs.length:=by
 by_cases h:vs.length < 2
 .rw [lP h]
 .delta zW
  rw[AB,A3,(vW lt vs.length (by omega)).size]
def bK(h:Heap)(a:Addr)(vs:List Value):Heap:=((h.update a (Obj.mapSeq fun _=>(#[]:Array Value))).push (seqObj "tuple" vs.toArray 0)).push (seqObj "list" #[] 0)
def Zq{g:List Value}(e:h.get? a=some (seqObj "list" g.toArray n)):∃k,(h.update a (Obj.mapSeq fun _=>(#[]:Array Value))).get? a=some (seqObj "list" #[] k)/\(bK h a vs).get? a=some (seqObj "list" #[] k) :=
 ⟨_,get?_update_seq e fun _=>#[],AD _ (AD _ (get?_update_seq e fun _=>#[]))⟩
def Q3(e:h.get? b=some o)(n:b≠a):(bK h a vs).get? b=some o :=
 AD _ (AD _ ((Cr _ _ _ _ n).trans e))
def oM(q:s.heap.get? a=some (seqObj "list" vs.toArray n))(ab:vs.length < 64)(hk:2<=vs.length->∀Q:SortKind->Shared->Prop,Q κ { s with heap:=bK s.heap a vs }->wpAny (model g w) A (keyKind' vs.toArray) Q (fun _ _=>False) { s with heap:=bK s.heap a vs })(hc:∀i j,i < vs.length->j < vs.length->∀Q:Bool->Shared->Prop,Q (lt i j) { s with heap:=bK s.heap a vs }->wpAny (model g w) A (keyLt' κ (vs.getD i Value.none) (vs.getD j Value.none)) Q (fun _ _=>False) { s with heap:=bK s.heap a vs })(Z:R (.done (.ret .none)) { s with heap:=sortedHeap s.heap a vs (zW lt vs).toArray }):wpAny (model g w) A (Builtin.«list.sort» ⟨[.ref a],[]⟩) R E s:=by
 obtain⟨B,e1,I⟩:=Zq q;have zl:vs.length<=sizeLine:=by rw[B1];lia
 have zo:(zW lt vs).toArray.size<=sizeLine:=by rwa [Am,xA]
 rw[list_sort_plain];refine AA (listItems_at q rfl (AA (listUpdate_at q rfl (AA (seqEpoch_at e1 rfl (AA (Dd (AA (wpAny_newList (Az ?_) (AY _))) zl)))) (by grind) (AY _))))
 have rest:∀st':SortSt,(arrOf st').map (·.2)=(zW lt vs).toArray->failedOf st'=none->wpAny (model g w) A (do
   let Y <- seqEpoch a
   Builtin.List.listUpdate (.ref a) fun _=>(arrOf st').map (·.2)
   if let some e:=failedOf st' then rule "list.sort.comparison-raised"; throw e
   if (Y != B)=true then rule "list.sort.modified"; raiseError "ValueError" "list modified during sort"
   ret .none) R E { s with heap:=bK s.heap a vs }:=fun st' q1 q2=>by
  rw[q1,q2];refine AA (seqEpoch_at I rfl (AA (listUpdate_at I rfl ?_ (AY _) (BC zo))));rw[show(B != B)=false by simp];exact AC Z
 have O:vs.toArray.size=vs.length:=Am
 by_cases h2:vs.length < 2
 .rw [O,AZ h2,AZ h2]
  refine AA (AC (AA (AC (rest _ ?_ rfl))));rw[lP h2]
  apply Array.toList_inj.mp
  simp
  exact List.map_snd_zip (AH _)
 .rw [O,AX h2,AX h2]
  refine AA (BM (hk (by lia) (fun c s'=>c=κ/\s'={ s with heap:=bK s.heap a vs }) ⟨rfl,rfl⟩) (fun c af hs=>?_) fun _ _ x=>x.elim);obtain⟨rfl,rfl⟩:=hs
  refine AA (BM (kat_run (Q:=fun st' s'=>s'={ s with heap:=bK s.heap a vs }/\(arrOf st').map (·.2)=(zW lt vs).toArray/\failedOf st'=none)
   (G:=fun p s'=>s'={ s with heap:=bK s.heap a vs }/\p=vJ lt (kas_sort vs.length)) rfl (by lia) ab (fun p' st' s' ae S U D=>⟨D.1,?_,U⟩)
   (kWp (J:=fun s'=>s'={ s with heap:=bK s.heap a vs }) (fun i j C s' hi hj e hC=>?_) _ (QC (by lia)) rfl fun s' e _=>⟨e,rfl⟩)) ?_ fun _ _ e=>e)
  .rw [kat_snds rfl S,D.2]
   rfl
  .subst e
   exact hc i j hi hj _ (hC _ rfl)
  .rintro ⟨⟨⟩,st'⟩ s' ⟨rfl,q3,q4⟩
   exact rest st' q3 q4
def lH(h:Heap)(vs:List Value):Heap:=((h.push (seqObj "list" #[] 0)).update h.objs.size (Obj.mapSeq (· ++ vs.toArray))).push (seqObj "list" vs.toArray 0)
def Xi(h:Heap)(vs:List Value):((h.push (seqObj "list" #[] 0)).update h.objs.size (Obj.mapSeq (· ++ vs.toArray))).objs.size=h.objs.size+1 :=by simp_all
def ZK h vs:(lH h vs).get? (h.objs.size+1)=some (seqObj "list" vs.toArray 0):=by
 have q:=AK ((h.push (seqObj "list" #[] 0)).update h.objs.size (Obj.mapSeq (· ++ vs.toArray))) (o:=seqObj "list" vs.toArray 0) rfl
 rwa [Xi] at q
def YN(e:h.get? b=some o):(lH h vs).get? b=some o :=
 AD _ ((Cr _ _ _ _ (Ab (AG e))).trans (AD _ e))
section
variable {X:Cx}
def Srt(X:Cx)(H:Hp)(ys:List V)(lt:Nat->Nat->Bool):Prop:=∀(pins:List (Addr×Obj))(σ:St)(s:Shared)(g:List Value)(A:Around),A.units<=X.A.units+2->Inv X pins σ H s->Vals ys g ->
 ∃κ:SortKind,(2<=ys.length->∀Q:SortKind->Shared->Prop,Q κ s->wpAny (model X.prog X.w) A (keyKind' g.toArray) Q (fun _ _=>False) s) /\
  ∀i j,i < ys.length->j < ys.length->∀Q:Bool->Shared->Prop,Q (lt i j) s->wpAny (model X.prog X.w) A (keyLt' κ (g.getD i Value.none) (g.getD j Value.none)) Q (fun _ _=>False) s
def kG(r:Vals ys q)i:RelV (ys.getD i .non) (q.getD i Value.none):=by
 induction r generalizing i with
 |nil=>exact rfl
 |cons a b g =>
  cases i with
  |zero=>exact a
  |succ i=>exact g i
theorem bN(r:Vals ys g):∀l:List Nat,Vals (l.map fun i=>ys.getD i .non) (l.map fun i=>g.getD i Value.none)
 |[]=>.nil
 |i::l=>.cons (kG r i) (bN r l)
def rP lt ys:(dM lt ys).length=ys.length:=by
 delta dM
 rw[AB,A3]
 by_cases h:0 < ys.length
 .exact (vW lt ys.length h).size
 .have e:ys.length=0:=by lia
  rw[e]
  rfl
def qH:CallR X (.builtin "sorted") (fun xs H Q=>∃l ys lt,xs=[.ref l]/\SqL X.K H l ys/\ys.length < 64/\Srt X H ys lt/\∀p,H p=none->Q (.ref p) (upd H p (.lst (dM lt ys)))):=by
 intro pins s σ H xs ag Q I r h;obtain⟨l,ys,lt,rfl,hl,af,hs,ae⟩:=h;obtain⟨u,rfl,rfl⟩:=r.one;obtain⟨vs,rv,pl,_⟩:=(I.list hl);have ab:=rv.length;have U:vs.length < 64:=by lia
 have O:vs.length<=sizeLine:=by rw[B1];lia
 have J:∀{b:Addr}{o:Obj},s.heap.get? b=some o->b≠s.heap.objs.size+1:=fun e=>Ab (Nat.lt_succ_of_lt (AG e));have D:∀b o,s.heap.get? b=some o->(bK (lH s.heap vs) (s.heap.objs.size+1) vs).get? b=some o:=fun b o e=>Q3 (YN e) (J e);obtain⟨κ,Z,Y⟩:=(hs pins σ _ vs X.A.in1.in1 (AH _) (I.kept (t':=s.toks) D) rv);obtain⟨k0,_,S⟩:=Zq (ZK s.heap vs);have q:∃c,(sortedHeap (lH s.heap vs) (s.heap.objs.size+1) vs (zW lt vs).toArray).get? (s.heap.objs.size+1)=some (seqObj "list" (zW lt vs).toArray c):=⟨_,get?_update_seq S fun _=>(zW lt vs).toArray⟩
 obtain⟨c,q⟩:=q;refine DE kind_sorted plain_sorted entry_sorted (args_sorted1 _) (?_:wpAny _ _ (Builtin.«sorted» _) _ _ _);refine AA (AC (AA (collect_list pl.isList (AA (wpAny_newList ?_ O)) O)));rw[Xi];refine AA (Az (Aw slot_list_sort ⟨_,ZK s.heap vs,rfl⟩ entry_list_sort ?inner (args_list_sort _)));refine oM (ZK s.heap vs) U (fun h2 g B=>Z (by lia) g B) (fun i j hi hj g B=>Y i j (by lia) (by lia) g B) ⟨_,rfl,AC ⟨_,rfl,?_⟩⟩
 refine⟨.ref (s.heap.objs.size+1),_,I.laid (t':=s.toks) (fun b o e=>(Cr _ _ _ _ (J e)).trans (D b o e)) (Bm _) ?_,rfl,ae _ (I.hok.fresh (Bm _))⟩;refine⟨by rw[rP,B1];lia,zW lt vs,c,?_,q⟩
 delta dM zW
 exact ab▸bN rv _
end
end L2
namespace HT
open PySem PyProof.Rows
inductive TxtsAre:List Value->List Str->Prop
 |nil:TxtsAre [] []
 |cons (z:Str) (t:Tok) {vs:List Value} {zs:List Str}:TxtsAre vs zs->TxtsAre (.str z t::vs) (z::zs)
def TxtsAre.length(h:TxtsAre vs zs):vs.length=zs.length:=by
 induction h with
 |nil=>rfl
 |cons z t h g=>rw[AV,AV,g]
def lexS:List Str->List Str->Bool
 |[],[]=>false
 |[],_::_=>true
 |_::_,[]=>false
 |x::xs,y::ys=>if x=y then lexS xs ys else decide (x.cps.toList < y.cps.toList)
def lexS_cons x y xs ys:lexS (x::xs) (y::ys)=if x=y then lexS xs ys else decide (x.cps.toList < y.cps.toList):=rfl
section
open PySem.SeqAt
open PySem.AutoSeq1 (wpAny_loadPart')
open PySem.MeetsSeq PySem.MeetsSeq2 PySem.MeetsSeq3
def dS l b items D n n2 dd ai sl av ns ae(hi:TxtsAre items.toList ns)(hj:TxtsAre D.toList ae):
  Meets (Builtin.«tuple.__lt__» ⟨[.ref l,.ref b],[]⟩)
   (fun _ R s=>s.heap.get? l=some { cls:=.type "tuple",dict:=dd,data:=.seq items n,slots:=sl }/\s.heap.get? b=some { cls:=.type "tuple",dict:=ai,data:=.seq D n2,slots:=av } /\
    R (.ok (.ret (.bool (lexS ns ae)))) s) :=
 .of_wp fun prog w A R s hh=>by
  obtain⟨S,g,d,Y,U⟩:=s;obtain⟨hl,hb,h⟩:=hh;have aw:=AutoSeq1.sub_tuple_tuple;have z1:items.size=ns.length:=by rw[<- hi.length];simp
  have z2:D.size=ae.length:=by rw[<- hj.length];simp
  wp_walk using wpAny_loadPart' hl,wpAny_loadPart' hb,Cj _ (fun rest b s'=>b.1=none/\s'=⟨S,g,d,Y,U⟩/\∃vs af J I,rest=vs.zip af /\
   TxtsAre vs J/\TxtsAre af I/\J.length+D.size=I.length+items.size/\R (.ok (.ret (.bool (lexS J I)))) ⟨S,g,d,Y,U⟩) _
  case turn =>
   rintro⟨y,x⟩ rest b s' ⟨ag,rfl,vs,af,J,I,q,ah,ab,O,B⟩
   cases ah with
   |nil=>rw[List.zip_nil_left] at q;cases q
   |cons a t ao =>
    cases ab with
    |nil=>rw[List.zip_nil_right] at q;cases q
    |cons c u ar =>
     rw[Cy] at q;injection q with au aj
     injection au with hy hx
     subst hy hx;rw[lexS_cons] at B
     simp only[List.length_cons] at O
     refine AA ((fun E Q hq=>wpAny_eqBool_str hq) _ _ ?_)
     by_cases Z:a=c
     .rw [Ad Z]
      rw[AZ Z] at B
      wp_walk
      exact⟨rfl,rfl,_,_,_,_,aj,ao,ar,by lia,B⟩
     .rw [AM Z]
      rw[AX Z] at B
      have ak:∀E Q,Q (.bool (decide (a.cps.toList < c.cps.toList))) ⟨S,g,d,Y,U⟩->wpAny (model prog w) A.in1 (richCompare .Lt (.str a t) (.str c u)) Q E ⟨S,g,d,Y,U⟩ :=
       fun E Q hq=>(PyProof.Rows.lt_str hq:wpAny (model prog w) A.in1 (compareOp .Lt (.str a t) (.str c u)) Q E ⟨S,g,d,Y,U⟩)
      wp_walk using ak
      exact⟨_,rfl,(by simpa using B)⟩
  case fin =>
   rintro⟨b1,b2⟩ s' ⟨ag,rfl,vs,af,J,I,q,ah,ab,O,B⟩
   simp only at ag
   subst ag
   have hv:lexS J I=decide (items.size < D.size):=by
    cases ah with
    |nil =>
     cases ab with
     |nil =>
      simp only[List.length_nil] at O
      exact(AM (by lia)).symm
     |cons c u aq =>
      simp only[List.length_nil,List.length_cons] at O
      exact(Ad (by lia)).symm
    |cons a t hv =>
     cases ab with
     |nil =>
      simp only[List.length_nil,List.length_cons] at O
      exact(AM (by lia)).symm
     |cons c u aq =>
      rw[Cy] at q;cases q
   rw[hv] at B
   wp_walk
   exact⟨_,rfl,(by simpa [Builtin.Tuple.tupleCompareSizes] using B)⟩
  case h =>
   exact⟨rfl,rfl,items.toList,D.toList,ns,ae,rfl,hi,hj,by lia,h⟩
end
section
def lt_tupStrs(S:IsTup s.heap l items)(O:IsTup s.heap b D)(hi:TxtsAre items.toList ns)(hj:TxtsAre D.toList g)(U:A.units < cLine)(h:Q (.bool (lexS ns g)) s):wpAny (model prog w) A (compareOp .Lt (.ref l) (.ref b)) Q E s:=by
 obtain⟨⟨c1,I,d1,sl⟩,q,Z,n,q2⟩:=S;obtain⟨⟨c2,J,d2,ab⟩,B,q3,Y,q4⟩:=O;subst Z q2 q3 q4
 exact richCompare_meets_room (op:=.Lt) ⟨_,q,rfl⟩ ⟨_,B,rfl⟩ PySem.F.slot_tuple_lt PySem.F.entry_tuple_lt (PySem.F.args_tuple_lt_2 _ _) (dS l b items D n Y I J sl ab ns g hi hj)
  ⟨q,B,show Value.bool (lexS ns g)≠Value.notImplemented/\Q (.bool (lexS ns g)) s from⟨(fun x=>nomatch x),h⟩⟩ U
end
end HT
namespace L2
open PySem PySem.W PyProof.Rows
def Jm(r:Vals (zs.map V.str) g):HT.TxtsAre g zs:=by
 induction zs generalizing g with
 |nil=>cases r;exact .nil
 |cons z zs q =>
  cases r with
  |cons a b =>
   obtain⟨t,rfl⟩:=a;exact .cons z t (q b)
def ltP(x y:List Str×Int):Bool:=if x.1=y.1 then decide (x.2 < y.2) else HT.lexS x.1 y.1
def mP(H:Hp)(v:V)(c:List Str×Int):Prop:=∃a g,v=.ref a/\H a=some (.tup [.ref g,.int c.2])/\H g=some (.tup (c.1.map V.str))
def ZA(k:List Str):(k.map (Sum.inr:Str->Key)).map kV=k.map V.str:=by
 rw[Be]
 rfl
def JR{g:List Str}:(k.map (Sum.inr:Str->Key)=g.map Sum.inr)↔k=g:=by
 constructor
 .intro h
  induction k generalizing g with
  |nil=>cases g with
   |nil=>rfl
   |cons _ _=>cases h
  |cons x k q=>cases g with
   |nil=>cases h
   |cons y g =>
    injection h with h1 h2
    rw[q h2,Sum.inr.inj h1]
 .lia
def kC{σ:St}(I:Inv X pins σ H s)(h:mP H v c)(r:RelV v u):
  ∃a g o n t,u=.ref a/\s.heap.get? a=some o/\o.cls=.type "tuple"/\o.data=.seq #[.ref g,.int c.2 t] n/\H g=some (.tup (c.1.map V.str)):=by
 obtain⟨a,g,rfl,h1,h2⟩:=h;cases r;obtain⟨_,O,rv,o,q,B,⟨n,D⟩,_⟩:=(I.hok a _ h1);obtain⟨S,U,rfl,rfl,J⟩:=cT rv;obtain⟨t,rfl⟩:=J;exact⟨a,g,o,n,t,rfl,q,B,D,h2⟩
def tT(hu:X.A.units+2 < cLine)(cs:Nat->List Str×Int)(U:∀i,i < ys.length->mP H (ys.getD i .non) (cs i)):Srt X H ys (fun i j=>ltP (cs i) (cs j)):=by
 intro pins σ s q A hA I r;have ae:A.units < cLine:=by lia
 have ah:∀v∈ys,∃c,mP H v c:=fun v S=>by
  obtain⟨i,hi,e⟩:=List.getElem_of_mem S;have af:=U i hi;have eg:ys.getD i .non=v :=by simp_all
  rw[eg] at af;exact⟨_,af⟩
 have ao:∀{ys:List V}{q:List Value},Vals ys q->(∀v∈ys,∃c,mP H v c)->∃fs,KatTups s.heap q fs/\fs.length=q.length/\∀f∈fs,Looks (model X.prog X.w) s.heap (typeOf f) (.type "tuple"):=by
  intro ys q r
  induction r with
  |nil=>exact fun _=>⟨[],.nil,rfl,fun f B=>nomatch B⟩
  |@cons y u ys q ry _ ih =>
   intro ab;obtain⟨fs,Y,k2,Z⟩:=(ih fun v S=>ab v (AL _ S));obtain⟨c,hc⟩:=ab y AF;obtain⟨a,J,o,n,t,rfl,e1,e2,e3,e4⟩:=kC I hc ry;obtain⟨_,au,_,o2,ai,aj,_,_⟩:=(I.hok J _ e4);refine⟨.ref J::fs,.cons e1 e2 e3 rfl Y,by rw[AV,AV,k2],fun f B=>?_⟩
   rcases Ai.mp B with rfl | B
   .exact aj▸((Looks.ld ai).andThen .now)
   .exact Z f B
 have ar:=r.length;refine⟨tuples' false,fun h2 Q g=>?_,fun i j hi hj Q g=>?_⟩
 .exact jK (ao r ah) fun fs Y k2 Z=>kat_kind Y (by lia) Z rfl g
 .have g:Q (ltP (cs i) (cs j)) s:=g
  refine el55 (kC I (U i hi) (kG r i)) fun a ka oa av ta ea ag aq a3 a4=>el55 (kC I (U j hj) (kG r j)) fun b J ob aw tb eb b1 b2 b3 b4=>?_;rw[ea,eb]
  apply kat_lt ag a3 b1 b3
  have ak:=kU I.hok (by rwa [ZA]);refine kat_cons (wpAny_eqBool_tuple ae (kU I.hok (by rwa [ZA])) ak ?_)
  by_cases D:(cs i).1=(cs j).1
  .rw [Ad (JR.mpr D)]
   refine kat_yes (kat_cons (wpAny_eqBool_int ?_));have hl:ltP (cs i) (cs j)=decide ((cs i).2 < (cs j).2):=AZ D;rw[hl] at g
   by_cases O:(cs i).2=(cs j).2
   .rw [show((cs i).2==(cs j).2)=true by simpa using O]
    refine kat_yes (kat_nil ?_)
    rwa [O,AM (Int.lt_irrefl _)] at g
   .rw [show((cs i).2==(cs j).2)=false by simpa using O]
    exact kat_no (kat_one _ _ (PyProof.Rows.lt_int g))
  .rw [AM (fun e=>D (JR.mp e))]
   rw[(show ltP (cs i) (cs j)=HT.lexS (cs i).1 (cs j).1 from AX D)] at g;obtain⟨_,ia,ra,pa⟩:=(I.hok ka _ a4);obtain⟨_,ib,rb,pb⟩:=(I.hok J _ b4);exact kat_no (kat_one _ _ (HT.lt_tupStrs pa.is pb.is (Jm ra) (Jm rb) ae g))
def Yh(x y:Str×Int):Bool:=if x.1=y.1 then decide (x.2 < y.2) else decide (x.1.cps.toList < y.1.cps.toList)
def GP(H:Hp)(v:V)(c:Str×Int):Prop:=∃a,v=.ref a/\H a=some (.tup [.str c.1,.int c.2])
def X6{σ:St}(I:Inv X pins σ H s)(h:GP H v c)(r:RelV v u):
  ∃a o n t t',u=.ref a/\s.heap.get? a=some o/\o.cls=.type "tuple"/\o.data=.seq #[.str c.1 t',.int c.2 t] n:=by
 obtain⟨a,rfl,h1⟩:=h;cases r;obtain⟨_,O,rv,o,g,q,⟨n,B⟩,_⟩:=(I.hok a _ h1);obtain⟨S,U,rfl,D,J⟩:=cT rv;obtain⟨t',rfl⟩:=D;obtain⟨t,rfl⟩:=J;exact⟨a,o,n,t,t',rfl,g,q,B⟩
def V7(cs:Nat->Str×Int)(S:∀i,i < ys.length->GP H (ys.getD i .non) (cs i)):Srt X H ys (fun i j=>Yh (cs i) (cs j)):=by
 intro pins σ s q A hA I r
 have af:∀v∈ys,∃c,GP H v c:=fun v O=>by
  obtain⟨i,hi,e⟩:=List.getElem_of_mem O;have ab:=S i hi;have eg:ys.getD i .non=v :=by simp_all
  rw[eg] at ab;exact⟨_,ab⟩
 have ag:∀{ys:List V}{q:List Value},Vals ys q->(∀v∈ys,∃c,GP H v c)->∃fs,KatTups s.heap q fs/\fs.length=q.length/\∀f∈fs,Looks (model X.prog X.w) s.heap (typeOf f) (.type "str"):=by
  intro ys q r
  induction r with
  |nil=>exact fun _=>⟨[],.nil,rfl,fun f B=>nomatch B⟩
  |@cons y u ys q ry _ ih =>
   intro Z;obtain⟨fs,U,k2,Y⟩:=(ih fun v O=>Z v (AL _ O));obtain⟨c,hc⟩:=Z y AF;obtain⟨a,o,n,t,t',rfl,e1,e2,e3⟩:=X6 I hc ry;refine⟨.str c.1 t'::fs,.cons e1 e2 e3 rfl U,by rw[AV,AV,k2],fun f B=>?_⟩
   rcases Ai.mp B with rfl | B
   .exact .now
   .exact Y f B
 have ai:=r.length;refine⟨tuples' true,fun h2 Q g=>?_,fun i j hi hj Q g=>?_⟩
 .exact jK (ag r af) fun fs U k2 Y=>kat_kind U (by lia) Y rfl g
 .have g:Q (Yh (cs i) (cs j)) s:=g
  refine el54 (X6 I (S i hi) (kG r i)) fun a oa aj ta ao ea ae ah a3=>el54 (X6 I (S j hj) (kG r j)) fun b ob ak tb aq eb b1 b2 b3=>?_;rw[ea,eb];refine kat_lt ae a3 b1 b3 (kat_cons (wpAny_eqBool_str ?_))
  by_cases D:(cs i).1=(cs j).1
  .rw [Ad D]
   refine kat_yes (kat_cons (wpAny_eqBool_int ?_));have hl:Yh (cs i) (cs j)=decide ((cs i).2 < (cs j).2):=AZ D;rw[hl] at g
   by_cases J:(cs i).2=(cs j).2
   .rw [show((cs i).2==(cs j).2)=true by simpa using J]
    refine kat_yes (kat_nil ?_)
    rwa [J,AM (Int.lt_irrefl _)] at g
   .rw [show((cs i).2==(cs j).2)=false by simpa using J]
    exact kat_no (kat_one _ _ (PyProof.Rows.lt_int g))
  .rw [AM D]
   rw[(show Yh (cs i) (cs j)=decide ((cs i).1.cps.toList < (cs j).1.cps.toList) from AX D)] at g;exact kat_no (kas_lt_str g)
def layT(H:Hp)(f:Addr->Option (List V)):Hp:=fun b=>match f b with
 |some xs=>some (.tup xs)
 |none=>H b
def uG(e:f b=some xs):layT H f b=some (.tup xs):=by delta layT;rw[e]
def mK(e:f b=none):layT H f b=H b:=by delta layT;rw[e]
def pK(g:∀b xs,f b=some xs->H b=none)(e:H b=some o):layT H f b=some o:=by
 cases z:f b with
 |none=>rwa [mK z]
 |some xs=>rw[g b xs z] at e;cases e
section
variable {X:Cx}{pins:List (Addr×Obj)}{σ:St}{H:Hp}{s:Shared}{h':Heap}
def Inv.tups{f:Addr->Option (List V)}(I:Inv X pins σ H s)(k:∀b u,s.heap.get? b=some u->h'.get? b=some u)(D:∀b xs,f b=some xs->s.heap.objs.size<=b/\xs.length<=sizeLine/\∃B:List Value,Vals xs B/\IsTupN h' b B.toArray):Inv X pins σ (layT H f) { s with heap:=h',toks:=t' }:=by
 have g:∀b xs,f b=some xs->H b=none:=fun b xs e=>I.hok.fresh (D b xs e).1
 have S:∀{b:Addr}{o:Obj},s.heap.get? b=some o->f b=none:=fun {b o}e=>by
  cases z:f b with
  |none=>rfl
  |some xs=>exact absurd (AG e) (Nat.not_lt.mpr (D b xs z).1)
 refine I.un ⟨fun b o q _ _ _=>k b o q,fun b o q _ _ _=>⟨o.slots,k b o q⟩,fun b o q n _=>by rw[mK (S q)];exact n,fun b o q _=>⟨o,k b o q⟩,fun b xs q=>pK g q,fun b o u q=>pK g q,fun b ps q=>⟨#[],by rw[pK g q];simp⟩⟩ fun b u e=>?_
 cases z:f b with
 |some xs =>
  rw[uG z] at e;cases e;obtain⟨_,h2,B,J,O⟩:=D b xs z;exact⟨h2,B,J,O⟩
 |none =>
  rw[mK z] at e;exact(I.hok b u e).stay (fun c v _ q=>k c v q) (fun c q=>pK g q) fun c xs q=>pK g q
end
section
variable {X:Cx}
def cP{σ:St}(hA:A.in1.units<=X.A.units+2)(I:Inv X pins σ H s)(rv:Vals ys vs)(ae:ys.length < 64)(hs:Srt X H ys lt)(U:∀p s',H p=none->Inv X pins σ (upd H p (.lst (dM lt ys))) s'->Z (.done (.ret (.ref p))) s'):
  wpAny (model X.prog X.w) A (newList vs >>= fun l=>holding [l] (call (.builtin "list.sort") [l] []) >>= fun _=>ret l) Z E s:=by
 have ab:=rv.length;have Y:vs.length < 64:=by lia
 have zl:vs.length<=sizeLine:=by rw[B1];lia
 refine AA (wpAny_newList ?_ zl);have B:(s.heap.push (seqObj "list" vs.toArray 0)).get? s.heap.objs.size=some (seqObj "list" vs.toArray 0):=AK _ rfl;have O:∀{b:Addr}{o:Obj},s.heap.get? b=some o->b≠s.heap.objs.size:=fun e=>Ab (AG e);have J:∀b o,s.heap.get? b=some o->(bK (s.heap.push (seqObj "list" vs.toArray 0)) s.heap.objs.size vs).get? b=some o:=fun b o e=>Q3 (AD _ e) (O e)
 obtain⟨κ,hk,hc⟩:=(hs pins σ _ vs A.in1 hA (I.kept (t':=s.toks) J) rv);obtain⟨k0,_,S⟩:=Zq B;have q:∃c,(sortedHeap (s.heap.push (seqObj "list" vs.toArray 0)) s.heap.objs.size vs (zW lt vs).toArray).get? s.heap.objs.size=some (seqObj "list" (zW lt vs).toArray c):=⟨_,get?_update_seq S fun _=>(zW lt vs).toArray⟩;obtain⟨c,q⟩:=q;refine AA (Az (Aw slot_list_sort ⟨_,B,rfl⟩ entry_list_sort ?inner (args_list_sort _)))
 refine oM B Y (fun h2 g D=>hk (by lia) g D) (fun i j hi hj g D=>hc i j (by lia) (by lia) g D) ⟨_,rfl,AC ?_⟩;refine U _ _ (I.hok.fresh (AH _)) (I.laid (t':=s.toks) (fun b o e=>(Cr _ _ _ _ (O e)).trans (J b o e)) (AH _) ⟨by rw[rP,B1];lia,zW lt vs,c,?_,q⟩)
 delta dM zW
 exact ab▸bN rv _
abbrev wU(v d:Addr):Heap->Prop:=fun h=>h.IsItemsView v d
def mkF(as:List Addr)(kvs:List (Key×V)):Addr->Option (List V):=fun b=>((as.zip kvs).find? fun p=>p.1==b).map fun p=>[kV p.2.1,p.2.2]
def Y5{as:List Addr}(nd:as.Nodup){j:Nat}{p:Key×V}(g:as[j]?=some a)(B:kvs[j]?=some p):(as.zip kvs).find? (fun q=>q.1==a)=some (a,p):=by
 induction as generalizing kvs j with
 |nil=>cases g
 |cons x as D =>
  cases kvs with
  |nil=>cases B
  |cons y kvs =>
   rw[Ba] at nd;rw[Cy,BL]
   cases j with
   |zero=>cases g;cases B;simp
   |succ j =>
    exact(show(x==a)=false from DU fun e=>nd.1 (e▸Ae g))▸D nd.2 g B
def gU{as:List Addr}{q:Addr×(Key×V)}(h:(as.zip kvs).find? (fun q=>q.1==b)=some q):q.1=b/\∃j:Nat,as[j]?=some b/\kvs[j]?=some q.2:=by
 have h1:=List.find?_some h;have h1:=eq_of_beq h1;obtain⟨j,hj⟩:=B0.mp (CD h);rw[List.getElem?_zip_eq_some] at hj;exact⟨h1,j,by exact h1▸hj.1,hj.2⟩
theorem xO: ∀{as}{kvs},as.length=kvs.length->(∀(j:Nat)a p,as[j]?=some a->kvs[j]?=some p->H a=some (.tup [kV p.1,p.2]))->Qi H as kvs
 |[],[],_,_=>.nil
 |[],_::_,h,_=>nomatch h
 |_::_,[],h,_=>nomatch h
 |a::as,p::kvs,h,k=>.cons (k 0 a p rfl rfl) (xO (Ay h) fun j g q h1 h2=>k (j+1) g q h1 h2)
def Wg(h:(sX P w).is k u=true):RelV (kV k) u:=by
 rcases rJ h with ⟨i,t,rfl,rfl⟩ | ⟨x,t,rfl,rfl⟩ | ⟨rfl,rfl⟩
 .exact ⟨t,rfl⟩
 .exact ⟨t,rfl⟩
 .exact rfl
def kv_get(r:KV kvs vs):∀{j:Nat}{p}{q:Key×Value},kvs[j]?=some p->vs[j]?=some q->p.1=q.1/\RelV p.2 q.2:=by
 induction r with
 |nil=>intro j p q h;cases h
 |cons h _ g =>
  intro j p q h1 h2
  cases j with
  |zero=>cases h1;cases h2;exact h
  |succ j=>exact g h1 h2
def nI(hc:X.calm=true):CallR X (.builtin "sorted") (fun xs H Q=>∃v d kvs lt,xs=[.ref v]/\H v=some (.ext (wU v d))/\H d=some (.dK kvs)/\kvs.length < 64 /\
  ∀as H1,Same H H1->Qi H1 as kvs->(∀a∈as,H a=none)->(∀a,H a=none->H1 a≠none->a∈as)->Srt X H1 (List.map V.ref as) lt/\∀p,H1 p=none->Q (.ref p) (upd H1 p (.lst (dM lt (List.map V.ref as))))):=by
 intro pins s σ H xs aq Q I r h;obtain⟨v,d,kvs,lt,rfl,hv,ah,ao,Z⟩:=h;obtain⟨u,rfl,rfl⟩:=r.one;obtain⟨z,hS,vs,ab,dd⟩:=J6 I.hok ah;obtain⟨ai,_,_⟩:=(I.hok v _ hv);obtain⟨ep,da⟩:=dd.dictAt;have S:=ab.length;refine DE kind_sorted plain_sorted entry_sorted (args_sorted1 _) (?_:wpAny _ _ (Builtin.«sorted» _) _ _ _);refine AA (AC (AA (kdx_collect (by simp[I.ok.hd hc]) ai da (by rwa [<- S]) fun h' tk as aj U G=>?_)))
 have nd:=G.rise.imp fun h=>Ab h;have Y:=U.trans S.symm;have B:∀a∈as,s.heap.objs.size<=a:=fun a D=>Bc (G.above a D)
 have J:Inv X pins σ (layT H (mkF as kvs)) { s with heap:=h',toks:=tk }:=I.tups aj fun b xs e=>by
  delta mkF at e
  cases z:(as.zip kvs).find? fun p=>p.1==b with
  |none=>rw[z] at e;cases e
  |some q =>
   rw[z] at e;cases e;obtain⟨e1,j,g,e3⟩:=gU z;refine iS (G.pairs j b g) fun ak k x ae af ag=>?_;obtain⟨r1,r2⟩:=kv_get ab e3 ae;refine⟨B b (Ae g),y0 2 rfl,[ak,x],.cons (r1▸Wg af) (.cons r2 .nil),⟨_,ag,rfl,⟨_,rfl⟩,rfl⟩⟩
 have O:∀b xs,mkF as kvs b=some xs->H b=none:=fun b xs e=>by
  delta mkF at e
  cases z:(as.zip kvs).find? fun p=>p.1==b with
  |none=>rw[z] at e;cases e
  |some q =>
   obtain⟨_,j,g,_⟩:=gU z;exact I.hok.fresh (B b (Ae g))
 obtain⟨hs,q⟩:=Z as (layT H (mkF as kvs)) (fun b o e=>pK O e) (xO Y fun j a p h1 h2=>uG (by delta mkF;rw[Y5 nd h1 h2];rfl)) (fun a D=>I.hok.fresh (B a D)) fun a n1 n2=>by
  cases z:mkF as kvs a with
  |none=>rw[mK z] at n2;exact absurd n1 n2
  |some xs =>
   delta mkF at z
   cases y:(as.zip kvs).find? fun p=>p.1==a with
   |none=>rw[y] at z;cases z
   |some q =>
    obtain⟨_,j,g,_⟩:=gU y;exact Ae g
 have rv:Vals (as.map V.ref) (as.map Value.ref):=by
  clear nd Y B J O hs q U G Z
  induction as with
  |nil=>exact .nil
  |cons a as ih=>exact .cons rfl ih
 exact cP (AH _) J rv (by grind) hs fun p s' hp I'=>⟨_,rfl,.ref p,_,I',rfl,q p hp⟩
end
end L2
namespace L2
open PySem PySem.Spec PyProof.Rows
section
variable {X:Cx}{pins:List (Addr×Obj)}{σ:St}{H:Hp}{s:Shared}{d:Addr}{o:Obj}{kvs:List (Key×V)}
def NF(X:Cx)(d:Addr):Prop:=∀g u,X.H₀ d≠some (.frz g u)
end
end L2
namespace PySem.W
open PySem PySem.Calls PyProof.Rows PyProof.V PySem.Spec
def RawD(h:Heap)(d:Addr)(es:Array DictEntry)(ep:Nat):Prop:=∃o,h.get? d=some o/\o.ExactDict/\o.data=.dict es ep
theorem RawD.at(x:RawD h d es ep)(k:∀o,h.get? d=some o->h'.get? d=some o):RawD h' d es ep:=let ⟨o,e,r⟩:=x;⟨o,k o e,r⟩
abbrev RIt(h:Heap)(it d:Addr)(i n ep:Nat)(x0 ok ov:Value)(f:Bool):Prop:=h.get? it=some { cls:=.type "dict_itemiterator",dict:=none,data:=.fields #[x0,.bool f,.ref d,.int i 0,.int n 0,.int ep 0,ok,ov],slots:=#[] }
def RSt(h:Heap)(it d S:Addr)(i n ep:Nat):Prop:=∃g B D f,RIt h it d i n ep g B D f/\((g=.none/\f=false)\/∃a q,g=rawInt (a:Nat)/\h.get? a=some q/\a≠it/\a≠S)
theorem RSt.keep(x:RSt h it d S i n ep)(k:∀b o,b≠S->h.get? b=some o->h'.get? b=some o)(q:it≠S):RSt h' it d S i n ep:=by
 refine el42 x fun Y D I f e r=>⟨Y,D,I,f,k _ _ q e,r.imp id ?_⟩;rintro⟨a,B,J,O,U,g⟩;exact⟨a,B,J,k _ _ g O,U,g⟩
section
variable {prog:Program}{w:World}{A:Around}{E:Value->Shared->Prop}{s:Shared}
def QG(hh:A.handled=none)(a0:RSt s.heap it d S i n ep)(hS:S < s.heap.objs.size)(hD:RawD s.heap d es ep)(hn:es.size=n)(ay:∀e h',es[i]?=some e->RSt h' it d S (i+1) n ep->h'.get? s.heap.objs.size=some { cls:=.type "tuple",data:=.seq #[e.key,e.val] }->h'.objs.size=s.heap.objs.size+1->(∀b o,b≠it->s.heap.get? b=some o->h'.get? b=some o)->Q (some (.ref s.heap.objs.size)) { s with heap:=h' })(ax:es[i]?=none->∀h',(∀b o,b≠it->s.heap.get? b=some o->h'.get? b=some o)->Q none { s with heap:=h' }):wpAny (model prog w) A (pyNext (.ref it)) Q E s:=by
 obtain⟨hp,g,af,tk,ah⟩:=s;refine jK hD fun od d1 d2 d3=>el42 a0 fun a8 aw ov f ae a3=>?_;subst hn;have Y:Shared.TypeIs ⟨hp,g,af,tk,ah⟩ (.ref it) "dict_itemiterator":=⟨_,ae,rfl⟩;have az:Builtin.Dict_items.ownsTuple "dict_itemiterator" = true:=by decide
 delta pyNext
 refine AA (DK (BD Y CP (Aw CP Y PySem.F.entry_dict_itemiterator_next (AA (AC ?_)) (PySem.F.args_dict_itemiterator_next_1 _))));refine AA (AA (AA (Ci Y (AC (AA (wpAny_fieldsOf ae rfl ?_))))))
 (simp only[az,if_true];show wpAny _ _ (if (Value.ref d==Value.none)=true then _ else _) _ _ _;rw[AX (show ¬ ((Value.ref d==Value.none)=true) from AJ)])
 refine AA (AC (AA (Cd d1 d3 ?_)))
 (rw[AX (by simp)];refine AA (AC (AA (Cm d1 d3 ?_)));rw[AX (by simp)];apply AC)
 cases hx:es[i]? with
 |none =>
  (simp only[show ¬ ((i:Int) < 0) from by lia,if_false,Int.toNat_natCast,hx];refine AA (AA (Ci Y (AC ?_))))
  (show wpAny _ _ (setField (.ref it) 2 .none >>= _) _ _ _;refine AA (Ct ae rfl (by simp) ?_))
  (apply AA;simp only[newExc,newTuple];refine AA (Av ?_ (by size_fits)))
  refine AA (wpAny_of_eq (by first | rfl | (simp only[firstArgMember];rfl)) (Av ?_ (by size_fits)))
  (simp only[raiseNew];refine AA (wpAny_handled ?_);rw[show A.in1.handled=none from hh];refine AA (AC (wpAny_throw ?_)))
  (refine AA (B5 ⟨_,AK _ rfl,rfl⟩ isSubtype_stop ?_))
  exact AC (ax hx _ fun b o Z e=>(((BP ..).extBut.push _).push _) b o Z e)
 |some e =>
  have ao:=AG ae
  (simp only[show ¬ ((i:Int) < 0) from by lia,if_false,Int.toNat_natCast,hx];refine AA (AA (Ci Y (AC ?_))))
  (refine AA (DO Y ?_);show wpAny _ _ (setField (.ref it) 3 (rawInt ((i:Int)+1)) >>= _) _ _ ⟨hp,g,af,tk,ah⟩)
  refine AA (A5 ae (by simp) fun aq ab ag=>?_);have ag:=ag
  have ab:RIt aq it d (i+1) es.size ep a8 aw ov f:=by
   have z:((i+1:Nat):Int)=(i:Int)+1:=by lia
   (delta RIt;rw[z];simpa [rawInt] using ab)
  have ak:Shared.TypeIs ⟨aq,g,af,tk,ah⟩ (.ref it) "dict_itemiterator":=⟨_,ab,rfl⟩;refine AA (Az (AA (DO ak (AA (DO ak ?_)))))
  (delta Builtin.Dict_items.pairFromOwner;refine AA (Dd ?_))
  obtain⟨B,U⟩:∃B,B=aq.push { cls:=.type "tuple",data:=.seq #[e.key,e.val] }:=⟨_,rfl⟩;have J:=ag.1;have O :=U▸AD _ ab;have t2 :=U▸J▸AK _ rfl;have z2:B.objs.size=hp.objs.size+1:=by rw[U,Bt,J]
  have k2:∀b o,b≠it->hp.get? b=some o->B.get? b=some o:=fun b o Z au=>U▸AD _ (ag.extBut b o Z au);have aj:∀q:Heap,Heap.SameBut it B q->RSt q it d S (i+1) es.size ep->Q (some (.ref hp.objs.size)) ⟨q,g,af,tk,ah⟩:=fun q I r=>ay e q hx r (I.extBut _ _ (Au ao) t2) (by rw[I.1,z2]) fun b o Z au=>I.extBut b o Z (k2 b o Z au)
  (rw[<- U])
  clear U ab ak
  (apply AA;delta Builtin.Dict_items.ownedTupleIsFree;refine AA (Ar O rfl rfl ?_))
  rcases a3 with ⟨rfl,rfl⟩ | ⟨a,oa,rfl,ha,ar,a4⟩
  ·(apply AC;simp only[if_true])
   refine AA (Ar O rfl rfl (AA (Ar O rfl rfl (AA (A5 O (by simp) fun q e3 ai=>?_)))));refine AA (A5 e3 (by simp) fun h4 e4 a5=>?_);refine AA (A5 e4 (by simp) fun h5 e5 a7=>?_);refine AA (A5 e5 (by simp) fun h6 e6 s6=>?_);have I:=((Heap.SameBut.trans ai a5).trans a7).trans s6
   have a6 :=J▸I.extBut _ _ (Au ao) t2;have rs:RSt h6 it d S (i+1) es.size ep:=⟨_,_,_,_,e6,.inr ⟨_,_,rfl,a6,by rw[J];exact Au ao,by exact J▸Au hS⟩⟩;have D:=aj h6 I rs;rw[<- J] at D;exact AA (wpAny_letGo (AC (AC ⟨_,rfl,AC D⟩)))
  .have av:=k2 a oa ar ha
   have rs:∀q fl,Heap.SameBut it B q->RIt q it d (i+1) es.size ep (rawInt (a:Nat)) aw ov fl->RSt q it d S (i+1) es.size ep:=fun q fl I r=>⟨_,_,_,_,r,.inr ⟨a,oa,rfl,I.extBut a oa ar av,ar,a4⟩⟩
   (show wpAny _ _ (loadIfAlive ((a:Int).toNat) >>= _) _ _ _;rw[DI])
   (refine AA (kdx_alive av ?_);simp only[Option.isNone_some,Bool.false_eq_true,if_false];refine AA (Ar O rfl (x:=.bool f) rfl ?_))
   cases f with
   |true =>
    (rw[AX (show ¬ ((Value.bool true != Value.bool true)=true) from AJ)];apply AC;simp only[Bool.false_eq_true,if_false])
    have D:=aj B (Heap.SameBut.refl _ _) (rs B true (Heap.SameBut.refl _ _) O);rw[<- J] at D;exact AC (AC ⟨_,rfl,AC D⟩)
   |false =>
    (rw[AZ (show(Value.bool false != Value.bool true)=true from rfl)];refine AA (A5 O (by simp) fun q e3 ai=>?_))
    have D:=aj q ai (rs q true ai e3);rw[<- J] at D
    (apply AC;simp only[Bool.false_eq_true,if_false])
    exact AC (AC ⟨_,rfl,AC D⟩)
structure RawG(es:Array DictEntry)(lo:Addr)(h:Heap)(as:List Addr):Prop where
 rise:as.Pairwise (· < ·)
 above:∀a∈as,lo < a
 pairs:∀(j:Nat)(a:Addr),as[j]?=some a->∃e,es[j]?=some e/\h.get? a=some { cls:=.type "tuple",data:=.seq #[e.key,e.val] }
def RawG.there{lo}(g:RawG es lo h as)(B:a∈as):a < h.objs.size:=by
 obtain⟨j,hj⟩:=B0.mp B;exact zX (g.pairs j a hj) fun e _ q=>AG q
def RawG.snoc{lo}{p:Addr}(g:RawG es lo h as)(k:∀b o,lo < b->h.get? b=some o->h'.get? b=some o)(I:h.objs.size=p)(U:lo < p)(S:es[as.length]?=some e)(Y:h'.get? p=some { cls:=.type "tuple",data:=.seq #[e.key,e.val] }):RawG es lo h' (as++[p]) where
 rise:=List.pairwise_append.mpr ⟨g.rise,List.pairwise_singleton _ _,fun a q b D=>by
  cases AE.mp D
  exact I▸g.there q⟩
 above:=fun a q=>by
  rcases AS.mp q with q | q
  .exact g.above a q
  .grind
 pairs:=fun j a hj=>by
  by_cases h1:j < as.length
  .rw [CJ h1] at hj
   exact zX (g.pairs j a hj) fun B J O=>⟨B,J,k a _ (g.above a (Ae hj)) O⟩
  .by_cases h2:j=as.length
   .simp_all
   .grind
def Wj{ak:Heap}(hh:A.handled=none)(ai:S < I)(ar:d≠S)(aq:d≠I)(hz:es.size<=sizeLine)(hR:∀h' B g c as,(∀b o,b≠S->b≠I->ak.get? b=some o->h'.get? b=some o)->h'.get? S=some { cls:=.type "list",dict:=none,data:=.seq g c,slots:=#[] }->as.length=es.size->RawG es I h' as->g.toList=as.map Value.ref->R (.ok (.ret res)) { s with heap:=h',toks:=B }):
  ∀k h B c g as,as.length+k=es.size->RSt h I d S as.length es.size ep->RawD h d es ep->(∀b o,b≠S->b≠I->ak.get? b=some o->h.get? b=some o) ->
   h.get? S=some { cls:=.type "list",dict:=none,data:=.seq g c,slots:=#[] }->g.toList=as.map Value.ref->RawG es I h as->I < h.objs.size ->
   codeAny (model prog w) A (.builtin "list.extend.loop" ⟨[.ref S,.ref I,res],[]⟩) R { s with heap:=h,toks:=B }:=by
 have ae:=Ab ai;intro k
 induction k with
 |zero =>
  intro h B c g as hk Z O ab J Y D U
  (apply Bj CC)
  (refine AA (QG hh Z (AG J) O rfl (fun e h' hx=>?_) fun _ h' q=>?_))
  .grind
  .exact AC (hR h' B g c as (fun b o h1 h2 e=>q b o h2 (ab b o h1 h2 e)) (q S _ ae J) (by lia) ⟨D.rise,D.above,fun j a hj=>let ⟨e,q1,q2⟩:=D.pairs j a hj;⟨e,q1,q a _ (Au (D.above a (Ae hj))) q2⟩⟩ Y)
 |succ k ih =>
  intro h B c g as hk Z O ab J Y D U;have hsz:g.size=as.length:=by rw[<- A3,Y,AB]
  (apply Bj CC)
  (refine AA (QG hh Z (AG J) O rfl (fun e h' hx au ht ax q=>?_) fun hx=>?_))
  .have q:=q
   have ah:=q S _ ae J;have af:∀b o,b≠S->h'.get? b=some o->(h'.update S (Obj.mapSeq (·.push (Value.ref h.objs.size)))).get? b=some o:=fun b o av e=>(BO _ _ (Ne.symm av)).trans e;have ag:∀b o,b≠S->b≠I->h.get? b=some o->(h'.update S (Obj.mapSeq (·.push (Value.ref h.objs.size)))).get? b=some o:=fun b o n1 n2 e=>af b o n1 (q b o n2 e);have aj:=af _ _ (Au (AG J)) ht
   have ao:=D.snoc (fun b o lb e=>ag b o (Au (Nat.lt_trans ai lb)) (Au lb) e) rfl U hx aj;have hl:(as++[h.objs.size]).length=as.length+1 :=by grind
   have aw:=ih _ B _ (g.push (Value.ref h.objs.size)) (as++[h.objs.size]) (by rw[hl];lia) (hl▸au.keep af (Ne.symm ae)) (O.at fun o e=>ag d o ar aq e) (fun b o h1 h2 e=>ag b o h1 h2 (ab b o h1 h2 e)) (A6 _ ah rfl) (by grind) ao (Nat.lt_trans U (AG aj))
   (apply AA)
   exact Bx ah rfl (AC ⟨Bz B9 _,aw⟩) (by lia) (by grind)
  .grind
end
section
variable {prog:Program}{w:World}{A:Around}{E:Value->Shared->Prop}{s:Shared}{v d:Addr}{es:Array DictEntry}{ep:Nat}
def Wk(g:s.heap.IsItemsView v d)(D:RawD s.heap d es ep)(I:∀h':Heap,(∀b o,s.heap.get? b=some o->h'.get? b=some o)->h'.objs.size=s.heap.objs.size+1->RIt h' s.heap.objs.size d 0 es.size ep .none .none .none false->Q (.ref s.heap.objs.size) { s with heap:=h' }):
  wpAny (model prog w) A (pyIter (.ref v)) Q E s:=by
 refine jK (id g) fun Z O ab S=>jK D fun Y q U B=>?_;have J:Builtin.Dict_items.ownsTuple "dict_itemiterator" = true:=by decide
 refine wpAny_pyIter_slot g.typeIs PySem.F.slot_dict_items_iter (Aw PySem.F.slot_dict_items_iter g.typeIs PySem.F.entry_dict_items_iter ?_ (PySem.F.args_dict_items_iter_1 _))
 (refine AA (AC (AA (AA (Ar O S rfl (AC (AA ?_)))))))
 (refine AA (Cd q B (AA (Cm q B ?_)));simp only[J,if_true])
 refine Av (AC ⟨_,rfl,"dict_itemiterator",_,⟨_,AK _ rfl,rfl⟩,CP.lookup,?_⟩) (by simp only[sizeOk,Builtin.Dict_items.ownedTupleFields,List.size_toArray,List.length_append,List.length_cons,List.length_nil,sizeLine_eq];lia)
 exact I _ (fun b o e=>AD _ e) (Bt _ _) (by
  have e:=AK (o:={ cls:=.type "dict_itemiterator",data:=.fields #[.none,.bool false,.ref d,.int 0 0,.int es.size 0,.int ep 0,.none,.none] }) s.heap rfl
  simpa [RIt,rawInt,Builtin.Dict_items.ownedTupleFields] using e)
def Zb(hh:A.handled=none)(Y:s.heap.IsItemsView v d)(O:RawD s.heap d es ep)(aq:S≠v)(af:d≠S)(hS:s.heap.get? S=some { cls:=.type "list",data:=.seq #[] ah })(hz:es.size<=sizeLine)(hR:∀h' B D c as,(∀b o,b≠S->s.heap.get? b=some o->h'.get? b=some o)->h'.get? S=some { cls:=.type "list",dict:=none,data:=.seq D c,slots:=#[] }->as.length=es.size->RawG es s.heap.objs.size h' as->D.toList=as.map Value.ref->R (.ok (.ret res)) { s with heap:=h',toks:=B }):
  wpAny (model prog w) A.in1 (Builtin.List.listExtendWith (.ref S) (.ref v) res) (fun ak s'=>match ak with | .done f=>R (.ok f) s' | .again Z=>Z.quiet=true/\codeAny (model prog w) A Z R s') (fun e s'=>R (.error e) s') s:=by
 have ae:=AG hS;have au:=let ⟨_,e,_⟩:=O;AG e
 delta Builtin.List.listExtendWith
 refine AA (DN Y.typeIs ?_);have ai:Builtin.List.listSameRef (.ref S) (.ref v)=false:=by simp[Builtin.List.listSameRef,aq]
 have aj:(Value.type "dict_items" == Value.type "list")=false:=by decide
 have f3:(Value.type "dict_items" == Value.type "tuple")=false:=by decide
 (simp only[ai,aj,f3,Bool.or_false,Bool.false_eq_true,if_false];refine AA (Wk Y O fun h1 I z1 r1=>?_))
 have ag:∀h J B,(∀b o,b≠S->h1.get? b=some o->h.get? b=some o)->h.get? S=some { cls:=.type "list",data:=.seq #[] J }->codeAny (model prog w) A (.builtin "list.extend.loop" ⟨[.ref S,.ref s.heap.objs.size,res],[]⟩) R { s with heap:=h,toks:=B }:=by
  intro h J B U q;have hI:=U _ _ (Au ae) r1;refine Wj hh ae af (Ab au) hz (fun h' av D c as kk ao hl hG ar=>hR h' av D c as (fun b o g e=>kk b o g (Ab (AG e)) e) ao hl hG ar) es.size h B J #[] [] (BU _) ⟨_,_,_,_,hI,.inl ⟨rfl,rfl⟩⟩ (O.at fun o e=>U d o af (I d o e)) (fun b o g _ e=>U b o g (I b o e)) q rfl ⟨.nil,(fun _ z=>nomatch z),(fun j a z=>by simp at z)⟩ (AG hI)
 have q:=I _ _ hS;refine AA (Az (kdx_hint (let ⟨o,ho,hc,_⟩:=Y;⟨o,I _ _ ho,hc⟩) ?_));refine wpAny_ite_split (fun _=>?_) (fun _=>AC ⟨Bz B9 _,ag _ ah _ (fun b o _ e=>e) q⟩)
 (refine AA (Cb (AA (AA (Bx q rfl ?_)))))
 have ab:=A6 (Obj.mapSeq (·.push Value.none)) q rfl;refine Bx ab rfl (AC ⟨Bz B9 _,ag _ _ _ (fun b o g e=>?_) (A6 (Obj.mapSeq (·.pop)) ab rfl)⟩);exact(BO _ _ (Ne.symm g)).trans ((BO _ _ (Ne.symm g)).trans e)
def RawG.low{lo}(g:RawG es lo h as)(B:D<=lo):RawG es D h as:=⟨g.rise,fun a q=>Aj B (g.above a q),g.pairs⟩
def QH(hh:A.handled=none)(Z:s.heap.IsItemsView v d)(Y:RawD s.heap d es ep)(hz:es.size<=sizeLine)(hR:∀(h':Heap)(q:Nat)(as:List Addr),(∀b o,s.heap.get? b=some o->h'.get? b=some o)->as.length=es.size->RawG es s.heap.objs.size h' as->R (as.map Value.ref) { s with heap:=h',toks:=q }):wpAny (model prog w) A (collect (.ref v)) R E s:=by
 have ak:=let ⟨_,S,_⟩:=Z;AG S
 have aj:=let ⟨_,e,_⟩:=Y;AG e
 (refine AA (wpAny_runValue (Bj entry_proto_collect' ?_)))
 (refine AA (Av (AC ⟨Bz PySem.F.plain_list_iadd _,Bj entry_list_iadd' ?_⟩)))
 have U:∀b o,s.heap.get? b=some o->(s.heap.push { cls:=.type "list",data:=.seq ([]:List Value).toArray }).get? b=some o:=fun b o e=>AD _ e;have ah:(s.heap.push { cls:=.type "list",data:=.seq ([]:List Value).toArray }).get? s.heap.objs.size=some { cls:=.type "list",data:=.seq #[] }:=AK _ rfl
 have ao:=Zb (prog:=prog) (w:=w) (s:={ s with heap:=s.heap.push { cls:=.type "list",data:=.seq ([]:List Value).toArray } })
  (R:=fun ae s'=>∃h' q g c as,ae=.ok (.ret (.ref s.heap.objs.size))/\s'={ s with heap:=h',toks:=q }/\(∀b o,s.heap.get? b=some o->h'.get? b=some o)/\h'.get? s.heap.objs.size=some { cls:=.type "list",dict:=none,data:=.seq g c,slots:=#[] }/\as.length=es.size/\RawG es s.heap.objs.size h' as/\g.toList=as.map Value.ref)
  hh (let ⟨o,S,x⟩:=Z;⟨o,U _ _ S,x⟩) (Y.at fun o e=>U d o e) (Au ak) (Ab aj) ah hz fun h' q g c as hk ag hl hG ai=>⟨h',q,g,c,as,rfl,rfl,fun b o e=>hk b o (Ab (AG e)) (U b o e),ag,hl,hG.low (by simp_all),ai⟩
 refine BM ao (fun af s' x=>?_) fun e s' x=>?_
 .have ab:∀h' q g c as,(∀b o,s.heap.get? b=some o->h'.get? b=some o)->h'.get? s.heap.objs.size=some { cls:=.type "list",dict:=none,data:=.seq g c,slots:=#[] }->as.length=es.size->RawG es s.heap.objs.size h' as->g.toList=as.map Value.ref->R g.toList { s with heap:=h',toks:=q }:=fun h' q g c as B _ I J O=>O▸hR h' q as B I J
  cases af with
  |done f =>
   obtain⟨h',q,g,c,as,e,rfl,B,D,I,J,O⟩:=x;cases e
   (exact AA (wpAny_load D (AC (ab h' q g c as B D I J O))))
  |again c1 =>
   refine⟨x.1,DP x.2 ?_⟩;rintro ae aq ⟨h',q,g,c,as,rfl,rfl,B,D,I,J,O⟩
   (exact AA (wpAny_load D (AC (ab h' q g c as B D I J O))))
 .lia
end
end PySem.W
namespace L2
open PySem PySem.W PyProof.Rows
section
variable {α:Type}{as:List Addr}{ps:List α}
def zip_at(nd:as.Nodup){j:Nat}(g:as[j]?=some a)(B:ps[j]?=some p):(as.zip ps).find? (fun q=>q.1==a)=some (a,p):=by
 induction as generalizing ps j with
 |nil=>cases g
 |cons x as D =>
  cases ps with
  |nil=>cases B
  |cons y ps =>
   have nd:=Ba.mp nd;rw[Cy,BL]
   cases j with
   |zero=>cases g;cases B;simp
   |succ j =>
    exact(show(x==a)=false from DU fun e=>nd.1 (e▸Ae g))▸D nd.2 g B
def zip_of(h:(as.zip ps).find? (fun q=>q.1==b)=some q):∃j:Nat,as[j]?=some b/\ps[j]?=some q.2:=by
 have h0:=List.find?_some h;obtain⟨j,hj⟩:=B0.mp (CD h);rw[List.getElem?_zip_eq_some] at hj;exact⟨j,by exact(eq_of_beq h0)▸hj.1,hj.2⟩
end
inductive TPs(H:Hp):List Addr->List (List Key×V)->Prop
 |nil:TPs H [] []
 |cons {a b:Addr} {k:List Key} {v:V} {as:List Addr} {kvs:List (List Key×V)} (h1:H a=some (.tup [.ref b,v])) (h2:H b=some (.tup (k.map kV))) (r:TPs H as kvs):TPs H (a::as) ((k,v)::kvs)
def mkT(as:List Addr)(ps:List (Addr×V)):Addr->Option (List V):=fun b=>((as.zip ps).find? fun p=>p.1==b).map fun p=>[.ref p.2.1,p.2.2]
theorem VT: ∀{as}{kvs},as.length=kvs.length->(∀(j:Nat)a p,as[j]?=some a->kvs[j]?=some p->∃b,H a=some (.tup [.ref b,p.2])/\H b=some (.tup (p.1.map kV)))->TPs H as kvs
 |[],[],_,_=>.nil
 |[],_::_,h,_=>nomatch h
 |_::_,[],h,_=>nomatch h
 |a::as,p::kvs,h,k=>let ⟨b,q,B⟩:=k 0 a p rfl rfl;.cons q B (VT (Ay h) fun j g D h1 h2=>k (j+1) g D h1 h2)
def kt_raw(r:KT H kvs xs):∃ps:List (Addr×V),ps.length=kvs.length/\∀j:Nat,∀p∈ps[j]?,∃k u,kvs[j]?=some (k,p.2)/\xs[j]?=some (k,p.1,u)/\H p.1=some (.tup (k.map kV))/\RelV p.2 u:=by
 induction r with
 |nil=>exact⟨[],rfl,fun j p h=>by cases h⟩
 |@cons p q l1 l2 h r B =>
  obtain⟨ps,e,f⟩:=B;obtain⟨k,v⟩:=p;obtain⟨J,b,u⟩:=q;obtain⟨rfl,D,I⟩:=h;refine⟨(b,v)::ps,by rw[AV,AV,e],fun j p g=>?_⟩
  cases j with
  |zero=>cases g;exact⟨k,u,rfl,rfl,D,I⟩
  |succ j=>exact f j p g
section
variable {X:Cx}
def Q4 d(q:(d==sysModules)=false):MeetsIn prog w (Builtin.«dict.items» ⟨[.ref d],[]⟩) (fun _ R s=>s.TypeIs (.ref d) "dict"/\R (.ok (.ret (.ref s.heap.objs.size))) { s with heap:=s.heap.push { cls:=.type "dict_items",data:=.fields #[.ref d] } }) :=
 .of_wp fun A R s B=>yF B fun g h=> by
  (apply AA;refine AA (DX g ?_))
  (apply AC;delta Builtin.Dict.showsAll)
  (exact(AX (q▸AJ))▸AA (AC (AA (Av (AC ⟨_,rfl,h⟩)))))
def rItemsT:V->List V->Hp->VK->Prop:=fun x vs H Q=>∃d kvs,x=.ref d/\vs=[]/\H d=some (.dT kvs)/\∀v,H v=none->Q (.ref v) (upd H v (.ext (wU v d)))
def K4:MtR X "dict.items" rItemsT:=by
 intro pins s σ H x xs v Y Q I S rv h;obtain⟨d,kvs,rfl,rfl,O,q⟩:=h;cases S;cases rv;obtain⟨z,J,ys,U,g⟩:=Gc I.hok O;refine call_meetsIn F.slot_dict_items g.typeIs F.entry_dict_items (F.args_dict_items_1 _) (Q4 d J) ⟨g.typeIs,⟨.ref s.heap.objs.size,_,I.laid (t':=s.toks) (o:=.ext (wU s.heap.objs.size d)) (fun b o e=>AD _ e) (AH _) ⟨⟨_,AK _ rfl,rfl,rfl⟩,⟨_,AK _ rfl⟩,?_⟩,rfl,q _ (I.hok.fresh (AH _))⟩⟩
 rintro h1 h2 ⟨o,B,D⟩ e;exact⟨o,e o B,D⟩
def lI(hc:X.calm=true):CallR X (.builtin "sorted") (fun xs H Q=>∃v d kvs lt,xs=[.ref v]/\H v=some (.ext (wU v d))/\H d=some (.dT kvs)/\kvs.length < 64 /\
  ∀as H1,Same H H1->TPs H1 as kvs->(∀a∈as,H a=none)->(∀a,H a=none->H1 a≠none->a∈as)->Srt X H1 (List.map V.ref as) lt/\∀p,H1 p=none->Q (.ref p) (upd H1 p (.lst (dM lt (List.map V.ref as))))):=by
 intro pins s σ H xs ax Q I r h;obtain⟨v,d,kvs,lt,rfl,hv,ar,aw,hq⟩:=h;obtain⟨u,rfl,rfl⟩:=r.one;obtain⟨z,hS,ys,ak,dd⟩:=Gc I.hok ar;refine Vh (I.hok v _ hv) fun au _ _=>el36 dd fun od es ep d1 d2 d3 d4 _ _=>zX (kt_raw ak) fun ps pl pf=>?_;have ag:es.size=kvs.length:=by rw[size_of_entries d4,(Paired.length ak)]
 refine DE kind_sorted plain_sorted entry_sorted (args_sorted1 _) (?_:wpAny _ _ (Builtin.«sorted» _) _ _ _);refine AA (AC (AA (QH (by simp[I.ok.hd hc]) au ⟨od,d1,d2,d3⟩ (by rwa [ag]) fun h' tk as av ah G=>?_)));have nd:=G.rise.imp fun h=>Ab h;have ai:=ah.trans ag;have J:∀a∈as,s.heap.objs.size<=a:=fun a Y=>Bc (G.above a Y)
 have B:∀b xs,mkT as ps b=some xs->∃(j:Nat)(p:Addr×V),as[j]?=some b/\ps[j]?=some p/\xs=[.ref p.1,p.2]:=fun b xs e=>by
  delta mkT at e
  cases y:(as.zip ps).find? fun p=>p.1==b with
  |none=>rw[y] at e;cases e
  |some q =>
   rw[y] at e;cases e;exact zX (zip_of y) fun j g O=>⟨j,q.2,g,O,rfl⟩
 have Z:Inv X pins σ (layT H (mkT as ps)) { s with heap:=h',toks:=tk }:=I.tups av fun b xs e=>by
  obtain⟨j,p,g,O,rfl⟩:=B b xs e;refine ZS (pf j p O) fun k u S ab f3 ae=>zX (G.pairs j b g) fun en af ao=>?_;have aq:es[j]?=some (entryOfKey (tupleKind (sX X.prog X.w)) (k,p.1,u)):=by rw[entry_at d4,ab];rfl
  rw[aq] at af;cases af;exact⟨J b (Ae g),y0 2 rfl,[.ref p.1,u],.cons rfl (.cons ae .nil),⟨_,ao,rfl,⟨_,rfl⟩,rfl⟩⟩
 have U:∀b xs,mkT as ps b=some xs->H b=none:=fun b xs e=>mG (B b xs e) fun j p g _=>I.hok.fresh (J b (Ae g))
 obtain⟨hs,q⟩:=hq as (layT H (mkT as ps)) (fun b o e=>pK U e) (VT ai fun j a p h1 h2=>by
   obtain⟨D,aj⟩:∃D,ps[j]?=some D:=⟨ps[j]'(pl▸(Ap.1 h2).1),AO _⟩;refine ZS (pf j D aj) fun k u S ab f3 ae=>?_;rw[h2] at S;cases S
   exact⟨D.1,uG (by delta mkT;rw[zip_at nd h1 aj];rfl),pK U f3⟩) (fun a Y=>I.hok.fresh (J a Y)) fun a n1 n2=>by
  cases y:mkT as ps a with
  |none=>rw[mK y] at n2;exact absurd n1 n2
  |some xs=>exact mG (B a xs y) fun j p g _=>Ae g
 have rv:Vals (as.map V.ref) (as.map Value.ref):=by
  clear nd ai J Z U hs q ah G hq B
  induction as with
  |nil=>exact .nil
  |cons a as ih=>exact .cons rfl ih
 exact cP (AH _) Z rv (by grind) hs fun p s' hp I'=>⟨_,rfl,.ref p,_,I',rfl,q p hp⟩
end
end L2
namespace L2
open PySem PySem.W PySem.Spec PyProof.Rows
def iG(kvs B:List (List Key×V)):List (List Key×V):=B.foldl (fun q g=>iV q g.1 g.2) kvs
section
variable {X:Cx}
def op_eqTK(O:X.A.units < cLine):OpR X (compareOp .Eq) (fun x y H Q=>∃(a b:Addr)(ks js:List Key),x=.ref a/\y=.ref b/\H a=some (.tup (ks.map kV))/\H b=some (.tup (js.map kV))/\Q (.bl (decide (ks=js))) H):=by
 intro pins s σ H x y v u Q I S U h;obtain⟨a,b,ks,js,rfl,rfl,D,J,q⟩:=h;cases (show v=Value.ref a from S);cases (show u=Value.ref b from U);have g:=kU I.hok D;have B:=kU I.hok J;exact wpAny_richCompare_same_room (op:=.Eq) (IsTupleKey.typeIs g) (IsTupleKey.typeIs B) CY (Aw CY (IsTupleKey.typeIs g) F.entry_tuple_eq (tuple_eq_tree g B ⟨_,rfl,(fun e=>nomatch e),⟨.bl (decide (ks=js)),H,I,rfl,q⟩⟩) (F.args_tuple_eq_2 _ _)) O
def keyB(k:Key):Value->Bool
 |.none=>decide (k=.inl none)
 |.int i _=>decide (k=.inl (some i))
 |.str z _=>decide (k=.inr z)
 |_=>false
def bI(k:Key)(ks:List Key):Nat:=ks.countP fun j=>decide (j=k)
def Wn:V->List V->Hp->VK->Prop:=fun x vs H Q=>∃(l:Addr)(ks:List Key)(k:Key),x=.ref l/\vs=[kV k]/\H l=some (.lst (ks.map kV))/\Q (.int (bI k ks:Nat)) H
def JU{j k:Key}{y:Value}(h:RelV (kV j) y):keyB k y=decide (j=k):=by
 have c:∀{p q:Prop}[Decidable p][Decidable q],(p↔q)->decide p=decide q:=fun h=>decide_eq_decide.2 h
 rcases j with (_ | i) | z
 .cases (show y=Value.none from h)
  exact c ⟨fun e=>e.symm,fun e=>e.symm⟩
 .obtain ⟨t,rfl⟩:=(show ∃t,y=Value.int i t from h)
  exact c ⟨fun e=>e.symm,fun e=>e.symm⟩
 .obtain ⟨t,rfl⟩:=(show ∃t,y=Value.str z t from h)
  exact c ⟨fun e=>e.symm,fun e=>e.symm⟩
def Y8{A:Around}{s:Shared}{j k:Key}{y x:Value}(g:RelV (kV j) y)(q:RelV (kV k) x):SeqAt.EqAt A s y x (keyB k y):=by
 intro prog w E Q h;rw[JU g] at h;exact(sX prog w).eqBool (sC g) (sC q) h
def ZW{k:Key}:∀{ks:List Key}{g:List Value},Vals (ks.map kV) g->g.countP (keyB k)=bI k ks:=by
 intro ks
 induction ks with
 |nil=>intro g r;cases r;rfl
 |cons j ks q =>
  intro g r;rw[BA] at r
  cases r with
  |@cons _ u _ g h r =>
   show _=(j::ks).countP fun j=>decide (j=k);rw[List.countP_cons,List.countP_cons,q r,JU h]
   rfl
def VP{xs:List V}{g:List Value}(r:Vals xs g){u:Value}(h:u∈g):∃x∈xs,RelV x u:=by
 induction r with
 |nil=>cases h
 |cons a _ q =>
  rcases Ai.mp h with rfl | h
  .exact ⟨_,AF,a⟩
  .obtain ⟨x,h1,h2⟩:=q h
   exact⟨x,AL _ h1,h2⟩
def Yf:MtR X "list.count" Wn:=by
 intro pins s σ H x vs v Z Q I S rv h;obtain⟨l,ks,k,rfl,rfl,g,q⟩:=h;cases (show v=Value.ref l from S);obtain⟨u,rfl,O⟩:=rv.one;obtain⟨z,J,n,r,Y,e⟩:=I.lstM g;refine B2 F.slot_list_count ⟨_,e,rfl⟩ F.entry_list_count (F.args_list_count_2 _ _) (SeqAt.list_countAt l J.toArray n none #[] u (keyB k)) ⟨e,fun y D=>?_,⟨.int (bI k ks:Nat),H,I.tok _,⟨s.toks,?_⟩,q⟩⟩
 .obtain ⟨x',B,U⟩:=VP r (u:=y) (by simpa using D)
  obtain⟨j,_,rfl⟩:=AU.mp B;exact Y8 U O
 .rw [List.toList_toArray,ZW r]
end
end L2
namespace CL
open PySem PySem.Spec L2
open PyProof.Rows hiding St
inductive PV where
 |non | bl (b:Bool) | int (i:Int) | str (x:Str) | ty (n:String) | tup (xs:List PV) | kt (xs:List PV) | fz (xs:List PV) | vw (d:Addr) | ref (a:Addr)
def imm:HO->Bool
 |.tup _=>true
 |.frz _ (.dK _)=>false
 |.frz _ (.dT _)=>false
 |.frz _ _=>true
 |.ext _=>true
 |_=>false
def Imm(H H':Hp):Prop:=∀a o,imm o=true->H a=some o->H' a=some o
def Imm.new(g:H p=none)o:Imm H (upd H p o):=fun a u _ e=>by
 rwa [dQ (kK e g)]
def Imm.mut(g:H p=some u)(q:imm u=false)o:Imm H (upd H p o):=fun a v i e=>by
 have:a≠p:=by
  intro z;subst z;rw[g] at e;cases e;rw[q] at i;cases i
 rwa [dQ this]
def Fz(K:De)(H:Hp)(a:Addr)(xs:List V):Prop :=
 (∃o,H a=some (.frz o (.lst xs))) \/
  ∃(o:Obj)(g:Array Value)(n:Nat),K.lookup a=some o/\o.cls=.type "list"/\o.dict=none/\o.data=.seq g n/\g.size<=sizeLine/\Vals xs g.toList
def Fz.sq{K}(h:Fz K H a xs):SqL K H a xs:=by
 rcases h with ⟨o,h⟩ | h
 .exact .inl (.inr ⟨o,h⟩)
 .exact .inr h
def Fz.imm{K}(h:Fz K H a xs)(k:Imm H H'):Fz K H' a xs:=by
 rcases h with ⟨o,h⟩ | h
 .exact .inl ⟨o,k _ _ rfl h⟩
 .exact .inr h
def SqT.imm{K}(h:SqT K H a xs)(k:Imm H H'):SqT K H' a xs:=by
 rcases h with (h | ⟨o,h⟩) | h
 .exact .inl (.inl (k _ _ rfl h))
 .exact .inl (.inr ⟨o,k _ _ rfl h⟩)
 .exact .inr h
mutual
inductive Rep(K:De)(H:Hp):V->PV->Prop
 |non:Rep K H .non .non
 |bl (b:Bool):Rep K H (.bl b) (.bl b)
 |int (i:Int):Rep K H (.int i) (.int i)
 |str (x:Str):Rep K H (.str x) (.str x)
 |ty (n:String):Rep K H (.ty n) (.ty n)
 |ref (a:Addr):Rep K H (.ref a) (.ref a)
 |tup {a:Addr} {vs:List V} {ts:List PV} (h:H a=some (.tup vs)) (r:Reps K H vs ts):Rep K H (.ref a) (.tup ts)
 |kt {a:Addr} {vs:List V} {ts:List PV} (h:SqT K H a vs) (r:Reps K H vs ts):Rep K H (.ref a) (.kt ts)
 |fz {a:Addr} {vs:List V} {ts:List PV} (h:Fz K H a vs) (r:Reps K H vs ts):Rep K H (.ref a) (.fz ts)
 |vw {a d:Addr} (h:H a=some (.ext (wU a d))):Rep K H (.ref a) (.vw d)
inductive Reps(K:De)(H:Hp):List V->List PV->Prop
 |nil:Reps K H [] []
 |cons {v:V} {t:PV} {vs:List V} {ts:List PV} (h:Rep K H v t) (r:Reps K H vs ts):Reps K H (v::vs) (t::ts)
end
section
variable {K:De}{H H' H1 H2:Hp}
mutual
theorem Rep.imm{v:V}{t:PV}(k:Imm H H'):Rep K H v t->Rep K H' v t
 |.non=>.non
 |.bl b=>.bl b
 |.int i=>.int i
 |.str x=>.str x
 |.ty n=>.ty n
 |.ref a=>.ref a
 |.tup h r=>.tup (k _ _ rfl h) (Reps.imm k r)
 |.kt h r=>.kt (SqT.imm h k) (Reps.imm k r)
 |.fz h r=>.fz (Fz.imm h k) (Reps.imm k r)
 |.vw h=>.vw (k _ _ rfl h)
theorem Reps.imm{vs:List V}{ts:List PV}(k:Imm H H'):Reps K H vs ts->Reps K H' vs ts
 |.nil=>.nil
 |.cons h r=>.cons (Rep.imm k h) (Reps.imm k r)
end
theorem Reps.len: Reps K H vs ts->vs.length=ts.length
 |.nil=>rfl
 |.cons _ r=>Bk (· + 1) r.len
theorem Reps.get{i:Nat}: Reps K H vs ts->ts[i]?=some t->∃v,vs[i]?=some v/\Rep K H v t
 |.nil,e=>by cases e
 |.cons h r,e=>by
  cases i with
  |zero=>cases e;exact⟨_,rfl,h⟩
  |succ i=>exact r.get e
theorem Reps.append: Reps K H vs ts->Reps K H g ss->Reps K H (vs++g) (ts++ss)
 |.nil,r=>r
 |.cons h t,r=>.cons h (t.append r)
theorem Reps.take: ∀n,Reps K H vs ts->Reps K H (vs.take n) (ts.take n)
 |0,_=>.nil
 |_+1,.nil=>.nil
 |n+1,.cons h r=>.cons h (r.take n)
theorem Reps.drop: ∀n,Reps K H vs ts->Reps K H (vs.drop n) (ts.drop n)
 |0,r=>r
 |_+1,.nil=>.nil
 |n+1,.cons _ r=>r.drop n
theorem Reps.set(h:Rep K H v t):∀n,Reps K H vs ts->Reps K H (vs.set n v) (ts.set n t)
 |_,.nil=>.nil
 |0,.cons _ r=>.cons h r
 |n+1,.cons g r=>.cons g (r.set h n)
def Reps.reverse(r:Reps K H vs ts):Reps K H vs.reverse ts.reverse:=by
 induction vs generalizing ts with
 |nil=>cases r;exact .nil
 |cons v vs g =>
  cases r with
  |cons h r=>rw[DH,DH];exact(g r).append (.cons h .nil)
end
inductive CO where
 |lst (xs:List PV)
 |dK (kvs:List (Key×PV))
 |fK (kvs:List (Key×PV))
 |dT (kvs:List (List Key×PV))
 |fT (kvs:List (List Key×PV))
 |dP (kvs:List (List (List Key)×PV))
 |ins (c dx:Addr) (fs:List (Str×PV))
abbrev CH:=Addr->Option CO
def gQ(C:CH)(a:Addr)(o:CO):CH:=fun b=>if b=a then some o else C b
def jQ: gQ C a o a=some o:=AZ rfl
def wQ(h:b≠a):gQ C a o b=C b:=AX h
abbrev FP(K:De)(H:Hp):List (κ×V)->List (κ×PV)->Prop:=Paired fun p q=>p.1=q.1/\Rep K H p.2 q.2
abbrev KP(K:De)(H:Hp):List (Key×V)->List (Key×PV)->Prop:=Paired fun p q=>p.1=q.1/\Rep K H p.2 q.2
def ORel(K:De)(H:Hp)(a:Addr):CO->Prop
 |.lst ts=>∃vs,H a=some (.lst vs)/\Reps K H vs ts
 |.dK kvs=>∃vs,H a=some (.dK vs)/\KP K H vs kvs
 |.fK kvs=>∃o vs,H a=some (.frz o (.dK vs))/\KP K H vs kvs
 |.dT kvs=>∃vs,H a=some (.dT vs)/\FP K H vs kvs
 |.fT kvs=>∃o vs,H a=some (.frz o (.dT vs))/\FP K H vs kvs
 |.dP kvs=>∃vs,H a=some (.dP vs)/\FP K H vs kvs
 |.ins c dx fs=>∃g,H a=some (.ins c dx g)/\FP K H g fs
def HRel(K:De)(H:Hp)(C:CH):Prop:=∀a o,C a=some o->ORel K H a o
def still:Option CO->Bool
 |none=>true
 |some (.fK _)=>true
 |some (.fT _)=>true
 |_=>false
def Fw(H:Hp)(C:CH)(H':Hp)(C':CH):Prop:=∀a,still (C a)=true->H a≠none->C' a=C a/\H' a=H a
section
variable {K:De}{H H' H1 H2:Hp}{C C' C1 C2:CH}
def Fw.refl:Fw H C H C:=fun _ _ _=>⟨rfl,rfl⟩
theorem Fw.trans(f:Fw H C H1 C1)(g:Fw H1 C1 H2 C2):Fw H C H2 C2:=fun a h n=>by
 obtain⟨c,e⟩:=f a h n;obtain⟨q,B⟩:=g a (by rwa [c]) (by rwa [e]);exact⟨q.trans c,B.trans e⟩
def ORel.mut(h:ORel K H a o):∃u,H a=some u/\imm u=false:=by
 cases o with
 |lst ts=>obtain⟨vs,e,_⟩:=h;exact⟨_,e,rfl⟩
 |dK ts=>obtain⟨vs,e,_⟩:=h;exact⟨_,e,rfl⟩
 |fK ts=>obtain⟨o,vs,e,_⟩:=h;exact⟨_,e,rfl⟩
 |dT ts=>obtain⟨vs,e,_⟩:=h;exact⟨_,e,rfl⟩
 |fT ts=>obtain⟨o,vs,e,_⟩:=h;exact⟨_,e,rfl⟩
 |dP ts=>obtain⟨vs,e,_⟩:=h;exact⟨_,e,rfl⟩
 |ins c dx fs=>obtain⟨vs,e,_⟩:=h;exact⟨_,e,rfl⟩
def HRel.hid(h:HRel K H C)(i:imm o=true)(e:H a=some o):C a=none:=by
 cases c:C a with
 |none=>rfl
 |some u =>
  obtain⟨v,g,q⟩:=((h a u c).mut);rw[e] at g;cases g;rw[i] at q;cases q
def HRel.fresh(h:HRel K H C)(e:H a=none):C a=none:=by
 cases c:C a with
 |none=>rfl
 |some u =>
  obtain⟨v,g,q⟩:=((h a u c).mut);rw[e] at g;cases g
def Fw.imm(f:Fw H C H' C')(h:HRel K H C):Imm H H':=fun a o i e=>by
 rw[(f a (by rw[h.hid i e];rfl) (by lia)).2];exact e
def ORel.imm(h:ORel K H a o)(k:Imm H H')(e:H' a=H a):ORel K H' a o:=by
 cases o with
 |lst ts=>obtain⟨vs,q,r⟩:=h;exact⟨vs,e.trans q,r.imm k⟩
 |dK ts=>obtain⟨vs,q,r⟩:=h;exact⟨vs,e.trans q,Paired.mapP r fun _ _ z=>⟨z.1,z.2.imm k⟩⟩
 |fK ts=>obtain⟨o,vs,q,r⟩:=h;exact⟨o,vs,e.trans q,Paired.mapP r fun _ _ z=>⟨z.1,z.2.imm k⟩⟩
 |dT ts=>obtain⟨vs,q,r⟩:=h;exact⟨vs,e.trans q,Paired.mapP r fun _ _ z=>⟨z.1,z.2.imm k⟩⟩
 |fT ts=>obtain⟨o,vs,q,r⟩:=h;exact⟨o,vs,e.trans q,Paired.mapP r fun _ _ z=>⟨z.1,z.2.imm k⟩⟩
 |dP ts=>obtain⟨vs,q,r⟩:=h;exact⟨vs,e.trans q,Paired.mapP r fun _ _ z=>⟨z.1,z.2.imm k⟩⟩
 |ins c dx fs=>obtain⟨vs,q,r⟩:=h;exact⟨vs,e.trans q,Paired.mapP r fun _ _ z=>⟨z.1,z.2.imm k⟩⟩
def HRel.new(h:HRel K H C)(g:H p=none)o:HRel K (upd H p o) C:=fun a u c=>zX ((h a u c).mut) fun v e _=>(h a u c).imm (Imm.new g o) (dQ (kK e g))
def Fw.new(g:H p=none)o:Fw H C (upd H p o) C:=fun a c n=>⟨rfl,dQ fun z=>n (z▸g)⟩
def HRel.lay(h:HRel K H C)(g:H p=none)(r:ORel K (upd H p o) p u):HRel K (upd H p o) (gQ C p u):=fun a v c=>by
 by_cases e:a=p
 .subst e;rw[jQ] at c;cases c;exact r
 .rw [wQ e] at c;exact h.new g o a v c
def Fw.lay(g:H p=none)o u:Fw H C (upd H p o) (gQ C p u):=fun a c n=>by
 have e:a≠p:=fun z=>n (z▸g);exact⟨wQ e,dQ e⟩
theorem HRel.put(h:HRel K H C)(g:H p=some q)(hi:imm q=false)(r:ORel K (upd H p o) p u):HRel K (upd H p o) (gQ C p u):=fun a v c=>by
 by_cases e:a=p
 .subst e;rw[jQ] at c;cases c;exact r
 .rw [wQ e] at c;exact(h a v c).imm (Imm.mut g hi o) (dQ e)
theorem Fw.put(g:C p=some q)o u(hs:still (some q)=false:=by rfl):Fw H C (upd H p o) (gQ C p u):=fun a c n=>by
 have e:a≠p:=fun z=>by subst z;rw[g,hs] at c;cases c
 exact⟨wQ e,dQ e⟩
end
abbrev CSt:=List (Option PV)
abbrev K1:=PV->CH->Prop
def RepO(K:De)(H:Hp):Option V->Option PV->Prop
 |_,none=>True
 |some v,some t=>Rep K H v t
 |none,some _=>False
def SRel(K:De)(H:Hp):St->CSt->Prop:=Paired (RepO K H)
section
variable {K:De}{H H':Hp}{C C':CH}
def RepO.imm(k:Imm H H')(h:RepO K H v t):RepO K H' v t:=by
 cases t with
 |none=>cases v<;>trivial
 |some t=>cases v with
  |none=>exact h
  |some v=>exact Rep.imm k h
def SRel.imm(s:SRel K H σ g)(k:Imm H H'):SRel K H' σ g:=Paired.mapP s fun _ _=>RepO.imm k
def SRel.get{i:Nat}(s:SRel K H σ q)(e:q[i]?=some (some t)):∃v,σ[i]?=some (some v)/\Rep K H v t:=by
 induction s generalizing i with
 |nil=>cases e
 |@cons a b B D h r g =>
  cases i with
  |zero =>
   cases e
   cases a with
   |none=>exact h.elim
   |some v=>exact⟨v,rfl,h⟩
  |succ i=>exact g e
def SRel.set(s:SRel K H σ q)(h:Rep K H v t)i:SRel K H (σ.set i (some v)) (q.set i (some t)):=by
 induction s generalizing i with
 |nil=>exact .nil
 |cons h' r g =>
  cases i with
  |zero=>exact .cons h r
  |succ i=>exact .cons h' (g i)
end
def mJ{α β:Type}(K:De)(q:Hp->α->β->Prop)(c:CSt->CH->(β->CH->Prop)->Prop):St->Hp->(α->Hp->Prop)->Prop:=fun σ H Q=>
 ∃g C R,SRel K H σ g/\HRel K H C/\c g C R/\∀v H' t C',R t C'->q H' v t->HRel K H' C'->Fw H C H' C'->Q v H'
abbrev TCE:=CSt->CH->K1->Prop
abbrev TCT:=CSt->CH->(Bool->CH->Prop)->Prop
abbrev TCA:=CSt->CH->(List PV->CH->Prop)->Prop
abbrev sF:Hp->Bool->Bool->Prop:=fun _ a b=>a=b
structure XU where
 nx:CSt->CH->Prop
 rt:K1
 bk:CSt->CH->Prop:=fun _ _=>False
 ct:CSt->CH->Prop:=fun _ _=>False
abbrev TCS:=XU->CSt->CH->Prop
structure ERel(K:De)(H:Hp)(C:CH)(E:XU)(D:GV):Prop where
 nx:∀σ' H' ρ' C',E.nx ρ' C'->SRel K H' σ' ρ'->HRel K H' C'->Fw H C H' C'->D.nx σ' H'
 rt:∀v H' t C',E.rt t C'->Rep K H' v t->HRel K H' C'->Fw H C H' C'->D.rt v H'
 bk:∀σ' H' ρ' C',E.bk ρ' C'->SRel K H' σ' ρ'->HRel K H' C'->Fw H C H' C'->D.bk σ' H'
 ct:∀σ' H' ρ' C',E.ct ρ' C'->SRel K H' σ' ρ'->HRel K H' C'->Fw H C H' C'->D.ct σ' H'
def ERel.fw{K}(e:ERel K H C E D)(f:Fw H C H1 C1):ERel K H1 C1 E D :=
 ⟨fun B H' q C' h s r g=>e.nx B H' q C' h s r (f.trans g),fun v H' t C' h s r g=>e.rt v H' t C' h s r (f.trans g),fun B H' q C' h s r g=>e.bk B H' q C' h s r (f.trans g),fun B H' q C' h s r g=>e.ct B H' q C' h s r (f.trans g)⟩
def Yi(K:De)(c:TCS):TS:=fun D σ H=>∃g C E,SRel K H σ g/\HRel K H C/\c E g C/\ERel K H C E D
structure CE(X:Cx)(e:Expr)(c:TCE):Prop where
 h:JE X e (mJ X.K (Rep X.K) c)
structure CT(X:Cx)(e:Expr)(c:TCT):Prop where
 h:JT X e (mJ X.K sF c)
structure CW(X:Cx)(e:Expr)(c:TCT):Prop where
 h:JW X e (mJ X.K sF c)
structure CA(X:Cx)(es:List Expr)(c:TCA):Prop where
 h:JA X es (mJ X.K (Reps X.K) c)
structure CS(X:Cx)(st:Stmt)(c:TCS):Prop where
 h:JS X st (Yi X.K c)
structure CB(X:Cx)(st:List Stmt)(c:TCS):Prop where
 h:JB X st (Yi X.K c)
section
variable {X:Cx}{a b c e o i:Expr}{es:List Expr}{pos:Pos}{rest:List Expr}{st:Stmt}{sts:List Stmt}
def JE.weak(h:JE X e t)(w:∀σ H Q,t' σ H Q->t σ H Q):JE X e t':=⟨fun pins s σ H Q I q=>h.h pins s σ H Q I (w σ H Q q)⟩
def JT.weak(h:JT X e t)(w:∀σ H Q,t' σ H Q->t σ H Q):JT X e t':=⟨fun pins s σ H Q I q=>h.h pins s σ H Q I (w σ H Q q)⟩
def JW.weak(h:JW X e t)(w:∀σ H Q,t' σ H Q->t σ H Q):JW X e t':=⟨fun g pins s σ H Q I q=>h.h g pins s σ H Q I (w σ H Q q)⟩
def JA.weak(h:JA X es t)(w:∀σ H Q,t' σ H Q->t σ H Q):JA X es t':=⟨fun p pins s σ H Q I q=>h.h p pins s σ H Q I (w σ H Q q)⟩
def JS.weak(h:JS X st t)(w:∀D σ H,t' D σ H->t D σ H):JS X st t':=⟨fun pins s σ H D I q=>h.h pins s σ H D I (w D σ H q)⟩
def JB.weak(h:JB X sts t)(w:∀D σ H,t' D σ H->t D σ H):JB X sts t':=⟨fun pins s σ H D I q=>h.h pins s σ H D I (w D σ H q)⟩
def bY(i:Nat):TCE:=fun g C Q=>match g[i]? with
 |some (some t)=>Q t C
 |_=>False
def cC(t:PV):TCE:=fun _ C Q=>Q t C
def cv i(B:X.N[i]?=some x:=by rfl)(J:Vis X.env.scope x:=by first | exact Or.inl rfl | exact Or.inr (Or.inl rfl) | exact Or.inr (Or.inr rfl))(I:(x==("__debug__" : Str))=false:=by decide)(D:(x==("__classdict__" : Str))=false:=by decide):CE X (.Name x pos) (bY i):=⟨JE.weak (jv i B J I D) fun σ H Q O=>tX O fun S C R s h q f=> by
 delta bY at q
 split at q
 .next t e =>
  exact zX (s.get e) fun v g r=>⟨v,g,f v H t C q r h Fw.refl⟩
 .exact q.elim⟩
def Vs(h:JE X e (tC v))(r:∀H,Rep X.K H v t):CE X e (cC t):=⟨JE.weak h fun σ H Q g=>tX g fun B C R s h q f=> f v H t C q (r H) h Fw.refl⟩
def zQ{i j pos}:CE X (.Constant (.int i) j pos) (cC (.int i)):=Vs je_int fun _=>.int i
def aJ{b j pos}:CE X (.Constant (.bool b) j pos) (cC (.bl b)):=Vs je_bl fun _=>.bl b
def hV{j pos}:CE X (.Constant .none j pos) (cC .non):=Vs je_non fun _=>.non
def vQ{x j pos}:CE X (.Constant (.str x) j pos) (cC (.str x)):=Vs je_str fun _=>.str x
def lW(B:Gl X x)(D:X.mg x=some u)(r:RelV v u)(q:∀H,Rep X.K H v t)(g:(x==("__debug__" : Str))=false:=by decide):CE X (.Name x pos) (cC t):=Vs (je_glob B D r g) q
def fZ(q:Gl X x)(B:X.mg x=none)(I:bootBuiltins x=some (.type n))(D:x ≠ "__name__":=by decide)(g:(x==("__debug__" : Str))=false:=by decide):CE X (.Name x pos) (cC (.ty n)):=Vs (je_bltn (v:=.ty n) q B I rfl D g) fun _=>.ty n
abbrev R2C:=PV->PV->CH->K1->Prop
def Cop(K:De)(r:R2)(B:R2C):Prop:=∀x y g q H C Q R,Rep K H x g->Rep K H y q->HRel K H C->B g q C R->(∀v H' t C',R t C'->Rep K H' v t->HRel K H' C'->Fw H C H' C'->Q v H')->r x y H Q
def cOp(D:R2C)(q B:TCE):TCE:=fun g C Q=>q g C fun x C1=>B g C1 fun y C2=>D x y C2 Q
def dH{K}(U:Cop K r O){Q:VK}(h:mJ K (Rep K) (cOp O I J) σ H Q):tOp r (mJ K (Rep K) I) (mJ K (Rep K) J) σ H Q :=tX h fun D C R s h q f=>⟨D,C,_,s,h,q,fun x H1 Y C1 q1 rx h1 g=>⟨D,C1,_,s.imm (g.imm h),h1,q1,fun y H2 Z C2 q2 ry h2 B=>
  U x y Y Z H2 C2 Q R (rx.imm (B.imm h1)) ry h2 q2 fun v H' t C' q' r' h' S=>f v H' t C' q' r' h' (g.trans (B.trans S))⟩⟩
def eQ(J:OpR X (binaryOp op) r)(O:Cop X.K r B)(D:CE X a g)(I:CE X b q):CE X (.BinOp a op b pos) (cOp B g q):=⟨JE.weak (je_op J D.h I.h) fun _ _ _ h=>dH O h⟩
def iK(O:OpR X (compareOp op) r)(S:Cop X.K r B)(D:CE X a g)(I:CE X b q)(J:behindInMarks op b=false):CE X (.Compare a [op] [b] pos) (cOp B g q):=⟨JE.weak (je_cmp O D.h I.h J) fun _ _ _ h=>dH S h⟩
def qD(k:Bool->CH->Prop):PV->CH->Prop
 |.bl b,C=>k b C
 |_,_=>False
def tR(c:TCE):TCT:=fun g C Q=>c g C (qD Q)
def xS{K}(q:qD Q t C)(r:Rep K H v t):∃b,t=.bl b/\v=.bl b/\Q b C:=by
 cases t with
 |bl b=>cases r;exact⟨b,rfl,rfl,q⟩
 |_=>exact q.elim
def K9{K}{c}(h:mJ K sF (tR c) σ H Q):Qu (mJ K (Rep K) c) σ H Q :=tX h fun J C R s h q f=>⟨J,C,_,s,h,q,fun x H1 O C1 B I h1 g=>by
  obtain⟨b,rfl,rfl,D⟩:=xS B I
  exact⟨b,rfl,f b H1 b C1 D rfl h1 g⟩⟩
def uF(U:OpR X (compareOp op) r)(Y:Cop X.K r D)(J:CE X a g)(O:CE X b B)(S:behindInMarks op b=false):CT X (.Compare a [op] [b] pos) (tR (cOp D g B)) :=
 ⟨JT.weak (jt_cmp U J.h O.h S) fun σ H Q h=>by
  refine tX h fun ρ C R s h q f=>dH Y ⟨ρ,C,_,s,h,q,fun x H1 px C1 Z rx h1 I=>?_⟩;obtain⟨b,rfl,rfl,q2⟩:=xS Z rx
  exact⟨b,rfl,f b H1 b C1 q2 rfl h1 I⟩⟩
def aX{c}(h:CE X e c)(g:vG e=true:=by rfl):CT X e (tR c):=⟨JT.weak (jt_val h.h g) fun _ _ _ h=>K9 h⟩
def Z9(J O:R2C)(D I cc:TCE):TCE:=fun g C Q=>D g C fun x C1=>I g C1 fun y C2=>J x y C2 (qD fun b q=>if b=true then cc g q fun z B=>O y z B Q else Q (.bl false) q)
def pC{K}(hr:Cop K r ae)(ag:Cop K D af){Q:VK}(h:mJ K (Rep K) (Z9 ae af ab cb cc) σ H Q):rN r D (mJ K (Rep K) ab) (mJ K (Rep K) cb) (mJ K (Rep K) cc) σ H Q:=by
 refine tX h fun I C R s h ah f=>⟨I,C,_,s,h,ah,fun x H1 px C1 q1 rx h1 g=>⟨I,C1,_,s.imm (g.imm h),h1,q1,fun y H2 U C2 q2 Z h2 q=>
  hr x y px U H2 C2 _ _ (rx.imm (q.imm h1)) Z h2 q2 fun v H3 t J q3 r3 S B=>by
   obtain⟨b,rfl,rfl,Y⟩:=xS q3 r3;refine⟨b,rfl,?_⟩
   cases b with
   |true =>
    exact⟨I,J,_,(s.imm (g.imm h)).imm ((q.trans B).imm h1),S,Y,fun z H4 pz C4 q5 rz h4 O=>ag y z U pz H4 C4 Q R (Z.imm ((B.trans O).imm h2)) rz h4 q5 fun v H' t C' q' D h' f'=>f v H' t C' q' D h' (g.trans (q.trans (B.trans (O.trans f'))))⟩
   |false=>exact f _ H3 _ J Y (.bl false) S (g.trans (q.trans B))⟩⟩
def XC(Y:OpR X (compareOp op) r)(Z:OpR X (compareOp g) r')(hr:Cop X.K r D)(ab:Cop X.K r' I)(J:CE X a q)(O:CE X b B)(S:CE X c cc)(U:lastMarks [op,g] [b,c]=false:=by with_unfolding_all rfl):CE X (.Compare a [op,g] [b,c] pos) (Z9 D I q B cc):=⟨JE.weak (Yy Y Z J.h O.h S.h U) fun _ _ _ h=>pC hr ab h⟩
def Gi(Z:OpR X (compareOp op) r)(ab:OpR X (compareOp g) r')(hr:Cop X.K r D)(ae:Cop X.K r' I)(O:CE X a q)(S:CE X b B)(U:CE X c cc)(Y:lastMarks [op,g] [b,c]=false:=by with_unfolding_all rfl):CT X (.Compare a [op,g] [b,c] pos) (tR (Z9 D I q B cc)) :=
 ⟨JT.weak (Yp Z ab O.h S.h U.h Y) fun σ H Q h=>by
  refine tX h fun ρ C R s h af f=>pC hr ae ⟨ρ,C,_,s,h,af,fun x H1 px C1 q1 rx h1 J=>?_⟩;obtain⟨b,rfl,rfl,q2⟩:=xS q1 rx
  exact⟨b,rfl,f b H1 b C1 q2 rfl h1 J⟩⟩
def cUn(q:PV->CH->K1->Prop)(g:TCE):TCE:=fun B C Q=>g B C fun x C1=>q x C1 Q
def Cun(K:De)(r:V->Hp->VK->Prop)(q:PV->CH->K1->Prop):Prop:=∀x g H C Q R,Rep K H x g->HRel K H C->q g C R->(∀v H' t C',R t C'->Rep K H' v t->HRel K H' C'->Fw H C H' C'->Q v H')->r x H Q
def rB(O:UnR X (unaryOp op) r)(S:Cun X.K r B)(J:CE X a g):CE X (.UnaryOp op a pos) (cUn B g):=⟨JE.weak (je_un O J.h) fun σ H Q zz=>tX zz fun ρ C R s h q f=>
 ⟨ρ,C,_,s,h,q,fun x H1 U C1 Z rx h1 I=>S x U H1 C1 Q R rx h1 Z fun v H' t C' Y r' h' D=>f v H' t C' Y r' h' (I.trans D)⟩⟩
def cAnd(t u:TCT):TCT:=fun g C Q=>t g C fun b C1=>if b=true then u g C1 Q else Q false C1
def cOr(t u:TCT):TCT:=fun g C Q=>t g C fun b C1=>if b=true then Q true C1 else u g C1 Q
def cNot(t:TCT):TCT:=fun g C Q=>t g C fun b C1=>Q (!b) C1
def cw_pt(h:CW X e t):CT X e t:=⟨jw_pt h.h⟩
def cw_and1(h:CT X a t):CW X (.BoolOp .And [a] pos) t:=⟨jw_and1 h.h⟩
def cw_or1(h:CT X a t):CW X (.BoolOp .Or [a] pos) t:=⟨jw_or1 h.h⟩
def cw_and(J:CT X a t)(O:CW X (.BoolOp .And (b::rest) pos) u):CW X (.BoolOp .And (a::b::rest) pos) (cAnd t u):=⟨JW.weak (jw_and J.h O.h) fun σ H Q Y=>tX Y fun D C R s h q f=>
 ⟨D,C,_,s,h,q,fun x H1 y C1 B e h1 g=>by
  cases e
  cases x with
  |true=>exact⟨D,C1,R,s.imm (g.imm h),h1,B,fun v H' t C' S U h' I=>f v H' t C' S U h' (g.trans I)⟩
  |false=>exact f false H1 false C1 B rfl h1 g⟩⟩
def cw_or(J:CT X a t)(O:CW X (.BoolOp .Or (b::rest) pos) u):CW X (.BoolOp .Or (a::b::rest) pos) (cOr t u):=⟨JW.weak (jw_or J.h O.h) fun σ H Q Y=>tX Y fun D C R s h q f=>
 ⟨D,C,_,s,h,q,fun x H1 y C1 B e h1 g=>by
  cases e
  cases x with
  |true=>exact f true H1 true C1 B rfl h1 g
  |false=>exact⟨D,C1,R,s.imm (g.imm h),h1,B,fun v H' t C' S U h' I=>f v H' t C' S U h' (g.trans I)⟩⟩⟩
def dJ(B:CT X a t):CT X (.UnaryOp .Not a pos) (cNot t):=⟨JT.weak (jt_not B.h) fun σ H Q I=>tX I fun J C R s h q f=>
 ⟨J,C,_,s,h,q,fun x H1 y C1 D e h1 g=>by cases e;exact f _ H1 _ C1 D rfl h1 g⟩⟩
def cAndV(q B:TCE):TCE:=fun g C Q=>q g C (qD fun b C1=>if b=true then B g C1 Q else Q (.bl false) C1)
def cOrV(q B:TCE):TCE:=fun g C Q=>q g C (qD fun b C1=>if b=true then Q (.bl true) C1 else B g C1 Q)
def cNotV(g:TCE):TCE:=fun q C Q=>g q C (qD fun b C1=>Q (.bl (!b)) C1)
def cR{op}{c}(h:CE X a c):CE X (.BoolOp op [a] pos) c:=⟨je_one h.h⟩
def lR(S:CE X a I)(U:CE X (.BoolOp .And (b::rest) pos) J):CE X (.BoolOp .And (a::b::rest) pos) (cAndV I J):=⟨JE.weak (je_and S.h U.h) fun σ H Q zz=>tX zz fun D C R s h q f=>
 ⟨D,C,_,s,h,q,fun x H1 px C1 Z rx h1 g=>by
  obtain⟨b,rfl,rfl,B⟩:=xS Z rx;refine⟨b,rfl,?_⟩
  cases b with
  |true=>exact⟨D,C1,R,s.imm (g.imm h),h1,B,fun v H' t C' Y r' h' O=>f v H' t C' Y r' h' (g.trans O)⟩
  |false=>exact f _ H1 _ C1 B (.bl false) h1 g⟩⟩
def ce_or{B D:TCE}(S:CE X a B)(U:CE X (.BoolOp .Or (b::rest) pos) D):CE X (.BoolOp .Or (a::b::rest) pos) (cOrV B D):=⟨JE.weak (je_or S.h U.h) fun σ H Q zz=>tX zz fun J C R s h q f=>
 ⟨J,C,_,s,h,q,fun x H1 px C1 Z rx h1 g=>by
  obtain⟨b,rfl,rfl,I⟩:=xS Z rx;refine⟨b,rfl,?_⟩
  cases b with
  |true=>exact f _ H1 _ C1 I (.bl true) h1 g
  |false=>exact⟨J,C1,R,s.imm (g.imm h),h1,I,fun v H' t C' Y r' h' O=>f v H' t C' Y r' h' (g.trans O)⟩⟩⟩
def GA{g:TCE}(D:CE X a g):CE X (.UnaryOp .Not a pos) (cNotV g):=⟨JE.weak (je_not D.h) fun σ H Q S=>tX S fun U C R s h q f=>
 ⟨U,C,_,s,h,q,fun x H1 Y C1 I O h1 B=>by
  obtain⟨b,rfl,rfl,J⟩:=xS I O
  exact⟨b,rfl,f _ H1 _ C1 J (.bl _) h1 B⟩⟩⟩
def cIf(t:TCT)(q B:TCE):TCE:=fun g C Q=>t g C fun b C1=>if b=true then q g C1 Q else B g C1 Q
def sD(Z:CT X c t)(U:CE X a O)(Y:CE X b S):CE X (.IfExp c a b pos) (cIf t O S):=⟨JE.weak (je_if Z.h U.h Y.h) fun σ H Q zz=>tX zz fun I C R s h ab f=>
 ⟨I,C,_,s,h,ab,fun x H1 y C1 J e h1 g=>by
  cases e
  cases x with
  |true=>exact⟨I,C1,R,s.imm (g.imm h),h1,J,fun v H' t C' B D h' q=>f v H' t C' B D h' (g.trans q)⟩
  |false=>exact⟨I,C1,R,s.imm (g.imm h),h1,J,fun v H' t C' B D h' q=>f v H' t C' B D h' (g.trans q)⟩⟩⟩
def Vy:TCA:=fun _ C Q=>Q [] C
def aR(q:TCE)(B:TCA):TCA:=fun g C Q=>q g C fun x C1=>B g C1 fun xs C2=>Q (x::xs) C2
def pZ:CA X [] Vy:=⟨JA.weak ZF fun σ H Q g=>tX g fun B C R s h q f=> f [] H [] C q .nil h Fw.refl⟩
def qQ(O:CE X e I)(S:CA X es J)(hs:wX e=true:=by rfl):CA X (e::es) (aR I J):=⟨JA.weak (cH O.h S.h hs) fun σ H Q zz=>tX zz fun D C R s h q f=>
 ⟨D,C,_,s,h,q,fun x H1 U C1 Y rx h1 g=>⟨D,C1,_,s.imm (g.imm h),h1,Y,fun xs H2 ps C2 Z rs h2 B=>f (x::xs) H2 (U::ps) C2 Z (.cons (rx.imm (B.imm h1)) rs) h2 (g.trans B)⟩⟩⟩
def cTup(g:TCA):TCE:=fun q C Q=>g q C fun xs C1=>xs.length<=sizeLine/\Q (.tup xs) C1
def cLst(g:TCA):TCE:=fun q C Q=>g q C fun xs C1=>xs.length<=sizeLine/\∀p,C1 p=none->Q (.ref p) (gQ C1 p (.lst xs))
def lQ{J}(h:CA X es D):CE X (.Tuple es J pos) (cTup D):=⟨JE.weak (je_tup h.h) fun σ H Q O=>tX O fun S C R s h q f=>
 ⟨S,C,_,s,h,q,fun xs H1 ps C1 B rs h1 I=>⟨by rw[rs.len];exact B.1,fun p g=>f (.ref p) _ (.tup ps) C1 B.2 (.tup fQ (rs.imm (Imm.new g _))) (h1.new g _) (I.trans (Fw.new g _))⟩⟩⟩
def mX(h:CA X es D):CE X (.List es pos) (cLst D):=⟨JE.weak (je_lst h.h) fun σ H Q J=>tX J fun O C R s h q f=>
 ⟨O,C,_,s,h,q,fun xs H1 ps C1 B rs h1 I=>⟨by rw[rs.len];exact B.1,fun p g=>f (.ref p) _ (.ref p) _ (B.2 p (h1.fresh g)) (.ref p) (h1.lay g ⟨xs,fQ,rs.imm (Imm.new g _)⟩) (I.trans (Fw.lay g _ _))⟩⟩⟩
def cDNew:TCE:=fun _ C Q=>∀p,C p=none->Q (.ref p) (gQ C p (.dK []))
def mM:CE X (.Dict [] [] pos) cDNew:=⟨JE.weak Yx fun σ H Q B=>tX B fun D C R s h q f=> fun p g=>f (.ref p) _ (.ref p) _ (q p (h.fresh g)) (.ref p) (h.lay g ⟨[],fQ,.nil⟩) (Fw.lay g _ _)⟩
abbrev GC:=List PV->CH->K1->Prop
def spC(K:De)(G:GC):Sp:=fun vs H Q _=>∃ts C R,Reps K H vs ts/\HRel K H C/\G ts C R/\∀v H' t C',R t C'->Rep K H' v t->HRel K H' C'->Fw H C H' C'->Q v H'
def bE(G:GC)(g:TCA):TCE:=fun q C Q=>g q C fun xs C1=>G xs C1 Q
def ce_call{p}(F:FnOk X.prog X.w X.K X.mg X.base CX k f fd ps (spC X.K G))(Z:Room k X.A)(S:Gl X x)(Y:X.mg x=some (.ref f))(U:PySem.W.keepIn X.K (.ref f)=true)(J:Binds X.K fd ps [])(hx:fY CX X E)(D:CA X (e::es) g)(O:(x==("__debug__" : Str))=false:=by decide)(hs:wX e=true:=by rfl)(I:es.all wX=true:=by rfl):CE X (.Call (.Name x p) (e::es) [] pos) (bE G g) :=
 ⟨JE.weak (je_call F Z S Y U J .nil hx D.h O hs I) fun σ H Q zz=>tX zz fun ρ C R s h ab f=>
  ⟨ρ,C,_,s,h,ab,fun xs H1 ts C1 q1 rs h1 B=>⟨ts,C1,R,by rw[Ah];exact rs,h1,q1,fun v H' t C' q' r' h' q=>f v H' t C' q' r' h' (B.trans q)⟩⟩⟩
def Cbi(K:De)(r:List V->Hp->VK->Prop)(g:GC):Prop:=∀xs ps H C Q R,Reps K H xs ps->HRel K H C->g ps C R->(∀v H' t C',R t C'->Rep K H' v t->HRel K H' C'->Fw H C H' C'->Q v H')->r xs H Q
def cQ{id}{p}(O:CallR X (.builtin id) r)(hr:Cbi X.K r q)(U:Gl X x)(Y:X.mg x=none)(hv:bootBuiltins x=some (.builtin id))(I:CA X (e::es) g)(Z:x ≠ "__name__":=by decide)(S:(x==("__debug__" : Str))=false:=by decide)(hs:wX e=true:=by rfl)(J:es.all wX=true:=by rfl):CE X (.Call (.Name x p) (e::es) [] pos) (bE q g):=⟨JE.weak (Yz O U Y hv I.h Z S hs J) fun σ H Q zz=>tX zz fun ρ C R s h ab f=>
  ⟨ρ,C,_,s,h,ab,fun xs H1 ts C1 q1 rs h1 D=>hr xs ts H1 C1 Q R rs h1 q1 fun v H' t C' q' r' h' B=>f v H' t C' q' r' h' (D.trans B)⟩⟩
def lZ{p}(O:CallR X (.type T) r)(hr:Cbi X.K r q)(U:Gl X x)(Y:X.mg x=none)(hv:bootBuiltins x=some (.type T))(I:CA X (e::es) g)(Z:x ≠ "__name__":=by decide)(S:(x==("__debug__" : Str))=false:=by decide)(hs:wX e=true:=by rfl)(J:es.all wX=true:=by rfl):CE X (.Call (.Name x p) (e::es) [] pos) (bE q g):=⟨JE.weak (eL O U Y hv I.h Z S hs J) fun σ H Q zz=>tX zz fun ρ C R s h ab f=>
  ⟨ρ,C,_,s,h,ab,fun xs H1 ts C1 q1 rs h1 D=>hr xs ts H1 C1 Q R rs h1 q1 fun v H' t C' q' r' h' B=>f v H' t C' q' r' h' (D.trans B)⟩⟩
def ce_ix(J:IxR X r)(O:Cop X.K r B)(D:CE X a g)(I:CE X b q)(hs:kN b):CE X (.Subscript a b pos) (cOp B g q):=⟨JE.weak (je_ix J D.h I.h hs) fun _ _ _ h=>dH O h⟩
def cNext:TCS:=fun E g C=>E.nx g C
def Vx(t u:TCS):TCS:=fun E g C=>t { E with nx:=u E } g C
def pQ:CB X [] cNext:=⟨JB.weak jb_nil fun D σ H g=>tX g fun B C E s h q f=> f.nx σ H B C q s h Fw.refl⟩
def kQ(h:CS X st t):CB X [st] t:=⟨jb_one h.h⟩
def xQ(h1:CS X st t)(h2:CB X sts u):CB X (st::sts) (Vx t u):=⟨JB.weak (jb_cons h1.h h2.h) fun D σ H B=>tX B fun I C E s h q f=>
 ⟨I,C,_,s,h,q,⟨fun O H' J C' n s' h' g=>⟨J,C',E,s',h',n,f.fw g⟩,f.rt,f.bk,f.ct⟩⟩⟩
def cDrop(q:TCE):TCS:=fun E g C=>q g C fun _ C1=>E.nx g C1
def aZ(J:CE X e I)(hs:swapsWith e none pos.line X.env=pure false:=by rfl):CS X (.Expr e pos) (cDrop I):=⟨JS.weak (js_expr J.h hs) fun D σ H S=>tX S fun B C E s h q f=>
 ⟨B,C,_,s,h,q,fun x H1 U C1 O Y h1 g=>f.nx σ H1 B C1 O (s.imm (g.imm h)) h1 g⟩⟩
def cRet(g:TCE):TCS:=fun E q C=>g q C E.rt
def yQ(I:CE X e g):CS X (.Return (some e) pos) (cRet g):=⟨JS.weak (js_ret I.h) fun D σ H U=>tX U fun Y C E s h q f=>
 ⟨Y,C,_,s,h,q,fun x H1 J C1 O S h1 B=>f.rt x H1 J C1 O S h1 B⟩⟩
def cIfS(t:TCT)(u v:TCS):TCS:=fun E g C=>t g C fun b C1=>if b=true then u E g C1 else v E g C1
def sQ(S:CT X c t)(J:CB X x u)(O:CB X y v):CS X (.If c x y pos) (cIfS t u v):=⟨JS.weak (js_if S.h J.h O.h) fun D σ H U=>tX U fun B C E s h q f=>
 ⟨B,C,_,s,h,q,fun x H1 y C1 I e h1 g=>by
  cases e
  cases x with
  |true=>exact⟨B,C1,E,s.imm (g.imm h),h1,I,f.fw g⟩
  |false=>exact⟨B,C1,E,s.imm (g.imm h),h1,I,f.fw g⟩⟩⟩
def Vw(i:Nat)(q:TCE):TCS:=fun E g C=>q g C fun t C1=>E.nx (g.set i (some t)) C1
def cs_set{i}(D:X.N.Nodup)(hi:X.N[i]?=some x)(O:Loc X.env.scope x)(I:CE X e B)(hs:swapsWith e (some (.Name x pos')) pos.line X.env=pure false:=by rfl)(J:X.fn x=true\/X.env.scope.names.lookup x=some .local:=by first | exact .inl rfl | exact .inr rfl | assumption):
  CS X (.Assign [.Name x pos'] e pos) (Vw i B):=⟨JS.weak (js_set D hi O I.h hs J) fun ab σ H Y=>tX Y fun Z C E s h q f=>
 ⟨Z,C,_,s,h,q,fun x H1 px C1 S U h1 g=>f.nx _ H1 _ C1 S ((s.imm (g.imm h)).set U i) h1 g⟩⟩
abbrev TCG:=PV->CSt->CH->(CSt->CH->Prop)->Prop
abbrev VC:=List PV->CSt->CH->(CSt->CH->Prop)->Prop
def Yj(K:De)(c:TCG):TG:=fun v σ H Q=>∃t g C R,Rep K H v t/\SRel K H σ g/\HRel K H C/\c t g C R/\∀B H' q C',R q C'->SRel K H' B q->HRel K H' C'->Fw H C H' C'->Q B H'
def liftGs(K:De)(c:VC):TGs:=fun v σ H Q=>∃t g C R,Reps K H v t/\SRel K H σ g/\HRel K H C/\c t g C R/\∀B H' q C',R q C'->SRel K H' B q->HRel K H' C'->Fw H C H' C'->Q B H'
structure CG(X:Cx)(e:Expr)(c:TCG):Prop where
 h:JG X e (Yj X.K c)
structure CGs(X:Cx)(es:List Expr)(c:VC):Prop where
 h:JGs X es (liftGs X.K c)
def JG.weak(h:JG X e t)(w:∀v σ H Q,t' v σ H Q->t v σ H Q):JG X e t':=⟨fun pins s σ H v u Q I r q=>h.h pins s σ H v u Q I r (w v σ H Q q)⟩
def JGs.weak(h:JGs X es t)(w:∀v σ H Q,t' v σ H Q->t v σ H Q):JGs X es t':=⟨fun pins s σ H v u Q I r q=>h.h pins s σ H v u Q I r (w v σ H Q q)⟩
def Gh(i:Nat):TCG:=fun t g C Q=>Q (g.set i (some t)) C
def dNil:VC:=fun ts g C Q=>match ts with
 |[]=>Q g C
 |_=>False
def dCons(g:TCG)(u:VC):VC:=fun ts q C Q=>match ts with
 |t::r=>g t q C fun B C'=>u r B C' Q
 |[]=>False
def dTup(n:Nat)(u:VC):TCG:=fun t g C Q=>match t with
 |.tup ts=>ts.length=n/\u ts g C Q
 |_=>False
def cg_name{i}(g:X.N.Nodup)(hi:X.N[i]?=some x)(D:Loc X.env.scope x)(B:X.fn x=true\/X.env.scope.names.lookup x=some .local:=by first | exact .inl rfl | exact .inr rfl | assumption):CG X (.Name x pos) (Gh i) :=
 ⟨JG.weak (jg_name g hi D B) fun v σ H Q I=>Y9 I fun t J C R r s h q f=> f _ H _ C q (s.set r i) h Fw.refl⟩
def Kh:CGs X [] dNil:=⟨JGs.weak jgs_nil fun vs σ H Q g=>Y9 g fun ts B C R r s h q f=> by
 cases r with
 |nil=>exact⟨rfl,f σ H B C q s h Fw.refl⟩
 |cons _ _=>exact q.elim⟩
def dG(h1:CG X e g)(h2:CGs X es u)(hs:(assignEach (e::es) X.env).map (·.2)=assign e X.env::(assignEach es X.env).map (·.2):=by rfl):CGs X (e::es) (dCons g u):=⟨JGs.weak (Yu h1.h h2.h hs) fun vs σ H Q U=>Y9 U fun ts Y C R r s h q f=> by
 cases r with
 |nil=>exact q.elim
 |@cons v t vs ts O r =>
  exact⟨v,vs,rfl,t,Y,C,_,O,s,h,q,fun af H' Z C' I s' h' B=>⟨ts,Z,C',R,r.imm (B.imm h),s',h',I,fun ae H2 ab C2 J S h2 D=>f ae H2 ab C2 J S h2 (B.trans D)⟩⟩⟩
def Gx{k}(g:X.calm=true)(h:CGs X es u)(B:(assignEach es X.env).length=n:=by rfl)(D:(assignEach es X.env).findIdx? (·.1)=none:=by rfl):CG X (.Tuple es k pos) (dTup n u):=⟨JG.weak (jg_tup g h.h B D) fun v σ H Q O=>Y9 O fun t S C R r s h q f=> by
 cases r with
 |@tup a vs ts e r =>
  obtain⟨I,J⟩:=q;exact⟨a,vs,rfl,SqT.of e,by exact r.len▸I,ts,S,C,R,r,s,h,J,f⟩
 |_=>exact q.elim⟩
def cAsg(B:TCE)(g:TCG):TCS:=fun E q C=>B q C fun t C1=>g t q C1 E.nx
def kP(O:CE X e I)(S:CG X tg g)(hs:swapsWithSole [tg] e pos.line X.env=pure false:=by rfl)(U:swappedStores [tg] e X.env=pure none:=by rfl)(h1:(assignEach [tg] X.env).map (·.2)=[assign tg X.env]:=by rfl):CS X (.Assign [tg] e pos) (cAsg I g):=⟨JS.weak (js_asg O.h S.h hs U h1) fun af σ H zz=>tX zz fun D C E s h q f=>
 ⟨D,C,_,s,h,q,fun x H1 Y C1 q1 rx h1 B=>⟨Y,D,C1,E.nx,rx,s.imm (B.imm h),h1,q1,fun ae H' ab C' Z s' h' J=>f.nx ae H' ab C' Z s' h' (B.trans J)⟩⟩⟩
@[irreducible] def Kl:PV->PV->PV->CH->(CH->Prop)->Prop:=fun o i v C Q=>match o,i with
 |.ref p,.int k=>match C p with
  |some (.lst xs)=>match ixN xs.length k with
   |some j=>Q (gQ C p (.lst (xs.set j v)))
   |none=>False
  |_=>False
 |_,_=>False
def dSub(D B:TCE)(u:PV->PV->PV->CH->(CH->Prop)->Prop):TCG:=fun t g C Q=>D g C fun o C1=>B g C1 fun i C2=>u o i t C2 fun q=>Q g q
def bM{U S:TCE}(ho:CE X o U)(hi:CE X i S)(Z:∀v,assign (.Subscript o i pos) X.env v=(do
   let I <- holding [v] (eval o X.env)
   let J <- holding [v,I] (eval i X.env)
   standAt pos
   holding [v,I,J] (setItem I J v)
   release [v,I,J] []):=by intro _;rfl):CG X (.Subscript o i pos) (dSub U S Kl):=⟨JG.weak (jg_sub ho.h hi.h V8 Z) fun v σ H Q zz=>Y9 zz fun t O C R r s h ab f=>
 ⟨O,C,_,s,h,ab,fun x H1 px C1 q1 rx h1 B=>⟨O,C1,_,s.imm (B.imm h),h1,q1,fun y H2 ag C2 g ry h2 D=>by
  have r2:=r.imm ((B.trans D).imm h);have af:=s.imm ((B.trans D).imm h);unfold Kl at g
  split at g
  .next p k =>
   split at g
   .next xs e =>
    split at g
    .next j Y =>
     obtain⟨vs,q,rv⟩:=h2 p _ e;have ae:=rx.imm (D.imm h1);cases ae;cases ry;refine⟨p,vs,k,j,rfl,rfl,q,by rw[rv.len];exact Y,?_⟩;exact f σ _ O _ g (af.imm (Imm.mut q rfl _)) (h2.put q rfl ⟨_,fQ,(rv.set r2 j).imm (Imm.mut q rfl _)⟩) (B.trans (D.trans (Fw.put e _ _)))
    .exact g.elim
   .exact g.elim
  .exact g.elim⟩⟩⟩
def Z5(t:TCT)(u:TCS)(E:XU):Nat->CSt->CH->Prop
 |0,_,_=>False
 |n+1,g,C=>t g C fun b C1=>if b=true then u { nx:=Z5 t u E n,ct:=Z5 t u E n,bk:=E.nx,rt:=E.rt } g C1 else E.nx g C1
def cWhile(t:TCT)(u:TCS):TCS:=fun E g C=>∃n,Z5 t u E n g C
def Gj(hp:PassesOwn (model X.prog X.w) X.A X.env X.xe)(hc:CT X c t)(hb:CB X Z u):CS X (.While c Z [] pos) (cWhile t u):=⟨JS.weak (Yq hp hc.h hb.h) fun af σ H ⟨ρ,C,E,s,h,⟨n,ab⟩,f⟩=>by
 refine⟨fun m q H'=>∃g C',SRel X.K H' q g/\HRel X.K H' C'/\Fw H C H' C'/\Z5 t u E m g C',⟨n,ρ,C,s,h,Fw.refl,ab⟩,?_⟩;rintro m ae H1 ⟨S,C1,O,h1,J,U⟩
 cases m with
 |zero=>exact U.elim
 |succ m =>
  refine⟨S,C1,_,O,h1,U,fun b H2 b' C2 Y e h2 D=>?_⟩;cases e
  cases b with
  |true =>
   exact(AZ rfl)▸⟨fun q H'=>∃g C',SRel X.K H' q g/\HRel X.K H' C'/\Fw H C H' C'/\Z5 t u E m g C',fun q H' z=>⟨m,Br m,z⟩,
    S,C2,_,O.imm (D.imm h1),h2,Y,⟨fun q H' g C' I s' h' B=>⟨g,C',s',h',J.trans (D.trans B),I⟩,fun v H' t C' I r' h' B=>f.rt v H' t C' I r' h' (J.trans (D.trans B)),
     fun q H' g C' I s' h' B=>f.nx q H' g C' I s' h' (J.trans (D.trans B)),fun q H' g C' I s' h' B=>⟨g,C',s',h',J.trans (D.trans B),I⟩⟩⟩
  |false =>
   exact(AX AJ)▸f.nx ae H2 S C2 Y (O.imm (D.imm h1)) h2 (J.trans D)⟩
def eY(g:TCG)(u:TCS)(E:XU):List PV->CSt->CH->Prop
 |[],q,C=>E.nx q C
 |x::r,q,C=>g x q C fun B C1=>u { nx:=eY g u E r,ct:=eY g u E r,bk:=E.nx,rt:=E.rt } B C1
structure XM(K:De)(H:Hp)(J:It)(ps:List PV):Prop where
 go:∀i H',i < ps.length->Imm H H'->J.go i H'
 yl:∀i H' x H'',Imm H H'->J.yld i H' x H''->H''=H'/\∀t,ps[i]?=some t->Rep K H' x t
 st:∀H',Imm H H'->J.stop ps.length H'
def bH{K}(j:XM K H J ps)(s:SRel K H σ ρ)(h:HRel K H C)(aj:eY g u E ps ρ C)(f:ERel K H C E af):
  ∃W:Nat->Nat->St->Hp->Prop,(∃m,W 0 m σ H)/\∀i m σ H,W i m σ H ->
   (J.stop i H/\af.nx σ H)\/(J.go i H/\∃N,(∀q H',N q H'->∃m',m' < m/\W (i+1) m' q H')/\∀x H',J.yld i H x H'->Yj K g x σ H' fun ao H2=>Yi K u { af with nx:=N,ct:=N,bk:=af.nx } ao H2):=by
 refine⟨fun i m q H'=>m=ps.length - i/\i<=ps.length/\∃S C',SRel K H' q S/\HRel K H' C'/\Fw H C H' C'/\eY g u E (ps.drop i) S C',⟨ps.length,rfl,AY _,ρ,C,s,h,Fw.refl,aj⟩,?_⟩;rintro i m ak H1 ⟨rfl,hi,ai,C1,ah,h1,U,q1⟩;have k1:=U.imm h
 by_cases ae:i < ps.length
 .refine .inr ⟨j.go i H1 ae k1,fun q H'=>∃S C',SRel K H' q S/\HRel K H' C'/\Fw H C H' C'/\eY g u E (ps.drop (i+1)) S C',fun q H' z=>⟨ps.length - (i+1),by omega,rfl,ae,z⟩,fun x H2 y=>?_⟩
  obtain⟨rfl,y⟩:=j.yl i H1 x H2 k1 y;rw[A4 ae] at q1
  exact⟨ps[i],ai,C1,_,y _ (AO ae),ah,h1,q1,fun q H' S C' q' s' h' f'=>⟨S,C',_,s',h',q',⟨fun ag Y ab B O Z I D=>⟨ab,B,Z,I,U.trans (f'.trans D),O⟩,fun v Y t B O r3 I D=>f.rt v Y t B O r3 I (U.trans (f'.trans D)),
   fun ag Y ab B O Z I D=>f.nx ag Y ab B O Z I (U.trans (f'.trans D)),fun ag Y ab B O Z I D=>⟨ab,B,Z,I,U.trans (f'.trans D),O⟩⟩⟩⟩
 .have e:i=ps.length:=by lia
  subst e;rw[B8] at q1;exact .inl ⟨j.st H1 k1,f.nx ak H1 ai C1 q1 ah h1 U⟩
def aA{K}{a}(h:SqT K H a vs)(r:Reps K H vs ts):XM K H (Itt K a) ts where
 go:=fun i H' l k=>⟨vs,vs[i]'(by rwa [r.len]),SqT.imm h k,AO _⟩
 yl:=fun i H' x q k y=>⟨y.1,fun t e=>by
  obtain⟨v,g,rv⟩:=((r.imm k).get e);have:=y.2 vs (SqT.imm h k)
  rw[g] at this;cases this;exact rv⟩
 st:=fun H' k=>⟨vs,SqT.imm h k,by exact r.len▸AH _⟩
def it_fz{K}{a}(h:Fz K H a vs)(r:Reps K H vs ts):XM K H (Itl K a) ts where
 go:=fun i H' l k=>⟨vs,vs[i]'(by rwa [r.len]),(h.imm k).sq,AO _⟩
 yl:=fun i H' x q k y=>⟨y.1,fun t e=>by
  obtain⟨v,g,rv⟩:=((r.imm k).get e);have:=y.2 vs (h.imm k).sq
  rw[g] at this;cases this;exact rv⟩
 st:=fun H' k=>⟨vs,(h.imm k).sq,by exact r.len▸AH _⟩
def YC{K}: XM K H (Itr 0 n) ((List.range n).map fun k=>PV.int (k:Nat)) where
 go:=fun i H' l k=>by rwa [AB,Ak] at l
 yl:=fun i H' x g k y=>⟨y.1,fun t e=>by
  rw[y.2];rw[A0] at e
  cases z:(List.range n)[i]? with
  |none=>rw[z] at e;cases e
  |some w =>
   rw[z] at e;cases e;have:=Ap.mp z;obtain⟨l,e⟩:=this;rw[List.getElem_range] at e;subst e;rw[Int.zero_add]
   exact .int _⟩
 st:=fun H' k=>by rw[AB,Ak];exact AH _
@[irreducible] def gE(B:TCE)(g:TCG)(u:TCS):TCS:=fun E q C=>B q C fun t C1=>match t with
 |.tup xs=>eY g u E xs q C1
 |.kt xs=>eY g u E xs q C1
 |_=>False
def sH{tg D:Expr}{J:List Stmt}{O:TCE}{g:TCG}{u:TCS}(Z:PassesOwn (model X.prog X.w) X.A X.env X.xe)(U:X.calm=true)(hi:CE X D O)(Y:CG X tg g)(S:CB X J u)(hs:∀x,foldedSetIterable D X.env x=pure x:=by intro _;rfl):CS X (.For tg D J [] pos) (gE O g u):=⟨JS.weak (ZD Z U (Ys hi.h) Y.h S.h hs) fun ab σ H zz=>tX zz fun ρ C E s h q f=> by
 unfold gE at q
 exact⟨ρ,C,_,s,h,q,fun x H1 px C1 I rx h1 B=>by
  cases rx with
  |@tup a vs ts e r=>exact⟨a,rfl,⟨vs,SqT.of e⟩,bH (aA (SqT.of e) r) (s.imm (B.imm h)) h1 I (f.fw B)⟩
  |@kt a vs ts e r=>exact⟨a,rfl,⟨vs,e⟩,bH (aA e r) (s.imm (B.imm h)) h1 I (f.fw B)⟩
  |_=>exact I.elim⟩⟩
def cForR(B:TCA)(g:TCG)(u:TCS):TCS:=fun E q C=>B q C fun ts C1=>match ts with
 |[.int j]=>-(2 ^ 62)<=j/\j < 2 ^ 62/\eY g u E ((List.range j.toNat).map fun k=>PV.int (k:Nat)) q C1
 |_=>False
def gM{tg:Expr}{B:List Stmt}{D:TCA}{g:TCG}{u:TCS}{p J:Pos}(hp:PassesOwn (model X.prog X.w) X.A X.env X.xe)(U:X.calm=true)(Z:Gl X "range")(ab:X.mg "range" = none)(O:CA X [a] D)(Y:CG X tg g)(S:CB X B u)(ae:wX a=true:=by rfl)(hs:∀x,foldedSetIterable (.Call (.Name "range" p) [a] [] J) X.env x=pure x:=by intro _;rfl):CS X (.For tg (.Call (.Name "range" p) [a] [] J) B [] pos) (cForR D g u):=⟨JS.weak (ZD hp U (cO Z ab O.h ae) Y.h S.h hs) fun ag σ H zz=>tX zz fun ρ C E s h af f=>
 ⟨ρ,C,_,s,h,af,fun xs H1 ts C1 q rs h1 I=>by
  split at q
  .next j =>
   cases rs with
   |cons r0 r =>
    cases r;cases r0;exact⟨j,rfl,q.1,q.2.1,bH YC (s.imm (I.imm h)) h1 q.2.2 (f.fw I)⟩
  .exact q.elim⟩⟩
def lU(a:Addr)(g:TCG)(u:TCS)(E:XU):Nat->Nat->CSt->CH->Prop
 |0,_,_,_=>False
 |n+1,i,q,C=>match C a with
  |some (.lst xs)=>match xs[i]? with
   |some x=>g x q C fun B C1=>u { nx:=lU a g u E n (i+1),ct:=lU a g u E n (i+1),bk:=E.nx,rt:=E.rt } B C1
   |none=>E.nx q C
  |_=>False
def cForL(B:TCE)(g:TCG)(u:TCS):TCS:=fun E q C=>B q C fun t C1=>match t with
 |.ref a=>∃n,lU a g u E n 0 q C1
 |.fz xs=>eY g u E xs q C1
 |_=>False
def oH{tg ah:Expr}{aj:List Stmt}{ak:TCE}{g:TCG}{u:TCS}(hp:PassesOwn (model X.prog X.w) X.A X.env X.xe)(hc:X.calm=true)(hi:CE X ah ak)(hg:CG X tg g)(hb:CB X aj u)(hs:∀x,foldedSetIterable ah X.env x=pure x:=by intro _;rfl):CS X (.For tg ah aj [] pos) (cForL ak g u):=⟨JS.weak (ZD hp hc (JX hi.h) hg.h hb.h hs) fun aw σ H zz=>tX zz fun ρ C E s h au f=>
 ⟨ρ,C,_,s,h,au,fun x H1 px C1 q rx h1 Y=>by
  cases rx with
  |@fz a vs ts e r=>exact⟨a,rfl,⟨vs,e.sq⟩,bH (it_fz e r) (s.imm (Y.imm h)) h1 q (f.fw Y)⟩
  |ref a =>
   obtain⟨n,q⟩:=q
   have ex:∃ys,SqL X.K H1 a ys:=by
    cases n with
    |zero=>exact q.elim
    |succ n =>
     unfold lU at q
     split at q
     .next xs e=>obtain⟨vs,Z,_⟩:=h1 a _ e;exact⟨vs,SqL.of Z⟩
     .exact q.elim
   refine⟨a,rfl,ex,fun i m ag H'=>∃S C',SRel X.K H' ag S/\HRel X.K H' C'/\Fw H1 C1 H' C'/\lU a g u E m i S C',⟨n,ρ,C1,s.imm (Y.imm h),h1,Fw.refl,q⟩,?_⟩;rintro i m av H2 ⟨ar,C2,aq,h2,ab,J⟩
   cases m with
   |zero=>exact J.elim
   |succ m =>
    unfold lU at J
    split at J
    .next xs e =>
     obtain⟨vs,Z,rv⟩:=h2 a _ e
     split at J
     .next x ex =>
      obtain⟨v,ao,rx⟩:=rv.get ex;refine .inr ⟨⟨vs,v,SqL.of Z,ao⟩,fun ag H'=>∃S C',SRel X.K H' ag S/\HRel X.K H' C'/\Fw H1 C1 H' C'/\lU a g u E m (i+1) S C',fun ag H' z=>⟨m,Br m,z⟩,fun y U hy=>?_⟩;obtain⟨rfl,hy⟩:=hy;have:=hy vs (SqL.of Z);rw[ao] at this;cases this
      exact⟨x,ar,C2,_,rx,aq,h2,J,fun ag H' S C' q' s' h' f'=>⟨S,C',_,s',h',q',⟨fun ai U af B O ae I D=>⟨af,B,ae,I,ab.trans (f'.trans D),O⟩,fun v U t B O r3 I D=>f.rt v U t B O r3 I (Y.trans (ab.trans (f'.trans D))),
       fun ai U af B O ae I D=>f.nx ai U af B O ae I (Y.trans (ab.trans (f'.trans D))),fun ai U af B O ae I D=>⟨af,B,ae,I,ab.trans (f'.trans D),O⟩⟩⟩⟩
     .next ex =>
      refine .inl ⟨⟨vs,SqL.of Z,?_⟩,f.nx av H2 ar C2 J aq h2 (Y.trans ab)⟩;rw[rv.len];exact List.getElem?_eq_none_iff.mp ex
    .exact J.elim
  |_=>exact q.elim⟩⟩
def cJ(t:TCT)(c:TCE)(q:CSt)(Q:K1):List PV->List PV->CH->Prop
 |[],g,C=>∀p,C p=none->Q (.ref p) (gQ C p (.lst g))
 |x::r,g,C=>t (some x::q) C fun b C1=>if b=true then c (some x::q) C1 fun y C2=>g.length < sizeLine/\cJ t c q Q r (g++[y]) C2 else cJ t c q Q r g C1
structure CF(X:Cx)(ifs:List Expr)(c:TCT):Prop where
 h:JF X ifs (mJ X.K sF c)
def xT:TCT:=fun _ C Q=>Q true C
def JF.weak(h:JF X g t)(w:∀σ H Q,t' σ H Q->t σ H Q):JF X g t':=⟨fun pins s σ H Q I q=>h.h pins s σ H Q I (w σ H Q q)⟩
def wK:CF X [] xT:=⟨JF.weak jf_nil fun σ H Q g=>tX g fun B C R s h q f=> f true H true C q rfl h Fw.refl⟩
def Gy(h:CT X c t):CF X [c] t:=⟨jf_one h.h⟩
def comp_it{K}{c}{Q:VK}(j:XM K H J ps)(s:SRel K H σ ρ)(h:HRel K H C)(ai:cJ t c ρ R ps [] C)(h0:HRel K H0 C0)(ah:Fw H0 C0 H C)(f:∀v H' p C',R p C'->Rep K H' v p->HRel K H' C'->Fw H0 C0 H' C'->Q v H')(B:H D=none):
  ∃W:Nat->Nat->List V->Hp->Prop,(∃m,W 0 m [] (upd H D (.lst [])))/\∀i m ys H,W i m ys H ->
   (J.stop i H/\Q (.ref D) H)\/(J.go i H/\∀x H',J.yld i H x H'->mJ K sF t (some x::σ) H' fun b H2=>
    if b=true then mJ K (Rep K) c (some x::σ) H2 fun y H3=>H3 D=some (.lst ys)/\ys.length < sizeLine/\∃S,S < m/\W (i+1) S (ys++[y]) (upd H3 D (.lst (ys++[y])))
    else ∃S,S < m/\W (i+1) S ys H2):=by
 refine⟨fun i m ys H'=>m=ps.length - i/\i<=ps.length/\∃q C',H' D=some (.lst ys)/\C' D=none/\Reps K H' ys q/\HRel K H' C'/\Fw H C H' C'/\cJ t c ρ R (ps.drop i) q C',
  ⟨ps.length,rfl,AY _,[],C,fQ,h.fresh B,.nil,h.new B _,Fw.new B _,ai⟩,?_⟩
 rintro i m ys H1 ⟨rfl,hi,q,C1,e1,n1,r1,h1,U,q1⟩;have O:=U.imm h
 by_cases I:i < ps.length
 .refine .inr ⟨j.go i H1 I O,fun x H2 y=>?_⟩
  obtain⟨rfl,y⟩:=j.yl i H1 x H2 O y;have rx:=y _ (AO I);rw[A4 I] at q1;refine⟨some ps[i]::ρ,C1,_,.cons rx (s.imm O),h1,q1,fun b H3 b' C3 q3 e h3 Y=>?_⟩;cases e;obtain⟨n3,e3⟩:=Y D (by rw[n1];rfl) (by lia);rw[e1] at e3;rw[n1] at n3;have Z:=Y.imm h1
  cases b with
  |true =>
   refine⟨some ps[i]::ρ,C3,_,.cons (rx.imm Z) ((s.imm O).imm Z),h3,q3,fun v H4 p C4 q4 r4 h4 ae=>yF (ae D (by rw[n3];rfl) (by lia)) fun n4 e4=>?_⟩;rw[e3] at e4;rw[n3] at n4;have m4:Imm H4 (upd H4 D (.lst (ys++[v]))):=Imm.mut e4 rfl _;refine⟨e4,by rw[r1.len];exact q4.1,ps.length - (i+1),by lia,rfl,I,q++[p],C4,fQ,n4,?_,?_,?_,q4.2⟩
   .exact (((r1.imm Z).imm (ae.imm h3)).append (.cons r4 .nil)).imm m4
   .intro a o g
    have af:a≠D:=fun z=>by subst z;rw[n4] at g;cases g
    exact(h4 a o g).imm m4 (dQ af)
   .intro a g ab
    have af:a≠D:=fun z=>ab (z▸B);exact yF ((U.trans (Y.trans ae)) a g ab) fun x1 x2=>⟨x1,(dQ af).trans x2⟩
  |false =>
   exact⟨ps.length - (i+1),by lia,rfl,I,q,C3,e3,n3,r1.imm Z,h3,U.trans Y,q3⟩
 .have e:i=ps.length:=by lia
  subst e;rw[B8] at q1;refine .inl ⟨j.st H1 O,f (.ref D) H1 (.ref D) _ (q1 D n1) (.ref D) ?_ ?_⟩
  .intro a o g
   by_cases z:a=D
   .subst z;rw[jQ] at g;cases g;exact⟨ys,e1,r1⟩
   .rw [wQ z] at g;exact h1 a o g
  .intro a g ab
   obtain⟨x1,x2⟩:=ah a g ab;have ag:H a≠none:=by rwa [x2]
   obtain⟨y1,y2⟩:=U a (by rwa [x1]) ag;exact⟨(wQ (show a≠D from fun z=>ag (z▸B))).trans (y1.trans x1),y2.trans x2⟩
structure CI(X:Cx)(tg it:Expr)(wi:TI)(c:CSt->CH->(List PV->CH->Prop)->Prop):Prop where
 j:JI X tg it wi
 w:∀σ H ρ C R Q,SRel X.K H σ ρ->HRel X.K H C->c ρ C R->(∀J H' ps C',R ps C'->XM X.K H' J ps->HRel X.K H' C'->Fw H C H' C'->Q J H')->wi σ H Q
def cItT(g:TCE):CSt->CH->(List PV->CH->Prop)->Prop:=fun q C Q=>g q C fun t C1=>match t with
 |.tup xs=>Q xs C1
 |.kt xs=>Q xs C1
 |_=>False
def dU(h:CE X e B):CI X tg e (iTup X.K (mJ X.K (Rep X.K) B)) (cItT B):=⟨Ys h.h,fun σ H J C R Q s h q f=>⟨J,C,_,s,h,q,fun x H1 O C1 g I h1 D=>by
  cases I with
  |@tup a vs ts e r=>exact⟨a,rfl,⟨vs,SqT.of e⟩,f _ H1 ts C1 g (aA (SqT.of e) r) h1 D⟩
  |@kt a vs ts e r=>exact⟨a,rfl,⟨vs,e⟩,f _ H1 ts C1 g (aA e r) h1 D⟩
  |_=>exact g.elim⟩⟩
def cItR(g:TCA):CSt->CH->(List PV->CH->Prop)->Prop:=fun q C Q=>g q C fun ts C1=>match ts with
 |[.int j]=>-(2 ^ 62)<=j/\j < 2 ^ 62/\Q ((List.range j.toNat).map fun k=>PV.int (k:Nat)) C1
 |_=>False
def Z1(J:Gl X "range")(O:X.mg "range" = none)(I:CA X [a] B)(S:wX a=true:=by rfl):CI X tg (.Call (.Name "range" p) [a] [] Z) (YJ (mJ X.K (Reps X.K) B)) (cItR B):=⟨cO J O I.h S,fun σ H Y C R Q s h q f=>⟨Y,C,_,s,h,q,fun xs H1 ts C1 g rs h1 D=>by
  split at g
  .next j =>
   cases rs with
   |cons U r =>
    cases r;cases U;exact⟨j,rfl,g.1,g.2.1,f _ H1 _ C1 g.2.2 YC h1 D⟩
  .exact g.elim⟩⟩
def GK(q:CSt->CH->(List PV->CH->Prop)->Prop)(t:TCT)(c:TCE):TCE:=fun g C Q=>q g C fun ps C1=>cJ t c g Q ps [] C1
def fO{c}(hi:CI X tg it S B){Q:VK}(h:mJ X.K (Rep X.K) (GK B t c) σ H Q):Qv S (mJ X.K sF t) (mJ X.K (Rep X.K) c) σ H Q :=tX h fun U C R s h q f=>hi.w σ H U C _ _ s h q fun J H' ps C' O j h' g D I=>comp_it j (s.imm (g.imm h)) h' O h g f I
def hW{S J:Expr}{x:Str}{Y:Pos}{U:List Expr}{I:Scope}{wi:TI}{O:CSt->CH->(List PV->CH->Prop)->Prop}{t:TCT}{c:TCE}(hc:X.calm=true)(Z:(x::X.N).Nodup)(K:∃g,aB X x I g)(hi:CI X (.Name x Y) J wi O)(ht:∀g B C D q,CF (cK X x I g B C D q) U t)(ab:∀g B C D q,CE (cK X x I g B C D q) S c)(hs:∀v,foldedSetIterable J X.env v=pure v:=by intro _;rfl):CE X (.ListComp S [⟨.Name x Y,J,U,0⟩] I pos) (GK O t c) :=
 ⟨JE.weak (eC hc Z K hi.j (fun g B C D q=>(ht g B C D q).h) (fun g B C D q=>(ab g B C D q).h) hs) fun _ _ _ h=>fO hi h⟩
end
def sN(N:List Str)(ts:List PV):CSt:=ts.map some++List.replicate (N.length - ts.length) none
theorem eT{K}: ∀n,SRel K H (List.replicate n none) (List.replicate n none)
 |0=>.nil
 |n+1=>.cons trivial (eT n)
theorem QB{K}(s:SRel K H σ g):∀{vs}{ts},Reps K H vs ts->SRel K H (vs.map some++σ) (ts.map some++g)
 |_,_,.nil=>s
 |_,_,.cons h r=>.cons h (QB s r)
def X3{K}(r:Reps K H vs ts):SRel K H (L2.start N vs) (sN N ts):=by
 delta L2.start sN
 exact r.len▸QB (eT _) r
section
variable {P:Program}{w:World}{K:De}{mg:Str->Option Value}{base:Heap}
def Fun.okC{st}(F:Fun K x I st f fd)(S:FnScope N ps (nX st))(Z:∀ts C R,G ts C R->ts.length=ps.length)(O:∀B A D s H E,Room k (A.deeper (envOfC I (nX st) s.heap.objs.size f B)) ->
   ∃c,CB (Xx CX0 P w K mg base N I (nX st) f B A D s H E).nox (uV st) c/\∀ts C R,G ts C R->c { nx:=fun _ C'=>R .non C',rt:=R } (sN N ts) C):FnOk P w K mg base CX0 (k+1) f fd ps (spC K G):=by
 refine F.okJ S ?_ ?_
 .rintro vs H Q E ⟨ts,C,R,r,h,g,f⟩
  exact r.len▸Z ts C R g
 .rintro B A D s H vs Q E Y ⟨ts,C,R,r,h,g,f⟩
  exact zX (O B A D s H E Y) fun c U ab=>⟨_,U.h,sN N ts,C,_,X3 r,h,ab ts C R g,⟨fun af H' ae C' q s' h' J=>f .non H' .non C' q .non h' J,f,fun _ _ _ _ q _ _ _=>q.elim,fun _ _ _ _ q _ _ _=>q.elim⟩⟩
end
section
variable {X:Cx}{a b c e o i:Expr}{es:List Expr}{pos:Pos}
@[irreducible] def cI(g:Int->Int->PV):R2C:=fun x y C Q=>match x,y with
 |.int i,.int j=>Q (g i j) C
 |_,_=>False
def cIc(P:Int->Int->Prop)(g:Int->Int->PV):R2C:=fun x y C Q=>match x,y with
 |.int i,.int j=>P i j/\Q (g i j) C
 |_,_=>False
def Kf{K}(B:∀i j H,Rep K H (g i j) (g' i j)):Cop K (rI0 g) (cI g'):=fun x y J O H C Q R D I h q f=>by
 delta cI at q
 split at q
 .cases D;cases I
  exact⟨_,_,rfl,rfl,f _ H _ C q (B _ _ _) h Fw.refl⟩
 .exact q.elim
def uI{K}(B:∀i j H,Rep K H (g i j) (g' i j)):Cop K (rI P g) (cIc P g'):=fun x y J O H C Q R D I h q f=>by
 delta cIc at q
 split at q
 .cases D;cases I
  exact⟨_,_,rfl,rfl,q.1,f _ H _ C q.2 (B _ _ _) h Fw.refl⟩
 .exact q.elim
def jJ{K}:Cop K (rI0 fun i j=>.int (i - j)) (cI fun i j=>.int (i - j)):=Kf fun _ _ _=>.int _
def bU{K}:Cop K (rI CMul fun i j=>.int (i * j)) (cIc CMul fun i j=>.int (i * j)):=uI fun _ _ _=>.int _
def Xy{K}:Cop K (rI (fun _ j=>0 < j/\j < 18446744073709551616) fun i j=>.int (i / j)) (cIc (fun _ j=>0 < j/\j < 18446744073709551616) fun i j=>.int (i / j)):=uI fun _ _ _=>.int _
def bV{K}:Cop K (rI (fun _ j=>0 < j) fun i j=>.int (i % j)) (cIc (fun _ j=>0 < j) fun i j=>.int (i % j)):=uI fun _ _ _=>.int _
def aV{K}:Cop K (rI CPow fun i j=>.int (i ^ j.toNat)) (cIc CPow fun i j=>.int (i ^ j.toNat)):=uI fun _ _ _=>.int _
def mV{K}:Cop K (rI0 fun i j=>.bl (decide (i < j))) (cI fun i j=>.bl (decide (i < j))):=Kf fun _ _ _=>.bl _
def vP{K}:Cop K (rI0 fun i j=>.bl (decide (i<=j))) (cI fun i j=>.bl (decide (i<=j))):=Kf fun _ _ _=>.bl _
def sJ{K}:Cop K (rI0 fun i j=>.bl (decide (j < i))) (cI fun i j=>.bl (decide (j < i))):=Kf fun _ _ _=>.bl _
def cNeg:PV->CH->K1->Prop:=fun x C Q=>match x with
 |.int i=>Q (.int (-i)) C
 |_=>False
def gV{K}:Cun K (rU fun i=>.int (-i)) cNeg:=fun x B H C Q R g h q f=>by
 delta cNeg at q
 split at q
 .cases g;exact⟨_,rfl,f _ H _ C q (.int _) h Fw.refl⟩
 .exact q.elim
def xI(s:Same H H'):Fw H C H' C:=fun a c n=>⟨rfl,by
 cases e:H a with
 |none=>exact absurd e n
 |some o=>exact s a o e⟩
def qP{K}(h:HRel K H C)(s:Same H H'):HRel K H' C:=fun a o c=>zX ((h a o c).mut) fun u e _=>(h a o c).imm (fun b v _ e=>s b v e) ((s a u e).trans e.symm)
@[irreducible] def gH:R2C:=fun x y C Q=>match x,y with
 |.int i,.int j=>Q (.int (i+j)) C
 |.str i,.str j=>i.length+j.length<=sizeLine/\Q (.str (i++j)) C
 |.tup xs,.tup ys=>xs.length+ys.length<=sizeLine/\Q (.tup (xs++ys)) C
 |.ref a,.ref b=>match C a,C b with
  |some (.lst xs),some (.lst ys)=>xs.length+ys.length<=sizeLine/\∀p,C p=none->Q (.ref p) (gQ C p (.lst (xs++ys)))
  |_,_=>False
 |_,_=>False
abbrev rAddC:R2:=fun x y H Q=>rI0 (fun i j=>.int (i+j)) x y H Q\/((∃i j,x=.str i/\y=.str j/\i.length+j.length<=sizeLine/\Q (.str (i++j)) H)\/(rCatU x y H Q\/rCat x y H Q))
def uX:OpR X (binaryOp .Add) rAddC:=OpR.or op_add (OpR.or Zj (OpR.or op_catU op_cat))
def gX{K}:Cop K rAddC gH:=fun x y px ab H C Q R B D h q f=>by
 delta gH at q
 split at q
 .cases B;cases D
  exact .inl ⟨_,_,rfl,rfl,f _ H _ C q (.int _) h Fw.refl⟩
 .cases B;cases D
  exact .inr (.inl ⟨_,_,rfl,rfl,q.1,f _ H _ C q.2 (.str _) h Fw.refl⟩)
 .cases B with
  |tup e r=>cases D with
   |tup O I =>
    refine .inr (.inr (.inl ⟨_,_,_,_,rfl,rfl,e,O,by rw[r.len,I.len];exact q.1,fun z H' s hz _=>?_⟩));exact f _ H' _ C q.2 (.tup hz ((r.append I).imm fun b v _ e=>s b v e)) (qP h s) (xI s)
 .split at q
  .next xs ys S U =>
   refine zX (h _ _ S) fun vs Z rv=>zX (h _ _ U) fun ae Y J=>?_;cases B;cases D
   refine .inr (.inr (.inr ⟨_,_,_,_,rfl,rfl,Z,Y,by rw[rv.len,J.len];exact q.1,fun p g=>?_⟩));exact f _ _ _ _ (q.2 p (h.fresh g)) (.ref p) (h.lay g ⟨_,fQ,(rv.append J).imm (Imm.new g _)⟩) (Fw.lay g _ _)
  .exact q.elim
 .exact q.elim
def sEq:PV->PV->Option Bool
 |.non,.non=>some true | .non,.int _=>some false | .int _,.non=>some false | .non,.bl _=>some false | .bl _,.non=>some false | .non,.str _=>some false | .str _,.non=>some false
 |.int i,.int j=>some (decide (i=j)) | .bl b,.bl c=>some (decide (b=c)) | .str x,.str y=>some (decide (x=y))
 |.int _,.str _=>some false | .str _,.int _=>some false | .bl _,.str _=>some false | .str _,.bl _=>some false
 |_,_=>none
@[irreducible] def cEq(k:Bool->Bool):R2C:=fun x y C Q=>match sEq x y with
 |some b=>Q (.bl (k b)) C
 |none=>False
def toV:PV->Option V
 |.non=>some .non | .bl b=>some (.bl b) | .int i=>some (.int i) | .str x=>some (.str x) | _=>none
def Jo{K}(r:Rep K H x g)(e:toV g=some v):x=v:=by
 cases r<;>cases e<;>rfl
def sEq_toV{b}(e:sEq g q=some b):∃v u,toV g=some v/\toV q=some u/\scal v u=true/\decide (v=u)=b:=by
 cases g<;>cases q<;>cases e<;>exact⟨_,_,rfl,rfl,rfl,by simp⟩
def Jr{K}{b}(I:Rep K H x B)(J:Rep K H y D)(e:sEq B D=some b):scal x y=true/\decide (x=y)=b:=by
 refine ZS (sEq_toV e) fun v u h1 h2 g q=>?_;cases Jo I h1;cases Jo J h2;exact⟨g,q⟩
def iQ{K}:Cop K rEq (cEq id):=fun x y D I H C Q R g B h q f=>by
 delta cEq at q
 split at q
 .next b e =>
  obtain⟨h1,h2⟩:=Jr g B e;exact⟨h1,h2▸f _ H _ C q (.bl _) h Fw.refl⟩
 .exact q.elim
def bW{K}:Cop K rNe (cEq not):=fun x y D I H C Q R g B h q f=>by
 delta cEq at q
 split at q
 .next b e =>
  obtain⟨h1,h2⟩:=Jr g B e;exact⟨h1,h2▸f _ H _ C q (.bl _) h Fw.refl⟩
 .exact q.elim
def zB:PV->Bool
 |.non=>true
 |_=>false
def cIs(k:Bool->Bool):R2C:=fun x y C Q=>match y with
 |.non=>Q (.bl (k (zB x))) C
 |_=>False
def Xb{K}(r:Rep K H x g):decide (x=.non)=zB g:=by
 cases r<;>simp[zB]
def yI{K}:Cop K (fun x y H Q=>y=.non/\Q (.bl (decide (x=.non))) H) (cIs id):=fun x y D I H C Q R g B h q f=>by
 cases B with
 |non=>exact⟨rfl,by exact(Xb g)▸f _ H _ C q (.bl _) h Fw.refl⟩
 |_=>exact q.elim
def gR{K}:Cop K (fun x y H Q=>y=.non/\Q (.bl (!decide (x=.non))) H) (cIs not):=fun x y D I H C Q R g B h q f=>by
 cases B with
 |non=>exact⟨rfl,by exact(Xb g)▸f _ H _ C q (.bl _) h Fw.refl⟩
 |_=>exact q.elim
def cAt(xs:List PV)(i:Int)(C:CH)(Q:K1):Prop:=match atI xs i with
 |some v=>Q v C
 |none=>False
@[irreducible] def cIx:R2C:=fun x y C Q=>match x,y with
 |.tup xs,.int i=>cAt xs i C Q
 |.kt xs,.int i=>cAt xs i C Q
 |.fz xs,.int i=>cAt xs i C Q
 |.ref a,.int i=>match C a with
  |some (.lst xs)=>cAt xs i C Q
  |_=>False
 |.str z,.int i=>z.length<=sizeLine/\match atI z.cps.toList i with
  |some c=>Q (.str ⟨#[c]⟩) C
  |none=>False
 |_,_=>False
theorem Reps.at{K}{i}(r:Reps K H vs ts)(e:atI ts i=some t):∃v,atI vs i=some v/\Rep K H v t:=by
 delta atI at e ⊢
 rw[r.len]
 cases z:ixN ts.length i with
 |none=>rw[z] at e;cases e
 |some j =>
  rw[z] at e;exact r.get e
def Qf{K}{i}(r:Reps K H vs ts)(q:cAt ts i C R):∃v t,atI vs i=some v/\Rep K H v t/\R t C:=by
 delta cAt at q
 split at q
 .next t e =>
  exact zX (r.at e) fun v g B=>⟨v,t,g,B,q⟩
 .exact q.elim
def cop_ix{K}:Cop K (rIx K) cIx:=fun x y U Y H C Q R D I h q f=>by
 delta cIx at q
 split at q
 .cases I
  cases D with
  |tup e r =>
   obtain⟨v,t,g,B,q⟩:=Qf r q;exact .inr (.inl ⟨_,_,_,v,rfl,rfl,SqT.of e,g,f _ H _ C q B h Fw.refl⟩)
 .cases I
  cases D with
  |kt e r =>
   obtain⟨v,t,g,B,q⟩:=Qf r q;exact .inr (.inl ⟨_,_,_,v,rfl,rfl,e,g,f _ H _ C q B h Fw.refl⟩)
 .cases I
  cases D with
  |fz e r =>
   obtain⟨v,t,g,B,q⟩:=Qf r q;exact .inl ⟨_,_,_,v,rfl,rfl,e.sq,g,f _ H _ C q B h Fw.refl⟩
 .cases I
  split at q
  .next xs e =>
   obtain⟨vs,O,rv⟩:=(h _ _ e);cases D;exact uZ (Qf rv q) fun v t g B q=>.inl ⟨_,_,_,v,rfl,rfl,SqL.of O,g,f _ H _ C q B h Fw.refl⟩
  .exact q.elim
 .cases I;cases D
  obtain⟨S,J⟩:=q
  split at J
  .next c e=>exact .inr (.inr ⟨_,_,c,rfl,rfl,S,e,f _ H _ C J (.str _) h Fw.refl⟩)
  .exact J.elim
 .exact q.elim
def ix_seqC:IxR X (rIx X.K):=ix_seq
@[irreducible] def eR:GC:=fun ts C Q=>match ts with
 |[.tup xs]=>Q (.int xs.length) C
 |[.kt xs]=>Q (.int xs.length) C
 |[.fz xs]=>Q (.int xs.length) C
 |[.ref a]=>match C a with
  |some (.lst xs)=>Q (.int xs.length) C
  |some (.dK kvs)=>Q (.int kvs.length) C
  |_=>False
 |[.str z]=>z.length<=sizeLine/\Q (.int z.length) C
 |_=>False
abbrev rLenC(K:De):List V->Hp->VK->Prop:=fun xs H Q=>(∃p ys,xs=[.ref p]/\(SqL K H p ys\/SqT K H p ys)/\Q (.int ys.length) H)\/((∃a kvs,xs=[V.ref a]/\H a=some (.dK kvs)/\Q (.int kvs.length) H)\/∃z,xs=[.str z]/\z.length<=sizeLine/\Q (.int z.length) H)
def Vv:CallR X (.builtin "len") (rLenC X.K):=CallR.or tI (CallR.or Vu oI)
def iX{K}(r:Reps K H xs [t]):∃v,xs=[v]/\Rep K H v t:=by
 cases r with
 |cons h r=>cases r;exact⟨_,rfl,h⟩
def oG{K}(r:Reps K H xs [t,u]):∃v w,xs=[v,w]/\Rep K H v t/\Rep K H w u:=by
 cases r with
 |cons h r=>obtain⟨w,rfl,h'⟩:=iX r;exact⟨_,w,rfl,h,h'⟩
def cbi_len{K}:Cbi K (rLenC K) eR:=fun xs ps H C Q R rs h q f=>by
 delta eR at q
 split at q
 .obtain ⟨v,rfl,r⟩:=iX rs
  cases r with
  |tup e r=>exact .inl ⟨_,_,rfl,.inr (SqT.of e),f _ H _ C (by rwa [r.len]) (.int _) h Fw.refl⟩
 .obtain ⟨v,rfl,r⟩:=iX rs
  cases r with
  |kt e r=>exact .inl ⟨_,_,rfl,.inr e,f _ H _ C (by rwa [r.len]) (.int _) h Fw.refl⟩
 .obtain ⟨v,rfl,r⟩:=iX rs
  cases r with
  |fz e r=>exact .inl ⟨_,_,rfl,.inl e.sq,f _ H _ C (by rwa [r.len]) (.int _) h Fw.refl⟩
 .obtain ⟨v,rfl,r⟩:=iX rs
  split at q
  .next xs e =>
   obtain⟨vs,g,rv⟩:=h _ _ e;cases r;exact .inl ⟨_,_,rfl,.inl (SqL.of g),f _ H _ C (by rwa [rv.len]) (.int _) h Fw.refl⟩
  .next kvs e =>
   obtain⟨vs,g,rv⟩:=h _ _ e;cases r;exact .inr (.inl ⟨_,_,rfl,g,f _ H _ C (by rwa [Paired.length rv]) (.int _) h Fw.refl⟩)
  .exact q.elim
 .obtain ⟨v,rfl,r⟩:=iX rs
  cases r;exact .inr (.inr ⟨_,rfl,q.1,f _ H _ C q.2 (.int _) h Fw.refl⟩)
 .exact q.elim
def tyP(C:CH):PV->Option Ty
 |.non=>some .non
 |.bl _=>some .bl
 |.int _=>some .int
 |.str _=>some .str
 |.tup _=>some .tup
 |.ref a=>match C a with
  |some (.lst _)=>some .lst
  |some (.dK _)=>some .dct
  |_=>none
 |_=>none
def lE{K}(r:Rep K H x t)(h:HRel K H C)(e:tyP C t=some n):tyN H x=some n:=by
 cases r with
 |tup q _=>cases e;show(H _).bind tyH=_;rw[q];rfl
 |ref a =>
  delta tyP at e
  dsimp only at e
  split at e
  .next xs c=>cases e;obtain⟨vs,g,_⟩:=h _ _ c;show(H _).bind tyH=_;rw[g];rfl
  .next xs c=>cases e;obtain⟨vs,g,_⟩:=h _ _ c;show(H _).bind tyH=_;rw[g];rfl
  .cases e
 |kt _ _=>cases e
 |fz _ _=>cases e
 |ty _=>cases e
 |vw _=>cases e
 |_=>cases e;rfl
def rF(n:String):Option Ty:=[Ty.non,.bl,.int,.str,.lst,.tup,.dct].find? fun t=>kJ t==n
def Qs(h:rF n=some t):n=kJ t:=by
 have:=List.find?_some h;exact(eq_of_beq this).symm
@[irreducible] def cIsi:GC:=fun ts C Q=>match ts with
 |[x,.ty n]=>match rF n,tyP C x with
  |some T,some k=>Q (.bl (bZ k T)) C
  |_,_=>False
 |_=>False
def lX{K}:Cbi K (fun xs H Q=>∃x T n,xs=[x,.ty (kJ T)]/\tyN H x=some n/\Q (.bl (bZ n T)) H) cIsi:=fun xs ps H C Q R rs h q f=>by
 delta cIsi at q
 split at q
 .split at q
  .next T k g B =>
   obtain⟨v,w,rfl,D,I⟩:=oG rs;cases I;exact(Qs g)▸⟨v,T,k,rfl,lE D h B,f _ H _ C q (.bl _) h Fw.refl⟩
  .exact q.elim
 .exact q.elim
def cAbs:GC:=fun ts C Q=>match ts with
 |[.int i]=>Q (.int (if i < 0 then -i else i)) C
 |_=>False
def cbi_abs{K}:Cbi K (fun xs H Q=>∃i,xs=[.int i]/\Q (.int (if i < 0 then -i else i)) H) cAbs:=fun xs ps H C Q R rs h q f=>by
 delta cAbs at q
 split at q
 .obtain ⟨v,rfl,r⟩:=iX rs
  cases r;exact⟨_,rfl,f _ H _ C q (.int _) h Fw.refl⟩
 .exact q.elim
@[irreducible] def uP:GC:=fun ts C Q=>match ts with
 |[.tup xs]=>Q (.tup xs) C
 |[.ref a]=>match C a with
  |some (.lst xs)=>Q (.tup xs) C
  |_=>False
 |_=>False
def cbi_tup{K}:Cbi K (fun xs H Q=>∃p ys,xs=[.ref p]/\((SqL K H p ys/\∀l,H l=none->Q (.ref l) (upd H l (.tup ys)))\/(SqT K H p ys/\Q (.ref p) H))) uP:=fun xs ps H C Q R rs h q f=>by
 delta uP at q
 split at q
 .obtain ⟨v,rfl,r⟩:=iX rs
  cases r with
  |tup e r=>exact⟨_,_,rfl,.inr ⟨SqT.of e,f _ H _ C q (.tup e r) h Fw.refl⟩⟩
 .obtain ⟨v,rfl,r⟩:=iX rs
  split at q
  .next xs e =>
   obtain⟨vs,B,rv⟩:=(h _ _ e);cases r;exact⟨_,_,rfl,.inl ⟨SqL.of B,fun l g=>f _ _ _ C q (.tup fQ (rv.imm (Imm.new g _))) (h.new g _) (Fw.new g _)⟩⟩
  .exact q.elim
 .exact q.elim
def GH:GC:=fun ts C Q=>match ts with
 |[.tup xs]=>∀p,C p=none->Q (.ref p) (gQ C p (.lst xs))
 |[.ref a]=>match C a with
  |some (.lst xs)=>∀p,C p=none->Q (.ref p) (gQ C p (.lst xs))
  |_=>False
 |_=>False
def pI{K}:Cbi K (fun xs H Q=>∃p ys,xs=[.ref p]/\(SqL K H p ys\/SqT K H p ys)/\∀l,H l=none->Q (.ref l) (upd H l (.lst ys))) GH:=fun xs ps H C Q R rs h q f=>by
 delta GH at q
 split at q
 .obtain ⟨v,rfl,r⟩:=iX rs
  cases r with
  |tup e r=>exact⟨_,_,rfl,.inr (SqT.of e),fun l g=>f _ _ _ _ (q l (h.fresh g)) (.ref l) (h.lay g ⟨_,fQ,r.imm (Imm.new g _)⟩) (Fw.lay g _ _)⟩
 .obtain ⟨v,rfl,r⟩:=iX rs
  split at q
  .next xs e =>
   obtain⟨vs,B,rv⟩:=(h _ _ e);cases r;exact⟨_,_,rfl,.inl (SqL.of B),fun l g=>f _ _ _ _ (q l (h.fresh g)) (.ref l) (h.lay g ⟨_,fQ,rv.imm (Imm.new g _)⟩) (Fw.lay g _ _)⟩
  .exact q.elim
 .exact q.elim
def jS:List PV->Option (List Bool)
 |[]=>some []
 |.bl b::r=>(jS r).map (b :: ·)
 |_=>none
@[irreducible] def cAll:GC:=fun ts C Q=>match ts with
 |[.ref a]=>match C a with
  |some (.lst xs)=>match jS xs with
   |some bs=>Q (.bl (bs.all id)) C
   |none=>False
  |_=>False
 |_=>False
def Vz{K}(r:Reps K H vs ts)(e:jS ts=some bs):vs=bs.map V.bl:=by
 induction ts generalizing vs bs with
 |nil=>cases r;cases e;rfl
 |cons t ts g =>
  cases r with
  |@cons v _ vs _ h r =>
   cases t with
   |bl b =>
    unfold jS at e
    cases z:jS ts with
    |none=>rw[z] at e;cases e
    |some cs =>
     rw[z] at e;injection e with e
     subst e;cases h;rw[g r z];rfl
   |_=>cases e
def Ki{K}:Cbi K (fun xs H Q=>∃p ys,xs=[.ref p]/\SqL K H p (List.map V.bl ys)/\Q (.bl (ys.all id)) H) cAll:=fun xs ps H C Q R rs h q f=>by
 delta cAll at q
 split at q
 .obtain ⟨v,rfl,r⟩:=iX rs
  split at q
  .next xs e =>
   split at q
   .next bs g =>
    obtain⟨vs,B,rv⟩:=(h _ _ e);cases r;have:=Vz rv g;subst this;exact⟨_,bs,rfl,SqL.of B,f _ H _ C q (.bl _) h Fw.refl⟩
   .exact q.elim
  .exact q.elim
 .exact q.elim
def isL(x:PV)(C:CH):Prop:=match x with
 |.ref a=>match C a with
  |some (.lst _)=>True
  |_=>False
 |_=>False
def cBM(D:PV->List PV->CH->K1->Prop)(B:TCE)(q:TCA):TCE:=fun g C Q=>B g C fun x C1=>isL x C1/\q g C1 fun xs C2=>D x xs C2 Q
def Cmt(K:De)(r:V->List V->Hp->VK->Prop)(q:PV->List PV->CH->K1->Prop):Prop:=∀x g xs ps H C Q R,Rep K H x g->Reps K H xs ps->HRel K H C->q g ps C R->(∀v H' t C',R t C'->Rep K H' v t->HRel K H' C'->Fw H C H' C'->Q v H')->r x xs H Q
def YG{K}(l:isL t C)(r:Rep K H x t)(h:HRel K H C):tyV K "list" x H:=by
 delta isL at l
 split at l
 .split at l
  .next e=>obtain⟨vs,g,_⟩:=(h _ _ e);cases r;exact .inl ⟨rfl,vs,SqL.of g⟩
  .exact l.elim
 .exact l.elim
def kE{id}{apos cpos}(pa:PlainAttrs "list")(aj:Slot "list" name id)(ah:typeOf (.builtin id)=pure (.type "method_descriptor"))(ag:MtR X id r)(hr:Cmt X.K r S)(ho:CE X o O)(Y:CA X (e::es) J)(ab:attributeBase o name X.env (eval o X.env)=eval o X.env:=by rfl)(ae:((backTo cpos (starEach (e::es) X.env)).all (fun x=>!x.1)&&(backToKw cpos (keywordEach [] X.env)).all (fun x=>x.1.isSome)
   && decide ((e::es).length+([]:List Keyword).length+(if ([]:List Keyword).isEmpty then 0 else 1) < 30))=true:=by rfl)(af:(apos.endLine==cpos.line)=true:=by rfl)(hs:wX e=true:=by rfl)(Z:es.all wX=true:=by rfl):
  CE X (.Call (.Attribute o name apos) (e::es) [] cpos) (cBM S O J):=⟨JE.weak (je_bm pa aj ah ag ho.h Y.h ab ae af hs Z) fun σ H Q zz=>tX zz fun I C R s h ai f=>
 ⟨I,C,_,s,h,ai,fun x H1 px C1 B D h1 g=>⟨YG B.1 D h1,I,C1,_,s.imm (g.imm h),h1,B.2,fun xs H2 ps C2 q2 rs h2 q=>
  hr x px xs ps H2 C2 Q R (D.imm (q.imm h1)) rs h2 q2 fun v H' t C' q' r' h' U=>f v H' t C' q' r' h' (g.trans (q.trans U))⟩⟩⟩
@[irreducible] def sU:PV->List PV->CH->K1->Prop:=fun x ts C Q=>match x,ts with
 |.ref a,[y]=>match C a with
  |some (.lst xs)=>xs.length < sizeLine/\Q .non (gQ C a (.lst (xs++[y])))
  |_=>False
 |_,_=>False
def Z0{K}:Cmt K Jz sU:=fun x D xs ps H C Q R B rs h q f=>by
 delta sU at q
 split at q
 .split at q
  .next ys e =>
   obtain⟨vs,g,rv⟩:=(h _ _ e);obtain⟨v,rfl,r⟩:=iX rs;cases B;exact⟨_,vs,v,rfl,rfl,g,by exact rv.len▸q.1,f _ _ _ _ q.2 .non (h.put g rfl ⟨_,fQ,(rv.append (.cons r .nil)).imm (Imm.mut g rfl _)⟩) (Fw.put e _ _)⟩
  .exact q.elim
 .exact q.elim
end
def kW:PV->Option Key
 |.non=>some (.inl none)
 |.int i=>some (.inl (some i))
 |.str x=>some (.inr x)
 |_=>none
def zK:Key->PV
 |.inl none=>.non
 |.inl (some i)=>.int i
 |.inr x=>.str x
def xW k:kW (zK k)=some k:=by rcases k with (_ | i) | x<;>rfl
def KG{K}k:Rep K H (kV k) (zK k):=by
 rcases k with (_ | i) | x
 .exact .non
 .exact .int i
 .exact .str x
def gG{K}(r:Rep K H v t)(e:kW t=some k):v=kV k:=by
 cases r<;>cases e<;>rfl
def xK(kvs:List (Key×PV))(k:Key):Option PV:=(kvs.find? fun g=>decide (g.1=k)).map (·.2)
def dZ(kvs:List (Key×PV))(k:Key)(v:PV):List (Key×PV):=if (kvs.any fun g=>decide (g.1=k))=true then kvs.map fun g=>if g.1=k then (g.1,v) else g else kvs++[(k,v)]
def jF(kvs B:List (Key×PV)):List (Key×PV):=B.foldl (fun q g=>dZ q g.1 g.2) kvs
section
variable {K:De}{H:Hp}{vs:List (Key×V)}{kvs:List (Key×PV)}
def KP.val(r:KP K H vs kvs)k:(∃v t,vB vs k=some v/\xK kvs k=some t/\Rep K H v t)\/(vB vs k=none/\xK kvs k=none):=by
 induction r with
 |nil=>exact .inr ⟨rfl,rfl⟩
 |@cons p q l1 l2 h r g =>
  delta vB xK
  rw[BL,BL,h.1]
  by_cases e:q.1=k
  .grind
  .rwa [AM e]
def KP.any(r:KP K H vs kvs)k:(vs.any fun g=>decide (g.1=k))=(kvs.any fun g=>decide (g.1=k)):=by
 induction r with
 |nil=>rfl
 |@cons p q l1 l2 h r B=>rw[BB,BB,h.1,B]
theorem KP.put(r:KP K H vs kvs)k(h:Rep K H v t):KP K H (iV vs k v) (dZ kvs k t):=by
 delta iV dZ
 rw[r.any k]
 have D:KP K H (vs.map fun g=>if g.1=k then (g.1,v) else g) (kvs.map fun g=>if g.1=k then (g.1,t) else g):=by
  induction r with
  |nil=>exact .nil
  |@cons p q l1 l2 h' r B =>
   refine .cons ?_ B
   by_cases e:q.1=k
   .lia
   .lia
 split
 .exact D
 .exact Paired.snoc r ⟨rfl,h⟩
def KP.merge(r:KP K H vs kvs)(m:KP K H D B):KP K H (xF vs D) (jF kvs B):=by
 induction m generalizing vs kvs with
 |nil=>exact r
 |@cons p q l1 l2 h _ g =>
  show KP K H (xF (iV vs p.1 p.2) l1) (jF (dZ kvs q.1 q.2) l2);rw[h.1];exact g (r.put q.1 h.2)
end
def dOf:Option CO->Option (List (Key×PV))
 |some (.dK kvs)=>some kvs
 |some (.fK kvs)=>some kvs
 |_=>none
def dOf_rd{K}(h:HRel K H C)(e:dOf (C a)=some kvs):∃vs,Rd H a (.dK vs)/\KP K H vs kvs:=by
 cases c:C a with
 |none=>rw[c] at e;cases e
 |some o =>
  rw[c] at e
  cases o with
  |lst xs=>cases e
  |dT l=>cases e
  |fT l=>cases e
  |dP l=>cases e
  |ins c dx fs=>cases e
  |dK l=>cases e;obtain⟨vs,q,r⟩:=h a _ c;exact⟨vs,.inl q,r⟩
  |fK l=>cases e;exact mG (h a _ c) fun o vs q r=>⟨vs,.inr ⟨o,q⟩,r⟩
section
variable {X:Cx}{a b c e o i f:Expr}{es:List Expr}{pos:Pos}{value:Expr}
@[irreducible] def cDIx:R2C:=fun x y C Q=>match x with
 |.ref a=>match dOf (C a),kW y with
  |some kvs,some k=>match xK kvs k with
   |some v=>Q v C
   |none=>False
  |_,_=>False
 |_=>False
def J9{K}{a}(h:HRel K H C)(g:dOf (C a)=some kvs)(O:Rep K H y J)(B:kW J=some k):
  (∃v t,DGet H a y (some v)/\xK kvs k=some t/\Rep K H v t)\/(DGet H a y none/\xK kvs k=none):=by
 obtain⟨vs,q,r⟩:=(dOf_rd h g);have D:=gG O B;subst D
 rcases r.val k with ⟨v,t,h1,h2,I⟩ | ⟨h1,h2⟩
 .exact .inl ⟨v,t,.inl ⟨vs,k,q,rfl,h1.symm⟩,h2,I⟩
 .exact .inr ⟨.inl ⟨vs,k,q,rfl,h1.symm⟩,h2⟩
def nZ(hu:X.A.units+1 < cLine)(ho:CE X o U)(hi:CE X i S)(hs:VE i):CE X (.Subscript o i pos) (cOp cDIx U S):=⟨JE.weak (eA hu ho.h hi.h hs) fun σ H Q zz=>tX zz fun O C R s h ab f=>
 ⟨O,C,_,s,h,ab,fun x H1 px C1 q1 rx h1 I=>⟨O,C1,_,s.imm (I.imm h),h1,q1,fun y H2 af C2 q ry h2 J=>by
  delta cDIx at q
  split at q
  .next a =>
   split at q
   .next kvs k Y Z =>
    split at q
    .next t D =>
     have ae:=rx.imm (J.imm h1);cases ae
     rcases J9 h2 Y ry Z with ⟨v,t',g,B,r⟩ | ⟨_,B⟩
     .rw [D] at B
      cases B;exact⟨a,v,rfl,g,f v H2 t C2 q r h2 (I.trans J)⟩
     .rw [D] at B;cases B
    .exact q.elim
   .exact q.elim
  .exact q.elim⟩⟩⟩
def YI(x:PV)(C:CH):Prop:=match x with
 |.ref a=>match C a with
  |some (.dK _)=>True
  |_=>False
 |_=>False
@[irreducible] def Ko:PV->PV->PV->CH->K1->Prop:=fun x y z C Q=>match x with
 |.ref a=>match dOf (C a),kW y with
  |some kvs,some k=>Q ((xK kvs k).getD z) C
  |_,_=>False
 |_=>False
def GJ(D B I:TCE):TCE:=fun g C Q=>D g C fun x C1=>YI x C1/\B g C1 fun y C2=>I g C2 fun z q=>Ko x y z q Q
def isDk_of{K}(d:YI t C)(r:Rep K H x t)(h:HRel K H C):∃a kvs,x=.ref a/\t=.ref a/\H a=some (.dK kvs):=by
 delta YI at d
 split at d
 .split at d
  .next e=>obtain⟨vs,g,_⟩:=(h _ _ e);cases r;exact⟨_,vs,rfl,rfl,g⟩
  .exact d.elim
 .exact d.elim
def GB{apos cpos}(hu:X.A.units+1 < cLine)(ho:CE X o ab)(ae:CE X e ck)(af:CE X f cz)(hb:attributeBase o "get" X.env (eval o X.env)=eval o X.env:=by rfl)(hl:(apos.endLine==cpos.line)=true:=by rfl)(h1:wX e=true:=by rfl)(h2:wX f=true:=by rfl):CE X (.Call (.Attribute o "get" apos) [e,f] [] cpos) (GJ ab ck cz):=⟨JE.weak (Q9 hu ho.h ae.h af.h hb hl h1 h2) fun σ H Q zz=>tX zz fun S C R s h ag f=>
 ⟨S,C,_,s,h,ag,fun x H1 px C1 Z rx h1 B=>by
  obtain⟨a,kvs,rfl,rfl,e1⟩:=isDk_of Z.1 rx h1;refine⟨a,rfl,.inl ⟨kvs,.inl e1⟩,S,C1,_,s.imm (B.imm h),h1,Z.2,fun y H2 ai C2 q2 ry h2 I=>⟨S,C2,_,(s.imm (B.imm h)).imm (I.imm h1),h2,q2,fun z Y pz U q rz O J=>?_⟩⟩;unfold Ko at q;dsimp only at q
  split at q
  .next ah k d1 d2 =>
   rcases J9 O d1 (ry.imm (J.imm h2)) d2 with ⟨v,t',g,D,r⟩ | ⟨g,D⟩
   .rw [D] at q
    exact⟨some v,g,f v Y t' U q r O (B.trans (I.trans J))⟩
   .rw [D] at q
    exact⟨none,g,f z Y pz U q rz O (B.trans (I.trans J))⟩
  .exact q.elim⟩⟩
@[irreducible] def Kn:PV->PV->PV->CH->(CH->Prop)->Prop:=fun x y v C Q=>match x with
 |.ref a=>match C a,kW y with
  |some (.dK kvs),some k=>kvs.length < sizeLine/\Q (gQ C a (.dK (dZ kvs k v)))
  |_,_=>False
 |_=>False
def cDPut(I D J:TCE):TCS:=fun E g C=>J g C fun v C1=>I g C1 fun x C2=>D g C2 fun y q=>Kn x y v q fun B=>E.nx g B
def cW{S U}(hu:X.A.units+1 < cLine)(ho:CE X o ab)(hi:CE X i S)(hv:CE X value U)(hs:swapsWith value (some (.Subscript o i pos')) pos.line X.env=pure false:=by rfl):
  CS X (.Assign [.Subscript o i pos'] value pos) (cDPut ab S U):=⟨JS.weak (JV hu ho.h hi.h hv.h hs) fun ah σ H zz=>tX zz fun I C E s h ae f=>
 ⟨I,C,_,s,h,ae,fun v H1 ai C1 q1 rv h1 q=>⟨I,C1,_,s.imm (q.imm h),h1,q1,fun x H2 px C2 q2 rx h2 B=>⟨I,C2,_,(s.imm (q.imm h)).imm (B.imm h1),h2,q2,fun y O aj C3 g ry Z D=>by
  have af:=rv.imm ((B.trans D).imm h1)
  delta Kn at g
  split at g
  .next a =>
   split at g
   .next kvs k Y e2 =>
    have ag:=rx.imm (D.imm h2);cases ag;refine zX (Z a _ Y) fun vs J r=>?_;have ey:=gG ry e2;subst ey;have m:Imm O (upd O a (.dK (iV vs k v))):=Imm.mut J rfl _;refine⟨a,_,rfl,DPut.k J ((Paired.length r)▸g.1),f.nx σ _ I _ g.2 ((((s.imm (q.imm h)).imm (B.imm h1)).imm (D.imm h2)).imm m) (Z.put J rfl ⟨_,fQ,Paired.mapP (r.put k af) fun _ _ z=>⟨z.1,z.2.imm m⟩⟩) (q.trans (B.trans (D.trans (Fw.put Y _ _))))⟩
   .exact g.elim
  .exact g.elim⟩⟩⟩⟩
def jA:List PV->Option (List (Key×PV))
 |[]=>some []
 |.tup [k,v]::r=>match kW k,jA r with
  |some k,some ps=>some ((k,v)::ps)
  |_,_=>none
 |_=>none
@[irreducible] def cDictOf:GC:=fun ts C Q=>match ts with
 |[.tup xs]=>match jA xs with
  |some ps=>ps.length<=sizeLine/\∀p,C p=none->Q (.ref p) (gQ C p (.dK (jF [] ps)))
  |none=>False
 |_=>False
@[irreducible] def cUpdP:PV->List PV->CH->K1->Prop:=fun x ts C Q=>match x,ts with
 |.ref a,[.tup xs]=>match C a,jA xs with
  |some (.dK kvs),some ps=>kvs.length+ps.length<=sizeLine/\Q .non (gQ C a (.dK (jF kvs ps)))
  |_,_=>False
 |_,_=>False
@[irreducible] def cItems(g:TCE):TCE:=fun q C Q=>g q C fun x C1=>match x with
 |.ref a=>match C1 a with
  |some (.dK _)=>Q (.vw a) C1
  |_=>False
 |_=>False
end
end CL
namespace CL
open PySem PySem.Spec L2 PySem.W
open PyProof.Rows hiding St
def xJ(c:Str×Int):PV:=.tup [.str c.1,.int c.2]
def X7:List PV->Option (List (Str×Int))
 |[]=>some []
 |.tup [.str x,.int i]::r=>(X7 r).map ((x,i) :: ·)
 |_=>none
def siK:List (Key×PV)->Option (List (Str×Int))
 |[]=>some []
 | (.inr x,.int i)::r=>(siK r).map ((x,i) :: ·)
 |_=>none
def X8(cs:List (Str×Int)):Nat->Nat->Bool:=fun i j=>Yh (cs.getD i ("",0)) (cs.getD j ("",0))
def yG(cs:List (Str×Int)):List (Str×Int):=(vJ (X8 cs) (kas_sort cs.length)).toList.map fun i=>cs.getD i ("",0)
theorem QD:∀cs,X7 (cs.map xJ)=some cs
 |[]=>rfl
 |c::cs=>by
  show(X7 (cs.map xJ)).map _=_;rw[QD cs];rfl
def siOf_eq(e:X7 ts=some cs):ts=cs.map xJ:=by
 induction ts generalizing cs with
 |nil=>cases e;rfl
 |cons t ts g =>
  unfold X7 at e
  split at e
  .lia
  .rename_i x i r h
   cases h
   cases z:X7 ts with
   |none=>rw[z] at e;cases e
   |some ds =>
    rw[z] at e;cases e;rw[g z];rfl
  .cases e
def siK_eq(e:siK ts=some cs):ts=cs.map fun c=>(Sum.inr c.1,PV.int c.2):=by
 induction ts generalizing cs with
 |nil=>cases e;rfl
 |cons t ts g =>
  unfold siK at e
  split at e
  .lia
  .rename_i x i r h
   cases h
   cases z:siK ts with
   |none=>rw[z] at e;cases e
   |some ds =>
    rw[z] at e;cases e;rw[g z];rfl
  .cases e
section
variable {K:De}{H:Hp}{X:Cx}
def si_at{cs:List (Str×Int)}(r:Reps K H ys (cs.map xJ)):∀i,i < ys.length->GP H (ys.getD i .non) (cs.getD i ("",0)):=by
 induction cs generalizing ys with
 |nil=>cases r;intro i hi;exact absurd hi (BY i)
 |cons c cs g =>
  cases r with
  |@cons v _ vs _ h r =>
   intro i hi
   cases i with
   |zero =>
    cases h with
    |tup e q =>
     obtain⟨I,J,rfl,B,D⟩:=oG q;cases B;cases D
     exact⟨_,rfl,e⟩
   |succ i=>exact g r i (Bv hi)
def Reps.getD(r:Reps K H ys ts): ∀i,i < ys.length->Rep K H (ys.getD i .non) (ts.getD i d):=by
 induction ts generalizing ys with
 |nil=>cases r;intro i hi;exact absurd hi (BY i)
 |cons c cs g =>
  cases r with
  |@cons v _ vs _ h r =>
   intro i hi
   cases i with
   |zero=>exact h
   |succ i=>exact g r i (Bv hi)
def JJ{cs:List (Str×Int)}lt(r:Reps K H ys (cs.map xJ)):Reps K H (dM lt ys) (((vJ lt (kas_sort cs.length)).toList.map fun i=>cs.getD i ("",0)).map xJ):=by
 have q:ys.length=cs.length:=by rw[r.len,AB]
 delta dM
 rw[q]
 have g:∀i∈(vJ lt (kas_sort cs.length)).toList,i < ys.length:=by
  intro i hi
  by_cases h:0 < cs.length
  .have:=(vW lt cs.length h).mem_iff.mp hi
   exact q▸BN.mp this
  .have e:cs.length=0:=by lia
   rw[e,Wb] at hi;cases hi
 generalize (vJ lt (kas_sort cs.length)).toList=l at g ⊢
 induction l with
 |nil=>exact .nil
 |cons i l B =>
  refine .cons ?_ (B fun j hj=>g j (AL _ hj));have h1:=r.getD (d:=xJ ("",0)) i (g i AF);have h2:(cs.map xJ).getD i (xJ ("",0))=xJ (cs.getD i ("",0)) :=by grind<;> rfl
  rwa [h2] at h1
@[irreducible] def aH:GC:=fun ts C Q=>match ts with
 |[.ref a]=>match C a with
  |some (.lst xs)=>match X7 xs with
   |some cs=>cs.length < 64/\∀p,C p=none->Q (.ref p) (gQ C p (.lst ((yG cs).map xJ)))
   |none=>False
  |_=>False
 |[.vw a]=>match C a with
  |some (.dK kvs)=>match siK kvs with
   |some cs=>cs.length < 64/\∀p,C p=none->Q (.ref p) (gQ C p (.lst ((yG cs).map xJ)))
   |none=>False
  |_=>False
 |_=>False
abbrev Jv(X:Cx):List V->Hp->VK->Prop:=fun xs H Q=>(∃l ys lt,xs=[.ref l]/\SqL X.K H l ys/\ys.length < 64/\Srt X H ys lt/\∀p,H p=none->Q (.ref p) (upd H p (.lst (dM lt ys)))) \/
 (∃v d kvs lt,xs=[.ref v]/\H v=some (.ext (wU v d))/\H d=some (.dK kvs)/\kvs.length < 64 /\
  ∀as H1,Same H H1->Qi H1 as kvs->(∀a∈as,H a=none)->(∀a,H a=none->H1 a≠none->a∈as)->Srt X H1 (List.map V.ref as) lt/\∀p,H1 p=none->Q (.ref p) (upd H1 p (.lst (dM lt (List.map V.ref as)))))
def iD(g:X.calm=true):CallR X (.builtin "sorted") (Jv X):=CallR.or qH (nI g)
def rR:Cbi X.K (Jv X) aH:=fun xs ts H C Q R rs h q f=>by
 delta aH at q
 split at q
 .obtain ⟨v,rfl,r⟩:=iX rs
  split at q
  .next xs e =>
   split at q
   .next cs B =>
    have ex:=siOf_eq B;subst ex;obtain⟨vs,D,rv⟩:=h _ _ e;cases r;have I:vs.length=cs.length:=by rw[rv.len,AB]
    refine .inl ⟨_,vs,X8 cs,rfl,SqL.of D,by rw[I];exact q.1,V7 _ (si_at rv),fun p g=>?_⟩;exact f _ _ _ _ (q.2 p (h.fresh g)) (.ref p) (h.lay g ⟨_,fQ,(JJ (X8 cs) rv).imm (Imm.new g _)⟩) (Fw.lay g _ _)
   .exact q.elim
  .exact q.elim
 .obtain ⟨v,rfl,r⟩:=iX rs
  split at q
  .next kvs e =>
   split at q
   .next cs B =>
    have ex:=siK_eq B;subst ex;obtain⟨vs,D,rv⟩:=h _ _ e
    cases r with
    |vw Z =>
     have I:vs.length=cs.length:=by rw[Paired.length rv,AB]
     refine .inr ⟨_,_,vs,X8 cs,rfl,Z,D,by rw[I];exact q.1,fun as H1 O J Y ab=>?_⟩
     have rr:Reps X.K H1 (List.map V.ref as) (cs.map xJ):=by
      clear I Y ab q e D B
      induction cs generalizing vs as with
      |nil=>cases rv;cases J;exact .nil
      |cons c cs ih =>
       cases rv with
       |@cons p q l1 l2 h' rv =>
        cases J with
        |@cons a _ l _ S J =>
         obtain⟨k,v'⟩:=p;obtain⟨rfl,U⟩:=h';cases U;exact .cons (.tup S (.cons (.str _) (.cons (.int _) .nil))) (ih (vs:=l1) rv l J)
     refine⟨V7 _ (si_at rr),fun p g=>?_⟩;have h1:=qP h O;exact f _ _ _ _ (q.2 p (h1.fresh g)) (.ref p) (h1.lay g ⟨_,fQ,(JJ (X8 cs) rr).imm (Imm.new g _)⟩) ((xI O).trans (Fw.lay g _ _))
   .exact q.elim
  .exact q.elim
 .exact q.elim
end
section
variable {X:Cx}{pos:Pos}
@[irreducible] def cCompD(q:TCE)(t:TCT)(c:TCE):TCE:=fun g C Q=>q g C fun x C1=>match x with
 |.ref d=>match C1 d with
  |some (.dK kvs)=>cJ t c g (fun v C2=>C2 d=some (.fK kvs)/\Q v (gQ C2 d (.dK kvs))) (kvs.map fun p=>zK p.1) [] (gQ C1 d (.fK kvs))
  |_=>False
 |_=>False
structure ItOn(K:De)(S:Hp->Prop)(J:It)(ps:List PV):Prop where
 go:∀i H',i < ps.length->S H'->J.go i H'
 yl:∀i H' x H'',S H'->J.yld i H' x H''->H''=H'/\∀t,ps[i]?=some t->Rep K H' x t
 st:∀H',S H'->J.stop ps.length H'
def comp_on{K}{Q:VK}(j:ItOn K S J ps)(hS:∀H' C',HRel K H' C'->Fw H C H' C'->S H')(s:SRel K H σ ρ)(h:HRel K H C)(ai:cJ t c ρ R ps [] C)(h0:HRel K H0 C0)(ah:Fw H0 C0 H C)(f:∀v H' p C',R p C'->Rep K H' v p->HRel K H' C'->Fw H0 C0 H' C'->Q v H')(I:H D=none):
  ∃W:Nat->Nat->List V->Hp->Prop,(∃m,W 0 m [] (upd H D (.lst [])))/\∀i m ys H,W i m ys H ->
   (J.stop i H/\Q (.ref D) H)\/(J.go i H/\∀x H',J.yld i H x H'->mJ K sF t (some x::σ) H' fun b H2=>
    if b=true then mJ K (Rep K) c (some x::σ) H2 fun y H3=>H3 D=some (.lst ys)/\ys.length < sizeLine/\∃U,U < m/\W (i+1) U (ys++[y]) (upd H3 D (.lst (ys++[y])))
    else ∃U,U < m/\W (i+1) U ys H2):=by
 refine⟨fun i m ys H'=>m=ps.length - i/\i<=ps.length/\∃B C',H' D=some (.lst ys)/\C' D=none/\Reps K H' ys B/\HRel K H' C'/\Fw H C H' C'/\cJ t c ρ R (ps.drop i) B C',
  ⟨ps.length,rfl,AY _,[],C,fQ,h.fresh I,.nil,h.new I _,Fw.new I _,ai⟩,?_⟩
 rintro i m ys H1 ⟨rfl,hi,B,C1,e1,n1,r1,h1,q,q1⟩;have k1:=q.imm h
 by_cases O:i < ps.length
 .refine .inr ⟨j.go i H1 O (hS H1 C1 h1 q),fun x H2 y=>?_⟩
  obtain⟨rfl,y⟩:=j.yl i H1 x H2 (hS H1 C1 h1 q) y;have rx:=y _ (AO O);rw[A4 O] at q1;refine⟨some ps[i]::ρ,C1,_,.cons rx (s.imm k1),h1,q1,fun b H3 b' C3 q3 e h3 Y=>?_⟩;cases e;obtain⟨n3,e3⟩:=Y D (by rw[n1];rfl) (by lia);rw[e1] at e3;rw[n1] at n3;have Z:=Y.imm h1
  cases b with
  |true =>
   refine⟨some ps[i]::ρ,C3,_,.cons (rx.imm Z) ((s.imm k1).imm Z),h3,q3,fun v H4 p C4 q4 r4 h4 ae=>yF (ae D (by rw[n3];rfl) (by lia)) fun n4 e4=>?_⟩;rw[e3] at e4;rw[n3] at n4;have m4:Imm H4 (upd H4 D (.lst (ys++[v]))):=Imm.mut e4 rfl _;refine⟨e4,by rw[r1.len];exact q4.1,ps.length - (i+1),by lia,rfl,O,B++[p],C4,fQ,n4,?_,?_,?_,q4.2⟩
   .exact (((r1.imm Z).imm (ae.imm h3)).append (.cons r4 .nil)).imm m4
   .intro a o g
    have af:a≠D:=fun z=>by subst z;rw[n4] at g;cases g
    exact(h4 a o g).imm m4 (dQ af)
   .intro a g ab
    have af:a≠D:=fun z=>ab (z▸I);exact yF ((q.trans (Y.trans ae)) a g ab) fun x1 x2=>⟨x1,(dQ af).trans x2⟩
  |false =>
   exact⟨ps.length - (i+1),by lia,rfl,O,B,C3,e3,n3,r1.imm Z,h3,q.trans Y,q3⟩
 .have e:i=ps.length:=by lia
  subst e;rw[B8] at q1;refine .inl ⟨j.st H1 (hS H1 C1 h1 q),f (.ref D) H1 (.ref D) _ (q1 D n1) (.ref D) ?_ ?_⟩
  .intro a o g
   by_cases z:a=D
   .subst z;rw[jQ] at g;cases g;exact⟨ys,e1,r1⟩
   .rw [wQ z] at g;exact h1 a o g
  .intro a g ab
   obtain⟨x1,x2⟩:=ah a g ab;have ag:H a≠none:=by rwa [x2]
   obtain⟨y1,y2⟩:=q a (by rwa [x1]) ag;exact⟨(wQ (show a≠D from fun z=>ag (z▸I))).trans (y1.trans x1),y2.trans x2⟩
end
section
variable {X:Cx}{a b c e o i f:Expr}{es:List Expr}{pos:Pos}{value:Expr}
abbrev relO:Hp->Option Int->Option Int->Prop:=fun _ a b=>a=b
abbrev TCO:=CSt->CH->(Option Int->CH->Prop)->Prop
structure CPt(X:Cx)(e:Option Expr)(c:TCO):Prop where
 h:JO X e (mJ X.K relO c)
def JO.weak{e}(h:JO X e t)(w:∀σ H Q,t' σ H Q->t σ H Q):JO X e t':=⟨fun pins s σ H Q I q=>h.h pins s σ H Q I (w σ H Q q)⟩
def cNoPart:TCO:=fun _ C Q=>Q none C
def cPart(g:TCE):TCO:=fun q C Q=>g q C fun t C1=>match t with
 |.int i=>Q (some i) C1
 |_=>False
def pJ:CPt X none cNoPart:=⟨JO.weak jo_none fun σ H Q g=>tX g fun B C R s h q f=> f none H none C q rfl h Fw.refl⟩
def fJ(h:CE X e B):CPt X (some e) (cPart B):=⟨JO.weak (jo_some h.h) fun σ H Q J=>tX J fun O C R s h q f=> ⟨O,C,_,s,h,q,fun x H1 S C1 g I h1 D=>by
 split at g
 .cases I;exact⟨_,rfl,f _ H1 _ C1 g rfl h1 D⟩
 .exact g.elim⟩⟩
def uH(xs:List PV)(lo hi:Option Int):List PV:=(xs.drop (HT.sIx xs.length 0 lo)).take (HT.sIx xs.length xs.length hi - HT.sIx xs.length 0 lo)
def Reps.cut{K}(r:Reps K H vs ts)lo hi:Reps K H (Vm vs lo hi) (uH ts lo hi):=by
 delta Vm uH
 exact r.len▸(r.drop _).take _
@[irreducible] def cSlL:PV->Option Int->Option Int->CH->K1->Prop:=fun x lo hi C Q=>match x with
 |.ref a=>match C a with
  |some (.lst xs)=>∀p,C p=none->Q (.ref p) (gQ C p (.lst (uH xs lo hi)))
  |_=>False
 |_=>False
def cSl(I:PV->Option Int->Option Int->CH->K1->Prop)(B:TCE)(D ch:TCO):TCE:=fun g C Q=>B g C fun x C1=>D g C1 fun l C2=>ch g C2 fun u q=>I x l u q Q
def mW{lo}(ae:CE X e S)(hl:CPt X lo U)(hu:CPt X hi ch):CE X (.Subscript e (.Slice lo hi none p2) pos) (cSl cSlL S U ch):=⟨JE.weak (oC sl_list ae.h hl.h hu.h) fun σ H Q zz=>tX zz fun J C R s h af f=>
 ⟨J,C,_,s,h,af,fun x H1 px C1 q1 rx h1 B=>⟨J,C1,_,s.imm (B.imm h),h1,q1,fun l H2 l' C2 q2 Y h2 D=>⟨J,C2,_,(s.imm (B.imm h)).imm (D.imm h1),h2,q2,fun u H3 u' C3 g Z I O=>by
  cases Y;cases Z
  delta cSlL at g
  split at g
  .split at g
   .next xs e =>
    refine zX (I _ _ e) fun vs ab r=>?_;have ag:=rx.imm ((D.trans O).imm h1);cases ag;exact⟨_,vs,rfl,SqL.of ab,fun p q=>f _ _ _ _ (g p (I.fresh q)) (.ref p) (I.lay q ⟨_,fQ,(r.cut l u).imm (Imm.new q _)⟩) (B.trans (D.trans (O.trans (Fw.lay q _ _))))⟩
   .exact g.elim
  .exact g.elim⟩⟩⟩⟩
def Ke{i:Nat}{y x:Str}{ab O pos ae:Pos}{S J:Expr}{U:List Expr}{I:Scope}{wi:TI}{Y:CSt->CH->(List PV->CH->Prop)->Prop}{t:TCT}{c:TCE}(ag:X.N.Nodup)(hi:X.N[i]?=some y)(hy:Loc X.env.scope y)(hc:X.calm=true)(hN:(x::X.N).Nodup)(K:∃g,aB X x I g)(hI:CI X (.Name x O) J wi Y)(ht:∀g B C D q,CF (cK X x I g B C D q) U t)(ah:∀g B C D q,CE (cK X x I g B C D q) S c)(hs:∀v,foldedSetIterable J X.env v=pure v:=by intro _;rfl)(aj:swapsWith (.ListComp S [⟨.Name x O,J,U,0⟩] I pos) (some (.Name y ab)) ae.line X.env=pure true:=by rfl)(ai:X.fn y=true\/X.env.scope.names.lookup y=some .local:=by first | exact .inl rfl | exact .inr rfl | assumption):
  CS X (.Assign [.Name y ab] (.ListComp S [⟨.Name x O,J,U,0⟩] I pos) ae) (Vw i (GK Y t c)):=by
 obtain⟨g,K⟩:=K;refine⟨JS.weak (js_setC (te:=mJ X.K (Rep X.K) c) (tc:=mJ X.K sF t) ag hi hy hc hN K hI.j (fun B C D q=>(ht g B C D q).h) (fun B C D q=>(ah g B C D q).h) hs aj ai) fun af σ H zz=>tX zz fun ρ C E s h ak f=> ?_⟩;exact fO (Q:=fun x H'=>af.nx (σ.set i (some x)) H') hI ⟨ρ,C,_,s,h,ak,fun x H1 O C1 q1 rx h1 Z=>f.nx _ H1 _ C1 q1 ((s.imm (Z.imm h)).set rx i) h1 Z⟩
def nU(S:CH->Prop)(t:TCT)(c:TCE)(q:CSt)(Q:K1):List PV->List PV->CH->Prop
 |[],g,C=>S C/\∀p,C p=none->Q (.ref p) (gQ C p (.lst g))
 |x::r,g,C=>S C/\t (some x::q) C fun b C1=>if b=true then c (some x::q) C1 fun y C2=>g.length < sizeLine/\nU S t c q Q r (g++[y]) C2 else nU S t c q Q r g C1
structure ItS(K:De)(S:CH->Prop)(J:It)(ps:List PV):Prop where
 go:∀i H' C',i < ps.length->HRel K H' C'->S C'->J.go i H'
 yl:∀i H' C' x H'',HRel K H' C'->S C'->J.yld i H' x H''->H''=H'/\∀t,ps[i]?=some t->Rep K H' x t
 st:∀H' C',HRel K H' C'->S C'->J.stop ps.length H'
def comp_S{K}{c}{Q:VK}(j:ItS K S J ps)(s:SRel K H σ ρ)(h:HRel K H C)(ai:nU S t c ρ R ps [] C)(h0:HRel K H0 C0)(ah:Fw H0 C0 H C)(f:∀v H' p C',R p C'->Rep K H' v p->HRel K H' C'->Fw H0 C0 H' C'->Q v H')(I:H D=none):
  ∃W:Nat->Nat->List V->Hp->Prop,(∃m,W 0 m [] (upd H D (.lst [])))/\∀i m ys H,W i m ys H ->
   (J.stop i H/\Q (.ref D) H)\/(J.go i H/\∀x H',J.yld i H x H'->mJ K sF t (some x::σ) H' fun b H2=>
    if b=true then mJ K (Rep K) c (some x::σ) H2 fun y H3=>H3 D=some (.lst ys)/\ys.length < sizeLine/\∃U,U < m/\W (i+1) U (ys++[y]) (upd H3 D (.lst (ys++[y])))
    else ∃U,U < m/\W (i+1) U ys H2):=by
 refine⟨fun i m ys H'=>m=ps.length - i/\i<=ps.length/\∃B C',H' D=some (.lst ys)/\C' D=none/\Reps K H' ys B/\HRel K H' C'/\Fw H C H' C'/\nU S t c ρ R (ps.drop i) B C',
  ⟨ps.length,rfl,AY _,[],C,fQ,h.fresh I,.nil,h.new I _,Fw.new I _,ai⟩,?_⟩
 rintro i m ys H1 ⟨rfl,hi,B,C1,e1,n1,r1,h1,Y,q⟩;have k1:=Y.imm h
 have q0:S C1:=by
  cases z:ps.drop i with
  |nil=>rw[z] at q;exact q.1
  |cons x r=>rw[z] at q;exact q.1
 by_cases O:i < ps.length
 .refine .inr ⟨j.go i H1 C1 O h1 q0,fun x H2 y=>?_⟩
  obtain⟨rfl,y⟩:=j.yl i H1 C1 x H2 h1 q0 y;have rx:=y _ (AO O);rw[A4 O] at q
  replace q:=q.2
  refine⟨some ps[i]::ρ,C1,_,.cons rx (s.imm k1),h1,q,fun b H3 b' C3 q3 e h3 Z=>?_⟩;cases e;obtain⟨n3,e3⟩:=Z D (by rw[n1];rfl) (by lia);rw[e1] at e3;rw[n1] at n3;have k3:=Z.imm h1
  cases b with
  |true =>
   refine⟨some ps[i]::ρ,C3,_,.cons (rx.imm k3) ((s.imm k1).imm k3),h3,q3,fun v H4 p C4 q4 r4 h4 ae=>yF (ae D (by rw[n3];rfl) (by lia)) fun n4 e4=>?_⟩;rw[e3] at e4;rw[n3] at n4;have m4:Imm H4 (upd H4 D (.lst (ys++[v]))):=Imm.mut e4 rfl _;refine⟨e4,by rw[r1.len];exact q4.1,ps.length - (i+1),by lia,rfl,O,B++[p],C4,fQ,n4,?_,?_,?_,q4.2⟩
   .exact (((r1.imm k3).imm (ae.imm h3)).append (.cons r4 .nil)).imm m4
   .intro a o g
    have af:a≠D:=fun z=>by subst z;rw[n4] at g;cases g
    exact(h4 a o g).imm m4 (dQ af)
   .intro a g ab
    have af:a≠D:=fun z=>ab (z▸I);exact yF ((Y.trans (Z.trans ae)) a g ab) fun x1 x2=>⟨x1,(dQ af).trans x2⟩
  |false =>
   exact⟨ps.length - (i+1),by lia,rfl,O,B,C3,e3,n3,r1.imm k3,h3,Y.trans Z,q3⟩
 .have e:i=ps.length:=by lia
  subst e;rw[B8] at q
  replace q:=q.2
  refine .inl ⟨j.st H1 C1 h1 q0,f (.ref D) H1 (.ref D) _ (q D n1) (.ref D) ?_ ?_⟩
  .intro a o g
   by_cases z:a=D
   .subst z;rw[jQ] at g;cases g;exact⟨ys,e1,r1⟩
   .rw [wQ z] at g;exact h1 a o g
  .intro a g ab
   obtain⟨x1,x2⟩:=ah a g ab;have ag:H a≠none:=by rwa [x2]
   obtain⟨y1,y2⟩:=Y a (by rwa [x1]) ag;exact⟨(wQ (show a≠D from fun z=>ag (z▸I))).trans (y1.trans x1),y2.trans x2⟩
def it_lst{K}{a}: ItS K (fun C=>C a=some (.lst xs)) (Itl K a) xs where
 go:=fun i H' C' l h s=>by
  refine zX (h a _ s) fun vs e r=>zX (r.get (AO l)) fun v g _=>?_;exact⟨vs,v,SqL.of e,g⟩
 yl:=fun i H' C' x B h s y=>⟨y.1,fun t q=>by
  refine zX (h a _ s) fun vs e r=>zX (r.get q) fun v g rv=>?_;have:=y.2 vs (SqL.of e)
  rw[g] at this;cases this;exact rv⟩
 st:=fun H' C' h s=>zX (h a _ s) fun vs e r=>⟨vs,SqL.of e,by exact r.len▸AH _⟩
@[irreducible] def gP(q:TCE)(t:TCT)(c:TCE):TCE:=fun g C Q=>q g C fun x C1=>match x with
 |.ref a=>match C1 a with
  |some (.lst xs)=>nU (fun C=>C a=some (.lst xs)) t c g Q xs [] C1
  |_=>False
 |_=>False
def tD{U O:Expr}{x:Str}{px:Pos}{Z:List Expr}{J:Scope}{S:TCE}{t:TCT}{c:TCE}(hc:X.calm=true)(hN:(x::X.N).Nodup)(K:∃g,aB X x J g)(hi:CE X O S)(ht:∀g B C D q,CF (cK X x J g B C D q) Z t)(af:∀g B C D q,CE (cK X x J g B C D q) U c)(hs:∀v,foldedSetIterable O X.env v=pure v:=by intro _;rfl):CE X (.ListComp U [⟨.Name x px,O,Z,0⟩] J pos) (gP S t c) :=
 ⟨JE.weak (eC (te:=mJ X.K (Rep X.K) c) (tc:=mJ X.K sF t) hc hN K (JX hi.h) (fun g B C D q=>(ht g B C D q).h) (fun g B C D q=>(af g B C D q).h) hs) fun σ H Q zz=>tX zz fun ρ C R s h ab f=> by
  unfold gP at ab
  exact⟨ρ,C,_,s,h,ab,fun xv H1 px C1 I rx h1 Y=>by
   split at I
   .next a =>
    split at I
    .next xs e =>
     obtain⟨vs,ae,r⟩:=h1 a _ e;cases rx;exact⟨a,rfl,⟨vs,SqL.of ae⟩,fun ag hD=>comp_S (Q:=Q) it_lst (s.imm (Y.imm h)) h1 I h Y f hD⟩
    .exact I.elim
   .exact I.elim⟩⟩
end
section
variable {C:CH}{a p:Addr}{xs ys:List PV}{i:Int}{v:PV}{Q:K1}
def gJ(h:C a=some (.lst xs))(e:atI xs i=some v)(q:Q v C):cIx (.ref a) (.int i) C Q:=by
 delta cIx
 show(match C a with | some (.lst xs)=>cAt xs i C Q | _=>False);rw[h];show cAt xs i C Q
 delta cAt
 rwa [e]
def ix_f(e:atI xs i=some v)(q:Q v C):cIx (.fz xs) (.int i) C Q:=by
 delta cIx
 show cAt xs i C Q
 delta cAt
 rwa [e]
def yX(e:atI xs i=some v)(q:Q v C):cIx (.tup xs) (.int i) C Q:=by
 delta cIx
 show cAt xs i C Q
 delta cAt
 rwa [e]
def KB{Q}(h:C p=some (.lst xs))(e:ixN xs.length k=some j)(q:Q (gQ C p (.lst (xs.set j v)))):Kl (.ref p) (.int k) v C Q:=by
 delta Kl
 dsimp only;rw[h];dsimp only
 rwa [e]
def fB(h:C a=some (.lst xs))(q:Q (.int xs.length) C):eR [.ref a] C Q:=by
 delta eR
 show(match C a with | some (.lst xs)=>Q (.int xs.length) C | some (.dK kvs)=>Q (.int kvs.length) C | _=>False)
 rwa [h]
def Ym(q:Q (.int xs.length) C):eR [.fz xs] C Q:=by
 delta eR
 exact q
def vY(q:Q (.int xs.length) C):eR [.tup xs] C Q:=by
 delta eR
 exact q
def zH(h:C a=some (.lst xs))(z:xs.length < sizeLine)(q:Q .non (gQ C a (.lst (xs++[v])))):sU (.ref a) [v] C Q :=by simp_all[sU]
def yV(h:C a=some (.lst xs)):isL (.ref a) C:=by
 show(match C a with | some (.lst _)=>True | _=>False);rw[h]
 trivial
end
def i_i(q:Q (g i j) C):cI g (.int i) (.int j) C Q:=by
 delta cI
 exact q
def yK(q:Q (.int (i+j)) C):gH (.int i) (.int j) C Q:=by
 delta gH
 exact q
def GO(h:xs.length+ys.length<=sizeLine)(q:Q (.tup (xs++ys)) C):gH (.tup xs) (.tup ys) C Q:=by
 delta gH
 exact⟨h,q⟩
def if_b{q:Prop}(h1:b=true->p)(h2:b=false->q):if b=true then p else q :=by grind
def pB{q:Prop}(e:b=true)(h:p):if b=true then p else q:=by rwa [AZ e]
def gW{q:Prop}(e:b=false)(h:q):if b=true then p else q :=by grind
def jZ{p q:CH->Prop}(e:b=true)(h:p C):qD (fun b C1=>if b=true then p C1 else q C1) (.bl b) C:=by cases e;exact h
def fX{p q:CH->Prop}(e:b=false)(h:q C):qD (fun b C1=>if b=true then p C1 else q C1) (.bl b) C:=by cases e;exact h
def zZ{p q:CH->Prop}(h1:b=true->p C)(h2:b=false->q C):qD (fun b C1=>if b=true then p C1 else q C1) (.bl b) C:=by
 cases b with
 |true=>exact h1 rfl
 |false=>exact h2 rfl
def aG{p q:CH->Prop}(h:q C):qD (fun b C1=>if (!b)=true then p C1 else q C1) (.bl true) C :=h
def vX(e:sEq x y=some b)(q:Q (.bl (k b)) C):cEq k x y C Q :=by simp_all[cEq]
def rQ x y:sEq (.str x) (.str y)=some (decide (x=y)):=rfl
def kX x y:sEq (.int x) (.int y)=some (decide (x=y)):=rfl
def yP(h:t (some x::g) C fun b C1=>if b=true then c (some x::g) C1 fun y C2=>q.length < sizeLine/\cJ t c g Q r (q++[y]) C2 else cJ t c g Q r q C1):cJ t c g Q (x::r) q C:=h
def mR(h:∀p,C p=none->Q (.ref p) (gQ C p (.lst g))):cJ t c q Q [] g C:=h
def tQ(g:rF n=some T)(B:tyP C x=some k)(q:Q (.bl (bZ k T)) C):cIsi [x,.ty n] C Q:=by
 delta cIsi
 show(match rF n,tyP C x with | some T,some k=>Q (.bl (bZ k T)) C | _,_=>False)
 rwa [g,B]
def jH(h1:C a=some (.lst xs))(h2:C b=some (.lst ys))(z:xs.length+ys.length<=sizeLine)(q:∀p,C p=none->Q (.ref p) (gQ C p (.lst (xs++ys)))):gH (.ref a) (.ref b) C Q:=by
 delta gH
 show(match C a,C b with | some (.lst xs),some (.lst ys)=>xs.length+ys.length<=sizeLine/\∀p,C p=none->Q (.ref p) (gQ C p (.lst (xs++ys))) | _,_=>False);exact h1▸h2▸⟨z,q⟩
def lJ(m:C p=some (.lst xs))(q:Q (.tup xs) C):uP [.ref p] C Q:=by
 delta uP
 show(match C p with | some (.lst xs)=>Q (.tup xs) C | _=>False)
 rwa [m]
def Gr(C C':CH):Prop:=∀b o,C b=some o->C' b=some o
def Gr.refl: Gr C C:=fun _ _ h=>h
theorem Gr.trans(h:Gr C C1)(h':Gr C1 C2):Gr C C2:=fun b o e=>h' b o (h b o e)
def Gr.new(g:C p=none)o:Gr C (gQ C p o):=fun b u e=>by
 rw[wQ (fun z=>by subst z;rw[g] at e;cases e)];exact e
def aQ(h:E.nx g C):cNext E g C:=h
def uQ(h:q g C fun v C1=>u E (g.set i (some v)) C1):Vx (Vw i q) u E g C:=h
def oX(h:t { E with nx:=u E } g C):Vx t u E g C:=h
def c_i(h:Q v C):cC v g C Q:=h
def qX(P:CSt->CH->Prop)(h1:∀K:CSt->CH->Prop,(∀g C',P g C'->K g C')->t { E with nx:=K } q C)(h2:∀g C',P g C'->u E g C'):Vx t u E q C:=h1 _ h2
section
variable {X:Cx}{o e value i f:Expr}{es:List Expr}{pos pos':Pos}
def QK(f:Str)(v:PV):List (Str×PV)->List (Str×PV)
 |[]=>[(f,v)]
 | (g,x)::r=>if g=f then (g,v)::r else (g,x)::QK f v r
theorem FP.put{K}{f}(h:Rep K H v t):∀{B}{fs},FP K H B fs->FP K H (iU f v B) (QK f t fs):=by
 intro B fs r
 induction r with
 |nil=>exact .cons ⟨rfl,h⟩ .nil
 |@cons p q l1 l2 h' r D =>
  obtain⟨g,x⟩:=p;obtain⟨g',y⟩:=q;obtain⟨rfl,h2⟩:=h';unfold iU QK
  by_cases e:g=f
  .rw [AZ e,AZ e];exact .cons ⟨rfl,h⟩ r
  .rw [AX e,AX e];exact .cons ⟨rfl,h2⟩ D
def FP.look{K}{f}:∀{B}{fs:List (Str×PV)},FP K H B fs->(∃v t,B.lookup f=some v/\fs.lookup f=some t/\Rep K H v t)\/(B.lookup f=none/\fs.lookup f=none):=by
 intro B fs r
 induction r with
 |nil=>exact .inr ⟨rfl,rfl⟩
 |@cons p q l1 l2 h' r D =>
  obtain⟨g,x⟩:=p;obtain⟨g',y⟩:=q;obtain⟨rfl,h2⟩:=h';unfold List.lookup
  cases e:(f==g) with
  |true=>exact .inl ⟨x,y,rfl,rfl,h2⟩
  |false=>exact D
@[irreducible] def Z8(c:Addr)(f:Str):PV->CH->K1->Prop:=fun x C Q=>match x with
 |.ref p=>match C p with
  |some (.ins g _ fs)=>g=c/\match fs.lookup f with
   |some v=>Q v C
   |none=>False
  |_=>False
 |_=>False
def Z4{f}(hc:Cls X.K c)(hn:NoAttr X.K c f)(ho:CE X o I)(Z:attributeBase o f X.env (eval o X.env)=eval o X.env:=by rfl):CE X (.Attribute o f pos) (fun q C Q=>I q C fun x C1=>Z8 c f x C1 Q) :=
 ⟨JE.weak ⟨pe_fld ho.h.h Z⟩ fun σ H Q zz=>tX zz fun q C R s h ab S=> ⟨q,C,_,s,h,ab,fun x H1 px C1 g rx h1 U=>by
  delta Z8 at g
  split at g
  .next p =>
   split at g
   .next D dx fs J =>
    obtain⟨rfl,g⟩:=g
    split at g
    .next t B =>
     refine zX (h1 p _ J) fun Y O r=>?_;cases rx
     rcases FP.look r with ⟨v,t',l1,l2,rv⟩ | ⟨l1,l2⟩
     .rw [B] at l2
      cases l2;exact⟨p,D,dx,Y,v,rfl,O,hc,hn,l1,S v H1 t C1 g rv h1 U⟩
     .rw [B] at l2;cases l2
    .exact g.elim
   .exact g.elim
  .exact g.elim⟩⟩
@[irreducible] def Km(c:Addr)(f:Str):PV->PV->CH->(CH->Prop)->Prop:=fun x v C Q=>match x with
 |.ref p=>match C p with
  |some (.ins g dx fs)=>g=c/\fs.length < 1000/\Q (gQ C p (.ins g dx (QK f v fs)))
  |_=>False
 |_=>False
def Gm{f}{O}(hc:Cls X.K c)(hn:NoAttr X.K c f)(ho:CE X o Z)(hv:CE X value O)(hs:swapsWith value (some (.Attribute o f pos')) pos.line X.env=pure false:=by rfl):
  CS X (.Assign [.Attribute o f pos'] value pos) (fun E q C=>O q C fun v C1=>Z q C1 fun x C2=>Km c f x v C2 fun Y=>E.nx q Y):=⟨JS.weak ⟨ps_fld ho.h.h hv.h.h hs⟩ fun af σ H zz=>tX zz fun q C E s h ab f'=>
 ⟨q,C,_,s,h,ab,fun v H1 ag C1 q1 rv h1 D=>⟨q,C1,_,s.imm (D.imm h),h1,q1,fun x H2 px C2 g rx h2 I=>by
  have ae:=rv.imm (I.imm h1)
  delta Km at g
  split at g
  .next p =>
   split at g
   .next J dx fs S =>
    obtain⟨rfl,ql,g⟩:=g;refine zX (h2 p _ S) fun U B r=>?_;cases rx;have m:Imm H2 (upd H2 p (.ins J dx (iU f v U))):=Imm.mut B rfl _;exact⟨p,J,dx,U,rfl,B,hc,hn,by exact(Paired.length r)▸ql,f'.nx σ _ q _ g (((s.imm (D.imm h)).imm (I.imm h1)).imm m) (h2.put B rfl ⟨_,fQ,Paired.mapP (FP.put ae r) fun _ _ z=>⟨z.1,z.2.imm m⟩⟩) (D.trans (I.trans (Fw.put S _ _)))⟩
   .exact g.elim
  .exact g.elim⟩⟩⟩
def Xc(c:Addr)(m:Str)(x:PV)(C:CH):Prop:=match x with
 |.ref p=>match C p with
  |some (.ins g _ fs)=>g=c/\fs.lookup m=none
  |_=>False
 |_=>False
def YH{K}(d:Xc c m t C)(r:Rep K H x t)(h:HRel K H C):∃a dx g,x=.ref a/\t=.ref a/\H a=some (.ins c dx g)/\g.lookup m=none:=by
 delta Xc at d
 split at d
 .split at d
  .next e =>
   obtain⟨rfl,d⟩:=d;obtain⟨g,q,B⟩:=(h _ _ e);cases r;refine⟨_,_,g,rfl,rfl,q,?_⟩
   rcases FP.look B with ⟨v,t',l1,l2,_⟩ | ⟨l1,l2⟩
   .rw [l2] at d;cases d
   .exact l1
  .exact d.elim
 .exact d.elim
def cMeth(c:Addr)(m:Str)(G:GC)(B:TCE)(q:TCA):TCE:=fun g C Q=>B g C fun x C1=>Xc c m x C1/\q g C1 fun xs C2=>G (x::xs) C2 Q
def ce_meth{apos}{pl}(hc:Cls X.K c)(ab:Meth X.K c m Y)(F:FnOk X.prog X.w X.K X.mg X.base CX k Y fd ps (spC X.K G))(hr:Room k X.A)(hb:Binds X.K fd ps [])(hx:fY CX X E)(ho:CE X o J)(ha:CA X (e::es) I)(af:starEach (e::es) X.env=(false,eval e X.env)::starEach es X.env:=by rfl)(ae:(backTo pos (starEach es X.env)).any (·.1)=false:=by rfl)(ht:eval (.Call (.Attribute o m apos) (e::es) [] pos) X.env=(do
   let q <- eval o X.env
   standAt apos.atName
   let (f,first) <- holding [q] (getMethod q m pl)
   callWith pos f first (backTo pos (starEach (e::es) X.env)) (backToKw pos (keywordEach [] X.env))):=by rfl):
  CE X (.Call (.Attribute o m apos) (e::es) [] pos) (cMeth c m G J I) :=
 ⟨JE.weak ⟨pe_meth ho.h.h hc ab F hr hb .nil hx ha.h.h af ae ht⟩ fun σ H Q zz=>tX zz fun D C R s h ag f=> ⟨D,C,_,s,h,ag,fun x H1 px C1 B rx h1 g=>by
  obtain⟨a,dx,Z,rfl,rfl,O,lk⟩:=YH B.1 rx h1
  exact⟨a,dx,Z,rfl,O,lk,D,C1,_,s.imm (g.imm h),h1,B.2,fun xs H2 ts C2 q2 rs h2 U=>⟨.ref a::ts,C2,R,.cons (.ref a) (by grind),h2,q2,fun v H' t C' q' r' h' S=>f v H' t C' q' r' h' (g.trans (U.trans S))⟩⟩⟩⟩
def cMake(c:Addr)(G:GC)(g:TCA):TCE:=fun q C Q=>g q C fun xs C1=>∀x dx,C1 x=none->C1 dx=none->dx≠x->G (.ref x::xs) (gQ C1 x (.ins c dx [])) fun v C2=>v=.non/\Q (.ref x) C2
def ce_make{p}(M:Mk X.K c O)(F:FnOk X.prog X.w X.K X.mg X.base CX k O fd ps (spC X.K G))(hr:Room (k+1) X.A)(Z:Gl X x)(ab:X.mg x=some (.ref c))(U:Binds X.K fd ps [])(hx:fY CX X E)(S:CA X (e::es) D)(Y:(x==("__debug__" : Str))=false:=by decide)(af:starEach (e::es) X.env=(false,eval e X.env)::starEach es X.env:=by rfl)(ae:(backTo pos (starEach es X.env)).any (·.1)=false:=by rfl):CE X (.Call (.Name x p) (e::es) [] pos) (cMake c G D) :=
 ⟨JE.weak ⟨pe_make M F hr Z ab U .nil hx S.h.h Y af ae⟩ fun σ H Q zz=>tX zz fun ρ C R s h ag f=> ⟨ρ,C,_,s,h,ag,fun xs H1 ts C1 q1 rs h1 J=>fun y dx hy g nd=>by
  have q:upd H1 dx (.own y) y=none:=by rwa [dQ (Ne.symm nd)]
  have k2:Imm (upd H1 dx (.own y)) (upd (upd H1 dx (.own y)) y (.ins c dx [])):=Imm.new q _;refine⟨.ref y::ts,gQ C1 y (.ins c dx []),_,.cons (.ref y) (by rw[Ah];exact(rs.imm (Imm.new g _)).imm k2),(h1.new g (.own y)).lay q ⟨[],fQ,.nil⟩,q1 y dx (h1.fresh hy) (h1.fresh g) nd,fun v H' t C' B r' h' I=>?_⟩;obtain⟨rfl,B⟩:=B;cases r'
  exact⟨rfl,f _ H' _ C' B (.ref y) h' (J.trans (((Fw.new g _).trans (Fw.lay q _ _)).trans I))⟩⟩⟩
end
end CL
namespace L2
open PySem PySem.Spec PyProof.Rows PySem.W
section
variable {X:Cx}
def GL{bs:List Bool}{g:List Value}(r:Vals (bs.map V.bl) g):g=bs.map Value.bool:=by
 induction bs generalizing g with
 |nil=>cases r;rfl
 |cons b bs q =>
  rw[BA] at r
  cases r with
  |cons a t =>
   cases (show _=Value.bool b from a);rw[q t]
   rfl
def Jx:V->List V->Hp->VK->Prop:=fun x vs H Q=>∃(l:Addr)(bs:List Bool)(j:Nat),x=.ref l/\vs=[.bl true]/\H l=some (.lst (bs.map V.bl))/\bs[j]?=some true/\(∀m,m < j->bs[m]?=some false)/\Q (.int j) H
def K5:MtM X "list.index" Jx:=by
 intro pins s σ H x vs v ag Q I rx rv h;obtain⟨l,bs,j,rfl,rfl,O,hj,Y,q⟩:=h;cases rx;obtain⟨u,rfl,Z⟩:=rv.one;cases (show u=Value.bool true from Z);obtain⟨z,af,n,r,hl,e⟩:=I.lstM O;have J:=GL r;subst J
 have B:j < bs.length:=by
  rcases Cs j bs.length with h | h
  .exact h
  .rw [Cg h] at hj;cases hj
 have hz:=zU;have hb:bs.length<=sizeLine:=by rw[AB] at z;exact z
 have ae:∀v:Value,Bool:=fun v=>match v with
  |.bool b=>b
  |_=>false
 refine B2 F.slot_list_index ⟨_,e,rfl⟩ F.entry_list_index (F.args_list_index_2 _ _)
  (SeqAt.list_indexAt l (bs.map Value.bool).toArray n none #[] (.bool true) (fun v=>v==.bool true) j (by simpa using B) (by omega) ?_ ?_) ⟨e,fun y g=>?_,⟨.int j,H,I.tok _,⟨_,rfl⟩,q⟩⟩
 .have:bs[j]=true:=by rw[AO B] at hj;exact A7 hj
  simp[this]
 .intro m ab S
  have U:m < bs.length:=by omega
  have:bs[m]=false:=by have:=Y m S;rw[AO U] at this;exact A7 this
  simp[this]
 .have g:y∈bs.map Value.bool:=by simpa using g
  obtain⟨b,_,rfl⟩:=AU.mp g;have:=SeqAt.EqAt.bool_bool (A:=X.A.in1) (s:=s) b true;have D:(Value.bool b==Value.bool true)=(b==true):=by cases b<;>rfl
  rw[D];exact this
def oR:CallR X (.type "dict") (fun xs H Q=>∃a kvs,xs=[.ref a]/\H a=some (.dK kvs)/\∀p,H p=none->Q (.ref p) (upd H p (.dK kvs))):=by
 intro pins s σ H xs S Q I r h;obtain⟨a,kvs,rfl,D,q⟩:=h;obtain⟨u,rfl,rfl⟩:=r.one;obtain⟨z,J,vs,g,B⟩:=J6 I.hok D;refine kt_call_dict J B (by rwa [<- g.length]) fun h' O hs=>?_;refine⟨.ref s.heap.objs.size,_,I.laid (t':=s.toks) (fun b o e=>hs.extBut b o (Ab (AG e)) (AD _ e)) (AH _) ?_,rfl,q _ (I.hok.fresh (AH _))⟩;exact⟨z,DU (Au I.big),vs,g,O⟩
end
end L2
namespace CL
open PySem PySem.Spec L2 PySem.W
open PyProof.Rows hiding St
def zG:List PV->Option (List Key)
 |[]=>some []
 |t::r=>match kW t,zG r with
  |some k,some ks=>some (k::ks)
  |_,_=>none
def aU:PV->Option (List Key)
 |.tup ts=>zG ts
 |_=>none
def nC{K}(r:Reps K H vs ts)(e:zG ts=some ks):vs=ks.map kV:=by
 induction ts generalizing vs ks with
 |nil=>cases r;cases e;rfl
 |cons t ts B =>
  cases r with
  |cons h r =>
   unfold zG at e
   split at e
   .next k ks' g q=>cases e;rw[gG h g,B r q];rfl
   .cases e
def xY{K}(r:Rep K H v t)(e:aU t=some ks):∃b,v=.ref b/\H b=some (.tup (ks.map kV)):=by
 cases r<;>try (cases e)
 next a vs ts h r=>exact⟨a,rfl,by rw[h,nC r e]⟩
section
variable {κ:Type}[DecidableEq κ]
def xV(kvs:List (κ×PV))(k:κ):Option PV:=(kvs.find? fun g=>decide (g.1=k)).map (·.2)
def putG(kvs:List (κ×PV))(k:κ)(v:PV):List (κ×PV):=if (kvs.any fun g=>decide (g.1=k))=true then kvs.map fun g=>if g.1=k then (g.1,v) else g else kvs++[(k,v)]
def mergeG(kvs B:List (κ×PV)):List (κ×PV):=B.foldl (fun q g=>putG q g.1 g.2) kvs
def FP.val{K}(r:FP K H vs kvs)(k:κ):(∃v t,vB vs k=some v/\xV kvs k=some t/\Rep K H v t)\/(vB vs k=none/\xV kvs k=none):=by
 induction r with
 |nil=>exact .inr ⟨rfl,rfl⟩
 |@cons p q l1 l2 h r g =>
  delta vB xV
  rw[BL,BL,h.1]
  by_cases e:q.1=k
  .simp_all
  .rwa [AM e]
def FP.anyG{K}(r:FP K H vs kvs)(k:κ):(vs.any fun g=>decide (g.1=k))=(kvs.any fun g=>decide (g.1=k)):=by
 induction r with
 |nil=>rfl
 |@cons p q l1 l2 h r B=>rw[BB,BB,h.1,B]
theorem FP.putG{K}(r:FP K H vs kvs)(k:κ)(h:Rep K H v t):FP K H (iV vs k v) (CL.putG kvs k t):=by
 delta iV CL.putG
 rw[FP.anyG r k]
 have D:FP K H (vs.map fun g=>if g.1=k then (g.1,v) else g) (kvs.map fun g=>if g.1=k then (g.1,t) else g):=by
  induction r with
  |nil=>exact .nil
  |@cons p q l1 l2 h' r B =>
   refine .cons ?_ B
   by_cases e:q.1=k
   .lia
   .lia
 split
 .exact D
 .exact Paired.snoc r ⟨rfl,h⟩
end
section
variable {X:Cx}{a b c e o i f value:Expr}{es:List Expr}{pos pos':Pos}
def cTNew:TCE:=fun _ C Q=>∀p,C p=none->Q (.ref p) (gQ C p (.dT []))
def mI:CE X (.Dict [] [] pos) cTNew:=⟨JE.weak Yw fun σ H Q B=>tX B fun D C R s h q f=> fun p g=>f (.ref p) _ (.ref p) _ (q p (h.fresh g)) (.ref p) (h.lay g ⟨[],fQ,.nil⟩) (Fw.lay g _ _)⟩
@[irreducible] def cTIx:R2C:=fun x y C Q=>match x with
 |.ref a=>match C a,aU y with
  |some (.dT kvs),some k=>match xV kvs k with
   |some v=>Q v C
   |none=>False
  |_,_=>False
 |_=>False
def ce_tix(hu:X.A.units+1 < cLine)(ho:CE X o O)(hi:CE X i J)(hs:VE i):CE X (.Subscript o i pos) (cOp cTIx O J):=⟨JE.weak (eA hu ho.h hi.h hs) fun σ H Q zz=>tX zz fun I C R s h ab f=>
 ⟨I,C,_,s,h,ab,fun x H1 px C1 q1 rx h1 B=>⟨I,C1,_,s.imm (B.imm h),h1,q1,fun y H2 af C2 g ry h2 D=>by
  delta cTIx at g
  split at g
  .next a =>
   split at g
   .next kvs k S U =>
    split at g
    .next t q =>
     have ae:=rx.imm (D.imm h1);cases ae;refine zX (h2 a _ S) fun vs Z r=>?_;obtain⟨b,rfl,Y⟩:=xY ry U
     rcases FP.val r k with ⟨v,t',l1,l2,rv⟩ | ⟨_,l2⟩
     .rw [q] at l2
      cases l2;exact⟨a,v,rfl,by exact l1▸DGet.t Z Y,f v H2 t C2 g rv h2 (B.trans D)⟩
     .rw [q] at l2;cases l2
    .exact g.elim
   .exact g.elim
  .exact g.elim⟩⟩⟩
def YF(x:PV)(C:CH):Prop:=match x with
 |.ref a=>match C a with
  |some (.dT _)=>True
  |_=>False
 |_=>False
def isTd_of{K}(d:YF t C)(r:Rep K H x t)(h:HRel K H C):∃a kvs,x=.ref a/\t=.ref a/\H a=some (.dT kvs):=by
 delta YF at d
 split at d
 .split at d
  .next e=>obtain⟨vs,g,_⟩:=(h _ _ e);cases r;exact⟨_,vs,rfl,rfl,g⟩
  .exact d.elim
 .exact d.elim
@[irreducible] def Kj:PV->PV->PV->CH->K1->Prop:=fun x y z C Q=>match x with
 |.ref a=>match C a,aU y with
  |some (.dT kvs),some k=>Q ((xV kvs k).getD z) C
  |_,_=>False
 |_=>False
def cTGet2(D B I:TCE):TCE:=fun g C Q=>D g C fun x C1=>YF x C1/\B g C1 fun y C2=>I g C2 fun z q=>Kj x y z q Q
def XA{apos cpos}(hu:X.A.units+1 < cLine)(ho:CE X o ab)(ae:CE X e ck)(af:CE X f cz)(hb:attributeBase o "get" X.env (eval o X.env)=eval o X.env:=by rfl)(hl:(apos.endLine==cpos.line)=true:=by rfl)(h1:wX e=true:=by rfl)(h2:wX f=true:=by rfl):CE X (.Call (.Attribute o "get" apos) [e,f] [] cpos) (cTGet2 ab ck cz):=⟨JE.weak (Q9 hu ho.h ae.h af.h hb hl h1 h2) fun σ H Q zz=>tX zz fun J C R s h ag f=>
 ⟨J,C,_,s,h,ag,fun x H1 px C1 Z rx h1 q=>by
  obtain⟨a,kvs,rfl,rfl,e1⟩:=isTd_of Z.1 rx h1;refine⟨a,rfl,.inr ⟨kvs,.inl e1⟩,J,C1,_,s.imm (q.imm h),h1,Z.2,fun y H2 ai C2 q2 ry h2 B=>⟨J,C2,_,(s.imm (q.imm h)).imm (B.imm h1),h2,q2,fun z S pz O g rz I D=>?_⟩⟩;unfold Kj at g;dsimp only at g
  split at g
  .next ah k d1 d2 =>
   refine zX (I a _ d1) fun vs Y r=>?_;obtain⟨b,rfl,U⟩:=xY (ry.imm (D.imm h2)) d2
   rcases FP.val r k with ⟨v,t',l1,l2,rv⟩ | ⟨l1,l2⟩
   .rw [l2] at g
    exact⟨some v,by exact l1▸DGet.t Y U,f v S t' O g rv I (q.trans (B.trans D))⟩
   .rw [l2] at g
    exact⟨none,by exact l1▸DGet.t Y U,f z S pz O g rz I (q.trans (B.trans D))⟩
  .exact g.elim⟩⟩
@[irreducible] def XG:PV->PV->PV->CH->(CH->Prop)->Prop:=fun x y v C Q=>match x with
 |.ref a=>match C a,aU y with
  |some (.dT kvs),some k=>kvs.length < sizeLine/\Q (gQ C a (.dT (putG kvs k v)))
  |_,_=>False
 |_=>False
def cTPut(I D J:TCE):TCS:=fun E g C=>J g C fun v C1=>I g C1 fun x C2=>D g C2 fun y q=>XG x y v q fun B=>E.nx g B
def nH{S U}(hu:X.A.units+1 < cLine)(ho:CE X o ab)(hi:CE X i S)(hv:CE X value U)(hs:swapsWith value (some (.Subscript o i pos')) pos.line X.env=pure false:=by rfl):
  CS X (.Assign [.Subscript o i pos'] value pos) (cTPut ab S U):=⟨JS.weak (JV hu ho.h hi.h hv.h hs) fun ah σ H zz=>tX zz fun I C E s h ae f=>
 ⟨I,C,_,s,h,ae,fun v H1 ai C1 q1 rv h1 q=>⟨I,C1,_,s.imm (q.imm h),h1,q1,fun x H2 px C2 q2 rx h2 B=>⟨I,C2,_,(s.imm (q.imm h)).imm (B.imm h1),h2,q2,fun y O aj C3 g ry Z D=>by
  have af:=rv.imm ((B.trans D).imm h1)
  delta XG at g
  split at g
  .next a =>
   split at g
   .next kvs k Y e2 =>
    have ag:=rx.imm (D.imm h2);cases ag;refine zX (Z a _ Y) fun vs J r=>?_;obtain⟨b,rfl,eb⟩:=xY ry e2;have m:Imm O (upd O a (.dT (iV vs k v))):=Imm.mut J rfl _;refine⟨a,_,rfl,DPut.t J eb ((Paired.length r)▸g.1),f.nx σ _ I _ g.2 ((((s.imm (q.imm h)).imm (B.imm h1)).imm (D.imm h2)).imm m) (Z.put J rfl ⟨_,fQ,Paired.mapP (FP.putG r k af) fun _ _ z=>⟨z.1,z.2.imm m⟩⟩) (q.trans (B.trans (D.trans (Fw.put Y _ _))))⟩
   .exact g.elim
  .exact g.elim⟩⟩⟩⟩
@[irreducible] def cMax:GC:=fun ts C Q=>match ts with
 |[.int i,.int j]=>Q (.int (if j > i then j else i)) C
 |_=>False
@[irreducible] def cMin:GC:=fun ts C Q=>match ts with
 |[.int i,.int j]=>Q (.int (if j < i then j else i)) C
 |_=>False
def fM{K}:Cbi K (fun xs H Q=>∃i j,xs=[.int i,.int j]/\Q (.int (if j > i then j else i)) H) cMax:=fun xs ts H C Q R rs h q f=>by
 delta cMax at q
 split at q
 .obtain ⟨D,I,rfl,g,B⟩:=oG rs
  cases g;cases B
  exact⟨_,_,rfl,f _ H _ C q (.int _) h Fw.refl⟩
 .exact q.elim
def tH{K}:Cbi K (fun xs H Q=>∃i j,xs=[.int i,.int j]/\Q (.int (if j < i then j else i)) H) cMin:=fun xs ts H C Q R rs h q f=>by
 delta cMin at q
 split at q
 .obtain ⟨D,I,rfl,g,B⟩:=oG rs
  cases g;cases B
  exact⟨_,_,rfl,f _ H _ C q (.int _) h Fw.refl⟩
 .exact q.elim
@[irreducible] def Qb:GC:=fun ts C Q=>match ts with
 |[.ref a]=>match C a with
  |some (.dK kvs)=>∀p,C p=none->Q (.ref p) (gQ C p (.dK kvs))
  |_=>False
 |_=>False
def uE{K}:Cbi K (fun xs H Q=>∃a kvs,xs=[.ref a]/\H a=some (.dK kvs)/\∀p,H p=none->Q (.ref p) (upd H p (.dK kvs))) Qb:=fun xs ts H C Q R rs h q f=>by
 delta Qb at q
 split at q
 .split at q
  .next kvs e =>
   obtain⟨v,rfl,r⟩:=iX rs;obtain⟨vs,B,rv⟩:=(h _ _ e);cases r;exact⟨_,vs,rfl,B,fun p g=>f _ _ _ _ (q p (h.fresh g)) (.ref p) (h.lay g ⟨vs,fQ,Paired.mapP rv fun _ _ z=>⟨z.1,z.2.imm (Imm.new g _)⟩⟩) (Fw.lay g _ _)⟩
  .exact q.elim
 .exact q.elim
@[irreducible] def Qc:PV->List PV->CH->K1->Prop:=fun x ts C Q=>match x,ts with
 |.ref a,[y]=>match C a,kW y with
  |some (.lst xs),some k=>match zG xs with
   |some ks=>Q (.int (bI k ks:Nat)) C
   |none=>False
  |_,_=>False
 |_,_=>False
def Vq{K:De}:Cmt K Wn Qc:=fun x S xs ts H C Q R O rs h q f=>by
 unfold Qc at q
 split at q
 .split at q
  .next ys k g B =>
   split at q
   .next ks D =>
    obtain⟨v,rfl,r⟩:=iX rs;obtain⟨vs,J,rv⟩:=h _ _ g;cases O;have I:=gG r B;subst I;exact⟨_,ks,k,rfl,rfl,by rw[J,nC rv D],f _ H _ C q (.int _) h Fw.refl⟩
   .exact q.elim
  .exact q.elim
 .exact q.elim
@[irreducible] def zN:PV->List PV->CH->K1->Prop:=fun x ts C Q=>match x,ts with
 |.ref a,[.bl true]=>match C a with
  |some (.lst xs)=>∃(bs:List Bool)(j:Nat),xs=bs.map PV.bl/\bs[j]?=some true/\(∀m,m < j->bs[m]?=some false)/\Q (.int (j:Nat)) C
  |_=>False
 |_,_=>False
theorem zS{K:De}{H:Hp}:∀{bs:List Bool}{vs:List V},Reps K H vs (bs.map PV.bl)->vs=bs.map V.bl
 |[],_,r=>by cases r;rfl
 |b::bs,_,r=>by
  cases r with
  |cons h r=>cases h;rw[zS r];rfl
def ZY{K:De}:Cmt K Jx zN:=fun x I xs ts H C Q R D rs h q f=>by
 unfold zN at q
 split at q
 .split at q
  .next ys g =>
   obtain⟨bs,j,rfl,h1,h2,q⟩:=q;obtain⟨v,rfl,r⟩:=iX rs;obtain⟨vs,B,rv⟩:=h _ _ g;cases D;cases r;exact⟨_,bs,j,rfl,rfl,by rw[B,zS rv],h1,h2,f _ H _ C q (.int _) h Fw.refl⟩
  .exact q.elim
 .exact q.elim
@[irreducible] def cEqT(k:Bool->Bool):R2C:=fun x y C Q=>match aU x,aU y with
 |some ks,some js=>Q (.bl (k (decide (ks=js)))) C
 |_,_=>False
def cop_eqT{K:De}:Cop K (fun x y H Q=>∃(a b:Addr)(ks js:List Key),x=.ref a/\y=.ref b/\H a=some (.tup (ks.map kV))/\H b=some (.tup (js.map kV))/\Q (.bl (decide (ks=js))) H) (cEqT id):=fun x y S U H C Q R J O h q f=>by
 unfold cEqT at q
 split at q
 .next ks js g B =>
  obtain⟨a,rfl,D⟩:=xY J g;obtain⟨b,rfl,I⟩:=xY O B;exact⟨a,b,ks,js,rfl,rfl,D,I,f _ H _ C q (.bl _) h Fw.refl⟩
 .exact q.elim
def aO:PV->Option V
 |.non=>some .non
 |.bl b=>some (.bl b)
 |.int i=>some (.int i)
 |.str x=>some (.str x)
 |_=>none
def eO{K}(r:Rep K H v t)(e:aO t=some w):v=w/\aM w=true:=by
 cases r<;>cases e<;>exact⟨rfl,rfl⟩
def uU:List PV->Option (List V)
 |[]=>some []
 |t::r=>match aO t,uU r with
  |some v,some vs=>some (v::vs)
  |_,_=>none
def ZR{K}(r:Reps K H vs ts)(e:uU ts=some g):vs=g/\g.all aM=true:=by
 induction ts generalizing vs g with
 |nil=>cases r;cases e;exact⟨rfl,rfl⟩
 |cons t ts J =>
  cases r with
  |cons h r =>
   unfold uU at e
   split at e
   .next v O q B =>
    cases e;obtain⟨rfl,D⟩:=eO h q;obtain⟨rfl,I⟩:=J r B;exact⟨rfl,by rw[CQ,D,I];rfl⟩
   .cases e
def seqP(C:CH):PV->Option (List PV)
 |.tup xs=>some xs
 |.kt xs=>some xs
 |.ref a=>match C a with
  |some (.lst xs)=>some xs
  |_=>none
 |_=>none
@[irreducible] def Z7(g:Bool):R2C:=fun x y C Q=>match seqP C y,aO x with
 |some ts,some v=>match uU ts with
  |some vs=>Q (.bl (if g then !inV v vs else inV v vs)) C
  |none=>False
 |_,_=>False
def mU{K}: Cop K (rIn K Z) (Z7 Z):=fun x y px ab H C Q R rx ry h q f=>by
 delta Z7 at q
 split at q
 .next ts v g I =>
  split at q
  .next vs J =>
   obtain⟨rfl,S⟩:=eO rx I
   have Y:∃p B,y=.ref p/\(SqL K H p B\/SqT K H p B)/\Reps K H B ts:=by
    cases ry<;>try (cases g)
    .next a =>
     delta seqP at g
     dsimp only at g
     split at g
     .next xs e =>
      cases g;exact zX (h _ _ e) fun D O ru=>⟨a,D,rfl,.inl (SqL.of O),ru⟩
     .cases g
    .next p D U r=>exact⟨p,D,rfl,.inr (SqT.of U),r⟩
    .grind
   obtain⟨p,B,rfl,hs,rs⟩:=Y;obtain⟨rfl,fs⟩:=ZR rs J;exact⟨p,B,rfl,hs,S,fs,f _ H _ C q (.bl _) h Fw.refl⟩
  .exact q.elim
 .exact q.elim
@[irreducible] def cRepL:R2C:=fun x y C Q=>match x,y with
 |.ref a,.int k=>match C a with
  |some (.lst xs)=>-(2 ^ 63)<=k/\k < 2 ^ 63/\xs.length * k.toNat<=sizeLine/\∀p,C p=none->Q (.ref p) (gQ C p (.lst (List.replicate k.toNat xs).flatten))
  |_=>False
 |.tup [z],.int k=>0<=k/\k < 64/\Q (.tup (List.replicate k.toNat z)) C
 |_,_=>False
end
def nN:List Key->Option (List Str)
 |[]=>some []
 |.inr x::r=>(nN r).map (x :: ·)
 |_=>none
def Ky(e:nN ks=some zs):ks=zs.map Sum.inr:=by
 induction ks generalizing zs with
 |nil=>cases e;rfl
 |cons k ks g =>
  rcases k with k | x
  .cases e
  .unfold nN at e
   cases z:nN ks with
   |none=>rw[z] at e;cases e
   |some q=>rw[z] at e;cases e;rw[g z];rfl
def tiK:List (List Key×PV)->Option (List (List Str×Int))
 |[]=>some []
 | (k,.int i)::r=>match nN k,tiK r with
  |some zs,some cs=>some ((zs,i)::cs)
  |_,_=>none
 |_=>none
def tiK_eq(e:tiK kvs=some cs):kvs=cs.map fun c=>(c.1.map Sum.inr,PV.int c.2):=by
 induction kvs generalizing cs with
 |nil=>cases e;rfl
 |cons p kvs B =>
  unfold tiK at e
  split at e
  .lia
  .rename_i k i r h
   cases h
   split at e
   .next zs ds g q=>cases e;rw[B q,Ky g];rfl
   .cases e
  .cases e
def oZ(c:List Str×Int):PV:=.tup [.tup (c.1.map PV.str),.int c.2]
def xH(cs:List (List Str×Int)):Nat->Nat->Bool:=fun i j=>ltP (cs.getD i ([],0)) (cs.getD j ([],0))
def vH(cs:List (List Str×Int)):List (List Str×Int):=(vJ (xH cs) (kas_sort cs.length)).toList.map fun i=>cs.getD i ([],0)
section
variable {K:De}{H:Hp}{X:Cx}
theorem Qw:∀zs:List Str,Reps K H (zs.map V.str) (zs.map PV.str)
 |[]=>.nil
 |z::zs=>.cons (.str z) (Qw zs)
def QM d lt(r:Reps K H ys ts):Reps K H (dM lt ys) ((vJ lt (kas_sort ts.length)).toList.map fun i=>ts.getD i d):=by
 have q:=r.len
 delta dM
 rw[q]
 have g:∀i∈(vJ lt (kas_sort ts.length)).toList,i < ys.length:=by
  intro i hi
  by_cases h:0 < ts.length
  .exact q▸BN.mp ((vW lt ts.length h).mem_iff.mp hi)
  .have e:ts.length=0:=by lia
   rw[e,Wb] at hi;cases hi
 generalize (vJ lt (kas_sort ts.length)).toList=l at g ⊢
 induction l with
 |nil=>exact .nil
 |cons i l B=>exact .cons (r.getD i (g i AF)) (B fun j hj=>g j (AL _ hj))
def VW(cs:List (List Str×Int))(l:List Nat):(l.map fun i=>(cs.map oZ).getD i (oZ ([],0)))=(l.map fun i=>cs.getD i ([],0)).map oZ :=by simp_all
@[irreducible] def qN(g:TCE):TCE:=fun q C Q=>g q C fun x C1=>match x with
 |.ref a=>match C1 a with
  |some (.dT _)=>Q (.vw a) C1
  |_=>False
 |_=>False
def Vr{apos cpos}(U:CE X o I)(O:attributeBase o "items" X.env (eval o X.env)=eval o X.env:=by rfl)(S:(apos.endLine==cpos.line)=true:=by rfl):CE X (.Call (.Attribute o "items" apos) [] [] cpos) (qN I) :=
 ⟨JE.weak (ZE F.plainAttrs_dict F.slot_dict_items F.type_dict_items K4 U.h O S) fun σ H Q Z=>tX Z fun ρ C R s h q f=> by
 delta qN at q
 exact⟨ρ,C,_,s,h,q,fun x H1 px C1 g Y h1 J=>by
  split at g
  .split at g
   .next kvs e =>
    refine zX (h1 _ _ e) fun vs B r=>?_;cases Y;exact⟨.inr (.inr (.inl ⟨rfl,.inr ⟨vs,B⟩⟩)),_,vs,rfl,rfl,B,fun v D=>f _ _ _ _ g (.vw fQ) (h1.new D _) (J.trans (Fw.new D _))⟩
   .exact g.elim
  .exact g.elim⟩⟩
@[irreducible] def zL:GC:=fun ts C Q=>match ts with
 |[.vw a]=>match C a with
  |some (.dT kvs)=>match tiK kvs with
   |some cs=>cs.length < 64/\∀p,C p=none->Q (.ref p) (gQ C p (.lst ((vH cs).map oZ)))
   |none=>False
  |_=>False
 |_=>False
abbrev Wm(X:Cx):List V->Hp->VK->Prop:=fun xs H Q=>∃v d kvs lt,xs=[.ref v]/\H v=some (.ext (wU v d))/\H d=some (.dT kvs)/\kvs.length < 64 /\
  ∀as H1,Same H H1->TPs H1 as kvs->(∀a∈as,H a=none)->(∀a,H a=none->H1 a≠none->a∈as)->Srt X H1 (List.map V.ref as) lt/\∀p,H1 p=none->Q (.ref p) (upd H1 p (.lst (dM lt (List.map V.ref as))))
def ti_at{cs:List (List Str×Int)}(r:TPs H as kvs)(e:FP K H kvs (cs.map fun c=>(c.1.map Sum.inr,PV.int c.2))):
  Reps K H (as.map V.ref) (cs.map oZ)/\∀i,i < as.length->mP H ((as.map V.ref).getD i .non) (cs.getD i ([],0)):=by
 induction r generalizing cs with
 |nil =>
  cases cs with
  |nil=>exact⟨.nil,fun i hi=>absurd hi (BY i)⟩
  |cons c cs=>cases e
 |@cons a b k v as kvs h1 h2 r I =>
  cases cs with
  |nil=>cases e
  |cons c cs =>
   cases e with
   |cons h e =>
    obtain⟨g,q⟩:=h;obtain⟨B,D⟩:=I e;subst g;cases q;rw[ZA] at h2;refine⟨.cons (.tup h1 (.cons (.tup h2 (Qw c.1)) (.cons (.int _) .nil))) B,fun i hi=>?_⟩
    cases i with
    |zero=>exact⟨a,b,rfl,h1,h2⟩
    |succ i=>exact D i (Bv hi)
def XD(S:X.A.units+2 < cLine):Cbi X.K (Wm X) zL:=fun xs ts H C Q R rs h q f=>by
 delta zL at q
 split at q
 .obtain ⟨v,rfl,r⟩:=iX rs
  split at q
  .next kvs e =>
   split at q
   .next cs I =>
    have ex:=tiK_eq I;subst ex;obtain⟨vs,J,rv⟩:=(h _ _ e)
    cases r with
    |vw U =>
     have O:vs.length=cs.length:=by rw[Paired.length rv,AB]
     refine⟨_,_,vs,xH cs,rfl,U,J,by rw[O];exact q.1,fun as H1 B Y ab ae=>?_⟩;obtain⟨rr,Z⟩:=ti_at Y (Paired.mapP rv fun _ _ z=>⟨z.1,z.2.imm fun b v _ e=>B b v e⟩);refine⟨tT S _ (fun i hi=>Z i (by grind)),fun p g=>?_⟩;have h1:=qP h B;have D:=QM (oZ ([],0)) (xH cs) rr;rw[AB,VW] at D;exact f _ _ _ _ (q.2 p (h1.fresh g)) (.ref p) (h1.lay g ⟨_,fQ,D.imm (Imm.new g _)⟩) ((xI B).trans (Fw.lay g _ _))
   .exact q.elim
  .exact q.elim
 .exact q.elim
end
def Z6:List (TCE×TCE)->CSt->CH->(List (PV×PV)->CH->Prop)->Prop
 |[],_,C,Q=>Q [] C
 | (B,D)::r,g,C,Q=>B g C fun x C1=>D g C1 fun y C2=>Z6 r g C2 fun ps q=>Q ((x,y)::ps) q
abbrev RPs(K:De)(H:Hp):List (V×V)->List (PV×PV)->Prop:=Paired fun p q=>Rep K H p.1 q.1/\Rep K H p.2 q.2
def liftP(K:De)(cs:List (TCE×TCE)):List (TE×TE):=cs.map fun p=>(mJ K (Rep K) p.1,mJ K (Rep K) p.2)
structure CPs(X:Cx)(pos:Pos)(keys:List (Option Expr))(values:List Expr)(cs:List (TCE×TCE)):Prop where
 h:PPs X pos keys values (liftP X.K cs)
def cps_nil: CPs X pos [] [] []:=⟨pps_nil⟩
def fG{g}(B:CE X k q)(I:CE X v g)(D:CPs X pos ks vs cs):CPs X pos (some k::ks) (v::vs) ((q,g)::cs):=⟨Wz B.h.h I.h.h D.h⟩
def Zu{K}: ∀{cs}{H}{C}{R}{Q},SRel K H σ I->HRel K H C->Z6 cs I C R ->
  (∀vs H' ts C',R ts C'->RPs K H' vs ts->HRel K H' C'->Fw H C H' C'->Q vs H')->sE (liftP K cs) σ H Q:=by
 intro cs
 induction cs with
 |nil=>intro H C R Q s h q f;exact f [] H [] C q .nil h Fw.refl
 |cons p cs U =>
  obtain⟨ck,ab⟩:=p;intro H C R Q s h q f;exact⟨I,C,_,s,h,q,fun x H1 px C1 Y rx h1 g=>⟨I,C1,_,s.imm (g.imm h),h1,Y,fun y H2 ae C2 Z ry h2 B=>U ((s.imm (g.imm h)).imm (B.imm h1)) h2 Z fun vs O ts J q3 r3 S D=>f _ O _ J q3 (.cons ⟨(rx.imm (B.imm h1)).imm (D.imm h2),ry.imm (D.imm h2)⟩ r3) S (g.trans (B.trans D))⟩⟩
def prK:List (PV×PV)->Option (List (Key×PV))
 |[]=>some []
 | (x,y)::r=>match kW x,prK r with
  |some k,some ps=>some ((k,y)::ps)
  |_,_=>none
def prK_rep{K}(r:RPs K H vs ts)(e:prK ts=some ps):∃kvs,vs=kvs.map (fun g=>(kV g.1,g.2))/\KP K H kvs ps:=by
 induction r generalizing ps with
 |nil=>cases e;exact⟨[],rfl,.nil⟩
 |@cons p q l1 l2 h r J =>
  obtain⟨x,y⟩:=q;unfold prK at e
  split at e
  .next k U B D =>
   cases e;obtain⟨kvs,rfl,O⟩:=J D;obtain⟨Y,S⟩:=p;have I:=gG h.1 B;subst I;exact⟨(k,S)::kvs,rfl,.cons ⟨rfl,h.2⟩ O⟩
  .cases e
def prT:List (PV×PV)->Option (List (List Key×PV))
 |[]=>some []
 | (x,y)::r=>match aU x,prT r with
  |some k,some ps=>some ((k,y)::ps)
  |_,_=>none
def FP.mergeG{K}(m:FP K H D B):∀{vs}{kvs},FP K H vs kvs->FP K H (iG vs D) (CL.mergeG kvs B):=by
 induction m with
 |nil=>intro vs kvs r;exact r
 |@cons p q l1 l2 h _ g =>
  intro vs kvs r;show FP K H (iG (iV vs p.1 p.2) l1) (CL.mergeG (CL.putG kvs q.1 q.2) l2);rw[h.1];exact g (FP.putG r q.1 h.2)
section
variable {X:Cx}{pos:Pos}{keys:List (Option Expr)}{values:List Expr}{cs:List (TCE×TCE)}
@[irreducible] def iH(p:Addr):List (PV×PV)->CH->K1->Prop:=fun ts C Q=>C p=some (.dK [])/\match prK ts with
 |some ps=>ps.length<=15/\Q (.ref p) (gQ C p (.dK (jF [] ps)))
 |none=>False
def cDisp(cs:List (TCE×TCE)):TCE:=fun g C Q=>∀p,C p=none->Z6 cs g (gQ C p (.dK [])) fun ts C2=>iH p ts C2 Q
def ce_disp(h:CPs X pos keys values cs)(Y:keys.all (·.isSome)=true:=by rfl)(Z:keys.length=values.length:=by rfl)(h0:keys≠[]:=by exact fun z=>nomatch z)(U:keys.length<=15:=by decide):CE X (.Dict keys values pos) (cDisp cs) :=
 ⟨JE.weak ⟨pe_disp h.h Y Z h0 U⟩ fun σ H Q zz=>tX zz fun ρ C R s I ab f=> fun p q=>by
  refine Zu (C:=gQ C p (.dK [])) (s.imm (Imm.new q _)) (I.lay q ⟨[],fQ,.nil⟩) (ab p (I.fresh q)) fun vs H2 ts C2 g r2 h2 S=>?_;unfold iH at g;obtain⟨D,g⟩:=g
  split at g
  .next ps O =>
   obtain⟨kvs,rfl,J⟩:=prK_rep r2 O;obtain⟨ae,B,ru⟩:=(h2 p _ D);have z:ae=[]:=by cases ru;rfl
   subst z;refine⟨B,kvs,rfl,by exact(Paired.length J)▸g.1,?_⟩;exact f _ _ _ _ g.2 (.ref p) (h2.put B rfl ⟨_,fQ,Paired.mapP (KP.merge .nil J) fun _ _ z=>⟨z.1,z.2.imm (Imm.mut B rfl _)⟩⟩) ((Fw.lay q _ _).trans (S.trans (Fw.put D _ _)))
  .exact g.elim⟩
@[irreducible] def cPutAllT(p:Addr):List (PV×PV)->CH->K1->Prop:=fun ts C Q=>C p=some (.dT [])/\match prT ts with
 |some ps=>ps.length<=15/\Q (.ref p) (gQ C p (.dT (mergeG [] ps)))
 |none=>False
end
def qI(g:Room k A):A.units+2 < cLine:=by have:=g.un;lia
def YK{A:Around}{k:Nat}(g:Room k A):A.units < cLine:=by have:=g.un;omega
section
variable {C:CH}{p:Addr}{Q:K1}{x y v z:PV}
def Y3(m:C p=some (.ins c dx fs))(e:fs.lookup f=some v)(q:Q v C):Z8 c f (.ref p) C Q :=by simp_all[Z8]
def Wr{Q}(m:C p=some (.ins c dx fs))(h:fs.length < 1000)(q:Q (gQ C p (.ins c dx (QK f v fs)))):Km c f (.ref p) v C Q :=by simp_all[Km]
def wZ(m:C p=some (.ins c dx fs))(e:fs.lookup f=none):Xc c f (.ref p) C:=by
 delta Xc
 dsimp only;exact m▸⟨rfl,e⟩
def YE(m:C p=some (.dT kvs)):YF (.ref p) C:=by
 delta YF
 dsimp only;rw[m]
 trivial
def tix_s(m:C p=some (.dT kvs))(g:aU y=some k)(B:xV kvs k=some v)(q:Q v C):cTIx (.ref p) y C Q:=by
 delta cTIx
 dsimp only;rw[m,g];dsimp only
 rwa [B]
def VY(m:C p=some (.dT kvs))(g:aU y=some k)(B:(xV kvs k).getD z=v)(q:Q v C):Kj (.ref p) y z C Q:=by
 delta Kj
 dsimp only;rw[m,g];dsimp only
 rwa [B]
def X1{Q}(m:C p=some (.dT kvs))(g:aU y=some k)(h:kvs.length<=1000)(q:Q (gQ C p (.dT (putG kvs k v)))):XG (.ref p) y v C Q:=by
 delta XG
 dsimp only;exact m▸g▸⟨Aj h (by decide),q⟩
def eJ(m:C p=some (.dK kvs))(g:kW y=some k)(B:xK kvs k=some v)(q:Q v C):cDIx (.ref p) y C Q:=by
 delta cDIx
 dsimp only;rw[m,g];show(match xK kvs k with | some v=>Q v C | none=>False)
 rwa [B]
def getD_g(m:C p=some (.dK kvs))(g:kW y=some k)(B:(xK kvs k).getD z=v)(q:Q v C):Ko (.ref p) y z C Q:=by
 delta Ko
 dsimp only;rw[m,g];show Q ((xK kvs k).getD z) C
 rwa [B]
def tG{Q}(m:C p=some (.dK kvs))(g:kW y=some k)(h:kvs.length<=1000)(q:Q (gQ C p (.dK (dZ kvs k v)))):Kn (.ref p) y v C Q:=by
 delta Kn
 dsimp only;exact m▸g▸⟨Aj h (by decide),q⟩
def isDk_g(m:C p=some (.dK kvs)):YI (.ref p) C:=by
 delta YI
 dsimp only;rw[m]
 trivial
def J8(m:C p=some (.dK kvs))(q:∀g,C g=none->Q (.ref g) (gQ C g (.dK kvs))):Qb [.ref p] C Q:=by
 delta Qb
 dsimp only
 rwa [m]
def count_s{xs:List PV}{k:Key}{ks:List Key}(m:C p=some (.lst xs))(g:kW y=some k)(hs:zG xs=some ks)(q:Q (.int (bI k ks:Nat)) C):Qc (.ref p) [y] C Q:=by
 unfold Qc;dsimp only;rw[m,g];dsimp only;rw[hs];exact q
def uD{g:Bool}(h1:seqP C y=some ts)(h2:aO x=some w)(B:uU ts=some vs)(q:Q (.bl (if g then !inV w vs else inV w vs)) C):Z7 g x y C Q :=by simp_all[Z7]
def Y2(h:B q C fun t C1=>match t with | .tup xs=>eY g u E xs q C1 | .kt xs=>eY g u E xs q C1 | _=>False):gE B g u E q C:=by
 delta gE
 exact h
end
def oN(m:C p=some (.lst (cs.map xJ)))(h:cs.length < 64)(q:∀g,C g=none->Q (.ref g) (gQ C g (.lst ((yG cs).map xJ)))):aH [.ref p] C Q:=by
 delta aH
 dsimp only;rw[m];dsimp only;rw[QD];exact⟨h,q⟩
def Y1(B:q[i]?=some (some (.tup xs)))(h:eY g u E xs q C):gE (bY i) g u E q C:=by
 delta gE bY
 rwa [B]
def tJ(h:x=.tup xs)(e:atI xs i=some v)(q:Q v C):cIx x (.int i) C Q:=by
 subst h;exact yX e q
def Q0(q:Q (.int (if j < i then j else i)) C):cMin [.int i,.int j] C Q:=by
 delta cMin
 exact q
def bC(q:Q (.int (if j > i then j else i)) C):cMax [.int i,.int j] C Q:=by
 delta cMax
 exact q
def bF{xs:List PV}(h:k < xs.length):atI xs k=some xs[k] :=by grind[atI,ixN,lia,Int.toNat_natCast]
def rX{r:List PV}:atI (x::r) 0=some x:=bF (Nat.zero_lt_succ _)
def if_i(h:t g C fun b C1=>if b=true then q g C1 Q else B g C1 Q):cIf t q B g C Q:=h
def VZ(B:g[i]?=some (some x))(q:Q (k (zB x)) C):tR (cOp (cIs k) (bY i) (cC .non)) g C Q:=by
 show bY i g C fun x C1=>qD Q (.bl (k (zB x))) C1
 delta bY
 rwa [B]
def lK(I:List PV->CSt->CH->Prop)(O:∀x r q C,I (x::r) q C->∀L:CSt->CH->Prop,(∀B C',I r B C'->L B C')->g x q C fun S C1=>u { nx:=L,ct:=L,bk:=E.nx,rt:=E.rt } S C1)(D:∀q C,I [] q C->E.nx q C):
  ∀xs q C,I xs q C->eY g u E xs q C:=by
 intro xs
 induction xs with
 |nil=>intro q C h;exact D q C h
 |cons x r J=>intro q C h;exact O x r q C h _ J
def pG(I:List PV->List PV->CH->Prop)(D:∀x r g C,I (x::r) g C->∀L:K1,(∀y C2,g.length < sizeLine/\I r (g++[y]) C2->L y C2)->c (some x::J) C L)(q:∀g C,I [] g C->∀p,C p=none->Q (.ref p) (gQ C p (.lst g))):
  ∀xs g C,I xs g C->cJ xT c J Q xs g C:=by
 intro xs
 induction xs with
 |nil=>intro g C h;exact q g C h
 |cons x r B =>
  intro g C h;exact D x r g C h _ fun y C2 z=>⟨z.1,B _ _ z.2⟩
def Vp(I:List PV->List PV->CH->Prop)(q:∀r g C,I r g C->S C)(J:∀x r g C,I (x::r) g C->∀L:K1,(∀y C2,g.length < sizeLine/\I r (g++[y]) C2->L y C2)->c (some x::O) C L)(B:∀g C,I [] g C->∀p,C p=none->Q (.ref p) (gQ C p (.lst g))):
  ∀xs g C,I xs g C->nU S xT c O Q xs g C:=by
 intro xs
 induction xs with
 |nil=>intro g C h;exact⟨q _ _ _ h,B g C h⟩
 |cons x r D =>
  intro g C h;exact⟨q _ _ _ h,J x r g C h _ fun y C2 z=>⟨z.1,D _ _ z.2⟩⟩
def YM(g:Gr C C1)(q:C p=none)o:Gr C (gQ C1 p o):=fun b u e=>by
 rw[wQ (fun z=>by subst z;rw[q] at e;cases e)];exact g b u e
def zI(g:Gr C C')(h:C' p=none):C p=none:=by
 cases e:C p with
 |none=>rfl
 |some o=>rw[g p o e] at h;cases h
def uB kvs k v:(dZ kvs k v).length<=kvs.length+1 :=by grind[dZ,List.length_map,List.length_append,List.length_singleton]
def mH kvs k v B:xK (dZ kvs k v) B=if B=k then some v else xK kvs B:=by
 have S:∀l:List (Key×PV),(l.any fun g=>decide (g.1=k))=true->xK (l.map fun g=>if g.1=k then (g.1,v) else g) B=if B=k then some v else xK l B:=by
  intro l
  induction l with
  |nil=>intro h;cases h
  |cons x l J =>
   intro h
   delta xK
   rw[BA,BL,BL]
   by_cases e:x.1=k
   .rw [AZ e]
    by_cases q:B=k
    .rw [AZ q,Ad (e.trans q.symm)];rfl
    .rw [AX q]
     rw[AM (fun z=>q (z.symm.trans e))]
     by_cases I:(l.any fun g=>decide (g.1=k))=true
     .have:=J I
      rwa [AX q] at this
     .have:(l.map fun g=>if g.1=k then (g.1,v) else g)=l :=(Cp fun y O=>AX ((fun y O z=>I (List.any_eq_true.2 ⟨y,O,Ad z⟩)) y O)).trans (List.map_id l)
      rw[this]
   .rw [AX e]
    have I:(l.any fun g=>decide (g.1=k))=true:=by
     rwa [BB,AM e,Bool.false_or] at h
    have:=J I
    by_cases D:x.1=B
    .rw [Ad D]
     have q:¬ B=k:=fun z=>e (D.trans z);rw[AX q]
    .rwa [AM D]
 delta dZ
 by_cases b:(kvs.any fun g=>decide (g.1=k))=true
 .rw [AZ b];exact S kvs b
 .rw [AX b]
  induction kvs with
  |nil =>
   delta xK
   rw[CU,BL]
   by_cases q:B=k
   .rw [AZ q,Ad q.symm];rfl
   .rw [AX q,AM (fun z=>q z.symm)]
  |cons x l J =>
   rw[BB] at b;have e:¬ x.1=k:=fun e=>b (by rw[Ad e];rfl);rw[AM e,Bool.false_or] at b;have:=J b;unfold xK at this ⊢;rw[Ck,BL,BL]
   by_cases D:x.1=B
   .rw [Ad D]
    rw[AX (fun z=>e (D.trans z))]
   .rwa [AM D]
def ExS(S:List Addr)(C C':CH):Prop:=∀b o,b∉S->C b=some o->C' b=some o
def ExS.refl: ExS S C C:=fun _ _ _ h=>h
theorem ExS.trans(h:ExS S C C1)(h':ExS S C1 C2):ExS S C C2:=fun b o n e=>h' b o n (h b o n e)
def ExS.mono(h:ExS S C C1)(s:∀b∈S,b∈g):ExS g C C1:=fun b o n e=>h b o (fun z=>n (s b z)) e
theorem ExS.at(h:ExS S C C1)(g:p∈S)o:ExS S C (gQ C1 p o):=fun b u n e=>by
 rw[wQ (fun z=>n (by rwa [z]))];exact h b u n e
theorem ExS.put(h:ExS S C C1)(g:C p=none)o:ExS S C (gQ C1 p o):=fun b u n e=>by
 rw[wQ (fun z=>by subst z;rw[g] at e;cases e)];exact h b u n e
def ExS.none(g:ExS S C C')(n:p∉S)(h:C' p=none):C p=none:=by
 cases e:C p with
 |none=>rfl
 |some o=>rw[g p o n e] at h;cases h
end CL
namespace L2
open PySem PySem.Spec PyProof.Rows
def X2(K:De)(n:Nat)(B:TI)(tc:TT)(te:TE):TE:=fun σ H Q=>B σ H fun J H1=>∀D,H1 D=none->∃W:Nat->Nat->List V->Hp->Prop,(∃m,W 0 m [] (upd H1 D (.lst [])))/\∀i m ys H,W i m ys H ->
 (J.stop i H/\Q (.ref D) H)\/(J.go i H/\∀x H',J.yld i H x H'->∃a vs,x=.ref a/\SqT K H' a vs/\vs.length=n/\tc (vs.map some++σ) H' fun b H2=>
  if b=true then te (vs.map some++σ) H2 fun y q=>q D=some (.lst ys)/\ys.length < sizeLine/\∃g,g < m/\W (i+1) g (ys++[y]) (upd q D (.lst (ys++[y])))
  else ∃g,g < m/\W (i+1) g ys H2)
section
variable {X:Cx}
def WL{af ab tg:Expr}{xs:List Str}{pos:Pos}{ag:List Expr}{S:Scope}{U:List (Str×Addr)}{wi:TI}{tc:TT}{te:TE}{g:TG}(hc:X.calm=true)(K:eK X xs S U)(hg:∀I C O B,PG (cxN X xs S U I C O B) tg g)(hG:∀Y vs a σ H Q,Y.length=xs.length->SqT X.K H a vs->vs.length=xs.length->Q (vs.map some++σ) H->g (.ref a) (Y++σ) H Q)(hi:PI X tg ab wi)(ht:∀I C O B,VD (cxN X xs S U I C O B) ag tc)(ar:∀I C O B,PE (cxN X xs S U I C O B) af te)(hs:∀v,foldedSetIterable ab X.env v=pure v:=by intro _;rfl):PE X (.ListComp af [⟨tg,ab,ag,0⟩] S pos) (X2 X.K xs.length wi tc te):=by
 intro pins s σ H Q ah h;rw[eval_ListComp];refine CN (use:=none) rfl hs K.clos K.kind K.names (thn (hi pins s σ H _ ah h) fun xv a3 av=>thn av fun a0 O aw=>?_);obtain⟨it,I,tn,J,B,e,Z,T,ay,ai,R⟩:=aw;subst e;refine tY (Tk:=fun x H vs=>∃a,x=.ref a/\SqT X.K H a vs) hc K hg ht ar (fun Y vs x H Q l ⟨a,e,ae⟩ l' q=>by rw[e];exact hG Y vs a σ H Q l ae l' q) Z T ay ai (fun D hD=>let ⟨W,w0,az⟩:=R D hD;⟨W,w0,fun i m ys H w=>(az i m ys H w).imp id fun zz=>yF zz fun g st=> ⟨g,fun x H' y=>let ⟨a,vs,e,ae,l,q⟩:=st x H' y;⟨vs,⟨a,e,ae⟩,l,q⟩⟩⟩) ?_
 intro D C H ax m hn ak aj ao aq I4 q;refine⟨m,hn,fun h' au=>⟨.ref D,H,?_,rfl,q⟩⟩;refine I4.turned (it:=C) (t':=ax.toks) (fun b o hb e=>(au.2 b hb).trans e) aj ak (.inr (AW Z.sz aq)) ao fun p hp z=>?_;exact absurd (AQ (AG (Z.pin p hp).1) (by simp_all)) (A9 _)
end
end L2
namespace CL
open PySem PySem.Spec L2 PySem.W
open PyProof.Rows hiding St
def hU(n:Nat)(t:TCT)(c:TCE)(q:CSt)(Q:K1):List PV->List PV->CH->Prop
 |[],g,C=>∀p,C p=none->Q (.ref p) (gQ C p (.lst g))
 |x::r,g,C=>∃ts,x=.tup ts/\ts.length=n/\t (ts.map some++q) C fun b C1=>if b=true then c (ts.map some++q) C1 fun y C2=>g.length < sizeLine/\hU n t c q Q r (g++[y]) C2 else hU n t c q Q r g C1
theorem oE{K}: ∀{vs}{ts},Reps K H vs ts->SRel K H (vs.map some) (ts.map some)
 |_,_,.nil=>.nil
 |_,_,.cons h r=>.cons h (oE r)
def SRel.app{K}(h:SRel K H σ B)(h':SRel K H τ q):SRel K H (σ++τ) (B++q):=by
 induction h with
 |nil=>exact h'
 |cons a _ g=>exact .cons a g
def Gq{K}{Q:VK}(j:XM K H J ps)(s:SRel K H σ ρ)(h:HRel K H C)(ak:hU n t c ρ R ps [] C)(h0:HRel K H0 C0)(aj:Fw H0 C0 H C)(f:∀v H' p C',R p C'->Rep K H' v p->HRel K H' C'->Fw H0 C0 H' C'->Q v H')(I:H D=none):
  ∃W:Nat->Nat->List V->Hp->Prop,(∃m,W 0 m [] (upd H D (.lst [])))/\∀i m ys H,W i m ys H ->
   (J.stop i H/\Q (.ref D) H)\/(J.go i H/\∀x H',J.yld i H x H'->∃a vs,x=.ref a/\SqT K H' a vs/\vs.length=n/\mJ K sF t (vs.map some++σ) H' fun b H2=>
    if b=true then mJ K (Rep K) c (vs.map some++σ) H2 fun y H3=>H3 D=some (.lst ys)/\ys.length < sizeLine/\∃U,U < m/\W (i+1) U (ys++[y]) (upd H3 D (.lst (ys++[y])))
    else ∃U,U < m/\W (i+1) U ys H2):=by
 refine⟨fun i m ys H'=>m=ps.length - i/\i<=ps.length/\∃B C',H' D=some (.lst ys)/\C' D=none/\Reps K H' ys B/\HRel K H' C'/\Fw H C H' C'/\hU n t c ρ R (ps.drop i) B C',
  ⟨ps.length,rfl,AY _,[],C,fQ,h.fresh I,.nil,h.new I _,Fw.new I _,ak⟩,?_⟩
 rintro i m ys H1 ⟨rfl,hi,B,C1,e1,n1,r1,h1,Y,q⟩;have S:=Y.imm h
 by_cases O:i < ps.length
 .refine .inr ⟨j.go i H1 O S,fun x H2 y=>?_⟩
  obtain⟨rfl,y⟩:=j.yl i H1 x H2 S y;have rx:=y _ (AO O);rw[A4 O] at q;refine jK q fun ts ai hn q=>?_;rw[ai] at rx
  obtain⟨a5,aq,z5,ao,ag⟩:∃a vs,x=.ref a/\SqT K H2 a vs/\Reps K H2 vs ts:=by
   cases rx with
   |tup e r=>exact⟨_,_,rfl,SqT.of e,r⟩
  refine⟨a5,aq,z5,ao,ag.len.trans hn,⟨ts.map some++ρ,C1,_,(oE ag).app (s.imm S),h1,q,fun b H3 b' C3 q3 e h3 Z=>?_⟩⟩;cases e;obtain⟨n3,e3⟩:=Z D (by rw[n1];rfl) (by lia);rw[e1] at e3;rw[n1] at n3;have k3:=Z.imm h1
  cases b with
  |true =>
   refine⟨ts.map some++ρ,C3,_,(oE (ag.imm k3)).app ((s.imm S).imm k3),h3,q3,fun v H4 p C4 q4 r4 h4 ae=>yF (ae D (by rw[n3];rfl) (by lia)) fun n4 e4=>?_⟩;rw[e3] at e4;rw[n3] at n4;have m4:Imm H4 (upd H4 D (.lst (ys++[v]))):=Imm.mut e4 rfl _;refine⟨e4,by rw[r1.len];exact q4.1,ps.length - (i+1),by lia,rfl,O,B++[p],C4,fQ,n4,?_,?_,?_,q4.2⟩
   .exact (((r1.imm k3).imm (ae.imm h3)).append (.cons r4 .nil)).imm m4
   .intro a o g
    have af:a≠D:=fun z=>by subst z;rw[n4] at g;cases g
    exact(h4 a o g).imm m4 (dQ af)
   .intro a g ab
    have af:a≠D:=fun z=>ab (z▸I);exact yF ((Y.trans (Z.trans ae)) a g ab) fun x1 x2=>⟨x1,(dQ af).trans x2⟩
  |false =>
   exact⟨ps.length - (i+1),by lia,rfl,O,B,C3,e3,n3,r1.imm k3,h3,Y.trans Z,q3⟩
 .have e:i=ps.length:=by lia
  subst e;rw[B8] at q;refine .inl ⟨j.st H1 S,f (.ref D) H1 (.ref D) _ (q D n1) (.ref D) ?_ ?_⟩
  .intro a o g
   by_cases z:a=D
   .subst z;rw[jQ] at g;cases g;exact⟨ys,e1,r1⟩
   .rw [wQ z] at g;exact h1 a o g
  .intro a g ab
   obtain⟨x1,x2⟩:=aj a g ab;have ah:H a≠none:=by rwa [x2]
   obtain⟨y1,y2⟩:=Y a (by rwa [x1]) ah;exact⟨(wQ (show a≠D from fun z=>ah (z▸I))).trans (y1.trans x1),y2.trans x2⟩
section
variable {X:Cx}{pos:Pos}
def Qe(n:Nat)(q:CSt->CH->(List PV->CH->Prop)->Prop)(t:TCT)(c:TCE):TCE:=fun g C Q=>q g C fun ps C1=>hU n t c g Q ps [] C1
def mC(hi:CI X tg it S B){Q:VK}(h:mJ X.K (Rep X.K) (Qe n B t c) σ H Q):X2 X.K n S (mJ X.K sF t) (mJ X.K (Rep X.K) c) σ H Q :=tX h fun U C R s h q f=>hi.w σ H U C _ _ s h q fun J H' ps C' O j h' g D I=>Gq j (s.imm (g.imm h)) h' O h g f I
def GOk(K:De)(n:Nat)(g:TG):Prop:=∀(q:St)(vs:List V)(a:Addr)(σ:St)(H:Hp)(Q:St->Hp->Prop),q.length=n->SqT K H a vs->vs.length=n->Q (vs.map some++σ) H->g (.ref a) (q++σ) H Q
def GE
  (Z:X.calm=true)(K:∃q,eK X xs J q)(hg:∀q D C I B,eK X xs J q->PG (cxN X xs J q D C I B) tg g)(Y:GOk X.K xs.length g)(hi:CI X tg O wi S)(ht:∀q D C I B,CF (cxN X xs J q D C I B) ae t)(ab:∀q D C I B,CE (cxN X xs J q D C I B) U c)(hs:∀v,foldedSetIterable O X.env v=pure v:=by intro _;rfl):CE X (.ListComp U [⟨tg,O,ae,0⟩] J pos) (Qe xs.length S t c):=by
 obtain⟨q,K⟩:=K;exact⟨JE.weak ⟨WL Z K (fun D C I B=>hg q D C I B K) Y hi.j.h (fun D C I B=>(ht q D C I B).h.h) (fun D C I B=>(ab q D C I B).h.h) hs⟩ fun _ _ _ h=>mC hi h⟩
abbrev g2(K:De):TG:=gTup K 2 (iC (sY 0) (iC (sY 1) gNil))
abbrev g3(K:De):TG:=gTup K 3 (iC (sY 0) (iC (sY 1) (iC (sY 2) gNil)))
def lC{α:Type}{l:List α}(h:l.length=1):∃a,l=[a]:=by
 cases l with
 |nil=>cases h
 |cons a l =>
  cases l with
  |nil=>exact⟨a,rfl⟩
  |cons b l=>cases h
def len2{α:Type}{l:List α}(h:l.length=2):∃a b,l=[a,b]:=by
 cases l with
 |nil=>cases h
 |cons a l =>
  obtain⟨b,rfl⟩:=lC (Ay h);exact⟨a,b,rfl⟩
def Zw{α:Type}{l:List α}(h:l.length=3):∃a b c,l=[a,b,c]:=by
 cases l with
 |nil=>cases h
 |cons a l =>
  obtain⟨b,c,rfl⟩:=len2 (Ay h);exact⟨a,b,c,rfl⟩
def gok2{K}:GOk K 2 (g2 K):=by
 intro O vs a σ H Q h1 h2 D q;obtain⟨I,J,rfl⟩:=len2 h1;obtain⟨B,g,rfl⟩:=len2 D;exact⟨a,[B,g],rfl,h2,rfl,B,[g],rfl,g,[],rfl,rfl,q⟩
def gok3{K:De}:GOk K 3 (g3 K):=by
 intro U vs a σ H Q h1 h2 I q;obtain⟨J,O,S,rfl⟩:=Zw h1;obtain⟨D,B,g,rfl⟩:=Zw I;exact⟨a,[D,B,g],rfl,h2,rfl,D,[B,g],rfl,B,[g],rfl,g,[],rfl,rfl,q⟩
def pg2(B:X.calm=true)(g:(x::y::X.N).Nodup)(K:eK X [x,y] D q):
  PG (cxN X [x,y] D q J C S I) (.Tuple [.Name x O,.Name y p2] k p) (g2 X.K) :=
 have l1:=BF (K.hx x (by simp));have l2:=BF (K.hx y (by simp))
 Zh B (wG (lY g rfl (.inl l1) (.inr l1)) (wG (lY g rfl (.inl l2) (.inr l2)) qA))
def pg3{x y z:Str}{B:Scope}{g:List (Str×Addr)}{I:List Addr}{C:Addr}{O:Shared}{D:Hp}{U p2 Y p:Pos}{k:Nat}(S:X.calm=true)(q:(x::y::z::X.N).Nodup)(K:eK X [x,y,z] B g):
  PG (cxN X [x,y,z] B g I C O D) (.Tuple [.Name x U,.Name y p2,.Name z Y] k p) (g3 X.K) :=
 have l1:=BF (env:=X.env) (K.hx x (by simp));have l2:=BF (env:=X.env) (K.hx y (by simp));have J:=BF (env:=X.env) (K.hx z (by simp))
 Zh (X:=cxN X [x,y,z] B g I C O D) S (wG (lY (i:=0) q rfl (.inl l1) (.inr l1)) (wG (lY (i:=1) q rfl (.inl l2) (.inr l2)) (wG (lY (i:=2) q rfl (.inl J) (.inr J)) qA)))
def XB
  (J:X.calm=true)(Z:(x::y::X.N).Nodup)(K:∃g,eK X [x,y] D g)(hi:CI X (.Tuple [.Name x p1,.Name y p2] k p) O wi U)(ht:∀g B C I q,CF (cxN X [x,y] D g B C I q) ae t)(ab:∀g B C I q,CE (cxN X [x,y] D g B C I q) Y c)(hs:∀v,foldedSetIterable O X.env v=pure v:=by intro _;rfl):CE X (.ListComp Y [⟨.Tuple [.Name x p1,.Name y p2] k p,O,ae,0⟩] D pos) (Qe 2 U t c) :=
 GE J K (fun _ _ _ _ _ S=>pg2 J Z S) gok2 hi ht ab hs
end
end CL
namespace L2
open PySem PySem.W PySem.Spec PyProof.Rows
abbrev Path:=List (List Key)
end L2
namespace CL
open PySem PySem.Spec L2 PySem.W
open PyProof.Rows hiding St
section
variable {X:Cx}{a b c e o i f value:Expr}{es:List Expr}{pos pos':Pos}
@[irreducible] def cInt:GC:=fun ts C Q=>match ts with
 |[.bl b]=>Q (.int (if b then 1 else 0)) C
 |[.int i]=>Q (.int i) C
 |_=>False
def eD{K}:Cbi K (fun xs H Q=>(∃i,xs=[.int i]/\Q (.int i) H)\/∃k,xs=[.bl k]/\Q (.int (if k then 1 else 0)) H) cInt:=fun xs ts H C Q R rs h q f=>by
 delta cInt at q
 split at q
 .obtain ⟨v,rfl,r⟩:=iX rs
  cases r;exact .inr ⟨_,rfl,f _ H _ C q (.int _) h Fw.refl⟩
 .obtain ⟨v,rfl,r⟩:=iX rs
  cases r;exact .inl ⟨_,rfl,f _ H _ C q (.int _) h Fw.refl⟩
 .exact q.elim
@[irreducible] def cCatT:R2C:=fun x y C Q=>match x,y with
 |.tup xs,.tup ys=>xs.length+ys.length<=sizeLine/\Q (.tup (xs++ys)) C
 |_,_=>False
@[irreducible] def jN:PV->List PV->CH->K1->Prop:=fun x ts C Q=>match x,ts with
 |.ref a,[.ref b]=>match C a,C b with
  |some (.lst xs),some (.lst ys)=>xs.length+ys.length<=sizeLine/\Q .non (gQ C a (.lst (xs++ys)))
  |_,_=>False
 |_,_=>False
def ZZ{K}:Cmt K Jy jN:=fun x U xs ps H C Q R O rs h q f=>by
 delta jN at q
 split at q
 .split at q
  .next ys zs B I =>
   refine zX (h _ _ B) fun vs g rv=>zX (h _ _ I) fun S J D=>?_;obtain⟨v,rfl,r⟩:=iX rs;cases O;cases r
   exact⟨_,_,vs,S,rfl,rfl,g,J,by exact rv.len▸D.len▸q.1,f _ _ _ _ q.2 .non (h.put g rfl ⟨_,fQ,(rv.append D).imm (Imm.mut g rfl _)⟩) (Fw.put B _ _)⟩
  .exact q.elim
 .exact q.elim
def cBM0(q:PV->List PV->CH->K1->Prop)(g:TCE):TCE:=fun B C Q=>g B C fun x C1=>isL x C1/\q x [] C1 Q
def fI{id}{apos cpos}(pa:PlainAttrs "list")(af:Slot "list" name id)(ab:typeOf (.builtin id)=pure (.type "method_descriptor"))(U:MtR X id r)(Z:Cmt X.K r D)(Y:CE X o B)(O:attributeBase o name X.env (eval o X.env)=eval o X.env:=by rfl)(S:(apos.endLine==cpos.line)=true:=by rfl):CE X (.Call (.Attribute o name apos) [] [] cpos) (cBM0 D B):=⟨JE.weak (ZE pa af ab U Y.h O S) fun σ H Q zz=>tX zz fun ρ C R s h ae f=>
 ⟨ρ,C,_,s,h,ae,fun x H1 px C1 g q h1 J=>⟨YG g.1 q h1,Z x px [] [] H1 C1 Q R q .nil h1 g.2 fun v H' t C' q' r' h' I=>f v H' t C' q' r' h' (J.trans I)⟩⟩⟩
@[irreducible] def kL:PV->List PV->CH->K1->Prop:=fun x ts C Q=>match x,ts with
 |.ref a,[]=>match C a with
  |some (.lst xs)=>Q .non (gQ C a (.lst xs.reverse))
  |_=>False
 |_,_=>False
def cB{K}:Cmt K QI kL:=fun x I xs ps H C Q R D rs h q f=>by
 delta kL at q
 split at q
 .split at q
  .next ys B =>
   obtain⟨vs,g,rv⟩:=(h _ _ B);cases rs;cases D;exact⟨_,vs,rfl,rfl,g,f _ _ _ _ q .non (h.put g rfl ⟨_,fQ,rv.reverse.imm (Imm.mut g rfl _)⟩) (Fw.put B _ _)⟩
  .exact q.elim
 .exact q.elim
@[irreducible] def cClear:PV->List PV->CH->K1->Prop:=fun x ts C Q=>match x,ts with
 |.ref a,[]=>match C a with
  |some (.lst xs)=>Q .non (gQ C a (.lst []))
  |_=>False
 |_,_=>False
@[irreducible] def cSlT:PV->Option Int->Option Int->CH->K1->Prop:=fun x lo hi C Q=>match x with
 |.tup xs=>¬ (HT.sIx xs.length 0 lo=0/\HT.sIx xs.length xs.length hi=xs.length)/\Q (.tup (uH xs lo hi)) C
 |_=>False
def Z2{lo}(ab:CE X e S)(hl:CPt X lo U)(hu:CPt X hi ch):CE X (.Subscript e (.Slice lo hi none p2) pos) (cSl cSlT S U ch):=⟨JE.weak (oC sl_tup ab.h hl.h hu.h) fun σ H Q zz=>tX zz fun I C R s h ae f=>
 ⟨I,C,_,s,h,ae,fun x H1 px C1 q1 rx h1 q=>⟨I,C1,_,s.imm (q.imm h),h1,q1,fun l H2 l' C2 q2 Y h2 B=>⟨I,C2,_,(s.imm (q.imm h)).imm (B.imm h1),h2,q2,fun u H3 u' O g Z h3 J=>by
  cases Y;cases Z
  delta cSlT at g
  split at g
  .have af:=rx.imm ((B.trans J).imm h1)
   cases af with
   |@tup a vs ts e r =>
    exact⟨a,vs,rfl,SqT.of e,by rw[r.len];exact g.1,fun p D=>f _ _ _ O g.2 (.tup fQ ((r.cut l u).imm (Imm.new D _))) (h3.new D _) (q.trans (B.trans (J.trans (Fw.new D _))))⟩
  .exact g.elim⟩⟩⟩⟩
def pksOf:List PV->Option Path
 |[]=>some []
 |t::r=>match aU t,pksOf r with
  |some k,some ks=>some (k::ks)
  |_,_=>none
def KO:PV->Option Path
 |.tup ts=>pksOf ts
 |_=>none
@[irreducible] def cPIx:R2C:=fun x y C Q=>match x with
 |.ref a=>match C a,KO y with
  |some (.dP kvs),some k=>match xV kvs k with
   |some v=>Q v C
   |none=>False
  |_,_=>False
 |_=>False
@[irreducible] def cPIn:R2C:=fun y x C Q=>match x with
 |.ref a=>match C a,KO y with
  |some (.dP kvs),some k=>Q (.bl (xV kvs k).isSome) C
  |_,_=>False
 |_=>False
@[irreducible] def cPutQ:PV->PV->PV->CH->(CH->Prop)->Prop:=fun x y v C Q=>match x with
 |.ref a=>match C a,KO y with
  |some (.dP kvs),some k=>kvs.length < sizeLine/\Q (gQ C a (.dP (putG kvs k v)))
  |_,_=>False
 |_=>False
end
inductive Pl:Nat->PV->Prop
 |non {d:Nat}:Pl d .non
 |bl {d:Nat} (b:Bool):Pl d (.bl b)
 |int {d:Nat} (i:Int):Pl d (.int i)
 |str {d:Nat} (x:Str):Pl d (.str x)
 |tup {d:Nat} {ts:List PV} (h:∀t∈ts,Pl d t):Pl (d+1) (.tup ts)
section
variable {X:Cx}
@[irreducible] def cNeD(d:Nat):R2C:=fun x y C Q=>match x,y with
 |.ref a,.ref b=>match C a,C b with
  |some (.lst xs),some (.lst ys)=>xs=ys/\(∀t∈xs,Pl d t)/\Q (.bl false) C
  |_,_=>False
 |_,_=>False
def nM:List PV->Option (List Str)
 |[]=>some []
 |.str x::r=>(nM r).map (x :: ·)
 |_=>none
def Ku:List PV->Option (List (List Str×Int))
 |[]=>some []
 |.tup [.tup ks,.int i]::r=>match nM ks,Ku r with
  |some zs,some cs=>some ((zs,i)::cs)
  |_,_=>none
 |_=>none
def Qy(e:nM ts=some zs):ts=zs.map PV.str:=by
 induction ts generalizing zs with
 |nil=>cases e;rfl
 |cons t ts g =>
  unfold nM at e
  split at e
  .lia
  .rename_i x r h
   cases h
   cases z:nM ts with
   |none=>rw[z] at e;cases e
   |some ds=>rw[z] at e;cases e;rw[g z];rfl
  .cases e
theorem sT:∀zs:List Str,nM (zs.map PV.str)=some zs
 |[]=>rfl
 |z::zs=>by
  show(nM (zs.map PV.str)).map _=_;rw[sT zs];rfl
def tiOf_eq{ts:List PV}{cs:List (List Str×Int)}(e:Ku ts=some cs):ts=cs.map oZ:=by
 induction ts generalizing cs with
 |nil=>cases e;rfl
 |cons t ts B =>
  unfold Ku at e
  split at e
  .rename_i h;cases h
  .rename_i ks i r h
   cases h
   split at e
   .next zs D g q =>
    cases e;rw[B q,Qy g];rfl
   .cases e
  .cases e
theorem Qt:∀cs:List (List Str×Int),Ku (cs.map oZ)=some cs
 |[]=>rfl
 |c::cs=>by
  show(match nM (c.1.map PV.str),Ku (cs.map oZ) with | some zs,some cs=>some ((zs,c.2)::cs) | _,_=>none)=_;rw[sT,Qt cs]
def Kx{K:De}{H:Hp}{zs:List Str}{vs:List V}(r:Reps K H vs (zs.map PV.str)):vs=zs.map V.str:=by
 induction zs generalizing vs with
 |nil=>cases r;rfl
 |cons z zs g =>
  cases r with
  |cons h r=>cases h;rw[g r];rfl
def tp_at{K:De}{H:Hp}{ys:List V}{cs:List (List Str×Int)}(r:Reps K H ys (cs.map oZ)):∀i,i < ys.length->mP H (ys.getD i .non) (cs.getD i ([],0)):=by
 induction cs generalizing ys with
 |nil=>cases r;intro i hi;exact absurd hi (BY i)
 |cons c cs q =>
  cases r with
  |@cons v _ vs _ h r =>
   intro i hi
   cases i with
   |zero =>
    cases h with
    |tup e B =>
     obtain⟨O,S,rfl,D,I⟩:=oG B;cases I
     cases D with
     |tup g J =>
      rw[Kx J] at g;exact⟨_,_,rfl,e,g⟩
   |succ i=>exact q r i (Bv hi)
@[irreducible] def jL:GC:=fun ts C Q=>match ts with
 |[.ref a]=>match C a with
  |some (.lst xs)=>match Ku xs with
   |some cs=>cs.length < 64/\∀p,C p=none->Q (.ref p) (gQ C p (.lst ((vH cs).map oZ)))
   |none=>False
  |_=>False
 |_=>False
def XE(O:X.A.units+2 < cLine):Cbi X.K (fun xs H Q=>∃l ys lt,xs=[.ref l]/\SqL X.K H l ys/\ys.length < 64/\Srt X H ys lt/\∀p,H p=none->Q (.ref p) (upd H p (.lst (dM lt ys)))) jL:=fun xs ts H C Q R rs h q f=>by
 unfold jL at q
 split at q
 .obtain ⟨v,rfl,r⟩:=iX rs
  split at q
  .next xs e =>
   split at q
   .next cs D =>
    have ex:=tiOf_eq D;subst ex;obtain⟨vs,I,rv⟩:=h _ _ e;cases r;have J:vs.length=cs.length:=by rw[rv.len,AB]
    have B:=QM (oZ ([],0)) (xH cs) rv;rw[AB,VW] at B;exact⟨_,vs,xH cs,rfl,SqL.of I,by rw[J];exact q.1,tT O _ (tp_at rv),fun p g=>f _ _ _ _ (q.2 p (h.fresh g)) (.ref p) (h.lay g ⟨_,fQ,B.imm (Imm.new g _)⟩) (Fw.lay g _ _)⟩
   .exact q.elim
  .exact q.elim
 .exact q.elim
end
end CL
namespace PySem.W
open PySem PySem.Calls PyProof.Rows PyProof.V PySem.Spec
section
variable {prog:Program}{w:World}{A:Around}{E:Value->Shared->Prop}{s:Shared}{d it:Addr}{es:Array DictEntry}{ep i:Nat}
def RawD.ty(x:RawD s.heap d es ep):s.TypeIs (.ref d) "dict":=let ⟨o,e,c,_⟩:=x;⟨o,e,c.1⟩
def KJ{Q:Value->Shared->Prop}(J:(d==sysModules)=false)(B:RawD s.heap d es ep)(I:Q (.ref s.heap.objs.size) { s with heap:=s.heap.push { cls:=.type "dict_keyiterator",data:=.fields #[.ref d,.int 0 0,.int es.size 0,.int ep 0] } }):wpAny (model prog w) A (pyIter (.ref d)) Q E s:=by
 have g:=B.ty;obtain⟨o,D,O,q⟩:=B;refine wpAny_pyIter_slot (by exact g) F.slot_dict_iter (Aw F.slot_dict_iter (by exact g) F.entry_dict_iter ?_ (F.args_dict_iter_1 _))
 (unfold Builtin.«dict.__iter__»;refine AA ?_;unfold Builtin.Dict.dictSlotNone;refine AA (DX g ?_))
 (show wpAny _ _ (pure (Value.ref d)) _ _ s;refine AC ?_;show wpAny _ _ (Builtin.Dict.showsAll d >>= _) _ _ s;unfold Builtin.Dict.showsAll)
 (rw[AX (by rw[J];exact AJ)];refine AA (AC ?_);refine AA (Cd D q ?_);refine AA (Cm D q ?_))
 refine AA (Av (AC ⟨_,rfl,"dict_keyiterator",(_),⟨_,AK _ rfl,rfl⟩,Bb.lookup,(?_)⟩))
 (simpa [rawInt] using I)
def KI{e:DictEntry}{Q:Option Value->Shared->Prop}(J:s.heap.IsKeyIter it d i es.size ep)(ae:RawD s.heap d es ep)(B:es[i]?=some e)(Y:∀h',h'.IsKeyIter it d (i+1) es.size ep->Heap.SameBut it s.heap h'->Q (some e.key) { s with heap:=h' }):wpAny (model prog w) A (pyNext (.ref it)) Q E s:=by
 have g:=J.typeIs;obtain⟨o,D,Z,q⟩:=id J;obtain⟨od,U,ag,I⟩:=id ae
 have S:i < es.size:=by
  rcases Cs i es.size with h | h
  .exact h
  .rw [Array.getElem?_eq_none h] at B;cases B
 have ab:es[i]=e:=by rw[Aq S] at B;exact A7 B
 have af:Builtin.Dict_items.ownsTuple "dict_keyiterator" = false:=by (decide)
 (unfold pyNext;refine AA (DK (BD (name:=Str.ofString "__next__") g Bb (Aw Bb g F.entry_dict_keyiterator_next ?_ (F.args_dict_keyiterator_next_1 _)))))
 (refine AA (AC ?_);refine AA ?_;refine AA ?_;first | refine AA (Bu g (AC ?_)) | refine AA (CM g (AC ?_)))
 (refine AA (wpAny_fieldsOf D q ?_);simp only[af,Bool.false_eq_true,if_false];show wpAny _ _ (if (Value.ref d==Value.none)=true then _ else _) _ _ s)
 (rw[AX (show ¬ ((Value.ref d==Value.none)=true) from AJ)];refine AA (AC ?_);refine AA (Cd U I ?_))
 (rw[AX (by simp)];refine AA (AC ?_);refine AA (Cm U I ?_);rw[AX (by simp)];refine AC ?_)
 (simp only[show ¬ ((i:Int) < 0) from by omega,if_false,Int.toNat_natCast,Array.getElem?_eq_getElem S];refine AA ?_)
 (first | refine AA (Bu g (AC ?_)) | refine AA (CM g (AC ?_)))
 (refine AA (wpAny_isOneOf_keyiter g ?_);show wpAny _ _ (setField (.ref it) 1 (rawInt ((i:Int)+1)) >>= _) _ _ s;refine AA (Ct D q (by simp) ?_))
 have O:(s.heap.update it (Obj.mapFields (·.setIfInBounds 1 (rawInt ((i:Int)+1))))).IsKeyIter it d (i+1) es.size ep:=⟨_,A6 _ D (Obj.isFreed_of_fields (Obj.data_mapFields q _)),(Obj.cls_mapFields ..).trans Z,by rw[Obj.data_mapFields q];simp[rawInt]⟩
 (refine AA (Az ?_);refine AA (wpAny_isOneOf_keyiter (s:={ s with heap:=s.heap.update it (Obj.mapFields (·.setIfInBounds 1 (rawInt ((i:Int)+1)))) }) O.typeIs ?_))
 (show wpAny _ _ (pure es[i].key) _ _ _;rw[ab];exact AC (AC ⟨_,rfl,AC (Y _ O (BP ..))⟩))
def Wi{Q:Option Value->Shared->Prop}(U:A.handled=none)(D:s.heap.IsKeyIter it d i es.size ep)(Y:RawD s.heap d es ep)(S:es.size<=i)(O:∀h',Heap.ExtBut it s.heap h'->Q none { s with heap:=h' }):wpAny (model prog w) A (pyNext (.ref it)) Q E s:=by
 have g:=D.typeIs;obtain⟨o,I,hc,q⟩:=id D;obtain⟨od,J,ab,B⟩:=id Y;have Z:Builtin.Dict_items.ownsTuple "dict_keyiterator" = false:=by (decide)
 (unfold pyNext;refine AA (DK (BD (name:=Str.ofString "__next__") g Bb (Aw Bb g F.entry_dict_keyiterator_next ?_ (F.args_dict_keyiterator_next_1 _)))))
 (refine AA (AC ?_);refine AA ?_;refine AA ?_;first | refine AA (Bu g (AC ?_)) | refine AA (CM g (AC ?_)))
 (refine AA (wpAny_fieldsOf I q ?_);simp only[Z,Bool.false_eq_true,if_false];show wpAny _ _ (if (Value.ref d==Value.none)=true then _ else _) _ _ s)
 (rw[AX (show ¬ ((Value.ref d==Value.none)=true) from AJ)];refine AA (AC ?_);refine AA (Cd J B ?_))
 (rw[AX (by simp)];refine AA (AC ?_);refine AA (Cm J B ?_);rw[AX (by simp)];refine AC ?_)
 (simp only[show ¬ ((i:Int) < 0) from by omega,if_false,Int.toNat_natCast,Array.getElem?_eq_none S];refine AA ?_)
 (first | refine AA (Bu g (AC ?_)) | refine AA (CM g (AC ?_)))
 (show wpAny _ _ (setField (.ref it) 0 .none >>= _) _ _ s;refine AA (Ct I q (by simp) ?_);show wpAny _ _ (newExc (.type "StopIteration") [] >>= _) _ _ _)
 (refine AA ?_;simp only[newExc,newTuple];refine AA (Av ?_ (by size_fits)))
 (refine AA (m:=firstArgMember _ _) (wpAny_of_eq (a:=Value.none) (by first | rfl | (simp only[firstArgMember];rfl)) ?_);refine Av ?_ (by size_fits))
 (simp only[raiseNew];refine AA (wpAny_handled ?_);rw[show A.in1.handled=none from U];refine AA (AC (wpAny_throw ?_)))
 (refine AA (B5 (T:="StopIteration") (b:=true) ⟨_,AK _ rfl,rfl⟩ isSubtype_stop ?_);exact AC (O _ (((BP ..).extBut.push _).push _)))
end
end PySem.W
namespace L2
open PySem PySem.Spec PyProof.Rows PySem.W
section
variable {X:Cx}{pins:List (Addr×Obj)}{σ:St}{H:Hp}{s:Shared}{d:Addr}{o:Obj}{kvs:List (List Key×V)}
def Inv.freezeT{t':Nat}(I:Inv X pins σ H s)(B:H d=some (.dT kvs))(J:s.heap.get? d=some o):Inv X pins σ (upd H d (.frz o (.dT kvs))) { s with toks:=t' }:=by
 have g:∀{b:Addr}{u:HO},H b=some u->u≠.dT kvs->b≠d:=fun e n z=>by subst z;rw[B] at e;cases e;exact n rfl
 refine I.un (h':=s.heap) ⟨fun b u q _ _ _=>q,fun b u q _ _ _=>⟨u.slots,q⟩,fun b u q n _=>by rw[dQ (fun z=>by subst z;rw[B] at n;cases n)];exact n,fun b u q _=>⟨u,q⟩,
  fun b xs q=>by rw[dQ (g q nofun)];exact q,fun b u v q=>by rw[dQ (g q nofun)];exact q,fun b ps q=>⟨#[],by rw[dQ (g q nofun),q];simp⟩⟩ fun b u e=>?_
 have st:∀{b:Addr}{u:HO},H b=some u->ObjOk X.prog X.w (upd H d (.frz o (.dT kvs))) s.heap b u:=fun {b u}e=>(I.hok b u e).stay (fun c v _ q=>q) (fun c q=>by rw[dQ (g q nofun)];exact q) fun c xs q=>by rw[dQ (g q nofun)];exact q
 by_cases D:b=d
 .subst D
  rw[fQ] at e;cases e;exact⟨J,st B⟩
 .rw [dQ D] at e
  exact st e
def Inv.nfT(I:Inv X pins σ H s)(g:H d=some (.dT kvs)):NF X d:=fun q u e=>by
 have:=I.base.frzs d q u e;rw[g] at this;cases this
def Inv.thawT(I:Inv X pins σ H s)(O:H d=some (.frz o (.dT kvs)))(nf:NF X d):Inv X pins σ (upd H d (.dT kvs)) s:=by
 have D:∀{b:Addr}{u:HO},H b=some u->u≠.frz o (.dT kvs)->b≠d:=fun e n z=>by subst z;rw[O] at e;cases e;exact n rfl
 have J:∀{b:Addr},H b=none->b≠d:=fun e z=>by subst z;rw[O] at e;cases e
 obtain⟨m,ab,hl⟩:=I.loc;have B:=I.base;have st:∀{b:Addr}{u:HO},H b=some u->ObjOk X.prog X.w (upd H d (.dT kvs)) s.heap b u:=fun {b u}e=>(I.hok b u e).stay (fun c v _ q=>q) (fun c q=>by rw[dQ (D q nofun)];exact q) fun c xs q=>by rw[dQ (D q nofun)];exact q
 refine⟨I.ok,I.os,I.bare,⟨B.keep,B.slot,fun b u q n x=>by rw[dQ (J (B.free b u q n x))];exact B.free b u q n x,B.there,fun b xs q=>?_,fun b U u q=>?_,fun b ps q=>?_⟩,⟨m,ab,hl⟩,I.cell,by rw[dQ (J I.free)];exact I.free,fun x c e=>by rw[dQ (J (I.freeC x c e))];exact I.freeC x c e,fun p hp=>?_,fun b u e=>?_,I.len⟩
 .have:=B.tups b xs q
  rw[dQ (D this nofun)];exact this
 .have:=B.frzs b U u q
  have g:b≠d:=fun z=>by subst z;exact nf U u q
  rw[dQ g];exact this
 .obtain ⟨ae,e⟩:=B.tbls b ps q
  exact⟨ae,by rw[dQ (D e nofun)];exact e⟩
 .obtain ⟨Y,S,Z⟩:=I.pin p hp
  exact⟨Y,by rw[dQ (J S)];exact S,Z⟩
 .by_cases g:b=d
  .subst g
   rw[fQ] at e;cases e;exact(show ObjOk X.prog X.w _ s.heap b (.frz o (.dT kvs)) from st O).2
  .rw [dQ g] at e
   exact st e
def Yv{e:Expr}{t:TE}(h:JE X e t):JE X e (fun σ H Q=>t σ H fun v H'=>∃d o kvs,H' d=some (.frz o (.dT kvs))/\NF X d/\Q v (upd H' d (.dT kvs))) :=
 ⟨fun pins s σ H Q I q=>thn (h.h pins s σ H _ I q) fun u S ⟨v,H1,g,O,d,o,kvs,B,D,J⟩=>⟨v,_,g.thawT B D,O,J⟩⟩
end
def ItTk(o:Obj)(d:Addr)(kvs:List (List Key×V)):It :=
 ⟨fun i H=>i < kvs.length/\H d=some (.frz o (.dT kvs)),fun i H x H'=>H'=H/\∃p b,kvs[i]?=some p/\x=.ref b/\H b=some (.tup (p.1.map kV)),fun i H=>kvs.length<=i/\H d=some (.frz o (.dT kvs))⟩
def J4{X:Cx}{pins:List (Addr×Obj)}{σ:St}{H:Hp}{s:Shared}{d:Addr}{o:Obj}{kvs:List (List Key×V)}{es:Array DictEntry}{ep:Nat}(I:Inv X pins σ H s)(J:H d=some (.frz o (.dT kvs)))(g:o.data=.dict es ep):
  ∃xs,KT H kvs xs/\RawD s.heap d es ep/\es.toList=xs.map (entryOfKey (tupleKind (sX X.prog X.w)))/\(d==sysModules)=false:=by
 obtain⟨e,_,D,xs,U,o',Z,Y,q,O,B,S,q5⟩:=(show ObjOk X.prog X.w H s.heap d (.frz o (.dT kvs)) from I.hok d _ J);rw[e] at q;cases q;rw[g] at B;cases B;exact⟨xs,U,⟨o,e,O,g⟩,S,D⟩
theorem KT.get: ∀{kvs}{xs},KT H kvs xs->∀{i:Nat}{p},kvs[i]?=some p->∃q,xs[i]?=some q/\p.1=q.1/\H q.2.1=some (.tup (p.1.map kV))
 |_,_,.nil,i,p,e=>by simp at e
 |_,_,.cons h t,i,p,e=>by
  cases i with
  |zero=>cases e;exact⟨_,rfl,h.1,h.2.1⟩
  |succ i=>exact KT.get t e
def X0{P:Program}{w:World}{K:De}{tg:Expr}(o:Obj)(d it:Addr)(kvs:List (List Key×V))(es:Array DictEntry)(ep:Nat)(aj:es.size=kvs.length)(ho:o.data=.dict es ep):Jd P w K tg (ItTk o d kvs) [it] it (fun i h=>h.IsKeyIter it d i es.size ep) where
 mem:=by simp
 obj:=fun i h st b g=>by
  have e:b=it:=by simpa using g
  subst e;obtain⟨o,e,c,d⟩:=st;exact⟨o,e,fun v z=>by rw[d] at z;cases z⟩
 keep:=fun i h h' st k=>let ⟨ob,e,r⟩:=st;⟨ob,k it (by simp) ob e,r⟩
 item:=by
  intro X Z ae Y hc i pins s σ H E I q st hg;subst Z ae Y;obtain⟨hi,ab⟩:=hg;obtain⟨xs,ah,B,ag,_⟩:=J4 I ab ho;obtain⟨D,J,ai,O,S,U⟩:=q it (by simp);have hk:kvs[i]?=some kvs[i]:=AO _;obtain⟨af,hq,k1,k2⟩:=KT.get ah hk
  have hx:es[i]?=some (entryOfKey (tupleKind (sX X.prog X.w)) af):=by
   rw[<- Array.getElem?_toList,ag,A0,hq];rfl
  refine KI st B hx fun h' st' sb=>?_;have I1:Inv X pins σ H { s with heap:=h' }:=I.turned (t':=s.toks) (fun b o g e=>(sb.2 b g).trans e) D J O S U;obtain⟨ob,e,c,dt⟩:=id st';exact⟨.ref af.2.1,rfl,Xj (s:={ s with heap:=h' }) e c dt (by decide) ⟨.ref af.2.1,H,I1,rfl,⟨rfl,_,_,hk,rfl,k2⟩,st',fun b g=>(q b g).1⟩⟩
 done:=by
  intro X Z ae Y hc i pins s σ H E I q st hg;subst Z ae Y;obtain⟨hi,ab⟩:=hg;obtain⟨xs,ah,B,ag,_⟩:=J4 I ab ho;obtain⟨D,J,ai,O,S,U⟩:=q it (by simp);exact Wi (I.ok.hd hc) st B (by omega) fun h' eb=>⟨rfl,I.turned (t':=s.toks) (fun b o g e=>eb b o g e) D J O S U⟩
 self:=fun _ _ _ _ _ st h=>wpAny_pyIter_keyiter st h
section
variable {X:Cx}{tg:Expr}
def iDictT(X:Cx)(td:TE):TI:=fun σ H R=>td σ H fun x H1=>∃d kvs,x=.ref d/\H1 d=some (.dT kvs)/\∀o,NF X d->R (ItTk o d kvs) (upd H1 d (.frz o (.dT kvs)))
def Yt{e:Expr}{td:TE}(ab:JE X e td):JI X tg e (iDictT X td):=by
 refine⟨fun pins s σ H R I h=>?_⟩;refine thn (ab.h pins s σ H _ I h) fun v g zz=>uZ zz fun x H1 q r1 q1=> ?_;obtain⟨d,kvs,rfl,D,ae⟩:=q1;cases (show v=Value.ref d from r1);obtain⟨z,Y,xs,af,o,es,ep,J,S,O,U,g5⟩:=(show ObjOk X.prog X.w H1 g.heap d (.dT kvs) from q.hok d _ D);have hl:es.size=kvs.length:=by rw[<- A3,U,AB,<- Paired.length af]
 have B:=q.freezeT (t':=g.toks) D J;refine KJ (es:=es) (ep:=ep) Y ⟨o,J,S,O⟩ ?_;refine⟨g.heap.objs.size,[g.heap.objs.size],_,_,_,rfl,B.kept (t':=g.toks) fun b o e=>AD _ e,X0 o d _ kvs es ep hl O,⟨_,AK _ rfl,rfl,rfl⟩,fun b Z=>?_,ae o (q.nfT D)⟩;have e:b=g.heap.objs.size:=by simpa using Z
 subst e;exact B.fpOk (AH _) (B.hok.fresh (AH _))
end
end L2
namespace CL
open PySem PySem.Spec L2 PySem.W
open PyProof.Rows hiding St
section
variable {X:Cx}{pos:Pos}
def sG(k:List Key):PV:=.tup (k.map zK)
theorem qO{K:De}{H:Hp}:∀ks:List Key,Reps K H (ks.map kV) (ks.map zK)
 |[]=>.nil
 |k::ks=>.cons (KG k) (qO ks)
@[irreducible] def Qd(q:TCE)(t:TCT)(c:TCE):TCE:=fun g C Q=>q g C fun x C1=>match x with
 |.ref d=>match C1 d with
  |some (.dT kvs)=>cJ t c g (fun v C2=>C2 d=some (.fT kvs)/\Q v (gQ C2 d (.dT kvs))) (kvs.map fun p=>sG p.1) [] (gQ C1 d (.fT kvs))
  |_=>False
 |_=>False
def FP.keys{K}{kvs:List (κ×PV)}(r:FP K H vs kvs):vs.map (·.1)=kvs.map (·.1):=by
 induction r with
 |nil=>rfl
 |cons h _ g=>rw[BA,BA,h.1,g]
def YD{K:De}{o:Obj}{d:Addr}{vs:List (List Key×V)}{kvs:List (List Key×PV)}(e:vs.map (·.1)=kvs.map (·.1)):ItOn K (fun H'=>H' d=some (.frz o (.dT vs))) (ItTk o d vs) (kvs.map fun p=>sG p.1) where
 go:=fun i H' l s=>⟨by
  have:(vs.map (·.1)).length=(kvs.map (·.1)).length:=by rw[e]
  rw[AB,AB] at this;rw[AB] at l
  omega,s⟩
 yl:=fun i H' x I s y=>⟨y.1,fun t g=>by
  obtain⟨p,b,D,rfl,B⟩:=y.2;have h1:(vs.map (·.1))[i]?=some p.1:=by rw[A0,D];rfl
  rw[e,A0] at h1;rw[A0] at g
  cases z:kvs[i]? with
  |none=>rw[z] at g;cases g
  |some q =>
   rw[z] at g h1;cases g;have h1:q.1=p.1:=A7 h1;show Rep K H' (.ref b) (sG q.1);rw[h1]
   exact .tup B (qO p.1)⟩
 st:=fun H' s=>⟨by
  have:(vs.map (·.1)).length=(kvs.map (·.1)).length:=by rw[e]
  rw[AB,AB] at this;rw[AB]
  omega,s⟩
def GD{af ab:Expr}{x:Str}{px:Pos}{ag:List Expr}{U:Scope}{ae:TCE}{t:TCT}{c:TCE}(hc:X.calm=true)(hN:(x::X.N).Nodup)(K:∃q,aB X x U q)(hi:CE X ab ae)(ht:∀q D C I B,CF (cK X x U q D C I B) ag t)(aq:∀q D C I B,CE (cK X x U q D C I B) af c)(hs:∀v,foldedSetIterable ab X.env v=pure v:=by intro _;rfl):CE X (.ListComp af [⟨.Name x px,ab,ag,0⟩] U pos) (Qd ae t c) :=
 ⟨JE.weak (Yv (eC (te:=mJ X.K (Rep X.K) c) (tc:=mJ X.K sF t) hc hN K (Yt hi.h) (fun q D C I B=>(ht q D C I B).h) (fun q D C I B=>(aq q D C I B).h) hs)) fun σ H Q zz=>tX zz fun ρ C R s h aj f=> by
  unfold Qd at aj
  exact⟨ρ,C,_,s,h,aj,fun xv H1 px C1 J rx h1 Z=>by
   split at J
   .next d =>
    split at J
    .next kvs e =>
     obtain⟨vs,Y,r⟩:=h1 d _ e;cases rx;refine⟨d,vs,rfl,Y,fun o nf ar hD=>?_⟩;have m:Imm H1 (upd H1 d (.frz o (.dT vs))):=Imm.mut Y rfl _;have h2:HRel X.K (upd H1 d (.frz o (.dT vs))) (gQ C1 d (.fT kvs)):=h1.put Y rfl ⟨o,vs,fQ,Paired.mapP r fun _ _ z=>⟨z.1,z.2.imm m⟩⟩;have ao:Fw H1 C1 (upd H1 d (.frz o (.dT vs))) (gQ C1 d (.fT kvs)):=Fw.put e _ _
     have ak:∀H' C',Fw (upd H1 d (.frz o (.dT vs))) (gQ C1 d (.fT kvs)) H' C'->H' d=some (.frz o (.dT vs)):=fun H' C' g=>by
      have:=(g d (by rw[jQ];rfl) (by rw[fQ];exact fun z=>nomatch z)).2;rw[this,fQ]
     refine comp_on (Q:=fun v H'=>∃d o kvs,H' d=some (.frz o (.dT kvs))/\NF X d/\Q v (upd H' d (.dT kvs))) (H0:=upd H1 d (.frz o (.dT vs))) (C0:=gQ C1 d (.fT kvs)) (YD r.keys) (fun H' C' _ g=>ak H' C' g) ((s.imm (Z.imm h)).imm m) h2 J h2 Fw.refl (fun v H' p C' q' r' h' f'=>?_) hD;obtain⟨e1,q2⟩:=q';have S:=ak H' C' f';refine⟨d,o,vs,S,nf,?_⟩;have m':Imm H' (upd H' d (.dT vs)):=Imm.mut S rfl _
     obtain⟨o',au,e3,r3⟩:=h' d _ e1;rw[S] at e3;cases e3;refine f v _ p _ q2 (r'.imm m') (h'.put S rfl ⟨vs,fQ,Paired.mapP r3 fun _ _ z=>⟨z.1,z.2.imm m'⟩⟩) ?_;intro a O ah;obtain⟨x1,x2⟩:=(Z.trans (ao.trans f')) a O ah
     have ai:a≠d:=fun z=>by
      subst z;obtain⟨y1,y2⟩:=Z a O ah;rw[<- y1,e] at O;cases O
     exact⟨(wQ ai).trans x1,(dQ ai).trans x2⟩
    .exact J.elim
   .exact J.elim⟩⟩
def tOf:Option CO->Option (List (List Key×PV))
 |some (.dT kvs)=>some kvs
 |some (.fT kvs)=>some kvs
 |_=>none
def tOf_rd{K:De}{H:Hp}{C:CH}{a:Addr}{kvs:List (List Key×PV)}(h:HRel K H C)(e:tOf (C a)=some kvs):∃vs,Rd H a (.dT vs)/\FP K H vs kvs:=by
 cases c:C a with
 |none=>rw[c] at e;cases e
 |some o =>
  rw[c] at e
  cases o with
  |dT l=>cases e;obtain⟨vs,q,r⟩:=h a _ c;exact⟨vs,.inl q,r⟩
  |fT l=>cases e;obtain⟨o,vs,q,r⟩:=h a _ c;exact⟨vs,.inr ⟨o,q⟩,r⟩
  |_=>cases e
@[irreducible] def cTIy:R2C:=fun x y C Q=>match x with
 |.ref a=>match tOf (C a),aU y with
  |some kvs,some k=>match xV kvs k with
   |some v=>Q v C
   |none=>False
  |_,_=>False
 |_=>False
def ce_tiy{o i:Expr}{B q:TCE}(hu:X.A.units+1 < cLine)(ho:CE X o B)(hi:CE X i q)(hs:VE i):CE X (.Subscript o i pos) (cOp cTIy B q):=⟨JE.weak (eA hu ho.h hi.h hs) fun σ H Q zz=>tX zz fun O C R s h ab f=>
 ⟨O,C,_,s,h,ab,fun x H1 px C1 q1 rx h1 I=>⟨O,C1,_,s.imm (I.imm h),h1,q1,fun y H2 af C2 g ry h2 J=>by
  unfold cTIy at g
  split at g
  .next a =>
   split at g
   .next kvs k S U =>
    split at g
    .next t D =>
     have ae:=rx.imm (J.imm h1);cases ae;obtain⟨vs,Z,r⟩:=tOf_rd h2 S;obtain⟨b,rfl,Y⟩:=xY ry U
     rcases FP.val r k with ⟨v,t',l1,l2,rv⟩ | ⟨_,l2⟩
     .rw [D] at l2
      cases l2;exact⟨a,v,rfl,.inr ⟨vs,k,b,Z,rfl,Y,l1.symm⟩,f v H2 t C2 g rv h2 (I.trans J)⟩
     .rw [D] at l2;cases l2
    .exact g.elim
   .exact g.elim
  .exact g.elim⟩⟩⟩
end
end CL
namespace L2
open PySem PySem.Spec PyProof.Rows
section
variable {X:Cx}
def Yr{i:Nat}{y:Str}{xs:List Str}{tg:Expr}{g:TG}{ai pos ar:Pos}{af Y:Expr}{ah:List Expr}{O:Scope}{U:List (Str×Addr)}{wi:TI}{tc:TT}{te:TE}(ax:X.N.Nodup)(hi:X.N[i]?=some y)(hy:Loc X.env.scope y)(hc:X.calm=true)(K:eK X xs O U)(hg:∀D C I B,PG (cxN X xs O U D C I B) tg g)(hG:∀Z vs a σ H Q,Z.length=xs.length->SqT X.K H a vs->vs.length=xs.length->Q (vs.map some++σ) H->g (.ref a) (Z++σ) H Q)(hI:JI X tg Y wi)(ht:∀D C I B,JF (cxN X xs O U D C I B) ah tc)(az:∀D C I B,JE (cxN X xs O U D C I B) af te)(hs:∀v,foldedSetIterable Y X.env v=pure v:=by intro _;rfl)(a4:swapsWith (.ListComp af [⟨tg,Y,ah,0⟩] O pos) (some (.Name y ai)) ar.line X.env=pure true:=by rfl)(a0:X.fn y=true\/X.env.scope.names.lookup y=some .local:=by first | exact .inl rfl | exact .inr rfl | assumption):
  JS X (.Assign [.Name y ai] (.ListComp af [⟨tg,Y,ah,0⟩] O pos) ar) (Kw (X2 X.K xs.length wi tc te) (sY i)):=by
 refine⟨fun pins s σ H ab au h=>?_⟩;rw[exec_Assign_Name_used _ _ _ _ a4];refine AA (wpAny_standAt (AA (AA (CN (use:=some (assign (.Name y ai) X.env)) rfl hs K.clos K.kind K.names (thn (hI.h pins s σ H _ au h) fun xv bc a5=>thn a5 fun ba I a6=>?_)))));obtain⟨it,D,tn,J,B,e,ae,T,a8,av,R⟩:=a6;subst e;refine tY (Tk:=fun x H vs=>∃a,x=.ref a/\SqT X.K H a vs) (Q:=fun x H1=>sY i x σ H1 ab.nx) hc K hg (fun D C I B=>(ht D C I B).h) (fun D C I B=>(az D C I B).h) (fun Z vs x H Q l ⟨a,e,aj⟩ l' q=>by rw[e];exact hG Z vs a σ H Q l aj l' q) ae T a8 av (fun ab hD=>let ⟨W,w0,a9⟩:=R ab hD;⟨W,w0,fun i m ys H w=>(a9 i m ys H w).imp id fun zz=>yF zz fun g st=> ⟨g,fun x H' y=>let ⟨a,vs,e,aj,l,q⟩:=st x H' y;⟨vs,⟨a,e,aj⟩,l,q⟩⟩⟩) ?_
 intro D' C H' bb m hn ak aw ao aq I4 q;refine wpAny_assign_Name (mL I4 ax hi hy (v:=.ref D') rfl (fun a7 I5 ag=>?_) a0);obtain⟨b,ag,S⟩:=ag
 have ay:C≠b:=by
  rcases S with rfl | S
  .exact ak
  .exact fun z=>ao _ _ S z.symm
 refine⟨m,hn.at' fun o e=>(ag.2 C ay).trans e,fun h' a3=>AC (AC ?_)⟩;refine⟨_,H',?_,q⟩;refine I5.turned (it:=C) (t':=a7.toks) (fun b o S e=>(a3.2 b S).trans e) aw ak (.inr (AW ae.sz aq)) ao fun p hp z=>?_;exact absurd (AQ (AG (ae.pin p hp).1) (by rw[z];exact aq)) (A9 _)
end
end L2
namespace CL
open PySem PySem.Spec L2 PySem.W
open PyProof.Rows hiding St
def Gk{X:Cx}{i:Nat}{w x y z:Str}{ae U p2 Y p pos af:Pos}{k:Nat}{O J:Expr}{S:List Expr}{I:Scope}{wi:TI}{Z:CSt->CH->(List PV->CH->Prop)->Prop}{t:TCT}{c:TCE}(ah:X.N.Nodup)(hi:X.N[i]?=some w)(hy:Loc X.env.scope w)(hc:X.calm=true)(hN:(x::y::z::X.N).Nodup)(K:∃g,eK X [x,y,z] I g)(hI:CI X (.Tuple [.Name x U,.Name y p2,.Name z Y] k p) J wi Z)(ht:∀g B C D q,CF (cxN X [x,y,z] I g B C D q) S t)(ai:∀g B C D q,CE (cxN X [x,y,z] I g B C D q) O c)(hs:∀v,foldedSetIterable J X.env v=pure v:=by intro _;rfl)(ak:swapsWith (.ListComp O [⟨.Tuple [.Name x U,.Name y p2,.Name z Y] k p,J,S,0⟩] I pos) (some (.Name w ae)) af.line X.env=pure true:=by rfl)(aj:X.fn w=true\/X.env.scope.names.lookup w=some .local:=by first | exact .inl rfl | exact .inr rfl | assumption):
  CS X (.Assign [.Name w ae] (.ListComp O [⟨.Tuple [.Name x U,.Name y p2,.Name z Y] k p,J,S,0⟩] I pos) af) (Vw i (Qe 3 Z t c)):=by
 obtain⟨g,K⟩:=K;refine⟨JS.weak (Yr (te:=mJ X.K (Rep X.K) c) (tc:=mJ X.K sF t) (xs:=[x,y,z]) ah hi hy hc K (fun _ _ _ _=>pg3 hc hN K) gok3 hI.j (fun B C D q=>(ht g B C D q).h) (fun B C D q=>(ai g B C D q).h) hs ak aj) fun ag σ H zz=>tX zz fun ρ C E s h ao f=> ?_⟩;exact mC (Q:=fun x H'=>ag.nx (σ.set i (some x)) H') hI ⟨ρ,C,_,s,h,ao,fun x H1 px C1 q1 rx h1 ab=>f.nx _ H1 _ C1 q1 ((s.imm (ab.imm h)).set rx i) h1 ab⟩
end CL
namespace L2
open PySem PySem.W PyProof.Rows
def drop(H:Hp)(a:Addr):Hp:=fun b=>if b=a then none else H b
end L2
namespace CL
open PySem PySem.Spec L2 PySem.W
open PyProof.Rows hiding St
section
variable {X:Cx}{a b c e o i f value:Expr}{es:List Expr}{pos pos':Pos}
@[irreducible] def cRev:PV->CH->K1->Prop:=fun x C Q=>match x with
 |.ref a=>match C a with
  |some (.lst xs)=>∀p,C p=none->Q (.ref p) (gQ C p (.lst xs.reverse))
  |_=>False
 |_=>False
def rngPV(n:Nat):List PV:=(List.range n).map fun k=>PV.int (k:Nat)
@[irreducible] def cRng:PV->CH->K1->Prop:=fun x C Q=>match x with
 |.int j=>0<=j/\j<=100000/\∀p,C p=none->Q (.ref p) (gQ C p (.lst (rngPV j.toNat)))
 |_=>False
@[irreducible] def cPop:PV->List PV->CH->K1->Prop:=fun x ts C Q=>match x,ts with
 |.ref a,[]=>match C a with
  |some (.lst xs)=>match xs[xs.length - 1]? with
   |some y=>Q y (gQ C a (.lst xs.dropLast))
   |none=>False
  |_=>False
 |_,_=>False
def cmt_pop{K}:Cmt K rPop cPop:=fun x U xs ps H C Q R S rs h q f=>by
 delta cPop at q
 split at q
 .split at q
  .next ys B =>
   split at q
   .next y D =>
    obtain⟨vs,g,rv⟩:=(h _ _ B);cases rs;cases S;obtain⟨v,J,O⟩:=(rv.get D)
    have I:Reps K H vs.dropLast ys.dropLast:=by
     rw[List.dropLast_eq_take,List.dropLast_eq_take,rv.len];exact rv.take _
    exact⟨_,vs,v,rfl,rfl,g,by exact rv.len▸J,f _ _ _ _ q (O.imm (Imm.mut g rfl _)) (h.put g rfl ⟨_,fQ,I.imm (Imm.mut g rfl _)⟩) (Fw.put B _ _)⟩
   .exact q.elim
  .exact q.elim
 .exact q.elim
@[irreducible] def cTru(c:TCE):TCT:=fun g C Q=>c g C fun x C1=>match x with
 |.ref a=>match C1 a with
  |some (.lst xs)=>Q (!xs.isEmpty) C1
  |_=>False
 |_=>False
def ct_tru{c}(h:CE X e c)(J:vG e=true:=by rfl):CT X e (cTru c):=⟨JT.weak (Yo h.h J) fun σ H Q S=>tX S fun U C R s h q f=> by
 delta cTru at q
 exact⟨U,C,_,s,h,q,fun x H1 Y C1 g O h1 I=>by
  split at g
  .split at g
   .next xs B =>
    refine zX (h1 _ _ B) fun vs D rv=>?_;cases O;refine⟨!xs.isEmpty,.inl ⟨vs,SqL.of D,?_⟩,f _ H1 _ C1 g rfl h1 I⟩;have:=rv.len;cases vs<;>cases xs<;>simp_all
   .exact g.elim
  .exact g.elim⟩⟩
def pop_s(m:C p=some (.lst xs))(e:xs[xs.length - 1]?=some y)(q:Q y (gQ C p (.lst xs.dropLast))):cPop (.ref p) [] C Q :=by simp_all[cPop]
def tru_i{c}(h:c g C fun x C1=>∃a xs,x=.ref a/\C1 a=some (.lst xs)/\Q (!xs.isEmpty) C1)(I:∀(B D:K1),(∀v C1,B v C1->D v C1)->c g C B->c g C D):cTru c g C Q:=by
 delta cTru
 refine I _ _ ?_ h;rintro v C1 ⟨b,xs,rfl,m,q⟩;dsimp only
 rwa [m]
end
structure Row where
 k:Option Str
 nm:Str
 q:Str
 st:Stmt
 ps:List Str
 N:List Str
def AllR(p:Row->Prop):List Row->Prop
 |[]=>True
 |r::rs=>p r/\AllR p rs
def FH(K:De)(r:Row):Prop:=match r with
 |⟨none,B,q,st,_,_⟩=>∃(f:Addr)(S:Value)(U:Option Addr)(O J Y:Value)(D:Option Addr)(g I:Value)(Z:Array (Option Value)),
  PySem.W.nsIn K mainGlobals B=some (some (.ref f))/\K.lookup f=some ⟨S,U,.func (PySem.W.fnOf B q (oY st) (uV st) (nX st) .none O J Y D g I),Z⟩/\PySem.W.codeIn K g q=true/\PySem.W.keepIn K (.ref f)=true
 |⟨some c,B,q,st,_,_⟩=>∃(cc f:Addr)(S:Value)(U:Option Addr)(O J Y:Value)(D:Option Addr)(g I:Value)(Z:Array (Option Value)),
  PySem.W.nsIn K mainGlobals c=some (some (.ref cc))/\PySem.W.findIn K (.ref cc) B=some (some (.ref f))/\K.lookup f=some ⟨S,U,.func (PySem.W.fnOf B q (oY st) (uV st) (nX st) .none O J Y D g I),Z⟩/\PySem.W.codeIn K g q=true/\PySem.W.keepIn K (.ref f)=true/\PySem.W.isFn K (.ref f)=true
def RB(r:Row):Prop:=FnScope r.N r.ps (nX r.st)/\∀(J I O:Value)(q:Option Addr)(B D:Value)(g:List Value),g.length=r.ps.length->bindArgs (PySem.W.fnOf r.nm r.q (oY r.st) (uV r.st) (nX r.st) .none J I O q B D) ⟨g,[]⟩=pure (r.ps.zip g)
structure FI(K:De)(mg:Str->Option Value)(k:Option Str)(nm q:Str)(st:Stmt)(ps N:List Str)(f:Addr)(d:FuncData):Prop where
 m:k=none->mg nm=some (.ref f)
 M:∀c ca,k=some c->mg c=some (.ref ca)->PySem.W.findIn K (.ref ca) nm=some (some (.ref f))/\PySem.W.isFn K (.ref f)=true
 F:Fun K nm q st f d
 s:FnScope N ps (nX st)
 b:Binds K d ps []
section
variable {P:List Value->Prop}
def XI(h:∀a(g:List Value),g.length=n->P (a::g))g(e:g.length=n+1):P g:=by
 cases g with
 |nil=>cases e
 |cons a g=>exact h a g (Ay e)
def args0(h:P [])g(e:g.length=0):P g :=by grind
def args1(h:∀a,P [a]):∀g,g.length=1->P g:=XI fun a=>args0 (h a)
def args2(h:∀a b,P [a,b]):∀g,g.length=2->P g:=XI fun a=>args1 (h a)
def args3(h:∀a b c,P [a,b,c]):∀g,g.length=3->P g:=XI fun a=>args2 (h a)
def args4(h:∀a b c d,P [a,b,c,d]):∀g,g.length=4->P g:=XI fun a=>args3 (h a)
def args5(h:∀a b c d e,P [a,b,c,d,e]):∀g,g.length=5->P g:=XI fun a=>args4 (h a)
end
def fi_one{K}(X:K.In h)(G:h.Ns mainGlobals mg)(x:FH K r)(y:RB r):∃f d,FI K mg r.k r.nm r.q r.st r.ps r.N f d:=by
 obtain⟨k,af,ag,st,ps,N⟩:=r;obtain⟨B,D⟩:=y
 cases k with
 |none =>
  obtain⟨f,oc,od,Z,S,ab,I,J,O,sl,h1,h2,g,q⟩:=x;exact⟨f,_,⟨fun _=>Bf X G h1,fun _ _ e=>(nomatch e),kI h2 g q,B,Fun.binds (kI h2 g q) D⟩⟩
 |some c =>
  obtain⟨cc,f,oc,od,Z,S,ab,I,J,O,sl,h0,h1,h2,g,q,Y⟩:=x;refine⟨f,_,⟨fun e=>(nomatch e),fun c' ae e U=>?_,kI h2 g q,B,Fun.binds (kI h2 g q) D⟩⟩;cases e;have:=(Bf X G h0).symm.trans U;cases this;exact⟨h1,Y⟩
theorem fi_all{K}(X:K.In h)(G:h.Ns mainGlobals mg):∀{t},AllR (FH K) t->AllR RB t->∃(f:Nat->Addr)(d:Nat->FuncData),∀i{k}{g q}{st}{ps N},t[i]?=some ⟨k,g,q,st,ps,N⟩->FI K mg k g q st ps N (f i) (d i)
 |[],_,_=>⟨fun _=>mainGlobals,fun _=>PySem.W.fnOf "" "" (oY (.Pass ⟨0,0,0,0⟩)) [] (nX (.Pass ⟨0,0,0,0⟩)) .none .none .none .none none .none .none,fun i _ _ _ _ _ _ e=>by simp at e⟩
 |r::t,x,y=>by
  refine el21 (fi_one X G x.1 y.1) fun D B h0=>el21 (fi_all X G x.2 y.2) fun f d h=>⟨fun i=>match i with | 0=>D | i+1=>f i,fun i=>match i with | 0=>B | i+1=>d i,fun i=>?_⟩
  cases i with
  |zero=>intro k g q st ps N e;cases e;exact h0
  |succ i=>intro k g q st ps N e;exact h i e
section
variable {P:Program}{w:World}{K:De}{mg:Str->Option Value}{base:Heap}
theorem FI.ok{st}(F:FI K mg J x q st ps N f fd)(D:∀ts C R,G ts C R->ts.length=ps.length)(B:∀g A I s H E,Room k (A.deeper (envOfC q (nX st) s.heap.objs.size f g)) ->
   ∃c,CB (Xx CX0 P w K mg base N q (nX st) f g A I s H E).nox (uV st) c/\∀ts C R,G ts C R->c { nx:=fun _ C'=>R .non C',rt:=R } (sN N ts) C):FnOk P w K mg base CX0 (k+1) f fd ps (spC K G):=Fun.okC F.F F.s D B
end
section
variable {X:Cx}{e o:Expr}{es:List Expr}{pos:Pos}
def cf{st}{p}(T:FI X.K X.mg none x q st ps N f fd)(F:FnOk X.prog X.w X.K X.mg X.base CX0 k f fd ps (spC X.K G))(O:Room k X.A)(B:CA X (e::es) g)(J:Gl X x:=by rfl)(I:(x==("__debug__" : Str))=false:=by decide)(hs:wX e=true:=by rfl)(D:es.all wX=true:=by rfl):CE X (.Call (.Name x p) (e::es) [] pos) (bE G g) :=
 ce_call F O J (T.m rfl) T.F.kp T.b WT B I hs D
def cm{st}{apos}{pl}(S:Cls X.K c)(T:FI X.K X.mg (some D) m ae st ps N J fd)(g:X.mg D=some (.ref c))(F:FnOk X.prog X.w X.K X.mg X.base CX0 k J fd ps (spC X.K G))(Z:Room k X.A)(U:CE X o I)(O:CA X (e::es) B)(ab:starEach (e::es) X.env=(false,eval e X.env)::starEach es X.env:=by rfl)(Y:(backTo pos (starEach es X.env)).any (·.1)=false:=by rfl)(ht:eval (.Call (.Attribute o m apos) (e::es) [] pos) X.env=(do
   let q <- eval o X.env
   standAt apos.atName
   let (f,first) <- holding [q] (getMethod q m pl)
   callWith pos f first (backTo pos (starEach (e::es) X.env)) (backToKw pos (keywordEach [] X.env))):=by rfl):
  CE X (.Call (.Attribute o m apos) (e::es) [] pos) (cMeth c m G I B) :=
 ce_meth S ⟨(T.M _ _ rfl g).1,(T.M _ _ rfl g).2,T.F.kp⟩ F Z T.b WT U O ab Y ht
def cx(B:CE X a g)(D:CE X b q)(hs:kN b:=by exact fun _ _=>rfl):CE X (.Subscript a b pos) (cOp cIx g q):=ce_ix ix_seqC cop_ix B D hs
def ca1(q:CE X e g)(hs:wX e=true:=by rfl):CA X [e] (aR g Vy):=qQ q pZ hs
def cs1 i{pos'}(q:X.N.Nodup)(B:CE X e g)(hi:X.N[i]?=some x:=by rfl)(I:Loc X.env.scope x:=by first | exact Or.inl rfl | exact Or.inr rfl)(hs:swapsWith e (some (.Name x pos')) pos.line X.env=pure false:=by rfl)(D:X.fn x=true\/X.env.scope.names.lookup x=some .local:=by first | exact .inl rfl | exact .inr rfl | assumption):
  CS X (.Assign [.Name x pos'] e pos) (Vw i g):=cs_set q hi I B hs D
def cg1 i(g:X.N.Nodup)(hi:X.N[i]?=some x:=by rfl)(B:Loc X.env.scope x:=by first | exact Or.inl rfl | exact Or.inr rfl)(q:X.fn x=true\/X.env.scope.names.lookup x=some .local:=by first | exact .inl rfl | exact .inr rfl | assumption):CG X (.Name x pos) (Gh i):=cg_name g hi B q
def cln{p}(D:X.mg "len" = none)(q:CE X e g)(B:Gl X "len":=by rfl)(hs:wX e=true:=by rfl):CE X (.Call (.Name "len" p) [e] [] pos) (bE eR (aR g Vy)):=cQ Vv cbi_len B D rfl (ca1 q hs) (hs:=hs)
def ctp{p}(D:X.mg "tuple" = none)(q:CE X e g)(B:Gl X "tuple":=by rfl)(hs:wX e=true:=by rfl):CE X (.Call (.Name "tuple" p) [e] [] pos) (bE uP (aR g Vy)):=lZ jT cbi_tup B D rfl (ca1 q hs) (hs:=hs)
def cap{apos cpos}(O:CE X o q)(B:CE X e g)(D:attributeBase o "append" X.env (eval o X.env)=eval o X.env:=by rfl)(I:((backTo cpos (starEach [e] X.env)).all (fun x=>!x.1)&&(backToKw cpos (keywordEach [] X.env)).all (fun x=>x.1.isSome)
   && decide ([e].length+([]:List Keyword).length+(if ([]:List Keyword).isEmpty then 0 else 1) < 30))=true:=by rfl)(J:(apos.endLine==cpos.line)=true:=by rfl)(hs:wX e=true:=by rfl):CE X (.Call (.Attribute o "append" apos) [e] [] cpos) (cBM sU q (aR g Vy)) :=
 kE A1 PySem.F.slot_list_append PySem.F.type_list_append bO Z0 O (ca1 B hs) D I J hs
def ct2(O:OpR X (compareOp op) r)(S:Cop X.K r B)(D:CE X a g)(I:CE X b q)(J:behindInMarks op b=false:=by exact uW _):CT X (.Compare a [op] [b] pos) (tR (cOp B g q)):=uF O S D I J
end
end CL
namespace L2
open PySem
theorem FnScope.c(S:FnScope N ps sc)(h:N.contains x=false):(x::N).Nodup:=by
 refine Ba.2 ⟨fun m=>?_,S.nd⟩;rw[List.contains_iff_mem.2 m] at h;cases h
theorem FnScope.k(S:FnScope N ps sc)(q:X.N=N)(D:X.env.scope=sc)(B:X.env.cells=cellsFrom L sc.names [])(h:fR xs I N sc=true):∃g,eK X xs I g:=dD q D B h
end L2
namespace CL
open PySem PySem.Spec L2 PySem.W
open PyProof.Rows hiding St
section
variable {X:Cx}{a b c e o i f value:Expr}{es:List Expr}{pos pos':Pos}
@[irreducible] def cGetQ:PV->List PV->CH->K1->Prop:=fun x ts C Q=>match x,ts with
 |.ref a,[y]=>match C a,KO y with
  |some (.dP kvs),some k=>Q ((xV kvs k).getD .non) C
  |_,_=>False
 |_,_=>False
@[irreducible] def cClearQ:PV->List PV->CH->K1->Prop:=fun x ts C Q=>match x,ts with
 |.ref a,[]=>match C a with
  |some (.dP kvs)=>Q .non (gQ C a (.dP []))
  |_=>False
 |_,_=>False
def hK:Key->Int
 |.inl (some k)=>hashInt k
 |.inl none=>4238894112
 |.inr _=>0
def pHash(k:Path):Int:=reduceHash (Builtin.Tuple.tupleHashOf (k.map fun ks=>reduceHash (Builtin.Tuple.tupleHashOf (ks.map hK))))
def noT:Key->Bool
 |.inr _=>false
 |_=>true
@[irreducible] def cDictQ:GC:=fun ts C Q=>match ts with
 |[.ref a]=>match C a with
  |some (.dP kvs)=>(∀p∈kvs,p.1.all (fun ks=>ks.all noT)=true)/\(kvs.map fun p=>pHash p.1).Nodup/\∀p,C p=none->Q (.ref p) (gQ C p (.dP kvs))
  |_=>False
 |_=>False
@[irreducible] def cNeQ(d:Nat):R2C:=fun x y C Q=>match x,y with
 |.ref a,.ref b=>match C a,C b with
  |some (.dP xs),some (.dP ys)=>xs=ys/\(∀p∈xs,Pl d p.2)/\Q (.bl false) C
  |_,_=>False
 |_,_=>False
def kkLt(ks:List (List Str)):Nat->Nat->Bool:=fun i j=>HT.lexS (ks.getD i []) (ks.getD j [])
def ordK(ks:List (List Str)):List (List Str):=(vJ (kkLt ks) (kas_sort ks.length)).toList.map fun i=>ks.getD i []
def kkPV(k:List Str):PV:=.tup (k.map PV.str)
def kkOf:List (List Key×PV)->Option (List (List Str))
 |[]=>some []
 | ([.inr x,.inr y],_)::r=>(kkOf r).map ([x,y] :: ·)
 |_=>none
@[irreducible] def cSortedD:GC:=fun ts C Q=>match ts with
 |[.ref a]=>match C a with
  |some (.dT kvs)=>match kkOf kvs with
   |some ks=>ks.length < 64/\∀p,C p=none->Q (.ref p) (gQ C p (.lst ((ordK ks).map kkPV)))
   |none=>False
  |_=>False
 |_=>False
@[irreducible] def cIsiT:GC:=fun ts C Q=>match ts with
 |[.ref a,.ty n]=>match C a with
  |some (.dT _)=>n = "dict"/\Q (.bl true) C
  |_=>False
 |_=>False
end
section
variable {X:Cx}{e o:Expr}{es:List Expr}
@[irreducible] def cJoin:PV->List PV->CH->K1->Prop:=fun x ts C Q=>match x,ts with
 |.str g,[.ref a]=>match C a with
  |some (.lst xs)=>∃zs:List Str,xs=zs.map PV.str/\(zs.map (·.length)).sum+zs.length * g.length<=16777216/\Q (.str (Str.join g zs)) C
  |_=>False
 |_,_=>False
def txI(i:Int):Str:=toString i
@[irreducible] def Kk:GC:=fun ts C Q=>match ts with
 |[.int i]=>i.natAbs<=1000000000000/\Q (.str (txI i)) C
 |_=>False
def GF{K:De}:Cbi K (fun xs H Q=>∃i,xs=[.int i]/\i.natAbs.log2 < 1920/\Q (.str (toString i)) H) Kk:=fun xs ps H C Q R rs h q f=>by
 unfold Kk at q
 split at q
 .next i =>
  obtain⟨v,rfl,r⟩:=iX rs;cases r;refine⟨i,rfl,?_,f _ H _ C q.2 (.str _) h Fw.refl⟩
  by_cases h0:i.natAbs=0
  .rw [h0];decide
  .rw [Nat.log2_lt h0]
   exact Aj q.1 (AQ (show 1000000000000 < 2 ^ 40 by decide) (Nat.pow_le_pow_right (by decide) (by decide)))
 .exact q.elim
def txI_len{i:Int}(h:i.natAbs<=1000000000000):(txI i).length<=14:=by
 show(Str.ofString (toString i)).length<=14;rw[PySem.ofString_length];exact int_text_length_le10 (k:=13) (by decide) (Aj h (by decide))
def strI_s{i:Int}{C:CH}{Q:K1}(h:i.natAbs<=1000000000000)(q:Q (.str (txI i)) C):Kk [.int i] C Q:=by
 unfold Kk;exact⟨h,q⟩
end
end CL
namespace TB
def step(M i:Nat):Nat:=(i * 5+1) % M
end TB
namespace TB
open PySem SetTable
structure TOk(t:SetTable)(k:Nat):Prop where
 mask:t.mask+1=2 ^ k
 dum:t.dummies = #[]
 few:t.place.size<=t.mask
end TB
namespace PySem
open Sem (wp)
open TB
section
variable {prog:Program}{w:World}{K:Type}[DecidableEq K]{knd:KeyKind prog w K}
variable (knd)
def entP(x:List (List K)×Addr):Int×Value:=(iF knd x.1,.ref x.2)
structure PSet(h:Heap)(a:Addr)(xs:List (List (List K)×Addr))(o:Obj)(es:Array (Int×Value))(ep:Nat)(t:SetTable)(k:Nat):Prop where
 at':h.get? a=some o
 ex:o.ExactSet
 dat:o.data=.set es ep t
 tok:TOk t k
 size:t.place.size=es.size
 ents:es.toList=xs.map (entP knd)
 keys:∀x∈xs,IsPathKey knd h x.1 x.2
 big:2<=t.mask
variable {knd}{A:Around}{E:Value->Shared->Prop}{s:Shared}{a:Addr}{xs:List (List (List K)×Addr)}{o:Obj}{es:Array (Int×Value)}{ep:Nat}{t:SetTable}{k:Nat}
end
end PySem
namespace CL
open PySem PySem.Spec L2 PySem.W
open PyProof.Rows hiding St
section
variable {X:Cx}{e:Expr}{pos:Pos}
def JH:List PV->Option (List Path)
 |[]=>some []
 |t::r=>match KO t,JH r with
  |some k,some ks=>some (k::ks)
  |_,_=>none
@[irreducible] def cLenSR:PV->CH->K1->Prop:=fun x C Q=>match x with
 |.ref a=>match C a with
  |some (.lst xs)=>∃ks,JH xs=some ks/\ks.Nodup/\ks.length<=9900/\Q (.int ks.length) C
  |_=>False
 |_=>False
@[irreducible] def cPNin:R2C:=fun y x C Q=>match x with
 |.ref a=>match C a,KO y with
  |some (.dP kvs),some k=>Q (.bl (!(xV kvs k).isSome)) C
  |_,_=>False
 |_=>False
@[irreducible] def cInE:R2C:=fun x y C Q=>match x,y with
 |.tup [],.ref a=>match C a with
  |some (.lst xs)=>(∀t∈xs,∃u g,t=.tup (u::g))/\Q (.bl false) C
  |_=>False
 |_,_=>False
@[irreducible] def cNeU(d:Nat):R2C:=fun x y C Q=>match x,y with
 |.tup xs,.tup ys=>xs=ys/\(∀t∈xs,Pl d t)/\Q (.bl false) C
 |_,_=>False
end
@[irreducible] def cLenQ:GC:=fun ts C Q=>match ts with
 |[.ref a]=>match C a with
  |some (.dP kvs)=>Q (.int kvs.length) C
  |_=>False
 |_=>False
section
variable {X:Cx}{e:Expr}
def nF(z:Str):List PV:=z.cps.toList.map fun c=>PV.str ⟨#[c]⟩
def it_str{K}z:XM K H (Its z) (nF z) where
 go:=fun i H' l k=>by
  delta nF at l
  rwa [AB,A3] at l
 yl:=fun i H' x q k y=>by
  obtain⟨rfl,c,g,rfl⟩:=y;refine⟨rfl,fun t e=>?_⟩;unfold nF at e;rw[A0,Array.getElem?_toList,g] at e;cases e;exact .str _
 st:=fun H' k=>by
  delta nF
  rw[AB,A3];exact AH _
def cItS(g:TCE):CSt->CH->(List PV->CH->Prop)->Prop:=fun q C Q=>g q C fun t C1=>match t with
 |.str z=>Q (nF z) C1
 |_=>False
def Gu(h:CE X e g):CI X tg e (iStr (mJ X.K (Rep X.K) g)) (cItS g):=⟨ji_str h.h,fun σ H J C R Q s h q f=>⟨J,C,_,s,h,q,fun x H1 O C1 B I h1 D=>by
  cases I with
  |str z=>exact⟨z,rfl,f _ H1 (nF z) C1 B (it_str z) h1 D⟩
  |_=>exact B.elim⟩⟩
end
end CL
namespace PySem
section
variable {prog:Program}{w:World}{A:Around}{E:Value->Shared->Prop}{s:Shared}
def oK{items}(B:s.heap.IsTupleIter it t i)(S:s.heap.IsTuple t items)(U:items[i]?=some x)(D:∀h',h'.IsTupleIter it t (i+1)->Heap.SameBut it s.heap h'->Q x { s with heap:=h' }):
  wpAny (model prog w) A (Builtin.SmallTypes.nextOf (.ref it)) Q E s:=by
 obtain⟨o,q,I,g⟩:=(id B);obtain⟨Z,O,_,Y,J⟩:=S
 refine AA (BD B.typeIs B4
  (Aw B4 B.typeIs F.entry_tuple_iterator_next ?_ (F.args_tuple_iterator_next_1 _)))
 show wpAny _ _ (field (.ref it) 0 >>= _) _ _ s;refine AA (Ar q g rfl (AA (Ar q g rfl (AA (BE O J ?_)))))
 simp only[Int.toNat_natCast,U]
 refine AA (Ct q g (by simp) (AC ⟨x,rfl,AC (D _ ?_ (BP ..))⟩))
 exact⟨_,A6 _ q (Obj.isFreed_of_fields (Obj.data_mapFields g _)),(Obj.cls_mapFields ..).trans I,by
  rw[Obj.data_mapFields g];simp[rawInt]⟩
def bB{items}(D:A.handled=none)(q:s.heap.IsTupleIter it t i)(S:s.heap.IsTuple t items)(U:items[i]?=none)(I:∀h' e,Heap.ExtBut it s.heap h'->(∃o,h'.get? e=some o/\o.cls=.type "StopIteration")->E (.ref e) { s with heap:=h' }):
  wpAny (model prog w) A (Builtin.SmallTypes.nextOf (.ref it)) Q E s:=by
 obtain⟨o,B,Y,g⟩:=(id q);obtain⟨ab,O,_,Z,J⟩:=S
 refine AA (BD q.typeIs B4
  (Aw B4 q.typeIs F.entry_tuple_iterator_next ?_ (F.args_tuple_iterator_next_1 _)))
 show wpAny _ _ (field (.ref it) 0 >>= _) _ _ s;refine AA (Ar B g rfl (AA (Ar B g rfl (AA (BE O J ?_)))))
 simp only[Int.toNat_natCast,U]
 refine AA (Cb (AA (Ct B g (by simp) ?_)))
 apply AA
 refine AA (Av (AA (wpAny_of_eq (by first | rfl | (rfl)) ?_)) (by size_fits));refine Av (AA (wpAny_handled ?_)) (by size_fits)
 first | rw[show A.in1.handled=none from D] | rw[D]
 refine AA (AC (wpAny_throw (I _ _ (((BP ..).extBut.push _).push _) ⟨_,AK _ rfl,rfl⟩)))
abbrev XJ(h:Heap)(z TI TO T:Addr)(f:Bool):Prop :=
 h.get? z=some { cls:=.type "zip",dict:=none,data:=.fields #[rawInt T,.bool f,.bool false,.ref TI,.ref TO],slots:=#[] }
structure ZIt(h:Heap)(z TI i1 i2 l1 l2:Addr)(xs ys:Array Value)(i:Nat):Prop where
 it:IsPair h TI (.ref i1) (.ref i2)
 a:h.IsTupleIter i1 l1 i
 b:h.IsTupleIter i2 l2 i
 x:h.IsTuple l1 xs
 y:h.IsTuple l2 ys
def vM{h h':Heap}(x:h.IsTuple t xs)(k:∀o,h.get? t=some o->h'.get? t=some o):h'.IsTuple t xs:=let ⟨o,e,r⟩:=x;⟨o,k o e,r⟩
def bG{h h':Heap}(x:h.IsTupleIter i t n)(k:∀o,h.get? i=some o->h'.get? i=some o):h'.IsTupleIter i t n:=let ⟨o,e,r⟩:=x;⟨o,k o e,r⟩
def VM{Q:Value->Shared->Prop}(D:ZipApart z q TO Z i2 l1 l2)(Y:IsZip s.heap z q TO .none)(a4:IsPair s.heap q (.ref Z) (.ref i2))(a5:IsPair s.heap TO a b)(h1:s.heap.IsTupleIter Z l1 k1)(h2:s.heap.IsTupleIter i2 l2 k2)(a7:s.heap.IsTuple l1 xs)(a8:s.heap.IsTuple l2 ys)(hx:xs[k1]?=some x)(hy:ys[k2]?=some y)(hQ:∀h',XJ h' z q TO s.heap.objs.size false->h'.IsTupleIter Z l1 (k1+1)->h'.IsTupleIter i2 l2 (k2+1)->IsPair h' s.heap.objs.size x y->h'.objs.size=s.heap.objs.size+1 ->
   (∀c o,c≠z->c≠TO->c≠Z->c≠i2->s.heap.get? c=some o->h'.get? c=some o)->Q (.ref s.heap.objs.size) { s with heap:=h' }):
  wpAny (model prog w) A (Builtin.«zip.__next__» ⟨[.ref z],[]⟩) (fun ay s'=>∃v,ay=.done (.ret v)/\Q v s') E s:=by
 show wpAny _ _ (field (.ref z) 2 >>= _) _ _ _;refine AA (Ar Y rfl rfl (AA (Ar Y rfl rfl (AA (BE a4 rfl (AA ?_))))))
 delta Builtin.SmallTypes.ownedTupleIsFree
 refine AA (Ar Y rfl rfl (AC ?_));refine AA (Cb (AA (Ar Y rfl rfl (AA (A5 Y (by simp) fun ba aj I=>?_)))))
 replace aj:IsZip ba z q TO .ellipsis:=aj
 apply AA
 refine AA (AA (wpAny_onRaise (AA (oK (h1.extBut I.extBut D.i1z) (a7.extBut I.extBut D.l1z) hx fun bf az J=>AC ?_))));have aq:=J.extBut _ _ D.TOi1 (I.extBut _ _ D.TOz a5);refine AA (BE aq rfl (AA (wpAny_updateSeq_pair aq fun bb af O=>?_)))
 replace af:IsPair bb TO x b:=af
 refine AA (wpAny_letGo (AC (AA (AA (wpAny_onRaise (AA (oK (((h2.extBut I.extBut D.i2z).extBut J.extBut D.i12.symm).extBut O.extBut D.TOi2.symm)
  (((a8.extBut I.extBut D.l2z).extBut J.extBut D.l2i1).extBut O.extBut D.l2TO) hy fun bg a3 S=>AC ?_)))))))
 have ar:=S.extBut _ _ D.TOi2 af;refine AA (BE ar rfl (AA (wpAny_updateSeq_pair ar fun g ag U=>?_)))
 replace ag:IsPair g TO x y:=ag
 refine AA (wpAny_letGo (AC (AC (AA (BE ag rfl (AA (Dd ?_)))))));have hsz:g.objs.size=s.heap.objs.size:=by rw[U.1,S.1,O.1,J.1,I.1]
 have ax:=U.extBut _ _ D.TOz.symm (S.extBut _ _ D.i2z.symm (O.extBut _ _ D.TOz.symm (J.extBut _ _ D.i1z.symm aj)))
 have a6:∀c o,c≠z->c≠TO->c≠Z->c≠i2->s.heap.get? c=some o->g.get? c=some o:=fun c o B c2 c3 c4 e=>
  U.extBut _ _ c2 (S.extBut _ _ c4 (O.extBut _ _ c2 (J.extBut _ _ c3 (I.extBut _ _ B e))))
 have a0:=((az.extBut O.extBut D.TOi1.symm).extBut S.extBut D.i12).extBut U.extBut D.TOi1.symm;have aw:=AG ax
 apply AA
 have a9:IsZip (g.push { cls:=.type "tuple",data:=.seq #[x,y] }) z q TO .ellipsis:=AD _ ax;refine AA (A5 a9 (by simp) fun bc ak ah=>?_)
 replace ak:IsZip bc z q TO (rawInt g.objs.size):=ak
 refine A5 ak (by simp) fun ae ab ai=>?_
 replace ab:XJ ae z q TO g.objs.size false:=ab
 have ao:∀c o,c≠z->g.get? c=some o->ae.get? c=some o:=fun c o B e=>ai.extBut _ _ B (ah.extBut _ _ B (AD _ e));have au:=ai.extBut _ _ (Au aw) (ah.extBut _ _ (Au aw) (AK _ rfl));have av:ae.objs.size=g.objs.size+1:=by rw[ai.1,ah.1,Bt]
 rw[hsz] at ab au av;refine AC ⟨_,rfl,?_⟩;rw[hsz];exact hQ ae ab (bG a0 fun o e=>ao _ o D.i1z e) (bG (a3.extBut U.extBut D.TOi2.symm) fun o e=>ao _ o D.i2z e) au av fun c o B c2 c3 c4 e=>ao c o B (a6 c o B c2 c3 c4 e)
def Jf(g:XJ s.heap z B TO T f)(D:s.heap.get? T=some U):
  wpAny (model prog w) A (Builtin.SmallTypes.ownedTupleIsFree (.ref z)) (fun b O=>∃q,b=false/\O={ s with heap:=q }/\XJ q z B TO T true/\Heap.SameBut z s.heap q) E s:=by
 refine AA (Ar g rfl rfl (AA (W.kdx_alive D (AA (Ar g rfl rfl ?_)))))
 cases f with
 |true =>
  exact AC ⟨_,rfl,rfl,g,Heap.SameBut.refl _ _⟩
 |false =>
  refine AA (A5 g (by simp) fun S I J=>?_);exact AC ⟨_,rfl,rfl,I,J⟩
def VL{Q:Value->Shared->Prop}(D:ZipApart z O TO I J l1 l2)(S:XJ s.heap z O TO T f)(hT:s.heap.get? T=some oT)(ao:T≠z)(ag:IsPair s.heap O (.ref I) (.ref J))(h1:s.heap.IsTupleIter I l1 Z)(h2:s.heap.IsTupleIter J l2 k2)(ah:s.heap.IsTuple l1 xs)(ai:s.heap.IsTuple l2 ys)(hx:xs[Z]?=some x)(hy:ys[k2]?=some y)(hQ:∀h',XJ h' z O TO T true->h'.IsTupleIter I l1 (Z+1)->h'.IsTupleIter J l2 (k2+1)->IsPair h' s.heap.objs.size x y->h'.objs.size=s.heap.objs.size+1 ->
   (∀c o,c≠z->c≠I->c≠J->s.heap.get? c=some o->h'.get? c=some o)->Q (.ref s.heap.objs.size) { s with heap:=h' }):
  wpAny (model prog w) A (Builtin.«zip.__next__» ⟨[.ref z],[]⟩) (fun ab s'=>∃v,ab=.done (.ret v)/\Q v s') E s:=by
 show wpAny _ _ (field (.ref z) 2 >>= _) _ _ _;refine AA (Ar S rfl rfl (AA (Ar S rfl rfl (AA (BE ag rfl (AA (BM (Jf S hT) ?_ fun _ _ h=>h)))))));rintro b ar ⟨aq,rfl,rfl,aj,g⟩
 simp only[ if_false]
 rw[<- DA];refine AA (AA (AA (Az (AA (oK (h1.extBut g.extBut D.i1z) (ah.extBut g.extBut D.l1z) hx fun ak ae q=>AC (AC (AA (AA (Az (AA (oK (s:={ s with heap:=ak }) ((h2.extBut g.extBut D.i2z).extBut q.extBut D.i12.symm) ((ai.extBut g.extBut D.l2z).extBut q.extBut D.l2i1) hy fun U af B=>AC (AC (AC (AA (Dd (hsz:=y0 2 rfl) ?_)))))))))))))))
 have hsz:U.objs.size=s.heap.objs.size:=by rw[B.1,q.1,g.1]
 refine AC ⟨_,rfl,?_⟩;have Y:IsPair (U.push { cls:=.type "tuple",data:=.seq #[x,y] }) U.objs.size x y:=AK _ rfl;rw[hsz] at Y ⊢
 exact hQ _ (AD _ (B.extBut _ _ D.i2z.symm (q.extBut _ _ D.i1z.symm aj))) (bG (ae.extBut B.extBut D.i12) fun o e=>AD _ e) (bG af fun o e=>AD _ e) Y (by simp_all)
  fun c o c1 c2 c3 e=>AD _ (B.extBut _ _ c3 (q.extBut _ _ c2 (g.extBut _ _ c1 e)))
def zt_end(hh:A.handled=none)(D:ZipApart z B TO Z i2 l1 l2)(g:IsZip s.heap z B TO .none\/∃T f oT,XJ s.heap z B TO T f/\s.heap.get? T=some oT)(ab:IsPair s.heap B (.ref Z) (.ref i2))(h1:s.heap.IsTupleIter Z l1 k1)(af:s.heap.IsTuple l1 xs)(hx:xs[k1]?=none)(hE:∀h' e,(∀c o,c≠z->c≠Z->s.heap.get? c=some o->h'.get? c=some o)->(∃o,h'.get? e=some o/\o.cls=.type "StopIteration")->E (.ref e) { s with heap:=h' }):
  wpAny (model prog w) A (Builtin.«zip.__next__» ⟨[.ref z],[]⟩) Q E s:=by
 rcases g with g | ⟨T,f,oT,g,hT⟩
 .show wpAny _ _ (field (.ref z) 2 >>= _) _ _ _
  refine AA (Ar g rfl rfl (AA (Ar g rfl rfl (AA (BE ab rfl (AA (AA (Ar g rfl rfl (AC (AA (Cb (AA (Ar g rfl rfl (AA (A5 g (by simp) fun ai O q=>?_)))))))))))))))
  replace O:IsZip ai z B TO .ellipsis:=O
  apply AA
  refine AA (AA (wpAny_onRaise (AA (bB hh (h1.extBut q.extBut D.i1z) (af.extBut q.extBut D.l1z) hx fun aj e J U=>zX U fun oe Y ae=>?_))));have ah:=J _ _ D.i1z.symm O;have ak:e≠z:=fun x=>by subst x;rw[ah] at Y;cases Y;simp at ae
  exact A5 ah (by simp) fun ao _ ag=>hE ao e (fun c o I S x=>ag.extBut _ _ I (J _ _ S (q.extBut _ _ I x))) ⟨oe,ag.extBut _ _ ak Y,ae⟩
 .show wpAny _ _ (field (.ref z) 2 >>= _) _ _ _
  refine AA (Ar g rfl rfl (AA (Ar g rfl rfl (AA (BE ab rfl (AA (BM (Jf g hT) ?_ fun _ _ h=>h)))))));rintro b aq ⟨ai,rfl,rfl,O,q⟩;exact AA (AA (AA (Az (AA (bB hh (h1.extBut q.extBut D.i1z) (af.extBut q.extBut D.l1z) hx fun aj e J U=>hE aj e (fun c o I S x=>J _ _ S (q.extBut _ _ I x)) U)))))
def ZSt(h:Heap)(z g TO q B l1 l2 S:Addr)(xs ys:Array Value)(i:Nat):Prop :=
 ((i=0/\IsZip h z g TO .none/\∃a b,IsPair h TO a b)\/∃T f D,XJ h z g TO T f/\h.get? T=some D/\T≠z/\T≠q/\T≠B/\T≠S)/\ZIt h z g q B l1 l2 xs ys i
theorem ZIt.at(x:ZIt h z g q B l1 l2 xs ys i)(k:∀b o,(b=g\/b=q\/b=B\/b=l1\/b=l2)->h.get? b=some o->h'.get? b=some o):ZIt h' z g q B l1 l2 xs ys i :=
 ⟨k _ _ (.inl rfl) x.it,bG x.a fun o e=>k _ o (.inr (.inl rfl)) e,bG x.b fun o e=>k _ o (.inr (.inr (.inl rfl))) e,vM x.x fun o e=>k _ o (.inr (.inr (.inr (.inl rfl)))) e,vM x.y fun o e=>k _ o (.inr (.inr (.inr (.inr rfl)))) e⟩
def zt_item(D:ZipApart z I TO i1 i2 l1 l2)(hl:l1≠I/\l2≠I)(ah:ZSt s.heap z I TO i1 i2 l1 l2 S xs ys i)(hS:S < s.heap.objs.size)(hx:xs[i]?=some x)(hy:ys[i]?=some y)(hQ:∀h',ZSt h' z I TO i1 i2 l1 l2 S xs ys (i+1)->IsPair h' s.heap.objs.size x y->h'.objs.size=s.heap.objs.size+1 ->
   (∀c o,c≠z->c≠TO->c≠i1->c≠i2->s.heap.get? c=some o->h'.get? c=some o)->Q (some (.ref s.heap.objs.size)) { s with heap:=h' }):
  wpAny (model prog w) A (pyNext (.ref z)) Q E s:=by
 obtain⟨q,g⟩:=ah;have lt:∀{c o},s.heap.get? c=some o->s.heap.objs.size≠c:=fun e=>Au (AG e);have n1:=let ⟨o,e,_⟩:=g.a;lt e
 have n2:=let ⟨o,e,_⟩:=g.b;lt e
 have hT:s.TypeIs (.ref z) "zip":=by
  rcases q with ⟨_,q,_⟩ | ⟨_,_,_,q,_⟩
  .exact ⟨_,q,rfl⟩
  .exact ⟨_,q,rfl⟩
 refine AA (DK (BD hT DW (Aw DW hT F.entry_zip_next ?_ (F.args_zip_next_1 _))))
 rcases q with ⟨e0,q,a,b,ag⟩ | ⟨T,f,oT,q,ab,nz,ae,af,nS⟩
 .refine VM D q g.it ag g.a g.b g.x g.y hx hy fun h' O U Y J Z B=>AC (hQ h' ⟨.inr ⟨_,false,_,O,J,lt q,n1,n2,Au hS⟩,⟨B _ _ D.TIz D.TITO D.TIi1 D.TIi2 g.it,U,Y,vM g.x fun o e=>B _ o D.l1z D.l1TO D.l1i1 D.l1i2 e,vM g.y fun o e=>B _ o D.l2z D.l2TO D.l2i1 D.l2i2 e⟩⟩ J Z B)
 .refine VL D q ab nz g.it g.a g.b g.x g.y hx hy fun h' O U Y J Z B=>AC (hQ h' ⟨.inr ⟨T,true,oT,O,B _ _ nz ae af ab,nz,ae,af,nS⟩,⟨B _ _ D.TIz D.TIi1 D.TIi2 g.it,U,Y,vM g.x fun o e=>B _ o D.l1z D.l1i1 D.l1i2 e,vM g.y fun o e=>B _ o D.l2z D.l2i1 D.l2i2 e⟩⟩ J Z fun c o c1 _ c3 c4 e=>B c o c1 c3 c4 e)
def zt_done(Z:A.handled=none)(D:ZipApart z J TO I i2 l1 l2)(ab:ZSt s.heap z J TO I i2 l1 l2 S xs ys i)(hx:xs[i]?=none)(O:∀h',(∀c o,c≠z->c≠I->s.heap.get? c=some o->h'.get? c=some o)->Q none { s with heap:=h' }):
  wpAny (model prog w) A (pyNext (.ref z)) Q E s:=by
 obtain⟨g,q⟩:=ab
 have B:s.TypeIs (.ref z) "zip":=by
  rcases g with ⟨_,g,_⟩ | ⟨_,_,_,g,_⟩
  .exact ⟨_,g,rfl⟩
  .exact ⟨_,g,rfl⟩
 refine AA (DK (BD B DW
  (Aw DW B F.entry_zip_next (zt_end Z D (by grind) q.it q.a q.x hx fun h' e hk Y=>?_) (F.args_zip_next_1 _))))
 exact zX Y fun o ho U=>AA (B5 ⟨o,ho,U⟩ isSubtype_stop (AC (O _ hk)))
end
structure ZG(xs ys:Array Value)(lo:Addr)(h:Heap)(as:List Addr):Prop where
 rise:as.Pairwise (· < ·)
 above:∀a∈as,lo < a
 pairs:∀(j:Nat)(a:Addr),as[j]?=some a->∃x y,xs[j]?=some x/\ys[j]?=some y/\IsPair h a x y
section
variable {prog:Program}{w:World}{A:Around}{s:Shared}{R:Result->Shared->Prop}{xs ys:Array Value}
def zt_loop(hh:A.handled=none)(au:ZipApart z ab TO Y Z l1 l2)(hl:l1≠ab/\l2≠ab)(B:S≠z/\S≠ab/\S≠TO/\S≠Y/\S≠Z/\S≠l1/\S≠l2)(J:S<=lo/\z<=lo/\TO<=lo/\Y<=lo/\Z<=lo)(a9:xs.size=ys.size)(hn:xs.size<=sizeLine)res{a0:Heap}(hR:∀h' O g c as,(∀b o,b≠S->b≠z->b≠TO->b≠Y->b≠Z->a0.get? b=some o->h'.get? b=some o)->h'.get? S=some { cls:=.type "list",dict:=none,data:=.seq g c,slots:=#[] }->as.length=xs.size->ZG xs ys lo h' as ->
   g.toList=as.map Value.ref->R (.ok (.ret res)) { s with heap:=h',toks:=O }):
  ∀k i h O c g as,xs.size - i=k->i<=xs.size->ZSt h z ab TO Y Z l1 l2 S xs ys i->(∀b o,b≠S->b≠z->b≠TO->b≠Y->b≠Z->a0.get? b=some o->h.get? b=some o) ->
   h.get? S=some { cls:=.type "list",dict:=none,data:=.seq g c,slots:=#[] }->g.toList=as.map Value.ref->as.length=i->ZG xs ys lo h as->lo < h.objs.size ->
   codeAny (model prog w) A (.builtin "list.extend.loop" ⟨[.ref S,.ref z,res],[]⟩) R { s with heap:=h,toks:=O }:=by
 have aq:=B.1;intro k
 induction k with
 |zero =>
  intro i h O c g as hk hi ar ao hS ag ae q ay
  apply Bj CC
  refine AA (zt_done hh au ar (Array.getElem?_eq_none (by lia)) fun h' aj=>?_);refine AC (hR h' O g c as (fun b o b1 b2 b3 b4 b5 e=>aj b o b2 b4 (ao b o b1 b2 b3 b4 b5 e)) (aj S _ aq B.2.2.2.1 hS) (by lia) ⟨q.rise,q.above,fun j a hj=>?_⟩ ag);obtain⟨x,y,e1,e2,e3⟩:=(q.pairs j a hj);have av:=q.above a (Ae hj);exact⟨x,y,e1,e2,aj a _ (Au (Aj J.2.1 av)) (Au (Aj J.2.2.2.1 av)) e3⟩
 |succ k ih =>
  intro i h O c g as hk hi ar ao hS ag ae q ay;have ak:i < xs.size:=by lia
  have ax:i < ys.size:=by lia
  have hsz:g.size=i:=by rw[<- A3,ag,AB,ae]
  have ai:=AG hS
  apply Bj CC
  refine AA (zt_item au hl ar ai (Aq ak) (Aq ax) fun h' az ht hz ah=>?_);dsimp only at ht hz ah ⊢;have aw:=ah S _ aq B.2.2.1 B.2.2.2.1 B.2.2.2.2.1 hS;have U:∀b o,b≠S->h'.get? b=some o->(h'.update S (Obj.mapSeq (·.push (Value.ref h.objs.size)))).get? b=some o:=fun b o I e=>(BO _ _ (Ne.symm I)).trans e
  apply AA
  have a8:ZSt (h'.update S (Obj.mapSeq (·.push (Value.ref h.objs.size)))) z ab TO Y Z l1 l2 S xs ys (i+1):=by
   refine⟨?_,az.2.at fun b o I e=>U b o (fun z=>?_) e⟩
   .rcases az.1 with ⟨e0,_⟩ | ⟨T,f,oT,a4,a5,a6,g4,g5,g6⟩
    .cases e0
    .exact .inr ⟨T,f,oT,U _ _ aq.symm a4,U _ _ g6 a5,a6,g4,g5,g6⟩
   .rcases I with rfl | rfl | rfl | rfl | rfl
    .exact B.2.1 z.symm
    .exact B.2.2.2.1 z.symm
    .exact B.2.2.2.2.1 z.symm
    .exact B.2.2.2.2.2.1 z.symm
    .exact B.2.2.2.2.2.2 z.symm
  refine Bx aw rfl (AC ⟨Bz B9 _,ih (i+1) _ O _ (g.push (Value.ref h.objs.size)) (as++[h.objs.size]) (by lia) ak a8
   (fun b o b1 b2 b3 b4 b5 e=>U b o b1 (ah b o b2 b3 b4 b5 (ao b o b1 b2 b3 b4 b5 e))) (A6 _ aw rfl) (by rw[Array.toList_push,ag,Ac];rfl) (by rw[AN,ae];rfl) ⟨?_,?_,?_⟩ ?_⟩) (by lia) (by rw[Array.size_push,hsz];lia)
  .refine List.pairwise_append.mpr ⟨q.rise,List.pairwise_singleton _ _,fun a D b I=>?_⟩
   rw[AE.mp I];obtain⟨j,hj⟩:=B0.mp D;exact uZ (q.pairs j a hj) fun _ _ _ _ e=>AG e
  .intro a D
   rcases AS.mp D with D | D
   .exact q.above a D
   .rwa [AE.mp D]
  .intro j b hj
   rcases Nat.lt_trichotomy j as.length with h1 | h1 | h1
   .rw [CJ h1] at hj
    obtain⟨x,y,e1,e2,e3⟩:=(q.pairs j b hj);have af:∀{a3:Addr},a3<=lo->b≠a3:=fun hq=>Au (Aj hq (q.above b (Ae hj)));exact⟨x,y,e1,e2,U b _ (af J.1) (ah b _ (af J.2.1) (af J.2.2.1) (af J.2.2.2.1) (af J.2.2.2.2) e3)⟩
   .subst h1
    have I:h.objs.size=b:=by simpa using hj
    subst I;exact⟨_,_,by rw[ae];exact Aq ak,by rw[ae];exact Aq ax,U _ _ (Au ai) ht⟩
   .have a7:(as++[h.objs.size])[j]?=none:=Cg (by rw[AN,Al];lia)
    rw[a7] at hj;cases hj
  .exact Nat.lt_trans ay (AG (U _ _ (Au ai) ht))
end
def XW:typeLookup (.type "zip") "__len__" = pure none:=by rw[typeLookup_type,Da];kernel_rfl
def Ql:typeLookup (.type "zip") "__length_hint__" = pure none:=by rw[typeLookup_type,Da];kernel_rfl
section
variable {prog:Program}{w:World}{A:Around}{E:Value->Shared->Prop}{s:Shared}{xs ys:Array Value}
def zt_list(hh:A.handled=none)(az:ZipApart z U TO i1 i2 l1 l2)(hl:l1≠U/\l2≠U)(hz:IsZip s.heap z U TO .none)(ak:IsPair s.heap TO .none .none)(I:ZIt s.heap z U i1 i2 l1 l2 xs ys 0)(a3:xs.size=ys.size)(hn:xs.size<=sizeLine)(hQ:∀h' tk Y c as,(∀b o,b≠z->b≠TO->b≠i1->b≠i2->s.heap.get? b=some o->h'.get? b=some o)->h'.get? s.heap.objs.size=some { cls:=.type "list",dict:=none,data:=.seq Y c,slots:=#[] }->as.length=xs.size->ZG xs ys s.heap.objs.size h' as ->
   Y.toList=as.map Value.ref->Q (.ref s.heap.objs.size) { s with heap:=h',toks:=tk }):
  wpAny (model prog w) A (call (.type "list") [.ref z]) Q E s:=by
 have D:=AG hz;have ag:=AG ak;have a5:=AG I.it;have av:=let ⟨o,e,_⟩:=I.a;AG e
 have aw:=let ⟨o,e,_⟩:=I.b;AG e
 have a6:=let ⟨o,e,_⟩:=I.x;AG e
 have a7:=let ⟨o,e,_⟩:=I.y;AG e
 refine callType_codes (Q₁:=fun ax ay=>ax=.ref s.heap.objs.size/\ay={ s with heap:=s.heap.push { cls:=.type "list",data:=.seq #[] } }) F.called_list (F.typeCall_list_1 _) F.entry_list_init
  (code_list_new _ ⟨rfl,rfl⟩) fun ax ay a4=>?_
 obtain⟨rfl,rfl⟩:=a4;generalize ae:s.heap.objs.size=S at *
 have J:(s.heap.push { cls:=.type "list",data:=.seq #[] }).get? S=some { cls:=.type "list",data:=.seq #[] } :=ae▸AK _ rfl;have ao:∀b o,s.heap.get? b=some o->(s.heap.push { cls:=.type "list",data:=.seq #[] }).get? b=some o:=fun b o e=>AD _ e;have aq:(s.heap.push { cls:=.type "list",data:=.seq #[] }).objs.size=S+1:=by rw[Bt,ae]
 generalize s.heap.push { cls:=.type "list",data:=.seq #[] }=g at J ao aq ⊢;refine⟨⟨_,J,rfl⟩,F.args_list_init_2 _ _,AA ?_⟩
 delta Builtin.List.listItems
 refine AA (BE J rfl (AC (AA (Bx J rfl ?_))));have af:=A6 (Obj.mapSeq (fun _=>(#[]:Array Value))) J rfl;refine AA (wpAny_letGo ?_);have ah:∀f b o(g:Heap),b≠S->g.get? b=some o->(g.update S (Obj.mapSeq f)).get? b=some o:=fun f b o g B e=>(BO _ _ (Ne.symm B)).trans e;have q:∀{b:Addr},b < S->b≠S:=fun h=>Ab h
 have ab:∀b o,b≠S->s.heap.get? b=some o->(g.update S (Obj.mapSeq (fun _=>(#[]:Array Value)))).get? b=some o:=fun b o B e=>ah _ b o g B (ao b o e);have ar:(g.update S (Obj.mapSeq (fun _=>(#[]:Array Value)))).objs.size=S+1 :=aq▸(BP ..).1;generalize g.update S (Obj.mapSeq (fun _=>(#[]:Array Value)))=Z at af ab ar ⊢;have hT:Shared.TypeIs { s with heap:=Z } (.ref z) "zip":=⟨_,ab z _ (q D) hz,rfl⟩
 delta Builtin.List.listExtendWith
 refine AA (DN hT ?_);have h1:Builtin.List.listSameRef (.ref S) (.ref z)=false:=by simp[Builtin.List.listSameRef,Ne.symm (q D)]
 have h2:(Value.type "zip" == Value.type "list")=false:=by decide
 have h3:(Value.type "zip" == Value.type "tuple")=false:=by decide
 simp only[h1,h2,h3,Bool.or_false,Bool.false_eq_true,if_false]
 refine AA (wpAny_pyIter_zip (ab z _ (q D) hz) (AA (Az ?_)))
 delta Builtin.List.listLengthHint
 refine AA (BX hT XW (AA (BX hT Ql (AC ?_))));rw[AZ (by simp)];refine AA (Cb (AA (AA (Bx af rfl ?_))));have ai:=A6 (Obj.mapSeq (·.push Value.none)) af rfl
 apply Bx ai rfl
 have aj:=A6 (Obj.mapSeq (·.pop)) ai rfl;have O:∀b o,b≠S->s.heap.get? b=some o->((Z.update S (Obj.mapSeq (·.push Value.none))).update S (Obj.mapSeq (·.pop))).get? b=some o:=fun b o B e=>ah _ b o _ B (ah _ b o _ B (ab b o B e));have au:((Z.update S (Obj.mapSeq (·.push Value.none))).update S (Obj.mapSeq (·.pop))).objs.size=S+1:=by rw[(BP ..).1,(BP ..).1,ar]
 generalize (Z.update S (Obj.mapSeq (·.push Value.none))).update S (Obj.mapSeq (·.pop))=g4 at aj O au ⊢
 refine AC ⟨Bz F.plain_extend_loop _,zt_loop (A:=A.in1) hh az hl ⟨Ne.symm (q D),Ne.symm (q a5),Ne.symm (q ag),Ne.symm (q av),Ne.symm (q aw),Ne.symm (q a6),Ne.symm (q a7)⟩ ⟨AH _,Bc D,Bc ag,Bc av,Bc aw⟩ a3 hn .none (fun h' tk Y c as kp e ha hG a0=>?_)
  xs.size 0 g4 s.toks _ #[] [] (Nat.sub_zero _) (AY _) ⟨.inl ⟨rfl,O z _ (q D) hz,_,_,O TO _ (q ag) ak⟩,I.at fun b o B e=>O b o (by rcases B with rfl | rfl | rfl | rfl | rfl<;>exact q ‹_›) e⟩ (fun b o B _ _ _ _ e=>O b o B e) aj rfl rfl ⟨List.Pairwise.nil,(fun _ ha=>nomatch ha),(fun j a hj=>by simp at hj)⟩ (au▸Br _)⟩
 exact⟨rfl,hQ h' tk Y c as (fun b o b1 b2 b3 b4 e2=>kp b o (fun a8=>by rw[a8] at e2;have:=AG e2;rw[ae] at this;exact A9 _ this) b1 b2 b3 b4 e2) e ha hG a0⟩
abbrev zpI(l:Addr):Obj:={ cls:=.type "tuple_iterator",data:=.fields #[.ref l,.int 0 0] }
abbrev zpP(a b:Value):Obj:={ cls:=.type "tuple",data:=.seq #[a,b] }
abbrev zpZ(TI TO:Addr):Obj:={ cls:=.type "zip",data:=.fields #[.none,.bool false,.bool false,.ref TI,.ref TO] }
def gC l1 l2 xs ys:
  Meets (Builtin.«zip.__new__» ⟨[.type "zip",.ref l1,.ref l2],[]⟩) (fun _ R s=>s.heap.IsTuple l1 xs/\s.heap.IsTuple l2 ys /\
   R (.ok (.ret (.ref ((((s.heap.push (zpI l1)).push (zpI l2)).push (zpP (.ref s.heap.objs.size) (.ref (s.heap.push (zpI l1)).objs.size))).push (zpP .none .none)).objs.size))) { s with heap:=((((s.heap.push (zpI l1)).push (zpI l2)).push (zpP (.ref s.heap.objs.size) (.ref (s.heap.push (zpI l1)).objs.size))).push (zpP .none .none)).push (zpZ ((s.heap.push (zpI l1)).push (zpI l2)).objs.size (((s.heap.push (zpI l1)).push (zpI l2)).push (zpP (.ref s.heap.objs.size) (.ref (s.heap.push (zpI l1)).objs.size))).objs.size) }) :=
 .of_wp fun prog w A R s h=>by
  obtain⟨I,g,d,O,J⟩:=s;obtain⟨B,D,h⟩:=h
  have S:=sub_zip;have q:Heap.IsTuple (Shared.heap ⟨I.push { cls:=.type "tuple_iterator",data:=.fields #[.ref l1,.int 0 0] },g,d,O,J⟩) l2 ys:=Heap.IsTuple.push D _
  wp_walk using Cu B,Cu q
  exact⟨_,rfl,h⟩
end
end PySem
namespace L2
open PySem PySem.W PyProof.Rows
abbrev cM(z:Nat)(a:Addr)(o:Obj):Heap->Prop:=fun h=>z<=a/\h.get? a=some o
def Xp{a:Addr}{z:Nat}(g:z<=a)(e:h.get? a=some o):ObjOk P w H h a (.ext (cM z a o)):=⟨⟨g,e⟩,⟨o,e⟩,fun _ _ ⟨q,e⟩ k=>⟨q,k _ e⟩⟩
def zpH(n:Nat)(H:Hp)(q B g TO z l1 l2:Addr):Hp :=
 upd (upd (upd (upd (upd H q (.ext (cM n q (zpI l1)))) B (.ext (cM n B (zpI l2)))) g (.ext (cM n g (zpP (.ref q) (.ref B))))) TO (.ext (cM n TO (zpP .none .none)))) z (.ext (cM n z (zpZ g TO)))
def kR(H:Hp)(ds:List Addr):Hp:=fun b=>if b∈ds then none else H b
def Xu(h:b∈ds):kR H ds b=none:=AZ h
def yM(h:b∉ds):kR H ds b=H b:=AX h
def VN{B q TO z l1 l2}(h1:H D=none)(h2:H B=none)(I:H q=none)(J:H TO=none)(O:H z=none):kR (zpH n H D B q TO z l1 l2) [z,TO,q,D,B]=H:=by
 funext b
 by_cases g:b∈[z,TO,q,D,B]
 .rw [Xu g]
  simp only[List.mem_cons,List.not_mem_nil,or_false] at g
  rcases g with rfl | rfl | rfl | rfl | rfl
  .exact O.symm
  .exact J.symm
  .exact I.symm
  .exact h1.symm
  .exact h2.symm
 .rw [yM g]
  simp only[List.mem_cons,List.not_mem_nil,or_false,not_or] at g
  delta zpH
  rw[dQ g.1,dQ g.2.1,dQ g.2.2.1,dQ g.2.2.2.2,dQ g.2.2.2.1]
section
variable {X:Cx}{pins:List (Addr×Obj)}{σ:St}{H:Hp}{s:Shared}{h':Heap}
def Inv.goneT{f:Addr->Option (List V)}{l:Addr}(I:Inv X pins σ H s)(S:∀b∈ds,∃O,H b=some (.ext O)/\X.s₀.heap.objs.size<=b)(k:∀b o,b∉ds->s.heap.get? b=some o->h'.get? b=some o)(U:∀b xs,f b=some xs->s.heap.objs.size<=b/\xs.length<=sizeLine/\∃D:List Value,Vals xs D/\IsTupN h' b D.toArray)(hl:s.heap.objs.size<=l)(fl:f l=none)(ag:ys.length<=sizeLine/\∃D:List Value,∃n,Vals ys D/\h'.get? l=some (seqObj "list" D.toArray n)):Inv X pins σ (upd (layT (kR H ds) f) l (.lst ys)) { s with heap:=h',toks:=t' }:=by
 have ah:∀{b u},H b=some u->b≠l:=fun e z=>by rw[z,(I.hok.fresh hl)] at e;cases e
 have nd:∀{b u},H b=some u->(∀Y,u≠.ext Y)->b∉ds:=fun e h z=>by
  obtain⟨O,Z,_⟩:=S _ z;rw[e] at Z;cases Z;exact h O rfl
 have kp:∀{b u},H b=some u->b∉ds->upd (layT (kR H ds) f) l (.lst ys) b=some u:=fun {b u}e h=>by
  rw[dQ (ah e)]
  cases z:f b with
  |none=>rwa [mK z,yM h]
  |some xs=>rw[(fun b xs e=>I.hok.fresh (U b xs e).1) b xs z] at e;cases e
 have J:∀{b u},H b=some u->(∀Y,u≠.ext Y)->upd (layT (kR H ds) f) l (.lst ys) b=some u:=fun e h=>kp e (nd e h)
 refine I.step (g':=s.gens) (d':=s.drawn) (fun b hb=>?_) (fun b o _ _ g e _=>k b o g e) (fun b o _ _ g e _=>⟨o.slots,k b o g e⟩) (fun b u g e n=>?_)
  (fun b o g e=>⟨o,k b o g e⟩) (fun b xs e=>J e fun _ z=>nomatch z) (fun b o u e=>J e fun _ z=>nomatch z) (fun b ps e=>⟨#[],by rw[J e fun _ z=>nomatch z];simp⟩) (fun m af=>?_) (fun b u e=>?_) I.bare
 .refine zX (S b hb) fun O B e2=>⟨.inr e2,fun z=>?_,fun x c e z=>?_,fun p hp z=>?_⟩
  .rw [z,I.free] at B;cases B
  .have:=I.freeC x c e;rw[z,B] at this;cases this
  .have:=(I.pin p hp).2.1;rw[z,B] at this;cases this
 .rw [dQ (Ab (AQ (AG e) hl))]
  cases z:f b with
  |none=>rwa [mK z,yM g]
  |some xs=>exact absurd (AG e) (Nat.not_lt.mpr (U b xs z).1)
 .exact Ga af fun o es ep ho r=>⟨o,es,ep,k _ o (fun z=>by obtain⟨O,B,_⟩:=S _ z;rw[I.free] at B;cases B) ho,r⟩
 .by_cases ae:b=l
  .subst ae;rw[fQ] at e;cases e;exact ag
  .rw [dQ ae] at e
   cases z:f b with
   |some xs =>
    rw[uG z] at e;cases e;obtain⟨_,h2,D,h3,h4⟩:=U b xs z;exact⟨h2,D,h3,h4⟩
   |none =>
    rw[mK z] at e
    by_cases ab:b∈ds
    .rw [Xu ab] at e;cases e
    .rw [yM ab] at e
     refine(I.hok b u e).stay (fun c v g q=>k c v ?_ q) (fun c q=>J q fun _ z=>nomatch z) fun c xs q=>J q fun _ z=>nomatch z
     rcases g with z | z
     .rwa [z]
     .grind
end
section
variable {X:Cx}
def Vt:CallR X (.type "zip") (fun xs H Q=>∃l1 l2 as bs,xs=[.ref l1,.ref l2]/\SqT X.K H l1 as/\SqT X.K H l2 bs/\∀J O g TO z,H J=none->H O=none->H g=none->H TO=none->H z=none->ZipApart z g TO J O l1 l2->l1≠g/\l2≠g->Q (.ref z) (zpH X.s₀.heap.objs.size H J O g TO z l1 l2)):=by
 intro pins s σ H xs aq Q I r h;obtain⟨l1,l2,as,bs,rfl,h1,h2,ao⟩:=h;obtain⟨u,v,rfl,rfl,ry⟩:=r.two;cases ry;refine jK (I.tuple h1) fun ag r1 p1 _=>jK (I.tuple h2) fun ah r2 p2 _=>callType_new F.called_zip rfl (F.typeCall_zip_2 _ _) (F.newCall_zip_2 _ _) (fun ak=>F.args_object_init_3 ak _ _) F.entry_zip_new (gC l1 l2 ag.toArray ah.toArray) ⟨p1,p2,?_⟩;have ai:=let ⟨o,e,_⟩:=p1;AG e
 have aj:=let ⟨o,e,_⟩:=p2;AG e
 have B:=I.sz;have U:(s.heap.push (zpI l1)).objs.size=s.heap.objs.size+1:=Bt ..;have Y:((s.heap.push (zpI l1)).push (zpI l2)).objs.size=s.heap.objs.size+2 :=by simp_all
 rw[U,Y];have Z:(((s.heap.push (zpI l1)).push (zpI l2)).push (zpP (.ref s.heap.objs.size) (.ref (s.heap.objs.size+1)))).objs.size=s.heap.objs.size+3 :=by simp_all
 rw[Z];have z4:((((s.heap.push (zpI l1)).push (zpI l2)).push (zpP (.ref s.heap.objs.size) (.ref (s.heap.objs.size+1)))).push (zpP .none .none)).objs.size=s.heap.objs.size+4 :=by simp_all
 rw[z4];generalize D:s.heap.objs.size=S at *
 have ab:(s.heap.push (zpI l1)).get? S=some (zpI l1) :=D▸AK _ rfl;have I1:Inv X pins σ (upd H S (.ext (cM X.s₀.heap.objs.size S (zpI l1)))) { s with heap:=s.heap.push (zpI l1),toks:=s.toks }:=I.laid (fun b o e=>AD _ e) (B6 D) (Xp B ab);have ae:((s.heap.push (zpI l1)).push (zpI l2)).get? (S+1)=some (zpI l2) :=U▸AK _ rfl;have I2:=I1.laid (t':=s.toks) (o:=.ext (cM X.s₀.heap.objs.size (S+1) (zpI l2))) (h':=(s.heap.push (zpI l1)).push (zpI l2)) (fun b o e=>AD _ e) (B6 U) (Xp (BC B) ae)
 have af:(((s.heap.push (zpI l1)).push (zpI l2)).push (zpP (.ref S) (.ref (S+1)))).get? (S+2)=some (zpP (.ref S) (.ref (S+1))) :=Y▸AK _ rfl;have I3:=I2.laid (t':=s.toks) (o:=.ext (cM X.s₀.heap.objs.size (S+2) (zpP (.ref S) (.ref (S+1))))) (h':=((s.heap.push (zpI l1)).push (zpI l2)).push (zpP (.ref S) (.ref (S+1)))) (fun b o e=>AD _ e) (B6 Y) (Xp (BC (BC B)) af)
 have g4:((((s.heap.push (zpI l1)).push (zpI l2)).push (zpP (.ref S) (.ref (S+1)))).push (zpP .none .none)).get? (S+3)=some (zpP .none .none) :=Z▸AK _ rfl;have I4:=I3.laid (t':=s.toks) (o:=.ext (cM X.s₀.heap.objs.size (S+3) (zpP .none .none))) (h':=(((s.heap.push (zpI l1)).push (zpI l2)).push (zpP (.ref S) (.ref (S+1)))).push (zpP .none .none)) (fun b o e=>AD _ e) (B6 Z) (Xp (BC (BC (BC B))) g4)
 have g5:(((((s.heap.push (zpI l1)).push (zpI l2)).push (zpP (.ref S) (.ref (S+1)))).push (zpP .none .none)).push (zpZ (S+2) (S+3))).get? (S+4)=some (zpZ (S+2) (S+3)) :=z4▸AK _ rfl;have I5:=I4.laid (t':=s.toks) (o:=.ext (cM X.s₀.heap.objs.size (S+4) (zpZ (S+2) (S+3)))) (h':=((((s.heap.push (zpI l1)).push (zpI l2)).push (zpP (.ref S) (.ref (S+1)))).push (zpP .none .none)).push (zpZ (S+2) (S+3))) (fun b o e=>AD _ e) (B6 z4) (Xp (BC (BC (BC (BC B)))) g5)
 have q:∀{b:Addr},S<=b->H b=none:=fun hb=>I.hok.fresh (by rwa [D]);refine⟨⟨_,g5,rfl⟩,.ref (S+4),_,I5,rfl,ao S (S+1) (S+2) (S+3) (S+4) (q (AH _)) (q (BS _ _)) (q (BS _ _)) (q (BS _ _)) (q (BS _ _)) ?_ ?_⟩
 .have:=zipApart_new ai aj
  exact this
 .lia
def zpF(ps:List Addr)(as bs:List V):Addr->Option (List V):=fun b=>if b∈ps then some [as.getD (ps.idxOf b) .non,bs.getD (ps.idxOf b) .non] else none
def zpF_at(nd:ps.Nodup){j:Nat}(h:ps[j]?=some a)(g:as[j]?=some x)(q:bs[j]?=some y):zpF ps as bs a=some [x,y] :=by grind[zpF,List.getElem_mem,nd.idxOf_getElem]
def sI(hc:X.calm=true):CallR X (.type "list") (fun xs H Q=>∃B D g TO z l1 l2 as bs,xs=[.ref z]/\H B=some (.ext (cM X.s₀.heap.objs.size B (zpI l1)))/\H D=some (.ext (cM X.s₀.heap.objs.size D (zpI l2)))/\H g=some (.ext (cM X.s₀.heap.objs.size g (zpP (.ref B) (.ref D))))/\H TO=some (.ext (cM X.s₀.heap.objs.size TO (zpP .none .none)))/\H z=some (.ext (cM X.s₀.heap.objs.size z (zpZ g TO))) /\
  SqT X.K H l1 as/\SqT X.K H l2 bs/\as.length=bs.length/\ZipApart z g TO B D l1 l2/\(l1≠g/\l2≠g)/\∀ps l,ps.length=as.length->ps.Nodup->(∀b∈ps,H b=none)->H l=none->l∉ps->Q (.ref l) (upd (layT (kR H [z,TO,g,B,D]) (zpF ps as bs)) l (.lst (ps.map V.ref)))):=by
 intro pins s σ H xs ar Q I r h;obtain⟨B,D,g,TO,z,l1,l2,as,bs,rfl,h1,h2,h3,h4,h5,ak,t2,hl,ag,aj,af⟩:=h;obtain⟨u,rfl,rfl⟩:=xB r;refine jK (I.tuple ak) fun ao r1 p1 z1=>jK (I.tuple t2) fun aq r2 p2 z2=>?_;have Z:=(I.hok _ _ h1).1;have e2:=(I.hok _ _ h2).1;have e3:=(I.hok _ _ h3).1;have e4:=(I.hok _ _ h4).1;have e5:=(I.hok _ _ h5).1;have n1:=r1.length;refine zt_list (I.ok.hd hc) ag aj e5.2 e4.2 ⟨e3.2,⟨_,Z.2,rfl,rfl⟩,⟨_,e2.2,rfl,rfl⟩,p1,p2⟩ (by rw[Am,Am,<- n1,<- r2.length,hl]) (by grind) fun h' tk ah c ps kp el S G ha=>?_
 have nd:=G.rise.imp fun h=>Ab h;rw[Am,<- n1] at S;have U:=G.above;have Y:s.heap.objs.size∉ps:=fun z=>A9 _ (U _ z);have ez:ah=(ps.map Value.ref).toArray:=by rw[<- ha,Array.toArray_toList]
 have rv:Vals (ps.map V.ref) (ps.map Value.ref):=by
  clear nd S U Y ez G af ha
  induction ps with
  |nil=>exact .nil
  |cons a as ih=>exact .cons rfl ih
 refine⟨.ref s.heap.objs.size,_,I.goneT (t':=tk) (fun b q=>?_) (fun b o q e=>?_) (fun b xs e=>?_) (AH _) ?_ ⟨by rw[AB,S];exact z1,_,c,rv,by rwa [<- ez]⟩,rfl,af ps _ S nd (fun b q=>I.hok.fresh (Bc (U b q))) (I.hok.fresh (AH _)) Y⟩
 .simp only[List.mem_cons,List.not_mem_nil,or_false] at q
  rcases q with rfl | rfl | rfl | rfl | rfl
  .simp_all
  .exact ⟨_,h4,e4.1⟩
  .exact ⟨_,h3,e3.1⟩
  .exact ⟨_,h1,Z.1⟩
  .exact ⟨_,h2,e2.1⟩
 .grind
 .unfold zpF at e
  split at e
  .next q =>
   cases e;have hj:=List.idxOf_lt_length_of_mem q;have hg:ps[ps.idxOf b]?=some b :=by grind
   generalize ps.idxOf b=j at hj hg ⊢;refine uZ (G.pairs j b hg) fun x y ab ae ai=>?_;rw[List.getElem?_toArray] at ab ae;refine⟨Bc (U b q),y0 2 rfl,[x,y],.cons ?_ (.cons ?_ .nil),⟨_,ai,rfl,⟨_,rfl⟩,rfl⟩⟩
   .have J:as[j]?=some as[j]:=AO (by omega)
    refine zX (r1.get J) fun u O q2=>?_;rw[ab] at O;cases O
    rwa [Bh,J]
   .have J:bs[j]?=some bs[j]:=AO (by omega)
    refine zX (r2.get J) fun u O q2=>?_;rw[ae] at O;cases O
    rwa [Bh,J]
  .cases e
 .delta zpF
  rw[AX Y]
end
end L2
namespace CL
open PySem PySem.Spec L2 PySem.W
open PyProof.Rows hiding St
section
variable {X:Cx}{a b:Expr}{pos:Pos}
@[irreducible] def cZip:PV->PV->CH->K1->Prop:=fun x y C Q=>match x,y with
 |.tup xs,.tup ys=>xs.length=ys.length/\∀p,C p=none->Q (.ref p) (gQ C p (.lst (List.zipWith (fun a b=>PV.tup [a,b]) xs ys)))
 |_,_=>False
def GI(q B:TCE):TCE:=fun g C Q=>q g C fun x C1=>B g C1 fun y C2=>cZip x y C2 Q
def zip_s(h:xs.length=ys.length)(q:∀p,C p=none->Q (.ref p) (gQ C p (.lst (List.zipWith (fun a b=>PV.tup [a,b]) xs ys)))):cZip (.tup xs) (.tup ys) C Q:=by
 delta cZip
 exact⟨h,q⟩
theorem HRel.layT{K}(h:HRel K H C)(q:∀b xs,f b=some xs->H b=none):HRel K (L2.layT H f) C/\Fw H C (L2.layT H f) C/\Imm H (L2.layT H f):=by
 have k:∀{b:Addr}{o:HO},H b=some o->L2.layT H f b=some o:=fun e=>pK q e;have g:Imm H (L2.layT H f):=fun b o _ e=>k e;refine⟨fun b u c=>?_,fun b c n=>⟨rfl,?_⟩,g⟩
 .exact zX ((h b u c).mut) fun v e _=>(h b u c).imm g (by simp_all)
 .cases e:H b with
  |none=>exact absurd e n
  |some o=>exact k e
theorem QF{K}{f:Addr->Option (List V)}:∀{ps:List Addr}{vs B}{xs ys},Reps K H vs xs->Reps K H B ys->ps.length=xs.length->xs.length=ys.length->(∀(j:Nat)p v w,ps[j]?=some p->vs[j]?=some v->B[j]?=some w->H p=some (.tup [v,w]))->Reps K H (ps.map V.ref) (List.zipWith (fun a b=>PV.tup [a,b]) xs ys)
 |[],_,_,[],_,.nil,_,_,_,_=>.nil
 |p::ps,v::vs,w::B,x::xs,y::ys,.cons h1 U,.cons h2 Y,g,q,D =>
  .cons (.tup (D 0 p v w rfl rfl rfl) (.cons h1 (.cons h2 .nil))) (QF (f:=f) U Y (Ay g) (Ay q) fun j S Z w' I J O=>D (j+1) S Z w' I J O)
 |[],_,_,_::_,_,_,_,g,_,_=>nomatch g
 |_::_,_,_,[],_,_,_,g,_,_=>nomatch g
 |_::_,_,_,_::_,[],_,_,_,q,_=>nomatch q
def Z3{p p2 a0}(hc:X.calm=true)(aw:X.mg "list" = none)(ax:X.mg "zip" = none)(ha:CE X a aq)(hb:CE X b cb)(hg:Gl X "list":=by rfl)(au:Gl X "zip":=by rfl)(hs:wX a=true:=by rfl)(ay:wX b=true:=by rfl):
  CE X (.Call (.Name "list" p) [.Call (.Name "zip" p2) [a,b] [] a0] [] pos) (GI aq cb):=⟨JE.weak (eL (sI hc) hg aw rfl (cH (eL Vt au ax rfl (cH ha.h (cH hb.h ZF ay) hs) (by decide) rfl hs (by grind)) ZF)) fun σ H Q zz=>tX zz fun ρ C R s h a4 f=>
  ⟨ρ,C,_,s,h,a4,fun x H1 px C1 q1 q h1 ab=>⟨ρ,C1,_,s.imm (ab.imm h),h1,q1,fun y H2 a6 C2 g I h2 ae=>by
   have q:=q.imm (ae.imm h1)
   delta cZip at g
   split at g
   .next xs ys =>
    cases q with
    |@tup l1 vs _ hx q =>
    cases I with
    |@tup l2 ai _ hy I =>
    have lx:=q.len;refine⟨_,_,_,_,rfl,.inl (.inl hx),.inl (.inl hy),fun S U J TO z o1 o2 o3 o4 o5 D hl=>?_⟩;have B:∀{b c:Addr}{u:HO},H2 b=some u->H2 c=none->b≠c:=fun e1 O z=>by rw[z,O] at e1;cases e1
    have Y:∀{n:Nat}{b:Addr}{u:HO},H2 b=some u->zpH n H2 S U J TO z l1 l2 b=some u:=fun e=>by
     delta zpH
     rwa [dQ (B e o5),dQ (B e o4),dQ (B e o3),dQ (B e o2),dQ (B e o1)]
    refine⟨S,U,J,TO,z,_,_,_,_,rfl,?_,?_,?_,?_,fQ,.inl (.inl (Y hx)),.inl (.inl (Y hy)),lx.trans (g.1.trans I.len.symm),D,hl,fun ps l hn nd a5 av az=>?_⟩
    .delta zpH;rw[dQ D.i1z,dQ (Ne.symm D.TOi1),dQ (Ne.symm D.TIi1),dQ D.i12,fQ]
    .delta zpH;rw[dQ D.i2z,dQ (Ne.symm D.TOi2),dQ (Ne.symm D.TIi2),fQ]
    .delta zpH;rw[dQ D.TIz,dQ D.TITO,fQ]
    .delta zpH;rw[dQ D.TOz,fQ]
    .have ao:∀{b:Addr},zpH X.s₀.heap.objs.size H2 S U J TO z l1 l2 b=none->H2 b=none:=fun {b}e=>by
      cases O:H2 b with
      |none=>rfl
      |some u=>rw[Y O] at e;cases e
     rw[VN o1 o2 o3 o4 o5];have af:=ao av
     have ar:∀b ah,zpF ps vs ai b=some ah->H2 b=none:=fun b ah e=>by
      delta zpF at e
      split at e
      .grind
      .cases e
     refine Vh (h2.layT ar) fun h3 f3 ag=>?_;have Z:L2.layT H2 (zpF ps vs ai) l=none:=by rw[mK (by delta zpF;rw[AX az])];exact af
     exact f _ _ _ _ (g.2 l (h2.fresh af)) (.ref l) (h3.lay Z ⟨_,fQ,Reps.imm (Imm.new Z _) (QF (f:=fun _=>none) (q.imm ag) (I.imm ag) (hn.trans lx) g.1 fun j p' v' w' aj ak a3=>uG (zpF_at nd aj ak a3))⟩) (ab.trans (ae.trans (f3.trans (Fw.lay Z _ _))))
   .exact g.elim⟩⟩⟩
end
end CL
namespace PySem
open PySem.Spec PyProof.Rows PyProof.Rows.F
section
variable {prog:Program}{w:World}{κ:Type}[DecidableEq κ]{knd:KeyKind prog w κ}{A:Around}{d it t:Addr}{items:Array Value}{qs:List (List κ×Addr×Value)}{res:Value}
def xM(g qs:List (List κ×Addr×Value)):List (List κ×Addr×Value):=qs.foldl (fun g q=>storedH g q.1 q.2.1 q.2.2) g
def iB(x:IsTupleKey knd h ks a)(e:∀o,h.get? a=some o->h'.get? a=some o):IsTupleKey knd h' ks a:=let ⟨o,i,n,q,r⟩:=x;⟨o,i,n,e o q,r⟩
def vR(x:h.DictOfH (tupleKind knd) d xs)(e:∀o,h.get? d=some o->h'.get? d=some o)(k:∀(ks:List κ)(a:Addr),IsTupleKey knd h ks a->IsTupleKey knd h' ks a):h'.DictOfH (tupleKind knd) d xs :=
 let ⟨o,es,ep,q,g,B,D,I,J⟩:=x;⟨o,es,ep,e o q,g,B,D,fun x O=>k _ _ (I x O),J⟩
def Qz g(k:List κ)a v:(storedH g k a v).length<=g.length+1:=by
 cases e:atKey g k with
 |none=>rw[storedH_new e,AN];exact AH _
 |some p=>rw[storedH_old e,AB];exact Bm _
def KS(ak:A.in1.handled=none)(hu:A.in1.units < cLine)(ab:d≠it)(aw:d≠t)(az:t≠it)(a0:items[qs.length]?=none):∀r i s g,i+r=qs.length ->
   s.heap.IsTupleIter it t i->s.heap.IsTuple t items->s.heap.DictOfH (tupleKind knd) d g->g.length+r<=sizeLine ->
   (∀j(h:j < qs.length),∃p,items[j]?=some (.ref p)/\p≠d/\p≠it/\s.heap.IsTuple p #[.ref qs[j].2.1,qs[j].2.2]/\IsTupleKey knd s.heap qs[j].1 qs[j].2.1) ->
   (∀h tk,(∀b o,b≠d->b≠it->s.heap.get? b=some o->h.get? b=some o)->h.DictOfH (tupleKind knd) d (xM g (qs.drop i))->R (.ok (.ret res)) { s with heap:=h,toks:=tk }) ->
   codeAny (model prog w) A (.builtin "dict.update.loop" ⟨[.ref d,.ref it,rawInt i,res],[]⟩) R s:=by
 have ah:∀{h:Heap}{ks:List κ}{a:Addr}{i:Nat},IsTupleKey knd h ks a->h.IsTupleIter it t i->a≠it:=by
  rintro h ks a i ⟨o,x,n,e,c,_⟩ ⟨o',O,J,_⟩ rfl;rw[e] at O;cases O;rw[c] at J;exact absurd J (by decide)
 have ax:∀{h:Heap}{ks:List κ}{a:Addr}{xs:List (List κ×Addr×Value)},IsTupleKey knd h ks a->h.DictOfH (tupleKind knd) d xs->a≠d:=by
  rintro h ks a xs ⟨o,x,n,e,c,D,_⟩ ⟨o',es,ep,O,_,J,_⟩ rfl;rw[e] at O;cases O;rw[D] at J;cases J
 intro r
 induction r with
 |zero =>
  intro i s g e U tt D hz Z Y;have ei:i=qs.length:=by lia
  subst ei;rw[B8] at Y;exact Bj iO ((Around.under_plainId cL _)▸AA (wpAny_pyNext_tuple_end ak U tt a0 fun h x=>AA (AC (AC (Y h s.toks (fun b o _ av q=>x b o av q) (vR D (fun o q=>x d o ab q) fun ks a S=>iB S fun o q=>x a o (ah S U) q))))))
 |succ r ih =>
  intro i s g e U tt D hz Z Y;have hi:i < qs.length:=by lia
  refine Xq (Z i hi) fun p hp a7 ay a6 kk=>Bj iO (AA (wpAny_pyNext_tuple_item U tt hp fun h1 ar B=>?_));have ae:∀ks a,IsTupleKey knd s.heap ks a->IsTupleKey knd h1 ks a:=fun ks a S=>iB S fun o q=>B.extBut a o (ah S U) q;have ai:=wY a6 fun o q=>B.extBut p o ay q;refine AA (Az (AA (wpAny_tryCatch (AA (DN ai.typeIs ?_)))))
  obtain⟨op,e1,e2,n,e3⟩:=id ai;refine AA (BE e1 e3 (AC (Az (wpAny_dictSet_heap hu (ae _ _ kk) (vR D (fun o q=>B.extBut d o ab q) ae) (fun h2 ao I=>?_) (by lia)))))
  have aq:xM g (qs.drop i)=xM (storedH g qs[i].1 qs[i].2.1 qs[i].2.2) (qs.drop (i+1)):=by
   rw[A4 hi];rfl
  refine AC ⟨Bz cL _,?_⟩;have ek:rawInt ((i:Int)+1)=rawInt ((i+1:Nat):Int):=by rw[Int.natCast_add];rfl
  refine ih (i+1) _ (storedH g qs[i].1 qs[i].2.1 qs[i].2.2) (by lia) (ZI ar fun o q=>(I.2 it (Ne.symm ab)).trans q) (wY (wY tt fun o q=>B.extBut t o az q) fun o q=>(I.2 t (Ne.symm aw)).trans q) ao ?_ (fun j hj=>?_) fun h tk au ag=>?_
  .have:=Qz g qs[i].1 qs[i].2.1 qs[i].2.2
   lia
  .exact Xq (Z j hj) fun p' aj af a3 a4 a5=>⟨p',aj,af,a3,wY (wY a4 fun o q=>B.extBut p' o a3 q) fun o q=>(I.2 p' af).trans q,iB (ae _ _ a5) fun o q=>(I.2 _ (ax a5 D)).trans q⟩
  .rw [<- aq] at ag
   exact Y h tk (fun b o n1 n2 q=>au b o n1 n2 ((I.2 b n1).trans (B.extBut b o n2 q))) ag
def Xn{id}(ag:A.handled=none)(ah:J.in1.handled=none)(hu:J.in1.units < cLine)(au:d≠t)(D:s.heap.get? t=some o)(Y:o.cls=.type "tuple")(Z:o.data=.seq items n)(ak:o.dict=none)(U:s.heap.DictOfH (tupleKind knd) d [])(hz:qs.length<=sizeLine)(av:items[qs.length]?=none)(aq:∀j(h:j < qs.length),∃p,items[j]?=some (.ref p)/\p≠d/\s.heap.IsTuple p #[.ref qs[j].2.1,qs[j].2.2]/\IsTupleKey knd s.heap qs[j].1 qs[j].2.1)(B:∀(h:Heap)(I:Nat),(∀b o,b≠d->s.heap.get? b=some o->h.get? b=some o)->h.DictOfH (tupleKind knd) d (xM [] qs)->R (.ok (.ret res)) { s with heap:=h,toks:=I }):
  wpAny (model prog w) A (Builtin.Dict.updateFrom id d (.ref t) [] res) (fun B s'=>match B with | .done f=>R (.ok f) s' | .again S=>S.quiet=true/\codeAny (model prog w) J S R s') E s:=by
 have tt:s.heap.IsTuple t items:=⟨o,D,Y,n,Z⟩;refine AA (DN tt.typeIs (AA (oS D Y Z ak ag fun h1 aw g=>AA (Cb ?_))));have ab:=wY tt fun o q=>g t o q;refine AA (Cu ab ?_);have aj :=Ga U fun od es ep q _=>AG (g d od q);refine AC ⟨Bz cL _,KS (knd:=knd) ah hu (Ab aj) au (Ab (AG (g t o D))) av qs.length 0 _ [] (BU _) ⟨_,AK _ rfl,rfl,rfl⟩ (ab.push _) ?_ (by simp_all) (fun j hj=>?_) fun h I ao ai=>?_⟩
 .exact vR U (fun o q=>AD _ (g d o q)) fun ks a hk=>iB hk fun o q=>AD _ (g a o q)
 .refine ZT (aq j hj) fun p ae af O a4=>?_
  have hp :=zX O fun op q _=>AG (g p op q);exact⟨p,ae,af,Ab hp,wY O fun o q=>AD _ (g p o q),iB a4 fun o q=>AD _ (g _ o q)⟩
 .exact B h I (fun b o ar q=>ao b o ar (Ab (AG (g b o q))) (AD _ (g b o q))) ai
end
end PySem
namespace L2
open PySem PySem.Spec PyProof.Rows
abbrev TPrs(H:Hp):List Addr->List (List Key×V)->Prop:=Paired fun a p=>∃b,H a=some (.tup [.ref b,p.2])/\H b=some (.tup (p.1.map kV))
theorem rT(g:HOk P w H h):∀{q}{ps},TPrs H q ps->∃qs,KT H ps qs/\q.length=qs.length /\
  ∀j(hj:j < qs.length),∃p,q[j]?=some p/\h.IsTuple p #[.ref qs[j].2.1,qs[j].2.2]/\IsTupleKey (sX P w) h qs[j].1 qs[j].2.1
 |_,_,.nil=>⟨[],.nil,rfl,fun j hj=>absurd hj (BY j)⟩
 |_,_,@Paired.cons _ _ _ a p l1 l2 ⟨b,e,B⟩ r=>by
  refine jK (rT g r) fun rs D I J=>?_;obtain⟨_,Z,rv,U⟩:=(g a _ e)
  cases rv with
  |@cons _ ku _ its' O rv =>
   cases rv with
   |@cons _ Y _ ab S rv =>
    cases rv;cases O;refine⟨(p.1,b,Y)::rs,.cons ⟨rfl,B,S⟩ D,by rw[AV,AV,I],fun j hj=>?_⟩
    cases j with
    |zero=>exact⟨a,rfl,U.is,kU g B⟩
    |succ j=>exact J j (Bv hj)
theorem KT.merge: ∀{ps}{qs},KT H ps qs->∀{kvs}{xs},KT H kvs xs->KT H (iG kvs ps) (xM xs qs)
 |_,_,.nil,_,_,r=>r
 |_,_,@Paired.cons _ _ _ p q l1 l2 ⟨g,B,D⟩ t,kvs,xs,r=>by
  have:=KT.put r p.1 B D;rw[g] at this
  delta iG xM
  rw[ Co,g];exact KT.merge t this
theorem tM:∀ps kvs,(iG kvs ps).length<=kvs.length+ps.length
 |[],kvs=>AH _
 |p::ps,kvs=>by
  have h1:=tM ps (iV kvs p.1 p.2);have h2:=nY kvs p.1 p.2;unfold iG at h1 ⊢;rw[Co,AV]
  lia
section
variable {X:Cx}
def sR(hc:X.calm=true)(hu:X.A.units+2 < cLine):CallR X (.type "dict") (fun xs H Q=>∃t S ps,xs=[.ref t]/\H t=some (.tup (List.map V.ref S))/\TPrs H S ps/\ps.length<=sizeLine/\∀d,H d=none->Q (.ref d) (upd H d (.dT (iG [] ps)))):=by
 intro pins s σ H xs ak Q I r h;obtain⟨t,S,ps,rfl,ht,hp,hz,q⟩:=h;obtain⟨u,rfl,rfl⟩:=r.one;obtain⟨_,aj,rv,o,h1,h2,⟨n,h3⟩,h4⟩:=(I.hok t _ ht);have ei:=mT rv;subst ei;refine jK (rT I.hok hp) fun qs q1 q2 q3=>callType_codes (Q₁:=fun Z ab=>Z=.ref s.heap.objs.size/\ab={ s with heap:=s.heap.push { cls:=.type "dict",data:=.dict #[] } }) F.kt_called_dict (F.kt_typeCall_dict_1 _) F.entry_dict_init (kt_code_dict_new _ ⟨rfl,rfl⟩) ?_
 rintro Z ab ⟨rfl,rfl⟩;have Y:(s.heap.push { cls:=.type "dict",data:=.dict #[] }).DictOf (sX X.prog X.w) s.heap.objs.size []:=Heap.DictOf.new s.heap
 have ag:(s.heap.push { cls:=.type "dict",data:=.dict #[] }).DictOfH (tupleKind (sX X.prog X.w)) s.heap.objs.size []:=by
  obtain⟨_,_,xs,k,o,es,ep,g,B,D,J,O⟩:=Xt (H:=H) s.heap I.big;cases k;exact⟨o,es,ep,g,B,D,J,(fun _ z=>nomatch z),O⟩
 refine⟨Y.typeIs,F.args_dict_init_2 _ _,?_⟩
 apply AA
 refine AA (DX Y.typeIs (AC ?_));have ae:=I.ok.hd hc;refine Xn (by lia) (by simp[ae]) hu (Au (AG h1)) (AD _ h1) h2 h3 h4 ag (by rwa [<- (Paired.length q1)]) ?_ (fun j hj=>?_) fun h' tk ai dd=>?_
 .simp_all
 .obtain ⟨p,e1,U,e3⟩:=(q3 j hj)
  have ah :=zX U fun op z _=>AG z;refine⟨p,?_,Ab ah,U.push _,iB e3 fun o q=>AD _ q⟩;rw[List.getElem?_toArray,A0,e1];rfl
 .refine el36 dd fun o es ep g B D J _ O=>?_
  have af:=tM ps [];refine⟨rfl,.ref s.heap.objs.size,_,I.laid (t':=tk) (o:=.dT (iG [] ps)) (fun b ob e=>ai b ob (Ab (AG e)) (AD _ e)) (AH _) ⟨by simp at af;lia,DU (Au I.big),_,(KT.merge q1 .nil).keeps fun b ys e=>?_,o,es,ep,g,B,D,J,O⟩,rfl,q _ (I.hok.fresh (AH _))⟩;rw[dQ (fun z=>by rw[z,I.hok.fresh (AH _)] at e;cases e)];exact e
end
end L2
namespace CL
open PySem PySem.Spec L2 PySem.W
open PyProof.Rows hiding St
section
variable {X:Cx}
def Zf:List PV->Option (List (List Key×PV))
 |[]=>some []
 |.tup [k,v]::r=>match aU k,Zf r with
  |some k,some ps=>some ((k,v)::ps)
  |_,_=>none
 |_=>none
def Wy{K}(r:Reps K H vs ts)(e:Zf ts=some ps):∃g q,vs=List.map V.ref g/\TPrs H g q/\FP K H q ps:=by
 induction ts generalizing vs ps with
 |nil=>cases r;cases e;exact⟨[],[],rfl,.nil,.nil⟩
 |cons t ts I =>
  cases r with
  |@cons v _ vs _ h r =>
   cases h with
   |@tup a q xs B Y =>
    rcases xs with _ | ⟨k,_ | ⟨u,_ | ⟨z,xs⟩⟩⟩
    .cases e
    .cases e
    .unfold Zf at e
     split at e
     .next J af O S =>
      cases e;obtain⟨g,ae,rfl,U,p2⟩:=I r S;obtain⟨ag,ab,rfl,Z,r3⟩:=oG Y;obtain⟨b,rfl,D⟩:=xY Z O;exact⟨a::g,(J,ab)::ae,rfl,.cons ⟨b,B,D⟩ U,.cons ⟨rfl,r3⟩ p2⟩
     .cases e
    .cases e
   |_=>cases e
@[irreducible] def Qa:GC:=fun ts C Q=>match ts with
 |[.tup xs]=>match Zf xs with
  |some ps=>ps.length<=sizeLine/\∀p,C p=none->Q (.ref p) (gQ C p (.dT (mergeG [] ps)))
  |none=>False
 |_=>False
def yE{K}:Cbi K (fun xs H Q=>∃t B ps,xs=[.ref t]/\H t=some (.tup (List.map V.ref B))/\TPrs H B ps/\ps.length<=sizeLine/\∀d,H d=none->Q (.ref d) (upd H d (.dT (iG [] ps)))) Qa:=fun xs ts H C Q R rs h q f=>by
 delta Qa at q
 split at q
 .split at q
  .next ps e =>
   obtain⟨v,rfl,r⟩:=iX rs
   cases r with
   |@tup a vs xs D J =>
    obtain⟨B,O,rfl,I,p2⟩:=Wy J e;refine⟨a,B,O,rfl,D,I,by rw[Paired.length p2];exact q.1,fun d g=>?_⟩;exact f _ _ _ _ (q.2 d (h.fresh g)) (.ref d) (h.lay g ⟨_,fQ,Paired.mapP (FP.mergeG p2 .nil) fun _ _ z=>⟨z.1,z.2.imm (Imm.new g _)⟩⟩) (Fw.lay g _ _)
  .exact q.elim
 .exact q.elim
def J7(e:Zf xs=some ps)(h:ps.length<=sizeLine)(q:∀p,C p=none->Q (.ref p) (gQ C p (.dT (mergeG [] ps)))):Qa [.tup xs] C Q :=by grind[Qa]
@[irreducible] def cInT:R2C:=fun x y C Q=>match x,y with
 |.str i,.str j=>Q (.bl (!(Builtin.Str.occurrences j i 0 j.length 1).isEmpty)) C
 |_,_=>False
def cop_inT{K}:Cop K (fun x y H Q=>∃i j,x=.str i/\y=.str j/\Q (.bl (!(Builtin.Str.occurrences j i 0 j.length 1).isEmpty)) H) cInT:=fun x y D I H C Q R g B h q f=>by
 delta cInT at q
 split at q
 .cases g;cases B
  exact⟨_,_,rfl,rfl,f _ H _ C q (.bl _) h Fw.refl⟩
 .exact q.elim
def inT_s(q:Q (.bl (!(Builtin.Str.occurrences j i 0 j.length 1).isEmpty)) C):cInT (.str i) (.str j) C Q:=by
 delta cInT
 exact q
end
theorem Qx{K}: ∀{l:List Str}{vs},Reps K H vs (l.map PV.str)->vs=l.map V.str
 |[],_,.nil=>rfl
 |z::l,_,.cons h t=>by cases h;rw[Qx t];rfl
def eS(l:List Str):PV->Bool
 |.str z=>l.contains z
 |_=>false
@[irreducible] def cInA:R2C:=fun x y C Q=>match y with
 |.kt ys=>match nM ys,tyP C x with
  |some l,some _=>Q (.bl (eS l x)) C
  |_,_=>False
 |_=>False
def cop_inA{K}:Cop K (rInS K false) cInA:=fun x y O U H C Q R B S h q f=>by
 delta cInA at q
 split at q
 .split at q
  .next l c D I =>
   cases S with
   |kt e r =>
    have g:=Qy D;subst g;have g:=Qx r;subst g;refine⟨_,l,c,rfl,.inr e,lE B h I,?_⟩;have J:inS l x=eS l O:=by cases B<;>rfl
    exact J▸f _ H _ C q (.bl _) h Fw.refl
  .exact q.elim
 .exact q.elim
def inA_s(g:nM ys=some l)(B:tyP C x=some c)(q:Q (.bl (eS l x)) C):cInA x (.kt ys) C Q :=by simp_all[cInA]
end CL
namespace CL
open PySem L2 PySem.W
theorem Ji(I:Nat->CSt->CH->Prop)(B:∀n g C(L:CSt->CH->Prop),I n g C->(∀m q C',m < n->I m q C'->L q C')->t g C fun b C1=>if b=true then u { nx:=L,ct:=L,bk:=E.nx,rt:=E.rt } g C1 else E.nx g C1):∀k n g C,n < k->I n g C->Z5 t u E k g C
 |0,n,_,_,h,_=>absurd h (BY n)
 |k+1,n,g,C,h,D=>B n g C (Z5 t u E k) D fun m q C' O J=>Ji I B k m q C' (by lia) J
theorem cD f:∀xs B C,Gr C0 C->B.length+xs.length<=sizeLine->(∀x∈xs,∀C D,Gr C0 C->(∀C',Gr C C'->D (f x) C')->c (some x::U) C D)->(∀p C',C0 p=none->Gr C0 C'->C' p=some (.lst (B++xs.map f))->Q (.ref p) C')->cJ xT c U Q xs B C
 |[],B,C,g,_,_,q=>mR fun p I=>q p _ (zI g I) (g.trans (Gr.new I _)) (by rw[jQ,List.map_nil,Ah])
 |x::xs,B,C,g,O,h,q=>by
  rw[AV] at O;refine yP (h x AF C _ g fun C' g'=>⟨by lia,cD f xs _ C' (g.trans g') (by grind) (fun y S=>h y (AL _ S)) fun p C2 h1 h2 J=>q p C2 h1 h2 ?_⟩);rw[J,Af]
  rfl
theorem Kp:∀bs,jS (bs.map PV.bl)=some bs
 |[]=>rfl
 |b::bs=>by show(jS (bs.map PV.bl)).map _=_;rw[Kp bs];rfl
def all_s{bs:List Bool}(h:C p=some (.lst (bs.map PV.bl)))(q:Q (.bl (bs.all id)) C):cAll [.ref p] C Q:=by
 delta cAll
 dsimp only;rw[h];dsimp only
 rwa [Kp]
def yZ{p q:CH->Prop}(h:p C):qD (fun b C1=>if (!b)=true then p C1 else q C1) (.bl false) C:=h
def Yl(h:z.length<=sizeLine)(q:Q (.int z.length) C):eR [.str z] C Q:=by
 delta eR
 exact⟨h,q⟩
def WU{α:Type}lt cs(d:α):((vJ lt (kas_sort cs.length)).toList.map fun i=>cs.getD i d).Perm cs:=by
 rcases Cw cs.length with z | z
 .rw [z,Wb,List.length_eq_zero_iff.1 z]
  exact .refl _
 .have e:(List.range cs.length).map (fun i=>cs.getD i d)=cs:=by
   apply List.ext_getElem
   .grind
   .grind
  have:=(vW lt cs.length z).map fun i=>cs.getD i d
  rwa [e] at this
def zM cs:(vH cs).Perm cs:=WU _ cs _
end CL
namespace CL
open PySem PySem.Spec L2 PySem.W
open PyProof.Rows hiding St
section
variable {X:Cx}{a b c e o i f:Expr}{es:List Expr}{pos:Pos}{value:Expr}
@[irreducible] def cSlS:PV->Option Int->Option Int->CH->K1->Prop:=fun x lo hi C Q=>match x with
 |.str z=>z.length<=sizeLine/\Q (.str (Txt.slice z lo hi)) C
 |_=>False
def ce_slS{lo hi:Option Expr}{D:TCE}{I ch:TCO}{p2:Pos}(ab:CE X e D)(hl:CPt X lo I)(hu:CPt X hi ch):CE X (.Subscript e (.Slice lo hi none p2) pos) (cSl cSlS D I ch):=⟨JE.weak (oC sl_str ab.h hl.h hu.h) fun σ H Q ⟨B,C,R,s,h,ae,f⟩ =>
 ⟨B,C,_,s,h,ae,fun x H1 px C1 q1 rx h1 q=>⟨B,C1,_,s.imm (q.imm h),h1,q1,fun l H2 l' C2 q2 U h2 J=>⟨B,C2,_,(s.imm (q.imm h)).imm (J.imm h1),h2,q2,fun u S u' O g Y h3 Z=>by
  cases U;cases Y
  unfold cSlS at g
  split at g
  .cases rx
   exact⟨_,rfl,g.1,f _ S _ O g.2 (.str _) h3 (q.trans (J.trans Z))⟩
  .exact g.elim⟩⟩⟩⟩
def slS_s{z:Str}{lo hi:Option Int}{C:CH}{Q:K1}(h:z.length<=sizeLine)(q:Q (.str (Txt.slice z lo hi)) C):cSlS (.str z) lo hi C Q:=by
 unfold cSlS;exact⟨h,q⟩
@[irreducible] def cPopAt:PV->List PV->CH->K1->Prop:=fun x ts C Q=>match x,ts with
 |.ref a,[.int i]=>match C a with
  |some (.lst xs)=>0<=i/\i < 10000000/\∃y,xs[i.toNat]?=some y/\Q y (gQ C a (.lst (xs.eraseIdx i.toNat)))
  |_=>False
 |_,_=>False
@[irreducible] def vL:PV->List PV->CH->K1->Prop:=fun x ts C Q=>match x,ts with
 |.ref a,[.int i,y]=>match C a with
  |some (.lst xs)=>0<=i/\i<=xs.length/\xs.length < sizeLine/\Q .non (gQ C a (.lst (xs.take i.toNat++y::xs.drop i.toNat)))
  |_=>False
 |_,_=>False
def pR{K:De}:Cmt K Jw vL:=fun x J xs ps H C Q R I rs h q f=>by
 unfold vL at q
 split at q
 .split at q
  .next i y _ ys B =>
   obtain⟨h0,h1,h2,q⟩:=q;obtain⟨vs,g,rv⟩:=h _ _ B
   cases rs with
   |cons r rs =>
   obtain⟨v,rfl,D⟩:=iX rs;cases r;cases I;exact⟨_,vs,_,v,rfl,rfl,g,h0,by rw[rv.len];exact h1,by rw[rv.len];exact h2,f _ _ _ _ q .non (h.put g rfl ⟨_,fQ,(Reps.append (rv.take _) (.cons D (rv.drop _))).imm (Imm.mut g rfl _)⟩) (Fw.put B _ _)⟩
  .exact q.elim
 .exact q.elim
@[irreducible] def cNeNil:R2C:=fun x y C Q=>match x,y with
 |.ref a,.ref b=>match C a,C b with
  |some (.lst xs),some (.lst [])=>Q (.bl (!xs.isEmpty)) C
  |_,_=>False
 |_,_=>False
def Xf{p:Addr}{xs:List PV}{k:Nat}{y:PV}{C:CH}{Q:K1}(h:C p=some (.lst xs))(B:k<=xs.length)(g:xs.length < sizeLine)(q:Q .non (gQ C p (.lst (xs.take k++y::xs.drop k)))):vL (.ref p) [.int (k:Nat),y] C Q:=by
 unfold vL;dsimp only;rw[h];exact⟨by omega,by omega,g,q⟩
end
end CL
namespace L2
open PySem PySem.W PyProof.Rows
theorem eW lt:∀t(f:α->KasT β),vJ lt (t.bind f)=vJ lt (f (vJ lt t))
 |.ret a,f=>rfl
 |.ask i j k,f=>eW lt (k (lt i j)) f
structure Tot(n:Nat)(lt:Nat->Nat->Bool):Prop where
 tr:∀i j k,i < n->j < n->k < n->lt i j=true->lt j k=true->lt i k=true
 ir:∀i,i < n->lt i i=false
 to:∀i j,i < n->j < n->i≠j->lt i j=true\/lt j i=true
def Up(lt:Nat->Nat->Bool)(p:Array Nat)(m:Nat):Prop:=∀i j,i < j->j < m->lt (p.getD i 0) (p.getD j 0)=true
def Dn(lt:Nat->Nat->Bool)(p:Array Nat)(m:Nat):Prop:=∀i j,i < j->j < m->lt (p.getD j 0) (p.getD i 0)=true
def lV(p:Array Nat)i:p.getD i 0=(p[i]?).getD 0:=by simp
def Yc{α:Type}{l:List α}(nd:l.Nodup){hi}{hj:j < l.length}(e:l[i]=l[j]):i=j:=by
 have:=List.pairwise_iff_getElem.1 nd
 rcases Nat.lt_trichotomy i j with h | h | h
 .grind
 .exact h
 .grind
section
variable {n:Nat}{lt:Nat->Nat->Bool}{p:Array Nat}
def Ord.ne(o:Ord n p)(hi:i < n)(hj:j < n)(h:i≠j):p.getD i 0≠p.getD j 0:=by
 have hs:=o.size;intro e;rw[lV,lV,Aq (by lia),Aq (by lia)] at e;exact h (Yc (o.nodup_iff.2 List.nodup_range) e)
def Up.ext(T:Tot n lt)(o:Ord n p)(q:m < n)(h:Up lt p m)(e:lt (p.getD (m - 1) 0) (p.getD m 0)=true):Up lt p (m+1):=fun i j g hj=>by
 have h0:0 < n:=by lia
 by_cases c:j < m
 .exact h i j g c
 .have:j=m:=by lia
  subst this
  by_cases d:i=j - 1
  .rwa [d]
  .exact T.tr _ _ _ (o.lt h0 _) (o.lt h0 _) (o.lt h0 _) (h i (j - 1) (by lia) (by lia)) e
def Dn.ext(T:Tot n lt)(o:Ord n p)(q:m < n)(h:Dn lt p m)(e:lt (p.getD m 0) (p.getD (m - 1) 0)=true):Dn lt p (m+1):=fun i j g hj=>by
 have h0:0 < n:=by lia
 by_cases c:j < m
 .exact h i j g c
 .have:j=m:=by lia
  subst this
  by_cases d:i=j - 1
  .rwa [d]
  .exact T.tr _ _ _ (o.lt h0 _) (o.lt h0 _) (o.lt h0 _) e (h i (j - 1) (by lia) (by lia))
def Tot.no(T:Tot n lt)(hi:i < n)(hj:j < n)(h:i≠j)(e:¬ lt i j=true):lt j i=true:=(T.to i j hi hj h).resolve_left e
theorem Jb(T:Tot n lt)(o:Ord n p):∀f m,1<=m->m+f<=n->Up lt p m->Up lt p (vJ lt (kas_asc p f m))/\m<=vJ lt (kas_asc p f m)/\vJ lt (kas_asc p f m)<=m+f/\(vJ lt (kas_asc p f m) < m+f->lt (p.getD (vJ lt (kas_asc p f m)) 0) (p.getD (vJ lt (kas_asc p f m) - 1) 0)=true)
 |0,m,h1,h2,u=>⟨u,AH _,AH _,fun h=>absurd h (A9 _)⟩
 |f+1,m,h1,h2,u=>by
  have h0:0 < n:=by lia
  have e:vJ lt (kas_asc p (f+1) m)=vJ lt (if lt (p.getD m 0) (p.getD (m - 1) 0)=true then .ret m else kas_asc p f (m+1)):=rfl;rw[e]
  by_cases c:lt (p.getD m 0) (p.getD (m - 1) 0)=true
  .exact (AZ c)▸⟨u,AH _,BS _ _,fun _=>c⟩
  .rw [AX c]
   have:=T.no (o.lt h0 _) (o.lt h0 _) (o.ne (by lia) (by lia) (by lia)) c;refine zT (Jb T o f (m+1) (Nat.succ_pos _) (by lia) (u.ext T o (by lia) this)) fun g B D q=>?_;exact⟨g,by lia,by lia,fun h=>q (by lia)⟩
theorem Ka(T:Tot n lt)(o:Ord n p):∀f m,2<=m->m+f<=n->Dn lt p m->∃r,vJ lt (kas_desc f p m 0)=(p,r,0)/\Dn lt p r/\m<=r/\r<=m+f
 |0,m,h1,h2,u=>⟨m,rfl,u,AH _,AH _⟩
 |f+1,m,h1,h2,u=>by
  have h0:0 < n:=by lia
  have e:vJ lt (kas_desc (f+1) p m 0)=vJ lt (if lt (p.getD m 0) (p.getD (m - 1) 0)=true then kas_desc f p (m+1) 0 else .ask (p.getD (m - 1) 0) (p.getD m 0) fun d=>if d=true then .ret (p,m,0) else kas_desc f p (m+1) (0+1)):=rfl;rw[e]
  by_cases c:lt (p.getD m 0) (p.getD (m - 1) 0)=true
  .rw [AZ c]
   refine ZT (Ka T o f (m+1) (by lia) (by lia) (u.ext T o (by lia) c)) fun r g q B D=>?_;exact⟨r,g,q,by lia,by lia⟩
  .rw [AX c]
   refine⟨m,?_,u,AH _,by lia⟩;show vJ lt (if lt (p.getD (m - 1) 0) (p.getD m 0)=true then .ret (p,m,0) else _)=_;rw[AZ (T.no (o.lt h0 _) (o.lt h0 _) (o.ne (by lia) (by lia) (by lia)) c)]
   rfl
def V0(T:Tot n lt)(o:Ord n p)(h1:1<=r)(h2:r<=n)(u:Dn lt p r):∃m q,vJ lt (kas_tail3 r n p)=(m,q)/\Ord n q/\Up lt q m/\1<=m/\m<=n:=by
 have hs:=o.size;have g:=o.rev 0 r
 have D:Up lt (kas_rev p 0 r) r:=fun i j S hj=>by
  rw[lV,lV]
  delta kas_rev
  rw[getElem?_mirror_all (by lia),getElem?_mirror_all (by lia),AZ (by lia),AZ (by lia),<- lV,<- lV];exact u _ _ (by lia) (by lia)
 delta kas_tail3
 rw[eW];refine zT (Jb T g (n - r) r h1 (by lia) D) fun B I J O=>?_;exact⟨_,_,rfl,g,B,by lia,by lia⟩
def Gn(T:Tot n lt)(o:Ord n p)(h1:1<=n):∃m q,vJ lt (kas_count n p)=(m,q)/\Ord n q/\Up lt q m/\1<=m/\m<=n:=by
 delta kas_count
 rw[eW];obtain⟨g,D,I,B⟩:=Jb T o (n - 1) 1 (AH _) (by lia) fun i j Z hj=>by lia
 generalize vJ lt (kas_asc p (n - 1) 1)=r at g D I B ⊢
 by_cases c:(r==n)=true
 .exact (AZ c)▸⟨_,_,rfl,o,g,by lia,by lia⟩
 rw[AX c]
 by_cases d:r > 1
 .rw [AZ d]
  show ∃m q,vJ lt (if lt (p.getD 0 0) (p.getD (r - 1) 0)=true then .ret (r,p) else _)=_/\_;rw[AZ (g 0 (r - 1) (by lia) (by lia))];exact⟨_,_,rfl,o,g,by lia,by lia⟩
 .rw [AX d]
  have e:r=1:=by lia
  subst e
  have S:Dn lt p 2:=fun i j Z hj=>by
   have U:i=0:=by lia
   have Y:j=1:=by lia
   rw[U,Y];exact B (by lia)
  delta kas_descPart
  rw[eW];refine ZT (Ka T o (n - 2) 2 (AH _) (by lia) S) fun r J O b3 b4=>?_;exact J▸V0 T o (by lia) (by lia) O
theorem zC(T:Tot n lt)(o:Ord n p)(g:k < n)(u:Up lt p k):∀f l r,l<=r->r<=k->r<=l+f->(∀i,i < l->lt (p.getD i 0) (p.getD k 0)=true)->(∀i,r<=i->i < k->lt (p.getD k 0) (p.getD i 0)=true) ->
  ∃x,vJ lt (kas_place p k f l r)=x/\x<=k/\(∀i,i < x->lt (p.getD i 0) (p.getD k 0)=true)/\∀i,x<=i->i < k->lt (p.getD k 0) (p.getD i 0)=true
 |0,l,r,h1,h2,q,a,b=>⟨l,rfl,by lia,a,fun i hi=>b i (by lia)⟩
 |f+1,l,r,h1,h2,q,a,b=>by
  have h0:0 < n:=by lia
  unfold kas_place
  by_cases c:l >= r
  .exact (AZ c)▸⟨l,rfl,by lia,a,fun i hi=>b i (by lia)⟩
  .rw [AX c]
   show ∃x,vJ lt (if lt (p.getD k 0) (p.getD ((l+r) / 2) 0)=true then kas_place p k f l ((l+r) / 2) else kas_place p k f ((l+r) / 2+1) r)=x/\_
   by_cases d:lt (p.getD k 0) (p.getD ((l+r) / 2) 0)=true
   .rw [AZ d]
    refine zC T o g u f l ((l+r) / 2) (by lia) (by lia) (by lia) a fun i B D=>?_
    by_cases e:i=(l+r) / 2
    .rwa [e]
    .exact T.tr _ _ _ (o.lt h0 _) (o.lt h0 _) (o.lt h0 _) d (u _ _ (by lia) D)
   .rw [AX d]
    have d:=T.no (o.lt h0 _) (o.lt h0 _) (o.ne g (by lia) (by lia)) d;refine zC T o g u f ((l+r) / 2+1) r (by lia) (by lia) (by lia) (fun i B=>?_) b
    by_cases e:i=(l+r) / 2
    .rwa [e]
    .exact T.tr _ _ _ (o.lt h0 _) (o.lt h0 _) (o.lt h0 _) (u _ _ (by lia) (by lia)) d
end
theorem GM(T:Tot n lt):∀f p k,k+f=n->Ord n p->Up lt p k->Up lt (vJ lt (kas_bin f p k)) n
 |0,p,k,h,o,u=>by cases h;exact u
 |f+1,p,k,h,o,u=>by
  have hs:=o.size;show Up lt (vJ lt ((kas_place p k k 0 k).bind fun l=>kas_bin f (bubble p k (k - l)) (k+1))) n;rw[eW];refine ZT (zC T o (by lia) u k 0 k (AY _) (AH _) (BZ _ _) (fun i h=>absurd h (BY _)) fun i h h'=>absurd h' (by lia)) fun x e I a b=>?_;rw[e];refine GM T f _ (k+1) (by lia) (o.bubble _ _) fun i j D hj=>?_
  have q:∀i,(bubble p k (k - x)).getD i 0=if i=x then p.getD k 0 else if x < i/\i<=k then p.getD (i - 1) 0 else p.getD i 0:=fun i=>by
   have ex:k - (k - x)=x:=by lia
   rw[lV,getElem?_bubble (by lia) _ (by lia),ex]
   split
   .rw [<- lV]
   .split<;>rw[<- lV]
  rw[q,q]
  by_cases g:i=x
  .rw [AZ g,AX (by lia),AZ (by lia)]
   exact b _ (by lia) (by lia)
  .rw [AX g]
   by_cases B:j=x
   .rw [AZ B,AX (by lia)]
    exact a _ (by lia)
   .split<;>split
    .exact u _ _ (by lia) (by lia)
    .exact u _ _ (by lia) (by lia)
    .exact u _ _ (by lia) (by lia)
    .exact u _ _ (by lia) (by lia)
def sort_up(T:Tot n lt)(h:1<=n):Up lt (vJ lt (kas_sort n)) n:=by
 delta kas_sort
 rw[eW];refine el25 (Gn T (p:=List.toArray (List.range n)) (by exact .refl _) h) fun m q e o u h1 h2=>?_;rw[e]
 split
 .exact GM T _ _ _ (by lia) o (by grind)
 .have:m=n:=by lia
  subst this;exact u
end L2
namespace CL
open PySem PySem.Spec L2 PySem.W
open PyProof.Rows hiding St
def str_ext{y:Str}(h:x.cps.toList=y.cps.toList):x=y:=by
 cases x;cases y;simpa using h
theorem dC:∀x,HT.lexS x x=false
 |[]=>rfl
 |x::xs=>by rw[HT.lexS_cons,AZ rfl];exact dC xs
theorem rA:∀x y z,HT.lexS x y=true->HT.lexS y z=true->HT.lexS x z=true
 |[],[],_,h,_=>by cases h
 |[],_::_,[],_,h=>by cases h
 |[],_::_,_::_,_,_=>rfl
 |_::_,[],_,h,_=>by cases h
 |_::_,_::_,[],_,h=>by cases h
 |x::xs,y::ys,z::zs,h,g=>by
  rw[HT.lexS_cons] at h g ⊢
  by_cases q:x=y
  .subst q
   rw[AZ rfl] at h
   by_cases B:x=z
   .rw [AZ B] at g ⊢;exact rA xs ys zs h g
   .lia
  .grind
theorem JM:∀x y,x≠y->HT.lexS x y=true\/HT.lexS y x=true
 |[],[],h=>absurd rfl h
 |[],_::_,_=>.inl rfl
 |_::_,[],_=>.inr rfl
 |x::xs,y::ys,h=>by
  rw[HT.lexS_cons,HT.lexS_cons]
  by_cases e:x=y
  .subst e
   rw[AZ rfl,AZ rfl];exact JM xs ys fun z=>h (by rw[z])
  .by_cases c:x.cps.toList < y.cps.toList
   .lia
   .by_cases d:y.cps.toList < x.cps.toList
    .lia
    .exact absurd (str_ext (List.le_antisymm d c)) e
theorem ltP_ne(h:x.1≠y.1):ltP x y=HT.lexS x.1 y.1:=AX h
section
variable {cs:List (List Str×Int)}(nd:(cs.map (·.1)).Nodup){i j:Nat}(hi:i < cs.length)(hj:j < cs.length)
include nd hi hj
theorem ti_ne(h:i≠j):(cs.getD i ([],0)).1≠(cs.getD j ([],0)).1:=fun e=>by
 have e:(cs.map (·.1))[i]'(by simp_all)=(cs.map (·.1))[j]'(by rwa [AB]) :=by simp_all
 exact h (Yc nd e)
def bL:xH cs i j=true↔HT.lexS (cs.getD i ([],0)).1 (cs.getD j ([],0)).1=true :=by grind[xH,ltP,dC,ltP_ne,ti_ne]
end
def ti_tot(nd:(cs.map (·.1)).Nodup):Tot cs.length (xH cs) :=
 ⟨fun i j k hi hj q h g=>(bL nd hi q).2 (rA _ _ _ ((bL nd hi hj).1 h) ((bL nd hj q).1 g)),fun i _=>by
  delta xH ltP
  rw[AZ rfl]
  exact AM (Int.lt_irrefl _),fun i j hi hj h=>(JM _ _ (ti_ne nd hi hj h)).imp (bL nd hi hj).2 (bL nd hj hi).2⟩
def JL(nd:(cs.map (·.1)).Nodup):(vH cs).Pairwise fun x y=>HT.lexS x.1 y.1=true:=by
 rcases Cw cs.length with z | z
 .exact (List.length_eq_zero_iff.1 z)▸List.Pairwise.nil
 .have u:=sort_up (ti_tot nd) z
  have o:=vW (xH cs) cs.length z;have hs:=o.size;rw[List.pairwise_iff_getElem];intro i j hi hj g
  delta vH at hi hj ⊢
  rw[AB,A3,hs] at hi hj;have:=u i j g hj;rw[List.getElem_map,List.getElem_map];rw[lV,lV,Aq (by lia),Aq (by lia)] at this;have h1:(vJ (xH cs) (kas_sort cs.length))[i]'(by lia) < cs.length:=by have:=o.lt z i;rw[lV,Aq (by lia)] at this;exact this
  have h2:(vJ (xH cs) (kas_sort cs.length))[j]'(by lia) < cs.length:=by have:=o.lt z j;rw[lV,Aq (by lia)] at this;exact this
  exact(bL nd h1 h2).1 this
def ordT_eq(p:cs.Perm ds)(nd:(cs.map (·.1)).Nodup):vH cs=vH ds:=by
 refine List.Perm.eq_of_pairwise (fun a b _ _ h g=>?_) (JL nd) (JL ((p.map _).nodup_iff.1 nd)) ((zM cs).trans (p.trans (zM ds).symm));have:=rA _ _ _ h g;rw[dC] at this;cases this
section
variable {X:Cx}{e o:Expr}{es:List Expr}
@[irreducible] def aI:GC:=fun ts C Q=>match ts with
 |[x,.tup ys]=>∃(g:List Ty)(n:Ty),ys=g.map (fun T=>PV.ty (kJ T))/\tyP C x=some n/\Q (.bl (g.any (bZ n))) C
 |_=>False
theorem Jk{K}: ∀{g:List Ty}{vs},Reps K H vs (g.map fun T=>PV.ty (kJ T))->vs=g.map fun T=>V.ty (kJ T)
 |[],_,r=>by cases r;rfl
 |T::g,_,r=>by
  cases r with
  |cons h r=>cases h;rw[Jk r];rfl
def vE{K}:Cbi K (fun xs H Q=>∃x p g n,xs=[x,.ref p]/\H p=some (.tup (List.map (fun T=>V.ty (kJ T)) g))/\tyN H x=some n/\Q (.bl (g.any (bZ n))) H) aI:=fun xs ps H C Q R rs h q f=>by
 delta aI at q
 split at q
 .obtain ⟨g,n,rfl,D,q⟩:=q
  obtain⟨v,w,rfl,I,J⟩:=oG rs
  cases J with
  |tup B r =>
   rw[Jk r] at B;exact⟨v,_,g,n,rfl,B,lE I h D,f _ H _ C q (.bl _) h Fw.refl⟩
 .exact q.elim
def vU(g:List Ty)(B:tyP C x=some n)(q:Q (.bl (g.any (bZ n))) C):aI [x,.tup (g.map fun T=>PV.ty (kJ T))] C Q :=by grind[aI]
@[irreducible] def eI(g:TCE):TCE:=fun q C Q=>g q C fun x C1=>match x with
 |.str z=>z.length<=1000000/\∀y:Str,y.length<=3 * z.length->Q (.str y) C1
 |_=>False
def Gz{apos cpos}(O:CE X o B)(I:attributeBase o "upper" X.env (eval o X.env)=eval o X.env:=by rfl)(J:(apos.endLine==cpos.line)=true:=by rfl):
  CE X (.Call (.Attribute o "upper" apos) [] [] cpos) (eI B):=⟨JE.weak (ZE F.plainAttrs_str F.slot_str_upper F.type_str_upper Ye O.h I J) fun σ H Q Y=>tX Y fun Z C R s h q f=> by
 delta eI at q
 exact⟨Z,C,_,s,h,q,fun x H1 px C1 g U h1 D=>by
  split at g
  .cases U
   exact⟨rfl,_,rfl,rfl,g.1,fun y S=>f _ H1 _ C1 (g.2 y S) (.str y) h1 D⟩
  .exact g.elim⟩⟩
def upper_s(B:g[i]?=some (some (.str z)))(h:z.length<=1000000)(q:∀y:Str,y.length<=3 * z.length->Q (.str y) C):eI (bY i) g C Q :=by simp_all[eI,bY]
end
end CL
namespace L2
open PySem PySem.Spec PyProof.Rows
def op_isB: OpR X (compareOp .Is) (fun x y H Q=>∃a b,x=.bl a/\y=.bl b/\Q (.bl (a==b)) H):=by
 intro pins s σ H x y v u Q I g B h;obtain⟨a,b,rfl,rfl,q⟩:=h;cases g;cases B;exact AC (eX I q (by lia))
end L2
namespace CL
open PySem PySem.Spec L2 PySem.W
open PyProof.Rows hiding St
@[irreducible] def XH:R2C:=fun x y C Q=>match x,y with
 |.str i,.str j=>Q (.bl (!(!(Builtin.Str.occurrences j i 0 j.length 1).isEmpty))) C
 |_,_=>False
def ZX{K}:Cop K (fun x y H Q=>∃i j,x=.str i/\y=.str j/\Q (.bl (!(!(Builtin.Str.occurrences j i 0 j.length 1).isEmpty))) H) XH:=fun x y D I H C Q R g B h q f=>by
 delta XH at q
 split at q
 .cases g;cases B
  exact⟨_,_,rfl,rfl,f _ H _ C q (.bl _) h Fw.refl⟩
 .exact q.elim
def ninT_s(q:Q (.bl (!(!(Builtin.Str.occurrences j i 0 j.length 1).isEmpty))) C):XH (.str i) (.str j) C Q:=by
 delta XH
 exact q
@[irreducible] def iI:R2C:=fun x y C Q=>match x,y with
 |.ref a,.ref b=>match C a,C b with
  |some (.lst xs),some (.lst [])=>Q (.bl xs.isEmpty) C
  |_,_=>False
 |_,_=>False
def Vo{K}:Cop K (fun x y H Q=>∃a b xs,x=.ref a/\y=.ref b/\SqL K H a xs/\SqL K H b []/\Q (.bl xs.isEmpty) H) iI:=fun x y Y Z H C Q R S U h q f=>by
 delta iI at q
 split at q
 .split at q
  .next xs g B =>
   refine zX (h _ _ g) fun vs J rv=>zX (h _ _ B) fun ab I O=>?_;cases S;cases U;cases O;refine⟨_,_,vs,rfl,rfl,SqL.of J,SqL.of I,?_⟩
   have D:vs.isEmpty=xs.isEmpty:=by
    have:=rv.len;cases vs<;>cases xs<;>simp_all
   exact D▸f _ H _ C q (.bl _) h Fw.refl
  .exact q.elim
 .exact q.elim
def eqNil_s(h:C p=some (.lst xs))(h2:C r=some (.lst []))(q:Q (.bl xs.isEmpty) C):iI (.ref p) (.ref r) C Q :=by simp_all[iI]
@[irreducible] def cIsB:R2C:=fun x y C Q=>match x,y with
 |.bl a,.bl b=>Q (.bl (a==b)) C
 |_,_=>False
def cop_isB{K}:Cop K (fun x y H Q=>∃a b,x=.bl a/\y=.bl b/\Q (.bl (a==b)) H) cIsB:=fun x y D I H C Q R g B h q f=>by
 delta cIsB at q
 split at q
 .cases g;cases B
  exact⟨_,_,rfl,rfl,f _ H _ C q (.bl _) h Fw.refl⟩
 .exact q.elim
def isB_s(q:Q (.bl (a==b)) C):cIsB (.bl a) (.bl b) C Q:=by
 delta cIsB
 exact q
end CL
namespace K11
open PySem L2
abbrev U0:List Str:=["_law_tape_here","_law_kit","_law_turns","_law_deep"]
abbrev U1:List Str:=["_law_lines_here","_law_pad","_law_turns","_law_seen"]
abbrev U2:List Str:=["_law_line_here","_law_spot","_law_pad","_law_turns","_law_number_here","_law_hands_here","_law_event","_law_rank","_law_last","_law_changes","_law_told","_law_row"]
abbrev U3:List Str:=["_law_tape_here","_law_kit","_law_turns"]
abbrev U4:List Str:=["_law_tape_here","_law_kit","_law_deep"]
abbrev U5:List Str:=["_law_tape_here","_law_thing"]
abbrev U6:List Str:=["_law_rule","_law_pad","_law_turns"]
abbrev U7:List Str:=["_law_pairs_here","_law_pad","_law_turns"]
abbrev U8:List Str:=["_law_line_here","_law_spot","_law_pad","_law_turns"]
abbrev U9:List Str:=["_law_part","_law_thing"]
abbrev U10:List Str:=["_law_part","_law_answers_here","_law_pad","_law_row","_law_works"]
abbrev U11:List Str:=["_law_tape_here"]
abbrev U12:List Str:=["_law_tape_here","_law_many"]
abbrev U13:List Str:=["_law_one","_law_other_here"]
abbrev U14:List Str:=["_law_tape_here","_law_kit","_law_turns","_law_most"]
abbrev U15:List Str:=["_law_tape_here","_law_kit","_law_turns","_law_name"]
abbrev U16:List Str:=["_law_tape_here","_law_kit","_law_turns","_law_way"]
abbrev U17:List Str:=["_law_tape_here","_law_part","_law_piece_here"]
def top(i:Nat):Stmt:=PySem.Challenge.pw_viewwood_k11_bent_pieces.main.body.getD i (.Pass ⟨0,0,0,0⟩)
def tab:List CL.Row:=[
 ⟨none,"is_number","is_number",(top 4),["thing"],["thing"]⟩,
 ⟨none,"is_name","is_name",(top 5),["thing"],["thing"]⟩,
 ⟨none,"cut","cut",(top 6),["number"],["number"]⟩,
 ⟨none,"alike","alike",(top 7),["one","other"],["one","other","pairs","pair","inner"]⟩,
 ⟨none,"pairs_within","pairs_within",(top 8),["one","other"],["one","other","kind"]⟩,
 ⟨none,"dict_pairs","dict_pairs",(top 9),["one","other"],["one","other","own","key","pairs"]⟩,
 ⟨none,"kind_of","kind_of",(top 10),["thing"],["thing"]⟩,
 ⟨none,"number_of","number_of",(top 13),["reckoning","answers","turns","asked"],["reckoning","answers","turns","asked","word","question","first","taken","second"]⟩,
 ⟨none,"joined","joined",(top 14),["word","first","second"],["word","first","second"]⟩,
 ⟨none,"drawn","drawn",(top 18),["part","answers"],["part","answers","drawer","row","works"]⟩,
 ⟨none,"lets_piece","lets_piece",(top 19),["part","piece"],["part","piece"]⟩,
 ⟨none,"reads_fit","reads_fit",(top 20),["thing"],["thing"]⟩,
 ⟨none,"read_fits","read_fits",(top 21),["thing"],["thing","question"]⟩,
 ⟨none,"_law_tape","_law_tape",(top 23),["_law_script"],["_law_script"]⟩,
 ⟨none,"_law_draw","_law_draw",(top 24),U12,["_law_tape_here","_law_many","_law_script","_law_digit","_law_cell","_law_mixed"]⟩,
 ⟨none,"_law_names","_law_names",(top 25),U12,["_law_tape_here","_law_many","_law_pool","_law_start","_law_stride"]⟩,
 ⟨none,"_law_number","_law_number",(top 26),U11,U11⟩,
 ⟨none,"_law_leaf","_law_leaf",(top 27),U3,U16⟩,
 ⟨none,"_law_sum","_law_sum",(top 28),U0,["_law_tape_here","_law_kit","_law_turns","_law_deep","_law_way","_law_word","_law_many"]⟩,
 ⟨none,"_law_key","_law_key",(top 29),U3,U16⟩,
 ⟨none,"_law_pairs","_law_pairs",(top 30),U14,["_law_tape_here","_law_kit","_law_turns","_law_most","_law_names_here"]⟩,
 ⟨none,"_law_hands","_law_hands",(top 31),U3,["_law_tape_here","_law_kit","_law_turns","_law_hands_here","_law_event","_law_changes","_law_k","_law_box","_law_word"]⟩,
 ⟨none,"_law_plain","_law_plain",(top 32),U0,["_law_tape_here","_law_kit","_law_turns","_law_deep","_law_key_here","_law_tag","_law_sets","_law_hands_here","_law_lines_here"]⟩,
 ⟨none,"_law_part_line","_law_part_line",(top 33),U15,["_law_tape_here","_law_kit","_law_turns","_law_name","_law_key_here","_law_names_here"]⟩,
 ⟨none,"_law_each","_law_each",(top 34),U4,["_law_tape_here","_law_kit","_law_deep","_law_name","_law_number_here","_law_spare","_law_lines_here","_law_k"]⟩,
 ⟨none,"_law_line","_law_line",(top 35),U0,["_law_tape_here","_law_kit","_law_turns","_law_deep","_law_way","_law_name","_law_key_here","_law_number_here","_law_lines_here"]⟩,
 ⟨none,"_law_lines","_law_lines",(top 36),U0,["_law_tape_here","_law_kit","_law_turns","_law_deep","_law_lines_here","_law_k"]⟩,
 ⟨none,"_law_one_part","_law_one_part",(top 37),U11,["_law_tape_here","_law_boxes","_law_kit","_law_lines_here","_law_works"]⟩,
 ⟨none,"_law_answers","_law_answers",(top 38),["_law_tape_here","_law_part"],["_law_tape_here","_law_part","_law_answers_here","_law_sort","_law_name","_law_number_here"]⟩,
 ⟨none,"_law_value","_law_value",(top 39),U6,["_law_rule","_law_pad","_law_turns","_law_word","_law_number_here","_law_first","_law_second","_law_found"]⟩,
 ⟨none,"_law_valued","_law_valued",(top 40),U7,U7⟩,
 ⟨none,"_law_want","_law_want",(top 41),U8,U2⟩,
 ⟨none,"_law_wants","_law_wants",(top 42),U1,["_law_lines_here","_law_pad","_law_turns","_law_seen","_law_row","_law_line_here","_law_number_here","_law_k","_law_inner","_law_key_here","_law_spot"]⟩,
 ⟨none,"_law_piece","_law_piece",(top 43),["_law_part","_law_answers_here"],U10⟩,
 ⟨none,"_law_kind","_law_kind",(top 44),["_law_thing"],["_law_thing","_law_sorts"]⟩,
 ⟨none,"_law_alike","_law_alike",(top 45),U13,["_law_one","_law_other_here","_law_sort","_law_key_here","_law_twins"]⟩,
 ⟨none,"_law_odd","_law_odd",(top 46),U11,["_law_tape_here","_law_some"]⟩,
 ⟨none,"_law_other","_law_other",(top 47),U5,["_law_tape_here","_law_thing","_law_way","_law_some","_law_at"]⟩,
 ⟨none,"_law_bent","_law_bent",(top 48),U5,["_law_tape_here","_law_thing","_law_some","_law_at"]⟩,
 ⟨none,"_law_is_name","_law_is_name",(top 49),["_law_thing"],["_law_thing"]⟩,
 ⟨none,"_law_is_number","_law_is_number",(top 50),["_law_thing"],["_law_thing"]⟩,
 ⟨none,"_law_is_read","_law_is_read",(top 51),["_law_thing"],["_law_thing"]⟩,
 ⟨none,"_law_let_by","_law_let_by",(top 52),U9,U9⟩,
 ⟨none,"_law_reads_bent","_law_reads_bent",(top 53),["_law_tape_here","_law_reads"],["_law_tape_here","_law_reads","_law_some","_law_at","_law_way"]⟩,
 ⟨none,"_law_piece_bent","_law_piece_bent",(top 54),U17,["_law_tape_here","_law_part","_law_piece_here","_law_way"]⟩,
 ⟨none,"_law_right","_law_right",(top 55),U9,U9⟩,
 ⟨none,"law","law",(top 56),["_law_script"],["_law_script","_law_tape_here","_law_turn","_law_some","_law_piece_here"]⟩,
 ⟨some "Drawer","__init__","Drawer.__init__",(dW (top 17) 0),["self","answers"],["self","answers"]⟩,
 ⟨some "Drawer","number","Drawer.number",(dW (top 17) 1),["self","reckoning","turns"],["self","reckoning","turns"]⟩,
 ⟨some "Drawer","numbered","Drawer.numbered",(dW (top 17) 2),["self","pairs","turns"],["self","pairs","turns"]⟩,
 ⟨some "Drawer","row","Drawer.row",(dW (top 17) 3),["self","lines","turns"],["self","lines","turns","row"]⟩,
 ⟨some "Drawer","bring","Drawer.bring",(dW (top 17) 4),["self","lines","turns","row","counts"],["self","lines","turns","row","counts","line","taken"]⟩,
 ⟨some "Drawer","bring_each","Drawer.bring_each",(dW (top 17) 5),["self","line","turns","row","counts"],["self","line","turns","row","counts","count","turn","inner"]⟩,
 ⟨some "Drawer","want","Drawer.want",(dW (top 17) 6),["self","line","turns","counts"],["self","line","turns","counts","spot","pairs","hands"]⟩,
 ⟨some "Drawer","spot","Drawer.spot",(dW (top 17) 7),["self","key","turns","counts"],["self","key","turns","counts","told","nth"]⟩,
 ⟨some "Drawer","hand","Drawer.hand",(dW (top 17) 8),["self","hand","turns"],["self","hand","turns","changes"]⟩]
set_option genInjectivity false in
structure Adr where
 f:Nat->Addr
 d:Nat->FuncData
 t_BOUND:Tok
 Kv:Tok
 lN:Tok
 ASKING:Addr
 nE:Tok
 Drawer:Addr
structure Txt(P:Program)(w:World)(K:De)(mg:Str->Option Value)(a:Adr):Prop where
 F:∀(i:Nat){k:Option Str}{nm q:Str}{st:Stmt}{ps N:List Str},tab[i]?=some ⟨k,nm,q,st,ps,N⟩->CL.FI K mg k nm q st ps N (a.f i) (a.d i)
 jI:mg "BOUND" = some (.int 1000000000 a.t_BOUND)
 YW:mg "LETTERS" = some (.str "abcdefghijklmnopqrstuvwxyz" a.Kv)
 aS:mg "LONGEST_NAME" = some (.int 8 a.lN)
 J3:mg "ASKING" = some (.ref a.ASKING)
 JC:∀H:Hp,SqT K H a.ASKING [.str "take",.str "box",.str "down"]
 Xl:mg "MOST_TURNS" = some (.int 8 a.nE)
 z_abs:mg "abs" = none
 z_all:mg "all" = none
 uN:mg "bool" = none
 yN:mg "dict" = none
 rM:mg "int" = none
 mQ:mg "isinstance" = none
 sZ:mg "len" = none
 jB:mg "list" = none
 gT:mg "max" = none
 Jh:mg "min" = none
 pW:mg "range" = none
 pF:mg "sorted" = none
 wN:mg "str" = none
 xX:mg "tuple" = none
 z_zip:mg "zip" = none
 kZ:mg "Drawer" = some (.ref a.Drawer)
 dX:Cls K a.Drawer
 K7:Mk K a.Drawer (a.f 47)
 rG:NoAttr K a.Drawer "answers"
 pY:NoAttr K a.Drawer "asked"
def tab_ok:CL.AllR CL.RB tab:=by
 unfold tab
 repeat refine⟨⟨⟨rfl,rfl,rfl,by decide +kernel,rfl,by decide +kernel,by decide +kernel⟩,fun _ _ _ _ _ _=>by first | (refine CL.args1 ?_;exact fun _=>rfl) | (refine CL.args2 ?_;exact fun _ _=>rfl) | (refine CL.args3 ?_;exact fun _ _ _=>rfl) | (refine CL.args4 ?_;exact fun _ _ _ _=>rfl) | (refine CL.args5 ?_;exact fun _ _ _ _ _=>rfl)⟩,?_⟩
 exact trivial
def txt_mk{P:Program}{w:World}{K:De}{h:Heap}{mg:Str->Option Value}(X:K.In h)(G:h.Ns mainGlobals mg){B g:Addr}{D I J av aw ax O:Tok}{ak:Nat}(ao:CL.AllR (CL.FH K) tab)(af:PySem.W.nsIn K mainGlobals "BOUND" = some (some (.int 1000000000 D)))(ag:PySem.W.nsIn K mainGlobals "LETTERS" = some (some (.str "abcdefghijklmnopqrstuvwxyz" I)))(ah:PySem.W.nsIn K mainGlobals "LONGEST_NAME" = some (some (.int 8 J)))(ai:PySem.W.nsIn K mainGlobals "ASKING" = some (some (.ref B)))(au:K.lookup B=some { cls:=.type "tuple",data:=.seq #[.str "take" av,.str "box" aw,.str "down" ax] ak })(aj:PySem.W.nsIn K mainGlobals "MOST_TURNS" = some (some (.int 8 O)))(z0:PySem.W.nsIn K mainGlobals "abs" = some none)(z1:PySem.W.nsIn K mainGlobals "all" = some none)(z2:PySem.W.nsIn K mainGlobals "bool" = some none)(z3:PySem.W.nsIn K mainGlobals "dict" = some none)(z4:PySem.W.nsIn K mainGlobals "int" = some none)(z5:PySem.W.nsIn K mainGlobals "isinstance" = some none)(z6:PySem.W.nsIn K mainGlobals "len" = some none)(z7:PySem.W.nsIn K mainGlobals "list" = some none)(z8:PySem.W.nsIn K mainGlobals "max" = some none)(z9:PySem.W.nsIn K mainGlobals "min" = some none)(ay:PySem.W.nsIn K mainGlobals "range" = some none)(az:PySem.W.nsIn K mainGlobals "sorted" = some none)(a0:PySem.W.nsIn K mainGlobals "str" = some none)(a3:PySem.W.nsIn K mainGlobals "tuple" = some none)(a4:PySem.W.nsIn K mainGlobals "zip" = some none)(q:PySem.W.nsIn K mainGlobals "Drawer" = some (some (.ref g)))(S:PySem.W.plainGet K g Str.empty=true)(U:PySem.W.hasDictIn K g=true)(Y:PySem.W.plainOver K g=true)(Z:PySem.W.findIn K (.ref g) "__setattr__" = some (some (.builtin "object.__setattr__")))(ab:PySem.W.makesIn K g=true)(ae:PySem.W.keepIn K (.ref g)=true)(aq:PySem.W.findIn K (.ref g) "answers" = some none)(ar:PySem.W.findIn K (.ref g) "asked" = some none): ∃a:Adr,Txt P w K mg a:=by
 obtain⟨f,d,F⟩:=CL.fi_all X G ao tab_ok
 exact⟨⟨f,d,D,I,J,B,O,g⟩,F,
  Bf X G af,
  Bf X G ag,
  Bf X G ah,
  Bf X G ai,
  fun _=>.inr ⟨_,_,_,au,rfl,rfl,y0 3 rfl,(.cons ⟨_,rfl⟩ (.cons ⟨_,rfl⟩ (.cons ⟨_,rfl⟩ .nil)))⟩,
  Bf X G aj,
  As X G z0,
  As X G z1,
  As X G z2,
  As X G z3,
  As X G z4,
  As X G z5,
  As X G z6,
  As X G z7,
  As X G z8,
  As X G z9,
  As X G ay,
  As X G az,
  As X G a0,
  As X G a3,
  As X G a4,
  Bf X G q,
  ⟨S,U,Y,Z⟩,
  ⟨ab,((F 47 rfl).M _ _ rfl (Bf X G q)).1,((F 47 rfl).M _ _ rfl (Bf X G q)).2,ae⟩,
  aq,
  ar⟩
structure Wd where
 P:Program
 w:World
 K:De
 mg:Str->Option Value
 base:Heap
abbrev Tx(W:Wd)(a:Adr):Prop:=Txt W.P W.w W.K W.mg a
abbrev Ok(W:Wd)(a:Adr)(r i:Nat)(ps:List Str)(G:CL.GC):Prop:=FnOk W.P W.w W.K W.mg W.base CX0 r (a.f i) (a.d i) ps (CL.spC W.K G)
end K11
namespace K11
open PySem L2 CL
section
variable {W:Wd}{a:Adr}
structure Tp(C:CH)(t:Addr)(ns:List Int):Prop where
 at_:∃a b c:Int,C t=some (.lst [.fz (ns.map PV.int),.int a,.int b,.int c])/\0<=a/\0<=b/\0<=c
 len:ns.length<=63
def Ex(t:Addr)(C C':CH):Prop:=∀b o,b≠t->C b=some o->C' b=some o
def Ex.refl: Ex t C C:=fun _ _ _ h=>h
theorem Ex.trans(h:Ex t C C1)(h':Ex t C1 C2):Ex t C C2:=fun b o n e=>h' b o n (h b o n e)
theorem Ex.new(g:C p=none)o:Ex t C (gQ C p o):=fun b u _ e=>by
 rw[wQ (fun z=>by subst z;rw[g] at e;cases e)];exact e
inductive gTape(ts:List PV)(C:CH)(Q:K1):Prop
 |mk(ns:List Int)(z0:ts=[.fz (ns.map PV.int)])(z1:ns.length<=63)(z2:∀t C',C t=none->Ex t C C'->Tp C' t ns->Q (.ref t) C')
def ok_tape(T:Tx W a):Ok W a 1 13 ["_law_script"] gTape:=by
 refine(T.F 13 rfl).ok (fun ts C R h=>?_) fun D A J s H E I=>⟨_,(kQ (yQ (mX (qQ (cv 0) (qQ zQ (qQ zQ (ca1 zQ))))))),?_⟩
 .obtain ⟨ns,rfl,_⟩:=h;rfl
 rintro ts C R ⟨ns,rfl,B,q⟩;show 4<=sizeLine/\∀p,C p=none->R (.ref p) (gQ C p (.lst [.fz (ns.map PV.int),.int 0,.int 0,.int 0]));exact⟨by decide,fun p g=>q p _ g (Ex.new g _) ⟨⟨0,0,0,jQ,by decide,by decide,by decide⟩,B⟩⟩
def Ex.tape o:Ex t C (gQ C t o):=fun b u n e=>by rwa [wQ n]
def GN{ns:List Int}(h0:0<=k)(h1:k < ((ns.map PV.int).length:Int)):∃v,atI (ns.map PV.int) k=some (.int v):=by
 delta atI ixN
 rw[AZ h0,AZ h1];rw[AB] at h1;show ∃v,(ns.map PV.int)[k.toNat]?=some (.int v);rw[A0,AO (by lia)];exact⟨_,rfl⟩
inductive Y0(ts:List PV)(C:CH)(Q:K1):Prop
 |mk(t:Addr)(m:Int)(ns:List Int)(z0:ts=[.ref t,.int m])(z1:Tp C t ns)(z2:0 < m)(z3:m < 4611686018427387904)(z4:∀(v:Int)(C':CH),0<=v->v < m->Tp C' t ns->Ex t C C'->Q (.int v) C')
def eZ(T:Tx W a):Ok W a 1 14 U12 Y0:=by
 have S:=(T.F 14 rfl).s
 refine(T.F 14 rfl).ok (fun ts C R h=>?_) fun ag A ah s H E hr=>⟨_,(xQ (cs1 2 S.nd (cx (cv 0) zQ))
  (xQ (kP (eQ uX gX (cx (cv 0) zQ) zQ) (bM (cv 0) zQ))
  (xQ (sQ (cw_pt (cw_and (ct2 bX iQ (cx (cv 0) zQ) zQ) (cw_and1 (ct2 rY mV (cx (cv 0) zQ) (cln T.sZ (cv 2)))))) (xQ (kP (eQ QN Xy (cQ GG cbi_abs rfl T.z_abs rfl (ca1 (cx (cv 2) (cx (cv 0) zQ)))) (eQ iY aV zQ zQ)) (bM (cv 0) zQ))
  (kQ (kP (eQ uX gX (cx (cv 0) zQ) zQ) (bM (cv 0) zQ)))) pQ)
  (xQ (sQ (ct2 wV sJ (cx (cv 0) zQ) zQ) (xQ (cs1 3 S.nd (eQ kY bV (cx (cv 0) zQ) (cv 1)))
  (xQ (kP (eQ QN Xy (cx (cv 0) zQ) (cv 1)) (bM (cv 0) zQ))
  (kQ (yQ (cv 3))))) pQ)
  (xQ (cs1 4 S.nd zQ)
  (xQ (sQ (ct2 wV sJ (cln T.sZ (cv 2)) zQ) (kQ (cs1 4 S.nd (cx (cv 2) (eQ kY bV (cx (cv 0) zQ) (cln T.sZ (cv 2)))))) pQ)
  (xQ (cs1 5 S.nd (eQ kY bV (eQ uX gX (eQ uX gX (eQ qF bU (eQ kY bV (cv 4) zQ) zQ) (eQ qF bU (cx (cv 0) zQ) zQ)) zQ) zQ))
  (xQ (cs1 5 S.nd (eQ kY bV (eQ qF bU (cv 5) (eQ uX gX (cv 5) zQ)) zQ))
  (kQ (yQ (eQ kY bV (eQ kY bV (eQ qF bU (cv 5) zQ) zQ) (cv 1)))))))))))),?_⟩
 .obtain ⟨t,m,ns,rfl,_⟩:=h;rfl
 rintro ts C R ⟨t,m,ns,rfl,⟨⟨x,y,z,h,hx,hy,U⟩,Y⟩,D,m1,af⟩;refine gJ h rfl (gJ h rfl (yK (KB h rfl ?_)));dsimp only;have h1:(gQ C t (.lst [.fz (ns.map PV.int),.int (x+1),.int y,.int z])) t=_:=jQ;have g:Ex t C (gQ C t (.lst [.fz (ns.map PV.int),.int (x+1),.int y,.int z])):=Ex.tape _;refine qX (fun I C'=>I=[some (.ref t),some (.int m),some (.fz (ns.map PV.int)),none,none,none]/\∃y z:Int,C' t=some (.lst [.fz (ns.map PV.int),.int (x+1),.int y,.int z])/\0<=y/\0<=z/\Ex t C C') (fun L q=>?_) ?_
 .refine gJ h1 rfl (vX (kX _ _) (zZ (fun O=>?_) fun O=>?_))
  .refine gJ h1 rfl (Ym (i_i (zZ (fun B=>?_) fun B=>?_)))
   .obtain ⟨c,J⟩:=GN U (Aa B)
    refine gJ h1 rfl (ix_f J ⟨⟨by decide,by decide,by decide⟩,⟨by decide,by decide⟩,?_⟩);refine KB h1 rfl (gJ jQ rfl (yK (KB jQ rfl (q _ _ ⟨rfl,_,_,jQ,?_,by lia,(g.trans (Ex.tape _)).trans (Ex.tape _)⟩))));refine Int.ediv_nonneg ?_ (by decide)
    split<;>lia
   .exact aQ (q _ _ ⟨rfl,y,z,h1,hy,U,g⟩)
  .exact gW rfl (aQ (q _ _ ⟨rfl,y,z,h1,hy,U,g⟩))
 clear h1 g;rintro I C1 ⟨rfl,y',z',h1,ab,ae,g⟩;refine oX (gJ h1 rfl (i_i (zZ (fun O=>?_) fun O=>?_)))
 .refine gJ h1 rfl ⟨D,gJ h1 rfl ⟨⟨D,by lia⟩,?_⟩⟩
  exact KB h1 rfl (af _ _ (CV _ (by lia)) (Bw _ D) ⟨⟨_,_,_,jQ,by lia,Int.ediv_nonneg ab (by lia),ae⟩,Y⟩ (g.trans (Ex.tape _)))
 .refine aQ (uQ (c_i ?_))
  try dsimp only
  refine qX (fun I C'=>C'=C1/\∃v:Int,I=[some (.ref t),some (.int m),some (.fz (ns.map PV.int)),none,some (.int v),none]) (fun L q=>?_) ?_
  .refine Ym (i_i (zZ (fun B=>?_) fun B=>?_))
   .have Z:(0:Int) < ((ns.map PV.int).length:Int):=Aa B
    obtain⟨c,J⟩:=GN (CV (x+1) (b:=((ns.map PV.int).length:Int)) (by lia)) (Bw (x+1) Z);exact gJ h1 rfl (Ym ⟨Z,ix_f J (q _ _ ⟨rfl,_,rfl⟩)⟩)
   .exact aQ (q _ _ ⟨rfl,0,rfl⟩)
  .rintro I C2 ⟨rfl,v,rfl⟩
   refine uQ ⟨(by show(0:Int) < _;decide),?_⟩;refine⟨.inr ⟨by decide,by decide⟩,?_⟩;refine gJ h1 rfl ⟨.inr ⟨by decide,by decide⟩,?_⟩;refine yK (yK ⟨(by show(0:Int) < _;decide),?_⟩);have b0:=CV (v % 2147483647 * 48271+(x+1) * 7919+12345) (b:=2147483629) (by decide);have b1:=Bw (v % 2147483647 * 48271+(x+1) * 7919+12345) (b:=2147483629) (by decide);refine uQ (yK ⟨.inl ⟨by lia,by lia⟩,?_⟩)
   refine⟨(by show(0:Int) < _;decide),?_⟩;refine⟨.inr ⟨by decide,by decide⟩,?_⟩;refine⟨(by show(0:Int) < _;decide),?_⟩;exact⟨D,af _ _ (CV _ (by lia)) (Bw _ D) ⟨⟨_,_,_,h1,by lia,ab,ae⟩,Y⟩ g⟩
def Tp.ne(h:Tp C t ns)(g:C p=none):p≠t:=fun e=>by
 obtain⟨⟨x,y,z,h,_⟩,_⟩:=h;rw[<- e,g] at h;cases h
def Tp.new(h:Tp C t ns)(g:C p=none)o:Tp (gQ C p o) t ns:=by
 have n:=h.ne g;obtain⟨⟨x,y,z,h,q⟩,l⟩:=h;exact⟨⟨x,y,z,(wQ (Ne.symm n)).trans h,q⟩,l⟩
def POOL:List Str:=["a","ab","abc","b","ba","box","end","give","part","plain","turn","abcdefgh"]
def jG{α:Type}{f:α->PV}{ss:List α}d(h0:0<=k)(h1:k < (ss.length:Int)):atI (ss.map f) k=some (f (ss.getD k.toNat d)):=by
 delta atI ixN
 rw[AZ h0,AZ (by simp_all)];show(ss.map f)[k.toNat]?=_;rw[A0,Bh,AO (by lia)]
 rfl
def Zp(v c:Int)(i:Nat):Str:=POOL.getD ((v+c * (i:Int)) % 12).toNat ""
def eV(v c:Int)(m:Nat):List Str:=(List.range m).map (Zp v c)
def VB:∀v∈List.range 12,∀c∈[1,5,7,11],(eV v (c:Nat) 12).Nodup:=by decide +kernel
def QX(D:0<=v)(J:v < 12)(q:c=1\/c=5\/c=7\/c=11)(B:m<=12):(eV v c m).Nodup:=by
 have g:(eV v c 12).Nodup:=by
  have:=VB v.toNat (BN.2 (by lia));have I:=Int.toNat_of_nonneg D
  rcases q with rfl | rfl | rfl | rfl
  .grind
  .grind
  .grind
  .grind
 have e:eV v c m=(eV v c 12).take m:=by
  delta eV
  rw[<- List.map_take,List.take_range,Nat.min_eq_left B]
 exact e▸g.sublist (List.take_sublist _ _)
def Gp f(I:CH->Prop)m(h:∀k C D,k < m->I C->(∀C',I C'->D (f k) C')->c (some (.int k )::O) C D)(q:∀p C',I C'->C' p=none->Q (.ref p) (gQ C' p (.lst ((List.range m).map f)))):∀n C,n<=m->m<=1000->I C->cJ xT c O Q ((List.range m).drop n |>.map fun k=>PV.int (k:Nat)) ((List.range n).map f) C:=by
 suffices ∀j n C,n+j=m->m<=1000->I C->cJ xT c O Q ((List.range m).drop n |>.map fun k=>PV.int (k:Nat)) ((List.range n).map f) C by
  intro n C J B g;exact this (m - n) n C (by lia) B g
 intro j
 induction j with
 |zero =>
  intro n C J B g;have e:n=m:=by lia
  subst e;rw[List.drop_of_length_le (Ak▸AH _)];exact mR fun p U=>q p C g U
 |succ j Y =>
  intro n C J B g;rw[A4 (by grind),BA,List.getElem_range];refine yP (h n C _ (by lia) g fun C' S=>⟨?_,?_⟩)
  .rw [AB,Ak]
   exact AQ (show n < 1001 by lia) (by decide)
  .have e:(List.range n).map f++[f n]=(List.range (n+1)).map f:=by rw[DV,Ac];rfl
   exact e▸Y (n+1) C' (by lia) B S
def gD(c:Nat):Bool:=!(Builtin.Str.occurrences ("abcdefghijklmnopqrstuvwxyz" : Str) ⟨#[c]⟩ 0 ("abcdefghijklmnopqrstuvwxyz" : Str).length 1).isEmpty
def qB(z:Str):Bool:=(decide ((1:Int)<=(z.length:Nat))&&decide (((z.length:Nat):Int)<=8))&&z.cps.toList.all gD
def pool_ok:POOL.all qB=true:=by decide +kernel
def nm8(h:qB z=true):z.length<=8 :=by grind[qB]
def Yd v c n:∀s∈eV v c n,qB s=true:=by
 intro s hs;obtain⟨i,_,rfl⟩:=AU.1 hs
 delta Zp
 have g:((v+c * (i:Int)) % 12).toNat < POOL.length:=by
  have h1:=CV (v+c * (i:Int)) (show(12:Int)≠0 by decide);have h2:=Bw (v+c * (i:Int)) (show(0:Int) < 12 by decide);show _ < 12
  lia
 exact Bh▸(AO g)▸Bs.1 pool_ok _ (BH g)
inductive YU(ts:List PV)(C:CH)(Q:K1):Prop
 |mk(t:Addr)(m:Int)(ns:List Int)(z0:ts=[.ref t,.int m])(z1:Tp C t ns)(z2:0<=m)(z3:m<=12)(z4:∀(p:Addr)(ss:List Str)(C':CH),C' p=some (.lst (ss.map PV.str))->C p=none->p≠t->ss.length=m.toNat->(ss.Nodup/\∀s∈ss,qB s=true)->Tp C' t ns->Ex t C C'->Q (.ref p) C')
def xD(T:Tx W a):Ok W a 2 15 U12 YU:=by
 have S:=(T.F 15 rfl).s;have Z:=eZ T
 refine(T.F 15 rfl).ok (fun ts C R h=>?_) fun ak A aq s H E hr=>⟨_,(xQ (cs1 2 S.nd (mX (qQ vQ (qQ vQ (qQ vQ (qQ vQ (qQ vQ (qQ vQ (qQ vQ (qQ vQ (qQ vQ (qQ vQ (qQ vQ (ca1 vQ))))))))))))))
  (xQ (cs1 3 S.nd (cf (T.F 14 rfl) Z hr (qQ (cv 0) (ca1 zQ))))
  (xQ (cs1 4 S.nd (cx (mX (qQ zQ (qQ zQ (qQ zQ (ca1 zQ))))) (cf (T.F 14 rfl) Z hr (qQ (cv 0) (ca1 zQ)))))
  (kQ (yQ (hW rfl (S.c (by decide +kernel)) (S.k rfl rfl rfl (by decide +kernel)) (Z1 rfl T.pW (ca1 (cv 1))) (fun _ _ _ _ _=>wK) (fun _ _ _ _ _=>(cx (cv 3) (eQ kY bV (eQ uX gX (cv 4) (eQ qF bU (cv 5) (cv 0))) zQ))))))))),?_⟩
 .obtain ⟨t,m,ns,rfl,_⟩:=h;rfl
 rintro ts C R ⟨t,m,ns,rfl,O,ao,m1,ah⟩;refine⟨by decide,fun p B=>?_⟩;refine⟨t,12,ns,rfl,O.new B _,by decide,by decide,fun v C1 ai aj Y e1=>?_⟩;refine⟨by decide,fun p2 U=>⟨t,4,ns,rfl,Y.new U _,by decide,by decide,fun k C2 k0 k1 I e2=>?_⟩⟩;have ag:=e1 p _ (O.ne B) jQ;have ae:=(Ex.new U _).trans e2;have m2:=e2 p2 _ (Y.ne U) jQ;have J:=jG (f:=PV.int) (ss:=[1,5,7,11]) 0 k0 k1
 have q:[1,5,7,11].getD k.toNat (0:Int)=1\/[1,5,7,11].getD k.toNat (0:Int)=5\/[1,5,7,11].getD k.toNat (0:Int)=7\/[1,5,7,11].getD k.toNat (0:Int)=11:=by
  have:k=0\/k=1\/k=2\/k=3:=by lia
  rcases this with rfl | rfl | rfl | rfl
  .exact .inl rfl
  .exact .inr (.inl rfl)
  .exact .inr (.inr (.inl rfl))
  .exact .inr (.inr (.inr rfl))
 revert J q;generalize [1,5,7,11].getD k.toNat (0:Int)=c;intro J q;refine gJ m2 J ⟨by lia,by lia,?_⟩;have m3:=ae p _ (O.ne B) ag;have ab:=((Ex.new B _).trans e1).trans ae;have hb:c<=11/\1<=c:=by rcases q with rfl | rfl | rfl | rfl<;>lia
 refine Gp (fun i=>.str (Zp v c i)) (fun C'=>C'=C2) m.toNat (fun i C3 Q' hi e hq=>?_) (fun D C3 e g=>?_) 0 C2 (AY _) (by lia) rfl
 .subst e
  refine⟨.inr ⟨by lia,by lia⟩,?_⟩;refine yK ⟨(by show(0:Int) < _;decide),?_⟩;have r0:=CV (v+c * (i:Int)) (b:=12) (by decide);have r1:=Bw (v+c * (i:Int)) (b:=12) (by decide);exact gJ m3 (jG (ss:=POOL) "" r0 r1) (hq _ rfl)
 .subst e
  have af:C D=none:=by
   cases z:C D with
   |none=>rfl
   |some o =>
    have n1:=I.ne g;rw[ab D o n1 z] at g;cases g
  refine ah D (eV v c m.toNat) _ ?_ af (I.ne g) ?_ ⟨QX ai aj q (by lia),Yd v c m.toNat⟩ (I.new g _) (ab.trans (Ex.new g _))
  .rw [jQ]
   delta eV
   rw[Be]
   rfl
  .delta eV
   rw[AB,Ak]
inductive rH(ts:List PV)(C:CH)(Q:K1):Prop
 |mk(t:Addr)(ns:List Int)(z0:ts=[.ref t])(z1:Tp C t ns)(z2:∀(i:Int)(C':CH),-1000000000<=i->i<=1000000000->Tp C' t ns->Ex t C C'->Q (.int i) C')
def at_ints{ns:List Int}(g:∀x∈ns,lo<=x/\x<=hi)(h0:0<=k)(h1:k < ((ns.map PV.int).length:Int)):∃v,atI (ns.map PV.int) k=some (.int v)/\lo<=v/\v<=hi:=by
 delta atI ixN
 rw[AZ h0,AZ h1];rw[AB] at h1;show ∃v,(ns.map PV.int)[k.toNat]?=some (.int v)/\lo<=v/\v<=hi;rw[A0,AO (by lia)];exact⟨_,rfl,g _ (BH _)⟩
def nL(T:Tx W a):Ok W a 2 16 U11 rH:=by
 have I:=eZ T
 refine(T.F 16 rfl).ok (fun ts C R h=>?_) fun af A ag s H E O=>⟨_,(xQ (sQ (ct2 wV sJ (cf (T.F 14 rfl) I O (qQ (cv 0) (ca1 zQ))) zQ) (kQ (yQ (eQ iJ jJ (cf (T.F 14 rfl) I O (qQ (cv 0) (ca1 zQ))) zQ))) pQ)
  (kQ (yQ (cx (mX (qQ (eQ iY aV zQ zQ) (qQ (rB jY gV (eQ iY aV zQ zQ)) (qQ zQ (ca1 (rB jY gV zQ)))))) (cf (T.F 14 rfl) I O (qQ (cv 0) (ca1 zQ))))))),?_⟩
 .obtain ⟨t,ns,rfl,_⟩:=h;rfl
 rintro ts C R ⟨t,ns,rfl,hT,q⟩;refine⟨t,8,ns,rfl,hT,by decide,by decide,fun v C1 ab ae B S=>?_⟩;refine i_i (zZ (fun hb=>?_) fun hb=>?_)
 .refine ⟨t,9,ns,rfl,B,by decide,by decide,fun v C2 ab ae D g=>?_⟩
  exact i_i (q (v - 3) C2 (by lia) (by lia) D (S.trans g))
 .refine aQ ⟨⟨by decide,by decide,by decide⟩,?_⟩
  refine⟨⟨by decide,by decide,by decide⟩,?_⟩;refine⟨by decide,fun p2 J=>?_⟩;refine⟨t,4,ns,rfl,B.new J _,by decide,by decide,fun k C2 k0 k1 D g=>?_⟩;obtain⟨c,Z,U,Y⟩:=(at_ints (ns:=[10 ^ 9,-10 ^ 9,999983,-70001]) (lo:=-1000000000) (hi:=1000000000) (by decide) k0 k1);exact gJ (g p2 _ (B.ne J) jQ) Z (q c C2 U Y D ((S.trans (Ex.new J _)).trans g))
end
inductive Rk where
 |num (i:Int) | turn (n:Str) | ask (s n:Str) | bin (w:Str) (x y:Rk) | pick (x y z:Rk)
def Rk.pv:Rk->PV
 |.num i=>.tup [.str "num",.int i]
 |.turn n=>.tup [.str "turn",.str n]
 |.ask s n=>.tup [.str s,.str n]
 |.bin w x y=>.tup [.str w,x.pv,y.pv]
 |.pick x y z=>.tup [.str "pick",x.pv,y.pv,z.pv]
def iM(bs:List Str)(s n:Str):Prop:=((s = "take"\/s = "down")/\n∈(["a","ab","b"]:List Str))\/(s = "box"/\n∈bs)
def Rk.ok(bs τ:List Str):Nat->Rk->Prop
 |_,.num i=>-1000000000<=i/\i<=1000000000
 |_,.turn n=>n∈τ
 |_,.ask s n=>iM bs s n
 |0,.bin _ _ _=>False
 |0,.pick _ _ _=>False
 |d+1,.bin w x y=>(w = "add"\/w = "times"\/w = "less")/\x.ok bs τ d/\y.ok bs τ d
 |d+1,.pick x y z=>x.ok bs τ d/\y.ok bs τ d/\z.ok bs τ d
theorem Rk.ok.up: ∀{d}{r:Rk},r.ok bs τ d->r.ok bs τ (d+1)
 |d,.num i,h=>by unfold Rk.ok at h ⊢;exact h
 |d,.turn n,h=>by unfold Rk.ok at h ⊢;exact h
 |d,.ask s n,h=>by unfold Rk.ok at h ⊢;exact h
 |0,.bin _ _ _,h =>h.elim
 |0,.pick _ _ _,h =>h.elim
 |d+1,.bin w x y,h =>⟨h.1,h.2.1.up,h.2.2.up⟩
 |d+1,.pick x y z,h =>⟨h.1.up,h.2.1.up,h.2.2.up⟩
def Rk.ok.mono{r:Rk}(h:r.ok bs τ d)(l:d<=e):r.ok bs τ e:=by
 induction l with
 |refl=>exact h
 |step _ g=>exact g.up
structure Kt where
 b:Addr
 r:Addr
 bs:List Str
 rs:List Str
 l:Int
 p:Int
 e:Int
 la:Option Str
def jU:Option Str->PV
 |none=>.non
 |some s=>.str s
def cZ(b r:Addr)(l p e:Int)(la:PV):List (Key×PV):=[(.inr "boxes",.ref b),(.inr "rest",.ref r),(.inr "left",.int l),(.inr "parts",.int p),(.inr "eaches",.int e),(.inr "last",la)]
structure KAt(C:CH)(t k:Addr)(κ:Kt):Prop where
 at_:C k=some (.dK (cZ κ.b κ.r κ.l κ.p κ.e (jU κ.la)))
 bx:C κ.b=some (.lst (κ.bs.map PV.str))
 rx:C κ.r=some (.lst (κ.rs.map PV.str))
 nk:k≠t
 nb:κ.b≠t
 nr:κ.r≠t
 lb:κ.bs.length<=4
 lr:κ.rs.length<=6
def KAt.ex(h:KAt C t k κ)(e:Ex t C C'):KAt C' t k κ :=
 ⟨e _ _ h.nk h.at_,e _ _ h.nb h.bx,e _ _ h.nr h.rx,h.nk,h.nb,h.nr,h.lb,h.lr⟩
section
variable {b r:Addr}{l p e:Int}{la:PV}
def nW:xK (cZ b r l p e la) (.inr "boxes")=some (.ref b):=rfl
def mN:xK (cZ b r l p e la) (.inr "rest")=some (.ref r):=rfl
def qY:xK (cZ b r l p e la) (.inr "left")=some (.int l):=rfl
def lT:xK (cZ b r l p e la) (.inr "parts")=some (.int p):=rfl
def pN:xK (cZ b r l p e la) (.inr "eaches")=some (.int e):=rfl
def fN:xK (cZ b r l p e la) (.inr "last")=some la:=rfl
def eF: dZ (cZ b r l p e la) (.inr "left") (.int g)=cZ b r g p e la:=rfl
def KM: dZ (cZ b r l p e la) (.inr "parts") (.int g)=cZ b r l g e la:=rfl
def Ze: dZ (cZ b r l p e la) (.inr "eaches") (.int g)=cZ b r l p g la:=rfl
end
def wW{ss:List Str}(h0:0<=i)(h1:i < (ss.length:Int)):ss.getD i.toNat "" ∈ ss :=by grind
section
variable {W:Wd}{a:Adr}
inductive YV(ts:List PV)(C:CH)(Q:K1):Prop
 |mk(t k:Addr)(τ:List Str)(ns:List Int)(κ:Kt)(z0:ts=[.ref t,.ref k,.tup (τ.map PV.str)])(z1:Tp C t ns)(z2:KAt C t k κ)(z3:τ.length<=4)(z4:∀(r:Rk)(C':CH),r.ok κ.bs τ 0->Tp C' t ns->Ex t C C'->Q r.pv C')
def pA(T:Tx W a):Ok W a 3 17 U3 YV:=by
 have S:=(T.F 17 rfl).s;have bQ:=(eZ T).mono (show 1<=2 by decide);have oV:=nL T
 refine(T.F 17 rfl).ok (fun ts C R h=>?_) fun ai A ak s H E I=>⟨_,(xQ (cs1 3 S.nd (cf (T.F 14 rfl) bQ I (qQ (cv 0) (ca1 zQ))))
  (xQ (sQ (ct2 bX iQ (cv 3) zQ) (kQ (yQ (lQ (qQ vQ (ca1 (cx (mX (qQ vQ (qQ vQ (ca1 vQ)))) (cf (T.F 14 rfl) bQ I (qQ (cv 0) (ca1 zQ))))))))) pQ)
  (xQ (sQ (ct2 bX iQ (cv 3) zQ) (kQ (yQ (lQ (qQ vQ (ca1 (cx (mX (qQ vQ (qQ vQ (ca1 vQ)))) (cf (T.F 14 rfl) bQ I (qQ (cv 0) (ca1 zQ))))))))) pQ)
  (xQ (sQ (cw_pt (cw_and (ct2 rY mV (cv 3) zQ) (cw_and1 (ct2 wV sJ (cln T.sZ (nZ (qZ I) (cv 1) vQ (fun _ _=>rfl))) zQ)))) (kQ (yQ (lQ (qQ vQ (ca1 (cx (nZ (qZ I) (cv 1) vQ (fun _ _=>rfl)) (cf (T.F 14 rfl) bQ I (qQ (cv 0) (ca1 (cln T.sZ (nZ (qZ I) (cv 1) vQ (fun _ _=>rfl)))))))))))) pQ)
  (xQ (sQ (cw_pt (cw_and (ct2 bX iQ (cv 3) zQ) (cw_and1 (ct2 wV sJ (cln T.sZ (cv 2)) zQ)))) (kQ (yQ (lQ (qQ vQ (ca1 (cx (cv 2) (cf (T.F 14 rfl) bQ I (qQ (cv 0) (ca1 (cln T.sZ (cv 2))))))))))) pQ)
  (kQ (yQ (lQ (qQ vQ (ca1 (cf (T.F 16 rfl) oV I (ca1 (cv 0))))))))))))),?_⟩
 .obtain ⟨t,k,τ,ns,κ,rfl,_⟩:=h;rfl
 rintro ts C R ⟨t,k,τ,ns,κ,rfl,hT,hk,aj,ab⟩;refine⟨t,6,ns,rfl,hT,by decide,by decide,fun v C1 ao aq J e1=>?_⟩
 try dsimp only
 have Y:=hk.ex e1
 have ah:∀C2,Tp C2 t ns->Ex t C C2->rH [.ref t] C2 fun x C3=>2<=sizeLine/\R (.tup [.str "num",x]) C3:=by
  intro C2 D B;refine⟨t,ns,rfl,D,fun i C3 g q T3 e3=>⟨by decide,?_⟩⟩;exact ab (.num i) C3 ⟨g,q⟩ T3 (B.trans e3)
 refine oX (vX (kX _ _) (zZ (fun O=>?_) fun O=>?_))
 .refine ⟨by decide,fun p Z=>?_⟩
  refine⟨t,3,ns,rfl,J.new Z _,by decide,by decide,fun i C2 g q D B=>?_⟩;refine gJ (B p _ (J.ne Z) jQ) (jG (f:=PV.str) (ss:=["a","ab","b"]) "" g q) ⟨y0 2 rfl,?_⟩;exact ab (.ask "take" _) C2 (.inl ⟨.inl rfl,wW g q⟩) D ((e1.trans (Ex.new Z _)).trans B)
 refine aQ (oX (vX (kX _ _) (zZ (fun O=>?_) fun O=>?_)))
 .refine ⟨by decide,fun p Z=>?_⟩
  refine⟨t,3,ns,rfl,J.new Z _,by decide,by decide,fun i C2 g q D B=>?_⟩;refine gJ (B p _ (J.ne Z) jQ) (jG (f:=PV.str) (ss:=["a","ab","b"]) "" g q) ⟨y0 2 rfl,?_⟩;exact ab (.ask "down" _) C2 (.inl ⟨.inr rfl,wW (ss:=["a","ab","b"]) g q⟩) D ((e1.trans (Ex.new Z _)).trans B)
 apply aQ
 try dsimp only
 refine qX (fun ae C'=>C'=C1/\ae=[some (.ref t),some (.ref k),some (.tup (τ.map PV.str)),some (.int v)]) (fun L hL=>?_) ?_
 .refine i_i (zZ (fun O=>?_) fun O=>?_)
  .refine eJ Y.at_ rfl nW (fB Y.bx (i_i (zZ (fun U=>?_) fun U=>?_)))
   .refine eJ Y.at_ rfl nW (eJ Y.at_ rfl nW (fB Y.bx ?_))
    have hl:=Y.lb;rw[AB] at U ⊢;have af:=Aa U;refine⟨t,_,ns,rfl,J,af,by lia,fun i C2 g q D B=>?_⟩;refine gJ ((Y.ex B).bx) (jG (f:=PV.str) "" g q) ⟨y0 2 rfl,?_⟩;exact ab (.ask "box" _) C2 (.inr ⟨rfl,wW g q⟩) D (e1.trans B)
   .exact aQ (hL _ _ ⟨rfl,rfl⟩)
  .exact gW rfl (aQ (hL _ _ ⟨rfl,rfl⟩))
 rintro ae C' ⟨rfl,rfl⟩;refine qX (fun ae ag=>ag=C'/\ae=[some (.ref t),some (.ref k),some (.tup (τ.map PV.str)),some (.int v)]) (fun L hL=>?_) ?_
 .refine vX (kX _ _) (zZ (fun O=>?_) fun O=>?_)
  .refine vY (i_i (zZ (fun U=>?_) fun U=>?_))
   .apply vY
    rw[AB] at U ⊢;have af:=Aa U;refine⟨t,_,ns,rfl,J,af,by lia,fun i C2 g q D B=>?_⟩;refine yX (jG (f:=PV.str) "" g q) ⟨y0 2 rfl,?_⟩;exact ab (.turn _) C2 (wW g q) D (e1.trans B)
   .exact aQ (hL _ _ ⟨rfl,rfl⟩)
  .exact gW rfl (aQ (hL _ _ ⟨rfl,rfl⟩))
 rintro ae ag ⟨rfl,rfl⟩;exact ah _ J e1
end
def Xe(q:Q (.int (if b then 1 else 0)) C):cInt [.bl b] C Q:=by
 delta cInt
 exact q
def rngP(m:Nat):List PV:=(List.range m).map fun k=>PV.int (k:Nat)
def We m:(rngP m).length=m :=by grind[rngP,List.length_map,List.length_range]
section
variable {W:Wd}{a:Adr}
inductive ZP(d:Nat)(ts:List PV)(C:CH)(Q:K1):Prop
 |mk(t k:Addr)(τ:List Str)(ns:List Int)(κ:Kt)(z0:ts=[.ref t,.ref k,.tup (τ.map PV.str),.int (d:Nat)])(z1:Tp C t ns)(z2:KAt C t k κ)(z3:τ.length<=4)(z4:∀(r:Rk)(C':CH),r.ok κ.bs τ d->Tp C' t ns->Ex t C C'->Q r.pv C')
def vC(T:Tx W a)(d:Nat):Ok W a (d+4) 18 U0 (ZP d):=by
 have ao:∀n,(∀d',n=d'+1->Ok W a (d'+4) 18 U0 (ZP d'))->Ok W a (n+4) 18 U0 (ZP n):=by
  intro n ih;have S:=(T.F 18 rfl).s;have bQ:=(eZ T).mono (show 1<=n+3 by lia);have oB:=(pA T).mono (show 3<=n+3 by lia)
  have tK:Ok W a (n+3) 18 U0 (fun ts C Q=>∃d',n=d'+1/\ZP d' ts C Q):=by
   cases n with
   |zero=>exact⟨fun vs H Q E ⟨ts,C,R,_,_,⟨d',e,_⟩,_⟩=>by lia,fun _ _ _ _ _ _ _ _ _ _ _ _ _ ⟨ts,C,R,_,_,⟨d',e,_⟩,_⟩=>by lia⟩
   |succ d' =>
    have:=ih d' rfl
    have e:(fun ts C Q=>∃ae,d'+1=ae+1/\ZP ae ts C Q)=ZP d':=by
     funext ts C Q
     refine propext ⟨fun zz=>zX zz fun ae e h=> ?_,fun h=>⟨d',rfl,h⟩⟩;cases Ay e;exact h
    rw[e];exact this
  refine(T.F 18 rfl).ok (fun ts C R h=>?_) fun a0 A a4 s H E B=>⟨_,(xQ (cs1 4 S.nd (cf (T.F 14 rfl) bQ B (qQ (cv 0) (ca1 zQ))))
  (xQ (sQ (cw_pt (cw_or (ct2 bX iQ (cv 3) zQ) (cw_or1 (ct2 rY mV (cv 4) zQ)))) (kQ (yQ (cf (T.F 17 rfl) oB B (qQ (cv 0) (qQ (cv 1) (ca1 (cv 2))))))) pQ)
  (xQ (cs1 5 S.nd (cx (mX (qQ vQ (qQ vQ (qQ vQ (ca1 vQ))))) (eQ iJ jJ (cv 4) zQ)))
  (xQ (cs1 6 S.nd (cx (mX (qQ zQ (ca1 zQ))) (lZ cG eD rfl T.rM rfl (ca1 (iK bX iQ (cv 5) vQ (uW _))))))
  (kQ (yQ (eQ uX gX (lQ (ca1 (cv 5))) (ctp T.xX (hW rfl (S.c (by decide +kernel)) (S.k rfl rfl rfl (by decide +kernel)) (Z1 rfl T.pW (ca1 (cv 6))) (fun _ _ _ _ _=>wK) (fun _ _ _ _ _=>(cf (T.F 18 rfl) tK B (qQ (cv 1) (qQ (cv 2) (qQ (cv 3) (ca1 (eQ iJ jJ (cv 4) zQ)))))))))))))))),?_⟩
  .obtain ⟨t,k,τ,ns,κ,rfl,_⟩:=h;rfl
  rintro ts C R ⟨t,k,τ,ns,κ,rfl,hT,hk,aj,aq⟩;refine⟨t,8,ns,rfl,hT,by decide,by decide,fun v C1 a5 a6 T1 e1=>?_⟩
  try dsimp only
  have ax:=hk.ex e1
  have ak:∀E':K1,E'=R->YV [.ref t,.ref k,.tup (τ.map PV.str)] C1 E':=by
   rintro E' rfl;exact⟨t,k,τ,ns,κ,rfl,T1,ax,aj,fun r C2 B Y Z=>aq r C2 (B.mono (AY _)) Y (e1.trans Z)⟩
  refine qX (fun ar C'=>C'=C1/\0 < n/\4<=v/\ar=[some (.ref t),some (.ref k),some (.tup (τ.map PV.str)),some (.int (n:Nat)),some (.int v),none,none]) (fun L hL=>?_) ?_
  .refine vX (kX _ _) (zZ (fun hb=>?_) fun hb=>?_)
   .exact pB rfl (ak _ rfl)
   .refine i_i (zZ (fun ah=>?_) fun ah=>?_)
    .exact ak _ rfl
    .apply aQ
     have:=BR hb;have:=BR ah;exact hL _ _ ⟨rfl,by lia,by lia,rfl⟩
  rintro ar C' ⟨rfl,hn,hv,rfl⟩;obtain⟨d',rfl⟩:∃d',n=d'+1:=⟨n - 1,by lia⟩
  have af:∀(q:Str)(m:Nat)(C2:CH),(m=2/\(q = "add"\/q = "times"\/q = "less"))\/(m=3/\q = "pick")->Tp C2 t ns->Ex t C C2 ->
    ∀(c:TCE)(ρ:CSt)(Q:K1),(∀x g(L:K1),Tp g t ns->Ex t C g->(∀r U,Rk.ok κ.bs τ d' r->Tp U t ns->Ex t C U->L r.pv U)->c (some x::ρ) g L)->(∀(p:Addr)(rs:List Rk)(g:CH),Tp g t ns->Ex t C g->g p=some (.lst (rs.map Rk.pv))->(∃r:Rk,r.ok κ.bs τ (d'+1)/\r.pv=.tup (.str q::rs.map Rk.pv)/\rs.length<=3)->Q (.ref p) g) ->
    cJ xT c ρ Q (rngP m) [] C2:=by
   intro q m C2 D Y Z c ρ Q az af;refine pG (fun zs ab g=>Tp g t ns/\Ex t C g/\∃rs:List Rk,ab=rs.map Rk.pv/\rs.length+zs.length=m/\∀r∈rs,Rk.ok κ.bs τ d' r) ?_ ?_ _ _ _ ⟨Y,Z,[],rfl,by rw[We];exact BU _,fun r B=>nomatch B⟩
   .rintro x r ab g ⟨J,I,rs,rfl,hl,O⟩ L hL
    refine az x g L J I fun r4 U ag T4 e4=>hL _ _ ⟨?_,T4,e4,rs++[r4],by rw[Ac];rfl,by rw[AN,Al];rw[AV] at hl;lia,fun r B=>?_⟩
    .rw [AB]
     exact AQ (show rs.length < 4 by lia) (by decide)
    .rcases AS.1 B with B | B
     .exact O r B
     .cases AE.1 B;exact ag
   .rintro ab g ⟨J,I,rs,rfl,hl,O⟩ p hp
    apply af p rs _ (J.new hp _) (I.trans (Ex.new hp _)) jQ
    rw[BQ,Nat.add_zero] at hl
    rcases D with ⟨rfl,D⟩ | ⟨rfl,D⟩
    .match rs,hl with
     |[x,y],_=>exact⟨.bin q x y,by unfold Rk.ok;exact⟨D,O x (by simp),O y (by simp)⟩,rfl,by show 2<=3;decide⟩
    .match rs,hl with
     |[x,y,z],_=>exact⟨.pick x y z,by unfold Rk.ok;exact⟨O x (by simp),O y (by simp),O z (by simp)⟩,by rw[D];rfl,by show 3<=3;decide⟩
  refine uQ ⟨by decide,fun p hp=>?_⟩
  apply i_i
  have Y:=T1.new hp (.lst [PV.str "add",PV.str "times",PV.str "less",PV.str "pick"]);have Z:=e1.trans (Ex.new hp (.lst [PV.str "add",PV.str "times",PV.str "less",PV.str "pick"]));have au:v=4\/v=5\/v=6\/v=7:=by lia
  obtain⟨q,m,av,D⟩:∃(q:Str)(m:Nat),atI ([PV.str "add",PV.str "times",PV.str "less",PV.str "pick"]) (v - 4)=some (.str q)/\((m=2/\(q = "add"\/q = "times"\/q = "less"))\/(m=3/\q = "pick")):=by
   rcases au with rfl | rfl | rfl | rfl
   .exact ⟨"add",2,rfl,.inl ⟨rfl,.inl rfl⟩⟩
   .exact ⟨"times",2,rfl,.inl ⟨rfl,.inr (.inl rfl)⟩⟩
   .exact ⟨"less",2,rfl,.inl ⟨rfl,.inr (.inr rfl)⟩⟩
   .exact ⟨"pick",3,rfl,.inr ⟨rfl,rfl⟩⟩
  refine gJ jQ av (uQ ⟨by decide,fun p2 ai=>?_⟩);refine vX (rQ _ _) (Xe ?_)
  have aw:atI [PV.int 2,PV.int 3] (if decide (q = "pick") then 1 else 0)=some (.int (m:Nat)):=by
   rcases D with ⟨rfl,D⟩ | ⟨rfl,rfl⟩
   .have:¬ q = "pick":=by rcases D with rfl | rfl | rfl<;>decide
    rw[AM this];rfl
   .rfl
  refine gJ jQ aw ⟨y0 1 rfl,?_⟩;have a3:m<=3:=by rcases D with ⟨rfl,_⟩ | ⟨rfl,_⟩<;>decide
  refine⟨by lia,by lia,?_⟩;refine af q m _ D (Y.new ai _) (Z.trans (Ex.new ai _)) _ _ _ (fun x g L J I hL=>?_) fun p3 rs g J I m3 B=>?_
  .refine i_i ⟨d',rfl,t,k,τ,ns,κ,?_,J,hk.ex I,aj,fun r U ag T4 e4=>hL r U ag T4 (I.trans e4)⟩
   have:((d'+1:Nat):Int) - 1=(d':Nat):=by lia
   rw[this]
  .obtain ⟨r,ay,ep,lr⟩:=B
   refine lJ m3 (GO (by rw[AB];exact AW (show 1+rs.length<=4 by lia) (by decide)) ?_);have:=aq r g ay J I;rw[ep] at this;exact this
 induction d with
 |zero=>exact ao 0 fun d' e=>by lia
 |succ d ih=>exact ao (d+1) fun d' e=>by cases Ay e;exact ih
end
def xU:Option Rk->PV
 |none=>.non
 |some r=>r.pv
def rC(bs τ:List Str):Option Rk->Prop
 |none=>True
 |some r=>r.ok bs τ 0
def qW(c:Str×Rk):PV:=.tup [.str c.1,c.2.pv]
def fF(bs τ:List Str)(d:Nat)(ps:List (Str×Rk)):Prop:=∀c∈ps,c.2.ok bs τ d/\c.1.length<=8
def at_last{τ:List Str}(h:0 < τ.length):∃s∈τ,atI (τ.map PV.str) (-1)=some (.str s):=by
 delta atI ixN
 rw[AX (by decide),AB,AZ (by lia)];have:((τ.length:Int) + -1).toNat < τ.length:=by lia
 refine⟨τ[((τ.length:Int) + -1).toNat],BH _,?_⟩;show(τ.map PV.str)[((τ.length:Int) + -1).toNat]?=_;rw[A0,AO this]
 rfl
def cl_l(h:C a=some (.lst xs))(B:g[i]?=some (some (.ref a)))(q:nU (fun C=>C a=some (.lst xs)) t c g Q xs [] C):gP (bY i) t c g C Q :=by simp_all[gP,bY]
def fU{β:Type}O(S:β->Prop)(J:CH->Prop)(Z:∀C,J C->C p=some (.lst (ss.map PV.str)))(hl:ss.length<=1000)(ab:∀z C L,J C->(∀b C',S b->J C'->L (O (z,b)) C')->c (some (.str z)::ρ) C L)(U:∀(bs:List (Str×β))C q,J C->C q=none->bs.map (·.1)=ss->(∀x∈bs,S x.2)->Q (.ref q) (gQ C q (.lst (bs.map O))))(Y:J C):
  nU (fun C=>C p=some (.lst (ss.map PV.str))) xT c ρ Q (ss.map PV.str) [] C:=by
 refine Vp (fun zs D C=>J C/\∃(bs:List (Str×β))(g:List Str),zs=g.map PV.str/\D=bs.map O/\bs.map (·.1)++g=ss/\∀x∈bs,S x.2) (fun _ _ _ h=>Z _ h.1) ?_ ?_ _ _ _ ⟨Y,[],ss,rfl,rfl,rfl,fun x h=>nomatch h⟩
 .rintro x r D C1 ⟨I,bs,g,B,rfl,e,o⟩ L hL
  cases g with
  |nil=>cases B
  |cons u g =>
   obtain⟨rfl,rfl⟩:=Bn B;refine ab u C1 L I fun b C' ob j'=>hL _ _ ⟨?_,j',bs++[(u,b)],g,rfl,by rw[Ac];rfl,by rw[Ac,Af];exact e,fun x hx=>?_⟩
   .have:=Bk List.length e
    rw[AN,AB] at this;rw[AB];exact AQ (show bs.length < 1001 by lia) (by decide)
   .grind
 .rintro D C1 ⟨I,bs,g,B,rfl,e,o⟩ q hp
  cases g with
  |nil=>rw[Ah] at e;exact U bs C1 q I hp e o
  |cons u g=>cases B
section
variable {W:Wd}{a:Adr}
inductive gKey(ts:List PV)(C:CH)(Q:K1):Prop
 |mk(t k:Addr)(τ:List Str)(ns:List Int)(κ:Kt)(z0:ts=[.ref t,.ref k,.tup (τ.map PV.str)])(z1:Tp C t ns)(z2:KAt C t k κ)(z3:τ.length<=4)(z4:∀(o:Option Rk)(C':CH),rC κ.bs τ o->Tp C' t ns->Ex t C C'->Q (xU o) C')
def Zm(T:Tx W a):Ok W a 4 19 U3 gKey:=by
 have Y:=(eZ T).mono (show 1<=3 by decide);have oB:=pA T
 refine(T.F 19 rfl).ok (fun ts C R h=>?_) fun ae A ag s H E B=>⟨_,(xQ (cs1 3 ((T.F 19 rfl).s).nd (cf (T.F 14 rfl) Y B (qQ (cv 0) (ca1 zQ))))
  (xQ (sQ (ct2 rY mV (cv 3) zQ) (kQ (yQ hV)) pQ)
  (xQ (sQ (cw_pt (cw_and (ct2 bX iQ (cv 3) zQ) (cw_and1 (ct2 wV sJ (cln T.sZ (cv 2)) zQ)))) (kQ (yQ (lQ (qQ vQ (ca1 (cx (cv 2) (rB jY gV zQ))))))) pQ)
  (kQ (yQ (cf (T.F 17 rfl) oB B (qQ (cv 0) (qQ (cv 1) (ca1 (cv 2)))))))))),?_⟩
 .obtain ⟨t,k,τ,ns,κ,rfl,_⟩:=h;rfl
 rintro ts C R ⟨t,k,τ,ns,κ,rfl,hT,hk,ab,q⟩;refine⟨t,4,ns,rfl,hT,by decide,by decide,fun v C1 ah ai D g=>?_⟩;refine oX (i_i (zZ (fun I=>?_) fun I=>?_))
 .exact q none C1 trivial D g
 apply aQ
 try dsimp only
 refine qX (fun S C'=>C'=C1/\S=[some (.ref t),some (.ref k),some (.tup (τ.map PV.str)),some (.int v)]) (fun L O=>?_) ?_
 .refine vX (kX _ _) (zZ (fun I=>?_) fun I=>?_)
  .refine vY (i_i (zZ (fun J=>?_) fun J=>?_))
   .rw [AB] at J
    have af:=Aa J;obtain⟨s,hs,es⟩:=(at_last (τ:=τ) (by lia));refine yX es ⟨y0 2 rfl,?_⟩;exact q (some (.turn s)) C1 hs D g
   .exact aQ (O _ _ ⟨rfl,rfl⟩)
  .exact gW rfl (aQ (O _ _ ⟨rfl,rfl⟩))
 rintro S C' ⟨rfl,rfl⟩;exact⟨t,k,τ,ns,κ,rfl,D,(hk.ex g),ab,fun r C2 B U Z=>q (some r) C2 B U (g.trans Z)⟩
inductive YT(ts:List PV)(C:CH)(Q:K1):Prop
 |mk(t k:Addr)(τ:List Str)(ns:List Int)(κ:Kt)(z0:ts=[.ref t,.ref k,.tup (τ.map PV.str),.int 2])(z1:Tp C t ns)(z2:KAt C t k κ)(z3:τ.length<=4)(z4:∀(ps:List (Str×Rk))(C':CH),fF κ.bs τ 2 ps->ps.length<=4->Tp C' t ns->Ex t C C'->Q (.tup (ps.map qW)) C')
def W1(T:Tx W a):Ok W a 7 20 U14 YT:=by
 have S:=(T.F 20 rfl).s;have bQ:=(eZ T).mono (show 1<=6 by decide);have jV:=(xD T).mono (show 2<=6 by decide);have tK:=vC T 2
 refine(T.F 20 rfl).ok (fun ts C R h=>?_) fun ah A ai s H E g=>⟨_,(xQ (cs1 4 S.nd (cf (T.F 15 rfl) jV g (qQ (cv 0) (ca1 (cf (T.F 14 rfl) bQ g (qQ (cv 0) (ca1 (eQ uX gX (cv 3) zQ))))))))
  (kQ (yQ (ctp T.xX (tD rfl (S.c (by decide +kernel)) (S.k rfl rfl rfl (by decide +kernel)) (cv 4) (fun _ _ _ _ _=>wK) (fun _ _ _ _ _=>(lQ (qQ (cv 0) (ca1 (cf (T.F 18 rfl) tK g (qQ (cv 1) (qQ (cv 2) (qQ (cv 3) (ca1 zQ)))))))))))))),?_⟩
 .obtain ⟨t,k,τ,ns,κ,rfl,_⟩:=h;rfl
 rintro ts C R ⟨t,k,τ,ns,κ,rfl,hT,hk,ab,af⟩;refine yK ⟨t,3,ns,rfl,hT,by decide,by decide,fun v C1 ag aj T1 e1=>?_⟩;refine⟨t,v,ns,rfl,T1,ag,by lia,fun p ss C2 O n2 ae hl nd T2 e2=>?_⟩;refine cl_l O rfl (fU qW (fun r=>r.ok κ.bs τ 2) (fun C'=>Tp C' t ns/\Ex t C C'/\C' p=some (.lst (ss.map PV.str))) (fun _ h=>h.2.2) (by lia) (fun z Y L ⟨B,q,U⟩ hL=>?_) (fun bs Y p3 ⟨B,q,U⟩ J hb ho=>?_) ⟨T2,e1.trans e2,O⟩)
 .refine ⟨t,k,τ,ns,κ,rfl,B,hk.ex q,ab,fun r Z g T4 D=>⟨y0 2 rfl,hL r Z g ⟨T4,q.trans D,D _ _ ae U⟩⟩⟩
 .exact lJ jQ (af bs _ (fun c I=>⟨ho c I,nm8 (nd.2 c.1 (hb▸AU.2 ⟨c,I,rfl⟩))⟩) (by grind) (B.new J _) (q.trans (Ex.new J _)))
end
structure Hd where
 ev:Str
 rank:Int
 last:Bool
 ch:List (Str×Str×Rk)
def Gw(c:Str×Str×Rk):PV:=.tup [.str c.1,.str c.2.1,c.2.2.pv]
def Hd.pv(h:Hd):PV:=.tup [.str h.ev,.int h.rank,.bl h.last,.tup (h.ch.map Gw)]
def Hd.ok(bs τ:List Str)(h:Hd):Prop:=h.ch.length<=4/\(∀c∈h.ch,c.2.2.ok bs τ 1/\c.1∈bs/\c.2.1.length<=8)/\h.ev.length<=8/\0<=h.rank/\h.rank<=9
theorem Hd.ok.c{h:Hd}(o:h.ok bs τ):∀c∈h.ch,c.2.2.ok bs τ 1:=fun c g=>(o.2.1 c g).1
theorem Ex.put(g:Ex t C C1)(q:C p=none)o:Ex t C (gQ C1 p o):=fun b u n e=>by
 rw[wQ (fun z=>by subst z;rw[q] at e;cases e)];exact g b u n e
theorem Tp.put(h:Tp C t ns)(g:p≠t)o:Tp (gQ C p o) t ns:=by
 obtain⟨⟨a,b,c,e,r⟩,l⟩:=h;exact⟨⟨a,b,c,by exact(wQ (Ne.symm g))▸e,r⟩,l⟩
def Ex.none(g:Ex t C C')(n:p≠t)(h:C' p=none):C p=none:=by
 cases e:C p with
 |none=>rfl
 |some o=>rw[g p o n e] at h;cases h
def gN(I:Nat->CSt->CH->Prop)(J:∀i q C,I i q C->C b=some (.lst xs))(S:∀i x q C,xs[i]?=some x->I i q C->∀L:CSt->CH->Prop,(∀B C',I (i+1) B C'->L B C')->g x q C fun U C1=>u { nx:=L,ct:=L,bk:=E.nx,rt:=E.rt } U C1)(D:∀q C,I xs.length q C->E.nx q C):
  ∀n i q C,I i q C->i+n=xs.length+1->i<=xs.length->lU b g u E n i q C:=by
 intro n
 induction n with
 |zero=>lia
 |succ n O =>
  intro i q C h h1 h2;unfold lU;rw[J i q C h];dsimp only
  cases e:xs[i]? with
  |none =>
   have:=List.getElem?_eq_none_iff.1 e;have:i=xs.length:=by lia
   subst this;exact D q C h
  |some x =>
   have hi:=(Ap.1 e).1;exact S i x q C e h _ fun B C' h'=>O (i+1) B C' h' (by lia) (by lia)
def kH(h:C b=some (.lst xs))(q:∀p,C p=none->Q (.ref p) (gQ C p (.lst (uH xs lo hi)))):cSlL (.ref b) lo hi C Q:=by
 delta cSlL
 dsimp only
 rwa [h]
def cut_two v(h0:0<=v)(h1:v < 3):uH [PV.str "tap",PV.str "key"] none (some v)=((["tap","key"]:List Str).take v.toNat).map PV.str:=by
 have:v=0\/v=1\/v=2:=by lia
 rcases this with rfl | rfl | rfl<;>rfl
section
variable {W:Wd}{a:Adr}
inductive YX(ts:List PV)(C:CH)(Q:K1):Prop
 |mk(t k:Addr)(τ:List Str)(ns:List Int)(κ:Kt)(z0:ts=[.ref t,.ref k,.tup (τ.map PV.str)])(z1:Tp C t ns)(z2:KAt C t k κ)(z3:τ.length<=4)(z4:∀(hs:List Hd)(C':CH),(∀h∈hs,h.ok κ.bs τ)->hs.length<=4->Tp C' t ns->Ex t C C'->Q (.tup (hs.map Hd.pv)) C')
def W6(T:Tx W a):Ok W a 6 21 U3 YX:=by
 have S:=(T.F 21 rfl).s;have O:=(eZ T).mono (show 1<=5 by decide);have tK:=vC T 1
 refine(T.F 21 rfl).ok (fun ts C R h=>?_) fun b5 A b7 s H E g=>⟨_,(xQ (cs1 3 S.nd (mX pZ))
  (xQ (oH PassesOwn.never rfl (mW (mX (qQ vQ (ca1 vQ))) pJ (fJ (cf (T.F 14 rfl) O g (qQ (cv 0) (ca1 zQ))))) (cg1 4 S.nd) (xQ (cs1 5 S.nd (mX pZ))
  (xQ (sQ (ct2 wV sJ (cln T.sZ (nZ (qZ g) (cv 1) vQ (fun _ _=>rfl))) zQ) (kQ (gM PassesOwn.never rfl rfl T.pW (ca1 (cf (T.F 14 rfl) O g (qQ (cv 0) (ca1 zQ)))) (cg1 6 S.nd) (xQ (cs1 7 S.nd (cx (nZ (qZ g) (cv 1) vQ (fun _ _=>rfl)) (cf (T.F 14 rfl) O g (qQ (cv 0) (ca1 (cln T.sZ (nZ (qZ g) (cv 1) vQ (fun _ _=>rfl))))))))
  (xQ (cs1 8 S.nd (cx (mX (qQ vQ (qQ vQ (ca1 vQ)))) (cf (T.F 14 rfl) O g (qQ (cv 0) (ca1 zQ)))))
  (kQ (aZ (cap (cv 5) (lQ (qQ (cv 7) (qQ (cv 8) (ca1 (cf (T.F 18 rfl) tK g (qQ (cv 0) (qQ (cv 1) (qQ (cv 2) (ca1 zQ)))))))))))))))) pQ)
  (kQ (aZ (cap (cv 3) (lQ (qQ (cv 4) (qQ (eQ uX gX zQ (cf (T.F 14 rfl) O g (qQ (cv 0) (ca1 zQ)))) (qQ (iK bX iQ (cf (T.F 14 rfl) O g (qQ (cv 0) (ca1 zQ))) zQ (uW _)) (ca1 (ctp T.xX (cv 5)))))))))))))
  (kQ (yQ (ctp T.xX (cv 3)))))),?_⟩
 .obtain ⟨t,k,τ,ns,κ,rfl,_⟩:=h;rfl
 rintro ts C R ⟨t,k,τ,ns,κ,rfl,hT,hk,bw,b1⟩;refine uQ ⟨by decide,fun h hh=>?_⟩;have ai:=hT.ne hh;refine qX (fun aj C'=>∃(hs:List Hd)(x4 x5 q B D:Option PV),aj=[some (.ref t),some (.ref k),some (.tup (τ.map PV.str)),some (.ref h),x4,x5,q,B,D]/\C' h=some (.lst (hs.map Hd.pv))/\hs.length<=2/\(∀h∈hs,h.ok κ.bs τ)/\Tp C' t ns/\Ex t C C') (fun L hL=>?_) ?_
 .refine ⟨by decide,fun p1 ah=>?_⟩
  have T1:=(hT.new hh (.lst [])).new ah (.lst [PV.str "tap",PV.str "key"]);refine⟨t,3,ns,rfl,T1,by decide,by decide,fun v C2 b3 b4 T2 e2=>?_⟩;have b0:p1≠t:=(hT.new hh (.lst [])).ne ah;have m2:C2 p1=_:=e2 p1 _ b0 jQ;have bz:h≠p1:=fun z=>by subst z;rw[jQ] at ah;cases ah
  have ay:C2 h=some (.lst []):=e2 h _ ai (by rw[wQ bz];exact jQ);refine kH m2 fun p2 ar=>?_;rw[cut_two v b3 b4];have a3:p2≠t:=T2.ne ar;have bf:h≠p2:=fun z=>by subst z;rw[ar] at ay;cases ay
  have bg:Ex t C C2:=fun b o n e=>e2 b o n (Gr.new ah _ _ _ (Gr.new hh _ _ _ e));generalize a7:(["tap","key"]:List Str).take v.toNat=ss;have bt:∀s∈ss,s.length<=8:=fun s hs=>(by decide +kernel:∀s∈(["tap","key"]:List Str),s.length<=8) s (BG (a7▸hs));have b6:ss.length<=2:=by rw[<- a7,An];exact Nat.min_le_right _ _
  refine⟨ss.length+1,gN (xs:=ss.map PV.str) (fun i J C'=>C' p2=some (.lst (ss.map PV.str))/\∃(hs:List Hd)(x4 x5 q B D:Option PV),J=[some (.ref t),some (.ref k),some (.tup (τ.map PV.str)),some (.ref h),x4,x5,q,B,D]/\C' h=some (.lst (hs.map Hd.pv))/\hs.length=i/\i<=ss.length/\(∀h∈hs,h.ok κ.bs τ)/\Tp C' t ns/\Ex t C C') (fun _ _ _ h=>h.1) ?_ ?_ _ 0 _ _ ⟨jQ,[],_,_,_,_,_,rfl,?_,rfl,AY _,(fun _ z=>nomatch z),T2.new ar _,bg.trans (Ex.new ar _)⟩ (by rw[AB];lia) (AY _)⟩
  .rintro i x J C3 Z ⟨m3,hs,x4,x5,q,B,D,rfl,mh,hl,hi,ho,T3,e3⟩ L1 bj
   have bu:∃z:Str,x=.str z/\z.length<=8:=by
    rw[A0] at Z
    cases z:ss[i]? with
    |none=>rw[z] at Z;cases Z
    |some u=>rw[z] at Z;cases Z;exact⟨u,rfl,bt u (Ae z)⟩
   have br:i < ss.length:=by
    have:=(Ap.1 Z).1;rw[AB] at this;exact this
   obtain⟨av,rfl,bq⟩:=bu;refine uQ ⟨by decide,fun c I=>?_⟩;have ab:=T3.ne I;have bb:c≠h:=fun z=>by subst z;rw[mh] at I;cases I
   have bc:c≠p2:=fun z=>by subst z;rw[m3] at I;cases I
   have aw:C c=none:=e3.none ab I;refine qX (fun aj C'=>∃(cs:List (Str×Str×Rk))(q B D:Option PV),aj=[some (.ref t),some (.ref k),some (.tup (τ.map PV.str)),some (.ref h),some (.str av),some (.ref c),q,B,D]/\C' c=some (.lst (cs.map Gw))/\cs.length<=2/\(∀c∈cs,c.2.2.ok κ.bs τ 1/\c.1∈κ.bs/\c.2.1.length<=8)/\C' h=some (.lst (hs.map Hd.pv))/\C' p2=some (.lst (ss.map PV.str))/\Tp C' t ns/\Ex t C C') (fun L2 a6=>?_) ?_
   .have k3:=hk.ex (e3.put aw (.lst []))
    refine eJ k3.at_ rfl nW (fB k3.bx (i_i ?_));have a4:=T3.new I (.lst []);have a5:Ex t C (gQ C3 c (.lst [])):=e3.put aw _;have a8:gQ C3 c (.lst []) h=some (.lst (hs.map Hd.pv)):=by rw[wQ (Ne.symm bb)];exact mh
    have ba:gQ C3 c (.lst []) p2=some (.lst (ss.map PV.str)):=by rw[wQ (Ne.symm bc)];exact m3
    refine zZ (fun hb=>?_) fun hb=>?_
    .rw [AB] at hb
     have bp:=Aa hb;refine⟨t,3,ns,rfl,a4,by decide,by decide,fun n C4 n0 n1 T4 U=>?_⟩;refine⟨by lia,by lia,?_⟩;refine lK (fun zs J C'=>∃(cs:List (Str×Str×Rk))(q B D:Option PV),J=[some (.ref t),some (.ref k),some (.tup (τ.map PV.str)),some (.ref h),some (.str av),some (.ref c),q,B,D]/\C' c=some (.lst (cs.map Gw))/\cs.length+zs.length<=2/\(∀c∈cs,c.2.2.ok κ.bs τ 1/\c.1∈κ.bs/\c.2.1.length<=8)/\C' h=some (.lst (hs.map Hd.pv))/\C' p2=some (.lst (ss.map PV.str))/\Tp C' t ns/\Ex t C C') ?_ ?_ _ _ _ ⟨[],_,_,_,rfl,U _ _ ab jQ,by rw[AB,Ak];show 0+_<=2;lia,(fun _ z=>nomatch z),U _ _ ai a8,U _ _ a3 ba,T4,a5.trans U⟩
     .rintro z zs J C5 ⟨cs,y6,y7,y8,rfl,mc,aq,af,az,a0,T5,Y⟩ L3 bl
      have k5:=hk.ex Y;refine uQ (eJ k5.at_ rfl nW (eJ k5.at_ rfl nW (fB k5.bx ?_)));have lb:=hk.lb;rw[AB];refine⟨t,_,ns,rfl,T5,bp,by lia,fun i C6 i0 i1 T6 e6=>?_⟩;refine gJ ((k5.ex e6).bx) (jG (f:=PV.str) "" i0 i1) (uQ ⟨by decide,fun p4 ax=>?_⟩);refine⟨t,3,ns,rfl,T6.new ax _,by decide,by decide,fun j C7 j0 j1 T7 e7=>?_⟩
      apply gJ (e7 p4 _ (T6.ne ax) jQ) (jG (f:=PV.str) (ss:=["set","add","times"]) "" j0 j1)
      have bh:Ex t C6 C7:=(Ex.new ax _).trans e7;have au:Ex t C5 C7:=e6.trans bh;refine⟨yV (au _ _ ab mc),⟨t,k,τ,ns,κ,rfl,T7,k5.ex au,bw,fun r C8 g T8 e8=>⟨y0 3 rfl,?_⟩⟩⟩;have ao:Ex t C5 C8:=au.trans e8
      apply zH (ao _ _ ab mc) (by rw[AB];exact AQ (show cs.length < 3 by rw[AV] at aq;lia) (by decide))
      refine bl _ _ ⟨cs++[(_,_,r)],_,_,_,rfl,by rw[jQ,Ac];rfl,by rw[AN,Al];rw[AV] at aq;lia,fun c' ae=>?_,?_,?_,T8.put ab _,(Y.trans ao).put aw _⟩
      .rcases AS.1 ae with ae | ae
       .exact af c' ae
       .cases AE.1 ae;exact⟨g,wW i0 i1,(by decide +kernel:∀s∈(["set","add","times"]:List Str),s.length<=8) _ (wW j0 j1)⟩
      .rw [wQ (Ne.symm bb)];exact ao _ _ ai az
      .rw [wQ (Ne.symm bc)];exact ao _ _ a3 a0
     .rintro J C5 ⟨cs,y6,y7,y8,rfl,mc,aq,af,az,a0,T5,Y⟩
      exact a6 _ _ ⟨cs,_,_,_,rfl,mc,by lia,af,az,a0,T5,Y⟩
    .exact aQ (a6 _ _ ⟨[],_,_,_,rfl,jQ,AY _,(fun _ z=>nomatch z),a8,ba,a4,a5⟩)
   rintro aj C4 ⟨cs,y6,y7,y8,rfl,mc,aq,af,a9,bx,T4,U⟩;refine⟨yV a9,⟨t,3,ns,rfl,T4,by decide,by decide,fun b2 C5 r0 r1 T5 Y=>?_⟩⟩;refine yK ⟨t,2,ns,rfl,T5,by decide,by decide,fun z C6 z0 z1 T6 e6=>?_⟩
   apply vX (kX _ _)
   have ak:=Y.trans e6;refine lJ (ak _ _ ab mc) ⟨y0 4 rfl,?_⟩
   apply zH (ak _ _ ai a9) (by rw[AB];exact AQ (show hs.length < 3 by lia) (by decide))
   refine bj _ _ ⟨by rw[wQ (Ne.symm bf)];exact ak _ _ a3 bx,hs++[⟨av,1+b2,decide (z=0),cs⟩],_,_,_,_,_,rfl,by rw[jQ,Ac];rfl,by rw[AN,Al,hl],br,fun h' ag=>?_,T6.put ai _,(U.trans ak).put hh _⟩
   rcases AS.1 ag with ag | ag
   .exact ho h' ag
   .cases AE.1 ag;exact⟨by lia,af,bq,by lia,by lia⟩
  .rintro J C3 ⟨m3,hs,x4,x5,q,B,D,rfl,mh,hl,hi,ho,T3,e3⟩
   exact hL _ _ ⟨hs,_,_,_,_,_,rfl,mh,by lia,ho,T3,e3⟩
  .rw [wQ bf];exact ay
 rintro aj C' ⟨hs,x4,x5,q,B,D,rfl,mh,hl,ho,T',e'⟩;exact lJ mh (b1 hs C' ho (by lia) T' e')
end
inductive Ln where
 |plain (k:Option Rk) (tag:Str) (sets:List (Str×Rk)) (hands:List Hd) (ls:List Ln)
 |part (k:Option Rk) (name:Str) (gives:List (Str×Rk))
 |give (k:Option Rk) (name:Str) (r:Rk) (ls:List Ln)
 |when (r:Rk) (l1 l2:List Ln)
 |each (name:Str) (r:Rk) (ls:List Ln)
mutual
def Ln.pv:Ln->PV
 |.plain k q s h ls=>.tup [.str "plain",xU k,.str q,.tup (s.map qW),.tup (h.map Hd.pv),.tup (Ln.pvs ls)]
 |.part k n g=>.tup [.str "part",xU k,.str n,.tup (g.map qW)]
 |.give k n r ls=>.tup [.str "give",xU k,.str n,r.pv,.tup (Ln.pvs ls)]
 |.when r l1 l2=>.tup [.str "when",r.pv,.tup (Ln.pvs l1),.tup (Ln.pvs l2)]
 |.each n r ls=>.tup [.str "each",.str n,r.pv,.tup (Ln.pvs ls)]
def Ln.pvs:List Ln->List PV
 |[]=>[]
 |l::ls=>l.pv::Ln.pvs ls
end
theorem Ln.pvs_map ls:Ln.pvs ls=ls.map Ln.pv:=by
 induction ls with
 |nil=>rfl
 |cons l ls g=>rw[BA,<- g];rfl
mutual
def Ln.tw:Ln->Nat
 |.plain _ _ _ _ ls=>1+Ln.tws ls
 |.part _ _ _=>1
 |.give _ _ _ ls=>1+Ln.tws ls
 |.when _ l1 l2=>Ln.tws l1+Ln.tws l2
 |.each _ _ ls=>8 * Ln.tws ls
def Ln.tws:List Ln->Nat
 |[]=>0
 |l::ls=>l.tw+Ln.tws ls
end
mutual
def Ln.pw:Ln->Nat
 |.plain _ _ _ _ ls=>Ln.pws ls
 |.part _ _ _=>1
 |.give _ _ _ ls=>Ln.pws ls
 |.when _ l1 l2=>Ln.pws l1+Ln.pws l2
 |.each _ _ ls=>8 * Ln.pws ls
def Ln.pws:List Ln->Nat
 |[]=>0
 |l::ls=>l.pw+Ln.pws ls
end
def Ln.tws_app xs ys:Ln.tws (xs++ys)=Ln.tws xs+Ln.tws ys:=by
 induction xs with
 |nil=>show _=0+_;rw[BU];rfl
 |cons x xs g=>show x.tw+Ln.tws (xs++ys)=x.tw+Ln.tws xs+Ln.tws ys;lia
def Ln.pws_app xs ys:Ln.pws (xs++ys)=Ln.pws xs+Ln.pws ys:=by
 induction xs with
 |nil=>show _=0+_;rw[BU];rfl
 |cons x xs g=>show x.pw+Ln.pws (xs++ys)=x.pw+Ln.pws xs+Ln.pws ys;lia
def LnOk(bs rs:List Str):Nat->List Str->Ln->Prop
 |0,_,_=>False
 |d+1,τ,.plain k q s h ls=>rC bs τ k/\(fF bs τ 2 s/\s.length<=4)/\((∀x∈h,x.ok bs τ)/\h.length<=4)/\(∀x∈ls,LnOk bs rs d τ x)/\ls.length<=6/\q.length<=8
 |_+1,τ,.part k n g=>rC bs τ k/\n∈rs/\fF bs τ 1 g/\g.length<=4
 |d+1,τ,.give k n r ls=>rC bs τ k/\n∈(["a","ab","b"]:List Str)/\r.ok bs τ 1/\(∀x∈ls,LnOk bs rs d τ x)/\ls.length<=6
 |d+1,τ,.when r l1 l2=>r.ok bs τ 1/\((∀x∈l1,LnOk bs rs d τ x)/\l1.length<=6)/\(∀x∈l2,LnOk bs rs d τ x)/\l2.length<=6
 |d+1,_,.each n r ls=>r.ok bs [] 0/\(∀x∈ls,LnOk bs rs d [n] x)/\ls.length<=6
def LnOk.up: ∀{d}{τ}{l},LnOk bs rs d τ l->LnOk bs rs (d+1) τ l:=by
 intro d
 induction d with
 |zero=>intro τ l h;exact h.elim
 |succ d J =>
  intro τ l h
  cases l with
  |plain k t s O ls=>exact qT h fun h1 h2 B D I=>⟨h1,h2,B,fun x q=>J (D x q),I⟩
  |part k n g=>exact h
  |give k n r ls=>exact qT h fun h1 h2 B D I=>⟨h1,h2,B,fun x q=>J (D x q),I⟩
  |when r l1 l2=>obtain⟨h1,⟨h2,B⟩,D,I⟩:=h;exact⟨h1,⟨fun x q=>J (h2 x q),B⟩,fun x q=>J (D x q),I⟩
  |each n r ls=>exact Vh h fun h1 h2 B=>⟨h1,fun x q=>J (h2 x q),B⟩
def LnOk.mono(h:LnOk bs rs d τ l)(q:d<=e):LnOk bs rs e τ l:=by
 induction q with
 |refl=>exact h
 |step _ g=>exact g.up
structure Chg(κ κ':Kt):Prop where
 b:κ'.b=κ.b
 r:κ'.r=κ.r
 bs:κ'.bs=κ.bs
 rs:κ'.rs=κ.rs
 la:κ'.la=κ.la
 l0:0<=κ'.l
 l1:κ'.l<=κ.l
 p0:0<=κ'.p
 p1:κ'.p<=κ.p
 e0:0<=κ'.e
 e1:κ'.e<=κ.e
structure Kok(κ:Kt)(e:Nat)(τ:List Str):Prop where
 l0:0<=κ.l
 l1:κ.l<=6
 p0:0<=κ.p
 p1:κ.p<=2
 e0:0<=κ.e
 e1:κ.e<=(e:Nat)
 t:0 < e->τ=[]
 ly:0 < κ.e->∀s,κ.la=some s->s∈κ.rs
 tl:τ.length<=4
def Chg.refl(h:Kok κ e τ):Chg κ κ:=⟨rfl,rfl,rfl,rfl,rfl,h.l0,Bg _,h.p0,Bg _,h.e0,Bg _⟩
theorem Chg.trans(h:Chg κ q)(g:Chg q B):Chg κ B:=⟨g.b.trans h.b,g.r.trans h.r,g.bs.trans h.bs,g.rs.trans h.rs,g.la.trans h.la,g.l0,Ce g.l1 h.l1,g.p0,Ce g.p1 h.p1,g.e0,Ce g.e1 h.e1⟩
def Kok.chg(h:Kok κ e τ)(g:Chg κ q):Kok q e τ:=⟨g.l0,Ce g.l1 h.l1,g.p0,Ce g.p1 h.p1,g.e0,Ce g.e1 h.e1,h.t,fun z s hs=>g.rs▸h.ly (Int.lt_of_lt_of_le z g.e1) s (by rwa [<- g.la]),h.tl⟩
def zOf(κ:Kt):Int:=if κ.la.isSome then 16 else 0
def zOf_chg(g:Chg κ q):zOf q=zOf κ :=by simp_all[zOf,g.la]
def mOf(e:Nat):Int:=if e=0 then 1 else 8
def gY(e d:Nat):Nat:=if e=0 then d+1 else d+3
structure Wgt(e:Nat)(τ:List Str)(κ κ':Kt)(extra:Int)(tw pw:Nat):Prop where
 t:(tw:Int)<=mOf e * (extra+(κ.l - κ'.l))
 p:(pw:Int)<=(κ.p - κ'.p)+zOf κ * (κ.e - κ'.e)
 n:τ≠[]->pw=0/\κ'.p=κ.p
theorem ExS.ofEx(h:Ex t C C'):ExS [t,k] C C':=fun b o n e=>h b o (fun z=>n (z▸AF)) e
section
variable {W:Wd}{a:Adr}
inductive sO(ts:List PV)(C:CH)(Q:K1):Prop
 |mk(t k:Addr)(τ:List Str)(ns:List Int)(κ:Kt)(name:Str)(z0:ts=[.ref t,.ref k,.tup (τ.map PV.str),.str name])(z1:Tp C t ns)(z2:KAt C t k κ)(z3:τ.length<=4)(z4:∀(o:Option Rk)(g:List (Str×Rk))(C':CH),rC κ.bs τ o->fF κ.bs τ 1 g->g.length<=4->Tp C' t ns->Ex t C C'->Q (Ln.part o name g).pv C')
def Vl v(h0:0<=v)(h1:v < 4):uH [PV.str "a",PV.str "ab",PV.str "b"] none (some v)=((["a","ab","b"]:List Str).take v.toNat).map PV.str:=by
 have:v=0\/v=1\/v=2\/v=3:=by lia
 rcases this with rfl | rfl | rfl | rfl<;>rfl
def Wf(h:C b=some (.lst xs))(q:Q .non (gQ C b (.lst xs.reverse))):kL (.ref b) [] C Q:=by
 delta kL
 dsimp only
 rwa [h]
def jD(T:Tx W a):Ok W a 6 23 U15 sO:=by
 have S:=(T.F 23 rfl).s;have bQ:=(eZ T).mono (show 1<=5 by decide);have uL:=(Zm T).mono (show 4<=5 by decide);have tK:=vC T 1
 refine(T.F 23 rfl).ok (fun ts C R h=>?_) fun ay A a3 s H E g=>⟨_,(xQ (cs1 4 S.nd (cf (T.F 19 rfl) uL g (qQ (cv 0) (qQ (cv 1) (ca1 (cv 2))))))
  (xQ (cs1 5 S.nd (mW (mX (qQ vQ (qQ vQ (ca1 vQ)))) pJ (fJ (cf (T.F 14 rfl) bQ g (qQ (cv 0) (ca1 zQ))))))
  (xQ (sQ (ct2 bX iQ (cf (T.F 14 rfl) bQ g (qQ (cv 0) (ca1 zQ))) zQ) (kQ (aZ (fI A1 DC DB zF cB (cv 5)))) pQ)
  (kQ (yQ (lQ (qQ vQ (qQ (cv 4) (qQ (cv 3) (ca1 (ctp T.xX (tD rfl (S.c (by decide +kernel)) (S.k rfl rfl rfl (by decide +kernel)) (cv 5) (fun _ _ _ _ _=>wK) (fun _ _ _ _ _=>(lQ (qQ (cv 0) (ca1 (cf (T.F 18 rfl) tK g (qQ (cv 1) (qQ (cv 2) (qQ (cv 3) (ca1 zQ))))))))))))))))))))),?_⟩
 .obtain ⟨t,k,τ,ns,κ,name,rfl,_⟩:=h;rfl
 rintro ts C R ⟨t,k,τ,ns,κ,name,rfl,hT,hk,ao,av⟩;refine uQ ⟨t,k,τ,ns,κ,rfl,hT,hk,ao,fun o C1 ho T1 e1=>uQ ⟨by decide,fun p1 ab=>?_⟩⟩;refine⟨t,4,ns,rfl,T1.new ab _,by decide,by decide,fun v C2 aw ax T2 e2=>?_⟩;have af:Ex t C C2:=fun b o n e=>e2 b o n (Gr.new ab _ _ _ (e1 b o n e));refine kH (e2 p1 _ (T1.ne ab) jQ) fun p2 ae=>?_;rw[Vl v aw ax];have Y:=T2.ne ae;have ah:=af.none Y ae
 generalize ak:(["a","ab","b"]:List Str).take v.toNat=ss;have aj:∀s∈ss,s.length<=8:=fun s hs=>(by decide +kernel:∀s∈(["a","ab","b"]:List Str),s.length<=8) s (BG (ak▸hs));have az:ss.length<=3 :=ak▸An▸Nat.min_le_right _ _;refine qX (fun aq C'=>∃B:List Str,(B.length=ss.length/\∀s∈B,s.length<=8)/\aq=[some (.ref t),some (.ref k),some (.tup (τ.map PV.str)),some (.str name),some (xU o),some (.ref p2)]/\C' p2=some (.lst (B.map PV.str))/\Tp C' t ns/\Ex t C C') (fun L O=>?_) ?_
 .refine ⟨t,2,ns,rfl,T2.new ae _,by decide,by decide,fun z C3 z0 z1 D I=>?_⟩
  have q:=I p2 _ Y jQ;have ag:=(af.put ah _).trans I;refine vX (kX _ _) (zZ (fun U=>?_) fun U=>?_)
  .exact ⟨yV q,Wf q (O _ _ ⟨ss.reverse,⟨Cq,fun s hs=>aj s (List.mem_reverse.1 hs)⟩,rfl,by rw[jQ,List.map_reverse],D.put Y _,ag.put ah _⟩)⟩
  .exact aQ (O _ _ ⟨ss,⟨rfl,aj⟩,rfl,q,D,ag⟩)
 rintro aq C3 ⟨B,⟨a0,au⟩,rfl,q,D,I⟩;refine cl_l q rfl (fU qW (fun r=>r.ok κ.bs τ 1) (fun C'=>Tp C' t ns/\Ex t C C'/\C' p2=some (.lst (B.map PV.str))) (fun _ h=>h.2.2) (by lia) (fun z C4 L ⟨Z,J,m4⟩ O=>?_) (fun bs C4 p3 ⟨Z,J,m4⟩ ai U ar=>?_) ⟨D,I,q⟩)
 .refine ⟨t,k,τ,ns,κ,rfl,Z,hk.ex J,ao,fun r C5 g T5 e5=>⟨y0 2 rfl,O r C5 g ⟨T5,J.trans e5,e5 _ _ Y m4⟩⟩⟩
 .refine lJ jQ ⟨y0 4 rfl,?_⟩
  exact av o bs _ ho (fun c hc=>⟨ar c hc,au c.1 (U▸AU.2 ⟨c,hc,rfl⟩)⟩) (by have:=Bk List.length U;rw[AB] at this;lia) (Z.new ai _) (J.trans (Ex.new ai _))
end
def pH e:mOf e=1\/mOf e=8 :=by grind[mOf]
def Wgt.one(h:Wgt e τ κ B 0 q g):Wgt e τ κ B 1 (1+q) g:=by
 refine⟨?_,h.p,h.n⟩;have:=h.t
 rcases pH e with z | z<;>rw[z] at this ⊢ <;> lia
def Wgt.up(h:Wgt e τ κ B 0 q g):Wgt e τ κ B 1 q g:=by
 refine⟨?_,h.p,h.n⟩;have:=h.t
 rcases pH e with z | z<;>rw[z] at this ⊢ <;> lia
def Wgt.add(h:Wgt e τ κ q x J I)(g:Wgt e τ q S y O p2)(c:Chg κ q):Wgt e τ κ S (x+y) (J+O) (I+p2):=by
 refine⟨?_,?_,fun z=>?_⟩
 .have h1:=h.t
  have h2:=g.t
  rcases pH e with z | z<;>rw[z] at h1 h2 ⊢ <;> lia
 .have h1:=h.p
  have h2:=g.p;rw[zOf_chg c] at h2
  lia
 .obtain ⟨U,B⟩:=h.n z
  obtain⟨Y,D⟩:=g.n z;exact⟨by lia,D.trans B⟩
theorem Wgt.nil: Wgt e τ κ κ 0 0 0:=by
 refine⟨?_,?_,fun _=>⟨rfl,rfl⟩⟩
 .lia
 .lia
theorem KAt.put(h:KAt C t k κ)l p e la:KAt (gQ C k (.dK (cZ κ.b κ.r l p e (jU la)))) t k { κ with l:=l,p:=p,e:=e,la:=la }:=by
 have g:κ.b≠k:=fun z=>by have:=h.bx;rw[z,h.at_] at this;cases this
 have q:κ.r≠k:=fun z=>by have:=h.rx;rw[z,h.at_] at this;cases this
 exact⟨jQ,by rw[wQ g];exact h.bx,by exact(wQ q)▸h.rx,h.nk,h.nb,h.nr,h.lb,h.lr⟩
inductive dB(e d:Nat)(ts:List PV)(C:CH)(Q:K1):Prop
 |mk(t k:Addr)(τ:List Str)(ns:List Int)(κ:Kt)(z0:ts=[.ref t,.ref k,.tup (τ.map PV.str),.int (d:Nat)])(z1:Tp C t ns)(z2:KAt C t k κ)(z3:Kok κ e τ)(z4:∀(ls:List Ln)(κ':Kt)(C':CH),(∀x∈ls,LnOk κ.bs κ.rs (gY e d) τ x)->ls.length<=6->Wgt e τ κ κ' 0 (Ln.tws ls) (Ln.pws ls)->Chg κ κ'->Tp C' t ns->KAt C' t k κ'->ExS [t,k] C C'->Q (.tup (Ln.pvs ls)) C')
inductive bD(e d:Nat)(ts:List PV)(C:CH)(Q:K1):Prop
 |mk(t k:Addr)(τ:List Str)(ns:List Int)(κ:Kt)(z0:ts=[.ref t,.ref k,.tup (τ.map PV.str),.int (d:Nat)])(z1:Tp C t ns)(z2:KAt C t k κ)(z3:Kok κ e τ)(z4:∀(l:Ln)(κ':Kt)(C':CH),LnOk κ.bs κ.rs (gY e d) τ l->Wgt e τ κ κ' 1 l.tw l.pw->Chg κ κ'->Tp C' t ns->KAt C' t k κ'->ExS [t,k] C C'->Q l.pv C')
inductive jP(e d:Nat)(ts:List PV)(C:CH)(Q:K1):Prop
 |mk d'(z0:d=d'+1)(z1:dB e d' ts C Q)
def wR e d:gY e (d+1)=gY e d+1:=by delta gY;split<;>rfl
def zE e d:∃n,gY e d=n+1:=by delta gY;split;exact⟨_,rfl⟩;exact⟨d+2,rfl⟩
section
variable {W:Wd}{a:Adr}
def wC(T:Tx W a)e d r(h7:7<=r)(tV:Ok W a r 26 U0 (jP e d)):
  Ok W a (r+1) 22 U0 (bD e d):=by
 have S:=(T.F 22 rfl).s;have bQ:=(eZ T).mono (show 1<=r by lia);have jV:=(xD T).mono (show 2<=r by lia);have uL:=(Zm T).mono (show 4<=r by lia);have VG:=(W1 T).mono (show 7<=r by lia);have VI:=(W6 T).mono (show 6<=r by lia)
 refine(T.F 22 rfl).ok (fun ts C R h=>?_) fun au A aw s H E q=>⟨_,(xQ (cs1 4 S.nd (cf (T.F 19 rfl) uL q (qQ (cv 0) (qQ (cv 1) (ca1 (cv 2))))))
  (xQ (cs1 5 S.nd (cx (cf (T.F 15 rfl) jV q (qQ (cv 0) (ca1 zQ))) zQ))
  (xQ (cs1 6 S.nd (cf (T.F 20 rfl) VG q (qQ (cv 0) (qQ (cv 1) (qQ (cv 2) (ca1 zQ))))))
  (xQ (cs1 7 S.nd (cf (T.F 21 rfl) VI q (qQ (cv 0) (qQ (cv 1) (ca1 (cv 2))))))
  (xQ (cs1 8 S.nd (lQ pZ))
  (xQ (sQ (cw_pt (cw_and (ct2 wV sJ (cv 3) zQ) (cw_and1 (ct2 bX iQ (cf (T.F 14 rfl) bQ q (qQ (cv 0) (ca1 zQ))) zQ)))) (kQ (cs1 8 S.nd (cf (T.F 26 rfl) tV q (qQ (cv 0) (qQ (cv 1) (qQ (cv 2) (ca1 (eQ iJ jJ (cv 3) zQ)))))))) pQ)
  (kQ (yQ (lQ (qQ vQ (qQ (cv 4) (qQ (cv 5) (qQ (cv 6) (qQ (cv 7) (ca1 (cv 8)))))))))))))))),?_⟩
 .obtain ⟨t,k,τ,ns,κ,rfl,_⟩:=h;rfl
 rintro ts C R ⟨t,k,τ,ns,κ,rfl,hT,U,B,ar⟩;refine uQ ⟨t,k,τ,ns,κ,rfl,hT,U,B.tl,fun o C1 ho T1 Y=>uQ ⟨t,1,ns,rfl,T1,by decide,by decide,fun p ss C2 m2 _ ax hl nd T2 Z=>?_⟩⟩
 obtain⟨D,rfl⟩:∃D,ss=[D]:=by
  match ss,hl with
  |[x],_=>exact⟨x,rfl⟩
 refine gJ m2 rX (uQ ⟨t,k,τ,ns,κ,rfl,T2,(U.ex Y).ex Z,B.tl,fun ps C3 ao ak T3 e3=>uQ ⟨t,k,τ,ns,κ,rfl,T3,((U.ex Y).ex Z).ex e3,B.tl,fun hs C4 ah ag T4 e4=>uQ ⟨by decide,?_⟩⟩⟩);have J:=((Y.trans Z).trans e3).trans e4;have k4:=U.ex J
 have ae:∀ls g C',(∀x∈ls,∃d',d=d'+1/\LnOk κ.bs κ.rs (gY e d') τ x)->ls.length<=6->Wgt e τ κ g 0 (Ln.tws ls) (Ln.pws ls)->Chg κ g->Tp C' t ns->KAt C' t k g->ExS [t,k] C C' ->
   R (.tup [.str "plain",xU o,.str D,.tup (ps.map qW),.tup (hs.map Hd.pv),.tup (Ln.pvs ls)]) C':=by
  intro ls g C' aj ai aq hc T' k' x';refine ar (.plain o D ps hs ls) g C' ?_ aq.one hc T' k' x';obtain⟨n,en⟩:=zE e d;rw[en];refine⟨ho,⟨ao,ak⟩,⟨ah,ag⟩,fun x hx=>?_,ai,nm8 (nd.2 D AF)⟩;obtain⟨d',rfl,av⟩:=aj x hx;rw[wR] at en;have:n=gY e d':=by lia
  rwa [this]
 refine qX (fun ab C'=>∃ls g,ab=[some (.ref t),some (.ref k),some (.tup (τ.map PV.str)),some (.int (d:Nat)),some (xU o),some (.str D),some (.tup (ps.map qW)),some (.tup (hs.map Hd.pv)),some (.tup (Ln.pvs ls))]/\(∀x∈ls,∃d',d=d'+1/\LnOk κ.bs κ.rs (gY e d') τ x)/\ls.length<=6/\Wgt e τ κ g 0 (Ln.tws ls) (Ln.pws ls)/\Chg κ g/\Tp C' t ns/\KAt C' t k g/\ExS [t,k] C C') (fun L hL=>?_) ?_
 .refine i_i (zZ (fun hb=>?_) fun hb=>?_)
  .have hb:=Aa hb
   refine⟨t,2,ns,rfl,T4,by decide,by decide,fun z C5 z0 z1 I O=>?_⟩;refine vX (kX _ _) (zZ (fun af=>?_) fun af=>?_)
   .apply i_i
    obtain⟨d',rfl⟩:∃d',d=d'+1:=⟨d - 1,by lia⟩;refine⟨d',rfl,t,k,τ,ns,κ,?_,I,k4.ex O,B,fun ls g C6 h1 h2 h3 h4 T6 k6 x6=>?_⟩
    .have:((d'+1:Nat):Int) - 1=(d':Nat):=by lia
     rw[this]
    .exact hL _ _ ⟨ls,g,rfl,fun x hx=>⟨d',rfl,h1 x hx⟩,h2,h3,h4,T6,k6,(ExS.ofEx (J.trans O)).trans x6⟩
   .exact aQ (hL _ _ ⟨[],κ,rfl,(fun _ z=>nomatch z),AY _,Wgt.nil,Chg.refl B,I,k4.ex O,ExS.ofEx (J.trans O)⟩)
  .exact gW rfl (aQ (hL _ _ ⟨[],κ,rfl,(fun _ z=>nomatch z),AY _,Wgt.nil,Chg.refl B,T4,k4,ExS.ofEx J⟩))
 rintro ab C5 ⟨ls,g,rfl,h1,h2,h3,h4,I,k5,x5⟩;refine⟨y0 6 rfl,?_⟩;exact ae ls g C5 h1 h2 h3 h4 I k5 x5
end
inductive Xm(e:Nat)(ts:List PV)(C:CH)(Q:K1):Prop
 |mk(t k:Addr)(d:Nat)(ns:List Int)(κ:Kt)(z0:ts=[.ref t,.ref k,.int (d:Nat)])(z1:Tp C t ns)(z2:KAt C t k κ)(z3:Kok κ e [])(z4:0 < κ.e)(z5:∀(l:Ln)(κ':Kt)(C':CH),LnOk κ.bs κ.rs 3 [] l->Wgt e [] κ κ' 1 l.tw l.pw->Chg κ κ'->Tp C' t ns->KAt C' t k κ'->ExS [t,k] C C'->Q l.pv C')
def eqT_s(h1:aU x=some ks)(h2:aU y=some js)(q:Q (.bl (f (decide (ks=js)))) C):cEqT f x y C Q :=by simp_all[cEqT]
theorem aP:∀ss:List Str,zG (ss.map PV.str)=some (ss.map Sum.inr)
 |[]=>rfl
 |s::ss=>by
  show(match kW (.str s),zG (ss.map PV.str) with | some k,some ks=>some (k::ks) | _,_=>none)=_;rw[aP ss]
  rfl
section
variable {W:Wd}{a:Adr}
def fA(T:Tx W a)(e d r:Nat)(h7:7<=r)(tV:Ok W a r 26 U0 (jP e d))(VF:Ok W a r 22 U0 (bD e d))(GT:Ok W a r 24 U4 (Xm e)):
  Ok W a (r+1) 25 U0 (bD e d):=by
 have S:=(T.F 25 rfl).s;have bQ:=(eZ T).mono (show 1<=r by lia);have uL:=(Zm T).mono (show 4<=r by lia);have tK:=(vC T 1).mono (show 5<=r by lia);have xG:=(jD T).mono (show 6<=r by lia)
 refine(T.F 25 rfl).ok (fun ts C R h=>?_) fun a0 A a3 s H E q=>⟨_,(xQ (cs1 4 S.nd (cf (T.F 14 rfl) bQ q (qQ (cv 0) (ca1 zQ))))
  (xQ (sQ (cw_pt (cw_and (ct2 rY mV (cv 4) zQ) (cw_and (ct2 wV sJ (nZ (qZ q) (cv 1) vQ (fun _ _=>rfl)) zQ) (cw_and (ct2 wV sJ (cln T.sZ (nZ (qZ q) (cv 1) vQ (fun _ _=>rfl))) zQ) (cw_and1 (ct2 (op_eqTK (YK q)) cop_eqT (cv 2) (lQ pZ))))))) (xQ (cW (qZ q) (cv 1) vQ (eQ iJ jJ (nZ (qZ q) (cv 1) vQ (fun _ _=>rfl)) zQ))
  (kQ (yQ (cf (T.F 23 rfl) xG q (qQ (cv 0) (qQ (cv 1) (qQ (cv 2) (ca1 (cx (nZ (qZ q) (cv 1) vQ (fun _ _=>rfl)) (cf (T.F 14 rfl) bQ q (qQ (cv 0) (ca1 (cln T.sZ (nZ (qZ q) (cv 1) vQ (fun _ _=>rfl))))))))))))))) pQ)
  (xQ (sQ (cw_pt (cw_and (ct2 bX iQ (cv 4) zQ) (cw_and1 (ct2 wV sJ (cv 3) zQ)))) (xQ (cs1 5 S.nd (cx (mX (qQ vQ (qQ vQ (ca1 vQ)))) (cf (T.F 14 rfl) bQ q (qQ (cv 0) (ca1 zQ)))))
  (xQ (cs1 6 S.nd (cf (T.F 19 rfl) uL q (qQ (cv 0) (qQ (cv 1) (ca1 (cv 2))))))
  (kQ (yQ (lQ (qQ vQ (qQ (cv 6) (qQ (cv 5) (qQ (cf (T.F 18 rfl) tK q (qQ (cv 0) (qQ (cv 1) (qQ (cv 2) (ca1 zQ))))) (ca1 (cf (T.F 26 rfl) tV q (qQ (cv 0) (qQ (cv 1) (qQ (cv 2) (ca1 (eQ iJ jJ (cv 3) zQ)))))))))))))))) pQ)
  (xQ (sQ (cw_pt (cw_and (ct2 bX iQ (cv 4) zQ) (cw_and1 (ct2 wV sJ (cv 3) zQ)))) (xQ (cs1 7 S.nd (cf (T.F 18 rfl) tK q (qQ (cv 0) (qQ (cv 1) (qQ (cv 2) (ca1 zQ))))))
  (xQ (cs1 8 S.nd (cf (T.F 26 rfl) tV q (qQ (cv 0) (qQ (cv 1) (qQ (cv 2) (ca1 (eQ iJ jJ (cv 3) zQ)))))))
  (kQ (yQ (lQ (qQ vQ (qQ (cv 7) (qQ (cv 8) (ca1 (cf (T.F 26 rfl) tV q (qQ (cv 0) (qQ (cv 1) (qQ (cv 2) (ca1 (eQ iJ jJ (cv 3) zQ))))))))))))))) pQ)
  (xQ (sQ (cw_pt (cw_and (ct2 wV sJ (cv 4) zQ) (cw_and1 (ct2 wV sJ (nZ (qZ q) (cv 1) vQ (fun _ _=>rfl)) zQ)))) (kQ (yQ (cf (T.F 24 rfl) GT q (qQ (cv 0) (qQ (cv 1) (ca1 (cv 3))))))) pQ)
  (kQ (yQ (cf (T.F 22 rfl) VF q (qQ (cv 0) (qQ (cv 1) (qQ (cv 2) (ca1 (cv 3))))))))))))),?_⟩
 .obtain ⟨t,k,τ,ns,κ,rfl,_⟩:=h;rfl
 rintro ts C R ⟨t,k,τ,ns,κ,rfl,hT,hk,D,af⟩;refine uQ ⟨t,9,ns,rfl,hT,by decide,by decide,fun v C1 a4 a5 T1 e1=>?_⟩;have J:=hk.ex e1;obtain⟨dn,ah⟩:=zE e d
 have ao:∀(ls:List Ln),(∀x∈ls,∃d',d=d'+1/\LnOk κ.bs κ.rs (gY e d') τ x)->∀x∈ls,LnOk κ.bs κ.rs dn τ x:=by
  intro ls h x hx;obtain⟨d',rfl,h'⟩:=h x hx;rw[wR] at ah;have:dn=gY e d':=by lia
  rw[this];exact h'
 refine qX (fun O C'=>C'=C1/\O=[some (.ref t),some (.ref k),some (.tup (τ.map PV.str)),some (.int (d:Nat)),some (.int v),none,none,none,none]) (fun L I=>?_) ?_
 .refine i_i (zZ (fun hb=>?_) fun hb=>?_)
  .refine eJ J.at_ rfl lT (i_i (zZ (fun B=>?_) fun B=>?_))
   .refine eJ J.at_ rfl mN (fB J.rx (i_i (zZ (fun ae=>?_) fun ae=>?_)))
    .refine ⟨y0 0 rfl,eqT_s (ks:=τ.map Sum.inr) (js:=[]) (aP τ) rfl (zZ (fun ar=>?_) fun ar=>?_)⟩
     .have ak:τ=[]:=List.map_eq_nil_iff.1 (Aa ar)
      have B:=Aa B;rw[AB] at ae;have ae:=Aa ae;refine oX (eJ J.at_ rfl lT (i_i (tG J.at_ rfl (by show 6<=1000;decide) ?_)));rw[KM];have k2:=J.put κ.l (κ.p - 1) κ.e κ.la;have T2:=T1.put J.nk (.dK (cZ κ.b κ.r κ.l (κ.p - 1) κ.e (jU κ.la)));refine eJ k2.at_ rfl mN (eJ k2.at_ rfl mN (fB k2.rx ?_));have lr:=hk.lr;have el:(κ.rs.map PV.str).length=κ.rs.length:=AB _
      refine⟨t,_,ns,rfl,T2,by rw[el];exact ae,by rw[el];lia,fun i C3 i0 Y T3 e3=>?_⟩;have Y:i < (((κ.rs.map PV.str).length:Nat):Int):=Y;rw[el] at Y;have k3:=k2.ex e3;refine gJ k3.rx (jG (f:=PV.str) "" i0 Y) ⟨t,k,τ,ns,{ κ with p:=κ.p - 1 },_,rfl,T3,k3,D.tl,fun o g C4 ho hg ay T4 U=>?_⟩;have p0:=D.p0;refine af _ { κ with p:=κ.p - 1 } C4 ?_ ?_ ?_ T4 (k3.ex U) ?_
      .rw [ah];exact⟨ho,wW i0 Y,hg,ay⟩
      .refine ⟨?_,?_,fun z=>absurd ak z⟩
       .show ((1:Nat):Int)<=mOf e * (1+(κ.l - κ.l))
        rcases pH e with z | z<;>rw[z]<;>lia
       .show ((1:Nat):Int)<=(κ.p - (κ.p - 1))+zOf κ * (κ.e - κ.e)
        rw[Int.sub_self κ.e,Int.mul_zero];lia
      .exact ⟨rfl,rfl,rfl,rfl,rfl,D.l0,Bg _,by lia,by lia,D.e0,Bg _⟩
      .exact (((ExS.ofEx e1).at (by simp) _).trans (ExS.ofEx e3)).trans (ExS.ofEx U)
     .exact aQ (I _ _ ⟨rfl,rfl⟩)
    .exact gW rfl (aQ (I _ _ ⟨rfl,rfl⟩))
   .exact gW rfl (aQ (I _ _ ⟨rfl,rfl⟩))
  .exact gW rfl (aQ (I _ _ ⟨rfl,rfl⟩))
 rintro O C' ⟨rfl,rfl⟩;refine qX (fun O ai=>ai=C'/\O=[some (.ref t),some (.ref k),some (.tup (τ.map PV.str)),some (.int (d:Nat)),some (.int v),none,none,none,none]) (fun L I=>?_) ?_
 .refine vX (kX _ _) (zZ (fun hb=>?_) fun hb=>?_)
  .refine i_i (zZ (fun B=>?_) fun B=>?_)
   .have B:=Aa B
    obtain⟨d',rfl⟩:∃d',d=d'+1:=⟨d - 1,by lia⟩;refine uQ ⟨by decide,fun p hp=>?_⟩;refine⟨t,3,ns,rfl,T1.new hp _,by decide,by decide,fun i C2 i0 Y T2 e2=>?_⟩
    apply gJ (e2 p _ (T1.ne hp) jQ) (jG (f:=PV.str) (ss:=["a","ab","b"]) "" i0 Y)
    have ag:Ex t C C2:=fun b o n z=>e2 b o n (Gr.new hp _ _ _ (e1 b o n z));refine uQ ⟨t,k,τ,ns,κ,rfl,T2,hk.ex ag,D.tl,fun o C3 ho T3 e3=>⟨t,k,τ,ns,κ,rfl,T3,(hk.ex ag).ex e3,D.tl,fun aq C4 aj T4 U=>i_i ⟨d',rfl,t,k,τ,ns,κ,?_,T4,((hk.ex ag).ex e3).ex U,D,fun ls ab C5 h1 h2 h3 h4 Z k5 x5=>⟨y0 5 rfl,?_⟩⟩⟩⟩
    .have:((d'+1:Nat):Int) - 1=(d':Nat):=by lia
     rw[this]
    refine af (.give o _ aq ls) ab C5 ?_ h3.one h4 Z k5 ((ExS.ofEx ((ag.trans e3).trans U)).trans x5);rw[ah];exact⟨ho,wW (ss:=["a","ab","b"]) i0 Y,aj,ao ls fun x hx=>⟨d',rfl,h1 x hx⟩,h2⟩
   .exact aQ (I _ _ ⟨rfl,rfl⟩)
  .exact gW rfl (aQ (I _ _ ⟨rfl,rfl⟩))
 rintro O ai ⟨rfl,rfl⟩;refine qX (fun O C'=>C'=ai/\O=[some (.ref t),some (.ref k),some (.tup (τ.map PV.str)),some (.int (d:Nat)),some (.int v),none,none,none,none]) (fun L I=>?_) ?_
 .refine vX (kX _ _) (zZ (fun hb=>?_) fun hb=>?_)
  .refine i_i (zZ (fun B=>?_) fun B=>?_)
   .have B:=Aa B
    obtain⟨d',rfl⟩:∃d',d=d'+1:=⟨d - 1,by lia⟩;have ed:((d'+1:Nat):Int) - 1=(d':Nat):=by lia
    refine uQ ⟨t,k,τ,ns,κ,rfl,T1,J,D.tl,fun aq C4 aj T4 U=>uQ (i_i ⟨d',rfl,t,k,τ,ns,κ,by rw[ed],T4,J.ex U,D,fun ls ab C5 h1 h2 h3 h4 Z k5 x5=>?_⟩)⟩;refine i_i ⟨d',rfl,t,k,τ,ns,ab,by rw[ed],Z,k5,D.chg h4,fun au az C6 av aw ax g4 T6 k6 x6=>⟨y0 4 rfl,?_⟩⟩;refine af (.when aq ls au) az C6 ?_ (Wgt.up (h3.add ax h4)) (h4.trans g4) T6 k6 (((ExS.ofEx (e1.trans U)).trans x5).trans x6)
    rw[ah];refine⟨aj,⟨ao ls fun x hx=>⟨d',rfl,h1 x hx⟩,h2⟩,ao au fun x hx=>⟨d',rfl,?_⟩,aw⟩;have:=av x hx;rw[h4.bs,h4.rs] at this;exact this
   .exact aQ (I _ _ ⟨rfl,rfl⟩)
  .exact gW rfl (aQ (I _ _ ⟨rfl,rfl⟩))
 rintro O C2 ⟨rfl,rfl⟩;refine qX (fun O C'=>C'=C2/\O=[some (.ref t),some (.ref k),some (.tup (τ.map PV.str)),some (.int (d:Nat)),some (.int v),none,none,none,none]) (fun L I=>?_) ?_
 .refine i_i (zZ (fun hb=>?_) fun hb=>?_)
  .refine eJ J.at_ rfl pN (i_i (zZ (fun B=>?_) fun B=>?_))
   .have B:=Aa B
    have ak:=D.t (by have:=D.e1;lia);subst ak;refine⟨t,k,d,ns,κ,rfl,T1,J,D,B,fun l ab C5 h1 h2 h3 Z k5 x5=>af l ab C5 (h1.mono ?_) h2 h3 Z k5 ((ExS.ofEx e1).trans x5)⟩;have:=D.e1
    delta gY
    rw[AX (by lia)]
    lia
   .exact aQ (I _ _ ⟨rfl,rfl⟩)
  .exact gW rfl (aQ (I _ _ ⟨rfl,rfl⟩))
 rintro O C3 ⟨rfl,rfl⟩;exact⟨t,k,τ,ns,κ,rfl,T1,J,D,fun l ab C5 h1 h2 h3 Z k5 x5=>af l ab C5 h1 h2 h3 Z k5 ((ExS.ofEx e1).trans x5)⟩
end
def Ln.pvs_app xs ys:Ln.pvs (xs++ys)=Ln.pvs xs++Ln.pvs ys :=by grind[Ln.pvs_map,List.map_append]
def Ln.pvs_len xs:(Ln.pvs xs).length=xs.length:=by rw[Ln.pvs_map,AB]
def Wgt.pay(h:Wgt e τ { κ with l:=κ.l - 1 } g 1 D B):Wgt e τ κ g 0 D B:=by
 refine⟨?_,h.p,h.n⟩;have:=h.t;have q:1+(κ.l - 1 - g.l)=0+(κ.l - g.l):=by lia
 rwa [q] at this
theorem KAt.upd(h:KAt C t k κ)(g:p≠k)(q:p≠κ.b)(B:p≠κ.r)o:KAt (gQ C p o) t k κ :=
 ⟨by rw[wQ (Ne.symm g)];exact h.at_,by rw[wQ (Ne.symm q)];exact h.bx,by exact(wQ (Ne.symm B))▸h.rx,h.nk,h.nb,h.nr,h.lb,h.lr⟩
section
variable {W:Wd}{a:Adr}
def QR(T:Tx W a)e d r(h1:1<=r)(mS:Ok W a r 25 U0 (bD e d)):
  Ok W a (r+1) 26 U0 (dB e d):=by
 have S:=(T.F 26 rfl).s;have bQ:=(eZ T).mono (show 1<=r by lia)
 refine(T.F 26 rfl).ok (fun ts C R h=>?_) fun ax A a3 s H E hr=>⟨_,(xQ (cs1 4 S.nd (mX pZ))
  (xQ (gM PassesOwn.never rfl rfl T.pW (ca1 (eQ iJ jJ (eQ uX gX zQ (cf (T.F 14 rfl) bQ hr (qQ (cv 0) (ca1 zQ)))) (lZ cG eD rfl T.rM rfl (ca1 (iK rY mV (cv 3) zQ (uW _)))))) (cg1 5 S.nd) (kQ (sQ (ct2 wV sJ (nZ (qZ hr) (cv 1) vQ (fun _ _=>rfl)) zQ) (xQ (cW (qZ hr) (cv 1) vQ (eQ iJ jJ (nZ (qZ hr) (cv 1) vQ (fun _ _=>rfl)) zQ))
  (kQ (aZ (cap (cv 4) (cf (T.F 25 rfl) mS hr (qQ (cv 0) (qQ (cv 1) (qQ (cv 2) (ca1 (cv 3)))))))))) pQ)))
  (kQ (yQ (ctp T.xX (cv 4)))))),?_⟩
 .obtain ⟨t,k,τ,ns,κ,rfl,_⟩:=h;rfl
 rintro ts C R ⟨t,k,τ,ns,κ,rfl,hT,hk,aj,av⟩;refine uQ ⟨by decide,fun h B=>?_⟩;have ag:=hT.ne B;have af:h≠k:=fun z=>by subst z;rw[hk.at_] at B;cases B
 have nS:h∉[t,k]:=fun z=>by
  rcases Ai.1 z with z | z
  .exact ag z
  .exact af (AE.1 z)
 have az:h≠κ.b:=fun z=>by rw[z,hk.bx] at B;cases B
 have a0:h≠κ.r:=fun z=>by rw[z,hk.rx] at B;cases B
 have e1:Ex t C (gQ C h (.lst [])):=Ex.new B _;refine qX (fun ak C'=>∃ls J I,ak=[some (.ref t),some (.ref k),some (.tup (τ.map PV.str)),some (.int (d:Nat)),some (.ref h),I]/\C' h=some (.lst (Ln.pvs ls))/\(∀x∈ls,LnOk κ.bs κ.rs (gY e d) τ x)/\ls.length<=3/\Wgt e τ κ J 0 (Ln.tws ls) (Ln.pws ls)/\Chg κ J/\Tp C' t ns/\KAt C' t k J/\ExS [t,k] C C') (fun L hL=>?_) ?_
 .refine ⟨t,3,ns,rfl,hT.new B _,by decide,by decide,fun v C2 a4 a5 T2 e2=>?_⟩
  refine yK (i_i (Xe (i_i ?_)));generalize hn:1+v - (if decide ((d:Int) < 2)=true then (1:Int) else 0)=n;have ay:n<=3/\0<=n:=by rw[<- hn];split<;>lia
  refine⟨by lia,by lia,?_⟩;refine lK (fun zs ρ C'=>∃ls J I,ρ=[some (.ref t),some (.ref k),some (.tup (τ.map PV.str)),some (.int (d:Nat)),some (.ref h),I]/\C' h=some (.lst (Ln.pvs ls))/\(∀x∈ls,LnOk κ.bs κ.rs (gY e d) τ x)/\ls.length+zs.length<=3/\Wgt e τ κ J 0 (Ln.tws ls) (Ln.pws ls)/\Chg κ J/\Tp C' t ns/\KAt C' t k J/\ExS [t,k] C C') ?_ ?_ _ _ _ ⟨[],κ,_,rfl,e2 _ _ ag jQ,(fun _ z=>nomatch z),by rw[AB,Ak];show 0+_<=3;lia,Wgt.nil,Chg.refl aj,T2,(hk.ex e1).ex e2,ExS.ofEx (e1.trans e2)⟩
  .rintro z zs ρ C3 ⟨ls,g,I,rfl,mh,U,ab,Y,q,O,D,Z⟩ L3 ah
   have au:=aj.chg q;refine eJ D.at_ rfl qY (i_i (zZ (fun hb=>?_) fun hb=>?_))
   .have hb:=Aa hb
    refine oX (eJ D.at_ rfl qY (i_i (tG D.at_ rfl (by show 6<=1000;decide) ?_)));rw[eF];have k4:=D.put (g.l - 1) g.p g.e g.la;have T4:=O.put D.nk (.dK (cZ g.b g.r (g.l - 1) g.p g.e (jU g.la)));have ai:gQ C3 k (.dK (cZ g.b g.r (g.l - 1) g.p g.e (jU g.la))) h=some (.lst (Ln.pvs ls)):=by rwa [wQ af]
    have c4:Chg g { g with l:=g.l - 1 }:=⟨rfl,rfl,rfl,rfl,rfl,by lia,by lia,q.p0,Bg _,q.e0,Bg _⟩;refine⟨yV ai,⟨t,k,τ,ns,_,rfl,T4,k4,au.chg c4,fun l aw C5 ao aq ae T5 k5 I=>?_⟩⟩;have ar:=I h _ nS ai
    apply zH ar (by rw[Ln.pvs_len];exact AQ (show ls.length < 4 by lia) (by decide))
    refine ah _ _ ⟨ls++[l],aw,_,rfl,by rw[jQ,Ln.pvs_app];rfl,fun x hx=>?_,by rw[AN,Al];rw[AV] at ab;lia,?_,q.trans (c4.trans ae),T5.put ag _,?_,?_⟩
    .rcases AS.1 hx with hx | hx
     .exact U x hx
     .cases AE.1 hx
      have:=ao
      rwa [q.bs,q.rs] at this
    .rw [Ln.tws_app,Ln.pws_app]
     have:=Y.add aq.pay q;exact this
    .exact k5.upd af (by rw[ae.b];rwa [q.b]) (by rw[ae.r];rwa [q.r]) _
    .exact (((Z.at (by simp) _).trans I).put B _)
   .exact aQ (ah _ _ ⟨ls,g,_,rfl,mh,U,by rw[AV] at ab;lia,Y,q,O,D,Z⟩)
  .rintro ρ C3 ⟨ls,g,I,rfl,mh,U,ab,Y,q,O,D,Z⟩
   exact hL _ _ ⟨ls,g,_,rfl,mh,U,by lia,Y,q,O,D,Z⟩
 rintro ak C3 ⟨ls,g,I,rfl,mh,U,ab,Y,q,O,D,Z⟩;exact lJ mh (av ls g C3 U (by lia) Y q O D Z)
structure EI(C0 C:CH)(t k h:Addr)(ns:List Int)(κ κ':Kt)(name:Str)(ls:List Ln)(m:Nat):Prop where
 mh:C h=some (.lst (Ln.pvs ls))
 ok:∀x∈ls,LnOk κ.bs κ.rs 2 [name] x
 len:ls.length+m<=2
 tw:(Ln.tws ls:Int)<=κ.l - κ'.l
 pw:Ln.pws ls<=if κ.la.isSome then ls.length else 0
 ch:Chg κ κ'
 p:κ'.p=κ.p
 e:κ'.e=κ.e
 tp:Tp C t ns
 kt:KAt C t k κ'
 ex:ExS [t,k] C0 C
def ok_each(T:Tx W a)(r:Nat)(h1:6<=r)(mS:Ok W a r 25 U0 (bD 0 1)):
  Ok W a (r+1) 24 U4 (Xm 1):=by
 have S:=(T.F 24 rfl).s;have bQ:=(eZ T).mono (show 1<=r by lia);have jV:=(xD T).mono (show 2<=r by lia);have oB:=(pA T).mono (show 3<=r by lia);have xG:=(jD T).mono (show 6<=r by lia)
 refine(T.F 24 rfl).ok (fun ts C R h=>?_) fun bx A b7 s H E B=>⟨_,(xQ (cW (qZ B) (cv 1) vQ (eQ iJ jJ (nZ (qZ B) (cv 1) vQ (fun _ _=>rfl)) zQ))
  (xQ (cs1 3 S.nd (cx (cf (T.F 15 rfl) jV B (qQ (cv 0) (ca1 zQ))) zQ))
  (xQ (cs1 4 S.nd (lQ (qQ vQ (ca1 (cf (T.F 14 rfl) bQ B (qQ (cv 0) (ca1 zQ)))))))
  (xQ (sQ (ct2 bX iQ (cf (T.F 14 rfl) bQ B (qQ (cv 0) (ca1 zQ))) zQ) (kQ (cs1 4 S.nd (cf (T.F 17 rfl) oB B (qQ (cv 0) (qQ (cv 1) (ca1 (lQ pZ))))))) pQ)
  (xQ (cs1 5 S.nd (cQ (iW rfl) fM rfl T.gT rfl (qQ zQ (ca1 (eQ uX gX (eQ iJ jJ (nZ (qZ B) (cv 1) vQ (fun _ _=>rfl)) zQ) (lZ cG eD rfl T.rM rfl (ca1 (iK kA gR (nZ (qZ B) (cv 1) vQ (fun _ _=>rfl)) hV (uW _)))))))))
  (xQ (cW (qZ B) (cv 1) vQ (eQ iJ jJ (nZ (qZ B) (cv 1) vQ (fun _ _=>rfl)) (cv 5)))
  (xQ (cs1 6 S.nd (mX pZ))
  (xQ (gM PassesOwn.never rfl rfl T.pW (ca1 (eQ uX gX zQ (cf (T.F 14 rfl) bQ B (qQ (cv 0) (ca1 zQ))))) (cg1 7 S.nd) (kQ (sQ (ct2 wV sJ (nZ (qZ B) (cv 1) vQ (fun _ _=>rfl)) zQ) (xQ (cW (qZ B) (cv 1) vQ (eQ iJ jJ (nZ (qZ B) (cv 1) vQ (fun _ _=>rfl)) zQ))
  (kQ (sQ (cw_pt (cw_and (ct2 kA gR (nZ (qZ B) (cv 1) vQ (fun _ _=>rfl)) hV) (cw_and1 (ct2 bX iQ (cf (T.F 14 rfl) bQ B (qQ (cv 0) (ca1 zQ))) zQ)))) (kQ (aZ (cap (cv 6) (cf (T.F 23 rfl) xG B (qQ (cv 0) (qQ (cv 1) (qQ (lQ (ca1 (cv 3))) (ca1 (nZ (qZ B) (cv 1) vQ (fun _ _=>rfl)))))))))) (kQ (aZ (cap (cv 6) (cf (T.F 25 rfl) mS B (qQ (cv 0) (qQ (cv 1) (qQ (lQ (ca1 (cv 3))) (ca1 zQ))))))))))) pQ)))
  (xQ (cW (qZ B) (cv 1) vQ (eQ uX gX (nZ (qZ B) (cv 1) vQ (fun _ _=>rfl)) (cv 5)))
  (kQ (yQ (lQ (qQ vQ (qQ (cv 3) (qQ (cv 4) (ca1 (ctp T.xX (cv 6)))))))))))))))))),?_⟩
 .obtain ⟨t,k,d,ns,κ,rfl,_⟩:=h;rfl
 rintro ts C R ⟨t,k,d,ns,κ,rfl,hT,hk,ae,bh,br⟩;have b6:κ.e=1:=by have:=ae.e1;lia
 refine oX (eJ hk.at_ rfl pN (i_i (tG hk.at_ rfl (by show 6<=1000;decide) ?_)));rw[Ze]
 try dsimp only
 have k1:=hk.put κ.l κ.p (κ.e - 1) κ.la;have T1:=hT.put hk.nk (.dK (cZ κ.b κ.r κ.l κ.p (κ.e - 1) (jU κ.la)));have x1:ExS [t,k] C (gQ C k (.dK (cZ κ.b κ.r κ.l κ.p (κ.e - 1) (jU κ.la)))):=ExS.refl.at (by simp) _;refine uQ ⟨t,1,ns,rfl,T1,by decide,by decide,fun p ss C2 m2 _ b9 hl nd T2 e2=>?_⟩;have hl:ss.length=1:=hl
 obtain⟨name,rfl⟩:∃bt,ss=[bt]:=by
  match ss,hl with
  |[x],_=>exact⟨x,rfl⟩
 refine gJ m2 rX (uQ ⟨t,4,ns,rfl,T2,by decide,by decide,fun v C3 cg cj T3 e3=>⟨y0 2 rfl,?_⟩⟩);have k3:=(k1.ex e2).ex e3;have x3:ExS [t,k] C C3:=x1.trans (ExS.ofEx (e2.trans e3));refine qX (fun ab C'=>∃O:Rk,O.ok κ.bs [] 0/\ab=[some (.ref t),some (.ref k),some (.int (d:Nat)),some (.str name),some O.pv,none,none,none]/\Tp C' t ns/\Ex t C3 C') (fun L hL=>?_) ?_
 .refine ⟨t,3,ns,rfl,T3,by decide,by decide,fun z C4 z0 z1 T4 e4=>?_⟩
  refine vX (kX _ _) (zZ (fun hb=>?_) fun hb=>?_)
  .refine ⟨by decide,?_⟩
   exact⟨t,k,[],ns,_,rfl,T4,k3.ex e4,AY _,fun O C5 au T5 e5=>hL _ _ ⟨O,au,rfl,T5,e4.trans e5⟩⟩
  .exact aQ (hL _ _ ⟨.num v,⟨by lia,by lia⟩,rfl,T4,e4⟩)
 rintro ab C4 ⟨O,au,rfl,T4,e4⟩;have k4:=k3.ex e4;have x4:ExS [t,k] C C4:=x3.trans (ExS.ofEx e4);refine uQ (eJ k4.at_ rfl qY (i_i (eJ k4.at_ rfl fN (Xe (yK (bC ?_))))));generalize bp:(if κ.l - 3+(if (!zB (jU κ.la))=true then (1:Int) else 0) > 0 then κ.l - 3+(if (!zB (jU κ.la))=true then (1:Int) else 0) else 0)=sp;have cb:0<=sp/\sp<=κ.l:=by have:=ae.l0;rw[<- bp];split<;>split<;>lia
 refine oX (eJ k4.at_ rfl qY (i_i (tG k4.at_ rfl (by show 6<=1000;decide) ?_)));rw[eF];have k5:KAt _ t k { κ with l:=κ.l - sp,e:=κ.e - 1 }:=k4.put (κ.l - sp) κ.p (κ.e - 1) κ.la;have T5:=T4.put hk.nk (.dK (cZ κ.b κ.r (κ.l - sp) κ.p (κ.e - 1) (jU κ.la)));have x5:ExS [t,k] C (gQ C4 k (.dK (cZ κ.b κ.r (κ.l - sp) κ.p (κ.e - 1) (jU κ.la)))):=x4.at (by simp) _;generalize gQ C4 k (.dK (cZ κ.b κ.r (κ.l - sp) κ.p (κ.e - 1) (jU κ.la)))=C5 at k5 T5 x5 ⊢
 try dsimp only
 refine uQ ⟨by decide,fun h hh=>?_⟩;have ai:=T5.ne hh;have ah:h≠k:=fun z=>by subst z;rw[k5.at_] at hh;cases hh
 have a7:h≠κ.b:=fun z=>by have:=k5.bx;rw[<- z,hh] at this;cases this
 have a8:h≠κ.r:=fun z=>by have:=k5.rx;rw[<- z,hh] at this;cases this
 have nS:h∉[t,k]:=fun z=>by
  rcases Ai.1 z with z | z
  .exact ai z
  .exact ah (AE.1 z)
 have a5:C h=none:=x5.none nS hh;have c5:Chg κ { κ with l:=κ.l - sp,e:=κ.e - 1 }:=⟨rfl,rfl,rfl,rfl,rfl,by show 0<=κ.l - sp;lia,by show κ.l - sp<=κ.l;lia,ae.p0,Bg _,by lia,by lia⟩;have a9:Kok { κ with l:=κ.l - sp,e:=κ.e - 1 } 0 [name]:=⟨c5.l0,Ce c5.l1 ae.l1,ae.p0,ae.p1,c5.e0,by lia,fun z=>absurd z (by decide),fun z=>absurd (show(0:Int) < κ.e - 1 from z) (by lia),by show 1<=4;decide⟩
 refine qX (fun ab C'=>∃(ls:List Ln)(aj:Kt)(Z:Option PV),ab=[some (.ref t),some (.ref k),some (.int (d:Nat)),some (.str name),some O.pv,some (.int sp),some (.ref h),Z]/\EI C C' t k h ns { κ with l:=κ.l - sp,e:=κ.e - 1 } aj name ls 0) (fun L hL=>?_) ?_
 .refine ⟨t,2,ns,rfl,T5.new hh _,by decide,by decide,fun ck C6 cn cq T6 e6=>?_⟩
  refine yK ⟨by lia,by lia,?_⟩;have k6:KAt C6 t k { κ with l:=κ.l - sp,e:=κ.e - 1 }:=(k5.upd ah a7 a8 _).ex e6;refine lK (fun zs ρ C'=>∃(ls:List Ln)(aj:Kt)(Z:Option PV),ρ=[some (.ref t),some (.ref k),some (.int (d:Nat)),some (.str name),some O.pv,some (.int sp),some (.ref h),Z]/\EI C C' t k h ns { κ with l:=κ.l - sp,e:=κ.e - 1 } aj name ls zs.length) ?_ ?_ _ _ _ ⟨[],_,_,rfl,⟨e6 _ _ ai jQ,(fun _ z=>nomatch z),by rw[AB,Ak];show 0+_<=2;lia,by show(0:Int)<=_ - _;lia,AY _,Chg.refl a9,rfl,rfl,T6,k6,(x5.put a5 _).trans (ExS.ofEx e6)⟩⟩
  .rintro z zs ρ C7 ⟨ls,q,Z,rfl,I⟩ L3 ar
   have ba:=a9.chg I.ch;have bl:=I.len;rw[AV] at bl;refine eJ I.kt.at_ rfl qY (i_i (zZ (fun hb=>?_) fun hb=>?_))
   .have hb:=Aa hb
    refine oX (eJ I.kt.at_ rfl qY (i_i (tG I.kt.at_ rfl (by show 6<=1000;decide) ?_)));rw[eF];have k8:=I.kt.put (q.l - 1) q.p q.e q.la;have T8:=I.tp.put hk.nk (.dK (cZ q.b q.r (q.l - 1) q.p q.e (jU q.la)));have ag:gQ C7 k (.dK (cZ q.b q.r (q.l - 1) q.p q.e (jU q.la))) h=some (.lst (Ln.pvs ls)):=by rw[wQ ah];exact I.mh
    have x8:ExS [t,k] C (gQ C7 k (.dK (cZ q.b q.r (q.l - 1) q.p q.e (jU q.la)))):=I.ex.at (by simp) _;generalize gQ C7 k (.dK (cZ q.b q.r (q.l - 1) q.p q.e (jU q.la)))=C8 at k8 T8 ag x8 ⊢;have k8:KAt C8 t k { q with l:=q.l - 1 }:=k8;have c8:Chg q { q with l:=q.l - 1 }:=⟨rfl,rfl,rfl,rfl,rfl,by lia,by lia,I.ch.p0,Bg _,I.ch.e0,Bg _⟩;have a0:q.la=κ.la:=I.ch.la
    have a6:∀(l:Ln)(D:Kt)(J:CH),LnOk κ.bs κ.rs 2 [name] l->(l.tw:Int)<=1+(q.l - 1 - D.l)->(l.pw<=if κ.la.isSome then 1 else 0)->Chg { q with l:=q.l - 1 } D->D.p=q.p->D.e=q.e->Tp J t ns->KAt J t k D->ExS [t,k] C8 J->(∀ab C',(∃(ls:List Ln)(aj:Kt)(Z:Option PV),ab=[some (.ref t),some (.ref k),some (.int (d:Nat)),some (.str name),some O.pv,some (.int sp),some (.ref h),Z]/\EI C C' t k h ns { κ with l:=κ.l - sp,e:=κ.e - 1 } aj name ls zs.length)->L3 ab C') ->
      sU (.ref h) [l.pv] J fun _ C'=>L3 [some (.ref t),some (.ref k),some (.int (d:Nat)),some (.str name),some O.pv,some (.int sp),some (.ref h),some z] C':=by
     intro l D J h1 h2 h3 h4 h5 h6 T9 k9 x9 bf;have aw:=x9 h _ nS ag
     apply zH aw (by rw[Ln.pvs_len];exact AQ (show ls.length < 4 by lia) (by decide))
     have b2:h≠D.b:=by rw[h4.b];rw[I.ch.b];exact a7
     have r2:h≠D.r:=by rw[h4.r];rw[I.ch.r];exact a8
     refine bf _ _ ⟨ls++[l],D,_,rfl,⟨by rw[jQ,Ln.pvs_app];rfl,fun x hx=>?_,by rw[AN,Al];lia,?_,?_,I.ch.trans (c8.trans h4),h5.trans I.p,h6.trans I.e,T9.put ai _,k9.upd ah b2 r2 _,(x8.trans x9).put a5 _⟩⟩
     .rcases AS.1 hx with hx | hx
      .exact I.ok x hx
      .cases AE.1 hx;exact h1
     .rw [Ln.tws_app]
      have:=I.tw;show((Ln.tws ls+(l.tw+0):Nat):Int)<=_
      lia
     .rw [Ln.pws_app,AN,Al]
      have g:=I.pw;have g:Ln.pws ls<=if κ.la.isSome then ls.length else 0:=g
      show Ln.pws ls+(l.pw+0)<=if κ.la.isSome then ls.length+1 else 0
      cases hz:κ.la.isSome with
      |true=>rw[hz,AZ rfl] at g h3;rw[AZ rfl];lia
      |false=>rw[hz,AX AJ] at g h3;rw[AX AJ];lia
    have b5:q.e=0:=by have:=I.e;have:q.e=κ.e - 1:=this;lia
    have a3:∀J,Tp J t ns->Ex t C8 J->bD 0 1 [.ref t,.ref k,.tup [.str name],.int 1] J fun v C'=>sU (.ref h) [v] C' fun _ bb=>L3 [some (.ref t),some (.ref k),some (.int (d:Nat)),some (.str name),some O.pv,some (.int sp),some (.ref h),some z] bb:=by
     intro J T9 U;refine⟨t,k,[name],ns,_,rfl,T9,k8.ex U,ba.chg c8,fun l D ak bc a4 aq ao bq bu=>?_⟩;obtain⟨n1,n2⟩:=a4.n (fun z=>nomatch z);refine a6 l D ak ?_ ?_ (by rw[n1];exact AY _) aq n2 ?_ ao bq ((ExS.ofEx U).trans bu) ar
     .have:LnOk q.bs q.rs 2 [name] l:=bc
      rw[I.ch.bs,I.ch.rs] at this;exact this
     .have:=a4.t
      have this:(l.tw:Int)<=1 * (1+(q.l - 1 - D.l)):=this
      lia
     .have bw:=aq.e0
      have ax:=aq.e1;have ax:D.e<=q.e:=ax
      lia
    refine eJ k8.at_ rfl fN (c_i (if_b (fun af=>?_) fun af=>?_))
    .refine ⟨t,2,ns,rfl,T8,by decide,by decide,fun z2 J ct cu T9 U=>?_⟩
     refine vX (kX _ _) (zZ (fun bg=>?_) fun bg=>?_)
     .have af:(!zB (jU q.la))=true:=af
      obtain⟨Y,av⟩:∃Y,q.la=some Y:=by
       cases hz:q.la with
       |none=>rw[hz] at af;cases af
       |some Y=>exact⟨Y,rfl⟩
      have k9:=k8.ex U;refine⟨yV (U _ _ ai ag),⟨y0 1 rfl,?_⟩⟩
      apply eJ k9.at_ rfl (v:=.str Y) (by rw[fN];show some (jU q.la)=_;rw[av];rfl)
      refine⟨t,k,[name],ns,_,Y,rfl,T9,k9,by show 1<=4;decide,fun o g ak ho hg bj ao az=>?_⟩;refine a6 (.part o Y g) { q with l:=q.l - 1 } ak ?_ ?_ ?_ (Chg.refl (ba.chg c8)) rfl rfl ao (k9.ex az) ((ExS.ofEx U).trans (ExS.ofEx az)) ar
      .have ho:rC q.bs [name] o:=ho
       have hg:fF q.bs [name] 1 g:=hg;rw[I.ch.bs] at ho hg;exact⟨ho,ae.ly bh Y (by rw[<- a0];exact av),hg,bj⟩
      .show ((1:Nat):Int)<=1+(q.l - 1 - (q.l - 1));lia
      .rw [<- a0,av];exact AH _
     .refine ⟨yV (U _ _ ai ag),⟨y0 1 rfl,?_⟩⟩
      exact a3 J T9 U
    .refine gW rfl ⟨yV ag,⟨y0 1 rfl,?_⟩⟩
     exact a3 C8 T8 Ex.refl
   .exact aQ (ar _ _ ⟨ls,q,_,rfl,⟨I.mh,I.ok,by lia,I.tw,I.pw,I.ch,I.p,I.e,I.tp,I.kt,I.ex⟩⟩)
  .rintro ρ C7 ⟨ls,q,Z,rfl,I⟩
   exact hL _ _ ⟨ls,q,_,rfl,I⟩
 rintro ab C7 ⟨ls,q,Z,rfl,I⟩;refine oX (eJ I.kt.at_ rfl qY (yK (tG I.kt.at_ rfl (by show 6<=1000;decide) ?_)));rw[eF];have aw:gQ C7 k (.dK (cZ q.b q.r (q.l+sp) q.p q.e (jU q.la))) h=some (.lst (Ln.pvs ls)):=by rw[wQ ah];exact I.mh
 refine lJ aw ⟨y0 4 rfl,?_⟩;have b0:=I.ch.l0;have b1:q.l<=κ.l - sp:=I.ch.l1;have bz:q.e=κ.e - 1:=I.e;have cp:q.p=κ.p:=I.p;have b4:(Ln.tws ls:Int)<=κ.l - sp - q.l:=I.tw;have ay:Ln.pws ls<=if κ.la.isSome then ls.length else 0:=I.pw
 have b3:ls.length+0<=2:=I.len;refine br (.each name O ls) { q with l:=q.l+sp } _ ?_ ?_ ?_ (I.tp.put hk.nk _) (I.kt.put (q.l+sp) q.p q.e q.la) (I.ex.at (by simp) _)
 .exact ⟨au,fun x hx=>(I.ok x hx).mono (by decide),by lia⟩
 .refine ⟨?_,?_,fun z=>absurd rfl z⟩
  .show ((8 * Ln.tws ls:Nat):Int)<=8 * (1+(κ.l - (q.l+sp)))
   lia
  .show ((8 * Ln.pws ls:Nat):Int)<=(κ.p - q.p)+zOf κ * (κ.e - q.e)
   have e1:κ.e - q.e=1:=by lia
   rw[e1,Int.mul_one]
   delta zOf
   cases hz:κ.la.isSome with
   |true=>rw[hz,AZ rfl] at ay;rw[AZ rfl];lia
   |false=>rw[hz,AX AJ] at ay;rw[AX AJ];lia
 .exact ⟨I.ch.b,I.ch.r,I.ch.bs,I.ch.rs,I.ch.la,by show 0<=q.l+sp;lia,by show q.l+sp<=κ.l;lia,I.ch.p0,I.ch.p1,I.ch.e0,by show q.e<=κ.e;lia⟩
end
structure Pt where
 name:Str
 first:List (Str×Int)
 works:List (Str×Rk)
 ls:List Ln
def Pt.pv(x:Pt):PV:=.tup [.str x.name,.tup (x.first.map xJ),.tup (x.works.map qW),.tup (Ln.pvs x.ls)]
structure PtOk(rs:List Str)(cap:Nat)(x:Pt):Prop where
 fl:x.first.length<=4
 wk:fF (x.first.map (·.1)) [] 1 x.works
 wl:x.works.length<=4
 ls:∀l∈x.ls,LnOk (x.first.map (·.1)) rs 6 [] l
 ll:x.ls.length<=6
 tw:Ln.tws x.ls<=48
 pw:Ln.pws x.ls<=cap
 fb:∀c∈x.first,-1000000000<=c.2/\c.2<=1000000000
 bn:∀c∈x.first,qB c.1=true
def PtOk.b8{cap}(q:PtOk rs cap x):∀s∈x.first.map (·.1),s.length<=8:=fun s hs=>by
 obtain⟨c,g,rfl⟩:=AU.1 hs;exact nm8 (q.bn c g)
def Ws(m:C p=some (.dK []))(e:prK ts=some ps)(h:ps.length<=15)(q:Q (.ref p) (gQ C p (.dK (jF [] ps)))):iH p ts C Q :=by simp_all[iH]
section
variable {W:Wd}{a:Adr}
def oJ(h:∀ts C Q,¬ G ts C Q):FnOk W.P W.w W.K W.mg W.base CX0 r f fd ps (spC W.K G) :=
 ⟨fun vs H Q E g=>tX g fun ts C R _ _ z _=> (h _ _ _ z).elim,fun _ _ _ _ _ _ _ _ _ _ _ _ _ g=>tX g fun ts C R _ _ z _=> (h _ _ _ z).elim⟩
def kD(h:∀d',d=d'+1->Ok W a r 26 U0 (dB e d')):Ok W a r 26 U0 (jP e d):=by
 cases d with
 |zero=>exact oJ fun ts C Q ⟨d',e,_⟩=>by lia
 |succ d' =>
  have e:jP e (d'+1)=dB e d':=by
   funext ts C Q
   refine propext ⟨fun⟨g,z,h⟩=>?_,fun h=>⟨d',rfl,h⟩⟩;cases Ay z;exact h
  exact e▸h d' rfl
def KY(T:Tx W a):Ok W a 8 22 U0 (bD 0 0) :=
 wC T 0 0 7 (by decide) (kD fun d' e=>by omega)
def wO{r:Nat}:Ok W a r 24 U4 (Xm 0):=oJ fun ts C Q ⟨t,k,d,ns,κ,_,_,_,g,h,_⟩=>by have:=g.e1;lia
def K0(T:Tx W a):Ok W a 12 25 U0 (bD 0 1) :=
 have g:=fA T 0 0 8 (by decide) (kD fun d' e=>by omega) (KY T) wO;have ls:=QR T 0 0 9 (by decide) g;have lo:Ok W a 10 26 U0 (jP 0 1):=kD fun d' e=>by cases Ay e;exact ls
 fA T 0 1 11 (by decide) (lo.mono (by decide)) (wC T 0 1 10 (by decide) lo) wO
def W7(T:Tx W a):Ok W a 13 24 U4 (Xm 1):=ok_each T 12 (by decide) (K0 T)
def KZ(T:Tx W a)d:Ok W a (15+3 * d) 26 U0 (dB 1 d):=by
 have g:∀d,(∀d',d=d'+1->Ok W a (12+3 * d) 26 U0 (dB 1 d'))->Ok W a (15+3 * d) 26 U0 (dB 1 d):=by
  intro d h;have lo:=kD h;have B:=fA T 1 d (12+3 * d+1) (by lia) (lo.mono (Bm _)) (wC T 1 d (12+3 * d) (by lia) lo) ((W7 T).mono (by lia));have:=QR T 1 d (12+3 * d+1+1) (Nat.succ_pos _) B;have e:12+3 * d+1+1+1=15+3 * d:=by lia
  rwa [e] at this
 induction d with
 |zero=>exact g 0 fun d' e=>by lia
 |succ d q=>exact g (d+1) fun d' e=>by cases Ay e;exact q.mono (by lia)
end
abbrev YZ:List Str:=["y","z"]
def cl_c{q:TCE}{t:TCT}{c:TCE}{g:CSt}{C:CH}{Q:K1}(h:q g C fun x C1=>match x with
  |.ref a=>match C1 a with
   |some (.lst xs)=>nU (fun C=>C a=some (.lst xs)) t c g Q xs [] C1
   |_=>False
  |_=>False):gP q t c g C Q:=by
 unfold gP;exact h
section
variable {W:Wd}{a:Adr}
inductive Xk(ts:List PV)(C:CH)(Q:K1):Prop
 |mk(t:Addr)(ns:List Int)(z0:ts=[.ref t])(z1:Tp C t ns)(z2:∀(x:Pt)(C':CH),PtOk YZ 18 x->x.name.length<=8->Tp C' t ns->Ex t C C'->Q x.pv C')
def QO(T:Tx W a):Ok W a 25 27 U11 Xk:=by
 have S:=(T.F 27 rfl).s;have bQ:=(eZ T).mono (show 1<=24 by decide);have jV:=(xD T).mono (show 2<=24 by decide);have tK:=(vC T 1).mono (show 5<=24 by decide);have tV:=KZ T 3
 refine(T.F 27 rfl).ok (fun ts C R h=>?_) fun bz A b3 s H E I=>⟨_,(xQ (cs1 1 S.nd (cf (T.F 15 rfl) jV I (qQ (cv 0) (ca1 zQ))))
  (xQ (cs1 2 S.nd (ce_disp (fG vQ (cv 1) (fG vQ (mX (qQ vQ (ca1 vQ))) (fG vQ zQ (fG vQ zQ (fG vQ zQ (fG vQ vQ cps_nil))))))))
  (xQ (cs1 3 S.nd (cf (T.F 26 rfl) tV I (qQ (cv 0) (qQ (cv 2) (qQ (lQ pZ) (ca1 zQ))))))
  (xQ (cs1 4 S.nd (ctp T.xX (tD rfl (S.c (by decide +kernel)) (S.k rfl rfl rfl (by decide +kernel)) (cf (T.F 15 rfl) jV I (qQ (cv 0) (ca1 (cf (T.F 14 rfl) bQ I (qQ (cv 0) (ca1 zQ)))))) (fun _ _ _ _ _=>wK) (fun _ _ _ _ _=>(lQ (qQ (cv 0) (ca1 (cf (T.F 18 rfl) tK I (qQ (cv 1) (qQ (cv 3) (qQ (lQ pZ) (ca1 zQ))))))))))))
  (kQ (yQ (lQ (qQ vQ (qQ (ctp T.xX (tD rfl (S.c (by decide +kernel)) (S.k rfl rfl rfl (by decide +kernel)) (cv 1) (fun _ _ _ _ _=>wK) (fun _ _ _ _ _=>(lQ (qQ (cv 0) (ca1 zQ)))))) (qQ (cv 4) (ca1 (cv 3)))))))))))),?_⟩
 .obtain ⟨t,ns,rfl,_⟩:=h;rfl
 rintro ts C R ⟨t,ns,rfl,hT,bu⟩;refine uQ ⟨t,2,ns,rfl,hT,by decide,by decide,fun B bs C2 m2 n2 bt b0 nd T2 e2=>?_⟩;have aw:bs.length<=4:=by lia
 apply uQ
 intro D ab;have T3:=T2.new ab (.dK []);have au:=T2.ne ab;refine⟨y0 2 rfl,fun q J=>?_⟩;have T4:=T3.new J (.lst [.str "y",.str "z"]);have bq:=T3.ne J;have ar:D≠q:=fun z=>by subst z;rw[jQ] at J;cases J
 have bh:C2 q=none:=by rw[wQ (Ne.symm ar)] at J;exact J
 have a6:B≠D:=fun z=>by rw[z,ab] at m2;cases m2
 have bl:B≠q:=fun z=>by rw[z,bh] at m2;cases m2
 apply Ws (ps:=cZ B q 6 2 1 (.str "z")) (by rw[wQ ar];exact jQ) rfl (by show 6<=15;decide)
 rw[show jF [] (cZ B q 6 2 1 (.str "z"))=cZ B q 6 2 1 (.str "z") from rfl];have T5:=T4.put au (.dK (cZ B q 6 2 1 (.str "z")));have a0:C D=none:=e2.none au ab
 have x5:Ex t C (gQ (gQ (gQ C2 D (.dK [])) q (.lst [.str "y",.str "z"])) D (.dK (cZ B q 6 2 1 (.str "z")))) :=
  ((e2.trans (Ex.new ab _)).trans (Ex.new J _)).put a0 _
 have k5:KAt (gQ (gQ (gQ C2 D (.dK [])) q (.lst [.str "y",.str "z"])) D (.dK (cZ B q 6 2 1 (.str "z")))) t D ⟨B,q,bs,YZ,6,2,1,some "z"⟩:=by
  refine⟨jQ,?_,?_,au,bt,bq,aw,by show 2<=6;decide⟩
  .rw [wQ a6,wQ bl,wQ a6];exact m2
  .rw [wQ (Ne.symm ar)];exact jQ
 generalize gQ (gQ (gQ C2 D (.dK [])) q (.lst [.str "y",.str "z"])) D (.dK (cZ B q 6 2 1 (.str "z")))=C5 at T5 x5 k5 ⊢;have br:Kok ⟨B,q,bs,YZ,6,2,1,some "z"⟩ 1 []:=⟨by show(0:Int)<=6;decide,by show(6:Int)<=6;decide,by show(0:Int)<=2;decide,by show(2:Int)<=2;decide,by show(0:Int)<=1;decide,by show(1:Int)<=1;decide,fun _=>rfl,fun _ s hs=>by cases hs;exact(by decide +kernel:("z" : Str)∈YZ),AY _⟩
 try dsimp only
 refine uQ ⟨y0 0 rfl,t,D,[],ns,_,rfl,T5,k5,br,fun ls ag C6 h1 h2 h3 O T6 k6 x6=>?_⟩;have bj:C6 B=some (.lst (bs.map PV.str)):=by have:=k6.bx;rw[O.b,O.bs] at this;exact this
 have g6:Ex t C C6:=fun b o a5 U=>x6 b o (fun z=>by
  rcases Ai.1 z with z | z
  .exact a5 z
  .rw [AE.1 z,a0] at U;cases U) (x5 b o a5 U)
 try dsimp only
 apply uQ
 refine cl_c ?_;refine⟨t,3,ns,rfl,T6,by decide,by decide,fun v bx bw b4 a9 bb=>?_⟩;refine⟨t,v,ns,rfl,a9,bw,by lia,fun b5 b6 a8 a3 b2 wt b1 bp ba bc=>?_⟩
 try dsimp only
 rw[a3];have av:=bb.trans bc;refine fU (β:=Rk) qW (fun r=>r.ok bs [] 1) (fun ah=>Tp ah t ns/\Ex t a8 ah) (fun ah h=>h.2 _ _ wt a3) (by lia) (fun z ai L ⟨ak,af⟩ hL=>?_) (fun Z ai a7 ⟨ak,af⟩ ay U ho=>?_) ⟨ba,Ex.refl⟩
 .refine ⟨y0 0 rfl,?_⟩
  refine⟨t,D,[],ns,ag,rfl,ak,k6.ex (av.trans af),AY _,fun r aj I ae bf=>⟨y0 2 rfl,hL r aj ?_ ⟨ae,af.trans bf⟩⟩⟩;rw[O.bs] at I;exact I
 apply lJ jQ
 have ao:Ex t C6 (gQ ai a7 (.lst (Z.map qW))):=(av.trans af).trans (Ex.new ay _);have ae:=ak.new ay (.lst (Z.map qW));generalize gQ ai a7 (.lst (Z.map qW))=aj at ao ae ⊢;have a4:=ao _ _ bt bj
 try dsimp only
 refine cl_l a4 rfl (fU (β:=Int) xJ (fun i:Int=>i=0) (fun C'=>Tp C' t ns/\Ex t aj C') (fun C' h=>h.2 _ _ bt a4) (by lia) (fun z C8 L ⟨T8,e8⟩ hL=>?_) (fun fs C8 p8 ⟨T8,e8⟩ az ax bg=>?_) ⟨ae,Ex.refl⟩)
 .exact ⟨y0 2 rfl,hL 0 C8 rfl ⟨T8,e8⟩⟩
 refine lJ jQ ⟨y0 4 rfl,?_⟩;have aq:fs.map (·.1)=bs:=ax;refine bu ⟨"p",fs,Z,ls⟩ _ ⟨?_,?_,?_,?_,h2,?_,?_,fun c Y=>?_,fun c Y=>?_⟩ (by show Str.length "p" <= 8;decide +kernel) (T8.new az _) (g6.trans (ao.trans (e8.trans (Ex.new az _))))
 .show fs.length<=4
  rw[<- AB (f:=(·.1)),ax];exact aw
 .show fF (fs.map (·.1)) [] 1 Z
  rw[aq];exact fun c Y=>⟨ho c Y,nm8 (bp.2 c.1 (by rw[<- U];exact AU.2 ⟨c,Y,rfl⟩))⟩
 .show Z.length<=4;have:=Bk List.length U;rw[AB] at this;lia
 .show ∀l∈ls,LnOk (fs.map (·.1)) YZ 6 [] l
  rw[aq];exact fun l hl=>(h1 l hl).mono (by decide)
 .have:=h3.t
  have l0:=O.l0;have this:(Ln.tws ls:Int)<=8 * (0+(6 - ag.l)):=this;show Ln.tws ls<=48
  lia
 .have g:=h3.p
  have g:(Ln.pws ls:Int)<=(2 - ag.p)+16 * (1 - ag.e):=g;have e0:=O.e0;have q0:=O.p0;show Ln.pws ls<=18
  lia
 .rw [bg c Y];decide
 .exact nd.2 c.1 (by rw[<- aq];exact AU.2 ⟨c,Y,rfl⟩)
end
def aY(h:z::zs=((List.range N).drop j).map (fun k:Nat=>PV.int (k:Nat))):j < N/\z=.int j/\zs=((List.range N).drop (j+1)).map (fun k:Nat=>PV.int (k:Nat)) :=by grind[List.drop_of_length_le,List.drop_eq_getElem_cons,List.map_cons,List.getElem_range,List.length_range]
abbrev Rds:=List (List Key×PV)
abbrev Tns:=List (Key×PV)
abbrev qK(s n:Str):List Key:=[.inr s,.inr n]
def Bd(i:Int):Prop:=-1000000000<=i/\i<=1000000000
def ABd(A:Rds):Prop:=∀g∈A,∃i,g.2=.int i/\Bd i
def TBd(τ:Tns):Prop:=∀g∈τ,∃i,g.2=.int i/\Bd i
def lM(A:Rds)(s n:Str):Int:=match xV A (qK s n) with
 |some (.int i)=>i
 |_=>0
def Jn(τ:Tns)(n:Str):Int:=match xK τ (.inr n) with
 |some (.int i)=>i
 |_=>0
def HasT(τ:Tns)(ns:List Str):Prop:=∀n∈ns,(xK τ (.inr n)).isSome=true
def ZV(i:Int):Int:=if (if i < 1000000000 then i else 1000000000) > -1000000000 then (if i < 1000000000 then i else 1000000000) else -1000000000
def Rk.val(A:Rds)(τ:Tns):Rk->Int
 |.num i=>i
 |.turn n=>Jn τ n
 |.ask s n=>lM A s n
 |.bin w x y=>if w = "less" then (if x.val A τ < y.val A τ then 1 else 0) else if w = "times" then ZV (x.val A τ * y.val A τ) else ZV (x.val A τ+y.val A τ)
 |.pick x y z=>if x.val A τ=0 then z.val A τ else y.val A τ
def Rk.rds(A:Rds)(τ:Tns):Rk->Rds->Rds
 |.num _,R=>R
 |.turn _,R=>R
 |.ask s n,R=>putG R (qK s n) (.int (lM A s n))
 |.bin _ x y,R=>y.rds A τ (x.rds A τ R)
 |.pick x y z,R=>if x.val A τ=0 then z.rds A τ (x.rds A τ R) else y.rds A τ (x.rds A τ R)
def cutI_bd i:Bd (ZV i):=by delta ZV Bd;split<;>split<;>lia
def VQ[DecidableEq κ]{k:κ}(h:xV A k=some v):∃g∈A,g.2=v:=by
 delta xV at h
 cases e:A.find? fun g=>decide (g.1=k) with
 |none=>rw[e] at h;cases h
 |some x=>rw[e] at h;cases h;exact⟨x,CD e,rfl⟩
def Qr{A:Tns}(h:xK A k=some v):∃g∈A,g.2=v:=by
 delta xK at h
 cases e:A.find? fun g=>decide (g.1=k) with
 |none=>rw[e] at h;cases h
 |some x=>rw[e] at h;cases h;exact⟨x,CD e,rfl⟩
def mF(h:ABd A)s n:(xV A (qK s n)).getD (.int 0)=.int (lM A s n)/\Bd (lM A s n):=by
 delta lM
 cases e:xV A (qK s n) with
 |none=>exact⟨rfl,by delta Bd;decide⟩
 |some v =>
  obtain⟨D,B,rfl⟩:=VQ e;exact zX (h D B) fun i q g=>q▸⟨rfl,g⟩
def rE(h:TBd τ)(g:(xK τ (.inr n)).isSome=true):xK τ (.inr n)=some (.int (Jn τ n))/\Bd (Jn τ n):=by
 delta Jn
 cases e:xK τ (.inr n) with
 |none=>rw[e] at g;cases g
 |some v =>
  obtain⟨I,D,rfl⟩:=Qr e;exact zX (h I D) fun i B q=>B▸⟨rfl,q⟩
def zY(q:ABd A)(B:TBd τ)(D:HasT τ ts):∀{d}{r:Rk},r.ok bs ts d->Bd (r.val A τ):=by
 intro d r
 induction r generalizing d with
 |num i=>intro h;unfold Rk.ok at h;exact h
 |turn n=>intro h;unfold Rk.ok at h;exact(rE B (D n h)).2
 |ask s n=>intro h;exact(mF q s n).2
 |bin w x y I g =>
  intro h
  cases d with
  |zero=>exact h.elim
  |succ d =>
   unfold Rk.val
   split
   .split<;>(delta Bd;decide)
   .split<;>exact cutI_bd _
 |pick x y z I g J =>
  intro h
  cases d with
  |zero=>exact h.elim
  |succ d =>
   unfold Rk.val
   split
   .exact J h.2.2
   .exact g h.2.1
structure RdOk(bs:List Str)(R:Rds):Prop where
 nd:(R.map (·.1)).Nodup
 ks:∀k∈R.map (·.1),∃s n,k=qK s n/\iM bs s n
 vs:ABd R
def any_iff{κ:Type}[DecidableEq κ](R:List (κ×PV))k:(R.any fun g=>decide (g.1=k))=true↔k∈R.map (·.1) :=by grind
theorem oW[DecidableEq κ]R(k:κ)v:(putG R k v).map (·.1)=if k∈R.map (·.1) then R.map (·.1) else R.map (·.1)++[k]:=by
 delta putG
 by_cases h:k∈R.map (·.1)
 .rw [AZ ((any_iff R k).2 h),AZ h,Be]
  refine Cp fun x _=>?_;show(if x.1=k then (x.1,v) else x).1=x.1
  split<;>rfl
 .grind
def iN[DecidableEq κ]{x:κ×PV}(h:x∈putG R k v):x.2=v\/x∈R :=by grind[putG]
theorem RdOk.put(h:RdOk bs R)(O:iM bs s n)(hi:Bd i):RdOk bs (putG R (qK s n) (.int i)):=by
 refine⟨?_,?_,fun J D=>?_⟩
 .rw [oW]
  split
  .exact h.nd
  .next I =>
   rw[List.nodup_append];refine⟨h.nd,by simp,fun a q b B e=>?_⟩;cases AE.1 B;exact I (e▸q)
 .rw [oW]
  intro k g
  split at g
  .exact h.ks k g
  .rcases AS.1 g with g | g
   .exact h.ks k g
   .grind
 .rcases iN D with e | e
  .grind
  .exact h.vs J e
theorem QV{α:Type}[DecidableEq α]:∀(l m:List α),l.Nodup->(∀x∈l,x∈m)->l.length<=m.length
 |[],_,_,_=>AY _
 |x::l,m,g,hs=>by
  have q:=hs x AF;rw[Ba] at g;have D:=QV l (m.erase x) g.2 fun y B=>(List.mem_erase_of_ne (show y≠x from fun e=>g.1 (e▸B))).2 (hs y (AL _ B));rw[List.length_erase_of_mem q] at D;have:=List.length_pos_of_mem q;rw[AV]
  lia
def xN(bs:List Str):List (List Key):=(["a","ab","b"]:List Str).map (qK "take")++((["a","ab","b"]:List Str).map (qK "down")++bs.map (qK "box"))
def ask_in(h:iM bs s n):qK s n∈xN bs:=by
 rcases h with ⟨rfl | rfl,h⟩ | ⟨rfl,h⟩
 .exact Ao _ (AU.2 ⟨n,h,rfl⟩)
 .exact AR _ (Ao _ (AU.2 ⟨n,h,rfl⟩))
 .exact AR _ (AR _ (AU.2 ⟨n,h,rfl⟩))
def RdOk.len(h:RdOk bs R):R.length<=6+bs.length:=by
 have:=QV (R.map (·.1)) (xN bs) h.nd fun k g=>by
  obtain⟨s,n,rfl,q⟩:=h.ks k g;exact ask_in q
 rw[AB] at this
 have e:(xN bs).length=6+bs.length:=by
  delta xN
  rw[AN,AN,AB,AB,AB];show 3+(3+_)=_
  lia
 lia
def vS(A:Rds)(bs:List Str)(P:Rds->Prop):Prop:=∀R s n,iM bs s n->P R->P (putG R (qK s n) (.int (lM A s n)))
def tZ(g:ABd A): vS A bs (RdOk bs):=fun _ s n h q=>q.put h (mF g s n).2
def nJ(D:vS A bs P):∀{d}{r:Rk}{R},r.ok bs ts d->P R->P (r.rds A τ R):=by
 intro d r
 induction r generalizing d with
 |num i=>intro R _ h;exact h
 |turn n=>intro R _ h;exact h
 |ask s n=>intro R h g;unfold Rk.ok at h;exact D _ s n h g
 |bin w x y q B =>
  intro R h g
  cases d with
  |zero=>exact h.elim
  |succ d =>
   exact B h.2.2 (q h.2.1 g)
 |pick x y z q B I =>
  intro R h g
  cases d with
  |zero=>exact h.elim
  |succ d =>
   unfold Rk.rds
   split
   .exact I h.2.2 (q h.1 g)
   .exact B h.2.1 (q h.1 g)
structure Env(C:CH)(aa tt rr:Addr)(A:Rds)(τ:Tns)(R:Rds):Prop where
 ha:C aa=some (.dT A)
 ht:C tt=some (.dK τ)
 hr:C rr=some (.dT R)
 ne:aa≠rr
def Env.nt(h:Env C aa tt rr A τ R):tt≠rr:=fun z=>by have:=h.ht;rw[z,h.hr] at this;cases this
def Env.ex{R':Rds}(h:Env C aa tt rr A τ R)(e:ExS [rr] C C')(g:C' rr=some (.dT R')):Env C' aa tt rr A τ R' :=
 ⟨e _ _ (fun z=>h.ne (AE.1 z)) h.ha,e _ _ (fun z=>h.nt (AE.1 z)) h.ht,g,h.ne⟩
def sW[DecidableEq κ]x l(k:κ):xV (x::l) k=if x.1=k then some x.2 else xV l k :=by grind[xV,decide_eq_true,decide_eq_false]
def Qp[DecidableEq κ]R k v(q:κ):xV (putG R k v) q=if q=k then some v else xV R q:=by
 delta putG
 by_cases b:(R.any fun g=>decide (g.1=k))=true
 .rw [AZ b]
  induction R with
  |nil=>cases b
  |cons x l I =>
   rw[BA,sW,sW];have J:(if x.1=k then (x.1,v) else x).1=x.1:=by split<;>rfl
   rw[J]
   by_cases e:x.1=q
   .lia
   .rw [AX e,AX e]
    by_cases D:(l.any fun g=>decide (g.1=k))=true
    .exact I D
    .have:(l.map fun g=>if g.1=k then (g.1,v) else g)=l:=(Cp fun y B=>AX ((fun y B z=>D (List.any_eq_true.2 ⟨y,B,Ad z⟩)) y B)).trans (List.map_id l)
     rw[this];have O:x.1=k :=by grind
     rw[AX (fun z=>e (O.trans z.symm))]
 .rw [AX b]
  induction R with
  |nil =>
   rw[CU,sW]
   by_cases e:k=q
   .lia
   .lia
  |cons x l I =>
   rw[BB] at b;rw[Ck,sW,sW]
   by_cases S:x.1=q
   .lia
   .lia
structure nV(A:Rds)(τ:Tns)(bs ns:List Str):Prop where
 a:ABd A
 t:TBd τ
 h:HasT τ ns
 b:bs.length<=4
section
variable {W:Wd}{a:Adr}
inductive gCut(ts:List PV)(C:CH)(Q:K1):Prop
 |mk(i:Int)(z0:ts=[.int i])(z1:Q (.int (ZV i)) C)
def ok_cut(T:Tx W a):Ok W a 1 2 ["number"] gCut:=by
 refine(T.F 2 rfl).ok (fun ts C R h=>?_) fun g A D s H E B=>⟨_,(kQ (yQ (cQ (iW rfl) fM rfl T.gT rfl (qQ (rB jY gV (lW (v:=.int 1000000000) rfl T.jI ⟨_,rfl⟩ (fun _=>.int _))) (ca1 (cQ (pM rfl) tH rfl T.Jh rfl (qQ (lW (v:=.int 1000000000) rfl T.jI ⟨_,rfl⟩ (fun _=>.int _)) (ca1 (cv 0))))))))),?_⟩
 .obtain ⟨i,rfl,_⟩:=h;rfl
 rintro ts C R ⟨i,rfl,q⟩;exact Q0 (bC q)
def joinI(w:Str)(i j:Int):Int:=if w = "less" then (if i < j then 1 else 0) else if w = "times" then ZV (i * j) else ZV (i+j)
inductive gJoin(ts:List PV)(C:CH)(Q:K1):Prop
 |mk(w:Str)(i j:Int)(z0:ts=[.str w,.int i,.int j])(z1:(w = "add"\/w = "times"\/w = "less"))(z2:Bd i)(z3:Bd j)(z4:Q (.int (joinI w i j)) C)
def K2(T:Tx W a):Ok W a 2 8 ["word","first","second"] gJoin:=by
 have B:=ok_cut T
 refine(T.F 8 rfl).ok (fun ts C R h=>?_) fun S A U s H E D=>⟨_,(xQ (sQ (ct2 bX iQ (cv 0) vQ) (kQ (yQ (cf (T.F 2 rfl) B D (ca1 (eQ uX gX (cv 1) (cv 2)))))) pQ)
  (xQ (sQ (ct2 bX iQ (cv 0) vQ) (kQ (yQ (cf (T.F 2 rfl) B D (ca1 (eQ qF bU (cv 1) (cv 2)))))) pQ)
  (kQ (yQ (sD (ct2 rY mV (cv 1) (cv 2)) zQ zQ))))),?_⟩
 .obtain ⟨w,i,j,rfl,_⟩:=h;rfl
 rintro ts C R ⟨w,i,j,rfl,O,I,J,q⟩
 delta joinI at q
 apply vX (rQ _ _)
 rcases O with rfl | rfl | rfl
 .exact jZ rfl (yK ⟨_,rfl,q⟩)
 .refine fX rfl (aQ (vX (rQ _ _) (jZ rfl ?_)))
  delta Bd at I J
  refine⟨.inr ⟨by omega,by omega⟩,?_⟩;exact⟨_,rfl,q⟩
 .refine fX rfl (aQ (vX (rQ _ _) (fX rfl (aQ (i_i (zZ (fun g=>?_) fun g=>?_))))))
  .rwa [AZ (Aa g)] at q
  .rwa [AX (BR g)] at q
inductive gRk(d:Nat)(ts:List PV)(C:CH)(Q:K1):Prop
 |mk(r:Rk)(aa tt rr:Addr)(A:Rds)(τ:Tns)(R:Rds)(bs ns:List Str)(z0:ts=[r.pv,.ref aa,.ref tt,.ref rr])(z1:r.ok bs ns d)(z2:Env C aa tt rr A τ R)(z3:nV A τ bs ns)(z4:RdOk bs R)(z5:∀C',C' rr=some (.dT (r.rds A τ R))->ExS [rr] C C'->Q (.int (r.val A τ)) C')
def bA(T:Tx W a)(d:Nat):Ok W a (d+3) 7 ["reckoning","answers","turns","asked"] (gRk d):=by
 have ag:∀n,(∀d',n=d'+1->Ok W a (d'+3) 7 ["reckoning","answers","turns","asked"] (gRk d'))->Ok W a (n+3) 7 ["reckoning","answers","turns","asked"] (gRk n):=by
  intro n ih;have S:=(T.F 7 rfl).s;have GU:=(K2 T).mono (show 2<=n+2 by lia)
  have yW:Ok W a (n+2) 7 ["reckoning","answers","turns","asked"] (fun ts C Q=>∃d',n=d'+1/\gRk d' ts C Q):=by
   cases n with
   |zero=>exact oJ fun ts C Q zz=>zX zz fun d' e _=> by lia
   |succ d' =>
    have:=ih d' rfl
    have e:(fun ts C Q=>∃ab,d'+1=ab+1/\gRk ab ts C Q)=gRk d':=by
     funext ts C Q
     refine propext ⟨fun zz=>zX zz fun ab e h=> ?_,fun h=>⟨d',rfl,h⟩⟩;cases Ay e;exact h
    rw[e];exact this
  refine(T.F 7 rfl).ok (fun ts C R h=>?_) fun ai A aj s H E I=>⟨_,(xQ (cs1 4 S.nd (cx (cv 0) zQ))
  (xQ (sQ (ct2 bX iQ (cv 4) vQ) (kQ (yQ (cx (cv 0) zQ))) pQ)
  (xQ (sQ (ct2 bX iQ (cv 4) vQ) (kQ (yQ (nZ (qZ I) (cv 2) (cx (cv 0) zQ) (fun _ _=>rfl)))) pQ)
  (xQ (sQ (uF tW mU (cv 4) (lW (v:=.ref a.ASKING) (t:=.kt [.str "take",.str "box",.str "down"]) rfl T.J3 rfl (fun H=>.kt (T.JC H) (.cons (.str _) (.cons (.str _) (.cons (.str _) .nil))))) rfl) (xQ (cs1 5 S.nd (lQ (qQ (cv 4) (ca1 (cx (cv 0) zQ)))))
  (xQ (nH (qZ I) (cv 3) (cv 5) (XA (qZ I) (cv 1) (cv 5) zQ))
  (kQ (yQ (ce_tix (qZ I) (cv 3) (cv 5) (fun _ _=>rfl)))))) pQ)
  (xQ (cs1 6 S.nd (cf (T.F 7 rfl) yW I (qQ (cx (cv 0) zQ) (qQ (cv 1) (qQ (cv 2) (ca1 (cv 3)))))))
  (xQ (sQ (ct2 bX iQ (cv 4) vQ) (xQ (cs1 7 S.nd (sD (ct2 bX iQ (cv 6) zQ) (cx (cv 0) zQ) (cx (cv 0) zQ)))
  (kQ (yQ (cf (T.F 7 rfl) yW I (qQ (cv 7) (qQ (cv 1) (qQ (cv 2) (ca1 (cv 3))))))))) pQ)
  (xQ (cs1 8 S.nd (cf (T.F 7 rfl) yW I (qQ (cx (cv 0) zQ) (qQ (cv 1) (qQ (cv 2) (ca1 (cv 3)))))))
  (kQ (yQ (cf (T.F 8 rfl) GU I (qQ (cv 4) (qQ (cv 6) (ca1 (cv 8)))))))))))))),?_⟩
  .obtain ⟨r,aa,tt,rr,A,τ,R,bs,ns,rfl,_⟩:=h;rfl
  rintro ts C Q ⟨r,aa,tt,rr,A,τ,R,bs,ns,rfl,B,D,g,Y,q⟩
  apply uQ
  cases r with
  |num i =>
   refine yX rX (vX (rQ _ _) (jZ (by decide) ?_));exact yX (v:=.int i) rfl (q C D.hr ExS.refl)
  |turn m =>
   unfold Rk.ok at B;refine yX rX (vX (rQ _ _) (fX (by decide) ?_));refine aQ (vX (rQ _ _) (jZ (by decide) ?_));exact yX (v:=.str m) rfl (eJ D.ht rfl (rE g.t (g.h m B)).1 (q C D.hr ExS.refl))
  |ask s m =>
   unfold Rk.ok at B;refine yX rX (vX (rQ _ _) ?_)
   have hs:s = "take"\/s = "down"\/s = "box":=by
    rcases B with ⟨h | h,_⟩ | ⟨h,_⟩
    .exact .inl h
    .exact .inr (.inl h)
    .exact .inr (.inr h)
   have ae:decide (s = "num")=false:=by rcases hs with rfl | rfl | rfl<;>decide
   have af:decide (s = "turn")=false:=by rcases hs with rfl | rfl | rfl<;>decide
   apply fX (by rw[ae];rfl)
   refine aQ (vX (rQ _ _) (fX (by rw[af];rfl) ?_));refine aQ (uD (ts:=[.str "take",.str "box",.str "down"]) (w:=.str s) (vs:=[.str "take",.str "box",.str "down"]) rfl rfl rfl (jZ (by rcases hs with rfl | rfl | rfl<;>rfl) ?_));refine uQ (yX (v:=.str m) rfl ⟨y0 2 rfl,?_⟩);refine oX ⟨YE D.ha,VY (k:=qK s m) D.ha rfl (mF g.a s m).1 ?_⟩;have hb:=g.b
   apply X1 (k:=qK s m) D.hr rfl (by have:=Y.len;lia)
   apply tix_s (k:=qK s m) jQ rfl (by rw[Qp,AZ rfl])
   exact q _ jQ (ExS.refl.at (by simp) _)
  |bin w x y =>
   cases n with
   |zero=>delta Rk.ok at B;exact B.elim
   |succ d' =>
   unfold Rk.ok at B;obtain⟨Z,O,oy⟩:=B;have ae:decide (w = "num")=false:=by rcases Z with rfl | rfl | rfl<;>decide
   have af:decide (w = "turn")=false:=by rcases Z with rfl | rfl | rfl<;>decide
   refine yX rX (vX (rQ _ _) (fX (by rw[ae];rfl) ?_));refine aQ (vX (rQ _ _) (fX (by rw[af];rfl) ?_));refine aQ (uD (ts:=[.str "take",.str "box",.str "down"]) (w:=.str w) (vs:=[.str "take",.str "box",.str "down"]) rfl rfl rfl (fX (by rcases Z with rfl | rfl | rfl<;>rfl) ?_))
   apply aQ
   try dsimp only
   refine uQ (yX (v:=x.pv) rfl ⟨d',rfl,x,aa,tt,rr,A,τ,R,bs,ns,rfl,O,D,g,Y,fun C1 m1 J=>?_⟩);have E1:=D.ex J m1;have R1:=nJ (τ:=τ) (tZ g.a) O Y;refine vX (rQ _ _) (fX (by rcases Z with rfl | rfl | rfl<;>decide) ?_)
   apply aQ
   try dsimp only
   refine uQ (yX (v:=y.pv) rfl ⟨d',rfl,y,aa,tt,rr,A,τ,_,bs,ns,rfl,oy,E1,g,R1,fun C2 m2 U=>?_⟩);have bx:=zY g.a g.t g.h O;have ah:=zY g.a g.t g.h oy
   exact⟨w,_,_,rfl,Z,bx,ah,q C2 m2 (J.trans U)⟩
  |pick x y z =>
   cases n with
   |zero=>delta Rk.ok at B;exact B.elim
   |succ d' =>
   unfold Rk.ok at B;obtain⟨O,oy,oz⟩:=B;refine yX rX (vX (rQ _ _) (fX (by decide) ?_))
   apply aQ
   refine vX (rQ _ _) (fX (by decide) ?_)
   apply aQ
   refine uD (ts:=[.str "take",.str "box",.str "down"]) (w:=.str "pick") (vs:=[.str "take",.str "box",.str "down"]) rfl rfl rfl (fX rfl (aQ ?_))
   try dsimp only
   refine uQ (yX (v:=x.pv) rfl ⟨d',rfl,x,aa,tt,rr,A,τ,R,bs,ns,rfl,O,D,g,Y,fun C1 m1 J=>?_⟩);have E1:=D.ex J m1;have R1:=nJ (τ:=τ) (tZ g.a) O Y;refine vX (rQ _ _) (jZ (by decide) ?_);refine uQ (vX (kX _ _) ?_)
   by_cases h0:x.val A τ=0
   .refine jZ (Ad h0) (yX (v:=z.pv) rfl ⟨d',rfl,z,aa,tt,rr,A,τ,_,bs,ns,rfl,oz,E1,g,R1,fun C2 m2 U=>?_⟩)
    have:=q C2 (by unfold Rk.rds;rw[AZ h0];exact m2) (J.trans U);unfold Rk.val at this;rw[AZ h0] at this;exact this
   .refine fX (AM h0) (yX (v:=y.pv) rfl ⟨d',rfl,y,aa,tt,rr,A,τ,_,bs,ns,rfl,oy,E1,g,R1,fun C2 m2 U=>?_⟩)
    have:=q C2 (by unfold Rk.rds;rw[AX h0];exact m2) (J.trans U);unfold Rk.val at this;rw[AX h0] at this;exact this
 induction d with
 |zero=>exact ag 0 fun d' e=>by lia
 |succ d ih=>exact ag (d+1) fun d' e=>by cases Ay e;exact ih
end
structure HdV where
 ev:Str
 rank:Int
 last:Bool
 ch:List (Str×Str×Int)
inductive Wt where
 |plain (sp:List Key) (tag:Str) (sets:List (Str×Int)) (hands:List HdV) (row:List Wt)
 |part (sp:List Key) (name:Str) (gives:List (Str×Int))
 |give (sp:List Key) (name:Str) (num:Int) (row:List Wt)
def ZU(c:Str×Str×Int):PV:=.tup [.str c.1,.str c.2.1,.int c.2.2]
def HdV.pv(h:HdV):PV:=.tup [.str h.ev,.int h.rank,.bl h.last,.tup (h.ch.map ZU)]
mutual
def Wt.pv:Wt->PV
 |.plain sp q s h r=>.tup [.str "plain",sG sp,.str q,.tup (s.map xJ),.tup (h.map HdV.pv),.tup (Wt.pvs r)]
 |.part sp n g=>.tup [.str "part",sG sp,.str n,.tup (g.map xJ)]
 |.give sp n i r=>.tup [.str "give",sG sp,.str n,.int i,.tup (Wt.pvs r)]
def Wt.pvs:List Wt->List PV
 |[]=>[]
 |w::B=>w.pv::Wt.pvs B
end
theorem Wt.pvs_map ls:Wt.pvs ls=ls.map Wt.pv:=by
 induction ls with
 |nil=>rfl
 |cons l ls g=>rw[BA,<- g];rfl
def Wt.pvs_app xs ys:Wt.pvs (xs++ys)=Wt.pvs xs++Wt.pvs ys :=by grind[Wt.pvs_map,List.map_append]
def Wt.pvs_len xs:(Wt.pvs xs).length=xs.length:=by rw[Wt.pvs_map,AB]
section
variable (A:Rds)(τ:Tns)
def vZ(ps:List (Str×Rk)):List (Str×Int):=ps.map fun c=>(c.1,c.2.val A τ)
def gZ(ps:List (Str×Rk))(R:Rds):Rds:=ps.foldl (fun R c=>c.2.rds A τ R) R
def rD(cs:List (Str×Str×Rk)):List (Str×Str×Int):=cs.map fun c=>(c.1,c.2.1,c.2.2.val A τ)
def lB(cs:List (Str×Str×Rk))(R:Rds):Rds:=cs.foldl (fun R c=>c.2.2.rds A τ R) R
def nO(h:Hd):HdV:=⟨h.ev,h.rank,h.last,rD A τ h.ch⟩
def rZ(hs:List Hd):List HdV:=hs.map (nO A τ)
def mZ(hs:List Hd)(R:Rds):Rds:=hs.foldl (fun R h=>lB A τ h.ch R) R
def jW:Option Rk->Key
 |none=>.inl none
 |some r=>.inl (some (r.val A τ))
def aK:Option Rk->Rds->Rds
 |none,R=>R
 |some r,R=>r.rds A τ R
end
def lD(N:Tns)(k:Key):Int:=match xK N k with
 |some (.int i)=>i
 |_=>0
def nB(i:Int):Nat:=(if i < 8 then i else 8).toNat
def aD i:nB i<=8:=by delta nB;split<;>lia
abbrev DSt:=List Wt×Tns×Rds
def cV(N:Tns)(k:Key):List Key:=[k,.inl (some (lD N k))]
def fV(N:Tns)(k:Key):Tns:=dZ N k (.int (lD N k+1))
mutual
def cX(A:Rds):Ln->Tns->DSt->DSt
 |.when r l1 l2,τ,st=>if r.val A τ=0 then oQ A l2 τ (st.1,st.2.1,r.rds A τ st.2.2) else oQ A l1 τ (st.1,st.2.1,r.rds A τ st.2.2)
 |.each n r ls,τ,st=>(List.range (nB (r.val A τ))).foldl (fun st k=>oQ A ls (dZ τ (.inr n) (.int (k:Nat))) st) (st.1,st.2.1,r.rds A τ st.2.2)
 |.part k n g,τ,st=>(st.1++[.part (cV st.2.1 (jW A τ k)) n (yG (vZ A τ g))],fV st.2.1 (jW A τ k),gZ A τ g (aK A τ k st.2.2))
 |.give k n r ls,τ,st =>
  let d:=oQ A ls τ ([],[],r.rds A τ (aK A τ k st.2.2))
  (st.1++[.give (cV st.2.1 (jW A τ k)) n (r.val A τ) d.1],fV st.2.1 (jW A τ k),d.2.2)
 |.plain k q s hs ls,τ,st =>
  let d:=oQ A ls τ ([],[],mZ A τ hs (gZ A τ s (aK A τ k st.2.2)))
  (st.1++[.plain (cV st.2.1 (jW A τ k)) q (yG (vZ A τ s)) (rZ A τ hs) d.1],fV st.2.1 (jW A τ k),d.2.2)
def oQ(A:Rds):List Ln->Tns->DSt->DSt
 |[],_,st=>st
 |l::ls,τ,st=>oQ A ls τ (cX A l τ st)
end
def vF(A:Rds)(τ:Tns)(sp:List Key):Ln->Rds->Wt×Rds
 |.part _ n g,R=>(.part sp n (yG (vZ A τ g)),gZ A τ g R)
 |.give _ n r ls,R=>(.give sp n (r.val A τ) (oQ A ls τ ([],[],r.rds A τ R)).1,(oQ A ls τ ([],[],r.rds A τ R)).2.2)
 |.plain _ q s hs ls,R=>(.plain sp q (yG (vZ A τ s)) (rZ A τ hs) (oQ A ls τ ([],[],mZ A τ hs (gZ A τ s R))).1,(oQ A ls τ ([],[],mZ A τ hs (gZ A τ s R))).2.2)
 |_,R=>(.part sp "" [],R)
def hZ A τ st:oQ A [] τ st=st:=by rfl
def xZ A l ls τ st:oQ A (l::ls) τ st=oQ A ls τ (cX A l τ st):=by rw[oQ]
def wF A xs ys τ st:oQ A (xs++ys) τ st=oQ A ys τ (oQ A xs τ st):=by
 induction xs generalizing st with
 |nil=>rfl
 |cons x xs g=>rw[Ck,xZ,xZ,g]
def Xa:Ln->Bool
 |.when _ _ _=>false
 |.each _ _ _=>false
 |_=>true
def nK:Ln->Option Rk
 |.plain k _ _ _ _=>k
 |.part k _ _=>k
 |.give k _ _ _=>k
 |_=>none
def Zx A τ l F N R(h:Xa l=true):
  cX A l τ (F,N,R)=(F++[(vF A τ (cV N (jW A τ (nK l))) l (aK A τ (nK l) R)).1],fV N (jW A τ (nK l)),(vF A τ (cV N (jW A τ (nK l))) l (aK A τ (nK l) R)).2):=by
 cases l with
 |plain k q s hs ls=>rfl
 |part k n g=>rfl
 |give k n r ls=>rfl
 |when r l1 l2=>cases h
 |each n r ls=>cases h
theorem yU{α:Type}{f}{m:α->Nat}(h:∀x k,m (f x k)<=m x+c):∀(l:List Nat)x,m (l.foldl f x)<=m x+l.length * c
 |[],x=>by show m x<=m x+0 * c;lia
 |k::l,x=>by
  have h1:=yU h l (f x k);have h2:=h x k;rw[Co,AV]
  lia
mutual
theorem Q6(A:Rds):∀(l:Ln)(τ:Tns)(st:DSt),(cX A l τ st).1.length<=st.1.length+l.tw/\(cX A l τ st).2.1.length<=st.2.1.length+l.tw
 |.when r l1 l2,τ,st=>by
  rw[cX];have h1:=zJ A l1 τ (st.1,st.2.1,r.rds A τ st.2.2);have h2:=zJ A l2 τ (st.1,st.2.1,r.rds A τ st.2.2);show _<=_+(Ln.tws l1+Ln.tws l2)/\_<=_+(Ln.tws l1+Ln.tws l2)
  split
  .exact ⟨AW h2.1 (by show st.1.length+_<=_;omega),AW h2.2 (by show st.2.1.length+_<=_;omega)⟩
  .exact ⟨AW h1.1 (by show st.1.length+_<=_;omega),AW h1.2 (by show st.2.1.length+_<=_;omega)⟩
 |.each n r ls,τ,st=>by
  rw[cX];have c:=aD (r.val A τ);have q:=yU (f:=fun st k=>oQ A ls (dZ τ (.inr n) (.int (k:Nat))) st) (m:=fun st=>st.1.length) (c:=Ln.tws ls) (fun x k=>(zJ A ls _ x).1) (List.range (nB (r.val A τ))) (st.1,st.2.1,r.rds A τ st.2.2);have B:=yU (f:=fun st k=>oQ A ls (dZ τ (.inr n) (.int (k:Nat))) st) (m:=fun st=>st.2.1.length) (c:=Ln.tws ls) (fun x k=>(zJ A ls _ x).2) (List.range (nB (r.val A τ))) (st.1,st.2.1,r.rds A τ st.2.2)
  rw[Ak] at q B;have D:nB (r.val A τ) * Ln.tws ls<=8 * Ln.tws ls:=Bl _ c;show _<=st.1.length+8 * Ln.tws ls/\_<=st.2.1.length+8 * Ln.tws ls;exact⟨AW q (by show st.1.length+_<=_;omega),AW B (by show st.2.1.length+_<=_;omega)⟩
 |.part k n g,τ,st=>by
  rw[cX];refine⟨by show(st.1++[_]).length<=st.1.length+1;rw[AN,Al];exact AH _,uB _ _ _⟩
 |.give k n r ls,τ,st=>by
  rw[cX];refine⟨by show(st.1++[_]).length<=st.1.length+(1+_);rw[AN,Al];omega,AW (uB _ _ _) (by show _<=_+(1+_);omega)⟩
 |.plain k I s hs ls,τ,st=>by
  rw[cX];refine⟨by show(st.1++[_]).length<=st.1.length+(1+_);rw[AN,Al];omega,AW (uB _ _ _) (by show _<=_+(1+_);omega)⟩
theorem zJ(A:Rds):∀(ls:List Ln)(τ:Tns)(st:DSt),(oQ A ls τ st).1.length<=st.1.length+Ln.tws ls/\(oQ A ls τ st).2.1.length<=st.2.1.length+Ln.tws ls
 |[],τ,st=>by rw[hZ];exact⟨BS _ _,BS _ _⟩
 |l::ls,τ,st=>by
  rw[xZ];have h1:=Q6 A l τ st;have h2:=zJ A ls τ (cX A l τ st);show _<=_+(l.tw+Ln.tws ls)/\_<=_+(l.tw+Ln.tws ls);omega
end
theorem qJ(g:vS A bs P): ∀{ps}{R},fF bs ns d ps->P R->P (gZ A τ ps R)
 |[],R,_,h=>h
 |c::ps,R,q,h=>qJ (ps:=ps) g (fun x B=>q x (AL _ B)) (nJ g (q c AF).1 h)
theorem nD(g:vS A bs P): ∀{cs}{R},(∀c∈cs,c.2.2.ok bs ns d)->P R->P (lB A τ cs R)
 |[],R,_,h=>h
 |c::ps,R,q,h=>nD (cs:=ps) g (fun x B=>q x (AL _ B)) (nJ g (q c AF) h)
theorem zV(g:vS A bs P):∀{hs}{R},(∀h∈hs,h.ok bs ns)->P R->P (mZ A τ hs R)
 |[],R,_,h=>h
 |c::ps,R,q,h=>zV (hs:=ps) g (fun x B=>q x (AL _ B)) (nD g (q c AF).c h)
def kM(q:vS A bs P)(h:rC bs ns k)(g:P R):P (aK A τ k R):=by
 cases k with
 |none=>exact g
 |some r=>exact nJ q h g
theorem qS{P:Rds->Prop}(h1:∀l ns τ st,LnOk bs rs d ns l->P st.2.2->P (cX A l τ st).2.2):∀ls ns τ st,(∀x∈ls,LnOk bs rs d ns x)->P st.2.2->P (oQ A ls τ st).2.2
 |[],ns,τ,st,_,h=>by rwa [hZ]
 |l::ls,ns,τ,st,g,h =>qS h1 ls ns τ _ (fun x q=>g x (AL _ q)) (h1 l ns τ st (g l AF) h)
theorem uY{α β:Type}{f}{P:α->Prop}(h:∀x k,P x->P (f x k)):∀(l:List β)x,P x->P (l.foldl f x)
 |[],x,p=>p
 |k::l,x,p=>uY h l _ (h x k p)
def one_rd(q:vS A bs P):∀d l ns τ st,LnOk bs rs d ns l->P st.2.2->P (cX A l τ st).2.2:=by
 intro d
 induction d with
 |zero=>intro l ns τ st h;exact h.elim
 |succ d S =>
  intro l ns τ st h I;have J:=qS S
  cases l with
  |plain k U s hs ls =>
   exact qT h fun h1 h2 B D O=>J ls ns τ _ D (zV q B.1 (qJ q h2.1 (kM q h1 I)))
  |part k n g =>
   exact zT h fun h1 h2 B D=>qJ q B (kM q h1 I)
  |give k n r ls =>
   exact qT h fun h1 h2 B D O=>J ls ns τ _ D (nJ q B (kM q h1 I))
  |when r l1 l2 =>
   obtain⟨h1,⟨h2,B⟩,D,O⟩:=h;rw[cX]
   split
   .exact J l2 ns τ _ D (nJ q h1 I)
   .exact J l1 ns τ _ h2 (nJ q h1 I)
  |each n r ls =>
   exact Vh h fun h1 h2 B=>uY (fun x k p=>J ls [n] _ x h2 p) _ _ (nJ q h1 I)
def wJ(g:vS A bs P)(h:∀x∈ls,LnOk bs rs d ns x)(q:P st.2.2):P (oQ A ls τ st).2.2:=qS (one_rd g d) ls ns τ st h q
def CInts(N:Tns):Prop:=∀g∈N,∃i,g.2=.int i
theorem CInts.put(h:CInts N)k i:CInts (dZ N k (.int i)):=by
 intro B g
 delta dZ at g
 split at g
 .obtain ⟨x,q,rfl⟩:=AU.1 g
  split
  .exact ⟨i,rfl⟩
  .exact h x q
 .rcases AS.1 g with g | g
  .exact h B g
  .grind
def cnt_is(h:CInts N)k:(xK N k).getD (.int 0)=.int (lD N k):=by
 delta lD
 cases e:xK N k with
 |none=>rfl
 |some v =>
  obtain⟨B,q,rfl⟩:=Qr e;obtain⟨i,g⟩:=h B q;rw[g]
  rfl
mutual
theorem one_ci(A:Rds):∀(l:Ln)(τ:Tns)(st:DSt),CInts st.2.1->CInts (cX A l τ st).2.1
 |.when r l1 l2,τ,st,h=>by
  rw[cX]
  split
  .exact lG A l2 τ _ h
  .exact lG A l1 τ _ h
 |.each n r ls,τ,st,h=>by
  rw[cX];exact uY (P:=fun st:DSt=>CInts st.2.1) (fun x k p=>lG A ls _ x p) _ _ h
 |.part k n g,τ,st,h=>by rw[cX];exact h.put _ _
 |.give k n r ls,τ,st,h=>by rw[cX];exact h.put _ _
 |.plain k q s hs ls,τ,st,h=>by rw[cX];exact h.put _ _
theorem lG(A:Rds):∀(ls:List Ln)(τ:Tns)(st:DSt),CInts st.2.1->CInts (oQ A ls τ st).2.1
 |[],τ,st,h=>by rw[hZ];exact h
 |l::ls,τ,st,h=>by rw[xZ];exact lG A ls τ _ (one_ci A l τ st h)
end
def xE(I:List PV->List PV->CH->Prop)(J:∀x r g C,I (x::r) g C->∃ts,x=.tup ts/\ts.length=n/\∀L:K1,(∀y C2,g.length < sizeLine/\I r (g++[y]) C2->L y C2)->c (ts.map some++O) C L)(q:∀g C,I [] g C->∀p,C p=none->Q (.ref p) (gQ C p (.lst g))):
  ∀xs g C,I xs g C->hU n xT c O Q xs g C:=by
 intro xs
 induction xs with
 |nil=>intro g C h;exact q g C h
 |cons x r D =>
  intro g C h;exact jK (J x r g C h) fun ts e B st=>⟨ts,e,B,st _ fun y C2 z=>⟨z.1,D _ _ z.2⟩⟩
section
variable {W:Wd}{a:Adr}
structure Sf(a:Adr)(C:CH)(x aa rr:Addr)(A R:Rds):Prop where
 ins:∃dx,C x=some (.ins a.Drawer dx [("answers",.ref aa),("asked",.ref rr)])
 ans:C aa=some (.dT A)
 ask:C rr=some (.dT R)
 ne:aa≠rr
def Sf.nx(h:Sf a C x aa rr A R):x≠rr:=fun e=>by
 obtain⟨dx,h1⟩:=h.ins;rw[e,h.ask] at h1;cases h1
theorem Sf.keep{R':Rds}(h:Sf a C x aa rr A R)(e:ExS S C C')(B:x∉S)(q:aa∉S)(g:C' rr=some (.dT R')):Sf a C' x aa rr A R' :=
 ⟨let ⟨dx,h1⟩:=h.ins;⟨dx,e _ _ B h1⟩,e _ _ q h.ans,g,h.ne⟩
def Sf.keep'(h:Sf a C x aa rr A R)(e:ExS S C C')(B:x∉S)(q:aa∉S)(g:rr∉S):Sf a C' x aa rr A R :=
 h.keep e B q (e _ _ g h.ask)
def Sf.rd{R':Rds}(h:Sf a C x aa rr A R)(e:ExS [rr] C C')(g:C' rr=some (.dT R')):Sf a C' x aa rr A R' :=
 h.keep e (fun z=>h.nx (AE.1 z)) (fun z=>h.ne (AE.1 z)) g
def Sf.new(h:Sf a C x aa rr A R)(g:C p=none)o:Sf a (gQ C p o) x aa rr A R :=h.keep' (ExS.refl.put g o) (B7) (B7) (B7)
def Sf.nd(h:Sf a C x aa rr A R)(m:C g=some (.dK cs)):x≠g/\aa≠g/\rr≠g:=by
 obtain⟨dx,h1⟩:=h.ins;refine⟨fun e=>?_,fun e=>?_,fun e=>?_⟩
 .lia
 .have:=h.ans;rw[e,m] at this;cases this
 .have:=h.ask;rw[e,m] at this;cases this
def Sf.nl(h:Sf a C x aa rr A R)(m:C p=some (.lst xs)):x≠p/\aa≠p/\rr≠p:=by
 obtain⟨dx,h1⟩:=h.ins;refine⟨fun e=>?_,fun e=>?_,fun e=>?_⟩
 .lia
 .have:=h.ans;rw[e,m] at this;cases this
 .have:=h.ask;rw[e,m] at this;cases this
def Sf.nn(h:Sf a C x aa rr A R)(m:C p=none):x≠p/\aa≠p/\rr≠p:=by
 obtain⟨dx,h1⟩:=h.ins;refine⟨fun e=>?_,fun e=>?_,fun e=>?_⟩
 .lia
 .have:=h.ans;rw[e,m] at this;cases this
 .have:=h.ask;rw[e,m] at this;cases this
inductive gInit(a:Adr)(ts:List PV)(C:CH)(Q:K1):Prop
 |mk(x dx aa:Addr)(A:Rds)(z0:ts=[.ref x,.ref aa])(z1:C x=some (.ins a.Drawer dx []))(z2:C aa=some (.dT A))(z3:∀C' rr,C rr=none->Sf a C' x aa rr A []->ExS [x] C C'->Q .non C')
def ok_init(T:Tx W a):Ok W a 1 47 ["self","answers"] (gInit a):=by
 refine(T.F 47 rfl).ok (fun ts C R h=>?_) fun Y A ab s H E Z=>⟨_,(xQ (Gm T.dX T.rG (cv 0) (cv 1))
  (kQ (Gm T.dX T.pY (cv 0) mI))),?_⟩
 .obtain ⟨_,_,_,_,rfl,_⟩:=h;rfl
 rintro ts C R ⟨x,dx,U,A,rfl,J,g,q⟩;have O:U≠x:=fun e=>by rw[e,J] at g;cases g
 apply Wr J (by decide)
 intro I D
 have B:C I=none:=by
  rw[wQ (fun z=>by rw[z,jQ] at D;cases D)] at D;exact D
 have S:I≠x:=fun e=>by rw[e,J] at B;cases B
 apply Wr (by rw[wQ (Ne.symm S)];exact jQ) (by show 1 < 1000;decide)
 refine q _ I B ⟨⟨dx,?_⟩,?_,?_,fun e=>by rw[e,B] at g;cases g⟩ ?_
 .rw [jQ]
  rfl
 .rw [wQ O,wQ (fun e=>by rw[e,B] at g;cases g),wQ O];exact g
 .exact (wQ S)▸jQ
 .exact ((ExS.refl.at AF _).put B _).at AF _
inductive gDnum(a:Adr)(d:Nat)(ts:List PV)(C:CH)(Q:K1):Prop
 |mk(r:Rk)(x aa tt rr:Addr)(A:Rds)(τ:Tns)(R:Rds)(bs ns:List Str)(z0:ts=[.ref x,r.pv,.ref tt])(z1:r.ok bs ns d)(z2:Sf a C x aa rr A R)(z3:C tt=some (.dK τ))(z4:nV A τ bs ns)(z5:RdOk bs R)(z6:∀C',Sf a C' x aa rr A (r.rds A τ R)->ExS [rr] C C'->Q (.int (r.val A τ)) C')
def jM(T:Tx W a)d:Ok W a (d+4) 48 ["self","reckoning","turns"] (gDnum a d):=by
 have Z:=bA T d;refine(T.F 48 rfl).ok (fun ts C R h=>?_) fun ab A ae s H E O=>⟨_,(kQ (yQ (cf (T.F 7 rfl) Z O (qQ (cv 1) (qQ (Z4 T.dX T.rG (cv 0)) (qQ (cv 2) (ca1 (Z4 T.dX T.pY (cv 0))))))))),?_⟩
 .obtain ⟨r,_,_,_,_,_,_,_,_,_,rfl,_⟩:=h;rfl
 rintro ts C Q ⟨r,x,aa,tt,rr,A,τ,R,bs,ns,rfl,Y,g,U,J,I,q⟩;obtain⟨dx,B⟩:=g.ins;exact Y3 B rfl (Y3 B rfl ⟨r,aa,tt,rr,A,τ,R,bs,ns,rfl,Y,⟨g.ans,U,g.ask,g.ne⟩,J,I,fun C1 S D=>q C1 (g.rd D S) D⟩)
inductive oO(a:Adr)(ts:List PV)(C:CH)(Q:K1):Prop
 |mk(ps:List (Str×Rk))(x aa tt rr:Addr)(A:Rds)(τ:Tns)(R:Rds)(bs ns:List Str)(z0:ts=[.ref x,.tup (ps.map qW),.ref tt])(z1:fF bs ns 2 ps)(z2:ps.length<=4)(z3:Sf a C x aa rr A R)(z4:C tt=some (.dK τ))(z5:nV A τ bs ns)(z6:RdOk bs R)(z7:∀C' l,C l=none->C' l=some (.lst ((vZ A τ ps).map xJ))->Sf a C' x aa rr A (gZ A τ ps R)->ExS [rr] C C'->Q (.ref l) C')
def nP(T:Tx W a):Ok W a 7 49 ["self","pairs","turns"] (oO a):=by
 have S:=(T.F 49 rfl).s;have hX:=jM T 2;refine(T.F 49 rfl).ok (fun ts C R h=>?_) fun af A ag s H E hr=>⟨_,(kQ (yQ (hW rfl (S.c (by decide +kernel)) (S.k rfl rfl rfl (by decide +kernel)) (dU (cv 1)) (fun _ _ _ _ _=>wK) (fun _ _ _ _ _=>(lQ (qQ (cx (cv 0) zQ) (ca1 (cm T.dX (T.F 48 rfl) T.kZ hX hr (cv 1) (qQ (cx (cv 0) zQ) (ca1 (cv 3))))))))))),?_⟩
 .obtain ⟨_,_,_,_,_,_,_,_,_,_,rfl,_⟩:=h;rfl
 rintro ts C Q ⟨ps,x,aa,tt,rr,A,τ,R,bs,ns,rfl,U,hl,sf,Y,O,hR,ab⟩;refine pG (fun zs I C1=>∃ds es:List (Str×Rk),ps=ds++es/\zs=es.map qW/\I=(vZ A τ ds).map xJ/\Sf a C1 x aa rr A (gZ A τ ds R)/\ExS [rr] C C1) ?_ ?_ _ _ _ ⟨[],ps,rfl,rfl,rfl,sf,ExS.refl⟩
 .rintro z zs I C1 ⟨ds,es,g,q,rfl,B,D⟩ L hL
  cases es with
  |nil=>cases q
  |cons p es =>
   injection q with q e3
   subst q e3;obtain⟨dx,mx⟩:=B.ins;refine yX rfl ⟨wZ mx rfl,yX rfl ⟨p.2,x,aa,tt,rr,A,τ,_,bs,ns,rfl,(U p (g▸AR _ AF)).1,B,D _ _ (fun z=>(sf.nd Y).2.2 (AE.1 z).symm) Y,O,qJ (tZ O.a) (fun y hy=>U y (g▸Ao _ hy)) hR,fun C2 ae x2=>⟨y0 2 rfl,?_⟩⟩⟩;refine hL _ _ ⟨?_,ds++[p],es,by rw[g,Af];rfl,rfl,by delta vZ;rw[Ac,Ac];rfl,?_,D.trans x2⟩
   .rw [AB]
    delta vZ
    rw[AB];have:ds.length<=4 :=by simp_all;lia
    exact Aj this (by decide)
   .unfold gZ at ae ⊢
    rwa [BW]
 .rintro I C1 ⟨ds,es,g,q,rfl,B,D⟩ p J
  cases es with
  |cons _ _=>cases q
  |nil =>
   rw[Ah] at g;subst g;have Z:=D.none (fun z=>(B.nn J).2.2 (AE.1 z).symm) J;exact ab _ p Z jQ (B.new J _) (D.put Z _)
def xW k:kW (zK k)=some k:=by
 rcases k with (_ | i) | x<;>rfl
inductive gSpot(a:Adr)(ts:List PV)(C:CH)(Q:K1):Prop
 |mk(k:Option Rk)(x aa tt rr cc:Addr)(A:Rds)(τ:Tns)(R:Rds)(N:Tns)(bs ns:List Str)(z0:ts=[.ref x,xU k,.ref tt,.ref cc])(z1:rC bs ns k)(z2:Sf a C x aa rr A R)(z3:C tt=some (.dK τ))(z4:C cc=some (.dK N))(z5:CInts N)(z6:N.length<=900)(z7:nV A τ bs ns)(z8:RdOk bs R)(z9:∀C',C' cc=some (.dK (fV N (jW A τ k)))->Sf a C' x aa rr A (aK A τ k R)->ExS [rr,cc] C C'->Q (sG (cV N (jW A τ k))) C')
def ok_spot(T:Tx W a):Ok W a 5 54 ["self","key","turns","counts"] (gSpot a):=by
 have S:=(T.F 54 rfl).s;have hX:=jM T 0
 refine(T.F 54 rfl).ok (fun ts C R h=>?_) fun af A ag s H E g=>⟨_,(xQ (cs1 4 S.nd (sD (ct2 Zi yI (cv 1) hV) hV (cm T.dX (T.F 48 rfl) T.kZ hX g (cv 0) (qQ (cv 1) (ca1 (cv 2))))))
  (xQ (cs1 5 S.nd (GB (qZ g) (cv 3) (cv 4) zQ))
  (xQ (cW (qZ g) (cv 3) (cv 4) (eQ uX gX (cv 5) zQ))
  (kQ (yQ (lQ (qQ (cv 4) (ca1 (cv 5))))))))),?_⟩
 .obtain ⟨_,_,_,_,_,_,_,_,_,_,_,_,rfl,_⟩:=h;rfl
 rintro ts C Q ⟨q,x,aa,tt,rr,cc,A,τ,R,N,bs,ns,rfl,hk,B,ab,O,hc,hs,Z,Y,ae⟩;obtain⟨n1,n2,n3⟩:=(B.nd O)
 have rest:∀C1,Sf a C1 x aa rr A (aK A τ q R)->ExS [rr] C C1->Vx (Vw 5 (GJ (bY 3) (bY 4) (cC (.int 0)))) (Vx (cDPut (bY 3) (bY 4) (cOp gH (bY 5) (cC (.int 1)))) (cRet (cTup (aR (bY 4) (aR (bY 5) Vy))))) { nx:=fun _ C'=>Q .non C',rt:=Q } [some (.ref x),some (xU q),some (.ref tt),some (.ref cc),some (zK (jW A τ q)),none] C1:=by
  intro C1 J D;have I:=D _ _ (fun z=>n3 (AE.1 z).symm) O;refine uQ ⟨isDk_g I,getD_g I (xW _) (cnt_is hc _) (oX (yK (tG I (xW _) (by lia) ?_)))⟩;refine⟨y0 2 rfl,?_⟩;refine ae _ jQ (J.keep' (S:=[cc]) (ExS.refl.at AF _) ?_ ?_ ?_) ((D.mono fun b hb=>Ai.2 (.inl (AE.1 hb))).at (AL _ AF) _)
  .grind
  .grind
  .grind
 cases q with
 |none=>exact rest C B ExS.refl
 |some r =>
   obtain⟨dx,mx⟩:=B.ins;have g:∃xs,r.pv=.tup xs:=by cases r<;>exact⟨_,rfl⟩
   obtain⟨xs,g⟩:=g;have U:=rest
   simp only[xU,g] at U ⊢
   refine uQ (if_i (VZ rfl (gW rfl ⟨wZ mx rfl,⟨r,x,aa,tt,rr,A,τ,R,bs,ns,by rw[g],hk,B,ab,Z,Y,fun C1 J D=>?_⟩⟩)));exact U C1 J D
inductive gHand(a:Adr)(ts:List PV)(C:CH)(Q:K1):Prop
 |mk(h:Hd)(x aa tt rr:Addr)(A:Rds)(τ:Tns)(R:Rds)(bs ns:List Str)(z0:ts=[.ref x,h.pv,.ref tt])(z1:h.ok bs ns)(z2:Sf a C x aa rr A R)(z3:C tt=some (.dK τ))(z4:nV A τ bs ns)(z5:RdOk bs R)(z6:∀C',Sf a C' x aa rr A (lB A τ h.ch R)->ExS [rr] C C'->Q (nO A τ h).pv C')
def ok_hand(T:Tx W a):Ok W a 6 55 ["self","hand","turns"] (gHand a):=by
 have S:=(T.F 55 rfl).s;have hX:=jM T 1
 refine(T.F 55 rfl).ok (fun ts C R h=>?_) fun af A ag s H E hr=>⟨_,(xQ (Ke (i:=3) S.nd rfl (Or.inl rfl) rfl (S.c (by decide +kernel)) (S.k rfl rfl rfl (by decide +kernel)) (dU (cx (cv 1) zQ)) (fun _ _ _ _ _=>wK) (fun _ _ _ _ _=>(lQ (qQ (cx (cv 0) zQ) (qQ (cx (cv 0) zQ) (ca1 (cm T.dX (T.F 48 rfl) T.kZ hX hr (cv 1) (qQ (cx (cv 0) zQ) (ca1 (cv 3))))))))))
  (kQ (yQ (lQ (qQ (cx (cv 1) zQ) (qQ (cx (cv 1) zQ) (qQ (cx (cv 1) zQ) (ca1 (ctp T.xX (cv 3)))))))))),?_⟩
 .obtain ⟨_,_,_,_,_,_,_,_,_,_,rfl,_⟩:=h;rfl
 rintro ts C Q ⟨h,x,aa,tt,rr,A,τ,R,bs,ns,rfl,J,Z,Y,U,hR,ab⟩;refine uQ (yX rfl (pG (fun zs I C1=>∃ds es:List (Str×Str×Rk),h.ch=ds++es/\zs=es.map Gw/\I=(rD A τ ds).map ZU/\Sf a C1 x aa rr A (lB A τ ds R)/\ExS [rr] C C1) ?_ ?_ _ _ _ ⟨[],h.ch,rfl,rfl,rfl,Z,ExS.refl⟩))
 .rintro z zs I C1 ⟨ds,es,g,q,rfl,B,D⟩ L hL
  cases es with
  |nil=>cases q
  |cons p es =>
   rw[BA] at q;injection q with q e3
   subst q e3;obtain⟨dx,mx⟩:=B.ins;refine yX rfl (yX rfl ⟨wZ mx rfl,yX rfl ⟨p.2.2,x,aa,tt,rr,A,τ,_,bs,ns,rfl,J.c p (g▸AR _ AF),B,D _ _ (fun z=>(Z.nd Y).2.2 (AE.1 z).symm) Y,U,nD (tZ U.a) (fun y hy=>J.c y (g▸Ao _ hy)) hR,fun C2 ae x2=>⟨y0 3 rfl,?_⟩⟩⟩);refine hL _ _ ⟨?_,ds++[p],es,by rw[g,Af];rfl,rfl,by delta rD;rw[Ac,Ac];rfl,?_,D.trans x2⟩
   .rw [AB]
    delta rD
    rw[AB];have hl:=J.1;have:ds.length<=4 :=by simp_all;lia
    exact Aj this (by decide)
   .unfold lB at ae ⊢
    rwa [BW]
 .rintro I C1 ⟨ds,es,g,q,rfl,B,D⟩ p O
  cases es with
  |cons _ _=>cases q
  |nil =>
   rw[Ah] at g;refine yX rfl (yX rfl (yX rfl (lJ jQ ⟨y0 4 rfl,?_⟩)));have:=ab _ (by rw[g];exact B.new O _) (D.put (D.none (fun z=>(B.nn O).2.2 (AE.1 z).symm) O) (.lst ((rD A τ ds).map ZU)));unfold HdV.pv nO at this
   rwa [g] at this
end
structure S6(a:Adr)(C:CH)(x aa rr tt ff cc:Addr)(A:Rds)(τ:Tns)(st:DSt):Prop where
 sf:Sf a C x aa rr A st.2.2
 mt:C tt=some (.dK τ)
 mf:C ff=some (.lst (Wt.pvs st.1))
 mc:C cc=some (.dK st.2.1)
 tc:tt≠cc
section
variable {a:Adr}{C C':CH}{x aa rr tt ff cc:Addr}{A:Rds}{τ:Tns}{st st':DSt}
def S6.fc(h:S6 a C x aa rr tt ff cc A τ st):ff≠cc:=fun z=>by have:=h.mf;rw[z,h.mc] at this;cases this
def S6.tf(h:S6 a C x aa rr tt ff cc A τ st):tt≠ff:=fun z=>by have:=h.mt;rw[z,h.mf] at this;cases this
def S6.fr(h:S6 a C x aa rr tt ff cc A τ st):ff≠rr:=fun z=>(h.sf.nl h.mf).2.2 z.symm
def S6.cr(h:S6 a C x aa rr tt ff cc A τ st):cc≠rr:=fun z=>(h.sf.nd h.mc).2.2 z.symm
def S6.tr(h:S6 a C x aa rr tt ff cc A τ st):tt≠rr:=fun z=>(h.sf.nd h.mt).2.2 z.symm
def S6.nt(h:S6 a C x aa rr tt ff cc A τ st):tt∉[ff,cc,rr]:=fun z=>by
 simp only[List.mem_cons,List.not_mem_nil,or_false] at z
 rcases z with z | z | z
 .exact h.tf z
 .exact h.tc z
 .exact h.tr z
def S6.rd(h:S6 a C x aa rr tt ff cc A τ st)(e:ExS [rr] C C')(s:Sf a C' x aa rr A R):S6 a C' x aa rr tt ff cc A τ (st.1,st.2.1,R) :=
 ⟨s,e _ _ (fun z=>h.tr (AE.1 z)) h.mt,e _ _ (fun z=>h.fr (AE.1 z)) h.mf,e _ _ (fun z=>h.cr (AE.1 z)) h.mc,h.tc⟩
end
def vI(h:ExS [rr] C C'):ExS [ff,cc,rr] C C':=h.mono fun b z=>by rw[AE.1 z];simp
def xP(h:ExS [rr] C C'):ExS [rr,cc] C C':=h.mono fun b z=>by rw[AE.1 z];simp
def J5(h:ExS [rr,cc] C C'):ExS [ff,cc,rr] C C':=h.mono fun b z=>by
 simp only[List.mem_cons,List.not_mem_nil] at z ⊢
 rcases z with z | z
 .lia
 .lia
def Kr{r:List PV}:atI (x::y::r) 1=some y:=bF (by simp)
def th_pv(h:Xa l=true):∃q rest,l.pv=.tup (.str q::xU (nK l)::rest)/\decide (q = "when")=false/\decide (q = "each")=false:=by
 cases l with
 |plain k B s hs ls=>exact⟨"plain",_,by rfl,by decide,by decide⟩
 |part k n g=>exact⟨"part",_,by rfl,by decide,by decide⟩
 |give k n r ls=>exact⟨"give",_,by rfl,by decide,by decide⟩
 |when r l1 l2=>cases h
 |each n r ls=>cases h
def th_key(h:Xa l=true)(q:LnOk bs rs d ns l):rC bs ns (nK l):=by
 cases d with
 |zero=>exact q.elim
 |succ d =>
 cases l with
 |plain k B s hs ls=>exact q.1
 |part k n g=>exact q.1
 |give k n r ls=>exact q.1
 |when r l1 l2=>cases h
 |each n r ls=>cases h
inductive gBr(a:Adr)(d:Nat)(ts:List PV)(C:CH)(Q:K1):Prop
 |mk(ls:List Ln)(x aa tt rr ff cc:Addr)(A:Rds)(τ:Tns)(st:DSt)(bs rs ns:List Str)(z0:ts=[.ref x,.tup (Ln.pvs ls),.ref tt,.ref ff,.ref cc])(z1:(∀x∈ls,LnOk bs rs d ns x))(z2:st.1.length+Ln.tws ls<=400)(z3:st.2.1.length+Ln.tws ls<=400)(z4:τ.length+d<=50)(z5:S6 a C x aa rr tt ff cc A τ st)(z6:nV A τ bs ns)(z7:RdOk bs st.2.2)(z8:CInts st.2.1)(z9:∀C',S6 a C' x aa rr tt ff cc A τ (oQ A ls τ st)->ExS [ff,cc,rr] C C'->Q .non C')
inductive gBrL(a:Adr)(d:Nat)(ts:List PV)(C:CH)(Q:K1):Prop
 |mk d'(z0:d=d'+1)(z1:gBr a d' ts C Q)
inductive gRow(a:Adr)(d:Nat)(ts:List PV)(C:CH)(Q:K1):Prop
 |mk(ls:List Ln)(x aa tt rr:Addr)(A:Rds)(τ:Tns)(R:Rds)(bs rs ns:List Str)(z0:ts=[.ref x,.tup (Ln.pvs ls),.ref tt])(z1:(∀x∈ls,LnOk bs rs d ns x))(z2:Ln.tws ls<=400)(z3:τ.length+d<=50)(z4:Sf a C x aa rr A R)(z5:C tt=some (.dK τ))(z6:nV A τ bs ns)(z7:RdOk bs R)(z8:∀C',Sf a C' x aa rr A (oQ A ls τ ([],[],R)).2.2->ExS [rr] C C'->Q (.tup (Wt.pvs (oQ A ls τ ([],[],R)).1)) C')
inductive YR(a:Adr)(d:Nat)(ts:List PV)(C:CH)(Q:K1):Prop
 |mk d'(z0:d=d'+1)(z1:gRow a d' ts C Q)
inductive YQ(a:Adr)(d:Nat)(ts:List PV)(C:CH)(Q:K1):Prop
 |mk(l:Ln)(x aa tt rr cc:Addr)(A:Rds)(τ:Tns)(R:Rds)(N:Tns)(bs rs ns:List Str)(z0:ts=[.ref x,l.pv,.ref tt,.ref cc])(z1:Xa l=true)(z2:LnOk bs rs d ns l)(z3:l.tw<=400)(z4:τ.length+d<=50)(z5:Sf a C x aa rr A R)(z6:C tt=some (.dK τ))(z7:C cc=some (.dK N))(z8:tt≠cc)(z9:CInts N)(z10:N.length<=900)(z11:nV A τ bs ns)(z12:RdOk bs R)(z13:∀C',C' cc=some (.dK (fV N (jW A τ (nK l))))->Sf a C' x aa rr A (vF A τ (cV N (jW A τ (nK l))) l (aK A τ (nK l) R)).2->ExS [rr,cc] C C'->Q (vF A τ (cV N (jW A τ (nK l))) l (aK A τ (nK l) R)).1.pv C')
section
variable {W:Wd}{a:Adr}
def WZ(T:Tx W a)(uK:Ok W a k 51 ["self","lines","turns","row","counts"] (gBr a d)):Ok W a (k+1) 50 ["self","lines","turns"] (gRow a d):=by
 refine(T.F 50 rfl).ok (fun ts C R h=>?_) fun ah A aj s H E hr=>⟨_,(xQ (cs1 3 ((T.F 50 rfl).s).nd (mX pZ))
  (xQ (aZ (cm T.dX (T.F 51 rfl) T.kZ uK hr (cv 0) (qQ (cv 1) (qQ (cv 2) (qQ (cv 3) (ca1 mM))))))
  (kQ (yQ (ctp T.xX (cv 3)))))),?_⟩
 .obtain ⟨_,_,_,_,_,_,_,_,_,_,_,rfl,_⟩:=h;rfl
 rintro ts C Q ⟨ls,x,aa,tt,rr,A,τ,R,bs,rs,ns,rfl,af,ai,ab,sf,g,hS,hR,ag⟩;refine⟨by decide,fun ff D=>?_⟩;have Z:=sf.new D (.lst []);refine el11 Z.ins fun dx mx=>oX ⟨wZ mx rfl,?_⟩;intro cc q;have S:cc≠ff:=fun z=>by rw[z,jQ] at q;cases q
 have O:C cc=none:=by rwa [wQ S] at q
 have ae:tt≠ff:=fun z=>by rw[z,D] at g;cases g
 have U:tt≠cc:=fun z=>by rw[z,O] at g;cases g
 refine⟨ls,x,aa,tt,rr,ff,cc,A,τ,([],[],R),bs,rs,ns,rfl,af,by show 0+_<=400;lia,by show 0+_<=400;lia,ab,⟨(Z.new q (.dK [])),by rw[wQ U,wQ ae];exact g,by exact(wQ (Ne.symm S))▸jQ,jQ,U⟩,hS,hR,(fun _ z=>nomatch z),fun C2 Y e2=>?_⟩;refine lJ Y.mf (ag C2 Y.sf fun b o hb B=>?_);have I:b≠ff:=fun z=>by rw[z,D] at B;cases B
 have J:b≠cc:=fun z=>by rw[z,O] at B;cases B
 refine e2 b o (fun z=>?_) (by rwa [wQ J,wQ I])
 simp only[List.mem_cons,List.not_mem_nil] at z
 rcases z with z | z | z
 .exact I z
 .exact J z
 .grind
def ok_want(T:Tx W a)(d k:Nat)(h7:7<=k)(rW:Ok W a k 50 ["self","lines","turns"] (YR a d)):Ok W a (k+1) 53 ["self","line","turns","counts"] (YQ a d):=by
 have S:=(T.F 53 rfl).s;have yT:=(ok_spot T).mono (show 5<=k by lia);have hX:=(jM T 1).mono (show 5<=k by lia);have pV:=(nP T).mono h7;have uT:=(ok_hand T).mono (show 6<=k by lia)
 refine(T.F 53 rfl).ok (fun ts C R h=>?_) fun bx A b4 s H E hr=>⟨_,(xQ (cs1 4 S.nd (cm T.dX (T.F 54 rfl) T.kZ yT hr (cv 0) (qQ (cx (cv 1) zQ) (qQ (cv 2) (ca1 (cv 3))))))
  (xQ (sQ (ct2 bX iQ (cx (cv 1) zQ) vQ) (kQ (yQ (lQ (qQ vQ (qQ (cv 4) (qQ (cx (cv 1) zQ) (qQ (cm T.dX (T.F 48 rfl) T.kZ hX hr (cv 0) (qQ (cx (cv 1) zQ) (ca1 (cv 2)))) (ca1 (cm T.dX (T.F 50 rfl) T.kZ rW hr (cv 0) (qQ (cx (cv 1) zQ) (ca1 (cv 2)))))))))))) pQ)
  (xQ (cs1 5 S.nd (ctp T.xX (cQ (iD rfl) rR rfl T.pF rfl (ca1 (cm T.dX (T.F 49 rfl) T.kZ pV hr (cv 0) (qQ (cx (cv 1) zQ) (ca1 (cv 2))))))))
  (xQ (sQ (ct2 bX iQ (cx (cv 1) zQ) vQ) (kQ (yQ (lQ (qQ vQ (qQ (cv 4) (qQ (cx (cv 1) zQ) (ca1 (cv 5)))))))) pQ)
  (xQ (cs1 6 S.nd (ctp T.xX (hW rfl (S.c (by decide +kernel)) (S.k rfl rfl rfl (by decide +kernel)) (dU (cx (cv 1) zQ)) (fun _ _ _ _ _=>wK) (fun _ _ _ _ _=>(cm T.dX (T.F 55 rfl) T.kZ uT hr (cv 1) (qQ (cv 0) (ca1 (cv 3))))))))
  (kQ (yQ (lQ (qQ vQ (qQ (cv 4) (qQ (cx (cv 1) zQ) (qQ (cv 5) (qQ (cv 6) (ca1 (cm T.dX (T.F 50 rfl) T.kZ rW hr (cv 0) (qQ (cx (cv 1) zQ) (ca1 (cv 2)))))))))))))))))),?_⟩
 .obtain ⟨_,_,_,_,_,_,_,_,_,_,_,_,_,rfl,_⟩:=h;rfl
 rintro ts C Q ⟨l,x,aa,tt,rr,cc,A,τ,R,N,bs,rs,ns,rfl,a8,av,a9,b3,sf,ae,aq,bt,hc,hs,q,hR,a4⟩;obtain⟨dx,mx⟩:=sf.ins;obtain⟨n1,n2,n3⟩:=sf.nd aq
 have ar:tt∉[rr,cc]:=fun z=>by
  rcases Ai.1 z with z | z
  .exact (sf.nd ae).2.2 z.symm
  .exact bt (AE.1 z)
 have au:tt∉[rr]:=fun z=>ar (Ai.2 (.inl (AE.1 z)));have ag:cc∉[rr]:=fun z=>n3 (AE.1 z).symm
 cases d with
 |zero=>exact av.elim
 |succ d =>
 cases l with
 |when r l1 l2=>cases a8
 |each n r ls=>cases a8
 |give B n bf ls =>
  obtain⟨h1,h2,I,aj,h5⟩:=av;unfold Ln.pv;refine⟨wZ mx rfl,yX (v:=xU B) rfl ⟨B,x,aa,tt,rr,cc,A,τ,R,N,bs,ns,rfl,h1,sf,ae,aq,hc,hs,q,hR,fun C1 m1 Y Z=>?_⟩⟩;have af:=Z _ _ ar ae;have R1:=kM (τ:=τ) (tZ q.a) h1 hR;obtain⟨a7,ao⟩:=Y.ins;refine oX (yX rX (vX (rQ _ _) (jZ (by decide) ?_)));refine yX (v:=.str n) rfl ⟨wZ ao rfl,yX (v:=bf.pv) rfl ⟨bf,x,aa,tt,rr,A,τ,_,bs,ns,rfl,I,Y,af,q,R1,fun C2 ah D=>?_⟩⟩
  have a0:=D _ _ au af;obtain⟨bz,bl⟩:=ah.ins;refine⟨wZ bl rfl,yX (v:=.tup (Ln.pvs ls)) rfl ?_⟩;have bh:1+Ln.tws ls<=400:=a9;refine⟨d,rfl,ls,x,aa,tt,rr,A,τ,_,bs,rs,ns,rfl,aj,by lia,by lia,ah,a0,q,nJ (tZ q.a) I R1,fun C3 ax x3=>?_⟩;refine⟨y0 5 rfl,?_⟩;have:=a4 C3 (x3 _ _ ag (D _ _ ag m1)) ax ((Z.trans (xP D)).trans (xP x3));unfold vF Wt.pv at this;exact this
 |part B n g =>
  obtain⟨h1,h2,I,aj⟩:=av
  delta Ln.pv
  refine⟨wZ mx rfl,yX (v:=xU B) rfl ⟨B,x,aa,tt,rr,cc,A,τ,R,N,bs,ns,rfl,h1,sf,ae,aq,hc,hs,q,hR,fun C1 m1 Y Z=>?_⟩⟩;have af:=Z _ _ ar ae;have R1:=kM (τ:=τ) (tZ q.a) h1 hR;obtain⟨a7,ao⟩:=Y.ins;refine oX (yX rX (vX (rQ _ _) (fX (by decide) ?_)))
  apply aQ
  try dsimp only
  refine uQ (i:=5) ⟨wZ ao rfl,yX (v:=.tup (g.map qW)) rfl ⟨g,x,aa,tt,rr,A,τ,_,bs,ns,rfl,fun y hy=>⟨(I y hy).1.mono (by decide),(I y hy).2⟩,aj,Y,af,q,R1,fun C2 p p0 m2 ah D=>?_⟩⟩;refine oN m2 (by delta vZ;rw[AB];lia) fun p2 U=>?_;refine lJ jQ (oX (yX rX (vX (rQ _ _) (jZ (by decide) ?_))));refine yX (v:=.str n) rfl ⟨y0 4 rfl,?_⟩;have br:cc≠p2:=fun z=>by have:=D _ _ ag m1;rw[z,U] at this;cases this
  have:=a4 (gQ C2 p2 (.lst ((yG (vZ A τ g)).map xJ))) (by rw[wQ br];exact D _ _ ag m1) (ah.new U _) (by
   intro b o hb ak;have h2:=(Z.trans (xP D)) b o hb ak;rw[wQ (fun z=>by rw[z,U] at h2;cases h2)]
   exact h2)
  unfold vF Wt.pv at this;exact this
 |plain B a5 ss J ls =>
  obtain⟨h1,h2,I,aj,h5⟩:=av;unfold Ln.pv;generalize bg:PV.tup [PV.str "plain",xU B,PV.str a5,PV.tup (List.map qW ss),PV.tup (List.map Hd.pv J),PV.tup (Ln.pvs ls)]=lp
  have ab:∀(i:Int)(v:PV)(C':CH)(Q':K1),atI [PV.str "plain",xU B,PV.str a5,PV.tup (List.map qW ss),PV.tup (List.map Hd.pv J),PV.tup (Ln.pvs ls)] i=some v->Q' v C'->cIx lp (.int i) C' Q':=by
   intro i v C' Q' e h;rw[<- bg];exact yX e h
  refine⟨wZ mx rfl,ab 1 (xU B) _ _ rfl ⟨B,x,aa,tt,rr,cc,A,τ,R,N,bs,ns,rfl,h1,sf,ae,aq,hc,hs,q,hR,fun C1 m1 Y Z=>?_⟩⟩;have af:=Z _ _ ar ae;have R1:=kM (τ:=τ) (tZ q.a) h1 hR;obtain⟨a7,ao⟩:=Y.ins;refine oX (ab 0 (.str "plain") _ _ rfl (vX (rQ _ _) (fX (by decide) ?_)))
  apply aQ
  try dsimp only
  refine uQ (i:=5) ⟨wZ ao rfl,ab 3 (.tup (ss.map qW)) _ _ rfl ⟨ss,x,aa,tt,rr,A,τ,_,bs,ns,rfl,h2.1,h2.2,Y,af,q,R1,fun C2 p p0 m2 ah D=>?_⟩⟩;have b2:=h2.2;refine oN m2 (by unfold vZ;rw[AB];lia) fun p2 U=>?_
  apply lJ jQ
  refine oX (ab 0 (.str "plain") _ _ rfl (vX (rQ _ _) (fX (by decide) ?_)))
  apply aQ
  try dsimp only
  have a6:=qJ (τ:=τ) (tZ q.a) h2.1 R1;have bj:=D _ _ ag m1;have a0:=D _ _ au af;have bw:=Z.trans (xP (cc:=cc) D);have ax:=ah.new U (.lst ((yG (vZ A τ ss)).map xJ));have ba:(gQ C2 p2 (.lst ((yG (vZ A τ ss)).map xJ))) cc=some (.dK (fV N (jW A τ B))):=Gr.new U _ _ _ bj;have a3:(gQ C2 p2 (.lst ((yG (vZ A τ ss)).map xJ))) tt=some (.dK τ):=Gr.new U _ _ _ a0;have x3:ExS [rr,cc] C (gQ C2 p2 (.lst ((yG (vZ A τ ss)).map xJ))):=fun b o hb ak=>Gr.new U _ _ _ (bw b o hb ak)
  generalize gQ C2 p2 (.lst ((yG (vZ A τ ss)).map xJ))=C3 at ax ba a3 x3 ⊢;refine uQ (i:=6) (ab 4 (.tup (J.map Hd.pv)) _ _ rfl (pG (fun zs az O=>∃ds es:List Hd,J=ds++es/\zs=es.map Hd.pv/\az=(rZ A τ ds).map HdV.pv/\Sf a O x aa rr A (mZ A τ ds (gZ A τ ss (aK A τ B R)))/\ExS [rr] C3 O) ?_ ?_ _ _ _ ⟨[],J,rfl,rfl,rfl,ax,ExS.refl⟩))
  .rintro z zs az O ⟨ds,es,e1,e2,rfl,ay,x4⟩ L hL
   cases es with
   |nil=>cases e2
   |cons u es =>
    obtain⟨rfl,rfl⟩:=Bn e2;obtain⟨b0,bp⟩:=ay.ins;refine⟨wZ bp rfl,⟨u,x,aa,tt,rr,A,τ,_,bs,ns,rfl,I.1 u (by rw[e1];exact AR _ AF),ay,x4 _ _ au a3,q,zV (tZ q.a) (fun y hy=>I.1 y (by rw[e1];exact Ao _ hy)) a6,fun C5 ai x5=>?_⟩⟩;refine hL _ _ ⟨?_,ds++[u],es,by rw[e1,Af];rfl,rfl,by unfold rZ;rw[Ac,Ac];rfl,?_,x4.trans x5⟩
    .rw [AB]
     unfold rZ;rw[AB];have hl:=I.2;have:ds.length<=4:=by rw[e1,AN] at hl;lia
     exact Aj this (by decide)
    .unfold mZ at ai ⊢
     rw[BW];exact ai
  .rintro az O ⟨ds,es,e1,e2,rfl,ay,x4⟩ p4 aw
   cases es with
   |cons _ _=>cases e2
   |nil =>
    rw[Ah] at e1;subst e1
    apply lJ jQ
    have ai:=ay.new aw (.lst ((rZ A τ J).map HdV.pv));have bb:(gQ O p4 (.lst ((rZ A τ J).map HdV.pv))) cc=some (.dK (fV N (jW A τ B))):=Gr.new aw _ _ _ (x4 _ _ ag ba);have bc:(gQ O p4 (.lst ((rZ A τ J).map HdV.pv))) tt=some (.dK τ):=Gr.new aw _ _ _ (x4 _ _ au a3);have x5:ExS [rr,cc] C (gQ O p4 (.lst ((rZ A τ J).map HdV.pv))):=fun b o hb ak=>Gr.new aw _ _ _ ((xP (cc:=cc) x4) b o hb (x3 b o hb ak))
    generalize gQ O p4 (.lst ((rZ A τ J).map HdV.pv))=C5 at ai bb bc x5 ⊢;obtain⟨b1,bq⟩:=ai.ins;refine ab 2 (.str a5) _ _ rfl ⟨wZ bq rfl,ab 5 (.tup (Ln.pvs ls)) _ _ rfl ?_⟩;have bh:1+Ln.tws ls<=400:=a9;refine⟨d,rfl,ls,x,aa,tt,rr,A,τ,_,bs,rs,ns,rfl,aj,by lia,by lia,ai,bc,q,zV (tZ q.a) I.1 a6,fun C6 bu x6=>?_⟩;refine⟨y0 6 rfl,?_⟩;have:=a4 C6 (x6 _ _ ag bb) bu (x5.trans (xP x6))
    unfold vF Wt.pv at this;exact this
end
theorem TBd.put(h:TBd τ)k(hi:Bd i):TBd (dZ τ k (.int i)):=by
 intro B g
 delta dZ at g
 split at g
 .obtain ⟨x,q,rfl⟩:=AU.1 g
  split
  .lia
  .exact h x q
 .rcases AS.1 g with g | g
  .exact h B g
  .grind
inductive ZQ(a:Adr)(d:Nat)(ts:List PV)(C:CH)(Q:K1):Prop
 |mk(n:Str)(rk:Rk)(l1:List Ln)(x aa tt rr ff cc:Addr)(A:Rds)(τ:Tns)(st:DSt)(bs rs ns:List Str)(z0:ts=[.ref x,(Ln.each n rk l1).pv,.ref tt,.ref ff,.ref cc])(z1:LnOk bs rs d ns (.each n rk l1))(z2:st.1.length+(Ln.each n rk l1).tw<=400)(z3:st.2.1.length+(Ln.each n rk l1).tw<=400)(z4:τ.length+d<=50)(z5:S6 a C x aa rr tt ff cc A τ st)(z6:nV A τ bs ns)(z7:RdOk bs st.2.2)(z8:CInts st.2.1)(z9:∀C',S6 a C' x aa rr tt ff cc A τ (cX A (.each n rk l1) τ st)->ExS [ff,cc,rr] C C'->Q .non C')
section
variable {W:Wd}{a:Adr}
def W9(T:Tx W a)(d k:Nat)(h7:7<=k)(uK:Ok W a k 51 ["self","lines","turns","row","counts"] (gBrL a d)):Ok W a (k+1) 52 ["self","line","turns","row","counts"] (ZQ a d):=by
 have S:=(T.F 52 rfl).s;have hX:=(jM T 2).mono (show 6<=k by lia)
 refine(T.F 52 rfl).ok (fun ts C R h=>?_) fun a9 A bh s H E hr=>⟨_,(xQ (cs1 5 S.nd (cQ (pM rfl) tH rfl T.Jh rfl (qQ (lW (v:=.int 8) (t:=.int 8) rfl T.Xl ⟨_,rfl⟩ (fun _=>.int _)) (ca1 (cm T.dX (T.F 48 rfl) T.kZ hX hr (cv 0) (qQ (cx (cv 1) zQ) (ca1 (cv 2))))))))
  (kQ (gM PassesOwn.never rfl rfl T.pW (ca1 (cv 5)) (cg1 6 S.nd) (xQ (cs1 7 S.nd (lZ oR uE rfl T.yN rfl (ca1 (cv 2))))
  (xQ (cW (qZ hr) (cv 7) (cx (cv 1) zQ) (cv 6))
  (kQ (aZ (cm T.dX (T.F 51 rfl) T.kZ uK hr (cv 0) (qQ (cx (cv 1) zQ) (qQ (cv 7) (qQ (cv 3) (ca1 (cv 4))))))))))))),?_⟩
 .obtain ⟨_,_,_,_,_,_,_,_,_,_,_,_,_,_,_,rfl,_⟩:=h;rfl
 rintro ts C Q ⟨n,q,l1,x,aa,tt,rr,ff,cc,A,τ,ak,bs,rs,ns,rfl,hu,hF,hN,bg,Z,J,R1,au,a3⟩
 cases d with
 |zero=>exact hu.elim
 |succ d' =>
 obtain⟨ai,o1,_⟩:=hu;have ep:(Ln.each n q l1).pv=.tup [.str "each",.str n,q.pv,.tup (Ln.pvs l1)]:=by rw[Ln.pv]
 have bb:(Ln.each n q l1).tw=8 * Ln.tws l1:=by rw[Ln.tw]
 have U:nV A τ bs []:=⟨J.a,J.t,(fun _ z=>nomatch z),J.b⟩;obtain⟨dx,mx⟩:=Z.sf.ins;refine⟨wZ mx rfl,tJ ep (v:=q.pv) rfl ⟨q,x,aa,tt,rr,A,τ,_,bs,[],rfl,ai.mono (by decide),Z.sf,Z.mt,U,R1,fun C2 a6 e2=>?_⟩⟩
 apply Q0
 have aw:=zY U.a U.t U.h ai;unfold Bd at aw;refine⟨by split<;>lia,by split<;>lia,?_⟩;have av:=nJ (τ:=τ) (tZ J.a) ai R1;have a4:=Z.rd e2 a6;show eY _ _ _ ((List.range (nB (q.val A τ))).map fun k=>PV.int (k:Nat)) _ _;generalize ao:nB (q.val A τ)=O;have bf:O<=8:=by rw[<- ao];exact aD _
 let f:DSt->Nat->DSt:=fun st k=>oQ A l1 (dZ τ (.inr n) (.int (k:Nat))) st
 let I:DSt:=(ak.1,ak.2.1,q.rds A τ ak.2.2)
 refine lK (fun zs ρ C'=>∃(j:Nat)(x6 x7:Option PV),j<=O/\zs=((List.range O).drop j).map (fun k:Nat=>PV.int (k:Nat))/\ρ=[some (.ref x),some (Ln.each n q l1).pv,some (.ref tt),some (.ref ff),some (.ref cc),some (.int (if q.val A τ < 8 then q.val A τ else 8)),x6,x7]/\S6 a C' x aa rr tt ff cc A τ ((List.range j).foldl f I)/\ExS [ff,cc,rr] C C') ?_ ?_ _ _ _ ⟨0,_,_,AY _,rfl,rfl,a4,vI e2⟩
 .rintro z zs ρ D ⟨j,y9,a8,hj,Y,rfl,B,e3⟩ L3 ax
  obtain⟨az,rfl,rfl⟩:=aY Y;refine uQ (J8 B.mt fun g ag=>oX (tJ ep (v:=.str n) rfl (tG (k:=.inr n) jQ rfl (by lia) ?_)));have ah:∀b o,D b=some o->b≠g:=fun b o h z=>by rw[z,ag] at h;cases h
  have ae:=yU (f:=f) (m:=fun st=>st.1.length) (c:=Ln.tws l1) (fun x k=>(zJ A l1 _ x).1) (List.range j) I;have af:=yU (f:=f) (m:=fun st=>st.2.1.length) (c:=Ln.tws l1) (fun x k=>(zJ A l1 _ x).2) (List.range j) I;rw[Ak] at ae af
  have aq:j * Ln.tws l1+Ln.tws l1<=8 * Ln.tws l1:=by
   have:(j+1) * Ln.tws l1<=8 * Ln.tws l1:=Bl _ (by lia);rw[Nat.add_mul,Nat.one_mul] at this;exact this
  have ae:=ae;have af:=af;have R3:RdOk bs ((List.range j).foldl f I).2.2:=uY (P:=fun st:DSt=>RdOk bs st.2.2) (fun x k p=>wJ (tZ J.a) o1 p) _ _ av;have N3:CInts ((List.range j).foldl f I).2.1:=uY (P:=fun st:DSt=>CInts st.2.1) (fun x k p=>lG A l1 _ x p) _ _ au;have a7:TBd (dZ τ (.inr n) (.int (j:Nat))):=J.t.put _ (by delta Bd;lia)
  have ay:nV A (dZ τ (.inr n) (.int (j:Nat))) bs [n]:=⟨J.a,a7,fun m aq=>by
   cases AE.1 aq
   rw[mH,AZ rfl];rfl,J.b⟩
  have bc:(dZ τ (.inr n) (.int (j:Nat))).length<=τ.length+1:=uB _ _ _;have x4:ExS [ff,cc,rr] D (gQ (gQ D g (.dK τ)) g (.dK (dZ τ (.inr n) (.int (j:Nat))))):=(ExS.refl.put ag _).put ag _;have ab:∀b o,D b=some o->gQ (gQ D g (.dK τ)) g (.dK (dZ τ (.inr n) (.int (j:Nat)))) b=some o:=fun b o h=>by rw[wQ (ah b o h),wQ (ah b o h)];exact h
  have m4:gQ (gQ D g (.dK τ)) g (.dK (dZ τ (.inr n) (.int (j:Nat)))) g=some (.dK (dZ τ (.inr n) (.int (j:Nat)))):=jQ;generalize gQ (gQ D g (.dK τ)) g (.dK (dZ τ (.inr n) (.int (j:Nat))))=C4 at x4 ab m4 ⊢;have ar:Sf a C4 x aa rr A ((List.range j).foldl f I).2.2:=B.sf.keep' (S:=[]) (fun b o _ h=>ab b o h) B7 B7 B7;have a5:S6 a C4 x aa rr g ff cc A (dZ τ (.inr n) (.int (j:Nat))) ((List.range j).foldl f I):=⟨ar,m4,ab _ _ B.mf,ab _ _ B.mc,Ne.symm (ah _ _ B.mc)⟩
  obtain⟨ba,a0⟩:=ar.ins;refine⟨wZ a0 rfl,tJ ep (v:=.tup (Ln.pvs l1)) rfl ⟨d',rfl,l1,x,aa,g,rr,ff,cc,A,_,_,bs,rs,[n],rfl,o1,by lia,by lia,by lia,a5,ay,R3,N3,fun C5 aj e5=>?_⟩⟩;refine ax _ _ ⟨j+1,_,_,az,rfl,rfl,?_,e3.trans (x4.trans e5)⟩;have ef:(List.range (j+1)).foldl f I=f ((List.range j).foldl f I) j:=by rw[DV,BW];rfl
  rw[ef];exact⟨aj.sf,(x4.trans e5) _ _ B.nt B.mt,aj.mf,aj.mc,B.tc⟩
 .rintro ρ D ⟨j,y9,a8,hj,Y,rfl,B,e3⟩
  have ej:j=O:=by
   rcases Cs j O with h | h
   .rw [A4 (by rw[Ak];exact h)] at Y
    cases Y
   .lia
  subst ej;refine a3 D ?_ e3;rw[cX,ao];exact B
def QS(T:Tx W a)(d k:Nat)(h7:7<=k)(uK:Ok W a k 51 ["self","lines","turns","row","counts"] (gBrL a d))(vT:Ok W a k 53 ["self","line","turns","counts"] (YQ a d))(hM:Ok W a k 52 ["self","line","turns","row","counts"] (ZQ a d)):
  Ok W a (k+1) 51 ["self","lines","turns","row","counts"] (gBr a d):=by
 have S:=(T.F 51 rfl).s;have hX:=(jM T 2).mono (show 6<=k by lia)
 refine(T.F 51 rfl).ok (fun ts C R h=>?_) fun aw A a4 s H E hr=>⟨_,(kQ (sH PassesOwn.never rfl (cv 1) (cg1 5 S.nd) (kQ (sQ (ct2 bX iQ (cx (cv 5) zQ) vQ) (xQ (cs1 6 S.nd (sD (ct2 bX iQ (cm T.dX (T.F 48 rfl) T.kZ hX hr (cv 0) (qQ (cx (cv 5) zQ) (ca1 (cv 2)))) zQ) (cx (cv 5) zQ) (cx (cv 5) zQ)))
  (kQ (aZ (cm T.dX (T.F 51 rfl) T.kZ uK hr (cv 0) (qQ (cv 6) (qQ (cv 2) (qQ (cv 3) (ca1 (cv 4))))))))) (kQ (sQ (ct2 bX iQ (cx (cv 5) zQ) vQ) (kQ (aZ (cm T.dX (T.F 52 rfl) T.kZ hM hr (cv 0) (qQ (cv 5) (qQ (cv 2) (qQ (cv 3) (ca1 (cv 4)))))))) (kQ (aZ (cap (cv 3) (cm T.dX (T.F 53 rfl) T.kZ vT hr (cv 0) (qQ (cv 5) (qQ (cv 2) (ca1 (cv 4)))))))))))))),?_⟩
 .obtain ⟨_,_,_,_,_,_,_,_,_,_,_,_,_,rfl,_⟩:=h;rfl
 rintro ts C Q ⟨ls,x,aa,tt,rr,ff,cc,A,τ,st,bs,rs,ns,rfl,aq,hF,hN,aj,hE,O,hR,hC,av⟩;refine Y1 rfl (lK (fun zs ρ C'=>∃ds I x5 x6,ls=ds++I/\zs=Ln.pvs I/\ρ=[some (.ref x),some (.tup (Ln.pvs ls)),some (.ref tt),some (.ref ff),some (.ref cc),x5,x6]/\S6 a C' x aa rr tt ff cc A τ (oQ A ds τ st)/\ExS [ff,cc,rr] C C') ?_ ?_ _ _ _ ⟨[],ls,_,_,rfl,rfl,rfl,by rw[hZ];exact hE,ExS.refl⟩)
 .rintro z zs ρ C1 ⟨ds,I,x5,x6,e,hz,rfl,q,e1⟩ L hL
  cases I with
  |nil=>cases hz
  |cons u I =>
  obtain⟨rfl,rfl⟩:=Bn hz;have hu:=aq u (e▸AR _ AF);have a3:Ln.tws ls=Ln.tws ds+(u.tw+Ln.tws I):=by rw[e,Ln.tws_app];rfl
  have J:=zJ A ds τ st;have R1:RdOk bs (oQ A ds τ st).2.2:=wJ (tZ O.a) (fun x hx=>aq x (e▸Ao _ hx)) hR;have Y:=lG A ds τ st hC
  have ab:∀C' x5 x6,S6 a C' x aa rr tt ff cc A τ (cX A u τ (oQ A ds τ st))->ExS [ff,cc,rr] C1 C'->L [some (.ref x),some (.tup (Ln.pvs ls)),some (.ref tt),some (.ref ff),some (.ref cc),x5,x6] C':=by
   intro C' y5 y6 h1 h2;refine hL _ _ ⟨ds++[u],I,y5,y6,by rw[Af];exact e,rfl,rfl,?_,e1.trans h2⟩
   rwa [wF,xZ,hZ]
  clear hL;generalize a0:oQ A ds τ st=B at q J R1 Y ab;obtain⟨ax,af⟩:=q.sf.ins
  by_cases U:Xa u=true
  .obtain ⟨wd,rest,ep,n1,n2⟩:=th_pv U
   refine tJ ep rX (vX (rQ _ _) (fX (by rw[n1];rfl) ?_));refine tJ ep rX (vX (rQ _ _) (fX (by rw[n2];rfl) ?_));refine⟨yV q.mf,⟨wZ af rfl,⟨u,x,aa,tt,rr,cc,A,τ,_,_,bs,rs,ns,rfl,U,hu,by lia,aj,q.sf,q.mt,q.mc,q.tc,Y,by have:=J.2;lia,O,R1,fun C2 m2 ae x2=>?_⟩⟩⟩
   have nf:ff∉[rr,cc]:=fun z=>by
    simp only[List.mem_cons,List.not_mem_nil,or_false] at z
    rcases z with z | z
    .exact q.fr z
    .exact q.fc z
   have ak:=x2 _ _ nf q.mf
   apply zH ak (by rw[Wt.pvs_len];have:=J.1;exact Aj (show B.1.length<=400 by lia) (by decide))
   have eo:=Zx A τ u B.1 B.2.1 B.2.2 U;have ag:=ae.nl ak;refine ab _ _ _ ?_ ((J5 x2).at (by simp) _);rw[show B=(B.1,B.2.1,B.2.2) from rfl,eo];refine⟨ae.keep' (ExS.refl.at AF _) (fun z=>ag.1 (AE.1 z)) (fun z=>ag.2.1 (AE.1 z)) (fun z=>ag.2.2 (AE.1 z)),?_,by rw[jQ,Wt.pvs_app];rfl,by exact(wQ (Ne.symm q.fc))▸m2,q.tc⟩
   exact(wQ q.tf)▸(J5 x2) _ _ q.nt q.mt
  .cases u with
   |plain k a5 s hs ls=>exact absurd rfl U
   |part k n g=>exact absurd rfl U
   |give k n r ls=>exact absurd rfl U
   |when D l1 l2 =>
    cases d with
    |zero=>exact hu.elim
    |succ d' =>
    obtain⟨ar,⟨o1,_⟩,o2,_⟩:=hu;have ep:(Ln.when D l1 l2).pv=.tup [.str "when",D.pv,.tup (Ln.pvs l1),.tup (Ln.pvs l2)]:=by rw[Ln.pv]
    have az:(Ln.when D l1 l2).tw=Ln.tws l1+Ln.tws l2:=by rw[Ln.tw]
    refine tJ ep rX (vX (rQ _ _) (jZ rfl (uQ (if_i ⟨wZ af rfl,tJ ep rfl ⟨D,x,aa,tt,rr,A,τ,_,bs,ns,rfl,ar.mono (by decide),q.sf,q.mt,O,R1,fun C2 ae e2=>?_⟩⟩))));have ai:=nJ (τ:=τ) (tZ O.a) ar R1;have au:=q.rd e2 ae;obtain⟨ay,ao⟩:=ae.ins
    apply vX (kX _ _)
    by_cases h0:D.val A τ=0
    .refine jZ (Ad h0) (tJ ep rfl ⟨wZ ao rfl,⟨d',rfl,l2,x,aa,tt,rr,ff,cc,A,τ,(B.1,B.2.1,D.rds A τ B.2.2),bs,rs,ns,rfl,o2,by have:=J.1;lia,by have:=J.2;lia,by lia,au,O,ai,Y,fun Z ah e3=>?_⟩⟩)
     refine ab Z _ _ ?_ ((vI e2).trans e3)
     rwa [cX,AZ h0]
    .refine fX (AM h0) (tJ ep rfl ⟨wZ ao rfl,⟨d',rfl,l1,x,aa,tt,rr,ff,cc,A,τ,(B.1,B.2.1,D.rds A τ B.2.2),bs,rs,ns,rfl,o1,by have:=J.1;lia,by have:=J.2;lia,by lia,au,O,ai,Y,fun Z ah e3=>?_⟩⟩)
     refine ab Z _ _ ?_ ((vI e2).trans e3)
     rwa [cX,AX h0]
   |each n D l1 =>
    have ep:(Ln.each n D l1).pv=.tup [.str "each",.str n,D.pv,.tup (Ln.pvs l1)]:=by rw[Ln.pv]
    refine tJ ep rX (vX (rQ _ _) (fX rfl (tJ ep rX (vX (rQ _ _) (jZ rfl ⟨wZ af rfl,⟨n,D,l1,x,aa,tt,rr,ff,cc,A,τ,B,bs,rs,ns,rfl,hu,by have:=J.1;lia,by have:=J.2;lia,aj,q,O,R1,Y,fun Z ah e3=>?_⟩⟩)))));exact ab Z _ _ ah e3
 .rintro ρ C1 ⟨ds,I,x5,x6,e,hz,rfl,q,e1⟩
  cases I with
  |cons u I=>cases hz
  |nil =>
   rw[Ah] at e;subst e;exact av C1 q e1
def ok_br(T:Tx W a)d:Ok W a (3 * d+9) 51 ["self","lines","turns","row","counts"] (gBr a d):=by
 induction d with
 |zero =>
  exact QS T 0 8 (by decide) (oJ fun ts C Q ⟨d',e,_⟩=>by lia) (oJ fun ts C Q z=>by obtain⟨l,x,aa,tt,rr,cc,A,τ,R,N,bs,rs,ns,_,_,h,_⟩:=z;exact h) (oJ fun ts C Q z=>by obtain⟨n,J,l1,x,aa,tt,rr,ff,cc,A,τ,S,bs,rs,ns,_,h,_⟩:=z;exact h)
 |succ d q =>
  have O:=WZ T q
  have D:YR a (d+1)=gRow a d:=by
   funext ts C Q
   refine propext ⟨fun⟨B,z,h⟩=>?_,fun h=>⟨d,rfl,h⟩⟩;cases Ay z;exact h
  have g:gBrL a (d+1)=gBr a d:=by
   funext ts C Q
   refine propext ⟨fun⟨B,z,h⟩=>?_,fun h=>⟨d,rfl,h⟩⟩;cases Ay z;exact h
  have I:=W9 T (d+1) (3 * d+9) (BZ _ _) (by rwa [g]);have:=QS T (d+1) (3 * d+9+1+1) (BZ _ _) (g▸q.mono (by lia)) (ok_want T (d+1) (3 * d+9+1) (BZ _ _) (by rwa [D])) (I.mono (Bm _));have e:3 * d+9+1+1+1=3 * (d+1)+9:=by lia
  rwa [e] at this
end
def stOf:Key->Str
 |.inr x=>x
 |_=>""
def ciOf:PV->Int
 |.int i=>i
 |_=>0
def rdC(g:List Key×PV):List Str×Int:=(g.1.map stOf,ciOf g.2)
structure Pc where
 reads:List (List Str×Int)
 row:List Wt
 works:List (Str×Int)
def Pc.pv(x:Pc):PV:=.tup [.tup (x.reads.map oZ),.tup (Wt.pvs x.row),.tup (x.works.map xJ)]
def gB(A:Rds)(x:Pt):Rds:=gZ A [] x.works (oQ A x.ls [] ([],[],[])).2.2
def bJ(A:Rds)(x:Pt):Pc:=⟨vH ((gB A x).map rdC),(oQ A x.ls [] ([],[],[])).1,vZ A [] x.works⟩
theorem Jj[DecidableEq κ]:∀{R}{g:κ×PV},(R.map (·.1)).Nodup->g∈R->xV R g.1=some g.2
 |[],g,_,m=>nomatch m
 |x::R,g,nd,m=>by
  rw[BA,Ba] at nd;rw[sW]
  rcases Ai.1 m with rfl | m
  .lia
  .rw [AX (fun z=>nd.1 (by grind))]
   exact Jj nd.2 m
def YB(h:g B C fun x C1=>∃b kvs,x=.ref b/\C1 b=some (.dT kvs)/\Q (.vw b) C1)(J:∀(D I:K1),(∀v C1,D v C1->I v C1)->g B C D->g B C I):qN g B C Q:=by
 delta qN
 refine J _ _ ?_ h;rintro v C1 ⟨b,kvs,rfl,m,q⟩;dsimp only
 rwa [m]
def Kz(m:C p=some (.dT kvs))(e:tiK kvs=some cs)(h:cs.length < 64)(q:∀g,C g=none->Q (.ref g) (gQ C g (.lst ((vH cs).map oZ)))):zL [.vw p] C Q:=by
 delta zL
 dsimp only;rw[m];dsimp only;exact e▸⟨h,q⟩
def Y4 g B(h:∀v C1,g v C1->B v C1)(q:Z8 c f x C g):Z8 c f x C B:=by
 delta Z8 at q ⊢
 split at q
 .grind
 .exact q
def Qn g B(h:∀v C1,g v C1->B v C1)(q:bY i D C g):bY i D C B:=by
 delta bY at q ⊢
 split at q
 .exact h _ _ q
 .exact q
theorem ti_rd: ∀{R},(∀k∈R.map (·.1),∃s n,k=qK s n/\iM bs s n)->ABd R->tiK R=some (R.map rdC)
 |[],_,_=>rfl
 |x::R,h1,h2=>by
  refine mG (h1 x.1 AF) fun s n e _=>zX (h2 x AF) fun i q _=>?_;have B:=ti_rd (fun k g=>h1 k (AL _ g)) fun D g=>h2 D (AL _ g);obtain⟨k,v⟩:=x;cases e;cases q;unfold tiK;rw[B]
  rfl
section
variable {W:Wd}{a:Adr}
inductive YY(ts:List PV)(C:CH)(Q:K1):Prop
 |mk(x:Pt)(aa:Addr)(A:Rds)(rs:List Str)(cap:Nat)(z0:ts=[x.pv,.ref aa])(z1:PtOk rs cap x)(z2:C aa=some (.dT A))(z3:ABd A)(z4:∀C',Gr C C'->Q (bJ A x).pv C')
def W8(T:Tx W a):Ok W a 29 9 ["part","answers"] YY:=by
 have S:=(T.F 9 rfl).s;have gL:=(ok_init T).mono (show 1<=27 by decide);have rW:=WZ T (ok_br T 6);have pV:=(nP T).mono (show 7<=28 by decide)
 refine(T.F 9 rfl).ok (fun ts C R h=>?_) fun a5 A bb s H E I=>⟨_,(xQ (cs1 2 S.nd (ce_make T.K7 gL I rfl T.kZ (T.F 47 rfl).b WT (ca1 (cv 1))))
  (xQ (cs1 3 S.nd (cm T.dX (T.F 50 rfl) T.kZ rW I (cv 2) (qQ (cx (cv 0) zQ) (ca1 mM))))
  (xQ (cs1 4 S.nd (ctp T.xX (cm T.dX (T.F 49 rfl) T.kZ pV I (cv 2) (qQ (cx (cv 0) zQ) (ca1 mM)))))
  (kQ (yQ (lQ (qQ (ctp T.xX (cQ (lI rfl) (XD (qI I)) rfl T.pF rfl (ca1 (Vr (Z4 T.dX T.pY (cv 2)))))) (qQ (cv 3) (ca1 (cv 4)))))))))),?_⟩
 .obtain ⟨_,_,_,_,_,rfl,_⟩:=h;rfl
 rintro ts C Q ⟨D,aa,A,rs,cap,rfl,B,Z,U,q⟩;have Y:nV A [] (D.first.map (·.1)) []:=⟨U,(fun _ z=>nomatch z),(fun _ z=>nomatch z),by rw[AB];exact B.fl⟩;have af:RdOk (D.first.map (·.1)) []:=⟨Cz,(fun _ z=>nomatch z),(fun _ z=>nomatch z)⟩;intro x dx ao a6 ba;have ax:aa≠x:=fun z=>by rw[z,ao] at Z;cases Z
 refine⟨x,dx,aa,A,rfl,jQ,by rw[wQ ax];exact Z,fun C1 rr az ab x1=>⟨rfl,?_⟩⟩
 try dsimp only
 have aq:Gr C C1:=fun b o h=>by
  have:b≠x:=fun z=>by rw[z,ao] at h;cases h
  exact x1 b o (fun z=>this (AE.1 z)) (by rwa [wQ this])
 have a0:C rr=none:=by
  rwa [wQ (Ne.symm ab.nx)] at az
 have ae:∀{C2 J:CH},Gr C C2->ExS [rr] C2 J->Gr C J:=fun g e b o h=>e b o (fun z=>by rw[AE.1 z,a0] at h;cases h) (g b o h);obtain⟨a7,au⟩:=ab.ins;refine uQ ⟨wZ au rfl,yX rfl ?_⟩;intro p ah;have a3:=ab.new ah (.dK []);have bc:=B.tw;refine⟨D.ls,x,aa,p,rr,A,[],[],_,rs,[],rfl,B.ls,by lia,by decide,a3,jQ,Y,af,fun J aj x3=>?_⟩;have R3:=wJ (τ:=[]) (st:=([],[],[])) (tZ U) B.ls af
 have ar:=ae (aq.trans (Gr.new ah _)) x3;obtain⟨a8,av⟩:=aj.ins;refine uQ ⟨wZ av rfl,yX rfl ?_⟩;intro p2 ai;have a4:=aj.new ai (.dK []);refine⟨D.works,x,aa,p2,rr,A,[],_,_,[],rfl,fun y hy=>⟨(B.wk y hy).1.mono (by decide),(B.wk y hy).2⟩,B.wl,a4,jQ,Y,R3,fun C5 l l0 m5 ak x5=>?_⟩;have g5:=ae (ar.trans (Gr.new ai _)) x5
 apply lJ m5
 obtain⟨a9,aw⟩:=ak.ins;have O:RdOk (D.first.map (·.1)) (gB A D):=qJ (tZ U) B.wk R3;have ag:C5 rr=some (.dT (gB A D)):=ak.ask;have hb:=Y.b;refine YB ?_ ?_
 .refine Y3 aw rfl ⟨rr,gB A D,rfl,ag,Kz ag (ti_rd O.ks O.vs) (by rw[AB];have:=O.len;lia) fun p6 ay=>?_⟩
  refine lJ jQ ⟨y0 3 rfl,?_⟩;exact q _ (g5.trans (Gr.new ay _))
 .intro Q1 Q2 h q
  exact Qn _ _ (fun v C1 q=>Y4 _ _ h q) q
end
def uM(h:u r (g.set i (some t)) C Q):dCons (Gh i) u (t::r) g C Q:=h
def Gd(h:Q g C):dNil [] g C Q:=h
def JK cs:(yG cs).length=cs.length:=by
 delta yG
 rw[AB]
 by_cases h:0 < cs.length
 .have:=(vW (X8 cs) cs.length h).length_eq
  rw[this,Ak]
 .have e:cs.length=0:=by lia
  rw[e,Wb];rfl
def Sa(P:Str×Int->Prop)(cs:List (Str×Int)):Prop:=∀c∈cs,P c
abbrev SNm:=Sa fun c=>Bd c.2/\c.1.length<=8
def WV(h:c∈yG cs):c∈cs:=by
 obtain⟨i,hi,rfl⟩:=AU.1 h
 have g:0 < cs.length:=by
  rcases Cw cs.length with z | z
  .rw [z,Wb] at hi;cases hi
  .exact z
 have:=(vW (X8 cs) cs.length g).mem_iff.mp hi;rw[BN] at this;rw[Bh,AO this];exact BH _
def Wt.sp:Wt->List Key
 |.plain s _ _ _ _=>s
 |.part s _ _=>s
 |.give s _ _ _=>s
def kB:Key->Prop
 |.inl none=>True
 |.inl (some i)=>Bd i
 |.inr _=>False
def spB(sp:List Key):Prop:=∃k c,sp=[k,.inl (some c)]/\kB k/\0<=c/\c<=400
theorem spB.l(h:spB sp):sp.length<=2:=by
 obtain⟨k,c,rfl,_⟩:=h;exact AH 2
def HvB(x:HdV):Prop:=x.ev.length<=8/\(0<=x.rank/\x.rank<=9)/\∀c∈x.ch,c.1.length<=8/\c.2.1.length<=8/\Bd c.2.2
def WtOk(rs:List Str):Nat->Wt->Prop
 |0,_=>False
 |_+1,.part sp n g=>spB sp/\n∈rs/\g.length<=4/\SNm g
 |d+1,.give sp n i r=>spB sp/\(Bd i/\n.length<=8)/\(∀x∈r,WtOk rs d x)/\(r.map Wt.sp).Nodup
 |d+1,.plain sp q ss h r=>spB sp/\(ss.length<=4/\h.length<=4/\(∀x∈h,x.ch.length<=4)/\q.length<=8/\SNm ss/\∀x∈h,HvB x)/\(∀x∈r,WtOk rs d x)/\(r.map Wt.sp).Nodup
def GQ(rs:List Str)(d:Nat)(r:List Wt):Prop:=(∀x∈r,WtOk rs d x)/\(r.map Wt.sp).Nodup
def WtOk.up: ∀{d}{x},WtOk rs d x->WtOk rs (d+1) x:=by
 intro d
 induction d with
 |zero=>intro x h;exact h.elim
 |succ d B =>
  intro x h
  cases x with
  |plain s t g hs r=>exact⟨h.1,h.2.1,fun y q=>B (h.2.2.1 y q),h.2.2.2⟩
  |part s n g=>exact h
  |give s n i r=>exact⟨h.1,h.2.1,fun y q=>B (h.2.2.1 y q),h.2.2.2⟩
def WtOk.mono(h:WtOk rs d x)(q:d<=e):WtOk rs e x:=by
 induction q with
 |refl=>exact h
 |step _ g=>exact g.up
def SpInv(F:List Wt)(N:Tns):Prop:=(F.map Wt.sp).Nodup/\(∀x∈F,∃k c,x.sp=[k,.inl (some c)]/\c < lD N k)/\∀k,0<=lD N k/\lD N k<=F.length
def StOk(rs:List Str)(e:Nat)(st:DSt):Prop:=(∀x∈st.1,WtOk rs e x)/\SpInv st.1 st.2.1
def pU N k g:lD (fV N k) g=if g=k then lD N k+1 else lD N g:=by
 show(match xK (dZ N k (.int (lD N k+1))) g with | some (.int i)=>i | _=>0)=_;rw[mH]
 by_cases e:g=k
 .simp_all
 .rw [AX e,AX e];rfl
def SpInv.add(h:SpInv F N)(O:x.sp=cV N k):SpInv (F++[x]) (fV N k):=by
 refine⟨?_,fun y g=>?_,fun B=>?_⟩
 .rw [Ac,List.nodup_append]
  refine⟨h.1,by simp,fun a U b J e=>?_⟩;have J:b=x.sp :=by grind
  obtain⟨y,g,rfl⟩:=AU.1 U;obtain⟨B,c,D,I⟩:=(h.2.1 y g);rw[J,O,D] at e;injection e with e3 S
  injection S with q
  injection q with q
  injection q with q
  lia
 .rcases AS.1 g with g | g
  .refine mG (h.2.1 y g) fun B c D I=>⟨B,c,D,?_⟩
   rw[pU]
   split
   .lia
   .exact I
  .cases AE.1 g
   exact⟨k,lD N k,O,by rw[pU,AZ rfl];lia⟩
 .rw [pU,AN,Al]
  have h1:=h.2.2 k;have h2:=h.2.2 B
  split<;>lia
def QU(g:nV A τ bs ns)(h:fF bs ns d ps):SNm (yG (vZ A τ ps)):=fun c B=>by
 have:=WV B;obtain⟨p,q,rfl⟩:=AU.1 this;exact⟨zY g.a g.t g.h (h p q).1,(h p q).2⟩
def Zy(g:nV A τ bs ns)(h:rC bs ns k):kB (jW A τ k):=by
 cases k with
 |none=>trivial
 |some r=>exact zY g.a g.t g.h h
theorem iR(h1:∀e,d<=e->∀l ns τ st,LnOk bs rs d ns l->nV A τ bs ns->StOk rs e st->st.1.length+l.tw<=400->StOk rs e (cX A l τ st)):∀e,d<=e->∀ls ns τ st,(∀x∈ls,LnOk bs rs d ns x)->nV A τ bs ns->StOk rs e st->st.1.length+Ln.tws ls<=400->StOk rs e (oQ A ls τ st)
 |e,g,[],ns,τ,st,_,_,h,_=>by rwa [hZ]
 |e,g,l::ls,ns,τ,st,B,q,h,I=>by
  rw[Ln.tws] at I;have:=(Q6 A l τ st).1;exact iR h1 e g ls ns τ _ (fun x D=>B x (AL _ D)) q (h1 e g l ns τ st (B l AF) q h (by lia)) (by lia)
theorem StOk.nil: StOk rs e ([],[],R):=⟨fun _ z=>(nomatch z),Cz,(fun _ z=>(nomatch z)),fun _=>⟨Bg 0,Bg 0⟩⟩
def one_st{A:Rds}{bs rs:List Str}(ae:∀s∈bs,s.length<=8):∀(d e:Nat),d<=e->∀(l:Ln)(ns:List Str)(τ:Tns)(st:DSt),LnOk bs rs d ns l->nV A τ bs ns->StOk rs e st->st.1.length+l.tw<=400->StOk rs e (cX A l τ st):=by
 intro d
 induction d with
 |zero=>intro e ab l ns τ st h;exact h.elim
 |succ d ih =>
  intro e ab l ns τ st h q J O;have sb:∀{k},kB k->spB (cV st.2.1 k):=fun {k}U=>⟨k,_,rfl,U,(J.2.2.2 k).1,by have:=(J.2.2.2 k).2;lia⟩;have Y:=iR ih
  have Z:∀x k R,WtOk rs (d+1) x->x.sp=cV st.2.1 k->StOk rs e (st.1++[x],fV st.2.1 k,R):=by
   intro x k R B ag;refine⟨fun y D=>?_,J.2.add ag⟩
   rcases AS.1 D with D | D
   .exact J.1 y D
   .cases AE.1 D;exact B.mono ab
  cases l with
  |plain k ai s hs ls =>
   refine qT h fun h1 h2 I S h5=>?_;rw[cX];have b:=Y d (AH _) ls ns τ ([],[],mZ A τ hs (gZ A τ s (aK A τ k st.2.2))) S q StOk.nil (by rw[Ln.tw] at O;show 0+_<=_;lia);refine Z _ _ _ ⟨sb (Zy q h1),⟨?_,?_,fun x B=>?_,h5.2,QU q h2.1,fun x B=>?_⟩,b.1,b.2.1⟩ rfl
   .rw [JK];delta vZ;rw[AB];exact h2.2
   .delta rZ;rw[AB];exact I.2
   .unfold rZ at B
    obtain⟨y,D,rfl⟩:=AU.1 B;show(rD A τ y.ch).length<=4
    delta rD
    rw[AB];exact(I.1 y D).1
   .unfold rZ at B
    obtain⟨y,D,rfl⟩:=AU.1 B;have o:=I.1 y D;refine⟨o.2.2.1,o.2.2.2,fun c hc=>?_⟩;obtain⟨z,O,rfl⟩:=AU.1 hc;have o:=o.2.1 z O;exact⟨ae _ o.2.1,o.2.2,zY q.a q.t q.h o.1⟩
  |part k n g =>
   obtain⟨h1,h2,I,S⟩:=h;rw[cX];refine Z _ _ _ ⟨sb (Zy q h1),h2,?_,QU q I⟩ rfl;rw[JK]
   delta vZ
   rwa [AB]
  |give k n r ls =>
   obtain⟨h1,h2,I,S,h5⟩:=h;rw[cX];have b:=Y d (AH _) ls ns τ ([],[],r.rds A τ (aK A τ k st.2.2)) S q StOk.nil (by rw[Ln.tw] at O;show 0+_<=_;lia);exact Z _ _ _ ⟨sb (Zy q h1),⟨zY q.a q.t q.h I,(by decide +kernel:∀s∈(["a","ab","b"]:List Str),s.length<=8) n h2⟩,b.1,b.2.1⟩ rfl
  |when r l1 l2 =>
   obtain⟨h1,⟨h2,I⟩,S,h5⟩:=h;rw[cX]
   split
   .exact Y e (by lia) l2 ns τ _ S q J (by rw[Ln.tw] at O;lia)
   .exact Y e (by lia) l1 ns τ _ h2 q J (by rw[Ln.tw] at O;lia)
  |each n r ls =>
   obtain⟨h1,h2,I⟩:=h;rw[cX]
   have:∀(l:List Nat),(∀k∈l,k < 8)->∀x:DSt,StOk rs e x->x.1.length+l.length * Ln.tws ls<=400->StOk rs e (l.foldl (fun st k=>oQ A ls (dZ τ (.inr n) (.int (k:Nat))) st) x):=by
    intro l
    induction l with
    |nil=>intro _ x B _;exact B
    |cons k l ah =>
     intro U x B D;rw[AV,Nat.succ_mul] at D;have hq:=(zJ A ls (dZ τ (.inr n) (.int (k:Nat))) x).1;have k8:=U k AF;refine ah (fun j hj=>U j (AL _ hj)) _ (Y e (by lia) ls [n] _ x h2 ⟨q.a,q.t.put _ (by delta Bd;lia),fun m af=>?_,q.b⟩ B (by lia)) (AW (Nat.add_le_add_right hq _) (by lia));cases AE.1 af;rw[mH,AZ rfl];rfl
   have h8:=aD (r.val A τ);refine this _ (fun k U=>?_) _ J ?_
   .rw [BN] at U
    lia
   .rw [Ak]
    rw[Ln.tw] at O;have:=Bl (Ln.tws ls) h8
    lia
def row_ok(h:∀x∈ls,LnOk bs rs d ns x)(g:nV A τ bs ns)(q:∀s∈bs,s.length<=8)(B:Ln.tws ls<=400):GQ rs d (oQ A ls τ ([],[],R)).1:=by
 have b:=iR (one_st q d) d (AH _) ls ns τ ([],[],R) h g StOk.nil (by grind);exact⟨b.1,b.2.1⟩
mutual
def Wt.wc:Wt->Nat
 |.plain _ _ _ _ r=>1+Wt.wcs r
 |.part _ _ _=>1
 |.give _ _ _ r=>1+Wt.wcs r
def Wt.wcs:List Wt->Nat
 |[]=>0
 |x::r=>x.wc+Wt.wcs r
end
def Wt.wcs_app xs ys:Wt.wcs (xs++ys)=Wt.wcs xs+Wt.wcs ys:=by
 induction xs with
 |nil=>show _=0+_;rw[BU];rfl
 |cons x xs g=>show x.wc+Wt.wcs (xs++ys)=x.wc+Wt.wcs xs+Wt.wcs ys;lia
mutual
theorem one_wc(A:Rds):∀(l:Ln)(τ:Tns)(st:DSt),Wt.wcs (cX A l τ st).1<=Wt.wcs st.1+l.tw
 |.when r l1 l2,τ,st=>by
  rw[cX];have h1:=mY A l1 τ (st.1,st.2.1,r.rds A τ st.2.2);have h2:=mY A l2 τ (st.1,st.2.1,r.rds A τ st.2.2);show _<=_+(Ln.tws l1+Ln.tws l2)
  split
  .exact AW h2 (by show Wt.wcs st.1+_<=_;omega)
  .exact AW h1 (by show Wt.wcs st.1+_<=_;omega)
 |.each n r ls,τ,st=>by
  rw[cX];have c:=aD (r.val A τ);have q:=yU (f:=fun st k=>oQ A ls (dZ τ (.inr n) (.int (k:Nat))) st) (m:=fun st=>Wt.wcs st.1) (c:=Ln.tws ls) (fun x k=>mY A ls _ x) (List.range (nB (r.val A τ))) (st.1,st.2.1,r.rds A τ st.2.2);rw[Ak] at q;have B:nB (r.val A τ) * Ln.tws ls<=8 * Ln.tws ls:=Bl _ c;show _<=Wt.wcs st.1+8 * Ln.tws ls;exact AW q (by show Wt.wcs st.1+_<=_;omega)
 |.part k n g,τ,st=>by
  rw[cX];show Wt.wcs (st.1++[_])<=_;rw[Wt.wcs_app];exact AH _
 |.give k n r ls,τ,st=>by
  rw[cX];have h:=mY A ls τ ([],[],r.rds A τ (aK A τ k st.2.2));show Wt.wcs (st.1++[_])<=_;rw[Wt.wcs_app];show Wt.wcs st.1+((1+Wt.wcs _)+0)<=Wt.wcs st.1+(1+Ln.tws ls);have h:Wt.wcs (oQ A ls τ ([],[],r.rds A τ (aK A τ k st.2.2))).1<=0+Ln.tws ls:=h;omega
 |.plain k D s hs ls,τ,st=>by
  rw[cX];have h:=mY A ls τ ([],[],mZ A τ hs (gZ A τ s (aK A τ k st.2.2)));show Wt.wcs (st.1++[_])<=_;rw[Wt.wcs_app];show Wt.wcs st.1+((1+Wt.wcs _)+0)<=Wt.wcs st.1+(1+Ln.tws ls);have h:Wt.wcs (oQ A ls τ ([],[],mZ A τ hs (gZ A τ s (aK A τ k st.2.2)))).1<=0+Ln.tws ls:=h;omega
theorem mY(A:Rds):∀(ls:List Ln)(τ:Tns)(st:DSt),Wt.wcs (oQ A ls τ st).1<=Wt.wcs st.1+Ln.tws ls
 |[],τ,st=>by rw[hZ];exact BS _ _
 |l::ls,τ,st=>by
  rw[xZ];have h1:=one_wc A l τ st;have h2:=mY A ls τ (cX A l τ st);show _<=_+(l.tw+Ln.tws ls);omega
end
def Sub(R R':Rds):Prop:=∀k∈R.map (·.1),k∈R'.map (·.1)
def Sub.refl: Sub R R:=fun _ h=>h
def uJ: vS A bs (Sub R0):=fun R s n _ h k g=>by
 rw[oW]
 split
 .exact h k g
 .exact Ao _ (h k g)
def Ag(A A' R:Rds):Prop:=∀s n,qK s n∈R.map (·.1)->lM A s n=lM A' s n
def Ag.sub(h:Ag A A' R')(s:Sub R R'):Ag A A' R:=fun x n g=>h x n (s _ g)
section
variable {A A':Rds}{τ:Tns}{bs ns rs:List Str}
def aT:∀{d}{r:Rk}{R},r.ok bs ns d->Ag A A' (r.rds A τ R)->r.val A τ=r.val A' τ/\r.rds A τ R=r.rds A' τ R:=by
 intro d r
 induction r generalizing d with
 |num i=>intro R _ _;exact⟨rfl,rfl⟩
 |turn n=>intro R _ _;exact⟨rfl,rfl⟩
 |ask s n =>
  intro R _ h
  have e:=h s n (by
   rw[Rk.rds,oW]
   split
   .assumption
   .exact AR _ AF)
  unfold Rk.val Rk.rds;exact e▸⟨rfl,rfl⟩
 |bin w x y B D =>
  intro R o h
  cases d with
  |zero=>exact o.elim
  |succ d =>
   rw[Rk.rds] at h;obtain⟨I,J⟩:=B o.2.1 (h.sub (nJ uJ o.2.2 Sub.refl));obtain⟨g,q⟩:=D o.2.2 h;rw[ Rk.val,Rk.rds,q,I,g,J];exact⟨rfl,rfl⟩
 |pick x y z B D S =>
  intro R o h
  cases d with
  |zero=>exact o.elim
  |succ d =>
   rw[Rk.rds] at h
   have O:Ag A A' (x.rds A τ R):=by
    split at h
    .exact h.sub (nJ uJ o.2.2 Sub.refl)
    .exact h.sub (nJ uJ o.2.1 Sub.refl)
   obtain⟨I,J⟩:=(B o.1 O);rw[Rk.val,Rk.val,Rk.rds,Rk.rds,<- I,<- J]
   split at h
   .next e =>
    obtain⟨g,q⟩:=S o.2.2 h;rw[AZ e,AZ e,AZ e,AZ e];exact⟨g,q⟩
   .next e =>
    obtain⟨g,q⟩:=D o.2.1 h;rw[AX e,AX e,AX e,AX e];exact⟨g,q⟩
theorem fH: ∀{ps}{R},fF bs ns d ps->Ag A A' (gZ A τ ps R)->vZ A τ ps=vZ A' τ ps/\gZ A τ ps R=gZ A' τ ps R
 |[],R,_,_=>⟨rfl,rfl⟩
 |c::ps,R,o,h=>by
  have o':fF bs ns d ps:=fun x B=>o x (AL _ B);have h:Ag A A' (gZ A τ ps (c.2.rds A τ R)):=h;obtain⟨g,q⟩:=aT ((o c AF).1) (h.sub (qJ uJ o' Sub.refl));obtain⟨D,p2⟩:=fH o' h;exact⟨by show(c.1,c.2.val A τ)::vZ A τ ps=(c.1,c.2.val A' τ)::vZ A' τ ps;rw[g,D],by show gZ A τ ps (c.2.rds A τ R)=gZ A' τ ps (c.2.rds A' τ R);rw[p2,q]⟩
theorem Gv: ∀{cs}{R},(∀c∈cs,c.2.2.ok bs ns d)->Ag A A' (lB A τ cs R)->rD A τ cs=rD A' τ cs/\lB A τ cs R=lB A' τ cs R
 |[],R,_,_=>⟨rfl,rfl⟩
 |c::ps,R,o,h=>by
  have o':∀c∈ps,c.2.2.ok bs ns d:=fun x B=>o x (AL _ B);have h:Ag A A' (lB A τ ps (c.2.2.rds A τ R)):=h;obtain⟨g,q⟩:=aT (o c AF) (h.sub (nD uJ o' Sub.refl));obtain⟨D,p2⟩:=Gv o' h;exact⟨by show(c.1,c.2.1,c.2.2.val A τ)::rD A τ ps=(c.1,c.2.1,c.2.2.val A' τ)::rD A' τ ps;rw[g,D],by show lB A τ ps (c.2.2.rds A τ R)=lB A' τ ps (c.2.2.rds A' τ R);rw[p2,q]⟩
theorem Xh:∀{hs}{R},(∀h∈hs,h.ok bs ns)->Ag A A' (mZ A τ hs R)->rZ A τ hs=rZ A' τ hs/\mZ A τ hs R=mZ A' τ hs R
 |[],R,_,_=>⟨rfl,rfl⟩
 |c::ps,R,o,h=>by
  have o':∀h∈ps,h.ok bs ns:=fun x B=>o x (AL _ B);have h:Ag A A' (mZ A τ ps (lB A τ c.ch R)):=h;obtain⟨g,q⟩:=Gv (o c AF).c (h.sub (zV uJ o' Sub.refl));obtain⟨D,p2⟩:=Xh o' h;exact⟨by show nO A τ c::rZ A τ ps=nO A' τ c::rZ A' τ ps;rw[D];delta nO;rw[g],by show mZ A τ ps (lB A τ c.ch R)=mZ A' τ ps (lB A' τ c.ch R);rw[p2,q]⟩
def Zz(o:rC bs ns k)(h:Ag A A' (aK A τ k R)):jW A τ k=jW A' τ k/\aK A τ k R=aK A' τ k R:=by
 cases k with
 |none=>exact⟨rfl,rfl⟩
 |some r =>
  obtain⟨g,q⟩:=aT o h;exact⟨by show(Sum.inl (some _):Key)=Sum.inl (some _);rw[g],q⟩
end
theorem bP(h1:∀l ns τ st,LnOk bs rs d ns l->Ag A A' (cX A l τ st).2.2->cX A l τ st=cX A' l τ st):∀ls ns τ st,(∀x∈ls,LnOk bs rs d ns x)->Ag A A' (oQ A ls τ st).2.2->oQ A ls τ st=oQ A' ls τ st
 |[],ns,τ,st,_,h=>by rw[hZ,hZ]
 |l::ls,ns,τ,st,g,h=>by
  rw[xZ] at h;rw[xZ,xZ];have o':∀x∈ls,LnOk bs rs d ns x:=fun x q=>g x (AL _ q);exact(h1 l ns τ st (g l AF) (h.sub (wJ uJ o' Sub.refl)))▸bP h1 ls ns τ _ o' h
theorem Xo(hs:∀x k,Sub x.2.2 (f x k).2.2)(B:∀x k,Ag A A' (f x k).2.2->f x k=g x k):∀(l:List Nat)(x:DSt),Ag A A' (l.foldl f x).2.2->l.foldl f x=l.foldl g x
 |[],_,_=>rfl
 |k::l,x,h=>by
  have:=uY (P:=fun st:DSt=>Sub (f x k).2.2 st.2.2) (fun y j p q D=>hs y j q (p q D)) l _ Sub.refl;show l.foldl f (f x k)=l.foldl g (g x k);exact(B x k (h.sub this))▸Xo hs B l _ h
def one_ag: ∀d l ns τ st,LnOk bs rs d ns l->Ag A A' (cX A l τ st).2.2->cX A l τ st=cX A' l τ st:=by
 intro d
 induction d with
 |zero=>intro l ns τ st h;exact h.elim
 |succ d ih =>
  intro l ns τ st o h;have D:=bP ih
  cases l with
  |plain k ae s hs ls =>
   obtain⟨h1,h2,q,B,h5⟩:=o;have b:=D ls ns τ _ B h;have Z:=h.sub (wJ uJ B Sub.refl);obtain⟨u3,v3⟩:=Xh q.1 Z;have I:=Z.sub (zV uJ q.1 Sub.refl);obtain⟨O,U⟩:=fH h2.1 I;obtain⟨J,S⟩:=Zz h1 (I.sub (qJ uJ h2.1 Sub.refl));rw[cX,cX,b,v3,U,S,u3,O,J]
  |part k n g =>
   obtain⟨h1,h2,q,B⟩:=o;obtain⟨O,U⟩:=fH q h;obtain⟨J,S⟩:=Zz h1 (h.sub (qJ uJ q Sub.refl));rw[cX,cX,U,S,O,J]
  |give k n r ls =>
   obtain⟨h1,h2,q,B,h5⟩:=o;have I:=h.sub (wJ uJ B Sub.refl);obtain⟨O,U⟩:=aT q I;obtain⟨J,S⟩:=Zz h1 (I.sub (nJ uJ q Sub.refl));rw[cX,cX,(D ls ns τ _ B h),U,S,O,J]
  |when r l1 l2 =>
   obtain⟨h1,⟨h2,q⟩,B,h5⟩:=o;rw[cX] at h
   have Y:Ag A A' (r.rds A τ st.2.2):=by
    split at h
    .exact h.sub (wJ uJ B Sub.refl)
    .exact h.sub (wJ uJ h2 Sub.refl)
   obtain⟨u,v⟩:=aT h1 Y;rw[cX,cX,<- u,<- v]
   split at h
   .next e=>rw[AZ e,AZ e];exact D l2 ns τ _ B h
   .next e=>rw[AX e,AX e];exact D l1 ns τ _ h2 h
  |each n r ls =>
   obtain⟨h1,h2,q⟩:=o;have hs:∀x k,Sub x.2.2 (oQ A ls (dZ τ (.inr n) (.int (k:Nat))) x).2.2:=fun x k=>wJ uJ h2 Sub.refl;have Y:=h.sub (uY (P:=fun x:DSt=>Sub (r.rds A τ st.2.2) x.2.2) (fun y j p ab hq=>hs y j ab (p ab hq)) _ _ Sub.refl);obtain⟨u,v⟩:=aT h1 Y;rw[cX,cX,<- u,<- v];exact Xo hs (fun x k hx=>D ls [n] _ x h2 hx) _ _ h
def pc_ag{cap}(g:PtOk rs cap x)(h:Ag A A' (gB A x)):bJ A x=bJ A' x/\gB A x=gB A' x:=by
 obtain⟨u,v⟩:=(fH g.wk h);have b:=bP (one_ag 6) x.ls [] [] ([],[],[]) g.ls (h.sub (qJ uJ g.wk Sub.refl));have e:gB A x=gB A' x:=by delta gB;rw[v,b]
 delta bJ
 exact e▸u▸b▸⟨rfl,rfl⟩
def lext_s(g:C p=some (.lst xs))(B:C r=some (.lst ys))(h:xs.length+ys.length<=sizeLine)(q:Q .non (gQ C p (.lst (xs++ys)))):jN (.ref p) [.ref r] C Q:=by
 delta jN
 dsimp only;exact g▸B▸⟨h,q⟩
inductive Th(C:CH):PV->Prop
 |non:Th C .non
 |bl (b:Bool):Th C (.bl b)
 |int (i:Int):Th C (.int i)
 |str (z:Str):Th C (.str z)
 |tup {ts:List PV} (h:∀t∈ts,Th C t):Th C (.tup ts)
 |lst {a:Addr} (h:tyP C (.ref a)=some .lst):Th C (.ref a)
 |dct {a:Addr} (h:tyP C (.ref a)=some .dct):Th C (.ref a)
abbrev Pn:PV->Prop:=Th fun _=>none
def wB(h:tyP C x=some n)(g:Gr C C'):tyP C' x=some n:=by
 cases x with
 |ref a =>
  delta tyP at h ⊢
  dsimp only at h ⊢
  split at h
  .next e=>rwa [g a _ e]
  .next e=>rwa [g a _ e]
  .cases h
 |_=>exact h
def Th.gr(h:Th C x)(g:Gr C C'):Th C' x:=by
 induction h with
 |non=>exact .non
 |bl b=>exact .bl b
 |int i=>exact .int i
 |str z=>exact .str z
 |tup _ q=>exact .tup q
 |lst h=>exact .lst (wB h g)
 |dct h=>exact .dct (wB h g)
def Pn.th(h:Pn x):Th C x:=h.gr fun _ _ z=>nomatch z
def kn:Ty->Str
 |.bl=>"truth"
 |.int=>"number"
 |.str=>"text"
 |.tup=>"tuple"
 |.lst=>"list"
 |.dct=>"dict"
 |_=>"none"
def Th.ty(h:Th C x):∃n,tyP C x=some n:=by
 cases h with
 |lst h=>exact⟨_,h⟩
 |dct h=>exact⟨_,h⟩
 |_=>exact⟨_,rfl⟩
def Th.cmp(B:Th C x)(D:Pn y)(g:tyP C x=some n)(q:tyP C y=some m):(kn n≠kn m/\x≠y)\/(n=.tup/\m=.tup/\∃xs ys,x=.tup xs/\y=.tup ys/\(∀t∈xs,Th C t)/\∀t∈ys,Pn t)\/∃b,kn n=kn m/\kn n ≠ "tuple"/\kn n ≠ "list"/\kn n ≠ "dict"/\sEq x y=some b/\(b=true↔x=y):=by
 cases D with
 |lst h=>cases h
 |dct h=>cases h
 |tup h =>
  cases q
  cases B with
  |tup h'=>cases g;exact .inr (.inl ⟨rfl,rfl,_,_,rfl,rfl,h',h⟩)
  |lst h'=>rw[h'] at g;cases g;exact .inl ⟨by decide,nofun⟩
  |dct h'=>rw[h'] at g;cases g;exact .inl ⟨by decide,nofun⟩
  |_=>cases g;exact .inl ⟨by decide,nofun⟩
 |_ =>
  cases q
  cases B with
  |lst h'=>rw[h'] at g;cases g;exact .inl ⟨by decide,nofun⟩
  |dct h'=>rw[h'] at g;cases g;exact .inl ⟨by decide,nofun⟩
  |_=>cases g;first | exact .inl ⟨by decide,nofun⟩ | exact .inr (.inr ⟨_,rfl,by decide,by decide,by decide,rfl,by simp⟩)
mutual
def pw:PV->Nat
 |.tup ts=>1+pws ts
 |_=>1
def pws:List PV->Nat
 |[]=>0
 |t::ts=>pw t+pws ts
end
def pw_pos t:1<=pw t:=by
 cases t<;>(unfold pw;lia)
def prP(z:PV×PV):PV:=.tup [z.1,z.2]
def zw(zs:List (PV×PV)):Nat:=pws (zs.map (·.2))
def pws_app xs ys:pws (xs++ys)=pws xs+pws ys:=by
 induction xs with
 |nil=>rw[CU,pws,BU]
 |cons x xs g=>rw[Ck,pws,pws,g];lia
def tF xs:xs.length<=pws xs:=by
 induction xs with
 |nil=>exact AY _
 |cons x xs g=>rw[pws,AV];have:=pw_pos x;lia
theorem Jg:∀xs ys,List.zipWith (fun a b=>PV.tup [a,b]) xs ys=(xs.zip ys).map prP
 |[],_=>rfl
 |_::_,[]=>rfl
 |x::xs,y::ys=>by rw[List.zipWith_cons_cons,Jg xs ys];rfl
theorem VO:∀{xs ys:List PV},xs.length=ys.length->(xs=ys↔∀z∈xs.zip ys,z.1=z.2)
 |[],[],_=>⟨fun _ _ z=>(nomatch z),fun _=>rfl⟩
 |x::xs,y::ys,h=>by
  have q:=VO (Ay h);refine⟨fun e z g=>?_,fun g=>?_⟩
  .injection e with B D
   rcases Ai.1 g with rfl | g
   .exact B
   .exact q.1 D z g
  .rw [(show x=y from g (x,y) AF),q.2 fun z h=>g z (AL _ h)]
section
variable {W:Wd}{a:Adr}
inductive gKo(ts:List PV)(C:CH)(Q:K1):Prop
 |mk x n(z0:ts=[x])(z1:tyP C x=some n)(z2:Q (.str (kn n)) C)
def Zl(T:Tx W a):Ok W a 1 6 ["thing"] gKo:=by
 have S:=(T.F 6 rfl).s
 refine(T.F 6 rfl).ok (fun ts C R h=>?_) fun B A I s H E D=>⟨_,(xQ (sQ (aX (cQ nQ lX rfl T.mQ rfl (qQ (cv 0) (ca1 (fZ rfl T.uN rfl))))) (kQ (yQ vQ)) pQ)
  (xQ (sQ (aX (cQ nQ lX rfl T.mQ rfl (qQ (cv 0) (ca1 (fZ rfl T.rM rfl))))) (kQ (yQ vQ)) pQ)
  (xQ (sQ (aX (cQ nQ lX rfl T.mQ rfl (qQ (cv 0) (ca1 (fZ rfl T.wN rfl))))) (kQ (yQ vQ)) pQ)
  (xQ (sQ (aX (cQ nQ lX rfl T.mQ rfl (qQ (cv 0) (ca1 (fZ rfl T.xX rfl))))) (kQ (yQ vQ)) pQ)
  (xQ (sQ (aX (cQ nQ lX rfl T.mQ rfl (qQ (cv 0) (ca1 (fZ rfl T.jB rfl))))) (kQ (yQ vQ)) pQ)
  (xQ (sQ (aX (cQ nQ lX rfl T.mQ rfl (qQ (cv 0) (ca1 (fZ rfl T.yN rfl))))) (kQ (yQ vQ)) pQ)
  (kQ (yQ vQ)))))))),?_⟩
 .obtain ⟨_,_,rfl,_⟩:=h;rfl
 rintro ts C R ⟨x,n,rfl,g,q⟩;cases n<;>repeat (first | exact q | exact tQ rfl g (jZ rfl q) | (refine tQ rfl g (fX rfl (aQ ?_))))
inductive gPw(ts:List PV)(C:CH)(Q:K1):Prop
 |mk x y C0(z0:ts=[x,y])(z1:Gr C0 C)(z2:Th C0 x)(z3:Pn y)(z4:pw y<=1000000)(z5:(x≠y->∀C',Gr C C'->Q .non C'))(z6:∀(zs:List (PV×PV))p C',(x=y↔∀z∈zs,z.1=z.2)->(∀z∈zs,Th C0 z.1/\Pn z.2)->zw zs+1=pw y->C p=none->C' p=some (.lst (zs.map prP))->Gr C C'->Q (.ref p) C')
def ok_pw(T:Tx W a):Ok W a 2 4 ["one","other"] gPw:=by
 have J:=Zl T
 refine(T.F 4 rfl).ok (fun ts C R h=>?_) fun ag A ai s H E D=>⟨_,(xQ (cs1 2 ((T.F 4 rfl).s).nd (cf (T.F 6 rfl) J D (ca1 (cv 0))))
  (xQ (sQ (ct2 tU bW (cv 2) (cf (T.F 6 rfl) J D (ca1 (cv 1)))) (kQ (yQ hV)) pQ)
  (xQ (sQ (cw_pt (cw_or (ct2 bX iQ (cv 2) vQ) (cw_or1 (ct2 bX iQ (cv 2) vQ)))) (kQ (yQ (sD (ct2 bX iQ (cln T.sZ (cv 0)) (cln T.sZ (cv 1))) (Z3 rfl T.jB T.z_zip (cv 0) (cv 1)) hV))) pQ)
  (xQ (sQ (ct2 bX iQ (cv 2) vQ) (kQ (yQ (cf (T.F 5 rfl) (oJ fun _ _ _ z=>z) D (qQ (cv 0) (ca1 (cv 1)))))) pQ)
  (kQ (yQ (sD (ct2 bX iQ (cv 0) (cv 1)) (mX pZ) hV))))))),?_⟩
 .obtain ⟨_,_,_,rfl,_⟩:=h;rfl
 rintro ts C R ⟨x,y,C0,rfl,O,hx,hy,ah,I,ab⟩;obtain⟨n,Z⟩:=hx.ty;obtain⟨m,Y⟩:=(hy.th).ty;refine uQ ⟨x,n,rfl,(wB Z O),⟨y,m,rfl,(wB Y O),vX (rQ _ _) ?_⟩⟩
 rcases hx.cmp hy Z Y with ⟨h1,h2⟩ | ⟨rfl,rfl,xs,ys,rfl,rfl,ae,af⟩ | ⟨b,h1,h2,h3,h4,S,U⟩
 .exact jZ (by rw[AM h1];rfl) (I h2 C Gr.refl)
 .refine fX rfl (aQ (vX (rQ _ _) (jZ rfl (pB rfl (vY (vY (vX (kX _ _) (zZ (fun g=>?_) fun g=>?_))))))))
  .have g:xs.length=ys.length :=by simp_all;lia
   refine zip_s g fun p q=>?_;rw[Jg];refine ab (xs.zip ys) p _ (PV.tup.injEq .. ▸ VO g) (fun z hz=>?_) ?_ q jQ (Gr.new q _)
   .exact ⟨ae _ (Cn hz).1,af _ (Cn hz).2⟩
   .delta zw
    rw[List.map_snd_zip (by lia),pw]
    lia
  .exact I (fun e=>by cases e;rw[Ad rfl] at g;cases g) C Gr.refl
 .refine fX (by rw[Ad h1];rfl) (aQ ?_)
  refine vX (rQ _ _) (fX (AM h2) (vX (rQ _ _) (fX (AM h3) (aQ (vX (rQ _ _) (fX (AM h4) (aQ (vX S (zZ (fun B=>?_) fun B=>?_)))))))))
  .refine ⟨by decide,fun p q=>?_⟩
   refine ab [] p _ ⟨fun _ _ z=>(nomatch z),fun _=>U.1 B⟩ (fun _ z=>nomatch z) ?_ q jQ (Gr.new q _);have:pw y=1:=by cases y<;>first | rfl | (cases x<;>cases S)
   rw[this]
   rfl
  .exact I (fun e=>by rw[U.2 e] at B;cases B) C Gr.refl
inductive gAk(ts:List PV)(C:CH)(Q:K1):Prop
 |mk x y(z0:ts=[x,y])(z1:Th C x)(z2:Pn y)(z3:pw y<=1000000)(z4:∀b C',(b=true↔x=y)->Gr C C'->Q (.bl b) C')
def Ya(T:Tx W a):Ok W a 3 3 ["one","other"] gAk:=by
 have S:=(T.F 3 rfl).s;have yS:=ok_pw T
 refine(T.F 3 rfl).ok (fun ts C R h=>?_) fun aj A ar s H E hr=>⟨_,(xQ (cs1 2 S.nd (mX (ca1 (lQ (qQ (cv 0) (ca1 (cv 1)))))))
  (xQ (Gj PassesOwn.never (ct_tru (cv 2)) (xQ (cs1 3 S.nd (fI A1 PySem.F.slot_list_pop PySem.F.type_list_pop mt_pop cmt_pop (cv 2)))
  (xQ (cs1 4 S.nd (cf (T.F 4 rfl) yS hr (qQ (cx (cv 3) zQ) (ca1 (cx (cv 3) zQ)))))
  (xQ (sQ (ct2 Zi yI (cv 4) hV) (kQ (yQ aJ)) pQ)
  (kQ (aZ (kE A1 PySem.F.slot_list_extend PySem.F.type_list_extend (fun p s σ H x vs v ah Q=>K6 p s σ H x vs v ah Q) ZZ (cv 2) (ca1 (cv 4)))))))))
  (kQ (yQ aJ)))),?_⟩
 .obtain ⟨_,_,rfl,_⟩:=h;rfl
 rintro ts C R ⟨x,y,rfl,hx,hy,ae,q⟩;refine uQ ⟨y0 2 rfl,?_⟩;refine⟨y0 1 rfl,fun p Y=>?_⟩;refine⟨pw y+1,?_⟩;have ai:(1000000:Nat)<=sizeLine:=by decide
 refine Ji (fun n ρ C'=>∃zs x3 x4,n=zw zs/\ρ=[some x,some y,some (.ref p),x3,x4]/\(x=y↔∀z∈zs,z.1=z.2)/\(∀z∈zs,Th C z.1/\Pn z.2)/\zw zs<=1000000/\C' p=some (.lst (zs.map prP))/\Gr C C') ?_ _ (pw y) _ _ (Br _) ⟨[(x,y)],none,none,(Nat.add_zero _).symm,rfl,⟨fun e z hz=>by cases AE.1 hz;exact e,fun h=>h _ AF⟩,fun z hz=>by cases AE.1 hz;exact⟨hx,hy⟩,ae,jQ,Gr.new Y _⟩
 rintro n ρ C1 L ⟨zs,x3,x4,rfl,rfl,hi,Z,ab,O,g⟩ hL;refine tru_i ?_ ?_
 .refine ⟨p,zs.map prP,rfl,O,?_⟩
  rcases List.eq_nil_or_concat zs with rfl | ⟨D,z,rfl⟩
  .exact q true C1 ⟨fun _=>hi.2 fun _ z=>(nomatch z),fun _=>rfl⟩ g
  .rw [List.concat_eq_append] at O hi Z ab hL ⊢
   obtain⟨ag,t2⟩:=Z z (AR _ AF);have ez:zw (D++[z])=zw D+pw z.2:=by delta zw;rw[Ac,pws_app];rfl
   apply pB (by simp)
   refine uQ ⟨yV O,pop_s O (y:=prP z) (by simp) ?_⟩;rw[Ac,List.map_singleton,List.dropLast_concat];have U:Gr C (gQ C1 p (.lst (D.map prP))):=YM g Y _;have m2:gQ C1 p (.lst (D.map prP)) p=some (.lst (D.map prP)):=jQ;refine uQ (yX rfl (yX rfl ⟨z.1,z.2,C,rfl,U,ag,t2,by lia,fun af C3 J=>?_,fun I r C3 h1 h2 h3 hr m3 J=>?_⟩))
   .exact q false C3 ⟨(fun h=>nomatch h),fun e=>absurd (hi.1 e z (AR _ AF)) af⟩ (U.trans J)
   .refine aQ ⟨yV (J _ _ m2),?_⟩
    have ao:D.length<=zw D:=by have:=tF (D.map (·.2));rwa [AB] at this
    have aq:I.length<=zw I:=by have:=tF (I.map (·.2));rwa [AB] at this
    apply lext_s (J _ _ m2) m3 (by rw[AB,AB];lia)
    have ak:zw (D++I)=zw D+zw I:=by delta zw;rw[Ac,pws_app]
    refine hL (zw (D++I)) _ _ (by lia) ⟨D++I,_,_,rfl,rfl,?_,fun u B=>?_,by lia,by rw[jQ,Ac],YM (U.trans J) Y _⟩
    .rw [hi]
     refine⟨fun h u B=>?_,fun h u B=>?_⟩
     .grind
     .rcases AS.1 B with B | B
      .exact h u (Ao _ B)
      .cases AE.1 B
       exact h1.2 fun v hv=>h v (AR _ hv)
    .rcases AS.1 B with B | B
     .exact Z u (Ao _ B)
     .exact h2 u B
 .intro Q1 Q2 h q
  exact Qn _ _ h q
end
def wH:PV->Bool
 |.int i=>decide (-1000000000<=i)&&decide (i<=1000000000)
 |_=>false
def aL:PV->Bool
 |.str z=>qB z
 |_=>false
section
variable {W:Wd}{a:Adr}
inductive gNu(ts:List PV)(C:CH)(Q:K1):Prop
 |mk x(z0:ts=[x])(z1:Th C x)(z2:Q (.bl (wH x)) C)
def dA(T:Tx W a):Ok W a 1 0 ["thing"] gNu:=by
 have S:=(T.F 0 rfl).s
 refine(T.F 0 rfl).ok (fun ts C R h=>?_) fun I A O s H E J=>⟨_,(xQ (sQ (cw_pt (cw_or (aX (cQ nQ lX rfl T.mQ rfl (qQ (cv 0) (ca1 (fZ rfl T.uN rfl))))) (cw_or1 (dJ (aX (cQ nQ lX rfl T.mQ rfl (qQ (cv 0) (ca1 (fZ rfl T.rM rfl))))))))) (kQ (yQ aJ)) pQ)
  (kQ (yQ (XC vO vO vP vP (rB jY gV (lW (v:=.int 1000000000) rfl T.jI ⟨_,rfl⟩ (fun _=>.int _))) (cv 0) (lW (v:=.int 1000000000) rfl T.jI ⟨_,rfl⟩ (fun _=>.int _)))))),?_⟩
 .obtain ⟨_,rfl,_⟩:=h;rfl
 rintro ts C R ⟨x,rfl,B,q⟩;obtain⟨n,D⟩:=B.ty
 cases B with
 |int i =>
  cases D;refine tQ rfl rfl (fX rfl (tQ rfl rfl (aG (aQ (i_i (zZ (fun g=>?_) fun g=>?_))))))
  .apply i_i
   have e:wH (.int i)=decide (i<=1000000000):=by show(decide (-1000000000<=i)&&decide (i<=1000000000))=_;rw[g];rfl
   rwa [e] at q
  .have e:wH (.int i)=false:=by show(decide (-1000000000<=i)&&decide (i<=1000000000))=_;rw[g];rfl
   rwa [e] at q
 |bl b=>exact tQ rfl rfl (jZ rfl q)
 |lst h=>exact tQ rfl h (fX rfl (tQ rfl h (yZ q)))
 |dct h=>exact tQ rfl h (fX rfl (tQ rfl h (yZ q)))
 |_=>exact tQ rfl rfl (fX rfl (tQ rfl rfl (yZ q)))
inductive gNa(ts:List PV)(C:CH)(Q:K1):Prop
 |mk x(z0:ts=[x])(z1:Th C x)(z2:(∀z,x=.str z->z.length<=sizeLine))(z3:∀C',Gr C C'->Q (.bl (aL x)) C')
def Zn(T:Tx W a):Ok W a 1 1 ["thing"] gNa:=by
 have S:=(T.F 1 rfl).s
 refine(T.F 1 rfl).ok (fun ts C R h=>?_) fun Z A ab s H E hr=>⟨_,(xQ (sQ (cw_pt (cw_or (dJ (aX (cQ nQ lX rfl T.mQ rfl (qQ (cv 0) (ca1 (fZ rfl T.wN rfl)))))) (cw_or1 (dJ (Gi vO vO vP vP zQ (cln T.sZ (cv 0)) (lW (v:=.int 8) rfl T.aS ⟨_,rfl⟩ (fun _=>.int _))))))) (kQ (yQ aJ)) pQ)
  (kQ (yQ (cQ (XF rfl) Ki rfl T.z_all rfl (ca1 (hW rfl (S.c (by decide +kernel)) (S.k (L:=0) rfl rfl rfl (by decide +kernel)) (Gu (cv 0)) (fun _ _ _ _ _=>wK) (fun _ _ _ _ _=>(iK KU cop_inT (cv 0) (lW (v:=.str "abcdefghijklmnopqrstuvwxyz") rfl T.YW ⟨_,rfl⟩ (fun _=>.str _)) rfl)))))))),?_⟩
 .obtain ⟨_,rfl,_⟩:=h;rfl
 rintro ts C R ⟨x,rfl,B,I,q⟩;obtain⟨n,J⟩:=B.ty
 cases B with
 |str z =>
  cases J;have U:=I z rfl;refine tQ rfl rfl (aG (Yl U ?_));have D:qB z=false->R (.bl false) C:=fun e=>by have:=q C Gr.refl;rwa [show aL (.str z)=false from e] at this
  refine i_i (zZ (fun h1=>?_) fun h1=>?_)
  .apply i_i
   cases h2:decide (((z.length:Nat):Int)<=8) with
   |false=>exact D (by delta qB;rw[h1,h2];rfl)
   |true =>
    refine aG (aQ (cD (fun s=>match s with | .str u=>.bl (!(Builtin.Str.occurrences ("abcdefghijklmnopqrstuvwxyz" : Str) u 0 ("abcdefghijklmnopqrstuvwxyz" : Str).length 1).isEmpty) | _=>.non) (nF z) [] C Gr.refl ?_ (fun x B C1 Y g O=>?_) fun p C1 h3 g m=>?_))
    .delta nF
     rwa [AB,BQ,BU,A3]
    .obtain ⟨c,_,rfl⟩:=AU.1 B
     exact inT_s (O C1 Gr.refl)
    .apply all_s (bs:=z.cps.toList.map gD) (by rw[m];delta nF;rw[Be,Be];rfl)
     have e:aL (.str z)=(z.cps.toList.map gD).all id:=by
      show((decide ((1:Int)<=(z.length:Nat))&&decide (((z.length:Nat):Int)<=8))&&z.cps.toList.all gD)=_;rw[h1,h2,List.all_map]
      rfl
     exact e▸q C1 g
  .exact D (by delta qB;rw[h1];rfl)
 |lst h=>exact tQ rfl h (yZ (q C Gr.refl))
 |dct h=>exact tQ rfl h (yZ (q C Gr.refl))
 |_=>exact tQ rfl rfl (yZ (q C Gr.refl))
def quF:PV->Bool
 |.tup [s,m]=>eS ["take","box","down"] s&&aL m
 |_=>false
def rdF:PV->Bool
 |.tup [q,n]=>wH n&&quF q
 |_=>false
def Zw{α:Type}x y z(r:List α)k(h:k=2):(!decide (((x::y::z::r).length:Int)=k))=true :=by grind
def Sg(x:PV):Prop:=∀s z n,x=.tup [.tup [s,.str z],n]->z.length<=sizeLine
inductive gRf(ts:List PV)(C:CH)(Q:K1):Prop
 |mk x(z0:ts=[x])(z1:Th C x)(z2:Sg x)(z3:∀C',Gr C C'->Q (.bl (rdF x)) C')
def gA(T:Tx W a):Ok W a 2 12 ["thing"] gRf:=by
 have S:=(T.F 12 rfl).s;have Z:=dA T;have Y:=Zn T
 refine(T.F 12 rfl).ok (fun ts C R h=>?_) fun ae A af s H E I=>⟨_,(xQ (sQ (cw_pt (cw_or (dJ (aX (cQ nQ lX rfl T.mQ rfl (qQ (cv 0) (ca1 (fZ rfl T.xX rfl)))))) (cw_or (ct2 tU bW (cln T.sZ (cv 0)) zQ) (cw_or1 (dJ (aX (cf (T.F 0 rfl) Z I (ca1 (cx (cv 0) zQ))))))))) (kQ (yQ aJ)) pQ)
  (xQ (cs1 1 S.nd (cx (cv 0) zQ))
  (xQ (sQ (cw_pt (cw_or (dJ (aX (cQ nQ lX rfl T.mQ rfl (qQ (cv 1) (ca1 (fZ rfl T.xX rfl)))))) (cw_or1 (ct2 tU bW (cln T.sZ (cv 1)) zQ)))) (kQ (yQ aJ)) pQ)
  (kQ (yQ (lR (iK (WW (qZ I)) cop_inA (cx (cv 1) zQ) (lW (v:=.ref a.ASKING) rfl T.J3 rfl (fun H=>.kt (T.JC H) (.cons (.str _) (.cons (.str _) (.cons (.str _) .nil))))) rfl) (cR (cf (T.F 1 rfl) Y I (ca1 (cx (cv 1) zQ)))))))))),?_⟩
 .obtain ⟨_,rfl,_⟩:=h;rfl
 rintro ts C R ⟨x,rfl,hx,hg,q⟩
 cases hx with
 |@tup ts U =>
  refine tQ rfl rfl (aG (vY (vX (kX _ _) ?_)))
  rcases ts with _ | ⟨g,_ | ⟨n,_ | ⟨z,r⟩⟩⟩
  .exact jZ rfl (q C Gr.refl)
  .exact jZ rfl (q C Gr.refl)
  .refine fX rfl (yX rfl ⟨n,rfl,U n (by simp),?_⟩)
   cases J:wH n with
   |false =>
    have e:rdF (.tup [g,n])=false:=by show(wH n&&quF g)=_;rw[J];rfl
    rw[e] at q;exact yZ (q C Gr.refl)
   |true =>
    have e:rdF (.tup [g,n])=quF g:=by show(wH n&&quF g)=_;rw[J];rfl
    rw[e] at q;refine aG (aQ ?_)
    try dsimp only
    refine uQ (yX rfl ?_)
    cases U g AF with
    |@tup qs O =>
     refine tQ rfl rfl (aG (vY (vX (kX _ _) ?_)))
     rcases qs with _ | ⟨B,_ | ⟨m,_ | ⟨z,r⟩⟩⟩
     .exact jZ rfl (q C Gr.refl)
     .exact jZ rfl (q C Gr.refl)
     .refine fX rfl (aQ (yX rfl ?_))
      obtain⟨c,hc⟩:=(O B AF).ty;refine inA_s rfl hc (zZ (fun D=>?_) fun D=>?_)
      .refine yX rfl ⟨m,rfl,O m (by simp),fun z hz=>hg B z n (by rw[hz]),fun C1 ab=>?_⟩
       have e:quF (.tup [B,m])=aL m:=by show(eS ["take","box","down"] B&&aL m)=_;rw[D];rfl
       exact e▸q C1 ab
      .have e:quF (.tup [B,m])=false:=by show(eS ["take","box","down"] B&&aL m)=_;rw[D];rfl
       rw[e] at q;exact q C Gr.refl
     .exact jZ (Zw _ _ _ _ _ rfl) (q C Gr.refl)
    |lst h=>exact tQ rfl h (yZ (q C Gr.refl))
    |dct h=>exact tQ rfl h (yZ (q C Gr.refl))
    |_=>exact tQ rfl rfl (yZ (q C Gr.refl))
  .exact jZ (Zw _ _ _ _ _ rfl) (q C Gr.refl)
 |lst h=>exact tQ rfl h (yZ (q C Gr.refl))
 |dct h=>exact tQ rfl h (yZ (q C Gr.refl))
 |_=>exact tQ rfl rfl (yZ (q C Gr.refl))
def rdsF:PV->Bool
 |.tup ts=>(ts.map rdF).all id
 |_=>false
inductive gRsf(ts:List PV)(C:CH)(Q:K1):Prop
 |mk x(z0:ts=[x])(z1:Th C x)(z2:(∀ts,x=.tup ts->ts.length<=sizeLine/\∀t∈ts,Sg t))(z3:∀C',Gr C C'->Q (.bl (rdsF x)) C')
def uA(T:Tx W a):Ok W a 3 11 ["thing"] gRsf:=by
 have S:=(T.F 11 rfl).s;have I:=gA T;refine(T.F 11 rfl).ok (fun ts C R h=>?_) fun ab A ae s H E O=>⟨_,(kQ (yQ (lR (cQ nQ lX rfl T.mQ rfl (qQ (cv 0) (ca1 (fZ rfl T.xX rfl)))) (cR (cQ (XF rfl) Ki rfl T.z_all rfl (ca1 (hW rfl (S.c (by decide +kernel)) (S.k (L:=0) rfl rfl rfl (by decide +kernel)) (dU (cv 0)) (fun _ _ _ _ _=>wK) (fun _ _ _ _ _=>(cf (T.F 12 rfl) I O (ca1 (cv 0))))))))))),?_⟩
 .obtain ⟨_,rfl,_⟩:=h;rfl
 rintro ts C R ⟨x,rfl,Y,B,q⟩
 cases Y with
 |@tup ts U =>
  refine tQ rfl rfl (jZ rfl (cD (fun t=>.bl (rdF t)) ts [] C Gr.refl (by rw[BQ,BU];exact(B ts rfl).1) (fun y D C1 Z g J=>⟨y,rfl,(U y D).gr g,(B ts rfl).2 y D,J⟩) fun p C1 h3 g m=>?_));exact all_s (by rw[m,Be];rfl) (q C1 g)
 |lst h=>exact tQ rfl h (fX rfl (q C Gr.refl))
 |dct h=>exact tQ rfl h (fX rfl (q C Gr.refl))
 |_=>exact tQ rfl rfl (fX rfl (q C Gr.refl))
end
def pl_up(h:Pl d t):Pl (d+1) t:=by
 induction h with
 |non=>exact .non
 |bl b=>exact .bl b
 |int i=>exact .int i
 |str x=>exact .str x
 |tup _ g=>exact .tup g
def cY(h:Pl d t)(q:d<=e):Pl e t:=by
 induction q with
 |refl=>exact h
 |step _ g=>exact pl_up g
def key_pl k:Pl 0 (zK k):=by
 rcases k with (_ | i) | x
 .exact .non
 .exact .int i
 .exact .str x
def VU sp:Pl 1 (sG sp):=.tup fun t g=>by
 obtain⟨k,_,rfl⟩:=AU.1 g;exact key_pl k
def si_pl c:Pl 1 (xJ c):=.tup fun t g=>by
 rcases Ai.1 g with rfl | g
 .exact .str _
 .cases AE.1 g;exact .int _
def X5(cs:List (Str×Int)):Pl 2 (.tup (cs.map xJ)):=.tup fun t g=>by
 obtain⟨c,_,rfl⟩:=AU.1 g;exact si_pl c
def cv_pl c:Pl 1 (ZU c):=.tup fun t g=>by
 simp only[List.mem_cons,List.not_mem_nil,or_false] at g
 rcases g with rfl | rfl | rfl
 .exact .str _
 .exact .str _
 .exact .int _
def hdv_pl(h:HdV):Pl 3 h.pv:=.tup fun t g=>by
 simp only[List.mem_cons,List.not_mem_nil,or_false] at g
 rcases g with rfl | rfl | rfl | rfl
 .exact .str _
 .exact .int _
 .exact .bl _
 .exact .tup fun t g=>by
   obtain⟨c,_,rfl⟩:=AU.1 g;exact cv_pl c
def wt_pl: ∀d x,WtOk rs d x->Pl (2 * d+4) x.pv:=by
 intro d
 induction d with
 |zero=>intro x h;exact h.elim
 |succ d J =>
  intro x h
  have D:∀r:List Wt,(∀y∈r,WtOk rs d y)->Pl (2 * d+5) (.tup (Wt.pvs r)):=fun r I=>.tup fun t q=>by
   rw[Wt.pvs_map] at q;obtain⟨y,B,rfl⟩:=AU.1 q;exact J y (I y B)
  cases x with
  |plain sp O ss hs r =>
   refine .tup fun t q=>?_
   simp only[List.mem_cons,List.not_mem_nil,or_false] at q
   rcases q with rfl | rfl | rfl | rfl | rfl | rfl
   .exact .str _
   .exact cY (VU sp) (by lia)
   .exact .str _
   .exact cY (X5 ss) (by lia)
   .refine cY (d:=4) (.tup fun t q=>?_) (BZ _ _)
    obtain⟨y,B,rfl⟩:=AU.1 q;exact hdv_pl y
   .exact D r h.2.2.1
  |part sp n g =>
   refine .tup fun t q=>?_
   simp only[List.mem_cons,List.not_mem_nil,or_false] at q
   rcases q with rfl | rfl | rfl | rfl
   .exact .str _
   .exact cY (VU sp) (by lia)
   .exact .str _
   .exact cY (X5 g) (by lia)
  |give sp n i r =>
   refine .tup fun t q=>?_
   simp only[List.mem_cons,List.not_mem_nil,or_false] at q
   rcases q with rfl | rfl | rfl | rfl | rfl
   .exact .str _
   .exact cY (VU sp) (by lia)
   .exact .str _
   .exact .int _
   .exact D r h.2.2.1
def ti_pl c:Pl 2 (oZ c):=.tup fun t g=>by
 rcases Ai.1 g with rfl | g
 .exact .tup fun t g=>by
   obtain⟨x,_,rfl⟩:=AU.1 g;exact .str x
 .cases AE.1 g;exact .int _
def WQ{x:Pc}(h:GQ rs 6 x.row):Pl 18 x.pv:=by
 refine .tup fun t g=>?_
 simp only[List.mem_cons,List.not_mem_nil,or_false] at g
 rcases g with rfl | rfl | rfl
 .refine cY (d:=3) (.tup fun t g=>?_) (by decide)
  obtain⟨c,_,rfl⟩:=AU.1 g;exact ti_pl c
 .refine .tup fun t g=>?_
  rw[Wt.pvs_map] at g;obtain⟨y,q,rfl⟩:=AU.1 g;exact wt_pl 6 y (h.1 y q)
 .exact cY (X5 _) (by decide)
def Pn.of(h:Pl d t):Pn t:=by
 induction h with
 |non=>exact .non
 |bl b=>exact .bl b
 |int i=>exact .int i
 |str x=>exact .str x
 |tup _ g=>exact .tup g
theorem pL{α:Type}{f}: ∀{l:List α},(∀x∈l,pw (f x)<=c)->pws (l.map f)<=c * l.length
 |[],_ =>AY _
 |x::l,h=>by
  have h1:=pL fun y g=>h y (AL _ g);have h2:=h x AF;rw[BA,pws,AV]
  lia
def aN ts:pw (.tup ts)=1+pws ts:=by rw[pw]
def pw_key k:pw (zK k)<=1:=by rcases k with (_ | i) | x<;>simp[zK,pw]
def Wp sp:pw (sG sp)<=1+sp.length:=by
 have:=pL (l:=sp) fun k _=>pw_key k
 delta sG
 rw[aN]
 lia
def pw_si c:pw (xJ c)=3:=by delta xJ;simp[pw,pws]
def Zd(cs:List (Str×Int)):pw (.tup (cs.map xJ))<=1+3 * cs.length:=by
 have:=pL (l:=cs) fun c _=>B6 (pw_si c);rw[aN]
 lia
def pw_hd{h:HdV}(g:h.ch.length<=4):pw h.pv<=21:=by
 have:=pL (f:=ZU) (c:=4) (l:=h.ch) fun c _=>by delta ZU;simp[pw,pws]
 delta HdV.pv
 simp only[pw,pws]
 lia
def pw_wt: ∀d x,WtOk rs d x->pw x.pv<=105 * x.wc:=by
 intro d
 induction d with
 |zero=>intro x h;exact h.elim
 |succ d U =>
  intro x h
  have I:∀r:List Wt,(∀y∈r,WtOk rs d y)->pws (Wt.pvs r)<=105 * Wt.wcs r:=by
   intro r
   induction r with
   |nil=>intro _;rw[Wt.pvs,pws];exact AY _
   |cons y r Y =>
    intro D;have h1:=Y fun z S=>D z (AL _ S);have h2:=U y (D y AF);rw[Wt.pvs,pws,Wt.wcs]
    lia
  cases x with
  |plain sp ab ss hs r =>
   have h1:=h.1.l;have h2:=h.2.1;have B:=Wp sp;have q:=Zd ss;have Z:=pL fun y O=>pw_hd (h2.2.2.1 y O);have J:=I r h.2.2.1;rw[Wt.pv,Wt.wc];rw[aN] at q
   simp only[pw,pws]
   lia
  |part sp n g =>
   have h1:=h.1.l;have h2:=h.2.2.1;have B:=Wp sp;have q:=Zd g;rw[Wt.pv,Wt.wc];rw[aN] at q
   simp only[pw,pws]
   lia
  |give sp n i r =>
   have h1:=h.1.l;have B:=Wp sp;have J:=I r h.2.2.1;rw[Wt.pv,Wt.wc]
   simp only[pw,pws]
   lia
def dOf(cs:List (List Str×Int)):Rds:=cs.map fun c=>(c.1.map Sum.inr,.int c.2)
abbrev ASKW:List Str:=["take","box","down"]
def RdP(cs:List (List Str×Int)):Prop:=∀c∈cs,∃s n,c.1=[s,n]/\ASKW.contains s=true/\qB n=true/\Bd c.2
def rdF_is(h:rdF x=true):∃s n i,x=oZ ([s,n],i)/\ASKW.contains s=true/\qB n=true/\Bd i:=by
 delta rdF at h
 split at h
 .next q n =>
  rw[BI] at h;obtain⟨h1,h2⟩:=h
  delta quF at h2
  split at h2
  .next s m =>
   rw[BI] at h2;obtain⟨h2,g⟩:=h2
   cases n with
   |int i =>
    have h1:(decide (-1000000000<=i)&&decide (i<=1000000000))=true:=h1;rw[BI] at h1
    cases s with
    |str s =>
     cases m with
     |str n=>exact⟨s,n,i,rfl,h2,g,Aa h1.1,Aa h1.2⟩
     |_=>cases g
    |_=>cases h2
   |_=>cases h1
  .cases h2
 .cases h
def rdF_of(h1:ASKW.contains s=true)(h2:qB n=true)(g:Bd i):rdF (oZ ([s,n],i))=true:=by
 show((decide (-1000000000<=i)&&decide (i<=1000000000))&&(ASKW.contains s&&qB n))=true;rw[h1,h2,Ad g.1,Ad g.2]
 rfl
theorem eE:∀{ts},(ts.map rdF).all id=true->∃cs,ts=cs.map oZ/\RdP cs
 |[],_=>⟨[],rfl,fun _ z=>nomatch z⟩
 |t::ts,h=>by
  rw[BA,CQ,BI] at h;refine zX (eE h.2) fun cs e o=>Ga (rdF_is h.1) fun s n i q o'=>⟨([s,n],i)::cs,by rw[e,q];rfl,fun c g=>?_⟩
  rcases Ai.1 g with rfl | g
  .lia
  .exact o c g
def Ju(h:RdP cs):rdsF (.tup (cs.map oZ))=true:=by
 show((cs.map oZ).map rdF).all id=true;rw[Bs];intro b q;obtain⟨t,D,rfl⟩:=AU.1 q;obtain⟨c,B,rfl⟩:=AU.1 D;obtain⟨s,n,e,h1,h2,g⟩:=(h c B);obtain⟨I,J⟩:=c;cases e;exact rdF_of h1 h2 g
theorem eG:∀{cs},RdP cs->Zf (cs.map oZ)=some (dOf cs)
 |[],_=>rfl
 |c::cs,h=>by
  have B:=eG fun x q=>h x (AL _ q);obtain⟨s,n,e,_⟩:=(h c AF);obtain⟨D,g⟩:=c;cases e;show(match some ([Sum.inr s,Sum.inr n]:List Key),Zf (cs.map oZ) with | some k,some ps=>some ((k,PV.int g)::ps) | _,_=>none)=_;rw[B]
  rfl
theorem mO[DecidableEq κ](g:κ->PV):∀ps q,(∀p∈ps,p.2=g p.1)->∀k,xV (mergeG q ps) k=if k∈ps.map (·.1) then some (g k) else xV q k
 |[],q,_,k=>by rfl
 |p::ps,q,h,k=>by
  show xV (mergeG (putG q p.1 p.2) ps) k=_;rw[mO g ps _ (fun x B=>h x (AL _ B)) k,Qp]
  by_cases e:k∈ps.map (·.1)
  .grind
  .grind
theorem uC:∀ps g,ABd ps->ABd g->ABd (mergeG g ps)
 |[],g,_,h=>h
 |p::ps,g,h,B=>uC ps (putG g p.1 p.2) (fun x q=>h x (AL _ q)) fun x q=>by
  rcases iN q with e | e
  .exact e▸h p AF
  .exact B x e
def Gg(h:RdP cs):ABd (dOf cs):=fun D B=>by
 obtain⟨c,q,rfl⟩:=AU.1 B;exact ZS (h c q) fun _ _ _ _ _ g=>⟨c.2,rfl,g⟩
section
variable {A:Rds}{rs:List Str}{cap:Nat}{x:Pt}
def iE: vS A bs fun R=>∀q∈R,∃s n,iM bs s n/\q=(qK s n,.int (lM A s n)):=fun R s n h B q g=>by
 delta putG at g
 split at g
 .grind
 .grind
def QL(g:PtOk rs cap x):∀q∈gB A x,∃s n,iM (x.first.map (·.1)) s n/\q=(qK s n,.int (lM A s n)) :=
 qJ iE g.wk (wJ iE g.ls fun _ z=>nomatch z)
def zO: c∈(bJ A x).reads↔c∈(gB A x).map rdC:=(zM _).mem_iff
def qM(B:PtOk rs cap x)(h:c∈(bJ A x).reads):∃s n,iM (x.first.map (·.1)) s n/\c=([s,n],lM A s n):=by
 obtain⟨q,g,rfl⟩:=AU.1 (zO.1 h);obtain⟨s,n,h1,rfl⟩:=QL B q g;exact⟨s,n,h1,rfl⟩
def oF(g:PtOk rs cap x)(B:ABd A):RdP (bJ A x).reads:=fun c D=>by
 obtain⟨s,n,h1,rfl⟩:=qM g D;refine⟨s,n,rfl,?_,?_,(mF B s n).2⟩
 .rcases h1 with ⟨rfl | rfl,_⟩ | ⟨rfl,_⟩<;>decide +kernel
 .rcases h1 with ⟨_,h⟩ | ⟨_,h⟩
  .have q:∀m∈(["a","ab","b"]:List Str),qB m=true:=by decide +kernel
   exact q n h
  .obtain ⟨y,I,rfl⟩:=AU.1 h
   exact g.bn y I
def kO(B:PtOk rs cap x):Ag A (mergeG [] (dOf (bJ A x).reads)) (gB A x):=fun s n g=>by
 obtain⟨J,q,e⟩:=(AU.1 g);obtain⟨s',O,_,rfl⟩:=QL B J q;cases e
 have v:=mO (fun k:List Key=>match k with | [.inr s,.inr n]=>PV.int (lM A s n) | _=>.non) (dOf (bJ A x).reads) [] (fun p I=>by
  obtain⟨c,D,rfl⟩:=AU.1 I;obtain⟨s,n,_,rfl⟩:=qM B D
  rfl) (qK s n)
 have g:qK s n∈(dOf (bJ A x).reads).map (·.1):=AU.2 ⟨(qK s n,.int (lM A s n)),AU.2 ⟨([s,n],lM A s n),zO.2 (AU.2 ⟨_,q,rfl⟩),rfl⟩,rfl⟩;rw[AZ g] at v;show _=(match xV (mergeG [] (dOf (bJ A x).reads)) (qK s n) with | some (.int i)=>i | _=>0);rw[v]
def xC(g:PtOk rs cap x)(q:ABd A):GQ rs 6 (bJ A x).row:=row_ok g.ls ⟨q,(fun _ z=>nomatch z),(fun _ z=>nomatch z),by rw[AB];exact g.fl⟩ g.b8 (by have:=g.tw;lia)
def jO(g:PtOk rs cap x)(q:ABd A):(bJ A x).reads.length<=10:=by
 have h1:=(zM ((gB A x).map rdC)).length_eq;have h2:RdOk (x.first.map (·.1)) (gB A x):=qJ (tZ q) g.wk (wJ (tZ q) g.ls ⟨Cz,(fun _ z=>nomatch z),(fun _ z=>nomatch z)⟩);have B:=h2.len;have D:=g.fl;rw[AB] at h1 B;show(vH _).length<=_
 lia
def WO(g:PtOk rs cap x)(B:ABd A):pw (bJ A x).pv<=1000000:=by
 have h1:=jO g B
 have h2:=pL (f:=oZ) (c:=5) (l:=(bJ A x).reads) fun c O=>by
  obtain⟨s,n,_,rfl⟩:=qM g O
  delta oZ
  simp[pw,pws]
 have h3:pws (Wt.pvs (bJ A x).row)<=105 * Wt.wcs (bJ A x).row:=by
  have I:∀r:List Wt,(∀y∈r,WtOk rs 6 y)->pws (Wt.pvs r)<=105 * Wt.wcs r:=by
   intro r
   induction r with
   |nil=>intro _;rw[Wt.pvs,pws];exact AY _
   |cons y r U =>
    intro D;have Y:=U fun z S=>D z (AL _ S);have Z:=pw_wt 6 y (D y AF);rw[Wt.pvs,pws,Wt.wcs]
    lia
  exact I _ (xC g B).1
 have q:=mY A x.ls [] ([],[],[]);have q:Wt.wcs (bJ A x).row<=0+Ln.tws x.ls:=q;have h5:=g.tw;have J:=Zd (bJ A x).works;have h7:(bJ A x).works.length<=4:=by show(vZ A [] x.works).length<=4;delta vZ;rw[AB];exact g.wl
 rw[aN] at J
 delta Pc.pv
 simp only[pw,pws]
 lia
end
section
variable {W:Wd}{a:Adr}
def Pg(x:PV):Prop:=∀ts y z,x=.tup [.tup ts,y,z]->ts.length<=sizeLine/\∀t∈ts,Sg t
def len4{α:Type}x y z u(r:List α)k(h:k=3):(!decide (((x::y::z::u::r).length:Int)=k))=true :=by grind
inductive gLp(ts:List PV)(C:CH)(Q:K1):Prop
 |mk(pt:Pt)(x:PV)(rs:List Str)(cap:Nat)(z0:ts=[pt.pv,x])(z1:PtOk rs cap pt)(z2:Th C x)(z3:Pg x)(z4:∀b C',(b=true↔∃A,ABd A/\x=(bJ A pt).pv)->Gr C C'->Q (.bl b) C')
def sM(T:Tx W a):Ok W a 30 10 ["part","piece"] gLp:=by
 have S:=(T.F 10 rfl).s;have XN:=(uA T).mono (show 3<=29 by decide);have ah:=(Ya T).mono (show 3<=29 by decide);have ai:=W8 T
 refine(T.F 10 rfl).ok (fun ts C R h=>?_) fun ar A au s H E q=>⟨_,(xQ (sQ (cw_pt (cw_or (dJ (aX (cQ nQ lX rfl T.mQ rfl (qQ (cv 1) (ca1 (fZ rfl T.xX rfl)))))) (cw_or (ct2 tU bW (cln T.sZ (cv 1)) zQ) (cw_or1 (dJ (aX (cf (T.F 11 rfl) XN q (ca1 (cx (cv 1) zQ))))))))) (kQ (yQ aJ)) pQ)
  (kQ (yQ (cf (T.F 3 rfl) ah q (qQ (cv 1) (ca1 (cf (T.F 9 rfl) ai q (qQ (cv 0) (ca1 (lZ (sR rfl (qI q)) yE rfl T.yN rfl (ca1 (cx (cv 1) zQ)))))))))))),?_⟩
 .obtain ⟨_,_,_,_,rfl,_⟩:=h;rfl
 rintro ts C R ⟨af,x,rs,cap,rfl,D,hx,hg,ag⟩;have B:∀C',(∀A,ABd A->x≠(bJ A af).pv)->Gr C C'->R (.bl false) C':=fun C' h g=>ag false C' ⟨(fun z=>nomatch z),fun U=>zX U fun A k e=> (h A k e).elim⟩ g
 cases hx with
 |@tup ts ae =>
  refine tQ rfl rfl (aG (vY (vX (kX _ _) ?_)))
  rcases ts with _ | ⟨r,_ | ⟨y,_ | ⟨z,_ | ⟨u,l⟩⟩⟩⟩
  .exact jZ rfl (B C (fun A _ e=>nomatch PV.tup.inj e) Gr.refl)
  .exact jZ rfl (B C (fun A _ e=>nomatch PV.tup.inj e) Gr.refl)
  .exact jZ rfl (B C (fun A _ e=>nomatch PV.tup.inj e) Gr.refl)
  .refine fX rfl (yX rfl ⟨r,rfl,ae r AF,fun ts e=>hg ts y z (by rw[e]),fun C1 ab=>?_⟩)
   cases q:rdsF r with
   |false =>
    refine yZ (B C1 (fun A I e=>?_) ab);have e0:=PV.tup.inj e;injection e0 with J _
    rw[J,Ju (oF D I)] at q;cases q
   |true =>
    refine aG (aQ ?_)
    cases r with
    |tup ts =>
     obtain⟨cs,rfl,O⟩:=eE q;refine yX rfl (J7 (eG O) ?_ fun d aq=>?_)
     .delta dOf
      rw[AB];have:=(hg _ y z rfl).1
      rwa [AB] at this
     have I:ABd (mergeG [] (dOf cs)):=uC _ _ (Gg O) fun _ z=>nomatch z;refine⟨af,d,_,rs,cap,rfl,D,jQ,I,fun C2 aj=>?_⟩;have Z:=(ab.trans (Gr.new aq _)).trans aj;refine⟨_,_,rfl,(Th.tup ae).gr Z,Pn.of (WQ (xC D I)),WO D I,fun b C3 hb ak=>ag b C3 ?_ (Z.trans ak)⟩;rw[hb];refine⟨fun e=>⟨_,I,e⟩,fun U=>zX U fun A ao e=> ?_⟩;injection (PV.tup.inj e) with J _
     have Y:=eG O;rw[(PV.tup.inj J),eG (oF D ao)] at Y;rw[e,(pc_ag D (kO D)).1,A7 Y]
    |_=>cases q
  .exact jZ (len4 _ _ _ _ _ _ rfl) (B C (fun A _ e=>nomatch PV.tup.inj e) Gr.refl)
 |lst h=>exact tQ rfl h (yZ (B C (fun A _ e=>nomatch e) Gr.refl))
 |dct h=>exact tQ rfl h (yZ (B C (fun A _ e=>nomatch e) Gr.refl))
 |_=>exact tQ rfl rfl (yZ (B C (fun A _ e=>nomatch e) Gr.refl))
end
structure Pad(C:CH)(pd aa tt rr:Addr)(A:Rds)(τ:Tns)(R:Rds):Prop where
 e:Env C aa tt rr A τ R
 p:C pd=some (.lst [.ref aa,.ref rr])
def Pad.nr(h:Pad C pd aa tt rr A τ R):pd≠rr:=fun z=>by have:=h.p;rw[z,h.e.hr] at this;cases this
def Pad.ex{R':Rds}(h:Pad C pd aa tt rr A τ R)(e:ExS [rr] C C')(g:C' rr=some (.dT R')):Pad C' pd aa tt rr A τ R' :=
 ⟨h.e.ex e g,e _ _ (fun z=>h.nr (AE.1 z)) h.p⟩
section
variable {W:Wd}{a:Adr}
inductive ZO(d:Nat)(ts:List PV)(C:CH)(Q:K1):Prop
 |mk(r:Rk)(pd aa tt rr:Addr)(A:Rds)(τ:Tns)(R:Rds)(bs ns:List Str)(z0:ts=[r.pv,.ref pd,.ref tt])(z1:r.ok bs ns d)(z2:Pad C pd aa tt rr A τ R)(z3:nV A τ bs ns)(z4:RdOk bs R)(z5:∀C',C' rr=some (.dT (r.rds A τ R))->ExS [rr] C C'->Q (.int (r.val A τ)) C')
def zD(T:Tx W a)(d:Nat):Ok W a (d+1) 29 U6 (ZO d):=by
 have ai:∀n,(∀d',n=d'+1->Ok W a (d'+1) 29 U6 (ZO d'))->Ok W a (n+1) 29 U6 (ZO n):=by
  intro n ih;have S:=(T.F 29 rfl).s
  have yJ:Ok W a n 29 U6 (fun ts C Q=>∃d',n=d'+1/\ZO d' ts C Q):=by
   cases n with
   |zero=>exact oJ fun ts C Q zz=>zX zz fun d' e _=> by lia
   |succ d' =>
    have:=ih d' rfl
    have e:(fun ts C Q=>∃af,d'+1=af+1/\ZO af ts C Q)=ZO d':=by
     funext ts C Q
     refine propext ⟨fun zz=>zX zz fun af e h=> ?_,fun h=>⟨d',rfl,h⟩⟩;cases Ay e;exact h
    rw[e];exact this
  refine(T.F 29 rfl).ok (fun ts C R h=>?_) fun ak A ao s H E O=>⟨_,(xQ (cs1 3 S.nd (cx (cv 0) zQ))
  (xQ (sQ (ct2 bX iQ (cv 3) vQ) (kQ (yQ (cx (cv 0) zQ))) pQ)
  (xQ (sQ (ct2 bX iQ (cv 3) vQ) (kQ (yQ (nZ (qZ O) (cv 2) (cx (cv 0) zQ) (fun _ _=>rfl)))) pQ)
  (xQ (sQ (uF tW mU (cv 3) (lQ (qQ vQ (qQ vQ (ca1 vQ)))) rfl) (xQ (cs1 4 S.nd (XA (qZ O) (cx (cv 1) zQ) (lQ (qQ (cv 3) (ca1 (cx (cv 0) zQ)))) zQ))
  (xQ (nH (qZ O) (cx (cv 1) zQ) (lQ (qQ (cv 3) (ca1 (cx (cv 0) zQ)))) (cv 4))
  (kQ (yQ (cv 4))))) pQ)
  (xQ (cs1 5 S.nd (cf (T.F 29 rfl) yJ O (qQ (cx (cv 0) zQ) (qQ (cv 1) (ca1 (cv 2))))))
  (xQ (sQ (ct2 bX iQ (cv 3) vQ) (kQ (yQ (cf (T.F 29 rfl) yJ O (qQ (sD (ct2 tU bW (cv 5) zQ) (cx (cv 0) zQ) (cx (cv 0) zQ)) (qQ (cv 1) (ca1 (cv 2))))))) pQ)
  (xQ (cs1 6 S.nd (cf (T.F 29 rfl) yJ O (qQ (cx (cv 0) zQ) (qQ (cv 1) (ca1 (cv 2))))))
  (xQ (sQ (ct2 bX iQ (cv 3) vQ) (kQ (yQ (lZ cG eD rfl T.rM rfl (ca1 (iK rY mV (cv 5) (cv 6) (uW _)))))) pQ)
  (xQ (cs1 7 S.nd (eQ uX gX (cv 5) (cv 6)))
  (xQ (sQ (ct2 bX iQ (cv 3) vQ) (kQ (cs1 7 S.nd (eQ qF bU (cv 5) (cv 6)))) pQ)
  (kQ (yQ (cQ (iW rfl) fM rfl T.gT rfl (qQ (rB jY gV (eQ iY aV zQ zQ)) (ca1 (cQ (pM rfl) tH rfl T.Jh rfl (qQ (eQ iY aV zQ zQ) (ca1 (cv 7))))))))))))))))))),?_⟩
  .obtain ⟨r,pd,aa,tt,rr,A,τ,R,bs,ns,rfl,_⟩:=h;rfl
  rintro ts C Q ⟨r,pd,aa,tt,rr,A,τ,R,bs,ns,rfl,B,D,g,Z,q⟩;have J:=D.e;refine uQ ?_
  cases r with
  |num i =>
   refine yX rX (vX (rQ _ _) (jZ (by decide) ?_));exact yX (v:=.int i) rfl (q C J.hr ExS.refl)
  |turn m =>
   unfold Rk.ok at B;refine yX rX (vX (rQ _ _) (fX (by decide) ?_));refine aQ (vX (rQ _ _) (jZ (by decide) ?_));exact yX (v:=.str m) rfl (eJ J.ht rfl (rE g.t (g.h m B)).1 (q C J.hr ExS.refl))
  |ask s m =>
   unfold Rk.ok at B;refine yX rX (vX (rQ _ _) ?_)
   have hs:s = "take"\/s = "down"\/s = "box":=by
    rcases B with ⟨h | h,_⟩ | ⟨h,_⟩
    .exact .inl h
    .exact .inr (.inl h)
    .exact .inr (.inr h)
   have ag:decide (s = "num")=false:=by rcases hs with rfl | rfl | rfl<;>decide
   have ah:decide (s = "turn")=false:=by rcases hs with rfl | rfl | rfl<;>decide
   apply fX (by rw[ag];rfl)
   refine aQ (vX (rQ _ _) (fX (by rw[ah];rfl) ?_));refine aQ ⟨y0 3 rfl,uD (ts:=[.str "take",.str "box",.str "down"]) (w:=.str s) (vs:=[.str "take",.str "box",.str "down"]) rfl rfl rfl (jZ (by rcases hs with rfl | rfl | rfl<;>rfl) ?_)⟩;refine uQ (gJ D.p rfl ⟨YE J.ha,yX (v:=.str m) rfl ⟨y0 2 rfl,VY (k:=qK s m) J.ha rfl (mF g.a s m).1 ?_⟩⟩);have hb:=g.b;refine oX (gJ D.p rfl (yX (v:=.str m) rfl ⟨y0 2 rfl,X1 (k:=qK s m) J.hr rfl (by have:=Z.len;lia) ?_⟩))
   exact q _ jQ (ExS.refl.at (by simp) _)
  |bin w x y =>
   cases n with
   |zero=>delta Rk.ok at B;exact B.elim
   |succ d' =>
   unfold Rk.ok at B;obtain⟨ab,U,oy⟩:=B;have ag:decide (w = "num")=false:=by rcases ab with rfl | rfl | rfl<;>decide
   have ah:decide (w = "turn")=false:=by rcases ab with rfl | rfl | rfl<;>decide
   refine yX rX (vX (rQ _ _) (fX (by rw[ag];rfl) ?_));refine aQ (vX (rQ _ _) (fX (by rw[ah];rfl) ?_));refine aQ ⟨y0 3 rfl,uD (ts:=[.str "take",.str "box",.str "down"]) (w:=.str w) (vs:=[.str "take",.str "box",.str "down"]) rfl rfl rfl (fX (by rcases ab with rfl | rfl | rfl<;>rfl) ?_)⟩
   apply aQ
   try dsimp only
   refine uQ (yX (v:=x.pv) rfl ⟨d',rfl,x,pd,aa,tt,rr,A,τ,R,bs,ns,rfl,U,D,g,Z,fun C1 m1 I=>?_⟩);have P1:=D.ex I m1;have R1:=nJ (τ:=τ) (tZ g.a) U Z;refine vX (rQ _ _) (fX (by rcases ab with rfl | rfl | rfl<;>decide) ?_)
   apply aQ
   try dsimp only
   refine uQ (yX (v:=y.pv) rfl ⟨d',rfl,y,pd,aa,tt,rr,A,τ,_,bs,ns,rfl,oy,P1,g,R1,fun C2 m2 Y=>?_⟩);have bx:=zY g.a g.t g.h U;have aj:=zY g.a g.t g.h oy
   have ae:∀Q':K1,Q'=Q->Q' (.int (Rk.val A τ (.bin w x y))) C2:=fun Q' e=>by subst e;exact q C2 m2 (I.trans Y)
   unfold Rk.val at ae;refine vX (rQ _ _) ?_
   rcases ab with rfl | rfl | rfl
   .refine fX (by decide) (aQ ?_)
    try dsimp only
    refine uQ (yK ?_);refine vX (rQ _ _) (fX (by decide) (aQ ?_));refine⟨⟨by decide,by decide,by decide⟩,⟨⟨by decide,by decide,by decide⟩,?_⟩⟩;exact Q0 (bC (ae _ rfl))
   .refine fX (by decide) (aQ ?_)
    try dsimp only
    refine uQ (yK ?_);refine vX (rQ _ _) (jZ (by decide) ?_);unfold Bd at bx aj
    refine⟨.inr ⟨by lia,by lia⟩,?_⟩;refine⟨⟨by decide,by decide,by decide⟩,⟨⟨by decide,by decide,by decide⟩,?_⟩⟩;exact Q0 (bC (ae _ rfl))
   .refine jZ (by decide) (i_i (Xe ?_))
    have:=ae _ rfl;rw[AZ rfl] at this
    have e:(if decide (x.val A τ < y.val A τ)=true then (1:Int) else 0)=if x.val A τ < y.val A τ then 1 else 0:=by
     by_cases h:x.val A τ < y.val A τ
     .rw [Ad h,AZ rfl,AZ h]
     .rw [AM h,AX (by decide),AX h]
    rw[e];exact this
  |pick x y z =>
   cases n with
   |zero=>delta Rk.ok at B;exact B.elim
   |succ d' =>
   unfold Rk.ok at B;obtain⟨U,oy,oz⟩:=B;refine yX rX (vX (rQ _ _) (fX (by decide) ?_))
   apply aQ
   refine vX (rQ _ _) (fX (by decide) ?_)
   apply aQ
   refine⟨y0 3 rfl,uD (ts:=[.str "take",.str "box",.str "down"]) (w:=.str "pick") (vs:=[.str "take",.str "box",.str "down"]) rfl rfl rfl (fX rfl (aQ ?_))⟩
   try dsimp only
   refine uQ (yX (v:=x.pv) rfl ⟨d',rfl,x,pd,aa,tt,rr,A,τ,R,bs,ns,rfl,U,D,g,Z,fun C1 m1 I=>?_⟩);have P1:=D.ex I m1;have R1:=nJ (τ:=τ) (tZ g.a) U Z;refine vX (rQ _ _) (jZ (by decide) ?_);refine if_i (vX (kX _ _) ?_)
   by_cases h0:x.val A τ=0
   .refine fX (by rw[Ad h0];rfl) (yX (v:=z.pv) rfl ⟨d',rfl,z,pd,aa,tt,rr,A,τ,_,bs,ns,rfl,oz,P1,g,R1,fun C2 m2 Y=>?_⟩)
    have:=q C2 (by unfold Rk.rds;rw[AZ h0];exact m2) (I.trans Y);unfold Rk.val at this;rw[AZ h0] at this;exact this
   .refine jZ (by rw[AM h0];rfl) (yX (v:=y.pv) rfl ⟨d',rfl,y,pd,aa,tt,rr,A,τ,_,bs,ns,rfl,oy,P1,g,R1,fun C2 m2 Y=>?_⟩)
    have:=q C2 (by unfold Rk.rds;rw[AX h0];exact m2) (I.trans Y);unfold Rk.val at this;rw[AX h0] at this;exact this
 induction d with
 |zero=>exact ai 0 fun d' e=>by lia
 |succ d ih=>exact ai (d+1) fun d' e=>by cases Ay e;exact ih
inductive gVald(ts:List PV)(C:CH)(Q:K1):Prop
 |mk(ps:List (Str×Rk))(pd aa tt rr:Addr)(A:Rds)(τ:Tns)(R:Rds)(bs ns:List Str)(z0:ts=[.tup (ps.map qW),.ref pd,.ref tt])(z1:fF bs ns 2 ps)(z2:ps.length<=4)(z3:Pad C pd aa tt rr A τ R)(z4:nV A τ bs ns)(z5:RdOk bs R)(z6:∀C',C' rr=some (.dT (gZ A τ ps R))->ExS [rr] C C'->Q (.tup ((yG (vZ A τ ps)).map xJ)) C')
def jE ps(U:ABd A)(hp:fF bs ns d ps)(hl:ps.length<=4)(Z:RdOk bs R)(m:C rr=some (.dT R))(af:∀u D C1 L,u∈ps->RdOk bs D->C1 rr=some (.dT D)->ExS [rr] C C1->(∀C2,C2 rr=some (.dT (u.2.rds A τ D))->ExS [rr] C1 C2->L (xJ (u.1,u.2.val A τ)) C2)->c (some (.str u.1)::some u.2.pv::ρ) C1 L)(S:∀C' p,C' rr=some (.dT (gZ A τ ps R))->ExS [rr] C C'->C' p=none->Q (.ref p) (gQ C' p (.lst ((vZ A τ ps).map xJ)))):hU 2 xT c ρ Q (ps.map qW) [] C:=by
 refine xE (fun zs I C'=>∃ds g:List (Str×Rk),ps=ds++g/\zs=g.map qW/\I=(vZ A τ ds).map xJ/\C' rr=some (.dT (gZ A τ ds R))/\ExS [rr] C C') ?_ ?_ _ _ _ ⟨[],ps,rfl,rfl,rfl,m,ExS.refl⟩
 .rintro x r I C1 ⟨ds,g,e,B,rfl,J,q⟩
  cases g with
  |nil=>cases B
  |cons u g =>
   obtain⟨rfl,rfl⟩:=Bn B;refine⟨[.str u.1,u.2.pv],rfl,rfl,fun L Y=>?_⟩;have ab:ds.length < 4:=by have:=Bk List.length e;rw[AN,AV] at this;lia
   refine af u _ C1 L (e▸AR _ AF) (qJ (tZ U) (fun x hx=>hp x (e▸Ao _ hx)) Z) J q fun C2 m2 O=>Y _ _ ⟨?_,ds++[u],g,by rw[Af];exact e,rfl,?_,?_,q.trans O⟩
   .rw [AB]
    delta vZ
    rw[AB];exact AQ ab (by decide)
   .delta vZ
    rw[Ac,Ac]
    rfl
   .rw [m2]
    delta gZ
    rw[BW]
    rfl
 .rintro I C1 ⟨ds,g,e,B,rfl,J,q⟩ p ae
  cases g with
  |cons u g=>cases B
  |nil =>
   rw[Ah] at e;subst e;exact S C1 p J q ae
def KW(T:Tx W a):Ok W a 4 30 U7 gVald:=by
 have S:=(T.F 30 rfl).s;refine(T.F 30 rfl).ok (fun ts C R h=>?_) fun af A ag s H E hr=>⟨_,(kQ (yQ (ctp T.xX (cQ (iD rfl) rR rfl T.pF rfl (ca1 (XB rfl (show(["_law_name","_law_rule","_law_pairs_here","_law_pad","_law_turns"]:List Str).Nodup by decide +kernel) (dD (N:=U7) (sc:=nX (top 40)) rfl rfl rfl (by decide +kernel)) (dU (cv 0)) (fun _ _ _ _ _=>wK) (fun _ _ _ _ _=>(lQ (qQ (cv 0) (ca1 (cf (T.F 29 rfl) (zD T 2) hr (qQ (cv 1) (qQ (cv 3) (ca1 (cv 4))))))))))))))),?_⟩
 .obtain ⟨ps,pd,aa,tt,rr,A,τ,R,bs,ns,rfl,_⟩:=h;rfl
 rintro ts C Q ⟨ps,pd,aa,tt,rr,A,τ,R,bs,ns,rfl,J,hl,D,I,hR,ae⟩;refine jE (τ:=τ) ps I.a J hl hR D.e.hr (fun u R1 C1 L hu Z g q hL=>?_) fun C1 p g q O=>?_
 .exact ⟨u.2,pd,aa,tt,rr,A,τ,_,bs,ns,rfl,(J u hu).1,D.ex q g,I,Z,fun C2 m2 e2=>⟨y0 2 rfl,hL C2 m2 e2⟩⟩
 .refine oN jQ (by delta vZ;rw[AB];lia) fun p2 B=>?_
  apply lJ jQ
  have Y:∀p,C1 p=none->rr≠p:=fun p h z=>by rw[z,h] at g;cases g
  have ab:p2≠p:=fun z=>by subst z;rw[jQ] at B;cases B
  have U:C1 p2=none:=by rwa [wQ ab] at B
  apply ae _ (by rwa [wQ (Y p2 U),wQ (Y p O)])
  intro b o n hb;have h1:=q b o n hb;rw[wQ (fun z=>by subst z;rw[U] at h1;cases h1),wQ (fun z=>by subst z;rw[O] at h1;cases h1)];exact h1
end
section
variable (A:Rds)(τ:Tns)
def Rk.asks:Rk->List (List Key)
 |.num _=>[]
 |.turn _=>[]
 |.ask s n=>[qK s n]
 |.bin _ x y=>x.asks++y.asks
 |.pick x y z=>x.asks++if x.val A τ=0 then z.asks else y.asks
def eU(ps:List (Str×Rk)):List (List Key):=ps.flatMap fun c=>c.2.asks A τ
def chsA(cs:List (Str×Str×Rk)):List (List Key):=cs.flatMap fun c=>c.2.2.asks A τ
def zP(hs:List Hd):List (List Key):=hs.flatMap fun h=>chsA A τ h.ch
def ZC:Option Rk->List (List Key)
 |none=>[]
 |some r=>r.asks A τ
end
mutual
def lnA(A:Rds):Ln->Tns->List (List Key)
 |.when r l1 l2,τ=>r.asks A τ++if r.val A τ=0 then rK A l2 τ else rK A l1 τ
 |.each n r ls,τ=>r.asks A τ++(List.range (nB (r.val A τ))).flatMap fun k=>rK A ls (dZ τ (.inr n) (.int (k:Nat)))
 |.part k n g,τ=>ZC A τ k++eU A τ g
 |.give k n r ls,τ=>ZC A τ k++(r.asks A τ++rK A ls τ)
 |.plain k q s hs ls,τ=>ZC A τ k++(eU A τ s++(zP A τ hs++rK A ls τ))
def rK(A:Rds):List Ln->Tns->List (List Key)
 |[],_=>[]
 |l::ls,τ=>lnA A l τ++rK A ls τ
end
abbrev kys(R:Rds):List (List Key):=R.map (·.1)
def put_mem(R:Rds)k v g:g∈kys (putG R k v)↔g∈kys R\/g=k :=by grind[oW,List.mem_append,List.mem_singleton]
def dY(r:Rk):∀R,k∈kys (r.rds A τ R)↔k∈kys R\/k∈r.asks A τ:=by
 induction r with
 |num i=>intro R;simp[Rk.rds,Rk.asks]
 |turn n=>intro R;simp[Rk.rds,Rk.asks]
 |ask s n=>intro R;rw[Rk.rds,Rk.asks,put_mem,AE]
 |bin w x y g q=>intro R;rw[Rk.rds,Rk.asks,q,g,AS,Bq]
 |pick x y z g q B =>
  intro R;rw[Rk.rds,Rk.asks]
  split
  .grind
  .grind
theorem wM{α:Type}{f}{g}(h:∀R x,k∈kys (f R x)↔k∈kys R\/k∈g x):∀(l:List α)R,k∈kys (l.foldl f R)↔k∈kys R\/k∈l.flatMap g
 |[],R=>by simp
 |x::l,R=>by rw[Co,wM h l,h,List.flatMap_cons,AS,Bq]
section
variable {A:Rds}{τ:Tns}{k:List Key}
def vD ps R:k∈kys (gZ A τ ps R)↔k∈kys R\/k∈eU A τ ps:=wM (fun R x=>dY x.2 R) ps R
def chs_mem ps R:k∈kys (lB A τ ps R)↔k∈kys R\/k∈chsA A τ ps:=wM (fun R x=>dY x.2.2 R) ps R
def rO ps R:k∈kys (mZ A τ ps R)↔k∈kys R\/k∈zP A τ ps:=wM (fun R x=>chs_mem x.ch R) ps R
def oA o R:k∈kys (aK A τ o R)↔k∈kys R\/k∈ZC A τ o:=by
 cases o with
 |none=>simp[aK,ZC]
 |some r=>exact dY r R
end
theorem tO(h:∀st x,k∈kys (f st x).2.2↔k∈kys st.2.2\/k∈g x):∀(l:List Nat)(st:DSt),k∈kys (l.foldl f st).2.2↔k∈kys st.2.2\/k∈l.flatMap g
 |[],R=>by simp
 |x::l,R=>by rw[Co,tO h l,h,List.flatMap_cons,AS,Bq]
mutual
theorem one_mem(A:Rds)(k:List Key):∀(l:Ln)(τ:Tns)(st:DSt),k∈kys (cX A l τ st).2.2↔k∈kys st.2.2\/k∈lnA A l τ
 |.when r l1 l2,τ,st=>by
  rw[cX,lnA]
  split
  .rw [rV A k l2 τ];show k∈kys (r.rds A τ st.2.2)\/_↔_;rw[dY,AS,Bq]
  .rw [rV A k l1 τ];show k∈kys (r.rds A τ st.2.2)\/_↔_;rw[dY,AS,Bq]
 |.each n r ls,τ,st=>by
  rw[cX,lnA,tO (g:=fun x:Nat=>rK A ls (dZ τ (.inr n) (.int (x:Nat)))) (fun st x=>rV A k ls _ st)];show k∈kys (r.rds A τ st.2.2)\/_↔_;rw[dY,AS,Bq]
 |.part o n g,τ,st=>by
  rw[cX,lnA];show k∈kys (gZ A τ g (aK A τ o st.2.2))↔_;rw[vD,oA,AS,Bq]
 |.give o n r ls,τ,st=>by
  rw[cX,lnA];show k∈kys (oQ A ls τ ([],[],r.rds A τ (aK A τ o st.2.2))).2.2↔_;rw[rV A k ls τ];show k∈kys (r.rds A τ (aK A τ o st.2.2))\/_↔_;rw[dY,oA,AS,AS,Bq,Bq]
 |.plain o q s hs ls,τ,st=>by
  rw[cX,lnA];show k∈kys (oQ A ls τ ([],[],mZ A τ hs (gZ A τ s (aK A τ o st.2.2)))).2.2↔_;rw[rV A k ls τ];show k∈kys (mZ A τ hs (gZ A τ s (aK A τ o st.2.2)))\/_↔_;rw[rO,vD,oA,AS,AS,AS,Bq,Bq,Bq]
theorem rV(A:Rds)(k:List Key):∀(ls:List Ln)(τ:Tns)(st:DSt),k∈kys (oQ A ls τ st).2.2↔k∈kys st.2.2\/k∈rK A ls τ
 |[],τ,st=>by rw[hZ,rK];simp
 |l::ls,τ,st=>by rw[xZ,rV A k ls τ,one_mem A k l τ,rK,AS,Bq]
end
def Spl(f:DSt->DSt):Prop:=∀F N R,(f (F,N,R)).1=F++(f ([],N,[])).1/\(f (F,N,R)).2.1=(f ([],N,[])).2.1
def Spl.comp(D:Spl f)(q:Spl g):Spl fun st=>g (f st):=fun F N R=>by
 have h1:=D F N R;show(g (f (F,N,R))).1=F++(g (f ([],N,[]))).1/\(g (f (F,N,R))).2.1=(g (f ([],N,[]))).2.1;have B:f (F,N,R)=(F++(f ([],N,[])).1,(f ([],N,[])).2.1,(f (F,N,R)).2.2) :=by grind
 rw[B];have a:=q (F++(f ([],N,[])).1) (f ([],N,[])).2.1 (f (F,N,R)).2.2;have b:=q (f ([],N,[])).1 (f ([],N,[])).2.1 (f ([],N,[])).2.2;rw[a.1,a.2,b.1,b.2,Af];exact⟨rfl,rfl⟩
def Spl.rds(q:Spl f)(g:Rds->Rds):Spl fun st=>f (st.1,st.2.1,g st.2.2):=fun F N R=>by
 have a:=q F N (g R);have b:=q [] N (g []);rw[a.1,a.2,b.1,b.2];exact⟨rfl,rfl⟩
theorem Spl.fold(g:∀k,Spl fun st=>f st k):∀l:List Nat,Spl fun st=>l.foldl f st
 |[]=>fun F N R=>⟨(Ah F).symm,rfl⟩
 |k::l=>(g k).comp (Spl.fold g l)
mutual
theorem yA(A:Rds):∀(l:Ln)(τ:Tns),Spl fun st=>cX A l τ st
 |.when r l1 l2,τ=>by
  have e:(fun st:DSt=>cX A (.when r l1 l2) τ st)=fun st=>if r.val A τ=0 then oQ A l2 τ (st.1,st.2.1,r.rds A τ st.2.2) else oQ A l1 τ (st.1,st.2.1,r.rds A τ st.2.2):=by funext st;rw[cX]
  rw[e]
  by_cases h:r.val A τ=0
  .simp only[if_pos h]
   exact(iZ A l2 τ).rds (r.rds A τ)
  .simp only[if_neg h]
   exact(iZ A l1 τ).rds (r.rds A τ)
 |.each n r ls,τ=>by
  have e:(fun st:DSt=>cX A (.each n r ls) τ st)=fun st=>(List.range (nB (r.val A τ))).foldl (fun st k=>oQ A ls (dZ τ (.inr n) (.int (k:Nat))) st) (st.1,st.2.1,r.rds A τ st.2.2):=by funext st;rw[cX]
  rw[e];exact(Spl.fold (fun k=>iZ A ls _) _).rds (r.rds A τ)
 |.part k n g,τ=>fun F N R=>by
  dsimp only;rw[cX,cX];exact⟨rfl,rfl⟩
 |.give k n r ls,τ=>fun F N R=>by
  dsimp only;rw[cX,cX];dsimp only;have a:=iZ A ls τ [] [] (r.rds A τ (aK A τ k R));have b:=iZ A ls τ [] [] (r.rds A τ (aK A τ k []));dsimp only at a b;rw[a.1,b.1];exact⟨rfl,rfl⟩
 |.plain k q s hs ls,τ=>fun F N R=>by
  dsimp only;rw[cX,cX];dsimp only;have a:=iZ A ls τ [] [] (mZ A τ hs (gZ A τ s (aK A τ k R)));have b:=iZ A ls τ [] [] (mZ A τ hs (gZ A τ s (aK A τ k [])));dsimp only at a b;rw[a.1,b.1];exact⟨rfl,rfl⟩
theorem iZ(A:Rds):∀(ls:List Ln)(τ:Tns),Spl fun st=>oQ A ls τ st
 |[],τ=>fun F N R=>by dsimp only;rw[hZ,hZ];exact⟨(Ah F).symm,rfl⟩
 |l::ls,τ=>by
  have e:(fun st:DSt=>oQ A (l::ls) τ st)=fun st=>oQ A ls τ (cX A l τ st):=by funext st;rw[xZ]
  rw[e];exact(yA A l τ).comp (iZ A ls τ)
end
def vV(A:Rds)(ls:List Ln)(τ:Tns)(N:Tns):List Wt:=(oQ A ls τ ([],N,[])).1
def fW(A:Rds)(ls:List Ln)(τ:Tns)(N:Tns):Tns:=(oQ A ls τ ([],N,[])).2.1
def QE(A:Rds)(l:Ln)(τ:Tns)(N:Tns):List Wt:=(cX A l τ ([],N,[])).1
def Xz(A:Rds)(l:Ln)(τ:Tns)(N:Tns):Tns:=(cX A l τ ([],N,[])).2.1
def Jt A ls τ N R:(oQ A ls τ ([],N,R)).1=vV A ls τ N:=(iZ A ls τ [] N R).1
def Wc A ds u τ N:vV A (ds++[u]) τ N=vV A ds τ N++QE A u τ (fW A ds τ N):=by
 delta vV QE fW
 rw[wF,xZ];exact(yA A u τ (oQ A ds τ ([],N,[])).1 (oQ A ds τ ([],N,[])).2.1 (oQ A ds τ ([],N,[])).2.2).1
def Gs A ds u τ N:fW A (ds++[u]) τ N=Xz A u τ (fW A ds τ N):=by
 delta Xz fW
 rw[wF,xZ];exact(yA A u τ (oQ A ds τ ([],N,[])).1 (oQ A ds τ ([],N,[])).2.1 (oQ A ds τ ([],N,[])).2.2).2
theorem Q5 A τ ys:∀xs,rK A (xs++ys) τ=rK A xs τ++rK A ys τ
 |[]=>by rfl
 |x::xs=>by rw[Ck,rK,rK,Q5 A τ ys xs,Af]
def VX(A:Rds)(τ:Tns)(sp:List Key):Ln->Wt
 |.part _ n g=>.part sp n (yG (vZ A τ g))
 |.give _ n r ls=>.give sp n (r.val A τ) (vV A ls τ [])
 |.plain _ q s hs ls=>.plain sp q (yG (vZ A τ s)) (rZ A τ hs) (vV A ls τ [])
 |_=>.part sp "" []
def thA(A:Rds)(τ:Tns):Ln->List (List Key)
 |.part _ _ g=>eU A τ g
 |.give _ _ r ls=>r.asks A τ++rK A ls τ
 |.plain _ _ s hs ls=>eU A τ s++(zP A τ hs++rK A ls τ)
 |_=>[]
def row1_th(h:Xa l=true):QE A l τ N=[VX A τ (cV N (jW A τ (nK l))) l]/\Xz A l τ N=fV N (jW A τ (nK l))/\lnA A l τ=ZC A τ (nK l)++thA A τ l:=by
 delta QE Xz
 cases l with
 |plain k q s hs ls =>
  rw[cX,lnA,Jt];exact⟨rfl,rfl,rfl⟩
 |part k n g=>exact⟨rfl,rfl,rfl⟩
 |give k n r ls =>
  rw[cX,lnA,Jt];exact⟨rfl,rfl,rfl⟩
 |when r l1 l2=>cases h
 |each n r ls=>cases h
def KD: (QE A (.when r l1 l2) τ N=if r.val A τ=0 then vV A l2 τ N else vV A l1 τ N)/\Xz A (.when r l1 l2) τ N=if r.val A τ=0 then fW A l2 τ N else fW A l1 τ N:=by
 delta QE Xz vV fW
 rw[cX]
 by_cases h:r.val A τ=0
 .rw [AZ h,AZ h,AZ h]
  exact iZ A l2 τ [] N _
 .rw [AX h,AX h,AX h]
  exact iZ A l1 τ [] N _
def vK(A:Rds)(n:Str)(ls:List Ln)(τ:Tns)(N:Tns)(j:Nat):DSt:=(List.range j).foldl (fun st k=>oQ A ls (dZ τ (.inr n) (.int (k:Nat))) st) ([],N,[])
def Vi A n ls τ N j:(vK A n ls τ N (j+1)).1=(vK A n ls τ N j).1++vV A ls (dZ τ (.inr n) (.int j )) (vK A n ls τ N j).2.1/\(vK A n ls τ N (j+1)).2.1=fW A ls (dZ τ (.inr n) (.int j )) (vK A n ls τ N j).2.1:=by
 have e:vK A n ls τ N (j+1)=oQ A ls (dZ τ (.inr n) (.int (j:Nat))) (vK A n ls τ N j):=by
  delta vK
  rw[DV,BW]
  rfl
 exact e▸iZ A ls _ (vK A n ls τ N j).1 (vK A n ls τ N j).2.1 (vK A n ls τ N j).2.2
def KF: QE A (.each n r ls) τ N=(vK A n ls τ N (nB (r.val A τ))).1/\Xz A (.each n r ls) τ N=(vK A n ls τ N (nB (r.val A τ))).2.1 :=Spl.fold (fun k=>iZ A ls _) _ [] N _
def Js A ls τ N:(vV A ls τ N).length<=Ln.tws ls:=by
 have:=(zJ A ls τ ([],N,[])).1
 rwa [BQ,BU] at this
def Gb A n ls τ N j:(vK A n ls τ N j).1.length<=j * Ln.tws ls:=by
 have:=yU (f:=fun st k=>oQ A ls (dZ τ (.inr n) (.int (k:Nat))) st) (m:=fun st=>st.1.length) (fun x k=>(zJ A ls _ x).1) (List.range j) ([],N,[]);rw[Ak] at this;have this:(vK A n ls τ N j).1.length<=0+j * Ln.tws ls:=this
 lia
structure Rv(A:Rds)(bs:List Str)(R:Rds):Prop where
 nd:(R.map (·.1)).Nodup
 vs:∀kv∈R,∃s n,iM bs s n/\kv=(qK s n,.int (lM A s n))
theorem Rv.nil:Rv A bs []:=⟨Cz,fun _ z=>nomatch z⟩
def eN:vS A bs (Rv A bs):=fun R s n h g=>⟨by
  rw[oW]
  split
  .exact g.nd
  .next D =>
   rw[List.nodup_append];refine⟨g.nd,by simp,fun a q b B e=>?_⟩;cases AE.1 B
   exact D (e▸q),iE R s n h g.vs⟩
def Rv.rd(h:Rv A bs R)(B:ABd A):RdOk bs R:=⟨h.nd,fun k D=>by
  obtain⟨q,g,rfl⟩:=AU.1 D;obtain⟨s,n,h1,rfl⟩:=h.vs q g
  exact⟨s,n,rfl,h1⟩,fun q g=>by
  obtain⟨s,n,h1,rfl⟩:=h.vs q g
  exact⟨_,rfl,(mF B s n).2⟩⟩
structure Wh(A:Rds)(bs:List Str)(R:Rds)(L:List (List Key))(R':Rds):Prop where
 v:Rv A bs R'
 k:∀k,k∈kys R'↔k∈kys R\/k∈L
def Wh.refl(h:Rv A bs R):Wh A bs R [] R:=⟨h,fun k=>by simp⟩
theorem Wh.trans(h:Wh A bs R L q)(g:Wh A bs q M B):Wh A bs R (L++M) B:=⟨g.v,fun k=>by rw[g.k,h.k,AS,Bq]⟩
def Wh.congr(h:Wh A bs R L q)(g:∀k,k∈L↔k∈M):Wh A bs R M q:=⟨h.v,fun k=>by rw[h.k,g]⟩
def Wh.rk(h:Rv A bs R)(g:Rk.ok bs ns d r):Wh A bs R (r.asks A τ) (r.rds A τ R):=⟨nJ eN g h,fun k=>dY r R⟩
def Wh.nums(h:Rv A bs R)(g:fF bs ns d ps):Wh A bs R (eU A τ ps) (gZ A τ ps R):=⟨qJ eN g h,fun k=>vD ps R⟩
def Rv.perm(h:Rv A bs R)(g:Rv A bs R')(e:∀k,k∈kys R↔k∈kys R'):(R.map rdC).Perm (R'.map rdC):=by
 have f:∀{R:Rds},Rv A bs R->R.map rdC=(kys R).map fun k=>(k.map stOf,match k with | [.inr s,.inr n]=>lM A s n | _=>0):=fun {R}h=>by
  rw[Be];refine Cp fun B q=>?_;obtain⟨s,n,_,rfl⟩:=h.vs B q
  rfl
 rw[f h,f g];exact((List.perm_ext_iff_of_nodup h.nd g.nd).2 e).map _
def Rv.nd2(h:Rv A bs R):((R.map rdC).map (·.1)).Nodup:=by
 rw[Be];refine List.pairwise_map.2 ((List.pairwise_map.1 h.nd).imp_of_mem fun {x y}D I B e=>B ?_);obtain⟨s,n,_,rfl⟩:=h.vs x D;obtain⟨s',J,_,rfl⟩:=h.vs y I;have e:[s,n]=[s',J]:=e;injection e with q g
 injection g with g _
 rw[q,g]
def SN(N:Tns)(ks:List Key):Prop:=∀k,lD N k=(bI k ks:Nat)
section
variable {W:Wd}{a:Adr}
inductive gWs(d:Nat)(ts:List PV)(C:CH)(Q:K1):Prop
 |mk(ls:List Ln)(pd aa tt rr sn:Addr)(A:Rds)(τ:Tns)(R:Rds)(N:Tns)(ks:List Key)(bs rs ns:List Str)(z0:ts=[.tup (Ln.pvs ls),.ref pd,.ref tt,.ref sn])(z1:∀x∈ls,LnOk bs rs d ns x)(z2:Ln.tws ls<=400)(z3:ks.length+Ln.tws ls<=1000)(z4:τ.length+d<=50)(z5:Pad C pd aa tt rr A τ R)(z6:C sn=some (.lst (ks.map zK)))(z7:sn≠pd)(z8:nV A τ bs ns)(z9:Rv A bs R)(z10:SN N ks)(z11:∀C' p R' ks',C' p=some (.lst (Wt.pvs (vV A ls τ N)))->C p=none->C' rr=some (.dT R')->Wh A bs R (rK A ls τ) R'->C' sn=some (.lst (ks'.map zK))->SN (fW A ls τ N) ks'->ks'.length<=ks.length+Ln.tws ls->ExS [rr,sn] C C'->Q (.ref p) C')
def ZN(d:Nat):GC:=fun ts C Q=>∃d',d=d'+1/\gWs d' ts C Q
inductive gWn(d:Nat)(ts:List PV)(C:CH)(Q:K1):Prop
 |mk(l:Ln)(sp:List Key)(pd aa tt rr:Addr)(A:Rds)(τ:Tns)(R:Rds)(bs rs ns:List Str)(z0:ts=[l.pv,sG sp,.ref pd,.ref tt])(z1:Xa l=true)(z2:LnOk bs rs d ns l)(z3:l.tw<=400)(z4:τ.length+d<=50)(z5:Pad C pd aa tt rr A τ R)(z6:nV A τ bs ns)(z7:Rv A bs R)(z8:∀C' R',C' rr=some (.dT R')->Wh A bs R (thA A τ l) R'->ExS [rr] C C'->Q (VX A τ sp l).pv C')
theorem SN.nil:SN [] []:=fun k=>rfl
def Jq(h1:∀x∈ls,LnOk bs rs d ns x)(h2:Ln.tws ls<=400)(J:τ.length+d<=50)(B:Pad C pd aa tt rr A τ R)(U:nV A τ bs ns)(O:Rv A bs R)(ab:∀C' R',C' rr=some (.dT R')->Wh A bs R (rK A ls τ) R'->ExS [rr] C C'->Q (.tup (Wt.pvs (vV A ls τ []))) C'):
  ∀sn,C sn=none->ZN (d+1) [.tup (Ln.pvs ls),.ref pd,.ref tt,.ref sn] (gQ C sn (.lst [])) fun v C'=>uP [v] C' Q:=fun sn q=>by
 have g:=ExS.refl.put (S:=[rr]) q (.lst []);refine⟨d,rfl,ls,pd,aa,tt,rr,sn,A,τ,R,[],[],bs,rs,ns,rfl,h1,h2,by rw[BQ];lia,J,(B.ex g (by rw[wQ fun z=>by rw[<- z,B.e.hr] at q;cases q];exact B.e.hr)),jQ,(fun z=>by rw[z,B.p] at q;cases q),U,O,SN.nil,fun C' p R' ks' Y m2 Z wh _ _ _ x=>lJ Y (ab C' R' Z wh ?_)⟩;intro b o ae D;have I:b≠sn:=fun z=>by rw[z,q] at D;cases D
 exact x b o (fun z=>by
  rcases Ai.1 z with z | z
  .grind
  .exact I (AE.1 z)) (by rwa [wQ I])
def W4(T:Tx W a)(d r:Nat)(h4:4<=r)(sV:Ok W a r 32 U1 (ZN d)):
  Ok W a (r+1) 31 U8 (gWn d):=by
 have S:=(T.F 31 rfl).s;have yJ:=(zD T 2).mono (show 3<=r by lia);have uS:=(KW T).mono (show 4<=r by lia)
 refine(T.F 31 rfl).ok (fun ts C R h=>?_) fun bb A bf s H E hr=>⟨_,(xQ (sQ (ct2 bX iQ (cx (cv 0) zQ) vQ) (kQ (yQ (lQ (qQ vQ (qQ (cv 1) (qQ (cx (cv 0) zQ) (ca1 (cf (T.F 30 rfl) uS hr (qQ (cx (cv 0) zQ) (qQ (cv 2) (ca1 (cv 3)))))))))))) pQ)
  (xQ (sQ (ct2 bX iQ (cx (cv 0) zQ) vQ) (xQ (cs1 4 S.nd (cf (T.F 29 rfl) yJ hr (qQ (cx (cv 0) zQ) (qQ (cv 2) (ca1 (cv 3))))))
  (kQ (yQ (lQ (qQ vQ (qQ (cv 1) (qQ (cx (cv 0) zQ) (qQ (cv 4) (ca1 (ctp T.xX (cf (T.F 32 rfl) sV hr (qQ (cx (cv 0) zQ) (qQ (cv 2) (qQ (cv 3) (ca1 (mX pZ)))))))))))))))) pQ)
  (xQ (cs1 5 S.nd (mX pZ))
  (xQ (sH PassesOwn.never rfl (cx (cv 0) zQ) (Gx rfl (dG (cg1 6 S.nd) (dG (cg1 7 S.nd) (dG (cg1 8 S.nd) (dG (cg1 9 S.nd) Kh))))) (xQ (Gk (i:=10) S.nd rfl (Or.inl rfl) rfl (show(["_law_box","_law_word","_law_rule","_law_line_here","_law_spot","_law_pad","_law_turns","_law_number_here","_law_hands_here","_law_event","_law_rank","_law_last","_law_changes","_law_told","_law_row"]:List Str).Nodup by decide +kernel) (dD (N:=U2) (sc:=nX (top 41)) rfl rfl rfl (by decide +kernel)) (dU (cv 9)) (fun _ _ _ _ _=>wK) (fun _ _ _ _ _=>(lQ (qQ (cv 0) (qQ (cv 1) (ca1 (cf (T.F 29 rfl) yJ hr (qQ (cv 2) (qQ (cv 5) (ca1 (cv 6)))))))))))
  (kQ (aZ (cap (cv 5) (lQ (qQ (cv 6) (qQ (cv 7) (qQ (cv 8) (ca1 (ctp T.xX (cv 10))))))))))))
  (xQ (cs1 11 S.nd (ctp T.xX (cf (T.F 32 rfl) sV hr (qQ (cx (cv 0) zQ) (qQ (cv 2) (qQ (cv 3) (ca1 (mX pZ))))))))
  (kQ (yQ (lQ (qQ vQ (qQ (cv 1) (qQ (cx (cv 0) zQ) (qQ (cf (T.F 30 rfl) uS hr (qQ (cx (cv 0) zQ) (qQ (cv 2) (ca1 (cv 3))))) (qQ (ctp T.xX (cv 5)) (ca1 (cv 11))))))))))))))),?_⟩
 .obtain ⟨l,sp,pd,aa,tt,rr,A,τ,R,bs,rs,ns,rfl,_⟩:=h;rfl
 rintro ts C Q ⟨l,sp,pd,aa,tt,rr,A,τ,R,bs,rs,ns,rfl,ax,ak,ay,bc,hP,I,hR,av⟩;have aq:=hR.rd I.a
 cases d with
 |zero=>exact ak.elim
 |succ d =>
 cases l with
 |when r l1 l2=>cases ax
 |each n r ls=>cases ax
 |part k n g =>
  obtain⟨h1,h2,B,ae⟩:=ak;unfold Ln.pv;refine yX rX (vX (rQ _ _) (jZ (by decide) ?_));refine yX (v:=.str n) rfl (yX (v:=.tup (g.map qW)) rfl ?_);refine⟨g,pd,aa,tt,rr,A,τ,R,bs,ns,rfl,fun x hx=>⟨(B x hx).1.mono (by decide),(B x hx).2⟩,ae,hP,I,aq,fun C1 O q=>⟨y0 4 rfl,?_⟩⟩;have:=av C1 _ O (Wh.nums hR B) q;unfold VX Wt.pv at this;exact this
 |give k n ag ls =>
  obtain⟨h1,h2,B,ae,h5⟩:=ak;unfold Ln.pv;refine yX rX (vX (rQ _ _) (fX (by decide) (aQ ?_)));refine yX rX (vX (rQ _ _) (jZ (by decide) ?_));refine uQ (yX (v:=ag.pv) rfl ⟨ag,pd,aa,tt,rr,A,τ,R,bs,ns,rfl,B.mono (by decide),hP,I,aq,fun C1 O q=>?_⟩);have w1:Wh A bs R (ag.asks A τ) (ag.rds A τ R):=Wh.rk hR B;have a9:1+Ln.tws ls<=400:=ay;refine yX (v:=.str n) rfl (yX (v:=.tup (Ln.pvs ls)) rfl ⟨by decide,fun sn ar=>?_⟩)
  refine Jq (Q:=fun v C'=>5<=sizeLine/\Q (.tup [.str "give",sG sp,.str n,.int (ag.val A τ),v]) C') ae (by lia) (by lia) (hP.ex q O) I w1.v (fun C2 ah Z w2 D=>⟨by decide,?_⟩) sn ar;have:=av C2 ah Z (w1.trans w2) (q.trans D);unfold VX Wt.pv at this;exact this
 |plain k aw ss hs ls =>
  obtain⟨h1,h2,B,ae,h5⟩:=ak;unfold Ln.pv;refine yX rX (vX (rQ _ _) (fX (by decide) (aQ ?_)));refine yX rX (vX (rQ _ _) (fX (by decide) (aQ ?_)))
  try dsimp only
  refine uQ ⟨by decide,fun h hh=>?_⟩;have hE:=hP.e;have aj:h≠rr:=fun z=>by rw[z,hE.hr] at hh;cases hh
  generalize a8:PV.tup [PV.str "plain",xU k,PV.str aw,PV.tup (List.map qW ss),PV.tup (List.map Hd.pv hs),PV.tup (Ln.pvs ls)]=lp
  have ai:∀(i:Int)(v:PV)(C':CH)(Q':K1),atI [PV.str "plain",xU k,PV.str aw,PV.tup (List.map qW ss),PV.tup (List.map Hd.pv hs),PV.tup (Ln.pvs ls)] i=some v->Q' v C'->cIx lp (.int i) C' Q':=by
   intro i v C' Q' e h;rw[<- a8];exact yX e h
  refine qX (fun a3 C'=>∃(x6 x7 x8 x9 ab:Option PV),a3=[some lp,some (sG sp),some (.ref pd),some (.ref tt),none,some (.ref h),x6,x7,x8,x9,ab,none]/\C' h=some (.lst ((rZ A τ hs).map HdV.pv))/\C' rr=some (.dT (mZ A τ hs R))/\ExS [rr] C C') (fun L hL=>?_) ?_
  .refine Y2 (ai 4 (.tup (hs.map Hd.pv)) _ _ rfl ?_)
   refine lK (fun zs ρ C'=>∃(ds U:List Hd)(x6 x7 x8 x9 ab:Option PV),hs=ds++U/\zs=U.map Hd.pv/\ρ=[some lp,some (sG sp),some (.ref pd),some (.ref tt),none,some (.ref h),x6,x7,x8,x9,ab,none]/\C' h=some (.lst ((rZ A τ ds).map HdV.pv))/\C' rr=some (.dT (mZ A τ ds R))/\ExS [rr] C C') ?_ ?_ _ _ _ ⟨[],hs,_,_,_,_,_,rfl,rfl,rfl,jQ,by rw[wQ (Ne.symm aj)];exact hE.hr,ExS.refl.put hh _⟩
   .rintro z zs ρ C1 ⟨ds,U,x6,x7,x8,x9,ab,e,J,rfl,mh,O,q⟩ L1 a4
    cases U with
    |nil=>cases J
    |cons u U =>
     obtain⟨rfl,rfl⟩:=Bn J;have hu:u∈hs:=by rw[e];exact AR _ AF
     have au:=B.1 u hu;have a7:ds.length < 5:=by have:=Bk List.length e;rw[AN,AV] at this;have:=B.2;lia
     have R1:RdOk bs (mZ A τ ds R):=zV (tZ I.a) (fun x hx=>B.1 x (by rw[e];exact Ao _ hx)) aq;refine⟨rfl,uM (uM (uM (uM (Gd ?_))))⟩;refine uQ (xE (fun zs ao C'=>∃cs vs:List (Str×Str×Rk),u.ch=cs++vs/\zs=vs.map Gw/\ao=(rD A τ cs).map ZU/\C' h=some (.lst ((rZ A τ ds).map HdV.pv))/\C' rr=some (.dT (lB A τ cs (mZ A τ ds R)))/\ExS [rr] C1 C') ?_ ?_ _ _ _ ⟨[],u.ch,rfl,rfl,rfl,mh,O,ExS.refl⟩)
     .rintro z zs ao C2 ⟨cs,vs,Y,J,rfl,af,Z,D⟩
      cases vs with
      |nil=>cases J
      |cons v vs =>
       obtain⟨rfl,rfl⟩:=Bn J;refine⟨[.str v.1,.str v.2.1,v.2.2.pv],rfl,rfl,fun L2 a5=>?_⟩;have a6:cs.length < 5:=by have:=Bk List.length Y;rw[AN,AV] at this;have:=au.1;lia
       refine⟨v.2.2,pd,aa,tt,rr,A,τ,_,bs,ns,rfl,(au.c v (by rw[Y];exact AR _ AF)).mono (by decide),hP.ex (q.trans D) Z,I,nD (tZ I.a) (fun x hx=>au.c x (by rw[Y];exact Ao _ hx)) R1,fun C3 m3 e3=>⟨y0 3 rfl,a5 _ _ ⟨?_,cs++[v],vs,by rw[Af];exact Y,rfl,?_,e3 _ _ (fun z=>aj (AE.1 z)) af,?_,D.trans e3⟩⟩⟩
       .rw [AB]
        delta rD
        rw[AB];exact AQ a6 (by decide)
       .unfold rD
        rw[Ac,Ac]
        rfl
       .rw [m3]
        unfold lB;rw[BW]
        rfl
     .rintro ao C2 ⟨cs,vs,Y,J,rfl,af,Z,D⟩ p hp
      cases vs with
      |cons v vs=>cases J
      |nil =>
       rw[Ah] at Y;have az:p≠h:=fun z=>by subst z;rw[af] at hp;cases hp
       have a0:p≠rr:=fun z=>by subst z;rw[Z] at hp;cases hp
       refine⟨yV (xs:=(rZ A τ ds).map HdV.pv) (by rw[wQ (Ne.symm az)];exact af),lJ jQ ⟨y0 4 rfl,?_⟩⟩;refine zH (xs:=(rZ A τ ds).map HdV.pv) (by rw[wQ (Ne.symm az)];exact af) (by unfold rZ;rw[AB,AB];exact AQ a7 (by decide)) ?_;refine a4 _ _ ⟨ds++[u],U,_,_,_,_,_,by rw[Af];exact e,rfl,rfl,?_,?_,?_⟩
       .rw [jQ,<- Y]
        unfold rZ;rw[Ac,Ac]
        rfl
       .rw [wQ (Ne.symm aj),wQ (Ne.symm a0),Z,<- Y]
        unfold mZ;rw[BW]
        rfl
       .have x2:ExS [rr] C C2:=q.trans D
        exact((x2.put (x2.none (fun z=>a0 (AE.1 z)) hp) _).put hh _)
   .rintro ρ C1 ⟨ds,U,x6,x7,x8,x9,ab,e,J,rfl,mh,O,q⟩
    cases U with
    |cons u U=>cases J
    |nil =>
     rw[Ah] at e;subst e;exact hL _ _ ⟨_,_,_,_,_,rfl,mh,O,q⟩
  rintro a3 C1 ⟨x6,x7,x8,x9,ab,rfl,mh,O,q⟩;have w1:Wh A bs R (zP A τ hs) (mZ A τ hs R):=⟨zV eN B.1 hR,fun k=>rO hs R⟩;have a9:1+Ln.tws ls<=400:=ay;have P1:=hP.ex q O;refine uQ (ai 5 (.tup (Ln.pvs ls)) _ _ rfl ⟨y0 0 rfl,fun sn ar=>Jq ae (by lia) (by lia) P1 I w1.v (fun C2 ah Z w2 D=>?_) sn ar⟩);have ba:=w1.trans w2;refine ai 2 (.str aw) _ _ rfl (ai 3 (.tup (ss.map qW)) _ _ rfl ⟨ss,pd,aa,tt,rr,A,τ,_,bs,ns,rfl,h2.1,h2.2,P1.ex D Z,I,w2.v.rd I.a,fun C3 m3 e3=>?_⟩)
  have w3:Wh A bs ah (eU A τ ss) (gZ A τ ss ah):=Wh.nums w2.v h2.1;have nS:h∉[rr]:=fun z=>aj (AE.1 z);refine lJ (e3 _ _ nS (D _ _ nS mh)) ⟨y0 6 rfl,?_⟩
  have:=av C3 _ m3 ((ba.trans w3).congr fun k=>by
   show k∈(zP A τ hs++rK A ls τ)++eU A τ ss↔k∈eU A τ ss++(zP A τ hs++rK A ls τ)
   rw[AS,AS (s:=eU A τ ss),or_comm]) ((q.trans D).trans e3)
  unfold VX Wt.pv at this;exact this
end
def SN.add(h:SN N ks)k:SN (fV N k) (ks++[k]):=fun j=>by
 rw[pU]
 have e:bI j (ks++[k])=bI j ks+if k=j then 1 else 0:=by
  delta bI
  rw[List.countP_append,List.countP_singleton]
  congr 1
  by_cases z:k=j
  .lia
  .lia
 have h1:=h j
 by_cases z:j=k
 .lia
 .lia
theorem JQ:∀ks,zG (ks.map zK)=some ks
 |[]=>rfl
 |k::ks=>by
  show(match kW (zK k),zG (ks.map zK) with | some k,some ks=>some (k::ks) | _,_=>none)=_;rw[xW,JQ ks]
structure WI(C0 C:CH)(pd aa tt rr sn rv:Addr)(A:Rds)(τ:Tns)(bs:List Str)(R0 R:Rds)(L:List (List Key))(N:Tns)(ks:List Key)(F:List Wt):Prop where
 m:C rv=some (.lst (Wt.pvs F))
 f:C0 rv=none
 nr:rv≠rr
 ns:rv≠sn
 p:Pad C pd aa tt rr A τ R
 w:Wh A bs R0 L R
 s:C sn=some (.lst (ks.map zK))
 c:SN N ks
 x:ExS [rr,sn] C0 C
 sp:sn≠pd
 np:rv≠pd
section
variable {C0 C C' C1:CH}{pd aa tt rr sn rv:Addr}{A:Rds}{τ:Tns}{bs:List Str}{R0 R R':Rds}{L M:List (List Key)}{N N':Tns}{ks ks':List Key}{F G:List Wt}
def WI.sr(h:WI C0 C pd aa tt rr sn rv A τ bs R0 R L N ks F):sn≠rr:=fun z=>by have:=h.s;rw[z,h.p.e.hr] at this;cases this
def exS_12(e:ExS [r] C C'):ExS [r,s] C C':=fun b o n h=>e b o (fun z=>n ((AE.1 z)▸AF)) h
def n12{s:Addr}(h1:b≠r)(h2:b≠s):b∉[r,s] :=by grind
def WI.rd(h:WI C0 C pd aa tt rr sn rv A τ bs R0 R L N ks F)(e:ExS [rr] C C')(m:C' rr=some (.dT R'))(w:Wh A bs R M R'):WI C0 C' pd aa tt rr sn rv A τ bs R0 R' (L++M) N ks F :=
 ⟨e _ _ (fun z=>h.nr (AE.1 z)) h.m,h.f,h.nr,h.ns,h.p.ex e m,h.w.trans w,e _ _ (fun z=>h.sr (AE.1 z)) h.s,h.c,h.x.trans (exS_12 e),h.sp,h.np⟩
def Pad.ex2(h:Pad C pd aa tt rr A τ R)(s:C sn=some (.lst xs))(n:sn≠pd)(x:ExS [rr,sn] C C')(m:C' rr=some (.dT R')):Pad C' pd aa tt rr A τ R' :=
 ⟨⟨x _ _ (n12 h.e.ne fun z=>by have:=h.e.ha;rw[z,s] at this;cases this) h.e.ha,x _ _ (n12 h.e.nt fun z=>by have:=h.e.ht;rw[z,s] at this;cases this) h.e.ht,m,h.e.ne⟩,x _ _ (n12 h.nr (Ne.symm n)) h.p⟩
def WI.call(h:WI C0 C pd aa tt rr sn rv A τ bs R0 R L N ks F)(x:ExS [rr,sn] C C1){p}(I:C1 p=some (.lst (Wt.pvs G)))(B:C1 rr=some (.dT R'))(w:Wh A bs R M R')(s:C1 sn=some (.lst (ks'.map zK)))(c:SN N' ks'):
  C1 rv=some (.lst (Wt.pvs F))/\∀p2,C1 p2=none->WI C0 (gQ C1 p2 (.lst (Wt.pvs F++Wt.pvs G))) pd aa tt rr sn p2 A τ bs R0 R' (L++M) N' ks' (F++G):=by
 refine⟨x _ _ (n12 h.nr h.ns) h.m,fun p2 D=>?_⟩;have g:∀b o,C1 b=some o->b≠p2:=fun b o e z=>by rw[z,D] at e;cases e
 have q:=h.p.ex2 h.s h.sp x B;refine⟨by rw[jQ,Wt.pvs_app],?_,Ne.symm (g _ _ B),Ne.symm (g _ _ s),⟨⟨?_,?_,?_,q.e.ne⟩,?_⟩,h.w.trans w,?_,c,(h.x.trans x).put ?_ _,h.sp,Ne.symm (g _ _ q.p)⟩
 .exact (h.x.trans x).none (n12 (Ne.symm (g _ _ B)) (Ne.symm (g _ _ s))) D
 .exact (wQ (g _ _ q.e.ha))▸q.e.ha
 .exact (wQ (g _ _ q.e.ht))▸q.e.ht
 .rwa [wQ (g _ _ B)]
 .exact (wQ (g _ _ q.p))▸q.p
 .rwa [wQ (g _ _ s)]
 .exact (h.x.trans x).none (n12 (Ne.symm (g _ _ B)) (Ne.symm (g _ _ s))) D
def WI.gr(h:WI C0 C pd aa tt rr sn rv A τ bs R0 R L N ks F)(g:Gr C C'):WI C0 C' pd aa tt rr sn rv A τ bs R0 R L N ks F :=
 ⟨g _ _ h.m,h.f,h.nr,h.ns,⟨⟨g _ _ h.p.e.ha,g _ _ h.p.e.ht,g _ _ h.p.e.hr,h.p.e.ne⟩,g _ _ h.p.p⟩,h.w,g _ _ h.s,h.c,fun b o n e=>g _ _ (h.x b o n e),h.sp,h.np⟩
def WI.seen(h:WI C0 C pd aa tt rr sn rv A τ bs R0 R L N ks F)k:WI C0 (gQ C sn (.lst (ks.map zK++[zK k]))) pd aa tt rr sn rv A τ bs R0 R L (fV N k) (ks++[k]) F:=by
 have x:ExS [rr,sn] C (gQ C sn (.lst (ks.map zK++[zK k]))):=ExS.refl.at (by simp) _;refine⟨x _ _ (n12 h.nr h.ns) h.m,h.f,h.nr,h.ns,h.p.ex2 h.s h.sp x ?_,h.w,?_,h.c.add k,h.x.trans x,h.sp,h.np⟩
 .exact (wQ (Ne.symm h.sr))▸h.p.e.hr
 .rw [jQ,Ac];rfl
def WI.app(h:WI C0 C pd aa tt rr sn rv A τ bs R0 R L N ks F)(w:Wt):WI C0 (gQ C rv (.lst (Wt.pvs F++[w.pv]))) pd aa tt rr sn rv A τ bs R0 R L N ks (F++[w]):=by
 have g:aa≠rv:=fun z=>by have:=h.p.e.ha;rw[z,h.m] at this;cases this
 have q:tt≠rv:=fun z=>by have:=h.p.e.ht;rw[z,h.m] at this;cases this
 refine⟨by rw[jQ,Wt.pvs_app];rfl,h.f,h.nr,h.ns,⟨⟨?_,?_,?_,h.p.e.ne⟩,?_⟩,h.w,?_,h.c,h.x.put h.f _,h.sp,h.np⟩
 .exact (wQ g)▸h.p.e.ha
 .exact (wQ q)▸h.p.e.ht
 .exact (wQ (Ne.symm h.nr))▸h.p.e.hr
 .exact (wQ (Ne.symm h.np))▸h.p.p
 .exact (wQ (Ne.symm h.ns))▸h.s
def WI.congr(h:WI C0 C pd aa tt rr sn rv A τ bs R0 R L N ks F)(g:L=M)(q:N=N')(B:F=G):WI C0 C pd aa tt rr sn rv A τ bs R0 R M N' ks G :=by grind
end
section
variable {W:Wd}{a:Adr}
def yO(T:Tx W a)(d r:Nat)(h4:4<=r)(sV:Ok W a r 32 U1 (ZN d))(GR:Ok W a r 31 U8 (gWn d)):
  Ok W a (r+1) 32 U1 (gWs d):=by
 have S:=(T.F 32 rfl).s;have yJ:=(zD T 2).mono (show 3<=r by lia)
 refine(T.F 32 rfl).ok (fun ts C R h=>?_) fun ct A cz s H E hr=>⟨_,(xQ (cs1 4 S.nd (mX pZ))
  (xQ (sH PassesOwn.never rfl (cv 0) (cg1 5 S.nd) (kQ (sQ (ct2 bX iQ (cx (cv 5) zQ) vQ) (xQ (cs1 6 S.nd (cf (T.F 29 rfl) yJ hr (qQ (cx (cv 5) zQ) (qQ (cv 1) (ca1 (cv 2))))))
  (kQ (cs1 4 S.nd (eQ uX gX (cv 4) (cf (T.F 32 rfl) sV hr (qQ (sD (ct2 tU bW (cv 6) zQ) (cx (cv 5) zQ) (cx (cv 5) zQ)) (qQ (cv 1) (qQ (cv 2) (ca1 (cv 3)))))))))) (kQ (sQ (ct2 bX iQ (cx (cv 5) zQ) vQ) (xQ (cs1 6 S.nd (cf (T.F 29 rfl) yJ hr (qQ (cx (cv 5) zQ) (qQ (cv 1) (ca1 (cv 2))))))
  (kQ (gM PassesOwn.never rfl rfl T.pW (ca1 (cQ (iW rfl) fM rfl T.gT rfl (qQ zQ (ca1 (cQ (pM rfl) tH rfl T.Jh rfl (qQ zQ (ca1 (cv 6)))))))) (cg1 7 S.nd) (xQ (cs1 8 S.nd (lZ oR uE rfl T.yN rfl (ca1 (cv 2))))
  (xQ (cW (qZ hr) (cv 8) (cx (cv 5) zQ) (cv 7))
  (kQ (cs1 4 S.nd (eQ uX gX (cv 4) (cf (T.F 32 rfl) sV hr (qQ (cx (cv 5) zQ) (qQ (cv 1) (qQ (cv 8) (ca1 (cv 3)))))))))))))) (xQ (cs1 9 S.nd hV)
  (xQ (sQ (ct2 kA gR (cx (cv 5) zQ) hV) (kQ (cs1 9 S.nd (cf (T.F 29 rfl) yJ hr (qQ (cx (cv 5) zQ) (qQ (cv 1) (ca1 (cv 2))))))) pQ)
  (xQ (cs1 10 S.nd (lQ (qQ (cv 9) (ca1 (kE A1 PySem.F.slot_list_count PySem.F.type_list_count Yf Vq (cv 3) (ca1 (cv 9)))))))
  (xQ (aZ (cap (cv 3) (cv 9)))
  (kQ (aZ (cap (cv 4) (cf (T.F 31 rfl) GR hr (qQ (cv 5) (qQ (cv 10) (qQ (cv 1) (ca1 (cv 2))))))))))))))))))
  (kQ (yQ (cv 4))))),?_⟩
 .obtain ⟨ls,pd,aa,tt,rr,sn,A,τ,R,N,ks,bs,rs,ns,rfl,_⟩:=h;rfl
 rintro ts C Q ⟨ls,pd,aa,tt,rr,sn,A,τ,R,N,ks,bs,rs,ns,rfl,cb,hF,hN,b0,Z,hs,bc,Y,hR,hC,cg⟩;refine uQ ⟨by decide,fun au a6=>?_⟩
 have h0:WI C (gQ C au (.lst [])) pd aa tt rr sn au A τ bs R R [] N ks []:=by
  have hn:∀b o,C b=some o->b≠au:=fun b o e z=>by rw[z,a6] at e;cases e
  refine⟨jQ,a6,Ne.symm (hn _ _ Z.e.hr),Ne.symm (hn _ _ hs),⟨⟨?_,?_,?_,Z.e.ne⟩,?_⟩,Wh.refl hR,?_,hC,ExS.refl.put a6 _,bc,Ne.symm (hn _ _ Z.p)⟩
  .rw [wQ (hn _ _ Z.e.ha)];exact Z.e.ha
  .rw [wQ (hn _ _ Z.e.ht)];exact Z.e.ht
  .rw [wQ (hn _ _ Z.e.hr)];exact Z.e.hr
  .rw [wQ (hn _ _ Z.p)];exact Z.p
  .rw [wQ (hn _ _ hs)];exact hs
 generalize gQ C au (.lst [])=Ca at h0 ⊢;refine qX (fun av C'=>∃(rv:Addr)(R':Rds)(ks':List Key)(x5 x6 x7 x8 x9 ai:Option PV),av=[some (.tup (Ln.pvs ls)),some (.ref pd),some (.ref tt),some (.ref sn),some (.ref rv),x5,x6,x7,x8,x9,ai]/\WI C C' pd aa tt rr sn rv A τ bs R R' (rK A ls τ) (fW A ls τ N) ks' (vV A ls τ N)/\ks'.length<=ks.length+Ln.tws ls) (fun L hL=>?_) ?_
 .refine Y1 rfl (lK (fun zs ρ C'=>∃(ds ae:List Ln)(rv:Addr)(R':Rds)(ks':List Key)(x5 x6 x7 x8 x9 ai:Option PV),ls=ds++ae/\zs=Ln.pvs ae/\ρ=[some (.tup (Ln.pvs ls)),some (.ref pd),some (.ref tt),some (.ref sn),some (.ref rv),x5,x6,x7,x8,x9,ai]/\WI C C' pd aa tt rr sn rv A τ bs R R' (rK A ds τ) (fW A ds τ N) ks' (vV A ds τ N)/\ks'.length<=ks.length+Ln.tws ds) ?_ ?_ _ _ _ ⟨[],ls,au,R,ks,_,_,_,_,_,_,rfl,rfl,rfl,h0.congr (by rw[rK]) rfl rfl,BS _ _⟩)
  .rintro z zs ρ C1 ⟨ds,ae,rv,R1,ab,x5,x6,x7,x8,x9,ai,e,hz,rfl,B,ay⟩ L1 ba
   cases ae with
   |nil=>cases hz
   |cons u ae =>
   obtain⟨rfl,rfl⟩:=Bn hz;have hu:=cb u (e▸AR _ AF);have cy:Ln.tws ls=Ln.tws ds+(u.tw+Ln.tws ae):=by rw[e,Ln.tws_app];rfl
   have b5:=Js A ds τ N
   have J:∀C' ak R' ks' y6 y7 y8 y9 bg,WI C C' pd aa tt rr sn ak A τ bs R R' (rK A ds τ++lnA A u τ) (Xz A u τ (fW A ds τ N)) ks' (vV A ds τ N++QE A u τ (fW A ds τ N))->ks'.length<=ab.length+u.tw->L1 [some (.tup (Ln.pvs ls)),some (.ref pd),some (.ref tt),some (.ref sn),some (.ref ak),some u.pv,y6,y7,y8,y9,bg] C':=by
    intro C' ak R' ks' y6 y7 y8 y9 bg w hk;refine ba _ _ ⟨ds++[u],ae,ak,R',ks',_,_,_,_,_,_,by rw[Af];exact e,rfl,rfl,w.congr (by rw[Q5,rK,rK,Ah]) (Gs A ds u τ N).symm (Wc A ds u τ N).symm,?_⟩;rw[Ln.tws_app];show _<=_+(_+(u.tw+0))
    lia
   clear ba;generalize vV A ds τ N=F1 at B b5 J;generalize fW A ds τ N=U at B J;generalize rK A ds τ=a9 at B J;have a3:=B.w.v.rd Y.a
   by_cases ah:Xa u=true
   .obtain ⟨wd,rest,ep,n1,n2⟩:=th_pv ah
    refine tJ ep rX (vX (rQ _ _) (fX (by rw[n1];rfl) ?_));refine tJ ep rX (vX (rQ _ _) (fX (by rw[n2];rfl) ?_));obtain⟨er,ec,el⟩:=row1_th (A:=A) (τ:=τ) (N:=U) ah;rw[er,ec,el] at J;have a5:=th_key ah hu;refine uQ (c_i ?_);refine qX (fun av C'=>∃aj,av=[some (.tup (Ln.pvs ls)),some (.ref pd),some (.ref tt),some (.ref sn),some (.ref rv),some u.pv,x6,x7,x8,some (zK (jW A τ (nK u))),ai]/\WI C C' pd aa tt rr sn rv A τ bs R aj (a9++ZC A τ (nK u)) U ab F1) (fun L2 aw=>?_) ?_
    .refine tJ ep Kr ?_
     cases ho:nK u with
     |none =>
      rw[ho] at aw;exact aw _ _ ⟨R1,rfl,B.congr (Ah _).symm rfl rfl⟩
     |some q =>
      rw[ho] at a5 aw ep;refine c_i (pB (show(!zB (xU (some q)))=true by cases q<;>rfl) (tJ ep Kr ⟨q,pd,aa,tt,rr,A,τ,R1,bs,ns,rfl,Rk.ok.mono a5 (by decide),B.p,Y,a3,fun C2 m2 e2=>?_⟩));exact aw _ _ ⟨_,rfl,B.rd e2 m2 (Wh.rk B.w.v a5)⟩
    rintro av C2 ⟨aj,rfl,D⟩;refine uQ ⟨yV D.s,count_s D.s (xW _) (JQ _) ⟨y0 2 rfl,?_⟩⟩;have c1:1<=u.tw:=by cases u<;>first | (simp[Ln.tw];done) | cases ah
    refine oX ⟨yV D.s,zH D.s (by rw[AB];exact AQ (show ab.length < 2000 by lia) (by decide)) ?_⟩;have O:=D.seen (jW A τ (nK u));refine⟨yV O.m,⟨u,cV U (jW A τ (nK u)),pd,aa,tt,rr,A,τ,aj,bs,rs,ns,?_,ah,hu,by lia,b0,O.p,Y,O.w.v,fun C4 R4 m4 wh x4=>?_⟩⟩
    .show _=[u.pv,PV.tup [zK _,.int (lD U (jW A τ (nK u)))],_,_]
     rw[D.c]
    have w4:=O.rd x4 m4 wh;refine zH w4.m (by rw[Wt.pvs_len];exact Aj (show F1.length<=400 by lia) (by decide)) ?_;exact J _ _ _ _ _ _ _ _ _ ((w4.app _).congr (Af _ _ _) rfl rfl) (by rw[AN,Al];lia)
   .have a7:∀(l1:List Ln)(af:Tns)(a0:Addr)(az:List Str)(aj:Rds)(C2:CH)(a8:Addr)(L2:List (List Key))(N2:Tns)(ar:List Key)(F2:List Wt)(Q':K1),(∃d',d=d'+1/\(∀x∈l1,LnOk bs rs d' az x)/\af.length+d'<=50)->Ln.tws l1<=400->ar.length+Ln.tws l1<=1000->F2.length<=400->WI C C2 pd aa tt rr sn a8 A τ bs R aj L2 N2 ar F2->C2 a0=some (.dK af)->nV A af bs az ->
      (∀I ao R3 ag,WI C I pd aa tt rr sn ao A τ bs R R3 (L2++rK A l1 af) (fW A l1 af N2) ag (F2++vV A l1 af N2)->ag.length<=ar.length+Ln.tws l1->Q' (.ref ao) I) ->
      ZN d [.tup (Ln.pvs l1),.ref pd,.ref a0,.ref sn] C2 fun v I=>gH (.ref a8) v I Q':=by
     rintro l1 af a0 az aj C2 a8 L2 N2 ar F2 Q' ⟨d',rfl,o1,b3⟩ b1 b2 cq D b7 bq hq;refine⟨d',rfl,l1,pd,aa,a0,rr,sn,A,af,aj,N2,ar,bs,rs,az,rfl,o1,b1,b2,b3,⟨⟨D.p.e.ha,b7,D.p.e.hr,D.p.e.ne⟩,D.p.p⟩,D.s,bc,bq,D.w.v,D.c,fun I p R3 ag m1 m2 m3 wh b6 hc hk x3=>?_⟩;obtain⟨mr,b9⟩:=D.call x3 m1 m3 wh b6 hc;have:=Js A l1 af N2;exact jH mr m1 (by rw[Wt.pvs_len,Wt.pvs_len];exact AW (show F2.length+(vV A l1 af N2).length<=800 by lia) (by decide)) fun p2 bz=>hq _ p2 R3 ag (b9 p2 bz) hk
    cases u with
    |plain k c0 s hs ls=>exact absurd rfl ah
    |part k n g=>exact absurd rfl ah
    |give k n r ls=>exact absurd rfl ah
    |when q l1 l2 =>
     cases d with
     |zero=>exact hu.elim
     |succ d' =>
     obtain⟨aq,⟨o1,_⟩,o2,_⟩:=hu;have ep:(Ln.when q l1 l2).pv=.tup [.str "when",q.pv,.tup (Ln.pvs l1),.tup (Ln.pvs l2)]:=by rw[Ln.pv]
     have bl:(Ln.when q l1 l2).tw=Ln.tws l1+Ln.tws l2:=by rw[Ln.tw]
     refine tJ ep rX (vX (rQ _ _) (jZ rfl ?_));refine uQ (tJ ep (v:=q.pv) rfl ⟨q,pd,aa,tt,rr,A,τ,R1,bs,ns,rfl,aq.mono (by decide),B.p,Y,a3,fun C2 m2 e2=>?_⟩);have D:=B.rd e2 m2 (Wh.rk B.w.v aq);obtain⟨er,ec⟩:=KD (A:=A) (τ:=τ) (r:=q) (l1:=l1) (l2:=l2) (N:=U);rw[er,ec,lnA] at J;refine vX (kX _ _) ?_
     by_cases h0:q.val A τ=0
     .rw [AZ h0,AZ h0,AZ h0] at J
      refine fX (by rw[Ad h0];rfl) (tJ ep rfl ?_);exact a7 l2 τ tt ns _ C2 rv _ U ab F1 _ ⟨d',rfl,o2,by lia⟩ (by lia) (by lia) (by lia) D D.p.e.ht Y fun I ao R3 ag O a4=>J _ _ _ _ _ _ _ _ _ (O.congr (Af _ _ _) rfl rfl) (by lia)
     .rw [AX h0,AX h0,AX h0] at J
      refine jZ (by rw[AM h0];rfl) (tJ ep rfl ?_);exact a7 l1 τ tt ns _ C2 rv _ U ab F1 _ ⟨d',rfl,o1,by lia⟩ (by lia) (by lia) (by lia) D D.p.e.ht Y fun I ao R3 ag O a4=>J _ _ _ _ _ _ _ _ _ (O.congr (Af _ _ _) rfl rfl) (by lia)
    |each n q l1 =>
     cases d with
     |zero=>exact hu.elim
     |succ d' =>
     obtain⟨aq,o1,_⟩:=hu;have ep:(Ln.each n q l1).pv=.tup [.str "each",.str n,q.pv,.tup (Ln.pvs l1)]:=by rw[Ln.pv]
     have bl:(Ln.each n q l1).tw=8 * Ln.tws l1:=by rw[Ln.tw]
     have ax:nV A τ bs []:=⟨Y.a,Y.t,(fun _ z=>nomatch z),Y.b⟩;refine tJ ep rX (vX (rQ _ _) (fX rfl (tJ ep rX (vX (rQ _ _) (jZ rfl ?_)))));refine uQ (tJ ep (v:=q.pv) rfl ⟨q,pd,aa,tt,rr,A,τ,R1,bs,[],rfl,aq.mono (by decide),B.p,ax,a3,fun C2 m2 e2=>?_⟩);have D:=B.rd e2 m2 (Wh.rk B.w.v aq);obtain⟨er,ec⟩:=KF (A:=A) (τ:=τ) (n:=n) (r:=q) (ls:=l1) (N:=U);rw[er,ec,lnA] at J;refine Q0 (bC ?_)
     have bh:=zY ax.a ax.t ax.h aq;unfold Bd at bh;have bj:(if (if q.val A τ < 8 then q.val A τ else 8) > 0 then (if q.val A τ < 8 then q.val A τ else 8) else 0).toNat=nB (q.val A τ):=by delta nB;split<;>split<;>lia
     refine⟨by split<;>split<;>lia,by split<;>split<;>lia,?_⟩;rw[bj];generalize bt:nB (q.val A τ)=n8 at J;have bx:n8<=8:=by rw[<- bt];exact aD _
     refine lK (fun zs ρ C'=>∃(j:Nat)(ak:Addr)(R':Rds)(ks':List Key)(y7 y8:Option PV),j<=n8/\zs=((List.range n8).drop j).map (fun k:Nat=>PV.int (k:Nat))/\ρ=[some (.tup (Ln.pvs ls)),some (.ref pd),some (.ref tt),some (.ref sn),some (.ref ak),some (Ln.each n q l1).pv,some (.int (q.val A τ)),y7,y8,x9,ai]/\WI C C' pd aa tt rr sn ak A τ bs R R' ((a9++q.asks A τ)++(List.range j).flatMap fun k=>rK A l1 (dZ τ (.inr n) (.int (k:Nat)))) (vK A n l1 τ U j).2.1 ks' (F1++(vK A n l1 τ U j).1)/\ks'.length<=ab.length+j * Ln.tws l1) ?_ ?_ _ _ _ ⟨0,rv,_,ab,_,_,AY _,rfl,rfl,D.congr (Ah _).symm rfl (Ah _).symm,by lia⟩
     .rintro z zs ρ I ⟨j,ao,R3,ag,y7,y8,hj,hz,rfl,O,a4⟩ L3 bp
      obtain⟨bw,rfl,rfl⟩:=aY hz
      have bb:j * Ln.tws l1+Ln.tws l1<=8 * Ln.tws l1:=by
       have:(j+1) * Ln.tws l1<=8 * Ln.tws l1:=Bl _ (by lia);rw[Nat.add_mul,Nat.one_mul] at this;exact this
      have el:=Gb A n l1 τ U j;refine uQ (J8 O.p.e.ht fun ia bu=>oX (tJ ep (v:=.str n) rfl (tG (k:=.inr n) jQ rfl (by lia) ?_)))
      have g4:Gr I (gQ (gQ I ia (.dK τ)) ia (.dK (dZ τ (.inr n) (.int (j:Nat))))):=fun b o e=>by
       have bf:b≠ia:=fun z=>by rw[z,bu] at e;cases e
       rw[wQ bf,wQ bf];exact e
      have m4:gQ (gQ I ia (.dK τ)) ia (.dK (dZ τ (.inr n) (.int (j:Nat)))) ia=some (.dK (dZ τ (.inr n) (.int (j:Nat)))):=jQ;generalize gQ (gQ I ia (.dK τ)) ia (.dK (dZ τ (.inr n) (.int (j:Nat))))=C4 at g4 m4 ⊢;have cp:TBd (dZ τ (.inr n) (.int (j:Nat))):=Y.t.put _ (by delta Bd;lia)
      have br:nV A (dZ τ (.inr n) (.int (j:Nat))) bs [n]:=⟨Y.a,cp,fun m bb=>by
       cases AE.1 bb
       rw[mH,AZ rfl];rfl,Y.b⟩
      have cw:(dZ τ (.inr n) (.int (j:Nat))).length<=τ.length+1:=uB _ _ _;refine tJ ep (v:=.tup (Ln.pvs l1)) rfl ?_;refine a7 l1 _ ia [n] _ C4 ao _ _ ag _ _ ⟨d',rfl,o1,by lia⟩ (by lia) (by lia) (by rw[AN];lia) (O.gr g4) m4 br fun C5 cj R5 b4 w5 cu=>?_;obtain⟨ck,cn⟩:=Vi A n l1 τ U j;refine bp _ _ ⟨j+1,cj,R5,b4,_,_,bw,rfl,rfl,w5.congr ?_ cn.symm ?_,by rw[Nat.add_mul];lia⟩
      .rw [Af,DV,List.flatMap_append,List.flatMap_singleton]
      .rw [ck,Af]
     .rintro ρ I ⟨j,ao,R3,ag,y7,y8,hj,hz,rfl,O,a4⟩
      have ej:j=n8:=by
       rcases Cs j n8 with h | h
       .rw [A4 (by rw[Ak];exact h)] at hz
        cases hz
       .lia
      subst ej
      exact J _ _ _ _ _ _ _ _ _ (O.congr (Af _ _ _) rfl rfl) (by
       have:j * Ln.tws l1<=8 * Ln.tws l1:=Bl _ bx
       lia)
  .rintro ρ C1 ⟨ds,ae,rv,R1,ab,x5,x6,x7,x8,x9,ai,e,hz,rfl,B,ay⟩
   cases ae with
   |cons u ae=>cases hz
   |nil =>
    rw[Ah] at e;subst e;exact hL _ _ ⟨_,_,_,_,_,_,_,_,_,rfl,B,ay⟩
 rintro av C1 ⟨rv,R1,ab,x5,x6,x7,x8,x9,ai,rfl,B,ay⟩;exact cg C1 rv R1 ab B.m B.f B.p.e.hr B.w B.s B.c ay B.x
def ok_lws(T:Tx W a)d:Ok W a (2 * d+6) 32 U1 (gWs d):=by
 induction d with
 |zero =>
  have n:Ok W a 5 32 U1 (ZN 0):=oJ fun ts C Q g=>zX g fun d' e _=> by lia
  exact yO T 0 5 (by decide) n (oJ fun ts C Q z=>by obtain⟨l,sp,pd,aa,tt,rr,A,τ,R,bs,rs,ns,_,_,h,_⟩:=z;exact h)
 |succ d I =>
  have B:ZN (d+1)=gWs d:=by
   funext ts C Q
   refine propext ⟨fun g=>zX g fun D z h=> ?_,fun h=>⟨d,rfl,h⟩⟩;cases Ay z;exact h
  have q:Ok W a (2 * d+6) 32 U1 (ZN (d+1)):=by rwa [B]
  exact yO T (d+1) (2 * d+6+1) (BZ _ _) (q.mono (Bm _)) (W4 T (d+1) (2 * d+6) (BZ _ _) q)
end
def rd_pv(h:RdOk bs R)(m:g∈R):aU (sG g.1)=some g.1/\PV.tup [sG g.1,g.2]=oZ (rdC g):=by
 refine mG (h.ks g.1 (AU.2 ⟨g,m,rfl⟩)) fun s n e _=>zX (h.vs g m) fun i q _=>?_;obtain⟨k,v⟩:=g;cases e;cases q;exact⟨rfl,rfl⟩
def compT_c(h:q g C fun x C1=>match x with
  |.ref d=>match C1 d with
   |some (.dT kvs)=>cJ t c g (fun v C2=>C2 d=some (.fT kvs)/\Q v (gQ C2 d (.dT kvs))) (kvs.map fun p=>sG p.1) [] (gQ C1 d (.fT kvs))
   |_=>False
  |_=>False):Qd q t c g C Q:=by
 delta Qd
 exact h
def tiy_s{kvs:Rds}(m:C p=some (.fT kvs))(g:aU y=some k)(B:xV kvs k=some v)(q:Q v C):cTIy (.ref p) y C Q:=by
 delta cTIy
 dsimp only;rw[m,g];show(match xV kvs k with | some v=>Q v C | none=>False)
 rwa [B]
def KA(m:C p=some (.lst (cs.map oZ)))(h:cs.length < 64)(q:∀g,C g=none->Q (.ref g) (gQ C g (.lst ((vH cs).map oZ)))):jL [.ref p] C Q:=by
 delta jL
 dsimp only;rw[m];dsimp only;rw[Qt];exact⟨h,q⟩
def pcRd_rv{cap}(g:PtOk rs cap x):Rv A (x.first.map (·.1)) (gB A x):=qJ eN g.wk (wJ eN g.ls Rv.nil)
def KH{cap}(g:PtOk rs cap x)(h:Wh A (x.first.map (·.1)) [] (rK A x.ls []++eU A [] x.works) R):vH (R.map rdC)=(bJ A x).reads:=by
 refine ordT_eq (h.v.perm (pcRd_rv g) fun k=>?_) h.v.nd2;rw[h.k,AS]
 delta gB
 rw[vD,rV,Bq]
section
variable {W:Wd}{a:Adr}
inductive YS(ts:List PV)(C:CH)(Q:K1):Prop
 |mk(x:Pt)(aa:Addr)(A:Rds)(rs:List Str)(cap:Nat)(z0:ts=[x.pv,.ref aa])(z1:PtOk rs cap x)(z2:C aa=some (.dT A))(z3:ABd A)(z4:∀C',Gr C C'->Q (bJ A x).pv C')
def sL(T:Tx W a):Ok W a 19 33 ["_law_part","_law_answers_here"] YS:=by
 have S:=(T.F 33 rfl).s;have sV:=ok_lws T 6;have yJ:=(zD T 1).mono (show 2<=18 by decide)
 refine(T.F 33 rfl).ok (fun ts C R h=>?_) fun bh A bp s H E hr=>⟨_,(xQ (cs1 2 S.nd (mX (qQ (cv 1) (ca1 mI))))
  (xQ (cs1 3 S.nd (ctp T.xX (cf (T.F 32 rfl) sV hr (qQ (cx (cv 0) zQ) (qQ (cv 2) (qQ mM (ca1 (mX pZ))))))))
  (xQ (cs1 4 S.nd (ctp T.xX (XB rfl (show(["_law_name","_law_rule","_law_part","_law_answers_here","_law_pad","_law_row","_law_works"]:List Str).Nodup by decide +kernel) (dD (N:=U10) (sc:=nX (top 43)) rfl rfl rfl (by decide +kernel)) (dU (cx (cv 0) zQ)) (fun _ _ _ _ _=>wK) (fun _ _ _ _ _=>(lQ (qQ (cv 0) (ca1 (cf (T.F 29 rfl) yJ hr (qQ (cv 1) (qQ (cv 4) (ca1 mM)))))))))))
  (kQ (yQ (lQ (qQ (ctp T.xX (cQ qH (XE (qI hr)) rfl T.pF rfl (ca1 (GD rfl (S.c (by decide +kernel)) (S.k rfl rfl rfl (by decide +kernel)) (cx (cv 2) zQ) (fun _ _ _ _ _=>wK) (fun _ _ _ _ _=>(lQ (qQ (cv 0) (ca1 (ce_tiy (qZ hr) (cx (cv 3) zQ) (cv 0) (fun _ _=>rfl)))))))))) (qQ (cv 3) (ca1 (cv 4)))))))))),?_⟩
 .obtain ⟨x,aa,A,rs,cap,rfl,_⟩:=h;rfl
 rintro ts C Q ⟨x,aa,A,rs,cap,rfl,B,ha,hA,bg⟩;have hS:nV A [] (x.first.map (·.1)) []:=⟨hA,(fun _ z=>nomatch z),(fun _ z=>nomatch z),by rw[AB];exact B.fl⟩
 apply uQ
 intro rr ab;have av:aa≠rr:=fun z=>by rw[z,ab] at ha;cases ha
 refine⟨y0 2 rfl,fun pd Z=>?_⟩;have O:pd≠rr:=fun z=>by subst z;rw[jQ] at Z;cases Z
 have g0:Gr C (gQ (gQ C rr (.dT [])) pd (.lst [.ref aa,.ref rr])):=(Gr.new ab _).trans (Gr.new Z _);have ar:gQ (gQ C rr (.dT [])) pd (.lst [.ref aa,.ref rr]) pd=some (.lst [.ref aa,.ref rr]):=jQ;have az:gQ (gQ C rr (.dT [])) pd (.lst [.ref aa,.ref rr]) rr=some (.dT []):=by rw[wQ (Ne.symm O)];exact jQ
 have bj:C pd=none:=by rw[wQ O] at Z;exact Z
 generalize gQ (gQ C rr (.dT [])) pd (.lst [.ref aa,.ref rr])=C0 at g0 ar az ⊢;refine uQ (yX (v:=.tup (Ln.pvs x.ls)) rfl ?_);intro tt bb;refine⟨by decide,fun sn ae=>?_⟩;have Y:Gr C0 (gQ (gQ C0 tt (.dK [])) sn (.lst [])):=(Gr.new bb _).trans (Gr.new ae _);have a5:tt≠sn:=fun z=>by subst z;rw[jQ] at ae;cases ae
 have a3:gQ (gQ C0 tt (.dK [])) sn (.lst []) tt=some (.dK []):=by rw[wQ a5];exact jQ
 have a0:gQ (gQ C0 tt (.dK [])) sn (.lst []) sn=some (.lst ((([]:List Key)).map zK)):=jQ;have aq:C0 sn=none:=by rw[wQ (Ne.symm a5)] at ae;exact ae
 have a4:sn≠pd:=fun z=>by rw[z,ar] at aq;cases aq
 generalize gQ (gQ C0 tt (.dK [])) sn (.lst [])=C1 at Y a3 a0 ⊢;have P1:Pad C1 pd aa tt rr A [] []:=⟨⟨Y _ _ (g0 _ _ ha),a3,Y _ _ az,av⟩,Y _ _ ar⟩;have bq:=B.tw;refine⟨x.ls,pd,aa,tt,rr,sn,A,[],[],[],[],x.first.map (·.1),rs,[],rfl,B.ls,by lia,by rw[BQ];lia,by decide,P1,a0,a4,hS,Rv.nil,SN.nil,fun C2 p aj bl m1 m2 m3 w2 _ _ _ x2=>?_⟩;refine lJ m1 ?_
 have ax:∀b o,C b=some o->C2 b=some o:=fun b o h=>x2 b o (fun z=>by
  rcases Ai.1 z with z | z
  .rw [z,ab] at h;cases h
  .have h:=g0 _ _ h;rw[AE.1 z,aq] at h;cases h) (Y _ _ (g0 _ _ h))
 have ay:C2 pd=some (.lst [.ref aa,.ref rr]):=x2 _ _ (n12 O (Ne.symm a4)) P1.p;refine uQ (yX (v:=.tup (x.works.map qW)) rfl ?_);have a8:=w2.v.rd hA;refine jE (τ:=[]) (A:=A) x.works hA B.wk B.wl a8 m3 (fun u R1 D L hu a7 ai e3 hL=>?_) fun D p3 ai e3 ao=>?_
 .intro t2 ah
  have bf:rr≠t2:=fun z=>by rw[<- z,ai] at ah;cases ah
  have a6:∀b o,b≠rr->C2 b=some o->gQ D t2 (.dK []) b=some o:=fun b o J h=>Gr.new ah _ _ _ (e3 b o (fun z=>J (AE.1 z)) h);have P3:Pad (gQ D t2 (.dK [])) pd aa t2 rr A [] R1:=⟨⟨a6 _ _ av (ax _ _ ha),jQ,by rw[wQ bf];exact ai,av⟩,a6 _ _ O ay⟩;refine⟨u.2,pd,aa,t2,rr,A,[],R1,_,[],rfl,(B.wk u hu).1,P3,hS,a7,fun I m4 e4=>⟨y0 2 rfl,hL I m4 fun b o J hb=>e4 b o J (Gr.new ah _ _ _ hb)⟩⟩
 refine lJ jQ ?_;have w3:Wh A (x.first.map (·.1)) [] (rK A x.ls []++eU A [] x.works) (gZ A [] x.works aj):=w2.trans (Wh.nums w2.v B.wk);have g4:Gr C (gQ D p3 (.lst ((vZ A [] x.works).map xJ))):=fun b o h=>Gr.new ao _ _ _ (e3 b o (fun z=>by rw[AE.1 z,ab] at h;cases h) (ax b o h));have m4:gQ D p3 (.lst ((vZ A [] x.works).map xJ)) rr=some (.dT (gZ A [] x.works aj)):=Gr.new ao _ _ _ ai
 have au:gQ D p3 (.lst ((vZ A [] x.works).map xJ)) pd=some (.lst [.ref aa,.ref rr]):=Gr.new ao _ _ _ (e3 _ _ (fun z=>O (AE.1 z)) ay);generalize gQ D p3 (.lst ((vZ A [] x.works).map xJ))=I at g4 m4 au ⊢;generalize gZ A [] x.works aj=g at w3 m4 ⊢;have af:=w3.v.rd hA;refine compT_c (gJ au (v:=.ref rr) rfl ?_)
 try dsimp only
 rw[m4];refine pG (fun zs ak C'=>C'=gQ I rr (.fT g)/\∃ds q:Rds,g=ds++q/\zs=q.map (fun p=>sG p.1)/\ak=(ds.map rdC).map oZ) ?_ ?_ _ _ _ ⟨rfl,[],g,rfl,rfl,rfl⟩
 .rintro z zs ak C5 ⟨rfl,ds,q,e,hz,rfl⟩ L hL
  cases q with
  |nil=>cases hz
  |cons u q =>
   obtain⟨rfl,rfl⟩:=Bn hz;have mu:u∈g:=by rw[e];exact AR _ AF
   obtain⟨hk,hp⟩:=rd_pv af mu;refine gJ (by rw[wQ O];exact au) (v:=.ref rr) rfl (tiy_s jQ hk (Jj af.nd mu) ⟨y0 2 rfl,?_⟩);rw[hp];refine hL _ _ ⟨?_,rfl,ds++[u],q,by rw[Af];exact e,rfl,by rw[Ac,Ac];rfl⟩;rw[AB,AB];have:=af.len;have e2:=Bk List.length e;rw[AN,AV] at e2
   have:=hS.b;exact Aj (show ds.length<=1000 by lia) (by decide)
 .rintro ak C5 ⟨rfl,ds,q,e,hz,rfl⟩ U ag
  cases q with
  |cons u q=>cases hz
  |nil =>
  rw[Ah] at e;subst e;have aw:U≠rr:=fun z=>by subst z;rw[jQ] at ag;cases ag
  have a9:I U=none:=by rw[wQ aw] at ag;exact ag
  refine⟨by rw[wQ (Ne.symm aw)];exact jQ,?_⟩;have m6:gQ (gQ (gQ I rr (.fT g)) U (.lst ((g.map rdC).map oZ))) rr (.dT g) U=some (.lst ((g.map rdC).map oZ)):=by rw[wQ aw];exact jQ
  have g6:Gr C (gQ (gQ (gQ I rr (.fT g)) U (.lst ((g.map rdC).map oZ))) rr (.dT g)):=fun b o h=>by
   have J:b≠rr:=fun z=>by rw[z,ab] at h;cases h
   have h4:=g4 b o h;have bc:b≠U:=fun z=>by rw[z,a9] at h4;cases h4
   rw[wQ J,wQ bc,wQ J];exact h4
  refine KA m6 (by rw[AB];have:=af.len;have:=hS.b;lia) fun p7 ba=>?_;refine lJ jQ ⟨y0 3 rfl,?_⟩;rw[KH B w3];exact bg _ (g6.trans (Gr.new ba _))
end
def abd_put(h:ABd A)k(hi:Bd i):ABd (putG A k (.int i)):=fun x g=>by
 rcases iN g with e | e
 .grind
 .exact h x e
def Wq(A:Rds)k v:(putG A k v).length<=A.length+1 :=by grind[putG,List.length_map,List.length_append]
inductive AI(C0 C:CH)(t d:Addr)(ns:List Int)(n:Nat):Prop
 |mk(A:Rds)(m:C d=some (.dT A))(l:A.length<=n)(b:ABd A)(T:Tp C t ns)(e:Ex t C0 C)
def AI.dr(h:AI C0 C t d ns n)(nd:d≠t)(T:Tp C' t ns)(e:Ex t C C'):AI C0 C' t d ns n:=by
 obtain⟨A,m,l,b,_,g⟩:=h;exact⟨A,e _ _ nd m,l,b,T,g.trans e⟩
def AI.tp(h:AI C0 C t d ns n):Tp C t ns:=by
 obtain⟨A,m,l,b,T,g⟩:=h;exact T
def AI.new(h:AI C0 C t d ns n)(g:C p=none)o:AI C0 (gQ C p o) t d ns n:=by
 obtain⟨A,m,l,b,T,q⟩:=h;exact⟨A,Gr.new g _ _ _ m,l,b,T.new g _,q.trans (Ex.new g _)⟩
theorem AI.put(h:AI C0 C t d ns n)(nd:d≠t)(h0:C0 d=none)(I:n<=900)(B:aU y=some k)(hi:Bd i)(q:∀C',AI C0 C' t d ns (n+1)->(∀b o,b≠d->C b=some o->C' b=some o)->Q C'):XG (.ref d) y (.int i) C Q:=by
 obtain⟨A,m,l,b,T,g⟩:=h;refine X1 m B (by lia) (q _ ⟨_,jQ,?_,abd_put b k hi,T.put nd _,g.put h0 _⟩ fun b o D h=>by rwa [wQ D]);have:=Wq A k (.int i)
 lia
section
variable {W:Wd}{a:Adr}
inductive gLans(ts:List PV)(C:CH)(Q:K1):Prop
 |mk(t:Addr)(ns:List Int)(x:Pt)(z0:ts=[.ref t,x.pv])(z1:Tp C t ns)(z2:x.first.length<=4)(z3:∀c∈x.first,-1000000000<=c.2/\c.2<=1000000000)(z4:∀C' d A,C' d=some (.dT A)->ABd A->Tp C' t ns->Ex t C C'->Q (.ref d) C')
def sP(T:Tx W a):Ok W a 3 28 ["_law_tape_here","_law_part"] gLans:=by
 have S:=(T.F 28 rfl).s;have bQ:=(eZ T).mono (show 1<=2 by decide);have oV:=nL T
 refine(T.F 28 rfl).ok (fun ts C R h=>?_) fun a6 A ba s H E Z=>⟨_,(xQ (cs1 2 S.nd mI)
  (xQ (oH PassesOwn.never rfl (mX (qQ vQ (ca1 vQ))) (cg1 3 S.nd) (kQ (oH PassesOwn.never rfl (mX (qQ vQ (qQ vQ (qQ vQ (ca1 vQ))))) (cg1 4 S.nd) (kQ (sQ (ct2 wV sJ (cf (T.F 14 rfl) bQ Z (qQ (cv 0) (ca1 zQ))) zQ) (kQ (nH (qZ Z) (cv 2) (lQ (qQ (cv 3) (ca1 (cv 4)))) (cf (T.F 16 rfl) oV Z (ca1 (cv 0))))) pQ)))))
  (xQ (sH PassesOwn.never rfl (cx (cv 1) zQ) (Gx rfl (dG (cg1 4 S.nd) (dG (cg1 5 S.nd) Kh))) (kQ (sQ (ct2 wV sJ (cf (T.F 14 rfl) bQ Z (qQ (cv 0) (ca1 zQ))) zQ) (kQ (nH (qZ Z) (cv 2) (lQ (qQ vQ (ca1 (cv 4)))) (cx (mX (qQ (cv 5) (ca1 (cf (T.F 16 rfl) oV Z (ca1 (cv 0)))))) (cf (T.F 14 rfl) bQ Z (qQ (cv 0) (ca1 zQ)))))) pQ)))
  (kQ (yQ (cv 2)))))),?_⟩
 .obtain ⟨t,ns,x,rfl,_⟩:=h;rfl
 rintro ts C Q ⟨t,ns,x,rfl,hT,a7,hb,a3⟩
 apply uQ
 intro d ab;have nd:=hT.ne ab;have I0:AI C (gQ C d (.dT [])) t d ns 0:=⟨[],jQ,AH _,(fun _ z=>nomatch z),hT.new ab _,Ex.new ab _⟩;generalize gQ C d (.dT [])=Ca at I0 ⊢;refine qX (fun ae C'=>∃q g:Option PV,ae=[some (.ref t),some x.pv,some (.ref d),q,g,none]/\AI C C' t d ns 8) (fun L hL=>?_) ?_
 .refine ⟨by decide,fun p1 au=>?_⟩
  refine⟨3,gN (fun i B C'=>C' p1=some (.lst [.str "take",.str "down"])/\i<=2/\∃q g:Option PV,B=[some (.ref t),some x.pv,some (.ref d),q,g,none]/\AI C C' t d ns (4 * i)) (fun _ _ _ h=>h.1) ?_ ?_ _ 0 _ _ ⟨jQ,AY _,_,_,rfl,I0.new au _⟩ rfl (AY _)⟩
  .rintro i y B C1 hy ⟨m1,hi,q,g,rfl,J⟩ L1 ag
   have a8:i < 2:=(Ap.1 hy).1;have aj:=I0.tp.ne au;have az:p1≠d:=fun z=>by obtain⟨A,m,_⟩:=J;rw[<- z,m1] at m;cases m
   obtain⟨sy,rfl⟩:∃sy:Str,y=.str sy:=by
    have:=Ae hy
    simp only[List.mem_cons,List.not_mem_nil,or_false] at this
    rcases this with rfl | rfl<;>exact⟨_,rfl⟩
   refine⟨by decide,fun p2 ai=>?_⟩;refine⟨5,gN (fun j B C'=>C' p2=some (.lst [.str "a",.str "ab",.str "b",.str "zz"])/\C' p1=some (.lst [.str "take",.str "down"])/\j<=4/\∃g:Option PV,B=[some (.ref t),some x.pv,some (.ref d),some (.str sy),g,none]/\AI C C' t d ns (4 * i+j)) (fun _ _ _ h=>h.1) ?_ ?_ _ 0 _ _ ⟨jQ,Gr.new ai _ _ _ m1,AY _,_,rfl,J.new ai _⟩ rfl (AY _)⟩
   .rintro j z B C2 hz ⟨m2,af,hj,g,rfl,D⟩ L2 ar
    have a9:j < 4:=(Ap.1 hz).1
    obtain⟨av,rfl⟩:∃av:Str,z=.str av:=by
     have:=Ae hz
     simp only[List.mem_cons,List.not_mem_nil,or_false] at this
     rcases this with rfl | rfl | rfl | rfl<;>exact⟨_,rfl⟩
    have ak:=J.tp.ne ai;have ay:p2≠d:=fun z=>by obtain⟨A,m,_⟩:=D;rw[<- z,m2] at m;cases m
    refine⟨t,4,ns,rfl,D.tp,by decide,by decide,fun v C3 a4 a5 T3 Y=>?_⟩;have I3:=D.dr nd T3 Y;refine i_i (zZ (fun ah=>?_) fun ah=>?_)
    .refine ⟨t,ns,rfl,T3,fun w C4 w0 w1 T4 e4=>⟨y0 2 rfl,?_⟩⟩
     refine(I3.dr nd T4 e4).put nd ab (by lia) rfl ⟨w0,w1⟩ fun C5 I5 k5=>?_;exact ar _ _ ⟨k5 _ _ ay (e4 _ _ ak (Y _ _ ak m2)),k5 _ _ az (e4 _ _ aj (Y _ _ aj af)),by lia,_,rfl,I5⟩
    .refine aQ (ar _ _ ⟨Y _ _ ak m2,Y _ _ aj af,by lia,_,rfl,?_⟩)
     obtain⟨A,m,l,b,O,U⟩:=I3;exact⟨A,m,by lia,b,O,U⟩
   .rintro B C2 ⟨m2,af,hj,g,rfl,D⟩
    exact ag _ _ ⟨af,by lia,_,_,rfl,D⟩
  .rintro B C1 ⟨m1,hi,q,g,rfl,J⟩
   exact hL _ _ ⟨_,_,rfl,J⟩
 rintro ae C1 ⟨q,g,rfl,J⟩;refine qX (fun ae C'=>∃q g x5:Option PV,ae=[some (.ref t),some x.pv,some (.ref d),q,g,x5]/\AI C C' t d ns 12) (fun L hL=>?_) ?_
 .refine Y2 (yX rfl (lK (fun zs B C'=>∃(ds I:List (Str×Int))(q g x5:Option PV),x.first=ds++I/\zs=I.map xJ/\B=[some (.ref t),some x.pv,some (.ref d),q,g,x5]/\AI C C' t d ns (8+ds.length)) ?_ ?_ _ _ _ ⟨[],x.first,_,_,_,rfl,rfl,rfl,J⟩))
  .rintro z zs B C2 ⟨ds,I,q,g,x5,e,hz,rfl,D⟩ L1 ag
   cases I with
   |nil=>cases hz
   |cons u I =>
   obtain⟨rfl,rfl⟩:=Bn hz;have hu:u∈x.first :=e▸AR _ AF;have hl:ds.length < 4:=by have:=Bk List.length e;rw[AN,AV] at this;lia
   refine⟨rfl,uM (uM (Gd ⟨t,6,ns,rfl,D.tp,by decide,by decide,fun v C3 a4 a5 T3 Y=>?_⟩))⟩;have I3:=D.dr nd T3 Y
   have aq:∀C' n,n<=8+ds.length+1->AI C C' t d ns n->L1 [some (.ref t),some x.pv,some (.ref d),q,some (.str u.1),some (.int u.2)] C':=fun C' n hn aw=>by
    refine ag _ _ ⟨ds++[u],I,_,_,_,by rw[Af];exact e,rfl,rfl,?_⟩;obtain⟨A,m,l,b,O,U⟩:=aw;exact⟨A,m,by rw[AN,Al];lia,b,O,U⟩
   refine i_i (zZ (fun ah=>?_) fun ah=>?_)
   .refine ⟨t,ns,rfl,T3,fun w C4 w0 w1 T4 e4=>⟨y0 2 rfl,fun p hp=>?_⟩⟩
    have I4:=(I3.dr nd T4 e4).new hp (.lst [.int u.2,.int w]);have a0:=T4.ne hp;refine⟨t,2,ns,rfl,I4.tp,by decide,by decide,fun ao C5 bb bc T5 e5=>?_⟩;have I5:=I4.dr nd T5 e5
    have:∃i:Int,atI [PV.int u.2,.int w] ao=some (.int i)/\Bd i:=by
     have:ao=0\/ao=1:=by lia
     rcases this with rfl | rfl
     .exact ⟨u.2,rfl,hb u hu⟩
     .exact ⟨w,rfl,w0,w1⟩
    obtain⟨i,ei,ax⟩:=this;refine gJ (e5 _ _ a0 jQ) ei ⟨y0 2 rfl,?_⟩;exact I5.put nd ab (by lia) rfl ax fun C6 I6 _=>aq C6 _ (AH _) I6
   .exact aQ (aq C3 _ (Bm _) I3)
  .rintro B C2 ⟨ds,I,q,g,x5,e,hz,rfl,D⟩
   cases I with
   |cons u I=>cases hz
   |nil =>
    rw[Ah] at e;obtain⟨A,m,l,b,O,U⟩:=D;exact hL _ _ ⟨_,_,_,rfl,A,m,by rw[<- e] at l;lia,b,O,U⟩
 rintro ae C2 ⟨q,g,x5,rfl,A,m,l,b,O,U⟩;exact a3 C2 d A m b O U
end
def Q7:Ty->Str
 |.non=>"none"
 |.bl=>"truth"
 |.int=>"whole"
 |.str=>"text"
 |.tup=>"tuple"
 |.lst=>"list"
 |.dct=>"dict"
def pO(h:Q7 n=Q7 m):n=m:=by
 revert h;cases n<;>cases m<;>decide +kernel
def Za(h:tyP C (.ref a)=some n):n=.lst\/n=.dct:=by
 delta tyP at h
 dsimp only at h
 split at h<;>cases h
 .exact .inl rfl
 .exact .inr rfl
def isNo_ty(h:tyP C x=some n):zB x=decide (n=.non):=by
 cases x with
 |ref a=>rcases Za h with rfl | rfl<;>rfl
 |non=>cases h;rfl
 |bl b=>cases h;rfl
 |int i=>cases h;rfl
 |str z=>cases h;rfl
 |tup ts=>cases h;rfl
 |_=>cases h
def sc:PV->Bool
 |.non=>true
 |.bl _=>true
 |.int _=>true
 |.str _=>true
 |_=>false
def sc_eq(q:sc y=true)(h:tyP C x=some n)(g:tyP C y=some n):n≠.tup/\n≠.lst/\n≠.dct/\∃b,sEq y x=some b/\(b=true↔x=y):=by
 cases y<;>first | exact absurd q AJ | cases g
 all_goals
  cases x with
  |ref a=>rcases Za h with h | h<;>cases h
  |_=>first | exact⟨by decide,by decide,by decide,_,rfl,by simp[eq_comm]⟩ | cases h
section
variable {W:Wd}{a:Adr}
inductive gKind(ts:List PV)(C:CH)(Q:K1):Prop
 |mk(x:PV)(n:Ty)(z0:ts=[x])(z1:tyP C x=some n)(z2:∀C',Gr C C'->Q (.str (Q7 n)) C')
def yY{bs:List Bool}(m:C p=some (.lst (bs.map PV.bl)))(h1:bs[j]?=some true)(h2:∀m,m < j->bs[m]?=some false)(q:Q (.int (j:Nat)) C):zN (.ref p) [.bl true] C Q:=by
 delta zN
 dsimp only;exact m▸⟨bs,j,rfl,h1,h2,q⟩
def W5(T:Tx W a):Ok W a 1 34 ["_law_thing"] gKind:=by
 have S:=(T.F 34 rfl).s
 refine(T.F 34 rfl).ok (fun ts C R h=>?_) fun ae A af s H E hr=>⟨_,(xQ (cs1 1 S.nd (mX (qQ (iK Zi yI (cv 0) hV (uW _)) (qQ (cQ nQ lX rfl T.mQ rfl (qQ (cv 0) (ca1 (fZ (n:="bool") rfl T.uN rfl)))) (qQ (cQ nQ lX rfl T.mQ rfl (qQ (cv 0) (ca1 (fZ (n:="int") rfl T.rM rfl)))) (ca1 (cQ nQ lX rfl T.mQ rfl (qQ (cv 0) (ca1 (fZ (n:="str") rfl T.wN rfl))))))))))
  (xQ (cs1 1 S.nd (eQ uX gX (cv 1) (mX (qQ (cQ nQ lX rfl T.mQ rfl (qQ (cv 0) (ca1 (fZ (n:="tuple") rfl T.xX rfl)))) (qQ (cQ nQ lX rfl T.mQ rfl (qQ (cv 0) (ca1 (fZ (n:="list") rfl T.jB rfl)))) (ca1 aJ))))))
  (kQ (yQ (cx (mX (qQ vQ (qQ vQ (qQ vQ (qQ vQ (qQ vQ (qQ vQ (ca1 vQ)))))))) (kE A1 PySem.F.slot_list_index PySem.F.type_list_index K5 ZY (cv 1) (ca1 aJ))))))),?_⟩
 .obtain ⟨x,n,rfl,_⟩:=h;rfl
 rintro ts C R ⟨x,n,rfl,B,ab⟩;refine uQ ?_;refine tQ (T:=.bl) rfl B ?_;refine tQ (T:=.int) rfl B ?_;refine tQ (T:=.str) rfl B ?_;refine⟨y0 4 rfl,fun D h1=>?_⟩;have J:Gr C (gQ C D (.lst [.bl (id (zB x)),.bl (bZ n .bl),.bl (bZ n .int),.bl (bZ n .str)])):=Gr.new h1 _;have Z:gQ C D (.lst [.bl (id (zB x)),.bl (bZ n .bl),.bl (bZ n .int),.bl (bZ n .str)]) D=some (.lst [.bl (id (zB x)),.bl (bZ n .bl),.bl (bZ n .int),.bl (bZ n .str)]):=jQ
 generalize gQ C D (.lst [.bl (id (zB x)),.bl (bZ n .bl),.bl (bZ n .int),.bl (bZ n .str)])=C1 at J Z ⊢;have Y:=wB B J;refine uQ ?_;refine tQ (T:=.tup) rfl Y ?_;refine tQ (T:=.lst) rfl Y ?_;refine⟨y0 3 rfl,fun p2 h2=>?_⟩;refine jH (Gr.new h2 _ _ _ Z) jQ (by show 4+3<=sizeLine;decide) fun I h3=>?_;have O:Gr C1 (gQ (gQ C1 p2 (.lst [.bl (bZ n .tup),.bl (bZ n .lst),.bl true])) I (.lst ([.bl (id (zB x)),.bl (bZ n .bl),.bl (bZ n .int),.bl (bZ n .str)]++[.bl (bZ n .tup),.bl (bZ n .lst),.bl true]))):=(Gr.new h2 _).trans (Gr.new h3 _)
 have m3:gQ (gQ C1 p2 (.lst [.bl (bZ n .tup),.bl (bZ n .lst),.bl true])) I (.lst ([.bl (id (zB x)),.bl (bZ n .bl),.bl (bZ n .int),.bl (bZ n .str)]++[.bl (bZ n .tup),.bl (bZ n .lst),.bl true])) I=some (.lst (([zB x,bZ n .bl,bZ n .int,bZ n .str,bZ n .tup,bZ n .lst,true]:List Bool).map PV.bl)):=jQ;generalize gQ (gQ C1 p2 (.lst [.bl (bZ n .tup),.bl (bZ n .lst),.bl true])) I (.lst ([.bl (id (zB x)),.bl (bZ n .bl),.bl (bZ n .int),.bl (bZ n .str)]++[.bl (bZ n .tup),.bl (bZ n .lst),.bl true]))=C3 at O m3 ⊢
 refine⟨by decide,fun p4 U=>?_⟩;have g:=Gr.new U (.lst [.str "none",.str "truth",.str "whole",.str "text",.str "tuple",.str "list",.str "dict"]) _ _ m3;rw[isNo_ty B] at g;have q:=ab _ ((J.trans O).trans (Gr.new U (.lst [.str "none",.str "truth",.str "whole",.str "text",.str "tuple",.str "list",.str "dict"])));have i1:∀(j:Nat)(bs:List Bool),bs[j]?=some true->(∀m,m < j->bs[m]?=some false)->True:=fun _ _ _ _=>trivial
 refine⟨yV g,?_⟩
 cases n with
 |non=>exact yY g (j:=0) rfl (fun m h=>absurd h (BY _)) (gJ jQ rfl q)
 |bl=>exact yY g (j:=1) rfl (by decide) (gJ jQ rfl q)
 |int=>exact yY g (j:=2) rfl (by decide) (gJ jQ rfl q)
 |str=>exact yY g (j:=3) rfl (by decide) (gJ jQ rfl q)
 |tup=>exact yY g (j:=4) rfl (by decide) (gJ jQ rfl q)
 |lst=>exact yY g (j:=5) rfl (by decide) (gJ jQ rfl q)
 |dct=>exact yY g (j:=6) rfl (by decide) (gJ jQ rfl q)
end
theorem aE: ∀{ts},t∈ts->pw t<=pws ts
 |x::ts,h=>by
  rw[pws]
  rcases Ai.1 h with rfl | h
  .lia
  .have:=aE h;lia
def Pd:Nat->PV->Prop
 |0,_=>False
 |d+1,y=>Pl d y
theorem qR:∀bs:List Bool,uU (bs.map PV.bl)=some (bs.map V.bl)
 |[]=>rfl
 |b::bs=>by
  show(match aO (.bl b),uU (bs.map PV.bl) with | some v,some vs=>some (v::vs) | _,_=>none)=_;rw[qR bs]
  rfl
theorem iL:∀bs:List Bool,(!inV (.bl false) (bs.map V.bl))=bs.all id
 |[]=>rfl
 |b::bs=>by
  have h:=iL bs;unfold inV at h ⊢;rw[BA,BB,CQ,<- h];cases b<;>rfl
def notF_s{bs:List Bool}(m:C p=some (.lst (bs.map PV.bl)))(q:Q (.bl (bs.all id)) C):Z7 true (.bl false) (.ref p) C Q:=by
 refine uD ?_ rfl (qR bs) ?_
 .show (match C p with | some (.lst xs)=>some xs | _=>none)=_
  rw[m]
 .rwa [AZ rfl,iL]
def inF_s{bs:List Bool}(m:C p=some (.lst (bs.map PV.bl)))(q:Q (.bl (!bs.all id)) C):Z7 false (.bl false) (.ref p) C Q:=by
 refine uD ?_ rfl (qR bs) ?_
 .show (match C p with | some (.lst xs)=>some xs | _=>none)=_
  rw[m]
 .rwa [ <- Bool.not_not (inV _ _),iL]
def iA{ss:List Str}(q:Q (.bl (decide (x∈ss))) C):Z7 false (.str x) (.tup (ss.map PV.str)) C Q:=by
 have f:∀ss:List Str,uU (ss.map PV.str)=some (ss.map V.str):=fun ss=>by
  induction ss with
  |nil=>rfl
  |cons s ss g =>
   show(match aO (.str s),uU (ss.map PV.str) with | some v,some vs=>some (v::vs) | _,_=>none)=_;rw[g]
   rfl
 apply uD rfl rfl (f ss)
 have e:inV (.str x) (ss.map V.str)=decide (x∈ss):=by
  delta inV
  rw[List.any_map,CZ,List.any_eq_true,decide_eq_true_iff];refine⟨fun B=>zX B fun y D e=> ?_,fun h=>⟨x,h,beq_self_eq_true x⟩⟩;have e:=e
  rwa [<- eq_of_beq e]
 rwa [e]
def pl_ty(h:Pl d y):∃m,tyP C y=some m/\m≠.lst/\m≠.dct:=by
 cases h<;>exact⟨_,rfl,by decide,by decide⟩
section
variable {W:Wd}{a:Adr}
inductive gAl(d:Nat)(ts:List PV)(C:CH)(Q:K1):Prop
 |mk(x y:PV)(z0:ts=[y,x])(z1:Th C x)(z2:Pd d y)(z3:pw y<=3000000)(z4:∀b C',(b=true↔x=y)->Gr C C'->Q (.bl b) C')
def Zo(T:Tx W a)d r(aq:1<=r)(pP:Ok W a r 35 U13 (gAl d)):Ok W a (r+1) 35 U13 (gAl (d+1)):=by
 have S:=(T.F 35 rfl).s;have XQ:=(W5 T).mono (show 1<=r by lia)
 refine(T.F 35 rfl).ok (fun ts C R h=>?_) fun ak A au s H E O=>⟨_,(xQ (cs1 2 S.nd (cf (T.F 34 rfl) XQ O (ca1 (cv 0))))
  (xQ (sQ (ct2 tU bW (cv 2) (cf (T.F 34 rfl) XQ O (ca1 (cv 1)))) (kQ (yQ aJ)) pQ)
  (xQ (sQ (ct2 bX iQ (cv 2) vQ) (kQ (oH PassesOwn.never rfl (cv 0) (cg1 3 S.nd) (xQ (Ke (i:=4) S.nd rfl (Or.inl rfl) rfl (S.c (by decide +kernel)) (S.k rfl rfl rfl (by decide +kernel)) (dU (cv 1)) (fun _ _ _ _ _=>(Gy (aX (cf (T.F 35 rfl) pP O (qQ (cv 4) (ca1 (cv 0))))))) (fun _ _ _ _ _=>(cv 0)))
  (kQ (sQ (cw_pt (cw_or (ct2 tU bW (cln T.sZ (cv 4)) zQ) (cw_or1 (dJ (aX (cf (T.F 35 rfl) pP O (qQ (cx (cv 0) (cv 3)) (ca1 (cx (cv 1) (cx (cv 4) zQ)))))))))) (kQ (yQ aJ)) pQ))))) pQ)
  (xQ (sQ (cw_pt (cw_and (uF tW mU (cv 2) (lQ (qQ vQ (qQ vQ (ca1 vQ)))) rfl) (cw_and1 (ct2 tU bW (cln T.sZ (cv 0)) (cln T.sZ (cv 1)))))) (kQ (yQ aJ)) pQ)
  (xQ (sQ (uF tW mU (cv 2) (lQ (qQ vQ (ca1 vQ))) rfl) (kQ (yQ (iK wA mU aJ (hW rfl (S.c (by decide +kernel)) (S.k rfl rfl rfl (by decide +kernel)) (Z1 rfl T.pW (ca1 (cln T.sZ (cv 0)))) (fun _ _ _ _ _=>wK) (fun _ _ _ _ _=>(cf (T.F 35 rfl) pP O (qQ (cx (cv 1) (cv 0)) (ca1 (cx (cv 2) (cv 0))))))) rfl))) pQ)
  (kQ (yQ (ce_or (iK bX iQ (cv 2) vQ (uW _)) (cR (iK bX iQ (cv 0) (cv 1) (uW _))))))))))),?_⟩
 .obtain ⟨x,y,rfl,_⟩:=h;rfl
 rintro ts C R ⟨x,y,rfl,hx,U,ag,q⟩;have U:=U;obtain⟨n,D⟩:=hx.ty;obtain⟨m,I,ar,nd⟩:=pl_ty U;refine uQ ⟨y,m,rfl,I,fun C1 ab=>⟨x,n,rfl,wB D ab,fun C2 ae=>?_⟩⟩;have g:=ab.trans ae
 apply vX (rQ _ _)
 by_cases e:m=n
 .subst e
  refine fX (by rw[Ad rfl];rfl) (aQ ?_);have J:∀k,m≠k->Q7 m≠Q7 k:=fun k h z=>h (pO z);refine vX (rQ _ _) (fX (AM (J .dct nd)) (aQ ⟨by decide,iA (ss:=["tuple","list","dict"]) ?_⟩))
  cases U with
  |@tup d ys aj =>
   cases I
   have ah:∃xs,x=.tup xs/\∀t∈xs,Th C t:=by
    cases hx with
    |tup h=>exact⟨_,rfl,h⟩
    |lst h=>rw[h] at D;cases D
    |dct h=>rw[h] at D;cases D
    |_=>cases D
   obtain⟨xs,rfl,ai⟩:=ah;rw[pw] at ag;have ao:=tF ys;refine jZ (by decide +kernel) (vY (vY (vX (kX _ _) ?_)))
   by_cases Y:xs.length=ys.length
   .refine fX (by rw[Ad (by rw[Y])];rfl) (aQ ?_)
    refine⟨by decide,iA (ss:=["tuple","list"]) (jZ (by decide +kernel) ?_)⟩;refine vY ⟨by lia,by lia,?_⟩;refine cD (fun t=>match t with | .int i=>.bl (@decide (xs[i.toNat]?=ys[i.toNat]?) (Classical.propDecidable _)) | _=>.non) _ [] C2 Gr.refl (by rw[BQ,AB,Ak];show _<=16777216;lia) (fun t I C3 Q' Z af=>?_) fun p C3 _ Z m3=>?_
    .obtain ⟨k,B,rfl⟩:=AU.1 I
     rw[BN] at B;have B:k < ys.length:=by lia
     refine yX (bF B) (yX (bF (by lia)) ?_);refine⟨xs[k],ys[k],rfl,((ai _ (BH _)).gr g).gr Z,aj _ (BH _),by have:=aE (BH B);lia,fun b C4 hb g4=>?_⟩
     have eb:@decide (xs[k]?=ys[k]?) (Classical.propDecidable _)=b:=by
      rw[CZ,hb,@decide_eq_true_iff _ (Classical.propDecidable _),AO B,AO (by lia),Option.some.injEq]
     have:=af C4 g4;dsimp only at this
     rwa [show((k:Int)).toNat=k from DI k,eb] at this
    .apply notF_s (by
      rw[m3,CU,Be,Be,DI]
      rfl)
     refine q _ C3 ?_ (g.trans Z);rw[Bs];refine⟨fun h=>?_,fun h b hb=>?_⟩
     .have:=List.ext_getElem? fun k=>by
       rcases Cs k ys.length with B | B
       .have:=h _ (AU.2 ⟨k,BN.2 B,rfl⟩)
        exact(@decide_eq_true_iff _ (Classical.propDecidable _)).1 this
       .rw [Cg (by lia),Cg B]
      rw[this]
     .obtain ⟨k,_,rfl⟩:=AU.1 hb
      cases h;exact(@decide_eq_true_iff _ (Classical.propDecidable _)).2 rfl
   .exact jZ (by rw[AM fun z=>Y (by lia)];rfl) (q false C2 ⟨(fun z=>nomatch z),fun h=>(Y (by cases h;rfl)).elim⟩ g)
  |_ =>
   obtain⟨n1,n2,n3,b,e1,e2⟩:=sc_eq rfl D I;refine fX (AM fun z=>?_) (gW rfl (aQ ?_))
   .simp only[List.mem_cons,List.not_mem_nil,or_false] at z
    rcases z with z | z | z
    .exact J .tup n1 z
    .exact J .lst n2 z
    .exact J .dct n3 z
   refine⟨by decide,iA (ss:=["tuple","list"]) (fX (AM fun z=>?_) (aQ ?_))⟩
   .simp only[List.mem_cons,List.not_mem_nil,or_false] at z
    rcases z with z | z
    .exact J .tup n1 z
    .exact J .lst n2 z
   exact vX (rQ _ _) (fX (AM (J .dct n3)) (vX e1 (q b C2 e2 g)))
 .refine jZ (by rw[AM fun z=>e (pO z)];rfl) (q false C2 ⟨(fun z=>nomatch z),fun h=>(e ?_).elim⟩ g)
  subst h;rw[D] at I;exact(A7 I).symm
def uO(T:Tx W a)d:Ok W a (d+2) 35 U13 (gAl d):=by
 induction d with
 |zero=>exact oJ fun ts C Q ⟨_,_,_,_,h,_,_⟩=>h
 |succ d g=>exact Zo T d (d+2) (Nat.succ_pos _) g
end
inductive Lf:PV->Prop
 |non:Lf .non
 |bl (b:Bool):Lf (.bl b)
 |int {i:Int} (h:Bd i):Lf (.int i)
 |str {z:Str} (h:z.length<=8):Lf (.str z)
 |tup {ts:List PV} (h:∀t∈ts,Lf t):Lf (.tup ts)
theorem qG:∀t∈([]:List PV),Lf t:=fun _ z=>nomatch z
theorem pX(h:Lf x)(k:∀t∈ts,Lf t):∀t∈x::ts,Lf t :=by grind
theorem kF{α:Type}{f}{l:List α}(h:∀x∈l,Lf (f x)):∀t∈l.map f,Lf t :=by grind
theorem Yk(h:spB sp):Lf (sG sp):=by
 obtain⟨k,c,rfl,g,h0,h1⟩:=h;refine .tup (pX ?_ (pX (.int ⟨by lia,by lia⟩) qG))
 rcases k with (_ | i) | z
 .exact .non
 .exact .int g
 .exact g.elim
theorem Zv(h:SNm cs):Lf (.tup (cs.map xJ)):=.tup (kF fun c g=>.tup (pX (.str (h c g).2) (pX (.int (h c g).1) qG)))
theorem lf_hd(h:HvB x):Lf x.pv:=.tup (pX (.str h.1) (pX (.int ⟨by have:=h.2.1.1;lia,by have:=h.2.1.2;lia⟩) (pX (.bl _) (pX (.tup (kF fun c g=>.tup (pX (.str (h.2.2 c g).1) (pX (.str (h.2.2 c g).2.1) (pX (.int (h.2.2 c g).2.2) qG))))) qG))))
def w8(h:z∈(["plain","part","give","take","down","box"]:List Str)):Lf (.str z):=.str ((by decide +kernel:∀s∈(["plain","part","give","take","down","box"]:List Str),s.length<=8) z h)
def lf_wt(O:∀s∈rs,s.length<=8):∀d x,WtOk rs d x->Lf x.pv:=by
 intro d
 induction d with
 |zero=>intro x h;exact h.elim
 |succ d I =>
  intro x h
  cases x with
  |plain sp S ss hs r =>
   obtain⟨h1,⟨_,_,_,h2,B,J⟩,D,_⟩:=h;rw[Wt.pv,Wt.pvs_map];exact .tup (pX (w8 (by simp)) (pX (Yk h1) (pX (.str h2) (pX (Zv B) (pX (.tup (kF fun y q=>lf_hd (J y q))) (pX (.tup (kF fun y q=>I y (D y q))) qG))))))
  |part sp n g =>
   exact zT h fun h1 h2 _ B=>.tup (pX (w8 (by simp)) (pX (Yk h1) (pX (.str (O n h2)) (pX (Zv B) qG))))
  |give sp n i r =>
   obtain⟨h1,h2,D,_⟩:=h;rw[Wt.pv,Wt.pvs_map];exact .tup (pX (w8 (by simp)) (pX (Yk h1) (pX (.str h2.2) (pX (.int h2.1) (pX (.tup (kF fun y q=>I y (D y q))) qG)))))
def lf_pc{cap}(J:∀s∈rs,s.length<=8)(g:PtOk rs cap y)(q:ABd A):Lf (bJ A y).pv:=by
 refine .tup (pX (.tup (kF fun c B=>?_)) (pX (.tup ?_) (pX (Zv fun c B=>?_) qG)))
 .obtain ⟨s,n,I,rfl⟩:=qM g B
  refine .tup (pX (.tup (pX ?_ (pX ?_ qG))) (pX (.int (mF q s n).2) qG))
  .rcases I with ⟨rfl | rfl,_⟩ | ⟨rfl,_⟩<;>exact w8 (by simp)
  .rcases I with ⟨_,h⟩ | ⟨_,h⟩
   .exact .str ((by decide +kernel:∀s∈(["a","ab","b"]:List Str),s.length<=8) n h)
   .exact .str (g.b8 n h)
 .rw [Wt.pvs_map]
  exact kF fun w O=>lf_wt J 6 w ((xC g q).1 w O)
 .obtain ⟨p,D,rfl⟩:=AU.1 B
  exact⟨zY q (τ:=[]) (fun _ z=>nomatch z) (ts:=[]) (fun _ z=>nomatch z) (g.wk p D).1,(g.wk p D).2⟩
def Ja{ys:List PV}(e:(ys.length:Int)=m)(h0:0<=v)(h1:v < m):∃y∈ys,atI ys v=some y:=by
 have g:v.toNat < ys.length:=by lia
 refine⟨ys[v.toNat],BH g,?_⟩;have:=bF g
 rwa [Int.toNat_of_nonneg h0] at this
def str_app(x y:Str):(x++y).length=x.length+y.length:=Array.size_append
def adds_s(h:x.length+y.length<=sizeLine)(q:Q (.str (x++y)) C):gH (.str x) (.str y) C Q:=by
 delta gH
 exact⟨h,q⟩
def yR xs k:uH xs (some (k:Nat)) none=xs.drop k :=by simp_all[uH,HT.sIx_nat,HT.sIx_none,List.take_of_length_le,Nat.min_eq_left,Nat.min_eq_right,List.drop_length,List.drop_of_length_le]
def uR xs k:uH xs none (some (k:Nat))=xs.take k :=by simp_all[uH,HT.sIx_nat,HT.sIx_none,List.drop_zero,Nat.sub_zero,Nat.min_eq_left,Nat.min_eq_right,List.take_length]
def YA{xs:List PV}(h:i < xs.length):ixN xs.length i=some i :=by grind[ixN,lia,Int.toNat_natCast]
def Tp.gr(h:Tp C t ns)(g:Gr C C'):Tp C' t ns:=by
 obtain⟨⟨i,j,k,e,r⟩,h2⟩:=h;exact⟨⟨i,j,k,g _ _ e,r⟩,h2⟩
def Ex.gr(g:Gr C C'):Ex t C C':=fun b o _ e=>g b o e
inductive Bo(C:CH):PV->Prop
 |non:Bo C .non
 |bl (b:Bool):Bo C (.bl b)
 |int (i:Int):Bo C (.int i)
 |str {z:Str} (h:z.length<=100):Bo C (.str z)
 |tup {ts:List PV} (l:ts.length<=4000000) (h:∀t∈ts,Bo C t):Bo C (.tup ts)
 |lst {a:Addr} (h:tyP C (.ref a)=some .lst):Bo C (.ref a)
 |dct {a:Addr} (h:tyP C (.ref a)=some .dct):Bo C (.ref a)
def Bo.th(h:Bo C x):Th C x:=by
 induction h with
 |non=>exact .non
 |bl b=>exact .bl b
 |int i=>exact .int i
 |str h=>exact .str _
 |tup _ _ g=>exact .tup g
 |lst h=>exact .lst h
 |dct h=>exact .dct h
def Bo.gr(h:Bo C x)(g:Gr C C'):Bo C' x:=by
 induction h with
 |non=>exact .non
 |bl b=>exact .bl b
 |int i=>exact .int i
 |str h=>exact .str h
 |tup l _ q=>exact .tup l q
 |lst h=>exact .lst (wB h g)
 |dct h=>exact .dct (wB h g)
theorem Bo.tu(h:Bo C (.tup ts)):ts.length<=4000000/\∀t∈ts,Bo C t:=by
 cases h with
 |tup l h=>exact⟨l,h⟩
def Bo.pg(h:Bo C x):Pg x:=fun ts y z e=>by
 subst e;have h1:=(h.tu.2 (.tup ts) (by simp)).tu;refine⟨AW h1.1 (by decide),fun t q s z n e=>?_⟩;subst e;have g:=(((h1.2 _ q).tu.2 (.tup [s,.str z]) (by simp)).tu).2 (.str z) (by simp)
 cases g with
 |str h=>exact AW h (by decide)
theorem oU:∀t∈([]:List PV),Bo C t:=fun _ z=>nomatch z
theorem jX(h:Bo C x)(k:∀t∈ts,Bo C t):∀t∈x::ts,Bo C t :=by grind
structure Bp(d:Nat)(x:PV):Prop where
 p:Pl d x
 l:Lf x
 w:pw x<=3000000
def bo_of(h:Pl d x):Lf x->pw x<=3000000->Bo C x:=by
 induction h with
 |non=>intro _ _;exact .non
 |bl b=>intro _ _;exact .bl b
 |int i=>intro _ _;exact .int i
 |str z=>intro h _;cases h with | str h=>exact .str (by lia)
 |@tup d ts _ B =>
  intro h q
  cases h with
  |tup h =>
  rw[pw] at q;have:=tF ts;exact .tup (by lia) fun t g=>B t g (h t g) (by have:=aE g;lia)
def Bp.bo(h:Bp d x):Bo C x:=bo_of h.p h.l h.w
def Bp.it(h:Bp d (.tup xs)):xs.length<=3000000/\∀t∈xs,∃d',d=d'+1/\Bp d' t:=by
 obtain⟨p,l,w⟩:=h;rw[pw] at w;have:=tF xs
 cases p with
 |tup p=>cases l with | tup l=>exact⟨by lia,fun t g=>⟨_,rfl,p t g,l t g,by have:=aE g;lia⟩⟩
theorem lF(m:C l=some (.lst xs)):tyP C (.ref l)=some .lst:=by
 show(match C l with | some (.lst _)=>some Ty.lst | some (.dK _)=>some Ty.dct | _=>none)=_;rw[m]
abbrev oP(p1 p2:Addr):List PV:=[.non,.bl true,.bl false,.int 0,.int 1,.int (10 ^ 9+1),.int (-10 ^ 9 - 1),.str "",.str "a",.str "abcdefghi",.str "A",.tup [],.ref p1,.ref p2]
abbrev QT(p4:Addr):List PV:=[.tup [.str "num",.int 0],.tup [.str "num",.bl true],.tup [.str "turn",.str "a"],.tup [.str "box",.str "zz"],.ref p4,.tup [.str "add",.tup [.str "num",.int 1]]]
section
variable {W:Wd}{a:Adr}
inductive gOdd(ts:List PV)(C:CH)(Q:K1):Prop
 |mk(t:Addr)(ns:List Int)(z0:ts=[.ref t])(z1:Tp C t ns)(z2:∀y C',Bo C' y->Tp C' t ns->Ex t C C'->Q y C')
def W3(T:Tx W a):Ok W a 2 36 U11 gOdd:=by
 have S:=(T.F 36 rfl).s
 refine(T.F 36 rfl).ok (fun ts C R h=>?_) fun ai A aj s H E hr=>⟨_,(xQ (cs1 1 S.nd (mX (qQ hV (qQ aJ (qQ aJ (qQ zQ (qQ zQ (qQ (eQ uX gX (eQ iY aV zQ zQ) zQ) (qQ (eQ iJ jJ (rB jY gV (eQ iY aV zQ zQ)) zQ) (qQ vQ (qQ vQ (qQ vQ (qQ vQ (qQ (lQ pZ) (qQ (mX pZ) (ca1 mM))))))))))))))))
  (xQ (cs1 1 S.nd (eQ uX gX (cv 1) (mX (qQ (lQ (qQ vQ (ca1 zQ))) (qQ (lQ (qQ vQ (ca1 aJ))) (qQ (lQ (qQ vQ (ca1 vQ))) (qQ (lQ (qQ vQ (ca1 vQ))) (qQ (mX (qQ vQ (ca1 zQ))) (ca1 (lQ (qQ vQ (ca1 (lQ (qQ vQ (ca1 zQ)))))))))))))))
  (kQ (yQ (cx (cv 1) (cf (T.F 14 rfl) (eZ T) hr (qQ (cv 0) (ca1 zQ)))))))),?_⟩
 .obtain ⟨t,ns,rfl,_⟩:=h;rfl
 rintro ts C R ⟨t,ns,rfl,hT,af⟩;refine uQ ⟨⟨by decide,by decide,by decide⟩,yK ?_⟩;refine⟨⟨by decide,by decide,by decide⟩,i_i ?_⟩;refine⟨by decide,?_⟩;refine⟨by decide,fun B h1=>?_⟩;intro p2 h2;refine⟨y0 14 rfl,fun p3 Y=>?_⟩;refine uQ ⟨by decide,?_⟩;refine⟨by decide,?_⟩;refine⟨by decide,?_⟩;refine⟨by decide,?_⟩;refine⟨by decide,fun q D=>?_⟩;refine⟨by decide,?_⟩;refine⟨by decide,?_⟩
 refine⟨y0 6 rfl,fun p5 I=>?_⟩;refine jH (Gr.new I _ _ _ (Gr.new D _ _ _ jQ)) jQ (by show 14+6<=sizeLine;decide) fun p6 J=>?_;have T1:=hT.new h1 (.lst []);have T3:=(T1.new h2 (.dK [])).new Y (.lst (oP B p2));have T5:=(T3.new D (.lst [.str "num",.int 0])).new I (.lst (QT q));have ae:=Gr.new h2 (.dK []) _ _ (jQ);have e6:=(((((Ex.new (t:=t) h1 (.lst [])).trans (Ex.new h2 (.dK []))).trans (Ex.new Y _)).trans (Ex.new D (.lst [.str "num",.int 0]))).trans (Ex.new I _)).trans (Ex.new J (.lst (oP B p2++QT q)))
 have m1:=Gr.new J (.lst (oP B p2++QT q)) _ _ (Gr.new I _ _ _ (Gr.new D _ _ _ (Gr.new Y _ _ _ ae)));have m2:=Gr.new J (.lst (oP B p2++QT q)) _ _ (Gr.new I _ _ _ (Gr.new D _ _ _ (Gr.new Y _ _ _ (jQ))));refine⟨t,20,ns,rfl,(T5.new J (.lst (oP B p2++QT q))),by decide,by decide,fun v g ag ah T7 U=>?_⟩;refine zX (Ja (ys:=oP B p2++QT q) rfl ag ah) fun y hy ey=>gJ (U p6 _ (T5.ne J) jQ) ey (af y g ?_ T7 (e6.trans U))
 have b2:Bo g (.ref p2):=.dct (by
  show(match g p2 with | some (.lst _)=>some Ty.lst | some (.dK _)=>some Ty.dct | _=>none)=_
  rw[U _ _ (T1.ne h2) m2])
 have b4:Bo g (.ref q):=.lst (lF (U _ _ (T3.ne D) (Gr.new J (.lst (oP B p2++QT q)) _ _ (Gr.new I _ _ _ (jQ)))));have s:∀z∈(["","a","abcdefghi","A","num","turn","box","zz","add"]:List Str),Bo g (.str z):=fun z Z=>.str ((by decide +kernel:∀z∈(["","a","abcdefghi","A","num","turn","box","zz","add"]:List Str),z.length<=100) z Z);have O:∀x z,Bo g x->Bo g z->Bo g (.tup [x,z]):=fun x z hx Z=>.tup (by simp_all) (jX hx (jX Z oU))
 have ab:∀y∈(oP B p2++QT q),Bo g y :=
  jX .non (jX (.bl _) (jX (.bl _) (jX (.int _) (jX (.int _) (jX (.int _) (jX (.int _) (jX (s _ (by simp)) (jX (s _ (by simp)) (jX (s _ (by simp)) (jX (s _ (by simp)) (jX (.tup (AY _) oU) (jX (.lst (lF (U _ _ (hT.ne h1) m1))) (jX b2 (jX (O _ _ (s _ (by simp)) (.int _)) (jX (O _ _ (s _ (by simp)) (.bl _)) (jX (O _ _ (s _ (by simp)) (s _ (by simp))) (jX (O _ _ (s _ (by simp)) (s _ (by simp))) (jX b4 (jX (O _ _ (s _ (by simp)) (O _ _ (s _ (by simp)) (.int _))) oU)))))))))))))))))))
 exact ab y hy
end
theorem Bo.put(h:Bo C x)(m:C p=some (.lst xs)):Bo (gQ C p (.lst ys)) x:=by
 have ty:∀a n,tyP C (.ref a)=some n->tyP (gQ C p (.lst ys)) (.ref a)=some n:=fun a n h=>by
  by_cases e:a=p
  .subst e
   rw[lF m] at h
   rwa [lF jQ]
  .show (match gQ C p (.lst ys) a with | some (.lst _)=>some Ty.lst | some (.dK _)=>some Ty.dct | _=>none)=_
   rwa [wQ e]
 induction h with
 |non=>exact .non
 |bl b=>exact .bl b
 |int i=>exact .int i
 |str h=>exact .str h
 |tup l _ g=>exact .tup l g
 |lst h=>exact .lst (ty _ _ h)
 |dct h=>exact .dct (ty _ _ h)
structure OJ(C0 C:CH)(t:Addr)(ns:List Int)(p:Addr)(ys:List PV)(n:Nat):Prop where
 m:C p=some (.lst ys)
 l:ys.length<=n
 b:∀e∈ys,Bo C e
 T:Tp C t ns
 e:Ex t C0 C
 np:p≠t
 f:C0 p=none
section
variable {C0 C C':CH}{t p s:Addr}{ns:List Int}{ys zs:List PV}{n m:Nat}
def OJ.up(h:OJ C0 C t ns p ys n)(k:n<=m):OJ C0 C t ns p ys m:={ h with l:=AW h.l k }
def OJ.mv(h:OJ C0 C t ns p ys n)(g:Gr C C')(I:C' s=some (.lst zs))(hs:C s=none)(B:zs.length<=m)(D:∀e∈zs,e∈ys):OJ C0 C' t ns s zs m :=
 ⟨I,B,fun e q=>(h.b e (D e q)).gr g,h.T.gr g,h.e.trans (Ex.gr g),h.T.ne hs,h.e.none (h.T.ne hs) hs⟩
theorem OJ.put(h:OJ C0 C t ns p ys n)(q:zs.length<=m)(B:∀e∈zs,Bo C e):OJ C0 (gQ C p (.lst zs)) t ns p zs m :=
 ⟨jQ,q,fun e g=>(B e g).put h.m,h.T.put h.np _,h.e.put h.f _,h.np,h.f⟩
def OJ.join(J:OJ C0 C t ns p ys n)(h1:C q=none)(h2:gQ C q (.lst u) D=none)(B:gQ (gQ C q (.lst u)) D (.lst w) I=none)(U:u.length+w.length<=m)(O:∀e∈u,e∈ys)(S:∀e∈w,e∈ys):OJ C0 (gQ (gQ (gQ C q (.lst u)) D (.lst w)) I (.lst (u++w))) t ns I (u++w) m :=
 J.mv (((Gr.new h1 _).trans (Gr.new h2 _)).trans (Gr.new B _)) jQ (zI ((Gr.new h1 _).trans (Gr.new h2 _)) B) (by grind) fun e g=>by
  rcases AS.1 g with g | g
  .exact O e g
  .exact S e g
end
section
variable {W:Wd}{a:Adr}
inductive gOth(ts:List PV)(C:CH)(Q:K1):Prop
 |mk(t:Addr)(ns:List Int)(d:Nat)(x:PV)(z0:ts=[.ref t,x])(z1:Tp C t ns)(z2:Bp d x)(z3:∀y C',Bo C' y->Tp C' t ns->Ex t C C'->Q y C')
def W2(T:Tx W a):Ok W a 3 37 U5 gOth:=by
 have S:=(T.F 37 rfl).s;have bQ:=(eZ T).mono (show 1<=2 by decide);have vN:=W3 T
 refine(T.F 37 rfl).ok (fun ts C R h=>?_) fun av A aw s H E hr=>⟨_,(xQ (cs1 2 S.nd (cf (T.F 14 rfl) bQ hr (qQ (cv 0) (ca1 zQ))))
  (xQ (sQ (cw_pt (cw_and (aX (cQ qL vE rfl T.mQ rfl (qQ (cv 1) (ca1 (lQ (qQ (fZ (n:="tuple") rfl T.xX rfl) (ca1 (fZ (n:="list") rfl T.jB rfl)))))))) (cw_and1 (ct2 rY mV (cv 2) zQ)))) (xQ (cs1 3 S.nd (lZ cU pI rfl T.jB rfl (ca1 (cv 1))))
  (xQ (cs1 4 S.nd (cf (T.F 14 rfl) bQ hr (qQ (cv 0) (ca1 (eQ uX gX (cln T.sZ (cv 3)) zQ)))))
  (xQ (sQ (cw_pt (cw_and (ct2 bX iQ (cv 2) zQ) (cw_and1 (aX (cQ nQ lX rfl T.mQ rfl (qQ (cv 1) (ca1 (fZ (n:="tuple") rfl T.xX rfl)))))))) (kQ (yQ (cv 3))) pQ)
  (xQ (sQ (ct2 bX iQ (cv 2) zQ) (kQ (aZ (kE A1 PySem.F.slot_list_insert PySem.F.type_list_insert (fun p s σ H x vs v au Q=>gO p s σ H x vs v au Q) pR (cv 3) (qQ (cv 4) (ca1 (cf (T.F 36 rfl) vN hr (ca1 (cv 0)))))))) pQ)
  (xQ (sQ (ct2 bX iQ (cv 2) zQ) (kQ (cs1 3 S.nd (eQ uX gX (mW (cv 3) pJ (fJ (cv 4))) (mW (cv 3) (fJ (eQ uX gX (cv 4) zQ)) pJ)))) pQ)
  (xQ (sQ (ct2 bX iQ (cv 2) zQ) (kQ (cs1 3 S.nd (eQ uX gX (mW (cv 3) pJ (fJ (cv 4))) (mW (cv 3) (fJ (cQ (iW rfl) fM rfl T.gT rfl (qQ zQ (ca1 (eQ iJ jJ (cv 4) zQ))))) pJ)))) pQ)
  (xQ (sQ (ct2 bX iQ (cv 2) zQ) (kQ (aZ (fI A1 DC DB zF cB (cv 3)))) pQ)
  (xQ (sQ (ct2 bX iQ (cv 2) zQ) (kQ (cs1 3 S.nd (eQ uX gX (mW (cv 3) (fJ (cv 4)) pJ) (mW (cv 3) pJ (fJ (cv 4)))))) pQ)
  (kQ (yQ (ctp T.xX (cv 3)))))))))))) pQ)
  (xQ (sQ (aX (cQ nQ lX rfl T.mQ rfl (qQ (cv 1) (ca1 (fZ (n:="bool") rfl T.uN rfl))))) (kQ (yQ (cx (mX (qQ (lZ cG eD rfl T.rM rfl (ca1 (cv 1))) (ca1 (GA (cv 1))))) (eQ kY bV (cv 2) zQ)))) pQ)
  (xQ (sQ (cw_pt (cw_and (aX (cQ nQ lX rfl T.mQ rfl (qQ (cv 1) (ca1 (fZ (n:="int") rfl T.rM rfl))))) (cw_and1 (ct2 rY mV (cv 2) zQ)))) (kQ (yQ (cx (mX (qQ (eQ uX gX (cv 1) zQ) (qQ (iK bX iQ (cv 1) zQ (uW _)) (qQ (lZ dI GF rfl T.wN rfl (ca1 (cv 1))) (qQ (rB jY gV (cv 1)) (ca1 (eQ iJ jJ (cv 1) zQ))))))) (cv 2)))) pQ)
  (xQ (sQ (cw_pt (cw_and (aX (cQ nQ lX rfl T.mQ rfl (qQ (cv 1) (ca1 (fZ (n:="str") rfl T.wN rfl))))) (cw_and1 (ct2 rY mV (cv 2) zQ)))) (kQ (yQ (cx (mX (qQ (eQ uX gX (cv 1) vQ) (qQ (ce_slS (cv 1) pJ (fJ (rB jY gV zQ))) (qQ (Gz (cv 1)) (qQ vQ (ca1 vQ)))))) (cv 2)))) pQ)
  (kQ (yQ (cf (T.F 36 rfl) vN hr (ca1 (cv 0)))))))))),?_⟩
 .obtain ⟨_,_,_,_,rfl,_⟩:=h;rfl
 rintro ts C R ⟨t,ns,d,x,rfl,hT,hx,ag⟩;have ae:∀{n:Nat},n<=4000000->n<=sizeLine:=fun h=>AW h (by decide);refine uQ ⟨t,8,ns,rfl,hT,by decide,by decide,fun v C1 ax ay O Y=>?_⟩;have af:∀C2,Tp C2 t ns->Ex t C C2->gOdd [.ref t] C2 R:=fun C2 T2 e2=>⟨t,ns,rfl,T2,fun y C3 hy T3 e3=>ag y C3 hy T3 (e2.trans e3)⟩
 by_cases ai:∃xs,x=.tup xs
 .obtain ⟨xs,rfl⟩:=ai
  obtain⟨xl,xi⟩:=hx.it;refine qX (fun B C'=>C'=C1/\B=[some (.ref t),some (.tup xs),some (.int v),none,none]) (fun L hL=>?_) ?_
  .refine ⟨y0 2 rfl,vU [.tup,.lst] (n:=.tup) rfl (jZ rfl (i_i (zZ (fun Z=>?_) fun Z=>aQ (hL _ _ ⟨rfl,rfl⟩))))⟩
   refine uQ fun p I=>?_;have U:OJ C (gQ C1 p (.lst xs)) t ns p xs 3000000:=⟨jQ,xl,fun e q=>by obtain⟨d',_,h⟩:=xi e q;exact h.bo,O.new I _,Y.trans (Ex.new I _),O.ne I,Y.none (O.ne I) I⟩;generalize gQ C1 p (.lst xs)=C2 at U ⊢;refine uQ (fB U.m (yK ⟨t,_,ns,rfl,U.T,by lia,by lia,fun u C3 u0 u1 T3 e3=>?_⟩));obtain⟨i,rfl⟩:∃i:Nat,u=(i:Nat):=⟨u.toNat,by lia⟩;have hi:i<=xs.length:=by lia
   have g:OJ C C3 t ns p xs 3000000:=⟨e3 _ _ U.np U.m,xl,fun e q=>by obtain⟨d',_,h⟩:=xi e q;exact h.bo,T3,U.e.trans e3,U.np,U.f⟩;clear U;refine qX (fun B C'=>C'=C3/\B=[some (.ref t),some (.tup xs),some (.int v),some (.ref p),some (.int (i:Nat))]) (fun L1 D=>?_) ?_
   .refine vX (kX _ _) (zZ (fun J=>?_) fun J=>gW rfl (aQ (D _ _ ⟨rfl,rfl⟩)))
    exact tQ (T:=.tup) rfl (k:=.tup) rfl (jZ rfl (ag _ C3 (.lst (lF g.m)) T3 g.e))
   rintro B C4 ⟨rfl,rfl⟩;refine qX (fun B C'=>∃p ys,B=[some (.ref t),some (.tup xs),some (.int v),some (.ref p),some (.int (i:Nat))]/\OJ C C' t ns p ys 3000001) (fun L1 D=>?_) ?_
   .refine vX (kX _ _) (zZ (fun J=>?_) fun J=>aQ (D _ _ ⟨p,xs,rfl,g.up (by lia)⟩))
    refine⟨yV g.m,t,ns,rfl,T3,fun y C5 hy T5 e5=>?_⟩;have J2:OJ C C5 t ns p xs 3000000:=⟨e5 _ _ g.np g.m,xl,fun e q=>by obtain⟨d',_,h⟩:=xi e q;exact h.bo,T5,g.e.trans e5,g.np,g.f⟩;refine Xf J2.m hi (Aj xl (by decide)) (D _ _ ⟨p,_,rfl,J2.put (by rw[AN,AV,An,Ax];lia) fun e q=>?_⟩)
    rcases AS.1 q with q | q
    .exact J2.b e (BG q)
    .rcases Ai.1 q with rfl | q
     .exact hy
     .exact J2.b e (BV q)
   clear g hi xi T3 e3 u0 u1;rintro B C5 ⟨p,ys,rfl,g⟩;refine qX (fun B C'=>∃p ys,B=[some (.ref t),some (.tup xs),some (.int v),some (.ref p),some (.int (i:Nat))]/\OJ C C' t ns p ys 3000002) (fun L1 D=>?_) ?_
   .refine vX (kX _ _) (zZ (fun J=>?_) fun J=>aQ (D _ _ ⟨p,ys,rfl,g.up (by lia)⟩))
    have ek:(i:Int)+1=((i+1:Nat):Int):=by lia
    have hl:=g.l;refine kH g.m fun aj h1=>?_;rw[uR];refine yK ?_;rw[ek];refine kH (Gr.new h1 _ _ _ g.m) fun ak h2=>?_;rw[yR];refine jH (Gr.new h2 _ _ _ jQ) jQ (by rw[An,Ax];exact ae (by lia)) fun ab h3=>?_;exact D _ _ ⟨ab,_,rfl,g.join h1 h2 h3 (by rw[An,Ax];lia) (fun e q=>BG q) fun e q=>BV q⟩
   clear g;rintro B C6 ⟨p,ys,rfl,g⟩;refine qX (fun B C'=>∃p ys,B=[some (.ref t),some (.tup xs),some (.int v),some (.ref p),some (.int (i:Nat))]/\OJ C C' t ns p ys 3000003) (fun L1 D=>?_) ?_
   .refine vX (kX _ _) (zZ (fun J=>?_) fun J=>aQ (D _ _ ⟨p,ys,rfl,g.up (by lia)⟩))
    have ek:(if (i:Int) - 1 > 0 then (i:Int) - 1 else 0)=((i - 1:Nat):Int):=by split<;>lia
    have hl:=g.l;refine kH g.m fun aj h1=>?_;rw[uR];refine i_i (bC ?_);rw[ek];refine kH (Gr.new h1 _ _ _ g.m) fun ak h2=>?_;rw[yR];refine jH (Gr.new h2 _ _ _ jQ) jQ (by rw[An,Ax];exact ae (by lia)) fun ab h3=>?_;exact D _ _ ⟨ab,_,rfl,g.join h1 h2 h3 (by rw[An,Ax];lia) (fun e q=>BG q) fun e q=>BV q⟩
   clear g;rintro B C7 ⟨p,ys,rfl,g⟩;refine qX (fun B C'=>∃p ys,B=[some (.ref t),some (.tup xs),some (.int v),some (.ref p),some (.int (i:Nat))]/\OJ C C' t ns p ys 3000003) (fun L1 D=>?_) ?_
   .refine vX (kX _ _) (zZ (fun J=>?_) fun J=>aQ (D _ _ ⟨p,ys,rfl,g⟩))
    exact⟨yV g.m,Wf g.m (D _ _ ⟨p,_,rfl,g.put (by rw[Cq];exact g.l) fun e q=>g.b e (List.mem_reverse.1 q)⟩)⟩
   clear g;rintro B C8 ⟨p,ys,rfl,g⟩;refine qX (fun B C'=>∃p ys,B=[some (.ref t),some (.tup xs),some (.int v),some (.ref p),some (.int (i:Nat))]/\OJ C C' t ns p ys 3000004) (fun L1 D=>?_) ?_
   .refine vX (kX _ _) (zZ (fun J=>?_) fun J=>aQ (D _ _ ⟨p,ys,rfl,g.up (by lia)⟩))
    refine kH g.m fun aj h1=>?_;rw[yR];refine kH (Gr.new h1 _ _ _ g.m) fun ak h2=>?_;rw[uR];have hl:=g.l;refine jH (Gr.new h2 _ _ _ jQ) jQ (by rw[An,Ax];exact ae (by lia)) fun ab h3=>?_;exact D _ _ ⟨ab,_,rfl,g.join h1 h2 h3 (by rw[An,Ax];lia) (fun e q=>BV q) fun e q=>BG q⟩
   clear g;rintro B C9 ⟨p,ys,rfl,g⟩;exact lJ g.m (ag _ C9 (.tup (AW g.l (by lia)) g.b) g.T g.e)
  rintro B C2 ⟨rfl,rfl⟩;refine tQ (T:=.bl) rfl (k:=.tup) rfl ?_;refine fX rfl (aQ ?_);refine tQ (T:=.int) rfl (k:=.tup) rfl ?_;refine fX rfl (gW rfl (aQ ?_));refine tQ (T:=.str) rfl (k:=.tup) rfl ?_;refine fX rfl (gW rfl (aQ ?_));exact af _ O Y
 .have hn:sc x=true:=by
   obtain⟨p,_,_⟩:=hx
   cases p with
   |tup h=>exact absurd ⟨_,rfl⟩ ai
   |_=>rfl
  have ah:∀(ys:List PV)(m v:Int)C2 p,(ys.length:Int)=m->0<=v->v < m->(∀y∈ys,Bo (gQ C2 p (.lst ys)) y)->C2 p=none->Tp C2 t ns->Ex t C C2->cIx (.ref p) (.int v) (gQ C2 p (.lst ys)) R:=fun ys m v C2 p ao ar m1 hy I T2 e2=>by
   obtain⟨y,aq,ea⟩:=Ja ao ar m1;exact gJ jQ ea (ag y _ (hy y aq) (T2.new I _) (e2.trans (Ex.new I _)))
  have skip:∀n:Ty,tyP C1 x=some n->n≠.tup->n≠.lst->[Ty.tup,.lst].any (bZ n)=false:=fun n _ h1 h2=>by cases n<;>first | rfl | exact absurd rfl h1 | exact absurd rfl h2
  have lx:=hx.l
  cases x with
  |non =>
   refine oX ⟨y0 2 rfl,vU [.tup,.lst] (n:=.non) rfl (fX rfl (gW rfl (aQ ?_)))⟩;refine tQ (T:=.bl) rfl (k:=.non) rfl (fX rfl (aQ ?_));refine tQ (T:=.int) rfl (k:=.non) rfl (fX rfl (gW rfl (aQ ?_)));refine tQ (T:=.str) rfl (k:=.non) rfl (fX rfl (gW rfl (aQ ?_)));exact af _ O Y
  |bl b =>
   refine oX ⟨y0 2 rfl,vU [.tup,.lst] (n:=.bl) rfl (fX rfl (gW rfl (aQ ?_)))⟩;refine tQ (T:=.bl) rfl (k:=.bl) rfl (jZ rfl (Xe ⟨y0 2 rfl,fun p I=>?_⟩));refine⟨by show(0:Int) < 2;decide,?_⟩;exact ah _ 2 _ C1 p rfl (by lia) (by lia) (jX (.int _) (jX (.bl _) oU)) I O Y
  |int i =>
   have hi:Bd i:=by cases lx with | int h=>exact h
   delta Bd at hi
   refine oX ⟨y0 2 rfl,vU [.tup,.lst] (n:=.int) rfl (fX rfl (gW rfl (aQ ?_)))⟩;refine tQ (T:=.bl) rfl (k:=.int) rfl (fX rfl (aQ ?_))
   try dsimp only
   refine qX (fun B C'=>C'=C1/\B=[some (.ref t),some (.int i),some (.int v),none,none]) (fun L hL=>?_) ?_
   .refine tQ (T:=.int) rfl (k:=.int) rfl (jZ rfl (i_i (zZ (fun Z=>?_) fun Z=>aQ (hL _ _ ⟨rfl,rfl⟩))))
    have Z:=Aa Z;refine yK (vX (kX _ _) (strI_s (by lia) (i_i ⟨y0 5 rfl,fun p I=>?_⟩)));exact ah _ 5 _ C1 p rfl (by lia) (by lia) (jX (.int _) (jX (.bl _) (jX (.str (by have:=txI_len (i:=i) (by lia);lia)) (jX (.int _) (jX (.int _) oU))))) I O Y
   rintro B C2 ⟨rfl,rfl⟩;refine tQ (T:=.str) rfl (k:=.int) rfl (fX rfl (gW rfl (aQ ?_)));exact af _ O Y
  |str z =>
   have hz:z.length<=8:=by cases lx with | str h=>exact h
   refine oX ⟨y0 2 rfl,vU [.tup,.lst] (n:=.str) rfl (fX rfl (gW rfl (aQ ?_)))⟩
   try dsimp only
   refine tQ (T:=.bl) rfl (k:=.str) rfl (fX rfl (aQ ?_))
   try dsimp only
   refine tQ (T:=.int) rfl (k:=.str) rfl (fX rfl (gW rfl (aQ ?_)))
   try dsimp only
   refine qX (fun B C'=>C'=C1/\B=[some (.ref t),some (.str z),some (.int v),none,none]) (fun L hL=>?_) ?_
   .refine tQ (T:=.str) rfl (k:=.str) rfl (jZ rfl (i_i (zZ (fun Z=>?_) fun Z=>aQ (hL _ _ ⟨rfl,rfl⟩))))
    have Z:=Aa Z;refine adds_s (ae (by show z.length+1<=_;lia)) (slS_s (ae (by lia)) (upper_s rfl (by lia) fun y hy=>⟨y0 5 rfl,fun p I=>?_⟩));exact ah _ 5 _ C1 p rfl (by lia) (by lia) (jX (.str (by rw[str_app];show z.length+1<=_;lia)) (jX (.str (AW (Txt.slice_le _ _ _) (by lia))) (jX (.str (by lia)) (jX (.str (by decide +kernel)) (jX (.str (by decide +kernel)) oU))))) I O Y
   rintro B C2 ⟨rfl,rfl⟩;exact af _ O Y
  |_=>exact absurd hn AJ
inductive gBe(d:Nat)(ts:List PV)(C:CH)(Q:K1):Prop
 |mk(t:Addr)(ns:List Int)(x:PV)(z0:ts=[.ref t,x])(z1:Tp C t ns)(z2:Bp d x)(z3:∀y C',Bo C' y->Tp C' t ns->Ex t C C'->Q y C')
def gBeL(d:Nat):GC:=fun ts C Q=>∃d',d=d'+1/\gBe d' ts C Q
def yC(T:Tx W a)d r(h3:3<=r)(fS:Ok W a r 38 U5 (gBeL d)):Ok W a (r+1) 38 U5 (gBe d):=by
 have S:=(T.F 38 rfl).s;have bQ:=(eZ T).mono (show 1<=r by lia);have VH:=(W2 T).mono (show 3<=r by lia)
 refine(T.F 38 rfl).ok (fun ts C R h=>?_) fun ai A aj s H E U=>⟨_,(xQ (sQ (cw_pt (cw_or (dJ (aX (cQ qL vE rfl T.mQ rfl (qQ (cv 1) (ca1 (lQ (qQ (fZ rfl T.xX rfl) (ca1 (fZ rfl T.jB rfl))))))))) (cw_or (ct2 bX iQ (cln T.sZ (cv 1)) zQ) (cw_or1 (ct2 bX iQ (cf (T.F 14 rfl) bQ U (qQ (cv 0) (ca1 zQ))) zQ))))) (kQ (yQ (cf (T.F 37 rfl) VH U (qQ (cv 0) (ca1 (cv 1)))))) pQ)
  (xQ (cs1 2 S.nd (lZ cU pI rfl T.jB rfl (ca1 (cv 1))))
  (xQ (cs1 3 S.nd (cf (T.F 14 rfl) bQ U (qQ (cv 0) (ca1 (cln T.sZ (cv 2))))))
  (xQ (kP (cf (T.F 38 rfl) fS U (qQ (cv 0) (ca1 (cx (cv 2) (cv 3))))) (bM (cv 2) (cv 3)))
  (kQ (yQ (sD (aX (cQ nQ lX rfl T.mQ rfl (qQ (cv 1) (ca1 (fZ rfl T.xX rfl))))) (ctp T.xX (cv 2)) (cv 2)))))))),?_⟩
 .obtain ⟨_,_,_,rfl,_⟩:=h;rfl
 rintro ts C R ⟨t,ns,x,rfl,hT,hx,af⟩;have ae:∀C2,Tp C2 t ns->Ex t C C2->gOth [.ref t,x] C2 R:=fun C2 Z D=>⟨t,ns,d,x,rfl,Z,hx,fun y C3 hy T3 I=>af y C3 hy T3 (D.trans I)⟩
 by_cases ab:∃xs,x=.tup xs
 .obtain ⟨xs,rfl⟩:=ab
  obtain⟨xl,xi⟩:=hx.it;refine qX (fun ag C'=>0 < xs.length/\Tp C' t ns/\Ex t C C'/\ag=[some (.ref t),some (.tup xs),none,none]) (fun L hL=>?_) ?_
  .refine ⟨by decide,vU [.tup,.lst] rfl (aG (vY (vX (kX _ _) (zZ (fun J=>?_) fun J=>?_))))⟩
   .exact pB rfl (ae C hT Ex.refl)
   .have h0:=BR J
    refine⟨t,4,ns,rfl,hT,by decide,by decide,fun v C1 ak ao g q=>vX (kX _ _) (zZ (fun ah=>ae C1 g q) fun ah=>aQ (hL _ _ ⟨by lia,g,q,rfl⟩))⟩
  rintro ag C1 ⟨h0,g,q,rfl⟩;refine uQ fun p O=>?_;have Y:=g.ne O;refine uQ (fB jQ ⟨t,_,ns,rfl,g.new O _,by lia,by lia,fun u C2 u0 u1 Z D=>?_⟩);obtain⟨i,rfl⟩:∃i:Nat,u=(i:Nat):=⟨u.toNat,by lia⟩;have hi:i < xs.length:=by lia
  have m2:=D _ _ Y jQ;obtain⟨d',rfl,J⟩:=xi xs[i] (BH hi);refine oX (gJ m2 (bF hi) ⟨d',rfl,t,ns,xs[i],rfl,Z,J,fun y C3 hy T3 I=>?_⟩);have m3:=I _ _ Y m2;refine KB m3 (YA hi) (tQ rfl rfl (jZ rfl (lJ jQ (af _ _ (.tup (by rw[List.length_set];lia) fun e B=>?_) (T3.put Y _) ((((q.trans (Ex.new O _)).trans D).trans I).put (q.none Y O) _)))))
  rcases List.mem_or_eq_of_mem_set B with B | rfl
  .obtain ⟨_,_,h⟩:=(xi e B)
   exact h.bo
  .exact hy.put m3
 .have hn:tyP C x=some .tup->False:=fun h=>by cases x<;>first | exact ab ⟨_,rfl⟩ | cases h | (rcases Za h with z | z<;>cases z)
  have hl:∃n,tyP C x=some n/\[Ty.tup,.lst].any (bZ n)=false:=by
   obtain⟨p,_,_⟩:=hx
   cases p with
   |tup h=>exact absurd ⟨_,rfl⟩ ab
   |_=>exact⟨_,rfl,rfl⟩
  obtain⟨n,hn,B⟩:=hl;refine oX ⟨by decide,vU [.tup,.lst] hn ?_⟩;exact B▸yZ (ae C hT Ex.refl)
def ok_bent(T:Tx W a)d:Ok W a (d+4) 38 U5 (gBe d):=by
 induction d with
 |zero=>exact yC T 0 3 (AH _) (oJ fun ts C Q g=>zX g fun d' e _=> by lia)
 |succ d D =>
  have q:gBeL (d+1)=gBe d:=by
   funext ts C Q
   refine propext ⟨fun g=>zX g fun B z h=> ?_,fun h=>⟨d,rfl,h⟩⟩;cases Ay z;exact h
  exact yC T (d+1) (d+4) (BZ _ _) (by rwa [q])
end
theorem zR: ∀l:List Nat,(l.filter fun c=>!f c).isEmpty=l.all f
 |[]=>rfl
 |c::l=>by
  rw[List.filter_cons,CQ,<- zR l];cases f c<;>rfl
abbrev ABC:Str:="abcdefghijklmnopqrstuvwxyz"
section
variable {W:Wd}{a:Adr}
theorem bR: ∀(cs:List Nat)B C,Gr C0 C->B.length+cs.length<=sizeLine->(∀p C',C0 p=none->Gr C0 C'->C' p=some (.lst (B++(cs.filter fun c=>!gD c).map fun c=>PV.str ⟨#[c]⟩))->Q (.ref p) C') ->
  cJ (tR (cOp XH (bY 0) (cC (.str ABC)))) (bY 0) O Q (cs.map fun c=>PV.str ⟨#[c]⟩) B C
 |[],B,C,g,_,q=>mR fun p I=>q p _ (zI g I) (g.trans (Gr.new I _)) (by rw[jQ];simp)
 |c::cs,B,C,g,J,q=>by
  rw[AV] at J;refine yP (ninT_s ?_);show qD _ (.bl (!gD c)) C
  cases e:gD c with
  |false =>
   refine jZ rfl ⟨by lia,bR cs _ C g (by grind) fun p C' h1 h2 D=>q p C' h1 h2 ?_⟩;rw[D,List.filter_cons,e]
   simp
  |true =>
   refine fX rfl (bR cs _ C g (by lia) fun p C' h1 h2 D=>q p C' h1 h2 ?_);rw[D,List.filter_cons,e]
   simp
inductive gLn(ts:List PV)(C:CH)(Q:K1):Prop
 |mk(x:PV)(z0:ts=[x])(z1:Th C x)(z2:∀z,x=.str z->z.length<=sizeLine)(z3:∀C',Gr C C'->Q (.bl (aL x)) C')
def QQ(T:Tx W a):Ok W a 1 39 ["_law_thing"] gLn:=by
 have S:=(T.F 39 rfl).s
 refine(T.F 39 rfl).ok (fun ts C R h=>?_) fun ab A ae s H E Y=>⟨_,(xQ (sQ (cw_pt (cw_or (dJ (aX (cQ nQ lX rfl T.mQ rfl (qQ (cv 0) (ca1 (fZ rfl T.wN rfl)))))) (cw_or (ct2 rY mV (cln T.sZ (cv 0)) zQ) (cw_or1 (ct2 wV sJ (cln T.sZ (cv 0)) zQ))))) (kQ (yQ aJ)) pQ)
  (kQ (yQ (iK (WX (YK Y)) Vo (hW rfl (S.c (by decide +kernel)) (S.k (L:=0) rfl rfl rfl (by decide +kernel)) (Gu (cv 0)) (fun _ _ _ _ _=>(Gy (uF vA ZX (cv 0) vQ rfl))) (fun _ _ _ _ _=>(cv 0))) (mX pZ) (uW _))))),?_⟩
 .obtain ⟨_,rfl,_⟩:=h;rfl
 rintro ts C R ⟨x,rfl,Z,U,q⟩
 cases Z with
 |str z =>
  have B:=U z rfl;have D:qB z=false->R (.bl false) C:=fun e=>by have:=q C Gr.refl;rwa [show aL (.str z)=false from e] at this
  refine qX (fun I C'=>C'=C/\I=[some (.str z)]/\decide ((1:Int)<=(z.length:Nat))=true/\decide (((z.length:Nat):Int)<=8)=true) (fun L O=>?_) ?_
  .refine tQ rfl rfl (aG (Yl B (i_i (zZ (fun h1=>?_) fun h1=>?_))))
   .have h1:=Aa h1
    exact pB rfl (D (by delta qB;rw[AM (by lia)];rfl))
   .have h1:=BR h1
    refine Yl B (i_i (zZ (fun h2=>?_) fun h2=>?_))
    .have h2:=Aa h2
     exact D (by delta qB;rw[AM (show ¬ ((z.length:Nat):Int)<=8 by lia),Bool.and_false];rfl)
    .have h2:=BR h2
     exact aQ (O _ _ ⟨rfl,rfl,Ad (by lia),Ad (by lia)⟩)
  rintro I C' ⟨rfl,rfl,h1,h2⟩;refine bR z.cps.toList [] C' Gr.refl (by rwa [BQ,BU,A3]) fun p C1 _ J m1=>?_;refine⟨by decide,fun p2 g=>eqNil_s (Gr.new g _ _ _ m1) jQ ?_⟩
  have e:aL (.str z)=([]++(z.cps.toList.filter fun c=>!gD c).map fun c=>PV.str ⟨#[c]⟩).isEmpty:=by
   show((decide ((1:Int)<=(z.length:Nat))&&decide (((z.length:Nat):Int)<=8))&&z.cps.toList.all gD)=_;rw[h1,h2,CU,List.isEmpty_map,zR]
   rfl
  exact e▸q _ (J.trans (Gr.new g _))
 |lst h=>exact oX (tQ rfl h (yZ (q C Gr.refl)))
 |dct h=>exact oX (tQ rfl h (yZ (q C Gr.refl)))
 |bl b=>exact oX (tQ rfl rfl (yZ (q C Gr.refl)))
 |_=>exact oX (tQ rfl rfl (yZ (q C Gr.refl)))
inductive gLnu(ts:List PV)(C:CH)(Q:K1):Prop
 |mk(x:PV)(z0:ts=[x])(z1:Th C x)(z2:Q (.bl (wH x)) C)
def sS(T:Tx W a):Ok W a 1 40 ["_law_thing"] gLnu:=by
 have S:=(T.F 40 rfl).s;refine(T.F 40 rfl).ok (fun ts C R h=>?_) fun B A I s H E D=>⟨_,(kQ (yQ (lR (cQ nQ lX rfl T.mQ rfl (qQ (cv 0) (ca1 (fZ rfl T.rM rfl)))) (lR (GA (cQ nQ lX rfl T.mQ rfl (qQ (cv 0) (ca1 (fZ rfl T.uN rfl))))) (cR (XC vO vO vP vP (rB jY gV (eQ iY aV zQ zQ)) (cv 0) (eQ iY aV zQ zQ))))))),?_⟩
 .obtain ⟨_,rfl,_⟩:=h;rfl
 rintro ts C R ⟨x,rfl,g,q⟩
 cases g with
 |int i =>
  refine tQ rfl rfl (tQ rfl rfl ?_);have e:wH (.int i)=(decide (-1000000000<=i)&&decide (i<=1000000000)):=rfl;rw[e] at q;refine⟨⟨by decide,by decide,by decide⟩,i_i ?_⟩;show qD _ (.bl (decide (-1000000000<=i))) C
  cases h:decide (-1000000000<=i) with
  |false=>rw[h] at q;exact fX rfl q
  |true =>
   rw[h] at q;refine jZ rfl ⟨⟨by decide,by decide,by decide⟩,i_i ?_⟩;exact q
 |lst h=>exact tQ rfl h q
 |dct h=>exact tQ rfl h q
 |bl b=>exact tQ rfl rfl (tQ rfl rfl q)
 |_=>exact tQ rfl rfl q
inductive gLr(ts:List PV)(C:CH)(Q:K1):Prop
 |mk(x:PV)(z0:ts=[x])(z1:Th C x)(z2:Sg x)(z3:∀C',Gr C C'->Q (.bl (rdF x)) C')
def QP(T:Tx W a):Ok W a 2 41 ["_law_thing"] gLr:=by
 have S:=(T.F 41 rfl).s;have kT:=sS T;have Z:=QQ T
 refine(T.F 41 rfl).ok (fun ts C R h=>?_) fun ab A ae s H E U=>⟨_,(xQ (sQ (cw_pt (cw_or (dJ (aX (cQ nQ lX rfl T.mQ rfl (qQ (cv 0) (ca1 (fZ rfl T.xX rfl)))))) (cw_or (ct2 tU bW (cln T.sZ (cv 0)) zQ) (cw_or1 (dJ (aX (cf (T.F 40 rfl) kT U (ca1 (cx (cv 0) zQ))))))))) (kQ (yQ aJ)) pQ)
  (xQ (sQ (cw_pt (cw_or (dJ (aX (cQ nQ lX rfl T.mQ rfl (qQ (cx (cv 0) zQ) (ca1 (fZ rfl T.xX rfl)))))) (cw_or (ct2 tU bW (cln T.sZ (cx (cv 0) zQ)) zQ) (cw_or1 (dJ (aX (cf (T.F 39 rfl) Z U (ca1 (cx (cx (cv 0) zQ) zQ))))))))) (kQ (yQ aJ)) pQ)
  (kQ (yQ (lR (cQ nQ lX rfl T.mQ rfl (qQ (cx (cx (cv 0) zQ) zQ) (ca1 (fZ rfl T.wN rfl)))) (cR (iK tW mU (cx (cx (cv 0) zQ) zQ) (lQ (qQ vQ (qQ vQ (ca1 vQ)))) rfl))))))),?_⟩
 .obtain ⟨_,rfl,_⟩:=h;rfl
 rintro ts C R ⟨x,rfl,hx,hg,q⟩
 cases hx with
 |@tup ts Y =>
  refine oX (tQ rfl rfl (aG (vY (vX (kX _ _) ?_))))
  rcases ts with _ | ⟨D,_ | ⟨n,_ | ⟨z,r⟩⟩⟩
  .exact jZ rfl (pB rfl (q C Gr.refl))
  .exact jZ rfl (pB rfl (q C Gr.refl))
  .refine fX rfl (yX rfl ⟨n,rfl,Y n (by simp),?_⟩)
   cases J:wH n with
   |false =>
    have e:rdF (.tup [D,n])=false:=by show(wH n&&quF D)=_;rw[J];rfl
    rw[e] at q;exact yZ (q C Gr.refl)
   |true =>
    have e:rdF (.tup [D,n])=quF D:=by show(wH n&&quF D)=_;rw[J];rfl
    rw[e] at q;refine aG (aQ ?_)
    cases Y D AF with
    |@tup qs O =>
     refine oX (yX rfl (tQ rfl rfl (aG (yX rfl (vY (vX (kX _ _) ?_))))))
     rcases qs with _ | ⟨B,_ | ⟨m,_ | ⟨z,r⟩⟩⟩
     .exact jZ rfl (pB rfl (q C Gr.refl))
     .exact jZ rfl (pB rfl (q C Gr.refl))
     .refine fX rfl (yX rfl (yX rfl ⟨m,rfl,O m (by simp),fun z hz=>hg B z n (by rw[hz]),fun C1 g=>?_⟩))
      cases I:aL m with
      |false =>
       have e:quF (.tup [B,m])=false:=by show(eS ["take","box","down"] B&&aL m)=_;rw[I,Bool.and_false]
       rw[e] at q;exact yZ (q C1 g)
      |true =>
       have e:quF (.tup [B,m])=eS ["take","box","down"] B:=by show(eS ["take","box","down"] B&&aL m)=_;rw[I,Bool.and_true]
       rw[e] at q;refine aG (aQ ?_);refine yX rfl (yX rfl ?_)
       cases (O B AF).gr g with
       |str z =>
        refine tQ rfl (k:=.str) rfl ?_;refine yX rfl (yX rfl ⟨by decide,iA (ss:=["take","box","down"]) ?_⟩)
        have e2:decide (z∈(["take","box","down"]:List Str))=eS ["take","box","down"] (.str z):=by
         show _=(["take","box","down"]:List Str).contains z;rw[CZ,decide_eq_true_iff,List.contains_iff_mem]
        rw[e2];exact q C1 g
       |lst h=>exact tQ (T:=.str) rfl h (q C1 g)
       |dct h=>exact tQ (T:=.str) rfl h (q C1 g)
       |bl b=>exact tQ (T:=.str) rfl (k:=.bl) rfl (q C1 g)
       |_=>exact tQ (T:=.str) rfl rfl (q C1 g)
     .exact jZ (Zw _ _ _ _ _ rfl) (pB rfl (q C Gr.refl))
    |lst h=>exact oX (yX rfl (tQ (T:=.tup) rfl h (yZ (q C Gr.refl))))
    |dct h=>exact oX (yX rfl (tQ (T:=.tup) rfl h (yZ (q C Gr.refl))))
    |_=>exact oX (yX rfl (tQ (T:=.tup) rfl rfl (yZ (q C Gr.refl))))
  .exact jZ (Zw _ _ _ _ _ rfl) (pB rfl (q C Gr.refl))
 |lst h=>exact oX (tQ (T:=.tup) rfl h (yZ (q C Gr.refl)))
 |dct h=>exact oX (tQ (T:=.tup) rfl h (yZ (q C Gr.refl)))
 |_=>exact oX (tQ (T:=.tup) rfl rfl (yZ (q C Gr.refl)))
def Zk(T:Tx W a):Ok W a 24 42 U9 gLp:=by
 have S:=(T.F 42 rfl).s;have nG:=(sL T).mono (show 19<=23 by decide)
 refine(T.F 42 rfl).ok (fun ts C R h=>?_) fun aq A au s H E B=>⟨_,(xQ (sQ (cw_pt (cw_or (dJ (aX (cQ nQ lX rfl T.mQ rfl (qQ (cv 1) (ca1 (fZ rfl T.xX rfl)))))) (cw_or (ct2 tU bW (cln T.sZ (cv 1)) zQ) (cw_or1 (dJ (aX (cQ nQ lX rfl T.mQ rfl (qQ (cx (cv 1) zQ) (ca1 (fZ rfl T.xX rfl)))))))))) (kQ (yQ aJ)) pQ)
  (xQ (sQ (uF tW mU aJ (hW rfl (S.c (by decide +kernel)) (S.k (L:=0) rfl rfl rfl (by decide +kernel)) (dU (cx (cv 1) zQ)) (fun _ _ _ _ _=>wK) (fun _ _ _ _ _=>(cf (T.F 41 rfl) ((QP T).mono (show 2<=23 by decide)) B (ca1 (cv 0))))) rfl) (kQ (yQ aJ)) pQ)
  (kQ (yQ (cf (T.F 35 rfl) ((uO T 19).mono (show 21<=23 by decide)) B (qQ (cf (T.F 33 rfl) nG B (qQ (cv 0) (ca1 (lZ (sR rfl (qI B)) yE rfl T.yN rfl (ca1 (cx (cv 1) zQ)))))) (ca1 (cv 1)))))))),?_⟩
 .obtain ⟨_,_,_,_,rfl,_⟩:=h;rfl
 rintro ts C R ⟨ae,x,rs,cap,rfl,D,hx,hg,ah⟩;have q:∀C',(∀A,ABd A->x≠(bJ A ae).pv)->Gr C C'->R (.bl false) C':=fun C' h g=>ah false C' ⟨(fun z=>nomatch z),fun zz=>zX zz fun A k e=> (h A k e).elim⟩ g
 cases hx with
 |@tup ts ag =>
  refine oX (tQ rfl rfl (aG (vY (vX (kX _ _) ?_))))
  rcases ts with _ | ⟨r,_ | ⟨y,_ | ⟨z,_ | ⟨u,l⟩⟩⟩⟩
  .exact jZ rfl (pB rfl (q C (fun A _ e=>nomatch PV.tup.inj e) Gr.refl))
  .exact jZ rfl (pB rfl (q C (fun A _ e=>nomatch PV.tup.inj e) Gr.refl))
  .exact jZ rfl (pB rfl (q C (fun A _ e=>nomatch PV.tup.inj e) Gr.refl))
  .refine fX rfl (yX rfl ?_)
   have ab:(∀ts,r≠.tup ts)->∀A,ABd A->PV.tup [r,y,z]≠(bJ A ae).pv:=fun h A _ e=>by
    injection (PV.tup.inj e) with J _
    exact h _ J
   cases ar:ag r AF with
   |@tup ts ao =>
    refine tQ rfl rfl (aG (aQ ?_));have Z:=hg ts y z rfl;refine oX (yX rfl (cD (fun t=>.bl (rdF t)) ts [] C Gr.refl (by rw[BQ,BU];exact Z.1) (fun t ht C1 Q' O hq=>⟨t,rfl,(ao t ht).gr O,Z.2 t ht,fun C2 U=>hq C2 U⟩) fun p C1 _ O m1=>?_))
    apply inF_s (by rw[m1,CU,Be];rfl)
    cases B:(ts.map rdF).all id with
    |false =>
     refine jZ rfl (q C1 (fun A I e=>?_) O);injection (PV.tup.inj e) with J _
     have:=Ju (oF D I);rw[<- J] at this;have this:(ts.map rdF).all id=true:=this;rw[B] at this;cases this
    |true =>
     refine fX rfl (aQ ?_);obtain⟨cs,rfl,Y⟩:=eE B;refine yX rfl (J7 (eG Y) ?_ fun d ak=>?_)
     .delta dOf
      rw[AB];have:=Z.1
      rwa [AB] at this
     have I:ABd (mergeG [] (dOf cs)):=uC _ _ (Gg Y) fun _ z=>nomatch z;refine⟨ae,d,_,rs,cap,rfl,D,jQ,I,fun C2 U=>?_⟩;have af:=(O.trans (Gr.new ak _)).trans U;refine⟨_,_,rfl,(Th.tup ag).gr af,(WQ (xC D I)),AW (WO D I) (by decide),fun b C3 hb ai=>ah b C3 ?_ (af.trans ai)⟩;rw[hb];refine⟨fun e=>⟨_,I,e⟩,fun zz=>zX zz fun A aj e=> ?_⟩;injection (PV.tup.inj e) with J _
     have e2:=eG Y;rw[(PV.tup.inj J),eG (oF D aj)] at e2;rw[e,(pc_ag D (kO D)).1,A7 e2]
   |lst h=>exact tQ rfl h (yZ (q C (ab fun _ e=>nomatch e) Gr.refl))
   |dct h=>exact tQ rfl h (yZ (q C (ab fun _ e=>nomatch e) Gr.refl))
   |_=>exact tQ rfl rfl (yZ (q C (ab fun _ e=>nomatch e) Gr.refl))
  .exact jZ (len4 _ _ _ _ _ _ rfl) (pB rfl (q C (fun A _ e=>nomatch PV.tup.inj e) Gr.refl))
 |lst h=>exact oX (tQ rfl h (yZ (q C (fun A _ e=>nomatch e) Gr.refl)))
 |dct h=>exact oX (tQ rfl h (yZ (q C (fun A _ e=>nomatch e) Gr.refl)))
 |_=>exact oX (tQ rfl rfl (yZ (q C (fun A _ e=>nomatch e) Gr.refl)))
inductive gRt(ts:List PV)(C:CH)(Q:K1):Prop
 |mk(pt:Pt)(x:PV)(rs:List Str)(cap:Nat)(z0:ts=[pt.pv,x])(z1:PtOk rs cap pt)(z2:Bo C x)(z3:∀C',Gr C C'->Q (.bl true) C')
def W0(T:Tx W a):Ok W a 31 45 U9 gRt:=by
 have O:=(Zk T).mono (show 24<=30 by decide);refine(T.F 45 rfl).ok (fun ts C R h=>?_) fun ae A af s H E q=>⟨_,(kQ (yQ (cf (T.F 35 rfl) ((uO T 1).mono (show 3<=30 by decide)) q (qQ (cf (T.F 10 rfl) (sM T) q (qQ (cv 0) (ca1 (cv 1)))) (ca1 (cf (T.F 42 rfl) O q (qQ (cv 0) (ca1 (cv 1))))))))),?_⟩
 .obtain ⟨_,_,_,_,rfl,_⟩:=h;rfl
 rintro ts C R ⟨I,x,rs,cap,rfl,D,g,ab⟩;refine⟨I,x,rs,cap,rfl,D,g.th,g.pg,fun S C1 h1 B=>⟨I,x,rs,cap,rfl,D,g.th.gr B,g.pg,fun U C2 h2 Y=>⟨.bl U,.bl S,rfl,.bl _,.bl _,by show 1<=3000000;decide,fun b J hb Z=>?_⟩⟩⟩;have:=hb.2 (by lia);exact this▸ab J ((B.trans Y).trans Z)
end
def bo2(h:Bo C x)(k:Bo C y):Bo C (.tup [x,y]):=.tup (by grind) (jX h (jX k oU))
def X4(e:x=.tup xs)(h:¬ (HT.sIx xs.length 0 lo=0/\HT.sIx xs.length xs.length hi=xs.length))(q:Q (.tup (uH xs lo hi)) C):cSlT x lo hi C Q:=by
 subst e
 delta cSlT
 exact⟨h,q⟩
section
variable {W:Wd}{a:Adr}
inductive gRb(ts:List PV)(C:CH)(Q:K1):Prop
 |mk(t:Addr)(ns:List Int)(cs:List (List Str×Int))(z0:ts=[.ref t,.tup (cs.map oZ)])(z1:Tp C t ns)(z2:cs.length<=1000)(z3:∀c∈cs,∀C',Bo C' (.tup (c.1.map PV.str)))(z4:∀y C',Bo C' y->Tp C' t ns->Ex t C C'->Q y C')
def lS(T:Tx W a):Ok W a 3 43 ["_law_tape_here","_law_reads"] gRb:=by
 have S:=(T.F 43 rfl).s;have bQ:=(eZ T).mono (show 1<=2 by decide);have oV:=nL T
 refine(T.F 43 rfl).ok (fun ts C R h=>?_) fun a4 A a6 s H E hr=>⟨_,(xQ (cs1 2 S.nd (lZ cU pI rfl T.jB rfl (ca1 (cv 1))))
  (xQ (cs1 3 S.nd (cf (T.F 14 rfl) bQ hr (qQ (cv 0) (ca1 (eQ uX gX (cln T.sZ (cv 2)) zQ)))))
  (xQ (cs1 4 S.nd (cf (T.F 14 rfl) bQ hr (qQ (cv 0) (ca1 zQ))))
  (xQ (sQ (cw_pt (cw_or (ct2 bX iQ (cv 4) zQ) (cw_or1 (ct2 bX iQ (cln T.sZ (cv 2)) zQ)))) (kQ (aZ (kE A1 PySem.F.slot_list_insert PySem.F.type_list_insert (fun p s σ H x vs v a3 Q=>gO p s σ H x vs v a3 Q) pR (cv 2) (qQ (cv 3) (ca1 (lQ (qQ (lQ (qQ (cx (mX (qQ vQ (qQ vQ (ca1 vQ)))) (cf (T.F 14 rfl) bQ hr (qQ (cv 0) (ca1 zQ)))) (ca1 vQ))) (ca1 (cf (T.F 16 rfl) oV hr (ca1 (cv 0))))))))))) (kQ (sQ (ct2 bX iQ (cv 4) zQ) (kQ (cs1 2 S.nd (eQ uX gX (mW (cv 2) pJ (fJ (cv 3))) (mW (cv 2) (fJ (eQ uX gX (cv 3) zQ)) pJ)))) (kQ (sQ (ct2 bX iQ (cv 4) zQ) (kQ (cs1 2 S.nd (eQ uX gX (mW (cv 2) pJ (fJ (cv 3))) (mW (cv 2) (fJ (cQ (iW rfl) fM rfl T.gT rfl (qQ zQ (ca1 (eQ iJ jJ (cv 3) zQ))))) pJ)))) (kQ (sQ (ct2 bX iQ (cv 4) zQ) (xQ (cs1 3 S.nd (eQ kY bV (cv 3) (cln T.sZ (cv 2))))
  (kQ (kP (lQ (qQ (cx (cx (cv 2) (cv 3)) zQ) (ca1 (eQ uX gX (cx (cx (cv 2) (cv 3)) zQ) (cx (mX (qQ zQ (qQ (rB jY gV zQ) (ca1 (eQ iY aV zQ zQ))))) (cf (T.F 14 rfl) bQ hr (qQ (cv 0) (ca1 zQ)))))))) (bM (cv 2) (cv 3))))) (kQ (aZ (fI A1 DC DB zF cB (cv 2)))))))))))
  (kQ (yQ (ctp T.xX (cv 2)))))))),?_⟩
 .obtain ⟨_,_,_,rfl,_⟩:=h;rfl
 rintro ts C R ⟨t,ns,cs,rfl,hT,hl,hb,ay⟩;have aj:∀{n:Nat},n<=4000000->n<=sizeLine:=fun h=>AW h (by decide)
 have af:∀C',∀e∈cs.map oZ,Bo C' e:=fun C' e g=>by
  obtain⟨c,hc,rfl⟩:=AU.1 g;exact bo2 (hb c hc C') (.int _)
 have xl:(cs.map oZ).length<=1000:=by rw[AB];exact hl
 refine uQ fun p U=>?_;have D:=hT.ne U;refine uQ (fB jQ (yK ⟨t,_,ns,rfl,hT.new U _,by lia,by lia,fun u C2 u0 u1 T2 e2=>?_⟩));obtain⟨i,rfl⟩:∃i:Nat,u=(i:Nat):=⟨u.toNat,by lia⟩;have hi:i<=(cs.map oZ).length:=by lia
 refine uQ ⟨t,5,ns,rfl,T2,by decide,by decide,fun w J w0 w1 T3 e3=>?_⟩;have ae:Ex t C J:=((Ex.new U _).trans e2).trans e3;have q:OJ C J t ns p (cs.map oZ) 1000:=⟨e3 _ _ D (e2 _ _ D jQ),xl,af J,T3,ae,D,U⟩;refine qX (fun ab C'=>∃(p:Addr)(ys:List PV)(x3:Option PV),ab=[some (.ref t),some (.tup (cs.map oZ)),some (.ref p),x3,some (.int w)]/\OJ C C' t ns p ys 2000) (fun L O=>?_) ?_
 .have ai:∀L':CSt->CH->Prop,(∀ab C',(∃(p:Addr)(ys:List PV)(x3:Option PV),ab=[some (.ref t),some (.tup (cs.map oZ)),some (.ref p),x3,some (.int w)]/\OJ C C' t ns p ys 2000)->L' ab C')->isL (.ref p) J/\(3<=sizeLine/\∀p1,J p1=none->Y0 [.ref t,.int 3] (gQ J p1 (.lst [.str "take",.str "box",.str "down"])) fun v Y=>cIx (.ref p1) v Y fun s C5=>2<=sizeLine/\rH [.ref t] C5 fun n Z=>2<=sizeLine/\vL (.ref p) [.int (i:Nat),.tup [.tup [s,.str "ab"],n]] Z fun _ C7=>L' [some (.ref t),some (.tup (cs.map oZ)),some (.ref p),some (.int (i:Nat)),some (.int w)] C7):=fun L' ar=>by
   refine⟨yV q.m,by decide,fun p1 h1=>⟨t,3,ns,rfl,T3.new h1 _,by decide,by decide,fun v Y ak ao T4 I=>?_⟩⟩;obtain⟨y,hy,ey⟩:=Ja (ys:=[.str "take",.str "box",.str "down"]) (m:=3) rfl ak ao;refine gJ (I _ _ (T3.ne h1) jQ) ey ⟨by decide,t,ns,rfl,T4,fun n Z n0 n1 T6 e6=>⟨by decide,?_⟩⟩;have B:OJ C Z t ns p (cs.map oZ) 1000:=⟨e6 _ _ D (I _ _ D (Gr.new h1 _ _ _ q.m)),xl,af Z,T6,((ae.trans (Ex.new h1 _)).trans I).trans e6,D,U⟩
   have aq:Bo Z y:=by
    simp only[List.mem_cons,List.not_mem_nil,or_false] at hy
    rcases hy with rfl | rfl | rfl<;>exact .str (by decide +kernel)
   refine Xf B.m hi (Aj xl (by decide)) (ar _ _ ⟨p,_,_,rfl,B.put (by rw[AN,AV,An,Ax];lia) fun e g=>?_⟩)
   rcases AS.1 g with g | g
   .exact B.b e (BG g)
   .rcases Ai.1 g with rfl | g
    .exact bo2 (bo2 aq (.str (by decide +kernel))) (.int _)
    .exact B.b e (BV g)
  refine vX (kX _ _) (zZ (fun au=>?_) fun au=>?_)
  .exact pB rfl (ai L O)
  .refine fB q.m (vX (kX _ _) (zZ (fun ah=>?_) fun ah=>?_))
   .exact ai L O
   .have h0:=BR ah
    have a5:=q.l;refine vX (kX _ _) (zZ (fun av=>?_) fun av=>?_)
    .refine kH q.m fun az h1=>?_
     rw[uR];refine yK ?_;rw[show(i:Int)+1=((i+1:Nat):Int) by lia];refine kH (Gr.new h1 _ _ _ q.m) fun a0 h2=>?_;rw[yR];refine jH (Gr.new h2 _ _ _ jQ) jQ (by rw[An,Ax];exact aj (by lia)) fun ag h3=>?_;exact O _ _ ⟨ag,_,_,rfl,q.join h1 h2 h3 (by rw[An,Ax];lia) (fun e g=>BG g) fun e g=>BV g⟩
    .refine vX (kX _ _) (zZ (fun aw=>?_) fun aw=>?_)
     .refine kH q.m fun az h1=>?_
      rw[uR];refine i_i (bC ?_);rw[show(if (i:Int) - 1 > 0 then (i:Int) - 1 else 0)=((i - 1:Nat):Int) by split<;>lia];refine kH (Gr.new h1 _ _ _ q.m) fun a0 h2=>?_;rw[yR];refine jH (Gr.new h2 _ _ _ jQ) jQ (by rw[An,Ax];exact aj (by lia)) fun ag h3=>?_;exact O _ _ ⟨ag,_,_,rfl,q.join h1 h2 h3 (by rw[An,Ax];lia) (fun e g=>BG g) fun e g=>BV g⟩
     .refine vX (kX _ _) (zZ (fun ax=>?_) fun ax=>?_)
      .refine uQ (fB q.m ⟨by lia,?_⟩)
       have hn:0 < cs.length:=by rw[AB] at h0;lia
       have hk:i % cs.length < cs.length:=Nat.mod_lt _ hn;dsimp only;rw[show(i:Int) % (((cs.map oZ).length:Nat):Int)=((i % cs.length:Nat):Int) by rw[AB];simp];generalize i % cs.length=k at hk ⊢
       have ea:atI (cs.map oZ) (k:Nat)=some (oZ cs[k]):=by
        have:=bF (xs:=cs.map oZ) (k:=k) (by rw[AB];exact hk)
        rwa [List.getElem_map] at this
       refine gJ q.m ea (yX (v:=.tup (cs[k].1.map PV.str)) rfl (gJ q.m ea (yX (v:=.int cs[k].2) rfl ?_)));refine⟨⟨by decide,by decide,by decide⟩,by decide,fun p1 h1=>⟨t,3,ns,rfl,T3.new h1 _,by decide,by decide,fun v Y ak ao T4 I=>?_⟩⟩
       have:∃j:Int,atI [PV.int 1,.int (-1),.int (10 ^ 9)] v=some (.int j):=by
        have:v=0\/v=1\/v=2:=by lia
        rcases this with rfl | rfl | rfl<;>exact⟨_,rfl⟩
       obtain⟨j,ej⟩:=this;refine gJ (I _ _ (T3.ne h1) jQ) ej (yK ⟨y0 2 rfl,?_⟩);have B:OJ C Y t ns p (cs.map oZ) 1000:=⟨I _ _ D (Gr.new h1 _ _ _ q.m),xl,af Y,T4,(ae.trans (Ex.new h1 _)).trans I,D,U⟩;refine KB B.m (j:=k) (YA (by rw[AB];exact hk)) (O _ _ ⟨p,_,_,rfl,B.put (by rw[List.length_set];lia) fun e g=>?_⟩)
       rcases List.mem_or_eq_of_mem_set g with g | rfl
       .exact B.b e g
       .exact bo2 (hb _ (BH _) _) (.int _)
      .exact ⟨yV q.m,Wf q.m (O _ _ ⟨p,_,_,rfl,q.put (by rw[Cq];lia) fun e g=>q.b e (List.mem_reverse.1 g)⟩)⟩
 rintro ab C9 ⟨p,ys,x3,rfl,B⟩;exact lJ B.m (ay _ C9 (.tup (AW B.l (by lia)) B.b) B.T B.e)
end
def yz8:∀s∈YZ,s.length<=8:=by decide +kernel
def WR{cap}(q:PtOk YZ cap B)(g:ABd A):Bp 18 (bJ A B).pv:=⟨WQ (xC q g),lf_pc yz8 q g,AW (WO q g) (by decide)⟩
def JD A g:(bJ A g).pv=.tup [.tup ((bJ A g).reads.map oZ),.tup (Wt.pvs (bJ A g).row),.tup ((bJ A g).works.map xJ)]:=rfl
def aF{cap}(U:PtOk YZ cap g)(O:ABd A)C:Bo C (.tup ((bJ A g).reads.map oZ))/\Bo C (.tup (Wt.pvs (bJ A g).row))/\Bo C (.tup ((bJ A g).works.map xJ))/\∀c∈(bJ A g).reads,Bo C (.tup (c.1.map PV.str)):=by
 have h:=WR U O;obtain⟨_,hi⟩:=h.it;refine zX (hi _ (by simp:PV.tup ((bJ A g).reads.map oZ)∈_)) fun Y _ q=>?_;refine zX (hi _ (by simp:PV.tup (Wt.pvs (bJ A g).row)∈_)) fun Z _ B=>?_;refine zX (hi _ (by simp:PV.tup ((bJ A g).works.map xJ)∈_)) fun d3 _ D=>?_;refine⟨q.bo,B.bo,D.bo,fun c S=>zX (q.it.2 (oZ c) (AU.2 ⟨c,S,rfl⟩)) fun d4 _ I=>zX (I.it.2 (.tup (c.1.map PV.str)) (by simp)) fun d5 _ J=>?_⟩
 exact J.bo
section
variable {W:Wd}{a:Adr}
inductive gPb(ts:List PV)(C:CH)(Q:K1):Prop
 |mk(t:Addr)(ns:List Int)(pt:Pt)(A:Rds)(cap:Nat)(z0:ts=[.ref t,pt.pv,(bJ A pt).pv])(z1:Tp C t ns)(z2:PtOk YZ cap pt)(z3:ABd A)(z4:∀y C',Bo C' y->Tp C' t ns->Ex t C C'->Q y C')
def rS(T:Tx W a):Ok W a 23 44 U17 gPb:=by
 have S:=(T.F 44 rfl).s;have bQ:=(eZ T).mono (show 1<=22 by decide);have fS:=ok_bent T 18;have gS:=(lS T).mono (show 3<=22 by decide);have eB:=(sP T).mono (show 3<=22 by decide);have nG:=(sL T).mono (show 19<=22 by decide)
 refine(T.F 44 rfl).ok (fun ts C R h=>?_) fun ag A ah s H E J=>⟨_,(xQ (cs1 3 S.nd (cf (T.F 14 rfl) bQ J (qQ (cv 0) (ca1 zQ))))
  (xQ (sQ (ct2 rY mV (cv 3) zQ) (kQ (yQ (cf (T.F 38 rfl) fS J (qQ (cv 0) (ca1 (cv 2)))))) pQ)
  (xQ (sQ (ct2 rY mV (cv 3) zQ) (kQ (yQ (eQ uX gX (lQ (ca1 (cf (T.F 43 rfl) gS J (qQ (cv 0) (ca1 (cx (cv 2) zQ)))))) (Z2 (cv 2) (fJ zQ) pJ)))) pQ)
  (kQ (yQ (eQ uX gX (Z2 (cv 2) pJ (fJ zQ)) (Z2 (cf (T.F 33 rfl) nG J (qQ (cv 1) (ca1 (cf (T.F 28 rfl) eB J (qQ (cv 0) (ca1 (cv 1))))))) (fJ zQ) pJ))))))),?_⟩
 .obtain ⟨_,_,_,_,_,rfl,_⟩:=h;rfl
 rintro ts C R ⟨t,ns,q,A,cap,rfl,hT,g,I,ab⟩;refine uQ ⟨t,5,ns,rfl,hT,by decide,by decide,fun v C1 ai aj U e1=>?_⟩;refine oX (i_i (zZ (fun hb=>?_) fun hb=>aQ ?_))
 .exact ⟨t,ns,_,rfl,U,WR g I,fun y C2 hy B D=>ab y C2 hy B (e1.trans D)⟩
 refine oX (i_i (zZ (fun hb=>?_) fun hb=>aQ ?_))
 .refine tJ (JD A q) (v:=.tup ((bJ A q).reads.map oZ)) rfl ⟨t,ns,_,rfl,U,AW (jO g I) (by decide),fun c hc C'=>(aF g I C').2.2.2 c hc,fun y C2 hy B D=>⟨y0 1 rfl,?_⟩⟩
  refine X4 (JD A q) (show ¬ (HT.sIx 3 0 (some 1)=0/\HT.sIx 3 3 none=3) by decide) (GO (by show 1+2<=sizeLine;decide) ?_);refine zT (aF g I C2) fun _ Y Z _=>?_;exact ab _ C2 (.tup (by show 3<=4000000;decide) (jX hy (jX Y (jX Z oU)))) B (e1.trans D)
 refine X4 (JD A q) (show ¬ (HT.sIx 3 0 none=0/\HT.sIx 3 3 (some 1)=3) by decide) ?_;refine⟨t,ns,q,rfl,U,g.fl,g.fb,fun C2 d A2 m2 af B D=>⟨q,d,A2,YZ,cap,rfl,g,m2,af,fun O ae=>X4 (JD A2 q) (show ¬ (HT.sIx 3 0 (some 1)=0/\HT.sIx 3 3 none=3) by decide) (GO (by show 1+2<=sizeLine;decide) ?_)⟩⟩;refine zT (aF g I O) fun b1 _ _ _=>?_;obtain⟨_,Y,Z,_⟩:=aF g af O;exact ab _ O (.tup (by show 3<=4000000;decide) (jX b1 (jX Y (jX Z oU)))) (B.gr ae) ((e1.trans D).trans (Ex.gr ae))
inductive gLaw(ts:List PV)(C:CH)(Q:K1):Prop
 |mk(ns:List Int)(z0:ts=[.fz (ns.map PV.int)])(z1:ns.length<=63)(z2:∀C',Q (.bl true) C')
def ok_law(T:Tx W a):Ok W a 120 46 ["_law_script"] gLaw:=by
 have S:=(T.F 46 rfl).s;have GS:=(ok_tape T).mono (show 1<=119 by decide);have Qk:=(QO T).mono (show 25<=119 by decide);have eB:=(sP T).mono (show 3<=119 by decide);have nG:=(sL T).mono (show 19<=119 by decide);have fP:=(W0 T).mono (show 31<=119 by decide);have vN:=(W3 T).mono (show 2<=119 by decide);have bS:=(rS T).mono (show 23<=119 by decide);have Qj:=(sM T).mono (show 30<=119 by decide)
 refine(T.F 46 rfl).ok (fun ts C R h=>?_) fun ah A aj s H E B=>⟨_,(xQ (cs1 1 S.nd (cf (T.F 13 rfl) GS B (ca1 (cv 0))))
  (xQ (gM PassesOwn.never rfl rfl T.pW (ca1 zQ) (cg1 2 S.nd) (xQ (sQ (ct2 bX iQ (eQ kY bV (cv 2) zQ) zQ) (xQ (cs1 3 S.nd (cf (T.F 27 rfl) Qk B (ca1 (cv 1))))
  (xQ (cs1 4 S.nd (cf (T.F 33 rfl) nG B (qQ (cv 3) (ca1 (cf (T.F 28 rfl) eB B (qQ (cv 1) (ca1 (cv 3))))))))
  (kQ (sQ (cw_pt (cw_or (dJ (aX (cf (T.F 45 rfl) fP B (qQ (cv 3) (ca1 (cv 4)))))) (cw_or1 (dJ (aX (cf (T.F 45 rfl) fP B (qQ (cv 3) (ca1 (cf (T.F 36 rfl) vN B (ca1 (cv 1))))))))))) (kQ (yQ aJ)) pQ)))) pQ)
  (kQ (sQ (dJ (aX (cf (T.F 45 rfl) fP B (qQ (cv 3) (ca1 (cf (T.F 44 rfl) bS B (qQ (cv 1) (qQ (cv 3) (ca1 (cv 4)))))))))) (kQ (yQ aJ)) pQ))))
  (kQ (yQ (iK op_isB cop_isB (cf (T.F 10 rfl) Qj B (qQ (lQ (qQ vQ (qQ (lQ pZ) (qQ (lQ pZ) (ca1 (lQ pZ)))))) (ca1 (lQ (qQ (lQ pZ) (qQ (lQ pZ) (ca1 (lQ pZ)))))))) aJ (uW _)))))),?_⟩
 .obtain ⟨ns,rfl,_⟩:=h;rfl
 rintro ts C R ⟨ns,rfl,hl,ag⟩;refine uQ ⟨ns,rfl,hl,fun t C1 n1 e1 T1=>qX (fun U C'=>∃O I J:Option PV,U=[some (.fz (ns.map PV.int)),some (.ref t),O,I,J]) (fun L hL=>?_) ?_⟩
 .refine ⟨by decide,by decide,?_⟩
  refine lK (fun zs ρ C'=>∃j O I J,zs=((List.range 18).drop j).map (fun k:Nat=>PV.int (k:Nat))/\ρ=[some (.fz (ns.map PV.int)),some (.ref t),O,I,J]/\Tp C' t ns/\(0 < j->∃g A,I=some g.pv/\J=some (bJ A g).pv/\PtOk YZ 18 g/\ABd A)) ?_ ?_ _ _ _ ⟨0,_,_,_,rfl,rfl,T1,fun h=>absurd h (A9 _)⟩
  .rintro z zs ρ C2 ⟨j,O,I,J,hz,rfl,T2,hj⟩ L1 ae
   obtain⟨ai,rfl,rfl⟩:=aY hz;refine qX (fun U C'=>∃g A,U=[some (.fz (ns.map PV.int)),some (.ref t),some (.int (j:Nat)),some g.pv,some (bJ A g).pv]/\Tp C' t ns/\PtOk YZ 18 g/\ABd A) (fun L2 ab=>?_) ?_
   .refine ⟨by show(0:Int) < 6;decide,vX (kX _ _) (zZ (fun Y=>?_) fun Y=>?_)⟩
    .exact uQ ⟨t,ns,rfl,T2,fun g Z q _ T3 e3=>uQ ⟨t,ns,g,rfl,T3,q.fl,q.fb,fun C4 d A m4 D T4 e4=>⟨g,d,A,YZ,18,rfl,q,m4,D,fun C5 g5=>⟨g,_,YZ,18,rfl,q,(WR q D).bo,fun C6 g6=>aG ⟨t,ns,rfl,(T4.gr g5).gr g6,fun y C7 hy T7 e7=>⟨g,y,YZ,18,rfl,q,hy,fun C8 g8=>aG (aQ (ab _ _ ⟨g,A,rfl,T7.gr g8,q,D⟩))⟩⟩⟩⟩⟩⟩
    .have af:0 < j:=by
      have:=BR Y
      rcases Cw j with z | z
      .subst z;exact absurd rfl this
      .exact z
     obtain⟨g,A,rfl,rfl,q,D⟩:=hj af;exact aQ (ab _ _ ⟨g,A,rfl,T2,q,D⟩)
   rintro U Z ⟨g,A,rfl,T3,q,D⟩;refine⟨t,ns,g,A,18,rfl,T3,q,D,fun y C4 hy T4 e4=>⟨g,y,YZ,18,rfl,q,hy,fun C5 g5=>aG (aQ (ae _ _ ⟨j+1,_,_,_,rfl,rfl,T4.gr g5,fun _=>⟨g,A,rfl,rfl,q,D⟩⟩))⟩⟩
  .rintro ρ C2 ⟨j,O,I,J,_,rfl,_⟩
   exact hL _ _ ⟨_,_,_,rfl⟩
 rintro U C2 ⟨O,I,J,rfl⟩;refine⟨by decide,by decide,by decide,by decide,by decide,by decide,by decide,by decide,?_⟩;have ak:Th C2 (.tup []):=.tup fun _ z=>nomatch z;refine⟨⟨"a",[],[],[]⟩,.tup [.tup [],.tup [],.tup []],[],0,rfl,⟨AY _,(fun _ z=>nomatch z),AY _,(fun _ z=>nomatch z),AY _,AY _,AH _,(fun _ z=>nomatch z),fun _ z=>nomatch z⟩,.tup fun t ht=>?_,fun ts y z e=>?_,fun b Z Y _=>?_⟩
 .simp only[List.mem_cons,List.not_mem_nil,or_false,or_self] at ht
  rwa [ht]
 .cases e
  exact⟨AY _,fun _ z=>nomatch z⟩
 .have:=Y.2 ⟨[],(fun _ z=>nomatch z),rfl⟩
  rw[this];exact isB_s (ag Z)
end
theorem Xd{K:De}{H:Hp}:∀ns:List Int,Reps K H (ns.map V.int) (ns.map PV.int)
 |[]=>.nil
 |n::ns=>.cons (.int n) (Xd ns)
def walk{l:PySem.W.OpenLaw}{af:Program}{ae:List Str}{I:(Str->Option Value)->Heap->Prop}{q:World->Heap->Prop}{d:DefRec}{K:Params->De}(Z:l.most=some 63)(U:d.params.defaults=[])(ab:d.name = "law")(S:∀(w:World)(h:Heap),q w h->(K w.params).In h)(F:∀(w:World)(mg:Str->Option Value)(h:Heap),(K w.params).In h->h.Ns mainGlobals mg->∃a:Adr,Txt l.prog w (K w.params) mg a):
  PySem.W.WalkO af ae I q l.row.toRowW d [] (fun f vs=>PySem.call f vs):=by
 refine L2.walk_of (n:=63) (k:=120) (x:="_law_script") (CX:=fun _=>CX0) (sp:=fun w=>spC (K w.params) gLaw) Z (by decide) U ⟨rfl,by decide,by decide⟩ S ?_ (fun w H a ns Y O g=>?_) fun _ _ _ _ _ z=>z
 .intro w mg fa h D G B
  obtain⟨a,T⟩:=F w mg h D G;rw[ab] at B;have e:=B.symm.trans ((T.F 46 rfl).m rfl);cases e;obtain⟨_,_,_,_,_,_,_,_,_,J,_⟩:=(T.F 46 rfl).F.ex;refine⟨a.d 46,?_,fun base _ _=>ok_law (W:=⟨_,_,_,_,base⟩) T⟩;rw[J];exact fun s u=>.of_eq rfl
 .have hz:Fz (K w.params) H a (ns.map V.int):=by
   rcases g with g | g
   .rcases g with g | ⟨o,g⟩
    .rcases O a with h | ⟨o,xs,h⟩
     .rw [g] at h;cases h
     .rw [g] at h;cases h
    .exact .inl ⟨o,g⟩
   .exact .inr g
  refine⟨[.fz (ns.map PV.int)],fun _=>none,fun v _=>v=.bl true,.cons (.fz hz (Xd ns)) .nil,(fun _ _ z=>nomatch z),⟨ns,rfl,Y,fun _=>rfl⟩,?_⟩;rintro v H' t C' rfl r h' f';cases r
  rfl
end K11
open PySem PySem.W PyProof.Rows
namespace PySem.W.Fast
def Z:=trivial
def tw10113833918858656292:=Z
def tw10301831669149147353:=Z
def tw10308947480074202270:=Z
def tw10399383347063976584:=Z
def tw10481207571886843705:=Z
def tw10674982979857993108:=Z
def tw11053843616069640353:=Z
def tw11227172478240120134:=Z
def tw11725537431168882027:=Z
def tw12183234874666265305:=Z
def tw12192093511763598186:=Z
def tw12236448525779641457:=Z
def tw12248254861118196822:=Z
def tw12282805745137568565:=Z
def tw12333965969876133116:=Z
def tw12542458672165318658:=Z
def tw12750614675563939638:=Z
def tw12997577598385223423:=Z
def tw13116401506013754641:=Z
def tw13161187307781193857:=Z
def tw13225651213248829486:=Z
def tw13275556564920682974:=Z
def tw1351960897708349551:=Z
def tw13650353399337741831:=Z
def tw13659407353344745247:=Z
def tw13693710794068996151:=Z
def tw13722239626340976741:=Z
def tw13973582449987964738:=Z
def tw14240009337410835953:=Z
def tw14481037524908925030:=Z
def tw1462483667767577162:=Z
def tw14701145077162200509:=Z
def tw14773061780564496218:=Z
def tw14781299386209114671:=Z
def tw14962487943781197313:=Z
def tw15033144576266127417:=Z
def tw15123737345514783804:=Z
def tw1521382608515454796:=Z
def tw15266386824949347423:=Z
def tw15513688884709706291:=Z
def tw15515496772886873671:=Z
def tw15608839196536387967:=Z
def tw15656017924020079382:=Z
def tw15676146773959629566:=Z
def tw15744233628908033577:=Z
def tw15751631423984779433:=Z
def tw15788277047553027539:=Z
def tw15976223073842026383:=Z
def tw16028581153549419866:=Z
def tw16118614588751332782:=Z
def tw16222071682960863128:=Z
def tw16222860427502804715:=Z
def tw16298111873301858160:=Z
def tw16382146595364354427:=Z
def tw1662448539462911862:=Z
def tw16996894194063082322:=Z
def tw17528965359211574871:=Z
def tw1759796120297048514:=Z
def tw17629221535072896043:=Z
def tw17648826147643968225:=Z
def tw17729870496553954591:=Z
def tw17898250292874470039:=Z
def tw17916530766493726070:=Z
def tw18106725721253134027:=Z
def tw18171475004473697032:=Z
def tw18352755248456151450:=Z
def tw1838483537222521197:=Z
def tw1846118673699604078:=Z
def tw195353853524053631:=Z
def tw2145793808160983477:=Z
def tw2194643857862973774:=Z
def tw2334760296129865650:=Z
def tw2372966632866505033:=Z
def tw2401110074118368887:=Z
def tw2554516339266281239:=Z
def tw2567927792980420549:=Z
def tw2628242979152529832:=Z
def tw2639715003804826346:=Z
def tw2642277196227622149:=Z
def tw2680804427987968704:=Z
def tw2741178970001095367:=Z
def tw3156966283476868362:=Z
def tw320876495696132541:=Z
def tw3254008678759583606:=Z
def tw3329119557401220819:=Z
def tw3427943883826520392:=Z
def tw3563530194422911620:=Z
def tw3756002336932227252:=Z
def tw3760447545882803208:=Z
def tw3774121934016182856:=Z
def tw3812574323831073248:=Z
def tw3841972320256009423:=Z
def tw3893174665456666901:=Z
def tw392197751210237201:=Z
def tw4115053495919662518:=Z
def tw4369636190877066997:=Z
def tw4440671166352859051:=Z
def tw4750289425447294871:=Z
def tw4822379843799026179:=Z
def tw4862588014310595956:=Z
def tw4981517805664528198:=Z
def tw5062507121302585163:=Z
def tw5200765908000414919:=Z
def tw5217252780662893976:=Z
def tw5468443559028009148:=Z
def tw5517290060905179211:=Z
def tw5534321169580104035:=Z
def tw5556727855361339876:=Z
def tw5559202505568826178:=Z
def tw558674310083484037:=Z
def tw5589202198532141918:=Z
def tw5595918714748295616:=Z
def tw5760883307053429020:=Z
def tw5859408177637881761:=Z
def tw5957842055761004503:=Z
def tw6193359395590600706:=Z
def tw6274156951794933640:=Z
def tw6303829232033186674:=Z
def tw6480114357972756281:=Z
def tw6610100107257095250:=Z
def tw6721307049451138762:=Z
def tw6744322496524171200:=Z
def tw6814312056055545640:=Z
def tw7000414216316258167:=Z
def tw7062195764617678404:=Z
def tw711542373107331205:=Z
def tw7248467187064942622:=Z
def tw7255955433565285192:=Z
def tw7331568688389141811:=Z
def tw7350081270964108896:=Z
def tw7691450141312287917:=Z
def tw777224379571574903:=Z
def tw7780695780698959453:=Z
def tw7869169494904088230:=Z
def tw794836230605976406:=Z
def tw7949136681795350549:=Z
def tw7973896972094367439:=Z
def tw8037485643508486761:=Z
def tw8077348249190153438:=Z
def tw816332354545496839:=Z
def tw832497733544131116:=Z
def tw8327710485199893883:=Z
def tw8354680224803738531:=Z
def tw8398937406828663020:=Z
def tw8485026288271031264:=Z
def tw8935201884014286836:=Z
def tw9130423119969571966:=Z
def tw9290010030175607384:=Z
def tw9481946833869837622:=Z
def tw9518587584259826963:=Z
def tw9577009511005174962:=Z
def tw9692489754544090500:=Z
def tw9736419477082380283:=Z
def tw9740387895042782603:=Z
def tw977436135738249969:=Z
def tw9850249379432552478:=Z
def tw9858692263437188950:=Z
end PySem.W.Fast
set_option maxRecDepth 100000 in
set_option maxHeartbeats 0 in
theorem PySem.Challenge.cw_viewwood_k11_bent_pieces_holds : PySem.Challenge.rw_viewwood_k11_bent_pieces.Holds := by
 w_on;o_law;k_head;(case hw=>w_witness2)
 k_fill
 refine K11.walk (l:=PySem.Challenge.rw_viewwood_k11_bent_pieces) rfl rfl rfl (fun w h Y=>PySem.W.kIn_of Y) ?F
 case F =>
  intro w mg h KX G;refine K11.txt_mk KX G ?_ (by k_is) (by k_is) (by k_is) (by k_is) (by k_is) (by k_is) (by k_is) (by k_is) (by k_is) (by k_is) (by k_is) (by k_is) (by k_is) (by k_is) (by k_is) (by k_is) (by k_is) (by k_is) (by k_is) (by k_is) (by k_is) (by k_is) (by k_is) (by k_is) (by k_is) (by k_is) (by k_is) (by k_is) (by k_is) (by k_is);unfold K11.tab
  repeat first | refine⟨⟨_,_,_,_,_,_,_,_,_,_,by k_is,by k_is,by k_is,by k_is⟩,?_⟩ | refine⟨⟨_,_,_,_,_,_,_,_,_,_,_,by k_is,by k_is,by k_is,by k_is,by k_is,by k_is⟩,?_⟩
  exact trivial
