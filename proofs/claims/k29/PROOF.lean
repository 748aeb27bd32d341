import PyProof.Rows.All
import Wide.All
import OpenK.AllK
import Wide.FinOn
import Lean
import PyProof.EqAt
import PyProof.EqKinds
import PyProof.TupleCall
import PyProof.DictUpdate
import KE.KDictOf
import PyProof.AttrMissHeap
import KE.KSortTup
import KE.KItemsList
import PyProof.DictWalks
import PyProof.Rows.TupDisplay
import KE.KEqDict
import PyProof.NeKinds
import KE.KRevIter
import PyProof.ListRange
import KE.KDictSum
import PyProof.MeetsStr
import PyProof.StrLawsJoin
import PyProof.FitsInt
import PyProof.ZipIter
import PySem.Challenge.RW_viewwood_k29_handed_and_unread
noncomputable section
set_option genSizeOf false
set_option bootstrap.genMatcherCode false
set_option compiler.extract_closed false
set_option compiler.maxRecSpecialize 0
section variable{p q r s t o g:Prop}
def sD(h:p/\q)(k:p->q->g):g:=by obtain⟨B,D⟩:=h;exact k B D
def lT(h:p/\q/\r)(k:p->q->r->g):g:=by obtain⟨B,D,F⟩:=h;exact k B D F
def cT(h:p/\q/\r/\s)(k:p->q->r->s->g):g:=by obtain⟨B,D,F,G⟩:=h;exact k B D F G
def bH(h:p/\q/\r/\s/\t)(k:p->q->r->s->t->g):g:=by obtain⟨B,D,F,G,I⟩:=h;exact k B D F G I
def pT(h:p/\q/\r/\s/\t/\o)(k:p->q->r->s->t->o->g):g:=by obtain⟨B,D,F,G,I,J⟩:=h;exact k B D F G I J
end
section variable{A:Sort _}{p q r s t:A->Prop}{g:Prop}
def PP(h:∃a,p a)(k:∀a,p a->g):g:=by obtain⟨a,q⟩:=h;exact k a q
def sQ(h:∃a,p a/\q a)(k:∀a,p a->q a->g):g:=by obtain⟨a,B,D⟩:=h;exact k a B D
def jJ(h:∃a,p a/\q a/\r a)(k:∀a,p a->q a->r a->g):g:=by obtain⟨a,B,D,F⟩:=h;exact k a B D F
def Jp(h:∃a,p a/\q a/\r a/\s a)(k:∀a,p a->q a->r a->s a->g):g:=by obtain⟨a,B,D,F,G⟩:=h;exact k a B D F G
def XU(h:∃a,p a/\q a/\r a/\s a/\t a)(k:∀a,p a->q a->r a->s a->t a->g):g:=by obtain⟨a,B,D,F,G,I⟩:=h;exact k a B D F G I
end
section variable{A B:Sort _}{p q r s t o:A->B->Prop}{g:Prop}
def PN(h:∃a b,p a b)(k:∀a b,p a b->g):g:=by obtain⟨a,b,q⟩:=h;exact k a b q
def rG(h:∃a b,p a b/\q a b)(k:∀a b,p a b->q a b->g):g:=by obtain⟨a,b,D,F⟩:=h;exact k a b D F
def vZ(h:∃a b,p a b/\q a b/\r a b)(k:∀a b,p a b->q a b->r a b->g):g:=by obtain⟨a,b,D,F,G⟩:=h;exact k a b D F G
def mT(h:∃a b,p a b/\q a b/\r a b/\s a b)(k:∀a b,p a b->q a b->r a b->s a b->g):g:=by obtain⟨a,b,D,F,G,I⟩:=h;exact k a b D F G I
def GH(h:∃a b,p a b/\q a b/\r a b/\s a b/\t a b)(k:∀a b,p a b->q a b->r a b->s a b->t a b->g):g:=by obtain⟨a,b,D,F,G,I,J⟩:=h;exact k a b D F G I J
def PL(h:∃a b,p a b/\q a b/\r a b/\s a b/\t a b/\o a b)(k:∀a b,p a b->q a b->r a b->s a b->t a b->o a b->g):g:=by obtain⟨a,b,D,F,G,I,J,L⟩:=h;exact k a b D F G I J L
end
section variable{A B C:Sort _}{p q r s t o:A->B->C->Prop}{g:Prop}
def PJ(h:∃a b c,p a b c)(k:∀a b c,p a b c->g):g:=by obtain⟨a,b,c,q⟩:=h;exact k a b c q
def Jo(h:∃a b c,p a b c/\q a b c)(k:∀a b c,p a b c->q a b c->g):g:=by obtain⟨a,b,c,D,F⟩:=h;exact k a b c D F
def bT(h:∃a b c,p a b c/\q a b c/\r a b c)(k:∀a b c,p a b c->q a b c->r a b c->g):g:=by obtain⟨a,b,c,D,F,G⟩:=h;exact k a b c D F G
def wX(h:∃a b c,p a b c/\q a b c/\r a b c/\s a b c)(k:∀a b c,p a b c->q a b c->r a b c->s a b c->g):g:=by obtain⟨a,b,c,D,F,G,I⟩:=h;exact k a b c D F G I
def Mf(h:∃a b c,p a b c/\q a b c/\r a b c/\s a b c/\t a b c)(k:∀a b c,p a b c->q a b c->r a b c->s a b c->t a b c->g):g:=by obtain⟨a,b,c,D,F,G,I,J⟩:=h;exact k a b c D F G I J
def GG(h:∃a b c,p a b c/\q a b c/\r a b c/\s a b c/\t a b c/\o a b c)(k:∀a b c,p a b c->q a b c->r a b c->s a b c->t a b c->o a b c->g):g:=by obtain⟨a,b,c,D,F,G,I,J,L⟩:=h;exact k a b c D F G I J L
end
section variable{A B C D:Sort _}{p q r s t o:A->B->C->D->Prop}{g:Prop}
def yu(h:∃a b c d,p a b c d/\q a b c d)(k:∀a b c d,p a b c d->q a b c d->g):g:=by obtain⟨a,b,c,d,F,G⟩:=h;exact k a b c d F G
def TQ(h:∃a b c d,p a b c d/\q a b c d/\r a b c d)(k:∀a b c d,p a b c d->q a b c d->r a b c d->g):g:=by obtain⟨a,b,c,d,F,G,I⟩:=h;exact k a b c d F G I
def GF(h:∃a b c d,p a b c d/\q a b c d/\r a b c d/\s a b c d/\t a b c d)(k:∀a b c d,p a b c d->q a b c d->r a b c d->s a b c d->t a b c d->g):g:=by obtain⟨a,b,c,d,F,G,I,J,L⟩:=h;exact k a b c d F G I J L
def TJ(h:∃a b c d,p a b c d/\q a b c d/\r a b c d/\s a b c d/\t a b c d/\o a b c d)(k:∀a b c d,p a b c d->q a b c d->r a b c d->s a b c d->t a b c d->o a b c d->g):g:=by obtain⟨a,b,c,d,F,G,I,J,L,M⟩:=h;exact k a b c d F G I J L M
end
section variable{A B C D E:Sort _}{p q r s t:A->B->C->D->E->Prop}{g:Prop}
def TF(h:∃a b c d e,p a b c d e/\q a b c d e/\r a b c d e)(k:∀a b c d e,p a b c d e->q a b c d e->r a b c d e->g):g:=by obtain⟨a,b,c,d,e,F,G,I⟩:=h;exact k a b c d e F G I
def Ma(h:∃a b c d e,p a b c d e/\q a b c d e/\r a b c d e/\s a b c d e)(k:∀a b c d e,p a b c d e->q a b c d e->r a b c d e->s a b c d e->g):g:=by obtain⟨a,b,c,d,e,F,G,I,J⟩:=h;exact k a b c d e F G I J
def PB(h:∃a b c d e,p a b c d e/\q a b c d e/\r a b c d e/\s a b c d e/\t a b c d e)(k:∀a b c d e,p a b c d e->q a b c d e->r a b c d e->s a b c d e->t a b c d e->g):g:=by obtain⟨a,b,c,d,e,F,G,I,J,L⟩:=h;exact k a b c d e F G I J L
end
set_option Elab.async false
set_option linter.all false
set_option maxRecDepth 100000
set_option maxHeartbeats 4000000
def ie(n:Nat)(h:n.ble 99=true):n<=PySem.sizeLine:=Nat.le_trans (Nat.le_of_ble_eq_true h) (by decide)
abbrev AA:=@PySem.wpAny_bind
abbrev AC:=@List.length_map
abbrev AD:=@PySem.wpAny_pure
abbrev AE:=@PySem.Heap.get?_push_of_some
abbrev AF:=@List.mem_singleton
abbrev AG:=@List.mem_cons_self
abbrev AH:=@PySem.Heap.lt_size
abbrev AI:=@Nat.le_refl
abbrev AJ:=@List.mem_cons_of_mem
abbrev AK:=@PySem.Heap.get?_push_size
abbrev AL:=@List.mem_map
abbrev AM:=@decide_eq_false
abbrev AN:=@List.getElem?_eq_getElem
abbrev AO:=@List.mem_append_right
abbrev AQ:=@List.length_append
abbrev AR:=@Bool.false_ne_true
abbrev AS:=@List.map_append
abbrev AU:=@List.getElem?_eq_some_iff
abbrev AV:=@List.length_cons
abbrev AW:=@Nat.zero_le
abbrev AX:=@List.append_assoc
abbrev AY:=@Nat.ne_of_lt
abbrev AZ:=@Nat.lt_of_lt_of_le
abbrev Aa:=@List.append_nil
abbrev Ab:=@if_pos
abbrev Ac:=@if_neg
abbrev Ad:=@Nat.le_trans
abbrev Ae:=@List.mem_of_getElem?
abbrev Af:=@decide_eq_true
abbrev Ah:=@Nat.lt_of_le_of_lt
abbrev Ai:=@List.mem_cons
abbrev Aj:=@List.getElem?_map
abbrev Ak:=@List.mem_append_left
abbrev Al:=@Option.some.inj
abbrev Am:=@List.size_toArray
abbrev An:=@Array.getElem?_eq_getElem
abbrev Ao:=@PySem.wpAny_holding
abbrev Ap:=@PySem.W.mg_none_of
abbrev Aq:=@Nat.ne_of_gt
abbrev Ar:=@List.drop_eq_getElem_cons
abbrev As:=@PySem.wpAny_field
abbrev Au:=@List.foldl_append
abbrev Av:=@PySem.wpAny_call_entry
abbrev Aw:=@PySem.wpAny_newObj_type
abbrev Ax:=@List.mem_append
abbrev Ay:=@Array.length_toList
abbrev Az:=@List.cons.inj
abbrev A0:=@PySem.wpAny_seqItems
abbrev A1:=@Nat.succ.inj
abbrev A3:=@List.length_singleton
abbrev A4:=@PySem.Heap.get?_update_self
abbrev A5:=@PySem.wpAny_specialOf
abbrev A6:=@List.length_range
abbrev A7:=@PySem.wpAny_setField_rec
abbrev A8:=@Nat.lt_irrefl
abbrev A9:=@List.map_cons
abbrev BA:=@List.nodup_cons
abbrev BB:=@List.find?_cons
abbrev BC:=@PySem.wpAny_truthy_bool
abbrev BD:=@of_decide_eq_true
abbrev BE:=@Nat.lt_of_succ_lt
abbrev BF:=@Nat.le_succ_of_le
abbrev BG:=@PySem.wpAny_callSpecial?_slot
abbrev BH:=@PySem.lookup_relabel_local
abbrev BI:=@PySem.Heap.get?_update_other
abbrev BJ:=@Bool.and_eq_true
abbrev BK:=@List.take_add_one
abbrev BL:=@PySem.F.slot_dict_get
abbrev BM:=@PySem.W.mg_of
abbrev BN:=@List.any_cons
abbrev BO:=@PySem.W.kia_one
abbrev BP:=@List.map_map
abbrev BQ:=@PySem.wpAny_mono
abbrev BR:=@PySem.wpAny_isInstance
abbrev BS:=@Nat.zero_add
abbrev BU:=@PySem.Heap.SameBut.update
abbrev BV:=@PySem.codeAny_builtin
abbrev BW:=@PySem.wpAny_forIn_list
abbrev BX:=@Nat.le_add_right
abbrev BY:=@PySem.plainId_quiet
abbrev BZ:=@Nat.mul_le_mul_right
abbrev Ba:=@PySem.F.slot_tuple_hash
abbrev Bb:=@PySem.F.slot_dict_keyiterator_next
abbrev Bc:=@Nat.lt_of_succ_lt_succ
abbrev Be:=@Nat.le_of_lt
abbrev Bf:=@Nat.lt_succ_self
abbrev Bg:=@List.length_take
abbrev Bh:=@List.all_eq_true
abbrev Bi:=@List.nodup_nil
abbrev Bj:=@List.mem_range
abbrev Bk:=@Array.forIn_toList
abbrev Bl:=@PySem.isSubtype_tuple_tuple
abbrev Bm:=@List.length_replicate
abbrev Bn:=@List.getElem?_eq_none
abbrev Bo:=@List.mem_of_find?_eq_some
abbrev Bp:=@PySem.wpAny_updateSeq
abbrev Bq:=@Nat.not_lt_zero
abbrev Br:=@Nat.le_add_left
abbrev Bs:=@PySem.F.slot_tuple_eq
abbrev Bu:=@congrArg
abbrev Bv:=@PySem.wpAny_rule
abbrev Bw:=@PySem.F.plainAttrs_list
abbrev Bx:=@PySem.F.plainAttrs_dict
abbrev By:=@List.getElem_mem
abbrev Bz:=@List.drop_length
abbrev B0:=@List.cons_append
abbrev B1:=@PySem.Heap.size_push
abbrev B2:=@PySem.wpAny_typeNameOfWhole_keyiter
abbrev B3:=@PySem.wpAny_tupleItemsOf
abbrev B4:=@PySem.wpAny_passesOwn
abbrev B5:=@PySem.wpAny_notOrdered_dict
abbrev B6:=@PySem.wpAny_callSpecialIfBoundUnlessNone?_slot
abbrev B7:=@List.mem_iff_getElem?
abbrev B8:=@List.flatMap_cons
abbrev B9:=@PySem.F.slot_NoneType_hash
abbrev CC:=@List.getElem?_set_ne
abbrev CD:=@PySem.F.slot_tuple_iterator_next
abbrev CJ:=@PySem.wpAny_typeOf
abbrev CK:=@Nat.lt_or_ge
abbrev CM:=@Nat.le_of_eq
abbrev CN:=@List.not_mem_nil
abbrev CP:=@PySem.F.plain_extend_loop
abbrev CQ:=@PySem.F.entry_extend_loop
abbrev CU:=@List.getElem?_append_left
abbrev CV:=@PySem.mem_of_lookup
abbrev CY:=@List.map_congr_left
abbrev CZ:=@PySem.wpAny_typeNameOf_keyiter
abbrev Ca:=@PySem.wpAny_comprehension_free
abbrev Cb:=@PySem.F.slot_dict_itemiterator_next
abbrev Cc:=@PySem.wpAny_ite_split
abbrev Cd:=@Bool.eq_iff_iff
abbrev Ce:=@PySem.wpAny_pyIter_tuple
abbrev Cf:=@PySem.sizeLine_eq
abbrev Cg:=@Nat.le_succ
abbrev Ci:=@PySem.wpAny_dictEntries
abbrev Cj:=@PySem.F.entry_dict_get
abbrev Ck:=@List.take_of_length_le
abbrev Cm:=@PySem.Calls.callWith_builtin
abbrev Cn:=@PyProof.Rows.slot_tuple_getitem
abbrev Co:=@PySem.builtinLookup_eq_fast
abbrev Cp:=@PySem.F.type_dict_get
abbrev Cq:=@List.getElem?_toArray
abbrev Cr:=@PySem.wpAny_typeNameOfWhole_itemiter
abbrev Cs:=@List.all_cons
abbrev Ct:=@PySem.wpAny_dictEpoch
abbrev Cu:=@beq_false_of_ne
abbrev Cv:=@List.of_mem_zip
abbrev Cw:=@List.nil_append
abbrev Cy:=@PySem.Heap.get?_update_ne
abbrev Cz:=@PySem.call_meetsIn
abbrev DA:=@PySem.wpAny_setField
abbrev DB:=@PySem.wpAny_Call_Name_kw
abbrev DC:=@List.zip_cons_cons
abbrev DD:=@List.getD_eq_getElem?_getD
abbrev DE:=@Int.emod_lt_of_pos
abbrev DF:=@List.getElem?_eq_none_iff
abbrev DG:=@PySem.F.slot_tuple_getattribute
abbrev DH:=@PySem.Calls.call_function_entry
abbrev DI:=@List.reverse_cons
abbrev DJ:=@Int.toNat_natCast
abbrev DK:=@PySem.F.slot_dict_items
abbrev DL:=@PySem.wpAny_attempt
abbrev DM:=@PySem.F.args_tuple_add_2
abbrev DN:=@PySem.wpAny_pyNext_tuple_item
abbrev DO:=@PySem.wpAny_Dict_empty
abbrev DP:=@PySem.F.entry_tuple_add
abbrev DQ:=@List.pairwise_singleton
abbrev DR:=@List.length_eq_zero_iff
abbrev DS:=@List.length_drop
abbrev DT:=@PySem.wpAny_pyNext_tuple_end
abbrev DU:=@PySem.wpAny_isOneOf_itemiter
abbrev DV:=@PySem.codeAny_mono
abbrev DW:=@PySem.call_meets
abbrev DX:=@PySem.F.slot_tuple_add
abbrev DY:=@PySem.wpAny_execs_nil
abbrev DZ:=@PySem.typeLookup_type
abbrev Da:=@List.length_nil
abbrev Dc:=@List.foldl_cons
abbrev Dd:=@Int.emod_nonneg
abbrev De:=@PySem.F.slot_zip_next
abbrev Df:=@PySem.wpAny_newTuple
abbrev Dg:=@PySem.wpAny_letGo
abbrev Dh:=@PySem.callType_codes
abbrev Di:=@Nat.pow_le_pow_right
abbrev Dj:=@List.pairwise_append
abbrev Dk:=@PySem.Calls.evalArgs_plain
abbrev Dl:=PySem.W.Frag
namespace PySem
open Sem (wp)
section
variable {prog:Program}{w:World}{K:Type}[DecidableEq K](knd:KeyKind prog w K)
inductive d9(h:Heap):List (List K)->List Value->Prop
 |nil:d9 h [] []
 |cons {k:List K} {b:Addr} {kss:List (List K)} {vs:List Value}:IsTupleKey knd h k b->d9 h kss vs->d9 h (k::kss) (.ref b::vs)
def di(h:Heap)(g:List (List K))(a:Addr):Prop:=∃o items n,h.get? a=some o/\o.cls=.type "tuple"/\o.data=.seq items n/\d9 knd h g items.toList
variable {knd}
def d9.inj(q:d9 knd h x vs)(g:d9 knd h y vs):x=y:=by
 induction q generalizing y with
 |nil=>(cases g;rfl)
 |cons h1 _ B=>cases g with | cons h2 D=>rw[h1.inj h2,B D]
def d9.keeps(B:d9 knd h x vs)(q:h.get? d=some o)(g:o.data=.dict es ep)(hs:Heap.SameBut d h h'):d9 knd h' x vs:=by
 induction B with
 |nil=>exact .nil
 |cons h1 _ D=>exact .cons (h1.keeps q g hs) D
def di.typeIs{s:Shared}(x:di knd s.heap g a):s.TypeIs (.ref a) "tuple" :=bT x fun o _ _ e c _=>⟨o,e,c⟩
def di.inj(I:di knd h x a)(J:di knd h y a):x=y:=by
 refine wX I fun o L n g _ q B=>wX J fun o' its' M D _ F G=>?_;cases g.symm.trans D;cases q.symm.trans F;exact B.inj G
def di.keeps(x:di knd h L a)(I:h.get? d=some o)(F:o.data=.dict es ep)(hs:Heap.SameBut d h h'):di knd h' L a:=by
 refine wX x fun o' J n g q B D=>?_;have G:a≠d :=by lia
 exact⟨o',J,n,(hs.2 a G).trans g,q,B,D.keeps I F hs⟩
noncomputable def mW(knd:KeyKind prog w K)(g:List (List K)):Int:=reduceHash (Builtin.Tuple.tupleHashOf (g.map (tupleKeyHash knd)))
def wY(g:List (List K)):Nat:=(g.map fun k=>k.length+1).sum+1
variable {A:Around}{E:Value->Shared->Prop}{s:Shared}
def eY(N:A.units+1 < cLine)(L:di knd s.heap I a)(h:Q (mW knd I) { s with toks:=s.toks+wY I }):
  wpAny (model prog w) A (pyHash (.ref a)) Q E s:=by
 have q:=L.typeIs;obtain⟨o,items,n,U,_,S,hi⟩:=L
 (first | delta pyHashByItsType | skip)
 (first | refine AA (wpAny_cRoomFor_or (.inr (BE N)) ?_) | skip)
 refine AA (A5 (by exact q) Ba.lookup (?_));refine AA (A5 (by exact q) Ba.lookup (?_));refine AA (B6 (by exact q) Ba (Av Ba (by exact q) F.entry_tuple_hash (?_) (F.args_tuple_hash_1 _)));show wpAny _ _ (Builtin.Tuple.tupleItemsOf (.ref a) >>= (_)) _ _ s
 (refine AA (B3 U S (AA ?_));rw[<- Bk])
 refine BW _ (fun nX b s'=>∃g left,I=g++left/\d9 knd s.heap left nX/\b.toList=g.map (tupleKeyHash knd)/\s'={ s with toks:=s.toks+(g.map fun k=>k.length+1).sum }) _ ?_ ?_ _ _ ⟨[],I,rfl,hi,rfl,rfl⟩
 .rintro x nX b s' ⟨g,left,rfl,J,B,rfl⟩
  cases J with
  |@cons k Y O _ h1 M =>
   refine AA (wpAny_pyHash_tuple N h1 ?_)
   first
    |exact AD ⟨g++[k],O,by simp,M,by simp[B],by simp[Nat.add_assoc]⟩
    |exact AA (AD (AD ⟨g++[k],O,by simp,M,by simp[B],by simp[Nat.add_assoc]⟩))
 .rintro b s' ⟨g,left,rfl,J,B,rfl⟩
  cases J;rw[Aa] at h
  (show wpAny _ _ (retInt (Builtin.Tuple.tupleHashOf b.toList)) _ _ _;rw[B];apply wpAny_ret_mkInt)
  delta mW reduceHash wY at h
  generalize Builtin.Tuple.tupleHashOf (g.map (tupleKeyHash knd))=D at h ⊢;show wpAny _ _ (if (decide (-(2:Int) ^ 63<=D)&&decide (D < 2 ^ 63))=true then _ else _) Q E _
  by_cases G:(decide (-(2:Int) ^ 63<=D)&&decide (D < 2 ^ 63))=true
  ·(rw[Ab G];rw[Ab G] at h)
   exact AD (by lia)
  ·(rw[Ac G];rw[Ac G] at h)
   exact AA (Bv (AD (by simpa [Nat.add_assoc] using h)))
def eA(hu:A.units < cLine)(hx:di knd s.heap x a)(O:di knd s.heap y b)(h:P (.done (.ret (.bool (decide (x=y))))) s):
  wpAny (model prog w) A (Builtin.«tuple.__eq__» ⟨[.ref a,.ref b],[]⟩) P E s:=by
 refine wX hx fun oa xs av ai _ Y ag=>wX O fun ob ys aw aj _ Z ah=>?_
 (show wpAny _ _ (isInstance (.ref b) (.type "tuple") >>= _) _ _ s;refine AA (BR O.typeIs Bl ?_))
 (refine AA (B3 ai Y (AA (B3 aj Z (AA ?_)))))
 refine BW _ (fun nX r s'=>r.1=none/\s'=s/\∃F G q B,nX=List.zip q B/\d9 knd s.heap F q/\d9 knd s.heap G B/\decide (F=G)=decide (x=y)/\(q.length==B.length)=(xs.size==ys.size)) _ ?_ ?_ _ _ ⟨rfl,rfl,x,y,xs.toList,ys.toList,rfl,ag,ah,rfl,by simp⟩
 .rintro ⟨u,v⟩ nX r s' ⟨N,rfl,F,G,q,B,g,L,D,I,J⟩
  cases L with
  |nil=>simp at g
  |@cons k1 b1 S ar h1 ak =>
   cases D with
   |nil=>simp at g
   |@cons k2 b2 U au h2 aq =>
    (obtain⟨⟨rfl,rfl⟩,rfl⟩:=g)
    refine AA (wpAny_eqBool_tuple hu h1 h2 ?_)
    by_cases M:k1=k2
    .subst M
     (simp only[ Bool.false_eq_true])
     refine AD ⟨rfl,rfl,S,U,ar,au,rfl,ak,aq,?_,by simpa using J⟩;rw[<- I]
     (by_cases ao:S=U<;>simp[ao])
    ·(rw[AM M];simp only[ if_true])
     have ab:decide (x=y)=false :=by lia
     rw[ab] at h;exact AA (AD (AD (AD h)))
 .rintro ⟨r1,r2⟩ s' ⟨N,rfl,F,G,q,B,g,L,D,I,J⟩
  (subst N;apply AD)
  have ae:(xs.size==ys.size)=decide (x=y):=by
   rw[<- I,<- J]
   cases L with
   |nil=>(cases D with | nil=>simp | cons _ _=>simp)
   |cons _ _=>(cases D with | nil=>simp | cons _ _=>simp at g)
  (show P (.done (.ret (.bool (xs.size==ys.size)))) s';rwa [ae])
def aY(D:A.units+1 < cLine)(g:di knd s.heap x a)(q:di knd s.heap y b)(h:Q (decide (x=y)) s):
  wpAny (model prog w) A (eqBool (.ref a) (.ref b)) Q E s:=by
 (delta eqBool;try with_reducible refine Ao ?_)
 by_cases B:(Value.ref a==Value.ref b)=true
 .rw [Ab B]
  have e:a=b :=by lia
  subst e;obtain rfl:=g.inj q;exact AA (Bv (AD (by lia)))
 .exact (Ac B)▸AA (wpAny_richCompare_same_room g.typeIs q.typeIs Bs (Av Bs g.typeIs F.entry_tuple_eq (eA D g q ⟨_,rfl,(fun e=>nomatch e),BC h⟩) (F.args_tuple_eq_2 _ _)) (BE D))
def aH n(B:IsTupleKey knd s.heap J a)(h:Q true s):wpAny (model prog w) A (eqIsQuiet (n+1) (.ref a)) Q E s:=by
 have g:=B.typeIs;refine wX B fun o items m G _ F hi=>?_
 (unfold eqIsQuiet;refine AA (A5 g Bs.lookup ?_))
 (refine AA (BR g Bl ?_))
 (refine AA (A0 G F (AA ?_)))
 (rw[<- Bk])
 refine BW _ (fun nX r s'=>r.1=none/\s'=s/\∀v∈nX,carriedByValue v=true) _ ?_ ?_ _ _ ⟨rfl,rfl,hi.byValue⟩
 .rintro v nX r s' ⟨D,rfl,q⟩
  (rw[eqIsQuiet_byValue _ (q v AG)];refine AA (AD ?_))
  (exact AD ⟨rfl,rfl,fun u I=>q u (AJ _ I)⟩)
 .rintro ⟨L,M⟩ s' ⟨D,rfl,_⟩
  (subst D;exact AD h)
def ZH(q:di knd s.heap J a)(h:Q true s):wpAny (model prog w) A (eqIsQuiet 8 (.ref a)) Q E s:=by
 have g:=q.typeIs;obtain⟨o,items,m,I,_,G,hi⟩:=q
 (unfold eqIsQuiet;refine AA (A5 g Bs.lookup ?_))
 (refine AA (BR g Bl ?_))
 (refine AA (A0 I G (AA ?_)))
 (rw[<- Bk])
 refine BW _ (fun nX r s'=>r.1=none/\s'=s/\∃D,d9 knd s.heap D nX) _ ?_ ?_ _ _ ⟨rfl,rfl,_,hi⟩
 .rintro v nX r s' ⟨B,rfl,D,F⟩
  cases F with
  |cons h1 h2 =>
   refine AA (aH 6 h1 ?_)
   (exact AD ⟨rfl,rfl,_,h2⟩)
 .rintro ⟨L,M⟩ s' ⟨B,rfl,_⟩
  (subst B;exact AD h)
end
def fY[DecidableEq K](knd:KeyKind prog w K):HeapKind prog w (List (List K)) where
 is:=di knd
 hash:=mW knd
 draws:=wY
 room:=fun A=>A.units+1 < cLine
 inj:=fun B D=>B.inj D
 keeps:=fun x G F hs=>x.keeps G F hs
 pyHash:=fun q g h=>eY q g h
 eqBool:=fun q B D h=>aY q B D h
 quiet:=fun g h=>ZH g h
def lV[DecidableEq K]{knd:KeyKind prog w K}{A:Around}(g:A.units+2 < cLine):(fY knd).room A.in1:=g
section
variable {prog:Program}{w:World}{K:Type}[DecidableEq K](knd:KeyKind prog w K)
def d7(h:Heap)(k:List (List K)×K)(a:Addr):Prop:=∃o items n p v,h.get? a=some o/\o.cls=.type "tuple"/\o.data=.seq items n/\items.toList=[.ref p,v]/\di knd h k.1 p/\knd.is k.2 v=true
variable {knd}
def d7.typeIs{s:Shared}(x:d7 knd s.heap k a):s.TypeIs (.ref a) "tuple" :=TF x fun o _ _ _ _ e c _=>⟨o,e,c⟩
def d7.inj(N:d7 knd h x a)(O:d7 knd h y a):x=y:=by
 obtain⟨o,S,n,p,v,g,_,q,B,D,F⟩:=N;obtain⟨o',its',U,Y,Z,G,_,I,J,L,M⟩:=O;cases g.symm.trans G;cases q.symm.trans I;cases B.symm.trans J;exact Prod.ext (D.inj L) (knd.inj v _ _ F M)
def d7.keeps(x:d7 knd h k a)(q:h.get? d=some o)(g:o.data=.dict es ep)(hs:Heap.SameBut d h h'):d7 knd h' k a:=by
 obtain⟨o',M,n,p,v,B,F,D,G,I,J⟩:=x;have L:a≠d:=fun z=>by subst z;rw[B] at q;cases q;rw[D] at g;cases g
 exact⟨o',M,n,p,v,(hs.2 a L).trans B,F,D,G,I.keeps q g hs,J⟩
noncomputable def wR(knd:KeyKind prog w K)(k:List (List K)×K):Int:=reduceHash (Builtin.Tuple.tupleHashOf [mW knd k.1,knd.hash k.2])
def jH(k:List (List K)×K):Nat:=wY k.1+1+1
variable {A:Around}{E:Value->Shared->Prop}{s:Shared}
def vL(J:A.units+2 < cLine)(I:d7 knd s.heap k a)(h:Q (wR knd k) { s with toks:=s.toks+jH k }):
  wpAny (model prog w) A (pyHash (.ref a)) Q E s:=by
 have B:=I.typeIs;obtain⟨o,items,n,p,v,M,_,L,hi,N,O⟩:=I
 (first | delta pyHashByItsType | skip)
 (first | refine AA (wpAny_cRoomFor_or (.inr (BE (BE J))) ?_) | skip)
 refine AA (A5 (by exact B) Ba.lookup (?_));refine AA (A5 (by exact B) Ba.lookup (?_));refine AA (B6 (by exact B) Ba (Av Ba (by exact B) F.entry_tuple_hash (?_) (F.args_tuple_hash_1 _)));show wpAny _ _ (Builtin.Tuple.tupleItemsOf (.ref a) >>= (_)) _ _ s
 (refine AA (B3 M L (AA ?_));rw[<- Bk,hi])
 refine BW _ (fun nX b s'=>(nX=[.ref p,v]/\b.toList=[]/\s'=s)\/(nX=[v]/\b.toList=[mW knd k.1]/\s'={ s with toks:=s.toks+wY k.1 })\/(nX=[]/\b.toList=[mW knd k.1,knd.hash k.2]/\s'={ s with toks:=s.toks+wY k.1+1 })) _ ?_ ?_ _ _ (.inl ⟨rfl,rfl,rfl⟩)
 .rintro x nX b s' (⟨g,q,rfl⟩ | ⟨g,q,rfl⟩ | ⟨g,q,rfl⟩)
  .obtain ⟨rfl,rfl⟩:=Az g
   refine AA (eY J N ?_)
   first
    |exact AD (.inr (.inl ⟨rfl,by simp[q],rfl⟩))
    |exact AA (AD (AD (.inr (.inl ⟨rfl,by simp[q],rfl⟩))))
  .obtain ⟨rfl,rfl⟩:=Az g
   refine AA (knd.pyHash O ?_)
   first
    |exact AD (.inr (.inr ⟨rfl,by simp[q],rfl⟩))
    |exact AA (AD (AD (.inr (.inr ⟨rfl,by simp[q],rfl⟩))))
  .cases g
 .rintro b s' (⟨g,q,rfl⟩ | ⟨g,q,rfl⟩ | ⟨g,q,rfl⟩)
  .cases g
  .cases g
  (show wpAny _ _ (retInt (Builtin.Tuple.tupleHashOf b.toList)) _ _ _;rw[q];apply wpAny_ret_mkInt)
  delta wR reduceHash jH at h
  generalize Builtin.Tuple.tupleHashOf [mW knd k.1,knd.hash k.2]=D at h ⊢;show wpAny _ _ (if (decide (-(2:Int) ^ 63<=D)&&decide (D < 2 ^ 63))=true then _ else _) Q E _
  by_cases G:(decide (-(2:Int) ^ 63<=D)&&decide (D < 2 ^ 63))=true
  ·(rw[Ab G];rw[Ab G] at h)
   exact AD (by lia)
  ·(rw[Ac G];rw[Ac G] at h)
   exact AA (Bv (AD (by simpa [Nat.add_assoc] using h)))
def iA(hu:A.units+1 < cLine)(hx:d7 knd s.heap x a)(I:d7 knd s.heap y b)(h:P (.done (.ret (.bool (decide (x=y))))) s):
  wpAny (model prog w) A (Builtin.«tuple.__eq__» ⟨[.ref a,.ref b],[]⟩) P E s:=by
 have L:=I.typeIs;obtain⟨oa,xs,ah,p,v,U,_,M,D,Z,ae⟩:=hx;obtain⟨ob,ys,ai,p',J,Y,_,N,F,ab,ag⟩:=I
 (show wpAny _ _ (isInstance (.ref b) (.type "tuple") >>= _) _ _ s;refine AA (BR L Bl ?_))
 (refine AA (B3 U M (AA (B3 Y N (AA ?_)))))
 have S:(xs.size==ys.size)=true:=by
  rw[<- Ay,<- Ay,D,F];rfl
 have ex:∀{q:Bool},decide (x.1=y.1)=q->∀{r:Bool},decide (x.2=y.2)=r->decide (x=y)=(q&&r) :=by lia
 rw[D,F];refine BW _ (fun nX r s'=>r.1=none/\s'=s/\(nX=[(.ref p,.ref p'),(v,J)]\/(nX=[(v,J)]/\decide (x.1=y.1)=true)\/(nX=[]/\decide (x=y)=true))) _ ?_ ?_ _ _ ⟨rfl,rfl,.inl rfl⟩
 .rintro ⟨u1,u2⟩ nX r s' ⟨G,rfl,(e | ⟨e,B⟩ | ⟨e,_⟩)⟩
  .cases e
   refine AA (aY hu Z ab ?_)
   by_cases g:x.1=y.1
   .rw [Af g]
    (simp only[ Bool.false_eq_true])
    exact AD (by simp[g])
   ·(rw[AM g];simp only[ if_true])
    have O:=ex (AM g) rfl;rw[O] at h;exact AA (AD (AD (AD h)))
  .cases e
   refine AA (knd.eqBool ae ag ?_)
   by_cases g:x.2=y.2
   .rw [Af g]
    (simp only[ Bool.false_eq_true])
    exact AD (by lia)
   ·(rw[AM g];simp only[ if_true])
    rw[(ex B (AM g))] at h;exact AA (AD (AD (AD h)))
  .cases e
 .rintro ⟨r1,r2⟩ s' ⟨G,rfl,(e | ⟨e,B⟩ | ⟨_,B⟩)⟩
  .cases e
  .cases e
  (subst G;apply AD)
  rw[B] at h
  (show P (.done (.ret (.bool (xs.size==ys.size)))) s';rwa [S])
def wL(D:A.units+2 < cLine)(g:d7 knd s.heap x a)(q:d7 knd s.heap y b)(h:Q (decide (x=y)) s):
  wpAny (model prog w) A (eqBool (.ref a) (.ref b)) Q E s:=by
 (delta eqBool;try with_reducible refine Ao ?_)
 by_cases B:(Value.ref a==Value.ref b)=true
 .rw [Ab B]
  have e:a=b:=by lia
  subst e;obtain rfl:=g.inj q;exact AA (Bv (AD (by lia)))
 .exact (Ac B)▸AA (wpAny_richCompare_same_room g.typeIs q.typeIs Bs (Av Bs g.typeIs F.entry_tuple_eq (iA D g q ⟨_,rfl,(fun e=>nomatch e),BC h⟩) (F.args_tuple_eq_2 _ _)) (BE (BE D)))
def Xa(n)(q:di knd s.heap J a)(h:Q true s):wpAny (model prog w) A (eqIsQuiet (n+2) (.ref a)) Q E s:=by
 have g:=q.typeIs;refine wX q fun o items m I _ G hi=>?_
 (unfold eqIsQuiet;refine AA (A5 g Bs.lookup ?_))
 (refine AA (BR g Bl ?_))
 (refine AA (A0 I G (AA ?_)))
 (rw[<- Bk])
 refine BW _ (fun nX r s'=>r.1=none/\s'=s/\∃D,d9 knd s.heap D nX) _ ?_ ?_ _ _ ⟨rfl,rfl,_,hi⟩
 .rintro v nX r s' ⟨B,rfl,D,F⟩
  cases F with
  |cons h1 h2 =>
   refine AA (aH n h1 ?_)
   (exact AD ⟨rfl,rfl,_,h2⟩)
 .rintro ⟨L,M⟩ s' ⟨B,rfl,_⟩
  (subst B;exact AD h)
def ZI(q:d7 knd s.heap k a)(h:Q true s):wpAny (model prog w) A (eqIsQuiet 8 (.ref a)) Q E s:=by
 have g:=q.typeIs;obtain⟨o,items,m,p,v,F,_,D,hi,G,I⟩:=q
 (unfold eqIsQuiet;refine AA (A5 g Bs.lookup ?_))
 (refine AA (BR g Bl ?_))
 (refine AA (A0 F D (AA ?_)))
 rw[<- Bk];show wpAny _ _ (forIn items.toList _ _) _ _ _;rw[hi];refine BW _ (fun nX r s'=>r.1=none/\s'=s/\(nX=[.ref p,v]\/nX=[v]\/nX=[])) _ ?_ ?_ _ _ ⟨rfl,rfl,.inl rfl⟩
 .rintro u nX r s' ⟨B,rfl,(e | e | e)⟩
  .cases e
   refine AA (Xa 5 G ?_)
   (exact AD ⟨rfl,rfl,.inr (.inl rfl)⟩)
  .cases e
   (rw[eqIsQuiet_byValue _ (knd.byValue _ _ I)];refine AA (AD ?_))
   (exact AD ⟨rfl,rfl,.inr (.inr rfl)⟩)
  .cases e
 .rintro ⟨J,L⟩ s' ⟨B,rfl,_⟩
  (subst B;exact AD h)
end
def zU[DecidableEq K](knd:KeyKind prog w K):HeapKind prog w (List (List K)×K) where
 is:=d7 knd
 hash:=wR knd
 draws:=jH
 room:=fun A=>A.units+2 < cLine
 inj:=fun B D=>B.inj D
 keeps:=fun x G F hs=>x.keeps G F hs
 pyHash:=fun q g h=>vL q g h
 eqBool:=fun q B D h=>wL q B D h
 quiet:=fun g h=>ZI g h
def qG[DecidableEq K]{knd:KeyKind prog w K}{A:Around}(g:A.units+3 < cLine):(zU knd).room A.in1:=g
end PySem
namespace L2
open PySem PySem.Spec PyProof.Rows
abbrev Key:=Sum (Option Int) Str
def KG:Value->Bool
 |.none=>true
 |_=>false
noncomputable def zE:Key->Value->Bool
 |.inl (some k),v=>Value.isInt k v
 |.inl none,v=>KG v
 |.inr x,v=>Value.isStrOf x v
noncomputable def keyH(w:World):Key->Int
 |.inl (some k)=>hashInt k
 |.inl none=>4238894112
 |.inr x=>hashStr w x
def vT(h:KG v=true):v=.none:=by
 cases v<;>first | rfl | cases h
theorem nJ:∀{k}{v},zE k v=true->(∃i t,k=Sum.inl (some i)/\v=Value.int i t)\/(∃x t,k=Sum.inr x/\v=Value.str x t)\/(k=Sum.inl none/\v=Value.none)
 |.inl (some i),v,h=>by
  obtain⟨t,e⟩:=Value.isInt_shape h;exact .inl ⟨i,t,rfl,e⟩
 |.inl none,v,h=>.inr (.inr ⟨rfl,vT h⟩)
 |.inr x,v,h=>by
  obtain⟨t,e⟩:=Value.isStrOf_shape h;exact .inr (.inl ⟨x,t,rfl,e⟩)
def V8 i t:zE (.inl (some i)) (.int i t)=true :=by simp[zE,Value.isInt]
def V7 x t:zE (.inr x) (.str x t)=true :=by simp[zE,Value.isStrOf]
def Li a b:decide ((Sum.inl (some a):Key)=Sum.inl (some b))=(a==b) :=by grind
def J0 a b:decide ((Sum.inr a:Key)=Sum.inr b)=decide (a=b) :=by grind
def key_is i y:decide ((Sum.inl (some i):Key)=Sum.inr y)=false:=AM nofun
def Lh i:decide ((Sum.inl (some i):Key)=Sum.inl none)=false:=AM nofun
def Lb x j:decide ((Sum.inr x:Key)=Sum.inl (some j))=false:=AM nofun
def La x:decide ((Sum.inr x:Key)=Sum.inl none)=false:=AM nofun
def Lg j:decide ((Sum.inl none:Key)=Sum.inl (some j))=false:=AM nofun
def Le y:decide ((Sum.inl none:Key)=Sum.inr y)=false:=AM nofun
def Wf(h:Q 4238894112 { s with toks:=s.toks+1 }):wpAny (model prog w) A (pyHash .none) Q E s:=by
 apply AA
 apply AD
 have ty:s.TypeIs .none "NoneType":=rfl
 refine AA (A5 ty B9.lookup (AA (A5 ty B9.lookup (AA (B6 ty B9
  (Av B9 ty PySem.F.entry_NoneType_hash
   (wpAny_ret_mkInt ?_) (PySem.F.args_NoneType_hash_1 _)))))))
 exact AD h
def GB(h:Q true s):wpAny (model prog w) A (eqBool .none .none) Q E s :=Ao (Cc (fun _=>AA (Bv (AD h))) (fun g=>absurd rfl g))
noncomputable def eQ prog w:PySem.KeyKind prog w Key where
 is:=zE
 hash:=keyH w
 inj:=fun v a b B D=>by
  rcases nJ B with ⟨i,t,rfl,rfl⟩ | ⟨x,t,rfl,rfl⟩ | ⟨rfl,rfl⟩<;>rcases nJ D with ⟨j,u,rfl,e⟩ | ⟨y,u,rfl,e⟩ | ⟨rfl,e⟩<;>cases e<;>rfl
 byValue:=fun k v h=>by
  rcases nJ h with ⟨i,t,rfl,rfl⟩ | ⟨x,t,rfl,rfl⟩ | ⟨rfl,rfl⟩<;>rfl
 pyHash:=fun g h=>by
  rcases nJ g with ⟨i,t,rfl,rfl⟩ | ⟨x,t,rfl,rfl⟩ | ⟨rfl,rfl⟩
  .exact wpAny_pyHash_int h
  .exact wpAny_pyHash_str h
  .exact Wf h
 eqBool:=fun F g h=>by
  rcases nJ F with ⟨i,t,rfl,rfl⟩ | ⟨x,t,rfl,rfl⟩ | ⟨rfl,rfl⟩<;>rcases nJ g with ⟨j,u,rfl,rfl⟩ | ⟨y,u,rfl,rfl⟩ | ⟨rfl,rfl⟩
  .rw [Li] at h;exact wpAny_eqBool_int h
  .rw [key_is] at h;exact SeqAt.EqAt.int_str i t y u _ _ _ _ h
  .rw [Lh] at h;exact SeqAt.EqAt.int_none i t _ _ _ _ h
  .rw [Lb] at h;exact SeqAt.EqAt.str_int x t j u _ _ _ _ h
  .rw [J0] at h;exact wpAny_eqBool_str h
  .rw [La] at h;exact SeqAt.EqAt.str_none x t _ _ _ _ h
  .rw [Lg] at h;exact SeqAt.EqAt.none_int j u _ _ _ _ h
  .rw [Le] at h;exact SeqAt.EqAt.none_str y u _ _ _ _ h
  .rw [Af (rfl:(Sum.inl none:Key)=Sum.inl none)] at h;exact GB h
 «strs»:=fun k x t v h=>by
  rcases nJ h with ⟨i,u,rfl,e⟩ | ⟨y,u,rfl,e⟩ | ⟨rfl,e⟩
  .exact nomatch e
  .injection e with q _
   subst q;cases v<;>rfl
  .exact nomatch e
def Xw prog w i t:(eQ prog w).is (.inl (some i)) (.int i t)=true:=V8 i t
def gI prog w:(eQ prog w).is (.inl none) .none=true:=rfl
def Xv prog w x t:(eQ prog w).is (.inr x) (.str x t)=true:=V7 x t
inductive V where
 |non | bl (b:Bool) | int (i:Int) | str (x:Str) | byt (b:Array UInt8) | flt (b:UInt64) | ref (a:Addr) | ty (n:String)
 deriving DecidableEq
def RelV:V->Value->Prop
 |.non,u=>u=Value.none
 |.bl b,u=>u=Value.bool b
 |.int i,u=>∃t,u=Value.int i t
 |.str x,u=>∃t,u=Value.str x t
 |.byt b,u=>∃t,u=Value.bytes b t
 |.flt b,u=>∃t,u=Value.float b t
 |.ref a,u=>u=Value.ref a
 |.ty n,u=>u=Value.type n
abbrev Vals:List V->List Value->Prop:=Paired RelV
def Vals.length(r:Vals xs g):xs.length=g.length:=Paired.length r
theorem Vals.get:∀{xs}{g}{i:Nat}{x},Vals xs g->xs[i]?=some x->∃u,g[i]?=some u/\RelV x u
 |_,_,_,_,.nil,e=>by simp at e
 |_,_,0,_,.cons r _,e=>by simp at e;subst e;exact⟨_,rfl,r⟩
 |_,_,i+1,x,.cons _ t,e=>by
  obtain⟨u,h1,h2⟩:=(Vals.get t (by simpa using e));exact⟨u,by simpa using h1,h2⟩
theorem Vals.set(r:RelV x u):∀{xs}{g}i,Vals xs g->Vals (xs.set i x) (g.set i u)
 |_,_,_,.nil=>.nil
 |_,_,0,.cons _ t=>.cons r t
 |_,_,i+1,.cons q t=>.cons q (Vals.set r i t)
theorem Vals.append:∀{xs ys}{g q},Vals xs g->Vals ys q->Vals (xs++ys) (g++q)
 |_,_,_,_,.nil,s=>s
 |_,_,_,_,.cons r t,s=>.cons r (Vals.append t s)
theorem Vals.take:∀{xs}{g}n,Vals xs g->Vals (xs.take n) (g.take n)
 |_,_,0,_=>.nil
 |_,_,_+1,.nil=>.nil
 |_,_,n+1,.cons r t=>.cons r (Vals.take n t)
theorem Vals.drop:∀{xs}{g}n,Vals xs g->Vals (xs.drop n) (g.drop n)
 |_,_,0,r=>r
 |_,_,_+1,.nil=>.nil
 |_,_,n+1,.cons _ t=>Vals.drop n t
def RelO:Option V->Option Value->Prop
 |some v,some u=>RelV v u
 |none,none=>True
 |_,_=>False
def KV: List (κ×V)->List (κ×Value)->Prop:=Paired fun(p:κ×V)(q:κ×Value)=>p.1=q.1/\RelV p.2 q.2
noncomputable def kV:Key->V
 |.inl none=>.non
 |.inl (some i)=>.int i
 |.inr x=>.str x
inductive HO where
 |lst (xs:List V)
 |tup (xs:List V)
 |dK (kvs:List (Key×V)) | dT (kvs:List (List Key×V)) | dP (kvs:List (List (List Key)×V)) | dN (kvs:List ((List (List Key)×Key)×V))
 |set (S:Int->Bool) (n:Nat)
 |ins (C dx:Addr) (fs:List (Str×V))
 |own (x:Addr)
 |xd (fs:List (Str×V))
 |met (f x:Addr)
 |rng (lo hi:Int)
 |frz (o:Obj) (u:HO)
 |tbl (ps:Array Value)
 |ext (φ:Heap->Prop)
abbrev Hp:=Addr->Option HO
noncomputable def upd(H:Hp)(a:Addr)(o:HO):Hp:=fun b=>if b=a then some o else H b
theorem mQ: upd H a o a=some o :=by grind[upd]
theorem uQ(h:b≠a):upd H a o b=H b :=by grind[upd]
def Kv{H:Hp}(h:H a=some o)(h':H b=some u)(d:o≠u):a≠b :=by grind
def vK{H:Hp}(h:H a=some o)(h':H b=none):a≠b :=by grind
def jg(h:Heap)(a:Addr)(items:Array Value):Prop:=∃o,h.get? a=some o/\o.cls=.type "tuple"/\(∃n,o.data=.seq items n)/\o.dict=none
def jg.is(x:jg h a items):IsTup h a items:=let ⟨o,e,c,d,_⟩:=x;⟨o,e,c,d⟩
def jg.new(h:Heap)items:jg (h.push { cls:=.type "tuple",data:=.seq items }) h.objs.size items:=⟨_,AK _ rfl,rfl,⟨_,rfl⟩,rfl⟩
def lw(H:Hp)(q:List (List Key))(b:Addr):Prop:=∃bs:List Addr,H b=some (.tup (bs.map V.ref))/\Paired (fun(g:List Key)(c:Addr)=>H c=some (.tup (g.map kV))) q bs
def lz(H:Hp)(k:List (List Key)×Key)(b:Addr):Prop:=∃p,H b=some (.tup [.ref p,kV k.2])/\lw H k.1 p
section
variable (P:Program)(w:World)
def ObjOk(H:Hp)(h:Heap)(a:Addr):HO->Prop
 |.lst xs=>xs.length<=sizeLine/\∃(g:List Value)(n:Nat),Vals xs g/\h.get? a=some { cls:=.type "list",data:=.seq g.toArray n }
 |.tup xs=>xs.length<=sizeLine/\∃g:List Value,Vals xs g/\jg h a g.toArray
 |.dK kvs=>kvs.length<=sizeLine/\(a==sysModules)=false/\∃vs,KV kvs vs/\h.DictOf (eQ P w) a vs
 |.dT kvs=>kvs.length<=sizeLine/\(a==sysModules)=false/\∃xs:List (List Key×Addr×Value),
   Paired (fun(p:List Key×V)(q:List Key×Addr×Value)=>p.1=q.1/\H q.2.1=some (.tup (p.1.map kV))/\RelV p.2 q.2.2) kvs xs /\
   ∃o es ep,h.get? a=some o/\o.ExactDict/\o.data=.dict es ep/\es.toList=xs.map (entryOfKey (tupleKind (eQ P w)))/\(xs.map (·.1)).Nodup
 |.dN kvs=>kvs.length<=sizeLine/\(a==sysModules)=false/\∃xs:List ((List (List Key)×Key)×Addr×Value),
   Paired (fun(p:(List (List Key)×Key)×V)(q:(List (List Key)×Key)×Addr×Value)=>p.1=q.1/\lz H p.1 q.2.1/\RelV p.2 q.2.2) kvs xs /\
   ∃o es ep,h.get? a=some o/\o.ExactDict/\o.data=.dict es ep/\es.toList=xs.map (entryOfKey (zU (eQ P w)))/\(xs.map (·.1)).Nodup
 |.dP kvs=>kvs.length<=sizeLine/\(a==sysModules)=false/\∃xs:List (List (List Key)×Addr×Value),
   Paired (fun(p:List (List Key)×V)(q:List (List Key)×Addr×Value)=>p.1=q.1/\lw H p.1 q.2.1/\RelV p.2 q.2.2) kvs xs /\
   ∃o es ep,h.get? a=some o/\o.ExactDict/\o.data=.dict es ep/\es.toList=xs.map (entryOfKey (fY (eQ P w)))/\(xs.map (·.1)).Nodup
 |.set S n=>h.SetOf (intKind P w) a S n
 |.ins C dx fs=>H dx=some (.own a)/\fs.length<=1000/\dx≠a/\h.get? a=some (PySem.W.instObj C dx) /\
   ∃mA,h.Ns1 dx mA/\(∀f,RelO (fs.lookup f) (mA f))/\PySem.Within mA (fs.map (·.1))
 |.own _=>∃o,h.get? a=some o
 |.xd fs=>∃mA,h.Ns1 a mA/\∀f,RelO (fs.lookup f) (mA f)
 |.rng lo hi=>∃t u v,h.get? a=some { cls:=.type "range",data:=.fields #[.int lo t,.int hi u,.int 1 v] }
 |.frz o u=>h.get? a=some o/\ObjOk H h a u
 |.tbl ps=>h.get? a=some { cls:=.none,data:=.fields ps }
 |.met f x=>h.get? a=some (PySem.W.methodObj (.ref f) (.ref x))
 |.ext B=>B h/\(∃o,h.get? a=some o)/\∀h1 h2:Heap,B h1->(∀o,h1.get? a=some o->h2.get? a=some o)->B h2
def HOk(H:Hp)(h:Heap):Prop:=∀a o,H a=some o->ObjOk P w H h a o
end
section
variable {P:Program}{w:World}{H H':Hp}{h h':Heap}{a:Addr}{o:HO}
def ObjOk.lt(x:ObjOk P w H h a o):a < h.objs.size:=by
 cases o with
 |lst xs=>obtain⟨_,_,_,_,e⟩:=x;exact AH e
 |tup xs=>obtain⟨_,_,_,o,e,_⟩:=x;exact AH e
 |dK kvs=>obtain⟨_,_,_,_,o,_,_,e,_⟩:=x;exact AH e
 |dT kvs=>obtain⟨_,_,_,_,o,_,_,e,_⟩:=x;exact AH e
 |dP kvs=>obtain⟨_,_,_,_,o,_,_,e,_⟩:=x;exact AH e
 |dN kvs=>obtain⟨_,_,_,_,o,_,_,e,_⟩:=x;exact AH e
 |set S n=>exact yu x fun o _ _ _ e _=>AH e
 |ins C dx fs=>exact bH x fun _ _ _ e _=>AH e
 |own y=>obtain⟨_,e⟩:=x;exact AH e
 |xd fs=>obtain⟨_,⟨_,_,_,e,_⟩,_⟩:=x;exact AH e
 |rng lo hi=>exact PJ x fun _ _ _ e=>AH e
 |frz g u=>obtain⟨e,_⟩:=x;exact AH e
 |tbl ps=>exact AH x
 |met f y=>exact AH x
 |ext q=>obtain⟨_,⟨_,e⟩,_⟩:=x;exact AH e
theorem Paired.mapP: ∀{g}{q},Paired F g q->(∀a b,F a b->G a b)->Paired G g q
 |_,_,.nil,_=>.nil
 |_,_,.cons r t,f=>.cons (f _ _ r) (Paired.mapP t f)
def lw.mono(x:lw H q b)(g:∀b xs,H b=some (.tup xs)->H' b=some (.tup xs)):lw H' q b :=
 let ⟨bs,e,r⟩:=x;⟨bs,g _ _ e,Paired.mapP r fun _ _ z=>g _ _ z⟩
def lz.mono{H H':Hp}{k:List (List Key)×Key}{b:Addr}(x:lz H k b)(g:∀b xs,H b=some (.tup xs)->H' b=some (.tup xs)):lz H' k b :=
 let ⟨p,e,r⟩:=x;⟨p,g _ _ e,r.mono g⟩
def ObjOk.stay(x:ObjOk P w H h a o)(k:∀b u,(b=a\/H b=some (.own a))->h.get? b=some u->h'.get? b=some u)(I:∀b,H b=some (.own a)->H' b=some (.own a))(B:∀b xs,H b=some (.tup xs)->H' b=some (.tup xs)):ObjOk P w H' h' a o:=by
 induction o with
 |lst xs=>obtain⟨z,D,n,r,e⟩:=x;exact⟨z,D,n,r,k _ _ (.inl rfl) e⟩
 |tup xs=>obtain⟨z,D,r,g,e,c⟩:=x;exact⟨z,D,r,g,k _ _ (.inl rfl) e,c⟩
 |dK kvs=>obtain⟨z,y,vs,r,g,es,ep,e,c⟩:=x;exact⟨z,y,vs,r,g,es,ep,k _ _ (.inl rfl) e,c⟩
 |dT kvs =>
  obtain⟨z,y,xs,r,g,es,ep,e,c⟩:=x;exact⟨z,y,xs,Paired.mapP r fun p q z=>⟨z.1,B _ _ z.2.1,z.2.2⟩,g,es,ep,k _ _ (.inl rfl) e,c⟩
 |dN kvs =>
  obtain⟨z,y,xs,r,g,es,ep,e,c⟩:=x;exact⟨z,y,xs,Paired.mapP r fun p q z=>⟨z.1,z.2.1.mono B,z.2.2⟩,g,es,ep,k _ _ (.inl rfl) e,c⟩
 |dP kvs =>
  obtain⟨z,y,xs,r,g,es,ep,e,c⟩:=x;exact⟨z,y,xs,Paired.mapP r fun p q z=>⟨z.1,z.2.1.mono B,z.2.2⟩,g,es,ep,k _ _ (.inl rfl) e,c⟩
 |set S n=>exact yu x fun g es ep t e c=>⟨g,es,ep,t,k _ _ (.inl rfl) e,c⟩
 |ins C dx fs =>
  obtain⟨d,z,L,e,mA,⟨F,es,ep,G,c⟩,r⟩:=x;exact⟨I _ d,z,L,k _ _ (.inl rfl) e,mA,⟨F,es,ep,k _ _ (.inr d) G,c⟩,r⟩
 |own y=>obtain⟨g,e⟩:=x;exact⟨g,k _ _ (.inl rfl) e⟩
 |xd fs=>obtain⟨mA,⟨F,es,ep,e,c⟩,r⟩:=x;exact⟨mA,⟨F,es,ep,k _ _ (.inl rfl) e,c⟩,r⟩
 |rng lo hi=>exact PJ x fun t u v e=>⟨t,u,v,k _ _ (.inl rfl) e⟩
 |frz g u J=>obtain⟨e,q⟩:=x;exact⟨k _ _ (.inl rfl) e,J q⟩
 |tbl ps =>
  have e:=x;exact k a _ (.inl rfl) e
 |met f y =>
  have e:=x;exact k a _ (.inl rfl) e
 |ext M=>obtain⟨p,⟨o,e⟩,st⟩:=x;exact⟨st _ _ p fun o q=>k _ _ (.inl rfl) q,⟨o,k _ _ (.inl rfl) e⟩,st⟩
def HOk.lt(x:HOk P w H h)(e:H a=some o):a < h.objs.size:=(x a o e).lt
def HOk.fresh(x:HOk P w H h)(e:h.objs.size<=a):H a=none:=by
 cases q:H a with
 |none=>rfl
 |some u=>exact absurd (AZ (x.lt q) e) (A8 _)
def HOk.kept(x:HOk P w H h)(k:∀b u,h.get? b=some u->h'.get? b=some u):HOk P w H h':=fun a o e=>
 (x a o e).stay (fun b u _ q=>k b u q) (fun _ q=>q) fun _ _ q=>q
def HOk.laid(x:HOk P w H h)(k:∀b u,h.get? b=some u->h'.get? b=some u)(D:h.objs.size<=a)(F:ObjOk P w (upd H a o) h' a o):HOk P w (upd H a o) h':=fun b u e=>by
 have B:=x.fresh D
 by_cases g:b=a
 .subst g;rw[mQ] at e;cases e;exact F
 .rw [uQ g] at e
  exact(x b u e).stay (fun c v _ q=>k c v q) (fun c q=>by rwa [uQ (vK q B)]) fun c xs q=>by rwa [uQ (vK q B)]
end
def Rd(H:Hp)(a:Addr)(u:HO):Prop:=H a=some u\/∃o,H a=some (.frz o u)
theorem Rd.ok(r:Rd H a u)(x:HOk P w H h):ObjOk P w H h a u:=by
 rcases r with r | ⟨o,r⟩
 .exact x a u r
 .obtain ⟨_,q⟩:=x a _ r
  exact q
def Mut:Option HO->Prop
 |some (.lst _)=>True
 |some (.dK _)=>True
 |some (.dT _)=>True
 |some (.dP _)=>True
 |some (.dN _)=>True
 |some (.set _ _)=>True
 |some (.ins _ _ _)=>True
 |some (.ext _)=>True
 |_=>False
section
variable {P:Program}{w:World}{H:Hp}{h h':Heap}{x e:Addr}{o':HO}
def HOk.write(N:HOk P w H h)(F:Mut (H x))(O:e=x\/H e=some (.own x))(k:∀b u,b≠e->h.get? b=some u->h'.get? b=some u)(I:∃u,h'.get? e=some u)(J:ObjOk P w (upd H x o') h' x o'):HOk P w (upd H x o') h':=fun b u q=>by
 have L:∀c y,H c=some (.own y)->c≠x:=fun c y r z=>by subst z;rwa [r] at F
 have M:∀c xs,H c=some (.tup xs)->c≠x:=fun c xs r z=>by subst z;rwa [r] at F
 by_cases g:b=x
 .subst g;rw[mQ] at q;cases q;exact J
 .rw [uQ g] at q
  by_cases B:b=e
  .have G:H b=some (.own x) :=by lia
   rw[q] at G;cases G
   obtain⟨v,S⟩:=I;exact⟨v,by rwa [B]⟩
  .refine (N b u q).stay (fun c v D r=>k c v ?_ r) (fun c r=>by rwa [uQ (L c b r)]) fun c xs r=>(uQ (M c xs r))▸r
   rcases D with rfl | D
   .exact B
   .grind
end
structure Un(fs ex:List Addr)(H H':Hp)(h h':Heap):Prop where
 keep:∀b o,h.get? b=some o->H b=none->b∉fs->b∉ex->h'.get? b=some o
 slot:∀b o,h.get? b=some o->H b=none->b∈fs->b∉ex->∃sl,h'.get? b=some { o with slots:=sl }
 free:∀b o,h.get? b=some o->H b=none->b∉ex->H' b=none
 there:∀b o,h.get? b=some o->b∉ex->∃o',h'.get? b=some o'
 tups:∀b xs,H b=some (.tup xs)->H' b=some (.tup xs)
 frzs:∀b o u,H b=some (.frz o u)->H' b=some (.frz o u)
 tbls:∀b ps,H b=some (.tbl ps)->∃more,H' b=some (.tbl (ps++more))
section
variable {fs fs' ex ex':List Addr}{H H1 H2:Hp}{h h1 h2 h':Heap}{a x e:Addr}{o:HO}
def Un.any(u:Un fs ex H H1 h h1)(q:h.get? b=some g)(n:H b=none)(D:b∉ex):∃F,h1.get? b=some { g with slots:=F }:=by
 by_cases B:b∈fs
 .exact u.slot b g q n B D
 .exact ⟨g.slots,u.keep b g q n B D⟩
def Un.kept(k:∀b u,h.get? b=some u->h'.get? b=some u):Un fs ex H H h h' :=
 ⟨fun b g q _ _ _=>k b g q,fun b g q _ _ _=>⟨g.slots,k b g q⟩,fun _ _ _ n _=>n,fun b g q _=>⟨g,k b g q⟩,fun _ _ q=>q,fun _ _ _ q=>q,fun _ ps q=>⟨#[],by rw[q];simp⟩⟩
def Un.refl:Un fs ex H H h h:=Un.kept fun _ _ q=>q
def Un.laid(k:∀b u,h.get? b=some u->h'.get? b=some u)(B:h.objs.size<=a)(g:H a=none):Un fs ex H (upd H a o) h h' where
 keep:=fun b u q _ _ _=>k b u q
 slot:=fun b u q _ _ _=>⟨u.slots,k b u q⟩
 free:=fun b u q n _=>by rwa [uQ (AY (AZ (AH q) B))]
 there:=fun b u q _=>⟨u,k b u q⟩
 tups:=fun b xs q=>by rwa [uQ (vK q g)]
 frzs:=fun b u xs q=>by rwa [uQ (vK q g)]
 tbls:=fun b ps q=>⟨#[],by rw[uQ (vK q g),q];simp⟩
def Un.write(B:Mut (H x))(G:e=x\/H e=some (.own x))(k:∀b u,b≠e->h.get? b=some u->h'.get? b=some u)(L:∃u,h'.get? e=some u):Un fs ex H (upd H x o) h h':=by
 have F:∀b,H b=none->b≠x:=fun b n z=>by subst z;rwa [n] at B
 have D:∀b,H b=none->b≠e:=fun b n z=>by
  subst z
  rcases G with r | r
  .exact F b n r
  .lia
 have g:∀b u,H b=some u->¬ Mut (some u)->b≠x:=fun b u q I z=>by subst z;rw[q] at B;exact I B
 refine⟨fun b u q n _ _=>k b u (D b n) q,fun b u q n _ _=>⟨u.slots,k b u (D b n) q⟩,fun b u q n _=>by rw[uQ (F b n)];exact n,fun b u q _=>?_,
  fun b xs q=>by rw[uQ (g b _ q fun z=>z)];exact q,fun b u xs q=>by rw[uQ (g b _ q fun z=>z)];exact q,fun b ps q=>⟨#[],by rw[uQ (g b _ q fun z=>z),q];simp⟩⟩
 by_cases J:b=e
 .grind
 .grind
end
def trk(h:Heap)(H:Hp):List Addr:=(List.range h.objs.size).filter fun a=>(H a).isSome
def XJ(h:Heap)(H:Hp):Heap:=PySem.W.hideAll h (trk h H)
def We h H:(XJ h H).objs.size=h.objs.size:=PySem.W.hideAll_size _ _
def Gh(e:h.get? b=some o)(n:H b=none):(XJ h H).get? b=some o :=
 PySem.W.hideAll_get _ e fun g=>by
  have q:=(List.mem_filter.mp g).2;rw[n] at q;simp at q
def of_hidT(e:(XJ h H).get? b=some o):h.get? b=some o/\H b=none:=by
 have g:=PySem.W.of_hideAll (trk h H) e;refine⟨g,?_⟩
 cases q:H b with
 |none=>rfl
 |some x =>
  have z:(XJ h H).get? b=none:=PySem.W.hideAll_none (trk h H) (List.mem_filter.mpr ⟨Bj.mpr (AH g),by simp[q]⟩);rw[z] at e;cases e
def allNews(g h:Heap)(L:Addr):List (Addr×Obj):=(List.range h.objs.size).filterMap fun a=>if a=L\/(g.get? a).isSome=true then none else (h.get? a).map fun o=>(a,o)
def nX(g h:Heap)(L d:Addr):List (Addr×Obj):=(allNews g h L).filter fun p=>decide (p.1≠d)
structure Mod(K:Dl)(mg:Str->Option Value)(base:Heap):Prop where
 kin:K.In base
 glob:base.Ns mainGlobals mg
 blt:∃mb,base.Ns builtinsNs mb/\∀x:Str,x ≠ "__name__"->mb x=bootBuiltins x
 nolimit:base.NoLimit
structure Cx where
 prog:Program
 w:World
 K:Dl
 mg:Str->Option Value
 base:Heap
 A:Around
 N:List Str
 s₀:Shared
 H₀:Hp
 env:Env
 outer:List Env
 stack:List Env
 ex:List Addr
 fn:Str->Bool
 calm:Bool
 pn:List (Addr×Obj)
 xe:Value->Shared->Prop
def frs(l:List Env):List Addr:=l.filterMap (·.frame)
abbrev Cx.fs(X:Cx):List Addr:=frs X.outer
def Vis(sc:Scope)(x:Str):Prop:=sc.names.lookup x=some .local\/sc.names.lookup x=some .cell\/sc.names.lookup x=some .free
def Loc(sc:Scope)(x:Str):Prop:=sc.names.lookup x=some .local\/sc.names.lookup x=some .cell
def Look(env:Env)(h:Heap)(m:Str->Option Value)(x:Str)(u:Value):Prop :=
 (env.kindOf x=some .local/\m x=some u)\/((env.kindOf x=some .cell\/env.kindOf x=some .free)/\∃c,env.cells.lookup x=some c/\h.IsCell c (some u))
structure Cx.Ok(X:Cx):Prop where
 mod:Mod X.K X.mg X.base
 kind:X.env.scope.kind=.function
 glob:X.env.globals=mainGlobals
 blt:X.env.builtins=builtinsNs
 above:X.s₀.heap.objs.size<=X.env.locals
 inj:∀x y c,X.env.cells.lookup x=some c->X.env.cells.lookup y=some c->x=y
 has:∀x,(X.env.kindOf x=some .cell\/X.env.kindOf x=some .free)->∃c,X.env.cells.lookup x=some c
 cab:∀x c,X.fn x=true->X.env.cells.lookup x=some c->X.s₀.heap.objs.size<=c
 hd:X.calm=true->X.A.handled=none
 frames:X.A.frames=some X.stack
 stk:X.stack=X.outer\/(X.stack=X.env::X.outer/\X.env.frame=some X.env.locals)
 exf:∀b∈X.ex,b≠X.env.locals/\∀x c,X.env.cells.lookup x=some c->c≠b
 bs:∀b o,X.base.get? b=some o->X.s₀.heap.get? b=some o/\X.H₀ b=none
 bsz:X.base.objs.size<=X.s₀.heap.objs.size
 noex:∀b o,X.base.get? b=some o->b∉X.ex
 exfs:∀b∈X.ex,b∉X.fs
 funs:X.s₀.heap.FunFrames X.base X.outer
 frf:∀b∈X.fs,X.H₀ b=none
structure Inv(X:Cx)(pins:List (Addr×Obj))(σ:List (Option V))(H:Hp)(s:Shared):Prop where
 ok:X.Ok
 os:s.os=X.s₀.os
 bare:AllBare s.gens
 base:Un X.fs X.ex X.H₀ H X.s₀.heap s.heap
 loc:∃m,s.heap.Ns X.env.locals m/\∀(i:Nat)(x:Str)(v:V),X.N[i]?=some x->σ[i]?=some (some v)->Vis X.env.scope x->∃u,RelV v u/\Look X.env s.heap m x u
 cell:∀x c,X.env.cells.lookup x=some c->∃v,s.heap.IsCell c v
 free:H X.env.locals=none
 freeC:∀x c,X.env.cells.lookup x=some c->H c=none
 pin:∀p∈X.pn++pins,s.heap.get? p.1=some p.2/\H p.1=none/\p.1≠X.env.locals/\p.1∉X.fs/\∀v,p.2.data≠.cell v
 hok:HOk X.prog X.w H s.heap
 len:σ.length=X.N.length
section
variable {X:Cx}{pins:List (Addr×Obj)}{σ:List (Option V)}{H H':Hp}{s:Shared}{h':Heap}
def Cx.Ok.nofr(q:X.Ok)(e:X.base.get? b=some o):b∉X.fs:=fun g=>by
 have:=(q.funs.mem g).1;rw[e] at this;cases this
def Inv.bs(I:Inv X pins σ H s):∀b o,X.base.get? b=some o->s.heap.get? b=some o/\H b=none:=fun b o e=>
 ⟨I.base.keep b o (I.ok.bs b o e).1 (I.ok.bs b o e).2 (I.ok.nofr e) (I.ok.noex b o e),I.base.free b o (I.ok.bs b o e).1 (I.ok.bs b o e).2 (I.ok.noex b o e)⟩
def Inv.bk(I:Inv X pins σ H s):∀b o,X.base.get? b=some o->s.heap.get? b=some o:=fun b o e=>(I.bs b o e).1
def Inv.mod(I:Inv X pins σ H s):Mod X.K X.mg X.base:=I.ok.mod
def Inv.kIn(I:Inv X pins σ H s):X.K.In s.heap:=I.ok.mod.kin.keeps I.bk
def Inv.fr(I:Inv X pins σ H s):∃m,Fr X.base X.env.locals s.heap m :=
 let ⟨m,g,_⟩:=I.loc
 ⟨m,g,I.bk,Ad I.ok.bsz I.ok.above⟩
def Inv.lt(I:Inv X pins σ H s):X.env.locals < s.heap.objs.size:=let ⟨_,g,_⟩:=I.loc;g.lt
def Inv.sz(I:Inv X pins σ H s):X.s₀.heap.objs.size<=s.heap.objs.size:=Ad I.ok.above (Be I.lt)
def Inv.nofs(I:Inv X pins σ H s){a:Addr}(h:s.heap.objs.size<=a):a∉X.fs:=fun g=>by
 obtain⟨_,o,q,_⟩:=I.ok.funs.mem g;exact absurd (AZ (AH q) (Ad I.sz h)) (A8 _)
def Inv.cne(I:Inv X pins σ H s):∀x c,X.env.cells.lookup x=some c->c≠X.env.locals:=fun x c e z=>by
 obtain⟨v,o,q,g⟩:=(I.cell x c e);obtain⟨m,⟨o',es,ep,D,B,_⟩,_⟩:=I.loc;rw[z,D] at q;cases q;rw[B] at g;cases g
def Inv.funs(I:Inv X pins σ H s):s.heap.FunFrames X.base X.outer:=by
 have D:∀l,(∀b∈frs l,b∈X.fs)->X.s₀.heap.FunFrames X.base l->s.heap.FunFrames X.base l:=by
  intro l
  induction l with
  |nil=>intro _ _;trivial
  |cons env r S =>
   intro hs J;obtain⟨G,⟨L,o,B,M,N,F⟩,O⟩:=J;have g:=hs L (by delta frs;exact List.filterMap_cons▸B▸AG);obtain⟨U,e⟩:=I.base.slot L o N (I.ok.frf L g) g fun z=>I.ok.exfs L z g;exact⟨G,⟨L,_,B,M,e,F⟩,S (fun b q=>hs b (by delta frs;exact List.filterMap_cons▸B▸AJ _ q)) O⟩
 exact D X.outer (fun _ q=>q) I.ok.funs
def Inv.stack(I:Inv X pins σ H s):s.heap.FunFrames X.base X.stack:=by
 rcases I.ok.stk with e | ⟨e,g⟩
 .exact e▸I.funs
 .rw [e]
  refine sQ I.loc fun m q _=>.cons (by rw[I.ok.kind];decide) g q ?_ I.funs;exact Heap.get?_none_of_le (Ad I.ok.bsz I.ok.above)
def Inv.stkSub(I:Inv X pins σ H s):∀b∈frs X.stack,b∈X.env.locals::X.fs:=fun b g=>by
 rcases I.ok.stk with e | ⟨e,q⟩
 .grind
 .rw [e] at g
  delta frs at g
  rwa [List.filterMap_cons,q] at g
def Inv.stkFree(I:Inv X pins σ H s):∀b∈frs X.stack,H b=none:=fun b g=>by
 rcases Ai.mp (I.stkSub b g) with e | g
 .exact e▸I.free
 .obtain ⟨_,o,q,_⟩:=I.ok.funs.mem g
  exact I.base.free b o q (I.ok.frf b g) fun z=>I.ok.exfs b z g
def Inv.step{ch:List Addr}(I:Inv X pins σ H s)(J:∀b∈ch,(b∈X.ex\/X.s₀.heap.objs.size<=b)/\b≠X.env.locals/\(∀x c,X.env.cells.lookup x=some c->c≠b)/\∀p∈X.pn++pins,p.1≠b)(S:∀b o,b≠X.env.locals->b∉X.fs->b∉ch->s.heap.get? b=some o->H b=none->h'.get? b=some o)(ah:∀b o,b≠X.env.locals->b∈X.fs->b∉ch->s.heap.get? b=some o->H b=none->∃U,h'.get? b=some { o with slots:=U })(M:∀b o,b∉ch->s.heap.get? b=some o->H b=none->H' b=none)(ar:∀b o,b∉ch->s.heap.get? b=some o->∃o',h'.get? b=some o')(au:∀b xs,H b=some (.tup xs)->H' b=some (.tup xs))(ai:∀b o u,H b=some (.frz o u)->H' b=some (.frz o u))(aq:∀b ps,H b=some (.tbl ps)->∃ak,H' b=some (.tbl (ps++ak)))(ns:∀m,s.heap.Ns X.env.locals m->h'.Ns X.env.locals m)(aj:HOk X.prog X.w H' h')(hg:AllBare g'):
  Inv X pins σ H' { s with heap:=h',gens:=g',drawn:=d',toks:=t' }:=by
 have ae:∀b o,X.s₀.heap.get? b=some o->b≠X.env.locals:=fun b o e=>AY (AZ (AH e) I.ok.above)
 have N:∀b o,X.s₀.heap.get? b=some o->b∉X.ex->b∉ch:=fun b o e g D=>by
  rcases(J b D).1 with z | z
  .exact g z
  .exact absurd (AZ (AH e) z) (A8 _)
 have Y:∀x c,X.env.cells.lookup x=some c->∀v,s.heap.IsCell c v->h'.IsCell c v:=fun x c e v zz=>sQ zz fun o F O=> by
  have L:c∉ch:=fun z=>(J c z).2.2.1 x c e rfl
  by_cases Z:c∈X.fs
  .obtain ⟨U,q⟩:=ah c o (I.cne x c e) Z L F (I.freeC x c e)
   exact⟨_,q,O⟩
  .exact ⟨o,S c o (I.cne x c e) Z L F (I.freeC x c e),O⟩
 refine⟨I.ok,I.os,hg,⟨fun b o e n D g=>?_,fun b o e n D g=>?_,fun b o e n g=>?_,fun b o e g=>?_,fun b xs e=>au b xs (I.base.tups b xs e),fun b o xs e=>ai b o xs (I.base.frzs b o xs e),fun b ps e=>?_⟩,?_,fun x c e=>?_,?_,fun x c e=>?_,fun p hp=>?_,aj,I.len⟩
 .exact S b o (ae b o e) D (N b o e g) (I.base.keep b o e n D g) (I.base.free b o e n g)
 .obtain ⟨U,B⟩:=I.base.slot b o e n D g
  obtain⟨ao,G⟩:=ah b _ (ae b o e) D (N b o e g) B (I.base.free b o e n g);exact⟨ao,G⟩
 .obtain ⟨o',B⟩:=I.base.there b o e g
  exact M b o' (N b o e g) B (I.base.free b o e n g)
 .obtain ⟨o',B⟩:=I.base.there b o e g
  exact ar b o' (N b o e g) B
 .obtain ⟨m1,B⟩:=I.base.tbls b ps e
  obtain⟨m2,G⟩:=aq b _ B;exact⟨m1++m2,by rw[G,Array.append_assoc]⟩
 .refine sQ I.loc fun m hn hl=>⟨m,ns m hn,fun i x v B G e3=>sQ (hl i x v B G e3) fun u r l=>⟨u,r,?_⟩⟩
  rcases l with l | ⟨k,c,e,z⟩
  .exact .inl l
  .exact .inr ⟨k,c,e,Y x c e _ z⟩
 .obtain ⟨v,z⟩:=I.cell x c e
  exact⟨v,Y x c e v z⟩
 .obtain ⟨m,⟨o,_,_,F,_⟩,_⟩:=I.loc
  exact M _ o (fun z=>(J _ z).2.1 rfl) F I.free
 .exact rG (I.cell x c e) fun v o F O=>M c o (fun z=>(J c z).2.2.1 x c e rfl) F (I.freeC x c e)
 .refine bH (I.pin p hp) fun e n ab ag d=>?_
  have L:p.1∉ch:=fun z=>(J p.1 z).2.2.2 p hp rfl;exact⟨S p.1 p.2 ab ag L e n,M p.1 p.2 L e n,ab,ag,d⟩
def Inv.un(I:Inv X pins σ H s)(u:Un X.fs [] H H' s.heap h')(L:HOk X.prog X.w H' h'):Inv X pins σ H' { s with heap:=h',toks:=t' }:=by
 obtain⟨m,⟨o,es,ep,q,r⟩,_⟩:=id I.loc;obtain⟨O,G⟩:=u.any q I.free (by simp)
 exact I.step (g':=s.gens) (d':=s.drawn) (ch:=[]) (fun _ z=>nomatch z) (fun b o _ g _ e n=>u.keep b o e n g (by simp)) (fun b o _ g _ e n=>u.slot b o e n g (by simp)) (fun b o _ e n=>u.free b o e n (by simp)) (fun b o _ e=>u.there b o e (by simp)) u.tups u.frzs u.tbls (fun N J=>by
  obtain⟨o',F,D,B,M⟩:=J;rw[q] at B;cases B
  exact⟨_,F,D,G,M⟩) L I.bare
def Inv.call(I:Inv X pins σ H s)(u:Un (frs X.stack) ch H H' s.heap h')(O:HOk X.prog X.w H' h')(M:AllBare g')(B:∀b∈ch,(b∈X.ex\/X.s₀.heap.objs.size<=b)/\b≠X.env.locals/\(∀x c,X.env.cells.lookup x=some c->c≠b)/\∀p∈X.pn++pins,p.1≠b):
  Inv X pins σ H' { s with heap:=h',gens:=g',drawn:=d',toks:=t' }:=by
 obtain⟨m,⟨o,es,ep,D,r⟩,_⟩:=id I.loc;obtain⟨Y,q⟩:=u.any D I.free fun z=>(B _ z).2.1 rfl
 exact I.step B (fun b o q L g e n=>u.keep b o e n (fun z=>(Ai.mp (I.stkSub b z)).elim q L) g) (fun b o _ _ g e n=>u.any e n g) (fun b o g e n=>u.free b o e n g) (fun b o g e=>u.there b o e g) u.tups u.frzs u.tbls (fun U N=>by
  obtain⟨o',J,G,F,S⟩:=N;rw[D] at F;cases F
  exact⟨_,J,G,q,S⟩) O M
def Inv.turned(I:Inv X pins σ H s)(k:∀b o,b≠it->s.heap.get? b=some o->h'.get? b=some o)(F:H it=none)(B:it≠X.env.locals)(h1:it∈X.ex\/X.s₀.heap.objs.size<=it)(h2:∀x c,X.env.cells.lookup x=some c->c≠it)(J:∀p∈X.pn++pins,p.1≠it):Inv X pins σ H { s with heap:=h',toks:=t' }:=by
 have M:∀b u,H b=some u->b≠it:=fun b u e z=>by rw[z,F] at e;cases e
 refine I.step (g':=s.gens) (d':=s.drawn) (ch:=[it]) (fun b L=>?_) (fun b o _ _ g e _=>k b o (fun z=>g (by simp[z])) e) (fun b o _ _ g e _=>⟨o.slots,k b o (fun z=>g (by simp[z])) e⟩) (fun _ _ _ _ n=>n)
  (fun b o g e=>⟨o,k b o (fun z=>g (by simp[z])) e⟩) (fun _ _ e=>e) (fun _ _ _ e=>e) (fun b ps e=>⟨#[],by rw[e];simp⟩) (fun m D=>?_) (fun b u e=>?_) I.bare
 .grind
 .exact Jo D fun o es ep G r=>⟨o,es,ep,k _ o (Ne.symm B) G,r⟩
 .refine (I.hok b u e).stay (fun c v g q=>k c v ?_ q) (fun _ q=>q) fun _ _ q=>q
  rcases g with z | z
  .lia
  .lia
def Inv.tok(I:Inv X pins σ H s)t:Inv X pins σ H { s with toks:=t }:=I.un (h':=s.heap) (t':=t) Un.refl I.hok
def Inv.kept(I:Inv X pins σ H s)(k:∀b u,s.heap.get? b=some u->h'.get? b=some u):Inv X pins σ H { s with heap:=h',toks:=t' }:=I.un (Un.kept k) (I.hok.kept k)
def Inv.laid{a:Addr}(I:Inv X pins σ H s)(k:∀b u,s.heap.get? b=some u->h'.get? b=some u)(g:s.heap.objs.size<=a)(q:ObjOk X.prog X.w (upd H a o) h' a o):
  Inv X pins σ (upd H a o) { s with heap:=h',toks:=t' }:=I.un (Un.laid k g (I.hok.fresh g)) (I.hok.laid k g q)
def Inv.write(I:Inv X pins σ H s)(B:Mut (H x))(g:e=x\/H e=some (.own x))(k:∀b u,b≠e->s.heap.get? b=some u->h'.get? b=some u)(q:∃u,h'.get? e=some u)(D:ObjOk X.prog X.w (upd H x o) h' x o):Inv X pins σ (upd H x o) { s with heap:=h',toks:=t' }:=I.un (Un.write B g k q) (I.hok.write B g k q D)
def Inv.weak(I:Inv X pins σ H s)(F:g.length=σ.length)(w:∀(i:Nat)v,g[i]?=some (some v)->σ[i]?=some (some v)):Inv X pins g H s :=
 ⟨I.ok,I.os,I.bare,I.base,let ⟨m,J,G⟩:=I.loc;⟨m,J,fun i x v q B D=>G i x v q (w i v B) D⟩,I.cell,I.free,I.freeC,I.pin,I.hok,F.trans I.len⟩
def Inv.pins_of(I:Inv X pins σ H s)(h:∀p∈q,s.heap.get? p.1=some p.2/\H p.1=none/\p.1≠X.env.locals/\p.1∉X.fs/\∀v,p.2.data≠.cell v):Inv X q σ H s :=
 ⟨I.ok,I.os,I.bare,I.base,I.loc,I.cell,I.free,I.freeC,fun p g=>(Ax.mp g).elim (fun z=>I.pin p (Ak _ z)) (h p),I.hok,I.len⟩
def Xt{N:List Str}(B:N.Nodup){j:Nat}(a:N[i]?=some x)(b:N[j]?=some x):i=j:=by
 obtain⟨h1,g⟩:=AU.mp a;obtain⟨h2,q⟩:=AU.mp b;exact(List.getElem_inj B).mp (g.trans q.symm)
def tP(I:Inv X pins σ H s)(hN:X.N.Nodup)(hi:X.N[i]?=some x)(D:Loc X.env.scope x)(r:RelV v u)(h:∀s',Inv X pins (σ.set i (some v)) H s'->(∃a,Heap.SameBut a s.heap s'.heap/\(a=X.env.locals\/X.env.cells.lookup x=some a))->Q () s')(aq:X.fn x=true\/X.env.scope.names.lookup x=some .local:=by first | exact .inl rfl | exact .inr rfl | assumption):wpAny av A (storeName X.env x u) Q E s:=by
 refine sQ (id I.loc) fun m Y hl=>?_;have ao:(X.env.scope.kind==.class || (X.env.scope.kind==.module&&X.env.locals != X.env.globals))=false:=by rw[I.ok.kind];rfl
 have ai:i < σ.length :=I.len▸(AU.mp hi).1;have O:=I.cne
 have ak:∀{a:Addr}{h':Heap},(∃o,s.heap.get? a=some o/\H a=none)->Heap.SameBut a s.heap h'->HOk X.prog X.w H h':=fun {a h'}ha hs b ob e=>by
  obtain⟨_,_,ah⟩:=ha;refine(I.hok b ob e).stay (fun c N B q=>(hs.2 c ?_).trans q) (fun _ q=>q) fun _ _ q=>q;rintro rfl
  rcases B with rfl | B
  .rw [ah] at e;cases e
  .rw [ah] at B;cases B
 rcases D with G | G
 .refine wpAny_storeName_local G Y (fun h' ar hs=>Jo (id Y) fun oL _ _ au _=>h _ ⟨I.ok,I.os,I.bare,⟨fun b o e n J D=>?_,fun b o e n J D=>?_,I.base.free,fun b o e D=>?_,I.base.tups,I.base.frzs,I.base.tbls⟩,⟨_,ar,fun j y v' g F S=>?_⟩,fun y c e=>?_,I.free,I.freeC,fun p Z=>?_,ak ⟨oL,au,I.free⟩ hs,by simpa using I.len⟩ ⟨_,hs,.inl rfl⟩) ao
  .exact (hs.2 b (AY (AZ (AH e) I.ok.above))).trans (I.base.keep b o e n J D)
  .obtain ⟨sl,g⟩:=I.base.slot b o e n J D
   exact⟨sl,(hs.2 b (AY (AZ (AH e) I.ok.above))).trans g⟩
  .obtain ⟨o',g⟩:=I.base.there b o e D
   exact⟨o',(hs.2 b (AY (AZ (AH e) I.ok.above))).trans g⟩
  .by_cases hj:j=i
   .subst hj
    rw[hi] at g;cases g
    rw[List.getElem?_set_self ai] at F;cases F;exact⟨u,r,.inl ⟨G,by simp⟩⟩
   .rw [CC (Ne.symm hj)] at F
    refine sQ (hl j y v' g F S) fun u' r' q=>⟨u',r',?_⟩
    rcases q with ⟨k,e⟩ | ⟨k,c,e,z⟩
    .refine .inl ⟨k,?_⟩
     have:y≠x:=fun e=>hj (Xt hN g (e▸hi))
     simp[this,e]
    .exact .inr ⟨k,c,e,z.sameBut hs (O y c e)⟩
  .obtain ⟨N,z⟩:=I.cell y c e
   exact⟨N,z.sameBut hs (O y c e)⟩
  .exact bH (I.pin p Z) fun e n M ab d=>⟨(hs.2 p.1 M).trans e,n,M,ab,d⟩
 .have U:X.fn x=true:=by
   rcases aq with z | z
   .exact z
   .rw [z] at G;cases G
  obtain⟨c,B⟩:=I.ok.has x (.inl G);obtain⟨N,z⟩:=I.cell x c B;refine wpAny_storeName_cell I.ok.kind G B z (fun h' ae hs=>sQ (id z) fun oc aj aw=>h { s with heap:=h' } ⟨I.ok,I.os,I.bare,⟨fun b o e n J D=>?_,fun b o e n J D=>?_,I.base.free,fun b o e D=>?_,I.base.tups,I.base.frzs,I.base.tbls⟩,⟨m,Y.sameBut hs (Ne.symm (O x c B)),fun j y v' g F S=>?_⟩,fun y L e=>?_,I.free,I.freeC,fun p Z=>?_,ak ⟨oc,aj,I.freeC x c B⟩ hs,by simpa using I.len⟩ ⟨c,hs,.inr B⟩)
  .exact (hs.2 b (AY (AZ (AH e) (I.ok.cab x c U B)))).trans (I.base.keep b o e n J D)
  .obtain ⟨sl,g⟩:=I.base.slot b o e n J D
   exact⟨sl,(hs.2 b (AY (AZ (AH e) (I.ok.cab x c U B)))).trans g⟩
  .obtain ⟨o',g⟩:=I.base.there b o e D
   exact⟨o',(hs.2 b (AY (AZ (AH e) (I.ok.cab x c U B)))).trans g⟩
  .by_cases hj:j=i
   .subst hj
    rw[hi] at g;cases g
    rw[List.getElem?_set_self ai] at F;cases F;exact⟨u,r,.inr ⟨.inl G,c,B,ae⟩⟩
   .rw [CC (Ne.symm hj)] at F
    refine sQ (hl j y v' g F S) fun u' r' q=>⟨u',r',?_⟩
    rcases q with q | ⟨k,L,e,z'⟩
    .exact .inl q
    .refine .inr ⟨k,L,e,z'.sameBut hs ?_⟩
     rintro rfl;exact hj (Xt hN g (I.ok.inj _ _ _ e B▸hi))
  .by_cases ag:L=c
   .subst ag;exact⟨_,ae⟩
   .obtain ⟨w2,z2⟩:=I.cell y L e
    exact⟨w2,z2.sameBut hs ag⟩
  .refine bH (I.pin p Z) fun e n M ab d=>⟨(hs.2 p.1 ?_).trans e,n,M,ab,d⟩
   intro q;rw[q,aj] at e;exact d N (by lia)
def Q0(I:Inv X pins σ H s)(q:X.N.Nodup)(hi:X.N[i]?=some x)(D:Loc X.env.scope x)(r:RelV v u)(h:∀s',Inv X pins (σ.set i (some v)) H s'->Q () s')(B:X.fn x=true\/X.env.scope.names.lookup x=some .local:=by first | exact .inl rfl | exact .inr rfl | assumption):wpAny M A (storeName X.env x u) Q E s :=
 tP I q hi D r (fun s' g _=>h s' g) B
end
abbrev XK:=Value->Option Addr->Hp->Prop
abbrev St:=List (Option V)
abbrev VK:=V->Hp->Prop
abbrev TE:=St->Hp->VK->Prop
abbrev TT:=St->Hp->(Bool->Hp->Prop)->Prop
abbrev TA:=St->Hp->(List V->Hp->Prop)->Prop
structure UK where
 nx:St->Hp->Prop
 rt:VK
 bk:St->Hp->Prop:=fun _ _=>False
 ct:St->Hp->Prop:=fun _ _=>False
abbrev TS:=UK->St->Hp->Prop
def EP(X:Cx)(pins:List (Addr×Obj))(σ:St)(Q:VK)(u:Value)(s':Shared):Prop:=∃v H',Inv X pins σ H' s'/\RelV v u/\Q v H'
def TP(X:Cx)(pins:List (Addr×Obj))(σ:St)(Q:Bool->Hp->Prop)(b:Bool)(s':Shared):Prop:=∃H',Inv X pins σ H' s'/\Q b H'
def AP(X:Cx)(pins:List (Addr×Obj))(σ:St)(Q:List V->Hp->Prop)(g:List Value)(s':Shared):Prop:=∃vs H',Inv X pins σ H' s'/\Vals vs g/\Q vs H'
def SP(X:Cx)(pins:List (Addr×Obj))(D:UK)(f:Flow)(s':Shared):Prop :=
 match f with
 |.next=>∃g H',Inv X pins g H' s'/\D.nx g H'
 |.brk=>∃g H',Inv X pins g H' s'/\D.bk g H'
 |.cont=>∃g H',Inv X pins g H' s'/\D.ct g H'
 |.ret u=>∃v g H',Inv X pins g H' s'/\RelV v u/\D.rt v H'
def PE(X:Cx)(e:Expr)(t:TE):Prop :=
 ∀(pins:List (Addr×Obj))(s:Shared)(σ:St)(H:Hp)(Q:VK),Inv X pins σ H s->t σ H Q->wpAny (model X.prog X.w) X.A (eval e X.env) (EP X pins σ Q) X.xe s
def PT(X:Cx)(e:Expr)(t:TT):Prop :=
 ∀(pins:List (Addr×Obj))(s:Shared)(σ:St)(H:Hp)(Q:Bool->Hp->Prop),Inv X pins σ H s->t σ H Q->wpAny (model X.prog X.w) X.A (isTrue e X.env (eval e X.env)) (TP X pins σ Q) X.xe s
def PW(X:Cx)(e:Expr)(t:TT):Prop :=
 ∀(g:Sem Value)(pins:List (Addr×Obj))(s:Shared)(σ:St)(H:Hp)(Q:Bool->Hp->Prop),Inv X pins σ H s->t σ H Q->wpAny (model X.prog X.w) X.A (isTrue e X.env g) (TP X pins σ Q) X.xe s
def PW.pt(h:PW X e t):PT X e t:=h _
def PA(X:Cx)(es:List Expr)(t:TA):Prop :=
 ∀(pos:Pos)(pins:List (Addr×Obj))(s:Shared)(σ:St)(H:Hp)(Q:List V->Hp->Prop),Inv X pins σ H s->t σ H Q->wpAny (model X.prog X.w) X.A (spliced (backTo pos (starEach es X.env))) (AP X pins σ Q) X.xe s
def PS(X:Cx)(st:Stmt)(t:TS):Prop :=
 ∀(pins:List (Addr×Obj))(s:Shared)(σ:St)(H:Hp)(D:UK),Inv X pins σ H s->t D σ H->wpAny (model X.prog X.w) X.A (exec st X.env) (SP X pins D) X.xe s
def PSs(X:Cx)(st:List Stmt)(t:TS):Prop :=
 ∀(pins:List (Addr×Obj))(s:Shared)(σ:St)(H:Hp)(D:UK),Inv X pins σ H s->t D σ H->wpAny (model X.prog X.w) X.A (execs st X.env) (SP X pins D) X.xe s
theorem thn(h:wpAny M A t Q E s)(q:∀a s,Q a s->g a s):wpAny M A t g E s:=BQ h q fun _ _ x=>x
section
variable {X:Cx}
def bin(F:PE X a ta)(G:PE X b tb){σ:St}{R:V->V->Hp->Prop}(I:Inv X pins σ H s)(h:ta σ H fun x H1=>tb σ H1 fun y H2=>R x y H2){f:Value->Value->Sem α}(J:∀v u g x y H2,Inv X pins σ H2 g->RelV x v->RelV y u->R x y H2->wpAny (model X.prog X.w) X.A (f v u) Q X.xe g):
  wpAny (model X.prog X.w) X.A (eval a X.env) (fun v U=>wpAny (model X.prog X.w) X.A (eval b X.env) (fun u Y=>wpAny (model X.prog X.w) X.A (f v u) Q X.xe Y) X.xe U) X.xe s :=thn (F pins s σ H _ I h) fun v S q=>vZ q fun x H1 B N L=> thn (G pins S σ H1 _ B L) fun u g q=>vZ q fun y H2 D O M=> J v u g x y H2 D N O M
inductive IVar(i:Nat)(σ:St)(H:Hp)(Q:VK):Prop
 |mk(v:V)(h:σ[i]?=some (some v))(q:Q v H)
def tVar(i:Nat):TE:=fun σ H Q=>IVar i σ H Q
def tC(v:V):TE:=fun _ H Q=>Q v H
def Yo{pos}(G:X.N[i]?=some x)(O:Vis X.env.scope x)(B:(x==("__debug__" : Str))=false:=by decide)(J:(x==("__classdict__" : Str))=false:=by decide):PE X (.Name x pos) (tVar i):=by
 intro pins s σ H Q I h;obtain⟨v,e,h⟩:=h;refine sQ I.loc fun m N L=>sQ (L i x v G e O) fun u r l=>?_;have q:EP X pins σ Q u s:=⟨v,H,I,r,h⟩
 rcases l with ⟨g,M⟩ | ⟨g,c,D,F⟩
 .exact wpAny_Name (wpAny_loadName_local I.ok.kind g N M q) B
 .rcases g with g | g
  .exact wpAny_Name (wpAny_loadName_cell I.ok.kind g D F q) B
  .exact wpAny_Name (wpAny_loadName_free I.ok.kind g D F q J) B
def pe_int{i j pos}:PE X (.Constant (.int i) j pos) (tC (.int i)):=fun _ _ _ H _ I h=>wpAny_Constant_int ⟨.int i,H,I.tok _,⟨_,rfl⟩,h⟩
def pe_bl{b j pos}:PE X (.Constant (.bool b) j pos) (tC (.bl b)):=fun _ _ _ H _ I h=>Constant_bool ⟨.bl b,H,I,rfl,h⟩
def pe_non{j pos}:PE X (.Constant .none j pos) (tC .non):=fun _ _ _ H _ I h=>Constant_none ⟨.non,H,I,rfl,h⟩
def pe_str{x j pos}:PE X (.Constant (.str x) j pos) (tC (.str x)):=fun _ _ _ H _ I h=>Calls.Constant_str ⟨.str x,H,I.tok _,⟨_,rfl⟩,h⟩
def Gl(X:Cx)(x:Str):Prop:=X.env.kindOf x=some .globalImplicit
def pI{σ:St}(I:Inv X pins σ H s)(q:Gl X x)(B:X.mg x=some u)(h:Q u s)(g:(x==("__debug__" : Str))=false:=by decide):wpAny (model X.prog X.w) X.A (eval (.Name x pos) X.env) Q E s :=
 Calls.Name_function_global I.ok.kind q (Calls.loadGlobal_global (I.ok.glob▸I.mod.glob.keeps I.bk) B h) g
def dI{E}{σ:St}{pos}(I:Inv X pins σ H s)(q:Gl X x)(B:X.mg x=none)(F:bootBuiltins x=some u)(h:Q u s)(D:x ≠ "__name__":=by decide)(g:(x==("__debug__" : Str))=false:=by decide):wpAny (model X.prog X.w) X.A (eval (.Name x pos) X.env) Q E s :=sQ I.mod.blt fun G h1 h2=>Calls.Name_function_global I.ok.kind q (Calls.loadGlobal_builtin (I.ok.glob▸I.mod.glob.keeps I.bk) B (I.ok.blt▸h1.keeps I.bk) ((h2 x D).trans F) h) g
def pe_glob(q:Gl X x)(B:X.mg x=some u)(r:RelV v u)(g:(x==("__debug__" : Str))=false:=by decide):PE X (.Name x pos) (tC v) :=
 fun _ _ _ H _ I h=>pI I q B ⟨v,H,I,r,h⟩ g
def pe_bltn{pos}(q:Gl X x)(B:X.mg x=none)(F:bootBuiltins x=some u)(r:RelV v u)(D:x ≠ "__name__":=by decide)(g:(x==("__debug__" : Str))=false:=by decide):PE X (.Name x pos) (tC v) :=
 fun _ _ _ H _ I h=>dI I q B F ⟨v,H,I,r,h⟩ D g
variable {a b:Expr}{ta tb:TE}{pos:Pos}
inductive IBl(Q:Bool->Hp->Prop)(x:V)(H:Hp):Prop
 |mk(c:Bool)(h:x=.bl c)(q:Q c H)
def tB(t:TE):TT:=fun σ H Q=>t σ H (IBl Q)
def pt_val(h:PE X e t)(D:∀g,isTrue e X.env g=(do let v <- g;standAt e.pos;holding [v] (truthy v)):=by intro _;rfl):PT X e (tB t):=by
 intro pins s σ H Q I F;refine isTrue_plain (thn (h pins s σ H _ I F) fun v M L=>vZ L fun x H1 B J G=> ?_) (D _);obtain⟨d,rfl,q⟩:=G;cases J;exact BC ⟨H1,B,q⟩
variable {tA tB':TT}{nX:List Expr}
def tAnd(t u:TT):TT:=fun σ H Q=>t σ H fun c H1=>if c=true then u σ H1 Q else Q false H1
def tOr(t u:TT):TT:=fun σ H Q=>t σ H fun c H1=>if c=true then Q true H1 else u σ H1 Q
def tNot(t:TT):TT:=fun σ H Q=>t σ H fun c H1=>Q (!c) H1
def pw_and1(g:PT X a tA):PW X (.BoolOp .And [a] pos) tA:=by
 intro B pins s σ H Q I h;refine isTrue_and (thn (g pins s σ H Q I h) fun c q e=>?_)
 cases c with
 |true=>exact isTrue_and_nil e
 |false=>exact e
def pw_or1(g:PT X a tA):PW X (.BoolOp .Or [a] pos) tA:=by
 intro B pins s σ H Q I h;refine isTrue_or (thn (g pins s σ H Q I h) fun c q e=>?_)
 cases c with
 |false=>exact isTrue_or_nil e
 |true=>exact e
def pw_and(B:PT X a tA)(D:PW X (.BoolOp .And (b::nX) pos) tB'):PW X (.BoolOp .And (a::b::nX) pos) (tAnd tA tB'):=by
 intro G pins s σ H Q I h;refine isTrue_and (thn (B pins s σ H _ I h) fun c F J=>sQ J fun H1 g q=> ?_)
 cases c with
 |true=>exact D G pins F σ H1 Q g q
 |false=>exact⟨H1,g,q⟩
def pw_or(B:PT X a tA)(D:PW X (.BoolOp .Or (b::nX) pos) tB'):PW X (.BoolOp .Or (a::b::nX) pos) (tOr tA tB'):=by
 intro G pins s σ H Q I h;refine isTrue_or (thn (B pins s σ H _ I h) fun c F J=>sQ J fun H1 g q=> ?_)
 cases c with
 |true=>exact⟨H1,g,q⟩
 |false=>exact D G pins F σ H1 Q g q
def pt_not(g:PT X a tA):PT X (.UnaryOp .Not a pos) (tNot tA):=by
 intro pins s σ H Q I h;exact isTrue_not (g pins s σ H (fun c H1=>Q (!c) H1) I h)
def tAndV(ta tb:TE):TE:=fun σ H Q=>ta σ H fun x H1=>∃c,x=.bl c/\if c=true then tb σ H1 Q else Q (.bl false) H1
def pe_one{op}(h:PE X a t):PE X (.BoolOp op [a] pos) t:=fun pins s σ H Q I g=>BoolOp_one (h pins s σ H Q I g)
def pe_and(B:PE X a ta)(D:PE X (.BoolOp .And (b::nX) pos) tb):PE X (.BoolOp .And (a::b::nX) pos) (tAndV ta tb):=by
 intro pins s σ H Q I h;refine BoolOp_and (thn (B pins s σ H _ I h) fun v G J=>vZ J fun x H1 q F g=> ?_);obtain⟨c,rfl,g⟩:=g;cases F
 apply BC
 cases c with
 |true=>exact D pins G σ H1 Q q g
 |false=>exact⟨.bl false,H1,q,rfl,g⟩
def tIf(t:TT)(ta tb:TE):TE:=fun σ H Q=>t σ H fun c H1=>if c=true then ta σ H1 Q else tb σ H1 Q
def Yr(G:PT X c tA)(D:PE X a ta)(F:PE X b tb):PE X (.IfExp c a b pos) (tIf tA ta tb):=by
 intro pins s σ H Q I h;refine wpAny_IfExp (thn (G pins s σ H _ I h) fun d B J=>sQ J fun H1 g q=> ?_)
 cases d with
 |true=>exact D pins B σ H1 Q g q
 |false=>exact F pins B σ H1 Q g q
end
def SqL(K:Dl)(H:Hp)(a:Addr)(xs:List V):Prop :=
 Rd H a (.lst xs) \/
  ∃(o:Obj)(g:Array Value)(n:Nat),K.lookup a=some o/\o.cls=.type "list"/\o.dict=none/\o.data=.seq g n/\g.size<=sizeLine/\Vals xs g.toList
def SqT(K:Dl)(H:Hp)(a:Addr)(xs:List V):Prop :=
 Rd H a (.tup xs) \/
  ∃(o:Obj)(g:Array Value)(n:Nat),K.lookup a=some o/\o.cls=.type "tuple"/\o.data=.seq g n/\g.size<=sizeLine/\Vals xs g.toList
noncomputable def absV:Value->Option V
 |.none=>some .non
 |.bool b=>some (.bl b)
 |.int i _=>some (.int i)
 |.str x _=>some (.str x)
 |.bytes b _=>some (.byt b)
 |.float b _=>some (.flt b)
 |.ref a=>some (.ref a)
 |.type n=>some (.ty n)
 |_=>none
def RelV.abs(r:RelV x u):absV u=some x:=by
 cases x with
 |non=>cases r;rfl
 |bl _=>cases r;rfl
 |int _=>obtain⟨t,rfl⟩:=r;rfl
 |str _=>obtain⟨t,rfl⟩:=r;rfl
 |byt _=>obtain⟨t,rfl⟩:=r;rfl
 |flt _=>obtain⟨t,rfl⟩:=r;rfl
 |ref _=>cases r;rfl
 |ty _=>cases r;rfl
def RelV.inj(r:RelV x u)(q:RelV y u):x=y:=Al (r.abs.symm.trans q.abs)
theorem Vals.inj:∀{xs ys}{g},Vals xs g->Vals ys g->xs=ys
 |_,_,_,.nil,.nil=>rfl
 |_,_,_,.cons r t,.cons q t'=>by rw[r.inj q,Vals.inj t t']
section
variable {X:Cx}{pins:List (Addr×Obj)}{σ:St}{H:Hp}{s:Shared}{a:Addr}{xs ys:List V}
def SqL.of{K}(h:H a=some (.lst xs)):SqL K H a xs:=.inl (.inl h)
def SqT.of{K}(h:H a=some (.tup xs)):SqT K H a xs:=.inl (.inl h)
def Inv.list(I:Inv X pins σ H s)(h:SqL X.K H a xs):∃g,Vals xs g/\PlainL s.heap a g.toArray/\xs.length<=sizeLine:=by
 rcases h with h | ⟨o,g,n,D,q,B,hs,F,r⟩
 .obtain ⟨z,g,n,r,e⟩:=h.ok I.hok
  exact⟨g,r,⟨_,n,e,rfl,rfl,rfl⟩,z⟩
 .refine ⟨g.toList,r,⟨o,n,I.kIn a o D,q,B,by simpa using hs⟩,?_⟩
  have e:=r.length
  simp only[Array.length_toList] at e
  lia
def Inv.tuple(I:Inv X pins σ H s)(h:SqT X.K H a xs):∃g,Vals xs g/\IsTup s.heap a g.toArray/\xs.length<=sizeLine:=by
 rcases h with h | ⟨o,g,n,B,q,hs,D,r⟩
 .obtain ⟨z,g,r,p⟩:=h.ok I.hok
  exact⟨g,r,jg.is p,z⟩
 .refine ⟨g.toList,r,⟨o,I.kIn a o B,q,n,by simpa using hs⟩,?_⟩
  have e:=r.length
  simp only[Array.length_toList] at e
  lia
def Inv.list_inj(I:Inv X pins σ H s)(h:SqL X.K H a xs)(h':SqL X.K H a ys):xs=ys:=by
 obtain⟨q,r,⟨o,n,e,_,_,d⟩,_⟩:=I.list h;obtain⟨its',B,⟨o',D,g,_,_,d'⟩,_⟩:=I.list h';rw[e] at g;cases g
 rw[d] at d';injection d' with d1 _
 have:q=its' :=by lia
 subst this;exact r.inj B
def Inv.tuple_inj(I:Inv X pins σ H s)(h:SqT X.K H a xs)(h':SqT X.K H a ys):xs=ys:=by
 obtain⟨q,r,⟨o,e,_,n,d⟩,_⟩:=I.tuple h;obtain⟨its',B,⟨o',g,_,D,d'⟩,_⟩:=I.tuple h';rw[e] at g;cases g
 rw[d] at d';injection d' with d1 _
 have:q=its' :=by lia
 subst this;exact r.inj B
end
abbrev Cx.wish(X:Cx)(E:Value->Shared->Prop):Cx:={ X with xe:=E }
abbrev Cx.nox(X:Cx):Cx:=X.wish fun _ _=>False
def Cx.Ok.wish{X:Cx}(g:X.Ok)E:(X.wish E).Ok :=
 ⟨g.mod,g.kind,g.glob,g.blt,g.above,g.inj,g.has,g.cab,g.hd,g.frames,g.stk,g.exf,g.bs,g.bsz,g.noex,g.exfs,g.funs,g.frf⟩
def Cx.Ok.unwish{X:Cx}(g:(X.wish E).Ok):X.Ok :=
 ⟨g.mod,g.kind,g.glob,g.blt,g.above,g.inj,g.has,g.cab,g.hd,g.frames,g.stk,g.exf,g.bs,g.bsz,g.noex,g.exfs,g.funs,g.frf⟩
section
variable {X:Cx}{pins:List (Addr×Obj)}{σ:St}{H:Hp}{s:Shared}{E:Value->Shared->Prop}
def Inv.wish(I:Inv X pins σ H s)E:Inv (X.wish E) pins σ H s:=⟨I.ok.wish E,I.os,I.bare,I.base,I.loc,I.cell,I.free,I.freeC,I.pin,I.hok,I.len⟩
def Inv.unwish(I:Inv (X.wish E) pins σ H s):Inv X pins σ H s:=⟨I.ok.unwish,I.os,I.bare,I.base,I.loc,I.cell,I.free,I.freeC,I.pin,I.hok,I.len⟩
def SP.unwish(h:SP (X.wish E) pins D f s'):SP X pins D f s':=by
 cases f with
 |next=>obtain⟨g,H',I,q⟩:=h;exact⟨g,H',I.unwish,q⟩
 |brk=>obtain⟨g,H',I,q⟩:=h;exact⟨g,H',I.unwish,q⟩
 |cont=>obtain⟨g,H',I,q⟩:=h;exact⟨g,H',I.unwish,q⟩
 |ret u=>exact bT h fun v g H' I r q=>⟨v,g,H',I.unwish,r,q⟩
def PSs.nox{st}(h:PSs X.nox st t):PSs X st t:=fun pins s σ H D I g=>
 BQ (h pins s σ H D (I.wish _) g) (fun _ _ q=>q.unwish) fun _ _ z=>False.elim z
end
section
variable {X:Cx}{st:Stmt}{nX:List Stmt}{t u:TS}{e:Expr}{te:TE}{pos:Pos}
def tNext:TS:=fun D σ H=>D.nx σ H
def tSeq(t u:TS):TS:=fun D σ H=>t { D with nx:=u D } σ H
def pss_nil:PSs X [] tNext:=fun _ _ σ H _ I h=>DY ⟨σ,H,I,h⟩
def Ye(h1:PS X st t)(h2:PSs X nX u):PSs X (st::nX) (tSeq t u):=by
 intro pins s σ H D I h;refine wpAny_execs_cons (thn (h1 pins s σ H { D with nx:=u D } I h) fun f B q=>?_)
 cases f with
 |next =>
  exact rG q fun F H' g q=>h2 pins B F H' D g q
 |ret v=>exact q
 |brk=>exact q
 |cont=>exact q
def pss_one(h1:PS X st t):PSs X [st] t:=by
 intro pins s σ H D I h;refine wpAny_execs_cons (thn (h1 pins s σ H D I h) fun f g q=>?_)
 cases f with
 |next=>exact DY q
 |ret v=>exact q
 |brk=>exact q
 |cont=>exact q
def Inv.quiet{σ:St}(I:Inv X pins σ H s):interactive X.env=false :=by simp[interactive,I.ok.kind]
def tDrop(te:TE):TS:=fun D σ H=>te σ H fun _ H1=>D.nx σ H1
def ps_expr(q:PE X e te)(hs:swapsWith e none pos.line X.env=pure false:=by rfl):PS X (.Expr e pos) (tDrop te):=by
 intro pins s σ H D I h;exact wpAny_Expr_any (thn (q pins s σ H _ I h) fun v J F=>vZ F fun x H1 g G B=> ⟨σ,H1,g,B⟩) I.quiet hs
def tRet(te:TE):TS:=fun D σ H=>te σ H D.rt
def Yg(q:PE X e te):PS X (.Return (some e) pos) (tRet te):=by
 intro pins s σ H D I h;exact wpAny_Return_some (thn (q pins s σ H _ I h) fun v J G=>vZ G fun x H1 g F B=> ⟨x,σ,H1,g,F,B⟩)
def tIfS(c:TT)(t u:TS):TS:=fun D σ H=>c σ H fun b H1=>if b=true then t D σ H1 else u D σ H1
def ps_if(J:PT X c tc)(F:PSs X a t)(G:PSs X b u):PS X (.If c a b pos) (tIfS tc t u):=by
 intro pins s σ H D I h;refine wpAny_If (thn (J pins s σ H _ I h) fun d B L=>sQ L fun H1 g q=> ?_)
 cases d with
 |true=>exact F pins B σ H1 D g q
 |false=>exact G pins B σ H1 D g q
end
abbrev TG:=V->St->Hp->(St->Hp->Prop)->Prop
abbrev TGs:=List V->St->Hp->(St->Hp->Prop)->Prop
def PG(X:Cx)(q:Expr)(t:TG):Prop :=
 ∀(pins:List (Addr×Obj))(s:Shared)(σ:St)(H:Hp)(v:V)(u:Value)(Q:St->Hp->Prop),Inv X pins σ H s->RelV v u->t v σ H Q ->
  wpAny (model X.prog X.w) X.A (assign q X.env u) (fun _ s'=>∃g H',Inv X pins g H' s'/\Q g H') X.xe s
def PGs(X:Cx)(ts:List Expr)(t:TGs):Prop :=
 ∀(pins:List (Addr×Obj))(s:Shared)(σ:St)(H:Hp)(vs:List V)(g:List Value)(Q:St->Hp->Prop),Inv X pins σ H s->Vals vs g->t vs σ H Q ->
  wpAny (model X.prog X.w) X.A (assignInOrder ((assignEach ts X.env).map (·.2)) g) (fun _ s'=>∃q H',Inv X pins q H' s'/\Q q H') X.xe s
abbrev TSet:=V->V->V->Hp->(Hp->Prop)->Prop
def PSet(X:Cx)(t:TSet):Prop :=
 ∀(pins:List (Addr×Obj))(s:Shared)(σ:St)(H:Hp)(o i v:V)(q g u:Value)(Q:Hp->Prop),Inv X pins σ H s->RelV o q->RelV i g->RelV v u->t o i v H Q ->
  wpAny (model X.prog X.w) X.A (setItem q g u) (fun _ s'=>∃H',Inv X pins σ H' s'/\Q H') X.xe s
section
variable {X:Cx}{pos:Pos}
def xB(i:Nat):TG:=fun v σ H Q=>Q (σ.set i (some v)) H
def iY(q:X.N.Nodup)(hi:X.N[i]?=some x)(D:Loc X.env.scope x)(B:X.fn x=true\/X.env.scope.names.lookup x=some .local:=by first | exact .inl rfl | exact .inr rfl | assumption):PG X (.Name x pos) (xB i):=by
 intro pins s σ H v u Q I r h;exact wpAny_assign_Name (Q0 I q hi D r (fun s' g=>⟨_,H,g,h⟩) B)
def gNil:TGs:=fun vs σ H Q=>vs=[]/\Q σ H
def mE(t:TG)(u:TGs):TGs:=fun vs σ H Q=>∃v r,vs=v::r/\t v σ H fun g H'=>u r g H' Q
def nA:PGs X [] gNil:=by
 intro pins s σ H vs g Q I r h;obtain⟨rfl,h⟩:=h;cases r;exact assignInOrder_nil ⟨σ,H,I,h⟩
def qU(h1:PG X e t)(h2:PGs X es u)(hs:(assignEach (e::es) X.env).map (·.2)=assign e X.env::(assignEach es X.env).map (·.2):=by rfl):PGs X (e::es) (mE t u):=by
 intro pins s σ H vs G Q I r h;obtain⟨v,J,rfl,h⟩:=h
 cases r with
 |cons r rr =>
  exact hs▸assignInOrder_cons (thn (h1 pins s σ H _ _ _ I r h) fun _ B D=>rG D fun F H1 g q=> h2 pins B F H1 _ _ Q g rr q)
def gTup(K:Dl)(n:Nat)(t:TGs):TG:=fun v σ H Q=>∃a xs,v=.ref a/\SqT K H a xs/\xs.length=n/\t xs σ H Q
def ZO{k}(B:X.calm=true)(h:PGs X es t)(F:(assignEach es X.env).length=n:=by rfl)(J:(assignEach es X.env).findIdx? (·.1)=none:=by rfl):PG X (.Tuple es k pos) (gTup X.K n t):=by
 intro pins s σ H v u Q I r g;obtain⟨a,xs,rfl,G,D,g⟩:=g;cases r;refine jJ (I.tuple G) fun S N L O=>assign_Tuple_tuple (I.ok.hd B) L (by simp[F,<- D,N.length]) J fun h' M=>?_;have q:=I.kept (t':=s.toks) fun b o e=>M b o (AY (AH e)) e;exact h pins _ σ H xs _ Q q (by lia) g
def gSub(to q:TE)(t:TSet):TG:=fun v σ H Q=>to σ H fun o H1=>q σ H1 fun i H2=>t o i v H2 fun g=>Q σ g
def pg_sub(L:PE X o to)(hi:PE X i ti)(hs:PSet X t)(ha:∀v,assign (.Subscript o i pos) X.env v=(do
   let g <- holding [v] (eval o X.env)
   let q <- holding [v,g] (eval i X.env)
   standAt pos
   holding [v,g,q] (setItem g q v)
   release [v,g,q] []):=by intro _;rfl):PG X (.Subscript o i pos) (gSub to ti t):=by
 intro pins s σ H v u Q I r h;exact AA (Ao (thn (L pins s σ H _ I h) fun g Y B=>vZ B fun x H1 F S M=> AA (Ao (thn (hi pins Y σ H1 _ F M) fun q Z B=>vZ B fun y H2 G U N=> AA (wpAny_standAt (AA (Ao (thn (hs pins Z σ H2 x y v g q u _ G S U r N) fun _ ab B=>sQ B fun D J O=> wpAny_release ⟨σ,D,J,O⟩))))))))
def tAsg(te:TE)(g:TG):TS:=fun D σ H=>te σ H fun x H1=>g x σ H1 D.nx
def ps_asg(F:PE X e te)(G:PG X tg g)(hs:swapsWithSole [tg] e pos.line X.env=pure false:=by rfl)(J:swappedStores [tg] e X.env=pure none:=by rfl)(h1:(assignEach [tg] X.env).map (·.2)=[assign tg X.env]:=by rfl):PS X (.Assign [tg] e pos) (tAsg te g):=by
 intro pins s σ H D I h;refine wpAny_Assign_stores (thn (F pins s σ H _ I h) fun v N O=>vZ O fun x H1 B M L=> ?_) hs J;rw[h1];exact thn (G pins N σ H1 x v _ B M L) fun _ S q=>q
def ps_set(B:X.N.Nodup)(hi:X.N[i]?=some x)(J:Loc X.env.scope x)(F:PE X e te)(hs:swapsWith e (some (.Name x pos')) pos.line X.env=pure false:=by rfl)(G:X.fn x=true\/X.env.scope.names.lookup x=some .local:=by first | exact .inl rfl | exact .inr rfl | assumption):
  PS X (.Assign [.Name x pos'] e pos) (tAsg te (xB i)):=by
 intro pins s σ H D I h;exact wpAny_Assign_Name (thn (F pins s σ H _ I h) fun v O N=>vZ N fun y H1 g M L=> Q0 g B hi J M (fun S q=>⟨_,H1,q,L⟩) G) hs
def tWhile(c:TT)(tb:TS):TS:=fun D σ H=>∃W:Nat->St->Hp->Prop,(∃m,W m σ H)/\∀m σ H,W m σ H ->
 c σ H fun b H1=>if b=true then ∃N:St->Hp->Prop,(∀q H',N q H'->∃g,g < m/\W g q H')/\tb { D with nx:=N,ct:=N,bk:=D.nx } σ H1 else D.nx σ H1
def Yf(Y:PassesOwn (model X.prog X.w) X.A X.env X.xe)(hc:PT X c tc)(hb:PSs X ab tb):PS X (.While c ab [] pos) (tWhile tc tb):=by
 intro pins s σ H aj I h;obtain⟨W,⟨ae,w0⟩,ai⟩:=h;refine wpAny_While (codeAny_whileLoop (fun n s'=>∃Z H',Inv X pins Z H' s'/\W n Z H') ?_ ae ⟨σ,H,I,w0⟩);rintro n ag ⟨F,H1,I1,w1⟩;refine B4 Y (thn (hc pins ag F H1 _ I1 (ai n F H1 w1)) fun b ah zz=>sQ zz fun H2 S B=> ?_)
 cases b with
 |true =>
  refine sQ B fun N U B=>B4 Y (thn (hb pins ah F H2 _ S B) fun f ak D=>?_)
  cases f with
  |next =>
   obtain⟨q,g,G,M⟩:=D;obtain⟨L,J,O⟩:=U q g M;exact⟨L,J,q,g,G,O⟩
  |cont =>
   obtain⟨q,g,G,M⟩:=D;obtain⟨L,J,O⟩:=U q g M;exact⟨L,J,q,g,G,O⟩
  |brk=>exact D
  |ret v=>exact D
 |false =>
  exact(Ac AR)▸DY ⟨F,H2,S,B⟩
end
structure It where
 go:Nat->Hp->Prop
 yld:Nat->Hp->V->Hp->Prop
 stop:Nat->Hp->Prop
def Zo(X:Cx)(pins:List (Addr×Obj))(H:Hp)(b:Addr):Prop :=
 H b=none/\b≠X.env.locals/\b∉X.fs/\(b∈X.ex\/X.s₀.heap.objs.size<=b)/\(∀x c,X.env.cells.lookup x=some c->c≠b)/\∀p∈X.pn++pins,p.1≠b
def Inv.fpOk{σ:St}{b:Addr}(I:Inv X pins σ H s)(g:s.heap.objs.size<=b)(B:H' b=none):Zo X pins H' b:=by
 refine⟨B,Aq (AZ I.lt g),I.nofs g,.inr (Ad I.sz g),fun x c e z=>?_,fun p D z=>?_⟩
 .obtain ⟨v,q⟩:=I.cell x c e
  exact absurd (AZ q.lt (by rwa [z])) (A8 _)
 .exact absurd (AZ (AH (I.pin p D).1) (by rwa [z])) (A8 _)
structure Zi(P:Program)(w:World)(K:Dl)(tg:Expr)(J:It)(fp:List Addr)(it:Addr)(tn:Nat->Heap->Prop):Prop where
 mem:it∈fp
 obj:∀i h,tn i h->∀b∈fp,∃o,h.get? b=some o/\∀v,o.data≠.cell v
 keep:∀i h h',tn i h->(∀b∈fp,∀o,h.get? b=some o->h'.get? b=some o)->tn i h'
 item:∀(X:Cx),X.prog=P->X.w=w->X.K=K->X.calm=true->∀(i:Nat)(pins:List (Addr×Obj))(s:Shared)(σ:St)(H:Hp)(E:Value->Shared->Prop),Inv X pins σ H s->(∀b∈fp,Zo X pins H b)->tn i s.heap->J.go i H ->
  wpAny (model P w) X.A (pyNext (.ref it)) (fun r s1=>∃u,r=some u /\
   wpAny (model P w) X.A (letOwnedTupleGo tg (.ref it) u) (fun _ s2=>∃x H',Inv X pins σ H' s2/\RelV x u/\J.yld i H x H'/\tn (i+1) s2.heap/\∀b∈fp,H' b=none) E s1) E s
 done:∀(X:Cx),X.prog=P->X.w=w->X.K=K->X.calm=true->∀(i:Nat)(pins:List (Addr×Obj))(s:Shared)(σ:St)(H:Hp)(E:Value->Shared->Prop),Inv X pins σ H s->(∀b∈fp,Zo X pins H b)->tn i s.heap->J.stop i H ->
  wpAny (model P w) X.A (pyNext (.ref it)) (fun r s1=>r=none/\Inv X pins σ H s1) E s
 self:∀(A:Around)(i:Nat)(s:Shared)(Q:Value->Shared->Prop)(E:Value->Shared->Prop),tn i s.heap->Q (.ref it) s->wpAny (model P w) A (pyIter (.ref it)) Q E s
abbrev TI:=St->Hp->(It->Hp->Prop)->Prop
def PIE(X:Cx)(pins:List (Addr×Obj))(σ:St)(tg:Expr)(R:It->Hp->Prop)(D:Value)(q:Shared):Prop :=
 ∃(it:Addr)(g:List Addr)(B:Nat->Heap->Prop)(J:It)(H':Hp),D=.ref it/\Inv X pins σ H' q/\Zi X.prog X.w X.K tg J g it B/\B 0 q.heap/\(∀b∈g,Zo X pins H' b)/\R J H'
def PI(X:Cx)(tg g:Expr)(B:TI):Prop :=
 ∀(pins:List (Addr×Obj))(s:Shared)(σ:St)(H:Hp)(R:It->Hp->Prop),Inv X pins σ H s->B σ H R ->
  wpAny (model X.prog X.w) X.A (eval g X.env) (fun v q=>wpAny (model X.prog X.w) X.A (pyIter v) (PIE X pins σ tg R) X.xe q) X.xe s
def gE(D:s.heap.get? it=some o)(q:o.cls=.type n)(B:o.data=.fields vs)(F:["enumerate","zip","dict_itemiterator","dict_reverseitemiterator","odict_iterator","itertools.zip_longest","itertools.pairwise"].contains n=false)(g:Q () s):wpAny M A (letOwnedTupleGo tg (.ref it) u) Q E s:=by
 cases tg<;>first
  |exact AD g
  | (cases u<;>first
    |exact AD g
    | (refine AA (wpAny_load D ?_)
       rw[q,B];show wpAny M A (if (["enumerate","zip","dict_itemiterator","dict_reverseitemiterator","odict_iterator","itertools.zip_longest","itertools.pairwise"].contains n&&vs[0]?==some (rawInt _))=true then _ else _) Q E s;rw[Ac (by lia)]
       exact AD g))
def Itl(K:Dl)(a:Addr):It :=
 ⟨fun i H=>∃xs x,SqL K H a xs/\xs[i]?=some x,fun i H x H'=>H'=H/\∀xs,SqL K H a xs->xs[i]?=some x,fun i H=>∃xs,SqL K H a xs/\xs.length<=i⟩
def Itt(K:Dl)(a:Addr):It :=
 ⟨fun i H=>∃xs x,SqT K H a xs/\xs[i]?=some x,fun i H x H'=>H'=H/\∀xs,SqT K H a xs->xs[i]?=some x,fun i H=>∃xs,SqT K H a xs/\xs.length<=i⟩
def Itr(lo:Int)(n:Nat):It:=⟨fun i _=>i < n,fun i H x H'=>H'=H/\x=.int (lo+i),fun i _=>n<=i⟩
def Vs{K}a it:Zi P w K tg (Itl K a) [it] it (fun i h=>h.IsListIter it a i) where
 mem:=by simp
 obj:=fun i h st b g=>by
  have e:b=it :=by grind
  subst e;exact jJ st fun o e c d=>⟨o,e,fun v z=>by rw[d] at z;cases z⟩
 keep:=fun i h h' st k=>st.at fun o e=>k it (by simp) o e
 item:=by
  intro X N S M Y i pins s σ H E I q st O;subst N S M;refine rG O fun xs x B Z=>jJ (I.list B) fun ae U p hz=>sQ (U.get Z) fun u hu ru=>pT (q it (by simp)) fun D F ab G J L=>?_;refine wpAny_pyNext_list_item st p.isList (by simpa using hu) fun h' st' sb=>?_;have I1:=I.turned (t':=s.toks) (fun b o g e=>(sb.2 b g).trans e) D F G J L;exact jJ (id st') fun o e c d=>⟨u,rfl,gE e c d rfl ⟨x,H,I1,ru,⟨rfl,fun ys hy=>by rwa [I.list_inj hy B]⟩,st',fun b g=>(q b g).1⟩⟩
 done:=by
  intro X N S M Y i pins s σ H E I q st O;subst N S M;refine sQ O fun xs B Z=>jJ (I.list B) fun ae U p hz=>pT (q it (by simp)) fun D F ab G J L=>?_;have hl:=U.length;exact wpAny_pyNext_list_end (I.ok.hd Y) st p.isList (by simp;lia) fun h' eb=>⟨rfl,I.turned (t':=s.toks) (fun b o g e=>eb b o g e) D F G J L⟩
 self:=fun _ _ _ _ _ st h=>wpAny_pyIter_listiter st h
def Zs{K}a it:Zi P w K tg (Itt K a) [it] it (fun i h=>h.IsTupleIter it a i) where
 mem:=by simp
 obj:=fun i h st b g=>by
  have e:b=it :=by grind
  subst e;exact jJ st fun o e c d=>⟨o,e,fun v z=>by rw[d] at z;cases z⟩
 keep:=fun i h h' st k=>st.at fun o e=>k it (by simp) o e
 item:=by
  intro X N S M Y i pins s σ H E I q st O;subst N S M;refine rG O fun xs x B Z=>jJ (I.tuple B) fun ae U p hz=>sQ (U.get Z) fun u hu ru=>pT (q it (by simp)) fun D F ab G J L=>?_;refine DN st p (by simpa using hu) fun h' st' sb=>?_;have I1:=I.turned (t':=s.toks) (fun b o g e=>(sb.2 b g).trans e) D F G J L;exact jJ (id st') fun o e c d=>⟨u,rfl,gE e c d rfl ⟨x,H,I1,ru,⟨rfl,fun ys hy=>by rwa [I.tuple_inj hy B]⟩,st',fun b g=>(q b g).1⟩⟩
 done:=by
  intro X N S M Y i pins s σ H E I q st O;subst N S M;refine sQ O fun xs B Z=>jJ (I.tuple B) fun ae U p hz=>pT (q it (by simp)) fun D F ab G J L=>?_;have hl:=U.length;exact DT (I.ok.hd Y) st p (by grind) fun h' eb=>⟨rfl,I.turned (t':=s.toks) (fun b o g e=>eb b o g e) D F G J L⟩
 self:=fun _ _ _ _ _ st h=>wpAny_pyIter_tupleiter st h
def Zt{K}it lo n:Zi P w K tg (Itr lo n) [it] it (fun i h=>IsRangeIter h it (lo+i * 1) ( n - i ) 1) where
 mem:=by simp
 obj:=fun i h st b g=>by
  have e:b=it :=by grind
  subst e
  exact⟨_,st,fun v z=>by
   cases z⟩
 keep:=fun i h h' st k=>k it (by simp) _ st
 item:=by
  intro X O S N L i pins s σ H E I q st M;subst O S N;refine pT (q it (by simp)) fun B D Z F G J=>?_;have W:=Walks.range (prog:=X.prog) (w:=X.w) (I.ok.hd L) it lo 1 n;refine W.item i s _ _ M st fun v h' tk hv st' kk=>?_;obtain⟨t,rfl⟩:=hv;have U:Inv X pins σ H { s with heap:=h',toks:=tk }:=I.turned (fun b o g e=>kk b o (by grind) e) B D F G J;refine⟨_,rfl,gE st' rfl rfl rfl ⟨.int (lo+i),H,U,⟨t,?_⟩,⟨rfl,rfl⟩,st',fun b g=>(q b g).1⟩⟩
  rw[Int.mul_one]
 done:=by
  intro X O S N L i pins s σ H E I q st M;refine pT (q it (by simp)) fun B D Z F G J=>?_;exact wpAny_pyNext_range_end (I.ok.hd L) st (by have:n<=i:=M;lia) fun h' Y=>⟨rfl,I.turned (t':=s.toks) (fun b o g e=>Y b o g e) B D F G J⟩
 self:=fun _ _ _ _ _ st h=>wpAny_pyIter_rangeiter st h
section
variable {X:Cx}{tg:Expr}
def iList(K:Dl)(tl:TE):TI:=fun σ H R=>tl σ H fun x H1=>∃a,x=.ref a/\(∃xs,SqL K H1 a xs)/\R (Itl K a) H1
def iTup(K:Dl)(tl:TE):TI:=fun σ H R=>tl σ H fun x H1=>∃a,x=.ref a/\(∃xs,SqT K H1 a xs)/\R (Itt K a) H1
def Km(D:PE X l tl):PI X tg l (iList X.K tl):=by
 intro pins s σ H R I h;refine thn (D pins s σ H _ I h) fun v B L=>vZ L fun x H1 g J G=> ?_;obtain⟨a,e,⟨xs,F⟩,q⟩:=G;subst e;cases J;refine jJ (g.list F) fun O S p N=>wpAny_pyIter_list p.isList ⟨B.heap.objs.size,[B.heap.objs.size],_,_,H1,rfl,g.kept (t':=B.toks) fun b o e=>AE _ e,Vs a _,⟨_,AK _ rfl,rfl,rfl⟩,fun b M=>?_,q⟩;have e:b=B.heap.objs.size :=by grind
 subst e;exact g.fpOk (AI _) (g.hok.fresh (AI _))
def Yn(D:PE X l tl):PI X tg l (iTup X.K tl):=by
 intro pins s σ H R I h;refine thn (D pins s σ H _ I h) fun v B L=>vZ L fun x H1 g J G=> ?_;obtain⟨a,e,⟨xs,F⟩,q⟩:=G;subst e;cases J;refine jJ (g.tuple F) fun O S p N=>Ce p ⟨B.heap.objs.size,[B.heap.objs.size],_,_,H1,rfl,g.kept (t':=B.toks) fun b o e=>AE _ e,Zs a _,⟨_,AK _ rfl,rfl,rfl⟩,fun b M=>?_,q⟩;have e:b=B.heap.objs.size :=by grind
 subst e;exact g.fpOk (AI _) (g.hok.fresh (AI _))
def W6{σ:St}{lo}(I:Inv X pins σ H s)(h1 : -(2 ^ 62)<=lo)(h2:lo < 2 ^ 62)(G : -(2 ^ 62)<=hi)(J:hi < 2 ^ 62)(q:R (Itr lo (hi - lo).toNat) H):wpAny (model X.prog X.w) X.A (pyIter (.ref s.heap.objs.size)) (PIE X pins σ tg R) E { s with heap:=s.heap.push { cls:=.type "range",data:=.fields #[.int lo t,.int hi u,.int 1 v] },toks:=B }:=by
 apply wpAny_pyIter_range (IsRange.new ..) (small_one h1 h2 G J)
 have g:Inv X pins σ H { s with heap:=s.heap.push { cls:=.type "range",data:=.fields #[.int lo t,.int hi u,.int 1 v] },toks:=B }:=I.kept fun b o e=>AE _ e
 refine⟨(s.heap.push { cls:=.type "range",data:=.fields #[.int lo t,.int hi u,.int 1 v] }).objs.size,[(s.heap.push { cls:=.type "range",data:=.fields #[.int lo t,.int hi u,.int 1 v] }).objs.size],_,_,H,rfl,
  g.kept (t':=B) fun b o e=>AE _ e,Zt _ lo (hi - lo).toNat,?_,fun b L=>?_,q⟩
 .have D:lo+((0:Nat):Int) * 1=lo:=by simp
  have F:(((hi - lo).toNat:Nat):Int) - ((0:Nat):Int)=Builtin.Range.rangeSize lo hi 1:=by rw[rangeSize_one];split<;>lia
  rw[D,F];exact AK _ rfl
 .have e:b=(s.heap.push { cls:=.type "range",data:=.fields #[.int lo t,.int hi u,.int 1 v] }).objs.size :=by grind
  subst e;exact g.fpOk (AI _) (g.hok.fresh (AI _))
def iRng1(ta:TA):TI:=fun σ H R=>ta σ H fun vs H1=>∃j:Int,vs=[.int j]/\-(2 ^ 62)<=j/\j < 2 ^ 62/\R (Itr 0 j.toNat) H1
def cO(F:Gl X "range")(G:X.mg "range" = none)(D:PA X [a] ta)(hs:starEach [a] X.env=[(false,eval a X.env)]:=by rfl):PI X tg (.Call (.Name "range" p) [a] [] pos) (iRng1 ta):=by
 intro pins s σ H R I h;refine Call_ (dI I F G boot_range (PyProof.Rows.callWith_type1 (thn (D pos pins s σ H _ I h) fun O N M=>vZ M fun vs H1 B L g=> ?_) hs rfl));obtain⟨j,rfl,g,J,q⟩:=g
 cases L with
 |cons r rr =>
  cases rr;obtain⟨t,rfl⟩:=r;exact call_range_1 (W6 B (by lia) (by lia) g J (by lia))
def tFor(F:TI)(g:TG)(tb:TS):TS:=fun D σ H=>F σ H fun J H1=>∃W:Nat->Nat->St->Hp->Prop,(∃m,W 0 m σ H1)/\∀i m σ H,W i m σ H ->
 (J.stop i H/\D.nx σ H)\/(J.go i H/\∃N:St->Hp->Prop,(∀B H',N B H'->∃q,q < m/\W (i+1) q B H')/\∀x H',J.yld i H x H'->g x σ H' fun G H2=>tb { D with nx:=N,ct:=N,bk:=D.nx } G H2)
def kR(g:List Addr)(h:Heap):List (Addr×Obj):=g.filterMap fun b=>(h.get? b).map fun o=>(b,o)
def cU(q:b∈g)(e:h.get? b=some o):(b,o)∈kR g h:=List.mem_filterMap.mpr ⟨b,q,by rw[e];rfl⟩
def VX(F:p∈kR B h):p.1∈B/\h.get? p.1=some p.2:=by
 obtain⟨b,D,e⟩:=(List.mem_filterMap.mp F)
 cases q:h.get? b with
 |none=>rw[q] at e;cases e
 |some o =>
  rw[q] at e;have g:=Al e;subst g;exact⟨D,q⟩
def Inv.pinned{σ:St}(I:Inv X pins σ H s)(J:∀b∈q,Zo X pins H b)(L:∀b∈q,∃o,s.heap.get? b=some o/\∀v,o.data≠.cell v):Inv X (pins++kR q s.heap) σ H s :=
 I.pins_of fun p M=>(Ax.mp M).elim (fun z=>I.pin p (AO _ z)) fun z=>by
  obtain⟨B,e⟩:=VX z;refine cT (J p.1 B) fun D F G _=>sQ (L p.1 B) fun o g d=>?_;rw[e] at g;cases g
  exact⟨e,D,F,G,d⟩
def Inv.unpinned{σ:St}(I:Inv X (pins++q) σ H s):Inv X pins σ H s:=I.pins_of fun p g=>I.pin p (AO _ (Ak _ g))
def ZK(L:PassesOwn (model X.prog X.w) X.A X.env X.xe)(hc:X.calm=true)(hi:PI X tg aj wi)(hg:PG X tg g)(D:PSs X au tb)(hs:∀x,foldedSetIterable aj X.env x=pure x:=by intro _;rfl):PS X (.For tg aj au [] pos) (tFor wi g tb):=by
 intro pins s σ H a7 ar h;refine wpAny_For (thn (hi pins s σ H _ ar h) fun v a9 h1=>thn h1 fun a8 ba h2=>?_) hs;obtain⟨it,I,tn,J,H2,e,I2,T,a0,ah,W,⟨ay,w0⟩,a5⟩:=h2;subst e;have ae:∀{H':Hp},(∀b∈I,H' b=none)->∀b∈I,Zo X pins H' b:=fun hn b D=>⟨hn b D,(ah b D).2⟩;refine codeAny_forLoop_any (fun n s'=>∃i S H',Inv X pins S H' s'/\tn i s'.heap/\(∀b∈I,H' b=none)/\W i n S H') ?_ ay ⟨0,σ,H2,I2,a0,fun b D=>(ah b D).1,w0⟩
 rintro n ak ⟨i,U,Y,I3,aq,ai,w3⟩
 rcases a5 i n U Y w3 with ⟨a4,qn⟩ | ⟨aw,N,hN,a3⟩
 .refine B4 L (thn (T.done X rfl rfl rfl hc i pins ak U Y X.xe I3 (ae ai) aq a4) fun r az O=>sD O fun Z I4=> ?_)
  subst Z;exact DY ⟨U,Y,I4,qn⟩
 .refine B4 L (thn (T.item X rfl rfl rfl hc i pins ak U Y X.xe I3 (ae ai) aq aw) fun r az O=>sQ O fun u Z h4=> ?_)
  subst Z;refine B4 L (thn h4 fun _ ao zq=>GH zq fun x H5 I5 r5 y5 ab av=>B4 L (thn (hg _ ao U H5 x u _ (I5.pinned (ae av) (T.obj _ _ ab)) r5 (a3 x H5 y5)) fun _ s6 O=>rG O fun a6 H6 I6 q6=> B4 L (thn (D _ s6 a6 H6 _ I6 q6) fun f s7 G=>?_)))
  have ag:∀{F:St}{q:Hp},Inv X (pins++kR I ao.heap) F q s7->N F q->∃m,m < n/\∃i S H',Inv X pins S H' s7/\tn i s7.heap/\(∀b∈I,H' b=none)/\W i m S H':=fun {F q}B M=>by
   obtain⟨m',ax,w7⟩:=hN F q M;exact⟨m',ax,i+1,F,q,B.unpinned,T.keep _ _ _ ab fun b D o e=>(B.pin (b,o) (AO _ (AO _ (cU D e)))).1,fun b D=>sQ (T.obj _ _ ab b D) fun o e d=>(B.pin (b,o) (AO _ (AO _ (cU D e)))).2.1,w7⟩
  cases f with
  |next=>exact rG G fun F q B M=>ag B M
  |cont=>exact rG G fun F q B M=>ag B M
  |brk=>exact rG G fun F q B G=>⟨F,q,B.unpinned,G⟩
  |ret v=>exact bT G fun x7 F q B r7 G=>⟨x7,F,q,B.unpinned,r7,G⟩
end
abbrev R2:=V->V->Hp->VK->Prop
def OpR(X:Cx)(f:Value->Value->Sem Value)(r:R2):Prop :=
 ∀(pins:List (Addr×Obj))(s:Shared)(σ:St)(H:Hp)(x y:V)(v u:Value)(Q:VK),Inv X pins σ H s->RelV x v->RelV y u->r x y H Q ->
  wpAny (model X.prog X.w) X.A (f v u) (EP X pins σ Q) X.xe s
def UnR(X:Cx)(f:Value->Sem Value)(r:V->Hp->VK->Prop):Prop :=
 ∀(pins:List (Addr×Obj))(s:Shared)(σ:St)(H:Hp)(x:V)(v:Value)(Q:VK),Inv X pins σ H s->RelV x v->r x H Q ->
  wpAny (model X.prog X.w) X.A (f v) (EP X pins σ Q) X.xe s
def CallR(X:Cx)(f:Value)(r:List V->Hp->VK->Prop):Prop :=
 ∀(pins:List (Addr×Obj))(s:Shared)(σ:St)(H:Hp)(xs:List V)(g:List Value)(Q:VK),Inv X pins σ H s->Vals xs g->r xs H Q ->
  wpAny (model X.prog X.w) X.A (call f g) (EP X pins σ Q) X.xe s
def TruR(X:Cx)(r:V->Hp->(Bool->Hp->Prop)->Prop):Prop :=
 ∀(pins:List (Addr×Obj))(s:Shared)(σ:St)(H:Hp)(x:V)(v:Value)(Q:Bool->Hp->Prop),Inv X pins σ H s->RelV x v->r x H Q ->
  wpAny (model X.prog X.w) X.A (truthy v) (TP X pins σ Q) X.xe s
def tOp(r:R2)(ta tb:TE):TE:=fun σ H Q=>ta σ H fun x H1=>tb σ H1 fun y H2=>r x y H2 Q
def tUn(r:V->Hp->VK->Prop)(ta:TE):TE:=fun σ H Q=>ta σ H fun x H1=>r x H1 Q
inductive II(C:Int->Int->Prop)(g:Int->Int->V)(x y:V)(H:Hp)(Q:VK):Prop
 |mk(i j:Int)(h:x=.int i)(h':y=.int j)(c:C i j)(q:Q (g i j) H)
def rI(C:Int->Int->Prop)(g:Int->Int->V):R2:=II C g
inductive II0(g:Int->Int->V)(x y:V)(H:Hp)(Q:VK):Prop
 |mk(i j:Int)(h:x=.int i)(h':y=.int j)(q:Q (g i j) H)
def rI0(g:Int->Int->V):R2:=II0 g
def rU(g:Int->V):V->Hp->VK->Prop:=fun x H Q=>∃i,x=.int i/\Q (g i) H
section
variable {X:Cx}{a b c:Expr}{ta tb tc:TE}{pos:Pos}
def binT(D:PE X a ta)(F:PE X b tb){σ:St}{R:V->V->Hp->Prop}(I:Inv X pins σ H s)(h:ta σ H fun x H1=>tb σ H1 fun y H2=>R x y H2){f:Value->Value->Sem Value}(G:∀v u g x y H2,Inv X pins σ H2 g->RelV x v->RelV y u->R x y H2->wpAny (model X.prog X.w) X.A (f v u) Q X.xe g):
  wpAny (model X.prog X.w) X.A (eval a X.env) (fun v S=>wpAny (model X.prog X.w) X.A (eval b X.env) (fun u U=>wpAny (model X.prog X.w) X.A (f v u) Q X.xe U) X.xe S) X.xe s :=thn (D pins s σ H _ I h) fun v O ⟨x,H1,q,M,J⟩=>thn (F pins O σ H1 _ q J) fun u g ⟨y,H2,B,N,L⟩=>G v u g x y H2 B M N L
def pe_op(F:OpR X (binaryOp op) r)(B:PE X a ta)(D:PE X b tb):PE X (.BinOp a op b pos) (tOp r ta tb):=by
 intro pins s σ H Q I h;exact wpAny_BinOp (binT B D I h fun v u L x y H2 g G J q=>F pins L σ H2 x y v u Q g G J q)
def pe_un(B:UnR X (unaryOp op) r)(q:PE X a ta):PE X (.UnaryOp op a pos) (tUn r ta):=by
 intro pins s σ H Q I h;exact UnaryOp_ (thn (q pins s σ H _ I h) fun v G J=>vZ J fun x H1 g F D=> B pins G σ H1 x v Q g F D)
def opI{g:Int->Int->Int}(D:∀(i j:Int)(t u:Tok)(s:Shared)(Q:Value->Shared->Prop)(E:Value->Shared->Prop),C i j->Q (.int (g i j) s.toks) { s with toks:=s.toks+1 }->wpAny (model X.prog X.w) X.A (f (.int i t) (.int j u)) Q E s):
  OpR X f (rI C fun i j=>.int (g i j)):=by
 intro pins s σ H x y v u Q I F G h;obtain⟨i,j,rfl,rfl,B,q⟩:=h;obtain⟨t,rfl⟩:=F;obtain⟨t',rfl⟩:=G;exact D i j t t' s _ _ B ⟨.int (g i j),H,I.tok _,⟨_,rfl⟩,q⟩
def opI0{g:Int->Int->Int}(B:∀(i j:Int)(t u:Tok)(s:Shared)(Q:Value->Shared->Prop)(E:Value->Shared->Prop),Q (.int (g i j) s.toks) { s with toks:=s.toks+1 }->wpAny (model X.prog X.w) X.A (f (.int i t) (.int j u)) Q E s):
  OpR X f (rI0 fun i j=>.int (g i j)):=by
 intro pins s σ H x y v u Q I D F h;obtain⟨i,j,rfl,rfl,q⟩:=h;obtain⟨t,rfl⟩:=D;obtain⟨t',rfl⟩:=F;exact B i j t t' s _ _ ⟨.int (g i j),H,I.tok _,⟨_,rfl⟩,q⟩
def opB0{g:Int->Int->Bool}(B:∀(i j:Int)(t u:Tok)(s:Shared)(Q:Value->Shared->Prop)(E:Value->Shared->Prop),Q (.bool (g i j)) s->wpAny (model X.prog X.w) X.A (f (.int i t) (.int j u)) Q E s):
  OpR X f (rI0 fun i j=>.bl (g i j)):=by
 intro pins s σ H x y v u Q I D F h;obtain⟨i,j,rfl,rfl,q⟩:=h;obtain⟨t,rfl⟩:=D;obtain⟨t',rfl⟩:=F;exact B i j t t' s _ _ ⟨.bl (g i j),H,I,rfl,q⟩
def CPow(i j:Int):Prop:=0<=j/\j<=1000000/\i.natAbs < 2 ^ 64
def CMul(i j:Int):Prop:=(-(2 ^ 64) < i/\i < 2 ^ 64)\/(-(2 ^ 64) < j/\j < 2 ^ 64)
theorem CMul.ok(h:CMul i j):IntMulOk i j:=by
 rcases h with ⟨h1,h2⟩ | ⟨h1,h2⟩
 .exact .of_left (intBits_le_64 h1 h2)
 .exact .of_right (intBits_le_64 h1 h2)
def op_add:OpR X (binaryOp .Add) (rI0 fun i j=>.int (i+j)):=opI0 fun _ _ _ _ _ _ _ q=>add_int q
def ZR:OpR X (binaryOp .Sub) (rI0 fun i j=>.int (i - j)):=opI0 fun _ _ _ _ _ _ _ q=>sub_int q
def kH:OpR X (binaryOp .Mult) (rI CMul fun i j=>.int (i * j)):=opI fun _ _ _ _ _ _ _ g q=>mul_int q g.ok
def mD:OpR X (binaryOp .Mod) (rI (fun _ j=>0 < j) fun i j=>.int (i % j)):=opI fun i j _ _ _ _ _ g q=>mod_int' (by lia) (by grind)
def uR:OpR X (binaryOp .Pow) (rI CPow fun i j=>.int (i ^ j.toNat)):=opI fun _ _ _ _ _ _ _ g q=>pow_int_small g.1 g.2.1 g.2.2 q
def unI{g:Int->Int}(B:∀(i:Int)(t:Tok)(s:Shared)(Q:Value->Shared->Prop)(E:Value->Shared->Prop),Q (.int (g i) s.toks) { s with toks:=s.toks+1 }->wpAny (model X.prog X.w) X.A (f (.int i t)) Q E s):
  UnR X f (rU fun i=>.int (g i)):=by
 intro pins s σ H x v Q I D h;obtain⟨i,rfl,q⟩:=h;obtain⟨t,rfl⟩:=D;exact B i t s _ _ ⟨.int (g i),H,I.tok _,⟨_,rfl⟩,q⟩
def nP:UnR X (unaryOp .USub) (rU fun i=>.int (-i)):=unI fun _ _ _ _ _ q=>neg_int q
end
noncomputable def scal:V->V->Bool
 |.non,.non=>true | .non,.int _=>true | .int _,.non=>true | .non,.bl _=>true | .bl _,.non=>true | .non,.str _=>true | .str _,.non=>true
 |.int _,.int _=>true | .bl _,.bl _=>true | .str _,.str _=>true | .byt _,.byt _=>true
 |.int _,.str _=>true | .str _,.int _=>true | .bl _,.str _=>true | .str _,.bl _=>true
 |_,_=>false
def rEq:R2:=fun x y H Q=>scal x y=true/\Q (.bl (decide (x=y))) H
def rNe:R2:=fun x y H Q=>scal x y=true/\Q (.bl (!decide (x=y))) H
def K3: decide (V.int i=V.int j)=(i==j) :=by grind
def GQ: decide (V.bl i=V.bl j)=(i==j) :=by grind
def K2: decide (V.str i=V.str j)=(i==j) :=by grind
def K4: decide (V.byt i=V.byt j)=(i.toList==j.toList):=by
 rw[Cd];cases i;cases j
 simp
section
variable {X:Cx}{a b c:Expr}{ta tb tc:TE}{pos:Pos}
def sX{σ:St}(I:Inv X pins σ H s)(q:Q (.bl k) H)(e:k=g):EP X pins σ Q (.bool g) s:=by
 subst e;exact⟨.bl k,H,I,rfl,q⟩
def lX:OpR X (compareOp .Eq) rEq:=by
 intro pins s σ H x y v u Q I B g h;obtain⟨hs,q⟩:=h
 cases x with
 |non =>
  cases B
  cases y with
  |non=>cases g;exact PySem.EqNone.eq_none_none (sX I q (by simp))
  |bl j=>cases g;exact PySem.EqNone.eq_none_bool (sX I q (by simp))
  |int j=>obtain⟨t',rfl⟩:=g;exact PySem.EqNone.eq_none_int (sX I q (by simp))
  |str j=>obtain⟨t',rfl⟩:=g;exact PySem.EqNone.eq_none_str (sX I q (by simp))
  |_=>exact absurd hs AR
 |bl i =>
  cases B
  cases y with
  |non=>cases g;exact PySem.EqNone.eq_bool_none (sX I q (by simp))
  |bl j=>cases g;exact eq_bool (sX I q GQ)
  |str j=>obtain⟨t',rfl⟩:=g;exact PySem.EqMixed.eq_bool_str (sX I q (by simp))
  |_=>exact absurd hs AR
 |int i =>
  obtain⟨t,rfl⟩:=B
  cases y with
  |non=>cases g;exact PySem.EqNone.eq_int_none (sX I q (by simp))
  |int j=>obtain⟨t',rfl⟩:=g;exact eq_int (sX I q K3)
  |str j=>obtain⟨t',rfl⟩:=g;exact PySem.EqMixed.eq_int_str (sX I q (by simp))
  |_=>exact absurd hs AR
 |str i =>
  obtain⟨t,rfl⟩:=B
  cases y with
  |non=>cases g;exact PySem.EqNone.eq_str_none (sX I q (by simp))
  |bl j=>cases g;exact PySem.EqMixed.eq_str_bool (sX I q (by simp))
  |int j=>obtain⟨t',rfl⟩:=g;exact PySem.EqMixed.eq_str_int (sX I q (by simp))
  |str j=>obtain⟨t',rfl⟩:=g;exact eq_str (sX I q K2)
  |_=>exact absurd hs AR
 |byt i =>
  obtain⟨t,rfl⟩:=B
  cases y with
  |byt j=>obtain⟨t',rfl⟩:=g;exact PySem.W.eq_bytes (sX I q K4)
  |_=>exact absurd hs AR
 |_=>cases y<;>exact absurd hs AR
def iF:OpR X (compareOp .NotEq) rNe:=by
 intro pins s σ H x y v u Q I B g h;obtain⟨hs,q⟩:=h
 cases x with
 |non =>
  cases B
  cases y with
  |non=>cases g;exact PySem.EqNone.ne_none_none (sX I q (by simp))
  |bl j=>cases g;exact PySem.EqNone.ne_none_bool (sX I q (by simp))
  |int j=>obtain⟨t',rfl⟩:=g;exact PySem.EqNone.ne_none_int (sX I q (by simp))
  |str j=>obtain⟨t',rfl⟩:=g;exact PySem.EqNone.ne_none_str (sX I q (by simp))
  |_=>exact absurd hs AR
 |bl i =>
  cases B
  cases y with
  |non=>cases g;exact PySem.EqNone.ne_bool_none (sX I q (by simp))
  |bl j=>cases g;exact ne_bool (sX I q (Bu not GQ))
  |str j=>obtain⟨t',rfl⟩:=g;exact PySem.EqMixed.ne_bool_str (sX I q (by simp))
  |_=>exact absurd hs AR
 |int i =>
  obtain⟨t,rfl⟩:=B
  cases y with
  |non=>cases g;exact PySem.EqNone.ne_int_none (sX I q (by simp))
  |int j=>obtain⟨t',rfl⟩:=g;exact ne_int (sX I q (Bu not K3))
  |str j=>obtain⟨t',rfl⟩:=g;exact PySem.EqMixed.ne_int_str (sX I q (by simp))
  |_=>exact absurd hs AR
 |str i =>
  obtain⟨t,rfl⟩:=B
  cases y with
  |non=>cases g;exact PySem.EqNone.ne_str_none (sX I q (by simp))
  |bl j=>cases g;exact PySem.EqMixed.ne_str_bool (sX I q (by simp))
  |int j=>obtain⟨t',rfl⟩:=g;exact PySem.EqMixed.ne_str_int (sX I q (by simp))
  |str j=>obtain⟨t',rfl⟩:=g;exact ne_str (sX I q (Bu not K2))
  |_=>exact absurd hs AR
 |byt i =>
  obtain⟨t,rfl⟩:=B
  cases y with
  |byt j=>obtain⟨t',rfl⟩:=g;exact PySem.W.ne_bytes (sX I q (Bu not K4))
  |_=>exact absurd hs AR
 |_=>cases y<;>exact absurd hs AR
def YB:OpR X (compareOp .Lt) (rI0 fun i j=>.bl (decide (i < j))):=opB0 fun _ _ _ _ _ _ _ q=>lt_int q
def Kp:OpR X (compareOp .LtE) (rI0 fun i j=>.bl (decide (i<=j))):=opB0 fun _ _ _ _ _ _ _ q=>le_int q
def YD:OpR X (compareOp .Gt) (rI0 fun i j=>.bl (decide (j < i))):=opB0 fun _ _ _ _ _ _ _ q=>gt_int q
def VO:OpR X (compareOp .In) (fun x y H Q=>∃i j,x=.str i/\y=.str j/\Q (.bl (!(Builtin.Str.occurrences j i 0 j.length 1).isEmpty)) H):=by
 intro pins s σ H x y v u Q I g B h;obtain⟨i,j,rfl,rfl,q⟩:=h;obtain⟨t,rfl⟩:=g;obtain⟨t',rfl⟩:=B;exact in_str (sX I q rfl)
def lB:OpR X (compareOp .Is) (fun x y H Q=>y=.non/\Q (.bl (decide (x=.non))) H):=by
 intro pins s σ H x y v u Q I g B h;obtain⟨rfl,q⟩:=h;cases B;refine is_none_gen (sX I q ?_)
 cases x<;>first
  | (cases g;rfl)
  | (obtain⟨t,rfl⟩:=g;rfl)
def jI:OpR X (compareOp .IsNot) (fun x y H Q=>y=.non/\Q (.bl (!decide (x=.non))) H):=by
 intro pins s σ H x y v u Q I g B h;obtain⟨rfl,q⟩:=h;cases B;refine isnot_none_gen (sX I q ?_)
 cases x<;>first
  | (cases g;rfl)
  | (obtain⟨t,rfl⟩:=g;rfl)
def OpR.or(h:OpR X f r)(h':OpR X f D):OpR X f (fun x y H Q=>r x y H Q\/D x y H Q):=by
 intro pins s σ H x y v u Q I g B q
 rcases q with q | q
 .exact h pins s σ H x y v u Q I g B q
 .exact h' pins s σ H x y v u Q I g B q
def fG b(h:op≠.In:=by decide)(h2:op≠.NotIn:=by decide):behindInMarks op b=false:=by
 have g:(op==CmpOp.In)=false:=by cases op<;>first | rfl | exact absurd rfl h
 have q:(op==CmpOp.NotIn)=false:=by cases op<;>first | rfl | exact absurd rfl h2
 cases b<;>simp[behindInMarks,g,q]
def pe_cmpR(G:OpR X (compareOp op) r)(B:PE X a ta)(D:PE X b tb)(F:behindInMarks op b=false):PE X (.Compare a [op] [b] pos) (tOp r ta tb):=by
 intro pins s σ H Q I h;exact wpAny_Compare1 (binT B D I h fun v u M x y H2 g J L q=>G pins M σ H2 x y v u Q g J L q) F
def WU(t:TE):TT:=fun σ H Q=>t σ H (IBl Q)
def pt_cmpR(M:OpR X (compareOp op) r)(G:PE X a ta)(J:PE X b tb)(L:behindInMarks op b=false):PT X (.Compare a [op] [b] pos) (WU (tOp r ta tb)):=by
 intro pins s σ H Q I h
 refine wpAny_isTrue_Compare1 (thn (G pins s σ H _ I h) fun v ab g=>vZ g fun x H1 B U N=> thn (J pins ab σ H1 _ B N) fun u ae g=>vZ g fun y H2 D Y O=>
  thn (M pins ae σ H2 x y v u _ D U Y O) fun c ag ⟨z,q,F,Z,k,e,S⟩=>?_) L
 subst e;cases Z;exact BC ⟨q,F,S⟩
def Zw(r B:R2)(ta tb tc:TE):TE:=fun σ H Q=>ta σ H fun x H1=>tb σ H1 fun y H2=>r x y H2 fun z g=>∃k,z=.bl k /\
 (if k=true then tc σ g fun D q=>B y D q Q else Q (.bl false) g)
def Yw(Z:OpR X (compareOp op) r)(ab:OpR X (compareOp D) r')(O:PE X a ta)(S:PE X b tb)(U:PE X c tc)(Y:lastMarks [op,D] [b,c]=false:=by with_unfolding_all rfl):PE X (.Compare a [op,D] [b,c] pos) (Zw r r' ta tb tc):=by
 intro pins s σ H Q I h
 refine Compare_chain (thn (O pins s σ H _ I h) fun v ae g=>vZ g fun x H1 L r1 q1=> chain_link (thn (S pins ae σ H1 _ L q1) fun u ag g=>vZ g fun y H2 M G q2=>
  thn (Z pins ag σ H2 x y v u _ M r1 G q2) fun d ah ⟨z,q,B,r3,k,e,F⟩=>?_)) Y
 subst e;cases r3
 apply BC
 cases k with
 |false=>exact ite_ff ⟨.bl false,q,B,rfl,F⟩
 |true=>exact ite_tt (chain_last (thn (U pins ah σ q _ B F) fun w' ai g=>vZ g fun z' J N r4 q4=> ab pins ai σ J y z' u w' Q N G r4 q4))
def Yd(ho:OpR X (compareOp op) r)(ae:OpR X (compareOp D) r')(Y:PE X a ta)(Z:PE X b tb)(hc:PE X c tc)(ab:lastMarks [op,D] [b,c]=false:=by with_unfolding_all rfl):PT X (.Compare a [op,D] [b,c] pos) (WU (Zw r r' ta tb tc)):=by
 intro pins s σ H Q I h
 refine isTrue_chain (thn (Y pins s σ H _ I h) fun v ag g=>vZ g fun x H1 M r1 q1=> test_link (thn (Z pins ag σ H1 _ M q1) fun u ah g=>vZ g fun y H2 N G q2=>
  thn (ho pins ah σ H2 x y v u _ N r1 G q2) fun d ai ⟨z,q,B,r3,k,e,F⟩=>?_)) ab
 subst e;cases r3
 apply BC
 cases k with
 |false =>
  obtain⟨k',U,q'⟩:=F;cases U;exact ite_ff ⟨q,B,q'⟩
 |true =>
  refine ite_tt (test_last (thn (hc pins ai σ q _ B F) fun w' aj g=>vZ g fun z' J O r4 q4=> thn (ae pins aj σ J y z' u w' _ O G r4 q4) fun d' ak zq=>?_));obtain⟨z2,L,S,r5,k2,rfl,q5⟩:=zq;cases r5;exact BC ⟨L,S,q5⟩
def TruV(K:Dl)(x:V)(H:Hp)(k:Bool):Prop :=
 match x with
 |.non=>k=false
 |.bl b=>k=b
 |.int i=>k=(i != 0)
 |.str y=>y.length<=sizeLine/\k=((y.length:Int) != 0)
 |.byt y=>y.size<=sizeLine/\k=((y.size:Int) != 0)
 |.ref p=>(∃xs,SqL K H p xs/\k = !xs.isEmpty)\/(∃xs,SqT K H p xs/\k = !xs.isEmpty)\/∃kvs,H p=some (.dK kvs)/\k = !kvs.isEmpty
 |_=>False
def Je(r:KV kvs vs):(!vs.isEmpty) = !kvs.isEmpty:=by
 cases r<;>rfl
def nR(r:Vals xs g):(!g.toArray.isEmpty) = !xs.isEmpty:=by
 cases r<;>simp
def lD:sizeLine < 2 ^ 63:=by decide
def tru_ok:TruR X (fun x H Q=>∃k,TruV X.K x H k/\Q k H):=by
 intro pins s σ H x v Q I B h;obtain⟨k,e,q⟩:=h;have O:=lD;have hs:=Cf
 cases x with
 |non =>
  cases B;have g:=e;subst g;exact truthy_none ⟨H,I,q⟩
 |bl b =>
  cases B;have g:=e;subst g;exact BC ⟨H,I,q⟩
 |int i =>
  obtain⟨t,rfl⟩:=B;have g:=e;subst g;exact PySem.P.truthy_int ⟨H,I,q⟩
 |str y =>
  obtain⟨t,rfl⟩:=B;obtain⟨M,rfl⟩:y.length<=sizeLine/\k=((y.length:Int) != 0):=e;exact PySem.P.truthy_str (by lia) ⟨H,I.tok _,q⟩
 |byt y =>
  obtain⟨t,rfl⟩:=B;obtain⟨M,rfl⟩:y.size<=sizeLine/\k=((y.size:Int) != 0):=e;exact PySem.W.truthy_bytes (by lia) ⟨H,I.tok _,q⟩
 |ref p =>
  cases B;have g:=e
  rcases g with ⟨xs,D,g⟩ | ⟨xs,D,g⟩ | ⟨kvs,D,g⟩
  .subst g
   obtain⟨N,r,F,J⟩:=I.list D;have G:=r.length;exact wpAny_truthy_list F.isList (by simp only[List.size_toArray];lia) ⟨H,I.tok _,by rwa [nR r]⟩
  .subst g
   obtain⟨N,r,F,J⟩:=I.tuple D;have G:=r.length;exact truthy_tuple F (by simp only[List.size_toArray];lia) ⟨H,I.tok _,by rwa [nR r]⟩
  .subst g
   obtain⟨J,L,vs,r,m⟩:kvs.length<=sizeLine/\(p==sysModules)=false/\∃vs,KV kvs vs/\s.heap.DictOf (eQ X.prog X.w) p vs:=I.hok p _ D;have G:=Paired.length r;exact wpAny_truthy_dict L m (by lia) ⟨H,I.tok _,by rwa [Je r]⟩
 |_=>exact e.elim
def Yc(B:PE X a ta)(D:∀g,isTrue a X.env g=(do let v <- g;standAt a.pos;holding [v] (truthy v))):
  PT X a (fun σ H Q=>ta σ H fun x H'=>∃k,TruV X.K x H' k/\Q k H'):=by
 intro pins s σ H Q I h;exact isTrue_plain (thn (B pins s σ H _ I h) fun v J L=>vZ L fun x H1 q G F=> tru_ok pins J σ H1 x v Q q G F) (D _)
def ZS:OpR X (binaryOp .Add) (fun x y H Q=>∃i j,x=.str i/\y=.str j/\i.length+j.length<=sizeLine/\Q (.str (i++j)) H):=by
 intro pins s σ H x y v u Q I B D h;obtain⟨i,j,rfl,rfl,g,q⟩:=h;obtain⟨t,rfl⟩:=B;obtain⟨t',rfl⟩:=D;exact add_str (fun t' F=>⟨.str (i++j),H,I.tok _,⟨_,rfl⟩,q⟩) g
def zB(r:Vals [x] B):∃u,B=[u]/\RelV x u:=by
 cases r with
 |cons g q=>cases q;exact⟨_,rfl,g⟩
def QR(r:Vals [x,y] G):∃u g,G=[u,g]/\RelV x u/\RelV y g:=by
 cases r with
 |cons q B =>
  cases B with
  |cons D F=>cases F;exact⟨_,_,rfl,q,D⟩
def Ul:CallR X (.builtin "abs") (fun xs H Q=>∃i,xs=[.int i]/\Q (.int (if i < 0 then -i else i)) H):=by
 intro pins s σ H xs B Q I r h;obtain⟨i,rfl,q⟩:=h;obtain⟨u,rfl,t,rfl⟩:=zB r;exact call_abs_int fun u g=>⟨.int (if i < 0 then -i else i),H,I.tok _,⟨_,rfl⟩,q⟩
def sE(g:X.calm=true):CallR X (.builtin "max") (fun xs H Q=>∃i j,xs=[.int i,.int j]/\Q (.int (if j > i then j else i)) H):=by
 intro pins s σ H xs D Q I r h;obtain⟨i,j,rfl,q⟩:=h;obtain⟨u,F,rfl,⟨t,rfl⟩,⟨t',rfl⟩⟩:=QR r;refine max_two_ints (I.ok.hd g) fun h' B k=>⟨_,H,I.kept k,?_,q⟩
 by_cases hj:j > i
 .rw [Ab hj,Ab hj];exact⟨_,rfl⟩
 .rw [Ac hj,Ac hj];exact⟨_,rfl⟩
def mF(g:X.calm=true):CallR X (.builtin "min") (fun xs H Q=>∃i j,xs=[.int i,.int j]/\Q (.int (if j < i then j else i)) H):=by
 intro pins s σ H xs D Q I r h;obtain⟨i,j,rfl,q⟩:=h;obtain⟨u,F,rfl,⟨t,rfl⟩,⟨t',rfl⟩⟩:=QR r;refine min_two_ints (I.ok.hd g) fun h' B k=>⟨_,H,I.kept k,?_,q⟩
 by_cases hj:j < i
 .rw [Ab hj,Ab hj];exact⟨_,rfl⟩
 .rw [Ac hj,Ac hj];exact⟨_,rfl⟩
def dH:CallR X (.type "int") (fun xs H Q=>(∃i,xs=[.int i]/\Q (.int i) H)\/∃k,xs=[.bl k]/\Q (.int (if k then 1 else 0)) H):=by
 intro pins s σ H xs g Q I r h
 rcases h with ⟨i,rfl,q⟩ | ⟨k,rfl,q⟩
 .obtain ⟨u,rfl,t,rfl⟩:=zB r
  exact call_int_int ⟨.int i,H,I,⟨_,rfl⟩,q⟩
 .obtain ⟨u,rfl,rfl⟩:=zB r
  exact call_int_bool ⟨.int (if k then 1 else 0),H,I.tok _,⟨_,rfl⟩,q⟩
end
structure ObjM(h:Heap)(x dx C:Addr)(mA:Str->Option Value):Prop where
 obj:h.get? x=some (PySem.W.instObj C dx)
 ns:h.Ns1 dx mA
 ne:dx≠x
def V3{h:Heap}(n:h.Ns1 dx mA):∃g,h.get? dx=some g/\∀name,PySem.W.lookIn name g=some (mA name):=by
 refine Mf n fun o es ep J D F _ I=>⟨o,J,fun name=>?_⟩;have e:=I name;unfold nsFind findBy at e;rw[<- Array.find?_toList] at e
 delta PySem.W.lookIn
 rw[D];dsimp only
 split
 .grind
 .rename_i q
  rw[q] at e
  have a:es.toList.any (·.refKey)=false:=by
   rw[List.any_eq_false];intro y L;obtain⟨z,t,G⟩:=(F y (Array.mem_toList_iff.mp L))
   simp[DictEntry.refKey,G]
  have B :=a▸AR;exact(Ac B)▸Bu some e
def ObjM.look(I:ObjM h x dx C mA):∃g,PySem.W.InstAt h x (PySem.W.instObj C dx) C (some g)/\∀name,PySem.W.lookIn name g=some (mA name) :=
 let ⟨g,B,q⟩:=V3 I.ns
 ⟨g,⟨I.obj,rfl,rfl,B⟩,q⟩
section
variable {prog:Program}{w:World}{A:Around}{E:Value->Shared->Prop}{s:Shared}{K:Dl}{x dx C f:Addr}{mA:Str->Option Value}{name:Str}{v:Value}
def get_map(X:K.In s.heap)(I:ObjM s.heap x dx C mA)(q:PySem.W.plainGet K C name=true)(B:PySem.W.hasDictIn K C=true)(g:PySem.W.findIn K (.ref C) name=some none)(L:mA name=some v)(D:PySem.W.handedIn v=true)(h:Q v { s with toks:=s.toks+1 }):
  wpAny (model prog w) A (getAttr (.ref x) name F) Q E s :=sQ I.look fun M J G=>PySem.W.get_value X J (PySem.W.plainGet_of q).1 (PySem.W.findObj_own B g rfl (by grind)) D h
def Gj(X:K.In s.heap)(I:ObjM s.heap x dx C mA)(g:PySem.W.plainGet K C name=true)(q:PySem.W.findIn K (.ref C) name=some (some (.ref f)))(D:PySem.W.isFn K (.ref f)=true)(F:mA name=none)(h:Q (.ref f,[.ref x]) s):
  wpAny (model prog w) A (getMethod (.ref x) name L) Q E s :=sQ I.look fun G J B=>PySem.W.method_fn X J (PySem.W.plainGet_of g).1 (PySem.W.plainGet_of g).2 q (beq_iff_eq.mp D) (by show(PySem.W.lookIn name G).map (·.isSome)=some false;rw[B,F];rfl) h
def set_map(X:K.In s.heap)(I:ObjM s.heap x dx C mA)(hs:PySem.W.findIn K (.ref C) "__setattr__" = some (some (.builtin "object.__setattr__")))(N:PySem.W.plainOver K C=true)(O:PySem.W.takerIn K C name=some none)(L:PySem.W.hasDictIn K C=true)(S:PySem.Within mA ns)(hsz:ns.length<=sizeLine)(h:∀h',ObjM h' x dx C (fun y=>if y=name then some v else mA y)->Heap.SameBut dx s.heap h'->Q () { s with heap:=h',toks:=s.toks+2 }):
  wpAny (model prog w) A (setAttr (.ref x) name v) Q E s:=by
 refine sQ I.look fun od J hl=>PySem.W.set_plain X J hs (PySem.W.osa_open X J N O fun b=>sQ (PySem.W.any_some L) fun U B F=>AA (AD (AA (AA (wpAny_loadPart I.obj (AA (PySem.W.Looks.here (PySem.W.looks_clsIn X B) ?_)))))));rw[F];exact AD (AA (AD (AA (wpAny_nsSet1 I.ns fun h' g q=>bT (g.count (PySem.Within.cons name v S)) fun oD Z Y M G D=>AA (wpAny_lookBehind M (G▸pastItsLine_dict (Ad D (by grind))) (AD (h _ ⟨(q.2 _ (Ne.symm I.ne)).trans I.obj,g,I.ne⟩ q)))))))
def YW(X:K.In s.heap)(D:PySem.W.makesIn K C=true)(hi:PySem.W.findIn K (.ref C) "__init__" = some (some (.ref f)))(B:PySem.W.typeIn K (.ref f)=some (.type "function"))(h:codeAny (model prog w) (A.under (.builtin "type.__call__" ⟨.ref C::vs,q⟩)) (.call (.ref f) ⟨.ref (s.heap.objs.size+1)::vs,q⟩) (PySem.W.InitBack (s.heap.objs.size+1) R)
   { s with heap:=(s.heap.push PySem.W.emptyDict).push (PySem.W.instObj C s.heap.objs.size) }):
  codeAny (model prog w) A (.call (.ref C) ⟨vs,q⟩) R s:=by
 obtain⟨G,g,d,t,I⟩:=s;exact PySem.W.make_core (PySem.W.makes_of X D) (PySem.W.looks_findIn X hi) (fun F=>PySem.W.bind_fn X F B) (.inl rfl) h
end
noncomputable def wB(f:Str)(v:V):List (Str×V)->List (Str×V)
 |[]=>[(f,v)]
 | (g,x)::r=>if g=f then (g,v)::r else (g,x)::wB f v r
theorem vN f g v:∀fs,(wB f v fs).lookup g=if g=f then some v else fs.lookup g
 |[]=>by
  show List.lookup g [(f,v)]=_
  by_cases h:g=f
  .grind
  .grind
 | (k,x)::r=>by
  rw[show wB f v ((k,x)::r)=(if k=f then (k,v)::r else (k,x)::wB f v r) from rfl]
  by_cases B:k=f
  .grind
  .rw [Ac B]
   by_cases h:g=k
   .grind
   .have q:=beq_eq_false_iff_ne.mpr h
    simp only[List.lookup,q]
    exact(vN f g v r)
theorem yH f v:∀fs,f∈(wB f v fs).map (·.1)/\∀g,g∈fs.map (·.1)->g∈(wB f v fs).map (·.1)
 |[]=>⟨by simp[wB],fun g h=>by simp at h⟩
 | (k,x)::r=>by
  obtain⟨B,D⟩:=yH f v r;rw[show wB f v ((k,x)::r)=(if k=f then (k,v)::r else (k,x)::wB f v r) from rfl]
  by_cases q:k=f
  .grind
  .grind
theorem yN f v:∀fs,(wB f v fs).length<=fs.length+1
 |[]=>by simp[wB]
 | (k,x)::r=>by
  have q:=yN f v r;rw[show wB f v ((k,x)::r)=(if k=f then (k,v)::r else (k,x)::wB f v r) from rfl]
  by_cases g:k=f
  .grind
  .grind
def RelO.some_of(r:RelO (some v) o):∃u,o=some u/\RelV v u:=by
 cases o with
 |none=>exact r.elim
 |some u=>exact⟨u,rfl,r⟩
def RelO.none_of(r:RelO none o):o=none:=by
 cases o with
 |none=>rfl
 |some u=>exact r.elim
def Wg(r:RelV v u):PySem.W.handedIn u=true:=by
 cases v with
 |non=>cases r;rfl
 |bl b=>cases r;rfl
 |int i=>obtain⟨t,rfl⟩:=r;rfl
 |str x=>obtain⟨t,rfl⟩:=r;rfl
 |byt b=>obtain⟨t,rfl⟩:=r;rfl
 |flt b=>obtain⟨t,rfl⟩:=r;rfl
 |ref a=>cases r;rfl
 |ty n=>cases r;rfl
section
variable {P:Program}{w:World}{H H':Hp}{h h':Heap}{a C dx:Addr}{fs fs':List (Str×V)}
def zC(g:HOk P w H h)(e:H a=some (.ins C dx fs)):∃mA,ObjM h a dx C mA/\(∀f,RelO (fs.lookup f) (mA f))/\PySem.Within mA (fs.map (·.1))/\fs.length<=1000/\H dx=some (.own a):=by
 obtain⟨d,z,B,D,mA,n,r,q⟩:=(g a _ e);exact⟨mA,⟨D,n,B⟩,r,q,z,d⟩
end
structure Cls(K:Dl)(C:Addr):Prop where
 pg:PySem.W.plainGet K C Str.empty=true
 hd:PySem.W.hasDictIn K C=true
 po:PySem.W.plainOver K C=true
 sa:PySem.W.findIn K (.ref C) "__setattr__" = some (some (.builtin "object.__setattr__"))
def Cls.get{K}(c:Cls K C)f:PySem.W.plainGet K C f=true:=c.pg
def NoAttr(K:Dl)(C:Addr)(f:Str):Prop:=PySem.W.findIn K (.ref C) f=some none
def NoAttr.taker{K}(n:NoAttr K C f):PySem.W.takerIn K C f=some none:=by
 delta PySem.W.takerIn
 rw[show PySem.W.findIn K (.ref C) f=some none from n]
 rfl
structure UE(K:Dl)(C:Addr)(m:Str)(f:Addr):Prop where
 at_:PySem.W.findIn K (.ref C) m=some (some (.ref f))
 fn:PySem.W.isFn K (.ref f)=true
 kp:PySem.W.keepIn K (.ref f)=true
section
variable {X:Cx}{pins:List (Addr×Obj)}{σ:St}{H:Hp}{s:Shared}{a C dx:Addr}{fs:List (Str×V)}{f:Str}{v:V}{A:Around}{E:Value->Shared->Prop}
def Ji(I:Inv X pins σ H s)(e:H a=some (.ins C dx fs))(c:Cls X.K C)(n:NoAttr X.K C f)(l:fs.lookup f=some v)(h:∀u s',Inv X pins σ H s'->RelV v u->Q u s'):wpAny (model X.prog X.w) A (getAttr (.ref a) f b) Q E s :=XU (zC I.hok e) fun mA O r _ _ _=>sQ (RelO.some_of (l▸r f)) fun u q g=>get_map I.kIn O (c.get f) c.hd n q (Wg g) (h u _ (I.tok _) g)
def sR(I:Inv X pins σ H s)(e:H a=some (.ins C dx fs))(c:Cls X.K C)(k:UE X.K C m g)(l:fs.lookup m=none)(h:Q (.ref g,[.ref a]) s):wpAny (model X.prog X.w) A (getMethod (.ref a) m q) Q E s :=XU (zC I.hok e) fun mA O r _ _ _=>Gj I.kIn O (c.get m) k.at_ k.fn (RelO.none_of (l▸r m)) h
def ZD(I:Inv X pins σ H s)(e:H a=some (.ins C dx fs))(c:Cls X.K C)(n:NoAttr X.K C f)(U:fs.length < 1000)(Y:RelV y u)(h:∀s',Inv X pins σ (upd H a (.ins C dx (wB f y fs))) s'->Q () s'):wpAny (model X.prog X.w) A (setAttr (.ref a) f u) Q E s:=by
 refine XU (zC I.hok e) fun mA O r F _ D=>?_;have N:(fs.map (·.1)).length<=sizeLine:=by rw[AC,Cf];lia
 refine set_map I.kIn O c.sa c.po n.taker c.hd F N fun h' B S=>h _ ?_;have L:∃o,h'.get? dx=some o:=let ⟨o,_,_,G,_⟩:=B.ns;⟨o,G⟩
 refine I.write (e▸True.intro) (.inr D) (fun b q J z=>(S.2 b J).trans z) L ⟨by rw[uQ O.ne];exact D,?_,O.ne,B.obj,_,B.ns,fun g=>?_,fun g M=>?_⟩
 .have:=yN f y fs;lia
 .rw [vN]
  by_cases q:g=f
  .rwa [Ab q,Ab q]
  .grind
 .by_cases q:g=f
  .exact q▸(yH f y fs).1
  .refine (yH f y fs).2 g (F g fun z=>M ?_)
   show(if g=f then some u else mA g)=none
   rwa [Ac q]
def Inv.made(I:Inv X pins σ H s):Inv X pins σ (upd (upd H s.heap.objs.size (.own (s.heap.objs.size+1))) (s.heap.objs.size+1) (.ins C s.heap.objs.size []))
  { s with heap:=(s.heap.push PySem.W.emptyDict).push (PySem.W.instObj C s.heap.objs.size) }:=by
 have g:(s.heap.push PySem.W.emptyDict).get? s.heap.objs.size=some PySem.W.emptyDict:=AK s.heap rfl
 have F:((s.heap.push PySem.W.emptyDict).push (PySem.W.instObj C s.heap.objs.size)).get? (s.heap.objs.size+1)=some (PySem.W.instObj C s.heap.objs.size):=by
  have:=AK (s.heap.push PySem.W.emptyDict) (o:=PySem.W.instObj C s.heap.objs.size) rfl
  rwa [B1] at this
 have D:=I.laid (o:=.own (s.heap.objs.size+1)) (h':=s.heap.push PySem.W.emptyDict) (t':=s.toks) (fun b u q=>AE _ q) (AI _) ⟨_,g⟩;refine D.laid (t':=s.toks) (fun b u q=>AE _ q) (CM (B1 _ _)) ?_;have B:s.heap.objs.size≠s.heap.objs.size+1:=AY (Bf _);refine⟨by rw[uQ B,mQ],AW _,B,F,fun _=>none,(Heap.Ns1.of_empty (⟨PySem.W.emptyDict,#[],_,g,rfl,(fun e G=>absurd G (by simp)),fun _=>rfl⟩)).at fun o q=>AE _ q,fun _=>True.intro,fun y J=>absurd rfl J⟩
def attr_of(g:attributeBase e f env (eval e env)=eval e env)(h:wpAny (model prog w) A (eval e env) (fun o q=>wpAny (model prog w) A (getAttr o f true) Q E q) E s):wpAny (model prog w) A (eval (.Attribute e f pos) env) Q E s :=
 Attribute_any_ h (by rw[arm_eval_Attribute,g])
end
def tFld(K:Dl)(ta:TE)(f:Str):TE:=fun σ H Q=>ta σ H fun x H1=>∃a C dx fs v,x=.ref a/\H1 a=some (.ins C dx fs)/\Cls K C/\NoAttr K C f/\fs.lookup f=some v/\Q v H1
def sFld(K:Dl)(ta tv:TE)(f:Str):TS:=fun D σ H=>tv σ H fun y H1=>ta σ H1 fun x H2=>∃a C dx fs,x=.ref a/\H2 a=some (.ins C dx fs)/\Cls K C/\NoAttr K C f/\fs.length < 1000 /\
 D.nx σ (upd H2 a (.ins C dx (wB f y fs)))
section
variable {X:Cx}{o e value:Expr}{f:Str}{pos pos' tpos:Pos}{ta tv:TE}
def pe_fld(G:PE X e ta)(F:attributeBase e f X.env (eval e X.env)=eval e X.env):PE X (.Attribute e f pos) (tFld X.K ta f):=by
 intro pins s σ H Q I h;refine attr_of F (thn (G pins s σ H _ I h) fun u N M=>?_);obtain⟨x,H1,g,L,a,C,dx,fs,v,rfl,D,c,n,l,q⟩:=M;obtain rfl:u=Value.ref a:=L;exact Ji g D c n l fun S O B J=>⟨v,H1,B,J,q⟩
def ps_fld(J:PE X o ta)(L:PE X value tv)(hs:swapsWith value (some (.Attribute o f pos')) pos.line X.env=pure false):PS X (.Assign [.Attribute o f pos'] value pos) (sFld X.K ta tv f):=by
 intro pins s σ H D I h;refine plainObj_wpAny_Assign_Attribute (thn (L pins s σ H _ I h) fun u U Z=>vZ Z fun y H1 g S q=> thn (J pins U σ H1 _ g q) fun M ab Y=>?_) hs;obtain⟨x,H2,B,O,a,C,dx,fs,rfl,G,c,n,l,N⟩:=Y;obtain rfl:M=Value.ref a:=O;exact ZD B G c n l S fun ae F=>⟨σ,_,F,N⟩
end
section
variable {X:Cx}{pins:List (Addr×Obj)}{σ:St}{H:Hp}{s:Shared}{A:Around}{E:Value->Shared->Prop}{Q:Value->Shared->Prop}{c:Value}{b:Bool}
inductive rH(K:Dl)(H:Hp):V->Value->Prop where
 |non:rH K H .non (.type "NoneType")
 |bl (x:Bool):rH K H (.bl x) (.type "bool")
 |int (i:Int):rH K H (.int i) (.type "int")
 |str (x:Str):rH K H (.str x) (.type "str")
 |flt (x:UInt64):rH K H (.flt x) (.type "float")
 |lst {a:Addr} {xs:List V} (e:H a=some (.lst xs)):rH K H (.ref a) (.type "list")
 |frz {a:Addr} {o:Obj} {xs:List V} (e:H a=some (.frz o (.lst xs))):rH K H (.ref a) (.type "list")
 |tup {a:Addr} {xs:List V} (e:H a=some (.tup xs)):rH K H (.ref a) (.type "tuple")
 |dK {a:Addr} {kvs:List (Key×V)} (e:H a=some (.dK kvs)):rH K H (.ref a) (.type "dict")
 |dT {a:Addr} {kvs:List (List Key×V)} (e:H a=some (.dT kvs)):rH K H (.ref a) (.type "dict")
 |ins {a C dx:Addr} {fs:List (Str×V)} (e:H a=some (.ins C dx fs)) (cl:Cls K C) (ha:PySem.W.findIn K (.ref C) "__class__" = some (some (.builtin "object.__class__")))
   (hn:PySem.W.specialIn K (.builtin "object.__class__") "__get__" = some (some (.builtin "getset_descriptor.__get__"))) (htk:PySem.W.takesIn K (.builtin "object.__class__")=some true)
   (hm:PySem.W.mroIn K C (.type "object")=some true):rH K H (.ref a) (.ref C)
def V9(I:Inv X pins σ H s)(q:RelV x u)(ty:rH X.K H x t)(e:PySem.W.kitOne X.K t c=some b)(h:∀M,Q (.bool b) { s with toks:=M }):
  wpAny (model X.prog X.w) A (call (.builtin "isinstance") [u,c]) Q E s:=by
 cases ty with
 |non=>cases q;exact BO PySem.W.kitx_none I.kIn True.intro e (fun z=>nomatch z) h
 |bl y=>cases q;exact BO PySem.W.kitx_bool I.kIn True.intro e (fun z=>nomatch z) h
 |int i=>obtain⟨t,rfl⟩:=q;exact BO PySem.W.kitx_int I.kIn True.intro e (fun z=>nomatch z) h
 |str y=>obtain⟨t,rfl⟩:=q;exact BO PySem.W.kitx_str I.kIn True.intro e (fun z=>nomatch z) h
 |flt y=>obtain⟨t,rfl⟩:=q;exact BO PySem.W.kitx_float I.kIn True.intro e (fun z=>nomatch z) h
 |@lst a xs g =>
  cases q;obtain⟨_,_,n,_,h1⟩:=(I.hok a _ g);exact BO PySem.W.kitx_list I.kIn ⟨_,h1,rfl⟩ e (fun z=>nomatch z) h
 |@frz a N xs g =>
  cases q;obtain⟨_,_,_,n,_,h1⟩:=(I.hok a _ g);exact BO PySem.W.kitx_list I.kIn ⟨_,h1,rfl⟩ e (fun z=>nomatch z) h
 |@tup a xs g =>
  cases q;obtain⟨_,_,_,p⟩:=(I.hok a _ g);exact jJ p fun o h1 h2 _=>BO PySem.W.kitx_tuple I.kIn ⟨o,h1,h2⟩ e (fun z=>nomatch z) h
 |@dK a kvs g =>
  cases q;obtain⟨_,_,vs,_,p⟩:=(I.hok a _ g);exact bT p fun o es ep h1 h2 _=>BO PySem.W.kitx_dict I.kIn ⟨o,h1,h2.1⟩ e (fun z=>nomatch z) h
 |@dT a kvs g =>
  cases q;obtain⟨_,_,xs,_,o,es,ep,h1,h2,_⟩:=(I.hok a _ g);exact BO PySem.W.kitx_dict I.kIn ⟨o,h1,h2.1⟩ e (fun z=>nomatch z) h
 |@ins a C dx fs g B D G L F =>
  cases q;obtain⟨mA,O,_⟩:=(zC I.hok g);obtain⟨S,J,_⟩:=O.look;exact BO (PySem.W.kitx_own (B.get _) B.hd D G L F) I.kIn J e (fun z=>nomatch z) h
end
structure Room(k:Nat)(A:Around):Prop where
 hd:A.handled=none
 dp:A.depth+3 * k+5 < recursionLimit
 un:A.units+16 * k+200 < cLine
def Room.mono(r:Room k A)(h:j<=k):Room j A:=⟨r.hd,by have:=r.dp;lia,by have:=r.un;lia⟩
def Room.deeper(r:Room (k+1) A)env:Room k (A.deeper env) :=
 ⟨r.hd,by have:=r.dp;show A.depth+1+3 * k+5 < _;lia,by have:=r.un;show A.units+3+16 * k+200 < _;lia⟩
def Z0{A:Around}: (A.under (.builtin "type.__call__" ⟨.ref C::q,g⟩)).depth=A.depth+1:=by
 first | rfl | simp[ Code.weight]
def ZZ{A:Around}: (A.under (.builtin "type.__call__" ⟨.ref C::q,g⟩)).units=A.units+1:=by
 first | rfl | simp[ Code.cUnits]
def Room.make(r:Room (k+1) A)C q g:Room k (A.under (.builtin "type.__call__" ⟨.ref C::q,g⟩)) :=
 ⟨r.hd,by have:=r.dp;rw[Z0];lia,by have:=r.un;rw[ZZ];lia⟩
def Room.depth(r:Room k A):A.depth < recursionLimit:=by have:=r.dp;lia
def Room.units(r:Room k A):A.units+64 < cLine:=by have:=r.un;lia
def tNil:TA:=fun _ H Q=>Q [] H
def WV(ta:TE)(g:TA):TA:=fun σ H Q=>ta σ H fun x H1=>g σ H1 fun xs H2=>Q (x::xs) H2
section
variable {X:Cx}{e:Expr}{es:List Expr}{te:TE}{t:TA}{pos:Pos}
theorem yR:PA X [] tNil:=fun _ _ _ _ H Q I h=>Calls.spliced_nil ⟨[],H,I,.nil,h⟩
def pa_cons(D:PE X e te)(F:PA X es t)(hs:starEach (e::es) X.env=(false,eval e X.env)::starEach es X.env:=by rfl):PA X (e::es) (WV te t):=by
 intro pos pins s σ H Q I h;exact hs▸Calls.spliced_cons (thn (D pins s σ H _ I h) fun u N g=>vZ g fun x H1 q L G=> thn (F pos pins N σ H1 _ q G) fun S O g=>vZ g fun xs H2 B M J=> ⟨x::xs,H2,B,.cons L M,J⟩)
inductive RW(o:List V->HO)(Q:VK)(xs:List V)(H:Hp):Prop
 |mk(h:xs.length<=sizeLine)(q:∀p,H p=none->Q (.ref p) (upd H p (o xs)))
def tTup(t:TA):TE:=fun σ H Q=>t σ H (RW .tup Q)
def tLst(t:TA):TE:=fun σ H Q=>t σ H (RW .lst Q)
def pe_tup{G}(h:PA X es t):PE X (.Tuple es G pos) (tTup t):=by
 intro pins s σ H Q I D;refine wpAny_Tuple_spliced (thn (h pos pins s σ H _ I D) fun F g ⟨xs,H1,B,r,z,q⟩=>⟨by exact r.length▸z,?_⟩);refine⟨.ref g.heap.objs.size,upd H1 g.heap.objs.size (.tup xs),B.laid (t':=g.toks) (fun b u e=>AE _ e) (AI _) ?_,rfl,q _ (B.hok.fresh (AI _))⟩;exact⟨z,F,r,⟨_,AK _ rfl,rfl,⟨_,rfl⟩,rfl⟩⟩
def pe_lst(h:PA X es t):PE X (.List es pos) (tLst t):=by
 intro pins s σ H Q I D;refine wpAny_List_spliced (thn (h pos pins s σ H _ I D) fun F g ⟨xs,H1,B,r,z,q⟩=>⟨by exact r.length▸z,?_⟩);refine⟨.ref g.heap.objs.size,upd H1 g.heap.objs.size (.lst xs),B.laid (t':=g.toks) (fun b u e=>AE _ e) (AI _) ?_,rfl,q _ (B.hok.fresh (AI _))⟩;exact⟨z,F,0,r,AK _ rfl⟩
end
abbrev Sp:=List V->Hp->VK->XK->Prop
abbrev CXT:=List Env->Hp->Shared->XK->Value->Shared->Prop
structure Env0(P:Program)(w:World)(K:Dl)(mg:Str->Option Value)(base:Heap)(A:Around)(outer:List Env)(s:Shared)(H:Hp):Prop where
 frames:A.frames=some outer
 mod:Mod K mg base
 bs:∀b o,base.get? b=some o->s.heap.get? b=some o/\H b=none
 bsz:base.objs.size<=s.heap.objs.size
 funs:s.heap.FunFrames base outer
 frf:∀b∈frs outer,H b=none
 hok:HOk P w H s.heap
 bare:AllBare s.gens
def CE(g:List Env)(P:Program)(w:World)(H:Hp)(s:Shared)(Q:VK)(u:Value)(s':Shared):Prop :=
 ∃v H',s'.os=s.os/\AllBare s'.gens/\Un (frs g) [] H H' s.heap s'.heap/\HOk P w H' s'.heap/\RelV v u/\Q v H'
def CR(CX:CXT)(g:List Env)(P:Program)(w:World)(H:Hp)(s:Shared)(Q:VK)(E:XK)(r:Result)(s':Shared):Prop :=
 match r with
 |.ok (.ret u)=>CE g P w H s Q u s'
 |.ok _=>False
 |.error e=>CX g H s E e s'
structure FnOk(P:Program)(w:World)(K:Dl)(mg:Str->Option Value)(base:Heap)(CX:CXT)(k:Nat)(f:Addr)(fd:FuncData)(ps:List Str)(sp:Sp):Prop where
 len:∀vs H Q E,sp vs H Q E->vs.length=ps.length
 run:∀(A:Around)(outer:List Env)(s:Shared)(H:Hp)(args:Args)(us:List Value)(vs:List V)(Q:VK)(E:XK),Room k A->Env0 P w K mg base A outer s H->BindsTo s fd args (ps.zip us)->Vals vs us->sp vs H Q E ->
  codeAny (model P w) A (.call (.ref f) args) (CR CX outer P w H s Q E) s
def FnOk.mono{K}(F:FnOk P w K mg base CX j f fd ps sp)(h:j<=k):
  FnOk P w K mg base CX k f fd ps sp:=⟨F.len,fun A B s H g D vs Q E q=>F.run A B s H g D vs Q E (q.mono h)⟩
def Env0.make{K}(e:Env0 P w K mg base A q s H)C B g:
  Env0 P w K mg base (A.under (.builtin "type.__call__" ⟨.ref C::B,g⟩)) q s H:=⟨by first | exact e.frames | (simpa [Around.under,Code.envs,Code.isFrame,pushEnvs] using e.frames),e.mod,e.bs,e.bsz,e.funs,e.frf,e.hok,e.bare⟩
section
variable {X:Cx}{pins:List (Addr×Obj)}{σ:St}{H:Hp}{s s':Shared}
def Inv.env0(I:Inv X pins σ H s):Env0 X.prog X.w X.K X.mg X.base X.A X.stack s H :=
 ⟨I.ok.frames,I.ok.mod,I.bs,Ad I.ok.bsz I.sz,I.stack,I.stkFree,I.hok,I.bare⟩
def Inv.after(I:Inv X pins σ H s)(h:CE X.stack X.prog X.w H s Q u s'):EP X pins σ Q u s':=by
 refine PL h fun v H' G B L F r q=>?_;obtain⟨D,g,d,t,J⟩:=s';obtain rfl:J=s.os:=G;exact⟨v,H',I.call (h':=D) (g':=g) (d':=d) (t':=t) L F B (fun b z=>absurd z (by simp)),r,q⟩
end
def WW(sp:Sp)(dvs:List V)(E:XK)(t:TA):TE:=fun σ H Q=>t σ H fun vs H1=>sp (vs++dvs) H1 Q E
def tMeth(C:Addr)(m:Str)(sp:Sp)(dvs:List V)(E:XK)(ta:TE)(t:TA):TE:=fun σ H Q=>ta σ H fun x H1=>∃a dx fs,x=.ref a/\H1 a=some (.ins C dx fs)/\fs.lookup m=none /\
 t σ H1 fun vs H2=>sp (x::(vs++dvs)) H2 Q E
def tMake(C:Addr)(sp:Sp)(dvs:List V)(E:XK)(t:TA):TE:=fun σ H Q=>t σ H fun vs H1=>∀x dx,H1 x=none->H1 dx=none->dx≠x ->
 sp (.ref x::(vs++dvs)) (upd (upd H1 dx (.own x)) x (.ins C dx [])) (fun v H2=>v=.non/\Q (.ref x) H2) E
def Binds(K:Dl)(fd:FuncData)(ps:List Str)(ds:List Value):Prop :=
 ∀(s:Shared)(g:List Value),K.In s.heap->(g++ds).length=ps.length->BindsTo s fd ⟨g,[]⟩ (ps.zip (g++ds))
def Binds.all{K}(h:∀g:List Value,g.length=ps.length->bindArgs fd ⟨g,[]⟩=pure (ps.zip g)):Binds K fd ps []:=fun s g _ q=>by
 rw[Aa] at q ⊢;exact .of_eq (h g q)
def wW(CX:CXT)(X:Cx)(E:XK):Prop:=∀(pins:List (Addr×Obj))(σ:St)(H:Hp)(s:Shared)(e:Value)(s':Shared),Inv X pins σ H s->CX X.stack H s E e s'->X.xe e s'
section
variable {X:Cx}{CX:CXT}{k:Nat}{f C:Addr}{fd:FuncData}{ps:List Str}{sp:Sp}{dvs:List V}{ds:List Value}{E:XK}{x m:Str}{p pos apos:Pos}{e o:Expr}{es:List Expr}{ta:TE}{t:TA}
def ZE{σ:St}(F:FnOk X.prog X.w X.K X.mg X.base CX k f fd ps sp)(M:Room k X.A)(G:Binds X.K fd ps ds)(J:Vals dvs ds)(N:wW CX X E)(I:Inv X pins σ H s)(r:Vals vs q)(h:sp (vs++dvs) H Q E):wpAny (model X.prog X.w) X.A (call (.ref f) q) (EP X pins σ Q) X.xe s:=by
 have B:=r.append J;have L :=B.length▸F.len _ _ _ _ h;refine wpAny_call (DV (F.run X.A X.stack s H ⟨q,[]⟩ (q++ds) (vs++dvs) Q E M I.env0 (G s q I.kIn L) B h) fun r s' g=>?_)
 cases r with
 |error e=>exact N pins σ H s e s' I g
 |ok D =>
  cases D with
  |ret u=>exact I.after g
  |next=>exact False.elim g
  |brk=>exact False.elim g
  |cont=>exact False.elim g
def pe_call(F:FnOk X.prog X.w X.K X.mg X.base CX k f fd ps sp)(U:Room k X.A)(M:Gl X x)(O:X.mg x=some (.ref f))(N:PySem.W.keepIn X.K (.ref f)=true)(D:Binds X.K fd ps ds)(G:Vals dvs ds)(Y:wW CX X E)(B:PA X (e::es) t)(J:(x==("__debug__" : Str))=false:=by decide)(L:starEach (e::es) X.env=(false,eval e X.env)::starEach es X.env:=by rfl)(S:(backTo pos (starEach es X.env)).any (·.1)=false:=by rfl):
  PE X (.Call (.Name x p) (e::es) [] pos) (WW sp dvs E t):=by
 intro pins s σ H Q I h;exact DB (pI I M O (PySem.W.callWith_K I.ok.mod.kin N (thn (B pos pins s σ H _ I h) fun ae ab Z=>vZ Z fun vs H1 g r q=> ⟨g.kIn,ZE F U D G Y g r q⟩) L S) J)
def pe_meth{pl}(O:PE X o ta)(c:Cls X.K C)(D:UE X.K C m f)(F:FnOk X.prog X.w X.K X.mg X.base CX k f fd ps sp)(U:Room k X.A)(M:Binds X.K fd ps ds)(N:Vals dvs ds)(hx:wW CX X E)(L:PA X (e::es) t)(Y:starEach (e::es) X.env=(false,eval e X.env)::starEach es X.env:=by rfl)(S:(backTo pos (starEach es X.env)).any (·.1)=false:=by rfl)(Z:eval (.Call (.Attribute o m apos) (e::es) [] pos) X.env=(do
   let G <- eval o X.env
   standAt apos.atName
   let (f,first) <- holding [G] (getMethod G m pl)
   callWith pos f first (backTo pos (starEach (e::es) X.env)) (backToKw pos (keywordEach [] X.env))):=by rfl):
  PE X (.Call (.Attribute o m apos) (e::es) [] pos) (tMeth C m sp dvs E ta t):=by
 intro pins s σ H Q I h;refine PySem.W.methodCall_KW (thn (O pins s σ H _ I h) fun u ab zq=>?_) Z;obtain⟨x,H1,g,rx,a,dx,fs,rfl,J,l,q⟩:=zq;obtain rfl:u=Value.ref a:=rx;exact sR g J c D l (PySem.W.callWith_K I.ok.mod.kin D.kp (thn (L pos pins ab σ H1 _ g q) fun ag ae zz=>vZ zz fun vs H2 B r q2=> ⟨B.kIn,ZE (vs:=.ref a::vs) F U M N hx B (.cons rfl r) q2⟩) Y S)
def Yq(M:PE X o ta)(c:Cls X.K C)(B:UE X.K C m f)(F:FnOk X.prog X.w X.K X.mg X.base CX k f fd ps sp)(N:Room k X.A)(J:Binds X.K fd ps ds)(L:Vals dvs ds)(S:wW CX X E)(O:eval (.Call (.Attribute o m apos) [] [] pos) X.env=(do
   let D <- eval o X.env
   standAt apos.atName
   let (f,first) <- holding [D] (getMethod D m Z)
   callWith pos f first (backTo pos (starEach [] X.env)) (backToKw pos (keywordEach [] X.env))):=by rfl):
  PE X (.Call (.Attribute o m apos) [] [] pos) (tMeth C m sp dvs E ta tNil):=by
 intro pins s σ H Q I h;refine PySem.W.methodCall_KW (thn (M pins s σ H _ I h) fun u ab Y=>?_) O;obtain⟨x,H1,g,U,a,dx,fs,rfl,G,l,q⟩:=Y;obtain rfl:u=Value.ref a:=U;exact sR g G c B l (PySem.W.callWith_K0 g.kIn B.kp (ZE (vs:=[.ref a]) F N J L S g (.cons rfl .nil) q))
structure Mk(K:Dl)(C f:Addr):Prop where
 makes:PySem.W.makesIn K C=true
 init:PySem.W.findIn K (.ref C) "__init__" = some (some (.ref f))
 fn:PySem.W.isFn K (.ref f)=true
 kp:PySem.W.keepIn K (.ref C)=true
def W0{σ:St}(M:Mk X.K C f)(F:FnOk X.prog X.w X.K X.mg X.base CX k f fd ps sp)(U:Room (k+1) X.A)(N:Binds X.K fd ps ds)(O:Vals dvs ds)(Y:wW CX X E)(I:Inv X pins σ H s)(r:Vals vs g)(h:∀x dx,H x=none->H dx=none->dx≠x->sp (.ref x::(vs++dvs)) (upd (upd H dx (.own x)) x (.ins C dx [])) (fun v H2=>v=.non/\Q (.ref x) H2) E):
  wpAny (model X.prog X.w) X.A (call (.ref C) g) (EP X pins σ Q) X.xe s:=by
 have D:=h (s.heap.objs.size+1) s.heap.objs.size (I.hok.fresh (Cg _)) (I.hok.fresh (AI _)) (AY (Bf _));have B:=Inv.made (C:=C) I;have G:Vals (V.ref (s.heap.objs.size+1)::(vs++dvs)) (Value.ref (s.heap.objs.size+1)::(g++ds)):=.cons rfl (r.append O)
 have S:(Value.ref (s.heap.objs.size+1)::g++ds).length=ps.length:=by
  have e:=G.length;rw[F.len _ _ _ _ D] at e;exact e.symm
 refine wpAny_call (YW I.kIn M.makes M.init (beq_iff_eq.mp M.fn) (DV (F.run _ X.stack _ _ ⟨Value.ref (s.heap.objs.size+1)::g,[]⟩ (Value.ref (s.heap.objs.size+1)::(g++ds)) _ _ E (U.make C g [])
  (B.env0.make C g []) (N _ (Value.ref (s.heap.objs.size+1)::g) B.kIn S) G D) fun r s' q=>?_))
 cases r with
 |error e=>exact Y pins σ _ _ e s' B q
 |ok L =>
  cases L with
  |ret u =>
   obtain⟨v,H',J,rv,rfl,Z⟩:=B.after q;exact⟨rv,⟨V.ref (s.heap.objs.size+1),H',J,rfl,Z⟩⟩
  |next=>exact False.elim q
  |brk=>exact False.elim q
  |cont=>exact False.elim q
def pe_make(M:Mk X.K C f)(F:FnOk X.prog X.w X.K X.mg X.base CX k f fd ps sp)(U:Room (k+1) X.A)(N:Gl X x)(O:X.mg x=some (.ref C))(D:Binds X.K fd ps ds)(G:Vals dvs ds)(Y:wW CX X E)(B:PA X (e::es) t)(J:(x==("__debug__" : Str))=false:=by decide)(L:starEach (e::es) X.env=(false,eval e X.env)::starEach es X.env:=by rfl)(S:(backTo pos (starEach es X.env)).any (·.1)=false:=by rfl):
  PE X (.Call (.Name x p) (e::es) [] pos) (tMake C sp dvs E t):=by
 intro pins s σ H Q I h;exact DB (pI I N O (PySem.W.callWith_K I.ok.mod.kin M.kp (thn (B pos pins s σ H _ I h) fun ae ab Z=>vZ Z fun vs H1 g r q=> ⟨g.kIn,W0 M F U D G Y g r q⟩) L S) J)
end
structure FnScope(N P:List Str)(sc:Scope):Prop where
 kind:sc.kind=.function
 co:sc.isCoroutine=false
 gen:sc.isGenerator=false
 nd:N.Nodup
 pre:N.take P.length=P
 par:∀x∈P,sc.names.lookup x=some .local\/sc.names.lookup x=some .cell
 nofree:∀y∈sc.names,y.2≠.free
theorem iE{B}: ∀{g}{m},(∀v,(x,v)∉g)->bindL B g m x=m x
 |[],_,_=>rfl
 | (n,v)::r,m,h=>by
  unfold bindL;rw[iE fun w q=>h w (AJ _ q)]
  split
  .grind
  .rfl
theorem zA{B}: ∀{g}{m},(∀v,(x,v)∉g)->bindC B g m x=m x
 |[],_,_=>rfl
 | (n,v)::r,m,h=>by
  unfold bindC;rw[zA fun w q=>h w (AJ _ q)]
  split
  .rfl
  .grind
theorem qA{q}: ∀{P:List Str}{vs}{i:Nat}{m},P.Nodup->P[i]?=some x->vs[i]?=some v->q x=some .local ->
  bindL q (P.zip vs) m x=some v
 |[],_,_,_,_,h,_,_=>by simp at h
 |_::_,[],_,_,_,_,h,_=>by simp at h
 |p::P,w::vs,0,m,nd,h1,h2,g=>by
  simp at h1 h2;subst h1;subst h2
  show bindL q ((p,w)::P.zip vs) m p=_;unfold bindL;rw[iE fun v B=>(BA.mp nd).1 (Cv B).1,Ab g]
  simp
 |p::P,w::vs,i+1,m,nd,h1,h2,g=>by
  unfold bindL;exact qA (BA.mp nd).2 (by simpa using h1) (by simp_all) g
theorem jA{q}: ∀{P:List Str}{vs}{i:Nat}{m},P.Nodup->P[i]?=some x->vs[i]?=some v->q x≠some .local ->
  bindC q (P.zip vs) m x=some v
 |[],_,_,_,_,h,_,_=>by simp at h
 |_::_,[],_,_,_,_,h,_=>by simp at h
 |p::P,w::vs,0,m,nd,h1,h2,g=>by
  simp at h1 h2;subst h1;subst h2
  show bindC q ((p,w)::P.zip vs) m p=_;unfold bindC;rw[zA fun v B=>(BA.mp nd).1 (Cv B).1,Ac g]
  simp
 |p::P,w::vs,i+1,m,nd,h1,h2,g=>by
  unfold bindC;exact jA (BA.mp nd).2 (by simpa using h1) (by simp_all) g
def start(N:List Str)(vs:List V):St:=vs.map some++List.replicate (N.length - vs.length) none
noncomputable def Qa(CX:CXT)(P:Program)(w:World)(K:Dl)(mg:Str->Option Value)(base:Heap)(N:List Str)(B:Str)(D:Scope)(f:Addr)(g:Value)(A:Around)(q:List Env)(s:Shared)(H:Hp)(E:XK):Cx where
 prog:=P
 w:=w
 K:=K
 mg:=mg
 base:=base
 A:=A.deeper (envOfC B D s.heap.objs.size f g)
 N:=N
 s₀:=s
 H₀:=H
 env:=envOfC B D s.heap.objs.size f g
 outer:=q
 stack:=envOfC B D s.heap.objs.size f g::q
 ex:=[]
 calm:=true
 fn:=fun _=>true
 pn:=[]
 xe:=fun e s'=>wpAny (model P w) (A.deeper (envOfC B D s.heap.objs.size f g)) (leaving (envOfC B D s.heap.objs.size f g) e) (fun _ F=>CX q H s E e F) (fun G F=>CX q H s E G F) s'
def yS{sc:Scope}(h:sc.names.lookup x=some .cell):∃c,(cellsFrom n sc.names []).lookup x=some c :=Option.isSome_iff_exists.mp (PySem.W.cellsFrom_some sc.names n [] (.inl h))
def Wa{K}(S:FnScope N ps B)(ab:A.handled=none)(g:Env0 P w K mg base A U s H)(hl:vs.length=ps.length)(r:Vals vs Y)(x:InCallC s s.heap.objs.size (bindL (envOfC J B s.heap.objs.size f G).kindOf (ps.zip Y) fun _=>none) (cellsFrom (s.heap.objs.size+1) B.names []) (bindC (envOfC J B s.heap.objs.size f G).kindOf (ps.zip Y) fun _=>none) ae):
  Inv (Qa CX P w K mg base N J B f G A U s H E) [] (start N vs) H ae:=by
 have ag:ps.length<=N.length:=by have:=Bu List.length S.pre;rw[Bg] at this;lia
 obtain⟨h1,tk,rfl,L⟩:=x.done;have I:∀b:Addr,b∉(Qa CX P w K mg base N J B f G A U s H E).ex:=fun b z=>absurd (show b∈([]:List Addr) from z) (by simp)
 refine⟨⟨g.mod,S.kind,rfl,rfl,AI _,fun y z c h1 h2=>?_,fun y F=>?_,fun y c _ h=>?_,fun _=>ab,Around.frames_deeper g.frames,.inr ⟨rfl,rfl⟩,fun b z=>absurd z (I b),g.bs,g.bsz,fun b _ _=>I b,fun b z=>absurd z (I b),g.funs,g.frf⟩,
  rfl,g.bare,Un.kept L,⟨_,x.toInCall.ns,fun i y v h1 h2 h3=>?_⟩,fun y c h=>⟨_,x.cell y c h⟩,g.hok.fresh (AI _),fun y c h=>?_,fun p D=>absurd (show p∈([]:List (Addr×Obj)) from D) (by simp),g.hok.kept L,?_⟩
 .exact name_of_addr x.apart (CV h1) (CV h2)
 .rcases F with F | F
  .exact yS F
  .exact absurd rfl (S.nofree _ (CV F))
 .exact Be (x.above y c (CV h))
 .have hi:i < vs.length:=by
   unfold start at h2
   by_cases hi:i < vs.length
   .exact hi
   .grind
  have Z:vs[i]?=some v:=by
   unfold start at h2;rw[CU (by simp_all),Aj] at h2
   cases e:vs[i]? with
   |none=>rw[e] at h2;cases h2
   |some a=>rw[e] at h2;cases h2;rfl
  obtain⟨u,M,rv⟩:=(r.get Z)
  have D:ps[i]?=some y:=by
   rw[<- S.pre,List.getElem?_take_of_lt (by lia)];exact h1
  have O :=S.pre▸S.nd.sublist (List.take_sublist _ _);refine⟨u,rv,?_⟩
  rcases S.par y (Ae D) with k | k
  .exact .inl ⟨k,qA O D M k⟩
  .obtain ⟨c,e⟩:=yS k
   refine .inr ⟨.inl k,c,e,?_⟩;have q:=x.cell y c e;rw[jA O D M (by show B.names.lookup y≠_;rw[k];decide)] at q;exact q
 .exact g.hok.fresh (Be (x.above y c (CV h)))
 .delta start
  show _=N.length;rw[AQ,AC,Bm]
  lia
def fn_of{K}{ag Z ai B Y oc}(lk:K.lookup f=some ⟨oc,od,.func (PySem.W.fnOf name G au U g dV ag Z ai aj B Y),ay⟩)(ao:PySem.W.codeIn K B G=true)(S:FnScope N ps g)(ah:∀vs H Q E,sp vs H Q E->vs.length=ps.length)(ak:∀(A:Around)(F:List Env)(s:Shared)(H:Hp)(vs:List V)(Q:VK)(E:XK),Room k (A.deeper (envOfC G g s.heap.objs.size f B))->sp vs H Q E ->
   ∃t,PSs (Qa CX P w K mg base N G g f B A F s H E) U t/\t { nx:=fun _ H'=>Q .non H',rt:=Q } (start N vs) H):
  FnOk P w K mg base CX (k+1) f (PySem.W.fnOf name G au U g dV ag Z ai aj B Y) ps sp:=by
 refine⟨ah,fun A F s H ax aw vs Q E L D hb r ae=>?_⟩;have O:=D.mod.kin.keeps fun b o e=>(D.bs b o e).1
 have ar:∀y∈ps.zip aw,g.names.lookup y.1=some .local\/(g.names.lookup y.1=some .cell/\((cellsFrom (s.heap.objs.size+1) g.names []).lookup y.1).isSome=true):=fun⟨n,v⟩ hy=>by
  rcases S.par n (Cv hy).1 with q | q
  .exact .inl q
  .exact .inr ⟨q,PySem.W.cellsFrom_some _ _ _ (.inl q)⟩
 refine codeAny_call_function L.depth (O _ _ lk) rfl S.co S.gen rfl (PySem.W.codeRec_of O ao) (hb _ _ _ _ (wpAny_newFunctionEnv_cells S.kind ar fun env aq av x=>?_));subst aq;refine⟨(D.mod.nolimit.keeps fun b o e=>(D.bs b o e).1).keeps x.toInCall.keep,codeAny_func (sQ (ak A F s H vs Q E (L.deeper _) ae) fun t ht hq=>BQ (ht [] av (start N vs) H _ (Wa S L.hd D (ah _ _ _ _ ae) r x) hq) (fun fl s' hs=>?_) fun e s' hs=>hs)⟩
 have ab:∀{I:St}{H':Hp}{v:V}{u:Value},Inv (Qa CX P w K mg base N G g f B A F s H E) [] I H' s'->RelV v u->Q v H'->CE F P w H s Q u s' :=
  fun {I H' v u}J M q=>⟨v,H',J.os,J.bare,J.base,J.hok,M,q⟩
 cases fl with
 |ret u =>
  exact bT hs fun v I H' J M q=>ab J M q
 |next =>
  exact rG hs fun I H' J q=>ab (v:=V.non) J rfl q
 |brk =>
  exact rG hs fun _ _ _ q=>False.elim q
 |cont =>
  exact rG hs fun _ _ _ q=>False.elim q
section
variable {X:Cx}{x:Str}{p pos:Pos}{e:Expr}{es:List Expr}{t:TA}{id T:String}{r:List V->Hp->VK->Prop}
def tCB(r:List V->Hp->VK->Prop)(t:TA):TE:=fun σ H Q=>t σ H fun vs H1=>r vs H1 Q
def Yx(B:CallR X (.builtin id) r)(G:Gl X x)(J:X.mg x=none)(N:bootBuiltins x=some (.builtin id))(q:PA X (e::es) t)(L:x ≠ "__name__":=by decide)(D:(x==("__debug__" : Str))=false:=by decide)(F:starEach (e::es) X.env=(false,eval e X.env)::starEach es X.env:=by rfl)(M:(backTo pos (starEach es X.env)).any (·.1)=false:=by rfl):PE X (.Call (.Name x p) (e::es) [] pos) (tCB r t):=by
 intro pins s σ H Q I h;exact DB (dI I G J N (PyProof.Rows.callWith_builtin1 (thn (q pos pins s σ H _ I h) fun Y U Z=>vZ Z fun vs H1 g S O=> B pins U σ H1 vs Y Q g S O) F M) L D)
def VJ(B:CallR X (.type T) r)(G:Gl X x)(J:X.mg x=none)(N:bootBuiltins x=some (.type T))(q:PA X (e::es) t)(L:x ≠ "__name__":=by decide)(D:(x==("__debug__" : Str))=false:=by decide)(F:starEach (e::es) X.env=(false,eval e X.env)::starEach es X.env:=by rfl)(M:(backTo pos (starEach es X.env)).any (·.1)=false:=by rfl):PE X (.Call (.Name x p) (e::es) [] pos) (tCB r t):=by
 intro pins s σ H Q I h;exact DB (dI I G J N (PyProof.Rows.callWith_type1 (thn (q pos pins s σ H _ I h) fun Y U Z=>vZ Z fun vs H1 g S O=> B pins U σ H1 vs Y Q g S O) F M) L D)
end
end L2
namespace HT
open PySem PyProof.Rows
section
variable {prog:Program}{w:World}{A:Around}{E:Value->Shared->Prop}{s:Shared}
def cat_tup(ht:IsTup s.heap t vs.toArray)(O:IsTup s.heap b g.toArray)(hv:vs≠[])(h1:g=[]->Q (.ref t) s)(h2:g≠[]->Q (.ref s.heap.objs.size) { s with heap:=s.heap.push { cls:=.type "tuple",data:=.seq (vs++g).toArray } })(hsz:vs.length+g.length<=sizeLine):wpAny (model prog w) A (binaryOp .Add (.ref t) (.ref b)) Q E s:=by
 obtain⟨⟨M,F,N,J⟩,q,S,n,Y⟩:=id ht;obtain⟨⟨ab,G,ae,L⟩,B,U,I,Z⟩:=id O;subst S Y U Z;have e:vs.toArray++g.toArray=(vs++g).toArray:=by simp
 by_cases D:g=[]
 .exact concat_meets ⟨_,q,rfl⟩ ⟨_,B,rfl⟩ noFill_tuple_add seq_tuple_add DX DP (DM _ _)
   (tuple_addW1 t b vs.toArray g.toArray n I F G J L (by grind) (by simp[D])) ⟨q,B,h1 D⟩
 .refine concat_meets ⟨_,q,rfl⟩ ⟨_,B,rfl⟩ noFill_tuple_add seq_tuple_add DX DP (DM _ _)
   (tuple_addW2 t b vs.toArray g.toArray n I F G J L (by simpa using hv) (by grind) (by grind)) ⟨q,B,?_⟩
  exact e▸h2 D
def sIx(n d:Nat):Option Int->Nat
 |none=>d
 |some v=>if v < 0 then (v+(n:Int)).toNat else min v.toNat n
def Va v(n d:Nat):(if v < 0 then max (v+(n:Int)) 0 else min v n )=((sIx n d (some v):Nat):Int):=by
 show(if v < 0 then max (v+(n:Int)) 0 else min v (n:Int))=(((if v < 0 then (v+(n:Int)).toNat else min v.toNat n):Nat):Int)
 by_cases g:v < 0
 .lia
 .grind
def JP lo hi(n:Nat):Builtin.Slice.sliceAdjust lo hi 1 n=(( sIx n 0 lo:Int),( sIx n n hi:Int)):=by
 refine Prod.ext ?_ ?_
 .cases lo with
  |none=>rfl
  |some v=>exact Va v n 0
 .cases hi with
  |none=>rfl
  |some v=>exact Va v n n
def ZN(i j:Nat):Builtin.Slice.slicePlaces i j 1=j - i :=by grind[Builtin.Slice.slicePlaces]
def aC(p:IsPart v o)(h:Q o s):wpAny (model prog w) A (Builtin.Slice.slicePartIndex v) Q E s:=by
 cases p with
 |none=>exact slicePart_none h
 |int i t=>exact slicePart_int h
def aP{lo}{Q:Int×Int×Nat->Shared->Prop}(hs:s.heap.IsSliceOf F G I .none)(B:IsPart G lo)(D:IsPart I hi)(h:Q (( sIx n 0 lo:Int),1,sIx n n hi - sIx n 0 lo) s):wpAny (model prog w) A (Builtin.Slice.sliceApplied (.ref F) (pure n )) Q E s:=by
 refine jJ (id hs) fun L q J g=>AA (AA (As q g rfl (AA (As q g rfl (AA (As q g rfl (AD (AA (slicePart_none (AA (aC B (AA (aC D (AA (AD ?_)))))))))))))));show wpAny _ _ (match Builtin.Slice.sliceAdjust lo hi 1 (n:Int) with | (lo,hi)=>pure (lo,(1:Int),Builtin.Slice.slicePlaces lo hi 1)) _ _ s
 rw[JP lo hi n];show wpAny _ _ (pure (((sIx n 0 lo:Nat):Int),(1:Int),Builtin.Slice.slicePlaces ((sIx n 0 lo:Nat):Int) ((sIx n n hi:Nat):Int) 1)) _ _ s;rw[ZN];exact AD h
def Ym(xs:Array Value)(i k:Nat):((List.range k).filterMap fun(m:Nat)=>xs[( i+(m:Int) * 1).toNat]?).toArray=((xs.toList.drop i).take k).toArray:=by
 have e:(fun(m:Nat)=>xs[((i:Int)+(m:Int) * 1).toNat]?)=fun m=>xs[i+m]? :=by grind
 rw[e];have:=pick_run xs i k;rw[List.filterMap_map] at this;have g:((fun x=>xs[x]?) ∘ fun x=>i+x)=fun m=>xs[i+m]?:=rfl;rw[g] at this;rw[this]
def getItem_tuple_cut{lo}(g:IsTup s.heap t items)(hs:s.heap.IsSliceOf L M N .none)(I:IsPart M lo)(J:IsPart N hi)(S:¬ (sIx items.size 0 lo=0/\sIx items.size items.size hi=items.size))(h:Q (.ref s.heap.objs.size) { s with heap:=s.heap.push { cls:=.type "tuple",data:=.seq ((items.toList.drop (sIx items.size 0 lo)).take (sIx items.size items.size hi - sIx items.size 0 lo)).toArray } })(hsz:items.size<=sizeLine):wpAny (model prog w) A (getItem (.ref t) (.ref L)) Q E s:=by
 have q:sizeOk (.seq ((items.toList.drop (sIx items.size 0 lo)).take (sIx items.size items.size hi - sIx items.size 0 lo)).toArray):=by
  show((items.toList.drop (sIx items.size 0 lo)).take (sIx items.size items.size hi - sIx items.size 0 lo)).toArray.size<=sizeLine;rw[Am,Bg,DS,Ay];omega
 obtain⟨G,F,B,O⟩:=(id hs)
 delta getItem
 try with_reducible refine Ao ?_
 first | refine AA (AD ?_) | skip
 refine AA (wpAny_sequenceKey g.typeIs rfl (AA (BG g.typeIs Cn
  (Av Cn g.typeIs entry_tuple_getitem ?_ (args_tuple_getitem _ _)))))
 show wpAny _ _ (Builtin.Tuple.tupleItemsOf (.ref t) >>= _) _ _ s;refine AA (tupleItemsOf_ g (AA (CJ (⟨G,F,B⟩) (AA (aP hs I J ?_)))));have D:¬ ((((sIx items.size 0 lo:Nat):Int)==0&&(1:Int)==1&&(sIx items.size items.size hi - sIx items.size 0 lo)==items.size)=true) :=by lia
 show wpAny _ _ (if (((sIx items.size 0 lo:Nat):Int)==0&&(1:Int)==1&&(sIx items.size items.size hi - sIx items.size 0 lo)==items.size)=true then _ else _) _ _ s;rw[Ac D,Ym]
 first
  |exact AA (Aw (AD ⟨_,rfl,AD h⟩) q)
  |exact AA (Aw (AA (AD (AD ⟨_,rfl,AD h⟩))) q)
  |exact AA (AA (Aw (AD (AD ⟨_,rfl,AD h⟩)) q))
  |exact AA (AA (Aw (AD ⟨_,rfl,AD h⟩) q))
end
end HT
namespace L2
open PySem PySem.Spec PyProof.Rows
abbrev TO:=St->Hp->(Option Int->Hp->Prop)->Prop
def PO(X:Cx)(e:Option Expr)(t:TO):Prop :=
 ∀(pins:List (Addr×Obj))(s:Shared)(σ:St)(H:Hp)(Q:Option Int->Hp->Prop),Inv X pins σ H s->t σ H Q ->
  wpAny (model X.prog X.w) X.A (evalPart e X.env) (fun u s'=>∃o H',Inv X pins σ H' s'/\IsPart u o/\Q o H') X.xe s
def tNoPart:TO:=fun _ H Q=>Q none H
def tPart(t:TE):TO:=fun σ H Q=>t σ H fun x H1=>∃i,x=.int i/\Q (some i) H1
section
variable {X:Cx}{e:Expr}{te:TE}{lo hi:Option Expr}{tl th:TO}{pos p2:Pos}
def po_none:PO X none tNoPart:=by
 intro pins s σ H Q I h;exact AD ⟨none,H,I,.none,h⟩
def po_some(h:PE X e te):PO X (some e) (tPart te):=by
 intro pins s σ H Q I B;refine thn (h pins s σ H _ I B) fun u J G=>vZ G fun x H1 g F D=> ?_;obtain⟨i,rfl,q⟩:=D;obtain⟨t,rfl⟩:=F;exact⟨some i,H1,g,.int i t,q⟩
def SlR(X:Cx)(r:V->Option Int->Option Int->Hp->VK->Prop):Prop :=
 ∀(pins:List (Addr×Obj))(s:Shared)(σ:St)(H:Hp)(x:V)(v q B:Value)(lo hi:Option Int)(g:Addr)(Q:VK),Inv X pins σ H s->RelV x v->s.heap.IsSliceOf g q B .none->IsPart q lo->IsPart B hi->r x lo hi H Q ->
  ∃T id,typeLookup (.type T) "__getitem__" = pure (some (.builtin id))/\s.TypeIs v T/\wpAny (model X.prog X.w) X.A (getItem v (.ref g)) (EP X pins σ Q) X.xe s
def tSl(r:V->Option Int->Option Int->Hp->VK->Prop)(te:TE)(tl th:TO):TE:=fun σ H Q=>te σ H fun x H1=>tl σ H1 fun l H2=>th σ H2 fun u g=>r x l u g Q
def Yp(Z:SlR X r)(S:PE X e te)(Y:PO X lo tl)(hu:PO X hi th):PE X (.Subscript e (.Slice lo hi none p2) pos) (tSl r te tl th):=by
 intro pins s σ H Q I h;refine Subscript_ (thn (S pins s σ H _ I h) fun v ae B=>vZ B fun x H1 J r1 q1=> wpAny_Slice (thn (Y pins ae σ H1 _ J q1) fun D ag B=>vZ B fun l H2 L pl q2=> thn (hu pins ag σ H2 _ L q2) fun F g B=>vZ B fun u G M ab q3=> ?_))
 apply AD
 have N:Inv X pins σ G { g with heap:=g.heap.push { cls:=.type "slice",data:=.fields #[D,F,.none] } }:=M.kept (t':=g.toks) fun b ob q=>AE _ q;exact vZ (Z pins { g with heap:=g.heap.push { cls:=.type "slice",data:=.fields #[D,F,.none] } } σ G x v D F l u g.heap.objs.size Q N r1 (Heap.IsSliceOf.new ..) pl ab q3) fun T id O ht U=>tail_any ht O U (by with_unfolding_all rfl)
def GS(xs:List V)(lo hi:Option Int):List V:=(xs.drop (HT.sIx xs.length 0 lo)).take (HT.sIx xs.length xs.length hi - HT.sIx xs.length 0 lo)
def X1 xs lo hi:(GS xs lo hi).length<=xs.length:=by
 delta GS
 rw[Bg,DS]
 lia
def rSlT(K:Dl):V->Option Int->Option Int->Hp->VK->Prop:=fun x lo hi H Q=>∃a xs,x=.ref a/\SqT K H a xs /\
 ¬ (HT.sIx xs.length 0 lo=0/\HT.sIx xs.length xs.length hi=xs.length)/\∀p,H p=none->Q (.ref p) (upd H p (.tup (GS xs lo hi)))
def sl_tup:SlR X (rSlT X.K):=by
 intro pins s σ H x v U Y lo hi S Q I L hs G J h;obtain⟨a,xs,rfl,D,M,q⟩:=h;cases L;obtain⟨N,r,B,F⟩:=(I.tuple D);have g :=Am▸r.length.symm;refine⟨"tuple",_,Cn.lookup,B.typeIs,HT.getItem_tuple_cut B hs G J (by rwa [g]) ?_ (by rwa [g])⟩;rw[g];refine⟨.ref s.heap.objs.size,_,I.laid (t':=s.toks) (fun b O q=>AE _ q) (AI _) ?_,rfl,q _ (I.hok.fresh (AI _))⟩
 exact⟨Ad (X1 xs lo hi) F,_,(r.drop (HT.sIx xs.length 0 lo)).take (HT.sIx xs.length xs.length hi - HT.sIx xs.length 0 lo),jg.new _ _⟩
def rCatT(K:Dl):R2:=fun x y H Q=>∃a b xs ys,x=.ref a/\y=.ref b/\SqT K H a xs/\SqT K H b ys/\xs≠[]/\xs.length+ys.length<=sizeLine /\
 (ys=[]->Q (.ref a) H)/\(ys≠[]->∀p,H p=none->Q (.ref p) (upd H p (.tup (xs++ys))))
def Vals.nil_iff(r:Vals xs g):g=[]↔xs=[]:=by
 cases r with
 |nil=>simp
 |cons _ _=>simp
def op_catT:OpR X (binaryOp .Add) (rCatT X.K):=by
 intro pins s σ H x y v u Q I O S h;obtain⟨a,b,xs,ys,rfl,rfl,D,F,G,J,M,N⟩:=h;cases O;cases S;refine jJ (I.tuple D) fun U B L _=>jJ (I.tuple F) fun Y g p2 _=>HT.cat_tup L p2 (fun z=>G (B.nil_iff.mp z)) (fun z=>⟨.ref a,H,I,rfl,M (g.nil_iff.mp z)⟩) (fun z=>?_) (by rwa [<- B.length,<- g.length]);refine⟨.ref s.heap.objs.size,_,I.laid (t':=s.toks) (fun b Z q=>AE _ q) (AI _) ?_,rfl,N (fun w=>z (g.nil_iff.mpr w)) _ (I.hok.fresh (AI _))⟩
 exact⟨by exact AQ▸J,_,B.append g,jg.new _ _⟩
end
def ixN(n:Nat)(i:Int):Option Nat:=if 0<=i then (if i < n then some i.toNat else none) else if -(n:Int)<=i then some (i+n).toNat else none
def atI{α:Type}(xs:List α)(i:Int):Option α:=(ixN xs.length i).bind fun j=>xs[j]?
def KF(h:ixN n i=some j):seqIndex? i n=some j/\j < n/\- n<=i/\i < n :=by grind[ixN,seqIndex_of,seqIndex_neg,lia,Option.some.inj]
def QD(h:atI xs i=some v):∃j,seqIndex? i xs.length=some j/\xs[j]?=some v/\j < xs.length/\-(xs.length:Int)<=i/\i < xs.length:=by
 delta atI at h
 cases e:ixN xs.length i with
 |none=>rw[e] at h;cases h
 |some j =>
  rw[e] at h;exact cT (KF e) fun h1 h2 g q=>⟨j,h1,h,h2,g,q⟩
def QJ(b:Expr):Prop:=∀o i,subscripted b false o i=operate [o,i] (getItem o i)
def IxR(X:Cx)(r:R2):Prop :=
 ∀(value g:Expr)(pins:List (Addr×Obj))(s:Shared)(σ:St)(H:Hp)(x y:V)(v u:Value)(Q:VK),Inv X pins σ H s->RelV x v->RelV y u->r x y H Q ->
  subscripted g false v u=operate [v,u] (getItem v u)->wpAny (model X.prog X.w) X.A (subscriptTail value g v u) (EP X pins σ Q) X.xe s
def MtR(X:Cx)(id:String)(r:V->List V->Hp->VK->Prop):Prop :=
 ∀(pins:List (Addr×Obj))(s:Shared)(σ:St)(H:Hp)(x:V)(xs:List V)(v:Value)(g:List Value)(Q:VK),Inv X pins σ H s->RelV x v->Vals xs g->r x xs H Q ->
  wpAny (model X.prog X.w) X.A (call (.builtin id) (v::g)) (EP X pins σ Q) X.xe s
section
variable {X:Cx}{a b:Expr}{ta tb:TE}{pos:Pos}
def IxR.or(h:IxR X r)(h':IxR X F):IxR X (fun x y H Q=>r x y H Q\/F x y H Q):=by
 intro value D pins s σ H x y v u Q I g B q hs
 rcases q with q | q
 .exact h value D pins s σ H x y v u Q I g B q hs
 .exact h' value D pins s σ H x y v u Q I g B q hs
def pe_ix(F:IxR X r)(B:PE X a ta)(D:PE X b tb)(hs:QJ b):PE X (.Subscript a b pos) (tOp r ta tb):=by
 intro pins s σ H Q I h;exact Subscript_ (binT B D I h fun v u L x y H2 g G J q=>F a b pins L σ H2 x y v u Q g G J q (hs _ _))
inductive IIx(S:Hp->Addr->List V->Prop)(x y:V)(H:Hp)(Q:VK):Prop
 |mk(p:Addr)(xs:List V)(i:Int)(v:V)(h:x=.ref p)(h':y=.int i)(s:S H p xs)(a:atI xs i=some v)(q:Q v H)
def rIxL(K:Dl):R2:=IIx (SqL K)
def rIxT(K:Dl):R2:=IIx (SqT K)
def rIxS:R2:=fun x y H Q=>∃z i c,x=.str z/\y=.int i/\z.length<=sizeLine/\atI z.cps.toList i=some c/\Q (.str ⟨#[c]⟩) H
def ix_list:IxR X (rIxL X.K):=by
 intro value ab pins s σ H x y v u Q I S U h hs;obtain⟨p,xs,i,z,rfl,rfl,M,J,q⟩:=h;cases S;obtain⟨t,rfl⟩:=U;refine jJ (I.list M) fun N r g hz=>XU (QD J) fun j h1 h2 Y F G=>sQ (r.get h2) fun w D O=>?_;have L:=r.length;have Z:=lD;have B:EP X pins σ Q w s:=⟨z,H,I,O,q⟩
 by_cases h0:0<=i
 .have hj:i.toNat=j:=by
   rw[seqIndex_of h0 G] at h1;exact Al h1
  exact item_listR g.isList h0 (by lia) (by simp_all) B hs
 .have hj:(i+(N.toArray.size:Int)).toNat=j:=by
   rw[seqIndex_neg (by lia) F] at h1;exact Am▸L▸Al h1
  exact subscriptTail_builtinR g.isList.typeIs slot_list_getitem.lookup
   (wpAny_getItem_list_neg g.isList (by lia) (by simp_all) (by lia) (by rw[hj];simpa using D) ⟨rfl,B⟩) hs
def ix_tup:IxR X (rIxT X.K):=by
 intro value Z pins s σ H x y v u Q I G J h hs;obtain⟨p,xs,i,z,rfl,rfl,D,B,q⟩:=h;cases G;obtain⟨t,rfl⟩:=J;refine jJ (I.tuple D) fun Y r g U=>XU (QD B) fun j h1 h2 M N O=>sQ (r.get h2) fun w L F=>?_;have S:=lD
 exact subscriptTail_builtinR g.typeIs slot_tuple_getitem.lookup
  (getItem_tuple g (by lia) (by lia) (by rwa [Am,<- r.length]) (by simp_all) ⟨rfl,(⟨z,H,I,F,q⟩)⟩) hs
def ix_str:IxR X rIxS:=by
 intro value O pins s σ H x y v u Q I B D h hs;obtain⟨z,i,c,rfl,rfl,N,g,q⟩:=h;obtain⟨t,rfl⟩:=B;obtain⟨t',rfl⟩:=D;refine XU (QD g) fun j h1 h2 F G J=>?_;have L:z.cps.toList.length=z.length:=by simp[Str.length]
 have M:=lD;exact tail_any (typeIs_str s z t) slot_str_getitem.lookup (getItem_str (by lia) (by grind) ⟨.str ⟨#[c]⟩,H,I.tok _,⟨_,rfl⟩,q⟩) hs
def rIx(K:Dl):R2:=fun x y H Q=>rIxL K x y H Q\/rIxT K x y H Q\/rIxS x y H Q
def ix_seq:IxR X (rIx X.K):=ix_list.or (ix_tup.or ix_str)
def ZY(g:List Value)n j u:Obj.mapSeq (·.setIfInBounds j u) { cls:=.type "list",data:=.seq g.toArray n }={ cls:=.type "list",data:=.seq (g.set j u).toArray n }:=by
 simp[Obj.mapSeq]
def Inv.lst{pins:List (Addr×Obj)}{σ:St}{H:Hp}{s:Shared}{p:Addr}{xs:List V}(I:Inv X pins σ H s)(h:H p=some (.lst xs)):
  ∃(g:List Value)(n:Nat),Vals xs g/\s.heap.get? p=some { cls:=.type "list",data:=.seq g.toArray n }/\xs.length<=sizeLine:=by
 obtain⟨z,g,n,r,e⟩:=I.hok p _ h;exact⟨g,n,r,e,z⟩
def Inv.lstUpd{σ:St}{B:List Value}(I:Inv X pins σ H s)(h:H p=some (.lst xs))(G:s.heap.get? p=some { cls:=.type "list",data:=.seq B.toArray n })(g:f { cls:=.type "list",data:=.seq B.toArray n }={ cls:=.type "list",data:=.seq its'.toArray D })(r:Vals ys its')(J:ys.length<=sizeLine)t:
  Inv X pins σ (upd H p (.lst ys)) { s with heap:=s.heap.update p f,toks:=t }:=by
 have e:(s.heap.update p f).get? p=some { cls:=.type "list",data:=.seq its'.toArray D }:=by
  rw[A4 f G (by rw[g]<;>rfl),g]
 refine I.write (by rw[h];trivial) (.inl rfl) (fun b u F q=>(BI _ _ (Ne.symm F)).trans q) ⟨_,e⟩ ?_;exact⟨J,its',D,r,e⟩
def rSetL:V->V->V->Hp->(Hp->Prop)->Prop:=fun o i v H Q=>∃p xs k j,o=.ref p/\i=.int k/\H p=some (.lst xs)/\ixN xs.length k=some j/\Q (upd H p (.lst (xs.set j v)))
def WY:PSet X rSetL:=by
 intro pins s σ H o i v ov Z u Q I O N S h;obtain⟨p,xs,k,j,rfl,rfl,G,hj,q⟩:=h;cases O;obtain⟨t,rfl⟩:=N;refine vZ (I.lst G) fun J n r B Y=>cT (KF hj) fun h1 h2 L M=>?_;have F:=r.length;have U:=lD
 have D :=
  I.lstUpd G B (ZY J n j u) (r.set S j) (by grind) s.toks
 by_cases h0:0<=k
 .have g:k.toNat=j:=by
   rw[seqIndex_of h0 M] at h1;exact Al h1
  exact PySem.W.ki_setAt B h0 (by lia) (by simp_all) (g▸⟨_,D,q⟩)
 .have g:(k+(J.toArray.size:Int)).toNat=j:=by
   rw[seqIndex_neg (by lia) L] at h1;exact Am▸F▸Al h1
  exact PySem.W.ki_setBack B (by lia) (by rwa [Am,<- F]) (by lia) (g▸⟨_,D,q⟩)
def xD:V->Bool
 |.non=>true
 |.bl _=>true
 |.int _=>true
 |.str _=>true
 |_=>false
noncomputable def eqV:V->V->Bool
 |.non,.non=>true
 |.bl a,.bl b=>a==b
 |.bl a,.int b=>(if a then 1 else 0)==b
 |.int a,.bl b=>a==(if b then 1 else 0)
 |.int a,.int b=>a==b
 |.str a,.str b=>a==b
 |_,_=>false
def iR(B:RelV y u)(g:RelV x v)(D:xD y=true)(q:xD x=true):SeqAt.EqAt A s u v (eqV y x):=by
 cases y with
 |non =>
  cases B
  cases x with
  |non=>cases g;exact SeqAt.EqAt.same _
  |bl b=>cases g;exact SeqAt.EqAt.none_bool b
  |int b=>obtain⟨t,rfl⟩:=g;exact SeqAt.EqAt.none_int b t
  |str b=>obtain⟨t,rfl⟩:=g;exact SeqAt.EqAt.none_str b t
  |_=>exact absurd q AR
 |bl a =>
  cases B
  cases x with
  |non=>cases g;exact SeqAt.EqAt.bool_none a
  |bl b=>cases g;exact SeqAt.EqAt.bool_bool a b
  |int b=>obtain⟨t,rfl⟩:=g;exact SeqAt.EqAt.bool_int a b t
  |str b=>obtain⟨t,rfl⟩:=g;exact SeqAt.EqAt.bool_str a b t
  |_=>exact absurd q AR
 |int a =>
  obtain⟨t',rfl⟩:=B
  cases x with
  |non=>cases g;exact SeqAt.EqAt.int_none a t'
  |bl b=>cases g;exact SeqAt.EqAt.int_bool a t' b
  |int b=>obtain⟨t,rfl⟩:=g;exact SeqAt.EqAt.int_int a t' b t
  |str b=>obtain⟨t,rfl⟩:=g;exact SeqAt.EqAt.int_str a t' b t
  |_=>exact absurd q AR
 |str a =>
  obtain⟨t',rfl⟩:=B
  cases x with
  |non=>cases g;exact SeqAt.EqAt.str_none a t'
  |bl b=>cases g;exact SeqAt.EqAt.str_bool a t' b
  |int b=>obtain⟨t,rfl⟩:=g;exact SeqAt.EqAt.str_int a t' b t
  |str b=>obtain⟨t,rfl⟩:=g;exact SeqAt.EqAt.str_str a t' b t
  |_=>exact absurd q AR
 |_=>exact absurd D AR
noncomputable def eqU(x:V)(u:Value):Bool:=match u with
 |.none=>eqV .non x
 |.bool b=>eqV (.bl b) x
 |.int i _=>eqV (.int i) x
 |.str z _=>eqV (.str z) x
 |_=>false
def GD(r:RelV y u)(f:xD y=true):eqU x u=eqV y x:=by
 cases y with
 |non=>cases r;rfl
 |bl b=>cases r;rfl
 |int i=>obtain⟨t,rfl⟩:=r;rfl
 |str z=>obtain⟨t,rfl⟩:=r;rfl
 |_=>exact absurd f AR
theorem QF: ∀{xs}{g},Vals xs g->xs.all xD=true->g.any (eqU x)=xs.any fun y=>eqV y x
 |_,_,.nil,_=>rfl
 |y::xs,u::g,.cons r t,f=>by
  rw[Cs,BJ] at f;rw[BN,BN,GD r f.1,QF t f.2]
theorem bR(D:RelV x v)(B:xD x=true):∀{xs}{q},Vals xs q->xs.all xD=true->∀u∈q,SeqAt.EqAt A s u v (eqU x u)
 |_,_,.nil,_=>fun u g=>by cases g
 |y::xs,u::q,.cons r t,f=>fun F g=>by
  rw[Cs,BJ] at f
  rcases Ai.mp g with rfl | g
  .exact (GD r f.1)▸iR r D f.1 B
  .exact bR D B t f.2 F g
def inV(x:V)(xs:List V):Bool:=xs.any fun y=>eqV y x
def rIn(K:Dl)(g:Bool):R2:=fun x y H Q=>∃p xs,y=.ref p/\(SqL K H p xs\/SqT K H p xs)/\xD x=true/\xs.all xD=true/\Q (.bl (if g then !inV x xs else inV x xs)) H
def nO:OpR X (compareOp .In) (rIn X.K false):=by
 intro pins s σ H x y v u Q I J M h;obtain⟨p,xs,rfl,g,F,fs,q⟩:=h;cases M
 rcases g with g | g
 .obtain ⟨B,r,D,L⟩:=I.list g
  refine SeqAt.in_listAt (eqU x) D.isList (fun w G=>bR J F r fs w (by grind)) ⟨.bl _,H,I,rfl,?_⟩;rw[show B.toArray.any (eqU x)=B.any (eqU x) by simp,QF r fs];exact q
 .obtain ⟨B,r,D,L⟩:=I.tuple g
  refine SeqAt.in_tupleAt (eqU x) D (fun w G=>bR J F r fs w (by simpa using G)) ⟨.bl _,H,I,rfl,?_⟩;rw[show B.toArray.any (eqU x)=B.any (eqU x) by simp,QF r fs];exact q
def Qt:CallR X (.builtin "len") (fun xs H Q=>∃p ys,xs=[.ref p]/\(SqL X.K H p ys\/SqT X.K H p ys)/\Q (.int ys.length) H):=by
 intro pins s σ H xs M Q I r h;obtain⟨p,ys,rfl,g,q⟩:=h;obtain⟨u,rfl,rfl⟩:=zB r;have L:=lD
 rcases g with g | g
 .obtain ⟨J,F,D,G⟩:=I.list g
  have B:=F.length;exact Calls.call_len_list D.isList (by grind) ⟨.int ys.length,H,I.tok _,⟨s.toks+1,by rw[Am,B]⟩,q⟩
 .obtain ⟨J,F,D,G⟩:=I.tuple g
  have B:=F.length;exact len_tuple D (by simp only[List.size_toArray]<;>lia) ⟨.int ys.length,H,I.tok _,⟨s.toks+1,by rw[Am,B]⟩,q⟩
def Qs:CallR X (.builtin "len") (fun xs H Q=>∃z,xs=[.str z]/\z.length<=sizeLine/\Q (.int z.length) H):=by
 intro pins s σ H xs D Q I r h;obtain⟨z,rfl,B,q⟩:=h;obtain⟨u,rfl,t,rfl⟩:=zB r;have g:=lD;exact len_str (by lia) ⟨.int z.length,H,I.tok _,⟨_,rfl⟩,q⟩
def CallR.or(h:CallR X f r)(h':CallR X f B):CallR X f (fun xs H Q=>r xs H Q\/B xs H Q):=by
 intro pins s σ H xs g Q I rs q
 rcases q with q | q
 .exact h pins s σ H xs g Q I rs q
 .exact h' pins s σ H xs g Q I rs q
def uP:CallR X (.type "list") (fun xs H Q=>∃p ys,xs=[.ref p]/\(SqL X.K H p ys\/SqT X.K H p ys)/\∀l,H l=none->Q (.ref l) (upd H l (.lst ys))):=by
 intro pins s σ H xs Y Q I r h;obtain⟨p,ys,rfl,F,q⟩:=h;obtain⟨u,rfl,rfl⟩:=zB r
 have S:∀g,Vals ys g->ys.length<=sizeLine->∀h' B,(∀b o',s.heap.get? b=some o'->h'.get? b=some o') ->
   h'.get? s.heap.objs.size=some { cls:=.type "list",dict:=none,data:=.seq g.toArray B,slots:=#[] }->EP X pins σ Q (.ref s.heap.objs.size) { s with heap:=h' }:=fun g D G h' B J e=>
  ⟨.ref s.heap.objs.size,_,I.laid (t':=s.toks) J (AI _) (show ObjOk X.prog X.w _ h' _ (.lst ys) from⟨G,g,B,D,e⟩),rfl,q _ (I.hok.fresh (AI _))⟩
 rcases F with F | F
 .obtain ⟨g,D,O,G⟩:=I.list F
  have U:=D.length;obtain⟨o,N,L,n,M⟩:=O.isList;exact call_list_seq p (.inl rfl) N L M (fun h' B J e=>S g D G h' B J e) (by grind)
 .obtain ⟨g,D,O,G⟩:=I.tuple F
  have U:=D.length;obtain⟨o,N,L,n,M⟩:=O;exact call_list_seq p (.inr rfl) N L M (fun h' B J e=>S g D G h' B J e) (by simp only[List.size_toArray]<;>omega)
def rT:CallR X (.type "tuple") (fun xs H Q=>∃p ys,xs=[.ref p]/\((SqL X.K H p ys/\∀l,H l=none->Q (.ref l) (upd H l (.tup ys)))\/(SqT X.K H p ys/\Q (.ref p) H))):=by
 intro pins s σ H xs O Q I r h;obtain⟨p,ys,rfl,h⟩:=h;obtain⟨u,rfl,rfl⟩:=zB r
 rcases h with ⟨g,q⟩ | ⟨g,q⟩
 .obtain ⟨J,D,B,G⟩:=(I.list g)
  have N:=D.length;refine call_tuple_list B.isList (fun h' M=>?_) (by grind);have F:=I.kept (t':=s.toks) M
  have L :=
   F.laid (t':=s.toks) (fun b o e=>AE _ e) (AI _) (show ObjOk X.prog X.w _ _ _ (.tup ys) from⟨G,J,D,jg.new _ _⟩)
  exact⟨.ref h'.objs.size,_,L,rfl,q _ (F.hok.fresh (AI _))⟩
 .exact jJ (I.tuple g) fun J D B G=>call_tuple_same B ⟨.ref p,H,I,rfl,q⟩
def tyV(K:Dl)(T:String)(x:V)(H:Hp):Prop:=match x with
 |.str _=>T = "str"
 |.int _=>T = "int"
 |.ref p=>(T = "list"/\∃xs,SqL K H p xs)\/(T = "tuple"/\∃o,K.lookup p=some o/\o.cls=.type "tuple"/\o.dict=none) \/
   (T = "dict"/\((∃kvs,H p=some (.dK kvs))\/∃kvs,H p=some (.dT kvs)))\/(T = "set"/\∃S n,H p=some (.set S n))
 |_=>False
def WO{σ:St}(I:Inv X pins σ H s)(r:RelV x v)(ty:tyV X.K T x H):
  s.TypeIs v T/\∀a,v=.ref a->∃D,s.heap.get? a=some D/\D.dict=none:=by
 cases x with
 |str z =>
  obtain⟨t,rfl⟩:=r;cases ty;exact⟨typeIs_str s z t,fun _ e=>nomatch e⟩
 |int i =>
  obtain⟨t,rfl⟩:=r;cases ty;exact⟨typeIs_int s i t,fun _ e=>nomatch e⟩
 |ref p =>
  cases r
  rcases ty with ⟨rfl,xs,J⟩ | ⟨rfl,o,g,G,B⟩ | ⟨rfl,g⟩ | ⟨rfl,S,n,g⟩
  .refine jJ (I.list J) fun L _ F _=>⟨F.isList.typeIs,fun a e=>?_⟩
   cases e;exact mT F fun o n e c B _=>⟨o,e,B⟩
  .refine ⟨⟨o,I.kIn p o g,G⟩,fun a e=>?_⟩
   cases e;exact⟨o,I.kIn _ o g,B⟩
  .have z:∃o,s.heap.get? p=some o/\o.ExactDict:=by
    rcases g with ⟨kvs,g⟩ | ⟨kvs,g⟩
    .obtain ⟨_,_,_,_,o,_,_,e,ex,_⟩:=I.hok p _ g
     exact⟨o,e,ex⟩
    .obtain ⟨_,_,_,_,o,_,_,e,ex,_⟩:=I.hok p _ g
     exact⟨o,e,ex⟩
   obtain⟨o,e,ex⟩:=z;refine⟨⟨o,e,ex.1⟩,fun a q=>?_⟩;cases q;exact⟨o,e,ex.2.1⟩
  .refine TQ (I.hok p _ g) fun o _ _ _ e ex _=>⟨⟨o,e,ex.1⟩,fun a q=>?_⟩
   cases q;exact⟨o,e,ex.2.1⟩
 |_=>exact False.elim ty
def tBM0(K:Dl)(T:String)(r:V->List V->Hp->VK->Prop)(to:TE):TE:=fun σ H Q=>to σ H fun x H1=>tyV K T x H1/\r x [] H1 Q
def tBM(K:Dl)(T:String)(r:V->List V->Hp->VK->Prop)(to:TE)(t:TA):TE:=fun σ H Q=>to σ H fun x H1=>tyV K T x H1/\t σ H1 fun xs H2=>r x xs H2 Q
variable {o e:Expr}{es:List Expr}{to:TE}{t:TA}{name:Str}{apos cpos:Pos}{T id:String}{r:V->List V->Hp->VK->Prop}
def ZP(L:PlainAttrs T)(O:Slot T name id)(J:typeOf (.builtin id)=pure (.type "method_descriptor"))(F:MtR X id r)(G:PE X o to)(B:attributeBase o name X.env (eval o X.env)=eval o X.env:=by rfl)(D:(apos.endLine==cpos.line)=true:=by rfl):PE X (.Call (.Attribute o name apos) [] [] cpos) (tBM0 X.K T r to):=by
 intro pins s σ H Q I h;refine wpAny_Call_method0_late B D (thn (G pins s σ H _ I h) fun v N S=>mT S fun x H1 g q ty M=>?_);obtain⟨h1,h2⟩:=WO g q ty;exact⟨T,id,L,O,J,h1,h2,Cm rfl (PySem.evalArgs_none (F pins N σ H1 x [] v [] Q g q .nil M))⟩
def pe_bm(S:PlainAttrs T)(ag:Slot T name id)(O:typeOf (.builtin id)=pure (.type "method_descriptor"))(M:MtR X id r)(N:PE X o to)(F:PA X (e::es) t)(G:attributeBase o name X.env (eval o X.env)=eval o X.env:=by rfl)(J:((backTo cpos (starEach (e::es) X.env)).all (fun x=>!x.1)&&(backToKw cpos (keywordEach [] X.env)).all (fun x=>x.1.isSome)
   && decide ((e::es).length+([]:List Keyword).length+(if ([]:List Keyword).isEmpty then 0 else 1) < 30))=true:=by rfl)(L:(apos.endLine==cpos.line)=true:=by rfl)(hs:starEach (e::es) X.env=(false,eval e X.env)::starEach es X.env:=by rfl)(ai:(backTo cpos (starEach es X.env)).any (·.1)=false:=by rfl):
  PE X (.Call (.Attribute o name apos) (e::es) [] cpos) (tBM X.K T r to t):=by
 intro pins s σ H Q I h;refine wpAny_Call_method_late G J L rfl (thn (N pins s σ H _ I h) fun v ab zq=>mT zq fun x H1 g B ty U=>?_);obtain⟨h1,h2⟩:=WO g B ty;refine⟨T,id,S,ag,O,h1,h2,?_⟩;have q:=F cpos pins ab σ H1 _ g U;rw[hs] at q ⊢;exact Cm (by grind) (Dk (thn q fun ah ae zz=>vZ zz fun vs H2 D Z Y=> M pins ae σ H2 x vs v ah Q D B Z Y))
end
def MtM(X:Cx)(id:String)(r:V->List V->Hp->VK->Prop):Prop :=
 ∀(pins:List (Addr×Obj))(s:Shared)(σ:St)(H:Hp)(x:V)(xs:List V)(v:Value)(g:List Value)(Q:VK),Inv X pins σ H s->RelV x v->Vals xs g->r x xs H Q ->
  wpAny (model X.prog X.w) X.A (call (.builtin id) (v::g)) (EP X pins σ Q) X.xe s
def Vals.one(h:Vals [x] g):∃u,g=[u]/\RelV x u:=by
 cases h with
 |cons r h =>
  cases h;exact⟨_,rfl,r⟩
def Vals.two(h:Vals [x,y] g):∃u v,g=[u,v]/\RelV x u/\RelV y v:=by
 cases h with
 |cons r h =>
  obtain⟨v,rfl,q⟩:=Vals.one h;exact⟨_,v,rfl,r,q⟩
theorem Vals.zero:∀{g},Vals [] g->g=[]
 |_,.nil=>rfl
def Vals.dropLast(h:Vals xs B):Vals xs.dropLast B.dropLast:=by
 induction h with
 |nil=>exact .nil
 |cons r t g =>
  cases t with
  |nil=>exact .nil
  |cons q t'=>exact .cons r g
section
variable {X:Cx}{pins:List (Addr×Obj)}{σ:St}{H:Hp}{s:Shared}{l b:Addr}{xs ys zs:List V}
def Inv.lset{g:List Value}(I:Inv X pins σ H s)(B:H l=some (.lst xs))(e:s.heap.get? l=some { cls:=.type "list",data:=.seq g.toArray n })(F:f g.toArray=its'.toArray)(J:Vals ys its')(L:ys.length<=sizeLine):
  Inv X pins σ (upd H l (.lst ys)) { s with heap:=s.heap.update l (Obj.mapSeq f),toks:=t' }:=by
 have q:=PySem.IsL.update e f;rw[F] at q;refine I.write (B▸trivial) (.inl rfl) (fun M u D G=>(BI s.heap (Obj.mapSeq f) (Ne.symm D)).trans G) ⟨_,q⟩ ?_;exact⟨L,its',_,J,q⟩
def Inv.lnew(I:Inv X pins σ H s)(B:Vals ys g)(D:ys.length<=sizeLine):
  Inv X pins σ (upd H s.heap.objs.size (.lst ys)) { s with heap:=s.heap.push { cls:=.type "list",data:=.seq g.toArray },toks:=t' } :=
 I.laid (fun _ _ q=>AE _ q) (AI _) ⟨D,g,0,B,AK _ rfl⟩
def Inv.fresh(I:Inv X pins σ H s):H s.heap.objs.size=none:=I.hok.fresh (AI _)
def Inv.lstM(I:Inv X pins σ H s)(q:H l=some (.lst xs)):xs.length<=sizeLine/\∃g n,Vals xs g/\xs.length=g.length/\s.heap.get? l=some { cls:=.type "list",data:=.seq g.toArray n }:=by
 obtain⟨z,g,n,r,e⟩:=I.hok l _ q;exact⟨z,g,n,r,r.length,e⟩
def YQ(h:n<=sizeLine):Builtin.List.listTooLong n=false :=AM (by lia)
end
section
variable {X:Cx}
def Kf:V->List V->Hp->VK->Prop:=fun x vs H Q=>∃l xs y,x=.ref l/\vs=[y]/\H l=some (.lst xs)/\xs.length < sizeLine/\Q .non (upd H l (.lst (xs++[y])))
def tO:MtM X "list.append" Kf:=by
 intro pins s σ H x vs v N Q I J G h;obtain⟨l,xs,y,rfl,rfl,g,M,q⟩:=h;cases J;obtain⟨u,rfl,D⟩:=G.one;obtain⟨z,B,n,r,L,e⟩:=I.lstM g;refine DW F.slot_list_append ⟨_,e,rfl⟩ F.entry_list_append (F.args_list_append_2 _ _) (PySem.list_append l B.toArray n u (by grind)) ⟨e,⟨.non,_,I.lset (its':=B++[u]) g e (by simp) (r.append (.cons D .nil)) ?_,rfl,q⟩⟩;rw[AQ,A3]
 lia
def Ke:V->List V->Hp->VK->Prop:=fun x vs H Q=>∃l b xs zs,x=.ref l/\vs=[.ref b]/\H l=some (.lst xs)/\H b=some (.lst zs)/\xs.length+zs.length<=sizeLine/\Q .non (upd H l (.lst (xs++zs)))
def oO:MtM X "list.extend" Ke:=by
 intro pins s σ H x vs v ab Q I S O h;obtain⟨l,b,xs,zs,rfl,rfl,D,J,Z,q⟩:=h;cases S;obtain⟨u,rfl,rfl⟩:=O.one;obtain⟨z,g,n,r,U,e⟩:=I.lstM D;obtain⟨z2,B,M,N,Y,G⟩:=I.lstM J;have hsz:g.toArray.size+B.toArray.size<=sizeLine :=by simp;lia
 have L:¬ (!g.toArray.isEmpty&&Builtin.List.listTooLong (g.toArray.size+B.toArray.size))=true:=by
  rw[YQ hsz,Bool.and_false];exact AR
 refine DW F.slot_list_extend ⟨_,e,rfl⟩ F.entry_list_extend (F.args_list_extend_2 _ _)
  (AutoSeq1.list_extend_list_list_0 l g.toArray n b B.toArray M L (by lia) (by lia)) ⟨e,G,?_⟩
 refine⟨.non,_,I.lset (its':=g++B) D e (by simp) (r.append N) ?_,rfl,q⟩;rw[AQ]
 lia
def rPop:V->List V->Hp->VK->Prop:=fun x vs H Q=>∃l xs y,x=.ref l/\vs=[]/\H l=some (.lst xs)/\xs[xs.length - 1]?=some y/\Q y (upd H l (.lst xs.dropLast))
def YU:MtM X "list.pop" rPop:=by
 intro pins s σ H x vs v U Q I N M h;obtain⟨l,xs,y,rfl,rfl,B,G,q⟩:=h;cases N;have D:=M.zero;subst D;obtain⟨z,g,n,r,O,e⟩:=I.lstM B;obtain⟨u,S,L⟩:=(r.get G);have J:g.toArray[g.toArray.size - 1]?=some u :=by grind
 refine DW F.slot_list_pop ⟨_,e,rfl⟩ F.entry_list_pop (F.args_list_pop_1 _) (MeetsSeq.list_pop_last l g.toArray n u J (by grind)) ⟨e,⟨y,_,I.lset (its':=g.dropLast) B e ?_ r.dropLast ?_,L,q⟩⟩
 .grind
 .grind
def rCat:R2:=fun x y H Q=>∃l b xs zs,x=.ref l/\y=.ref b/\H l=some (.lst xs)/\H b=some (.lst zs)/\xs.length+zs.length<=sizeLine/\∀p,H p=none->Q (.ref p) (upd H p (.lst (xs++zs)))
def op_cat:OpR X (binaryOp .Add) rCat:=by
 intro pins s σ H x y v u Q I M N h;obtain⟨l,b,xs,zs,rfl,rfl,J,G,U,q⟩:=h;cases M;cases N;obtain⟨z,g,n,r,O,e⟩:=I.lstM J;obtain⟨Z,B,Y,L,S,D⟩:=I.lstM G;refine PySem.P.add_list e D ?_ (by grind);have F:g.toArray++B.toArray=(g++B).toArray:=by simp
 exact F▸⟨.ref _,_,I.lnew (t':=s.toks) (r.append L) (by grind),rfl,q _ I.fresh⟩
end
section
variable {κ:Type}[DecidableEq κ]
noncomputable def gW(kvs:List (κ×V))(k:κ):Option V:=(kvs.find? fun g=>decide (g.1=k)).map (·.2)
noncomputable def yV(kvs:List (κ×V))(k:κ)(v:V):List (κ×V) :=
 if (kvs.any fun g=>decide (g.1=k))=true then kvs.map (fun g=>if g.1=k then (g.1,v) else g) else kvs++[(k,v)]
theorem gB{k:κ}(e:p.1=k):gW (p::r) k=some p.2 :=by simp_all[gW]
def bB{k:κ}(e:¬ p.1=k):gW (p::r) k=gW r k :=by simp_all[gW]
theorem nC k:∀kvs:List (κ×V),(kvs.any fun g=>decide (g.1=k))=(gW kvs k).isSome
 |[]=>rfl
 |p::r=>by
  rw[BN]
  by_cases e:p.1=k
  .simp only[gB e,decide_eq_true e,Bool.true_or,Option.isSome_some]
  .rw [bB e,AM e];exact nC k r
def pW kvs(k:κ)v:(yV kvs k v).length<=kvs.length+1 :=by grind[yV,List.length_map,List.length_append,List.length_cons,List.length_nil]
def RelO.isSome_eq(r:RelO o u):o.isSome=u.isSome:=by
 cases o with
 |none=>cases u with
  |none=>rfl
  |some _=>exact r.elim
 |some _=>cases u with
  |none=>exact r.elim
  |some _=>rfl
def RelO.getD(r:RelO o u)(g:RelV d d'):RelV (o.getD d) (u.getD d'):=by
 cases o with
 |none=>cases u with
  |none=>exact g
  |some _=>exact r.elim
 |some _=>cases u with
  |none=>exact r.elim
  |some _=>exact r
def KV.val(r:KV kvs vs)(k:κ):RelO (gW kvs k) (valueAt vs k):=by
 induction r with
 |nil=>exact True.intro
 |@cons p q ps qs h t B =>
  obtain⟨h1,h2⟩:=h
  by_cases e:p.1=k
  .have g:=h1.symm.trans e
   have b:valueAt (q::qs) k=some q.2:=by simp[valueAt,List.find?_cons,g]
   rwa [gB e,b]
  .have g:¬ q.1=k:=fun z=>e (h1.trans z)
   have b:valueAt (q::qs) k=valueAt qs k:=by simp[valueAt,List.find?_cons,g]
   rwa [bB e,b]
def KV.any(r:KV kvs vs)(k:κ):(kvs.any fun g=>decide (g.1=k))=vs.any fun g=>decide (g.1=k):=by
 induction r with
 |nil=>rfl
 |cons h t q=>rw[BN,BN,q,h.1]
def KV.repl(r:KV kvs vs)(k:κ)(D:RelV y u):
  KV (kvs.map fun g=>if g.1=k then (g.1,y) else g) (vs.map fun g=>if g.1=k then (g.1,u) else g):=by
 induction r with
 |nil=>exact .nil
 |@cons p q ps qs h t B =>
  refine .cons ?_ B;obtain⟨h1,h2⟩:=h
  by_cases e:p.1=k
  .lia
  .lia
def KV.put(r:KV kvs vs)(k:κ)(g:RelV y u):KV (yV kvs k y) (stored vs k u):=by
 delta yV stored
 rw[r.any k]
 by_cases e:(vs.any fun q=>decide (q.1=k))=true
 .rw [Ab e,Ab e];exact r.repl k g
 .rw [Ac e,Ac e];exact Paired.snoc r ⟨rfl,g⟩
def KV.length{vs:List (κ×Value)}(r:KV kvs vs):kvs.length=vs.length:=Paired.length r
end
def xE(r:RelV (kV k) u):(eQ P w).is k u=true:=by
 rcases k with (_ | i) | x
 .cases r;exact gI P w
 .obtain ⟨t,rfl⟩:=r;exact Xw P w i t
 .obtain ⟨t,rfl⟩:=r;exact Xv P w x t
theorem kE: ∀{g}{q},Vals (g.map kV) q->ItemsAre (eQ P w) g q
 |[],_,r=>by cases r;exact .nil
 |k::g,_,r=>by
  cases r with
  |cons h t=>exact .cons (xE h) (kE t)
abbrev KT(H:Hp):List (List Key×V)->List (List Key×Addr×Value)->Prop:=Paired fun p q=>p.1=q.1/\H q.2.1=some (.tup (p.1.map kV))/\RelV p.2 q.2.2
def KT.val(r:KT H kvs xs)k:RelO (gW kvs k) ((atKey xs k).map (·.2)):=by
 induction r with
 |nil=>exact True.intro
 |@cons p q ps qs h t B =>
  obtain⟨h1,_,h2⟩:=h
  by_cases e:p.1=k
  .have g:=h1.symm.trans e
   have b:atKey (q::qs) k=some q.2:=by simp[atKey,List.find?_cons,g]
   rwa [gB e,b]
  .have g:¬ q.1=k:=fun z=>e (h1.trans z)
   have b:atKey (q::qs) k=atKey qs k:=by simp[atKey,List.find?_cons,g]
   rwa [bB e,b]
def KT.repl(r:KT H kvs xs)k(F:RelV y u):
  KT H (kvs.map fun g=>if g.1=k then (g.1,y) else g) (xs.map (putAt k u)):=by
 induction r with
 |nil=>exact .nil
 |@cons p q ps qs h t B =>
  refine .cons (lT h fun h1 h2 D=>?_) B
  delta putAt
  by_cases e:p.1=k
  .lia
  .lia
def KT.put(r:KT H kvs xs)k(B:H b=some (.tup (k.map kV)))(g:RelV y u):
  KT H (yV kvs k y) (storedH xs k b u):=by
 have e:(kvs.any fun D=>decide (D.1=k))=(atKey xs k).isSome:=by
  rw[nC,(r.val k).isSome_eq,Option.isSome_map]
 delta yV storedH
 rw[e]
 by_cases q:(atKey xs k).isSome=true
 .rw [Ab q,Ab q];exact r.repl k g
 .rw [Ac q,Ac q];exact Paired.snoc r ⟨rfl,B,g⟩
def KT.keeps(r:KT H kvs xs)(g:∀b ys,H b=some (.tup ys)->H' b=some (.tup ys)):KT H' kvs xs :=
 Paired.mapP r fun _ _ z=>⟨z.1,g _ _ z.2.1,z.2.2⟩
section
variable {P:Program}{w:World}{H:Hp}{h:Heap}{a:Addr}
def rd_of(g:HOk P w H h)(e:Rd H a u):ObjOk P w H h a u:=e.ok g
def cE(g:HOk P w H h)(e:Rd H a (.dK kvs)):kvs.length<=sizeLine/\(a==sysModules)=false/\∃vs,KV kvs vs/\h.DictOf (eQ P w) a vs :=
 show ObjOk P w H h a (.dK kvs) from rd_of g e
def lE(g:HOk P w H h)(e:H a=some (.dK kvs)):kvs.length<=sizeLine/\(a==sysModules)=false/\∃vs,KV kvs vs/\h.DictOf (eQ P w) a vs:=cE g (.inl e)
def qM(D:HOk P w H h)(e:H a=some (.tup (B.map kV))):(tupleKind (eQ P w)).is h B a:=by
 obtain⟨_,q,r,o,h1,h2,⟨n,g⟩,_⟩:=(D a _ e);exact⟨o,q.toArray,n,h1,h2,g,by simpa using kE r⟩
def XW(D:HOk P w H h)(e:Rd H a (.dT kvs)):kvs.length<=sizeLine/\(a==sysModules)=false /\
  ∃xs,KT H kvs xs/\h.DictOfH (tupleKind (eQ P w)) a xs:=by
 obtain⟨z,y,xs,r,o,es,ep,h1,h2,G,I,J⟩:=(rd_of D e);refine⟨z,y,xs,r,o,es,ep,h1,h2,G,I,fun x g=>?_,J⟩
 have F:∀{l:List (List Key×V)}{m:List (List Key×Addr×Value)},KT H l m->∀x∈m,(tupleKind (eQ P w)).is h x.1 x.2.1:=by
  intro l m q
  induction q with
  |nil=>intro x g;exact nomatch g
  |@cons p q ps qs B t L =>
   intro x g
   rcases Ai.mp g with e | g
   .subst e
    exact qM D (B.1▸B.2.1)
   .exact L x g
 exact F r x g
def GI(g:HOk P w H h)(e:H a=some (.dT kvs)):kvs.length<=sizeLine/\(a==sysModules)=false /\
  ∃xs,KT H kvs xs/\h.DictOfH (tupleKind (eQ P w)) a xs:=XW g (.inl e)
end
def DGet(H:Hp)(a:Addr)(y:V)(r:Option V):Prop :=
 (∃kvs k,Rd H a (.dK kvs)/\y=kV k/\r=gW kvs k)\/∃kvs k b,Rd H a (.dT kvs)/\y=.ref b/\H b=some (.tup (k.map kV))/\r=gW kvs k
def DPut(H:Hp)(a:Addr)(y v:V)(H':Hp):Prop :=
 (∃kvs k,H a=some (.dK kvs)/\y=kV k/\kvs.length < sizeLine/\H'=upd H a (.dK (yV kvs k v))) \/
 ∃kvs k b,H a=some (.dT kvs)/\y=.ref b/\H b=some (.tup (k.map kV))/\kvs.length < sizeLine/\H'=upd H a (.dT (yV kvs k v))
theorem DGet.t{k}(e:H a=some (.dT kvs))(g:H b=some (.tup (k.map kV))):DGet H a (.ref b) (gW kvs k):=.inr ⟨kvs,k,b,.inl e,rfl,g,rfl⟩
theorem DPut.k{k}(e:H a=some (.dK kvs))(g:kvs.length < sizeLine):DPut H a (kV k) v (upd H a (.dK (yV kvs k v))):=.inl ⟨kvs,k,e,rfl,g,rfl⟩
theorem DPut.t{k}(e:H a=some (.dT kvs))(g:H b=some (.tup (k.map kV)))(q:kvs.length < sizeLine):
  DPut H a (.ref b) v (upd H a (.dT (yV kvs k v))):=.inr ⟨kvs,k,b,e,rfl,g,q,rfl⟩
section
variable {X:Cx}{pins:List (Addr×Obj)}{σ:St}{H:Hp}{s:Shared}{a:Addr}{y v:V}{u r:Value}{o:Option V}{A:Around}{E:Value->Shared->Prop}
def Inv.big(I:Inv X pins σ H s):sysModules < s.heap.objs.size :=Nat.lt_trans (by decide) ((I.mod.glob.keeps I.bk).lt)
def Wj(U:A.units+1 < cLine)(I:Inv X pins σ H s)(g:DGet H a y (some v))(L:RelV y u)(h:∀q s',Inv X pins σ H s'->RelV v q->Q q s'):
  wpAny (model X.prog X.w) A (getItem (.ref a) u) Q E s:=by
 rcases g with ⟨kvs,k,e,D,l⟩ | ⟨kvs,k,b,e,D,M,l⟩
 .subst D
  obtain⟨z,N,vs,G,B⟩:=cE I.hok e;exact sQ (RelO.some_of (l▸G.val k)) fun q F J=>wpAny_getItem_of (xE L) B.mapOf F (h q _ (I.tok _) J)
 .subst D
  cases L;obtain⟨z,N,xs,G,B⟩:=XW I.hok e;refine sQ (RelO.some_of (l▸G.val k)) fun q F J=>sQ (Option.map_eq_some_iff.mp F) fun p O S=>?_;exact wpAny_getItem_heap (tupleKind_room_in1 U) (qM I.hok M) B O (S▸h q _ (I.tok _) J)
def kC(I:Inv X pins σ H s)(F:Mut (H a))(hs:Heap.SameBut a s.heap h')(D:∃q,h'.get? a=some q)(G:ObjOk X.prog X.w (upd H a g) h' a g):
  Inv X pins σ (upd H a g) { s with heap:=h',toks:=t' } :=
 I.write F (.inl rfl) (fun b q B z=>(hs.2 b B).trans z) D G
def Jq(z:kvs.length<=sizeLine)(q:(a==sysModules)=false)(B:KV kvs vs)(g:h'.DictOf (eQ P w) a vs):
  ObjOk P w H' h' a (.dK kvs):=⟨z,q,vs,B,g⟩
def Wi(hu:A.units+1 < cLine)(I:Inv X pins σ H s)(g:DPut H a y v H')(Y:RelV y u)(U:RelV v r)(h:∀s',Inv X pins σ H' s'->Q () s'):
  wpAny (model X.prog X.w) A (setItem (.ref a) u r) Q E s:=by
 rcases g with ⟨kvs,k,e,L,l,J⟩ | ⟨kvs,k,b,e,L,O,l,J⟩
 .subst L J
  obtain⟨z,M,vs,B,G⟩:=lE I.hok e;have hz:vs.length<=sizeLine:=by rwa [<- B.length]
  have N:(yV kvs k v).length<=sizeLine:=by have:=pW kvs k v;lia
  refine wpAny_setItem_pairs (xE Y) G fun h' D hs=>h _ ?_;have ab:∃q,h'.get? a=some q:=let ⟨q,_,_,F,_⟩:=D;⟨q,F⟩
  exact kC I (e▸True.intro) hs ab (Jq N M (B.put k U) D)
 .subst L J
  cases Y;obtain⟨z,M,xs,B,G⟩:=GI I.hok e;have hz:xs.length<=sizeLine:=by rwa [<- Paired.length B]
  have N:(yV kvs k v).length<=sizeLine:=by have:=pW kvs k v;lia
  refine wpAny_setItem_heap (tupleKind_room_in1 hu) (qM I.hok O) G fun h' D hs=>h _ (GG D fun q es ep F h2 Z h4 _ h5=>kC I (e▸True.intro) hs ⟨q,F⟩ ⟨N,M,_,(B.put k O U).keeps fun c ys S=>?_,q,es,ep,F,h2,Z,h4,h5⟩);rw[uQ (Kv S e (fun z=>nomatch z))];exact S
end
section
variable {X:Cx}{pins:List (Addr×Obj)}{σ:St}{H:Hp}{s:Shared}{a:Addr}{kvs:List (Key×V)}{k:Key}{u:Value}{A:Around}{E:Value->Shared->Prop}
def d_len(I:Inv X pins σ H s)(e:Rd H a (.dK kvs))(h:∀t s',Inv X pins σ H s'->Q (.int kvs.length t) s'):wpAny (model X.prog X.w) A (call (.builtin "len") [.ref a]) Q E s:=by
 obtain⟨z,B,vs,g,q⟩:=cE I.hok e
 apply call_len_dict B q (by rw[<- g.length];rw[Cf] at z;lia)
 exact g.length▸h _ _ (I.tok _)
end
def JR(i:Expr):Prop:=∀q g,subscripted i false q g=operate [q,g] (getItem q g)
def Ka{id}(J:typeLookup (.type T) "__getitem__" = pure (some (.builtin id)))(hs:JR D)(h:wpAny (model prog w) A (eval value env) (fun o F=>wpAny (model prog w) A (eval D env) (fun i g=>g.TypeIs o T/\wpAny (model prog w) A (getItem o i) Q E g) E F) E s):
  wpAny (model prog w) A (eval (.Subscript value D pos) env) Q E s:=by
 refine Subscript_ (BQ h (fun o F L=>BQ L (fun i g B=>?_) fun _ _ x=>x) fun _ _ x=>x);obtain⟨I,B⟩:=B
 apply AA
 refine AA (A5 I J ?_);have q:wpAny (model prog w) A (subscripted D false o i) (fun r G=>wpAny (model prog w) A (letTemporaryGo value o r >>= fun _=>pure r) Q E G) E g :=(hs o i)▸wpAny_operating (BQ B (fun r G M=>AA (wpAny_letTemporaryGo (AD M))) fun _ _ x=>x)
 first
  |exact AD (AA q)
  |exact AA (AD (AA q))
  |exact AA q
def X0{σ:St}(I:Inv X pins σ H s)(g:DGet H a y o):s.TypeIs (.ref a) "dict":=by
 rcases g with ⟨kvs,k,e,_,_⟩ | ⟨kvs,k,b,e,_,_,_⟩
 .obtain ⟨_,_,vs,_,q⟩:=cE I.hok e
  exact q.typeIs
 .obtain ⟨_,_,xs,_,q⟩:=XW I.hok e
  exact q.typeIs
def tDGet(td ty:TE):TE:=fun σ H Q=>td σ H fun x H1=>ty σ H1 fun y H2=>∃a v,x=.ref a/\DGet H2 a y (some v)/\Q v H2
def sDPut(td ty tv:TE):TS:=fun D σ H=>tv σ H fun v H1=>td σ H1 fun x H2=>ty σ H2 fun y q=>∃a g,x=.ref a/\DPut q a y v g/\D.nx σ g
section
variable {X:Cx}{o i e value:Expr}{pos pos' tpos:Pos}{td ty tv:TE}
def sA(G:X.A.units+1 < cLine)(F:PE X o td)(hi:PE X i ty)(hs:JR i):PE X (.Subscript o i pos) (tDGet td ty):=by
 intro pins s σ H Q I h;refine Ka PySem.F.slot_dict_getitem.lookup hs (thn (F pins s σ H _ I h) fun u S Y=>vZ Y fun x H1 B N J=> thn (hi pins S σ H1 _ B J) fun Z ab U=>?_);obtain⟨y,H2,q,O,a,v,rfl,g,L⟩:=U;obtain rfl:u=Value.ref a:=N;exact⟨X0 q g,Wj G q g O fun w' ae D M=>⟨v,H2,D,M,L⟩⟩
def Kk(M:X.A.units+1 < cLine)(L:PE X o td)(hi:PE X i ty)(N:PE X value tv)(hs:swapsWith value (some (.Subscript o i pos')) pos.line X.env=pure false):
  PS X (.Assign [.Subscript o i pos'] value pos) (sDPut td ty tv):=by
 intro pins s σ H ag I h;refine wpAny_Assign_Subscript (thn (N pins s σ H _ I h) fun r ab q=>vZ q fun v H1 D Y O=> thn (L pins ab σ H1 _ D O) fun u ae q=>vZ q fun x H2 F Z S=> thn (hi pins ae σ H2 _ F S) fun iv ah zq=>?_) hs;obtain⟨y,H3,G,ry,a,B,rfl,g,U⟩:=zq;obtain rfl:u=Value.ref a:=Z;exact Wi M G g ry Y fun ai J=>⟨σ,B,J,U⟩
end
def GN(h:Heap)(g:sysModules < h.objs.size):ObjOk P w H (h.push { cls:=.type "dict",data:=.dict #[] }) h.objs.size (.dK []) :=
 ⟨AW _,beq_eq_false_iff_ne.mpr (Ne.symm (AY g)),[],.nil,Heap.DictOf.new h⟩
def eL(h:Heap)(g:sysModules < h.objs.size):ObjOk P w H (h.push { cls:=.type "dict",data:=.dict #[] }) h.objs.size (.dT []) :=
 ⟨AW _,beq_eq_false_iff_ne.mpr (Ne.symm (AY g)),[],.nil,_,#[],0,AK _ rfl,⟨rfl,rfl,rfl⟩,rfl,rfl,Bi⟩
def tDNewK:TE:=fun _ H Q=>∀p,H p=none->Q (.ref p) (upd H p (.dK []))
def tDNewT:TE:=fun _ H Q=>∀p,H p=none->Q (.ref p) (upd H p (.dT []))
section
variable {X:Cx}{pos:Pos}
def Yt:PE X (.Dict [] [] pos) tDNewK:=fun pins s σ H Q I h=>
 DO ⟨.ref s.heap.objs.size,_,I.laid (t':=s.toks) (fun _ _ q=>AE _ q) (AI _) (GN s.heap I.big),rfl,h _ (I.hok.fresh (AI _))⟩
def Ys:PE X (.Dict [] [] pos) tDNewT:=fun pins s σ H Q I h=>
 DO ⟨.ref s.heap.objs.size,_,I.laid (t':=s.toks) (fun _ _ q=>AE _ q) (AI _) (eL s.heap I.big),rfl,h _ (I.hok.fresh (AI _))⟩
end
def pA:List (TE×TE)->St->Hp->(List (V×V)->Hp->Prop)->Prop
 |[],_,H,Q=>Q [] H
 | (q,tv)::r,σ,H,Q=>q σ H fun x H1=>tv σ H1 fun y H2=>pA r σ H2 fun ps g=>Q ((x,y)::ps) g
abbrev VV:List (V×V)->List (Value×Value)->Prop:=Paired fun p q=>RelV p.1 q.1/\RelV p.2 q.2
def PPs(X:Cx)(pos:Pos)(keys:List (Option Expr))(values:List Expr)(g:List (TE×TE)):Prop :=
 ∀(pins:List (Addr×Obj))(s:Shared)(σ:St)(H:Hp)(Q:List (V×V)->Hp->Prop),Inv X pins σ H s->pA g σ H Q ->
  wpAny (model X.prog X.w) X.A (evalPairs (pairTrees keys values X.env pos)) (fun vs s'=>∃ps H',Inv X pins σ H' s'/\VV ps vs/\Q ps H') X.xe s
def pps_nil: PPs X pos [] [] []:=fun pins s σ H Q I h=>pairTrees_nil_walk ⟨[],H,I,.nil,h⟩
def Yi(G:PE X k tk)(L:PE X v tv)(J:PPs X pos M vs ag):
  PPs X pos (some k::M) (v::vs) ((tk,tv)::ag):=fun pins s σ H Q I h=>
 pairTrees_cons_walk (thn (G pins s σ H _ I h) fun u ab g=>vZ g fun x H1 B Y N=> thn (L pins ab σ H1 _ B N) fun w2 ae g=>vZ g fun y H2 D Z O=>
  thn (J pins ae σ H2 _ D O) fun ai ah g=>vZ g fun ps q F U S=> ⟨(x,y)::ps,q,F,.cons ⟨Y,Z⟩ U,S⟩)
def dU(kvs q:List (Key×V)):List (Key×V):=q.foldl (fun acc g=>yV acc g.1 g.2) kvs
def KV.merge:∀{g}{rs}{kvs}{vs},KV g rs->KV kvs vs->KV (dU kvs g) (merged vs rs):=by
 intro g rs kvs vs r
 induction r generalizing kvs vs with
 |nil=>intro q;exact q
 |@cons p q ps qs h t B =>
  intro D
  have e:KV (yV kvs p.1 p.2) (stored vs q.1 q.2):=by
   have:=D.put p.1 h.2
   rwa [<- h.1]
  exact B e
theorem dG:∀g kvs,(dU kvs g).length<=kvs.length+g.length
 |[],kvs=>by show kvs.length<=kvs.length+0;lia
 |p::r,kvs=>by
  have h1:=dG r (yV kvs p.1 p.2);have h2:=pW kvs p.1 p.2;show(dU (yV kvs p.1 p.2) r).length<=_;rw[AV];lia
structure M2(X:Cx)(o:Expr)(m:Str)(apos:Pos)(e f:Expr)(cpos:Pos):Prop where
 base:attributeBase o m X.env (eval o X.env)=eval o X.env
 few:((backTo cpos (starEach [e,f] X.env)).all (fun x=>!x.1)&&(backToKw cpos (keywordEach [] X.env)).all (fun x=>x.1.isSome)
  && decide (([e,f]:List Expr).length+([]:List Keyword).length+(if ([]:List Keyword).isEmpty then 0 else 1) < 30))=true
 line:(apos.endLine==cpos.line)=true
 trees:backTo cpos (starEach [e,f] X.env)=[(false,eval e X.env),(false,eval f X.env)]
def IsD(H:Hp)(a:Addr):Prop:=(∃kvs,Rd H a (.dK kvs))\/∃kvs,Rd H a (.dT kvs)
def isD_at{σ:St}(I:Inv X pins σ H s)(d:IsD H a):
  s.TypeIs (.ref a) "dict"/\(∀b,Value.ref a=.ref b->∃g,s.heap.get? b=some g/\g.dict=none)/\(a==sysModules)=false:=by
 rcases d with ⟨kvs,e⟩ | ⟨kvs,e⟩
 .obtain ⟨_,D,vs,_,B⟩:=cE I.hok e
  refine⟨B.typeIs,fun b q=>?_,D⟩;cases q;exact bT B fun g _ _ h1 h2 _=>⟨g,h1,h2.2.1⟩
 .obtain ⟨_,D,xs,_,B⟩:=XW I.hok e
  refine⟨B.typeIs,fun b q=>?_,D⟩;cases q;exact bT B fun g _ _ h1 h2 _=>⟨g,h1,h2.2.1⟩
section
variable {X:Cx}{pins:List (Addr×Obj)}{σ:St}{H:Hp}{s:Shared}{a:Addr}{y d:V}{u r:Value}{o:Option V}{A:Around}{E:Value->Shared->Prop}
def d_get2(N:A.units+1 < cLine)(I:Inv X pins σ H s)(g:DGet H a y o)(J:RelV y u)(G:RelV d r)(h:∀L s',Inv X pins σ H s'->RelV (o.getD d) L->Q L s'):
  wpAny (model X.prog X.w) A (call (.builtin "dict.get") [.ref a,u,r]) Q E s:=by
 rcases g with ⟨kvs,k,e,B,l⟩ | ⟨kvs,k,b,e,B,M,l⟩
 .subst B
  obtain⟨z,D,vs,F,q⟩:=cE I.hok e;exact Cz BL q.typeIs Cj (PySem.F.args_dict_get_3 _ _ _) (meets_dict_get_default (eQ X.prog X.w) a (xE J) D r) ⟨_,q.mapOf,h _ _ (I.tok _) (l▸(F.val k).getD G)⟩
 .subst B
  cases J;obtain⟨z,D,xs,F,q⟩:=XW I.hok e;exact Cz BL q.typeIs Cj (PySem.F.args_dict_get_3 _ _ _) (meetsH_dict_get_default (tupleKind (eQ X.prog X.w)) a b D r) ⟨tupleKind_room_in1 N,k,xs,qM I.hok M,q,h _ _ (I.tok _) (l▸(F.val k).getD G)⟩
end
def tDGet2(td ty tx:TE):TE:=fun σ H Q=>td σ H fun x H1=>∃a,x=.ref a/\IsD H1 a/\ty σ H1 fun y H2=>tx σ H2 fun z g=>∃o,DGet g a y o/\Q (o.getD z) g
section
variable {X:Cx}{o e f:Expr}{apos cpos:Pos}{td ty tx:TE}
def Xd(N:X.A.units+1 < cLine)(M:PE X o td)(J:PE X e ty)(L:PE X f tx)(m:M2 X o "get" apos e f cpos):PE X (.Call (.Attribute o "get" apos) [e,f] [] cpos) (tDGet2 td ty tx):=by
 intro pins s σ H Q I h;refine wpAny_Call_method m.base m.few m.line Bx BL Cp (thn (M pins s σ H _ I h) fun u ab zq=>?_);obtain⟨x,H1,q,Z,a,rfl,d,O⟩:=zq;obtain rfl:u=Value.ref a:=Z
 exact lT (isD_at q d) fun ag t2 _=>⟨ag,t2,m.trees▸Cm rfl (Dk (Calls.spliced_cons (thn (J pins ab σ H1 _ q O) fun iv ae zz=>vZ zz fun y H2 D ry S=>
  Calls.spliced_cons (thn (L pins ae σ H2 _ D S) fun fv ah ⟨z,B,F,rz,ov,g,U⟩=>Calls.spliced_nil (d_get2 N F g ry rz fun w' ai G Y=>⟨_,B,G,Y,U⟩)))))⟩
end
end L2
namespace Att
open PySem PySem.W PySem.Calls PyProof.Rows
def nN: ∀ns vs,WellAll P h vs (ns.map WData.int)->IntsAre vs ns:=by
 intro ns
 induction ns with
 |nil =>
  intro vs w;cases w;exact .nil
 |cons n ns g =>
  intro vs w
  cases w with
  |cons a b =>
   cases a;exact .cons _ _ (g _ b)
def VB{l:OpenLaw}(M:l.most=some n)(G:l.row.toRowW.claim.pre g=true)(O:WellAll P h U g):
  ∃a vs ns,U=[Value.ref a]/\g=[WData.list (ns.map WData.int)]/\h.get? a=some { cls:=.type "list",data:=.seq vs.toArray }/\IntsAre vs ns/\ns.length<=n:=by
 have F:l.pre.holds [] { args:=g }=true:=(pre_splitW G).2;obtain⟨d,r,rfl,h1,h2⟩:=hasAllW_cons ((pre_splitW G).1);obtain rfl:=hasAllW_nil h2;obtain⟨xs,rfl,I⟩:=hasW_list h1;obtain⟨ns,rfl⟩:=items_int I
 have L:ns.length<=n:=by
  delta OpenLaw.pre at F
  have D:(WTm.not (.lt (.lit (.int (n:Int))) (.len (.arg 0)))).holds [] { args:=[.list (ns.map .int)] }=true:=by
   have D:=(holds_andW F).1
   rwa [M] at D
  have B:=condW_of D (w_not (w_lt w_lit (w_len_list (w_arg rfl))));rw[AC] at B;refine Nat.le_of_not_lt fun q=>?_;have S:(n:Int) < ((ns.length:Nat):Int):=by omega
  first
   | (rw[Af S] at B;exact absurd B (by decide))
   | (simp at B;lia)
 cases O with
 |cons Y Z =>
  cases Z
  cases Y with
  |list N J=>exact⟨_,_,ns,rfl,rfl,N,nN ns _ J,L⟩
def VH(l:OpenLaw)g:l.row.toRowW.claim.post g (.bool true) g=true :=
 postW_of
  (show WShape.has [] (.bool true) .bool=true by first | rfl | decide | simp[ WShape.arms])
  (w_eq_bool (w_res rfl) w_lit) rfl
def attach_call{l:OpenLaw}(hn:l.most=some n)(ag:d.params.defaults=[])(S:∀w L g mg I B o J D F a vs ns,
   Ground q av [] N w L mg I g.heap->O w g.heap ->
   g.heap.get? B=some o->o.data=.func (docDef d.name d.params d.body d.scope J D F)->g.heap.CodeRec D d.name->mg d.name=some (.ref B) ->
   g.heap.get? a=some { cls:=.type "list",data:=.seq vs.toArray }->IntsAre vs ns->ns.length<=n->g.gens = #[] ->
   codeAny (model l.prog w) callerA (.call (.ref B) ⟨[.ref a],[]⟩) (fun r s'=>r=.ok (.ret (.bool true))/\OldK g.heap s'.heap/\s'.os=g.os/\AllBare s'.gens) g):
  WalkO q av N O l.row.toRowW d [] (fun f vs=>PySem.call f vs):=by
 intro w L g mg I G Y B o J D F U au ho ae ab M ak hg aw a0 as aq ax az ar ay;obtain rfl:U=.none:=Dflts.none M ag;obtain rfl:au=.none:=Dflts.noKw M;obtain⟨a,vs,ns,rfl,rfl,ao,ah,ai⟩:=VB hn aq ar;refine enter_call (DV (S w L g mg I B o J D F a vs ns G Y ho (fd_plain ae) ab ak ao ah ai hg) fun r s' hq=>?_);obtain⟨rfl,h2,Z,h4⟩:=hq
 exact⟨.inl ⟨.bool true,.bool true,[],rfl,fun _=>rfl,.bool true,VH l _,fun _=>⟨List.Pairwise.nil,fun _ aj=>(nomatch aj)⟩⟩,h2,Z,h4⟩
end Att
namespace L2
open PySem PySem.Spec PyProof.Rows
theorem kO:∀{vs}{ns},IntsAre vs ns->Vals (ns.map V.int) vs
 |_,_,.nil=>.nil
 |_,_,.cons n t h=>.cons ⟨t,rfl⟩ (kO h)
def Only(H:Hp):Prop:=∀b,H b=none\/∃o xs,H b=some (.frz o (.lst xs))
def Y4{K}(J:K.In g.heap)(Z:g.heap.Ns mainGlobals mg)(B:g.heap.Ns builtinsNs mb)(aj:∀x:Str,x ≠ "__name__"->mb x=bootBuiltins x)(ao:g.heap.NoLimit)(hg:g.gens = #[])(D:g.heap.get? a=some { cls:=.type "list",data:=.seq vs.toArray })(hi:IntsAre vs ns)(Y:ns.length<=sizeLine)(hr:Room k callerA)(ag:∀base:Heap,K.In base->base.Ns mainGlobals mg->FnOk P w K mg base CX k O fd [x] sp)(ak:∀(s:Shared)(u:Value),BindsTo s fd ⟨[u],[]⟩ [(x,u)])(ar:∀H:Hp,Only H->SqL K H a (ns.map V.int)->sp [.ref a] H (fun v _=>v=.bl true) fun _ _ _=>False)(ai:∀H e s',CX [] H g (fun _ _ _=>False) e s'->False):
  codeAny (model P w) callerA (.call (.ref O) ⟨[.ref a],[]⟩) (fun r s'=>r=.ok (.ret (.bool true))/\OldK g.heap s'.heap/\s'.os=g.os/\AllBare s'.gens) g:=by
 have rv:=kO hi
 have M:∀H:Hp,Only H->SqL K H a (ns.map V.int)->HOk P w H g.heap->(∀b,H b≠none->b=a)->(H a≠none->K.lookup a=none) ->
   codeAny (model P w) callerA (.call (.ref O) ⟨[.ref a],[]⟩) (fun r s'=>r=.ok (.ret (.bool true))/\OldK g.heap s'.heap/\s'.os=g.os/\AllBare s'.gens) g:=by
  intro H U hS ab hA aw;have L:∀{b:Addr}{o:Obj},g.heap.get? b=some o->H b=none->(XJ g.heap H).get? b=some o:=fun e n=>Gh e n
  have au:∀{b:Addr}{o:Obj}{es:Array DictEntry}{ep:Nat},g.heap.get? b=some o->o.data=.dict es ep->H b=none:=fun {b o es ep}e d=>by
   cases q:H b with
   |none=>rfl
   |some u =>
    have e':=hA b (by lia);subst e';rw[D] at e;cases e
    cases d
  have F:∀{b:Addr}{m:Str->Option Value},g.heap.Ns b m->(XJ g.heap H).Ns b m:=fun {b m}zz=>bT zz fun o es ep e d r=> ⟨o,es,ep,L e (au e d),d,r⟩;have S:K.In (XJ g.heap H):=fun b o e=>L (J b o e) (by grind);have e0:Env0 P w K mg (XJ g.heap H) callerA [] g H:=⟨rfl,(⟨S,F Z,⟨mb,F B,aj⟩,let ⟨mc,h1,h2⟩:=ao;⟨mc,F h1,h2⟩⟩),fun b o e=>of_hidT e,CM (We _ _),trivial,fun b B=>absurd (show b∈([]:List Addr) from B) (by simp),ab,.of_eq hg⟩
  refine DV ((ag _ S (F Z)).run callerA [] g H ⟨[.ref a],[]⟩ [.ref a] [.ref a] _ _ hr e0 (ak g (.ref a)) (.cons rfl .nil) (ar H U hS)) fun r s' h=>?_
  cases r with
  |error e=>exact(ai H e s' h).elim
  |ok fl =>
   cases fl with
   |next=>exact False.elim h
   |brk=>exact False.elim h
   |cont=>exact False.elim h
   |ret u =>
    refine PL h fun v H' av ah ae aq r' q=>?_;subst q;obtain rfl:u=Value.bool true:=r';refine⟨rfl,OldK.of_keep fun b o e=>?_,av,ah⟩
    cases q:H b with
    |none=>exact ae.keep b o e q (by intro z;exact absurd (show b∈([]:List Addr) from z) (by simp)) (by simp)
    |some u =>
     rcases U b with z | ⟨ob,xs,z⟩
     .lia
     .obtain ⟨N,_⟩:=ab b _ z
      obtain⟨e2,_⟩:=aq b _ (ae.frzs b ob _ z);rw[e] at N;cases N
      exact e2
 cases G:K.lookup a with
 |some o =>
  have e:=J a o G;rw[D] at e;cases e;refine M (fun _=>none) (fun _=>.inl rfl) (.inr ⟨_,vs.toArray,_,G,rfl,rfl,rfl,by rw[Am,hi.length];exact Y,by simpa using rv⟩) (fun b u z=>by have I:=z;cases I) (fun b z=>absurd rfl z) fun z=>absurd rfl z
 |none =>
  refine M (fun b=>if b=a then some (.frz { cls:=.type "list",data:=.seq vs.toArray } (.lst (ns.map V.int))) else none) (fun b=>?_) (.inl (.inr ⟨{ cls:=.type "list",data:=.seq vs.toArray },Ab rfl⟩)) (fun b u z=>?_) (fun b z=>?_) fun _=>G
  .grind
  .by_cases B:b=a
   .have I:=(Ab B).symm.trans z
    cases I;subst B;exact⟨D,by rw[AC];exact Y,vs,_,rv,D⟩
   .lia
  .lia
def walk_of{l:PySem.W.OpenLaw}{K:Params->Dl}{CX:World->CXT}{sp:World->Sp}(hn:l.most=some n)(ag:n<=sizeLine)(U:d.params.defaults=[])(hr:Room k callerA)(O:∀(w:World)(h:Heap),I w h->(K w.params).In h)(F:∀(w:World)(mg:Str->Option Value)(g:Addr)(h:Heap),(K w.params).In h->h.Ns mainGlobals mg->mg d.name=some (.ref g) ->
   ∃fd:FuncData,(∀(s:Shared)(u:Value),BindsTo s fd ⟨[u],[]⟩ [(x,u)]) /\
    ∀base:Heap,(K w.params).In base->base.Ns mainGlobals mg->FnOk l.prog w (K w.params) mg base (CX w) k g fd [x] (sp w))(ai:∀(w:World)(H:Hp)(a:Addr)(ns:List Int),ns.length<=n->Only H->SqL (K w.params) H a (ns.map V.int)->sp w [.ref a] H (fun v _=>v=.bl true) fun _ _ _=>False)(J:∀(w:World)(H:Hp)(s:Shared)(e:Value)(s':Shared),CX w [] H s (fun _ _ _=>False) e s'->False):
  PySem.W.WalkO q au XP I l.row.toRowW d [] (fun f vs=>PySem.call f vs):=by
 refine Att.attach_call hn U fun w aw aj mg mb g o av ak ao a vs ns G Y ho ar aq ae ah ab D Z=>?_;have B:=O w _ Y;exact sQ (F w mg g _ B G.T.g ae) fun fd S L=>Y4 B G.T.g G.T.b G.T.builtins G.T.nolimit Z ah ab (Ad D ag) hr L S (fun H M N=>ai w H a ns D M N) fun H e s'=>J w H aj e s'
noncomputable def jV(s:Stmt)(j:Nat):Stmt:=match s with
 |.ClassDef _ _ _ g _ _ _ _ _ _ _=>g.getD j (.Pass ⟨0,0,0,0⟩)
 |_=>.Pass ⟨0,0,0,0⟩
noncomputable def kG(s:Stmt):Arguments:=match s with
 |.FunctionDef _ a _ _ _ _ _ _ _ _=>a
 |_=>{ posonlyargs:=[],args:=[],vararg:=none,kwonlyargs:=[],kw_defaults:=[],kwarg:=none,defaults:=[] }
def xV(s:Stmt):List Stmt:=match s with
 |.FunctionDef _ _ b _ _ _ _ _ _ _=>b
 |_=>[]
noncomputable def yX(s:Stmt):Scope:=match s with
 |.FunctionDef _ _ _ _ _ _ sc _ _ _=>sc
 |_=>{ kind:=.function,names:=[],isGenerator:=false,isCoroutine:=false }
abbrev CX0:CXT:=fun _ _ _ _ _ _=>False
abbrev E0:XK:=fun _ _ _=>False
def lO: wW CX0 X E0:=fun _ _ _ _ _ _ _ h=>h.elim
structure Fun(K:Dl)(x qual:Str)(st:Stmt)(f:Addr)(fd:FuncData):Prop where
 ex:∃(oc:Value)(od:Option Addr)(kV doc pm:Value)(an:Option Addr)(cdv ct:Value)(osl:Array (Option Value)),
  fd=PySem.W.fnOf x qual (kG st) (xV st) (yX st) .none kV doc pm an cdv ct/\K.lookup f=some ⟨oc,od,.func fd,osl⟩/\PySem.W.codeIn K cdv qual=true
 kp:PySem.W.keepIn K (.ref f)=true
section
variable {P:Program}{w:World}{K:Dl}{mg:Str->Option Value}{base:Heap}
theorem Fun.ok{st}(F:Fun K x D st f fd)(S:FnScope N ps (yX st))(M:∀vs H Q E,sp vs H Q E->vs.length=ps.length)(G:∀g A B s H vs Q E,Room k (A.deeper (envOfC D (yX st) s.heap.objs.size f g))->sp vs H Q E ->
   ∃t,PSs (Qa CX0 P w K mg base N D (yX st) f g A B s H E).nox (xV st) t/\t { nx:=fun _ H'=>Q .non H',rt:=Q } (start N vs) H):FnOk P w K mg base CX0 (k+1) f fd ps sp:=by
 obtain⟨oc,od,ab,Z,ag,U,g,Y,ae,rfl,O,I⟩:=F.ex;exact fn_of O I S M fun A B s H vs Q E J L=>sQ (G g A B s H vs Q E J L) fun t h q=>⟨t,h.nox,q⟩
def Fun.binds{st}(F:Fun K x L st f fd)(h:∀(G D I:Value)(g:Option Addr)(q B:Value)(J:List Value),J.length=ps.length->bindArgs (PySem.W.fnOf x L (kG st) (xV st) (yX st) .none G D I g q B) ⟨J,[]⟩=pure (ps.zip J)):Binds K fd ps []:=by
 obtain⟨O,S,G,D,I,g,q,B,U,rfl,N,M⟩:=F.ex;exact .all (h G D I g q B)
def aI{st}{B D g q}(l:K.lookup f=some ⟨J,L,.func (PySem.W.fnOf x F (kG st) (xV st) (yX st) .none B I D G g q),M⟩)(c:PySem.W.codeIn K g F=true)(k:PySem.W.keepIn K (.ref f)=true):Fun K x F st f (PySem.W.fnOf x F (kG st) (xV st) (yX st) .none B I D G g q):=⟨⟨J,L,B,I,D,G,g,q,M,rfl,l,c⟩,k⟩
end
def yK(g:Room k A):A.units+1 < cLine:=Ah (Nat.add_le_add_left (by lia) _) g.units
section
variable {X:Cx}
def pv i{pos}(g:X.N[i]?=some x:=by rfl)(D:Vis X.env.scope x:=by first | exact Or.inl rfl | exact Or.inr (Or.inl rfl) | exact Or.inr (Or.inr rfl))(B:(x==("__debug__" : Str))=false:=by decide)(q:(x==("__classdict__" : Str))=false:=by decide):PE X (.Name x pos) (tVar i):=Yo g D B q
end
def Same(H H':Hp):Prop:=∀b o,H b=some o->H' b=some o
def Same.refl H:Same H H:=fun _ _ h=>h
section
variable {X:Cx}
def Ws:CallR X (.builtin "len") (fun xs H Q=>∃a kvs,xs=[V.ref a]/\H a=some (.dK kvs)/\Q (.int kvs.length) H):=by
 intro pins s σ H xs D Q I r h;obtain⟨a,kvs,rfl,B,q⟩:=h;obtain⟨u,rfl,rfl⟩:=zB r;exact d_len I (.inl B) fun t s' g=>⟨.int kvs.length,H,g,⟨t,rfl⟩,q⟩
end
def kX:Expr->Bool
 |.Starred _ _=>false
 |_=>true
def iZ(h:kX e=true):starEach (e::es) env=(false,eval e env)::starEach es env:=by
 cases e<;>first | rfl | exact absurd h AR
theorem bW: ∀{es},es.all kX=true->(backTo pos (starEach es env)).any (·.1)=false
 |[],_=>rfl
 |e::es,h=>by
  rw[Cs,BJ] at h;rw[iZ h.1];show(false || (backTo pos (starEach es env)).any (·.1))=false;rw[bW h.2]
  rfl
section
variable {X:Cx}{e:Expr}{es:List Expr}{te:TE}{t:TA}{x:Str}{p pos:Pos}
def vf(g:PE X e te)(q:PA X es t)(hs:kX e=true:=by rfl):PA X (e::es) (WV te t):=pa_cons g q (iZ hs)
def vd(F:FnOk X.prog X.w X.K X.mg X.base CX k f fd ps sp)(M:Room k X.A)(I:Gl X x)(L:X.mg x=some (.ref f))(J:PySem.W.keepIn X.K (.ref f)=true)(B:Binds X.K fd ps ds)(D:Vals dvs ds)(N:wW CX X E)(g:PA X (e::es) t)(G:(x==("__debug__" : Str))=false:=by decide)(hs:kX e=true:=by rfl)(q:es.all kX=true:=by rfl):PE X (.Call (.Name x p) (e::es) [] pos) (WW sp dvs E t) :=
 pe_call F M I L J B D N g G (iZ hs) (bW q)
def W8{id}(B:CallR X (.builtin id) r)(F:Gl X x)(G:X.mg x=none)(J:bootBuiltins x=some (.builtin id))(g:PA X (e::es) t)(I:x ≠ "__name__":=by decide)(D:(x==("__debug__" : Str))=false:=by decide)(hs:kX e=true:=by rfl)(q:es.all kX=true:=by rfl):PE X (.Call (.Name x p) (e::es) [] pos) (tCB r t):=Yx B F G J g I D (iZ hs) (bW q)
def VF(B:CallR X (.type T) r)(F:Gl X x)(G:X.mg x=none)(J:bootBuiltins x=some (.type T))(g:PA X (e::es) t)(I:x ≠ "__name__":=by decide)(D:(x==("__debug__" : Str))=false:=by decide)(hs:kX e=true:=by rfl)(q:es.all kX=true:=by rfl):PE X (.Call (.Name x p) (e::es) [] pos) (tCB r t):=VJ B F G J g I D (iZ hs) (bW q)
end
section
variable {prog:Program}{w:World}{A:Around}{R:Result->Shared->Prop}{s:Shared}
def Qg(I:Nat->Shared->Prop)(ae:∀n s,I n s->wpAny (model prog w) A (pyNext it) (fun r q=>match r with
   |none=>R (.ok .next) q
   |some v=>wpAny (model prog w) A (letOwnedTupleGo M it v) (fun _ q=>wpAny (model prog w) A (assign M env v) (fun _ G=>
     wpAny (model prog w) A (forIn ab true fun c r=>if r=true then do let g <- isTrue c env (eval c env);pure (ForInStep.yield g) else pure (ForInStep.yield r)) (fun g B=>
      if g=true then wpAny (model prog w) A (eval N env) (fun x J=>
       wpAny (model prog w) A (call (.builtin "list.append") [acc,x]) (fun _ L=>∃m,m < n/\I m L) (fun _ _=>False) J) (fun _ _=>False) B
      else ∃m,m < n/\I m B) (fun _ _=>False) G) (fun _ _=>False) q) (fun _ _=>False) q) (fun _ _=>False) s)n(h:I n s):
  codeAny (model prog w) A (.compLoop (.ListComp N [⟨M,ag,ab,0⟩] ah pos) 0 it acc env) R s:=by
 refine codeAny_loop rfl I (fun n s O=>wpAny_noted (AA (wpAny_standAt (AA (BQ (ae n s O) (fun r q D=>?_) fun _ _ h'=>False.elim h'))))) n h
 cases r with
 |none=>exact AD D
 |some v =>
  refine AA (BQ D (fun _ ai S=>AA (BQ S (fun _ G U=>AA (BQ U (fun g B F=>?_) fun _ _ h'=>False.elim h')) fun _ _ h'=>False.elim h')) fun _ _ h'=>False.elim h')
  cases g with
  |false=>exact AD ⟨rfl,F⟩
  |true =>
   exact AA (AA (BQ F (fun x J Y=>AA (BQ Y (fun _ L Z=>AD (AD ⟨rfl,Z⟩)) fun _ _ h'=>False.elim h')) fun _ _ h'=>False.elim h'))
end
theorem bV{env:Env}:∀{B:List (Str×NameKind)}{y:Str}{k:NameKind},
  (B.map fun(n,k)=>if (k==NameKind.free&&env.scope.kind==.function&&env.kindOf n==some .cell) then (n,NameKind.cell) else (n,k)).lookup y=some k ->
   ∃g,(y,g)∈B/\(k=g\/(g=.free/\k=.cell))
 |[],_,_,h=>by simp at h
 | (n,D)::r,y,k,h=>by
  cases G:y==n with
  |true =>
   by_cases F:(D==NameKind.free&&env.scope.kind==.function&&env.kindOf y==some .cell)=true
   .grind
   .grind
  |false =>
   have h2:(r.map fun(n,k)=>if (k==NameKind.free&&env.scope.kind==.function&&env.kindOf n==some .cell) then (n,NameKind.cell) else (n,k)).lookup y=some k :=by grind
   exact sQ ((@bV env r y k) h2) fun g m q=>⟨g,AJ _ m,q⟩
def WB(X:Cx)(g:List Expr)(t:TT):Prop :=
 ∀(pins:List (Addr×Obj))(s:Shared)(σ:St)(H:Hp)(Q:Bool->Hp->Prop),Inv X pins σ H s->t σ H Q ->
  wpAny (model X.prog X.w) X.A (forIn g true fun c r=>if r=true then do let q <- isTrue c X.env (eval c X.env);pure (ForInStep.yield q) else pure (ForInStep.yield r)) (TP X pins σ Q) X.xe s
def Sx:TT:=fun _ H Q=>Q true H
def Yl: WB X [] Sx:=fun _ _ _ H _ I h=>wpAny_tests_nil ⟨H,I,h⟩
def Yk(h:PT X c t):WB X [c] t:=fun pins s σ H Q I g=>wpAny_tests_one (h pins s σ H Q I g)
noncomputable def kh(X:Cx)(xs:List Str)(D:Scope)(q:List (Str×Addr))(B:List Addr)(C:Addr)(F:Shared)(g:Hp):Cx where
 prog:=X.prog
 w:=X.w
 K:=X.K
 mg:=X.mg
 base:=X.base
 A:=X.A
 N:=xs++X.N
 s₀:=F
 H₀:=g
 env:=compEnvC D q C X.env
 outer:=X.stack
 stack:=X.stack
 ex:=B
 fn:=fun _=>false
 calm:=X.calm
 pn:=[]
 xe:=fun _ _=>False
abbrev aJ X x:=kh X [x]
def QV(B:TI)(tc:TT)(te:TE):TE:=fun σ H Q=>B σ H fun J H1=>∀D,H1 D=none->∃W:Nat->Nat->List V->Hp->Prop,(∃m,W 0 m [] (upd H1 D (.lst [])))/\∀i m ys H,W i m ys H ->
 (J.stop i H/\Q (.ref D) H)\/(J.go i H/\∀x H',J.yld i H x H'->tc (some x::σ) H' fun b H2=>
  if b=true then te (some x::σ) H2 fun y q=>q D=some (.lst ys)/\ys.length < sizeLine/\∃g,g < m/\W (i+1) g (ys++[y]) (upd q D (.lst (ys++[y])))
  else ∃g,g < m/\W (i+1) g ys H2)
section
variable {X:Cx}
structure vV(X:Cx)(xs:List Str)(scope:Scope)(cl:List (Str×Addr)):Prop where
 clos:closureFor scope X.env=pure cl
 cell:∀y∈scope.names,y.2≠.cell
 kind:scope.kind=.function
 names:∀y∈scope.names,y.2=.local->scope.names.lookup y.1=some .local
 hx:∀x∈xs,scope.names.lookup x=some .local
 loc:∀y∈scope.names,y.2=.local->y.1∉X.N
 free:∀y∈scope.names,y.2=.free->X.env.kindOf y.1≠some .local/\(X.env.kindOf y.1=some .cell\/X.env.kindOf y.1=some .free)/\∃c,cl.lookup y.1=some c
 cl:∀y c,cl.lookup y=some c->X.env.cells.lookup y=some c
abbrev qB X x:=vV X [x]
def wG{te:TE}{g:TG}{Tk:V->Hp->List V->Prop}{RR:Value->Addr->Result->Shared->Prop}{EE:Value->Shared->Prop}(hc:X.calm=true)(K:vV X xs M O)(hg:∀L C B G,PG (kh X xs M O L C B G) tg g)(ht:∀L C B G,WB (kh X xs M O L C B G) a7 tc)(b0:∀L C B G,PE (kh X xs M O L C B G) az te){pins:List (Addr×Obj)}{σ:St}{B:Shared}{G:Hp}{it:Addr}{L:List Addr}{tn:Nat->Heap->Prop}{J:It}{Q:VK}(hG:∀bg vs x H Q,bg.length=xs.length->Tk x H vs->vs.length=xs.length->Q (vs.map some++σ) H->g x (bg++σ) H Q)(I:Inv X pins σ G B)(T:Zi X.prog X.w X.K tg J L it tn)(bc:tn 0 B.heap)(Y:∀b∈L,Zo X pins G b)(R:∀D,G D=none->∃W:Nat->Nat->List V->Hp->Prop,(∃m,W 0 m [] (upd G D (.lst [])))/\∀i m ys H,W i m ys H ->
   (J.stop i H/\Q (.ref D) H)\/(J.go i H/\∀x H',J.yld i H x H'->∃vs,Tk x H' vs/\vs.length=xs.length/\tc (vs.map some++σ) H' fun b H2=>
    if b=true then te (vs.map some++σ) H2 fun y H3=>H3 D=some (.lst ys)/\ys.length < sizeLine/\∃U,U < m/\W (i+1) U (ys++[y]) (upd H3 D (.lst (ys++[y])))
    else ∃U,U < m/\W (i+1) U ys H2))(bw:∀(D C:Addr)(H:Hp)(Z:Shared)(m:Str->Option Value),Z.heap.Ns C m->C≠X.env.locals->H C=none->(∀x c,X.env.cells.lookup x=some c->c≠C)->B.heap.objs.size<=C->Inv X pins σ H Z ->
   Q (.ref D) H->RR (.ref D) C (.ok .next) Z):
  wpAny (model X.prog X.w) X.A (newList []) (fun acc aj=>wpAny (model X.prog X.w) X.A (newFunctionEnv M X.env.globals O [] X.env.qual none .none (some X.env)) (fun ay cn=>
   codeAny (model X.prog X.w) X.A (.compStart (.ListComp az [⟨tg,b3,a7,0⟩] M pos) 0 (.ref it) acc { ay with scope:=relabel M X.env }) (RR acc ay.locals) cn) EE aj) EE B:=by
 refine Aw (wpAny_newFunctionEnv K.cell (by intro y hy;simp at hy) (fun ao au ak=>?_) K.kind);dsimp only at au ak ⊢;generalize ar:B.heap.push { cls:=.type "list",dict:=none,data:=.seq ([]:List Value).toArray }=H2 at au ak ⊢;have hC:H2.objs.size=B.heap.objs.size+1:=by rw[<- ar,B1]
 have a5:B.heap.objs.size≠H2.objs.size :=hC▸AY (Bf _);have ag:∀b,b < B.heap.objs.size->b≠H2.objs.size/\b≠B.heap.objs.size:=fun b F=>⟨by exact hC▸AY (Nat.lt_succ_of_lt F),AY F⟩;have ai:∀b o,B.heap.get? b=some o->ao.get? b=some o:=fun b o e=>ak.extBut b o (ag b (AH e)).1 (AE _ (ar▸AE _ e));have fD:=I.hok.fresh (AI _)
 have fC:G H2.objs.size=none:=I.hok.fresh (hC▸Cg _);have a0:∀b∈L,b < B.heap.objs.size:=fun b F=>let ⟨o,e,_⟩:=T.obj _ _ bc b F;AH e
 obtain⟨W,⟨b5,w0⟩,cp⟩:=R B.heap.objs.size fD
 have aq:(kh X xs M O L H2.objs.size B G).Ok:=by
  refine⟨I.ok.mod,K.kind,I.ok.glob,I.ok.blt,?_,fun y z c h1 h2=>I.ok.inj y z c (K.cl y c h1) (K.cl z c h2),fun y hy=>?_,fun y c h _=>?_,I.ok.hd,I.ok.frames,.inl rfl,fun b F=>⟨(ag b (a0 b F)).1,fun y c h=>(Y b F).2.2.2.2.1 y c (K.cl y c h)⟩,I.bs,
   Ad I.ok.bsz I.sz,fun b o e F=>?_,fun b F z=>?_,I.stack,I.stkFree⟩
  .exact hC▸Cg _
  .have bp:(y,NameKind.free)∈M.names:=by
    rcases hy with q | q
    .obtain ⟨k0,N,z | ⟨z,_⟩⟩:=bV q
     .subst z;exact absurd rfl (K.cell _ N)
     .subst z;exact N
    .obtain ⟨k0,N,z | ⟨z,w⟩⟩:=bV q
     .subst z;exact N
     .cases w
   exact(K.free _ bp rfl).2.2
  .exact absurd h AR
  .refine bH (Y b F) fun _ _ _ f3 _=>?_
   rcases f3 with z | z
   .exact I.ok.noex b o e z
   .exact absurd (AZ (AH (I.ok.bs b o e).1) z) (A8 _)
  .refine cT (Y b F) fun _ bj bl _=>?_
   rcases Ai.mp (I.stkSub b z) with q | q
   .exact bj q
   .exact bl q
 have cw:∀b,G b≠none->b≠B.heap.objs.size:=fun b F z=>F (z▸fD);have b4:HOk X.prog X.w (upd G B.heap.objs.size (.lst [])) ao:=I.hok.laid ai (AI _) ⟨AW _,[],_,.nil,(ak.extBut _ _ a5 (AE _ (ar▸AK _ rfl)))⟩
 have cq:∀y,Vis (relabel M X.env) y->y∈X.N->(y,NameKind.free)∈M.names/\((relabel M X.env).names.lookup y=some .cell\/(relabel M X.env).names.lookup y=some .free):=by
  intro y hv b2
  rcases hv with q | q | q
  .obtain ⟨k0,N,z | ⟨z,w⟩⟩:=bV q
   .subst z;exact absurd b2 (K.loc _ N rfl)
   .cases w
  .obtain ⟨k0,N,z | ⟨z,w⟩⟩:=bV q
   .subst z;exact absurd rfl (K.cell _ N)
   .subst z;exact⟨N,.inl q⟩
  .obtain ⟨k0,N,z | ⟨z,w⟩⟩:=bV q
   .subst z;exact⟨N,.inr q⟩
   .cases w
 have I':∀tk,Inv (kh X xs M O L H2.objs.size B G) [] (List.replicate xs.length none++σ) (upd G B.heap.objs.size (.lst [])) { B with heap:=ao,toks:=tk }:=by
  intro tk;refine⟨aq,rfl,I.bare,Un.laid ai (AI _) fD,⟨_,au,fun i y v h1 h2 h3=>?_⟩,fun y c h=>?_,?_,fun y c h=>?_,fun p hp=>absurd hp (by simp[kh]),b4,?_⟩
  .rcases CK i xs.length with hi | hi
   .rw [CU (by rwa [Bm]),List.getElem?_replicate,Ab hi] at h2
    cases h2
   .have a4:X.N[i - xs.length]?=some y:=by
     have h1:(xs++X.N)[i]?=some y:=h1
     rwa [List.getElem?_append_right hi] at h1
    have bt:σ[i - xs.length]?=some (some v):=by
     rw[List.getElem?_append_right (by rwa [Bm]),Bm] at h2;exact h2
    obtain⟨fm,kk⟩:=cq y h3 (Ae a4);obtain⟨b6,vz,c,a6⟩:=K.free _ fm rfl;refine sQ I.loc fun mm hn hl=>sQ (hl (i - xs.length) y v a4 bt (vz.elim (fun z=>.inr (.inl z)) fun z=>.inr (.inr z))) fun u ru l=>?_
    rcases l with ⟨z,_⟩ | ⟨_,c',bx,bz⟩
    .exact absurd z b6
    .have ec:=Al (bx.symm.trans (K.cl _ _ a6))
     subst ec;obtain⟨o,ho,ah⟩:=bz;exact⟨u,ru,.inr ⟨kk,c',a6,o,ai _ _ ho,ah⟩⟩
  .obtain ⟨v,o,ho,ah⟩:=I.cell y c (K.cl y c h)
   exact⟨v,o,ai _ _ ho,ah⟩
  .show upd G _ _ H2.objs.size=none
   rwa [uQ (Ne.symm a5)]
  .obtain ⟨v,o,ho,ah⟩:=I.cell y c (K.cl y c h)
   exact(uQ (ag c (AH ho)).2)▸I.freeC y c (K.cl y c h)
  .show (List.replicate xs.length none++σ).length=(xs++X.N).length
   rw[AQ,AQ,Bm,I.len]
 have aw:∀{H':Hp},(∀b∈L,H' b=none)->∀b∈L,Zo (kh X xs M O L H2.objs.size B G) [] H' b:=fun hn b F=>
  ⟨hn b F,(aq.exf b F).1,aq.exfs b F,.inl F,(aq.exf b F).2,fun p hp=>absurd hp (by simp[kh])⟩
 have bf:=T.keep _ _ _ bc fun b _ o e=>ai b o e;have bo:∀b∈L,upd G B.heap.objs.size (.lst []) b=none:=fun b F=>(uQ (ag b (a0 b F)).2)▸(Y b F).1
 have a8:∀aj:Shared,(∃tk,aj={ B with heap:=ao,toks:=tk }) ->
   codeAny (model X.prog X.w) X.A (.compLoop (.ListComp az [⟨tg,b3,a7,0⟩] M pos) 0 (.ref it) (.ref B.heap.objs.size) (compEnvC M O H2.objs.size X.env))
    (RR (.ref B.heap.objs.size) H2.objs.size) aj:=by
  rintro aj ⟨tk,rfl⟩
  refine Qg (fun n s'=>∃i ys H' ab,ab.length=xs.length/\Inv (kh X xs M O L H2.objs.size B G) [] (ab++σ) H' s'/\tn i s'.heap/\(∀b∈L,H' b=none)/\W i n ys H') ?_ b5
   ⟨0,[],_,List.replicate xs.length none,Bm,I' tk,bf,bo,w0⟩
  rintro n a9 ⟨i,ys,H3,ab,l0,I3,bb,a3,w3⟩
  rcases cp i n ys H3 w3 with ⟨ck,qn⟩ | ⟨br,cj⟩
  .refine thn (T.done (kh X xs M O L H2.objs.size B G) rfl rfl rfl hc i [] a9 (ab++σ) H3 (fun _ _=>False) I3 (aw a3) bb ck) fun r Z S=>sD S fun hr I4=> ?_
   subst hr;show RR _ _ (.ok .next) Z;refine sQ I4.loc fun m hn _=>?_;have cb:=I4.os;refine bw _ _ H3 Z m hn ?_ I4.free (fun y c h z=>?_) (hC▸Cg _) ?_ qn
   .exact Ne.symm (ag _ I.lt).1
   .exact rG (I.cell y c h) fun v o ho ah=>(ag c (AH ho)).1 z
   .obtain ⟨hh,g,d,t,b9⟩:=Z
    obtain rfl:b9=B.os:=cb;exact I.call (h':=hh) (g':=g) (d':=d) (t':=t) I4.base I4.hok I4.bare fun b F=>⟨(Y b F).2.2.2.1,(Y b F).2.1,(Y b F).2.2.2.2.1,(Y b F).2.2.2.2.2⟩
  .refine thn (T.item (kh X xs M O L H2.objs.size B G) rfl rfl rfl hc i [] a9 (ab++σ) H3 (fun _ _=>False) I3 (aw a3) bb br) fun r Z S=>sQ S fun u hr h4=> ?_
   subst hr;refine thn h4 fun _ ba S=>GH S fun x5 H5 I5 r5 y5 av bq=> ?_
   have ax:∀{H':Hp}{s':Shared}{τ:St},Inv (kh X xs M O L H2.objs.size B G) ([]++kR L ba.heap) τ H' s'->tn (i+1) s'.heap/\∀b∈L,H' b=none:=fun I7=>
    ⟨T.keep _ _ _ av fun b F o e=>(I7.pin (b,o) (AO _ (AO _ (cU F e)))).1,fun b F=>sQ (T.obj _ _ av b F) fun o e d=>(I7.pin (b,o) (AO _ (AO _ (cU F e)))).2.1⟩
   refine jJ (cj x5 H5 y5) fun ae cg l5 q5=>thn (hg L _ B G _ ba (ab++σ) H5 x5 u (fun cu H'=>cu=ae.map some++σ/\H'=H5) (I5.pinned (aw bq) (T.obj _ _ av)) r5 (hG ab ae x5 H5 _ l0 cg l5 ⟨rfl,rfl⟩)) fun _ s6 S=>vZ S fun cy H6 I6 e6 bh=> ?_;subst e6 bh;have l6:(ae.map some).length=xs.length:=by rwa [AC]
   refine thn (ht L _ B G _ s6 (ae.map some++σ) H6 _ I6 q5) fun b7 s7 S=>sQ S fun H7 I7 q7=> ?_
   cases b7 with
   |false =>
    rw[Ac AR] at q7;rw[Ac AR];refine sQ q7 fun U N w7=>?_;obtain⟨k1,k2⟩:=ax I7;exact⟨U,N,i+1,ys,H7,ae.map some,l6,I7.unpinned,k1,k2,w7⟩
   |true =>
    rw[Ab rfl] at q7;rw[Ab rfl];refine thn (b0 L _ B G _ s7 (ae.map some++σ) H7 _ I7 q7) fun y s8 ⟨y8,H8,I8,r8,bu,b1,U,N,ct⟩=>thn (tO _ s8 _ H8 (.ref B.heap.objs.size) [y8] (.ref B.heap.objs.size) [y] (fun _ H9=>H9=upd H8 B.heap.objs.size (.lst (ys++[y8]))) I8 rfl (.cons r8 .nil) ⟨_,ys,y8,rfl,rfl,bu,b1,rfl⟩) fun _ s9 S=>vZ S fun _ H9 I9 _ e9=> ?_;subst e9;obtain⟨k1,k2⟩:=ax I9
    exact⟨U,N,i+1,ys++[y8],_,ae.map some,l6,I9.unpinned,k1,k2,ct⟩
 exact codeAny_compStart_list (a8 _ ⟨_,rfl⟩) (T.self _ 0 _ _ _ bf (a8 _ ⟨_,rfl⟩))
def v4{O N:Expr}{x:Str}{Y pos:Pos}{U:List Expr}{G:Scope}{M:List (Str×Addr)}{Z:TI}{tc:TT}{te:TE}(hc:X.calm=true)(hN:(x::X.N).Nodup)(K:qB X x G M)(hi:PI X (.Name x Y) N Z)(ht:∀F C I B,WB (aJ X x G M F C I B) U tc)(aj:∀F C I B,PE (aJ X x G M F C I B) O te)(hs:∀v,foldedSetIterable N X.env v=pure v:=by intro _;rfl):PE X (.ListComp O [⟨.Name x Y,N,U,0⟩] G pos) (QV Z tc te):=by
 intro pins s σ H Q ab h;rw[eval_ListComp];refine Ca (use:=none) rfl hs K.clos K.kind K.names (thn (hi pins s σ H _ ab h) fun xv ay ao=>thn ao fun ax I aq=>?_);obtain⟨it,F,tn,J,B,e,L,T,au,ae,R⟩:=aq;subst e;refine wG (g:=xB 0) (Tk:=fun x _ vs=>vs=[x]) hc K (fun _ _ _ _=>iY (i:=0) (x:=x) hN rfl (.inl (BH (K.hx x (.head _)))) (.inr (BH (K.hx x (.head _))))) ht aj (by rintro aw vs y H Q l rfl _ q;match aw,l with | [_],_=>exact q) L T au ae (fun D hD=>let ⟨W,w0,av⟩:=R D hD;⟨W,w0,fun i m ys H w=>(av i m ys H w).imp id fun zz=>sD zz fun g st=> ⟨g,fun x H' y=>⟨[x],rfl,rfl,st x H' y⟩⟩⟩) ?_
 intro D C H ar m hn ah ag ai S I4 q;refine⟨m,hn,fun h' ak=>⟨.ref D,H,?_,rfl,q⟩⟩;refine I4.turned (it:=C) (t':=ar.toks) (fun b o hb e=>(ak.2 b hb).trans e) ag ah (.inr (Ad L.sz S)) ai fun p hp z=>?_;exact absurd (AZ (AH (L.pin p hp).1) (by rw[z];exact S)) (A8 _)
end
def Its(x:Str):It:=⟨fun i _=>i < x.cps.size,fun i H v H'=>H'=H/\∃c,x.cps[i]?=some c/\v=.str ⟨#[c]⟩,fun i _=>x.cps.size<=i⟩
def xO(q:ty = "str_ascii_iterator"\/ty = "str_iterator")(g:A.handled=none)it x t:
  Walks P w A it [it] [it] x.cps.size (SignAt x) (fun i h=>h.IsStrIter it ty x t i):=by
 rcases q with rfl | rfl
 .exact Walks.strAscii g it x t
 .exact Walks.strWide g it x t
def WQ{K}(D:ty = "str_ascii_iterator"\/ty = "str_iterator")x t it:
  Zi P w K tg (Its x) [it] it (fun i h=>h.IsStrIter it ty x t i/\i<=x.cps.size) where
 mem:=by simp
 obj:=fun i h st b g=>by
  have e:b=it :=by grind
  subst e;obtain⟨⟨o,e,c,d⟩,_⟩:=st;exact⟨o,e,fun v z=>by rw[d] at z;cases z⟩
 keep:=fun i h h' st k=>⟨let ⟨o,ho,r⟩:=st.1;⟨o,k it (by simp) o ho,r⟩,st.2⟩
 item:=by
  intro X hP ab Z N i pins s σ H E I q st B;refine pT (q it (by simp)) fun F G Y J L M=>?_;refine(xO D (I.ok.hd N) it x t).item i s _ _ B st.1 fun v h' S hv st' O=>?_;obtain⟨c,u,hx,rfl⟩:=hv;have U:Inv X pins σ H { s with heap:=h',toks:=S }:=I.turned (fun b o g e=>O b o (by simp_all) e) F G J L M;exact jJ (id st') fun o e cc d=>⟨_,rfl,gE e cc d (by rcases D with rfl | rfl<;>decide) ⟨.str ⟨#[c]⟩,H,U,⟨u,rfl⟩,⟨rfl,c,hx,rfl⟩,⟨st',B⟩,fun b g=>(q b g).1⟩⟩
 done:=by
  intro X hP ab Z N i pins s σ H E I q st B;refine pT (q it (by simp)) fun F G Y J L M=>?_;refine(xO D (I.ok.hd N) it x t).done s _ _ ((Nat.le_antisymm st.2 B)▸st.1) fun h' S O=>⟨rfl,I.turned (fun b o g e=>O b o (by simpa using g) e) F G J L M⟩
 self:=fun A i s Q E st h=>by
  rcases D with rfl | rfl
  .exact wpAny_pyIter_striter_ascii st.1 h
  .exact wpAny_pyIter_striter_wide st.1 h
def O5(tl:TE):TI:=fun σ H R=>tl σ H fun x H1=>∃z,x=.str z/\R (Its z) H1
section
variable {X:Cx}{tg:Expr}
def Ih(G:PE X l tl):PI X tg l (O5 tl):=by
 intro pins s σ H R I h;refine thn (G pins s σ H _ I h) fun v g N=>vZ N fun x H1 B M L=> ?_;obtain⟨z,rfl,q⟩:=L;obtain⟨t,rfl⟩:=M
 have D:∀ty o,(ty = "str_ascii_iterator"\/ty = "str_iterator")->(g.heap.push o).IsStrIter g.heap.objs.size ty z t 0->PIE X pins σ tg R (.ref g.heap.objs.size) { g with heap:=g.heap.push o }:=fun ty o J st=>by
  refine⟨g.heap.objs.size,[g.heap.objs.size],_,_,H1,rfl,B.kept (t':=g.toks) fun b o e=>AE _ e,WQ J z t _,⟨st,AW _⟩,fun b O=>?_,q⟩;have e:b=g.heap.objs.size :=by grind
  subst e;exact B.fpOk (AI _) (B.hok.fresh (AI _))
 cases F:z.cps.all (· < 128)
 .exact wpAny_pyIter_wide F (D _ _ (.inr rfl) ⟨_,AK _ rfl,rfl,rfl⟩)
 .exact wpAny_pyIter_ascii F (D _ _ (.inl rfl) ⟨_,AK _ rfl,rfl,rfl⟩)
end
def Wy(ys:List Bool):((List.range ys.length).all fun i=>(ys[i]?).getD false)=ys.all id:=by
 rw[Cd,Bh,Bh]
 constructor
 .intro h b q
  obtain⟨i,hi⟩:=B7.mp q;have g:=(AU.mp hi).1;have:=h i (Bj.mpr g)
  rwa [hi] at this
 .intro h i hi
  have g:=Bj.mp hi;exact(AN g)▸h _ (By g)
section
variable {X:Cx}
def wM(O:X.calm=true):CallR X (.builtin "all") (fun xs H Q=>∃p ys,xs=[.ref p]/\SqL X.K H p (List.map V.bl ys)/\Q (.bl (ys.all id)) H):=by
 intro pins s σ H xs ab Q I r h;obtain⟨p,ys,rfl,U,q⟩:=h;obtain⟨u,rfl,rfl⟩:=zB r;obtain⟨B,L,D,hz⟩:=(I.list U);have F:B.length=ys.length:=by rw[<- L.length,AC]
 refine rG (id D) fun o n S _=>call_all_walk (wpAny_pyIter_list D.isList ⟨s.heap.objs.size,_,_,_,_,_,fun i=>(ys[i]?).getD false,rfl,Walks.list (A:=X.A.in1) (I.ok.hd O) s.heap.objs.size p (AY (AH S)) B.toArray,⟨⟨_,AK _ rfl,rfl,rfl⟩,D.isList.push _⟩,fun i v s' N E' hP g=>?_,fun h' tk Z=>?_⟩)
 .have J:B[i]?=some v :=by simp_all
  have hi :=F▸(AU.mp J).1;have Y:(List.map V.bl ys)[i]?=some (.bl ys[i]):=by rw[Aj,AN hi];rfl
  obtain⟨u,G,ru⟩:=(L.get Y);rw[J] at G;cases G;cases ru;have g:N ((ys[i]?).getD false) s':=g;rw[AN hi] at g;exact BC g
 .have M:Inv X pins σ H { s with heap:=h',toks:=tk }:=I.kept fun b o e=>Z b o (by intro z;exact absurd (AH e) ((AF.mp z)▸A8 _)) (AE _ e)
  have e:((List.range B.toArray.size).all fun i=>(ys[i]?).getD false)=ys.all id:=by rw[Am,F,Wy]
  exact e▸⟨.bl (ys.all id),H,M,rfl,q⟩
inductive Ty where
 |non | bl | int | str | lst | tup | dct
 deriving DecidableEq
noncomputable def mB:Ty->String
 |.non=>"NoneType" | .bl=>"bool" | .int=>"int" | .str=>"str" | .lst=>"list" | .tup=>"tuple" | .dct=>"dict"
noncomputable def M8:HO->Option Ty
 |.lst _=>some .lst
 |.frz _ (.lst _)=>some .lst
 |.tup _=>some .tup
 |.dK _=>some .dct
 |.dT _=>some .dct
 |_=>none
noncomputable def M7(H:Hp):V->Option Ty
 |.non=>some .non
 |.bl _=>some .bl
 |.int _=>some .int
 |.str _=>some .str
 |.ref a=>(H a).bind M8
 |_=>none
def uo{K}(h:M7 H x=some n):rH K H x (.type (mB n)):=by
 cases x with
 |non=>cases h;exact .non
 |bl b=>cases h;exact .bl b
 |int i=>cases h;exact .int i
 |str z=>cases h;exact .str z
 |ref a =>
  have h:(H a).bind M8=some n:=h
  cases e:H a with
  |none=>rw[e] at h;cases h
  |some o =>
   rw[e] at h
   cases o with
   |lst xs=>cases h;exact .lst e
   |tup xs=>cases h;exact .tup e
   |dK kvs=>cases h;exact .dK e
   |dT kvs=>cases h;exact .dT e
   |frz g u =>
    cases u with
    |lst xs=>cases h;exact .frz e
    |_=>cases h
   |_=>cases h
 |byt b=>cases h
 |flt b=>cases h
 |ty n=>cases h
noncomputable def aW:Ty->Ty->Bool
 |.bl,.int=>true
 |a,b=>decide (a=b)
def xn K n T:PySem.W.kitOne K (.type (mB n)) (.type (mB T))=some (aW n T):=by
 cases n<;>cases T<;>with_unfolding_all rfl
def qX:CallR X (.builtin "isinstance") (fun xs H Q=>∃x T n,xs=[x,.ty (mB T)]/\M7 H x=some n/\Q (.bl (aW n T)) H):=by
 intro pins s σ H xs F Q I r h;obtain⟨x,T,n,rfl,g,q⟩:=h;obtain⟨u,G,rfl,B,rfl⟩:=QR r;exact V9 I B (uo g) (xn X.K n T) fun D=>⟨.bl (aW n T),H,I.tok D,rfl,q⟩
def Xh:OpR X (binaryOp .FloorDiv) (rI (fun _ j=>0 < j/\j < 18446744073709551616) fun i j=>.int (i / j)):=opI fun i j _ _ _ _ _ B q=>by
 refine floordiv_int (by lia) (by grind) (.inl (PyProof.noPylong_of_log2 ?_));have g:j.natAbs < 2 ^ 64 :=by lia
 exact AZ ((Nat.log2_lt (by omega)).mpr g) (by decide)
end
structure JE(X:Cx)(e:Expr)(t:TE):Prop where
 h:PE X e t
structure JT(X:Cx)(e:Expr)(t:TT):Prop where
 h:PT X e t
structure JW(X:Cx)(e:Expr)(t:TT):Prop where
 h:PW X e t
structure JA(X:Cx)(es:List Expr)(t:TA):Prop where
 h:PA X es t
structure JS(X:Cx)(st:Stmt)(t:TS):Prop where
 h:PS X st t
structure JB(X:Cx)(st:List Stmt)(t:TS):Prop where
 h:PSs X st t
structure JG(X:Cx)(e:Expr)(t:TG):Prop where
 h:PG X e t
structure Nk(X:Cx)(es:List Expr)(t:TGs):Prop where
 h:PGs X es t
structure JI(X:Cx)(tg e:Expr)(t:TI):Prop where
 h:PI X tg e t
structure JF(X:Cx)(ifs:List Expr)(t:TT):Prop where
 h:WB X ifs t
structure JO(X:Cx)(e:Option Expr)(t:TO):Prop where
 h:PO X e t
section
variable {X:Cx}{a b c e o i:Expr}{es:List Expr}{ta tb tc te:TE}{tA tB':TT}{t:TA}{pos:Pos}{nX:List Expr}
def ye(q:Gl X x)(B:X.mg x=none)(F:bootBuiltins x=some u)(r:RelV v u)(D:x ≠ "__name__":=by decide)(g:(x==("__debug__" : Str))=false:=by decide):JE X (.Name x pos) (tC v):=⟨pe_bltn q B F r D g⟩
noncomputable def qH:Expr->Bool
 |.Name _ _=>true | .Call _ _ _ _=>true | .Subscript _ _ _=>true | .Attribute _ _ _=>true | .IfExp _ _ _ _=>false | _=>false
def jR(h:qH e=true):∀g,isTrue e env g=(do let v <- g;standAt e.pos;holding [v] (truthy v)):=by
 cases e<;>first | (intro _;rfl) | exact absurd h AR
def qF(g:JE X e te)(q:JA X es t)(hs:kX e=true:=by rfl):JA X (e::es) (WV te t):=⟨vf g.h q.h hs⟩
def yd{p}(F:FnOk X.prog X.w X.K X.mg X.base CX k f fd ps sp)(M:Room k X.A)(I:Gl X x)(L:X.mg x=some (.ref f))(J:PySem.W.keepIn X.K (.ref f)=true)(B:Binds X.K fd ps ds)(D:Vals dvs ds)(N:wW CX X E)(g:JA X (e::es) t)(G:(x==("__debug__" : Str))=false:=by decide)(hs:kX e=true:=by rfl)(q:es.all kX=true:=by rfl):JE X (.Call (.Name x p) (e::es) [] pos) (WW sp dvs E t):=⟨vd F M I L J B D N g.h G hs q⟩
def kU{p}(B:CallR X (.type T) r)(F:Gl X x)(G:X.mg x=none)(J:bootBuiltins x=some (.type T))(g:JA X (e::es) t)(I:x ≠ "__name__":=by decide)(D:(x==("__debug__" : Str))=false:=by decide)(hs:kX e=true:=by rfl)(q:es.all kX=true:=by rfl):JE X (.Call (.Name x p) (e::es) [] pos) (tCB r t):=⟨VF B F G J g.h I D hs q⟩
def yc{I G:Expr}{x:Str}{L:Pos}{J:List Expr}{D:Scope}{F:List (Str×Addr)}{M:TI}{tc:TT}(O:X.calm=true)(N:(x::X.N).Nodup)(K:qB X x D F)(hi:JI X (.Name x L) G M)(U:∀q C B g,JF (aJ X x D F q C B g) J tc)(S:∀q C B g,JE (aJ X x D F q C B g) I te)(hs:∀v,foldedSetIterable G X.env v=pure v:=by intro _;rfl):JE X (.ListComp I [⟨.Name x L,G,J,0⟩] D pos) (QV M tc te) :=
 ⟨v4 O N K hi.h (fun q C B g=>(U q C B g).h) (fun q C B g=>(S q C B g).h) hs⟩
variable {tg:Expr}
end
section
variable {X:Cx}{st:Stmt}{sts:List Stmt}{t u:TS}{e c:Expr}{te:TE}{tc:TT}{pos:Pos}
end
section
variable {P:Program}{w:World}{K:Dl}{mg:Str->Option Value}{base:Heap}
def Fun.okJ{st}(F:Fun K x D st f fd)(S:FnScope N ps (yX st))(L:∀vs H Q E,sp vs H Q E->vs.length=ps.length)(G:∀g A B s H vs Q E,Room k (A.deeper (envOfC D (yX st) s.heap.objs.size f g))->sp vs H Q E ->
   ∃t,JB (Qa CX0 P w K mg base N D (yX st) f g A B s H E).nox (xV st) t/\t { nx:=fun _ H'=>Q .non H',rt:=Q } (start N vs) H):FnOk P w K mg base CX0 (k+1) f fd ps sp :=
 F.ok S L fun g A B s H vs Q E I h=>let ⟨t,J,q⟩:=G g A B s H vs Q E I h;⟨t,J.h,q⟩
end
theorem aD: ∀(G:List (Str×NameKind))acc,(∀y∈G,y.2=.free->∃c,env.cells.lookup y.1=some c)->(∀y c,acc.lookup y=some c->env.cells.lookup y=some c) ->
  ∃q,(forIn G acc fun x r=>(do
    if x.2==NameKind.free then do
     let c <- cellOf env x.1
     pure (ForInStep.yield ((x.1,c)::r))
    else pure (ForInStep.yield r):Sem (ForInStep (List (Str×Addr)))))=pure q/\(∀y c,q.lookup y=some c->env.cells.lookup y=some c)/\(∀y∈G,y.2=.free->∃c,q.lookup y.1=some c)/\∀y c,acc.lookup y=some c->∃B,q.lookup y=some B
 |[],acc,_,D=>⟨acc,rfl,D,fun y g=>absurd g (by simp),fun y c h=>⟨c,h⟩⟩
 | (n,k)::r,acc,F,D=>by
  cases S:(k==NameKind.free) with
  |false =>
   refine Jp (aD r acc (fun y g=>F y (AJ _ g)) D) fun q e h1 h2 I=>⟨q,?_,h1,fun y g N=>?_,I⟩
   .grind
   .grind
  |true =>
   have L:k=.free :=by lia
   refine PP (F (n,k) AG L) fun c J=>?_
   have M:∀y B,((n,c)::acc).lookup y=some B->env.cells.lookup y=some B:=fun y B h=>by
    rw[List.lookup_cons] at h
    cases g:y==n with
    |true =>
     rw[g] at h;have:y=n :=by lia
     subst this
     rwa [J]
    |false =>
     rw[g] at h;exact D y B h
   refine Jp (aD r ((n,c)::acc) (fun y g=>F y (AJ _ g)) M) fun q e h1 h2 I=>?_;have O:cellOf env n=pure c:=by delta cellOf;rw[J]
   refine⟨q,?_,h1,fun y g N=>?_,fun y B h=>?_⟩
   .grind
   .grind
   .grind
def kS(xs:List Str)(g:Scope)(N:List Str)(sc:Scope):Bool :=
 g.names.all (fun y=>decide (y.2≠.cell)&&(decide (y.2≠.free) || decide (sc.names.lookup y.1=some .cell))&&(decide (y.2≠.local) || (decide (g.names.lookup y.1=some .local)&&decide (y.1∉N))))&&decide (g.kind=.function)&&xs.all (fun x=>decide (g.names.lookup x=some .local))
def xM(J:X.N=N)(S:X.env.scope=sc)(M:X.env.cells=cellsFrom L sc.names [])(h:kS xs D N sc=true):∃F,vV X xs D F:=by
 subst J S
 delta kS at h
 rw[BJ,BJ,Bh] at h;obtain⟨⟨h1,h2⟩,I⟩:=h
 have B:∀y∈D.names,y.2≠.cell/\(y.2=.free->X.env.scope.names.lookup y.1=some .cell)/\(y.2=.local->D.names.lookup y.1=some .local/\y.1∉X.N):=fun y g=>by
  have q:=h1 y g;rw[BJ,BJ] at q;obtain⟨⟨q1,q2⟩,q3⟩:=q;refine⟨BD q1,fun e=>?_,fun e=>?_⟩
  .lia
  .lia
 refine Jp (aD D.names [] (fun y g O=>M▸yS ((B y g).2.1 O)) (fun y c z=>by simp at z)) fun F e Y Z _=>?_;refine⟨F,⟨?_,fun y g=>(B y g).1,BD h2,fun y g q=>((B y g).2.2 q).1,fun x U=>BD (Bh.1 I x U),fun y g q=>((B y g).2.2 q).2,fun y g q=>⟨?_,.inl ((B y g).2.1 q),Z y g q⟩,Y⟩⟩
 .have G:=Bu (fun m:Sem (List (Str×Addr))=>m >>= fun cs=>(pure cs:Sem (List (Str×Addr)))) e
  exact G
 .show X.env.scope.names.lookup y.1≠some .local
  rw[(B y g).2.1 q]
  decide
def tL{X:Cx}{I F:Expr}{x:Str}{L pos:Pos}{J:List Expr}{q:Scope}{M:TI}{tc:TT}{te:TE}(O:X.calm=true)(N:(x::X.N).Nodup)(K:∃g,qB X x q g)(hi:JI X (.Name x L) F M)(U:∀g D C G B,JF (aJ X x q g D C G B) J tc)(S:∀g D C G B,JE (aJ X x q g D C G B) I te)(hs:∀v,foldedSetIterable F X.env v=pure v:=by intro _;rfl):JE X (.ListComp I [⟨.Name x L,F,J,0⟩] q pos) (QV M tc te) :=
 let ⟨g,K⟩:=K
 yc O N K hi (U g) (S g) hs
section
variable {X:Cx}{o e:Expr}{es:List Expr}{to:TE}{t:TA}{name:Str}{apos cpos:Pos}{T id:String}{r:V->List V->Hp->VK->Prop}
end
section
variable {X:Cx}{pos:Pos}
def FZ(q:attributeBase o m X.env (eval o X.env)=eval o X.env)(F:(apos.endLine==cpos.line)=true)(B:kX e=true)(D:kX f=true):M2 X o m apos e f cpos:=by
 have g:starEach [e,f] X.env=[(false,eval e X.env),(false,eval f X.env)]:=by
  rw[iZ B,iZ D]
  rfl
 refine⟨q,?_,F,?_⟩
 .rw [g];rfl
 .rw [g];rfl
end
section
variable {X:Cx}{o i value:Expr}{td ty tv:TE}{pos pos':Pos}
end
end L2
namespace PySem.SeqAt
open MeetsSeq
def Zr b u l q es n D:
  Meets (Builtin.«str.__eq__» ⟨[.str b u,.ref l],[]⟩) (fun _ R s=>s.heap.get? l=some ⟨.type "dict",q,.dict es n,D⟩/\R (.ok (.ret .notImplemented)) s) :=
 .of_wp fun prog w A R s h=>by
  obtain⟨F,g,d,I,G⟩:=s;obtain⟨B,h⟩:=h
  wp_walk using wpAny_load B
  exact⟨_,rfl,h⟩
def QQ b u l q es n D:
  Meets (Builtin.«dict.__eq__» ⟨[.ref l,.str b u],[]⟩) (fun _ R s=>s.heap.get? l=some ⟨.type "dict",q,.dict es n,D⟩/\R (.ok (.ret .notImplemented)) s) :=
 .of_wp fun prog w A R s h=>by
  obtain⟨I,g,d,L,J⟩:=s;obtain⟨B,h⟩:=h;have G:=F.sub_str_dict
  wp_walk using wpAny_load B
  exact⟨_,rfl,h⟩
def j4(q:s.heap.get? l=some ⟨.type "dict",B,.dict es n,D⟩)(I:A.units < cLine):
  EqAt A s (.str b u) (.ref l) false:=fun prog w E Q h=>by
 refine Ao (Cc (fun G=>absurd (eq_of_beq G) nofun) (fun _=>AA ?_))
 have R:RcAt A s (.str b u) (.ref l) false:=fun prog w E Q h=>rc_eq_decline_or (typeIs_str s b u) ⟨_,q,rfl⟩ rfl F.sub_dict_str F.slot_str_eq F.slot_dict_eq_refl
  (fun _ g=>DW F.slot_str_eq (typeIs_str s b u) F.entry_str_eq (F.args_str_eq_2 _ _) (Zr b u l B es n D) ⟨q,g⟩)
  (fun _ g=>DW F.slot_dict_eq_refl ⟨_,q,rfl⟩ F.entry_dict_eq (F.args_dict_eq_2 _ _) (QQ b u l B es n D) ⟨q,g⟩)
  (fun _ g=>wpAny_of_eq rfl g) (.inr I) h
 exact R prog w E _ (BC h)
end PySem.SeqAt
namespace L2
open PySem PySem.Spec PyProof.Rows
section
variable {X:Cx}
theorem bI(B:∀(z:Str)(t:Tok),SeqAt.EqAt A s (.str z t) v (eqV (.str z) x)):∀{l:List Str}{q},Vals (l.map V.str) q->∀u∈q,SeqAt.EqAt A s u v (eqU x u)
 |[],_,.nil=>fun u g=>by cases g
 |z::l,u::q,.cons r t=>fun D g=>by
  rcases Ai.mp g with rfl | g
  .obtain ⟨t',rfl⟩:=r
   exact B z t'
  .exact bI B t D g
def aR(I:Inv X pins σ H s)(D:RelV x v)(g:M7 H x=some c)(q:A.units < cLine)z t:
  SeqAt.EqAt A s (.str z t) v (eqV (.str z) x):=by
 cases x with
 |non=>exact iR ⟨t,rfl⟩ D rfl rfl
 |bl b=>exact iR ⟨t,rfl⟩ D rfl rfl
 |int i=>exact iR ⟨t,rfl⟩ D rfl rfl
 |str y=>exact iR ⟨t,rfl⟩ D rfl rfl
 |ref a =>
  cases D;have g:(H a).bind M8=some c:=g
  cases e:H a with
  |none=>rw[e] at g;cases g
  |some o =>
   rw[e] at g;have B:=I.hok a o e
   cases o with
   |lst xs =>
    obtain⟨_,G,n,_,h1⟩:=B;exact SeqAt.EqAt.str_list z t ⟨_,h1,rfl,n,rfl⟩ q
   |tup xs =>
    obtain⟨_,G,_,p⟩:=B;exact SeqAt.EqAt.str_tuple z t (jg.is p) q
   |dK kvs =>
    obtain⟨_,_,vs,_,p⟩:=B;obtain⟨⟨J,M,L,N⟩,es,ep,h1,h2,F,_⟩:=p;have h2:=h2.1;subst h2 F;exact SeqAt.j4 h1 q
   |dT kvs =>
    obtain⟨_,_,xs,_,⟨J,M,L,N⟩,es,ep,h1,h2,F,_⟩:=B;have h2:=h2.1;subst h2 F;exact SeqAt.j4 h1 q
   |frz O u =>
    cases u with
    |lst xs =>
     obtain⟨_,_,G,n,_,h1⟩:=B;exact SeqAt.EqAt.str_list z t ⟨_,h1,rfl,n,rfl⟩ q
    |_=>cases g
   |_=>cases g
 |byt b=>cases g
 |flt b=>cases g
 |ty b=>cases g
def R0(l:List Str):V->Bool
 |.str z=>l.contains z
 |_=>false
theorem cS x:∀{l}{g},Vals (l.map V.str) g->g.any (eqU x)=R0 l x
 |[],_,.nil=>by cases x<;>rfl
 |z::l,u::g,.cons r t=>by
  obtain⟨t',rfl⟩:=r;rw[BN,cS x t]
  cases x with
  |str y =>
   show((z==y) || l.contains y)=(z::l).contains y
   congr 1
   rw[Cd,beq_iff_eq,beq_iff_eq];exact eq_comm
  |_=>rfl
def N6(K:Dl)(g:Bool):R2:=fun x y H Q=>∃p l c,y=.ref p/\(SqL K H p (List.map V.str l)\/SqT K H p (List.map V.str l))/\M7 H x=some c/\Q (.bl (if g then !R0 l x else R0 l x)) H
def YC(G:X.A.units+1 < cLine):OpR X (compareOp .In) (N6 X.K false):=by
 intro pins s σ H x y v u Q I L N h;obtain⟨p,l,c,rfl,g,F,q⟩:=h;cases N
 rcases g with g | g
 .obtain ⟨B,r,D,M⟩:=I.list g
  refine SeqAt.in_listAt (eqU x) D.isList (fun w J=>bI (aR I L F G) r w (by grind)) ⟨.bl _,H,I,rfl,?_⟩;rw[show B.toArray.any (eqU x)=B.any (eqU x) by simp,cS x r];exact q
 .obtain ⟨B,r,D,M⟩:=I.tuple g
  refine SeqAt.in_tupleAt (eqU x) D (fun w J=>bI (aR I L F G) r w (by simpa using J)) ⟨.bl _,H,I,rfl,?_⟩;rw[show B.toArray.any (eqU x)=B.any (eqU x) by simp,cS x r];exact q
def HW(K:Dl):R2:=fun x y H Q=>∃a b xs ys,x=.ref a/\y=.ref b/\SqT K H a xs/\SqT K H b ys/\xs.length+ys.length<=sizeLine /\
 (xs=[]->Q (.ref b) H)/\(xs≠[]->ys=[]->Q (.ref a) H)/\(xs≠[]->ys≠[]->∀p,H p=none->Q (.ref p) (upd H p (.tup (xs++ys))))
def YE:OpR X (binaryOp .Add) (HW X.K):=by
 intro pins s σ H x y v u Q I G J h;obtain⟨a,b,xs,ys,rfl,rfl,q,B,Y,q0,q1,q2⟩:=h
 by_cases g:xs=[]
 .cases G
  cases J;refine jJ (I.tuple q) fun aj r1 p1 _=>jJ (I.tuple B) fun Z r2 p2 _=>?_;have e:=r1.nil_iff.mpr g;subst e;obtain⟨⟨ae,L,ah,sl⟩,D,N,n,S⟩:=id p1;obtain⟨⟨ag,M,ai,ab⟩,F,O,n2,U⟩:=id p2;subst N S O U
  exact concat_meets ⟨_,D,rfl⟩ ⟨_,F,rfl⟩ noFill_tuple_add seq_tuple_add DX DP (DM _ _)
   (tuple_addW0 a b _ Z.toArray n n2 L M sl ab rfl) ⟨D,F,⟨.ref b,H,I,rfl,q0 g⟩⟩
 .exact op_catT pins s σ H (.ref a) (.ref b) v u Q I G J ⟨a,b,xs,ys,rfl,rfl,q,B,g,Y,q1 g,q2 g⟩
end
abbrev Cx.at_(X:Cx)(k:Nat):Cx:={ X with N:=X.N.set k "?" }
def Eu(k:Nat)(σ:St):Prop:=∀v,σ[k]?≠some (some v)
section
variable {X:Cx}{pins:List (Addr×Obj)}{σ:St}{H:Hp}{s:Shared}{k:Nat}{e:Expr}{te:TE}{st:Stmt}{t:TS}
def Oj(ab:X.Ok):(X.at_ k).Ok:=by
 obtain⟨h1,h2,M,N,O,S,U,Y,Z,g,q,B,D,F,G,I,J,L⟩:=ab;exact⟨h1,h2,M,N,O,S,U,Y,Z,g,q,B,D,F,G,I,J,L⟩
def YH(ab:(X.at_ k).Ok):X.Ok:=by
 obtain⟨h1,h2,M,N,O,S,U,Y,Z,g,q,B,D,F,G,I,J,L⟩:=ab;exact⟨h1,h2,M,N,O,S,U,Y,Z,g,q,B,D,F,G,I,J,L⟩
def Ls(n:Eu k σ)(I:Inv X pins σ H s):Inv (X.at_ k) pins σ H s:=by
 refine sQ I.loc fun m F D=>⟨Oj I.ok,I.os,I.bare,I.base,⟨m,F,fun i x v g q B=>?_⟩,I.cell,I.free,I.freeC,I.pin,I.hok,?_⟩
 .by_cases hi:k=i
  .subst hi;exact absurd q (n v)
  .rw [CC hi] at g
   exact D i x v g q B
 .rw [List.length_set]
  exact I.len
def Wb(n:Eu k σ)(I:Inv (X.at_ k) pins σ H s):Inv X pins σ H s:=by
 refine sQ I.loc fun m D B=>⟨YH I.ok,I.os,I.bare,I.base,⟨m,D,fun i x v F g q=>?_⟩,I.cell,I.free,I.freeC,I.pin,I.hok,?_⟩
 .by_cases hi:k=i
  .subst hi;exact absurd g (n v)
  .refine B i x v ?_ g q
   rwa [CC hi]
 .have:=I.len
  rw[this,List.length_set]
def xx k(q:JE (X.at_ k) e te):JE X e (fun σ H Q=>Eu k σ/\te σ H Q) :=
 ⟨fun pins s σ H Q I h=>thn (q.h pins s σ H Q (Ls h.1 I) h.2) fun v G F=>vZ F fun x H1 g D B=> ⟨x,H1,Wb h.1 g,D,B⟩⟩
def Ow k(h:JS X st t):JS X st (fun D σ H=>t D (σ.set k none) H) :=
 ⟨fun pins s σ H D I q=>h.h pins s (σ.set k none) H D (I.weak (by grind) fun i v e=>by
  by_cases hi:k=i
  .grind
  .rwa [CC hi] at e) q⟩
end
section
variable {X:Cx}
def xq{S O pos ae}(aq:X.N.Nodup)(hi:X.N[i]?=some y)(hy:Loc X.env.scope y)(hc:X.calm=true)(hN:(x::X.N).Nodup)(K:qB X x I U)(hI:JI X (.Name x O) N wi)(ht:∀F C G B,JF (aJ X x I U F C G B) ab tc)(au:∀F C G B,JE (aJ X x I U F C G B) Y te)(hs:∀v,foldedSetIterable N X.env v=pure v:=by intro _;rfl)(ax:swapsWith (.ListComp Y [⟨.Name x O,N,ab,0⟩] I pos) (some (.Name y S)) ae.line X.env=pure true:=by rfl)(av:X.fn y=true\/X.env.scope.names.lookup y=some .local:=by first | exact .inl rfl | exact .inr rfl | assumption):
  JS X (.Assign [.Name y S] (.ListComp Y [⟨.Name x O,N,ab,0⟩] I pos) ae) (tAsg (QV wi tc te) (xB i)):=by
 refine⟨fun pins s σ H D ag h=>?_⟩;rw[exec_Assign_Name_used _ _ _ _ ax];refine AA (wpAny_standAt (AA (AA (Ca (use:=some (assign (.Name y S) X.env)) rfl hs K.clos K.kind K.names (thn (hI.h pins s σ H _ ag h) fun xv a8 ay=>thn ay fun a6 G az=>?_)))));obtain⟨it,F,tn,J,B,e,L,T,a3,ah,R⟩:=az;subst e
 apply wG (Q:=fun x H1=>xB i x σ H1 D.nx) hc K (fun _ _ _ _=>iY (i:=0) hN rfl (.inl (BH (K.hx x (.head _)))) (.inr (BH (K.hx x (.head _))))) (fun F C G B=>(ht F C G B).h) (fun F C G B=>(au F C G B).h) (by rintro a5 vs y H Q l rfl _ q;match a5,l with | [_],_=>exact q) L T a3 ah (fun D hD=>let ⟨W,w0,a4⟩:=R D hD;⟨W,w0,fun i m ys H w=>(a4 i m ys H w).imp id fun zz=>sD zz fun g st=> ⟨g,fun x H' y=>⟨[x],rfl,rfl,st x H' y⟩⟩⟩)
 intro D' C H' a7 m hn aj ai ak ao I4 q;refine wpAny_assign_Name (tP I4 aq hi hy (v:=.ref D') rfl (fun a0 I5 M=>?_) av);obtain⟨b,M,Z⟩:=M;have ar:C≠b :=by grind
 exact⟨m,hn.at' fun o e=>(M.2 C ar).trans e,fun h' aw=>AD (AD ⟨_,H',I5.turned (t':=a0.toks) (fun b o Z e=>(aw.2 b Z).trans e) ai aj (.inr (Ad L.sz ao)) ak fun p hp z=>absurd (AZ (AH (L.pin p hp).1) (by lia)) (A8 _),q⟩)⟩
end
theorem sameNew(h:H p=none)o:Same H (upd H p o):=fun b u q=>by rwa [uQ (vK q h)]
section
variable {X:Cx}
def Fp:R2:=fun x y H Q=>∃a b xs ys,x=.ref a/\y=.ref b/\H a=some (.tup xs)/\H b=some (.tup ys)/\xs.length+ys.length<=sizeLine/\∀r H',Same H H'->H' r=some (.tup (xs++ys))->(H r=none\/r=a\/r=b)->Q (.ref r) H'
def v6:OpR X (binaryOp .Add) Fp:=by
 intro pins s σ H x y v u Q I L M h;exact TJ h fun a b xs ys B D F G J q=>YE pins s σ H x y v u Q I L M ⟨a,b,xs,ys,B,D,SqT.of F,SqT.of G,J,fun h=>q b H (Same.refl H) (by rwa [h]) (.inr (.inr rfl)),fun _ h=>q a H (Same.refl H) (by grind) (.inr (.inl rfl)),fun _ _ p g=>q p _ (sameNew g _) mQ (.inl g)⟩
end
end L2
namespace PySem
open PySem.Spec PyProof.Rows PyProof.Rows.F
def jF:entryFor table "dict.update.loop" = some Builtin.«dict.update.loop»:=entryFor_of_tree (by kernel_rfl)
def vY:plainId "dict.update.loop" = true:=by decide +kernel
section
variable {prog:Program}{w:World}{κ:Type}[DecidableEq κ]{knd:KeyKind prog w κ}{A:Around}{d it t:Addr}{items:Array Value}{ps:List (κ×Value)}{res:Value}
def bJ{h h':Heap}(x:h.IsTuple p xs)(e:∀o,h.get? p=some o->h'.get? p=some o):h'.IsTuple p xs:=let ⟨o,q,r⟩:=x;⟨o,e o q,r⟩
def rR{h h':Heap}(x:h.IsTupleIter it p i)(e:∀o,h.get? it=some o->h'.get? it=some o):h'.IsTupleIter it p i:=let ⟨o,q,r⟩:=x;⟨o,e o q,r⟩
def mH{h h':Heap}(x:h.DictOf knd d kvs)(e:∀o,h.get? d=some o->h'.get? d=some o):h'.DictOf knd d kvs:=let ⟨o,es,ep,q,r⟩:=x;⟨o,es,ep,e o q,r⟩
def Xe(ag:A.in1.handled=none)(L:d≠it)(ar:d≠t)(av:t≠it)(aw:items[ps.length]?=none):∀r i s acc,i+r=ps.length ->
   s.heap.IsTupleIter it t i->s.heap.IsTuple t items->s.heap.DictOf knd d acc->acc.length+r<=sizeLine ->
   (∀j(h:j < ps.length),∃p J,items[j]?=some (.ref p)/\p≠d/\p≠it/\s.heap.IsTuple p #[J,ps[j].2]/\knd.is ps[j].1 J=true) ->
   (∀h N,(∀b o,b≠d->b≠it->s.heap.get? b=some o->h.get? b=some o)->h.DictOf knd d (merged acc (ps.drop i))->R (.ok (.ret res)) { s with heap:=h,toks:=N }) ->
   codeAny (model prog w) A (.builtin "dict.update.loop" ⟨[.ref d,.ref it,rawInt i,res],[]⟩) R s:=by
 intro r
 induction r with
 |zero =>
  intro i s acc e G tt F hz I D;have ei:i=ps.length:=by lia
  subst ei;rw[Bz] at D;exact BV jF ((Around.under_plainId vY _)▸AA (DT ag G tt aw fun h x=>AA (AD (AD (D h s.toks (fun b o _ aq q=>x b o aq q) (mH F fun o q=>x d o L q))))))
 |succ r ih =>
  intro i s acc e G tt F hz I D;have hi:i < ps.length:=by lia
  refine GH (I i hi) fun p J hp ax au tp kk=>BV jF (AA (DN G tt hp fun h1 aj g=>?_));have ab:=bJ tp fun o q=>g.extBut p o au q;refine AA (Ao (AA (wpAny_tryCatch (AA (CJ ab.typeIs ?_)))));obtain⟨op,e1,e2,n,e3⟩:=id ab;refine AA (A0 e1 e3 (AD (Ao (wpAny_dictSet_pairs kk (mH F fun o q=>g.extBut d o L q) (fun h2 ah B=>?_) (by lia)))))
  have ai:merged acc (ps.drop i)=merged (stored acc ps[i].1 ps[i].2) (ps.drop (i+1)):=by
   rw[Ar hi];rfl
  refine AD ⟨BY vY _,?_⟩;have ek:rawInt ((i:Int)+1)=rawInt ((i+1:Nat):Int):=by rw[Int.natCast_add];rfl
  refine ih (i+1) _ (stored acc ps[i].1 ps[i].2) (by lia) (rR aj fun o q=>(B.2 it (Ne.symm L)).trans q) (bJ (bJ tt fun o q=>g.extBut t o av q) fun o q=>(B.2 t (Ne.symm ar)).trans q) ah ?_ (fun j hj=>?_) fun h N ak U=>?_
  .have:=stored_length_le acc ps[i].1 ps[i].2
   lia
  .exact GH (I j hj) fun M ao ae O S a4 a5=>⟨M,ao,ae,O,S,bJ (bJ a4 fun o q=>g.extBut M o S q) fun o q=>(B.2 M O).trans q,a5⟩
  .rw [<- ai] at U
   exact D h N (fun b o Y Z q=>ak b o Y Z ((B.2 b Y).trans (g.extBut b o Z q))) U
end
def eS:typeLookup (.type "tuple") "keys" = pure none:=by rw[DZ,Co];kernel_rfl
def qD
  (J:s.heap.get? a=some o)(D:o.cls=.type "tuple")(I:o.data=.seq xs k)(G:o.dict=none)(N:A.handled=none)(h:∀(h':Heap)(M:Nat),(∀b u,s.heap.get? b=some u->h'.get? b=some u)->Q none { s with heap:=h',toks:=M }):wpAny (model prog w) A (getAttr? (.ref a) "keys") Q E s:=by
 obtain⟨c,Z,Y,U⟩:=o
 simp only at D I G
 subst D I G;obtain⟨O,g,d,M,S⟩:=s;have B:∀q,(⟨O,g,d,q,S⟩:Shared).TypeIs (.ref a) "tuple":=fun _=>⟨_,J,rfl⟩;have ab:=sub_AttributeError;have f3:=DG.lookup;have ae:=DG.bind (.ref a);have f5:=am_tuple_getattr_none
 delta getAttr? getAttrBy? getAttrBy
 repeat (any_goals (first | assumption | exact B _ | ((with_reducible show wpAny _ _ (call (Value.builtin "tuple.__getattribute__") _ _) _ _ _);refine DW DG (B _) am_entry_tuple_getattribute (F.args_tuple_getattribute_2 _ _) (meets_getattribute_miss_tuple a xs k U "keys" _ eS rfl (by decide)) ⟨J,N,fun h' q e L=>?_⟩) | wp_step))
 obtain⟨t',u',ag⟩:=L.there
 delta getattributeRaised
 repeat (any_goals (first | assumption | wp_step))
 exact h h' q L.of.keeps
section
variable {prog:Program}{w:World}{κ:Type}[DecidableEq κ]{knd:KeyKind prog w κ}{A:Around}{E:Value->Shared->Prop}{s:Shared}{d t:Addr}{items:Array Value}{ps acc:List (κ×Value)}{res:Value}
def oR{id}(ab:A.handled=none)(ae:S.in1.handled=none)(aq:d≠t)(F:s.heap.get? t=some o)(M:o.cls=.type "tuple")(N:o.data=.seq items n)(ai:o.dict=none)(L:s.heap.DictOf knd d acc)(hz:acc.length+ps.length<=sizeLine)(ar:items[ps.length]?=none)(ak:∀j(h:j < ps.length),∃p B,items[j]?=some (.ref p)/\p≠d/\s.heap.IsTuple p #[B,ps[j].2]/\knd.is ps[j].1 B=true)(D:∀(h:Heap)(G:Nat),(∀b o,b≠d->s.heap.get? b=some o->h.get? b=some o)->h.DictOf knd d (merged acc ps)->R (.ok (.ret res)) { s with heap:=h,toks:=G }):
  wpAny (model prog w) A (Builtin.Dict.updateFrom id d (.ref t) [] res) (fun D s'=>match D with | .done f=>R (.ok f) s' | .again J=>J.quiet=true/\codeAny (model prog w) S J R s') E s:=by
 have tt:s.heap.IsTuple t items:=⟨o,F,M,n,N⟩;refine AA (CJ tt.typeIs (AA (qD F M N ai ab fun h1 au g=>AA (Bv ?_))));have O:=bJ tt fun o q=>g t o q;refine AA (Ce O ?_);have ah :=Jo L fun od es ep q _=>AH (g d od q);refine AD ⟨BY vY _,Xe (knd:=knd) ae (AY ah) aq (AY (AH (g t o F))) ar ps.length 0 _ acc (BS _) ⟨_,AK _ rfl,rfl,rfl⟩ (O.push _) ?_ hz (fun j hj=>?_) fun h G aj ag=>?_⟩
 .exact mH L fun o q=>AE _ (g d o q)
 .refine mT (ak j hj) fun p B U Y I Z=>?_
  have hp :=sQ I fun op q _=>AH (g p op q);exact⟨p,B,U,Y,AY hp,bJ I fun o q=>AE _ (g p o q),Z⟩
 .exact D h G (fun b o ao q=>aj b o ao (AY (AH (g b o q))) (AE _ (g b o q))) ag
end
end PySem
namespace L2
open PySem PySem.Spec PyProof.Rows
abbrev gG(H:Hp):List Addr->List (Key×V)->Prop:=Paired fun a p=>H a=some (.tup [kV p.1,p.2])
theorem lM:∀{q:List Addr}{g},Vals (q.map V.ref) g->g=q.map Value.ref
 |[],_,.nil=>rfl
 |_::_,_,.cons h r=>by
  cases h;rw[lM r];rfl
theorem bD(D:HOk P w H h):∀{q}{ps},gG H q ps->∃rs,KV ps rs/\q.length=rs.length /\
  ∀j(hj:j < rs.length),∃p B,q[j]?=some p/\h.IsTuple p #[B,rs[j].2]/\(eQ P w).is rs[j].1 B=true
 |_,_,.nil=>⟨[],.nil,rfl,fun j hj=>absurd hj (Bq j)⟩
 |_,_,@Paired.cons _ _ _ a p Y Z e r=>by
  refine jJ (bD D r) fun rs G I J=>?_;obtain⟨_,S,g,N⟩:=(D a _ e)
  cases g with
  |@cons _ F _ its' L g =>
   cases g with
   |@cons _ O _ U M g =>
    cases g;refine⟨(p.1,O)::rs,.cons ⟨rfl,M⟩ G,by rw[AV,AV,I],fun j hj=>?_⟩
    cases j with
    |zero=>exact⟨a,F,rfl,N.is,xE L⟩
    |succ j=>exact J j (Bc hj)
section
variable {X:Cx}
def uS(Z:X.calm=true):CallR X (.type "dict") (fun xs H Q=>∃t B ps,xs=[.ref t]/\H t=some (.tup (List.map V.ref B))/\gG H B ps/\ps.length<=sizeLine/\∀d,H d=none->Q (.ref d) (upd H d (.dK (dU [] ps)))):=by
 intro pins s σ H xs ah Q I r h;obtain⟨t,B,ps,rfl,ht,hp,hz,q⟩:=h;obtain⟨u,rfl,rfl⟩:=r.one;obtain⟨_,ag,rv,o,h1,h2,⟨n,U⟩,Y⟩:=(I.hok t _ ht);have S:=lM rv;subst S;refine jJ (bD I.hok hp) fun rs q1 q2 q3=>Dh (Q₁:=fun G J=>G=.ref s.heap.objs.size/\J={ s with heap:=s.heap.push { cls:=.type "dict",data:=.dict #[] } }) F.kt_called_dict (F.kt_typeCall_dict_1 _) F.entry_dict_init (kt_code_dict_new _ ⟨rfl,rfl⟩) ?_
 rintro G J ⟨rfl,rfl⟩;have g:(s.heap.push { cls:=.type "dict",data:=.dict #[] }).DictOf (eQ X.prog X.w) s.heap.objs.size []:=Heap.DictOf.new s.heap;refine⟨g.typeIs,F.args_dict_init_2 _ _,?_⟩
 apply AA
 refine AA (B5 g.typeIs (AD ?_));have L:=I.ok.hd Z;refine oR (ps:=rs) (by lia) (by simp[L]) (Aq (AH h1)) (AE _ h1) h2 U Y g ?_ ?_ (fun j hj=>?_) fun h' tk ae M=>?_
 .grind
 .simp_all
 .refine vZ (q3 j hj) fun p kv N D O=>?_
  have ab :=sQ D fun op z _=>AH z;refine⟨p,kv,?_,AY ab,D.push _,O⟩;rw[Cq,Aj,N];rfl
 .refine ⟨rfl,.ref s.heap.objs.size,_,I.laid (t':=tk) (fun b ob e=>ae b ob (AY (AH e)) (AE _ e)) (AI _) ?_,rfl,q _ (I.hok.fresh (AI _))⟩
  refine Jq ?_ (Cu (Aq I.big)) (KV.merge q1 .nil) M;have:=dG ps []
  simp at this
  lia
def Fi:V->List V->Hp->VK->Prop:=fun x vs H Q=>∃d t g ps kvs,x=.ref d/\vs=[.ref t]/\H d=some (.dK kvs)/\H t=some (.tup (List.map V.ref g))/\gG H g ps/\kvs.length+ps.length<=sizeLine/\Q .non (upd H d (.dK (dU kvs ps)))
def w5(hc:X.calm=true):MtR X "dict.update" Fi:=by
 intro pins s σ H x xs v ak Q I rx rv h;obtain⟨d,t,pa,ps,kvs,rfl,rfl,D,N,hp,hz,q⟩:=h;cases rx;obtain⟨u,rfl,rfl⟩:=rv.one;obtain⟨_,aj,ah,o,h1,h2,⟨n,h3⟩,h4⟩:=(I.hok t _ N);have ei:=lM ah;refine jJ (bD I.hok hp) fun rs O q2 q3=>?_;have hl:=KV.length O;obtain⟨z,hS,vs,S,J⟩:=lE I.hok D;have ai:=S.length;have B:=J.typeIs;have Y:=I.ok.hd hc;refine wpAny_call (codeAny_call_builtin F.slot_dict_update.plain F.entry_dict_update (F.slot_dict_update.check _ _ _ _ _ _ _ _ B (F.args_dict_update_2 _ _) ?_))
 apply AA
 refine AA (B5 B (AD (oR (R:=wants (EP X pins σ Q) X.xe) (ps:=rs) (by lia) (by simp[Y]) (Kv D N (fun z=>nomatch z)) h1 h2 h3 h4 J (by lia) ?_ (fun j hj=>?_) fun h' tk ae L=>?_)))
 .simp_all
 .refine vZ (q3 j hj) fun p kv e1 M Z=>⟨p,kv,?_,?_,M,Z⟩
  .simp_all
  .intro z
   subst z;refine jJ M fun op y1 y2 _=>sQ B fun od U g=>?_;rw[y1] at U;cases U;rw[y2] at g;injection g with g;exact absurd g (by decide)
 .have ab:∃G,h'.get? d=some G:=let ⟨G,_,_,hq,_⟩:=L;⟨G,hq⟩
  refine⟨.non,_,I.write (t':=tk) (D▸True.intro) (.inl rfl) (fun b ob ag e=>ae b ob ag e) ab (Jq ?_ hS (KV.merge O S) L),rfl,q⟩;have:=dG ps kvs
  lia
end
end L2
namespace L2
open PySem PySem.W PyProof.Rows
def sL(n:Nat)(P:α->Prop):KasT α->Prop
 |.ret a=>P a
 |.ask i j k=>i < n/\j < n/\∀b,sL n P (k b)
noncomputable def kJ(lt:Nat->Nat->Bool):KasT α->α
 |.ret a=>a
 |.ask i j k=>kJ lt (k (lt i j))
theorem uY{f:α->KasT q}:∀t,sL n P t->(∀a,P a->sL n R (f a))->sL n R (t.bind f)
 |.ret a,h,g=>g a h
 |.ask i j k,h,g=>⟨h.1,h.2.1,fun b=>uY (k b) (h.2.2 b) g⟩
theorem XD: ∀t,sL n P t->P (kJ lt t)
 |.ret a,h=>h
 |.ask i j k,h=>XD (k (lt i j)) (h.2.2 _)
theorem kWp{J:Shared->Prop}(q:∀i j C s,i < n->j < n->J s->(∀s',J s'->C (lt i j) s')->B i j C s):
  ∀t{Q:α->Shared->Prop}{s},sL n P t->J s->(∀s',J s'->P (kJ lt t)->Q (kJ lt t) s')->t.kasWp B Q s
 |.ret a,Q,s,h,hj,g=>g s hj h
 |.ask i j k,Q,s,h,hj,g=>q i j _ s h.1 h.2.1 hj fun s' D=>kWp q (k (lt i j)) (h.2.2 _) D g
def Ord(n:Nat)(p:Array Nat):Prop:=p.toList.Perm (List.range n)
def Ord.lt(h:Ord n p)(h0:0 < n)i:p.getD i 0 < n:=by
 by_cases hi:i < p.size
 .have e:p.getD i 0=p[i] :=by simp_all
  rw[e];have g:p[i]∈p.toList:=by simp
  exact Bj.mp (h.mem_iff.mp g)
 .lia
def Ord.size(h:Ord n p):p.size=n:=by
 have:=h.length_eq
 rwa [A6,Ay] at this
def Ord.rev(h:Ord n p)i j:Ord n (kas_rev p i j):=(Array.Perm.toList (mirror_perm p i j _)).trans h
def Ord.bubble(h:Ord n p)i j:Ord n (bubble p i j):=(Array.Perm.toList (bubble_perm p i j)).trans h
section
variable {n:Nat}(h0:0 < n)
include h0
theorem QE(h:Ord n p):∀f m,sL n (fun _=>True) (kas_asc p f m)
 |0,m=>trivial
 |f+1,m=>⟨h.lt h0 _,h.lt h0 _,fun b=>by
  cases b with
  |true=>exact trivial
  |false=>exact QE h f (m+1)⟩
theorem aL:∀f p m q,Ord n p->sL n (fun r=>Ord n r.1) (kas_desc f p m q)
 |0,p,m,q,h=>h
 |f+1,p,m,q,h=>⟨h.lt h0 _,h.lt h0 _,fun b=>by
  cases b with
  |true =>
   split
   .exact aL f _ _ _ (h.rev _ _)
   .exact aL f _ _ _ h
  |false =>
   refine⟨h.lt h0 _,h.lt h0 _,fun b=>?_⟩
   cases b with
   |true=>exact h
   |false=>exact aL f _ _ _ h⟩
def wO m r(h:Ord n p):sL n (fun r=>Ord n r.2) (kas_tail3 m r p) :=
 uY _ (QE h0 (h.rev 0 m) _ _) fun _ _=>h.rev 0 m
def iL m r(h:Ord n p):sL n (fun r=>Ord n r.2) (kas_descPart m r p) :=
 uY _ (aL h0 _ _ _ _ h) fun x g=>by
  split
  .exact wO h0 _ _ (g.rev _ _)
  .exact wO h0 _ _ g
def Wm r(h:Ord n p):sL n (fun r=>Ord n r.2) (kas_count r p) :=
 uY _ (QE h0 h _ _) fun x _=>by
  split
  .exact h
  .split
   .refine ⟨h.lt h0 _,h.lt h0 _,fun b=>?_⟩
    cases b with
    |true=>exact h
    |false=>exact iL h0 _ _ (h.rev _ _)
   .exact iL h0 _ _ h
theorem zH k(h:Ord n p):∀f l r,sL n (fun _=>True) (kas_place p k f l r)
 |0,l,r=>trivial
 |f+1,l,r=>by
  unfold kas_place
  split
  .exact trivial
  .refine ⟨h.lt h0 _,h.lt h0 _,fun b=>?_⟩
   cases b with
   |true=>exact zH k h f _ _
   |false=>exact zH k h f _ _
theorem Vp:∀f p k,Ord n p->sL n (Ord n) (kas_bin f p k)
 |0,p,k,h=>h
 |f+1,p,k,h=>uY _ (zH h0 k h _ _ _) fun l _=>Vp f _ _ (h.bubble _ _)
def Q4:sL n (Ord n) (kas_sort n) :=
 uY _ (Wm h0 n (List.Perm.refl _)) fun r g=>by
  split
  .exact Vp h0 _ _ _ g
  .exact g
end
def fW(lt:Nat->Nat->Bool)(vs:List Value):List Value:=(kJ lt (kas_sort vs.length)).toList.map fun i=>vs.getD i Value.none
def cF(lt:Nat->Nat->Bool)(ys:List V):List V:=(kJ lt (kas_sort ys.length)).toList.map fun i=>ys.getD i .non
def W1 lt:(kJ lt (kas_sort 0)).toList=[]:=rfl
def qN(h:vs.length < 2):fW lt vs=vs:=by
 cases vs with
 |nil=>rfl
 |cons v vs =>
  cases vs with
  |nil=>rfl
  |cons u vs=>exact absurd h (Nat.not_lt.2 (Br 2 vs.length))
def dW lt n(h:0 < n):Ord n (kJ lt (kas_sort n)):=XD _ (Q4 h)
def qI lt vs:(fW lt vs).length=vs.length:=by
 by_cases h:vs.length < 2
 .rw [qN h]
 .delta fW
  rw[AC,Ay,(dW lt vs.length (by omega)).size]
noncomputable def bK(h:Heap)(a:Addr)(vs:List Value):Heap:=((h.update a (Obj.mapSeq fun _=>(#[]:Array Value))).push (seqObj "tuple" vs.toArray 0)).push (seqObj "list" #[] 0)
def ZX{g:List Value}(e:h.get? a=some (seqObj "list" g.toArray n)):∃k,(h.update a (Obj.mapSeq fun _=>(#[]:Array Value))).get? a=some (seqObj "list" #[] k)/\(bK h a vs).get? a=some (seqObj "list" #[] k) :=
 ⟨_,get?_update_seq e fun _=>#[],AE _ (AE _ (get?_update_seq e fun _=>#[]))⟩
def Xx(e:h.get? b=some o)(n:b≠a):(bK h a vs).get? b=some o :=
 AE _ (AE _ ((Cy _ _ _ _ n).trans e))
def zD(q:s.heap.get? a=some (seqObj "list" vs.toArray n))(U:vs.length < 64)(hk:2<=vs.length->∀Q:SortKind->Shared->Prop,Q κ { s with heap:=bK s.heap a vs }->wpAny (model g w) A (keyKind' vs.toArray) Q (fun _ _=>False) { s with heap:=bK s.heap a vs })(Z:∀i j,i < vs.length->j < vs.length->∀Q:Bool->Shared->Prop,Q (lt i j) { s with heap:=bK s.heap a vs }->wpAny (model g w) A (keyLt' κ (vs.getD i Value.none) (vs.getD j Value.none)) Q (fun _ _=>False) { s with heap:=bK s.heap a vs })(O:R (.done (.ret .none)) { s with heap:=sortedHeap s.heap a vs (fW lt vs).toArray }):wpAny (model g w) A (Builtin.«list.sort» ⟨[.ref a],[]⟩) R E s:=by
 obtain⟨B,S,F⟩:=ZX q;have zl:vs.length<=sizeLine:=by rw[Cf];lia
 have zo:(fW lt vs).toArray.size<=sizeLine:=by rwa [Am,qI]
 rw[list_sort_plain];refine AA (listItems_at q rfl (AA (listUpdate_at q rfl (AA (seqEpoch_at S rfl (AA (Df (AA (wpAny_newList (Ao ?_) (AW _))) zl)))) (by grind) (AW _))))
 have nX:∀st':SortSt,(arrOf st').map (·.2)=(fW lt vs).toArray->failedOf st'=none->wpAny (model g w) A (do
   let N <- seqEpoch a
   Builtin.List.listUpdate (.ref a) fun _=>(arrOf st').map (·.2)
   if let some e:=failedOf st' then rule "list.sort.comparison-raised"; throw e
   if (N != B)=true then rule "list.sort.modified"; raiseError "ValueError" "list modified during sort"
   ret .none) R E { s with heap:=bK s.heap a vs }:=fun st' q1 q2=>by
  rw[q1,q2];refine AA (seqEpoch_at F rfl (AA (listUpdate_at F rfl ?_ (AW _) (BF zo))));rw[show(B != B)=false by simp];exact AD O
 have I:vs.toArray.size=vs.length:=Am
 by_cases h2:vs.length < 2
 .rw [I,Ab h2,Ab h2]
  refine AA (AD (AA (AD (nX _ ?_ rfl))));rw[qN h2]
  apply Array.toList_inj.mp
  simp
  exact List.map_snd_zip (AI _)
 .rw [I,Ac h2,Ac h2]
  refine AA (BQ (hk (by lia) (fun c s'=>c=κ/\s'={ s with heap:=bK s.heap a vs }) ⟨rfl,rfl⟩) (fun c ae hs=>?_) fun _ _ x=>x.elim);obtain⟨rfl,rfl⟩:=hs
  refine AA (BQ (kat_run (Q:=fun st' s'=>s'={ s with heap:=bK s.heap a vs }/\(arrOf st').map (·.2)=(fW lt vs).toArray/\failedOf st'=none)
   (G:=fun p s'=>s'={ s with heap:=bK s.heap a vs }/\p=kJ lt (kas_sort vs.length)) rfl (by lia) U (fun p' st' s' ab L M D=>⟨D.1,?_,M⟩)
   (kWp (J:=fun s'=>s'={ s with heap:=bK s.heap a vs }) (fun i j C s' hi hj e Y=>?_) _ (Q4 (by lia)) rfl fun s' e _=>⟨e,rfl⟩)) ?_ fun _ _ e=>e)
  .rw [kat_snds rfl L,D.2]
   rfl
  .subst e
   exact Z i j hi hj _ (Y _ rfl)
  .rintro ⟨⟨⟩,st'⟩ s' ⟨rfl,q3,q4⟩
   exact nX st' q3 q4
noncomputable def jC(h:Heap)(vs:List Value):Heap:=((h.push (seqObj "list" #[] 0)).update h.objs.size (Obj.mapSeq (· ++ vs.toArray))).push (seqObj "list" vs.toArray 0)
def XN(h:Heap)(vs:List Value):((h.push (seqObj "list" #[] 0)).update h.objs.size (Obj.mapSeq (· ++ vs.toArray))).objs.size=h.objs.size+1 :=by simp_all
def Jh h vs:(jC h vs).get? (h.objs.size+1)=some (seqObj "list" vs.toArray 0):=by
 have q:=AK ((h.push (seqObj "list" #[] 0)).update h.objs.size (Obj.mapSeq (· ++ vs.toArray))) (o:=seqObj "list" vs.toArray 0) rfl
 rwa [XN] at q
def Gi(e:h.get? b=some o):(jC h vs).get? b=some o :=
 AE _ ((Cy _ _ _ _ (AY (AH e))).trans (AE _ e))
section
variable {X:Cx}
def uc(X:Cx)(H:Hp)(ys:List V)(lt:Nat->Nat->Bool):Prop:=∀(pins:List (Addr×Obj))(σ:St)(s:Shared)(g:List Value)(A:Around),A.units<=X.A.units+2->Inv X pins σ H s->Vals ys g ->
 ∃κ:SortKind,(2<=ys.length->∀Q:SortKind->Shared->Prop,Q κ s->wpAny (model X.prog X.w) A (keyKind' g.toArray) Q (fun _ _=>False) s) /\
  ∀i j,i < ys.length->j < ys.length->∀Q:Bool->Shared->Prop,Q (lt i j) s->wpAny (model X.prog X.w) A (keyLt' κ (g.getD i Value.none) (g.getD j Value.none)) Q (fun _ _=>False) s
def aG(r:Vals ys q)i:RelV (ys.getD i .non) (q.getD i Value.none):=by
 induction r generalizing i with
 |nil=>exact rfl
 |cons a b g =>
  cases i with
  |zero=>exact a
  |succ i=>exact g i
theorem rC(r:Vals ys g):∀l:List Nat,Vals (l.map fun i=>ys.getD i .non) (l.map fun i=>g.getD i Value.none)
 |[]=>.nil
 |i::l=>.cons (aG r i) (rC r l)
def zN lt ys:(cF lt ys).length=ys.length:=by
 delta cF
 rw[AC,Ay]
 by_cases h:0 < ys.length
 .exact (dW lt ys.length h).size
 .have e:ys.length=0:=by lia
  rw[e]
  rfl
def mN:CallR X (.builtin "sorted") (fun xs H Q=>∃l ys lt,xs=[.ref l]/\SqL X.K H l ys/\ys.length < 64/\uc X H ys lt/\∀p,H p=none->Q (.ref p) (upd H p (.lst (cF lt ys)))):=by
 intro pins s σ H xs ae Q I r h;obtain⟨l,ys,lt,rfl,U,ab,hs,q⟩:=h;obtain⟨u,rfl,rfl⟩:=r.one;obtain⟨vs,F,Z,_⟩:=(I.list U);have Y:=F.length;have N:vs.length < 64:=by lia
 have L:vs.length<=sizeLine:=by rw[Cf];lia
 have J:∀{b:Addr}{o:Obj},s.heap.get? b=some o->b≠s.heap.objs.size+1:=fun e=>AY (Nat.lt_succ_of_lt (AH e));have G:∀b o,s.heap.get? b=some o->(bK (jC s.heap vs) (s.heap.objs.size+1) vs).get? b=some o:=fun b o e=>Xx (Gi e) (J e);obtain⟨κ,S,O⟩:=(hs pins σ _ vs X.A.in1.in1 (AI _) (I.kept (t':=s.toks) G) F);obtain⟨k0,_,M⟩:=ZX (Jh s.heap vs);have B:∃c,(sortedHeap (jC s.heap vs) (s.heap.objs.size+1) vs (fW lt vs).toArray).get? (s.heap.objs.size+1)=some (seqObj "list" (fW lt vs).toArray c):=⟨_,get?_update_seq M fun _=>(fW lt vs).toArray⟩
 obtain⟨c,B⟩:=B;refine DH kind_sorted plain_sorted entry_sorted (args_sorted1 _) (?_:wpAny _ _ (Builtin.«sorted» _) _ _ _);refine AA (AD (AA (collect_list Z.isList (AA (wpAny_newList ?_ L)) L)));rw[XN];refine AA (Ao (Av slot_list_sort ⟨_,Jh s.heap vs,rfl⟩ entry_list_sort ?inner (args_list_sort _)));refine zD (Jh s.heap vs) N (fun h2 g D=>S (by lia) g D) (fun i j hi hj g D=>O i j (by lia) (by lia) g D) ⟨_,rfl,AD ⟨_,rfl,?_⟩⟩
 refine⟨.ref (s.heap.objs.size+1),_,I.laid (t':=s.toks) (fun b o e=>(Cy _ _ _ _ (J e)).trans (G b o e)) (Cg _) ?_,rfl,q _ (I.hok.fresh (Cg _))⟩;refine⟨by rw[zN,Cf];lia,fW lt vs,c,?_,B⟩
 delta cF fW
 exact Y▸rC F _
end
end L2
namespace HT
open PySem PyProof.Rows
inductive iy:List Value->List Str->Prop
 |nil:iy [] []
 |cons (z:Str) (t:Tok) {vs:List Value} {zs:List Str}:iy vs zs->iy (.str z t::vs) (z::zs)
def iy.length(h:iy vs zs):vs.length=zs.length:=by
 induction h with
 |nil=>rfl
 |cons z t h g=>rw[AV,AV,g]
noncomputable def jm:List Str->List Str->Bool
 |[],[]=>false
 |[],_::_=>true
 |_::_,[]=>false
 |x::xs,y::ys=>if x=y then jm xs ys else decide (x.cps.toList < y.cps.toList)
def jq x y xs ys:jm (x::xs) (y::ys)=if x=y then jm xs ys else decide (x.cps.toList < y.cps.toList):=rfl
section
open PySem.SeqAt
open PySem.AutoSeq1 (wpAny_loadPart')
open PySem.MeetsSeq PySem.MeetsSeq2 PySem.MeetsSeq3
def aS l b items D n n2 dd ae sl aq ns S(hi:iy items.toList ns)(hj:iy D.toList S):
  Meets (Builtin.«tuple.__lt__» ⟨[.ref l,.ref b],[]⟩)
   (fun _ R s=>s.heap.get? l=some { cls:=.type "tuple",dict:=dd,data:=.seq items n,slots:=sl }/\s.heap.get? b=some { cls:=.type "tuple",dict:=ae,data:=.seq D n2,slots:=aq } /\
    R (.ok (.ret (.bool (jm ns S)))) s) :=
 .of_wp fun prog w A R s hh=>by
  obtain⟨J,g,d,M,L⟩:=s;obtain⟨hl,hb,h⟩:=hh;have ar:=AutoSeq1.sub_tuple_tuple;have z1:items.size=ns.length:=by rw[<- hi.length];simp
  have z2:D.size=S.length:=by rw[<- hj.length];simp
  wp_walk using wpAny_loadPart' hl,wpAny_loadPart' hb,BW _ (fun nX b s'=>b.1=none/\s'=⟨J,g,d,M,L⟩/\∃vs U G F,nX=vs.zip U /\
   iy vs G/\iy U F/\G.length+D.size=F.length+items.size/\R (.ok (.ret (.bool (jm G F)))) ⟨J,g,d,M,L⟩) _
  case turn =>
   rintro⟨y,x⟩ nX b s' ⟨Y,rfl,vs,U,G,F,q,ab,O,I,B⟩
   cases ab with
   |nil=>rw[List.zip_nil_left] at q;cases q
   |cons a t ai =>
    cases O with
    |nil=>rw[List.zip_nil_right] at q;cases q
    |cons c u ak =>
     rw[DC] at q;injection q with ao ag
     injection ao with hy hx
     subst hy hx;rw[jq] at B
     simp only[List.length_cons] at I
     refine AA ((fun E Q Z=>wpAny_eqBool_str Z) _ _ ?_)
     by_cases N:a=c
     .rw [Af N]
      rw[Ab N] at B
      wp_walk
      exact⟨rfl,rfl,_,_,_,_,ag,ai,ak,by lia,B⟩
     .rw [AM N]
      rw[Ac N] at B
      have ah:∀E Q,Q (.bool (decide (a.cps.toList < c.cps.toList))) ⟨J,g,d,M,L⟩->wpAny (model prog w) A.in1 (richCompare .Lt (.str a t) (.str c u)) Q E ⟨J,g,d,M,L⟩ :=
       fun E Q Z=>(PyProof.Rows.lt_str Z:wpAny (model prog w) A.in1 (compareOp .Lt (.str a t) (.str c u)) Q E ⟨J,g,d,M,L⟩)
      wp_walk using ah
      exact⟨_,rfl,(by simpa using B)⟩
  case fin =>
   rintro⟨b1,b2⟩ s' ⟨Y,rfl,vs,U,G,F,q,ab,O,I,B⟩
   simp only at Y
   subst Y
   have hv:jm G F=decide (items.size < D.size):=by
    cases ab with
    |nil =>
     cases O with
     |nil =>
      simp only[List.length_nil] at I
      exact(AM (by lia)).symm
     |cons c u aj =>
      simp only[List.length_nil,List.length_cons] at I
      exact(Af (by lia)).symm
    |cons a t hv =>
     cases O with
     |nil =>
      simp only[List.length_nil,List.length_cons] at I
      exact(AM (by lia)).symm
     |cons c u aj =>
      rw[DC] at q;cases q
   rw[hv] at B
   wp_walk
   exact⟨_,rfl,(by simpa [Builtin.Tuple.tupleCompareSizes] using B)⟩
  case h =>
   exact⟨rfl,rfl,items.toList,D.toList,ns,S,rfl,hi,hj,by lia,h⟩
end
section
def o9(J:IsTup s.heap l items)(I:IsTup s.heap b D)(hi:iy items.toList ns)(hj:iy D.toList g)(L:A.units < cLine)(h:Q (.bool (jm ns g)) s):wpAny (model prog w) A (compareOp .Lt (.ref l) (.ref b)) Q E s:=by
 obtain⟨⟨c1,F,d1,Y⟩,q,N,n,O⟩:=J;obtain⟨⟨c2,G,d2,Z⟩,B,S,M,U⟩:=I;subst N O S U
 exact richCompare_meets_room (op:=.Lt) ⟨_,q,rfl⟩ ⟨_,B,rfl⟩ PySem.F.slot_tuple_lt PySem.F.entry_tuple_lt (PySem.F.args_tuple_lt_2 _ _) (aS l b items D n M F G Y Z ns g hi hj)
  ⟨q,B,show Value.bool (jm ns g)≠Value.notImplemented/\Q (.bool (jm ns g)) s from⟨(fun x=>nomatch x),h⟩⟩ L
end
end HT
namespace L2
open PySem PySem.W PyProof.Rows
def J6(r:Vals (zs.map V.str) g):HT.iy g zs:=by
 induction zs generalizing g with
 |nil=>cases r;exact .nil
 |cons z zs q =>
  cases r with
  |cons a b =>
   obtain⟨t,rfl⟩:=a;exact .cons z t (q b)
noncomputable def Ha(x y:List Str×Int):Bool:=if x.1=y.1 then decide (x.2 < y.2) else HT.jm x.1 y.1
def sH(H:Hp)(v:V)(c:List Str×Int):Prop:=∃a g,v=.ref a/\H a=some (.tup [.ref g,.int c.2])/\H g=some (.tup (c.1.map V.str))
def Jb(k:List Str):(k.map (Sum.inr:Str->Key)).map kV=k.map V.str:=by
 rw[BP]
 rfl
def KD{g:List Str}:(k.map (Sum.inr:Str->Key)=g.map Sum.inr)↔k=g:=by
 constructor
 .intro h
  induction k generalizing g with
  |nil=>cases g with
   |nil=>rfl
   |cons _ _=>cases h
  |cons x k q=>cases g with
   |nil=>cases h
   |cons y g =>
    injection h with h1 h2
    rw[q h2,Sum.inr.inj h1]
 .lia
def vR{σ:St}(I:Inv X pins σ H s)(h:sH H v c)(r:RelV v u):
  ∃a g o n t,u=.ref a/\s.heap.get? a=some o/\o.cls=.type "tuple"/\o.data=.seq #[.ref g,.int c.2 t] n/\H g=some (.tup (c.1.map V.str)):=by
 obtain⟨a,g,rfl,h1,h2⟩:=h;cases r;obtain⟨_,J,G,o,q,B,⟨n,D⟩,_⟩:=(I.hok a _ h1);obtain⟨L,M,rfl,rfl,F⟩:=QR G;obtain⟨t,rfl⟩:=F;exact⟨a,g,o,n,t,rfl,q,B,D,h2⟩
def uO(hu:X.A.units+2 < cLine)(cs:Nat->List Str×Int)(M:∀i,i < ys.length->sH H (ys.getD i .non) (cs i)):uc X H ys (fun i j=>Ha (cs i) (cs j)):=by
 intro pins σ s B A hA I r;have U:A.units < cLine:=by lia
 have ab:∀v∈ys,∃c,sH H v c:=fun v L=>by
  obtain⟨i,hi,e⟩:=List.getElem_of_mem L;have q:=M i hi;have ae:ys.getD i .non=v :=by simp_all
  rw[ae] at q;exact⟨_,q⟩
 have aj:∀{ys:List V}{B:List Value},Vals ys B->(∀v∈ys,∃c,sH H v c)->∃fs,KatTups s.heap B fs/\fs.length=B.length/\∀f∈fs,Looks (model X.prog X.w) s.heap (typeOf f) (.type "tuple"):=by
  intro ys B r
  induction r with
  |nil=>exact fun _=>⟨[],.nil,rfl,fun f D=>nomatch D⟩
  |@cons y u ys B ry _ ih =>
   intro S;obtain⟨fs,N,Y,O⟩:=(ih fun v L=>S v (AJ _ L));obtain⟨c,hc⟩:=S y AG;obtain⟨a,G,o,n,t,rfl,e1,e2,e3,e4⟩:=vR I hc ry;obtain⟨_,aq,_,o2,ag,ah,_,_⟩:=(I.hok G _ e4);refine⟨.ref G::fs,.cons e1 e2 e3 rfl N,by rw[AV,AV,Y],fun f D=>?_⟩
   rcases Ai.mp D with rfl | D
   .exact ah▸((Looks.ld ag).andThen .now)
   .exact O f D
 have ao:=r.length;refine⟨tuples' false,fun h2 Q g=>?_,fun i j hi hj Q g=>?_⟩
 .exact jJ (aj r ab) fun fs N Y O=>kat_kind N (by lia) O rfl g
 .have g:Q (Ha (cs i) (cs j)) s:=g
  refine PB (vR I (M i hi) (aG r i)) fun a ka oa ar ta ea Z ak a3 a4=>PB (vR I (M j hj) (aG r j)) fun b G ob au tb eb b1 b2 b3 b4=>?_;rw[ea,eb]
  apply kat_lt Z a3 b1 b3
  have ai:=qM I.hok (by rwa [Jb]);refine kat_cons (wpAny_eqBool_tuple U (qM I.hok (by rwa [Jb])) ai ?_)
  by_cases F:(cs i).1=(cs j).1
  .rw [Af (KD.mpr F)]
   refine kat_yes (kat_cons (wpAny_eqBool_int ?_));have hl:Ha (cs i) (cs j)=decide ((cs i).2 < (cs j).2):=Ab F;rw[hl] at g
   by_cases J:(cs i).2=(cs j).2
   .rw [show((cs i).2==(cs j).2)=true by simpa using J]
    refine kat_yes (kat_nil ?_)
    rwa [J,AM (Int.lt_irrefl _)] at g
   .rw [show((cs i).2==(cs j).2)=false by simpa using J]
    exact kat_no (kat_one _ _ (PyProof.Rows.lt_int g))
  .rw [AM (fun e=>F (KD.mp e))]
   rw[(show Ha (cs i) (cs j)=HT.jm (cs i).1 (cs j).1 from Ac F)] at g;obtain⟨_,ia,ra,pa⟩:=(I.hok ka _ a4);obtain⟨_,ib,rb,pb⟩:=(I.hok G _ b4);exact kat_no (kat_one _ _ (HT.o9 pa.is pb.is (J6 ra) (J6 rb) U g))
noncomputable def YX(x y:Str×Int):Bool:=if x.1=y.1 then decide (x.2 < y.2) else decide (x.1.cps.toList < y.1.cps.toList)
def UC(H:Hp)(v:V)(c:Str×Int):Prop:=∃a,v=.ref a/\H a=some (.tup [.str c.1,.int c.2])
def Zz{σ:St}(I:Inv X pins σ H s)(h:UC H v c)(r:RelV v u):
  ∃a o n t t',u=.ref a/\s.heap.get? a=some o/\o.cls=.type "tuple"/\o.data=.seq #[.str c.1 t',.int c.2 t] n:=by
 obtain⟨a,rfl,h1⟩:=h;cases r;obtain⟨_,J,G,o,g,q,⟨n,B⟩,_⟩:=(I.hok a _ h1);obtain⟨L,M,rfl,D,F⟩:=QR G;obtain⟨t',rfl⟩:=D;obtain⟨t,rfl⟩:=F;exact⟨a,o,n,t,t',rfl,g,q,B⟩
def WX(cs:Nat->Str×Int)(L:∀i,i < ys.length->UC H (ys.getD i .non) (cs i)):uc X H ys (fun i j=>YX (cs i) (cs j)):=by
 intro pins σ s B A hA I r
 have Z:∀v∈ys,∃c,UC H v c:=fun v J=>by
  obtain⟨i,hi,e⟩:=List.getElem_of_mem J;have q:=L i hi;have ab:ys.getD i .non=v :=by simp_all
  rw[ab] at q;exact⟨_,q⟩
 have ae:∀{ys:List V}{B:List Value},Vals ys B->(∀v∈ys,∃c,UC H v c)->∃fs,KatTups s.heap B fs/\fs.length=B.length/\∀f∈fs,Looks (model X.prog X.w) s.heap (typeOf f) (.type "str"):=by
  intro ys B r
  induction r with
  |nil=>exact fun _=>⟨[],.nil,rfl,fun f D=>nomatch D⟩
  |@cons y u ys B ry _ ih =>
   intro O;obtain⟨fs,M,S,N⟩:=(ih fun v J=>O v (AJ _ J));obtain⟨c,hc⟩:=O y AG;obtain⟨a,o,n,t,t',rfl,e1,e2,e3⟩:=Zz I hc ry;refine⟨.str c.1 t'::fs,.cons e1 e2 e3 rfl M,by rw[AV,AV,S],fun f D=>?_⟩
   rcases Ai.mp D with rfl | D
   .exact .now
   .exact N f D
 have ah:=r.length;refine⟨tuples' true,fun h2 Q g=>?_,fun i j hi hj Q g=>?_⟩
 .exact jJ (ae r Z) fun fs M S N=>kat_kind M (by lia) N rfl g
 .have g:Q (YX (cs i) (cs j)) s:=g
  refine Ma (Zz I (L i hi) (aG r i)) fun a oa ai ta ak ea U ag Y=>Ma (Zz I (L j hj) (aG r j)) fun b ob aj tb ao eb b1 b2 b3=>?_;rw[ea,eb];refine kat_lt U Y b1 b3 (kat_cons (wpAny_eqBool_str ?_))
  by_cases F:(cs i).1=(cs j).1
  .rw [Af F]
   refine kat_yes (kat_cons (wpAny_eqBool_int ?_));have hl:YX (cs i) (cs j)=decide ((cs i).2 < (cs j).2):=Ab F;rw[hl] at g
   by_cases G:(cs i).2=(cs j).2
   .rw [show((cs i).2==(cs j).2)=true by simpa using G]
    refine kat_yes (kat_nil ?_)
    rwa [G,AM (Int.lt_irrefl _)] at g
   .rw [show((cs i).2==(cs j).2)=false by simpa using G]
    exact kat_no (kat_one _ _ (PyProof.Rows.lt_int g))
  .rw [AM F]
   rw[(show YX (cs i) (cs j)=decide ((cs i).1.cps.toList < (cs j).1.cps.toList) from Ac F)] at g;exact kat_no (kas_lt_str g)
noncomputable def jk(H:Hp)(f:Addr->Option (List V)):Hp:=fun b=>match f b with
 |some xs=>some (.tup xs)
 |none=>H b
def jU(e:f b=some xs):jk H f b=some (.tup xs):=by delta jk;rw[e]
def mK(e:f b=none):jk H f b=H b:=by delta jk;rw[e]
def pK(g:∀b xs,f b=some xs->H b=none)(e:H b=some o):jk H f b=some o:=by
 cases z:f b with
 |none=>rwa [mK z]
 |some xs=>rw[g b xs z] at e;cases e
section
variable {X:Cx}{pins:List (Addr×Obj)}{σ:St}{H:Hp}{s:Shared}{h':Heap}
def Inv.tups{f:Addr->Option (List V)}(I:Inv X pins σ H s)(k:∀b u,s.heap.get? b=some u->h'.get? b=some u)(D:∀b xs,f b=some xs->s.heap.objs.size<=b/\xs.length<=sizeLine/\∃B:List Value,Vals xs B/\jg h' b B.toArray):Inv X pins σ (jk H f) { s with heap:=h',toks:=t' }:=by
 have g:∀b xs,f b=some xs->H b=none:=fun b xs e=>I.hok.fresh (D b xs e).1
 have J:∀{b:Addr}{o:Obj},s.heap.get? b=some o->f b=none:=fun {b o}e=>by
  cases z:f b with
  |none=>rfl
  |some xs=>exact absurd (AH e) (Nat.not_lt.mpr (D b xs z).1)
 refine I.un ⟨fun b o q _ _ _=>k b o q,fun b o q _ _ _=>⟨o.slots,k b o q⟩,fun b o q n _=>by rw[mK (J q)];exact n,fun b o q _=>⟨o,k b o q⟩,fun b xs q=>pK g q,fun b o u q=>pK g q,fun b ps q=>⟨#[],by rw[pK g q];simp⟩⟩ fun b u e=>?_
 cases z:f b with
 |some xs =>
  rw[jU z] at e;cases e;obtain⟨_,h2,B,F,G⟩:=D b xs z;exact⟨h2,B,F,G⟩
 |none =>
  rw[mK z] at e;exact(I.hok b u e).stay (fun c v _ q=>k c v q) (fun c q=>pK g q) fun c xs q=>pK g q
end
section
variable {X:Cx}
def tH{σ:St}(O:A.in1.units<=X.A.units+2)(I:Inv X pins σ H s)(F:Vals ys vs)(ab:ys.length < 64)(hs:uc X H ys lt)(M:∀p s',H p=none->Inv X pins σ (upd H p (.lst (cF lt ys))) s'->Z (.done (.ret (.ref p))) s'):
  wpAny (model X.prog X.w) A (newList vs >>= fun l=>holding [l] (call (.builtin "list.sort") [l] []) >>= fun _=>ret l) Z E s:=by
 have Y:=F.length;have N:vs.length < 64:=by lia
 have zl:vs.length<=sizeLine:=by rw[Cf];lia
 refine AA (wpAny_newList ?_ zl);have B:(s.heap.push (seqObj "list" vs.toArray 0)).get? s.heap.objs.size=some (seqObj "list" vs.toArray 0):=AK _ rfl;have J:∀{b:Addr}{o:Obj},s.heap.get? b=some o->b≠s.heap.objs.size:=fun e=>AY (AH e);have G:∀b o,s.heap.get? b=some o->(bK (s.heap.push (seqObj "list" vs.toArray 0)) s.heap.objs.size vs).get? b=some o:=fun b o e=>Xx (AE _ e) (J e)
 obtain⟨κ,U,S⟩:=(hs pins σ _ vs A.in1 O (I.kept (t':=s.toks) G) F);obtain⟨k0,_,L⟩:=ZX B;have q:∃c,(sortedHeap (s.heap.push (seqObj "list" vs.toArray 0)) s.heap.objs.size vs (fW lt vs).toArray).get? s.heap.objs.size=some (seqObj "list" (fW lt vs).toArray c):=⟨_,get?_update_seq L fun _=>(fW lt vs).toArray⟩;obtain⟨c,q⟩:=q;refine AA (Ao (Av slot_list_sort ⟨_,B,rfl⟩ entry_list_sort ?inner (args_list_sort _)))
 refine zD B N (fun h2 g D=>U (by lia) g D) (fun i j hi hj g D=>S i j (by lia) (by lia) g D) ⟨_,rfl,AD ?_⟩;refine M _ _ (I.hok.fresh (AI _)) (I.laid (t':=s.toks) (fun b o e=>(Cy _ _ _ _ (J e)).trans (G b o e)) (AI _) ⟨by rw[zN,Cf];lia,fW lt vs,c,?_,q⟩)
 delta cF fW
 exact Y▸rC F _
abbrev jG(v d:Addr):Heap->Prop:=fun h=>h.IsItemsView v d
def HS:V->List V->Hp->VK->Prop:=fun x vs H Q=>∃d kvs,x=.ref d/\vs=[]/\H d=some (.dK kvs)/\∀v,H v=none->Q (.ref v) (upd H v (.ext (jG v d)))
def YV:MtR X "dict.items" HS:=by
 intro pins s σ H x xs v O Q I M L h;obtain⟨d,kvs,rfl,rfl,J,q⟩:=h;cases M;cases L;obtain⟨z,G,vs,N,g⟩:=lE I.hok J;refine Cz DK g.typeIs F.entry_dict_items (F.args_dict_items_1 _) (meets_dict_items (eQ X.prog X.w) d G) ⟨⟨vs,g⟩,⟨.ref s.heap.objs.size,_,I.laid (t':=s.toks) (fun b o e=>AE _ e) (AI _) ?_,rfl,q _ (I.hok.fresh (AI _))⟩⟩
 refine⟨⟨_,AK _ rfl,rfl,rfl⟩,⟨_,AK _ rfl⟩,?_⟩;rintro h1 h2 ⟨o,B,D⟩ e;exact⟨o,e o B,D⟩
def FQ(as:List Addr)(kvs:List (Key×V)):Addr->Option (List V):=fun b=>((as.zip kvs).find? fun p=>p.1==b).map fun p=>[kV p.2.1,p.2.2]
def GA{as:List Addr}(nd:as.Nodup){j:Nat}{p:Key×V}(g:as[j]?=some a)(B:kvs[j]?=some p):(as.zip kvs).find? (fun q=>q.1==a)=some (a,p):=by
 induction as generalizing kvs j with
 |nil=>cases g
 |cons x as D =>
  cases kvs with
  |nil=>cases B
  |cons y kvs =>
   rw[BA] at nd;rw[DC,BB]
   cases j with
   |zero=>cases g;cases B;simp
   |succ j =>
    exact(show(x==a)=false from Cu fun e=>nd.1 (e▸Ae g))▸D nd.2 g B
def nU{as:List Addr}{q:Addr×(Key×V)}(h:(as.zip kvs).find? (fun q=>q.1==b)=some q):q.1=b/\∃j:Nat,as[j]?=some b/\kvs[j]?=some q.2:=by
 have h1:=List.find?_some h;have h1:=eq_of_beq h1;obtain⟨j,hj⟩:=B7.mp (Bo h);rw[List.getElem?_zip_eq_some] at hj;exact⟨h1,j,by exact h1▸hj.1,hj.2⟩
theorem rO: ∀{as}{kvs},as.length=kvs.length->(∀(j:Nat)a p,as[j]?=some a->kvs[j]?=some p->H a=some (.tup [kV p.1,p.2]))->gG H as kvs
 |[],[],_,_=>.nil
 |[],_::_,h,_=>nomatch h
 |_::_,[],h,_=>nomatch h
 |a::as,p::kvs,h,k=>.cons (k 0 a p rfl rfl) (rO (A1 h) fun j g q h1 h2=>k (j+1) g q h1 h2)
def Q7(h:(eQ P w).is k u=true):RelV (kV k) u:=by
 rcases nJ h with ⟨i,t,rfl,rfl⟩ | ⟨x,t,rfl,rfl⟩ | ⟨rfl,rfl⟩
 .exact ⟨t,rfl⟩
 .exact ⟨t,rfl⟩
 .exact rfl
def Y5(r:KV kvs vs):∀{j:Nat}{p}{q:Key×Value},kvs[j]?=some p->vs[j]?=some q->p.1=q.1/\RelV p.2 q.2:=by
 induction r with
 |nil=>intro j p q h;cases h
 |cons h _ g =>
  intro j p q h1 h2
  cases j with
  |zero=>cases h1;cases h2;exact h
  |succ j=>exact g h1 h2
def Qp(hc:X.calm=true):CallR X (.builtin "sorted") (fun xs H Q=>∃v d kvs lt,xs=[.ref v]/\H v=some (.ext (jG v d))/\H d=some (.dK kvs)/\kvs.length < 64 /\
  ∀as H1,Same H H1->gG H1 as kvs->(∀a∈as,H a=none)->(∀a,H a=none->H1 a≠none->a∈as)->uc X H1 (List.map V.ref as) lt/\∀p,H1 p=none->Q (.ref p) (upd H1 p (.lst (cF lt (List.map V.ref as))))):=by
 intro pins s σ H xs aq Q I r h;obtain⟨v,d,kvs,lt,rfl,hv,ah,ao,O⟩:=h;obtain⟨u,rfl,rfl⟩:=r.one;obtain⟨z,hS,vs,U,dd⟩:=lE I.hok ah;obtain⟨ai,_,_⟩:=(I.hok v _ hv);obtain⟨ep,Z⟩:=dd.dictAt;have L:=U.length;refine DH kind_sorted plain_sorted entry_sorted (args_sorted1 _) (?_:wpAny _ _ (Builtin.«sorted» _) _ _ _);refine AA (AD (AA (kdx_collect (by simp[I.ok.hd hc]) ai Z (by rwa [<- L]) fun h' tk as aj M G=>?_)))
 have nd:=G.rise.imp fun h=>AY h;have N:=M.trans L.symm;have B:∀a∈as,s.heap.objs.size<=a:=fun a D=>Be (G.above a D)
 have F:Inv X pins σ (jk H (FQ as kvs)) { s with heap:=h',toks:=tk }:=I.tups aj fun b xs e=>by
  delta FQ at e
  cases z:(as.zip kvs).find? fun p=>p.1==b with
  |none=>rw[z] at e;cases e
  |some q =>
   rw[z] at e;cases e;obtain⟨e1,j,g,e3⟩:=nU z;refine bT (G.pairs j b g) fun ak k x ab ae ag=>?_;obtain⟨r1,r2⟩:=Y5 U e3 ab;refine⟨B b (Ae g),ie 2 rfl,[ak,x],.cons (r1▸Q7 ae) (.cons r2 .nil),⟨_,ag,rfl,⟨_,rfl⟩,rfl⟩⟩
 have J:∀b xs,FQ as kvs b=some xs->H b=none:=fun b xs e=>by
  delta FQ at e
  cases z:(as.zip kvs).find? fun p=>p.1==b with
  |none=>rw[z] at e;cases e
  |some q =>
   obtain⟨_,j,g,_⟩:=nU z;exact I.hok.fresh (B b (Ae g))
 obtain⟨hs,q⟩:=O as (jk H (FQ as kvs)) (fun b o e=>pK J e) (rO N fun j a p h1 h2=>jU (by delta FQ;rw[GA nd h1 h2];rfl)) (fun a D=>I.hok.fresh (B a D)) fun a n1 S=>by
  cases z:FQ as kvs a with
  |none=>rw[mK z] at S;exact absurd n1 S
  |some xs =>
   delta FQ at z
   cases y:(as.zip kvs).find? fun p=>p.1==a with
   |none=>rw[y] at z;cases z
   |some q =>
    obtain⟨_,j,g,_⟩:=nU y;exact Ae g
 have rv:Vals (as.map V.ref) (as.map Value.ref):=by
  clear nd N B F J hs q M G O
  induction as with
  |nil=>exact .nil
  |cons a as ih=>exact .cons rfl ih
 exact tH (AI _) F rv (by grind) hs fun p s' hp Y=>⟨_,rfl,.ref p,_,Y,rfl,q p hp⟩
end
end L2
namespace L2
open PySem PySem.Spec PyProof.Rows
section
variable {X:Cx}{pins:List (Addr×Obj)}{σ:St}{H:Hp}{s:Shared}{d:Addr}{o:Obj}{kvs:List (Key×V)}
def Inv.freeze(I:Inv X pins σ H s)(B:H d=some (.dK kvs))(F:s.heap.get? d=some o):Inv X pins σ (upd H d (.frz o (.dK kvs))) { s with toks:=t' }:=by
 have g:∀{b:Addr}{u:HO},H b=some u->u≠.dK kvs->b≠d:=fun e n z=>by subst z;rw[B] at e;cases e;exact n rfl
 refine I.un (h':=s.heap) ⟨fun b u q _ _ _=>q,fun b u q _ _ _=>⟨u.slots,q⟩,fun b u q n _=>by rw[uQ (fun z=>by subst z;rw[B] at n;cases n)];exact n,fun b u q _=>⟨u,q⟩,
  fun b xs q=>by rw[uQ (g q nofun)];exact q,fun b u v q=>by rw[uQ (g q nofun)];exact q,fun b ps q=>⟨#[],by rw[uQ (g q nofun),q];simp⟩⟩ fun b u e=>?_
 have st:∀{b:Addr}{u:HO},H b=some u->ObjOk X.prog X.w (upd H d (.frz o (.dK kvs))) s.heap b u:=fun {b u}e=>(I.hok b u e).stay (fun c v _ q=>q) (fun c q=>by rwa [uQ (g q nofun)]) fun c xs q=>by rwa [uQ (g q nofun)]
 by_cases D:b=d
 .subst D
  rw[mQ] at e;cases e;exact⟨F,st B⟩
 .rw [uQ D] at e
  exact st e
def NF(X:Cx)(d:Addr):Prop:=∀g u,X.H₀ d≠some (.frz g u)
def Inv.nf(I:Inv X pins σ H s)(g:H d=some (.dK kvs)):NF X d:=fun q u e=>by
 have:=I.base.frzs d q u e;rw[g] at this;cases this
def Inv.Sw(I:Inv X pins σ H s)(G:H d=some (.frz o (.dK kvs)))(Z:NF X d):Inv X pins σ (upd H d (.dK kvs)) s:=by
 have D:∀{b:Addr}{u:HO},H b=some u->u≠.frz o (.dK kvs)->b≠d:=fun e n z=>by subst z;rw[G] at e;cases e;exact n rfl
 have F:∀{b:Addr},H b=none->b≠d:=fun e z=>by subst z;rw[G] at e;cases e
 obtain⟨m,S,O⟩:=I.loc;have B:=I.base;have st:∀{b:Addr}{u:HO},H b=some u->ObjOk X.prog X.w (upd H d (.dK kvs)) s.heap b u:=fun {b u}e=>(I.hok b u e).stay (fun c v _ q=>q) (fun c q=>by rwa [uQ (D q nofun)]) fun c xs q=>by rwa [uQ (D q nofun)]
 refine⟨I.ok,I.os,I.bare,⟨B.keep,B.slot,fun b u q n x=>by rw[uQ (F (B.free b u q n x))];exact B.free b u q n x,B.there,fun b xs q=>?_,fun b L u q=>?_,fun b ps q=>?_⟩,⟨m,S,O⟩,I.cell,by rw[uQ (F I.free)];exact I.free,fun x c e=>by rw[uQ (F (I.freeC x c e))];exact I.freeC x c e,fun p U=>?_,fun b u e=>?_,I.len⟩
 .have:=B.tups b xs q
  rwa [uQ (D this nofun)]
 .have:=B.frzs b L u q
  have g:b≠d:=fun z=>by subst z;exact Z L u q
  rwa [uQ g]
 .obtain ⟨Y,e⟩:=B.tbls b ps q
  exact⟨Y,by rwa [uQ (D e nofun)]⟩
 .exact lT (I.pin p U) fun M J N=>⟨M,by exact(uQ (F J))▸J,N⟩
 .by_cases g:b=d
  .subst g
   rw[mQ] at e;cases e;exact(st G).2
  .rw [uQ g] at e
   exact st e
def xu(h:JE X e t):JE X e (fun σ H Q=>t σ H fun v H'=>∃d o kvs,H' d=some (.frz o (.dK kvs))/\NF X d/\Q v (upd H' d (.dK kvs))) :=
 ⟨fun pins s σ H Q I q=>thn (h.h pins s σ H _ I q) fun u J ⟨v,H1,g,G,d,o,kvs,B,D,F⟩=>⟨v,_,g.Sw B D,G,F⟩⟩
end
def Itd(o:Obj)(d:Addr)(kvs:List (Key×V)):It :=
 ⟨fun i H=>i < kvs.length/\H d=some (.frz o (.dK kvs)),fun i H x H'=>H'=H/\∃p,kvs[i]?=some p/\x=kV p.1,fun i H=>kvs.length<=i/\H d=some (.frz o (.dK kvs))⟩
def Gz{σ:St}(I:Inv X pins σ H s)(F:H d=some (.frz o (.dK kvs)))(g:o.data=.dict es ep):
  ∃vs,KV kvs vs/\s.heap.DictAt (eQ X.prog X.w) d vs ep/\(d==sysModules)=false:=by
 obtain⟨e,_,D,vs,L,o',N,M,q,G,B,J⟩:=(I.hok d _ F);rw[e] at q;cases q;rw[g] at B;cases B;exact⟨vs,L,⟨o,es,e,G,g,J⟩,D⟩
def Vt{K}o d it kvs es ep(ho:o.data=.dict es ep):Zi P w K tg (Itd o d kvs) [it] it (fun i h=>h.IsKeyIter it d i kvs.length ep) where
 mem:=by simp
 obj:=fun i h st b g=>by
  have e:b=it :=by grind
  subst e;exact jJ st fun o e c d=>⟨o,e,fun v z=>by rw[d] at z;cases z⟩
 keep:=fun i h h' st k=>let ⟨ob,e,r⟩:=st;⟨ob,k it (by simp) ob e,r⟩
 item:=by
  intro X S Z O hc i pins s σ H E I q st Y;subst S Z O;obtain⟨hi,U⟩:=Y;obtain⟨vs,D,F,_⟩:=Gz I U ho;have B:=D.length;refine pT (q it (by simp)) fun G J ab L M N=>?_;have hv:vs[i]?=some (vs[i]'(by lia)):=AN _;have hk:kvs[i]?=some kvs[i]:=AN _;obtain⟨r1,_⟩:=Y5 D hk hv;rw[B] at st;refine wpAny_pyNext_dict_item st F hv fun ae h' ik st' sb=>?_
  have I1:=I.turned (t':=s.toks) (fun b o g e=>(sb.2 b g).trans e) G J L M N;exact jJ (id st') fun ob e c dt=>⟨ae,rfl,gE e c dt rfl ⟨kV kvs[i].1,H,I1,by rw[r1];exact Q7 ik,⟨rfl,_,hk,rfl⟩,by rw[B];exact st',fun b g=>(q b g).1⟩⟩
 done:=by
  intro X S Z O hc i pins s σ H E I q st Y;subst S Z O;obtain⟨hi,U⟩:=Y;obtain⟨vs,D,F,_⟩:=Gz I U ho;have B:=D.length;refine pT (q it (by simp)) fun G J ab L M N=>?_;rw[B] at st;exact wpAny_pyNext_dict_end (I.ok.hd hc) st F (DF.mpr (by lia)) fun h' eb=>⟨rfl,I.turned (t':=s.toks) (fun b o g e=>eb b o g e) G J L M N⟩
 self:=fun _ _ _ _ _ st h=>wpAny_pyIter_keyiter st h
section
variable {X:Cx}{tg:Expr}
def O6(X:Cx)(td:TE):TI:=fun σ H R=>td σ H fun x H1=>∃d kvs,x=.ref d/\H1 d=some (.dK kvs)/\∀o,NF X d->R (Itd o d kvs) (upd H1 d (.frz o (.dK kvs)))
def xr(O:JE X e td):JI X tg e (O6 X td):=by
 refine⟨fun pins s σ H R I h=>thn (O.h pins s σ H _ I h) fun v g Z=>vZ Z fun x H1 B U S=> ?_⟩;obtain⟨d,kvs,rfl,F,q⟩:=S;cases U;obtain⟨z,N,vs,Y,J⟩:=lE B.hok F;obtain⟨ep,G⟩:=J.dictAt;refine mT (id G) fun o es L ab M g4=>?_;have D:=B.freeze (t':=g.toks) F L;refine wpAny_pyIter_dict N G ⟨g.heap.objs.size,[g.heap.objs.size],_,_,_,rfl,D.kept (t':=g.toks) fun b o e=>AE _ e,Vt o d _ kvs es ep M,⟨_,AK _ rfl,rfl,by rw[Y.length];rfl⟩,fun b hb=>?_,q o (B.nf F)⟩
 have e:b=g.heap.objs.size :=by grind
 subst e;exact D.fpOk (AI _) (D.hok.fresh (AI _))
end
end L2
namespace PySem.W
open PySem PySem.Calls PyProof.Rows PyProof.V PySem.Spec
def lg(h:Heap)(d:Addr)(es:Array DictEntry)(ep:Nat):Prop:=∃o,h.get? d=some o/\o.ExactDict/\o.data=.dict es ep
theorem lg.at(x:lg h d es ep)(k:∀o,h.get? d=some o->h'.get? d=some o):lg h' d es ep:=let ⟨o,e,r⟩:=x;⟨o,k o e,r⟩
abbrev Nj(h:Heap)(it d:Addr)(i n ep:Nat)(x0 ok ov:Value)(f:Bool):Prop:=h.get? it=some { cls:=.type "dict_itemiterator",dict:=none,data:=.fields #[x0,.bool f,.ref d,.int i 0,.int n 0,.int ep 0,ok,ov],slots:=#[] }
def Et(h:Heap)(it d S:Addr)(i n ep:Nat):Prop:=∃g B D f,Nj h it d i n ep g B D f/\((g=.none/\f=false)\/∃a q,g=rawInt (a:Nat)/\h.get? a=some q/\a≠it/\a≠S)
theorem Et.keep(x:Et h it d S i n ep)(k:∀b o,b≠S->h.get? b=some o->h'.get? b=some o)(q:it≠S):Et h' it d S i n ep:=by
 refine yu x fun L D F f e r=>⟨L,D,F,f,k _ _ q e,r.imp id ?_⟩;rintro⟨a,B,G,I,J,g⟩;exact⟨a,B,G,k _ _ g I,J,g⟩
section
variable {prog:Program}{w:World}{A:Around}{E:Value->Shared->Prop}{s:Shared}
def Q8(hh:A.handled=none)(ax:Et s.heap it d S i n ep)(hS:S < s.heap.objs.size)(hD:lg s.heap d es ep)(hn:es.size=n)(av:∀e h',es[i]?=some e->Et h' it d S (i+1) n ep->h'.get? s.heap.objs.size=some { cls:=.type "tuple",data:=.seq #[e.key,e.val] }->h'.objs.size=s.heap.objs.size+1->(∀b o,b≠it->s.heap.get? b=some o->h'.get? b=some o)->Q (some (.ref s.heap.objs.size)) { s with heap:=h' })(au:es[i]?=none->∀h',(∀b o,b≠it->s.heap.get? b=some o->h'.get? b=some o)->Q none { s with heap:=h' }):wpAny (model prog w) A (pyNext (.ref it)) Q E s:=by
 obtain⟨Y,g,Z,tk,ae⟩:=s;refine jJ hD fun od d1 d2 d3=>yu ax fun a4 ar ov f U ay=>?_;subst hn;have M:Shared.TypeIs ⟨Y,g,Z,tk,ae⟩ (.ref it) "dict_itemiterator":=⟨_,U,rfl⟩;have aw:Builtin.Dict_items.ownsTuple "dict_itemiterator" = true:=by decide
 delta pyNext
 refine AA (DL (BG M Cb (Av Cb M PySem.F.entry_dict_itemiterator_next (AA (AD ?_)) (PySem.F.args_dict_itemiterator_next_1 _))));refine AA (AA (AA (Cr M (AD (AA (wpAny_fieldsOf U rfl ?_))))))
 (simp only[aw,if_true];show wpAny _ _ (if (Value.ref d==Value.none)=true then _ else _) _ _ _;rw[Ac (show ¬ ((Value.ref d==Value.none)=true) from AR)])
 refine AA (AD (AA (Ci d1 d3 ?_)))
 (rw[Ac (by simp)];refine AA (AD (AA (Ct d1 d3 ?_)));rw[Ac (by simp)];apply AD)
 cases hx:es[i]? with
 |none =>
  (simp only[show ¬ ((i:Int) < 0) from by lia,if_false,Int.toNat_natCast,hx];refine AA (AA (Cr M (AD ?_))))
  (show wpAny _ _ (setField (.ref it) 2 .none >>= _) _ _ _;refine AA (DA U rfl (by simp) ?_))
  (apply AA;simp only[newExc,newTuple];refine AA (Aw ?_ (by size_fits)))
  refine AA (wpAny_of_eq (by first | rfl | (simp only[firstArgMember];rfl)) (Aw ?_ (by size_fits)))
  (simp only[raiseNew];refine AA (wpAny_handled ?_);rw[show A.in1.handled=none from hh];refine AA (AD (wpAny_throw ?_)))
  (refine AA (BR ⟨_,AK _ rfl,rfl⟩ isSubtype_stop ?_))
  exact AD (au hx _ fun b o N e=>(((BU ..).extBut.push _).push _) b o N e)
 |some e =>
  have aj:=AH U
  (simp only[show ¬ ((i:Int) < 0) from by lia,if_false,Int.toNat_natCast,hx];refine AA (AA (Cr M (AD ?_))))
  (refine AA (DU M ?_);show wpAny _ _ (setField (.ref it) 3 (rawInt ((i:Int)+1)) >>= _) _ _ ⟨Y,g,Z,tk,ae⟩)
  refine AA (A7 U (by simp) fun ak O ab=>?_);have ab:=ab
  have O:Nj ak it d (i+1) es.size ep a4 ar ov f:=by
   have z:((i+1:Nat):Int)=(i:Int)+1:=by lia
   (delta Nj;rw[z];simpa [rawInt] using O)
  have ai:Shared.TypeIs ⟨ak,g,Z,tk,ae⟩ (.ref it) "dict_itemiterator":=⟨_,O,rfl⟩;refine AA (Ao (AA (DU ai (AA (DU ai ?_)))))
  (delta Builtin.Dict_items.pairFromOwner;refine AA (Df ?_))
  obtain⟨D,L⟩:∃D,D=ak.push { cls:=.type "tuple",data:=.seq #[e.key,e.val] }:=⟨_,rfl⟩;have I:=ab.1;have J :=L▸AE _ O;have t2 :=L▸I▸AK _ rfl;have z2:D.objs.size=Y.objs.size+1:=by rw[L,B1,I]
  have k2:∀b o,b≠it->Y.get? b=some o->D.get? b=some o:=fun b o N q=>L▸AE _ (ab.extBut b o N q);have ah:∀B:Heap,Heap.SameBut it D B->Et B it d S (i+1) es.size ep->Q (some (.ref Y.objs.size)) ⟨B,g,Z,tk,ae⟩:=fun B G r=>av e B hx r (G.extBut _ _ (Aq aj) t2) (by rw[G.1,z2]) fun b o N q=>G.extBut b o N (k2 b o N q)
  (rw[<- L])
  clear L O ai
  (apply AA;delta Builtin.Dict_items.ownedTupleIsFree;refine AA (As J rfl rfl ?_))
  rcases ay with ⟨rfl,rfl⟩ | ⟨a,oa,rfl,ha,ao,az⟩
  ·(apply AD;simp only[if_true])
   refine AA (As J rfl rfl (AA (As J rfl rfl (AA (A7 J (by simp) fun B e3 ag=>?_)))));refine AA (A7 e3 (by simp) fun h4 e4 a0=>?_);refine AA (A7 e4 (by simp) fun h5 e5 a3=>?_);refine AA (A7 e5 (by simp) fun h6 e6 s6=>?_);have G:=((Heap.SameBut.trans ag a0).trans a3).trans s6
   have a6 :=I▸G.extBut _ _ (Aq aj) t2;have rs:Et h6 it d S (i+1) es.size ep:=⟨_,_,_,_,e6,.inr ⟨_,_,rfl,a6,by rw[I];exact Aq aj,by exact I▸Aq hS⟩⟩;have F:=ah h6 G rs;rw[<- I] at F;exact AA (Dg (AD (AD ⟨_,rfl,AD F⟩)))
  .have aq:=k2 a oa ao ha
   have rs:∀B fl,Heap.SameBut it D B->Nj B it d (i+1) es.size ep (rawInt (a:Nat)) ar ov fl->Et B it d S (i+1) es.size ep:=fun B fl G r=>⟨_,_,_,_,r,.inr ⟨a,oa,rfl,G.extBut a oa ao aq,ao,az⟩⟩
   (show wpAny _ _ (loadIfAlive ((a:Int).toNat) >>= _) _ _ _;rw[DJ])
   (refine AA (kdx_alive aq ?_);simp only[Option.isNone_some,Bool.false_eq_true,if_false];refine AA (As J rfl (x:=.bool f) rfl ?_))
   cases f with
   |true =>
    (rw[Ac (show ¬ ((Value.bool true != Value.bool true)=true) from AR)];apply AD;simp only[Bool.false_eq_true,if_false])
    have F:=ah D (Heap.SameBut.refl _ _) (rs D true (Heap.SameBut.refl _ _) J);rw[<- I] at F;exact AD (AD ⟨_,rfl,AD F⟩)
   |false =>
    (rw[Ab (show(Value.bool false != Value.bool true)=true from rfl)];refine AA (A7 J (by simp) fun B e3 ag=>?_))
    have F:=ah B ag (rs B true ag e3);rw[<- I] at F
    (apply AD;simp only[Bool.false_eq_true,if_false])
    exact AD (AD ⟨_,rfl,AD F⟩)
structure km(es:Array DictEntry)(lo:Addr)(h:Heap)(as:List Addr):Prop where
 rise:as.Pairwise (· < ·)
 above:∀a∈as,lo < a
 pairs:∀(j:Nat)(a:Addr),as[j]?=some a->∃e,es[j]?=some e/\h.get? a=some { cls:=.type "tuple",data:=.seq #[e.key,e.val] }
def km.there{lo}(g:km es lo h as)(B:a∈as):a < h.objs.size:=by
 obtain⟨j,hj⟩:=B7.mp B;exact sQ (g.pairs j a hj) fun e _ q=>AH q
def km.snoc{lo}{p:Addr}(g:km es lo h as)(k:∀b o,lo < b->h.get? b=some o->h'.get? b=some o)(F:h.objs.size=p)(L:lo < p)(J:es[as.length]?=some e)(M:h'.get? p=some { cls:=.type "tuple",data:=.seq #[e.key,e.val] }):km es lo h' (as++[p]) where
 rise:=Dj.mpr ⟨g.rise,DQ _ _,fun a q b D=>by
  cases AF.mp D
  exact F▸g.there q⟩
 above:=fun a q=>by
  rcases Ax.mp q with q | q
  .exact g.above a q
  .grind
 pairs:=fun j a hj=>by
  by_cases h1:j < as.length
  .rw [CU h1] at hj
   exact sQ (g.pairs j a hj) fun B G I=>⟨B,G,k a _ (g.above a (Ae hj)) I⟩
  .by_cases h2:j=as.length
   .simp_all
   .grind
def W4{ag:Heap}(hh:A.handled=none)(ab:S < I)(aj:d≠S)(ai:d≠I)(hz:es.size<=sizeLine)(hR:∀h' q acc c as,(∀b o,b≠S->b≠I->ag.get? b=some o->h'.get? b=some o)->h'.get? S=some { cls:=.type "list",dict:=none,data:=.seq acc c,slots:=#[] }->as.length=es.size->km es I h' as->acc.toList=as.map Value.ref->R (.ok (.ret res)) { s with heap:=h',toks:=q }):
  ∀k h q c acc as,as.length+k=es.size->Et h I d S as.length es.size ep->lg h d es ep->(∀b o,b≠S->b≠I->ag.get? b=some o->h.get? b=some o) ->
   h.get? S=some { cls:=.type "list",dict:=none,data:=.seq acc c,slots:=#[] }->acc.toList=as.map Value.ref->km es I h as->I < h.objs.size ->
   codeAny (model prog w) A (.builtin "list.extend.loop" ⟨[.ref S,.ref I,res],[]⟩) R { s with heap:=h,toks:=q }:=by
 have O:=AY ab;intro k
 induction k with
 |zero =>
  intro h q c acc as hk L F N D J B G
  (apply BV CQ)
  (refine AA (Q8 hh L (AH D) F rfl (fun e h' M=>?_) fun _ h' g=>?_))
  .grind
  .exact AD (hR h' q acc c as (fun b o h1 h2 e=>g b o h2 (N b o h1 h2 e)) (g S _ O D) (by lia) ⟨B.rise,B.above,fun j a hj=>let ⟨e,q1,q2⟩:=B.pairs j a hj;⟨e,q1,g a _ (Aq (B.above a (Ae hj))) q2⟩⟩ J)
 |succ k ih =>
  intro h q c acc as hk L F N D J B G;have hsz:acc.size=as.length:=by rw[<- Ay,J,AC]
  (apply BV CQ)
  (refine AA (Q8 hh L (AH D) F rfl (fun e h' M ak ht ar g=>?_) fun M=>?_))
  .have g:=g
   have Z:=g S _ O D;have U:∀b o,b≠S->h'.get? b=some o->(h'.update S (Obj.mapSeq (·.push (Value.ref h.objs.size)))).get? b=some o:=fun b o ao e=>(BI _ _ (Ne.symm ao)).trans e;have Y:∀b o,b≠S->b≠I->h.get? b=some o->(h'.update S (Obj.mapSeq (·.push (Value.ref h.objs.size)))).get? b=some o:=fun b o n1 n2 e=>U b o n1 (g b o n2 e);have ae:=U _ _ (Aq (AH D)) ht
   have ah:=B.snoc (fun b o lb e=>Y b o (Aq (Nat.lt_trans ab lb)) (Aq lb) e) rfl G M ae;have hl:(as++[h.objs.size]).length=as.length+1 :=by grind
   have aq:=ih _ q _ (acc.push (Value.ref h.objs.size)) (as++[h.objs.size]) (by rw[hl];lia) (hl▸ak.keep U (Ne.symm O)) (F.at fun o e=>Y d o aj ai e) (fun b o h1 h2 e=>Y b o h1 h2 (N b o h1 h2 e)) (A4 _ Z rfl) (by grind) ah (Nat.lt_trans G (AH ae))
   (apply AA)
   exact Bp Z rfl (AD ⟨BY CP _,aq⟩) (by lia) (by grind)
  .grind
end
section
variable {prog:Program}{w:World}{A:Around}{E:Value->Shared->Prop}{s:Shared}{v d:Addr}{es:Array DictEntry}{ep:Nat}
def W5(g:s.heap.IsItemsView v d)(D:lg s.heap d es ep)(F:∀h':Heap,(∀b o,s.heap.get? b=some o->h'.get? b=some o)->h'.objs.size=s.heap.objs.size+1->Nj h' s.heap.objs.size d 0 es.size ep .none .none .none false->Q (.ref s.heap.objs.size) { s with heap:=h' }):
  wpAny (model prog w) A (pyIter (.ref v)) Q E s:=by
 refine jJ (id g) fun N I O J=>jJ D fun M q L B=>?_;have G:Builtin.Dict_items.ownsTuple "dict_itemiterator" = true:=by decide
 refine wpAny_pyIter_slot g.typeIs PySem.F.slot_dict_items_iter (Av PySem.F.slot_dict_items_iter g.typeIs PySem.F.entry_dict_items_iter ?_ (PySem.F.args_dict_items_iter_1 _))
 (refine AA (AD (AA (AA (As I J rfl (AD (AA ?_)))))))
 (refine AA (Ci q B (AA (Ct q B ?_)));simp only[G,if_true])
 refine Aw (AD ⟨_,rfl,"dict_itemiterator",_,⟨_,AK _ rfl,rfl⟩,Cb.lookup,?_⟩) (by simp only[sizeOk,Builtin.Dict_items.ownedTupleFields,List.size_toArray,List.length_append,List.length_cons,List.length_nil,sizeLine_eq];lia)
 exact F _ (fun b o e=>AE _ e) (B1 _ _) (by
  have e:=AK (o:={ cls:=.type "dict_itemiterator",data:=.fields #[.none,.bool false,.ref d,.int 0 0,.int es.size 0,.int ep 0,.none,.none] }) s.heap rfl
  simpa [Nj,rawInt,Builtin.Dict_items.ownedTupleFields] using e)
def ZF(hh:A.handled=none)(J:s.heap.IsItemsView v d)(G:lg s.heap d es ep)(aj:S≠v)(Y:d≠S)(N:s.heap.get? S=some { cls:=.type "list",data:=.seq #[] ab })(hz:es.size<=sizeLine)(hR:∀h' B acc c as,(∀b o,b≠S->s.heap.get? b=some o->h'.get? b=some o)->h'.get? S=some { cls:=.type "list",dict:=none,data:=.seq acc c,slots:=#[] }->as.length=es.size->km es s.heap.objs.size h' as->acc.toList=as.map Value.ref->R (.ok (.ret res)) { s with heap:=h',toks:=B }):
  wpAny (model prog w) A.in1 (Builtin.List.listExtendWith (.ref S) (.ref v) res) (fun ah s'=>match ah with | .done f=>R (.ok f) s' | .again L=>L.quiet=true/\codeAny (model prog w) A L R s') (fun e s'=>R (.error e) s') s:=by
 have U:=AH N;have ao:=let ⟨_,e,_⟩:=G;AH e
 delta Builtin.List.listExtendWith
 refine AA (CJ J.typeIs ?_);have ae:Builtin.List.listSameRef (.ref S) (.ref v)=false:=by simp[Builtin.List.listSameRef,aj]
 have ag:(Value.type "dict_items" == Value.type "list")=false:=by decide
 have f3:(Value.type "dict_items" == Value.type "tuple")=false:=by decide
 (simp only[ae,ag,f3,Bool.or_false,Bool.false_eq_true,if_false];refine AA (W5 J G fun h1 D z1 r1=>?_))
 have Z:∀h F B,(∀b o,b≠S->h1.get? b=some o->h.get? b=some o)->h.get? S=some { cls:=.type "list",data:=.seq #[] F }->codeAny (model prog w) A (.builtin "list.extend.loop" ⟨[.ref S,.ref s.heap.objs.size,res],[]⟩) R { s with heap:=h,toks:=B }:=by
  intro h F B I q;have M:=I _ _ (Aq U) r1;refine W4 hh U Y (AY ao) hz (fun h' aq acc c as kk ai hl hG ak=>hR h' aq acc c as (fun b o g e=>kk b o g (AY (AH e)) e) ai hl hG ak) es.size h B F #[] [] (BS _) ⟨_,_,_,_,M,.inl ⟨rfl,rfl⟩⟩ (G.at fun o e=>I d o Y (D d o e)) (fun b o g _ e=>I b o g (D b o e)) q rfl ⟨.nil,(fun _ z=>nomatch z),(fun j a z=>by simp at z)⟩ (AH M)
 have q:=D _ _ N;refine AA (Ao (kdx_hint (let ⟨o,ho,hc,_⟩:=J;⟨o,D _ _ ho,hc⟩) ?_));refine Cc (fun _=>?_) (fun _=>AD ⟨BY CP _,Z _ ab _ (fun b o _ e=>e) q⟩)
 (refine AA (Bv (AA (AA (Bp q rfl ?_)))))
 have O:=A4 (Obj.mapSeq (·.push Value.none)) q rfl;refine Bp O rfl (AD ⟨BY CP _,Z _ _ _ (fun b o g e=>?_) (A4 (Obj.mapSeq (·.pop)) O rfl)⟩);exact(BI _ _ (Ne.symm g)).trans ((BI _ _ (Ne.symm g)).trans e)
def km.low{lo}(g:km es lo h as)(B:D<=lo):km es D h as:=⟨g.rise,fun a q=>Ah B (g.above a q),g.pairs⟩
def Q9(hh:A.handled=none)(N:s.heap.IsItemsView v d)(M:lg s.heap d es ep)(hz:es.size<=sizeLine)(Y:∀(h':Heap)(g:Nat)(as:List Addr),(∀b o,s.heap.get? b=some o->h'.get? b=some o)->as.length=es.size->km es s.heap.objs.size h' as->R (as.map Value.ref) { s with heap:=h',toks:=g }):wpAny (model prog w) A (collect (.ref v)) R E s:=by
 have ah:=let ⟨_,J,_⟩:=N;AH J
 have ag:=let ⟨_,e,_⟩:=M;AH e
 (refine AA (wpAny_runValue (BV entry_proto_collect' ?_)))
 (refine AA (Aw (AD ⟨BY PySem.F.plain_list_iadd _,BV entry_list_iadd' ?_⟩)))
 have L:∀b o,s.heap.get? b=some o->(s.heap.push { cls:=.type "list",data:=.seq ([]:List Value).toArray }).get? b=some o:=fun b o e=>AE _ e;have ab:(s.heap.push { cls:=.type "list",data:=.seq ([]:List Value).toArray }).get? s.heap.objs.size=some { cls:=.type "list",data:=.seq #[] }:=AK _ rfl
 have ai:=ZF (prog:=prog) (w:=w) (s:={ s with heap:=s.heap.push { cls:=.type "list",data:=.seq ([]:List Value).toArray } })
  (R:=fun q s'=>∃h' g acc c as,q=.ok (.ret (.ref s.heap.objs.size))/\s'={ s with heap:=h',toks:=g }/\(∀b o,s.heap.get? b=some o->h'.get? b=some o)/\h'.get? s.heap.objs.size=some { cls:=.type "list",dict:=none,data:=.seq acc c,slots:=#[] }/\as.length=es.size/\km es s.heap.objs.size h' as/\acc.toList=as.map Value.ref)
  hh (let ⟨o,J,x⟩:=N;⟨o,L _ _ J,x⟩) (M.at fun o e=>L d o e) (Aq ah) (AY ag) ab hz fun h' g acc c as hk Z hl U ae=>⟨h',g,acc,c,as,rfl,rfl,fun b o e=>hk b o (AY (AH e)) (L b o e),Z,hl,U.low (by simp_all),ae⟩
 refine BQ ai (fun S s' x=>?_) fun e s' x=>?_
 .have O:∀h' g acc c as,(∀b o,s.heap.get? b=some o->h'.get? b=some o)->h'.get? s.heap.objs.size=some { cls:=.type "list",dict:=none,data:=.seq acc c,slots:=#[] }->as.length=es.size->km es s.heap.objs.size h' as->acc.toList=as.map Value.ref->R acc.toList { s with heap:=h',toks:=g }:=fun h' g acc c as B _ F G I=>I▸Y h' g as B F G
  cases S with
  |done f =>
   obtain⟨h',g,acc,c,as,e,rfl,B,D,F,G,I⟩:=x;cases e
   (exact AA (wpAny_load D (AD (O h' g acc c as B D F G I))))
  |again c1 =>
   refine⟨x.1,DV x.2 ?_⟩;rintro q aj ⟨h',g,acc,c,as,rfl,rfl,B,D,F,G,I⟩
   (exact AA (wpAny_load D (AD (O h' g acc c as B D F G I))))
 .lia
end
end PySem.W
namespace L2
open PySem PySem.W PyProof.Rows
section
variable {α:Type}{as:List Addr}{ps:List α}
def Ht(nd:as.Nodup){j:Nat}(g:as[j]?=some a)(B:ps[j]?=some p):(as.zip ps).find? (fun q=>q.1==a)=some (a,p):=by
 induction as generalizing ps j with
 |nil=>cases g
 |cons x as D =>
  cases ps with
  |nil=>cases B
  |cons y ps =>
   have nd:=BA.mp nd;rw[DC,BB]
   cases j with
   |zero=>cases g;cases B;simp
   |succ j =>
    exact(show(x==a)=false from Cu fun e=>nd.1 (e▸Ae g))▸D nd.2 g B
def Hs(h:(as.zip ps).find? (fun q=>q.1==b)=some q):∃j:Nat,as[j]?=some b/\ps[j]?=some q.2:=by
 have h0:=List.find?_some h;obtain⟨j,hj⟩:=B7.mp (Bo h);rw[List.getElem?_zip_eq_some] at hj;exact⟨j,by exact(eq_of_beq h0)▸hj.1,hj.2⟩
end
inductive MT(H:Hp):List Addr->List (List Key×V)->Prop
 |nil:MT H [] []
 |cons {a b:Addr} {k:List Key} {v:V} {as:List Addr} {kvs:List (List Key×V)} (h1:H a=some (.tup [.ref b,v])) (h2:H b=some (.tup (k.map kV))) (r:MT H as kvs):MT H (a::as) ((k,v)::kvs)
def mkT(as:List Addr)(ps:List (Addr×V)):Addr->Option (List V):=fun b=>((as.zip ps).find? fun p=>p.1==b).map fun p=>[.ref p.2.1,p.2.2]
theorem WR: ∀{as}{kvs},as.length=kvs.length->(∀(j:Nat)a p,as[j]?=some a->kvs[j]?=some p->∃b,H a=some (.tup [.ref b,p.2])/\H b=some (.tup (p.1.map kV)))->MT H as kvs
 |[],[],_,_=>.nil
 |[],_::_,h,_=>nomatch h
 |_::_,[],h,_=>nomatch h
 |a::as,p::kvs,h,k=>let ⟨b,q,B⟩:=k 0 a p rfl rfl;.cons q B (WR (A1 h) fun j g D h1 h2=>k (j+1) g D h1 h2)
def JX(r:KT H kvs xs):∃ps:List (Addr×V),ps.length=kvs.length/\∀j:Nat,∀p∈ps[j]?,∃k u,kvs[j]?=some (k,p.2)/\xs[j]?=some (k,p.1,u)/\H p.1=some (.tup (k.map kV))/\RelV p.2 u:=by
 induction r with
 |nil=>exact⟨[],rfl,fun j p h=>by cases h⟩
 |@cons p q I J h r B =>
  obtain⟨ps,e,f⟩:=B;obtain⟨k,v⟩:=p;obtain⟨G,b,u⟩:=q;obtain⟨rfl,D,F⟩:=h;refine⟨(b,v)::ps,by rw[AV,AV,e],fun j p g=>?_⟩
  cases j with
  |zero=>cases g;exact⟨k,u,rfl,rfl,D,F⟩
  |succ j=>exact f j p g
section
variable {X:Cx}
def XA d(q:(d==sysModules)=false):MeetsIn prog w (Builtin.«dict.items» ⟨[.ref d],[]⟩) (fun _ R s=>s.TypeIs (.ref d) "dict"/\R (.ok (.ret (.ref s.heap.objs.size))) { s with heap:=s.heap.push { cls:=.type "dict_items",data:=.fields #[.ref d] } }) :=
 .of_wp fun A R s B=>sD B fun g h=> by
  (apply AA;refine AA (B5 g ?_))
  (apply AD;delta Builtin.Dict.showsAll)
  (exact(Ac (q▸AR))▸AA (AD (AA (Aw (AD ⟨_,rfl,h⟩)))))
def u9:V->List V->Hp->VK->Prop:=fun x vs H Q=>∃d kvs,x=.ref d/\vs=[]/\H d=some (.dT kvs)/\∀v,H v=none->Q (.ref v) (upd H v (.ext (jG v d)))
def VZ:MtR X "dict.items" u9:=by
 intro pins s σ H x xs v O Q I M L h;obtain⟨d,kvs,rfl,rfl,J,q⟩:=h;cases M;cases L;obtain⟨z,G,ys,N,g⟩:=GI I.hok J;refine Cz DK g.typeIs F.entry_dict_items (F.args_dict_items_1 _) (XA d G) ⟨g.typeIs,⟨.ref s.heap.objs.size,_,I.laid (t':=s.toks) (o:=.ext (jG s.heap.objs.size d)) (fun b o e=>AE _ e) (AI _) ⟨⟨_,AK _ rfl,rfl,rfl⟩,⟨_,AK _ rfl⟩,?_⟩,rfl,q _ (I.hok.fresh (AI _))⟩⟩
 rintro h1 h2 ⟨o,B,D⟩ e;exact⟨o,e o B,D⟩
def Qo(hc:X.calm=true):CallR X (.builtin "sorted") (fun xs H Q=>∃v d kvs lt,xs=[.ref v]/\H v=some (.ext (jG v d))/\H d=some (.dT kvs)/\kvs.length < 64 /\
  ∀as H1,Same H H1->MT H1 as kvs->(∀a∈as,H a=none)->(∀a,H a=none->H1 a≠none->a∈as)->uc X H1 (List.map V.ref as) lt/\∀p,H1 p=none->Q (.ref p) (upd H1 p (.lst (cF lt (List.map V.ref as))))):=by
 intro pins s σ H xs aw Q I r h;obtain⟨v,d,kvs,lt,rfl,hv,aq,av,hq⟩:=h;obtain⟨u,rfl,rfl⟩:=r.one;obtain⟨z,hS,ys,aj,dd⟩:=GI I.hok aq;refine lT (I.hok v _ hv) fun ar _ _=>GG dd fun od es ep d1 d2 d3 S _ _=>sQ (JX aj) fun ps pl pf=>?_;have ae:es.size=kvs.length:=by rw[size_of_entries S,(Paired.length aj)]
 refine DH kind_sorted plain_sorted entry_sorted (args_sorted1 _) (?_:wpAny _ _ (Builtin.«sorted» _) _ _ _);refine AA (AD (AA (Q9 (by simp[I.ok.hd hc]) ar ⟨od,d1,d2,d3⟩ (by rwa [ae]) fun h' tk as au ag G=>?_)));have nd:=G.rise.imp fun h=>AY h;have ah:=ag.trans ae;have F:∀a∈as,s.heap.objs.size<=a:=fun a N=>Be (G.above a N)
 have B:∀b xs,mkT as ps b=some xs->∃(j:Nat)(p:Addr×V),as[j]?=some b/\ps[j]?=some p/\xs=[.ref p.1,p.2]:=fun b xs e=>by
  delta mkT at e
  cases y:(as.zip ps).find? fun p=>p.1==b with
  |none=>rw[y] at e;cases e
  |some q =>
   rw[y] at e;cases e;exact sQ (Hs y) fun j g J=>⟨j,q.2,g,J,rfl⟩
 have O:Inv X pins σ (jk H (mkT as ps)) { s with heap:=h',toks:=tk }:=I.tups au fun b xs e=>by
  obtain⟨j,p,g,J,rfl⟩:=B b xs e;refine mT (pf j p J) fun k u L U Y Z=>sQ (G.pairs j b g) fun en ab ak=>?_;have ao:es[j]?=some (entryOfKey (tupleKind (eQ X.prog X.w)) (k,p.1,u)):=by rw[entry_at S,U];rfl
  rw[ao] at ab;cases ab;exact⟨F b (Ae g),ie 2 rfl,[.ref p.1,u],.cons rfl (.cons Z .nil),⟨_,ak,rfl,⟨_,rfl⟩,rfl⟩⟩
 have M:∀b xs,mkT as ps b=some xs->H b=none:=fun b xs e=>rG (B b xs e) fun j p g _=>I.hok.fresh (F b (Ae g))
 obtain⟨hs,q⟩:=hq as (jk H (mkT as ps)) (fun b o e=>pK M e) (WR ah fun j a p h1 h2=>by
   obtain⟨D,ai⟩:∃D,ps[j]?=some D:=⟨ps[j]'(pl▸(AU.1 h2).1),AN _⟩;refine mT (pf j D ai) fun k u L U Y Z=>?_;rw[h2] at L;cases L
   exact⟨D.1,jU (by delta mkT;rw[Ht nd h1 ai];rfl),pK M Y⟩) (fun a N=>I.hok.fresh (F a N)) fun a n1 n2=>by
  cases y:mkT as ps a with
  |none=>rw[mK y] at n2;exact absurd n1 n2
  |some xs=>exact rG (B a xs y) fun j p g _=>Ae g
 have rv:Vals (as.map V.ref) (as.map Value.ref):=by
  clear nd ah F O M hs q ag G hq B
  induction as with
  |nil=>exact .nil
  |cons a as ih=>exact .cons rfl ih
 exact tH (AI _) O rv (by grind) hs fun p s' hp I'=>⟨_,rfl,.ref p,_,I',rfl,q p hp⟩
end
end L2
namespace L2
open PySem PySem.W PySem.Spec PyProof.Rows
def pU(kvs q:List (List Key×V)):List (List Key×V):=q.foldl (fun acc g=>yV acc g.1 g.2) kvs
section
variable {X:Cx}
def cntK(k:Key)(g:List Key):Nat:=g.countP fun j=>decide (j=k)
end
end L2
namespace CL
open PySem PySem.Spec L2
open PyProof.Rows hiding St
inductive PV where
 |non | bl (b:Bool) | int (i:Int) | str (x:Str) | ty (n:String) | tup (xs:List PV) | kt (xs:List PV) | fz (xs:List PV) | vw (d:Addr) | ref (a:Addr)
noncomputable def aU:HO->Bool
 |.tup _=>true
 |.frz _ (.dK _)=>false
 |.frz _ (.dT _)=>false
 |.frz _ _=>true
 |.ext _=>true
 |_=>false
def iu(H H':Hp):Prop:=∀a o,aU o=true->H a=some o->H' a=some o
def iu.new(g:H p=none)o:iu H (upd H p o):=fun a u _ e=>by
 rwa [uQ (vK e g)]
def iu.mut(g:H p=some u)(q:aU u=false)o:iu H (upd H p o):=fun a v i e=>by
 have:a≠p:=by
  intro z;subst z;rw[g] at e;cases e;rw[q] at i;cases i
 rwa [uQ this]
def Fz(K:Dl)(H:Hp)(a:Addr)(xs:List V):Prop :=
 (∃o,H a=some (.frz o (.lst xs))) \/
  ∃(o:Obj)(g:Array Value)(n:Nat),K.lookup a=some o/\o.cls=.type "list"/\o.dict=none/\o.data=.seq g n/\g.size<=sizeLine/\Vals xs g.toList
def Fz.sq{K}(h:Fz K H a xs):SqL K H a xs:=by
 rcases h with ⟨o,h⟩ | h
 .exact .inl (.inr ⟨o,h⟩)
 .exact .inr h
def Fz.aU{K}(h:Fz K H a xs)(k:iu H H'):Fz K H' a xs:=by
 rcases h with ⟨o,h⟩ | h
 .exact .inl ⟨o,k _ _ rfl h⟩
 .exact .inr h
def SqT.aU{K}(h:SqT K H a xs)(k:iu H H'):SqT K H' a xs:=by
 rcases h with (h | ⟨o,h⟩) | h
 .exact .inl (.inl (k _ _ rfl h))
 .exact .inl (.inr ⟨o,k _ _ rfl h⟩)
 .exact .inr h
mutual
inductive Rep(K:Dl)(H:Hp):V->PV->Prop
 |non:Rep K H .non .non
 |bl (b:Bool):Rep K H (.bl b) (.bl b)
 |int (i:Int):Rep K H (.int i) (.int i)
 |str (x:Str):Rep K H (.str x) (.str x)
 |ty (n:String):Rep K H (.ty n) (.ty n)
 |ref (a:Addr):Rep K H (.ref a) (.ref a)
 |tup {a:Addr} {vs:List V} {ts:List PV} (h:H a=some (.tup vs)) (r:dg K H vs ts):Rep K H (.ref a) (.tup ts)
 |kt {a:Addr} {vs:List V} {ts:List PV} (h:SqT K H a vs) (r:dg K H vs ts):Rep K H (.ref a) (.kt ts)
 |fz {a:Addr} {vs:List V} {ts:List PV} (h:Fz K H a vs) (r:dg K H vs ts):Rep K H (.ref a) (.fz ts)
 |vw {a d:Addr} (h:H a=some (.ext (jG a d))):Rep K H (.ref a) (.vw d)
inductive dg(K:Dl)(H:Hp):List V->List PV->Prop
 |nil:dg K H [] []
 |cons {v:V} {t:PV} {vs:List V} {ts:List PV} (h:Rep K H v t) (r:dg K H vs ts):dg K H (v::vs) (t::ts)
end
section
variable {K:Dl}{H H' H1 H2:Hp}
mutual
theorem Rep.aU{v:V}{t:PV}(k:iu H H'):Rep K H v t->Rep K H' v t
 |.non=>.non
 |.bl b=>.bl b
 |.int i=>.int i
 |.str x=>.str x
 |.ty n=>.ty n
 |.ref a=>.ref a
 |.tup h r=>.tup (k _ _ rfl h) (dg.aU k r)
 |.kt h r=>.kt (SqT.aU h k) (dg.aU k r)
 |.fz h r=>.fz (Fz.aU h k) (dg.aU k r)
 |.vw h=>.vw (k _ _ rfl h)
theorem dg.aU{vs:List V}{ts:List PV}(k:iu H H'):dg K H vs ts->dg K H' vs ts
 |.nil=>.nil
 |.cons h r=>.cons (Rep.aU k h) (dg.aU k r)
end
theorem dg.len: dg K H vs ts->vs.length=ts.length
 |.nil=>rfl
 |.cons _ r=>Bu (· + 1) r.len
theorem dg.get{i:Nat}: dg K H vs ts->ts[i]?=some t->∃v,vs[i]?=some v/\Rep K H v t
 |.nil,e=>by cases e
 |.cons h r,e=>by
  cases i with
  |zero=>cases e;exact⟨_,rfl,h⟩
  |succ i=>exact r.get e
theorem dg.append: dg K H vs ts->dg K H q g->dg K H (vs++q) (ts++g)
 |.nil,r=>r
 |.cons h t,r=>.cons h (t.append r)
theorem dg.take: ∀n,dg K H vs ts->dg K H (vs.take n) (ts.take n)
 |0,_=>.nil
 |_+1,.nil=>.nil
 |n+1,.cons h r=>.cons h (r.take n)
theorem dg.drop: ∀n,dg K H vs ts->dg K H (vs.drop n) (ts.drop n)
 |0,r=>r
 |_+1,.nil=>.nil
 |n+1,.cons _ r=>r.drop n
theorem dg.set(h:Rep K H v t):∀n,dg K H vs ts->dg K H (vs.set n v) (ts.set n t)
 |_,.nil=>.nil
 |0,.cons _ r=>.cons h r
 |n+1,.cons g r=>.cons g (r.set h n)
def dg.reverse(r:dg K H vs ts):dg K H vs.reverse ts.reverse:=by
 induction vs generalizing ts with
 |nil=>cases r;exact .nil
 |cons v vs g =>
  cases r with
  |cons h r=>rw[DI,DI];exact(g r).append (.cons h .nil)
end
inductive CO where
 |lst (xs:List PV)
 |dK (kvs:List (Key×PV))
 |fK (kvs:List (Key×PV))
 |dT (kvs:List (List Key×PV))
 |fT (kvs:List (List Key×PV))
 |dP (kvs:List (List (List Key)×PV))
 |dN (kvs:List ((List (List Key)×Key)×PV))
 |ins (c dx:Addr) (fs:List (Str×PV))
abbrev CH:=Addr->Option CO
noncomputable def pQ(C:CH)(a:Addr)(o:CO):CH:=fun b=>if b=a then some o else C b
def jQ: pQ C a o a=some o:=Ab rfl
def vQ(h:b≠a):pQ C a o b=C b:=Ac h
abbrev FP(K:Dl)(H:Hp):List (κ×V)->List (κ×PV)->Prop:=Paired fun p q=>p.1=q.1/\Rep K H p.2 q.2
abbrev KP(K:Dl)(H:Hp):List (Key×V)->List (Key×PV)->Prop:=Paired fun p q=>p.1=q.1/\Rep K H p.2 q.2
def nj(K:Dl)(H:Hp)(a:Addr):CO->Prop
 |.lst ts=>∃vs,H a=some (.lst vs)/\dg K H vs ts
 |.dK kvs=>∃vs,H a=some (.dK vs)/\KP K H vs kvs
 |.fK kvs=>∃o vs,H a=some (.frz o (.dK vs))/\KP K H vs kvs
 |.dT kvs=>∃vs,H a=some (.dT vs)/\FP K H vs kvs
 |.fT kvs=>∃o vs,H a=some (.frz o (.dT vs))/\FP K H vs kvs
 |.dP kvs=>∃vs,H a=some (.dP vs)/\FP K H vs kvs
 |.dN kvs=>∃vs,H a=some (.dN vs)/\FP K H vs kvs
 |.ins c dx fs=>∃g,H a=some (.ins c dx g)/\FP K H g fs
def dh(K:Dl)(H:Hp)(C:CH):Prop:=∀a o,C a=some o->nj K H a o
noncomputable def still:Option CO->Bool
 |none=>true
 |some (.fK _)=>true
 |some (.fT _)=>true
 |_=>false
def Fw(H:Hp)(C:CH)(H':Hp)(C':CH):Prop:=∀a,still (C a)=true->H a≠none->C' a=C a/\H' a=H a
section
variable {K:Dl}{H H' H1 H2:Hp}{C C' C1 C2:CH}
def Fw.refl:Fw H C H C:=fun _ _ _=>⟨rfl,rfl⟩
theorem Fw.trans(f:Fw H C H1 C1)(g:Fw H1 C1 H2 C2):Fw H C H2 C2:=fun a h n=>by
 obtain⟨c,e⟩:=f a h n;obtain⟨q,B⟩:=g a (by rwa [c]) (by rwa [e]);exact⟨q.trans c,B.trans e⟩
def nj.mut(h:nj K H a o):∃u,H a=some u/\aU u=false:=by
 cases o with
 |lst ts=>obtain⟨vs,e,_⟩:=h;exact⟨_,e,rfl⟩
 |dK ts=>obtain⟨vs,e,_⟩:=h;exact⟨_,e,rfl⟩
 |fK ts=>obtain⟨o,vs,e,_⟩:=h;exact⟨_,e,rfl⟩
 |dT ts=>obtain⟨vs,e,_⟩:=h;exact⟨_,e,rfl⟩
 |fT ts=>obtain⟨o,vs,e,_⟩:=h;exact⟨_,e,rfl⟩
 |dP ts=>obtain⟨vs,e,_⟩:=h;exact⟨_,e,rfl⟩
 |dN ts=>obtain⟨vs,e,_⟩:=h;exact⟨_,e,rfl⟩
 |ins c dx fs=>obtain⟨vs,e,_⟩:=h;exact⟨_,e,rfl⟩
def dh.hid(h:dh K H C)(i:aU o=true)(e:H a=some o):C a=none:=by
 cases c:C a with
 |none=>rfl
 |some u =>
  obtain⟨v,g,q⟩:=((h a u c).mut);rw[e] at g;cases g;rw[i] at q;cases q
def dh.fresh(h:dh K H C)(e:H a=none):C a=none:=by
 cases c:C a with
 |none=>rfl
 |some u =>
  obtain⟨v,g,q⟩:=((h a u c).mut);rw[e] at g;cases g
def Fw.aU(f:Fw H C H' C')(h:dh K H C):iu H H':=fun a o i e=>by
 rw[(f a (by rw[h.hid i e];rfl) (by lia)).2];exact e
def nj.aU(h:nj K H a o)(k:iu H H')(e:H' a=H a):nj K H' a o:=by
 cases o with
 |lst ts=>obtain⟨vs,q,r⟩:=h;exact⟨vs,e.trans q,r.aU k⟩
 |dK ts=>obtain⟨vs,q,r⟩:=h;exact⟨vs,e.trans q,Paired.mapP r fun _ _ z=>⟨z.1,z.2.aU k⟩⟩
 |fK ts=>obtain⟨o,vs,q,r⟩:=h;exact⟨o,vs,e.trans q,Paired.mapP r fun _ _ z=>⟨z.1,z.2.aU k⟩⟩
 |dT ts=>obtain⟨vs,q,r⟩:=h;exact⟨vs,e.trans q,Paired.mapP r fun _ _ z=>⟨z.1,z.2.aU k⟩⟩
 |fT ts=>obtain⟨o,vs,q,r⟩:=h;exact⟨o,vs,e.trans q,Paired.mapP r fun _ _ z=>⟨z.1,z.2.aU k⟩⟩
 |dP ts=>obtain⟨vs,q,r⟩:=h;exact⟨vs,e.trans q,Paired.mapP r fun _ _ z=>⟨z.1,z.2.aU k⟩⟩
 |dN ts=>obtain⟨vs,q,r⟩:=h;exact⟨vs,e.trans q,Paired.mapP r fun _ _ z=>⟨z.1,z.2.aU k⟩⟩
 |ins c dx fs=>obtain⟨vs,q,r⟩:=h;exact⟨vs,e.trans q,Paired.mapP r fun _ _ z=>⟨z.1,z.2.aU k⟩⟩
def dh.new(h:dh K H C)(g:H p=none)o:dh K (upd H p o) C:=fun a u c=>sQ ((h a u c).mut) fun v e _=>(h a u c).aU (iu.new g o) (uQ (vK e g))
def Fw.new(g:H p=none)o:Fw H C (upd H p o) C:=fun a c n=>⟨rfl,uQ fun z=>n (z▸g)⟩
def dh.lay(h:dh K H C)(g:H p=none)(r:nj K (upd H p o) p u):dh K (upd H p o) (pQ C p u):=fun a v c=>by
 by_cases e:a=p
 .subst e;rw[jQ] at c;cases c;exact r
 .rw [vQ e] at c;exact h.new g o a v c
def Fw.lay(g:H p=none)o u:Fw H C (upd H p o) (pQ C p u):=fun a c n=>by
 have e:a≠p:=fun z=>n (z▸g);exact⟨vQ e,uQ e⟩
def dh.put(h:dh K H C)(g:H p=some q)(hi:aU q=false)(r:nj K (upd H p o) p u):dh K (upd H p o) (pQ C p u):=fun a v c=>by
 by_cases e:a=p
 .subst e;rw[jQ] at c;cases c;exact r
 .rw [vQ e] at c;exact(h a v c).aU (iu.mut g hi o) (uQ e)
def Fw.put(g:C p=some q)o u(hs:still (some q)=false:=by rfl):Fw H C (upd H p o) (pQ C p u):=fun a c n=>by
 have e:a≠p:=fun z=>by subst z;rw[g,hs] at c;cases c
 exact⟨vQ e,uQ e⟩
end
abbrev jt:=List (Option PV)
abbrev K1:=PV->CH->Prop
def rn(K:Dl)(H:Hp):Option V->Option PV->Prop
 |_,none=>True
 |some v,some t=>Rep K H v t
 |none,some _=>False
def gk(K:Dl)(H:Hp):St->jt->Prop:=Paired (rn K H)
section
variable {K:Dl}{H H':Hp}{C C':CH}
def rn.aU(k:iu H H')(h:rn K H v t):rn K H' v t:=by
 cases t with
 |none=>cases v<;>trivial
 |some t=>cases v with
  |none=>exact h
  |some v=>exact Rep.aU k h
def gk.aU(s:gk K H σ g)(k:iu H H'):gk K H' σ g:=Paired.mapP s fun _ _=>rn.aU k
def gk.get{i:Nat}(s:gk K H σ q)(e:q[i]?=some (some t)):∃v,σ[i]?=some (some v)/\Rep K H v t:=by
 induction s generalizing i with
 |nil=>cases e
 |@cons a b B D h r g =>
  cases i with
  |zero =>
   cases e
   cases a with
   |none=>exact h.elim
   |some v=>exact⟨v,rfl,h⟩
  |succ i=>exact g e
def gk.set(s:gk K H σ q)(h:Rep K H v t)i:gk K H (σ.set i (some v)) (q.set i (some t)):=by
 induction s generalizing i with
 |nil=>exact .nil
 |cons h' r g =>
  cases i with
  |zero=>exact .cons h r
  |succ i=>exact .cons h' (g i)
end
def gJ{α g:Type}(K:Dl)(B:Hp->α->g->Prop)(c:jt->CH->(g->CH->Prop)->Prop):St->Hp->(α->Hp->Prop)->Prop:=fun σ H Q=>
 ∃q C R,gk K H σ q/\dh K H C/\c q C R/\∀v H' t C',R t C'->B H' v t->dh K H' C'->Fw H C H' C'->Q v H'
abbrev d8:=jt->CH->K1->Prop
abbrev j6:=jt->CH->(Bool->CH->Prop)->Prop
abbrev o7:=jt->CH->(List PV->CH->Prop)->Prop
abbrev yD:Hp->Bool->Bool->Prop:=fun _ a b=>a=b
structure ju where
 nx:jt->CH->Prop
 rt:K1
 bk:jt->CH->Prop:=fun _ _=>False
 ct:jt->CH->Prop:=fun _ _=>False
abbrev ju.wn(E:ju)(k:jt->CH->Prop):ju:={ E with nx:=k }
abbrev ju.lp(E:ju)(k:jt->CH->Prop):ju:={ nx:=k,ct:=k,bk:=E.nx,rt:=E.rt }
abbrev ju.go(R:K1):ju:={ nx:=fun _ C'=>R .non C',rt:=R }
abbrev j7:=ju->jt->CH->Prop
structure sr(K:Dl)(H:Hp)(C:CH)(E:ju)(D:UK):Prop where
 nx:∀σ' H' ρ' C',E.nx ρ' C'->gk K H' σ' ρ'->dh K H' C'->Fw H C H' C'->D.nx σ' H'
 rt:∀v H' t C',E.rt t C'->Rep K H' v t->dh K H' C'->Fw H C H' C'->D.rt v H'
 bk:∀σ' H' ρ' C',E.bk ρ' C'->gk K H' σ' ρ'->dh K H' C'->Fw H C H' C'->D.bk σ' H'
 ct:∀σ' H' ρ' C',E.ct ρ' C'->gk K H' σ' ρ'->dh K H' C'->Fw H C H' C'->D.ct σ' H'
def sr.fw{K}(e:sr K H C E D)(f:Fw H C H1 C1):sr K H1 C1 E D :=
 ⟨fun B H' q C' h s r g=>e.nx B H' q C' h s r (f.trans g),fun v H' t C' h s r g=>e.rt v H' t C' h s r (f.trans g),fun B H' q C' h s r g=>e.bk B H' q C' h s r (f.trans g),fun B H' q C' h s r g=>e.ct B H' q C' h s r (f.trans g)⟩
def YZ(K:Dl)(c:j7):TS:=fun D σ H=>∃g C E,gk K H σ g/\dh K H C/\c E g C/\sr K H C E D
structure CE(X:Cx)(e:Expr)(c:d8):Prop where
 h:JE X e (gJ X.K (Rep X.K) c)
structure CT(X:Cx)(e:Expr)(c:j6):Prop where
 h:JT X e (gJ X.K yD c)
structure CW(X:Cx)(e:Expr)(c:j6):Prop where
 h:JW X e (gJ X.K yD c)
structure CA(X:Cx)(es:List Expr)(c:o7):Prop where
 h:JA X es (gJ X.K (dg X.K) c)
structure CS(X:Cx)(st:Stmt)(c:j7):Prop where
 h:JS X st (YZ X.K c)
structure CB(X:Cx)(st:List Stmt)(c:j7):Prop where
 h:JB X st (YZ X.K c)
section
variable {X:Cx}{a b c e o i:Expr}{es:List Expr}{pos:Pos}{nX:List Expr}{st:Stmt}{sts:List Stmt}
def JE.weak(h:JE X e t)(w:∀σ H Q,t' σ H Q->t σ H Q):JE X e t':=⟨fun pins s σ H Q I q=>h.h pins s σ H Q I (w σ H Q q)⟩
def JT.weak(h:JT X e t)(w:∀σ H Q,t' σ H Q->t σ H Q):JT X e t':=⟨fun pins s σ H Q I q=>h.h pins s σ H Q I (w σ H Q q)⟩
def JW.weak(h:JW X e t)(w:∀σ H Q,t' σ H Q->t σ H Q):JW X e t':=⟨fun g pins s σ H Q I q=>h.h g pins s σ H Q I (w σ H Q q)⟩
def JA.weak(h:JA X es t)(w:∀σ H Q,t' σ H Q->t σ H Q):JA X es t':=⟨fun p pins s σ H Q I q=>h.h p pins s σ H Q I (w σ H Q q)⟩
def JS.weak(h:JS X st t)(w:∀D σ H,t' D σ H->t D σ H):JS X st t':=⟨fun pins s σ H D I q=>h.h pins s σ H D I (w D σ H q)⟩
def JB.weak(h:JB X sts t)(w:∀D σ H,t' D σ H->t D σ H):JB X sts t':=⟨fun pins s σ H D I q=>h.h pins s σ H D I (w D σ H q)⟩
def jK(i:Nat):d8:=fun g C Q=>match g[i]? with
 |some (some t)=>Q t C
 |_=>False
def cC(t:PV):d8:=fun _ C Q=>Q t C
def cv i(B:X.N[i]?=some x:=by rfl)(G:Vis X.env.scope x:=by first | exact Or.inl rfl | exact Or.inr (Or.inl rfl) | exact Or.inr (Or.inr rfl))(F:(x==("__debug__" : Str))=false:=by decide)(D:(x==("__classdict__" : Str))=false:=by decide):CE X (.Name x pos) (jK i):=⟨JE.weak ⟨Yo B G F D⟩ fun σ H Q I=>wX I fun J C R s h q f=> by
 delta jK at q
 split at q
 .next t e =>
  exact sQ (s.get e) fun v g r=>⟨v,g,f v H t C q r h Fw.refl⟩
 .exact q.elim⟩
def Wp(h:JE X e (tC v))(r:∀H,Rep X.K H v t):CE X e (cC t):=⟨JE.weak h fun σ H Q g=>wX g fun B C R s h q f=> f v H t C q (r H) h Fw.refl⟩
def zQ{i j pos}:CE X (.Constant (.int i) j pos) (cC (.int i)):=Wp ⟨pe_int⟩ fun _=>.int i
def tV{b j pos}:CE X (.Constant (.bool b) j pos) (cC (.bl b)):=Wp ⟨pe_bl⟩ fun _=>.bl b
def sZ{j pos}:CE X (.Constant .none j pos) (cC .non):=Wp ⟨pe_non⟩ fun _=>.non
def bQ{x j pos}:CE X (.Constant (.str x) j pos) (cC (.str x)):=Wp ⟨pe_str⟩ fun _=>.str x
def qY(B:Gl X x)(D:X.mg x=some u)(r:RelV v u)(q:∀H,Rep X.K H v t)(g:(x==("__debug__" : Str))=false:=by decide):CE X (.Name x pos) (cC t):=Wp ⟨pe_glob B D r g⟩ q
def aK(q:Gl X x)(B:X.mg x=none)(F:bootBuiltins x=some (.type n))(D:x ≠ "__name__":=by decide)(g:(x==("__debug__" : Str))=false:=by decide):CE X (.Name x pos) (cC (.ty n)):=Wp (ye (v:=.ty n) q B F rfl D g) fun _=>.ty n
abbrev j8:=PV->PV->CH->K1->Prop
def j5(K:Dl)(r:R2)(B:j8):Prop:=∀x y g q H C Q R,Rep K H x g->Rep K H y q->dh K H C->B g q C R->(∀v H' t C',R t C'->Rep K H' v t->dh K H' C'->Fw H C H' C'->Q v H')->r x y H Q
def o6(D:j8)(q B:d8):d8:=fun g C Q=>q g C fun x C1=>B g C1 fun y C2=>D x y C2 Q
def qC{K}(L:j5 K r I){Q:VK}(h:gJ K (Rep K) (o6 I F G) σ H Q):tOp r (gJ K (Rep K) F) (gJ K (Rep K) G) σ H Q :=wX h fun D C R s h q f=>⟨D,C,_,s,h,q,fun x H1 M C1 S Z h1 g=>⟨D,C1,_,s.aU (g.aU h),h1,S,fun y H2 N C2 U ry h2 B=>
  L x y M N H2 C2 Q R (Z.aU (B.aU h1)) ry h2 U fun v H' t C' O Y h' J=>f v H' t C' O Y h' (g.trans (B.trans J))⟩⟩
def hX(G:OpR X (binaryOp op) r)(I:j5 X.K r B)(D:CE X a g)(F:CE X b q):CE X (.BinOp a op b pos) (o6 B g q):=⟨JE.weak ⟨pe_op G D.h.h F.h.h⟩ fun _ _ _ h=>qC I h⟩
def lY(I:OpR X (compareOp op) r)(J:j5 X.K r B)(D:CE X a g)(F:CE X b q)(G:behindInMarks op b=false):CE X (.Compare a [op] [b] pos) (o6 B g q):=⟨JE.weak ⟨pe_cmpR I D.h.h F.h.h G⟩ fun _ _ _ h=>qC J h⟩
def iS(k:Bool->CH->Prop):PV->CH->Prop
 |.bl b,C=>k b C
 |_,_=>False
def oE(c:d8):j6:=fun g C Q=>c g C (iS Q)
def Zd{K}(q:iS Q t C)(r:Rep K H v t):∃b,t=.bl b/\v=.bl b/\Q b C:=by
 cases t with
 |bl b=>cases r;exact⟨b,rfl,rfl,q⟩
 |_=>exact q.elim
def V4{K}{c}(h:gJ K yD (oE c) σ H Q):WU (gJ K (Rep K) c) σ H Q :=wX h fun G C R s h q f=>⟨G,C,_,s,h,q,fun x H1 I C1 B F h1 g=>by
  obtain⟨b,rfl,rfl,D⟩:=Zd B F
  exact⟨b,rfl,f b H1 b C1 D rfl h1 g⟩⟩
def Qb(L:OpR X (compareOp op) r)(M:j5 X.K r D)(G:CE X a g)(I:CE X b B)(J:behindInMarks op b=false):CT X (.Compare a [op] [b] pos) (oE (o6 D g B)) :=
 ⟨JT.weak ⟨pt_cmpR L G.h.h I.h.h J⟩ fun σ H Q h=>by
  refine wX h fun U C R s h q f=>qC M ⟨U,C,_,s,h,q,fun x H1 Y C1 N S h1 F=>?_⟩;obtain⟨b,rfl,rfl,O⟩:=Zd N S
  exact⟨b,rfl,f b H1 b C1 O rfl h1 F⟩⟩
def nZ{c}(h:CE X e c)(g:qH e=true:=by rfl):CT X e (oE c):=⟨JT.weak ⟨pt_val h.h.h (jR g)⟩ fun _ _ _ h=>V4 h⟩
def JM(G I:j8)(D F cc:d8):d8:=fun g C Q=>D g C fun x C1=>F g C1 fun y C2=>G x y C2 (iS fun b q=>if b=true then cc g q fun z B=>I y z B Q else Q (.bl false) q)
def pR{K}(hr:j5 K r ab)(ag:j5 K F ae){Q:VK}(h:gJ K (Rep K) (JM ab ae Z cb cc) σ H Q):Zw r F (gJ K (Rep K) Z) (gJ K (Rep K) cb) (gJ K (Rep K) cc) σ H Q:=by
 refine wX h fun G C R s h q f=>⟨G,C,_,s,h,q,fun x H1 px C1 q1 rx h1 g=>⟨G,C1,_,s.aU (g.aU h),h1,q1,fun y H2 M C2 q2 O h2 B=>
  hr x y px M H2 C2 _ _ (rx.aU (B.aU h1)) O h2 q2 fun v U t I q3 r3 L D=>by
   obtain⟨b,rfl,rfl,N⟩:=Zd q3 r3;refine⟨b,rfl,?_⟩
   cases b with
   |true =>
    exact⟨G,I,_,(s.aU (g.aU h)).aU ((B.trans D).aU h1),L,N,fun z Y pz S q5 rz h4 J=>ag y z M pz Y S Q R (O.aU ((D.trans J).aU h2)) rz h4 q5 fun v H' t C' q' F h' f'=>f v H' t C' q' F h' (g.trans (B.trans (D.trans (J.trans f'))))⟩
   |false=>exact f _ U _ I N (.bl false) L (g.trans (B.trans D))⟩⟩
def Uh(M:OpR X (compareOp op) r)(N:OpR X (compareOp g) U)(O:j5 X.K r D)(S:j5 X.K U F)(G:CE X a q)(I:CE X b B)(J:CE X c cc)(L:lastMarks [op,g] [b,c]=false:=by with_unfolding_all rfl):CE X (.Compare a [op,g] [b,c] pos) (JM D F q B cc):=⟨JE.weak ⟨Yw M N G.h.h I.h.h J.h.h L⟩ fun _ _ _ h=>pR O S h⟩
def GU(O:OpR X (compareOp op) r)(S:OpR X (compareOp g) r')(U:j5 X.K r F)(Y:j5 X.K r' G)(J:CE X a B)(L:CE X b D)(M:CE X c cc)(N:lastMarks [op,g] [b,c]=false:=by with_unfolding_all rfl):CT X (.Compare a [op,g] [b,c] pos) (oE (JM F G B D cc)) :=
 ⟨JT.weak ⟨Yd O S J.h.h L.h.h M.h.h N⟩ fun σ H Q h=>by
  refine wX h fun ρ C R s h q f=>pR U Y ⟨ρ,C,_,s,h,q,fun x H1 px C1 Z rx h1 I=>?_⟩;obtain⟨b,rfl,rfl,q2⟩:=Zd Z rx
  exact⟨b,rfl,f b H1 b C1 q2 rfl h1 I⟩⟩
def cUn(q:PV->CH->K1->Prop)(g:d8):d8:=fun B C Q=>g B C fun x C1=>q x C1 Q
def Cun(K:Dl)(r:V->Hp->VK->Prop)(q:PV->CH->K1->Prop):Prop:=∀x g H C Q R,Rep K H x g->dh K H C->q g C R->(∀v H' t C',R t C'->Rep K H' v t->dh K H' C'->Fw H C H' C'->Q v H')->r x H Q
def rE(I:UnR X (unaryOp op) r)(J:Cun X.K r B)(G:CE X a g):CE X (.UnaryOp op a pos) (cUn B g):=⟨JE.weak ⟨pe_un I G.h.h⟩ fun σ H Q U=>wX U fun Y C R s h q f=>
 ⟨Y,C,_,s,h,q,fun x H1 L C1 N S h1 F=>J x L H1 C1 Q R S h1 N fun v H' t C' M O h' D=>f v H' t C' M O h' (F.trans D)⟩⟩
def cAnd(t u:j6):j6:=fun g C Q=>t g C fun b C1=>if b=true then u g C1 Q else Q false C1
def Rp(t u:j6):j6:=fun g C Q=>t g C fun b C1=>if b=true then Q true C1 else u g C1 Q
def UV(t:j6):j6:=fun g C Q=>t g C fun b C1=>Q (!b) C1
def ji(h:CW X e t):CT X e t:=⟨⟨h.h.h.pt⟩⟩
def mq(h:CT X a t):CW X (.BoolOp .And [a] pos) t:=⟨⟨pw_and1 h.h.h⟩⟩
def je(h:CT X a t):CW X (.BoolOp .Or [a] pos) t:=⟨⟨pw_or1 h.h.h⟩⟩
def pq(G:CT X a t)(I:CW X (.BoolOp .And (b::nX) pos) u):CW X (.BoolOp .And (a::b::nX) pos) (cAnd t u):=⟨JW.weak ⟨pw_and G.h.h I.h.h⟩ fun σ H Q M=>wX M fun D C R s h q f=>
 ⟨D,C,_,s,h,q,fun x H1 y C1 B e h1 g=>by
  cases e
  cases x with
  |true=>exact⟨D,C1,R,s.aU (g.aU h),h1,B,fun v H' t C' J L h' F=>f v H' t C' J L h' (g.trans F)⟩
  |false=>exact f false H1 false C1 B rfl h1 g⟩⟩
def jj(G:CT X a t)(I:CW X (.BoolOp .Or (b::nX) pos) u):CW X (.BoolOp .Or (a::b::nX) pos) (Rp t u):=⟨JW.weak ⟨pw_or G.h.h I.h.h⟩ fun σ H Q M=>wX M fun D C R s h q f=>
 ⟨D,C,_,s,h,q,fun x H1 y C1 B e h1 g=>by
  cases e
  cases x with
  |true=>exact f true H1 true C1 B rfl h1 g
  |false=>exact⟨D,C1,R,s.aU (g.aU h),h1,B,fun v H' t C' J L h' F=>f v H' t C' J L h' (g.trans F)⟩⟩⟩
def oK(B:CT X a t):CT X (.UnaryOp .Not a pos) (UV t):=⟨JT.weak ⟨pt_not B.h.h⟩ fun σ H Q F=>wX F fun G C R s h q f=>
 ⟨G,C,_,s,h,q,fun x H1 y C1 D e h1 g=>by cases e;exact f _ H1 _ C1 D rfl h1 g⟩⟩
def RC(q B:d8):d8:=fun g C Q=>q g C (iS fun b C1=>if b=true then B g C1 Q else Q (.bl false) C1)
def Qj{op}{c}(h:CE X a c):CE X (.BoolOp op [a] pos) c:=⟨⟨pe_one h.h.h⟩⟩
def Qm(J:CE X a F)(L:CE X (.BoolOp .And (b::nX) pos) G):CE X (.BoolOp .And (a::b::nX) pos) (RC F G):=⟨JE.weak ⟨pe_and J.h.h L.h.h⟩ fun σ H Q U=>wX U fun D C R s h q f=>
 ⟨D,C,_,s,h,q,fun x H1 Y C1 N S h1 g=>by
  obtain⟨b,rfl,rfl,B⟩:=Zd N S;refine⟨b,rfl,?_⟩
  cases b with
  |true=>exact⟨D,C1,R,s.aU (g.aU h),h1,B,fun v H' t C' M O h' I=>f v H' t C' M O h' (g.trans I)⟩
  |false=>exact f _ H1 _ C1 B (.bl false) h1 g⟩⟩
def cIf(t:j6)(q B:d8):d8:=fun g C Q=>t g C fun b C1=>if b=true then q g C1 Q else B g C1 Q
def bN(O:CT X c t)(M:CE X a J)(N:CE X b L):CE X (.IfExp c a b pos) (cIf t J L):=⟨JE.weak ⟨Yr O.h.h M.h.h N.h.h⟩ fun σ H Q S=>wX S fun G C R s h q f=>
 ⟨G,C,_,s,h,q,fun x H1 y C1 I e h1 g=>by
  cases e
  cases x with
  |true=>exact⟨G,C1,R,s.aU (g.aU h),h1,I,fun v H' t C' D F h' B=>f v H' t C' D F h' (g.trans B)⟩
  |false=>exact⟨G,C1,R,s.aU (g.aU h),h1,I,fun v H' t C' D F h' B=>f v H' t C' D F h' (g.trans B)⟩⟩⟩
def Qu:o7:=fun _ C Q=>Q [] C
def uU(q:d8)(B:o7):o7:=fun g C Q=>q g C fun x C1=>B g C1 fun xs C2=>Q (x::xs) C2
def zZ:CA X [] Qu:=⟨JA.weak ⟨yR⟩ fun σ H Q g=>wX g fun B C R s h q f=> f [] H [] C q .nil h Fw.refl⟩
def qQ(I:CE X e F)(J:CA X es G)(hs:kX e=true:=by rfl):CA X (e::es) (uU F G):=⟨JA.weak (qF I.h J.h hs) fun σ H Q S=>wX S fun D C R s h q f=>
 ⟨D,C,_,s,h,q,fun x H1 L C1 M O h1 g=>⟨D,C1,_,s.aU (g.aU h),h1,M,fun xs H2 ps C2 N rs h2 B=>f (x::xs) H2 (L::ps) C2 N (.cons (O.aU (B.aU h1)) rs) h2 (g.trans B)⟩⟩⟩
def Um(g:o7):d8:=fun q C Q=>g q C fun xs C1=>xs.length<=sizeLine/\Q (.tup xs) C1
def Zn(g:o7):d8:=fun q C Q=>g q C fun xs C1=>xs.length<=sizeLine/\∀p,C1 p=none->Q (.ref p) (pQ C1 p (.lst xs))
def wQ{G}(h:CA X es D):CE X (.Tuple es G pos) (Um D):=⟨JE.weak ⟨pe_tup h.h.h⟩ fun σ H Q I=>wX I fun J C R s h q f=>
 ⟨J,C,_,s,h,q,fun xs H1 ps C1 B rs h1 F=>⟨by rw[rs.len];exact B.1,fun p g=>f (.ref p) _ (.tup ps) C1 B.2 (.tup mQ (rs.aU (iu.new g _))) (h1.new g _) (F.trans (Fw.new g _))⟩⟩⟩
def oZ(h:CA X es D):CE X (.List es pos) (Zn D):=⟨JE.weak ⟨pe_lst h.h.h⟩ fun σ H Q G=>wX G fun I C R s h q f=>
 ⟨I,C,_,s,h,q,fun xs H1 ps C1 B rs h1 F=>⟨by rw[rs.len];exact B.1,fun p g=>f (.ref p) _ (.ref p) _ (B.2 p (h1.fresh g)) (.ref p) (h1.lay g ⟨xs,mQ,rs.aU (iu.new g _)⟩) (F.trans (Fw.lay g _ _))⟩⟩⟩
def Rz:d8:=fun _ C Q=>∀p,C p=none->Q (.ref p) (pQ C p (.dK []))
def gF:CE X (.Dict [] [] pos) Rz:=⟨JE.weak ⟨Yt⟩ fun σ H Q B=>wX B fun D C R s h q f=> fun p g=>f (.ref p) _ (.ref p) _ (q p (h.fresh g)) (.ref p) (h.lay g ⟨[],mQ,.nil⟩) (Fw.lay g _ _)⟩
abbrev GC:=List PV->CH->K1->Prop
def my(K:Dl)(G:GC):Sp:=fun vs H Q _=>∃ts C R,dg K H vs ts/\dh K H C/\G ts C R/\∀v H' t C',R t C'->Rep K H' v t->dh K H' C'->Fw H C H' C'->Q v H'
def aE(G:GC)(g:o7):d8:=fun q C Q=>g q C fun xs C1=>G xs C1 Q
def Dm{p}(F:FnOk X.prog X.w X.K X.mg X.base CX k f fd ps (my X.K G))(U:Room k X.A)(N:Gl X x)(S:X.mg x=some (.ref f))(O:PySem.W.keepIn X.K (.ref f)=true)(L:Binds X.K fd ps [])(Y:wW CX X E)(I:CA X (e::es) g)(M:(x==("__debug__" : Str))=false:=by decide)(hs:kX e=true:=by rfl)(J:es.all kX=true:=by rfl):CE X (.Call (.Name x p) (e::es) [] pos) (aE G g) :=
 ⟨JE.weak (yd F U N S O L .nil Y I.h M hs J) fun σ H Q zz=>wX zz fun ρ C R s h q f=>
  ⟨ρ,C,_,s,h,q,fun xs H1 ts C1 q1 rs h1 D=>⟨ts,C1,R,by rw[Aa];exact rs,h1,q1,fun v H' t C' Z r' h' B=>f v H' t C' Z r' h' (D.trans B)⟩⟩⟩
def nq(K:Dl)(r:List V->Hp->VK->Prop)(g:GC):Prop:=∀xs ps H C Q R,dg K H xs ps->dh K H C->g ps C R->(∀v H' t C',R t C'->Rep K H' v t->dh K H' C'->Fw H C H' C'->Q v H')->r xs H Q
def lQ{id}{p}(J:CallR X (.builtin id) r)(S:nq X.K r B)(M:Gl X x)(N:X.mg x=none)(U:bootBuiltins x=some (.builtin id))(G:CA X (e::es) g)(O:x ≠ "__name__":=by decide)(L:(x==("__debug__" : Str))=false:=by decide)(hs:kX e=true:=by rfl)(I:es.all kX=true:=by rfl):CE X (.Call (.Name x p) (e::es) [] pos) (aE B g):=⟨JE.weak ⟨W8 J M N U G.h.h O L hs I⟩ fun σ H Q zz=>wX zz fun ρ C R s h q f=>
  ⟨ρ,C,_,s,h,q,fun xs H1 ts C1 Z rs h1 F=>S xs ts H1 C1 Q R rs h1 Z fun v H' t C' Y r' h' D=>f v H' t C' Y r' h' (F.trans D)⟩⟩
def lJ{p}(J:CallR X (.type T) r)(S:nq X.K r B)(M:Gl X x)(N:X.mg x=none)(U:bootBuiltins x=some (.type T))(G:CA X (e::es) g)(O:x ≠ "__name__":=by decide)(L:(x==("__debug__" : Str))=false:=by decide)(hs:kX e=true:=by rfl)(I:es.all kX=true:=by rfl):CE X (.Call (.Name x p) (e::es) [] pos) (aE B g):=⟨JE.weak (kU J M N U G.h O L hs I) fun σ H Q zz=>wX zz fun ρ C R s h q f=>
  ⟨ρ,C,_,s,h,q,fun xs H1 ts C1 Z rs h1 F=>S xs ts H1 C1 Q R rs h1 Z fun v H' t C' Y r' h' D=>f v H' t C' Y r' h' (F.trans D)⟩⟩
def Rc(G:IxR X r)(I:j5 X.K r B)(D:CE X a g)(F:CE X b q)(hs:QJ b):CE X (.Subscript a b pos) (o6 B g q):=⟨JE.weak ⟨pe_ix G D.h.h F.h.h hs⟩ fun _ _ _ h=>qC I h⟩
def Hh:j7:=fun E g C=>E.nx g C
def JD(t u:j7):j7:=fun E g C=>t (E.wn (u E)) g C
def rQ:CB X [] Hh:=⟨JB.weak ⟨pss_nil⟩ fun D σ H g=>wX g fun B C E s h q f=> f.nx σ H B C q s h Fw.refl⟩
def kQ(h:CS X st t):CB X [st] t:=⟨⟨pss_one h.h.h⟩⟩
def xQ(h1:CS X st t)(h2:CB X sts u):CB X (st::sts) (JD t u):=⟨JB.weak ⟨Ye h1.h.h h2.h.h⟩ fun D σ H B=>wX B fun F C E s h q f=>
 ⟨F,C,_,s,h,q,⟨fun I H' G C' n s' h' g=>⟨G,C',E,s',h',n,f.fw g⟩,f.rt,f.bk,f.ct⟩⟩⟩
def Ry(q:d8):j7:=fun E g C=>q g C fun _ C1=>E.nx g C1
def xZ(G:CE X e F)(hs:swapsWith e none pos.line X.env=pure false:=by rfl):CS X (.Expr e pos) (Ry F):=⟨JS.weak ⟨ps_expr G.h.h hs⟩ fun D σ H J=>wX J fun B C E s h q f=>
 ⟨B,C,_,s,h,q,fun x H1 L C1 I M h1 g=>f.nx σ H1 B C1 I (s.aU (g.aU h)) h1 g⟩⟩
def Rj(g:d8):j7:=fun E q C=>g q C E.rt
def gQ(F:CE X e g):CS X (.Return (some e) pos) (Rj g):=⟨JS.weak ⟨Yg F.h.h⟩ fun D σ H L=>wX L fun M C E s h q f=>
 ⟨M,C,_,s,h,q,fun x H1 G C1 I J h1 B=>f.rt x H1 G C1 I J h1 B⟩⟩
def JJ(t:j6)(u v:j7):j7:=fun E g C=>t g C fun b C1=>if b=true then u E g C1 else v E g C1
def iQ(J:CT X c t)(G:CB X x u)(I:CB X y v):CS X (.If c x y pos) (JJ t u v):=⟨JS.weak ⟨ps_if J.h.h G.h.h I.h.h⟩ fun D σ H L=>wX L fun B C E s h q f=>
 ⟨B,C,_,s,h,q,fun x H1 y C1 F e h1 g=>by
  cases e
  cases x with
  |true=>exact⟨B,C1,E,s.aU (g.aU h),h1,F,f.fw g⟩
  |false=>exact⟨B,C1,E,s.aU (g.aU h),h1,F,f.fw g⟩⟩⟩
def Ww(i:Nat)(q:d8):j7:=fun E g C=>q g C fun t C1=>E.nx (g.set i (some t)) C1
def Mm{i}(F:X.N.Nodup)(hi:X.N[i]?=some x)(J:Loc X.env.scope x)(G:CE X e B)(hs:swapsWith e (some (.Name x pos')) pos.line X.env=pure false:=by rfl)(I:X.fn x=true\/X.env.scope.names.lookup x=some .local:=by first | exact .inl rfl | exact .inr rfl | assumption):
  CS X (.Assign [.Name x pos'] e pos) (Ww i B):=⟨JS.weak ⟨ps_set F hi J G.h.h hs I⟩ fun D σ H N=>wX N fun O C E s h q f=>
 ⟨O,C,_,s,h,q,fun x H1 S C1 L M h1 g=>f.nx _ H1 _ C1 L ((s.aU (g.aU h)).set M i) h1 g⟩⟩
abbrev qd:=PV->jt->CH->(jt->CH->Prop)->Prop
abbrev WA:=List PV->jt->CH->(jt->CH->Prop)->Prop
def Y0(K:Dl)(c:qd):TG:=fun v σ H Q=>∃t g C R,Rep K H v t/\gk K H σ g/\dh K H C/\c t g C R/\∀B H' q C',R q C'->gk K H' B q->dh K H' C'->Fw H C H' C'->Q B H'
def IW(K:Dl)(c:WA):TGs:=fun v σ H Q=>∃t g C R,dg K H v t/\gk K H σ g/\dh K H C/\c t g C R/\∀B H' q C',R q C'->gk K H' B q->dh K H' C'->Fw H C H' C'->Q B H'
structure CG(X:Cx)(e:Expr)(c:qd):Prop where
 h:JG X e (Y0 X.K c)
structure Sv(X:Cx)(es:List Expr)(c:WA):Prop where
 h:Nk X es (IW X.K c)
def JG.weak(h:JG X e t)(w:∀v σ H Q,t' v σ H Q->t v σ H Q):JG X e t':=⟨fun pins s σ H v u Q I r q=>h.h pins s σ H v u Q I r (w v σ H Q q)⟩
def Nk.weak(h:Nk X es t)(w:∀v σ H Q,t' v σ H Q->t v σ H Q):Nk X es t':=⟨fun pins s σ H v u Q I r q=>h.h pins s σ H v u Q I r (w v σ H Q q)⟩
def GR(i:Nat):qd:=fun t g C Q=>Q (g.set i (some t)) C
def Ra:WA:=fun ts g C Q=>match ts with
 |[]=>Q g C
 |_=>False
def Hg(g:qd)(u:WA):WA:=fun ts q C Q=>match ts with
 |t::r=>g t q C fun B C'=>u r B C' Q
 |[]=>False
def dTup(n:Nat)(u:WA):qd:=fun t g C Q=>match t with
 |.tup ts=>ts.length=n/\u ts g C Q
 |_=>False
def zu{i}(g:X.N.Nodup)(hi:X.N[i]?=some x)(D:Loc X.env.scope x)(B:X.fn x=true\/X.env.scope.names.lookup x=some .local:=by first | exact .inl rfl | exact .inr rfl | assumption):CG X (.Name x pos) (GR i) :=
 ⟨JG.weak ⟨iY g hi D B⟩ fun v σ H Q F=>GF F fun t G C R r s h q f=> f _ H _ C q (s.set r i) h Fw.refl⟩
def sV:Sv X [] Ra:=⟨Nk.weak ⟨nA⟩ fun vs σ H Q g=>GF g fun ts B C R r s h q f=> by
 cases r with
 |nil=>exact⟨rfl,f σ H B C q s h Fw.refl⟩
 |cons _ _=>exact q.elim⟩
def xX(h1:CG X e g)(h2:Sv X es u)(hs:(assignEach (e::es) X.env).map (·.2)=assign e X.env::(assignEach es X.env).map (·.2):=by rfl):Sv X (e::es) (Hg g u):=⟨Nk.weak ⟨qU h1.h.h h2.h.h hs⟩ fun vs σ H Q L=>GF L fun ts M C R r s h q f=> by
 cases r with
 |nil=>exact q.elim
 |@cons v t vs ts I r =>
  exact⟨v,vs,rfl,t,M,C,_,I,s,h,q,fun U H' N C' F s' h' B=>⟨ts,N,C',R,r.aU (B.aU h),s',h',F,fun S H2 O C2 G J h2 D=>f S H2 O C2 G J h2 (B.trans D)⟩⟩⟩
def cY{k}(g:X.calm=true)(h:Sv X es u)(B:(assignEach es X.env).length=n:=by rfl)(D:(assignEach es X.env).findIdx? (·.1)=none:=by rfl):CG X (.Tuple es k pos) (dTup n u):=⟨JG.weak ⟨ZO g h.h.h B D⟩ fun v σ H Q I=>GF I fun t J C R r s h q f=> by
 cases r with
 |@tup a vs ts e r =>
  obtain⟨F,G⟩:=q;exact⟨a,vs,rfl,SqT.of e,by exact r.len▸F,ts,J,C,R,r,s,h,G,f⟩
 |_=>exact q.elim⟩
def cAsg(B:d8)(g:qd):j7:=fun E q C=>B q C fun t C1=>g t q C1 E.nx
def tD(I:CE X e F)(J:CG X tg g)(hs:swapsWithSole [tg] e pos.line X.env=pure false:=by rfl)(L:swappedStores [tg] e X.env=pure none:=by rfl)(h1:(assignEach [tg] X.env).map (·.2)=[assign tg X.env]:=by rfl):CS X (.Assign [tg] e pos) (cAsg F g):=⟨JS.weak ⟨ps_asg I.h.h J.h.h hs L h1⟩ fun ab σ H U=>wX U fun D C E s h q f=>
 ⟨D,C,_,s,h,q,fun x H1 M C1 O S h1 B=>⟨M,D,C1,E.nx,S,s.aU (B.aU h),h1,O,fun Z H' Y C' N s' h' G=>f.nx Z H' Y C' N s' h' (B.trans G)⟩⟩⟩
@[irreducible] def Vg:PV->PV->PV->CH->(CH->Prop)->Prop:=fun o i v C Q=>match o,i with
 |.ref p,.int k=>match C p with
  |some (.lst xs)=>match ixN xs.length k with
   |some j=>Q (pQ C p (.lst (xs.set j v)))
   |none=>False
  |_=>False
 |_,_=>False
def TV(D B:d8)(u:PV->PV->PV->CH->(CH->Prop)->Prop):qd:=fun t g C Q=>D g C fun o C1=>B g C1 fun i C2=>u o i t C2 fun q=>Q g q
def kP{M L:d8}(U:CE X o M)(hi:CE X i L)(S:∀v,assign (.Subscript o i pos) X.env v=(do
   let G <- holding [v] (eval o X.env)
   let I <- holding [v,G] (eval i X.env)
   standAt pos
   holding [v,G,I] (setItem G I v)
   release [v,G,I] []):=by intro _;rfl):CG X (.Subscript o i pos) (TV M L Vg):=⟨JG.weak ⟨pg_sub U.h.h hi.h.h WY S⟩ fun v σ H Q zz=>GF zz fun t J C R r s h q f=>
 ⟨J,C,_,s,h,q,fun x H1 px C1 Y rx h1 D=>⟨J,C1,_,s.aU (D.aU h),h1,Y,fun y H2 ag C2 g ry h2 F=>by
  have Z:=r.aU ((D.trans F).aU h);have ae:=s.aU ((D.trans F).aU h);unfold Vg at g
  split at g
  .next p k =>
   split at g
   .next xs e =>
    split at g
    .next j O =>
     obtain⟨vs,B,N⟩:=h2 p _ e;have ab:=rx.aU (F.aU h1);cases ab;cases ry;refine⟨p,vs,k,j,rfl,rfl,B,by rw[N.len];exact O,?_⟩;exact f σ _ J _ g (ae.aU (iu.mut B rfl _)) (h2.put B rfl ⟨_,mQ,(N.set Z j).aU (iu.mut B rfl _)⟩) (D.trans (F.trans (Fw.put e _ _)))
    .exact g.elim
   .exact g.elim
  .exact g.elim⟩⟩⟩
def Wv(t:j6)(u:j7)(E:ju):Nat->jt->CH->Prop
 |0,_,_=>False
 |n+1,g,C=>t g C fun b C1=>if b=true then u (E.lp (Wv t u E n)) g C1 else E.nx g C1
def Mw(t:j6)(u:j7):j7:=fun E g C=>∃n,Wv t u E n g C
def X3(Y:PassesOwn (model X.prog X.w) X.A X.env X.xe)(U:CT X c t)(S:CB X O u):CS X (.While c O [] pos) (Mw t u):=⟨JS.weak ⟨Yf Y U.h.h S.h.h⟩ fun ae σ H ⟨ρ,C,E,s,h,⟨n,q⟩,f⟩=>by
 refine⟨fun m B H'=>∃g C',gk X.K H' B g/\dh X.K H' C'/\Fw H C H' C'/\Wv t u E m g C',⟨n,ρ,C,s,h,Fw.refl,q⟩,?_⟩;rintro m ab H1 ⟨L,C1,J,h1,I,M⟩
 cases m with
 |zero=>exact M.elim
 |succ m =>
  refine⟨L,C1,_,J,h1,M,fun b H2 b' C2 N e h2 F=>?_⟩;cases e
  cases b with
  |true =>
   exact(Ab rfl)▸⟨fun B H'=>∃g C',gk X.K H' B g/\dh X.K H' C'/\Fw H C H' C'/\Wv t u E m g C',fun B H' z=>⟨m,Bf m,z⟩,
    L,C2,_,J.aU (F.aU h1),h2,N,⟨fun B H' g C' G s' h' D=>⟨g,C',s',h',I.trans (F.trans D),G⟩,fun v H' t C' G Z h' D=>f.rt v H' t C' G Z h' (I.trans (F.trans D)),
     fun B H' g C' G s' h' D=>f.nx B H' g C' G s' h' (I.trans (F.trans D)),fun B H' g C' G s' h' D=>⟨g,C',s',h',I.trans (F.trans D),G⟩⟩⟩
  |false =>
   exact(Ac AR)▸f.nx ab H2 L C2 N (J.aU (F.aU h1)) h2 (I.trans F)⟩
def yG(g:qd)(u:j7)(E:ju):List PV->jt->CH->Prop
 |[],q,C=>E.nx q C
 |x::r,q,C=>g x q C fun B C1=>u (E.lp (yG g u E r)) B C1
structure Zj(K:Dl)(H:Hp)(J:It)(ps:List PV):Prop where
 go:∀i H',i < ps.length->iu H H'->J.go i H'
 yl:∀i H' x H'',iu H H'->J.yld i H' x H''->H''=H'/\∀t,ps[i]?=some t->Rep K H' x t
 st:∀H',iu H H'->J.stop ps.length H'
def oN{K}(j:Zj K H J ps)(s:gk K H σ ρ)(h:dh K H C)(q:yG g u E ps ρ C)(f:sr K H C E ab):
  ∃W:Nat->Nat->St->Hp->Prop,(∃m,W 0 m σ H)/\∀i m σ H,W i m σ H ->
   (J.stop i H/\ab.nx σ H)\/(J.go i H/\∃N,(∀B H',N B H'->∃m',m' < m/\W (i+1) m' B H')/\∀x H',J.yld i H x H'->Y0 K g x σ H' fun aj H2=>YZ K u { ab with nx:=N,ct:=N,bk:=ab.nx } aj H2):=by
 refine⟨fun i m B H'=>m=ps.length - i/\i<=ps.length/\∃L C',gk K H' B L/\dh K H' C'/\Fw H C H' C'/\yG g u E (ps.drop i) L C',⟨ps.length,rfl,AW _,ρ,C,s,h,Fw.refl,q⟩,?_⟩;rintro i m ai H1 ⟨rfl,hi,ah,C1,ag,h1,M,q1⟩;have k1:=M.aU h
 by_cases Z:i < ps.length
 .refine .inr ⟨j.go i H1 Z k1,fun B H'=>∃L C',gk K H' B L/\dh K H' C'/\Fw H C H' C'/\yG g u E (ps.drop (i+1)) L C',fun B H' z=>⟨ps.length - (i+1),by omega,rfl,Z,z⟩,fun x H2 y=>?_⟩
  obtain⟨rfl,y⟩:=j.yl i H1 x H2 k1 y;rw[Ar Z] at q1
  exact⟨ps[i],ah,C1,_,y _ (AN Z),ag,h1,q1,fun B H' L C' q' s' h' Y=>⟨L,C',_,s',h',q',⟨fun ae O U D I S G F=>⟨U,D,S,G,M.trans (Y.trans F),I⟩,fun v O t D I r3 G F=>f.rt v O t D I r3 G (M.trans (Y.trans F)),
   fun ae O U D I S G F=>f.nx ae O U D I S G (M.trans (Y.trans F)),fun ae O U D I S G F=>⟨U,D,S,G,M.trans (Y.trans F),I⟩⟩⟩⟩
 .have e:i=ps.length:=by lia
  subst e;rw[Bz] at q1;exact .inl ⟨j.st H1 k1,f.nx ai H1 ah C1 q1 ag h1 M⟩
def lI{K}{a}(h:SqT K H a vs)(r:dg K H vs ts):Zj K H (Itt K a) ts where
 go:=fun i H' l k=>⟨vs,vs[i]'(by rwa [r.len]),SqT.aU h k,AN _⟩
 yl:=fun i H' x B k y=>⟨y.1,fun t e=>by
  obtain⟨v,g,q⟩:=((r.aU k).get e);have:=y.2 vs (SqT.aU h k)
  rw[g] at this;cases this;exact q⟩
 st:=fun H' k=>⟨vs,SqT.aU h k,by exact r.len▸AI _⟩
def Oz{K}{a}(h:Fz K H a vs)(r:dg K H vs ts):Zj K H (Itl K a) ts where
 go:=fun i H' l k=>⟨vs,vs[i]'(by rwa [r.len]),(h.aU k).sq,AN _⟩
 yl:=fun i H' x B k y=>⟨y.1,fun t e=>by
  obtain⟨v,g,q⟩:=((r.aU k).get e);have:=y.2 vs (h.aU k).sq
  rw[g] at this;cases this;exact q⟩
 st:=fun H' k=>⟨vs,(h.aU k).sq,by exact r.len▸AI _⟩
def Gb{K}: Zj K H (Itr 0 n) ((List.range n).map fun k=>PV.int (k:Nat)) where
 go:=fun i H' l k=>by rwa [AC,A6] at l
 yl:=fun i H' x g k y=>⟨y.1,fun t e=>by
  rw[y.2];rw[Aj] at e
  cases z:(List.range n)[i]? with
  |none=>rw[z] at e;cases e
  |some w =>
   rw[z] at e;cases e;have:=AU.mp z;obtain⟨l,e⟩:=this;rw[List.getElem_range] at e;subst e;rw[Int.zero_add]
   exact .int _⟩
 st:=fun H' k=>by rw[AC,A6];exact AI _
@[irreducible] def eE(B:d8)(g:qd)(u:j7):j7:=fun E q C=>B q C fun t C1=>match t with
 |.tup xs=>yG g u E xs q C1
 |.kt xs=>yG g u E xs q C1
 |_=>False
def rV{tg F:Expr}{I:List Stmt}{J:d8}{g:qd}{u:j7}(O:PassesOwn (model X.prog X.w) X.A X.env X.xe)(M:X.calm=true)(hi:CE X F J)(N:CG X tg g)(L:CB X I u)(hs:∀x,foldedSetIterable F X.env x=pure x:=by intro _;rfl):CS X (.For tg F I [] pos) (eE J g u):=⟨JS.weak ⟨ZK O M (Yn hi.h.h) N.h.h L.h.h hs⟩ fun D σ H U=>wX U fun Y C E s h q f=> by
 unfold eE at q
 exact⟨Y,C,_,s,h,q,fun x H1 Z C1 G S h1 B=>by
  cases S with
  |@tup a vs ts e r=>exact⟨a,rfl,⟨vs,SqT.of e⟩,oN (lI (SqT.of e) r) (s.aU (B.aU h)) h1 G (f.fw B)⟩
  |@kt a vs ts e r=>exact⟨a,rfl,⟨vs,e⟩,oN (lI e r) (s.aU (B.aU h)) h1 G (f.fw B)⟩
  |_=>exact G.elim⟩⟩
def Rw(B:o7)(g:qd)(u:j7):j7:=fun E q C=>B q C fun ts C1=>match ts with
 |[.int j]=>-(2 ^ 62)<=j/\j < 2 ^ 62/\yG g u E ((List.range j.toNat).map fun k=>PV.int (k:Nat)) q C1
 |_=>False
def Qc{tg:Expr}{D:List Stmt}{F:o7}{g:qd}{u:j7}{p I:Pos}(U:PassesOwn (model X.prog X.w) X.A X.env X.xe)(M:X.calm=true)(O:Gl X "range")(S:X.mg "range" = none)(J:CA X [a] F)(N:CG X tg g)(L:CB X D u)(Y:kX a=true:=by rfl)(hs:∀x,foldedSetIterable (.Call (.Name "range" p) [a] [] I) X.env x=pure x:=by intro _;rfl):CS X (.For tg (.Call (.Name "range" p) [a] [] I) D [] pos) (Rw F g u):=⟨JS.weak ⟨ZK U M (cO O S J.h.h (iZ Y)) N.h.h L.h.h hs⟩ fun ab σ H zz=>wX zz fun ρ C E s h q f=>
 ⟨ρ,C,_,s,h,q,fun xs H1 ts C1 B rs h1 G=>by
  split at B
  .next j =>
   cases rs with
   |cons Z r =>
    cases r;cases Z;exact⟨j,rfl,B.1,B.2.1,oN Gb (s.aU (G.aU h)) h1 B.2.2 (f.fw G)⟩
  .exact B.elim⟩⟩
noncomputable def yM(a:Addr)(g:qd)(u:j7)(E:ju):Nat->Nat->jt->CH->Prop
 |0,_,_,_=>False
 |n+1,i,q,C=>match C a with
  |some (.lst xs)=>match xs[i]? with
   |some x=>g x q C fun B C1=>u (E.lp (yM a g u E n (i+1))) B C1
   |none=>E.nx q C
  |_=>False
def Rx(B:d8)(g:qd)(u:j7):j7:=fun E q C=>B q C fun t C1=>match t with
 |.ref a=>∃n,yM a g u E n 0 q C1
 |.fz xs=>yG g u E xs q C1
 |_=>False
def vF{tg ab:Expr}{ag:List Stmt}{ah:d8}{g:qd}{u:j7}(hp:PassesOwn (model X.prog X.w) X.A X.env X.xe)(hc:X.calm=true)(hi:CE X ab ah)(hg:CG X tg g)(hb:CB X ag u)(hs:∀x,foldedSetIterable ab X.env x=pure x:=by intro _;rfl):CS X (.For tg ab ag [] pos) (Rx ah g u):=⟨JS.weak ⟨ZK hp hc (Km hi.h.h) hg.h.h hb.h.h hs⟩ fun aq σ H zz=>wX zz fun ρ C E s h q f=>
 ⟨ρ,C,_,s,h,q,fun x H1 px C1 B rx h1 N=>by
  cases rx with
  |@fz a vs ts e r=>exact⟨a,rfl,⟨vs,e.sq⟩,oN (Oz e r) (s.aU (N.aU h)) h1 B (f.fw N)⟩
  |ref a =>
   obtain⟨n,B⟩:=B
   have ex:∃ys,SqL X.K H1 a ys:=by
    cases n with
    |zero=>exact B.elim
    |succ n =>
     unfold yM at B
     split at B
     .next xs e=>obtain⟨vs,O,_⟩:=h1 a _ e;exact⟨vs,SqL.of O⟩
     .exact B.elim
   refine⟨a,rfl,ex,fun i m Z H'=>∃L C',gk X.K H' Z L/\dh X.K H' C'/\Fw H1 C1 H' C'/\yM a g u E m i L C',⟨n,ρ,C1,s.aU (N.aU h),h1,Fw.refl,B⟩,?_⟩;rintro i m ao H2 ⟨ak,C2,aj,h2,S,I⟩
   cases m with
   |zero=>exact I.elim
   |succ m =>
    unfold yM at I
    split at I
    .next xs e =>
     obtain⟨vs,O,rv⟩:=h2 a _ e
     split at I
     .next x ex =>
      obtain⟨v,ai,rx⟩:=rv.get ex;refine .inr ⟨⟨vs,v,SqL.of O,ai⟩,fun Z H'=>∃L C',gk X.K H' Z L/\dh X.K H' C'/\Fw H1 C1 H' C'/\yM a g u E m (i+1) L C',fun Z H' z=>⟨m,Bf m,z⟩,fun y M hy=>?_⟩;obtain⟨rfl,hy⟩:=hy;have:=hy vs (SqL.of O);rw[ai] at this;cases this
      exact⟨x,ak,C2,_,rx,aj,h2,I,fun Z H' L C' q' s' h' f'=>⟨L,C',_,s',h',q',⟨fun ae M Y D J U G F=>⟨Y,D,U,G,S.trans (f'.trans F),J⟩,fun v M t D J r3 G F=>f.rt v M t D J r3 G (N.trans (S.trans (f'.trans F))),
       fun ae M Y D J U G F=>f.nx ae M Y D J U G (N.trans (S.trans (f'.trans F))),fun ae M Y D J U G F=>⟨Y,D,U,G,S.trans (f'.trans F),J⟩⟩⟩⟩
     .next ex =>
      refine .inl ⟨⟨vs,SqL.of O,?_⟩,f.nx ao H2 ak C2 I aj h2 (N.trans S)⟩;rw[rv.len];exact DF.mp ex
    .exact I.elim
  |_=>exact B.elim⟩⟩
def tJ(t:j6)(c:d8)(g:jt)(Q:K1):List PV->List PV->CH->Prop
 |[],acc,C=>∀p,C p=none->Q (.ref p) (pQ C p (.lst acc))
 |x::r,acc,C=>t (some x::g) C fun b C1=>if b=true then c (some x::g) C1 fun y C2=>acc.length < sizeLine/\tJ t c g Q r (acc++[y]) C2 else tJ t c g Q r acc C1
structure CF(X:Cx)(ifs:List Expr)(c:j6):Prop where
 h:JF X ifs (gJ X.K yD c)
def Zc:j6:=fun _ C Q=>Q true C
def JF.weak(h:JF X g t)(w:∀σ H Q,t' σ H Q->t σ H Q):JF X g t':=⟨fun pins s σ H Q I q=>h.h pins s σ H Q I (w σ H Q q)⟩
def oV:CF X [] Zc:=⟨JF.weak ⟨Yl⟩ fun σ H Q g=>wX g fun B C R s h q f=> f true H true C q rfl h Fw.refl⟩
def G6(h:CT X c t):CF X [c] t:=⟨⟨Yk h.h.h⟩⟩
def zj{K}{c}{Q:VK}(j:Zj K H J ps)(s:gk K H σ ρ)(h:dh K H C)(q:tJ t c ρ R ps [] C)(h0:dh K H0 C0)(ah:Fw H0 C0 H C)(f:∀v H' p C',R p C'->Rep K H' v p->dh K H' C'->Fw H0 C0 H' C'->Q v H')(B:H D=none):
  ∃W:Nat->Nat->List V->Hp->Prop,(∃m,W 0 m [] (upd H D (.lst [])))/\∀i m ys H,W i m ys H ->
   (J.stop i H/\Q (.ref D) H)\/(J.go i H/\∀x H',J.yld i H x H'->gJ K yD t (some x::σ) H' fun b H2=>
    if b=true then gJ K (Rep K) c (some x::σ) H2 fun y H3=>H3 D=some (.lst ys)/\ys.length < sizeLine/\∃I,I < m/\W (i+1) I (ys++[y]) (upd H3 D (.lst (ys++[y])))
    else ∃I,I < m/\W (i+1) I ys H2):=by
 refine⟨fun i m ys H'=>m=ps.length - i/\i<=ps.length/\∃acc C',H' D=some (.lst ys)/\C' D=none/\dg K H' ys acc/\dh K H' C'/\Fw H C H' C'/\tJ t c ρ R (ps.drop i) acc C',
  ⟨ps.length,rfl,AW _,[],C,mQ,h.fresh B,.nil,h.new B _,Fw.new B _,q⟩,?_⟩
 rintro i m ys H1 ⟨rfl,hi,acc,C1,e1,n1,Y,h1,L,U⟩;have G:=L.aU h
 by_cases F:i < ps.length
 .refine .inr ⟨j.go i H1 F G,fun x H2 y=>?_⟩
  obtain⟨rfl,y⟩:=j.yl i H1 x H2 G y;have rx:=y _ (AN F);rw[Ar F] at U;refine⟨some ps[i]::ρ,C1,_,.cons rx (s.aU G),h1,U,fun b H3 b' C3 q3 e h3 M=>?_⟩;cases e;obtain⟨O,e3⟩:=M D (by rw[n1];rfl) (by lia);rw[e1] at e3;rw[n1] at O;have N:=M.aU h1
  cases b with
  |true =>
   refine⟨some ps[i]::ρ,C3,_,.cons (rx.aU N) ((s.aU G).aU N),h3,q3,fun v H4 p C4 q4 r4 h4 ab=>sD (ab D (by rw[O];rfl) (by lia)) fun n4 e4=>?_⟩;rw[e3] at e4;rw[O] at n4;have m4:iu H4 (upd H4 D (.lst (ys++[v]))):=iu.mut e4 rfl _;refine⟨e4,by rw[Y.len];exact q4.1,ps.length - (i+1),by lia,rfl,F,acc++[p],C4,mQ,n4,?_,?_,?_,q4.2⟩
   .exact (((Y.aU N).aU (ab.aU h3)).append (.cons r4 .nil)).aU m4
   .intro a o g
    have ae:a≠D:=fun z=>by subst z;rw[n4] at g;cases g
    exact(h4 a o g).aU m4 (uQ ae)
   .intro a g S
    have ae:a≠D:=fun z=>S (z▸B);exact sD ((L.trans (M.trans ab)) a g S) fun Z x2=>⟨Z,(uQ ae).trans x2⟩
  |false =>
   exact⟨ps.length - (i+1),by lia,rfl,F,acc,C3,e3,O,Y.aU N,h3,L.trans M,q3⟩
 .have e:i=ps.length:=by lia
  subst e;rw[Bz] at U;refine .inl ⟨j.st H1 G,f (.ref D) H1 (.ref D) _ (U D n1) (.ref D) ?_ ?_⟩
  .intro a o g
   by_cases z:a=D
   .subst z;rw[jQ] at g;cases g;exact⟨ys,e1,Y⟩
   .rw [vQ z] at g;exact h1 a o g
  .intro a g S
   obtain⟨Z,x2⟩:=ah a g S;have ag:H a≠none:=by rwa [x2]
   obtain⟨y1,y2⟩:=L a (by rwa [Z]) ag;exact⟨(vQ (show a≠D from fun z=>ag (z▸B))).trans (y1.trans Z),y2.trans x2⟩
structure CI(X:Cx)(tg it:Expr)(wi:TI)(c:jt->CH->(List PV->CH->Prop)->Prop):Prop where
 j:JI X tg it wi
 w:∀σ H ρ C R Q,gk X.K H σ ρ->dh X.K H C->c ρ C R->(∀J H' ps C',R ps C'->Zj X.K H' J ps->dh X.K H' C'->Fw H C H' C'->Q J H')->wi σ H Q
def cItT(g:d8):jt->CH->(List PV->CH->Prop)->Prop:=fun q C Q=>g q C fun t C1=>match t with
 |.tup xs=>Q xs C1
 |.kt xs=>Q xs C1
 |_=>False
def tU(h:CE X e B):CI X tg e (iTup X.K (gJ X.K (Rep X.K) B)) (cItT B):=⟨⟨Yn h.h.h⟩,fun σ H G C R Q s h q f=>⟨G,C,_,s,h,q,fun x H1 I C1 g F h1 D=>by
  cases F with
  |@tup a vs ts e r=>exact⟨a,rfl,⟨vs,SqT.of e⟩,f _ H1 ts C1 g (lI (SqT.of e) r) h1 D⟩
  |@kt a vs ts e r=>exact⟨a,rfl,⟨vs,e⟩,f _ H1 ts C1 g (lI e r) h1 D⟩
  |_=>exact g.elim⟩⟩
def cItR(g:o7):jt->CH->(List PV->CH->Prop)->Prop:=fun q C Q=>g q C fun ts C1=>match ts with
 |[.int j]=>-(2 ^ 62)<=j/\j < 2 ^ 62/\Q ((List.range j.toNat).map fun k=>PV.int (k:Nat)) C1
 |_=>False
def Jw(G:Gl X "range")(I:X.mg "range" = none)(F:CA X [a] B)(J:kX a=true:=by rfl):CI X tg (.Call (.Name "range" p) [a] [] N) (iRng1 (gJ X.K (dg X.K) B)) (cItR B):=⟨⟨cO G I F.h.h (iZ J)⟩,fun σ H M C R Q s h q f=>⟨M,C,_,s,h,q,fun xs H1 ts C1 g rs h1 D=>by
  split at g
  .next j =>
   cases rs with
   |cons L r =>
    cases r;cases L;exact⟨j,rfl,g.1,g.2.1,f _ H1 _ C1 g.2.2 Gb h1 D⟩
  .exact g.elim⟩⟩
def Uw(q:jt->CH->(List PV->CH->Prop)->Prop)(t:j6)(c:d8):d8:=fun g C Q=>q g C fun ps C1=>tJ t c g Q ps [] C1
def iO{c}(hi:CI X tg it I B){Q:VK}(h:gJ X.K (Rep X.K) (Uw B t c) σ H Q):QV I (gJ X.K yD t) (gJ X.K (Rep X.K) c) σ H Q :=wX h fun L C R s h q f=>hi.w σ H L C _ _ s h q fun J H' ps C' G j h' g D F=>zj j (s.aU (g.aU h)) h' G h g f F
def zY{J G:Expr}{x:Str}{M:Pos}{L:List Expr}{F:Scope}{Y:TI}{I:jt->CH->(List PV->CH->Prop)->Prop}{t:j6}{c:d8}(O:X.calm=true)(N:(x::X.N).Nodup)(K:∃g,qB X x F g)(hi:CI X (.Name x M) G Y I)(U:∀g B C D q,CF (aJ X x F g B C D q) L t)(S:∀g B C D q,CE (aJ X x F g B C D q) J c)(hs:∀v,foldedSetIterable G X.env v=pure v:=by intro _;rfl):CE X (.ListComp J [⟨.Name x M,G,L,0⟩] F pos) (Uw I t c) :=
 ⟨JE.weak (tL O N K hi.j (fun g B C D q=>(U g B C D q).h) (fun g B C D q=>(S g B C D q).h) hs) fun _ _ _ h=>iO hi h⟩
end
def eP(N:List Str)(ts:List PV):jt:=ts.map some++List.replicate (N.length - ts.length) none
theorem gO{K}: ∀n,gk K H (List.replicate n none) (List.replicate n none)
 |0=>.nil
 |n+1=>.cons trivial (gO n)
theorem Q3{K}(s:gk K H σ g):∀{vs}{ts},dg K H vs ts->gk K H (vs.map some++σ) (ts.map some++g)
 |_,_,.nil=>s
 |_,_,.cons h r=>.cons h (Q3 s r)
def Zx{K}(r:dg K H vs ts):gk K H (L2.start N vs) (eP N ts):=by
 delta L2.start eP
 exact r.len▸Q3 (gO _) r
section
variable {P:Program}{w:World}{K:Dl}{mg:Str->Option Value}{base:Heap}
def Fun.okC{st}(F:Fun K x J st f fd)(S:FnScope N ps (yX st))(Y:∀ts C R,G ts C R->ts.length=ps.length)(M:∀D A I s H E,Room k (A.deeper (envOfC J (yX st) s.heap.objs.size f D)) ->
   ∃c,CB (Qa CX0 P w K mg base N J (yX st) f D A I s H E).nox (xV st) c/\∀ts C R,G ts C R->c (.go R) (eP N ts) C):FnOk P w K mg base CX0 (k+1) f fd ps (my K G):=by
 refine F.okJ S ?_ ?_
 .rintro vs H Q E ⟨ts,C,R,r,h,g,f⟩
  exact r.len▸Y ts C R g
 .rintro D A I s H vs Q E U ⟨ts,C,R,r,h,g,f⟩
  exact sQ (M D A I s H E U) fun c O q=>⟨_,O.h,eP N ts,C,_,Zx r,h,q ts C R g,⟨fun ab H' Z C' B s' h' L=>f .non H' .non C' B .non h' L,f,fun _ _ _ _ B _ _ _=>B.elim,fun _ _ _ _ B _ _ _=>B.elim⟩⟩
end
section
variable {X:Cx}{a b c e o i:Expr}{es:List Expr}{pos:Pos}
@[irreducible] def cI(g:Int->Int->PV):j8:=fun x y C Q=>match x,y with
 |.int i,.int j=>Q (g i j) C
 |_,_=>False
def Ng(P:Int->Int->Prop)(g:Int->Int->PV):j8:=fun x y C Q=>match x,y with
 |.int i,.int j=>P i j/\Q (g i j) C
 |_,_=>False
def K7{K}(B:∀i j H,Rep K H (g i j) (g' i j)):j5 K (rI0 g) (cI g'):=fun x y G I H C Q R D F h q f=>by
 delta cI at q
 split at q
 .cases D;cases F
  exact⟨_,_,rfl,rfl,f _ H _ C q (B _ _ _) h Fw.refl⟩
 .exact q.elim
def Qf{K}(B:∀i j H,Rep K H (g i j) (g' i j)):j5 K (rI P g) (Ng P g'):=fun x y G I H C Q R D F h q f=>by
 delta Ng at q
 split at q
 .cases D;cases F
  exact⟨_,_,rfl,rfl,q.1,f _ H _ C q.2 (B _ _ _) h Fw.refl⟩
 .exact q.elim
def Qd{K}:j5 K (rI0 fun i j=>.int (i - j)) (cI fun i j=>.int (i - j)):=K7 fun _ _ _=>.int _
def wF{K}:j5 K (rI CMul fun i j=>.int (i * j)) (Ng CMul fun i j=>.int (i * j)):=Qf fun _ _ _=>.int _
def X4{K}:j5 K (rI (fun _ j=>0 < j/\j < 18446744073709551616) fun i j=>.int (i / j)) (Ng (fun _ j=>0 < j/\j < 18446744073709551616) fun i j=>.int (i / j)):=Qf fun _ _ _=>.int _
def sU{K}:j5 K (rI (fun _ j=>0 < j) fun i j=>.int (i % j)) (Ng (fun _ j=>0 < j) fun i j=>.int (i % j)):=Qf fun _ _ _=>.int _
def zP{K}:j5 K (rI CPow fun i j=>.int (i ^ j.toNat)) (Ng CPow fun i j=>.int (i ^ j.toNat)):=Qf fun _ _ _=>.int _
def Jt{K}:j5 K (rI0 fun i j=>.bl (decide (i < j))) (cI fun i j=>.bl (decide (i < j))):=K7 fun _ _ _=>.bl _
def Qe{K}:j5 K (rI0 fun i j=>.bl (decide (i<=j))) (cI fun i j=>.bl (decide (i<=j))):=K7 fun _ _ _=>.bl _
def Ju{K}:j5 K (rI0 fun i j=>.bl (decide (j < i))) (cI fun i j=>.bl (decide (j < i))):=K7 fun _ _ _=>.bl _
def Rq:PV->CH->K1->Prop:=fun x C Q=>match x with
 |.int i=>Q (.int (-i)) C
 |_=>False
def kF{K}:Cun K (rU fun i=>.int (-i)) Rq:=fun x B H C Q R g h q f=>by
 delta Rq at q
 split at q
 .cases g;exact⟨_,rfl,f _ H _ C q (.int _) h Fw.refl⟩
 .exact q.elim
def eI(s:Same H H'):Fw H C H' C:=fun a c n=>⟨rfl,by
 cases e:H a with
 |none=>exact absurd e n
 |some o=>exact s a o e⟩
def uH{K}(h:dh K H C)(s:Same H H'):dh K H' C:=fun a o c=>sQ ((h a o c).mut) fun u e _=>(h a o c).aU (fun b v _ e=>s b v e) ((s a u e).trans e.symm)
@[irreducible] def QC:j8:=fun x y C Q=>match x,y with
 |.int i,.int j=>Q (.int (i+j)) C
 |.str i,.str j=>i.length+j.length<=sizeLine/\Q (.str (i++j)) C
 |.tup xs,.tup ys=>xs.length+ys.length<=sizeLine/\Q (.tup (xs++ys)) C
 |.ref a,.ref b=>match C a,C b with
  |some (.lst xs),some (.lst ys)=>xs.length+ys.length<=sizeLine/\∀p,C p=none->Q (.ref p) (pQ C p (.lst (xs++ys)))
  |_,_=>False
 |_,_=>False
abbrev Fq:R2:=fun x y H Q=>rI0 (fun i j=>.int (i+j)) x y H Q\/((∃i j,x=.str i/\y=.str j/\i.length+j.length<=sizeLine/\Q (.str (i++j)) H)\/(Fp x y H Q\/rCat x y H Q))
def yZ:OpR X (binaryOp .Add) Fq:=OpR.or op_add (OpR.or ZS (OpR.or v6 op_cat))
def bZ{K}:j5 K Fq QC:=fun x y U Y H C Q R B D h q f=>by
 delta QC at q
 split at q
 .cases B;cases D
  exact .inl ⟨_,_,rfl,rfl,f _ H _ C q (.int _) h Fw.refl⟩
 .cases B;cases D
  exact .inr (.inl ⟨_,_,rfl,rfl,q.1,f _ H _ C q.2 (.str _) h Fw.refl⟩)
 .cases B with
  |tup e r=>cases D with
   |tup J F =>
    refine .inr (.inr (.inl ⟨_,_,_,_,rfl,rfl,e,J,by rw[r.len,F.len];exact q.1,fun z H' s S _=>?_⟩));exact f _ H' _ C q.2 (.tup S ((r.append F).aU fun b v _ e=>s b v e)) (uH h s) (eI s)
 .split at q
  .next xs ys L M =>
   refine sQ (h _ _ L) fun vs O I=>sQ (h _ _ M) fun Z N G=>?_;cases B;cases D
   refine .inr (.inr (.inr ⟨_,_,_,_,rfl,rfl,O,N,by rw[I.len,G.len];exact q.1,fun p g=>?_⟩));exact f _ _ _ _ (q.2 p (h.fresh g)) (.ref p) (h.lay g ⟨_,mQ,(I.append G).aU (iu.new g _)⟩) (Fw.lay g _ _)
  .exact q.elim
 .exact q.elim
noncomputable def sEq:PV->PV->Option Bool
 |.non,.non=>some true | .non,.int _=>some false | .int _,.non=>some false | .non,.bl _=>some false | .bl _,.non=>some false | .non,.str _=>some false | .str _,.non=>some false
 |.int i,.int j=>some (decide (i=j)) | .bl b,.bl c=>some (decide (b=c)) | .str x,.str y=>some (decide (x=y))
 |.int _,.str _=>some false | .str _,.int _=>some false | .bl _,.str _=>some false | .str _,.bl _=>some false
 |_,_=>none
@[irreducible] def Nh(k:Bool->Bool):j8:=fun x y C Q=>match sEq x y with
 |some b=>Q (.bl (k b)) C
 |none=>False
def toV:PV->Option V
 |.non=>some .non | .bl b=>some (.bl b) | .int i=>some (.int i) | .str x=>some (.str x) | _=>none
def J8{K}(r:Rep K H x g)(e:toV g=some v):x=v:=by
 cases r<;>cases e<;>rfl
def uz{b}(e:sEq g q=some b):∃v u,toV g=some v/\toV q=some u/\scal v u=true/\decide (v=u)=b:=by
 cases g<;>cases q<;>cases e<;>exact⟨_,_,rfl,rfl,rfl,by simp⟩
def Kb{K}{b}(F:Rep K H x B)(G:Rep K H y D)(e:sEq B D=some b):scal x y=true/\decide (x=y)=b:=by
 refine mT (uz e) fun v u h1 h2 g q=>?_;cases J8 F h1;cases J8 G h2;exact⟨g,q⟩
def vX{K}:j5 K rEq (Nh id):=fun x y D F H C Q R g B h q f=>by
 delta Nh at q
 split at q
 .next b e =>
  obtain⟨h1,h2⟩:=Kb g B e;exact⟨h1,h2▸f _ H _ C q (.bl _) h Fw.refl⟩
 .exact q.elim
def nG{K}:j5 K rNe (Nh not):=fun x y D F H C Q R g B h q f=>by
 delta Nh at q
 split at q
 .next b e =>
  obtain⟨h1,h2⟩:=Kb g B e;exact⟨h1,h2▸f _ H _ C q (.bl _) h Fw.refl⟩
 .exact q.elim
def sI:PV->Bool
 |.non=>true
 |_=>false
def R6(k:Bool->Bool):j8:=fun x y C Q=>match y with
 |.non=>Q (.bl (k (sI x))) C
 |_=>False
def XG{K}(r:Rep K H x g):decide (x=.non)=sI g:=by
 cases r<;>simp[sI]
def vG{K}:j5 K (fun x y H Q=>y=.non/\Q (.bl (decide (x=.non))) H) (R6 id):=fun x y D F H C Q R g B h q f=>by
 cases B with
 |non=>exact⟨rfl,by exact(XG g)▸f _ H _ C q (.bl _) h Fw.refl⟩
 |_=>exact q.elim
def jS{K}:j5 K (fun x y H Q=>y=.non/\Q (.bl (!decide (x=.non))) H) (R6 not):=fun x y D F H C Q R g B h q f=>by
 cases B with
 |non=>exact⟨rfl,by exact(XG g)▸f _ H _ C q (.bl _) h Fw.refl⟩
 |_=>exact q.elim
def qu(xs:List PV)(i:Int)(C:CH)(Q:K1):Prop:=match atI xs i with
 |some v=>Q v C
 |none=>False
@[irreducible] def qt:j8:=fun x y C Q=>match x,y with
 |.tup xs,.int i=>qu xs i C Q
 |.kt xs,.int i=>qu xs i C Q
 |.fz xs,.int i=>qu xs i C Q
 |.ref a,.int i=>match C a with
  |some (.lst xs)=>qu xs i C Q
  |_=>False
 |.str z,.int i=>z.length<=sizeLine/\match atI z.cps.toList i with
  |some c=>Q (.str ⟨#[c]⟩) C
  |none=>False
 |_,_=>False
theorem dg.at{K}{i}(r:dg K H vs ts)(e:atI ts i=some t):∃v,atI vs i=some v/\Rep K H v t:=by
 delta atI at e ⊢
 rw[r.len]
 cases z:ixN ts.length i with
 |none=>rw[z] at e;cases e
 |some j =>
  rw[z] at e;exact r.get e
def QB{K}{i}(r:dg K H vs ts)(q:qu ts i C R):∃v t,atI vs i=some v/\Rep K H v t/\R t C:=by
 delta qu at q
 split at q
 .next t e =>
  exact sQ (r.at e) fun v g B=>⟨v,t,g,B,q⟩
 .exact q.elim
def Mp{K}:j5 K (rIx K) qt:=fun x y M N H C Q R D F h q f=>by
 delta qt at q
 split at q
 .cases F
  cases D with
  |tup e r =>
   obtain⟨v,t,g,B,q⟩:=QB r q;exact .inr (.inl ⟨_,_,_,v,rfl,rfl,SqT.of e,g,f _ H _ C q B h Fw.refl⟩)
 .cases F
  cases D with
  |kt e r =>
   obtain⟨v,t,g,B,q⟩:=QB r q;exact .inr (.inl ⟨_,_,_,v,rfl,rfl,e,g,f _ H _ C q B h Fw.refl⟩)
 .cases F
  cases D with
  |fz e r =>
   obtain⟨v,t,g,B,q⟩:=QB r q;exact .inl ⟨_,_,_,v,rfl,rfl,e.sq,g,f _ H _ C q B h Fw.refl⟩
 .cases F
  split at q
  .next xs e =>
   obtain⟨vs,I,L⟩:=(h _ _ e);cases D;exact vZ (QB L q) fun v t g B q=>.inl ⟨_,_,_,v,rfl,rfl,SqL.of I,g,f _ H _ C q B h Fw.refl⟩
  .exact q.elim
 .cases F;cases D
  obtain⟨J,G⟩:=q
  split at G
  .next c e=>exact .inr (.inr ⟨_,_,c,rfl,rfl,J,e,f _ H _ C G (.str _) h Fw.refl⟩)
  .exact G.elim
 .exact q.elim
def yf:IxR X (rIx X.K):=ix_seq
@[irreducible] def sN:GC:=fun ts C Q=>match ts with
 |[.tup xs]=>Q (.int xs.length) C
 |[.kt xs]=>Q (.int xs.length) C
 |[.fz xs]=>Q (.int xs.length) C
 |[.ref a]=>match C a with
  |some (.lst xs)=>Q (.int xs.length) C
  |some (.dK kvs)=>Q (.int kvs.length) C
  |_=>False
 |[.str z]=>z.length<=sizeLine/\Q (.int z.length) C
 |_=>False
abbrev Fj(K:Dl):List V->Hp->VK->Prop:=fun xs H Q=>(∃p ys,xs=[.ref p]/\(SqL K H p ys\/SqT K H p ys)/\Q (.int ys.length) H)\/((∃a kvs,xs=[V.ref a]/\H a=some (.dK kvs)/\Q (.int kvs.length) H)\/∃z,xs=[.str z]/\z.length<=sizeLine/\Q (.int z.length) H)
def Wu:CallR X (.builtin "len") (Fj X.K):=CallR.or Qt (CallR.or Ws Qs)
def oX{K}(r:dg K H xs [t]):∃v,xs=[v]/\Rep K H v t:=by
 cases r with
 |cons h r=>cases r;exact⟨_,rfl,h⟩
def fU{K}(r:dg K H xs [t,u]):∃v w,xs=[v,w]/\Rep K H v t/\Rep K H w u:=by
 cases r with
 |cons h r=>obtain⟨w,rfl,h'⟩:=oX r;exact⟨_,w,rfl,h,h'⟩
def Dq{K}:nq K (Fj K) sN:=fun xs ps H C Q R rs h q f=>by
 delta sN at q
 split at q
 .obtain ⟨v,rfl,r⟩:=oX rs
  cases r with
  |tup e r=>exact .inl ⟨_,_,rfl,.inr (SqT.of e),f _ H _ C (by rwa [r.len]) (.int _) h Fw.refl⟩
 .obtain ⟨v,rfl,r⟩:=oX rs
  cases r with
  |kt e r=>exact .inl ⟨_,_,rfl,.inr e,f _ H _ C (by rwa [r.len]) (.int _) h Fw.refl⟩
 .obtain ⟨v,rfl,r⟩:=oX rs
  cases r with
  |fz e r=>exact .inl ⟨_,_,rfl,.inl e.sq,f _ H _ C (by rwa [r.len]) (.int _) h Fw.refl⟩
 .obtain ⟨v,rfl,r⟩:=oX rs
  split at q
  .next xs e =>
   obtain⟨vs,g,B⟩:=h _ _ e;cases r;exact .inl ⟨_,_,rfl,.inl (SqL.of g),f _ H _ C (by rwa [B.len]) (.int _) h Fw.refl⟩
  .next kvs e =>
   obtain⟨vs,g,B⟩:=h _ _ e;cases r;exact .inr (.inl ⟨_,_,rfl,g,f _ H _ C (by rwa [Paired.length B]) (.int _) h Fw.refl⟩)
  .exact q.elim
 .obtain ⟨v,rfl,r⟩:=oX rs
  cases r;exact .inr (.inr ⟨_,rfl,q.1,f _ H _ C q.2 (.int _) h Fw.refl⟩)
 .exact q.elim
noncomputable def tyP(C:CH):PV->Option Ty
 |.non=>some .non
 |.bl _=>some .bl
 |.int _=>some .int
 |.str _=>some .str
 |.tup _=>some .tup
 |.ref a=>match C a with
  |some (.lst _)=>some .lst
  |some (.dK _)=>some .dct
  |_=>none
 |_=>none
def J4{K}(r:Rep K H x t)(h:dh K H C)(e:tyP C t=some n):M7 H x=some n:=by
 cases r with
 |tup q _=>cases e;show(H _).bind M8=_;rw[q];rfl
 |ref a =>
  delta tyP at e
  dsimp only at e
  split at e
  .next xs c=>cases e;obtain⟨vs,g,_⟩:=h _ _ c;show(H _).bind M8=_;rw[g];rfl
  .next xs c=>cases e;obtain⟨vs,g,_⟩:=h _ _ c;show(H _).bind M8=_;rw[g];rfl
  .cases e
 |kt _ _=>cases e
 |fz _ _=>cases e
 |ty _=>cases e
 |vw _=>cases e
 |_=>cases e;rfl
def gL(n:String):Option Ty:=[Ty.non,.bl,.int,.str,.lst,.tup,.dct].find? fun t=>mB t==n
def QT(h:gL n=some t):n=mB t:=by
 have:=List.find?_some h;exact(eq_of_beq this).symm
@[irreducible] def Ed:GC:=fun ts C Q=>match ts with
 |[x,.ty n]=>match gL n,tyP C x with
  |some T,some k=>Q (.bl (aW k T)) C
  |_,_=>False
 |_=>False
def lZ{K}:nq K (fun xs H Q=>∃x T n,xs=[x,.ty (mB T)]/\M7 H x=some n/\Q (.bl (aW n T)) H) Ed:=fun xs ps H C Q R rs h q f=>by
 delta Ed at q
 split at q
 .split at q
  .next T k g B =>
   obtain⟨v,w,rfl,D,F⟩:=fU rs;cases F;exact(QT g)▸⟨v,T,k,rfl,J4 D h B,f _ H _ C q (.bl _) h Fw.refl⟩
  .exact q.elim
 .exact q.elim
def cAbs:GC:=fun ts C Q=>match ts with
 |[.int i]=>Q (.int (if i < 0 then -i else i)) C
 |_=>False
def Dr{K}:nq K (fun xs H Q=>∃i,xs=[.int i]/\Q (.int (if i < 0 then -i else i)) H) cAbs:=fun xs ps H C Q R rs h q f=>by
 delta cAbs at q
 split at q
 .obtain ⟨v,rfl,r⟩:=oX rs
  cases r;exact⟨_,rfl,f _ H _ C q (.int _) h Fw.refl⟩
 .exact q.elim
@[irreducible] def bS:GC:=fun ts C Q=>match ts with
 |[.tup xs]=>Q (.tup xs) C
 |[.ref a]=>match C a with
  |some (.lst xs)=>Q (.tup xs) C
  |_=>False
 |_=>False
def Do{K}:nq K (fun xs H Q=>∃p ys,xs=[.ref p]/\((SqL K H p ys/\∀l,H l=none->Q (.ref l) (upd H l (.tup ys)))\/(SqT K H p ys/\Q (.ref p) H))) bS:=fun xs ps H C Q R rs h q f=>by
 delta bS at q
 split at q
 .obtain ⟨v,rfl,r⟩:=oX rs
  cases r with
  |tup e r=>exact⟨_,_,rfl,.inr ⟨SqT.of e,f _ H _ C q (.tup e r) h Fw.refl⟩⟩
 .obtain ⟨v,rfl,r⟩:=oX rs
  split at q
  .next xs e =>
   obtain⟨vs,B,D⟩:=(h _ _ e);cases r;exact⟨_,_,rfl,.inl ⟨SqL.of B,fun l g=>f _ _ _ C q (.tup mQ (D.aU (iu.new g _))) (h.new g _) (Fw.new g _)⟩⟩
  .exact q.elim
 .exact q.elim
def Us:GC:=fun ts C Q=>match ts with
 |[.tup xs]=>∀p,C p=none->Q (.ref p) (pQ C p (.lst xs))
 |[.ref a]=>match C a with
  |some (.lst xs)=>∀p,C p=none->Q (.ref p) (pQ C p (.lst xs))
  |_=>False
 |_=>False
def Vd{K}:nq K (fun xs H Q=>∃p ys,xs=[.ref p]/\(SqL K H p ys\/SqT K H p ys)/\∀l,H l=none->Q (.ref l) (upd H l (.lst ys))) Us:=fun xs ps H C Q R rs h q f=>by
 delta Us at q
 split at q
 .obtain ⟨v,rfl,r⟩:=oX rs
  cases r with
  |tup e r=>exact⟨_,_,rfl,.inr (SqT.of e),fun l g=>f _ _ _ _ (q l (h.fresh g)) (.ref l) (h.lay g ⟨_,mQ,r.aU (iu.new g _)⟩) (Fw.lay g _ _)⟩
 .obtain ⟨v,rfl,r⟩:=oX rs
  split at q
  .next xs e =>
   obtain⟨vs,B,D⟩:=(h _ _ e);cases r;exact⟨_,_,rfl,.inl (SqL.of B),fun l g=>f _ _ _ _ (q l (h.fresh g)) (.ref l) (h.lay g ⟨_,mQ,D.aU (iu.new g _)⟩) (Fw.lay g _ _)⟩
  .exact q.elim
 .exact q.elim
noncomputable def pS:List PV->Option (List Bool)
 |[]=>some []
 |.bl b::r=>(pS r).map (b :: ·)
 |_=>none
@[irreducible] def Ej:GC:=fun ts C Q=>match ts with
 |[.ref a]=>match C a with
  |some (.lst xs)=>match pS xs with
   |some bs=>Q (.bl (bs.all id)) C
   |none=>False
  |_=>False
 |_=>False
def Wx{K}(r:dg K H vs ts)(e:pS ts=some bs):vs=bs.map V.bl:=by
 induction ts generalizing vs bs with
 |nil=>cases r;cases e;rfl
 |cons t ts g =>
  cases r with
  |@cons v _ vs _ h r =>
   cases t with
   |bl b =>
    unfold pS at e
    cases z:pS ts with
    |none=>rw[z] at e;cases e
    |some cs =>
     rw[z] at e;injection e with e
     subst e;cases h;rw[g r z];rfl
   |_=>cases e
def yP{K}:nq K (fun xs H Q=>∃p ys,xs=[.ref p]/\SqL K H p (List.map V.bl ys)/\Q (.bl (ys.all id)) H) Ej:=fun xs ps H C Q R rs h q f=>by
 delta Ej at q
 split at q
 .obtain ⟨v,rfl,r⟩:=oX rs
  split at q
  .next xs e =>
   split at q
   .next bs g =>
    obtain⟨vs,B,D⟩:=(h _ _ e);cases r;have:=Wx D g;subst this;exact⟨_,bs,rfl,SqL.of B,f _ H _ C q (.bl _) h Fw.refl⟩
   .exact q.elim
  .exact q.elim
 .exact q.elim
def O1(x:PV)(C:CH):Prop:=match x with
 |.ref a=>match C a with
  |some (.lst _)=>True
  |_=>False
 |_=>False
def cBM(D:PV->List PV->CH->K1->Prop)(B:d8)(q:o7):d8:=fun g C Q=>B g C fun x C1=>O1 x C1/\q g C1 fun xs C2=>D x xs C2 Q
def su(K:Dl)(r:V->List V->Hp->VK->Prop)(q:PV->List PV->CH->K1->Prop):Prop:=∀x g xs ps H C Q R,Rep K H x g->dg K H xs ps->dh K H C->q g ps C R->(∀v H' t C',R t C'->Rep K H' v t->dh K H' C'->Fw H C H' C'->Q v H')->r x xs H Q
def Gf{K}(l:O1 t C)(r:Rep K H x t)(h:dh K H C):tyV K "list" x H:=by
 delta O1 at l
 split at l
 .split at l
  .next e=>obtain⟨vs,g,_⟩:=(h _ _ e);cases r;exact .inl ⟨rfl,vs,SqL.of g⟩
  .exact l.elim
 .exact l.elim
def Uk{id}{apos cpos}(pa:PlainAttrs "list")(ae:Slot "list" name id)(ab:typeOf (.builtin id)=pure (.type "method_descriptor"))(Z:MtR X id r)(hr:su X.K r L)(ho:CE X o J)(N:CA X (e::es) I)(S:attributeBase o name X.env (eval o X.env)=eval o X.env:=by rfl)(U:((backTo cpos (starEach (e::es) X.env)).all (fun x=>!x.1)&&(backToKw cpos (keywordEach [] X.env)).all (fun x=>x.1.isSome)
   && decide ((e::es).length+([]:List Keyword).length+(if ([]:List Keyword).isEmpty then 0 else 1) < 30))=true:=by rfl)(Y:(apos.endLine==cpos.line)=true:=by rfl)(hs:kX e=true:=by rfl)(O:es.all kX=true:=by rfl):
  CE X (.Call (.Attribute o name apos) (e::es) [] cpos) (cBM L J I):=⟨JE.weak ⟨pe_bm pa ae ab Z ho.h.h N.h.h S U Y (iZ hs) (bW O)⟩ fun σ H Q zz=>wX zz fun G C R s h q f=>
 ⟨G,C,_,s,h,q,fun x H1 px C1 D F h1 g=>⟨Gf D.1 F h1,G,C1,_,s.aU (g.aU h),h1,D.2,fun xs H2 ps C2 q2 rs h2 B=>
  hr x px xs ps H2 C2 Q R (F.aU (B.aU h1)) rs h2 q2 fun v H' t C' q' r' h' M=>f v H' t C' q' r' h' (g.trans (B.trans M))⟩⟩⟩
@[irreducible] def fP:PV->List PV->CH->K1->Prop:=fun x ts C Q=>match x,ts with
 |.ref a,[y]=>match C a with
  |some (.lst xs)=>xs.length < sizeLine/\Q .non (pQ C a (.lst (xs++[y])))
  |_=>False
 |_,_=>False
def Jv{K}:su K Kf fP:=fun x F xs ps H C Q R D rs h q f=>by
 delta fP at q
 split at q
 .split at q
  .next ys e =>
   obtain⟨vs,g,B⟩:=(h _ _ e);obtain⟨v,rfl,r⟩:=oX rs;cases D;exact⟨_,vs,v,rfl,rfl,g,by exact B.len▸q.1,f _ _ _ _ q.2 .non (h.put g rfl ⟨_,mQ,(B.append (.cons r .nil)).aU (iu.mut g rfl _)⟩) (Fw.put e _ _)⟩
  .exact q.elim
 .exact q.elim
end
noncomputable def fV:PV->Option Key
 |.non=>some (.inl none)
 |.int i=>some (.inl (some i))
 |.str x=>some (.inr x)
 |_=>none
noncomputable def iV:Key->PV
 |.inl none=>.non
 |.inl (some i)=>.int i
 |.inr x=>.str x
def ig k:fV (iV k)=some k:=by rcases k with (_ | i) | x<;>rfl
def fO{K}k:Rep K H (kV k) (iV k):=by
 rcases k with (_ | i) | x
 .exact .non
 .exact .int i
 .exact .str x
def xU{K}(r:Rep K H v t)(e:fV t=some k):v=kV k:=by
 cases r<;>cases e<;>rfl
def wV(kvs:List (Key×PV))(k:Key):Option PV:=(kvs.find? fun g=>decide (g.1=k)).map (·.2)
def cZ(kvs:List (Key×PV))(k:Key)(v:PV):List (Key×PV):=if (kvs.any fun g=>decide (g.1=k))=true then kvs.map fun g=>if g.1=k then (g.1,v) else g else kvs++[(k,v)]
def pG(kvs q:List (Key×PV)):List (Key×PV):=q.foldl (fun acc g=>cZ acc g.1 g.2) kvs
section
variable {K:Dl}{H:Hp}{vs:List (Key×V)}{kvs:List (Key×PV)}
def KP.val(r:KP K H vs kvs)k:(∃v t,gW vs k=some v/\wV kvs k=some t/\Rep K H v t)\/(gW vs k=none/\wV kvs k=none):=by
 induction r with
 |nil=>exact .inr ⟨rfl,rfl⟩
 |@cons p q B D h r g =>
  delta gW wV
  rw[BB,BB,h.1]
  by_cases e:q.1=k
  .grind
  .rwa [AM e]
def KP.any(r:KP K H vs kvs)k:(vs.any fun g=>decide (g.1=k))=(kvs.any fun g=>decide (g.1=k)):=by
 induction r with
 |nil=>rfl
 |@cons p q D F h r B=>rw[BN,BN,h.1,B]
def KP.put(r:KP K H vs kvs)k(h:Rep K H v t):KP K H (yV vs k v) (cZ kvs k t):=by
 delta yV cZ
 rw[r.any k]
 have D:KP K H (vs.map fun g=>if g.1=k then (g.1,v) else g) (kvs.map fun g=>if g.1=k then (g.1,t) else g):=by
  induction r with
  |nil=>exact .nil
  |@cons p q F G h' r B =>
   refine .cons ?_ B
   by_cases e:q.1=k
   .lia
   .lia
 split
 .exact D
 .exact Paired.snoc r ⟨rfl,h⟩
def KP.merge(r:KP K H vs kvs)(m:KP K H G F):KP K H (dU vs G) (pG kvs F):=by
 induction m generalizing vs kvs with
 |nil=>exact r
 |@cons p q B D h _ g =>
  show KP K H (dU (yV vs p.1 p.2) B) (pG (cZ kvs q.1 q.2) D);rw[h.1];exact g (r.put q.1 h.2)
end
noncomputable def ph:Option CO->Option (List (Key×PV))
 |some (.dK kvs)=>some kvs
 |some (.fK kvs)=>some kvs
 |_=>none
def Mj{K}(h:dh K H C)(e:ph (C a)=some kvs):∃vs,Rd H a (.dK vs)/\KP K H vs kvs:=by
 cases c:C a with
 |none=>rw[c] at e;cases e
 |some o =>
  rw[c] at e
  cases o with
  |lst xs=>cases e
  |dT l=>cases e
  |fT l=>cases e
  |dP l=>cases e
  |dN l=>cases e
  |ins c dx fs=>cases e
  |dK l=>cases e;obtain⟨vs,q,r⟩:=h a _ c;exact⟨vs,.inl q,r⟩
  |fK l=>cases e;exact rG (h a _ c) fun o vs q r=>⟨vs,.inr ⟨o,q⟩,r⟩
section
variable {X:Cx}{a b c e o i f:Expr}{es:List Expr}{pos:Pos}{value:Expr}
@[irreducible] def tT:j8:=fun x y C Q=>match x with
 |.ref a=>match ph (C a),fV y with
  |some kvs,some k=>match wV kvs k with
   |some v=>Q v C
   |none=>False
  |_,_=>False
 |_=>False
def KZ{K}{a}(h:dh K H C)(g:ph (C a)=some kvs)(I:Rep K H y G)(B:fV G=some k):
  (∃v t,DGet H a y (some v)/\wV kvs k=some t/\Rep K H v t)\/(DGet H a y none/\wV kvs k=none):=by
 obtain⟨vs,q,r⟩:=(Mj h g);have D:=xU I B;subst D
 rcases r.val k with ⟨v,t,h1,h2,F⟩ | ⟨h1,h2⟩
 .exact .inl ⟨v,t,.inl ⟨vs,k,q,rfl,h1.symm⟩,h2,F⟩
 .exact .inr ⟨.inl ⟨vs,k,q,rfl,h1.symm⟩,h2⟩
def Ql(U:X.A.units+1 < cLine)(S:CE X o M)(hi:CE X i L)(hs:JR i):CE X (.Subscript o i pos) (o6 tT M L):=⟨JE.weak ⟨sA U S.h.h hi.h.h hs⟩ fun σ H Q zz=>wX zz fun J C R s h q f=>
 ⟨J,C,_,s,h,q,fun x H1 px C1 Y Z h1 G=>⟨J,C1,_,s.aU (G.aU h),h1,Y,fun y H2 ae C2 B ry h2 I=>by
  delta tT at B
  split at B
  .next a =>
   split at B
   .next kvs k N O =>
    split at B
    .next t F =>
     have ab:=Z.aU (I.aU h1);cases ab
     rcases KZ h2 N ry O with ⟨v,t',g,D,r⟩ | ⟨_,D⟩
     .rw [F] at D
      cases D;exact⟨a,v,rfl,g,f v H2 t C2 B r h2 (G.trans I)⟩
     .rw [F] at D;cases D
    .exact B.elim
   .exact B.elim
  .exact B.elim⟩⟩⟩
def Jg(x:PV)(C:CH):Prop:=match x with
 |.ref a=>match C a with
  |some (.dK _)=>True
  |_=>False
 |_=>False
@[irreducible] def Vn:PV->PV->PV->CH->K1->Prop:=fun x y z C Q=>match x with
 |.ref a=>match ph (C a),fV y with
  |some kvs,some k=>Q ((wV kvs k).getD z) C
  |_,_=>False
 |_=>False
def Uv(D B F:d8):d8:=fun g C Q=>D g C fun x C1=>Jg x C1/\B g C1 fun y C2=>F g C2 fun z q=>Vn x y z q Q
def KH{K}(d:Jg t C)(r:Rep K H x t)(h:dh K H C):∃a kvs,x=.ref a/\t=.ref a/\H a=some (.dK kvs):=by
 delta Jg at d
 split at d
 .split at d
  .next e=>obtain⟨vs,g,_⟩:=(h _ _ e);cases r;exact⟨_,vs,rfl,rfl,g⟩
  .exact d.elim
 .exact d.elim
def X7{apos cpos}(hu:X.A.units+1 < cLine)(ho:CE X o U)(ab:CE X e S)(ae:CE X f Y)(hb:attributeBase o "get" X.env (eval o X.env)=eval o X.env:=by rfl)(hl:(apos.endLine==cpos.line)=true:=by rfl)(h1:kX e=true:=by rfl)(h2:kX f=true:=by rfl):CE X (.Call (.Attribute o "get" apos) [e,f] [] cpos) (Uv U S Y):=⟨JE.weak ⟨Xd hu ho.h.h ab.h.h ae.h.h (FZ hb hl h1 h2)⟩ fun σ H Q zz=>wX zz fun L C R s h q f=>
 ⟨L,C,_,s,h,q,fun x H1 px C1 O rx h1 D=>by
  obtain⟨a,kvs,rfl,rfl,e1⟩:=KH O.1 rx h1;refine⟨a,rfl,.inl ⟨kvs,.inl e1⟩,L,C1,_,s.aU (D.aU h),h1,O.2,fun y H2 ah C2 q2 ry h2 G=>⟨L,C2,_,(s.aU (D.aU h)).aU (G.aU h1),h2,q2,fun z N pz M B rz J I=>?_⟩⟩;unfold Vn at B;dsimp only at B
  split at B
  .next ag k Z d2 =>
   rcases KZ J Z (ry.aU (I.aU h2)) d2 with ⟨v,t',g,F,r⟩ | ⟨g,F⟩
   .rw [F] at B
    exact⟨some v,g,f v N t' M B r J (D.trans (G.trans I))⟩
   .rw [F] at B
    exact⟨none,g,f z N pz M B rz J (D.trans (G.trans I))⟩
  .exact B.elim⟩⟩
@[irreducible] def tE:PV->PV->PV->CH->(CH->Prop)->Prop:=fun x y v C Q=>match x with
 |.ref a=>match C a,fV y with
  |some (.dK kvs),some k=>kvs.length < sizeLine/\Q (pQ C a (.dK (cZ kvs k v)))
  |_,_=>False
 |_=>False
def Hj(F D G:d8):j7:=fun E g C=>G g C fun v C1=>F g C1 fun x C2=>D g C2 fun y q=>tE x y v q fun B=>E.nx g B
def qP{L M}(hu:X.A.units+1 < cLine)(Z:CE X o S)(hi:CE X i L)(hv:CE X value M)(hs:swapsWith value (some (.Subscript o i pos')) pos.line X.env=pure false:=by rfl):
  CS X (.Assign [.Subscript o i pos'] value pos) (Hj S L M):=⟨JS.weak ⟨Kk hu Z.h.h hi.h.h hv.h.h hs⟩ fun ag σ H zz=>wX zz fun G C E s h q f=>
 ⟨G,C,_,s,h,q,fun v H1 ah C1 q1 rv h1 B=>⟨G,C1,_,s.aU (B.aU h),h1,q1,fun x H2 px C2 q2 rx h2 D=>⟨G,C2,_,(s.aU (B.aU h)).aU (D.aU h1),h2,q2,fun y J ai C3 g ry O F=>by
  have ab:=rv.aU ((D.trans F).aU h1)
  delta tE at g
  split at g
  .next a =>
   split at g
   .next kvs k N U =>
    have ae:=rx.aU (F.aU h2);cases ae;refine sQ (O a _ N) fun vs I r=>?_;have Y:=xU ry U;subst Y;have m:iu J (upd J a (.dK (yV vs k v))):=iu.mut I rfl _;refine⟨a,_,rfl,DPut.k I ((Paired.length r)▸g.1),f.nx σ _ G _ g.2 ((((s.aU (B.aU h)).aU (D.aU h1)).aU (F.aU h2)).aU m) (O.put I rfl ⟨_,mQ,Paired.mapP (r.put k ab) fun _ _ z=>⟨z.1,z.2.aU m⟩⟩) (B.trans (D.trans (F.trans (Fw.put N _ _))))⟩
   .exact g.elim
  .exact g.elim⟩⟩⟩⟩
noncomputable def tW:List PV->Option (List (Key×PV))
 |[]=>some []
 |.tup [k,v]::r=>match fV k,tW r with
  |some k,some ps=>some ((k,v)::ps)
  |_,_=>none
 |_=>none
def iH{K}(r:dg K H vs ts)(e:tW ts=some ps):∃g q,vs=List.map V.ref g/\gG H g q/\KP K H q ps:=by
 induction ts generalizing vs ps with
 |nil=>cases r;cases e;exact⟨[],[],rfl,.nil,.nil⟩
 |cons t ts F =>
  cases r with
  |@cons v _ vs _ h r =>
   cases h with
   |@tup a q xs B M =>
    rcases xs with _ | ⟨k,_ | ⟨u,_ | ⟨z,xs⟩⟩⟩
    .cases e
    .cases e
    .unfold tW at e
     split at e
     .next G Y I J =>
      cases e;obtain⟨g,U,rfl,L,p2⟩:=F r J;obtain⟨Z,S,rfl,N,O⟩:=fU M;have D:=xU N I;subst D;exact⟨a::g,(G,S)::U,rfl,.cons B L,.cons ⟨rfl,O⟩ p2⟩
     .cases e
    .cases e
   |_=>cases e
@[irreducible] def bC:GC:=fun ts C Q=>match ts with
 |[.tup xs]=>match tW xs with
  |some ps=>ps.length<=sizeLine/\∀p,C p=none->Q (.ref p) (pQ C p (.dK (pG [] ps)))
  |none=>False
 |_=>False
def Zb{K}:nq K (fun xs H Q=>∃t B ps,xs=[.ref t]/\H t=some (.tup (List.map V.ref B))/\gG H B ps/\ps.length<=sizeLine/\∀d,H d=none->Q (.ref d) (upd H d (.dK (dU [] ps)))) bC:=fun xs ts H C Q R rs h q f=>by
 delta bC at q
 split at q
 .split at q
  .next ps e =>
   obtain⟨v,rfl,r⟩:=oX rs
   cases r with
   |@tup a vs xs D G =>
    obtain⟨B,I,rfl,F,p2⟩:=iH G e;refine⟨a,B,I,rfl,D,F,by rw[Paired.length p2];exact q.1,fun d g=>?_⟩;exact f _ _ _ _ (q.2 d (h.fresh g)) (.ref d) (h.lay g ⟨_,mQ,Paired.mapP (KP.merge .nil p2) fun _ _ z=>⟨z.1,z.2.aU (iu.new g _)⟩⟩) (Fw.lay g _ _)
  .exact q.elim
 .exact q.elim
def cBMD(D:PV->List PV->CH->K1->Prop)(B:d8)(q:o7):d8:=fun g C Q=>B g C fun x C1=>Jg x C1/\q g C1 fun xs C2=>D x xs C2 Q
def yq{K}(l:Jg t C)(r:Rep K H x t)(h:dh K H C):tyV K "dict" x H:=by
 obtain⟨a,kvs,rfl,_,e⟩:=KH l r h;exact .inr (.inr (.inl ⟨rfl,.inl ⟨kvs,e⟩⟩))
def Mv{id}{apos cpos}(pa:PlainAttrs "dict")(ae:Slot "dict" name id)(ab:typeOf (.builtin id)=pure (.type "method_descriptor"))(Z:MtR X id r)(hr:su X.K r L)(ho:CE X o J)(N:CA X (e::es) I)(S:attributeBase o name X.env (eval o X.env)=eval o X.env:=by rfl)(U:((backTo cpos (starEach (e::es) X.env)).all (fun x=>!x.1)&&(backToKw cpos (keywordEach [] X.env)).all (fun x=>x.1.isSome)
   && decide ((e::es).length+([]:List Keyword).length+(if ([]:List Keyword).isEmpty then 0 else 1) < 30))=true:=by rfl)(Y:(apos.endLine==cpos.line)=true:=by rfl)(hs:kX e=true:=by rfl)(O:es.all kX=true:=by rfl):
  CE X (.Call (.Attribute o name apos) (e::es) [] cpos) (cBMD L J I):=⟨JE.weak ⟨pe_bm pa ae ab Z ho.h.h N.h.h S U Y (iZ hs) (bW O)⟩ fun σ H Q zz=>wX zz fun G C R s h q f=>
 ⟨G,C,_,s,h,q,fun x H1 px C1 D F h1 g=>⟨yq D.1 F h1,G,C1,_,s.aU (g.aU h),h1,D.2,fun xs H2 ps C2 q2 rs h2 B=>
  hr x px xs ps H2 C2 Q R (F.aU (B.aU h1)) rs h2 q2 fun v H' t C' q' r' h' M=>f v H' t C' q' r' h' (g.trans (B.trans M))⟩⟩⟩
@[irreducible] def Ve:PV->List PV->CH->K1->Prop:=fun x ts C Q=>match x,ts with
 |.ref a,[.tup xs]=>match C a,tW xs with
  |some (.dK kvs),some ps=>kvs.length+ps.length<=sizeLine/\Q .non (pQ C a (.dK (pG kvs ps)))
  |_,_=>False
 |_,_=>False
def zr{K}:su K Fi Ve:=fun x S xs ts H C Q R O rs h q f=>by
 delta Ve at q
 split at q
 .split at q
  .next kvs ps B I =>
   obtain⟨v,rfl,r⟩:=oX rs
   cases r with
   |@tup t vs xs J N =>
    obtain⟨M,G,rfl,L,p2⟩:=iH N I;obtain⟨F,g,D⟩:=(h _ _ B);cases O;have m:=iu.mut (o:=.dK (dU F G)) g rfl;refine⟨_,t,M,G,F,rfl,rfl,g,J,L,by rw[Paired.length p2,Paired.length D];exact q.1,?_⟩;exact f _ _ _ _ q.2 .non (h.put g rfl ⟨_,mQ,Paired.mapP (KP.merge D p2) fun _ _ z=>⟨z.1,z.2.aU m⟩⟩) (Fw.put B _ _)
  .exact q.elim
 .exact q.elim
@[irreducible] def Qv(g:d8):d8:=fun q C Q=>g q C fun x C1=>match x with
 |.ref a=>match C1 a with
  |some (.dK _)=>Q (.vw a) C1
  |_=>False
 |_=>False
def Ua{apos cpos}(M:CE X o G)(J:attributeBase o "items" X.env (eval o X.env)=eval o X.env:=by rfl)(L:(apos.endLine==cpos.line)=true:=by rfl):CE X (.Call (.Attribute o "items" apos) [] [] cpos) (Qv G) :=
 ⟨JE.weak ⟨ZP F.plainAttrs_dict DK F.type_dict_items YV M.h.h J L⟩ fun σ H Q O=>wX O fun S C R s h q f=> by
 delta Qv at q
 exact⟨S,C,_,s,h,q,fun x H1 U C1 g N h1 I=>by
  split at g
  .split at g
   .next kvs e =>
    refine sQ (h1 _ _ e) fun vs B r=>?_;cases N;exact⟨.inr (.inr (.inl ⟨rfl,.inl ⟨vs,B⟩⟩)),_,vs,rfl,rfl,B,fun v D=>f _ _ _ _ g (.vw mQ) (h1.new D _) (I.trans (Fw.new D _))⟩
   .exact g.elim
  .exact g.elim⟩⟩
end
end CL
namespace CL
open PySem PySem.Spec L2 PySem.W
open PyProof.Rows hiding St
def dQ(c:Str×Int):PV:=.tup [.str c.1,.int c.2]
noncomputable def ZA:List PV->Option (List (Str×Int))
 |[]=>some []
 |.tup [.str x,.int i]::r=>(ZA r).map ((x,i) :: ·)
 |_=>none
noncomputable def HF:List (Key×PV)->Option (List (Str×Int))
 |[]=>some []
 | (.inr x,.int i)::r=>(HF r).map ((x,i) :: ·)
 |_=>none
noncomputable def ZC(cs:List (Str×Int)):Nat->Nat->Bool:=fun i j=>YX (cs.getD i ("",0)) (cs.getD j ("",0))
def eW(cs:List (Str×Int)):List (Str×Int):=(kJ (ZC cs) (kas_sort cs.length)).toList.map fun i=>cs.getD i ("",0)
theorem Q5:∀cs,ZA (cs.map dQ)=some cs
 |[]=>rfl
 |c::cs=>by
  show(ZA (cs.map dQ)).map _=_;rw[Q5 cs];rfl
def uy(e:ZA ts=some cs):ts=cs.map dQ:=by
 induction ts generalizing cs with
 |nil=>cases e;rfl
 |cons t ts g =>
  unfold ZA at e
  split at e
  .lia
  .rename_i x i r h
   cases h
   cases z:ZA ts with
   |none=>rw[z] at e;cases e
   |some ds =>
    rw[z] at e;cases e;rw[g z];rfl
  .cases e
def HD(e:HF ts=some cs):ts=cs.map fun c=>(Sum.inr c.1,PV.int c.2):=by
 induction ts generalizing cs with
 |nil=>cases e;rfl
 |cons t ts g =>
  unfold HF at e
  split at e
  .lia
  .rename_i x i r h
   cases h
   cases z:HF ts with
   |none=>rw[z] at e;cases e
   |some ds =>
    rw[z] at e;cases e;rw[g z];rfl
  .cases e
section
variable {K:Dl}{H:Hp}{X:Cx}
def Ff{cs:List (Str×Int)}(r:dg K H ys (cs.map dQ)):∀i,i < ys.length->UC H (ys.getD i .non) (cs.getD i ("",0)):=by
 induction cs generalizing ys with
 |nil=>cases r;intro i hi;exact absurd hi (Bq i)
 |cons c cs g =>
  cases r with
  |@cons v _ vs _ h r =>
   intro i hi
   cases i with
   |zero =>
    cases h with
    |tup e q =>
     obtain⟨F,G,rfl,B,D⟩:=fU q;cases B;cases D
     exact⟨_,rfl,e⟩
   |succ i=>exact g r i (Bc hi)
def dg.getD(r:dg K H ys ts): ∀i,i < ys.length->Rep K H (ys.getD i .non) (ts.getD i d):=by
 induction ts generalizing ys with
 |nil=>cases r;intro i hi;exact absurd hi (Bq i)
 |cons c cs g =>
  cases r with
  |@cons v _ vs _ h r =>
   intro i hi
   cases i with
   |zero=>exact h
   |succ i=>exact g r i (Bc hi)
def Kn{cs:List (Str×Int)}lt(r:dg K H ys (cs.map dQ)):dg K H (cF lt ys) (((kJ lt (kas_sort cs.length)).toList.map fun i=>cs.getD i ("",0)).map dQ):=by
 have q:ys.length=cs.length:=by rw[r.len,AC]
 delta cF
 rw[q]
 have g:∀i∈(kJ lt (kas_sort cs.length)).toList,i < ys.length:=by
  intro i hi
  by_cases h:0 < cs.length
  .have:=(dW lt cs.length h).mem_iff.mp hi
   exact q▸Bj.mp this
  .have e:cs.length=0:=by lia
   rw[e,W1] at hi;cases hi
 generalize (kJ lt (kas_sort cs.length)).toList=l at g ⊢
 induction l with
 |nil=>exact .nil
 |cons i l B =>
  refine .cons ?_ (B fun j hj=>g j (AJ _ hj));have h1:=r.getD (d:=dQ ("",0)) i (g i AG);have h2:(cs.map dQ).getD i (dQ ("",0))=dQ (cs.getD i ("",0)) :=by grind<;> rfl
  rwa [h2] at h1
@[irreducible] def fF:GC:=fun ts C Q=>match ts with
 |[.ref a]=>match C a with
  |some (.lst xs)=>match ZA xs with
   |some cs=>cs.length < 64/\∀p,C p=none->Q (.ref p) (pQ C p (.lst ((eW cs).map dQ)))
   |none=>False
  |_=>False
 |[.vw a]=>match C a with
  |some (.dK kvs)=>match HF kvs with
   |some cs=>cs.length < 64/\∀p,C p=none->Q (.ref p) (pQ C p (.lst ((eW cs).map dQ)))
   |none=>False
  |_=>False
 |_=>False
abbrev Kd(X:Cx):List V->Hp->VK->Prop:=fun xs H Q=>(∃l ys lt,xs=[.ref l]/\SqL X.K H l ys/\ys.length < 64/\uc X H ys lt/\∀p,H p=none->Q (.ref p) (upd H p (.lst (cF lt ys)))) \/
 (∃v d kvs lt,xs=[.ref v]/\H v=some (.ext (jG v d))/\H d=some (.dK kvs)/\kvs.length < 64 /\
  ∀as H1,Same H H1->gG H1 as kvs->(∀a∈as,H a=none)->(∀a,H a=none->H1 a≠none->a∈as)->uc X H1 (List.map V.ref as) lt/\∀p,H1 p=none->Q (.ref p) (upd H1 p (.lst (cF lt (List.map V.ref as)))))
def jY(g:X.calm=true):CallR X (.builtin "sorted") (Kd X):=CallR.or mN (Qp g)
def eU:nq X.K (Kd X) fF:=fun xs ts H C Q R rs h q f=>by
 delta fF at q
 split at q
 .obtain ⟨v,rfl,r⟩:=oX rs
  split at q
  .next xs e =>
   split at q
   .next cs D =>
    have ex:=uy D;subst ex;obtain⟨vs,F,B⟩:=h _ _ e;cases r;have G:vs.length=cs.length:=by rw[B.len,AC]
    refine .inl ⟨_,vs,ZC cs,rfl,SqL.of F,by rw[G];exact q.1,WX _ (Ff B),fun p g=>?_⟩;exact f _ _ _ _ (q.2 p (h.fresh g)) (.ref p) (h.lay g ⟨_,mQ,(Kn (ZC cs) B).aU (iu.new g _)⟩) (Fw.lay g _ _)
   .exact q.elim
  .exact q.elim
 .obtain ⟨v,rfl,r⟩:=oX rs
  split at q
  .next kvs e =>
   split at q
   .next cs D =>
    have ex:=HD D;subst ex;obtain⟨vs,F,B⟩:=h _ _ e
    cases r with
    |vw O =>
     have G:vs.length=cs.length:=by rw[Paired.length B,AC]
     refine .inr ⟨_,_,vs,ZC cs,rfl,O,F,by rw[G];exact q.1,fun as H1 J I N Y=>?_⟩
     have rr:dg X.K H1 (List.map V.ref as) (cs.map dQ):=by
      clear G N Y q e F D
      induction cs generalizing vs as with
      |nil=>cases B;cases I;exact .nil
      |cons c cs S =>
       cases B with
       |@cons p q U Z h' B =>
        cases I with
        |@cons a _ l _ L I =>
         obtain⟨k,v'⟩:=p;obtain⟨rfl,M⟩:=h';cases M;exact .cons (.tup L (.cons (.str _) (.cons (.int _) .nil))) (S (vs:=U) B l I)
     refine⟨WX _ (Ff rr),fun p g=>?_⟩;have h1:=uH h J;exact f _ _ _ _ (q.2 p (h1.fresh g)) (.ref p) (h1.lay g ⟨_,mQ,(Kn (ZC cs) rr).aU (iu.new g _)⟩) ((eI J).trans (Fw.lay g _ _))
   .exact q.elim
  .exact q.elim
 .exact q.elim
end
section
variable {X:Cx}{pos:Pos}
@[irreducible] def QA(q:d8)(t:j6)(c:d8):d8:=fun g C Q=>q g C fun x C1=>match x with
 |.ref d=>match C1 d with
  |some (.dK kvs)=>tJ t c g (fun v C2=>C2 d=some (.fK kvs)/\Q v (pQ C2 d (.dK kvs))) (kvs.map fun p=>iV p.1) [] (pQ C1 d (.fK kvs))
  |_=>False
 |_=>False
structure M5(K:Dl)(S:Hp->Prop)(J:It)(ps:List PV):Prop where
 go:∀i H',i < ps.length->S H'->J.go i H'
 yl:∀i H' x H'',S H'->J.yld i H' x H''->H''=H'/\∀t,ps[i]?=some t->Rep K H' x t
 st:∀H',S H'->J.stop ps.length H'
def K8{K}{Q:VK}(j:M5 K S J ps)(hS:∀H' C',dh K H' C'->Fw H C H' C'->S H')(s:gk K H σ ρ)(h:dh K H C)(q:tJ t c ρ R ps [] C)(h0:dh K H0 C0)(ah:Fw H0 C0 H C)(f:∀v H' p C',R p C'->Rep K H' v p->dh K H' C'->Fw H0 C0 H' C'->Q v H')(F:H D=none):
  ∃W:Nat->Nat->List V->Hp->Prop,(∃m,W 0 m [] (upd H D (.lst [])))/\∀i m ys H,W i m ys H ->
   (J.stop i H/\Q (.ref D) H)\/(J.go i H/\∀x H',J.yld i H x H'->gJ K yD t (some x::σ) H' fun b H2=>
    if b=true then gJ K (Rep K) c (some x::σ) H2 fun y H3=>H3 D=some (.lst ys)/\ys.length < sizeLine/\∃I,I < m/\W (i+1) I (ys++[y]) (upd H3 D (.lst (ys++[y])))
    else ∃I,I < m/\W (i+1) I ys H2):=by
 refine⟨fun i m ys H'=>m=ps.length - i/\i<=ps.length/\∃acc C',H' D=some (.lst ys)/\C' D=none/\dg K H' ys acc/\dh K H' C'/\Fw H C H' C'/\tJ t c ρ R (ps.drop i) acc C',
  ⟨ps.length,rfl,AW _,[],C,mQ,h.fresh F,.nil,h.new F _,Fw.new F _,q⟩,?_⟩
 rintro i m ys H1 ⟨rfl,hi,acc,C1,e1,n1,Y,h1,B,U⟩;have k1:=B.aU h
 by_cases G:i < ps.length
 .refine .inr ⟨j.go i H1 G (hS H1 C1 h1 B),fun x H2 y=>?_⟩
  obtain⟨rfl,y⟩:=j.yl i H1 x H2 (hS H1 C1 h1 B) y;have rx:=y _ (AN G);rw[Ar G] at U;refine⟨some ps[i]::ρ,C1,_,.cons rx (s.aU k1),h1,U,fun b H3 b' C3 q3 e h3 L=>?_⟩;cases e;obtain⟨N,e3⟩:=L D (by rw[n1];rfl) (by lia);rw[e1] at e3;rw[n1] at N;have M:=L.aU h1
  cases b with
  |true =>
   refine⟨some ps[i]::ρ,C3,_,.cons (rx.aU M) ((s.aU k1).aU M),h3,q3,fun v H4 p C4 q4 r4 h4 ab=>sD (ab D (by rw[N];rfl) (by lia)) fun n4 e4=>?_⟩;rw[e3] at e4;rw[N] at n4;have m4:iu H4 (upd H4 D (.lst (ys++[v]))):=iu.mut e4 rfl _;refine⟨e4,by rw[Y.len];exact q4.1,ps.length - (i+1),by lia,rfl,G,acc++[p],C4,mQ,n4,?_,?_,?_,q4.2⟩
   .exact (((Y.aU M).aU (ab.aU h3)).append (.cons r4 .nil)).aU m4
   .intro a o g
    have ae:a≠D:=fun z=>by subst z;rw[n4] at g;cases g
    exact(h4 a o g).aU m4 (uQ ae)
   .intro a g O
    have ae:a≠D:=fun z=>O (z▸F);exact sD ((B.trans (L.trans ab)) a g O) fun Z x2=>⟨Z,(uQ ae).trans x2⟩
  |false =>
   exact⟨ps.length - (i+1),by lia,rfl,G,acc,C3,e3,N,Y.aU M,h3,B.trans L,q3⟩
 .have e:i=ps.length:=by lia
  subst e;rw[Bz] at U;refine .inl ⟨j.st H1 (hS H1 C1 h1 B),f (.ref D) H1 (.ref D) _ (U D n1) (.ref D) ?_ ?_⟩
  .intro a o g
   by_cases z:a=D
   .subst z;rw[jQ] at g;cases g;exact⟨ys,e1,Y⟩
   .rw [vQ z] at g;exact h1 a o g
  .intro a g O
   obtain⟨Z,x2⟩:=ah a g O;have ag:H a≠none:=by rwa [x2]
   obtain⟨y1,y2⟩:=B a (by rwa [Z]) ag;exact⟨(vQ (show a≠D from fun z=>ag (z▸F))).trans (y1.trans Z),y2.trans x2⟩
def yh{K}{kvs:List (Key×PV)}(e:vs.map (·.1)=kvs.map (·.1)):M5 K (fun H'=>H' d=some (.frz o (.dK vs))) (Itd o d vs) (kvs.map fun p=>iV p.1) where
 go:=fun i H' l s=>⟨by
  have:(vs.map (·.1)).length=(kvs.map (·.1)).length:=by rw[e]
  rw[AC,AC] at this;rw[AC] at l
  lia,s⟩
 yl:=fun i H' x D s y=>⟨y.1,fun t g=>by
  obtain⟨p,B,rfl⟩:=y.2;have h1:(vs.map (·.1))[i]?=some p.1:=by rw[Aj,B];rfl
  rw[e,Aj] at h1;rw[Aj] at g
  cases z:kvs[i]? with
  |none=>rw[z] at g;cases g
  |some q =>
   rw[z] at g h1;cases g;show Rep K H' (kV p.1) (iV q.1);rw[(show q.1=p.1 from Al h1)]
   exact fO p.1⟩
 st:=fun H' s=>⟨by
  have:(vs.map (·.1)).length=(kvs.map (·.1)).length:=by rw[e]
  rw[AC,AC] at this;rw[AC]
  lia,s⟩
def KP.keys{K}(r:KP K H vs kvs):vs.map (·.1)=kvs.map (·.1):=by
 induction r with
 |nil=>rfl
 |cons h _ g=>rw[A9,A9,h.1,g]
def Ug{Z S:Expr}{x:Str}{px:Pos}{ab:List Expr}{M:Scope}{U:d8}{t:j6}{c:d8}(hc:X.calm=true)(hN:(x::X.N).Nodup)(K:∃B,qB X x M B)(hi:CE X S U)(ht:∀B F C G D,CF (aJ X x M B F C G D) ab t)(aj:∀B F C G D,CE (aJ X x M B F C G D) Z c)(hs:∀v,foldedSetIterable S X.env v=pure v:=by intro _;rfl):CE X (.ListComp Z [⟨.Name x px,S,ab,0⟩] M pos) (QA U t c) :=
 ⟨JE.weak (xu (tL (te:=gJ X.K (Rep X.K) c) (tc:=gJ X.K yD t) hc hN K (xr hi.h) (fun B F C G D=>(ht B F C G D).h) (fun B F C G D=>(aj B F C G D).h) hs)) fun σ H Q zz=>wX zz fun ρ C R s h q f=> by
  unfold QA at q
  exact⟨ρ,C,_,s,h,q,fun xv H1 px C1 I rx h1 O=>by
   split at I
   .next d =>
    split at I
    .next kvs e =>
     obtain⟨vs,N,r⟩:=h1 d _ e;cases rx;refine⟨d,vs,rfl,N,fun o ak ao hD=>?_⟩;have m:iu H1 (upd H1 d (.frz o (.dK vs))):=iu.mut N rfl _;have h2:dh X.K (upd H1 d (.frz o (.dK vs))) (pQ C1 d (.fK kvs)):=h1.put N rfl ⟨o,vs,mQ,Paired.mapP r fun _ _ z=>⟨z.1,z.2.aU m⟩⟩;have ai:Fw H1 C1 (upd H1 d (.frz o (.dK vs))) (pQ C1 d (.fK kvs)):=Fw.put e _ _
     have ah:∀H' C',Fw (upd H1 d (.frz o (.dK vs))) (pQ C1 d (.fK kvs)) H' C'->H' d=some (.frz o (.dK vs)):=fun H' C' g=>by
      have:=(g d (by rw[jQ];rfl) (by rw[mQ];exact fun z=>nomatch z)).2;rw[this,mQ]
     refine K8 (Q:=fun v H'=>∃d o kvs,H' d=some (.frz o (.dK kvs))/\NF X d/\Q v (upd H' d (.dK kvs))) (H0:=upd H1 d (.frz o (.dK vs))) (C0:=pQ C1 d (.fK kvs)) (yh r.keys) (fun H' C' _ g=>ah H' C' g) ((s.aU (O.aU h)).aU m) h2 I h2 Fw.refl (fun v H' p C' q' r' h' f'=>?_) hD;obtain⟨e1,q2⟩:=q';have L:=ah H' C' f';refine⟨d,o,vs,L,ak,?_⟩;have m':iu H' (upd H' d (.dK vs)):=iu.mut L rfl _
     obtain⟨o',aq,Y,r3⟩:=h' d _ e1;rw[L] at Y;cases Y;refine f v _ p _ q2 (r'.aU m') (h'.put L rfl ⟨vs,mQ,Paired.mapP r3 fun _ _ z=>⟨z.1,z.2.aU m'⟩⟩) ?_;intro a J ae;obtain⟨x1,x2⟩:=(O.trans (ai.trans f')) a J ae
     have ag:a≠d:=fun z=>by
      subst z;obtain⟨y1,y2⟩:=O a J ae;rw[<- y1,e] at J;cases J
     exact⟨(vQ ag).trans x1,(uQ ag).trans x2⟩
    .exact I.elim
   .exact I.elim⟩⟩
end
section
variable {X:Cx}{a b c e o i f:Expr}{es:List Expr}{pos:Pos}{value:Expr}
abbrev Sy:Hp->Option Int->Option Int->Prop:=fun _ a b=>a=b
abbrev TCO:=jt->CH->(Option Int->CH->Prop)->Prop
structure Sh(X:Cx)(e:Option Expr)(c:TCO):Prop where
 h:JO X e (gJ X.K Sy c)
def JO.weak{e}(h:JO X e t)(w:∀σ H Q,t' σ H Q->t σ H Q):JO X e t':=⟨fun pins s σ H Q I q=>h.h pins s σ H Q I (w σ H Q q)⟩
def Ec:TCO:=fun _ C Q=>Q none C
def Rn(g:d8):TCO:=fun q C Q=>g q C fun t C1=>match t with
 |.int i=>Q (some i) C1
 |_=>False
def Qi:Sh X none Ec:=⟨JO.weak ⟨po_none⟩ fun σ H Q g=>wX g fun B C R s h q f=> f none H none C q rfl h Fw.refl⟩
def Qh(h:CE X e B):Sh X (some e) (Rn B):=⟨JO.weak ⟨po_some h.h.h⟩ fun σ H Q G=>wX G fun I C R s h q f=> ⟨I,C,_,s,h,q,fun x H1 J C1 g F h1 D=>by
 split at g
 .cases F;exact⟨_,rfl,f _ H1 _ C1 g rfl h1 D⟩
 .exact g.elim⟩⟩
def Wl(xs:List PV)(lo hi:Option Int):List PV:=(xs.drop (HT.sIx xs.length 0 lo)).take (HT.sIx xs.length xs.length hi - HT.sIx xs.length 0 lo)
def dg.cut{K}(r:dg K H vs ts)lo hi:dg K H (GS vs lo hi) (Wl ts lo hi):=by
 delta GS Wl
 exact r.len▸(r.drop _).take _
@[irreducible] def cSlL:PV->Option Int->Option Int->CH->K1->Prop:=fun x lo hi C Q=>match x with
 |.ref a=>match C a with
  |some (.lst xs)=>∀p,C p=none->Q (.ref p) (pQ C p (.lst (Wl xs lo hi)))
  |_=>False
 |_=>False
def cSl(F:PV->Option Int->Option Int->CH->K1->Prop)(B:d8)(D ch:TCO):d8:=fun g C Q=>B g C fun x C1=>D g C1 fun l C2=>ch g C2 fun u q=>F x l u q Q
def za{i:Nat}{y x:Str}{Y L pos Z:Pos}{M J:Expr}{N:List Expr}{I:Scope}{wi:TI}{O:jt->CH->(List PV->CH->Prop)->Prop}{t:j6}{c:d8}(ab:X.N.Nodup)(hi:X.N[i]?=some y)(hy:Loc X.env.scope y)(hc:X.calm=true)(hN:(x::X.N).Nodup)(K:∃g,qB X x I g)(U:CI X (.Name x L) J wi O)(ht:∀g F C G B,CF (aJ X x I g F C G B) N t)(ae:∀g F C G B,CE (aJ X x I g F C G B) M c)(hs:∀v,foldedSetIterable J X.env v=pure v:=by intro _;rfl)(ah:swapsWith (.ListComp M [⟨.Name x L,J,N,0⟩] I pos) (some (.Name y Y)) Z.line X.env=pure true:=by rfl)(ag:X.fn y=true\/X.env.scope.names.lookup y=some .local:=by first | exact .inl rfl | exact .inr rfl | assumption):
  CS X (.Assign [.Name y Y] (.ListComp M [⟨.Name x L,J,N,0⟩] I pos) Z) (Ww i (Uw O t c)):=by
 obtain⟨g,K⟩:=K;refine⟨JS.weak (xq (te:=gJ X.K (Rep X.K) c) (tc:=gJ X.K yD t) ab hi hy hc hN K U.j (fun F C G B=>(ht g F C G B).h) (fun F C G B=>(ae g F C G B).h) hs ah ag) fun D σ H zz=>wX zz fun ρ C E s h q f=> ?_⟩;exact iO (Q:=fun x H'=>D.nx (σ.set i (some x)) H') U ⟨ρ,C,_,s,h,q,fun x H1 L C1 q1 rx h1 S=>f.nx _ H1 _ C1 q1 ((s.aU (S.aU h)).set rx i) h1 S⟩
def YR k(σ:St):Eu k (σ.set k none):=fun v e=>by
 rw[List.getElem?_set_self'] at e
 cases g:σ[k]? with
 |none=>rw[g] at e;cases e
 |some x=>rw[g] at e;cases e
def gk.unset{K}(s:gk K H σ q)k:gk K H (σ.set k none) (q.set k none):=by
 induction s generalizing k with
 |nil=>exact .nil
 |cons h' r g =>
  cases k with
  |zero=>exact .cons trivial r
  |succ k=>exact .cons h' (g k)
def Mz(k:Nat)(g:d8):j7:=fun E q C=>g (q.set k none) C E.rt
def GW k(F:CE (X.at_ k) e g):CS X (.Return (some e) pos) (Mz k g):=⟨JS.weak (Ow k ⟨Yg (xx k F.h).h⟩) fun D σ H L=>wX L fun M C E s h q f=>
 ⟨YR k σ,M.set k none,C,_,s.unset k,h,q,fun x H1 G C1 I J h1 B=>f.rt x H1 G C1 I J h1 B⟩⟩
def cH(S:CH->Prop)(t:j6)(c:d8)(g:jt)(Q:K1):List PV->List PV->CH->Prop
 |[],acc,C=>S C/\∀p,C p=none->Q (.ref p) (pQ C p (.lst acc))
 |x::r,acc,C=>S C/\t (some x::g) C fun b C1=>if b=true then c (some x::g) C1 fun y C2=>acc.length < sizeLine/\cH S t c g Q r (acc++[y]) C2 else cH S t c g Q r acc C1
structure ItS(K:Dl)(S:CH->Prop)(J:It)(ps:List PV):Prop where
 go:∀i H' C',i < ps.length->dh K H' C'->S C'->J.go i H'
 yl:∀i H' C' x H'',dh K H' C'->S C'->J.yld i H' x H''->H''=H'/\∀t,ps[i]?=some t->Rep K H' x t
 st:∀H' C',dh K H' C'->S C'->J.stop ps.length H'
def Mq{K}{c}{Q:VK}(j:ItS K S J ps)(s:gk K H σ ρ)(h:dh K H C)(q:cH S t c ρ R ps [] C)(h0:dh K H0 C0)(ah:Fw H0 C0 H C)(f:∀v H' p C',R p C'->Rep K H' v p->dh K H' C'->Fw H0 C0 H' C'->Q v H')(F:H D=none):
  ∃W:Nat->Nat->List V->Hp->Prop,(∃m,W 0 m [] (upd H D (.lst [])))/\∀i m ys H,W i m ys H ->
   (J.stop i H/\Q (.ref D) H)\/(J.go i H/\∀x H',J.yld i H x H'->gJ K yD t (some x::σ) H' fun b H2=>
    if b=true then gJ K (Rep K) c (some x::σ) H2 fun y H3=>H3 D=some (.lst ys)/\ys.length < sizeLine/\∃I,I < m/\W (i+1) I (ys++[y]) (upd H3 D (.lst (ys++[y])))
    else ∃I,I < m/\W (i+1) I ys H2):=by
 refine⟨fun i m ys H'=>m=ps.length - i/\i<=ps.length/\∃acc C',H' D=some (.lst ys)/\C' D=none/\dg K H' ys acc/\dh K H' C'/\Fw H C H' C'/\cH S t c ρ R (ps.drop i) acc C',
  ⟨ps.length,rfl,AW _,[],C,mQ,h.fresh F,.nil,h.new F _,Fw.new F _,q⟩,?_⟩
 rintro i m ys H1 ⟨rfl,hi,acc,C1,e1,n1,Y,h1,L,B⟩;have k1:=L.aU h
 have q0:S C1:=by
  cases z:ps.drop i with
  |nil=>rw[z] at B;exact B.1
  |cons x r=>rw[z] at B;exact B.1
 by_cases G:i < ps.length
 .refine .inr ⟨j.go i H1 C1 G h1 q0,fun x H2 y=>?_⟩
  obtain⟨rfl,y⟩:=j.yl i H1 C1 x H2 h1 q0 y;have rx:=y _ (AN G);rw[Ar G] at B
  replace B:=B.2
  refine⟨some ps[i]::ρ,C1,_,.cons rx (s.aU k1),h1,B,fun b H3 b' C3 q3 e h3 M=>?_⟩;cases e;obtain⟨O,e3⟩:=M D (by rw[n1];rfl) (by lia);rw[e1] at e3;rw[n1] at O;have N:=M.aU h1
  cases b with
  |true =>
   refine⟨some ps[i]::ρ,C3,_,.cons (rx.aU N) ((s.aU k1).aU N),h3,q3,fun v H4 p C4 q4 r4 h4 ab=>sD (ab D (by rw[O];rfl) (by lia)) fun n4 e4=>?_⟩;rw[e3] at e4;rw[O] at n4;have m4:iu H4 (upd H4 D (.lst (ys++[v]))):=iu.mut e4 rfl _;refine⟨e4,by rw[Y.len];exact q4.1,ps.length - (i+1),by lia,rfl,G,acc++[p],C4,mQ,n4,?_,?_,?_,q4.2⟩
   .exact (((Y.aU N).aU (ab.aU h3)).append (.cons r4 .nil)).aU m4
   .intro a o g
    have ae:a≠D:=fun z=>by subst z;rw[n4] at g;cases g
    exact(h4 a o g).aU m4 (uQ ae)
   .intro a g U
    have ae:a≠D:=fun z=>U (z▸F);exact sD ((L.trans (M.trans ab)) a g U) fun Z x2=>⟨Z,(uQ ae).trans x2⟩
  |false =>
   exact⟨ps.length - (i+1),by lia,rfl,G,acc,C3,e3,O,Y.aU N,h3,L.trans M,q3⟩
 .have e:i=ps.length:=by lia
  subst e;rw[Bz] at B
  replace B:=B.2
  refine .inl ⟨j.st H1 C1 h1 q0,f (.ref D) H1 (.ref D) _ (B D n1) (.ref D) ?_ ?_⟩
  .intro a o g
   by_cases z:a=D
   .subst z;rw[jQ] at g;cases g;exact⟨ys,e1,Y⟩
   .rw [vQ z] at g;exact h1 a o g
  .intro a g U
   obtain⟨Z,x2⟩:=ah a g U;have ag:H a≠none:=by rwa [x2]
   obtain⟨y1,y2⟩:=L a (by rwa [Z]) ag;exact⟨(vQ (show a≠D from fun z=>ag (z▸F))).trans (y1.trans Z),y2.trans x2⟩
def Lq{K}{a}: ItS K (fun C=>C a=some (.lst xs)) (Itl K a) xs where
 go:=fun i H' C' l h s=>by
  refine sQ (h a _ s) fun vs e r=>sQ (r.get (AN l)) fun v g _=>?_;exact⟨vs,v,SqL.of e,g⟩
 yl:=fun i H' C' x D h s y=>⟨y.1,fun t q=>by
  refine sQ (h a _ s) fun vs e r=>sQ (r.get q) fun v g B=>?_;have:=y.2 vs (SqL.of e)
  rw[g] at this;cases this;exact B⟩
 st:=fun H' C' h s=>sQ (h a _ s) fun vs e r=>⟨vs,SqL.of e,by exact r.len▸AI _⟩
@[irreducible] def JL(q:d8)(t:j6)(c:d8):d8:=fun g C Q=>q g C fun x C1=>match x with
 |.ref a=>match C1 a with
  |some (.lst xs)=>cH (fun C=>C a=some (.lst xs)) t c g Q xs [] C1
  |_=>False
 |_=>False
def Ue{M J:Expr}{x:Str}{S:Pos}{O:List Expr}{I:Scope}{L:d8}{t:j6}{c:d8}(hc:X.calm=true)(Z:(x::X.N).Nodup)(K:∃g,qB X x I g)(hi:CE X J L)(ht:∀g D C F B,CF (aJ X x I g D C F B) O t)(ab:∀g D C F B,CE (aJ X x I g D C F B) M c)(hs:∀v,foldedSetIterable J X.env v=pure v:=by intro _;rfl):CE X (.ListComp M [⟨.Name x S,J,O,0⟩] I pos) (JL L t c) :=
 ⟨JE.weak (tL (te:=gJ X.K (Rep X.K) c) (tc:=gJ X.K yD t) hc Z K ⟨Km hi.h.h⟩ (fun g D C F B=>(ht g D C F B).h) (fun g D C F B=>(ab g D C F B).h) hs) fun σ H Q zz=>wX zz fun ρ C R s h q f=> by
  unfold JL at q
  exact⟨ρ,C,_,s,h,q,fun xv H1 S C1 G rx h1 N=>by
   split at G
   .next a =>
    split at G
    .next xs e =>
     obtain⟨vs,U,r⟩:=h1 a _ e;cases rx;exact⟨a,rfl,⟨vs,SqL.of U⟩,fun ae Y=>Mq (Q:=Q) Lq (s.aU (N.aU h)) h1 G h N f Y⟩
    .exact G.elim
   .exact G.elim⟩⟩
end
section
variable {C:CH}{a p:Addr}{xs ys:List PV}{i:Int}{v:PV}{Q:K1}
def cV(h:C a=some (.lst xs))(e:atI xs i=some v)(q:Q v C):qt (.ref a) (.int i) C Q:=by
 delta qt
 show(match C a with | some (.lst xs)=>qu xs i C Q | _=>False);rw[h];show qu xs i C Q
 delta qu
 rwa [e]
def Ox(e:atI xs i=some v)(q:Q v C):qt (.fz xs) (.int i) C Q:=by
 delta qt
 show qu xs i C Q
 delta qu
 rwa [e]
def aQ(e:atI xs i=some v)(q:Q v C):qt (.tup xs) (.int i) C Q:=by
 delta qt
 show qu xs i C Q
 delta qu
 rwa [e]
def WZ{Q}(h:C p=some (.lst xs))(e:ixN xs.length k=some j)(q:Q (pQ C p (.lst (xs.set j v)))):Vg (.ref p) (.int k) v C Q:=by
 delta Vg
 dsimp only;rw[h];dsimp only
 rwa [e]
def KC(h:C a=some (.lst xs))(q:Q (.int xs.length) C):sN [.ref a] C Q:=by
 delta sN
 show(match C a with | some (.lst xs)=>Q (.int xs.length) C | some (.dK kvs)=>Q (.int kvs.length) C | _=>False)
 rwa [h]
def Y2(q:Q (.int xs.length) C):sN [.fz xs] C Q:=by
 delta sN
 exact q
def lR(q:Q (.int xs.length) C):sN [.tup xs] C Q:=by
 delta sN
 exact q
def fN(h:C a=some (.lst xs))(z:xs.length < sizeLine)(q:Q .non (pQ C a (.lst (xs++[v])))):fP (.ref a) [v] C Q :=by simp_all[fP]
def jB(h:C a=some (.lst xs)):O1 (.ref a) C:=by
 show(match C a with | some (.lst _)=>True | _=>False);rw[h]
 trivial
end
def qj(q:Q (g i j) C):cI g (.int i) (.int j) C Q:=by
 delta cI
 exact q
def gU(q:Q (.int (i+j)) C):QC (.int i) (.int j) C Q:=by
 delta QC
 exact q
def lS(h:xs.length+ys.length<=sizeLine)(q:Q (.tup (xs++ys)) C):QC (.tup xs) (.tup ys) C Q:=by
 delta QC
 exact⟨h,q⟩
def O4{q:Prop}(h1:b=true->p)(h2:b=false->q):if b=true then p else q :=by grind
def yT{q:Prop}(e:b=true)(h:p):if b=true then p else q:=by rwa [Ab e]
def uT{q:Prop}(e:b=false)(h:q):if b=true then p else q :=by grind
def uZ{p q:CH->Prop}(e:b=true)(h:p C):iS (fun b C1=>if b=true then p C1 else q C1) (.bl b) C:=by cases e;exact h
def gX{p q:CH->Prop}(e:b=false)(h:q C):iS (fun b C1=>if b=true then p C1 else q C1) (.bl b) C:=by cases e;exact h
def rF{p q:CH->Prop}(h1:b=true->p C)(h2:b=false->q C):iS (fun b C1=>if b=true then p C1 else q C1) (.bl b) C:=by
 cases b with
 |true=>exact h1 rfl
 |false=>exact h2 rfl
def lF{p q:CH->Prop}(h:q C):iS (fun b C1=>if (!b)=true then p C1 else q C1) (.bl true) C :=h
def zX(e:sEq x y=some b)(q:Q (.bl (k b)) C):Nh k x y C Q :=by simp_all[Nh]
def fQ x y:sEq (.str x) (.str y)=some (decide (x=y)):=rfl
def oJ x y:sEq (.int x) (.int y)=some (decide (x=y)):=rfl
def fH(h:t (some x::g) C fun b C1=>if b=true then c (some x::g) C1 fun y C2=>acc.length < sizeLine/\tJ t c g Q r (acc++[y]) C2 else tJ t c g Q r acc C1):tJ t c g Q (x::r) acc C:=h
def xS(h:∀p,C p=none->Q (.ref p) (pQ C p (.lst acc))):tJ t c g Q [] acc C:=h
def tX(g:gL n=some T)(B:tyP C x=some k)(q:Q (.bl (aW k T)) C):Ed [x,.ty n] C Q:=by
 delta Ed
 show(match gL n,tyP C x with | some T,some k=>Q (.bl (aW k T)) C | _,_=>False)
 rwa [g,B]
def Vr(h1:C a=some (.lst xs))(h2:C b=some (.lst ys))(z:xs.length+ys.length<=sizeLine)(q:∀p,C p=none->Q (.ref p) (pQ C p (.lst (xs++ys)))):QC (.ref a) (.ref b) C Q:=by
 delta QC
 show(match C a,C b with | some (.lst xs),some (.lst ys)=>xs.length+ys.length<=sizeLine/\∀p,C p=none->Q (.ref p) (pQ C p (.lst (xs++ys))) | _,_=>False);exact h1▸h2▸⟨z,q⟩
def sW(m:C p=some (.lst xs))(q:Q (.tup xs) C):bS [.ref p] C Q:=by
 delta bS
 show(match C p with | some (.lst xs)=>Q (.tup xs) C | _=>False)
 rwa [m]
def Gr(C C':CH):Prop:=∀b o,C b=some o->C' b=some o
def Gr.refl: Gr C C:=fun _ _ h=>h
theorem Gr.trans(h:Gr C C1)(h':Gr C1 C2):Gr C C2:=fun b o e=>h' b o (h b o e)
def Gr.new(g:C p=none)o:Gr C (pQ C p o):=fun b u e=>by
 rw[vQ (fun z=>by subst z;rw[g] at e;cases e)];exact e
def pX(h:E.nx g C):Hh E g C:=h
def yQ(h:q g C fun v C1=>u E (g.set i (some v)) C1):JD (Ww i q) u E g C:=h
def pZ(h:t (E.wn (u E)) g C):JD t u E g C:=h
def Nf(h:Q v C):cC v g C Q:=h
def qJ(P:jt->CH->Prop)(h1:∀K:jt->CH->Prop,(∀g C',P g C'->K g C')->t (E.wn K) q C)(h2:∀g C',P g C'->u E g C'):JD t u E q C:=h1 _ h2
section
variable {X:Cx}{o e value i f:Expr}{es:List Expr}{pos pos':Pos}
noncomputable def Xb(f:Str)(v:PV):List (Str×PV)->List (Str×PV)
 |[]=>[(f,v)]
 | (g,x)::r=>if g=f then (g,v)::r else (g,x)::Xb f v r
def FP.put{K}{f}(h:Rep K H v t):∀{B}{fs},FP K H B fs->FP K H (wB f v B) (Xb f t fs):=by
 intro B fs r
 induction r with
 |nil=>exact .cons ⟨rfl,h⟩ .nil
 |@cons p q F G h' r D =>
  obtain⟨g,x⟩:=p;obtain⟨g',y⟩:=q;obtain⟨rfl,h2⟩:=h';unfold wB Xb
  by_cases e:g=f
  .rw [Ab e,Ab e];exact .cons ⟨rfl,h⟩ r
  .rw [Ac e,Ac e];exact .cons ⟨rfl,h2⟩ D
def FP.look{K}{f}:∀{B}{fs:List (Str×PV)},FP K H B fs->(∃v t,B.lookup f=some v/\fs.lookup f=some t/\Rep K H v t)\/(B.lookup f=none/\fs.lookup f=none):=by
 intro B fs r
 induction r with
 |nil=>exact .inr ⟨rfl,rfl⟩
 |@cons p q F G h' r D =>
  obtain⟨g,x⟩:=p;obtain⟨g',y⟩:=q;obtain⟨rfl,h2⟩:=h';unfold List.lookup
  cases e:(f==g) with
  |true=>exact .inl ⟨x,y,rfl,rfl,h2⟩
  |false=>exact D
@[irreducible] def JK(c:Addr)(f:Str):PV->CH->K1->Prop:=fun x C Q=>match x with
 |.ref p=>match C p with
  |some (.ins g _ fs)=>g=c/\match fs.lookup f with
   |some v=>Q v C
   |none=>False
  |_=>False
 |_=>False
def iD{f}(Y:Cls X.K c)(Z:NoAttr X.K c f)(ho:CE X o J)(U:attributeBase o f X.env (eval o X.env)=eval o X.env:=by rfl):CE X (.Attribute o f pos) (fun D C Q=>J D C fun x C1=>JK c f x C1 Q) :=
 ⟨JE.weak ⟨pe_fld ho.h.h U⟩ fun σ H Q zz=>wX zz fun D C R s h q N=> ⟨D,C,_,s,h,q,fun x H1 px C1 g rx h1 O=>by
  delta JK at g
  split at g
  .next p =>
   split at g
   .next I dx fs L =>
    obtain⟨rfl,g⟩:=g
    split at g
    .next t F =>
     refine sQ (h1 p _ L) fun S M r=>?_;cases rx
     rcases FP.look r with ⟨v,t',G,B,rv⟩ | ⟨G,B⟩
     .rw [F] at B
      cases B;exact⟨p,I,dx,S,v,rfl,M,Y,Z,G,N v H1 t C1 g rv h1 O⟩
     .rw [F] at B;cases B
    .exact g.elim
   .exact g.elim
  .exact g.elim⟩⟩
@[irreducible] def Vj(c:Addr)(f:Str):PV->PV->CH->(CH->Prop)->Prop:=fun x v C Q=>match x with
 |.ref p=>match C p with
  |some (.ins g dx fs)=>g=c/\fs.length < 1000/\Q (pQ C p (.ins g dx (Xb f v fs)))
  |_=>False
 |_=>False
def Js{f}{J}(U:Cls X.K c)(Y:NoAttr X.K c f)(Z:CE X o O)(hv:CE X value J)(hs:swapsWith value (some (.Attribute o f pos')) pos.line X.env=pure false:=by rfl):
  CS X (.Assign [.Attribute o f pos'] value pos) (fun E B C=>J B C fun v C1=>O B C1 fun x C2=>Vj c f x v C2 fun N=>E.nx B N):=⟨JS.weak ⟨ps_fld Z.h.h hv.h.h hs⟩ fun ae σ H zz=>wX zz fun B C E s h q S=>
 ⟨B,C,_,s,h,q,fun v H1 ag C1 q1 rv h1 F=>⟨B,C1,_,s.aU (F.aU h),h1,q1,fun x H2 px C2 g rx h2 G=>by
  have ab:=rv.aU (G.aU h1)
  delta Vj at g
  split at g
  .next p =>
   split at g
   .next I dx fs L =>
    obtain⟨rfl,ql,g⟩:=g;refine sQ (h2 p _ L) fun M D r=>?_;cases rx;have m:iu H2 (upd H2 p (.ins I dx (wB f v M))):=iu.mut D rfl _;exact⟨p,I,dx,M,rfl,D,U,Y,by exact(Paired.length r)▸ql,S.nx σ _ B _ g (((s.aU (F.aU h)).aU (G.aU h1)).aU m) (h2.put D rfl ⟨_,mQ,Paired.mapP (FP.put ab r) fun _ _ z=>⟨z.1,z.2.aU m⟩⟩) (F.trans (G.trans (Fw.put L _ _)))⟩
   .exact g.elim
  .exact g.elim⟩⟩⟩
def vE(c:Addr)(m:Str)(x:PV)(C:CH):Prop:=match x with
 |.ref p=>match C p with
  |some (.ins g _ fs)=>g=c/\fs.lookup m=none
  |_=>False
 |_=>False
def XH{K}(d:vE c m t C)(r:Rep K H x t)(h:dh K H C):∃a dx g,x=.ref a/\t=.ref a/\H a=some (.ins c dx g)/\g.lookup m=none:=by
 delta vE at d
 split at d
 .split at d
  .next e =>
   obtain⟨rfl,d⟩:=d;obtain⟨g,D,F⟩:=(h _ _ e);cases r;refine⟨_,_,g,rfl,rfl,D,?_⟩
   rcases FP.look F with ⟨v,t',q,B,_⟩ | ⟨q,B⟩
   .rw [B] at d;cases d
   .exact q
  .exact d.elim
 .exact d.elim
def Hi(c:Addr)(m:Str)(G:GC)(B:d8)(q:o7):d8:=fun g C Q=>B g C fun x C1=>vE c m x C1/\q g C1 fun xs C2=>G (x::xs) C2 Q
def zy{apos}{pl}(hc:Cls X.K c)(ab:UE X.K c m S)(F:FnOk X.prog X.w X.K X.mg X.base CX k S fd ps (my X.K G))(hr:Room k X.A)(Z:Binds X.K fd ps [])(hx:wW CX X E)(ho:CE X o L)(Y:CA X (e::es) J)(ag:starEach (e::es) X.env=(false,eval e X.env)::starEach es X.env:=by rfl)(ae:(backTo pos (starEach es X.env)).any (·.1)=false:=by rfl)(ht:eval (.Call (.Attribute o m apos) (e::es) [] pos) X.env=(do
   let B <- eval o X.env
   standAt apos.atName
   let (f,first) <- holding [B] (getMethod B m pl)
   callWith pos f first (backTo pos (starEach (e::es) X.env)) (backToKw pos (keywordEach [] X.env))):=by rfl):
  CE X (.Call (.Attribute o m apos) (e::es) [] pos) (Hi c m G L J) :=
 ⟨JE.weak ⟨pe_meth ho.h.h hc ab F hr Z .nil hx Y.h.h ag ae ht⟩ fun σ H Q zz=>wX zz fun I C R s h q f=> ⟨I,C,_,s,h,q,fun x H1 px C1 D rx h1 g=>by
  obtain⟨a,dx,U,rfl,rfl,M,lk⟩:=XH D.1 rx h1
  exact⟨a,dx,U,rfl,M,lk,I,C1,_,s.aU (g.aU h),h1,D.2,fun xs H2 ts C2 q2 rs h2 O=>⟨.ref a::ts,C2,R,.cons (.ref a) (by grind),h2,q2,fun v H' t C' q' r' h' N=>f v H' t C' q' r' h' (g.trans (O.trans N))⟩⟩⟩⟩
def Ru(c:Addr)(G:GC)(g:o7):d8:=fun q C Q=>g q C fun xs C1=>∀x dx,C1 x=none->C1 dx=none->dx≠x->G (.ref x::xs) (pQ C1 x (.ins c dx [])) fun v C2=>v=.non/\Q (.ref x) C2
def Qk{p}(M:Mk X.K c N)(F:FnOk X.prog X.w X.K X.mg X.base CX k N fd ps (my X.K G))(hr:Room (k+1) X.A)(Y:Gl X x)(Z:X.mg x=some (.ref c))(S:Binds X.K fd ps [])(hx:wW CX X E)(O:CA X (e::es) I)(U:(x==("__debug__" : Str))=false:=by decide)(ae:starEach (e::es) X.env=(false,eval e X.env)::starEach es X.env:=by rfl)(ab:(backTo pos (starEach es X.env)).any (·.1)=false:=by rfl):CE X (.Call (.Name x p) (e::es) [] pos) (Ru c G I) :=
 ⟨JE.weak ⟨pe_make M F hr Y Z S .nil hx O.h.h U ae ab⟩ fun σ H Q zz=>wX zz fun ρ C R s h q f=> ⟨ρ,C,_,s,h,q,fun xs H1 ts C1 q1 rs h1 L=>fun y dx hy g nd=>by
  have B:upd H1 dx (.own y) y=none:=by rwa [uQ (Ne.symm nd)]
  have k2:iu (upd H1 dx (.own y)) (upd (upd H1 dx (.own y)) y (.ins c dx [])):=iu.new B _;refine⟨.ref y::ts,pQ C1 y (.ins c dx []),_,.cons (.ref y) (by rw[Aa];exact(rs.aU (iu.new g _)).aU k2),(h1.new g (.own y)).lay B ⟨[],mQ,.nil⟩,q1 y dx (h1.fresh hy) (h1.fresh g) nd,fun v H' t C' D r' h' J=>?_⟩;obtain⟨rfl,D⟩:=D;cases r'
  exact⟨rfl,f _ H' _ C' D (.ref y) h' (L.trans (((Fw.new g _).trans (Fw.lay B _ _)).trans J))⟩⟩⟩
end
end CL
namespace L2
open PySem PySem.Spec PyProof.Rows PySem.W
section
variable {X:Cx}
def gS:CallR X (.type "dict") (fun xs H Q=>∃a kvs,xs=[.ref a]/\H a=some (.dK kvs)/\∀p,H p=none->Q (.ref p) (upd H p (.dK kvs))):=by
 intro pins s σ H xs J Q I r h;obtain⟨a,kvs,rfl,D,q⟩:=h;obtain⟨u,rfl,rfl⟩:=r.one;obtain⟨z,F,vs,g,B⟩:=lE I.hok D;refine kt_call_dict F B (by rwa [<- g.length]) fun h' G hs=>?_;refine⟨.ref s.heap.objs.size,_,I.laid (t':=s.toks) (fun b o e=>hs.extBut b o (AY (AH e)) (AE _ e)) (AI _) ?_,rfl,q _ (I.hok.fresh (AI _))⟩;exact⟨z,Cu (Aq I.big),vs,g,G⟩
end
end L2
namespace CL
open PySem PySem.Spec L2 PySem.W
open PyProof.Rows hiding St
noncomputable def nD:List PV->Option (List Key)
 |[]=>some []
 |t::r=>match fV t,nD r with
  |some k,some g=>some (k::g)
  |_,_=>none
def vB:PV->Option (List Key)
 |.tup ts=>nD ts
 |_=>none
def Z7{K}(r:dg K H vs ts)(e:nD ts=some g):vs=g.map kV:=by
 induction ts generalizing vs g with
 |nil=>cases r;cases e;rfl
 |cons t ts D =>
  cases r with
  |cons h r =>
   unfold nD at e
   split at e
   .next k F q B=>cases e;rw[xU h q,D r B];rfl
   .cases e
def iG{K}(r:Rep K H v t)(e:vB t=some g):∃b,v=.ref b/\H b=some (.tup (g.map kV)):=by
 cases r<;>try (cases e)
 next a vs ts h r=>exact⟨a,rfl,by rw[h,Z7 r e]⟩
section
variable {κ:Type}[DecidableEq κ]
noncomputable def aZ(kvs:List (κ×PV))(k:κ):Option PV:=(kvs.find? fun g=>decide (g.1=k)).map (·.2)
noncomputable def gm(kvs:List (κ×PV))(k:κ)(v:PV):List (κ×PV):=if (kvs.any fun g=>decide (g.1=k))=true then kvs.map fun g=>if g.1=k then (g.1,v) else g else kvs++[(k,v)]
noncomputable def jc(kvs q:List (κ×PV)):List (κ×PV):=q.foldl (fun acc g=>gm acc g.1 g.2) kvs
def FP.val{K}(r:FP K H vs kvs)(k:κ):(∃v t,gW vs k=some v/\aZ kvs k=some t/\Rep K H v t)\/(gW vs k=none/\aZ kvs k=none):=by
 induction r with
 |nil=>exact .inr ⟨rfl,rfl⟩
 |@cons p q B D h r g =>
  delta gW aZ
  rw[BB,BB,h.1]
  by_cases e:q.1=k
  .simp_all
  .rwa [AM e]
def FP.anyG{K}(r:FP K H vs kvs)(k:κ):(vs.any fun g=>decide (g.1=k))=(kvs.any fun g=>decide (g.1=k)):=by
 induction r with
 |nil=>rfl
 |@cons p q D F h r B=>rw[BN,BN,h.1,B]
theorem FP.gm{K}(r:FP K H vs kvs)(k:κ)(h:Rep K H v t):FP K H (yV vs k v) (CL.gm kvs k t):=by
 delta yV CL.gm
 rw[FP.anyG r k]
 have D:FP K H (vs.map fun g=>if g.1=k then (g.1,v) else g) (kvs.map fun g=>if g.1=k then (g.1,t) else g):=by
  induction r with
  |nil=>exact .nil
  |@cons p q F G h' r B =>
   refine .cons ?_ B
   by_cases e:q.1=k
   .lia
   .lia
 split
 .exact D
 .exact Paired.snoc r ⟨rfl,h⟩
end
section
variable {X:Cx}{a b c e o i f value:Expr}{es:List Expr}{pos pos':Pos}
def Rg:d8:=fun _ C Q=>∀p,C p=none->Q (.ref p) (pQ C p (.dT []))
def wC:CE X (.Dict [] [] pos) Rg:=⟨JE.weak ⟨Ys⟩ fun σ H Q B=>wX B fun D C R s h q f=> fun p g=>f (.ref p) _ (.ref p) _ (q p (h.fresh g)) (.ref p) (h.lay g ⟨[],mQ,.nil⟩) (Fw.lay g _ _)⟩
@[irreducible] def Dv:j8:=fun x y C Q=>match x with
 |.ref a=>match C a,vB y with
  |some (.dT kvs),some k=>match aZ kvs k with
   |some v=>Q v C
   |none=>False
  |_,_=>False
 |_=>False
def G7(Y:X.A.units+1 < cLine)(U:CE X o L)(hi:CE X i J)(hs:JR i):CE X (.Subscript o i pos) (o6 Dv L J):=⟨JE.weak ⟨sA Y U.h.h hi.h.h hs⟩ fun σ H Q zz=>wX zz fun I C R s h q f=>
 ⟨I,C,_,s,h,q,fun x H1 px C1 q1 rx h1 F=>⟨I,C1,_,s.aU (F.aU h),h1,q1,fun y H2 ae C2 g ry h2 G=>by
  delta Dv at g
  split at g
  .next a =>
   split at g
   .next kvs k M N =>
    split at g
    .next t D =>
     have ab:=rx.aU (G.aU h1);cases ab;refine sQ (h2 a _ M) fun vs S r=>?_;obtain⟨b,rfl,O⟩:=iG ry N
     rcases FP.val r k with ⟨v,t',Z,B,rv⟩ | ⟨_,B⟩
     .rw [D] at B
      cases B;exact⟨a,v,rfl,by exact Z▸DGet.t S O,f v H2 t C2 g rv h2 (F.trans G)⟩
     .rw [D] at B;cases B
    .exact g.elim
   .exact g.elim
  .exact g.elim⟩⟩⟩
def Gd(x:PV)(C:CH):Prop:=match x with
 |.ref a=>match C a with
  |some (.dT _)=>True
  |_=>False
 |_=>False
def yj{K}(d:Gd t C)(r:Rep K H x t)(h:dh K H C):∃a kvs,x=.ref a/\t=.ref a/\H a=some (.dT kvs):=by
 delta Gd at d
 split at d
 .split at d
  .next e=>obtain⟨vs,g,_⟩:=(h _ _ e);cases r;exact⟨_,vs,rfl,rfl,g⟩
  .exact d.elim
 .exact d.elim
@[irreducible] def Vf:PV->PV->PV->CH->K1->Prop:=fun x y z C Q=>match x with
 |.ref a=>match C a,vB y with
  |some (.dT kvs),some k=>Q ((aZ kvs k).getD z) C
  |_,_=>False
 |_=>False
def Mx(D B F:d8):d8:=fun g C Q=>D g C fun x C1=>Gd x C1/\B g C1 fun y C2=>F g C2 fun z q=>Vf x y z q Q
def vP{apos cpos}(hu:X.A.units+1 < cLine)(ho:CE X o Z)(ab:CE X e Y)(ae:CE X f cz)(hb:attributeBase o "get" X.env (eval o X.env)=eval o X.env:=by rfl)(hl:(apos.endLine==cpos.line)=true:=by rfl)(h1:kX e=true:=by rfl)(h2:kX f=true:=by rfl):CE X (.Call (.Attribute o "get" apos) [e,f] [] cpos) (Mx Z Y cz):=⟨JE.weak ⟨Xd hu ho.h.h ab.h.h ae.h.h (FZ hb hl h1 h2)⟩ fun σ H Q zz=>wX zz fun L C R s h q f=>
 ⟨L,C,_,s,h,q,fun x H1 px C1 U rx h1 B=>by
  obtain⟨a,kvs,rfl,rfl,e1⟩:=yj U.1 rx h1;refine⟨a,rfl,.inr ⟨kvs,.inl e1⟩,L,C1,_,s.aU (B.aU h),h1,U.2,fun y H2 ah C2 q2 ry h2 D=>⟨L,C2,_,(s.aU (B.aU h)).aU (D.aU h1),h2,q2,fun z N pz M g rz G F=>?_⟩⟩;unfold Vf at g;dsimp only at g
  split at g
  .next ag k d1 d2 =>
   refine sQ (G a _ d1) fun vs S r=>?_;obtain⟨b,rfl,O⟩:=iG (ry.aU (F.aU h2)) d2
   rcases FP.val r k with ⟨v,t',I,J,rv⟩ | ⟨I,J⟩
   .rw [J] at g
    exact⟨some v,by exact I▸DGet.t S O,f v N t' M g rv G (B.trans (D.trans F))⟩
   .rw [J] at g
    exact⟨none,by exact I▸DGet.t S O,f z N pz M g rz G (B.trans (D.trans F))⟩
  .exact g.elim⟩⟩
@[irreducible] def Vh:PV->PV->PV->CH->(CH->Prop)->Prop:=fun x y v C Q=>match x with
 |.ref a=>match C a,vB y with
  |some (.dT kvs),some k=>kvs.length < sizeLine/\Q (pQ C a (.dT (gm kvs k v)))
  |_,_=>False
 |_=>False
def Rf(F D G:d8):j7:=fun E g C=>G g C fun v C1=>F g C1 fun x C2=>D g C2 fun y q=>Vh x y v q fun B=>E.nx g B
def vC{L M}(hu:X.A.units+1 < cLine)(Z:CE X o S)(hi:CE X i L)(hv:CE X value M)(hs:swapsWith value (some (.Subscript o i pos')) pos.line X.env=pure false:=by rfl):
  CS X (.Assign [.Subscript o i pos'] value pos) (Rf S L M):=⟨JS.weak ⟨Kk hu Z.h.h hi.h.h hv.h.h hs⟩ fun ag σ H zz=>wX zz fun G C E s h q f=>
 ⟨G,C,_,s,h,q,fun v H1 ah C1 q1 rv h1 B=>⟨G,C1,_,s.aU (B.aU h),h1,q1,fun x H2 px C2 q2 rx h2 D=>⟨G,C2,_,(s.aU (B.aU h)).aU (D.aU h1),h2,q2,fun y J ai C3 g ry O F=>by
  have ab:=rv.aU ((D.trans F).aU h1)
  delta Vh at g
  split at g
  .next a =>
   split at g
   .next kvs k N U =>
    have ae:=rx.aU (F.aU h2);cases ae;refine sQ (O a _ N) fun vs I r=>?_;obtain⟨b,rfl,Y⟩:=iG ry U;have m:iu J (upd J a (.dT (yV vs k v))):=iu.mut I rfl _;refine⟨a,_,rfl,DPut.t I Y ((Paired.length r)▸g.1),f.nx σ _ G _ g.2 ((((s.aU (B.aU h)).aU (D.aU h1)).aU (F.aU h2)).aU m) (O.put I rfl ⟨_,mQ,Paired.mapP (FP.gm r k ab) fun _ _ z=>⟨z.1,z.2.aU m⟩⟩) (B.trans (D.trans (F.trans (Fw.put N _ _))))⟩
   .exact g.elim
  .exact g.elim⟩⟩⟩⟩
@[irreducible] def Ur:GC:=fun ts C Q=>match ts with
 |[.int i,.int j]=>Q (.int (if j > i then j else i)) C
 |_=>False
@[irreducible] def Uo:GC:=fun ts C Q=>match ts with
 |[.int i,.int j]=>Q (.int (if j < i then j else i)) C
 |_=>False
def Vc{K}:nq K (fun xs H Q=>∃i j,xs=[.int i,.int j]/\Q (.int (if j > i then j else i)) H) Ur:=fun xs ts H C Q R rs h q f=>by
 delta Ur at q
 split at q
 .obtain ⟨D,F,rfl,g,B⟩:=fU rs
  cases g;cases B
  exact⟨_,_,rfl,f _ H _ C q (.int _) h Fw.refl⟩
 .exact q.elim
def yC{K}:nq K (fun xs H Q=>∃i j,xs=[.int i,.int j]/\Q (.int (if j < i then j else i)) H) Uo:=fun xs ts H C Q R rs h q f=>by
 delta Uo at q
 split at q
 .obtain ⟨D,F,rfl,g,B⟩:=fU rs
  cases g;cases B
  exact⟨_,_,rfl,f _ H _ C q (.int _) h Fw.refl⟩
 .exact q.elim
@[irreducible] def Qx:GC:=fun ts C Q=>match ts with
 |[.ref a]=>match C a with
  |some (.dK kvs)=>∀p,C p=none->Q (.ref p) (pQ C p (.dK kvs))
  |_=>False
 |_=>False
def nE{K}:nq K (fun xs H Q=>∃a kvs,xs=[.ref a]/\H a=some (.dK kvs)/\∀p,H p=none->Q (.ref p) (upd H p (.dK kvs))) Qx:=fun xs ts H C Q R rs h q f=>by
 delta Qx at q
 split at q
 .split at q
  .next kvs e =>
   obtain⟨v,rfl,r⟩:=oX rs;obtain⟨vs,B,D⟩:=(h _ _ e);cases r;exact⟨_,vs,rfl,B,fun p g=>f _ _ _ _ (q p (h.fresh g)) (.ref p) (h.lay g ⟨vs,mQ,Paired.mapP D fun _ _ z=>⟨z.1,z.2.aU (iu.new g _)⟩⟩) (Fw.lay g _ _)⟩
  .exact q.elim
 .exact q.elim
@[irreducible] def cCount:PV->List PV->CH->K1->Prop:=fun x ts C Q=>match x,ts with
 |.ref a,[y]=>match C a,fV y with
  |some (.lst xs),some k=>match nD xs with
   |some g=>Q (.int (cntK k g:Nat)) C
   |none=>False
  |_,_=>False
 |_,_=>False
@[irreducible] def R8:PV->List PV->CH->K1->Prop:=fun x ts C Q=>match x,ts with
 |.ref a,[.bl true]=>match C a with
  |some (.lst xs)=>∃(bs:List Bool)(j:Nat),xs=bs.map PV.bl/\bs[j]?=some true/\(∀m,m < j->bs[m]?=some false)/\Q (.int (j:Nat)) C
  |_=>False
 |_,_=>False
@[irreducible] def cEqT(k:Bool->Bool):j8:=fun x y C Q=>match vB x,vB y with
 |some q,some g=>Q (.bl (k (decide (q=g)))) C
 |_,_=>False
noncomputable def KS:PV->Option V
 |.non=>some .non
 |.bl b=>some (.bl b)
 |.int i=>some (.int i)
 |.str x=>some (.str x)
 |_=>none
def fE{K}(r:Rep K H v t)(e:KS t=some w):v=w/\xD w=true:=by
 cases r<;>cases e<;>exact⟨rfl,rfl⟩
noncomputable def eR:List PV->Option (List V)
 |[]=>some []
 |t::r=>match KS t,eR r with
  |some v,some vs=>some (v::vs)
  |_,_=>none
def Jm{K}(r:dg K H vs ts)(e:eR ts=some g):vs=g/\g.all xD=true:=by
 induction ts generalizing vs g with
 |nil=>cases r;cases e;exact⟨rfl,rfl⟩
 |cons t ts G =>
  cases r with
  |cons h r =>
   unfold eR at e
   split at e
   .next v I q B =>
    cases e;obtain⟨rfl,D⟩:=fE h q;obtain⟨rfl,F⟩:=G r B;exact⟨rfl,by rw[Cs,D,F];rfl⟩
   .cases e
noncomputable def HH(C:CH):PV->Option (List PV)
 |.tup xs=>some xs
 |.kt xs=>some xs
 |.ref a=>match C a with
  |some (.lst xs)=>some xs
  |_=>none
 |_=>none
@[irreducible] def Eh(g:Bool):j8:=fun x y C Q=>match HH C y,KS x with
 |some ts,some v=>match eR ts with
  |some vs=>Q (.bl (if g then !inV v vs else inV v vs)) C
  |none=>False
 |_,_=>False
def K6{K}: j5 K (rIn K N) (Eh N):=fun x y Y Z H C Q R S U h q f=>by
 delta Eh at q
 split at q
 .next ts v g F =>
  split at q
  .next vs G =>
   obtain⟨rfl,J⟩:=fE S F
   have M:∃p B,y=.ref p/\(SqL K H p B\/SqT K H p B)/\dg K H B ts:=by
    cases U<;>try (cases g)
    .next a =>
     delta HH at g
     dsimp only at g
     split at g
     .next xs e =>
      cases g;exact sQ (h _ _ e) fun D I O=>⟨a,D,rfl,.inl (SqL.of I),O⟩
     .cases g
    .next p D L r=>exact⟨p,D,rfl,.inr (SqT.of L),r⟩
    .grind
   obtain⟨p,B,rfl,hs,rs⟩:=M;obtain⟨rfl,fs⟩:=Jm rs G;exact⟨p,B,rfl,hs,J,fs,f _ H _ C q (.bl _) h Fw.refl⟩
  .exact q.elim
 .exact q.elim
@[irreducible] def cRepL:j8:=fun x y C Q=>match x,y with
 |.ref a,.int k=>match C a with
  |some (.lst xs)=>-(2 ^ 63)<=k/\k < 2 ^ 63/\xs.length * k.toNat<=sizeLine/\∀p,C p=none->Q (.ref p) (pQ C p (.lst (List.replicate k.toNat xs).flatten))
  |_=>False
 |.tup [z],.int k=>0<=k/\k < 64/\Q (.tup (List.replicate k.toNat z)) C
 |_,_=>False
end
noncomputable def oC:List Key->Option (List Str)
 |[]=>some []
 |.inr x::r=>(oC r).map (x :: ·)
 |_=>none
def Vx(e:oC g=some zs):g=zs.map Sum.inr:=by
 induction g generalizing zs with
 |nil=>cases e;rfl
 |cons k g q =>
  rcases k with k | x
  .cases e
  .unfold oC at e
   cases z:oC g with
   |none=>rw[z] at e;cases e
   |some B=>rw[z] at e;cases e;rw[q z];rfl
noncomputable def Hw:List (List Key×PV)->Option (List (List Str×Int))
 |[]=>some []
 | (k,.int i)::r=>match oC k,Hw r with
  |some zs,some cs=>some ((zs,i)::cs)
  |_,_=>none
 |_=>none
def Hv(e:Hw kvs=some cs):kvs=cs.map fun c=>(c.1.map Sum.inr,PV.int c.2):=by
 induction kvs generalizing cs with
 |nil=>cases e;rfl
 |cons p kvs B =>
  unfold Hw at e
  split at e
  .lia
  .rename_i k i r h
   cases h
   split at e
   .next zs ds g q=>cases e;rw[B q,Vx g];rfl
   .cases e
  .cases e
def yJ(c:List Str×Int):PV:=.tup [.tup (c.1.map PV.str),.int c.2]
noncomputable def lN(cs:List (List Str×Int)):Nat->Nat->Bool:=fun i j=>Ha (cs.getD i ([],0)) (cs.getD j ([],0))
def xH(cs:List (List Str×Int)):List (List Str×Int):=(kJ (lN cs) (kas_sort cs.length)).toList.map fun i=>cs.getD i ([],0)
section
variable {K:Dl}{H:Hp}{X:Cx}
theorem QW:∀zs:List Str,dg K H (zs.map V.str) (zs.map PV.str)
 |[]=>.nil
 |z::zs=>.cons (.str z) (QW zs)
def Xf d lt(r:dg K H ys ts):dg K H (cF lt ys) ((kJ lt (kas_sort ts.length)).toList.map fun i=>ts.getD i d):=by
 have q:=r.len
 delta cF
 rw[q]
 have g:∀i∈(kJ lt (kas_sort ts.length)).toList,i < ys.length:=by
  intro i hi
  by_cases h:0 < ts.length
  .exact q▸Bj.mp ((dW lt ts.length h).mem_iff.mp hi)
  .have e:ts.length=0:=by lia
   rw[e,W1] at hi;cases hi
 generalize (kJ lt (kas_sort ts.length)).toList=l at g ⊢
 induction l with
 |nil=>exact .nil
 |cons i l B=>exact .cons (r.getD i (g i AG)) (B fun j hj=>g j (AJ _ hj))
def WS(cs:List (List Str×Int))(l:List Nat):(l.map fun i=>(cs.map yJ).getD i (yJ ([],0)))=(l.map fun i=>cs.getD i ([],0)).map yJ :=by simp_all
@[irreducible] def uC(g:d8):d8:=fun q C Q=>g q C fun x C1=>match x with
 |.ref a=>match C1 a with
  |some (.dT _)=>Q (.vw a) C1
  |_=>False
 |_=>False
def Wo{apos cpos}(M:CE X o G)(J:attributeBase o "items" X.env (eval o X.env)=eval o X.env:=by rfl)(L:(apos.endLine==cpos.line)=true:=by rfl):CE X (.Call (.Attribute o "items" apos) [] [] cpos) (uC G) :=
 ⟨JE.weak ⟨ZP F.plainAttrs_dict DK F.type_dict_items VZ M.h.h J L⟩ fun σ H Q O=>wX O fun S C R s h q f=> by
 delta uC at q
 exact⟨S,C,_,s,h,q,fun x H1 U C1 g N h1 I=>by
  split at g
  .split at g
   .next kvs e =>
    refine sQ (h1 _ _ e) fun vs B r=>?_;cases N;exact⟨.inr (.inr (.inl ⟨rfl,.inr ⟨vs,B⟩⟩)),_,vs,rfl,rfl,B,fun v D=>f _ _ _ _ g (.vw mQ) (h1.new D _) (I.trans (Fw.new D _))⟩
   .exact g.elim
  .exact g.elim⟩⟩
@[irreducible] def gP:GC:=fun ts C Q=>match ts with
 |[.vw a]=>match C a with
  |some (.dT kvs)=>match Hw kvs with
   |some cs=>cs.length < 64/\∀p,C p=none->Q (.ref p) (pQ C p (.lst ((xH cs).map yJ)))
   |none=>False
  |_=>False
 |_=>False
abbrev W7(X:Cx):List V->Hp->VK->Prop:=fun xs H Q=>∃v d kvs lt,xs=[.ref v]/\H v=some (.ext (jG v d))/\H d=some (.dT kvs)/\kvs.length < 64 /\
  ∀as H1,Same H H1->MT H1 as kvs->(∀a∈as,H a=none)->(∀a,H a=none->H1 a≠none->a∈as)->uc X H1 (List.map V.ref as) lt/\∀p,H1 p=none->Q (.ref p) (upd H1 p (.lst (cF lt (List.map V.ref as))))
def Nx{cs:List (List Str×Int)}(r:MT H as kvs)(e:FP K H kvs (cs.map fun c=>(c.1.map Sum.inr,PV.int c.2))):
  dg K H (as.map V.ref) (cs.map yJ)/\∀i,i < as.length->sH H ((as.map V.ref).getD i .non) (cs.getD i ([],0)):=by
 induction r generalizing cs with
 |nil =>
  cases cs with
  |nil=>exact⟨.nil,fun i hi=>absurd hi (Bq i)⟩
  |cons c cs=>cases e
 |@cons a b k v as kvs h1 h2 r F =>
  cases cs with
  |nil=>cases e
  |cons c cs =>
   cases e with
   |cons h e =>
    obtain⟨g,q⟩:=h;obtain⟨B,D⟩:=F e;subst g;cases q;rw[Jb] at h2;refine⟨.cons (.tup h1 (.cons (.tup h2 (QW c.1)) (.cons (.int _) .nil))) B,fun i hi=>?_⟩
    cases i with
    |zero=>exact⟨a,b,rfl,h1,h2⟩
    |succ i=>exact D i (Bc hi)
def X9(L:X.A.units+2 < cLine):nq X.K (W7 X) gP:=fun xs ts H C Q R rs h q f=>by
 delta gP at q
 split at q
 .obtain ⟨v,rfl,r⟩:=oX rs
  split at q
  .next kvs e =>
   split at q
   .next cs G =>
    have ex:=Hv G;subst ex;obtain⟨vs,I,F⟩:=(h _ _ e)
    cases r with
    |vw M =>
     have J:vs.length=cs.length:=by rw[Paired.length F,AC]
     refine⟨_,_,vs,lN cs,rfl,M,I,by rw[J];exact q.1,fun as H1 B N S U=>?_⟩;obtain⟨rr,O⟩:=Nx N (Paired.mapP F fun _ _ z=>⟨z.1,z.2.aU fun b v _ e=>B b v e⟩);refine⟨uO L _ (fun i hi=>O i (by grind)),fun p g=>?_⟩;have h1:=uH h B;have D:=Xf (yJ ([],0)) (lN cs) rr;rw[AC,WS] at D;exact f _ _ _ _ (q.2 p (h1.fresh g)) (.ref p) (h1.lay g ⟨_,mQ,D.aU (iu.new g _)⟩) ((eI B).trans (Fw.lay g _ _))
   .exact q.elim
  .exact q.elim
 .exact q.elim
end
def JH:List (d8×d8)->jt->CH->(List (PV×PV)->CH->Prop)->Prop
 |[],_,C,Q=>Q [] C
 | (B,D)::r,g,C,Q=>B g C fun x C1=>D g C1 fun y C2=>JH r g C2 fun ps q=>Q ((x,y)::ps) q
abbrev RPs(K:Dl)(H:Hp):List (V×V)->List (PV×PV)->Prop:=Paired fun p q=>Rep K H p.1 q.1/\Rep K H p.2 q.2
def Hb(K:Dl)(cs:List (d8×d8)):List (TE×TE):=cs.map fun p=>(gJ K (Rep K) p.1,gJ K (Rep K) p.2)
structure Ss(X:Cx)(pos:Pos)(keys:List (Option Expr))(values:List Expr)(cs:List (d8×d8)):Prop where
 h:PPs X pos keys values (Hb X.K cs)
def zb: Ss X pos [] [] []:=⟨pps_nil⟩
def GX{g}(B:CE X k q)(F:CE X v g)(D:Ss X pos G vs cs):Ss X pos (some k::G) (v::vs) ((q,g)::cs):=⟨Yi B.h.h F.h.h D.h⟩
def Z4{K}: ∀{cs}{H}{C}{R}{Q},gk K H σ F->dh K H C->JH cs F C R ->
  (∀vs H' ts C',R ts C'->RPs K H' vs ts->dh K H' C'->Fw H C H' C'->Q vs H')->pA (Hb K cs) σ H Q:=by
 intro cs
 induction cs with
 |nil=>intro H C R Q s h q f;exact f [] H [] C q .nil h Fw.refl
 |cons p cs L =>
  obtain⟨Z,ab⟩:=p;intro H C R Q s h q f;exact⟨F,C,_,s,h,q,fun x H1 px C1 M U h1 g=>⟨F,C1,_,s.aU (g.aU h),h1,M,fun y H2 ae C2 N Y h2 B=>L ((s.aU (g.aU h)).aU (B.aU h1)) h2 N fun vs I ts G O S J D=>f _ I _ G O (.cons ⟨(U.aU (B.aU h1)).aU (D.aU h2),Y.aU (D.aU h2)⟩ S) J (g.trans (B.trans D))⟩⟩
noncomputable def prK:List (PV×PV)->Option (List (Key×PV))
 |[]=>some []
 | (x,y)::r=>match fV x,prK r with
  |some k,some ps=>some ((k,y)::ps)
  |_,_=>none
noncomputable def prT:List (PV×PV)->Option (List (List Key×PV))
 |[]=>some []
 | (x,y)::r=>match vB x,prT r with
  |some k,some ps=>some ((k,y)::ps)
  |_,_=>none
def FP.jc{K}(m:FP K H G F):∀{vs}{kvs},FP K H vs kvs->FP K H (pU vs G) (CL.jc kvs F):=by
 induction m with
 |nil=>intro vs kvs r;exact r
 |@cons p q B D h _ g =>
  intro vs kvs r;show FP K H (pU (yV vs p.1 p.2) B) (CL.jc (CL.gm kvs q.1 q.2) D);rw[h.1];exact g (FP.gm r q.1 h.2)
section
variable {X:Cx}{pos:Pos}{keys:List (Option Expr)}{values:List Expr}{cs:List (d8×d8)}
@[irreducible] def R5(p:Addr):List (PV×PV)->CH->K1->Prop:=fun ts C Q=>C p=some (.dK [])/\match prK ts with
 |some ps=>ps.length<=15/\Q (.ref p) (pQ C p (.dK (pG [] ps)))
 |none=>False
@[irreducible] def Rm(p:Addr):List (PV×PV)->CH->K1->Prop:=fun ts C Q=>C p=some (.dT [])/\match prT ts with
 |some ps=>ps.length<=15/\Q (.ref p) (pQ C p (.dT (jc [] ps)))
 |none=>False
end
def zM(g:Room k A):A.units+2 < cLine:=by have:=g.un;lia
section
variable {C:CH}{p:Addr}{Q:K1}{x y v z:PV}
def tR(m:C p=some (.ins c dx fs))(e:fs.lookup f=some v)(q:Q v C):JK c f (.ref p) C Q :=by simp_all[JK]
def ZJ{Q}(m:C p=some (.ins c dx fs))(h:fs.length < 1000)(q:Q (pQ C p (.ins c dx (Xb f v fs)))):Vj c f (.ref p) v C Q :=by simp_all[Vj]
def dX(m:C p=some (.ins c dx fs))(e:fs.lookup f=none):vE c f (.ref p) C:=by
 delta vE
 dsimp only;exact m▸⟨rfl,e⟩
def nI(m:C p=some (.dT kvs)):Gd (.ref p) C:=by
 delta Gd
 dsimp only;rw[m]
 trivial
def EY(m:C p=some (.dT kvs))(g:vB y=some k)(B:aZ kvs k=some v)(q:Q v C):Dv (.ref p) y C Q:=by
 delta Dv
 dsimp only;rw[m,g];dsimp only
 rwa [B]
def bA(m:C p=some (.dT kvs))(g:vB y=some k)(B:(aZ kvs k).getD z=v)(q:Q v C):Vf (.ref p) y z C Q:=by
 delta Vf
 dsimp only;rw[m,g];dsimp only
 rwa [B]
def gA{Q}(m:C p=some (.dT kvs))(g:vB y=some k)(h:kvs.length<=1000)(q:Q (pQ C p (.dT (gm kvs k v)))):Vh (.ref p) y v C Q:=by
 delta Vh
 dsimp only;exact m▸g▸⟨Ah h (by decide),q⟩
def GO(m:C p=some (.dK kvs))(g:fV y=some k)(B:wV kvs k=some v)(q:Q v C):tT (.ref p) y C Q:=by
 delta tT
 dsimp only;rw[m,g];show(match wV kvs k with | some v=>Q v C | none=>False)
 rwa [B]
def Gk(m:C p=some (.dK kvs))(g:fV y=some k)(B:(wV kvs k).getD z=v)(q:Q v C):Vn (.ref p) y z C Q:=by
 delta Vn
 dsimp only;rw[m,g];show Q ((wV kvs k).getD z) C
 rwa [B]
def rA{Q}(m:C p=some (.dK kvs))(g:fV y=some k)(h:kvs.length<=1000)(q:Q (pQ C p (.dK (cZ kvs k v)))):tE (.ref p) y v C Q:=by
 delta tE
 dsimp only;exact m▸g▸⟨Ah h (by decide),q⟩
def Jf(m:C p=some (.dK kvs)):Jg (.ref p) C:=by
 delta Jg
 dsimp only;rw[m]
 trivial
def KY(m:C p=some (.dK kvs))(q:∀g,C g=none->Q (.ref g) (pQ C g (.dK kvs))):Qx [.ref p] C Q:=by
 delta Qx
 dsimp only
 rwa [m]
def yE{g:Bool}(h1:HH C y=some ts)(h2:KS x=some w)(B:eR ts=some vs)(q:Q (.bl (if g then !inV w vs else inV w vs)) C):Eh g x y C Q :=by simp_all[Eh]
def Jl(h:B q C fun t C1=>match t with | .tup xs=>yG g u E xs q C1 | .kt xs=>yG g u E xs q C1 | _=>False):eE B g u E q C:=by
 delta eE
 exact h
end
def bL(m:C p=some (.lst (cs.map dQ)))(h:cs.length < 64)(q:∀g,C g=none->Q (.ref g) (pQ C g (.lst ((eW cs).map dQ)))):fF [.ref p] C Q:=by
 delta fF
 dsimp only;rw[m];dsimp only;rw[Q5];exact⟨h,q⟩
def jM(B:q[i]?=some (some (.tup xs)))(h:yG g u E xs q C):eE (jK i) g u E q C:=by
 delta eE jK
 rwa [B]
def oQ(h:x=.tup xs)(e:atI xs i=some v)(q:Q v C):qt x (.int i) C Q:=by
 subst h;exact aQ e q
def Ky(q:Q (.int (if j < i then j else i)) C):Uo [.int i,.int j] C Q:=by
 delta Uo
 exact q
def FW(q:Q (.int (if j > i then j else i)) C):Ur [.int i,.int j] C Q:=by
 delta Ur
 exact q
def dS{xs:List PV}(h:k < xs.length):atI xs k=some xs[k] :=by grind[atI,ixN,lia,Int.toNat_natCast]
def cQ{r:List PV}:atI (x::r) 0=some x:=dS (Nat.zero_lt_succ _)
def yr(h:t g C fun b C1=>if b=true then q g C1 Q else B g C1 Q):cIf t q B g C Q:=h
def xK(B:g[i]?=some (some x))(q:Q (k (sI x)) C):oE (o6 (R6 k) (jK i) (cC .non)) g C Q:=by
 show jK i g C fun x C1=>iS Q (.bl (k (sI x))) C1
 delta jK
 rwa [B]
def wJ(I:List PV->jt->CH->Prop)(G:∀x r q C,I (x::r) q C->∀L:jt->CH->Prop,(∀B C',I r B C'->L B C')->g x q C fun J C1=>u (E.lp L) J C1)(D:∀q C,I [] q C->E.nx q C):
  ∀xs q C,I xs q C->yG g u E xs q C:=by
 intro xs
 induction xs with
 |nil=>intro q C h;exact D q C h
 |cons x r F=>intro q C h;exact G x r q C h _ F
def uF(I:List PV->List PV->CH->Prop)(B:∀x r acc C,I (x::r) acc C->∀L:K1,(∀y C2,acc.length < sizeLine/\I r (acc++[y]) C2->L y C2)->c (some x::D) C L)(g:∀acc C,I [] acc C->∀p,C p=none->Q (.ref p) (pQ C p (.lst acc))):
  ∀xs acc C,I xs acc C->tJ Zc c D Q xs acc C:=by
 intro xs
 induction xs with
 |nil=>intro acc C h;exact g acc C h
 |cons x r q =>
  intro acc C h;exact B x r acc C h _ fun y C2 z=>⟨z.1,q _ _ z.2⟩
def Wn(I:List PV->List PV->CH->Prop)(g:∀r acc C,I r acc C->S C)(D:∀x r acc C,I (x::r) acc C->∀L:K1,(∀y C2,acc.length < sizeLine/\I r (acc++[y]) C2->L y C2)->c (some x::F) C L)(q:∀acc C,I [] acc C->∀p,C p=none->Q (.ref p) (pQ C p (.lst acc))):
  ∀xs acc C,I xs acc C->cH S Zc c F Q xs acc C:=by
 intro xs
 induction xs with
 |nil=>intro acc C h;exact⟨g _ _ _ h,q acc C h⟩
 |cons x r B =>
  intro acc C h;exact⟨g _ _ _ h,D x r acc C h _ fun y C2 z=>⟨z.1,B _ _ z.2⟩⟩
def lG(g:Gr C C1)(q:C p=none)o:Gr C (pQ C1 p o):=fun b u e=>by
 rw[vQ (fun z=>by subst z;rw[q] at e;cases e)];exact g b u e
def lK(g:Gr C C')(h:C' p=none):C p=none:=by
 cases e:C p with
 |none=>rfl
 |some o=>rw[g p o e] at h;cases h
def yW(h:n<=1000):n<=sizeLine:=Ad h (by decide)
def fB kvs k v:(cZ kvs k v).length<=kvs.length+1 :=by grind[cZ,List.length_map,List.length_append,List.length_singleton]
def uL kvs k v B:wV (cZ kvs k v) B=if B=k then some v else wV kvs B:=by
 have J:∀l:List (Key×PV),(l.any fun g=>decide (g.1=k))=true->wV (l.map fun g=>if g.1=k then (g.1,v) else g) B=if B=k then some v else wV l B:=by
  intro l
  induction l with
  |nil=>intro h;cases h
  |cons x l G =>
   intro h
   delta wV
   rw[A9,BB,BB]
   by_cases e:x.1=k
   .rw [Ab e]
    by_cases q:B=k
    .rw [Ab q,Af (e.trans q.symm)];rfl
    .rw [Ac q]
     rw[AM (fun z=>q (z.symm.trans e))]
     by_cases F:(l.any fun g=>decide (g.1=k))=true
     .have:=G F
      rwa [Ac q] at this
     .have:(l.map fun g=>if g.1=k then (g.1,v) else g)=l :=(CY fun y I=>Ac ((fun y I z=>F (List.any_eq_true.2 ⟨y,I,Af z⟩)) y I)).trans (List.map_id l)
      rw[this]
   .rw [Ac e]
    have F:(l.any fun g=>decide (g.1=k))=true:=by
     rwa [BN,AM e,Bool.false_or] at h
    have:=G F
    by_cases D:x.1=B
    .rw [Af D]
     have q:¬ B=k:=fun z=>e (D.trans z);rw[Ac q]
    .rwa [AM D]
 delta cZ
 by_cases b:(kvs.any fun g=>decide (g.1=k))=true
 .rw [Ab b];exact J kvs b
 .rw [Ac b]
  induction kvs with
  |nil =>
   delta wV
   rw[Cw,BB]
   by_cases q:B=k
   .rw [Ab q,Af q.symm];rfl
   .rw [Ac q,AM (fun z=>q z.symm)]
  |cons x l G =>
   rw[BN] at b;have e:¬ x.1=k:=fun e=>b (by rw[Af e];rfl);rw[AM e,Bool.false_or] at b;have:=G b;unfold wV at this ⊢;rw[B0,BB,BB]
   by_cases D:x.1=B
   .rw [Af D]
    rw[Ac (fun z=>e (D.trans z))]
   .rwa [AM D]
def fu(S:List Addr)(C C':CH):Prop:=∀b o,b∉S->C b=some o->C' b=some o
def fu.refl: fu S C C:=fun _ _ _ h=>h
theorem fu.trans(h:fu S C C1)(h':fu S C1 C2):fu S C C2:=fun b o n e=>h' b o n (h b o n e)
def fu.mono(h:fu S C C1)(s:∀b∈S,b∈g):fu g C C1:=fun b o n e=>h b o (fun z=>n (s b z)) e
theorem fu.at(h:fu S C C1)(g:p∈S)o:fu S C (pQ C1 p o):=fun b u n e=>by
 rw[vQ (fun z=>n (by rwa [z]))];exact h b u n e
def fu.put(h:fu S C C1)(g:C p=none)o:fu S C (pQ C1 p o):=fun b u n e=>by
 rw[vQ (fun z=>by subst z;rw[g] at e;cases e)];exact h b u n e
def fu.none(g:fu S C C')(n:p∉S)(h:C' p=none):C p=none:=by
 cases e:C p with
 |none=>rfl
 |some o=>rw[g p o n e] at h;cases h
end CL
namespace L2
open PySem PySem.Spec PyProof.Rows
def Zv(K:Dl)(n:Nat)(B:TI)(tc:TT)(te:TE):TE:=fun σ H Q=>B σ H fun J H1=>∀D,H1 D=none->∃W:Nat->Nat->List V->Hp->Prop,(∃m,W 0 m [] (upd H1 D (.lst [])))/\∀i m ys H,W i m ys H ->
 (J.stop i H/\Q (.ref D) H)\/(J.go i H/\∀x H',J.yld i H x H'->∃a vs,x=.ref a/\SqT K H' a vs/\vs.length=n/\tc (vs.map some++σ) H' fun b H2=>
  if b=true then te (vs.map some++σ) H2 fun y q=>q D=some (.lst ys)/\ys.length < sizeLine/\∃g,g < m/\W (i+1) g (ys++[y]) (upd q D (.lst (ys++[y])))
  else ∃g,g < m/\W (i+1) g ys H2)
section
variable {X:Cx}
def Yv{U O tg:Expr}{xs:List Str}{pos:Pos}{Y:List Expr}{I:Scope}{L:List (Str×Addr)}{Z:TI}{tc:TT}{te:TE}{g:TG}(hc:X.calm=true)(K:vV X xs I L)(hg:∀F C G B,PG (kh X xs I L F C G B) tg g)(hG:∀M vs a σ H Q,M.length=xs.length->SqT X.K H a vs->vs.length=xs.length->Q (vs.map some++σ) H->g (.ref a) (M++σ) H Q)(hi:PI X tg O Z)(ht:∀F C G B,WB (kh X xs I L F C G B) Y tc)(ak:∀F C G B,PE (kh X xs I L F C G B) U te)(hs:∀v,foldedSetIterable O X.env v=pure v:=by intro _;rfl):PE X (.ListComp U [⟨tg,O,Y,0⟩] I pos) (Zv X.K xs.length Z tc te):=by
 intro pins s σ H Q ab h;rw[eval_ListComp];refine Ca (use:=none) rfl hs K.clos K.kind K.names (thn (hi pins s σ H _ ab h) fun xv ay aq=>thn aq fun ax G ar=>?_);obtain⟨it,F,tn,J,B,e,N,T,av,ae,R⟩:=ar;subst e;refine wG (Tk:=fun x H vs=>∃a,x=.ref a/\SqT X.K H a vs) hc K hg ht ak (fun M vs x H Q l ⟨a,e,S⟩ l' q=>by rw[e];exact hG M vs a σ H Q l S l' q) N T av ae (fun D hD=>let ⟨W,w0,aw⟩:=R D hD;⟨W,w0,fun i m ys H w=>(aw i m ys H w).imp id fun zz=>sD zz fun g st=> ⟨g,fun x H' y=>let ⟨a,vs,e,S,l,q⟩:=st x H' y;⟨vs,⟨a,e,S⟩,l,q⟩⟩⟩) ?_
 intro D C H au m hn ah ag ai aj I4 q;refine⟨m,hn,fun h' ao=>⟨.ref D,H,?_,rfl,q⟩⟩;refine I4.turned (it:=C) (t':=au.toks) (fun b o hb e=>(ao.2 b hb).trans e) ag ah (.inr (Ad N.sz aj)) ai fun p hp z=>?_;exact absurd (AZ (AH (N.pin p hp).1) (by simp_all)) (A8 _)
end
end L2
namespace CL
open PySem PySem.Spec L2 PySem.W
open PyProof.Rows hiding St
def pF(n:Nat)(t:j6)(c:d8)(g:jt)(Q:K1):List PV->List PV->CH->Prop
 |[],acc,C=>∀p,C p=none->Q (.ref p) (pQ C p (.lst acc))
 |x::r,acc,C=>∃ts,x=.tup ts/\ts.length=n/\t (ts.map some++g) C fun b C1=>if b=true then c (ts.map some++g) C1 fun y C2=>acc.length < sizeLine/\pF n t c g Q r (acc++[y]) C2 else pF n t c g Q r acc C1
theorem dA{K}: ∀{vs}{ts},dg K H vs ts->gk K H (vs.map some) (ts.map some)
 |_,_,.nil=>.nil
 |_,_,.cons h r=>.cons h (dA r)
def gk.app{K}(h:gk K H σ B)(h':gk K H τ q):gk K H (σ++τ) (B++q):=by
 induction h with
 |nil=>exact h'
 |cons a _ g=>exact .cons a g
def G0{K}{Q:VK}(j:Zj K H J ps)(s:gk K H σ ρ)(h:dh K H C)(q:pF n t c ρ R ps [] C)(h0:dh K H0 C0)(aj:Fw H0 C0 H C)(f:∀v H' p C',R p C'->Rep K H' v p->dh K H' C'->Fw H0 C0 H' C'->Q v H')(F:H D=none):
  ∃W:Nat->Nat->List V->Hp->Prop,(∃m,W 0 m [] (upd H D (.lst [])))/\∀i m ys H,W i m ys H ->
   (J.stop i H/\Q (.ref D) H)\/(J.go i H/\∀x H',J.yld i H x H'->∃a vs,x=.ref a/\SqT K H' a vs/\vs.length=n/\gJ K yD t (vs.map some++σ) H' fun b H2=>
    if b=true then gJ K (Rep K) c (vs.map some++σ) H2 fun y H3=>H3 D=some (.lst ys)/\ys.length < sizeLine/\∃L,L < m/\W (i+1) L (ys++[y]) (upd H3 D (.lst (ys++[y])))
    else ∃L,L < m/\W (i+1) L ys H2):=by
 refine⟨fun i m ys H'=>m=ps.length - i/\i<=ps.length/\∃acc C',H' D=some (.lst ys)/\C' D=none/\dg K H' ys acc/\dh K H' C'/\Fw H C H' C'/\pF n t c ρ R (ps.drop i) acc C',
  ⟨ps.length,rfl,AW _,[],C,mQ,h.fresh F,.nil,h.new F _,Fw.new F _,q⟩,?_⟩
 rintro i m ys H1 ⟨rfl,hi,acc,C1,e1,n1,Y,h1,M,B⟩;have I:=M.aU h
 by_cases G:i < ps.length
 .refine .inr ⟨j.go i H1 G I,fun x H2 y=>?_⟩
  obtain⟨rfl,y⟩:=j.yl i H1 x H2 I y;have rx:=y _ (AN G);rw[Ar G] at B;refine jJ B fun ts ai hn B=>?_;rw[ai] at rx
  obtain⟨a5,ao,z5,ak,ag⟩:∃a vs,x=.ref a/\SqT K H2 a vs/\dg K H2 vs ts:=by
   cases rx with
   |tup e r=>exact⟨_,_,rfl,SqT.of e,r⟩
  refine⟨a5,ao,z5,ak,ag.len.trans hn,⟨ts.map some++ρ,C1,_,(dA ag).app (s.aU I),h1,B,fun b H3 b' C3 q3 e h3 N=>?_⟩⟩;cases e;obtain⟨S,e3⟩:=N D (by rw[n1];rfl) (by lia);rw[e1] at e3;rw[n1] at S;have O:=N.aU h1
  cases b with
  |true =>
   refine⟨ts.map some++ρ,C3,_,(dA (ag.aU O)).app ((s.aU I).aU O),h3,q3,fun v H4 p C4 q4 r4 h4 ab=>sD (ab D (by rw[S];rfl) (by lia)) fun n4 e4=>?_⟩;rw[e3] at e4;rw[S] at n4;have m4:iu H4 (upd H4 D (.lst (ys++[v]))):=iu.mut e4 rfl _;refine⟨e4,by rw[Y.len];exact q4.1,ps.length - (i+1),by lia,rfl,G,acc++[p],C4,mQ,n4,?_,?_,?_,q4.2⟩
   .exact (((Y.aU O).aU (ab.aU h3)).append (.cons r4 .nil)).aU m4
   .intro a o g
    have ae:a≠D:=fun z=>by subst z;rw[n4] at g;cases g
    exact(h4 a o g).aU m4 (uQ ae)
   .intro a g U
    have ae:a≠D:=fun z=>U (z▸F);exact sD ((M.trans (N.trans ab)) a g U) fun Z x2=>⟨Z,(uQ ae).trans x2⟩
  |false =>
   exact⟨ps.length - (i+1),by lia,rfl,G,acc,C3,e3,S,Y.aU O,h3,M.trans N,q3⟩
 .have e:i=ps.length:=by lia
  subst e;rw[Bz] at B;refine .inl ⟨j.st H1 I,f (.ref D) H1 (.ref D) _ (B D n1) (.ref D) ?_ ?_⟩
  .intro a o g
   by_cases z:a=D
   .subst z;rw[jQ] at g;cases g;exact⟨ys,e1,Y⟩
   .rw [vQ z] at g;exact h1 a o g
  .intro a g U
   obtain⟨Z,x2⟩:=aj a g U;have ah:H a≠none:=by rwa [x2]
   obtain⟨y1,y2⟩:=M a (by rwa [Z]) ah;exact⟨(vQ (show a≠D from fun z=>ah (z▸F))).trans (y1.trans Z),y2.trans x2⟩
section
variable {X:Cx}{pos:Pos}
def Qz(n:Nat)(q:jt->CH->(List PV->CH->Prop)->Prop)(t:j6)(c:d8):d8:=fun g C Q=>q g C fun ps C1=>pF n t c g Q ps [] C1
def fR(hi:CI X tg it I B){Q:VK}(h:gJ X.K (Rep X.K) (Qz n B t c) σ H Q):Zv X.K n I (gJ X.K yD t) (gJ X.K (Rep X.K) c) σ H Q :=wX h fun L C R s h q f=>hi.w σ H L C _ _ s h q fun J H' ps C' G j h' g D F=>G0 j (s.aU (g.aU h)) h' G h g f F
def GOk(K:Dl)(n:Nat)(g:TG):Prop:=∀(q:St)(vs:List V)(a:Addr)(σ:St)(H:Hp)(Q:St->Hp->Prop),q.length=n->SqT K H a vs->vs.length=n->Q (vs.map some++σ) H->g (.ref a) (q++σ) H Q
def Ud
  (N:X.calm=true)(K:∃q,vV X xs G q)(S:∀q D C F B,vV X xs G q->PG (kh X xs G q D C F B) tg g)(M:GOk X.K xs.length g)(hi:CI X tg I Z J)(U:∀q D C F B,CF (kh X xs G q D C F B) Y t)(O:∀q D C F B,CE (kh X xs G q D C F B) L c)(hs:∀v,foldedSetIterable I X.env v=pure v:=by intro _;rfl):CE X (.ListComp L [⟨tg,I,Y,0⟩] G pos) (Qz xs.length J t c):=by
 obtain⟨q,K⟩:=K;exact⟨JE.weak ⟨Yv N K (fun D C F B=>S q D C F B K) M hi.j.h (fun D C F B=>(U q D C F B).h.h) (fun D C F B=>(O q D C F B).h.h) hs⟩ fun _ _ _ h=>fR hi h⟩
abbrev g2(K:Dl):TG:=gTup K 2 (mE (xB 0) (mE (xB 1) gNil))
abbrev g3(K:Dl):TG:=gTup K 3 (mE (xB 0) (mE (xB 1) (mE (xB 2) gNil)))
def cG{α:Type}{l:List α}(h:l.length=1):∃a,l=[a]:=by
 cases l with
 |nil=>cases h
 |cons a l =>
  cases l with
  |nil=>exact⟨a,rfl⟩
  |cons b l=>cases h
def len2{α:Type}{l:List α}(h:l.length=2):∃a b,l=[a,b]:=by
 cases l with
 |nil=>cases h
 |cons a l =>
  obtain⟨b,rfl⟩:=cG (A1 h);exact⟨a,b,rfl⟩
def Y3{α:Type}{l:List α}(h:l.length=3):∃a b c,l=[a,b,c]:=by
 cases l with
 |nil=>cases h
 |cons a l =>
  obtain⟨b,c,rfl⟩:=len2 (A1 h);exact⟨a,b,c,rfl⟩
def Te{K}:GOk K 2 (g2 K):=by
 intro I vs a σ H Q h1 h2 D q;obtain⟨F,G,rfl⟩:=len2 h1;obtain⟨B,g,rfl⟩:=len2 D;exact⟨a,[B,g],rfl,h2,rfl,B,[g],rfl,g,[],rfl,rfl,q⟩
def Td{K:Dl}:GOk K 3 (g3 K):=by
 intro L vs a σ H Q h1 h2 F q;obtain⟨G,I,J,rfl⟩:=Y3 h1;obtain⟨D,B,g,rfl⟩:=Y3 F;exact⟨a,[D,B,g],rfl,h2,rfl,D,[B,g],rfl,B,[g],rfl,g,[],rfl,rfl,q⟩
def pg2(F:X.calm=true)(g:(x::y::X.N).Nodup)(K:vV X [x,y] G D):
  PG (kh X [x,y] G D J C M I) (.Tuple [.Name x L,.Name y p2] k p) (g2 X.K) :=
 have q:=BH (K.hx x (by simp));have B:=BH (K.hx y (by simp))
 ZO F (qU (iY g rfl (.inl q) (.inr q)) (qU (iY g rfl (.inl B) (.inr B)) nA))
def pg3{x y z:Str}{B:Scope}{g:List (Str×Addr)}{F:List Addr}{C:Addr}{L:Shared}{D:Hp}{N p2 O p:Pos}{k:Nat}(M:X.calm=true)(q:(x::y::z::X.N).Nodup)(K:vV X [x,y,z] B g):
  PG (kh X [x,y,z] B g F C L D) (.Tuple [.Name x N,.Name y p2,.Name z O] k p) (g3 X.K) :=
 have G:=BH (env:=X.env) (K.hx x (by simp));have I:=BH (env:=X.env) (K.hx y (by simp));have J:=BH (env:=X.env) (K.hx z (by simp))
 ZO (X:=kh X [x,y,z] B g F C L D) M (qU (iY (i:=0) q rfl (.inl G) (.inr G)) (qU (iY (i:=1) q rfl (.inl I) (.inr I)) (qU (iY (i:=2) q rfl (.inl J) (.inr J)) nA)))
def X8
  (G:X.calm=true)(N:(x::y::X.N).Nodup)(K:∃g,vV X [x,y] D g)(hi:CI X (.Tuple [.Name x Y,.Name y p2] k p) I Z L)(S:∀g B C F q,CF (kh X [x,y] D g B C F q) U t)(O:∀g B C F q,CE (kh X [x,y] D g B C F q) M c)(hs:∀v,foldedSetIterable I X.env v=pure v:=by intro _;rfl):CE X (.ListComp M [⟨.Tuple [.Name x Y,.Name y p2] k p,I,U,0⟩] D pos) (Qz 2 L t c) :=
 Ud G K (fun _ _ _ _ _ J=>pg2 G N J) Te hi S O hs
end
end CL
namespace L2
open PySem PySem.W PySem.Spec PyProof.Rows
abbrev iK:=List (List Key)
abbrev KPt(H:Hp):List (iK×V)->List (iK×Addr×Value)->Prop:=Paired fun p q=>p.1=q.1/\lw H p.1 q.2.1/\RelV p.2 q.2.2
def KPt.val(r:KPt H kvs xs)k:RelO (gW kvs k) ((atKey xs k).map (·.2)):=by
 induction r with
 |nil=>exact True.intro
 |@cons p q ps qs h t g =>
  obtain⟨h1,_,h2⟩:=h
  by_cases e:p.1=k
  .have b:atKey (q::qs) k=some q.2:=by simp[atKey,List.find?_cons,h1.symm.trans e]
   rwa [gB e,b]
  .have b:atKey (q::qs) k=atKey qs k:=by
    simp[atKey,List.find?_cons,(show ¬ q.1=k from fun z=>e (h1.trans z))]
   rwa [bB e,b]
def KPt.keeps(r:KPt H kvs xs)(g:∀b ys,H b=some (.tup ys)->H' b=some (.tup ys)):KPt H' kvs xs :=
 Paired.mapP r fun _ _ z=>⟨z.1,z.2.1.mono g,z.2.2⟩
section
variable {P:Program}{w:World}{H:Hp}{h:Heap}{a:Addr}
theorem XE(B:HOk P w H h):∀{q}{bs}{g},Paired (fun D c=>H c=some (.tup (D.map kV))) q bs->Vals (bs.map V.ref) g->d9 (eQ P w) h q g
 |_,_,_,.nil,r=>by cases r;exact .nil
 |_,_,_,.cons e t,r=>by
  cases r with
  |cons F G =>
   cases F;exact .cons (qM B e) (XE B t G)
def oM{g:iK}(q:HOk P w H h)(e:lw H g a):(fY (eQ P w)).is h g a:=by
 obtain⟨bs,B,G⟩:=e;obtain⟨_,F,r,o,h1,h2,⟨n,D⟩,_⟩:=(q a _ B);exact⟨o,F.toArray,n,h1,h2,D,by exact List.toList_toArray▸XE q G r⟩
def XY{kvs:List (iK×V)}(D:HOk P w H h)(e:H a=some (.dP kvs)):kvs.length<=sizeLine/\(a==sysModules)=false /\
  ∃xs,KPt H kvs xs/\h.DictOfH (fY (eQ P w)) a xs:=by
 obtain⟨z,y,xs,r,o,es,ep,h1,h2,G,I,J⟩:=(D a _ e);refine⟨z,y,xs,r,o,es,ep,h1,h2,G,I,fun x g=>?_,J⟩
 have F:∀{l:List (iK×V)}{m:List (iK×Addr×Value)},KPt H l m->∀x∈m,(fY (eQ P w)).is h x.1 x.2.1:=by
  intro l m q
  induction q with
  |nil=>intro x g;exact nomatch g
  |@cons p q ps qs B t L =>
   intro x g
   rcases Ai.mp g with e | g
   .subst e
    exact oM D (B.1▸B.2.1)
   .exact L x g
 exact F r x g
end
def JQ(H:Hp)(a:Addr)(y:V)(r:Option V):Prop:=∃kvs k b,H a=some (.dP kvs)/\y=.ref b/\lw H k b/\r=gW kvs k
section
variable {X:Cx}{pins:List (Addr×Obj)}{σ:St}{H:Hp}{s:Shared}{a:Addr}{y v:V}{u r:Value}{o:Option V}{A:Around}{E:Value->Shared->Prop}
def VM(J:A.units+2 < cLine)(I:Inv X pins σ H s)(g:JQ H a y (some v))(O:RelV y u)(h:∀q s',Inv X pins σ H s'->RelV v q->Q q s'):
  wpAny (model X.prog X.w) A (getItem (.ref a) u) Q E s:=by
 obtain⟨kvs,k,b,e,rfl,D,l⟩:=g;cases O;obtain⟨z,S,xs,M,B⟩:=XY I.hok e;refine sQ (RelO.some_of (l▸M.val k)) fun q L N=>sQ (Option.map_eq_some_iff.mp L) fun p F G=>?_;exact wpAny_getItem_heap (lV J) (oM I.hok D) B F (G▸h q _ (I.tok _) N)
def SJ(G:A.units+2 < cLine)(I:Inv X pins σ H s)(g:JQ H a y o)(L:RelV y u)(h:∀s',Inv X pins σ H s'->Q (.bool o.isSome) s'):
  wpAny (model X.prog X.w) A (compareOp .In u (.ref a)) Q E s:=by
 obtain⟨kvs,k,b,e,rfl,D,l⟩:=g;cases L;obtain⟨z,F,xs,J,B⟩:=XY I.hok e
 apply wpAny_in_heap (lV G) (oM I.hok D) F B
 have q:=(J.val k).isSome_eq;rw[Option.isSome_map] at q;exact q▸l▸h _ (I.tok _)
def Ii(L:A.units+2 < cLine)(I:Inv X pins σ H s)(g:JQ H a y o)(N:RelV y u)(h:∀F s',Inv X pins σ H s'->RelV (o.getD .non) F->Q F s'):
  wpAny (model X.prog X.w) A (call (.builtin "dict.get") [.ref a,u]) Q E s:=by
 obtain⟨kvs,k,b,e,rfl,G,l⟩:=g;cases N;obtain⟨z,J,xs,M,D⟩:=XY I.hok e;refine Cz BL D.typeIs Cj (PySem.F.args_dict_get_2 _ _) (meetsH_dict_get (fY (eQ X.prog X.w)) a b J) ⟨lV L,k,xs,oM I.hok G,D,h _ _ (I.tok _) ?_⟩;rw[l];have q:=M.val k
 cases z:gW kvs k with
 |none =>
  cases B:atKey xs k with
  |none=>rfl
  |some p=>rw[z,B] at q;exact q.elim
 |some O =>
  cases B:atKey xs k with
  |none=>rw[z,B] at q;exact q.elim
  |some p=>rwa [z,B] at q
def KW{kvs:List (iK×V)}(I:Inv X pins σ H s)(e:H a=some (.dP kvs)):s.TypeIs (.ref a) "dict":=by
 obtain⟨_,_,xs,_,g⟩:=XY I.hok e;exact g.typeIs
end
section
variable {X:Cx}{o i e value:Expr}{pos pos':Pos}{td ty tv:TE}
def NB(td ty:TE):TE:=fun σ H Q=>td σ H fun x H1=>ty σ H1 fun y H2=>∃a v,x=.ref a/\JQ H2 a y (some v)/\Q v H2
def vq(G:X.A.units+2 < cLine)(F:PE X o td)(hi:PE X i ty)(hs:JR i):PE X (.Subscript o i pos) (NB td ty):=by
 intro pins s σ H Q I h;refine Ka PySem.F.slot_dict_getitem.lookup hs (thn (F pins s σ H _ I h) fun u S Y=>vZ Y fun x H1 B N J=> thn (hi pins S σ H1 _ B J) fun Z ab U=>?_);obtain⟨y,H2,q,O,a,v,rfl,g,L⟩:=U;obtain rfl:u=Value.ref a:=N;exact⟨let ⟨_,_,_,e,_⟩:=g;KW q e,VM G q g O fun w' ae D M=>⟨v,H2,D,M,L⟩⟩
def Ij(D:X.A.units+2 < cLine):OpR X (compareOp .In) (fun y x H Q=>∃a o,x=.ref a/\JQ H a y o/\Q (.bl o.isSome) H):=by
 intro pins s σ H y x v u Q I G F h;obtain⟨a,o,rfl,g,q⟩:=h;cases F;exact SJ D I g G fun J B=>⟨.bl o.isSome,H,B,rfl,q⟩
def Nz:TE:=fun _ H Q=>∀p,H p=none->Q (.ref p) (upd H p (.dP []))
def XZ(h:Heap)(B:sysModules < h.objs.size):ObjOk P w H (h.push { cls:=.type "dict",data:=.dict #[] }) h.objs.size (.dP []):=by
 obtain⟨z,y,xs,r,nX⟩:=(show ObjOk P w H (h.push { cls:=.type "dict",data:=.dict #[] }) h.objs.size (.dT []) from eL h B);refine Mf nX fun o es ep h1 h2 g q D=>?_;cases r;exact⟨z,y,[],.nil,o,es,ep,h1,h2,g,q,Bi⟩
def vp:PE X (.Dict [] [] pos) Nz:=by
 intro pins s σ H Q I h;exact DO ⟨.ref s.heap.objs.size,_,I.laid (t':=s.toks) (fun _ _ q=>AE _ q) (AI _) (XZ s.heap I.big),rfl,h _ (I.hok.fresh (AI _))⟩
end
end L2
namespace CL
open PySem PySem.Spec L2 PySem.W
open PyProof.Rows hiding St
section
variable {X:Cx}{a b c e o i f value:Expr}{es:List Expr}{pos pos':Pos}
@[irreducible] def cInt:GC:=fun ts C Q=>match ts with
 |[.bl b]=>Q (.int (if b then 1 else 0)) C
 |[.int i]=>Q (.int i) C
 |_=>False
def Qn{K}:nq K (fun xs H Q=>(∃i,xs=[.int i]/\Q (.int i) H)\/∃k,xs=[.bl k]/\Q (.int (if k then 1 else 0)) H) cInt:=fun xs ts H C Q R rs h q f=>by
 delta cInt at q
 split at q
 .obtain ⟨v,rfl,r⟩:=oX rs
  cases r;exact .inr ⟨_,rfl,f _ H _ C q (.int _) h Fw.refl⟩
 .obtain ⟨v,rfl,r⟩:=oX rs
  cases r;exact .inl ⟨_,rfl,f _ H _ C q (.int _) h Fw.refl⟩
 .exact q.elim
@[irreducible] def cCatT:j8:=fun x y C Q=>match x,y with
 |.tup xs,.tup ys=>xs.length+ys.length<=sizeLine/\Q (.tup (xs++ys)) C
 |_,_=>False
@[irreducible] def gC:PV->List PV->CH->K1->Prop:=fun x ts C Q=>match x,ts with
 |.ref a,[.ref b]=>match C a,C b with
  |some (.lst xs),some (.lst ys)=>xs.length+ys.length<=sizeLine/\Q .non (pQ C a (.lst (xs++ys)))
  |_,_=>False
 |_,_=>False
def vS{K}:su K Ke gC:=fun x M xs ps H C Q R J rs h q f=>by
 delta gC at q
 split at q
 .split at q
  .next ys zs B G =>
   refine sQ (h _ _ B) fun vs g D=>sQ (h _ _ G) fun L I F=>?_;obtain⟨v,rfl,r⟩:=oX rs;cases J;cases r
   exact⟨_,_,vs,L,rfl,rfl,g,I,by exact D.len▸F.len▸q.1,f _ _ _ _ q.2 .non (h.put g rfl ⟨_,mQ,(D.append F).aU (iu.mut g rfl _)⟩) (Fw.put B _ _)⟩
  .exact q.elim
 .exact q.elim
def cBM0(q:PV->List PV->CH->K1->Prop)(g:d8):d8:=fun B C Q=>g B C fun x C1=>O1 x C1/\q x [] C1 Q
def Uj{id}{apos cpos}(U:PlainAttrs "list")(ab:Slot "list" name id)(S:typeOf (.builtin id)=pure (.type "method_descriptor"))(M:MtR X id r)(O:su X.K r F)(N:CE X o D)(J:attributeBase o name X.env (eval o X.env)=eval o X.env:=by rfl)(L:(apos.endLine==cpos.line)=true:=by rfl):CE X (.Call (.Attribute o name apos) [] [] cpos) (cBM0 F D):=⟨JE.weak ⟨ZP U ab S M N.h.h J L⟩ fun σ H Q zz=>wX zz fun ρ C R s h q f=>
 ⟨ρ,C,_,s,h,q,fun x H1 Y C1 g B h1 I=>⟨Gf g.1 B h1,O x Y [] [] H1 C1 Q R B .nil h1 g.2 fun v H' t C' Z r' h' G=>f v H' t C' Z r' h' (I.trans G)⟩⟩⟩
@[irreducible] def Ri:PV->List PV->CH->K1->Prop:=fun x ts C Q=>match x,ts with
 |.ref a,[]=>match C a with
  |some (.lst xs)=>Q .non (pQ C a (.lst xs.reverse))
  |_=>False
 |_,_=>False
@[irreducible] def cClear:PV->List PV->CH->K1->Prop:=fun x ts C Q=>match x,ts with
 |.ref a,[]=>match C a with
  |some (.lst xs)=>Q .non (pQ C a (.lst []))
  |_=>False
 |_,_=>False
@[irreducible] def Dw:PV->Option Int->Option Int->CH->K1->Prop:=fun x lo hi C Q=>match x with
 |.tup xs=>¬ (HT.sIx xs.length 0 lo=0/\HT.sIx xs.length xs.length hi=xs.length)/\Q (.tup (Wl xs lo hi)) C
 |_=>False
def Jx{lo}(U:CE X e L)(Y:Sh X lo M)(Z:Sh X hi ch):CE X (.Subscript e (.Slice lo hi none p2) pos) (cSl Dw L M ch):=⟨JE.weak ⟨Yp sl_tup U.h.h Y.h.h Z.h.h⟩ fun σ H Q zz=>wX zz fun G C R s h q f=>
 ⟨G,C,_,s,h,q,fun x H1 px C1 q1 rx h1 B=>⟨G,C1,_,s.aU (B.aU h),h1,q1,fun l H2 l' C2 q2 N h2 D=>⟨G,C2,_,(s.aU (B.aU h)).aU (D.aU h1),h2,q2,fun u H3 u' J g O S I=>by
  cases N;cases O
  delta Dw at g
  split at g
  .have ab:=rx.aU ((D.trans I).aU h1)
   cases ab with
   |@tup a vs ts e r =>
    exact⟨a,vs,rfl,SqT.of e,by rw[r.len];exact g.1,fun p F=>f _ _ _ J g.2 (.tup mQ ((r.cut l u).aU (iu.new F _))) (S.new F _) (B.trans (D.trans (I.trans (Fw.new F _))))⟩
  .exact g.elim⟩⟩⟩⟩
noncomputable def dO:List PV->Option iK
 |[]=>some []
 |t::r=>match vB t,dO r with
  |some k,some g=>some (k::g)
  |_,_=>none
def gD:PV->Option iK
 |.tup ts=>dO ts
 |_=>none
def VI{K}(r:dg K H vs ts)(e:dO ts=some q):∃bs,vs=bs.map V.ref/\Paired (fun g c=>H c=some (.tup (g.map kV))) q bs:=by
 induction ts generalizing vs q with
 |nil=>cases r;cases e;exact⟨[],rfl,.nil⟩
 |cons t ts G =>
  cases r with
  |cons h r =>
   unfold dO at e
   split at e
   .next k g B D =>
    cases e;obtain⟨b,rfl,F⟩:=iG h B;obtain⟨bs,rfl,p⟩:=G r D;exact⟨b::bs,rfl,.cons F p⟩
   .cases e
def dB{K}(r:Rep K H v t)(e:gD t=some g):∃b,v=.ref b/\lw H g b:=by
 cases r<;>try (cases e)
 next a vs ts h r =>
  obtain⟨bs,rfl,p⟩:=VI r e;exact⟨a,rfl,bs,h,p⟩
def Ro:d8:=fun _ C Q=>∀p,C p=none->Q (.ref p) (pQ C p (.dP []))
def zx:CE X (.Dict [] [] pos) Ro:=⟨JE.weak ⟨vp⟩ fun σ H Q B=>wX B fun D C R s h q f=> fun p g=>f (.ref p) _ (.ref p) _ (q p (h.fresh g)) (.ref p) (h.lay g ⟨[],mQ,.nil⟩) (Fw.lay g _ _)⟩
@[irreducible] def Ea:j8:=fun x y C Q=>match x with
 |.ref a=>match C a,gD y with
  |some (.dP kvs),some k=>match aZ kvs k with
   |some v=>Q v C
   |none=>False
  |_,_=>False
 |_=>False
def G8(Y:X.A.units+2 < cLine)(U:CE X o L)(hi:CE X i J)(hs:JR i):CE X (.Subscript o i pos) (o6 Ea L J):=⟨JE.weak ⟨vq Y U.h.h hi.h.h hs⟩ fun σ H Q zz=>wX zz fun I C R s h q f=>
 ⟨I,C,_,s,h,q,fun x H1 px C1 q1 rx h1 F=>⟨I,C1,_,s.aU (F.aU h),h1,q1,fun y H2 ae C2 g ry h2 G=>by
  delta Ea at g
  split at g
  .next a =>
   split at g
   .next kvs k M N =>
    split at g
    .next t D =>
     have ab:=rx.aU (G.aU h1);cases ab;refine sQ (h2 a _ M) fun vs S r=>?_;obtain⟨b,rfl,O⟩:=dB ry N
     rcases FP.val r k with ⟨v,t',Z,B,rv⟩ | ⟨_,B⟩
     .rw [D] at B
      cases B;exact⟨a,v,rfl,⟨vs,k,b,S,rfl,O,Z.symm⟩,f v H2 t C2 g rv h2 (F.trans G)⟩
     .rw [D] at B;cases B
    .exact g.elim
   .exact g.elim
  .exact g.elim⟩⟩⟩
@[irreducible] def Eb:j8:=fun y x C Q=>match x with
 |.ref a=>match C a,gD y with
  |some (.dP kvs),some k=>Q (.bl (aZ kvs k).isSome) C
  |_,_=>False
 |_=>False
def zc{K}:j5 K (fun y x H Q=>∃a o,x=.ref a/\JQ H a y o/\Q (.bl o.isSome) H) Eb:=fun y x N M H C Q R L J h q f=>by
 delta Eb at q
 split at q
 .next a =>
  split at q
  .next kvs k D F =>
   cases J;obtain⟨vs,I,r⟩:=(h a _ D);obtain⟨b,rfl,G⟩:=dB L F;refine⟨a,gW vs k,rfl,⟨vs,k,b,I,rfl,G,rfl⟩,?_⟩
   rcases FP.val r k with ⟨v,t',g,B,O⟩ | ⟨g,B⟩
   .rw [B] at q;exact g▸f _ H _ C q (.bl _) h Fw.refl
   .rw [B] at q;exact g▸f _ H _ C q (.bl _) h Fw.refl
  .exact q.elim
 .exact q.elim
@[irreducible] def cPutQ:PV->PV->PV->CH->(CH->Prop)->Prop:=fun x y v C Q=>match x with
 |.ref a=>match C a,gD y with
  |some (.dP kvs),some k=>kvs.length < sizeLine/\Q (pQ C a (.dP (gm kvs k v)))
  |_,_=>False
 |_=>False
end
inductive Pl:Nat->PV->Prop
 |non {d:Nat}:Pl d .non
 |bl {d:Nat} (b:Bool):Pl d (.bl b)
 |int {d:Nat} (i:Int):Pl d (.int i)
 |str {d:Nat} (x:Str):Pl d (.str x)
 |tup {d:Nat} {ts:List PV} (h:∀t∈ts,Pl d t):Pl (d+1) (.tup ts)
section
variable {X:Cx}
@[irreducible] def cNeD(d:Nat):j8:=fun x y C Q=>match x,y with
 |.ref a,.ref b=>match C a,C b with
  |some (.lst xs),some (.lst ys)=>xs=ys/\(∀t∈xs,Pl d t)/\Q (.bl false) C
  |_,_=>False
 |_,_=>False
noncomputable def eF:List PV->Option (List Str)
 |[]=>some []
 |.str x::r=>(eF r).map (x :: ·)
 |_=>none
noncomputable def Vu:List PV->Option (List (List Str×Int))
 |[]=>some []
 |.tup [.tup g,.int i]::r=>match eF g,Vu r with
  |some zs,some cs=>some ((zs,i)::cs)
  |_,_=>none
 |_=>none
def QY(e:eF ts=some zs):ts=zs.map PV.str:=by
 induction ts generalizing zs with
 |nil=>cases e;rfl
 |cons t ts g =>
  unfold eF at e
  split at e
  .lia
  .rename_i x r h
   cases h
   cases z:eF ts with
   |none=>rw[z] at e;cases e
   |some ds=>rw[z] at e;cases e;rw[g z];rfl
  .cases e
theorem yO:∀zs:List Str,eF (zs.map PV.str)=some zs
 |[]=>rfl
 |z::zs=>by
  show(eF (zs.map PV.str)).map _=_;rw[yO zs];rfl
def uq{ts:List PV}{cs:List (List Str×Int)}(e:Vu ts=some cs):ts=cs.map yJ:=by
 induction ts generalizing cs with
 |nil=>cases e;rfl
 |cons t ts B =>
  unfold Vu at e
  split at e
  .rename_i h;cases h
  .rename_i F i r h
   cases h
   split at e
   .next zs D g q =>
    cases e;rw[B q,QY g];rfl
   .cases e
  .cases e
theorem QU:∀cs:List (List Str×Int),Vu (cs.map yJ)=some cs
 |[]=>rfl
 |c::cs=>by
  show(match eF (c.1.map PV.str),Vu (cs.map yJ) with | some zs,some cs=>some ((zs,c.2)::cs) | _,_=>none)=_;rw[yO,QU cs]
def Vw{K:Dl}{H:Hp}{zs:List Str}{vs:List V}(r:dg K H vs (zs.map PV.str)):vs=zs.map V.str:=by
 induction zs generalizing vs with
 |nil=>cases r;rfl
 |cons z zs g =>
  cases r with
  |cons h r=>cases h;rw[g r];rfl
def Nt{K:Dl}{H:Hp}{ys:List V}{cs:List (List Str×Int)}(r:dg K H ys (cs.map yJ)):∀i,i < ys.length->sH H (ys.getD i .non) (cs.getD i ([],0)):=by
 induction cs generalizing ys with
 |nil=>cases r;intro i hi;exact absurd hi (Bq i)
 |cons c cs q =>
  cases r with
  |@cons v _ vs _ h r =>
   intro i hi
   cases i with
   |zero =>
    cases h with
    |tup e B =>
     obtain⟨I,J,rfl,D,F⟩:=fU B;cases F
     cases D with
     |tup g G =>
      rw[Vw G] at g;exact⟨_,_,rfl,e,g⟩
   |succ i=>exact q r i (Bc hi)
@[irreducible] def bP:GC:=fun ts C Q=>match ts with
 |[.ref a]=>match C a with
  |some (.lst xs)=>match Vu xs with
   |some cs=>cs.length < 64/\∀p,C p=none->Q (.ref p) (pQ C p (.lst ((xH cs).map yJ)))
   |none=>False
  |_=>False
 |_=>False
def Za(J:X.A.units+2 < cLine):nq X.K (fun xs H Q=>∃l ys lt,xs=[.ref l]/\SqL X.K H l ys/\ys.length < 64/\uc X H ys lt/\∀p,H p=none->Q (.ref p) (upd H p (.lst (cF lt ys)))) bP:=fun xs ts H C Q R rs h q f=>by
 unfold bP at q
 split at q
 .obtain ⟨v,rfl,r⟩:=oX rs
  split at q
  .next xs e =>
   split at q
   .next cs F =>
    have ex:=uq F;subst ex;obtain⟨vs,G,B⟩:=h _ _ e;cases r;have I:vs.length=cs.length:=by rw[B.len,AC]
    have D:=Xf (yJ ([],0)) (lN cs) B;rw[AC,WS] at D;exact⟨_,vs,lN cs,rfl,SqL.of G,by rw[I];exact q.1,uO J _ (Nt B),fun p g=>f _ _ _ _ (q.2 p (h.fresh g)) (.ref p) (h.lay g ⟨_,mQ,D.aU (iu.new g _)⟩) (Fw.lay g _ _)⟩
   .exact q.elim
  .exact q.elim
 .exact q.elim
end
end CL
namespace PySem.W
open PySem PySem.Calls PyProof.Rows PyProof.V PySem.Spec
section
variable {prog:Program}{w:World}{A:Around}{E:Value->Shared->Prop}{s:Shared}{d it:Addr}{es:Array DictEntry}{ep i:Nat}
def lg.ty(x:lg s.heap d es ep):s.TypeIs (.ref d) "dict":=let ⟨o,e,c,_⟩:=x;⟨o,e,c.1⟩
def VE{Q:Value->Shared->Prop}(I:(d==sysModules)=false)(B:lg s.heap d es ep)(G:Q (.ref s.heap.objs.size) { s with heap:=s.heap.push { cls:=.type "dict_keyiterator",data:=.fields #[.ref d,.int 0 0,.int es.size 0,.int ep 0] } }):wpAny (model prog w) A (pyIter (.ref d)) Q E s:=by
 have g:=B.ty;obtain⟨o,D,J,q⟩:=B;refine wpAny_pyIter_slot (by exact g) F.slot_dict_iter (Av F.slot_dict_iter (by exact g) F.entry_dict_iter ?_ (F.args_dict_iter_1 _))
 (unfold Builtin.«dict.__iter__»;refine AA ?_;unfold Builtin.Dict.dictSlotNone;refine AA (B5 g ?_))
 (show wpAny _ _ (pure (Value.ref d)) _ _ s;refine AD ?_;show wpAny _ _ (Builtin.Dict.showsAll d >>= _) _ _ s;unfold Builtin.Dict.showsAll)
 (rw[Ac (by rw[I];exact AR)];refine AA (AD ?_);refine AA (Ci D q ?_);refine AA (Ct D q ?_))
 refine AA (Aw (AD ⟨_,rfl,"dict_keyiterator",(_),⟨_,AK _ rfl,rfl⟩,Bb.lookup,(?_)⟩))
 (simpa [rawInt] using G)
def VD{e:DictEntry}{Q:Option Value->Shared->Prop}(I:s.heap.IsKeyIter it d i es.size ep)(U:lg s.heap d es ep)(B:es[i]?=some e)(N:∀h',h'.IsKeyIter it d (i+1) es.size ep->Heap.SameBut it s.heap h'->Q (some e.key) { s with heap:=h' }):wpAny (model prog w) A (pyNext (.ref it)) Q E s:=by
 have g:=I.typeIs;obtain⟨o,D,O,q⟩:=id I;obtain⟨od,M,Z,G⟩:=id U
 have L:i < es.size:=by
  rcases CK i es.size with h | h
  .exact h
  .rw [Array.getElem?_eq_none h] at B;cases B
 have S:es[i]=e:=by rw[An L] at B;exact Al B
 have Y:Builtin.Dict_items.ownsTuple "dict_keyiterator" = false:=by (decide)
 (unfold pyNext;refine AA (DL (BG (name:=Str.ofString "__next__") g Bb (Av Bb g F.entry_dict_keyiterator_next ?_ (F.args_dict_keyiterator_next_1 _)))))
 (refine AA (AD ?_);refine AA ?_;refine AA ?_;first | refine AA (B2 g (AD ?_)) | refine AA (CZ g (AD ?_)))
 (refine AA (wpAny_fieldsOf D q ?_);simp only[Y,Bool.false_eq_true,if_false];show wpAny _ _ (if (Value.ref d==Value.none)=true then _ else _) _ _ s)
 (rw[Ac (show ¬ ((Value.ref d==Value.none)=true) from AR)];refine AA (AD ?_);refine AA (Ci M G ?_))
 (rw[Ac (by simp)];refine AA (AD ?_);refine AA (Ct M G ?_);rw[Ac (by simp)];refine AD ?_)
 (simp only[show ¬ ((i:Int) < 0) from by omega,if_false,Int.toNat_natCast,Array.getElem?_eq_getElem L];refine AA ?_)
 (first | refine AA (B2 g (AD ?_)) | refine AA (CZ g (AD ?_)))
 (refine AA (wpAny_isOneOf_keyiter g ?_);show wpAny _ _ (setField (.ref it) 1 (rawInt ((i:Int)+1)) >>= _) _ _ s;refine AA (DA D q (by simp) ?_))
 have J:(s.heap.update it (Obj.mapFields (·.setIfInBounds 1 (rawInt ((i:Int)+1))))).IsKeyIter it d (i+1) es.size ep:=⟨_,A4 _ D (Obj.isFreed_of_fields (Obj.data_mapFields q _)),(Obj.cls_mapFields ..).trans O,by rw[Obj.data_mapFields q];simp[rawInt]⟩
 (refine AA (Ao ?_);refine AA (wpAny_isOneOf_keyiter (s:={ s with heap:=s.heap.update it (Obj.mapFields (·.setIfInBounds 1 (rawInt ((i:Int)+1)))) }) J.typeIs ?_))
 (show wpAny _ _ (pure es[i].key) _ _ _;rw[S];exact AD (AD ⟨_,rfl,AD (N _ J (BU ..))⟩))
def W3{Q:Option Value->Shared->Prop}(M:A.handled=none)(D:s.heap.IsKeyIter it d i es.size ep)(N:lg s.heap d es ep)(L:es.size<=i)(J:∀h',Heap.ExtBut it s.heap h'->Q none { s with heap:=h' }):wpAny (model prog w) A (pyNext (.ref it)) Q E s:=by
 have g:=D.typeIs;obtain⟨o,G,S,q⟩:=id D;obtain⟨Y,I,U,B⟩:=id N;have O:Builtin.Dict_items.ownsTuple "dict_keyiterator" = false:=by (decide)
 (unfold pyNext;refine AA (DL (BG (name:=Str.ofString "__next__") g Bb (Av Bb g F.entry_dict_keyiterator_next ?_ (F.args_dict_keyiterator_next_1 _)))))
 (refine AA (AD ?_);refine AA ?_;refine AA ?_;first | refine AA (B2 g (AD ?_)) | refine AA (CZ g (AD ?_)))
 (refine AA (wpAny_fieldsOf G q ?_);simp only[O,Bool.false_eq_true,if_false];show wpAny _ _ (if (Value.ref d==Value.none)=true then _ else _) _ _ s)
 (rw[Ac (show ¬ ((Value.ref d==Value.none)=true) from AR)];refine AA (AD ?_);refine AA (Ci I B ?_))
 (rw[Ac (by simp)];refine AA (AD ?_);refine AA (Ct I B ?_);rw[Ac (by simp)];refine AD ?_)
 (simp only[show ¬ ((i:Int) < 0) from by omega,if_false,Int.toNat_natCast,Array.getElem?_eq_none L];refine AA ?_)
 (first | refine AA (B2 g (AD ?_)) | refine AA (CZ g (AD ?_)))
 (show wpAny _ _ (setField (.ref it) 0 .none >>= _) _ _ s;refine AA (DA G q (by simp) ?_);show wpAny _ _ (newExc (.type "StopIteration") [] >>= _) _ _ _)
 (refine AA ?_;simp only[newExc,newTuple];refine AA (Aw ?_ (by size_fits)))
 (refine AA (m:=firstArgMember _ _) (wpAny_of_eq (a:=Value.none) (by first | rfl | (simp only[firstArgMember];rfl)) ?_);refine Aw ?_ (by size_fits))
 (simp only[raiseNew];refine AA (wpAny_handled ?_);rw[show A.in1.handled=none from M];refine AA (AD (wpAny_throw ?_)))
 (refine AA (BR (T:="StopIteration") (b:=true) ⟨_,AK _ rfl,rfl⟩ isSubtype_stop ?_);exact AD (J _ (((BU ..).extBut.push _).push _)))
end
end PySem.W
namespace L2
open PySem PySem.Spec PyProof.Rows PySem.W
section
variable {X:Cx}{pins:List (Addr×Obj)}{σ:St}{H:Hp}{s:Shared}{d:Addr}{o:Obj}{kvs:List (List Key×V)}
def Inv.yt{t':Nat}(I:Inv X pins σ H s)(B:H d=some (.dT kvs))(F:s.heap.get? d=some o):Inv X pins σ (upd H d (.frz o (.dT kvs))) { s with toks:=t' }:=by
 have g:∀{b:Addr}{u:HO},H b=some u->u≠.dT kvs->b≠d:=fun e n z=>by subst z;rw[B] at e;cases e;exact n rfl
 refine I.un (h':=s.heap) ⟨fun b u q _ _ _=>q,fun b u q _ _ _=>⟨u.slots,q⟩,fun b u q n _=>by rw[uQ (fun z=>by subst z;rw[B] at n;cases n)];exact n,fun b u q _=>⟨u,q⟩,
  fun b xs q=>by rw[uQ (g q nofun)];exact q,fun b u v q=>by rw[uQ (g q nofun)];exact q,fun b ps q=>⟨#[],by rw[uQ (g q nofun),q];simp⟩⟩ fun b u e=>?_
 have st:∀{b:Addr}{u:HO},H b=some u->ObjOk X.prog X.w (upd H d (.frz o (.dT kvs))) s.heap b u:=fun {b u}e=>(I.hok b u e).stay (fun c v _ q=>q) (fun c q=>by rw[uQ (g q nofun)];exact q) fun c xs q=>by rw[uQ (g q nofun)];exact q
 by_cases D:b=d
 .subst D
  rw[mQ] at e;cases e;exact⟨F,st B⟩
 .rw [uQ D] at e
  exact st e
def Inv.nfT(I:Inv X pins σ H s)(g:H d=some (.dT kvs)):NF X d:=fun q u e=>by
 have:=I.base.frzs d q u e;rw[g] at this;cases this
def Inv.Ny(I:Inv X pins σ H s)(G:H d=some (.frz o (.dT kvs)))(Z:NF X d):Inv X pins σ (upd H d (.dT kvs)) s:=by
 have D:∀{b:Addr}{u:HO},H b=some u->u≠.frz o (.dT kvs)->b≠d:=fun e n z=>by subst z;rw[G] at e;cases e;exact n rfl
 have F:∀{b:Addr},H b=none->b≠d:=fun e z=>by subst z;rw[G] at e;cases e
 obtain⟨m,S,O⟩:=I.loc;have B:=I.base;have st:∀{b:Addr}{u:HO},H b=some u->ObjOk X.prog X.w (upd H d (.dT kvs)) s.heap b u:=fun {b u}e=>(I.hok b u e).stay (fun c v _ q=>q) (fun c q=>by rw[uQ (D q nofun)];exact q) fun c xs q=>by rw[uQ (D q nofun)];exact q
 refine⟨I.ok,I.os,I.bare,⟨B.keep,B.slot,fun b u q n x=>by rw[uQ (F (B.free b u q n x))];exact B.free b u q n x,B.there,fun b xs q=>?_,fun b L u q=>?_,fun b ps q=>?_⟩,⟨m,S,O⟩,I.cell,by rw[uQ (F I.free)];exact I.free,fun x c e=>by rw[uQ (F (I.freeC x c e))];exact I.freeC x c e,fun p U=>?_,fun b u e=>?_,I.len⟩
 .have:=B.tups b xs q
  rw[uQ (D this nofun)];exact this
 .have:=B.frzs b L u q
  have g:b≠d:=fun z=>by subst z;exact Z L u q
  rw[uQ g];exact this
 .obtain ⟨Y,e⟩:=B.tbls b ps q
  exact⟨Y,by rw[uQ (D e nofun)];exact e⟩
 .obtain ⟨M,J,N⟩:=I.pin p U
  exact⟨M,by rw[uQ (F J)];exact J,N⟩
 .by_cases g:b=d
  .subst g
   rw[mQ] at e;cases e;exact(show ObjOk X.prog X.w _ s.heap b (.frz o (.dT kvs)) from st G).2
  .rw [uQ g] at e
   exact st e
def Y9{e:Expr}{t:TE}(h:JE X e t):JE X e (fun σ H Q=>t σ H fun v H'=>∃d o kvs,H' d=some (.frz o (.dT kvs))/\NF X d/\Q v (upd H' d (.dT kvs))) :=
 ⟨fun pins s σ H Q I q=>thn (h.h pins s σ H _ I q) fun u J ⟨v,H1,g,G,d,o,kvs,B,D,F⟩=>⟨v,_,g.Ny B D,G,F⟩⟩
end
def M4(o:Obj)(d:Addr)(kvs:List (List Key×V)):It :=
 ⟨fun i H=>i < kvs.length/\H d=some (.frz o (.dT kvs)),fun i H x H'=>H'=H/\∃p b,kvs[i]?=some p/\x=.ref b/\H b=some (.tup (p.1.map kV)),fun i H=>kvs.length<=i/\H d=some (.frz o (.dT kvs))⟩
def KO{X:Cx}{pins:List (Addr×Obj)}{σ:St}{H:Hp}{s:Shared}{d:Addr}{o:Obj}{kvs:List (List Key×V)}{es:Array DictEntry}{ep:Nat}(I:Inv X pins σ H s)(F:H d=some (.frz o (.dT kvs)))(g:o.data=.dict es ep):
  ∃xs,KT H kvs xs/\lg s.heap d es ep/\es.toList=xs.map (entryOfKey (tupleKind (eQ X.prog X.w)))/\(d==sysModules)=false:=by
 obtain⟨e,_,D,xs,L,o',N,M,q,G,B,J,O⟩:=(show ObjOk X.prog X.w H s.heap d (.frz o (.dT kvs)) from I.hok d _ F);rw[e] at q;cases q;rw[g] at B;cases B;exact⟨xs,L,⟨o,e,G,g⟩,J,D⟩
theorem KT.get: ∀{kvs}{xs},KT H kvs xs->∀{i:Nat}{p},kvs[i]?=some p->∃q,xs[i]?=some q/\p.1=q.1/\H q.2.1=some (.tup (p.1.map kV))
 |_,_,.nil,i,p,e=>by simp at e
 |_,_,.cons h t,i,p,e=>by
  cases i with
  |zero=>cases e;exact⟨_,rfl,h.1,h.2.1⟩
  |succ i=>exact KT.get t e
def Zu{P:Program}{w:World}{K:Dl}{tg:Expr}(o:Obj)(d it:Addr)(kvs:List (List Key×V))(es:Array DictEntry)(ep:Nat)(ah:es.size=kvs.length)(ho:o.data=.dict es ep):Zi P w K tg (M4 o d kvs) [it] it (fun i h=>h.IsKeyIter it d i es.size ep) where
 mem:=by simp
 obj:=fun i h st b g=>by
  have e:b=it:=by simpa using g
  subst e;obtain⟨o,e,c,d⟩:=st;exact⟨o,e,fun v z=>by rw[d] at z;cases z⟩
 keep:=fun i h h' st k=>let ⟨Z,e,r⟩:=st;⟨Z,k it (by simp) Z e,r⟩
 item:=by
  intro X O Y N hc i pins s σ H E I B st U;subst O Y N;obtain⟨hi,S⟩:=U;obtain⟨xs,ae,D,ab,_⟩:=KO I S ho;obtain⟨F,G,ag,J,L,M⟩:=B it (by simp);have hk:kvs[i]?=some kvs[i]:=AN _;obtain⟨q,hq,k1,k2⟩:=KT.get ae hk
  have hx:es[i]?=some (entryOfKey (tupleKind (eQ X.prog X.w)) q):=by
   rw[<- Array.getElem?_toList,ab,Aj,hq];rfl
  refine VD st D hx fun h' st' sb=>?_;have I1:Inv X pins σ H { s with heap:=h' }:=I.turned (t':=s.toks) (fun b o g e=>(sb.2 b g).trans e) F G J L M;obtain⟨Z,e,c,dt⟩:=id st';exact⟨.ref q.2.1,rfl,gE (s:={ s with heap:=h' }) e c dt (by decide) ⟨.ref q.2.1,H,I1,rfl,⟨rfl,_,_,hk,rfl,k2⟩,st',fun b g=>(B b g).1⟩⟩
 done:=by
  intro X O Y N hc i pins s σ H E I B st U;subst O Y N;obtain⟨hi,S⟩:=U;obtain⟨xs,ae,D,ab,_⟩:=KO I S ho;obtain⟨F,G,ag,J,L,M⟩:=B it (by simp);exact W3 (I.ok.hd hc) st D (by omega) fun h' eb=>⟨rfl,I.turned (t':=s.toks) (fun b o g e=>eb b o g e) F G J L M⟩
 self:=fun _ _ _ _ _ st h=>wpAny_pyIter_keyiter st h
section
variable {X:Cx}{tg:Expr}
def Lw(X:Cx)(td:TE):TI:=fun σ H R=>td σ H fun x H1=>∃d kvs,x=.ref d/\H1 d=some (.dT kvs)/\∀o,NF X d->R (M4 o d kvs) (upd H1 d (.frz o (.dT kvs)))
def Y8{e:Expr}{td:TE}(S:JE X e td):JI X tg e (Lw X td):=by
 refine⟨fun pins s σ H R I h=>?_⟩;refine thn (S.h pins s σ H _ I h) fun v g zz=>vZ zz fun x H1 B Z Y=> ?_;obtain⟨d,kvs,rfl,F,q⟩:=Y;cases (show v=Value.ref d from Z);obtain⟨z,N,xs,ab,o,es,ep,G,L,J,M,g5⟩:=(show ObjOk X.prog X.w H1 g.heap d (.dT kvs) from B.hok d _ F);have U:es.size=kvs.length:=by rw[<- Ay,M,AC,<- Paired.length ab]
 have D:=B.yt (t':=g.toks) F G;refine VE (es:=es) (ep:=ep) N ⟨o,G,L,J⟩ ?_;refine⟨g.heap.objs.size,[g.heap.objs.size],_,_,_,rfl,D.kept (t':=g.toks) fun b o e=>AE _ e,Zu o d _ kvs es ep U J,⟨_,AK _ rfl,rfl,rfl⟩,fun b O=>?_,q o (B.nfT F)⟩;have e:b=g.heap.objs.size:=by simpa using O
 subst e;exact D.fpOk (AI _) (D.hok.fresh (AI _))
end
end L2
namespace CL
open PySem PySem.Spec L2 PySem.W
open PyProof.Rows hiding St
section
variable {X:Cx}{pos:Pos}
def sJ(k:List Key):PV:=.tup (k.map iV)
theorem mO{K:Dl}{H:Hp}:∀g:List Key,dg K H (g.map kV) (g.map iV)
 |[]=>.nil
 |k::g=>.cons (fO k) (mO g)
@[irreducible] def Qy(q:d8)(t:j6)(c:d8):d8:=fun g C Q=>q g C fun x C1=>match x with
 |.ref d=>match C1 d with
  |some (.dT kvs)=>tJ t c g (fun v C2=>C2 d=some (.fT kvs)/\Q v (pQ C2 d (.dT kvs))) (kvs.map fun p=>sJ p.1) [] (pQ C1 d (.fT kvs))
  |_=>False
 |_=>False
def FP.keys{K}{kvs:List (κ×PV)}(r:FP K H vs kvs):vs.map (·.1)=kvs.map (·.1):=by
 induction r with
 |nil=>rfl
 |cons h _ g=>rw[A9,A9,h.1,g]
def Gc{K:Dl}{o:Obj}{d:Addr}{vs:List (List Key×V)}{kvs:List (List Key×PV)}(e:vs.map (·.1)=kvs.map (·.1)):M5 K (fun H'=>H' d=some (.frz o (.dT vs))) (M4 o d vs) (kvs.map fun p=>sJ p.1) where
 go:=fun i H' l s=>⟨by
  have:(vs.map (·.1)).length=(kvs.map (·.1)).length:=by rw[e]
  rw[AC,AC] at this;rw[AC] at l
  omega,s⟩
 yl:=fun i H' x F s y=>⟨y.1,fun t g=>by
  obtain⟨p,b,D,rfl,B⟩:=y.2;have h1:(vs.map (·.1))[i]?=some p.1:=by rw[Aj,D];rfl
  rw[e,Aj] at h1;rw[Aj] at g
  cases z:kvs[i]? with
  |none=>rw[z] at g;cases g
  |some q =>
   rw[z] at g h1;cases g;have h1:q.1=p.1:=Al h1;show Rep K H' (.ref b) (sJ q.1);rw[h1]
   exact .tup B (mO p.1)⟩
 st:=fun H' s=>⟨by
  have:(vs.map (·.1)).length=(kvs.map (·.1)).length:=by rw[e]
  rw[AC,AC] at this;rw[AC]
  omega,s⟩
def Uc{Z S:Expr}{x:Str}{px:Pos}{ab:List Expr}{M:Scope}{U:d8}{t:j6}{c:d8}(hc:X.calm=true)(hN:(x::X.N).Nodup)(K:∃B,qB X x M B)(hi:CE X S U)(ht:∀B F C G D,CF (aJ X x M B F C G D) ab t)(aj:∀B F C G D,CE (aJ X x M B F C G D) Z c)(hs:∀v,foldedSetIterable S X.env v=pure v:=by intro _;rfl):CE X (.ListComp Z [⟨.Name x px,S,ab,0⟩] M pos) (Qy U t c) :=
 ⟨JE.weak (Y9 (tL (te:=gJ X.K (Rep X.K) c) (tc:=gJ X.K yD t) hc hN K (Y8 hi.h) (fun B F C G D=>(ht B F C G D).h) (fun B F C G D=>(aj B F C G D).h) hs)) fun σ H Q zz=>wX zz fun ρ C R s h q f=> by
  unfold Qy at q
  exact⟨ρ,C,_,s,h,q,fun xv H1 px C1 I rx h1 O=>by
   split at I
   .next d =>
    split at I
    .next kvs e =>
     obtain⟨vs,N,r⟩:=h1 d _ e;cases rx;refine⟨d,vs,rfl,N,fun o ak ao hD=>?_⟩;have m:iu H1 (upd H1 d (.frz o (.dT vs))):=iu.mut N rfl _;have h2:dh X.K (upd H1 d (.frz o (.dT vs))) (pQ C1 d (.fT kvs)):=h1.put N rfl ⟨o,vs,mQ,Paired.mapP r fun _ _ z=>⟨z.1,z.2.aU m⟩⟩;have ai:Fw H1 C1 (upd H1 d (.frz o (.dT vs))) (pQ C1 d (.fT kvs)):=Fw.put e _ _
     have ah:∀H' C',Fw (upd H1 d (.frz o (.dT vs))) (pQ C1 d (.fT kvs)) H' C'->H' d=some (.frz o (.dT vs)):=fun H' C' g=>by
      have:=(g d (by rw[jQ];rfl) (by rw[mQ];exact fun z=>nomatch z)).2;rw[this,mQ]
     refine K8 (Q:=fun v H'=>∃d o kvs,H' d=some (.frz o (.dT kvs))/\NF X d/\Q v (upd H' d (.dT kvs))) (H0:=upd H1 d (.frz o (.dT vs))) (C0:=pQ C1 d (.fT kvs)) (Gc r.keys) (fun H' C' _ g=>ah H' C' g) ((s.aU (O.aU h)).aU m) h2 I h2 Fw.refl (fun v H' p C' q' r' h' f'=>?_) hD;obtain⟨e1,q2⟩:=q';have L:=ah H' C' f';refine⟨d,o,vs,L,ak,?_⟩;have m':iu H' (upd H' d (.dT vs)):=iu.mut L rfl _
     obtain⟨o',aq,Y,r3⟩:=h' d _ e1;rw[L] at Y;cases Y;refine f v _ p _ q2 (r'.aU m') (h'.put L rfl ⟨vs,mQ,Paired.mapP r3 fun _ _ z=>⟨z.1,z.2.aU m'⟩⟩) ?_;intro a J ae;obtain⟨x1,x2⟩:=(O.trans (ai.trans f')) a J ae
     have ag:a≠d:=fun z=>by
      subst z;obtain⟨y1,y2⟩:=O a J ae;rw[<- y1,e] at J;cases J
     exact⟨(vQ ag).trans x1,(uQ ag).trans x2⟩
    .exact I.elim
   .exact I.elim⟩⟩
noncomputable def tOf:Option CO->Option (List (List Key×PV))
 |some (.dT kvs)=>some kvs
 |some (.fT kvs)=>some kvs
 |_=>none
def Hz{K:Dl}{H:Hp}{C:CH}{a:Addr}{kvs:List (List Key×PV)}(h:dh K H C)(e:tOf (C a)=some kvs):∃vs,Rd H a (.dT vs)/\FP K H vs kvs:=by
 cases c:C a with
 |none=>rw[c] at e;cases e
 |some o =>
  rw[c] at e
  cases o with
  |dT l=>cases e;obtain⟨vs,q,r⟩:=h a _ c;exact⟨vs,.inl q,r⟩
  |fT l=>cases e;obtain⟨o,vs,q,r⟩:=h a _ c;exact⟨vs,.inr ⟨o,q⟩,r⟩
  |_=>cases e
@[irreducible] def Du:j8:=fun x y C Q=>match x with
 |.ref a=>match tOf (C a),vB y with
  |some kvs,some k=>match aZ kvs k with
   |some v=>Q v C
   |none=>False
  |_,_=>False
 |_=>False
def Mt{o i:Expr}{F D:d8}(Y:X.A.units+1 < cLine)(U:CE X o F)(hi:CE X i D)(hs:JR i):CE X (.Subscript o i pos) (o6 Du F D):=⟨JE.weak ⟨sA Y U.h.h hi.h.h hs⟩ fun σ H Q zz=>wX zz fun L C R s h q f=>
 ⟨L,C,_,s,h,q,fun x H1 px C1 q1 rx h1 I=>⟨L,C1,_,s.aU (I.aU h),h1,q1,fun y H2 ae C2 g ry h2 J=>by
  unfold Du at g
  split at g
  .next a =>
   split at g
   .next kvs k M N =>
    split at g
    .next t G =>
     have ab:=rx.aU (J.aU h1);cases ab;obtain⟨vs,S,r⟩:=Hz h2 M;obtain⟨b,rfl,O⟩:=iG ry N
     rcases FP.val r k with ⟨v,t',Z,B,rv⟩ | ⟨_,B⟩
     .rw [G] at B
      cases B;exact⟨a,v,rfl,.inr ⟨vs,k,b,S,rfl,O,Z.symm⟩,f v H2 t C2 g rv h2 (I.trans J)⟩
     .rw [G] at B;cases B
    .exact g.elim
   .exact g.elim
  .exact g.elim⟩⟩⟩
end
end CL
namespace L2
open PySem PySem.Spec PyProof.Rows
section
variable {X:Cx}
def Y7{i:Nat}{y:Str}{xs:List Str}{tg:Expr}{g:TG}{ab pos aj:Pos}{U N:Expr}{Z:List Expr}{I:Scope}{M:List (Str×Addr)}{wi:TI}{tc:TT}{te:TE}(ar:X.N.Nodup)(hi:X.N[i]?=some y)(hy:Loc X.env.scope y)(hc:X.calm=true)(K:vV X xs I M)(hg:∀F C G B,PG (kh X xs I M F C G B) tg g)(hG:∀O vs a σ H Q,O.length=xs.length->SqT X.K H a vs->vs.length=xs.length->Q (vs.map some++σ) H->g (.ref a) (O++σ) H Q)(hI:JI X tg N wi)(ht:∀F C G B,JF (kh X xs I M F C G B) Z tc)(av:∀F C G B,JE (kh X xs I M F C G B) U te)(hs:∀v,foldedSetIterable N X.env v=pure v:=by intro _;rfl)(ay:swapsWith (.ListComp U [⟨tg,N,Z,0⟩] I pos) (some (.Name y ab)) aj.line X.env=pure true:=by rfl)(aw:X.fn y=true\/X.env.scope.names.lookup y=some .local:=by first | exact .inl rfl | exact .inr rfl | assumption):
  JS X (.Assign [.Name y ab] (.ListComp U [⟨tg,N,Z,0⟩] I pos) aj) (tAsg (Zv X.K xs.length wi tc te) (xB i)):=by
 refine⟨fun pins s σ H D ak h=>?_⟩;rw[exec_Assign_Name_used _ _ _ _ ay];refine AA (wpAny_standAt (AA (AA (Ca (use:=some (assign (.Name y ab) X.env)) rfl hs K.clos K.kind K.names (thn (hI.h pins s σ H _ ak h) fun xv a8 az=>thn az fun a6 G a0=>?_)))));obtain⟨it,F,tn,J,B,e,S,T,a4,ao,R⟩:=a0;subst e;refine wG (Tk:=fun x H vs=>∃a,x=.ref a/\SqT X.K H a vs) (Q:=fun x H1=>xB i x σ H1 D.nx) hc K hg (fun F C G B=>(ht F C G B).h) (fun F C G B=>(av F C G B).h) (fun O vs x H Q l ⟨a,e,ae⟩ l' q=>by rw[e];exact hG O vs a σ H Q l ae l' q) S T a4 ao (fun D hD=>let ⟨W,w0,a5⟩:=R D hD;⟨W,w0,fun i m ys H w=>(a5 i m ys H w).imp id fun zz=>sD zz fun g st=> ⟨g,fun x H' y=>let ⟨a,vs,e,ae,l,q⟩:=st x H' y;⟨vs,⟨a,e,ae⟩,l,q⟩⟩⟩) ?_
 intro D' C H' a7 m hn ag aq ah ai I4 q;refine wpAny_assign_Name (tP I4 ar hi hy (v:=.ref D') rfl (fun a3 I5 Y=>?_) aw);obtain⟨b,Y,L⟩:=Y
 have au:C≠b:=by
  rcases L with rfl | L
  .exact ag
  .exact fun z=>ah _ _ L z.symm
 refine⟨m,hn.at' fun o e=>(Y.2 C au).trans e,fun h' ax=>AD (AD ?_)⟩;refine⟨_,H',?_,q⟩;refine I5.turned (it:=C) (t':=a3.toks) (fun b o L e=>(ax.2 b L).trans e) aq ag (.inr (Ad S.sz ai)) ah fun p hp z=>?_;exact absurd (AZ (AH (S.pin p hp).1) (by rw[z];exact ai)) (A8 _)
end
end L2
namespace CL
open PySem PySem.Spec L2 PySem.W
open PyProof.Rows hiding St
def GV{X:Cx}{i:Nat}{w x y z:Str}{Z M p2 N p pos ab:Pos}{k:Nat}{J I:Expr}{L:List Expr}{G:Scope}{wi:TI}{O:jt->CH->(List PV->CH->Prop)->Prop}{t:j6}{c:d8}(ag:X.N.Nodup)(hi:X.N[i]?=some w)(hy:Loc X.env.scope w)(Y:X.calm=true)(hN:(x::y::z::X.N).Nodup)(K:∃g,vV X [x,y,z] G g)(U:CI X (.Tuple [.Name x M,.Name y p2,.Name z N] k p) I wi O)(ht:∀g D C F B,CF (kh X [x,y,z] G g D C F B) L t)(ah:∀g D C F B,CE (kh X [x,y,z] G g D C F B) J c)(hs:∀v,foldedSetIterable I X.env v=pure v:=by intro _;rfl)(aj:swapsWith (.ListComp J [⟨.Tuple [.Name x M,.Name y p2,.Name z N] k p,I,L,0⟩] G pos) (some (.Name w Z)) ab.line X.env=pure true:=by rfl)(ai:X.fn w=true\/X.env.scope.names.lookup w=some .local:=by first | exact .inl rfl | exact .inr rfl | assumption):
  CS X (.Assign [.Name w Z] (.ListComp J [⟨.Tuple [.Name x M,.Name y p2,.Name z N] k p,I,L,0⟩] G pos) ab) (Ww i (Qz 3 O t c)):=by
 obtain⟨g,K⟩:=K;refine⟨JS.weak (Y7 (te:=gJ X.K (Rep X.K) c) (tc:=gJ X.K yD t) (xs:=[x,y,z]) ag hi hy Y K (fun _ _ _ _=>pg3 Y hN K) Td U.j (fun D C F B=>(ht g D C F B).h) (fun D C F B=>(ah g D C F B).h) hs aj ai) fun ae σ H zz=>wX zz fun ρ C E s h q f=> ?_⟩;exact fR (Q:=fun x H'=>ae.nx (σ.set i (some x)) H') U ⟨ρ,C,_,s,h,q,fun x H1 px C1 q1 rx h1 S=>f.nx _ H1 _ C1 q1 ((s.aU (S.aU h)).set rx i) h1 S⟩
end CL
namespace PySem
section
variable {prog:Program}{w:World}{A:Around}{E:Value->Shared->Prop}{s:Shared}
def Z3:typeLookup (.type "list_reverseiterator") "__len__" = pure none:=by rw[DZ,Co];kernel_rfl
def YY:typeLookup (.type "list_reverseiterator") "__length_hint__" = pure (some (.builtin "list_reverseiterator.__length_hint__")):=by kernel_rfl
def Jn(hh:A.handled=none)(aj:l≠I)items S res O(M:S≠I)(ag:S≠l)(J:s.heap.IsRevIter I l ((items.size:Int) - 1))(hl:s.heap.IsList l items)(hS:s.heap.get? S=some { cls:=.type "list",data:=.seq #[] O })(Z:∀h' tk B g,(∀b o,b≠S->b≠I->s.heap.get? b=some o->h'.get? b=some o)->h'.get? S=some { cls:=.type "list",dict:=none,data:=.seq B g,slots:=#[] } ->
   ItemsOf (fun i v=>items[items.size - 1 - i]?=some v) B items.size->R (.ok (.ret res)) { s with heap:=h',toks:=tk })(hn:items.size<=sizeLine):
  wpAny (model prog w) A.in1 (Builtin.List.listExtendWith (.ref S) (.ref I) res)
   (fun Y s'=>match Y with | .done f=>R (.ok f) s' | .again g=>g.quiet=true/\codeAny (model prog w) A g R s') (fun e s'=>R (.error e) s') s:=by
 have ae:S∉[I,l]:=fun G=>by
  rcases Ai.mp G with e | e
  .exact M e
  .exact ag (AF.mp e)
 have D:=J.typeIs
 delta Builtin.List.listExtendWith
 refine AA (CJ D ?_);have h1:Builtin.List.listSameRef (.ref S) (.ref I)=false:=by simp[Builtin.List.listSameRef,M]
 have h2:(Value.type "list_reverseiterator" == Value.type "list")=false:=by decide
 have h3:(Value.type "list_reverseiterator" == Value.type "tuple")=false:=by decide
 simp only[h1,h2,if_false]
 refine AA (wpAny_pyIter_revIter J (AA (Ao (AA (A5 D Z3 (AA (A5 D YY ?_)))))));generalize N:("list_reverseiterator.__length_hint__" : String)=ak
 wp_delta
 rw[show splitId ak=some ("list_reverseiterator","__length_hint__") from by subst N;decide +kernel];subst N;refine AA (BR (b:=true) D (by kernel_rfl) (Cc (fun q=>absurd q (by decide)) (fun _=>?_)));refine Cc (fun _=>?_) (fun q=>absurd (by decide +kernel) q);refine Cc (fun q=>absurd q (by decide +kernel)) (fun _=>?_)
 apply AD
 have W:=(Walks.listRev (prog:=prog) (w:=w) (A:=A.in1) hh I l aj items).toS;refine AD ⟨BY F.plain_extend_loop _,codeAny_extend_loopS W hn _ ae _ items.size 0 _ _ _ rfl (AW _) ⟨AW _,by simpa using J,hl⟩ hS (ItemsOf.nil _) fun s' B g G ab ah=>?_⟩;rw[Moved.eq_with G];refine Z s'.heap s'.toks B g (fun b ob hb ai e=>G.heap b ob (fun L=>?_) e) ab ah
 rcases Ai.mp L with U | L
 .exact hb U
 .exact ai (AF.mp L)
def xT(hh:A.handled=none)(ae:l≠I)items S(J:S≠I)(L:S≠l)(ab:s.heap.IsRevIter I l ((items.size:Int) - 1))(hl:s.heap.IsList l items)(D:s.heap.get? S=some { cls:=.type "list",data:=.seq #[] })(N:∀h' G q g,(∀b o,b≠S->b≠I->s.heap.get? b=some o->h'.get? b=some o)->h'.get? S=some { cls:=.type "list",dict:=none,data:=.seq q g,slots:=#[] } ->
   ItemsOf (fun i v=>items[items.size - 1 - i]?=some v) q items.size->R (.ok (.ret .none)) { s with heap:=h',toks:=G })(hn:items.size<=sizeLine):
  wpAny (model prog w) A.in1 (Builtin.«list.__init__» ⟨[.ref S,.ref I],[]⟩)
   (fun M s'=>match M with | .done f=>R (.ok f) s' | .again g=>g.quiet=true/\codeAny (model prog w) A g R s') (fun e s'=>R (.error e) s') s:=by
 apply AA
 refine AA (A0 D rfl (AD (AA (Bp D rfl ?_))));have U:=A4 (Obj.mapSeq (fun _=>(#[]:Array Value))) D rfl
 have F:∀b o,b≠S->s.heap.get? b=some o->(s.heap.update S (Obj.mapSeq (fun _=>(#[]:Array Value)))).get? b=some o :=
  fun b o B e=>(BI _ _ (Ne.symm B)).trans e
 exact AA (Dg (Jn (s:={ s with heap:=s.heap.update S (Obj.mapSeq (fun _=>(#[]:Array Value))) }) hh ae items S .none _ J L (ab.at fun o e=>F I o (Ne.symm J) e) (hl.at fun o e=>F l o (Ne.symm L) e) U (fun h' G q g hk O Y=>N h' G q g (fun b o B Z e=>hk b o B Z (F b o B e)) O Y) hn))
def sT(hh:A.handled=none)(ae:l≠I)items(J:s.heap.IsRevIter I l ((items.size:Int) - 1))(L:s.heap.IsList l items)(S:∀h' D g q,(∀b o,b≠I->s.heap.get? b=some o->h'.get? b=some o)->h'.get? s.heap.objs.size=some { cls:=.type "list",dict:=none,data:=.seq g q,slots:=#[] } ->
   ItemsOf (fun i v=>items[items.size - 1 - i]?=some v) g items.size->Q (.ref s.heap.objs.size) { s with heap:=h',toks:=D })(hn:items.size<=sizeLine):
  wpAny (model prog w) A (call (.type "list") [.ref I]) Q E s:=by
 have O:=let ⟨o,B,_⟩:=J;AH B
 have ab:=let ⟨o,B,_⟩:=L;AH B
 refine Dh (Q₁:=fun M N=>M=.ref s.heap.objs.size/\N={ s with heap:=s.heap.push { cls:=.type "list",data:=.seq #[] } }) F.called_list (F.typeCall_list_1 _) F.entry_list_init
  (code_list_new _ ⟨rfl,rfl⟩) fun M N ag=>?_
 obtain⟨rfl,rfl⟩:=ag;have G:(s.heap.push { cls:=.type "list",data:=.seq #[] }).get? s.heap.objs.size=some { cls:=.type "list",data:=.seq #[] }:=AK _ rfl;refine⟨⟨_,G,rfl⟩,F.args_list_init_2 _ _,xT (A:=A.in1) hh ae items _ (fun e=>A8 _ (e▸O)) (fun e=>A8 _ (e▸ab)) (J.at fun o e=>AE _ e) (L.at fun o e=>AE _ e) G (fun h' D g q hk U Y=>?_) hn⟩
 exact⟨rfl,S h' D g q (fun b o Z e=>hk b o (AY (AH e)) Z (AE _ e)) U Y⟩
end
end PySem
namespace L2
open PySem PySem.W PyProof.Rows
noncomputable def drop(H:Hp)(a:Addr):Hp:=fun b=>if b=a then none else H b
theorem dE: drop H a a=none :=by grind[drop]
theorem xC(h:b≠a):drop H a b=H b :=by grind[drop]
def GJ(h:H a=none):drop (upd H a o) a=H :=by grind[dE,xC,uQ]
section
variable {X:Cx}{pins:List (Addr×Obj)}{σ:St}{H:Hp}{s:Shared}{h':Heap}
def Inv.gone{l:Addr}(I:Inv X pins σ H s)(B:H it=some (.ext Y))(h0:X.s₀.heap.objs.size<=it)(k:∀b o,b≠it->s.heap.get? b=some o->h'.get? b=some o)(F:s.heap.objs.size<=l)(S:ObjOk X.prog X.w (upd (drop H it) l o) h' l o):Inv X pins σ (upd (drop H it) l o) { s with heap:=h',toks:=t' }:=by
 have U:∀{b u},H b=some u->b≠l:=fun e z=>by rw[z,(I.hok.fresh F)] at e;cases e
 have O:∀{b u},H b=some u->(∀G,u≠.ext G)->b≠it:=fun e h z=>by rw[z,B] at e;exact h Y (Al e).symm
 have D:∀{b u},H b=some u->(∀G,u≠.ext G)->upd (drop H it) l o b=some u:=fun e h=>by rwa [uQ (U e),xC (O e h)]
 refine I.step (g':=s.gens) (d':=s.drawn) (ch:=[it]) (fun b Z=>?_) (fun b o _ _ g e _=>k b o (fun z=>g (by simp[z])) e) (fun b o _ _ g e _=>⟨o.slots,k b o (fun z=>g (by simp[z])) e⟩) (fun b u g e n=>?_)
  (fun b o g e=>⟨o,k b o (fun z=>g (by simp[z])) e⟩) (fun b xs e=>D e fun _ z=>nomatch z) (fun b o u e=>D e fun _ z=>nomatch z) (fun b ps e=>⟨#[],by rw[D e fun _ z=>nomatch z];simp⟩) (fun m M=>?_) (fun b u e=>?_) I.bare
 .have e:b=it :=by grind
  subst e;refine⟨.inr h0,fun z=>?_,fun x c e z=>?_,fun p F z=>?_⟩
  .rw [z,I.free] at B;cases B
  .have:=I.freeC x c e;rw[z,B] at this;cases this
  .have:=(I.pin p F).2.1;rw[z,B] at this;cases this
 .rw [uQ (AY (AZ (AH e) F)),xC (fun z=>g (by simp[z]))];exact n
 .exact Jo M fun o es ep N r=>⟨o,es,ep,k _ o (fun z=>by have:=I.free;rw[z,B] at this;cases this) N,r⟩
 .by_cases L:b=l
  .subst L;rw[mQ] at e;cases e;exact S
  .rw [uQ L] at e
   by_cases J:b=it
   .rw [J,dE] at e;cases e
   .rw [xC J] at e
    refine(I.hok b u e).stay (fun c v g q=>k c v ?_ q) (fun c q=>D q fun _ z=>nomatch z) fun c xs q=>D q fun _ z=>nomatch z
    rcases g with z | z
    .rwa [z]
    .lia
end
section
variable {X:Cx}
abbrev Hf(z:Nat)(it p:Addr)(n:Nat):Heap->Prop:=fun h=>z<=it/\h.IsRevIter it p ((n:Int) - 1)
def nT:CallR X (.type "reversed") (fun xs H Q=>∃p ys,xs=[.ref p]/\H p=some (.lst ys)/\∀it,H it=none->Q (.ref it) (upd H it (.ext (Hf X.s₀.heap.objs.size it p ys.length)))):=by
 intro pins s σ H xs L Q I r h;obtain⟨p,ys,rfl,B,q⟩:=h;obtain⟨u,rfl,rfl⟩:=zB r;refine jJ (I.list (SqL.of B)) fun J F D G=>call_reversed_list D.isList ⟨.ref s.heap.objs.size,_,I.laid (t':=s.toks) (fun b o e=>AE _ e) (AI _) ?_,rfl,q _ (I.hok.fresh (AI _))⟩;refine⟨⟨I.sz,_,AK _ rfl,rfl,by simp[revObj,F.length]⟩,⟨_,AK _ rfl⟩,?_⟩
 rintro h1 h2 ⟨z,g⟩ e;exact⟨z,g.at e⟩
def WM(r:Vals ys q):Vals ys.reverse q.reverse:=by
 induction r with
 |nil=>exact .nil
 |cons h _ g=>rw[DI,DI];exact g.append (.cons h .nil)
def Qr(N:X.calm=true):CallR X (.type "list") (fun xs H Q=>∃it p ys,xs=[.ref it]/\H it=some (.ext (Hf X.s₀.heap.objs.size it p ys.length))/\H p=some (.lst ys)/\∀l,H l=none->Q (.ref l) (upd (drop H it) l (.lst ys.reverse))):=by
 intro pins s σ H xs ah Q I r h;obtain⟨it,p,ys,rfl,hi,B,q⟩:=h;obtain⟨u,rfl,rfl⟩:=zB r;obtain⟨g,G,Y,S⟩:=(I.list (SqL.of B));have ae:=G.length;obtain⟨⟨h0,ag⟩,_,_⟩:=(I.hok it _ hi);have O:p≠it:=fun z=>by rw[z,hi] at B;cases B
 refine sT (I.ok.hd N) O g.toArray (by grind) Y.isList (fun h' Z D J U e F=>?_) (by grind)
 have M:D=g.reverse.toArray:=by
  apply Array.ext
  .rw [F.1,Am,Am,List.length_reverse]
  .intro i h1 h2
   have:=F.2 i D[i] (An h1);rw[Am,Cq] at this;have ab:i < g.length :=by simp_all
   rw[AN (by omega)] at this;have L:g.reverse.toArray[i]=g[g.length - 1 - i]:=by simp
   exact L▸(Al this).symm
 subst M;exact⟨.ref s.heap.objs.size,_,I.gone (t':=Z) hi h0 U (AI _) (show ObjOk X.prog X.w _ h' _ (.lst ys.reverse) from⟨by rw[List.length_reverse];exact S,g.reverse,J,WM G,e⟩),rfl,q _ (I.hok.fresh (AI _))⟩
end
end L2
namespace CL
open PySem PySem.Spec L2 PySem.W
open PyProof.Rows hiding St
section
variable {X:Cx}{a b c e o i f value:Expr}{es:List Expr}{pos pos':Pos}
@[irreducible] def Dy:PV->CH->K1->Prop:=fun x C Q=>match x with
 |.ref a=>match C a with
  |some (.lst xs)=>∀p,C p=none->Q (.ref p) (pQ C p (.lst xs.reverse))
  |_=>False
 |_=>False
def Uu(g:d8):d8:=fun q C Q=>g q C fun x C1=>Dy x C1 Q
def Jz(L:X.calm=true)(N:Gl X "list")(O:Gl X "reversed")(S:X.mg "list" = none)(U:X.mg "reversed" = none)(M:CE X e G)(hs:kX e=true:=by rfl):
  CE X (.Call (.Name "list" p) [.Call (.Name "reversed" p2) [e] [] ab] [] pos) (Uu G):=⟨JE.weak (kU (Qr L) N S rfl (qF (kU nT O U rfl (qF M.h ⟨yR⟩ hs) (by decide) rfl hs rfl) ⟨yR⟩)) fun σ H Q zz=>wX zz fun ρ C R s h q f=>
  ⟨ρ,C,_,s,h,q,fun x H1 px C1 B rx h1 J=>by
   delta Dy at B
   split at B
   .split at B
    .next xs I =>
     obtain⟨vs,D,Z⟩:=(h1 _ _ I);cases rx;refine⟨_,vs,rfl,D,fun it F=>⟨it,_,vs,rfl,mQ,?_,fun l g=>?_⟩⟩
     .rw [uQ (fun z=>by rw[z,F] at D;cases D)];exact D
     .have Y:l≠it:=fun z=>by rw[z,mQ] at g;cases g
      rw[uQ Y] at g;rw[GJ F];exact f _ _ _ _ (B l (h1.fresh g)) (.ref l) (h1.lay g ⟨_,mQ,Z.reverse.aU (iu.new g _)⟩) (J.trans (Fw.lay g _ _))
    .exact B.elim
   .exact B.elim⟩⟩
def NZ(n:Nat):List PV:=(List.range n).map fun k=>PV.int (k:Nat)
@[irreducible] def cRng:PV->CH->K1->Prop:=fun x C Q=>match x with
 |.int j=>0<=j/\j<=100000/\∀p,C p=none->Q (.ref p) (pQ C p (.lst (NZ j.toNat)))
 |_=>False
@[irreducible] def Dz:PV->List PV->CH->K1->Prop:=fun x ts C Q=>match x,ts with
 |.ref a,[]=>match C a with
  |some (.lst xs)=>match xs[xs.length - 1]? with
   |some y=>Q y (pQ C a (.lst xs.dropLast))
   |none=>False
  |_=>False
 |_,_=>False
def K9{K}:su K rPop Dz:=fun x M xs ps H C Q R L rs h q f=>by
 delta Dz at q
 split at q
 .split at q
  .next ys D =>
   split at q
   .next y F =>
    obtain⟨vs,g,B⟩:=(h _ _ D);cases rs;cases L;obtain⟨v,I,J⟩:=(B.get F)
    have G:dg K H vs.dropLast ys.dropLast:=by
     rw[List.dropLast_eq_take,List.dropLast_eq_take,B.len];exact B.take _
    exact⟨_,vs,v,rfl,rfl,g,by exact B.len▸I,f _ _ _ _ q (J.aU (iu.mut g rfl _)) (h.put g rfl ⟨_,mQ,G.aU (iu.mut g rfl _)⟩) (Fw.put D _ _)⟩
   .exact q.elim
  .exact q.elim
 .exact q.elim
@[irreducible] def Dt(c:d8):j6:=fun g C Q=>c g C fun x C1=>match x with
 |.ref a=>match C1 a with
  |some (.lst xs)=>Q (!xs.isEmpty) C1
  |_=>False
 |_=>False
def GT{c}(h:CE X e c)(G:qH e=true:=by rfl):CT X e (Dt c):=⟨JT.weak ⟨Yc h.h.h (jR G)⟩ fun σ H Q L=>wX L fun M C R s h q f=> by
 delta Dt at q
 exact⟨M,C,_,s,h,q,fun x H1 N C1 g J h1 F=>by
  split at g
  .split at g
   .next xs B =>
    refine sQ (h1 _ _ B) fun vs D I=>?_;cases J;refine⟨!xs.isEmpty,.inl ⟨vs,SqL.of D,?_⟩,f _ H1 _ C1 g rfl h1 F⟩;have:=I.len;cases vs<;>cases xs<;>simp_all
   .exact g.elim
  .exact g.elim⟩⟩
def Uq(c:Addr)(m:Str)(G:GC)(g:d8):d8:=fun q C Q=>g q C fun x C1=>vE c m x C1/\G [x] C1 Q
def G9{c}(S:Cls X.K c)(U:UE X.K c m M)(F:FnOk X.prog X.w X.K X.mg X.base CX k M fd ps (my X.K G))(Z:Room k X.A)(O:Binds X.K fd ps [])(hx:wW CX X E)(Y:CE X o D)(ht:eval (.Call (.Attribute o m apos) [] [] pos) X.env=(do
   let g <- eval o X.env
   standAt apos.atName
   let (f,first) <- holding [g] (getMethod g m pl)
   callWith pos f first (backTo pos (starEach [] X.env)) (backToKw pos (keywordEach [] X.env))):=by rfl):
  CE X (.Call (.Attribute o m apos) [] [] pos) (Uq c m G D) :=
 ⟨JE.weak ⟨Yq Y.h.h S U F Z O .nil hx ht⟩ fun σ H Q zz=>wX zz fun ρ C R s h q f=> ⟨ρ,C,_,s,h,q,fun x H1 px C1 B rx h1 L=>by
  obtain⟨a,dx,N,rfl,rfl,I,lk⟩:=XH B.1 rx h1
  exact⟨a,dx,N,rfl,I,lk,⟨[.ref a],C1,R,.cons (.ref a) .nil,h1,B.2,fun v H' t C' q' r' h' J=>f v H' t C' q' r' h' (L.trans J)⟩⟩⟩⟩
def IV(m:C p=some (.lst xs))(q:∀g,C g=none->Q (.ref g) (pQ C g (.lst xs.reverse))):Dy (.ref p) C Q :=by simp_all[Dy]
def Fx(m:C p=some (.lst xs))(e:xs[xs.length - 1]?=some y)(q:Q y (pQ C p (.lst xs.dropLast))):Dz (.ref p) [] C Q :=by simp_all[Dz]
def Ez{c}(h:c g C fun x C1=>∃a xs,x=.ref a/\C1 a=some (.lst xs)/\Q (!xs.isEmpty) C1)(F:∀(B D:K1),(∀v C1,B v C1->D v C1)->c g C B->c g C D):Dt c g C Q:=by
 delta Dt
 refine F _ _ ?_ h;rintro v C1 ⟨b,xs,rfl,m,q⟩;dsimp only
 rwa [m]
end
structure Row where
 k:Option Str
 nm:Str
 q:Str
 st:Stmt
 ps:List Str
 N:List Str
def sy(p:Row->Prop):List Row->Prop
 |[]=>True
 |r::rs=>p r/\sy p rs
def FH(K:Dl)(r:Row):Prop:=match r with
 |⟨none,B,q,st,_,_⟩=>∃(f:Addr)(J:Value)(L:Option Addr)(I G M:Value)(D:Option Addr)(g F:Value)(N:Array (Option Value)),
  PySem.W.nsIn K mainGlobals B=some (some (.ref f))/\K.lookup f=some ⟨J,L,.func (PySem.W.fnOf B q (kG st) (xV st) (yX st) .none I G M D g F),N⟩/\PySem.W.codeIn K g q=true/\PySem.W.keepIn K (.ref f)=true
 |⟨some c,B,q,st,_,_⟩=>∃(cc f:Addr)(J:Value)(L:Option Addr)(I G M:Value)(D:Option Addr)(g F:Value)(N:Array (Option Value)),
  PySem.W.nsIn K mainGlobals c=some (some (.ref cc))/\PySem.W.findIn K (.ref cc) B=some (some (.ref f))/\K.lookup f=some ⟨J,L,.func (PySem.W.fnOf B q (kG st) (xV st) (yX st) .none I G M D g F),N⟩/\PySem.W.codeIn K g q=true/\PySem.W.keepIn K (.ref f)=true/\PySem.W.isFn K (.ref f)=true
def RB(r:Row):Prop:=FnScope r.N r.ps (yX r.st)/\∀(G F I:Value)(q:Option Addr)(B D:Value)(g:List Value),g.length=r.ps.length->bindArgs (PySem.W.fnOf r.nm r.q (kG r.st) (xV r.st) (yX r.st) .none G F I q B D) ⟨g,[]⟩=pure (r.ps.zip g)
structure FI(K:Dl)(mg:Str->Option Value)(k:Option Str)(nm q:Str)(st:Stmt)(ps N:List Str)(f:Addr)(d:FuncData):Prop where
 m:k=none->mg nm=some (.ref f)
 M:∀c ca,k=some c->mg c=some (.ref ca)->PySem.W.findIn K (.ref ca) nm=some (some (.ref f))/\PySem.W.isFn K (.ref f)=true
 F:Fun K nm q st f d
 s:FnScope N ps (yX st)
 b:Binds K d ps []
section
variable {P:List Value->Prop}
def Ze(h:∀a(g:List Value),g.length=n->P (a::g))g(e:g.length=n+1):P g:=by
 cases g with
 |nil=>cases e
 |cons a g=>exact h a g (A1 e)
def RK(h:P [])g(e:g.length=0):P g :=by grind
def args1(h:∀a,P [a]):∀g,g.length=1->P g:=Ze fun a=>RK (h a)
def args2(h:∀a b,P [a,b]):∀g,g.length=2->P g:=Ze fun a=>args1 (h a)
def Hl(h:∀a b c,P [a,b,c]):∀g,g.length=3->P g:=Ze fun a=>args2 (h a)
def Hk(h:∀a b c d,P [a,b,c,d]):∀g,g.length=4->P g:=Ze fun a=>Hl (h a)
def RG(h:∀a b c d e,P [a,b,c,d,e]):∀g,g.length=5->P g:=Ze fun a=>Hk (h a)
end
def LK{K}(X:K.In h)(G:h.Ns mainGlobals mg)(x:FH K r)(y:RB r):∃f d,FI K mg r.k r.nm r.q r.st r.ps r.N f d:=by
 obtain⟨k,ag,q,st,ps,N⟩:=r;obtain⟨D,F⟩:=y
 cases k with
 |none =>
  obtain⟨f,Y,Z,U,M,ab,I,J,L,sl,h1,h2,g,B⟩:=x;exact⟨f,_,⟨fun _=>BM X G h1,fun _ _ e=>(nomatch e),aI h2 g B,D,Fun.binds (aI h2 g B) F⟩⟩
 |some c =>
  obtain⟨cc,f,Y,Z,U,M,ab,I,J,L,sl,h0,h1,h2,g,B,S⟩:=x;refine⟨f,_,⟨fun e=>(nomatch e),fun c' ae e O=>?_,aI h2 g B,D,Fun.binds (aI h2 g B) F⟩⟩;cases e;have:=(BM X G h0).symm.trans O;cases this;exact⟨h1,S⟩
theorem q9{K}(X:K.In h)(G:h.Ns mainGlobals mg):∀{t},sy (FH K) t->sy RB t->∃(f:Nat->Addr)(d:Nat->FuncData),∀i{k}{g q}{st}{ps N},t[i]?=some ⟨k,g,q,st,ps,N⟩->FI K mg k g q st ps N (f i) (d i)
 |[],_,_=>⟨fun _=>mainGlobals,fun _=>PySem.W.fnOf "" "" (kG (.Pass ⟨0,0,0,0⟩)) [] (yX (.Pass ⟨0,0,0,0⟩)) .none .none .none .none none .none .none,fun i _ _ _ _ _ _ e=>by simp at e⟩
 |r::t,x,y=>by
  refine PN (LK X G x.1 y.1) fun D B h0=>PN (q9 X G x.2 y.2) fun f d h=>⟨fun i=>match i with | 0=>D | i+1=>f i,fun i=>match i with | 0=>B | i+1=>d i,fun i=>?_⟩
  cases i with
  |zero=>intro k g q st ps N e;cases e;exact h0
  |succ i=>intro k g q st ps N e;exact h i e
section
variable {P:Program}{w:World}{K:Dl}{mg:Str->Option Value}{base:Heap}
theorem FI.ok{st}(F:FI K mg J x q st ps N f fd)(D:∀ts C R,G ts C R->ts.length=ps.length)(B:∀g A I s H E,Room k (A.deeper (envOfC q (yX st) s.heap.objs.size f g)) ->
   ∃c,CB (Qa CX0 P w K mg base N q (yX st) f g A I s H E).nox (xV st) c/\∀ts C R,G ts C R->c (.go R) (eP N ts) C):FnOk P w K mg base CX0 (k+1) f fd ps (my K G):=Fun.okC F.F F.s D B
theorem FI.o{st}{c}(F:FI K mg J x q st ps N f fd)(B:∀{g A I s H E}(_:Room k (A.deeper (envOfC q (yX st) s.heap.objs.size f g))),CB (Qa CX0 P w K mg base N q (yX st) f g A I s H E).nox (xV st) c)(h:∀ts C R,G ts C R->c (.go R) (eP N ts) C)(D:∀ts C R,G ts C R->ts.length=ps.length:=by intro _ _ _ h;cases h;subst_vars;rfl):FnOk P w K mg base CX0 (k+1) f fd ps (my K G):=Fun.okC F.F F.s D fun _ _ _ _ _ _ r=>⟨c,B r,h⟩
end
section
variable {X:Cx}{e o:Expr}{es:List Expr}{pos:Pos}
def cf{st}{p}(T:FI X.K X.mg none x q st ps N f fd)(F:FnOk X.prog X.w X.K X.mg X.base CX0 k f fd ps (my X.K G))(L:Room k X.A)(B:CA X (e::es) g)(J:Gl X x:=by rfl)(I:(x==("__debug__" : Str))=false:=by decide)(hs:kX e=true:=by rfl)(D:es.all kX=true:=by rfl):CE X (.Call (.Name x p) (e::es) [] pos) (aE G g) :=
 Dm F L J (T.m rfl) T.F.kp T.b lO B I hs D
def cm{st}{apos}{pl}(O:Cls X.K c)(T:FI X.K X.mg (some I) m q st ps N L fd)(g:X.mg I=some (.ref c))(F:FnOk X.prog X.w X.K X.mg X.base CX0 k L fd ps (my X.K G))(Y:Room k X.A)(S:CE X o J)(M:CA X (e::es) D)(Z:starEach (e::es) X.env=(false,eval e X.env)::starEach es X.env:=by rfl)(U:(backTo pos (starEach es X.env)).any (·.1)=false:=by rfl)(ht:eval (.Call (.Attribute o m apos) (e::es) [] pos) X.env=(do
   let B <- eval o X.env
   standAt apos.atName
   let (f,first) <- holding [B] (getMethod B m pl)
   callWith pos f first (backTo pos (starEach (e::es) X.env)) (backToKw pos (keywordEach [] X.env))):=by rfl):
  CE X (.Call (.Attribute o m apos) (e::es) [] pos) (Hi c m G J D) :=
 zy O ⟨(T.M _ _ rfl g).1,(T.M _ _ rfl g).2,T.F.kp⟩ F Y T.b lO S M Z U ht
def R4{st}(L:Cls X.K c)(T:FI X.K X.mg (some D) m q st ps N J fd)(g:X.mg D=some (.ref c))(F:FnOk X.prog X.w X.K X.mg X.base CX0 k J fd ps (my X.K G))(O:Room k X.A)(M:CE X o I)(S:eval (.Call (.Attribute o m apos) [] [] pos) X.env=(do
   let B <- eval o X.env
   standAt apos.atName
   let (f,first) <- holding [B] (getMethod B m U)
   callWith pos f first (backTo pos (starEach [] X.env)) (backToKw pos (keywordEach [] X.env))):=by rfl):
  CE X (.Call (.Attribute o m apos) [] [] pos) (Uq c m G I) :=
 G9 L ⟨(T.M _ _ rfl g).1,(T.M _ _ rfl g).2,T.F.kp⟩ F O T.b lO M S
def cx(B:CE X a g)(D:CE X b q)(hs:QJ b:=by exact fun _ _=>rfl):CE X (.Subscript a b pos) (o6 qt g q):=Rc yf Mp B D hs
def c7(q:CE X e g)(hs:kX e=true:=by rfl):CA X [e] (uU g Qu):=qQ q zZ hs
def fj i{pos'}(q:X.N.Nodup)(B:CE X e g)(hi:X.N[i]?=some x:=by rfl)(F:Loc X.env.scope x:=by first | exact Or.inl rfl | exact Or.inr rfl)(hs:swapsWith e (some (.Name x pos')) pos.line X.env=pure false:=by rfl)(D:X.fn x=true\/X.env.scope.names.lookup x=some .local:=by first | exact .inl rfl | exact .inr rfl | assumption):
  CS X (.Assign [.Name x pos'] e pos) (Ww i g):=Mm q hi F B hs D
def jn i(g:X.N.Nodup)(hi:X.N[i]?=some x:=by rfl)(B:Loc X.env.scope x:=by first | exact Or.inl rfl | exact Or.inr rfl)(q:X.fn x=true\/X.env.scope.names.lookup x=some .local:=by first | exact .inl rfl | exact .inr rfl | assumption):CG X (.Name x pos) (GR i):=zu g hi B q
def ou{p}(D:X.mg "len" = none)(q:CE X e g)(B:Gl X "len":=by rfl)(hs:kX e=true:=by rfl):CE X (.Call (.Name "len" p) [e] [] pos) (aE sN (uU g Qu)):=lQ Wu Dq B D rfl (c7 q hs) (hs:=hs)
def qb{p}(D:X.mg "tuple" = none)(q:CE X e g)(B:Gl X "tuple":=by rfl)(hs:kX e=true:=by rfl):CE X (.Call (.Name "tuple" p) [e] [] pos) (aE bS (uU g Qu)):=lJ rT Do B D rfl (c7 q hs) (hs:=hs)
def cap{apos cpos}(I:CE X o q)(B:CE X e g)(D:attributeBase o "append" X.env (eval o X.env)=eval o X.env:=by rfl)(F:((backTo cpos (starEach [e] X.env)).all (fun x=>!x.1)&&(backToKw cpos (keywordEach [] X.env)).all (fun x=>x.1.isSome)
   && decide ([e].length+([]:List Keyword).length+(if ([]:List Keyword).isEmpty then 0 else 1) < 30))=true:=by rfl)(G:(apos.endLine==cpos.line)=true:=by rfl)(hs:kX e=true:=by rfl):CE X (.Call (.Attribute o "append" apos) [e] [] cpos) (cBM fP q (uU g Qu)) :=
 Uk Bw PySem.F.slot_list_append PySem.F.type_list_append tO Jv I (c7 B hs) D F G hs
def ct2(I:OpR X (compareOp op) r)(J:j5 X.K r B)(D:CE X a g)(F:CE X b q)(G:behindInMarks op b=false:=by exact fG _):CT X (.Compare a [op] [b] pos) (oE (o6 B g q)):=Qb I J D F G
end
end CL
namespace L2
open PySem
theorem FnScope.c(S:FnScope N ps sc)(h:N.contains x=false):(x::N).Nodup:=by
 refine BA.2 ⟨fun m=>?_,S.nd⟩;rw[List.contains_iff_mem.2 m] at h;cases h
theorem FnScope.k(S:FnScope N ps sc)(q:X.N=N)(D:X.env.scope=sc)(B:X.env.cells=cellsFrom L sc.names [])(h:kS xs F N sc=true):∃g,vV X xs F g:=xM q D B h
end L2
namespace L2
open PySem PySem.W PyProof.Rows
section
variable {X:Cx}
def Fl:V->List V->Hp->VK->Prop:=fun x vs H Q=>∃a y o,x=.ref a/\vs=[y]/\JQ H a y o/\Q (o.getD .non) H
def w6(D:X.A.units+2 < cLine):MtR X "dict.get" Fl:=by
 intro pins s σ H x vs v M Q I L J h;obtain⟨a,y,o,rfl,rfl,g,q⟩:=h;cases L;obtain⟨u,rfl,G⟩:=J.one;exact Ii D I g G fun N s' B F=>⟨_,H,B,F,q⟩
def UB(X:Cx)(T:String)(x:V)(H:Hp):Prop:=∀(pins:List (Addr×Obj))(σ:St)(s:Shared)(v:Value),Inv X pins σ H s->RelV x v->s.TypeIs v T/\∀a,v=.ref a->∃g,s.heap.get? a=some g/\g.dict=none
def PX{kvs:List (iK×V)}(e:H a=some (.dP kvs)):UB X "dict" (.ref a) H:=by
 intro pins σ s v I r;cases r;refine⟨KW I e,fun b g=>?_⟩;cases g;obtain⟨_,_,_,_,o,_,_,q,B,_⟩:=(I.hok a _ e);exact⟨o,q,B.2.1⟩
variable {o e:Expr}{es:List Expr}{to:TE}{t:TA}{name:Str}{apos cpos:Pos}{T id:String}{r:V->List V->Hp->VK->Prop}
def Yy(U:PlainAttrs T)(ag:Slot T name id)(S:typeOf (.builtin id)=pure (.type "method_descriptor"))(N:MtR X id r)(O:PE X o to)(G:PA X (e::es) t)(J:attributeBase o name X.env (eval o X.env)=eval o X.env)(L:((backTo cpos (starEach (e::es) X.env)).all (fun x=>!x.1)&&(backToKw cpos (keywordEach [] X.env)).all (fun x=>x.1.isSome)
   && decide ((e::es).length+([]:List Keyword).length+(if ([]:List Keyword).isEmpty then 0 else 1) < 30))=true)(M:(apos.endLine==cpos.line)=true)(hs:starEach (e::es) X.env=(false,eval e X.env)::starEach es X.env)(ai:(backTo cpos (starEach es X.env)).any (·.1)=false):
  PE X (.Call (.Attribute o name apos) (e::es) [] cpos) (fun σ H Q=>to σ H fun x H1=>UB X T x H1/\t σ H1 fun xs H2=>r x xs H2 Q):=by
 intro pins s σ H Q I h;refine wpAny_Call_method_late J L M rfl (thn (O pins s σ H _ I h) fun v ab g=>mT g fun x H1 q D ty Y=> ?_);obtain⟨h1,h2⟩:=ty _ _ _ _ q D;refine⟨T,id,U,ag,S,h1,h2,?_⟩;have B:=G cpos pins ab σ H1 _ q Y;rw[hs] at B ⊢;exact Cm (by grind) (Dk (thn B fun ah ae g=>vZ g fun vs H2 F r2 Z=> N pins ae σ H2 x vs v ah Q F D r2 Z))
end
end L2
namespace CL
open PySem PySem.Spec L2 PySem.W
open PyProof.Rows hiding St
section
variable {X:Cx}{a b c e o i f value:Expr}{es:List Expr}{pos pos':Pos}
def OD(x:PV)(C:CH):Prop:=∃a kvs,x=.ref a/\C a=some (.dP kvs)
def ym(d:OD t C)(r:Rep X.K H x t)(h:dh X.K H C):UB X "dict" x H:=by
 obtain⟨a,kvs,rfl,e⟩:=d;cases r;exact sQ (h a _ e) fun vs g _=>PX g
def cBMQ(D:PV->List PV->CH->K1->Prop)(B:d8)(q:o7):d8:=fun g C Q=>B g C fun x C1=>OD x C1/\q g C1 fun xs C2=>D x xs C2 Q
def Mu{id}{apos cpos}(pa:PlainAttrs "dict")(ae:Slot "dict" name id)(ab:typeOf (.builtin id)=pure (.type "method_descriptor"))(Z:MtR X id r)(hr:su X.K r L)(ho:CE X o J)(N:CA X (e::es) I)(S:attributeBase o name X.env (eval o X.env)=eval o X.env:=by rfl)(U:((backTo cpos (starEach (e::es) X.env)).all (fun x=>!x.1)&&(backToKw cpos (keywordEach [] X.env)).all (fun x=>x.1.isSome)
   && decide ((e::es).length+([]:List Keyword).length+(if ([]:List Keyword).isEmpty then 0 else 1) < 30))=true:=by rfl)(Y:(apos.endLine==cpos.line)=true:=by rfl)(hs:kX e=true:=by rfl)(O:es.all kX=true:=by rfl):
  CE X (.Call (.Attribute o name apos) (e::es) [] cpos) (cBMQ L J I) :=
 ⟨JE.weak ⟨Yy pa ae ab Z ho.h.h N.h.h S U Y (iZ hs) (bW O)⟩ fun σ H Q zz=>wX zz fun G C R s h q f=>
 ⟨G,C,_,s,h,q,fun x H1 px C1 D F h1 g=>⟨ym D.1 F h1,G,C1,_,s.aU (g.aU h),h1,D.2,fun xs H2 ps C2 q2 rs h2 B=>
  hr x px xs ps H2 C2 Q R (F.aU (B.aU h1)) rs h2 q2 fun v H' t C' q' r' h' M=>f v H' t C' q' r' h' (g.trans (B.trans M))⟩⟩⟩
@[irreducible] def Vk:PV->List PV->CH->K1->Prop:=fun x ts C Q=>match x,ts with
 |.ref a,[y]=>match C a,gD y with
  |some (.dP kvs),some k=>Q ((aZ kvs k).getD .non) C
  |_,_=>False
 |_,_=>False
def G4{K}:su K Fl Vk:=fun x N xs ps H C Q R L rs h q f=>by
 delta Vk at q
 split at q
 .next a y =>
  split at q
  .next kvs k D F =>
   obtain⟨v,rfl,M⟩:=oX rs;cases L;obtain⟨vs,I,r⟩:=(h a _ D);obtain⟨b,rfl,G⟩:=dB M F;refine⟨a,.ref b,gW vs k,rfl,rfl,⟨vs,k,b,I,rfl,G,rfl⟩,?_⟩
   rcases FP.val r k with ⟨v,t',g,B,J⟩ | ⟨g,B⟩
   .rw [B] at q;exact g▸f _ H _ C q J h Fw.refl
   .rw [B] at q;exact g▸f _ H _ C q .non h Fw.refl
  .exact q.elim
 .exact q.elim
@[irreducible] def R9:PV->List PV->CH->K1->Prop:=fun x ts C Q=>match x,ts with
 |.ref a,[]=>match C a with
  |some (.dP kvs)=>Q .non (pQ C a (.dP []))
  |_=>False
 |_,_=>False
noncomputable def hK:Key->Int
 |.inl (some k)=>hashInt k
 |.inl none=>4238894112
 |.inr _=>0
def Oe(k:iK):Int:=reduceHash (Builtin.Tuple.tupleHashOf (k.map fun g=>reduceHash (Builtin.Tuple.tupleHashOf (g.map hK))))
def noT:Key->Bool
 |.inr _=>false
 |_=>true
@[irreducible] def cDictQ:GC:=fun ts C Q=>match ts with
 |[.ref a]=>match C a with
  |some (.dP kvs)=>(∀p∈kvs,p.1.all (fun g=>g.all noT)=true)/\(kvs.map fun p=>Oe p.1).Nodup/\∀p,C p=none->Q (.ref p) (pQ C p (.dP kvs))
  |_=>False
 |_=>False
@[irreducible] def cNeQ(d:Nat):j8:=fun x y C Q=>match x,y with
 |.ref a,.ref b=>match C a,C b with
  |some (.dP xs),some (.dP ys)=>xs=ys/\(∀p∈xs,Pl d p.2)/\Q (.bl false) C
  |_,_=>False
 |_,_=>False
noncomputable def Tc(g:List (List Str)):Nat->Nat->Bool:=fun i j=>HT.jm (g.getD i []) (g.getD j [])
def SM(g:List (List Str)):List (List Str):=(kJ (Tc g) (kas_sort g.length)).toList.map fun i=>g.getD i []
def S9(k:List Str):PV:=.tup (k.map PV.str)
noncomputable def Ov:List (List Key×PV)->Option (List (List Str))
 |[]=>some []
 | ([.inr x,.inr y],_)::r=>(Ov r).map ([x,y] :: ·)
 |_=>none
@[irreducible] def Rh:GC:=fun ts C Q=>match ts with
 |[.ref a]=>match C a with
  |some (.dT kvs)=>match Ov kvs with
   |some g=>g.length < 64/\∀p,C p=none->Q (.ref p) (pQ C p (.lst ((SM g).map S9)))
   |none=>False
  |_=>False
 |_=>False
@[irreducible] def cIsiT:GC:=fun ts C Q=>match ts with
 |[.ref a,.ty n]=>match C a with
  |some (.dT _)=>n = "dict"/\Q (.bl true) C
  |_=>False
 |_=>False
def Ly{a}{kvs:List (iK×PV)}(m:C a=some (.dP kvs))(e:gD y=some k)(q:Q ((aZ kvs k).getD .non) C):Vk (.ref a) [y] C Q:=by
 delta Vk;dsimp only;rwa [m,e]
end
section
variable {X:Cx}{e o:Expr}{es:List Expr}
@[irreducible] def cJoin:PV->List PV->CH->K1->Prop:=fun x ts C Q=>match x,ts with
 |.str g,[.ref a]=>match C a with
  |some (.lst xs)=>∃zs:List Str,xs=zs.map PV.str/\(zs.map (·.length)).sum+zs.length * g.length<=16777216/\Q (.str (Str.join g zs)) C
  |_=>False
 |_,_=>False
def txI(i:Int):Str:=toString i
@[irreducible] def cStrI:GC:=fun ts C Q=>match ts with
 |[.int i]=>i.natAbs<=1000000000000/\Q (.str (txI i)) C
 |_=>False
end
end CL
namespace TB
def step(M i:Nat):Nat:=(i * 5+1) % M
end TB
namespace TB
open PySem SetTable
structure TOk(t:SetTable)(k:Nat):Prop where
 mask:t.mask+1=2 ^ k
 dum:t.dummies = #[]
 few:t.place.size<=t.mask
end TB
namespace PySem
open Sem (wp)
open TB
section
variable {prog:Program}{w:World}{K:Type}[DecidableEq K]{knd:KeyKind prog w K}
variable (knd)
noncomputable def Tz(x:List (List K)×Addr):Int×Value:=(mW knd x.1,.ref x.2)
structure PSet(h:Heap)(a:Addr)(xs:List (List (List K)×Addr))(o:Obj)(es:Array (Int×Value))(ep:Nat)(t:SetTable)(k:Nat):Prop where
 at':h.get? a=some o
 ex:o.ExactSet
 dat:o.data=.set es ep t
 tok:TOk t k
 size:t.place.size=es.size
 ents:es.toList=xs.map (Tz knd)
 keys:∀x∈xs,di knd h x.1 x.2
 big:2<=t.mask
variable {knd}{A:Around}{E:Value->Shared->Prop}{s:Shared}{a:Addr}{xs:List (List (List K)×Addr)}{o:Obj}{es:Array (Int×Value)}{ep:Nat}{t:SetTable}{k:Nat}
end
end PySem
namespace CL
open PySem PySem.Spec L2 PySem.W
open PyProof.Rows hiding St
section
variable {X:Cx}{e:Expr}{pos:Pos}
noncomputable def oA:List PV->Option (List iK)
 |[]=>some []
 |t::r=>match gD t,oA r with
  |some k,some g=>some (k::g)
  |_,_=>none
@[irreducible] def cLenSR:PV->CH->K1->Prop:=fun x C Q=>match x with
 |.ref a=>match C a with
  |some (.lst xs)=>∃g,oA xs=some g/\g.Nodup/\g.length<=9900/\Q (.int g.length) C
  |_=>False
 |_=>False
@[irreducible] def cPNin:j8:=fun y x C Q=>match x with
 |.ref a=>match C a,gD y with
  |some (.dP kvs),some k=>Q (.bl (!(aZ kvs k).isSome)) C
  |_,_=>False
 |_=>False
@[irreducible] def cInE:j8:=fun x y C Q=>match x,y with
 |.tup [],.ref a=>match C a with
  |some (.lst xs)=>(∀t∈xs,∃u g,t=.tup (u::g))/\Q (.bl false) C
  |_=>False
 |_,_=>False
@[irreducible] def cNeU(d:Nat):j8:=fun x y C Q=>match x,y with
 |.tup xs,.tup ys=>xs=ys/\(∀t∈xs,Pl d t)/\Q (.bl false) C
 |_,_=>False
end
@[irreducible] def cLenQ:GC:=fun ts C Q=>match ts with
 |[.ref a]=>match C a with
  |some (.dP kvs)=>Q (.int kvs.length) C
  |_=>False
 |_=>False
def oI{A:Around}{k:Nat}(g:Room k A):A.units+4 < cLine:=by have:=g.un;omega
section
variable {X:Cx}{e:Expr}
def mL(z:Str):List PV:=z.cps.toList.map fun c=>PV.str ⟨#[c]⟩
def Lp{K}z:Zj K H (Its z) (mL z) where
 go:=fun i H' l k=>by
  delta mL at l
  rwa [AC,Ay] at l
 yl:=fun i H' x q k y=>by
  obtain⟨rfl,c,g,rfl⟩:=y;refine⟨rfl,fun t e=>?_⟩;unfold mL at e;rw[Aj,Array.getElem?_toList,g] at e;cases e;exact .str _
 st:=fun H' k=>by
  delta mL
  rw[AC,Ay];exact AI _
def cItS(g:d8):jt->CH->(List PV->CH->Prop)->Prop:=fun q C Q=>g q C fun t C1=>match t with
 |.str z=>Q (mL z) C1
 |_=>False
def Mr(h:CE X e g):CI X tg e (O5 (gJ X.K (Rep X.K) g)) (cItS g):=⟨⟨Ih h.h.h⟩,fun σ H G C R Q s h q f=>⟨G,C,_,s,h,q,fun x H1 I C1 B F h1 D=>by
  cases F with
  |str z=>exact⟨z,rfl,f _ H1 (mL z) C1 B (Lp z) h1 D⟩
  |_=>exact B.elim⟩⟩
end
end CL
namespace PySem
section
variable {prog:Program}{w:World}{A:Around}{E:Value->Shared->Prop}{s:Shared}
def zV{items}(B:s.heap.IsTupleIter it t i)(L:s.heap.IsTuple t items)(M:items[i]?=some x)(D:∀h',h'.IsTupleIter it t (i+1)->Heap.SameBut it s.heap h'->Q x { s with heap:=h' }):
  wpAny (model prog w) A (Builtin.SmallTypes.nextOf (.ref it)) Q E s:=by
 obtain⟨o,q,G,g⟩:=(id B);obtain⟨O,J,_,N,I⟩:=L
 refine AA (BG B.typeIs CD
  (Av CD B.typeIs F.entry_tuple_iterator_next ?_ (F.args_tuple_iterator_next_1 _)))
 show wpAny _ _ (field (.ref it) 0 >>= _) _ _ s;refine AA (As q g rfl (AA (As q g rfl (AA (A0 J I ?_)))))
 simp only[Int.toNat_natCast,M]
 refine AA (DA q g (by simp) (AD ⟨x,rfl,AD (D _ ?_ (BU ..))⟩))
 exact⟨_,A4 _ q (Obj.isFreed_of_fields (Obj.data_mapFields g _)),(Obj.cls_mapFields ..).trans G,by
  rw[Obj.data_mapFields g];simp[rawInt]⟩
def nB{items}(D:A.handled=none)(q:s.heap.IsTupleIter it t i)(L:s.heap.IsTuple t items)(M:items[i]?=none)(G:∀h' e,Heap.ExtBut it s.heap h'->(∃o,h'.get? e=some o/\o.cls=.type "StopIteration")->E (.ref e) { s with heap:=h' }):
  wpAny (model prog w) A (Builtin.SmallTypes.nextOf (.ref it)) Q E s:=by
 obtain⟨o,B,N,g⟩:=(id q);obtain⟨S,J,_,O,I⟩:=L
 refine AA (BG q.typeIs CD
  (Av CD q.typeIs F.entry_tuple_iterator_next ?_ (F.args_tuple_iterator_next_1 _)))
 show wpAny _ _ (field (.ref it) 0 >>= _) _ _ s;refine AA (As B g rfl (AA (As B g rfl (AA (A0 J I ?_)))))
 simp only[Int.toNat_natCast,M]
 refine AA (Bv (AA (DA B g (by simp) ?_)))
 apply AA
 refine AA (Aw (AA (wpAny_of_eq (by first | rfl | (rfl)) ?_)) (by size_fits));refine Aw (AA (wpAny_handled ?_)) (by size_fits)
 first | rw[show A.in1.handled=none from D] | rw[D]
 refine AA (AD (wpAny_throw (G _ _ (((BU ..).extBut.push _).push _) ⟨_,AK _ rfl,rfl⟩)))
abbrev Zh(h:Heap)(z TI TO T:Addr)(f:Bool):Prop :=
 h.get? z=some { cls:=.type "zip",dict:=none,data:=.fields #[rawInt T,.bool f,.bool false,.ref TI,.ref TO],slots:=#[] }
structure RN(h:Heap)(z TI i1 i2 l1 l2:Addr)(xs ys:Array Value)(i:Nat):Prop where
 it:IsPair h TI (.ref i1) (.ref i2)
 a:h.IsTupleIter i1 l1 i
 b:h.IsTupleIter i2 l2 i
 x:h.IsTuple l1 xs
 y:h.IsTuple l2 ys
def zF{h h':Heap}(x:h.IsTuple t xs)(k:∀o,h.get? t=some o->h'.get? t=some o):h'.IsTuple t xs:=let ⟨o,e,r⟩:=x;⟨o,k o e,r⟩
def vU{h h':Heap}(x:h.IsTupleIter i t n)(k:∀o,h.get? i=some o->h'.get? i=some o):h'.IsTupleIter i t n:=let ⟨o,e,r⟩:=x;⟨o,k o e,r⟩
def WI{Q:Value->Shared->Prop}(D:ZipApart z q TO N O l1 l2)(M:IsZip s.heap z q TO .none)(a3:IsPair s.heap q (.ref N) (.ref O))(a4:IsPair s.heap TO a b)(h1:s.heap.IsTupleIter N l1 k1)(h2:s.heap.IsTupleIter O l2 k2)(a6:s.heap.IsTuple l1 xs)(a7:s.heap.IsTuple l2 ys)(hx:xs[k1]?=some x)(hy:ys[k2]?=some y)(hQ:∀h',Zh h' z q TO s.heap.objs.size false->h'.IsTupleIter N l1 (k1+1)->h'.IsTupleIter O l2 (k2+1)->IsPair h' s.heap.objs.size x y->h'.objs.size=s.heap.objs.size+1 ->
   (∀c o,c≠z->c≠TO->c≠N->c≠O->s.heap.get? c=some o->h'.get? c=some o)->Q (.ref s.heap.objs.size) { s with heap:=h' }):
  wpAny (model prog w) A (Builtin.«zip.__next__» ⟨[.ref z],[]⟩) (fun ax s'=>∃v,ax=.done (.ret v)/\Q v s') E s:=by
 show wpAny _ _ (field (.ref z) 2 >>= _) _ _ _;refine AA (As M rfl rfl (AA (As M rfl rfl (AA (A0 a3 rfl (AA ?_))))))
 delta Builtin.SmallTypes.ownedTupleIsFree
 refine AA (As M rfl rfl (AD ?_));refine AA (Bv (AA (As M rfl rfl (AA (A7 M (by simp) fun a9 ai F=>?_)))))
 replace ai:IsZip a9 z q TO .ellipsis:=ai
 apply AA
 refine AA (AA (wpAny_onRaise (AA (zV (h1.extBut F.extBut D.i1z) (a6.extBut F.extBut D.l1z) hx fun bc ay G=>AD ?_))));have ao:=G.extBut _ _ D.TOi1 (F.extBut _ _ D.TOz a4);refine AA (A0 ao rfl (AA (wpAny_updateSeq_pair ao fun ba ab I=>?_)))
 replace ab:IsPair ba TO x b:=ab
 refine AA (Dg (AD (AA (AA (wpAny_onRaise (AA (zV (((h2.extBut F.extBut D.i2z).extBut G.extBut D.i12.symm).extBut I.extBut D.TOi2.symm)
  (((a7.extBut F.extBut D.l2z).extBut G.extBut D.l2i1).extBut I.extBut D.l2TO) hy fun bf a0 J=>AD ?_)))))))
 have aq:=J.extBut _ _ D.TOi2 ab;refine AA (A0 aq rfl (AA (wpAny_updateSeq_pair aq fun g ae L=>?_)))
 replace ae:IsPair g TO x y:=ae
 refine AA (Dg (AD (AD (AA (A0 ae rfl (AA (Df ?_)))))));have hsz:g.objs.size=s.heap.objs.size:=by rw[L.1,J.1,I.1,G.1,F.1]
 have aw:=L.extBut _ _ D.TOz.symm (J.extBut _ _ D.i2z.symm (I.extBut _ _ D.TOz.symm (G.extBut _ _ D.i1z.symm ai)))
 have a5:∀c o,c≠z->c≠TO->c≠N->c≠O->s.heap.get? c=some o->g.get? c=some o:=fun c o B S Z c4 e=>
  L.extBut _ _ S (J.extBut _ _ c4 (I.extBut _ _ S (G.extBut _ _ Z (F.extBut _ _ B e))))
 have az:=((ay.extBut I.extBut D.TOi1.symm).extBut J.extBut D.i12).extBut L.extBut D.TOi1.symm;have av:=AH aw
 apply AA
 have a8:IsZip (g.push { cls:=.type "tuple",data:=.seq #[x,y] }) z q TO .ellipsis:=AE _ aw;refine AA (A7 a8 (by simp) fun bb aj ag=>?_)
 replace aj:IsZip bb z q TO (rawInt g.objs.size):=aj
 refine A7 aj (by simp) fun Y U ah=>?_
 replace U:Zh Y z q TO g.objs.size false:=U
 have ak:∀c o,c≠z->g.get? c=some o->Y.get? c=some o:=fun c o B e=>ah.extBut _ _ B (ag.extBut _ _ B (AE _ e));have ar:=ah.extBut _ _ (Aq av) (ag.extBut _ _ (Aq av) (AK _ rfl));have au:Y.objs.size=g.objs.size+1:=by rw[ah.1,ag.1,B1]
 rw[hsz] at U ar au;refine AD ⟨_,rfl,?_⟩;rw[hsz];exact hQ Y U (vU az fun o e=>ak _ o D.i1z e) (vU (a0.extBut L.extBut D.TOi2.symm) fun o e=>ak _ o D.i2z e) ar au fun c o B S Z c4 e=>ak c o B (a5 c o B S Z c4 e)
def JZ(g:Zh s.heap z B TO T f)(D:s.heap.get? T=some L):
  wpAny (model prog w) A (Builtin.SmallTypes.ownedTupleIsFree (.ref z)) (fun b I=>∃q,b=false/\I={ s with heap:=q }/\Zh q z B TO T true/\Heap.SameBut z s.heap q) E s:=by
 refine AA (As g rfl rfl (AA (W.kdx_alive D (AA (As g rfl rfl ?_)))))
 cases f with
 |true =>
  exact AD ⟨_,rfl,rfl,g,Heap.SameBut.refl _ _⟩
 |false =>
  refine AA (A7 g (by simp) fun J F G=>?_);exact AD ⟨_,rfl,rfl,F,G⟩
def WH{Q:Value->Shared->Prop}(D:ZipApart z I TO F G M N)(J:Zh s.heap z I TO T f)(hT:s.heap.get? T=some oT)(aq:T≠z)(ah:IsPair s.heap I (.ref F) (.ref G))(h1:s.heap.IsTupleIter F M S)(h2:s.heap.IsTupleIter G N U)(ai:s.heap.IsTuple M xs)(aj:s.heap.IsTuple N ys)(hx:xs[S]?=some x)(hy:ys[U]?=some y)(hQ:∀h',Zh h' z I TO T true->h'.IsTupleIter F M (S+1)->h'.IsTupleIter G N (U+1)->IsPair h' s.heap.objs.size x y->h'.objs.size=s.heap.objs.size+1 ->
   (∀c o,c≠z->c≠F->c≠G->s.heap.get? c=some o->h'.get? c=some o)->Q (.ref s.heap.objs.size) { s with heap:=h' }):
  wpAny (model prog w) A (Builtin.«zip.__next__» ⟨[.ref z],[]⟩) (fun ab s'=>∃v,ab=.done (.ret v)/\Q v s') E s:=by
 show wpAny _ _ (field (.ref z) 2 >>= _) _ _ _;refine AA (As J rfl rfl (AA (As J rfl rfl (AA (A0 ah rfl (AA (BQ (JZ J hT) ?_ fun _ _ h=>h)))))));rintro b au ⟨ar,rfl,rfl,ak,g⟩
 simp only[ if_false]
 rw[<- Bk];refine AA (AA (AA (Ao (AA (zV (h1.extBut g.extBut D.i1z) (ai.extBut g.extBut D.l1z) hx fun ao ae q=>AD (AD (AA (AA (Ao (AA (zV (s:={ s with heap:=ao }) ((h2.extBut g.extBut D.i2z).extBut q.extBut D.i12.symm) ((aj.extBut g.extBut D.l2z).extBut q.extBut D.l2i1) hy fun L ag B=>AD (AD (AD (AA (Df (hsz:=ie 2 rfl) ?_)))))))))))))))
 have hsz:L.objs.size=s.heap.objs.size:=by rw[B.1,q.1,g.1]
 refine AD ⟨_,rfl,?_⟩;have O:IsPair (L.push { cls:=.type "tuple",data:=.seq #[x,y] }) L.objs.size x y:=AK _ rfl;rw[hsz] at O ⊢
 exact hQ _ (AE _ (B.extBut _ _ D.i2z.symm (q.extBut _ _ D.i1z.symm ak))) (vU (ae.extBut B.extBut D.i12) fun o e=>AE _ e) (vU ag fun o e=>AE _ e) O (by simp_all)
  fun c o Y Z c3 e=>AE _ (B.extBut _ _ c3 (q.extBut _ _ Z (g.extBut _ _ Y e)))
def Ho(Y:A.handled=none)(D:ZipApart z B TO N i2 l1 l2)(g:IsZip s.heap z B TO .none\/∃T f oT,Zh s.heap z B TO T f/\s.heap.get? T=some oT)(S:IsPair s.heap B (.ref N) (.ref i2))(h1:s.heap.IsTupleIter N l1 k1)(Z:s.heap.IsTuple l1 xs)(hx:xs[k1]?=none)(O:∀h' e,(∀c o,c≠z->c≠N->s.heap.get? c=some o->h'.get? c=some o)->(∃o,h'.get? e=some o/\o.cls=.type "StopIteration")->E (.ref e) { s with heap:=h' }):
  wpAny (model prog w) A (Builtin.«zip.__next__» ⟨[.ref z],[]⟩) Q E s:=by
 rcases g with g | ⟨T,f,oT,g,hT⟩
 .show wpAny _ _ (field (.ref z) 2 >>= _) _ _ _
  refine AA (As g rfl rfl (AA (As g rfl rfl (AA (A0 S rfl (AA (AA (As g rfl rfl (AD (AA (Bv (AA (As g rfl rfl (AA (A7 g (by simp) fun ag I q=>?_)))))))))))))))
  replace I:IsZip ag z B TO .ellipsis:=I
  apply AA
  refine AA (AA (wpAny_onRaise (AA (nB Y (h1.extBut q.extBut D.i1z) (Z.extBut q.extBut D.l1z) hx fun ah e G L=>sQ L fun oe M U=>?_))));have ae:=G _ _ D.i1z.symm I;have ai:e≠z:=fun x=>by subst x;rw[ae] at M;cases M;simp at U
  exact A7 ae (by simp) fun aj _ ab=>O aj e (fun c o F J x=>ab.extBut _ _ F (G _ _ J (q.extBut _ _ F x))) ⟨oe,ab.extBut _ _ ai M,U⟩
 .show wpAny _ _ (field (.ref z) 2 >>= _) _ _ _
  refine AA (As g rfl rfl (AA (As g rfl rfl (AA (A0 S rfl (AA (BQ (JZ g hT) ?_ fun _ _ h=>h)))))));rintro b ak ⟨ag,rfl,rfl,I,q⟩;exact AA (AA (AA (Ao (AA (nB Y (h1.extBut q.extBut D.i1z) (Z.extBut q.extBut D.l1z) hx fun ah e G L=>O ah e (fun c o F J x=>G _ _ J (q.extBut _ _ F x)) L)))))
def RM(h:Heap)(z g TO q B D F S:Addr)(xs ys:Array Value)(i:Nat):Prop :=
 ((i=0/\IsZip h z g TO .none/\∃a b,IsPair h TO a b)\/∃T f G,Zh h z g TO T f/\h.get? T=some G/\T≠z/\T≠q/\T≠B/\T≠S)/\RN h z g q B D F xs ys i
theorem RN.at(x:RN h z g q B D F xs ys i)(k:∀b o,(b=g\/b=q\/b=B\/b=D\/b=F)->h.get? b=some o->h'.get? b=some o):RN h' z g q B D F xs ys i :=
 ⟨k _ _ (.inl rfl) x.it,vU x.a fun o e=>k _ o (.inr (.inl rfl)) e,vU x.b fun o e=>k _ o (.inr (.inr (.inl rfl))) e,zF x.x fun o e=>k _ o (.inr (.inr (.inr (.inl rfl)))) e,zF x.y fun o e=>k _ o (.inr (.inr (.inr (.inr rfl)))) e⟩
def uh(D:ZipApart z G TO O U Y Z)(hl:Y≠G/\Z≠G)(ai:RM s.heap z G TO O U Y Z S xs ys i)(hS:S < s.heap.objs.size)(hx:xs[i]?=some x)(hy:ys[i]?=some y)(hQ:∀h',RM h' z G TO O U Y Z S xs ys (i+1)->IsPair h' s.heap.objs.size x y->h'.objs.size=s.heap.objs.size+1 ->
   (∀c o,c≠z->c≠TO->c≠O->c≠U->s.heap.get? c=some o->h'.get? c=some o)->Q (some (.ref s.heap.objs.size)) { s with heap:=h' }):
  wpAny (model prog w) A (pyNext (.ref z)) Q E s:=by
 obtain⟨q,g⟩:=ai;have lt:∀{c o},s.heap.get? c=some o->s.heap.objs.size≠c:=fun e=>Aq (AH e);have n1:=let ⟨o,e,_⟩:=g.a;lt e
 have n2:=let ⟨o,e,_⟩:=g.b;lt e
 have hT:s.TypeIs (.ref z) "zip":=by
  rcases q with ⟨_,q,_⟩ | ⟨_,_,_,q,_⟩
  .exact ⟨_,q,rfl⟩
  .exact ⟨_,q,rfl⟩
 refine AA (DL (BG hT De (Av De hT F.entry_zip_next ?_ (F.args_zip_next_1 _))))
 rcases q with ⟨e0,q,a,b,ah⟩ | ⟨T,f,oT,q,ab,nz,ae,ag,nS⟩
 .refine WI D q g.it ah g.a g.b g.x g.y hx hy fun h' J L M I N B=>AD (hQ h' ⟨.inr ⟨_,false,_,J,I,lt q,n1,n2,Aq hS⟩,⟨B _ _ D.TIz D.TITO D.TIi1 D.TIi2 g.it,L,M,zF g.x fun o e=>B _ o D.l1z D.l1TO D.l1i1 D.l1i2 e,zF g.y fun o e=>B _ o D.l2z D.l2TO D.l2i1 D.l2i2 e⟩⟩ I N B)
 .refine WH D q ab nz g.it g.a g.b g.x g.y hx hy fun h' J L M I N B=>AD (hQ h' ⟨.inr ⟨T,true,oT,J,B _ _ nz ae ag ab,nz,ae,ag,nS⟩,⟨B _ _ D.TIz D.TIi1 D.TIi2 g.it,L,M,zF g.x fun o e=>B _ o D.l1z D.l1i1 D.l1i2 e,zF g.y fun o e=>B _ o D.l2z D.l2i1 D.l2i2 e⟩⟩ I N fun c o c1 _ c3 c4 e=>B c o c1 c3 c4 e)
def ul(N:A.handled=none)(D:ZipApart z I TO G i2 l1 l2)(Y:RM s.heap z I TO G i2 l1 l2 S xs ys i)(Z:xs[i]?=none)(J:∀h',(∀c o,c≠z->c≠G->s.heap.get? c=some o->h'.get? c=some o)->Q none { s with heap:=h' }):
  wpAny (model prog w) A (pyNext (.ref z)) Q E s:=by
 obtain⟨g,q⟩:=Y
 have B:s.TypeIs (.ref z) "zip":=by
  rcases g with ⟨_,g,_⟩ | ⟨_,_,_,g,_⟩
  .exact ⟨_,g,rfl⟩
  .exact ⟨_,g,rfl⟩
 refine AA (DL (BG B De
  (Av De B F.entry_zip_next (Ho N D (by grind) q.it q.a q.x Z fun h' e O M=>?_) (F.args_zip_next_1 _))))
 exact sQ M fun o U L=>AA (BR ⟨o,U,L⟩ isSubtype_stop (AD (J _ O)))
end
structure ZG(xs ys:Array Value)(lo:Addr)(h:Heap)(as:List Addr):Prop where
 rise:as.Pairwise (· < ·)
 above:∀a∈as,lo < a
 pairs:∀(j:Nat)(a:Addr),as[j]?=some a->∃x y,xs[j]?=some x/\ys[j]?=some y/\IsPair h a x y
section
variable {prog:Program}{w:World}{A:Around}{s:Shared}{R:Result->Shared->Prop}{xs ys:Array Value}
def uf(hh:A.handled=none)(aq:ZipApart z N TO L M l1 l2)(hl:l1≠N/\l2≠N)(B:S≠z/\S≠N/\S≠TO/\S≠L/\S≠M/\S≠l1/\S≠l2)(G:S<=lo/\z<=lo/\TO<=lo/\L<=lo/\M<=lo)(a6:xs.size=ys.size)(hn:xs.size<=sizeLine)res{ay:Heap}(hR:∀h' I acc c as,(∀b o,b≠S->b≠z->b≠TO->b≠L->b≠M->ay.get? b=some o->h'.get? b=some o)->h'.get? S=some { cls:=.type "list",dict:=none,data:=.seq acc c,slots:=#[] }->as.length=xs.size->ZG xs ys lo h' as ->
   acc.toList=as.map Value.ref->R (.ok (.ret res)) { s with heap:=h',toks:=I }):
  ∀k i h I c acc as,xs.size - i=k->i<=xs.size->RM h z N TO L M l1 l2 S xs ys i->(∀b o,b≠S->b≠z->b≠TO->b≠L->b≠M->ay.get? b=some o->h.get? b=some o) ->
   h.get? S=some { cls:=.type "list",dict:=none,data:=.seq acc c,slots:=#[] }->acc.toList=as.map Value.ref->as.length=i->ZG xs ys lo h as->lo < h.objs.size ->
   codeAny (model prog w) A (.builtin "list.extend.loop" ⟨[.ref S,.ref z,res],[]⟩) R { s with heap:=h,toks:=I }:=by
 have ak:=B.1;intro k
 induction k with
 |zero =>
  intro i h I c acc as hk hi ao aj hS ab Y g aw
  apply BV CQ
  refine AA (ul hh aq ao (Array.getElem?_eq_none (by lia)) fun h' ah=>?_);refine AD (hR h' I acc c as (fun b o b1 O b3 U b5 e=>ah b o O U (aj b o b1 O b3 U b5 e)) (ah S _ ak B.2.2.2.1 hS) (by lia) ⟨g.rise,g.above,fun j a hj=>?_⟩ ab);obtain⟨x,y,e1,e2,e3⟩:=(g.pairs j a hj);have ar:=g.above a (Ae hj);exact⟨x,y,e1,e2,ah a _ (Aq (Ah G.2.1 ar)) (Aq (Ah G.2.2.2.1 ar)) e3⟩
 |succ k ih =>
  intro i h I c acc as hk hi ao aj hS ab Y g aw;have ai:i < xs.size:=by lia
  have av:i < ys.size:=by lia
  have hsz:acc.size=i:=by rw[<- Ay,ab,AC,Y]
  have ag:=AH hS
  apply BV CQ
  refine AA (uh aq hl ao ag (An ai) (An av) fun h' ax ht hz ae=>?_);dsimp only at ht hz ae ⊢;have au:=ae S _ ak B.2.2.1 B.2.2.2.1 B.2.2.2.2.1 hS;have J:∀b o,b≠S->h'.get? b=some o->(h'.update S (Obj.mapSeq (·.push (Value.ref h.objs.size)))).get? b=some o:=fun b o F e=>(BI _ _ (Ne.symm F)).trans e
  apply AA
  have a5:RM (h'.update S (Obj.mapSeq (·.push (Value.ref h.objs.size)))) z N TO L M l1 l2 S xs ys (i+1):=by
   refine⟨?_,ax.2.at fun b o F e=>J b o (fun z=>?_) e⟩
   .rcases ax.1 with ⟨e0,_⟩ | ⟨T,f,oT,az,a0,a3,g4,g5,g6⟩
    .cases e0
    .exact .inr ⟨T,f,oT,J _ _ ak.symm az,J _ _ g6 a0,a3,g4,g5,g6⟩
   .rcases F with rfl | rfl | rfl | rfl | rfl
    .exact B.2.1 z.symm
    .exact B.2.2.2.1 z.symm
    .exact B.2.2.2.2.1 z.symm
    .exact B.2.2.2.2.2.1 z.symm
    .exact B.2.2.2.2.2.2 z.symm
  refine Bp au rfl (AD ⟨BY CP _,ih (i+1) _ I _ (acc.push (Value.ref h.objs.size)) (as++[h.objs.size]) (by lia) ai a5
   (fun b o b1 O b3 U b5 e=>J b o b1 (ae b o O b3 U b5 (aj b o b1 O b3 U b5 e))) (A4 _ au rfl) (by rw[Array.toList_push,ab,AS];rfl) (by rw[AQ,Y];rfl) ⟨?_,?_,?_⟩ ?_⟩) (by lia) (by rw[Array.size_push,hsz];lia)
  .refine Dj.mpr ⟨g.rise,DQ _ _,fun a D b F=>?_⟩
   rw[AF.mp F];obtain⟨j,hj⟩:=B7.mp D;exact vZ (g.pairs j a hj) fun _ _ _ _ e=>AH e
  .intro a D
   rcases Ax.mp D with D | D
   .exact g.above a D
   .rwa [AF.mp D]
  .intro j b hj
   rcases Nat.lt_trichotomy j as.length with h1 | h1 | h1
   .rw [CU h1] at hj
    obtain⟨x,y,e1,e2,e3⟩:=(g.pairs j b hj);have Z:∀{q:Addr},q<=lo->b≠q:=fun hq=>Aq (Ah hq (g.above b (Ae hj)));exact⟨x,y,e1,e2,J b _ (Z G.1) (ae b _ (Z G.2.1) (Z G.2.2.1) (Z G.2.2.2.1) (Z G.2.2.2.2) e3)⟩
   .subst h1
    have F:h.objs.size=b:=by simpa using hj
    subst F;exact⟨_,_,by rw[Y];exact An ai,by rw[Y];exact An av,J _ _ (Aq ag) ht⟩
   .have a4:(as++[h.objs.size])[j]?=none:=Bn (by rw[AQ,A3];lia)
    rw[a4] at hj;cases hj
  .exact Nat.lt_trans aw (AH (J _ _ (Aq ag) ht))
end
def Zp:typeLookup (.type "zip") "__len__" = pure none:=by rw[DZ,Co];kernel_rfl
def QO:typeLookup (.type "zip") "__length_hint__" = pure none:=by rw[DZ,Co];kernel_rfl
section
variable {prog:Program}{w:World}{A:Around}{E:Value->Shared->Prop}{s:Shared}{xs ys:Array Value}
def ug(hh:A.handled=none)(ay:ZipApart z M TO i1 i2 l1 l2)(hl:l1≠M/\l2≠M)(U:IsZip s.heap z M TO .none)(aj:IsPair s.heap TO .none .none)(I:RN s.heap z M i1 i2 l1 l2 xs ys 0)(a0:xs.size=ys.size)(hn:xs.size<=sizeLine)(hQ:∀h' tk acc c as,(∀b o,b≠z->b≠TO->b≠i1->b≠i2->s.heap.get? b=some o->h'.get? b=some o)->h'.get? s.heap.objs.size=some { cls:=.type "list",dict:=none,data:=.seq acc c,slots:=#[] }->as.length=xs.size->ZG xs ys s.heap.objs.size h' as ->
   acc.toList=as.map Value.ref->Q (.ref s.heap.objs.size) { s with heap:=h',toks:=tk }):
  wpAny (model prog w) A (call (.type "list") [.ref z]) Q E s:=by
 have G:=AH U;have ae:=AH aj;have a4:=AH I.it;have au:=let ⟨o,e,_⟩:=I.a;AH e
 have av:=let ⟨o,e,_⟩:=I.b;AH e
 have a5:=let ⟨o,e,_⟩:=I.x;AH e
 have a6:=let ⟨o,e,_⟩:=I.y;AH e
 refine Dh (Q₁:=fun aw ax=>aw=.ref s.heap.objs.size/\ax={ s with heap:=s.heap.push { cls:=.type "list",data:=.seq #[] } }) F.called_list (F.typeCall_list_1 _) F.entry_list_init
  (code_list_new _ ⟨rfl,rfl⟩) fun aw ax a3=>?_
 obtain⟨rfl,rfl⟩:=a3;generalize Z:s.heap.objs.size=S at *
 have J:(s.heap.push { cls:=.type "list",data:=.seq #[] }).get? S=some { cls:=.type "list",data:=.seq #[] } :=Z▸AK _ rfl;have ak:∀b o,s.heap.get? b=some o->(s.heap.push { cls:=.type "list",data:=.seq #[] }).get? b=some o:=fun b o e=>AE _ e;have ao:(s.heap.push { cls:=.type "list",data:=.seq #[] }).objs.size=S+1:=by rw[B1,Z]
 generalize s.heap.push { cls:=.type "list",data:=.seq #[] }=g at J ak ao ⊢;refine⟨⟨_,J,rfl⟩,F.args_list_init_2 _ _,AA ?_⟩
 delta Builtin.List.listItems
 refine AA (A0 J rfl (AD (AA (Bp J rfl ?_))));have ab:=A4 (Obj.mapSeq (fun _=>(#[]:Array Value))) J rfl;refine AA (Dg ?_);have ag:∀f b o(g:Heap),b≠S->g.get? b=some o->(g.update S (Obj.mapSeq f)).get? b=some o:=fun f b o g D e=>(BI _ _ (Ne.symm D)).trans e;have B:∀{b:Addr},b < S->b≠S:=fun h=>AY h
 have O:∀b o,b≠S->s.heap.get? b=some o->(g.update S (Obj.mapSeq (fun _=>(#[]:Array Value)))).get? b=some o:=fun b o D e=>ag _ b o g D (ak b o e);have aq:(g.update S (Obj.mapSeq (fun _=>(#[]:Array Value)))).objs.size=S+1 :=ao▸(BU ..).1;generalize g.update S (Obj.mapSeq (fun _=>(#[]:Array Value)))=N at ab O aq ⊢;have hT:Shared.TypeIs { s with heap:=N } (.ref z) "zip":=⟨_,O z _ (B G) U,rfl⟩
 delta Builtin.List.listExtendWith
 refine AA (CJ hT ?_);have h1:Builtin.List.listSameRef (.ref S) (.ref z)=false:=by simp[Builtin.List.listSameRef,Ne.symm (B G)]
 have h2:(Value.type "zip" == Value.type "list")=false:=by decide
 have h3:(Value.type "zip" == Value.type "tuple")=false:=by decide
 simp only[h1,h2,h3,Bool.or_false,Bool.false_eq_true,if_false]
 refine AA (wpAny_pyIter_zip (O z _ (B G) U) (AA (Ao ?_)))
 delta Builtin.List.listLengthHint
 refine AA (A5 hT Zp (AA (A5 hT QO (AD ?_))));rw[Ab (by simp)];refine AA (Bv (AA (AA (Bp ab rfl ?_))));have ah:=A4 (Obj.mapSeq (·.push Value.none)) ab rfl
 apply Bp ah rfl
 have ai:=A4 (Obj.mapSeq (·.pop)) ah rfl;have L:∀b o,b≠S->s.heap.get? b=some o->((N.update S (Obj.mapSeq (·.push Value.none))).update S (Obj.mapSeq (·.pop))).get? b=some o:=fun b o D e=>ag _ b o _ D (ag _ b o _ D (O b o D e));have ar:((N.update S (Obj.mapSeq (·.push Value.none))).update S (Obj.mapSeq (·.pop))).objs.size=S+1:=by rw[(BU ..).1,(BU ..).1,aq]
 generalize (N.update S (Obj.mapSeq (·.push Value.none))).update S (Obj.mapSeq (·.pop))=g4 at ai L ar ⊢
 refine AD ⟨BY F.plain_extend_loop _,uf (A:=A.in1) hh ay hl ⟨Ne.symm (B G),Ne.symm (B a4),Ne.symm (B ae),Ne.symm (B au),Ne.symm (B av),Ne.symm (B a5),Ne.symm (B a6)⟩ ⟨AI _,Be G,Be ae,Be au,Be av⟩ a0 hn .none (fun h' tk acc c as kp e ha hG az=>?_)
  xs.size 0 g4 s.toks _ #[] [] (Nat.sub_zero _) (AW _) ⟨.inl ⟨rfl,L z _ (B G) U,_,_,L TO _ (B ae) aj⟩,I.at fun b o D e=>L b o (by rcases D with rfl | rfl | rfl | rfl | rfl<;>exact B ‹_›) e⟩ (fun b o D _ _ _ _ e=>L b o D e) ai rfl rfl ⟨List.Pairwise.nil,(fun _ ha=>nomatch ha),(fun j a hj=>by simp at hj)⟩ (ar▸Bf _)⟩
 exact⟨rfl,hQ h' tk acc c as (fun b o b1 b2 b3 b4 Y=>kp b o (fun q=>by rw[q] at Y;have:=AH Y;rw[Z] at this;exact A8 _ this) b1 b2 b3 b4 Y) e ha hG az⟩
abbrev jl(l:Addr):Obj:={ cls:=.type "tuple_iterator",data:=.fields #[.ref l,.int 0 0] }
abbrev lq(a b:Value):Obj:={ cls:=.type "tuple",data:=.seq #[a,b] }
abbrev Hq(TI TO:Addr):Obj:={ cls:=.type "zip",data:=.fields #[.none,.bool false,.bool false,.ref TI,.ref TO] }
def mR q B xs ys:
  Meets (Builtin.«zip.__new__» ⟨[.type "zip",.ref q,.ref B],[]⟩) (fun _ R s=>s.heap.IsTuple q xs/\s.heap.IsTuple B ys /\
   R (.ok (.ret (.ref ((((s.heap.push (jl q)).push (jl B)).push (lq (.ref s.heap.objs.size) (.ref (s.heap.push (jl q)).objs.size))).push (lq .none .none)).objs.size))) { s with heap:=((((s.heap.push (jl q)).push (jl B)).push (lq (.ref s.heap.objs.size) (.ref (s.heap.push (jl q)).objs.size))).push (lq .none .none)).push (Hq ((s.heap.push (jl q)).push (jl B)).objs.size (((s.heap.push (jl q)).push (jl B)).push (lq (.ref s.heap.objs.size) (.ref (s.heap.push (jl q)).objs.size))).objs.size) }) :=
 .of_wp fun prog w A R s h=>by
  obtain⟨I,g,d,L,J⟩:=s;obtain⟨F,G,h⟩:=h
  have M:=sub_zip;have D:Heap.IsTuple (Shared.heap ⟨I.push { cls:=.type "tuple_iterator",data:=.fields #[.ref q,.int 0 0] },g,d,L,J⟩) B ys:=Heap.IsTuple.push G _
  wp_walk using Ce F,Ce D
  exact⟨_,rfl,h⟩
end
end PySem
namespace L2
open PySem PySem.W PyProof.Rows
abbrev sF(z:Nat)(a:Addr)(o:Obj):Heap->Prop:=fun h=>z<=a/\h.get? a=some o
def XT{a:Addr}{z:Nat}(g:z<=a)(e:h.get? a=some o):ObjOk P w H h a (.ext (sF z a o)):=⟨⟨g,e⟩,⟨o,e⟩,fun _ _ ⟨q,e⟩ k=>⟨q,k _ e⟩⟩
noncomputable def t6(n:Nat)(H:Hp)(q B g TO z D F:Addr):Hp :=
 upd (upd (upd (upd (upd H q (.ext (sF n q (jl D)))) B (.ext (sF n B (jl F)))) g (.ext (sF n g (lq (.ref q) (.ref B))))) TO (.ext (sF n TO (lq .none .none)))) z (.ext (sF n z (Hq g TO)))
noncomputable def qS(H:Hp)(ds:List Addr):Hp:=fun b=>if b∈ds then none else H b
def XX(h:b∈ds):qS H ds b=none:=Ab h
def xF(h:b∉ds):qS H ds b=H b:=Ac h
def WJ{B q TO z J L}(h1:H D=none)(h2:H B=none)(F:H q=none)(G:H TO=none)(I:H z=none):qS (t6 n H D B q TO z J L) [z,TO,q,D,B]=H:=by
 funext b
 by_cases g:b∈[z,TO,q,D,B]
 .rw [XX g]
  simp only[List.mem_cons,List.not_mem_nil,or_false] at g
  rcases g with rfl | rfl | rfl | rfl | rfl
  .exact I.symm
  .exact G.symm
  .exact F.symm
  .exact h1.symm
  .exact h2.symm
 .rw [xF g]
  simp only[List.mem_cons,List.not_mem_nil,or_false,not_or] at g
  delta t6
  rw[uQ g.1,uQ g.2.1,uQ g.2.2.1,uQ g.2.2.2.2,uQ g.2.2.2.1]
section
variable {X:Cx}{pins:List (Addr×Obj)}{σ:St}{H:Hp}{s:Shared}{h':Heap}
def Inv.O7{f:Addr->Option (List V)}{l:Addr}(I:Inv X pins σ H s)(J:∀b∈ds,∃G,H b=some (.ext G)/\X.s₀.heap.objs.size<=b)(k:∀b o,b∉ds->s.heap.get? b=some o->h'.get? b=some o)(L:∀b xs,f b=some xs->s.heap.objs.size<=b/\xs.length<=sizeLine/\∃D:List Value,Vals xs D/\jg h' b D.toArray)(U:s.heap.objs.size<=l)(fl:f l=none)(ae:ys.length<=sizeLine/\∃D:List Value,∃n,Vals ys D/\h'.get? l=some (seqObj "list" D.toArray n)):Inv X pins σ (upd (jk (qS H ds) f) l (.lst ys)) { s with heap:=h',toks:=t' }:=by
 have ag:∀{b u},H b=some u->b≠l:=fun e z=>by rw[z,(I.hok.fresh U)] at e;cases e
 have nd:∀{b u},H b=some u->(∀M,u≠.ext M)->b∉ds:=fun e h z=>by
  obtain⟨G,N,_⟩:=J _ z;rw[e] at N;cases N;exact h G rfl
 have kp:∀{b u},H b=some u->b∉ds->upd (jk (qS H ds) f) l (.lst ys) b=some u:=fun {b u}e h=>by
  rw[uQ (ag e)]
  cases z:f b with
  |none=>rwa [mK z,xF h]
  |some xs=>rw[(fun b xs e=>I.hok.fresh (L b xs e).1) b xs z] at e;cases e
 have F:∀{b u},H b=some u->(∀M,u≠.ext M)->upd (jk (qS H ds) f) l (.lst ys) b=some u:=fun e h=>kp e (nd e h)
 refine I.step (g':=s.gens) (d':=s.drawn) (fun b hb=>?_) (fun b o _ _ g e _=>k b o g e) (fun b o _ _ g e _=>⟨o.slots,k b o g e⟩) (fun b u g e n=>?_)
  (fun b o g e=>⟨o,k b o g e⟩) (fun b xs e=>F e fun _ z=>nomatch z) (fun b o u e=>F e fun _ z=>nomatch z) (fun b ps e=>⟨#[],by rw[F e fun _ z=>nomatch z];simp⟩) (fun m ab=>?_) (fun b u e=>?_) I.bare
 .refine sQ (J b hb) fun G B Y=>⟨.inr Y,fun z=>?_,fun x c e z=>?_,fun p hp z=>?_⟩
  .rw [z,I.free] at B;cases B
  .have:=I.freeC x c e;rw[z,B] at this;cases this
  .have:=(I.pin p hp).2.1;rw[z,B] at this;cases this
 .rw [uQ (AY (AZ (AH e) U))]
  cases z:f b with
  |none=>rwa [mK z,xF g]
  |some xs=>exact absurd (AH e) (Nat.not_lt.mpr (L b xs z).1)
 .exact Jo ab fun o es ep ho r=>⟨o,es,ep,k _ o (fun z=>by obtain⟨G,B,_⟩:=J _ z;rw[I.free] at B;cases B) ho,r⟩
 .by_cases S:b=l
  .subst S;rw[mQ] at e;cases e;exact ae
  .rw [uQ S] at e
   cases z:f b with
   |some xs =>
    rw[jU z] at e;cases e;obtain⟨_,h2,D,Z,h4⟩:=L b xs z;exact⟨h2,D,Z,h4⟩
   |none =>
    rw[mK z] at e
    by_cases O:b∈ds
    .rw [XX O] at e;cases e
    .rw [xF O] at e
     refine(I.hok b u e).stay (fun c v g q=>k c v ?_ q) (fun c q=>F q fun _ z=>nomatch z) fun c xs q=>F q fun _ z=>nomatch z
     rcases g with z | z
     .rwa [z]
     .grind
end
section
variable {X:Cx}
def Wr:CallR X (.type "zip") (fun xs H Q=>∃g B as bs,xs=[.ref g,.ref B]/\SqT X.K H g as/\SqT X.K H B bs/\∀M N D TO z,H M=none->H N=none->H D=none->H TO=none->H z=none->ZipApart z D TO M N g B->g≠D/\B≠D->Q (.ref z) (t6 X.s₀.heap.objs.size H M N D TO z g B)):=by
 intro pins s σ H xs aq Q I r h;obtain⟨g,B,as,bs,rfl,h1,h2,q⟩:=h;obtain⟨u,v,rfl,rfl,ry⟩:=r.two;cases ry;refine jJ (I.tuple h1) fun ah r1 p1 _=>jJ (I.tuple h2) fun ai r2 p2 _=>callType_new F.called_zip rfl (F.typeCall_zip_2 _ _) (F.newCall_zip_2 _ _) (fun ao=>F.args_object_init_3 ao _ _) F.entry_zip_new (mR g B ah.toArray ai.toArray) ⟨p1,p2,?_⟩;have aj:=let ⟨o,e,_⟩:=p1;AH e
 have ak:=let ⟨o,e,_⟩:=p2;AH e
 have J:=I.sz;have O:(s.heap.push (jl g)).objs.size=s.heap.objs.size+1:=B1 ..;have U:((s.heap.push (jl g)).push (jl B)).objs.size=s.heap.objs.size+2 :=by simp_all
 rw[O,U];have Y:(((s.heap.push (jl g)).push (jl B)).push (lq (.ref s.heap.objs.size) (.ref (s.heap.objs.size+1)))).objs.size=s.heap.objs.size+3 :=by simp_all
 rw[Y];have Z:((((s.heap.push (jl g)).push (jl B)).push (lq (.ref s.heap.objs.size) (.ref (s.heap.objs.size+1)))).push (lq .none .none)).objs.size=s.heap.objs.size+4 :=by simp_all
 rw[Z];generalize L:s.heap.objs.size=S at *
 have ab:(s.heap.push (jl g)).get? S=some (jl g) :=L▸AK _ rfl;have I1:Inv X pins σ (upd H S (.ext (sF X.s₀.heap.objs.size S (jl g)))) { s with heap:=s.heap.push (jl g),toks:=s.toks }:=I.laid (fun b o e=>AE _ e) (CM L) (XT J ab);have ae:((s.heap.push (jl g)).push (jl B)).get? (S+1)=some (jl B) :=O▸AK _ rfl;have I2:=I1.laid (t':=s.toks) (o:=.ext (sF X.s₀.heap.objs.size (S+1) (jl B))) (h':=(s.heap.push (jl g)).push (jl B)) (fun b o e=>AE _ e) (CM O) (XT (BF J) ae)
 have ag:(((s.heap.push (jl g)).push (jl B)).push (lq (.ref S) (.ref (S+1)))).get? (S+2)=some (lq (.ref S) (.ref (S+1))) :=U▸AK _ rfl;have I3:=I2.laid (t':=s.toks) (o:=.ext (sF X.s₀.heap.objs.size (S+2) (lq (.ref S) (.ref (S+1))))) (h':=((s.heap.push (jl g)).push (jl B)).push (lq (.ref S) (.ref (S+1)))) (fun b o e=>AE _ e) (CM U) (XT (BF (BF J)) ag)
 have g4:((((s.heap.push (jl g)).push (jl B)).push (lq (.ref S) (.ref (S+1)))).push (lq .none .none)).get? (S+3)=some (lq .none .none) :=Y▸AK _ rfl;have I4:=I3.laid (t':=s.toks) (o:=.ext (sF X.s₀.heap.objs.size (S+3) (lq .none .none))) (h':=(((s.heap.push (jl g)).push (jl B)).push (lq (.ref S) (.ref (S+1)))).push (lq .none .none)) (fun b o e=>AE _ e) (CM Y) (XT (BF (BF (BF J))) g4)
 have g5:(((((s.heap.push (jl g)).push (jl B)).push (lq (.ref S) (.ref (S+1)))).push (lq .none .none)).push (Hq (S+2) (S+3))).get? (S+4)=some (Hq (S+2) (S+3)) :=Z▸AK _ rfl;have I5:=I4.laid (t':=s.toks) (o:=.ext (sF X.s₀.heap.objs.size (S+4) (Hq (S+2) (S+3)))) (h':=((((s.heap.push (jl g)).push (jl B)).push (lq (.ref S) (.ref (S+1)))).push (lq .none .none)).push (Hq (S+2) (S+3))) (fun b o e=>AE _ e) (CM Z) (XT (BF (BF (BF (BF J)))) g5)
 have G:∀{b:Addr},S<=b->H b=none:=fun hb=>I.hok.fresh (by rwa [L]);refine⟨⟨_,g5,rfl⟩,.ref (S+4),_,I5,rfl,q S (S+1) (S+2) (S+3) (S+4) (G (AI _)) (G (BX _ _)) (G (BX _ _)) (G (BX _ _)) (G (BX _ _)) ?_ ?_⟩
 .have:=zipApart_new aj ak
  exact this
 .lia
def um(ps:List Addr)(as bs:List V):Addr->Option (List V):=fun b=>if b∈ps then some [as.getD (ps.idxOf b) .non,bs.getD (ps.idxOf b) .non] else none
def Hr(nd:ps.Nodup){j:Nat}(h:ps[j]?=some a)(g:as[j]?=some x)(q:bs[j]?=some y):um ps as bs a=some [x,y] :=by grind[um,List.getElem_mem,nd.idxOf_getElem]
def Qq(hc:X.calm=true):CallR X (.type "list") (fun xs H Q=>∃D F g TO z J L as bs,xs=[.ref z]/\H D=some (.ext (sF X.s₀.heap.objs.size D (jl J)))/\H F=some (.ext (sF X.s₀.heap.objs.size F (jl L)))/\H g=some (.ext (sF X.s₀.heap.objs.size g (lq (.ref D) (.ref F))))/\H TO=some (.ext (sF X.s₀.heap.objs.size TO (lq .none .none)))/\H z=some (.ext (sF X.s₀.heap.objs.size z (Hq g TO))) /\
  SqT X.K H J as/\SqT X.K H L bs/\as.length=bs.length/\ZipApart z g TO D F J L/\(J≠g/\L≠g)/\∀ps l,ps.length=as.length->ps.Nodup->(∀b∈ps,H b=none)->H l=none->l∉ps->Q (.ref l) (upd (jk (qS H [z,TO,g,D,F]) (um ps as bs)) l (.lst (ps.map V.ref)))):=by
 intro pins s σ H xs aq Q I r h;obtain⟨D,F,g,TO,z,J,L,as,bs,rfl,h1,h2,h3,h4,h5,aj,t2,hl,ag,ai,q⟩:=h;obtain⟨u,rfl,rfl⟩:=zB r;refine jJ (I.tuple aj) fun ak r1 p1 z1=>jJ (I.tuple t2) fun ao r2 p2 z2=>?_;have Y:=(I.hok _ _ h1).1;have Z:=(I.hok _ _ h2).1;have e3:=(I.hok _ _ h3).1;have e4:=(I.hok _ _ h4).1;have e5:=(I.hok _ _ h5).1;have n1:=r1.length;refine ug (I.ok.hd hc) ag ai e5.2 e4.2 ⟨e3.2,⟨_,Y.2,rfl,rfl⟩,⟨_,Z.2,rfl,rfl⟩,p1,p2⟩ (by rw[Am,Am,<- n1,<- r2.length,hl]) (by grind) fun h' tk acc c ps kp el O G ha=>?_
 have nd:=G.rise.imp fun h=>AY h;rw[Am,<- n1] at O;have S:=G.above;have U:s.heap.objs.size∉ps:=fun z=>A8 _ (S _ z);have ez:acc=(ps.map Value.ref).toArray:=by rw[<- ha,Array.toArray_toList]
 have rv:Vals (ps.map V.ref) (ps.map Value.ref):=by
  clear nd O S U ez G q ha
  induction ps with
  |nil=>exact .nil
  |cons a as ih=>exact .cons rfl ih
 refine⟨.ref s.heap.objs.size,_,I.O7 (t':=tk) (fun b B=>?_) (fun b o B e=>?_) (fun b xs e=>?_) (AI _) ?_ ⟨by rw[AC,O];exact z1,_,c,rv,by rwa [<- ez]⟩,rfl,q ps _ O nd (fun b B=>I.hok.fresh (Be (S b B))) (I.hok.fresh (AI _)) U⟩
 .simp only[List.mem_cons,List.not_mem_nil,or_false] at B
  rcases B with rfl | rfl | rfl | rfl | rfl
  .simp_all
  .exact ⟨_,h4,e4.1⟩
  .exact ⟨_,h3,e3.1⟩
  .exact ⟨_,h1,Y.1⟩
  .exact ⟨_,h2,Z.1⟩
 .grind
 .unfold um at e
  split at e
  .next B =>
   cases e;have hj:=List.idxOf_lt_length_of_mem B;have hg:ps[ps.idxOf b]?=some b :=by grind
   generalize ps.idxOf b=j at hj hg ⊢;refine vZ (G.pairs j b hg) fun x y ab ae ah=>?_;rw[Cq] at ab ae;refine⟨Be (S b B),ie 2 rfl,[x,y],.cons ?_ (.cons ?_ .nil),⟨_,ah,rfl,⟨_,rfl⟩,rfl⟩⟩
   .have M:as[j]?=some as[j]:=AN (by omega)
    refine sQ (r1.get M) fun u N q2=>?_;rw[ab] at N;cases N
    rwa [DD,M]
   .have M:bs[j]?=some bs[j]:=AN (by omega)
    refine sQ (r2.get M) fun u N q2=>?_;rw[ae] at N;cases N
    rwa [DD,M]
  .cases e
 .delta um
  rw[Ac U]
end
end L2
namespace CL
open PySem PySem.Spec L2 PySem.W
open PyProof.Rows hiding St
section
variable {X:Cx}{a b:Expr}{pos:Pos}
@[irreducible] def Ds:PV->PV->CH->K1->Prop:=fun x y C Q=>match x,y with
 |.tup xs,.tup ys=>xs.length=ys.length/\∀p,C p=none->Q (.ref p) (pQ C p (.lst (List.zipWith (fun a b=>PV.tup [a,b]) xs ys)))
 |_,_=>False
def Ut(q B:d8):d8:=fun g C Q=>q g C fun x C1=>B g C1 fun y C2=>Ds x y C2 Q
def Nm(h:xs.length=ys.length)(q:∀p,C p=none->Q (.ref p) (pQ C p (.lst (List.zipWith (fun a b=>PV.tup [a,b]) xs ys)))):Ds (.tup xs) (.tup ys) C Q:=by
 delta Ds
 exact⟨h,q⟩
theorem dh.jk{K}(h:dh K H C)(q:∀b xs,f b=some xs->H b=none):dh K (L2.jk H f) C/\Fw H C (L2.jk H f) C/\iu H (L2.jk H f):=by
 have k:∀{b:Addr}{o:HO},H b=some o->L2.jk H f b=some o:=fun e=>pK q e;have g:iu H (L2.jk H f):=fun b o _ e=>k e;refine⟨fun b u c=>?_,fun b c n=>⟨rfl,?_⟩,g⟩
 .exact sQ ((h b u c).mut) fun v e _=>(h b u c).aU g (by simp_all)
 .cases e:H b with
  |none=>exact absurd e n
  |some o=>exact k e
theorem Q6{K}{f:Addr->Option (List V)}:∀{ps:List Addr}{vs B}{xs ys},dg K H vs xs->dg K H B ys->ps.length=xs.length->xs.length=ys.length->(∀(j:Nat)p v w,ps[j]?=some p->vs[j]?=some v->B[j]?=some w->H p=some (.tup [v,w]))->dg K H (ps.map V.ref) (List.zipWith (fun a b=>PV.tup [a,b]) xs ys)
 |[],_,_,[],_,.nil,_,_,_,_=>.nil
 |p::ps,v::vs,w::B,x::xs,y::ys,.cons h1 L,.cons h2 M,g,q,D =>
  .cons (.tup (D 0 p v w rfl rfl rfl) (.cons h1 (.cons h2 .nil))) (Q6 (f:=f) L M (A1 g) (A1 q) fun j J N O F G I=>D (j+1) J N O F G I)
 |[],_,_,_::_,_,_,_,g,_,_=>nomatch g
 |_::_,_,_,[],_,_,_,g,_,_=>nomatch g
 |_::_,_,_,_::_,[],_,_,_,q,_=>nomatch q
def Jy{p p2 ay}(hc:X.calm=true)(au:X.mg "list" = none)(av:X.mg "zip" = none)(ha:CE X a ak)(hb:CE X b cb)(hg:Gl X "list":=by rfl)(aq:Gl X "zip":=by rfl)(hs:kX a=true:=by rfl)(aw:kX b=true:=by rfl):
  CE X (.Call (.Name "list" p) [.Call (.Name "zip" p2) [a,b] [] ay] [] pos) (Ut ak cb):=⟨JE.weak (kU (Qq hc) hg au rfl (qF (kU Wr aq av rfl (qF ha.h (qF hb.h ⟨yR⟩ aw) hs) (by decide) rfl hs (by grind)) ⟨yR⟩)) fun σ H Q zz=>wX zz fun ρ C R s h q f=>
  ⟨ρ,C,_,s,h,q,fun x H1 px C1 q1 B h1 U=>⟨ρ,C1,_,s.aU (U.aU h),h1,q1,fun y H2 a0 C2 g G h2 Y=>by
   have B:=B.aU (Y.aU h1)
   delta Ds at g
   split at g
   .next xs ys =>
    cases B with
    |@tup l1 vs _ hx B =>
    cases G with
    |@tup l2 ag _ hy G =>
    have lx:=B.len;refine⟨_,_,_,_,rfl,.inl (.inl hx),.inl (.inl hy),fun L M I TO z o1 o2 o3 o4 o5 D hl=>?_⟩;have F:∀{b c:Addr}{u:HO},H2 b=some u->H2 c=none->b≠c:=fun S J z=>by rw[z,J] at S;cases S
    have N:∀{n:Nat}{b:Addr}{u:HO},H2 b=some u->t6 n H2 L M I TO z l1 l2 b=some u:=fun e=>by
     delta t6
     rwa [uQ (F e o5),uQ (F e o4),uQ (F e o3),uQ (F e o2),uQ (F e o1)]
    refine⟨L,M,I,TO,z,_,_,_,_,rfl,?_,?_,?_,?_,mQ,.inl (.inl (N hx)),.inl (.inl (N hy)),lx.trans (g.1.trans G.len.symm),D,hl,fun ps l hn nd az ar ax=>?_⟩
    .delta t6;rw[uQ D.i1z,uQ (Ne.symm D.TOi1),uQ (Ne.symm D.TIi1),uQ D.i12,mQ]
    .delta t6;rw[uQ D.i2z,uQ (Ne.symm D.TOi2),uQ (Ne.symm D.TIi2),mQ]
    .delta t6;rw[uQ D.TIz,uQ D.TITO,mQ]
    .delta t6;rw[uQ D.TOz,mQ]
    .have aj:∀{b:Addr},t6 X.s₀.heap.objs.size H2 L M I TO z l1 l2 b=none->H2 b=none:=fun {b}e=>by
      cases J:H2 b with
      |none=>rfl
      |some u=>rw[N J] at e;cases e
     rw[WJ o1 o2 o3 o4 o5];have Z:=aj ar
     have ao:∀b ae,um ps vs ag b=some ae->H2 b=none:=fun b ae e=>by
      delta um at e
      split at e
      .grind
      .cases e
     refine lT (h2.jk ao) fun h3 f3 ab=>?_;have O:L2.jk H2 (um ps vs ag) l=none:=by rw[mK (by delta um;rw[Ac ax])];exact Z
     exact f _ _ _ _ (g.2 l (h2.fresh Z)) (.ref l) (h3.lay O ⟨_,mQ,dg.aU (iu.new O _) (Q6 (f:=fun _=>none) (B.aU ab) (G.aU ab) (hn.trans lx) g.1 fun j p' v' w' ah ai a3=>jU (Hr nd ah ai a3))⟩) (U.trans (Y.trans (f3.trans (Fw.lay O _ _))))
   .exact g.elim⟩⟩⟩
end
end CL
namespace PySem
open PySem.Spec PyProof.Rows PyProof.Rows.F
section
variable {prog:Program}{w:World}{κ:Type}[DecidableEq κ]{knd:KeyKind prog w κ}{A:Around}{d it t:Addr}{items:Array Value}{qs:List (List κ×Addr×Value)}{res:Value}
noncomputable def iM(acc qs:List (List κ×Addr×Value)):List (List κ×Addr×Value):=qs.foldl (fun acc q=>storedH acc q.1 q.2.1 q.2.2) acc
def rM(x:IsTupleKey knd h g a)(e:∀o,h.get? a=some o->h'.get? a=some o):IsTupleKey knd h' g a:=let ⟨o,i,n,q,r⟩:=x;⟨o,i,n,e o q,r⟩
def zS(x:h.DictOfH (tupleKind knd) d xs)(e:∀o,h.get? d=some o->h'.get? d=some o)(k:∀(g:List κ)(a:Addr),IsTupleKey knd h g a->IsTupleKey knd h' g a):h'.DictOfH (tupleKind knd) d xs :=
 let ⟨o,es,ep,q,B,D,F,G,I⟩:=x;⟨o,es,ep,e o q,B,D,F,fun x J=>k _ _ (G x J),I⟩
def QZ acc(k:List κ)a v:(storedH acc k a v).length<=acc.length+1:=by
 cases e:atKey acc k with
 |none=>rw[storedH_new e,AQ];exact AI _
 |some p=>rw[storedH_old e,AC];exact Cg _
def VL(ai:A.in1.handled=none)(hu:A.in1.units < cLine)(O:d≠it)(au:d≠t)(ax:t≠it)(ay:items[qs.length]?=none):∀r i s acc,i+r=qs.length ->
   s.heap.IsTupleIter it t i->s.heap.IsTuple t items->s.heap.DictOfH (tupleKind knd) d acc->acc.length+r<=sizeLine ->
   (∀j(h:j < qs.length),∃p,items[j]?=some (.ref p)/\p≠d/\p≠it/\s.heap.IsTuple p #[.ref qs[j].2.1,qs[j].2.2]/\IsTupleKey knd s.heap qs[j].1 qs[j].2.1) ->
   (∀h U,(∀b o,b≠d->b≠it->s.heap.get? b=some o->h.get? b=some o)->h.DictOfH (tupleKind knd) d (iM acc (qs.drop i))->R (.ok (.ret res)) { s with heap:=h,toks:=U }) ->
   codeAny (model prog w) A (.builtin "dict.update.loop" ⟨[.ref d,.ref it,rawInt i,res],[]⟩) R s:=by
 have ae:∀{h:Heap}{g:List κ}{a:Addr}{i:Nat},IsTupleKey knd h g a->h.IsTupleIter it t i->a≠it:=by
  rintro h g a i ⟨o,x,n,e,c,_⟩ ⟨o',I,G,_⟩ rfl;rw[e] at I;cases I;rw[c] at G;exact absurd G (by decide)
 have av:∀{h:Heap}{g:List κ}{a:Addr}{xs:List (List κ×Addr×Value)},IsTupleKey knd h g a->h.DictOfH (tupleKind knd) d xs->a≠d:=by
  rintro h g a xs ⟨o,x,n,e,c,D,_⟩ ⟨o',es,ep,I,_,G,_⟩ rfl;rw[e] at I;cases I;rw[D] at G;cases G
 intro r
 induction r with
 |zero =>
  intro i s acc e L tt D hz N M;have ei:i=qs.length:=by lia
  subst ei;rw[Bz] at M;exact BV jF ((Around.under_plainId vY _)▸AA (DT ai L tt ay fun h x=>AA (AD (AD (M h s.toks (fun b o _ ar q=>x b o ar q) (zS D (fun o q=>x d o O q) fun g a J=>rM J fun o q=>x a o (ae J L) q))))))
 |succ r ih =>
  intro i s acc e L tt D hz N M;have hi:i < qs.length:=by lia
  refine XU (N i hi) fun p hp az aw tp kk=>BV jF (AA (DN L tt hp fun h1 ao B=>?_));have Y:∀g a,IsTupleKey knd s.heap g a->IsTupleKey knd h1 g a:=fun g a J=>rM J fun o q=>B.extBut a o (ae J L) q;have ag:=bJ tp fun o q=>B.extBut p o aw q;refine AA (Ao (AA (wpAny_tryCatch (AA (CJ ag.typeIs ?_)))))
  obtain⟨op,e1,e2,n,e3⟩:=id ag;refine AA (A0 e1 e3 (AD (Ao (wpAny_dictSet_heap hu (Y _ _ kk) (zS D (fun o q=>B.extBut d o O q) Y) (fun h2 aj F=>?_) (by lia)))))
  have ak:iM acc (qs.drop i)=iM (storedH acc qs[i].1 qs[i].2.1 qs[i].2.2) (qs.drop (i+1)):=by
   rw[Ar hi];rfl
  refine AD ⟨BY vY _,?_⟩;have ek:rawInt ((i:Int)+1)=rawInt ((i+1:Nat):Int):=by rw[Int.natCast_add];rfl
  refine ih (i+1) _ (storedH acc qs[i].1 qs[i].2.1 qs[i].2.2) (by lia) (rR ao fun o q=>(F.2 it (Ne.symm O)).trans q) (bJ (bJ tt fun o q=>B.extBut t o ax q) fun o q=>(F.2 t (Ne.symm au)).trans q) aj ?_ (fun j hj=>?_) fun h U aq ab=>?_
  .have:=QZ acc qs[i].1 qs[i].2.1 qs[i].2.2
   lia
  .exact XU (N j hj) fun S ah Z a3 a4 a5=>⟨S,ah,Z,a3,bJ (bJ a4 fun o q=>B.extBut S o a3 q) fun o q=>(F.2 S Z).trans q,rM (Y _ _ a5) fun o q=>(F.2 _ (av a5 D)).trans q⟩
  .rw [<- ak] at ab
   exact M h U (fun b o n1 n2 q=>aq b o n1 n2 ((F.2 b n1).trans (B.extBut b o n2 q))) ab
def XQ{id}(Z:A.handled=none)(ab:G.in1.handled=none)(hu:G.in1.units < cLine)(ao:d≠t)(D:s.heap.get? t=some o)(M:o.cls=.type "tuple")(N:o.data=.seq items n)(ah:o.dict=none)(L:s.heap.DictOfH (tupleKind knd) d [])(hz:qs.length<=sizeLine)(aq:items[qs.length]?=none)(aj:∀j(h:j < qs.length),∃p,items[j]?=some (.ref p)/\p≠d/\s.heap.IsTuple p #[.ref qs[j].2.1,qs[j].2.2]/\IsTupleKey knd s.heap qs[j].1 qs[j].2.1)(B:∀(h:Heap)(F:Nat),(∀b o,b≠d->s.heap.get? b=some o->h.get? b=some o)->h.DictOfH (tupleKind knd) d (iM [] qs)->R (.ok (.ret res)) { s with heap:=h,toks:=F }):
  wpAny (model prog w) A (Builtin.Dict.updateFrom id d (.ref t) [] res) (fun B s'=>match B with | .done f=>R (.ok f) s' | .again J=>J.quiet=true/\codeAny (model prog w) G J R s') E s:=by
 have tt:s.heap.IsTuple t items:=⟨o,D,M,n,N⟩;refine AA (CJ tt.typeIs (AA (qD D M N ah Z fun h1 ar g=>AA (Bv ?_))));have O:=bJ tt fun o q=>g t o q;refine AA (Ce O ?_);have ag :=Jo L fun od es ep q _=>AH (g d od q);refine AD ⟨BY vY _,VL (knd:=knd) ab hu (AY ag) ao (AY (AH (g t o D))) aq qs.length 0 _ [] (BS _) ⟨_,AK _ rfl,rfl,rfl⟩ (O.push _) ?_ (by simp_all) (fun j hj=>?_) fun h F ai ae=>?_⟩
 .exact zS L (fun o q=>AE _ (g d o q)) fun ks a hk=>rM hk fun o q=>AE _ (g a o q)
 .refine Jp (aj j hj) fun p S U I Y=>?_
  have hp :=sQ I fun op q _=>AH (g p op q);exact⟨p,S,U,AY hp,bJ I fun o q=>AE _ (g p o q),rM Y fun o q=>AE _ (g _ o q)⟩
 .exact B h F (fun b o ak q=>ai b o ak (AY (AH (g b o q))) (AE _ (g b o q))) ae
end
end PySem
namespace L2
open PySem PySem.Spec PyProof.Rows
abbrev Er(H:Hp):List Addr->List (List Key×V)->Prop:=Paired fun a p=>∃b,H a=some (.tup [.ref b,p.2])/\H b=some (.tup (p.1.map kV))
theorem vO(q:HOk P w H h):∀{B}{ps},Er H B ps->∃qs,KT H ps qs/\B.length=qs.length /\
  ∀j(hj:j < qs.length),∃p,B[j]?=some p/\h.IsTuple p #[.ref qs[j].2.1,qs[j].2.2]/\IsTupleKey (eQ P w) h qs[j].1 qs[j].2.1
 |_,_,.nil=>⟨[],.nil,rfl,fun j hj=>absurd hj (Bq j)⟩
 |_,_,@Paired.cons _ _ _ a p Y Z ⟨b,e,D⟩ r=>by
  refine jJ (vO q r) fun rs F G I=>?_;obtain⟨_,O,g,M⟩:=(q a _ e)
  cases g with
  |@cons _ U _ its' J g =>
   cases g with
   |@cons _ N _ S L g =>
    cases g;cases J;refine⟨(p.1,b,N)::rs,.cons ⟨rfl,D,L⟩ F,by rw[AV,AV,G],fun j hj=>?_⟩
    cases j with
    |zero=>exact⟨a,rfl,M.is,qM q D⟩
    |succ j=>exact I j (Bc hj)
theorem KT.merge: ∀{ps}{qs},KT H ps qs->∀{kvs}{xs},KT H kvs xs->KT H (pU kvs ps) (iM xs qs)
 |_,_,.nil,_,_,r=>r
 |_,_,@Paired.cons _ _ _ p q F G ⟨g,B,D⟩ t,kvs,xs,r=>by
  have:=KT.put r p.1 B D;rw[g] at this
  delta pU iM
  rw[ Dc,g];exact KT.merge t this
theorem jD:∀ps kvs,(pU kvs ps).length<=kvs.length+ps.length
 |[],kvs=>AI _
 |p::ps,kvs=>by
  have h1:=jD ps (yV kvs p.1 p.2);have h2:=pW kvs p.1 p.2;unfold pU at h1 ⊢;rw[Dc,AV]
  lia
section
variable {X:Cx}
def JC(hc:X.calm=true)(hu:X.A.units+2 < cLine):CallR X (.type "dict") (fun xs H Q=>∃t L ps,xs=[.ref t]/\H t=some (.tup (List.map V.ref L))/\Er H L ps/\ps.length<=sizeLine/\∀d,H d=none->Q (.ref d) (upd H d (.dT (pU [] ps)))):=by
 intro pins s σ H xs aj Q I r h;obtain⟨t,L,ps,rfl,ht,hp,hz,q⟩:=h;obtain⟨u,rfl,rfl⟩:=r.one;obtain⟨_,ai,rv,o,h1,h2,⟨n,h3⟩,h4⟩:=(I.hok t _ ht);have ei:=lM rv;subst ei;refine jJ (vO I.hok hp) fun qs S q2 q3=>Dh (Q₁:=fun O U=>O=.ref s.heap.objs.size/\U={ s with heap:=s.heap.push { cls:=.type "dict",data:=.dict #[] } }) F.kt_called_dict (F.kt_typeCall_dict_1 _) F.entry_dict_init (kt_code_dict_new _ ⟨rfl,rfl⟩) ?_
 rintro O U ⟨rfl,rfl⟩;have N:(s.heap.push { cls:=.type "dict",data:=.dict #[] }).DictOf (eQ X.prog X.w) s.heap.objs.size []:=Heap.DictOf.new s.heap
 have ae:(s.heap.push { cls:=.type "dict",data:=.dict #[] }).DictOfH (tupleKind (eQ X.prog X.w)) s.heap.objs.size []:=by
  obtain⟨_,_,xs,k,o,es,ep,g,B,D,G,J⟩:=eL (H:=H) s.heap I.big;cases k;exact⟨o,es,ep,g,B,D,G,(fun _ z=>nomatch z),J⟩
 refine⟨N.typeIs,F.args_dict_init_2 _ _,?_⟩
 apply AA
 refine AA (B5 N.typeIs (AD ?_));have Y:=I.ok.hd hc;refine XQ (by lia) (by simp[Y]) hu (Aq (AH h1)) (AE _ h1) h2 h3 h4 ae (by rwa [<- (Paired.length S)]) ?_ (fun j hj=>?_) fun h' tk ah Z=>?_
 .simp_all
 .obtain ⟨p,e1,M,e3⟩:=(q3 j hj)
  have ag :=sQ M fun op z _=>AH z;refine⟨p,?_,AY ag,M.push _,rM e3 fun o q=>AE _ q⟩;rw[Cq,Aj,e1];rfl
 .refine GG Z fun o es ep g B D G _ J=>?_
  have ab:=jD ps [];refine⟨rfl,.ref s.heap.objs.size,_,I.laid (t':=tk) (o:=.dT (pU [] ps)) (fun b ob e=>ah b ob (AY (AH e)) (AE _ e)) (AI _) ⟨by simp at ab;lia,Cu (Aq I.big),_,(KT.merge S .nil).keeps fun b ys e=>?_,o,es,ep,g,B,D,G,J⟩,rfl,q _ (I.hok.fresh (AI _))⟩;rw[uQ (fun z=>by rw[z,I.hok.fresh (AI _)] at e;cases e)];exact e
end
end L2
namespace CL
open PySem PySem.Spec L2 PySem.W
open PyProof.Rows hiding St
section
variable {X:Cx}
noncomputable def ZL:List PV->Option (List (List Key×PV))
 |[]=>some []
 |.tup [k,v]::r=>match vB k,ZL r with
  |some k,some ps=>some ((k,v)::ps)
  |_,_=>none
 |_=>none
def Yh{K}(r:dg K H vs ts)(e:ZL ts=some ps):∃g q,vs=List.map V.ref g/\Er H g q/\FP K H q ps:=by
 induction ts generalizing vs ps with
 |nil=>cases r;cases e;exact⟨[],[],rfl,.nil,.nil⟩
 |cons t ts F =>
  cases r with
  |@cons v _ vs _ h r =>
   cases h with
   |@tup a q xs B M =>
    rcases xs with _ | ⟨k,_ | ⟨u,_ | ⟨z,xs⟩⟩⟩
    .cases e
    .cases e
    .unfold ZL at e
     split at e
     .next G Y I J =>
      cases e;obtain⟨g,U,rfl,L,p2⟩:=F r J;obtain⟨Z,S,rfl,N,O⟩:=fU M;obtain⟨b,rfl,D⟩:=iG N I;exact⟨a::g,(G,S)::U,rfl,.cons ⟨b,B,D⟩ L,.cons ⟨rfl,O⟩ p2⟩
     .cases e
    .cases e
   |_=>cases e
@[irreducible] def Qw:GC:=fun ts C Q=>match ts with
 |[.tup xs]=>match ZL xs with
  |some ps=>ps.length<=sizeLine/\∀p,C p=none->Q (.ref p) (pQ C p (.dT (jc [] ps)))
  |none=>False
 |_=>False
def Wq{K}:nq K (fun xs H Q=>∃t B ps,xs=[.ref t]/\H t=some (.tup (List.map V.ref B))/\Er H B ps/\ps.length<=sizeLine/\∀d,H d=none->Q (.ref d) (upd H d (.dT (pU [] ps)))) Qw:=fun xs ts H C Q R rs h q f=>by
 delta Qw at q
 split at q
 .split at q
  .next ps e =>
   obtain⟨v,rfl,r⟩:=oX rs
   cases r with
   |@tup a vs xs D G =>
    obtain⟨B,I,rfl,F,p2⟩:=Yh G e;refine⟨a,B,I,rfl,D,F,by rw[Paired.length p2];exact q.1,fun d g=>?_⟩;exact f _ _ _ _ (q.2 d (h.fresh g)) (.ref d) (h.lay g ⟨_,mQ,Paired.mapP (FP.jc p2 .nil) fun _ _ z=>⟨z.1,z.2.aU (iu.new g _)⟩⟩) (Fw.lay g _ _)
  .exact q.elim
 .exact q.elim
def yx(e:ZL xs=some ps)(h:ps.length<=sizeLine)(q:∀p,C p=none->Q (.ref p) (pQ C p (.dT (jc [] ps)))):Qw [.tup xs] C Q :=by grind[Qw]
@[irreducible] def Ef:j8:=fun x y C Q=>match x,y with
 |.str i,.str j=>Q (.bl (!(Builtin.Str.occurrences j i 0 j.length 1).isEmpty)) C
 |_,_=>False
def zf{K}:j5 K (fun x y H Q=>∃i j,x=.str i/\y=.str j/\Q (.bl (!(Builtin.Str.occurrences j i 0 j.length 1).isEmpty)) H) Ef:=fun x y D F H C Q R g B h q f=>by
 delta Ef at q
 split at q
 .cases g;cases B
  exact⟨_,_,rfl,rfl,f _ H _ C q (.bl _) h Fw.refl⟩
 .exact q.elim
def O2(q:Q (.bl (!(Builtin.Str.occurrences j i 0 j.length 1).isEmpty)) C):Ef (.str i) (.str j) C Q:=by
 delta Ef
 exact q
end
theorem QX{K}: ∀{l:List Str}{vs},dg K H vs (l.map PV.str)->vs=l.map V.str
 |[],_,.nil=>rfl
 |z::l,_,.cons h t=>by cases h;rw[QX t];rfl
def Wc(l:List Str):PV->Bool
 |.str z=>l.contains z
 |_=>false
@[irreducible] def Ei:j8:=fun x y C Q=>match y with
 |.kt ys=>match eF ys,tyP C x with
  |some l,some _=>Q (.bl (Wc l x)) C
  |_,_=>False
 |_=>False
def zg{K}:j5 K (N6 K false) Ei:=fun x y I L H C Q R B J h q f=>by
 delta Ei at q
 split at q
 .split at q
  .next l c D F =>
   cases J with
   |kt e r =>
    have g:=QY D;subst g;have g:=QX r;subst g;refine⟨_,l,c,rfl,.inr e,J4 B h F,?_⟩;have G:R0 l x=Wc l I:=by cases B<;>rfl
    exact G▸f _ H _ C q (.bl _) h Fw.refl
  .exact q.elim
 .exact q.elim
def O3(g:eF ys=some l)(B:tyP C x=some c)(q:Q (.bl (Wc l x)) C):Ei x (.kt ys) C Q :=by simp_all[Ei]
end CL
namespace CL
open PySem L2 PySem.W
theorem wA(I:Nat->jt->CH->Prop)(B:∀n g C(L:jt->CH->Prop),I n g C->(∀m q C',m < n->I m q C'->L q C')->t g C fun b C1=>if b=true then u (E.lp L) g C1 else E.nx g C1):∀k n g C,n < k->I n g C->Wv t u E k g C
 |0,n,_,_,h,_=>absurd h (Bq n)
 |k+1,n,g,C,h,D=>B n g C (Wv t u E k) D fun m q C' G F=>wA I B k m q C' (by lia) F
theorem yF f:∀xs acc C,Gr C0 C->acc.length+xs.length<=sizeLine->(∀x∈xs,∀C B,Gr C0 C->(∀C',Gr C C'->B (f x) C')->c (some x::J) C B)->(∀p C',C0 p=none->Gr C0 C'->C' p=some (.lst (acc++xs.map f))->Q (.ref p) C')->tJ Zc c J Q xs acc C
 |[],acc,C,g,_,_,q=>xS fun p D=>q p _ (lK g D) (g.trans (Gr.new D _)) (by rw[jQ,List.map_nil,Aa])
 |x::xs,acc,C,g,G,h,q=>by
  rw[AV] at G;refine fH (h x AG C _ g fun C' g'=>⟨by lia,yF f xs _ C' (g.trans g') (by grind) (fun y I=>h y (AJ _ I)) fun p C2 h1 h2 F=>q p C2 h1 h2 ?_⟩);rw[F,AX]
  rfl
theorem Vo:∀bs,pS (bs.map PV.bl)=some bs
 |[]=>rfl
 |b::bs=>by show(pS (bs.map PV.bl)).map _=_;rw[Vo bs];rfl
def Zg{bs:List Bool}(h:C p=some (.lst (bs.map PV.bl)))(q:Q (.bl (bs.all id)) C):Ej [.ref p] C Q:=by
 delta Ej
 dsimp only;rw[h];dsimp only
 rwa [Vo]
def hJ{p q:CH->Prop}(h:p C):iS (fun b C1=>if (!b)=true then p C1 else q C1) (.bl false) C:=h
def Ot(h:z.length<=sizeLine)(q:Q (.int z.length) C):sN [.str z] C Q:=by
 delta sN
 exact⟨h,q⟩
def YA{α:Type}lt cs(d:α):((kJ lt (kas_sort cs.length)).toList.map fun i=>cs.getD i d).Perm cs:=by
 rcases Nat.eq_zero_or_pos cs.length with z | z
 .rw [z,W1,DR.1 z]
  exact .refl _
 .have e:(List.range cs.length).map (fun i=>cs.getD i d)=cs:=by
   apply List.ext_getElem
   .grind
   .grind
  have:=(dW lt cs.length z).map fun i=>cs.getD i d
  rwa [e] at this
def eM cs:(xH cs).Perm cs:=YA _ cs _
end CL
namespace CL
open PySem PySem.Spec L2 PySem.W
open PyProof.Rows hiding St
section
variable {X:Cx}{a b c e o i f:Expr}{es:List Expr}{pos:Pos}{value:Expr}
@[irreducible] def cSlS:PV->Option Int->Option Int->CH->K1->Prop:=fun x lo hi C Q=>match x with
 |.str z=>z.length<=sizeLine/\Q (.str (Txt.slice z lo hi)) C
 |_=>False
@[irreducible] def UT:PV->List PV->CH->K1->Prop:=fun x ts C Q=>match x,ts with
 |.ref a,[.int i]=>match C a with
  |some (.lst xs)=>0<=i/\i < 10000000/\∃y,xs[i.toNat]?=some y/\Q y (pQ C a (.lst (xs.eraseIdx i.toNat)))
  |_=>False
 |_,_=>False
@[irreducible] def R7:PV->List PV->CH->K1->Prop:=fun x ts C Q=>match x,ts with
 |.ref a,[.int i,y]=>match C a with
  |some (.lst xs)=>0<=i/\i<=xs.length/\xs.length < sizeLine/\Q .non (pQ C a (.lst (xs.take i.toNat++y::xs.drop i.toNat)))
  |_=>False
 |_,_=>False
@[irreducible] def UW:j8:=fun x y C Q=>match x,y with
 |.ref a,.ref b=>match C a,C b with
  |some (.lst xs),some (.lst [])=>Q (.bl (!xs.isEmpty)) C
  |_,_=>False
 |_,_=>False
end
end CL
namespace L2
open PySem PySem.W PyProof.Rows
theorem yY lt:∀t(f:α->KasT g),kJ lt (t.bind f)=kJ lt (f (kJ lt t))
 |.ret a,f=>rfl
 |.ask i j k,f=>yY lt (k (lt i j)) f
structure qy(n:Nat)(lt:Nat->Nat->Bool):Prop where
 tr:∀i j k,i < n->j < n->k < n->lt i j=true->lt j k=true->lt i k=true
 ir:∀i,i < n->lt i i=false
 to:∀i j,i < n->j < n->i≠j->lt i j=true\/lt j i=true
def Up(lt:Nat->Nat->Bool)(p:Array Nat)(m:Nat):Prop:=∀i j,i < j->j < m->lt (p.getD i 0) (p.getD j 0)=true
def Dn(lt:Nat->Nat->Bool)(p:Array Nat)(m:Nat):Prop:=∀i j,i < j->j < m->lt (p.getD j 0) (p.getD i 0)=true
def vW(p:Array Nat)i:p.getD i 0=(p[i]?).getD 0:=by simp
def YT{α:Type}{l:List α}(nd:l.Nodup){hi}{hj:j < l.length}(e:l[i]=l[j]):i=j:=by
 have:=List.pairwise_iff_getElem.1 nd
 rcases Nat.lt_trichotomy i j with h | h | h
 .grind
 .exact h
 .grind
section
variable {n:Nat}{lt:Nat->Nat->Bool}{p:Array Nat}
def Ord.ne(o:Ord n p)(hi:i < n)(hj:j < n)(h:i≠j):p.getD i 0≠p.getD j 0:=by
 have hs:=o.size;intro e;rw[vW,vW,An (by lia),An (by lia)] at e;exact h (YT (o.nodup_iff.2 List.nodup_range) e)
def Up.ext(T:qy n lt)(o:Ord n p)(q:m < n)(h:Up lt p m)(e:lt (p.getD (m - 1) 0) (p.getD m 0)=true):Up lt p (m+1):=fun i j g hj=>by
 have h0:0 < n:=by lia
 by_cases c:j < m
 .exact h i j g c
 .have:j=m:=by lia
  subst this
  by_cases d:i=j - 1
  .rwa [d]
  .exact T.tr _ _ _ (o.lt h0 _) (o.lt h0 _) (o.lt h0 _) (h i (j - 1) (by lia) (by lia)) e
def Dn.ext(T:qy n lt)(o:Ord n p)(q:m < n)(h:Dn lt p m)(e:lt (p.getD m 0) (p.getD (m - 1) 0)=true):Dn lt p (m+1):=fun i j g hj=>by
 have h0:0 < n:=by lia
 by_cases c:j < m
 .exact h i j g c
 .have:j=m:=by lia
  subst this
  by_cases d:i=j - 1
  .rwa [d]
  .exact T.tr _ _ _ (o.lt h0 _) (o.lt h0 _) (o.lt h0 _) e (h i (j - 1) (by lia) (by lia))
def qy.no(T:qy n lt)(hi:i < n)(hj:j < n)(h:i≠j)(e:¬ lt i j=true):lt j i=true:=(T.to i j hi hj h).resolve_left e
theorem JN(T:qy n lt)(o:Ord n p):∀f m,1<=m->m+f<=n->Up lt p m->Up lt p (kJ lt (kas_asc p f m))/\m<=kJ lt (kas_asc p f m)/\kJ lt (kas_asc p f m)<=m+f/\(kJ lt (kas_asc p f m) < m+f->lt (p.getD (kJ lt (kas_asc p f m)) 0) (p.getD (kJ lt (kas_asc p f m) - 1) 0)=true)
 |0,m,h1,h2,u=>⟨u,AI _,AI _,fun h=>absurd h (A8 _)⟩
 |f+1,m,h1,h2,u=>by
  have h0:0 < n:=by lia
  have e:kJ lt (kas_asc p (f+1) m)=kJ lt (if lt (p.getD m 0) (p.getD (m - 1) 0)=true then .ret m else kas_asc p f (m+1)):=rfl;rw[e]
  by_cases c:lt (p.getD m 0) (p.getD (m - 1) 0)=true
  .exact (Ab c)▸⟨u,AI _,BX _ _,fun _=>c⟩
  .rw [Ac c]
   have:=T.no (o.lt h0 _) (o.lt h0 _) (o.ne (by lia) (by lia) (by lia)) c;refine cT (JN T o f (m+1) (Nat.succ_pos _) (by lia) (u.ext T o (by lia) this)) fun g B D q=>?_;exact⟨g,by lia,by lia,fun h=>q (by lia)⟩
theorem K0(T:qy n lt)(o:Ord n p):∀f m,2<=m->m+f<=n->Dn lt p m->∃r,kJ lt (kas_desc f p m 0)=(p,r,0)/\Dn lt p r/\m<=r/\r<=m+f
 |0,m,h1,h2,u=>⟨m,rfl,u,AI _,AI _⟩
 |f+1,m,h1,h2,u=>by
  have h0:0 < n:=by lia
  have e:kJ lt (kas_desc (f+1) p m 0)=kJ lt (if lt (p.getD m 0) (p.getD (m - 1) 0)=true then kas_desc f p (m+1) 0 else .ask (p.getD (m - 1) 0) (p.getD m 0) fun d=>if d=true then .ret (p,m,0) else kas_desc f p (m+1) (0+1)):=rfl;rw[e]
  by_cases c:lt (p.getD m 0) (p.getD (m - 1) 0)=true
  .rw [Ab c]
   refine Jp (K0 T o f (m+1) (by lia) (by lia) (u.ext T o (by lia) c)) fun r g q B D=>?_;exact⟨r,g,q,by lia,by lia⟩
  .rw [Ac c]
   refine⟨m,?_,u,AI _,by lia⟩;show kJ lt (if lt (p.getD (m - 1) 0) (p.getD m 0)=true then .ret (p,m,0) else _)=_;rw[Ab (T.no (o.lt h0 _) (o.lt h0 _) (o.ne (by lia) (by lia) (by lia)) c)]
   rfl
def WT(T:qy n lt)(o:Ord n p)(h1:1<=r)(h2:r<=n)(u:Dn lt p r):∃m q,kJ lt (kas_tail3 r n p)=(m,q)/\Ord n q/\Up lt q m/\1<=m/\m<=n:=by
 have hs:=o.size;have g:=o.rev 0 r
 have D:Up lt (kas_rev p 0 r) r:=fun i j J hj=>by
  rw[vW,vW]
  delta kas_rev
  rw[getElem?_mirror_all (by lia),getElem?_mirror_all (by lia),Ab (by lia),Ab (by lia),<- vW,<- vW];exact u _ _ (by lia) (by lia)
 delta kas_tail3
 rw[yY];refine cT (JN T g (n - r) r h1 (by lia) D) fun B F G I=>?_;exact⟨_,_,rfl,g,B,by lia,by lia⟩
def GY(T:qy n lt)(o:Ord n p)(h1:1<=n):∃m q,kJ lt (kas_count n p)=(m,q)/\Ord n q/\Up lt q m/\1<=m/\m<=n:=by
 delta kas_count
 rw[yY];obtain⟨g,D,F,B⟩:=JN T o (n - 1) 1 (AI _) (by lia) fun i j N hj=>by lia
 generalize kJ lt (kas_asc p (n - 1) 1)=r at g D F B ⊢
 by_cases c:(r==n)=true
 .exact (Ab c)▸⟨_,_,rfl,o,g,by lia,by lia⟩
 rw[Ac c]
 by_cases d:r > 1
 .rw [Ab d]
  show ∃m q,kJ lt (if lt (p.getD 0 0) (p.getD (r - 1) 0)=true then .ret (r,p) else _)=_/\_;rw[Ab (g 0 (r - 1) (by lia) (by lia))];exact⟨_,_,rfl,o,g,by lia,by lia⟩
 .rw [Ac d]
  have e:r=1:=by lia
  subst e
  have J:Dn lt p 2:=fun i j N hj=>by
   have L:i=0:=by lia
   have M:j=1:=by lia
   rw[L,M];exact B (by lia)
  delta kas_descPart
  rw[yY];refine Jp (K0 T o (n - 2) 2 (AI _) (by lia) J) fun r G I O S=>?_;exact G▸WT T o (by lia) (by lia) I
theorem xR(T:qy n lt)(o:Ord n p)(g:k < n)(u:Up lt p k):∀f l r,l<=r->r<=k->r<=l+f->(∀i,i < l->lt (p.getD i 0) (p.getD k 0)=true)->(∀i,r<=i->i < k->lt (p.getD k 0) (p.getD i 0)=true) ->
  ∃x,kJ lt (kas_place p k f l r)=x/\x<=k/\(∀i,i < x->lt (p.getD i 0) (p.getD k 0)=true)/\∀i,x<=i->i < k->lt (p.getD k 0) (p.getD i 0)=true
 |0,l,r,h1,h2,q,a,b=>⟨l,rfl,by lia,a,fun i hi=>b i (by lia)⟩
 |f+1,l,r,h1,h2,q,a,b=>by
  have h0:0 < n:=by lia
  unfold kas_place
  by_cases c:l >= r
  .exact (Ab c)▸⟨l,rfl,by lia,a,fun i hi=>b i (by lia)⟩
  .rw [Ac c]
   show ∃x,kJ lt (if lt (p.getD k 0) (p.getD ((l+r) / 2) 0)=true then kas_place p k f l ((l+r) / 2) else kas_place p k f ((l+r) / 2+1) r)=x/\_
   by_cases d:lt (p.getD k 0) (p.getD ((l+r) / 2) 0)=true
   .rw [Ab d]
    refine xR T o g u f l ((l+r) / 2) (by lia) (by lia) (by lia) a fun i B D=>?_
    by_cases e:i=(l+r) / 2
    .rwa [e]
    .exact T.tr _ _ _ (o.lt h0 _) (o.lt h0 _) (o.lt h0 _) d (u _ _ (by lia) D)
   .rw [Ac d]
    have d:=T.no (o.lt h0 _) (o.lt h0 _) (o.ne g (by lia) (by lia)) d;refine xR T o g u f ((l+r) / 2+1) r (by lia) (by lia) (by lia) (fun i B=>?_) b
    by_cases e:i=(l+r) / 2
    .rwa [e]
    .exact T.tr _ _ _ (o.lt h0 _) (o.lt h0 _) (o.lt h0 _) (u _ _ (by lia) (by lia)) d
end
theorem Ux(T:qy n lt):∀f p k,k+f=n->Ord n p->Up lt p k->Up lt (kJ lt (kas_bin f p k)) n
 |0,p,k,h,o,u=>by cases h;exact u
 |f+1,p,k,h,o,u=>by
  have hs:=o.size;show Up lt (kJ lt ((kas_place p k k 0 k).bind fun l=>kas_bin f (bubble p k (k - l)) (k+1))) n;rw[yY];refine Jp (xR T o (by lia) u k 0 k (AW _) (AI _) (Br _ _) (fun i h=>absurd h (Bq _)) fun i h h'=>absurd h' (by lia)) fun x e F a b=>?_;rw[e];refine Ux T f _ (k+1) (by lia) (o.bubble _ _) fun i j D hj=>?_
  have q:∀i,(bubble p k (k - x)).getD i 0=if i=x then p.getD k 0 else if x < i/\i<=k then p.getD (i - 1) 0 else p.getD i 0:=fun i=>by
   have ex:k - (k - x)=x:=by lia
   rw[vW,getElem?_bubble (by lia) _ (by lia),ex]
   split
   .rw [<- vW]
   .split<;>rw[<- vW]
  rw[q,q]
  by_cases g:i=x
  .rw [Ab g,Ac (by lia),Ab (by lia)]
   exact b _ (by lia) (by lia)
  .rw [Ac g]
   by_cases B:j=x
   .rw [Ab B,Ac (by lia)]
    exact a _ (by lia)
   .split<;>split
    .exact u _ _ (by lia) (by lia)
    .exact u _ _ (by lia) (by lia)
    .exact u _ _ (by lia) (by lia)
    .exact u _ _ (by lia) (by lia)
def ux(T:qy n lt)(h:1<=n):Up lt (kJ lt (kas_sort n)) n:=by
 delta kas_sort
 rw[yY];refine GH (GY T (p:=List.toArray (List.range n)) (by exact .refl _) h) fun m q e o u h1 h2=>?_;rw[e]
 split
 .exact Ux T _ _ _ (by lia) o (by grind)
 .have:m=n:=by lia
  subst this;exact u
end L2
namespace CL
open PySem PySem.Spec L2 PySem.W
open PyProof.Rows hiding St
def ut{y:Str}(h:x.cps.toList=y.cps.toList):x=y:=by
 cases x;cases y;simpa using h
theorem cR:∀x,HT.jm x x=false
 |[]=>rfl
 |x::xs=>by rw[HT.jq,Ab rfl];exact cR xs
theorem fI:∀x y z,HT.jm x y=true->HT.jm y z=true->HT.jm x z=true
 |[],[],_,h,_=>by cases h
 |[],_::_,[],_,h=>by cases h
 |[],_::_,_::_,_,_=>rfl
 |_::_,[],_,h,_=>by cases h
 |_::_,_::_,[],_,h=>by cases h
 |x::xs,y::ys,z::zs,h,g=>by
  rw[HT.jq] at h g ⊢
  by_cases q:x=y
  .subst q
   rw[Ab rfl] at h
   by_cases B:x=z
   .rw [Ab B] at g ⊢;exact fI xs ys zs h g
   .lia
  .grind
theorem KB:∀x y,x≠y->HT.jm x y=true\/HT.jm y x=true
 |[],[],h=>absurd rfl h
 |[],_::_,_=>.inl rfl
 |_::_,[],_=>.inr rfl
 |x::xs,y::ys,h=>by
  rw[HT.jq,HT.jq]
  by_cases e:x=y
  .subst e
   rw[Ab rfl,Ab rfl];exact KB xs ys fun z=>h (by rw[z])
  .by_cases c:x.cps.toList < y.cps.toList
   .lia
   .by_cases d:y.cps.toList < x.cps.toList
    .lia
    .exact absurd (ut (List.le_antisymm d c)) e
theorem IK(h:x.1≠y.1):Ha x y=HT.jm x.1 y.1:=Ac h
section
variable {cs:List (List Str×Int)}(nd:(cs.map (·.1)).Nodup){i j:Nat}(hi:i < cs.length)(hj:j < cs.length)
include nd hi hj
theorem Fd(h:i≠j):(cs.getD i ([],0)).1≠(cs.getD j ([],0)).1:=fun e=>by
 have e:(cs.map (·.1))[i]'(by simp_all)=(cs.map (·.1))[j]'(by rwa [AC]) :=by simp_all
 exact h (YT nd e)
def oP:lN cs i j=true↔HT.jm (cs.getD i ([],0)).1 (cs.getD j ([],0)).1=true :=by grind[lN,Ha,cR,IK,Fd]
end
def Hu(nd:(cs.map (·.1)).Nodup):qy cs.length (lN cs) :=
 ⟨fun i j k hi hj q h g=>(oP nd hi q).2 (fI _ _ _ ((oP nd hi hj).1 h) ((oP nd hj q).1 g)),fun i _=>by
  delta lN Ha
  rw[Ab rfl]
  exact AM (Int.lt_irrefl _),fun i j hi hj h=>(KB _ _ (Fd nd hi hj h)).imp (oP nd hi hj).2 (oP nd hj hi).2⟩
def Ko(nd:(cs.map (·.1)).Nodup):(xH cs).Pairwise fun x y=>HT.jm x.1 y.1=true:=by
 rcases Nat.eq_zero_or_pos cs.length with z | z
 .exact (DR.1 z)▸List.Pairwise.nil
 .have u:=ux (Hu nd) z
  have o:=dW (lN cs) cs.length z;have hs:=o.size;rw[List.pairwise_iff_getElem];intro i j hi hj g
  delta xH at hi hj ⊢
  rw[AC,Ay,hs] at hi hj;have:=u i j g hj;rw[List.getElem_map,List.getElem_map];rw[vW,vW,An (by lia),An (by lia)] at this;have h1:(kJ (lN cs) (kas_sort cs.length))[i]'(by lia) < cs.length:=by have:=o.lt z i;rw[vW,An (by lia)] at this;exact this
  have h2:(kJ (lN cs) (kas_sort cs.length))[j]'(by lia) < cs.length:=by have:=o.lt z j;rw[vW,An (by lia)] at this;exact this
  exact(oP nd h1 h2).1 this
def v5(p:cs.Perm ds)(nd:(cs.map (·.1)).Nodup):xH cs=xH ds:=by
 refine List.Perm.eq_of_pairwise (fun a b _ _ h g=>?_) (Ko nd) (Ko ((p.map _).nodup_iff.1 nd)) ((eM cs).trans (p.trans (eM ds).symm));have:=fI _ _ _ h g;rw[cR] at this;cases this
section
variable {X:Cx}{e o:Expr}{es:List Expr}
@[irreducible] def cIsiTs:GC:=fun ts C Q=>match ts with
 |[x,.tup ys]=>∃(g:List Ty)(n:Ty),ys=g.map (fun T=>PV.ty (mB T))/\tyP C x=some n/\Q (.bl (g.any (aW n))) C
 |_=>False
@[irreducible] def TY(g:d8):d8:=fun q C Q=>g q C fun x C1=>match x with
 |.str z=>z.length<=1000000/\∀y:Str,y.length<=3 * z.length->Q (.str y) C1
 |_=>False
end
@[irreducible] def cNInT:j8:=fun x y C Q=>match x,y with
 |.str i,.str j=>Q (.bl (!(!(Builtin.Str.occurrences j i 0 j.length 1).isEmpty))) C
 |_,_=>False
@[irreducible] def cEqNil:j8:=fun x y C Q=>match x,y with
 |.ref a,.ref b=>match C a,C b with
  |some (.lst xs),some (.lst [])=>Q (.bl xs.isEmpty) C
  |_,_=>False
 |_,_=>False
@[irreducible] def cIsB:j8:=fun x y C Q=>match x,y with
 |.bl a,.bl b=>Q (.bl (a==b)) C
 |_,_=>False
section
variable {X:Cx}{a b c e o i f value:Expr}{es:List Expr}{pos pos':Pos}
@[irreducible] def UL:PV->PV->CH->K1->Prop:=fun x y C Q=>match x with
 |.ref a=>match C a,vB y with
  |some (.dT kvs),some k=>match aZ kvs k with
   |some v=>Q v (pQ C a (.dT (kvs.filter fun g=>decide (g.1≠k))))
   |none=>False
  |_,_=>False
 |_=>False
@[irreducible] def cNotB:j8:=fun x y C Q=>match x,y with
 |.bl a,.bl b=>Q (.bl (!(a==b))) C
 |_,_=>False
@[irreducible] def cSlU:PV->Option Int->Option Int->CH->K1->Prop:=fun x lo hi C Q=>match x with
 |.tup xs=>Q (.tup (Wl xs lo hi)) C
 |_=>False
end
end CL
namespace L2
open PySem PySem.W PySem.Spec PyProof.Rows
abbrev q8:=iK×Key
abbrev m7(H:Hp):List (q8×V)->List (q8×Addr×Value)->Prop:=Paired fun p q=>p.1=q.1/\lz H p.1 q.2.1/\RelV p.2 q.2.2
def m7.val(r:m7 H kvs xs)k:RelO (gW kvs k) ((atKey xs k).map (·.2)):=by
 induction r with
 |nil=>exact True.intro
 |@cons p q ps qs h t g =>
  obtain⟨h1,_,h2⟩:=h
  by_cases e:p.1=k
  .have b:atKey (q::qs) k=some q.2:=by simp[atKey,List.find?_cons,h1.symm.trans e]
   rwa [gB e,b]
  .have b:atKey (q::qs) k=atKey qs k:=by
    simp[atKey,List.find?_cons,(show ¬ q.1=k from fun z=>e (h1.trans z))]
   rwa [bB e,b]
def m7.repl(r:m7 H kvs xs)k(F:RelV y u):
  m7 H (kvs.map fun g=>if g.1=k then (g.1,y) else g) (xs.map (putAt k u)):=by
 induction r with
 |nil=>exact .nil
 |@cons p q ps qs h t B =>
  refine lT h fun h1 h2 D=>.cons ?_ B
  delta putAt
  by_cases e:p.1=k
  .lia
  .lia
def m7.put(r:m7 H kvs xs)(k:q8)(B:lz H k b)(g:RelV y u):
  m7 H (yV kvs k y) (storedH xs k b u):=by
 have e:(kvs.any fun D=>decide (D.1=k))=(atKey xs k).isSome:=by
  rw[nC,(m7.val r k).isSome_eq,Option.isSome_map]
 delta yV storedH
 rw[e]
 by_cases q:(atKey xs k).isSome=true
 .rw [Ab q,Ab q];exact m7.repl r k g
 .rw [Ac q,Ac q];exact Paired.snoc r ⟨rfl,B,g⟩
def m7.keeps(r:m7 H kvs xs)(g:∀b ys,H b=some (.tup ys)->H' b=some (.tup ys)):m7 H' kvs xs :=
 Paired.mapP r fun _ _ z=>⟨z.1,z.2.1.mono g,z.2.2⟩
section
variable {P:Program}{w:World}{H:Hp}{h:Heap}{a:Addr}
def uI{k:q8}(g:HOk P w H h)(e:lz H k a):(zU (eQ P w)).is h k a:=by
 obtain⟨p,q,D⟩:=e;obtain⟨_,J,r,o,h1,h2,⟨n,B⟩,_⟩:=(g a _ q)
 cases r with
 |@cons _ M _ its' F r =>
  cases r with
  |@cons _ I _ L G r =>
   cases r;cases F;exact⟨o,_,n,p,I,h1,h2,B,rfl,oM g D,xE G⟩
def GL{kvs:List (q8×V)}(D:HOk P w H h)(e:H a=some (.dN kvs)):kvs.length<=sizeLine/\(a==sysModules)=false /\
  ∃xs,m7 H kvs xs/\h.DictOfH (zU (eQ P w)) a xs:=by
 obtain⟨z,y,xs,r,o,es,ep,h1,h2,G,I,J⟩:=(D a _ e);refine⟨z,y,xs,r,o,es,ep,h1,h2,G,I,fun x g=>?_,J⟩
 have F:∀{l:List (q8×V)}{m:List (q8×Addr×Value)},m7 H l m->∀x∈m,(zU (eQ P w)).is h x.1 x.2.1:=by
  intro l m q
  induction q with
  |nil=>intro x g;exact nomatch g
  |@cons p q ps qs B t L =>
   intro x g
   rcases Ai.mp g with e | g
   .subst e
    exact uI D (B.1▸B.2.1)
   .exact L x g
 exact F r x g
end
def RV(H:Hp)(a:Addr)(y:V)(r:Option V):Prop:=∃kvs k b,H a=some (.dN kvs)/\y=.ref b/\lz H k b/\r=gW kvs k
def RT(H:Hp)(a:Addr)(y v:V)(H':Hp):Prop:=∃kvs k b,H a=some (.dN kvs)/\y=.ref b/\lz H k b/\kvs.length < sizeLine/\H'=upd H a (.dN (yV kvs k v))
section
variable {X:Cx}{pins:List (Addr×Obj)}{σ:St}{H:Hp}{s:Shared}{a:Addr}{y v:V}{u r:Value}{o:Option V}{A:Around}{E:Value->Shared->Prop}
def VY(hu:A.units+3 < cLine)(I:Inv X pins σ H s)(g:RT H a y v H')(ry:RelV y u)(rv:RelV v r)(h:∀s',Inv X pins σ H' s'->Q () s'):
  wpAny (model X.prog X.w) A (setItem (.ref a) u r) Q E s:=by
 refine Mf g fun kvs k b e N B l M=>?_;subst N M;cases ry;obtain⟨z,Y,xs,G,J⟩:=GL I.hok e;have hz:xs.length<=sizeLine:=by rwa [<- Paired.length G]
 have Z:(yV kvs k v).length<=sizeLine:=by have:=pW kvs k v;lia
 refine wpAny_setItem_heap (qG hu) (uI I.hok B) J fun h' L hs=>h _ (GG L fun q es ep F h2 O S _ U=>kC I (e▸True.intro) hs ⟨q,F⟩ ⟨Z,Y,_,m7.keeps (m7.put G k B rv) fun c ys D=>?_,q,es,ep,F,h2,O,S,U⟩);rw[uQ (Kv D e (fun z=>nomatch z))];exact D
def Iz(L:A.units+3 < cLine)(I:Inv X pins σ H s)(g:RV H a y o)(N:RelV y u)(h:∀F s',Inv X pins σ H s'->RelV (o.getD .non) F->Q F s'):
  wpAny (model X.prog X.w) A (call (.builtin "dict.get") [.ref a,u]) Q E s:=by
 obtain⟨kvs,k,b,e,rfl,G,l⟩:=g;cases N;obtain⟨z,J,xs,M,D⟩:=GL I.hok e;refine Cz BL D.typeIs Cj (PySem.F.args_dict_get_2 _ _) (meetsH_dict_get (zU (eQ X.prog X.w)) a b J) ⟨qG L,k,xs,uI I.hok G,D,h _ _ (I.tok _) ?_⟩;rw[l];have q:=m7.val M k
 cases z:gW kvs k with
 |none =>
  cases B:atKey xs k with
  |none=>rfl
  |some p=>rw[z,B] at q;exact q.elim
 |some O =>
  cases B:atKey xs k with
  |none=>rw[z,B] at q;exact q.elim
  |some p=>rwa [z,B] at q
def yw{kvs:List (q8×V)}(I:Inv X pins σ H s)(e:H a=some (.dN kvs)):s.TypeIs (.ref a) "dict":=by
 obtain⟨_,_,xs,_,g⟩:=GL I.hok e;exact g.typeIs
end
section
variable {X:Cx}{o i e value:Expr}{pos pos':Pos}{td ty tv:TE}
def NT(td ty tv:TE):TS:=fun D σ H=>tv σ H fun v H1=>td σ H1 fun x H2=>ty σ H2 fun y q=>∃a g,x=.ref a/\RT q a y v g/\D.nx σ g
def vh(M:X.A.units+3 < cLine)(L:PE X o td)(hi:PE X i ty)(N:PE X value tv)(hs:swapsWith value (some (.Subscript o i pos')) pos.line X.env=pure false):
  PS X (.Assign [.Subscript o i pos'] value pos) (NT td ty tv):=by
 intro pins s σ H ag I h;refine wpAny_Assign_Subscript (thn (N pins s σ H _ I h) fun r ab q=>vZ q fun v H1 D Y O=> thn (L pins ab σ H1 _ D O) fun u ae q=>vZ q fun x H2 F Z S=> thn (hi pins ae σ H2 _ F S) fun iv ah zq=>?_) hs;obtain⟨y,H3,G,ry,a,B,rfl,g,U⟩:=zq;obtain rfl:u=Value.ref a:=Z;exact VY M G g ry Y fun ai J=>⟨σ,B,J,U⟩
def NK:TE:=fun _ H Q=>∀p,H p=none->Q (.ref p) (upd H p (.dN []))
def GM(h:Heap)(B:sysModules < h.objs.size):ObjOk P w H (h.push { cls:=.type "dict",data:=.dict #[] }) h.objs.size (.dN []):=by
 obtain⟨z,y,xs,r,o,es,ep,h1,h2,g,q,D⟩:=(show ObjOk P w H (h.push { cls:=.type "dict",data:=.dict #[] }) h.objs.size (.dT []) from eL h B);cases r;exact⟨z,y,[],.nil,o,es,ep,h1,h2,g,q,Bi⟩
def vy:PE X (.Dict [] [] pos) NK:=by
 intro pins s σ H Q I h;exact DO ⟨.ref s.heap.objs.size,_,I.laid (t':=s.toks) (fun _ _ q=>AE _ q) (AI _) (GM s.heap I.big),rfl,h _ (I.hok.fresh (AI _))⟩
def Fo:V->List V->Hp->VK->Prop:=fun x vs H Q=>∃a y o,x=.ref a/\vs=[y]/\RV H a y o/\Q (o.getD .non) H
def Kw(D:X.A.units+3 < cLine):MtR X "dict.get" Fo:=by
 intro pins s σ H x vs v M Q I L J h;obtain⟨a,y,o,rfl,rfl,g,q⟩:=h;cases L;obtain⟨u,rfl,G⟩:=J.one;exact Iz D I g G fun N s' B F=>⟨_,H,B,F,q⟩
def P0{kvs:List (q8×V)}(e:H a=some (.dN kvs)):UB X "dict" (.ref a) H:=by
 intro pins σ s v I r;cases r;refine⟨yw I e,fun b g=>?_⟩;cases g;obtain⟨_,_,_,_,o,_,_,q,B,_⟩:=(I.hok a _ e);exact⟨o,q,B.2.1⟩
end
end L2
namespace CL
open PySem PySem.Spec L2 PySem.W
open PyProof.Rows hiding St
section
variable {X:Cx}{a b c e o i f value:Expr}{es:List Expr}{pos pos':Pos}
noncomputable def ZW:PV->Option q8
 |.tup [p,k]=>match gD p,fV k with
  |some p,some k=>some (p,k)
  |_,_=>none
 |_=>none
def Xu{K}(r:Rep K H v t)(e:ZW t=some k):∃b,v=.ref b/\lz H k b:=by
 delta ZW at e
 split at e
 .split at e
  .next I G g q =>
   cases e
   cases r with
   |tup h r =>
    cases r with
    |cons D r =>
     cases r with
     |cons F r =>
      cases r;obtain⟨b,rfl,B⟩:=dB D g;exact⟨_,rfl,b,by rw[h,xU F q],B⟩
  .cases e
 .cases e
def Rt:d8:=fun _ C Q=>∀p,C p=none->Q (.ref p) (pQ C p (.dN []))
def Vb:CE X (.Dict [] [] pos) Rt:=⟨JE.weak ⟨vy⟩ fun σ H Q B=>wX B fun D C R s h q f=> fun p g=>f (.ref p) _ (.ref p) _ (q p (h.fresh g)) (.ref p) (h.lay g ⟨[],mQ,.nil⟩) (Fw.lay g _ _)⟩
@[irreducible] def Vi:PV->PV->PV->CH->(CH->Prop)->Prop:=fun x y v C Q=>match x with
 |.ref a=>match C a,ZW y with
  |some (.dN kvs),some k=>kvs.length < sizeLine/\Q (pQ C a (.dN (gm kvs k v)))
  |_,_=>False
 |_=>False
def Rr(F D G:d8):j7:=fun E g C=>G g C fun v C1=>F g C1 fun x C2=>D g C2 fun y q=>Vi x y v q fun B=>E.nx g B
def K5{L M}(hu:X.A.units+3 < cLine)(Z:CE X o S)(hi:CE X i L)(hv:CE X value M)(hs:swapsWith value (some (.Subscript o i pos')) pos.line X.env=pure false:=by rfl):
  CS X (.Assign [.Subscript o i pos'] value pos) (Rr S L M):=⟨JS.weak ⟨vh hu Z.h.h hi.h.h hv.h.h hs⟩ fun ae σ H zz=>wX zz fun G C E s h q f=>
 ⟨G,C,_,s,h,q,fun v H1 ag C1 q1 rv h1 B=>⟨G,C1,_,s.aU (B.aU h),h1,q1,fun x H2 px C2 q2 rx h2 D=>⟨G,C2,_,(s.aU (B.aU h)).aU (D.aU h1),h2,q2,fun y J ah C3 g ry O F=>by
  delta Vi at g
  split at g
  .next a =>
   split at g
   .next kvs k N U =>
    have ab:=rx.aU (F.aU h2);cases ab;obtain⟨vs,I,r⟩:=(O a _ N);obtain⟨b,rfl,Y⟩:=Xu ry U;have m:iu J (upd J a (.dN (yV vs k v))):=iu.mut I rfl _;refine⟨a,_,rfl,⟨vs,k,b,I,rfl,Y,by exact(Paired.length r)▸g.1,rfl⟩,f.nx σ _ G _ g.2 ((((s.aU (B.aU h)).aU (D.aU h1)).aU (F.aU h2)).aU m) (O.put I rfl ⟨_,mQ,Paired.mapP (FP.gm r k (rv.aU ((D.trans F).aU h1))) fun _ _ z=>⟨z.1,z.2.aU m⟩⟩) (B.trans (D.trans (F.trans (Fw.put N _ _))))⟩
   .exact g.elim
  .exact g.elim⟩⟩⟩⟩
def OJ(x:PV)(C:CH):Prop:=∃a kvs,x=.ref a/\C a=some (.dN kvs)
def yo(d:OJ t C)(r:Rep X.K H x t)(h:dh X.K H C):UB X "dict" x H:=by
 obtain⟨a,kvs,rfl,e⟩:=d;cases r;exact sQ (h a _ e) fun vs g _=>P0 g
@[irreducible] def Vm:PV->List PV->CH->K1->Prop:=fun x ts C Q=>match x,ts with
 |.ref a,[y]=>match C a,ZW y with
  |some (.dN kvs),some k=>Q ((aZ kvs k).getD .non) C
  |_,_=>False
 |_,_=>False
def X6{K}:su K Fo Vm:=fun x N xs ps H C Q R L rs h q f=>by
 delta Vm at q
 split at q
 .next a y =>
  split at q
  .next kvs k D F =>
   obtain⟨v,rfl,M⟩:=oX rs;cases L;obtain⟨vs,I,r⟩:=(h a _ D);obtain⟨b,rfl,G⟩:=Xu M F;refine⟨a,.ref b,gW vs k,rfl,rfl,⟨vs,k,b,I,rfl,G,rfl⟩,?_⟩
   rcases FP.val r k with ⟨v,t',g,B,J⟩ | ⟨g,B⟩
   .rw [B] at q;exact g▸f _ H _ C q J h Fw.refl
   .rw [B] at q;exact g▸f _ H _ C q .non h Fw.refl
  .exact q.elim
 .exact q.elim
def cBMN(D:PV->List PV->CH->K1->Prop)(B:d8)(q:o7):d8:=fun g C Q=>B g C fun x C1=>OJ x C1/\q g C1 fun xs C2=>D x xs C2 Q
def Ui{id}{apos cpos}(pa:PlainAttrs "dict")(ae:Slot "dict" name id)(ab:typeOf (.builtin id)=pure (.type "method_descriptor"))(Z:MtR X id r)(hr:su X.K r L)(ho:CE X o J)(N:CA X (e::es) I)(S:attributeBase o name X.env (eval o X.env)=eval o X.env:=by rfl)(U:((backTo cpos (starEach (e::es) X.env)).all (fun x=>!x.1)&&(backToKw cpos (keywordEach [] X.env)).all (fun x=>x.1.isSome)
   && decide ((e::es).length+([]:List Keyword).length+(if ([]:List Keyword).isEmpty then 0 else 1) < 30))=true:=by rfl)(Y:(apos.endLine==cpos.line)=true:=by rfl)(hs:kX e=true:=by rfl)(O:es.all kX=true:=by rfl):
  CE X (.Call (.Attribute o name apos) (e::es) [] cpos) (cBMN L J I) :=
 ⟨JE.weak ⟨Yy pa ae ab Z ho.h.h N.h.h S U Y (iZ hs) (bW O)⟩ fun σ H Q zz=>wX zz fun G C R s h q f=>
 ⟨G,C,_,s,h,q,fun x H1 px C1 D F h1 g=>⟨yo D.1 F h1,G,C1,_,s.aU (g.aU h),h1,D.2,fun xs H2 ps C2 q2 rs h2 B=>
  hr x px xs ps H2 C2 Q R (F.aU (B.aU h1)) rs h2 q2 fun v H' t C' q' r' h' M=>f v H' t C' q' r' h' (g.trans (B.trans M))⟩⟩⟩
def YO{Q}(m:C p=some (.dN kvs))(g:ZW y=some k)(h:kvs.length<=1000)(q:Q (pQ C p (.dN (gm kvs k v)))):Vi (.ref p) y v C Q:=by
 delta Vi
 dsimp only;exact m▸g▸⟨Ah h (by decide),q⟩
def YS(m:C p=some (.dN kvs))(g:ZW y=some k)(B:(aZ kvs k).getD .non=v)(q:Q v C):Vm (.ref p) [y] C Q :=by simp_all[Vm]
end
end CL
namespace L2
open PySem PySem.W PySem.Spec PyProof.Rows
def HB(g:List (TE×TE)):TE:=fun σ H Q=>∀p,H p=none->pA g σ (upd H p (.dP [])) fun ps H2=>H2 p=some (.dP [])/\∃b k v,ps=[(.ref b,v)]/\lw H2 k b/\Q (.ref p) (upd H2 p (.dP [(k,v)]))
def Yu(hu:X.A.units+2 < cLine)(h:PPs X pos keys values ag)(ab:keys.all (·.isSome)=true)(hl:keys.length=values.length)(h0:keys≠[])(O:keys.length<=15):PE X (.Dict keys values pos) (HB ag):=by
 intro pins s σ H Q I q;have J:=I.laid (h':=s.heap.push { cls:=.type "dict",data:=.dict #[] }) (t':=s.toks) (fun _ _ q=>AE _ q) (AI _) (XZ s.heap I.big);refine wpAny_Dict_any ab hl h0 O (thn (h pins _ σ _ _ J (q _ (I.hok.fresh (AI s.heap.objs.size)))) ?_);rintro ah ae ⟨ps,H2,g,B,e,b,k,v,rfl,G,q2⟩
 cases B with
 |@cons _ w2 _ ah r rv =>
  cases rv;obtain⟨u,u2⟩:=w2;obtain⟨rfl,r2⟩:=r;obtain⟨z,Z,xs,B,M⟩:=XY g.hok e;have hx:xs=[]:=by cases B;rfl
  subst hx
  (delta storeAll;rw[List.forIn_cons])
  refine AA (AA (wpAny_dictSet_heap (BE hu) (oM g.hok G) M (fun h' N hs=>AD (GG N fun o es ep F h2 S U _ Y=>?_)) (AW _)));have L:=kC (t':=ae.toks+(fY (eQ X.prog X.w)).draws k) g (e▸True.intro) hs ⟨o,F⟩ (show ObjOk X.prog X.w (upd H2 s.heap.objs.size (.dP [(k,v)])) h' s.heap.objs.size (.dP [(k,v)]) from⟨ie 1 rfl,Z,_,KPt.keeps (.cons ⟨rfl,G,r2⟩ .nil) fun c ys D=>(uQ (Kv D e (fun z=>nomatch z))).trans D,o,es,ep,F,h2,S,U,Y⟩)
  exact AD ⟨.ref s.heap.objs.size,_,L,rfl,q2⟩
end L2
namespace CL
open PySem PySem.Spec L2 PySem.W
open PyProof.Rows hiding St
section
variable {X:Cx}{pos:Pos}{keys:List (Option Expr)}{values:List Expr}{cs:List (d8×d8)}
@[irreducible] def mP(p:Addr):List (PV×PV)->CH->K1->Prop:=fun ts C Q=>C p=some (.dP [])/\match ts with
 |[(x,y)]=>match gD x with
  |some k=>Q (.ref p) (pQ C p (.dP [(k,y)]))
  |none=>False
 |_=>False
def MF(cs:List (d8×d8)):d8:=fun g C Q=>∀p,C p=none->JH cs g (pQ C p (.dP [])) fun ts C2=>mP p ts C2 Q
def Ub(Y:X.A.units+2 < cLine)(h:Ss X pos keys values cs)(S:keys.all (·.isSome)=true:=by rfl)(U:keys.length=values.length:=by rfl)(h0:keys≠[]:=by exact fun z=>nomatch z)(O:keys.length<=15:=by decide):CE X (.Dict keys values pos) (MF cs) :=
 ⟨JE.weak ⟨Yu Y h.h S U h0 O⟩ fun σ H Q zz=>wX zz fun ρ C R s I q f=> fun p B=>by
  refine Z4 (C:=pQ C p (.dP [])) (s.aU (iu.new B _)) (I.lay B ⟨[],mQ,.nil⟩) (q p (I.fresh B)) fun vs H2 ts C2 g F h2 N=>?_;unfold mP at g;obtain⟨G,g⟩:=g
  split at g
  .next x y =>
   split at g
   .next k L =>
    cases F with
    |@cons Z _ _ _ J F =>
     cases F;obtain⟨ag,ae⟩:=Z;obtain⟨b,M,pk⟩:=(dB J.1 L);subst M;obtain⟨ab,D,ru⟩:=(h2 p _ G);have z:ab=[]:=by cases ru;rfl
     subst z;exact⟨D,b,k,ae,rfl,pk,f _ _ _ _ g (.ref p) (h2.put D rfl ⟨_,mQ,.cons ⟨rfl,J.2.aU (iu.mut D rfl _)⟩ .nil⟩) ((Fw.lay B _ _).trans (N.trans (Fw.put G _ _)))⟩
   .exact g.elim
  .exact g.elim⟩
def VG(m:C p=some (.dP []))(g:gD x=some k)(q:Q (.ref p) (pQ C p (.dP [(k,y)]))):mP p [(x,y)] C Q :=by grind[mP]
end
end CL
namespace K29
open PySem L2
abbrev U0:List Str:=["_law_line","_law_spot","_law_answers_here","_law_turns","_law_reads","_law_number_here","_law_hands","_law_event","_law_rank","_law_last","_law_changes","_law_some","_law_sets"]
abbrev U1:List Str:=["_law_lines","_law_asked","_law_turns","_law_found","_law_counts"]
abbrev U2:List Str:=["_law_one","_law_answers_here","_law_turns","_law_reads"]
abbrev U3:List Str:=["_law_pairs","_law_answers_here","_law_turns","_law_reads"]
abbrev U4:List Str:=["_law_row_here","_law_spots","_law_downs"]
abbrev U5:List Str:=["_law_line","_law_spot","_law_answers_here","_law_turns","_law_reads"]
abbrev U6:List Str:=["_law_tape_here"]
abbrev U7:List Str:=["_law_lines","_law_answers_here","_law_turns","_law_reads"]
abbrev U8:List Str:=["_law_house","_law_values","_law_due"]
abbrev U9:List Str:=["_law_part","_law_answers_here","_law_reads","_law_row_here","_law_works"]
abbrev Ni:List Str:=["_law_one","_law_other"]
abbrev U11:List Str:=["_law_house","_law_values","_law_fresh_here","_law_old"]
abbrev U12:List Str:=["_law_house","_law_values"]
abbrev U13:List Str:=["_law_house","_law_name"]
abbrev U14:List Str:=["_law_piece_here","_law_answers_here"]
noncomputable def top(i:Nat):Stmt:=PySem.Challenge.pw_viewwood_k29_handed_and_unread.main.body.getD i (.Pass ⟨0,0,0,0⟩)
noncomputable def tab:List CL.Row:=[
 ⟨none,"is_number","is_number",(top 4),["thing"],["thing"]⟩,
 ⟨none,"is_name","is_name",(top 5),["thing"],["thing"]⟩,
 ⟨none,"cut","cut",(top 6),["number"],["number"]⟩,
 ⟨none,"alike","alike",(top 7),["one","other"],["one","other","pairs","pair","inner"]⟩,
 ⟨none,"pairs_within","pairs_within",(top 8),["one","other"],["one","other","kind"]⟩,
 ⟨none,"dict_pairs","dict_pairs",(top 9),["one","other"],["one","other","own","key","pairs"]⟩,
 ⟨none,"kind_of","kind_of",(top 10),["thing"],["thing"]⟩,
 ⟨none,"number_of","number_of",(top 13),["reckoning","answers","turns","asked"],["reckoning","answers","turns","asked","word","question","first","taken","second"]⟩,
 ⟨none,"joined","joined",(top 14),["word","first","second"],["word","first","second"]⟩,
 ⟨none,"part_of","part_of",(top 16),["house","name"],["house","name","part"]⟩,
 ⟨none,"drawn","drawn",(top 20),["part","answers"],["part","answers","drawer","row","works"]⟩,
 ⟨none,"lets_piece","lets_piece",(top 21),["part","piece"],["part","piece"]⟩,
 ⟨none,"reads_fit","reads_fit",(top 22),["thing"],["thing"]⟩,
 ⟨none,"read_fits","read_fits",(top 23),["thing"],["thing","question"]⟩,
 ⟨none,"parts_in","parts_in",(top 25),["row"],["row","told"]⟩,
 ⟨none,"gather","gather",(top 26),["row","spots","downs","told"],["row","spots","downs","told","want","here"]⟩,
 ⟨none,"laid_over","laid_over",(top 27),["downs","nearer"],["downs","nearer","numbers"]⟩,
 ⟨none,"asked_by","asked_by",(top 28),["entry"],["entry"]⟩,
 ⟨none,"answers_at","answers_at",(top 31),["gives","downs","boxes"],["gives","downs","boxes","answers","sort","pairs","name","number"]⟩,
 ⟨none,"boxes_at","boxes_at",(top 32),["part","values","path"],["part","values","path","kept"]⟩,
 ⟨none,"answers_due","answers_due",(top 33),["house","values","due"],["house","values","due","boxes"]⟩,
 ⟨none,"answered","answered",(top 34),["piece","answers"],["piece","answers"]⟩,
 ⟨none,"lets_due","lets_due",(top 35),["house","values","due","entry"],["house","values","due","entry"]⟩,
 ⟨none,"lets_drawing","lets_drawing",(top 36),["house","values","drawing"],["house","values","drawing","walk","entry"]⟩,
 ⟨none,"redrawn","redrawn",(top 38),["house","values","old"],["house","values","old","pieces","drawing","anew","walk","due","answers","piece"]⟩,
 ⟨none,"pieces_of","pieces_of",(top 39),["drawing"],["drawing","pieces","entry"]⟩,
 ⟨none,"kept_piece","kept_piece",(top 40),["pieces","due","answers"],["pieces","due","answers","piece"]⟩,
 ⟨none,"_law_tape","_law_tape",(top 42),["_law_script"],["_law_script"]⟩,
 ⟨none,"_law_draw","_law_draw",(top 43),["_law_tape_here","_law_many"],["_law_tape_here","_law_many","_law_script","_law_digit","_law_cell","_law_mixed"]⟩,
 ⟨none,"_law_number","_law_number",(top 44),U6,U6⟩,
 ⟨none,"_law_reckoned","_law_reckoned",(top 45),U2,["_law_one","_law_answers_here","_law_turns","_law_reads","_law_word","_law_first","_law_second","_law_found"]⟩,
 ⟨none,"_law_numbers","_law_numbers",(top 46),U3,U3⟩,
 ⟨none,"_law_thing","_law_thing",(top 47),U5,U0⟩,
 ⟨none,"_law_brought","_law_brought",(top 48),U1,["_law_lines","_law_asked","_law_turns","_law_found","_law_counts","_law_answers_here","_law_reads","_law_line","_law_number_here","_law_k","_law_inner","_law_key"]⟩,
 ⟨none,"_law_row","_law_row",(top 49),U7,["_law_lines","_law_answers_here","_law_turns","_law_reads","_law_found"]⟩,
 ⟨none,"_law_piece","_law_piece",(top 50),["_law_part","_law_answers_here"],U9⟩,
 ⟨none,"_law_over","_law_over",(top 51),["_law_downs","_law_more"],["_law_downs","_law_more","_law_found","_law_name","_law_number_here"]⟩,
 ⟨none,"_law_parts","_law_parts",(top 52),U4,["_law_row_here","_law_spots","_law_downs","_law_found","_law_want","_law_here"]⟩,
 ⟨none,"_law_named","_law_named",(top 53),U13,U13⟩,
 ⟨none,"_law_answers","_law_answers",(top 54),U8,["_law_house","_law_values","_law_due","_law_path","_law_name","_law_gives","_law_downs","_law_boxes","_law_answers_here","_law_sort","_law_pairs","_law_one","_law_number_here"]⟩,
 ⟨none,"_law_within","_law_within",(top 55),U8,["_law_house","_law_values","_law_due","_law_piece_here","_law_found","_law_spots","_law_name","_law_gives","_law_downs"]⟩,
 ⟨none,"_law_fresh","_law_fresh",(top 56),U12,U12⟩,
 ⟨none,"_law_kind","_law_kind",(top 57),["_law_thing_here"],["_law_thing_here","_law_kinds","_law_names"]⟩,
 ⟨none,"_law_alike","_law_alike",(top 58),Ni,["_law_one","_law_other","_law_kind_here"]⟩,
 ⟨none,"_law_same","_law_same",(top 59),U14,["_law_piece_here","_law_answers_here","_law_what","_law_number_here"]⟩,
 ⟨none,"_law_anew","_law_anew",(top 60),U11,["_law_house","_law_values","_law_fresh_here","_law_old","_law_pieces","_law_path","_law_name","_law_gives","_law_downs","_law_piece_here","_law_found","_law_entry"]⟩,
 ⟨none,"_law_reader","_law_reader",(top 61),U6,["_law_tape_here","_law_take","_law_down","_law_some"]⟩,
 ⟨none,"_law_keyed","_law_keyed",(top 62),U6,U6⟩,
 ⟨none,"_law_made","_law_made",(top 63),U6,["_law_tape_here","_law_lines","_law_root","_law_inner","_law_last"]⟩,
 ⟨none,"law","law",(top 64),["_law_script"],["_law_script","_law_tape_here","_law_house","_law_boxes","_law_old","_law_turn","_law_at","_law_values","_law_fresh_here","_law_let"]⟩,
 ⟨some "Drawer","__init__","Drawer.__init__",(jV (top 19) 0),["self","answers"],["self","answers"]⟩,
 ⟨some "Drawer","number","Drawer.number",(jV (top 19) 1),["self","reckoning","turns"],["self","reckoning","turns"]⟩,
 ⟨some "Drawer","numbered","Drawer.numbered",(jV (top 19) 2),["self","pairs","turns"],["self","pairs","turns"]⟩,
 ⟨some "Drawer","row","Drawer.row",(jV (top 19) 3),["self","lines","turns"],["self","lines","turns","row"]⟩,
 ⟨some "Drawer","bring","Drawer.bring",(jV (top 19) 4),["self","lines","turns","row","counts"],["self","lines","turns","row","counts","line","taken"]⟩,
 ⟨some "Drawer","bring_each","Drawer.bring_each",(jV (top 19) 5),["self","line","turns","row","counts"],["self","line","turns","row","counts","count","turn","inner"]⟩,
 ⟨some "Drawer","want","Drawer.want",(jV (top 19) 6),["self","line","turns","counts"],["self","line","turns","counts","spot","pairs","hands"]⟩,
 ⟨some "Drawer","spot","Drawer.spot",(jV (top 19) 7),["self","key","turns","counts"],["self","key","turns","counts","told","nth"]⟩,
 ⟨some "Drawer","hand","Drawer.hand",(jV (top 19) 8),["self","hand","turns"],["self","hand","turns","changes"]⟩,
 ⟨some "Walk","__init__","Walk.__init__",(jV (top 29) 0),["self","house"],["self","house"]⟩,
 ⟨some "Walk","due","Walk.due",(jV (top 29) 1),["self"],["self"]⟩,
 ⟨some "Walk","pass_by","Walk.pass_by",(jV (top 29) 2),["self","entry"],["self","entry"]⟩]
set_option genInjectivity false in
structure Adr where
 f:Nat->Addr
 d:Nat->FuncData
 t_BOUND:Tok
 Vv:Tok
 sC:Tok
 ASKING:Addr
 fA:Tok
 Drawer:Addr
 Walk:Addr
structure Txt(P:Program)(w:World)(K:Dl)(mg:Str->Option Value)(a:Adr):Prop where
 F:∀(i:Nat){k:Option Str}{nm q:Str}{st:Stmt}{ps N:List Str},tab[i]?=some ⟨k,nm,q,st,ps,N⟩->CL.FI K mg k nm q st ps N (a.f i) (a.d i)
 tI:mg "BOUND" = some (.int 1000000000 a.t_BOUND)
 Gw:mg "LETTERS" = some (.str "abcdefghijklmnopqrstuvwxyz" a.Vv)
 gT:mg "LONGEST_NAME" = some (.int 8 a.sC)
 KN:mg "ASKING" = some (.ref a.ASKING)
 Kg:∀H:Hp,SqT K H a.ASKING [.str "take",.str "box",.str "down"]
 XO:mg "MOST_TURNS" = some (.int 8 a.fA)
 z_abs:mg "abs" = none
 QP:mg "all" = none
 vA:mg "bool" = none
 rP:mg "dict" = none
 jO:mg "int" = none
 tQ:mg "isinstance" = none
 nW:mg "len" = none
 kD:mg "list" = none
 z_max:mg "max" = none
 J2:mg "min" = none
 cM:mg "range" = none
 Zq:mg "reversed" = none
 tG:mg "sorted" = none
 WL:mg "str" = none
 fZ:mg "tuple" = none
 z_zip:mg "zip" = none
 gZ:mg "Drawer" = some (.ref a.Drawer)
 uX:Cls K a.Drawer
 V1:Mk K a.Drawer (a.f 50)
 bU:NoAttr K a.Drawer "answers"
 sY:NoAttr K a.Drawer "asked"
 oB:mg "Walk" = some (.ref a.Walk)
 nV:Cls K a.Walk
 Kx:Mk K a.Walk (a.f 59)
 uK:NoAttr K a.Walk "lacking"
def Hy:CL.sy CL.RB tab:=by
 unfold tab
 repeat refine⟨⟨⟨rfl,rfl,rfl,by decide +kernel,rfl,by decide +kernel,by decide +kernel⟩,fun _ _ _ _ _ _=>by first | (refine CL.args1 ?_;exact fun _=>rfl) | (refine CL.args2 ?_;exact fun _ _=>rfl) | (refine CL.Hl ?_;exact fun _ _ _=>rfl) | (refine CL.Hk ?_;exact fun _ _ _ _=>rfl) | (refine CL.RG ?_;exact fun _ _ _ _ _=>rfl)⟩,?_⟩
 exact trivial
def txt_mk{P:Program}{w:World}{K:Dl}{h:Heap}{mg:Str->Option Value}(X:K.In h)(G:h.Ns mainGlobals mg){I g q:Addr}{J L M a4 a5 a6 N:Tok}{aw:Nat}(ax:CL.sy (CL.FH K) tab)(ao:PySem.W.nsIn K mainGlobals "BOUND" = some (some (.int 1000000000 J)))(aq:PySem.W.nsIn K mainGlobals "LETTERS" = some (some (.str "abcdefghijklmnopqrstuvwxyz" L)))(ar:PySem.W.nsIn K mainGlobals "LONGEST_NAME" = some (some (.int 8 M)))(au:PySem.W.nsIn K mainGlobals "ASKING" = some (some (.ref I)))(a3:K.lookup I=some { cls:=.type "tuple",data:=.seq #[.str "take" a4,.str "box" a5,.str "down" a6] aw })(av:PySem.W.nsIn K mainGlobals "MOST_TURNS" = some (some (.int 8 N)))(z0:PySem.W.nsIn K mainGlobals "abs" = some none)(z1:PySem.W.nsIn K mainGlobals "all" = some none)(z2:PySem.W.nsIn K mainGlobals "bool" = some none)(z3:PySem.W.nsIn K mainGlobals "dict" = some none)(z4:PySem.W.nsIn K mainGlobals "int" = some none)(z5:PySem.W.nsIn K mainGlobals "isinstance" = some none)(z6:PySem.W.nsIn K mainGlobals "len" = some none)(z7:PySem.W.nsIn K mainGlobals "list" = some none)(z8:PySem.W.nsIn K mainGlobals "max" = some none)(z9:PySem.W.nsIn K mainGlobals "min" = some none)(a7:PySem.W.nsIn K mainGlobals "range" = some none)(a8:PySem.W.nsIn K mainGlobals "reversed" = some none)(a9:PySem.W.nsIn K mainGlobals "sorted" = some none)(ba:PySem.W.nsIn K mainGlobals "str" = some none)(bb:PySem.W.nsIn K mainGlobals "tuple" = some none)(bc:PySem.W.nsIn K mainGlobals "zip" = some none)(B:PySem.W.nsIn K mainGlobals "Drawer" = some (some (.ref g)))(O:PySem.W.plainGet K g Str.empty=true)(U:PySem.W.hasDictIn K g=true)(Z:PySem.W.plainOver K g=true)(ae:PySem.W.findIn K (.ref g) "__setattr__" = some (some (.builtin "object.__setattr__")))(ah:PySem.W.makesIn K g=true)(aj:PySem.W.keepIn K (.ref g)=true)(ay:PySem.W.findIn K (.ref g) "answers" = some none)(az:PySem.W.findIn K (.ref g) "asked" = some none)(D:PySem.W.nsIn K mainGlobals "Walk" = some (some (.ref q)))(S:PySem.W.plainGet K q Str.empty=true)(Y:PySem.W.hasDictIn K q=true)(ab:PySem.W.plainOver K q=true)(ag:PySem.W.findIn K (.ref q) "__setattr__" = some (some (.builtin "object.__setattr__")))(ai:PySem.W.makesIn K q=true)(ak:PySem.W.keepIn K (.ref q)=true)(a0:PySem.W.findIn K (.ref q) "lacking" = some none): ∃a:Adr,Txt P w K mg a:=by
 obtain⟨f,d,F⟩:=CL.q9 X G ax Hy
 exact⟨⟨f,d,J,L,M,I,N,g,q⟩,F,
  BM X G ao,
  BM X G aq,
  BM X G ar,
  BM X G au,
  fun _=>.inr ⟨_,_,_,a3,rfl,rfl,ie 3 rfl,(.cons ⟨_,rfl⟩ (.cons ⟨_,rfl⟩ (.cons ⟨_,rfl⟩ .nil)))⟩,
  BM X G av,
  Ap X G z0,
  Ap X G z1,
  Ap X G z2,
  Ap X G z3,
  Ap X G z4,
  Ap X G z5,
  Ap X G z6,
  Ap X G z7,
  Ap X G z8,
  Ap X G z9,
  Ap X G a7,
  Ap X G a8,
  Ap X G a9,
  Ap X G ba,
  Ap X G bb,
  Ap X G bc,
  BM X G B,
  ⟨O,U,Z,ae⟩,
  ⟨ah,((F 50 rfl).M _ _ rfl (BM X G B)).1,((F 50 rfl).M _ _ rfl (BM X G B)).2,aj⟩,
  ay,
  az,
  BM X G D,
  ⟨S,Y,ab,ag⟩,
  ⟨ai,((F 59 rfl).M _ _ rfl (BM X G D)).1,((F 59 rfl).M _ _ rfl (BM X G D)).2,ak⟩,
  a0⟩
structure Wd where
 P:Program
 w:World
 K:Dl
 mg:Str->Option Value
 base:Heap
abbrev Tx(W:Wd)(a:Adr):Prop:=Txt W.P W.w W.K W.mg a
abbrev Ok(W:Wd)(a:Adr)(r i:Nat)(ps:List Str)(G:CL.GC):Prop:=FnOk W.P W.w W.K W.mg W.base CX0 r (a.f i) (a.d i) ps (CL.my W.K G)
end K29
namespace K29
open PySem L2 CL
section
variable {W:Wd}{a:Adr}
structure Tp(C:CH)(t:Addr)(ns:List Int):Prop where
 at_:∃a b c:Int,C t=some (.lst [.fz (ns.map PV.int),.int a,.int b,.int c])/\0<=a/\0<=b/\0<=c
 len:ns.length<=63
def Ex(t:Addr)(C C':CH):Prop:=∀b o,b≠t->C b=some o->C' b=some o
theorem Ex.trans(h:Ex t C C1)(h':Ex t C1 C2):Ex t C C2:=fun b o n e=>h' b o n (h b o n e)
def Ex.new(g:C p=none)o:Ex t C (pQ C p o):=fun b u _ e=>by
 rw[vQ (fun z=>by subst z;rw[g] at e;cases e)];exact e
inductive O8(ts:List PV)(C:CH)(Q:K1):Prop
 |mk(ns:List Int)(z0:ts=[.fz (ns.map PV.int)])(z1:ns.length<=63)(z2:∀t C',C t=none->Ex t C C'->Tp C' t ns->Q (.ref t) C')
def v9(T:Tx W a):Ok W a 1 27 ["_law_script"] O8:=by
 refine(T.F 27 rfl).o (fun D=>(kQ (gQ (oZ (qQ (cv 0) (qQ zQ (qQ zQ (c7 zQ)))))))) ?_;rintro ts C R ⟨ns,rfl,B,q⟩;show 4<=sizeLine/\∀p,C p=none->R (.ref p) (pQ C p (.lst [.fz (ns.map PV.int),.int 0,.int 0,.int 0]));exact⟨by decide,fun p g=>q p _ g (Ex.new g _) ⟨⟨0,0,0,jQ,by decide,by decide,by decide⟩,B⟩⟩
def Ex.ur o:Ex t C (pQ C t o):=fun b u n e=>by rwa [vQ n]
def Uz{ns:List Int}(h0:0<=k)(h1:k < ((ns.map PV.int).length:Int)):∃v,atI (ns.map PV.int) k=some (.int v):=by
 delta atI ixN
 rw[Ab h0,Ab h1];rw[AC] at h1;show ∃v,(ns.map PV.int)[k.toNat]?=some (.int v);rw[Aj,AN (by lia)];exact⟨_,rfl⟩
inductive Pu(ts:List PV)(C:CH)(Q:K1):Prop
 |mk(t:Addr)(m:Int)(ns:List Int)(z0:ts=[.ref t,.int m])(z1:Tp C t ns)(z2:0 < m)(z3:m < 4611686018427387904)(z4:∀(v:Int)(C':CH),0<=v->v < m->Tp C' t ns->Ex t C C'->Q (.int v) C')
def rL(T:Tx W a):Ok W a 1 28 ["_law_tape_here","_law_many"] Pu:=by
 have S:=(T.F 28 rfl).s
 refine(T.F 28 rfl).o (fun hr=>(xQ (fj 2 S.nd (cx (cv 0) zQ))
  (xQ (tD (hX yZ bZ (cx (cv 0) zQ) zQ) (kP (cv 0) zQ))
  (xQ (iQ (ji (pq (ct2 lX vX (cx (cv 0) zQ) zQ) (mq (ct2 YB Jt (cx (cv 0) zQ) (ou T.nW (cv 2)))))) (xQ (tD (hX Xh X4 (lQ Ul Dr rfl T.z_abs rfl (c7 (cx (cv 2) (cx (cv 0) zQ)))) (hX uR zP zQ zQ)) (kP (cv 0) zQ))
  (kQ (tD (hX yZ bZ (cx (cv 0) zQ) zQ) (kP (cv 0) zQ)))) rQ)
  (xQ (iQ (ct2 YD Ju (cx (cv 0) zQ) zQ) (xQ (fj 3 S.nd (hX mD sU (cx (cv 0) zQ) (cv 1)))
  (xQ (tD (hX Xh X4 (cx (cv 0) zQ) (cv 1)) (kP (cv 0) zQ))
  (kQ (gQ (cv 3))))) rQ)
  (xQ (fj 4 S.nd zQ)
  (xQ (iQ (ct2 YD Ju (ou T.nW (cv 2)) zQ) (kQ (fj 4 S.nd (cx (cv 2) (hX mD sU (cx (cv 0) zQ) (ou T.nW (cv 2)))))) rQ)
  (xQ (fj 5 S.nd (hX mD sU (hX yZ bZ (hX yZ bZ (hX kH wF (hX mD sU (cv 4) zQ) zQ) (hX kH wF (cx (cv 0) zQ) zQ)) zQ) zQ))
  (xQ (fj 5 S.nd (hX mD sU (hX kH wF (cv 5) (hX yZ bZ (cv 5) zQ)) zQ))
  (kQ (gQ (hX mD sU (hX mD sU (hX kH wF (cv 5) zQ) zQ) (cv 1))))))))))))) ?_
 rintro ts C R ⟨t,m,ns,rfl,⟨⟨x,y,z,h,hx,U,M⟩,N⟩,F,m1,q⟩;refine cV h rfl (cV h rfl (gU (WZ h rfl ?_)));dsimp only;have h1:(pQ C t (.lst [.fz (ns.map PV.int),.int (x+1),.int y,.int z])) t=_:=jQ;have g:Ex t C (pQ C t (.lst [.fz (ns.map PV.int),.int (x+1),.int y,.int z])):=Ex.ur _;refine qJ (fun G C'=>G=[some (.ref t),some (.int m),some (.fz (ns.map PV.int)),none,none,none]/\∃y z:Int,C' t=some (.lst [.fz (ns.map PV.int),.int (x+1),.int y,.int z])/\0<=y/\0<=z/\Ex t C C') (fun L B=>?_) ?_
 .refine cV h1 rfl (zX (oJ _ _) (rF (fun J=>?_) fun J=>?_))
  .refine cV h1 rfl (Y2 (qj (rF (fun D=>?_) fun D=>?_)))
   .obtain ⟨c,I⟩:=Uz M (BD D)
    refine cV h1 rfl (Ox I ⟨⟨by decide,by decide,by decide⟩,⟨by decide,by decide⟩,?_⟩);refine WZ h1 rfl (cV jQ rfl (gU (WZ jQ rfl (B _ _ ⟨rfl,_,_,jQ,?_,by lia,(g.trans (Ex.ur _)).trans (Ex.ur _)⟩))));refine Int.ediv_nonneg ?_ (by decide)
    split<;>lia
   .exact pX (B _ _ ⟨rfl,y,z,h1,U,M,g⟩)
  .exact uT rfl (pX (B _ _ ⟨rfl,y,z,h1,U,M,g⟩))
 clear h1 g;rintro G C1 ⟨rfl,y',z',h1,Y,Z,g⟩;refine pZ (cV h1 rfl (qj (rF (fun J=>?_) fun J=>?_)))
 .refine cV h1 rfl ⟨F,cV h1 rfl ⟨⟨F,by lia⟩,?_⟩⟩
  exact WZ h1 rfl (q _ _ (Dd _ (by lia)) (DE _ F) ⟨⟨_,_,_,jQ,by lia,Int.ediv_nonneg Y (by lia),Z⟩,N⟩ (g.trans (Ex.ur _)))
 .refine pX (yQ (Nf ?_))
  try dsimp only
  refine qJ (fun G C'=>C'=C1/\∃v:Int,G=[some (.ref t),some (.int m),some (.fz (ns.map PV.int)),none,some (.int v),none]) (fun L B=>?_) ?_
  .refine Y2 (qj (rF (fun D=>?_) fun D=>?_))
   .have O:(0:Int) < ((ns.map PV.int).length:Int):=BD D
    obtain⟨c,I⟩:=Uz (Dd (x+1) (b:=((ns.map PV.int).length:Int)) (by lia)) (DE (x+1) O);exact cV h1 rfl (Y2 ⟨O,Ox I (B _ _ ⟨rfl,_,rfl⟩)⟩)
   .exact pX (B _ _ ⟨rfl,0,rfl⟩)
  .rintro G C2 ⟨rfl,v,rfl⟩
   refine yQ ⟨(by show(0:Int) < _;decide),?_⟩;refine⟨.inr ⟨by decide,by decide⟩,?_⟩;refine cV h1 rfl ⟨.inr ⟨by decide,by decide⟩,?_⟩;refine gU (gU ⟨(by show(0:Int) < _;decide),?_⟩);have b0:=Dd (v % 2147483647 * 48271+(x+1) * 7919+12345) (b:=2147483629) (by decide);have b1:=DE (v % 2147483647 * 48271+(x+1) * 7919+12345) (b:=2147483629) (by decide);refine yQ (gU ⟨.inl ⟨by lia,by lia⟩,?_⟩)
   refine⟨(by show(0:Int) < _;decide),?_⟩;refine⟨.inr ⟨by decide,by decide⟩,?_⟩;refine⟨(by show(0:Int) < _;decide),?_⟩;exact⟨F,q _ _ (Dd _ (by lia)) (DE _ F) ⟨⟨_,_,_,h1,by lia,Y,Z⟩,N⟩ g⟩
def Tp.ne(h:Tp C t ns)(g:C p=none):p≠t:=fun e=>by
 obtain⟨⟨x,y,z,h,_⟩,_⟩:=h;rw[<- e,g] at h;cases h
def Tp.new(h:Tp C t ns)(g:C p=none)o:Tp (pQ C p o) t ns:=by
 have n:=h.ne g;obtain⟨⟨x,y,z,h,q⟩,l⟩:=h;exact⟨⟨x,y,z,(vQ (Ne.symm n)).trans h,q⟩,l⟩
noncomputable def KI(c:Nat):Bool:=!(Builtin.Str.occurrences ("abcdefghijklmnopqrstuvwxyz" : Str) ⟨#[c]⟩ 0 ("abcdefghijklmnopqrstuvwxyz" : Str).length 1).isEmpty
def nL(z:Str):Bool:=(decide ((1:Int)<=(z.length:Nat))&&decide (((z.length:Nat):Int)<=8))&&z.cps.toList.all KI
def nm8(h:nL z=true):z.length<=8 :=by grind[nL]
inductive KJ(ts:List PV)(C:CH)(Q:K1):Prop
 |mk(t:Addr)(ns:List Int)(z0:ts=[.ref t])(z1:Tp C t ns)(z2:∀(i:Int)(C':CH),-1000000000<=i->i<=1000000000->Tp C' t ns->Ex t C C'->Q (.int i) C')
def Ek{ns:List Int}(g:∀x∈ns,lo<=x/\x<=hi)(h0:0<=k)(h1:k < ((ns.map PV.int).length:Int)):∃v,atI (ns.map PV.int) k=some (.int v)/\lo<=v/\v<=hi:=by
 delta atI ixN
 rw[Ab h0,Ab h1];rw[AC] at h1;show ∃v,(ns.map PV.int)[k.toNat]?=some (.int v)/\lo<=v/\v<=hi;rw[Aj,AN (by lia)];exact⟨_,rfl,g _ (By _)⟩
def sO(T:Tx W a):Ok W a 2 29 U6 KJ:=by
 have I:=rL T
 refine(T.F 29 rfl).o (fun G=>(xQ (iQ (ct2 YD Ju (cf (T.F 28 rfl) I G (qQ (cv 0) (c7 zQ))) zQ) (kQ (gQ (hX ZR Qd (cf (T.F 28 rfl) I G (qQ (cv 0) (c7 zQ))) zQ))) rQ)
  (kQ (gQ (cx (oZ (qQ (hX uR zP zQ zQ) (qQ (rE nP kF (hX uR zP zQ zQ)) (qQ zQ (c7 (rE nP kF zQ)))))) (cf (T.F 28 rfl) I G (qQ (cv 0) (c7 zQ)))))))) ?_
 rintro ts C R ⟨t,ns,rfl,O,q⟩;refine⟨t,8,ns,rfl,O,by decide,by decide,fun v C1 Z ab B J=>?_⟩;refine qj (rF (fun S=>?_) fun S=>?_)
 .refine ⟨t,9,ns,rfl,B,by decide,by decide,fun v C2 Z ab D g=>?_⟩
  exact qj (q (v - 3) C2 (by lia) (by lia) D (J.trans g))
 .refine pX ⟨⟨by decide,by decide,by decide⟩,?_⟩
  refine⟨⟨by decide,by decide,by decide⟩,?_⟩;refine⟨by decide,fun p2 F=>?_⟩;refine⟨t,4,ns,rfl,B.new F _,by decide,by decide,fun k C2 U Y D g=>?_⟩;obtain⟨c,N,L,M⟩:=(Ek (ns:=[10 ^ 9,-10 ^ 9,999983,-70001]) (lo:=-1000000000) (hi:=1000000000) (by decide) U Y);exact cV (g p2 _ (B.ne F) jQ) N (q c C2 L M D ((J.trans (Ex.new F _)).trans g))
end
inductive Rk where
 |num (i:Int) | turn (n:Str) | ask (s n:Str) | bin (w:Str) (x y:Rk) | pick (x y z:Rk)
noncomputable def Rk.pv:Rk->PV
 |.num i=>.tup [.str "num",.int i]
 |.turn n=>.tup [.str "turn",.str n]
 |.ask s n=>.tup [.str s,.str n]
 |.bin w x y=>.tup [.str w,x.pv,y.pv]
 |.pick x y z=>.tup [.str "pick",x.pv,y.pv,z.pv]
def gM(bs:List Str)(s n:Str):Prop:=((s = "take"\/s = "down")/\n∈(["a","ab","b"]:List Str))\/(s = "box"/\n∈bs)
noncomputable def Rk.ok(bs τ:List Str):Nat->Rk->Prop
 |_,.num i=>-1000000000<=i/\i<=1000000000
 |_,.turn n=>n∈τ
 |_,.ask s n=>gM bs s n
 |0,.bin _ _ _=>False
 |0,.pick _ _ _=>False
 |d+1,.bin w x y=>(w = "add"\/w = "times"\/w = "less")/\x.ok bs τ d/\y.ok bs τ d
 |d+1,.pick x y z=>x.ok bs τ d/\y.ok bs τ d/\z.ok bs τ d
theorem Rk.ok.up: ∀{d}{r:Rk},r.ok bs τ d->r.ok bs τ (d+1)
 |d,.num i,h=>by unfold Rk.ok at h ⊢;exact h
 |d,.turn n,h=>by unfold Rk.ok at h ⊢;exact h
 |d,.ask s n,h=>by unfold Rk.ok at h ⊢;exact h
 |0,.bin _ _ _,h =>h.elim
 |0,.pick _ _ _,h =>h.elim
 |d+1,.bin w x y,h =>⟨h.1,h.2.1.up,h.2.2.up⟩
 |d+1,.pick x y z,h =>⟨h.1.up,h.2.1.up,h.2.2.up⟩
def Rk.ok.mono{r:Rk}(h:r.ok bs τ d)(l:d<=e):r.ok bs τ e:=by
 induction l with
 |refl=>exact h
 |step _ g=>exact g.up
def Gg(q:Q (.int (if b then 1 else 0)) C):cInt [.bl b] C Q:=by
 delta cInt
 exact q
noncomputable def iB:Option Rk->PV
 |none=>.non
 |some r=>r.pv
def kT(bs τ:List Str):Option Rk->Prop
 |none=>True
 |some r=>r.ok bs τ 0
noncomputable def pB(c:Str×Rk):PV:=.tup [.str c.1,c.2.pv]
def QI(bs τ:List Str)(d:Nat)(ps:List (Str×Rk)):Prop:=∀c∈ps,c.2.ok bs τ d/\c.1.length<=8
structure Hd where
 ev:Str
 rank:Int
 last:Bool
 ch:List (Str×Str×Rk)
noncomputable def Ms(c:Str×Str×Rk):PV:=.tup [.str c.1,.str c.2.1,c.2.2.pv]
def Hd.pv(h:Hd):PV:=.tup [.str h.ev,.int h.rank,.bl h.last,.tup (h.ch.map Ms)]
def Hd.ok(bs τ:List Str)(h:Hd):Prop:=h.ch.length<=4/\(∀c∈h.ch,c.2.2.ok bs τ 1/\c.1∈bs/\c.2.1.length<=8)/\h.ev.length<=8/\0<=h.rank/\h.rank<=9
theorem Hd.ok.c{h:Hd}(o:h.ok bs τ):∀c∈h.ch,c.2.2.ok bs τ 1:=fun c g=>(o.2.1 c g).1
def Tp.put(h:Tp C t ns)(g:p≠t)o:Tp (pQ C p o) t ns:=by
 obtain⟨⟨a,b,c,e,r⟩,l⟩:=h;exact⟨⟨a,b,c,by exact(vQ (Ne.symm g))▸e,r⟩,l⟩
def eG(I:Nat->jt->CH->Prop)(F:∀i q C,I i q C->C b=some (.lst xs))(J:∀i x q C,xs[i]?=some x->I i q C->∀L:jt->CH->Prop,(∀B C',I (i+1) B C'->L B C')->g x q C fun M C1=>u (E.lp L) M C1)(D:∀q C,I xs.length q C->E.nx q C):
  ∀n i q C,I i q C->i+n=xs.length+1->i<=xs.length->yM b g u E n i q C:=by
 intro n
 induction n with
 |zero=>lia
 |succ n G =>
  intro i q C h h1 h2;unfold yM;rw[F i q C h];dsimp only
  cases e:xs[i]? with
  |none =>
   have:=DF.1 e;have:i=xs.length:=by lia
   subst this;exact D q C h
  |some x =>
   have hi:=(AU.1 e).1;exact J i x q C e h _ fun B C' h'=>G (i+1) B C' h' (by lia) (by lia)
inductive Ln where
 |plain (k:Option Rk) (tag:Str) (sets:List (Str×Rk)) (hands:List Hd) (ls:List Ln)
 |part (k:Option Rk) (name:Str) (gives:List (Str×Rk))
 |give (k:Option Rk) (name:Str) (r:Rk) (ls:List Ln)
 |when (r:Rk) (l1 l2:List Ln)
 |each (name:Str) (r:Rk) (ls:List Ln)
mutual
def Ln.pv:Ln->PV
 |.plain k F s h q=>.tup [.str "plain",iB k,.str F,.tup (s.map pB),.tup (h.map Hd.pv),.tup (Ln.gj q)]
 |.part k n g=>.tup [.str "part",iB k,.str n,.tup (g.map pB)]
 |.give k n r q=>.tup [.str "give",iB k,.str n,r.pv,.tup (Ln.gj q)]
 |.when r B D=>.tup [.str "when",r.pv,.tup (Ln.gj B),.tup (Ln.gj D)]
 |.each n r q=>.tup [.str "each",.str n,r.pv,.tup (Ln.gj q)]
def Ln.gj:List Ln->List PV
 |[]=>[]
 |l::q=>l.pv::Ln.gj q
end
mutual
def Ln.tw:Ln->Nat
 |.plain _ _ _ _ g=>1+Ln.f9 g
 |.part _ _ _=>1
 |.give _ _ _ g=>1+Ln.f9 g
 |.when _ q B=>Ln.f9 q+Ln.f9 B
 |.each _ _ g=>8 * Ln.f9 g
def Ln.f9:List Ln->Nat
 |[]=>0
 |l::g=>l.tw+Ln.f9 g
end
mutual
def Ln.pw:Ln->Nat
 |.plain _ _ _ _ g=>Ln.iT g
 |.part _ _ _=>1
 |.give _ _ _ g=>Ln.iT g
 |.when _ q B=>Ln.iT q+Ln.iT B
 |.each _ _ g=>8 * Ln.iT g
def Ln.iT:List Ln->Nat
 |[]=>0
 |l::g=>l.pw+Ln.iT g
end
def Ln.qe xs ys:Ln.f9 (xs++ys)=Ln.f9 xs+Ln.f9 ys:=by
 induction xs with
 |nil=>show _=0+_;rw[BS];rfl
 |cons x xs g=>show x.tw+Ln.f9 (xs++ys)=x.tw+Ln.f9 xs+Ln.f9 ys;lia
def gw(bs rs:List Str):Nat->List Str->Ln->Prop
 |0,_,_=>False
 |d+1,τ,.plain k F s h q=>kT bs τ k/\(QI bs τ 2 s/\s.length<=4)/\((∀x∈h,x.ok bs τ)/\h.length<=4)/\(∀x∈q,gw bs rs d τ x)/\q.length<=6/\F.length<=8
 |_+1,τ,.part k n g=>kT bs τ k/\n∈rs/\QI bs τ 1 g/\g.length<=4
 |d+1,τ,.give k n r q=>kT bs τ k/\n∈(["a","ab","b"]:List Str)/\r.ok bs τ 1/\(∀x∈q,gw bs rs d τ x)/\q.length<=6
 |d+1,τ,.when r B D=>r.ok bs τ 1/\((∀x∈B,gw bs rs d τ x)/\B.length<=6)/\(∀x∈D,gw bs rs d τ x)/\D.length<=6
 |d+1,_,.each n r q=>r.ok bs [] 0/\(∀x∈q,gw bs rs d [n] x)/\q.length<=6
def gw.up: ∀{d}{τ}{l},gw bs rs d τ l->gw bs rs (d+1) τ l:=by
 intro d
 induction d with
 |zero=>intro τ l h;exact h.elim
 |succ d G =>
  intro τ l h
  cases l with
  |plain k t s J I=>exact bH h fun h1 h2 B D F=>⟨h1,h2,B,fun x q=>G (D x q),F⟩
  |part k n g=>exact h
  |give k n r I=>exact bH h fun h1 h2 B D F=>⟨h1,h2,B,fun x q=>G (D x q),F⟩
  |when r L M=>obtain⟨h1,⟨h2,B⟩,D,F⟩:=h;exact⟨h1,⟨fun x q=>G (h2 x q),B⟩,fun x q=>G (D x q),F⟩
  |each n r I=>exact lT h fun h1 h2 B=>⟨h1,fun x q=>G (h2 x q),B⟩
def gw.mono(h:gw bs rs d τ l)(q:d<=e):gw bs rs e τ l:=by
 induction q with
 |refl=>exact h
 |step _ g=>exact g.up
structure Pt where
 name:Str
 first:List (Str×Int)
 works:List (Str×Rk)
 ls:List Ln
def Pt.pv(x:Pt):PV:=.tup [.str x.name,.tup (x.first.map dQ),.tup (x.works.map pB),.tup (Ln.gj x.ls)]
structure jh(rs:List Str)(cap:Nat)(x:Pt):Prop where
 fl:x.first.length<=4
 wk:QI (x.first.map (·.1)) [] 1 x.works
 wl:x.works.length<=4
 ls:∀l∈x.ls,gw (x.first.map (·.1)) rs 6 [] l
 ll:x.ls.length<=6
 tw:Ln.f9 x.ls<=48
 pw:Ln.iT x.ls<=cap
 fb:∀c∈x.first,-1000000000<=c.2/\c.2<=1000000000
 bn:∀c∈x.first,nL c.1=true
def jh.b8{cap}(q:jh rs cap x):∀s∈x.first.map (·.1),s.length<=8:=fun s hs=>by
 obtain⟨c,g,rfl⟩:=AL.1 hs;exact nm8 (q.bn c g)
section
variable {W:Wd}{a:Adr}
def eJ(h:∀ts C Q,¬ G ts C Q):FnOk W.P W.w W.K W.mg W.base CX0 r f fd ps (my W.K G) :=
 ⟨fun vs H Q E g=>wX g fun ts C R _ _ z _=> (h _ _ _ z).elim,fun _ _ _ _ _ _ _ _ _ _ _ _ _ g=>wX g fun ts C R _ _ z _=> (h _ _ _ z).elim⟩
def Oh(h1:FnOk W.P W.w W.K W.mg W.base CX0 r f fd ps (my W.K L))(h2:FnOk W.P W.w W.K W.mg W.base CX0 r f fd ps (my W.K M)):FnOk W.P W.w W.K W.mg W.base CX0 r f fd ps (my W.K (fun ts C Q=>L ts C Q\/M ts C Q)) :=
 ⟨fun vs H Q E g=>wX g fun ts C R x y z u=> by
  rcases z with z | z
  .exact h1.len vs H Q E ⟨ts,C,R,x,y,z,u⟩
  .exact h2.len vs H Q E ⟨ts,C,R,x,y,z,u⟩,fun A F s H q I vs Q E G D B J g=>wX g fun ts C R x y z u=> by
  rcases z with z | z
  .exact h1.run A F s H q I vs Q E G D B J ⟨ts,C,R,x,y,z,u⟩
  .exact h2.run A F s H q I vs Q E G D B J ⟨ts,C,R,x,y,z,u⟩⟩
noncomputable def yU(k:Nat):Nat:=if k=0 then 18 else 2
end
def rJ(g:List Pt):List Str:=g.map (·.name)
structure sG(pts:List Pt):Prop where
 n1:1<=pts.length
 n6:pts.length<=6
 nd:(rJ pts).Nodup
 nn:∀s∈rJ pts,s.length<=8
 ok:∀k x,pts[k]?=some x->jh ((rJ pts).drop (k+1)) (yU k) x
def aF(h:z::zs=((List.range N).drop j).map (fun k:Nat=>PV.int (k:Nat))):j < N/\z=.int j/\zs=((List.range N).drop (j+1)).map (fun k:Nat=>PV.int (k:Nat)) :=by grind[List.drop_of_length_le,List.drop_eq_getElem_cons,List.map_cons,List.getElem_range,List.length_range]
abbrev dw:=List (List Key×PV)
abbrev jd:=List (Key×PV)
abbrev qK(s n:Str):List Key:=[.inr s,.inr n]
def Bd(i:Int):Prop:=-1000000000<=i/\i<=1000000000
def jy(A:dw):Prop:=∀g∈A,∃i,g.2=.int i/\Bd i
def Hm(τ:jd):Prop:=∀g∈τ,∃i,g.2=.int i/\Bd i
def rK(A:dw)(s n:Str):Int:=match aZ A (qK s n) with
 |some (.int i)=>i
 |_=>0
def J7(τ:jd)(n:Str):Int:=match wV τ (.inr n) with
 |some (.int i)=>i
 |_=>0
def RX(τ:jd)(ns:List Str):Prop:=∀n∈ns,(wV τ (.inr n)).isSome=true
noncomputable def X2(i:Int):Int:=if (if i < 1000000000 then i else 1000000000) > -1000000000 then (if i < 1000000000 then i else 1000000000) else -1000000000
def Rk.val(A:dw)(τ:jd):Rk->Int
 |.num i=>i
 |.turn n=>J7 τ n
 |.ask s n=>rK A s n
 |.bin w x y=>if w = "less" then (if x.val A τ < y.val A τ then 1 else 0) else if w = "times" then X2 (x.val A τ * y.val A τ) else X2 (x.val A τ+y.val A τ)
 |.pick x y z=>if x.val A τ=0 then z.val A τ else y.val A τ
noncomputable def Rk.gn(A:dw)(τ:jd):Rk->dw->dw
 |.num _,R=>R
 |.turn _,R=>R
 |.ask s n,R=>gm R (qK s n) (.int (rK A s n))
 |.bin _ x y,R=>y.gn A τ (x.gn A τ R)
 |.pick x y z,R=>if x.val A τ=0 then z.gn A τ (x.gn A τ R) else y.gn A τ (x.gn A τ R)
def yz i:Bd (X2 i):=by delta X2 Bd;split<;>split<;>lia
def WN[DecidableEq κ]{k:κ}(h:aZ A k=some v):∃g∈A,g.2=v:=by
 delta aZ at h
 cases e:A.find? fun g=>decide (g.1=k) with
 |none=>rw[e] at h;cases h
 |some x=>rw[e] at h;cases h;exact⟨x,Bo e,rfl⟩
def QS{A:jd}(h:wV A k=some v):∃g∈A,g.2=v:=by
 delta wV at h
 cases e:A.find? fun g=>decide (g.1=k) with
 |none=>rw[e] at h;cases h
 |some x=>rw[e] at h;cases h;exact⟨x,Bo e,rfl⟩
def bM(h:jy A)s n:(aZ A (qK s n)).getD (.int 0)=.int (rK A s n)/\Bd (rK A s n):=by
 delta rK
 cases e:aZ A (qK s n) with
 |none=>exact⟨rfl,by delta Bd;decide⟩
 |some v =>
  obtain⟨D,B,rfl⟩:=WN e;exact sQ (h D B) fun i q g=>q▸⟨rfl,g⟩
def uA(h:Hm τ)(g:(wV τ (.inr n)).isSome=true):wV τ (.inr n)=some (.int (J7 τ n))/\Bd (J7 τ n):=by
 delta J7
 cases e:wV τ (.inr n) with
 |none=>rw[e] at g;cases g
 |some v =>
  obtain⟨F,D,rfl⟩:=QS e;exact sQ (h F D) fun i B q=>B▸⟨rfl,q⟩
def bY(q:jy A)(B:Hm τ)(D:RX τ ts):∀{d}{r:Rk},r.ok bs ts d->Bd (r.val A τ):=by
 intro d r
 induction r generalizing d with
 |num i=>intro h;unfold Rk.ok at h;exact h
 |turn n=>intro h;unfold Rk.ok at h;exact(uA B (D n h)).2
 |ask s n=>intro h;exact(bM q s n).2
 |bin w x y F g =>
  intro h
  cases d with
  |zero=>exact h.elim
  |succ d =>
   unfold Rk.val
   split
   .split<;>(delta Bd;decide)
   .split<;>exact yz _
 |pick x y z F g G =>
  intro h
  cases d with
  |zero=>exact h.elim
  |succ d =>
   unfold Rk.val
   split
   .exact G h.2.2
   .exact g h.2.1
structure iw(bs:List Str)(R:dw):Prop where
 nd:(R.map (·.1)).Nodup
 ks:∀k∈R.map (·.1),∃s n,k=qK s n/\gM bs s n
 vs:jy R
def El{κ:Type}[DecidableEq κ](R:List (κ×PV))k:(R.any fun g=>decide (g.1=k))=true↔k∈R.map (·.1) :=by grind
def kY[DecidableEq κ]R(k:κ)v:(gm R k v).map (·.1)=if k∈R.map (·.1) then R.map (·.1) else R.map (·.1)++[k]:=by
 delta gm
 by_cases h:k∈R.map (·.1)
 .rw [Ab ((El R k).2 h),Ab h,BP]
  refine CY fun x _=>?_;show(if x.1=k then (x.1,v) else x).1=x.1
  split<;>rfl
 .grind
def zR[DecidableEq κ]{x:κ×PV}(h:x∈gm R k v):x.2=v\/x∈R :=by grind[gm]
def iw.put(h:iw bs R)(I:gM bs s n)(hi:Bd i):iw bs (gm R (qK s n) (.int i)):=by
 refine⟨?_,?_,fun G D=>?_⟩
 .rw [kY]
  split
  .exact h.nd
  .next F =>
   rw[List.nodup_append];refine⟨h.nd,by simp,fun a q b B e=>?_⟩;cases AF.1 B;exact F (e▸q)
 .rw [kY]
  intro k g
  split at g
  .exact h.ks k g
  .rcases Ax.1 g with g | g
   .exact h.ks k g
   .grind
 .rcases zR D with e | e
  .grind
  .exact h.vs G e
theorem Xs{α:Type}[DecidableEq α]:∀(l m:List α),l.Nodup->(∀x∈l,x∈m)->l.length<=m.length
 |[],_,_,_=>AW _
 |x::l,m,g,hs=>by
  have q:=hs x AG;rw[BA] at g;have D:=Xs l (m.erase x) g.2 fun y B=>(List.mem_erase_of_ne (show y≠x from fun e=>g.1 (e▸B))).2 (hs y (AJ _ B));rw[List.length_erase_of_mem q] at D;have:=List.length_pos_of_mem q;rw[AV]
  lia
def pC(bs:List Str):List (List Key):=(["a","ab","b"]:List Str).map (qK "take")++((["a","ab","b"]:List Str).map (qK "down")++bs.map (qK "box"))
def MJ(h:gM bs s n):qK s n∈pC bs:=by
 rcases h with ⟨rfl | rfl,h⟩ | ⟨rfl,h⟩
 .exact Ak _ (AL.2 ⟨n,h,rfl⟩)
 .exact AO _ (Ak _ (AL.2 ⟨n,h,rfl⟩))
 .exact AO _ (AO _ (AL.2 ⟨n,h,rfl⟩))
def iw.len(h:iw bs R):R.length<=6+bs.length:=by
 have:=Xs (R.map (·.1)) (pC bs) h.nd fun k g=>by
  obtain⟨s,n,rfl,q⟩:=h.ks k g;exact MJ q
 rw[AC] at this
 have e:(pC bs).length=6+bs.length:=by
  delta pC
  rw[AQ,AQ,AC,AC,AC];show 3+(3+_)=_
  lia
 lia
def nH(A:dw)(bs:List Str)(P:dw->Prop):Prop:=∀R s n,gM bs s n->P R->P (gm R (qK s n) (.int (rK A s n)))
def cX(g:jy A): nH A bs (iw bs):=fun _ s n h q=>q.put h (bM g s n).2
def rZ(D:nH A bs P):∀{d}{r:Rk}{R},r.ok bs ts d->P R->P (r.gn A τ R):=by
 intro d r
 induction r generalizing d with
 |num i=>intro R _ h;exact h
 |turn n=>intro R _ h;exact h
 |ask s n=>intro R h g;unfold Rk.ok at h;exact D _ s n h g
 |bin w x y q B =>
  intro R h g
  cases d with
  |zero=>exact h.elim
  |succ d =>
   exact B h.2.2 (q h.2.1 g)
 |pick x y z q B F =>
  intro R h g
  cases d with
  |zero=>exact h.elim
  |succ d =>
   unfold Rk.gn
   split
   .exact F h.2.2 (q h.1 g)
   .exact B h.2.1 (q h.1 g)
structure Env(C:CH)(aa tt rr:Addr)(A:dw)(τ:jd)(R:dw):Prop where
 ha:C aa=some (.dT A)
 ht:C tt=some (.dK τ)
 hr:C rr=some (.dT R)
 ne:aa≠rr
def Env.nt(h:Env C aa tt rr A τ R):tt≠rr:=fun z=>by have:=h.ht;rw[z,h.hr] at this;cases this
def Env.ex{g:dw}(h:Env C aa tt rr A τ R)(e:fu [rr] C C')(q:C' rr=some (.dT g)):Env C' aa tt rr A τ g :=
 ⟨e _ _ (fun z=>h.ne (AF.1 z)) h.ha,e _ _ (fun z=>h.nt (AF.1 z)) h.ht,q,h.ne⟩
def qW[DecidableEq κ]x l(k:κ):aZ (x::l) k=if x.1=k then some x.2 else aZ l k :=by grind[aZ,decide_eq_true,decide_eq_false]
def yL[DecidableEq κ]R k v(q:κ):aZ (gm R k v) q=if q=k then some v else aZ R q:=by
 delta gm
 by_cases b:(R.any fun g=>decide (g.1=k))=true
 .rw [Ab b]
  induction R with
  |nil=>cases b
  |cons x l F =>
   rw[A9,qW,qW];have G:(if x.1=k then (x.1,v) else x).1=x.1:=by split<;>rfl
   rw[G]
   by_cases e:x.1=q
   .lia
   .rw [Ac e,Ac e]
    by_cases D:(l.any fun g=>decide (g.1=k))=true
    .exact F D
    .have:(l.map fun g=>if g.1=k then (g.1,v) else g)=l:=(CY fun y B=>Ac ((fun y B z=>D (List.any_eq_true.2 ⟨y,B,Af z⟩)) y B)).trans (List.map_id l)
     rw[this];have I:x.1=k :=by grind
     rw[Ac (fun z=>e (I.trans z.symm))]
 .rw [Ac b]
  induction R with
  |nil =>
   rw[Cw,qW]
   by_cases e:k=q
   .lia
   .lia
  |cons x l F =>
   rw[BN] at b;rw[B0,qW,qW]
   by_cases J:x.1=q
   .lia
   .lia
structure hW(A:dw)(τ:jd)(bs ns:List Str):Prop where
 a:jy A
 t:Hm τ
 h:RX τ ns
 b:bs.length<=4
section
variable {W:Wd}{a:Adr}
inductive Tq(ts:List PV)(C:CH)(Q:K1):Prop
 |mk(i:Int)(z0:ts=[.int i])(z1:Q (.int (X2 i)) C)
def Iv(T:Tx W a):Ok W a 1 2 ["number"] Tq:=by
 refine(T.F 2 rfl).o (fun g=>(kQ (gQ (lQ (sE rfl) Vc rfl T.z_max rfl (qQ (rE nP kF (qY (v:=.int 1000000000) rfl T.tI ⟨_,rfl⟩ (fun _=>.int _))) (c7 (lQ (mF rfl) yC rfl T.J2 rfl (qQ (qY (v:=.int 1000000000) rfl T.tI ⟨_,rfl⟩ (fun _=>.int _)) (c7 (cv 0)))))))))) ?_;rintro ts C R ⟨i,rfl,q⟩;exact Ky (FW q)
noncomputable def Hc(w:Str)(i j:Int):Int:=if w = "less" then (if i < j then 1 else 0) else if w = "times" then X2 (i * j) else X2 (i+j)
inductive Pk(ts:List PV)(C:CH)(Q:K1):Prop
 |mk(w:Str)(i j:Int)(z0:ts=[.str w,.int i,.int j])(z1:(w = "add"\/w = "times"\/w = "less"))(z2:Bd i)(z3:Bd j)(z4:Q (.int (Hc w i j)) C)
def VT(T:Tx W a):Ok W a 2 8 ["word","first","second"] Pk:=by
 have B:=Iv T
 refine(T.F 8 rfl).o (fun D=>(xQ (iQ (ct2 lX vX (cv 0) bQ) (kQ (gQ (cf (T.F 2 rfl) B D (c7 (hX yZ bZ (cv 1) (cv 2)))))) rQ)
  (xQ (iQ (ct2 lX vX (cv 0) bQ) (kQ (gQ (cf (T.F 2 rfl) B D (c7 (hX kH wF (cv 1) (cv 2)))))) rQ)
  (kQ (gQ (bN (ct2 YB Jt (cv 1) (cv 2)) zQ zQ)))))) ?_
 rintro ts C R ⟨w,i,j,rfl,I,F,G,q⟩
 delta Hc at q
 apply zX (fQ _ _)
 rcases I with rfl | rfl | rfl
 .exact uZ rfl (gU ⟨_,rfl,q⟩)
 .refine gX rfl (pX (zX (fQ _ _) (uZ rfl ?_)))
  delta Bd at F G
  refine⟨.inr ⟨by omega,by omega⟩,?_⟩;exact⟨_,rfl,q⟩
 .refine gX rfl (pX (zX (fQ _ _) (gX rfl (pX (qj (rF (fun g=>?_) fun g=>?_))))))
  .rwa [Ab (BD g)] at q
  .rwa [Ac (of_decide_eq_false g)] at q
inductive qx(d:Nat)(ts:List PV)(C:CH)(Q:K1):Prop
 |mk(r:Rk)(aa tt rr:Addr)(A:dw)(τ:jd)(R:dw)(bs ns:List Str)(z0:ts=[r.pv,.ref aa,.ref tt,.ref rr])(z1:r.ok bs ns d)(z2:Env C aa tt rr A τ R)(z3:hW A τ bs ns)(z4:iw bs R)(z5:∀C',C' rr=some (.dT (r.gn A τ R))->fu [rr] C C'->Q (.int (r.val A τ)) C')
def wI(T:Tx W a)(d:Nat):Ok W a (d+3) 7 ["reckoning","answers","turns","asked"] (qx d):=by
 have ag:∀n,(∀d',n=d'+1->Ok W a (d'+3) 7 ["reckoning","answers","turns","asked"] (qx d'))->Ok W a (n+3) 7 ["reckoning","answers","turns","asked"] (qx n):=by
  intro n ih;have S:=(T.F 7 rfl).s;have UJ:=(VT T).mono (show 2<=n+2 by lia)
  have lW:Ok W a (n+2) 7 ["reckoning","answers","turns","asked"] (fun ts C Q=>∃d',n=d'+1/\qx d' ts C Q):=by
   cases n with
   |zero=>exact eJ fun ts C Q zz=>sQ zz fun d' e _=> by lia
   |succ d' =>
    have:=ih d' rfl
    have e:(fun ts C Q=>∃Z,d'+1=Z+1/\qx Z ts C Q)=qx d':=by
     funext ts C Q
     refine propext ⟨fun zz=>sQ zz fun Z e h=> ?_,fun h=>⟨d',rfl,h⟩⟩;cases A1 e;exact h
    rw[e];exact this
  refine(T.F 7 rfl).o (fun F=>(xQ (fj 4 S.nd (cx (cv 0) zQ))
  (xQ (iQ (ct2 lX vX (cv 4) bQ) (kQ (gQ (cx (cv 0) zQ))) rQ)
  (xQ (iQ (ct2 lX vX (cv 4) bQ) (kQ (gQ (Ql (yK F) (cv 2) (cx (cv 0) zQ) (fun _ _=>rfl)))) rQ)
  (xQ (iQ (Qb nO K6 (cv 4) (qY (v:=.ref a.ASKING) (t:=.kt [.str "take",.str "box",.str "down"]) rfl T.KN rfl (fun H=>.kt (T.Kg H) (.cons (.str _) (.cons (.str _) (.cons (.str _) .nil))))) rfl) (xQ (fj 5 S.nd (wQ (qQ (cv 4) (c7 (cx (cv 0) zQ)))))
  (xQ (vC (yK F) (cv 3) (cv 5) (vP (yK F) (cv 1) (cv 5) zQ))
  (kQ (gQ (G7 (yK F) (cv 3) (cv 5) (fun _ _=>rfl)))))) rQ)
  (xQ (fj 6 S.nd (cf (T.F 7 rfl) lW F (qQ (cx (cv 0) zQ) (qQ (cv 1) (qQ (cv 2) (c7 (cv 3)))))))
  (xQ (iQ (ct2 lX vX (cv 4) bQ) (xQ (fj 7 S.nd (bN (ct2 lX vX (cv 6) zQ) (cx (cv 0) zQ) (cx (cv 0) zQ)))
  (kQ (gQ (cf (T.F 7 rfl) lW F (qQ (cv 7) (qQ (cv 1) (qQ (cv 2) (c7 (cv 3))))))))) rQ)
  (xQ (fj 8 S.nd (cf (T.F 7 rfl) lW F (qQ (cx (cv 0) zQ) (qQ (cv 1) (qQ (cv 2) (c7 (cv 3)))))))
  (kQ (gQ (cf (T.F 8 rfl) UJ F (qQ (cv 4) (qQ (cv 6) (c7 (cv 8))))))))))))))) ?_
  rintro ts C Q ⟨r,aa,tt,rr,A,τ,R,bs,ns,rfl,B,D,g,L,q⟩
  apply yQ
  cases r with
  |num i =>
   refine aQ cQ (zX (fQ _ _) (uZ (by decide) ?_));exact aQ (v:=.int i) rfl (q C D.hr fu.refl)
  |turn m =>
   unfold Rk.ok at B;refine aQ cQ (zX (fQ _ _) (gX (by decide) ?_));refine pX (zX (fQ _ _) (uZ (by decide) ?_));exact aQ (v:=.str m) rfl (GO D.ht rfl (uA g.t (g.h m B)).1 (q C D.hr fu.refl))
  |ask s m =>
   unfold Rk.ok at B;refine aQ cQ (zX (fQ _ _) ?_)
   have hs:s = "take"\/s = "down"\/s = "box":=by
    rcases B with ⟨h | h,_⟩ | ⟨h,_⟩
    .exact .inl h
    .exact .inr (.inl h)
    .exact .inr (.inr h)
   have ab:decide (s = "num")=false:=by rcases hs with rfl | rfl | rfl<;>decide
   have ae:decide (s = "turn")=false:=by rcases hs with rfl | rfl | rfl<;>decide
   apply gX (by rw[ab];rfl)
   refine pX (zX (fQ _ _) (gX (by rw[ae];rfl) ?_));refine pX (yE (ts:=[.str "take",.str "box",.str "down"]) (w:=.str s) (vs:=[.str "take",.str "box",.str "down"]) rfl rfl rfl (uZ (by rcases hs with rfl | rfl | rfl<;>rfl) ?_));refine yQ (aQ (v:=.str m) rfl ⟨ie 2 rfl,?_⟩);refine pZ ⟨nI D.ha,bA (k:=qK s m) D.ha rfl (bM g.a s m).1 ?_⟩;have hb:=g.b
   apply gA (k:=qK s m) D.hr rfl (by have:=L.len;lia)
   apply EY (k:=qK s m) jQ rfl (by rw[yL,Ab rfl])
   exact q _ jQ (fu.refl.at (by simp) _)
  |bin w x y =>
   cases n with
   |zero=>delta Rk.ok at B;exact B.elim
   |succ d' =>
   unfold Rk.ok at B;obtain⟨M,I,Y⟩:=B;have ab:decide (w = "num")=false:=by rcases M with rfl | rfl | rfl<;>decide
   have ae:decide (w = "turn")=false:=by rcases M with rfl | rfl | rfl<;>decide
   refine aQ cQ (zX (fQ _ _) (gX (by rw[ab];rfl) ?_));refine pX (zX (fQ _ _) (gX (by rw[ae];rfl) ?_));refine pX (yE (ts:=[.str "take",.str "box",.str "down"]) (w:=.str w) (vs:=[.str "take",.str "box",.str "down"]) rfl rfl rfl (gX (by rcases M with rfl | rfl | rfl<;>rfl) ?_))
   apply pX
   try dsimp only
   refine yQ (aQ (v:=x.pv) rfl ⟨d',rfl,x,aa,tt,rr,A,τ,R,bs,ns,rfl,I,D,g,L,fun C1 m1 G=>?_⟩);have O:=D.ex G m1;have U:=rZ (τ:=τ) (cX g.a) I L;refine zX (fQ _ _) (gX (by rcases M with rfl | rfl | rfl<;>decide) ?_)
   apply pX
   try dsimp only
   refine yQ (aQ (v:=y.pv) rfl ⟨d',rfl,y,aa,tt,rr,A,τ,_,bs,ns,rfl,Y,O,g,U,fun C2 N J=>?_⟩);have bx:=bY g.a g.t g.h I;have ah:=bY g.a g.t g.h Y
   exact⟨w,_,_,rfl,M,bx,ah,q C2 N (G.trans J)⟩
  |pick x y z =>
   cases n with
   |zero=>delta Rk.ok at B;exact B.elim
   |succ d' =>
   unfold Rk.ok at B;obtain⟨I,Y,oz⟩:=B;refine aQ cQ (zX (fQ _ _) (gX (by decide) ?_))
   apply pX
   refine zX (fQ _ _) (gX (by decide) ?_)
   apply pX
   refine yE (ts:=[.str "take",.str "box",.str "down"]) (w:=.str "pick") (vs:=[.str "take",.str "box",.str "down"]) rfl rfl rfl (gX rfl (pX ?_))
   try dsimp only
   refine yQ (aQ (v:=x.pv) rfl ⟨d',rfl,x,aa,tt,rr,A,τ,R,bs,ns,rfl,I,D,g,L,fun C1 m1 G=>?_⟩);have O:=D.ex G m1;have U:=rZ (τ:=τ) (cX g.a) I L;refine zX (fQ _ _) (uZ (by decide) ?_);refine yQ (zX (oJ _ _) ?_)
   by_cases h0:x.val A τ=0
   .refine uZ (Af h0) (aQ (v:=z.pv) rfl ⟨d',rfl,z,aa,tt,rr,A,τ,_,bs,ns,rfl,oz,O,g,U,fun C2 N J=>?_⟩)
    have:=q C2 (by unfold Rk.gn;rw[Ab h0];exact N) (G.trans J);unfold Rk.val at this;rw[Ab h0] at this;exact this
   .refine gX (AM h0) (aQ (v:=y.pv) rfl ⟨d',rfl,y,aa,tt,rr,A,τ,_,bs,ns,rfl,Y,O,g,U,fun C2 N J=>?_⟩)
    have:=q C2 (by unfold Rk.gn;rw[Ac h0];exact N) (G.trans J);unfold Rk.val at this;rw[Ac h0] at this;exact this
 induction d with
 |zero=>exact ag 0 fun d' e=>by lia
 |succ d ih=>exact ag (d+1) fun d' e=>by cases A1 e;exact ih
end
structure lu where
 ev:Str
 rank:Int
 last:Bool
 ch:List (Str×Str×Int)
inductive Wt where
 |plain (sp:List Key) (tag:Str) (sets:List (Str×Int)) (hands:List lu) (row:List Wt)
 |part (sp:List Key) (name:Str) (gives:List (Str×Int))
 |give (sp:List Key) (name:Str) (num:Int) (row:List Wt)
noncomputable def Jr(c:Str×Str×Int):PV:=.tup [.str c.1,.str c.2.1,.int c.2.2]
def lu.pv(h:lu):PV:=.tup [.str h.ev,.int h.rank,.bl h.last,.tup (h.ch.map Jr)]
mutual
def Wt.pv:Wt->PV
 |.plain sp q s h r=>.tup [.str "plain",sJ sp,.str q,.tup (s.map dQ),.tup (h.map lu.pv),.tup (Wt.gj r)]
 |.part sp n g=>.tup [.str "part",sJ sp,.str n,.tup (g.map dQ)]
 |.give sp n i r=>.tup [.str "give",sJ sp,.str n,.int i,.tup (Wt.gj r)]
def Wt.gj:List Wt->List PV
 |[]=>[]
 |w::B=>w.pv::Wt.gj B
end
theorem Wt.jx g:Wt.gj g=g.map Wt.pv:=by
 induction g with
 |nil=>rfl
 |cons l g q=>rw[A9,<- q];rfl
def Wt.qi xs ys:Wt.gj (xs++ys)=Wt.gj xs++Wt.gj ys :=by grind[Wt.jx,List.map_append]
def Wt.qg xs:(Wt.gj xs).length=xs.length:=by rw[Wt.jx,AC]
section
variable (A:dw)(τ:jd)
def iX(ps:List (Str×Rk)):List (Str×Int):=ps.map fun c=>(c.1,c.2.val A τ)
def dZ(ps:List (Str×Rk))(R:dw):dw:=ps.foldl (fun R c=>c.2.gn A τ R) R
def jP(cs:List (Str×Str×Rk)):List (Str×Str×Int):=cs.map fun c=>(c.1,c.2.1,c.2.2.val A τ)
def kM(cs:List (Str×Str×Rk))(R:dw):dw:=cs.foldl (fun R c=>c.2.2.gn A τ R) R
def uE(h:Hd):lu:=⟨h.ev,h.rank,h.last,jP A τ h.ch⟩
def tZ(hs:List Hd):List lu:=hs.map (uE A τ)
def mZ(hs:List Hd)(R:dw):dw:=hs.foldl (fun R h=>kM A τ h.ch R) R
def gV:Option Rk->Key
 |none=>.inl none
 |some r=>.inl (some (r.val A τ))
def zK:Option Rk->dw->dw
 |none,R=>R
 |some r,R=>r.gn A τ R
end
def oU(N:jd)(k:Key):Int:=match wV N k with
 |some (.int i)=>i
 |_=>0
noncomputable def qL(i:Int):Nat:=(if i < 8 then i else 8).toNat
def bF i:qL i<=8:=by delta qL;split<;>lia
abbrev jo:=List Wt×jd×dw
def kK(N:jd)(k:Key):List Key:=[k,.inl (some (oU N k))]
def eZ(N:jd)(k:Key):jd:=cZ N k (.int (oU N k+1))
mutual
def eX(A:dw):Ln->jd->jo->jo
 |.when r B D,τ,st=>if r.val A τ=0 then nQ A D τ (st.1,st.2.1,r.gn A τ st.2.2) else nQ A B τ (st.1,st.2.1,r.gn A τ st.2.2)
 |.each n r q,τ,st=>(List.range (qL (r.val A τ))).foldl (fun st k=>nQ A q (cZ τ (.inr n) (.int (k:Nat))) st) (st.1,st.2.1,r.gn A τ st.2.2)
 |.part k n g,τ,st=>(st.1++[.part (kK st.2.1 (gV A τ k)) n (eW (iX A τ g))],eZ st.2.1 (gV A τ k),dZ A τ g (zK A τ k st.2.2))
 |.give k n r q,τ,st =>
  let d:=nQ A q τ ([],[],r.gn A τ (zK A τ k st.2.2))
  (st.1++[.give (kK st.2.1 (gV A τ k)) n (r.val A τ) d.1],eZ st.2.1 (gV A τ k),d.2.2)
 |.plain k F s hs q,τ,st =>
  let d:=nQ A q τ ([],[],mZ A τ hs (dZ A τ s (zK A τ k st.2.2)))
  (st.1++[.plain (kK st.2.1 (gV A τ k)) F (eW (iX A τ s)) (tZ A τ hs) d.1],eZ st.2.1 (gV A τ k),d.2.2)
def nQ(A:dw):List Ln->jd->jo->jo
 |[],_,st=>st
 |l::q,τ,st=>nQ A q τ (eX A l τ st)
end
def rD(A:dw)(τ:jd)(sp:List Key):Ln->dw->Wt×dw
 |.part _ n g,R=>(.part sp n (eW (iX A τ g)),dZ A τ g R)
 |.give _ n r q,R=>(.give sp n (r.val A τ) (nQ A q τ ([],[],r.gn A τ R)).1,(nQ A q τ ([],[],r.gn A τ R)).2.2)
 |.plain _ B s hs q,R=>(.plain sp B (eW (iX A τ s)) (tZ A τ hs) (nQ A q τ ([],[],mZ A τ hs (dZ A τ s R))).1,(nQ A q τ ([],[],mZ A τ hs (dZ A τ s R))).2.2)
 |_,R=>(.part sp "" [],R)
def zJ A τ st:nQ A [] τ st=st:=by rfl
def hZ A l g τ st:nQ A (l::g) τ st=nQ A g τ (eX A l τ st):=by rw[nQ]
def Z6 A xs ys τ st:nQ A (xs++ys) τ st=nQ A ys τ (nQ A xs τ st):=by
 induction xs generalizing st with
 |nil=>rfl
 |cons x xs g=>rw[B0,hZ,hZ,g]
noncomputable def XF:Ln->Bool
 |.when _ _ _=>false
 |.each _ _ _=>false
 |_=>true
noncomputable def wK:Ln->Option Rk
 |.plain k _ _ _ _=>k
 |.part k _ _=>k
 |.give k _ _ _=>k
 |_=>none
def Z5 A τ l F N R(h:XF l=true):
  eX A l τ (F,N,R)=(F++[(rD A τ (kK N (gV A τ (wK l))) l (zK A τ (wK l) R)).1],eZ N (gV A τ (wK l)),(rD A τ (kK N (gV A τ (wK l))) l (zK A τ (wK l) R)).2):=by
 cases l with
 |plain k G s hs q=>rfl
 |part k n g=>rfl
 |give k n r q=>rfl
 |when r B D=>cases h
 |each n r q=>cases h
theorem iW{α:Type}{f}{m:α->Nat}(h:∀x k,m (f x k)<=m x+c):∀(l:List Nat)x,m (l.foldl f x)<=m x+l.length * c
 |[],x=>by show m x<=m x+0 * c;lia
 |k::l,x=>by
  have h1:=iW h l (f x k);have h2:=h x k;rw[Dc,AV]
  lia
mutual
theorem XC(A:dw):∀(l:Ln)(τ:jd)(st:jo),(eX A l τ st).1.length<=st.1.length+l.tw/\(eX A l τ st).2.1.length<=st.2.1.length+l.tw
 |.when r B D,τ,st=>by
  rw[eX];have h1:=pJ A B τ (st.1,st.2.1,r.gn A τ st.2.2);have h2:=pJ A D τ (st.1,st.2.1,r.gn A τ st.2.2);show _<=_+(Ln.f9 B+Ln.f9 D)/\_<=_+(Ln.f9 B+Ln.f9 D)
  split
  .exact ⟨Ad h2.1 (by show st.1.length+_<=_;omega),Ad h2.2 (by show st.2.1.length+_<=_;omega)⟩
  .exact ⟨Ad h1.1 (by show st.1.length+_<=_;omega),Ad h1.2 (by show st.2.1.length+_<=_;omega)⟩
 |.each n r q,τ,st=>by
  rw[eX];have c:=bF (r.val A τ);have F:=iW (f:=fun st k=>nQ A q (cZ τ (.inr n) (.int (k:Nat))) st) (m:=fun st=>st.1.length) (c:=Ln.f9 q) (fun x k=>(pJ A q _ x).1) (List.range (qL (r.val A τ))) (st.1,st.2.1,r.gn A τ st.2.2);have G:=iW (f:=fun st k=>nQ A q (cZ τ (.inr n) (.int (k:Nat))) st) (m:=fun st=>st.2.1.length) (c:=Ln.f9 q) (fun x k=>(pJ A q _ x).2) (List.range (qL (r.val A τ))) (st.1,st.2.1,r.gn A τ st.2.2)
  rw[A6] at F G;have I:qL (r.val A τ) * Ln.f9 q<=8 * Ln.f9 q:=BZ _ c;show _<=st.1.length+8 * Ln.f9 q/\_<=st.2.1.length+8 * Ln.f9 q;exact⟨Ad F (by show st.1.length+_<=_;omega),Ad G (by show st.2.1.length+_<=_;omega)⟩
 |.part k n g,τ,st=>by
  rw[eX];refine⟨by show(st.1++[_]).length<=st.1.length+1;rw[AQ,A3];exact AI _,fB _ _ _⟩
 |.give k n r q,τ,st=>by
  rw[eX];refine⟨by show(st.1++[_]).length<=st.1.length+(1+_);rw[AQ,A3];omega,Ad (fB _ _ _) (by show _<=_+(1+_);omega)⟩
 |.plain k J s hs q,τ,st=>by
  rw[eX];refine⟨by show(st.1++[_]).length<=st.1.length+(1+_);rw[AQ,A3];omega,Ad (fB _ _ _) (by show _<=_+(1+_);omega)⟩
theorem pJ(A:dw):∀(q:List Ln)(τ:jd)(st:jo),(nQ A q τ st).1.length<=st.1.length+Ln.f9 q/\(nQ A q τ st).2.1.length<=st.2.1.length+Ln.f9 q
 |[],τ,st=>by rw[zJ];exact⟨BX _ _,BX _ _⟩
 |l::q,τ,st=>by
  rw[hZ];have h1:=XC A l τ st;have h2:=pJ A q τ (eX A l τ st);show _<=_+(l.tw+Ln.f9 q)/\_<=_+(l.tw+Ln.f9 q);omega
end
theorem jZ(g:nH A bs P): ∀{ps}{R},QI bs ns d ps->P R->P (dZ A τ ps R)
 |[],R,_,h=>h
 |c::ps,R,q,h=>jZ (ps:=ps) g (fun x B=>q x (AJ _ B)) (rZ g (q c AG).1 h)
theorem xP(g:nH A bs P): ∀{cs}{R},(∀c∈cs,c.2.2.ok bs ns d)->P R->P (kM A τ cs R)
 |[],R,_,h=>h
 |c::ps,R,q,h=>xP (cs:=ps) g (fun x B=>q x (AJ _ B)) (rZ g (q c AG) h)
theorem cK(g:nH A bs P):∀{hs}{R},(∀h∈hs,h.ok bs ns)->P R->P (mZ A τ hs R)
 |[],R,_,h=>h
 |c::ps,R,q,h=>cK (hs:=ps) g (fun x B=>q x (AJ _ B)) (xP g (q c AG).c h)
def uW(q:nH A bs P)(h:kT bs ns k)(g:P R):P (zK A τ k R):=by
 cases k with
 |none=>exact g
 |some r=>exact rZ q h g
theorem fS{P:dw->Prop}(h1:∀l ns τ st,gw bs rs d ns l->P st.2.2->P (eX A l τ st).2.2):∀g ns τ st,(∀x∈g,gw bs rs d ns x)->P st.2.2->P (nQ A g τ st).2.2
 |[],ns,τ,st,_,h=>by rwa [zJ]
 |l::g,ns,τ,st,q,h =>fS h1 g ns τ _ (fun x B=>q x (AJ _ B)) (h1 l ns τ st (q l AG) h)
theorem eK{α g:Type}{f}{P:α->Prop}(h:∀x k,P x->P (f x k)):∀(l:List g)x,P x->P (l.foldl f x)
 |[],x,p=>p
 |k::l,x,p=>eK h l _ (h x k p)
def Im(q:nH A bs P):∀d l ns τ st,gw bs rs d ns l->P st.2.2->P (eX A l τ st).2.2:=by
 intro d
 induction d with
 |zero=>intro l ns τ st h;exact h.elim
 |succ d L =>
  intro l ns τ st h F;have G:=fS L
  cases l with
  |plain k O s hs I =>
   exact bH h fun h1 h2 B D J=>G I ns τ _ D (cK q B.1 (jZ q h2.1 (uW q h1 F)))
  |part k n g =>
   exact cT h fun h1 h2 B D=>jZ q B (uW q h1 F)
  |give k n r I =>
   exact bH h fun h1 h2 B D J=>G I ns τ _ D (rZ q B (uW q h1 F))
  |when r M N =>
   obtain⟨h1,⟨h2,B⟩,D,J⟩:=h;rw[eX]
   split
   .exact G N ns τ _ D (rZ q h1 F)
   .exact G M ns τ _ h2 (rZ q h1 F)
  |each n r I =>
   exact lT h fun h1 h2 B=>eK (fun x k p=>G I [n] _ x h2 p) _ _ (rZ q h1 F)
def vJ(q:nH A bs P)(h:∀x∈g,gw bs rs d ns x)(B:P st.2.2):P (nQ A g τ st).2.2:=fS (Im q d) g ns τ st h B
def iz(N:jd):Prop:=∀g∈N,∃i,g.2=.int i
def iz.put(h:iz N)k i:iz (cZ N k (.int i)):=by
 intro B g
 delta cZ at g
 split at g
 .obtain ⟨x,q,rfl⟩:=AL.1 g
  split
  .exact ⟨i,rfl⟩
  .exact h x q
 .rcases Ax.1 g with g | g
  .exact h B g
  .grind
def G3(h:iz N)k:(wV N k).getD (.int 0)=.int (oU N k):=by
 delta oU
 cases e:wV N k with
 |none=>rfl
 |some v =>
  obtain⟨B,q,rfl⟩:=QS e;obtain⟨i,g⟩:=h B q;rw[g]
  rfl
mutual
theorem Ip(A:dw):∀(l:Ln)(τ:jd)(st:jo),iz st.2.1->iz (eX A l τ st).2.1
 |.when r B D,τ,st,h=>by
  rw[eX]
  split
  .exact nY A D τ _ h
  .exact nY A B τ _ h
 |.each n r q,τ,st,h=>by
  rw[eX];exact eK (P:=fun st:jo=>iz st.2.1) (fun x k p=>nY A q _ x p) _ _ h
 |.part k n g,τ,st,h=>by rw[eX];exact h.put _ _
 |.give k n r q,τ,st,h=>by rw[eX];exact h.put _ _
 |.plain k F s hs q,τ,st,h=>by rw[eX];exact h.put _ _
theorem nY(A:dw):∀(q:List Ln)(τ:jd)(st:jo),iz st.2.1->iz (nQ A q τ st).2.1
 |[],τ,st,h=>by rw[zJ];exact h
 |l::q,τ,st,h=>by rw[hZ];exact nY A q τ _ (Ip A l τ st h)
end
def pH(I:List PV->List PV->CH->Prop)(D:∀x r acc C,I (x::r) acc C->∃ts,x=.tup ts/\ts.length=n/\∀L:K1,(∀y C2,acc.length < sizeLine/\I r (acc++[y]) C2->L y C2)->c (ts.map some++F) C L)(g:∀acc C,I [] acc C->∀p,C p=none->Q (.ref p) (pQ C p (.lst acc))):
  ∀xs acc C,I xs acc C->pF n Zc c F Q xs acc C:=by
 intro xs
 induction xs with
 |nil=>intro acc C h;exact g acc C h
 |cons x r B =>
  intro acc C h;exact jJ (D x r acc C h) fun ts e q st=>⟨ts,e,q,st _ fun y C2 z=>⟨z.1,B _ _ z.2⟩⟩
section
variable {W:Wd}{a:Adr}
structure Sf(a:Adr)(C:CH)(x aa rr:Addr)(A R:dw):Prop where
 ins:∃dx,C x=some (.ins a.Drawer dx [("answers",.ref aa),("asked",.ref rr)])
 ans:C aa=some (.dT A)
 ask:C rr=some (.dT R)
 ne:aa≠rr
def Sf.nx(h:Sf a C x aa rr A R):x≠rr:=fun e=>by
 obtain⟨dx,h1⟩:=h.ins;rw[e,h.ask] at h1;cases h1
theorem Sf.keep{g:dw}(h:Sf a C x aa rr A R)(e:fu S C C')(D:x∉S)(B:aa∉S)(q:C' rr=some (.dT g)):Sf a C' x aa rr A g :=
 ⟨let ⟨dx,h1⟩:=h.ins;⟨dx,e _ _ D h1⟩,e _ _ B h.ans,q,h.ne⟩
def Sf.keep'(h:Sf a C x aa rr A R)(e:fu S C C')(B:x∉S)(q:aa∉S)(g:rr∉S):Sf a C' x aa rr A R :=
 h.keep e B q (e _ _ g h.ask)
def Sf.rd{g:dw}(h:Sf a C x aa rr A R)(e:fu [rr] C C')(q:C' rr=some (.dT g)):Sf a C' x aa rr A g :=
 h.keep e (fun z=>h.nx (AF.1 z)) (fun z=>h.ne (AF.1 z)) q
def Sf.new(h:Sf a C x aa rr A R)(g:C p=none)o:Sf a (pQ C p o) x aa rr A R :=h.keep' (fu.refl.put g o) (CN) (CN) (CN)
def Sf.nd(h:Sf a C x aa rr A R)(m:C g=some (.dK cs)):x≠g/\aa≠g/\rr≠g:=by
 obtain⟨dx,h1⟩:=h.ins;refine⟨fun e=>?_,fun e=>?_,fun e=>?_⟩
 .lia
 .have:=h.ans;rw[e,m] at this;cases this
 .have:=h.ask;rw[e,m] at this;cases this
def Sf.nl(h:Sf a C x aa rr A R)(m:C p=some (.lst xs)):x≠p/\aa≠p/\rr≠p:=by
 obtain⟨dx,h1⟩:=h.ins;refine⟨fun e=>?_,fun e=>?_,fun e=>?_⟩
 .lia
 .have:=h.ans;rw[e,m] at this;cases this
 .have:=h.ask;rw[e,m] at this;cases this
def Sf.nn(h:Sf a C x aa rr A R)(m:C p=none):x≠p/\aa≠p/\rr≠p:=by
 obtain⟨dx,h1⟩:=h.ins;refine⟨fun e=>?_,fun e=>?_,fun e=>?_⟩
 .lia
 .have:=h.ans;rw[e,m] at this;cases this
 .have:=h.ask;rw[e,m] at this;cases this
inductive Pq(a:Adr)(ts:List PV)(C:CH)(Q:K1):Prop
 |mk(x dx aa:Addr)(A:dw)(z0:ts=[.ref x,.ref aa])(z1:C x=some (.ins a.Drawer dx []))(z2:C aa=some (.dT A))(z3:∀C' rr,C rr=none->Sf a C' x aa rr A []->fu [x] C C'->Q .non C')
def ok_init(T:Tx W a):Ok W a 1 50 ["self","answers"] (Pq a):=by
 refine(T.F 50 rfl).o (fun M=>(xQ (Js T.uX T.bU (cv 0) (cv 1))
  (kQ (Js T.uX T.sY (cv 0) wC)))) ?_
 rintro ts C R ⟨x,dx,L,A,rfl,G,g,q⟩;have I:L≠x:=fun e=>by rw[e,G] at g;cases g
 apply ZJ G (by decide)
 intro F D
 have B:C F=none:=by
  rw[vQ (fun z=>by rw[z,jQ] at D;cases D)] at D;exact D
 have J:F≠x:=fun e=>by rw[e,G] at B;cases B
 apply ZJ (by rw[vQ (Ne.symm J)];exact jQ) (by show 1 < 1000;decide)
 refine q _ F B ⟨⟨dx,?_⟩,?_,?_,fun e=>by rw[e,B] at g;cases g⟩ ?_
 .rw [jQ]
  rfl
 .rw [vQ I,vQ (fun e=>by rw[e,B] at g;cases g),vQ I];exact g
 .exact (vQ J)▸jQ
 .exact ((fu.refl.at AG _).put B _).at AG _
inductive Px(a:Adr)(d:Nat)(ts:List PV)(C:CH)(Q:K1):Prop
 |mk(r:Rk)(x aa tt rr:Addr)(A:dw)(τ:jd)(R:dw)(bs ns:List Str)(z0:ts=[.ref x,r.pv,.ref tt])(z1:r.ok bs ns d)(z2:Sf a C x aa rr A R)(z3:C tt=some (.dK τ))(z4:hW A τ bs ns)(z5:iw bs R)(z6:∀C',Sf a C' x aa rr A (r.gn A τ R)->fu [rr] C C'->Q (.int (r.val A τ)) C')
def aM(T:Tx W a)d:Ok W a (d+4) 51 ["self","reckoning","turns"] (Px a d):=by
 have J:=wI T d;refine(T.F 51 rfl).o (fun I=>(kQ (gQ (cf (T.F 7 rfl) J I (qQ (cv 1) (qQ (iD T.uX T.bU (cv 0)) (qQ (cv 2) (c7 (iD T.uX T.sY (cv 0)))))))))) ?_;rintro ts C Q ⟨r,x,aa,tt,rr,A,τ,R,bs,ns,rfl,N,g,M,G,F,q⟩;obtain⟨dx,B⟩:=g.ins;exact tR B rfl (tR B rfl ⟨r,aa,tt,rr,A,τ,R,bs,ns,rfl,N,⟨g.ans,M,g.ask,g.ne⟩,G,F,fun C1 L D=>q C1 (g.rd D L) D⟩)
inductive bE(a:Adr)(ts:List PV)(C:CH)(Q:K1):Prop
 |mk(ps:List (Str×Rk))(x aa tt rr:Addr)(A:dw)(τ:jd)(R:dw)(bs ns:List Str)(z0:ts=[.ref x,.tup (ps.map pB),.ref tt])(z1:QI bs ns 2 ps)(z2:ps.length<=4)(z3:Sf a C x aa rr A R)(z4:C tt=some (.dK τ))(z5:hW A τ bs ns)(z6:iw bs R)(z7:∀C' l,C l=none->C' l=some (.lst ((iX A τ ps).map dQ))->Sf a C' x aa rr A (dZ A τ ps R)->fu [rr] C C'->Q (.ref l) C')
def jN(T:Tx W a):Ok W a 7 52 ["self","pairs","turns"] (bE a):=by
 have S:=(T.F 52 rfl).s;have Y:=aM T 2;refine(T.F 52 rfl).o (fun hr=>(kQ (gQ (zY rfl (S.c (by decide +kernel)) (S.k rfl rfl rfl (by decide +kernel)) (tU (cv 1)) (fun _ _ _ _ _=>oV) (fun _ _ _ _ _=>(wQ (qQ (cx (cv 0) zQ) (c7 (cm T.uX (T.F 51 rfl) T.gZ Y hr (cv 1) (qQ (cx (cv 0) zQ) (c7 (cv 3)))))))))))) ?_;rintro ts C Q ⟨ps,x,aa,tt,rr,A,τ,R,bs,ns,rfl,J,hl,O,M,I,hR,q⟩;refine uF (fun zs acc C1=>∃ds es:List (Str×Rk),ps=ds++es/\zs=es.map pB/\acc=(iX A τ ds).map dQ/\Sf a C1 x aa rr A (dZ A τ ds R)/\fu [rr] C C1) ?_ ?_ _ _ _ ⟨[],ps,rfl,rfl,rfl,O,fu.refl⟩
 .rintro z zs acc C1 ⟨ds,es,g,B,rfl,D,F⟩ L Z
  cases es with
  |nil=>cases B
  |cons p es =>
   injection B with B U
   subst B U;obtain⟨dx,mx⟩:=D.ins;refine aQ rfl ⟨dX mx rfl,aQ rfl ⟨p.2,x,aa,tt,rr,A,τ,_,bs,ns,rfl,(J p (g▸AO _ AG)).1,D,F _ _ (fun z=>(O.nd M).2.2 (AF.1 z).symm) M,I,jZ (cX I.a) (fun y hy=>J y (g▸Ak _ hy)) hR,fun C2 ab x2=>⟨ie 2 rfl,?_⟩⟩⟩;refine Z _ _ ⟨?_,ds++[p],es,by rw[g,AX];rfl,rfl,by delta iX;rw[AS,AS];rfl,?_,F.trans x2⟩
   .rw [AC]
    delta iX
    rw[AC];have:ds.length<=4 :=by simp_all;lia
    exact Ah this (by decide)
   .unfold dZ at ab ⊢
    rwa [Au]
 .rintro acc C1 ⟨ds,es,g,B,rfl,D,F⟩ p G
  cases es with
  |cons _ _=>cases B
  |nil =>
   rw[Aa] at g;subst g;have N:=F.none (fun z=>(D.nn G).2.2 (AF.1 z).symm) G;exact q _ p N jQ (D.new G _) (F.put N _)
def ig k:fV (iV k)=some k:=by
 rcases k with (_ | i) | x<;>rfl
inductive O9(a:Adr)(ts:List PV)(C:CH)(Q:K1):Prop
 |mk(k:Option Rk)(x aa tt rr cc:Addr)(A:dw)(τ:jd)(R:dw)(N:jd)(bs ns:List Str)(z0:ts=[.ref x,iB k,.ref tt,.ref cc])(z1:kT bs ns k)(z2:Sf a C x aa rr A R)(z3:C tt=some (.dK τ))(z4:C cc=some (.dK N))(z5:iz N)(z6:N.length<=900)(z7:hW A τ bs ns)(z8:iw bs R)(z9:∀C',C' cc=some (.dK (eZ N (gV A τ k)))->Sf a C' x aa rr A (zK A τ k R)->fu [rr,cc] C C'->Q (sJ (kK N (gV A τ k))) C')
def wg(T:Tx W a):Ok W a 5 57 ["self","key","turns","counts"] (O9 a):=by
 have S:=(T.F 57 rfl).s;have M:=aM T 0
 refine(T.F 57 rfl).o (fun g=>(xQ (fj 4 S.nd (bN (ct2 lB vG (cv 1) sZ) sZ (cm T.uX (T.F 51 rfl) T.gZ M g (cv 0) (qQ (cv 1) (c7 (cv 2))))))
  (xQ (fj 5 S.nd (X7 (yK g) (cv 3) (cv 4) zQ))
  (xQ (qP (yK g) (cv 3) (cv 4) (hX yZ bZ (cv 5) zQ))
  (kQ (gQ (wQ (qQ (cv 4) (c7 (cv 5)))))))))) ?_
 rintro ts C Q ⟨B,x,aa,tt,rr,cc,A,τ,R,N,bs,ns,rfl,hk,D,ab,J,Z,hs,U,O,q⟩;obtain⟨n1,n2,n3⟩:=(D.nd J)
 have nX:∀C1,Sf a C1 x aa rr A (zK A τ B R)->fu [rr] C C1->JD (Ww 5 (Uv (jK 3) (jK 4) (cC (.int 0)))) (JD (Hj (jK 3) (jK 4) (o6 QC (jK 5) (cC (.int 1)))) (Rj (Um (uU (jK 4) (uU (jK 5) Qu))))) { nx:=fun _ C'=>Q .non C',rt:=Q } [some (.ref x),some (iB B),some (.ref tt),some (.ref cc),some (iV (gV A τ B)),none] C1:=by
  intro C1 I F;have G:=F _ _ (fun z=>n3 (AF.1 z).symm) J;refine yQ ⟨Jf G,Gk G (ig _) (G3 Z _) (pZ (gU (rA G (ig _) (by lia) ?_)))⟩;refine⟨ie 2 rfl,?_⟩;refine q _ jQ (I.keep' (S:=[cc]) (fu.refl.at AG _) ?_ ?_ ?_) ((F.mono fun b Y=>Ai.2 (.inl (AF.1 Y))).at (AJ _ AG) _)
  .grind
  .grind
  .grind
 cases B with
 |none=>exact nX C D fu.refl
 |some r =>
   obtain⟨dx,mx⟩:=D.ins;have g:∃xs,r.pv=.tup xs:=by cases r<;>exact⟨_,rfl⟩
   obtain⟨xs,g⟩:=g;have L:=nX
   simp only[iB,g] at L ⊢
   refine yQ (yr (xK rfl (uT rfl ⟨dX mx rfl,⟨r,x,aa,tt,rr,A,τ,R,bs,ns,by rw[g],hk,D,ab,U,O,fun C1 I F=>?_⟩⟩)));exact L C1 I F
inductive Pr(a:Adr)(ts:List PV)(C:CH)(Q:K1):Prop
 |mk(h:Hd)(x aa tt rr:Addr)(A:dw)(τ:jd)(R:dw)(bs ns:List Str)(z0:ts=[.ref x,h.pv,.ref tt])(z1:h.ok bs ns)(z2:Sf a C x aa rr A R)(z3:C tt=some (.dK τ))(z4:hW A τ bs ns)(z5:iw bs R)(z6:∀C',Sf a C' x aa rr A (kM A τ h.ch R)->fu [rr] C C'->Q (uE A τ h).pv C')
def wy(T:Tx W a):Ok W a 6 58 ["self","hand","turns"] (Pr a):=by
 have S:=(T.F 58 rfl).s;have U:=aM T 1
 refine(T.F 58 rfl).o (fun hr=>(xQ (za (i:=3) S.nd rfl (Or.inl rfl) rfl (S.c (by decide +kernel)) (S.k rfl rfl rfl (by decide +kernel)) (tU (cx (cv 1) zQ)) (fun _ _ _ _ _=>oV) (fun _ _ _ _ _=>(wQ (qQ (cx (cv 0) zQ) (qQ (cx (cv 0) zQ) (c7 (cm T.uX (T.F 51 rfl) T.gZ U hr (cv 1) (qQ (cx (cv 0) zQ) (c7 (cv 3))))))))))
  (kQ (gQ (wQ (qQ (cx (cv 1) zQ) (qQ (cx (cv 1) zQ) (qQ (cx (cv 1) zQ) (c7 (qb T.fZ (cv 3))))))))))) ?_
 rintro ts C Q ⟨h,x,aa,tt,rr,A,τ,R,bs,ns,rfl,G,N,M,J,Z,q⟩;refine yQ (aQ rfl (uF (fun zs acc C1=>∃ds es:List (Str×Str×Rk),h.ch=ds++es/\zs=es.map Ms/\acc=(jP A τ ds).map Jr/\Sf a C1 x aa rr A (kM A τ ds R)/\fu [rr] C C1) ?_ ?_ _ _ _ ⟨[],h.ch,rfl,rfl,rfl,N,fu.refl⟩))
 .rintro z zs acc C1 ⟨ds,es,g,B,rfl,D,F⟩ L Y
  cases es with
  |nil=>cases B
  |cons p es =>
   rw[A9] at B;injection B with B O
   subst B O;obtain⟨dx,mx⟩:=D.ins;refine aQ rfl (aQ rfl ⟨dX mx rfl,aQ rfl ⟨p.2.2,x,aa,tt,rr,A,τ,_,bs,ns,rfl,G.c p (g▸AO _ AG),D,F _ _ (fun z=>(N.nd M).2.2 (AF.1 z).symm) M,J,xP (cX J.a) (fun y hy=>G.c y (g▸Ak _ hy)) Z,fun C2 ab x2=>⟨ie 3 rfl,?_⟩⟩⟩);refine Y _ _ ⟨?_,ds++[p],es,by rw[g,AX];rfl,rfl,by delta jP;rw[AS,AS];rfl,?_,F.trans x2⟩
   .rw [AC]
    delta jP
    rw[AC];have hl:=G.1;have:ds.length<=4 :=by simp_all;lia
    exact Ah this (by decide)
   .unfold kM at ab ⊢
    rwa [Au]
 .rintro acc C1 ⟨ds,es,g,B,rfl,D,F⟩ p I
  cases es with
  |cons _ _=>cases B
  |nil =>
   rw[Aa] at g;refine aQ rfl (aQ rfl (aQ rfl (sW jQ ⟨ie 4 rfl,?_⟩)));have:=q _ (by rw[g];exact D.new I _) (F.put (F.none (fun z=>(D.nn I).2.2 (AF.1 z).symm) I) (.lst ((jP A τ ds).map Jr)));unfold lu.pv uE at this
   rwa [g] at this
end
structure S6(a:Adr)(C:CH)(x aa rr tt ff cc:Addr)(A:dw)(τ:jd)(st:jo):Prop where
 sf:Sf a C x aa rr A st.2.2
 mt:C tt=some (.dK τ)
 mf:C ff=some (.lst (Wt.gj st.1))
 mc:C cc=some (.dK st.2.1)
 tc:tt≠cc
section
variable {a:Adr}{C C':CH}{x aa rr tt ff cc:Addr}{A:dw}{τ:jd}{st st':jo}
def S6.fc(h:S6 a C x aa rr tt ff cc A τ st):ff≠cc:=fun z=>by have:=h.mf;rw[z,h.mc] at this;cases this
def S6.tf(h:S6 a C x aa rr tt ff cc A τ st):tt≠ff:=fun z=>by have:=h.mt;rw[z,h.mf] at this;cases this
def S6.fr(h:S6 a C x aa rr tt ff cc A τ st):ff≠rr:=fun z=>(h.sf.nl h.mf).2.2 z.symm
def S6.cr(h:S6 a C x aa rr tt ff cc A τ st):cc≠rr:=fun z=>(h.sf.nd h.mc).2.2 z.symm
def S6.tr(h:S6 a C x aa rr tt ff cc A τ st):tt≠rr:=fun z=>(h.sf.nd h.mt).2.2 z.symm
def S6.nt(h:S6 a C x aa rr tt ff cc A τ st):tt∉[ff,cc,rr]:=fun z=>by
 simp only[List.mem_cons,List.not_mem_nil,or_false] at z
 rcases z with z | z | z
 .exact h.tf z
 .exact h.tc z
 .exact h.tr z
def S6.rd(h:S6 a C x aa rr tt ff cc A τ st)(e:fu [rr] C C')(s:Sf a C' x aa rr A R):S6 a C' x aa rr tt ff cc A τ (st.1,st.2.1,R) :=
 ⟨s,e _ _ (fun z=>h.tr (AF.1 z)) h.mt,e _ _ (fun z=>h.fr (AF.1 z)) h.mf,e _ _ (fun z=>h.cr (AF.1 z)) h.mc,h.tc⟩
end
def xG(h:fu [rr] C C'):fu [ff,cc,rr] C C':=h.mono fun b z=>by rw[AF.1 z];simp
def gH(h:fu [rr] C C'):fu [rr,cc] C C':=h.mono fun b z=>by rw[AF.1 z];simp
def KU(h:fu [rr,cc] C C'):fu [ff,cc,rr] C C':=h.mono fun b z=>by
 simp only[List.mem_cons,List.not_mem_nil] at z ⊢
 rcases z with z | z
 .lia
 .lia
def mC{r:List PV}:atI (x::y::r) 1=some y:=dS (by simp)
def Fe(h:XF l=true):∃q nX,l.pv=.tup (.str q::iB (wK l)::nX)/\decide (q = "when")=false/\decide (q = "each")=false:=by
 cases l with
 |plain k G s hs B=>exact⟨"plain",_,by rfl,by decide,by decide⟩
 |part k n g=>exact⟨"part",_,by rfl,by decide,by decide⟩
 |give k n r B=>exact⟨"give",_,by rfl,by decide,by decide⟩
 |when r D F=>cases h
 |each n r B=>cases h
def Hx(h:XF l=true)(q:gw bs rs d ns l):kT bs ns (wK l):=by
 cases d with
 |zero=>exact q.elim
 |succ d =>
 cases l with
 |plain k G s hs B=>exact q.1
 |part k n g=>exact q.1
 |give k n r B=>exact q.1
 |when r D F=>cases h
 |each n r B=>cases h
inductive Py(a:Adr)(d:Nat)(ts:List PV)(C:CH)(Q:K1):Prop
 |mk(ls:List Ln)(x aa tt rr ff cc:Addr)(A:dw)(τ:jd)(st:jo)(bs rs ns:List Str)(z0:ts=[.ref x,.tup (Ln.gj ls),.ref tt,.ref ff,.ref cc])(z1:(∀x∈ls,gw bs rs d ns x))(z2:st.1.length+Ln.f9 ls<=400)(z3:st.2.1.length+Ln.f9 ls<=400)(z4:τ.length+d<=50)(z5:S6 a C x aa rr tt ff cc A τ st)(z6:hW A τ bs ns)(z7:iw bs st.2.2)(z8:iz st.2.1)(z9:∀C',S6 a C' x aa rr tt ff cc A τ (nQ A ls τ st)->fu [ff,cc,rr] C C'->Q .non C')
inductive LC(a:Adr)(d:Nat)(ts:List PV)(C:CH)(Q:K1):Prop
 |mk d'(z0:d=d'+1)(z1:Py a d' ts C Q)
inductive Lz(a:Adr)(d:Nat)(ts:List PV)(C:CH)(Q:K1):Prop
 |mk(ls:List Ln)(x aa tt rr:Addr)(A:dw)(τ:jd)(R:dw)(bs rs ns:List Str)(z0:ts=[.ref x,.tup (Ln.gj ls),.ref tt])(z1:(∀x∈ls,gw bs rs d ns x))(z2:Ln.f9 ls<=400)(z3:τ.length+d<=50)(z4:Sf a C x aa rr A R)(z5:C tt=some (.dK τ))(z6:hW A τ bs ns)(z7:iw bs R)(z8:∀C',Sf a C' x aa rr A (nQ A ls τ ([],[],R)).2.2->fu [rr] C C'->Q (.tup (Wt.gj (nQ A ls τ ([],[],R)).1)) C')
inductive Gp(a:Adr)(d:Nat)(ts:List PV)(C:CH)(Q:K1):Prop
 |mk d'(z0:d=d'+1)(z1:Lz a d' ts C Q)
inductive Gm(a:Adr)(d:Nat)(ts:List PV)(C:CH)(Q:K1):Prop
 |mk(l:Ln)(x aa tt rr cc:Addr)(A:dw)(τ:jd)(R:dw)(N:jd)(bs rs ns:List Str)(z0:ts=[.ref x,l.pv,.ref tt,.ref cc])(z1:XF l=true)(z2:gw bs rs d ns l)(z3:l.tw<=400)(z4:τ.length+d<=50)(z5:Sf a C x aa rr A R)(z6:C tt=some (.dK τ))(z7:C cc=some (.dK N))(z8:tt≠cc)(z9:iz N)(z10:N.length<=900)(z11:hW A τ bs ns)(z12:iw bs R)(z13:∀C',C' cc=some (.dK (eZ N (gV A τ (wK l))))->Sf a C' x aa rr A (rD A τ (kK N (gV A τ (wK l))) l (zK A τ (wK l) R)).2->fu [rr,cc] C C'->Q (rD A τ (kK N (gV A τ (wK l))) l (zK A τ (wK l) R)).1.pv C')
section
variable {W:Wd}{a:Adr}
def YF(T:Tx W a)(U:Ok W a k 54 ["self","lines","turns","row","counts"] (Py a d)):Ok W a (k+1) 53 ["self","lines","turns"] (Lz a d):=by
 refine(T.F 53 rfl).o (fun hr=>(xQ (fj 3 ((T.F 53 rfl).s).nd (oZ zZ))
  (xQ (xZ (cm T.uX (T.F 54 rfl) T.gZ U hr (cv 0) (qQ (cv 1) (qQ (cv 2) (qQ (cv 3) (c7 gF))))))
  (kQ (gQ (qb T.fZ (cv 3))))))) ?_
 rintro ts C Q ⟨ae,x,aa,tt,rr,A,τ,R,bs,rs,ns,rfl,ah,ai,ab,sf,g,Z,Y,q⟩;refine⟨by decide,fun ff F=>?_⟩;have O:=sf.new F (.lst []);refine PP O.ins fun dx mx=>pZ ⟨dX mx rfl,?_⟩;intro cc B;have L:cc≠ff:=fun z=>by rw[z,jQ] at B;cases B
 have J:C cc=none:=by rwa [vQ L] at B
 have ag:tt≠ff:=fun z=>by rw[z,F] at g;cases g
 have M:tt≠cc:=fun z=>by rw[z,J] at g;cases g
 refine⟨ae,x,aa,tt,rr,ff,cc,A,τ,([],[],R),bs,rs,ns,rfl,ah,by show 0+_<=400;lia,by show 0+_<=400;lia,ab,⟨(O.new B (.dK [])),by rw[vQ M,vQ ag];exact g,by exact(vQ (Ne.symm L))▸jQ,jQ,M⟩,Z,Y,(fun _ z=>nomatch z),fun C2 N S=>?_⟩;refine sW N.mf (q C2 N.sf fun b o hb D=>?_);have G:b≠ff:=fun z=>by rw[z,F] at D;cases D
 have I:b≠cc:=fun z=>by rw[z,J] at D;cases D
 refine S b o (fun z=>?_) (by rwa [vQ I,vQ G])
 simp only[List.mem_cons,List.not_mem_nil] at z
 rcases z with z | z | z
 .exact G z
 .exact I z
 .grind
def v8(T:Tx W a)(d k:Nat)(h7:7<=k)(xY:Ok W a k 53 ["self","lines","turns"] (Gp a d)):Ok W a (k+1) 56 ["self","line","turns","counts"] (Gm a d):=by
 have S:=(T.F 56 rfl).s;have qO:=(wg T).mono (show 5<=k by lia);have fX:=(aM T 1).mono (show 5<=k by lia);have eV:=(jN T).mono h7;have zO:=(wy T).mono (show 6<=k by lia)
 refine(T.F 56 rfl).o (fun hr=>(xQ (fj 4 S.nd (cm T.uX (T.F 57 rfl) T.gZ qO hr (cv 0) (qQ (cx (cv 1) zQ) (qQ (cv 2) (c7 (cv 3))))))
  (xQ (iQ (ct2 lX vX (cx (cv 1) zQ) bQ) (kQ (gQ (wQ (qQ bQ (qQ (cv 4) (qQ (cx (cv 1) zQ) (qQ (cm T.uX (T.F 51 rfl) T.gZ fX hr (cv 0) (qQ (cx (cv 1) zQ) (c7 (cv 2)))) (c7 (cm T.uX (T.F 53 rfl) T.gZ xY hr (cv 0) (qQ (cx (cv 1) zQ) (c7 (cv 2)))))))))))) rQ)
  (xQ (fj 5 S.nd (qb T.fZ (lQ (jY rfl) eU rfl T.tG rfl (c7 (cm T.uX (T.F 52 rfl) T.gZ eV hr (cv 0) (qQ (cx (cv 1) zQ) (c7 (cv 2))))))))
  (xQ (iQ (ct2 lX vX (cx (cv 1) zQ) bQ) (kQ (gQ (wQ (qQ bQ (qQ (cv 4) (qQ (cx (cv 1) zQ) (c7 (cv 5)))))))) rQ)
  (xQ (fj 6 S.nd (qb T.fZ (zY rfl (S.c (by decide +kernel)) (S.k rfl rfl rfl (by decide +kernel)) (tU (cx (cv 1) zQ)) (fun _ _ _ _ _=>oV) (fun _ _ _ _ _=>(cm T.uX (T.F 58 rfl) T.gZ zO hr (cv 1) (qQ (cv 0) (c7 (cv 3))))))))
  (kQ (gQ (wQ (qQ bQ (qQ (cv 4) (qQ (cx (cv 1) zQ) (qQ (cv 5) (qQ (cv 6) (c7 (cm T.uX (T.F 53 rfl) T.gZ xY hr (cv 0) (qQ (cx (cv 1) zQ) (c7 (cv 2))))))))))))))))))) ?_
 rintro ts C Q ⟨l,x,aa,tt,rr,cc,A,τ,R,N,bs,rs,ns,rfl,a7,aw,a8,b0,sf,ae,ar,bq,hc,hs,B,hR,q⟩;obtain⟨dx,mx⟩:=sf.ins;obtain⟨n1,n2,n3⟩:=sf.nd ar
 have au:tt∉[rr,cc]:=fun z=>by
  rcases Ai.1 z with z | z
  .exact (sf.nd ae).2.2 z.symm
  .exact bq (AF.1 z)
 have av:tt∉[rr]:=fun z=>au (Ai.2 (.inl (AF.1 z)));have ah:cc∉[rr]:=fun z=>n3 (AF.1 z).symm
 cases d with
 |zero=>exact aw.elim
 |succ d =>
 cases l with
 |when r l1 l2=>cases a7
 |each n r J=>cases a7
 |give D n rk J =>
  obtain⟨h1,h2,G,ak,h5⟩:=aw;unfold Ln.pv;refine⟨dX mx rfl,aQ (v:=iB D) rfl ⟨D,x,aa,tt,rr,cc,A,τ,R,N,bs,ns,rfl,h1,sf,ae,ar,hc,hs,B,hR,fun C1 m1 Y Z=>?_⟩⟩;have ag:=Z _ _ au ae;have R1:=uW (τ:=τ) (cX B.a) h1 hR;obtain⟨a6,aq⟩:=Y.ins;refine pZ (aQ cQ (zX (fQ _ _) (uZ (by decide) ?_)));refine aQ (v:=.str n) rfl ⟨dX aq rfl,aQ (v:=rk.pv) rfl ⟨rk,x,aa,tt,rr,A,τ,_,bs,ns,rfl,G,Y,ag,B,R1,fun C2 ai F=>?_⟩⟩
  have a0:=F _ _ av ag;obtain⟨bu,bj⟩:=ai.ins;refine⟨dX bj rfl,aQ (v:=.tup (Ln.gj J)) rfl ?_⟩;have bf:1+Ln.f9 J<=400:=a8;refine⟨d,rfl,J,x,aa,tt,rr,A,τ,_,bs,rs,ns,rfl,ak,by lia,by lia,ai,a0,B,rZ (cX B.a) G R1,fun C3 ay x3=>?_⟩;refine⟨ie 5 rfl,?_⟩;have:=q C3 (x3 _ _ ah (F _ _ ah m1)) ay ((Z.trans (gH F)).trans (gH x3));unfold rD Wt.pv at this;exact this
 |part D n g =>
  obtain⟨h1,h2,G,ak⟩:=aw
  delta Ln.pv
  refine⟨dX mx rfl,aQ (v:=iB D) rfl ⟨D,x,aa,tt,rr,cc,A,τ,R,N,bs,ns,rfl,h1,sf,ae,ar,hc,hs,B,hR,fun C1 m1 Y Z=>?_⟩⟩;have ag:=Z _ _ au ae;have R1:=uW (τ:=τ) (cX B.a) h1 hR;obtain⟨a6,aq⟩:=Y.ins;refine pZ (aQ cQ (zX (fQ _ _) (gX (by decide) ?_)))
  apply pX
  try dsimp only
  refine yQ (i:=5) ⟨dX aq rfl,aQ (v:=.tup (g.map pB)) rfl ⟨g,x,aa,tt,rr,A,τ,_,bs,ns,rfl,fun y hy=>⟨(G y hy).1.mono (by decide),(G y hy).2⟩,ak,Y,ag,B,R1,fun C2 p p0 m2 ai F=>?_⟩⟩;refine bL m2 (by delta iX;rw[AC];lia) fun p2 U=>?_;refine sW jQ (pZ (aQ cQ (zX (fQ _ _) (uZ (by decide) ?_))));refine aQ (v:=.str n) rfl ⟨ie 4 rfl,?_⟩;have bp:cc≠p2:=fun z=>by have:=F _ _ ah m1;rw[z,U] at this;cases this
  have:=q (pQ C2 p2 (.lst ((eW (iX A τ g)).map dQ))) (by rw[vQ bp];exact F _ _ ah m1) (ai.new U _) (by
   intro b o hb ao;have h2:=(Z.trans (gH F)) b o hb ao;rw[vQ (fun z=>by rw[z,U] at h2;cases h2)]
   exact h2)
  unfold rD Wt.pv at this;exact this
 |plain D a4 M I J =>
  obtain⟨h1,h2,G,ak,h5⟩:=aw;unfold Ln.pv;generalize bc:PV.tup [PV.str "plain",iB D,PV.str a4,PV.tup (List.map pB M),PV.tup (List.map Hd.pv I),PV.tup (Ln.gj J)]=bg
  have ab:∀(i:Int)(v:PV)(C':CH)(Q':K1),atI [PV.str "plain",iB D,PV.str a4,PV.tup (List.map pB M),PV.tup (List.map Hd.pv I),PV.tup (Ln.gj J)] i=some v->Q' v C'->qt bg (.int i) C' Q':=by
   intro i v C' Q' e h;rw[<- bc];exact aQ e h
  refine⟨dX mx rfl,ab 1 (iB D) _ _ rfl ⟨D,x,aa,tt,rr,cc,A,τ,R,N,bs,ns,rfl,h1,sf,ae,ar,hc,hs,B,hR,fun C1 m1 Y Z=>?_⟩⟩;have ag:=Z _ _ au ae;have R1:=uW (τ:=τ) (cX B.a) h1 hR;obtain⟨a6,aq⟩:=Y.ins;refine pZ (ab 0 (.str "plain") _ _ rfl (zX (fQ _ _) (gX (by decide) ?_)))
  apply pX
  try dsimp only
  refine yQ (i:=5) ⟨dX aq rfl,ab 3 (.tup (M.map pB)) _ _ rfl ⟨M,x,aa,tt,rr,A,τ,_,bs,ns,rfl,h2.1,h2.2,Y,ag,B,R1,fun C2 p p0 m2 ai F=>?_⟩⟩;have bz:=h2.2;refine bL m2 (by unfold iX;rw[AC];lia) fun p2 U=>?_
  apply sW jQ
  refine pZ (ab 0 (.str "plain") _ _ rfl (zX (fQ _ _) (gX (by decide) ?_)))
  apply pX
  try dsimp only
  have a5:=jZ (τ:=τ) (cX B.a) h2.1 R1;have bh:=F _ _ ah m1;have a0:=F _ _ av ag;have bt:=Z.trans (gH (cc:=cc) F);have ay:=ai.new U (.lst ((eW (iX A τ M)).map dQ));have a9:(pQ C2 p2 (.lst ((eW (iX A τ M)).map dQ))) cc=some (.dK (eZ N (gV A τ D))):=Gr.new U _ _ _ bh;have a3:(pQ C2 p2 (.lst ((eW (iX A τ M)).map dQ))) tt=some (.dK τ):=Gr.new U _ _ _ a0;have x3:fu [rr,cc] C (pQ C2 p2 (.lst ((eW (iX A τ M)).map dQ))):=fun b o hb ao=>Gr.new U _ _ _ (bt b o hb ao)
  generalize pQ C2 p2 (.lst ((eW (iX A τ M)).map dQ))=C3 at ay a9 a3 x3 ⊢;refine yQ (i:=6) (ab 4 (.tup (I.map Hd.pv)) _ _ rfl (uF (fun zs acc O=>∃ds es:List Hd,I=ds++es/\zs=es.map Hd.pv/\acc=(tZ A τ ds).map lu.pv/\Sf a O x aa rr A (mZ A τ ds (dZ A τ M (zK A τ D R)))/\fu [rr] C3 O) ?_ ?_ _ _ _ ⟨[],I,rfl,rfl,rfl,ay,fu.refl⟩))
  .rintro z zs acc O ⟨ds,es,e1,e2,rfl,az,x4⟩ L hL
   cases es with
   |nil=>cases e2
   |cons u es =>
    obtain⟨rfl,rfl⟩:=Az e2;obtain⟨bw,bl⟩:=az.ins;refine⟨dX bl rfl,⟨u,x,aa,tt,rr,A,τ,_,bs,ns,rfl,G.1 u (by rw[e1];exact AO _ AG),az,x4 _ _ av a3,B,cK (cX B.a) (fun y hy=>G.1 y (by rw[e1];exact Ak _ hy)) a5,fun C5 aj x5=>?_⟩⟩;refine hL _ _ ⟨?_,ds++[u],es,by rw[e1,AX];rfl,rfl,by unfold tZ;rw[AS,AS];rfl,?_,x4.trans x5⟩
    .rw [AC]
     unfold tZ;rw[AC];have hl:=G.2;have:ds.length<=4:=by rw[e1,AQ] at hl;lia
     exact Ah this (by decide)
    .unfold mZ at aj ⊢
     rw[Au];exact aj
  .rintro acc O ⟨ds,es,e1,e2,rfl,az,x4⟩ p4 ax
   cases es with
   |cons _ _=>cases e2
   |nil =>
    rw[Aa] at e1;subst e1
    apply sW jQ
    have aj:=az.new ax (.lst ((tZ A τ I).map lu.pv));have ba:(pQ O p4 (.lst ((tZ A τ I).map lu.pv))) cc=some (.dK (eZ N (gV A τ D))):=Gr.new ax _ _ _ (x4 _ _ ah a9);have bb:(pQ O p4 (.lst ((tZ A τ I).map lu.pv))) tt=some (.dK τ):=Gr.new ax _ _ _ (x4 _ _ av a3);have x5:fu [rr,cc] C (pQ O p4 (.lst ((tZ A τ I).map lu.pv))):=fun b o hb ao=>Gr.new ax _ _ _ ((gH (cc:=cc) x4) b o hb (x3 b o hb ao))
    generalize pQ O p4 (.lst ((tZ A τ I).map lu.pv))=C5 at aj ba bb x5 ⊢;obtain⟨bx,bo⟩:=aj.ins;refine ab 2 (.str a4) _ _ rfl ⟨dX bo rfl,ab 5 (.tup (Ln.gj J)) _ _ rfl ?_⟩;have bf:1+Ln.f9 J<=400:=a8;refine⟨d,rfl,J,x,aa,tt,rr,A,τ,_,bs,rs,ns,rfl,ak,by lia,by lia,aj,bb,B,cK (cX B.a) G.1 a5,fun C6 br x6=>?_⟩;refine⟨ie 6 rfl,?_⟩;have:=q C6 (x6 _ _ ah ba) br (x5.trans (gH x6))
    unfold rD Wt.pv at this;exact this
end
def Hm.put(h:Hm τ)k(hi:Bd i):Hm (cZ τ k (.int i)):=by
 intro B g
 delta cZ at g
 split at g
 .obtain ⟨x,q,rfl⟩:=AL.1 g
  split
  .lia
  .exact h x q
 .rcases Ax.1 g with g | g
  .exact h B g
  .grind
inductive Jk(a:Adr)(d:Nat)(ts:List PV)(C:CH)(Q:K1):Prop
 |mk(n:Str)(rk:Rk)(l1:List Ln)(x aa tt rr ff cc:Addr)(A:dw)(τ:jd)(st:jo)(bs rs ns:List Str)(z0:ts=[.ref x,(Ln.each n rk l1).pv,.ref tt,.ref ff,.ref cc])(z1:gw bs rs d ns (.each n rk l1))(z2:st.1.length+(Ln.each n rk l1).tw<=400)(z3:st.2.1.length+(Ln.each n rk l1).tw<=400)(z4:τ.length+d<=50)(z5:S6 a C x aa rr tt ff cc A τ st)(z6:hW A τ bs ns)(z7:iw bs st.2.2)(z8:iz st.2.1)(z9:∀C',S6 a C' x aa rr tt ff cc A τ (eX A (.each n rk l1) τ st)->fu [ff,cc,rr] C C'->Q .non C')
section
variable {W:Wd}{a:Adr}
def YM(T:Tx W a)(d k:Nat)(h7:7<=k)(gK:Ok W a k 54 ["self","lines","turns","row","counts"] (LC a d)):Ok W a (k+1) 55 ["self","line","turns","row","counts"] (Jk a d):=by
 have S:=(T.F 55 rfl).s;have fX:=(aM T 2).mono (show 6<=k by lia)
 refine(T.F 55 rfl).o (fun hr=>(xQ (fj 5 S.nd (lQ (mF rfl) yC rfl T.J2 rfl (qQ (qY (v:=.int 8) (t:=.int 8) rfl T.XO ⟨_,rfl⟩ (fun _=>.int _)) (c7 (cm T.uX (T.F 51 rfl) T.gZ fX hr (cv 0) (qQ (cx (cv 1) zQ) (c7 (cv 2))))))))
  (kQ (Qc PassesOwn.never rfl rfl T.cM (c7 (cv 5)) (jn 6 S.nd) (xQ (fj 7 S.nd (lJ gS nE rfl T.rP rfl (c7 (cv 2))))
  (xQ (qP (yK hr) (cv 7) (cx (cv 1) zQ) (cv 6))
  (kQ (xZ (cm T.uX (T.F 54 rfl) T.gZ gK hr (cv 0) (qQ (cx (cv 1) zQ) (qQ (cv 7) (qQ (cv 3) (c7 (cv 4)))))))))))))) ?_
 rintro ts C Q ⟨n,D,g,x,aa,tt,rr,ff,cc,A,τ,aj,bs,rs,ns,rfl,hu,hF,hN,bb,O,J,R1,ar,q⟩
 cases d with
 |zero=>exact hu.elim
 |succ d' =>
 obtain⟨ah,o1,_⟩:=hu;have ep:(Ln.each n D g).pv=.tup [.str "each",.str n,D.pv,.tup (Ln.gj g)]:=by rw[Ln.pv]
 have a8:(Ln.each n D g).tw=8 * Ln.f9 g:=by rw[Ln.tw]
 have M:hW A τ bs []:=⟨J.a,J.t,(fun _ z=>nomatch z),J.b⟩;obtain⟨dx,mx⟩:=O.sf.ins;refine⟨dX mx rfl,oQ ep (v:=D.pv) rfl ⟨D,x,aa,tt,rr,A,τ,_,bs,[],rfl,ah.mono (by decide),O.sf,O.mt,M,R1,fun C2 a4 e2=>?_⟩⟩
 apply Ky
 have av:=bY M.a M.t M.h ah;unfold Bd at av;refine⟨by split<;>lia,by split<;>lia,?_⟩;have au:=rZ (τ:=τ) (cX J.a) ah R1;have a0:=O.rd e2 a4;show yG _ _ _ ((List.range (qL (D.val A τ))).map fun k=>PV.int (k:Nat)) _ _;generalize ak:qL (D.val A τ)=L;have ba:L<=8:=by rw[<- ak];exact bF _
 let f:jo->Nat->jo:=fun st k=>nQ A g (cZ τ (.inr n) (.int (k:Nat))) st
 let I:jo:=(aj.1,aj.2.1,D.gn A τ aj.2.2)
 refine wJ (fun zs ρ C'=>∃(j:Nat)(x6 x7:Option PV),j<=L/\zs=((List.range L).drop j).map (fun k:Nat=>PV.int (k:Nat))/\ρ=[some (.ref x),some (Ln.each n D g).pv,some (.ref tt),some (.ref ff),some (.ref cc),some (.int (if D.val A τ < 8 then D.val A τ else 8)),x6,x7]/\S6 a C' x aa rr tt ff cc A τ ((List.range j).foldl f I)/\fu [ff,cc,rr] C C') ?_ ?_ _ _ _ ⟨0,_,_,AW _,rfl,rfl,a0,xG e2⟩
 .rintro z zs ρ G ⟨j,y9,a6,hj,N,rfl,F,Y⟩ L3 aw
  obtain⟨ay,rfl,rfl⟩:=aF N;refine yQ (KY F.mt fun B ae=>pZ (oQ ep (v:=.str n) rfl (rA (k:=.inr n) jQ rfl (by lia) ?_)));have ag:∀b o,G b=some o->b≠B:=fun b o h z=>by rw[z,ae] at h;cases h
  have Z:=iW (f:=f) (m:=fun st=>st.1.length) (c:=Ln.f9 g) (fun x k=>(pJ A g _ x).1) (List.range j) I;have ab:=iW (f:=f) (m:=fun st=>st.2.1.length) (c:=Ln.f9 g) (fun x k=>(pJ A g _ x).2) (List.range j) I;rw[A6] at Z ab
  have ao:j * Ln.f9 g+Ln.f9 g<=8 * Ln.f9 g:=by
   have:(j+1) * Ln.f9 g<=8 * Ln.f9 g:=BZ _ (by lia);rw[Nat.add_mul,Nat.one_mul] at this;exact this
  have Z:=Z;have ab:=ab;have R3:iw bs ((List.range j).foldl f I).2.2:=eK (P:=fun st:jo=>iw bs st.2.2) (fun x k p=>vJ (cX J.a) o1 p) _ _ au;have N3:iz ((List.range j).foldl f I).2.1:=eK (P:=fun st:jo=>iz st.2.1) (fun x k p=>nY A g _ x p) _ _ ar;have a5:Hm (cZ τ (.inr n) (.int (j:Nat))):=J.t.put _ (by delta Bd;lia)
  have ax:hW A (cZ τ (.inr n) (.int (j:Nat))) bs [n]:=⟨J.a,a5,fun m ao=>by
   cases AF.1 ao
   rw[uL,Ab rfl];rfl,J.b⟩
  have a9:(cZ τ (.inr n) (.int (j:Nat))).length<=τ.length+1:=fB _ _ _;have x4:fu [ff,cc,rr] G (pQ (pQ G B (.dK τ)) B (.dK (cZ τ (.inr n) (.int (j:Nat))))):=(fu.refl.put ae _).put ae _;have U:∀b o,G b=some o->pQ (pQ G B (.dK τ)) B (.dK (cZ τ (.inr n) (.int (j:Nat)))) b=some o:=fun b o h=>by rw[vQ (ag b o h),vQ (ag b o h)];exact h
  have m4:pQ (pQ G B (.dK τ)) B (.dK (cZ τ (.inr n) (.int (j:Nat)))) B=some (.dK (cZ τ (.inr n) (.int (j:Nat)))):=jQ;generalize pQ (pQ G B (.dK τ)) B (.dK (cZ τ (.inr n) (.int (j:Nat))))=C4 at x4 U m4 ⊢;have aq:Sf a C4 x aa rr A ((List.range j).foldl f I).2.2:=F.sf.keep' (S:=[]) (fun b o _ h=>U b o h) CN CN CN;have a3:S6 a C4 x aa rr B ff cc A (cZ τ (.inr n) (.int (j:Nat))) ((List.range j).foldl f I):=⟨aq,m4,U _ _ F.mf,U _ _ F.mc,Ne.symm (ag _ _ F.mc)⟩
  obtain⟨a7,az⟩:=aq.ins;refine⟨dX az rfl,oQ ep (v:=.tup (Ln.gj g)) rfl ⟨d',rfl,g,x,aa,B,rr,ff,cc,A,_,_,bs,rs,[n],rfl,o1,by lia,by lia,by lia,a3,ax,R3,N3,fun C5 ai e5=>?_⟩⟩;refine aw _ _ ⟨j+1,_,_,ay,rfl,rfl,?_,Y.trans (x4.trans e5)⟩;have ef:(List.range (j+1)).foldl f I=f ((List.range j).foldl f I) j:=by rw[List.range_succ,Au];rfl
  rw[ef];exact⟨ai.sf,(x4.trans e5) _ _ F.nt F.mt,ai.mf,ai.mc,F.tc⟩
 .rintro ρ G ⟨j,y9,a6,hj,N,rfl,F,Y⟩
  have ej:j=L:=by
   rcases CK j L with h | h
   .rw [Ar (by rw[A6];exact h)] at N
    cases N
   .lia
  subst ej;refine q G ?_ Y;rw[eX,ak];exact F
def Xn(T:Tx W a)(d k:Nat)(h7:7<=k)(gK:Ok W a k 54 ["self","lines","turns","row","counts"] (LC a d))(aT:Ok W a k 56 ["self","line","turns","counts"] (Gm a d))(tF:Ok W a k 55 ["self","line","turns","row","counts"] (Jk a d)):
  Ok W a (k+1) 54 ["self","lines","turns","row","counts"] (Py a d):=by
 have S:=(T.F 54 rfl).s;have fX:=(aM T 2).mono (show 6<=k by lia)
 refine(T.F 54 rfl).o (fun hr=>(kQ (rV PassesOwn.never rfl (cv 1) (jn 5 S.nd) (kQ (iQ (ct2 lX vX (cx (cv 5) zQ) bQ) (xQ (fj 6 S.nd (bN (ct2 lX vX (cm T.uX (T.F 51 rfl) T.gZ fX hr (cv 0) (qQ (cx (cv 5) zQ) (c7 (cv 2)))) zQ) (cx (cv 5) zQ) (cx (cv 5) zQ)))
  (kQ (xZ (cm T.uX (T.F 54 rfl) T.gZ gK hr (cv 0) (qQ (cv 6) (qQ (cv 2) (qQ (cv 3) (c7 (cv 4))))))))) (kQ (iQ (ct2 lX vX (cx (cv 5) zQ) bQ) (kQ (xZ (cm T.uX (T.F 55 rfl) T.gZ tF hr (cv 0) (qQ (cv 5) (qQ (cv 2) (qQ (cv 3) (c7 (cv 4)))))))) (kQ (xZ (cap (cv 3) (cm T.uX (T.F 56 rfl) T.gZ aT hr (cv 0) (qQ (cv 5) (qQ (cv 2) (c7 (cv 4))))))))))))))) ?_
 rintro ts C Q ⟨N,x,aa,tt,rr,ff,cc,A,τ,st,bs,rs,ns,rfl,ar,hF,hN,ak,hE,M,hR,hC,q⟩;refine jM rfl (wJ (fun zs ρ C'=>∃ds G x5 x6,N=ds++G/\zs=Ln.gj G/\ρ=[some (.ref x),some (.tup (Ln.gj N)),some (.ref tt),some (.ref ff),some (.ref cc),x5,x6]/\S6 a C' x aa rr tt ff cc A τ (nQ A ds τ st)/\fu [ff,cc,rr] C C') ?_ ?_ _ _ _ ⟨[],N,_,_,rfl,rfl,rfl,by rw[zJ];exact hE,fu.refl⟩)
 .rintro z zs ρ C1 ⟨ds,G,x5,x6,e,hz,rfl,B,e1⟩ L hL
  cases G with
  |nil=>cases hz
  |cons u G =>
  obtain⟨rfl,rfl⟩:=Az hz;have hu:=ar u (e▸AO _ AG);have a3:Ln.f9 N=Ln.f9 ds+(u.tw+Ln.f9 G):=by rw[e,Ln.qe];rfl
  have I:=pJ A ds τ st;have Z:iw bs (nQ A ds τ st).2.2:=vJ (cX M.a) (fun x hx=>ar x (e▸Ak _ hx)) hR;have U:=nY A ds τ st hC
  have ab:∀C' x5 x6,S6 a C' x aa rr tt ff cc A τ (eX A u τ (nQ A ds τ st))->fu [ff,cc,rr] C1 C'->L [some (.ref x),some (.tup (Ln.gj N)),some (.ref tt),some (.ref ff),some (.ref cc),x5,x6] C':=by
   intro C' y5 y6 h1 h2;refine hL _ _ ⟨ds++[u],G,y5,y6,by rw[AX];exact e,rfl,rfl,?_,e1.trans h2⟩
   rwa [Z6,hZ,zJ]
  clear hL;generalize a0:nQ A ds τ st=D at B I Z U ab;obtain⟨ax,ag⟩:=B.sf.ins
  by_cases O:XF u=true
  .obtain ⟨wd,nX,ep,n1,n2⟩:=Fe O
   refine oQ ep cQ (zX (fQ _ _) (gX (by rw[n1];rfl) ?_));refine oQ ep cQ (zX (fQ _ _) (gX (by rw[n2];rfl) ?_));refine⟨jB B.mf,⟨dX ag rfl,⟨u,x,aa,tt,rr,cc,A,τ,_,_,bs,rs,ns,rfl,O,hu,by lia,ak,B.sf,B.mt,B.mc,B.tc,U,by have:=I.2;lia,M,Z,fun C2 m2 ae x2=>?_⟩⟩⟩
   have aw:ff∉[rr,cc]:=fun z=>by
    simp only[List.mem_cons,List.not_mem_nil,or_false] at z
    rcases z with z | z
    .exact B.fr z
    .exact B.fc z
   have ao:=x2 _ _ aw B.mf
   apply fN ao (by rw[Wt.qg];have:=I.1;exact Ah (show D.1.length<=400 by lia) (by decide))
   have eo:=Z5 A τ u D.1 D.2.1 D.2.2 O;have ah:=ae.nl ao;refine ab _ _ _ ?_ ((KU x2).at (by simp) _);rw[show D=(D.1,D.2.1,D.2.2) from rfl,eo];refine⟨ae.keep' (fu.refl.at AG _) (fun z=>ah.1 (AF.1 z)) (fun z=>ah.2.1 (AF.1 z)) (fun z=>ah.2.2 (AF.1 z)),?_,by rw[jQ,Wt.qi];rfl,by exact(vQ (Ne.symm B.fc))▸m2,B.tc⟩
   exact(vQ B.tf)▸(KU x2) _ _ B.nt B.mt
  .cases u with
   |plain k a4 s hs N=>exact absurd rfl O
   |part k n g=>exact absurd rfl O
   |give k n r N=>exact absurd rfl O
   |when F J l2 =>
    cases d with
    |zero=>exact hu.elim
    |succ d' =>
    obtain⟨au,⟨o1,_⟩,o2,_⟩:=hu;have ep:(Ln.when F J l2).pv=.tup [.str "when",F.pv,.tup (Ln.gj J),.tup (Ln.gj l2)]:=by rw[Ln.pv]
    have az:(Ln.when F J l2).tw=Ln.f9 J+Ln.f9 l2:=by rw[Ln.tw]
    refine oQ ep cQ (zX (fQ _ _) (uZ rfl (yQ (yr ⟨dX ag rfl,oQ ep rfl ⟨F,x,aa,tt,rr,A,τ,_,bs,ns,rfl,au.mono (by decide),B.sf,B.mt,M,Z,fun C2 ae e2=>?_⟩⟩))));have aj:=rZ (τ:=τ) (cX M.a) au Z;have av:=B.rd e2 ae;obtain⟨ay,aq⟩:=ae.ins
    apply zX (oJ _ _)
    by_cases h0:F.val A τ=0
    .refine uZ (Af h0) (oQ ep rfl ⟨dX aq rfl,⟨d',rfl,l2,x,aa,tt,rr,ff,cc,A,τ,(D.1,D.2.1,F.gn A τ D.2.2),bs,rs,ns,rfl,o2,by have:=I.1;lia,by have:=I.2;lia,by lia,av,M,aj,U,fun Y ai e3=>?_⟩⟩)
     refine ab Y _ _ ?_ ((xG e2).trans e3)
     rwa [eX,Ab h0]
    .refine gX (AM h0) (oQ ep rfl ⟨dX aq rfl,⟨d',rfl,J,x,aa,tt,rr,ff,cc,A,τ,(D.1,D.2.1,F.gn A τ D.2.2),bs,rs,ns,rfl,o1,by have:=I.1;lia,by have:=I.2;lia,by lia,av,M,aj,U,fun Y ai e3=>?_⟩⟩)
     refine ab Y _ _ ?_ ((xG e2).trans e3)
     rwa [eX,Ac h0]
   |each n F J =>
    have ep:(Ln.each n F J).pv=.tup [.str "each",.str n,F.pv,.tup (Ln.gj J)]:=by rw[Ln.pv]
    refine oQ ep cQ (zX (fQ _ _) (gX rfl (oQ ep cQ (zX (fQ _ _) (uZ rfl ⟨dX ag rfl,⟨n,F,J,x,aa,tt,rr,ff,cc,A,τ,D,bs,rs,ns,rfl,hu,by have:=I.1;lia,by have:=I.2;lia,ak,B,M,Z,U,fun Y ai e3=>?_⟩⟩)))));exact ab Y _ _ ai e3
 .rintro ρ C1 ⟨ds,G,x5,x6,e,hz,rfl,B,e1⟩
  cases G with
  |cons u G=>cases hz
  |nil =>
   rw[Aa] at e;subst e;exact q C1 B e1
def Oi(T:Tx W a)d:Ok W a (3 * d+9) 54 ["self","lines","turns","row","counts"] (Py a d):=by
 induction d with
 |zero =>
  exact Xn T 0 8 (by decide) (eJ fun ts C Q ⟨d',e,_⟩=>by lia) (eJ fun ts C Q z=>by obtain⟨l,x,aa,tt,rr,cc,A,τ,R,N,bs,rs,ns,_,_,h,_⟩:=z;exact h) (eJ fun ts C Q z=>by obtain⟨n,I,G,x,aa,tt,rr,ff,cc,A,τ,L,bs,rs,ns,_,h,_⟩:=z;exact h)
 |succ d q =>
  have J:=YF T q
  have D:Gp a (d+1)=Lz a d:=by
   funext ts C Q
   refine propext ⟨fun⟨B,z,h⟩=>?_,fun h=>⟨d,rfl,h⟩⟩;cases A1 z;exact h
  have g:LC a (d+1)=Py a d:=by
   funext ts C Q
   refine propext ⟨fun⟨B,z,h⟩=>?_,fun h=>⟨d,rfl,h⟩⟩;cases A1 z;exact h
  have F:=YM T (d+1) (3 * d+9) (Br _ _) (by rwa [g]);have:=Xn T (d+1) (3 * d+9+1+1) (Br _ _) (g▸q.mono (by lia)) (v8 T (d+1) (3 * d+9+1) (Br _ _) (by rwa [D])) (F.mono (Cg _));have e:3 * d+9+1+1+1=3 * (d+1)+9:=by lia
  rwa [e] at this
end
def stOf:Key->Str
 |.inr x=>x
 |_=>""
def TX:PV->Int
 |.int i=>i
 |_=>0
def o8(g:List Key×PV):List Str×Int:=(g.1.map stOf,TX g.2)
structure Pc where
 reads:List (List Str×Int)
 row:List Wt
 works:List (Str×Int)
def Pc.pv(x:Pc):PV:=.tup [.tup (x.reads.map yJ),.tup (Wt.gj x.row),.tup (x.works.map dQ)]
def yB(A:dw)(x:Pt):dw:=dZ A [] x.works (nQ A x.ls [] ([],[],[])).2.2
def wZ(A:dw)(x:Pt):Pc:=⟨xH ((yB A x).map o8),(nQ A x.ls [] ([],[],[])).1,iX A [] x.works⟩
theorem J3[DecidableEq κ]:∀{R}{g:κ×PV},(R.map (·.1)).Nodup->g∈R->aZ R g.1=some g.2
 |[],g,_,m=>nomatch m
 |x::R,g,nd,m=>by
  rw[A9,BA] at nd;rw[qW]
  rcases Ai.1 m with rfl | m
  .lia
  .rw [Ac (fun z=>nd.1 (by grind))]
   exact J3 nd.2 m
def Ga(h:g B C fun x C1=>∃b kvs,x=.ref b/\C1 b=some (.dT kvs)/\Q (.vw b) C1)(G:∀(D F:K1),(∀v C1,D v C1->F v C1)->g B C D->g B C F):uC g B C Q:=by
 delta uC
 refine G _ _ ?_ h;rintro v C1 ⟨b,kvs,rfl,m,q⟩;dsimp only
 rwa [m]
def Vz(m:C p=some (.dT kvs))(e:Hw kvs=some cs)(h:cs.length < 64)(q:∀g,C g=none->Q (.ref g) (pQ C g (.lst ((xH cs).map yJ)))):gP [.vw p] C Q:=by
 delta gP
 dsimp only;rw[m];dsimp only;exact e▸⟨h,q⟩
def XS g B(h:∀v C1,g v C1->B v C1)(q:JK c f x C g):JK c f x C B:=by
 delta JK at q ⊢
 split at q
 .grind
 .exact q
def lC g B(h:∀v C1,g v C1->B v C1)(q:jK i D C g):jK i D C B:=by
 delta jK at q ⊢
 split at q
 .exact h _ _ q
 .exact q
theorem Fb: ∀{R},(∀k∈R.map (·.1),∃s n,k=qK s n/\gM bs s n)->jy R->Hw R=some (R.map o8)
 |[],_,_=>rfl
 |x::R,h1,h2=>by
  refine rG (h1 x.1 AG) fun s n e _=>sQ (h2 x AG) fun i q _=>?_;have B:=Fb (fun k g=>h1 k (AJ _ g)) fun D g=>h2 D (AJ _ g);obtain⟨k,v⟩:=x;cases e;cases q;unfold Hw;rw[B]
  rfl
section
variable {W:Wd}{a:Adr}
inductive Gy(ts:List PV)(C:CH)(Q:K1):Prop
 |mk(x:Pt)(aa:Addr)(A:dw)(rs:List Str)(cap:Nat)(z0:ts=[x.pv,.ref aa])(z1:jh rs cap x)(z2:C aa=some (.dT A))(z3:jy A)(z4:∀C',Gr C C'->Q (wZ A x).pv C')
def Xm(T:Tx W a):Ok W a 29 10 ["part","answers"] Gy:=by
 have S:=(T.F 10 rfl).s;have lP:=(ok_init T).mono (show 1<=27 by decide);have xY:=YF T (Oi T 6);have eV:=(jN T).mono (show 7<=28 by decide)
 refine(T.F 10 rfl).o (fun F=>(xQ (fj 2 S.nd (Qk T.V1 lP F rfl T.gZ (T.F 50 rfl).b lO (c7 (cv 1))))
  (xQ (fj 3 S.nd (cm T.uX (T.F 53 rfl) T.gZ xY F (cv 2) (qQ (cx (cv 0) zQ) (c7 gF))))
  (xQ (fj 4 S.nd (qb T.fZ (cm T.uX (T.F 52 rfl) T.gZ eV F (cv 2) (qQ (cx (cv 0) zQ) (c7 gF)))))
  (kQ (gQ (wQ (qQ (qb T.fZ (lQ (Qo rfl) (X9 (zM F)) rfl T.tG rfl (c7 (Wo (iD T.uX T.sY (cv 2)))))) (qQ (cv 3) (c7 (cv 4))))))))))) ?_
 rintro ts C Q ⟨D,aa,A,rs,cap,rfl,B,M,J,q⟩;have L:hW A [] (D.first.map (·.1)) []:=⟨J,(fun _ z=>nomatch z),(fun _ z=>nomatch z),by rw[AC];exact B.fl⟩;have Y:iw (D.first.map (·.1)) []:=⟨Bi,(fun _ z=>nomatch z),(fun _ z=>nomatch z)⟩;intro x dx aj a3 a7;have av:aa≠x:=fun z=>by rw[z,aj] at M;cases M
 refine⟨x,dx,aa,A,rfl,jQ,by rw[vQ av];exact M,fun C1 rr ax N x1=>⟨rfl,?_⟩⟩
 try dsimp only
 have ak:Gr C C1:=fun b o h=>by
  have:b≠x:=fun z=>by rw[z,aj] at h;cases h
  exact x1 b o (fun z=>this (AF.1 z)) (by rwa [vQ this])
 have ay:C rr=none:=by
  rwa [vQ (Ne.symm N.nx)] at ax
 have U:∀{C2 G:CH},Gr C C2->fu [rr] C2 G->Gr C G:=fun g e b o h=>e b o (fun z=>by rw[AF.1 z,ay] at h;cases h) (g b o h);obtain⟨a4,aq⟩:=N.ins;refine yQ ⟨dX aq rfl,aQ rfl ?_⟩;intro p ae;have az:=N.new ae (.dK []);have a8:=B.tw;refine⟨D.ls,x,aa,p,rr,A,[],[],_,rs,[],rfl,B.ls,by lia,by decide,az,jQ,L,Y,fun G ah x3=>?_⟩;have O:=vJ (τ:=[]) (st:=([],[],[])) (cX J) B.ls Y
 have ao:=U (ak.trans (Gr.new ae _)) x3;obtain⟨a5,ar⟩:=ah.ins;refine yQ ⟨dX ar rfl,aQ rfl ?_⟩;intro p2 ag;have a0:=ah.new ag (.dK []);refine⟨D.works,x,aa,p2,rr,A,[],_,_,[],rfl,fun y Z=>⟨(B.wk y Z).1.mono (by decide),(B.wk y Z).2⟩,B.wl,a0,jQ,L,O,fun C5 l l0 m5 ai x5=>?_⟩;have g5:=U (ao.trans (Gr.new ag _)) x5
 apply sW m5
 obtain⟨a6,au⟩:=ai.ins;have I:iw (D.first.map (·.1)) (yB A D):=jZ (cX J) B.wk O;have ab:C5 rr=some (.dT (yB A D)):=ai.ask;have hb:=L.b;refine Ga ?_ ?_
 .refine tR au rfl ⟨rr,yB A D,rfl,ab,Vz ab (Fb I.ks I.vs) (by rw[AC];have:=I.len;lia) fun p6 aw=>?_⟩
  refine sW jQ ⟨ie 3 rfl,?_⟩;exact q _ (g5.trans (Gr.new aw _))
 .intro Q1 Q2 h q
  exact lC _ _ (fun v C1 q=>XS _ _ h q) q
end
mutual
def nF(A:dw):Ln->jd->jo->jo
 |.when r B D,τ,st=>if r.val A τ=0 then mX A D τ (st.1,st.2.1,r.gn A τ st.2.2) else mX A B τ (st.1,st.2.1,r.gn A τ st.2.2)
 |.each n r q,τ,st=>(List.range (qL (r.val A τ))).foldl (fun st k=>mX A q (cZ τ (.inr n) (.int (k:Nat))) st) (st.1,st.2.1,r.gn A τ st.2.2)
 |.part k n g,τ,st=>(st.1++[.part (kK st.2.1 (gV A τ k)) n (eW (iX A τ g))],eZ st.2.1 (gV A τ k),dZ A τ g (zK A τ k st.2.2))
 |.give k n r q,τ,st =>
  let d:=mX A q τ ([],[],r.gn A τ (zK A τ k st.2.2))
  (st.1++[.give (kK st.2.1 (gV A τ k)) n (r.val A τ) d.1],eZ st.2.1 (gV A τ k),d.2.2)
 |.plain k F s hs q,τ,st =>
  let d:=mX A q τ ([],[],dZ A τ s (mZ A τ hs (zK A τ k st.2.2)))
  (st.1++[.plain (kK st.2.1 (gV A τ k)) F (eW (iX A τ s)) (tZ A τ hs) d.1],eZ st.2.1 (gV A τ k),d.2.2)
def mX(A:dw):List Ln->jd->jo->jo
 |[],_,st=>st
 |l::q,τ,st=>mX A q τ (nF A l τ st)
end
def dD(A:dw)(τ:jd)(sp:List Key):Ln->dw->Wt×dw
 |.part _ n g,R=>(.part sp n (eW (iX A τ g)),dZ A τ g R)
 |.give _ n r q,R=>(.give sp n (r.val A τ) (mX A q τ ([],[],r.gn A τ R)).1,(mX A q τ ([],[],r.gn A τ R)).2.2)
 |.plain _ B s hs q,R=>(.plain sp B (eW (iX A τ s)) (tZ A τ hs) (mX A q τ ([],[],dZ A τ s (mZ A τ hs R))).1,(mX A q τ ([],[],dZ A τ s (mZ A τ hs R))).2.2)
 |_,R=>(.part sp "" [],R)
def hU A τ st:mX A [] τ st=st:=by rfl
def zG A l g τ st:mX A (l::g) τ st=mX A g τ (nF A l τ st):=by rw[mX]
def Z2 A xs ys τ st:mX A (xs++ys) τ st=mX A ys τ (mX A xs τ st):=by
 induction xs generalizing st with
 |nil=>rfl
 |cons x xs g=>rw[B0,zG,zG,g]
def Z1 A τ l F N R(h:XF l=true):
  nF A l τ (F,N,R)=(F++[(dD A τ (kK N (gV A τ (wK l))) l (zK A τ (wK l) R)).1],eZ N (gV A τ (wK l)),(dD A τ (kK N (gV A τ (wK l))) l (zK A τ (wK l) R)).2):=by
 cases l with
 |plain k G s hs q=>rfl
 |part k n g=>rfl
 |give k n r q=>rfl
 |when r B D=>cases h
 |each n r q=>cases h
theorem vH{P:dw->Prop}(h1:∀l ns τ st,gw bs rs d ns l->P st.2.2->P (nF A l τ st).2.2):∀g ns τ st,(∀x∈g,gw bs rs d ns x)->P st.2.2->P (mX A g τ st).2.2
 |[],ns,τ,st,_,h=>by rwa [hU]
 |l::g,ns,τ,st,q,h =>vH h1 g ns τ _ (fun x B=>q x (AJ _ B)) (h1 l ns τ st (q l AG) h)
def xf(q:nH A bs P):∀d l ns τ st,gw bs rs d ns l->P st.2.2->P (nF A l τ st).2.2:=by
 intro d
 induction d with
 |zero=>intro l ns τ st h;exact h.elim
 |succ d L =>
  intro l ns τ st h F;have G:=vH L
  cases l with
  |plain k O s hs I =>
   exact bH h fun h1 h2 B D J=>G I ns τ _ D (jZ q h2.1 (cK q B.1 (uW q h1 F)))
  |part k n g =>
   exact cT h fun h1 h2 B D=>jZ q B (uW q h1 F)
  |give k n r I =>
   exact bH h fun h1 h2 B D J=>G I ns τ _ D (rZ q B (uW q h1 F))
  |when r M N =>
   obtain⟨h1,⟨h2,B⟩,D,J⟩:=h;rw[nF]
   split
   .exact G N ns τ _ D (rZ q h1 F)
   .exact G M ns τ _ h2 (rZ q h1 F)
  |each n r I =>
   exact lT h fun h1 h2 B=>eK (fun x k p=>G I [n] _ x h2 p) _ _ (rZ q h1 F)
def lU(q:nH A bs P)(h:∀x∈g,gw bs rs d ns x)(B:P st.2.2):P (mX A g τ st).2.2:=vH (xf q d) g ns τ st h B
def Sk(R g:dw):Prop:=∀k,k∈R.map (·.1)↔k∈g.map (·.1)
def Add(f:dw->dw):Prop:=∀R k,k∈(f R).map (·.1)↔k∈R.map (·.1)\/k∈(f []).map (·.1)
def Add.id:Add fun R=>R:=fun R k=>by simp
def Add.comp(B:Add f)(q:Add g):Add fun R=>g (f R):=fun R k=>by
 rw[q (f R),B R,q (f []),or_assoc]
theorem Add.fold{α:Type}{f}(h:∀x,Add fun R=>f R x):∀l:List α,Add fun R=>l.foldl f R
 |[]=>Add.id
 |x::l=>(h x).comp (Add.fold h l)
def Add.sk(h:Add f)(e:Sk R g):Sk (f R) (f g):=fun k=>by rw[h R,h g,e]
def Add.comm(B:Add f)(D:Add g)(e:Sk R q):Sk (f (g R)) (g (f q)):=fun k=>by
 rw[B (g R),D R,D (f q),B q,e,or_assoc,or_assoc,or_comm (a:=k∈(g []).map _)]
def Eo k v:Add fun R=>gm R k v:=fun R g=>by
 have e:(gm ([]:dw) k v).map (·.1)=[k]:=rfl;rw[kY,e,AF]
 split
 .lia
 .grind
section
variable (A:dw)(τ:jd)
def zL(r:Rk):Add fun R=>r.gn A τ R:=by
 induction r with
 |num i=>exact Add.id
 |turn n=>exact Add.id
 |ask s n=>exact Eo _ _
 |bin w x y g q=>exact g.comp q
 |pick x y z g q B =>
  by_cases h:x.val A τ=0
  .have:(fun R=>(Rk.pick x y z).gn A τ R)=fun R=>z.gn A τ (x.gn A τ R):=by funext R;rw[Rk.gn,Ab h]
   exact this▸g.comp B
  .have:(fun R=>(Rk.pick x y z).gn A τ R)=fun R=>y.gn A τ (x.gn A τ R):=by funext R;rw[Rk.gn,Ac h]
   exact this▸g.comp q
def rS ps:Add (dZ A τ ps):=by
 have:=Add.fold (fun x=>zL A τ x.2) ps;exact this
def Ep cs:Add (kM A τ cs):=by
 have:=Add.fold (fun c=>zL A τ c.2.2) cs;exact this
def Wz hs:Add (mZ A τ hs):=by
 have:=Add.fold (fun x=>Ep A τ x.ch) hs;exact this
def QH k:Add (zK A τ k):=by
 cases k with
 |none=>exact Add.id
 |some r=>exact zL A τ r
end
structure ud(st st':jo):Prop where
 r:st.1=st'.1
 n:st.2.1=st'.2.1
 k:Sk st.2.2 st'.2.2
theorem KQ(h:∀k st st',ud st st'->ud (f st k) (g st' k)):∀(l:List Nat)st st',ud st st'->ud (l.foldl f st) (l.foldl g st')
 |[],_,_,e=>e
 |k::l,_,_,e=>KQ h l _ _ (h k _ _ e)
mutual
theorem xm(A:dw):∀(l:Ln)(τ:jd)(st st':jo),ud st st'->ud (nF A l τ st) (eX A l τ st')
 |.when r B D,τ,st,st',e=>by
  rw[nF,eX]
  split
  .exact kW A D τ _ _ ⟨e.r,e.n,(zL A τ r).sk e.k⟩
  .exact kW A B τ _ _ ⟨e.r,e.n,(zL A τ r).sk e.k⟩
 |.each n r q,τ,st,st',e=>by
  rw[nF,eX];refine KQ (f:=fun st k=>mX A q (cZ τ (.inr n) (.int (k:Nat))) st) (g:=fun st k=>nQ A q (cZ τ (.inr n) (.int (k:Nat))) st) (fun k x F h=>kW A q _ x F h) _ _ _ ?_;exact⟨e.r,e.n,(zL A τ r).sk e.k⟩
 |.part k n g,τ,st,st',e=>by
  rw[nF,eX];refine⟨?_,?_,(rS A τ g).sk ((QH A τ k).sk e.k)⟩
  .show st.1++[_]=st'.1++[_];rw[e.r,e.n]
  .show eZ _ _=eZ _ _;rw[e.n]
 |.give k n r q,τ,st,st',e=>by
  rw[nF,eX];have d:=kW A q τ ([],[],r.gn A τ (zK A τ k st.2.2)) ([],[],r.gn A τ (zK A τ k st'.2.2)) ⟨rfl,rfl,(zL A τ r).sk ((QH A τ k).sk e.k)⟩;refine⟨?_,?_,d.k⟩
  .show st.1++[_]=st'.1++[_];rw[e.r,e.n,d.r]
  .show eZ _ _=eZ _ _;rw[e.n]
 |.plain k G s hs q,τ,st,st',e=>by
  rw[nF,eX];have d:=kW A q τ ([],[],dZ A τ s (mZ A τ hs (zK A τ k st.2.2))) ([],[],mZ A τ hs (dZ A τ s (zK A τ k st'.2.2))) ⟨rfl,rfl,(rS A τ s).comm (Wz A τ hs) ((QH A τ k).sk e.k)⟩;refine⟨?_,?_,d.k⟩
  .show st.1++[_]=st'.1++[_];rw[e.r,e.n,d.r]
  .show eZ _ _=eZ _ _;rw[e.n]
theorem kW(A:dw):∀(q:List Ln)(τ:jd)(st st':jo),ud st st'->ud (mX A q τ st) (nQ A q τ st')
 |[],τ,st,st',e=>by rw[hU,zJ];exact e
 |l::q,τ,st,st',e=>by rw[zG,hZ];exact kW A q τ _ _ (xm A l τ st st' e)
end
def mI A g τ st:ud (mX A g τ st) (nQ A g τ st):=kW A g τ _ _ ⟨rfl,rfl,fun _=>Iff.rfl⟩
def cD A g τ st:(mX A g τ st).1.length<=st.1.length+Ln.f9 g/\(mX A g τ st).2.1.length<=st.2.1.length+Ln.f9 g:=by
 rw[(mI A g τ st).r,(mI A g τ st).n];exact pJ A g τ st
def aO A g τ st(h:iz st.2.1):iz (mX A g τ st).2.1 :=((mI A g τ st).n)▸nY A g τ st h
structure Rv(A:dw)(bs:List Str)(R:dw):Prop where
 nd:(R.map (·.1)).Nodup
 vs:∀kv∈R,∃s n,gM bs s n/\kv=(qK s n,.int (rK A s n))
def cA:nH A bs (Rv A bs):=fun R s n h q=>⟨by
  rw[kY]
  split
  .exact q.nd
  .next F =>
   rw[List.nodup_append];refine⟨q.nd,by simp,fun a B b D e=>?_⟩;cases AF.1 D
   exact F (e▸B),fun I g=>by
  delta gm at g
  split at g
  .obtain ⟨x,G,rfl⟩:=AL.1 g
   by_cases e:x.1=qK s n
   .grind
   .exact (Ac e)▸q.vs x G
  .rcases Ax.1 g with g | g
   .exact q.vs I g
   .cases AF.1 g;exact⟨s,n,h,rfl⟩⟩
def Rv.perm(h:Rv A bs R)(g:Rv A bs q)(e:Sk R q):(R.map o8).Perm (q.map o8):=by
 have f:∀{R:dw},Rv A bs R->R.map o8=(R.map (·.1)).map fun k=>(k.map stOf,match k with | [.inr s,.inr n]=>rK A s n | _=>0):=fun {R}h=>by
  rw[BP];refine CY fun D B=>?_;obtain⟨s,n,_,rfl⟩:=h.vs D B
  rfl
 rw[f h,f g];exact((List.perm_ext_iff_of_nodup h.nd g.nd).2 e).map _
def Rv.nd2(h:Rv A bs R):((R.map o8).map (·.1)).Nodup:=by
 rw[BP];refine List.pairwise_map.2 ((List.pairwise_map.1 h.nd).imp_of_mem fun {x y}q B g e=>g ?_);obtain⟨s,n,_,rfl⟩:=h.vs x q;obtain⟨s',D,_,rfl⟩:=h.vs y B;cases e
 rfl
def oh(A:dw)(x:Pt):dw:=dZ A [] x.works (mX A x.ls [] ([],[],[])).2.2
def Ol A(x:Pt):ud (mX A x.ls [] ([],[],[])) (nQ A x.ls [] ([],[],[])):=mI A x.ls [] _
def xj{cap}(g:jh rs cap x)A:xH ((oh A x).map o8)=(wZ A x).reads:=by
 have q:Rv A (x.first.map (·.1)) []:=⟨Bi,fun _ z=>nomatch z⟩;have h1:Rv A (x.first.map (·.1)) (oh A x):=jZ cA g.wk (lU cA g.ls q);exact v5 (h1.perm (jZ cA g.wk (vJ cA g.ls q)) ((rS A [] x.works).sk (Ol A x).k)) h1.nd2
def bX(h:u r (g.set i (some t)) C Q):Hg (GR i) u (t::r) g C Q:=h
def dY(h:Q g C):Ra [] g C Q:=h
noncomputable def jz(c:Str×Int):Key×PV:=(.inr c.1,.int c.2)
def pL(ds:List (Str×Int))(n:Str)(i:Int):List (Str×Int):=if (ds.any fun c=>decide (c.1=n))=true then ds.map fun c=>if c.1=n then (c.1,i) else c else ds++[(n,i)]
def fJ(cs ds:List (Str×Int)):List (Str×Int):=ds.foldl (fun acc c=>pL acc c.1 c.2) cs
def Z8: ((Sum.inr x:Key)=Sum.inr y)↔x=y :=by grind
def Ft ds n i:cZ (ds.map jz) (.inr n) (.int i)=(pL ds n i).map jz:=by
 have h1:((ds.map jz).any fun g=>decide (g.1=(Sum.inr n:Key)))=ds.any fun c=>decide (c.1=n):=by
  rw[List.any_map]
  congr 1
  funext c
  exact decide_eq_decide.2 Z8
 have h2:((ds.map jz).map fun g=>if g.1=(Sum.inr n:Key) then (g.1,PV.int i) else g)=(ds.map fun c=>if c.1=n then (c.1,i) else c).map jz:=by
  rw[BP,BP]
  congr 1
  funext c
  show(if (Sum.inr c.1:Key)=Sum.inr n then ((Sum.inr c.1:Key),PV.int i) else jz c)=jz (if c.1=n then (c.1,i) else c)
  by_cases e:c.1=n
  .rw [Ab (Z8.2 e),Ab e];rfl
  .lia
 delta cZ pL
 rw[h1]
 by_cases b:(ds.any fun c=>decide (c.1=n))=true
 .lia
 .rw [Ac b,Ac b,AS];rfl
def Kz ds:∀cs,pG (cs.map jz) (ds.map jz)=(fJ cs ds).map jz:=by
 induction ds with
 |nil=>intro cs;rfl
 |cons d ds g =>
  intro cs;show pG (cZ (cs.map jz) (.inr d.1) (.int d.2)) (ds.map jz)=(fJ (pL cs d.1 d.2) ds).map jz;rw[Ft,g]
theorem aA:∀ds:List (Str×Int),tW (ds.map dQ)=some (ds.map jz)
 |[]=>rfl
 |d::ds=>by
  show(match fV (.str d.1),tW (ds.map dQ) with | some k,some ps=>some ((k,PV.int d.2)::ps) | _,_=>none)=_;rw[aA ds];rfl
theorem NQ:∀ds,HF (ds.map jz)=some ds
 |[]=>rfl
 |d::ds=>by
  show(HF (ds.map jz)).map _=_;rw[NQ ds];rfl
def vg ds n i:(pL ds n i).length<=ds.length+1 :=by grind[pL,List.length_map,List.length_append,List.length_singleton]
def xW ds:∀cs,(fJ cs ds).length<=cs.length+ds.length:=by
 induction ds with
 |nil=>intro cs;exact AI _
 |cons d ds g =>
  intro cs;have h1:=g (pL cs d.1 d.2);have h2:=vg cs d.1 d.2;show(fJ (pL cs d.1 d.2) ds).length<=_;rw[AV]
  lia
def zI cs:(eW cs).length=cs.length:=by
 delta eW
 rw[AC]
 by_cases h:0 < cs.length
 .have:=(dW (ZC cs) cs.length h).length_eq
  rw[this,A6]
 .have e:cs.length=0:=by lia
  rw[e,W1];rfl
theorem W9 ds n i:(pL ds n i).map (·.1)=if n∈ds.map (·.1) then ds.map (·.1) else ds.map (·.1)++[n]:=by
 have h:(ds.any fun c=>decide (c.1=n))=true↔n∈ds.map (·.1) :=by grind
 delta pL
 by_cases b:(ds.any fun c=>decide (c.1=n))=true
 .rw [Ab b,Ab (h.1 b),BP]
  congr 1
  funext c
  show(if c.1=n then (c.1,i) else c).1=c.1
  split<;>rfl
 .grind
def Ib(h:(ds.map (·.1)).Nodup)n i:((pL ds n i).map (·.1)).Nodup :=by grind[W9,List.nodup_append]
def Xy ds:∀{cs},(cs.map (·.1)).Nodup->((fJ cs ds).map (·.1)).Nodup:=by
 induction ds with
 |nil=>intro cs h;exact h
 |cons d ds g=>intro cs h;exact g (Ib h d.1 d.2)
def Nq{cs:List (Str×Int)}(h:(cs.map (·.1)).Nodup)(g:c∈cs):wV (cs.map jz) (.inr c.1)=some (.int c.2):=by
 induction cs with
 |nil=>cases g
 |cons d cs B =>
  have h':=BA.1 h;show(match decide ((Sum.inr d.1:Key)=Sum.inr c.1) with | true=>some (jz d) | false=>(cs.map jz).find? fun q=>decide (q.1=Sum.inr c.1)).map (fun q:Key×PV=>q.2)=_
  rcases Ai.1 g with rfl | g
  .rw [Af rfl];rfl
  .exact (AM (fun z=>(fun e=>h'.1 (AL.2 ⟨c,g,e.symm⟩)) (Z8.1 z)))▸B h'.2 g
def GP(h:ds.length<=1000)(q:∀p,C p=none->Q (.ref p) (pQ C p (.dK ((fJ [] ds).map jz)))):bC [.tup (ds.map dQ)] C Q:=by
 delta bC
 show(match tW (ds.map dQ) with | some ps=>ps.length<=sizeLine/\∀p,C p=none->Q (.ref p) (pQ C p (.dK (pG [] ps))) | none=>False);rw[aA];dsimp only;rw[show pG [] (ds.map jz)=(fJ [] ds).map jz from Kz ds []];exact⟨by rw[AC];exact Ad h (by decide),q⟩
def Ie(m:C p=some (.dK (cs.map jz)))(h:cs.length<=1000)(q:Q (pQ C p (.dK ((pL cs n i).map jz)))):tE (.ref p) (.str n) (.int i) C Q:=by
 delta tE
 show(match C p,fV (.str n) with | some (.dK kvs),some k=>kvs.length < sizeLine/\Q (pQ C p (.dK (cZ kvs k (.int i)))) | _,_=>False);rw[m];show(cs.map jz).length < sizeLine/\Q (pQ C p (.dK (cZ (cs.map jz) (.inr n) (.int i))));rw[Ft,AC];exact⟨Ah h (by decide),q⟩
def QM(m:ph (C p)=some kvs)(g:fV y=some k)(B:wV kvs k=some v)(q:Q v C):tT (.ref p) y C Q :=by grind[tT]
def GZ(nd:(cs.map (·.1)).Nodup)(F:cs.length<=1000)(hj:B[j]?=some (some (.ref d)))(m:C d=some (.fK (cs.map jz)))(q:∀p,C p=none->R (.ref p) (pQ C p (.lst (cs.map dQ))))zs:
  ∀g:List (Str×Int),cs=g++zs->tJ Zc (Um (uU (jK 0) (uU (o6 tT (jK (j+1)) (jK 0)) Qu))) B R (zs.map fun c=>PV.str c.1) (g.map dQ) C:=by
 induction zs with
 |nil =>
  intro g e;rw[Aa] at e;subst e;exact q
 |cons z zs I =>
  intro g e;have G :=e▸AO _ AG;show jK (j+1) (some (.str z.1)::B) C fun x C1=>jK 0 (some (.str z.1)::B) C1 fun y C2=>tT x y C2 fun v D=>[PV.str z.1,v].length<=sizeLine/\(g.map dQ).length < sizeLine/\tJ Zc (Um (uU (jK 0) (uU (o6 tT (jK (j+1)) (jK 0)) Qu))) B R (zs.map fun c=>PV.str c.1) (g.map dQ++[.tup [.str z.1,v]]) D
  delta jK
  rw[show(some (PV.str z.1)::B)[j+1]?=some (some (.ref d)) from hj];refine QM (by rw[m];rfl) rfl (Nq nd G) ⟨ie 2 rfl,?_,?_⟩
  .rw [AC]
   have:g.length<=cs.length:=by rw[e,AQ];lia
   exact Ah (Ad this F) (by decide)
  .rw [show g.map dQ++[.tup [.str z.1,.int z.2]]=(g++[z]).map dQ by rw[AS];rfl]
   exact I (g++[z]) (by simp_all)
theorem Y6:∀cs:List (Str×Int),((cs.map jz).map fun p=>iV p.1)=cs.map fun c=>PV.str c.1
 |[]=>rfl
 |c::cs=>by
  show PV.str c.1::((cs.map jz).map fun p=>iV p.1)=_;rw[Y6 cs];rfl
def zp{cs:List (Str×Int)}(nd:(cs.map (·.1)).Nodup)(F:cs.length<=1000)(hj:D[j]?=some (some (.ref d)))(m:C d=some (.dK (cs.map jz)))(q:∀p C',C' p=some (.lst (cs.map dQ))->Gr C C'->Q (.ref p) C'):
  QA (jK j) Zc (Um (uU (jK 0) (uU (o6 tT (jK (j+1)) (jK 0)) Qu))) D C Q:=by
 delta QA
 have G:∀Q,Q (.ref d) C->jK j D C Q:=fun Q h=>by delta jK;rwa [hj]
 apply G _
 dsimp only;rw[m];dsimp only;rw[Y6];refine GZ nd F hj jQ (fun p g=>?_) cs [] rfl;have B:p≠d:=fun e=>by subst e;rw[jQ] at g;cases g
 have I:C p=none:=by rwa [vQ B] at g
 refine⟨by rw[vQ (Ne.symm B),jQ],q p _ (by rw[vQ B,jQ]) fun b o e=>?_⟩
 by_cases h1:b=d
 .subst h1;rw[m] at e;cases e;exact jQ
 .by_cases h2:b=p
  .lia
  .rwa [vQ h1,vQ h2,vQ h1]
def oW(ds g:List (Str×Int)):List (Str×Int):=eW (fJ (fJ [] ds) g)
def tM ds g:(oW ds g).length<=ds.length+g.length:=by
 delta oW
 rw[zI];have h1:=xW g (fJ [] ds);have h2:=xW ds [];have:([]:List (Str×Int)).length=0:=rfl
 lia
def Sa(P:Str×Int->Prop)(cs:List (Str×Int)):Prop:=∀c∈cs,P c
abbrev Es:=Sa fun c=>Bd c.2
abbrev qz:=Sa fun c=>Bd c.2/\c.1.length<=8
theorem qz.b(h:qz cs):Es cs:=fun c g=>(h c g).1
def Xg(h:c∈eW cs):c∈cs:=by
 obtain⟨i,hi,rfl⟩:=AL.1 h
 have g:0 < cs.length:=by
  rcases Nat.eq_zero_or_pos cs.length with z | z
  .rw [z,W1] at hi;cases hi
  .exact z
 have:=(dW (ZC cs) cs.length g).mem_iff.mp hi;rw[Bj] at this;rw[DD,AN this];exact By _
def Sa.put(h:Sa P cs)n(hi:P (n,i)):Sa P (pL cs n i):=by
 intro c g
 delta pL at g
 split at g
 .obtain ⟨x,q,rfl⟩:=AL.1 g
  split
  .lia
  .exact h x q
 .rcases Ax.1 g with g | g
  .exact h c g
  .grind
def Sa.merge(q:Sa P g):∀{cs},Sa P cs->Sa P (fJ cs g):=by
 induction g with
 |nil=>intro cs h;exact h
 |cons m g D =>
  intro cs h;exact D (fun c B=>q c (AJ _ B)) (h.put m.1 (q m AG))
def Sa.over(q:Sa P ds)(B:Sa P D):Sa P (oW ds D):=fun c g=>(Sa.merge B (Sa.merge q (cs:=[]) (fun _ z=>nomatch z))) c (Xg g)
section
variable {W:Wd}{a:Adr}
inductive Gq(ts:List PV)(C:CH)(Q:K1):Prop
 |mk(ds ms:List (Str×Int))(z0:ts=[.tup (ds.map dQ),.tup (ms.map dQ)])(z1:ds.length+ms.length<=60)(z2:∀C',Gr C C'->Q (.tup ((oW ds ms).map dQ)) C')
def Kr(T:Tx W a):Ok W a 1 36 ["_law_downs","_law_more"] Gq:=by
 have S:=(T.F 36 rfl).s
 refine(T.F 36 rfl).ok (fun ts C R h=>?_) fun ae A aj s H E O=>⟨_,(xQ (fj 2 S.nd (lJ (uS rfl) Zb rfl T.rP rfl (c7 (cv 0))))
  (xQ (rV PassesOwn.never rfl (cv 1) (cY rfl (xX (jn 3 S.nd) (xX (jn 4 S.nd) sV))) (kQ (qP (yK O) (cv 2) (cv 3) (cv 4))))
  (kQ (GW 3 (qb T.fZ (lQ (jY rfl) eU rfl T.tG rfl (c7 (Ug rfl (show(["_law_name","_law_downs","_law_more","_law_found","?","_law_number_here"]:List Str).Nodup by decide +kernel) (xM (N:=["_law_downs","_law_more","_law_found","?","_law_number_here"]) (sc:=yX (top 51)) rfl rfl rfl (by decide +kernel)) (cv 2) (fun _ _ _ _ _=>oV) (fun _ _ _ _ _=>(wQ (qQ (cv 0) (c7 (Ql (yK O) (cv 3) (cv 0) (fun _ _=>rfl)))))))))))))),?_⟩
 .obtain ⟨ds,g,rfl,_⟩:=h;rfl
 rintro ts C R ⟨ds,g,rfl,ag,q⟩;have ah:=Ad (xW ds []) (by show 0+ds.length<=ds.length;lia);refine yQ (GP (by lia) fun p U=>?_);refine pZ (jM rfl (wJ (fun zs M C'=>∃I J B vs,g=B++vs/\zs=vs.map dQ/\M=[some (.tup (ds.map dQ)),some (.tup (g.map dQ)),some (.ref p),I,J]/\C' p=some (.dK ((fJ (fJ [] ds) B).map jz))/\Gr C C') ?_ ?_ _ _ _ ⟨_,_,[],g,rfl,rfl,rfl,jQ,Gr.new U _⟩))
 .rintro z zs M C1 ⟨I,J,B,vs,e,D,rfl,G,F⟩ L Z
  cases vs with
  |nil=>cases D
  |cons v vs =>
   obtain⟨rfl,rfl⟩:=Az D;refine⟨rfl,bX (bX (dY ?_))⟩;have hl:=xW B (fJ [] ds);have ai:B.length<=g.length:=by rw[e,AQ];lia
   apply Ie G (by lia)
   refine Z _ _ ⟨_,_,B++[v],vs,by rw[AX];exact e,rfl,rfl,?_,lG F U _⟩;rw[jQ]
   delta fJ
   rw[Au]
   rfl
 .rintro M C1 ⟨I,J,B,vs,e,D,rfl,G,F⟩
  cases vs with
  |cons v vs=>cases D
  |nil =>
  rw[Aa] at e;subst e;have hl:=xW g (fJ [] ds);refine zp (Xy g (Xy ds (cs:=[]) Bi)) (by lia) rfl G fun p2 C2 m2 Y=>?_;refine bL m2 (by lia) fun p3 ab=>?_;exact sW jQ (q _ ((F.trans Y).trans (Gr.new ab _)))
def cL(T:Tx W a)(d:Nat):Ok W a (d+1) 30 U2 (qx d):=by
 have ai:∀n,(∀d',n=d'+1->Ok W a (d'+1) 30 U2 (qx d'))->Ok W a (n+1) 30 U2 (qx n):=by
  intro n ih;have S:=(T.F 30 rfl).s
  have aX:Ok W a n 30 U2 (fun ts C Q=>∃d',n=d'+1/\qx d' ts C Q):=by
   cases n with
   |zero=>exact eJ fun ts C Q zz=>sQ zz fun d' e _=> by lia
   |succ d' =>
    have:=ih d' rfl
    have e:(fun ts C Q=>∃ab,d'+1=ab+1/\qx ab ts C Q)=qx d':=by
     funext ts C Q
     refine propext ⟨fun zz=>sQ zz fun ab e h=> ?_,fun h=>⟨d',rfl,h⟩⟩;cases A1 e;exact h
    rw[e];exact this
  refine(T.F 30 rfl).ok (fun ts C R h=>?_) fun ak A ao s H E G=>⟨_,(xQ (fj 4 S.nd (cx (cv 0) zQ))
  (xQ (iQ (ct2 lX vX (cv 4) bQ) (kQ (gQ (cx (cv 0) zQ))) rQ)
  (xQ (iQ (ct2 lX vX (cv 4) bQ) (kQ (gQ (Ql (yK G) (cv 2) (cx (cv 0) zQ) (fun _ _=>rfl)))) rQ)
  (xQ (iQ (Qb nO K6 (cv 4) (wQ (qQ bQ (qQ bQ (c7 bQ)))) rfl) (xQ (vC (yK G) (cv 3) (wQ (qQ (cv 4) (c7 (cx (cv 0) zQ)))) (vP (yK G) (cv 1) (wQ (qQ (cv 4) (c7 (cx (cv 0) zQ)))) zQ))
  (kQ (gQ (G7 (yK G) (cv 3) (wQ (qQ (cv 4) (c7 (cx (cv 0) zQ)))) (fun _ _=>rfl))))) rQ)
  (xQ (fj 5 S.nd (cf (T.F 30 rfl) aX G (qQ (cx (cv 0) zQ) (qQ (cv 1) (qQ (cv 2) (c7 (cv 3)))))))
  (xQ (iQ (ct2 lX vX (cv 4) bQ) (kQ (gQ (cf (T.F 30 rfl) aX G (qQ (cx (cv 0) (hX yZ bZ zQ (lJ dH Qn rfl T.jO rfl (c7 (lY lX vX (cv 5) zQ (fG _)))))) (qQ (cv 1) (qQ (cv 2) (c7 (cv 3)))))))) rQ)
  (xQ (fj 6 S.nd (cf (T.F 30 rfl) aX G (qQ (cx (cv 0) zQ) (qQ (cv 1) (qQ (cv 2) (c7 (cv 3)))))))
  (xQ (iQ (ct2 lX vX (cv 4) bQ) (kQ (gQ (lJ dH Qn rfl T.jO rfl (c7 (lY YB Jt (cv 5) (cv 6) (fG _)))))) rQ)
  (xQ (fj 7 S.nd (hX yZ bZ (cv 5) (cv 6)))
  (xQ (iQ (ct2 lX vX (cv 4) bQ) (kQ (fj 7 S.nd (hX kH wF (cv 5) (cv 6)))) rQ)
  (kQ (gQ (lQ (sE rfl) Vc rfl T.z_max rfl (qQ (hX ZR Qd zQ (hX uR zP zQ zQ)) (c7 (lQ (mF rfl) yC rfl T.J2 rfl (qQ (hX uR zP zQ zQ) (c7 (cv 7))))))))))))))))))),?_⟩
  .obtain ⟨r,aa,tt,rr,A,τ,R,bs,ns,rfl,_⟩:=h;rfl
  rintro ts C Q ⟨r,aa,tt,rr,A,τ,R,bs,ns,rfl,B,D,g,M,q⟩;refine yQ ?_
  cases r with
  |num i =>
   refine aQ cQ ?_;refine zX (fQ _ _) ?_;refine uZ (by decide) ?_;refine aQ (v:=.int i) rfl ?_;exact q C D.hr fu.refl
  |turn m =>
   unfold Rk.ok at B;refine aQ cQ ?_;refine zX (fQ _ _) ?_;refine gX (by decide) ?_;refine pX ?_;refine zX (fQ _ _) ?_;refine uZ (by decide) ?_;refine aQ (v:=.str m) rfl ?_;refine GO D.ht rfl (uA g.t (g.h m B)).1 ?_;exact q C D.hr fu.refl
  |ask s m =>
   unfold Rk.ok at B;refine aQ cQ ?_;refine zX (fQ _ _) ?_
   have hs:s = "take"\/s = "down"\/s = "box":=by
    rcases B with ⟨h | h,_⟩ | ⟨h,_⟩
    .exact .inl h
    .exact .inr (.inl h)
    .exact .inr (.inr h)
   have ae:decide (s = "num")=false:=by rcases hs with rfl | rfl | rfl<;>decide
   have ag:decide (s = "turn")=false:=by rcases hs with rfl | rfl | rfl<;>decide
   refine gX (by rw[ae];rfl) ?_;refine pX ?_;refine zX (fQ _ _) ?_;refine gX (by rw[ag];rfl) ?_;refine pX ?_;refine⟨ie 3 rfl,?_⟩;refine yE (ts:=[.str "take",.str "box",.str "down"]) (w:=.str s) (vs:=[.str "take",.str "box",.str "down"]) rfl rfl rfl ?_;refine uZ (by rcases hs with rfl | rfl | rfl<;>rfl) ?_;refine pZ ?_;refine⟨nI D.ha,?_⟩;refine aQ (v:=.str m) rfl ?_;refine⟨ie 2 rfl,?_⟩
   refine bA (k:=qK s m) D.ha rfl (bM g.a s m).1 ?_;refine aQ (v:=.str m) rfl ?_;refine⟨ie 2 rfl,?_⟩;have hb:=g.b;refine gA (k:=qK s m) D.hr rfl (by have:=M.len;lia) ?_;refine aQ (v:=.str m) rfl ?_;refine⟨ie 2 rfl,?_⟩;refine EY (k:=qK s m) jQ rfl (by rw[yL,Ab rfl]) ?_;exact q _ jQ (fu.refl.at (by simp) _)
  |bin w x y =>
   cases n with
   |zero=>delta Rk.ok at B;exact B.elim
   |succ d' =>
   unfold Rk.ok at B;obtain⟨N,J,oy⟩:=B;have ae:decide (w = "num")=false:=by rcases N with rfl | rfl | rfl<;>decide
   have ag:decide (w = "turn")=false:=by rcases N with rfl | rfl | rfl<;>decide
   refine aQ cQ ?_;refine zX (fQ _ _) ?_;refine gX (by rw[ae];rfl) ?_;refine pX ?_;refine zX (fQ _ _) ?_;refine gX (by rw[ag];rfl) ?_;refine pX ?_;refine⟨ie 3 rfl,?_⟩;refine yE (ts:=[.str "take",.str "box",.str "down"]) (w:=.str w) (vs:=[.str "take",.str "box",.str "down"]) rfl rfl rfl ?_;refine gX (by rcases N with rfl | rfl | rfl<;>rfl) ?_;refine pX ?_
   try dsimp only
   refine yQ ?_;refine aQ (v:=x.pv) rfl ?_;refine⟨d',rfl,x,aa,tt,rr,A,τ,R,bs,ns,rfl,J,D,g,M,fun C1 m1 I=>?_⟩;have U:=D.ex I m1;have Y:=rZ (τ:=τ) (cX g.a) J M;refine zX (fQ _ _) ?_;refine gX (by rcases N with rfl | rfl | rfl<;>decide) ?_;refine pX ?_
   try dsimp only
   refine yQ ?_;refine aQ (v:=y.pv) rfl ?_;refine⟨d',rfl,y,aa,tt,rr,A,τ,_,bs,ns,rfl,oy,U,g,Y,fun C2 O L=>?_⟩
   try dsimp only
   have bx:=bY g.a g.t g.h J;have aj:=bY g.a g.t g.h oy
   have Z:∀F:K1,F=Q->F (.int (Rk.val A τ (.bin w x y))) C2:=fun F e=>by subst e;exact q C2 O (I.trans L)
   unfold Rk.val at Z
   have ah:∀(i:Int)(F:K1),F (.int (X2 i)) C2->Uo [.int 1000000000,.int i] C2 fun v C3=>Ur [.int (0 - 1000000000),v] C3 F:=by
    intro i F h;refine Ky ?_;refine FW ?_;exact h
   refine zX (fQ _ _) ?_
   rcases N with rfl | rfl | rfl
   .refine gX (by decide) ?_
    refine pX ?_
    try dsimp only
    refine yQ ?_;refine gU ?_
    try dsimp only
    refine zX (fQ _ _) ?_;refine gX (by decide) ?_;refine pX ?_
    try dsimp only
    refine⟨⟨by decide,by decide,by decide⟩,?_⟩;refine qj ?_;refine⟨⟨by decide,by decide,by decide⟩,?_⟩;exact ah _ _ (Z _ rfl)
   .refine gX (by decide) ?_
    refine pX ?_
    try dsimp only
    refine yQ ?_;refine gU ?_
    try dsimp only
    refine zX (fQ _ _) ?_;refine uZ (by decide) ?_;unfold Bd at bx aj
    refine⟨.inr ⟨by lia,by lia⟩,?_⟩
    try dsimp only
    refine⟨⟨by decide,by decide,by decide⟩,?_⟩;refine qj ?_;refine⟨⟨by decide,by decide,by decide⟩,?_⟩;exact ah _ _ (Z _ rfl)
   .refine uZ (by decide) ?_
    refine qj ?_;refine Gg ?_;have:=Z _ rfl;rw[Ab rfl] at this
    have e:(if decide (x.val A τ < y.val A τ)=true then (1:Int) else 0)=if x.val A τ < y.val A τ then 1 else 0:=by
     by_cases h:x.val A τ < y.val A τ
     .rw [Af h,Ab rfl,Ab h]
     .rw [AM h,Ac (by decide),Ac h]
    rw[e];exact this
  |pick x y z =>
   cases n with
   |zero=>unfold Rk.ok at B;exact B.elim
   |succ d' =>
   unfold Rk.ok at B;obtain⟨J,oy,oz⟩:=B;refine aQ cQ ?_
   try dsimp only
   refine zX (fQ _ _) ?_;refine gX (by decide) ?_;refine pX ?_
   try dsimp only
   refine zX (fQ _ _) ?_;refine gX (by decide) ?_;refine pX ?_
   try dsimp only
   refine⟨ie 3 rfl,?_⟩;refine yE (ts:=[.str "take",.str "box",.str "down"]) (w:=.str "pick") (vs:=[.str "take",.str "box",.str "down"]) rfl rfl rfl ?_;refine gX rfl ?_;refine pX ?_
   try dsimp only
   refine yQ ?_;refine aQ (v:=x.pv) rfl ?_;refine⟨d',rfl,x,aa,tt,rr,A,τ,R,bs,ns,rfl,J,D,g,M,fun C1 m1 I=>?_⟩;have U:=D.ex I m1;have Y:=rZ (τ:=τ) (cX g.a) J M
   try dsimp only
   refine zX (fQ _ _) ?_;refine uZ (by decide) ?_;refine zX (oJ _ _) ?_;refine Gg ?_;refine gU ?_
   by_cases h0:x.val A τ=0
   .refine aQ (v:=z.pv) (by rw[h0];rfl) ?_
    refine⟨d',rfl,z,aa,tt,rr,A,τ,_,bs,ns,rfl,oz,U,g,Y,fun C2 O L=>?_⟩;have:=q C2 (by unfold Rk.gn;rw[Ab h0];exact O) (I.trans L);unfold Rk.val at this;rw[Ab h0] at this;exact this
   .refine aQ (v:=y.pv) (by rw[AM h0];rfl) ?_
    refine⟨d',rfl,y,aa,tt,rr,A,τ,_,bs,ns,rfl,oy,U,g,Y,fun C2 O L=>?_⟩;have:=q C2 (by unfold Rk.gn;rw[Ac h0];exact O) (I.trans L);unfold Rk.val at this;rw[Ac h0] at this;exact this
 induction d with
 |zero=>exact ai 0 fun d' e=>by lia
 |succ d ih=>exact ai (d+1) fun d' e=>by cases A1 e;exact ih
inductive Gu(ts:List PV)(C:CH)(Q:K1):Prop
 |mk(ps:List (Str×Rk))(aa tt rr:Addr)(A:dw)(τ:jd)(R:dw)(bs ns:List Str)(z0:ts=[.tup (ps.map pB),.ref aa,.ref tt,.ref rr])(z1:QI bs ns 2 ps)(z2:ps.length<=4)(z3:Env C aa tt rr A τ R)(z4:hW A τ bs ns)(z5:iw bs R)(z6:∀C',C' rr=some (.dT (dZ A τ ps R))->fu [rr] C C'->Q (.tup ((eW (iX A τ ps)).map dQ)) C')
def YI(T:Tx W a):Ok W a 4 31 U3 Gu:=by
 have S:=(T.F 31 rfl).s;refine(T.F 31 rfl).ok (fun ts C R h=>?_) fun ag A ah s H E hr=>⟨_,(kQ (gQ (qb T.fZ (lQ (jY rfl) eU rfl T.tG rfl (c7 (X8 rfl (show(["_law_name","_law_one","_law_pairs","_law_answers_here","_law_turns","_law_reads"]:List Str).Nodup by decide +kernel) (xM (N:=U3) (sc:=yX (top 46)) rfl rfl rfl (by decide +kernel)) (tU (cv 0)) (fun _ _ _ _ _=>oV) (fun _ _ _ _ _=>(wQ (qQ (cv 0) (c7 (cf (T.F 30 rfl) (cL T 2) hr (qQ (cv 1) (qQ (cv 3) (qQ (cv 4) (c7 (cv 5)))))))))))))))),?_⟩
 .obtain ⟨ps,aa,tt,rr,A,τ,R,bs,ns,rfl,_⟩:=h;rfl
 rintro ts C Q ⟨ps,aa,tt,rr,A,τ,R,bs,ns,rfl,M,hl,I,J,hR,q⟩;refine pH (fun zs acc C'=>∃ds g:List (Str×Rk),ps=ds++g/\zs=g.map pB/\acc=(iX A τ ds).map dQ/\C' rr=some (.dT (dZ A τ ds R))/\fu [rr] C C') ?_ ?_ _ _ _ ⟨[],ps,rfl,rfl,rfl,I.hr,fu.refl⟩
 .rintro x r acc C1 ⟨ds,g,e,D,rfl,F,B⟩
  cases g with
  |nil=>cases D
  |cons u g =>
   obtain⟨rfl,rfl⟩:=Az D;refine⟨[.str u.1,u.2.pv],rfl,rfl,fun L hL=>?_⟩;have ab:ds.length < 4:=by have:=Bu List.length e;rw[AQ,AV] at this;lia
   refine⟨u.2,aa,tt,rr,A,τ,_,bs,ns,rfl,(M u (e▸AO _ AG)).1,I.ex B F,J,jZ (cX J.a) (fun x hx=>M x (e▸Ak _ hx)) hR,fun C2 m2 Z=>⟨ie 2 rfl,hL _ _ ⟨?_,ds++[u],g,by rw[AX];exact e,rfl,?_,?_,B.trans Z⟩⟩⟩
   .rw [AC]
    delta iX
    rw[AC];exact AZ ab (by decide)
   .delta iX
    rw[AS,AS]
    rfl
   .rw [m2]
    delta dZ
    rw[Au]
    rfl
 .rintro acc C1 ⟨ds,g,e,D,rfl,F,B⟩ p O
  cases g with
  |cons u g=>cases D
  |nil =>
   rw[Aa] at e;subst e;refine bL jQ (by delta iX;rw[AC];lia) fun p2 G=>?_
   apply sW jQ
   have Y:∀p,C1 p=none->rr≠p:=fun p h z=>by rw[z,h] at F;cases F
   have ae:p2≠p:=fun z=>by subst z;rw[jQ] at G;cases G
   have U:C1 p2=none:=by rwa [vQ ae] at G
   apply q _ (by rwa [vQ (Y p2 U),vQ (Y p O)])
   intro b o n hb;have h1:=B b o n hb;rw[vQ (fun z=>by subst z;rw[U] at h1;cases h1),vQ (fun z=>by subst z;rw[O] at h1;cases h1)];exact h1
inductive KL(d:Nat)(ts:List PV)(C:CH)(Q:K1):Prop
 |mk(ls:List Ln)(aa tt rr:Addr)(A:dw)(τ:jd)(R:dw)(bs rs ns:List Str)(z0:ts=[.tup (Ln.gj ls),.ref aa,.ref tt,.ref rr])(z1:(∀x∈ls,gw bs rs d ns x))(z2:Ln.f9 ls<=400)(z3:τ.length+d<=50)(z4:Env C aa tt rr A τ R)(z5:hW A τ bs ns)(z6:iw bs R)(z7:∀C',C' rr=some (.dT (mX A ls τ ([],[],R)).2.2)->fu [rr] C C'->Q (.tup (Wt.gj (mX A ls τ ([],[],R)).1)) C')
inductive Jj(d:Nat)(ts:List PV)(C:CH)(Q:K1):Prop
 |mk d'(z0:d=d'+1)(z1:KL d' ts C Q)
inductive Pb(d:Nat)(ts:List PV)(C:CH)(Q:K1):Prop
 |mk(l:Ln)(sp:List Key)(aa tt rr:Addr)(A:dw)(τ:jd)(R:dw)(bs rs ns:List Str)(z0:ts=[l.pv,sJ sp,.ref aa,.ref tt,.ref rr])(z1:XF l=true)(z2:gw bs rs d ns l)(z3:l.tw<=400)(z4:τ.length+d<=50)(z5:Env C aa tt rr A τ R)(z6:hW A τ bs ns)(z7:iw bs R)(z8:∀C',C' rr=some (.dT (dD A τ sp l R).2)->fu [rr] C C'->Q (dD A τ sp l R).1.pv C')
def VR(T:Tx W a)(d r:Nat)(h4:4<=r)(dC:Ok W a r 34 U7 (Jj d)):
  Ok W a (r+1) 32 U5 (Pb d):=by
 have S:=(T.F 32 rfl).s;have aX:=(cL T 2).mono (show 3<=r by lia);have cN:=(YI T).mono (show 4<=r by lia)
 refine(T.F 32 rfl).ok (fun ts C R h=>?_) fun a8 A ba s H E hr=>⟨_,(xQ (iQ (ct2 lX vX (cx (cv 0) zQ) bQ) (kQ (gQ (wQ (qQ bQ (qQ (cv 1) (qQ (cx (cv 0) zQ) (c7 (cf (T.F 31 rfl) cN hr (qQ (cx (cv 0) zQ) (qQ (cv 2) (qQ (cv 3) (c7 (cv 4))))))))))))) rQ)
  (xQ (iQ (ct2 lX vX (cx (cv 0) zQ) bQ) (xQ (fj 5 S.nd (cf (T.F 30 rfl) aX hr (qQ (cx (cv 0) zQ) (qQ (cv 2) (qQ (cv 3) (c7 (cv 4)))))))
  (kQ (gQ (wQ (qQ bQ (qQ (cv 1) (qQ (cx (cv 0) zQ) (qQ (cv 5) (c7 (cf (T.F 34 rfl) dC hr (qQ (cx (cv 0) zQ) (qQ (cv 2) (qQ (cv 3) (c7 (cv 4))))))))))))))) rQ)
  (xQ (fj 6 S.nd (oZ zZ))
  (xQ (rV PassesOwn.never rfl (cx (cv 0) zQ) (cY rfl (xX (jn 7 S.nd) (xX (jn 8 S.nd) (xX (jn 9 S.nd) (xX (jn 10 S.nd) sV))))) (xQ (GV (i:=11) S.nd rfl (Or.inl rfl) rfl (show(["_law_box","_law_word","_law_one","_law_line","_law_spot","_law_answers_here","_law_turns","_law_reads","_law_number_here","_law_hands","_law_event","_law_rank","_law_last","_law_changes","_law_some","_law_sets"]:List Str).Nodup by decide +kernel) (xM (N:=U0) (sc:=yX (top 47)) rfl rfl rfl (by decide +kernel)) (tU (cv 10)) (fun _ _ _ _ _=>oV) (fun _ _ _ _ _=>(wQ (qQ (cv 0) (qQ (cv 1) (c7 (cf (T.F 30 rfl) aX hr (qQ (cv 2) (qQ (cv 5) (qQ (cv 6) (c7 (cv 7))))))))))))
  (kQ (xZ (cap (cv 6) (wQ (qQ (cv 7) (qQ (cv 8) (qQ (cv 9) (c7 (qb T.fZ (cv 11))))))))))))
  (xQ (fj 12 S.nd (cf (T.F 31 rfl) cN hr (qQ (cx (cv 0) zQ) (qQ (cv 2) (qQ (cv 3) (c7 (cv 4)))))))
  (kQ (gQ (wQ (qQ bQ (qQ (cv 1) (qQ (cx (cv 0) zQ) (qQ (cv 12) (qQ (qb T.fZ (cv 6)) (c7 (cf (T.F 34 rfl) dC hr (qQ (cx (cv 0) zQ) (qQ (cv 2) (qQ (cv 3) (c7 (cv 4)))))))))))))))))))),?_⟩
 .obtain ⟨l,sp,aa,tt,rr,A,τ,R,bs,rs,ns,rfl,_⟩:=h;rfl
 rintro ts C Q ⟨l,sp,aa,tt,rr,A,τ,R,bs,rs,ns,rfl,av,ak,aw,a9,Y,D,hR,q⟩
 cases d with
 |zero=>exact ak.elim
 |succ d =>
 cases l with
 |when r l1 l2=>cases av
 |each n r I=>cases av
 |part k n g =>
  obtain⟨h1,h2,G,ag⟩:=ak
  delta Ln.pv
  refine aQ cQ ?_;refine zX (fQ _ _) ?_;refine uZ (by decide) ?_;refine aQ (v:=.str n) rfl ?_;refine aQ (v:=.tup (g.map pB)) rfl ?_;refine⟨g,aa,tt,rr,A,τ,R,bs,ns,rfl,fun x hx=>⟨(G x hx).1.mono (by decide),(G x hx).2⟩,ag,Y,D,hR,fun C1 M B=>⟨ie 4 rfl,?_⟩⟩;have:=q C1 M B;unfold dD Wt.pv at this;exact this
 |give k n rk I =>
  obtain⟨h1,h2,G,ag,h5⟩:=ak;unfold Ln.pv;refine aQ cQ ?_;refine zX (fQ _ _) ?_;refine gX (by decide) ?_;refine pX ?_;refine aQ cQ ?_;refine zX (fQ _ _) ?_;refine uZ (by decide) ?_;refine yQ ?_;refine aQ (v:=rk.pv) rfl ?_;refine⟨rk,aa,tt,rr,A,τ,R,bs,ns,rfl,G.mono (by decide),Y,D,hR,fun C1 M B=>?_⟩;refine aQ (v:=.str n) rfl ?_;refine aQ (v:=.tup (Ln.gj I)) rfl ?_;have a7:1+Ln.f9 I<=400:=aw
  refine⟨d,rfl,I,aa,tt,rr,A,τ,_,bs,rs,ns,rfl,ag,by lia,by lia,Y.ex B M,D,rZ (cX D.a) G hR,fun C2 Z F=>⟨ie 5 rfl,?_⟩⟩;have:=q C2 Z (B.trans F);unfold dD Wt.pv at this;exact this
 |plain k au ao hs I =>
  obtain⟨h1,h2,G,ag,h5⟩:=ak;unfold Ln.pv;refine aQ cQ ?_;refine zX (fQ _ _) ?_;refine gX (by decide) ?_;refine pX ?_;refine aQ cQ ?_;refine zX (fQ _ _) ?_;refine gX (by decide) ?_;refine pX ?_
  try dsimp only
  refine yQ ?_;refine⟨by decide,fun h hh=>?_⟩;have aj:h≠rr:=fun z=>by rw[z,Y.hr] at hh;cases hh
  generalize a6:PV.tup [PV.str "plain",iB k,PV.str au,PV.tup (List.map pB ao),PV.tup (List.map Hd.pv hs),PV.tup (Ln.gj I)]=ar
  have ai:∀(i:Int)(v:PV)(C':CH)(Q':K1),atI [PV.str "plain",iB k,PV.str au,PV.tup (List.map pB ao),PV.tup (List.map Hd.pv hs),PV.tup (Ln.gj I)] i=some v->Q' v C'->qt ar (.int i) C' Q':=by
   intro i v C' Q' e h;rw[<- a6];exact aQ e h
  refine qJ (fun az C'=>∃(x7 x8 x9 ab ae:Option PV),az=[some ar,some (sJ sp),some (.ref aa),some (.ref tt),some (.ref rr),none,some (.ref h),x7,x8,x9,ab,ae,none]/\C' h=some (.lst ((tZ A τ hs).map lu.pv))/\C' rr=some (.dT (mZ A τ hs R))/\fu [rr] C C') (fun L hL=>?_) ?_
  .refine Jl ?_
   refine ai 4 (.tup (hs.map Hd.pv)) _ _ rfl ?_;refine wJ (fun zs ρ C'=>∃(ds O:List Hd)(x7 x8 x9 ab ae:Option PV),hs=ds++O/\zs=O.map Hd.pv/\ρ=[some ar,some (sJ sp),some (.ref aa),some (.ref tt),some (.ref rr),none,some (.ref h),x7,x8,x9,ab,ae,none]/\C' h=some (.lst ((tZ A τ ds).map lu.pv))/\C' rr=some (.dT (mZ A τ ds R))/\fu [rr] C C') ?_ ?_ _ _ _ ⟨[],hs,_,_,_,_,_,rfl,rfl,rfl,jQ,by rw[vQ (Ne.symm aj)];exact Y.hr,fu.refl.put hh _⟩
   .rintro z zs ρ C1 ⟨ds,O,x7,x8,x9,ab,ae,e,J,rfl,mh,M,B⟩ L1 a0
    cases O with
    |nil=>cases J
    |cons u O =>
     obtain⟨rfl,rfl⟩:=Az J;have hu:u∈hs:=by rw[e];exact AO _ AG
     have aq:=G.1 u hu;have a5:ds.length < 5:=by have:=Bu List.length e;rw[AQ,AV] at this;have:=G.2;lia
     have R1:iw bs (mZ A τ ds R):=cK (cX D.a) (fun x hx=>G.1 x (by rw[e];exact Ak _ hx)) hR;refine⟨rfl,?_⟩;refine bX (bX (bX (bX (dY ?_))));refine yQ ?_;refine pH (fun zs acc C'=>∃cs vs:List (Str×Str×Rk),u.ch=cs++vs/\zs=vs.map Ms/\acc=(jP A τ cs).map Jr/\C' h=some (.lst ((tZ A τ ds).map lu.pv))/\C' rr=some (.dT (kM A τ cs (mZ A τ ds R)))/\fu [rr] C1 C') ?_ ?_ _ _ _ ⟨[],u.ch,rfl,rfl,rfl,mh,M,fu.refl⟩
     .rintro z zs acc C2 ⟨cs,vs,U,J,rfl,ah,Z,F⟩
      cases vs with
      |nil=>cases J
      |cons v vs =>
       obtain⟨rfl,rfl⟩:=Az J;refine⟨[.str v.1,.str v.2.1,v.2.2.pv],rfl,rfl,fun L2 a3=>?_⟩;have a4:cs.length < 5:=by have:=Bu List.length U;rw[AQ,AV] at this;have:=aq.1;lia
       refine⟨v.2.2,aa,tt,rr,A,τ,_,bs,ns,rfl,(aq.c v (by rw[U];exact AO _ AG)).mono (by decide),Y.ex (B.trans F) Z,D,xP (cX D.a) (fun x hx=>aq.c x (by rw[U];exact Ak _ hx)) R1,fun C3 m3 e3=>⟨ie 3 rfl,a3 _ _ ⟨?_,cs++[v],vs,by rw[AX];exact U,rfl,?_,e3 _ _ (fun z=>aj (AF.1 z)) ah,?_,F.trans e3⟩⟩⟩
       .rw [AC]
        delta jP
        rw[AC];exact AZ a4 (by decide)
       .delta jP
        rw[AS,AS]
        rfl
       .rw [m3]
        delta kM
        rw[Au]
        rfl
     .rintro acc C2 ⟨cs,vs,U,J,rfl,ah,Z,F⟩ p hp
      cases vs with
      |cons v vs=>cases J
      |nil =>
       rw[Aa] at U;have ax:p≠h:=fun z=>by subst z;rw[ah] at hp;cases hp
       have ay:p≠rr:=fun z=>by subst z;rw[Z] at hp;cases hp
       refine⟨jB (xs:=(tZ A τ ds).map lu.pv) (by rw[vQ (Ne.symm ax)];exact ah),?_⟩;refine sW jQ ?_;refine⟨ie 4 rfl,?_⟩;refine fN (xs:=(tZ A τ ds).map lu.pv) (by rw[vQ (Ne.symm ax)];exact ah) (by delta tZ;rw[AC,AC];exact AZ a5 (by decide)) ?_;refine a0 _ _ ⟨ds++[u],O,_,_,_,_,_,by rw[AX];exact e,rfl,rfl,?_,?_,?_⟩
       .rw [jQ,<- U]
        delta tZ
        rw[AS,AS]
        rfl
       .rw [vQ (Ne.symm aj),vQ (Ne.symm ay),Z,<- U]
        unfold mZ;rw[Au]
        rfl
       .have x2:fu [rr] C C2:=B.trans F
        exact((x2.put (x2.none (fun z=>ay (AF.1 z)) hp) _).put hh _)
   .rintro ρ C1 ⟨ds,O,x7,x8,x9,ab,ae,e,J,rfl,mh,M,B⟩
    cases O with
    |cons u O=>cases J
    |nil =>
     rw[Aa] at e;subst e;exact hL _ _ ⟨_,_,_,_,_,rfl,mh,M,B⟩
  rintro az C1 ⟨x7,x8,x9,ab,ae,rfl,mh,M,B⟩;refine yQ ?_;refine ai 3 (.tup (ao.map pB)) _ _ rfl ?_;have R1:=cK (τ:=τ) (cX D.a) G.1 hR;refine⟨ao,aa,tt,rr,A,τ,_,bs,ns,rfl,h2.1,h2.2,Y.ex B M,D,R1,fun C2 Z F=>?_⟩;refine ai 2 (.str au) _ _ rfl ?_;refine sW (F _ _ (fun z=>aj (AF.1 z)) mh) ?_;refine ai 5 (.tup (Ln.gj I)) _ _ rfl ?_;have a7:1+Ln.f9 I<=400:=aw;refine⟨d,rfl,I,aa,tt,rr,A,τ,_,bs,rs,ns,rfl,ag,by lia,by lia,Y.ex (B.trans F) Z,D,jZ (cX D.a) h2.1 R1,fun C3 m3 e3=>⟨ie 6 rfl,?_⟩⟩
  have:=q C3 m3 ((B.trans F).trans e3);unfold dD Wt.pv at this;exact this
end
def Lr(q:Q (.bl (k (sI x))) C):R6 k x .non C Q:=q
structure S5(C:CH)(aa tt rr ff cc:Addr)(A:dw)(τ:jd)(st:jo):Prop where
 env:Env C aa tt rr A τ st.2.2
 mf:C ff=some (.lst (Wt.gj st.1))
 mc:C cc=some (.dK st.2.1)
 tc:tt≠cc
section
variable {C C':CH}{aa tt rr ff cc:Addr}{A:dw}{τ:jd}{st st':jo}
def S5.fr(h:S5 C aa tt rr ff cc A τ st):ff≠rr:=fun z=>by have:=h.mf;rw[z,h.env.hr] at this;cases this
def S5.fc(h:S5 C aa tt rr ff cc A τ st):ff≠cc:=fun z=>by have:=h.mf;rw[z,h.mc] at this;cases this
def S5.cr(h:S5 C aa tt rr ff cc A τ st):cc≠rr:=fun z=>by have:=h.mc;rw[z,h.env.hr] at this;cases this
def S5.tf(h:S5 C aa tt rr ff cc A τ st):tt≠ff:=fun z=>by have:=h.env.ht;rw[z,h.mf] at this;cases this
def S5.af(h:S5 C aa tt rr ff cc A τ st):aa≠ff:=fun z=>by have:=h.env.ha;rw[z,h.mf] at this;cases this
def S5.ac(h:S5 C aa tt rr ff cc A τ st):aa≠cc:=fun z=>by have:=h.env.ha;rw[z,h.mc] at this;cases this
def S5.ex(h:S5 C aa tt rr ff cc A τ st)(e:fu [ff,cc,rr] C C')(g:C' ff=some (.lst (Wt.gj st'.1)))(q:C' cc=some (.dK st'.2.1))(B:C' rr=some (.dT st'.2.2)):S5 C' aa tt rr ff cc A τ st':=by
 refine⟨⟨e _ _ ?_ h.env.ha,e _ _ ?_ h.env.ht,B,h.env.ne⟩,g,q,h.tc⟩
 .intro z
  simp only[List.mem_cons,List.not_mem_nil,or_false] at z
  rcases z with z | z | z
  .exact h.af z
  .exact h.ac z
  .exact h.env.ne z
 .intro z
  simp only[List.mem_cons,List.not_mem_nil,or_false] at z
  rcases z with z | z | z
  .exact h.tf z
  .exact h.tc z
  .exact h.env.nt z
def S5.rd(h:S5 C aa tt rr ff cc A τ st)(e:fu [rr] C C'){R:dw}(g:C' rr=some (.dT R)):S5 C' aa tt rr ff cc A τ (st.1,st.2.1,R) :=
 ⟨h.env.ex e g,e _ _ (fun z=>h.fr (AF.1 z)) h.mf,e _ _ (fun z=>h.cr (AF.1 z)) h.mc,h.tc⟩
end
inductive Wh(d:Nat)(ts:List PV)(C:CH)(Q:K1):Prop
 |mk(ls:List Ln)(aa tt rr ff cc:Addr)(A:dw)(τ:jd)(st:jo)(bs rs ns:List Str)(z0:ts=[.tup (Ln.gj ls),.tup [.ref aa,.ref rr],.ref tt,.ref ff,.ref cc])(z1:(∀x∈ls,gw bs rs d ns x))(z2:st.1.length+Ln.f9 ls<=400)(z3:st.2.1.length+Ln.f9 ls<=400)(z4:τ.length+d<=50)(z5:S5 C aa tt rr ff cc A τ st)(z6:hW A τ bs ns)(z7:iw bs st.2.2)(z8:iz st.2.1)(z9:∀C',S5 C' aa tt rr ff cc A τ (mX A ls τ st)->fu [ff,cc,rr] C C'->Q .non C')
inductive Gv(d:Nat)(ts:List PV)(C:CH)(Q:K1):Prop
 |mk d'(z0:d=d'+1)(z1:Wh d' ts C Q)
section
variable {W:Wd}{a:Adr}
def xN(T:Tx W a)(d r:Nat)(h4:4<=r)(bG:Ok W a r 33 U1 (Gv d))(WD:Ok W a r 32 U5 (Pb d)):
  Ok W a (r+1) 33 U1 (Wh d):=by
 have S:=(T.F 33 rfl).s;have aX:=(cL T 2).mono (show 3<=r by lia)
 refine(T.F 33 rfl).ok (fun ts C R h=>?_) fun bq A b0 s H E hr=>⟨_,(xQ (tD (cv 1) (cY rfl (xX (jn 5 S.nd) (xX (jn 6 S.nd) sV))))
  (kQ (rV PassesOwn.never rfl (cv 0) (jn 7 S.nd) (kQ (iQ (ct2 lX vX (cx (cv 7) zQ) bQ) (xQ (fj 8 S.nd (cf (T.F 30 rfl) aX hr (qQ (cx (cv 7) zQ) (qQ (cv 5) (qQ (cv 2) (c7 (cv 6)))))))
  (kQ (xZ (cf (T.F 33 rfl) bG hr (qQ (cx (cv 7) (hX yZ bZ zQ (lJ dH Qn rfl T.jO rfl (c7 (lY lX vX (cv 8) zQ (fG _)))))) (qQ (cv 1) (qQ (cv 2) (qQ (cv 3) (c7 (cv 4)))))))))) (kQ (iQ (ct2 lX vX (cx (cv 7) zQ) bQ) (kQ (Qc PassesOwn.never rfl rfl T.cM (c7 (lQ (mF rfl) yC rfl T.J2 rfl (qQ zQ (c7 (cf (T.F 30 rfl) aX hr (qQ (cx (cv 7) zQ) (qQ (cv 5) (qQ (cv 2) (c7 (cv 6)))))))))) (jn 9 S.nd) (xQ (fj 10 S.nd (lJ gS nE rfl T.rP rfl (c7 (cv 2))))
  (xQ (qP (yK hr) (cv 10) (cx (cv 7) zQ) (cv 9))
  (kQ (xZ (cf (T.F 33 rfl) bG hr (qQ (cx (cv 7) zQ) (qQ (cv 1) (qQ (cv 10) (qQ (cv 3) (c7 (cv 4))))))))))))) (xQ (fj 11 S.nd sZ)
  (xQ (iQ (ct2 jI jS (cx (cv 7) zQ) sZ) (kQ (fj 11 S.nd (cf (T.F 30 rfl) aX hr (qQ (cx (cv 7) zQ) (qQ (cv 5) (qQ (cv 2) (c7 (cv 6)))))))) rQ)
  (xQ (qP (yK hr) (cv 4) (cv 11) (hX yZ bZ (X7 (yK hr) (cv 4) (cv 11) zQ) zQ))
  (kQ (xZ (cap (cv 3) (cf (T.F 32 rfl) WD hr (qQ (cv 7) (qQ (wQ (qQ (cv 11) (c7 (hX ZR Qd (Ql (yK hr) (cv 4) (cv 11) (fun _ _=>rfl)) zQ)))) (qQ (cv 5) (qQ (cv 2) (c7 (cv 6)))))))))))))))))))),?_⟩
 .obtain ⟨ab,aa,tt,rr,ff,cc,A,τ,st,bs,rs,ns,rfl,_⟩:=h;rfl
 rintro ts C Q ⟨ab,aa,tt,rr,ff,cc,A,τ,st,bs,rs,ns,rfl,a9,hF,hN,bl,hE,J,hR,hC,q⟩;refine pZ ?_;refine⟨rfl,?_⟩;refine bX (bX (dY ?_));refine jM rfl ?_;refine wJ (fun zs ρ C'=>∃(ds Z:List Ln)(x7 x8 x9 ah ao:Option PV),ab=ds++Z/\zs=Ln.gj Z/\ρ=[some (.tup (Ln.gj ab)),some (.tup [.ref aa,.ref rr]),some (.ref tt),some (.ref ff),some (.ref cc),some (.ref aa),some (.ref rr),x7,x8,x9,ah,ao]/\S5 C' aa tt rr ff cc A τ (mX A ds τ st)/\fu [ff,cc,rr] C C') ?_ ?_ _ _ _ ⟨[],ab,_,_,_,_,_,rfl,rfl,rfl,by rw[hU];exact hE,fu.refl⟩
 .rintro z zs ρ C1 ⟨ds,Z,x7,x8,x9,ah,ao,e,hz,rfl,Y,e1⟩ L hL
  cases Z with
  |nil=>cases hz
  |cons u Z =>
  obtain⟨rfl,rfl⟩:=Az (show z::zs=u.pv::Ln.gj Z from hz);have hu:=a9 u (by rw[e];exact AO _ AG);have bw:Ln.f9 ab=Ln.f9 ds+(u.tw+Ln.f9 Z):=by rw[e,Ln.qe];rfl
  have ag:=cD A ds τ st;have R1:iw bs (mX A ds τ st).2.2:=lU (cX J.a) (fun x hx=>a9 x (by rw[e];exact Ak _ hx)) hR;have aq:=aO A ds τ st hC
  have ar:∀C' x7 x8 x9 ah ao,S5 C' aa tt rr ff cc A τ (nF A u τ (mX A ds τ st))->fu [ff,cc,rr] C1 C'->L [some (.tup (Ln.gj ab)),some (.tup [.ref aa,.ref rr]),some (.ref tt),some (.ref ff),some (.ref cc),some (.ref aa),some (.ref rr),x7,x8,x9,ah,ao] C':=by
   intro C' y7 y8 y9 a5 bp h1 h2;refine hL _ _ ⟨ds++[u],Z,y7,y8,y9,a5,bp,by rw[AX];exact e,rfl,rfl,?_,e1.trans h2⟩;rw[Z2,zG,hU];exact h1
  clear hL;generalize bu:mX A ds τ st=B at Y ag R1 aq ar
  by_cases ai:XF u=true
  .obtain ⟨wd,nX,ep,n1,n2⟩:=Fe ai
   refine oQ ep cQ ?_;refine zX (fQ _ _) ?_;refine gX (by rw[n1];rfl) ?_;refine oQ ep cQ ?_;refine zX (fQ _ _) ?_;refine gX (by rw[n2];rfl) ?_;refine yQ (Nf ?_);have a0:=Hx ai hu;refine qJ (fun ba C'=>ba=[some (.tup (Ln.gj ab)),some (.tup [.ref aa,.ref rr]),some (.ref tt),some (.ref ff),some (.ref cc),some (.ref aa),some (.ref rr),some u.pv,x8,x9,ah,some (iV (gV A τ (wK u)))]/\C' rr=some (.dT (zK A τ (wK u) B.2.2))/\fu [rr] C1 C') (fun L1 au=>?_) ?_
   .refine oQ ep (v:=iB (wK u)) mC ?_
    refine Nf ?_;refine Lr ?_
    rcases hk:wK u with _ | F
    .refine rF (fun hb=>?_) fun hb=>?_
     .cases hb
     refine pX ?_;rw[hk] at au;exact au _ _ ⟨rfl,Y.env.hr,fu.refl⟩
    .rw [hk] at au ep a0
     refine rF (fun hb=>?_) fun hb=>?_
     .refine oQ ep (v:=F.pv) mC ?_
      refine⟨F,aa,tt,rr,A,τ,_,bs,ns,rfl,a0.mono (by decide),Y.env,J,R1,fun C2 m2 U=>?_⟩;exact au _ _ ⟨rfl,m2,U⟩
     .have hb:(!sI F.pv)=false:=hb
      have:sI F.pv=false:=by cases F<;>rfl
      rw[this] at hb;cases hb
   rintro ba C2 ⟨rfl,m2,U⟩;have M:=Y.rd U m2;have aj:=uW (τ:=τ) (cX J.a) a0 R1;generalize bj:gV A τ (wK u)=I at M;refine pZ ?_;refine⟨Jf M.mc,?_⟩;refine Gk M.mc (CL.ig I) (G3 aq I) ?_;refine gU ?_;refine rA M.mc (CL.ig I) (by have:=ag.2;lia) ?_;have a8:pQ C2 cc (.dK (cZ B.2.1 I (.int (oU B.2.1 I+1)))) cc=some (.dK (eZ B.2.1 I)):=jQ;have e3:fu [ff,cc,rr] C1 (pQ C2 cc (.dK (cZ B.2.1 I (.int (oU B.2.1 I+1))))):=(xG U).at (by simp) _
   have G:S5 (pQ C2 cc (.dK (cZ B.2.1 I (.int (oU B.2.1 I+1))))) aa tt rr ff cc A τ (B.1,eZ B.2.1 I,zK A τ (wK u) B.2.2) :=
    ⟨⟨by rw[vQ M.ac];exact M.env.ha,by rw[vQ M.tc];exact M.env.ht,by rw[vQ (Ne.symm M.cr)];exact M.env.hr,M.env.ne⟩,by rw[vQ M.fc];exact M.mf,a8,M.tc⟩
   generalize pQ C2 cc (.dK (cZ B.2.1 I (.int (oU B.2.1 I+1))))=N at a8 e3 G ⊢;refine⟨jB G.mf,?_⟩;refine GO G.mc (CL.ig I) (v:=.int (oU B.2.1 I+1)) (by delta eZ;rw[uL,Ab rfl]) ?_;refine qj ?_;refine⟨ie 2 rfl,?_⟩;have ec:oU B.2.1 I+1 - 1=oU B.2.1 I:=by lia
   rw[ec];refine⟨u,kK B.2.1 I,aa,tt,rr,A,τ,_,bs,rs,ns,rfl,ai,hu,by lia,bl,G.env,J,aj,fun C4 m4 e4=>?_⟩;have O:=G.rd e4 m4;refine fN O.mf (by rw[Wt.qg];have:=ag.1;exact Ah (show B.1.length<=400 by lia) (by decide)) ?_;have eo:=Z1 A τ u B.1 B.2.1 B.2.2 ai;rw[bj] at eo;refine ar _ _ _ _ _ _ ?_ ((e3.trans (xG e4)).at (by simp) _);rw[show B=(B.1,B.2.1,B.2.2) from rfl,eo]
   exact⟨⟨by rw[vQ O.af];exact O.env.ha,by rw[vQ O.tf];exact O.env.ht,by rw[vQ (Ne.symm O.fr)];exact O.env.hr,O.env.ne⟩,by rw[jQ,Wt.qi];rfl,by rw[vQ (Ne.symm O.fc)];exact O.mc,O.tc⟩
  .cases u with
   |plain k b1 s hs ab=>exact absurd rfl ai
   |part k n g=>exact absurd rfl ai
   |give k n r ab=>exact absurd rfl ai
   |when F D l2 =>
    cases d with
    |zero=>exact hu.elim
    |succ d' =>
    obtain⟨ak,⟨o1,_⟩,o2,_⟩:=hu;have ep:(Ln.when F D l2).pv=.tup [.str "when",F.pv,.tup (Ln.gj D),.tup (Ln.gj l2)]:=by rw[Ln.pv]
    have bc:(Ln.when F D l2).tw=Ln.f9 D+Ln.f9 l2:=by rw[Ln.tw]
    refine oQ ep cQ ?_;refine zX (fQ _ _) ?_;refine uZ (by decide) ?_;refine yQ ?_;refine oQ ep (v:=F.pv) rfl ?_;refine⟨F,aa,tt,rr,A,τ,_,bs,ns,rfl,ak.mono (by decide),Y.env,J,R1,fun C2 m2 U=>?_⟩;have aj:=rZ (τ:=τ) (cX J.a) ak R1;refine zX (oJ _ _) ?_;refine Gg ?_;refine gU ?_
    by_cases h0:F.val A τ=0
    .refine oQ ep (v:=.tup (Ln.gj l2)) (by rw[h0];rfl) ?_
     refine⟨d',rfl,l2,aa,tt,rr,ff,cc,A,τ,(B.1,B.2.1,F.gn A τ B.2.2),bs,rs,ns,rfl,o2,by have:=ag.1;lia,by have:=ag.2;lia,by lia,Y.rd U m2,J,aj,aq,fun N G e3=>?_⟩;refine ar N _ _ _ _ _ ?_ ((xG U).trans e3);rw[nF,Ab h0];exact G
    .refine oQ ep (v:=.tup (Ln.gj D)) (by rw[AM h0];rfl) ?_
     refine⟨d',rfl,D,aa,tt,rr,ff,cc,A,τ,(B.1,B.2.1,F.gn A τ B.2.2),bs,rs,ns,rfl,o1,by have:=ag.1;lia,by have:=ag.2;lia,by lia,Y.rd U m2,J,aj,aq,fun N G e3=>?_⟩;refine ar N _ _ _ _ _ ?_ ((xG U).trans e3);rw[nF,Ac h0];exact G
   |each n F D =>
    cases d with
    |zero=>exact hu.elim
    |succ d' =>
    obtain⟨ak,o1,_⟩:=hu;have ep:(Ln.each n F D).pv=.tup [.str "each",.str n,F.pv,.tup (Ln.gj D)]:=by rw[Ln.pv]
    have bc:(Ln.each n F D).tw=8 * Ln.f9 D:=by rw[Ln.tw]
    have av:hW A τ bs []:=⟨J.a,J.t,(fun _ z=>nomatch z),J.b⟩;refine oQ ep cQ ?_;refine zX (fQ _ _) ?_;refine gX (by decide) ?_;refine oQ ep cQ ?_;refine zX (fQ _ _) ?_;refine uZ (by decide) ?_;refine oQ ep (v:=F.pv) rfl ?_;refine⟨F,aa,tt,rr,A,τ,_,bs,[],rfl,ak.mono (by decide),Y.env,av,R1,fun C2 m2 U=>?_⟩;refine Ky ?_;have bb:=bY av.a av.t av.h ak;unfold Bd at bb;refine⟨by split<;>lia,by split<;>lia,?_⟩
    have aj:=rZ (τ:=τ) (cX J.a) ak R1;have M:=Y.rd U m2;show yG _ _ _ ((List.range (qL (F.val A τ))).map fun k=>PV.int (k:Nat)) _ _;generalize a6:qL (F.val A τ)=n8;have bt:n8<=8:=by rw[<- a6];exact bF _
    let f:jo->Nat->jo:=fun st k=>mX A D (cZ τ (.inr n) (.int (k:Nat))) st
    let ae:jo:=(B.1,B.2.1,F.gn A τ B.2.2)
    refine wJ (fun zs ρ C'=>∃(j:Nat)(x9 ah:Option PV),j<=n8/\zs=((List.range n8).drop j).map (fun k:Nat=>PV.int (k:Nat))/\ρ=[some (.tup (Ln.gj ab)),some (.tup [.ref aa,.ref rr]),some (.ref tt),some (.ref ff),some (.ref cc),some (.ref aa),some (.ref rr),some (Ln.each n F D).pv,x8,x9,ah,ao]/\S5 C' aa tt rr ff cc A τ ((List.range j).foldl f ae)/\fu [ff,cc,rr] C1 C') ?_ ?_ _ _ _ ⟨0,_,_,AW _,rfl,rfl,M,xG U⟩
    .rintro z zs ρ N ⟨j,y9,a5,hj,hz,rfl,G,e3⟩ L3 bf
     obtain⟨bh,rfl,rfl⟩:=aF hz;refine yQ ?_;refine KY G.env.ht fun ia az=>?_;refine pZ ?_;refine oQ ep (v:=.str n) rfl ?_;refine rA (k:=.inr n) jQ rfl (by lia) ?_;have a3:∀b o,N b=some o->b≠ia:=fun b o h z=>by rw[z,az] at h;cases h
     refine oQ ep (v:=.tup (Ln.gj D)) rfl ?_;have ax:=iW (f:=f) (m:=fun st=>st.1.length) (c:=Ln.f9 D) (fun x k=>(cD A D _ x).1) (List.range j) ae;have ay:=iW (f:=f) (m:=fun st=>st.2.1.length) (c:=Ln.f9 D) (fun x k=>(cD A D _ x).2) (List.range j) ae;rw[A6] at ax ay
     have a7:j * Ln.f9 D+Ln.f9 D<=8 * Ln.f9 D:=by
      have:(j+1) * Ln.f9 D<=8 * Ln.f9 D:=BZ _ (by lia);rw[Nat.add_mul,Nat.one_mul] at this;exact this
     have ax:((List.range j).foldl f ae).1.length<=B.1.length+j * Ln.f9 D:=ax;have ay:((List.range j).foldl f ae).2.1.length<=B.2.1.length+j * Ln.f9 D:=ay;have bx:=ag.1;have bz:=ag.2;have R3:iw bs ((List.range j).foldl f ae).2.2:=eK (P:=fun st:jo=>iw bs st.2.2) (fun x k p=>lU (cX J.a) o1 p) _ _ aj;have N3:iz ((List.range j).foldl f ae).2.1:=eK (P:=fun st:jo=>iz st.2.1) (fun x k p=>aO A D _ x p) _ _ aq
     have bo:Hm (cZ τ (.inr n) (.int (j:Nat))):=J.t.put _ (by delta Bd;lia)
     have bg:hW A (cZ τ (.inr n) (.int (j:Nat))) bs [n]:=⟨J.a,bo,fun m a7=>by
      cases AF.1 a7
      rw[uL,Ab rfl];rfl,J.b⟩
     have br:(cZ τ (.inr n) (.int (j:Nat))).length<=τ.length+1:=fB _ _ _
     have O:S5 (pQ (pQ N ia (.dK τ)) ia (.dK (cZ τ (.inr n) (.int (j:Nat))))) aa ia rr ff cc A (cZ τ (.inr n) (.int (j:Nat))) ((List.range j).foldl f ae):=by
      have aw:∀b o,N b=some o->pQ (pQ N ia (.dK τ)) ia (.dK (cZ τ (.inr n) (.int (j:Nat)))) b=some o:=fun b o h=>by rw[vQ (a3 b o h),vQ (a3 b o h)];exact h
      exact⟨⟨aw _ _ G.env.ha,jQ,aw _ _ G.env.hr,G.env.ne⟩,aw _ _ G.mf,aw _ _ G.mc,Ne.symm (a3 _ _ G.mc)⟩
     have x4:fu [ff,cc,rr] N (pQ (pQ N ia (.dK τ)) ia (.dK (cZ τ (.inr n) (.int (j:Nat))))):=(fu.refl.put az _).put az _;refine⟨d',rfl,D,aa,ia,rr,ff,cc,A,_,_,bs,rs,[n],rfl,o1,by lia,by lia,by lia,O,bg,R3,N3,fun C5 a4 e5=>?_⟩;refine bf _ _ ⟨j+1,_,_,bh,rfl,rfl,?_,e3.trans (x4.trans e5)⟩;have ef:(List.range (j+1)).foldl f ae=f ((List.range j).foldl f ae) j:=by rw[List.range_succ,Au];rfl
     rw[ef];exact G.ex (x4.trans e5) a4.mf a4.mc a4.env.hr
    .rintro ρ N ⟨j,y9,a5,hj,hz,rfl,G,e3⟩
     have ej:j=n8:=by
      rcases CK j n8 with h | h
      .rw [Ar (by rw[A6];exact h)] at hz
       cases hz
      .lia
     subst ej;refine ar N _ _ _ _ _ ?_ e3;rw[nF,a6];exact G
 .rintro ρ C1 ⟨ds,Z,x7,x8,x9,ah,ao,e,hz,rfl,Y,e1⟩
  cases Z with
  |cons u Z=>cases hz
  |nil =>
   rw[Aa] at e;subst e;exact q C1 Y e1
def Ks(T:Tx W a)d r(J:Ok W a r 33 U1 (Wh d)):
  Ok W a (r+1) 34 U7 (KL d):=by
 refine(T.F 34 rfl).ok (fun ts C R h=>?_) fun ag A aj s H E Y=>⟨_,(xQ (fj 4 ((T.F 34 rfl).s).nd (oZ zZ))
  (xQ (xZ (cf (T.F 33 rfl) J Y (qQ (cv 0) (qQ (wQ (qQ (cv 1) (c7 (cv 3)))) (qQ (cv 2) (qQ (cv 4) (c7 gF)))))))
  (kQ (gQ (qb T.fZ (cv 4)))))),?_⟩
 .obtain ⟨F,aa,tt,rr,A,τ,R,bs,rs,ns,rfl,_⟩:=h;rfl
 rintro ts C Q ⟨F,aa,tt,rr,A,τ,R,bs,rs,ns,rfl,ab,ah,Z,g,N,M,q⟩;refine yQ ⟨by decide,fun ff U=>?_⟩;refine pZ ⟨ie 2 rfl,?_⟩;intro cc B;have G:cc≠ff:=fun z=>by subst z;rw[jQ] at B;cases B
 have S:C cc=none:=by rwa [vQ G] at B
 have D:∀b o,C b=some o->pQ (pQ C ff (.lst [])) cc (.dK []) b=some o:=fun b o h=>Gr.new B _ _ _ (Gr.new U _ _ _ h)
 have ae:S5 (pQ (pQ C ff (.lst [])) cc (.dK [])) aa tt rr ff cc A τ ([],[],R) :=
  ⟨⟨D _ _ g.ha,D _ _ g.ht,D _ _ g.hr,g.ne⟩,by rw[vQ (Ne.symm G)];exact jQ,jQ,fun z=>by have:=g.ht;rw[z,S] at this;cases this⟩
 refine⟨F,aa,tt,rr,ff,cc,A,τ,([],[],R),bs,rs,ns,rfl,ab,by show 0+_<=400;lia,by show 0+_<=400;lia,Z,ae,N,M,(fun _ z=>nomatch z),fun C2 I L=>?_⟩;refine sW I.mf (q C2 I.env.hr ?_);intro b o ai O;refine L b o (fun z=>?_) (D b o O)
 simp only[List.mem_cons,List.not_mem_nil] at z
 rcases z with z | z | z
 .lia
 .lia
 .grind
def Iu(T:Tx W a)d:Ok W a (3 * d+6) 33 U1 (Wh d):=by
 induction d with
 |zero =>
  exact xN T 0 5 (by decide) (eJ fun ts C Q ⟨d',e,_⟩=>by lia) (eJ fun ts C Q z=>by obtain⟨l,sp,aa,tt,rr,A,τ,R,bs,rs,ns,_,_,h,_⟩:=z;exact h)
 |succ d g =>
  have F:=Ks T d (3 * d+6) g
  have B:Jj (d+1)=KL d:=by
   funext ts C Q
   refine propext ⟨fun⟨q,z,h⟩=>?_,fun h=>⟨d,rfl,h⟩⟩;cases A1 z;exact h
  have D:Gv (d+1)=Wh d:=by
   funext ts C Q
   refine propext ⟨fun⟨q,z,h⟩=>?_,fun h=>⟨d,rfl,h⟩⟩;cases A1 z;exact h
  have:=xN T (d+1) (3 * d+6+1+1) (Br _ _) (D▸g.mono (by lia)) (VR T (d+1) (3 * d+6+1) (Br _ _) (by rwa [B]));have e:3 * d+6+1+1+1=3 * (d+1)+6:=by lia
  rwa [e] at this
end
def N5(h:iw bs R)(m:g∈R):vB (sJ g.1)=some g.1/\PV.tup [sJ g.1,g.2]=yJ (o8 g):=by
 refine rG (h.ks g.1 (AL.2 ⟨g,m,rfl⟩)) fun s n e _=>sQ (h.vs g m) fun i q _=>?_;obtain⟨k,v⟩:=g;cases e;cases q;exact⟨rfl,rfl⟩
def zm{kvs:dw}(B:g[i]?=some (some (.ref d)))(h:C d=some (.dT kvs))(q:tJ t c g (fun v C2=>C2 d=some (.fT kvs)/\Q v (pQ C2 d (.dT kvs))) (kvs.map fun p=>sJ p.1) [] (pQ C d (.fT kvs))):Qy (jK i) t c g C Q :=by simp_all[Qy,jK]
def Nu{kvs:dw}(m:C p=some (.fT kvs))(g:vB y=some k)(B:aZ kvs k=some v)(q:Q v C):Du (.ref p) y C Q:=by
 delta Du
 dsimp only;rw[m,g];show(match aZ kvs k with | some v=>Q v C | none=>False)
 rwa [B]
def VA(m:C p=some (.lst (cs.map yJ)))(h:cs.length < 64)(q:∀g,C g=none->Q (.ref g) (pQ C g (.lst ((xH cs).map yJ)))):bP [.ref p] C Q:=by
 delta bP
 dsimp only;rw[m];dsimp only;rw[QU];exact⟨h,q⟩
section
variable {W:Wd}{a:Adr}
inductive KM(ts:List PV)(C:CH)(Q:K1):Prop
 |mk(x:Pt)(aa:Addr)(A:dw)(rs:List Str)(cap:Nat)(z0:ts=[x.pv,.ref aa])(z1:jh rs cap x)(z2:C aa=some (.dT A))(z3:jy A)(z4:∀C',Gr C C'->Q (wZ A x).pv C')
def VS(T:Tx W a):Ok W a 26 35 ["_law_part","_law_answers_here"] KM:=by
 have S:=(T.F 35 rfl).s;have dC:=Ks T 6 24 (Iu T 6);have aX:=(cL T 1).mono (show 2<=25 by decide)
 refine(T.F 35 rfl).ok (fun ts C R h=>?_) fun a3 A a4 s H E hr=>⟨_,(xQ (fj 2 S.nd wC)
  (xQ (fj 3 S.nd (cf (T.F 34 rfl) dC hr (qQ (cx (cv 0) zQ) (qQ (cv 1) (qQ gF (c7 (cv 2)))))))
  (xQ (fj 4 S.nd (qb T.fZ (X8 rfl (show(["_law_name","_law_one","_law_part","_law_answers_here","_law_reads","_law_row_here","_law_works"]:List Str).Nodup by decide +kernel) (xM (N:=U9) (sc:=yX (top 50)) rfl rfl rfl (by decide +kernel)) (tU (cx (cv 0) zQ)) (fun _ _ _ _ _=>oV) (fun _ _ _ _ _=>(wQ (qQ (cv 0) (c7 (cf (T.F 30 rfl) aX hr (qQ (cv 1) (qQ (cv 3) (qQ gF (c7 (cv 4)))))))))))))
  (kQ (gQ (wQ (qQ (qb T.fZ (lQ mN (Za (zM hr)) rfl T.tG rfl (c7 (Uc rfl (S.c (by decide +kernel)) (S.k rfl rfl rfl (by decide +kernel)) (cv 2) (fun _ _ _ _ _=>oV) (fun _ _ _ _ _=>(wQ (qQ (cv 0) (c7 (Mt (yK hr) (cv 3) (cv 0) (fun _ _=>rfl)))))))))) (qQ (cv 3) (c7 (cv 4)))))))))),?_⟩
 .obtain ⟨x,aa,A,rs,cap,rfl,_⟩:=h;rfl
 rintro ts C Q ⟨x,aa,A,rs,cap,rfl,D,Z,U,q⟩;have Y:hW A [] (x.first.map (·.1)) []:=⟨U,(fun _ z=>nomatch z),(fun _ z=>nomatch z),by rw[AC];exact D.fl⟩;have ak:iw (x.first.map (·.1)) []:=⟨Bi,(fun _ z=>nomatch z),(fun _ z=>nomatch z)⟩;refine yQ ?_;intro rr J;have aq:aa≠rr:=fun z=>by rw[z,J] at Z;cases Z
 refine yQ ?_;refine aQ rfl ?_;intro tt ag;have a0:tt≠rr:=fun z=>by subst z;rw[jQ] at ag;cases ag
 have aj:Gr C (pQ (pQ C rr (.dT [])) tt (.dK [])):=(Gr.new J _).trans (Gr.new ag _);have E1:Env (pQ (pQ C rr (.dT [])) tt (.dK [])) aa tt rr A [] []:=⟨aj _ _ Z,jQ,by rw[vQ (Ne.symm a0)];exact jQ,aq⟩;have a5:=D.tw;refine⟨x.ls,aa,tt,rr,A,[],[],_,rs,[],rfl,D.ls,by lia,by decide,E1,Y,ak,fun C2 m2 e2=>?_⟩;have ai:=lU (τ:=[]) (st:=([],[],[])) (cX U) D.ls ak;have au:Gr C C2:=fun b o h=>e2 b o (fun z=>by rw[AF.1 z,J] at h;cases h) (aj b o h)
 refine yQ ?_;refine aQ rfl ?_;refine pH (fun zs acc C'=>∃ds g:List (Str×Rk),x.works=ds++g/\zs=g.map pB/\acc=(iX A [] ds).map dQ/\C' rr=some (.dT (dZ A [] ds (mX A x.ls [] ([],[],[])).2.2))/\Gr C C') ?_ ?_ _ _ _ ⟨[],x.works,rfl,rfl,rfl,m2,au⟩
 .rintro z zs acc G ⟨ds,g,e,B,rfl,m3,O⟩
  cases g with
  |nil=>cases B
  |cons u g =>
   obtain⟨rfl,rfl⟩:=Az B;refine⟨[.str u.1,u.2.pv],rfl,rfl,fun L hL=>?_⟩;have av:ds.length < 5:=by have:=Bu List.length e;rw[AQ,AV] at this;have:=D.wl;lia
   intro t2 ab;have az:rr≠t2:=fun z=>by rw[<- z,m3] at ab;cases ab
   have E3:Env (pQ G t2 (.dK [])) aa t2 rr A [] (dZ A [] ds (mX A x.ls [] ([],[],[])).2.2):=⟨Gr.new ab _ _ _ (O _ _ Z),jQ,by rw[vQ az];exact m3,aq⟩;refine⟨u.2,aa,t2,rr,A,[],_,_,[],rfl,(D.wk u (by rw[e];exact AO _ AG)).1,E3,Y,jZ (cX U) (fun y hy=>D.wk y (by rw[e];exact Ak _ hy)) ai,fun I m4 e4=>⟨ie 2 rfl,hL _ _ ⟨?_,ds++[u],g,by rw[AX];exact e,rfl,?_,?_,?_⟩⟩⟩
   .rw [AC]
    delta iX
    rw[AC];exact AZ av (by decide)
   .delta iX
    rw[AS,AS]
    rfl
   .rw [m4]
    delta dZ
    rw[Au]
    rfl
   .intro b o h
    exact e4 b o (fun z=>by rw[AF.1 z,J] at h;cases h) (Gr.new ab _ _ _ (O b o h))
 .rintro acc G ⟨ds,g,e,B,rfl,m3,O⟩ p3 ao
  cases g with
  |cons u g=>cases B
  |nil =>
  rw[Aa] at e;subst e;refine sW jQ ?_;have g4:Gr C (pQ G p3 (.lst ((iX A [] x.works).map dQ))):=O.trans (Gr.new ao _);have m4:pQ G p3 (.lst ((iX A [] x.works).map dQ)) rr=some (.dT (oh A x)):=Gr.new ao _ _ _ m3;generalize pQ G p3 (.lst ((iX A [] x.works).map dQ))=I at g4 m4 ⊢;have M:iw (x.first.map (·.1)) (oh A x):=jZ (cX U) D.wk ai;refine zm rfl m4 ?_;refine uF (fun zs acc C'=>C'=pQ I rr (.fT (oh A x))/\∃ds g:dw,oh A x=ds++g/\zs=g.map (fun p=>sJ p.1)/\acc=(ds.map o8).map yJ) ?_ ?_ _ _ _ ⟨rfl,[],oh A x,rfl,rfl,rfl⟩
  .rintro z zs acc C5 ⟨rfl,ds,g,e,B,rfl⟩ L hL
   cases g with
   |nil=>cases B
   |cons u g =>
    obtain⟨rfl,rfl⟩:=Az B;have mu:u∈oh A x:=by rw[e];exact AO _ AG
    obtain⟨hk,hp⟩:=N5 M mu;refine Nu jQ hk (J3 M.nd mu) ?_;refine⟨ie 2 rfl,?_⟩;rw[hp];refine hL _ _ ⟨?_,rfl,ds++[u],g,by rw[AX];exact e,rfl,by rw[AS,AS];rfl⟩;rw[AC,AC];have:=M.len;have e2:=Bu List.length e;rw[AQ,AV] at e2;have:=Y.b;exact Ah (show ds.length<=1000 by lia) (by decide)
  .rintro acc C5 ⟨rfl,ds,g,e,B,rfl⟩ F ae
   cases g with
   |cons u g=>cases B
   |nil =>
   rw[Aa] at e;subst e;have ah:F≠rr:=fun z=>by subst z;rw[jQ] at ae;cases ae
   have aw:I F=none:=by rwa [vQ ah] at ae
   refine⟨by rw[vQ (Ne.symm ah)];exact jQ,?_⟩;have m6:pQ (pQ (pQ I rr (.fT (oh A x))) F (.lst (((oh A x).map o8).map yJ))) rr (.dT (oh A x)) F=some (.lst (((oh A x).map o8).map yJ)):=by rw[vQ ah];exact jQ
   have g6:Gr C (pQ (pQ (pQ I rr (.fT (oh A x))) F (.lst (((oh A x).map o8).map yJ))) rr (.dT (oh A x))):=fun b o h=>by
    have ar:b≠rr:=fun z=>by rw[z,J] at h;cases h
    have h4:=g4 b o h;have ay:b≠F:=fun z=>by rw[z,aw] at h4;cases h4
    rw[vQ ar,vQ ay,vQ ar];exact h4
   refine VA m6 (by rw[AC];have:=M.len;have:=Y.b;lia) fun p7 ax=>?_;refine sW jQ ?_;refine⟨ie 3 rfl,?_⟩
   have e:(wZ A x).pv=.tup [.tup ((xH ((oh A x).map o8)).map yJ),.tup (Wt.gj (mX A x.ls [] ([],[],[])).1),.tup ((iX A [] x.works).map dQ)]:=by
    rw[xj D A,(Ol A x).r]
    rfl
   rw[e] at q;exact q _ (g6.trans (Gr.new ax _))
end
def Wt.sp:Wt->List Key
 |.plain s _ _ _ _=>s
 |.part s _ _=>s
 |.give s _ _ _=>s
def kB:Key->Prop
 |.inl none=>True
 |.inl (some i)=>Bd i
 |.inr _=>False
def uw(sp:List Key):Prop:=∃k c,sp=[k,.inl (some c)]/\kB k/\0<=c/\c<=400
theorem uw.l(h:uw sp):sp.length<=2:=by
 obtain⟨k,c,rfl,_⟩:=h;exact AI 2
def HvB(x:lu):Prop:=x.ev.length<=8/\(0<=x.rank/\x.rank<=9)/\∀c∈x.ch,c.1.length<=8/\c.2.1.length<=8/\Bd c.2.2
def jr(rs:List Str):Nat->Wt->Prop
 |0,_=>False
 |_+1,.part sp n g=>uw sp/\n∈rs/\g.length<=4/\qz g
 |d+1,.give sp n i r=>uw sp/\(Bd i/\n.length<=8)/\(∀x∈r,jr rs d x)/\(r.map Wt.sp).Nodup
 |d+1,.plain sp B q h r=>uw sp/\(q.length<=4/\h.length<=4/\(∀x∈h,x.ch.length<=4)/\B.length<=8/\qz q/\∀x∈h,HvB x)/\(∀x∈r,jr rs d x)/\(r.map Wt.sp).Nodup
def mM(rs:List Str)(d:Nat)(r:List Wt):Prop:=(∀x∈r,jr rs d x)/\(r.map Wt.sp).Nodup
def jr.up: ∀{d}{x},jr rs d x->jr rs (d+1) x:=by
 intro d
 induction d with
 |zero=>intro x h;exact h.elim
 |succ d B =>
  intro x h
  cases x with
  |plain s t g hs r=>exact⟨h.1,h.2.1,fun y q=>B (h.2.2.1 y q),h.2.2.2⟩
  |part s n g=>exact h
  |give s n i r=>exact⟨h.1,h.2.1,fun y q=>B (h.2.2.1 y q),h.2.2.2⟩
def jr.mono(h:jr rs d x)(q:d<=e):jr rs e x:=by
 induction q with
 |refl=>exact h
 |step _ g=>exact g.up
def qp(F:List Wt)(N:jd):Prop:=(F.map Wt.sp).Nodup/\(∀x∈F,∃k c,x.sp=[k,.inl (some c)]/\c < oU N k)/\∀k,0<=oU N k/\oU N k<=F.length
def kj(rs:List Str)(e:Nat)(st:jo):Prop:=(∀x∈st.1,jr rs e x)/\qp st.1 st.2.1
def eD N k g:oU (eZ N k) g=if g=k then oU N k+1 else oU N g:=by
 show(match wV (cZ N k (.int (oU N k+1))) g with | some (.int i)=>i | _=>0)=_;rw[uL]
 by_cases e:g=k
 .simp_all
 .rw [Ac e,Ac e];rfl
def qp.add(h:qp F N)(J:x.sp=kK N k):qp (F++[x]) (eZ N k):=by
 refine⟨?_,fun y g=>?_,fun B=>?_⟩
 .rw [AS,List.nodup_append]
  refine⟨h.1,by simp,fun a M b I e=>?_⟩;have I:b=x.sp :=by grind
  obtain⟨y,g,rfl⟩:=AL.1 M;obtain⟨B,c,D,G⟩:=(h.2.1 y g);rw[I,J,D] at e;injection e with e3 L
  injection L with q
  injection q with q
  injection q with q
  lia
 .rcases Ax.1 g with g | g
  .refine rG (h.2.1 y g) fun B c D G=>⟨B,c,D,?_⟩
   rw[eD]
   split
   .lia
   .exact G
  .cases AF.1 g
   exact⟨k,oU N k,J,by rw[eD,Ab rfl];lia⟩
 .rw [eD,AQ,A3]
  have h1:=h.2.2 k;have h2:=h.2.2 B
  split<;>lia
def Xr(g:hW A τ bs ns)(h:QI bs ns d ps):qz (eW (iX A τ ps)):=fun c B=>by
 have:=Xg B;obtain⟨p,q,rfl⟩:=AL.1 this;exact⟨bY g.a g.t g.h (h p q).1,(h p q).2⟩
def Z9(g:hW A τ bs ns)(h:kT bs ns k):kB (gV A τ k):=by
 cases k with
 |none=>trivial
 |some r=>exact bY g.a g.t g.h h
theorem mS(h1:∀e,d<=e->∀l ns τ st,gw bs rs d ns l->hW A τ bs ns->kj rs e st->st.1.length+l.tw<=400->kj rs e (eX A l τ st)):∀e,d<=e->∀g ns τ st,(∀x∈g,gw bs rs d ns x)->hW A τ bs ns->kj rs e st->st.1.length+Ln.f9 g<=400->kj rs e (nQ A g τ st)
 |e,q,[],ns,τ,st,_,_,h,_=>by rwa [zJ]
 |e,q,l::g,ns,τ,st,D,B,h,G=>by
  rw[Ln.f9] at G;have:=(XC A l τ st).1;exact mS h1 e q g ns τ _ (fun x F=>D x (AJ _ F)) B (h1 e q l ns τ st (D l AG) B h (by lia)) (by lia)
theorem kj.nil: kj rs e ([],[],R):=⟨fun _ z=>(nomatch z),Bi,(fun _ z=>(nomatch z)),fun _=>⟨Int.le_refl 0,Int.le_refl 0⟩⟩
def Il(ab:∀s∈bs,s.length<=8):∀d e,d<=e->∀l ns τ st,gw bs rs d ns l->hW A τ bs ns->kj rs e st->st.1.length+l.tw<=400->kj rs e (eX A l τ st):=by
 intro d
 induction d with
 |zero=>intro e Y l ns τ st h;exact h.elim
 |succ d ih =>
  intro e Y l ns τ st h q I J;have U:∀{k},kB k->uw (kK st.2.1 k):=fun {k}N=>⟨k,_,rfl,N,(I.2.2.2 k).1,by have:=(I.2.2.2 k).2;lia⟩;have M:=mS ih
  have O:∀x k R,jr rs (d+1) x->x.sp=kK st.2.1 k->kj rs e (st.1++[x],eZ st.2.1 k,R):=by
   intro x k R F ag;refine⟨fun y B=>?_,I.2.add ag⟩
   rcases Ax.1 B with B | B
   .exact I.1 y B
   .cases AF.1 B;exact F.mono Y
  cases l with
  |plain k ai s hs G =>
   refine bH h fun h1 h2 D L S=>?_;have b:=M d (AI _) G ns τ ([],[],mZ A τ hs (dZ A τ s (zK A τ k st.2.2))) L q kj.nil (by rw[Ln.tw] at J;show 0+_<=_;lia);refine O _ _ _ ⟨U (Z9 q h1),⟨?_,?_,fun x F=>?_,S.2,Xr q h2.1,fun x F=>?_⟩,b.1,b.2.1⟩ rfl
   .rw [zI];delta iX;rw[AC];exact h2.2
   .delta tZ;rw[AC];exact D.2
   .obtain ⟨y,B,rfl⟩:=AL.1 F
    show(jP A τ y.ch).length<=4
    delta jP
    rw[AC];exact(D.1 y B).1
   .obtain ⟨y,B,rfl⟩:=AL.1 F
    have o:=D.1 y B;refine⟨o.2.2.1,o.2.2.2,fun c hc=>?_⟩;obtain⟨z,J,rfl⟩:=AL.1 hc;have o:=o.2.1 z J;exact⟨ab _ o.2.1,o.2.2,bY q.a q.t q.h o.1⟩
  |part k n g =>
   refine cT h fun h1 h2 D L=>?_;refine O _ _ _ ⟨U (Z9 q h1),h2,?_,Xr q D⟩ rfl;rw[zI]
   delta iX
   rwa [AC]
  |give k n r G =>
   refine bH h fun h1 h2 D L S=>?_;have b:=M d (AI _) G ns τ ([],[],r.gn A τ (zK A τ k st.2.2)) L q kj.nil (by rw[Ln.tw] at J;show 0+_<=_;lia);exact O _ _ _ ⟨U (Z9 q h1),⟨bY q.a q.t q.h D,(by decide +kernel:∀s∈(["a","ab","b"]:List Str),s.length<=8) n h2⟩,b.1,b.2.1⟩ rfl
  |when r l1 l2 =>
   obtain⟨h1,⟨h2,D⟩,L,S⟩:=h;rw[eX]
   split
   .exact M e (by lia) l2 ns τ _ L q I (by rw[Ln.tw] at J;lia)
   .exact M e (by lia) l1 ns τ _ h2 q I (by rw[Ln.tw] at J;lia)
  |each n r G =>
   refine lT h fun h1 h2 D=>?_
   have:∀(l:List Nat),(∀k∈l,k < 8)->∀x:jo,kj rs e x->x.1.length+l.length * Ln.f9 G<=400->kj rs e (l.foldl (fun st k=>nQ A G (cZ τ (.inr n) (.int (k:Nat))) st) x):=by
    intro l
    induction l with
    |nil=>intro _ x F _;exact F
    |cons k l ah =>
     intro N x F B;rw[AV,Nat.succ_mul] at B;have k8:=N k AG;refine ah (fun j hj=>N j (AJ _ hj)) _ (M e (by lia) G [n] _ x h2 ⟨q.a,q.t.put _ (by delta Bd;lia),fun m ae=>?_,q.b⟩ F (by lia)) (Ad (Nat.add_le_add_right ((pJ A G (cZ τ (.inr n) (.int (k:Nat))) x).1) _) (by lia));cases AF.1 ae;rw[uL,Ab rfl];rfl
   have Z:=bF (r.val A τ);refine this _ (fun k N=>?_) _ I ?_
   .grind
   .rw [A6]
    rw[Ln.tw] at J;have:=BZ (Ln.f9 G) Z
    lia
def W2(h:∀x∈g,gw bs rs d ns x)(q:hW A τ bs ns)(B:∀s∈bs,s.length<=8)(D:Ln.f9 g<=400):mM rs d (nQ A g τ ([],[],R)).1:=by
 have b:=mS (Il B d) d (AI _) g ns τ ([],[],R) h q kj.nil (by grind);exact⟨b.1,b.2.1⟩
mutual
def Wt.pc:Wt->Nat
 |.plain _ _ _ _ r=>Wt.jb r
 |.part _ _ _=>1
 |.give _ _ _ r=>Wt.jb r
def Wt.jb:List Wt->Nat
 |[]=>0
 |x::r=>x.pc+Wt.jb r
end
def Wt.j9 xs ys:Wt.jb (xs++ys)=Wt.jb xs+Wt.jb ys:=by
 induction xs with
 |nil=>show _=0+_;rw[BS];rfl
 |cons x xs g=>show x.pc+Wt.jb (xs++ys)=x.pc+Wt.jb xs+Wt.jb ys;lia
mutual
theorem Io(A:dw):∀(l:Ln)(τ:jd)(st:jo),Wt.jb (eX A l τ st).1<=Wt.jb st.1+l.pw
 |.when r D F,τ,st=>by
  rw[eX];have h1:=rY A D τ (st.1,st.2.1,r.gn A τ st.2.2);have h2:=rY A F τ (st.1,st.2.1,r.gn A τ st.2.2);show _<=_+(Ln.iT D+Ln.iT F)
  split
  .exact Ad h2 (by show Wt.jb st.1+_<=_;omega)
  .exact Ad h1 (by show Wt.jb st.1+_<=_;omega)
 |.each n r q,τ,st=>by
  rw[eX];have c:=bF (r.val A τ);have B:=iW (f:=fun st k=>nQ A q (cZ τ (.inr n) (.int (k:Nat))) st) (m:=fun st=>Wt.jb st.1) (c:=Ln.iT q) (fun x k=>rY A q _ x) (List.range (qL (r.val A τ))) (st.1,st.2.1,r.gn A τ st.2.2);rw[A6] at B;have G:qL (r.val A τ) * Ln.iT q<=8 * Ln.iT q:=BZ _ c;show _<=Wt.jb st.1+8 * Ln.iT q;exact Ad B (by show Wt.jb st.1+_<=_;omega)
 |.part k n g,τ,st=>by
  rw[eX];show Wt.jb (st.1++[_])<=_;rw[Wt.j9];exact AI _
 |.give k n r q,τ,st=>by
  rw[eX];have h:=rY A q τ ([],[],r.gn A τ (zK A τ k st.2.2));show Wt.jb (st.1++[_])<=_;rw[Wt.j9];show Wt.jb st.1+(Wt.jb _+0)<=Wt.jb st.1+Ln.iT q;have h:Wt.jb (nQ A q τ ([],[],r.gn A τ (zK A τ k st.2.2))).1<=0+Ln.iT q:=h;omega
 |.plain k I s hs q,τ,st=>by
  rw[eX];have h:=rY A q τ ([],[],mZ A τ hs (dZ A τ s (zK A τ k st.2.2)));show Wt.jb (st.1++[_])<=_;rw[Wt.j9];show Wt.jb st.1+(Wt.jb _+0)<=Wt.jb st.1+Ln.iT q;have h:Wt.jb (nQ A q τ ([],[],mZ A τ hs (dZ A τ s (zK A τ k st.2.2)))).1<=0+Ln.iT q:=h;omega
theorem rY(A:dw):∀(q:List Ln)(τ:jd)(st:jo),Wt.jb (nQ A q τ st).1<=Wt.jb st.1+Ln.iT q
 |[],τ,st=>by rw[zJ];exact BX _ _
 |l::q,τ,st=>by
  rw[hZ];have h1:=Io A l τ st;have h2:=rY A q τ (eX A l τ st);show _<=_+(l.pw+Ln.iT q);omega
end
mutual
def Wt.wc:Wt->Nat
 |.plain _ _ _ _ r=>1+Wt.jw r
 |.part _ _ _=>1
 |.give _ _ _ r=>1+Wt.jw r
def Wt.jw:List Wt->Nat
 |[]=>0
 |x::r=>x.wc+Wt.jw r
end
def Wt.mj xs ys:Wt.jw (xs++ys)=Wt.jw xs+Wt.jw ys:=by
 induction xs with
 |nil=>show _=0+_;rw[BS];rfl
 |cons x xs g=>show x.wc+Wt.jw (xs++ys)=x.wc+Wt.jw xs+Wt.jw ys;lia
mutual
theorem Ik(A:dw):∀(l:Ln)(τ:jd)(st:jo),Wt.jw (eX A l τ st).1<=Wt.jw st.1+l.tw
 |.when r D F,τ,st=>by
  rw[eX];have h1:=cW A D τ (st.1,st.2.1,r.gn A τ st.2.2);have h2:=cW A F τ (st.1,st.2.1,r.gn A τ st.2.2);show _<=_+(Ln.f9 D+Ln.f9 F)
  split
  .exact Ad h2 (by show Wt.jw st.1+_<=_;omega)
  .exact Ad h1 (by show Wt.jw st.1+_<=_;omega)
 |.each n r q,τ,st=>by
  rw[eX];have c:=bF (r.val A τ);have B:=iW (f:=fun st k=>nQ A q (cZ τ (.inr n) (.int (k:Nat))) st) (m:=fun st=>Wt.jw st.1) (c:=Ln.f9 q) (fun x k=>cW A q _ x) (List.range (qL (r.val A τ))) (st.1,st.2.1,r.gn A τ st.2.2);rw[A6] at B;have G:qL (r.val A τ) * Ln.f9 q<=8 * Ln.f9 q:=BZ _ c;show _<=Wt.jw st.1+8 * Ln.f9 q;exact Ad B (by show Wt.jw st.1+_<=_;omega)
 |.part k n g,τ,st=>by
  rw[eX];show Wt.jw (st.1++[_])<=_;rw[Wt.mj];exact AI _
 |.give k n r q,τ,st=>by
  rw[eX];have h:=cW A q τ ([],[],r.gn A τ (zK A τ k st.2.2));show Wt.jw (st.1++[_])<=_;rw[Wt.mj];show Wt.jw st.1+((1+Wt.jw _)+0)<=Wt.jw st.1+(1+Ln.f9 q);have h:Wt.jw (nQ A q τ ([],[],r.gn A τ (zK A τ k st.2.2))).1<=0+Ln.f9 q:=h;omega
 |.plain k I s hs q,τ,st=>by
  rw[eX];have h:=cW A q τ ([],[],mZ A τ hs (dZ A τ s (zK A τ k st.2.2)));show Wt.jw (st.1++[_])<=_;rw[Wt.mj];show Wt.jw st.1+((1+Wt.jw _)+0)<=Wt.jw st.1+(1+Ln.f9 q);have h:Wt.jw (nQ A q τ ([],[],mZ A τ hs (dZ A τ s (zK A τ k st.2.2)))).1<=0+Ln.f9 q:=h;omega
theorem cW(A:dw):∀(q:List Ln)(τ:jd)(st:jo),Wt.jw (nQ A q τ st).1<=Wt.jw st.1+Ln.f9 q
 |[],τ,st=>by rw[zJ];exact BX _ _
 |l::q,τ,st=>by
  rw[hZ];have h1:=Ik A l τ st;have h2:=cW A q τ (eX A l τ st);show _<=_+(l.tw+Ln.f9 q);omega
end
structure jf where
 path:iK
 name:Str
 gives:List (Str×Int)
 downs:List (Str×Int)
def kZ(p:iK):PV:=.tup (p.map sJ)
def jf.pv(x:jf):PV:=.tup [kZ x.path,.str x.name,.tup (x.gives.map dQ),.tup (x.downs.map dQ)]
mutual
def Wt.nu:Wt->iK->List (Str×Int)->List jf
 |.part sp n g,s,ds=>[⟨s++[sp],n,g,ds⟩]
 |.give sp n i r,s,ds=>Wt.dj r (s++[sp]) (oW ds [(n,i)])
 |.plain sp _ _ _ r,s,ds=>Wt.dj r (s++[sp]) ds
def Wt.dj:List Wt->iK->List (Str×Int)->List jf
 |[],_,_=>[]
 |x::r,s,ds=>x.nu s ds++Wt.dj r s ds
end
mutual
theorem vo:∀(x:Wt)(s:iK)(ds:List (Str×Int)),(x.nu s ds).length=x.pc
 |.part _ _ _,_,_=>rfl
 |.give sp n i r,s,ds=>by rw[Wt.nu,Wt.pc];exact tK r _ _
 |.plain sp _ _ _ r,s,ds=>by rw[Wt.nu,Wt.pc];exact tK r _ _
theorem tK:∀(r:List Wt)(s:iK)(ds:List (Str×Int)),(Wt.dj r s ds).length=Wt.jb r
 |[],_,_=>rfl
 |x::r,s,ds=>by rw[Wt.dj,Wt.jb,AQ,vo x,tK r]
end
def Xc xs ys s ds:Wt.dj (xs++ys) s ds=Wt.dj xs s ds++Wt.dj ys s ds:=by
 induction xs with
 |nil=>rfl
 |cons x xs g=>rw[B0,Wt.dj,Wt.dj,g,AX]
def Ey(x:Wt):∃q nX,x.pv=.tup (.str q::sJ x.sp::nX)/\(q = "plain"\/q = "part"\/q = "give"):=by
 cases x with
 |plain s t g h r=>exact⟨"plain",_,by rfl,.inl rfl⟩
 |part s n g=>exact⟨"part",_,by rfl,.inr (.inl rfl)⟩
 |give s n i r=>exact⟨"give",_,by rfl,.inr (.inr rfl)⟩
section
variable {W:Wd}{a:Adr}
inductive M9(d:Nat)(ts:List PV)(C:CH)(Q:K1):Prop
 |mk(r:List Wt)(s:iK)(ds:List (Str×Int))(rs:List Str)(z0:ts=[.tup (Wt.gj r),kZ s,.tup (ds.map dQ)])(z1:mM rs d r)(z2:s.length+d<=50)(z3:ds.length+d<=50)(z4:Wt.jb r<=1000)(z5:∀p C',C p=none->C' p=some (.lst ((Wt.dj r s ds).map jf.pv))->Gr C C'->Q (.ref p) C')
def YG(T:Tx W a)(d:Nat):Ok W a (d+2) 37 U4 (M9 d):=by
 have ai:∀n,(∀d',n=d'+1->Ok W a (n+1) 37 U4 (M9 d'))->Ok W a (n+2) 37 U4 (M9 n):=by
  intro n ih;have S:=(T.F 37 rfl).s;have tS:=(Kr T).mono (show 1<=n+1 by lia)
  have dF:Ok W a (n+1) 37 U4 (fun ts C Q=>∃d',n=d'+1/\M9 d' ts C Q):=by
   cases n with
   |zero=>exact eJ fun ts C Q zz=>sQ zz fun d' e _=> by lia
   |succ d' =>
    have:=ih d' rfl
    have e:(fun ts C Q=>∃ab,d'+1=ab+1/\M9 ab ts C Q)=M9 d':=by
     funext ts C Q
     refine propext ⟨fun zz=>sQ zz fun ab e h=> ?_,fun h=>⟨d',rfl,h⟩⟩;cases A1 e;exact h
    rw[e];exact this
  refine(T.F 37 rfl).o (fun hr=>(xQ (fj 3 S.nd (oZ zZ))
  (xQ (rV PassesOwn.never rfl (cv 0) (jn 4 S.nd) (xQ (fj 5 S.nd (hX yZ bZ (cv 1) (wQ (c7 (cx (cv 4) zQ)))))
  (xQ (iQ (ct2 lX vX (cx (cv 4) zQ) bQ) (kQ (xZ (cap (cv 3) (wQ (qQ (cv 5) (qQ (cx (cv 4) zQ) (qQ (cx (cv 4) zQ) (c7 (cv 2))))))))) rQ)
  (xQ (iQ (ct2 lX vX (cx (cv 4) zQ) bQ) (kQ (fj 3 S.nd (hX yZ bZ (cv 3) (cf (T.F 37 rfl) dF hr (qQ (cx (cv 4) zQ) (qQ (cv 5) (c7 (cf (T.F 36 rfl) tS hr (qQ (cv 2) (c7 (wQ (c7 (wQ (qQ (cx (cv 4) zQ) (c7 (cx (cv 4) zQ)))))))))))))))) rQ)
  (kQ (iQ (ct2 lX vX (cx (cv 4) zQ) bQ) (kQ (fj 3 S.nd (hX yZ bZ (cv 3) (cf (T.F 37 rfl) dF hr (qQ (cx (cv 4) zQ) (qQ (cv 5) (c7 (cv 2)))))))) rQ))))))
  (kQ (gQ (cv 3)))))) ?_
  rintro ts C R ⟨r,s,ds,rs,rfl,ao,hs,ar,aj,q⟩;refine yQ ⟨by decide,fun p G=>?_⟩;refine pZ (jM rfl (wJ (fun zs ρ C'=>∃(p:Addr)(x4 x5:Option PV)(F vs:List Wt),r=F++vs/\zs=Wt.gj vs/\ρ=[some (.tup (Wt.gj r)),some (kZ s),some (.tup (ds.map dQ)),some (.ref p),x4,x5]/\C p=none/\C' p=some (.lst ((Wt.dj F s ds).map jf.pv))/\Gr C C') ?_ ?_ _ _ _ ⟨p,_,_,[],r,rfl,rfl,rfl,G,jQ,Gr.new G _⟩))
  .rintro z zs ρ C1 ⟨p,x4,x5,F,vs,e,U,rfl,G,I,J⟩ L hL
   cases vs with
   |nil=>cases U
   |cons u vs =>
   obtain⟨rfl,rfl⟩:=Az (show z::zs=u.pv::Wt.gj vs from U);have hu:=ao.1 u (by rw[e];exact AO _ AG);have au:Wt.jb F+(u.pc+Wt.jb vs)<=1000:=by have:=aj;rw[e,Wt.j9] at this;exact this
   have ae:((Wt.dj F s ds).map jf.pv).length=Wt.jb F:=by rw[AC,tK]
   have ea:Wt.dj (F++[u]) s ds=Wt.dj F s ds++u.nu s ds:=by rw[Xc,Wt.dj,Wt.dj,Aa]
   obtain⟨wd,nX,ep,av⟩:=Ey u;refine yQ (oQ ep mC ⟨ie 1 rfl,?_⟩)
   apply lS (yW (by rw[AC];show s.length+1<=1000;lia))
   have eh:PV.tup (s.map sJ++[sJ u.sp])=kZ (s++[u.sp]):=by delta kZ;rw[AS];rfl
   rw[eh]
   cases n with
   |zero=>exact hu.elim
   |succ d' =>
   cases u with
   |part sp D g =>
    have ep:(Wt.part sp D g).pv=.tup [.str "part",sJ sp,.str D,.tup (g.map dQ)]:=by rw[Wt.pv]
    refine pZ (oQ ep cQ (zX (fQ _ _) (uZ (by decide) ?_)));refine⟨jB I,oQ ep (v:=.str D) rfl (oQ ep (v:=.tup (g.map dQ)) rfl ⟨ie 4 rfl,?_⟩)⟩
    apply fN I (by rw[ae];exact Ah (show Wt.jb F<=1000 by lia) (by decide))
    refine pZ (oQ ep cQ (zX (fQ _ _) (gX (by decide) ?_)));refine pX (oQ ep cQ (zX (fQ _ _) (gX (by decide) ?_)));refine pX (hL _ _ ⟨p,_,_,F++[.part sp D g],vs,by rw[AX];exact e,rfl,rfl,G,?_,lG J G _⟩);rw[jQ,ea,AS,Wt.nu]
    rfl
   |give sp D i B =>
    obtain⟨_,aq,o1,o2⟩:=hu;have ep:(Wt.give sp D i B).pv=.tup [.str "give",sJ sp,.str D,.int i,.tup (Wt.gj B)]:=by rw[Wt.pv]
    have ak:Wt.jb B=(Wt.give sp D i B).pc:=by rw[Wt.pc]
    refine pZ (oQ ep cQ (zX (fQ _ _) (gX (by decide) ?_)));refine pX (pZ (oQ ep cQ (zX (fQ _ _) (uZ (by decide) ?_))));refine oQ ep (v:=.tup (Wt.gj B)) rfl (oQ ep (v:=.str D) rfl (oQ ep (v:=.int i) rfl ⟨ie 2 rfl,?_⟩));refine⟨ie 1 rfl,?_⟩;refine⟨ds,[(D,i)],rfl,by show ds.length+1<=60;lia,fun C2 ag=>?_⟩;have ah:=tM ds [(D,i)];have ah:(oW ds [(D,i)]).length<=ds.length+1:=ah
    refine⟨d',rfl,B,s++[sp],oW ds [(D,i)],rs,rfl,⟨o1,o2⟩,by rw[AQ,A3];lia,by lia,by lia,fun p3 C3 n3 m3 N=>?_⟩;refine Vr (N _ _ (ag _ _ I)) m3 (yW (by rw[ae,AC,tK];lia)) fun p4 O=>?_;refine oQ ep cQ (zX (fQ _ _) (gX (by decide) ?_))
    apply pX
    have M:Gr C C3:=(J.trans ag).trans N;refine hL _ _ ⟨p4,_,_,F++[.give sp D i B],vs,by rw[AX];exact e,rfl,rfl,lK M O,?_,M.trans (Gr.new O _)⟩;rw[jQ,ea,AS,Wt.nu]
   |plain sp Z Y hs B =>
    obtain⟨_,_,o1,o2⟩:=hu;have ep:(Wt.plain sp Z Y hs B).pv=.tup [.str "plain",sJ sp,.str Z,.tup (Y.map dQ),.tup (hs.map lu.pv),.tup (Wt.gj B)]:=by rw[Wt.pv]
    have ak:Wt.jb B=(Wt.plain sp Z Y hs B).pc:=by rw[Wt.pc]
    refine pZ (oQ ep cQ (zX (fQ _ _) (gX (by decide) ?_)));refine pX (pZ (oQ ep cQ (zX (fQ _ _) (gX (by decide) ?_))));refine pX (oQ ep cQ (zX (fQ _ _) (uZ (by decide) ?_)));refine oQ ep (v:=.tup (Wt.gj B)) rfl ⟨d',rfl,B,s++[sp],ds,rs,rfl,⟨o1,o2⟩,by rw[AQ,A3];lia,by lia,by lia,fun p3 C3 n3 m3 N=>?_⟩;refine Vr (N _ _ I) m3 (yW (by rw[ae,AC,tK];lia)) fun p4 O=>?_
    have M:Gr C C3:=J.trans N;refine hL _ _ ⟨p4,_,_,F++[.plain sp Z Y hs B],vs,by rw[AX];exact e,rfl,rfl,lK M O,?_,M.trans (Gr.new O _)⟩;rw[jQ,ea,AS,Wt.nu]
  .rintro ρ C1 ⟨p,x4,x5,F,vs,e,U,rfl,G,I,J⟩
   cases vs with
   |cons u vs=>cases U
   |nil =>
   rw[Aa] at e;subst e;exact q p C1 G I J
 induction d with
 |zero=>exact ai 0 fun d' e=>by lia
 |succ d ih=>exact ai (d+1) fun d' e=>by cases A1 e;exact ih
end
def Div(p q:iK):Prop:=∃c x y g B,p=c++x::g/\q=c++y::B/\x≠y
structure UD(rs:List Str)(s:iK)(nd:Nat)(x:jf)(d:Nat):Prop where
 name:x.name∈rs
 gl:x.gives.length<=4
 gb:qz x.gives
 db:qz x.downs
 dl:x.downs.length<=nd+d
 path:∃u,x.path=s++u/\u≠[]/\u.length<=d
def Kl: ∀d r s ds,mM rs d r->qz ds->(∀x∈Wt.dj r s ds,UD rs s ds.length x d)/\(Wt.dj r s ds).Pairwise (fun x y=>Div x.path y.path):=by
 intro d
 induction d with
 |zero =>
  intro r s ds G F
  cases r with
  |nil=>exact⟨fun _ z=>(nomatch z),.nil⟩
  |cons x r=>exact(G.1 x AG).elim
 |succ d M =>
  intro r s ds G F
  have ag:∀x:Wt,jr rs (d+1) x->(∀y∈x.nu s ds,UD rs s ds.length y (d+1)/\∃u,y.path=s++x.sp::u)/\(x.nu s ds).Pairwise (fun x y=>Div x.path y.path):=by
   intro x B
   cases x with
   |part sp n g =>
    rw[Wt.nu];refine⟨fun y q=>?_,DQ _ _⟩;cases AF.1 q;exact⟨⟨B.2.1,B.2.2.1,B.2.2.2,F,by lia,[sp],rfl,by simp,by show 1<=d+1;lia⟩,[],rfl⟩
   |give sp n i L =>
    rw[Wt.nu];obtain⟨_,Z,I,J⟩:=B;have ab:qz (oW ds [(n,i)]):=F.over fun c hc=>by cases AF.1 hc;exact Z
    have ai:(oW ds [(n,i)]).length<=ds.length+1:=tM ds [(n,i)];obtain⟨h1,h2⟩:=M L (s++[sp]) (oW ds [(n,i)]) ⟨I,J⟩ ab;refine⟨fun y q=>?_,h2⟩;have o:=h1 y q;obtain⟨u,e,_,ah⟩:=o.path;have D:y.path=s++sp::u:=by rw[e,AX];rfl
    exact⟨⟨o.name,o.gl,o.gb,o.db,by have:=o.dl;lia,sp::u,D,by simp,by rw[List.length_cons];lia⟩,u,D⟩
   |plain sp ak aj hs L =>
    obtain⟨_,_,I,J⟩:=B;obtain⟨h1,h2⟩:=M L (s++[sp]) ds ⟨I,J⟩ F;refine⟨fun y q=>?_,h2⟩;have o:=h1 y q;obtain⟨u,e,_,ah⟩:=o.path;have D:y.path=s++sp::u:=by rw[e,AX];rfl
    exact⟨⟨o.name,o.gl,o.gb,o.db,by have:=o.dl;lia,sp::u,D,by simp,by rw[List.length_cons];lia⟩,u,D⟩
  have S:∀r:List Wt,(∀x∈r,jr rs (d+1) x)->(r.map Wt.sp).Nodup->(∀x∈Wt.dj r s ds,UD rs s ds.length x (d+1)/\∃y∈r,∃u,x.path=s++y.sp::u)/\(Wt.dj r s ds).Pairwise (fun x y=>Div x.path y.path):=by
   intro r
   induction r with
   |nil=>intro _ _;exact⟨fun _ z=>(nomatch z),.nil⟩
   |cons x r ae =>
    intro h nd;rw[A9,BA] at nd;obtain⟨N,O⟩:=ag x (h x AG);obtain⟨U,Y⟩:=ae (fun y q=>h y (AJ _ q)) nd.2;rw[Wt.dj];refine⟨fun y q=>?_,?_⟩
    .grind
    .rw [Dj]
     refine⟨O,Y,fun y q z hz=>?_⟩;obtain⟨_,u,e1⟩:=N y q;obtain⟨_,t,ht,v,e2⟩:=U z hz;exact⟨s,x.sp,t.sp,u,v,e1,e2,fun e=>nd.1 (e▸AL.2 ⟨t,ht,rfl⟩)⟩
  obtain⟨c1,c2⟩:=S r G.1 G.2;exact⟨fun x B=>(c1 x B).1,c2⟩
def X5 b:∀xs acc C,(∀x∈xs,∀K,K (b x) C->t (some x::I) C K)->(∀x∈xs,∀L,L x C->c (some x::I) C L)->acc.length+xs.length<=1000->(∀p,C p=none->Q (.ref p) (pQ C p (.lst (acc++xs.filter b))))->tJ t c I Q xs acc C:=by
 intro xs
 induction xs with
 |nil =>
  intro acc C _ _ _ q;rw[List.filter_nil,Aa] at q;exact xS q
 |cons x xs G =>
  intro acc C F B J q;rw[AV] at J;refine fH (F x AG _ ?_)
  cases e:b x with
  |true =>
   refine B x AG _ ⟨AZ (show acc.length < 1000 by lia) (by decide),?_⟩;refine G (acc++[x]) C (fun y g=>F y (AJ _ g)) (fun y g=>B y (AJ _ g)) (by grind) fun p D=>?_;have:=q p D;rw[List.filter_cons,e] at this
   rwa [AX]
  |false =>
   refine G acc C (fun y g=>F y (AJ _ g)) (fun y g=>B y (AJ _ g)) (by lia) fun p D=>?_;have:=q p D
   rwa [List.filter_cons,e] at this
noncomputable def isNm(g:Str):PV->Bool
 |.tup (.str s::_)=>decide (s=g)
 |_=>false
theorem pE: ∀{q}{x},(rJ q).Nodup->x∈q->x.name=g->(q.map Pt.pv).filter (isNm g)=[x.pv]
 |[],x,_,m,_=>nomatch m
 |y::q,x,nd,m,e=>by
  have nd:(y.name::rJ q).Nodup:=nd;rw[BA] at nd
  have I:∀l:List Pt,(∀z∈l,z.name≠g)->(l.map Pt.pv).filter (isNm g)=[]:=by
   intro l h;rw[List.filter_eq_nil_iff];intro z B;obtain⟨w,F,rfl⟩:=AL.1 B;show ¬ decide (w.name=g)=true;rw[AM (h w F)]
   decide
  rw[A9,List.filter_cons];have D:isNm g y.pv=decide (y.name=g):=rfl
  rcases Ai.1 m with rfl | m
  .rw [D,Af e,Ab rfl,I q fun z B G=>nd.1 (by exact e▸G▸AL.2 ⟨z,B,rfl⟩)]
  .rw [D,AM (fun z=>nd.1 (by exact z▸e▸AL.2 ⟨x,m,rfl⟩))]
   exact pE nd.2 m e
abbrev Vl:=List (iK×(Str×List (Str×Int)))
def M6(v:Str×List (Str×Int)):PV:=.tup [.str v.1,.tup (v.2.map dQ)]
def qw(V:Vl):List (iK×PV):=V.map fun e=>(e.1,M6 e.2)
def wN(V:Vl)(p:iK):Option (Str×List (Str×Int)):=(V.find? fun e=>decide (e.1=p)).map (·.2)
def yA V p:aZ (qw V) p=(wN V p).map M6:=by
 induction V with
 |nil=>rfl
 |cons e V g =>
  show aZ ((e.1,M6 e.2)::qw V) p=_;rw[qW]
  delta wN
  rw[BB]
  by_cases h:e.1=p
  .simp_all
  .rw [Ac h,AM h,g];rfl
def rX(V:Vl)(y:Pt)(p:iK):List (Str×Int):=match wN V p with
 |some v=>if v.1=y.name then v.2 else y.first
 |none=>y.first
def cJ(s:Str)(ps:List (Str×Int))(A:dw):dw:=ps.foldl (fun A c=>gm A (qK s c.1) (.int c.2)) A
def zW(L:List (Str×List (Str×Int)))(A:dw):dw:=L.foldl (fun A e=>cJ e.1 e.2 A) A
noncomputable def oF(x:jf)(g:List (Str×Int)):List (Str×List (Str×Int)):=[("take",x.gives),("down",x.downs),("box",g)]
def pV(x:jf)(g:List (Str×Int)):dw:=zW (oF x g) []
def uv(e:Str×List (Str×Int)):PV:=.tup [.str e.1,.tup (e.2.map dQ)]
structure lr(V:Vl):Prop where
 b:∀e∈V,Es e.2.2
 l:∀e∈V,e.2.2.length<=4
def V2{V}(h:wN V p=some v):∃e∈V,e.2=v:=by
 delta wN at h
 cases e:V.find? fun e=>decide (e.1=p) with
 |none=>rw[e] at h;cases h
 |some x=>rw[e] at h;cases h;exact⟨x,Bo e,rfl⟩
def uM{V}(B:lr V){cap}(g:jh rs cap y)p:Es (rX V y p)/\(rX V y p).length<=4:=by
 delta rX
 cases e:wN V p with
 |none=>exact⟨fun c q=>g.fb c q,g.fl⟩
 |some v =>
  obtain⟨x,D,rfl⟩:=V2 e;dsimp only
  split
  .exact ⟨B.b x D,B.l x D⟩
  .exact ⟨fun c q=>g.fb c q,g.fl⟩
def jy.put(h:jy A)k(hi:Bd i):jy (gm A k (.int i)):=fun q g=>by
 rcases zR g with e | e
 .grind
 .exact h q e
theorem nM: ∀{ps}{A},Es ps->jy A->jy (cJ s ps A)
 |[],A,_,h=>h
 |c::ps,A,g,h=>nM (ps:=ps) (fun x q=>g x (AJ _ q)) (h.put _ (g c AG))
def MK(h1:Es x.gives)(h2:Es x.downs)(q:Es g):jy (pV x g):=nM q (nM h2 (nM h1 fun _ z=>(nomatch z)))
def Ya[DecidableEq κ]R(k:κ)v:(gm R k v).length<=R.length+1 :=by grind[gm,List.length_map,List.length_append,List.length_singleton]
theorem uV: ∀ps A,(cJ s ps A).length<=A.length+ps.length
 |[],A=>AI _
 |c::ps,A=>by
  have h1:=uV (s:=s) ps (gm A (qK s c.1) (.int c.2));have h2:=Ya A (qK s c.1) (.int c.2);show(cJ s ps (gm A (qK s c.1) (.int c.2))).length<=_;rw[AV]
  lia
def cB:∀p,gD (kZ p)=some p:=by
 intro p;show dO (p.map sJ)=some p
 induction p with
 |nil=>rfl
 |cons k p B =>
  have q:vB (sJ k)=some k:=by
   show nD (k.map iV)=some k
   induction k with
   |nil=>rfl
   |cons a k D =>
    show(match fV (iV a),nD (k.map iV) with | some k,some g=>some (k::g) | _,_=>none)=_;rw[CL.ig,D]
  show(match vB (sJ k),dO (p.map sJ) with | some k,some g=>some (k::g) | _,_=>none)=_;rw[q,B]
def Od{kvs:List (iK×PV)}(m:C p=some (.dP kvs))(g:gD y=some k)(q:Q (.bl (aZ kvs k).isSome) C):Eb y (.ref p) C Q:=by
 delta Eb
 dsimp only
 rwa [m,g]
def Fy(m:C p=some (.dP kvs))(g:gD y=some k)(B:aZ kvs k=some v)(q:Q v C):Ea (.ref p) y C Q :=by simp_all[Ea]
section
variable {W:Wd}{a:Adr}
inductive Gs(ts:List PV)(C:CH)(Q:K1):Prop
 |mk(pts:List Pt)(x:Pt)(z0:ts=[.tup (pts.map Pt.pv),.str x.name])(z1:pts.length<=6)(z2:(rJ pts).Nodup)(z3:x∈pts)(z4:∀C',Gr C C'->Q x.pv C')
def Xk(T:Tx W a):Ok W a 1 38 U13 Gs:=by
 have S:=(T.F 38 rfl).s;refine(T.F 38 rfl).o (fun J=>(kQ (gQ (cx (zY rfl (S.c (by decide +kernel)) (S.k rfl rfl rfl (by decide +kernel)) (tU (cv 0)) (fun _ _ _ _ _=>(G6 (ct2 lX vX (cx (cv 0) zQ) (cv 2)))) (fun _ _ _ _ _=>(cv 0))) zQ)))) ?_;rintro ts C R ⟨N,x,rfl,I,nd,G,q⟩;refine X5 (isNm x.name) _ [] C (fun y g K B=>?_) (fun y g L D=>D) (by grind) fun p F=>?_
 .obtain ⟨z,M,rfl⟩:=AL.1 g
  exact aQ cQ (zX (fQ _ _) B)
 .exact (pE nd G rfl)▸cV jQ cQ (q _ (Gr.new F _))
inductive Tv(ts:List PV)(C:CH)(Q:K1):Prop
 |mk(pts:List Pt)(vv:Addr)(V:Vl)(x:jf)(y:Pt)(z0:ts=[.tup (pts.map Pt.pv),.ref vv,x.pv])(z1:pts.length<=6)(z2:(rJ pts).Nodup)(z3:y∈pts)(z4:y.name=x.name)(z5:C vv=some (.dP (qw V)))(z6:(x.gives.length<=4/\x.downs.length<=60/\(rX V y x.path).length<=4))(z7:∀aa C',C aa=none->C' aa=some (.dT (pV x (rX V y x.path)))->Gr C C'->Q (.ref aa) C')
def gR(T:Tx W a):Ok W a 2 39 U8 Tv:=by
 have S:=(T.F 39 rfl).s;have oH:=Xk T
 refine(T.F 39 rfl).ok (fun ts C R h=>?_) fun a0 A a7 s H E Z=>⟨_,(xQ (tD (cv 2) (cY rfl (xX (jn 3 S.nd) (xX (jn 4 S.nd) (xX (jn 5 S.nd) (xX (jn 6 S.nd) sV))))))
  (xQ (fj 7 S.nd (cx (cf (T.F 38 rfl) oH Z (qQ (cv 0) (c7 (cv 4)))) zQ))
  (xQ (iQ (ji (pq (Qb (Ij (zM Z)) zc (cv 3) (cv 1) rfl) (mq (ct2 lX vX (cx (G8 (zM Z) (cv 1) (cv 3) (fun _ _=>rfl)) zQ) (cv 4))))) (kQ (fj 7 S.nd (cx (G8 (zM Z) (cv 1) (cv 3) (fun _ _=>rfl)) zQ))) rQ)
  (xQ (fj 8 S.nd wC)
  (xQ (vF PassesOwn.never rfl (oZ (qQ (wQ (qQ bQ (c7 (cv 5)))) (qQ (wQ (qQ bQ (c7 (cv 6)))) (c7 (wQ (qQ bQ (c7 (cv 7)))))))) (cY rfl (xX (jn 9 S.nd) (xX (jn 10 S.nd) sV))) (kQ (rV PassesOwn.never rfl (cv 10) (cY rfl (xX (jn 11 S.nd) (xX (jn 12 S.nd) sV))) (kQ (vC (yK Z) (cv 8) (wQ (qQ (cv 9) (c7 (cv 11)))) (cv 12))))))
  (kQ (gQ (cv 8)))))))),?_⟩
 .obtain ⟨J,vv,V,x,y,rfl,_⟩:=h;rfl
 rintro ts C R ⟨J,vv,V,x,y,rfl,hl,nd,hy,hn,hv,⟨l1,l2,l3⟩,q⟩;refine pZ ⟨rfl,bX (bX (bX (bX (dY ?_))))⟩
 try dsimp only
 refine yQ ⟨J,y,by rw[hn],hl,nd,hy,fun C1 ae=>?_⟩
 apply aQ (xs:=[.str y.name,.tup (y.first.map dQ),.tup (y.works.map pB),.tup (Ln.gj y.ls)]) (v:=.tup (y.first.map dQ)) rfl
 have ak:=ae _ _ hv;refine qJ (fun ab C'=>C'=C1/\ab=[some (.tup (J.map Pt.pv)),some (.ref vv),some x.pv,some (kZ x.path),some (.str x.name),some (.tup (x.gives.map dQ)),some (.tup (x.downs.map dQ)),some (.tup ((rX V y x.path).map dQ)),none,none,none,none,none]) (fun L B=>?_) ?_
 .apply Od ak (cB _)
  rw[yA];unfold rX at B
  cases e:wN V x.path with
  |none =>
   rw[e] at B;exact gX rfl (uT rfl (pX (B _ _ ⟨rfl,rfl⟩)))
  |some v =>
   rw[e] at B;dsimp only at B;refine uZ rfl (Fy ak (cB _) (v:=M6 v) (by rw[yA,e];rfl) ?_);refine aQ (xs:=[.str v.1,.tup (v.2.map dQ)]) cQ (zX (fQ _ _) ?_)
   by_cases h:v.1=x.name
   .rw [Ab (h.trans hn.symm)] at B
    refine uZ (Af h) (Fy ak (cB _) (v:=M6 v) (by rw[yA,e];rfl) ?_);exact aQ (xs:=[.str v.1,.tup (v.2.map dQ)]) (v:=.tup (v.2.map dQ)) rfl (B _ _ ⟨rfl,rfl⟩)
   .rw [Ac (fun z=>h (z.trans hn))] at B
    exact gX (AM h) (pX (B _ _ ⟨rfl,rfl⟩))
 generalize a4:rX V y x.path=g at l3 q;rintro ab C' ⟨rfl,rfl⟩
 apply yQ
 intro aa av;have ag:C aa=none:=lK ae av;refine qJ (fun ab ao=>∃(N M D F:Option PV),ab=[some (.tup (J.map Pt.pv)),some (.ref vv),some x.pv,some (kZ x.path),some (.str x.name),some (.tup (x.gives.map dQ)),some (.tup (x.downs.map dQ)),some (.tup (g.map dQ)),some (.ref aa),N,M,D,F]/\ao aa=some (.dT (pV x g))/\Gr C ao) (fun L B=>?_) ?_
 .refine ⟨ie 2 rfl,?_⟩
  refine⟨ie 2 rfl,?_⟩;refine⟨ie 2 rfl,?_⟩;refine⟨ie 3 rfl,fun p hp=>?_⟩;have aj:p≠aa:=fun z=>by subst z;rw[jQ] at hp;cases hp
  have ax:C p=none:=by rw[vQ aj] at hp;exact lK ae hp
  refine⟨4,?_⟩
  have aw:∀i,(zW ((oF x g).take i) []).length<=100:=by
   intro i;have aq:=uV (s:="take") x.gives [];have a3:=uV (s:="down") x.downs (cJ "take" x.gives []);have f3:=uV (s:="box") g (cJ "down" x.downs (cJ "take" x.gives []));have aq:(cJ "take" x.gives []).length<=0+x.gives.length:=aq
   match i with
   |0=>exact AW _
   |1=>show(cJ "take" x.gives []).length<=100;lia
   |2=>show(cJ "down" x.downs (cJ "take" x.gives [])).length<=100;lia
   |i+3=>rw[Ck (by show 3<=i+3;lia)];show(cJ "box" g (cJ "down" x.downs (cJ "take" x.gives []))).length<=100;lia
  refine eG (xs:=(oF x g).map uv) (fun i I C'=>C' p=some (.lst ((oF x g).map uv))/\∃(N M D F:Option PV),I=[some (.tup (J.map Pt.pv)),some (.ref vv),some x.pv,some (kZ x.path),some (.str x.name),some (.tup (x.gives.map dQ)),some (.tup (x.downs.map dQ)),some (.tup (g.map dQ)),some (.ref aa),N,M,D,F]/\C' aa=some (.dT (zW ((oF x g).take i) []))/\Gr C C') (fun _ _ _ h=>h.1) ?_ ?_ _ 0 _ _ ⟨jQ,_,_,_,_,rfl,by rw[vQ (Ne.symm aj)];exact jQ,lG (lG ae ag _) ax _⟩ rfl (AW _)
  .rintro i z I C3 hx ⟨m3,N,M,D,F,rfl,ma,U⟩ L1 ar
   rw[Aj] at hx
   cases Y:(oF x g)[i]? with
   |none=>rw[Y] at hx;cases hx
   |some e =>
   rw[Y] at hx;cases hx;have hi:i < (oF x g).length:=(AU.1 Y).1
   have a5:e.2.length<=60:=by
    have ah:=Ae Y;unfold oF at ah
    simp only[List.mem_cons,List.not_mem_nil,or_false] at ah
    rcases ah with rfl | rfl | rfl
    .lia
    .exact l2
    .lia
   refine⟨rfl,bX (bX (dY (jM rfl (wJ (fun zs I C'=>∃(G vs:List (Str×Int))(D F:Option PV),e.2=G++vs/\zs=vs.map dQ/\I=[some (.tup (J.map Pt.pv)),some (.ref vv),some x.pv,some (kZ x.path),some (.str x.name),some (.tup (x.gives.map dQ)),some (.tup (x.downs.map dQ)),some (.tup (g.map dQ)),some (.ref aa),some (.str e.1),some (.tup (e.2.map dQ)),D,F]/\C' p=some (.lst ((oF x g).map uv))/\C' aa=some (.dT (cJ e.1 G (zW ((oF x g).take i) [])))/\Gr C C') ?_ ?_ _ _ _ ⟨[],e.2,_,_,rfl,rfl,rfl,m3,ma,U⟩))))⟩
   .rintro z zs I C4 ⟨G,vs,ay,az,O,hz,rfl,m4,ai,g4⟩ L2 au
    cases vs with
    |nil=>cases hz
    |cons v vs =>
    obtain⟨rfl,rfl⟩:=Az hz;refine⟨rfl,bX (bX (dY ⟨ie 2 rfl,?_⟩))⟩;have a6:G.length<=e.2.length:=by rw[O,AQ];lia
    apply gA (k:=qK e.1 v.1) ai rfl (by have:=uV (s:=e.1) G (zW ((oF x g).take i) []);have:=aw i;lia)
    refine au _ _ ⟨G++[v],vs,_,_,by rw[AX];exact O,rfl,rfl,by rw[vQ aj];exact m4,?_,lG g4 ag _⟩;rw[jQ]
    delta cJ
    rw[Au]
    rfl
   .rintro I C4 ⟨G,vs,ay,az,O,hz,rfl,m4,ai,g4⟩
    cases vs with
    |cons v vs=>cases hz
    |nil =>
    rw[Aa] at O;subst O;refine ar _ _ ⟨m4,_,_,_,_,rfl,?_,g4⟩;rw[ai];have et:(oF x g).take (i+1)=(oF x g).take i++[e]:=by rw[BK,Y];rfl
    rw[et]
    delta zW
    rw[Au]
    rfl
  .rintro I C3 ⟨m3,N,M,D,F,rfl,ma,U⟩
   exact B _ _ ⟨_,_,_,_,rfl,ma,U⟩
 rintro ab C3 ⟨N,M,D,F,rfl,ma,U⟩;exact q aa C3 ag ma U
end
structure En where
 x:jf
 pc:Pc
def En.pv(e:En):PV:=.tup [kZ e.x.path,.str e.x.name,.tup (e.x.gives.map dQ),.tup (e.x.downs.map dQ),e.pc.pv]
def mG(q:List Pt)(g:Str):Pt:=(q.find? fun y=>decide (y.name=g)).getD ⟨"",[],[],[]⟩
theorem aN: ∀{g}{y},(rJ g).Nodup->y∈g->y.name=q->mG g q=y
 |[],y,_,m,_=>nomatch m
 |z::g,y,nd,m,e=>by
  have nd:(z.name::rJ g).Nodup:=nd;rw[BA] at nd
  delta mG
  rw[BB]
  rcases Ai.1 m with rfl | m
  .grind
  .have B:¬ z.name=q:=fun h=>nd.1 (by exact h▸e▸AL.2 ⟨y,m,rfl⟩)
   exact(AM B)▸aN nd.2 m e
def nK(g:List Pt)(V:Vl)(x:jf):Pc:=wZ (pV x (rX V (mG g x.name) x.path)) (mG g x.name)
def iJ(x q:jf):jf:=⟨x.path++q.path,q.name,q.gives,oW x.downs q.downs⟩
noncomputable def dr(g:List Pt)(V:Vl):Nat->jf->List En
 |0,_=>[]
 |n+1,x=>⟨x,nK g V x⟩::(Wt.dj (nK g V x).row [] []).flatMap fun q=>dr g V n (iJ x q)
structure uB(pts:List Pt)(k:Nat)(x:jf):Prop where
 nm:(rJ pts)[k]?=some x.name
 gl:x.gives.length<=4
 gb:qz x.gives
 db:qz x.downs
 pl:x.path.length<=6 * k
 dl:x.downs.length<=6 * k
structure AtK(pts:List Pt)(V:Vl)(k:Nat)(x:jf)(y:Pt):Prop where
 mem:y∈pts
 nm:y.name=x.name
 is:mG pts x.name=y
 ok:jh ((rJ pts).drop (k+1)) (yU k) y
 ab:jy (pV x (rX V y x.path))
 row:mM ((rJ pts).drop (k+1)) 6 (nK pts V x).row
 jb:Wt.jb (nK pts V x).row<=yU k
 jw:Wt.jw (nK pts V x).row<=48
def eT(hs:sG D){V}(J:lr V)(h:uB D k x):∃y,AtK D V k x y:=by
 have q:=h.nm;unfold rJ at q;rw[Aj] at q
 cases e:D[k]? with
 |none=>rw[e] at q;cases q
 |some y =>
  rw[e] at q;have I:=Al q;have G:=Ae e;have B:=aN hs.nd G I;have g:=hs.ok k y e;have F:=MK h.gb.b h.db.b (uM J g x.path).1;refine⟨y,G,I,B,g,F,?_,?_,?_⟩
  .delta nK
   exact B▸W2 g.ls ⟨F,(fun _ z=>nomatch z),(fun _ z=>nomatch z),by rw[AC];exact g.fl⟩ g.b8 (by have:=g.tw;lia)
  .delta nK
   rw[B];have:=rY (pV x (rX V y x.path)) y.ls [] ([],[],[]);have this:Wt.jb (nQ (pV x (rX V y x.path)) y.ls [] ([],[],[])).1<=0+Ln.iT y.ls:=this;show Wt.jb (nQ (pV x (rX V y x.path)) y.ls [] ([],[],[])).1<=yU k;have:=g.pw
   lia
  .delta nK
   rw[B];have:=cW (pV x (rX V y x.path)) y.ls [] ([],[],[]);have this:Wt.jw (nQ (pV x (rX V y x.path)) y.ls [] ([],[],[])).1<=0+Ln.f9 y.ls:=this;show Wt.jw (nQ (pV x (rX V y x.path)) y.ls [] ([],[],[])).1<=48;have:=g.tw
   lia
def vM{V}(h:uB g k x)(D:AtK g V k x y)(F:q∈Wt.dj (nK g V x).row [] []):∃B,k < B/\uB g B (iJ x q)/\q.path≠[]/\q.path.length<=6/\q.downs.length<=6:=by
 have o:=(Kl 6 _ [] [] D.row (fun _ z=>nomatch z)).1 q F;obtain⟨u,e,I,G⟩:=o.path;have e:q.path=u:=e;obtain⟨j,hj,J⟩:=List.getElem_of_mem o.name;have L:q.downs.length<=0+6:=o.dl;refine⟨k+1+j,by lia,⟨?_,o.gl,o.gb,h.db.over o.db,?_,?_⟩,by rw[e];exact I,by rw[e];exact G,by lia⟩
 .have:((rJ g).drop (k+1))[j]?=some q.name :=by grind
  rwa [List.getElem?_drop] at this
 .show (x.path++q.path).length<=_
  rw[AQ,e];have:=h.pl
  lia
 .have:=tM x.downs q.downs
  have:=h.dl;show(oW x.downs q.downs).length<=_
  lia
theorem KR{α q:Type}{f:α->List q}: ∀(l:List α),(∀x∈l,(f x).length<=b)->(l.flatMap f).length<=l.length * b
 |[],_=>by simp
 |x::l,h=>by
  have h1:=KR l fun y g=>h y (AJ _ g);have h2:=h x AG;rw[B8,AQ,AV]
  lia
noncomputable def RZ(m k:Nat):Nat:=if k=0 then 559 else 2 ^ m - 1
def Mi(hs:sG g){V}(G:lr V):∀n k x,uB g k x->(dr g V n x).length<=RZ (g.length - k) k:=by
 intro n
 induction n with
 |zero=>intro k x _;exact AW _
 |succ n N =>
  intro k x h;obtain⟨y,B⟩:=eT hs G h
  have U:k < g.length:=by
   have:=(AU.1 h.nm).1;unfold rJ at this
   rwa [AC] at this
  have O:=hs.n6
  have h1:(dr g V (n+1) x).length<=1+yU k * (2 ^ (g.length - k - 1) - 1):=by
   rw[dr,AV]
   have I:=KR (f:=fun q=>dr g V n (iJ x q)) (b:=2 ^ (g.length - k - 1) - 1) (Wt.dj (nK g V x).row [] []) fun q M=>by
    obtain⟨D,S,F,_⟩:=(vM h B M);have:=N D (iJ x q) F;unfold RZ at this;rw[Ac (by lia)] at this;have L:2 ^ (g.length - D)<=2 ^ (g.length - k - 1):=Di (by decide) (by lia)
    lia
   rw[tK] at I;have:Wt.jb (nK g V x).row * (2 ^ (g.length - k - 1) - 1)<=yU k * (2 ^ (g.length - k - 1) - 1):=BZ _ B.jb
   lia
  delta RZ
  unfold yU at h1
  split
  .next J =>
   have L:2 ^ (g.length - k - 1)<=2 ^ 5:=Di (by decide) (by lia)
   lia
  .next J =>
   have e:g.length - k=(g.length - k - 1)+1:=by lia
   rw[e,Nat.pow_succ];have:1<=2 ^ (g.length - k - 1):=Nat.one_le_two_pow
   lia
def gN(hs:sG g){V}(q:lr V)(h:uB g k x):(dr g V n x).length<=559:=by
 have:=Mi hs q n k x h;unfold RZ at this
 split at this
 .exact this
 .have B:=hs.n6
  have D:2 ^ (g.length - k)<=2 ^ 6:=Di (by decide) (by lia)
  lia
section
variable {W:Wd}{a:Adr}
inductive gWi(n:Nat)(ts:List PV)(C:CH)(Q:K1):Prop
 |mk(pts:List Pt)(vv:Addr)(V:Vl)(x:jf)(k:Nat)(z0:ts=[.tup (pts.map Pt.pv),.ref vv,x.pv])(z1:sG pts)(z2:lr V)(z3:C vv=some (.dP (qw V)))(z4:uB pts k x)(z5:pts.length<=k+n)(z6:∀p C',C p=none->C' p=some (.lst ((dr pts V n x).map En.pv))->Gr C C'->Q (.ref p) C')
def VP(T:Tx W a)(n:Nat):Ok W a (n+30) 40 U8 (gWi n):=by
 induction n with
 |zero =>
  refine eJ fun ts C Q ⟨B,U,V,x,k,_,_,_,_,d,l,_⟩=>?_;have:=(AU.1 d.nm).1;unfold rJ at this;rw[AC] at this
  lia
 |succ n ih =>
 have S:=(T.F 40 rfl).s;have oH:=(Xk T).mono (show 1<=n+30 by lia);have dM:=(gR T).mono (show 2<=n+30 by lia);have cP:=(VS T).mono (show 26<=n+30 by lia);have dF:=(YG T 6).mono (show 8<=n+30 by lia);have tS:=(Kr T).mono (show 1<=n+30 by lia);have jL:=ih
 refine(T.F 40 rfl).ok (fun ts C R h=>?_) fun a4 A bg s H E J=>⟨_,(xQ (fj 3 S.nd (cf (T.F 35 rfl) cP J (qQ (cf (T.F 38 rfl) oH J (qQ (cv 0) (c7 (cx (cv 2) zQ)))) (c7 (cf (T.F 39 rfl) dM J (qQ (cv 0) (qQ (cv 1) (c7 (cv 2)))))))))
  (xQ (fj 4 S.nd (oZ (c7 (hX yZ bZ (cv 2) (wQ (c7 (cv 3)))))))
  (xQ (vF PassesOwn.never rfl (cf (T.F 37 rfl) dF J (qQ (cx (cv 3) zQ) (qQ (wQ zZ) (c7 (wQ zZ))))) (cY rfl (xX (jn 5 S.nd) (xX (jn 6 S.nd) (xX (jn 7 S.nd) (xX (jn 8 S.nd) sV))))) (kQ (fj 4 S.nd (hX yZ bZ (cv 4) (cf (T.F 40 rfl) jL J (qQ (cv 0) (qQ (cv 1) (c7 (wQ (qQ (hX yZ bZ (cx (cv 2) zQ) (cv 5)) (qQ (cv 6) (qQ (cv 7) (c7 (cf (T.F 36 rfl) tS J (qQ (cx (cv 2) zQ) (c7 (cv 8)))))))))))))))))
  (kQ (gQ (cv 4)))))),?_⟩
 .obtain ⟨B,U,V,x,k,rfl,_⟩:=h;rfl
 rintro ts C R ⟨B,U,V,x,k,rfl,hs,hV,hv,G,hn,q⟩;obtain⟨y,D⟩:=eT hs hV G
 have a9:k < B.length:=by
  have:=(AU.1 G.nm).1;unfold rJ at this;rw[AC] at this;exact this
 have hN:=hs.n6;have hx:x.pv=.tup [kZ x.path,.str x.name,.tup (x.gives.map dQ),.tup (x.downs.map dQ)]:=rfl;have hb:=uM hV D.ok x.path;refine yQ (oQ hx (v:=.str x.name) rfl ⟨B,y,by rw[D.nm],hN,hs.nd,D.mem,fun C1 ai=>?_⟩);refine⟨B,U,V,x,y,rfl,hN,hs.nd,D.mem,D.nm,ai _ _ hv,⟨G.gl,by have:=G.dl;lia,hb.2⟩,fun aa C2 bf ma ar=>?_⟩;refine⟨y,aa,_,_,_,rfl,D.ok,ma,D.ab,fun M au=>?_⟩;have ep:wZ (pV x (rX V y x.path)) y=nK B V x:=by delta nK;rw[D.is]
 rw[ep];generalize ab:nK B V x=g;have aq:=D.row;have a3:=D.jb;rw[ab] at aq a3;refine yQ ⟨ie 1 rfl,?_⟩
 apply lS (by show 4+1<=sizeLine;decide)
 refine⟨ie 1 rfl,fun I aw=>?_⟩;have ah:Gr C M:=(ai.trans ar).trans au;have ak:C I=none:=lK ah aw;have g4:Gr C (pQ M I (.lst [En.pv ⟨x,g⟩])):=lG ah ak _;have m4:pQ M I (.lst [En.pv ⟨x,g⟩]) I=some (.lst [En.pv ⟨x,g⟩]):=jQ;show JD _ _ _ _ (pQ M I (.lst [En.pv ⟨x,g⟩]));generalize pQ M I (.lst [En.pv ⟨x,g⟩])=C4 at g4 m4 ⊢;refine pZ (aQ (xs:=[.tup (g.reads.map yJ),.tup (Wt.gj g.row),.tup (g.works.map dQ)]) (v:=.tup (Wt.gj g.row)) rfl ⟨by decide,?_⟩)
 refine⟨by decide,?_⟩;have a6:yU k<=18:=by delta yU;split<;>decide
 refine⟨g.row,[],[],_,rfl,aq,by decide,by decide,by lia,fun pl C5 a0 m5 g5=>?_⟩;have bb:C pl=none:=lK g4 a0;have av:Gr C C5:=g4.trans g5;refine⟨(Wt.dj g.row [] []).length+1,?_⟩;have ag:dr B V (n+1) x=⟨x,g⟩::(Wt.dj g.row [] []).flatMap fun q=>dr B V n (iJ x q):=by rw[dr,ab]
 have ay:=gN hs hV (n:=n+1) G;refine eG (xs:=(Wt.dj g.row [] []).map jf.pv) (fun i ρ C'=>C' pl=some (.lst ((Wt.dj g.row [] []).map jf.pv))/\∃(ff:Addr)(x5 x6 x7 x8:Option PV),i<=(Wt.dj g.row [] []).length/\ρ=[some (.tup (B.map Pt.pv)),some (.ref U),some x.pv,some g.pv,some (.ref ff),x5,x6,x7,x8]/\C ff=none/\C' ff=some (.lst ((⟨x,g⟩::((Wt.dj g.row [] []).take i).flatMap fun q=>dr B V n (iJ x q)).map En.pv))/\Gr C C') (fun _ _ _ h=>h.1) ?_ ?_ _ 0 _ _ ⟨m5,I,_,_,_,_,AW _,rfl,ak,g5 _ _ m4,av⟩ (by rw[AC];lia) (AW _)
 .rintro i z ρ C6 O ⟨m6,ff,x5,x6,x7,x8,hi,rfl,ao,mf,Y⟩ L hL
  rw[Aj] at O
  cases N:(Wt.dj g.row [] [])[i]? with
  |none=>rw[N] at O;cases O
  |some F =>
  rw[N] at O;cases O;have az:F∈Wt.dj g.row [] []:=Ae N;have ax:i < (Wt.dj g.row [] []).length:=(AU.1 N).1;obtain⟨k',a8,dq,pn,bh,a5⟩:=vM G D (q:=F) (by rw[ab];exact az);refine⟨rfl,bX (bX (bX (bX (dY (oQ hx (v:=kZ x.path) rfl ?_)))))⟩;have bc:=G.pl;have a7:=G.dl
  apply lS (yW (by rw[AC,AC];lia))
  refine oQ hx (v:=.tup (x.downs.map dQ)) rfl ⟨x.downs,F.downs,rfl,by lia,fun C7 Z=>⟨ie 4 rfl,?_⟩⟩
  have ec:PV.tup [PV.tup (x.path.map sJ++F.path.map sJ),.str F.name,.tup (F.gives.map dQ),.tup ((oW x.downs F.downs).map dQ)]=(iJ x F).pv:=by
   delta iJ jf.pv kZ
   rw[AS]
  rw[ec];refine⟨B,U,V,iJ x F,k',rfl,hs,hV,Z _ _ (Y _ _ hv),dq,by lia,fun p8 C8 n8 m8 g8=>?_⟩;have et:(Wt.dj g.row [] []).take (i+1)=(Wt.dj g.row [] []).take i++[F]:=by rw[BK,N];rfl
  have en:(⟨x,g⟩::((Wt.dj g.row [] []).take (i+1)).flatMap fun q=>dr B V n (iJ x q)).map En.pv=(⟨x,g⟩::((Wt.dj g.row [] []).take i).flatMap fun q=>dr B V n (iJ x q)).map En.pv++(dr B V n (iJ x F)).map En.pv:=by
   rw[et,List.flatMap_append,B8,List.flatMap_nil,Aa,<- AS]
   rfl
  have ba:((⟨x,g⟩::((Wt.dj g.row [] []).take (i+1)).flatMap fun q=>dr B V n (iJ x q)):List En).length<=559:=by
   refine Ad ?_ ay;rw[ag,AV,AV]
   have:((Wt.dj g.row [] []).flatMap fun q=>dr B V n (iJ x q))=(((Wt.dj g.row [] []).take (i+1)).flatMap fun q=>dr B V n (iJ x q))++((Wt.dj g.row [] []).drop (i+1)).flatMap fun q=>dr B V n (iJ x q):=by
    rw[<- List.flatMap_append,List.take_append_drop]
   rw[this,AQ]
   lia
  refine Vr (g8 _ _ (Z _ _ mf)) m8 (yW ?_) fun p9 ae=>?_
  .rw [<- AQ,<- en,AC];lia
  have aj:Gr C C8:=(Y.trans Z).trans g8;refine hL _ _ ⟨Gr.new ae _ _ _ (g8 _ _ (Z _ _ m6)),p9,_,_,_,_,ax,rfl,lK aj ae,by rw[jQ,en],aj.trans (Gr.new ae _)⟩
 .rintro ρ C6 ⟨m6,ff,x5,x6,x7,x8,hi,rfl,ao,mf,Y⟩
  refine q ff C6 ao ?_ Y;rw[mf,ag,AC,Ck (AI _)]
end
def Mh(hs:sG B){V}(G:lr V):∀n k x,uB B k x->∀e∈dr B V n x,∃D,uB B D e.x/\e.pc=nK B V e.x:=by
 intro n
 induction n with
 |zero=>intro k x _ e g;exact nomatch g
 |succ n L =>
  intro k x h e g
  rcases Ai.1 g with rfl | g
  .grind
  .obtain ⟨q,J,g⟩:=(List.mem_flatMap.1 g)
   obtain⟨y,I⟩:=eT hs G h;exact jJ (vM h I J) fun D _ F _=>L D _ F e g
def oA(es:List En):List iK:=es.map fun e=>e.x.path
noncomputable def VC(g:List Pt):jf:=⟨[],(g.head?.map (·.name)).getD "",[],[]⟩
def qV(hs:sG g):uB g 0 (VC g):=by
 have:=hs.n1
 cases g with
 |nil=>exact absurd this (by grind)
 |cons y g=>exact⟨rfl,AW _,(fun _ z=>nomatch z),(fun _ z=>nomatch z),AW _,AW _⟩
def qZ(g:List Pt)(V:Vl):List En:=dr g V 6 (VC g)
section
variable {W:Wd}{a:Adr}
inductive Gx(ts:List PV)(C:CH)(Q:K1):Prop
 |mk(pts:List Pt)(vv:Addr)(V:Vl)(z0:ts=[.tup (pts.map Pt.pv),.ref vv])(z1:sG pts)(z2:lr V)(z3:C vv=some (.dP (qw V)))(z4:∀p C',C p=none->C' p=some (.lst ((qZ pts V).map En.pv))->Gr C C'->Q (.ref p) C')
def YK(T:Tx W a):Ok W a 37 41 U12 Gx:=by
 have I:=VP T 6;refine(T.F 41 rfl).o (fun F=>(kQ (gQ (cf (T.F 40 rfl) I F (qQ (cv 0) (qQ (cv 1) (c7 (wQ (qQ (wQ zZ) (qQ (cx (cx (cv 0) zQ) zQ) (qQ (wQ zZ) (c7 (wQ zZ))))))))))))) ?_;rintro ts C R ⟨B,M,V,rfl,hs,D,G,q⟩;have N:=hs.n6
 cases B with
 |nil=>exact absurd hs.n1 (by grind)
 |cons y B =>
 refine⟨by decide,?_⟩;refine aQ cQ (aQ cQ ⟨by decide,?_⟩);refine⟨by decide,?_⟩;refine⟨ie 4 rfl,?_⟩;exact⟨y::B,M,V,VC (y::B),0,rfl,hs,D,G,(qV hs),by omega,fun p C' L J g=>q p C' L J g⟩
end
def Nr(m:C p=some (.dK (cs.map jz)))(h:cs.length+g.length<=1000)(q:Q .non (pQ C p (.dK ((fJ cs g).map jz)))):Ve (.ref p) [.tup (g.map dQ)] C Q:=by
 delta Ve
 show(match C p,tW (g.map dQ) with | some (.dK kvs),some ps=>kvs.length+ps.length<=sizeLine/\Q .non (pQ C p (.dK (pG kvs ps))) | _,_=>False);rw[m,aA];dsimp only;rw[Kz,AC,AC];exact⟨Ad h (by decide),q⟩
def Vy(m:C p=some (.dK (cs.map jz)))(h:cs.length < 64)(q:∀g,C g=none->Q (.ref g) (pQ C g (.lst ((eW cs).map dQ)))):fF [.vw p] C Q :=by simp_all[fF,NQ]
def yg(B:g[i]?=some (some (.ref p)))(m:C p=some (.dK kvs))(q:Q (.vw p) C):Qv (jK i) g C Q :=by simp_all[Qv,jK]
section
variable {W:Wd}{a:Adr}
def lL(T:Tx W a):Ok W a 1 16 ["downs","nearer"] Gq:=by
 refine(T.F 16 rfl).o (fun L=>(xQ (fj 2 ((T.F 16 rfl).s).nd (lJ (uS rfl) Zb rfl T.rP rfl (c7 (cv 0))))
  (xQ (xZ (Mv Bx PySem.F.slot_dict_update PySem.F.type_dict_update (w5 rfl) zr (cv 2) (c7 (cv 1))))
  (kQ (gQ (qb T.fZ (lQ (jY rfl) eU rfl T.tG rfl (c7 (Ua (cv 2)))))))))) ?_
 rintro ts C R ⟨ds,g,rfl,G,q⟩;have I:=Ad (xW ds []) (by show 0+ds.length<=ds.length;lia);have J:=xW g (fJ [] ds);refine GP (by lia) fun p B=>?_;refine⟨Jf jQ,Nr jQ (by lia) ?_⟩;refine yg rfl jQ (Vy jQ (by lia) fun p2 F=>?_);refine sW jQ (q _ ?_);have D:=lG (show Gr C (pQ C p (.dK ((fJ [] ds).map jz))) from Gr.new B _) B (.dK ((fJ (fJ [] ds) g).map jz));exact D.trans (Gr.new F _)
inductive Nb(d:Nat)(ts:List PV)(C:CH)(Q:K1):Prop
 |mk(r:List Wt)(s:iK)(ds:List (Str×Int))(rs:List Str)(t:Addr)(acc:List PV)(z0:ts=[.tup (Wt.gj r),kZ s,.tup (ds.map dQ),.ref t])(z1:mM rs d r)(z2:s.length+d<=50)(z3:ds.length+d<=50)(z4:acc.length+Wt.jb r<=1000)(z5:C t=some (.lst acc))(z6:∀C',C' t=some (.lst (acc++(Wt.dj r s ds).map jf.pv))->fu [t] C C'->Q .non C')
def VU(T:Tx W a)(d:Nat):Ok W a (d+2) 15 ["row","spots","downs","told"] (Nb d):=by
 have ah:∀n,(∀d',n=d'+1->Ok W a (n+1) 15 ["row","spots","downs","told"] (Nb d'))->Ok W a (n+2) 15 ["row","spots","downs","told"] (Nb n):=by
  intro n ih;have S:=(T.F 15 rfl).s;have fM:=(lL T).mono (show 1<=n+1 by lia)
  have pP:Ok W a (n+1) 15 ["row","spots","downs","told"] (fun ts C Q=>∃d',n=d'+1/\Nb d' ts C Q):=by
   cases n with
   |zero=>exact eJ fun ts C Q zz=>sQ zz fun d' e _=> by lia
   |succ d' =>
    have:=ih d' rfl
    have e:(fun ts C Q=>∃U,d'+1=U+1/\Nb U ts C Q)=Nb d':=by
     funext ts C Q
     refine propext ⟨fun zz=>sQ zz fun U e h=> ?_,fun h=>⟨d',rfl,h⟩⟩;cases A1 e;exact h
    rw[e];exact this
  refine(T.F 15 rfl).o (fun hr=>(kQ (rV PassesOwn.never rfl (cv 0) (jn 4 S.nd) (xQ (fj 5 S.nd (hX yZ bZ (cv 1) (wQ (c7 (cx (cv 4) zQ)))))
  (kQ (iQ (ct2 lX vX (cx (cv 4) zQ) bQ) (kQ (xZ (cap (cv 3) (wQ (qQ (cv 5) (qQ (cx (cv 4) zQ) (qQ (cx (cv 4) zQ) (c7 (cv 2))))))))) (kQ (iQ (ct2 lX vX (cx (cv 4) zQ) bQ) (kQ (xZ (cf (T.F 15 rfl) pP hr (qQ (cx (cv 4) zQ) (qQ (cv 5) (qQ (cf (T.F 16 rfl) fM hr (qQ (cv 2) (c7 (wQ (c7 (wQ (qQ (cx (cv 4) zQ) (c7 (cx (cv 4) zQ))))))))) (c7 (cv 3)))))))) (kQ (xZ (cf (T.F 15 rfl) pP hr (qQ (cx (cv 4) zQ) (qQ (cv 5) (qQ (cv 2) (c7 (cv 3)))))))))))))))) ?_
  rintro ts C R ⟨r,s,ds,rs,t,acc,rfl,aq,hs,au,aj,ao,q⟩;refine jM rfl (wJ (fun zs ρ C'=>∃(x4 x5:Option PV)(F vs:List Wt),r=F++vs/\zs=Wt.gj vs/\ρ=[some (.tup (Wt.gj r)),some (kZ s),some (.tup (ds.map dQ)),some (.ref t),x4,x5]/\C' t=some (.lst (acc++(Wt.dj F s ds).map jf.pv))/\fu [t] C C') ?_ ?_ _ _ _ ⟨_,_,[],r,rfl,rfl,rfl,by show C t=some (.lst (acc++[]));rw[Aa];exact ao,fu.refl⟩)
  .rintro z zs ρ C1 ⟨x4,x5,F,vs,e,M,rfl,G,I⟩ L hL
   cases vs with
   |nil=>cases M
   |cons u vs =>
   obtain⟨rfl,rfl⟩:=Az (show z::zs=u.pv::Wt.gj vs from M);have hu:=aq.1 u (by rw[e];exact AO _ AG);have av:acc.length+(Wt.jb F+(u.pc+Wt.jb vs))<=1000:=by have:=aj;rw[e,Wt.j9] at this;exact this
   have ab:(acc++(Wt.dj F s ds).map jf.pv).length=acc.length+Wt.jb F:=by rw[AQ,AC,tK]
   have Y:Wt.dj (F++[u]) s ds=Wt.dj F s ds++u.nu s ds:=by rw[Xc,Wt.dj,Wt.dj,Aa]
   obtain⟨wd,nX,ep,aw⟩:=Ey u;refine yQ (oQ ep mC ⟨ie 1 rfl,?_⟩)
   apply lS (yW (by rw[AC];show s.length+1<=1000;lia))
   have eh:PV.tup (s.map sJ++[sJ u.sp])=kZ (s++[u.sp]):=by delta kZ;rw[AS];rfl
   rw[eh]
   cases n with
   |zero=>exact hu.elim
   |succ d' =>
   cases u with
   |part sp D g =>
    have ep:(Wt.part sp D g).pv=.tup [.str "part",sJ sp,.str D,.tup (g.map dQ)]:=by rw[Wt.pv]
    refine oQ ep cQ (zX (fQ _ _) (uZ (by decide) ?_));refine⟨jB G,oQ ep (v:=.str D) rfl (oQ ep (v:=.tup (g.map dQ)) rfl ⟨ie 4 rfl,?_⟩)⟩
    apply fN G (by rw[ab];exact Ah (show acc.length+Wt.jb F<=1000 by lia) (by decide))
    refine hL _ _ ⟨_,_,F++[.part sp D g],vs,by rw[AX];exact e,rfl,rfl,?_,I.at (by simp) _⟩;rw[jQ,Y,AS,Wt.nu,AX]
    rfl
   |give sp D i B =>
    obtain⟨_,ar,o1,o2⟩:=hu;have ep:(Wt.give sp D i B).pv=.tup [.str "give",sJ sp,.str D,.int i,.tup (Wt.gj B)]:=by rw[Wt.pv]
    have ak:Wt.jb B=(Wt.give sp D i B).pc:=by rw[Wt.pc]
    refine oQ ep cQ (zX (fQ _ _) (gX (by decide) ?_));refine oQ ep cQ (zX (fQ _ _) (uZ (by decide) ?_));refine oQ ep (v:=.tup (Wt.gj B)) rfl (oQ ep (v:=.str D) rfl (oQ ep (v:=.int i) rfl ⟨ie 2 rfl,?_⟩));refine⟨ie 1 rfl,?_⟩;refine⟨ds,[(D,i)],rfl,by show ds.length+1<=60;lia,fun C2 ae=>?_⟩;have ag:=tM ds [(D,i)];have ag:(oW ds [(D,i)]).length<=ds.length+1:=ag
    refine⟨d',rfl,B,s++[sp],oW ds [(D,i)],rs,t,_,rfl,⟨o1,o2⟩,by rw[AQ,A3];lia,by lia,by rw[ab];lia,ae _ _ G,fun C3 m3 Z=>?_⟩;refine hL _ _ ⟨_,_,F++[.give sp D i B],vs,by rw[AX];exact e,rfl,rfl,?_,fun b o ai hb=>Z b o ai (ae _ _ (I b o ai hb))⟩;rw[m3,Y,AS,Wt.nu,AX]
   |plain sp O N J B =>
    obtain⟨_,_,o1,o2⟩:=hu;have ep:(Wt.plain sp O N J B).pv=.tup [.str "plain",sJ sp,.str O,.tup (N.map dQ),.tup (J.map lu.pv),.tup (Wt.gj B)]:=by rw[Wt.pv]
    have ak:Wt.jb B=(Wt.plain sp O N J B).pc:=by rw[Wt.pc]
    refine oQ ep cQ (zX (fQ _ _) (gX (by decide) ?_));refine oQ ep cQ (zX (fQ _ _) (gX (by decide) ?_));refine oQ ep (v:=.tup (Wt.gj B)) rfl ⟨d',rfl,B,s++[sp],ds,rs,t,_,rfl,⟨o1,o2⟩,by rw[AQ,A3];lia,by lia,by rw[ab];lia,G,fun C3 m3 Z=>?_⟩;refine hL _ _ ⟨_,_,F++[.plain sp O N J B],vs,by rw[AX];exact e,rfl,rfl,?_,I.trans Z⟩
    rw[m3,Y,AS,Wt.nu,AX]
  .rintro ρ C1 ⟨x4,x5,F,vs,e,M,rfl,G,I⟩
   cases vs with
   |cons u vs=>cases M
   |nil =>
   rw[Aa] at e;subst e;exact q C1 G I
 induction d with
 |zero=>exact ah 0 fun d' e=>by lia
 |succ d ih=>exact ah (d+1) fun d' e=>by cases A1 e;exact ih
inductive gPi(ts:List PV)(C:CH)(Q:K1):Prop
 |mk(r:List Wt)(rs:List Str)(z0:ts=[.tup (Wt.gj r)])(z1:mM rs 6 r)(z2:Wt.jb r<=1000)(z3:∀p C',C p=none->C' p=some (.lst ((Wt.dj r [] []).map jf.pv))->Gr C C'->Q (.ref p) C')
def Xj(T:Tx W a):Ok W a 9 14 ["row"] gPi:=by
 have L:=VU T 6
 refine(T.F 14 rfl).o (fun G=>(xQ (fj 1 ((T.F 14 rfl).s).nd (oZ zZ))
  (xQ (xZ (cf (T.F 15 rfl) L G (qQ (cv 0) (qQ (wQ zZ) (qQ (wQ zZ) (c7 (cv 1)))))))
  (kQ (gQ (cv 1)))))) ?_
 rintro ts C R ⟨r,rs,rfl,J,M,q⟩;refine yQ ⟨by decide,fun t D=>?_⟩;refine pZ ⟨by decide,?_⟩;refine⟨by decide,?_⟩;refine⟨r,[],[],rs,t,[],rfl,J,by decide,by decide,by show 0+_<=1000;lia,jQ,fun C2 I F=>?_⟩;refine q t C2 D I fun b o g=>?_;have B:b≠t:=fun z=>by rw[z,D] at g;cases g
 exact F b o (fun z=>B (AF.1 z)) (by rwa [vQ B])
inductive Tr(ts:List PV)(C:CH)(Q:K1):Prop
 |mk(e:En)(rs:List Str)(z0:ts=[e.pv])(z1:mM rs 6 e.pc.row)(z2:Wt.jb e.pc.row<=50)(z3:e.x.path.length<=40)(z4:e.x.downs.length<=40)(z5:∀p C',C p=none->C' p=some (.lst (((Wt.dj e.pc.row [] []).map (iJ e.x)).map jf.pv))->Gr C C'->Q (.ref p) C')
def Xp(T:Tx W a):Ok W a 10 17 ["entry"] Tr:=by
 have S:=(T.F 17 rfl).s;have JU:=Xj T;have fM:=(lL T).mono (show 1<=9 by decide);refine(T.F 17 rfl).o (fun N=>(kQ (gQ (Ue rfl (S.c (by decide +kernel)) (S.k rfl rfl rfl (by decide +kernel)) (cf (T.F 14 rfl) JU N (c7 (cx (cx (cv 0) zQ) zQ))) (fun _ _ _ _ _=>oV) (fun _ _ _ _ _=>(wQ (qQ (hX yZ bZ (cx (cv 1) zQ) (cx (cv 0) zQ)) (qQ (cx (cv 0) zQ) (qQ (cx (cv 0) zQ) (c7 (cf (T.F 16 rfl) fM N (qQ (cx (cv 1) zQ) (c7 (cx (cv 0) zQ)))))))))))))) ?_
 rintro ts C R ⟨e,rs,rfl,Z,ai,aj,ag,q⟩;have I:e.pv=.tup [kZ e.x.path,.str e.x.name,.tup (e.x.gives.map dQ),.tup (e.x.downs.map dQ),e.pc.pv]:=rfl
 delta JL
 refine oQ I rfl (oQ rfl rfl ⟨e.pc.row,rs,rfl,Z,by lia,fun p C1 n1 U ab=>?_⟩);dsimp only;rw[U];refine Wn (fun zs acc C'=>∃ds g:List jf,Wt.dj e.pc.row [] []=ds++g/\zs=g.map jf.pv/\acc=(ds.map (iJ e.x)).map jf.pv/\C' p=some (.lst ((Wt.dj e.pc.row [] []).map jf.pv))/\Gr C C') (fun _ _ _ h=>let ⟨_,_,_,_,_,h,_⟩:=h;h) ?_ ?_ _ _ _ ⟨[],_,rfl,rfl,rfl,U,ab⟩
 .rintro z zs acc C2 ⟨ds,g,B,F,rfl,Y,D⟩ L hL
  cases g with
  |nil=>cases F
  |cons u g =>
  obtain⟨rfl,rfl⟩:=Az F;have O:=(Kl 6 _ [] [] Z (fun _ z=>nomatch z)).1 u (B▸AO _ AG);refine jJ O.path fun v G _ ak=>?_;have G:u.path=v:=G;have ah:u.downs.length<=0+6:=O.dl
  have ae:ds.length<=50:=by
   have:=Bu List.length B;rw[tK,AQ] at this
   lia
  refine oQ I rfl (aQ rfl (lS (yW (by rw[AC,AC,G];lia)) ?_));refine aQ rfl (aQ rfl (oQ I rfl (aQ rfl ⟨e.x.downs,u.downs,rfl,by lia,fun C3 J=>⟨ie 4 rfl,?_⟩⟩)))
  have ec:PV.tup [PV.tup (e.x.path.map sJ++u.path.map sJ),.str u.name,.tup (u.gives.map dQ),.tup ((oW e.x.downs u.downs).map dQ)]=(iJ e.x u).pv:=by
   delta iJ jf.pv kZ
   rw[AS]
  rw[ec];refine hL _ _ ⟨?_,ds++[u],g,by rw[AX];exact B,rfl,by rw[AS,AS];rfl,J _ _ Y,D.trans J⟩;rw[AC,AC];exact Ah ae (by decide)
 .rintro acc C2 ⟨ds,g,B,F,rfl,Y,D⟩ p2 M
  cases g with
  |cons u g=>cases F
  |nil =>
  rw[Aa] at B;refine q p2 _ (lK D M) (by rw[jQ,B]) (D.trans (Gr.new M _))
end
abbrev Hn:=List (jf×Nat)
def aV(g:List Pt)(V:Vl)(st:Hn):List En:=st.flatMap fun p=>dr g V p.2 p.1
def pN(g:List Pt)(st:Hn):Prop:=∀p∈st,∃k,uB g k p.1/\g.length<=k+p.2
def xJ(st:Hn):List PV:=(st.map fun p=>p.1.pv).reverse
def GK{V:Vl}(h:∃k,uB g k x/\g.length<=k+n):∃m,n=m+1:=by
 obtain⟨k,d,l⟩:=h;have:=(AU.1 d.nm).1;unfold rJ at this;rw[AC] at this;exact⟨n - 1,by lia⟩
theorem tN{V}:∀{st},pN F st->st.length<=(aV F V st).length
 |[],_=>AW _
 |p::st,h=>by
  have D:=tN (V:=V) fun q B=>h q (AJ _ B);obtain⟨m,g⟩:=GK (V:=V) (h p AG);unfold aV at D ⊢;rw[B8,AQ,AV,g,dr,AV]
  lia
def u5{V}(h:pN g st)(e:aV g V st=[]):st=[]:=by
 have:=tN (V:=V) h;rw[e] at this;exact DR.1 (Nat.le_zero.1 this)
def V6(g:List Pt)(V:Vl)(x:jf):List jf:=(Wt.dj (nK g V x).row [] []).map (iJ x)
def iC(hs:sG g){V}(J:lr V)(h:pN g st)(B:aV g V st=e::r):
  ∃(x:jf)(n:Nat)(st':Hn),st=(x,n+1)::st'/\e=⟨x,nK g V x⟩/\(∃k y,uB g k x/\AtK g V k x y)/\r=aV g V ((V6 g V x).map (fun y=>(y,n))++st')/\pN g ((V6 g V x).map (fun y=>(y,n))++st'):=by
 cases st with
 |nil=>cases B
 |cons p st =>
  obtain⟨x,m⟩:=p;obtain⟨n,rfl⟩:=GK (V:=V) (h (x,m) AG);obtain⟨k,F,O⟩:=(h (x,n+1) AG);obtain⟨y,G⟩:=eT hs J F
  delta aV at B
  rw[B8] at B;rw[dr,B0] at B;injection B with h1 h2
  refine⟨x,n,st,rfl,h1.symm,⟨k,y,F,G⟩,?_,?_⟩
  .delta aV
   rw[List.flatMap_append,<- h2,List.flatMap_map]
   delta V6
   rw[List.flatMap_map]
  .intro q D
   rcases Ax.1 D with D | D
   .obtain ⟨z,M,rfl⟩:=AL.1 D
    obtain⟨u,L,rfl⟩:=AL.1 M;exact jJ (vM F G L) fun N S I _=>⟨N,I,by lia⟩
   .exact h q (AJ _ D)
def wH p(st:Hn):xJ (p::st)=xJ st++[p.1.pv] :=by simp_all[xJ,List.map_cons,List.reverse_cons]
def qE(g:List jf)(n:Nat)st:xJ (g.map (fun y=>(y,n))++st)=xJ st++(g.map jf.pv).reverse :=by simp_all[xJ,List.map_append,List.reverse_append,List.map_map]
def XB st:(xJ st).length=st.length :=by grind[xJ,List.length_reverse,List.length_map]
def Y1(g:C p=some (.lst xs))(B:C r=some (.lst ys))(h:xs.length+ys.length<=sizeLine)(q:Q .non (pQ C p (.lst (xs++ys)))):gC (.ref p) [.ref r] C Q:=by
 delta gC
 dsimp only;exact g▸B▸⟨h,q⟩
section
variable {W:Wd}{a:Adr}
structure Wk(a:Adr)(C:CH)(x ll:Addr)(xs:List PV):Prop where
 ins:∃dx,C x=some (.ins a.Walk dx [("lacking",.ref ll)])
 lst:C ll=some (.lst xs)
def Wk.ne(h:Wk a C x g xs):x≠g:=fun z=>by
 obtain⟨dx,e⟩:=h.ins;rw[z,h.lst] at e;cases e
inductive Gn(a:Adr)(ts:List PV)(C:CH)(Q:K1):Prop
 |mk(x dx:Addr)(pts:List Pt)(z0:ts=[.ref x,.tup (pts.map Pt.pv)])(z1:1<=pts.length)(z2:C x=some (.ins a.Walk dx []))(z3:∀C' ll,C ll=none->Wk a C' x ll [(VC pts).pv]->fu [x] C C'->Q .non C')
def Xi(T:Tx W a):Ok W a 1 59 ["self","house"] (Gn a):=by
 refine(T.F 59 rfl).o (fun J=>(kQ (Js T.nV T.uK (cv 0) (oZ (c7 (wQ (qQ (wQ zZ) (qQ (cx (cx (cv 1) zQ) zQ) (qQ (wQ zZ) (c7 (wQ zZ))))))))))) ?_;rintro ts C R ⟨x,dx,F,rfl,G,I,q⟩
 cases F with
 |nil=>exact absurd G (by grind)
 |cons y F =>
 refine⟨by decide,?_⟩;refine aQ cQ (aQ cQ ⟨by decide,?_⟩);refine⟨by decide,?_⟩;refine⟨ie 4 rfl,?_⟩;refine⟨ie 1 rfl,fun B g=>?_⟩;have D:B≠x:=fun z=>by rw[z,I] at g;cases g
 apply ZJ (by rwa [vQ (Ne.symm D)]) (by decide)
 refine q _ B g ⟨⟨dx,?_⟩,?_⟩ ?_
 .rw [jQ]
  rfl
 .exact (vQ D)▸jQ
 .exact (fu.refl.put g _).at AG _
inductive Tn(a:Adr)(ts:List PV)(C:CH)(Q:K1):Prop
 |mk(x ll:Addr)(xs:List PV)(z0:ts=[.ref x])(z1:Wk a C x ll xs)(z2:Q ((xs[xs.length - 1]?).getD .non) C)
def Uy{y:PV}:atI (xs++[y]) (-1)=some y:=by
 delta atI ixN
 rw[Ac (by decide),AQ,A3,Ab (by lia)];have:(-1+((xs.length+1:Nat):Int)).toNat=xs.length:=by lia
 first
 |rw[this]
 | (rw[ this])
 simp
def YL(T:Tx W a):Ok W a 1 60 ["self"] (Tn a):=by
 refine(T.F 60 rfl).o (fun J=>(kQ (gQ (bN (GT (iD T.nV T.uK (cv 0))) (cx (iD T.nV T.uK (cv 0)) (rE nP kF zQ)) sZ)))) ?_;rintro ts C R ⟨x,F,xs,rfl,g,q⟩;obtain⟨dx,B⟩:=g.ins;refine Ez ?_ ?_
 .refine tR B rfl ⟨F,xs,rfl,g.lst,?_⟩
  rcases List.eq_nil_or_concat xs with rfl | ⟨ys,y,rfl⟩
  .exact q
  .have e:(!(ys.concat y).isEmpty)=true:=by simp
   rw[e];refine tR B rfl (cV g.lst (List.concat_eq_append▸Uy) ?_);have D:((ys.concat y)[(ys.concat y).length - 1]?).getD .non=y:=by simp
   rwa [D] at q
 .intro G I h q
  exact lC _ _ (fun v C1 q=>XS _ _ h q) q
inductive Pa(a:Adr)(ts:List PV)(C:CH)(Q:K1):Prop
 |mk(x ll:Addr)(xs:List PV)(y:PV)(e:En)(rs:List Str)(z0:ts=[.ref x,e.pv])(z1:Wk a C x ll (xs++[y]))(z2:xs.length<=900)(z3:mM rs 6 e.pc.row)(z4:Wt.jb e.pc.row<=50)(z5:e.x.path.length<=40)(z6:e.x.downs.length<=40)(z7:∀C',Wk a C' x ll (xs++(((Wt.dj e.pc.row [] []).map (iJ e.x)).map jf.pv).reverse)->fu [ll] C C'->Q .non C')
def Kq(T:Tx W a):Ok W a 11 61 ["self","entry"] (Pa a):=by
 have M:=Xp T
 refine(T.F 61 rfl).o (fun Z=>(xQ (xZ (Uj Bw PySem.F.slot_list_pop PySem.F.type_list_pop YU K9 (iD T.nV T.uK (cv 0))))
  (kQ (xZ (Uk Bw PySem.F.slot_list_extend PySem.F.type_list_extend (fun p s σ H x vs v ae Q=>oO p s σ H x vs v ae Q) vS (iD T.nV T.uK (cv 0)) (c7 (Jz rfl rfl rfl T.kD T.Zq (cf (T.F 17 rfl) M Z (c7 (cv 1)))))))))) ?_
 rintro ts C R ⟨x,g,xs,y,e,rs,rfl,F,hl,ab,U,Y,S,q⟩;obtain⟨dx,mx⟩:=F.ins;have L:=F.ne;refine tR mx rfl ⟨jB F.lst,Fx F.lst (y:=y) (by simp) ?_⟩;rw[List.dropLast_concat];have I:pQ C g (.lst xs) x=some (.ins a.Walk dx [("lacking",.ref g)]):=by rwa [vQ L]
 have G:pQ C g (.lst xs) g=some (.lst xs):=jQ;have N:fu [g] C (pQ C g (.lst xs)):=fu.refl.at (by simp) _;refine tR I rfl ⟨jB G,⟨e,rs,rfl,ab,U,Y,S,fun p C2 n2 m2 D=>IV m2 fun p3 B=>?_⟩⟩;have n3:p3≠g:=fun z=>by rw[z,D _ _ G] at B;cases B
 have ag:=Gr.new B (.lst ((((Wt.dj e.pc.row [] []).map (iJ e.x)).map jf.pv).reverse)) _ _ (D _ _ I)
 apply Y1 (Gr.new B _ _ _ (D _ _ G)) jQ (yW (by rw[List.length_reverse,AC,AC,tK];lia))
 apply q _ ⟨⟨dx,by rwa [vQ L]⟩,jQ⟩
 intro b o J O;exact(vQ (fun z=>J (AF.2 z)))▸Gr.new B _ _ _ (D _ _ (N b o J O))
end
def Sub(R g:dw):Prop:=∀k∈R.map (·.1),k∈g.map (·.1)
def Sub.refl: Sub R R:=fun _ h=>h
def uJ: nH A bs (Sub q):=fun R s n _ h k g=>by
 rw[kY]
 split
 .exact h k g
 .exact Ak _ (h k g)
def Ag(A A' R:dw):Prop:=∀s n,qK s n∈R.map (·.1)->rK A s n=rK A' s n
def Ag.sub(h:Ag A A' g)(s:Sub R g):Ag A A' R:=fun x n q=>h x n (s _ q)
section
variable {A A':dw}{τ:jd}{bs ns rs:List Str}
def bO:∀{d}{r:Rk}{R},r.ok bs ns d->Ag A A' (r.gn A τ R)->r.val A τ=r.val A' τ/\r.gn A τ R=r.gn A' τ R:=by
 intro d r
 induction r generalizing d with
 |num i=>intro R _ _;exact⟨rfl,rfl⟩
 |turn n=>intro R _ _;exact⟨rfl,rfl⟩
 |ask s n =>
  intro R _ h
  have e:=h s n (by
   rw[Rk.gn,kY]
   split
   .assumption
   .exact AO _ AG)
  unfold Rk.val Rk.gn;exact e▸⟨rfl,rfl⟩
 |bin w x y B D =>
  intro R o h
  cases d with
  |zero=>exact o.elim
  |succ d =>
   rw[Rk.gn] at h;obtain⟨F,G⟩:=B o.2.1 (h.sub (rZ uJ o.2.2 Sub.refl));obtain⟨g,q⟩:=D o.2.2 h;rw[ Rk.val,Rk.gn,q,F,g,G];exact⟨rfl,rfl⟩
 |pick x y z B D J =>
  intro R o h
  cases d with
  |zero=>exact o.elim
  |succ d =>
   rw[Rk.gn] at h
   have I:Ag A A' (x.gn A τ R):=by
    split at h
    .exact h.sub (rZ uJ o.2.2 Sub.refl)
    .exact h.sub (rZ uJ o.2.1 Sub.refl)
   obtain⟨F,G⟩:=(B o.1 I);rw[Rk.val,Rk.val,Rk.gn,Rk.gn,<- F,<- G]
   split at h
   .next e =>
    obtain⟨g,q⟩:=J o.2.2 h;rw[Ab e,Ab e,Ab e,Ab e];exact⟨g,q⟩
   .next e =>
    obtain⟨g,q⟩:=D o.2.1 h;rw[Ac e,Ac e,Ac e,Ac e];exact⟨g,q⟩
theorem iN: ∀{ps}{R},QI bs ns d ps->Ag A A' (dZ A τ ps R)->iX A τ ps=iX A' τ ps/\dZ A τ ps R=dZ A' τ ps R
 |[],R,_,_=>⟨rfl,rfl⟩
 |c::ps,R,o,h=>by
  have o':QI bs ns d ps:=fun x B=>o x (AJ _ B);have h:Ag A A' (dZ A τ ps (c.2.gn A τ R)):=h;obtain⟨g,q⟩:=bO ((o c AG).1) (h.sub (jZ uJ o' Sub.refl));obtain⟨D,p2⟩:=iN o' h;exact⟨by show(c.1,c.2.val A τ)::iX A τ ps=(c.1,c.2.val A' τ)::iX A' τ ps;rw[g,D],by show dZ A τ ps (c.2.gn A τ R)=dZ A' τ ps (c.2.gn A' τ R);rw[p2,q]⟩
theorem G5: ∀{cs}{R},(∀c∈cs,c.2.2.ok bs ns d)->Ag A A' (kM A τ cs R)->jP A τ cs=jP A' τ cs/\kM A τ cs R=kM A' τ cs R
 |[],R,_,_=>⟨rfl,rfl⟩
 |c::ps,R,o,h=>by
  have o':∀c∈ps,c.2.2.ok bs ns d:=fun x B=>o x (AJ _ B);have h:Ag A A' (kM A τ ps (c.2.2.gn A τ R)):=h;obtain⟨g,q⟩:=bO (o c AG) (h.sub (xP uJ o' Sub.refl));obtain⟨D,p2⟩:=G5 o' h;exact⟨by show(c.1,c.2.1,c.2.2.val A τ)::jP A τ ps=(c.1,c.2.1,c.2.2.val A' τ)::jP A' τ ps;rw[g,D],by show kM A τ ps (c.2.2.gn A τ R)=kM A' τ ps (c.2.2.gn A' τ R);rw[p2,q]⟩
theorem XM:∀{hs}{R},(∀h∈hs,h.ok bs ns)->Ag A A' (mZ A τ hs R)->tZ A τ hs=tZ A' τ hs/\mZ A τ hs R=mZ A' τ hs R
 |[],R,_,_=>⟨rfl,rfl⟩
 |c::ps,R,o,h=>by
  have o':∀h∈ps,h.ok bs ns:=fun x B=>o x (AJ _ B);have h:Ag A A' (mZ A τ ps (kM A τ c.ch R)):=h;obtain⟨g,q⟩:=G5 (o c AG).c (h.sub (cK uJ o' Sub.refl));obtain⟨D,p2⟩:=XM o' h;exact⟨by show uE A τ c::tZ A τ ps=uE A' τ c::tZ A' τ ps;rw[D];delta uE;rw[g],by show mZ A τ ps (kM A τ c.ch R)=mZ A' τ ps (kM A' τ c.ch R);rw[p2,q]⟩
def Ja(o:kT bs ns k)(h:Ag A A' (zK A τ k R)):gV A τ k=gV A' τ k/\zK A τ k R=zK A' τ k R:=by
 cases k with
 |none=>exact⟨rfl,rfl⟩
 |some r =>
  obtain⟨g,q⟩:=bO o h;exact⟨by show(Sum.inl (some _):Key)=Sum.inl (some _);rw[g],q⟩
end
theorem lH(h1:∀l ns τ st,gw bs rs d ns l->Ag A A' (eX A l τ st).2.2->eX A l τ st=eX A' l τ st):∀g ns τ st,(∀x∈g,gw bs rs d ns x)->Ag A A' (nQ A g τ st).2.2->nQ A g τ st=nQ A' g τ st
 |[],ns,τ,st,_,h=>by rw[zJ,zJ]
 |l::g,ns,τ,st,q,h=>by
  rw[hZ] at h;rw[hZ,hZ];have o':∀x∈g,gw bs rs d ns x:=fun x B=>q x (AJ _ B);exact(h1 l ns τ st (q l AG) (h.sub (vJ uJ o' Sub.refl)))▸lH h1 g ns τ _ o' h
theorem XR(hs:∀x k,Sub x.2.2 (f x k).2.2)(B:∀x k,Ag A A' (f x k).2.2->f x k=g x k):∀(l:List Nat)(x:jo),Ag A A' (l.foldl f x).2.2->l.foldl f x=l.foldl g x
 |[],_,_=>rfl
 |k::l,x,h=>by
  have:=eK (P:=fun st:jo=>Sub (f x k).2.2 st.2.2) (fun y j p q D=>hs y j q (p q D)) l _ Sub.refl;show l.foldl f (f x k)=l.foldl g (g x k);exact(B x k (h.sub this))▸XR hs B l _ h
def Ir: ∀d l ns τ st,gw bs rs d ns l->Ag A A' (eX A l τ st).2.2->eX A l τ st=eX A' l τ st:=by
 intro d
 induction d with
 |zero=>intro l ns τ st h;exact h.elim
 |succ d ih =>
  intro l ns τ st o h;have G:=lH ih
  cases l with
  |plain k ab s hs F =>
   obtain⟨h1,h2,B,D,U⟩:=o;have b:=G F ns τ _ D h;have S:=h.sub (vJ uJ D Sub.refl);obtain⟨u3,v3⟩:=XM B.1 S;have I:=S.sub (cK uJ B.1 Sub.refl);obtain⟨L,N⟩:=iN h2.1 I;obtain⟨J,M⟩:=Ja h1 (I.sub (jZ uJ h2.1 Sub.refl));rw[eX,eX,b,v3,N,M,u3,L,J]
  |part k n g =>
   obtain⟨h1,h2,B,D⟩:=o;obtain⟨L,N⟩:=iN B h;obtain⟨J,M⟩:=Ja h1 (h.sub (jZ uJ B Sub.refl));rw[eX,eX,N,M,L,J]
  |give k n r F =>
   obtain⟨h1,h2,B,D,U⟩:=o;have I:=h.sub (vJ uJ D Sub.refl);obtain⟨L,N⟩:=bO B I;obtain⟨J,M⟩:=Ja h1 (I.sub (rZ uJ B Sub.refl));rw[eX,eX,(G F ns τ _ D h),N,M,L,J]
  |when r l1 l2 =>
   obtain⟨h1,⟨h2,B⟩,D,U⟩:=o;rw[eX] at h
   have O:Ag A A' (r.gn A τ st.2.2):=by
    split at h
    .exact h.sub (vJ uJ D Sub.refl)
    .exact h.sub (vJ uJ h2 Sub.refl)
   obtain⟨u,v⟩:=bO h1 O;rw[eX,eX,<- u,<- v]
   split at h
   .next e=>rw[Ab e,Ab e];exact G l2 ns τ _ D h
   .next e=>rw[Ac e,Ac e];exact G l1 ns τ _ h2 h
  |each n r F =>
   obtain⟨h1,h2,B⟩:=o;have hs:∀x k,Sub x.2.2 (nQ A F (cZ τ (.inr n) (.int (k:Nat))) x).2.2:=fun x k=>vJ uJ h2 Sub.refl;have O:=h.sub (eK (P:=fun x:jo=>Sub (r.gn A τ st.2.2) x.2.2) (fun y j p q Y=>hs y j q (p q Y)) _ _ Sub.refl);obtain⟨u,v⟩:=bO h1 O;rw[eX,eX,<- u,<- v];exact XR hs (fun x k Z=>G F [n] _ x h2 Z) _ _ h
def Yz{cap}(g:jh rs cap x)(h:Ag A A' (yB A x)):wZ A x=wZ A' x/\yB A x=yB A' x:=by
 obtain⟨u,v⟩:=(iN g.wk h);have b:=lH (Ir 6) x.ls [] [] ([],[],[]) g.ls (h.sub (jZ uJ g.wk Sub.refl));have e:yB A x=yB A' x:=by delta yB;rw[v,b]
 delta wZ
 exact e▸u▸b▸⟨rfl,rfl⟩
inductive Th(C:CH):PV->Prop
 |non:Th C .non
 |bl (b:Bool):Th C (.bl b)
 |int (i:Int):Th C (.int i)
 |str (z:Str):Th C (.str z)
 |tup {ts:List PV} (h:∀t∈ts,Th C t):Th C (.tup ts)
 |lst {a:Addr} (h:tyP C (.ref a)=some .lst):Th C (.ref a)
 |dct {a:Addr} (h:tyP C (.ref a)=some .dct):Th C (.ref a)
abbrev Pn:PV->Prop:=Th fun _=>none
def sP(h:tyP C x=some n)(g:Gr C C'):tyP C' x=some n:=by
 cases x with
 |ref a =>
  delta tyP at h ⊢
  dsimp only at h ⊢
  split at h
  .next e=>rwa [g a _ e]
  .next e=>rwa [g a _ e]
  .cases h
 |_=>exact h
theorem Th.gr(h:Th C x)(g:Gr C C'):Th C' x:=by
 induction h with
 |non=>exact .non
 |bl b=>exact .bl b
 |int i=>exact .int i
 |str z=>exact .str z
 |tup _ q=>exact .tup q
 |lst h=>exact .lst (sP h g)
 |dct h=>exact .dct (sP h g)
def Pn.th(h:Pn x):Th C x:=h.gr fun _ _ z=>nomatch z
noncomputable def kn:Ty->Str
 |.bl=>"truth"
 |.int=>"number"
 |.str=>"text"
 |.tup=>"tuple"
 |.lst=>"list"
 |.dct=>"dict"
 |_=>"none"
def Th.ty(h:Th C x):∃n,tyP C x=some n:=by
 cases h with
 |lst h=>exact⟨_,h⟩
 |dct h=>exact⟨_,h⟩
 |_=>exact⟨_,rfl⟩
def Th.cmp(B:Th C x)(D:Pn y)(g:tyP C x=some n)(q:tyP C y=some m):(kn n≠kn m/\x≠y)\/(n=.tup/\m=.tup/\∃xs ys,x=.tup xs/\y=.tup ys/\(∀t∈xs,Th C t)/\∀t∈ys,Pn t)\/∃b,kn n=kn m/\kn n ≠ "tuple"/\kn n ≠ "list"/\kn n ≠ "dict"/\sEq x y=some b/\(b=true↔x=y):=by
 cases D with
 |lst h=>cases h
 |dct h=>cases h
 |tup h =>
  cases q
  cases B with
  |tup h'=>cases g;exact .inr (.inl ⟨rfl,rfl,_,_,rfl,rfl,h',h⟩)
  |lst h'=>rw[h'] at g;cases g;exact .inl ⟨by decide,nofun⟩
  |dct h'=>rw[h'] at g;cases g;exact .inl ⟨by decide,nofun⟩
  |_=>cases g;exact .inl ⟨by decide,nofun⟩
 |_ =>
  cases q
  cases B with
  |lst h'=>rw[h'] at g;cases g;exact .inl ⟨by decide,nofun⟩
  |dct h'=>rw[h'] at g;cases g;exact .inl ⟨by decide,nofun⟩
  |_=>cases g;first | exact .inl ⟨by decide,nofun⟩ | exact .inr (.inr ⟨_,rfl,by decide,by decide,by decide,rfl,by simp⟩)
mutual
def pw:PV->Nat
 |.tup ts=>1+iT ts
 |_=>1
def iT:List PV->Nat
 |[]=>0
 |t::ts=>pw t+iT ts
end
def HY t:1<=pw t:=by
 cases t<;>(unfold pw;lia)
noncomputable def Fv(z:PV×PV):PV:=.tup [z.1,z.2]
def zw(zs:List (PV×PV)):Nat:=iT (zs.map (·.2))
def Kh xs ys:iT (xs++ys)=iT xs+iT ys:=by
 induction xs with
 |nil=>rw[Cw,iT,BS]
 |cons x xs g=>rw[B0,iT,iT,g];lia
def eN xs:xs.length<=iT xs:=by
 induction xs with
 |nil=>exact AW _
 |cons x xs g=>rw[iT,AV];have:=HY x;lia
theorem J1:∀xs ys,List.zipWith (fun a b=>PV.tup [a,b]) xs ys=(xs.zip ys).map Fv
 |[],_=>rfl
 |_::_,[]=>rfl
 |x::xs,y::ys=>by rw[List.zipWith_cons_cons,J1 xs ys];rfl
theorem WK:∀{xs ys:List PV},xs.length=ys.length->(xs=ys↔∀z∈xs.zip ys,z.1=z.2)
 |[],[],_=>⟨fun _ _ z=>(nomatch z),fun _=>rfl⟩
 |x::xs,y::ys,h=>by
  have q:=WK (A1 h);refine⟨fun e z g=>?_,fun g=>?_⟩
  .injection e with B D
   rcases Ai.1 g with rfl | g
   .exact B
   .exact q.1 D z g
  .rw [(show x=y from g (x,y) AG),q.2 fun z h=>g z (AJ _ h)]
section
variable {W:Wd}{a:Adr}
inductive gKo(ts:List PV)(C:CH)(Q:K1):Prop
 |mk x n(z0:ts=[x])(z1:tyP C x=some n)(z2:Q (.str (kn n)) C)
def ZU(T:Tx W a):Ok W a 1 6 ["thing"] gKo:=by
 have S:=(T.F 6 rfl).s
 refine(T.F 6 rfl).o (fun B=>(xQ (iQ (nZ (lQ qX lZ rfl T.tQ rfl (qQ (cv 0) (c7 (aK rfl T.vA rfl))))) (kQ (gQ bQ)) rQ)
  (xQ (iQ (nZ (lQ qX lZ rfl T.tQ rfl (qQ (cv 0) (c7 (aK rfl T.jO rfl))))) (kQ (gQ bQ)) rQ)
  (xQ (iQ (nZ (lQ qX lZ rfl T.tQ rfl (qQ (cv 0) (c7 (aK rfl T.WL rfl))))) (kQ (gQ bQ)) rQ)
  (xQ (iQ (nZ (lQ qX lZ rfl T.tQ rfl (qQ (cv 0) (c7 (aK rfl T.fZ rfl))))) (kQ (gQ bQ)) rQ)
  (xQ (iQ (nZ (lQ qX lZ rfl T.tQ rfl (qQ (cv 0) (c7 (aK rfl T.kD rfl))))) (kQ (gQ bQ)) rQ)
  (xQ (iQ (nZ (lQ qX lZ rfl T.tQ rfl (qQ (cv 0) (c7 (aK rfl T.rP rfl))))) (kQ (gQ bQ)) rQ)
  (kQ (gQ bQ))))))))) ?_
 rintro ts C R ⟨x,n,rfl,g,q⟩;cases n<;>repeat (first | exact q | exact tX rfl g (uZ rfl q) | (refine tX rfl g (gX rfl (pX ?_))))
inductive gPw(ts:List PV)(C:CH)(Q:K1):Prop
 |mk x y C0(z0:ts=[x,y])(z1:Gr C0 C)(z2:Th C0 x)(z3:Pn y)(z4:pw y<=1000000)(z5:(x≠y->∀C',Gr C C'->Q .non C'))(z6:∀(zs:List (PV×PV))p C',(x=y↔∀z∈zs,z.1=z.2)->(∀z∈zs,Th C0 z.1/\Pn z.2)->zw zs+1=pw y->C p=none->C' p=some (.lst (zs.map Fv))->Gr C C'->Q (.ref p) C')
def Og(T:Tx W a):Ok W a 2 4 ["one","other"] gPw:=by
 have Y:=ZU T
 refine(T.F 4 rfl).o (fun F=>(xQ (fj 2 ((T.F 4 rfl).s).nd (cf (T.F 6 rfl) Y F (c7 (cv 0))))
  (xQ (iQ (ct2 iF nG (cv 2) (cf (T.F 6 rfl) Y F (c7 (cv 1)))) (kQ (gQ sZ)) rQ)
  (xQ (iQ (ji (jj (ct2 lX vX (cv 2) bQ) (je (ct2 lX vX (cv 2) bQ)))) (kQ (gQ (bN (ct2 lX vX (ou T.nW (cv 0)) (ou T.nW (cv 1))) (Jy rfl T.kD T.z_zip (cv 0) (cv 1)) sZ))) rQ)
  (xQ (iQ (ct2 lX vX (cv 2) bQ) (kQ (gQ (cf (T.F 5 rfl) (eJ fun _ _ _ z=>z) F (qQ (cv 0) (c7 (cv 1)))))) rQ)
  (kQ (gQ (bN (ct2 lX vX (cv 0) (cv 1)) (oZ zZ) sZ)))))))) ?_
 rintro ts C R ⟨x,y,C0,rfl,I,O,S,ag,G,q⟩;obtain⟨n,N⟩:=O.ty;obtain⟨m,M⟩:=(S.th).ty;refine yQ ⟨x,n,rfl,(sP N I),⟨y,m,rfl,(sP M I),zX (fQ _ _) ?_⟩⟩
 rcases O.cmp S N M with ⟨h1,h2⟩ | ⟨rfl,rfl,xs,ys,rfl,rfl,ab,ae⟩ | ⟨b,h1,h2,Z,h4,J,L⟩
 .exact uZ (by rw[AM h1];rfl) (G h2 C Gr.refl)
 .refine gX rfl (pX (zX (fQ _ _) (uZ rfl (yT rfl (lR (lR (zX (oJ _ _) (rF (fun g=>?_) fun g=>?_))))))))
  .have g:xs.length=ys.length :=by simp_all;lia
   refine Nm g fun p B=>?_;rw[J1];refine q (xs.zip ys) p _ (PV.tup.injEq .. ▸ WK g) (fun z U=>?_) ?_ B jQ (Gr.new B _)
   .exact ⟨ab _ (Cv U).1,ae _ (Cv U).2⟩
   .delta zw
    rw[List.map_snd_zip (by lia),pw]
    lia
  .exact G (fun e=>by cases e;rw[Af rfl] at g;cases g) C Gr.refl
 .refine gX (by rw[Af h1];rfl) (pX ?_)
  refine zX (fQ _ _) (gX (AM h2) (zX (fQ _ _) (gX (AM Z) (pX (zX (fQ _ _) (gX (AM h4) (pX (zX J (rF (fun D=>?_) fun D=>?_)))))))))
  .refine ⟨by decide,fun p B=>?_⟩
   refine q [] p _ ⟨fun _ _ z=>(nomatch z),fun _=>L.1 D⟩ (fun _ z=>nomatch z) ?_ B jQ (Gr.new B _);have:pw y=1:=by cases y<;>first | rfl | (cases x<;>cases J)
   rw[this]
   rfl
  .exact G (fun e=>by rw[L.2 e] at D;cases D) C Gr.refl
inductive gAk(ts:List PV)(C:CH)(Q:K1):Prop
 |mk x y(z0:ts=[x,y])(z1:Th C x)(z2:Pn y)(z3:pw y<=1000000)(z4:∀b C',(b=true↔x=y)->Gr C C'->Q (.bl b) C')
def Xq(T:Tx W a):Ok W a 3 3 ["one","other"] gAk:=by
 have S:=(T.F 3 rfl).s;have sS:=Og T
 refine(T.F 3 rfl).o (fun Z=>(xQ (fj 2 S.nd (oZ (c7 (wQ (qQ (cv 0) (c7 (cv 1)))))))
  (xQ (X3 PassesOwn.never (GT (cv 2)) (xQ (fj 3 S.nd (Uj Bw PySem.F.slot_list_pop PySem.F.type_list_pop YU K9 (cv 2)))
  (xQ (fj 4 S.nd (cf (T.F 4 rfl) sS Z (qQ (cx (cv 3) zQ) (c7 (cx (cv 3) zQ)))))
  (xQ (iQ (ct2 lB vG (cv 4) sZ) (kQ (gQ tV)) rQ)
  (kQ (xZ (Uk Bw PySem.F.slot_list_extend PySem.F.type_list_extend (fun p s σ H x vs v ai Q=>oO p s σ H x vs v ai Q) vS (cv 2) (c7 (cv 4)))))))))
  (kQ (gQ tV))))) ?_
 rintro ts C R ⟨x,y,rfl,hx,hy,ae,q⟩;refine yQ ⟨ie 2 rfl,?_⟩;refine⟨ie 1 rfl,fun p M=>?_⟩;refine⟨pw y+1,?_⟩;have aj:(1000000:Nat)<=sizeLine:=by decide
 refine wA (fun n ρ C'=>∃zs x3 x4,n=zw zs/\ρ=[some x,some y,some (.ref p),x3,x4]/\(x=y↔∀z∈zs,z.1=z.2)/\(∀z∈zs,Th C z.1/\Pn z.2)/\zw zs<=1000000/\C' p=some (.lst (zs.map Fv))/\Gr C C') ?_ _ (pw y) _ _ (Bf _) ⟨[(x,y)],none,none,(Nat.add_zero _).symm,rfl,⟨fun e z O=>by cases AF.1 O;exact e,fun h=>h _ AG⟩,fun z O=>by cases AF.1 O;exact⟨hx,hy⟩,ae,jQ,Gr.new M _⟩
 rintro n ρ C1 L ⟨zs,x3,x4,rfl,rfl,hi,N,ab,I,g⟩ Y;refine Ez ?_ ?_
 .refine ⟨p,zs.map Fv,rfl,I,?_⟩
  rcases List.eq_nil_or_concat zs with rfl | ⟨D,z,rfl⟩
  .exact q true C1 ⟨fun _=>hi.2 fun _ z=>(nomatch z),fun _=>rfl⟩ g
  .rw [List.concat_eq_append] at I hi N ab Y ⊢
   obtain⟨ah,t2⟩:=N z (AO _ AG);have ez:zw (D++[z])=zw D+pw z.2:=by delta zw;rw[AS,Kh];rfl
   apply yT (by simp)
   refine yQ ⟨jB I,Fx I (y:=Fv z) (by simp) ?_⟩;rw[AS,List.map_singleton,List.dropLast_concat];have J:Gr C (pQ C1 p (.lst (D.map Fv))):=lG g M _;have m2:pQ C1 p (.lst (D.map Fv)) p=some (.lst (D.map Fv)):=jQ;refine yQ (aQ rfl (aQ rfl ⟨z.1,z.2,C,rfl,J,ah,t2,by lia,fun ag U G=>?_,fun F r U h1 h2 h3 Z m3 G=>?_⟩))
   .exact q false U ⟨(fun h=>nomatch h),fun e=>absurd (hi.1 e z (AO _ AG)) ag⟩ (J.trans G)
   .refine pX ⟨jB (G _ _ m2),?_⟩
    have ao:D.length<=zw D:=by have:=eN (D.map (·.2));rwa [AC] at this
    have aq:F.length<=zw F:=by have:=eN (F.map (·.2));rwa [AC] at this
    apply Y1 (G _ _ m2) m3 (by rw[AC,AC];lia)
    have ak:zw (D++F)=zw D+zw F:=by delta zw;rw[AS,Kh]
    refine Y (zw (D++F)) _ _ (by lia) ⟨D++F,_,_,rfl,rfl,?_,fun u B=>?_,by lia,by rw[jQ,AS],lG (J.trans G) M _⟩
    .rw [hi]
     refine⟨fun h u B=>?_,fun h u B=>?_⟩
     .grind
     .rcases Ax.1 B with B | B
      .exact h u (Ak _ B)
      .cases AF.1 B
       exact h1.2 fun v hv=>h v (AO _ hv)
    .rcases Ax.1 B with B | B
     .exact N u (Ak _ B)
     .exact h2 u B
 .intro Q1 Q2 h q
  exact lC _ _ h q
end
noncomputable def Jc:PV->Bool
 |.int i=>decide (-1000000000<=i)&&decide (i<=1000000000)
 |_=>false
def Jd:PV->Bool
 |.str z=>nL z
 |_=>false
section
variable {W:Wd}{a:Adr}
inductive gNu(ts:List PV)(C:CH)(Q:K1):Prop
 |mk x(z0:ts=[x])(z1:Th C x)(z2:Q (.bl (Jc x)) C)
def yI(T:Tx W a):Ok W a 1 0 ["thing"] gNu:=by
 have S:=(T.F 0 rfl).s
 refine(T.F 0 rfl).o (fun F=>(xQ (iQ (ji (jj (nZ (lQ qX lZ rfl T.tQ rfl (qQ (cv 0) (c7 (aK rfl T.vA rfl))))) (je (oK (nZ (lQ qX lZ rfl T.tQ rfl (qQ (cv 0) (c7 (aK rfl T.jO rfl))))))))) (kQ (gQ tV)) rQ)
  (kQ (gQ (Uh Kp Kp Qe Qe (rE nP kF (qY (v:=.int 1000000000) rfl T.tI ⟨_,rfl⟩ (fun _=>.int _))) (cv 0) (qY (v:=.int 1000000000) rfl T.tI ⟨_,rfl⟩ (fun _=>.int _))))))) ?_
 rintro ts C R ⟨x,rfl,B,q⟩;obtain⟨n,D⟩:=B.ty
 cases B with
 |int i =>
  cases D;refine tX rfl rfl (gX rfl (tX rfl rfl (lF (pX (qj (rF (fun g=>?_) fun g=>?_))))))
  .apply qj
   have e:Jc (.int i)=decide (i<=1000000000):=by show(decide (-1000000000<=i)&&decide (i<=1000000000))=_;rw[g];rfl
   rwa [e] at q
  .have e:Jc (.int i)=false:=by show(decide (-1000000000<=i)&&decide (i<=1000000000))=_;rw[g];rfl
   rwa [e] at q
 |bl b=>exact tX rfl rfl (uZ rfl q)
 |lst h=>exact tX rfl h (gX rfl (tX rfl h (hJ q)))
 |dct h=>exact tX rfl h (gX rfl (tX rfl h (hJ q)))
 |_=>exact tX rfl rfl (gX rfl (tX rfl rfl (hJ q)))
inductive gNa(ts:List PV)(C:CH)(Q:K1):Prop
 |mk x(z0:ts=[x])(z1:Th C x)(z2:(∀z,x=.str z->z.length<=sizeLine))(z3:∀C',Gr C C'->Q (.bl (Jd x)) C')
def ZV(T:Tx W a):Ok W a 1 1 ["thing"] gNa:=by
 have S:=(T.F 1 rfl).s
 refine(T.F 1 rfl).o (fun O=>(xQ (iQ (ji (jj (oK (nZ (lQ qX lZ rfl T.tQ rfl (qQ (cv 0) (c7 (aK rfl T.WL rfl)))))) (je (oK (GU Kp Kp Qe Qe zQ (ou T.nW (cv 0)) (qY (v:=.int 8) rfl T.gT ⟨_,rfl⟩ (fun _=>.int _))))))) (kQ (gQ tV)) rQ)
  (kQ (gQ (lQ (wM rfl) yP rfl T.QP rfl (c7 (zY rfl (S.c (by decide +kernel)) (S.k (L:=0) rfl rfl rfl (by decide +kernel)) (Mr (cv 0)) (fun _ _ _ _ _=>oV) (fun _ _ _ _ _=>(lY VO zf (cv 0) (qY (v:=.str "abcdefghijklmnopqrstuvwxyz") rfl T.Gw ⟨_,rfl⟩ (fun _=>.str _)) rfl))))))))) ?_
 rintro ts C R ⟨x,rfl,B,F,q⟩;obtain⟨n,G⟩:=B.ty
 cases B with
 |str z =>
  cases G;have J:=F z rfl;refine tX rfl rfl (lF (Ot J ?_));have D:nL z=false->R (.bl false) C:=fun e=>by have:=q C Gr.refl;rwa [show Jd (.str z)=false from e] at this
  refine qj (rF (fun h1=>?_) fun h1=>?_)
  .apply qj
   cases h2:decide (((z.length:Nat):Int)<=8) with
   |false=>exact D (by delta nL;rw[h1,h2];rfl)
   |true =>
    refine lF (pX (yF (fun s=>match s with | .str u=>.bl (!(Builtin.Str.occurrences ("abcdefghijklmnopqrstuvwxyz" : Str) u 0 ("abcdefghijklmnopqrstuvwxyz" : Str).length 1).isEmpty) | _=>.non) (mL z) [] C Gr.refl ?_ (fun x B C1 M g I=>?_) fun p C1 N g m=>?_))
    .delta mL
     rwa [AC,Da,BS,Ay]
    .obtain ⟨c,_,rfl⟩:=AL.1 B
     exact O2 (I C1 Gr.refl)
    .apply Zg (bs:=z.cps.toList.map KI) (by rw[m];delta mL;rw[BP,BP];rfl)
     have e:Jd (.str z)=(z.cps.toList.map KI).all id:=by
      show((decide ((1:Int)<=(z.length:Nat))&&decide (((z.length:Nat):Int)<=8))&&z.cps.toList.all KI)=_;rw[h1,h2,List.all_map]
      rfl
     exact e▸q C1 g
  .exact D (by delta nL;rw[h1];rfl)
 |lst h=>exact tX rfl h (hJ (q C Gr.refl))
 |dct h=>exact tX rfl h (hJ (q C Gr.refl))
 |_=>exact tX rfl rfl (hJ (q C Gr.refl))
def HX:PV->Bool
 |.tup [s,m]=>Wc ["take","box","down"] s&&Jd m
 |_=>false
def t7:PV->Bool
 |.tup [q,n]=>Jc n&&HX q
 |_=>false
def Y3{α:Type}x y z(r:List α)k(h:k=2):(!decide (((x::y::z::r).length:Int)=k))=true :=by grind
def Sg(x:PV):Prop:=∀s z n,x=.tup [.tup [s,.str z],n]->z.length<=sizeLine
inductive gRf(ts:List PV)(C:CH)(Q:K1):Prop
 |mk x(z0:ts=[x])(z1:Th C x)(z2:Sg x)(z3:∀C',Gr C C'->Q (.bl (t7 x)) C')
def kI(T:Tx W a):Ok W a 2 13 ["thing"] gRf:=by
 have S:=(T.F 13 rfl).s;have M:=yI T;have L:=ZV T
 refine(T.F 13 rfl).o (fun F=>(xQ (iQ (ji (jj (oK (nZ (lQ qX lZ rfl T.tQ rfl (qQ (cv 0) (c7 (aK rfl T.fZ rfl)))))) (jj (ct2 iF nG (ou T.nW (cv 0)) zQ) (je (oK (nZ (cf (T.F 0 rfl) M F (c7 (cx (cv 0) zQ))))))))) (kQ (gQ tV)) rQ)
  (xQ (fj 1 S.nd (cx (cv 0) zQ))
  (xQ (iQ (ji (jj (oK (nZ (lQ qX lZ rfl T.tQ rfl (qQ (cv 1) (c7 (aK rfl T.fZ rfl)))))) (je (ct2 iF nG (ou T.nW (cv 1)) zQ)))) (kQ (gQ tV)) rQ)
  (kQ (gQ (Qm (lY (YC (yK F)) zg (cx (cv 1) zQ) (qY (v:=.ref a.ASKING) rfl T.KN rfl (fun H=>.kt (T.Kg H) (.cons (.str _) (.cons (.str _) (.cons (.str _) .nil))))) rfl) (Qj (cf (T.F 1 rfl) L F (c7 (cx (cv 1) zQ))))))))))) ?_
 rintro ts C R ⟨x,rfl,Y,U,q⟩
 cases Y with
 |@tup ts J =>
  refine tX rfl rfl (lF (lR (zX (oJ _ _) ?_)))
  rcases ts with _ | ⟨g,_ | ⟨n,_ | ⟨z,r⟩⟩⟩
  .exact uZ rfl (q C Gr.refl)
  .exact uZ rfl (q C Gr.refl)
  .refine gX rfl (aQ rfl ⟨n,rfl,J n (by simp),?_⟩)
   cases G:Jc n with
   |false =>
    have e:t7 (.tup [g,n])=false:=by show(Jc n&&HX g)=_;rw[G];rfl
    rw[e] at q;exact hJ (q C Gr.refl)
   |true =>
    have e:t7 (.tup [g,n])=HX g:=by show(Jc n&&HX g)=_;rw[G];rfl
    rw[e] at q;refine lF (pX ?_)
    try dsimp only
    refine yQ (aQ rfl ?_)
    cases J g AG with
    |@tup qs I =>
     refine tX rfl rfl (lF (lR (zX (oJ _ _) ?_)))
     rcases qs with _ | ⟨B,_ | ⟨m,_ | ⟨z,r⟩⟩⟩
     .exact uZ rfl (q C Gr.refl)
     .exact uZ rfl (q C Gr.refl)
     .refine gX rfl (pX (aQ rfl ?_))
      obtain⟨c,O⟩:=(I B AG).ty;refine O3 rfl O (rF (fun D=>?_) fun D=>?_)
      .refine aQ rfl ⟨m,rfl,I m (by simp),fun z Z=>U B z n (by rw[Z]),fun C1 N=>?_⟩
       have e:HX (.tup [B,m])=Jd m:=by show(Wc ["take","box","down"] B&&Jd m)=_;rw[D];rfl
       exact e▸q C1 N
      .have e:HX (.tup [B,m])=false:=by show(Wc ["take","box","down"] B&&Jd m)=_;rw[D];rfl
       rw[e] at q;exact q C Gr.refl
     .exact uZ (Y3 _ _ _ _ _ rfl) (q C Gr.refl)
    |lst h=>exact tX rfl h (hJ (q C Gr.refl))
    |dct h=>exact tX rfl h (hJ (q C Gr.refl))
    |_=>exact tX rfl rfl (hJ (q C Gr.refl))
  .exact uZ (Y3 _ _ _ _ _ rfl) (q C Gr.refl)
 |lst h=>exact tX rfl h (hJ (q C Gr.refl))
 |dct h=>exact tX rfl h (hJ (q C Gr.refl))
 |_=>exact tX rfl rfl (hJ (q C Gr.refl))
def HN:PV->Bool
 |.tup ts=>(ts.map t7).all id
 |_=>false
inductive Tf(ts:List PV)(C:CH)(Q:K1):Prop
 |mk x(z0:ts=[x])(z1:Th C x)(z2:(∀ts,x=.tup ts->ts.length<=sizeLine/\∀t∈ts,Sg t))(z3:∀C',Gr C C'->Q (.bl (HN x)) C')
def xI(T:Tx W a):Ok W a 3 12 ["thing"] Tf:=by
 have S:=(T.F 12 rfl).s;have F:=kI T;refine(T.F 12 rfl).o (fun I=>(kQ (gQ (Qm (lQ qX lZ rfl T.tQ rfl (qQ (cv 0) (c7 (aK rfl T.fZ rfl)))) (Qj (lQ (wM rfl) yP rfl T.QP rfl (c7 (zY rfl (S.c (by decide +kernel)) (S.k (L:=0) rfl rfl rfl (by decide +kernel)) (tU (cv 0)) (fun _ _ _ _ _=>oV) (fun _ _ _ _ _=>(cf (T.F 13 rfl) F I (c7 (cv 0)))))))))))) ?_;rintro ts C R ⟨x,rfl,M,B,q⟩
 cases M with
 |@tup ts J =>
  refine tX rfl rfl (uZ rfl (yF (fun t=>.bl (t7 t)) ts [] C Gr.refl (by rw[Da,BS];exact(B ts rfl).1) (fun y D C1 N g G=>⟨y,rfl,(J y D).gr g,(B ts rfl).2 y D,G⟩) fun p C1 O g m=>?_));exact Zg (by rw[m,BP];rfl) (q C1 g)
 |lst h=>exact tX rfl h (gX rfl (q C Gr.refl))
 |dct h=>exact tX rfl h (gX rfl (q C Gr.refl))
 |_=>exact tX rfl rfl (gX rfl (q C Gr.refl))
end
def Oc(h:Pl d t):Pl (d+1) t:=by
 induction h with
 |non=>exact .non
 |bl b=>exact .bl b
 |int i=>exact .int i
 |str x=>exact .str x
 |tup _ g=>exact .tup g
def dJ(h:Pl d t)(q:d<=e):Pl e t:=by
 induction q with
 |refl=>exact h
 |step _ g=>exact Oc g
def Ld k:Pl 0 (iV k):=by
 rcases k with (_ | i) | x
 .exact .non
 .exact .int i
 .exact .str x
def J9 sp:Pl 1 (sJ sp):=.tup fun t g=>by
 obtain⟨k,_,rfl⟩:=AL.1 g;exact Ld k
def Yb p:Pl 2 (kZ p):=.tup fun t g=>by
 obtain⟨sp,hs,rfl⟩:=AL.1 g;exact J9 sp
def NP c:Pl 1 (dQ c):=.tup fun t g=>by
 rcases Ai.1 g with rfl | g
 .exact .str _
 .cases AF.1 g;exact .int _
def wD(cs:List (Str×Int)):Pl 2 (.tup (cs.map dQ)):=.tup fun t g=>by
 obtain⟨c,_,rfl⟩:=AL.1 g;exact NP c
def Rb c:Pl 1 (Jr c):=.tup fun t g=>by
 simp only[List.mem_cons,List.not_mem_nil,or_false] at g
 rcases g with rfl | rfl | rfl
 .exact .str _
 .exact .str _
 .exact .int _
def Lx(h:lu):Pl 3 h.pv:=.tup fun t g=>by
 simp only[List.mem_cons,List.not_mem_nil,or_false] at g
 rcases g with rfl | rfl | rfl | rfl
 .exact .str _
 .exact .int _
 .exact .bl _
 .exact .tup fun t g=>by
   obtain⟨c,_,rfl⟩:=AL.1 g;exact Rb c
def Np: ∀d x,jr rs d x->Pl (2 * d+4) x.pv:=by
 intro d
 induction d with
 |zero=>intro x h;exact h.elim
 |succ d G =>
  intro x h
  have D:∀r:List Wt,(∀y∈r,jr rs d y)->Pl (2 * d+5) (.tup (Wt.gj r)):=fun r F=>.tup fun t q=>by
   rw[Wt.jx] at q;obtain⟨y,B,rfl⟩:=AL.1 q;exact G y (F y B)
  cases x with
  |plain sp J I hs r =>
   refine .tup fun t q=>?_
   simp only[List.mem_cons,List.not_mem_nil,or_false] at q
   rcases q with rfl | rfl | rfl | rfl | rfl | rfl
   .exact .str _
   .exact dJ (J9 sp) (by lia)
   .exact .str _
   .exact dJ (wD I) (by lia)
   .refine dJ (d:=4) (.tup fun t q=>?_) (Br _ _)
    obtain⟨y,B,rfl⟩:=AL.1 q;exact Lx y
   .exact D r h.2.2.1
  |part sp n g =>
   refine .tup fun t q=>?_
   simp only[List.mem_cons,List.not_mem_nil,or_false] at q
   rcases q with rfl | rfl | rfl | rfl
   .exact .str _
   .exact dJ (J9 sp) (by lia)
   .exact .str _
   .exact dJ (wD g) (by lia)
  |give sp n i r =>
   refine .tup fun t q=>?_
   simp only[List.mem_cons,List.not_mem_nil,or_false] at q
   rcases q with rfl | rfl | rfl | rfl | rfl
   .exact .str _
   .exact dJ (J9 sp) (by lia)
   .exact .str _
   .exact .int _
   .exact D r h.2.2.1
def Nv c:Pl 2 (yJ c):=.tup fun t g=>by
 rcases Ai.1 g with rfl | g
 .exact .tup fun t g=>by
   obtain⟨x,_,rfl⟩:=AL.1 g;exact .str x
 .cases AF.1 g;exact .int _
def FN{x:Pc}(h:mM rs 6 x.row):Pl 18 x.pv:=by
 refine .tup fun t g=>?_
 simp only[List.mem_cons,List.not_mem_nil,or_false] at g
 rcases g with rfl | rfl | rfl
 .refine dJ (d:=3) (.tup fun t g=>?_) (by decide)
  obtain⟨c,_,rfl⟩:=AL.1 g;exact Nv c
 .refine .tup fun t g=>?_
  rw[Wt.jx] at g;obtain⟨y,q,rfl⟩:=AL.1 g;exact Np 6 y (h.1 y q)
 .exact dJ (wD _) (by decide)
def Ig(x:jf):Pl 20 x.pv:=by
 refine .tup fun t g=>?_
 simp only[List.mem_cons,List.not_mem_nil,or_false] at g
 rcases g with rfl | rfl | rfl | rfl
 .exact dJ (Yb _) (by decide)
 .exact .str _
 .exact dJ (wD _) (by decide)
 .exact dJ (wD _) (by decide)
def Pz{e:En}(h:mM rs 6 e.pc.row):Pl 20 e.pv:=by
 refine .tup fun t g=>?_
 simp only[List.mem_cons,List.not_mem_nil,or_false] at g
 rcases g with rfl | rfl | rfl | rfl | rfl
 .exact dJ (Yb _) (by decide)
 .exact .str _
 .exact dJ (wD _) (by decide)
 .exact dJ (wD _) (by decide)
 .exact dJ (FN h) (by decide)
def Pn.of(h:Pl d t):Pn t:=by
 induction h with
 |non=>exact .non
 |bl b=>exact .bl b
 |int i=>exact .int i
 |str x=>exact .str x
 |tup _ g=>exact .tup g
theorem uD{α:Type}{f}: ∀{l:List α},(∀x∈l,pw (f x)<=c)->iT (l.map f)<=c * l.length
 |[],_ =>AW _
 |x::l,h=>by
  have h1:=uD fun y g=>h y (AJ _ g);have h2:=h x AG;rw[A9,iT,AV]
  lia
def iP ts:pw (.tup ts)=1+iT ts:=by rw[pw]
def Ia k:pw (iV k)<=1:=by rcases k with (_ | i) | x<;>simp[iV,pw]
def Ki sp:pw (sJ sp)<=1+sp.length:=by
 have:=uD (l:=sp) fun k _=>Ia k
 delta sJ
 rw[iP]
 lia
def N8 c:pw (dQ c)=3:=by delta dQ;simp[pw,iT]
def qR(cs:List (Str×Int)):pw (.tup (cs.map dQ))<=1+3 * cs.length:=by
 have:=uD (l:=cs) fun c _=>CM (N8 c);rw[iP]
 lia
def Oa{h:lu}(g:h.ch.length<=4):pw h.pv<=21:=by
 have:=uD (f:=Jr) (c:=4) (l:=h.ch) fun c _=>by delta Jr;simp[pw,iT]
 delta lu.pv
 simp only[pw,iT]
 lia
def N7: ∀d x,jr rs d x->pw x.pv<=105 * x.wc:=by
 intro d
 induction d with
 |zero=>intro x h;exact h.elim
 |succ d L =>
  intro x h
  have F:∀r:List Wt,(∀y∈r,jr rs d y)->iT (Wt.gj r)<=105 * Wt.jw r:=by
   intro r
   induction r with
   |nil=>intro _;rw[Wt.gj,iT];exact AW _
   |cons y r M =>
    intro D;have h1:=M fun z J=>D z (AJ _ J);have h2:=L y (D y AG);rw[Wt.gj,iT,Wt.jw]
    lia
  cases x with
  |plain sp S N hs r =>
   have h1:=h.1.l;have h2:=h.2.1;have B:=Ki sp;have q:=qR N;have O:=uD fun y I=>Oa (h2.2.2.1 y I);have G:=F r h.2.2.1;rw[Wt.pv,Wt.wc];rw[iP] at q
   simp only[pw,iT]
   lia
  |part sp n g =>
   have h1:=h.1.l;have h2:=h.2.2.1;have B:=Ki sp;have q:=qR g;rw[Wt.pv,Wt.wc];rw[iP] at q
   simp only[pw,iT]
   lia
  |give sp n i r =>
   have h1:=h.1.l;have B:=Ki sp;have G:=F r h.2.2.1;rw[Wt.pv,Wt.wc]
   simp only[pw,iT]
   lia
def ph(cs:List (List Str×Int)):dw:=cs.map fun c=>(c.1.map Sum.inr,.int c.2)
abbrev Ew:List Str:=["take","box","down"]
def RP(cs:List (List Str×Int)):Prop:=∀c∈cs,∃s n,c.1=[s,n]/\Ew.contains s=true/\nL n=true/\Bd c.2
def HR(h:t7 x=true):∃s n i,x=yJ ([s,n],i)/\Ew.contains s=true/\nL n=true/\Bd i:=by
 delta t7 at h
 split at h
 .next q n =>
  rw[BJ] at h;obtain⟨h1,h2⟩:=h
  delta HX at h2
  split at h2
  .next s m =>
   rw[BJ] at h2;obtain⟨h2,g⟩:=h2
   cases n with
   |int i =>
    have h1:(decide (-1000000000<=i)&&decide (i<=1000000000))=true:=h1;rw[BJ] at h1
    cases s with
    |str s =>
     cases m with
     |str n=>exact⟨s,n,i,rfl,h2,g,BD h1.1,BD h1.2⟩
     |_=>cases g
    |_=>cases h2
   |_=>cases h1
  .cases h2
 .cases h
def HQ(h1:Ew.contains s=true)(h2:nL n=true)(g:Bd i):t7 (yJ ([s,n],i))=true:=by
 show((decide (-1000000000<=i)&&decide (i<=1000000000))&&(Ew.contains s&&nL n))=true;rw[h1,h2,Af g.1,Af g.2]
 rfl
theorem Kc:∀{ts},(ts.map t7).all id=true->∃cs,ts=cs.map yJ/\RP cs
 |[],_=>⟨[],rfl,fun _ z=>nomatch z⟩
 |t::ts,h=>by
  rw[A9,Cs,BJ] at h;refine sQ (Kc h.2) fun cs e o=>Jo (HR h.1) fun s n i q o'=>⟨([s,n],i)::cs,by rw[e,q];rfl,fun c g=>?_⟩
  rcases Ai.1 g with rfl | g
  .lia
  .exact o c g
def u6(h:RP cs):HN (.tup (cs.map yJ))=true:=by
 show((cs.map yJ).map t7).all id=true;rw[Bh];intro b q;obtain⟨t,D,rfl⟩:=AL.1 q;obtain⟨c,B,rfl⟩:=AL.1 D;obtain⟨s,n,e,h1,h2,g⟩:=(h c B);obtain⟨F,G⟩:=c;cases e;exact HQ h1 h2 g
theorem sM:∀{cs},RP cs->ZL (cs.map yJ)=some (ph cs)
 |[],_=>rfl
 |c::cs,h=>by
  have B:=sM fun x q=>h x (AJ _ q);obtain⟨s,n,e,_⟩:=(h c AG);obtain⟨D,g⟩:=c;cases e;show(match some ([Sum.inr s,Sum.inr n]:List Key),ZL (cs.map yJ) with | some k,some ps=>some ((k,PV.int g)::ps) | _,_=>none)=_;rw[B]
  rfl
theorem eO[DecidableEq κ](g:κ->PV):∀ps acc,(∀p∈ps,p.2=g p.1)->∀k,aZ (jc acc ps) k=if k∈ps.map (·.1) then some (g k) else aZ acc k
 |[],acc,_,k=>by rfl
 |p::ps,acc,h,k=>by
  show aZ (jc (gm acc p.1 p.2) ps) k=_;rw[eO g ps _ (fun x q=>h x (AJ _ q)) k,yL]
  by_cases e:k∈ps.map (·.1)
  .grind
  .grind
theorem Xz:∀ps acc,jy ps->jy acc->jy (jc acc ps)
 |[],acc,_,h=>h
 |p::ps,acc,h,q=>Xz ps (gm acc p.1 p.2) (fun x g=>h x (AJ _ g)) fun x g=>by
  rcases zR g with e | e
  .exact e▸h p AG
  .exact q x e
def Ml(h:RP cs):jy (ph cs):=fun D B=>by
 obtain⟨c,q,rfl⟩:=AL.1 B;exact mT (h c q) fun _ _ _ _ _ g=>⟨c.2,rfl,g⟩
section
variable {A:dw}{rs:List Str}{cap:Nat}{x:Pt}
def Kj: nH A bs fun R=>∀q∈R,∃s n,gM bs s n/\q=(qK s n,.int (rK A s n)):=fun R s n h B q g=>by
 delta gm at g
 split at g
 .grind
 .grind
def mY(g:jh rs cap x):∀q∈yB A x,∃s n,gM (x.first.map (·.1)) s n/\q=(qK s n,.int (rK A s n)) :=
 jZ Kj g.wk (vJ Kj g.ls fun _ z=>nomatch z)
def jW: c∈(wZ A x).reads↔c∈(yB A x).map o8:=(eM _).mem_iff
def mV(B:jh rs cap x)(h:c∈(wZ A x).reads):∃s n,gM (x.first.map (·.1)) s n/\c=([s,n],rK A s n):=by
 obtain⟨q,g,rfl⟩:=AL.1 (jW.1 h);obtain⟨s,n,h1,rfl⟩:=mY B q g;exact⟨s,n,h1,rfl⟩
def fL(g:jh rs cap x)(B:jy A):RP (wZ A x).reads:=fun c D=>by
 obtain⟨s,n,h1,rfl⟩:=mV g D;refine⟨s,n,rfl,?_,?_,(bM B s n).2⟩
 .rcases h1 with ⟨rfl | rfl,_⟩ | ⟨rfl,_⟩<;>decide +kernel
 .rcases h1 with ⟨_,h⟩ | ⟨_,h⟩
  .have q:∀m∈(["a","ab","b"]:List Str),nL m=true:=by decide +kernel
   exact q n h
  .obtain ⟨y,F,rfl⟩:=AL.1 h
   exact g.bn y F
def VN(B:jh rs cap x):Ag A (jc [] (ph (wZ A x).reads)) (yB A x):=fun s n g=>by
 obtain⟨G,q,e⟩:=(AL.1 g);obtain⟨s',I,_,rfl⟩:=mY B G q;cases e
 have v:=eO (fun k:List Key=>match k with | [.inr s,.inr n]=>PV.int (rK A s n) | _=>.non) (ph (wZ A x).reads) [] (fun p F=>by
  obtain⟨c,D,rfl⟩:=AL.1 F;obtain⟨s,n,_,rfl⟩:=mV B D
  rfl) (qK s n)
 have g:qK s n∈(ph (wZ A x).reads).map (·.1):=AL.2 ⟨(qK s n,.int (rK A s n)),AL.2 ⟨([s,n],rK A s n),jW.2 (AL.2 ⟨_,q,rfl⟩),rfl⟩,rfl⟩;rw[Ab g] at v;show _=(match aZ (jc [] (ph (wZ A x).reads)) (qK s n) with | some (.int i)=>i | _=>0);rw[v]
def ZQ(g:jh rs cap x)(q:jy A):mM rs 6 (wZ A x).row:=W2 g.ls ⟨q,(fun _ z=>nomatch z),(fun _ z=>nomatch z),by rw[AC];exact g.fl⟩ g.b8 (by have:=g.tw;lia)
def pO(g:jh rs cap x)(q:jy A):(wZ A x).reads.length<=10:=by
 have h1:=(eM ((yB A x).map o8)).length_eq;have h2:iw (x.first.map (·.1)) (yB A x):=jZ (cX q) g.wk (vJ (cX q) g.ls ⟨Bi,(fun _ z=>nomatch z),(fun _ z=>nomatch z)⟩);have B:=h2.len;have D:=g.fl;rw[AC] at h1 B;show(xH _).length<=_
 lia
def FJ(g:jh rs cap x)(B:jy A):pw (wZ A x).pv<=1000000:=by
 have h1:=pO g B
 have h2:=uD (f:=yJ) (c:=5) (l:=(wZ A x).reads) fun c I=>by
  obtain⟨s,n,_,rfl⟩:=mV g I
  delta yJ
  simp[pw,iT]
 have O:iT (Wt.gj (wZ A x).row)<=105 * Wt.jw (wZ A x).row:=by
  have F:∀r:List Wt,(∀y∈r,jr rs 6 y)->iT (Wt.gj r)<=105 * Wt.jw r:=by
   intro r
   induction r with
   |nil=>intro _;rw[Wt.gj,iT];exact AW _
   |cons y r L =>
    intro D;have M:=L fun z J=>D z (AJ _ J);have N:=N7 6 y (D y AG);rw[Wt.gj,iT,Wt.jw]
    lia
  exact F _ (ZQ g B).1
 have q:=cW A x.ls [] ([],[],[]);have q:Wt.jw (wZ A x).row<=0+Ln.f9 x.ls:=q;have S:=g.tw;have G:=qR (wZ A x).works;have U:(wZ A x).works.length<=4:=by show(iX A [] x.works).length<=4;delta iX;rw[AC];exact g.wl
 rw[iP] at G
 delta Pc.pv
 simp only[pw,iT]
 lia
end
section
variable {W:Wd}{a:Adr}
def Pg(x:PV):Prop:=∀ts y z,x=.tup [.tup ts,y,z]->ts.length<=sizeLine/\∀t∈ts,Sg t
def S8{α:Type}x y z u(r:List α)k(h:k=3):(!decide (((x::y::z::u::r).length:Int)=k))=true :=by grind
inductive gLp(ts:List PV)(C:CH)(Q:K1):Prop
 |mk(pt:Pt)(x:PV)(rs:List Str)(cap:Nat)(z0:ts=[pt.pv,x])(z1:jh rs cap pt)(z2:Th C x)(z3:Pg x)(z4:∀b C',(b=true↔∃A,jy A/\x=(wZ A pt).pv)->Gr C C'->Q (.bl b) C')
def qT(T:Tx W a):Ok W a 30 11 ["part","piece"] gLp:=by
 have S:=(T.F 11 rfl).s;have Zk:=(xI T).mono (show 3<=29 by decide);have QN:=(Xq T).mono (show 3<=29 by decide);have cP:=Xm T
 refine(T.F 11 rfl).o (fun B=>(xQ (iQ (ji (jj (oK (nZ (lQ qX lZ rfl T.tQ rfl (qQ (cv 1) (c7 (aK rfl T.fZ rfl)))))) (jj (ct2 iF nG (ou T.nW (cv 1)) zQ) (je (oK (nZ (cf (T.F 12 rfl) Zk B (c7 (cx (cv 1) zQ))))))))) (kQ (gQ tV)) rQ)
  (kQ (gQ (cf (T.F 3 rfl) QN B (qQ (cv 1) (c7 (cf (T.F 10 rfl) cP B (qQ (cv 0) (c7 (lJ (JC rfl (zM B)) Wq rfl T.rP rfl (c7 (cx (cv 1) zQ))))))))))))) ?_
 rintro ts C R ⟨Z,x,rs,cap,rfl,F,hx,U,q⟩;have D:∀C',(∀A,jy A->x≠(wZ A Z).pv)->Gr C C'->R (.bl false) C':=fun C' h g=>q false C' ⟨(fun z=>nomatch z),fun L=>sQ L fun A k e=> (h A k e).elim⟩ g
 cases hx with
 |@tup ts Y =>
  refine tX rfl rfl (lF (lR (zX (oJ _ _) ?_)))
  rcases ts with _ | ⟨r,_ | ⟨y,_ | ⟨z,_ | ⟨u,l⟩⟩⟩⟩
  .exact uZ rfl (D C (fun A _ e=>nomatch PV.tup.inj e) Gr.refl)
  .exact uZ rfl (D C (fun A _ e=>nomatch PV.tup.inj e) Gr.refl)
  .exact uZ rfl (D C (fun A _ e=>nomatch PV.tup.inj e) Gr.refl)
  .refine gX rfl (aQ rfl ⟨r,rfl,Y r AG,fun ts e=>U ts y z (by rw[e]),fun C1 O=>?_⟩)
   cases B:HN r with
   |false =>
    refine hJ (D C1 (fun A G e=>?_) O);have e0:=PV.tup.inj e;injection e0 with I _
    rw[I,u6 (fL F G)] at B;cases B
   |true =>
    refine lF (pX ?_)
    cases r with
    |tup ts =>
     obtain⟨cs,rfl,J⟩:=Kc B;refine aQ rfl (yx (sM J) ?_ fun d ah=>?_)
     .delta ph
      rw[AC];have:=(U _ y z rfl).1
      rwa [AC] at this
     have G:jy (jc [] (ph cs)):=Xz _ _ (Ml J) fun _ z=>nomatch z;refine⟨Z,d,_,rs,cap,rfl,F,jQ,G,fun C2 ab=>?_⟩;have N:=(O.trans (Gr.new ah _)).trans ab;refine⟨_,_,rfl,(Th.tup Y).gr N,Pn.of (FN (ZQ F G)),FJ F G,fun b C3 hb ae=>q b C3 ?_ (N.trans ae)⟩;rw[hb];refine⟨fun e=>⟨_,G,e⟩,fun L=>sQ L fun A ag e=> ?_⟩;injection (PV.tup.inj e) with I _
     have M:=sM J;rw[(PV.tup.inj I),sM (fL F ag)] at M;rw[e,(Yz F (VN F)).1,Al M]
    |_=>cases B
  .exact uZ (S8 _ _ _ _ _ _ rfl) (D C (fun A _ e=>nomatch PV.tup.inj e) Gr.refl)
 |lst h=>exact tX rfl h (hJ (D C (fun A _ e=>nomatch e) Gr.refl))
 |dct h=>exact tX rfl h (hJ (D C (fun A _ e=>nomatch e) Gr.refl))
 |_=>exact tX rfl rfl (hJ (D C (fun A _ e=>nomatch e) Gr.refl))
end
theorem eC:∀L A,(zW L A).length<=A.length+(L.map fun e=>e.2.length).sum
 |[],A=>AI _
 |e::L,A=>by
  have h1:=eC L (cJ e.1 e.2 A);have h2:=uV (s:=e.1) e.2 A;show(zW L (cJ e.1 e.2 A)).length<=_;rw[A9,List.sum_cons]
  lia
section
variable {W:Wd}{a:Adr}
inductive gPo(ts:List PV)(C:CH)(Q:K1):Prop
 |mk(pts:List Pt)(x:Pt)(z0:ts=[.tup (pts.map Pt.pv),.str x.name])(z1:(rJ pts).Nodup)(z2:x∈pts)(z3:Q x.pv C)
def pD(T:Tx W a):Ok W a 1 9 ["house","name"] gPo:=by
 refine(T.F 9 rfl).o (fun U=>(xQ (rV PassesOwn.never rfl (cv 0) (jn 2 ((T.F 9 rfl).s).nd) (kQ (iQ (ct2 lX vX (cx (cv 2) zQ) (cv 1)) (kQ (gQ (cv 2))) rQ)))
  (kQ (gQ sZ)))) ?_
 rintro ts C R ⟨I,x,rfl,nd,N,q⟩;refine pZ (jM rfl (wJ (fun zs M C'=>C'=C/\∃g vs J,I=g++vs/\zs=vs.map Pt.pv/\(∀u∈g,u.name≠x.name)/\M=[some (.tup (I.map Pt.pv)),some (.str x.name),J]) ?_ ?_ _ _ _ ⟨rfl,[],I,_,rfl,rfl,(fun _ z=>nomatch z),rfl⟩))
 .rintro z zs M C' ⟨rfl,g,vs,J,e,F,G,rfl⟩ L S
  cases vs with
  |nil=>cases F
  |cons v vs =>
  obtain⟨rfl,rfl⟩:=Az F;refine aQ rfl (zX (fQ _ _) (rF (fun B=>?_) fun B=>?_))
  .have B:=BD B
   have O:=aN nd (e▸AO _ AG) B;rw[aN nd N rfl] at O;rw[O] at q;exact q
  .refine pX (S _ _ ⟨rfl,g++[v],vs,_,by rw[AX];exact e,rfl,fun u D=>?_,rfl⟩)
   rcases Ax.1 D with D | D
   .exact G u D
   .grind
 .rintro M C' ⟨rfl,g,vs,J,e,F,G,rfl⟩
  cases vs with
  |cons v vs=>cases F
  |nil =>
  rw[Aa] at e;subst e;exact absurd rfl (G x N)
inductive gBx(ts:List PV)(C:CH)(Q:K1):Prop
 |mk(y:Pt)(vv:Addr)(V:Vl)(p:iK)(z0:ts=[y.pv,.ref vv,kZ p])(z1:C vv=some (.dP (qw V)))(z2:Q (.tup ((rX V y p).map dQ)) C)
def Xo(T:Tx W a):Ok W a 1 19 ["part","values","path"] gBx:=by
 refine(T.F 19 rfl).o (fun B=>(xQ (fj 3 ((T.F 19 rfl).s).nd (Mu Bx BL Cp (w6 (zM B)) G4 (cv 1) (c7 (cv 2))))
  (xQ (iQ (ji (jj (ct2 lB vG (cv 3) sZ) (je (ct2 iF nG (cx (cv 3) zQ) (cx (cv 0) zQ))))) (kQ (gQ (cx (cv 0) zQ))) rQ)
  (kQ (gQ (cx (cv 3) zQ)))))) ?_
 rintro ts C R ⟨y,D,V,p,rfl,g,q⟩;refine yQ ⟨⟨D,_,rfl,g⟩,Ly g (cB p) ?_⟩;rw[yA]
 delta rX at q
 cases e:wN V p with
 |none =>
  rw[e] at q
  apply pZ
  delta JJ Rp
  refine xK (x:=.non) ?_ ?_
  .rfl
  exact yT rfl (aQ rfl q)
 |some v =>
  rw[e] at q;dsimp only at q
  apply pZ
  delta JJ Rp
  refine xK (x:=M6 v) ?_ ?_
  .rfl
  refine uT rfl (aQ cQ (aQ cQ (zX (fQ _ _) ?_)))
  by_cases h:v.1=y.name
  .rw [Ab h] at q
   apply gX (by lia)
   exact pX (aQ rfl q)
  .rw [Ac h] at q
   apply uZ (by lia)
   exact aQ rfl q
inductive gAt(ts:List PV)(C:CH)(Q:K1):Prop
 |mk(x:jf)(bx:List (Str×Int))(z0:ts=[.tup (x.gives.map dQ),.tup (x.downs.map dQ),.tup (bx.map dQ)])(z1:x.gives.length+x.downs.length+bx.length<=100)(z2:∀aa C',C aa=none->C' aa=some (.dT (pV x bx))->Gr C C'->Q (.ref aa) C')
def jT(T:Tx W a):Ok W a 1 18 ["gives","downs","boxes"] gAt:=by
 have S:=(T.F 18 rfl).s
 refine(T.F 18 rfl).ok (fun ts C R h=>?_) fun ah A ai s H E hr=>⟨_,(xQ (fj 3 S.nd wC)
  (xQ (rV PassesOwn.never rfl (wQ (qQ (wQ (qQ bQ (c7 (cv 0)))) (qQ (wQ (qQ bQ (c7 (cv 1)))) (c7 (wQ (qQ bQ (c7 (cv 2)))))))) (cY rfl (xX (jn 4 S.nd) (xX (jn 5 S.nd) sV))) (kQ (rV PassesOwn.never rfl (cv 5) (cY rfl (xX (jn 6 S.nd) (xX (jn 7 S.nd) sV))) (kQ (vC (yK hr) (cv 3) (wQ (qQ (cv 4) (c7 (cv 6)))) (cv 7))))))
  (kQ (gQ (cv 3))))),?_⟩
 .obtain ⟨_,_,rfl,_⟩:=h;rfl
 rintro ts C R ⟨x,D,rfl,hl,q⟩
 apply yQ
 intro aa Z;have hs:((oF x D).map fun e=>e.2.length).sum<=100:=by show x.gives.length+(x.downs.length+(D.length+0))<=100;lia
 refine qJ (fun ab C'=>∃J M F G,ab=[some (.tup (x.gives.map dQ)),some (.tup (x.downs.map dQ)),some (.tup (D.map dQ)),some (.ref aa),J,M,F,G]/\C' aa=some (.dT (pV x D))/\Gr C C') (fun L hL=>?_) ?_
 .refine Jl ⟨ie 2 rfl,?_⟩
  refine⟨ie 2 rfl,?_⟩;refine⟨ie 2 rfl,?_⟩;refine⟨ie 3 rfl,?_⟩;refine wJ (fun zs I C'=>∃(B vs:List (Str×List (Str×Int)))(J M F G:Option PV),oF x D=B++vs/\zs=vs.map uv/\I=[some (.tup (x.gives.map dQ)),some (.tup (x.downs.map dQ)),some (.tup (D.map dQ)),some (.ref aa),J,M,F,G]/\C' aa=some (.dT (zW B []))/\Gr C C') ?_ ?_ _ _ _ ⟨[],oF x D,_,_,_,_,rfl,rfl,rfl,jQ,Gr.new Z _⟩
  .rintro z zs I U ⟨B,vs,J,M,F,G,e,g,rfl,O,N⟩ L1 ae
   cases vs with
   |nil=>cases g
   |cons v vs =>
   obtain⟨rfl,rfl⟩:=Az g;refine⟨rfl,bX (bX (dY ?_))⟩
   apply jM rfl
   have hu:=eC B [];rw[e,AS,List.sum_append,A9,List.sum_cons] at hs;have hu:(zW B []).length<=0+_:=hu;refine wJ (fun zs I C'=>∃(ps qs:List (Str×Int))(F G:Option PV),v.2=ps++qs/\zs=qs.map dQ/\I=[some (.tup (x.gives.map dQ)),some (.tup (x.downs.map dQ)),some (.tup (D.map dQ)),some (.ref aa),some (.str v.1),some (.tup (v.2.map dQ)),F,G]/\C' aa=some (.dT (cJ v.1 ps (zW B [])))/\Gr C C') ?_ ?_ _ _ _ ⟨[],v.2,_,_,rfl,rfl,rfl,O,N⟩
   .rintro z zs I C4 ⟨ps,qs,y6,y7,ep,g,rfl,m4,Y⟩ L2 ag
    cases qs with
    |nil=>cases g
    |cons c qs =>
    obtain⟨rfl,rfl⟩:=Az g;refine⟨rfl,bX (bX (dY ⟨ie 2 rfl,?_⟩))⟩;have hp:=uV (s:=v.1) ps (zW B []);have hv:=Bu List.length ep;rw[AQ] at hv
    apply gA m4 rfl (by lia)
    refine ag _ _ ⟨ps++[c],qs,_,_,by rw[AX];exact ep,rfl,rfl,?_,lG Y Z _⟩;rw[jQ]
    delta cJ
    rw[Au]
    rfl
   .rintro I C4 ⟨ps,qs,y6,y7,ep,g,rfl,m4,Y⟩
    cases qs with
    |cons c qs=>cases g
    |nil =>
    rw[Aa] at ep;refine ae _ _ ⟨B++[v],vs,_,_,_,_,by rw[AX];exact e,rfl,rfl,?_,Y⟩;rw[m4,<- ep]
    delta zW
    rw[Au]
    rfl
  .rintro I U ⟨B,vs,J,M,F,G,e,g,rfl,O,N⟩
   cases vs with
   |cons v vs=>cases g
   |nil =>
   rw[Aa] at e;exact hL _ _ ⟨_,_,_,_,rfl,by rw[O,<- e];rfl,N⟩
 rintro ab U ⟨J,M,F,G,rfl,O,N⟩;exact q aa U Z O N
end
def Zy(e:x=.tup xs)(h:¬ (HT.sIx xs.length 0 lo=0/\HT.sIx xs.length xs.length hi=xs.length))(q:Q (.tup (Wl xs lo hi)) C):Dw x lo hi C Q:=by
 subst e
 delta Dw
 exact⟨h,q⟩
def RL{cap}(g:jh rs cap y)(M:jy A)(N:jy B)(e:(wZ A y).pv=(wZ B y).pv):Ag A B (yB A y):=fun s n U=>by
 injection (PV.tup.inj e) with G _
 have D:=sM (fL g M);rw[PV.tup.inj G,sM (fL g N)] at D;obtain⟨Y,F,L⟩:=(AL.1 U);obtain⟨s',Z,_,rfl⟩:=mY g Y F;cases L;have S:(qK s n,PV.int (rK A s n))∈ph (wZ B y).reads :=(Al D)▸AL.2 ⟨([s,n],rK A s n),jW.2 (AL.2 ⟨_,F,rfl⟩),rfl⟩;obtain⟨c,O,J⟩:=(AL.1 S);obtain⟨s',Z,_,rfl⟩:=mV g O;injection J with I q
 cases I;injection q with q
 exact q.symm
section
variable {W:Wd}{a:Adr}
inductive gAd(ts:List PV)(C:CH)(Q:K1):Prop
 |mk(pts:List Pt)(vv:Addr)(V:Vl)(x:jf)(y:Pt)(z0:ts=[.tup (pts.map Pt.pv),.ref vv,x.pv])(z1:(rJ pts).Nodup)(z2:y∈pts)(z3:y.name=x.name)(z4:C vv=some (.dP (qw V)))(z5:x.gives.length+x.downs.length+(rX V y x.path).length<=100)(z6:∀aa C',C aa=none->C' aa=some (.dT (pV x (rX V y x.path)))->Gr C C'->Q (.ref aa) C')
def rB(T:Tx W a):Ok W a 2 20 ["house","values","due"] gAd:=by
 have M:=pD T;have D:=Xo T;have F:=jT T
 refine(T.F 20 rfl).o (fun B=>(xQ (fj 3 ((T.F 20 rfl).s).nd (cf (T.F 19 rfl) D B (qQ (cf (T.F 9 rfl) M B (qQ (cv 0) (c7 (cx (cv 2) zQ)))) (qQ (cv 1) (c7 (cx (cv 2) zQ))))))
  (kQ (gQ (cf (T.F 18 rfl) F B (qQ (cx (cv 2) zQ) (qQ (cx (cv 2) zQ) (c7 (cv 3))))))))) ?_
 rintro ts C R ⟨N,O,V,x,y,rfl,nd,L,I,J,G,q⟩;have g:x.pv=.tup [kZ x.path,.str x.name,.tup (x.gives.map dQ),.tup (x.downs.map dQ)]:=rfl;refine yQ (oQ g rfl ⟨N,y,by rw[I],nd,L,?_⟩);exact oQ g rfl ⟨y,O,V,x.path,rfl,J,oQ g rfl (oQ g rfl ⟨x,rX V y x.path,rfl,G,q⟩)⟩
inductive gAw(ts:List PV)(C:CH)(Q:K1):Prop
 |mk(A B:dw)(y:Pt)(rs:List Str)(cap:Nat)(aa:Addr)(z0:ts=[(wZ A y).pv,.ref aa])(z1:jh rs cap y)(z2:jy A)(z3:jy B)(z4:C aa=some (.dT B))(z5:∀b C',(b=true↔Ag A B (yB A y))->Gr C C'->Q (.bl b) C')
def kN(T:Tx W a):Ok W a 1 21 ["piece","answers"] gAw:=by
 have S:=(T.F 21 rfl).s;refine(T.F 21 rfl).o (fun Z=>(kQ (gQ (lQ (wM rfl) yP rfl T.QP rfl (c7 (zY rfl (S.c (by decide +kernel)) (S.k rfl rfl rfl (by decide +kernel)) (tU (cx (cv 0) zQ)) (fun _ _ _ _ _=>oV) (fun _ _ _ _ _=>(lY lX vX (vP (yK Z) (cv 2) (cx (cv 0) zQ) zQ) (cx (cv 0) zQ) (fG _))))))))) ?_;rintro ts C R ⟨A,B,y,rs,cap,aa,rfl,G,M,N,ma,q⟩
 apply aQ (xs:=[.tup ((wZ A y).reads.map yJ),.tup (Wt.gj (wZ A y).row),.tup ((wZ A y).works.map dQ)]) (v:=.tup ((wZ A y).reads.map yJ)) rfl
 have ab:=pO G M;refine yF (fun t=>match t with | .tup [.tup [.str s,.str n],.int i]=>.bl (decide (rK B s n=i)) | _=>.non) ((wZ A y).reads.map yJ) [] C Gr.refl (yW (by rw[Da,AC];lia)) (fun t ht C1 Q' g Y=>?_) fun p C1 h3 g m=>?_
 .obtain ⟨c,D,rfl⟩:=AL.1 ht
  obtain⟨s,n,_,rfl⟩:=mV G D;have J:=g _ _ ma;exact⟨nI J,aQ rfl (bA J rfl (bM N s n).1 (aQ rfl (zX (oJ _ _) (Y C1 Gr.refl))))⟩
 .refine Zg (bs:=(wZ A y).reads.map fun c=>decide (rK B (c.1.getD 0 "") (c.1.getD 1 "")=c.2)) (by
   rw[m,Cw,BP,BP]
   congr 2
   refine CY fun c D=>?_;obtain⟨s,n,_,rfl⟩:=mV G D
   rfl) ?_
  refine q _ C1 ?_ g;rw[Bh];refine⟨fun h s n U=>?_,fun h b O=>?_⟩
  .obtain ⟨I,F,L⟩:=(AL.1 U)
   obtain⟨s',n',_,rfl⟩:=mY G I F;cases L;have:=h _ (AL.2 ⟨([s,n],rK A s n),jW.2 (AL.2 ⟨_,F,rfl⟩),rfl⟩);exact(BD this).symm
  .obtain ⟨c,D,rfl⟩:=AL.1 O
   obtain⟨I,F,rfl⟩:=AL.1 (jW.1 D);obtain⟨s,n,_,rfl⟩:=mY G I F;exact Af (h s n (AL.2 ⟨_,F,rfl⟩)).symm
noncomputable def Mg:Option jf->PV
 |some x=>x.pv
 |none=>.non
def Eg(x:PV):Prop:=∀a b c d p,x=.tup [a,b,c,d,p]->Pg p
inductive gLd(ts:List PV)(C:CH)(Q:K1):Prop
 |mk(pts:List Pt)(vv:Addr)(V:Vl)(du:Option jf)(x:PV)(z0:ts=[.tup (pts.map Pt.pv),.ref vv,Mg du,x])(z1:sG pts)(z2:lr V)(z3:C vv=some (.dP (qw V)))(z4:(∀d,du=some d->(∃k,uB pts k d)/\pw d.pv<=1000000))(z5:Th C x)(z6:Eg x)(z7:∀b C',(b=true↔∃d,du=some d/\x=(En.mk d (nK pts V d)).pv)->Gr C C'->Q (.bl b) C')
def S7{α:Type}x y z u v t(r:List α)k(h:k=5):(!decide (((x::y::z::u::v::t::r).length:Int)=k))=true :=by grind[decide_eq_false,List.length_cons]
def Xl(T:Tx W a):Ok W a 31 22 ["house","values","due","entry"] gLd:=by
 have S:=(T.F 22 rfl).s;have QN:=(Xq T).mono (show 3<=30 by decide);have mU:=(pD T).mono (show 1<=30 by decide);have QK:=qT T;have oG:=(rB T).mono (show 2<=30 by decide);have kL:=(kN T).mono (show 1<=30 by decide)
 refine(T.F 22 rfl).o (fun G=>(xQ (iQ (ji (jj (ct2 lB vG (cv 2) sZ) (jj (oK (nZ (lQ qX lZ rfl T.tQ rfl (qQ (cv 3) (c7 (aK rfl T.fZ rfl)))))) (je (ct2 iF nG (ou T.nW (cv 3)) zQ))))) (kQ (gQ tV)) rQ)
  (xQ (iQ (ji (jj (oK (nZ (cf (T.F 3 rfl) QN G (qQ (Jx (cv 3) Qi (Qh zQ)) (c7 (cv 2)))))) (je (oK (nZ (cf (T.F 11 rfl) QK G (qQ (cf (T.F 9 rfl) mU G (qQ (cv 0) (c7 (cx (cv 2) zQ)))) (c7 (cx (cv 3) zQ))))))))) (kQ (gQ tV)) rQ)
  (kQ (gQ (cf (T.F 21 rfl) kL G (qQ (cx (cv 3) zQ) (c7 (cf (T.F 20 rfl) oG G (qQ (cv 0) (qQ (cv 1) (c7 (cv 2))))))))))))) ?_
 rintro ts C R ⟨I,vv,V,du,x,rfl,hs,hV,hv,aq,hx,hg,q⟩;have D:∀C',(∀d,du=some d->x≠(En.mk d (nK I V d)).pv)->Gr C C'->R (.bl false) C':=fun C' h g=>q false C' ⟨(fun z=>nomatch z),fun zz=>sQ zz fun d k e=> (h d k e).elim⟩ g
 cases du with
 |none =>
  apply pZ
  delta JJ Rp
  refine xK (x:=.non) ?_ ?_
  .rfl
  exact yT rfl (D C (fun d e=>nomatch e) Gr.refl)
 |some d =>
 obtain⟨⟨k,L⟩,au⟩:=aq d rfl;obtain⟨y,B⟩:=eT hs hV L
 have av:k < I.length:=by
  have:=(AU.1 L.nm).1;unfold rJ at this;rw[AC] at this;exact this
 have h6:=hs.n6;have hb:=uM hV B.ok d.path;have Z:nK I V d=wZ (pV d (rX V y d.path)) y:=by delta nK;rw[B.is]
 have ar:d.pv=.tup [kZ d.path,.str d.name,.tup (d.gives.map dQ),.tup (d.downs.map dQ)]:=rfl
 apply pZ
 delta JJ Rp
 refine xK (x:=d.pv) ?_ ?_
 .rfl
 apply uT rfl
 cases hx with
 |@tup ts ah =>
  refine tX rfl rfl (lF (lR (zX (oJ _ _) ?_)))
  rcases ts with _ | ⟨ai,_ | ⟨x1,_ | ⟨x2,_ | ⟨x3,_ | ⟨J,_ | ⟨x5,l⟩⟩⟩⟩⟩⟩
  .exact uZ rfl (D C (fun d _ e=>nomatch PV.tup.inj e) Gr.refl)
  .exact uZ rfl (D C (fun d _ e=>nomatch PV.tup.inj e) Gr.refl)
  .exact uZ rfl (D C (fun d _ e=>nomatch PV.tup.inj e) Gr.refl)
  .exact uZ rfl (D C (fun d _ e=>nomatch PV.tup.inj e) Gr.refl)
  .exact uZ rfl (D C (fun d _ e=>nomatch PV.tup.inj e) Gr.refl)
  .refine gX rfl (pX ?_)
   have N:∀ae:Pc,PV.tup [ai,x1,x2,x3,J]=(En.mk d ae).pv↔PV.tup [ai,x1,x2,x3]=d.pv/\J=ae.pv:=by
    intro ae
    constructor
    .intro e
     have O:=PV.tup.inj e;cases O;exact⟨rfl,rfl⟩
    .rintro ⟨e,rfl⟩
     have O:=PV.tup.inj e;cases O
     rfl
   apply Zy rfl (by show ¬ (0=0/\4=5);decide)
   refine⟨_,d.pv,rfl,Th.tup fun t ht=>ah t ?_,Pn.of (Ig d),au,fun b1 C1 M F=>?_⟩
   .have ht:=ht
    exact Ak [J] ht
   have M:=M
   cases b1 with
   |false =>
    refine hJ (D C1 (fun d' U e=>?_) F);cases U;exact nomatch M.2 ((N _).1 e).1
   |true =>
    have U:=M.1 rfl;refine lF (oQ ar rfl ⟨I,y,by rw[B.nm],hs.nd,B.mem,?_⟩);refine aQ rfl ⟨y,J,_,_,rfl,B.ok,(ah J (by simp)).gr F,hg _ _ _ _ _ rfl,fun b2 C2 ag ab=>?_⟩
    cases b2 with
    |false =>
     refine hJ (D C2 (fun d' Y e=>?_) (F.trans ab));cases Y;exact nomatch ag.2 ⟨_,B.ab,by rw[<- Z];exact((N _).1 e).2⟩
    |true =>
     obtain⟨aj,hB,rfl⟩:=ag.1 rfl;refine lF (pX (aQ rfl ?_));have:=L.gl;have:=L.dl;refine⟨I,vv,V,d,y,rfl,hs.nd,B.mem,B.nm,(F.trans ab) _ _ hv,by lia,fun aa C3 _ m3 ak=>?_⟩;refine⟨aj,_,y,_,_,aa,rfl,B.ok,hB,B.ab,m3,fun b3 C4 ao g4=>q b3 C4 ?_ (((F.trans ab).trans ak).trans g4)⟩;rw[ao];refine⟨fun h=>⟨d,rfl,(N _).2 ⟨U,by rw[Z,(Yz B.ok h).1]⟩⟩,fun zz=>sQ zz fun d' Y e=> ?_⟩;cases Y
     exact RL B.ok hB B.ab (by rw[<- Z];exact((N _).1 e).2)
  .exact uZ (S7 _ _ _ _ _ _ _ _ rfl) (D C (fun d _ e=>nomatch PV.tup.inj e) Gr.refl)
 |lst h=>exact tX rfl h (hJ (D C (fun d _ e=>nomatch e) Gr.refl))
 |dct h=>exact tX rfl h (hJ (D C (fun d _ e=>nomatch e) Gr.refl))
 |_=>exact tX rfl rfl (hJ (D C (fun d _ e=>nomatch e) Gr.refl))
end
def m9(p:iK):Prop:=∀sp∈p,uw sp
def m9.app(h:m9 p)(k:m9 q):m9 (p++q):=fun sp hs=>by
 rcases Ax.1 hs with hs | hs
 .exact h sp hs
 .exact k sp hs
def m9.one(h:uw sp):m9 [sp]:=fun x g=>by cases AF.1 g;exact h
def vm: ∀d r s ds,(∀x∈r,jr rs d x)->m9 s->∀x∈Wt.dj r s ds,m9 x.path:=by
 intro d
 induction d with
 |zero =>
  intro r s ds D hs x q
  cases r with
  |nil=>exact nomatch q
  |cons y r=>exact(D y AG).elim
 |succ d G =>
  intro r s ds D hs
  induction r with
  |nil=>intro x q;exact nomatch q
  |cons y r J =>
   intro x q;have B:=D y AG
   rcases Ax.1 q with q | q
   .cases y with
    |part sp n g=>cases AF.1 q;exact hs.app (m9.one B.1)
    |give sp n i F=>exact G F _ _ B.2.2.1 (hs.app (m9.one B.1)) x q
    |plain sp M L I F=>exact G F _ _ B.2.2.1 (hs.app (m9.one B.1)) x q
   .grind
def PQ(hs:sG G){V}(J:lr V):∀n k x,uB G k x->m9 x.path->∀e∈dr G V n x,m9 e.x.path:=by
 intro n
 induction n with
 |zero=>intro k x _ _ e g;exact nomatch g
 |succ n L =>
  intro k x h F e g
  rcases Ai.1 g with rfl | g
  .exact F
  .obtain ⟨q,D,g⟩:=(List.mem_flatMap.1 g)
   obtain⟨y,B⟩:=eT hs J h;exact jJ (vM h B D) fun M _ I _=>L M _ I (F.app (vm 6 _ [] [] B.row.1 (fun _ z=>nomatch z) q D)) e g
def wU(hs:sG q){V}(B:lr V)(D:e∈qZ q V):(∃k,uB q k e.x)/\e=⟨e.x,nK q V e.x⟩/\pw e.x.pv<=1000000/\m9 e.x.path:=by
 obtain⟨k,g,ep⟩:=(Mh hs B 6 0 _ (qV hs) e D);have F:=PQ hs B 6 0 _ (qV hs) (fun _ z=>nomatch z) e D;have J:=hs.n6
 have L:k < q.length:=by
  have:=(AU.1 g.nm).1;unfold rJ at this
  rwa [AC] at this
 refine⟨⟨k,g⟩,?_,?_,F⟩
 .rw [<- ep]
 .have h1:=uD (f:=sJ) (c:=3) fun sp I=>by
   have:=Ki sp;have:=(F sp I).l
   lia
  have h2:=qR e.x.gives;have G:=qR e.x.downs;have:=g.pl;have:=g.gl;have:=g.dl;rw[iP] at h2 G
  delta jf.pv kZ
  simp only[pw,iT]
  lia
section
variable {W:Wd}{a:Adr}
def iI(hs:sG g){V}(I:lr V)(B:pN g st){D:List En}(L:aV g V st=D.drop i):((xJ st)[(xJ st).length - 1]?).getD .non=Mg (D[i]?.map (·.x)):=by
 rcases CK i D.length with J | q
 .have F:aV g V st=D[i]::D.drop (i+1) :=by simp_all
  obtain⟨y,n,st',rfl,G,_⟩:=iC hs I B F;rw[AN J,G,wH]
  simp[Mg]
 .have:=u5 B (by rw[L,List.drop_of_length_le q])
  subst this;rw[Bn q]
  rfl
inductive gLg(ts:List PV)(C:CH)(Q:K1):Prop
 |mk(pts:List Pt)(vv:Addr)(V:Vl)(x:PV)(z0:ts=[.tup (pts.map Pt.pv),.ref vv,x])(z1:sG pts)(z2:lr V)(z3:C vv=some (.dP (qw V)))(z4:Th C x)(z5:(∀l xs,x=.ref l->C l=some (.lst xs)->∀t∈xs,Th C t/\Eg t))(z6:∀b C',(b=true↔∃l,x=.ref l/\C l=some (.lst ((qZ pts V).map En.pv)))->Gr C C'->Q (.bl b) C')
def rN(T:Tx W a):Ok W a 32 23 ["house","values","drawing"] gLg:=by
 have S:=(T.F 23 rfl).s;have rW:=(Xi T).mono (show 1<=30 by decide);have tY:=(YL T).mono (show 1<=31 by decide);have oY:=(Kq T).mono (show 11<=31 by decide);have JV:=Xl T
 refine(T.F 23 rfl).o (fun hr=>(xQ (iQ (oK (nZ (lQ qX lZ rfl T.tQ rfl (qQ (cv 2) (c7 (aK rfl T.kD rfl)))))) (kQ (gQ tV)) rQ)
  (xQ (fj 3 S.nd (Qk T.Kx rW hr rfl T.oB (T.F 59 rfl).b lO (c7 (cv 0))))
  (xQ (vF PassesOwn.never rfl (cv 2) (jn 4 S.nd) (xQ (iQ (oK (nZ (cf (T.F 22 rfl) JV hr (qQ (cv 0) (qQ (cv 1) (qQ (R4 T.nV (T.F 60 rfl) T.oB tY hr (cv 3)) (c7 (cv 4)))))))) (kQ (gQ tV)) rQ)
  (kQ (xZ (cm T.nV (T.F 61 rfl) T.oB oY hr (cv 3) (c7 (cv 4)))))))
  (kQ (gQ (lY lB vG (R4 T.nV (T.F 60 rfl) T.oB tY hr (cv 3)) sZ (fG _)))))))) ?_
 rintro ts C R ⟨B,vv,V,u,rfl,hs,Z,hv,hu,ao,q⟩;have aj:∀C',(∀l,u=.ref l->C l≠some (.lst ((qZ B V).map En.pv)))->Gr C C'->R (.bl false) C':=fun C' h g=>q false C' ⟨(fun z=>nomatch z),fun zz=>sQ zz fun l k e=> (h l k e).elim⟩ g
 cases hu with
 |@lst d ab =>
  have M:∃xs,C d=some (.lst xs):=by
   delta tyP at ab
   dsimp only at ab
   split at ab
   .next xs e=>exact⟨xs,e⟩
   .cases ab
   .cases ab
  obtain⟨xs,M⟩:=M;have ao:=ao d xs rfl M;refine tX rfl ab (lF (pX ?_))
  try dsimp only
  have a4:(qZ B V).length<=559:=gN hs Z (qV hs);have h6:=hs.n6
  apply yQ
  intro x dx bb bc bq;refine⟨x,dx,B,rfl,hs.n1,jQ,fun C1 U a6 ax e1=>⟨rfl,?_⟩⟩
  have ar:Gr C C1:=fun b o h=>by
   have:b≠x:=fun z=>by rw[z,bb] at h;cases h
   exact e1 b o (fun z=>this (AF.1 z)) (by rwa [vQ this])
  have a7:C U=none:=by
   rwa [vQ (Ne.symm ax.ne)] at a6
  generalize hD:qZ B V=D at a4 aj q;have dm:∀e∈D,(∃k,uB B k e.x)/\e=⟨e.x,nK B V e.x⟩/\pw e.x.pv<=1000000/\m9 e.x.path:=fun e ae=>wU hs Z (by rwa [hD]);refine qJ (fun ay C'=>∃(x4:Option PV)(st:Hn),xs.length<=D.length/\xs=(D.take xs.length).map En.pv/\ay=[some (.tup (B.map Pt.pv)),some (.ref vv),some (.ref d),some (.ref x),x4]/\Wk a C' x U (xJ st)/\pN B st/\aV B V st=D.drop xs.length/\Gr C C') (fun L0 a3=>?_) ?_
  .refine ⟨xs.length+1,eG (fun i ρ C'=>C' d=some (.lst xs)/\∃(x4:Option PV)(st:Hn),i<=D.length/\xs.take i=(D.take i).map En.pv/\ρ=[some (.tup (B.map Pt.pv)),some (.ref vv),some (.ref d),some (.ref x),x4]/\Wk a C' x U (xJ st)/\pN B st/\aV B V st=D.drop i/\Gr C C') (fun _ _ _ h=>h.1) ?_ ?_ _ 0 _ _ ⟨ar _ _ M,_,[(VC B,6)],AW _,rfl,rfl,ax,?_,?_,ar⟩ (BS _) (AW _)⟩
   .rintro i z ρ C2 J ⟨m2,x4,st,hi,G,rfl,I,Y,O,N⟩ L hL
    obtain⟨ai,bh⟩:=AU.1 J;obtain⟨aq,ag⟩:=I.ins;obtain⟨a9,ez⟩:=ao z (Ae J);refine⟨dX ag rfl,⟨x,U,xJ st,rfl,I,?_⟩⟩;rw[iI hs Z Y O];refine⟨B,vv,V,D[i]?.map (·.x),z,rfl,hs,Z,N _ _ hv,fun e ae=>?_,a9.gr N,ez,fun b C3 hb ah=>?_⟩
    .cases F:D[i]? with
     |none=>rw[F] at ae;cases ae
     |some en =>
      rw[F] at ae;cases ae;have:=dm en (Ae F);exact⟨this.1,this.2.2.1⟩
    have au:=N.trans ah
    cases b with
    |false =>
     refine hJ (aj C3 (fun l e k=>?_) au);cases e;rw[M] at k;cases k;rw[AC] at ai;rw[Aj,AN ai] at J;have J:=Al J;exact nomatch hb.2 ⟨D[i].x,by rw[AN ai];rfl,by rw[<- J,<- (dm D[i] (By ai)).2.1]⟩
    |true =>
     obtain⟨y,ey,rfl⟩:=hb.1 rfl
     cases F:D[i]? with
     |none=>rw[F] at ey;cases ey
     |some en =>
     rw[F] at ey;cases ey;obtain⟨av,a0⟩:=AU.1 F;have az:=(dm en (Ae F)).2.1;rw[<- az] at J ⊢;have ed:aV B V st=en::D.drop (i+1):=by rw[O,Ar av,a0]
     obtain⟨y,n,st',rfl,rfl,⟨k',yp,du,ha⟩,er,a8⟩:=iC hs Z Y ed;have a5:=tN (V:=V) Y;have bp:(aV B V ((y,n+1)::st')).length<=559:=by rw[O,DS];lia
     rw[AV] at a5;refine lF (pX ⟨dX (ah _ _ ag) rfl,?_⟩)
     have bj:k' < B.length:=by
      have:=(AU.1 du.nm).1;unfold rJ at this
      rwa [AC] at this
     have bo:=du.pl;have bg:=du.dl;have bf:yU k'<=18:=by delta yU;split<;>decide
     have bl:=ha.jb
     have ba:Wk a C3 x U (xJ st'++[y.pv]):=by
      rw[wH] at I;exact⟨⟨aq,ah _ _ ag⟩,ah _ _ I.lst⟩
     refine⟨x,U,xJ st',y.pv,⟨y,nK B V y⟩,_,rfl,ba,by rw[XB];lia,ha.row,by lia,by lia,by lia,fun C4 br e4=>?_⟩;have g4:Gr C C4:=fun b o h=>e4 b o (fun z=>by rw[AF.1 z,a7] at h;cases h) (au b o h);refine hL _ _ ⟨g4 _ _ M,_,(V6 B V y).map (fun z=>(z,n))++st',av,?_,rfl,?_,a8,er.symm,g4⟩
     .rw [BK,BK,J,F,G,AS]
      rfl
     .rwa [qE]
   .rintro ρ C2 ⟨m2,x4,st,hi,G,rfl,I,Y,O,N⟩
    rw[Ck (AI _)] at G;exact a3 _ _ ⟨_,st,hi,G,rfl,I,Y,O,N⟩
   .intro p G
    cases AF.1 G;exact⟨0,qV hs,by lia⟩
   .delta aV
    rw[B8,List.flatMap_nil,Aa,<- hD]
    rfl
  .rintro ay C2 ⟨x4,st,hi,G,rfl,I,Y,O,N⟩
   obtain⟨aq,ag⟩:=I.ins;refine⟨dX ag rfl,⟨x,U,xJ st,rfl,I,?_⟩⟩;rw[iI hs Z Y O];refine q _ C2 ?_ N
   rcases CK xs.length D.length with ak | aw
   .rw [AN ak]
    refine⟨(fun z=>nomatch z),fun zz=>sQ zz fun l e k=> ?_⟩;cases e;rw[M] at k;cases k;rw[AC] at ak;exact absurd ak (A8 _)
   .rw [Bn aw]
    rw[Ck aw] at G;exact⟨fun _=>⟨d,rfl,by rw[M,G]⟩,fun _=>rfl⟩
 |dct h=>exact tX rfl h (hJ (aj C (fun l e k=>by cases e;delta tyP at h;dsimp only at h;rw[k] at h;cases h) Gr.refl))
 |_=>exact tX rfl rfl (hJ (aj C (fun l e=>nomatch e) Gr.refl))
end
inductive Lf:PV->Prop
 |non:Lf .non
 |bl (b:Bool):Lf (.bl b)
 |int {i:Int} (h:Bd i):Lf (.int i)
 |str {z:Str} (h:z.length<=8):Lf (.str z)
 |tup {ts:List PV} (h:∀t∈ts,Lf t):Lf (.tup ts)
theorem pY:∀t∈([]:List PV),Lf t:=fun _ z=>nomatch z
theorem jX(h:Lf x)(k:∀t∈ts,Lf t):∀t∈x::ts,Lf t :=by grind
theorem aB{α:Type}{f}{l:List α}(h:∀x∈l,Lf (f x)):∀t∈l.map f,Lf t :=by grind
theorem KA(h:uw sp):Lf (sJ sp):=by
 obtain⟨k,c,rfl,g,h0,h1⟩:=h;refine .tup (jX ?_ (jX (.int ⟨by lia,by lia⟩) pY))
 rcases k with (_ | i) | z
 .exact .non
 .exact .int g
 .exact g.elim
theorem dR(h:qz cs):Lf (.tup (cs.map dQ)):=.tup (aB fun c g=>.tup (jX (.str (h c g).2) (jX (.int (h c g).1) pY)))
theorem Oq(h:HvB x):Lf x.pv:=.tup (jX (.str h.1) (jX (.int ⟨by have:=h.2.1.1;lia,by have:=h.2.1.2;lia⟩) (jX (.bl _) (jX (.tup (aB fun c g=>.tup (jX (.str (h.2.2 c g).1) (jX (.str (h.2.2 c g).2.1) (jX (.int (h.2.2 c g).2.2) pY))))) pY))))
def w8(h:z∈(["plain","part","give","take","down","box"]:List Str)):Lf (.str z):=.str ((by decide +kernel:∀s∈(["plain","part","give","take","down","box"]:List Str),s.length<=8) z h)
def Om(I:∀s∈rs,s.length<=8):∀d x,jr rs d x->Lf x.pv:=by
 intro d
 induction d with
 |zero=>intro x h;exact h.elim
 |succ d F =>
  intro x h
  cases x with
  |plain sp L J hs r =>
   obtain⟨h1,⟨_,_,_,h2,B,G⟩,D,_⟩:=h;rw[Wt.pv,Wt.jx];exact .tup (jX (w8 (by simp)) (jX (KA h1) (jX (.str h2) (jX (dR B) (jX (.tup (aB fun y q=>Oq (G y q))) (jX (.tup (aB fun y q=>F y (D y q))) pY))))))
  |part sp n g =>
   exact cT h fun h1 h2 _ B=>.tup (jX (w8 (by simp)) (jX (KA h1) (jX (.str (I n h2)) (jX (dR B) pY))))
  |give sp n i r =>
   obtain⟨h1,h2,D,_⟩:=h;rw[Wt.pv,Wt.jx];exact .tup (jX (w8 (by simp)) (jX (KA h1) (jX (.str h2.2) (jX (.int h2.1) (jX (.tup (aB fun y q=>F y (D y q))) pY)))))
def Oo{cap}(G:∀s∈rs,s.length<=8)(g:jh rs cap y)(q:jy A):Lf (wZ A y).pv:=by
 refine .tup (jX (.tup (aB fun c B=>?_)) (jX (.tup ?_) (jX (dR fun c B=>?_) pY)))
 .obtain ⟨s,n,F,rfl⟩:=mV g B
  refine .tup (jX (.tup (jX ?_ (jX ?_ pY))) (jX (.int (bM q s n).2) pY))
  .rcases F with ⟨rfl | rfl,_⟩ | ⟨rfl,_⟩<;>exact w8 (by simp)
  .rcases F with ⟨_,h⟩ | ⟨_,h⟩
   .exact .str ((by decide +kernel:∀s∈(["a","ab","b"]:List Str),s.length<=8) n h)
   .exact .str (g.b8 n h)
 .rw [Wt.jx]
  exact aB fun w I=>Om G 6 w ((ZQ g q).1 w I)
 .obtain ⟨p,D,rfl⟩:=AL.1 B
  exact⟨bY q (τ:=[]) (fun _ z=>nomatch z) (ts:=[]) (fun _ z=>nomatch z) (g.wk p D).1,(g.wk p D).2⟩
def GE(hs:sG B){V}(D:lr V)(I:e∈qZ B V):Lf e.pv/\Pl 20 e.pv/\pw e.pv<=3000000:=by
 obtain⟨⟨k,q⟩,F,h1,h2⟩:=wU hs D I;obtain⟨y,g⟩:=eT hs D q;have G:nK B V e.x=wZ (pV e.x (rX V y e.x.path)) y:=by delta nK;rw[g.is]
 have L:=FJ g.ok g.ab;rw[F];refine⟨.tup (jX (.tup (aB fun sp J=>KA (h2 sp J))) (jX (.str (hs.nn _ (Ae q.nm))) (jX (dR q.gb) (jX (dR q.db) (jX ?_ pY))))),Pz g.row,?_⟩
 .exact G▸Oo (fun s z=>hs.nn s (List.mem_of_mem_drop z)) g.ok g.ab
 .show pw (.tup [kZ e.x.path,.str e.x.name,.tup (e.x.gives.map dQ),.tup (e.x.downs.map dQ),(nK B V e.x).pv])<=_
  have h1:pw (.tup [kZ e.x.path,.str e.x.name,.tup (e.x.gives.map dQ),.tup (e.x.downs.map dQ)])<=1000000:=h1
  simp only[pw,iT] at h1 ⊢
  lia
inductive Bt(C:CH)(k:Nat):Nat->PV->Prop
 |non {d:Nat}:Bt C k d .non
 |bl {d:Nat} (b:Bool):Bt C k d (.bl b)
 |int {d:Nat} {i:Int} (h:i.natAbs<=1000000000+k):Bt C k d (.int i)
 |str {d:Nat} {z:Str} (h:z.length<=20+k):Bt C k d (.str z)
 |tup {d:Nat} {ts:List PV} (l:ts.length<=3000000+k) (h:∀t∈ts,Bt C k d t):Bt C k (d+1) (.tup ts)
 |lst {d:Nat} {a:Addr} {xs:List PV} (m:C a=some (.lst xs)) (l:xs.length<=3000000+k) (h:∀t∈xs,Bt C k d t):Bt C k (d+1) (.ref a)
theorem lA: ∀{ts},t∈ts->pw t<=iT ts
 |x::ts,h=>by
  rw[iT]
  rcases Ai.1 h with rfl | h
  .lia
  .have:=lA h;lia
def RD(h:Pl d x):Lf x->pw x<=3000000->Bt C 0 d x:=by
 induction h with
 |non=>intro _ _;exact .non
 |bl b=>intro _ _;exact .bl b
 |int i=>intro h _;cases h with | int h=>exact .int (by delta Bd at h;lia)
 |str z=>intro h _;cases h with | str h=>exact .str (by lia)
 |@tup d ts _ B =>
  intro h q
  cases h with
  |tup h =>
  rw[pw] at q;have:=eN ts;exact .tup (by lia) fun t g=>B t g (h t g) (by have:=lA g;lia)
def vD(m:C l=some (.lst xs)):tyP C (.ref l)=some .lst:=by
 show(match C l with | some (.lst _)=>some Ty.lst | some (.dK _)=>some Ty.dct | _=>none)=_;rw[m]
def Bt.th(h:Bt C k d x):Th C x:=by
 induction h with
 |non=>exact .non
 |bl b=>exact .bl b
 |int h=>exact .int _
 |str h=>exact .str _
 |tup _ _ g=>exact .tup g
 |lst m _ _ _=>exact .lst (vD m)
def Bt.tu(h:Bt C k d (.tup ts)):ts.length<=3000000+k/\∀t∈ts,∃e,Bt C k e t:=by
 cases h with
 |tup l h=>exact⟨l,fun t g=>⟨_,h t g⟩⟩
def Bt.eg(G:k<=9)(h:Bt C k d x):Eg x:=fun a b c d' p e=>by
 subst e;obtain⟨e,F⟩:=h.tu.2 p (by simp);intro ts u v ep;subst ep;obtain⟨e,g⟩:=F.tu.2 (.tup ts) (by simp);refine⟨Ad g.tu.1 (by show _<=16777216;lia),fun t D s z n q=>?_⟩;subst q;obtain⟨e,h1⟩:=g.tu.2 _ D;obtain⟨e,h2⟩:=h1.tu.2 (.tup [s,.str z]) (by simp);obtain⟨e,B⟩:=h2.tu.2 (.str z) (by simp)
 cases B with
 |str h=>exact yW (by lia)
noncomputable def uN:Ty->Str
 |.non=>"none"
 |.bl=>"truth"
 |.int=>"number"
 |.str=>"text"
 |.tup=>"tuple"
 |.lst=>"list"
 |.dct=>"other"
def Ge(h:sI x=true):x=.non:=by
 cases x<;>first | rfl | cases h
inductive Sq(C:CH):PV->List PV->Ty->Prop
 |tup (xs:List PV):Sq C (.tup xs) xs .tup
 |lst {a:Addr} {xs:List PV} (m:C a=some (.lst xs)):Sq C (.ref a) xs .lst
theorem Sq.gr(h:Sq C x xs k)(g:Gr C C'):Sq C' x xs k:=by
 cases h with
 |tup=>exact .tup xs
 |lst m=>exact .lst (g _ _ m)
def Sq.ty(h:Sq C x xs k):tyP C x=some k:=by
 cases h with
 |tup=>rfl
 |lst m=>exact vD m
def Sq.len(h:Sq C x xs k)(q:Q (.int xs.length) C):sN [x] C Q:=by
 cases h with
 |tup=>exact lR q
 |lst m=>exact KC m q
def Sq.ix(h:Sq C x xs k)(e:atI xs i=some v)(q:Q v C):qt x (.int i) C Q:=by
 cases h with
 |tup=>exact aQ e q
 |lst m=>exact cV m e q
def Sq.un(h:Sq C x xs k)(g:Sq C x ys k):xs=ys:=by
 cases h with
 |tup=>cases g;rfl
 |lst m=>cases g with | lst q=>rw[m] at q;cases q;rfl
def sc:PV->Bool
 |.non=>true
 |.bl _=>true
 |.int _=>true
 |.str _=>true
 |_=>false
def Th.sq(h:Th C x):(∃xs k,Sq C x xs k)\/sc x=true\/tyP C x=some .dct:=by
 cases h with
 |tup h=>exact .inl ⟨_,_,.tup _⟩
 |@lst a h =>
  delta tyP at h
  dsimp only at h
  split at h
  .next xs e=>exact .inl ⟨_,_,.lst e⟩
  .cases h
  .cases h
 |dct h=>exact .inr (.inr h)
 |_=>exact .inr (.inl rfl)
def V5(h:uN n=uN m):n=m:=by
 revert h;cases n<;>cases m<;>decide +kernel
def HJ(h:tyP C (.ref a)=some n):n=.lst\/n=.dct:=by
 delta tyP at h
 dsimp only at h
 split at h<;>cases h
 .exact .inl rfl
 .exact .inr rfl
def Fg(q:sc y=true)(h:tyP C x=some n)(g:tyP C y=some n):uN n ≠ "tuple"/\uN n ≠ "list"/\∃b,sEq x y=some b/\(b=true↔x=y):=by
 cases y<;>first | exact absurd q AR | cases g
 all_goals
  cases x with
  |ref a=>rcases HJ h with h | h<;>cases h
  |_=>first | exact⟨by decide +kernel,by decide +kernel,_,rfl,by simp⟩ | cases h
section
variable {W:Wd}{a:Adr}
inductive Pj(ts:List PV)(C:CH)(Q:K1):Prop
 |mk(x:PV)(n:Ty)(z0:ts=[x])(z1:tyP C x=some n)(z2:∀C',Gr C C'->Q (.str (uN n)) C')
def Kt(T:Tx W a):Ok W a 1 42 ["_law_thing_here"] Pj:=by
 have S:=(T.F 42 rfl).s
 refine(T.F 42 rfl).o (fun U=>(xQ (iQ (ct2 lB vG (cv 0) sZ) (kQ (gQ bQ)) rQ)
  (xQ (iQ (nZ (lQ qX lZ rfl T.tQ rfl (qQ (cv 0) (c7 (aK rfl T.vA rfl))))) (kQ (gQ bQ)) rQ)
  (xQ (fj 1 S.nd (oZ (qQ (lQ qX lZ rfl T.tQ rfl (qQ (cv 0) (c7 (aK rfl T.jO rfl)))) (qQ (lQ qX lZ rfl T.tQ rfl (qQ (cv 0) (c7 (aK rfl T.WL rfl)))) (qQ (lQ qX lZ rfl T.tQ rfl (qQ (cv 0) (c7 (aK rfl T.fZ rfl)))) (c7 (lQ qX lZ rfl T.tQ rfl (qQ (cv 0) (c7 (aK rfl T.kD rfl))))))))))
  (xQ (fj 2 S.nd (oZ (qQ bQ (qQ bQ (qQ bQ (c7 bQ))))))
  (kQ (gQ (cx (hX yZ bZ (zY rfl (S.c (by decide +kernel)) (S.k rfl rfl rfl (by decide +kernel)) (Jw rfl T.cM (c7 zQ)) (fun _ _ _ _ _=>(G6 (nZ (cx (cv 2) (cv 0))))) (fun _ _ _ _ _=>(cx (cv 3) (cv 0)))) (oZ (c7 bQ))) zQ)))))))) ?_
 rintro ts C R ⟨x,n,rfl,g,q⟩;refine O4 (fun D=>?_) fun D=>?_
 .cases Ge D
  cases g;exact q C Gr.refl
 refine pX (tX rfl g (O4 (fun F=>?_) fun F=>?_))
 .cases n with
  |bl=>exact q C Gr.refl
  |_=>cases F
 apply pX
 try dsimp only
 refine yQ (tX rfl g (tX rfl g (tX rfl g (tX rfl g ⟨(show 4<=sizeLine by decide),fun B h1=>⟨by decide,fun p2 h2=>⟨by decide,by decide,?_⟩⟩⟩))));have M:pQ (pQ C B (.lst [.bl (aW n .int),.bl (aW n .str),.bl (aW n .tup),.bl (aW n .lst)])) p2 (.lst [.str "number",.str "text",.str "tuple",.str "list"]) B=some (.lst [.bl (aW n .int),.bl (aW n .str),.bl (aW n .tup),.bl (aW n .lst)]):=(Gr.new h2 _) B _ jQ
 have N:pQ (pQ C B (.lst [.bl (aW n .int),.bl (aW n .str),.bl (aW n .tup),.bl (aW n .lst)])) p2 (.lst [.str "number",.str "text",.str "tuple",.str "list"]) p2=some (.lst [.str "number",.str "text",.str "tuple",.str "list"]):=jQ;have I:Gr C (pQ (pQ C B (.lst [.bl (aW n .int),.bl (aW n .str),.bl (aW n .tup),.bl (aW n .lst)])) p2 (.lst [.str "number",.str "text",.str "tuple",.str "list"])):=(Gr.new h1 _).trans (Gr.new h2 _)
 cases n with
 |non =>
  cases x with
  |non=>cases D
  |ref a=>delta tyP at g;dsimp only at g;split at g<;>cases g
  |_=>cases g
 |bl=>cases F
 |_ =>
  iterate 4
   refine fH (cV M rfl ?_)
   first
    |refine uZ ?_ ?_
     .rfl
     refine cV N rfl ⟨by decide,?_⟩
    |refine gX ?_ ?_
     .rfl
  refine xS fun O J=>⟨by decide,fun Y G=>Vr ((Gr.new G _) O _ jQ) jQ (by decide) fun Z L=>cV jQ rfl ?_⟩;exact q _ ((((I.trans (Gr.new J _)).trans (Gr.new G _)).trans (Gr.new L _)))
def v7(h:FnOk W.P W.w W.K W.mg W.base CX0 r f fd ps (my W.K G))(k:∀ts C Q,q ts C Q->G ts C Q):FnOk W.P W.w W.K W.mg W.base CX0 r f fd ps (my W.K q) :=
 ⟨fun vs H Q E g=>wX g fun ts C R x y z u=> h.len vs H Q E ⟨ts,C,R,x,y,k _ _ _ z,u⟩,fun A I s H B L vs Q E J F D M g=>wX g fun ts C R x y z u=> h.run A I s H B L vs Q E J F D M ⟨ts,C,R,x,y,k _ _ _ z,u⟩⟩
def Pd:Nat->PV->Prop
 |0,_=>False
 |d+1,y=>Pl d y
inductive Tw(d:Nat)(ts:List PV)(C:CH)(Q:K1):Prop
 |mk(x y:PV)(W:Prop)(z0:ts=[x,y])(z1:Th C x)(z2:((sc y=true/\W=(x=y))\/∃ys k,Sq C y ys k/\ys.length<=3000000/\(∀z∈ys,Pd d z/\pw z<=3000000)/\(∀xs,Sq C x xs k->∀z∈xs,Th C z)/\W=Sq C x ys k))(z3:∀b C',(b=true↔W)->Gr C C'->Q (.bl b) C')
inductive gAl(d:Nat)(ts:List PV)(C:CH)(Q:K1):Prop
 |mk(x y:PV)(z0:ts=[x,y])(z1:Th C x)(z2:Pd d y)(z3:pw y<=3000000)(z4:∀b C',(b=true↔x=y)->Gr C C'->Q (.bl b) C')
def Sq.ne(h:Sq C x xs k):uN k = "tuple"\/(uN k ≠ "tuple"/\uN k = "list"):=by
 cases h with
 |tup=>exact .inl rfl
 |lst m=>exact .inr ⟨by decide +kernel,rfl⟩
def YN(T:Tx W a)d r(ah:1<=r)(gY:Ok W a r 43 Ni (gAl d)):Ok W a (r+1) 43 Ni (Tw d):=by
 have S:=(T.F 43 rfl).s;have pM:=(Kt T).mono (show 1<=r by lia)
 refine(T.F 43 rfl).o (fun Y=>(xQ (fj 2 S.nd (cf (T.F 42 rfl) pM Y (c7 (cv 0))))
  (xQ (iQ (ct2 iF nG (cv 2) (cf (T.F 42 rfl) pM Y (c7 (cv 1)))) (kQ (gQ tV)) rQ)
  (xQ (iQ (ji (jj (ct2 lX vX (cv 2) bQ) (je (ct2 lX vX (cv 2) bQ)))) (kQ (gQ (Qm (lY lX vX (ou T.nW (cv 0)) (ou T.nW (cv 1)) (fG _)) (Qj (lQ (wM rfl) yP rfl T.QP rfl (c7 (zY rfl (S.c (by decide +kernel)) (S.k rfl rfl rfl (by decide +kernel)) (Jw rfl T.cM (c7 (ou T.nW (cv 0)))) (fun _ _ _ _ _=>oV) (fun _ _ _ _ _=>(cf (T.F 43 rfl) gY Y (qQ (cx (cv 1) (cv 0)) (c7 (cx (cv 2) (cv 0))))))))))))) rQ)
  (kQ (gQ (lY lX vX (cv 0) (cv 1) (fG _)))))))) ?_
 rintro ts C R ⟨x,y,W,rfl,hx,Z,q⟩;obtain⟨n,G⟩:=hx.ty
 obtain⟨m,D⟩:∃m,tyP C y=some m:=by
  rcases Z with ⟨hs,_⟩ | ⟨ys,k,F,_⟩
  .cases y<;>first | exact absurd hs AR | exact⟨_,rfl⟩
  .exact ⟨_,F.ty⟩
 refine yQ ⟨x,n,rfl,G,fun C1 ab=>⟨y,m,rfl,sP D ab,fun C2 ae=>?_⟩⟩;have g:=ab.trans ae
 apply zX (fQ _ _)
 by_cases e:n=m
 .subst e
  refine gX (by rw[Af rfl];rfl) (pX ?_)
  rcases Z with ⟨hs,rfl⟩ | ⟨ys,k,F,hl,U,ht,rfl⟩
  .obtain ⟨n1,n2,b,L,M⟩:=Fg hs G D
   exact zX (fQ _ _) (gX (AM n1) (zX (fQ _ _) (gX (AM n2) (pX (zX L (q b C2 M g))))))
  .have ek:n=k:=by have:=F.ty;rw[D] at this;exact Al this
   subst ek
   obtain⟨xs,J⟩:∃xs,Sq C x xs n:=by
    rcases hx.sq with ⟨xs,k,h⟩ | h | h
    .have:=h.ty;rw[G] at this;cases this;exact⟨xs,h⟩
    .exfalso
     have:=(Fg h D G)
     rcases F.ne with e | e
     .exact this.1 e
     .exact this.2.1 e.2
    .exfalso
     rw[G] at h;cases h;cases F
   have x2:=J.gr g;have y2:=F.gr g
   apply zX (fQ _ _)
   rcases F.ne with e | ⟨L,M⟩
   case' inl =>
    refine uZ (Af e) (yT rfl ?_)
   case' inr =>
    refine gX (AM L) (zX (fQ _ _) (uZ (Af M) ?_))
   all_goals
    refine x2.len (y2.len (zX (oJ _ _) ?_))
    by_cases N:xs.length=ys.length
    .apply uZ (Af (by rw[N]))
     refine x2.len ⟨by lia,by lia,?_⟩;refine yF (fun t=>match t with | .int i=>.bl (@decide (xs[i.toNat]?=ys[i.toNat]?) (Classical.propDecidable _)) | _=>.non) _ [] C2 Gr.refl (by rw[Da,AC,A6];show _<=16777216;lia) (fun t D C3 Q' I ag=>?_) fun p C3 _ I m3=>?_
     .obtain ⟨k,B,rfl⟩:=AL.1 D
      rw[Bj] at B;have B:k < xs.length:=by lia
      refine(x2.gr I).ix (dS B) ((y2.gr I).ix (dS (by lia)) ?_);refine⟨xs[k],ys[k],rfl,((ht xs J _ (By B)).gr g).gr I,(U _ (By _)).1,(U _ (By _)).2,fun b C4 O g4=>?_⟩
      have eb:@decide (xs[k]?=ys[k]?) (Classical.propDecidable _)=b:=by
       rw[Cd,O,@decide_eq_true_iff _ (Classical.propDecidable _),AN B,AN (by lia),Option.some.injEq]
      have:=ag C4 g4;dsimp only at this
      rwa [show((k:Int)).toNat=k from DJ k,eb] at this
     .apply Zg (by
       rw[m3,Cw,BP,BP,DJ]
       rfl)
      refine q _ C3 ?_ (g.trans I);rw[Bh];refine⟨fun h=>?_,fun h b O=>?_⟩
      .have:=List.ext_getElem? fun k=>by
        rcases CK k xs.length with B | B
        .have:=h _ (AL.2 ⟨k,Bj.2 B,rfl⟩)
         exact(@decide_eq_true_iff _ (Classical.propDecidable _)).1 this
        .rw [Bn B,Bn (by lia)]
       rwa [<- this]
      .obtain ⟨k,_,rfl⟩:=AL.1 O
       exact(J.un h)▸(@decide_eq_true_iff _ (Classical.propDecidable _)).2 rfl
    .refine gX (AM fun z=>N (by lia)) (q false C2 ⟨(fun z=>nomatch z),fun h=>(N ?_).elim⟩ g)
     rw[J.un h]
 .refine uZ (by rw[AM fun z=>e (V5 z)];rfl) (q false C2 ⟨(fun z=>nomatch z),fun h=>(e ?_).elim⟩ g)
  rcases Z with ⟨hs,rfl⟩ | ⟨ys,k,F,hl,U,ht,rfl⟩
  .subst h;rw[G] at D;exact Al D
  .have h1:=h.ty
   have h2:=F.ty;rw[G] at h1;rw[D] at h2
   rw[Al h1,Al h2]
def VW(T:Tx W a)d:Ok W a (d+3) 43 Ni (gAl d):=by
 induction d with
 |zero=>exact eJ fun ts C Q ⟨_,_,_,_,h,_,_⟩=>h
 |succ d I =>
  refine v7 (YN T d (d+3) (Nat.succ_pos _) I) fun ts C Q=>?_;rintro⟨x,y,rfl,g,G,F,q⟩;refine⟨x,y,x=y,rfl,g,?_,q⟩
  cases G with
  |@tup d ts h =>
   rw[pw] at F;have:=eN ts;refine .inr ⟨ts,.tup,.tup ts,by lia,fun z B=>⟨h z B,by have:=lA B;lia⟩,fun xs D=>?_,?_⟩
   .cases D;cases g with | tup h=>exact h
   .exact propext ⟨fun e=>by rw[e];exact .tup ts,fun e=>by cases e;rfl⟩
  |_=>exact .inl ⟨rfl,rfl⟩
end
def MP(B:dw):PV->Bool
 |.tup [.tup [.str s,.str n],.int i]=>decide (rK B s n=i)
 |_=>false
def Em(B:dw):PV->Bool
 |.tup (.tup rs::_)=>rs.all (MP B)
 |_=>false
def UA{cap}(D:jh rs cap y):Em B (wZ A y).pv=true↔Ag A B (yB A y):=by
 show(((wZ A y).reads.map yJ).all (MP B))=true↔_;rw[Bh];refine⟨fun h s n I=>?_,fun h t J=>?_⟩
 .obtain ⟨q,g,F⟩:=(AL.1 I)
  obtain⟨s',L,_,rfl⟩:=mY D q g;cases F;have:=h _ (AL.2 ⟨([s,n],rK A s n),jW.2 (AL.2 ⟨_,g,rfl⟩),rfl⟩);exact(BD this).symm
 .obtain ⟨c,G,rfl⟩:=AL.1 J
  obtain⟨q,g,rfl⟩:=AL.1 (jW.1 G);obtain⟨s,n,_,rfl⟩:=mY D q g;exact Af (h s n (AL.2 ⟨_,g,rfl⟩)).symm
abbrev Pm:=List (q8×PV)
noncomputable def LR(e:En):q8:=(e.x.path,.inr e.x.name)
def pm(D:List En):Pm:=D.foldl (fun M e=>gm M (LR e) e.pc.pv) []
theorem ZM:∀(D:List En)(M:Pm),(D.foldl (fun M e=>gm M (LR e) e.pc.pv) M).length<=M.length+D.length
 |[],M=>AI _
 |e::D,M=>by
  have h1:=ZM D (gm M (LR e) e.pc.pv)
  have h2:(gm M (LR e) e.pc.pv).length<=M.length+1:=by
   delta gm
   split
   .grind
   .grind
  rw[Dc,AV]
  lia
theorem Yj: ∀(D:List En)(M:Pm),aZ (D.foldl (fun M e=>gm M (LR e) e.pc.pv) M) k=some v->aZ M k=some v\/∃e∈D,LR e=k/\e.pc.pv=v
 |[],M,h=>.inl h
 |e::D,M,h=>by
  rcases Yj D _ h with h | ⟨g,h1,h2⟩
  .rw [yL] at h
   by_cases q:k=LR e
   .grind
   .lia
  .grind
def Ku p n:ZW (.tup [kZ p,.str n])=some (p,.inr n):=by
 show(match gD (kZ p),fV (.str n) with | some p,some k=>some (p,k) | _,_=>none)=_;rw[cB]
 rfl
def t8(M:Pm)(x:jf)(B:dw):Bool:=match aZ M (x.path,.inr x.name) with
 |some p=>Em B p
 |none=>false
def jE(M:Pm)(x:jf)(B:dw):PV:=match aZ M (x.path,.inr x.name) with
 |some p=>bif Em B p then p else .non
 |none=>.non
def RQ(M:Pm):Prop:=∀k v,aZ M k=some v->∃A y rs cap,jh rs cap y/\jy A/\v=(wZ A y).pv
section
variable {W:Wd}{a:Adr}
inductive Ti(ts:List PV)(C:CH)(Q:K1):Prop
 |mk(l:Addr)(D:List En)(z0:ts=[.ref l])(z1:C l=some (.lst (D.map En.pv)))(z2:D.length<=900)(z3:∀d C',C d=none->C' d=some (.dN (pm D))->Gr C C'->Q (.ref d) C')
def vI(T:Tx W a):Ok W a 1 25 ["drawing"] Ti:=by
 have S:=(T.F 25 rfl).s
 apply (T.F 25 rfl).o (fun hr=>(xQ (fj 1 S.nd Vb)
  (xQ (vF PassesOwn.never rfl (cv 0) (jn 2 S.nd) (kQ (K5 (BE (oI hr)) (cv 1) (wQ (qQ (cx (cv 2) zQ) (c7 (cx (cv 2) zQ)))) (cx (cv 2) zQ))))
  (kQ (gQ (cv 1))))))
 rintro ts C R ⟨l,D,rfl,N,hl,q⟩
 apply yQ
 intro d g;have ab:l≠d:=fun z=>by rw[z,g] at N;cases N
 refine qJ (fun Y C'=>∃F:Option PV,Y=[some (.ref l),some (.ref d),F]/\C' d=some (.dN (pm D))/\Gr C C') (fun L hL=>?_) ?_
 .refine ⟨(D.map En.pv).length+1,eG (fun i U C'=>C' l=some (.lst (D.map En.pv))/\∃F:Option PV,U=[some (.ref l),some (.ref d),F]/\C' d=some (.dN (pm (D.take i)))/\Gr C C') (fun _ _ _ h=>h.1) ?_ ?_ _ 0 _ _ ⟨Gr.new g _ _ _ N,_,rfl,jQ,Gr.new g _⟩ (BS _) (AW _)⟩
  .rintro i z U C1 B ⟨m1,F,rfl,M,G⟩ L1 Z
   rw[Aj] at B
   cases I:D[i]? with
   |none=>rw[I] at B;cases B
   |some e =>
   rw[I] at B;cases B;have J:e.pv=.tup [kZ e.x.path,.str e.x.name,.tup (e.x.gives.map dQ),.tup (e.x.downs.map dQ),e.pc.pv]:=rfl;refine oQ J rfl (oQ J rfl (oQ J rfl ⟨ie 2 rfl,?_⟩));have O:=ZM (D.take i) [];rw[Bg] at O;have O:(pm (D.take i)).length<=0+min i D.length:=O;refine YO M (Ku _ _) (by lia) (Z _ _ ⟨by rw[vQ ab];exact m1,_,rfl,?_,fun b o h=>?_⟩)
   .rw [jQ,BK,I]
    delta pm
    rw[Au]
    rfl
   .rw [vQ (fun z=>by subst z;rw[g] at h;cases h)];exact G b o h
  .grind
 rintro Y C1 ⟨F,rfl,M,G⟩;exact q d C1 g M G
inductive gKp(ts:List PV)(C:CH)(Q:K1):Prop
 |mk(d aa:Addr)(M:Pm)(x:jf)(B:dw)(z0:ts=[.ref d,x.pv,.ref aa])(z1:C d=some (.dN M))(z2:RQ M)(z3:C aa=some (.dT B))(z4:jy B)(z5:∀C',Gr C C'->Q (jE M x B) C')
def zT(T:Tx W a):Ok W a 2 26 ["pieces","due","answers"] gKp:=by
 have Y:=kN T
 apply (T.F 26 rfl).o (fun D=>(xQ (fj 3 ((T.F 26 rfl).s).nd (Ui Bx BL Cp (Kw (BE (oI D))) X6 (cv 0) (c7 (wQ (qQ (cx (cv 1) zQ) (c7 (cx (cv 1) zQ)))))))
  (kQ (gQ (bN (ji (pq (ct2 jI jS (cv 3) sZ) (mq (nZ (cf (T.F 21 rfl) Y D (qQ (cv 3) (c7 (cv 2)))))))) (cv 3) sZ)))))
 rintro ts C R ⟨d,aa,M,x,B,rfl,G,S,Z,O,q⟩;have F:x.pv=.tup [kZ x.path,.str x.name,.tup (x.gives.map dQ),.tup (x.downs.map dQ)]:=rfl
 apply yQ
 refine⟨⟨d,M,rfl,G⟩,oQ F rfl (oQ F rfl ⟨ie 2 rfl,YS G (Ku _ _) rfl ?_⟩)⟩
 delta jE at q
 cases g:aZ M (x.path,.inr x.name) with
 |none =>
  rw[g] at q
  apply yr
  refine xK (x:=.non) ?_ ?_
  .rfl
  exact uT rfl (q C Gr.refl)
 |some v =>
  rw[g] at q;obtain⟨A,y,rs,cap,I,N,rfl⟩:=S _ _ g
  apply yr
  refine xK (x:=(wZ A y).pv) ?_ ?_
  .rfl
  refine yT rfl ⟨A,B,y,rs,cap,aa,rfl,I,N,O,Z,fun b C1 U L=>?_⟩;have J:Em B (wZ A y).pv=b:=by rw[Cd,U,UA I]
  have q:=q C1 L;dsimp only at q;rw[J] at q
  cases b with
  |true=>exact yT (q:=True) rfl (yT rfl q)
  |false=>exact uT (p:=True) rfl (uT rfl (Nf q))
end
def uG(g:List Pt)(V:Vl)(x:jf):dw:=pV x (rX V (mG g x.name) x.path)
def qm(g:List Pt)(V:Vl)(M:Pm)(D:List En):List PV:=(D.filter fun e=>!t8 M e.x (uG g V e.x)).map fun e=>kZ e.x.path
def Sd(g:List Pt)(M:Pm):Prop:=∀k v,aZ M k=some v->∃p n A rs cap,k=(p,.inr n)/\jh rs cap (mG g n)/\jy A/\v=(wZ A (mG g n)).pv
theorem Sd.ok(h:Sd q M):RQ M:=fun k v e=>Ma (h k v e) fun p n A rs cap _ h1 h2 g=>⟨A,_,rs,cap,h1,h2,g⟩
def Ob(hs:sG q){V}(B:lr V):Sd q (pm (qZ q V)):=fun k v h=>by
 rcases Yj _ _ h with h | ⟨e,J,G,I⟩
 .cases h
 .obtain ⟨⟨j,D⟩,F,_⟩:=wU hs B J
  obtain⟨y,g⟩:=eT hs B D;refine⟨e.x.path,e.x.name,_,_,_,G.symm,by exact g.is▸g.ok,g.ab,?_⟩;rw[<- I,g.is];have:e.pc=nK q V e.x:=by rw[F]
  rw[this]
  delta nK
  rw[g.is]
def Lj(h:Sd D M)(g:t8 M x B=true):jE M x B=(wZ B (mG D x.name)).pv:=by
 delta t8 at g
 delta jE
 cases q:aZ M (x.path,.inr x.name) with
 |none=>rw[q] at g;cases g
 |some v =>
  rw[q] at g;have g:Em B v=true:=g;show(bif Em B v then v else .non)=_;rw[g];obtain⟨p,n,A,rs,cap,e,h1,h2,rfl⟩:=h _ _ q;cases e;show(wZ A (mG D x.name)).pv=_;rw[(Yz h1 ((UA h1).1 g)).1]
def Lk(g:t8 M x B=false):jE M x B=.non :=by grind[t8,jE]
def QG g V M D:(qm g V M D).length<=D.length :=by grind[qm,List.length_map]
def Zf g V M D(e:En):qm g V M (D++[e])=qm g V M D++if t8 M e.x (uG g V e.x)=true then [] else [kZ e.x.path] :=by grind[qm,List.filter_append,List.map_append,List.filter_cons_of_neg,List.filter_cons_of_pos]
section
variable {W:Wd}{a:Adr}
structure RJ(a:Adr)(C0 C:CH)(dd an x ll d:Addr)(pts:List Pt)(V:Vl)(M:Pm)(D:List En)(i:Nat)(st:Hn):Prop where
 il:i<=D.length
 md:C dd=some (.lst ((D.take i).map En.pv))
 ma:C an=some (.lst (qm pts V M (D.take i)))
 mm:C d=some (.dN M)
 wk:Wk a C x ll (xJ st)
 so:pN pts st
 rm:aV pts V st=D.drop i
 g:Gr C0 C
inductive gRe(ts:List PV)(C:CH)(Q:K1):Prop
 |mk(pts:List Pt)(vv l:Addr)(V V0:Vl)(z0:ts=[.tup (pts.map Pt.pv),.ref vv,.ref l])(z1:sG pts)(z2:lr V)(z3:lr V0)(z4:C vv=some (.dP (qw V)))(z5:C l=some (.lst ((qZ pts V0).map En.pv)))(z6:∀dd an C',C' dd=some (.lst ((qZ pts V).map En.pv))->C' an=some (.lst (qm pts V (pm (qZ pts V0)) (qZ pts V)))->Gr C C'->Q (.tup [.ref dd,.ref an]) C')
def ZT(T:Tx W a):Ok W a 30 24 ["house","values","old"] gRe:=by
 have S:=(T.F 24 rfl).s;have Zm:=(vI T).mono (show 1<=29 by decide);have QL:=(zT T).mono (show 2<=29 by decide);have oG:=(rB T).mono (show 2<=29 by decide);have mU:=(pD T).mono (show 1<=29 by decide);have cP:=Xm T;have rW:=(Xi T).mono (show 1<=28 by decide);have tY:=(YL T).mono (show 1<=29 by decide);have oY:=(Kq T).mono (show 11<=29 by decide)
 refine(T.F 24 rfl).o (fun N=>(xQ (fj 3 S.nd (cf (T.F 25 rfl) Zm N (c7 (cv 2))))
  (xQ (fj 4 S.nd (oZ zZ))
  (xQ (fj 5 S.nd (oZ zZ))
  (xQ (fj 6 S.nd (Qk T.Kx rW N rfl T.oB (T.F 59 rfl).b lO (c7 (cv 0))))
  (xQ (X3 PassesOwn.never (ct2 jI jS (R4 T.nV (T.F 60 rfl) T.oB tY N (cv 6)) sZ) (xQ (fj 7 S.nd (R4 T.nV (T.F 60 rfl) T.oB tY N (cv 6)))
  (xQ (fj 8 S.nd (cf (T.F 20 rfl) oG N (qQ (cv 0) (qQ (cv 1) (c7 (cv 7))))))
  (xQ (fj 9 S.nd (cf (T.F 26 rfl) QL N (qQ (cv 3) (qQ (cv 7) (c7 (cv 8))))))
  (xQ (iQ (ct2 lB vG (cv 9) sZ) (xQ (fj 9 S.nd (cf (T.F 10 rfl) cP N (qQ (cf (T.F 9 rfl) mU N (qQ (cv 0) (c7 (cx (cv 7) zQ)))) (c7 (cv 8)))))
  (kQ (xZ (cap (cv 5) (cx (cv 7) zQ))))) rQ)
  (xQ (xZ (cap (cv 4) (hX yZ bZ (cv 7) (wQ (c7 (cv 9))))))
  (kQ (xZ (cm T.nV (T.F 61 rfl) T.oB oY N (cv 6) (c7 (cx (cv 4) (rE nP kF zQ))))))))))))
  (kQ (gQ (wQ (qQ (cv 4) (c7 (cv 5)))))))))))) ?_
 rintro ts C R ⟨B,vv,l,V,V0,rfl,hs,Z,a7,hv,ml,q⟩;have c1:(qZ B V0).length<=559:=gN hs a7 (qV hs);refine yQ ⟨l,qZ B V0,rfl,ml,by lia,fun d C1 ct md aq=>?_⟩;have hM:=Ob hs a7;generalize pm (qZ B V0)=ab at md hM q;refine yQ ⟨by decide,fun F a8=>?_⟩;have ag:Gr C1 (pQ C1 F (.lst [])):=Gr.new a8 _;have ak:pQ C1 F (.lst []) F=some (.lst []):=jQ;generalize pQ C1 F (.lst [])=C2 at ag ak ⊢
 refine yQ ⟨by decide,fun G au=>?_⟩;have ae:Gr C2 (pQ C2 G (.lst [])):=Gr.new au _;have av:pQ C2 G (.lst []) G=some (.lst []):=jQ;have bb:F≠G:=fun z=>by rw[z,au] at ak;cases ak
 have br:=lK (aq.trans ag) au;generalize pQ C2 G (.lst [])=C3 at ae av ⊢
 apply yQ
 intro x dx cg ck c4;refine⟨x,dx,B,rfl,hs.n1,jQ,fun C4 M b0 bg e1=>⟨rfl,?_⟩⟩
 have g4:Gr C3 C4:=fun b o h=>by
  have:b≠x:=fun z=>by rw[z,cg] at h;cases h
  exact e1 b o (fun z=>this (AF.1 z)) (by rwa [vQ this])
 have ai:C3 M=none:=by rwa [vQ (Ne.symm bg.ne)] at b0
 have bf:M≠F:=fun z=>by rw[z,ae _ _ ak] at ai;cases ai
 have bc:M≠G:=fun z=>by rw[z,av] at ai;cases ai
 have bu:=lK ((aq.trans ag).trans ae) ai;have bt:=lK aq a8;generalize hD:qZ B V=D at q;have c0:D.length<=559:=by rw[<- hD];exact gN hs Z (qV hs)
 have dm:∀e∈D,(∃k,uB B k e.x)/\e=⟨e.x,nK B V e.x⟩/\pw e.x.pv<=1000000/\m9 e.x.path:=fun e cw=>wU hs Z (by rwa [hD]);have h6:=hs.n6;have bq:=((aq.trans ag).trans ae).trans g4;refine⟨D.length+1,?_⟩;refine wA (fun n ρ C'=>∃i st x7 x8 x9,n=D.length - i/\ρ=[some (.tup (B.map Pt.pv)),some (.ref vv),some (.ref l),some (.ref d),some (.ref F),some (.ref G),some (.ref x),x7,x8,x9]/\RJ a C C' F G x M d B V ab D i st) ?_ _ D.length _ _ (Bf _) ⟨0,[(VC B,6)],none,none,none,rfl,rfl,⟨AW _,g4 _ _ (ae _ _ ak),g4 _ _ av,g4 _ _ (ae _ _ (ag _ _ md)),bg,?_,?_,bq⟩⟩
 .rintro n ρ C5 L ⟨i,st,x7,x8,x9,rfl,rfl,J⟩ hL
  obtain⟨a0,ao⟩:=J.wk.ins;refine⟨dX ao rfl,⟨x,M,xJ st,rfl,J.wk,?_⟩⟩;rw[iI hs Z J.so J.rm]
  rcases CK i D.length with hi | hi
  .have Y:=AN hi
   generalize D[i]=g at Y;rw[Y];obtain⟨⟨k,du⟩,a5,_⟩:=dm g (Ae Y);obtain⟨y,I⟩:=eT hs Z du;have hx:g.x.pv=.tup [kZ g.x.path,.str g.x.name,.tup (g.x.gives.map dQ),.tup (g.x.downs.map dQ)]:=rfl;have ed:aV B V st=g::D.drop (i+1):=by rw[J.rm,Ar hi,<- Al ((AN hi).symm.trans Y)]
   have eB:uG B V g.x=pV g.x (rX V y g.x.path):=by delta uG;rw[I.is]
   have a6:g.pc=wZ (uG B V g.x) y:=by
    rw[a5]
    delta nK uG
    rw[I.is]
   have cz:k < B.length:=by
    have:=(AU.1 du.nm).1;unfold rJ at this
    rwa [AC] at this
   have c2:=du.pl;have cu:=du.dl;have cy:=du.gl;have hb:=uM Z I.ok g.x.path;refine Nf (Lr (uZ rfl ?_));refine yQ ⟨dX ao rfl,⟨x,M,xJ st,rfl,J.wk,?_⟩⟩;rw[iI hs Z J.so J.rm,Y];refine yQ ⟨B,vv,V,g.x,y,rfl,hs.nd,I.mem,I.nm,J.g _ _ hv,by lia,fun aa C6 cp m6 g6=>?_⟩;rw[<- eB] at m6;have hB:jy (uG B V g.x):=by rw[eB];exact I.ab
   refine yQ ⟨d,aa,ab,g.x,uG B V g.x,rfl,g6 _ _ J.mm,hM.ok,m6,hB,fun C7 g7=>?_⟩;have O:=g6.trans g7;refine qJ (fun bh C'=>bh=[some (.tup (B.map Pt.pv)),some (.ref vv),some (.ref l),some (.ref d),some (.ref F),some (.ref G),some (.ref x),some g.x.pv,some (.ref aa),some g.pc.pv]/\C' F=some (.lst ((D.take i).map En.pv))/\C' G=some (.lst (qm B V ab (D.take i++[g])))/\C' d=some (.dN ab)/\Wk a C' x M (xJ st)/\Gr C C') (fun L1 ah=>?_) ?_
   .have bl:=QG B V ab (D.take i)
    rw[Bg] at bl;rw[Zf] at ah
    cases hk:t8 ab g.x (uG B V g.x) with
    |true =>
     rw[hk,Ab rfl,Aa] at ah;have ek:=Lj hM hk;rw[I.is,<- a6] at ek;rw[ek]
     delta JJ
     refine xK (x:=g.pc.pv) ?_ ?_
     .rfl
     exact uT rfl (pX (ah _ _ ⟨rfl,O _ _ J.md,O _ _ J.ma,O _ _ J.mm,⟨⟨a0,O _ _ ao⟩,O _ _ J.wk.lst⟩,J.g.trans O⟩))
    |false =>
     rw[hk,Ac AR] at ah;rw[Lk hk]
     delta JJ
     refine xK (x:=.non) ?_ ?_
     .rfl
     refine yT rfl ?_;refine yQ (oQ hx (v:=.str g.x.name) rfl ⟨B,y,by rw[I.nm],hs.nd,I.mem,⟨y,aa,_,_,_,rfl,I.ok,g7 _ _ m6,hB,fun C8 g8=>?_⟩⟩);have U:=O.trans g8;rw[<- a6];have b2:G≠d:=fun z=>by have:=J.ma;rw[z,J.mm] at this;cases this
     have b3:x≠G:=fun z=>by have:=J.ma;rw[<- z,ao] at this;cases this
     refine⟨jB (U _ _ J.ma),oQ hx (v:=kZ g.x.path) rfl (fN (U _ _ J.ma) (Ah (show _<=1000 by lia) (by decide)) (ah _ _ ⟨rfl,?_,jQ,?_,⟨⟨a0,?_⟩,?_⟩,fun b o h=>?_⟩))⟩
     .rw [vQ bb];exact U _ _ J.md
     .rw [vQ (Ne.symm b2)];exact U _ _ J.mm
     .rw [vQ b3];exact U _ _ ao
     .rw [vQ bc];exact U _ _ J.wk.lst
     .rw [vQ (fun z=>by rw[z,br] at h;cases h)];exact U _ _ (J.g _ _ h)
   rintro bh C8 ⟨rfl,aj,b1,aw,az,g8⟩;have bx:PV.tup ([kZ g.x.path,.str g.x.name,.tup (g.x.gives.map dQ),.tup (g.x.downs.map dQ)]++[g.pc.pv])=g.pv:=rfl;refine pZ ⟨jB aj,⟨ie 1 rfl,?_⟩⟩;rw[hx];refine lS (by show 4+1<=sizeLine;decide) ?_;rw[bx];have tl:((D.take i).map En.pv).length<=559:=by rw[AC,Bg];lia
   refine fN aj (Ah tl (by decide)) ?_;obtain⟨a3,ax⟩:=az.ins;have b5:x≠F:=fun z=>by rw[z,aj] at ax;cases ax
   have b4:F≠d:=fun z=>by rw[z,aw] at aj;cases aj
   obtain⟨y',n,st',rfl,bp,⟨k',yp,cj,cn⟩,er,b7⟩:=iC hs Z J.so ed;have bo:g.x=y':=by rw[bp]
   have bz:=tN (V:=V) J.so;have c3:(aV B V ((y',n+1)::st')).length<=559:=by rw[J.rm,DS];lia
   rw[AV] at bz;have ba:pQ C8 F (.lst ((D.take i).map En.pv++[g.pv])) x=some (.ins a.Walk a3 [("lacking",.ref M)]):=by rw[vQ b5];exact ax
   have cb:Wk a (pQ C8 F (.lst ((D.take i).map En.pv++[g.pv]))) x M (xJ st'++[y'.pv]):=by
    refine⟨⟨a3,ba⟩,?_⟩;rw[vQ bf,<- wH (y',n+1)];exact az.lst
   have cq:yU k<=18:=by delta yU;split<;>decide
   have bw:=I.jb;have ar:nK B V g.x=g.pc:=by rw[a5]
   rw[ar] at bw;have a9:=I.row;rw[ar] at a9;refine⟨dX ba rfl,cV jQ Uy ⟨x,M,xJ st',y'.pv,g,_,rfl,cb,by rw[XB];lia,a9,by lia,by lia,by lia,fun bj b9 a4=>?_⟩⟩;have ay:∀b o,b≠F->b≠M->C8 b=some o->bj b=some o:=fun b o n1 n2 h=>a4 b o (fun z=>n2 (AF.1 z)) (by rw[vQ n1];exact h);have b6:d≠M:=fun z=>by have:=az.lst;rw[<- z,aw] at this;cases this
   refine hL (D.length - (i+1)) _ _ (by lia) ⟨i+1,(V6 B V y').map (fun z=>(z,n))++st',_,_,_,rfl,rfl,⟨hi,?_,?_,ay _ _ (Ne.symm b4) b6 aw,?_,b7,er.symm,fun b o h=>ay b o (fun z=>by rw[z,bt] at h;cases h) (fun z=>by rw[z,bu] at h;cases h) (g8 b o h)⟩⟩
   .rw [a4 _ _ (fun z=>bf (AF.1 z).symm) jQ,BK,Y,AS]
    rfl
   .rw [ay _ _ (Ne.symm bb) (Ne.symm bc) b1,BK,Y]
    rfl
   .rw [qE]
    have ek:(Wt.dj g.pc.row [] []).map (iJ g.x)=V6 B V y':=by
     rw[<- ar,bo]
     rfl
    rw[<- ek];exact b9
  .rw [Bn hi]
   have ei:=Nat.le_antisymm J.il hi;have md:=J.md;have ma:=J.ma;rw[ei,List.take_length] at md ma;refine Nf (Lr (gX rfl ⟨ie 2 rfl,?_⟩));exact q F G C5 md ma J.g
 .intro p hp
  cases AF.1 hp;exact⟨0,qV hs,by lia⟩
 .delta aV
  rw[B8,List.flatMap_nil,Aa,<- hD]
  rfl
end
def Ou M x B:t8 M x B=Em B ((aZ M (x.path,.inr x.name)).getD .non):=by
 delta t8
 cases aZ M (x.path,.inr x.name)<;>rfl
section
variable {W:Wd}{a:Adr}
inductive gSm(ts:List PV)(C:CH)(Q:K1):Prop
 |mk(v:PV)(aa:Addr)(B:dw)(z0:ts=[v,.ref aa])(z1:v=.non\/∃A y rs cap,jh rs cap y/\jy A/\v=(wZ A y).pv)(z2:C aa=some (.dT B))(z3:jy B)(z4:Q (.bl (Em B v)) C)
def wj(T:Tx W a):Ok W a 1 44 U14 gSm:=by
 have S:=(T.F 44 rfl).s
 refine(T.F 44 rfl).ok (fun ts C R h=>?_) fun ah A ai s H E hr=>⟨_,(xQ (iQ (ct2 lB vG (cv 0) sZ) (kQ (gQ tV)) rQ)
  (xQ (rV PassesOwn.never rfl (cx (cv 0) zQ) (cY rfl (xX (jn 2 S.nd) (xX (jn 3 S.nd) sV))) (kQ (iQ (ct2 iF nG (vP (yK hr) (cv 1) (cv 2) zQ) (cv 3)) (kQ (gQ tV)) rQ)))
  (kQ (gQ tV)))),?_⟩
 .obtain ⟨_,_,_,rfl,_⟩:=h;rfl
 rintro ts C R ⟨v,aa,B,rfl,hv,G,O,q⟩
 rcases hv with rfl | ⟨A,y,rs,cap,ae,hA,rfl⟩
 .apply pZ
  refine xK (x:=.non) ?_ ?_
  .rfl
  exact yT rfl q
 .apply pZ
  refine xK (x:=(wZ A y).pv) ?_ ?_
  .rfl
  refine uT rfl (pX ?_);have N:Em B (wZ A y).pv=((wZ A y).reads.map yJ).all (MP B):=rfl;rw[N] at q;have rv:∀c∈(wZ A y).reads,∃s n,c=([s,n],rK A s n):=fun c Y=>rG (mV ae Y) fun s n _ e=>⟨s,n,e⟩
  try dsimp only
  refine qJ (fun ag C'=>C'=C/\((wZ A y).reads.map yJ).all (MP B)=true) (fun L hL=>?_) ?_
  .refine Jl (oQ rfl (v:=.tup ((wZ A y).reads.map yJ)) rfl (wJ (fun zs M C'=>C'=C/\∃(ds g:List (List Str×Int))(I J:Option PV),(wZ A y).reads=ds++g/\zs=g.map yJ/\M=[some (wZ A y).pv,some (.ref aa),I,J]/\(ds.map yJ).all (MP B)=true) ?_ ?_ _ _ _ ⟨rfl,[],_,_,_,rfl,rfl,rfl,rfl⟩))
   .rintro z zs M C1 ⟨rfl,ds,g,I,J,e,F,rfl,Z⟩ L1 U
    cases g with
    |nil=>cases F
    |cons u g =>
    obtain⟨rfl,rfl⟩:=Az F;obtain⟨s,n,rfl⟩:=rv u (e▸AO _ AG);refine⟨rfl,bX (bX (dY ⟨nI G,bA G rfl (bM O s n).1 (zX (oJ _ _) (rF (fun D=>?_) fun D=>pX (U _ _ ⟨rfl,ds++[([s,n],rK A s n)],g,_,_,by rw[AX];exact e,rfl,rfl,?_⟩)))⟩))⟩
    .have ab:(((wZ A y).reads.map yJ).all (MP B))=false:=by
      rw[e,AS,List.all_append,A9,Cs]
      have:MP B (yJ ([s,n],rK A s n))=false:=by
       show decide (rK B s n=rK A s n)=false
       cases h:decide (rK B s n=rK A s n) with
       |false=>rfl
       |true=>rw[h] at D;cases D
      rw[this,Bool.false_and,Bool.and_false]
     rwa [ab] at q
    .rw [AS,List.all_append,Z]
     show(true&&(decide (rK B s n=rK A s n)&&true))=true
     cases h:decide (rK B s n=rK A s n) with
     |true=>rfl
     |false=>rw[h] at D;cases D
   .grind
  rintro ag C1 ⟨rfl,h⟩
  rwa [h] at q
inductive Tt(ts:List PV)(C:CH)(Q:K1):Prop
 |mk(pts:List Pt)(vv f l:Addr)(V V0:Vl)(z0:ts=[.tup (pts.map Pt.pv),.ref vv,.ref f,.ref l])(z1:sG pts)(z2:lr V)(z3:lr V0)(z4:C vv=some (.dP (qw V)))(z5:C f=some (.lst ((qZ pts V).map En.pv)))(z6:C l=some (.lst ((qZ pts V0).map En.pv)))(z7:∀an C',C' an=some (.lst (qm pts V (pm (qZ pts V0)) (qZ pts V)))->Gr C C'->Q (.ref an) C')
def wz(T:Tx W a):Ok W a 3 45 U11 Tt:=by
 have S:=(T.F 45 rfl).s;have UG:=(wj T).mono (show 1<=2 by decide);have dM:=gR T
 refine(T.F 45 rfl).ok (fun ts C R h=>?_) fun a7 A bc s H E hr=>⟨_,(xQ (fj 4 S.nd Vb)
  (xQ (vF PassesOwn.never rfl (cv 3) (cY rfl (xX (jn 5 S.nd) (xX (jn 6 S.nd) (xX (jn 7 S.nd) (xX (jn 8 S.nd) (xX (jn 9 S.nd) sV)))))) (kQ (K5 (BE (oI hr)) (cv 4) (wQ (qQ (cv 5) (c7 (cv 6)))) (cv 9))))
  (xQ (fj 10 S.nd (oZ zZ))
  (xQ (vF PassesOwn.never rfl (cv 2) (jn 11 S.nd) (kQ (iQ (oK (nZ (cf (T.F 44 rfl) UG hr (qQ (Ui Bx BL Cp (Kw (BE (oI hr))) X6 (cv 4) (c7 (Jx (cv 11) Qi (Qh zQ)))) (c7 (cf (T.F 39 rfl) dM hr (qQ (cv 0) (qQ (cv 1) (c7 (Jx (cv 11) Qi (Qh zQ))))))))))) (kQ (xZ (cap (cv 10) (cx (cv 11) zQ)))) rQ)))
  (kQ (gQ (cv 10))))))),?_⟩
 .obtain ⟨_,_,_,_,_,_,rfl,_⟩:=h;rfl
 rintro ts C R ⟨B,vv,f,l,V,V0,rfl,hs,hV,au,hv,mf,ml,q⟩;have a0:(qZ B V0).length<=559:=gN hs au (qV hs);have hM:=Ob hs au;generalize qZ B V0=J at ml a0 hM q
 apply yQ
 intro d aq;have a6:l≠d:=fun z=>by rw[z,aq] at ml;cases ml
 refine qJ (fun ak C'=>∃Y Z x7 x8 x9:Option PV,ak=[some (.tup (B.map Pt.pv)),some (.ref vv),some (.ref f),some (.ref l),some (.ref d),Y,Z,x7,x8,x9,none,none]/\C' d=some (.dN (pm J))/\Gr C C') (fun L hL=>?_) ?_
 .refine ⟨(J.map En.pv).length+1,eG (fun i ρ C'=>C' l=some (.lst (J.map En.pv))/\∃Y Z x7 x8 x9:Option PV,ρ=[some (.tup (B.map Pt.pv)),some (.ref vv),some (.ref f),some (.ref l),some (.ref d),Y,Z,x7,x8,x9,none,none]/\C' d=some (.dN (pm (J.take i)))/\Gr C C') (fun _ _ _ h=>h.1) ?_ ?_ _ 0 _ _ ⟨Gr.new aq _ _ _ ml,_,_,_,_,_,rfl,jQ,Gr.new aq _⟩ (BS _) (AW _)⟩
  .rintro i z ρ C1 I ⟨m1,Y,Z,x7,x8,x9,rfl,U,ab⟩ L1 ao
   rw[Aj] at I
   cases G:J[i]? with
   |none=>rw[G] at I;cases I
   |some e =>
   rw[G] at I;cases I;have hi:=(AU.1 G).1;refine⟨rfl,bX (bX (bX (bX (bX (dY ⟨ie 2 rfl,?_⟩)))))⟩;have pl:=ZM (J.take i) [];rw[Bg] at pl;have pl:(pm (J.take i)).length<=0+min i J.length:=pl;refine YO U (Ku _ _) (by lia) (ao _ _ ⟨by rw[vQ a6];exact m1,_,_,_,_,_,rfl,?_,fun b o h=>?_⟩)
   .rw [jQ,BK,G]
    delta pm
    rw[Au]
    rfl
   .rw [vQ (fun z=>by subst z;rw[aq] at h;cases h)];exact ab b o h
  .rintro ρ C1 ⟨m1,Y,Z,x7,x8,x9,rfl,U,ab⟩
   rw[AC,List.take_length] at U;exact hL _ _ ⟨_,_,_,_,_,rfl,U,ab⟩
 rintro ak C1 ⟨Y,Z,x7,x8,x9,rfl,U,ab⟩;generalize pm J=M at U hM q;refine yQ ⟨by decide,fun F ag=>?_⟩;have ar:Gr C (pQ C1 F (.lst [])):=ab.trans (Gr.new ag _);have aw:=Gr.new ag (.lst []) _ _ U;have av:pQ C1 F (.lst []) F=some (.lst []):=jQ;have a5:f≠F:=fun z=>by rw[<- z,ab _ _ mf] at ag;cases ag
 have a4:d≠F:=fun z=>by rw[<- z,U] at ag;cases ag
 have ay:=lK ab ag;generalize pQ C1 F (.lst [])=C2 at ar aw av ⊢;have az:(qZ B V).length<=559:=gN hs hV (qV hs);have dm:∀e∈qZ B V,(∃k,uB B k e.x)/\e=⟨e.x,nK B V e.x⟩/\pw e.x.pv<=1000000/\m9 e.x.path:=fun e ai=>wU hs hV ai;generalize qZ B V=D at mf az dm q;have h6:=hs.n6;refine qJ (fun ak C'=>∃ah:Option PV,ak=[some (.tup (B.map Pt.pv)),some (.ref vv),some (.ref f),some (.ref l),some (.ref d),Y,Z,x7,x8,x9,some (.ref F),ah]/\C' F=some (.lst (qm B V M D))/\Gr C C') (fun L hL=>?_) ?_
 .refine ⟨(D.map En.pv).length+1,eG (fun i ρ C'=>C' f=some (.lst (D.map En.pv))/\∃ah:Option PV,ρ=[some (.tup (B.map Pt.pv)),some (.ref vv),some (.ref f),some (.ref l),some (.ref d),Y,Z,x7,x8,x9,some (.ref F),ah]/\C' d=some (.dN M)/\C' F=some (.lst (qm B V M (D.take i)))/\Gr C C') (fun _ _ _ h=>h.1) ?_ ?_ _ 0 _ _ ⟨ar _ _ mf,_,rfl,aw,av,ar⟩ (BS _) (AW _)⟩
  .rintro i z ρ C3 I ⟨m3,ah,rfl,aj,O,ae⟩ L1 ao
   rw[Aj] at I
   cases G:D[i]? with
   |none=>rw[G] at I;cases I
   |some g =>
   rw[G] at I;cases I;have hi:=(AU.1 G).1;obtain⟨⟨k,du⟩,a8,_⟩:=dm g (Ae G);obtain⟨y,ha⟩:=eT hs hV du;have ai:g.pv=.tup [kZ g.x.path,.str g.x.name,.tup (g.x.gives.map dQ),.tup (g.x.downs.map dQ),g.pc.pv]:=rfl;have eB:uG B V g.x=pV g.x (rX V y g.x.path):=by delta uG;rw[ha.is]
   have bb:k < B.length:=by
    have:=(AU.1 du.nm).1;unfold rJ at this
    rwa [AC] at this
   have ba:=du.dl;have hb:=uM hV ha.ok g.x.path;refine⟨⟨d,M,rfl,aj⟩,Zy ai (show ¬ (HT.sIx 5 0 none=0/\HT.sIx 5 5 (some 2)=5) by decide) (YS aj (Ku g.x.path g.x.name) rfl ?_)⟩;refine Zy ai (show ¬ (HT.sIx 5 0 none=0/\HT.sIx 5 5 (some 4)=5) by decide) ?_;refine⟨B,vv,V,g.x,y,rfl,h6,hs.nd,ha.mem,ha.nm,ae _ _ hv,⟨du.gl,by lia,hb.2⟩,fun aa C4 a9 m4 N=>?_⟩;rw[<- eB] at m4;have hB:jy (uG B V g.x):=by exact eB▸ha.ab
   refine⟨_,aa,uG B V g.x,rfl,?_,m4,hB,?_⟩
   .cases a3:aZ M (g.x.path,.inr g.x.name) with
    |none=>exact .inl rfl
    |some v=>exact .inr (hM.ok _ _ a3)
   rw[<- Ou];have ax:=QG B V M (D.take i);rw[Bg] at ax;have es:=Zf B V M (D.take i) g
   cases hk:t8 M g.x (uG B V g.x) with
   |true =>
    rw[hk,Ab rfl,Aa] at es;refine lF (pX (ao _ _ ⟨N _ _ m3,_,rfl,N _ _ aj,?_,ae.trans N⟩));rw[BK,G];show C4 F=some (.lst (qm B V M (D.take i++[g])));exact es▸N _ _ O
   |false =>
    rw[hk,Ac AR] at es;refine hJ ⟨jB (N _ _ O),oQ ai rfl (fN (N _ _ O) (Ah (show _<=1000 by lia) (by decide)) (ao _ _ ⟨?_,_,rfl,?_,?_,fun b o h=>?_⟩))⟩
    .exact (vQ a5)▸N _ _ m3
    .exact (vQ a4)▸N _ _ aj
    .rw [jQ,BK,G]
     show _=some (CO.lst (qm B V M (D.take i++[g])));rw[es]
    .rw [vQ (fun z=>by rw[z,ay] at h;cases h)];exact N _ _ (ae _ _ h)
  .rintro ρ C3 ⟨m3,ah,rfl,aj,O,ae⟩
   rw[AC,List.take_length] at O;exact hL _ _ ⟨_,rfl,O,ae⟩
 rintro ak C3 ⟨ah,rfl,O,ae⟩;exact q F C3 O ae
end
def AB:List Str:=["a","ab"]
def Vq(h0:0<=v)(h1:v < 2):∃n∈AB,atI [PV.str "a",.str "ab"] v=some (.str n):=by
 have:v=0\/v=1:=by lia
 rcases this with rfl | rfl
 .exact ⟨"a",by decide +kernel,rfl⟩
 .exact ⟨"ab",by decide +kernel,rfl⟩
def ab3(h:n∈AB):n∈(["a","ab","b"]:List Str):=(by decide +kernel:∀n∈AB,n∈(["a","ab","b"]:List Str)) n h
def ab8(h:n∈AB):n.length<=8:=(by decide +kernel:∀n∈AB,n.length<=8) n h
section
variable {W:Wd}{a:Adr}
inductive Tg(ts:List PV)(C:CH)(Q:K1):Prop
 |mk(t:Addr)(ns:List Int)(z0:ts=[.ref t])(z1:Tp C t ns)(z2:∀(r:Rk)(C':CH),(∀bs τ,r.ok bs τ 1)->Tp C' t ns->Ex t C C'->Q r.pv C')
def VQ(T:Tx W a):Ok W a 2 46 U6 Tg:=by
 have S:=(T.F 46 rfl).s;have L:=rL T
 apply (T.F 46 rfl).o (fun F=>(xQ (fj 1 S.nd (wQ (qQ bQ (c7 (cx (oZ (qQ bQ (c7 bQ))) (cf (T.F 28 rfl) L F (qQ (cv 0) (c7 zQ))))))))
  (xQ (fj 2 S.nd (wQ (qQ bQ (c7 (cx (oZ (qQ bQ (c7 bQ))) (cf (T.F 28 rfl) L F (qQ (cv 0) (c7 zQ))))))))
  (xQ (fj 3 S.nd (oZ (qQ (wQ (qQ bQ (c7 zQ))) (qQ (cv 1) (qQ (cv 2) (qQ (wQ (qQ bQ (qQ (cv 1) (c7 (cv 2))))) (qQ (wQ (qQ bQ (qQ (cv 1) (qQ (cv 2) (c7 (wQ (qQ bQ (c7 zQ)))))))) (c7 (wQ (qQ bQ (qQ (cv 2) (c7 (cv 1)))))))))))))
  (kQ (gQ (cx (cv 3) (cf (T.F 28 rfl) L F (qQ (cv 0) (c7 zQ))))))))))
 rintro ts C R ⟨t,ns,rfl,Z,q⟩;refine yQ ⟨by decide,fun p1 h1=>⟨t,2,ns,rfl,Z.new h1 _,by decide,by decide,fun ar C1 aj ak M O=>?_⟩⟩;obtain⟨g,ah,ab⟩:=Vq aj ak;refine cV (O _ _ (Z.ne h1) jQ) ab ⟨ie 2 rfl,?_⟩;refine yQ ⟨by decide,fun p2 h2=>⟨t,2,ns,rfl,M.new h2 _,by decide,by decide,fun au C2 ao aq N U=>?_⟩⟩;refine sQ (Vq ao aq) fun B ai ae=>cV (U _ _ (M.ne h2) jQ) ae ⟨ie 2 rfl,?_⟩
 refine yQ ⟨by decide,⟨ie 3 rfl,⟨by decide,⟨ie 4 rfl,⟨ie 3 rfl,⟨ie 6 rfl,fun p3 J=>?_⟩⟩⟩⟩⟩⟩;have ha:∀(s n:Str)bs,(s = "take"\/s = "down")->n∈AB->gM bs s n:=fun s n bs h1 h2=>.inl ⟨h1,ab3 h2⟩;have G:∀bs τ,(Rk.ask "take" g).ok bs τ 0:=fun bs τ=>ha _ _ _ (.inl rfl) ah;have I:∀bs τ,(Rk.ask "down" B).ok bs τ 0:=fun bs τ=>ha _ _ _ (.inr rfl) ai
 refine⟨t,6,ns,rfl,N.new J _,by decide,by decide,fun D C3 av aw T3 Y=>?_⟩
 have ag:∃r:Rk,(∀bs τ,r.ok bs τ 1)/\atI [PV.tup [.str "num",.int 3],.tup [.str "take",.str g],.tup [.str "down",.str B],.tup [.str "add",.tup [.str "take",.str g],.tup [.str "down",.str B]],.tup [.str "pick",.tup [.str "take",.str g],.tup [.str "down",.str B],.tup [.str "num",.int 1]],.tup [.str "less",.tup [.str "down",.str B],.tup [.str "take",.str g]]] D=some r.pv:=by
  have:D=0\/D=1\/D=2\/D=3\/D=4\/D=5:=by lia
  rcases this with rfl | rfl | rfl | rfl | rfl | rfl
  .exact ⟨.num 3,fun _ _=>⟨by decide,by decide⟩,rfl⟩
  .exact ⟨.ask "take" g,fun bs τ=>(G bs τ).up,rfl⟩
  .exact ⟨.ask "down" B,fun bs τ=>(I bs τ).up,rfl⟩
  .exact ⟨.bin "add" (.ask "take" g) (.ask "down" B),fun bs τ=>⟨.inl rfl,G bs τ,I bs τ⟩,rfl⟩
  .exact ⟨.pick (.ask "take" g) (.ask "down" B) (.num 1),fun bs τ=>⟨G bs τ,I bs τ,⟨by decide,by decide⟩⟩,rfl⟩
  .exact ⟨.bin "less" (.ask "down" B) (.ask "take" g),fun bs τ=>⟨.inr (.inr rfl),I bs τ,G bs τ⟩,rfl⟩
 exact sQ ag fun r F er=>cV (Y _ _ (N.ne J) jQ) er (q r C3 F T3 ((((Ex.new h1 _).trans O).trans ((Ex.new h2 _).trans U)).trans ((Ex.new J _).trans Y)))
inductive Tj(ts:List PV)(C:CH)(Q:K1):Prop
 |mk(t:Addr)(ns:List Int)(z0:ts=[.ref t])(z1:Tp C t ns)(z2:∀(o:Option Rk)(C':CH),kT ["a","b"] [] o->Tp C' t ns->Ex t C C'->Q (iB o) C')
def YJ(T:Tx W a):Ok W a 2 47 U6 Tj:=by
 apply (T.F 47 rfl).o (fun J=>(kQ (gQ (cx (oZ (qQ sZ (qQ (wQ (qQ bQ (c7 zQ))) (c7 (wQ (qQ bQ (c7 bQ))))))) (cf (T.F 28 rfl) (rL T) J (qQ (cv 0) (c7 zQ)))))))
 rintro ts C R ⟨t,ns,rfl,B,q⟩;refine⟨by decide,⟨by decide,⟨by decide,fun L h1=>⟨t,3,ns,rfl,B.new h1 _,by decide,by decide,fun v C1 M N D g=>?_⟩⟩⟩⟩
 have F:∃o:Option Rk,kT ["a","b"] [] o/\atI [PV.non,.tup [.str "num",.int 4],.tup [.str "box",.str "a"]] v=some (iB o):=by
  have:v=0\/v=1\/v=2:=by lia
  rcases this with rfl | rfl | rfl
  .exact ⟨none,trivial,rfl⟩
  .exact ⟨some (.num 4),⟨by decide,by decide⟩,rfl⟩
  .exact ⟨some (.ask "box" "a"),.inr ⟨rfl,AG⟩,rfl⟩
 exact sQ F fun o I G=>cV (g _ _ (B.ne h1) jQ) G (q o C1 I D ((Ex.new h1 _).trans g))
noncomputable def SX(i j:Int)(n:Str)(g:List Ln):Pt:=⟨"p",[("a",i),("b",j)],[],[.give none n (.ask "box" "a") g]⟩
noncomputable def SQ(g q B:Rk):Pt:=⟨"q",[],[("w",B)],[.plain none "end" [("a",g)] [] [],.part none "r" [("ab",q)]]⟩
noncomputable def SN(g:Rk):Pt:=⟨"r",[],[],[.plain none "end" [("a",g)] [] []]⟩
inductive gMd(ts:List PV)(C:CH)(Q:K1):Prop
 |mk(t:Addr)(ns:List Int)(z0:ts=[.ref t])(z1:Tp C t ns)(z2:∀(i j:Int)(pts:List Pt)(C':CH),sG pts->Bd i->Bd j->(∃(y:PV)(r:List PV),pts.map Pt.pv=.tup [.str "p",.tup [dQ ("a",i),dQ ("b",j)],.tup [],y]::r)->Tp C' t ns->Ex t C C'->Q (.tup (pts.map Pt.pv)) C')
def xg(hi:Bd i)(hj:Bd j)(S:n∈AB)(G:(∀x∈D,gw ["a","b"] ["q","r"] 5 [] x)/\D.length<=6/\Ln.f9 D<=20/\Ln.iT D<=10)(h1:∀bs τ,I.ok bs τ 1)(h2:∀bs τ,J.ok bs τ 1)(N:∀bs τ,L.ok bs τ 1)(O:∀bs τ,M.ok bs τ 1):sG [SX i j n D,SQ I J L,SN M]:=by
 have e:rJ [SX i j n D,SQ I J L,SN M]=(["p","q","r"]:List Str):=rfl;have B:∀s∈(["a","ab","w","end","p","q","r"]:List Str),s.length<=8:=by decide +kernel
 refine⟨by show 1<=3;decide,by show 3<=6;decide,by rw[e];decide +kernel,by rw[e];exact fun s hs=>B s (by grind),fun k x F=>?_⟩;rw[e]
 rcases k with _ | _ | _ | k
 .cases F
  refine⟨by show 2<=4;decide,(fun _ z=>nomatch z),AW _,fun l q=>?_,by show 1<=6;decide,?_,?_,fun c g=>?_,fun c g=>?_⟩
  .cases AF.1 q
   exact⟨trivial,ab3 S,.inr ⟨rfl,AG⟩,G.1,G.2.1⟩
  .show 1+Ln.f9 D+0<=48
   lia
  .show Ln.iT D+0<=18
   lia
  .rcases Ai.1 g with rfl | g
   .exact hi
   .cases AF.1 g;exact hj
  .rcases Ai.1 g with rfl | g
   .exact (by decide +kernel:nL "a" = true)
   .cases AF.1 g;exact(by decide +kernel:nL "b" = true)
 .cases F
  refine⟨AW _,fun c g=>?_,by show 1<=4;decide,fun l q=>?_,by show 2<=6;decide,by show 1+0+(1+0)<=48;decide,by show 0+(1+0)<=2;decide,(fun _ z=>nomatch z),(fun _ z=>nomatch z)⟩
  .cases AF.1 g;exact⟨N _ _,B "w" (by simp)⟩
  .rcases Ai.1 q with rfl | q
   .exact ⟨trivial,⟨fun c g=>by cases AF.1 g;exact⟨(h1 _ _).up,B "a" (by simp)⟩,by show 1<=4;decide⟩,⟨(fun _ z=>nomatch z),AW _⟩,(fun _ z=>nomatch z),AW _,B "end" (by simp)⟩
   .cases AF.1 q
    exact⟨trivial,AG,fun c g=>by cases AF.1 g;exact⟨h2 _ _,B "ab" (by simp)⟩,by show 1<=4;decide⟩
 .cases F
  refine⟨AW _,(fun _ z=>nomatch z),AW _,fun l q=>?_,by show 1<=6;decide,by show 1+0+0<=48;decide,AW _,(fun _ z=>nomatch z),(fun _ z=>nomatch z)⟩;cases AF.1 q;exact⟨trivial,⟨fun c g=>by cases AF.1 g;exact⟨(O _ _).up,B "a" (by simp)⟩,by show 1<=4;decide⟩,⟨(fun _ z=>nomatch z),AW _⟩,(fun _ z=>nomatch z),AW _,B "end" (by simp)⟩
 .cases F
def wu(T:Tx W a):Ok W a 3 48 U6 gMd:=by
 have S:=(T.F 48 rfl).s;have J:=(rL T).mono (show 1<=2 by decide);have iU:=sO T;have I:=VQ T;have WE:=YJ T
 refine(T.F 48 rfl).o (fun B=>(xQ (fj 1 S.nd (wQ (c7 (wQ (qQ bQ (qQ (cf (T.F 47 rfl) WE B (c7 (cv 0))) (qQ bQ (c7 (wQ (c7 (wQ (qQ (cx (oZ (qQ bQ (c7 bQ))) (cf (T.F 28 rfl) J B (qQ (cv 0) (c7 zQ)))) (c7 (wQ (qQ bQ (c7 bQ))))))))))))))))
  (xQ (iQ (ct2 lX vX (cf (T.F 28 rfl) J B (qQ (cv 0) (c7 zQ))) zQ) (kQ (fj 1 S.nd (wQ (c7 (wQ (qQ bQ (qQ sZ (qQ bQ (qQ (wQ zZ) (qQ (wQ zZ) (c7 (cv 1)))))))))))) rQ)
  (xQ (fj 1 S.nd (wQ (c7 (wQ (qQ bQ (qQ sZ (qQ (cx (oZ (qQ bQ (c7 bQ))) (cf (T.F 28 rfl) J B (qQ (cv 0) (c7 zQ)))) (qQ (wQ (qQ bQ (c7 bQ))) (c7 (cv 1))))))))))
  (xQ (fj 2 S.nd (wQ (qQ bQ (qQ (wQ (qQ (wQ (qQ bQ (c7 (cf (T.F 29 rfl) iU B (c7 (cv 0)))))) (c7 (wQ (qQ bQ (c7 (cf (T.F 29 rfl) iU B (c7 (cv 0))))))))) (qQ (wQ zZ) (c7 (cv 1)))))))
  (xQ (fj 3 S.nd (wQ (c7 (wQ (qQ bQ (qQ sZ (qQ bQ (qQ (wQ (c7 (wQ (qQ bQ (c7 (cf (T.F 46 rfl) I B (c7 (cv 0)))))))) (qQ (wQ zZ) (c7 (wQ zZ)))))))))))
  (xQ (fj 3 S.nd (hX yZ bZ (cv 3) (wQ (c7 (wQ (qQ bQ (qQ sZ (qQ bQ (c7 (wQ (c7 (wQ (qQ bQ (c7 (cf (T.F 46 rfl) I B (c7 (cv 0)))))))))))))))))
  (xQ (fj 4 S.nd (wQ (c7 (wQ (qQ bQ (qQ sZ (qQ bQ (qQ (wQ (c7 (wQ (qQ bQ (c7 (cf (T.F 46 rfl) I B (c7 (cv 0)))))))) (qQ (wQ zZ) (c7 (wQ zZ)))))))))))
  (kQ (gQ (wQ (qQ (cv 2) (qQ (wQ (qQ bQ (qQ (wQ zZ) (qQ (wQ (c7 (wQ (qQ bQ (c7 (cf (T.F 46 rfl) I B (c7 (cv 0)))))))) (c7 (cv 3)))))) (c7 (wQ (qQ bQ (qQ (wQ zZ) (qQ (wQ zZ) (c7 (cv 4)))))))))))))))))))) ?_
 rintro ts C R ⟨t,ns,rfl,hT,q⟩;have g:∀n,n<=9->n<=sizeLine:=fun n h=>Ad h (by decide);refine yQ ⟨t,ns,rfl,hT,fun o C1 ho N e1=>⟨g 2 (by decide),fun p1 h1=>⟨t,2,ns,rfl,N.new h1 _,by decide,by decide,fun a4 C2 ay az T2 O=>?_⟩⟩⟩;obtain⟨M,aq,ah⟩:=Vq ay az;have x2:=e1.trans ((Ex.new h1 _).trans O);refine cV (O _ _ (N.ne h1) jQ) ah ⟨g 2 (by decide),⟨g 2 (by decide),⟨g 1 (by decide),⟨g 4 (by decide),⟨g 1 (by decide),?_⟩⟩⟩⟩⟩
 have l1:(∀x∈[Ln.part o "q" [(M,.ask "box" "b")]],gw ["a","b"] ["q","r"] 4 [] x):=fun x G=>by
  cases AF.1 G;exact⟨ho,AG,fun c hc=>by cases AF.1 hc;exact⟨.inr ⟨rfl,AJ _ AG⟩,ab8 aq⟩,by show 1<=4;decide⟩
 refine qJ (fun ab C'=>∃D:List Ln,(∀x∈D,gw ["a","b"] ["q","r"] 5 [] x)/\(D.length<=6/\Ln.f9 D<=20/\Ln.iT D<=10)/\ab=[some (.ref t),some (.tup (Ln.gj D)),none,none,none]/\Tp C' t ns/\Ex t C C') (fun L Z=>?_) ?_
 .refine ⟨t,2,ns,rfl,T2,by decide,by decide,fun a5 C3 a6 a7 F U=>zX (oJ _ _) (rF (fun hb=>?_) fun hb=>pX ?_)⟩
  .refine ⟨g 0 (by decide),⟨g 0 (by decide),⟨g 6 (by decide),⟨g 1 (by decide),?_⟩⟩⟩⟩
   refine Z _ _ ⟨[.plain none "box" [] [] [.part o "q" [(M,.ask "box" "b")]]],fun x G=>?_,⟨by show 1<=6;decide,by show 1+(1+0)+0<=20;decide,by show 1+0+0<=10;decide⟩,rfl,F,x2.trans U⟩;cases AF.1 G;exact⟨trivial,⟨(fun _ z=>nomatch z),AW _⟩,⟨(fun _ z=>nomatch z),AW _⟩,l1,by show 1<=6;decide,(by decide +kernel:("box" : Str).length<=8)⟩
  .exact Z _ _ ⟨[.part o "q" [(M,.ask "box" "b")]],fun x G=>(l1 x G).mono (by decide),⟨by show 1<=6;decide,by show 1+0<=20;decide,by show 1+0<=10;decide⟩,rfl,F,x2.trans U⟩
 rintro ab C3 ⟨D,ao,ak,rfl,F,x3⟩;refine yQ ⟨g 2 (by decide),fun p2 h2=>⟨t,2,ns,rfl,F.new h2 _,by decide,by decide,fun v3 C4 a0 a3 T4 Y=>?_⟩⟩;obtain⟨n2,ar,ai⟩:=Vq a0 a3;have x4:=x3.trans ((Ex.new h2 _).trans Y);refine cV (Y _ _ (F.ne h2) jQ) ai ⟨g 2 (by decide),⟨g 5 (by decide),⟨g 1 (by decide),?_⟩⟩⟩;refine yQ ⟨t,ns,rfl,T4,fun i C5 i0 i1 T5 e5=>⟨g 2 (by decide),⟨t,ns,rfl,T5,fun j C6 j0 j1 T6 e6=>⟨g 2 (by decide),⟨g 2 (by decide),⟨g 0 (by decide),⟨g 4 (by decide),?_⟩⟩⟩⟩⟩⟩⟩
 refine yQ ⟨t,ns,rfl,T6,fun r1 C7 au T7 e7=>⟨g 2 (by decide),⟨g 1 (by decide),⟨g 0 (by decide),⟨g 0 (by decide),⟨g 6 (by decide),⟨g 1 (by decide),?_⟩⟩⟩⟩⟩⟩⟩;refine yQ ⟨t,ns,rfl,T7,fun r2 C8 av T8 e8=>⟨g 2 (by decide),⟨g 1 (by decide),⟨g 4 (by decide),⟨g 1 (by decide),lS (by show 1+1<=sizeLine;decide) ?_⟩⟩⟩⟩⟩;refine yQ ⟨t,ns,rfl,T8,fun r4 C9 ax T9 e9=>⟨g 2 (by decide),⟨g 1 (by decide),⟨g 0 (by decide),⟨g 0 (by decide),⟨g 6 (by decide),⟨g 1 (by decide),?_⟩⟩⟩⟩⟩⟩⟩
 refine⟨g 0 (by decide),⟨t,ns,rfl,T9,fun r3 ae aw ag aj=>⟨g 2 (by decide),⟨g 1 (by decide),⟨g 4 (by decide),⟨g 0 (by decide),⟨g 0 (by decide),⟨g 4 (by decide),⟨g 3 (by decide),?_⟩⟩⟩⟩⟩⟩⟩⟩⟩;exact q i j [SX i j n2 D,SQ r1 r2 r3,SN r4] ae (xg ⟨i0,i1⟩ ⟨j0,j1⟩ ar ⟨ao,ak⟩ au av aw ax) ⟨i0,i1⟩ ⟨j0,j1⟩ ⟨_,_,rfl⟩ ag ((((((x4.trans e5).trans e6).trans e7).trans e8).trans e9).trans aj)
end
theorem Tp.gr(h:Tp C t ns)(g:Gr C C'):Tp C' t ns:=by
 obtain⟨⟨i,j,k,e,r⟩,h2⟩:=h;exact⟨⟨i,j,k,g _ _ e,r⟩,h2⟩
section
variable {W:Wd}{a:Adr}
def M3(d:Nat)(ys:List PV):Prop:=ys.length<=3000000/\∀z∈ys,Pd d z/\pw z<=3000000
def M3.th(h:M3 d ys)C:∀z∈ys,Th C z:=fun z g=>by
 cases d with
 |zero=>exact(h.2 z g).1.elim
 |succ d=>exact(Pn.of (h.2 z g).1).th
inductive gA3(d:Nat)(ts:List PV)(C:CH)(Q:K1):Prop
 |mk(p q l1 l2 m1 m2:Addr)(ys zs:List PV)(z0:ts=[.ref p,.ref q])(z1:C p=some (.lst [.ref l1,.ref l2]))(z2:C q=some (.lst [.ref m1,.ref m2]))(z3:C l1=some (.lst ys))(z4:C m1=some (.lst ys))(z5:C l2=some (.lst zs))(z6:C m2=some (.lst zs))(z7:M3 d ys)(z8:M3 d zs)(z9:∀C',Gr C C'->Q (.bl true) C')
def Iw(T:Tx W a)d r(aq:1<=r)(gY:Ok W a r 43 Ni (Tw d)):Ok W a (r+1) 43 Ni (gA3 d):=by
 have S:=(T.F 43 rfl).s;have pM:=(Kt T).mono (show 1<=r by omega)
 apply (T.F 43 rfl).o (fun M=>(xQ (fj 2 S.nd (cf (T.F 42 rfl) pM M (c7 (cv 0))))
  (xQ (iQ (ct2 iF nG (cv 2) (cf (T.F 42 rfl) pM M (c7 (cv 1)))) (kQ (gQ tV)) rQ)
  (xQ (iQ (ji (jj (ct2 lX vX (cv 2) bQ) (je (ct2 lX vX (cv 2) bQ)))) (kQ (gQ (Qm (lY lX vX (ou T.nW (cv 0)) (ou T.nW (cv 1)) (fG _)) (Qj (lQ (wM rfl) yP rfl T.QP rfl (c7 (zY rfl (S.c (by decide +kernel)) (S.k rfl rfl rfl (by decide +kernel)) (Jw rfl T.cM (c7 (ou T.nW (cv 0)))) (fun _ _ _ _ _=>oV) (fun _ _ _ _ _=>(cf (T.F 43 rfl) gY M (qQ (cx (cv 1) (cv 0)) (c7 (cx (cv 2) (cv 0))))))))))))) rQ)
  (kQ (gQ (lY lX vX (cv 0) (cv 1) (fG _))))))))
 rintro ts C R ⟨p,q,l1,l2,m1,m2,ys,zs,rfl,L,U,ai,ak,aj,ao,hy,hz,k⟩;refine yQ ⟨.ref p,.lst,rfl,vD L,fun C1 Y=>⟨.ref q,.lst,rfl,sP (vD U) Y,fun C2 ah=>?_⟩⟩;have g:=Y.trans ah
 apply zX (fQ _ _)
 refine gX (by rw[Af rfl];rfl) (pX ?_)
 apply zX (fQ _ _)
 refine gX (by decide +kernel) (zX (fQ _ _) (uZ (by decide +kernel) ?_));refine KC (g _ _ L) (KC (g _ _ U) (zX (oJ _ _) (uZ rfl (KC (g _ _ L) ⟨by simp only[List.length_cons,List.length_nil];lia,by simp only[List.length_cons,List.length_nil];lia,?_⟩))))
 have ag:∀l m F,C l=some (.lst F)->C m=some (.lst F)->M3 d F->∀B G,Gr C2 B->(∀C',Gr B C'->G (.bl true) C')->Tw d [.ref l,.ref m] B G:=by
  intro l m F h1 h2 O B G D J;have I:=g.trans D;refine⟨.ref l,.ref m,_,rfl,.lst (vD (I _ _ h1)),.inr ⟨F,.lst,.lst (I _ _ h2),O.1,O.2,fun xs hx=>?_,rfl⟩,fun b C4 hb g4=>?_⟩
  .cases hx with
   |lst Z=>rw[I _ _ h1] at Z;cases Z;exact O.th B
  .obtain rfl:b=true:=hb.2 (.lst (I _ _ h1))
   exact J C4 g4
 refine yF (fun _=>.bl true) _ [] C2 Gr.refl (by show 0+2<=sizeLine;decide) (fun t N B G D J=>?_) fun p' B _ D m3=>?_
 .have N:t=.int 0\/t=.int 1:=by
   have:t∈[PV.int 0,PV.int 1]:=N
   simp only[List.mem_cons,List.not_mem_nil,or_false] at this
   exact this
  have ab:=D _ _ (g _ _ L);have ae:=D _ _ (g _ _ U)
  rcases N with rfl | rfl
  .exact cV ab rfl (cV ae rfl (ag l1 m1 ys ai ak hy B _ D J))
  .exact cV ab rfl (cV ae rfl (ag l2 m2 zs aj ao hz B _ D J))
 .exact Zg (bs:=[true,true]) m3 (k B (g.trans D))
def LQ(hs:sG D){V}(g:lr V):M3 21 ((qZ D V).map En.pv):=⟨by rw[AC];exact Ad (gN hs g (qV hs)) (by decide),fun z B=>by
 obtain⟨e,q,rfl⟩:=AL.1 B
 exact(GE hs g q).2⟩
def MN(hs:sG B){V}(g:lr V)M:M3 21 (qm B V M (qZ B V)):=⟨Ad (QG _ _ _ _) (Ad (gN hs g (qV hs)) (by decide)),fun z F=>by
 obtain⟨e,D,rfl⟩:=AL.1 F;obtain⟨_,h1,h2⟩:=(GE hs g (List.mem_filter.1 D).1);have q:kZ e.x.path∈[kZ e.x.path,.str e.x.name,.tup (e.x.gives.map dQ),.tup (e.x.downs.map dQ),e.pc.pv]:=AG;have h2:pw (.tup [kZ e.x.path,.str e.x.name,.tup (e.x.gives.map dQ),.tup (e.x.downs.map dQ),e.pc.pv])<=3000000:=h2;rw[pw] at h2;have:=lA q
 cases h1 with
 |tup h=>exact⟨dJ (h _ q) (by decide),by lia⟩⟩
structure LJ(C:CH)(t bl old:Addr)(ns:List Int)(pts:List Pt)(bxs:List (Str×Int))(V0:Vl):Prop where
 tp:Tp C t ns
 mb:C bl=some (.lst (bxs.map dQ))
 b2:bxs.length=2
 bb:Es bxs
 mo:C old=some (.lst ((qZ pts V0).map En.pv))
 v0:lr V0
 nbt:bl≠t
 not:old≠t
 nbo:bl≠old
inductive Ph(ts:List PV)(C:CH)(Q:K1):Prop
 |mk(ns:List Int)(z0:ts=[.fz (ns.map PV.int)])(z1:ns.length<=63)(z2:∀C',Q (.bl true) C')
def ok_law(T:Tx W a):Ok W a 120 49 ["_law_script"] Ph:=by
 have S:=(T.F 49 rfl).s;have UF:=(v9 T).mono (show 1<=119 by decide);have mJ:=(rL T).mono (show 1<=119 by decide);have iU:=(sO T).mono (show 2<=119 by decide);have UH:=(wu T).mono (show 3<=119 by decide);have xA:=(YK T).mono (show 37<=119 by decide);have oS:=(rN T).mono (show 32<=119 by decide);have WC:=(ZT T).mono (show 30<=119 by decide);have UI:=(wz T).mono (show 3<=119 by decide);have A2:=YN T 21 24 (by decide) (VW T 21)
 have gY:=Oh (A2.mono (show 25<=119 by decide)) ((Iw T 21 25 (by decide) A2).mono (show 26<=119 by decide))
 refine(T.F 49 rfl).o (fun D=>(xQ (fj 1 S.nd (cf (T.F 27 rfl) UF D (c7 (cv 0))))
  (xQ (fj 2 S.nd (cf (T.F 48 rfl) UH D (c7 (cv 1))))
  (xQ (fj 3 S.nd (lJ uP Vd rfl T.kD rfl (c7 (cx (cx (cv 2) zQ) zQ))))
  (xQ (fj 4 S.nd (cf (T.F 41 rfl) xA D (qQ (cv 2) (c7 zx))))
  (xQ (Qc PassesOwn.never rfl rfl T.cM (c7 (hX yZ bZ zQ (cf (T.F 28 rfl) mJ D (qQ (cv 1) (c7 zQ))))) (jn 5 S.nd) (xQ (fj 6 S.nd (cf (T.F 28 rfl) mJ D (qQ (cv 1) (c7 zQ))))
  (xQ (tD (wQ (qQ (cx (cx (cv 3) (cv 6)) zQ) (c7 (cf (T.F 29 rfl) iU D (c7 (cv 1)))))) (kP (cv 3) (cv 6)))
  (xQ (fj 7 S.nd (Ub (zM D) (GX (wQ zZ) (wQ (qQ bQ (c7 (qb T.fZ (cv 3))))) zb)))
  (xQ (fj 8 S.nd (cf (T.F 41 rfl) xA D (qQ (cv 2) (c7 (cv 7)))))
  (xQ (fj 9 S.nd (cf (T.F 23 rfl) oS D (qQ (cv 2) (qQ (cv 7) (c7 (cv 4))))))
  (xQ (iQ (ji (jj (oK (nZ (lQ qX lZ rfl T.tQ rfl (qQ (cv 9) (c7 (aK (n:="bool") rfl T.vA rfl)))))) (je (ct2 iF nG (cv 9) (cf (T.F 43 rfl) gY D (qQ (cv 4) (c7 (cv 8)))))))) (kQ (gQ tV)) rQ)
  (xQ (iQ (oK (nZ (cf (T.F 43 rfl) gY D (qQ (lJ uP Vd rfl T.kD rfl (c7 (cf (T.F 24 rfl) WC D (qQ (cv 2) (qQ (cv 7) (c7 (cv 4))))))) (c7 (oZ (qQ (cv 8) (c7 (cf (T.F 45 rfl) UI D (qQ (cv 2) (qQ (cv 7) (qQ (cv 8) (c7 (cv 4)))))))))))))) (kQ (gQ tV)) rQ)
  (kQ (fj 4 S.nd (cv 8)))))))))))
  (kQ (gQ tV)))))))) ?_
 rintro ts C R ⟨ns,rfl,hl,q⟩;refine yQ ⟨ns,rfl,hl,fun t C1 n1 e1 T1=>?_⟩;refine yQ ⟨t,ns,rfl,T1,fun i j I C2 hs bf bj ep T2 e2=>?_⟩;obtain⟨y0,r0,ep⟩:=ep;refine yQ (oQ (Bu PV.tup ep) cQ (aQ (v:=.tup [dQ ("a",i),dQ ("b",j)]) rfl ?_));intro G az;have T3:=T2.new az (.lst [dQ ("a",i),dQ ("b",j)]);have b1:=T2.ne az;have ai:pQ C2 G (.lst [dQ ("a",i),dQ ("b",j)]) G=some (.lst [dQ ("a",i),dQ ("b",j)]):=jQ
 generalize pQ C2 G (.lst [dQ ("a",i),dQ ("b",j)])=C3 at T3 ai ⊢;have a9:lr []:=⟨(fun _ z=>nomatch z),(fun _ z=>nomatch z)⟩
 apply yQ
 intro B O;refine⟨I,B,[],rfl,hs,a9,jQ,fun F C4 ho a4 g4=>?_⟩
 have M:LJ C4 t G F ns I [("a",i),("b",j)] []:=⟨(T3.new O _).gr g4,g4 _ _ (Gr.new O _ _ _ ai),rfl,fun c hc=>by
  rcases Ai.1 hc with rfl | hc
  .exact bf
  .cases AF.1 hc;exact bj,a4,a9,b1,(T3.new O _).ne ho,fun z=>by rw[<- z,Gr.new O _ _ _ ai] at ho;cases ho⟩
 clear T3 ai a4 g4 ho O;refine qJ (fun cj C'=>True) (fun L hL=>?_) fun _ C5 _=>q C5;refine⟨t,5,ns,rfl,M.tp,by decide,by decide,fun v C5 cb cg T5 e5=>gU ⟨by lia,by lia,?_⟩⟩;have J5:LJ C5 t G F ns I [("a",i),("b",j)] []:=⟨T5,e5 _ _ M.nbt M.mb,M.b2,M.bb,e5 _ _ M.not M.mo,M.v0,M.nbt,M.not,M.nbo⟩;refine wJ (fun zs ρ C'=>∃(F:Addr)(g:List (Str×Int))(U:Vl)(x5 x6 x7 x8 x9:Option PV),ρ=[some (.fz (ns.map PV.int)),some (.ref t),some (.tup (I.map Pt.pv)),some (.ref G),some (.ref F),x5,x6,x7,x8,x9]/\LJ C' t G F ns I g U) ?_ ?_ _ _ _ ⟨F,_,[],_,_,_,_,_,rfl,J5⟩
 .rintro z zs ρ C6 ⟨F,g,U,x5,x6,x7,x8,x9,rfl,J⟩ L1 bo
  refine yQ ⟨t,2,ns,rfl,J.tp,by decide,by decide,fun u C7 u0 u1 T7 e7=>?_⟩;obtain⟨k,rfl⟩:∃k:Nat,u=k:=⟨u.toNat,by lia⟩;have hk:k < g.length:=by rw[J.b2];lia
  have a0:=e7 _ _ J.nbt J.mb
  have bp:atI (g.map dQ) (k:Int)=some (dQ g[k]):=by
   have:=dS (xs:=g.map dQ) (k:=k) (by rw[AC];exact hk)
   rwa [List.getElem_map] at this
  refine pZ (cV a0 bp (aQ (v:=.str g[k].1) rfl ⟨t,ns,rfl,T7,fun w C8 w0 w1 T8 e8=>⟨ie 2 rfl,?_⟩⟩));have bw:=e8 _ _ J.nbt a0;have bz:=e8 _ _ J.not (e7 _ _ J.not J.mo);refine WZ (j:=k) bw (by rw[AC];delta ixN;rw[Ab (by lia),Ab (by lia)];rw[DJ]) ?_;have eb:(g.map dQ).set k (.tup [.str g[k].1,.int w])=(g.set k (g[k].1,w)).map dQ:=by rw[List.map_set];rfl
  rw[eb]
  have bb:Es (g.set k (g[k].1,w)):=fun c hc=>by
   rcases List.mem_or_eq_of_mem_set hc with h | rfl
   .exact J.bb c h
   .exact ⟨w0,w1⟩
  have lb:(g.set k (g[k].1,w)).length=2:=by rw[List.length_set];exact J.b2
  generalize g.set k (g[k].1,w)=g at bb lb ⊢;have T9:=T8.put J.nbt (.lst (g.map dQ));have aj:pQ C8 G (.lst (g.map dQ)) G=some (.lst (g.map dQ)):=jQ;have a6:pQ C8 G (.lst (g.map dQ)) F=some (.lst ((qZ I U).map En.pv)):=by rw[vQ (Ne.symm J.nbo)];exact bz
  generalize pQ C8 G (.lst (g.map dQ))=C9 at T9 aj a6 ⊢;have N:lr [([],("p",g))]:=⟨fun e ag=>by cases AF.1 ag;exact bb,fun e ag=>by cases AF.1 ag;lia⟩
  try dsimp only
  apply yQ
  intro B O;refine⟨by decide,sW (Gr.new O _ _ _ aj) ⟨ie 2 rfl,?_⟩⟩;refine VG jQ (k:=[]) rfl ?_
  have gv:Gr C9 (pQ (pQ C9 B (.dP [])) B (.dP [([],.tup [.str "p",.tup (g.map dQ)])])):=fun b o h=>by
   have a8:b≠B:=fun z=>by rw[z,O] at h;cases h
   rw[vQ a8,vQ a8];exact h
  have mv:pQ (pQ C9 B (.dP [])) B (.dP [([],.tup [.str "p",.tup (g.map dQ)])]) B=some (.dP (qw [([],("p",g))])):=jQ;generalize pQ (pQ C9 B (.dP [])) B (.dP [([],.tup [.str "p",.tup (g.map dQ)])])=b4 at gv mv ⊢;generalize ([([],("p",g))]:Vl)=V at N mv;refine yQ ⟨I,B,V,rfl,hs,N,mv,fun Y ba ar mf aq=>?_⟩;have gf:=gv.trans aq;have b3:=(T9.gr gv).ne ar;have b0:G≠Y:=fun z=>by rw[<- z,gv _ _ aj] at ar;cases ar
  have ak:=gf _ _ a6
  have e0:∀C':CH,∀t∈(qZ I U).map En.pv,Th C' t/\Eg t:=fun C' t ht=>by
   obtain⟨e,ag,rfl⟩:=AL.1 ht;obtain⟨h1,h2,h3⟩:=GE hs J.v0 ag;have hb:=RD (C:=C') h2 h1 h3;exact⟨hb.th,hb.eg (by decide)⟩
  refine yQ ⟨I,B,V,.ref F,rfl,hs,N,aq _ _ mv,.lst (vD ak),fun l xs el ml=>?_,fun b bc hb ae=>?_⟩
  .cases el
   rw[ak] at ml;cases ml;exact e0 ba
  have ao:=ae _ _ ak;have a3:=ae _ _ mf;refine pZ (tX rfl (k:=.bl) rfl (lF ?_));have pl:=LQ hs N;refine .inl ⟨.ref F,.ref Y,_,rfl,.lst (vD ao),.inr ⟨(qZ I V).map En.pv,.lst,.lst a3,pl.1,pl.2,fun xs hx=>?_,rfl⟩,fun b2 b5 bq ah=>?_⟩
  .cases hx with
   |lst m'=>rw[ao] at m';cases m';exact fun z hz=>(e0 bc z hz).1
  have bg:b=b2:=by
   rw[Cd,hb,bq]
   constructor
   .rintro ⟨l,el,ml⟩
    cases el;exact .lst (ae _ _ ml)
   .intro h
    cases h with
    |lst m' =>
     rw[ao] at m';exact⟨F,rfl,ak.trans m'⟩
  subst bg;refine zX rfl (gX (by rw[Af rfl];rfl) (pX ?_));have a5:=ah _ _ ao;have au:=ah _ _ a3;have a7:=ah _ _ (ae _ _ (aq _ _ mv));refine pZ ⟨I,B,F,V,U,rfl,hs,N,J.v0,a7,a5,fun dd av b6 bx bt bh=>?_⟩;intro p hp;have gp:=Gr.new hp (.lst [.ref dd,.ref av]);have Z:=bh.trans gp;refine⟨I,B,Y,F,V,U,rfl,hs,N,J.v0,Z _ _ a7,Z _ _ au,Z _ _ a5,fun aw b7 bu bl=>⟨ie 2 rfl,fun q2 br=>?_⟩⟩
  have gq:=Gr.new br (.lst [.ref Y,.ref aw]);have ab:=bl.trans gq;refine .inr ⟨p,q2,dd,av,Y,aw,_,_,rfl,ab _ _ jQ,jQ,ab _ _ (gp _ _ bx),ab _ _ (Z _ _ au),ab _ _ (gp _ _ bt),gq _ _ bu,pl,MN hs N _,fun b9 ax=>lF (pX ?_)⟩;have ay:=((((gf.trans ae).trans ah).trans Z).trans ab).trans ax;exact bo _ _ ⟨Y,g,V,_,_,_,_,_,rfl,⟨T9.gr ay,ay _ _ aj,lb,bb,ax _ _ (ab _ _ (Z _ _ au)),N,J.nbt,b3,b0⟩⟩
 .rintro ρ C6 _
  exact hL _ _ trivial
end
theorem XI{K:Dl}{H:Hp}:∀ns:List Int,dg K H (ns.map V.int) (ns.map PV.int)
 |[]=>.nil
 |n::ns=>.cons (.int n) (XI ns)
def walk{l:PySem.W.OpenLaw}{q:Program}{ab:List Str}{J:(Str->Option Value)->Heap->Prop}{B:World->Heap->Prop}{d:DefRec}{K:Params->Dl}(U:l.most=some 63)(O:d.params.defaults=[])(Y:d.name = "law")(N:∀(w:World)(h:Heap),B w h->(K w.params).In h)(F:∀(w:World)(mg:Str->Option Value)(h:Heap),(K w.params).In h->h.Ns mainGlobals mg->∃a:Adr,Txt l.prog w (K w.params) mg a):
  PySem.W.WalkO q ab J B l.row.toRowW d [] (fun f vs=>PySem.call f vs):=by
 refine L2.walk_of (n:=63) (k:=120) (x:="_law_script") (CX:=fun _=>CX0) (sp:=fun w=>my (K w.params) Ph) U (by decide) O ⟨rfl,by decide,by decide⟩ N ?_ (fun w H a ns S M g=>?_) fun _ _ _ _ _ z=>z
 .intro w mg fa h I G D
  obtain⟨a,T⟩:=F w mg h I G;rw[Y] at D;have e:=D.symm.trans ((T.F 49 rfl).m rfl);cases e;obtain⟨_,_,_,_,_,_,_,_,_,L,_⟩:=(T.F 49 rfl).F.ex;refine⟨a.d 49,?_,fun base _ _=>ok_law (W:=⟨_,_,_,_,base⟩) T⟩;rw[L];exact fun s u=>.of_eq rfl
 .have Z:Fz (K w.params) H a (ns.map V.int):=by
   rcases g with g | g
   .rcases g with g | ⟨o,g⟩
    .rcases M a with h | ⟨o,xs,h⟩
     .rw [g] at h;cases h
     .rw [g] at h;cases h
    .exact .inl ⟨o,g⟩
   .exact .inr g
  refine⟨[.fz (ns.map PV.int)],fun _=>none,fun v _=>v=.bl true,.cons (.fz Z (XI ns)) .nil,(fun _ _ z=>nomatch z),⟨ns,rfl,S,fun _=>rfl⟩,?_⟩;rintro v H' t C' rfl r h' f';cases r
  rfl
end K29
open PySem PySem.W PyProof.Rows
namespace PySem.W.Fast
def Z:=trivial
def tw10042189252418253967:=Z
def tw10046229705424787013:=Z
def tw10059632861615343770:=Z
def tw10155923770861082110:=Z
def tw10187391981139020709:=Z
def tw1023280200106889130:=Z
def tw1023496697632965694:=Z
def tw10443035272080845122:=Z
def tw10507712431600251850:=Z
def tw10510286421730731384:=Z
def tw1064173875117777159:=Z
def tw1067122251105425425:=Z
def tw10860707574451293187:=Z
def tw10916465747712552390:=Z
def tw10935470585350953793:=Z
def tw11016277063375108808:=Z
def tw11130855930549697043:=Z
def tw11252504754055240953:=Z
def tw11413730159968935978:=Z
def tw11549775072621047803:=Z
def tw11594688967149710505:=Z
def tw11664040981126693175:=Z
def tw11750746403752819619:=Z
def tw12046037696313180328:=Z
def tw12107291523696363676:=Z
def tw1214903474517526808:=Z
def tw12222748707516344649:=Z
def tw12282779612774043729:=Z
def tw12311890330975204836:=Z
def tw12471516403932615751:=Z
def tw12566301178479340239:=Z
def tw12666207191699373539:=Z
def tw12721906556957376929:=Z
def tw12793487375775601136:=Z
def tw1279549471816068505:=Z
def tw1279790278010147569:=Z
def tw12875792398467674704:=Z
def tw12932321088997921289:=Z
def tw13017214325568434632:=Z
def tw13142074766183671245:=Z
def tw13176968436958369377:=Z
def tw13221516238951897346:=Z
def tw13231568539399956666:=Z
def tw13317647521850420179:=Z
def tw1331946347673935882:=Z
def tw13321320575704759668:=Z
def tw13479126193714003135:=Z
def tw13545582887436280952:=Z
def tw13577314250893265087:=Z
def tw13585913115245162175:=Z
def tw13714326853467443663:=Z
def tw13760795499276395785:=Z
def tw13944583900291765569:=Z
def tw14008841067305776901:=Z
def tw1427834946025429141:=Z
def tw14348437939587075760:=Z
def tw14718272151371459163:=Z
def tw14827273646707805500:=Z
def tw14890510828771094046:=Z
def tw1496338318610733960:=Z
def tw14979516527136767342:=Z
def tw1503054371046224717:=Z
def tw15124793600287825019:=Z
def tw15308994814191041657:=Z
def tw15338246061385310949:=Z
def tw15438083756125847339:=Z
def tw15579029314421144136:=Z
def tw15689186223926057021:=Z
def tw1574023282579733828:=Z
def tw15845598561691267014:=Z
def tw15995900344350648116:=Z
def tw16054787804243578589:=Z
def tw16218348499465087552:=Z
def tw16319243674553567613:=Z
def tw16619087942816610803:=Z
def tw167004880535233546:=Z
def tw16968928862881829038:=Z
def tw17030124362910165616:=Z
def tw17099662313056138372:=Z
def tw17108575022978362050:=Z
def tw17203768569101635211:=Z
def tw17464652124013930443:=Z
def tw17509590529378356108:=Z
def tw17547152754450083926:=Z
def tw17623253287031758002:=Z
def tw17630625714168258641:=Z
def tw17769308792218300724:=Z
def tw17790472991717355484:=Z
def tw17851492897574499977:=Z
def tw18025196643486702142:=Z
def tw18073890255027247167:=Z
def tw18160407215293652986:=Z
def tw1837116073228408603:=Z
def tw1899247049564117114:=Z
def tw1996948089047965757:=Z
def tw206853914587291704:=Z
def tw2074040760236465176:=Z
def tw2085312994366670175:=Z
def tw2179813951592922318:=Z
def tw232822767141335088:=Z
def tw2389195287374665936:=Z
def tw2420523269894931768:=Z
def tw2504621244287850625:=Z
def tw2517521352401809712:=Z
def tw2552416187443108234:=Z
def tw2556158691987618446:=Z
def tw2600327732828074959:=Z
def tw2610345453606466390:=Z
def tw2626578159669663872:=Z
def tw2703478007495430676:=Z
def tw2742387674768983897:=Z
def tw2758042129611824241:=Z
def tw2971573305793458618:=Z
def tw303094255011217042:=Z
def tw3094258435940805658:=Z
def tw3104283252186662245:=Z
def tw3149300507718025939:=Z
def tw3375660708801862798:=Z
def tw3474068718340078773:=Z
def tw3526317730736262910:=Z
def tw3647563678527434601:=Z
def tw3781620138266212887:=Z
def tw3855872387494465680:=Z
def tw410089187985708813:=Z
def tw4276818436348329598:=Z
def tw4312370392892833448:=Z
def tw4450682344434889421:=Z
def tw4488361869527258942:=Z
def tw4531166490197474071:=Z
def tw4570995216878291599:=Z
def tw4572957641143892382:=Z
def tw4701604672482801798:=Z
def tw4949458604878398189:=Z
def tw5129425766699874101:=Z
def tw5183465178517226365:=Z
def tw5330653608917220014:=Z
def tw5388239948128313554:=Z
def tw5418598127582932415:=Z
def tw5484062514959256370:=Z
def tw5549367999473902318:=Z
def tw5709881740823155633:=Z
def tw582404895290354476:=Z
def tw5902913556292956892:=Z
def tw5976756676592429:=Z
def tw6026336688290057333:=Z
def tw6063654300189990704:=Z
def tw6204416183802455656:=Z
def tw6290178633123322397:=Z
def tw6372199374772396600:=Z
def tw6392349229240967897:=Z
def tw6425263068770955746:=Z
def tw6436993967774618936:=Z
def tw6454125057786480729:=Z
def tw6631315932556949299:=Z
def tw6640622507662687075:=Z
def tw6790306969411156133:=Z
def tw6979770398824395849:=Z
def tw7167194614680282771:=Z
def tw7245819705103582961:=Z
def tw7376503373662336309:=Z
def tw7637951544049503887:=Z
def tw7744703136400372929:=Z
def tw778475601255188775:=Z
def tw7798914323973740793:=Z
def tw8014232424523204232:=Z
def tw8042451479286880249:=Z
def tw8080929995277812204:=Z
def tw8107359406741243725:=Z
def tw8172203490623842395:=Z
def tw8205142970565529757:=Z
def tw8246967349882269908:=Z
def tw8362203795264524407:=Z
def tw8653741160982538736:=Z
def tw8755187951066707551:=Z
def tw8765699076102815958:=Z
def tw9364699198169766568:=Z
def tw9638155384992993065:=Z
def tw9684796245647882116:=Z
def tw9758072682198873962:=Z
def tw9804215455726748838:=Z
def tw9826742166462938035:=Z
end PySem.W.Fast
set_option maxRecDepth 100000 in
set_option maxHeartbeats 0 in
theorem PySem.Challenge.cw_viewwood_k29_handed_and_unread_holds : PySem.Challenge.rw_viewwood_k29_handed_and_unread.Holds := by
 w_on;o_law;k_head;(case hw=>w_witness2)
 k_fill
 refine K29.walk (l:=PySem.Challenge.rw_viewwood_k29_handed_and_unread) rfl rfl rfl (fun w h Y=>PySem.W.kIn_of Y) ?F
 case F =>
  intro w mg h KX G;refine K29.txt_mk KX G ?_ (by k_is) (by k_is) (by k_is) (by k_is) (by k_is) (by k_is) (by k_is) (by k_is) (by k_is) (by k_is) (by k_is) (by k_is) (by k_is) (by k_is) (by k_is) (by k_is) (by k_is) (by k_is) (by k_is) (by k_is) (by k_is) (by k_is) (by k_is) (by k_is) (by k_is) (by k_is) (by k_is) (by k_is) (by k_is) (by k_is) (by k_is) (by k_is) (by k_is) (by k_is) (by k_is) (by k_is) (by k_is) (by k_is) (by k_is)
  unfold K29.tab
  repeat first | refine⟨⟨_,_,_,_,_,_,_,_,_,_,by k_is,by k_is,by k_is,by k_is⟩,?_⟩ | refine⟨⟨_,_,_,_,_,_,_,_,_,_,_,by k_is,by k_is,by k_is,by k_is,by k_is,by k_is⟩,?_⟩
  exact trivial
