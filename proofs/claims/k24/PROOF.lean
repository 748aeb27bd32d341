import PyProof.Rows.All
import Wide.All
import OpenK.AllK
import Wide.FinOn
import Lean
import PyProof.EqAt
import PyProof.EqKinds
import PyProof.TupleCall
import PyProof.DictUpdate
import KE.KDictOf
import PyProof.AttrMissHeap
import KE.KSortTup
import KE.KItemsList
import PyProof.DictWalks
import PyProof.Rows.TupDisplay
import KE.KEqDict
import PyProof.NeKinds
import KE.KRevIter
import PyProof.ListRange
import KE.KDictSum
import PyProof.MeetsStr
import PyProof.StrLawsJoin
import PyProof.FitsInt
import PyProof.ZipIter
import PySem.Challenge.RW_viewwood_k24_entries_let_by
noncomputable section
set_option genSizeOf false
set_option bootstrap.genMatcherCode false
set_option compiler.extract_closed false
set_option compiler.maxRecSpecialize 0
section variable{p q r s t o g:Prop}
def uL(h:p/\q)(k:p->q->g):g:=by obtain⟨j,D⟩:=h;exact k j D
def XB(h:p/\q/\r)(k:p->q->r->g):g:=by obtain⟨j,D,F⟩:=h;exact k j D F
def VJ(h:p/\q/\r/\s)(k:p->q->r->s->g):g:=by obtain⟨j,D,F,G⟩:=h;exact k j D F G
def rT(h:p/\q/\r/\s/\t)(k:p->q->r->s->t->g):g:=by obtain⟨j,D,F,G,I⟩:=h;exact k j D F G I
def lT(h:p/\q/\r/\s/\t/\o)(k:p->q->r->s->t->o->g):g:=by obtain⟨j,D,F,G,I,J⟩:=h;exact k j D F G I J
end
section variable{A:Sort _}{p q r s t:A->Prop}{g:Prop}
def Mt(h:∃a,p a)(k:∀a,p a->g):g:=by obtain⟨a,j⟩:=h;exact k a j
def oQ(h:∃a,p a/\q a)(k:∀a,p a->q a->g):g:=by obtain⟨a,j,D⟩:=h;exact k a j D
def hZ(h:∃a,p a/\q a/\r a)(k:∀a,p a->q a->r a->g):g:=by obtain⟨a,j,D,F⟩:=h;exact k a j D F
def zb(h:∃a,p a/\q a/\r a/\s a)(k:∀a,p a->q a->r a->s a->g):g:=by obtain⟨a,j,D,F,G⟩:=h;exact k a j D F G
def XA(h:∃a,p a/\q a/\r a/\s a/\t a)(k:∀a,p a->q a->r a->s a->t a->g):g:=by obtain⟨a,j,D,F,G,I⟩:=h;exact k a j D F G I
end
section variable{A B:Sort _}{p q r s t o:A->B->Prop}{g:Prop}
def Rm(h:∃a b,p a b)(k:∀a b,p a b->g):g:=by obtain⟨a,b,j⟩:=h;exact k a b j
def bU(h:∃a b,p a b/\q a b)(k:∀a b,p a b->q a b->g):g:=by obtain⟨a,b,j,D⟩:=h;exact k a b j D
def kZ(h:∃a b,p a b/\q a b/\r a b)(k:∀a b,p a b->q a b->r a b->g):g:=by obtain⟨a,b,j,D,F⟩:=h;exact k a b j D F
def cT(h:∃a b,p a b/\q a b/\r a b/\s a b)(k:∀a b,p a b->q a b->r a b->s a b->g):g:=by obtain⟨a,b,j,D,F,G⟩:=h;exact k a b j D F G
def za(h:∃a b,p a b/\q a b/\r a b/\s a b/\t a b)(k:∀a b,p a b->q a b->r a b->s a b->t a b->g):g:=by obtain⟨a,b,j,D,F,G,I⟩:=h;exact k a b j D F G I
def Rj(h:∃a b,p a b/\q a b/\r a b/\s a b/\t a b/\o a b)(k:∀a b,p a b->q a b->r a b->s a b->t a b->o a b->g):g:=by obtain⟨a,b,j,D,F,G,I,J⟩:=h;exact k a b j D F G I J
end
section variable{A B C:Sort _}{p q r s t o:A->B->C->Prop}{g:Prop}
def Ri(h:∃a b c,p a b c)(k:∀a b c,p a b c->g):g:=by obtain⟨a,b,c,j⟩:=h;exact k a b c j
def Z4(h:∃a b c,p a b c/\q a b c)(k:∀a b c,p a b c->q a b c->g):g:=by obtain⟨a,b,c,j,D⟩:=h;exact k a b c j D
def pT(h:∃a b c,p a b c/\q a b c/\r a b c)(k:∀a b c,p a b c->q a b c->r a b c->g):g:=by obtain⟨a,b,c,j,D,F⟩:=h;exact k a b c j D F
def fX(h:∃a b c,p a b c/\q a b c/\r a b c/\s a b c)(k:∀a b c,p a b c->q a b c->r a b c->s a b c->g):g:=by obtain⟨a,b,c,j,D,F,G⟩:=h;exact k a b c j D F G
def Ms(h:∃a b c,p a b c/\q a b c/\r a b c/\s a b c/\t a b c)(k:∀a b c,p a b c->q a b c->r a b c->s a b c->t a b c->g):g:=by obtain⟨a,b,c,j,D,F,G,I⟩:=h;exact k a b c j D F G I
def yz(h:∃a b c,p a b c/\q a b c/\r a b c/\s a b c/\t a b c/\o a b c)(k:∀a b c,p a b c->q a b c->r a b c->s a b c->t a b c->o a b c->g):g:=by obtain⟨a,b,c,j,D,F,G,I,J⟩:=h;exact k a b c j D F G I J
end
section variable{A B C D:Sort _}{p q r s t o:A->B->C->D->Prop}{g:Prop}
def yx(h:∃a b c d,p a b c d/\q a b c d)(k:∀a b c d,p a b c d->q a b c d->g):g:=by obtain⟨a,b,c,d,j,F⟩:=h;exact k a b c d j F
def TV(h:∃a b c d,p a b c d/\q a b c d/\r a b c d)(k:∀a b c d,p a b c d->q a b c d->r a b c d->g):g:=by obtain⟨a,b,c,d,j,F,G⟩:=h;exact k a b c d j F G
def Gk(h:∃a b c d,p a b c d/\q a b c d/\r a b c d/\s a b c d/\t a b c d)(k:∀a b c d,p a b c d->q a b c d->r a b c d->s a b c d->t a b c d->g):g:=by obtain⟨a,b,c,d,j,F,G,I,J⟩:=h;exact k a b c d j F G I J
def TQ(h:∃a b c d,p a b c d/\q a b c d/\r a b c d/\s a b c d/\t a b c d/\o a b c d)(k:∀a b c d,p a b c d->q a b c d->r a b c d->s a b c d->t a b c d->o a b c d->g):g:=by obtain⟨a,b,c,d,j,F,G,I,J,M⟩:=h;exact k a b c d j F G I J M
end
section variable{A B C D E:Sort _}{p q r s t:A->B->C->D->E->Prop}{g:Prop}
def Rh(h:∃a b c d e,p a b c d e/\q a b c d e/\r a b c d e/\s a b c d e)(k:∀a b c d e,p a b c d e->q a b c d e->r a b c d e->s a b c d e->g):g:=by obtain⟨a,b,c,d,e,j,F,G,I⟩:=h;exact k a b c d e j F G I
def Rg(h:∃a b c d e,p a b c d e/\q a b c d e/\r a b c d e/\s a b c d e/\t a b c d e)(k:∀a b c d e,p a b c d e->q a b c d e->r a b c d e->s a b c d e->t a b c d e->g):g:=by obtain⟨a,b,c,d,e,j,F,G,I,J⟩:=h;exact k a b c d e j F G I J
end
set_option Elab.async false
set_option linter.all false
set_option maxRecDepth 100000
set_option maxHeartbeats 4000000
def ie(n:Nat)(h:n.ble 99=true):n<=PySem.sizeLine:=Nat.le_trans (Nat.le_of_ble_eq_true h) (by decide)
abbrev AA:=@PySem.wpAny_bind
abbrev AB:=@List.length_map
abbrev AC:=@PySem.Heap.get?_push_of_some
abbrev AD:=@PySem.wpAny_pure
abbrev AE:=@List.mem_cons_self
abbrev AF:=@List.mem_singleton
abbrev AG:=@PySem.Heap.lt_size
abbrev AH:=@Nat.le_refl
abbrev AI:=@List.mem_cons_of_mem
abbrev AJ:=@List.length_append
abbrev AK:=@List.getElem?_eq_getElem
abbrev AL:=@PySem.Heap.get?_push_size
abbrev AM:=@List.mem_map
abbrev AN:=@decide_eq_false
abbrev AO:=@Bool.false_ne_true
abbrev AQ:=@List.length_cons
abbrev AR:=@Nat.lt_of_lt_of_le
abbrev AS:=@List.map_append
abbrev AU:=@List.getElem?_eq_some_iff
abbrev AV:=@List.mem_append_right
abbrev AW:=@Nat.le_trans
abbrev AX:=@Nat.zero_le
abbrev AY:=@Nat.ne_of_lt
abbrev AZ:=@of_decide_eq_true
abbrev Aa:=@List.length_singleton
abbrev Ab:=@decide_eq_true
abbrev Ac:=@List.mem_of_getElem?
abbrev Ad:=@List.append_assoc
abbrev Ae:=@List.mem_append
abbrev Af:=@if_neg
abbrev Ah:=@if_pos
abbrev Ai:=@List.append_nil
abbrev Aj:=@List.mem_cons
abbrev Ak:=@Nat.lt_of_le_of_lt
abbrev Al:=@List.size_toArray
abbrev Am:=@List.getElem?_map
abbrev An:=@List.length_range
abbrev Ao:=@List.drop_eq_getElem_cons
abbrev Ap:=@List.getElem_mem
abbrev Aq:=@PySem.W.mg_none_of
abbrev Ar:=@Nat.ne_of_gt
abbrev As:=@PySem.wpAny_field
abbrev Au:=@Option.some.inj
abbrev Av:=@PySem.wpAny_holding
abbrev Aw:=@List.mem_append_left
abbrev Ax:=@Nat.succ.inj
abbrev Ay:=@PySem.wpAny_setField_rec
abbrev Az:=@PySem.Heap.get?_update_self
abbrev A0:=@PySem.wpAny_seqItems
abbrev A1:=@List.length_take
abbrev A2:=@PySem.wpAny_newObj_type
abbrev A3:=@List.find?_cons
abbrev A4:=@PySem.wpAny_call_entry
abbrev A5:=@List.map_cons
abbrev A6:=@PySem.wpAny_truthy_bool
abbrev A7:=@Nat.le_succ_of_le
abbrev A8:=@List.map_map
abbrev A9:=@PySem.F.plainAttrs_list
abbrev BA:=@List.getD_eq_getElem?_getD
abbrev BB:=@Int.le_refl
abbrev BC:=@Nat.lt_irrefl
abbrev BD:=@List.nodup_cons
abbrev BE:=@PySem.Heap.get?_update_other
abbrev BF:=@Bool.and_eq_true
abbrev BG:=@Array.length_toList
abbrev BH:=@PySem.W.mg_of
abbrev BI:=@List.any_cons
abbrev BK:=@PySem.wpAny_specialOf
abbrev BL:=@PySem.W.kia_one
abbrev BM:=@PySem.wpAny_mono
abbrev BN:=@List.length_drop
abbrev BO:=@List.cons.inj
abbrev BP:=@Nat.zero_add
abbrev BQ:=@List.mem_range
abbrev BR:=@List.foldl_append
abbrev BS:=@PySem.codeAny_builtin
abbrev BU:=@Nat.le_succ
abbrev BV:=@Nat.le_add_right
abbrev BW:=@PySem.plainId_quiet
abbrev BX:=@PySem.wpAny_callSpecial?_slot
abbrev BY:=@Nat.le_of_lt
abbrev BZ:=@List.all_eq_true
abbrev Ba:=@List.length_replicate
abbrev Bb:=@List.getElem?_eq_none
abbrev Bc:=@List.mem_of_find?_eq_some
abbrev Be:=@List.getElem?_append_left
abbrev Bf:=@Array.getElem?_eq_getElem
abbrev Bg:=@PySem.wpAny_updateSeq
abbrev Bh:=@PySem.lookup_relabel_local
abbrev Bi:=@Nat.mul_le_mul_right
abbrev Bj:=@List.reverse_cons
abbrev Bk:=@List.length_reverse
abbrev Bl:=@PySem.Heap.SameBut.update
abbrev Bm:=@Nat.lt_succ_self
abbrev Bn:=@List.drop_length
abbrev Bo:=@PySem.Heap.size_push
abbrev Bp:=@Nat.lt_of_succ_lt_succ
abbrev Bq:=@List.take_of_length_le
abbrev Br:=@Int.emod_lt_of_pos
abbrev Bs:=@PySem.wpAny_passesOwn
abbrev Bu:=@Nat.not_lt_zero
abbrev Bv:=@PySem.F.slot_dict_get
abbrev Bw:=@List.mem_iff_getElem?
abbrev Bx:=@PySem.wpAny_rule
abbrev By:=@PySem.sizeLine_eq
abbrev Bz:=@congrArg
abbrev B0:=@PySem.F.slot_NoneType_hash
abbrev B3:=@List.mem_of_mem_take
abbrev B4:=@List.getElem?_set_ne
abbrev B5:=@PySem.F.slot_tuple_iterator_next
abbrev B6:=@PySem.wpAny_typeOf
abbrev B7:=@PySem.wpAny_isInstance
abbrev B8:=@Nat.le_of_eq
abbrev B9:=@List.not_mem_nil
abbrev CC:=@List.cons_append
abbrev CD:=@PySem.F.plain_extend_loop
abbrev CJ:=@PySem.F.entry_extend_loop
abbrev CK:=@PySem.mem_of_lookup
abbrev CM:=@List.map_congr_left
abbrev CN:=@List.getElem_of_mem
abbrev CP:=@PySem.F.slot_dict_itemiterator_next
abbrev CQ:=@PySem.wpAny_ite_split
abbrev CU:=@Nat.le_add_left
abbrev CV:=@List.length_nil
abbrev CY:=@Int.emod_nonneg
abbrev CZ:=@PySem.wpAny_pyIter_tuple
abbrev Ca:=@of_decide_eq_false
abbrev Cb:=@PySem.call_meets
abbrev Cc:=@PySem.wpAny_getItem_str_slice
abbrev Cd:=@List.nodup_nil
abbrev Ce:=@List.flatMap_cons
abbrev Cf:=@Int.toNat_natCast
abbrev Cg:=@Int.le_trans
abbrev Ci:=@PySem.Calls.callWith_builtin
abbrev Cj:=@PyProof.Rows.slot_tuple_getitem
abbrev Ck:=@PySem.wpAny_notOrdered_dict
abbrev Cm:=@PySem.builtinLookup_eq_fast
abbrev Cn:=@List.getElem?_toArray
abbrev Co:=@PySem.wpAny_typeNameOfWhole_itemiter
abbrev Cp:=@PySem.wpAny_forIn_list
abbrev Cq:=@Nat.pow_le_pow_right
abbrev Cr:=@beq_false_of_ne
abbrev Cs:=@List.of_mem_zip
abbrev Ct:=@List.nil_append
abbrev Cu:=@Bool.eq_iff_iff
abbrev Cv:=@PySem.Heap.get?_update_ne
abbrev Cw:=@PySem.wpAny_Call_Name_kw
abbrev Cy:=@List.zip_cons_cons
abbrev Cz:=@List.getElem?_append_right
abbrev DA:=@Array.forIn_toList
abbrev DB:=@List.getElem?_eq_none_iff
abbrev DC:=@PySem.F.slot_tuple_getattribute
abbrev DD:=@PySem.Calls.call_function_entry
abbrev DE:=@PySem.F.slot_tuple_hash
abbrev DF:=@PySem.F.slot_dict_items
abbrev DG:=@PySem.wpAny_comprehension_free
abbrev DH:=@PySem.F.args_tuple_add_2
abbrev DI:=@List.all_cons
abbrev DJ:=@PySem.wpAny_pyNext_tuple_item
abbrev DK:=@PySem.F.plainAttrs_dict
abbrev DL:=@PySem.F.entry_tuple_add
abbrev DM:=@List.pairwise_singleton
abbrev DN:=@PySem.wpAny_pyNext_tuple_end
abbrev DO:=@PySem.wpAny_isOneOf_itemiter
abbrev DP:=@PySem.codeAny_mono
abbrev DQ:=@PySem.call_meetsIn
abbrev DR:=@PySem.F.slot_tuple_add
abbrev DS:=@PySem.F.entry_dict_get
abbrev DT:=@Nat.lt_or_ge
abbrev DU:=@PySem.wpAny_execs_nil
abbrev DV:=@PySem.typeLookup_type
abbrev DW:=@PySem.post_val_or_str
abbrev DX:=@PySem.SeqAt.EqAt.same
abbrev DY:=@List.length_set
abbrev DZ:=@PySem.F.slot_zip_next
abbrev Da:=@PySem.F.slot_tuple_eq
abbrev Dc:=@PySem.wpAny_callSpecialIfBoundUnlessNone?_slot
abbrev Dd:=@PySem.isSubtype_tuple_tuple
abbrev De:=@PySem.F.type_list_pop
abbrev Df:=@PySem.F.slot_list_pop
abbrev Dg:=@PySem.wpAny_newTuple
abbrev Dh:=@PySem.wpAny_letGo
abbrev Di:=@PySem.callType_codes
abbrev Dj:=@List.pairwise_append
abbrev Dk:=@List.mem_of_mem_drop
abbrev Dl:=@PySem.Calls.evalArgs_plain
abbrev Dm:=PySem.W.Frag
namespace PySem
open Sem (wp)
section
variable {prog:Program}{w:World}{K:Type}[DecidableEq K](knd:KeyKind prog w K)
inductive gk(h:Heap):List (List K)->List Value->Prop
 |nil:gk h [] []
 |cons {k:List K} {b:Addr} {kss:List (List K)} {vs:List Value}:IsTupleKey knd h k b->gk h kss vs->gk h (k::kss) (.ref b::vs)
def d9(h:Heap)(g:List (List K))(a:Addr):Prop:=∃o items n,h.get? a=some o/\o.cls=.type "tuple"/\o.data=.seq items n/\gk knd h g items.toList
variable {knd}
def gk.inj(j:gk knd h x vs)(g:gk knd h y vs):x=y:=by
 induction j generalizing y with
 |nil=>(cases g;rfl)
 |cons h1 _ q=>cases g with | cons h2 D=>rw[h1.inj h2,q D]
def gk.keeps(q:gk knd h x vs)(j:h.get? d=some o)(g:o.data=.dict es ep)(hs:Heap.SameBut d h h'):gk knd h' x vs:=by
 induction q with
 |nil=>exact .nil
 |cons h1 _ D=>exact .cons (h1.keeps j g hs) D
def d9.typeIs{s:Shared}(x:d9 knd s.heap g a):s.TypeIs (.ref a) "tuple" :=pT x fun o _ _ e c _=>⟨o,e,c⟩
def d9.inj(I:d9 knd h x a)(J:d9 knd h y a):x=y:=by
 refine fX I fun o M n g _ j q=>fX J fun o' its' N D _ F G=>?_;cases g.symm.trans D;cases j.symm.trans F;exact q.inj G
def d9.keeps(x:d9 knd h M a)(I:h.get? d=some o)(F:o.data=.dict es ep)(hs:Heap.SameBut d h h'):d9 knd h' M a:=by
 refine fX x fun o' J n g j q D=>?_;have G:a≠d :=by lia
 exact⟨o',J,n,(hs.2 a G).trans g,j,q,D.keeps I F hs⟩
noncomputable def qL(knd:KeyKind prog w K)(g:List (List K)):Int:=reduceHash (Builtin.Tuple.tupleHashOf (g.map (tupleKeyHash knd)))
def pP(g:List (List K)):Nat:=(g.map fun k=>k.length+1).sum+1
variable {A:Around}{E:Value->Shared->Prop}{s:Shared}
def bD(O:A.units+1 < cLine)(M:d9 knd s.heap I a)(h:Q (qL knd I) { s with toks:=s.toks+pP I }):
  wpAny (model prog w) A (pyHash (.ref a)) Q E s:=by
 have j:=M.typeIs;obtain⟨o,items,n,Y,_,U,hi⟩:=M
 (first | delta pyHashByItsType | skip)
 (first | refine AA (wpAny_cRoomFor_or (.inr (Nat.lt_of_succ_lt O)) ?_) | skip)
 refine AA (BK (by exact j) DE.lookup (?_));refine AA (BK (by exact j) DE.lookup (?_));refine AA (Dc (by exact j) DE (A4 DE (by exact j) F.entry_tuple_hash (?_) (F.args_tuple_hash_1 _)));show wpAny _ _ (Builtin.Tuple.tupleItemsOf (.ref a) >>= (_)) _ _ s
 (refine AA (wpAny_tupleItemsOf Y U (AA ?_));rw[<- DA])
 refine Cp _ (fun rest b s'=>∃g left,I=g++left/\gk knd s.heap left rest/\b.toList=g.map (tupleKeyHash knd)/\s'={ s with toks:=s.toks+(g.map fun k=>k.length+1).sum }) _ ?_ ?_ _ _ ⟨[],I,rfl,hi,rfl,rfl⟩
 .rintro x rest b s' ⟨g,left,rfl,J,q,rfl⟩
  cases J with
  |@cons k Z S _ h1 N =>
   refine AA (wpAny_pyHash_tuple O h1 ?_)
   first
    |exact AD ⟨g++[k],S,by simp,N,by simp[q],by simp[Nat.add_assoc]⟩
    |exact AA (AD (AD ⟨g++[k],S,by simp,N,by simp[q],by simp[Nat.add_assoc]⟩))
 .rintro b s' ⟨g,left,rfl,J,q,rfl⟩
  cases J;rw[Ai] at h
  (show wpAny _ _ (retInt (Builtin.Tuple.tupleHashOf b.toList)) _ _ _;rw[q];apply wpAny_ret_mkInt)
  delta qL reduceHash pP at h
  generalize Builtin.Tuple.tupleHashOf (g.map (tupleKeyHash knd))=D at h ⊢;show wpAny _ _ (if (decide (-(2:Int) ^ 63<=D)&&decide (D < 2 ^ 63))=true then _ else _) Q E _
  by_cases G:(decide (-(2:Int) ^ 63<=D)&&decide (D < 2 ^ 63))=true
  ·(rw[Ah G];rw[Ah G] at h)
   exact AD (by lia)
  ·(rw[Af G];rw[Af G] at h)
   exact AA (Bx (AD (by simpa [Nat.add_assoc] using h)))
def dA(hu:A.units < cLine)(hx:d9 knd s.heap x a)(S:d9 knd s.heap y b)(h:P (.done (.ret (.bool (decide (x=y))))) s):
  wpAny (model prog w) A (Builtin.«tuple.__eq__» ⟨[.ref a,.ref b],[]⟩) P E s:=by
 refine fX hx fun oa xs av ai _ Z ag=>fX S fun ob ys aw aj _ ab ah=>?_
 (show wpAny _ _ (isInstance (.ref b) (.type "tuple") >>= _) _ _ s;refine AA (B7 S.typeIs Dd ?_))
 (refine AA (wpAny_tupleItemsOf ai Z (AA (wpAny_tupleItemsOf aj ab (AA ?_)))))
 refine Cp _ (fun rest r s'=>r.1=none/\s'=s/\∃F G j q,rest=List.zip j q/\gk knd s.heap F j/\gk knd s.heap G q/\decide (F=G)=decide (x=y)/\(j.length==q.length)=(xs.size==ys.size)) _ ?_ ?_ _ _ ⟨rfl,rfl,x,y,xs.toList,ys.toList,rfl,ag,ah,rfl,by simp⟩
 .rintro ⟨u,v⟩ rest r s' ⟨O,rfl,F,G,j,q,g,M,D,I,J⟩
  cases M with
  |nil=>simp at g
  |@cons k1 b1 U ar h1 ak =>
   cases D with
   |nil=>simp at g
   |@cons k2 b2 Y au h2 aq =>
    (obtain⟨⟨rfl,rfl⟩,rfl⟩:=g)
    refine AA (wpAny_eqBool_tuple hu h1 h2 ?_)
    by_cases N:k1=k2
    .subst N
     (simp only[ Bool.false_eq_true])
     refine AD ⟨rfl,rfl,U,Y,ar,au,rfl,ak,aq,?_,by simpa using J⟩;rw[<- I]
     (by_cases ao:U=Y<;>simp[ao])
    ·(rw[AN N];simp only[ if_true])
     have ae:decide (x=y)=false :=by lia
     rw[ae] at h;exact AA (AD (AD (AD h)))
 .rintro ⟨r1,r2⟩ s' ⟨O,rfl,F,G,j,q,g,M,D,I,J⟩
  (subst O;apply AD)
  have af:(xs.size==ys.size)=decide (x=y):=by
   rw[<- I,<- J]
   cases M with
   |nil=>(cases D with | nil=>simp | cons _ _=>simp)
   |cons _ _=>(cases D with | nil=>simp | cons _ _=>simp at g)
  (show P (.done (.ret (.bool (xs.size==ys.size)))) s';rwa [af])
def mD(D:A.units+1 < cLine)(g:d9 knd s.heap x a)(j:d9 knd s.heap y b)(h:Q (decide (x=y)) s):
  wpAny (model prog w) A (eqBool (.ref a) (.ref b)) Q E s:=by
 (delta eqBool;try with_reducible refine Av ?_)
 by_cases q:(Value.ref a==Value.ref b)=true
 .rw [Ah q]
  have e:a=b :=by lia
  subst e;obtain rfl:=g.inj j;exact AA (Bx (AD (by lia)))
 .exact (Af q)▸AA (wpAny_richCompare_same_room g.typeIs j.typeIs Da (A4 Da g.typeIs F.entry_tuple_eq (dA D g j ⟨_,rfl,(fun e=>nomatch e),A6 h⟩) (F.args_tuple_eq_2 _ _)) (Nat.lt_of_succ_lt D))
def QO n(q:IsTupleKey knd s.heap J a)(h:Q true s):wpAny (model prog w) A (eqIsQuiet (n+1) (.ref a)) Q E s:=by
 have g:=q.typeIs;refine fX q fun o items m G _ F hi=>?_
 (unfold eqIsQuiet;refine AA (BK g Da.lookup ?_))
 (refine AA (B7 g Dd ?_))
 (refine AA (A0 G F (AA ?_)))
 (rw[<- DA])
 refine Cp _ (fun rest r s'=>r.1=none/\s'=s/\∀v∈rest,carriedByValue v=true) _ ?_ ?_ _ _ ⟨rfl,rfl,hi.byValue⟩
 .rintro v rest r s' ⟨D,rfl,j⟩
  (rw[eqIsQuiet_byValue _ (j v AE)];refine AA (AD ?_))
  (exact AD ⟨rfl,rfl,fun u I=>j u (AI _ I)⟩)
 .rintro ⟨M,N⟩ s' ⟨D,rfl,_⟩
  (subst D;exact AD h)
def Zl(j:d9 knd s.heap J a)(h:Q true s):wpAny (model prog w) A (eqIsQuiet 8 (.ref a)) Q E s:=by
 have g:=j.typeIs;obtain⟨o,items,m,I,_,G,hi⟩:=j
 (unfold eqIsQuiet;refine AA (BK g Da.lookup ?_))
 (refine AA (B7 g Dd ?_))
 (refine AA (A0 I G (AA ?_)))
 (rw[<- DA])
 refine Cp _ (fun rest r s'=>r.1=none/\s'=s/\∃D,gk knd s.heap D rest) _ ?_ ?_ _ _ ⟨rfl,rfl,_,hi⟩
 .rintro v rest r s' ⟨q,rfl,D,F⟩
  cases F with
  |cons h1 h2 =>
   refine AA (QO 6 h1 ?_)
   (exact AD ⟨rfl,rfl,_,h2⟩)
 .rintro ⟨M,N⟩ s' ⟨q,rfl,_⟩
  (subst q;exact AD h)
end
def cG[DecidableEq K](knd:KeyKind prog w K):HeapKind prog w (List (List K)) where
 is:=d9 knd
 hash:=qL knd
 draws:=pP
 room:=fun A=>A.units+1 < cLine
 inj:=fun q D=>q.inj D
 keeps:=fun x G F hs=>x.keeps G F hs
 pyHash:=fun j g h=>bD j g h
 eqBool:=fun j q D h=>mD j q D h
 quiet:=fun g h=>Zl g h
def tJ[DecidableEq K]{knd:KeyKind prog w K}{A:Around}(g:A.units+2 < cLine):(cG knd).room A.in1:=g
end PySem
namespace L2
open PySem PySem.Spec PyProof.Rows
abbrev Key:=Sum (Option Int) Str
noncomputable def Kg:Value->Bool
 |.none=>true
 |_=>false
noncomputable def qE:Key->Value->Bool
 |.inl (some k),v=>Value.isInt k v
 |.inl none,v=>Kg v
 |.inr x,v=>Value.isStrOf x v
noncomputable def keyH(w:World):Key->Int
 |.inl (some k)=>hashInt k
 |.inl none=>4238894112
 |.inr x=>hashStr w x
def bT(h:Kg v=true):v=.none:=by
 cases v<;>first | rfl | cases h
theorem pJ:∀{k}{v},qE k v=true->(∃i t,k=Sum.inl (some i)/\v=Value.int i t)\/(∃x t,k=Sum.inr x/\v=Value.str x t)\/(k=Sum.inl none/\v=Value.none)
 |.inl (some i),v,h=>by
  obtain⟨t,e⟩:=Value.isInt_shape h;exact .inl ⟨i,t,rfl,e⟩
 |.inl none,v,h=>.inr (.inr ⟨rfl,bT h⟩)
 |.inr x,v,h=>by
  obtain⟨t,e⟩:=Value.isStrOf_shape h;exact .inr (.inl ⟨x,t,rfl,e⟩)
def VB i t:qE (.inl (some i)) (.int i t)=true :=by simp[qE,Value.isInt]
def VA x t:qE (.inr x) (.str x t)=true :=by simp[qE,Value.isStrOf]
def LR a b:decide ((Sum.inl (some a):Key)=Sum.inl (some b))=(a==b) :=by grind
def Lw a b:decide ((Sum.inr a:Key)=Sum.inr b)=decide (a=b) :=by grind
def key_is i y:decide ((Sum.inl (some i):Key)=Sum.inr y)=false:=AN nofun
def LQ i:decide ((Sum.inl (some i):Key)=Sum.inl none)=false:=AN nofun
def Ly x j:decide ((Sum.inr x:Key)=Sum.inl (some j))=false:=AN nofun
def Lx x:decide ((Sum.inr x:Key)=Sum.inl none)=false:=AN nofun
def LK j:decide ((Sum.inl none:Key)=Sum.inl (some j))=false:=AN nofun
def LC y:decide ((Sum.inl none:Key)=Sum.inr y)=false:=AN nofun
def VH(h:Q 4238894112 { s with toks:=s.toks+1 }):wpAny (model prog w) A (pyHash .none) Q E s:=by
 apply AA
 apply AD
 have ty:s.TypeIs .none "NoneType":=rfl
 refine AA (BK ty B0.lookup (AA (BK ty B0.lookup (AA (Dc ty B0
  (A4 B0 ty PySem.F.entry_NoneType_hash
   (wpAny_ret_mkInt ?_) (PySem.F.args_NoneType_hash_1 _)))))))
 exact AD h
def Gi(h:Q true s):wpAny (model prog w) A (eqBool .none .none) Q E s :=Av (CQ (fun _=>AA (Bx (AD h))) (fun g=>absurd rfl g))
noncomputable def uX prog w:PySem.KeyKind prog w Key where
 is:=qE
 hash:=keyH w
 inj:=fun v a b D F=>by
  rcases pJ D with ⟨i,t,rfl,rfl⟩ | ⟨x,t,rfl,rfl⟩ | ⟨rfl,rfl⟩<;>rcases pJ F with ⟨j,u,rfl,e⟩ | ⟨y,u,rfl,e⟩ | ⟨rfl,e⟩<;>cases e<;>rfl
 byValue:=fun k v h=>by
  rcases pJ h with ⟨i,t,rfl,rfl⟩ | ⟨x,t,rfl,rfl⟩ | ⟨rfl,rfl⟩<;>rfl
 pyHash:=fun g h=>by
  rcases pJ g with ⟨i,t,rfl,rfl⟩ | ⟨x,t,rfl,rfl⟩ | ⟨rfl,rfl⟩
  .exact wpAny_pyHash_int h
  .exact wpAny_pyHash_str h
  .exact VH h
 eqBool:=fun G g h=>by
  rcases pJ G with ⟨i,t,rfl,rfl⟩ | ⟨x,t,rfl,rfl⟩ | ⟨rfl,rfl⟩<;>rcases pJ g with ⟨j,u,rfl,rfl⟩ | ⟨y,u,rfl,rfl⟩ | ⟨rfl,rfl⟩
  .rw [LR] at h;exact wpAny_eqBool_int h
  .rw [key_is] at h;exact SeqAt.EqAt.int_str i t y u _ _ _ _ h
  .rw [LQ] at h;exact SeqAt.EqAt.int_none i t _ _ _ _ h
  .rw [Ly] at h;exact SeqAt.EqAt.str_int x t j u _ _ _ _ h
  .rw [Lw] at h;exact wpAny_eqBool_str h
  .rw [Lx] at h;exact SeqAt.EqAt.str_none x t _ _ _ _ h
  .rw [LK] at h;exact SeqAt.EqAt.none_int j u _ _ _ _ h
  .rw [LC] at h;exact SeqAt.EqAt.none_str y u _ _ _ _ h
  .rw [Ab (rfl:(Sum.inl none:Key)=Sum.inl none)] at h;exact Gi h
 «strs»:=fun k x t v h=>by
  rcases pJ h with ⟨i,u,rfl,e⟩ | ⟨y,u,rfl,e⟩ | ⟨rfl,e⟩
  .exact nomatch e
  .injection e with q _
   subst q;cases v<;>rfl
  .exact nomatch e
def Xf prog w i t:(uX prog w).is (.inl (some i)) (.int i t)=true:=VB i t
def iA prog w:(uX prog w).is (.inl none) .none=true:=rfl
def Xe prog w x t:(uX prog w).is (.inr x) (.str x t)=true:=VA x t
inductive V where
 |non | bl (b:Bool) | int (i:Int) | str (x:Str) | byt (b:Array UInt8) | flt (b:UInt64) | ref (a:Addr) | ty (n:String)
 deriving DecidableEq
def RelV:V->Value->Prop
 |.non,u=>u=Value.none
 |.bl b,u=>u=Value.bool b
 |.int i,u=>∃t,u=Value.int i t
 |.str x,u=>∃t,u=Value.str x t
 |.byt b,u=>∃t,u=Value.bytes b t
 |.flt b,u=>∃t,u=Value.float b t
 |.ref a,u=>u=Value.ref a
 |.ty n,u=>u=Value.type n
abbrev Vals:List V->List Value->Prop:=Paired RelV
def Vals.length(r:Vals xs g):xs.length=g.length:=Paired.length r
theorem Vals.get:∀{xs}{g}{i:Nat}{x},Vals xs g->xs[i]?=some x->∃u,g[i]?=some u/\RelV x u
 |_,_,_,_,.nil,e=>by simp at e
 |_,_,0,_,.cons r _,e=>by simp at e;subst e;exact⟨_,rfl,r⟩
 |_,_,i+1,x,.cons _ t,e=>by
  obtain⟨u,h1,h2⟩:=(Vals.get t (by simpa using e));exact⟨u,by simpa using h1,h2⟩
theorem Vals.set(r:RelV x u):∀{xs}{g}i,Vals xs g->Vals (xs.set i x) (g.set i u)
 |_,_,_,.nil=>.nil
 |_,_,0,.cons _ t=>.cons r t
 |_,_,i+1,.cons q t=>.cons q (Vals.set r i t)
theorem Vals.append:∀{xs ys}{g j},Vals xs g->Vals ys j->Vals (xs++ys) (g++j)
 |_,_,_,_,.nil,s=>s
 |_,_,_,_,.cons r t,s=>.cons r (Vals.append t s)
theorem Vals.take:∀{xs}{g}n,Vals xs g->Vals (xs.take n) (g.take n)
 |_,_,0,_=>.nil
 |_,_,_+1,.nil=>.nil
 |_,_,n+1,.cons r t=>.cons r (Vals.take n t)
theorem Vals.drop:∀{xs}{g}n,Vals xs g->Vals (xs.drop n) (g.drop n)
 |_,_,0,r=>r
 |_,_,_+1,.nil=>.nil
 |_,_,n+1,.cons _ t=>Vals.drop n t
def RelO:Option V->Option Value->Prop
 |some v,some u=>RelV v u
 |none,none=>True
 |_,_=>False
def KV: List (κ×V)->List (κ×Value)->Prop:=Paired fun(p:κ×V)(q:κ×Value)=>p.1=q.1/\RelV p.2 q.2
noncomputable def kV:Key->V
 |.inl none=>.non
 |.inl (some i)=>.int i
 |.inr x=>.str x
inductive HO where
 |lst (xs:List V)
 |tup (xs:List V)
 |dK (kvs:List (Key×V)) | dT (kvs:List (List Key×V)) | dP (kvs:List (List (List Key)×V))
 |set (S:Int->Bool) (n:Nat)
 |ins (C dx:Addr) (fs:List (Str×V))
 |own (x:Addr)
 |xd (fs:List (Str×V))
 |met (f x:Addr)
 |rng (lo hi:Int)
 |frz (o:Obj) (u:HO)
 |tbl (ps:Array Value)
 |ext (φ:Heap->Prop)
abbrev Hp:=Addr->Option HO
noncomputable def upd(H:Hp)(a:Addr)(o:HO):Hp:=fun b=>if b=a then some o else H b
theorem mQ: upd H a o a=some o :=by grind[upd]
theorem fQ(h:b≠a):upd H a o b=H b :=by grind[upd]
def Yx{H:Hp}(h:H a=some o)(h':H b=some u)(d:o≠u):a≠b :=by grind
def aJ{H:Hp}(h:H a=some o)(h':H b=none):a≠b :=by grind
def ji(h:Heap)(a:Addr)(items:Array Value):Prop:=∃o,h.get? a=some o/\o.cls=.type "tuple"/\(∃n,o.data=.seq items n)/\o.dict=none
def ji.is(x:ji h a items):IsTup h a items:=let ⟨o,e,c,d,_⟩:=x;⟨o,e,c,d⟩
def ji.new(h:Heap)items:ji (h.push { cls:=.type "tuple",data:=.seq items }) h.objs.size items:=⟨_,AL _ rfl,rfl,⟨_,rfl⟩,rfl⟩
def o7(H:Hp)(j:List (List Key))(b:Addr):Prop:=∃bs:List Addr,H b=some (.tup (bs.map V.ref))/\Paired (fun(g:List Key)(c:Addr)=>H c=some (.tup (g.map kV))) j bs
section
variable (P:Program)(w:World)
def ObjOk(H:Hp)(h:Heap)(a:Addr):HO->Prop
 |.lst xs=>xs.length<=sizeLine/\∃(g:List Value)(n:Nat),Vals xs g/\h.get? a=some { cls:=.type "list",data:=.seq g.toArray n }
 |.tup xs=>xs.length<=sizeLine/\∃g:List Value,Vals xs g/\ji h a g.toArray
 |.dK kvs=>kvs.length<=sizeLine/\(a==sysModules)=false/\∃vs,KV kvs vs/\h.DictOf (uX P w) a vs
 |.dT kvs=>kvs.length<=sizeLine/\(a==sysModules)=false/\∃xs:List (List Key×Addr×Value),
   Paired (fun(p:List Key×V)(q:List Key×Addr×Value)=>p.1=q.1/\H q.2.1=some (.tup (p.1.map kV))/\RelV p.2 q.2.2) kvs xs /\
   ∃o es ep,h.get? a=some o/\o.ExactDict/\o.data=.dict es ep/\es.toList=xs.map (entryOfKey (tupleKind (uX P w)))/\(xs.map (·.1)).Nodup
 |.dP kvs=>kvs.length<=sizeLine/\(a==sysModules)=false/\∃xs:List (List (List Key)×Addr×Value),
   Paired (fun(p:List (List Key)×V)(q:List (List Key)×Addr×Value)=>p.1=q.1/\o7 H p.1 q.2.1/\RelV p.2 q.2.2) kvs xs /\
   ∃o es ep,h.get? a=some o/\o.ExactDict/\o.data=.dict es ep/\es.toList=xs.map (entryOfKey (cG (uX P w)))/\(xs.map (·.1)).Nodup
 |.set S n=>h.SetOf (intKind P w) a S n
 |.ins C dx fs=>H dx=some (.own a)/\fs.length<=1000/\dx≠a/\h.get? a=some (PySem.W.instObj C dx) /\
   ∃mA,h.Ns1 dx mA/\(∀f,RelO (fs.lookup f) (mA f))/\PySem.Within mA (fs.map (·.1))
 |.own _=>∃o,h.get? a=some o
 |.xd fs=>∃mA,h.Ns1 a mA/\∀f,RelO (fs.lookup f) (mA f)
 |.rng lo hi=>∃t u v,h.get? a=some { cls:=.type "range",data:=.fields #[.int lo t,.int hi u,.int 1 v] }
 |.frz o u=>h.get? a=some o/\ObjOk H h a u
 |.tbl ps=>h.get? a=some { cls:=.none,data:=.fields ps }
 |.met f x=>h.get? a=some (PySem.W.methodObj (.ref f) (.ref x))
 |.ext j=>j h/\(∃o,h.get? a=some o)/\∀h1 h2:Heap,j h1->(∀o,h1.get? a=some o->h2.get? a=some o)->j h2
def HOk(H:Hp)(h:Heap):Prop:=∀a o,H a=some o->ObjOk P w H h a o
end
section
variable {P:Program}{w:World}{H H':Hp}{h h':Heap}{a:Addr}{o:HO}
def ObjOk.lt(x:ObjOk P w H h a o):a < h.objs.size:=by
 cases o with
 |lst xs=>obtain⟨_,_,_,_,e⟩:=x;exact AG e
 |tup xs=>obtain⟨_,_,_,o,e,_⟩:=x;exact AG e
 |dK kvs=>obtain⟨_,_,_,_,o,_,_,e,_⟩:=x;exact AG e
 |dT kvs=>obtain⟨_,_,_,_,o,_,_,e,_⟩:=x;exact AG e
 |dP kvs=>obtain⟨_,_,_,_,o,_,_,e,_⟩:=x;exact AG e
 |set S n=>exact yx x fun o _ _ _ e _=>AG e
 |ins C dx fs=>exact rT x fun _ _ _ e _=>AG e
 |own y=>obtain⟨_,e⟩:=x;exact AG e
 |xd fs=>obtain⟨_,⟨_,_,_,e,_⟩,_⟩:=x;exact AG e
 |rng lo hi=>exact Ri x fun _ _ _ e=>AG e
 |frz g u=>obtain⟨e,_⟩:=x;exact AG e
 |tbl ps=>exact AG x
 |met f y=>exact AG x
 |ext j=>obtain⟨_,⟨_,e⟩,_⟩:=x;exact AG e
theorem Paired.mapP: ∀{g}{j},Paired F g j->(∀a b,F a b->G a b)->Paired G g j
 |_,_,.nil,_=>.nil
 |_,_,.cons r t,f=>.cons (f _ _ r) (Paired.mapP t f)
def o7.mono(x:o7 H j b)(g:∀b xs,H b=some (.tup xs)->H' b=some (.tup xs)):o7 H' j b :=
 let ⟨bs,e,r⟩:=x;⟨bs,g _ _ e,Paired.mapP r fun _ _ z=>g _ _ z⟩
def ObjOk.stay(x:ObjOk P w H h a o)(k:∀b u,(b=a\/H b=some (.own a))->h.get? b=some u->h'.get? b=some u)(I:∀b,H b=some (.own a)->H' b=some (.own a))(F:∀b xs,H b=some (.tup xs)->H' b=some (.tup xs)):ObjOk P w H' h' a o:=by
 induction o with
 |lst xs=>obtain⟨z,j,n,r,e⟩:=x;exact⟨z,j,n,r,k _ _ (.inl rfl) e⟩
 |tup xs=>obtain⟨z,j,r,g,e,c⟩:=x;exact⟨z,j,r,g,k _ _ (.inl rfl) e,c⟩
 |dK kvs=>obtain⟨z,y,vs,r,g,es,ep,e,c⟩:=x;exact⟨z,y,vs,r,g,es,ep,k _ _ (.inl rfl) e,c⟩
 |dT kvs =>
  obtain⟨z,y,xs,r,g,es,ep,e,c⟩:=x;exact⟨z,y,xs,Paired.mapP r fun p q z=>⟨z.1,F _ _ z.2.1,z.2.2⟩,g,es,ep,k _ _ (.inl rfl) e,c⟩
 |dP kvs =>
  obtain⟨z,y,xs,r,g,es,ep,e,c⟩:=x;exact⟨z,y,xs,Paired.mapP r fun p q z=>⟨z.1,z.2.1.mono F,z.2.2⟩,g,es,ep,k _ _ (.inl rfl) e,c⟩
 |set S n=>exact yx x fun g es ep t e c=>⟨g,es,ep,t,k _ _ (.inl rfl) e,c⟩
 |ins C dx fs =>
  obtain⟨d,z,M,e,mA,⟨D,es,ep,G,c⟩,r⟩:=x;exact⟨I _ d,z,M,k _ _ (.inl rfl) e,mA,⟨D,es,ep,k _ _ (.inr d) G,c⟩,r⟩
 |own y=>obtain⟨g,e⟩:=x;exact⟨g,k _ _ (.inl rfl) e⟩
 |xd fs=>obtain⟨mA,⟨D,es,ep,e,c⟩,r⟩:=x;exact⟨mA,⟨D,es,ep,k _ _ (.inl rfl) e,c⟩,r⟩
 |rng lo hi=>exact Ri x fun t u v e=>⟨t,u,v,k _ _ (.inl rfl) e⟩
 |frz g u J=>obtain⟨e,q⟩:=x;exact⟨k _ _ (.inl rfl) e,J q⟩
 |tbl ps =>
  have e:=x;exact k a _ (.inl rfl) e
 |met f y =>
  have e:=x;exact k a _ (.inl rfl) e
 |ext N=>obtain⟨p,⟨o,e⟩,st⟩:=x;exact⟨st _ _ p fun o q=>k _ _ (.inl rfl) q,⟨o,k _ _ (.inl rfl) e⟩,st⟩
def HOk.lt(x:HOk P w H h)(e:H a=some o):a < h.objs.size:=(x a o e).lt
def HOk.fresh(x:HOk P w H h)(e:h.objs.size<=a):H a=none:=by
 cases q:H a with
 |none=>rfl
 |some u=>exact absurd (AR (x.lt q) e) (BC _)
def HOk.kept(x:HOk P w H h)(k:∀b u,h.get? b=some u->h'.get? b=some u):HOk P w H h':=fun a o e=>
 (x a o e).stay (fun b u _ q=>k b u q) (fun _ q=>q) fun _ _ q=>q
def HOk.laid(x:HOk P w H h)(k:∀b u,h.get? b=some u->h'.get? b=some u)(D:h.objs.size<=a)(F:ObjOk P w (upd H a o) h' a o):HOk P w (upd H a o) h':=fun b u e=>by
 have j:=x.fresh D
 by_cases g:b=a
 .subst g;rw[mQ] at e;cases e;exact F
 .rw [fQ g] at e
  exact(x b u e).stay (fun c v _ q=>k c v q) (fun c q=>by rwa [fQ (aJ q j)]) fun c xs q=>by rwa [fQ (aJ q j)]
end
def Rd(H:Hp)(a:Addr)(u:HO):Prop:=H a=some u\/∃o,H a=some (.frz o u)
theorem Rd.ok(r:Rd H a u)(x:HOk P w H h):ObjOk P w H h a u:=by
 rcases r with r | ⟨o,r⟩
 .exact x a u r
 .obtain ⟨_,q⟩:=x a _ r
  exact q
def Mut:Option HO->Prop
 |some (.lst _)=>True
 |some (.dK _)=>True
 |some (.dT _)=>True
 |some (.dP _)=>True
 |some (.set _ _)=>True
 |some (.ins _ _ _)=>True
 |some (.ext _)=>True
 |_=>False
section
variable {P:Program}{w:World}{H:Hp}{h h':Heap}{x e:Addr}{o':HO}
def HOk.write(O:HOk P w H h)(F:Mut (H x))(S:e=x\/H e=some (.own x))(k:∀b u,b≠e->h.get? b=some u->h'.get? b=some u)(I:∃u,h'.get? e=some u)(J:ObjOk P w (upd H x o') h' x o'):HOk P w (upd H x o') h':=fun b u q=>by
 have M:∀c y,H c=some (.own y)->c≠x:=fun c y r z=>by subst z;rwa [r] at F
 have N:∀c xs,H c=some (.tup xs)->c≠x:=fun c xs r z=>by subst z;rwa [r] at F
 by_cases g:b=x
 .subst g;rw[mQ] at q;cases q;exact J
 .rw [fQ g] at q
  by_cases j:b=e
  .have G:H b=some (.own x) :=by lia
   rw[q] at G;cases G
   obtain⟨v,U⟩:=I;exact⟨v,by rwa [j]⟩
  .refine (O b u q).stay (fun c v D r=>k c v ?_ r) (fun c r=>by rwa [fQ (M c b r)]) fun c xs r=>(fQ (N c xs r))▸r
   rcases D with rfl | D
   .exact j
   .grind
end
structure Un(fs ex:List Addr)(H H':Hp)(h h':Heap):Prop where
 keep:∀b o,h.get? b=some o->H b=none->b∉fs->b∉ex->h'.get? b=some o
 slot:∀b o,h.get? b=some o->H b=none->b∈fs->b∉ex->∃sl,h'.get? b=some { o with slots:=sl }
 free:∀b o,h.get? b=some o->H b=none->b∉ex->H' b=none
 there:∀b o,h.get? b=some o->b∉ex->∃o',h'.get? b=some o'
 tups:∀b xs,H b=some (.tup xs)->H' b=some (.tup xs)
 frzs:∀b o u,H b=some (.frz o u)->H' b=some (.frz o u)
 tbls:∀b ps,H b=some (.tbl ps)->∃more,H' b=some (.tbl (ps++more))
section
variable {fs fs' ex ex':List Addr}{H H1 H2:Hp}{h h1 h2 h':Heap}{a x e:Addr}{o:HO}
def Un.any(u:Un fs ex H H1 h h1)(q:h.get? b=some g)(n:H b=none)(D:b∉ex):∃F,h1.get? b=some { g with slots:=F }:=by
 by_cases j:b∈fs
 .exact u.slot b g q n j D
 .exact ⟨g.slots,u.keep b g q n j D⟩
def Un.kept(k:∀b u,h.get? b=some u->h'.get? b=some u):Un fs ex H H h h' :=
 ⟨fun b g q _ _ _=>k b g q,fun b g q _ _ _=>⟨g.slots,k b g q⟩,fun _ _ _ n _=>n,fun b g q _=>⟨g,k b g q⟩,fun _ _ q=>q,fun _ _ _ q=>q,fun _ ps q=>⟨#[],by rw[q];simp⟩⟩
def Un.refl:Un fs ex H H h h:=Un.kept fun _ _ q=>q
def Un.laid(k:∀b u,h.get? b=some u->h'.get? b=some u)(j:h.objs.size<=a)(g:H a=none):Un fs ex H (upd H a o) h h' where
 keep:=fun b u q _ _ _=>k b u q
 slot:=fun b u q _ _ _=>⟨u.slots,k b u q⟩
 free:=fun b u q n _=>by rwa [fQ (AY (AR (AG q) j))]
 there:=fun b u q _=>⟨u,k b u q⟩
 tups:=fun b xs q=>by rwa [fQ (aJ q g)]
 frzs:=fun b u xs q=>by rwa [fQ (aJ q g)]
 tbls:=fun b ps q=>⟨#[],by rw[fQ (aJ q g),q];simp⟩
def Un.write(j:Mut (H x))(G:e=x\/H e=some (.own x))(k:∀b u,b≠e->h.get? b=some u->h'.get? b=some u)(M:∃u,h'.get? e=some u):Un fs ex H (upd H x o) h h':=by
 have F:∀b,H b=none->b≠x:=fun b n z=>by subst z;rwa [n] at j
 have D:∀b,H b=none->b≠e:=fun b n z=>by
  subst z
  rcases G with r | r
  .exact F b n r
  .lia
 have g:∀b u,H b=some u->¬ Mut (some u)->b≠x:=fun b u q I z=>by subst z;rw[q] at j;exact I j
 refine⟨fun b u q n _ _=>k b u (D b n) q,fun b u q n _ _=>⟨u.slots,k b u (D b n) q⟩,fun b u q n _=>by rw[fQ (F b n)];exact n,fun b u q _=>?_,
  fun b xs q=>by rw[fQ (g b _ q fun z=>z)];exact q,fun b u xs q=>by rw[fQ (g b _ q fun z=>z)];exact q,fun b ps q=>⟨#[],by rw[fQ (g b _ q fun z=>z),q];simp⟩⟩
 by_cases J:b=e
 .grind
 .grind
end
def trk(h:Heap)(H:Hp):List Addr:=(List.range h.objs.size).filter fun a=>(H a).isSome
def Xq(h:Heap)(H:Hp):Heap:=PySem.W.hideAll h (trk h H)
def VG h H:(Xq h H).objs.size=h.objs.size:=PySem.W.hideAll_size _ _
def YZ(e:h.get? b=some o)(n:H b=none):(Xq h H).get? b=some o :=
 PySem.W.hideAll_get _ e fun g=>by
  have q:=(List.mem_filter.mp g).2;rw[n] at q;simp at q
def of_hidT(e:(Xq h H).get? b=some o):h.get? b=some o/\H b=none:=by
 have g:=PySem.W.of_hideAll (trk h H) e;refine⟨g,?_⟩
 cases q:H b with
 |none=>rfl
 |some x =>
  have z:(Xq h H).get? b=none:=PySem.W.hideAll_none (trk h H) (List.mem_filter.mpr ⟨BQ.mpr (AG g),by simp[q]⟩);rw[z] at e;cases e
def allNews(g h:Heap)(L:Addr):List (Addr×Obj):=(List.range h.objs.size).filterMap fun a=>if a=L\/(g.get? a).isSome=true then none else (h.get? a).map fun o=>(a,o)
def rest(g h:Heap)(L d:Addr):List (Addr×Obj):=(allNews g h L).filter fun p=>decide (p.1≠d)
structure Mod(K:Dm)(mg:Str->Option Value)(base:Heap):Prop where
 kin:K.In base
 glob:base.Ns mainGlobals mg
 blt:∃mb,base.Ns builtinsNs mb/\∀x:Str,x ≠ "__name__"->mb x=bootBuiltins x
 nolimit:base.NoLimit
structure Cx where
 prog:Program
 w:World
 K:Dm
 mg:Str->Option Value
 base:Heap
 A:Around
 N:List Str
 s₀:Shared
 H₀:Hp
 env:Env
 outer:List Env
 stack:List Env
 ex:List Addr
 fn:Str->Bool
 calm:Bool
 pn:List (Addr×Obj)
 xe:Value->Shared->Prop
def frs(l:List Env):List Addr:=l.filterMap (·.frame)
abbrev Cx.fs(X:Cx):List Addr:=frs X.outer
def Vis(sc:Scope)(x:Str):Prop:=sc.names.lookup x=some .local\/sc.names.lookup x=some .cell\/sc.names.lookup x=some .free
def Loc(sc:Scope)(x:Str):Prop:=sc.names.lookup x=some .local\/sc.names.lookup x=some .cell
def Look(g:Env)(h:Heap)(m:Str->Option Value)(x:Str)(u:Value):Prop :=
 (g.kindOf x=some .local/\m x=some u)\/((g.kindOf x=some .cell\/g.kindOf x=some .free)/\∃c,g.cells.lookup x=some c/\h.IsCell c (some u))
structure Cx.Ok(X:Cx):Prop where
 mod:Mod X.K X.mg X.base
 kind:X.env.scope.kind=.function
 glob:X.env.globals=mainGlobals
 blt:X.env.builtins=builtinsNs
 above:X.s₀.heap.objs.size<=X.env.locals
 inj:∀x y c,X.env.cells.lookup x=some c->X.env.cells.lookup y=some c->x=y
 has:∀x,(X.env.kindOf x=some .cell\/X.env.kindOf x=some .free)->∃c,X.env.cells.lookup x=some c
 cab:∀x c,X.fn x=true->X.env.cells.lookup x=some c->X.s₀.heap.objs.size<=c
 hd:X.calm=true->X.A.handled=none
 frames:X.A.frames=some X.stack
 stk:X.stack=X.outer\/(X.stack=X.env::X.outer/\X.env.frame=some X.env.locals)
 exf:∀b∈X.ex,b≠X.env.locals/\∀x c,X.env.cells.lookup x=some c->c≠b
 bs:∀b o,X.base.get? b=some o->X.s₀.heap.get? b=some o/\X.H₀ b=none
 bsz:X.base.objs.size<=X.s₀.heap.objs.size
 noex:∀b o,X.base.get? b=some o->b∉X.ex
 exfs:∀b∈X.ex,b∉X.fs
 funs:X.s₀.heap.FunFrames X.base X.outer
 frf:∀b∈X.fs,X.H₀ b=none
structure Inv(X:Cx)(pins:List (Addr×Obj))(σ:List (Option V))(H:Hp)(s:Shared):Prop where
 ok:X.Ok
 os:s.os=X.s₀.os
 bare:AllBare s.gens
 base:Un X.fs X.ex X.H₀ H X.s₀.heap s.heap
 loc:∃m,s.heap.Ns X.env.locals m/\∀(i:Nat)(x:Str)(v:V),X.N[i]?=some x->σ[i]?=some (some v)->Vis X.env.scope x->∃u,RelV v u/\Look X.env s.heap m x u
 cell:∀x c,X.env.cells.lookup x=some c->∃v,s.heap.IsCell c v
 free:H X.env.locals=none
 freeC:∀x c,X.env.cells.lookup x=some c->H c=none
 pin:∀p∈X.pn++pins,s.heap.get? p.1=some p.2/\H p.1=none/\p.1≠X.env.locals/\p.1∉X.fs/\∀v,p.2.data≠.cell v
 hok:HOk X.prog X.w H s.heap
 len:σ.length=X.N.length
section
variable {X:Cx}{pins:List (Addr×Obj)}{σ:List (Option V)}{H H':Hp}{s:Shared}{h':Heap}
def Cx.Ok.nofr(j:X.Ok)(e:X.base.get? b=some o):b∉X.fs:=fun g=>by
 have:=(j.funs.mem g).1;rw[e] at this;cases this
def Inv.bs(I:Inv X pins σ H s):∀b o,X.base.get? b=some o->s.heap.get? b=some o/\H b=none:=fun b o e=>
 ⟨I.base.keep b o (I.ok.bs b o e).1 (I.ok.bs b o e).2 (I.ok.nofr e) (I.ok.noex b o e),I.base.free b o (I.ok.bs b o e).1 (I.ok.bs b o e).2 (I.ok.noex b o e)⟩
def Inv.bk(I:Inv X pins σ H s):∀b o,X.base.get? b=some o->s.heap.get? b=some o:=fun b o e=>(I.bs b o e).1
def Inv.mod(I:Inv X pins σ H s):Mod X.K X.mg X.base:=I.ok.mod
def Inv.kIn(I:Inv X pins σ H s):X.K.In s.heap:=I.ok.mod.kin.keeps I.bk
def Inv.fr(I:Inv X pins σ H s):∃m,Fr X.base X.env.locals s.heap m :=
 let ⟨m,g,_⟩:=I.loc
 ⟨m,g,I.bk,AW I.ok.bsz I.ok.above⟩
def Inv.lt(I:Inv X pins σ H s):X.env.locals < s.heap.objs.size:=let ⟨_,g,_⟩:=I.loc;g.lt
def Inv.sz(I:Inv X pins σ H s):X.s₀.heap.objs.size<=s.heap.objs.size:=AW I.ok.above (BY I.lt)
def Inv.nofs(I:Inv X pins σ H s){a:Addr}(h:s.heap.objs.size<=a):a∉X.fs:=fun g=>by
 obtain⟨_,o,j,_⟩:=I.ok.funs.mem g;exact absurd (AR (AG j) (AW I.sz h)) (BC _)
def Inv.cne(I:Inv X pins σ H s):∀x c,X.env.cells.lookup x=some c->c≠X.env.locals:=fun x c e z=>by
 obtain⟨v,o,j,g⟩:=(I.cell x c e);obtain⟨m,⟨o',es,ep,D,q,_⟩,_⟩:=I.loc;rw[z,D] at j;cases j;rw[q] at g;cases g
def Inv.funs(I:Inv X pins σ H s):s.heap.FunFrames X.base X.outer:=by
 have D:∀l,(∀b∈frs l,b∈X.fs)->X.s₀.heap.FunFrames X.base l->s.heap.FunFrames X.base l:=by
  intro l
  induction l with
  |nil=>intro _ _;trivial
  |cons U r S =>
   intro hs J;obtain⟨G,⟨L,o,q,M,N,F⟩,O⟩:=J;have g:=hs L (by delta frs;exact List.filterMap_cons▸q▸AE);obtain⟨Y,e⟩:=I.base.slot L o N (I.ok.frf L g) g fun z=>I.ok.exfs L z g;exact⟨G,⟨L,_,q,M,e,F⟩,S (fun b j=>hs b (by delta frs;exact List.filterMap_cons▸q▸AI _ j)) O⟩
 exact D X.outer (fun _ j=>j) I.ok.funs
def Inv.stack(I:Inv X pins σ H s):s.heap.FunFrames X.base X.stack:=by
 rcases I.ok.stk with e | ⟨e,g⟩
 .exact e▸I.funs
 .rw [e]
  refine oQ I.loc fun m j _=>.cons (by rw[I.ok.kind];decide) g j ?_ I.funs;exact Heap.get?_none_of_le (AW I.ok.bsz I.ok.above)
def Inv.stkSub(I:Inv X pins σ H s):∀b∈frs X.stack,b∈X.env.locals::X.fs:=fun b g=>by
 rcases I.ok.stk with e | ⟨e,j⟩
 .grind
 .rw [e] at g
  delta frs at g
  rwa [List.filterMap_cons,j] at g
def Inv.stkFree(I:Inv X pins σ H s):∀b∈frs X.stack,H b=none:=fun b g=>by
 rcases Aj.mp (I.stkSub b g) with e | g
 .exact e▸I.free
 .obtain ⟨_,o,j,_⟩:=I.ok.funs.mem g
  exact I.base.free b o j (I.ok.frf b g) fun z=>I.ok.exfs b z g
def Inv.step{ch:List Addr}(I:Inv X pins σ H s)(J:∀b∈ch,(b∈X.ex\/X.s₀.heap.objs.size<=b)/\b≠X.env.locals/\(∀x c,X.env.cells.lookup x=some c->c≠b)/\∀p∈X.pn++pins,p.1≠b)(U:∀b o,b≠X.env.locals->b∉X.fs->b∉ch->s.heap.get? b=some o->H b=none->h'.get? b=some o)(ag:∀b o,b≠X.env.locals->b∈X.fs->b∉ch->s.heap.get? b=some o->H b=none->∃Y,h'.get? b=some { o with slots:=Y })(N:∀b o,b∉ch->s.heap.get? b=some o->H b=none->H' b=none)(aq:∀b o,b∉ch->s.heap.get? b=some o->∃o',h'.get? b=some o')(ar:∀b xs,H b=some (.tup xs)->H' b=some (.tup xs))(ah:∀b o u,H b=some (.frz o u)->H' b=some (.frz o u))(ao:∀b ps,H b=some (.tbl ps)->∃aj,H' b=some (.tbl (ps++aj)))(ns:∀m,s.heap.Ns X.env.locals m->h'.Ns X.env.locals m)(ai:HOk X.prog X.w H' h')(hg:AllBare g'):
  Inv X pins σ H' { s with heap:=h',gens:=g',drawn:=d',toks:=t' }:=by
 have ae:∀b o,X.s₀.heap.get? b=some o->b≠X.env.locals:=fun b o e=>AY (AR (AG e) I.ok.above)
 have O:∀b o,X.s₀.heap.get? b=some o->b∉X.ex->b∉ch:=fun b o e g D=>by
  rcases(J b D).1 with z | z
  .exact g z
  .exact absurd (AR (AG e) z) (BC _)
 have Z:∀x c,X.env.cells.lookup x=some c->∀v,s.heap.IsCell c v->h'.IsCell c v:=fun x c e v zz=>oQ zz fun o F S=> by
  have M:c∉ch:=fun z=>(J c z).2.2.1 x c e rfl
  by_cases hc:c∈X.fs
  .obtain ⟨Y,q⟩:=ag c o (I.cne x c e) hc M F (I.freeC x c e)
   exact⟨_,q,S⟩
  .exact ⟨o,U c o (I.cne x c e) hc M F (I.freeC x c e),S⟩
 refine⟨I.ok,I.os,hg,⟨fun b o e n D g=>?_,fun b o e n D g=>?_,fun b o e n g=>?_,fun b o e g=>?_,fun b xs e=>ar b xs (I.base.tups b xs e),fun b o xs e=>ah b o xs (I.base.frzs b o xs e),fun b ps e=>?_⟩,?_,fun x c e=>?_,?_,fun x c e=>?_,fun p hp=>?_,ai,I.len⟩
 .exact U b o (ae b o e) D (O b o e g) (I.base.keep b o e n D g) (I.base.free b o e n g)
 .obtain ⟨Y,j⟩:=I.base.slot b o e n D g
  obtain⟨ak,G⟩:=ag b _ (ae b o e) D (O b o e g) j (I.base.free b o e n g);exact⟨ak,G⟩
 .obtain ⟨o',j⟩:=I.base.there b o e g
  exact N b o' (O b o e g) j (I.base.free b o e n g)
 .obtain ⟨o',j⟩:=I.base.there b o e g
  exact aq b o' (O b o e g) j
 .obtain ⟨m1,j⟩:=I.base.tbls b ps e
  obtain⟨m2,G⟩:=ao b _ j;exact⟨m1++m2,by rw[G,Array.append_assoc]⟩
 .refine oQ I.loc fun m hn hl=>⟨m,ns m hn,fun i x v j G e3=>oQ (hl i x v j G e3) fun u r l=>⟨u,r,?_⟩⟩
  rcases l with l | ⟨k,c,e,z⟩
  .exact .inl l
  .exact .inr ⟨k,c,e,Z x c e _ z⟩
 .obtain ⟨v,z⟩:=I.cell x c e
  exact⟨v,Z x c e v z⟩
 .obtain ⟨m,⟨o,_,_,F,_⟩,_⟩:=I.loc
  exact N _ o (fun z=>(J _ z).2.1 rfl) F I.free
 .exact bU (I.cell x c e) fun v o F S=>N c o (fun z=>(J c z).2.2.1 x c e rfl) F (I.freeC x c e)
 .refine rT (I.pin p hp) fun e n ab af d=>?_
  have M:p.1∉ch:=fun z=>(J p.1 z).2.2.2 p hp rfl;exact⟨U p.1 p.2 ab af M e n,N p.1 p.2 M e n,ab,af,d⟩
def Inv.un(I:Inv X pins σ H s)(u:Un X.fs [] H H' s.heap h')(M:HOk X.prog X.w H' h'):Inv X pins σ H' { s with heap:=h',toks:=t' }:=by
 obtain⟨m,⟨o,es,ep,j,r⟩,_⟩:=id I.loc;obtain⟨S,G⟩:=u.any j I.free (by simp)
 exact I.step (g':=s.gens) (d':=s.drawn) (ch:=[]) (fun _ z=>nomatch z) (fun b o _ g _ e n=>u.keep b o e n g (by simp)) (fun b o _ g _ e n=>u.slot b o e n g (by simp)) (fun b o _ e n=>u.free b o e n (by simp)) (fun b o _ e=>u.there b o e (by simp)) u.tups u.frzs u.tbls (fun O J=>by
  obtain⟨o',F,D,q,N⟩:=J;rw[j] at q;cases q
  exact⟨_,F,D,G,N⟩) M I.bare
def Inv.call(I:Inv X pins σ H s)(u:Un (frs X.stack) ch H H' s.heap h')(S:HOk X.prog X.w H' h')(N:AllBare g')(q:∀b∈ch,(b∈X.ex\/X.s₀.heap.objs.size<=b)/\b≠X.env.locals/\(∀x c,X.env.cells.lookup x=some c->c≠b)/\∀p∈X.pn++pins,p.1≠b):
  Inv X pins σ H' { s with heap:=h',gens:=g',drawn:=d',toks:=t' }:=by
 obtain⟨m,⟨o,es,ep,D,r⟩,_⟩:=id I.loc;obtain⟨Z,j⟩:=u.any D I.free fun z=>(q _ z).2.1 rfl
 exact I.step q (fun b o j M g e n=>u.keep b o e n (fun z=>(Aj.mp (I.stkSub b z)).elim j M) g) (fun b o _ _ g e n=>u.any e n g) (fun b o g e n=>u.free b o e n g) (fun b o g e=>u.there b o e g) u.tups u.frzs u.tbls (fun Y O=>by
  obtain⟨o',J,G,F,U⟩:=O;rw[D] at F;cases F
  exact⟨_,J,G,j,U⟩) S N
def Inv.turned(I:Inv X pins σ H s)(k:∀b o,b≠it->s.heap.get? b=some o->h'.get? b=some o)(F:H it=none)(j:it≠X.env.locals)(h1:it∈X.ex\/X.s₀.heap.objs.size<=it)(h2:∀x c,X.env.cells.lookup x=some c->c≠it)(J:∀p∈X.pn++pins,p.1≠it):Inv X pins σ H { s with heap:=h',toks:=t' }:=by
 have N:∀b u,H b=some u->b≠it:=fun b u e z=>by rw[z,F] at e;cases e
 refine I.step (g':=s.gens) (d':=s.drawn) (ch:=[it]) (fun b M=>?_) (fun b o _ _ g e _=>k b o (fun z=>g (by simp[z])) e) (fun b o _ _ g e _=>⟨o.slots,k b o (fun z=>g (by simp[z])) e⟩) (fun _ _ _ _ n=>n)
  (fun b o g e=>⟨o,k b o (fun z=>g (by simp[z])) e⟩) (fun _ _ e=>e) (fun _ _ _ e=>e) (fun b ps e=>⟨#[],by rw[e];simp⟩) (fun m D=>?_) (fun b u e=>?_) I.bare
 .grind
 .exact Z4 D fun o es ep G r=>⟨o,es,ep,k _ o (Ne.symm j) G,r⟩
 .refine (I.hok b u e).stay (fun c v g q=>k c v ?_ q) (fun _ q=>q) fun _ _ q=>q
  rcases g with z | z
  .lia
  .lia
def Inv.tok(I:Inv X pins σ H s)t:Inv X pins σ H { s with toks:=t }:=I.un (h':=s.heap) (t':=t) Un.refl I.hok
def Inv.kept(I:Inv X pins σ H s)(k:∀b u,s.heap.get? b=some u->h'.get? b=some u):Inv X pins σ H { s with heap:=h',toks:=t' }:=I.un (Un.kept k) (I.hok.kept k)
def Inv.laid{a:Addr}(I:Inv X pins σ H s)(k:∀b u,s.heap.get? b=some u->h'.get? b=some u)(g:s.heap.objs.size<=a)(j:ObjOk X.prog X.w (upd H a o) h' a o):
  Inv X pins σ (upd H a o) { s with heap:=h',toks:=t' }:=I.un (Un.laid k g (I.hok.fresh g)) (I.hok.laid k g j)
def Inv.write(I:Inv X pins σ H s)(q:Mut (H x))(g:e=x\/H e=some (.own x))(k:∀b u,b≠e->s.heap.get? b=some u->h'.get? b=some u)(j:∃u,h'.get? e=some u)(D:ObjOk X.prog X.w (upd H x o) h' x o):Inv X pins σ (upd H x o) { s with heap:=h',toks:=t' }:=I.un (Un.write q g k j) (I.hok.write q g k j D)
def Inv.weak(I:Inv X pins σ H s)(F:g.length=σ.length)(w:∀(i:Nat)v,g[i]?=some (some v)->σ[i]?=some (some v)):Inv X pins g H s :=
 ⟨I.ok,I.os,I.bare,I.base,let ⟨m,J,G⟩:=I.loc;⟨m,J,fun i x v j q D=>G i x v j (w i v q) D⟩,I.cell,I.free,I.freeC,I.pin,I.hok,F.trans I.len⟩
def Inv.pins_of(I:Inv X pins σ H s)(h:∀p∈j,s.heap.get? p.1=some p.2/\H p.1=none/\p.1≠X.env.locals/\p.1∉X.fs/\∀v,p.2.data≠.cell v):Inv X j σ H s :=
 ⟨I.ok,I.os,I.bare,I.base,I.loc,I.cell,I.free,I.freeC,fun p g=>(Ae.mp g).elim (fun z=>I.pin p (Aw _ z)) (h p),I.hok,I.len⟩
def Xc{N:List Str}(D:N.Nodup){j:Nat}(a:N[i]?=some x)(b:N[j]?=some x):i=j:=by
 obtain⟨h1,g⟩:=AU.mp a;obtain⟨h2,q⟩:=AU.mp b;exact(List.getElem_inj D).mp (g.trans q.symm)
def bO(I:Inv X pins σ H s)(hN:X.N.Nodup)(hi:X.N[i]?=some x)(F:Loc X.env.scope x)(r:RelV v u)(h:∀s',Inv X pins (σ.set i (some v)) H s'->(∃a,Heap.SameBut a s.heap s'.heap/\(a=X.env.locals\/X.env.cells.lookup x=some a))->Q () s')(aq:X.fn x=true\/X.env.scope.names.lookup x=some .local:=by first | exact .inl rfl | exact .inr rfl | assumption):wpAny av A (storeName X.env x u) Q E s:=by
 refine oQ (id I.loc) fun m hn hl=>?_;have ao:(X.env.scope.kind==.class || (X.env.scope.kind==.module&&X.env.locals != X.env.globals))=false:=by rw[I.ok.kind];rfl
 have ai:i < σ.length :=I.len▸(AU.mp hi).1;have Y:=I.cne
 have ak:∀{a:Addr}{h':Heap},(∃o,s.heap.get? a=some o/\H a=none)->Heap.SameBut a s.heap h'->HOk X.prog X.w H h':=fun {a h'}ha hs b ob e=>by
  obtain⟨_,_,ah⟩:=ha;refine(I.hok b ob e).stay (fun c U D q=>(hs.2 c ?_).trans q) (fun _ q=>q) fun _ _ q=>q;rintro rfl
  rcases D with rfl | D
  .rw [ah] at e;cases e
  .rw [ah] at D;cases D
 rcases F with J | J
 .refine wpAny_storeName_local J hn (fun h' ar hs=>Z4 (id hn) fun oL _ _ au _=>h _ ⟨I.ok,I.os,I.bare,⟨fun b o e n M F=>?_,fun b o e n M F=>?_,I.base.free,fun b o e F=>?_,I.base.tups,I.base.frzs,I.base.tbls⟩,⟨_,ar,fun j y v' g G Z=>?_⟩,fun y c e=>?_,I.free,I.freeC,fun p hp=>?_,ak ⟨oL,au,I.free⟩ hs,by simpa using I.len⟩ ⟨_,hs,.inl rfl⟩) ao
  .exact (hs.2 b (AY (AR (AG e) I.ok.above))).trans (I.base.keep b o e n M F)
  .obtain ⟨sl,g⟩:=I.base.slot b o e n M F
   exact⟨sl,(hs.2 b (AY (AR (AG e) I.ok.above))).trans g⟩
  .obtain ⟨o',g⟩:=I.base.there b o e F
   exact⟨o',(hs.2 b (AY (AR (AG e) I.ok.above))).trans g⟩
  .by_cases N:j=i
   .subst N
    rw[hi] at g;cases g
    rw[List.getElem?_set_self ai] at G;cases G;exact⟨u,r,.inl ⟨J,by simp⟩⟩
   .rw [B4 (Ne.symm N)] at G
    refine oQ (hl j y v' g G Z) fun u' r' q=>⟨u',r',?_⟩
    rcases q with ⟨k,e⟩ | ⟨k,c,e,z⟩
    .refine .inl ⟨k,?_⟩
     have:y≠x:=fun e=>N (Xc hN g (e▸hi))
     simp[this,e]
    .exact .inr ⟨k,c,e,z.sameBut hs (Y y c e)⟩
  .obtain ⟨U,z⟩:=I.cell y c e
   exact⟨U,z.sameBut hs (Y y c e)⟩
  .exact rT (I.pin p hp) fun e n S ae d=>⟨(hs.2 p.1 S).trans e,n,S,ae,d⟩
 .have ab:X.fn x=true:=by
   rcases aq with z | z
   .exact z
   .rw [z] at J;cases J
  obtain⟨c,D⟩:=I.ok.has x (.inl J);obtain⟨U,z⟩:=I.cell x c D;refine wpAny_storeName_cell I.ok.kind J D z (fun h' af hs=>oQ (id z) fun oc aj aw=>h { s with heap:=h' } ⟨I.ok,I.os,I.bare,⟨fun b o e n M F=>?_,fun b o e n M F=>?_,I.base.free,fun b o e F=>?_,I.base.tups,I.base.frzs,I.base.tbls⟩,⟨m,hn.sameBut hs (Ne.symm (Y x c D)),fun j y v' g G Z=>?_⟩,fun y O e=>?_,I.free,I.freeC,fun p hp=>?_,ak ⟨oc,aj,I.freeC x c D⟩ hs,by simpa using I.len⟩ ⟨c,hs,.inr D⟩)
  .exact (hs.2 b (AY (AR (AG e) (I.ok.cab x c ab D)))).trans (I.base.keep b o e n M F)
  .obtain ⟨sl,g⟩:=I.base.slot b o e n M F
   exact⟨sl,(hs.2 b (AY (AR (AG e) (I.ok.cab x c ab D)))).trans g⟩
  .obtain ⟨o',g⟩:=I.base.there b o e F
   exact⟨o',(hs.2 b (AY (AR (AG e) (I.ok.cab x c ab D)))).trans g⟩
  .by_cases N:j=i
   .subst N
    rw[hi] at g;cases g
    rw[List.getElem?_set_self ai] at G;cases G;exact⟨u,r,.inr ⟨.inl J,c,D,af⟩⟩
   .rw [B4 (Ne.symm N)] at G
    refine oQ (hl j y v' g G Z) fun u' r' q=>⟨u',r',?_⟩
    rcases q with q | ⟨k,O,e,z'⟩
    .exact .inl q
    .refine .inr ⟨k,O,e,z'.sameBut hs ?_⟩
     rintro rfl;exact N (Xc hN g (I.ok.inj _ _ _ e D▸hi))
  .by_cases ag:O=c
   .subst ag;exact⟨_,af⟩
   .obtain ⟨w2,z2⟩:=I.cell y O e
    exact⟨w2,z2.sameBut hs ag⟩
  .refine rT (I.pin p hp) fun e n S ae d=>⟨(hs.2 p.1 ?_).trans e,n,S,ae,d⟩
   intro q;rw[q,aj] at e;exact d U (by lia)
def QE(I:Inv X pins σ H s)(j:X.N.Nodup)(hi:X.N[i]?=some x)(D:Loc X.env.scope x)(r:RelV v u)(h:∀s',Inv X pins (σ.set i (some v)) H s'->Q () s')(q:X.fn x=true\/X.env.scope.names.lookup x=some .local:=by first | exact .inl rfl | exact .inr rfl | assumption):wpAny M A (storeName X.env x u) Q E s :=
 bO I j hi D r (fun s' g _=>h s' g) q
end
abbrev XK:=Value->Option Addr->Hp->Prop
abbrev St:=List (Option V)
abbrev VK:=V->Hp->Prop
abbrev TE:=St->Hp->VK->Prop
abbrev TT:=St->Hp->(Bool->Hp->Prop)->Prop
abbrev TA:=St->Hp->(List V->Hp->Prop)->Prop
structure Ue where
 nx:St->Hp->Prop
 rt:VK
 bk:St->Hp->Prop:=fun _ _=>False
 ct:St->Hp->Prop:=fun _ _=>False
abbrev TS:=Ue->St->Hp->Prop
def EP(X:Cx)(pins:List (Addr×Obj))(σ:St)(Q:VK)(u:Value)(s':Shared):Prop:=∃v H',Inv X pins σ H' s'/\RelV v u/\Q v H'
def TP(X:Cx)(pins:List (Addr×Obj))(σ:St)(Q:Bool->Hp->Prop)(b:Bool)(s':Shared):Prop:=∃H',Inv X pins σ H' s'/\Q b H'
def AP(X:Cx)(pins:List (Addr×Obj))(σ:St)(Q:List V->Hp->Prop)(g:List Value)(s':Shared):Prop:=∃vs H',Inv X pins σ H' s'/\Vals vs g/\Q vs H'
def SP(X:Cx)(pins:List (Addr×Obj))(D:Ue)(f:Flow)(s':Shared):Prop :=
 match f with
 |.next=>∃g H',Inv X pins g H' s'/\D.nx g H'
 |.brk=>∃g H',Inv X pins g H' s'/\D.bk g H'
 |.cont=>∃g H',Inv X pins g H' s'/\D.ct g H'
 |.ret u=>∃v g H',Inv X pins g H' s'/\RelV v u/\D.rt v H'
def PE(X:Cx)(e:Expr)(t:TE):Prop :=
 ∀(pins:List (Addr×Obj))(s:Shared)(σ:St)(H:Hp)(Q:VK),Inv X pins σ H s->t σ H Q->wpAny (model X.prog X.w) X.A (eval e X.env) (EP X pins σ Q) X.xe s
def PT(X:Cx)(e:Expr)(t:TT):Prop :=
 ∀(pins:List (Addr×Obj))(s:Shared)(σ:St)(H:Hp)(Q:Bool->Hp->Prop),Inv X pins σ H s->t σ H Q->wpAny (model X.prog X.w) X.A (isTrue e X.env (eval e X.env)) (TP X pins σ Q) X.xe s
def PW(X:Cx)(e:Expr)(t:TT):Prop :=
 ∀(g:Sem Value)(pins:List (Addr×Obj))(s:Shared)(σ:St)(H:Hp)(Q:Bool->Hp->Prop),Inv X pins σ H s->t σ H Q->wpAny (model X.prog X.w) X.A (isTrue e X.env g) (TP X pins σ Q) X.xe s
def PW.pt(h:PW X e t):PT X e t:=h _
def PA(X:Cx)(es:List Expr)(t:TA):Prop :=
 ∀(pos:Pos)(pins:List (Addr×Obj))(s:Shared)(σ:St)(H:Hp)(Q:List V->Hp->Prop),Inv X pins σ H s->t σ H Q->wpAny (model X.prog X.w) X.A (spliced (backTo pos (starEach es X.env))) (AP X pins σ Q) X.xe s
def PS(X:Cx)(st:Stmt)(t:TS):Prop :=
 ∀(pins:List (Addr×Obj))(s:Shared)(σ:St)(H:Hp)(D:Ue),Inv X pins σ H s->t D σ H->wpAny (model X.prog X.w) X.A (exec st X.env) (SP X pins D) X.xe s
def PSs(X:Cx)(st:List Stmt)(t:TS):Prop :=
 ∀(pins:List (Addr×Obj))(s:Shared)(σ:St)(H:Hp)(D:Ue),Inv X pins σ H s->t D σ H->wpAny (model X.prog X.w) X.A (execs st X.env) (SP X pins D) X.xe s
theorem thn(h:wpAny M A t Q E s)(j:∀a s,Q a s->g a s):wpAny M A t g E s:=BM h j fun _ _ x=>x
section
variable {X:Cx}
def bin(F:PE X a ta)(G:PE X b tb){σ:St}{R:V->V->Hp->Prop}(I:Inv X pins σ H s)(h:ta σ H fun x H1=>tb σ H1 fun y H2=>R x y H2){f:Value->Value->Sem α}(J:∀v u g x y H2,Inv X pins σ H2 g->RelV x v->RelV y u->R x y H2->wpAny (model X.prog X.w) X.A (f v u) Q X.xe g):
  wpAny (model X.prog X.w) X.A (eval a X.env) (fun v Y=>wpAny (model X.prog X.w) X.A (eval b X.env) (fun u Z=>wpAny (model X.prog X.w) X.A (f v u) Q X.xe Z) X.xe Y) X.xe s :=thn (F pins s σ H _ I h) fun v U j=>kZ j fun x H1 q O M=> thn (G pins U σ H1 _ q M) fun u g j=>kZ j fun y H2 D S N=> J v u g x y H2 D O S N
inductive UL(i:Nat)(σ:St)(H:Hp)(Q:VK):Prop
 |mk(v:V)(h:σ[i]?=some (some v))(q:Q v H)
def tVar(i:Nat):TE:=fun σ H Q=>UL i σ H Q
def tC(v:V):TE:=fun _ H Q=>Q v H
def W7{pos}(G:X.N[i]?=some x)(S:Vis X.env.scope x)(q:(x==("__debug__" : Str))=false:=by decide)(J:(x==("__classdict__" : Str))=false:=by decide):PE X (.Name x pos) (tVar i):=by
 intro pins s σ H Q I h;obtain⟨v,e,h⟩:=h;refine oQ I.loc fun m O M=>oQ (M i x v G e S) fun u r l=>?_;have j:EP X pins σ Q u s:=⟨v,H,I,r,h⟩
 rcases l with ⟨g,N⟩ | ⟨g,c,D,F⟩
 .exact wpAny_Name (wpAny_loadName_local I.ok.kind g O N j) q
 .rcases g with g | g
  .exact wpAny_Name (wpAny_loadName_cell I.ok.kind g D F j) q
  .exact wpAny_Name (wpAny_loadName_free I.ok.kind g D F j J) q
def pe_int{i j pos}:PE X (.Constant (.int i) j pos) (tC (.int i)):=fun _ _ _ H _ I h=>wpAny_Constant_int ⟨.int i,H,I.tok _,⟨_,rfl⟩,h⟩
def pe_bl{b j pos}:PE X (.Constant (.bool b) j pos) (tC (.bl b)):=fun _ _ _ H _ I h=>Constant_bool ⟨.bl b,H,I,rfl,h⟩
def pe_non{j pos}:PE X (.Constant .none j pos) (tC .non):=fun _ _ _ H _ I h=>Constant_none ⟨.non,H,I,rfl,h⟩
def pe_str{x j pos}:PE X (.Constant (.str x) j pos) (tC (.str x)):=fun _ _ _ H _ I h=>Calls.Constant_str ⟨.str x,H,I.tok _,⟨_,rfl⟩,h⟩
def Gl(X:Cx)(x:Str):Prop:=X.env.kindOf x=some .globalImplicit
def zI{σ:St}(I:Inv X pins σ H s)(j:Gl X x)(q:X.mg x=some u)(h:Q u s)(g:(x==("__debug__" : Str))=false:=by decide):wpAny (model X.prog X.w) X.A (eval (.Name x pos) X.env) Q E s :=
 Calls.Name_function_global I.ok.kind j (Calls.loadGlobal_global (I.ok.glob▸I.mod.glob.keeps I.bk) q h) g
def jI{E}{σ:St}{pos}(I:Inv X pins σ H s)(j:Gl X x)(q:X.mg x=none)(F:bootBuiltins x=some u)(h:Q u s)(D:x ≠ "__name__":=by decide)(g:(x==("__debug__" : Str))=false:=by decide):wpAny (model X.prog X.w) X.A (eval (.Name x pos) X.env) Q E s :=oQ I.mod.blt fun G h1 h2=>Calls.Name_function_global I.ok.kind j (Calls.loadGlobal_builtin (I.ok.glob▸I.mod.glob.keeps I.bk) q (I.ok.blt▸h1.keeps I.bk) ((h2 x D).trans F) h) g
def pe_glob(j:Gl X x)(q:X.mg x=some u)(r:RelV v u)(g:(x==("__debug__" : Str))=false:=by decide):PE X (.Name x pos) (tC v) :=
 fun _ _ _ H _ I h=>zI I j q ⟨v,H,I,r,h⟩ g
def pe_bltn{pos}(j:Gl X x)(q:X.mg x=none)(F:bootBuiltins x=some u)(r:RelV v u)(D:x ≠ "__name__":=by decide)(g:(x==("__debug__" : Str))=false:=by decide):PE X (.Name x pos) (tC v) :=
 fun _ _ _ H _ I h=>jI I j q F ⟨v,H,I,r,h⟩ D g
variable {a b:Expr}{ta tb:TE}{pos:Pos}
inductive IBl(Q:Bool->Hp->Prop)(x:V)(H:Hp):Prop
 |mk(c:Bool)(h:x=.bl c)(q:Q c H)
def tB(t:TE):TT:=fun σ H Q=>t σ H (IBl Q)
def pt_val(h:PE X e t)(D:∀g,isTrue e X.env g=(do let v <- g;standAt e.pos;holding [v] (truthy v)):=by intro _;rfl):PT X e (tB t):=by
 intro pins s σ H Q I F;refine isTrue_plain (thn (h pins s σ H _ I F) fun v N M=>kZ M fun x H1 j J G=> ?_) (D _);obtain⟨d,rfl,q⟩:=G;cases J;exact A6 ⟨H1,j,q⟩
variable {tA tB':TT}{rest:List Expr}
def tAnd(t u:TT):TT:=fun σ H Q=>t σ H fun c H1=>if c=true then u σ H1 Q else Q false H1
def tOr(t u:TT):TT:=fun σ H Q=>t σ H fun c H1=>if c=true then Q true H1 else u σ H1 Q
def tNot(t:TT):TT:=fun σ H Q=>t σ H fun c H1=>Q (!c) H1
def pw_and1(g:PT X a tA):PW X (.BoolOp .And [a] pos) tA:=by
 intro q pins s σ H Q I h;refine isTrue_and (thn (g pins s σ H Q I h) fun c j e=>?_)
 cases c with
 |true=>exact isTrue_and_nil e
 |false=>exact e
def pw_or1(g:PT X a tA):PW X (.BoolOp .Or [a] pos) tA:=by
 intro q pins s σ H Q I h;refine isTrue_or (thn (g pins s σ H Q I h) fun c j e=>?_)
 cases c with
 |false=>exact isTrue_or_nil e
 |true=>exact e
def pw_and(q:PT X a tA)(D:PW X (.BoolOp .And (b::rest) pos) tB'):PW X (.BoolOp .And (a::b::rest) pos) (tAnd tA tB'):=by
 intro G pins s σ H Q I h;refine isTrue_and (thn (q pins s σ H _ I h) fun c F J=>oQ J fun H1 g j=> ?_)
 cases c with
 |true=>exact D G pins F σ H1 Q g j
 |false=>exact⟨H1,g,j⟩
def pw_or(q:PT X a tA)(D:PW X (.BoolOp .Or (b::rest) pos) tB'):PW X (.BoolOp .Or (a::b::rest) pos) (tOr tA tB'):=by
 intro G pins s σ H Q I h;refine isTrue_or (thn (q pins s σ H _ I h) fun c F J=>oQ J fun H1 g j=> ?_)
 cases c with
 |true=>exact⟨H1,g,j⟩
 |false=>exact D G pins F σ H1 Q g j
def pt_not(g:PT X a tA):PT X (.UnaryOp .Not a pos) (tNot tA):=by
 intro pins s σ H Q I h;exact isTrue_not (g pins s σ H (fun c H1=>Q (!c) H1) I h)
def tAndV(ta tb:TE):TE:=fun σ H Q=>ta σ H fun x H1=>∃c,x=.bl c/\if c=true then tb σ H1 Q else Q (.bl false) H1
def tNotV(ta:TE):TE:=fun σ H Q=>ta σ H fun x H1=>∃c,x=.bl c/\Q (.bl (!c)) H1
def pe_one{op}(h:PE X a t):PE X (.BoolOp op [a] pos) t:=fun pins s σ H Q I g=>BoolOp_one (h pins s σ H Q I g)
def pe_and(q:PE X a ta)(D:PE X (.BoolOp .And (b::rest) pos) tb):PE X (.BoolOp .And (a::b::rest) pos) (tAndV ta tb):=by
 intro pins s σ H Q I h;refine BoolOp_and (thn (q pins s σ H _ I h) fun v G J=>kZ J fun x H1 j F g=> ?_);obtain⟨c,rfl,g⟩:=g;cases F
 apply A6
 cases c with
 |true=>exact D pins G σ H1 Q j g
 |false=>exact⟨.bl false,H1,j,rfl,g⟩
def pe_not(q:PE X a ta):PE X (.UnaryOp .Not a pos) (tNotV ta):=by
 intro pins s σ H Q I h;refine UnaryOp_ (thn (q pins s σ H _ I h) fun v G F=>kZ F fun x H1 j D g=> ?_);obtain⟨c,rfl,g⟩:=g;cases D;exact not_of (A6 ⟨.bl (!c),H1,j,rfl,g⟩)
def tIf(t:TT)(ta tb:TE):TE:=fun σ H Q=>t σ H fun c H1=>if c=true then ta σ H1 Q else tb σ H1 Q
def W9(G:PT X c tA)(D:PE X a ta)(F:PE X b tb):PE X (.IfExp c a b pos) (tIf tA ta tb):=by
 intro pins s σ H Q I h;refine wpAny_IfExp (thn (G pins s σ H _ I h) fun d q J=>oQ J fun H1 g j=> ?_)
 cases d with
 |true=>exact D pins q σ H1 Q g j
 |false=>exact F pins q σ H1 Q g j
end
def SqL(K:Dm)(H:Hp)(a:Addr)(xs:List V):Prop :=
 Rd H a (.lst xs) \/
  ∃(o:Obj)(g:Array Value)(n:Nat),K.lookup a=some o/\o.cls=.type "list"/\o.dict=none/\o.data=.seq g n/\g.size<=sizeLine/\Vals xs g.toList
def SqT(K:Dm)(H:Hp)(a:Addr)(xs:List V):Prop :=
 Rd H a (.tup xs) \/
  ∃(o:Obj)(g:Array Value)(n:Nat),K.lookup a=some o/\o.cls=.type "tuple"/\o.data=.seq g n/\g.size<=sizeLine/\Vals xs g.toList
noncomputable def absV:Value->Option V
 |.none=>some .non
 |.bool b=>some (.bl b)
 |.int i _=>some (.int i)
 |.str x _=>some (.str x)
 |.bytes b _=>some (.byt b)
 |.float b _=>some (.flt b)
 |.ref a=>some (.ref a)
 |.type n=>some (.ty n)
 |_=>none
def RelV.abs(r:RelV x u):absV u=some x:=by
 cases x with
 |non=>cases r;rfl
 |bl _=>cases r;rfl
 |int _=>obtain⟨t,rfl⟩:=r;rfl
 |str _=>obtain⟨t,rfl⟩:=r;rfl
 |byt _=>obtain⟨t,rfl⟩:=r;rfl
 |flt _=>obtain⟨t,rfl⟩:=r;rfl
 |ref _=>cases r;rfl
 |ty _=>cases r;rfl
def RelV.inj(r:RelV x u)(q:RelV y u):x=y:=Au (r.abs.symm.trans q.abs)
theorem Vals.inj:∀{xs ys}{g},Vals xs g->Vals ys g->xs=ys
 |_,_,_,.nil,.nil=>rfl
 |_,_,_,.cons r t,.cons j t'=>by rw[r.inj j,Vals.inj t t']
section
variable {X:Cx}{pins:List (Addr×Obj)}{σ:St}{H:Hp}{s:Shared}{a:Addr}{xs ys:List V}
def SqL.of{K}(h:H a=some (.lst xs)):SqL K H a xs:=.inl (.inl h)
def SqT.of{K}(h:H a=some (.tup xs)):SqT K H a xs:=.inl (.inl h)
def Inv.list(I:Inv X pins σ H s)(h:SqL X.K H a xs):∃g,Vals xs g/\PlainL s.heap a g.toArray/\xs.length<=sizeLine:=by
 rcases h with h | ⟨o,g,n,D,j,q,hs,F,r⟩
 .obtain ⟨z,g,n,r,e⟩:=h.ok I.hok
  exact⟨g,r,⟨_,n,e,rfl,rfl,rfl⟩,z⟩
 .refine ⟨g.toList,r,⟨o,n,I.kIn a o D,j,q,by simpa using hs⟩,?_⟩
  have e:=r.length
  simp only[Array.length_toList] at e
  lia
def Inv.tuple(I:Inv X pins σ H s)(h:SqT X.K H a xs):∃g,Vals xs g/\IsTup s.heap a g.toArray/\xs.length<=sizeLine:=by
 rcases h with h | ⟨o,g,n,q,j,hs,D,r⟩
 .obtain ⟨z,g,r,p⟩:=h.ok I.hok
  exact⟨g,r,ji.is p,z⟩
 .refine ⟨g.toList,r,⟨o,I.kIn a o q,j,n,by simpa using hs⟩,?_⟩
  have e:=r.length
  simp only[Array.length_toList] at e
  lia
def Inv.list_inj(I:Inv X pins σ H s)(h:SqL X.K H a xs)(h':SqL X.K H a ys):xs=ys:=by
 obtain⟨j,r,⟨o,n,e,_,_,d⟩,_⟩:=I.list h;obtain⟨its',q,⟨o',D,g,_,_,d'⟩,_⟩:=I.list h';rw[e] at g;cases g
 rw[d] at d';injection d' with d1 _
 have:j=its' :=by lia
 subst this;exact r.inj q
def Inv.tuple_inj(I:Inv X pins σ H s)(h:SqT X.K H a xs)(h':SqT X.K H a ys):xs=ys:=by
 obtain⟨j,r,⟨o,e,_,n,d⟩,_⟩:=I.tuple h;obtain⟨its',q,⟨o',g,_,D,d'⟩,_⟩:=I.tuple h';rw[e] at g;cases g
 rw[d] at d';injection d' with d1 _
 have:j=its' :=by lia
 subst this;exact r.inj q
end
abbrev Cx.wish(X:Cx)(E:Value->Shared->Prop):Cx:={ X with xe:=E }
abbrev Cx.nox(X:Cx):Cx:=X.wish fun _ _=>False
def Cx.Ok.wish{X:Cx}(g:X.Ok)E:(X.wish E).Ok :=
 ⟨g.mod,g.kind,g.glob,g.blt,g.above,g.inj,g.has,g.cab,g.hd,g.frames,g.stk,g.exf,g.bs,g.bsz,g.noex,g.exfs,g.funs,g.frf⟩
def Cx.Ok.unwish{X:Cx}(g:(X.wish E).Ok):X.Ok :=
 ⟨g.mod,g.kind,g.glob,g.blt,g.above,g.inj,g.has,g.cab,g.hd,g.frames,g.stk,g.exf,g.bs,g.bsz,g.noex,g.exfs,g.funs,g.frf⟩
section
variable {X:Cx}{pins:List (Addr×Obj)}{σ:St}{H:Hp}{s:Shared}{E:Value->Shared->Prop}
def Inv.wish(I:Inv X pins σ H s)E:Inv (X.wish E) pins σ H s:=⟨I.ok.wish E,I.os,I.bare,I.base,I.loc,I.cell,I.free,I.freeC,I.pin,I.hok,I.len⟩
def Inv.unwish(I:Inv (X.wish E) pins σ H s):Inv X pins σ H s:=⟨I.ok.unwish,I.os,I.bare,I.base,I.loc,I.cell,I.free,I.freeC,I.pin,I.hok,I.len⟩
def SP.unwish(h:SP (X.wish E) pins D f s'):SP X pins D f s':=by
 cases f with
 |next=>obtain⟨g,H',I,q⟩:=h;exact⟨g,H',I.unwish,q⟩
 |brk=>obtain⟨g,H',I,q⟩:=h;exact⟨g,H',I.unwish,q⟩
 |cont=>obtain⟨g,H',I,q⟩:=h;exact⟨g,H',I.unwish,q⟩
 |ret u=>exact pT h fun v g H' I r q=>⟨v,g,H',I.unwish,r,q⟩
def PSs.nox{st}(h:PSs X.nox st t):PSs X st t:=fun pins s σ H D I g=>
 BM (h pins s σ H D (I.wish _) g) (fun _ _ q=>q.unwish) fun _ _ z=>False.elim z
end
section
variable {X:Cx}{st:Stmt}{rest:List Stmt}{t u:TS}{e:Expr}{te:TE}{pos:Pos}
def tNext:TS:=fun D σ H=>D.nx σ H
def tSeq(t u:TS):TS:=fun D σ H=>t { D with nx:=u D } σ H
def pss_nil:PSs X [] tNext:=fun _ _ σ H _ I h=>DU ⟨σ,H,I,h⟩
def WW(h1:PS X st t)(h2:PSs X rest u):PSs X (st::rest) (tSeq t u):=by
 intro pins s σ H D I h;refine wpAny_execs_cons (thn (h1 pins s σ H { D with nx:=u D } I h) fun f j q=>?_)
 cases f with
 |next =>
  exact bU q fun F H' g q=>h2 pins j F H' D g q
 |ret v=>exact q
 |brk=>exact q
 |cont=>exact q
def pss_one(h1:PS X st t):PSs X [st] t:=by
 intro pins s σ H D I h;refine wpAny_execs_cons (thn (h1 pins s σ H D I h) fun f g q=>?_)
 cases f with
 |next=>exact DU q
 |ret v=>exact q
 |brk=>exact q
 |cont=>exact q
def Inv.quiet{σ:St}(I:Inv X pins σ H s):interactive X.env=false :=by simp[interactive,I.ok.kind]
def tDrop(te:TE):TS:=fun D σ H=>te σ H fun _ H1=>D.nx σ H1
def ps_expr(j:PE X e te)(hs:swapsWith e none pos.line X.env=pure false:=by rfl):PS X (.Expr e pos) (tDrop te):=by
 intro pins s σ H D I h;exact wpAny_Expr_any (thn (j pins s σ H _ I h) fun v J F=>kZ F fun x H1 g G q=> ⟨σ,H1,g,q⟩) I.quiet hs
def tRet(te:TE):TS:=fun D σ H=>te σ H D.rt
def WY(j:PE X e te):PS X (.Return (some e) pos) (tRet te):=by
 intro pins s σ H D I h;exact wpAny_Return_some (thn (j pins s σ H _ I h) fun v J G=>kZ G fun x H1 g F q=> ⟨x,σ,H1,g,F,q⟩)
def tIfS(c:TT)(t u:TS):TS:=fun D σ H=>c σ H fun b H1=>if b=true then t D σ H1 else u D σ H1
def ps_if(J:PT X c tc)(F:PSs X a t)(G:PSs X b u):PS X (.If c a b pos) (tIfS tc t u):=by
 intro pins s σ H D I h;refine wpAny_If (thn (J pins s σ H _ I h) fun d q M=>oQ M fun H1 g j=> ?_)
 cases d with
 |true=>exact F pins q σ H1 D g j
 |false=>exact G pins q σ H1 D g j
end
abbrev TG:=V->St->Hp->(St->Hp->Prop)->Prop
abbrev TGs:=List V->St->Hp->(St->Hp->Prop)->Prop
def PG(X:Cx)(j:Expr)(t:TG):Prop :=
 ∀(pins:List (Addr×Obj))(s:Shared)(σ:St)(H:Hp)(v:V)(u:Value)(Q:St->Hp->Prop),Inv X pins σ H s->RelV v u->t v σ H Q ->
  wpAny (model X.prog X.w) X.A (assign j X.env u) (fun _ s'=>∃g H',Inv X pins g H' s'/\Q g H') X.xe s
def PGs(X:Cx)(ts:List Expr)(t:TGs):Prop :=
 ∀(pins:List (Addr×Obj))(s:Shared)(σ:St)(H:Hp)(vs:List V)(g:List Value)(Q:St->Hp->Prop),Inv X pins σ H s->Vals vs g->t vs σ H Q ->
  wpAny (model X.prog X.w) X.A (assignInOrder ((assignEach ts X.env).map (·.2)) g) (fun _ s'=>∃j H',Inv X pins j H' s'/\Q j H') X.xe s
abbrev TSet:=V->V->V->Hp->(Hp->Prop)->Prop
def PSet(X:Cx)(t:TSet):Prop :=
 ∀(pins:List (Addr×Obj))(s:Shared)(σ:St)(H:Hp)(o i v:V)(j g u:Value)(Q:Hp->Prop),Inv X pins σ H s->RelV o j->RelV i g->RelV v u->t o i v H Q ->
  wpAny (model X.prog X.w) X.A (setItem j g u) (fun _ s'=>∃H',Inv X pins σ H' s'/\Q H') X.xe s
section
variable {X:Cx}{pos:Pos}
def mF(i:Nat):TG:=fun v σ H Q=>Q (σ.set i (some v)) H
def iD(j:X.N.Nodup)(hi:X.N[i]?=some x)(D:Loc X.env.scope x)(q:X.fn x=true\/X.env.scope.names.lookup x=some .local:=by first | exact .inl rfl | exact .inr rfl | assumption):PG X (.Name x pos) (mF i):=by
 intro pins s σ H v u Q I r h;exact wpAny_assign_Name (QE I j hi D r (fun s' g=>⟨_,H,g,h⟩) q)
def gNil:TGs:=fun vs σ H Q=>vs=[]/\Q σ H
def gE(t:TG)(u:TGs):TGs:=fun vs σ H Q=>∃v r,vs=v::r/\t v σ H fun g H'=>u r g H' Q
def J5:PGs X [] gNil:=by
 intro pins s σ H vs g Q I r h;obtain⟨rfl,h⟩:=h;cases r;exact assignInOrder_nil ⟨σ,H,I,h⟩
def rC(h1:PG X e t)(h2:PGs X es u)(hs:(assignEach (e::es) X.env).map (·.2)=assign e X.env::(assignEach es X.env).map (·.2):=by rfl):PGs X (e::es) (gE t u):=by
 intro pins s σ H vs G Q I r h;obtain⟨v,J,rfl,h⟩:=h
 cases r with
 |cons r rr =>
  exact hs▸assignInOrder_cons (thn (h1 pins s σ H _ _ _ I r h) fun _ q D=>bU D fun F H1 g j=> h2 pins q F H1 _ _ Q g rr j)
def gTup(K:Dm)(n:Nat)(t:TGs):TG:=fun v σ H Q=>∃a xs,v=.ref a/\SqT K H a xs/\xs.length=n/\t xs σ H Q
def W6{k}(q:X.calm=true)(h:PGs X es t)(F:(assignEach es X.env).length=n:=by rfl)(J:(assignEach es X.env).findIdx? (·.1)=none:=by rfl):PG X (.Tuple es k pos) (gTup X.K n t):=by
 intro pins s σ H v u Q I r g;obtain⟨a,xs,rfl,G,D,g⟩:=g;cases r;refine hZ (I.tuple G) fun U O M S=>assign_Tuple_tuple (I.ok.hd q) M (by simp[F,<- D,O.length]) J fun h' N=>?_;have j:=I.kept (t':=s.toks) fun b o e=>N b o (AY (AG e)) e;exact h pins _ σ H xs _ Q j (by lia) g
def gSub(to j:TE)(t:TSet):TG:=fun v σ H Q=>to σ H fun o H1=>j σ H1 fun i H2=>t o i v H2 fun g=>Q σ g
def pg_sub(M:PE X o to)(hi:PE X i ti)(hs:PSet X t)(ha:∀v,assign (.Subscript o i pos) X.env v=(do
   let g <- holding [v] (eval o X.env)
   let j <- holding [v,g] (eval i X.env)
   standAt pos
   holding [v,g,j] (setItem g j v)
   release [v,g,j] []):=by intro _;rfl):PG X (.Subscript o i pos) (gSub to ti t):=by
 intro pins s σ H v u Q I r h;exact AA (Av (thn (M pins s σ H _ I h) fun g Z q=>kZ q fun x H1 F U N=> AA (Av (thn (hi pins Z σ H1 _ F N) fun j ab q=>kZ q fun y H2 G Y O=> AA (wpAny_standAt (AA (Av (thn (hs pins ab σ H2 x y v g j u _ G U Y r O) fun _ ae q=>oQ q fun D J S=> wpAny_release ⟨σ,D,J,S⟩))))))))
def tAsg(te:TE)(g:TG):TS:=fun D σ H=>te σ H fun x H1=>g x σ H1 D.nx
def ps_asg(F:PE X e te)(G:PG X tg g)(hs:swapsWithSole [tg] e pos.line X.env=pure false:=by rfl)(J:swappedStores [tg] e X.env=pure none:=by rfl)(h1:(assignEach [tg] X.env).map (·.2)=[assign tg X.env]:=by rfl):PS X (.Assign [tg] e pos) (tAsg te g):=by
 intro pins s σ H D I h;refine wpAny_Assign_stores (thn (F pins s σ H _ I h) fun v O S=>kZ S fun x H1 j N M=> ?_) hs J;rw[h1];exact thn (G pins O σ H1 x v _ j N M) fun _ U q=>q
def ps_set(q:X.N.Nodup)(hi:X.N[i]?=some x)(J:Loc X.env.scope x)(F:PE X e te)(hs:swapsWith e (some (.Name x pos')) pos.line X.env=pure false:=by rfl)(G:X.fn x=true\/X.env.scope.names.lookup x=some .local:=by first | exact .inl rfl | exact .inr rfl | assumption):
  PS X (.Assign [.Name x pos'] e pos) (tAsg te (mF i)):=by
 intro pins s σ H D I h;exact wpAny_Assign_Name (thn (F pins s σ H _ I h) fun v S O=>kZ O fun y H1 g N M=> QE g q hi J N (fun U j=>⟨_,H1,j,M⟩) G) hs
def tWhile(c:TT)(tb:TS):TS:=fun D σ H=>∃W:Nat->St->Hp->Prop,(∃m,W m σ H)/\∀m σ H,W m σ H ->
 c σ H fun b H1=>if b=true then ∃N:St->Hp->Prop,(∀j H',N j H'->∃g,g < m/\W g j H')/\tb { D with nx:=N,ct:=N,bk:=D.nx } σ H1 else D.nx σ H1
def WX(Y:PassesOwn (model X.prog X.w) X.A X.env X.xe)(hc:PT X c tc)(hb:PSs X ae tb):PS X (.While c ae [] pos) (tWhile tc tb):=by
 intro pins s σ H aj ab h;obtain⟨W,⟨af,w0⟩,ai⟩:=h;refine wpAny_While (codeAny_whileLoop (fun n s'=>∃Z H',Inv X pins Z H' s'/\W n Z H') ?_ af ⟨σ,H,ab,w0⟩);rintro n ag ⟨F,H1,I1,w1⟩;refine Bs Y (thn (hc pins ag F H1 _ I1 (ai n F H1 w1)) fun b ah zz=>oQ zz fun H2 S q=> ?_)
 cases b with
 |true =>
  refine oQ q fun N U q=>Bs Y (thn (hb pins ah F H2 _ S q) fun f ak D=>?_)
  cases f with
  |next =>
   obtain⟨j,g,G,M⟩:=D;obtain⟨J,I,O⟩:=U j g M;exact⟨J,I,j,g,G,O⟩
  |cont =>
   obtain⟨j,g,G,M⟩:=D;obtain⟨J,I,O⟩:=U j g M;exact⟨J,I,j,g,G,O⟩
  |brk=>exact D
  |ret v=>exact D
 |false =>
  exact(Af AO)▸DU ⟨F,H2,S,q⟩
end
structure It where
 go:Nat->Hp->Prop
 yld:Nat->Hp->V->Hp->Prop
 stop:Nat->Hp->Prop
def X5(X:Cx)(pins:List (Addr×Obj))(H:Hp)(b:Addr):Prop :=
 H b=none/\b≠X.env.locals/\b∉X.fs/\(b∈X.ex\/X.s₀.heap.objs.size<=b)/\(∀x c,X.env.cells.lookup x=some c->c≠b)/\∀p∈X.pn++pins,p.1≠b
def Inv.fpOk{σ:St}{b:Addr}(I:Inv X pins σ H s)(g:s.heap.objs.size<=b)(j:H' b=none):X5 X pins H' b:=by
 refine⟨j,Ar (AR I.lt g),I.nofs g,.inr (AW I.sz g),fun x c e z=>?_,fun p D z=>?_⟩
 .obtain ⟨v,q⟩:=I.cell x c e
  exact absurd (AR q.lt (by rwa [z])) (BC _)
 .exact absurd (AR (AG (I.pin p D).1) (by rwa [z])) (BC _)
structure Jn(P:Program)(w:World)(K:Dm)(tg:Expr)(J:It)(fp:List Addr)(it:Addr)(tn:Nat->Heap->Prop):Prop where
 mem:it∈fp
 obj:∀i h,tn i h->∀b∈fp,∃o,h.get? b=some o/\∀v,o.data≠.cell v
 keep:∀i h h',tn i h->(∀b∈fp,∀o,h.get? b=some o->h'.get? b=some o)->tn i h'
 item:∀(X:Cx),X.prog=P->X.w=w->X.K=K->X.calm=true->∀(i:Nat)(pins:List (Addr×Obj))(s:Shared)(σ:St)(H:Hp)(E:Value->Shared->Prop),Inv X pins σ H s->(∀b∈fp,X5 X pins H b)->tn i s.heap->J.go i H ->
  wpAny (model P w) X.A (pyNext (.ref it)) (fun r s1=>∃u,r=some u /\
   wpAny (model P w) X.A (letOwnedTupleGo tg (.ref it) u) (fun _ s2=>∃x H',Inv X pins σ H' s2/\RelV x u/\J.yld i H x H'/\tn (i+1) s2.heap/\∀b∈fp,H' b=none) E s1) E s
 done:∀(X:Cx),X.prog=P->X.w=w->X.K=K->X.calm=true->∀(i:Nat)(pins:List (Addr×Obj))(s:Shared)(σ:St)(H:Hp)(E:Value->Shared->Prop),Inv X pins σ H s->(∀b∈fp,X5 X pins H b)->tn i s.heap->J.stop i H ->
  wpAny (model P w) X.A (pyNext (.ref it)) (fun r s1=>r=none/\Inv X pins σ H s1) E s
 self:∀(A:Around)(i:Nat)(s:Shared)(Q:Value->Shared->Prop)(E:Value->Shared->Prop),tn i s.heap->Q (.ref it) s->wpAny (model P w) A (pyIter (.ref it)) Q E s
abbrev TI:=St->Hp->(It->Hp->Prop)->Prop
def PIE(X:Cx)(pins:List (Addr×Obj))(σ:St)(tg:Expr)(R:It->Hp->Prop)(D:Value)(j:Shared):Prop :=
 ∃(it:Addr)(g:List Addr)(q:Nat->Heap->Prop)(J:It)(H':Hp),D=.ref it/\Inv X pins σ H' j/\Jn X.prog X.w X.K tg J g it q/\q 0 j.heap/\(∀b∈g,X5 X pins H' b)/\R J H'
def PI(X:Cx)(tg g:Expr)(q:TI):Prop :=
 ∀(pins:List (Addr×Obj))(s:Shared)(σ:St)(H:Hp)(R:It->Hp->Prop),Inv X pins σ H s->q σ H R ->
  wpAny (model X.prog X.w) X.A (eval g X.env) (fun v j=>wpAny (model X.prog X.w) X.A (pyIter v) (PIE X pins σ tg R) X.xe j) X.xe s
def Xt(D:s.heap.get? it=some o)(j:o.cls=.type n)(q:o.data=.fields vs)(F:["enumerate","zip","dict_itemiterator","dict_reverseitemiterator","odict_iterator","itertools.zip_longest","itertools.pairwise"].contains n=false)(g:Q () s):wpAny M A (letOwnedTupleGo tg (.ref it) u) Q E s:=by
 cases tg<;>first
  |exact AD g
  | (cases u<;>first
    |exact AD g
    | (refine AA (wpAny_load D ?_)
       rw[j,q];show wpAny M A (if (["enumerate","zip","dict_itemiterator","dict_reverseitemiterator","odict_iterator","itertools.zip_longest","itertools.pairwise"].contains n&&vs[0]?==some (rawInt _))=true then _ else _) Q E s;rw[Af (by lia)]
       exact AD g))
def Itl(K:Dm)(a:Addr):It :=
 ⟨fun i H=>∃xs x,SqL K H a xs/\xs[i]?=some x,fun i H x H'=>H'=H/\∀xs,SqL K H a xs->xs[i]?=some x,fun i H=>∃xs,SqL K H a xs/\xs.length<=i⟩
noncomputable def Itt(K:Dm)(a:Addr):It :=
 ⟨fun i H=>∃xs x,SqT K H a xs/\xs[i]?=some x,fun i H x H'=>H'=H/\∀xs,SqT K H a xs->xs[i]?=some x,fun i H=>∃xs,SqT K H a xs/\xs.length<=i⟩
def Itr(lo:Int)(n:Nat):It:=⟨fun i _=>i < n,fun i H x H'=>H'=H/\x=.int (lo+i),fun i _=>n<=i⟩
def KW{K}a it:Jn P w K tg (Itl K a) [it] it (fun i h=>h.IsListIter it a i) where
 mem:=by simp
 obj:=fun i h st b g=>by
  have e:b=it :=by grind
  subst e;exact hZ st fun o e c d=>⟨o,e,fun v z=>by rw[d] at z;cases z⟩
 keep:=fun i h h' st k=>st.at fun o e=>k it (by simp) o e
 item:=by
  intro X O U N Z i pins s σ H E I j st S;subst O U N;refine bU S fun xs x q hx=>hZ (I.list q) fun ae Y p hz=>oQ (Y.get hx) fun u hu ru=>lT (j it (by simp)) fun D F ab G J M=>?_;refine wpAny_pyNext_list_item st p.isList (by simpa using hu) fun h' st' sb=>?_;have I1:=I.turned (t':=s.toks) (fun b o g e=>(sb.2 b g).trans e) D F G J M;exact hZ (id st') fun o e c d=>⟨u,rfl,Xt e c d rfl ⟨x,H,I1,ru,⟨rfl,fun ys hy=>by rwa [I.list_inj hy q]⟩,st',fun b g=>(j b g).1⟩⟩
 done:=by
  intro X O U N Z i pins s σ H E I j st S;subst O U N;refine oQ S fun xs q hx=>hZ (I.list q) fun ae Y p hz=>lT (j it (by simp)) fun D F ab G J M=>?_;have hl:=Y.length;exact wpAny_pyNext_list_end (I.ok.hd Z) st p.isList (by simp;lia) fun h' eb=>⟨rfl,I.turned (t':=s.toks) (fun b o g e=>eb b o g e) D F G J M⟩
 self:=fun _ _ _ _ _ st h=>wpAny_pyIter_listiter st h
def X9{K}a it:Jn P w K tg (Itt K a) [it] it (fun i h=>h.IsTupleIter it a i) where
 mem:=by simp
 obj:=fun i h st b g=>by
  have e:b=it :=by grind
  subst e;exact hZ st fun o e c d=>⟨o,e,fun v z=>by rw[d] at z;cases z⟩
 keep:=fun i h h' st k=>st.at fun o e=>k it (by simp) o e
 item:=by
  intro X O U N Z i pins s σ H E I j st S;subst O U N;refine bU S fun xs x q hx=>hZ (I.tuple q) fun ae Y p hz=>oQ (Y.get hx) fun u hu ru=>lT (j it (by simp)) fun D F ab G J M=>?_;refine DJ st p (by simpa using hu) fun h' st' sb=>?_;have I1:=I.turned (t':=s.toks) (fun b o g e=>(sb.2 b g).trans e) D F G J M;exact hZ (id st') fun o e c d=>⟨u,rfl,Xt e c d rfl ⟨x,H,I1,ru,⟨rfl,fun ys hy=>by rwa [I.tuple_inj hy q]⟩,st',fun b g=>(j b g).1⟩⟩
 done:=by
  intro X O U N Z i pins s σ H E I j st S;subst O U N;refine oQ S fun xs q hx=>hZ (I.tuple q) fun ae Y p hz=>lT (j it (by simp)) fun D F ab G J M=>?_;have hl:=Y.length;exact DN (I.ok.hd Z) st p (by grind) fun h' eb=>⟨rfl,I.turned (t':=s.toks) (fun b o g e=>eb b o g e) D F G J M⟩
 self:=fun _ _ _ _ _ st h=>wpAny_pyIter_tupleiter st h
def Za{K}it lo n:Jn P w K tg (Itr lo n) [it] it (fun i h=>IsRangeIter h it (lo+i * 1) ( n - i ) 1) where
 mem:=by simp
 obj:=fun i h st b g=>by
  have e:b=it :=by grind
  subst e
  exact⟨_,st,fun v z=>by
   cases z⟩
 keep:=fun i h h' st k=>k it (by simp) _ st
 item:=by
  intro X S U O M i pins s σ H E I j st N;subst S U O;refine lT (j it (by simp)) fun q D ab F G J=>?_;have W:=Walks.range (prog:=X.prog) (w:=X.w) (I.ok.hd M) it lo 1 n;refine W.item i s _ _ N st fun v h' tk hv st' kk=>?_;obtain⟨t,rfl⟩:=hv;have Y:Inv X pins σ H { s with heap:=h',toks:=tk }:=I.turned (fun b o g e=>kk b o (by grind) e) q D F G J;refine⟨_,rfl,Xt st' rfl rfl rfl ⟨.int (lo+i),H,Y,⟨t,?_⟩,⟨rfl,rfl⟩,st',fun b g=>(j b g).1⟩⟩
  rw[Int.mul_one]
 done:=by
  intro X S U O M i pins s σ H E I j st N;refine lT (j it (by simp)) fun q D ab F G J=>?_;exact wpAny_pyNext_range_end (I.ok.hd M) st (by have:n<=i:=N;lia) fun h' Z=>⟨rfl,I.turned (t':=s.toks) (fun b o g e=>Z b o g e) q D F G J⟩
 self:=fun _ _ _ _ _ st h=>wpAny_pyIter_rangeiter st h
section
variable {X:Cx}{tg:Expr}
def iList(K:Dm)(tl:TE):TI:=fun σ H R=>tl σ H fun x H1=>∃a,x=.ref a/\(∃xs,SqL K H1 a xs)/\R (Itl K a) H1
def iTup(K:Dm)(tl:TE):TI:=fun σ H R=>tl σ H fun x H1=>∃a,x=.ref a/\(∃xs,SqT K H1 a xs)/\R (Itt K a) H1
def J4(D:PE X l tl):PI X tg l (iList X.K tl):=by
 intro pins s σ H R I h;refine thn (D pins s σ H _ I h) fun v j M=>kZ M fun x H1 g J G=> ?_;obtain⟨a,e,⟨xs,F⟩,q⟩:=G;subst e;cases J;refine hZ (g.list F) fun S U p O=>wpAny_pyIter_list p.isList ⟨j.heap.objs.size,[j.heap.objs.size],_,_,H1,rfl,g.kept (t':=j.toks) fun b o e=>AC _ e,KW a _,⟨_,AL _ rfl,rfl,rfl⟩,fun b N=>?_,q⟩;have e:b=j.heap.objs.size :=by grind
 subst e;exact g.fpOk (AH _) (g.hok.fresh (AH _))
def W5(D:PE X l tl):PI X tg l (iTup X.K tl):=by
 intro pins s σ H R I h;refine thn (D pins s σ H _ I h) fun v j M=>kZ M fun x H1 g J G=> ?_;obtain⟨a,e,⟨xs,F⟩,q⟩:=G;subst e;cases J;refine hZ (g.tuple F) fun S U p O=>CZ p ⟨j.heap.objs.size,[j.heap.objs.size],_,_,H1,rfl,g.kept (t':=j.toks) fun b o e=>AC _ e,X9 a _,⟨_,AL _ rfl,rfl,rfl⟩,fun b N=>?_,q⟩;have e:b=j.heap.objs.size :=by grind
 subst e;exact g.fpOk (AH _) (g.hok.fresh (AH _))
def WJ{σ:St}{lo}(I:Inv X pins σ H s)(h1 : -(2 ^ 62)<=lo)(h2:lo < 2 ^ 62)(G : -(2 ^ 62)<=hi)(J:hi < 2 ^ 62)(q:R (Itr lo (hi - lo).toNat) H):wpAny (model X.prog X.w) X.A (pyIter (.ref s.heap.objs.size)) (PIE X pins σ tg R) E { s with heap:=s.heap.push { cls:=.type "range",data:=.fields #[.int lo t,.int hi u,.int 1 v] },toks:=j }:=by
 apply wpAny_pyIter_range (IsRange.new ..) (small_one h1 h2 G J)
 have g:Inv X pins σ H { s with heap:=s.heap.push { cls:=.type "range",data:=.fields #[.int lo t,.int hi u,.int 1 v] },toks:=j }:=I.kept fun b o e=>AC _ e
 refine⟨(s.heap.push { cls:=.type "range",data:=.fields #[.int lo t,.int hi u,.int 1 v] }).objs.size,[(s.heap.push { cls:=.type "range",data:=.fields #[.int lo t,.int hi u,.int 1 v] }).objs.size],_,_,H,rfl,
  g.kept (t':=j) fun b o e=>AC _ e,Za _ lo (hi - lo).toNat,?_,fun b M=>?_,q⟩
 .have D:lo+((0:Nat):Int) * 1=lo:=by simp
  have F:(((hi - lo).toNat:Nat):Int) - ((0:Nat):Int)=Builtin.Range.rangeSize lo hi 1:=by rw[rangeSize_one];split<;>lia
  rw[D,F];exact AL _ rfl
 .have e:b=(s.heap.push { cls:=.type "range",data:=.fields #[.int lo t,.int hi u,.int 1 v] }).objs.size :=by grind
  subst e;exact g.fpOk (AH _) (g.hok.fresh (AH _))
def iRng1(ta:TA):TI:=fun σ H R=>ta σ H fun vs H1=>∃j:Int,vs=[.int j]/\-(2 ^ 62)<=j/\j < 2 ^ 62/\R (Itr 0 j.toNat) H1
def cO(G:Gl X "range")(J:X.mg "range" = none)(F:PA X [a] ta)(hs:starEach [a] X.env=[(false,eval a X.env)]:=by rfl):PI X tg (.Call (.Name "range" p) [a] [] pos) (iRng1 ta):=by
 intro pins s σ H R I h;refine Call_ (jI I G J boot_range (PyProof.Rows.callWith_type1 (thn (F pos pins s σ H _ I h) fun U S O=>kZ O fun vs H1 D N g=> ?_) hs rfl));obtain⟨j,rfl,g,M,q⟩:=g
 cases N with
 |cons r rr =>
  cases rr;obtain⟨t,rfl⟩:=r;exact call_range_1 (WJ D (by lia) (by lia) g M (by lia))
def tFor(F:TI)(g:TG)(tb:TS):TS:=fun D σ H=>F σ H fun J H1=>∃W:Nat->Nat->St->Hp->Prop,(∃m,W 0 m σ H1)/\∀i m σ H,W i m σ H ->
 (J.stop i H/\D.nx σ H)\/(J.go i H/\∃N:St->Hp->Prop,(∀q H',N q H'->∃j,j < m/\W (i+1) j q H')/\∀x H',J.yld i H x H'->g x σ H' fun G H2=>tb { D with nx:=N,ct:=N,bk:=D.nx } G H2)
def lC(g:List Addr)(h:Heap):List (Addr×Obj):=g.filterMap fun b=>(h.get? b).map fun o=>(b,o)
def wU(j:b∈g)(e:h.get? b=some o):(b,o)∈lC g h:=List.mem_filterMap.mpr ⟨b,j,by rw[e];rfl⟩
def Vq(F:p∈lC j h):p.1∈j/\h.get? p.1=some p.2:=by
 obtain⟨b,D,e⟩:=(List.mem_filterMap.mp F)
 cases q:h.get? b with
 |none=>rw[q] at e;cases e
 |some o =>
  rw[q] at e;have g:=Au e;subst g;exact⟨D,q⟩
def Inv.pinned{σ:St}(I:Inv X pins σ H s)(J:∀b∈j,X5 X pins H b)(M:∀b∈j,∃o,s.heap.get? b=some o/\∀v,o.data≠.cell v):Inv X (pins++lC j s.heap) σ H s :=
 I.pins_of fun p N=>(Ae.mp N).elim (fun z=>I.pin p (AV _ z)) fun z=>by
  obtain⟨q,e⟩:=Vq z;refine VJ (J p.1 q) fun D F G _=>oQ (M p.1 q) fun o g d=>?_;rw[e] at g;cases g
  exact⟨e,D,F,G,d⟩
def Inv.unpinned{σ:St}(I:Inv X (pins++j) σ H s):Inv X pins σ H s:=I.pins_of fun p g=>I.pin p (AV _ (Aw _ g))
def Zo(M:PassesOwn (model X.prog X.w) X.A X.env X.xe)(hc:X.calm=true)(hi:PI X tg ai wi)(hg:PG X tg g)(D:PSs X ar tb)(hs:∀x,foldedSetIterable ai X.env x=pure x:=by intro _;rfl):PS X (.For tg ai ar [] pos) (tFor wi g tb):=by
 intro pins s σ H a6 aq h;refine wpAny_For (thn (hi pins s σ H _ aq h) fun v a8 h1=>thn h1 fun a7 a9 h2=>?_) hs;obtain⟨it,I,tn,J,H2,e,I2,T,az,ag,W,⟨ax,w0⟩,a4⟩:=h2;subst e;have ae:∀{H':Hp},(∀b∈I,H' b=none)->∀b∈I,X5 X pins H' b:=fun hn b D=>⟨hn b D,(ag b D).2⟩;refine codeAny_forLoop_any (fun n s'=>∃i U H',Inv X pins U H' s'/\tn i s'.heap/\(∀b∈I,H' b=none)/\W i n U H') ?_ ax ⟨0,σ,H2,I2,az,fun b D=>(ag b D).1,w0⟩
 rintro n aj ⟨i,Y,Z,I3,ao,ah,w3⟩
 rcases a4 i n Y Z w3 with ⟨a3,qn⟩ | ⟨av,N,hN,a0⟩
 .refine Bs M (thn (T.done X rfl rfl rfl hc i pins aj Y Z X.xe I3 (ae ah) ao a3) fun r ay S=>uL S fun hr I4=> ?_)
  subst hr;exact DU ⟨Y,Z,I4,qn⟩
 .refine Bs M (thn (T.item X rfl rfl rfl hc i pins aj Y Z X.xe I3 (ae ah) ao av) fun r ay S=>oQ S fun u hr h4=> ?_)
  subst hr;refine Bs M (thn h4 fun _ ak zq=>za zq fun x H5 I5 r5 y5 ab au=>Bs M (thn (hg _ ak Y H5 x u _ (I5.pinned (ae au) (T.obj _ _ ab)) r5 (a0 x H5 y5)) fun _ s6 S=>bU S fun a5 H6 I6 q6=> Bs M (thn (D _ s6 a5 H6 _ I6 q6) fun f s7 G=>?_)))
  have af:∀{F:St}{j:Hp},Inv X (pins++lC I ak.heap) F j s7->N F j->∃m,m < n/\∃i U H',Inv X pins U H' s7/\tn i s7.heap/\(∀b∈I,H' b=none)/\W i m U H':=fun {F j}q O=>by
   obtain⟨m',aw,w7⟩:=hN F j O;exact⟨m',aw,i+1,F,j,q.unpinned,T.keep _ _ _ ab fun b D o e=>(q.pin (b,o) (AV _ (AV _ (wU D e)))).1,fun b D=>oQ (T.obj _ _ ab b D) fun o e d=>(q.pin (b,o) (AV _ (AV _ (wU D e)))).2.1,w7⟩
  cases f with
  |next=>exact bU G fun F j q O=>af q O
  |cont=>exact bU G fun F j q O=>af q O
  |brk=>exact bU G fun F j q G=>⟨F,j,q.unpinned,G⟩
  |ret v=>exact pT G fun x7 F j q r7 G=>⟨x7,F,j,q.unpinned,r7,G⟩
end
abbrev R2:=V->V->Hp->VK->Prop
def OpR(X:Cx)(f:Value->Value->Sem Value)(r:R2):Prop :=
 ∀(pins:List (Addr×Obj))(s:Shared)(σ:St)(H:Hp)(x y:V)(v u:Value)(Q:VK),Inv X pins σ H s->RelV x v->RelV y u->r x y H Q ->
  wpAny (model X.prog X.w) X.A (f v u) (EP X pins σ Q) X.xe s
def UnR(X:Cx)(f:Value->Sem Value)(r:V->Hp->VK->Prop):Prop :=
 ∀(pins:List (Addr×Obj))(s:Shared)(σ:St)(H:Hp)(x:V)(v:Value)(Q:VK),Inv X pins σ H s->RelV x v->r x H Q ->
  wpAny (model X.prog X.w) X.A (f v) (EP X pins σ Q) X.xe s
def CallR(X:Cx)(f:Value)(r:List V->Hp->VK->Prop):Prop :=
 ∀(pins:List (Addr×Obj))(s:Shared)(σ:St)(H:Hp)(xs:List V)(g:List Value)(Q:VK),Inv X pins σ H s->Vals xs g->r xs H Q ->
  wpAny (model X.prog X.w) X.A (call f g) (EP X pins σ Q) X.xe s
def TruR(X:Cx)(r:V->Hp->(Bool->Hp->Prop)->Prop):Prop :=
 ∀(pins:List (Addr×Obj))(s:Shared)(σ:St)(H:Hp)(x:V)(v:Value)(Q:Bool->Hp->Prop),Inv X pins σ H s->RelV x v->r x H Q ->
  wpAny (model X.prog X.w) X.A (truthy v) (TP X pins σ Q) X.xe s
def tOp(r:R2)(ta tb:TE):TE:=fun σ H Q=>ta σ H fun x H1=>tb σ H1 fun y H2=>r x y H2 Q
def tUn(r:V->Hp->VK->Prop)(ta:TE):TE:=fun σ H Q=>ta σ H fun x H1=>r x H1 Q
inductive II(C:Int->Int->Prop)(g:Int->Int->V)(x y:V)(H:Hp)(Q:VK):Prop
 |mk(i j:Int)(h:x=.int i)(h':y=.int j)(c:C i j)(q:Q (g i j) H)
def rI(C:Int->Int->Prop)(g:Int->Int->V):R2:=II C g
inductive II0(g:Int->Int->V)(x y:V)(H:Hp)(Q:VK):Prop
 |mk(i j:Int)(h:x=.int i)(h':y=.int j)(q:Q (g i j) H)
def rI0(g:Int->Int->V):R2:=II0 g
def rU(g:Int->V):V->Hp->VK->Prop:=fun x H Q=>∃i,x=.int i/\Q (g i) H
section
variable {X:Cx}{a b c:Expr}{ta tb tc:TE}{pos:Pos}
def binT(D:PE X a ta)(F:PE X b tb){σ:St}{R:V->V->Hp->Prop}(I:Inv X pins σ H s)(h:ta σ H fun x H1=>tb σ H1 fun y H2=>R x y H2){f:Value->Value->Sem Value}(G:∀v u g x y H2,Inv X pins σ H2 g->RelV x v->RelV y u->R x y H2->wpAny (model X.prog X.w) X.A (f v u) Q X.xe g):
  wpAny (model X.prog X.w) X.A (eval a X.env) (fun v U=>wpAny (model X.prog X.w) X.A (eval b X.env) (fun u Y=>wpAny (model X.prog X.w) X.A (f v u) Q X.xe Y) X.xe U) X.xe s :=thn (D pins s σ H _ I h) fun v S ⟨x,H1,j,N,J⟩=>thn (F pins S σ H1 _ j J) fun u g ⟨y,H2,q,O,M⟩=>G v u g x y H2 q N O M
def pe_op(F:OpR X (binaryOp op) r)(j:PE X a ta)(D:PE X b tb):PE X (.BinOp a op b pos) (tOp r ta tb):=by
 intro pins s σ H Q I h;exact wpAny_BinOp (binT j D I h fun v u M x y H2 g G J q=>F pins M σ H2 x y v u Q g G J q)
def pe_un(q:UnR X (unaryOp op) r)(j:PE X a ta):PE X (.UnaryOp op a pos) (tUn r ta):=by
 intro pins s σ H Q I h;exact UnaryOp_ (thn (j pins s σ H _ I h) fun v G J=>kZ J fun x H1 g F D=> q pins G σ H1 x v Q g F D)
def opI{g:Int->Int->Int}(F:∀(i j:Int)(t u:Tok)(s:Shared)(Q:Value->Shared->Prop)(E:Value->Shared->Prop),C i j->Q (.int (g i j) s.toks) { s with toks:=s.toks+1 }->wpAny (model X.prog X.w) X.A (f (.int i t) (.int j u)) Q E s):
  OpR X f (rI C fun i j=>.int (g i j)):=by
 intro pins s σ H x y v u Q I G J h;obtain⟨i,j,rfl,rfl,D,q⟩:=h;obtain⟨t,rfl⟩:=G;obtain⟨t',rfl⟩:=J;exact F i j t t' s _ _ D ⟨.int (g i j),H,I.tok _,⟨_,rfl⟩,q⟩
def opI0{g:Int->Int->Int}(D:∀(i j:Int)(t u:Tok)(s:Shared)(Q:Value->Shared->Prop)(E:Value->Shared->Prop),Q (.int (g i j) s.toks) { s with toks:=s.toks+1 }->wpAny (model X.prog X.w) X.A (f (.int i t) (.int j u)) Q E s):
  OpR X f (rI0 fun i j=>.int (g i j)):=by
 intro pins s σ H x y v u Q I F G h;obtain⟨i,j,rfl,rfl,q⟩:=h;obtain⟨t,rfl⟩:=F;obtain⟨t',rfl⟩:=G;exact D i j t t' s _ _ ⟨.int (g i j),H,I.tok _,⟨_,rfl⟩,q⟩
def opB0{g:Int->Int->Bool}(D:∀(i j:Int)(t u:Tok)(s:Shared)(Q:Value->Shared->Prop)(E:Value->Shared->Prop),Q (.bool (g i j)) s->wpAny (model X.prog X.w) X.A (f (.int i t) (.int j u)) Q E s):
  OpR X f (rI0 fun i j=>.bl (g i j)):=by
 intro pins s σ H x y v u Q I F G h;obtain⟨i,j,rfl,rfl,q⟩:=h;obtain⟨t,rfl⟩:=F;obtain⟨t',rfl⟩:=G;exact D i j t t' s _ _ ⟨.bl (g i j),H,I,rfl,q⟩
def CPow(i j:Int):Prop:=0<=j/\j<=1000000/\i.natAbs < 2 ^ 64
def CMul(i j:Int):Prop:=(-(2 ^ 64) < i/\i < 2 ^ 64)\/(-(2 ^ 64) < j/\j < 2 ^ 64)
theorem CMul.ok(h:CMul i j):IntMulOk i j:=by
 rcases h with ⟨h1,h2⟩ | ⟨h1,h2⟩
 .exact .of_left (intBits_le_64 h1 h2)
 .exact .of_right (intBits_le_64 h1 h2)
def op_add:OpR X (binaryOp .Add) (rI0 fun i j=>.int (i+j)):=opI0 fun _ _ _ _ _ _ _ q=>add_int q
def rK:OpR X (binaryOp .Sub) (rI0 fun i j=>.int (i - j)):=opI0 fun _ _ _ _ _ _ _ q=>sub_int q
def cP:OpR X (binaryOp .Mult) (rI CMul fun i j=>.int (i * j)):=opI fun _ _ _ _ _ _ _ g q=>mul_int q g.ok
def wB:OpR X (binaryOp .Mod) (rI (fun _ j=>0 < j) fun i j=>.int (i % j)):=opI fun i j _ _ _ _ _ g q=>mod_int' (by lia) (by grind)
def Zt:OpR X (binaryOp .Pow) (rI CPow fun i j=>.int (i ^ j.toNat)):=opI fun _ _ _ _ _ _ _ g q=>pow_int_small g.1 g.2.1 g.2.2 q
def unI{g:Int->Int}(j:∀(i:Int)(t:Tok)(s:Shared)(Q:Value->Shared->Prop)(E:Value->Shared->Prop),Q (.int (g i) s.toks) { s with toks:=s.toks+1 }->wpAny (model X.prog X.w) X.A (f (.int i t)) Q E s):
  UnR X f (rU fun i=>.int (g i)):=by
 intro pins s σ H x v Q I D h;obtain⟨i,rfl,q⟩:=h;obtain⟨t,rfl⟩:=D;exact j i t s _ _ ⟨.int (g i),H,I.tok _,⟨_,rfl⟩,q⟩
def aU:UnR X (unaryOp .USub) (rU fun i=>.int (-i)):=unI fun _ _ _ _ _ q=>neg_int q
end
noncomputable def scal:V->V->Bool
 |.non,.non=>true | .non,.int _=>true | .int _,.non=>true | .non,.bl _=>true | .bl _,.non=>true | .non,.str _=>true | .str _,.non=>true
 |.int _,.int _=>true | .bl _,.bl _=>true | .str _,.str _=>true | .byt _,.byt _=>true
 |.int _,.str _=>true | .str _,.int _=>true | .bl _,.str _=>true | .str _,.bl _=>true
 |_,_=>false
def rEq:R2:=fun x y H Q=>scal x y=true/\Q (.bl (decide (x=y))) H
def rNe:R2:=fun x y H Q=>scal x y=true/\Q (.bl (!decide (x=y))) H
def Kv: decide (V.int i=V.int j)=(i==j) :=by grind
def Gv: decide (V.bl i=V.bl j)=(i==j) :=by grind
def Ku: decide (V.str i=V.str j)=(i==j) :=by grind
def Kw: decide (V.byt i=V.byt j)=(i.toList==j.toList):=by
 rw[Cu];cases i;cases j
 simp
section
variable {X:Cx}{a b c:Expr}{ta tb tc:TE}{pos:Pos}
def eX{σ:St}(I:Inv X pins σ H s)(q:Q (.bl k) H)(e:k=g):EP X pins σ Q (.bool g) s:=by
 subst e;exact⟨.bl k,H,I,rfl,q⟩
def wX:OpR X (compareOp .Eq) rEq:=by
 intro pins s σ H x y v u Q I D g h;obtain⟨hs,q⟩:=h
 cases x with
 |non =>
  cases D
  cases y with
  |non=>cases g;exact PySem.EqNone.eq_none_none (eX I q (by simp))
  |bl j=>cases g;exact PySem.EqNone.eq_none_bool (eX I q (by simp))
  |int j=>obtain⟨t',rfl⟩:=g;exact PySem.EqNone.eq_none_int (eX I q (by simp))
  |str j=>obtain⟨t',rfl⟩:=g;exact PySem.EqNone.eq_none_str (eX I q (by simp))
  |_=>exact absurd hs AO
 |bl i =>
  cases D
  cases y with
  |non=>cases g;exact PySem.EqNone.eq_bool_none (eX I q (by simp))
  |bl j=>cases g;exact eq_bool (eX I q Gv)
  |str j=>obtain⟨t',rfl⟩:=g;exact PySem.EqMixed.eq_bool_str (eX I q (by simp))
  |_=>exact absurd hs AO
 |int i =>
  obtain⟨t,rfl⟩:=D
  cases y with
  |non=>cases g;exact PySem.EqNone.eq_int_none (eX I q (by simp))
  |int j=>obtain⟨t',rfl⟩:=g;exact eq_int (eX I q Kv)
  |str j=>obtain⟨t',rfl⟩:=g;exact PySem.EqMixed.eq_int_str (eX I q (by simp))
  |_=>exact absurd hs AO
 |str i =>
  obtain⟨t,rfl⟩:=D
  cases y with
  |non=>cases g;exact PySem.EqNone.eq_str_none (eX I q (by simp))
  |bl j=>cases g;exact PySem.EqMixed.eq_str_bool (eX I q (by simp))
  |int j=>obtain⟨t',rfl⟩:=g;exact PySem.EqMixed.eq_str_int (eX I q (by simp))
  |str j=>obtain⟨t',rfl⟩:=g;exact eq_str (eX I q Ku)
  |_=>exact absurd hs AO
 |byt i =>
  obtain⟨t,rfl⟩:=D
  cases y with
  |byt j=>obtain⟨t',rfl⟩:=g;exact PySem.W.eq_bytes (eX I q Kw)
  |_=>exact absurd hs AO
 |_=>cases y<;>exact absurd hs AO
def jL:OpR X (compareOp .NotEq) rNe:=by
 intro pins s σ H x y v u Q I D g h;obtain⟨hs,q⟩:=h
 cases x with
 |non =>
  cases D
  cases y with
  |non=>cases g;exact PySem.EqNone.ne_none_none (eX I q (by simp))
  |bl j=>cases g;exact PySem.EqNone.ne_none_bool (eX I q (by simp))
  |int j=>obtain⟨t',rfl⟩:=g;exact PySem.EqNone.ne_none_int (eX I q (by simp))
  |str j=>obtain⟨t',rfl⟩:=g;exact PySem.EqNone.ne_none_str (eX I q (by simp))
  |_=>exact absurd hs AO
 |bl i =>
  cases D
  cases y with
  |non=>cases g;exact PySem.EqNone.ne_bool_none (eX I q (by simp))
  |bl j=>cases g;exact ne_bool (eX I q (Bz not Gv))
  |str j=>obtain⟨t',rfl⟩:=g;exact PySem.EqMixed.ne_bool_str (eX I q (by simp))
  |_=>exact absurd hs AO
 |int i =>
  obtain⟨t,rfl⟩:=D
  cases y with
  |non=>cases g;exact PySem.EqNone.ne_int_none (eX I q (by simp))
  |int j=>obtain⟨t',rfl⟩:=g;exact ne_int (eX I q (Bz not Kv))
  |str j=>obtain⟨t',rfl⟩:=g;exact PySem.EqMixed.ne_int_str (eX I q (by simp))
  |_=>exact absurd hs AO
 |str i =>
  obtain⟨t,rfl⟩:=D
  cases y with
  |non=>cases g;exact PySem.EqNone.ne_str_none (eX I q (by simp))
  |bl j=>cases g;exact PySem.EqMixed.ne_str_bool (eX I q (by simp))
  |int j=>obtain⟨t',rfl⟩:=g;exact PySem.EqMixed.ne_str_int (eX I q (by simp))
  |str j=>obtain⟨t',rfl⟩:=g;exact ne_str (eX I q (Bz not Ku))
  |_=>exact absurd hs AO
 |byt i =>
  obtain⟨t,rfl⟩:=D
  cases y with
  |byt j=>obtain⟨t',rfl⟩:=g;exact PySem.W.ne_bytes (eX I q (Bz not Kw))
  |_=>exact absurd hs AO
 |_=>cases y<;>exact absurd hs AO
def yB:OpR X (compareOp .Lt) (rI0 fun i j=>.bl (decide (i < j))):=opB0 fun _ _ _ _ _ _ _ q=>lt_int q
def J8:OpR X (compareOp .LtE) (rI0 fun i j=>.bl (decide (i<=j))):=opB0 fun _ _ _ _ _ _ _ q=>le_int q
def gV:OpR X (compareOp .Gt) (rI0 fun i j=>.bl (decide (j < i))):=opB0 fun _ _ _ _ _ _ _ q=>gt_int q
def Vh:OpR X (compareOp .In) (fun x y H Q=>∃i j,x=.str i/\y=.str j/\Q (.bl (!(Builtin.Str.occurrences j i 0 j.length 1).isEmpty)) H):=by
 intro pins s σ H x y v u Q I g D h;obtain⟨i,j,rfl,rfl,q⟩:=h;obtain⟨t,rfl⟩:=g;obtain⟨t',rfl⟩:=D;exact in_str (eX I q rfl)
def aC:OpR X (compareOp .Is) (fun x y H Q=>y=.non/\Q (.bl (decide (x=.non))) H):=by
 intro pins s σ H x y v u Q I g j h;obtain⟨rfl,q⟩:=h;cases j;refine is_none_gen (eX I q ?_)
 cases x<;>first
  | (cases g;rfl)
  | (obtain⟨t,rfl⟩:=g;rfl)
def op_notN:OpR X (compareOp .IsNot) (fun x y H Q=>y=.non/\Q (.bl (!decide (x=.non))) H):=by
 intro pins s σ H x y v u Q I g j h;obtain⟨rfl,q⟩:=h;cases j;refine isnot_none_gen (eX I q ?_)
 cases x<;>first
  | (cases g;rfl)
  | (obtain⟨t,rfl⟩:=g;rfl)
def OpR.or(h:OpR X f r)(h':OpR X f D):OpR X f (fun x y H Q=>r x y H Q\/D x y H Q):=by
 intro pins s σ H x y v u Q I g j q
 rcases q with q | q
 .exact h pins s σ H x y v u Q I g j q
 .exact h' pins s σ H x y v u Q I g j q
def wV b(h:op≠.In:=by decide)(h2:op≠.NotIn:=by decide):behindInMarks op b=false:=by
 have g:(op==CmpOp.In)=false:=by cases op<;>first | rfl | exact absurd rfl h
 have j:(op==CmpOp.NotIn)=false:=by cases op<;>first | rfl | exact absurd rfl h2
 cases b<;>simp[behindInMarks,g,j]
def pe_cmpR(G:OpR X (compareOp op) r)(j:PE X a ta)(D:PE X b tb)(F:behindInMarks op b=false):PE X (.Compare a [op] [b] pos) (tOp r ta tb):=by
 intro pins s σ H Q I h;exact wpAny_Compare1 (binT j D I h fun v u N x y H2 g J M q=>G pins N σ H2 x y v u Q g J M q) F
def Wq(t:TE):TT:=fun σ H Q=>t σ H (IBl Q)
def pt_cmpR(N:OpR X (compareOp op) r)(G:PE X a ta)(J:PE X b tb)(M:behindInMarks op b=false):PT X (.Compare a [op] [b] pos) (Wq (tOp r ta tb)):=by
 intro pins s σ H Q I h
 refine wpAny_isTrue_Compare1 (thn (G pins s σ H _ I h) fun v ab g=>kZ g fun x H1 q Y O=> thn (J pins ab σ H1 _ q O) fun u ae g=>kZ g fun y H2 D Z S=>
  thn (N pins ae σ H2 x y v u _ D Y Z S) fun c af ⟨z,j,F,r3,k,e,U⟩=>?_) M
 subst e;cases r3;exact A6 ⟨j,F,U⟩
def Zc(r q:R2)(ta tb tc:TE):TE:=fun σ H Q=>ta σ H fun x H1=>tb σ H1 fun y H2=>r x y H2 fun z g=>∃k,z=.bl k /\
 (if k=true then tc σ g fun D j=>q y D j Q else Q (.bl false) g)
def Yd(ho:OpR X (compareOp op) r)(ab:OpR X (compareOp D) r')(S:PE X a ta)(U:PE X b tb)(Y:PE X c tc)(Z:lastMarks [op,D] [b,c]=false:=by with_unfolding_all rfl):PE X (.Compare a [op,D] [b,c] pos) (Zc r r' ta tb tc):=by
 intro pins s σ H Q I h
 refine Compare_chain (thn (S pins s σ H _ I h) fun v ae g=>kZ g fun x H1 M r1 q1=> chain_link (thn (U pins ae σ H1 _ M q1) fun u af g=>kZ g fun y H2 N G q2=>
  thn (ho pins af σ H2 x y v u _ N r1 G q2) fun d ag ⟨z,j,q,r3,k,e,F⟩=>?_)) Z
 subst e;cases r3
 apply A6
 cases k with
 |false=>exact ite_ff ⟨.bl false,j,q,rfl,F⟩
 |true=>exact ite_tt (chain_last (thn (Y pins ag σ j _ q F) fun w' ah g=>kZ g fun z' J O r4 q4=> ab pins ah σ J y z' u w' Q O G r4 q4))
def WV(ho:OpR X (compareOp op) r)(ae:OpR X (compareOp D) r')(Z:PE X a ta)(hb:PE X b tb)(hc:PE X c tc)(ab:lastMarks [op,D] [b,c]=false:=by with_unfolding_all rfl):PT X (.Compare a [op,D] [b,c] pos) (Wq (Zc r r' ta tb tc)):=by
 intro pins s σ H Q I h
 refine isTrue_chain (thn (Z pins s σ H _ I h) fun v af g=>kZ g fun x H1 N r1 q1=> test_link (thn (hb pins af σ H1 _ N q1) fun u ag g=>kZ g fun y H2 O G q2=>
  thn (ho pins ag σ H2 x y v u _ O r1 G q2) fun d ah ⟨z,j,q,r3,k,e,F⟩=>?_)) ab
 subst e;cases r3
 apply A6
 cases k with
 |false =>
  obtain⟨k',Y,q'⟩:=F;cases Y;exact ite_ff ⟨j,q,q'⟩
 |true =>
  refine ite_tt (test_last (thn (hc pins ah σ j _ q F) fun w' ai g=>kZ g fun z' J S r4 q4=> thn (ae pins ai σ J y z' u w' _ S G r4 q4) fun d' aj zq=>?_));obtain⟨z2,M,U,r5,k2,rfl,q5⟩:=zq;cases r5;exact A6 ⟨M,U,q5⟩
def TruV(K:Dm)(x:V)(H:Hp)(k:Bool):Prop :=
 match x with
 |.non=>k=false
 |.bl b=>k=b
 |.int i=>k=(i != 0)
 |.str y=>y.length<=sizeLine/\k=((y.length:Int) != 0)
 |.byt y=>y.size<=sizeLine/\k=((y.size:Int) != 0)
 |.ref p=>(∃xs,SqL K H p xs/\k = !xs.isEmpty)\/(∃xs,SqT K H p xs/\k = !xs.isEmpty)\/∃kvs,H p=some (.dK kvs)/\k = !kvs.isEmpty
 |_=>False
def ZV(r:KV kvs vs):(!vs.isEmpty) = !kvs.isEmpty:=by
 cases r<;>rfl
def fR(r:Vals xs g):(!g.toArray.isEmpty) = !xs.isEmpty:=by
 cases r<;>simp
def mB:sizeLine < 2 ^ 63:=by decide
def tru_ok:TruR X (fun x H Q=>∃k,TruV X.K x H k/\Q k H):=by
 intro pins s σ H x v Q I j h;obtain⟨k,e,q⟩:=h;have S:=mB;have hs:=By
 cases x with
 |non =>
  cases j;have g:=e;subst g;exact truthy_none ⟨H,I,q⟩
 |bl b =>
  cases j;have g:=e;subst g;exact A6 ⟨H,I,q⟩
 |int i =>
  obtain⟨t,rfl⟩:=j;have g:=e;subst g;exact PySem.P.truthy_int ⟨H,I,q⟩
 |str y =>
  obtain⟨t,rfl⟩:=j;obtain⟨N,rfl⟩:y.length<=sizeLine/\k=((y.length:Int) != 0):=e;exact PySem.P.truthy_str (by lia) ⟨H,I.tok _,q⟩
 |byt y =>
  obtain⟨t,rfl⟩:=j;obtain⟨N,rfl⟩:y.size<=sizeLine/\k=((y.size:Int) != 0):=e;exact PySem.W.truthy_bytes (by lia) ⟨H,I.tok _,q⟩
 |ref p =>
  cases j;have g:=e
  rcases g with ⟨xs,D,g⟩ | ⟨xs,D,g⟩ | ⟨kvs,D,g⟩
  .subst g
   obtain⟨O,r,F,J⟩:=I.list D;have G:=r.length;exact wpAny_truthy_list F.isList (by simp only[List.size_toArray];lia) ⟨H,I.tok _,by rwa [fR r]⟩
  .subst g
   obtain⟨O,r,F,J⟩:=I.tuple D;have G:=r.length;exact truthy_tuple F (by simp only[List.size_toArray];lia) ⟨H,I.tok _,by rwa [fR r]⟩
  .subst g
   obtain⟨J,M,vs,r,m⟩:kvs.length<=sizeLine/\(p==sysModules)=false/\∃vs,KV kvs vs/\s.heap.DictOf (uX X.prog X.w) p vs:=I.hok p _ D;have G:=Paired.length r;exact wpAny_truthy_dict M m (by lia) ⟨H,I.tok _,by rwa [ZV r]⟩
 |_=>exact e.elim
def WU(q:PE X a ta)(D:∀g,isTrue a X.env g=(do let v <- g;standAt a.pos;holding [v] (truthy v))):
  PT X a (fun σ H Q=>ta σ H fun x H'=>∃k,TruV X.K x H' k/\Q k H'):=by
 intro pins s σ H Q I h;exact isTrue_plain (thn (q pins s σ H _ I h) fun v J M=>kZ M fun x H1 j G F=> tru_ok pins J σ H1 x v Q j G F) (D _)
def Zu:OpR X (binaryOp .Add) (fun x y H Q=>∃i j,x=.str i/\y=.str j/\i.length+j.length<=sizeLine/\Q (.str (i++j)) H):=by
 intro pins s σ H x y v u Q I D F h;obtain⟨i,j,rfl,rfl,g,q⟩:=h;obtain⟨t,rfl⟩:=D;obtain⟨t',rfl⟩:=F;exact add_str (fun t' G=>⟨.str (i++j),H,I.tok _,⟨_,rfl⟩,q⟩) g
def fG(r:Vals [x] q):∃u,q=[u]/\RelV x u:=by
 cases r with
 |cons g j=>cases j;exact⟨_,rfl,g⟩
def Qv(r:Vals [x,y] G):∃u g,G=[u,g]/\RelV x u/\RelV y g:=by
 cases r with
 |cons j q =>
  cases q with
  |cons D F=>cases F;exact⟨_,_,rfl,j,D⟩
def GU:CallR X (.builtin "abs") (fun xs H Q=>∃i,xs=[.int i]/\Q (.int (if i < 0 then -i else i)) H):=by
 intro pins s σ H xs j Q I r h;obtain⟨i,rfl,q⟩:=h;obtain⟨u,rfl,t,rfl⟩:=fG r;exact call_abs_int fun u g=>⟨.int (if i < 0 then -i else i),H,I.tok _,⟨_,rfl⟩,q⟩
def VZ(D:X.calm=true):CallR X (.builtin "max") (fun xs H Q=>∃i j,xs=[.int i,.int j]/\Q (.int (if j > i then j else i)) H):=by
 intro pins s σ H xs G Q I r h;obtain⟨i,j,rfl,q⟩:=h;obtain⟨u,J,rfl,⟨t,rfl⟩,⟨t',rfl⟩⟩:=Qv r;refine max_two_ints (I.ok.hd D) fun h' F k=>⟨_,H,I.kept k,?_,q⟩
 by_cases g:j > i
 .rw [Ah g,Ah g];exact⟨_,rfl⟩
 .rw [Af g,Af g];exact⟨_,rfl⟩
def aP(D:X.calm=true):CallR X (.builtin "min") (fun xs H Q=>∃i j,xs=[.int i,.int j]/\Q (.int (if j < i then j else i)) H):=by
 intro pins s σ H xs G Q I r h;obtain⟨i,j,rfl,q⟩:=h;obtain⟨u,J,rfl,⟨t,rfl⟩,⟨t',rfl⟩⟩:=Qv r;refine min_two_ints (I.ok.hd D) fun h' F k=>⟨_,H,I.kept k,?_,q⟩
 by_cases g:j < i
 .rw [Ah g,Ah g];exact⟨_,rfl⟩
 .rw [Af g,Af g];exact⟨_,rfl⟩
def gY:CallR X (.type "int") (fun xs H Q=>(∃i,xs=[.int i]/\Q (.int i) H)\/∃k,xs=[.bl k]/\Q (.int (if k then 1 else 0)) H):=by
 intro pins s σ H xs g Q I r h
 rcases h with ⟨i,rfl,q⟩ | ⟨k,rfl,q⟩
 .obtain ⟨u,rfl,t,rfl⟩:=fG r
  exact call_int_int ⟨.int i,H,I,⟨_,rfl⟩,q⟩
 .obtain ⟨u,rfl,rfl⟩:=fG r
  exact call_int_bool ⟨.int (if k then 1 else 0),H,I.tok _,⟨_,rfl⟩,q⟩
def aI:CallR X (.type "str") (fun xs H Q=>∃i,xs=[.int i]/\i.natAbs.log2 < 1920/\Q (.str (toString i)) H):=by
 intro pins s σ H xs j Q I r h;obtain⟨i,rfl,g,q⟩:=h;obtain⟨u,rfl,t,rfl⟩:=fG r;exact PySem.P.str_of_int g ⟨.str _,H,I.tok _,⟨_,rfl⟩,q⟩
end
structure ObjM(h:Heap)(x dx C:Addr)(mA:Str->Option Value):Prop where
 obj:h.get? x=some (PySem.W.instObj C dx)
 ns:h.Ns1 dx mA
 ne:dx≠x
def Vv{h:Heap}(n:h.Ns1 dx mA):∃g,h.get? dx=some g/\∀name,PySem.W.lookIn name g=some (mA name):=by
 refine Ms n fun o es ep J D F _ I=>⟨o,J,fun name=>?_⟩;have e:=I name;unfold nsFind findBy at e;rw[<- Array.find?_toList] at e
 delta PySem.W.lookIn
 rw[D];dsimp only
 split
 .grind
 .rename_i q
  rw[q] at e
  have a:es.toList.any (·.refKey)=false:=by
   rw[List.any_eq_false];intro y M;obtain⟨z,t,G⟩:=(F y (Array.mem_toList_iff.mp M))
   simp[DictEntry.refKey,G]
  have j :=a▸AO;exact(Af j)▸Bz some e
def ObjM.look(I:ObjM h x dx C mA):∃g,PySem.W.InstAt h x (PySem.W.instObj C dx) C (some g)/\∀name,PySem.W.lookIn name g=some (mA name) :=
 let ⟨g,q,j⟩:=Vv I.ns
 ⟨g,⟨I.obj,rfl,rfl,q⟩,j⟩
section
variable {prog:Program}{w:World}{A:Around}{E:Value->Shared->Prop}{s:Shared}{K:Dm}{x dx C f:Addr}{mA:Str->Option Value}{name:Str}{v:Value}
def get_map(X:K.In s.heap)(I:ObjM s.heap x dx C mA)(j:PySem.W.plainGet K C name=true)(q:PySem.W.hasDictIn K C=true)(g:PySem.W.findIn K (.ref C) name=some none)(M:mA name=some v)(D:PySem.W.handedIn v=true)(h:Q v { s with toks:=s.toks+1 }):
  wpAny (model prog w) A (getAttr (.ref x) name F) Q E s :=oQ I.look fun N J G=>PySem.W.get_value X J (PySem.W.plainGet_of j).1 (PySem.W.findObj_own q g rfl (by grind)) D h
def Y1(X:K.In s.heap)(I:ObjM s.heap x dx C mA)(g:PySem.W.plainGet K C name=true)(j:PySem.W.findIn K (.ref C) name=some (some (.ref f)))(D:PySem.W.isFn K (.ref f)=true)(F:mA name=none)(h:Q (.ref f,[.ref x]) s):
  wpAny (model prog w) A (getMethod (.ref x) name M) Q E s :=oQ I.look fun G J q=>PySem.W.method_fn X J (PySem.W.plainGet_of g).1 (PySem.W.plainGet_of g).2 j (beq_iff_eq.mp D) (by show(PySem.W.lookIn name G).map (·.isSome)=some false;rw[q,F];rfl) h
def set_map(X:K.In s.heap)(I:ObjM s.heap x dx C mA)(hs:PySem.W.findIn K (.ref C) "__setattr__" = some (some (.builtin "object.__setattr__")))(O:PySem.W.plainOver K C=true)(S:PySem.W.takerIn K C name=some none)(M:PySem.W.hasDictIn K C=true)(U:PySem.Within mA ns)(hsz:ns.length<=sizeLine)(h:∀h',ObjM h' x dx C (fun y=>if y=name then some v else mA y)->Heap.SameBut dx s.heap h'->Q () { s with heap:=h',toks:=s.toks+2 }):
  wpAny (model prog w) A (setAttr (.ref x) name v) Q E s:=by
 refine oQ I.look fun od J hl=>PySem.W.set_plain X J hs (PySem.W.osa_open X J O S fun b=>oQ (PySem.W.any_some M) fun Y q F=>AA (AD (AA (AA (wpAny_loadPart I.obj (AA (PySem.W.Looks.here (PySem.W.looks_clsIn X q) ?_)))))));rw[F];exact AD (AA (AD (AA (wpAny_nsSet1 I.ns fun h' g j=>pT (g.count (PySem.Within.cons name v U)) fun oD ab Z N G D=>AA (wpAny_lookBehind N (G▸pastItsLine_dict (AW D (by grind))) (AD (h _ ⟨(j.2 _ (Ne.symm I.ne)).trans I.obj,g,I.ne⟩ j)))))))
def YD(X:K.In s.heap)(D:PySem.W.makesIn K C=true)(hi:PySem.W.findIn K (.ref C) "__init__" = some (some (.ref f)))(q:PySem.W.typeIn K (.ref f)=some (.type "function"))(h:codeAny (model prog w) (A.under (.builtin "type.__call__" ⟨.ref C::vs,j⟩)) (.call (.ref f) ⟨.ref (s.heap.objs.size+1)::vs,j⟩) (PySem.W.InitBack (s.heap.objs.size+1) R)
   { s with heap:=(s.heap.push PySem.W.emptyDict).push (PySem.W.instObj C s.heap.objs.size) }):
  codeAny (model prog w) A (.call (.ref C) ⟨vs,j⟩) R s:=by
 obtain⟨G,g,d,t,I⟩:=s;exact PySem.W.make_core (PySem.W.makes_of X D) (PySem.W.looks_findIn X hi) (fun F=>PySem.W.bind_fn X F q) (.inl rfl) h
end
noncomputable def sU(f:Str)(v:V):List (Str×V)->List (Str×V)
 |[]=>[(f,v)]
 | (g,x)::r=>if g=f then (g,v)::r else (g,x)::sU f v r
theorem cH f g v:∀fs,(sU f v fs).lookup g=if g=f then some v else fs.lookup g
 |[]=>by
  show List.lookup g [(f,v)]=_
  by_cases h:g=f
  .grind
  .grind
 | (k,x)::r=>by
  rw[show sU f v ((k,x)::r)=(if k=f then (k,v)::r else (k,x)::sU f v r) from rfl]
  by_cases q:k=f
  .grind
  .rw [Af q]
   by_cases h:g=k
   .grind
   .have j:=beq_eq_false_iff_ne.mpr h
    simp only[List.lookup,j]
    exact(cH f g v r)
theorem lP f v:∀fs,f∈(sU f v fs).map (·.1)/\∀g,g∈fs.map (·.1)->g∈(sU f v fs).map (·.1)
 |[]=>⟨by simp[sU],fun g h=>by simp at h⟩
 | (k,x)::r=>by
  obtain⟨q,D⟩:=lP f v r;rw[show sU f v ((k,x)::r)=(if k=f then (k,v)::r else (k,x)::sU f v r) from rfl]
  by_cases j:k=f
  .grind
  .grind
theorem rH f v:∀fs,(sU f v fs).length<=fs.length+1
 |[]=>by simp[sU]
 | (k,x)::r=>by
  have j:=rH f v r;rw[show sU f v ((k,x)::r)=(if k=f then (k,v)::r else (k,x)::sU f v r) from rfl]
  by_cases g:k=f
  .grind
  .grind
def RelO.some_of(r:RelO (some v) o):∃u,o=some u/\RelV v u:=by
 cases o with
 |none=>exact r.elim
 |some u=>exact⟨u,rfl,r⟩
def RelO.none_of(r:RelO none o):o=none:=by
 cases o with
 |none=>rfl
 |some u=>exact r.elim
def VI(r:RelV v u):PySem.W.handedIn u=true:=by
 cases v with
 |non=>cases r;rfl
 |bl b=>cases r;rfl
 |int i=>obtain⟨t,rfl⟩:=r;rfl
 |str x=>obtain⟨t,rfl⟩:=r;rfl
 |byt b=>obtain⟨t,rfl⟩:=r;rfl
 |flt b=>obtain⟨t,rfl⟩:=r;rfl
 |ref a=>cases r;rfl
 |ty n=>cases r;rfl
section
variable {P:Program}{w:World}{H H':Hp}{h h':Heap}{a C dx:Addr}{fs fs':List (Str×V)}
def mN(g:HOk P w H h)(e:H a=some (.ins C dx fs)):∃mA,ObjM h a dx C mA/\(∀f,RelO (fs.lookup f) (mA f))/\PySem.Within mA (fs.map (·.1))/\fs.length<=1000/\H dx=some (.own a):=by
 obtain⟨d,z,j,D,mA,n,r,q⟩:=(g a _ e);exact⟨mA,⟨D,n,j⟩,r,q,z,d⟩
end
structure Cls(K:Dm)(C:Addr):Prop where
 pg:PySem.W.plainGet K C Str.empty=true
 hd:PySem.W.hasDictIn K C=true
 po:PySem.W.plainOver K C=true
 sa:PySem.W.findIn K (.ref C) "__setattr__" = some (some (.builtin "object.__setattr__"))
def Cls.get{K}(c:Cls K C)f:PySem.W.plainGet K C f=true:=c.pg
def NoAttr(K:Dm)(C:Addr)(f:Str):Prop:=PySem.W.findIn K (.ref C) f=some none
def NoAttr.taker{K}(n:NoAttr K C f):PySem.W.takerIn K C f=some none:=by
 delta PySem.W.takerIn
 rw[show PySem.W.findIn K (.ref C) f=some none from n]
 rfl
structure G8(K:Dm)(C:Addr)(m:Str)(f:Addr):Prop where
 at_:PySem.W.findIn K (.ref C) m=some (some (.ref f))
 fn:PySem.W.isFn K (.ref f)=true
 kp:PySem.W.keepIn K (.ref f)=true
section
variable {X:Cx}{pins:List (Addr×Obj)}{σ:St}{H:Hp}{s:Shared}{a C dx:Addr}{fs:List (Str×V)}{f:Str}{v:V}{A:Around}{E:Value->Shared->Prop}
def ZZ(I:Inv X pins σ H s)(e:H a=some (.ins C dx fs))(c:Cls X.K C)(n:NoAttr X.K C f)(l:fs.lookup f=some v)(h:∀u s',Inv X pins σ H s'->RelV v u->Q u s'):wpAny (model X.prog X.w) A (getAttr (.ref a) f b) Q E s :=XA (mN I.hok e) fun mA O r _ _ _=>oQ (RelO.some_of (l▸r f)) fun u j g=>get_map I.kIn O (c.get f) c.hd n j (VI g) (h u _ (I.tok _) g)
def pR(I:Inv X pins σ H s)(e:H a=some (.ins C dx fs))(c:Cls X.K C)(k:G8 X.K C m g)(l:fs.lookup m=none)(h:Q (.ref g,[.ref a]) s):wpAny (model X.prog X.w) A (getMethod (.ref a) m j) Q E s :=XA (mN I.hok e) fun mA O r _ _ _=>Y1 I.kIn O (c.get m) k.at_ k.fn (RelO.none_of (l▸r m)) h
def Zi(I:Inv X pins σ H s)(e:H a=some (.ins C dx fs))(c:Cls X.K C)(n:NoAttr X.K C f)(Y:fs.length < 1000)(Z:RelV y u)(h:∀s',Inv X pins σ (upd H a (.ins C dx (sU f y fs))) s'->Q () s'):wpAny (model X.prog X.w) A (setAttr (.ref a) f u) Q E s:=by
 refine XA (mN I.hok e) fun mA O r F _ D=>?_;have S:(fs.map (·.1)).length<=sizeLine:=by rw[AB,By];lia
 refine set_map I.kIn O c.sa c.po n.taker c.hd F S fun h' j U=>h _ ?_;have M:∃o,h'.get? dx=some o:=let ⟨o,_,_,G,_⟩:=j.ns;⟨o,G⟩
 refine I.write (e▸True.intro) (.inr D) (fun b q J z=>(U.2 b J).trans z) M ⟨by rw[fQ O.ne];exact D,?_,O.ne,j.obj,_,j.ns,fun g=>?_,fun g N=>?_⟩
 .have:=rH f y fs;lia
 .rw [cH]
  by_cases q:g=f
  .rwa [Ah q,Ah q]
  .grind
 .by_cases q:g=f
  .exact q▸(lP f y fs).1
  .refine (lP f y fs).2 g (F g fun z=>N ?_)
   show(if g=f then some u else mA g)=none
   rwa [Af q]
def Inv.made(I:Inv X pins σ H s):Inv X pins σ (upd (upd H s.heap.objs.size (.own (s.heap.objs.size+1))) (s.heap.objs.size+1) (.ins C s.heap.objs.size []))
  { s with heap:=(s.heap.push PySem.W.emptyDict).push (PySem.W.instObj C s.heap.objs.size) }:=by
 have g:(s.heap.push PySem.W.emptyDict).get? s.heap.objs.size=some PySem.W.emptyDict:=AL s.heap rfl
 have F:((s.heap.push PySem.W.emptyDict).push (PySem.W.instObj C s.heap.objs.size)).get? (s.heap.objs.size+1)=some (PySem.W.instObj C s.heap.objs.size):=by
  have:=AL (s.heap.push PySem.W.emptyDict) (o:=PySem.W.instObj C s.heap.objs.size) rfl
  rwa [Bo] at this
 have D:=I.laid (o:=.own (s.heap.objs.size+1)) (h':=s.heap.push PySem.W.emptyDict) (t':=s.toks) (fun b u q=>AC _ q) (AH _) ⟨_,g⟩;refine D.laid (t':=s.toks) (fun b u q=>AC _ q) (B8 (Bo _ _)) ?_;have j:s.heap.objs.size≠s.heap.objs.size+1:=AY (Bm _);refine⟨by rw[fQ j,mQ],AX _,j,F,fun _=>none,(Heap.Ns1.of_empty (⟨PySem.W.emptyDict,#[],_,g,rfl,(fun e G=>absurd G (by simp)),fun _=>rfl⟩)).at fun o q=>AC _ q,fun _=>True.intro,fun y J=>absurd rfl J⟩
def attr_of(j:attributeBase e f g (eval e g)=eval e g)(h:wpAny (model prog w) A (eval e g) (fun o q=>wpAny (model prog w) A (getAttr o f true) Q E q) E s):wpAny (model prog w) A (eval (.Attribute e f pos) g) Q E s :=
 Attribute_any_ h (by rw[arm_eval_Attribute,j])
end
def tFld(K:Dm)(ta:TE)(f:Str):TE:=fun σ H Q=>ta σ H fun x H1=>∃a C dx fs v,x=.ref a/\H1 a=some (.ins C dx fs)/\Cls K C/\NoAttr K C f/\fs.lookup f=some v/\Q v H1
def sFld(K:Dm)(ta tv:TE)(f:Str):TS:=fun D σ H=>tv σ H fun y H1=>ta σ H1 fun x H2=>∃a C dx fs,x=.ref a/\H2 a=some (.ins C dx fs)/\Cls K C/\NoAttr K C f/\fs.length < 1000 /\
 D.nx σ (upd H2 a (.ins C dx (sU f y fs)))
section
variable {X:Cx}{o e value:Expr}{f:Str}{pos pos' tpos:Pos}{ta tv:TE}
def pe_fld(G:PE X e ta)(F:attributeBase e f X.env (eval e X.env)=eval e X.env):PE X (.Attribute e f pos) (tFld X.K ta f):=by
 intro pins s σ H Q I h;refine attr_of F (thn (G pins s σ H _ I h) fun u O N=>?_);obtain⟨x,H1,g,M,a,C,dx,fs,v,rfl,D,c,n,l,q⟩:=N;obtain rfl:u=Value.ref a:=M;exact ZZ g D c n l fun U S j J=>⟨v,H1,j,J,q⟩
def ps_fld(G:PE X o ta)(J:PE X value tv)(hs:swapsWith value (some (.Attribute o f pos')) pos.line X.env=pure false):PS X (.Assign [.Attribute o f pos'] value pos) (sFld X.K ta tv f):=by
 intro pins s σ H ab I h;refine plainObj_wpAny_Assign_Attribute (thn (J pins s σ H _ I h) fun u U Z=>kZ Z fun y H1 g S q=> thn (G pins U σ H1 _ g q) fun M ae Y=>?_) hs;obtain⟨x,H2,j,O,a,C,dx,fs,rfl,F,c,n,l,N⟩:=Y;obtain rfl:M=Value.ref a:=O;exact Zi j F c n l S fun af D=>⟨σ,_,D,N⟩
end
section
variable {X:Cx}{pins:List (Addr×Obj)}{σ:St}{H:Hp}{s:Shared}{A:Around}{E:Value->Shared->Prop}{Q:Value->Shared->Prop}{c:Value}{b:Bool}
inductive vH(K:Dm)(H:Hp):V->Value->Prop where
 |non:vH K H .non (.type "NoneType")
 |bl (x:Bool):vH K H (.bl x) (.type "bool")
 |int (i:Int):vH K H (.int i) (.type "int")
 |str (x:Str):vH K H (.str x) (.type "str")
 |flt (x:UInt64):vH K H (.flt x) (.type "float")
 |lst {a:Addr} {xs:List V} (e:H a=some (.lst xs)):vH K H (.ref a) (.type "list")
 |frz {a:Addr} {o:Obj} {xs:List V} (e:H a=some (.frz o (.lst xs))):vH K H (.ref a) (.type "list")
 |tup {a:Addr} {xs:List V} (e:H a=some (.tup xs)):vH K H (.ref a) (.type "tuple")
 |dK {a:Addr} {kvs:List (Key×V)} (e:H a=some (.dK kvs)):vH K H (.ref a) (.type "dict")
 |dT {a:Addr} {kvs:List (List Key×V)} (e:H a=some (.dT kvs)):vH K H (.ref a) (.type "dict")
 |ins {a C dx:Addr} {fs:List (Str×V)} (e:H a=some (.ins C dx fs)) (cl:Cls K C) (ha:PySem.W.findIn K (.ref C) "__class__" = some (some (.builtin "object.__class__")))
   (hn:PySem.W.specialIn K (.builtin "object.__class__") "__get__" = some (some (.builtin "getset_descriptor.__get__"))) (htk:PySem.W.takesIn K (.builtin "object.__class__")=some true)
   (hm:PySem.W.mroIn K C (.type "object")=some true):vH K H (.ref a) (.ref C)
def VC(I:Inv X pins σ H s)(j:RelV x u)(ty:vH X.K H x t)(e:PySem.W.kitOne X.K t c=some b)(h:∀N,Q (.bool b) { s with toks:=N }):
  wpAny (model X.prog X.w) A (call (.builtin "isinstance") [u,c]) Q E s:=by
 cases ty with
 |non=>cases j;exact BL PySem.W.kitx_none I.kIn True.intro e (fun z=>nomatch z) h
 |bl y=>cases j;exact BL PySem.W.kitx_bool I.kIn True.intro e (fun z=>nomatch z) h
 |int i=>obtain⟨t,rfl⟩:=j;exact BL PySem.W.kitx_int I.kIn True.intro e (fun z=>nomatch z) h
 |str y=>obtain⟨t,rfl⟩:=j;exact BL PySem.W.kitx_str I.kIn True.intro e (fun z=>nomatch z) h
 |flt y=>obtain⟨t,rfl⟩:=j;exact BL PySem.W.kitx_float I.kIn True.intro e (fun z=>nomatch z) h
 |@lst a xs g =>
  cases j;obtain⟨_,_,n,_,h1⟩:=(I.hok a _ g);exact BL PySem.W.kitx_list I.kIn ⟨_,h1,rfl⟩ e (fun z=>nomatch z) h
 |@frz a S xs g =>
  cases j;obtain⟨_,_,_,n,_,h1⟩:=(I.hok a _ g);exact BL PySem.W.kitx_list I.kIn ⟨_,h1,rfl⟩ e (fun z=>nomatch z) h
 |@tup a xs g =>
  cases j;obtain⟨_,_,_,p⟩:=(I.hok a _ g);exact hZ p fun o h1 h2 _=>BL PySem.W.kitx_tuple I.kIn ⟨o,h1,h2⟩ e (fun z=>nomatch z) h
 |@dK a kvs g =>
  cases j;obtain⟨_,_,vs,_,p⟩:=(I.hok a _ g);exact pT p fun o es ep h1 h2 _=>BL PySem.W.kitx_dict I.kIn ⟨o,h1,h2.1⟩ e (fun z=>nomatch z) h
 |@dT a kvs g =>
  cases j;obtain⟨_,_,xs,_,o,es,ep,h1,h2,_⟩:=(I.hok a _ g);exact BL PySem.W.kitx_dict I.kIn ⟨o,h1,h2.1⟩ e (fun z=>nomatch z) h
 |@ins a C dx fs g q D G M F =>
  cases j;obtain⟨mA,O,_⟩:=(mN I.hok g);obtain⟨U,J,_⟩:=O.look;exact BL (PySem.W.kitx_own (q.get _) q.hd D G M F) I.kIn J e (fun z=>nomatch z) h
end
structure Room(k:Nat)(A:Around):Prop where
 hd:A.handled=none
 dp:A.depth+3 * k+5 < recursionLimit
 un:A.units+16 * k+200 < cLine
def Room.mono(r:Room k A)(h:j<=k):Room j A:=⟨r.hd,by have:=r.dp;lia,by have:=r.un;lia⟩
def Room.deeper(r:Room (k+1) A)g:Room k (A.deeper g) :=
 ⟨r.hd,by have:=r.dp;show A.depth+1+3 * k+5 < _;lia,by have:=r.un;show A.units+3+16 * k+200 < _;lia⟩
def ZF{A:Around}: (A.under (.builtin "type.__call__" ⟨.ref C::j,g⟩)).depth=A.depth+1:=by
 first | rfl | simp[ Code.weight]
def ZE{A:Around}: (A.under (.builtin "type.__call__" ⟨.ref C::j,g⟩)).units=A.units+1:=by
 first | rfl | simp[ Code.cUnits]
def Room.make(r:Room (k+1) A)C j g:Room k (A.under (.builtin "type.__call__" ⟨.ref C::j,g⟩)) :=
 ⟨r.hd,by have:=r.dp;rw[ZF];lia,by have:=r.un;rw[ZE];lia⟩
def Room.depth(r:Room k A):A.depth < recursionLimit:=by have:=r.dp;lia
def Room.units(r:Room k A):A.units+64 < cLine:=by have:=r.un;lia
def tNil:TA:=fun _ H Q=>Q [] H
def Wr(ta:TE)(g:TA):TA:=fun σ H Q=>ta σ H fun x H1=>g σ H1 fun xs H2=>Q (x::xs) H2
section
variable {X:Cx}{e:Expr}{es:List Expr}{te:TE}{t:TA}{pos:Pos}
theorem eC:PA X [] tNil:=fun _ _ _ _ H Q I h=>Calls.spliced_nil ⟨[],H,I,.nil,h⟩
def pa_cons(D:PE X e te)(F:PA X es t)(hs:starEach (e::es) X.env=(false,eval e X.env)::starEach es X.env:=by rfl):PA X (e::es) (Wr te t):=by
 intro pos pins s σ H Q I h;exact hs▸Calls.spliced_cons (thn (D pins s σ H _ I h) fun u O g=>kZ g fun x H1 j M G=> thn (F pos pins O σ H1 _ j G) fun U S g=>kZ g fun xs H2 q N J=> ⟨x::xs,H2,q,.cons M N,J⟩)
inductive Sv(o:List V->HO)(Q:VK)(xs:List V)(H:Hp):Prop
 |mk(h:xs.length<=sizeLine)(q:∀p,H p=none->Q (.ref p) (upd H p (o xs)))
def tTup(t:TA):TE:=fun σ H Q=>t σ H (Sv .tup Q)
def tLst(t:TA):TE:=fun σ H Q=>t σ H (Sv .lst Q)
def pe_tup{G}(h:PA X es t):PE X (.Tuple es G pos) (tTup t):=by
 intro pins s σ H Q I D;refine wpAny_Tuple_spliced (thn (h pos pins s σ H _ I D) fun F g ⟨xs,H1,j,r,z,q⟩=>⟨by exact r.length▸z,?_⟩);refine⟨.ref g.heap.objs.size,upd H1 g.heap.objs.size (.tup xs),j.laid (t':=g.toks) (fun b u e=>AC _ e) (AH _) ?_,rfl,q _ (j.hok.fresh (AH _))⟩;exact⟨z,F,r,⟨_,AL _ rfl,rfl,⟨_,rfl⟩,rfl⟩⟩
def pe_lst(h:PA X es t):PE X (.List es pos) (tLst t):=by
 intro pins s σ H Q I D;refine wpAny_List_spliced (thn (h pos pins s σ H _ I D) fun F g ⟨xs,H1,j,r,z,q⟩=>⟨by exact r.length▸z,?_⟩);refine⟨.ref g.heap.objs.size,upd H1 g.heap.objs.size (.lst xs),j.laid (t':=g.toks) (fun b u e=>AC _ e) (AH _) ?_,rfl,q _ (j.hok.fresh (AH _))⟩;exact⟨z,F,0,r,AL _ rfl⟩
end
abbrev Sp:=List V->Hp->VK->XK->Prop
abbrev CXT:=List Env->Hp->Shared->XK->Value->Shared->Prop
structure Env0(P:Program)(w:World)(K:Dm)(mg:Str->Option Value)(base:Heap)(A:Around)(outer:List Env)(s:Shared)(H:Hp):Prop where
 frames:A.frames=some outer
 mod:Mod K mg base
 bs:∀b o,base.get? b=some o->s.heap.get? b=some o/\H b=none
 bsz:base.objs.size<=s.heap.objs.size
 funs:s.heap.FunFrames base outer
 frf:∀b∈frs outer,H b=none
 hok:HOk P w H s.heap
 bare:AllBare s.gens
def CE(g:List Env)(P:Program)(w:World)(H:Hp)(s:Shared)(Q:VK)(u:Value)(s':Shared):Prop :=
 ∃v H',s'.os=s.os/\AllBare s'.gens/\Un (frs g) [] H H' s.heap s'.heap/\HOk P w H' s'.heap/\RelV v u/\Q v H'
def CR(CX:CXT)(g:List Env)(P:Program)(w:World)(H:Hp)(s:Shared)(Q:VK)(E:XK)(r:Result)(s':Shared):Prop :=
 match r with
 |.ok (.ret u)=>CE g P w H s Q u s'
 |.ok _=>False
 |.error e=>CX g H s E e s'
structure FnOk(P:Program)(w:World)(K:Dm)(mg:Str->Option Value)(base:Heap)(CX:CXT)(k:Nat)(f:Addr)(fd:FuncData)(ps:List Str)(sp:Sp):Prop where
 len:∀vs H Q E,sp vs H Q E->vs.length=ps.length
 run:∀(A:Around)(outer:List Env)(s:Shared)(H:Hp)(args:Args)(us:List Value)(vs:List V)(Q:VK)(E:XK),Room k A->Env0 P w K mg base A outer s H->BindsTo s fd args (ps.zip us)->Vals vs us->sp vs H Q E ->
  codeAny (model P w) A (.call (.ref f) args) (CR CX outer P w H s Q E) s
def FnOk.mono{K}(F:FnOk P w K mg base CX j f fd ps sp)(h:j<=k):
  FnOk P w K mg base CX k f fd ps sp:=⟨F.len,fun A D s H g G vs Q E q=>F.run A D s H g G vs Q E (q.mono h)⟩
def Env0.make{K}(e:Env0 P w K mg base A j s H)C q g:
  Env0 P w K mg base (A.under (.builtin "type.__call__" ⟨.ref C::q,g⟩)) j s H:=⟨by first | exact e.frames | (simpa [Around.under,Code.envs,Code.isFrame,pushEnvs] using e.frames),e.mod,e.bs,e.bsz,e.funs,e.frf,e.hok,e.bare⟩
section
variable {X:Cx}{pins:List (Addr×Obj)}{σ:St}{H:Hp}{s s':Shared}
def Inv.env0(I:Inv X pins σ H s):Env0 X.prog X.w X.K X.mg X.base X.A X.stack s H :=
 ⟨I.ok.frames,I.ok.mod,I.bs,AW I.ok.bsz I.sz,I.stack,I.stkFree,I.hok,I.bare⟩
def Inv.after(I:Inv X pins σ H s)(h:CE X.stack X.prog X.w H s Q u s'):EP X pins σ Q u s':=by
 refine Rj h fun v H' G j M F r q=>?_;obtain⟨D,g,d,t,J⟩:=s';obtain rfl:J=s.os:=G;exact⟨v,H',I.call (h':=D) (g':=g) (d':=d) (t':=t) M F j (fun b z=>absurd z (by simp)),r,q⟩
end
def Wu(sp:Sp)(dvs:List V)(E:XK)(t:TA):TE:=fun σ H Q=>t σ H fun vs H1=>sp (vs++dvs) H1 Q E
def tMeth(C:Addr)(m:Str)(sp:Sp)(dvs:List V)(E:XK)(ta:TE)(t:TA):TE:=fun σ H Q=>ta σ H fun x H1=>∃a dx fs,x=.ref a/\H1 a=some (.ins C dx fs)/\fs.lookup m=none /\
 t σ H1 fun vs H2=>sp (x::(vs++dvs)) H2 Q E
def tMake(C:Addr)(sp:Sp)(dvs:List V)(E:XK)(t:TA):TE:=fun σ H Q=>t σ H fun vs H1=>∀x dx,H1 x=none->H1 dx=none->dx≠x ->
 sp (.ref x::(vs++dvs)) (upd (upd H1 dx (.own x)) x (.ins C dx [])) (fun v H2=>v=.non/\Q (.ref x) H2) E
def Binds(K:Dm)(fd:FuncData)(ps:List Str)(ds:List Value):Prop :=
 ∀(s:Shared)(g:List Value),K.In s.heap->(g++ds).length=ps.length->BindsTo s fd ⟨g,[]⟩ (ps.zip (g++ds))
def Binds.all{K}(h:∀g:List Value,g.length=ps.length->bindArgs fd ⟨g,[]⟩=pure (ps.zip g)):Binds K fd ps []:=fun s g _ j=>by
 rw[Ai] at j ⊢;exact .of_eq (h g j)
def jW(CX:CXT)(X:Cx)(E:XK):Prop:=∀(pins:List (Addr×Obj))(σ:St)(H:Hp)(s:Shared)(e:Value)(s':Shared),Inv X pins σ H s->CX X.stack H s E e s'->X.xe e s'
section
variable {X:Cx}{CX:CXT}{k:Nat}{f C:Addr}{fd:FuncData}{ps:List Str}{sp:Sp}{dvs:List V}{ds:List Value}{E:XK}{x m:Str}{p pos apos:Pos}{e o:Expr}{es:List Expr}{ta:TE}{t:TA}
def Zj{σ:St}(F:FnOk X.prog X.w X.K X.mg X.base CX k f fd ps sp)(N:Room k X.A)(G:Binds X.K fd ps ds)(J:Vals dvs ds)(O:jW CX X E)(I:Inv X pins σ H s)(r:Vals vs j)(h:sp (vs++dvs) H Q E):wpAny (model X.prog X.w) X.A (call (.ref f) j) (EP X pins σ Q) X.xe s:=by
 have q:=r.append J;have M :=q.length▸F.len _ _ _ _ h;refine wpAny_call (DP (F.run X.A X.stack s H ⟨j,[]⟩ (j++ds) (vs++dvs) Q E N I.env0 (G s j I.kIn M) q h) fun r s' g=>?_)
 cases r with
 |error e=>exact O pins σ H s e s' I g
 |ok D =>
  cases D with
  |ret u=>exact I.after g
  |next=>exact False.elim g
  |brk=>exact False.elim g
  |cont=>exact False.elim g
def pe_call(F:FnOk X.prog X.w X.K X.mg X.base CX k f fd ps sp)(Y:Room k X.A)(N:Gl X x)(S:X.mg x=some (.ref f))(O:PySem.W.keepIn X.K (.ref f)=true)(D:Binds X.K fd ps ds)(G:Vals dvs ds)(Z:jW CX X E)(j:PA X (e::es) t)(J:(x==("__debug__" : Str))=false:=by decide)(M:starEach (e::es) X.env=(false,eval e X.env)::starEach es X.env:=by rfl)(U:(backTo pos (starEach es X.env)).any (·.1)=false:=by rfl):
  PE X (.Call (.Name x p) (e::es) [] pos) (Wu sp dvs E t):=by
 intro pins s σ H Q I h;exact Cw (zI I N S (PySem.W.callWith_K I.ok.mod.kin O (thn (j pos pins s σ H _ I h) fun ae ab zz=>kZ zz fun vs H1 g r q=> ⟨g.kIn,Zj F Y D G Z g r q⟩) M U) J)
def pe_meth{pl}(S:PE X o ta)(c:Cls X.K C)(D:G8 X.K C m f)(F:FnOk X.prog X.w X.K X.mg X.base CX k f fd ps sp)(Y:Room k X.A)(N:Binds X.K fd ps ds)(O:Vals dvs ds)(hx:jW CX X E)(M:PA X (e::es) t)(Z:starEach (e::es) X.env=(false,eval e X.env)::starEach es X.env:=by rfl)(U:(backTo pos (starEach es X.env)).any (·.1)=false:=by rfl)(ht:eval (.Call (.Attribute o m apos) (e::es) [] pos) X.env=(do
   let G <- eval o X.env
   standAt apos.atName
   let (f,first) <- holding [G] (getMethod G m pl)
   callWith pos f first (backTo pos (starEach (e::es) X.env)) (backToKw pos (keywordEach [] X.env))):=by rfl):
  PE X (.Call (.Attribute o m apos) (e::es) [] pos) (tMeth C m sp dvs E ta t):=by
 intro pins s σ H Q I h;refine PySem.W.methodCall_KW (thn (S pins s σ H _ I h) fun u ab zq=>?_) ht;obtain⟨x,H1,g,rx,a,dx,fs,rfl,J,l,q⟩:=zq;obtain rfl:u=Value.ref a:=rx;exact pR g J c D l (PySem.W.callWith_K I.ok.mod.kin D.kp (thn (M pos pins ab σ H1 _ g q) fun af ae zz=>kZ zz fun vs H2 j r q2=> ⟨j.kIn,Zj (vs:=.ref a::vs) F Y N O hx j (.cons rfl r) q2⟩) Z U)
def W8(N:PE X o ta)(c:Cls X.K C)(j:G8 X.K C m f)(F:FnOk X.prog X.w X.K X.mg X.base CX k f fd ps sp)(O:Room k X.A)(J:Binds X.K fd ps ds)(M:Vals dvs ds)(U:jW CX X E)(S:eval (.Call (.Attribute o m apos) [] [] pos) X.env=(do
   let D <- eval o X.env
   standAt apos.atName
   let (f,first) <- holding [D] (getMethod D m pl)
   callWith pos f first (backTo pos (starEach [] X.env)) (backToKw pos (keywordEach [] X.env))):=by rfl):
  PE X (.Call (.Attribute o m apos) [] [] pos) (tMeth C m sp dvs E ta tNil):=by
 intro pins s σ H Q I h;refine PySem.W.methodCall_KW (thn (N pins s σ H _ I h) fun u ab Z=>?_) S;obtain⟨x,H1,g,Y,a,dx,fs,rfl,G,l,q⟩:=Z;obtain rfl:u=Value.ref a:=Y;exact pR g G c j l (PySem.W.callWith_K0 g.kIn j.kp (Zj (vs:=[.ref a]) F O J M U g (.cons rfl .nil) q))
structure Mk(K:Dm)(C f:Addr):Prop where
 makes:PySem.W.makesIn K C=true
 init:PySem.W.findIn K (.ref C) "__init__" = some (some (.ref f))
 fn:PySem.W.isFn K (.ref f)=true
 kp:PySem.W.keepIn K (.ref C)=true
def WB{σ:St}(M:Mk X.K C f)(F:FnOk X.prog X.w X.K X.mg X.base CX k f fd ps sp)(Y:Room (k+1) X.A)(O:Binds X.K fd ps ds)(S:Vals dvs ds)(Z:jW CX X E)(I:Inv X pins σ H s)(r:Vals vs g)(h:∀x dx,H x=none->H dx=none->dx≠x->sp (.ref x::(vs++dvs)) (upd (upd H dx (.own x)) x (.ins C dx [])) (fun v H2=>v=.non/\Q (.ref x) H2) E):
  wpAny (model X.prog X.w) X.A (call (.ref C) g) (EP X pins σ Q) X.xe s:=by
 have D:=h (s.heap.objs.size+1) s.heap.objs.size (I.hok.fresh (BU _)) (I.hok.fresh (AH _)) (AY (Bm _));have q:=Inv.made (C:=C) I;have G:Vals (V.ref (s.heap.objs.size+1)::(vs++dvs)) (Value.ref (s.heap.objs.size+1)::(g++ds)):=.cons rfl (r.append S)
 have U:(Value.ref (s.heap.objs.size+1)::g++ds).length=ps.length:=by
  have e:=G.length;rw[F.len _ _ _ _ D] at e;exact e.symm
 refine wpAny_call (YD I.kIn M.makes M.init (beq_iff_eq.mp M.fn) (DP (F.run _ X.stack _ _ ⟨Value.ref (s.heap.objs.size+1)::g,[]⟩ (Value.ref (s.heap.objs.size+1)::(g++ds)) _ _ E (Y.make C g [])
  (q.env0.make C g []) (O _ (Value.ref (s.heap.objs.size+1)::g) q.kIn U) G D) fun r s' j=>?_))
 cases r with
 |error e=>exact Z pins σ _ _ e s' q j
 |ok N =>
  cases N with
  |ret u =>
   obtain⟨v,H',J,rv,rfl,q3⟩:=q.after j;exact⟨rv,⟨V.ref (s.heap.objs.size+1),H',J,rfl,q3⟩⟩
  |next=>exact False.elim j
  |brk=>exact False.elim j
  |cont=>exact False.elim j
def pe_make(M:Mk X.K C f)(F:FnOk X.prog X.w X.K X.mg X.base CX k f fd ps sp)(Y:Room (k+1) X.A)(O:Gl X x)(S:X.mg x=some (.ref C))(D:Binds X.K fd ps ds)(G:Vals dvs ds)(Z:jW CX X E)(j:PA X (e::es) t)(J:(x==("__debug__" : Str))=false:=by decide)(N:starEach (e::es) X.env=(false,eval e X.env)::starEach es X.env:=by rfl)(U:(backTo pos (starEach es X.env)).any (·.1)=false:=by rfl):
  PE X (.Call (.Name x p) (e::es) [] pos) (tMake C sp dvs E t):=by
 intro pins s σ H Q I h;exact Cw (zI I O S (PySem.W.callWith_K I.ok.mod.kin M.kp (thn (j pos pins s σ H _ I h) fun ae ab zz=>kZ zz fun vs H1 g r q=> ⟨g.kIn,WB M F Y D G Z g r q⟩) N U) J)
end
structure FnScope(N P:List Str)(sc:Scope):Prop where
 kind:sc.kind=.function
 co:sc.isCoroutine=false
 gen:sc.isGenerator=false
 nd:N.Nodup
 pre:N.take P.length=P
 par:∀x∈P,sc.names.lookup x=some .local\/sc.names.lookup x=some .cell
 nofree:∀y∈sc.names,y.2≠.free
theorem sE{q}: ∀{g}{m},(∀v,(x,v)∉g)->bindL q g m x=m x
 |[],_,_=>rfl
 | (n,v)::r,m,h=>by
  unfold bindL;rw[sE fun w j=>h w (AI _ j)]
  split
  .grind
  .rfl
theorem tE{q}: ∀{g}{m},(∀v,(x,v)∉g)->bindC q g m x=m x
 |[],_,_=>rfl
 | (n,v)::r,m,h=>by
  unfold bindC;rw[tE fun w j=>h w (AI _ j)]
  split
  .rfl
  .grind
theorem oE{j}: ∀{P:List Str}{vs}{i:Nat}{m},P.Nodup->P[i]?=some x->vs[i]?=some v->j x=some .local ->
  bindL j (P.zip vs) m x=some v
 |[],_,_,_,_,h,_,_=>by simp at h
 |_::_,[],_,_,_,_,h,_=>by simp at h
 |p::P,w::vs,0,m,q,h1,h2,g=>by
  simp at h1 h2;subst h1;subst h2
  show bindL j ((p,w)::P.zip vs) m p=_;unfold bindL;rw[sE fun v D=>(BD.mp q).1 (Cs D).1,Ah g]
  simp
 |p::P,w::vs,i+1,m,q,h1,h2,g=>by
  unfold bindL;exact oE (BD.mp q).2 (by simpa using h1) (by simp_all) g
theorem aE{j}: ∀{P:List Str}{vs}{i:Nat}{m},P.Nodup->P[i]?=some x->vs[i]?=some v->j x≠some .local ->
  bindC j (P.zip vs) m x=some v
 |[],_,_,_,_,h,_,_=>by simp at h
 |_::_,[],_,_,_,_,h,_=>by simp at h
 |p::P,w::vs,0,m,q,h1,h2,g=>by
  simp at h1 h2;subst h1;subst h2
  show bindC j ((p,w)::P.zip vs) m p=_;unfold bindC;rw[tE fun v D=>(BD.mp q).1 (Cs D).1,Af g]
  simp
 |p::P,w::vs,i+1,m,q,h1,h2,g=>by
  unfold bindC;exact aE (BD.mp q).2 (by simpa using h1) (by simp_all) g
def start(N:List Str)(vs:List V):St:=vs.map some++List.replicate (N.length - vs.length) none
noncomputable def mI(CX:CXT)(P:Program)(w:World)(K:Dm)(mg:Str->Option Value)(base:Heap)(N:List Str)(q:Str)(D:Scope)(f:Addr)(g:Value)(A:Around)(j:List Env)(s:Shared)(H:Hp)(E:XK):Cx where
 prog:=P
 w:=w
 K:=K
 mg:=mg
 base:=base
 A:=A.deeper (envOfC q D s.heap.objs.size f g)
 N:=N
 s₀:=s
 H₀:=H
 env:=envOfC q D s.heap.objs.size f g
 outer:=j
 stack:=envOfC q D s.heap.objs.size f g::j
 ex:=[]
 calm:=true
 fn:=fun _=>true
 pn:=[]
 xe:=fun e s'=>wpAny (model P w) (A.deeper (envOfC q D s.heap.objs.size f g)) (leaving (envOfC q D s.heap.objs.size f g) e) (fun _ F=>CX j H s E e F) (fun G F=>CX j H s E G F) s'
def vS{sc:Scope}(h:sc.names.lookup x=some .cell):∃c,(cellsFrom n sc.names []).lookup x=some c :=Option.isSome_iff_exists.mp (PySem.W.cellsFrom_some sc.names n [] (.inl h))
def VD{K}(S:FnScope N ps j)(ab:A.handled=none)(g:Env0 P w K mg base A Y s H)(hl:vs.length=ps.length)(r:Vals vs Z)(x:InCallC s s.heap.objs.size (bindL (envOfC J j s.heap.objs.size f G).kindOf (ps.zip Z) fun _=>none) (cellsFrom (s.heap.objs.size+1) j.names []) (bindC (envOfC J j s.heap.objs.size f G).kindOf (ps.zip Z) fun _=>none) ae):
  Inv (mI CX P w K mg base N J j f G A Y s H E) [] (start N vs) H ae:=by
 have af:ps.length<=N.length:=by have:=Bz List.length S.pre;rw[A1] at this;lia
 obtain⟨h1,tk,rfl,M⟩:=x.done;have I:∀b:Addr,b∉(mI CX P w K mg base N J j f G A Y s H E).ex:=fun b z=>absurd (show b∈([]:List Addr) from z) (by simp)
 refine⟨⟨g.mod,S.kind,rfl,rfl,AH _,fun y z c h1 h2=>?_,fun y F=>?_,fun y c _ h=>?_,fun _=>ab,Around.frames_deeper g.frames,.inr ⟨rfl,rfl⟩,fun b z=>absurd z (I b),g.bs,g.bsz,fun b _ _=>I b,fun b z=>absurd z (I b),g.funs,g.frf⟩,
  rfl,g.bare,Un.kept M,⟨_,x.toInCall.ns,fun i y v h1 h2 h3=>?_⟩,fun y c h=>⟨_,x.cell y c h⟩,g.hok.fresh (AH _),fun y c h=>?_,fun p D=>absurd (show p∈([]:List (Addr×Obj)) from D) (by simp),g.hok.kept M,?_⟩
 .exact name_of_addr x.apart (CK h1) (CK h2)
 .rcases F with F | F
  .exact vS F
  .exact absurd rfl (S.nofree _ (CK F))
 .exact BY (x.above y c (CK h))
 .have hi:i < vs.length:=by
   unfold start at h2
   by_cases hi:i < vs.length
   .exact hi
   .grind
  have ha:vs[i]?=some v:=by
   unfold start at h2;rw[Be (by simp_all),Am] at h2
   cases e:vs[i]? with
   |none=>rw[e] at h2;cases h2
   |some a=>rw[e] at h2;cases h2;rfl
  obtain⟨u,O,rv⟩:=(r.get ha)
  have D:ps[i]?=some y:=by
   rw[<- S.pre,List.getElem?_take_of_lt (by lia)];exact h1
  have U :=S.pre▸S.nd.sublist (List.take_sublist _ _);refine⟨u,rv,?_⟩
  rcases S.par y (Ac D) with k | k
  .exact .inl ⟨k,oE U D O k⟩
  .obtain ⟨c,e⟩:=vS k
   refine .inr ⟨.inl k,c,e,?_⟩;have q:=x.cell y c e;rw[aE U D O (by show j.names.lookup y≠_;rw[k];decide)] at q;exact q
 .exact g.hok.fresh (BY (x.above y c (CK h)))
 .delta start
  show _=N.length;rw[AJ,AB,Ba]
  lia
def fn_of{K}{ag ab ai j Z oc}(lk:K.lookup f=some ⟨oc,od,.func (PySem.W.fnOf name G au Y g dV ag ab ai aj j Z),az⟩)(ao:PySem.W.codeIn K j G=true)(S:FnScope N ps g)(ah:∀vs H Q E,sp vs H Q E->vs.length=ps.length)(ak:∀(A:Around)(F:List Env)(s:Shared)(H:Hp)(vs:List V)(Q:VK)(E:XK),Room k (A.deeper (envOfC G g s.heap.objs.size f j))->sp vs H Q E ->
   ∃t,PSs (mI CX P w K mg base N G g f j A F s H E) Y t/\t { nx:=fun _ H'=>Q .non H',rt:=Q } (start N vs) H):
  FnOk P w K mg base CX (k+1) f (PySem.W.fnOf name G au Y g dV ag ab ai aj j Z) ps sp:=by
 refine⟨ah,fun A F s H ax aw vs Q E M D hb r af=>?_⟩;have U:=D.mod.kin.keeps fun b o e=>(D.bs b o e).1
 have ar:∀y∈ps.zip aw,g.names.lookup y.1=some .local\/(g.names.lookup y.1=some .cell/\((cellsFrom (s.heap.objs.size+1) g.names []).lookup y.1).isSome=true):=fun⟨n,v⟩ hy=>by
  rcases S.par n (Cs hy).1 with q | q
  .exact .inl q
  .exact .inr ⟨q,PySem.W.cellsFrom_some _ _ _ (.inl q)⟩
 refine codeAny_call_function M.depth (U _ _ lk) rfl S.co S.gen rfl (PySem.W.codeRec_of U ao) (hb _ _ _ _ (wpAny_newFunctionEnv_cells S.kind ar fun ay aq av x=>?_));subst aq;refine⟨(D.mod.nolimit.keeps fun b o e=>(D.bs b o e).1).keeps x.toInCall.keep,codeAny_func (oQ (ak A F s H vs Q E (M.deeper _) af) fun t ht hq=>BM (ht [] av (start N vs) H _ (VD S M.hd D (ah _ _ _ _ af) r x) hq) (fun fl s' hs=>?_) fun e s' hs=>hs)⟩
 have ae:∀{I:St}{H':Hp}{v:V}{u:Value},Inv (mI CX P w K mg base N G g f j A F s H E) [] I H' s'->RelV v u->Q v H'->CE F P w H s Q u s' :=
  fun {I H' v u}J O q=>⟨v,H',J.os,J.bare,J.base,J.hok,O,q⟩
 cases fl with
 |ret u =>
  exact pT hs fun v I H' J O q=>ae J O q
 |next =>
  exact bU hs fun I H' J q=>ae (v:=V.non) J rfl q
 |brk =>
  exact bU hs fun _ _ _ q=>False.elim q
 |cont =>
  exact bU hs fun _ _ _ q=>False.elim q
section
variable {X:Cx}{x:Str}{p pos:Pos}{e:Expr}{es:List Expr}{t:TA}{id T:String}{r:List V->Hp->VK->Prop}
def tCB(r:List V->Hp->VK->Prop)(t:TA):TE:=fun σ H Q=>t σ H fun vs H1=>r vs H1 Q
def Ye(q:CallR X (.builtin id) r)(G:Gl X x)(J:X.mg x=none)(O:bootBuiltins x=some (.builtin id))(j:PA X (e::es) t)(M:x ≠ "__name__":=by decide)(D:(x==("__debug__" : Str))=false:=by decide)(F:starEach (e::es) X.env=(false,eval e X.env)::starEach es X.env:=by rfl)(N:(backTo pos (starEach es X.env)).any (·.1)=false:=by rfl):PE X (.Call (.Name x p) (e::es) [] pos) (tCB r t):=by
 intro pins s σ H Q I h;exact Cw (jI I G J O (PyProof.Rows.callWith_builtin1 (thn (j pos pins s σ H _ I h) fun Z Y zz=>kZ zz fun vs H1 g U S=> q pins Y σ H1 vs Z Q g U S) F N) M D)
def Vb(q:CallR X (.type T) r)(G:Gl X x)(J:X.mg x=none)(O:bootBuiltins x=some (.type T))(j:PA X (e::es) t)(M:x ≠ "__name__":=by decide)(D:(x==("__debug__" : Str))=false:=by decide)(F:starEach (e::es) X.env=(false,eval e X.env)::starEach es X.env:=by rfl)(N:(backTo pos (starEach es X.env)).any (·.1)=false:=by rfl):PE X (.Call (.Name x p) (e::es) [] pos) (tCB r t):=by
 intro pins s σ H Q I h;exact Cw (jI I G J O (PyProof.Rows.callWith_type1 (thn (j pos pins s σ H _ I h) fun Z Y zz=>kZ zz fun vs H1 g U S=> q pins Y σ H1 vs Z Q g U S) F N) M D)
end
end L2
namespace HT
open PySem PyProof.Rows
section
variable {prog:Program}{w:World}{A:Around}{E:Value->Shared->Prop}{s:Shared}
def cat_tup(ht:IsTup s.heap t vs.toArray)(S:IsTup s.heap b g.toArray)(hv:vs≠[])(h1:g=[]->Q (.ref t) s)(h2:g≠[]->Q (.ref s.heap.objs.size) { s with heap:=s.heap.push { cls:=.type "tuple",data:=.seq (vs++g).toArray } })(hsz:vs.length+g.length<=sizeLine):wpAny (model prog w) A (binaryOp .Add (.ref t) (.ref b)) Q E s:=by
 obtain⟨⟨N,F,O,J⟩,j,U,n,Z⟩:=id ht;obtain⟨⟨ae,G,af,M⟩,q,Y,I,ab⟩:=id S;subst U Z Y ab;have e:vs.toArray++g.toArray=(vs++g).toArray:=by simp
 by_cases D:g=[]
 .exact concat_meets ⟨_,j,rfl⟩ ⟨_,q,rfl⟩ noFill_tuple_add seq_tuple_add DR DL (DH _ _)
   (tuple_addW1 t b vs.toArray g.toArray n I F G J M (by grind) (by simp[D])) ⟨j,q,h1 D⟩
 .refine concat_meets ⟨_,j,rfl⟩ ⟨_,q,rfl⟩ noFill_tuple_add seq_tuple_add DR DL (DH _ _)
   (tuple_addW2 t b vs.toArray g.toArray n I F G J M (by simpa using hv) (by grind) (by grind)) ⟨j,q,?_⟩
  exact e▸h2 D
noncomputable def sIx(n d:Nat):Option Int->Nat
 |none=>d
 |some v=>if v < 0 then (v+(n:Int)).toNat else min v.toNat n
def sIx_none n d:sIx n d none=d:=rfl
def sIx_nat(n d k:Nat):sIx n d (some k )=min k n:=by
 show(if (k:Int) < 0 then ((k:Int)+(n:Int)).toNat else min (k:Int).toNat n)=min k n;rw[Af (by lia),Cf]
def KA v(n d:Nat):(if v < 0 then max (v+(n:Int)) 0 else min v n )=((sIx n d (some v):Nat):Int):=by
 show(if v < 0 then max (v+(n:Int)) 0 else min v (n:Int))=(((if v < 0 then (v+(n:Int)).toNat else min v.toNat n):Nat):Int)
 by_cases g:v < 0
 .lia
 .grind
def Jm lo hi(n:Nat):Builtin.Slice.sliceAdjust lo hi 1 n=(( sIx n 0 lo:Int),( sIx n n hi:Int)):=by
 refine Prod.ext ?_ ?_
 .cases lo with
  |none=>rfl
  |some v=>exact KA v n 0
 .cases hi with
  |none=>rfl
  |some v=>exact KA v n n
def Zq(i j:Nat):Builtin.Slice.slicePlaces i j 1=j - i :=by grind[Builtin.Slice.slicePlaces]
def gC(p:IsPart v o)(h:Q o s):wpAny (model prog w) A (Builtin.Slice.slicePartIndex v) Q E s:=by
 cases p with
 |none=>exact slicePart_none h
 |int i t=>exact slicePart_int h
def uP{lo}{Q:Int×Int×Nat->Shared->Prop}(hs:s.heap.IsSliceOf F G I .none)(q:IsPart G lo)(D:IsPart I hi)(h:Q (( sIx n 0 lo:Int),1,sIx n n hi - sIx n 0 lo) s):wpAny (model prog w) A (Builtin.Slice.sliceApplied (.ref F) (pure n )) Q E s:=by
 refine hZ (id hs) fun M j J g=>AA (AA (As j g rfl (AA (As j g rfl (AA (As j g rfl (AD (AA (slicePart_none (AA (gC q (AA (gC D (AA (AD ?_)))))))))))))));show wpAny _ _ (match Builtin.Slice.sliceAdjust lo hi 1 (n:Int) with | (lo,hi)=>pure (lo,(1:Int),Builtin.Slice.slicePlaces lo hi 1)) _ _ s
 rw[Jm lo hi n];show wpAny _ _ (pure (((sIx n 0 lo:Nat):Int),(1:Int),Builtin.Slice.slicePlaces ((sIx n 0 lo:Nat):Int) ((sIx n n hi:Nat):Int) 1)) _ _ s;rw[Zq];exact AD h
def W4(xs:Array Value)(i k:Nat):((List.range k).filterMap fun(m:Nat)=>xs[( i+(m:Int) * 1).toNat]?).toArray=((xs.toList.drop i).take k).toArray:=by
 have e:(fun(m:Nat)=>xs[((i:Int)+(m:Int) * 1).toNat]?)=fun m=>xs[i+m]? :=by grind
 rw[e];have:=pick_run xs i k;rw[List.filterMap_map] at this;have g:((fun x=>xs[x]?) ∘ fun x=>i+x)=fun m=>xs[i+m]?:=rfl;rw[g] at this;rw[this]
def getItem_tuple_cut{lo}(g:IsTup s.heap t items)(hs:s.heap.IsSliceOf M N O .none)(I:IsPart N lo)(J:IsPart O hi)(U:¬ (sIx items.size 0 lo=0/\sIx items.size items.size hi=items.size))(h:Q (.ref s.heap.objs.size) { s with heap:=s.heap.push { cls:=.type "tuple",data:=.seq ((items.toList.drop (sIx items.size 0 lo)).take (sIx items.size items.size hi - sIx items.size 0 lo)).toArray } })(hsz:items.size<=sizeLine):wpAny (model prog w) A (getItem (.ref t) (.ref M)) Q E s:=by
 have j:sizeOk (.seq ((items.toList.drop (sIx items.size 0 lo)).take (sIx items.size items.size hi - sIx items.size 0 lo)).toArray):=by
  show((items.toList.drop (sIx items.size 0 lo)).take (sIx items.size items.size hi - sIx items.size 0 lo)).toArray.size<=sizeLine;rw[Al,A1,BN,BG];omega
 obtain⟨G,F,q,S⟩:=(id hs)
 delta getItem
 try with_reducible refine Av ?_
 first | refine AA (AD ?_) | skip
 refine AA (wpAny_sequenceKey g.typeIs rfl (AA (BX g.typeIs Cj
  (A4 Cj g.typeIs entry_tuple_getitem ?_ (args_tuple_getitem _ _)))))
 show wpAny _ _ (Builtin.Tuple.tupleItemsOf (.ref t) >>= _) _ _ s;refine AA (tupleItemsOf_ g (AA (B6 (⟨G,F,q⟩) (AA (uP hs I J ?_)))));have D:¬ ((((sIx items.size 0 lo:Nat):Int)==0&&(1:Int)==1&&(sIx items.size items.size hi - sIx items.size 0 lo)==items.size)=true) :=by lia
 show wpAny _ _ (if (((sIx items.size 0 lo:Nat):Int)==0&&(1:Int)==1&&(sIx items.size items.size hi - sIx items.size 0 lo)==items.size)=true then _ else _) _ _ s;rw[Af D,W4]
 first
  |exact AA (A2 (AD ⟨_,rfl,AD h⟩) j)
  |exact AA (A2 (AA (AD (AD ⟨_,rfl,AD h⟩))) j)
  |exact AA (AA (A2 (AD (AD ⟨_,rfl,AD h⟩)) j))
  |exact AA (AA (A2 (AD ⟨_,rfl,AD h⟩) j))
end
end HT
namespace L2
open PySem PySem.Spec PyProof.Rows
abbrev TO:=St->Hp->(Option Int->Hp->Prop)->Prop
def PO(X:Cx)(e:Option Expr)(t:TO):Prop :=
 ∀(pins:List (Addr×Obj))(s:Shared)(σ:St)(H:Hp)(Q:Option Int->Hp->Prop),Inv X pins σ H s->t σ H Q ->
  wpAny (model X.prog X.w) X.A (evalPart e X.env) (fun u s'=>∃o H',Inv X pins σ H' s'/\IsPart u o/\Q o H') X.xe s
def tNoPart:TO:=fun _ H Q=>Q none H
def tPart(t:TE):TO:=fun σ H Q=>t σ H fun x H1=>∃i,x=.int i/\Q (some i) H1
section
variable {X:Cx}{e:Expr}{te:TE}{lo hi:Option Expr}{tl th:TO}{pos p2:Pos}
def po_none:PO X none tNoPart:=by
 intro pins s σ H Q I h;exact AD ⟨none,H,I,.none,h⟩
def po_some(h:PE X e te):PO X (some e) (tPart te):=by
 intro pins s σ H Q I j;refine thn (h pins s σ H _ I j) fun u J G=>kZ G fun x H1 g F D=> ?_;obtain⟨i,rfl,q⟩:=D;obtain⟨t,rfl⟩:=F;exact⟨some i,H1,g,.int i t,q⟩
def SlR(X:Cx)(r:V->Option Int->Option Int->Hp->VK->Prop):Prop :=
 ∀(pins:List (Addr×Obj))(s:Shared)(σ:St)(H:Hp)(x:V)(v j q:Value)(lo hi:Option Int)(g:Addr)(Q:VK),Inv X pins σ H s->RelV x v->s.heap.IsSliceOf g j q .none->IsPart j lo->IsPart q hi->r x lo hi H Q ->
  ∃T id,typeLookup (.type T) "__getitem__" = pure (some (.builtin id))/\s.TypeIs v T/\wpAny (model X.prog X.w) X.A (getItem v (.ref g)) (EP X pins σ Q) X.xe s
def tSl(r:V->Option Int->Option Int->Hp->VK->Prop)(te:TE)(tl th:TO):TE:=fun σ H Q=>te σ H fun x H1=>tl σ H1 fun l H2=>th σ H2 fun u g=>r x l u g Q
def nC(hr:SlR X r)(U:PE X e te)(Z:PO X lo tl)(hu:PO X hi th):PE X (.Subscript e (.Slice lo hi none p2) pos) (tSl r te tl th):=by
 intro pins s σ H Q I h;refine Subscript_ (thn (U pins s σ H _ I h) fun v ae j=>kZ j fun x H1 J r1 q1=> wpAny_Slice (thn (Z pins ae σ H1 _ J q1) fun D af j=>kZ j fun l H2 M pl q2=> thn (hu pins af σ H2 _ M q2) fun F g j=>kZ j fun u G N ab q3=> ?_))
 apply AD
 have O:Inv X pins σ G { g with heap:=g.heap.push { cls:=.type "slice",data:=.fields #[D,F,.none] } }:=N.kept (t':=g.toks) fun b ob q=>AC _ q;exact kZ (hr pins { g with heap:=g.heap.push { cls:=.type "slice",data:=.fields #[D,F,.none] } } σ G x v D F l u g.heap.objs.size Q O r1 (Heap.IsSliceOf.new ..) pl ab q3) fun T id S ht Y=>tail_any ht S Y (by with_unfolding_all rfl)
def VP(xs:List V)(lo hi:Option Int):List V:=(xs.drop (HT.sIx xs.length 0 lo)).take (HT.sIx xs.length xs.length hi - HT.sIx xs.length 0 lo)
def sH xs lo hi:(VP xs lo hi).length<=xs.length:=by
 delta VP
 rw[A1,BN]
 lia
def rSlT(K:Dm):V->Option Int->Option Int->Hp->VK->Prop:=fun x lo hi H Q=>∃a xs,x=.ref a/\SqT K H a xs /\
 ¬ (HT.sIx xs.length 0 lo=0/\HT.sIx xs.length xs.length hi=xs.length)/\∀p,H p=none->Q (.ref p) (upd H p (.tup (VP xs lo hi)))
def sl_tup:SlR X (rSlT X.K):=by
 intro pins s σ H x v Y Z lo hi U Q I M hs G J h;obtain⟨a,xs,rfl,D,N,q⟩:=h;cases M;obtain⟨O,r,j,F⟩:=(I.tuple D);have g :=Al▸r.length.symm;refine⟨"tuple",_,Cj.lookup,j.typeIs,HT.getItem_tuple_cut j hs G J (by rwa [g]) ?_ (by rwa [g])⟩;rw[g];refine⟨.ref s.heap.objs.size,_,I.laid (t':=s.toks) (fun b S q=>AC _ q) (AH _) ?_,rfl,q _ (I.hok.fresh (AH _))⟩
 exact⟨AW (sH xs lo hi) F,_,(r.drop (HT.sIx xs.length 0 lo)).take (HT.sIx xs.length xs.length hi - HT.sIx xs.length 0 lo),ji.new _ _⟩
def rCatT(K:Dm):R2:=fun x y H Q=>∃a b xs ys,x=.ref a/\y=.ref b/\SqT K H a xs/\SqT K H b ys/\xs≠[]/\xs.length+ys.length<=sizeLine /\
 (ys=[]->Q (.ref a) H)/\(ys≠[]->∀p,H p=none->Q (.ref p) (upd H p (.tup (xs++ys))))
def Vals.nil_iff(r:Vals xs g):g=[]↔xs=[]:=by
 cases r with
 |nil=>simp
 |cons _ _=>simp
def op_catT:OpR X (binaryOp .Add) (rCatT X.K):=by
 intro pins s σ H x y v u Q I S U h;obtain⟨a,b,xs,ys,rfl,rfl,D,F,G,J,N,O⟩:=h;cases S;cases U;refine hZ (I.tuple D) fun Y j M _=>hZ (I.tuple F) fun Z g p2 _=>HT.cat_tup M p2 (fun z=>G (j.nil_iff.mp z)) (fun z=>⟨.ref a,H,I,rfl,N (g.nil_iff.mp z)⟩) (fun z=>?_) (by rwa [<- j.length,<- g.length]);refine⟨.ref s.heap.objs.size,_,I.laid (t':=s.toks) (fun b ob q=>AC _ q) (AH _) ?_,rfl,O (fun w=>z (g.nil_iff.mpr w)) _ (I.hok.fresh (AH _))⟩
 exact⟨by exact AJ▸J,_,j.append g,ji.new _ _⟩
end
def ixN(n:Nat)(i:Int):Option Nat:=if 0<=i then (if i < n then some i.toNat else none) else if -(n:Int)<=i then some (i+n).toNat else none
def atI{α:Type}(xs:List α)(i:Int):Option α:=(ixN xs.length i).bind fun j=>xs[j]?
def Kf(h:ixN n i=some j):seqIndex? i n=some j/\j < n/\- n<=i/\i < n :=by grind[ixN,seqIndex_of,seqIndex_neg,lia,Option.some.inj]
def Ql(h:atI xs i=some v):∃j,seqIndex? i xs.length=some j/\xs[j]?=some v/\j < xs.length/\-(xs.length:Int)<=i/\i < xs.length:=by
 delta atI at h
 cases e:ixN xs.length i with
 |none=>rw[e] at h;cases h
 |some j =>
  rw[e] at h;exact VJ (Kf e) fun h1 h2 g q=>⟨j,h1,h,h2,g,q⟩
def Qo(b:Expr):Prop:=∀o i,subscripted b false o i=operate [o,i] (getItem o i)
def IxR(X:Cx)(r:R2):Prop :=
 ∀(value g:Expr)(pins:List (Addr×Obj))(s:Shared)(σ:St)(H:Hp)(x y:V)(v u:Value)(Q:VK),Inv X pins σ H s->RelV x v->RelV y u->r x y H Q ->
  subscripted g false v u=operate [v,u] (getItem v u)->wpAny (model X.prog X.w) X.A (subscriptTail value g v u) (EP X pins σ Q) X.xe s
def MtR(X:Cx)(id:String)(r:V->List V->Hp->VK->Prop):Prop :=
 ∀(pins:List (Addr×Obj))(s:Shared)(σ:St)(H:Hp)(x:V)(xs:List V)(v:Value)(g:List Value)(Q:VK),Inv X pins σ H s->RelV x v->Vals xs g->r x xs H Q ->
  wpAny (model X.prog X.w) X.A (call (.builtin id) (v::g)) (EP X pins σ Q) X.xe s
section
variable {X:Cx}{a b:Expr}{ta tb:TE}{pos:Pos}
def IxR.or(h:IxR X r)(h':IxR X F):IxR X (fun x y H Q=>r x y H Q\/F x y H Q):=by
 intro value D pins s σ H x y v u Q I g j q hs
 rcases q with q | q
 .exact h value D pins s σ H x y v u Q I g j q hs
 .exact h' value D pins s σ H x y v u Q I g j q hs
def pe_ix(F:IxR X r)(j:PE X a ta)(D:PE X b tb)(hs:Qo b):PE X (.Subscript a b pos) (tOp r ta tb):=by
 intro pins s σ H Q I h;exact Subscript_ (binT j D I h fun v u M x y H2 g G J q=>F a b pins M σ H2 x y v u Q g G J q (hs _ _))
inductive IIx(S:Hp->Addr->List V->Prop)(x y:V)(H:Hp)(Q:VK):Prop
 |mk(p:Addr)(xs:List V)(i:Int)(v:V)(h:x=.ref p)(h':y=.int i)(s:S H p xs)(a:atI xs i=some v)(q:Q v H)
def rIxL(K:Dm):R2:=IIx (SqL K)
def rIxT(K:Dm):R2:=IIx (SqT K)
def rIxS:R2:=fun x y H Q=>∃z i c,x=.str z/\y=.int i/\z.length<=sizeLine/\atI z.cps.toList i=some c/\Q (.str ⟨#[c]⟩) H
def ix_list:IxR X (rIxL X.K):=by
 intro value ab pins s σ H x y v u Q I Z ry h hs;obtain⟨p,xs,i,z,rfl,rfl,S,N,q⟩:=h;cases Z;obtain⟨t,rfl⟩:=ry;refine hZ (I.list S) fun U r g hz=>XA (Ql N) fun j h1 h2 h3 J M=>oQ (r.get h2) fun w G Y=>?_;have O:=r.length;have hn:=mB;have D:EP X pins σ Q w s:=⟨z,H,I,Y,q⟩
 by_cases h0:0<=i
 .have F:i.toNat=j:=by
   rw[seqIndex_of h0 M] at h1;exact Au h1
  exact item_listR g.isList h0 (by lia) (by simp_all) D hs
 .have F:(i+(U.toArray.size:Int)).toNat=j:=by
   rw[seqIndex_neg (by lia) J] at h1;exact Al▸O▸Au h1
  exact subscriptTail_builtinR g.isList.typeIs slot_list_getitem.lookup
   (wpAny_getItem_list_neg g.isList (by lia) (by simp_all) (by lia) (by rw[F];simpa using G) ⟨rfl,D⟩) hs
def ix_tup:IxR X (rIxT X.K):=by
 intro value ae pins s σ H x y v u Q I J M h hs;obtain⟨p,xs,i,z,rfl,rfl,F,D,q⟩:=h;cases J;obtain⟨t,rfl⟩:=M;refine hZ (I.tuple F) fun ab r g Z=>XA (Ql D) fun j h1 h2 O S U=>oQ (r.get h2) fun w N G=>?_;have Y:=mB
 exact subscriptTail_builtinR g.typeIs slot_tuple_getitem.lookup
  (getItem_tuple g (by lia) (by lia) (by rwa [Al,<- r.length]) (by simp_all) ⟨rfl,(⟨z,H,I,G,q⟩)⟩) hs
def ix_str:IxR X rIxS:=by
 intro value U pins s σ H x y v u Q I D F h hs;obtain⟨z,i,c,rfl,rfl,S,g,q⟩:=h;obtain⟨t,rfl⟩:=D;obtain⟨t',rfl⟩:=F;refine XA (Ql g) fun j h1 h2 G J M=>?_;have N:z.cps.toList.length=z.length:=by simp[Str.length]
 have O:=mB;exact tail_any (typeIs_str s z t) slot_str_getitem.lookup (getItem_str (by lia) (by grind) ⟨.str ⟨#[c]⟩,H,I.tok _,⟨_,rfl⟩,q⟩) hs
def rIx(K:Dm):R2:=fun x y H Q=>rIxL K x y H Q\/rIxT K x y H Q\/rIxS x y H Q
def ix_seq:IxR X (rIx X.K):=ix_list.or (ix_tup.or ix_str)
def ZD(g:List Value)n j u:Obj.mapSeq (·.setIfInBounds j u) { cls:=.type "list",data:=.seq g.toArray n }={ cls:=.type "list",data:=.seq (g.set j u).toArray n }:=by
 simp[Obj.mapSeq]
def Inv.lst{pins:List (Addr×Obj)}{σ:St}{H:Hp}{s:Shared}{p:Addr}{xs:List V}(I:Inv X pins σ H s)(h:H p=some (.lst xs)):
  ∃(g:List Value)(n:Nat),Vals xs g/\s.heap.get? p=some { cls:=.type "list",data:=.seq g.toArray n }/\xs.length<=sizeLine:=by
 obtain⟨z,g,n,r,e⟩:=I.hok p _ h;exact⟨g,n,r,e,z⟩
def Inv.lstUpd{σ:St}{j:List Value}(I:Inv X pins σ H s)(h:H p=some (.lst xs))(G:s.heap.get? p=some { cls:=.type "list",data:=.seq j.toArray n })(g:f { cls:=.type "list",data:=.seq j.toArray n }={ cls:=.type "list",data:=.seq its'.toArray D })(r:Vals ys its')(J:ys.length<=sizeLine)t:
  Inv X pins σ (upd H p (.lst ys)) { s with heap:=s.heap.update p f,toks:=t }:=by
 have e:(s.heap.update p f).get? p=some { cls:=.type "list",data:=.seq its'.toArray D }:=by
  rw[Az f G (by rw[g]<;>rfl),g]
 refine I.write (by rw[h];trivial) (.inl rfl) (fun b u F q=>(BE _ _ (Ne.symm F)).trans q) ⟨_,e⟩ ?_;exact⟨J,its',D,r,e⟩
def rSetL:V->V->V->Hp->(Hp->Prop)->Prop:=fun o i v H Q=>∃p xs k j,o=.ref p/\i=.int k/\H p=some (.lst xs)/\ixN xs.length k=some j/\Q (upd H p (.lst (xs.set j v)))
def Wy:PSet X rSetL:=by
 intro pins s σ H o i v ov iv u Q I Y U Z h;obtain⟨p,xs,k,j,rfl,rfl,J,S,q⟩:=h;cases Y;obtain⟨t,rfl⟩:=U;refine kZ (I.lst J) fun M n r D hz=>VJ (Kf S) fun h1 h2 N O=>?_;have G:=r.length;have hn:=mB
 have F :=
  I.lstUpd J D (ZD M n j u) (r.set Z j) (by grind) s.toks
 by_cases h0:0<=k
 .have g:k.toNat=j:=by
   rw[seqIndex_of h0 O] at h1;exact Au h1
  exact PySem.W.ki_setAt D h0 (by lia) (by simp_all) (g▸⟨_,F,q⟩)
 .have g:(k+(M.toArray.size:Int)).toNat=j:=by
   rw[seqIndex_neg (by lia) N] at h1;exact Al▸G▸Au h1
  exact PySem.W.ki_setBack D (by lia) (by rwa [Al,<- G]) (by lia) (g▸⟨_,F,q⟩)
def gA lo hi n:(sliceBounds lo hi none n).1=((HT.sIx n 0 lo:Nat):Int)/\(sliceBounds lo hi none n).2.1=((HT.sIx n n hi:Nat):Int)/\(sliceBounds lo hi none n).2.2=1:=by
 refine⟨?_,?_,rfl⟩
 .cases lo with
  |none=>simp[sliceBounds,HT.sIx]
  |some i =>
   simp only[sliceBounds,HT.sIx,Option.getD_none,show(1:Int) > 0 by decide,if_true]
   by_cases h:i < 0
   .simp only[h,if_true]<;>lia
   .simp only[h,if_false]<;>lia
 .cases hi with
  |none=>simp[sliceBounds,HT.sIx]
  |some i =>
   simp only[sliceBounds,HT.sIx,Option.getD_none,show(1:Int) > 0 by decide,if_true]
   by_cases h:i < 0
   .simp only[h,if_true]<;>lia
   .simp only[h,if_false]<;>lia
def xT(g:List Value)lo hi:slicePick g.toArray lo hi none=((g.drop (HT.sIx g.length 0 lo)).take (HT.sIx g.length g.length hi - HT.sIx g.length 0 lo)).toArray:=by
 obtain⟨h1,h2,j⟩:=(gA lo hi g.toArray.size)
 delta slicePick
 rw[h1,h2,j]
 simp only[sliceRange_one,pick_run]<;>rfl
def rSlL(K:Dm):V->Option Int->Option Int->Hp->VK->Prop:=fun x lo hi H Q=>∃a xs,x=.ref a/\SqL K H a xs/\∀p,H p=none->Q (.ref p) (upd H p (.lst (VP xs lo hi)))
def sl_list:SlR X (rSlL X.K):=by
 intro pins s σ H x v U Y lo hi S Q I M hs G J h;obtain⟨a,xs,rfl,D,q⟩:=h;cases M;obtain⟨N,r,g,F⟩:=(I.list D);have j:=r.length;refine⟨"list",_,slot_list_getitem.lookup,g.isList.typeIs,wpAny_getItem_list_slice g.isList hs G J .none (by simp) ?_ (by grind)⟩;rw[xT,<- j];refine⟨.ref s.heap.objs.size,_,I.laid (t':=s.toks) (fun b O q=>AC _ q) (AH _) ?_,rfl,q _ (I.hok.fresh (AH _))⟩
 exact⟨AW (sH xs lo hi) F,_,0,(r.drop (HT.sIx xs.length 0 lo)).take (HT.sIx xs.length xs.length hi - HT.sIx xs.length 0 lo),AL _ rfl⟩
noncomputable def fF:V->Bool
 |.non=>true
 |.bl _=>true
 |.int _=>true
 |.str _=>true
 |_=>false
noncomputable def eqV:V->V->Bool
 |.non,.non=>true
 |.bl a,.bl b=>a==b
 |.bl a,.int b=>(if a then 1 else 0)==b
 |.int a,.bl b=>a==(if b then 1 else 0)
 |.int a,.int b=>a==b
 |.str a,.str b=>a==b
 |_,_=>false
def sR(q:RelV y u)(g:RelV x v)(D:fF y=true)(j:fF x=true):SeqAt.EqAt A s u v (eqV y x):=by
 cases y with
 |non =>
  cases q
  cases x with
  |non=>cases g;exact DX _
  |bl b=>cases g;exact SeqAt.EqAt.none_bool b
  |int b=>obtain⟨t,rfl⟩:=g;exact SeqAt.EqAt.none_int b t
  |str b=>obtain⟨t,rfl⟩:=g;exact SeqAt.EqAt.none_str b t
  |_=>exact absurd j AO
 |bl a =>
  cases q
  cases x with
  |non=>cases g;exact SeqAt.EqAt.bool_none a
  |bl b=>cases g;exact SeqAt.EqAt.bool_bool a b
  |int b=>obtain⟨t,rfl⟩:=g;exact SeqAt.EqAt.bool_int a b t
  |str b=>obtain⟨t,rfl⟩:=g;exact SeqAt.EqAt.bool_str a b t
  |_=>exact absurd j AO
 |int a =>
  obtain⟨t',rfl⟩:=q
  cases x with
  |non=>cases g;exact SeqAt.EqAt.int_none a t'
  |bl b=>cases g;exact SeqAt.EqAt.int_bool a t' b
  |int b=>obtain⟨t,rfl⟩:=g;exact SeqAt.EqAt.int_int a t' b t
  |str b=>obtain⟨t,rfl⟩:=g;exact SeqAt.EqAt.int_str a t' b t
  |_=>exact absurd j AO
 |str a =>
  obtain⟨t',rfl⟩:=q
  cases x with
  |non=>cases g;exact SeqAt.EqAt.str_none a t'
  |bl b=>cases g;exact SeqAt.EqAt.str_bool a t' b
  |int b=>obtain⟨t,rfl⟩:=g;exact SeqAt.EqAt.str_int a t' b t
  |str b=>obtain⟨t,rfl⟩:=g;exact SeqAt.EqAt.str_str a t' b t
  |_=>exact absurd j AO
 |_=>exact absurd D AO
noncomputable def eqU(x:V)(u:Value):Bool:=match u with
 |.none=>eqV .non x
 |.bool b=>eqV (.bl b) x
 |.int i _=>eqV (.int i) x
 |.str z _=>eqV (.str z) x
 |_=>false
def Gj(r:RelV y u)(f:fF y=true):eqU x u=eqV y x:=by
 cases y with
 |non=>cases r;rfl
 |bl b=>cases r;rfl
 |int i=>obtain⟨t,rfl⟩:=r;rfl
 |str z=>obtain⟨t,rfl⟩:=r;rfl
 |_=>exact absurd f AO
theorem Qn: ∀{xs}{g},Vals xs g->xs.all fF=true->g.any (eqU x)=xs.any fun y=>eqV y x
 |_,_,.nil,_=>rfl
 |y::xs,u::g,.cons r t,f=>by
  rw[DI,BF] at f;rw[BI,BI,Gj r f.1,Qn t f.2]
theorem kR(D:RelV x v)(q:fF x=true):∀{xs}{j},Vals xs j->xs.all fF=true->∀u∈j,SeqAt.EqAt A s u v (eqU x u)
 |_,_,.nil,_=>fun u g=>by cases g
 |y::xs,u::j,.cons r t,f=>fun F g=>by
  rw[DI,BF] at f
  rcases Aj.mp g with rfl | g
  .exact (Gj r f.1)▸sR r D f.1 q
  .exact kR D q t f.2 F g
def inV(x:V)(xs:List V):Bool:=xs.any fun y=>eqV y x
def rIn(K:Dm)(g:Bool):R2:=fun x y H Q=>∃p xs,y=.ref p/\(SqL K H p xs\/SqT K H p xs)/\fF x=true/\xs.all fF=true/\Q (.bl (if g then !inV x xs else inV x xs)) H
def Vi:OpR X (compareOp .In) (rIn X.K false):=by
 intro pins s σ H x y v u Q I J N h;obtain⟨p,xs,rfl,g,F,fs,q⟩:=h;cases N
 rcases g with g | g
 .obtain ⟨j,r,D,M⟩:=I.list g
  refine SeqAt.in_listAt (eqU x) D.isList (fun w G=>kR J F r fs w (by grind)) ⟨.bl _,H,I,rfl,?_⟩;rw[show j.toArray.any (eqU x)=j.any (eqU x) by simp,Qn r fs];exact q
 .obtain ⟨j,r,D,M⟩:=I.tuple g
  refine SeqAt.in_tupleAt (eqU x) D (fun w G=>kR J F r fs w (by simpa using G)) ⟨.bl _,H,I,rfl,?_⟩;rw[show j.toArray.any (eqU x)=j.any (eqU x) by simp,Qn r fs];exact q
def Qe:CallR X (.builtin "len") (fun xs H Q=>∃p ys,xs=[.ref p]/\(SqL X.K H p ys\/SqT X.K H p ys)/\Q (.int ys.length) H):=by
 intro pins s σ H xs N Q I r h;obtain⟨p,ys,rfl,g,q⟩:=h;obtain⟨u,rfl,rfl⟩:=fG r;have M:=mB
 rcases g with g | g
 .obtain ⟨J,F,D,G⟩:=I.list g
  have j:=F.length;exact Calls.call_len_list D.isList (by grind) ⟨.int ys.length,H,I.tok _,⟨s.toks+1,by rw[Al,j]⟩,q⟩
 .obtain ⟨J,F,D,G⟩:=I.tuple g
  have j:=F.length;exact len_tuple D (by simp only[List.size_toArray]<;>lia) ⟨.int ys.length,H,I.tok _,⟨s.toks+1,by rw[Al,j]⟩,q⟩
def Qd:CallR X (.builtin "len") (fun xs H Q=>∃z,xs=[.str z]/\z.length<=sizeLine/\Q (.int z.length) H):=by
 intro pins s σ H xs D Q I r h;obtain⟨z,rfl,j,q⟩:=h;obtain⟨u,rfl,t,rfl⟩:=fG r;have g:=mB;exact len_str (by lia) ⟨.int z.length,H,I.tok _,⟨_,rfl⟩,q⟩
def CallR.or(h:CallR X f r)(h':CallR X f j):CallR X f (fun xs H Q=>r xs H Q\/j xs H Q):=by
 intro pins s σ H xs g Q I rs q
 rcases q with q | q
 .exact h pins s σ H xs g Q I rs q
 .exact h' pins s σ H xs g Q I rs q
def cU:CallR X (.type "list") (fun xs H Q=>∃p ys,xs=[.ref p]/\(SqL X.K H p ys\/SqT X.K H p ys)/\∀l,H l=none->Q (.ref l) (upd H l (.lst ys))):=by
 intro pins s σ H xs Z Q I r h;obtain⟨p,ys,rfl,F,q⟩:=h;obtain⟨u,rfl,rfl⟩:=fG r
 have U:∀g,Vals ys g->ys.length<=sizeLine->∀h' j,(∀b o',s.heap.get? b=some o'->h'.get? b=some o') ->
   h'.get? s.heap.objs.size=some { cls:=.type "list",dict:=none,data:=.seq g.toArray j,slots:=#[] }->EP X pins σ Q (.ref s.heap.objs.size) { s with heap:=h' }:=fun g D G h' j J e=>
  ⟨.ref s.heap.objs.size,_,I.laid (t':=s.toks) J (AH _) (show ObjOk X.prog X.w _ h' _ (.lst ys) from⟨G,g,j,D,e⟩),rfl,q _ (I.hok.fresh (AH _))⟩
 rcases F with F | F
 .obtain ⟨g,D,S,G⟩:=I.list F
  have Y:=D.length;obtain⟨o,O,M,n,N⟩:=S.isList;exact call_list_seq p (.inl rfl) O M N (fun h' j J e=>U g D G h' j J e) (by grind)
 .obtain ⟨g,D,S,G⟩:=I.tuple F
  have Y:=D.length;obtain⟨o,O,M,n,N⟩:=S;exact call_list_seq p (.inr rfl) O M N (fun h' j J e=>U g D G h' j J e) (by simp only[List.size_toArray]<;>omega)
def nT:CallR X (.type "tuple") (fun xs H Q=>∃p ys,xs=[.ref p]/\((SqL X.K H p ys/\∀l,H l=none->Q (.ref l) (upd H l (.tup ys)))\/(SqT X.K H p ys/\Q (.ref p) H))):=by
 intro pins s σ H xs S Q I r h;obtain⟨p,ys,rfl,h⟩:=h;obtain⟨u,rfl,rfl⟩:=fG r
 rcases h with ⟨g,q⟩ | ⟨g,q⟩
 .obtain ⟨J,D,j,G⟩:=(I.list g)
  have O:=D.length;refine call_tuple_list j.isList (fun h' N=>?_) (by grind);have F:=I.kept (t':=s.toks) N
  have M :=
   F.laid (t':=s.toks) (fun b o e=>AC _ e) (AH _) (show ObjOk X.prog X.w _ _ _ (.tup ys) from⟨G,J,D,ji.new _ _⟩)
  exact⟨.ref h'.objs.size,_,M,rfl,q _ (F.hok.fresh (AH _))⟩
 .exact hZ (I.tuple g) fun J D j G=>call_tuple_same j ⟨.ref p,H,I,rfl,q⟩
def tyV(K:Dm)(T:String)(x:V)(H:Hp):Prop:=match x with
 |.str _=>T = "str"
 |.int _=>T = "int"
 |.ref p=>(T = "list"/\∃xs,SqL K H p xs)\/(T = "tuple"/\∃o,K.lookup p=some o/\o.cls=.type "tuple"/\o.dict=none) \/
   (T = "dict"/\((∃kvs,H p=some (.dK kvs))\/∃kvs,H p=some (.dT kvs)))\/(T = "set"/\∃S n,H p=some (.set S n))
 |_=>False
def Wm{σ:St}(I:Inv X pins σ H s)(r:RelV x v)(ty:tyV X.K T x H):
  s.TypeIs v T/\∀a,v=.ref a->∃D,s.heap.get? a=some D/\D.dict=none:=by
 cases x with
 |str z =>
  obtain⟨t,rfl⟩:=r;cases ty;exact⟨typeIs_str s z t,fun _ e=>nomatch e⟩
 |int i =>
  obtain⟨t,rfl⟩:=r;cases ty;exact⟨typeIs_int s i t,fun _ e=>nomatch e⟩
 |ref p =>
  cases r
  rcases ty with ⟨rfl,xs,J⟩ | ⟨rfl,o,g,G,q⟩ | ⟨rfl,g⟩ | ⟨rfl,S,n,g⟩
  .refine hZ (I.list J) fun M _ F _=>⟨F.isList.typeIs,fun a e=>?_⟩
   cases e;exact cT F fun o n e c q _=>⟨o,e,q⟩
  .refine ⟨⟨o,I.kIn p o g,G⟩,fun a e=>?_⟩
   cases e;exact⟨o,I.kIn _ o g,q⟩
  .have z:∃o,s.heap.get? p=some o/\o.ExactDict:=by
    rcases g with ⟨kvs,g⟩ | ⟨kvs,g⟩
    .obtain ⟨_,_,_,_,o,_,_,e,ex,_⟩:=I.hok p _ g
     exact⟨o,e,ex⟩
    .obtain ⟨_,_,_,_,o,_,_,e,ex,_⟩:=I.hok p _ g
     exact⟨o,e,ex⟩
   obtain⟨o,e,ex⟩:=z;refine⟨⟨o,e,ex.1⟩,fun a j=>?_⟩;cases j;exact⟨o,e,ex.2.1⟩
  .refine TV (I.hok p _ g) fun o _ _ _ e ex _=>⟨⟨o,e,ex.1⟩,fun a j=>?_⟩
   cases j;exact⟨o,e,ex.2.1⟩
 |_=>exact False.elim ty
def tBM0(K:Dm)(T:String)(r:V->List V->Hp->VK->Prop)(to:TE):TE:=fun σ H Q=>to σ H fun x H1=>tyV K T x H1/\r x [] H1 Q
def tBM(K:Dm)(T:String)(r:V->List V->Hp->VK->Prop)(to:TE)(t:TA):TE:=fun σ H Q=>to σ H fun x H1=>tyV K T x H1/\t σ H1 fun xs H2=>r x xs H2 Q
variable {o e:Expr}{es:List Expr}{to:TE}{t:TA}{name:Str}{apos cpos:Pos}{T id:String}{r:V->List V->Hp->VK->Prop}
def Zr(M:PlainAttrs T)(S:Slot T name id)(J:typeOf (.builtin id)=pure (.type "method_descriptor"))(F:MtR X id r)(G:PE X o to)(q:attributeBase o name X.env (eval o X.env)=eval o X.env:=by rfl)(D:(apos.endLine==cpos.line)=true:=by rfl):PE X (.Call (.Attribute o name apos) [] [] cpos) (tBM0 X.K T r to):=by
 intro pins s σ H Q I h;refine wpAny_Call_method0_late q D (thn (G pins s σ H _ I h) fun v O U=>cT U fun x H1 g j ty N=>?_);obtain⟨h1,h2⟩:=Wm g j ty;exact⟨T,id,M,S,J,h1,h2,Ci rfl (PySem.evalArgs_none (F pins O σ H1 x [] v [] Q g j .nil N))⟩
def pe_bm(U:PlainAttrs T)(af:Slot T name id)(S:typeOf (.builtin id)=pure (.type "method_descriptor"))(N:MtR X id r)(O:PE X o to)(F:PA X (e::es) t)(G:attributeBase o name X.env (eval o X.env)=eval o X.env:=by rfl)(J:((backTo cpos (starEach (e::es) X.env)).all (fun x=>!x.1)&&(backToKw cpos (keywordEach [] X.env)).all (fun x=>x.1.isSome)
   && decide ((e::es).length+([]:List Keyword).length+(if ([]:List Keyword).isEmpty then 0 else 1) < 30))=true:=by rfl)(M:(apos.endLine==cpos.line)=true:=by rfl)(hs:starEach (e::es) X.env=(false,eval e X.env)::starEach es X.env:=by rfl)(ah:(backTo cpos (starEach es X.env)).any (·.1)=false:=by rfl):
  PE X (.Call (.Attribute o name apos) (e::es) [] cpos) (tBM X.K T r to t):=by
 intro pins s σ H Q I h;refine wpAny_Call_method_late G J M rfl (thn (O pins s σ H _ I h) fun v ab zq=>cT zq fun x H1 g q ty Y=>?_);obtain⟨h1,h2⟩:=Wm g q ty;refine⟨T,id,U,af,S,h1,h2,?_⟩;have j:=F cpos pins ab σ H1 _ g Y;rw[hs] at j ⊢;exact Ci (by grind) (Dl (thn j fun ag ae zz=>kZ zz fun vs H2 D r2 Z=> N pins ae σ H2 x vs v ag Q D q r2 Z))
end
def MtM(X:Cx)(id:String)(r:V->List V->Hp->VK->Prop):Prop :=
 ∀(pins:List (Addr×Obj))(s:Shared)(σ:St)(H:Hp)(x:V)(xs:List V)(v:Value)(g:List Value)(Q:VK),Inv X pins σ H s->RelV x v->Vals xs g->r x xs H Q ->
  wpAny (model X.prog X.w) X.A (call (.builtin id) (v::g)) (EP X pins σ Q) X.xe s
def Vals.one(h:Vals [x] g):∃u,g=[u]/\RelV x u:=by
 cases h with
 |cons r h =>
  cases h;exact⟨_,rfl,r⟩
def Vals.two(h:Vals [x,y] g):∃u v,g=[u,v]/\RelV x u/\RelV y v:=by
 cases h with
 |cons r h =>
  obtain⟨v,rfl,q⟩:=Vals.one h;exact⟨_,v,rfl,r,q⟩
theorem Vals.zero:∀{g},Vals [] g->g=[]
 |_,.nil=>rfl
def Vals.dropLast(h:Vals xs j):Vals xs.dropLast j.dropLast:=by
 induction h with
 |nil=>exact .nil
 |cons r t g =>
  cases t with
  |nil=>exact .nil
  |cons q t'=>exact .cons r g
theorem Vals.eraseIdx:∀{xs}{g}i,Vals xs g->Vals (xs.eraseIdx i) (g.eraseIdx i)
 |_,_,_,.nil=>.nil
 |_,_,0,.cons _ t=>t
 |_,_,i+1,.cons r t=>.cons r (Vals.eraseIdx i t)
def Vals.reverse(h:Vals xs j):Vals xs.reverse j.reverse:=by
 induction h with
 |nil=>exact .nil
 |cons r t g=>rw[Bj,Bj];exact Vals.append g (.cons r .nil)
theorem aO{α:Type}:∀(l:List α)i,(l.eraseIdx i).length<=l.length
 |[],_=>AH _
 |_::_,0=>BU _
 |_::r,i+1=>Nat.succ_le_succ (aO r i)
section
variable {X:Cx}{pins:List (Addr×Obj)}{σ:St}{H:Hp}{s:Shared}{l b:Addr}{xs ys zs:List V}
def Inv.lset{g:List Value}(I:Inv X pins σ H s)(j:H l=some (.lst xs))(e:s.heap.get? l=some { cls:=.type "list",data:=.seq g.toArray n })(F:f g.toArray=its'.toArray)(J:Vals ys its')(M:ys.length<=sizeLine):
  Inv X pins σ (upd H l (.lst ys)) { s with heap:=s.heap.update l (Obj.mapSeq f),toks:=t' }:=by
 have q:=PySem.IsL.update e f;rw[F] at q;refine I.write (j▸trivial) (.inl rfl) (fun N u D G=>(BE s.heap (Obj.mapSeq f) (Ne.symm D)).trans G) ⟨_,q⟩ ?_;exact⟨M,its',_,J,q⟩
def Inv.lnew(I:Inv X pins σ H s)(j:Vals ys g)(D:ys.length<=sizeLine):
  Inv X pins σ (upd H s.heap.objs.size (.lst ys)) { s with heap:=s.heap.push { cls:=.type "list",data:=.seq g.toArray },toks:=t' } :=
 I.laid (fun _ _ q=>AC _ q) (AH _) ⟨D,g,0,j,AL _ rfl⟩
def Inv.fresh(I:Inv X pins σ H s):H s.heap.objs.size=none:=I.hok.fresh (AH _)
def Inv.lstM(I:Inv X pins σ H s)(j:H l=some (.lst xs)):xs.length<=sizeLine/\∃g n,Vals xs g/\xs.length=g.length/\s.heap.get? l=some { cls:=.type "list",data:=.seq g.toArray n }:=by
 obtain⟨z,g,n,r,e⟩:=I.hok l _ j;exact⟨z,g,n,r,r.length,e⟩
def Yv(h:n<=sizeLine):Builtin.List.listTooLong n=false :=AN (by lia)
end
section
variable {X:Cx}
def JX:V->List V->Hp->VK->Prop:=fun x vs H Q=>∃l xs y,x=.ref l/\vs=[y]/\H l=some (.lst xs)/\xs.length < sizeLine/\Q .non (upd H l (.lst (xs++[y])))
def oO:MtM X "list.append" JX:=by
 intro pins s σ H x vs v O Q I J G h;obtain⟨l,xs,y,rfl,rfl,g,N,q⟩:=h;cases J;obtain⟨u,rfl,D⟩:=G.one;obtain⟨z,j,n,r,M,e⟩:=I.lstM g;refine Cb F.slot_list_append ⟨_,e,rfl⟩ F.entry_list_append (F.args_list_append_2 _ _) (PySem.list_append l j.toArray n u (by grind)) ⟨e,⟨.non,_,I.lset (its':=j++[u]) g e (by simp) (r.append (.cons D .nil)) ?_,rfl,q⟩⟩;rw[AJ,Aa]
 lia
def JV:V->List V->Hp->VK->Prop:=fun x vs H Q=>∃l b xs zs,x=.ref l/\vs=[.ref b]/\H l=some (.lst xs)/\H b=some (.lst zs)/\xs.length+zs.length<=sizeLine/\Q .non (upd H l (.lst (xs++zs)))
def sO:MtM X "list.extend" JV:=by
 intro pins s σ H x vs v ab Q I U S h;obtain⟨l,b,xs,zs,rfl,rfl,D,J,hz,q⟩:=h;cases U;obtain⟨u,rfl,rfl⟩:=S.one;obtain⟨z,g,n,r,Y,e⟩:=I.lstM D;obtain⟨z2,j,N,O,Z,G⟩:=I.lstM J;have hsz:g.toArray.size+j.toArray.size<=sizeLine :=by simp;lia
 have M:¬ (!g.toArray.isEmpty&&Builtin.List.listTooLong (g.toArray.size+j.toArray.size))=true:=by
  rw[Yv hsz,Bool.and_false];exact AO
 refine Cb F.slot_list_extend ⟨_,e,rfl⟩ F.entry_list_extend (F.args_list_extend_2 _ _)
  (AutoSeq1.list_extend_list_list_0 l g.toArray n b j.toArray N M (by lia) (by lia)) ⟨e,G,?_⟩
 refine⟨.non,_,I.lset (its':=g++j) D e (by simp) (r.append O) ?_,rfl,q⟩;rw[AJ]
 lia
def rPop:V->List V->Hp->VK->Prop:=fun x vs H Q=>∃l xs y,x=.ref l/\vs=[]/\H l=some (.lst xs)/\xs[xs.length - 1]?=some y/\Q y (upd H l (.lst xs.dropLast))
def YA:MtM X "list.pop" rPop:=by
 intro pins s σ H x vs v Y Q I O N h;obtain⟨l,xs,y,rfl,rfl,j,G,q⟩:=h;cases O;have D:=N.zero;subst D;obtain⟨z,g,n,r,S,e⟩:=I.lstM j;obtain⟨u,U,M⟩:=(r.get G);have J:g.toArray[g.toArray.size - 1]?=some u :=by grind
 refine Cb F.slot_list_pop ⟨_,e,rfl⟩ F.entry_list_pop (F.args_list_pop_1 _) (MeetsSeq.list_pop_last l g.toArray n u J (by grind)) ⟨e,?_⟩;refine⟨y,_,I.lset (its':=g.dropLast) j e ?_ r.dropLast ?_,M,q⟩
 .grind
 .grind
def WL:V->List V->Hp->VK->Prop:=fun x vs H Q=>∃l xs i k y,x=.ref l/\vs=[.int i]/\H l=some (.lst xs)/\-(2 ^ 63)<=i/\i < 2 ^ 63/\seqIndex? i xs.length=some k/\xs[k]?=some y/\Q y (upd H l (.lst (xs.eraseIdx k)))
def Yz:MtM X "list.pop" WL:=by
 intro pins s σ H x vs v Y Q I N J h;obtain⟨l,xs,i,k,y,rfl,rfl,g,h1,h2,O,D,q⟩:=h;cases N;obtain⟨u,rfl,G⟩:=J.one;obtain⟨t,rfl⟩:=G;obtain⟨z,j,n,r,S,e⟩:=I.lstM g
 refine oQ (r.get D) fun w U M=>Cb F.slot_list_pop ⟨_,e,rfl⟩ F.entry_list_pop (F.args_list_pop_2 _ _)
  (MeetsSeq.list_pop_at l j.toArray n i t k w (fitsIndex_both h1 h2) (by simp_all) (by simp_all) (by simp_all)) ⟨e,?_⟩
 refine⟨y,_,I.lset (its':=j.eraseIdx k) g e ?_ (r.eraseIdx k) ?_,M,q⟩
 .simp_all
 .have:=aO xs k
  lia
def QN:V->List V->Hp->VK->Prop:=fun x vs H Q=>∃l xs,x=.ref l/\vs=[]/\H l=some (.lst xs)/\Q .non (upd H l (.lst xs.reverse))
def ZA:MtM X "list.reverse" QN:=by
 intro pins s σ H x vs v N Q I J G h;obtain⟨l,xs,rfl,rfl,g,q⟩:=h;cases J;have D:=G.zero;subst D;obtain⟨z,j,n,r,M,e⟩:=I.lstM g;refine Cb F.slot_list_reverse ⟨_,e,rfl⟩ F.entry_list_reverse (F.args_list_reverse_1 _) (AutoSeq1.list_reverse_list_0 l j.toArray n (by grind)) ⟨e,⟨.non,_,I.lset (its':=j.reverse) g e (by simp) r.reverse ?_,rfl,q⟩⟩;rw[Bk];omega
def rCat:R2:=fun x y H Q=>∃l b xs zs,x=.ref l/\y=.ref b/\H l=some (.lst xs)/\H b=some (.lst zs)/\xs.length+zs.length<=sizeLine/\∀p,H p=none->Q (.ref p) (upd H p (.lst (xs++zs)))
def op_cat:OpR X (binaryOp .Add) rCat:=by
 intro pins s σ H x y v u Q I N O h;obtain⟨l,b,xs,zs,rfl,rfl,J,G,Y,q⟩:=h;cases N;cases O;obtain⟨z,g,n,r,S,e⟩:=I.lstM J;obtain⟨z2,j,Z,M,U,D⟩:=I.lstM G;refine PySem.P.add_list e D ?_ (by grind);have F:g.toArray++j.toArray=(g++j).toArray:=by simp
 exact F▸⟨.ref _,_,I.lnew (t':=s.toks) (r.append M) (by grind),rfl,q _ I.fresh⟩
end
section
variable {κ:Type}[DecidableEq κ]
noncomputable def aY(kvs:List (κ×V))(k:κ):Option V:=(kvs.find? fun g=>decide (g.1=k)).map (·.2)
noncomputable def xV(kvs:List (κ×V))(k:κ)(v:V):List (κ×V) :=
 if (kvs.any fun g=>decide (g.1=k))=true then kvs.map (fun g=>if g.1=k then (g.1,v) else g) else kvs++[(k,v)]
theorem dD{k:κ}(e:p.1=k):aY (p::r) k=some p.2 :=by simp_all[aY]
def cD{k:κ}(e:¬ p.1=k):aY (p::r) k=aY r k :=by simp_all[aY]
theorem xC k:∀kvs:List (κ×V),(kvs.any fun g=>decide (g.1=k))=(aY kvs k).isSome
 |[]=>rfl
 |p::r=>by
  rw[BI]
  by_cases e:p.1=k
  .simp only[dD e,decide_eq_true e,Bool.true_or,Option.isSome_some]
  .rw [cD e,AN e];exact xC k r
def bW kvs(k:κ)v:(xV kvs k v).length<=kvs.length+1 :=by grind[xV,List.length_map,List.length_append,List.length_cons,List.length_nil]
def RelO.isSome_eq(r:RelO o u):o.isSome=u.isSome:=by
 cases o with
 |none=>cases u with
  |none=>rfl
  |some _=>exact r.elim
 |some _=>cases u with
  |none=>exact r.elim
  |some _=>rfl
def RelO.getD(r:RelO o u)(g:RelV d d'):RelV (o.getD d) (u.getD d'):=by
 cases o with
 |none=>cases u with
  |none=>exact g
  |some _=>exact r.elim
 |some _=>cases u with
  |none=>exact r.elim
  |some _=>exact r
def KV.val(r:KV kvs vs)(k:κ):RelO (aY kvs k) (valueAt vs k):=by
 induction r with
 |nil=>exact True.intro
 |@cons p q ps qs h t j =>
  obtain⟨h1,h2⟩:=h
  by_cases e:p.1=k
  .have g:=h1.symm.trans e
   have b:valueAt (q::qs) k=some q.2:=by simp[valueAt,List.find?_cons,g]
   rwa [dD e,b]
  .have g:¬ q.1=k:=fun z=>e (h1.trans z)
   have b:valueAt (q::qs) k=valueAt qs k:=by simp[valueAt,List.find?_cons,g]
   rwa [cD e,b]
def KV.any(r:KV kvs vs)(k:κ):(kvs.any fun g=>decide (g.1=k))=vs.any fun g=>decide (g.1=k):=by
 induction r with
 |nil=>rfl
 |cons h t j=>rw[BI,BI,j,h.1]
def KV.repl(r:KV kvs vs)(k:κ)(D:RelV y u):
  KV (kvs.map fun g=>if g.1=k then (g.1,y) else g) (vs.map fun g=>if g.1=k then (g.1,u) else g):=by
 induction r with
 |nil=>exact .nil
 |@cons p q ps qs h t j =>
  refine .cons ?_ j;obtain⟨h1,h2⟩:=h
  by_cases e:p.1=k
  .lia
  .lia
theorem KV.put(r:KV kvs vs)(k:κ)(g:RelV y u):KV (xV kvs k y) (stored vs k u):=by
 delta xV stored
 rw[r.any k]
 by_cases e:(vs.any fun j=>decide (j.1=k))=true
 .rw [Ah e,Ah e];exact r.repl k g
 .rw [Af e,Af e];exact Paired.snoc r ⟨rfl,g⟩
def KV.length{vs:List (κ×Value)}(r:KV kvs vs):kvs.length=vs.length:=Paired.length r
end
def zE(r:RelV (kV k) u):(uX P w).is k u=true:=by
 rcases k with (_ | i) | x
 .cases r;exact iA P w
 .obtain ⟨t,rfl⟩:=r;exact Xf P w i t
 .obtain ⟨t,rfl⟩:=r;exact Xe P w x t
theorem jE: ∀{g}{j},Vals (g.map kV) j->ItemsAre (uX P w) g j
 |[],_,r=>by cases r;exact .nil
 |k::g,_,r=>by
  cases r with
  |cons h t=>exact .cons (zE h) (jE t)
abbrev KT(H:Hp):List (List Key×V)->List (List Key×Addr×Value)->Prop:=Paired fun p q=>p.1=q.1/\H q.2.1=some (.tup (p.1.map kV))/\RelV p.2 q.2.2
def KT.val(r:KT H kvs xs)k:RelO (aY kvs k) ((atKey xs k).map (·.2)):=by
 induction r with
 |nil=>exact True.intro
 |@cons p q ps qs h t j =>
  obtain⟨h1,_,h2⟩:=h
  by_cases e:p.1=k
  .have g:=h1.symm.trans e
   have b:atKey (q::qs) k=some q.2:=by simp[atKey,List.find?_cons,g]
   rwa [dD e,b]
  .have g:¬ q.1=k:=fun z=>e (h1.trans z)
   have b:atKey (q::qs) k=atKey qs k:=by simp[atKey,List.find?_cons,g]
   rwa [cD e,b]
def KT.repl(r:KT H kvs xs)k(F:RelV y u):
  KT H (kvs.map fun g=>if g.1=k then (g.1,y) else g) (xs.map (putAt k u)):=by
 induction r with
 |nil=>exact .nil
 |@cons p q ps qs h t j =>
  refine .cons (XB h fun h1 h2 D=>?_) j
  delta putAt
  by_cases e:p.1=k
  .lia
  .lia
theorem KT.put(r:KT H kvs xs)k(j:H b=some (.tup (k.map kV)))(g:RelV y u):
  KT H (xV kvs k y) (storedH xs k b u):=by
 have e:(kvs.any fun D=>decide (D.1=k))=(atKey xs k).isSome:=by
  rw[xC,(r.val k).isSome_eq,Option.isSome_map]
 delta xV storedH
 rw[e]
 by_cases q:(atKey xs k).isSome=true
 .rw [Ah q,Ah q];exact r.repl k g
 .rw [Af q,Af q];exact Paired.snoc r ⟨rfl,j,g⟩
def KT.keeps(r:KT H kvs xs)(g:∀b ys,H b=some (.tup ys)->H' b=some (.tup ys)):KT H' kvs xs :=
 Paired.mapP r fun _ _ z=>⟨z.1,g _ _ z.2.1,z.2.2⟩
section
variable {P:Program}{w:World}{H:Hp}{h:Heap}{a:Addr}
def rd_of(g:HOk P w H h)(e:Rd H a u):ObjOk P w H h a u:=e.ok g
def pE(g:HOk P w H h)(e:Rd H a (.dK kvs)):kvs.length<=sizeLine/\(a==sysModules)=false/\∃vs,KV kvs vs/\h.DictOf (uX P w) a vs :=
 show ObjOk P w H h a (.dK kvs) from rd_of g e
def eR(g:HOk P w H h)(e:H a=some (.dK kvs)):kvs.length<=sizeLine/\(a==sysModules)=false/\∃vs,KV kvs vs/\h.DictOf (uX P w) a vs:=pE g (.inl e)
def pB(D:HOk P w H h)(e:H a=some (.tup (q.map kV))):(tupleKind (uX P w)).is h q a:=by
 obtain⟨_,j,r,o,h1,h2,⟨n,g⟩,_⟩:=(D a _ e);exact⟨o,j.toArray,n,h1,h2,g,by simpa using jE r⟩
def XD(D:HOk P w H h)(e:Rd H a (.dT kvs)):kvs.length<=sizeLine/\(a==sysModules)=false /\
  ∃xs,KT H kvs xs/\h.DictOfH (tupleKind (uX P w)) a xs:=by
 obtain⟨z,y,xs,r,o,es,ep,h1,h2,G,I,J⟩:=(rd_of D e);refine⟨z,y,xs,r,o,es,ep,h1,h2,G,I,fun x g=>?_,J⟩
 have F:∀{l:List (List Key×V)}{m:List (List Key×Addr×Value)},KT H l m->∀x∈m,(tupleKind (uX P w)).is h x.1 x.2.1:=by
  intro l m q
  induction q with
  |nil=>intro x g;exact nomatch g
  |@cons p q ps qs j t M =>
   intro x g
   rcases Aj.mp g with e | g
   .subst e
    exact pB D (j.1▸j.2.1)
   .exact M x g
 exact F r x g
def Gm(g:HOk P w H h)(e:H a=some (.dT kvs)):kvs.length<=sizeLine/\(a==sysModules)=false /\
  ∃xs,KT H kvs xs/\h.DictOfH (tupleKind (uX P w)) a xs:=XD g (.inl e)
end
def DGet(H:Hp)(a:Addr)(y:V)(r:Option V):Prop :=
 (∃kvs k,Rd H a (.dK kvs)/\y=kV k/\r=aY kvs k)\/∃kvs k b,Rd H a (.dT kvs)/\y=.ref b/\H b=some (.tup (k.map kV))/\r=aY kvs k
def DPut(H:Hp)(a:Addr)(y v:V)(H':Hp):Prop :=
 (∃kvs k,H a=some (.dK kvs)/\y=kV k/\kvs.length < sizeLine/\H'=upd H a (.dK (xV kvs k v))) \/
 ∃kvs k b,H a=some (.dT kvs)/\y=.ref b/\H b=some (.tup (k.map kV))/\kvs.length < sizeLine/\H'=upd H a (.dT (xV kvs k v))
theorem DGet.t{k}(e:H a=some (.dT kvs))(g:H b=some (.tup (k.map kV))):DGet H a (.ref b) (aY kvs k):=.inr ⟨kvs,k,b,.inl e,rfl,g,rfl⟩
theorem DPut.k{k}(e:H a=some (.dK kvs))(g:kvs.length < sizeLine):DPut H a (kV k) v (upd H a (.dK (xV kvs k v))):=.inl ⟨kvs,k,e,rfl,g,rfl⟩
theorem DPut.t{k}(e:H a=some (.dT kvs))(g:H b=some (.tup (k.map kV)))(j:kvs.length < sizeLine):
  DPut H a (.ref b) v (upd H a (.dT (xV kvs k v))):=.inr ⟨kvs,k,b,e,rfl,g,j,rfl⟩
section
variable {X:Cx}{pins:List (Addr×Obj)}{σ:St}{H:Hp}{s:Shared}{a:Addr}{y v:V}{u r:Value}{o:Option V}{A:Around}{E:Value->Shared->Prop}
def Inv.big(I:Inv X pins σ H s):sysModules < s.heap.objs.size :=Nat.lt_trans (by decide) ((I.mod.glob.keeps I.bk).lt)
def VM(Y:A.units+1 < cLine)(I:Inv X pins σ H s)(g:DGet H a y (some v))(M:RelV y u)(h:∀j s',Inv X pins σ H s'->RelV v j->Q j s'):
  wpAny (model X.prog X.w) A (getItem (.ref a) u) Q E s:=by
 rcases g with ⟨kvs,k,e,D,l⟩ | ⟨kvs,k,b,e,D,N,l⟩
 .subst D
  obtain⟨z,O,vs,G,q⟩:=pE I.hok e;exact oQ (RelO.some_of (l▸G.val k)) fun j F J=>wpAny_getItem_of (zE M) q.mapOf F (h j _ (I.tok _) J)
 .subst D
  cases M;obtain⟨z,O,xs,G,q⟩:=XD I.hok e;refine oQ (RelO.some_of (l▸G.val k)) fun j F J=>oQ (Option.map_eq_some_iff.mp F) fun p S U=>?_;exact wpAny_getItem_heap (tupleKind_room_in1 Y) (pB I.hok N) q S (U▸h j _ (I.tok _) J)
def dN(I:Inv X pins σ H s)(F:Mut (H a))(hs:Heap.SameBut a s.heap h')(D:∃q,h'.get? a=some q)(G:ObjOk X.prog X.w (upd H a g) h' a g):
  Inv X pins σ (upd H a g) { s with heap:=h',toks:=t' } :=
 I.write F (.inl rfl) (fun b q j z=>(hs.2 b j).trans z) D G
def bI(z:kvs.length<=sizeLine)(j:(a==sysModules)=false)(q:KV kvs vs)(g:h'.DictOf (uX P w) a vs):
  ObjOk P w H' h' a (.dK kvs):=⟨z,j,vs,q,g⟩
def VL(hu:A.units+1 < cLine)(I:Inv X pins σ H s)(g:DPut H a y v H')(Z:RelV y u)(Y:RelV v r)(h:∀s',Inv X pins σ H' s'->Q () s'):
  wpAny (model X.prog X.w) A (setItem (.ref a) u r) Q E s:=by
 rcases g with ⟨kvs,k,e,M,l,J⟩ | ⟨kvs,k,b,e,M,S,l,J⟩
 .subst M J
  obtain⟨z,N,vs,j,G⟩:=eR I.hok e;have hz:vs.length<=sizeLine:=by rwa [<- j.length]
  have O:(xV kvs k v).length<=sizeLine:=by have:=bW kvs k v;lia
  refine wpAny_setItem_pairs (zE Z) G fun h' D hs=>h _ ?_;have ab:∃q,h'.get? a=some q:=let ⟨q,_,_,F,_⟩:=D;⟨q,F⟩
  exact dN I (e▸True.intro) hs ab (bI O N (j.put k Y) D)
 .subst M J
  cases Z;obtain⟨z,N,xs,j,G⟩:=Gm I.hok e;have hz:xs.length<=sizeLine:=by rwa [<- Paired.length j]
  have O:(xV kvs k v).length<=sizeLine:=by have:=bW kvs k v;lia
  refine wpAny_setItem_heap (tupleKind_room_in1 hu) (pB I.hok S) G fun h' D hs=>h _ (yz D fun q es ep F h2 h3 h4 _ h5=>dN I (e▸True.intro) hs ⟨q,F⟩ ⟨O,N,_,(j.put k S Y).keeps fun c ys U=>?_,q,es,ep,F,h2,h3,h4,h5⟩);rw[fQ (Yx U e (fun z=>nomatch z))];exact U
end
section
variable {X:Cx}{pins:List (Addr×Obj)}{σ:St}{H:Hp}{s:Shared}{a:Addr}{kvs:List (Key×V)}{k:Key}{u:Value}{A:Around}{E:Value->Shared->Prop}
def d_len(I:Inv X pins σ H s)(e:Rd H a (.dK kvs))(h:∀t s',Inv X pins σ H s'->Q (.int kvs.length t) s'):wpAny (model X.prog X.w) A (call (.builtin "len") [.ref a]) Q E s:=by
 obtain⟨z,q,vs,g,j⟩:=pE I.hok e
 apply call_len_dict q j (by rw[<- g.length];rw[By] at z;lia)
 exact g.length▸h _ _ (I.tok _)
end
def V8(i:Expr):Prop:=∀j g,subscripted i false j g=operate [j,g] (getItem j g)
def JN{id}(M:typeLookup (.type T) "__getitem__" = pure (some (.builtin id)))(hs:V8 D)(h:wpAny (model prog w) A (eval value F) (fun o G=>wpAny (model prog w) A (eval D F) (fun i g=>g.TypeIs o T/\wpAny (model prog w) A (getItem o i) Q E g) E G) E s):
  wpAny (model prog w) A (eval (.Subscript value D pos) F) Q E s:=by
 refine Subscript_ (BM h (fun o G N=>BM N (fun i g q=>?_) fun _ _ x=>x) fun _ _ x=>x);obtain⟨J,q⟩:=q
 apply AA
 refine AA (BK J M ?_);have j:wpAny (model prog w) A (subscripted D false o i) (fun r I=>wpAny (model prog w) A (letTemporaryGo value o r >>= fun _=>pure r) Q E I) E g :=(hs o i)▸wpAny_operating (BM q (fun r I O=>AA (wpAny_letTemporaryGo (AD O))) fun _ _ x=>x)
 first
  |exact AD (AA j)
  |exact AA (AD (AA j))
  |exact AA j
def XI{σ:St}(I:Inv X pins σ H s)(g:DGet H a y o):s.TypeIs (.ref a) "dict":=by
 rcases g with ⟨kvs,k,e,_,_⟩ | ⟨kvs,k,b,e,_,_,_⟩
 .obtain ⟨_,_,vs,_,j⟩:=pE I.hok e
  exact j.typeIs
 .obtain ⟨_,_,xs,_,j⟩:=XD I.hok e
  exact j.typeIs
def tDGet(td ty:TE):TE:=fun σ H Q=>td σ H fun x H1=>ty σ H1 fun y H2=>∃a v,x=.ref a/\DGet H2 a y (some v)/\Q v H2
def sDPut(td ty tv:TE):TS:=fun D σ H=>tv σ H fun v H1=>td σ H1 fun x H2=>ty σ H2 fun y j=>∃a g,x=.ref a/\DPut j a y v g/\D.nx σ g
section
variable {X:Cx}{o i e value:Expr}{pos pos' tpos:Pos}{td ty tv:TE}
def J6(G:X.A.units+1 < cLine)(F:PE X o td)(hi:PE X i ty)(hs:V8 i):PE X (.Subscript o i pos) (tDGet td ty):=by
 intro pins s σ H Q I h;refine JN PySem.F.slot_dict_getitem.lookup hs (thn (F pins s σ H _ I h) fun u U Z=>kZ Z fun x H1 q O J=> thn (hi pins U σ H1 _ q J) fun iv ab Y=>?_);obtain⟨y,H2,j,S,a,v,rfl,g,M⟩:=Y;obtain rfl:u=Value.ref a:=O;exact⟨XI j g,VM G j g S fun w' ae D N=>⟨v,H2,D,N,M⟩⟩
def J2(N:X.A.units+1 < cLine)(M:PE X o td)(hi:PE X i ty)(O:PE X value tv)(hs:swapsWith value (some (.Subscript o i pos')) pos.line X.env=pure false):
  PS X (.Assign [.Subscript o i pos'] value pos) (sDPut td ty tv):=by
 intro pins s σ H af I h;refine wpAny_Assign_Subscript (thn (O pins s σ H _ I h) fun r ab j=>kZ j fun v H1 D Z S=> thn (M pins ab σ H1 _ D S) fun u ae j=>kZ j fun x H2 F rx U=> thn (hi pins ae σ H2 _ F U) fun iv ag zq=>?_) hs;obtain⟨y,H3,G,ry,a,q,rfl,g,Y⟩:=zq;obtain rfl:u=Value.ref a:=rx;exact VL N G g ry Z fun ah J=>⟨σ,q,J,Y⟩
end
def XH(h:Heap)(g:sysModules < h.objs.size):ObjOk P w H (h.push { cls:=.type "dict",data:=.dict #[] }) h.objs.size (.dK []) :=
 ⟨AX _,beq_eq_false_iff_ne.mpr (Ne.symm (AY g)),[],.nil,Heap.DictOf.new h⟩
def oR(h:Heap)(g:sysModules < h.objs.size):ObjOk P w H (h.push { cls:=.type "dict",data:=.dict #[] }) h.objs.size (.dT []) :=
 ⟨AX _,beq_eq_false_iff_ne.mpr (Ne.symm (AY g)),[],.nil,_,#[],0,AL _ rfl,⟨rfl,rfl,rfl⟩,rfl,rfl,Cd⟩
def tDNewK:TE:=fun _ H Q=>∀p,H p=none->Q (.ref p) (upd H p (.dK []))
def tDNewT:TE:=fun _ H Q=>∀p,H p=none->Q (.ref p) (upd H p (.dT []))
section
variable {X:Cx}{pos:Pos}
def Yb:PE X (.Dict [] [] pos) tDNewK:=fun pins s σ H Q I h=>
 wpAny_Dict_empty ⟨.ref s.heap.objs.size,_,I.laid (t':=s.toks) (fun _ _ q=>AC _ q) (AH _) (XH s.heap I.big),rfl,h _ (I.hok.fresh (AH _))⟩
def Ya:PE X (.Dict [] [] pos) tDNewT:=fun pins s σ H Q I h=>
 wpAny_Dict_empty ⟨.ref s.heap.objs.size,_,I.laid (t':=s.toks) (fun _ _ q=>AC _ q) (AH _) (oR s.heap I.big),rfl,h _ (I.hok.fresh (AH _))⟩
end
def yA:List (TE×TE)->St->Hp->(List (V×V)->Hp->Prop)->Prop
 |[],_,H,Q=>Q [] H
 | (j,tv)::r,σ,H,Q=>j σ H fun x H1=>tv σ H1 fun y H2=>yA r σ H2 fun ps g=>Q ((x,y)::ps) g
abbrev VV:List (V×V)->List (Value×Value)->Prop:=Paired fun p q=>RelV p.1 q.1/\RelV p.2 q.2
def PPs(X:Cx)(pos:Pos)(keys:List (Option Expr))(values:List Expr)(g:List (TE×TE)):Prop :=
 ∀(pins:List (Addr×Obj))(s:Shared)(σ:St)(H:Hp)(Q:List (V×V)->Hp->Prop),Inv X pins σ H s->yA g σ H Q ->
  wpAny (model X.prog X.w) X.A (evalPairs (pairTrees keys values X.env pos)) (fun vs s'=>∃ps H',Inv X pins σ H' s'/\VV ps vs/\Q ps H') X.xe s
def pps_nil: PPs X pos [] [] []:=fun pins s σ H Q I h=>pairTrees_nil_walk ⟨[],H,I,.nil,h⟩
def W1(G:PE X k tk)(M:PE X v tv)(J:PPs X pos N vs af):
  PPs X pos (some k::N) (v::vs) ((tk,tv)::af):=fun pins s σ H Q I h=>
 pairTrees_cons_walk (thn (G pins s σ H _ I h) fun u ab g=>kZ g fun x H1 q Z O=> thn (M pins ab σ H1 _ q O) fun w2 ae g=>kZ g fun y H2 D ry S=>
  thn (J pins ae σ H2 _ D S) fun ah ag g=>kZ g fun ps j F Y U=> ⟨(x,y)::ps,j,F,.cons ⟨Z,ry⟩ Y,U⟩)
def pY(kvs j:List (Key×V)):List (Key×V):=j.foldl (fun acc g=>xV acc g.1 g.2) kvs
def KV.merge:∀{g}{rs}{kvs}{vs},KV g rs->KV kvs vs->KV (pY kvs g) (merged vs rs):=by
 intro g rs kvs vs r
 induction r generalizing kvs vs with
 |nil=>intro q;exact q
 |@cons p q ps qs h t j =>
  intro D
  have e:KV (xV kvs p.1 p.2) (stored vs q.1 q.2):=by
   have:=D.put p.1 h.2
   rwa [<- h.1]
  exact j e
theorem wW:∀g kvs,(pY kvs g).length<=kvs.length+g.length
 |[],kvs=>by show kvs.length<=kvs.length+0;lia
 |p::r,kvs=>by
  have h1:=wW r (xV kvs p.1 p.2);have h2:=bW kvs p.1 p.2;show(pY (xV kvs p.1 p.2) r).length<=_;rw[AQ];lia
theorem gS: ∀{kvs}{j},VV (kvs.map fun g=>(kV g.1,g.2)) j->∃rs,Carries (uX P w) j rs/\KV kvs rs
 |[],_,r=>by cases r;exact⟨[],True.intro,.nil⟩
 |p::kvs,_,r=>by
  cases r with
  |@cons a b as bs h t =>
   obtain⟨rs,c,q⟩:=(gS (P:=P) (w:=w) t);obtain⟨F,D⟩:=b;exact⟨(p.1,D)::rs,⟨zE h.1,rfl,c⟩,.cons ⟨rfl,h.2⟩ q⟩
def tDisp(j:List (TE×TE)):TE:=fun σ H Q=>∀p,H p=none->yA j σ (upd H p (.dK [])) fun ps H2=>H2 p=some (.dK [])/\∃kvs:List (Key×V),ps=kvs.map (fun g=>(kV g.1,g.2))/\kvs.length<=15/\Q (.ref p) (upd H2 p (.dK (pY [] kvs)))
def pe_disp(h:PPs X pos keys values ae)(J:keys.all (·.isSome)=true)(O:keys.length=values.length)(h0:keys≠[])(G:keys.length<=15):PE X (.Dict keys values pos) (tDisp ae):=by
 intro pins s σ H Q I q;have D:=I.laid (h':=s.heap.push { cls:=.type "dict",data:=.dict #[] }) (t':=s.toks) (fun _ _ q=>AC _ q) (AH _) (XH s.heap I.big);refine wpAny_Dict_walk (knd:=uX X.prog X.w) J O h0 G (thn (h pins _ σ _ _ D (q _ (I.hok.fresh (AH s.heap.objs.size)))) fun ah af zq=>?_);obtain⟨ps,H2,g,ab,e,kvs,rfl,lk,Y⟩:=zq;obtain⟨rs,c,rk⟩:=gS ab
 obtain⟨z,M,ag,Z,F⟩:=eR g.hok e;cases Z;refine⟨rs,c,F,fun h' j hs=>⟨.ref s.heap.objs.size,_,?_,rfl,Y⟩⟩
 have U:(pY [] kvs).length<=sizeLine:=by
  have h1:=wW kvs [];rw[CV] at h1;rw[By];lia
 have N:∃q,h'.get? s.heap.objs.size=some q:=let ⟨q,_,_,S,_⟩:=j;⟨q,S⟩
 exact dN g (e▸True.intro) hs N (bI U M (rk.merge .nil) j)
structure M2(X:Cx)(o:Expr)(m:Str)(apos:Pos)(e f:Expr)(cpos:Pos):Prop where
 base:attributeBase o m X.env (eval o X.env)=eval o X.env
 few:((backTo cpos (starEach [e,f] X.env)).all (fun x=>!x.1)&&(backToKw cpos (keywordEach [] X.env)).all (fun x=>x.1.isSome)
  && decide (([e,f]:List Expr).length+([]:List Keyword).length+(if ([]:List Keyword).isEmpty then 0 else 1) < 30))=true
 line:(apos.endLine==cpos.line)=true
 trees:backTo cpos (starEach [e,f] X.env)=[(false,eval e X.env),(false,eval f X.env)]
def IsD(H:Hp)(a:Addr):Prop:=(∃kvs,Rd H a (.dK kvs))\/∃kvs,Rd H a (.dT kvs)
def isD_at{σ:St}(I:Inv X pins σ H s)(d:IsD H a):
  s.TypeIs (.ref a) "dict"/\(∀b,Value.ref a=.ref b->∃g,s.heap.get? b=some g/\g.dict=none)/\(a==sysModules)=false:=by
 rcases d with ⟨kvs,e⟩ | ⟨kvs,e⟩
 .obtain ⟨_,D,vs,_,j⟩:=pE I.hok e
  refine⟨j.typeIs,fun b q=>?_,D⟩;cases q;exact pT j fun g _ _ h1 h2 _=>⟨g,h1,h2.2.1⟩
 .obtain ⟨_,D,xs,_,j⟩:=XD I.hok e
  refine⟨j.typeIs,fun b q=>?_,D⟩;cases q;exact pT j fun g _ _ h1 h2 _=>⟨g,h1,h2.2.1⟩
section
variable {X:Cx}{pins:List (Addr×Obj)}{σ:St}{H:Hp}{s:Shared}{a:Addr}{y d:V}{u r:Value}{o:Option V}{A:Around}{E:Value->Shared->Prop}
def d_get2(O:A.units+1 < cLine)(I:Inv X pins σ H s)(g:DGet H a y o)(J:RelV y u)(G:RelV d r)(h:∀M s',Inv X pins σ H s'->RelV (o.getD d) M->Q M s'):
  wpAny (model X.prog X.w) A (call (.builtin "dict.get") [.ref a,u,r]) Q E s:=by
 rcases g with ⟨kvs,k,e,q,l⟩ | ⟨kvs,k,b,e,q,N,l⟩
 .subst q
  obtain⟨z,D,vs,F,j⟩:=pE I.hok e;exact DQ Bv j.typeIs DS (PySem.F.args_dict_get_3 _ _ _) (meets_dict_get_default (uX X.prog X.w) a (zE J) D r) ⟨_,j.mapOf,h _ _ (I.tok _) (l▸(F.val k).getD G)⟩
 .subst q
  cases J;obtain⟨z,D,xs,F,j⟩:=XD I.hok e;exact DQ Bv j.typeIs DS (PySem.F.args_dict_get_3 _ _ _) (meetsH_dict_get_default (tupleKind (uX X.prog X.w)) a b D r) ⟨tupleKind_room_in1 O,k,xs,pB I.hok N,j,h _ _ (I.tok _) (l▸(F.val k).getD G)⟩
end
def tDGet2(td ty tx:TE):TE:=fun σ H Q=>td σ H fun x H1=>∃a,x=.ref a/\IsD H1 a/\ty σ H1 fun y H2=>tx σ H2 fun z g=>∃o,DGet g a y o/\Q (o.getD z) g
section
variable {X:Cx}{o e f:Expr}{apos cpos:Pos}{td ty tx:TE}
def QS(O:X.A.units+1 < cLine)(N:PE X o td)(J:PE X e ty)(M:PE X f tx)(m:M2 X o "get" apos e f cpos):PE X (.Call (.Attribute o "get" apos) [e,f] [] cpos) (tDGet2 td ty tx):=by
 intro pins s σ H Q I h;refine wpAny_Call_method m.base m.few m.line DK Bv PySem.F.type_dict_get (thn (N pins s σ H _ I h) fun u ab zq=>?_);obtain⟨x,H1,j,rx,a,rfl,d,S⟩:=zq;obtain rfl:u=Value.ref a:=rx
 exact XB (isD_at j d) fun af t2 _=>⟨af,t2,m.trees▸Ci rfl (Dl (Calls.spliced_cons (thn (J pins ab σ H1 _ j S) fun iv ae zz=>kZ zz fun y H2 D ry U=>
  Calls.spliced_cons (thn (M pins ae σ H2 _ D U) fun fv ag ⟨z,q,F,rz,ov,g,Y⟩=>Calls.spliced_nil (d_get2 O F g ry rz fun w' ah G Z=>⟨_,q,G,Z,Y⟩)))))⟩
end
end L2
namespace Att
open PySem PySem.W PySem.Calls PyProof.Rows
def qN: ∀ns vs,WellAll P h vs (ns.map WData.int)->IntsAre vs ns:=by
 intro ns
 induction ns with
 |nil =>
  intro vs w;cases w;exact .nil
 |cons n ns g =>
  intro vs w
  cases w with
  |cons a b =>
   cases a;exact .cons _ _ (g _ b)
def K5{l:OpenLaw}(N:l.most=some n)(G:l.row.toRowW.claim.pre g=true)(S:WellAll P h Y g):
  ∃a vs ns,Y=[Value.ref a]/\g=[WData.list (ns.map WData.int)]/\h.get? a=some { cls:=.type "list",data:=.seq vs.toArray }/\IntsAre vs ns/\ns.length<=n:=by
 have F:l.pre.holds [] { args:=g }=true:=(pre_splitW G).2;obtain⟨d,r,rfl,h1,h2⟩:=hasAllW_cons ((pre_splitW G).1);obtain rfl:=hasAllW_nil h2;obtain⟨xs,rfl,I⟩:=hasW_list h1;obtain⟨ns,rfl⟩:=items_int I
 have M:ns.length<=n:=by
  delta OpenLaw.pre at F
  have D:(WTm.not (.lt (.lit (.int (n:Int))) (.len (.arg 0)))).holds [] { args:=[.list (ns.map .int)] }=true:=by
   have D:=(holds_andW F).1
   rwa [N] at D
  have j:=condW_of D (w_not (w_lt w_lit (w_len_list (w_arg rfl))));rw[AB] at j;refine Nat.le_of_not_lt fun q=>?_;have U:(n:Int) < ((ns.length:Nat):Int):=by omega
  first
   | (rw[Ab U] at j;exact absurd j (by decide))
   | (simp at j;lia)
 cases S with
 |cons Z w2 =>
  cases w2
  cases Z with
  |list O J=>exact⟨_,_,ns,rfl,rfl,O,qN ns _ J,M⟩
def K9(l:OpenLaw)g:l.row.toRowW.claim.post g (.bool true) g=true :=
 postW_of
  (show WShape.has [] (.bool true) .bool=true by first | rfl | decide | simp[ WShape.arms])
  (w_eq_bool (w_res rfl) w_lit) rfl
def attach_call{l:OpenLaw}(hn:l.most=some n)(af:d.params.defaults=[])(U:∀w M g mg I j o J D F a vs ns,
   Ground q au [] O w M mg I g.heap->S w g.heap ->
   g.heap.get? j=some o->o.data=.func (docDef d.name d.params d.body d.scope J D F)->g.heap.CodeRec D d.name->mg d.name=some (.ref j) ->
   g.heap.get? a=some { cls:=.type "list",data:=.seq vs.toArray }->IntsAre vs ns->ns.length<=n->g.gens = #[] ->
   codeAny (model l.prog w) callerA (.call (.ref j) ⟨[.ref a],[]⟩) (fun r s'=>r=.ok (.ret (.bool true))/\OldK g.heap s'.heap/\s'.os=g.os/\AllBare s'.gens) g):
  WalkO q au O S l.row.toRowW d [] (fun f vs=>PySem.call f vs):=by
 intro w M g mg I G Y j o J D F Z ar ho ae ab N aj hg av az as ao aw ay aq ax;obtain rfl:Z=.none:=Dflts.none N af;obtain rfl:ar=.none:=Dflts.noKw N;obtain⟨a,vs,ns,rfl,rfl,ak,ag,ah⟩:=K5 hn ao aq;refine enter_call (DP (U w M g mg I j o J D F a vs ns G Y ho (fd_plain ae) ab aj ak ag ah hg) fun r s' hq=>?_);obtain⟨rfl,h2,h3,h4⟩:=hq
 exact⟨.inl ⟨.bool true,.bool true,[],rfl,fun _=>rfl,.bool true,K9 l _,fun _=>⟨List.Pairwise.nil,fun _ ai=>(nomatch ai)⟩⟩,h2,h3,h4⟩
end Att
namespace L2
open PySem PySem.Spec PyProof.Rows
theorem wO:∀{vs}{ns},IntsAre vs ns->Vals (ns.map V.int) vs
 |_,_,.nil=>.nil
 |_,_,.cons n t h=>.cons ⟨t,rfl⟩ (wO h)
def Only(H:Hp):Prop:=∀b,H b=none\/∃o xs,H b=some (.frz o (.lst xs))
def YK{K}(J:K.In g.heap)(ab:g.heap.Ns mainGlobals mg)(j:g.heap.Ns builtinsNs mb)(aj:∀x:Str,x ≠ "__name__"->mb x=bootBuiltins x)(ao:g.heap.NoLimit)(hg:g.gens = #[])(D:g.heap.get? a=some { cls:=.type "list",data:=.seq vs.toArray })(hi:IntsAre vs ns)(Z:ns.length<=sizeLine)(hr:Room k callerA)(ag:∀base:Heap,K.In base->base.Ns mainGlobals mg->FnOk P w K mg base CX k S fd [x] sp)(ak:∀(s:Shared)(u:Value),BindsTo s fd ⟨[u],[]⟩ [(x,u)])(ar:∀H:Hp,Only H->SqL K H a (ns.map V.int)->sp [.ref a] H (fun v _=>v=.bl true) fun _ _ _=>False)(ai:∀H e s',CX [] H g (fun _ _ _=>False) e s'->False):
  codeAny (model P w) callerA (.call (.ref S) ⟨[.ref a],[]⟩) (fun r s'=>r=.ok (.ret (.bool true))/\OldK g.heap s'.heap/\s'.os=g.os/\AllBare s'.gens) g:=by
 have rv:=wO hi
 have N:∀H:Hp,Only H->SqL K H a (ns.map V.int)->HOk P w H g.heap->(∀b,H b≠none->b=a)->(H a≠none->K.lookup a=none) ->
   codeAny (model P w) callerA (.call (.ref S) ⟨[.ref a],[]⟩) (fun r s'=>r=.ok (.ret (.bool true))/\OldK g.heap s'.heap/\s'.os=g.os/\AllBare s'.gens) g:=by
  intro H Y hS ae hA aw;have M:∀{b:Addr}{o:Obj},g.heap.get? b=some o->H b=none->(Xq g.heap H).get? b=some o:=fun e n=>YZ e n
  have au:∀{b:Addr}{o:Obj}{es:Array DictEntry}{ep:Nat},g.heap.get? b=some o->o.data=.dict es ep->H b=none:=fun {b o es ep}e d=>by
   cases q:H b with
   |none=>rfl
   |some u =>
    have e':=hA b (by lia);subst e';rw[D] at e;cases e
    cases d
  have F:∀{b:Addr}{m:Str->Option Value},g.heap.Ns b m->(Xq g.heap H).Ns b m:=fun {b m}zz=>pT zz fun o es ep e d r=> ⟨o,es,ep,M e (au e d),d,r⟩;have U:K.In (Xq g.heap H):=fun b o e=>M (J b o e) (by grind);have e0:Env0 P w K mg (Xq g.heap H) callerA [] g H:=⟨rfl,(⟨U,F ab,⟨mb,F j,aj⟩,let ⟨mc,h1,h2⟩:=ao;⟨mc,F h1,h2⟩⟩),fun b o e=>of_hidT e,B8 (VG _ _),trivial,fun b j=>absurd (show b∈([]:List Addr) from j) (by simp),ae,.of_eq hg⟩
  refine DP ((ag _ U (F ab)).run callerA [] g H ⟨[.ref a],[]⟩ [.ref a] [.ref a] _ _ hr e0 (ak g (.ref a)) (.cons rfl .nil) (ar H Y hS)) fun r s' h=>?_
  cases r with
  |error e=>exact(ai H e s' h).elim
  |ok fl =>
   cases fl with
   |next=>exact False.elim h
   |brk=>exact False.elim h
   |cont=>exact False.elim h
   |ret u =>
    refine Rj h fun v H' av ah af aq r' q=>?_;subst q;obtain rfl:u=Value.bool true:=r';refine⟨rfl,OldK.of_keep fun b o e=>?_,av,ah⟩
    cases q:H b with
    |none=>exact af.keep b o e q (by intro z;exact absurd (show b∈([]:List Addr) from z) (by simp)) (by simp)
    |some u =>
     rcases Y b with z | ⟨ob,xs,z⟩
     .lia
     .obtain ⟨O,_⟩:=ae b _ z
      obtain⟨e2,_⟩:=aq b _ (af.frzs b ob _ z);rw[e] at O;cases O
      exact e2
 cases G:K.lookup a with
 |some o =>
  have e:=J a o G;rw[D] at e;cases e;refine N (fun _=>none) (fun _=>.inl rfl) (.inr ⟨_,vs.toArray,_,G,rfl,rfl,rfl,by rw[Al,hi.length];exact Z,by simpa using rv⟩) (fun b u z=>by have I:=z;cases I) (fun b z=>absurd rfl z) fun z=>absurd rfl z
 |none =>
  refine N (fun b=>if b=a then some (.frz { cls:=.type "list",data:=.seq vs.toArray } (.lst (ns.map V.int))) else none) (fun b=>?_) (.inl (.inr ⟨{ cls:=.type "list",data:=.seq vs.toArray },Ah rfl⟩)) (fun b u z=>?_) (fun b z=>?_) fun _=>G
  .grind
  .by_cases j:b=a
   .have I:=(Ah j).symm.trans z
    cases I;subst j;exact⟨D,by rw[AB];exact Z,vs,_,rv,D⟩
   .lia
  .lia
def walk_of{l:PySem.W.OpenLaw}{K:Params->Dm}{CX:World->CXT}{sp:World->Sp}(hn:l.most=some n)(af:n<=sizeLine)(Z:d.params.defaults=[])(hr:Room k callerA)(S:∀(w:World)(h:Heap),I w h->(K w.params).In h)(F:∀(w:World)(mg:Str->Option Value)(g:Addr)(h:Heap),(K w.params).In h->h.Ns mainGlobals mg->mg d.name=some (.ref g) ->
   ∃fd:FuncData,(∀(s:Shared)(u:Value),BindsTo s fd ⟨[u],[]⟩ [(x,u)]) /\
    ∀base:Heap,(K w.params).In base->base.Ns mainGlobals mg->FnOk l.prog w (K w.params) mg base (CX w) k g fd [x] (sp w))(ah:∀(w:World)(H:Hp)(a:Addr)(ns:List Int),ns.length<=n->Only H->SqL (K w.params) H a (ns.map V.int)->sp w [.ref a] H (fun v _=>v=.bl true) fun _ _ _=>False)(J:∀(w:World)(H:Hp)(s:Shared)(e:Value)(s':Shared),CX w [] H s (fun _ _ _=>False) e s'->False):
  PySem.W.WalkO q ar XP I l.row.toRowW d [] (fun f vs=>PySem.call f vs):=by
 refine Att.attach_call hn Z fun w av ai mg mb g o au aj ak a vs ns G Y ho aq ao ae ag ab D hg=>?_;have j:=S w _ Y;exact oQ (F w mg g _ j G.T.g ae) fun fd U M=>YK j G.T.g G.T.b G.T.builtins G.T.nolimit hg ag ab (AW D af) hr M U (fun H N O=>ah w H a ns D N O) fun H e s'=>J w H ai e s'
noncomputable def iK(s:Stmt)(j:Nat):Stmt:=match s with
 |.ClassDef _ _ _ g _ _ _ _ _ _ _=>g.getD j (.Pass ⟨0,0,0,0⟩)
 |_=>.Pass ⟨0,0,0,0⟩
noncomputable def qG(s:Stmt):Arguments:=match s with
 |.FunctionDef _ a _ _ _ _ _ _ _ _=>a
 |_=>{ posonlyargs:=[],args:=[],vararg:=none,kwonlyargs:=[],kw_defaults:=[],kwarg:=none,defaults:=[] }
noncomputable def qV(s:Stmt):List Stmt:=match s with
 |.FunctionDef _ _ b _ _ _ _ _ _ _=>b
 |_=>[]
noncomputable def lX(s:Stmt):Scope:=match s with
 |.FunctionDef _ _ _ _ _ _ sc _ _ _=>sc
 |_=>{ kind:=.function,names:=[],isGenerator:=false,isCoroutine:=false }
abbrev CX0:CXT:=fun _ _ _ _ _ _=>False
abbrev E0:XK:=fun _ _ _=>False
def QT: jW CX0 X E0:=fun _ _ _ _ _ _ _ h=>h.elim
structure Fun(K:Dm)(x qual:Str)(st:Stmt)(f:Addr)(fd:FuncData):Prop where
 ex:∃(oc:Value)(od:Option Addr)(kV doc pm:Value)(an:Option Addr)(cdv ct:Value)(osl:Array (Option Value)),
  fd=PySem.W.fnOf x qual (qG st) (qV st) (lX st) .none kV doc pm an cdv ct/\K.lookup f=some ⟨oc,od,.func fd,osl⟩/\PySem.W.codeIn K cdv qual=true
 kp:PySem.W.keepIn K (.ref f)=true
section
variable {P:Program}{w:World}{K:Dm}{mg:Str->Option Value}{base:Heap}
theorem Fun.ok{st}(F:Fun K x D st f fd)(S:FnScope N ps (lX st))(O:∀vs H Q E,sp vs H Q E->vs.length=ps.length)(G:∀g A j s H vs Q E,Room k (A.deeper (envOfC D (lX st) s.heap.objs.size f g))->sp vs H Q E ->
   ∃t,PSs (mI CX0 P w K mg base N D (lX st) f g A j s H E).nox (qV st) t/\t { nx:=fun _ H'=>Q .non H',rt:=Q } (start N vs) H):FnOk P w K mg base CX0 (k+1) f fd ps sp:=by
 obtain⟨oc,od,ae,ab,ag,Y,g,Z,af,rfl,U,I⟩:=F.ex;exact fn_of U I S O fun A j s H vs Q E J M=>oQ (G g A j s H vs Q E J M) fun t h q=>⟨t,h.nox,q⟩
def Fun.binds{st}(F:Fun K x M st f fd)(h:∀(G D I:Value)(g:Option Addr)(j q:Value)(J:List Value),J.length=ps.length->bindArgs (PySem.W.fnOf x M (qG st) (qV st) (lX st) .none G D I g j q) ⟨J,[]⟩=pure (ps.zip J)):Binds K fd ps []:=by
 obtain⟨S,U,G,D,I,g,j,q,Y,rfl,O,N⟩:=F.ex;exact .all (h G D I g j q)
def uI{st}{q D g j}(l:K.lookup f=some ⟨J,M,.func (PySem.W.fnOf x F (qG st) (qV st) (lX st) .none q I D G g j),N⟩)(c:PySem.W.codeIn K g F=true)(k:PySem.W.keepIn K (.ref f)=true):Fun K x F st f (PySem.W.fnOf x F (qG st) (qV st) (lX st) .none q I D G g j):=⟨⟨J,M,q,I,D,G,g,j,N,rfl,l,c⟩,k⟩
end
def xZ(g:Room k A):A.units+1 < cLine:=Ak (Nat.add_le_add_left (by lia) _) g.units
section
variable {X:Cx}
def pv i{pos}(g:X.N[i]?=some x:=by rfl)(D:Vis X.env.scope x:=by first | exact Or.inl rfl | exact Or.inr (Or.inl rfl) | exact Or.inr (Or.inr rfl))(q:(x==("__debug__" : Str))=false:=by decide)(j:(x==("__classdict__" : Str))=false:=by decide):PE X (.Name x pos) (tVar i):=W7 g D q j
end
def Same(H H':Hp):Prop:=∀b o,H b=some o->H' b=some o
def Same.refl H:Same H H:=fun _ _ h=>h
section
variable {X:Cx}
def V0:CallR X (.builtin "len") (fun xs H Q=>∃a kvs,xs=[V.ref a]/\H a=some (.dK kvs)/\Q (.int kvs.length) H):=by
 intro pins s σ H xs D Q I r h;obtain⟨a,kvs,rfl,j,q⟩:=h;obtain⟨u,rfl,rfl⟩:=fG r;exact d_len I (.inl j) fun t s' g=>⟨.int kvs.length,H,g,⟨t,rfl⟩,q⟩
end
noncomputable def yX:Expr->Bool
 |.Starred _ _=>false
 |_=>true
def tZ(h:yX e=true):starEach (e::es) g=(false,eval e g)::starEach es g:=by
 cases e<;>first | rfl | exact absurd h AO
theorem mY: ∀{es},es.all yX=true->(backTo pos (starEach es g)).any (·.1)=false
 |[],_=>rfl
 |e::es,h=>by
  rw[DI,BF] at h;rw[tZ h.1];show(false || (backTo pos (starEach es g)).any (·.1))=false;rw[mY h.2]
  rfl
section
variable {X:Cx}{e:Expr}{es:List Expr}{te:TE}{t:TA}{x:Str}{p pos:Pos}
def u9(g:PE X e te)(j:PA X es t)(hs:yX e=true:=by rfl):PA X (e::es) (Wr te t):=pa_cons g j (tZ hs)
def u6(F:FnOk X.prog X.w X.K X.mg X.base CX k f fd ps sp)(N:Room k X.A)(I:Gl X x)(M:X.mg x=some (.ref f))(J:PySem.W.keepIn X.K (.ref f)=true)(q:Binds X.K fd ps ds)(D:Vals dvs ds)(O:jW CX X E)(g:PA X (e::es) t)(G:(x==("__debug__" : Str))=false:=by decide)(hs:yX e=true:=by rfl)(j:es.all yX=true:=by rfl):PE X (.Call (.Name x p) (e::es) [] pos) (Wu sp dvs E t) :=
 pe_call F N I M J q D O g G (tZ hs) (mY j)
def WM{id}(q:CallR X (.builtin id) r)(F:Gl X x)(G:X.mg x=none)(J:bootBuiltins x=some (.builtin id))(g:PA X (e::es) t)(I:x ≠ "__name__":=by decide)(D:(x==("__debug__" : Str))=false:=by decide)(hs:yX e=true:=by rfl)(j:es.all yX=true:=by rfl):PE X (.Call (.Name x p) (e::es) [] pos) (tCB r t):=Ye q F G J g I D (tZ hs) (mY j)
def K7(q:CallR X (.type T) r)(F:Gl X x)(G:X.mg x=none)(J:bootBuiltins x=some (.type T))(g:PA X (e::es) t)(I:x ≠ "__name__":=by decide)(D:(x==("__debug__" : Str))=false:=by decide)(hs:yX e=true:=by rfl)(j:es.all yX=true:=by rfl):PE X (.Call (.Name x p) (e::es) [] pos) (tCB r t):=Vb q F G J g I D (tZ hs) (mY j)
end
section
variable {prog:Program}{w:World}{A:Around}{R:Result->Shared->Prop}{s:Shared}
def nI(I:Nat->Shared->Prop)(ag:∀n s,I n s->wpAny (model prog w) A (pyNext it) (fun r j=>match r with
   |none=>R (.ok .next) j
   |some v=>wpAny (model prog w) A (letOwnedTupleGo O it v) (fun _ j=>wpAny (model prog w) A (assign O q v) (fun _ J=>
     wpAny (model prog w) A (forIn af true fun c r=>if r=true then do let g <- isTrue c q (eval c q);pure (ForInStep.yield g) else pure (ForInStep.yield r)) (fun g D=>
      if g=true then wpAny (model prog w) A (eval S q) (fun x M=>
       wpAny (model prog w) A (call (.builtin "list.append") [acc,x]) (fun _ N=>∃m,m < n/\I m N) (fun _ _=>False) M) (fun _ _=>False) D
      else ∃m,m < n/\I m D) (fun _ _=>False) J) (fun _ _=>False) j) (fun _ _=>False) j) (fun _ _=>False) s)n(h:I n s):
  codeAny (model prog w) A (.compLoop (.ListComp S [⟨O,ah,af,0⟩] ai pos) 0 it acc q) R s:=by
 refine codeAny_loop rfl I (fun n s U=>wpAny_noted (AA (wpAny_standAt (AA (BM (ag n s U) (fun r j F=>?_) fun _ _ h'=>False.elim h'))))) n h
 cases r with
 |none=>exact AD F
 |some v =>
  refine AA (BM F (fun _ aj Y=>AA (BM Y (fun _ J Z=>AA (BM Z (fun g D G=>?_) fun _ _ h'=>False.elim h')) fun _ _ h'=>False.elim h')) fun _ _ h'=>False.elim h')
  cases g with
  |false=>exact AD ⟨rfl,G⟩
  |true =>
   exact AA (AA (BM G (fun x M ab=>AA (BM ab (fun _ N ae=>AD (AD ⟨rfl,ae⟩)) fun _ _ h'=>False.elim h')) fun _ _ h'=>False.elim h'))
end
theorem uV{g:Env}:∀{D:List (Str×NameKind)}{y:Str}{k:NameKind},
  (D.map fun(n,k)=>if (k==NameKind.free&&g.scope.kind==.function&&g.kindOf n==some .cell) then (n,NameKind.cell) else (n,k)).lookup y=some k ->
   ∃j,(y,j)∈D/\(k=j\/(j=.free/\k=.cell))
 |[],_,_,h=>by simp at h
 | (n,F)::r,y,k,h=>by
  cases I:y==n with
  |true =>
   by_cases G:(F==NameKind.free&&g.scope.kind==.function&&g.kindOf y==some .cell)=true
   .grind
   .grind
  |false =>
   have h2:(r.map fun(n,k)=>if (k==NameKind.free&&g.scope.kind==.function&&g.kindOf n==some .cell) then (n,NameKind.cell) else (n,k)).lookup y=some k :=by grind
   exact oQ ((@uV g r y k) h2) fun j m q=>⟨j,AI _ m,q⟩
def V7(X:Cx)(g:List Expr)(t:TT):Prop :=
 ∀(pins:List (Addr×Obj))(s:Shared)(σ:St)(H:Hp)(Q:Bool->Hp->Prop),Inv X pins σ H s->t σ H Q ->
  wpAny (model X.prog X.w) X.A (forIn g true fun c r=>if r=true then do let j <- isTrue c X.env (eval c X.env);pure (ForInStep.yield j) else pure (ForInStep.yield r)) (TP X pins σ Q) X.xe s
def S9:TT:=fun _ H Q=>Q true H
def W3: V7 X [] S9:=fun _ _ _ H _ I h=>wpAny_tests_nil ⟨H,I,h⟩
def W2(h:PT X c t):V7 X [c] t:=fun pins s σ H Q I g=>wpAny_tests_one (h pins s σ H Q I g)
noncomputable def o6(X:Cx)(xs:List Str)(D:Scope)(j:List (Str×Addr))(q:List Addr)(C:Addr)(F:Shared)(g:Hp):Cx where
 prog:=X.prog
 w:=X.w
 K:=X.K
 mg:=X.mg
 base:=X.base
 A:=X.A
 N:=xs++X.N
 s₀:=F
 H₀:=g
 env:=compEnvC D j C X.env
 outer:=X.stack
 stack:=X.stack
 ex:=q
 fn:=fun _=>false
 calm:=X.calm
 pn:=[]
 xe:=fun _ _=>False
abbrev nK X x:=o6 X [x]
def QA(q:TI)(tc:TT)(te:TE):TE:=fun σ H Q=>q σ H fun J H1=>∀D,H1 D=none->∃W:Nat->Nat->List V->Hp->Prop,(∃m,W 0 m [] (upd H1 D (.lst [])))/\∀i m ys H,W i m ys H ->
 (J.stop i H/\Q (.ref D) H)\/(J.go i H/\∀x H',J.yld i H x H'->tc (some x::σ) H' fun b H2=>
  if b=true then te (some x::σ) H2 fun y j=>j D=some (.lst ys)/\ys.length < sizeLine/\∃g,g < m/\W (i+1) g (ys++[y]) (upd j D (.lst (ys++[y])))
  else ∃g,g < m/\W (i+1) g ys H2)
section
variable {X:Cx}
structure xY(X:Cx)(xs:List Str)(scope:Scope)(cl:List (Str×Addr)):Prop where
 clos:closureFor scope X.env=pure cl
 cell:∀y∈scope.names,y.2≠.cell
 kind:scope.kind=.function
 names:∀y∈scope.names,y.2=.local->scope.names.lookup y.1=some .local
 hx:∀x∈xs,scope.names.lookup x=some .local
 loc:∀y∈scope.names,y.2=.local->y.1∉X.N
 free:∀y∈scope.names,y.2=.free->X.env.kindOf y.1≠some .local/\(X.env.kindOf y.1=some .cell\/X.env.kindOf y.1=some .free)/\∃c,cl.lookup y.1=some c
 cl:∀y c,cl.lookup y=some c->X.env.cells.lookup y=some c
abbrev vM X x:=xY X [x]
def rB{te:TE}{g:TG}{Tk:V->Hp->List V->Prop}{RR:Value->Addr->Result->Shared->Prop}{EE:Value->Shared->Prop}(hc:X.calm=true)(K:xY X xs N S)(hg:∀M C j G,PG (o6 X xs N S M C j G) tg g)(ht:∀M C j G,V7 (o6 X xs N S M C j G) a7 tc)(b0:∀M C j G,PE (o6 X xs N S M C j G) az te){pins:List (Addr×Obj)}{σ:St}{j:Shared}{G:Hp}{it:Addr}{M:List Addr}{tn:Nat->Heap->Prop}{J:It}{Q:VK}(hG:∀bg vs x H Q,bg.length=xs.length->Tk x H vs->vs.length=xs.length->Q (vs.map some++σ) H->g x (bg++σ) H Q)(I:Inv X pins σ G j)(T:Jn X.prog X.w X.K tg J M it tn)(bc:tn 0 j.heap)(Z:∀b∈M,X5 X pins G b)(R:∀D,G D=none->∃W:Nat->Nat->List V->Hp->Prop,(∃m,W 0 m [] (upd G D (.lst [])))/\∀i m ys H,W i m ys H ->
   (J.stop i H/\Q (.ref D) H)\/(J.go i H/\∀x H',J.yld i H x H'->∃vs,Tk x H' vs/\vs.length=xs.length/\tc (vs.map some++σ) H' fun b H2=>
    if b=true then te (vs.map some++σ) H2 fun y H3=>H3 D=some (.lst ys)/\ys.length < sizeLine/\∃Y,Y < m/\W (i+1) Y (ys++[y]) (upd H3 D (.lst (ys++[y])))
    else ∃Y,Y < m/\W (i+1) Y ys H2))(bw:∀(D C:Addr)(H:Hp)(ab:Shared)(m:Str->Option Value),ab.heap.Ns C m->C≠X.env.locals->H C=none->(∀x c,X.env.cells.lookup x=some c->c≠C)->j.heap.objs.size<=C->Inv X pins σ H ab ->
   Q (.ref D) H->RR (.ref D) C (.ok .next) ab):
  wpAny (model X.prog X.w) X.A (newList []) (fun acc aj=>wpAny (model X.prog X.w) X.A (newFunctionEnv N X.env.globals S [] X.env.qual none .none (some X.env)) (fun ay cn=>
   codeAny (model X.prog X.w) X.A (.compStart (.ListComp az [⟨tg,b3,a7,0⟩] N pos) 0 (.ref it) acc { ay with scope:=relabel N X.env }) (RR acc ay.locals) cn) EE aj) EE j:=by
 refine A2 (wpAny_newFunctionEnv K.cell (by intro y hy;simp at hy) (fun ao au ak=>?_) K.kind);dsimp only at au ak ⊢;generalize ar:j.heap.push { cls:=.type "list",dict:=none,data:=.seq ([]:List Value).toArray }=H2 at au ak ⊢;have hC:H2.objs.size=j.heap.objs.size+1:=by rw[<- ar,Bo]
 have a5:j.heap.objs.size≠H2.objs.size :=hC▸AY (Bm _);have ag:∀b,b < j.heap.objs.size->b≠H2.objs.size/\b≠j.heap.objs.size:=fun b F=>⟨by exact hC▸AY (Nat.lt_succ_of_lt F),AY F⟩;have ai:∀b o,j.heap.get? b=some o->ao.get? b=some o:=fun b o e=>ak.extBut b o (ag b (AG e)).1 (AC _ (ar▸AC _ e));have fD:=I.hok.fresh (AH _)
 have fC:G H2.objs.size=none:=I.hok.fresh (hC▸BU _);have a0:∀b∈M,b < j.heap.objs.size:=fun b F=>let ⟨o,e,_⟩:=T.obj _ _ bc b F;AG e
 obtain⟨W,⟨b5,w0⟩,cp⟩:=R j.heap.objs.size fD
 have aq:(o6 X xs N S M H2.objs.size j G).Ok:=by
  refine⟨I.ok.mod,K.kind,I.ok.glob,I.ok.blt,?_,fun y z c h1 h2=>I.ok.inj y z c (K.cl y c h1) (K.cl z c h2),fun y hy=>?_,fun y c h _=>?_,I.ok.hd,I.ok.frames,.inl rfl,fun b F=>⟨(ag b (a0 b F)).1,fun y c h=>(Z b F).2.2.2.2.1 y c (K.cl y c h)⟩,I.bs,
   AW I.ok.bsz I.sz,fun b o e F=>?_,fun b F z=>?_,I.stack,I.stkFree⟩
  .exact hC▸BU _
  .have bp:(y,NameKind.free)∈N.names:=by
    rcases hy with q | q
    .obtain ⟨k0,O,z | ⟨z,_⟩⟩:=uV q
     .subst z;exact absurd rfl (K.cell _ O)
     .subst z;exact O
    .obtain ⟨k0,O,z | ⟨z,w⟩⟩:=uV q
     .subst z;exact O
     .cases w
   exact(K.free _ bp rfl).2.2
  .exact absurd h AO
  .refine rT (Z b F) fun _ _ _ f3 _=>?_
   rcases f3 with z | z
   .exact I.ok.noex b o e z
   .exact absurd (AR (AG (I.ok.bs b o e).1) z) (BC _)
  .refine VJ (Z b F) fun _ bj bl _=>?_
   rcases Aj.mp (I.stkSub b z) with q | q
   .exact bj q
   .exact bl q
 have cw:∀b,G b≠none->b≠j.heap.objs.size:=fun b F z=>F (z▸fD);have b4:HOk X.prog X.w (upd G j.heap.objs.size (.lst [])) ao:=I.hok.laid ai (AH _) ⟨AX _,[],_,.nil,(ak.extBut _ _ a5 (AC _ (ar▸AL _ rfl)))⟩
 have cq:∀y,Vis (relabel N X.env) y->y∈X.N->(y,NameKind.free)∈N.names/\((relabel N X.env).names.lookup y=some .cell\/(relabel N X.env).names.lookup y=some .free):=by
  intro y hv b2
  rcases hv with q | q | q
  .obtain ⟨k0,O,z | ⟨z,w⟩⟩:=uV q
   .subst z;exact absurd b2 (K.loc _ O rfl)
   .cases w
  .obtain ⟨k0,O,z | ⟨z,w⟩⟩:=uV q
   .subst z;exact absurd rfl (K.cell _ O)
   .subst z;exact⟨O,.inl q⟩
  .obtain ⟨k0,O,z | ⟨z,w⟩⟩:=uV q
   .subst z;exact⟨O,.inr q⟩
   .cases w
 have I':∀tk,Inv (o6 X xs N S M H2.objs.size j G) [] (List.replicate xs.length none++σ) (upd G j.heap.objs.size (.lst [])) { j with heap:=ao,toks:=tk }:=by
  intro tk;refine⟨aq,rfl,I.bare,Un.laid ai (AH _) fD,⟨_,au,fun i y v h1 h2 h3=>?_⟩,fun y c h=>?_,?_,fun y c h=>?_,fun p hp=>absurd hp (by simp[o6]),b4,?_⟩
  .rcases DT i xs.length with hi | hi
   .rw [Be (by rwa [Ba]),List.getElem?_replicate,Ah hi] at h2
    cases h2
   .have a4:X.N[i - xs.length]?=some y:=by
     have h1:(xs++X.N)[i]?=some y:=h1
     rwa [Cz hi] at h1
    have bt:σ[i - xs.length]?=some (some v):=by
     rw[Cz (by rwa [Ba]),Ba] at h2;exact h2
    obtain⟨fm,kk⟩:=cq y h3 (Ac a4);obtain⟨b6,vz,c,a6⟩:=K.free _ fm rfl;refine oQ I.loc fun mm hn hl=>oQ (hl (i - xs.length) y v a4 bt (vz.elim (fun z=>.inr (.inl z)) fun z=>.inr (.inr z))) fun u ru l=>?_
    rcases l with ⟨z,_⟩ | ⟨_,c',bx,bz⟩
    .exact absurd z b6
    .have ec:=Au (bx.symm.trans (K.cl _ _ a6))
     subst ec;obtain⟨o,ho,ah⟩:=bz;exact⟨u,ru,.inr ⟨kk,c',a6,o,ai _ _ ho,ah⟩⟩
  .obtain ⟨v,o,ho,ah⟩:=I.cell y c (K.cl y c h)
   exact⟨v,o,ai _ _ ho,ah⟩
  .show upd G _ _ H2.objs.size=none
   rwa [fQ (Ne.symm a5)]
  .obtain ⟨v,o,ho,ah⟩:=I.cell y c (K.cl y c h)
   exact(fQ (ag c (AG ho)).2)▸I.freeC y c (K.cl y c h)
  .show (List.replicate xs.length none++σ).length=(xs++X.N).length
   rw[AJ,AJ,Ba,I.len]
 have aw:∀{H':Hp},(∀b∈M,H' b=none)->∀b∈M,X5 (o6 X xs N S M H2.objs.size j G) [] H' b:=fun hn b F=>
  ⟨hn b F,(aq.exf b F).1,aq.exfs b F,.inl F,(aq.exf b F).2,fun p hp=>absurd hp (by simp[o6])⟩
 have bf:=T.keep _ _ _ bc fun b _ o e=>ai b o e;have bo:∀b∈M,upd G j.heap.objs.size (.lst []) b=none:=fun b F=>(fQ (ag b (a0 b F)).2)▸(Z b F).1
 have a8:∀aj:Shared,(∃tk,aj={ j with heap:=ao,toks:=tk }) ->
   codeAny (model X.prog X.w) X.A (.compLoop (.ListComp az [⟨tg,b3,a7,0⟩] N pos) 0 (.ref it) (.ref j.heap.objs.size) (compEnvC N S H2.objs.size X.env))
    (RR (.ref j.heap.objs.size) H2.objs.size) aj:=by
  rintro aj ⟨tk,rfl⟩
  refine nI (fun n s'=>∃i ys H' ae,ae.length=xs.length/\Inv (o6 X xs N S M H2.objs.size j G) [] (ae++σ) H' s'/\tn i s'.heap/\(∀b∈M,H' b=none)/\W i n ys H') ?_ b5
   ⟨0,[],_,List.replicate xs.length none,Ba,I' tk,bf,bo,w0⟩
  rintro n a9 ⟨i,ys,H3,ae,l0,I3,bb,a3,w3⟩
  rcases cp i n ys H3 w3 with ⟨ck,qn⟩ | ⟨br,cj⟩
  .refine thn (T.done (o6 X xs N S M H2.objs.size j G) rfl rfl rfl hc i [] a9 (ae++σ) H3 (fun _ _=>False) I3 (aw a3) bb ck) fun r ab U=>uL U fun hr I4=> ?_
   subst hr;show RR _ _ (.ok .next) ab;refine oQ I4.loc fun m hn _=>?_;have cb:=I4.os;refine bw _ _ H3 ab m hn ?_ I4.free (fun y c h z=>?_) (hC▸BU _) ?_ qn
   .exact Ne.symm (ag _ I.lt).1
   .exact bU (I.cell y c h) fun v o ho ah=>(ag c (AG ho)).1 z
   .obtain ⟨hh,g,d,t,b9⟩:=ab
    obtain rfl:b9=j.os:=cb;exact I.call (h':=hh) (g':=g) (d':=d) (t':=t) I4.base I4.hok I4.bare fun b F=>⟨(Z b F).2.2.2.1,(Z b F).2.1,(Z b F).2.2.2.2.1,(Z b F).2.2.2.2.2⟩
  .refine thn (T.item (o6 X xs N S M H2.objs.size j G) rfl rfl rfl hc i [] a9 (ae++σ) H3 (fun _ _=>False) I3 (aw a3) bb br) fun r ab U=>oQ U fun u hr h4=> ?_
   subst hr;refine thn h4 fun _ ba U=>za U fun x5 H5 I5 r5 y5 av bq=> ?_
   have ax:∀{H':Hp}{s':Shared}{τ:St},Inv (o6 X xs N S M H2.objs.size j G) ([]++lC M ba.heap) τ H' s'->tn (i+1) s'.heap/\∀b∈M,H' b=none:=fun I7=>
    ⟨T.keep _ _ _ av fun b F o e=>(I7.pin (b,o) (AV _ (AV _ (wU F e)))).1,fun b F=>oQ (T.obj _ _ av b F) fun o e d=>(I7.pin (b,o) (AV _ (AV _ (wU F e)))).2.1⟩
   refine hZ (cj x5 H5 y5) fun af cg l5 q5=>thn (hg M _ j G _ ba (ae++σ) H5 x5 u (fun cu H'=>cu=af.map some++σ/\H'=H5) (I5.pinned (aw bq) (T.obj _ _ av)) r5 (hG ae af x5 H5 _ l0 cg l5 ⟨rfl,rfl⟩)) fun _ s6 U=>kZ U fun cy H6 I6 e6 bh=> ?_;subst e6 bh;have l6:(af.map some).length=xs.length:=by rwa [AB]
   refine thn (ht M _ j G _ s6 (af.map some++σ) H6 _ I6 q5) fun b7 s7 U=>oQ U fun H7 I7 q7=> ?_
   cases b7 with
   |false =>
    rw[Af AO] at q7;rw[Af AO];refine oQ q7 fun Y O w7=>?_;obtain⟨k1,k2⟩:=ax I7;exact⟨Y,O,i+1,ys,H7,af.map some,l6,I7.unpinned,k1,k2,w7⟩
   |true =>
    rw[Ah rfl] at q7;rw[Ah rfl];refine thn (b0 M _ j G _ s7 (af.map some++σ) H7 _ I7 q7) fun y s8 ⟨y8,H8,I8,r8,bu,b1,Y,O,ct⟩=>thn (oO _ s8 _ H8 (.ref j.heap.objs.size) [y8] (.ref j.heap.objs.size) [y] (fun _ H9=>H9=upd H8 j.heap.objs.size (.lst (ys++[y8]))) I8 rfl (.cons r8 .nil) ⟨_,ys,y8,rfl,rfl,bu,b1,rfl⟩) fun _ s9 U=>kZ U fun _ H9 I9 _ e9=> ?_;subst e9;obtain⟨k1,k2⟩:=ax I9
    exact⟨Y,O,i+1,ys++[y8],_,af.map some,l6,I9.unpinned,k1,k2,ct⟩
 exact codeAny_compStart_list (a8 _ ⟨_,rfl⟩) (T.self _ 0 _ _ _ bf (a8 _ ⟨_,rfl⟩))
def v4{S O:Expr}{x:Str}{Z pos:Pos}{Y:List Expr}{G:Scope}{N:List (Str×Addr)}{wi:TI}{tc:TT}{te:TE}(hc:X.calm=true)(hN:(x::X.N).Nodup)(K:vM X x G N)(hi:PI X (.Name x Z) O wi)(ht:∀F C I j,V7 (nK X x G N F C I j) Y tc)(ai:∀F C I j,PE (nK X x G N F C I j) S te)(hs:∀v,foldedSetIterable O X.env v=pure v:=by intro _;rfl):PE X (.ListComp S [⟨.Name x Z,O,Y,0⟩] G pos) (QA wi tc te):=by
 intro pins s σ H Q ab h;rw[eval_ListComp];refine DG (use:=none) rfl hs K.clos K.kind K.names (thn (hi pins s σ H _ ab h) fun xv ax ak=>thn ak fun aw I ao=>?_);obtain⟨it,F,tn,J,j,e,M,T,ar,ae,R⟩:=ao;subst e;refine rB (g:=mF 0) (Tk:=fun x _ vs=>vs=[x]) hc K (fun _ _ _ _=>iD (i:=0) (x:=x) hN rfl (.inl (Bh (K.hx x (.head _)))) (.inr (Bh (K.hx x (.head _))))) ht ai (by rintro av vs y H Q l rfl _ q;match av,l with | [_],_=>exact q) M T ar ae (fun D hD=>let ⟨W,w0,au⟩:=R D hD;⟨W,w0,fun i m ys H w=>(au i m ys H w).imp id fun zz=>uL zz fun g st=> ⟨g,fun x H' y=>⟨[x],rfl,rfl,st x H' y⟩⟩⟩) ?_
 intro D C H aq m hn ag af ah U I4 q;refine⟨m,hn,fun h' aj=>⟨.ref D,H,?_,rfl,q⟩⟩;refine I4.turned (it:=C) (t':=aq.toks) (fun b o hb e=>(aj.2 b hb).trans e) af ag (.inr (AW M.sz U)) ah fun p hp z=>?_;exact absurd (AR (AG (M.pin p hp).1) (by rw[z];exact U)) (BC _)
end
noncomputable def Its(x:Str):It:=⟨fun i _=>i < x.cps.size,fun i H v H'=>H'=H/\∃c,x.cps[i]?=some c/\v=.str ⟨#[c]⟩,fun i _=>x.cps.size<=i⟩
def vO(j:ty = "str_ascii_iterator"\/ty = "str_iterator")(g:A.handled=none)it x t:
  Walks P w A it [it] [it] x.cps.size (SignAt x) (fun i h=>h.IsStrIter it ty x t i):=by
 rcases j with rfl | rfl
 .exact Walks.strAscii g it x t
 .exact Walks.strWide g it x t
def Wn{K}(D:ty = "str_ascii_iterator"\/ty = "str_iterator")x t it:
  Jn P w K tg (Its x) [it] it (fun i h=>h.IsStrIter it ty x t i/\i<=x.cps.size) where
 mem:=by simp
 obj:=fun i h st b g=>by
  have e:b=it :=by grind
  subst e;obtain⟨⟨o,e,c,d⟩,_⟩:=st;exact⟨o,e,fun v z=>by rw[d] at z;cases z⟩
 keep:=fun i h h' st k=>⟨let ⟨o,ho,r⟩:=st.1;⟨o,k it (by simp) o ho,r⟩,st.2⟩
 item:=by
  intro X hP ae ab O i pins s σ H E I j st q;refine lT (j it (by simp)) fun F G Z J M N=>?_;refine(vO D (I.ok.hd O) it x t).item i s _ _ q st.1 fun v h' U hv st' S=>?_;obtain⟨c,u,hx,rfl⟩:=hv;have Y:Inv X pins σ H { s with heap:=h',toks:=U }:=I.turned (fun b o g e=>S b o (by simp_all) e) F G J M N;exact hZ (id st') fun o e cc d=>⟨_,rfl,Xt e cc d (by rcases D with rfl | rfl<;>decide) ⟨.str ⟨#[c]⟩,H,Y,⟨u,rfl⟩,⟨rfl,c,hx,rfl⟩,⟨st',q⟩,fun b g=>(j b g).1⟩⟩
 done:=by
  intro X hP ae ab O i pins s σ H E I j st q;refine lT (j it (by simp)) fun F G Z J M N=>?_;refine(vO D (I.ok.hd O) it x t).done s _ _ ((Nat.le_antisymm st.2 q)▸st.1) fun h' U S=>⟨rfl,I.turned (fun b o g e=>S b o (by simpa using g) e) F G J M N⟩
 self:=fun A i s Q E st h=>by
  rcases D with rfl | rfl
  .exact wpAny_pyIter_striter_ascii st.1 h
  .exact wpAny_pyIter_striter_wide st.1 h
def Pr(tl:TE):TI:=fun σ H R=>tl σ H fun x H1=>∃z,x=.str z/\R (Its z) H1
section
variable {X:Cx}{tg:Expr}
def Iw(G:PE X l tl):PI X tg l (Pr tl):=by
 intro pins s σ H R I h;refine thn (G pins s σ H _ I h) fun v g O=>kZ O fun x H1 j N M=> ?_;obtain⟨z,rfl,q⟩:=M;obtain⟨t,rfl⟩:=N
 have D:∀ty o,(ty = "str_ascii_iterator"\/ty = "str_iterator")->(g.heap.push o).IsStrIter g.heap.objs.size ty z t 0->PIE X pins σ tg R (.ref g.heap.objs.size) { g with heap:=g.heap.push o }:=fun ty o J st=>by
  refine⟨g.heap.objs.size,[g.heap.objs.size],_,_,H1,rfl,j.kept (t':=g.toks) fun b o e=>AC _ e,Wn J z t _,⟨st,AX _⟩,fun b S=>?_,q⟩;have e:b=g.heap.objs.size :=by grind
  subst e;exact j.fpOk (AH _) (j.hok.fresh (AH _))
 cases F:z.cps.all (· < 128)
 .exact wpAny_pyIter_wide F (D _ _ (.inr rfl) ⟨_,AL _ rfl,rfl,rfl⟩)
 .exact wpAny_pyIter_ascii F (D _ _ (.inl rfl) ⟨_,AL _ rfl,rfl,rfl⟩)
end
def V4(ys:List Bool):((List.range ys.length).all fun i=>(ys[i]?).getD false)=ys.all id:=by
 rw[Cu,BZ,BZ]
 constructor
 .intro h b j
  obtain⟨i,hi⟩:=Bw.mp j;have g:=(AU.mp hi).1;have:=h i (BQ.mpr g)
  rwa [hi] at this
 .intro h i hi
  have g:=BQ.mp hi;exact(AK g)▸h _ (Ap g)
section
variable {X:Cx}
def sL(S:X.calm=true):CallR X (.builtin "all") (fun xs H Q=>∃p ys,xs=[.ref p]/\SqL X.K H p (List.map V.bl ys)/\Q (.bl (ys.all id)) H):=by
 intro pins s σ H xs ab Q I r h;obtain⟨p,ys,rfl,Y,q⟩:=h;obtain⟨u,rfl,rfl⟩:=fG r;obtain⟨j,M,D,hz⟩:=(I.list Y);have F:j.length=ys.length:=by rw[<- M.length,AB]
 refine bU (id D) fun o n U _=>call_all_walk (wpAny_pyIter_list D.isList ⟨s.heap.objs.size,_,_,_,_,_,fun i=>(ys[i]?).getD false,rfl,Walks.list (A:=X.A.in1) (I.ok.hd S) s.heap.objs.size p (AY (AG U)) j.toArray,⟨⟨_,AL _ rfl,rfl,rfl⟩,D.isList.push _⟩,fun i v s' O E' hP g=>?_,fun h' tk kk=>?_⟩)
 .have J:j[i]?=some v :=by simp_all
  have hi :=F▸(AU.mp J).1;have Z:(List.map V.bl ys)[i]?=some (.bl ys[i]):=by rw[Am,AK hi];rfl
  obtain⟨u,G,ru⟩:=(M.get Z);rw[J] at G;cases G;cases ru;have g:O ((ys[i]?).getD false) s':=g;rw[AK hi] at g;exact A6 g
 .have N:Inv X pins σ H { s with heap:=h',toks:=tk }:=I.kept fun b o e=>kk b o (by intro z;exact absurd (AG e) ((AF.mp z)▸BC _)) (AC _ e)
  have e:((List.range j.toArray.size).all fun i=>(ys[i]?).getD false)=ys.all id:=by rw[Al,F,V4]
  exact e▸⟨.bl (ys.all id),H,N,rfl,q⟩
inductive Ty where
 |non | bl | int | str | lst | tup | dct
 deriving DecidableEq
noncomputable def dF:Ty->String
 |.non=>"NoneType" | .bl=>"bool" | .int=>"int" | .str=>"str" | .lst=>"list" | .tup=>"tuple" | .dct=>"dict"
noncomputable def Np:HO->Option Ty
 |.lst _=>some .lst
 |.frz _ (.lst _)=>some .lst
 |.tup _=>some .tup
 |.dK _=>some .dct
 |.dT _=>some .dct
 |_=>none
noncomputable def Nm(H:Hp):V->Option Ty
 |.non=>some .non
 |.bl _=>some .bl
 |.int _=>some .int
 |.str _=>some .str
 |.ref a=>(H a).bind Np
 |_=>none
def um{K}(h:Nm H x=some n):vH K H x (.type (dF n)):=by
 cases x with
 |non=>cases h;exact .non
 |bl b=>cases h;exact .bl b
 |int i=>cases h;exact .int i
 |str z=>cases h;exact .str z
 |ref a =>
  have h:(H a).bind Np=some n:=h
  cases e:H a with
  |none=>rw[e] at h;cases h
  |some o =>
   rw[e] at h
   cases o with
   |lst xs=>cases h;exact .lst e
   |tup xs=>cases h;exact .tup e
   |dK kvs=>cases h;exact .dK e
   |dT kvs=>cases h;exact .dT e
   |frz g u =>
    cases u with
    |lst xs=>cases h;exact .frz e
    |_=>cases h
   |_=>cases h
 |byt b=>cases h
 |flt b=>cases h
 |ty n=>cases h
noncomputable def lY:Ty->Ty->Bool
 |.bl,.int=>true
 |a,b=>decide (a=b)
def xq K n T:PySem.W.kitOne K (.type (dF n)) (.type (dF T))=some (lY n T):=by
 cases n<;>cases T<;>with_unfolding_all rfl
def vX:CallR X (.builtin "isinstance") (fun xs H Q=>∃x T n,xs=[x,.ty (dF T)]/\Nm H x=some n/\Q (.bl (lY n T)) H):=by
 intro pins s σ H xs F Q I r h;obtain⟨x,T,n,rfl,g,q⟩:=h;obtain⟨u,G,rfl,j,rfl⟩:=Qv r;exact VC I j (um g) (xq X.K n T) fun D=>⟨.bl (lY n T),H,I.tok D,rfl,q⟩
def HX:SlR X (fun x lo hi H Q=>∃z,x=.str z/\z.length<=sizeLine/\Q (.str (Txt.slice z lo hi)) H):=by
 intro pins s σ H x v U Y lo hi S Q I O hs N J h;obtain⟨z,rfl,D,q⟩:=h;obtain⟨t,rfl⟩:=O;refine⟨"str",_,F.slot_str_getitem.lookup,typeIs_str _ _ _,?_⟩;have g:∀(t':Tok)(k:Nat),EP X pins σ Q (.str (Txt.slice z lo hi) t') { s with toks:=k }:=fun t' k=>⟨.str _,H,I.tok k,⟨_,rfl⟩,q⟩
 cases N with
 |none =>
  cases J with
  |none=>exact Cc (l:=none) (u:=none) (st:=none) hs rfl (DW ⟨AW (Txt.slice_le z _ _) D,g⟩)
  |int j G=>exact Cc (l:=none) (u:=some (j,G)) (st:=none) hs rfl (DW ⟨AW (Txt.slice_le z _ _) D,g⟩)
 |int i M =>
  cases J with
  |none=>exact Cc (l:=some (i,M)) (u:=none) (st:=none) hs rfl (DW ⟨AW (Txt.slice_le z _ _) D,g⟩)
  |int j G=>exact Cc (l:=some (i,M)) (u:=some (j,G)) (st:=none) hs rfl (DW ⟨AW (Txt.slice_le z _ _) D,g⟩)
def QW:OpR X (binaryOp .FloorDiv) (rI (fun _ j=>0 < j/\j < 18446744073709551616) fun i j=>.int (i / j)):=opI fun i j _ _ _ _ _ D q=>by
 refine floordiv_int (by lia) (by grind) (.inl (PyProof.noPylong_of_log2 ?_));have g:j.natAbs < 2 ^ 64 :=by lia
 exact AR ((Nat.log2_lt (by omega)).mpr g) (by decide)
end
structure JE(X:Cx)(e:Expr)(t:TE):Prop where
 h:PE X e t
structure JT(X:Cx)(e:Expr)(t:TT):Prop where
 h:PT X e t
structure JW(X:Cx)(e:Expr)(t:TT):Prop where
 h:PW X e t
structure JA(X:Cx)(es:List Expr)(t:TA):Prop where
 h:PA X es t
structure JS(X:Cx)(st:Stmt)(t:TS):Prop where
 h:PS X st t
structure JB(X:Cx)(st:List Stmt)(t:TS):Prop where
 h:PSs X st t
structure JG(X:Cx)(e:Expr)(t:TG):Prop where
 h:PG X e t
structure Ny(X:Cx)(es:List Expr)(t:TGs):Prop where
 h:PGs X es t
structure JI(X:Cx)(tg e:Expr)(t:TI):Prop where
 h:PI X tg e t
structure JF(X:Cx)(ifs:List Expr)(t:TT):Prop where
 h:V7 X ifs t
structure JO(X:Cx)(e:Option Expr)(t:TO):Prop where
 h:PO X e t
section
variable {X:Cx}{a b c e o i:Expr}{es:List Expr}{ta tb tc te:TE}{tA tB':TT}{t:TA}{pos:Pos}{rest:List Expr}
def yg(j:Gl X x)(q:X.mg x=none)(F:bootBuiltins x=some u)(r:RelV v u)(D:x ≠ "__name__":=by decide)(g:(x==("__debug__" : Str))=false:=by decide):JE X (.Name x pos) (tC v):=⟨pe_bltn j q F r D g⟩
noncomputable def mP:Expr->Bool
 |.Name _ _=>true | .Call _ _ _ _=>true | .Subscript _ _ _=>true | .Attribute _ _ _=>true | .IfExp _ _ _ _=>false | _=>false
def dC(h:mP e=true):∀g,isTrue e j g=(do let v <- g;standAt e.pos;holding [v] (truthy v)):=by
 cases e<;>first | (intro _;rfl) | exact absurd h AO
def hM(g:JE X e te)(j:JA X es t)(hs:yX e=true:=by rfl):JA X (e::es) (Wr te t):=⟨u9 g.h j.h hs⟩
def yf{p}(F:FnOk X.prog X.w X.K X.mg X.base CX k f fd ps sp)(N:Room k X.A)(I:Gl X x)(M:X.mg x=some (.ref f))(J:PySem.W.keepIn X.K (.ref f)=true)(q:Binds X.K fd ps ds)(D:Vals dvs ds)(O:jW CX X E)(g:JA X (e::es) t)(G:(x==("__debug__" : Str))=false:=by decide)(hs:yX e=true:=by rfl)(j:es.all yX=true:=by rfl):JE X (.Call (.Name x p) (e::es) [] pos) (Wu sp dvs E t):=⟨u6 F N I M J q D O g.h G hs j⟩
def sG{p}(q:CallR X (.type T) r)(F:Gl X x)(G:X.mg x=none)(J:bootBuiltins x=some (.type T))(g:JA X (e::es) t)(I:x ≠ "__name__":=by decide)(D:(x==("__debug__" : Str))=false:=by decide)(hs:yX e=true:=by rfl)(j:es.all yX=true:=by rfl):JE X (.Call (.Name x p) (e::es) [] pos) (tCB r t):=⟨K7 q F G J g.h I D hs j⟩
def ye{I G:Expr}{x:Str}{M:Pos}{J:List Expr}{D:Scope}{F:List (Str×Addr)}{N:TI}{tc:TT}(S:X.calm=true)(O:(x::X.N).Nodup)(K:vM X x D F)(hi:JI X (.Name x M) G N)(Y:∀j C q g,JF (nK X x D F j C q g) J tc)(U:∀j C q g,JE (nK X x D F j C q g) I te)(hs:∀v,foldedSetIterable G X.env v=pure v:=by intro _;rfl):JE X (.ListComp I [⟨.Name x M,G,J,0⟩] D pos) (QA N tc te) :=
 ⟨v4 S O K hi.h (fun j C q g=>(Y j C q g).h) (fun j C q g=>(U j C q g).h) hs⟩
variable {tg:Expr}
end
section
variable {X:Cx}{st:Stmt}{sts:List Stmt}{t u:TS}{e c:Expr}{te:TE}{tc:TT}{pos:Pos}
end
section
variable {P:Program}{w:World}{K:Dm}{mg:Str->Option Value}{base:Heap}
def Fun.okJ{st}(F:Fun K x D st f fd)(S:FnScope N ps (lX st))(M:∀vs H Q E,sp vs H Q E->vs.length=ps.length)(G:∀g A j s H vs Q E,Room k (A.deeper (envOfC D (lX st) s.heap.objs.size f g))->sp vs H Q E ->
   ∃t,JB (mI CX0 P w K mg base N D (lX st) f g A j s H E).nox (qV st) t/\t { nx:=fun _ H'=>Q .non H',rt:=Q } (start N vs) H):FnOk P w K mg base CX0 (k+1) f fd ps sp :=
 F.ok S M fun g A j s H vs Q E I h=>let ⟨t,J,q⟩:=G g A j s H vs Q E I h;⟨t,J.h,q⟩
end
section
variable {X:Cx}{d:Addr}{kvs:List (Key×V)}
def zL(g:X.A.units < cLine):OpR X (compareOp .NotEq) (fun x y H Q=>∃a b xs,x=.ref a/\y=.ref b/\SqL X.K H a xs/\SqL X.K H b []/\Q (.bl (!xs.isEmpty)) H):=by
 intro pins s σ H x y v u Q I Y Z h;obtain⟨a,b,xs,rfl,rfl,M,N,q⟩:=h;cases Y;cases Z;obtain⟨O,F,D,_⟩:=I.list M;obtain⟨S,U,p2,_⟩:=I.list N;have J:S=[]:=Vals.zero U;subst J
 cases xs with
 |nil =>
  have G:O=[]:=Vals.zero F;subst G;exact SeqAt.RcNeAt.lists (e:=fun _=>true) D.isList p2.isList rfl g (fun j h1 _=>absurd h1 (Bu _)) _ _ _ _ ⟨.bl false,H,I,rfl,q⟩
 |cons ab xr =>
  cases F with
  |cons _ t=>exact SeqAt.RcNeAt.lists_lengths D.isList p2.isList (by simp) g _ _ _ _ ⟨.bl true,H,I,rfl,q⟩
def JU:V->List V->Hp->VK->Prop:=fun x vs H Q=>∃l xs i y,x=.ref l/\vs=[.int i,y]/\H l=some (.lst xs)/\0<=i/\i<=xs.length/\xs.length < sizeLine/\Q .non (upd H l (.lst (xs.take i.toNat++y::xs.drop i.toNat)))
def Vs:MtM X "list.insert" JU:=by
 intro pins s σ H x vs v ab Q I O N h;obtain⟨l,xs,i,y,rfl,rfl,D,h0,h1,Y,q⟩:=h;cases O;obtain⟨Z,j,rfl,J,M⟩:=N.two;obtain⟨t,rfl⟩:=J;obtain⟨z,g,n,r,S,e⟩:=I.lstM D;have U:=mB
 refine Cb F.slot_list_insert ⟨_,e,rfl⟩ F.entry_list_insert (F.args_list_insert_3 _ _ _)
  (AutoListH.list_insert_list_int_val_1 l g.toArray n i t j (by rw[fitsIndex_both (by omega) (by omega)];exact AO) (by rw[Al];omega)) ⟨e,?_⟩
 refine⟨.non,_,I.lset (its':=g.take i.toNat++j::g.drop i.toNat) D e ?_ (Vals.append (r.take _) (.cons M (r.drop _))) ?_,rfl,q⟩
 .have G:(if i < 0 then (i+((g.toArray.size:Nat):Int)).toNat else min i.toNat g.toArray.size)=i.toNat:=by
   rw[Af (by omega),Al];omega
  show(g.toArray.extract 0 (if i < 0 then (i+((g.toArray.size:Nat):Int)).toNat else min i.toNat g.toArray.size)).push j++g.toArray.extract (if i < 0 then (i+((g.toArray.size:Nat):Int)).toNat else min i.toNat g.toArray.size)=_;rw[G]
  apply Array.toList_inj.mp
  simp
  exact Bq (by rw[BN];exact AH _)
 .rw [AJ,AQ,A1,BN]
  omega
end
theorem zD: ∀(I:List (Str×NameKind))acc,(∀y∈I,y.2=.free->∃c,D.cells.lookup y.1=some c)->(∀y c,acc.lookup y=some c->D.cells.lookup y=some c) ->
  ∃j,(forIn I acc fun x r=>(do
    if x.2==NameKind.free then do
     let c <- cellOf D x.1
     pure (ForInStep.yield ((x.1,c)::r))
    else pure (ForInStep.yield r):Sem (ForInStep (List (Str×Addr)))))=pure j/\(∀y c,j.lookup y=some c->D.cells.lookup y=some c)/\(∀y∈I,y.2=.free->∃c,j.lookup y.1=some c)/\∀y c,acc.lookup y=some c->∃q,j.lookup y=some q
 |[],acc,_,F=>⟨acc,rfl,F,fun y g=>absurd g (by simp),fun y c h=>⟨c,h⟩⟩
 | (n,k)::r,acc,G,F=>by
  cases Y:(k==NameKind.free) with
  |false =>
   refine zb (zD r acc (fun y g=>G y (AI _ g)) F) fun j e h1 h2 J=>⟨j,?_,h1,fun y g S=>?_,J⟩
   .grind
   .grind
  |true =>
   have N:k=.free :=by lia
   refine Mt (G (n,k) AE N) fun c M=>?_
   have O:∀y q,((n,c)::acc).lookup y=some q->D.cells.lookup y=some q:=fun y q h=>by
    rw[List.lookup_cons] at h
    cases g:y==n with
    |true =>
     rw[g] at h;have:y=n :=by lia
     subst this
     rwa [M]
    |false =>
     rw[g] at h;exact F y q h
   refine zb (zD r ((n,c)::acc) (fun y g=>G y (AI _ g)) O) fun j e h1 h2 J=>?_;have U:cellOf D n=pure c:=by delta cellOf;rw[M]
   refine⟨j,?_,h1,fun y g S=>?_,fun y q h=>?_⟩
   .grind
   .grind
   .grind
def zS(xs:List Str)(g:Scope)(N:List Str)(sc:Scope):Bool :=
 g.names.all (fun y=>decide (y.2≠.cell)&&(decide (y.2≠.free) || decide (sc.names.lookup y.1=some .cell))&&(decide (y.2≠.local) || (decide (g.names.lookup y.1=some .local)&&decide (y.1∉N))))&&decide (g.kind=.function)&&xs.all (fun x=>decide (g.names.lookup x=some .local))
def qS(J:X.N=N)(S:X.env.scope=sc)(M:X.env.cells=cellsFrom L sc.names [])(h:zS xs D N sc=true):∃F,xY X xs D F:=by
 subst J S
 delta zS at h
 rw[BF,BF,BZ] at h;obtain⟨⟨h1,h2⟩,I⟩:=h
 have j:∀y∈D.names,y.2≠.cell/\(y.2=.free->X.env.scope.names.lookup y.1=some .cell)/\(y.2=.local->D.names.lookup y.1=some .local/\y.1∉X.N):=fun y g=>by
  have q:=h1 y g;rw[BF,BF] at q;obtain⟨⟨q1,q2⟩,q3⟩:=q;refine⟨AZ q1,fun e=>?_,fun e=>?_⟩
  .lia
  .lia
 refine zb (zD D.names [] (fun y g O=>M▸vS ((j y g).2.1 O)) (fun y c z=>by simp at z)) fun F e Y Z _=>?_;refine⟨F,⟨?_,fun y g=>(j y g).1,AZ h2,fun y g q=>((j y g).2.2 q).1,fun x U=>AZ (BZ.1 I x U),fun y g q=>((j y g).2.2 q).2,fun y g q=>⟨?_,.inl ((j y g).2.1 q),Z y g q⟩,Y⟩⟩
 .have G:=Bz (fun m:Sem (List (Str×Addr))=>m >>= fun cs=>(pure cs:Sem (List (Str×Addr)))) e
  exact G
 .show X.env.scope.names.lookup y.1≠some .local
  rw[(j y g).2.1 q]
  decide
def gR{X:Cx}{I F:Expr}{x:Str}{M pos:Pos}{J:List Expr}{j:Scope}{N:TI}{tc:TT}{te:TE}(S:X.calm=true)(O:(x::X.N).Nodup)(K:∃g,vM X x j g)(hi:JI X (.Name x M) F N)(Y:∀g D C G q,JF (nK X x j g D C G q) J tc)(U:∀g D C G q,JE (nK X x j g D C G q) I te)(hs:∀v,foldedSetIterable F X.env v=pure v:=by intro _;rfl):JE X (.ListComp I [⟨.Name x M,F,J,0⟩] j pos) (QA N tc te) :=
 let ⟨g,K⟩:=K
 ye S O K hi (Y g) (U g) hs
section
variable {X:Cx}{o e:Expr}{es:List Expr}{to:TE}{t:TA}{name:Str}{apos cpos:Pos}{T id:String}{r:V->List V->Hp->VK->Prop}
end
section
variable {X:Cx}{pos:Pos}
def Hm(j:attributeBase o m X.env (eval o X.env)=eval o X.env)(F:(apos.endLine==cpos.line)=true)(q:yX e=true)(D:yX f=true):M2 X o m apos e f cpos:=by
 have g:starEach [e,f] X.env=[(false,eval e X.env),(false,eval f X.env)]:=by
  rw[tZ q,tZ D]
  rfl
 refine⟨j,?_,F,?_⟩
 .rw [g];rfl
 .rw [g];rfl
end
section
variable {X:Cx}{o i value:Expr}{td ty tv:TE}{pos pos':Pos}
end
end L2
namespace PySem.SeqAt
open MeetsSeq
def X8 b u l j es n D:
  Meets (Builtin.«str.__eq__» ⟨[.str b u,.ref l],[]⟩) (fun _ R s=>s.heap.get? l=some ⟨.type "dict",j,.dict es n,D⟩/\R (.ok (.ret .notImplemented)) s) :=
 .of_wp fun prog w A R s h=>by
  obtain⟨F,g,d,I,G⟩:=s;obtain⟨q,h⟩:=h
  wp_walk using wpAny_load q
  exact⟨_,rfl,h⟩
def Qu b u l j es n D:
  Meets (Builtin.«dict.__eq__» ⟨[.ref l,.str b u],[]⟩) (fun _ R s=>s.heap.get? l=some ⟨.type "dict",j,.dict es n,D⟩/\R (.ok (.ret .notImplemented)) s) :=
 .of_wp fun prog w A R s h=>by
  obtain⟨I,g,d,M,J⟩:=s;obtain⟨q,h⟩:=h;have G:=F.sub_str_dict
  wp_walk using wpAny_load q
  exact⟨_,rfl,h⟩
def j5(j:s.heap.get? l=some ⟨.type "dict",q,.dict es n,D⟩)(I:A.units < cLine):
  EqAt A s (.str b u) (.ref l) false:=fun prog w E Q h=>by
 refine Av (CQ (fun G=>absurd (eq_of_beq G) nofun) (fun _=>AA ?_))
 have R:RcAt A s (.str b u) (.ref l) false:=fun prog w E Q h=>rc_eq_decline_or (typeIs_str s b u) ⟨_,j,rfl⟩ rfl F.sub_dict_str F.slot_str_eq F.slot_dict_eq_refl
  (fun _ g=>Cb F.slot_str_eq (typeIs_str s b u) F.entry_str_eq (F.args_str_eq_2 _ _) (X8 b u l q es n D) ⟨j,g⟩)
  (fun _ g=>Cb F.slot_dict_eq_refl ⟨_,j,rfl⟩ F.entry_dict_eq (F.args_dict_eq_2 _ _) (Qu b u l q es n D) ⟨j,g⟩)
  (fun _ g=>wpAny_of_eq rfl g) (.inr I) h
 exact R prog w E _ (A6 h)
end PySem.SeqAt
namespace L2
open PySem PySem.Spec PyProof.Rows
section
variable {X:Cx}
theorem qI(q:∀(z:Str)(t:Tok),SeqAt.EqAt A s (.str z t) v (eqV (.str z) x)):∀{l:List Str}{j},Vals (l.map V.str) j->∀u∈j,SeqAt.EqAt A s u v (eqU x u)
 |[],_,.nil=>fun u g=>by cases g
 |z::l,u::j,.cons r t=>fun D g=>by
  rcases Aj.mp g with rfl | g
  .obtain ⟨t',rfl⟩:=r
   exact q z t'
  .exact qI q t D g
def nR(I:Inv X pins σ H s)(D:RelV x v)(g:Nm H x=some c)(j:A.units < cLine)z t:
  SeqAt.EqAt A s (.str z t) v (eqV (.str z) x):=by
 cases x with
 |non=>exact sR ⟨t,rfl⟩ D rfl rfl
 |bl b=>exact sR ⟨t,rfl⟩ D rfl rfl
 |int i=>exact sR ⟨t,rfl⟩ D rfl rfl
 |str y=>exact sR ⟨t,rfl⟩ D rfl rfl
 |ref a =>
  cases D;have g:(H a).bind Np=some c:=g
  cases e:H a with
  |none=>rw[e] at g;cases g
  |some o =>
   rw[e] at g;have q:=I.hok a o e
   cases o with
   |lst xs =>
    obtain⟨_,G,n,_,h1⟩:=q;exact SeqAt.EqAt.str_list z t ⟨_,h1,rfl,n,rfl⟩ j
   |tup xs =>
    obtain⟨_,G,_,p⟩:=q;exact SeqAt.EqAt.str_tuple z t (ji.is p) j
   |dK kvs =>
    obtain⟨_,_,vs,_,p⟩:=q;obtain⟨⟨J,N,M,O⟩,es,ep,h1,h2,F,_⟩:=p;have h2:=h2.1;subst h2 F;exact SeqAt.j5 h1 j
   |dT kvs =>
    obtain⟨_,_,xs,_,⟨J,N,M,O⟩,es,ep,h1,h2,F,_⟩:=q;have h2:=h2.1;subst h2 F;exact SeqAt.j5 h1 j
   |frz S u =>
    cases u with
    |lst xs =>
     obtain⟨_,_,G,n,_,h1⟩:=q;exact SeqAt.EqAt.str_list z t ⟨_,h1,rfl,n,rfl⟩ j
    |_=>cases g
   |_=>cases g
 |byt b=>cases g
 |flt b=>cases g
 |ty b=>cases g
def SJ(l:List Str):V->Bool
 |.str z=>l.contains z
 |_=>false
theorem oS x:∀{l}{g},Vals (l.map V.str) g->g.any (eqU x)=SJ l x
 |[],_,.nil=>by cases x<;>rfl
 |z::l,u::g,.cons r t=>by
  obtain⟨t',rfl⟩:=r;rw[BI,oS x t]
  cases x with
  |str y =>
   show((z==y) || l.contains y)=(z::l).contains y
   congr 1
   rw[Cu,beq_iff_eq,beq_iff_eq];exact eq_comm
  |_=>rfl
def Og(K:Dm)(g:Bool):R2:=fun x y H Q=>∃p l c,y=.ref p/\(SqL K H p (List.map V.str l)\/SqT K H p (List.map V.str l))/\Nm H x=some c/\Q (.bl (if g then !SJ l x else SJ l x)) H
def Yh(G:X.A.units+1 < cLine):OpR X (compareOp .In) (Og X.K false):=by
 intro pins s σ H x y v u Q I M O h;obtain⟨p,l,c,rfl,g,F,q⟩:=h;cases O
 rcases g with g | g
 .obtain ⟨j,r,D,N⟩:=I.list g
  refine SeqAt.in_listAt (eqU x) D.isList (fun w J=>qI (nR I M F G) r w (by grind)) ⟨.bl _,H,I,rfl,?_⟩;rw[show j.toArray.any (eqU x)=j.any (eqU x) by simp,oS x r];exact q
 .obtain ⟨j,r,D,N⟩:=I.tuple g
  refine SeqAt.in_tupleAt (eqU x) D (fun w J=>qI (nR I M F G) r w (by simpa using J)) ⟨.bl _,H,I,rfl,?_⟩;rw[show j.toArray.any (eqU x)=j.any (eqU x) by simp,oS x r];exact q
def Il(K:Dm):R2:=fun x y H Q=>∃a b xs ys,x=.ref a/\y=.ref b/\SqT K H a xs/\SqT K H b ys/\xs.length+ys.length<=sizeLine /\
 (xs=[]->Q (.ref b) H)/\(xs≠[]->ys=[]->Q (.ref a) H)/\(xs≠[]->ys≠[]->∀p,H p=none->Q (.ref p) (upd H p (.tup (xs++ys))))
def Yi:OpR X (binaryOp .Add) (Il X.K):=by
 intro pins s σ H x y v u Q I G J h;obtain⟨a,b,xs,ys,rfl,rfl,j,q,Z,q0,q1,q2⟩:=h
 by_cases g:xs=[]
 .cases G
  cases J;refine hZ (I.tuple j) fun aj r1 p1 _=>hZ (I.tuple q) fun ab r2 p2 _=>?_;have e:=r1.nil_iff.mpr g;subst e;obtain⟨⟨af,M,ah,sl⟩,D,O,n,U⟩:=id p1;obtain⟨⟨ag,N,ai,ae⟩,F,S,n2,Y⟩:=id p2;subst O U S Y
  exact concat_meets ⟨_,D,rfl⟩ ⟨_,F,rfl⟩ noFill_tuple_add seq_tuple_add DR DL (DH _ _)
   (tuple_addW0 a b _ ab.toArray n n2 M N sl ae rfl) ⟨D,F,⟨.ref b,H,I,rfl,q0 g⟩⟩
 .exact op_catT pins s σ H (.ref a) (.ref b) v u Q I G J ⟨a,b,xs,ys,rfl,rfl,j,q,g,Z,q1 g,q2 g⟩
end
abbrev Cx.at_(X:Cx)(k:Nat):Cx:={ X with N:=X.N.set k "?" }
def Fp(k:Nat)(σ:St):Prop:=∀v,σ[k]?≠some (some v)
section
variable {X:Cx}{pins:List (Addr×Obj)}{σ:St}{H:Hp}{s:Shared}{k:Nat}{e:Expr}{te:TE}{st:Stmt}{t:TS}
def Ox(ab:X.Ok):(X.at_ k).Ok:=by
 obtain⟨h1,h2,N,O,S,U,Y,Z,h9,g,j,q,D,F,G,I,J,M⟩:=ab;exact⟨h1,h2,N,O,S,U,Y,Z,h9,g,j,q,D,F,G,I,J,M⟩
def Yn(ab:(X.at_ k).Ok):X.Ok:=by
 obtain⟨h1,h2,N,O,S,U,Y,Z,h9,g,j,q,D,F,G,I,J,M⟩:=ab;exact⟨h1,h2,N,O,S,U,Y,Z,h9,g,j,q,D,F,G,I,J,M⟩
def Mh(n:Fp k σ)(I:Inv X pins σ H s):Inv (X.at_ k) pins σ H s:=by
 refine oQ I.loc fun m F D=>⟨Ox I.ok,I.os,I.bare,I.base,⟨m,F,fun i x v g j q=>?_⟩,I.cell,I.free,I.freeC,I.pin,I.hok,?_⟩
 .by_cases hi:k=i
  .subst hi;exact absurd j (n v)
  .rw [B4 hi] at g
   exact D i x v g j q
 .rw [DY]
  exact I.len
def VE(n:Fp k σ)(I:Inv (X.at_ k) pins σ H s):Inv X pins σ H s:=by
 refine oQ I.loc fun m D q=>⟨Yn I.ok,I.os,I.bare,I.base,⟨m,D,fun i x v F g j=>?_⟩,I.cell,I.free,I.freeC,I.pin,I.hok,?_⟩
 .by_cases hi:k=i
  .subst hi;exact absurd g (n v)
  .refine q i x v ?_ g j
   rwa [B4 hi]
 .have:=I.len
  rw[this,DY]
def yd k(j:JE (X.at_ k) e te):JE X e (fun σ H Q=>Fp k σ/\te σ H Q) :=
 ⟨fun pins s σ H Q I h=>thn (j.h pins s σ H Q (Mh h.1 I) h.2) fun v G F=>kZ F fun x H1 g D q=> ⟨x,H1,VE h.1 g,D,q⟩⟩
def O8 k(h:JS X st t):JS X st (fun D σ H=>t D (σ.set k none) H) :=
 ⟨fun pins s σ H D I q=>h.h pins s (σ.set k none) H D (I.weak (by grind) fun i v e=>by
  by_cases hi:k=i
  .grind
  .rwa [B4 hi] at e) q⟩
end
section
variable {X:Cx}
def xu{U S pos ae}(ao:X.N.Nodup)(hi:X.N[i]?=some y)(hy:Loc X.env.scope y)(hc:X.calm=true)(hN:(x::X.N).Nodup)(K:vM X x I Y)(hI:JI X (.Name x S) O wi)(ht:∀F C G j,JF (nK X x I Y F C G j) ab tc)(ar:∀F C G j,JE (nK X x I Y F C G j) Z te)(hs:∀v,foldedSetIterable O X.env v=pure v:=by intro _;rfl)(aw:swapsWith (.ListComp Z [⟨.Name x S,O,ab,0⟩] I pos) (some (.Name y U)) ae.line X.env=pure true:=by rfl)(au:X.fn y=true\/X.env.scope.names.lookup y=some .local:=by first | exact .inl rfl | exact .inr rfl | assumption):
  JS X (.Assign [.Name y U] (.ListComp Z [⟨.Name x S,O,ab,0⟩] I pos) ae) (tAsg (QA wi tc te) (mF i)):=by
 refine⟨fun pins s σ H D af h=>?_⟩;rw[exec_Assign_Name_used _ _ _ _ aw];refine AA (wpAny_standAt (AA (AA (DG (use:=some (assign (.Name y U) X.env)) rfl hs K.clos K.kind K.names (thn (hI.h pins s σ H _ af h) fun xv a7 ax=>thn ax fun a5 G ay=>?_)))));obtain⟨it,F,tn,J,j,e,M,T,a0,ag,R⟩:=ay;subst e
 apply rB (Q:=fun x H1=>mF i x σ H1 D.nx) hc K (fun _ _ _ _=>iD (i:=0) hN rfl (.inl (Bh (K.hx x (.head _)))) (.inr (Bh (K.hx x (.head _))))) (fun F C G j=>(ht F C G j).h) (fun F C G j=>(ar F C G j).h) (by rintro a4 vs y H Q l rfl _ q;match a4,l with | [_],_=>exact q) M T a0 ag (fun D hD=>let ⟨W,w0,a3⟩:=R D hD;⟨W,w0,fun i m ys H w=>(a3 i m ys H w).imp id fun zz=>uL zz fun g st=> ⟨g,fun x H' y=>⟨[x],rfl,rfl,st x H' y⟩⟩⟩)
 intro D' C H' a6 m hn ai ah aj ak I4 q;refine wpAny_assign_Name (bO I4 ao hi hy (v:=.ref D') rfl (fun az I5 N=>?_) au);obtain⟨b,N,hb⟩:=N;have aq:C≠b :=by grind
 exact⟨m,hn.at' fun o e=>(N.2 C aq).trans e,fun h' av=>AD (AD ⟨_,H',I5.turned (t':=az.toks) (fun b o hb e=>(av.2 b hb).trans e) ah ai (.inr (AW M.sz ak)) aj fun p hp z=>absurd (AR (AG (M.pin p hp).1) (by lia)) (BC _),q⟩)⟩
end
theorem sameNew(h:H p=none)o:Same H (upd H p o):=fun b u q=>by rwa [fQ (aJ q h)]
section
variable {X:Cx}
def Ha:R2:=fun x y H Q=>∃a b xs ys,x=.ref a/\y=.ref b/\H a=some (.tup xs)/\H b=some (.tup ys)/\xs.length+ys.length<=sizeLine/\∀r H',Same H H'->H' r=some (.tup (xs++ys))->(H r=none\/r=a\/r=b)->Q (.ref r) H'
def v6:OpR X (binaryOp .Add) Ha:=by
 intro pins s σ H x y v u Q I M N h;exact TQ h fun a b xs ys j D F G J q=>Yi pins s σ H x y v u Q I M N ⟨a,b,xs,ys,j,D,SqT.of F,SqT.of G,J,fun h=>q b H (Same.refl H) (by rwa [h]) (.inr (.inr rfl)),fun _ h=>q a H (Same.refl H) (by grind) (.inr (.inl rfl)),fun _ _ p g=>q p _ (sameNew g _) mQ (.inl g)⟩
end
end L2
namespace PySem
open PySem.Spec PyProof.Rows PyProof.Rows.F
def nM:entryFor table "dict.update.loop" = some Builtin.«dict.update.loop»:=entryFor_of_tree (by kernel_rfl)
def wY:plainId "dict.update.loop" = true:=by decide +kernel
section
variable {prog:Program}{w:World}{κ:Type}[DecidableEq κ]{knd:KeyKind prog w κ}{A:Around}{d it t:Addr}{items:Array Value}{ps:List (κ×Value)}{res:Value}
def aZ{h h':Heap}(x:h.IsTuple p xs)(e:∀o,h.get? p=some o->h'.get? p=some o):h'.IsTuple p xs:=let ⟨o,q,r⟩:=x;⟨o,e o q,r⟩
def mR{h h':Heap}(x:h.IsTupleIter it p i)(e:∀o,h.get? it=some o->h'.get? it=some o):h'.IsTupleIter it p i:=let ⟨o,q,r⟩:=x;⟨o,e o q,r⟩
def oP{h h':Heap}(x:h.DictOf knd d kvs)(e:∀o,h.get? d=some o->h'.get? d=some o):h'.DictOf knd d kvs:=let ⟨o,es,ep,q,r⟩:=x;⟨o,es,ep,e o q,r⟩
def QU(af:A.in1.handled=none)(N:d≠it)(aq:d≠t)(au:t≠it)(av:items[ps.length]?=none):∀r i s acc,i+r=ps.length ->
   s.heap.IsTupleIter it t i->s.heap.IsTuple t items->s.heap.DictOf knd d acc->acc.length+r<=sizeLine ->
   (∀j(h:j < ps.length),∃p M,items[j]?=some (.ref p)/\p≠d/\p≠it/\s.heap.IsTuple p #[M,ps[j].2]/\knd.is ps[j].1 M=true) ->
   (∀h S,(∀b o,b≠d->b≠it->s.heap.get? b=some o->h.get? b=some o)->h.DictOf knd d (merged acc (ps.drop i))->R (.ok (.ret res)) { s with heap:=h,toks:=S }) ->
   codeAny (model prog w) A (.builtin "dict.update.loop" ⟨[.ref d,.ref it,rawInt i,res],[]⟩) R s:=by
 intro r
 induction r with
 |zero =>
  intro i s acc e I tt G hz J F;have ei:i=ps.length:=by lia
  subst ei;rw[Bn] at F;exact BS nM ((Around.under_plainId wY _)▸AA (DN af I tt av fun h x=>AA (AD (AD (F h s.toks (fun b o _ ao q=>x b o ao q) (oP G fun o q=>x d o N q))))))
 |succ r ih =>
  intro i s acc e I tt G hz J F;have hi:i < ps.length:=by lia
  refine za (J i hi) fun p M hp aw ar tp kk=>BS nM (AA (DJ I tt hp fun h1 ai g=>?_));have ab:=aZ tp fun o q=>g.extBut p o ar q;refine AA (Av (AA (wpAny_tryCatch (AA (B6 ab.typeIs ?_)))));obtain⟨op,e1,e2,n,e3⟩:=id ab;refine AA (A0 e1 e3 (AD (Av (wpAny_dictSet_pairs kk (oP G fun o q=>g.extBut d o N q) (fun h2 ag D=>?_) (by lia)))))
  have ah:merged acc (ps.drop i)=merged (stored acc ps[i].1 ps[i].2) (ps.drop (i+1)):=by
   rw[Ao hi];rfl
  refine AD ⟨BW wY _,?_⟩;have ek:rawInt ((i:Int)+1)=rawInt ((i+1:Nat):Int):=by rw[Int.natCast_add];rfl
  refine ih (i+1) _ (stored acc ps[i].1 ps[i].2) (by lia) (mR ai fun o q=>(D.2 it (Ne.symm N)).trans q) (aZ (aZ tt fun o q=>g.extBut t o au q) fun o q=>(D.2 t (Ne.symm aq)).trans q) ag ?_ (fun j hj=>?_) fun h S aj Z=>?_
  .have:=stored_length_le acc ps[i].1 ps[i].2
   lia
  .exact za (J j hj) fun O ak ae U Y a4 a5=>⟨O,ak,ae,U,Y,aZ (aZ a4 fun o q=>g.extBut O o Y q) fun o q=>(D.2 O U).trans q,a5⟩
  .rw [<- ah] at Z
   exact F h S (fun b o n1 n2 q=>aj b o n1 n2 ((D.2 b n1).trans (g.extBut b o n2 q))) Z
end
def zT:typeLookup (.type "tuple") "keys" = pure none:=by rw[DV,Cm];kernel_rfl
def uF
  (J:s.heap.get? a=some o)(D:o.cls=.type "tuple")(I:o.data=.seq xs k)(G:o.dict=none)(O:A.handled=none)(h:∀(h':Heap)(N:Nat),(∀b u,s.heap.get? b=some u->h'.get? b=some u)->Q none { s with heap:=h',toks:=N }):wpAny (model prog w) A (getAttr? (.ref a) "keys") Q E s:=by
 obtain⟨c,ab,Z,Y⟩:=o
 simp only at D I G
 subst D I G;obtain⟨S,g,d,N,U⟩:=s;have q:∀j,(⟨S,g,d,j,U⟩:Shared).TypeIs (.ref a) "tuple":=fun _=>⟨_,J,rfl⟩;have ae:=sub_AttributeError;have f3:=DC.lookup;have af:=DC.bind (.ref a);have f5:=am_tuple_getattr_none
 delta getAttr? getAttrBy? getAttrBy
 repeat (any_goals (first | assumption | exact q _ | ((with_reducible show wpAny _ _ (call (Value.builtin "tuple.__getattribute__") _ _) _ _ _);refine Cb DC (q _) am_entry_tuple_getattribute (F.args_tuple_getattribute_2 _ _) (meets_getattribute_miss_tuple a xs k Y "keys" _ zT rfl (by decide)) ⟨J,O,fun h' j e M=>?_⟩) | wp_step))
 obtain⟨t',u',ag⟩:=M.there
 delta getattributeRaised
 repeat (any_goals (first | assumption | wp_step))
 exact h h' j M.of.keeps
section
variable {prog:Program}{w:World}{κ:Type}[DecidableEq κ]{knd:KeyKind prog w κ}{A:Around}{E:Value->Shared->Prop}{s:Shared}{d t:Addr}{items:Array Value}{ps acc:List (κ×Value)}{res:Value}
noncomputable def cR{id}(ae:A.handled=none)(af:Y.in1.handled=none)(aq:d≠t)(G:s.heap.get? t=some o)(O:o.cls=.type "tuple")(S:o.data=.seq items n)(ai:o.dict=none)(N:s.heap.DictOf knd d acc)(hz:acc.length+ps.length<=sizeLine)(ar:items[ps.length]?=none)(ak:∀j(h:j < ps.length),∃p D,items[j]?=some (.ref p)/\p≠d/\s.heap.IsTuple p #[D,ps[j].2]/\knd.is ps[j].1 D=true)(F:∀(h:Heap)(I:Nat),(∀b o,b≠d->s.heap.get? b=some o->h.get? b=some o)->h.DictOf knd d (merged acc ps)->R (.ok (.ret res)) { s with heap:=h,toks:=I }):
  wpAny (model prog w) A (Builtin.Dict.updateFrom id d (.ref t) [] res) (fun F s'=>match F with | .done f=>R (.ok f) s' | .again M=>M.quiet=true/\codeAny (model prog w) Y M R s') E s:=by
 have tt:s.heap.IsTuple t items:=⟨o,G,O,n,S⟩;refine AA (B6 tt.typeIs (AA (uF G O S ai ae fun h1 au g=>AA (Bx ?_))));have U:=aZ tt fun o q=>g t o q;refine AA (CZ U ?_);have ah :=Z4 N fun od es ep q _=>AG (g d od q);refine AD ⟨BW wY _,QU (knd:=knd) af (AY ah) aq (AY (AG (g t o G))) ar ps.length 0 _ acc (BP _) ⟨_,AL _ rfl,rfl,rfl⟩ (U.push _) ?_ hz (fun j hj=>?_) fun h I aj ag=>?_⟩
 .exact oP N fun o q=>AC _ (g d o q)
 .refine cT (ak j hj) fun p D Z ab J a4=>?_
  have hp :=oQ J fun op q _=>AG (g p op q);exact⟨p,D,Z,ab,AY hp,aZ J fun o q=>AC _ (g p o q),a4⟩
 .exact F h I (fun b o ao q=>aj b o ao (AY (AG (g b o q))) (AC _ (g b o q))) ag
end
end PySem
namespace L2
open PySem PySem.Spec PyProof.Rows
abbrev vG(H:Hp):List Addr->List (Key×V)->Prop:=Paired fun a p=>H a=some (.tup [kV p.1,p.2])
theorem wM:∀{j:List Addr}{g},Vals (j.map V.ref) g->g=j.map Value.ref
 |[],_,.nil=>rfl
 |_::_,_,.cons h r=>by
  cases h;rw[wM r];rfl
theorem nF(G:HOk P w H h):∀{D}{ps},vG H D ps->∃rs,KV ps rs/\D.length=rs.length /\
  ∀j(q:j < rs.length),∃p F,D[j]?=some p/\h.IsTuple p #[F,rs[j].2]/\(uX P w).is rs[j].1 F=true
 |_,_,.nil=>⟨[],.nil,rfl,fun j q=>absurd q (Bu j)⟩
 |_,_,@Paired.cons _ _ _ a p l1 l2 e r=>by
  refine hZ (nF G r) fun rs J M N=>?_;obtain⟨_,Z,g,U⟩:=(G a _ e)
  cases g with
  |@cons _ I _ its' O g =>
   cases g with
   |@cons _ Y _ ab S g =>
    cases g;refine⟨(p.1,Y)::rs,.cons ⟨rfl,S⟩ J,by rw[AQ,AQ,M],fun j q=>?_⟩
    cases j with
    |zero=>exact⟨a,I,rfl,U.is,zE O⟩
    |succ j=>exact N j (Bp q)
section
variable {X:Cx}
def bS(hc:X.calm=true):CallR X (.type "dict") (fun xs H Q=>∃t D ps,xs=[.ref t]/\H t=some (.tup (List.map V.ref D))/\vG H D ps/\ps.length<=sizeLine/\∀d,H d=none->Q (.ref d) (upd H d (.dK (pY [] ps)))):=by
 intro pins s σ H xs ag Q I r h;obtain⟨t,D,ps,rfl,ht,hp,hz,q⟩:=h;obtain⟨u,rfl,rfl⟩:=r.one;obtain⟨_,af,rv,o,h1,h2,⟨n,Z⟩,h4⟩:=(I.hok t _ ht);have Y:=wM rv;subst Y;refine hZ (nF I.hok hp) fun rs q1 q2 q3=>Di (Q₁:=fun J M=>J=.ref s.heap.objs.size/\M={ s with heap:=s.heap.push { cls:=.type "dict",data:=.dict #[] } }) F.kt_called_dict (F.kt_typeCall_dict_1 _) F.entry_dict_init (kt_code_dict_new _ ⟨rfl,rfl⟩) ?_
 rintro J M ⟨rfl,rfl⟩;have g:(s.heap.push { cls:=.type "dict",data:=.dict #[] }).DictOf (uX X.prog X.w) s.heap.objs.size []:=Heap.DictOf.new s.heap;refine⟨g.typeIs,F.args_dict_init_2 _ _,?_⟩
 apply AA
 refine AA (Ck g.typeIs (AD ?_));have N:=I.ok.hd hc;refine cR (ps:=rs) (by lia) (by simp[N]) (Ar (AG h1)) (AC _ h1) h2 Z h4 g ?_ ?_ (fun j hj=>?_) fun h' tk ae O=>?_
 .grind
 .simp_all
 .refine kZ (q3 j hj) fun p kv S G U=>?_
  have ab :=oQ G fun op z _=>AG z;refine⟨p,kv,?_,AY ab,G.push _,U⟩;rw[Cn,Am,S];rfl
 .refine ⟨rfl,.ref s.heap.objs.size,_,I.laid (t':=tk) (fun b ob e=>ae b ob (AY (AG e)) (AC _ e)) (AH _) ?_,rfl,q _ (I.hok.fresh (AH _))⟩
  refine bI ?_ (Cr (Ar I.big)) (KV.merge q1 .nil) O;have:=wW ps []
  simp at this
  lia
def FQ:V->List V->Hp->VK->Prop:=fun x vs H Q=>∃d t g ps kvs,x=.ref d/\vs=[.ref t]/\H d=some (.dK kvs)/\H t=some (.tup (List.map V.ref g))/\vG H g ps/\kvs.length+ps.length<=sizeLine/\Q .non (upd H d (.dK (pY kvs ps)))
def xj(hc:X.calm=true):MtR X "dict.update" FQ:=by
 intro pins s σ H x xs v ak Q I rx rv h;obtain⟨d,t,pa,ps,kvs,rfl,rfl,G,S,hp,hz,q⟩:=h;cases rx;obtain⟨u,rfl,rfl⟩:=rv.one;obtain⟨_,aj,ah,o,h1,h2,⟨n,h3⟩,h4⟩:=(I.hok t _ S);have ei:=wM ah;refine hZ (nF I.hok hp) fun rs U q2 q3=>?_;have hl:=KV.length U;obtain⟨z,hS,vs,Y,M⟩:=eR I.hok G;have ai:=Y.length;have D:=M.typeIs;have ab:=I.ok.hd hc;refine wpAny_call (codeAny_call_builtin F.slot_dict_update.plain F.entry_dict_update (F.slot_dict_update.check _ _ _ _ _ _ _ _ D (F.args_dict_update_2 _ _) ?_))
 apply AA
 refine AA (Ck D (AD (cR (R:=wants (EP X pins σ Q) X.xe) (ps:=rs) (by lia) (by simp[ab]) (Yx G S (fun z=>nomatch z)) h1 h2 h3 h4 M (by lia) ?_ (fun j hj=>?_) fun h' tk af N=>?_)))
 .simp_all
 .refine kZ (q3 j hj) fun p kv e1 O e3=>⟨p,kv,?_,?_,O,e3⟩
  .simp_all
  .intro z
   subst z;refine hZ O fun op y1 y2 _=>oQ D fun od Z g=>?_;rw[y1] at Z;cases Z;rw[y2] at g;injection g with g;exact absurd g (by decide)
 .have ae:∃J,h'.get? d=some J:=let ⟨J,_,_,hq,_⟩:=N;⟨J,hq⟩
  refine⟨.non,_,I.write (t':=tk) (G▸True.intro) (.inl rfl) (fun b ob ag e=>af b ob ag e) ae (bI ?_ hS (KV.merge U Y) N),rfl,q⟩;have:=wW ps kvs
  lia
end
end L2
namespace L2
open PySem PySem.W PyProof.Rows
def yL(n:Nat)(P:α->Prop):KasT α->Prop
 |.ret a=>P a
 |.ask i j k=>i < n/\j < n/\∀b,yL n P (k b)
noncomputable def yU(g:Nat->Nat->Bool):KasT α->α
 |.ret a=>a
 |.ask i j k=>yU g (k (g i j))
theorem yY{f:α->KasT β}:∀t,yL n P t->(∀a,P a->yL n R (f a))->yL n R (t.bind f)
 |.ret a,h,g=>g a h
 |.ask i j k,h,g=>⟨h.1,h.2.1,fun b=>yY (k b) (h.2.2 b) g⟩
theorem Xl: ∀t,yL n P t->P (yU g t)
 |.ret a,h=>h
 |.ask i j k,h=>Xl (k (g i j)) (h.2.2 _)
theorem Wc{J:Shared->Prop}(F:∀i j C s,i < n->j < n->J s->(∀s',J s'->C (D i j) s')->G i j C s):
  ∀t{Q:α->Shared->Prop}{s},yL n P t->J s->(∀s',J s'->P (yU D t)->Q (yU D t) s')->t.kasWp G Q s
 |.ret a,Q,s,h,g,q=>q s g h
 |.ask i j k,Q,s,h,g,q=>F i j _ s h.1 h.2.1 g fun s' I=>Wc F (k (D i j)) (h.2.2 _) I q
def Ord(n:Nat)(p:Array Nat):Prop:=p.toList.Perm (List.range n)
def Ord.lt(h:Ord n p)(h0:0 < n)i:p.getD i 0 < n:=by
 by_cases hi:i < p.size
 .have e:p.getD i 0=p[i] :=by simp_all
  rw[e];have g:p[i]∈p.toList:=by simp
  exact BQ.mp (h.mem_iff.mp g)
 .lia
def Ord.size(h:Ord n p):p.size=n:=by
 have:=h.length_eq
 rwa [An,BG] at this
def Ord.rev(h:Ord n p)i j:Ord n (kas_rev p i j):=(Array.Perm.toList (mirror_perm p i j _)).trans h
def Ord.bubble(h:Ord n p)i j:Ord n (bubble p i j):=(Array.Perm.toList (bubble_perm p i j)).trans h
section
variable {n:Nat}(h0:0 < n)
include h0
theorem Qm(h:Ord n p):∀f m,yL n (fun _=>True) (kas_asc p f m)
 |0,m=>trivial
 |f+1,m=>⟨h.lt h0 _,h.lt h0 _,fun b=>by
  cases b with
  |true=>exact trivial
  |false=>exact Qm h f (m+1)⟩
theorem gL:∀f p m q,Ord n p->yL n (fun r=>Ord n r.1) (kas_desc f p m q)
 |0,p,m,q,h=>h
 |f+1,p,m,q,h=>⟨h.lt h0 _,h.lt h0 _,fun b=>by
  cases b with
  |true =>
   split
   .exact gL f _ _ _ (h.rev _ _)
   .exact gL f _ _ _ h
  |false =>
   refine⟨h.lt h0 _,h.lt h0 _,fun b=>?_⟩
   cases b with
   |true=>exact h
   |false=>exact gL f _ _ _ h⟩
def gO m r(h:Ord n p):yL n (fun r=>Ord n r.2) (kas_tail3 m r p) :=
 yY _ (Qm h0 (h.rev 0 m) _ _) fun _ _=>h.rev 0 m
def bL m r(h:Ord n p):yL n (fun r=>Ord n r.2) (kas_descPart m r p) :=
 yY _ (gL h0 _ _ _ _ h) fun x g=>by
  split
  .exact gO h0 _ _ (g.rev _ _)
  .exact gO h0 _ _ g
def VQ r(h:Ord n p):yL n (fun r=>Ord n r.2) (kas_count r p) :=
 yY _ (Qm h0 h _ _) fun x _=>by
  split
  .exact h
  .split
   .refine ⟨h.lt h0 _,h.lt h0 _,fun b=>?_⟩
    cases b with
    |true=>exact h
    |false=>exact bL h0 _ _ (h.rev _ _)
   .exact bL h0 _ _ h
theorem fP k(h:Ord n p):∀f l r,yL n (fun _=>True) (kas_place p k f l r)
 |0,l,r=>trivial
 |f+1,l,r=>by
  unfold kas_place
  split
  .exact trivial
  .refine ⟨h.lt h0 _,h.lt h0 _,fun b=>?_⟩
   cases b with
   |true=>exact fP k h f _ _
   |false=>exact fP k h f _ _
theorem KQ:∀f p k,Ord n p->yL n (Ord n) (kas_bin f p k)
 |0,p,k,h=>h
 |f+1,p,k,h=>yY _ (fP h0 k h _ _ _) fun l _=>KQ f _ _ (h.bubble _ _)
def QG:yL n (Ord n) (kas_sort n) :=
 yY _ (VQ h0 n (List.Perm.refl _)) fun r g=>by
  split
  .exact KQ h0 _ _ _ g
  .exact g
end
def gW(g:Nat->Nat->Bool)(vs:List Value):List Value:=(yU g (kas_sort vs.length)).toList.map fun i=>vs.getD i Value.none
def sF(g:Nat->Nat->Bool)(ys:List V):List V:=(yU g (kas_sort ys.length)).toList.map fun i=>ys.getD i .non
def WC g:(yU g (kas_sort 0)).toList=[]:=rfl
def fH(h:vs.length < 2):gW g vs=vs:=by
 cases vs with
 |nil=>rfl
 |cons v vs =>
  cases vs with
  |nil=>rfl
  |cons u vs=>exact absurd h (Nat.not_lt.2 (CU 2 vs.length))
def cY g n(h:0 < n):Ord n (yU g (kas_sort n)):=Xl _ (QG h)
def lA g vs:(gW g vs).length=vs.length:=by
 by_cases h:vs.length < 2
 .rw [fH h]
 .delta gW
  rw[AB,BG,(cY g vs.length (by omega)).size]
noncomputable def yK(h:Heap)(a:Addr)(vs:List Value):Heap:=((h.update a (Obj.mapSeq fun _=>(#[]:Array Value))).push (seqObj "tuple" vs.toArray 0)).push (seqObj "list" #[] 0)
def ZC{g:List Value}(e:h.get? a=some (seqObj "list" g.toArray n)):∃k,(h.update a (Obj.mapSeq fun _=>(#[]:Array Value))).get? a=some (seqObj "list" #[] k)/\(yK h a vs).get? a=some (seqObj "list" #[] k) :=
 ⟨_,get?_update_seq e fun _=>#[],AC _ (AC _ (get?_update_seq e fun _=>#[]))⟩
def Xg(e:h.get? b=some o)(n:b≠a):(yK h a vs).get? b=some o :=
 AC _ (AC _ ((Cv _ _ _ _ n).trans e))
def gF(D:s.heap.get? a=some (seqObj "list" vs.toArray n))(ab:vs.length < 64)(hk:2<=vs.length->∀Q:SortKind->Shared->Prop,Q κ { s with heap:=yK s.heap a vs }->wpAny (model q w) A (keyKind' vs.toArray) Q (fun _ _=>False) { s with heap:=yK s.heap a vs })(hc:∀i j,i < vs.length->j < vs.length->∀Q:Bool->Shared->Prop,Q (g i j) { s with heap:=yK s.heap a vs }->wpAny (model q w) A (keyLt' κ (vs.getD i Value.none) (vs.getD j Value.none)) Q (fun _ _=>False) { s with heap:=yK s.heap a vs })(Y:R (.done (.ret .none)) { s with heap:=sortedHeap s.heap a vs (gW g vs).toArray }):wpAny (model q w) A (Builtin.«list.sort» ⟨[.ref a],[]⟩) R E s:=by
 obtain⟨F,Z,M⟩:=ZC D;have zl:vs.length<=sizeLine:=by rw[By];lia
 have zo:(gW g vs).toArray.size<=sizeLine:=by rwa [Al,lA]
 rw[list_sort_plain];refine AA (listItems_at D rfl (AA (listUpdate_at D rfl (AA (seqEpoch_at Z rfl (AA (Dg (AA (wpAny_newList (Av ?_) (AX _))) zl)))) (by grind) (AX _))))
 have rest:∀st':SortSt,(arrOf st').map (·.2)=(gW g vs).toArray->failedOf st'=none->wpAny (model q w) A (do
   let U <- seqEpoch a
   Builtin.List.listUpdate (.ref a) fun _=>(arrOf st').map (·.2)
   if let some e:=failedOf st' then rule "list.sort.comparison-raised"; throw e
   if (U != F)=true then rule "list.sort.modified"; raiseError "ValueError" "list modified during sort"
   ret .none) R E { s with heap:=yK s.heap a vs }:=fun st' q1 q2=>by
  rw[q1,q2];refine AA (seqEpoch_at M rfl (AA (listUpdate_at M rfl ?_ (AX _) (A7 zo))));rw[show(F != F)=false by simp];exact AD Y
 have N:vs.toArray.size=vs.length:=Al
 by_cases h2:vs.length < 2
 .rw [N,Ah h2,Ah h2]
  refine AA (AD (AA (AD (rest _ ?_ rfl))));rw[fH h2]
  apply Array.toList_inj.mp
  simp
  exact List.map_snd_zip (AH _)
 .rw [N,Af h2,Af h2]
  refine AA (BM (hk (by lia) (fun c s'=>c=κ/\s'={ s with heap:=yK s.heap a vs }) ⟨rfl,rfl⟩) (fun c af hs=>?_) fun _ _ x=>x.elim);obtain⟨rfl,rfl⟩:=hs
  refine AA (BM (kat_run (Q:=fun st' s'=>s'={ s with heap:=yK s.heap a vs }/\(arrOf st').map (·.2)=(gW g vs).toArray/\failedOf st'=none)
   (G:=fun p s'=>s'={ s with heap:=yK s.heap a vs }/\p=yU g (kas_sort vs.length)) rfl (by lia) ab (fun p' st' s' ae O S I=>⟨I.1,?_,S⟩)
   (Wc (J:=fun s'=>s'={ s with heap:=yK s.heap a vs }) (fun i j C s' hi hj e hC=>?_) _ (QG (by lia)) rfl fun s' e _=>⟨e,rfl⟩)) ?_ fun _ _ e=>e)
  .rw [kat_snds rfl O,I.2]
   rfl
  .subst e
   exact hc i j hi hj _ (hC _ rfl)
  .rintro ⟨⟨⟩,st'⟩ s' ⟨rfl,q3,q4⟩
   exact rest st' q3 q4
noncomputable def fN(h:Heap)(vs:List Value):Heap:=((h.push (seqObj "list" #[] 0)).update h.objs.size (Obj.mapSeq (· ++ vs.toArray))).push (seqObj "list" vs.toArray 0)
def Xs(h:Heap)(vs:List Value):((h.push (seqObj "list" #[] 0)).update h.objs.size (Obj.mapSeq (· ++ vs.toArray))).objs.size=h.objs.size+1 :=by simp_all
def ZY h vs:(fN h vs).get? (h.objs.size+1)=some (seqObj "list" vs.toArray 0):=by
 have q:=AL ((h.push (seqObj "list" #[] 0)).update h.objs.size (Obj.mapSeq (· ++ vs.toArray))) (o:=seqObj "list" vs.toArray 0) rfl
 rwa [Xs] at q
def Y0(e:h.get? b=some o):(fN h vs).get? b=some o :=
 AC _ ((Cv _ _ _ _ (AY (AG e))).trans (AC _ e))
section
variable {X:Cx}
def Fj(X:Cx)(H:Hp)(ys:List V)(q:Nat->Nat->Bool):Prop:=∀(pins:List (Addr×Obj))(σ:St)(s:Shared)(g:List Value)(A:Around),A.units<=X.A.units+2->Inv X pins σ H s->Vals ys g ->
 ∃κ:SortKind,(2<=ys.length->∀Q:SortKind->Shared->Prop,Q κ s->wpAny (model X.prog X.w) A (keyKind' g.toArray) Q (fun _ _=>False) s) /\
  ∀i j,i < ys.length->j < ys.length->∀Q:Bool->Shared->Prop,Q (q i j) s->wpAny (model X.prog X.w) A (keyLt' κ (g.getD i Value.none) (g.getD j Value.none)) Q (fun _ _=>False) s
def mG(r:Vals ys j)i:RelV (ys.getD i .non) (j.getD i Value.none):=by
 induction r generalizing i with
 |nil=>exact rfl
 |cons a b g =>
  cases i with
  |zero=>exact a
  |succ i=>exact g i
theorem qC(r:Vals ys g):∀l:List Nat,Vals (l.map fun i=>ys.getD i .non) (l.map fun i=>g.getD i Value.none)
 |[]=>.nil
 |i::l=>.cons (mG r i) (qC r l)
def pH g ys:(sF g ys).length=ys.length:=by
 delta sF
 rw[AB,BG]
 by_cases h:0 < ys.length
 .exact (cY g ys.length h).size
 .have e:ys.length=0:=by lia
  rw[e]
  rfl
def XU:CallR X (.builtin "sorted") (fun xs H Q=>∃l ys g,xs=[.ref l]/\SqL X.K H l ys/\ys.length < 64/\Fj X H ys g/\∀p,H p=none->Q (.ref p) (upd H p (.lst (sF g ys)))):=by
 intro pins s σ H xs af Q I r h;obtain⟨l,ys,g,rfl,hl,ae,hs,q⟩:=h;obtain⟨u,rfl,rfl⟩:=r.one;obtain⟨vs,J,pl,_⟩:=(I.list hl);have ab:=J.length;have U:vs.length < 64:=by lia
 have O:vs.length<=sizeLine:=by rw[By];lia
 have N:∀{b:Addr}{o:Obj},s.heap.get? b=some o->b≠s.heap.objs.size+1:=fun e=>AY (Nat.lt_succ_of_lt (AG e));have M:∀b o,s.heap.get? b=some o->(yK (fN s.heap vs) (s.heap.objs.size+1) vs).get? b=some o:=fun b o e=>Xg (Y0 e) (N e);obtain⟨κ,Z,Y⟩:=(hs pins σ _ vs X.A.in1.in1 (AH _) (I.kept (t':=s.toks) M) J);obtain⟨k0,_,S⟩:=ZC (ZY s.heap vs);have F:∃c,(sortedHeap (fN s.heap vs) (s.heap.objs.size+1) vs (gW g vs).toArray).get? (s.heap.objs.size+1)=some (seqObj "list" (gW g vs).toArray c):=⟨_,get?_update_seq S fun _=>(gW g vs).toArray⟩
 obtain⟨c,F⟩:=F;refine DD kind_sorted plain_sorted entry_sorted (args_sorted1 _) (?_:wpAny _ _ (Builtin.«sorted» _) _ _ _);refine AA (AD (AA (collect_list pl.isList (AA (wpAny_newList ?_ O)) O)));rw[Xs];refine AA (Av (A4 slot_list_sort ⟨_,ZY s.heap vs,rfl⟩ entry_list_sort ?inner (args_list_sort _)));refine gF (ZY s.heap vs) U (fun h2 D G=>Z (by lia) D G) (fun i j hi hj D G=>Y i j (by lia) (by lia) D G) ⟨_,rfl,AD ⟨_,rfl,?_⟩⟩
 refine⟨.ref (s.heap.objs.size+1),_,I.laid (t':=s.toks) (fun b o e=>(Cv _ _ _ _ (N e)).trans (M b o e)) (BU _) ?_,rfl,q _ (I.hok.fresh (BU _))⟩;refine⟨by rw[pH,By];lia,gW g vs,c,?_,F⟩
 delta sF gW
 exact ab▸qC J _
end
end L2
namespace HT
open PySem PyProof.Rows
inductive jb:List Value->List Str->Prop
 |nil:jb [] []
 |cons (z:Str) (t:Tok) {vs:List Value} {zs:List Str}:jb vs zs->jb (.str z t::vs) (z::zs)
def jb.length(h:jb vs zs):vs.length=zs.length:=by
 induction h with
 |nil=>rfl
 |cons z t h g=>rw[AQ,AQ,g]
noncomputable def nq:List Str->List Str->Bool
 |[],[]=>false
 |[],_::_=>true
 |_::_,[]=>false
 |x::xs,y::ys=>if x=y then nq xs ys else decide (x.cps.toList < y.cps.toList)
def Vx x y xs ys:nq (x::xs) (y::ys)=if x=y then nq xs ys else decide (x.cps.toList < y.cps.toList):=rfl
section
open PySem.SeqAt
open PySem.AutoSeq1 (wpAny_loadPart')
open PySem.MeetsSeq PySem.MeetsSeq2 PySem.MeetsSeq3
def jT l b items D n n2 dd ae sl ao ns U(hi:jb items.toList ns)(hj:jb D.toList U):
  Meets (Builtin.«tuple.__lt__» ⟨[.ref l,.ref b],[]⟩)
   (fun _ R s=>s.heap.get? l=some { cls:=.type "tuple",dict:=dd,data:=.seq items n,slots:=sl }/\s.heap.get? b=some { cls:=.type "tuple",dict:=ae,data:=.seq D n2,slots:=ao } /\
    R (.ok (.ret (.bool (nq ns U)))) s) :=
 .of_wp fun prog w A R s hh=>by
  obtain⟨J,g,d,N,M⟩:=s;obtain⟨hl,hb,h⟩:=hh;have aq:=AutoSeq1.sub_tuple_tuple;have z1:items.size=ns.length:=by rw[<- hi.length];simp
  have z2:D.size=U.length:=by rw[<- hj.length];simp
  wp_walk using wpAny_loadPart' hl,wpAny_loadPart' hb,Cp _ (fun rest b s'=>b.1=none/\s'=⟨J,g,d,N,M⟩/\∃vs Y G F,rest=vs.zip Y /\
   jb vs G/\jb Y F/\G.length+D.size=F.length+items.size/\R (.ok (.ret (.bool (nq G F)))) ⟨J,g,d,N,M⟩) _
  case turn =>
   rintro⟨y,x⟩ rest b s' ⟨Z,rfl,vs,Y,G,F,j,ab,S,I,q⟩
   cases ab with
   |nil=>rw[List.zip_nil_left] at j;cases j
   |cons a t ah =>
    cases S with
    |nil=>rw[List.zip_nil_right] at j;cases j
    |cons c u aj =>
     rw[Cy] at j;injection j with ak af
     injection ak with hy hx
     subst hy hx;rw[Vx] at q
     simp only[List.length_cons] at I
     refine AA ((fun E Q hq=>wpAny_eqBool_str hq) _ _ ?_)
     by_cases O:a=c
     .rw [Ab O]
      rw[Ah O] at q
      wp_walk
      exact⟨rfl,rfl,_,_,_,_,af,ah,aj,by lia,q⟩
     .rw [AN O]
      rw[Af O] at q
      have ag:∀E Q,Q (.bool (decide (a.cps.toList < c.cps.toList))) ⟨J,g,d,N,M⟩->wpAny (model prog w) A.in1 (richCompare .Lt (.str a t) (.str c u)) Q E ⟨J,g,d,N,M⟩ :=
       fun E Q hq=>(PyProof.Rows.lt_str hq:wpAny (model prog w) A.in1 (compareOp .Lt (.str a t) (.str c u)) Q E ⟨J,g,d,N,M⟩)
      wp_walk using ag
      exact⟨_,rfl,(by simpa using q)⟩
  case fin =>
   rintro⟨b1,b2⟩ s' ⟨Z,rfl,vs,Y,G,F,j,ab,S,I,q⟩
   simp only at Z
   subst Z
   have hv:nq G F=decide (items.size < D.size):=by
    cases ab with
    |nil =>
     cases S with
     |nil =>
      simp only[List.length_nil] at I
      exact(AN (by lia)).symm
     |cons c u ai =>
      simp only[List.length_nil,List.length_cons] at I
      exact(Ab (by lia)).symm
    |cons a t hv =>
     cases S with
     |nil =>
      simp only[List.length_nil,List.length_cons] at I
      exact(AN (by lia)).symm
     |cons c u ai =>
      rw[Cy] at j;cases j
   rw[hv] at q
   wp_walk
   exact⟨_,rfl,(by simpa [Builtin.Tuple.tupleCompareSizes] using q)⟩
  case h =>
   exact⟨rfl,rfl,items.toList,D.toList,ns,U,rfl,hi,hj,by lia,h⟩
end
section
def qj(M:IsTup s.heap l items)(I:IsTup s.heap b D)(hi:jb items.toList ns)(J:jb D.toList g)(N:A.units < cLine)(h:Q (.bool (nq ns g)) s):wpAny (model prog w) A (compareOp .Lt (.ref l) (.ref b)) Q E s:=by
 obtain⟨⟨c1,F,d1,sl⟩,j,S,n,U⟩:=M;obtain⟨⟨c2,G,d2,ab⟩,q,Y,O,Z⟩:=I;subst S U Y Z
 exact richCompare_meets_room (op:=.Lt) ⟨_,j,rfl⟩ ⟨_,q,rfl⟩ PySem.F.slot_tuple_lt PySem.F.entry_tuple_lt (PySem.F.args_tuple_lt_2 _ _) (jT l b items D n O F G sl ab ns g hi J)
  ⟨j,q,show Value.bool (nq ns g)≠Value.notImplemented/\Q (.bool (nq ns g)) s from⟨(fun x=>nomatch x),h⟩⟩ N
end
end HT
namespace L2
open PySem PySem.W PyProof.Rows
def JH(r:Vals (zs.map V.str) g):HT.jb g zs:=by
 induction zs generalizing g with
 |nil=>cases r;exact .nil
 |cons z zs j =>
  cases r with
  |cons a b =>
   obtain⟨t,rfl⟩:=a;exact .cons z t (j b)
noncomputable def O1(x y:List Str×Int):Bool:=if x.1=y.1 then decide (x.2 < y.2) else HT.nq x.1 y.1
def aS(H:Hp)(v:V)(c:List Str×Int):Prop:=∃a g,v=.ref a/\H a=some (.tup [.ref g,.int c.2])/\H g=some (.tup (c.1.map V.str))
def ZR(k:List Str):(k.map (Sum.inr:Str->Key)).map kV=k.map V.str:=by
 rw[A8]
 rfl
def Ke{g:List Str}:(k.map (Sum.inr:Str->Key)=g.map Sum.inr)↔k=g:=by
 constructor
 .intro h
  induction k generalizing g with
  |nil=>cases g with
   |nil=>rfl
   |cons _ _=>cases h
  |cons x k j=>cases g with
   |nil=>cases h
   |cons y g =>
    injection h with h1 h2
    rw[j h2,Sum.inr.inj h1]
 .lia
def oC{σ:St}(I:Inv X pins σ H s)(h:aS H v c)(r:RelV v u):
  ∃a g o n t,u=.ref a/\s.heap.get? a=some o/\o.cls=.type "tuple"/\o.data=.seq #[.ref g,.int c.2 t] n/\H g=some (.tup (c.1.map V.str)):=by
 obtain⟨a,g,rfl,h1,h2⟩:=h;cases r;obtain⟨_,J,G,o,j,q,⟨n,D⟩,_⟩:=(I.hok a _ h1);obtain⟨M,N,rfl,rfl,F⟩:=Qv G;obtain⟨t,rfl⟩:=F;exact⟨a,g,o,n,t,rfl,j,q,D,h2⟩
def K2(hu:X.A.units+2 < cLine)(cs:Nat->List Str×Int)(O:∀i,i < ys.length->aS H (ys.getD i .non) (cs i)):Fj X H ys (fun i j=>O1 (cs i) (cs j)):=by
 intro pins σ s D A hA I r;have Z:A.units < cLine:=by lia
 have ae:∀v∈ys,∃c,aS H v c:=fun v N=>by
  obtain⟨i,hi,e⟩:=CN N;have q:=O i hi;have af:ys.getD i .non=v :=by simp_all
  rw[af] at q;exact⟨_,q⟩
 have aj:∀{ys:List V}{D:List Value},Vals ys D->(∀v∈ys,∃c,aS H v c)->∃fs,KatTups s.heap D fs/\fs.length=D.length/\∀f∈fs,Looks (model X.prog X.w) s.heap (typeOf f) (.type "tuple"):=by
  intro ys D r
  induction r with
  |nil=>exact fun _=>⟨[],.nil,rfl,fun f F=>nomatch F⟩
  |@cons y u ys D ry _ ih =>
   intro Y;obtain⟨fs,S,k2,U⟩:=(ih fun v N=>Y v (AI _ N));obtain⟨c,hc⟩:=Y y AE;obtain⟨a,J,o,n,t,rfl,e1,e2,e3,e4⟩:=oC I hc ry;obtain⟨_,aq,_,o2,ag,ah,_,_⟩:=(I.hok J _ e4);refine⟨.ref J::fs,.cons e1 e2 e3 rfl S,by rw[AQ,AQ,k2],fun f F=>?_⟩
   rcases Aj.mp F with rfl | F
   .exact ah▸((Looks.ld ag).andThen .now)
   .exact U f F
 have ao:=r.length;refine⟨tuples' false,fun h2 Q g=>?_,fun i j hi hj Q g=>?_⟩
 .exact hZ (aj r ae) fun fs S k2 U=>kat_kind S (by lia) U rfl g
 .have g:Q (O1 (cs i) (cs j)) s:=g
  refine Rg (oC I (O i hi) (mG r i)) fun a ka oa ar ta ea ab ak a3 a4=>Rg (oC I (O j hj) (mG r j)) fun b J ob au tb eb b1 b2 b3 b4=>?_;rw[ea,eb]
  apply kat_lt ab a3 b1 b3
  have ai:=pB I.hok (by rwa [ZR]);refine kat_cons (wpAny_eqBool_tuple Z (pB I.hok (by rwa [ZR])) ai ?_)
  by_cases G:(cs i).1=(cs j).1
  .rw [Ab (Ke.mpr G)]
   refine kat_yes (kat_cons (wpAny_eqBool_int ?_));have hl:O1 (cs i) (cs j)=decide ((cs i).2 < (cs j).2):=Ah G;rw[hl] at g
   by_cases M:(cs i).2=(cs j).2
   .rw [show((cs i).2==(cs j).2)=true by simpa using M]
    refine kat_yes (kat_nil ?_)
    rwa [M,AN (Int.lt_irrefl _)] at g
   .rw [show((cs i).2==(cs j).2)=false by simpa using M]
    exact kat_no (kat_one _ _ (PyProof.Rows.lt_int g))
  .rw [AN (fun e=>G (Ke.mp e))]
   rw[(show O1 (cs i) (cs j)=HT.nq (cs i).1 (cs j).1 from Af G)] at g;obtain⟨_,ia,ra,pa⟩:=(I.hok ka _ a4);obtain⟨_,ib,rb,pb⟩:=(I.hok J _ b4);exact kat_no (kat_one _ _ (HT.qj pa.is pb.is (JH ra) (JH rb) Z g))
noncomputable def YE(x y:Str×Int):Bool:=if x.1=y.1 then decide (x.2 < y.2) else decide (x.1.cps.toList < y.1.cps.toList)
def G6(H:Hp)(v:V)(c:Str×Int):Prop:=∃a,v=.ref a/\H a=some (.tup [.str c.1,.int c.2])
def Zf{σ:St}(I:Inv X pins σ H s)(h:G6 H v c)(r:RelV v u):
  ∃a o n t t',u=.ref a/\s.heap.get? a=some o/\o.cls=.type "tuple"/\o.data=.seq #[.str c.1 t',.int c.2 t] n:=by
 obtain⟨a,rfl,h1⟩:=h;cases r;obtain⟨_,J,G,o,g,j,⟨n,q⟩,_⟩:=(I.hok a _ h1);obtain⟨M,N,rfl,D,F⟩:=Qv G;obtain⟨t',rfl⟩:=D;obtain⟨t,rfl⟩:=F;exact⟨a,o,n,t,t',rfl,g,j,q⟩
def Ww(cs:Nat->Str×Int)(N:∀i,i < ys.length->G6 H (ys.getD i .non) (cs i)):Fj X H ys (fun i j=>YE (cs i) (cs j)):=by
 intro pins σ s D A hA I r
 have ab:∀v∈ys,∃c,G6 H v c:=fun v M=>by
  obtain⟨i,hi,e⟩:=CN M;have q:=N i hi;have ae:ys.getD i .non=v :=by simp_all
  rw[ae] at q;exact⟨_,q⟩
 have af:∀{ys:List V}{D:List Value},Vals ys D->(∀v∈ys,∃c,G6 H v c)->∃fs,KatTups s.heap D fs/\fs.length=D.length/\∀f∈fs,Looks (model X.prog X.w) s.heap (typeOf f) (.type "str"):=by
  intro ys D r
  induction r with
  |nil=>exact fun _=>⟨[],.nil,rfl,fun f F=>nomatch F⟩
  |@cons y u ys D ry _ ih =>
   intro U;obtain⟨fs,O,Y,S⟩:=(ih fun v M=>U v (AI _ M));obtain⟨c,hc⟩:=U y AE;obtain⟨a,o,n,t,t',rfl,e1,e2,e3⟩:=Zf I hc ry;refine⟨.str c.1 t'::fs,.cons e1 e2 e3 rfl O,by rw[AQ,AQ,Y],fun f F=>?_⟩
   rcases Aj.mp F with rfl | F
   .exact .now
   .exact S f F
 have ah:=r.length;refine⟨tuples' true,fun h2 Q g=>?_,fun i j hi hj Q g=>?_⟩
 .exact hZ (af r ab) fun fs O Y S=>kat_kind O (by lia) S rfl g
 .have g:Q (YE (cs i) (cs j)) s:=g
  refine Rh (Zf I (N i hi) (mG r i)) fun a oa ai ta ak ea Z ag a3=>Rh (Zf I (N j hj) (mG r j)) fun b ob aj tb ao eb b1 b2 b3=>?_;rw[ea,eb];refine kat_lt Z a3 b1 b3 (kat_cons (wpAny_eqBool_str ?_))
  by_cases G:(cs i).1=(cs j).1
  .rw [Ab G]
   refine kat_yes (kat_cons (wpAny_eqBool_int ?_));have hl:YE (cs i) (cs j)=decide ((cs i).2 < (cs j).2):=Ah G;rw[hl] at g
   by_cases J:(cs i).2=(cs j).2
   .rw [show((cs i).2==(cs j).2)=true by simpa using J]
    refine kat_yes (kat_nil ?_)
    rwa [J,AN (Int.lt_irrefl _)] at g
   .rw [show((cs i).2==(cs j).2)=false by simpa using J]
    exact kat_no (kat_one _ _ (PyProof.Rows.lt_int g))
  .rw [AN G]
   rw[(show YE (cs i) (cs j)=decide ((cs i).1.cps.toList < (cs j).1.cps.toList) from Af G)] at g;exact kat_no (kas_lt_str g)
noncomputable def jm(H:Hp)(f:Addr->Option (List V)):Hp:=fun b=>match f b with
 |some xs=>some (.tup xs)
 |none=>H b
def lG(e:f b=some xs):jm H f b=some (.tup xs):=by delta jm;rw[e]
def uK(e:f b=none):jm H f b=H b:=by delta jm;rw[e]
def gK(g:∀b xs,f b=some xs->H b=none)(e:H b=some o):jm H f b=some o:=by
 cases z:f b with
 |none=>rwa [uK z]
 |some xs=>rw[g b xs z] at e;cases e
section
variable {X:Cx}{pins:List (Addr×Obj)}{σ:St}{H:Hp}{s:Shared}{h':Heap}
def Inv.tups{f:Addr->Option (List V)}(I:Inv X pins σ H s)(k:∀b u,s.heap.get? b=some u->h'.get? b=some u)(D:∀b xs,f b=some xs->s.heap.objs.size<=b/\xs.length<=sizeLine/\∃j:List Value,Vals xs j/\ji h' b j.toArray):Inv X pins σ (jm H f) { s with heap:=h',toks:=t' }:=by
 have g:∀b xs,f b=some xs->H b=none:=fun b xs e=>I.hok.fresh (D b xs e).1
 have J:∀{b:Addr}{o:Obj},s.heap.get? b=some o->f b=none:=fun {b o}e=>by
  cases z:f b with
  |none=>rfl
  |some xs=>exact absurd (AG e) (Nat.not_lt.mpr (D b xs z).1)
 refine I.un ⟨fun b o q _ _ _=>k b o q,fun b o q _ _ _=>⟨o.slots,k b o q⟩,fun b o q n _=>by rw[uK (J q)];exact n,fun b o q _=>⟨o,k b o q⟩,fun b xs q=>gK g q,fun b o u q=>gK g q,fun b ps q=>⟨#[],by rw[gK g q];simp⟩⟩ fun b u e=>?_
 cases z:f b with
 |some xs =>
  rw[lG z] at e;cases e;obtain⟨_,h2,j,F,G⟩:=D b xs z;exact⟨h2,j,F,G⟩
 |none =>
  rw[uK z] at e;exact(I.hok b u e).stay (fun c v _ q=>k c v q) (fun c q=>gK g q) fun c xs q=>gK g q
end
section
variable {X:Cx}
def bH{σ:St}(Y:A.in1.units<=X.A.units+2)(I:Inv X pins σ H s)(J:Vals ys vs)(ae:ys.length < 64)(hs:Fj X H ys g)(S:∀p s',H p=none->Inv X pins σ (upd H p (.lst (sF g ys))) s'->Z (.done (.ret (.ref p))) s'):
  wpAny (model X.prog X.w) A (newList vs >>= fun l=>holding [l] (call (.builtin "list.sort") [l] []) >>= fun _=>ret l) Z E s:=by
 have ab:=J.length;have U:vs.length < 64:=by lia
 have zl:vs.length<=sizeLine:=by rw[By];lia
 refine AA (wpAny_newList ?_ zl);have F:(s.heap.push (seqObj "list" vs.toArray 0)).get? s.heap.objs.size=some (seqObj "list" vs.toArray 0):=AL _ rfl;have N:∀{b:Addr}{o:Obj},s.heap.get? b=some o->b≠s.heap.objs.size:=fun e=>AY (AG e);have M:∀b o,s.heap.get? b=some o->(yK (s.heap.push (seqObj "list" vs.toArray 0)) s.heap.objs.size vs).get? b=some o:=fun b o e=>Xg (AC _ e) (N e)
 obtain⟨κ,hk,hc⟩:=(hs pins σ _ vs A.in1 Y (I.kept (t':=s.toks) M) J);obtain⟨k0,_,O⟩:=ZC F;have D:∃c,(sortedHeap (s.heap.push (seqObj "list" vs.toArray 0)) s.heap.objs.size vs (gW g vs).toArray).get? s.heap.objs.size=some (seqObj "list" (gW g vs).toArray c):=⟨_,get?_update_seq O fun _=>(gW g vs).toArray⟩;obtain⟨c,D⟩:=D;refine AA (Av (A4 slot_list_sort ⟨_,F,rfl⟩ entry_list_sort ?inner (args_list_sort _)))
 refine gF F U (fun h2 q G=>hk (by lia) q G) (fun i j hi hj q G=>hc i j (by lia) (by lia) q G) ⟨_,rfl,AD ?_⟩;refine S _ _ (I.hok.fresh (AH _)) (I.laid (t':=s.toks) (fun b o e=>(Cv _ _ _ _ (N e)).trans (M b o e)) (AH _) ⟨by rw[pH,By];lia,gW g vs,c,?_,D⟩)
 delta sF gW
 exact ab▸qC J _
abbrev iY(v d:Addr):Heap->Prop:=fun h=>h.IsItemsView v d
def Ik:V->List V->Hp->VK->Prop:=fun x vs H Q=>∃d kvs,x=.ref d/\vs=[]/\H d=some (.dK kvs)/\∀v,H v=none->Q (.ref v) (upd H v (.ext (iY v d)))
def YB:MtR X "dict.items" Ik:=by
 intro pins s σ H x xs v S Q I N M h;obtain⟨d,kvs,rfl,rfl,J,q⟩:=h;cases N;cases M;obtain⟨z,G,vs,O,g⟩:=eR I.hok J;refine DQ DF g.typeIs F.entry_dict_items (F.args_dict_items_1 _) (meets_dict_items (uX X.prog X.w) d G) ⟨⟨vs,g⟩,⟨.ref s.heap.objs.size,_,I.laid (t':=s.toks) (fun b o e=>AC _ e) (AH _) ?_,rfl,q _ (I.hok.fresh (AH _))⟩⟩
 refine⟨⟨_,AL _ rfl,rfl,rfl⟩,⟨_,AL _ rfl⟩,?_⟩;rintro h1 h2 ⟨o,j,D⟩ e;exact⟨o,e o j,D⟩
def Hl(as:List Addr)(kvs:List (Key×V)):Addr->Option (List V):=fun b=>((as.zip kvs).find? fun p=>p.1==b).map fun p=>[kV p.2.1,p.2.2]
def Gh{as:List Addr}(F:as.Nodup){j:Nat}{p:Key×V}(g:as[j]?=some a)(D:kvs[j]?=some p):(as.zip kvs).find? (fun q=>q.1==a)=some (a,p):=by
 induction as generalizing kvs j with
 |nil=>cases g
 |cons x as G =>
  cases kvs with
  |nil=>cases D
  |cons y kvs =>
   rw[BD] at F;rw[Cy,A3]
   cases j with
   |zero=>cases g;cases D;simp
   |succ j =>
    exact(show(x==a)=false from Cr fun e=>F.1 (e▸Ac g))▸G F.2 g D
def gU{as:List Addr}{q:Addr×(Key×V)}(h:(as.zip kvs).find? (fun q=>q.1==b)=some q):q.1=b/\∃j:Nat,as[j]?=some b/\kvs[j]?=some q.2:=by
 have h1:=List.find?_some h;have h1:=eq_of_beq h1;obtain⟨j,g⟩:=Bw.mp (Bc h);rw[List.getElem?_zip_eq_some] at g;exact⟨h1,j,by exact h1▸g.1,g.2⟩
theorem lO: ∀{as}{kvs},as.length=kvs.length->(∀(j:Nat)a p,as[j]?=some a->kvs[j]?=some p->H a=some (.tup [kV p.1,p.2]))->vG H as kvs
 |[],[],_,_=>.nil
 |[],_::_,h,_=>nomatch h
 |_::_,[],h,_=>nomatch h
 |a::as,p::kvs,h,k=>.cons (k 0 a p rfl rfl) (lO (Ax h) fun j g q h1 h2=>k (j+1) g q h1 h2)
def QK(h:(uX P w).is k u=true):RelV (kV k) u:=by
 rcases pJ h with ⟨i,t,rfl,rfl⟩ | ⟨x,t,rfl,rfl⟩ | ⟨rfl,rfl⟩
 .exact ⟨t,rfl⟩
 .exact ⟨t,rfl⟩
 .exact rfl
def YM(r:KV kvs vs):∀{j:Nat}{p}{q:Key×Value},kvs[j]?=some p->vs[j]?=some q->p.1=q.1/\RelV p.2 q.2:=by
 induction r with
 |nil=>intro j p q h;cases h
 |cons h _ g =>
  intro j p q h1 h2
  cases j with
  |zero=>cases h1;cases h2;exact h
  |succ j=>exact g h1 h2
def Qa(hc:X.calm=true):CallR X (.builtin "sorted") (fun xs H Q=>∃v d kvs J,xs=[.ref v]/\H v=some (.ext (iY v d))/\H d=some (.dK kvs)/\kvs.length < 64 /\
  ∀as H1,Same H H1->vG H1 as kvs->(∀a∈as,H a=none)->(∀a,H a=none->H1 a≠none->a∈as)->Fj X H1 (List.map V.ref as) J/\∀p,H1 p=none->Q (.ref p) (upd H1 p (.lst (sF J (List.map V.ref as))))):=by
 intro pins s σ H xs ar Q I r h;obtain⟨v,d,kvs,J,rfl,hv,ai,aq,Y⟩:=h;obtain⟨u,rfl,rfl⟩:=r.one;obtain⟨z,hS,vs,ae,dd⟩:=eR I.hok ai;obtain⟨aj,_,_⟩:=(I.hok v _ hv);obtain⟨ep,da⟩:=dd.dictAt;have O:=ae.length;refine DD kind_sorted plain_sorted entry_sorted (args_sorted1 _) (?_:wpAny _ _ (Builtin.«sorted» _) _ _ _);refine AA (AD (AA (kdx_collect (by simp[I.ok.hd hc]) aj da (by rwa [<- O]) fun h' tk as ak S G=>?_)))
 have ab:=G.rise.imp fun h=>AY h;have U:=S.trans O.symm;have D:∀a∈as,s.heap.objs.size<=a:=fun a F=>BY (G.above a F)
 have M:Inv X pins σ (jm H (Hl as kvs)) { s with heap:=h',toks:=tk }:=I.tups ak fun b xs e=>by
  delta Hl at e
  cases z:(as.zip kvs).find? fun p=>p.1==b with
  |none=>rw[z] at e;cases e
  |some q =>
   rw[z] at e;cases e;obtain⟨e1,j,g,e3⟩:=gU z;refine pT (G.pairs j b g) fun ao k x af ag ah=>?_;obtain⟨r1,r2⟩:=YM ae e3 af;refine⟨D b (Ac g),ie 2 rfl,[ao,x],.cons (r1▸QK ag) (.cons r2 .nil),⟨_,ah,rfl,⟨_,rfl⟩,rfl⟩⟩
 have N:∀b xs,Hl as kvs b=some xs->H b=none:=fun b xs e=>by
  delta Hl at e
  cases z:(as.zip kvs).find? fun p=>p.1==b with
  |none=>rw[z] at e;cases e
  |some q =>
   obtain⟨_,j,g,_⟩:=gU z;exact I.hok.fresh (D b (Ac g))
 obtain⟨hs,q⟩:=Y as (jm H (Hl as kvs)) (fun b o e=>gK N e) (lO U fun j a p h1 h2=>lG (by delta Hl;rw[Gh ab h1 h2];rfl)) (fun a F=>I.hok.fresh (D a F)) fun a n1 Z=>by
  cases z:Hl as kvs a with
  |none=>rw[uK z] at Z;exact absurd n1 Z
  |some xs =>
   delta Hl at z
   cases y:(as.zip kvs).find? fun p=>p.1==a with
   |none=>rw[y] at z;cases z
   |some q =>
    obtain⟨_,j,g,_⟩:=gU y;exact Ac g
 have rv:Vals (as.map V.ref) (as.map Value.ref):=by
  clear ab U D M N hs q S G Y
  induction as with
  |nil=>exact .nil
  |cons a as ih=>exact .cons rfl ih
 exact bH (AH _) M rv (by grind) hs fun p s' hp I'=>⟨_,rfl,.ref p,_,I',rfl,q p hp⟩
end
end L2
namespace L2
open PySem PySem.Spec PyProof.Rows
section
variable {X:Cx}{pins:List (Addr×Obj)}{σ:St}{H:Hp}{s:Shared}{d:Addr}{o:Obj}{kvs:List (Key×V)}
def Inv.freeze(I:Inv X pins σ H s)(j:H d=some (.dK kvs))(F:s.heap.get? d=some o):Inv X pins σ (upd H d (.frz o (.dK kvs))) { s with toks:=t' }:=by
 have g:∀{b:Addr}{u:HO},H b=some u->u≠.dK kvs->b≠d:=fun e n z=>by subst z;rw[j] at e;cases e;exact n rfl
 refine I.un (h':=s.heap) ⟨fun b u q _ _ _=>q,fun b u q _ _ _=>⟨u.slots,q⟩,fun b u q n _=>by rw[fQ (fun z=>by subst z;rw[j] at n;cases n)];exact n,fun b u q _=>⟨u,q⟩,
  fun b xs q=>by rw[fQ (g q nofun)];exact q,fun b u v q=>by rw[fQ (g q nofun)];exact q,fun b ps q=>⟨#[],by rw[fQ (g q nofun),q];simp⟩⟩ fun b u e=>?_
 have st:∀{b:Addr}{u:HO},H b=some u->ObjOk X.prog X.w (upd H d (.frz o (.dK kvs))) s.heap b u:=fun {b u}e=>(I.hok b u e).stay (fun c v _ q=>q) (fun c q=>by rwa [fQ (g q nofun)]) fun c xs q=>by rwa [fQ (g q nofun)]
 by_cases D:b=d
 .subst D
  rw[mQ] at e;cases e;exact⟨F,st j⟩
 .rw [fQ D] at e
  exact st e
def NF(X:Cx)(d:Addr):Prop:=∀g u,X.H₀ d≠some (.frz g u)
def Inv.nf(I:Inv X pins σ H s)(g:H d=some (.dK kvs)):NF X d:=fun j u e=>by
 have:=I.base.frzs d j u e;rw[g] at this;cases this
def Inv.S8(I:Inv X pins σ H s)(F:H d=some (.frz o (.dK kvs)))(Z:NF X d):Inv X pins σ (upd H d (.dK kvs)) s:=by
 have j:∀{b:Addr}{u:HO},H b=some u->u≠.frz o (.dK kvs)->b≠d:=fun e n z=>by subst z;rw[F] at e;cases e;exact n rfl
 have D:∀{b:Addr},H b=none->b≠d:=fun e z=>by subst z;rw[F] at e;cases e
 obtain⟨m,S,O⟩:=I.loc;have B:=I.base;have st:∀{b:Addr}{u:HO},H b=some u->ObjOk X.prog X.w (upd H d (.dK kvs)) s.heap b u:=fun {b u}e=>(I.hok b u e).stay (fun c v _ q=>q) (fun c q=>by rwa [fQ (j q nofun)]) fun c xs q=>by rwa [fQ (j q nofun)]
 refine⟨I.ok,I.os,I.bare,⟨B.keep,B.slot,fun b u q n x=>by rw[fQ (D (B.free b u q n x))];exact B.free b u q n x,B.there,fun b xs q=>?_,fun b J u q=>?_,fun b ps q=>?_⟩,⟨m,S,O⟩,I.cell,by rw[fQ (D I.free)];exact I.free,fun x c e=>by rw[fQ (D (I.freeC x c e))];exact I.freeC x c e,fun p U=>?_,fun b u e=>?_,I.len⟩
 .have:=B.tups b xs q
  rwa [fQ (j this nofun)]
 .have:=B.frzs b J u q
  have g:b≠d:=fun z=>by subst z;exact Z J u q
  rwa [fQ g]
 .obtain ⟨Y,e⟩:=B.tbls b ps q
  exact⟨Y,by rwa [fQ (j e nofun)]⟩
 .exact XB (I.pin p U) fun M G N=>⟨M,by exact(fQ (D G))▸G,N⟩
 .by_cases g:b=d
  .subst g
   rw[mQ] at e;cases e;exact(st F).2
  .rw [fQ g] at e
   exact st e
def yc(h:JE X e t):JE X e (fun σ H Q=>t σ H fun v H'=>∃d o kvs,H' d=some (.frz o (.dK kvs))/\NF X d/\Q v (upd H' d (.dK kvs))) :=
 ⟨fun pins s σ H Q I q=>thn (h.h pins s σ H _ I q) fun u J ⟨v,H1,g,G,d,o,kvs,j,D,F⟩=>⟨v,_,g.S8 j D,G,F⟩⟩
end
noncomputable def UJ(o:Obj)(d:Addr)(kvs:List (Key×V)):It :=
 ⟨fun i H=>i < kvs.length/\H d=some (.frz o (.dK kvs)),fun i H x H'=>H'=H/\∃p,kvs[i]?=some p/\x=kV p.1,fun i H=>kvs.length<=i/\H d=some (.frz o (.dK kvs))⟩
def Gg{σ:St}(I:Inv X pins σ H s)(F:H d=some (.frz o (.dK kvs)))(g:o.data=.dict es ep):
  ∃vs,KV kvs vs/\s.heap.DictAt (uX X.prog X.w) d vs ep/\(d==sysModules)=false:=by
 obtain⟨e,_,D,vs,M,o',O,N,j,G,q,J⟩:=(I.hok d _ F);rw[e] at j;cases j;rw[g] at q;cases q;exact⟨vs,M,⟨o,es,e,G,g,J⟩,D⟩
def KY{K}o d it kvs es ep(ho:o.data=.dict es ep):Jn P w K tg (UJ o d kvs) [it] it (fun i h=>h.IsKeyIter it d i kvs.length ep) where
 mem:=by simp
 obj:=fun i h st b g=>by
  have e:b=it :=by grind
  subst e;exact hZ st fun o e c d=>⟨o,e,fun v z=>by rw[d] at z;cases z⟩
 keep:=fun i h h' st k=>let ⟨ob,e,r⟩:=st;⟨ob,k it (by simp) ob e,r⟩
 item:=by
  intro X U ab S hc i pins s σ H E I j st Z;subst U ab S;obtain⟨hi,Y⟩:=Z;obtain⟨vs,D,F,_⟩:=Gg I Y ho;have q:=D.length;refine lT (j it (by simp)) fun G J ae M N O=>?_;have hv:vs[i]?=some (vs[i]'(by lia)):=AK _;have hk:kvs[i]?=some kvs[i]:=AK _;obtain⟨r1,_⟩:=YM D hk hv;rw[q] at st;refine wpAny_pyNext_dict_item st F hv fun af h' ik st' sb=>?_
  have I1:=I.turned (t':=s.toks) (fun b o g e=>(sb.2 b g).trans e) G J M N O;exact hZ (id st') fun ob e c dt=>⟨af,rfl,Xt e c dt rfl ⟨kV kvs[i].1,H,I1,by rw[r1];exact QK ik,⟨rfl,_,hk,rfl⟩,by rw[q];exact st',fun b g=>(j b g).1⟩⟩
 done:=by
  intro X U ab S hc i pins s σ H E I j st Z;subst U ab S;obtain⟨hi,Y⟩:=Z;obtain⟨vs,D,F,_⟩:=Gg I Y ho;have q:=D.length;refine lT (j it (by simp)) fun G J ae M N O=>?_;rw[q] at st;exact wpAny_pyNext_dict_end (I.ok.hd hc) st F (DB.mpr (by lia)) fun h' eb=>⟨rfl,I.turned (t':=s.toks) (fun b o g e=>eb b o g e) G J M N O⟩
 self:=fun _ _ _ _ _ st h=>wpAny_pyIter_keyiter st h
section
variable {X:Cx}{tg:Expr}
def Pu(X:Cx)(td:TE):TI:=fun σ H R=>td σ H fun x H1=>∃d kvs,x=.ref d/\H1 d=some (.dK kvs)/\∀o,NF X d->R (UJ o d kvs) (upd H1 d (.frz o (.dK kvs)))
def xx(S:JE X e td):JI X tg e (Pu X td):=by
 refine⟨fun pins s σ H R I h=>thn (S.h pins s σ H _ I h) fun v g zz=>kZ zz fun x H1 j Y U=> ?_⟩;obtain⟨d,kvs,rfl,F,q⟩:=U;cases Y;obtain⟨z,O,vs,Z,J⟩:=eR j.hok F;obtain⟨ep,G⟩:=J.dictAt;refine cT (id G) fun o es M ab N g4=>?_;have D:=j.freeze (t':=g.toks) F M;refine wpAny_pyIter_dict O G ⟨g.heap.objs.size,[g.heap.objs.size],_,_,_,rfl,D.kept (t':=g.toks) fun b o e=>AC _ e,KY o d _ kvs es ep N,⟨_,AL _ rfl,rfl,by rw[Z.length];rfl⟩,fun b hb=>?_,q o (j.nf F)⟩
 have e:b=g.heap.objs.size :=by grind
 subst e;exact D.fpOk (AH _) (D.hok.fresh (AH _))
end
end L2
namespace PySem.W
open PySem PySem.Calls PyProof.Rows PyProof.V PySem.Spec
def qb(h:Heap)(d:Addr)(es:Array DictEntry)(ep:Nat):Prop:=∃o,h.get? d=some o/\o.ExactDict/\o.data=.dict es ep
theorem qb.at(x:qb h d es ep)(k:∀o,h.get? d=some o->h'.get? d=some o):qb h' d es ep:=let ⟨o,e,r⟩:=x;⟨o,k o e,r⟩
abbrev Nx(h:Heap)(it d:Addr)(i n ep:Nat)(x0 ok ov:Value)(f:Bool):Prop:=h.get? it=some { cls:=.type "dict_itemiterator",dict:=none,data:=.fields #[x0,.bool f,.ref d,.int i 0,.int n 0,.int ep 0,ok,ov],slots:=#[] }
def Fl(h:Heap)(it d S:Addr)(i n ep:Nat):Prop:=∃g q D f,Nx h it d i n ep g q D f/\((g=.none/\f=false)\/∃a j,g=rawInt (a:Nat)/\h.get? a=some j/\a≠it/\a≠S)
theorem Fl.keep(x:Fl h it d S i n ep)(k:∀b o,b≠S->h.get? b=some o->h'.get? b=some o)(j:it≠S):Fl h' it d S i n ep:=by
 refine yx x fun M D F f e r=>⟨M,D,F,f,k _ _ j e,r.imp id ?_⟩;rintro⟨a,q,G,I,J,g⟩;exact⟨a,q,G,k _ _ g I,J,g⟩
section
variable {prog:Program}{w:World}{A:Around}{E:Value->Shared->Prop}{s:Shared}
def QL(hh:A.handled=none)(ax:Fl s.heap it d S i n ep)(hS:S < s.heap.objs.size)(hD:qb s.heap d es ep)(hn:es.size=n)(av:∀e h',es[i]?=some e->Fl h' it d S (i+1) n ep->h'.get? s.heap.objs.size=some { cls:=.type "tuple",data:=.seq #[e.key,e.val] }->h'.objs.size=s.heap.objs.size+1->(∀b o,b≠it->s.heap.get? b=some o->h'.get? b=some o)->Q (some (.ref s.heap.objs.size)) { s with heap:=h' })(au:es[i]?=none->∀h',(∀b o,b≠it->s.heap.get? b=some o->h'.get? b=some o)->Q none { s with heap:=h' }):wpAny (model prog w) A (pyNext (.ref it)) Q E s:=by
 obtain⟨Z,g,ab,tk,af⟩:=s;refine hZ hD fun od d1 d2 d3=>yx ax fun a4 ar ov f Y ay=>?_;subst hn;have N:Shared.TypeIs ⟨Z,g,ab,tk,af⟩ (.ref it) "dict_itemiterator":=⟨_,Y,rfl⟩;have aw:Builtin.Dict_items.ownsTuple "dict_itemiterator" = true:=by decide
 delta pyNext
 refine AA (wpAny_attempt (BX N CP (A4 CP N PySem.F.entry_dict_itemiterator_next (AA (AD ?_)) (PySem.F.args_dict_itemiterator_next_1 _))));refine AA (AA (AA (Co N (AD (AA (wpAny_fieldsOf Y rfl ?_))))))
 (simp only[aw,if_true];show wpAny _ _ (if (Value.ref d==Value.none)=true then _ else _) _ _ _;rw[Af (show ¬ ((Value.ref d==Value.none)=true) from AO)])
 refine AA (AD (AA (wpAny_dictEntries d1 d3 ?_)))
 (rw[Af (by simp)];refine AA (AD (AA (wpAny_dictEpoch d1 d3 ?_)));rw[Af (by simp)];apply AD)
 cases hx:es[i]? with
 |none =>
  (simp only[show ¬ ((i:Int) < 0) from by lia,if_false,Int.toNat_natCast,hx];refine AA (AA (Co N (AD ?_))))
  (show wpAny _ _ (setField (.ref it) 2 .none >>= _) _ _ _;refine AA (wpAny_setField Y rfl (by simp) ?_))
  (apply AA;simp only[newExc,newTuple];refine AA (A2 ?_ (by size_fits)))
  refine AA (wpAny_of_eq (by first | rfl | (simp only[firstArgMember];rfl)) (A2 ?_ (by size_fits)))
  (simp only[raiseNew];refine AA (wpAny_handled ?_);rw[show A.in1.handled=none from hh];refine AA (AD (wpAny_throw ?_)))
  (refine AA (B7 ⟨_,AL _ rfl,rfl⟩ isSubtype_stop ?_))
  exact AD (au hx _ fun b o O e=>(((Bl ..).extBut.push _).push _) b o O e)
 |some e =>
  have aj:=AG Y
  (simp only[show ¬ ((i:Int) < 0) from by lia,if_false,Int.toNat_natCast,hx];refine AA (AA (Co N (AD ?_))))
  (refine AA (DO N ?_);show wpAny _ _ (setField (.ref it) 3 (rawInt ((i:Int)+1)) >>= _) _ _ ⟨Z,g,ab,tk,af⟩)
  refine AA (Ay Y (by simp) fun ak U ae=>?_);have ae:=ae
  have U:Nx ak it d (i+1) es.size ep a4 ar ov f:=by
   have z:((i+1:Nat):Int)=(i:Int)+1:=by lia
   (delta Nx;rw[z];simpa [rawInt] using U)
  have ai:Shared.TypeIs ⟨ak,g,ab,tk,af⟩ (.ref it) "dict_itemiterator":=⟨_,U,rfl⟩;refine AA (Av (AA (DO ai (AA (DO ai ?_)))))
  (delta Builtin.Dict_items.pairFromOwner;refine AA (Dg ?_))
  obtain⟨D,M⟩:∃D,D=ak.push { cls:=.type "tuple",data:=.seq #[e.key,e.val] }:=⟨_,rfl⟩;have I:=ae.1;have J :=M▸AC _ U;have t2 :=M▸I▸AL _ rfl;have z2:D.objs.size=Z.objs.size+1:=by rw[M,Bo,I]
  have k2:∀b o,b≠it->Z.get? b=some o->D.get? b=some o:=fun b o O q=>M▸AC _ (ae.extBut b o O q);have ah:∀j:Heap,Heap.SameBut it D j->Fl j it d S (i+1) es.size ep->Q (some (.ref Z.objs.size)) ⟨j,g,ab,tk,af⟩:=fun j G r=>av e j hx r (G.extBut _ _ (Ar aj) t2) (by rw[G.1,z2]) fun b o O q=>G.extBut b o O (k2 b o O q)
  (rw[<- M])
  clear M U ai
  (apply AA;delta Builtin.Dict_items.ownedTupleIsFree;refine AA (As J rfl rfl ?_))
  rcases ay with ⟨rfl,rfl⟩ | ⟨a,oa,rfl,ha,ao,az⟩
  ·(apply AD;simp only[if_true])
   refine AA (As J rfl rfl (AA (As J rfl rfl (AA (Ay J (by simp) fun j e3 ag=>?_)))));refine AA (Ay e3 (by simp) fun h4 e4 a0=>?_);refine AA (Ay e4 (by simp) fun h5 e5 a3=>?_);refine AA (Ay e5 (by simp) fun h6 e6 s6=>?_);have G:=((Heap.SameBut.trans ag a0).trans a3).trans s6
   have a6 :=I▸G.extBut _ _ (Ar aj) t2;have rs:Fl h6 it d S (i+1) es.size ep:=⟨_,_,_,_,e6,.inr ⟨_,_,rfl,a6,by rw[I];exact Ar aj,by exact I▸Ar hS⟩⟩;have F:=ah h6 G rs;rw[<- I] at F;exact AA (Dh (AD (AD ⟨_,rfl,AD F⟩)))
  .have aq:=k2 a oa ao ha
   have rs:∀j fl,Heap.SameBut it D j->Nx j it d (i+1) es.size ep (rawInt (a:Nat)) ar ov fl->Fl j it d S (i+1) es.size ep:=fun j fl G r=>⟨_,_,_,_,r,.inr ⟨a,oa,rfl,G.extBut a oa ao aq,ao,az⟩⟩
   (show wpAny _ _ (loadIfAlive ((a:Int).toNat) >>= _) _ _ _;rw[Cf])
   (refine AA (kdx_alive aq ?_);simp only[Option.isNone_some,Bool.false_eq_true,if_false];refine AA (As J rfl (x:=.bool f) rfl ?_))
   cases f with
   |true =>
    (rw[Af (show ¬ ((Value.bool true != Value.bool true)=true) from AO)];apply AD;simp only[Bool.false_eq_true,if_false])
    have F:=ah D (Heap.SameBut.refl _ _) (rs D true (Heap.SameBut.refl _ _) J);rw[<- I] at F;exact AD (AD ⟨_,rfl,AD F⟩)
   |false =>
    (rw[Ah (show(Value.bool false != Value.bool true)=true from rfl)];refine AA (Ay J (by simp) fun j e3 ag=>?_))
    have F:=ah j ag (rs j true ag e3);rw[<- I] at F
    (apply AD;simp only[Bool.false_eq_true,if_false])
    exact AD (AD ⟨_,rfl,AD F⟩)
structure lu(es:Array DictEntry)(lo:Addr)(h:Heap)(as:List Addr):Prop where
 rise:as.Pairwise (· < ·)
 above:∀a∈as,lo < a
 pairs:∀(j:Nat)(a:Addr),as[j]?=some a->∃e,es[j]?=some e/\h.get? a=some { cls:=.type "tuple",data:=.seq #[e.key,e.val] }
def lu.there{lo}(g:lu es lo h as)(D:a∈as):a < h.objs.size:=by
 obtain⟨j,F⟩:=Bw.mp D;exact oQ (g.pairs j a F) fun e _ q=>AG q
def lu.snoc{lo}{p:Addr}(g:lu es lo h as)(k:∀b o,lo < b->h.get? b=some o->h'.get? b=some o)(I:h.objs.size=p)(O:lo < p)(N:es[as.length]?=some e)(S:h'.get? p=some { cls:=.type "tuple",data:=.seq #[e.key,e.val] }):lu es lo h' (as++[p]) where
 rise:=Dj.mpr ⟨g.rise,DM _ _,fun a q b G=>by
  cases AF.mp G
  exact I▸g.there q⟩
 above:=fun a q=>by
  rcases Ae.mp q with q | q
  .exact g.above a q
  .grind
 pairs:=fun j a D=>by
  by_cases h1:j < as.length
  .rw [Be h1] at D
   exact oQ (g.pairs j a D) fun F J M=>⟨F,J,k a _ (g.above a (Ac D)) M⟩
  .by_cases h2:j=as.length
   .simp_all
   .grind
def WH{ah:Heap}(hh:A.handled=none)(af:S < I)(ak:d≠S)(aj:d≠I)(hz:es.size<=sizeLine)(hR:∀h' q acc c as,(∀b o,b≠S->b≠I->ah.get? b=some o->h'.get? b=some o)->h'.get? S=some { cls:=.type "list",dict:=none,data:=.seq acc c,slots:=#[] }->as.length=es.size->lu es I h' as->acc.toList=as.map Value.ref->R (.ok (.ret res)) { s with heap:=h',toks:=q }):
  ∀k h q c acc as,as.length+k=es.size->Fl h I d S as.length es.size ep->qb h d es ep->(∀b o,b≠S->b≠I->ah.get? b=some o->h.get? b=some o) ->
   h.get? S=some { cls:=.type "list",dict:=none,data:=.seq acc c,slots:=#[] }->acc.toList=as.map Value.ref->lu es I h as->I < h.objs.size ->
   codeAny (model prog w) A (.builtin "list.extend.loop" ⟨[.ref S,.ref I,res],[]⟩) R { s with heap:=h,toks:=q }:=by
 have Y:=AY af;intro k
 induction k with
 |zero =>
  intro h q c acc as hk N G U F M D J
  (apply BS CJ)
  (refine AA (QL hh N (AG F) G rfl (fun e h' O=>?_) fun _ h' g=>?_))
  .grind
  .exact AD (hR h' q acc c as (fun b o h1 h2 e=>g b o h2 (U b o h1 h2 e)) (g S _ Y F) (by lia) ⟨D.rise,D.above,fun j a hj=>let ⟨e,q1,q2⟩:=D.pairs j a hj;⟨e,q1,g a _ (Ar (D.above a (Ac hj))) q2⟩⟩ M)
 |succ k ih =>
  intro h q c acc as hk N G U F M D J;have hsz:acc.size=as.length:=by rw[<- BG,M,AB]
  (apply BS CJ)
  (refine AA (QL hh N (AG F) G rfl (fun e h' O ao ht au g=>?_) fun O=>?_))
  .have g:=g
   have ae:=g S _ Y F;have Z:∀b o,b≠S->h'.get? b=some o->(h'.update S (Obj.mapSeq (·.push (Value.ref h.objs.size)))).get? b=some o:=fun b o aq e=>(BE _ _ (Ne.symm aq)).trans e;have ab:∀b o,b≠S->b≠I->h.get? b=some o->(h'.update S (Obj.mapSeq (·.push (Value.ref h.objs.size)))).get? b=some o:=fun b o n1 n2 e=>Z b o n1 (g b o n2 e);have ag:=Z _ _ (Ar (AG F)) ht
   have ai:=D.snoc (fun b o lb e=>ab b o (Ar (Nat.lt_trans af lb)) (Ar lb) e) rfl J O ag;have hl:(as++[h.objs.size]).length=as.length+1 :=by grind
   have ar:=ih _ q _ (acc.push (Value.ref h.objs.size)) (as++[h.objs.size]) (by rw[hl];lia) (hl▸ao.keep Z (Ne.symm Y)) (G.at fun o e=>ab d o ak aj e) (fun b o h1 h2 e=>ab b o h1 h2 (U b o h1 h2 e)) (Az _ ae rfl) (by grind) ai (Nat.lt_trans J (AG ag))
   (apply AA)
   exact Bg ae rfl (AD ⟨BW CD _,ar⟩) (by lia) (by grind)
  .grind
end
section
variable {prog:Program}{w:World}{A:Around}{E:Value->Shared->Prop}{s:Shared}{v d:Addr}{es:Array DictEntry}{ep:Nat}
def WI(g:s.heap.IsItemsView v d)(D:qb s.heap d es ep)(F:∀h':Heap,(∀b o,s.heap.get? b=some o->h'.get? b=some o)->h'.objs.size=s.heap.objs.size+1->Nx h' s.heap.objs.size d 0 es.size ep .none .none .none false->Q (.ref s.heap.objs.size) { s with heap:=h' }):
  wpAny (model prog w) A (pyIter (.ref v)) Q E s:=by
 refine hZ (id g) fun O I S J=>hZ D fun N j M q=>?_;have G:Builtin.Dict_items.ownsTuple "dict_itemiterator" = true:=by decide
 refine wpAny_pyIter_slot g.typeIs PySem.F.slot_dict_items_iter (A4 PySem.F.slot_dict_items_iter g.typeIs PySem.F.entry_dict_items_iter ?_ (PySem.F.args_dict_items_iter_1 _))
 (refine AA (AD (AA (AA (As I J rfl (AD (AA ?_)))))))
 (refine AA (wpAny_dictEntries j q (AA (wpAny_dictEpoch j q ?_)));simp only[G,if_true])
 refine A2 (AD ⟨_,rfl,"dict_itemiterator",_,⟨_,AL _ rfl,rfl⟩,CP.lookup,?_⟩) (by simp only[sizeOk,Builtin.Dict_items.ownedTupleFields,List.size_toArray,List.length_append,List.length_cons,List.length_nil,sizeLine_eq];lia)
 exact F _ (fun b o e=>AC _ e) (Bo _ _) (by
  have e:=AL (o:={ cls:=.type "dict_itemiterator",data:=.fields #[.none,.bool false,.ref d,.int 0 0,.int es.size 0,.int ep 0,.none,.none] }) s.heap rfl
  simpa [Nx,rawInt,Builtin.Dict_items.ownedTupleFields] using e)
def Zk(hh:A.handled=none)(M:s.heap.IsItemsView v d)(I:qb s.heap d es ep)(ak:S≠v)(ab:d≠S)(U:s.heap.get? S=some { cls:=.type "list",data:=.seq #[] af })(hz:es.size<=sizeLine)(hR:∀h' D acc c as,(∀b o,b≠S->s.heap.get? b=some o->h'.get? b=some o)->h'.get? S=some { cls:=.type "list",dict:=none,data:=.seq acc c,slots:=#[] }->as.length=es.size->lu es s.heap.objs.size h' as->acc.toList=as.map Value.ref->R (.ok (.ret res)) { s with heap:=h',toks:=D }):
  wpAny (model prog w) A.in1 (Builtin.List.listExtendWith (.ref S) (.ref v) res) (fun ai s'=>match ai with | .done f=>R (.ok f) s' | .again N=>N.quiet=true/\codeAny (model prog w) A N R s') (fun e s'=>R (.error e) s') s:=by
 have Z:=AG U;have aq:=let ⟨_,e,_⟩:=I;AG e
 delta Builtin.List.listExtendWith
 refine AA (B6 M.typeIs ?_);have ag:Builtin.List.listSameRef (.ref S) (.ref v)=false:=by simp[Builtin.List.listSameRef,ak]
 have ah:(Value.type "dict_items" == Value.type "list")=false:=by decide
 have f3:(Value.type "dict_items" == Value.type "tuple")=false:=by decide
 (simp only[ag,ah,f3,Bool.or_false,Bool.false_eq_true,if_false];refine AA (WI M I fun h1 F z1 r1=>?_))
 have ae:∀h G D,(∀b o,b≠S->h1.get? b=some o->h.get? b=some o)->h.get? S=some { cls:=.type "list",data:=.seq #[] G }->codeAny (model prog w) A (.builtin "list.extend.loop" ⟨[.ref S,.ref s.heap.objs.size,res],[]⟩) R { s with heap:=h,toks:=D }:=by
  intro h G D J q;have O:=J _ _ (Ar Z) r1;refine WH hh Z ab (AY aq) hz (fun h' ar acc c as kk aj hl hG ao=>hR h' ar acc c as (fun b o g e=>kk b o g (AY (AG e)) e) aj hl hG ao) es.size h D G #[] [] (BP _) ⟨_,_,_,_,O,.inl ⟨rfl,rfl⟩⟩ (I.at fun o e=>J d o ab (F d o e)) (fun b o g _ e=>J b o g (F b o e)) q rfl ⟨.nil,(fun _ z=>nomatch z),(fun j a z=>by simp at z)⟩ (AG O)
 have q:=F _ _ U;refine AA (Av (kdx_hint (let ⟨o,ho,hc,_⟩:=M;⟨o,F _ _ ho,hc⟩) ?_));refine CQ (fun _=>?_) (fun _=>AD ⟨BW CD _,ae _ af _ (fun b o _ e=>e) q⟩)
 (refine AA (Bx (AA (AA (Bg q rfl ?_)))))
 have Y:=Az (Obj.mapSeq (·.push Value.none)) q rfl;refine Bg Y rfl (AD ⟨BW CD _,ae _ _ _ (fun b o g e=>?_) (Az (Obj.mapSeq (·.pop)) Y rfl)⟩);exact(BE _ _ (Ne.symm g)).trans ((BE _ _ (Ne.symm g)).trans e)
def lu.low{lo}(g:lu es lo h as)(q:D<=lo):lu es D h as:=⟨g.rise,fun a j=>Ak q (g.above a j),g.pairs⟩
def QM(hh:A.handled=none)(O:s.heap.IsItemsView v d)(N:qb s.heap d es ep)(hz:es.size<=sizeLine)(Z:∀(h':Heap)(g:Nat)(as:List Addr),(∀b o,s.heap.get? b=some o->h'.get? b=some o)->as.length=es.size->lu es s.heap.objs.size h' as->R (as.map Value.ref) { s with heap:=h',toks:=g }):wpAny (model prog w) A (collect (.ref v)) R E s:=by
 have ah:=let ⟨_,J,_⟩:=O;AG J
 have ag:=let ⟨_,e,_⟩:=N;AG e
 (refine AA (wpAny_runValue (BS entry_proto_collect' ?_)))
 (refine AA (A2 (AD ⟨BW PySem.F.plain_list_iadd _,BS entry_list_iadd' ?_⟩)))
 have M:∀b o,s.heap.get? b=some o->(s.heap.push { cls:=.type "list",data:=.seq ([]:List Value).toArray }).get? b=some o:=fun b o e=>AC _ e;have ae:(s.heap.push { cls:=.type "list",data:=.seq ([]:List Value).toArray }).get? s.heap.objs.size=some { cls:=.type "list",data:=.seq #[] }:=AL _ rfl
 have ai:=Zk (prog:=prog) (w:=w) (s:={ s with heap:=s.heap.push { cls:=.type "list",data:=.seq ([]:List Value).toArray } })
  (R:=fun q s'=>∃h' g acc c as,q=.ok (.ret (.ref s.heap.objs.size))/\s'={ s with heap:=h',toks:=g }/\(∀b o,s.heap.get? b=some o->h'.get? b=some o)/\h'.get? s.heap.objs.size=some { cls:=.type "list",dict:=none,data:=.seq acc c,slots:=#[] }/\as.length=es.size/\lu es s.heap.objs.size h' as/\acc.toList=as.map Value.ref)
  hh (let ⟨o,J,x⟩:=O;⟨o,M _ _ J,x⟩) (N.at fun o e=>M d o e) (Ar ah) (AY ag) ae hz fun h' g acc c as hk ab hl Y af=>⟨h',g,acc,c,as,rfl,rfl,fun b o e=>hk b o (AY (AG e)) (M b o e),ab,hl,Y.low (by simp_all),af⟩
 refine BM ai (fun U s' x=>?_) fun e s' x=>?_
 .have S:∀h' g acc c as,(∀b o,s.heap.get? b=some o->h'.get? b=some o)->h'.get? s.heap.objs.size=some { cls:=.type "list",dict:=none,data:=.seq acc c,slots:=#[] }->as.length=es.size->lu es s.heap.objs.size h' as->acc.toList=as.map Value.ref->R acc.toList { s with heap:=h',toks:=g }:=fun h' g acc c as j _ F G I=>I▸Z h' g as j F G
  cases U with
  |done f =>
   obtain⟨h',g,acc,c,as,e,rfl,j,D,F,G,I⟩:=x;cases e
   (exact AA (wpAny_load D (AD (S h' g acc c as j D F G I))))
  |again c1 =>
   refine⟨x.1,DP x.2 ?_⟩;rintro q aj ⟨h',g,acc,c,as,rfl,rfl,j,D,F,G,I⟩
   (exact AA (wpAny_load D (AD (S h' g acc c as j D F G I))))
 .lia
end
end PySem.W
namespace L2
open PySem PySem.W PyProof.Rows
section
variable {α:Type}{as:List Addr}{ps:List α}
def HH(D:as.Nodup){j:Nat}(g:as[j]?=some a)(F:ps[j]?=some p):(as.zip ps).find? (fun q=>q.1==a)=some (a,p):=by
 induction as generalizing ps j with
 |nil=>cases g
 |cons x as G =>
  cases ps with
  |nil=>cases F
  |cons y ps =>
   have D:=BD.mp D;rw[Cy,A3]
   cases j with
   |zero=>cases g;cases F;simp
   |succ j =>
    exact(show(x==a)=false from Cr fun e=>D.1 (e▸Ac g))▸G D.2 g F
def HF(h:(as.zip ps).find? (fun q=>q.1==b)=some q):∃j:Nat,as[j]?=some b/\ps[j]?=some q.2:=by
 have h0:=List.find?_some h;obtain⟨j,g⟩:=Bw.mp (Bc h);rw[List.getElem?_zip_eq_some] at g;exact⟨j,by exact(eq_of_beq h0)▸g.1,g.2⟩
end
inductive Nj(H:Hp):List Addr->List (List Key×V)->Prop
 |nil:Nj H [] []
 |cons {a b:Addr} {k:List Key} {v:V} {as:List Addr} {kvs:List (List Key×V)} (h1:H a=some (.tup [.ref b,v])) (h2:H b=some (.tup (k.map kV))) (r:Nj H as kvs):Nj H (a::as) ((k,v)::kvs)
def mkT(as:List Addr)(ps:List (Addr×V)):Addr->Option (List V):=fun b=>((as.zip ps).find? fun p=>p.1==b).map fun p=>[.ref p.2.1,p.2.2]
theorem Wo: ∀{as}{kvs},as.length=kvs.length->(∀(j:Nat)a p,as[j]?=some a->kvs[j]?=some p->∃b,H a=some (.tup [.ref b,p.2])/\H b=some (.tup (p.1.map kV)))->Nj H as kvs
 |[],[],_,_=>.nil
 |[],_::_,h,_=>nomatch h
 |_::_,[],h,_=>nomatch h
 |a::as,p::kvs,h,k=>let ⟨b,q,D⟩:=k 0 a p rfl rfl;.cons q D (Wo (Ax h) fun j g F h1 h2=>k (j+1) g F h1 h2)
def Ls(r:KT H kvs xs):∃ps:List (Addr×V),ps.length=kvs.length/\∀j:Nat,∀p∈ps[j]?,∃k u,kvs[j]?=some (k,p.2)/\xs[j]?=some (k,p.1,u)/\H p.1=some (.tup (k.map kV))/\RelV p.2 u:=by
 induction r with
 |nil=>exact⟨[],rfl,fun j p h=>by cases h⟩
 |@cons p q J M h r D =>
  obtain⟨ps,e,f⟩:=D;obtain⟨k,v⟩:=p;obtain⟨I,b,u⟩:=q;obtain⟨rfl,F,G⟩:=h;refine⟨(b,v)::ps,by rw[AQ,AQ,e],fun j p g=>?_⟩
  cases j with
  |zero=>cases g;exact⟨k,u,rfl,rfl,F,G⟩
  |succ j=>exact f j p g
section
variable {X:Cx}
def Xj d(j:(d==sysModules)=false):MeetsIn prog w (Builtin.«dict.items» ⟨[.ref d],[]⟩) (fun _ R s=>s.TypeIs (.ref d) "dict"/\R (.ok (.ret (.ref s.heap.objs.size))) { s with heap:=s.heap.push { cls:=.type "dict_items",data:=.fields #[.ref d] } }) :=
 .of_wp fun A R s q=>uL q fun g h=> by
  (apply AA;refine AA (Ck g ?_))
  (apply AD;delta Builtin.Dict.showsAll)
  (exact(Af (j▸AO))▸AA (AD (AA (A2 (AD ⟨_,rfl,h⟩)))))
def u5:V->List V->Hp->VK->Prop:=fun x vs H Q=>∃d kvs,x=.ref d/\vs=[]/\H d=some (.dT kvs)/\∀v,H v=none->Q (.ref v) (upd H v (.ext (iY v d)))
def Vr:MtR X "dict.items" u5:=by
 intro pins s σ H x xs v S Q I N M h;obtain⟨d,kvs,rfl,rfl,J,q⟩:=h;cases N;cases M;obtain⟨z,G,ys,O,g⟩:=Gm I.hok J;refine DQ DF g.typeIs F.entry_dict_items (F.args_dict_items_1 _) (Xj d G) ⟨g.typeIs,⟨.ref s.heap.objs.size,_,I.laid (t':=s.toks) (o:=.ext (iY s.heap.objs.size d)) (fun b o e=>AC _ e) (AH _) ⟨⟨_,AL _ rfl,rfl,rfl⟩,⟨_,AL _ rfl⟩,?_⟩,rfl,q _ (I.hok.fresh (AH _))⟩⟩
 rintro h1 h2 ⟨o,j,D⟩ e;exact⟨o,e o j,D⟩
def iI(hc:X.calm=true):CallR X (.builtin "sorted") (fun xs H Q=>∃v d kvs U,xs=[.ref v]/\H v=some (.ext (iY v d))/\H d=some (.dT kvs)/\kvs.length < 64 /\
  ∀as H1,Same H H1->Nj H1 as kvs->(∀a∈as,H a=none)->(∀a,H a=none->H1 a≠none->a∈as)->Fj X H1 (List.map V.ref as) U/\∀p,H1 p=none->Q (.ref p) (upd H1 p (.lst (sF U (List.map V.ref as))))):=by
 intro pins s σ H xs ay Q I r h;obtain⟨v,d,kvs,U,rfl,hv,au,ax,hq⟩:=h;obtain⟨u,rfl,rfl⟩:=r.one;obtain⟨z,hS,ys,ao,dd⟩:=Gm I.hok au;refine XB (I.hok v _ hv) fun av _ _=>yz dd fun od es ep d1 d2 d3 Z _ _=>oQ (Ls ao) fun ps pl pf=>?_;have ag:es.size=kvs.length:=by rw[size_of_entries Z,(Paired.length ao)]
 refine DD kind_sorted plain_sorted entry_sorted (args_sorted1 _) (?_:wpAny _ _ (Builtin.«sorted» _) _ _ _);refine AA (AD (AA (QM (by simp[I.ok.hd hc]) av ⟨od,d1,d2,d3⟩ (by rwa [ag]) fun h' tk as aw ah G=>?_)));have ak:=G.rise.imp fun h=>AY h;have ai:=ah.trans ag;have J:∀a∈as,s.heap.objs.size<=a:=fun a S=>BY (G.above a S)
 have D:∀b xs,mkT as ps b=some xs->∃(j:Nat)(p:Addr×V),as[j]?=some b/\ps[j]?=some p/\xs=[.ref p.1,p.2]:=fun b xs e=>by
  delta mkT at e
  cases y:(as.zip ps).find? fun p=>p.1==b with
  |none=>rw[y] at e;cases e
  |some q =>
   rw[y] at e;cases e;exact oQ (HF y) fun j g M=>⟨j,q.2,g,M,rfl⟩
 have Y:Inv X pins σ (jm H (mkT as ps)) { s with heap:=h',toks:=tk }:=I.tups aw fun b xs e=>by
  obtain⟨j,p,g,M,rfl⟩:=D b xs e;refine cT (pf j p M) fun k u N ab f3 ae=>oQ (G.pairs j b g) fun en af aq=>?_;have ar:es[j]?=some (entryOfKey (tupleKind (uX X.prog X.w)) (k,p.1,u)):=by rw[entry_at Z,ab];rfl
  rw[ar] at af;cases af;exact⟨J b (Ac g),ie 2 rfl,[.ref p.1,u],.cons rfl (.cons ae .nil),⟨_,aq,rfl,⟨_,rfl⟩,rfl⟩⟩
 have O:∀b xs,mkT as ps b=some xs->H b=none:=fun b xs e=>bU (D b xs e) fun j p g _=>I.hok.fresh (J b (Ac g))
 obtain⟨hs,q⟩:=hq as (jm H (mkT as ps)) (fun b o e=>gK O e) (Wo ai fun j a p h1 h2=>by
   obtain⟨F,aj⟩:∃F,ps[j]?=some F:=⟨ps[j]'(pl▸(AU.1 h2).1),AK _⟩;refine cT (pf j F aj) fun k u N ab f3 ae=>?_;rw[h2] at N;cases N
   exact⟨F.1,lG (by delta mkT;rw[HH ak h1 aj];rfl),gK O f3⟩) (fun a S=>I.hok.fresh (J a S)) fun a n1 n2=>by
  cases y:mkT as ps a with
  |none=>rw[uK y] at n2;exact absurd n1 n2
  |some xs=>exact bU (D a xs y) fun j p g _=>Ac g
 have rv:Vals (as.map V.ref) (as.map Value.ref):=by
  clear ak ai J Y O hs q ah G hq D
  induction as with
  |nil=>exact .nil
  |cons a as ih=>exact .cons rfl ih
 exact bH (AH _) Y rv (by grind) hs fun p s' hp I'=>⟨_,rfl,.ref p,_,I',rfl,q p hp⟩
end
end L2
namespace L2
open PySem PySem.W PySem.Spec PyProof.Rows
def vU(kvs j:List (List Key×V)):List (List Key×V):=j.foldl (fun acc g=>xV acc g.1 g.2) kvs
section
variable {X:Cx}
def cntK(k:Key)(g:List Key):Nat:=g.countP fun j=>decide (j=k)
end
end L2
namespace CL
open PySem PySem.Spec L2
open PyProof.Rows hiding St
inductive PV where
 |non | bl (b:Bool) | int (i:Int) | str (x:Str) | ty (n:String) | tup (xs:List PV) | kt (xs:List PV) | fz (xs:List PV) | vw (d:Addr) | ref (a:Addr)
noncomputable def dm:HO->Bool
 |.tup _=>true
 |.frz _ (.dK _)=>false
 |.frz _ (.dT _)=>false
 |.frz _ _=>true
 |.ext _=>true
 |_=>false
def iz(H H':Hp):Prop:=∀a o,dm o=true->H a=some o->H' a=some o
def iz.new(g:H p=none)o:iz H (upd H p o):=fun a u _ e=>by
 rwa [fQ (aJ e g)]
def iz.mut(g:H p=some u)(j:dm u=false)o:iz H (upd H p o):=fun a v i e=>by
 have:a≠p:=by
  intro z;subst z;rw[g] at e;cases e;rw[j] at i;cases i
 rwa [fQ this]
def Fz(K:Dm)(H:Hp)(a:Addr)(xs:List V):Prop :=
 (∃o,H a=some (.frz o (.lst xs))) \/
  ∃(o:Obj)(g:Array Value)(n:Nat),K.lookup a=some o/\o.cls=.type "list"/\o.dict=none/\o.data=.seq g n/\g.size<=sizeLine/\Vals xs g.toList
def Fz.sq{K}(h:Fz K H a xs):SqL K H a xs:=by
 rcases h with ⟨o,h⟩ | h
 .exact .inl (.inr ⟨o,h⟩)
 .exact .inr h
def Fz.dm{K}(h:Fz K H a xs)(k:iz H H'):Fz K H' a xs:=by
 rcases h with ⟨o,h⟩ | h
 .exact .inl ⟨o,k _ _ rfl h⟩
 .exact .inr h
def SqT.dm{K}(h:SqT K H a xs)(k:iz H H'):SqT K H' a xs:=by
 rcases h with (h | ⟨o,h⟩) | h
 .exact .inl (.inl (k _ _ rfl h))
 .exact .inl (.inr ⟨o,k _ _ rfl h⟩)
 .exact .inr h
mutual
inductive Rep(K:Dm)(H:Hp):V->PV->Prop
 |non:Rep K H .non .non
 |bl (b:Bool):Rep K H (.bl b) (.bl b)
 |int (i:Int):Rep K H (.int i) (.int i)
 |str (x:Str):Rep K H (.str x) (.str x)
 |ty (n:String):Rep K H (.ty n) (.ty n)
 |ref (a:Addr):Rep K H (.ref a) (.ref a)
 |tup {a:Addr} {vs:List V} {ts:List PV} (h:H a=some (.tup vs)) (r:d7 K H vs ts):Rep K H (.ref a) (.tup ts)
 |kt {a:Addr} {vs:List V} {ts:List PV} (h:SqT K H a vs) (r:d7 K H vs ts):Rep K H (.ref a) (.kt ts)
 |fz {a:Addr} {vs:List V} {ts:List PV} (h:Fz K H a vs) (r:d7 K H vs ts):Rep K H (.ref a) (.fz ts)
 |vw {a d:Addr} (h:H a=some (.ext (iY a d))):Rep K H (.ref a) (.vw d)
inductive d7(K:Dm)(H:Hp):List V->List PV->Prop
 |nil:d7 K H [] []
 |cons {v:V} {t:PV} {vs:List V} {ts:List PV} (h:Rep K H v t) (r:d7 K H vs ts):d7 K H (v::vs) (t::ts)
end
section
variable {K:Dm}{H H' H1 H2:Hp}
mutual
theorem Rep.dm{v:V}{t:PV}(k:iz H H'):Rep K H v t->Rep K H' v t
 |.non=>.non
 |.bl b=>.bl b
 |.int i=>.int i
 |.str x=>.str x
 |.ty n=>.ty n
 |.ref a=>.ref a
 |.tup h r=>.tup (k _ _ rfl h) (d7.dm k r)
 |.kt h r=>.kt (SqT.dm h k) (d7.dm k r)
 |.fz h r=>.fz (Fz.dm h k) (d7.dm k r)
 |.vw h=>.vw (k _ _ rfl h)
theorem d7.dm{vs:List V}{ts:List PV}(k:iz H H'):d7 K H vs ts->d7 K H' vs ts
 |.nil=>.nil
 |.cons h r=>.cons (Rep.dm k h) (d7.dm k r)
end
theorem d7.len: d7 K H vs ts->vs.length=ts.length
 |.nil=>rfl
 |.cons _ r=>Bz (· + 1) r.len
theorem d7.get{i:Nat}: d7 K H vs ts->ts[i]?=some t->∃v,vs[i]?=some v/\Rep K H v t
 |.nil,e=>by cases e
 |.cons h r,e=>by
  cases i with
  |zero=>cases e;exact⟨_,rfl,h⟩
  |succ i=>exact r.get e
theorem d7.append: d7 K H vs ts->d7 K H g ss->d7 K H (vs++g) (ts++ss)
 |.nil,r=>r
 |.cons h t,r=>.cons h (t.append r)
theorem d7.take: ∀n,d7 K H vs ts->d7 K H (vs.take n) (ts.take n)
 |0,_=>.nil
 |_+1,.nil=>.nil
 |n+1,.cons h r=>.cons h (r.take n)
theorem d7.drop: ∀n,d7 K H vs ts->d7 K H (vs.drop n) (ts.drop n)
 |0,r=>r
 |_+1,.nil=>.nil
 |n+1,.cons _ r=>r.drop n
theorem d7.set(h:Rep K H v t):∀n,d7 K H vs ts->d7 K H (vs.set n v) (ts.set n t)
 |_,.nil=>.nil
 |0,.cons _ r=>.cons h r
 |n+1,.cons g r=>.cons g (r.set h n)
def d7.reverse(r:d7 K H vs ts):d7 K H vs.reverse ts.reverse:=by
 induction vs generalizing ts with
 |nil=>cases r;exact .nil
 |cons v vs g =>
  cases r with
  |cons h r=>rw[Bj,Bj];exact(g r).append (.cons h .nil)
end
inductive CO where
 |lst (xs:List PV)
 |dK (kvs:List (Key×PV))
 |fK (kvs:List (Key×PV))
 |dT (kvs:List (List Key×PV))
 |fT (kvs:List (List Key×PV))
 |dP (kvs:List (List (List Key)×PV))
 |ins (c dx:Addr) (fs:List (Str×PV))
abbrev CH:=Addr->Option CO
noncomputable def gQ(C:CH)(a:Addr)(o:CO):CH:=fun b=>if b=a then some o else C b
def jQ: gQ C a o a=some o:=Ah rfl
def yQ(h:b≠a):gQ C a o b=C b:=Af h
abbrev FP(K:Dm)(H:Hp):List (κ×V)->List (κ×PV)->Prop:=Paired fun p q=>p.1=q.1/\Rep K H p.2 q.2
abbrev KP(K:Dm)(H:Hp):List (Key×V)->List (Key×PV)->Prop:=Paired fun p q=>p.1=q.1/\Rep K H p.2 q.2
def qd(K:Dm)(H:Hp)(a:Addr):CO->Prop
 |.lst ts=>∃vs,H a=some (.lst vs)/\d7 K H vs ts
 |.dK kvs=>∃vs,H a=some (.dK vs)/\KP K H vs kvs
 |.fK kvs=>∃o vs,H a=some (.frz o (.dK vs))/\KP K H vs kvs
 |.dT kvs=>∃vs,H a=some (.dT vs)/\FP K H vs kvs
 |.fT kvs=>∃o vs,H a=some (.frz o (.dT vs))/\FP K H vs kvs
 |.dP kvs=>∃vs,H a=some (.dP vs)/\FP K H vs kvs
 |.ins c dx fs=>∃g,H a=some (.ins c dx g)/\FP K H g fs
def d8(K:Dm)(H:Hp)(C:CH):Prop:=∀a o,C a=some o->qd K H a o
noncomputable def still:Option CO->Bool
 |none=>true
 |some (.fK _)=>true
 |some (.fT _)=>true
 |_=>false
def Fw(H:Hp)(C:CH)(H':Hp)(C':CH):Prop:=∀a,still (C a)=true->H a≠none->C' a=C a/\H' a=H a
section
variable {K:Dm}{H H' H1 H2:Hp}{C C' C1 C2:CH}
def Fw.refl:Fw H C H C:=fun _ _ _=>⟨rfl,rfl⟩
theorem Fw.trans(f:Fw H C H1 C1)(g:Fw H1 C1 H2 C2):Fw H C H2 C2:=fun a h n=>by
 obtain⟨c,e⟩:=f a h n;obtain⟨j,q⟩:=g a (by rwa [c]) (by rwa [e]);exact⟨j.trans c,q.trans e⟩
def qd.mut(h:qd K H a o):∃u,H a=some u/\dm u=false:=by
 cases o with
 |lst ts=>obtain⟨vs,e,_⟩:=h;exact⟨_,e,rfl⟩
 |dK ts=>obtain⟨vs,e,_⟩:=h;exact⟨_,e,rfl⟩
 |fK ts=>obtain⟨o,vs,e,_⟩:=h;exact⟨_,e,rfl⟩
 |dT ts=>obtain⟨vs,e,_⟩:=h;exact⟨_,e,rfl⟩
 |fT ts=>obtain⟨o,vs,e,_⟩:=h;exact⟨_,e,rfl⟩
 |dP ts=>obtain⟨vs,e,_⟩:=h;exact⟨_,e,rfl⟩
 |ins c dx fs=>obtain⟨vs,e,_⟩:=h;exact⟨_,e,rfl⟩
def d8.hid(h:d8 K H C)(i:dm o=true)(e:H a=some o):C a=none:=by
 cases c:C a with
 |none=>rfl
 |some u =>
  obtain⟨v,g,j⟩:=((h a u c).mut);rw[e] at g;cases g;rw[i] at j;cases j
def d8.fresh(h:d8 K H C)(e:H a=none):C a=none:=by
 cases c:C a with
 |none=>rfl
 |some u =>
  obtain⟨v,g,j⟩:=((h a u c).mut);rw[e] at g;cases g
def Fw.dm(f:Fw H C H' C')(h:d8 K H C):iz H H':=fun a o i e=>by
 rw[(f a (by rw[h.hid i e];rfl) (by lia)).2];exact e
def qd.dm(h:qd K H a o)(k:iz H H')(e:H' a=H a):qd K H' a o:=by
 cases o with
 |lst ts=>obtain⟨vs,q,r⟩:=h;exact⟨vs,e.trans q,r.dm k⟩
 |dK ts=>obtain⟨vs,q,r⟩:=h;exact⟨vs,e.trans q,Paired.mapP r fun _ _ z=>⟨z.1,z.2.dm k⟩⟩
 |fK ts=>obtain⟨o,vs,q,r⟩:=h;exact⟨o,vs,e.trans q,Paired.mapP r fun _ _ z=>⟨z.1,z.2.dm k⟩⟩
 |dT ts=>obtain⟨vs,q,r⟩:=h;exact⟨vs,e.trans q,Paired.mapP r fun _ _ z=>⟨z.1,z.2.dm k⟩⟩
 |fT ts=>obtain⟨o,vs,q,r⟩:=h;exact⟨o,vs,e.trans q,Paired.mapP r fun _ _ z=>⟨z.1,z.2.dm k⟩⟩
 |dP ts=>obtain⟨vs,q,r⟩:=h;exact⟨vs,e.trans q,Paired.mapP r fun _ _ z=>⟨z.1,z.2.dm k⟩⟩
 |ins c dx fs=>obtain⟨vs,q,r⟩:=h;exact⟨vs,e.trans q,Paired.mapP r fun _ _ z=>⟨z.1,z.2.dm k⟩⟩
def d8.new(h:d8 K H C)(g:H p=none)o:d8 K (upd H p o) C:=fun a u c=>oQ ((h a u c).mut) fun v e _=>(h a u c).dm (iz.new g o) (fQ (aJ e g))
def Fw.new(g:H p=none)o:Fw H C (upd H p o) C:=fun a c n=>⟨rfl,fQ fun z=>n (z▸g)⟩
def d8.lay(h:d8 K H C)(g:H p=none)(r:qd K (upd H p o) p u):d8 K (upd H p o) (gQ C p u):=fun a v c=>by
 by_cases e:a=p
 .subst e;rw[jQ] at c;cases c;exact r
 .rw [yQ e] at c;exact h.new g o a v c
def Fw.lay(g:H p=none)o u:Fw H C (upd H p o) (gQ C p u):=fun a c n=>by
 have e:a≠p:=fun z=>n (z▸g);exact⟨yQ e,fQ e⟩
theorem d8.put(h:d8 K H C)(g:H p=some j)(hi:dm j=false)(r:qd K (upd H p o) p u):d8 K (upd H p o) (gQ C p u):=fun a v c=>by
 by_cases e:a=p
 .subst e;rw[jQ] at c;cases c;exact r
 .rw [yQ e] at c;exact(h a v c).dm (iz.mut g hi o) (fQ e)
theorem Fw.put(g:C p=some j)o u(hs:still (some j)=false:=by rfl):Fw H C (upd H p o) (gQ C p u):=fun a c n=>by
 have e:a≠p:=fun z=>by subst z;rw[g,hs] at c;cases c
 exact⟨yQ e,fQ e⟩
end
abbrev jt:=List (Option PV)
abbrev K1:=PV->CH->Prop
def sr(K:Dm)(H:Hp):Option V->Option PV->Prop
 |_,none=>True
 |some v,some t=>Rep K H v t
 |none,some _=>False
def gq(K:Dm)(H:Hp):St->jt->Prop:=Paired (sr K H)
section
variable {K:Dm}{H H':Hp}{C C':CH}
def sr.dm(k:iz H H')(h:sr K H v t):sr K H' v t:=by
 cases t with
 |none=>cases v<;>trivial
 |some t=>cases v with
  |none=>exact h
  |some v=>exact Rep.dm k h
def gq.dm(s:gq K H σ g)(k:iz H H'):gq K H' σ g:=Paired.mapP s fun _ _=>sr.dm k
def gq.get{i:Nat}(s:gq K H σ j)(e:j[i]?=some (some t)):∃v,σ[i]?=some (some v)/\Rep K H v t:=by
 induction s generalizing i with
 |nil=>cases e
 |@cons a b q D h r g =>
  cases i with
  |zero =>
   cases e
   cases a with
   |none=>exact h.elim
   |some v=>exact⟨v,rfl,h⟩
  |succ i=>exact g e
def gq.set(s:gq K H σ j)(h:Rep K H v t)i:gq K H (σ.set i (some v)) (j.set i (some t)):=by
 induction s generalizing i with
 |nil=>exact .nil
 |cons h' r g =>
  cases i with
  |zero=>exact .cons h r
  |succ i=>exact .cons h' (g i)
end
def bJ{α β:Type}(K:Dm)(j:Hp->α->β->Prop)(c:jt->CH->(β->CH->Prop)->Prop):St->Hp->(α->Hp->Prop)->Prop:=fun σ H Q=>
 ∃g C R,gq K H σ g/\d8 K H C/\c g C R/\∀v H' t C',R t C'->j H' v t->d8 K H' C'->Fw H C H' C'->Q v H'
abbrev gj:=jt->CH->K1->Prop
abbrev mj:=jt->CH->(Bool->CH->Prop)->Prop
abbrev qu:=jt->CH->(List PV->CH->Prop)->Prop
abbrev gP:Hp->Bool->Bool->Prop:=fun _ a b=>a=b
structure jx where
 nx:jt->CH->Prop
 rt:K1
 bk:jt->CH->Prop:=fun _ _=>False
 ct:jt->CH->Prop:=fun _ _=>False
abbrev jx.wn(E:jx)(k:jt->CH->Prop):jx:={ E with nx:=k }
abbrev jx.lp(E:jx)(k:jt->CH->Prop):jx:={ nx:=k,ct:=k,bk:=E.nx,rt:=E.rt }
abbrev jx.go(R:K1):jx:={ nx:=fun _ C'=>R .non C',rt:=R }
abbrev kh:=jx->jt->CH->Prop
structure su(K:Dm)(H:Hp)(C:CH)(E:jx)(D:Ue):Prop where
 nx:∀σ' H' ρ' C',E.nx ρ' C'->gq K H' σ' ρ'->d8 K H' C'->Fw H C H' C'->D.nx σ' H'
 rt:∀v H' t C',E.rt t C'->Rep K H' v t->d8 K H' C'->Fw H C H' C'->D.rt v H'
 bk:∀σ' H' ρ' C',E.bk ρ' C'->gq K H' σ' ρ'->d8 K H' C'->Fw H C H' C'->D.bk σ' H'
 ct:∀σ' H' ρ' C',E.ct ρ' C'->gq K H' σ' ρ'->d8 K H' C'->Fw H C H' C'->D.ct σ' H'
def su.fw{K}(e:su K H C E D)(f:Fw H C H1 C1):su K H1 C1 E D :=
 ⟨fun q H' j C' h s r g=>e.nx q H' j C' h s r (f.trans g),fun v H' t C' h s r g=>e.rt v H' t C' h s r (f.trans g),fun q H' j C' h s r g=>e.bk q H' j C' h s r (f.trans g),fun q H' j C' h s r g=>e.ct q H' j C' h s r (f.trans g)⟩
def YG(K:Dm)(c:kh):TS:=fun D σ H=>∃g C E,gq K H σ g/\d8 K H C/\c E g C/\su K H C E D
structure CE(X:Cx)(e:Expr)(c:gj):Prop where
 h:JE X e (bJ X.K (Rep X.K) c)
structure CT(X:Cx)(e:Expr)(c:mj):Prop where
 h:JT X e (bJ X.K gP c)
structure CW(X:Cx)(e:Expr)(c:mj):Prop where
 h:JW X e (bJ X.K gP c)
structure CA(X:Cx)(es:List Expr)(c:qu):Prop where
 h:JA X es (bJ X.K (d7 X.K) c)
structure CS(X:Cx)(st:Stmt)(c:kh):Prop where
 h:JS X st (YG X.K c)
structure CB(X:Cx)(st:List Stmt)(c:kh):Prop where
 h:JB X st (YG X.K c)
section
variable {X:Cx}{a b c e o i:Expr}{es:List Expr}{pos:Pos}{rest:List Expr}{st:Stmt}{sts:List Stmt}
def JE.weak(h:JE X e t)(w:∀σ H Q,t' σ H Q->t σ H Q):JE X e t':=⟨fun pins s σ H Q I q=>h.h pins s σ H Q I (w σ H Q q)⟩
def JT.weak(h:JT X e t)(w:∀σ H Q,t' σ H Q->t σ H Q):JT X e t':=⟨fun pins s σ H Q I q=>h.h pins s σ H Q I (w σ H Q q)⟩
def JW.weak(h:JW X e t)(w:∀σ H Q,t' σ H Q->t σ H Q):JW X e t':=⟨fun g pins s σ H Q I q=>h.h g pins s σ H Q I (w σ H Q q)⟩
def JA.weak(h:JA X es t)(w:∀σ H Q,t' σ H Q->t σ H Q):JA X es t':=⟨fun p pins s σ H Q I q=>h.h p pins s σ H Q I (w σ H Q q)⟩
def JS.weak(h:JS X st t)(w:∀D σ H,t' D σ H->t D σ H):JS X st t':=⟨fun pins s σ H D I q=>h.h pins s σ H D I (w D σ H q)⟩
def JB.weak(h:JB X sts t)(w:∀D σ H,t' D σ H->t D σ H):JB X sts t':=⟨fun pins s σ H D I q=>h.h pins s σ H D I (w D σ H q)⟩
def jJ(i:Nat):gj:=fun g C Q=>match g[i]? with
 |some (some t)=>Q t C
 |_=>False
def cC(t:PV):gj:=fun _ C Q=>Q t C
def cv i(j:X.N[i]?=some x:=by rfl)(G:Vis X.env.scope x:=by first | exact Or.inl rfl | exact Or.inr (Or.inl rfl) | exact Or.inr (Or.inr rfl))(F:(x==("__debug__" : Str))=false:=by decide)(D:(x==("__classdict__" : Str))=false:=by decide):CE X (.Name x pos) (jJ i):=⟨JE.weak ⟨W7 j G F D⟩ fun σ H Q I=>fX I fun J C R s h q f=> by
 delta jJ at q
 split at q
 .next t e =>
  exact oQ (s.get e) fun v g r=>⟨v,g,f v H t C q r h Fw.refl⟩
 .exact q.elim⟩
def VU(h:JE X e (tC v))(r:∀H,Rep X.K H v t):CE X e (cC t):=⟨JE.weak h fun σ H Q g=>fX g fun j C R s h q f=> f v H t C q (r H) h Fw.refl⟩
def zQ{i j pos}:CE X (.Constant (.int i) j pos) (cC (.int i)):=VU ⟨pe_int⟩ fun _=>.int i
def aG{b j pos}:CE X (.Constant (.bool b) j pos) (cC (.bl b)):=VU ⟨pe_bl⟩ fun _=>.bl b
def kK{j pos}:CE X (.Constant .none j pos) (cC .non):=VU ⟨pe_non⟩ fun _=>.non
def vQ{x j pos}:CE X (.Constant (.str x) j pos) (cC (.str x)):=VU ⟨pe_str⟩ fun _=>.str x
def zY(j:Gl X x)(D:X.mg x=some u)(r:RelV v u)(q:∀H,Rep X.K H v t)(g:(x==("__debug__" : Str))=false:=by decide):CE X (.Name x pos) (cC t):=VU ⟨pe_glob j D r g⟩ q
def mV(j:Gl X x)(q:X.mg x=none)(F:bootBuiltins x=some (.type n))(D:x ≠ "__name__":=by decide)(g:(x==("__debug__" : Str))=false:=by decide):CE X (.Name x pos) (cC (.ty n)):=VU (yg (v:=.ty n) j q F rfl D g) fun _=>.ty n
abbrev m9:=PV->PV->CH->K1->Prop
def j8(K:Dm)(r:R2)(q:m9):Prop:=∀x y g j H C Q R,Rep K H x g->Rep K H y j->d8 K H C->q g j C R->(∀v H' t C',R t C'->Rep K H' v t->d8 K H' C'->Fw H C H' C'->Q v H')->r x y H Q
def qp(D:m9)(j q:gj):gj:=fun g C Q=>j g C fun x C1=>q g C1 fun y C2=>D x y C2 Q
def bN{K}(M:j8 K r I){Q:VK}(h:bJ K (Rep K) (qp I F G) σ H Q):tOp r (bJ K (Rep K) F) (bJ K (Rep K) G) σ H Q :=fX h fun D C R s h q f=>⟨D,C,_,s,h,q,fun x H1 N C1 U rx h1 g=>⟨D,C1,_,s.dm (g.dm h),h1,U,fun y H2 O C2 Y ry h2 j=>
  M x y N O H2 C2 Q R (rx.dm (j.dm h1)) ry h2 Y fun v H' t C' S Z h' J=>f v H' t C' S Z h' (g.trans (j.trans J))⟩⟩
def xX(G:OpR X (binaryOp op) r)(I:j8 X.K r q)(D:CE X a g)(F:CE X b j):CE X (.BinOp a op b pos) (qp q g j):=⟨JE.weak ⟨pe_op G D.h.h F.h.h⟩ fun _ _ _ h=>bN I h⟩
def oK(I:OpR X (compareOp op) r)(J:j8 X.K r q)(D:CE X a g)(F:CE X b j)(G:behindInMarks op b=false):CE X (.Compare a [op] [b] pos) (qp q g j):=⟨JE.weak ⟨pe_cmpR I D.h.h F.h.h G⟩ fun _ _ _ h=>bN J h⟩
def iC(k:Bool->CH->Prop):PV->CH->Prop
 |.bl b,C=>k b C
 |_,_=>False
def lE(c:gj):mj:=fun g C Q=>c g C (iC Q)
def nE{K}(q:iC Q t C)(r:Rep K H v t):∃b,t=.bl b/\v=.bl b/\Q b C:=by
 cases t with
 |bl b=>cases r;exact⟨b,rfl,rfl,q⟩
 |_=>exact q.elim
def Vw{K}{c}(h:bJ K gP (lE c) σ H Q):Wq (bJ K (Rep K) c) σ H Q :=fX h fun G C R s h q f=>⟨G,C,_,s,h,q,fun x H1 I C1 j F h1 g=>by
  obtain⟨b,rfl,rfl,D⟩:=nE j F
  exact⟨b,rfl,f b H1 b C1 D rfl h1 g⟩⟩
def Z7(M:OpR X (compareOp op) r)(N:j8 X.K r D)(G:CE X a g)(I:CE X b j)(J:behindInMarks op b=false):CT X (.Compare a [op] [b] pos) (lE (qp D g j)) :=
 ⟨JT.weak ⟨pt_cmpR M G.h.h I.h.h J⟩ fun σ H Q h=>by
  refine fX h fun Y C R s h q f=>bN N ⟨Y,C,_,s,h,q,fun x H1 Z C1 O U h1 F=>?_⟩;obtain⟨b,rfl,rfl,S⟩:=nE O U
  exact⟨b,rfl,f b H1 b C1 S rfl h1 F⟩⟩
def oZ{c}(h:CE X e c)(g:mP e=true:=by rfl):CT X e (lE c):=⟨JT.weak ⟨pt_val h.h.h (dC g)⟩ fun _ _ _ h=>Vw h⟩
def Jk(G I:m9)(D F cc:gj):gj:=fun g C Q=>D g C fun x C1=>F g C1 fun y C2=>G x y C2 (iC fun b j=>if b=true then cc g j fun z q=>I y z q Q else Q (.bl false) j)
def wR{K}(hr:j8 K r ae)(ag:j8 K F af){Q:VK}(h:bJ K (Rep K) (Jk ae af ab cb cc) σ H Q):Zc r F (bJ K (Rep K) ab) (bJ K (Rep K) cb) (bJ K (Rep K) cc) σ H Q:=by
 refine fX h fun G C R s h q f=>⟨G,C,_,s,h,q,fun x H1 px C1 q1 rx h1 g=>⟨G,C1,_,s.dm (g.dm h),h1,q1,fun y H2 N C2 q2 S h2 j=>
  hr x y px N H2 C2 _ _ (rx.dm (j.dm h1)) S h2 q2 fun v Y t I q3 r3 M D=>by
   obtain⟨b,rfl,rfl,O⟩:=nE q3 r3;refine⟨b,rfl,?_⟩
   cases b with
   |true =>
    exact⟨G,I,_,(s.dm (g.dm h)).dm ((j.trans D).dm h1),M,O,fun z Z pz U q5 rz h4 J=>ag y z N pz Z U Q R (S.dm ((D.trans J).dm h2)) rz h4 q5 fun v H' t C' q' F h' f'=>f v H' t C' q' F h' (g.trans (j.trans (D.trans (J.trans f'))))⟩
   |false=>exact f _ Y _ I O (.bl false) M (g.trans (j.trans D))⟩⟩
def GS(N:OpR X (compareOp op) r)(O:OpR X (compareOp g) Y)(S:j8 X.K r D)(U:j8 X.K Y F)(G:CE X a j)(I:CE X b q)(J:CE X c cc)(M:lastMarks [op,g] [b,c]=false:=by with_unfolding_all rfl):CE X (.Compare a [op,g] [b,c] pos) (Jk D F j q cc):=⟨JE.weak ⟨Yd N O G.h.h I.h.h J.h.h M⟩ fun _ _ _ h=>wR S U h⟩
def Gy(S:OpR X (compareOp op) r)(U:OpR X (compareOp g) r')(Y:j8 X.K r F)(Z:j8 X.K r' G)(J:CE X a j)(M:CE X b D)(N:CE X c cc)(O:lastMarks [op,g] [b,c]=false:=by with_unfolding_all rfl):CT X (.Compare a [op,g] [b,c] pos) (lE (Jk F G j D cc)) :=
 ⟨JT.weak ⟨WV S U J.h.h M.h.h N.h.h O⟩ fun σ H Q h=>by
  refine fX h fun ρ C R s h q f=>wR Y Z ⟨ρ,C,_,s,h,q,fun x H1 px C1 q1 rx h1 I=>?_⟩;obtain⟨b,rfl,rfl,q2⟩:=nE q1 rx
  exact⟨b,rfl,f b H1 b C1 q2 rfl h1 I⟩⟩
def cUn(j:PV->CH->K1->Prop)(g:gj):gj:=fun q C Q=>g q C fun x C1=>j x C1 Q
def Cun(K:Dm)(r:V->Hp->VK->Prop)(j:PV->CH->K1->Prop):Prop:=∀x g H C Q R,Rep K H x g->d8 K H C->j g C R->(∀v H' t C',R t C'->Rep K H' v t->d8 K H' C'->Fw H C H' C'->Q v H')->r x H Q
def oH(I:UnR X (unaryOp op) r)(J:Cun X.K r j)(G:CE X a g):CE X (.UnaryOp op a pos) (cUn j g):=⟨JE.weak ⟨pe_un I G.h.h⟩ fun σ H Q Y=>fX Y fun Z C R s h q f=>
 ⟨Z,C,_,s,h,q,fun x H1 M C1 O U h1 F=>J x M H1 C1 Q R U h1 O fun v H' t C' N S h' D=>f v H' t C' N S h' (F.trans D)⟩⟩
def Ux(t u:mj):mj:=fun g C Q=>t g C fun b C1=>if b=true then u g C1 Q else Q false C1
def RK(t u:mj):mj:=fun g C Q=>t g C fun b C1=>if b=true then Q true C1 else u g C1 Q
def Uh(t:mj):mj:=fun g C Q=>t g C fun b C1=>Q (!b) C1
def gm(h:CW X e t):CT X e t:=⟨⟨h.h.h.pt⟩⟩
def gn(h:CT X a t):CW X (.BoolOp .And [a] pos) t:=⟨⟨pw_and1 h.h.h⟩⟩
def jh(h:CT X a t):CW X (.BoolOp .Or [a] pos) t:=⟨⟨pw_or1 h.h.h⟩⟩
def iu(G:CT X a t)(I:CW X (.BoolOp .And (b::rest) pos) u):CW X (.BoolOp .And (a::b::rest) pos) (Ux t u):=⟨JW.weak ⟨pw_and G.h.h I.h.h⟩ fun σ H Q N=>fX N fun D C R s h q f=>
 ⟨D,C,_,s,h,q,fun x H1 y C1 j e h1 g=>by
  cases e
  cases x with
  |true=>exact⟨D,C1,R,s.dm (g.dm h),h1,j,fun v H' t C' J M h' F=>f v H' t C' J M h' (g.trans F)⟩
  |false=>exact f false H1 false C1 j rfl h1 g⟩⟩
def jj(G:CT X a t)(I:CW X (.BoolOp .Or (b::rest) pos) u):CW X (.BoolOp .Or (a::b::rest) pos) (RK t u):=⟨JW.weak ⟨pw_or G.h.h I.h.h⟩ fun σ H Q N=>fX N fun D C R s h q f=>
 ⟨D,C,_,s,h,q,fun x H1 y C1 j e h1 g=>by
  cases e
  cases x with
  |true=>exact f true H1 true C1 j rfl h1 g
  |false=>exact⟨D,C1,R,s.dm (g.dm h),h1,j,fun v H' t C' J M h' F=>f v H' t C' J M h' (g.trans F)⟩⟩⟩
def rW(j:CT X a t):CT X (.UnaryOp .Not a pos) (Uh t):=⟨JT.weak ⟨pt_not j.h.h⟩ fun σ H Q F=>fX F fun G C R s h q f=>
 ⟨G,C,_,s,h,q,fun x H1 y C1 D e h1 g=>by cases e;exact f _ H1 _ C1 D rfl h1 g⟩⟩
def RX(j q:gj):gj:=fun g C Q=>j g C (iC fun b C1=>if b=true then q g C1 Q else Q (.bl false) C1)
def RL(g:gj):gj:=fun j C Q=>g j C (iC fun b C1=>Q (.bl (!b)) C1)
def yS{op}{c}(h:CE X a c):CE X (.BoolOp op [a] pos) c:=⟨⟨pe_one h.h.h⟩⟩
def eP(J:CE X a F)(M:CE X (.BoolOp .And (b::rest) pos) G):CE X (.BoolOp .And (a::b::rest) pos) (RX F G):=⟨JE.weak ⟨pe_and J.h.h M.h.h⟩ fun σ H Q Y=>fX Y fun D C R s h q f=>
 ⟨D,C,_,s,h,q,fun x H1 Z C1 O U h1 g=>by
  obtain⟨b,rfl,rfl,j⟩:=nE O U;refine⟨b,rfl,?_⟩
  cases b with
  |true=>exact⟨D,C1,R,s.dm (g.dm h),h1,j,fun v H' t C' N S h' I=>f v H' t C' N S h' (g.trans I)⟩
  |false=>exact f _ H1 _ C1 j (.bl false) h1 g⟩⟩
def M3{g:gj}(D:CE X a g):CE X (.UnaryOp .Not a pos) (RL g):=⟨JE.weak ⟨pe_not D.h.h⟩ fun σ H Q J=>fX J fun M C R s h q f=>
 ⟨M,C,_,s,h,q,fun x H1 N C1 F I h1 j=>by
  obtain⟨b,rfl,rfl,G⟩:=nE F I
  exact⟨b,rfl,f _ H1 _ C1 G (.bl _) h1 j⟩⟩⟩
def cIf(t:mj)(j q:gj):gj:=fun g C Q=>t g C fun b C1=>if b=true then j g C1 Q else q g C1 Q
def uS(S:CT X c t)(N:CE X a J)(O:CE X b M):CE X (.IfExp c a b pos) (cIf t J M):=⟨JE.weak ⟨W9 S.h.h N.h.h O.h.h⟩ fun σ H Q U=>fX U fun G C R s h q f=>
 ⟨G,C,_,s,h,q,fun x H1 y C1 I e h1 g=>by
  cases e
  cases x with
  |true=>exact⟨G,C1,R,s.dm (g.dm h),h1,I,fun v H' t C' D F h' j=>f v H' t C' D F h' (g.trans j)⟩
  |false=>exact⟨G,C1,R,s.dm (g.dm h),h1,I,fun v H' t C' D F h' j=>f v H' t C' D F h' (g.trans j)⟩⟩⟩
def aL:qu:=fun _ C Q=>Q [] C
def fV(j:gj)(q:qu):qu:=fun g C Q=>j g C fun x C1=>q g C1 fun xs C2=>Q (x::xs) C2
def bZ:CA X [] aL:=⟨JA.weak ⟨eC⟩ fun σ H Q g=>fX g fun j C R s h q f=> f [] H [] C q .nil h Fw.refl⟩
def qQ(I:CE X e F)(J:CA X es G)(hs:yX e=true:=by rfl):CA X (e::es) (fV F G):=⟨JA.weak (hM I.h J.h hs) fun σ H Q U=>fX U fun D C R s h q f=>
 ⟨D,C,_,s,h,q,fun x H1 M C1 N S h1 g=>⟨D,C1,_,s.dm (g.dm h),h1,N,fun xs H2 ps C2 O rs h2 j=>f (x::xs) H2 (M::ps) C2 O (.cons (S.dm (j.dm h1)) rs) h2 (g.trans j)⟩⟩⟩
def Jg(g:qu):gj:=fun j C Q=>g j C fun xs C1=>xs.length<=sizeLine/\Q (.tup xs) C1
def Ui(g:qu):gj:=fun j C Q=>g j C fun xs C1=>xs.length<=sizeLine/\∀p,C1 p=none->Q (.ref p) (gQ C1 p (.lst xs))
def cQ{G}(h:CA X es D):CE X (.Tuple es G pos) (Jg D):=⟨JE.weak ⟨pe_tup h.h.h⟩ fun σ H Q I=>fX I fun J C R s h q f=>
 ⟨J,C,_,s,h,q,fun xs H1 ps C1 j rs h1 F=>⟨by rw[rs.len];exact j.1,fun p g=>f (.ref p) _ (.tup ps) C1 j.2 (.tup mQ (rs.dm (iz.new g _))) (h1.new g _) (F.trans (Fw.new g _))⟩⟩⟩
def gX(h:CA X es D):CE X (.List es pos) (Ui D):=⟨JE.weak ⟨pe_lst h.h.h⟩ fun σ H Q G=>fX G fun I C R s h q f=>
 ⟨I,C,_,s,h,q,fun xs H1 ps C1 j rs h1 F=>⟨by rw[rs.len];exact j.1,fun p g=>f (.ref p) _ (.ref p) _ (j.2 p (h1.fresh g)) (.ref p) (h1.lay g ⟨xs,mQ,rs.dm (iz.new g _)⟩) (F.trans (Fw.lay g _ _))⟩⟩⟩
def RW:gj:=fun _ C Q=>∀p,C p=none->Q (.ref p) (gQ C p (.dK []))
def oI:CE X (.Dict [] [] pos) RW:=⟨JE.weak ⟨Yb⟩ fun σ H Q j=>fX j fun D C R s h q f=> fun p g=>f (.ref p) _ (.ref p) _ (q p (h.fresh g)) (.ref p) (h.lay g ⟨[],mQ,.nil⟩) (Fw.lay g _ _)⟩
abbrev GC:=List PV->CH->K1->Prop
def p7(K:Dm)(G:GC):Sp:=fun vs H Q _=>∃ts C R,d7 K H vs ts/\d8 K H C/\G ts C R/\∀v H' t C',R t C'->Rep K H' v t->d8 K H' C'->Fw H C H' C'->Q v H'
def tH(G:GC)(g:qu):gj:=fun j C Q=>g j C fun xs C1=>G xs C1 Q
def Dy{p}(F:FnOk X.prog X.w X.K X.mg X.base CX k f fd ps (p7 X.K G))(Y:Room k X.A)(O:Gl X x)(U:X.mg x=some (.ref f))(S:PySem.W.keepIn X.K (.ref f)=true)(M:Binds X.K fd ps [])(Z:jW CX X E)(I:CA X (e::es) g)(N:(x==("__debug__" : Str))=false:=by decide)(hs:yX e=true:=by rfl)(J:es.all yX=true:=by rfl):CE X (.Call (.Name x p) (e::es) [] pos) (tH G g) :=
 ⟨JE.weak (yf F Y O U S M .nil Z I.h N hs J) fun σ H Q zz=>fX zz fun ρ C R s h q f=>
  ⟨ρ,C,_,s,h,q,fun xs H1 ts C1 q1 rs h1 D=>⟨ts,C1,R,by rw[Ai];exact rs,h1,q1,fun v H' t C' q' r' h' j=>f v H' t C' q' r' h' (D.trans j)⟩⟩⟩
def qe(K:Dm)(r:List V->Hp->VK->Prop)(g:GC):Prop:=∀xs ps H C Q R,d7 K H xs ps->d8 K H C->g ps C R->(∀v H' t C',R t C'->Rep K H' v t->d8 K H' C'->Fw H C H' C'->Q v H')->r xs H Q
def iQ{id}{p}(J:CallR X (.builtin id) r)(U:qe X.K r j)(N:Gl X x)(O:X.mg x=none)(Y:bootBuiltins x=some (.builtin id))(G:CA X (e::es) g)(S:x ≠ "__name__":=by decide)(M:(x==("__debug__" : Str))=false:=by decide)(hs:yX e=true:=by rfl)(I:es.all yX=true:=by rfl):CE X (.Call (.Name x p) (e::es) [] pos) (tH j g):=⟨JE.weak ⟨WM J N O Y G.h.h S M hs I⟩ fun σ H Q zz=>fX zz fun ρ C R s h q f=>
  ⟨ρ,C,_,s,h,q,fun xs H1 ts C1 q1 rs h1 F=>U xs ts H1 C1 Q R rs h1 q1 fun v H' t C' Z r' h' D=>f v H' t C' Z r' h' (F.trans D)⟩⟩
def mZ{p}(J:CallR X (.type T) r)(U:qe X.K r j)(N:Gl X x)(O:X.mg x=none)(Y:bootBuiltins x=some (.type T))(G:CA X (e::es) g)(S:x ≠ "__name__":=by decide)(M:(x==("__debug__" : Str))=false:=by decide)(hs:yX e=true:=by rfl)(I:es.all yX=true:=by rfl):CE X (.Call (.Name x p) (e::es) [] pos) (tH j g):=⟨JE.weak (sG J N O Y G.h S M hs I) fun σ H Q zz=>fX zz fun ρ C R s h q f=>
  ⟨ρ,C,_,s,h,q,fun xs H1 ts C1 q1 rs h1 F=>U xs ts H1 C1 Q R rs h1 q1 fun v H' t C' Z r' h' D=>f v H' t C' Z r' h' (F.trans D)⟩⟩
def Ru(G:IxR X r)(I:j8 X.K r q)(D:CE X a g)(F:CE X b j)(hs:Qo b):CE X (.Subscript a b pos) (qp q g j):=⟨JE.weak ⟨pe_ix G D.h.h F.h.h hs⟩ fun _ _ _ h=>bN I h⟩
def Ht:kh:=fun E g C=>E.nx g C
def XW(t u:kh):kh:=fun E g C=>t (E.wn (u E)) g C
def lQ:CB X [] Ht:=⟨JB.weak ⟨pss_nil⟩ fun D σ H g=>fX g fun j C E s h q f=> f.nx σ H j C q s h Fw.refl⟩
def kQ(h:CS X st t):CB X [st] t:=⟨⟨pss_one h.h.h⟩⟩
def xQ(h1:CS X st t)(h2:CB X sts u):CB X (st::sts) (XW t u):=⟨JB.weak ⟨WW h1.h.h h2.h.h⟩ fun D σ H j=>fX j fun F C E s h q f=>
 ⟨F,C,_,s,h,q,⟨fun I H' G C' n s' h' g=>⟨G,C',E,s',h',n,f.fw g⟩,f.rt,f.bk,f.ct⟩⟩⟩
def RT(j:gj):kh:=fun E g C=>j g C fun _ C1=>E.nx g C1
def uZ(G:CE X e F)(hs:swapsWith e none pos.line X.env=pure false:=by rfl):CS X (.Expr e pos) (RT F):=⟨JS.weak ⟨ps_expr G.h.h hs⟩ fun D σ H J=>fX J fun j C E s h q f=>
 ⟨j,C,_,s,h,q,fun x H1 M C1 I N h1 g=>f.nx σ H1 j C1 I (s.dm (g.dm h)) h1 g⟩⟩
def Rz(g:gj):kh:=fun E j C=>g j C E.rt
def wQ(F:CE X e g):CS X (.Return (some e) pos) (Rz g):=⟨JS.weak ⟨WY F.h.h⟩ fun D σ H M=>fX M fun N C E s h q f=>
 ⟨N,C,_,s,h,q,fun x H1 G C1 I J h1 j=>f.rt x H1 G C1 I J h1 j⟩⟩
def GZ(t:mj)(u v:kh):kh:=fun E g C=>t g C fun b C1=>if b=true then u E g C1 else v E g C1
def nQ(J:CT X c t)(G:CB X x u)(I:CB X y v):CS X (.If c x y pos) (GZ t u v):=⟨JS.weak ⟨ps_if J.h.h G.h.h I.h.h⟩ fun D σ H M=>fX M fun j C E s h q f=>
 ⟨j,C,_,s,h,q,fun x H1 y C1 F e h1 g=>by
  cases e
  cases x with
  |true=>exact⟨j,C1,E,s.dm (g.dm h),h1,F,f.fw g⟩
  |false=>exact⟨j,C1,E,s.dm (g.dm h),h1,F,f.fw g⟩⟩⟩
def GV(i:Nat)(j:gj):kh:=fun E g C=>j g C fun t C1=>E.nx (g.set i (some t)) C1
def MF{i}(F:X.N.Nodup)(hi:X.N[i]?=some x)(J:Loc X.env.scope x)(G:CE X e j)(hs:swapsWith e (some (.Name x pos')) pos.line X.env=pure false:=by rfl)(I:X.fn x=true\/X.env.scope.names.lookup x=some .local:=by first | exact .inl rfl | exact .inr rfl | assumption):
  CS X (.Assign [.Name x pos'] e pos) (GV i j):=⟨JS.weak ⟨ps_set F hi J G.h.h hs I⟩ fun D σ H O=>fX O fun S C E s h q f=>
 ⟨S,C,_,s,h,q,fun x H1 U C1 M N h1 g=>f.nx _ H1 _ C1 M ((s.dm (g.dm h)).set N i) h1 g⟩⟩
abbrev qt:=PV->jt->CH->(jt->CH->Prop)->Prop
abbrev V6:=List PV->jt->CH->(jt->CH->Prop)->Prop
def YH(K:Dm)(c:qt):TG:=fun v σ H Q=>∃t g C R,Rep K H v t/\gq K H σ g/\d8 K H C/\c t g C R/\∀q H' j C',R j C'->gq K H' q j->d8 K H' C'->Fw H C H' C'->Q q H'
def Lq(K:Dm)(c:V6):TGs:=fun v σ H Q=>∃t g C R,d7 K H v t/\gq K H σ g/\d8 K H C/\c t g C R/\∀q H' j C',R j C'->gq K H' q j->d8 K H' C'->Fw H C H' C'->Q q H'
structure CG(X:Cx)(e:Expr)(c:qt):Prop where
 h:JG X e (YH X.K c)
structure S5(X:Cx)(es:List Expr)(c:V6):Prop where
 h:Ny X es (Lq X.K c)
def JG.weak(h:JG X e t)(w:∀v σ H Q,t' v σ H Q->t v σ H Q):JG X e t':=⟨fun pins s σ H v u Q I r q=>h.h pins s σ H v u Q I r (w v σ H Q q)⟩
def Ny.weak(h:Ny X es t)(w:∀v σ H Q,t' v σ H Q->t v σ H Q):Ny X es t':=⟨fun pins s σ H v u Q I r q=>h.h pins s σ H v u Q I r (w v σ H Q q)⟩
def Gw(i:Nat):qt:=fun t g C Q=>Q (g.set i (some t)) C
def Rr:V6:=fun ts g C Q=>match ts with
 |[]=>Q g C
 |_=>False
def Hs(g:qt)(u:V6):V6:=fun ts j C Q=>match ts with
 |t::r=>g t j C fun q C'=>u r q C' Q
 |[]=>False
def dTup(n:Nat)(u:V6):qt:=fun t g C Q=>match t with
 |.tup ts=>ts.length=n/\u ts g C Q
 |_=>False
def Du{i}(g:X.N.Nodup)(hi:X.N[i]?=some x)(D:Loc X.env.scope x)(j:X.fn x=true\/X.env.scope.names.lookup x=some .local:=by first | exact .inl rfl | exact .inr rfl | assumption):CG X (.Name x pos) (Gw i) :=
 ⟨JG.weak ⟨iD g hi D j⟩ fun v σ H Q F=>Gk F fun t G C R r s h q f=> f _ H _ C q (s.set r i) h Fw.refl⟩
def kG:S5 X [] Rr:=⟨Ny.weak ⟨J5⟩ fun vs σ H Q g=>Gk g fun ts j C R r s h q f=> by
 cases r with
 |nil=>exact⟨rfl,f σ H j C q s h Fw.refl⟩
 |cons _ _=>exact q.elim⟩
def nX(h1:CG X e g)(h2:S5 X es u)(hs:(assignEach (e::es) X.env).map (·.2)=assign e X.env::(assignEach es X.env).map (·.2):=by rfl):S5 X (e::es) (Hs g u):=⟨Ny.weak ⟨rC h1.h.h h2.h.h hs⟩ fun vs σ H Q M=>Gk M fun ts N C R r s h q f=> by
 cases r with
 |nil=>exact q.elim
 |@cons v t vs ts I r =>
  exact⟨v,vs,rfl,t,N,C,_,I,s,h,q,fun Y H' O C' F s' h' j=>⟨ts,O,C',R,r.dm (j.dm h),s',h',F,fun U H2 S C2 G J h2 D=>f U H2 S C2 G J h2 (j.trans D)⟩⟩⟩
def oB{k}(g:X.calm=true)(h:S5 X es u)(j:(assignEach es X.env).length=n:=by rfl)(D:(assignEach es X.env).findIdx? (·.1)=none:=by rfl):CG X (.Tuple es k pos) (dTup n u):=⟨JG.weak ⟨W6 g h.h.h j D⟩ fun v σ H Q I=>Gk I fun t J C R r s h q f=> by
 cases r with
 |@tup a vs ts e r =>
  obtain⟨F,G⟩:=q;exact⟨a,vs,rfl,SqT.of e,by exact r.len▸F,ts,J,C,R,r,s,h,G,f⟩
 |_=>exact q.elim⟩
def Uw(q:gj)(g:qt):kh:=fun E j C=>q j C fun t C1=>g t j C1 E.nx
def tP(I:CE X e F)(J:CG X tg g)(hs:swapsWithSole [tg] e pos.line X.env=pure false:=by rfl)(M:swappedStores [tg] e X.env=pure none:=by rfl)(h1:(assignEach [tg] X.env).map (·.2)=[assign tg X.env]:=by rfl):CS X (.Assign [tg] e pos) (Uw F g):=⟨JS.weak ⟨ps_asg I.h.h J.h.h hs M h1⟩ fun ae σ H Y=>fX Y fun D C E s h q f=>
 ⟨D,C,_,s,h,q,fun x H1 N C1 S U h1 j=>⟨N,D,C1,E.nx,U,s.dm (j.dm h),h1,S,fun ab H' Z C' O s' h' G=>f.nx ab H' Z C' O s' h' (j.trans G)⟩⟩⟩
@[irreducible] def KH:PV->PV->PV->CH->(CH->Prop)->Prop:=fun o i v C Q=>match o,i with
 |.ref p,.int k=>match C p with
  |some (.lst xs)=>match ixN xs.length k with
   |some j=>Q (gQ C p (.lst (xs.set j v)))
   |none=>False
  |_=>False
 |_,_=>False
def TX(D q:gj)(u:PV->PV->PV->CH->(CH->Prop)->Prop):qt:=fun t g C Q=>D g C fun o C1=>q g C1 fun i C2=>u o i t C2 fun j=>Q g j
def rL{O N:gj}(Z:CE X o O)(hi:CE X i N)(Y:∀v,assign (.Subscript o i pos) X.env v=(do
   let I <- holding [v] (eval o X.env)
   let J <- holding [v,I] (eval i X.env)
   standAt pos
   holding [v,I,J] (setItem I J v)
   release [v,I,J] []):=by intro _;rfl):CG X (.Subscript o i pos) (TX O N KH):=⟨JG.weak ⟨pg_sub Z.h.h hi.h.h Wy Y⟩ fun v σ H Q zz=>Gk zz fun t M C R r s h q f=>
 ⟨M,C,_,s,h,q,fun x H1 px C1 q1 rx h1 F=>⟨M,C1,_,s.dm (F.dm h),h1,q1,fun y H2 af C2 g ry h2 G=>by
  have r2:=r.dm ((F.trans G).dm h);have ae:=s.dm ((F.trans G).dm h);unfold KH at g
  split at g
  .next p k =>
   split at g
   .next xs e =>
    split at g
    .next j U =>
     obtain⟨vs,D,S⟩:=h2 p _ e;have ab:=rx.dm (G.dm h1);cases ab;cases ry;refine⟨p,vs,k,j,rfl,rfl,D,by rw[S.len];exact U,?_⟩;exact f σ _ M _ g (ae.dm (iz.mut D rfl _)) (h2.put D rfl ⟨_,mQ,(S.set r2 j).dm (iz.mut D rfl _)⟩) (F.trans (G.trans (Fw.put e _ _)))
    .exact g.elim
   .exact g.elim
  .exact g.elim⟩⟩⟩
def V2(t:mj)(u:kh)(E:jx):Nat->jt->CH->Prop
 |0,_,_=>False
 |n+1,g,C=>t g C fun b C1=>if b=true then u (E.lp (V2 t u E n)) g C1 else E.nx g C1
def M6(t:mj)(u:kh):kh:=fun E g C=>∃n,V2 t u E n g C
def Gz(Z:PassesOwn (model X.prog X.w) X.A X.env X.xe)(Y:CT X c t)(U:CB X S u):CS X (.While c S [] pos) (M6 t u):=⟨JS.weak ⟨WX Z Y.h.h U.h.h⟩ fun ae σ H ⟨ρ,C,E,s,h,⟨n,q⟩,f⟩=>by
 refine⟨fun m j H'=>∃g C',gq X.K H' j g/\d8 X.K H' C'/\Fw H C H' C'/\V2 t u E m g C',⟨n,ρ,C,s,h,Fw.refl,q⟩,?_⟩;rintro m ab H1 ⟨M,C1,J,h1,I,N⟩
 cases m with
 |zero=>exact N.elim
 |succ m =>
  refine⟨M,C1,_,J,h1,N,fun b H2 b' C2 O e h2 F=>?_⟩;cases e
  cases b with
  |true =>
   exact(Ah rfl)▸⟨fun j H'=>∃g C',gq X.K H' j g/\d8 X.K H' C'/\Fw H C H' C'/\V2 t u E m g C',fun j H' z=>⟨m,Bm m,z⟩,
    M,C2,_,J.dm (F.dm h1),h2,O,⟨fun j H' g C' G s' h' D=>⟨g,C',s',h',I.trans (F.trans D),G⟩,fun v H' t C' G r' h' D=>f.rt v H' t C' G r' h' (I.trans (F.trans D)),
     fun j H' g C' G s' h' D=>f.nx j H' g C' G s' h' (I.trans (F.trans D)),fun j H' g C' G s' h' D=>⟨g,C',s',h',I.trans (F.trans D),G⟩⟩⟩
  |false =>
   exact(Af AO)▸f.nx ab H2 M C2 O (J.dm (F.dm h1)) h2 (I.trans F)⟩
def iG(g:qt)(u:kh)(E:jx):List PV->jt->CH->Prop
 |[],j,C=>E.nx j C
 |x::r,j,C=>g x j C fun q C1=>u (E.lp (iG g u E r)) q C1
structure X0(K:Dm)(H:Hp)(J:It)(ps:List PV):Prop where
 go:∀i H',i < ps.length->iz H H'->J.go i H'
 yl:∀i H' x H'',iz H H'->J.yld i H' x H''->H''=H'/\∀t,ps[i]?=some t->Rep K H' x t
 st:∀H',iz H H'->J.stop ps.length H'
def vN{K}(j:X0 K H J ps)(s:gq K H σ ρ)(h:d8 K H C)(q:iG g u E ps ρ C)(f:su K H C E ae):
  ∃W:Nat->Nat->St->Hp->Prop,(∃m,W 0 m σ H)/\∀i m σ H,W i m σ H ->
   (J.stop i H/\ae.nx σ H)\/(J.go i H/\∃N,(∀D H',N D H'->∃m',m' < m/\W (i+1) m' D H')/\∀x H',J.yld i H x H'->YH K g x σ H' fun aj H2=>YG K u { ae with nx:=N,ct:=N,bk:=ae.nx } aj H2):=by
 refine⟨fun i m D H'=>m=ps.length - i/\i<=ps.length/\∃O C',gq K H' D O/\d8 K H' C'/\Fw H C H' C'/\iG g u E (ps.drop i) O C',⟨ps.length,rfl,AX _,ρ,C,s,h,Fw.refl,q⟩,?_⟩;rintro i m ai H1 ⟨rfl,hi,ah,C1,ag,h1,S,q1⟩;have k1:=S.dm h
 by_cases ab:i < ps.length
 .refine .inr ⟨j.go i H1 ab k1,fun D H'=>∃O C',gq K H' D O/\d8 K H' C'/\Fw H C H' C'/\iG g u E (ps.drop (i+1)) O C',fun D H' z=>⟨ps.length - (i+1),by omega,rfl,ab,z⟩,fun x H2 y=>?_⟩
  obtain⟨rfl,y⟩:=j.yl i H1 x H2 k1 y;rw[Ao ab] at q1
  exact⟨ps[i],ah,C1,_,y _ (AK ab),ag,h1,q1,fun D H' O C' q' s' h' f'=>⟨O,C',_,s',h',q',⟨fun af U Z F M Y I G=>⟨Z,F,Y,I,S.trans (f'.trans G),M⟩,fun v U t F M r3 I G=>f.rt v U t F M r3 I (S.trans (f'.trans G)),
   fun af U Z F M Y I G=>f.nx af U Z F M Y I (S.trans (f'.trans G)),fun af U Z F M Y I G=>⟨Z,F,Y,I,S.trans (f'.trans G),M⟩⟩⟩⟩
 .have e:i=ps.length:=by lia
  subst e;rw[Bn] at q1;exact .inl ⟨j.st H1 k1,f.nx ai H1 ah C1 q1 ag h1 S⟩
def xI{K}{a}(h:SqT K H a vs)(r:d7 K H vs ts):X0 K H (Itt K a) ts where
 go:=fun i H' l k=>⟨vs,vs[i]'(by rwa [r.len]),SqT.dm h k,AK _⟩
 yl:=fun i H' x q k y=>⟨y.1,fun t e=>by
  obtain⟨v,g,j⟩:=((r.dm k).get e);have:=y.2 vs (SqT.dm h k)
  rw[g] at this;cases this;exact j⟩
 st:=fun H' k=>⟨vs,SqT.dm h k,by exact r.len▸AH _⟩
def Pa{K}{a}(h:Fz K H a vs)(r:d7 K H vs ts):X0 K H (Itl K a) ts where
 go:=fun i H' l k=>⟨vs,vs[i]'(by rwa [r.len]),(h.dm k).sq,AK _⟩
 yl:=fun i H' x q k y=>⟨y.1,fun t e=>by
  obtain⟨v,g,j⟩:=((r.dm k).get e);have:=y.2 vs (h.dm k).sq
  rw[g] at this;cases this;exact j⟩
 st:=fun H' k=>⟨vs,(h.dm k).sq,by exact r.len▸AH _⟩
def YQ{K}: X0 K H (Itr 0 n) ((List.range n).map fun k=>PV.int (k:Nat)) where
 go:=fun i H' l k=>by rwa [AB,An] at l
 yl:=fun i H' x g k y=>⟨y.1,fun t e=>by
  rw[y.2];rw[Am] at e
  cases z:(List.range n)[i]? with
  |none=>rw[z] at e;cases e
  |some w =>
   rw[z] at e;cases e;have:=AU.mp z;obtain⟨l,e⟩:=this;rw[List.getElem_range] at e;subst e;rw[Int.zero_add]
   exact .int _⟩
 st:=fun H' k=>by rw[AB,An];exact AH _
@[irreducible] def rE(q:gj)(g:qt)(u:kh):kh:=fun E j C=>q j C fun t C1=>match t with
 |.tup xs=>iG g u E xs j C1
 |.kt xs=>iG g u E xs j C1
 |_=>False
def jG{tg F:Expr}{I:List Stmt}{J:gj}{g:qt}{u:kh}(S:PassesOwn (model X.prog X.w) X.A X.env X.xe)(N:X.calm=true)(hi:CE X F J)(O:CG X tg g)(M:CB X I u)(hs:∀x,foldedSetIterable F X.env x=pure x:=by intro _;rfl):CS X (.For tg F I [] pos) (rE J g u):=⟨JS.weak ⟨Zo S N (W5 hi.h.h) O.h.h M.h.h hs⟩ fun D σ H Y=>fX Y fun Z C E s h q f=> by
 unfold rE at q
 exact⟨Z,C,_,s,h,q,fun x H1 px C1 G U h1 j=>by
  cases U with
  |@tup a vs ts e r=>exact⟨a,rfl,⟨vs,SqT.of e⟩,vN (xI (SqT.of e) r) (s.dm (j.dm h)) h1 G (f.fw j)⟩
  |@kt a vs ts e r=>exact⟨a,rfl,⟨vs,e⟩,vN (xI e r) (s.dm (j.dm h)) h1 G (f.fw j)⟩
  |_=>exact G.elim⟩⟩
def RP(D:qu)(g:qt)(u:kh):kh:=fun E q C=>D q C fun ts C1=>match ts with
 |[.int j]=>-(2 ^ 62)<=j/\j < 2 ^ 62/\iG g u E ((List.range j.toNat).map fun k=>PV.int (k:Nat)) q C1
 |_=>False
def mL{tg:Expr}{F:List Stmt}{G:qu}{g:qt}{u:kh}{p J:Pos}(Z:PassesOwn (model X.prog X.w) X.A X.env X.xe)(O:X.calm=true)(U:Gl X "range")(Y:X.mg "range" = none)(M:CA X [a] G)(S:CG X tg g)(N:CB X F u)(ab:yX a=true:=by rfl)(hs:∀x,foldedSetIterable (.Call (.Name "range" p) [a] [] J) X.env x=pure x:=by intro _;rfl):CS X (.For tg (.Call (.Name "range" p) [a] [] J) F [] pos) (RP G g u):=⟨JS.weak ⟨Zo Z O (cO U Y M.h.h (tZ ab)) S.h.h N.h.h hs⟩ fun ae σ H zz=>fX zz fun ρ C E s h q f=>
 ⟨ρ,C,_,s,h,q,fun xs H1 ts C1 D rs h1 I=>by
  split at D
  .next j =>
   cases rs with
   |cons r0 r =>
    cases r;cases r0;exact⟨j,rfl,D.1,D.2.1,vN YQ (s.dm (I.dm h)) h1 D.2.2 (f.fw I)⟩
  .exact D.elim⟩⟩
noncomputable def aB(a:Addr)(g:qt)(u:kh)(E:jx):Nat->Nat->jt->CH->Prop
 |0,_,_,_=>False
 |n+1,i,j,C=>match C a with
  |some (.lst xs)=>match xs[i]? with
   |some x=>g x j C fun q C1=>u (E.lp (aB a g u E n (i+1))) q C1
   |none=>E.nx j C
  |_=>False
def RQ(q:gj)(g:qt)(u:kh):kh:=fun E j C=>q j C fun t C1=>match t with
 |.ref a=>∃n,aB a g u E n 0 j C1
 |.fz xs=>iG g u E xs j C1
 |_=>False
def oM{tg ae:Expr}{ag:List Stmt}{ah:gj}{g:qt}{u:kh}(hp:PassesOwn (model X.prog X.w) X.A X.env X.xe)(hc:X.calm=true)(hi:CE X ae ah)(hg:CG X tg g)(hb:CB X ag u)(hs:∀x,foldedSetIterable ae X.env x=pure x:=by intro _;rfl):CS X (.For tg ae ag [] pos) (RQ ah g u):=⟨JS.weak ⟨Zo hp hc (J4 hi.h.h) hg.h.h hb.h.h hs⟩ fun aq σ H zz=>fX zz fun ρ C E s h q f=>
 ⟨ρ,C,_,s,h,q,fun x H1 px C1 j rx h1 O=>by
  cases rx with
  |@fz a vs ts e r=>exact⟨a,rfl,⟨vs,e.sq⟩,vN (Pa e r) (s.dm (O.dm h)) h1 j (f.fw O)⟩
  |ref a =>
   obtain⟨n,j⟩:=j
   have ex:∃ys,SqL X.K H1 a ys:=by
    cases n with
    |zero=>exact j.elim
    |succ n =>
     unfold aB at j
     split at j
     .next xs e=>obtain⟨vs,S,_⟩:=h1 a _ e;exact⟨vs,SqL.of S⟩
     .exact j.elim
   refine⟨a,rfl,ex,fun i m ab H'=>∃M C',gq X.K H' ab M/\d8 X.K H' C'/\Fw H1 C1 H' C'/\aB a g u E m i M C',⟨n,ρ,C1,s.dm (O.dm h),h1,Fw.refl,j⟩,?_⟩;rintro i m ao H2 ⟨ak,C2,aj,h2,U,I⟩
   cases m with
   |zero=>exact I.elim
   |succ m =>
    unfold aB at I
    split at I
    .next xs e =>
     obtain⟨vs,S,rv⟩:=h2 a _ e
     split at I
     .next x ex =>
      obtain⟨v,ai,rx⟩:=rv.get ex;refine .inr ⟨⟨vs,v,SqL.of S,ai⟩,fun ab H'=>∃M C',gq X.K H' ab M/\d8 X.K H' C'/\Fw H1 C1 H' C'/\aB a g u E m (i+1) M C',fun ab H' z=>⟨m,Bm m,z⟩,fun y N hy=>?_⟩;obtain⟨rfl,hy⟩:=hy;have:=hy vs (SqL.of S);rw[ai] at this;cases this
      exact⟨x,ak,C2,_,rx,aj,h2,I,fun ab H' M C' q' s' h' f'=>⟨M,C',_,s',h',q',⟨fun af N Z D J Y G F=>⟨Z,D,Y,G,U.trans (f'.trans F),J⟩,fun v N t D J r3 G F=>f.rt v N t D J r3 G (O.trans (U.trans (f'.trans F))),
       fun af N Z D J Y G F=>f.nx af N Z D J Y G (O.trans (U.trans (f'.trans F))),fun af N Z D J Y G F=>⟨Z,D,Y,G,U.trans (f'.trans F),J⟩⟩⟩⟩
     .next ex =>
      refine .inl ⟨⟨vs,SqL.of S,?_⟩,f.nx ao H2 ak C2 I aj h2 (O.trans U)⟩;rw[rv.len];exact DB.mp ex
    .exact I.elim
  |_=>exact j.elim⟩⟩
def xJ(t:mj)(c:gj)(g:jt)(Q:K1):List PV->List PV->CH->Prop
 |[],acc,C=>∀p,C p=none->Q (.ref p) (gQ C p (.lst acc))
 |x::r,acc,C=>t (some x::g) C fun b C1=>if b=true then c (some x::g) C1 fun y C2=>acc.length < sizeLine/\xJ t c g Q r (acc++[y]) C2 else xJ t c g Q r acc C1
structure CF(X:Cx)(ifs:List Expr)(c:mj):Prop where
 h:JF X ifs (bJ X.K gP c)
def iP:mj:=fun _ C Q=>Q true C
def JF.weak(h:JF X g t)(w:∀σ H Q,t' σ H Q->t σ H Q):JF X g t':=⟨fun pins s σ H Q I q=>h.h pins s σ H Q I (w σ H Q q)⟩
def xK:CF X [] iP:=⟨JF.weak ⟨W3⟩ fun σ H Q g=>fX g fun j C R s h q f=> f true H true C q rfl h Fw.refl⟩
def GI(h:CT X c t):CF X [c] t:=⟨⟨W2 h.h.h⟩⟩
def Do{K}{c}{Q:VK}(j:X0 K H J ps)(s:gq K H σ ρ)(h:d8 K H C)(q:xJ t c ρ R ps [] C)(h0:d8 K H0 C0)(ag:Fw H0 C0 H C)(f:∀v H' p C',R p C'->Rep K H' v p->d8 K H' C'->Fw H0 C0 H' C'->Q v H')(F:H D=none):
  ∃W:Nat->Nat->List V->Hp->Prop,(∃m,W 0 m [] (upd H D (.lst [])))/\∀i m ys H,W i m ys H ->
   (J.stop i H/\Q (.ref D) H)\/(J.go i H/\∀x H',J.yld i H x H'->bJ K gP t (some x::σ) H' fun b H2=>
    if b=true then bJ K (Rep K) c (some x::σ) H2 fun y H3=>H3 D=some (.lst ys)/\ys.length < sizeLine/\∃M,M < m/\W (i+1) M (ys++[y]) (upd H3 D (.lst (ys++[y])))
    else ∃M,M < m/\W (i+1) M ys H2):=by
 refine⟨fun i m ys H'=>m=ps.length - i/\i<=ps.length/\∃acc C',H' D=some (.lst ys)/\C' D=none/\d7 K H' ys acc/\d8 K H' C'/\Fw H C H' C'/\xJ t c ρ R (ps.drop i) acc C',
  ⟨ps.length,rfl,AX _,[],C,mQ,h.fresh F,.nil,h.new F _,Fw.new F _,q⟩,?_⟩
 rintro i m ys H1 ⟨rfl,hi,acc,C1,e1,n1,r1,h1,N,Z⟩;have I:=N.dm h
 by_cases G:i < ps.length
 .refine .inr ⟨j.go i H1 G I,fun x H2 y=>?_⟩
  obtain⟨rfl,y⟩:=j.yl i H1 x H2 I y;have rx:=y _ (AK G);rw[Ao G] at Z;refine⟨some ps[i]::ρ,C1,_,.cons rx (s.dm I),h1,Z,fun b H3 b' C3 q3 e h3 O=>?_⟩;cases e;obtain⟨U,e3⟩:=O D (by rw[n1];rfl) (by lia);rw[e1] at e3;rw[n1] at U;have S:=O.dm h1
  cases b with
  |true =>
   refine⟨some ps[i]::ρ,C3,_,.cons (rx.dm S) ((s.dm I).dm S),h3,q3,fun v H4 p C4 q4 r4 h4 ab=>uL (ab D (by rw[U];rfl) (by lia)) fun n4 e4=>?_⟩;rw[e3] at e4;rw[U] at n4;have m4:iz H4 (upd H4 D (.lst (ys++[v]))):=iz.mut e4 rfl _;refine⟨e4,by rw[r1.len];exact q4.1,ps.length - (i+1),by lia,rfl,G,acc++[p],C4,mQ,n4,?_,?_,?_,q4.2⟩
   .exact (((r1.dm S).dm (ab.dm h3)).append (.cons r4 .nil)).dm m4
   .intro a o g
    have ae:a≠D:=fun z=>by subst z;rw[n4] at g;cases g
    exact(h4 a o g).dm m4 (fQ ae)
   .intro a g Y
    have ae:a≠D:=fun z=>Y (z▸F);exact uL ((N.trans (O.trans ab)) a g Y) fun x1 x2=>⟨x1,(fQ ae).trans x2⟩
  |false =>
   exact⟨ps.length - (i+1),by lia,rfl,G,acc,C3,e3,U,r1.dm S,h3,N.trans O,q3⟩
 .have e:i=ps.length:=by lia
  subst e;rw[Bn] at Z;refine .inl ⟨j.st H1 I,f (.ref D) H1 (.ref D) _ (Z D n1) (.ref D) ?_ ?_⟩
  .intro a o g
   by_cases z:a=D
   .subst z;rw[jQ] at g;cases g;exact⟨ys,e1,r1⟩
   .rw [yQ z] at g;exact h1 a o g
  .intro a g Y
   obtain⟨x1,x2⟩:=ag a g Y;have af:H a≠none:=by rwa [x2]
   obtain⟨y1,y2⟩:=N a (by rwa [x1]) af;exact⟨(yQ (show a≠D from fun z=>af (z▸F))).trans (y1.trans x1),y2.trans x2⟩
structure CI(X:Cx)(tg it:Expr)(wi:TI)(c:jt->CH->(List PV->CH->Prop)->Prop):Prop where
 j:JI X tg it wi
 w:∀σ H ρ C R Q,gq X.K H σ ρ->d8 X.K H C->c ρ C R->(∀J H' ps C',R ps C'->X0 X.K H' J ps->d8 X.K H' C'->Fw H C H' C'->Q J H')->wi σ H Q
def Uk(g:gj):jt->CH->(List PV->CH->Prop)->Prop:=fun j C Q=>g j C fun t C1=>match t with
 |.tup xs=>Q xs C1
 |.kt xs=>Q xs C1
 |_=>False
def jD(h:CE X e j):CI X tg e (iTup X.K (bJ X.K (Rep X.K) j)) (Uk j):=⟨⟨W5 h.h.h⟩,fun σ H G C R Q s h q f=>⟨G,C,_,s,h,q,fun x H1 I C1 g F h1 D=>by
  cases F with
  |@tup a vs ts e r=>exact⟨a,rfl,⟨vs,SqT.of e⟩,f _ H1 ts C1 g (xI (SqT.of e) r) h1 D⟩
  |@kt a vs ts e r=>exact⟨a,rfl,⟨vs,e⟩,f _ H1 ts C1 g (xI e r) h1 D⟩
  |_=>exact g.elim⟩⟩
def Um(g:qu):jt->CH->(List PV->CH->Prop)->Prop:=fun q C Q=>g q C fun ts C1=>match ts with
 |[.int j]=>-(2 ^ 62)<=j/\j < 2 ^ 62/\Q ((List.range j.toNat).map fun k=>PV.int (k:Nat)) C1
 |_=>False
def xS(I:Gl X "range")(J:X.mg "range" = none)(G:CA X [a] D)(M:yX a=true:=by rfl):CI X tg (.Call (.Name "range" p) [a] [] S) (iRng1 (bJ X.K (d7 X.K) D)) (Um D):=⟨⟨cO I J G.h.h (tZ M)⟩,fun σ H O C R Q s h q f=>⟨O,C,_,s,h,q,fun xs H1 ts C1 g rs h1 F=>by
  split at g
  .next j =>
   cases rs with
   |cons N r =>
    cases r;cases N;exact⟨j,rfl,g.1,g.2.1,f _ H1 _ C1 g.2.2 YQ h1 F⟩
  .exact g.elim⟩⟩
def G3(j:jt->CH->(List PV->CH->Prop)->Prop)(t:mj)(c:gj):gj:=fun g C Q=>j g C fun ps C1=>xJ t c g Q ps [] C1
def eO{c}(hi:CI X tg it M F){Q:VK}(h:bJ X.K (Rep X.K) (G3 F t c) σ H Q):QA M (bJ X.K gP t) (bJ X.K (Rep X.K) c) σ H Q :=fX h fun N C R s h q f=>hi.w σ H N C _ _ s h q fun J H' ps C' I j h' g D G=>Do j (s.dm (g.dm h)) h' I h g f G
def sV{J G:Expr}{x:Str}{N:Pos}{M:List Expr}{F:Scope}{Z:TI}{I:jt->CH->(List PV->CH->Prop)->Prop}{t:mj}{c:gj}(S:X.calm=true)(O:(x::X.N).Nodup)(K:∃g,vM X x F g)(hi:CI X (.Name x N) G Z I)(Y:∀g q C D j,CF (nK X x F g q C D j) M t)(U:∀g q C D j,CE (nK X x F g q C D j) J c)(hs:∀v,foldedSetIterable G X.env v=pure v:=by intro _;rfl):CE X (.ListComp J [⟨.Name x N,G,M,0⟩] F pos) (G3 I t c) :=
 ⟨JE.weak (gR S O K hi.j (fun g q C D j=>(Y g q C D j).h) (fun g q C D j=>(U g q C D j).h) hs) fun _ _ _ h=>eO hi h⟩
end
def yP(N:List Str)(ts:List PV):jt:=ts.map some++List.replicate (N.length - ts.length) none
theorem mO{K}: ∀n,gq K H (List.replicate n none) (List.replicate n none)
 |0=>.nil
 |n+1=>.cons trivial (mO n)
theorem QF{K}(s:gq K H σ g):∀{vs}{ts},d7 K H vs ts->gq K H (vs.map some++σ) (ts.map some++g)
 |_,_,.nil=>s
 |_,_,.cons h r=>.cons h (QF s r)
def Zd{K}(r:d7 K H vs ts):gq K H (L2.start N vs) (yP N ts):=by
 delta L2.start yP
 exact r.len▸QF (mO _) r
section
variable {P:Program}{w:World}{K:Dm}{mg:Str->Option Value}{base:Heap}
def Fun.UW{st}(F:Fun K x J st f fd)(S:FnScope N ps (lX st))(Z:∀ts C R,G ts C R->ts.length=ps.length)(O:∀D A I s H E,Room k (A.deeper (envOfC J (lX st) s.heap.objs.size f D)) ->
   ∃c,CB (mI CX0 P w K mg base N J (lX st) f D A I s H E).nox (qV st) c/\∀ts C R,G ts C R->c (.go R) (yP N ts) C):FnOk P w K mg base CX0 (k+1) f fd ps (p7 K G):=by
 refine F.okJ S ?_ ?_
 .rintro vs H Q E ⟨ts,C,R,r,h,g,f⟩
  exact r.len▸Z ts C R g
 .rintro D A I s H vs Q E Y ⟨ts,C,R,r,h,g,f⟩
  exact oQ (O D A I s H E Y) fun c U q=>⟨_,U.h,yP N ts,C,_,Zd r,h,q ts C R g,⟨fun ae H' ab C' j s' h' M=>f .non H' .non C' j .non h' M,f,fun _ _ _ _ j _ _ _=>j.elim,fun _ _ _ _ j _ _ _=>j.elim⟩⟩
end
section
variable {X:Cx}{a b c e o i:Expr}{es:List Expr}{pos:Pos}
@[irreducible] def cI(g:Int->Int->PV):m9:=fun x y C Q=>match x,y with
 |.int i,.int j=>Q (g i j) C
 |_,_=>False
def Nu(P:Int->Int->Prop)(g:Int->Int->PV):m9:=fun x y C Q=>match x,y with
 |.int i,.int j=>P i j/\Q (g i j) C
 |_,_=>False
def Ky{K}(D:∀i j H,Rep K H (g i j) (g' i j)):j8 K (rI0 g) (cI g'):=fun x y I J H C Q R F G h q f=>by
 delta cI at q
 split at q
 .cases F;cases G
  exact⟨_,_,rfl,rfl,f _ H _ C q (D _ _ _) h Fw.refl⟩
 .exact q.elim
def lI{K}(D:∀i j H,Rep K H (g i j) (g' i j)):j8 K (rI P g) (Nu P g'):=fun x y I J H C Q R F G h q f=>by
 delta Nu at q
 split at q
 .cases F;cases G
  exact⟨_,_,rfl,rfl,q.1,f _ H _ C q.2 (D _ _ _) h Fw.refl⟩
 .exact q.elim
def vJ{K}:j8 K (rI0 fun i j=>.int (i - j)) (cI fun i j=>.int (i - j)):=Ky fun _ _ _=>.int _
def eM{K}:j8 K (rI CMul fun i j=>.int (i * j)) (Nu CMul fun i j=>.int (i * j)):=lI fun _ _ _=>.int _
def XM{K}:j8 K (rI (fun _ j=>0 < j/\j < 18446744073709551616) fun i j=>.int (i / j)) (Nu (fun _ j=>0 < j/\j < 18446744073709551616) fun i j=>.int (i / j)):=lI fun _ _ _=>.int _
def xG{K}:j8 K (rI (fun _ j=>0 < j) fun i j=>.int (i % j)) (Nu (fun _ j=>0 < j) fun i j=>.int (i % j)):=lI fun _ _ _=>.int _
def pI{K}:j8 K (rI CPow fun i j=>.int (i ^ j.toNat)) (Nu CPow fun i j=>.int (i ^ j.toNat)):=lI fun _ _ _=>.int _
def sY{K}:j8 K (rI0 fun i j=>.bl (decide (i < j))) (cI fun i j=>.bl (decide (i < j))):=Ky fun _ _ _=>.bl _
def dI{K}:j8 K (rI0 fun i j=>.bl (decide (i<=j))) (cI fun i j=>.bl (decide (i<=j))):=Ky fun _ _ _=>.bl _
def uJ{K}:j8 K (rI0 fun i j=>.bl (decide (j < i))) (cI fun i j=>.bl (decide (j < i))):=Ky fun _ _ _=>.bl _
def RM:PV->CH->K1->Prop:=fun x C Q=>match x with
 |.int i=>Q (.int (-i)) C
 |_=>False
def zG{K}:Cun K (rU fun i=>.int (-i)) RM:=fun x j H C Q R g h q f=>by
 delta RM at q
 split at q
 .cases g;exact⟨_,rfl,f _ H _ C q (.int _) h Fw.refl⟩
 .exact q.elim
def yI(s:Same H H'):Fw H C H' C:=fun a c n=>⟨rfl,by
 cases e:H a with
 |none=>exact absurd e n
 |some o=>exact s a o e⟩
def rP{K}(h:d8 K H C)(s:Same H H'):d8 K H' C:=fun a o c=>oQ ((h a o c).mut) fun u e _=>(h a o c).dm (fun b v _ e=>s b v e) ((s a u e).trans e.symm)
@[irreducible] def pS:m9:=fun x y C Q=>match x,y with
 |.int i,.int j=>Q (.int (i+j)) C
 |.str i,.str j=>i.length+j.length<=sizeLine/\Q (.str (i++j)) C
 |.tup xs,.tup ys=>xs.length+ys.length<=sizeLine/\Q (.tup (xs++ys)) C
 |.ref a,.ref b=>match C a,C b with
  |some (.lst xs),some (.lst ys)=>xs.length+ys.length<=sizeLine/\∀p,C p=none->Q (.ref p) (gQ C p (.lst (xs++ys)))
  |_,_=>False
 |_,_=>False
abbrev Hb:R2:=fun x y H Q=>rI0 (fun i j=>.int (i+j)) x y H Q\/((∃i j,x=.str i/\y=.str j/\i.length+j.length<=sizeLine/\Q (.str (i++j)) H)\/(Ha x y H Q\/rCat x y H Q))
def pX:OpR X (binaryOp .Add) Hb:=OpR.or op_add (OpR.or Zu (OpR.or v6 op_cat))
def dX{K}:j8 K Hb pS:=fun x y Y Z H C Q R j D h q f=>by
 delta pS at q
 split at q
 .cases j;cases D
  exact .inl ⟨_,_,rfl,rfl,f _ H _ C q (.int _) h Fw.refl⟩
 .cases j;cases D
  exact .inr (.inl ⟨_,_,rfl,rfl,q.1,f _ H _ C q.2 (.str _) h Fw.refl⟩)
 .cases j with
  |tup e r=>cases D with
   |tup J F =>
    refine .inr (.inr (.inl ⟨_,_,_,_,rfl,rfl,e,J,by rw[r.len,F.len];exact q.1,fun z H' s U _=>?_⟩));exact f _ H' _ C q.2 (.tup U ((r.append F).dm fun b v _ e=>s b v e)) (rP h s) (yI s)
 .split at q
  .next xs ys M N =>
   refine oQ (h _ _ M) fun vs S I=>oQ (h _ _ N) fun ab O G=>?_;cases j;cases D
   refine .inr (.inr (.inr ⟨_,_,_,_,rfl,rfl,S,O,by rw[I.len,G.len];exact q.1,fun p g=>?_⟩));exact f _ _ _ _ (q.2 p (h.fresh g)) (.ref p) (h.lay g ⟨_,mQ,(I.append G).dm (iz.new g _)⟩) (Fw.lay g _ _)
  .exact q.elim
 .exact q.elim
noncomputable def sEq:PV->PV->Option Bool
 |.non,.non=>some true | .non,.int _=>some false | .int _,.non=>some false | .non,.bl _=>some false | .bl _,.non=>some false | .non,.str _=>some false | .str _,.non=>some false
 |.int i,.int j=>some (decide (i=j)) | .bl b,.bl c=>some (decide (b=c)) | .str x,.str y=>some (decide (x=y))
 |.int _,.str _=>some false | .str _,.int _=>some false | .bl _,.str _=>some false | .str _,.bl _=>some false
 |_,_=>none
@[irreducible] def Nv(k:Bool->Bool):m9:=fun x y C Q=>match sEq x y with
 |some b=>Q (.bl (k b)) C
 |none=>False
def toV:PV->Option V
 |.non=>some .non | .bl b=>some (.bl b) | .int i=>some (.int i) | .str x=>some (.str x) | _=>none
def JL{K}(r:Rep K H x g)(e:toV g=some v):x=v:=by
 cases r<;>cases e<;>rfl
def ux{b}(e:sEq g j=some b):∃v u,toV g=some v/\toV j=some u/\scal v u=true/\decide (v=u)=b:=by
 cases g<;>cases j<;>cases e<;>exact⟨_,_,rfl,rfl,rfl,by simp⟩
def JP{K}{b}(F:Rep K H x q)(G:Rep K H y D)(e:sEq q D=some b):scal x y=true/\decide (x=y)=b:=by
 refine cT (ux e) fun v u h1 h2 g j=>?_;cases JL F h1;cases JL G h2;exact⟨g,j⟩
def sQ{K}:j8 K rEq (Nv id):=fun x y D F H C Q R g j h q f=>by
 delta Nv at q
 split at q
 .next b e =>
  obtain⟨h1,h2⟩:=JP g j e;exact⟨h1,h2▸f _ H _ C q (.bl _) h Fw.refl⟩
 .exact q.elim
def mU{K}:j8 K rNe (Nv not):=fun x y D F H C Q R g j h q f=>by
 delta Nv at q
 split at q
 .next b e =>
  obtain⟨h1,h2⟩:=JP g j e;exact⟨h1,h2▸f _ H _ C q (.bl _) h Fw.refl⟩
 .exact q.elim
noncomputable def ZT:PV->Bool
 |.non=>true
 |_=>false
def Uo(k:Bool->Bool):m9:=fun x y C Q=>match y with
 |.non=>Q (.bl (k (ZT x))) C
 |_=>False
def Xn{K}(r:Rep K H x g):decide (x=.non)=ZT g:=by
 cases r<;>simp[ZT]
def fL{K}:j8 K (fun x y H Q=>y=.non/\Q (.bl (decide (x=.non))) H) (Uo id):=fun x y D F H C Q R g j h q f=>by
 cases j with
 |non=>exact⟨rfl,by exact(Xn g)▸f _ H _ C q (.bl _) h Fw.refl⟩
 |_=>exact q.elim
def GB{K}:j8 K (fun x y H Q=>y=.non/\Q (.bl (!decide (x=.non))) H) (Uo not):=fun x y D F H C Q R g j h q f=>by
 cases j with
 |non=>exact⟨rfl,by exact(Xn g)▸f _ H _ C q (.bl _) h Fw.refl⟩
 |_=>exact q.elim
def qz(xs:List PV)(i:Int)(C:CH)(Q:K1):Prop:=match atI xs i with
 |some v=>Q v C
 |none=>False
@[irreducible] def qw:m9:=fun x y C Q=>match x,y with
 |.tup xs,.int i=>qz xs i C Q
 |.kt xs,.int i=>qz xs i C Q
 |.fz xs,.int i=>qz xs i C Q
 |.ref a,.int i=>match C a with
  |some (.lst xs)=>qz xs i C Q
  |_=>False
 |.str z,.int i=>z.length<=sizeLine/\match atI z.cps.toList i with
  |some c=>Q (.str ⟨#[c]⟩) C
  |none=>False
 |_,_=>False
theorem d7.at{K}{i}(r:d7 K H vs ts)(e:atI ts i=some t):∃v,atI vs i=some v/\Rep K H v t:=by
 delta atI at e ⊢
 rw[r.len]
 cases z:ixN ts.length i with
 |none=>rw[z] at e;cases e
 |some j =>
  rw[z] at e;exact r.get e
def Qk{K}{i}(r:d7 K H vs ts)(q:qz ts i C R):∃v t,atI vs i=some v/\Rep K H v t/\R t C:=by
 delta qz at q
 split at q
 .next t e =>
  exact oQ (r.at e) fun v g j=>⟨v,t,g,j,q⟩
 .exact q.elim
def MJ{K}:j8 K (rIx K) qw:=fun x y N O H C Q R D F h q f=>by
 delta qw at q
 split at q
 .cases F
  cases D with
  |tup e r =>
   obtain⟨v,t,g,j,q⟩:=Qk r q;exact .inr (.inl ⟨_,_,_,v,rfl,rfl,SqT.of e,g,f _ H _ C q j h Fw.refl⟩)
 .cases F
  cases D with
  |kt e r =>
   obtain⟨v,t,g,j,q⟩:=Qk r q;exact .inr (.inl ⟨_,_,_,v,rfl,rfl,e,g,f _ H _ C q j h Fw.refl⟩)
 .cases F
  cases D with
  |fz e r =>
   obtain⟨v,t,g,j,q⟩:=Qk r q;exact .inl ⟨_,_,_,v,rfl,rfl,e.sq,g,f _ H _ C q j h Fw.refl⟩
 .cases F
  split at q
  .next xs e =>
   obtain⟨vs,I,M⟩:=(h _ _ e);cases D;exact kZ (Qk M q) fun v t g j q=>.inl ⟨_,_,_,v,rfl,rfl,SqL.of I,g,f _ H _ C q j h Fw.refl⟩
  .exact q.elim
 .cases F;cases D
  obtain⟨J,G⟩:=q
  split at G
  .next c e=>exact .inr (.inr ⟨_,_,c,rfl,rfl,J,e,f _ H _ C G (.str _) h Fw.refl⟩)
  .exact G.elim
 .exact q.elim
def yh:IxR X (rIx X.K):=ix_seq
@[irreducible] def xN:GC:=fun ts C Q=>match ts with
 |[.tup xs]=>Q (.int xs.length) C
 |[.kt xs]=>Q (.int xs.length) C
 |[.fz xs]=>Q (.int xs.length) C
 |[.ref a]=>match C a with
  |some (.lst xs)=>Q (.int xs.length) C
  |some (.dK kvs)=>Q (.int kvs.length) C
  |_=>False
 |[.str z]=>z.length<=sizeLine/\Q (.int z.length) C
 |_=>False
abbrev FW(K:Dm):List V->Hp->VK->Prop:=fun xs H Q=>(∃p ys,xs=[.ref p]/\(SqL K H p ys\/SqT K H p ys)/\Q (.int ys.length) H)\/((∃a kvs,xs=[V.ref a]/\H a=some (.dK kvs)/\Q (.int kvs.length) H)\/∃z,xs=[.str z]/\z.length<=sizeLine/\Q (.int z.length) H)
def V1:CallR X (.builtin "len") (FW X.K):=CallR.or Qe (CallR.or V0 Qd)
def oX{K}(r:d7 K H xs [t]):∃v,xs=[v]/\Rep K H v t:=by
 cases r with
 |cons h r=>cases r;exact⟨_,rfl,h⟩
def uM{K}(r:d7 K H xs [t,u]):∃v w,xs=[v,w]/\Rep K H v t/\Rep K H w u:=by
 cases r with
 |cons h r=>obtain⟨w,rfl,h'⟩:=oX r;exact⟨_,w,rfl,h,h'⟩
def Eb{K}:qe K (FW K) xN:=fun xs ps H C Q R rs h q f=>by
 delta xN at q
 split at q
 .obtain ⟨v,rfl,r⟩:=oX rs
  cases r with
  |tup e r=>exact .inl ⟨_,_,rfl,.inr (SqT.of e),f _ H _ C (by rwa [r.len]) (.int _) h Fw.refl⟩
 .obtain ⟨v,rfl,r⟩:=oX rs
  cases r with
  |kt e r=>exact .inl ⟨_,_,rfl,.inr e,f _ H _ C (by rwa [r.len]) (.int _) h Fw.refl⟩
 .obtain ⟨v,rfl,r⟩:=oX rs
  cases r with
  |fz e r=>exact .inl ⟨_,_,rfl,.inl e.sq,f _ H _ C (by rwa [r.len]) (.int _) h Fw.refl⟩
 .obtain ⟨v,rfl,r⟩:=oX rs
  split at q
  .next xs e =>
   obtain⟨vs,g,j⟩:=h _ _ e;cases r;exact .inl ⟨_,_,rfl,.inl (SqL.of g),f _ H _ C (by rwa [j.len]) (.int _) h Fw.refl⟩
  .next kvs e =>
   obtain⟨vs,g,j⟩:=h _ _ e;cases r;exact .inr (.inl ⟨_,_,rfl,g,f _ H _ C (by rwa [Paired.length j]) (.int _) h Fw.refl⟩)
  .exact q.elim
 .obtain ⟨v,rfl,r⟩:=oX rs
  cases r;exact .inr (.inr ⟨_,rfl,q.1,f _ H _ C q.2 (.int _) h Fw.refl⟩)
 .exact q.elim
noncomputable def tyP(C:CH):PV->Option Ty
 |.non=>some .non
 |.bl _=>some .bl
 |.int _=>some .int
 |.str _=>some .str
 |.tup _=>some .tup
 |.ref a=>match C a with
  |some (.lst _)=>some .lst
  |some (.dK _)=>some .dct
  |_=>none
 |_=>none
def JD{K}(r:Rep K H x t)(h:d8 K H C)(e:tyP C t=some n):Nm H x=some n:=by
 cases r with
 |tup j _=>cases e;show(H _).bind Np=_;rw[j];rfl
 |ref a =>
  delta tyP at e
  dsimp only at e
  split at e
  .next xs c=>cases e;obtain⟨vs,g,_⟩:=h _ _ c;show(H _).bind Np=_;rw[g];rfl
  .next xs c=>cases e;obtain⟨vs,g,_⟩:=h _ _ c;show(H _).bind Np=_;rw[g];rfl
  .cases e
 |kt _ _=>cases e
 |fz _ _=>cases e
 |ty _=>cases e
 |vw _=>cases e
 |_=>cases e;rfl
def lD(n:String):Option Ty:=[Ty.non,.bl,.int,.str,.lst,.tup,.dct].find? fun t=>dF t==n
def Qz(h:lD n=some t):n=dF t:=by
 have:=List.find?_some h;exact(eq_of_beq this).symm
@[irreducible] def Eu:GC:=fun ts C Q=>match ts with
 |[x,.ty n]=>match lD n,tyP C x with
  |some T,some k=>Q (.bl (lY k T)) C
  |_,_=>False
 |_=>False
def cZ{K}:qe K (fun xs H Q=>∃x T n,xs=[x,.ty (dF T)]/\Nm H x=some n/\Q (.bl (lY n T)) H) Eu:=fun xs ps H C Q R rs h q f=>by
 delta Eu at q
 split at q
 .split at q
  .next T k g j =>
   obtain⟨v,w,rfl,D,F⟩:=uM rs;cases F;exact(Qz g)▸⟨v,T,k,rfl,JD D h j,f _ H _ C q (.bl _) h Fw.refl⟩
  .exact q.elim
 .exact q.elim
def cAbs:GC:=fun ts C Q=>match ts with
 |[.int i]=>Q (.int (if i < 0 then -i else i)) C
 |_=>False
def Ec{K}:qe K (fun xs H Q=>∃i,xs=[.int i]/\Q (.int (if i < 0 then -i else i)) H) cAbs:=fun xs ps H C Q R rs h q f=>by
 delta cAbs at q
 split at q
 .obtain ⟨v,rfl,r⟩:=oX rs
  cases r;exact⟨_,rfl,f _ H _ C q (.int _) h Fw.refl⟩
 .exact q.elim
@[irreducible] def qH:GC:=fun ts C Q=>match ts with
 |[.tup xs]=>Q (.tup xs) C
 |[.ref a]=>match C a with
  |some (.lst xs)=>Q (.tup xs) C
  |_=>False
 |_=>False
def Dz{K}:qe K (fun xs H Q=>∃p ys,xs=[.ref p]/\((SqL K H p ys/\∀l,H l=none->Q (.ref l) (upd H l (.tup ys)))\/(SqT K H p ys/\Q (.ref p) H))) qH:=fun xs ps H C Q R rs h q f=>by
 delta qH at q
 split at q
 .obtain ⟨v,rfl,r⟩:=oX rs
  cases r with
  |tup e r=>exact⟨_,_,rfl,.inr ⟨SqT.of e,f _ H _ C q (.tup e r) h Fw.refl⟩⟩
 .obtain ⟨v,rfl,r⟩:=oX rs
  split at q
  .next xs e =>
   obtain⟨vs,j,D⟩:=(h _ _ e);cases r;exact⟨_,_,rfl,.inl ⟨SqL.of j,fun l g=>f _ _ _ C q (.tup mQ (D.dm (iz.new g _))) (h.new g _) (Fw.new g _)⟩⟩
  .exact q.elim
 .exact q.elim
def iB:GC:=fun ts C Q=>match ts with
 |[.tup xs]=>∀p,C p=none->Q (.ref p) (gQ C p (.lst xs))
 |[.ref a]=>match C a with
  |some (.lst xs)=>∀p,C p=none->Q (.ref p) (gQ C p (.lst xs))
  |_=>False
 |_=>False
def eI{K}:qe K (fun xs H Q=>∃p ys,xs=[.ref p]/\(SqL K H p ys\/SqT K H p ys)/\∀l,H l=none->Q (.ref l) (upd H l (.lst ys))) iB:=fun xs ps H C Q R rs h q f=>by
 delta iB at q
 split at q
 .obtain ⟨v,rfl,r⟩:=oX rs
  cases r with
  |tup e r=>exact⟨_,_,rfl,.inr (SqT.of e),fun l g=>f _ _ _ _ (q l (h.fresh g)) (.ref l) (h.lay g ⟨_,mQ,r.dm (iz.new g _)⟩) (Fw.lay g _ _)⟩
 .obtain ⟨v,rfl,r⟩:=oX rs
  split at q
  .next xs e =>
   obtain⟨vs,j,D⟩:=(h _ _ e);cases r;exact⟨_,_,rfl,.inl (SqL.of j),fun l g=>f _ _ _ _ (q l (h.fresh g)) (.ref l) (h.lay g ⟨_,mQ,D.dm (iz.new g _)⟩) (Fw.lay g _ _)⟩
  .exact q.elim
 .exact q.elim
noncomputable def rS:List PV->Option (List Bool)
 |[]=>some []
 |.bl b::r=>(rS r).map (b :: ·)
 |_=>none
@[irreducible] def Fb:GC:=fun ts C Q=>match ts with
 |[.ref a]=>match C a with
  |some (.lst xs)=>match rS xs with
   |some bs=>Q (.bl (bs.all id)) C
   |none=>False
  |_=>False
 |_=>False
def V3{K}(r:d7 K H vs ts)(e:rS ts=some bs):vs=bs.map V.bl:=by
 induction ts generalizing vs bs with
 |nil=>cases r;cases e;rfl
 |cons t ts g =>
  cases r with
  |@cons v _ vs _ h r =>
   cases t with
   |bl b =>
    unfold rS at e
    cases z:rS ts with
    |none=>rw[z] at e;cases e
    |some cs =>
     rw[z] at e;injection e with e
     subst e;cases h;rw[g r z];rfl
   |_=>cases e
def lN{K}:qe K (fun xs H Q=>∃p ys,xs=[.ref p]/\SqL K H p (List.map V.bl ys)/\Q (.bl (ys.all id)) H) Fb:=fun xs ps H C Q R rs h q f=>by
 delta Fb at q
 split at q
 .obtain ⟨v,rfl,r⟩:=oX rs
  split at q
  .next xs e =>
   split at q
   .next bs g =>
    obtain⟨vs,j,D⟩:=(h _ _ e);cases r;have:=V3 D g;subst this;exact⟨_,bs,rfl,SqL.of j,f _ H _ C q (.bl _) h Fw.refl⟩
   .exact q.elim
  .exact q.elim
 .exact q.elim
def Ph(x:PV)(C:CH):Prop:=match x with
 |.ref a=>match C a with
  |some (.lst _)=>True
  |_=>False
 |_=>False
def cBM(D:PV->List PV->CH->K1->Prop)(q:gj)(j:qu):gj:=fun g C Q=>q g C fun x C1=>Ph x C1/\j g C1 fun xs C2=>D x xs C2 Q
def rm(K:Dm)(r:V->List V->Hp->VK->Prop)(j:PV->List PV->CH->K1->Prop):Prop:=∀x g xs ps H C Q R,Rep K H x g->d7 K H xs ps->d8 K H C->j g ps C R->(∀v H' t C',R t C'->Rep K H' v t->d8 K H' C'->Fw H C H' C'->Q v H')->r x xs H Q
def YU{K}(l:Ph t C)(r:Rep K H x t)(h:d8 K H C):tyV K "list" x H:=by
 delta Ph at l
 split at l
 .split at l
  .next e=>obtain⟨vs,g,_⟩:=(h _ _ e);cases r;exact .inl ⟨rfl,vs,SqL.of g⟩
  .exact l.elim
 .exact l.elim
def XR{id}{apos cpos}(pa:PlainAttrs "list")(af:Slot "list" name id)(ae:typeOf (.builtin id)=pure (.type "method_descriptor"))(ab:MtR X id r)(hr:rm X.K r M)(ho:CE X o J)(O:CA X (e::es) I)(U:attributeBase o name X.env (eval o X.env)=eval o X.env:=by rfl)(Y:((backTo cpos (starEach (e::es) X.env)).all (fun x=>!x.1)&&(backToKw cpos (keywordEach [] X.env)).all (fun x=>x.1.isSome)
   && decide ((e::es).length+([]:List Keyword).length+(if ([]:List Keyword).isEmpty then 0 else 1) < 30))=true:=by rfl)(Z:(apos.endLine==cpos.line)=true:=by rfl)(hs:yX e=true:=by rfl)(S:es.all yX=true:=by rfl):
  CE X (.Call (.Attribute o name apos) (e::es) [] cpos) (cBM M J I):=⟨JE.weak ⟨pe_bm pa af ae ab ho.h.h O.h.h U Y Z (tZ hs) (mY S)⟩ fun σ H Q zz=>fX zz fun G C R s h q f=>
 ⟨G,C,_,s,h,q,fun x H1 px C1 D F h1 g=>⟨YU D.1 F h1,G,C1,_,s.dm (g.dm h),h1,D.2,fun xs H2 ps C2 q2 rs h2 j=>
  hr x px xs ps H2 C2 Q R (F.dm (j.dm h1)) rs h2 q2 fun v H' t C' q' r' h' N=>f v H' t C' q' r' h' (g.trans (j.trans N))⟩⟩⟩
@[irreducible] def lU:PV->List PV->CH->K1->Prop:=fun x ts C Q=>match x,ts with
 |.ref a,[y]=>match C a with
  |some (.lst xs)=>xs.length < sizeLine/\Q .non (gQ C a (.lst (xs++[y])))
  |_=>False
 |_,_=>False
def Ja{K}:rm K JX lU:=fun x F xs ps H C Q R D rs h q f=>by
 delta lU at q
 split at q
 .split at q
  .next ys e =>
   obtain⟨vs,g,j⟩:=(h _ _ e);obtain⟨v,rfl,r⟩:=oX rs;cases D;exact⟨_,vs,v,rfl,rfl,g,by exact j.len▸q.1,f _ _ _ _ q.2 .non (h.put g rfl ⟨_,mQ,(j.append (.cons r .nil)).dm (iz.mut g rfl _)⟩) (Fw.put e _ _)⟩
  .exact q.elim
 .exact q.elim
end
noncomputable def eV:PV->Option Key
 |.non=>some (.inl none)
 |.int i=>some (.inl (some i))
 |.str x=>some (.inr x)
 |_=>none
noncomputable def oW:Key->PV
 |.inl none=>.non
 |.inl (some i)=>.int i
 |.inr x=>.str x
def jo k:eV (oW k)=some k:=by rcases k with (_ | i) | x<;>rfl
def K6{K}k:Rep K H (kV k) (oW k):=by
 rcases k with (_ | i) | x
 .exact .non
 .exact .int i
 .exact .str x
def nG{K}(r:Rep K H v t)(e:eV t=some k):v=kV k:=by
 cases r<;>cases e<;>rfl
def sJ(kvs:List (Key×PV))(k:Key):Option PV:=(kvs.find? fun g=>decide (g.1=k)).map (·.2)
def kJ(kvs:List (Key×PV))(k:Key)(v:PV):List (Key×PV):=if (kvs.any fun g=>decide (g.1=k))=true then kvs.map fun g=>if g.1=k then (g.1,v) else g else kvs++[(k,v)]
def hW(kvs j:List (Key×PV)):List (Key×PV):=j.foldl (fun acc g=>kJ acc g.1 g.2) kvs
section
variable {K:Dm}{H:Hp}{vs:List (Key×V)}{kvs:List (Key×PV)}
def KP.val(r:KP K H vs kvs)k:(∃v t,aY vs k=some v/\sJ kvs k=some t/\Rep K H v t)\/(aY vs k=none/\sJ kvs k=none):=by
 induction r with
 |nil=>exact .inr ⟨rfl,rfl⟩
 |@cons p q j D h r g =>
  delta aY sJ
  rw[A3,A3,h.1]
  by_cases e:q.1=k
  .grind
  .rwa [AN e]
def KP.any(r:KP K H vs kvs)k:(vs.any fun g=>decide (g.1=k))=(kvs.any fun g=>decide (g.1=k)):=by
 induction r with
 |nil=>rfl
 |@cons p q D F h r j=>rw[BI,BI,h.1,j]
theorem KP.put(r:KP K H vs kvs)k(h:Rep K H v t):KP K H (xV vs k v) (kJ kvs k t):=by
 delta xV kJ
 rw[r.any k]
 have D:KP K H (vs.map fun g=>if g.1=k then (g.1,v) else g) (kvs.map fun g=>if g.1=k then (g.1,t) else g):=by
  induction r with
  |nil=>exact .nil
  |@cons p q F G h' r j =>
   refine .cons ?_ j
   by_cases e:q.1=k
   .lia
   .lia
 split
 .exact D
 .exact Paired.snoc r ⟨rfl,h⟩
def KP.merge(r:KP K H vs kvs)(m:KP K H G F):KP K H (pY vs G) (hW kvs F):=by
 induction m generalizing vs kvs with
 |nil=>exact r
 |@cons p q j D h _ g =>
  show KP K H (pY (xV vs p.1 p.2) j) (hW (kJ kvs q.1 q.2) D);rw[h.1];exact g (r.put q.1 h.2)
end
noncomputable def qm:Option CO->Option (List (Key×PV))
 |some (.dK kvs)=>some kvs
 |some (.fK kvs)=>some kvs
 |_=>none
def Mw{K}(h:d8 K H C)(e:qm (C a)=some kvs):∃vs,Rd H a (.dK vs)/\KP K H vs kvs:=by
 cases c:C a with
 |none=>rw[c] at e;cases e
 |some o =>
  rw[c] at e
  cases o with
  |lst xs=>cases e
  |dT l=>cases e
  |fT l=>cases e
  |dP l=>cases e
  |ins c dx fs=>cases e
  |dK l=>cases e;obtain⟨vs,q,r⟩:=h a _ c;exact⟨vs,.inl q,r⟩
  |fK l=>cases e;exact bU (h a _ c) fun o vs q r=>⟨vs,.inr ⟨o,q⟩,r⟩
section
variable {X:Cx}{a b c e o i f:Expr}{es:List Expr}{pos:Pos}{value:Expr}
@[irreducible] def eT:m9:=fun x y C Q=>match x with
 |.ref a=>match qm (C a),eV y with
  |some kvs,some k=>match sJ kvs k with
   |some v=>Q v C
   |none=>False
  |_,_=>False
 |_=>False
def Ks{K}{a}(h:d8 K H C)(g:qm (C a)=some kvs)(I:Rep K H y G)(j:eV G=some k):
  (∃v t,DGet H a y (some v)/\sJ kvs k=some t/\Rep K H v t)\/(DGet H a y none/\sJ kvs k=none):=by
 obtain⟨vs,q,r⟩:=(Mw h g);have D:=nG I j;subst D
 rcases r.val k with ⟨v,t,h1,h2,F⟩ | ⟨h1,h2⟩
 .exact .inl ⟨v,t,.inl ⟨vs,k,q,rfl,h1.symm⟩,h2,F⟩
 .exact .inr ⟨.inl ⟨vs,k,q,rfl,h1.symm⟩,h2⟩
def zJ(Y:X.A.units+1 < cLine)(U:CE X o N)(hi:CE X i M)(hs:V8 i):CE X (.Subscript o i pos) (qp eT N M):=⟨JE.weak ⟨J6 Y U.h.h hi.h.h hs⟩ fun σ H Q zz=>fX zz fun J C R s h q f=>
 ⟨J,C,_,s,h,q,fun x H1 px C1 Z rx h1 G=>⟨J,C1,_,s.dm (G.dm h),h1,Z,fun y H2 ae C2 j ry h2 I=>by
  delta eT at j
  split at j
  .next a =>
   split at j
   .next kvs k O S =>
    split at j
    .next t F =>
     have ab:=rx.dm (I.dm h1);cases ab
     rcases Ks h2 O ry S with ⟨v,t',g,D,r⟩ | ⟨_,D⟩
     .rw [F] at D
      cases D;exact⟨a,v,rfl,g,f v H2 t C2 j r h2 (G.trans I)⟩
     .rw [F] at D;cases D
    .exact j.elim
   .exact j.elim
  .exact j.elim⟩⟩⟩
def ZW(x:PV)(C:CH):Prop:=match x with
 |.ref a=>match C a with
  |some (.dK _)=>True
  |_=>False
 |_=>False
@[irreducible] def KN:PV->PV->PV->CH->K1->Prop:=fun x y z C Q=>match x with
 |.ref a=>match qm (C a),eV y with
  |some kvs,some k=>Q ((sJ kvs k).getD z) C
  |_,_=>False
 |_=>False
def G0(D q F:gj):gj:=fun g C Q=>D g C fun x C1=>ZW x C1/\q g C1 fun y C2=>F g C2 fun z j=>KN x y z j Q
def Kh{K}(d:ZW t C)(r:Rep K H x t)(h:d8 K H C):∃a kvs,x=.ref a/\t=.ref a/\H a=some (.dK kvs):=by
 delta ZW at d
 split at d
 .split at d
  .next e=>obtain⟨vs,g,_⟩:=(h _ _ e);cases r;exact⟨_,vs,rfl,rfl,g⟩
  .exact d.elim
 .exact d.elim
def GO{apos cpos}(hu:X.A.units+1 < cLine)(ho:CE X o Y)(ab:CE X e U)(ae:CE X f Z)(hb:attributeBase o "get" X.env (eval o X.env)=eval o X.env:=by rfl)(hl:(apos.endLine==cpos.line)=true:=by rfl)(h1:yX e=true:=by rfl)(h2:yX f=true:=by rfl):CE X (.Call (.Attribute o "get" apos) [e,f] [] cpos) (G0 Y U Z):=⟨JE.weak ⟨QS hu ho.h.h ab.h.h ae.h.h (Hm hb hl h1 h2)⟩ fun σ H Q zz=>fX zz fun M C R s h q f=>
 ⟨M,C,_,s,h,q,fun x H1 px C1 S rx h1 D=>by
  obtain⟨a,kvs,rfl,rfl,e1⟩:=Kh S.1 rx h1;refine⟨a,rfl,.inl ⟨kvs,.inl e1⟩,M,C1,_,s.dm (D.dm h),h1,S.2,fun y H2 ag C2 q2 ry h2 G=>⟨M,C2,_,(s.dm (D.dm h)).dm (G.dm h1),h2,q2,fun z O pz N j rz J I=>?_⟩⟩;unfold KN at j;dsimp only at j
  split at j
  .next af k d1 d2 =>
   rcases Ks J d1 (ry.dm (I.dm h2)) d2 with ⟨v,t',g,F,r⟩ | ⟨g,F⟩
   .rw [F] at j
    exact⟨some v,g,f v O t' N j r J (D.trans (G.trans I))⟩
   .rw [F] at j
    exact⟨none,g,f z O pz N j rz J (D.trans (G.trans I))⟩
  .exact j.elim⟩⟩
@[irreducible] def mS:PV->PV->PV->CH->(CH->Prop)->Prop:=fun x y v C Q=>match x with
 |.ref a=>match C a,eV y with
  |some (.dK kvs),some k=>kvs.length < sizeLine/\Q (gQ C a (.dK (kJ kvs k v)))
  |_,_=>False
 |_=>False
def Hv(F D G:gj):kh:=fun E g C=>G g C fun v C1=>F g C1 fun x C2=>D g C2 fun y j=>mS x y v j fun q=>E.nx g q
def lV{M N}(hu:X.A.units+1 < cLine)(ho:CE X o U)(hi:CE X i M)(hv:CE X value N)(hs:swapsWith value (some (.Subscript o i pos')) pos.line X.env=pure false:=by rfl):
  CS X (.Assign [.Subscript o i pos'] value pos) (Hv U M N):=⟨JS.weak ⟨J2 hu ho.h.h hi.h.h hv.h.h hs⟩ fun af σ H zz=>fX zz fun G C E s h q f=>
 ⟨G,C,_,s,h,q,fun v H1 ag C1 q1 rv h1 j=>⟨G,C1,_,s.dm (j.dm h),h1,q1,fun x H2 px C2 q2 rx h2 D=>⟨G,C2,_,(s.dm (j.dm h)).dm (D.dm h1),h2,q2,fun y J ah C3 g ry S F=>by
  have ab:=rv.dm ((D.trans F).dm h1)
  delta mS at g
  split at g
  .next a =>
   split at g
   .next kvs k O Y =>
    have ae:=rx.dm (F.dm h2);cases ae;refine oQ (S a _ O) fun vs I r=>?_;have Z:=nG ry Y;subst Z;have m:iz J (upd J a (.dK (xV vs k v))):=iz.mut I rfl _;refine⟨a,_,rfl,DPut.k I ((Paired.length r)▸g.1),f.nx σ _ G _ g.2 ((((s.dm (j.dm h)).dm (D.dm h1)).dm (F.dm h2)).dm m) (S.put I rfl ⟨_,mQ,Paired.mapP (r.put k ab) fun _ _ z=>⟨z.1,z.2.dm m⟩⟩) (j.trans (D.trans (F.trans (Fw.put O _ _))))⟩
   .exact g.elim
  .exact g.elim⟩⟩⟩⟩
noncomputable def iW:List PV->Option (List (Key×PV))
 |[]=>some []
 |.tup [k,v]::r=>match eV k,iW r with
  |some k,some ps=>some ((k,v)::ps)
  |_,_=>none
 |_=>none
def mH{K}(r:d7 K H vs ts)(e:iW ts=some ps):∃g j,vs=List.map V.ref g/\vG H g j/\KP K H j ps:=by
 induction ts generalizing vs ps with
 |nil=>cases r;cases e;exact⟨[],[],rfl,.nil,.nil⟩
 |cons t ts F =>
  cases r with
  |@cons v _ vs _ h r =>
   cases h with
   |@tup a j xs q N =>
    rcases xs with _ | ⟨k,_ | ⟨u,_ | ⟨z,xs⟩⟩⟩
    .cases e
    .cases e
    .unfold iW at e
     split at e
     .next G Z I J =>
      cases e;obtain⟨g,Y,rfl,M,p2⟩:=F r J;obtain⟨ab,U,rfl,O,S⟩:=uM N;have D:=nG O I;subst D;exact⟨a::g,(G,U)::Y,rfl,.cons q M,.cons ⟨rfl,S⟩ p2⟩
     .cases e
    .cases e
   |_=>cases e
@[irreducible] def tN:GC:=fun ts C Q=>match ts with
 |[.tup xs]=>match iW xs with
  |some ps=>ps.length<=sizeLine/\∀p,C p=none->Q (.ref p) (gQ C p (.dK (hW [] ps)))
  |none=>False
 |_=>False
def XT{K}:qe K (fun xs H Q=>∃t j ps,xs=[.ref t]/\H t=some (.tup (List.map V.ref j))/\vG H j ps/\ps.length<=sizeLine/\∀d,H d=none->Q (.ref d) (upd H d (.dK (pY [] ps)))) tN:=fun xs ts H C Q R rs h q f=>by
 delta tN at q
 split at q
 .split at q
  .next ps e =>
   obtain⟨v,rfl,r⟩:=oX rs
   cases r with
   |@tup a vs xs D G =>
    obtain⟨j,I,rfl,F,p2⟩:=mH G e;refine⟨a,j,I,rfl,D,F,by rw[Paired.length p2];exact q.1,fun d g=>?_⟩;exact f _ _ _ _ (q.2 d (h.fresh g)) (.ref d) (h.lay g ⟨_,mQ,Paired.mapP (KP.merge .nil p2) fun _ _ z=>⟨z.1,z.2.dm (iz.new g _)⟩⟩) (Fw.lay g _ _)
  .exact q.elim
 .exact q.elim
def Uu(D:PV->List PV->CH->K1->Prop)(q:gj)(j:qu):gj:=fun g C Q=>q g C fun x C1=>ZW x C1/\j g C1 fun xs C2=>D x xs C2 Q
def yt{K}(l:ZW t C)(r:Rep K H x t)(h:d8 K H C):tyV K "dict" x H:=by
 obtain⟨a,kvs,rfl,_,e⟩:=Kh l r h;exact .inr (.inr (.inl ⟨rfl,.inl ⟨kvs,e⟩⟩))
def M5{id}{apos cpos}(pa:PlainAttrs "dict")(af:Slot "dict" name id)(ae:typeOf (.builtin id)=pure (.type "method_descriptor"))(ab:MtR X id r)(hr:rm X.K r M)(ho:CE X o J)(O:CA X (e::es) I)(U:attributeBase o name X.env (eval o X.env)=eval o X.env:=by rfl)(Y:((backTo cpos (starEach (e::es) X.env)).all (fun x=>!x.1)&&(backToKw cpos (keywordEach [] X.env)).all (fun x=>x.1.isSome)
   && decide ((e::es).length+([]:List Keyword).length+(if ([]:List Keyword).isEmpty then 0 else 1) < 30))=true:=by rfl)(Z:(apos.endLine==cpos.line)=true:=by rfl)(hs:yX e=true:=by rfl)(S:es.all yX=true:=by rfl):
  CE X (.Call (.Attribute o name apos) (e::es) [] cpos) (Uu M J I):=⟨JE.weak ⟨pe_bm pa af ae ab ho.h.h O.h.h U Y Z (tZ hs) (mY S)⟩ fun σ H Q zz=>fX zz fun G C R s h q f=>
 ⟨G,C,_,s,h,q,fun x H1 px C1 D F h1 g=>⟨yt D.1 F h1,G,C1,_,s.dm (g.dm h),h1,D.2,fun xs H2 ps C2 q2 rs h2 j=>
  hr x px xs ps H2 C2 Q R (F.dm (j.dm h1)) rs h2 q2 fun v H' t C' q' r' h' N=>f v H' t C' q' r' h' (g.trans (j.trans N))⟩⟩⟩
@[irreducible] def KD:PV->List PV->CH->K1->Prop:=fun x ts C Q=>match x,ts with
 |.ref a,[.tup xs]=>match C a,iW xs with
  |some (.dK kvs),some ps=>kvs.length+ps.length<=sizeLine/\Q .non (gQ C a (.dK (hW kvs ps)))
  |_,_=>False
 |_,_=>False
def Dr{K}:rm K FQ KD:=fun x U xs ts H C Q R S rs h q f=>by
 delta KD at q
 split at q
 .split at q
  .next kvs ps j I =>
   obtain⟨v,rfl,r⟩:=oX rs
   cases r with
   |@tup t vs xs J O =>
    obtain⟨N,G,rfl,M,p2⟩:=mH O I;obtain⟨F,g,D⟩:=(h _ _ j);cases S;have m:=iz.mut (o:=.dK (pY F G)) g rfl;refine⟨_,t,N,G,F,rfl,rfl,g,J,M,by rw[Paired.length p2,Paired.length D];exact q.1,?_⟩;exact f _ _ _ _ q.2 .non (h.put g rfl ⟨_,mQ,Paired.mapP (KP.merge D p2) fun _ _ z=>⟨z.1,z.2.dm m⟩⟩) (Fw.put j _ _)
  .exact q.elim
 .exact q.elim
@[irreducible] def Qg(g:gj):gj:=fun j C Q=>g j C fun x C1=>match x with
 |.ref a=>match C1 a with
  |some (.dK _)=>Q (.vw a) C1
  |_=>False
 |_=>False
def GN{apos cpos}(N:CE X o G)(J:attributeBase o "items" X.env (eval o X.env)=eval o X.env:=by rfl)(M:(apos.endLine==cpos.line)=true:=by rfl):CE X (.Call (.Attribute o "items" apos) [] [] cpos) (Qg G) :=
 ⟨JE.weak ⟨Zr F.plainAttrs_dict DF F.type_dict_items YB N.h.h J M⟩ fun σ H Q S=>fX S fun U C R s h q f=> by
 delta Qg at q
 exact⟨U,C,_,s,h,q,fun x H1 Y C1 g O h1 I=>by
  split at g
  .split at g
   .next kvs e =>
    refine oQ (h1 _ _ e) fun vs j r=>?_;cases O;exact⟨.inr (.inr (.inl ⟨rfl,.inl ⟨vs,j⟩⟩)),_,vs,rfl,rfl,j,fun v D=>f _ _ _ _ g (.vw mQ) (h1.new D _) (I.trans (Fw.new D _))⟩
   .exact g.elim
  .exact g.elim⟩⟩
end
end CL
namespace CL
open PySem PySem.Spec L2 PySem.W
open PyProof.Rows hiding St
noncomputable def dQ(c:Str×Int):PV:=.tup [.str c.1,.int c.2]
noncomputable def Zg:List PV->Option (List (Str×Int))
 |[]=>some []
 |.tup [.str x,.int i]::r=>(Zg r).map ((x,i) :: ·)
 |_=>none
noncomputable def Ia:List (Key×PV)->Option (List (Str×Int))
 |[]=>some []
 | (.inr x,.int i)::r=>(Ia r).map ((x,i) :: ·)
 |_=>none
noncomputable def Zh(cs:List (Str×Int)):Nat->Nat->Bool:=fun i j=>YE (cs.getD i ("",0)) (cs.getD j ("",0))
def kU(cs:List (Str×Int)):List (Str×Int):=(yU (Zh cs) (kas_sort cs.length)).toList.map fun i=>cs.getD i ("",0)
theorem QH:∀cs,Zg (cs.map dQ)=some cs
 |[]=>rfl
 |c::cs=>by
  show(Zg (cs.map dQ)).map _=_;rw[QH cs];rfl
def uw(e:Zg ts=some cs):ts=cs.map dQ:=by
 induction ts generalizing cs with
 |nil=>cases e;rfl
 |cons t ts g =>
  unfold Zg at e
  split at e
  .lia
  .rename_i x i r h
   cases h
   cases z:Zg ts with
   |none=>rw[z] at e;cases e
   |some ds =>
    rw[z] at e;cases e;rw[g z];rfl
  .cases e
def HY(e:Ia ts=some cs):ts=cs.map fun c=>(Sum.inr c.1,PV.int c.2):=by
 induction ts generalizing cs with
 |nil=>cases e;rfl
 |cons t ts g =>
  unfold Ia at e
  split at e
  .lia
  .rename_i x i r h
   cases h
   cases z:Ia ts with
   |none=>rw[z] at e;cases e
   |some ds =>
    rw[z] at e;cases e;rw[g z];rfl
  .cases e
section
variable {K:Dm}{H:Hp}{X:Cx}
def FN{cs:List (Str×Int)}(r:d7 K H ys (cs.map dQ)):∀i,i < ys.length->G6 H (ys.getD i .non) (cs.getD i ("",0)):=by
 induction cs generalizing ys with
 |nil=>cases r;intro i hi;exact absurd hi (Bu i)
 |cons c cs g =>
  cases r with
  |@cons v _ vs _ h r =>
   intro i hi
   cases i with
   |zero =>
    cases h with
    |tup e j =>
     obtain⟨F,G,rfl,q,D⟩:=uM j;cases q;cases D
     exact⟨_,rfl,e⟩
   |succ i=>exact g r i (Bp hi)
def d7.getD(r:d7 K H ys ts): ∀i,i < ys.length->Rep K H (ys.getD i .non) (ts.getD i d):=by
 induction ts generalizing ys with
 |nil=>cases r;intro i hi;exact absurd hi (Bu i)
 |cons c cs g =>
  cases r with
  |@cons v _ vs _ h r =>
   intro i hi
   cases i with
   |zero=>exact h
   |succ i=>exact g r i (Bp hi)
def J7{cs:List (Str×Int)}g(r:d7 K H ys (cs.map dQ)):d7 K H (sF g ys) (((yU g (kas_sort cs.length)).toList.map fun i=>cs.getD i ("",0)).map dQ):=by
 have D:ys.length=cs.length:=by rw[r.len,AB]
 delta sF
 rw[D]
 have q:∀i∈(yU g (kas_sort cs.length)).toList,i < ys.length:=by
  intro i hi
  by_cases h:0 < cs.length
  .have:=(cY g cs.length h).mem_iff.mp hi
   exact D▸BQ.mp this
  .have e:cs.length=0:=by lia
   rw[e,WC] at hi;cases hi
 generalize (yU g (kas_sort cs.length)).toList=l at q ⊢
 induction l with
 |nil=>exact .nil
 |cons i l G =>
  refine .cons ?_ (G fun j F=>q j (AI _ F));have h1:=r.getD (d:=dQ ("",0)) i (q i AE);have h2:(cs.map dQ).getD i (dQ ("",0))=dQ (cs.getD i ("",0)) :=by grind<;> rfl
  rwa [h2] at h1
@[irreducible] def qF:GC:=fun ts C Q=>match ts with
 |[.ref a]=>match C a with
  |some (.lst xs)=>match Zg xs with
   |some cs=>cs.length < 64/\∀p,C p=none->Q (.ref p) (gQ C p (.lst ((kU cs).map dQ)))
   |none=>False
  |_=>False
 |[.vw a]=>match C a with
  |some (.dK kvs)=>match Ia kvs with
   |some cs=>cs.length < 64/\∀p,C p=none->Q (.ref p) (gQ C p (.lst ((kU cs).map dQ)))
   |none=>False
  |_=>False
 |_=>False
abbrev JR(X:Cx):List V->Hp->VK->Prop:=fun xs H Q=>(∃l ys lt,xs=[.ref l]/\SqL X.K H l ys/\ys.length < 64/\Fj X H ys lt/\∀p,H p=none->Q (.ref p) (upd H p (.lst (sF lt ys)))) \/
 (∃v d kvs lt,xs=[.ref v]/\H v=some (.ext (iY v d))/\H d=some (.dK kvs)/\kvs.length < 64 /\
  ∀as H1,Same H H1->vG H1 as kvs->(∀a∈as,H a=none)->(∀a,H a=none->H1 a≠none->a∈as)->Fj X H1 (List.map V.ref as) lt/\∀p,H1 p=none->Q (.ref p) (upd H1 p (.lst (sF lt (List.map V.ref as)))))
def dU(g:X.calm=true):CallR X (.builtin "sorted") (JR X):=CallR.or XU (Qa g)
def vD:qe X.K (JR X) qF:=fun xs ts H C Q R rs h q f=>by
 delta qF at q
 split at q
 .obtain ⟨v,rfl,r⟩:=oX rs
  split at q
  .next xs e =>
   split at q
   .next cs D =>
    have ex:=uw D;subst ex;obtain⟨vs,F,j⟩:=h _ _ e;cases r;have G:vs.length=cs.length:=by rw[j.len,AB]
    refine .inl ⟨_,vs,Zh cs,rfl,SqL.of F,by rw[G];exact q.1,Ww _ (FN j),fun p g=>?_⟩;exact f _ _ _ _ (q.2 p (h.fresh g)) (.ref p) (h.lay g ⟨_,mQ,(J7 (Zh cs) j).dm (iz.new g _)⟩) (Fw.lay g _ _)
   .exact q.elim
  .exact q.elim
 .obtain ⟨v,rfl,r⟩:=oX rs
  split at q
  .next kvs e =>
   split at q
   .next cs D =>
    have ex:=HY D;subst ex;obtain⟨vs,F,j⟩:=h _ _ e
    cases r with
    |vw S =>
     have G:vs.length=cs.length:=by rw[Paired.length j,AB]
     refine .inr ⟨_,_,vs,Zh cs,rfl,S,F,by rw[G];exact q.1,fun as H1 J I O Z=>?_⟩
     have rr:d7 X.K H1 (List.map V.ref as) (cs.map dQ):=by
      clear G O Z q e F D
      induction cs generalizing vs as with
      |nil=>cases j;cases I;exact .nil
      |cons c cs U =>
       cases j with
       |@cons p q Y l2 h' j =>
        cases I with
        |@cons a _ l _ M I =>
         obtain⟨k,v'⟩:=p;obtain⟨rfl,N⟩:=h';cases N;exact .cons (.tup M (.cons (.str _) (.cons (.int _) .nil))) (U (vs:=Y) j l I)
     refine⟨Ww _ (FN rr),fun p g=>?_⟩;have h1:=rP h J;exact f _ _ _ _ (q.2 p (h1.fresh g)) (.ref p) (h1.lay g ⟨_,mQ,(J7 (Zh cs) rr).dm (iz.new g _)⟩) ((yI J).trans (Fw.lay g _ _))
   .exact q.elim
  .exact q.elim
 .exact q.elim
end
section
variable {X:Cx}{pos:Pos}
@[irreducible] def Qj(j:gj)(t:mj)(c:gj):gj:=fun g C Q=>j g C fun x C1=>match x with
 |.ref d=>match C1 d with
  |some (.dK kvs)=>xJ t c g (fun v C2=>C2 d=some (.fK kvs)/\Q v (gQ C2 d (.dK kvs))) (kvs.map fun p=>oW p.1) [] (gQ C1 d (.fK kvs))
  |_=>False
 |_=>False
structure Ss(K:Dm)(S:Hp->Prop)(J:It)(ps:List PV):Prop where
 go:∀i H',i < ps.length->S H'->J.go i H'
 yl:∀i H' x H'',S H'->J.yld i H' x H''->H''=H'/\∀t,ps[i]?=some t->Rep K H' x t
 st:∀H',S H'->J.stop ps.length H'
def Dn{K}{Q:VK}(j:Ss K S J ps)(hS:∀H' C',d8 K H' C'->Fw H C H' C'->S H')(s:gq K H σ ρ)(h:d8 K H C)(q:xJ t c ρ R ps [] C)(h0:d8 K H0 C0)(ag:Fw H0 C0 H C)(f:∀v H' p C',R p C'->Rep K H' v p->d8 K H' C'->Fw H0 C0 H' C'->Q v H')(G:H D=none):
  ∃W:Nat->Nat->List V->Hp->Prop,(∃m,W 0 m [] (upd H D (.lst [])))/\∀i m ys H,W i m ys H ->
   (J.stop i H/\Q (.ref D) H)\/(J.go i H/\∀x H',J.yld i H x H'->bJ K gP t (some x::σ) H' fun b H2=>
    if b=true then bJ K (Rep K) c (some x::σ) H2 fun y H3=>H3 D=some (.lst ys)/\ys.length < sizeLine/\∃M,M < m/\W (i+1) M (ys++[y]) (upd H3 D (.lst (ys++[y])))
    else ∃M,M < m/\W (i+1) M ys H2):=by
 refine⟨fun i m ys H'=>m=ps.length - i/\i<=ps.length/\∃acc C',H' D=some (.lst ys)/\C' D=none/\d7 K H' ys acc/\d8 K H' C'/\Fw H C H' C'/\xJ t c ρ R (ps.drop i) acc C',
  ⟨ps.length,rfl,AX _,[],C,mQ,h.fresh G,.nil,h.new G _,Fw.new G _,q⟩,?_⟩
 rintro i m ys H1 ⟨rfl,hi,acc,C1,e1,n1,r1,h1,F,Z⟩;have k1:=F.dm h
 by_cases I:i < ps.length
 .refine .inr ⟨j.go i H1 I (hS H1 C1 h1 F),fun x H2 y=>?_⟩
  obtain⟨rfl,y⟩:=j.yl i H1 x H2 (hS H1 C1 h1 F) y;have rx:=y _ (AK I);rw[Ao I] at Z;refine⟨some ps[i]::ρ,C1,_,.cons rx (s.dm k1),h1,Z,fun b H3 b' C3 q3 e h3 N=>?_⟩;cases e;obtain⟨U,e3⟩:=N D (by rw[n1];rfl) (by lia);rw[e1] at e3;rw[n1] at U;have O:=N.dm h1
  cases b with
  |true =>
   refine⟨some ps[i]::ρ,C3,_,.cons (rx.dm O) ((s.dm k1).dm O),h3,q3,fun v H4 p C4 q4 r4 h4 ab=>uL (ab D (by rw[U];rfl) (by lia)) fun n4 e4=>?_⟩;rw[e3] at e4;rw[U] at n4;have m4:iz H4 (upd H4 D (.lst (ys++[v]))):=iz.mut e4 rfl _;refine⟨e4,by rw[r1.len];exact q4.1,ps.length - (i+1),by lia,rfl,I,acc++[p],C4,mQ,n4,?_,?_,?_,q4.2⟩
   .exact (((r1.dm O).dm (ab.dm h3)).append (.cons r4 .nil)).dm m4
   .intro a o g
    have ae:a≠D:=fun z=>by subst z;rw[n4] at g;cases g
    exact(h4 a o g).dm m4 (fQ ae)
   .intro a g Y
    have ae:a≠D:=fun z=>Y (z▸G);exact uL ((F.trans (N.trans ab)) a g Y) fun x1 x2=>⟨x1,(fQ ae).trans x2⟩
  |false =>
   exact⟨ps.length - (i+1),by lia,rfl,I,acc,C3,e3,U,r1.dm O,h3,F.trans N,q3⟩
 .have e:i=ps.length:=by lia
  subst e;rw[Bn] at Z;refine .inl ⟨j.st H1 (hS H1 C1 h1 F),f (.ref D) H1 (.ref D) _ (Z D n1) (.ref D) ?_ ?_⟩
  .intro a o g
   by_cases z:a=D
   .subst z;rw[jQ] at g;cases g;exact⟨ys,e1,r1⟩
   .rw [yQ z] at g;exact h1 a o g
  .intro a g Y
   obtain⟨x1,x2⟩:=ag a g Y;have af:H a≠none:=by rwa [x2]
   obtain⟨y1,y2⟩:=F a (by rwa [x1]) af;exact⟨(yQ (show a≠D from fun z=>af (z▸G))).trans (y1.trans x1),y2.trans x2⟩
def ym{K}{kvs:List (Key×PV)}(e:vs.map (·.1)=kvs.map (·.1)):Ss K (fun H'=>H' d=some (.frz o (.dK vs))) (UJ o d vs) (kvs.map fun p=>oW p.1) where
 go:=fun i H' l s=>⟨by
  have:(vs.map (·.1)).length=(kvs.map (·.1)).length:=by rw[e]
  rw[AB,AB] at this;rw[AB] at l
  lia,s⟩
 yl:=fun i H' x D s y=>⟨y.1,fun t g=>by
  obtain⟨p,j,rfl⟩:=y.2;have h1:(vs.map (·.1))[i]?=some p.1:=by rw[Am,j];rfl
  rw[e,Am] at h1;rw[Am] at g
  cases z:kvs[i]? with
  |none=>rw[z] at g;cases g
  |some q =>
   rw[z] at g h1;cases g;show Rep K H' (kV p.1) (oW q.1);rw[(show q.1=p.1 from Au h1)]
   exact K6 p.1⟩
 st:=fun H' s=>⟨by
  have:(vs.map (·.1)).length=(kvs.map (·.1)).length:=by rw[e]
  rw[AB,AB] at this;rw[AB]
  lia,s⟩
def KP.keys{K}(r:KP K H vs kvs):vs.map (·.1)=kvs.map (·.1):=by
 induction r with
 |nil=>rfl
 |cons h _ g=>rw[A5,A5,h.1,g]
def GQ{ab U:Expr}{x:Str}{px:Pos}{ae:List Expr}{N:Scope}{Y:gj}{t:mj}{c:gj}(hc:X.calm=true)(hN:(x::X.N).Nodup)(K:∃j,vM X x N j)(hi:CE X U Y)(ht:∀j F C G D,CF (nK X x N j F C G D) ae t)(aj:∀j F C G D,CE (nK X x N j F C G D) ab c)(hs:∀v,foldedSetIterable U X.env v=pure v:=by intro _;rfl):CE X (.ListComp ab [⟨.Name x px,U,ae,0⟩] N pos) (Qj Y t c) :=
 ⟨JE.weak (yc (gR (te:=bJ X.K (Rep X.K) c) (tc:=bJ X.K gP t) hc hN K (xx hi.h) (fun j F C G D=>(ht j F C G D).h) (fun j F C G D=>(aj j F C G D).h) hs)) fun σ H Q zz=>fX zz fun ρ C R s h q f=> by
  unfold Qj at q
  exact⟨ρ,C,_,s,h,q,fun xv H1 px C1 I rx h1 S=>by
   split at I
   .next d =>
    split at I
    .next kvs e =>
     obtain⟨vs,O,r⟩:=h1 d _ e;cases rx;refine⟨d,vs,rfl,O,fun o ak ao hD=>?_⟩;have m:iz H1 (upd H1 d (.frz o (.dK vs))):=iz.mut O rfl _;have h2:d8 X.K (upd H1 d (.frz o (.dK vs))) (gQ C1 d (.fK kvs)):=h1.put O rfl ⟨o,vs,mQ,Paired.mapP r fun _ _ z=>⟨z.1,z.2.dm m⟩⟩;have ai:Fw H1 C1 (upd H1 d (.frz o (.dK vs))) (gQ C1 d (.fK kvs)):=Fw.put e _ _
     have ah:∀H' C',Fw (upd H1 d (.frz o (.dK vs))) (gQ C1 d (.fK kvs)) H' C'->H' d=some (.frz o (.dK vs)):=fun H' C' g=>by
      have:=(g d (by rw[jQ];rfl) (by rw[mQ];exact fun z=>nomatch z)).2;rw[this,mQ]
     refine Dn (Q:=fun v H'=>∃d o kvs,H' d=some (.frz o (.dK kvs))/\NF X d/\Q v (upd H' d (.dK kvs))) (H0:=upd H1 d (.frz o (.dK vs))) (C0:=gQ C1 d (.fK kvs)) (ym r.keys) (fun H' C' _ g=>ah H' C' g) ((s.dm (S.dm h)).dm m) h2 I h2 Fw.refl (fun v H' p C' q' r' h' f'=>?_) hD;obtain⟨e1,q2⟩:=q';have M:=ah H' C' f';refine⟨d,o,vs,M,ak,?_⟩;have m':iz H' (upd H' d (.dK vs)):=iz.mut M rfl _
     obtain⟨o',aq,Z,r3⟩:=h' d _ e1;rw[M] at Z;cases Z;refine f v _ p _ q2 (r'.dm m') (h'.put M rfl ⟨vs,mQ,Paired.mapP r3 fun _ _ z=>⟨z.1,z.2.dm m'⟩⟩) ?_;intro a J af;obtain⟨x1,x2⟩:=(S.trans (ai.trans f')) a J af
     have ag:a≠d:=fun z=>by
      subst z;obtain⟨y1,y2⟩:=S a J af;rw[<- y1,e] at J;cases J
     exact⟨(yQ ag).trans x1,(fQ ag).trans x2⟩
    .exact I.elim
   .exact I.elim⟩⟩
end
section
variable {X:Cx}{a b c e o i f:Expr}{es:List Expr}{pos:Pos}{value:Expr}
abbrev Tc:Hp->Option Int->Option Int->Prop:=fun _ a b=>a=b
abbrev TCO:=jt->CH->(Option Int->CH->Prop)->Prop
structure Hy(X:Cx)(e:Option Expr)(c:TCO):Prop where
 h:JO X e (bJ X.K Tc c)
def JO.weak{e}(h:JO X e t)(w:∀σ H Q,t' σ H Q->t σ H Q):JO X e t':=⟨fun pins s σ H Q I q=>h.h pins s σ H Q I (w σ H Q q)⟩
def Er:TCO:=fun _ C Q=>Q none C
def RD(g:gj):TCO:=fun j C Q=>g j C fun t C1=>match t with
 |.int i=>Q (some i) C1
 |_=>False
def nV:Hy X none Er:=⟨JO.weak ⟨po_none⟩ fun σ H Q g=>fX g fun j C R s h q f=> f none H none C q rfl h Fw.refl⟩
def rV(h:CE X e j):Hy X (some e) (RD j):=⟨JO.weak ⟨po_some h.h.h⟩ fun σ H Q G=>fX G fun I C R s h q f=> ⟨I,C,_,s,h,q,fun x H1 J C1 g F h1 D=>by
 split at g
 .cases F;exact⟨_,rfl,f _ H1 _ C1 g rfl h1 D⟩
 .exact g.elim⟩⟩
def iF(xs:List PV)(lo hi:Option Int):List PV:=(xs.drop (HT.sIx xs.length 0 lo)).take (HT.sIx xs.length xs.length hi - HT.sIx xs.length 0 lo)
def d7.cut{K}(r:d7 K H vs ts)lo hi:d7 K H (VP vs lo hi) (iF ts lo hi):=by
 delta VP iF
 exact r.len▸(r.drop _).take _
@[irreducible] def Ek:PV->Option Int->Option Int->CH->K1->Prop:=fun x lo hi C Q=>match x with
 |.ref a=>match C a with
  |some (.lst xs)=>∀p,C p=none->Q (.ref p) (gQ C p (.lst (iF xs lo hi)))
  |_=>False
 |_=>False
def Ug(F:PV->Option Int->Option Int->CH->K1->Prop)(q:gj)(D ch:TCO):gj:=fun g C Q=>q g C fun x C1=>D g C1 fun l C2=>ch g C2 fun u j=>F x l u j Q
def xD{lo}(Y:CE X e M)(Z:Hy X lo N)(hu:Hy X hi ch):CE X (.Subscript e (.Slice lo hi none p2) pos) (Ug Ek M N ch):=⟨JE.weak ⟨nC sl_list Y.h.h Z.h.h hu.h.h⟩ fun σ H Q zz=>fX zz fun I C R s h q f=>
 ⟨I,C,_,s,h,q,fun x H1 px C1 q1 rx h1 D=>⟨I,C1,_,s.dm (D.dm h),h1,q1,fun l H2 l' C2 q2 O h2 F=>⟨I,C2,_,(s.dm (D.dm h)).dm (F.dm h1),h2,q2,fun u H3 u' C3 g S G J=>by
  cases O;cases S
  delta Ek at g
  split at g
  .split at g
   .next xs e =>
    refine oQ (G _ _ e) fun vs U r=>?_;have ab:=rx.dm ((F.trans J).dm h1);cases ab;exact⟨_,vs,rfl,SqL.of U,fun p j=>f _ _ _ _ (g p (G.fresh j)) (.ref p) (G.lay j ⟨_,mQ,(r.cut l u).dm (iz.new j _)⟩) (D.trans (F.trans (J.trans (Fw.lay j _ _))))⟩
   .exact g.elim
  .exact g.elim⟩⟩⟩⟩
def zm{i:Nat}{y x:Str}{Y J pos Z:Pos}{M I:Expr}{N:List Expr}{G:Scope}{wi:TI}{O:jt->CH->(List PV->CH->Prop)->Prop}{t:mj}{c:gj}(ae:X.N.Nodup)(hi:X.N[i]?=some y)(hy:Loc X.env.scope y)(hc:X.calm=true)(hN:(x::X.N).Nodup)(K:∃g,vM X x G g)(U:CI X (.Name x J) I wi O)(ht:∀g D C F j,CF (nK X x G g D C F j) N t)(af:∀g D C F j,CE (nK X x G g D C F j) M c)(hs:∀v,foldedSetIterable I X.env v=pure v:=by intro _;rfl)(ah:swapsWith (.ListComp M [⟨.Name x J,I,N,0⟩] G pos) (some (.Name y Y)) Z.line X.env=pure true:=by rfl)(ag:X.fn y=true\/X.env.scope.names.lookup y=some .local:=by first | exact .inl rfl | exact .inr rfl | assumption):
  CS X (.Assign [.Name y Y] (.ListComp M [⟨.Name x J,I,N,0⟩] G pos) Z) (GV i (G3 O t c)):=by
 obtain⟨g,K⟩:=K;refine⟨JS.weak (xu (te:=bJ X.K (Rep X.K) c) (tc:=bJ X.K gP t) ae hi hy hc hN K U.j (fun D C F j=>(ht g D C F j).h) (fun D C F j=>(af g D C F j).h) hs ah ag) fun ab σ H zz=>fX zz fun ρ C E s h q f=> ?_⟩;exact eO (Q:=fun x H'=>ab.nx (σ.set i (some x)) H') U ⟨ρ,C,_,s,h,q,fun x H1 J C1 q1 rx h1 S=>f.nx _ H1 _ C1 q1 ((s.dm (S.dm h)).set rx i) h1 S⟩
def Yw k(σ:St):Fp k (σ.set k none):=fun v e=>by
 rw[List.getElem?_set_self'] at e
 cases g:σ[k]? with
 |none=>rw[g] at e;cases e
 |some x=>rw[g] at e;cases e
def gq.unset{K}(s:gq K H σ j)k:gq K H (σ.set k none) (j.set k none):=by
 induction s generalizing k with
 |nil=>exact .nil
 |cons h' r g =>
  cases k with
  |zero=>exact .cons trivial r
  |succ k=>exact .cons h' (g k)
def M8(k:Nat)(g:gj):kh:=fun E j C=>g (j.set k none) C E.rt
def GA k(F:CE (X.at_ k) e g):CS X (.Return (some e) pos) (M8 k g):=⟨JS.weak (O8 k ⟨WY (yd k F.h).h⟩) fun D σ H M=>fX M fun N C E s h q f=>
 ⟨Yw k σ,N.set k none,C,_,s.unset k,h,q,fun x H1 G C1 I J h1 j=>f.rt x H1 G C1 I J h1 j⟩⟩
def qM(S:CH->Prop)(t:mj)(c:gj)(g:jt)(Q:K1):List PV->List PV->CH->Prop
 |[],acc,C=>S C/\∀p,C p=none->Q (.ref p) (gQ C p (.lst acc))
 |x::r,acc,C=>S C/\t (some x::g) C fun b C1=>if b=true then c (some x::g) C1 fun y C2=>acc.length < sizeLine/\qM S t c g Q r (acc++[y]) C2 else qM S t c g Q r acc C1
structure ItS(K:Dm)(S:CH->Prop)(J:It)(ps:List PV):Prop where
 go:∀i H' C',i < ps.length->d8 K H' C'->S C'->J.go i H'
 yl:∀i H' C' x H'',d8 K H' C'->S C'->J.yld i H' x H''->H''=H'/\∀t,ps[i]?=some t->Rep K H' x t
 st:∀H' C',d8 K H' C'->S C'->J.stop ps.length H'
def MK{K}{c}{Q:VK}(j:ItS K S J ps)(s:gq K H σ ρ)(h:d8 K H C)(q:qM S t c ρ R ps [] C)(h0:d8 K H0 C0)(ag:Fw H0 C0 H C)(f:∀v H' p C',R p C'->Rep K H' v p->d8 K H' C'->Fw H0 C0 H' C'->Q v H')(G:H D=none):
  ∃W:Nat->Nat->List V->Hp->Prop,(∃m,W 0 m [] (upd H D (.lst [])))/\∀i m ys H,W i m ys H ->
   (J.stop i H/\Q (.ref D) H)\/(J.go i H/\∀x H',J.yld i H x H'->bJ K gP t (some x::σ) H' fun b H2=>
    if b=true then bJ K (Rep K) c (some x::σ) H2 fun y H3=>H3 D=some (.lst ys)/\ys.length < sizeLine/\∃M,M < m/\W (i+1) M (ys++[y]) (upd H3 D (.lst (ys++[y])))
    else ∃M,M < m/\W (i+1) M ys H2):=by
 refine⟨fun i m ys H'=>m=ps.length - i/\i<=ps.length/\∃acc C',H' D=some (.lst ys)/\C' D=none/\d7 K H' ys acc/\d8 K H' C'/\Fw H C H' C'/\qM S t c ρ R (ps.drop i) acc C',
  ⟨ps.length,rfl,AX _,[],C,mQ,h.fresh G,.nil,h.new G _,Fw.new G _,q⟩,?_⟩
 rintro i m ys H1 ⟨rfl,hi,acc,C1,e1,n1,r1,h1,N,F⟩;have k1:=N.dm h
 have q0:S C1:=by
  cases z:ps.drop i with
  |nil=>rw[z] at F;exact F.1
  |cons x r=>rw[z] at F;exact F.1
 by_cases I:i < ps.length
 .refine .inr ⟨j.go i H1 C1 I h1 q0,fun x H2 y=>?_⟩
  obtain⟨rfl,y⟩:=j.yl i H1 C1 x H2 h1 q0 y;have rx:=y _ (AK I);rw[Ao I] at F
  replace F:=F.2
  refine⟨some ps[i]::ρ,C1,_,.cons rx (s.dm k1),h1,F,fun b H3 b' C3 q3 e h3 O=>?_⟩;cases e;obtain⟨Y,e3⟩:=O D (by rw[n1];rfl) (by lia);rw[e1] at e3;rw[n1] at Y;have U:=O.dm h1
  cases b with
  |true =>
   refine⟨some ps[i]::ρ,C3,_,.cons (rx.dm U) ((s.dm k1).dm U),h3,q3,fun v H4 p C4 q4 r4 h4 ab=>uL (ab D (by rw[Y];rfl) (by lia)) fun n4 e4=>?_⟩;rw[e3] at e4;rw[Y] at n4;have m4:iz H4 (upd H4 D (.lst (ys++[v]))):=iz.mut e4 rfl _;refine⟨e4,by rw[r1.len];exact q4.1,ps.length - (i+1),by lia,rfl,I,acc++[p],C4,mQ,n4,?_,?_,?_,q4.2⟩
   .exact (((r1.dm U).dm (ab.dm h3)).append (.cons r4 .nil)).dm m4
   .intro a o g
    have ae:a≠D:=fun z=>by subst z;rw[n4] at g;cases g
    exact(h4 a o g).dm m4 (fQ ae)
   .intro a g Z
    have ae:a≠D:=fun z=>Z (z▸G);exact uL ((N.trans (O.trans ab)) a g Z) fun x1 x2=>⟨x1,(fQ ae).trans x2⟩
  |false =>
   exact⟨ps.length - (i+1),by lia,rfl,I,acc,C3,e3,Y,r1.dm U,h3,N.trans O,q3⟩
 .have e:i=ps.length:=by lia
  subst e;rw[Bn] at F
  replace F:=F.2
  refine .inl ⟨j.st H1 C1 h1 q0,f (.ref D) H1 (.ref D) _ (F D n1) (.ref D) ?_ ?_⟩
  .intro a o g
   by_cases z:a=D
   .subst z;rw[jQ] at g;cases g;exact⟨ys,e1,r1⟩
   .rw [yQ z] at g;exact h1 a o g
  .intro a g Z
   obtain⟨x1,x2⟩:=ag a g Z;have af:H a≠none:=by rwa [x2]
   obtain⟨y1,y2⟩:=N a (by rwa [x1]) af;exact⟨(yQ (show a≠D from fun z=>af (z▸G))).trans (y1.trans x1),y2.trans x2⟩
def Mg{K}{a}: ItS K (fun C=>C a=some (.lst xs)) (Itl K a) xs where
 go:=fun i H' C' l h s=>by
  refine oQ (h a _ s) fun vs e r=>oQ (r.get (AK l)) fun v g _=>?_;exact⟨vs,v,SqL.of e,g⟩
 yl:=fun i H' C' x D h s y=>⟨y.1,fun t j=>by
  refine oQ (h a _ s) fun vs e r=>oQ (r.get j) fun v g q=>?_;have:=y.2 vs (SqL.of e)
  rw[g] at this;cases this;exact q⟩
 st:=fun H' C' h s=>oQ (h a _ s) fun vs e r=>⟨vs,SqL.of e,by exact r.len▸AH _⟩
@[irreducible] def zH(j:gj)(t:mj)(c:gj):gj:=fun g C Q=>j g C fun x C1=>match x with
 |.ref a=>match C1 a with
  |some (.lst xs)=>qM (fun C=>C a=some (.lst xs)) t c g Q xs [] C1
  |_=>False
 |_=>False
def eB{N J:Expr}{x:Str}{U:Pos}{S:List Expr}{I:Scope}{M:gj}{t:mj}{c:gj}(hc:X.calm=true)(hN:(x::X.N).Nodup)(K:∃g,vM X x I g)(hi:CE X J M)(ht:∀g D C F j,CF (nK X x I g D C F j) S t)(ab:∀g D C F j,CE (nK X x I g D C F j) N c)(hs:∀v,foldedSetIterable J X.env v=pure v:=by intro _;rfl):CE X (.ListComp N [⟨.Name x U,J,S,0⟩] I pos) (zH M t c) :=
 ⟨JE.weak (gR (te:=bJ X.K (Rep X.K) c) (tc:=bJ X.K gP t) hc hN K ⟨J4 hi.h.h⟩ (fun g D C F j=>(ht g D C F j).h) (fun g D C F j=>(ab g D C F j).h) hs) fun σ H Q zz=>fX zz fun ρ C R s h q f=> by
  unfold zH at q
  exact⟨ρ,C,_,s,h,q,fun xv H1 U C1 G rx h1 O=>by
   split at G
   .next a =>
    split at G
    .next xs e =>
     obtain⟨vs,Y,r⟩:=h1 a _ e;cases rx;exact⟨a,rfl,⟨vs,SqL.of Y⟩,fun ae Z=>MK (Q:=Q) Mg (s.dm (O.dm h)) h1 G h O f Z⟩
    .exact G.elim
   .exact G.elim⟩⟩
end
section
variable {C:CH}{a p:Addr}{xs ys:List PV}{i:Int}{v:PV}{Q:K1}
def sZ(h:C a=some (.lst xs))(e:atI xs i=some v)(q:Q v C):qw (.ref a) (.int i) C Q:=by
 delta qw
 show(match C a with | some (.lst xs)=>qz xs i C Q | _=>False);rw[h];show qz xs i C Q
 delta qz
 rwa [e]
def O9(e:atI xs i=some v)(q:Q v C):qw (.fz xs) (.int i) C Q:=by
 delta qw
 show qz xs i C Q
 delta qz
 rwa [e]
def rX(e:atI xs i=some v)(q:Q v C):qw (.tup xs) (.int i) C Q:=by
 delta qw
 show qz xs i C Q
 delta qz
 rwa [e]
def Wz{Q}(h:C p=some (.lst xs))(e:ixN xs.length k=some j)(q:Q (gQ C p (.lst (xs.set j v)))):KH (.ref p) (.int k) v C Q:=by
 delta KH
 dsimp only;rw[h];dsimp only
 rwa [e]
def sW(h:C a=some (.lst xs))(q:Q (.int xs.length) C):xN [.ref a] C Q:=by
 delta xN
 show(match C a with | some (.lst xs)=>Q (.int xs.length) C | some (.dK kvs)=>Q (.int kvs.length) C | _=>False)
 rwa [h]
def YJ(q:Q (.int xs.length) C):xN [.fz xs] C Q:=by
 delta xN
 exact q
def nU(q:Q (.int xs.length) C):xN [.tup xs] C Q:=by
 delta xN
 exact q
def sS(h:C a=some (.lst xs))(z:xs.length < sizeLine)(q:Q .non (gQ C a (.lst (xs++[v])))):lU (.ref a) [v] C Q :=by simp_all[lU]
def tW(h:C a=some (.lst xs)):Ph (.ref a) C:=by
 show(match C a with | some (.lst _)=>True | _=>False);rw[h]
 trivial
end
def jg(q:Q (g i j) C):cI g (.int i) (.int j) C Q:=by
 delta cI
 exact q
def eW(q:Q (.int (i+j)) C):pS (.int i) (.int j) C Q:=by
 delta pS
 exact q
def tS(h:xs.length+ys.length<=sizeLine)(q:Q (.tup (xs++ys)) C):pS (.tup xs) (.tup ys) C Q:=by
 delta pS
 exact⟨h,q⟩
def YY{q:Prop}(h1:b=true->p)(h2:b=false->q):if b=true then p else q :=by grind
def ZX{q:Prop}(e:b=true)(h:p):if b=true then p else q:=by rwa [Ah e]
def yG{q:Prop}(e:b=false)(h:q):if b=true then p else q :=by grind
def fZ{p q:CH->Prop}(e:b=true)(h:p C):iC (fun b C1=>if b=true then p C1 else q C1) (.bl b) C:=by cases e;exact h
def aX{p q:CH->Prop}(e:b=false)(h:q C):iC (fun b C1=>if b=true then p C1 else q C1) (.bl b) C:=by cases e;exact h
def vZ{p q:CH->Prop}(h1:b=true->p C)(h2:b=false->q C):iC (fun b C1=>if b=true then p C1 else q C1) (.bl b) C:=by
 cases b with
 |true=>exact h1 rfl
 |false=>exact h2 rfl
def iH{p q:CH->Prop}(h:q C):iC (fun b C1=>if (!b)=true then p C1 else q C1) (.bl true) C :=h
def qX(e:sEq x y=some b)(q:Q (.bl (k b)) C):Nv k x y C Q :=by simp_all[Nv]
def pQ x y:sEq (.str x) (.str y)=some (decide (x=y)):=rfl
def mX x y:sEq (.int x) (.int y)=some (decide (x=y)):=rfl
def aM(h:t (some x::g) C fun b C1=>if b=true then c (some x::g) C1 fun y C2=>acc.length < sizeLine/\xJ t c g Q r (acc++[y]) C2 else xJ t c g Q r acc C1):xJ t c g Q (x::r) acc C:=h
def pL(h:∀p,C p=none->Q (.ref p) (gQ C p (.lst acc))):xJ t c g Q [] acc C:=h
def qZ(g:lD n=some T)(j:tyP C x=some k)(q:Q (.bl (lY k T)) C):Eu [x,.ty n] C Q:=by
 delta Eu
 show(match lD n,tyP C x with | some T,some k=>Q (.bl (lY k T)) C | _,_=>False)
 rwa [g,j]
def eS(h1:C a=some (.lst xs))(h2:C b=some (.lst ys))(z:xs.length+ys.length<=sizeLine)(q:∀p,C p=none->Q (.ref p) (gQ C p (.lst (xs++ys)))):pS (.ref a) (.ref b) C Q:=by
 delta pS
 show(match C a,C b with | some (.lst xs),some (.lst ys)=>xs.length+ys.length<=sizeLine/\∀p,C p=none->Q (.ref p) (gQ C p (.lst (xs++ys))) | _,_=>False);exact h1▸h2▸⟨z,q⟩
def tK(m:C p=some (.lst xs))(q:Q (.tup xs) C):qH [.ref p] C Q:=by
 delta qH
 show(match C p with | some (.lst xs)=>Q (.tup xs) C | _=>False)
 rwa [m]
def Gr(C C':CH):Prop:=∀b o,C b=some o->C' b=some o
def Gr.refl: Gr C C:=fun _ _ h=>h
theorem Gr.trans(h:Gr C C1)(h':Gr C1 C2):Gr C C2:=fun b o e=>h' b o (h b o e)
def Gr.new(g:C p=none)o:Gr C (gQ C p o):=fun b u e=>by
 rw[yQ (fun z=>by subst z;rw[g] at e;cases e)];exact e
def zX(h:E.nx g C):Ht E g C:=h
def uQ(h:j g C fun v C1=>u E (g.set i (some v)) C1):XW (GV i j) u E g C:=h
def dZ(h:t (E.wn (u E)) g C):XW t u E g C:=h
def c_i(h:Q v C):cC v g C Q:=h
def tQ(P:jt->CH->Prop)(h1:∀K:jt->CH->Prop,(∀g C',P g C'->K g C')->t (E.wn K) j C)(h2:∀g C',P g C'->u E g C'):XW t u E j C:=h1 _ h2
section
variable {X:Cx}{o e value i f:Expr}{es:List Expr}{pos pos':Pos}
noncomputable def QQ(f:Str)(v:PV):List (Str×PV)->List (Str×PV)
 |[]=>[(f,v)]
 | (g,x)::r=>if g=f then (g,v)::r else (g,x)::QQ f v r
theorem FP.put{K}{f}(h:Rep K H v t):∀{j}{fs},FP K H j fs->FP K H (sU f v j) (QQ f t fs):=by
 intro j fs r
 induction r with
 |nil=>exact .cons ⟨rfl,h⟩ .nil
 |@cons p q F G h' r D =>
  obtain⟨g,x⟩:=p;obtain⟨g',y⟩:=q;obtain⟨rfl,h2⟩:=h';unfold sU QQ
  by_cases e:g=f
  .rw [Ah e,Ah e];exact .cons ⟨rfl,h⟩ r
  .rw [Af e,Af e];exact .cons ⟨rfl,h2⟩ D
def FP.look{K}{f}:∀{j}{fs:List (Str×PV)},FP K H j fs->(∃v t,j.lookup f=some v/\fs.lookup f=some t/\Rep K H v t)\/(j.lookup f=none/\fs.lookup f=none):=by
 intro j fs r
 induction r with
 |nil=>exact .inr ⟨rfl,rfl⟩
 |@cons p q F G h' r D =>
  obtain⟨g,x⟩:=p;obtain⟨g',y⟩:=q;obtain⟨rfl,h2⟩:=h';unfold List.lookup
  cases e:(f==g) with
  |true=>exact .inl ⟨x,y,rfl,rfl,h2⟩
  |false=>exact D
@[irreducible] def Ji(c:Addr)(f:Str):PV->CH->K1->Prop:=fun x C Q=>match x with
 |.ref p=>match C p with
  |some (.ins g _ fs)=>g=c/\match fs.lookup f with
   |some v=>Q v C
   |none=>False
  |_=>False
 |_=>False
def kD{f}(Z:Cls X.K c)(hn:NoAttr X.K c f)(ho:CE X o J)(Y:attributeBase o f X.env (eval o X.env)=eval o X.env:=by rfl):CE X (.Attribute o f pos) (fun D C Q=>J D C fun x C1=>Ji c f x C1 Q) :=
 ⟨JE.weak ⟨pe_fld ho.h.h Y⟩ fun σ H Q zz=>fX zz fun D C R s h q O=> ⟨D,C,_,s,h,q,fun x H1 px C1 g rx h1 S=>by
  delta Ji at g
  split at g
  .next p =>
   split at g
   .next I dx fs M =>
    obtain⟨rfl,g⟩:=g
    split at g
    .next t F =>
     refine oQ (h1 p _ M) fun U N r=>?_;cases rx
     rcases FP.look r with ⟨v,t',G,j,rv⟩ | ⟨G,j⟩
     .rw [F] at j
      cases j;exact⟨p,I,dx,U,v,rfl,N,Z,hn,G,O v H1 t C1 g rv h1 S⟩
     .rw [F] at j;cases j
    .exact g.elim
   .exact g.elim
  .exact g.elim⟩⟩
@[irreducible] def KL(c:Addr)(f:Str):PV->PV->CH->(CH->Prop)->Prop:=fun x v C Q=>match x with
 |.ref p=>match C p with
  |some (.ins g dx fs)=>g=c/\fs.length < 1000/\Q (gQ C p (.ins g dx (QQ f v fs)))
  |_=>False
 |_=>False
def Z8{f}{J}(Y:Cls X.K c)(Z:NoAttr X.K c f)(ho:CE X o S)(hv:CE X value J)(hs:swapsWith value (some (.Attribute o f pos')) pos.line X.env=pure false:=by rfl):
  CS X (.Assign [.Attribute o f pos'] value pos) (fun E j C=>J j C fun v C1=>S j C1 fun x C2=>KL c f x v C2 fun O=>E.nx j O):=⟨JS.weak ⟨ps_fld ho.h.h hv.h.h hs⟩ fun ae σ H zz=>fX zz fun j C E s h q U=>
 ⟨j,C,_,s,h,q,fun v H1 af C1 q1 rv h1 F=>⟨j,C1,_,s.dm (F.dm h),h1,q1,fun x H2 px C2 g rx h2 G=>by
  have ab:=rv.dm (G.dm h1)
  delta KL at g
  split at g
  .next p =>
   split at g
   .next I dx fs M =>
    obtain⟨rfl,ql,g⟩:=g;refine oQ (h2 p _ M) fun N D r=>?_;cases rx;have m:iz H2 (upd H2 p (.ins I dx (sU f v N))):=iz.mut D rfl _;exact⟨p,I,dx,N,rfl,D,Y,Z,by exact(Paired.length r)▸ql,U.nx σ _ j _ g (((s.dm (F.dm h)).dm (G.dm h1)).dm m) (h2.put D rfl ⟨_,mQ,Paired.mapP (FP.put ab r) fun _ _ z=>⟨z.1,z.2.dm m⟩⟩) (F.trans (G.trans (Fw.put M _ _)))⟩
   .exact g.elim
  .exact g.elim⟩⟩⟩
def xE(c:Addr)(m:Str)(x:PV)(C:CH):Prop:=match x with
 |.ref p=>match C p with
  |some (.ins g _ fs)=>g=c/\fs.lookup m=none
  |_=>False
 |_=>False
def Xo{K}(d:xE c m t C)(r:Rep K H x t)(h:d8 K H C):∃a dx g,x=.ref a/\t=.ref a/\H a=some (.ins c dx g)/\g.lookup m=none:=by
 delta xE at d
 split at d
 .split at d
  .next e =>
   obtain⟨rfl,d⟩:=d;obtain⟨g,D,F⟩:=(h _ _ e);cases r;refine⟨_,_,g,rfl,rfl,D,?_⟩
   rcases FP.look F with ⟨v,t',j,q,_⟩ | ⟨j,q⟩
   .rw [q] at d;cases d
   .exact j
  .exact d.elim
 .exact d.elim
def Hu(c:Addr)(m:Str)(G:GC)(q:gj)(j:qu):gj:=fun g C Q=>q g C fun x C1=>xE c m x C1/\j g C1 fun xs C2=>G (x::xs) C2 Q
def Dv{apos}{pl}(hc:Cls X.K c)(ab:G8 X.K c m U)(F:FnOk X.prog X.w X.K X.mg X.base CX k U fd ps (p7 X.K G))(hr:Room k X.A)(hb:Binds X.K fd ps [])(hx:jW CX X E)(ho:CE X o M)(Z:CA X (e::es) J)(af:starEach (e::es) X.env=(false,eval e X.env)::starEach es X.env:=by rfl)(ae:(backTo pos (starEach es X.env)).any (·.1)=false:=by rfl)(ht:eval (.Call (.Attribute o m apos) (e::es) [] pos) X.env=(do
   let j <- eval o X.env
   standAt apos.atName
   let (f,first) <- holding [j] (getMethod j m pl)
   callWith pos f first (backTo pos (starEach (e::es) X.env)) (backToKw pos (keywordEach [] X.env))):=by rfl):
  CE X (.Call (.Attribute o m apos) (e::es) [] pos) (Hu c m G M J) :=
 ⟨JE.weak ⟨pe_meth ho.h.h hc ab F hr hb .nil hx Z.h.h af ae ht⟩ fun σ H Q zz=>fX zz fun I C R s h q f=> ⟨I,C,_,s,h,q,fun x H1 px C1 D rx h1 g=>by
  obtain⟨a,dx,Y,rfl,rfl,N,lk⟩:=Xo D.1 rx h1
  exact⟨a,dx,Y,rfl,N,lk,I,C1,_,s.dm (g.dm h),h1,D.2,fun xs H2 ts C2 q2 rs h2 S=>⟨.ref a::ts,C2,R,.cons (.ref a) (by grind),h2,q2,fun v H' t C' q' r' h' O=>f v H' t C' q' r' h' (g.trans (S.trans O))⟩⟩⟩⟩
def RN(c:Addr)(G:GC)(g:qu):gj:=fun j C Q=>g j C fun xs C1=>∀x dx,C1 x=none->C1 dx=none->dx≠x->G (.ref x::xs) (gQ C1 x (.ins c dx [])) fun v C2=>v=.non/\Q (.ref x) C2
def KC{p}(M:Mk X.K c S)(F:FnOk X.prog X.w X.K X.mg X.base CX k S fd ps (p7 X.K G))(hr:Room (k+1) X.A)(hg:Gl X x)(ab:X.mg x=some (.ref c))(Y:Binds X.K fd ps [])(hx:jW CX X E)(U:CA X (e::es) J)(Z:(x==("__debug__" : Str))=false:=by decide)(af:starEach (e::es) X.env=(false,eval e X.env)::starEach es X.env:=by rfl)(ae:(backTo pos (starEach es X.env)).any (·.1)=false:=by rfl):CE X (.Call (.Name x p) (e::es) [] pos) (RN c G J) :=
 ⟨JE.weak ⟨pe_make M F hr hg ab Y .nil hx U.h.h Z af ae⟩ fun σ H Q zz=>fX zz fun ρ C R s h q f=> ⟨ρ,C,_,s,h,q,fun xs H1 ts C1 q1 rs h1 O=>fun y dx hy g I=>by
  have j:upd H1 dx (.own y) y=none:=by rwa [fQ (Ne.symm I)]
  have k2:iz (upd H1 dx (.own y)) (upd (upd H1 dx (.own y)) y (.ins c dx [])):=iz.new j _;refine⟨.ref y::ts,gQ C1 y (.ins c dx []),_,.cons (.ref y) (by rw[Ai];exact(rs.dm (iz.new g _)).dm k2),(h1.new g (.own y)).lay j ⟨[],mQ,.nil⟩,q1 y dx (h1.fresh hy) (h1.fresh g) I,fun v H' t C' D r' h' N=>?_⟩;obtain⟨rfl,D⟩:=D;cases r'
  exact⟨rfl,f _ H' _ C' D (.ref y) h' (O.trans (((Fw.new g _).trans (Fw.lay j _ _)).trans N))⟩⟩⟩
end
end CL
namespace L2
open PySem PySem.Spec PyProof.Rows PySem.W
section
variable {X:Cx}
def Jf:CallR X (.type "dict") (fun xs H Q=>∃a kvs,xs=[.ref a]/\H a=some (.dK kvs)/\∀p,H p=none->Q (.ref p) (upd H p (.dK kvs))):=by
 intro pins s σ H xs J Q I r h;obtain⟨a,kvs,rfl,D,q⟩:=h;obtain⟨u,rfl,rfl⟩:=r.one;obtain⟨z,F,vs,g,j⟩:=eR I.hok D;refine kt_call_dict F j (by rwa [<- g.length]) fun h' G hs=>?_;refine⟨.ref s.heap.objs.size,_,I.laid (t':=s.toks) (fun b o e=>hs.extBut b o (AY (AG e)) (AC _ e)) (AH _) ?_,rfl,q _ (I.hok.fresh (AH _))⟩;exact⟨z,Cr (Ar I.big),vs,g,G⟩
end
end L2
namespace CL
open PySem PySem.Spec L2 PySem.W
open PyProof.Rows hiding St
noncomputable def eF:List PV->Option (List Key)
 |[]=>some []
 |t::r=>match eV t,eF r with
  |some k,some g=>some (k::g)
  |_,_=>none
noncomputable def cF:PV->Option (List Key)
 |.tup ts=>eF ts
 |_=>none
def ZN{K}(r:d7 K H vs ts)(e:eF ts=some g):vs=g.map kV:=by
 induction ts generalizing vs g with
 |nil=>cases r;cases e;rfl
 |cons t ts D =>
  cases r with
  |cons h r =>
   unfold eF at e
   split at e
   .next k F j q=>cases e;rw[nG h j,D r q];rfl
   .cases e
def iU{K}(r:Rep K H v t)(e:cF t=some g):∃b,v=.ref b/\H b=some (.tup (g.map kV)):=by
 cases r<;>try (cases e)
 next a vs ts h r=>exact⟨a,rfl,by rw[h,ZN r e]⟩
section
variable {κ:Type}[DecidableEq κ]
noncomputable def jV(kvs:List (κ×PV))(k:κ):Option PV:=(kvs.find? fun g=>decide (g.1=k)).map (·.2)
noncomputable def iT(kvs:List (κ×PV))(k:κ)(v:PV):List (κ×PV):=if (kvs.any fun g=>decide (g.1=k))=true then kvs.map fun g=>if g.1=k then (g.1,v) else g else kvs++[(k,v)]
noncomputable def je(kvs j:List (κ×PV)):List (κ×PV):=j.foldl (fun acc g=>iT acc g.1 g.2) kvs
def FP.val{K}(r:FP K H vs kvs)(k:κ):(∃v t,aY vs k=some v/\jV kvs k=some t/\Rep K H v t)\/(aY vs k=none/\jV kvs k=none):=by
 induction r with
 |nil=>exact .inr ⟨rfl,rfl⟩
 |@cons p q j D h r g =>
  delta aY jV
  rw[A3,A3,h.1]
  by_cases e:q.1=k
  .simp_all
  .rwa [AN e]
def FP.Uy{K}(r:FP K H vs kvs)(k:κ):(vs.any fun g=>decide (g.1=k))=(kvs.any fun g=>decide (g.1=k)):=by
 induction r with
 |nil=>rfl
 |@cons p q D F h r j=>rw[BI,BI,h.1,j]
theorem FP.iT{K}(r:FP K H vs kvs)(k:κ)(h:Rep K H v t):FP K H (xV vs k v) (CL.iT kvs k t):=by
 delta xV CL.iT
 rw[FP.Uy r k]
 have D:FP K H (vs.map fun g=>if g.1=k then (g.1,v) else g) (kvs.map fun g=>if g.1=k then (g.1,t) else g):=by
  induction r with
  |nil=>exact .nil
  |@cons p q F G h' r j =>
   refine .cons ?_ j
   by_cases e:q.1=k
   .lia
   .lia
 split
 .exact D
 .exact Paired.snoc r ⟨rfl,h⟩
end
section
variable {X:Cx}{a b c e o i f value:Expr}{es:List Expr}{pos pos':Pos}
def Rw:gj:=fun _ C Q=>∀p,C p=none->Q (.ref p) (gQ C p (.dT []))
def sI:CE X (.Dict [] [] pos) Rw:=⟨JE.weak ⟨Ya⟩ fun σ H Q j=>fX j fun D C R s h q f=> fun p g=>f (.ref p) _ (.ref p) _ (q p (h.fresh g)) (.ref p) (h.lay g ⟨[],mQ,.nil⟩) (Fw.lay g _ _)⟩
@[irreducible] def Eh:m9:=fun x y C Q=>match x with
 |.ref a=>match C a,cF y with
  |some (.dT kvs),some k=>match jV kvs k with
   |some v=>Q v C
   |none=>False
  |_,_=>False
 |_=>False
def MT(Z:X.A.units+1 < cLine)(Y:CE X o M)(hi:CE X i J)(hs:V8 i):CE X (.Subscript o i pos) (qp Eh M J):=⟨JE.weak ⟨J6 Z Y.h.h hi.h.h hs⟩ fun σ H Q zz=>fX zz fun I C R s h q f=>
 ⟨I,C,_,s,h,q,fun x H1 px C1 q1 rx h1 F=>⟨I,C1,_,s.dm (F.dm h),h1,q1,fun y H2 ae C2 g ry h2 G=>by
  delta Eh at g
  split at g
  .next a =>
   split at g
   .next kvs k N O =>
    split at g
    .next t D =>
     have ab:=rx.dm (G.dm h1);cases ab;refine oQ (h2 a _ N) fun vs U r=>?_;obtain⟨b,rfl,S⟩:=iU ry O
     rcases FP.val r k with ⟨v,t',l1,j,rv⟩ | ⟨_,j⟩
     .rw [D] at j
      cases j;exact⟨a,v,rfl,by exact l1▸DGet.t U S,f v H2 t C2 g rv h2 (F.trans G)⟩
     .rw [D] at j;cases j
    .exact g.elim
   .exact g.elim
  .exact g.elim⟩⟩⟩
def YS(x:PV)(C:CH):Prop:=match x with
 |.ref a=>match C a with
  |some (.dT _)=>True
  |_=>False
 |_=>False
def yq{K}(d:YS t C)(r:Rep K H x t)(h:d8 K H C):∃a kvs,x=.ref a/\t=.ref a/\H a=some (.dT kvs):=by
 delta YS at d
 split at d
 .split at d
  .next e=>obtain⟨vs,g,_⟩:=(h _ _ e);cases r;exact⟨_,vs,rfl,rfl,g⟩
  .exact d.elim
 .exact d.elim
@[irreducible] def KF:PV->PV->PV->CH->K1->Prop:=fun x y z C Q=>match x with
 |.ref a=>match C a,cF y with
  |some (.dT kvs),some k=>Q ((jV kvs k).getD z) C
  |_,_=>False
 |_=>False
def M7(D q F:gj):gj:=fun g C Q=>D g C fun x C1=>YS x C1/\q g C1 fun y C2=>F g C2 fun z j=>KF x y z j Q
def XQ{apos cpos}(hu:X.A.units+1 < cLine)(ho:CE X o ab)(ae:CE X e Z)(af:CE X f cz)(hb:attributeBase o "get" X.env (eval o X.env)=eval o X.env:=by rfl)(hl:(apos.endLine==cpos.line)=true:=by rfl)(h1:yX e=true:=by rfl)(h2:yX f=true:=by rfl):CE X (.Call (.Attribute o "get" apos) [e,f] [] cpos) (M7 ab Z cz):=⟨JE.weak ⟨QS hu ho.h.h ae.h.h af.h.h (Hm hb hl h1 h2)⟩ fun σ H Q zz=>fX zz fun M C R s h q f=>
 ⟨M,C,_,s,h,q,fun x H1 px C1 Y rx h1 j=>by
  obtain⟨a,kvs,rfl,rfl,e1⟩:=yq Y.1 rx h1;refine⟨a,rfl,.inr ⟨kvs,.inl e1⟩,M,C1,_,s.dm (j.dm h),h1,Y.2,fun y H2 ah C2 q2 ry h2 D=>⟨M,C2,_,(s.dm (j.dm h)).dm (D.dm h1),h2,q2,fun z O pz N g rz G F=>?_⟩⟩;unfold KF at g;dsimp only at g
  split at g
  .next ag k d1 d2 =>
   refine oQ (G a _ d1) fun vs U r=>?_;obtain⟨b,rfl,S⟩:=iU (ry.dm (F.dm h2)) d2
   rcases FP.val r k with ⟨v,t',I,J,rv⟩ | ⟨I,J⟩
   .rw [J] at g
    exact⟨some v,by exact I▸DGet.t U S,f v O t' N g rv G (j.trans (D.trans F))⟩
   .rw [J] at g
    exact⟨none,by exact I▸DGet.t U S,f z O pz N g rz G (j.trans (D.trans F))⟩
  .exact g.elim⟩⟩
@[irreducible] def KI:PV->PV->PV->CH->(CH->Prop)->Prop:=fun x y v C Q=>match x with
 |.ref a=>match C a,cF y with
  |some (.dT kvs),some k=>kvs.length < sizeLine/\Q (gQ C a (.dT (iT kvs k v)))
  |_,_=>False
 |_=>False
def Rv(F D G:gj):kh:=fun E g C=>G g C fun v C1=>F g C1 fun x C2=>D g C2 fun y j=>KI x y v j fun q=>E.nx g q
def fI{M N}(hu:X.A.units+1 < cLine)(ho:CE X o U)(hi:CE X i M)(hv:CE X value N)(hs:swapsWith value (some (.Subscript o i pos')) pos.line X.env=pure false:=by rfl):
  CS X (.Assign [.Subscript o i pos'] value pos) (Rv U M N):=⟨JS.weak ⟨J2 hu ho.h.h hi.h.h hv.h.h hs⟩ fun af σ H zz=>fX zz fun G C E s h q f=>
 ⟨G,C,_,s,h,q,fun v H1 ag C1 q1 rv h1 j=>⟨G,C1,_,s.dm (j.dm h),h1,q1,fun x H2 px C2 q2 rx h2 D=>⟨G,C2,_,(s.dm (j.dm h)).dm (D.dm h1),h2,q2,fun y J ah C3 g ry S F=>by
  have ab:=rv.dm ((D.trans F).dm h1)
  delta KI at g
  split at g
  .next a =>
   split at g
   .next kvs k O Y =>
    have ae:=rx.dm (F.dm h2);cases ae;refine oQ (S a _ O) fun vs I r=>?_;obtain⟨b,rfl,Z⟩:=iU ry Y;have m:iz J (upd J a (.dT (xV vs k v))):=iz.mut I rfl _;refine⟨a,_,rfl,DPut.t I Z ((Paired.length r)▸g.1),f.nx σ _ G _ g.2 ((((s.dm (j.dm h)).dm (D.dm h1)).dm (F.dm h2)).dm m) (S.put I rfl ⟨_,mQ,Paired.mapP (FP.iT r k ab) fun _ _ z=>⟨z.1,z.2.dm m⟩⟩) (j.trans (D.trans (F.trans (Fw.put O _ _))))⟩
   .exact g.elim
  .exact g.elim⟩⟩⟩⟩
@[irreducible] def Et:GC:=fun ts C Q=>match ts with
 |[.int i,.int j]=>Q (.int (if j > i then j else i)) C
 |_=>False
@[irreducible] def Es:GC:=fun ts C Q=>match ts with
 |[.int i,.int j]=>Q (.int (if j < i then j else i)) C
 |_=>False
def Ea{K}:qe K (fun xs H Q=>∃i j,xs=[.int i,.int j]/\Q (.int (if j > i then j else i)) H) Et:=fun xs ts H C Q R rs h q f=>by
 delta Et at q
 split at q
 .obtain ⟨F,G,rfl,g,D⟩:=uM rs
  cases g;cases D
  exact⟨_,_,rfl,f _ H _ C q (.int _) h Fw.refl⟩
 .exact q.elim
def tI{K}:qe K (fun xs H Q=>∃i j,xs=[.int i,.int j]/\Q (.int (if j < i then j else i)) H) Es:=fun xs ts H C Q R rs h q f=>by
 delta Es at q
 split at q
 .obtain ⟨F,G,rfl,g,D⟩:=uM rs
  cases g;cases D
  exact⟨_,_,rfl,f _ H _ C q (.int _) h Fw.refl⟩
 .exact q.elim
@[irreducible] def Qi:GC:=fun ts C Q=>match ts with
 |[.ref a]=>match C a with
  |some (.dK kvs)=>∀p,C p=none->Q (.ref p) (gQ C p (.dK kvs))
  |_=>False
 |_=>False
def VX{K}:qe K (fun xs H Q=>∃a kvs,xs=[.ref a]/\H a=some (.dK kvs)/\∀p,H p=none->Q (.ref p) (upd H p (.dK kvs))) Qi:=fun xs ts H C Q R rs h q f=>by
 delta Qi at q
 split at q
 .split at q
  .next kvs e =>
   obtain⟨v,rfl,r⟩:=oX rs;obtain⟨vs,j,D⟩:=(h _ _ e);cases r;exact⟨_,vs,rfl,j,fun p g=>f _ _ _ _ (q p (h.fresh g)) (.ref p) (h.lay g ⟨vs,mQ,Paired.mapP D fun _ _ z=>⟨z.1,z.2.dm (iz.new g _)⟩⟩) (Fw.lay g _ _)⟩
  .exact q.elim
 .exact q.elim
@[irreducible] def Uq:PV->List PV->CH->K1->Prop:=fun x ts C Q=>match x,ts with
 |.ref a,[y]=>match C a,eV y with
  |some (.lst xs),some k=>match eF xs with
   |some g=>Q (.int (cntK k g:Nat)) C
   |none=>False
  |_,_=>False
 |_,_=>False
@[irreducible] def SM:PV->List PV->CH->K1->Prop:=fun x ts C Q=>match x,ts with
 |.ref a,[.bl true]=>match C a with
  |some (.lst xs)=>∃(bs:List Bool)(j:Nat),xs=bs.map PV.bl/\bs[j]?=some true/\(∀m,m < j->bs[m]?=some false)/\Q (.int (j:Nat)) C
  |_=>False
 |_,_=>False
@[irreducible] def cEqT(k:Bool->Bool):m9:=fun x y C Q=>match cF x,cF y with
 |some j,some g=>Q (.bl (k (decide (j=g)))) C
 |_,_=>False
noncomputable def Kp:PV->Option V
 |.non=>some .non
 |.bl b=>some (.bl b)
 |.int i=>some (.int i)
 |.str x=>some (.str x)
 |_=>none
def bE{K}(r:Rep K H v t)(e:Kp t=some w):v=w/\fF w=true:=by
 cases r<;>cases e<;>exact⟨rfl,rfl⟩
noncomputable def rR:List PV->Option (List V)
 |[]=>some []
 |t::r=>match Kp t,rR r with
  |some v,some vs=>some (v::vs)
  |_,_=>none
def Z2{K}(r:d7 K H vs ts)(e:rR ts=some g):vs=g/\g.all fF=true:=by
 induction ts generalizing vs g with
 |nil=>cases r;cases e;exact⟨rfl,rfl⟩
 |cons t ts G =>
  cases r with
  |cons h r =>
   unfold rR at e
   split at e
   .next v I j q =>
    cases e;obtain⟨rfl,D⟩:=bE h j;obtain⟨rfl,F⟩:=G r q;exact⟨rfl,by rw[DI,D,F];rfl⟩
   .cases e
noncomputable def Ib(C:CH):PV->Option (List PV)
 |.tup xs=>some xs
 |.kt xs=>some xs
 |.ref a=>match C a with
  |some (.lst xs)=>some xs
  |_=>none
 |_=>none
@[irreducible] def Ey(g:Bool):m9:=fun x y C Q=>match Ib C y,Kp x with
 |some ts,some v=>match rR ts with
  |some vs=>Q (.bl (if g then !inV v vs else inV v vs)) C
  |none=>False
 |_,_=>False
def zx{K}: j8 K (rIn K O) (Ey O):=fun x y Z ab H C Q R U Y h q f=>by
 delta Ey at q
 split at q
 .next ts v g F =>
  split at q
  .next vs G =>
   obtain⟨rfl,J⟩:=bE U F
   have N:∃p j,y=.ref p/\(SqL K H p j\/SqT K H p j)/\d7 K H j ts:=by
    cases Y<;>try (cases g)
    .next a =>
     delta Ib at g
     dsimp only at g
     split at g
     .next xs e =>
      cases g;exact oQ (h _ _ e) fun D I S=>⟨a,D,rfl,.inl (SqL.of I),S⟩
     .cases g
    .next p D M r=>exact⟨p,D,rfl,.inr (SqT.of M),r⟩
    .grind
   obtain⟨p,j,rfl,hs,rs⟩:=N;obtain⟨rfl,fs⟩:=Z2 rs G;exact⟨p,j,rfl,hs,J,fs,f _ H _ C q (.bl _) h Fw.refl⟩
  .exact q.elim
 .exact q.elim
@[irreducible] def cRepL:m9:=fun x y C Q=>match x,y with
 |.ref a,.int k=>match C a with
  |some (.lst xs)=>-(2 ^ 63)<=k/\k < 2 ^ 63/\xs.length * k.toNat<=sizeLine/\∀p,C p=none->Q (.ref p) (gQ C p (.lst (List.replicate k.toNat xs).flatten))
  |_=>False
 |.tup [z],.int k=>0<=k/\k < 64/\Q (.tup (List.replicate k.toNat z)) C
 |_,_=>False
end
noncomputable def wC:List Key->Option (List Str)
 |[]=>some []
 |.inr x::r=>(wC r).map (x :: ·)
 |_=>none
def K0(e:wC g=some zs):g=zs.map Sum.inr:=by
 induction g generalizing zs with
 |nil=>cases e;rfl
 |cons k g j =>
  rcases k with k | x
  .cases e
  .unfold wC at e
   cases z:wC g with
   |none=>rw[z] at e;cases e
   |some q=>rw[z] at e;cases e;rw[j z];rfl
noncomputable def HR:List (List Key×PV)->Option (List (List Str×Int))
 |[]=>some []
 | (k,.int i)::r=>match wC k,HR r with
  |some zs,some cs=>some ((zs,i)::cs)
  |_,_=>none
 |_=>none
def HQ(e:HR kvs=some cs):kvs=cs.map fun c=>(c.1.map Sum.inr,PV.int c.2):=by
 induction kvs generalizing cs with
 |nil=>cases e;rfl
 |cons p kvs q =>
  unfold HR at e
  split at e
  .lia
  .rename_i k i r h
   cases h
   split at e
   .next zs ds g j=>cases e;rw[q j,K0 g];rfl
   .cases e
  .cases e
def bY(c:List Str×Int):PV:=.tup [.tup (c.1.map PV.str),.int c.2]
noncomputable def HN(cs:List (List Str×Int)):Nat->Nat->Bool:=fun i j=>O1 (cs.getD i ([],0)) (cs.getD j ([],0))
def Vg(cs:List (List Str×Int)):List (List Str×Int):=(yU (HN cs) (kas_sort cs.length)).toList.map fun i=>cs.getD i ([],0)
section
variable {K:Dm}{H:Hp}{X:Cx}
theorem QB:∀zs:List Str,d7 K H (zs.map V.str) (zs.map PV.str)
 |[]=>.nil
 |z::zs=>.cons (.str z) (QB zs)
def Yf d g(r:d7 K H ys ts):d7 K H (sF g ys) ((yU g (kas_sort ts.length)).toList.map fun i=>ts.getD i d):=by
 have D:=r.len
 delta sF
 rw[D]
 have q:∀i∈(yU g (kas_sort ts.length)).toList,i < ys.length:=by
  intro i hi
  by_cases h:0 < ts.length
  .exact D▸BQ.mp ((cY g ts.length h).mem_iff.mp hi)
  .have e:ts.length=0:=by lia
   rw[e,WC] at hi;cases hi
 generalize (yU g (kas_sort ts.length)).toList=l at q ⊢
 induction l with
 |nil=>exact .nil
 |cons i l G=>exact .cons (r.getD i (q i AE)) (G fun j F=>q j (AI _ F))
def HJ(cs:List (List Str×Int))(l:List Nat):(l.map fun i=>(cs.map bY).getD i (bY ([],0)))=(l.map fun i=>cs.getD i ([],0)).map bY :=by simp_all
@[irreducible] def nN(g:gj):gj:=fun j C Q=>g j C fun x C1=>match x with
 |.ref a=>match C1 a with
  |some (.dT _)=>Q (.vw a) C1
  |_=>False
 |_=>False
def VT{apos cpos}(N:CE X o G)(J:attributeBase o "items" X.env (eval o X.env)=eval o X.env:=by rfl)(M:(apos.endLine==cpos.line)=true:=by rfl):CE X (.Call (.Attribute o "items" apos) [] [] cpos) (nN G) :=
 ⟨JE.weak ⟨Zr F.plainAttrs_dict DF F.type_dict_items Vr N.h.h J M⟩ fun σ H Q S=>fX S fun U C R s h q f=> by
 delta nN at q
 exact⟨U,C,_,s,h,q,fun x H1 Y C1 g O h1 I=>by
  split at g
  .split at g
   .next kvs e =>
    refine oQ (h1 _ _ e) fun vs j r=>?_;cases O;exact⟨.inr (.inr (.inl ⟨rfl,.inr ⟨vs,j⟩⟩)),_,vs,rfl,rfl,j,fun v D=>f _ _ _ _ g (.vw mQ) (h1.new D _) (I.trans (Fw.new D _))⟩
   .exact g.elim
  .exact g.elim⟩⟩
@[irreducible] def tL:GC:=fun ts C Q=>match ts with
 |[.vw a]=>match C a with
  |some (.dT kvs)=>match HR kvs with
   |some cs=>cs.length < 64/\∀p,C p=none->Q (.ref p) (gQ C p (.lst ((Vg cs).map bY)))
   |none=>False
  |_=>False
 |_=>False
abbrev WK(X:Cx):List V->Hp->VK->Prop:=fun xs H Q=>∃v d kvs lt,xs=[.ref v]/\H v=some (.ext (iY v d))/\H d=some (.dT kvs)/\kvs.length < 64 /\
  ∀as H1,Same H H1->Nj H1 as kvs->(∀a∈as,H a=none)->(∀a,H a=none->H1 a≠none->a∈as)->Fj X H1 (List.map V.ref as) lt/\∀p,H1 p=none->Q (.ref p) (upd H1 p (.lst (sF lt (List.map V.ref as))))
def NZ{cs:List (List Str×Int)}(r:Nj H as kvs)(e:FP K H kvs (cs.map fun c=>(c.1.map Sum.inr,PV.int c.2))):
  d7 K H (as.map V.ref) (cs.map bY)/\∀i,i < as.length->aS H ((as.map V.ref).getD i .non) (cs.getD i ([],0)):=by
 induction r generalizing cs with
 |nil =>
  cases cs with
  |nil=>exact⟨.nil,fun i hi=>absurd hi (Bu i)⟩
  |cons c cs=>cases e
 |@cons a b k v as kvs h1 h2 r F =>
  cases cs with
  |nil=>cases e
  |cons c cs =>
   cases e with
   |cons h e =>
    obtain⟨g,j⟩:=h;obtain⟨q,D⟩:=F e;subst g;cases j;rw[ZR] at h2;refine⟨.cons (.tup h1 (.cons (.tup h2 (QB c.1)) (.cons (.int _) .nil))) q,fun i hi=>?_⟩
    cases i with
    |zero=>exact⟨a,b,rfl,h1,h2⟩
    |succ i=>exact D i (Bp hi)
def XS(M:X.A.units+2 < cLine):qe X.K (WK X) tL:=fun xs ts H C Q R rs h q f=>by
 delta tL at q
 split at q
 .obtain ⟨v,rfl,r⟩:=oX rs
  split at q
  .next kvs e =>
   split at q
   .next cs G =>
    have ex:=HQ G;subst ex;obtain⟨vs,I,F⟩:=(h _ _ e)
    cases r with
    |vw N =>
     have J:vs.length=cs.length:=by rw[Paired.length F,AB]
     refine⟨_,_,vs,HN cs,rfl,N,I,by rw[J];exact q.1,fun as H1 j O U Y=>?_⟩;obtain⟨rr,S⟩:=NZ O (Paired.mapP F fun _ _ z=>⟨z.1,z.2.dm fun b v _ e=>j b v e⟩);refine⟨K2 M _ (fun i hi=>S i (by grind)),fun p g=>?_⟩;have h1:=rP h j;have D:=Yf (bY ([],0)) (HN cs) rr;rw[AB,HJ] at D;exact f _ _ _ _ (q.2 p (h1.fresh g)) (.ref p) (h1.lay g ⟨_,mQ,D.dm (iz.new g _)⟩) ((yI j).trans (Fw.lay g _ _))
   .exact q.elim
  .exact q.elim
 .exact q.elim
end
def Jh:List (gj×gj)->jt->CH->(List (PV×PV)->CH->Prop)->Prop
 |[],_,C,Q=>Q [] C
 | (q,D)::r,g,C,Q=>q g C fun x C1=>D g C1 fun y C2=>Jh r g C2 fun ps j=>Q ((x,y)::ps) j
abbrev RPs(K:Dm)(H:Hp):List (V×V)->List (PV×PV)->Prop:=Paired fun p q=>Rep K H p.1 q.1/\Rep K H p.2 q.2
def Hn(K:Dm)(cs:List (gj×gj)):List (TE×TE):=cs.map fun p=>(bJ K (Rep K) p.1,bJ K (Rep K) p.2)
structure SX(X:Cx)(pos:Pos)(keys:List (Option Expr))(values:List Expr)(cs:List (gj×gj)):Prop where
 h:PPs X pos keys values (Hn X.K cs)
def zp: SX X pos [] [] []:=⟨pps_nil⟩
def tG{g}(q:CE X k j)(F:CE X v g)(D:SX X pos G vs cs):SX X pos (some k::G) (v::vs) ((j,g)::cs):=⟨W1 q.h.h F.h.h D.h⟩
def ZJ{K}: ∀{cs}{H}{C}{R}{Q},gq K H σ F->d8 K H C->Jh cs F C R ->
  (∀vs H' ts C',R ts C'->RPs K H' vs ts->d8 K H' C'->Fw H C H' C'->Q vs H')->yA (Hn K cs) σ H Q:=by
 intro cs
 induction cs with
 |nil=>intro H C R Q s h q f;exact f [] H [] C q .nil h Fw.refl
 |cons p cs M =>
  obtain⟨ck,ab⟩:=p;intro H C R Q s h q f;exact⟨F,C,_,s,h,q,fun x H1 px C1 N Y h1 g=>⟨F,C1,_,s.dm (g.dm h),h1,N,fun y H2 ae C2 O Z h2 j=>M ((s.dm (g.dm h)).dm (j.dm h1)) h2 O fun vs I ts G S U J D=>f _ I _ G S (.cons ⟨(Y.dm (j.dm h1)).dm (D.dm h2),Z.dm (D.dm h2)⟩ U) J (g.trans (j.trans D))⟩⟩
noncomputable def Om:List (PV×PV)->Option (List (Key×PV))
 |[]=>some []
 | (x,y)::r=>match eV x,Om r with
  |some k,some ps=>some ((k,y)::ps)
  |_,_=>none
def vm{K}(r:RPs K H vs ts)(e:Om ts=some ps):∃kvs,vs=kvs.map (fun g=>(kV g.1,g.2))/\KP K H kvs ps:=by
 induction r generalizing ps with
 |nil=>cases e;exact⟨[],rfl,.nil⟩
 |@cons p q M N h r G =>
  obtain⟨x,y⟩:=q;unfold Om at e
  split at e
  .next k O j D =>
   cases e;obtain⟨kvs,rfl,I⟩:=G D;obtain⟨S,J⟩:=p;have F:=nG h.1 j;subst F;exact⟨(k,J)::kvs,rfl,.cons ⟨rfl,h.2⟩ I⟩
  .cases e
noncomputable def UV:List (PV×PV)->Option (List (List Key×PV))
 |[]=>some []
 | (x,y)::r=>match cF x,UV r with
  |some k,some ps=>some ((k,y)::ps)
  |_,_=>none
def FP.je{K}(m:FP K H G F):∀{vs}{kvs},FP K H vs kvs->FP K H (vU vs G) (CL.je kvs F):=by
 induction m with
 |nil=>intro vs kvs r;exact r
 |@cons p q j D h _ g =>
  intro vs kvs r;show FP K H (vU (xV vs p.1 p.2) j) (CL.je (CL.iT kvs q.1 q.2) D);rw[h.1];exact g (FP.iT r q.1 h.2)
section
variable {X:Cx}{pos:Pos}{keys:List (Option Expr)}{values:List Expr}{cs:List (gj×gj)}
@[irreducible] def rN(p:Addr):List (PV×PV)->CH->K1->Prop:=fun ts C Q=>C p=some (.dK [])/\match Om ts with
 |some ps=>ps.length<=15/\Q (.ref p) (gQ C p (.dK (hW [] ps)))
 |none=>False
def RV(cs:List (gj×gj)):gj:=fun g C Q=>∀p,C p=none->Jh cs g (gQ C p (.dK [])) fun ts C2=>rN p ts C2 Q
def Dw(h:SX X pos keys values cs)(O:keys.all (·.isSome)=true:=by rfl)(S:keys.length=values.length:=by rfl)(h0:keys≠[]:=by exact fun z=>nomatch z)(N:keys.length<=15:=by decide):CE X (.Dict keys values pos) (RV cs) :=
 ⟨JE.weak ⟨pe_disp h.h O S h0 N⟩ fun σ H Q zz=>fX zz fun ρ C R s G q f=> fun p j=>by
  refine ZJ (C:=gQ C p (.dK [])) (s.dm (iz.new j _)) (G.lay j ⟨[],mQ,.nil⟩) (q p (G.fresh j)) fun vs H2 ts C2 g U h2 M=>?_;unfold rN at g;obtain⟨F,g⟩:=g
  split at g
  .next ps J =>
   obtain⟨kvs,rfl,I⟩:=vm U J;obtain⟨Z,D,Y⟩:=(h2 p _ F);have z:Z=[]:=by cases Y;rfl
   subst z;refine⟨D,kvs,rfl,by exact(Paired.length I)▸g.1,?_⟩;exact f _ _ _ _ g.2 (.ref p) (h2.put D rfl ⟨_,mQ,Paired.mapP (KP.merge .nil I) fun _ _ z=>⟨z.1,z.2.dm (iz.mut D rfl _)⟩⟩) ((Fw.lay j _ _).trans (M.trans (Fw.put F _ _)))
  .exact g.elim⟩
@[irreducible] def RC(p:Addr):List (PV×PV)->CH->K1->Prop:=fun ts C Q=>C p=some (.dT [])/\match UV ts with
 |some ps=>ps.length<=15/\Q (.ref p) (gQ C p (.dT (je [] ps)))
 |none=>False
end
def dB(g:Room k A):A.units+2 < cLine:=by have:=g.un;lia
def kI{A:Around}{k:Nat}(g:Room k A):A.units < cLine:=by have:=g.un;omega
section
variable {C:CH}{p:Addr}{Q:K1}{x y v z:PV}
def lR(m:C p=some (.ins c dx fs))(e:fs.lookup f=some v)(q:Q v C):Ji c f (.ref p) C Q :=by simp_all[Ji]
def Zn{Q}(m:C p=some (.ins c dx fs))(h:fs.length < 1000)(q:Q (gQ C p (.ins c dx (QQ f v fs)))):KL c f (.ref p) v C Q :=by simp_all[KL]
def zZ(m:C p=some (.ins c dx fs))(e:fs.lookup f=none):xE c f (.ref p) C:=by
 delta xE
 dsimp only;exact m▸⟨rfl,e⟩
def YR(m:C p=some (.dT kvs)):YS (.ref p) C:=by
 delta YS
 dsimp only;rw[m]
 trivial
def NQ(m:C p=some (.dT kvs))(g:cF y=some k)(j:jV kvs k=some v)(q:Q v C):Eh (.ref p) y C Q:=by
 delta Eh
 dsimp only;rw[m,g];dsimp only
 rwa [j]
def Wp(m:C p=some (.dT kvs))(g:cF y=some k)(j:(jV kvs k).getD z=v)(q:Q v C):KF (.ref p) y z C Q:=by
 delta KF
 dsimp only;rw[m,g];dsimp only
 rwa [j]
def Zb{Q}(m:C p=some (.dT kvs))(g:cF y=some k)(h:kvs.length<=1000)(q:Q (gQ C p (.dT (iT kvs k v)))):KI (.ref p) y v C Q:=by
 delta KI
 dsimp only;exact m▸g▸⟨Ak h (by decide),q⟩
def bV(m:C p=some (.dK kvs))(g:eV y=some k)(j:sJ kvs k=some v)(q:Q v C):eT (.ref p) y C Q:=by
 delta eT
 dsimp only;rw[m,g];show(match sJ kvs k with | some v=>Q v C | none=>False)
 rwa [j]
def Ml(m:C p=some (.dK kvs))(g:eV y=some k)(j:(sJ kvs k).getD z=v)(q:Q v C):KN (.ref p) y z C Q:=by
 delta KN
 dsimp only;rw[m,g];show Q ((sJ kvs k).getD z) C
 rwa [j]
def wG{Q}(m:C p=some (.dK kvs))(g:eV y=some k)(h:kvs.length<=1000)(q:Q (gQ C p (.dK (kJ kvs k v)))):mS (.ref p) y v C Q:=by
 delta mS
 dsimp only;exact m▸g▸⟨Ak h (by decide),q⟩
def YV(m:C p=some (.dK kvs)):ZW (.ref p) C:=by
 delta ZW
 dsimp only;rw[m]
 trivial
def zf(m:C p=some (.dK kvs))(q:∀g,C g=none->Q (.ref g) (gQ C g (.dK kvs))):Qi [.ref p] C Q:=by
 delta Qi
 dsimp only
 rwa [m]
def YX{g:Bool}(h1:Ib C y=some ts)(h2:Kp x=some w)(j:rR ts=some vs)(q:Q (.bl (if g then !inV w vs else inV w vs)) C):Ey g x y C Q :=by simp_all[Ey]
def Mq(h:q j C fun t C1=>match t with | .tup xs=>iG g u E xs j C1 | .kt xs=>iG g u E xs j C1 | _=>False):rE q g u E j C:=by
 delta rE
 exact h
end
def uC(m:C p=some (.lst (cs.map dQ)))(h:cs.length < 64)(q:∀g,C g=none->Q (.ref g) (gQ C g (.lst ((kU cs).map dQ)))):qF [.ref p] C Q:=by
 delta qF
 dsimp only;rw[m];dsimp only;rw[QH];exact⟨h,q⟩
def aF(q:j[i]?=some (some (.tup xs)))(h:iG g u E xs j C):rE (jJ i) g u E j C:=by
 delta rE jJ
 rwa [q]
def cX(h:x=.tup xs)(e:atI xs i=some v)(q:Q v C):qw x (.int i) C Q:=by
 subst h;exact rX e q
def YC(q:Q (.int (if j < i then j else i)) C):Es [.int i,.int j] C Q:=by
 delta Es
 exact q
def OD(q:Q (.int (if j > i then j else i)) C):Et [.int i,.int j] C Q:=by
 delta Et
 exact q
def zW{xs:List PV}(h:k < xs.length):atI xs k=some xs[k] :=by grind[atI,ixN,lia,Int.toNat_natCast]
def jX{r:List PV}:atI (x::r) 0=some x:=zW (Nat.zero_lt_succ _)
def Pq(h:t g C fun b C1=>if b=true then j g C1 Q else q g C1 Q):cIf t j q g C Q:=h
def qB(j:g[i]?=some (some x))(q:Q (k (ZT x)) C):lE (qp (Uo k) (jJ i) (cC .non)) g C Q:=by
 show jJ i g C fun x C1=>iC Q (.bl (k (ZT x))) C1
 delta jJ
 rwa [j]
def wJ(I:List PV->jt->CH->Prop)(G:∀x r j C,I (x::r) j C->∀L:jt->CH->Prop,(∀q C',I r q C'->L q C')->g x j C fun J C1=>u (E.lp L) J C1)(D:∀j C,I [] j C->E.nx j C):
  ∀xs j C,I xs j C->iG g u E xs j C:=by
 intro xs
 induction xs with
 |nil=>intro j C h;exact D j C h
 |cons x r F=>intro j C h;exact G x r j C h _ F
def eG(I:List PV->List PV->CH->Prop)(q:∀x r acc C,I (x::r) acc C->∀L:K1,(∀y C2,acc.length < sizeLine/\I r (acc++[y]) C2->L y C2)->c (some x::D) C L)(g:∀acc C,I [] acc C->∀p,C p=none->Q (.ref p) (gQ C p (.lst acc))):
  ∀xs acc C,I xs acc C->xJ iP c D Q xs acc C:=by
 intro xs
 induction xs with
 |nil=>intro acc C h;exact g acc C h
 |cons x r j =>
  intro acc C h;exact q x r acc C h _ fun y C2 z=>⟨z.1,j _ _ z.2⟩
def cE(I:List PV->List PV->CH->Prop)(g:∀r acc C,I r acc C->S C)(D:∀x r acc C,I (x::r) acc C->∀L:K1,(∀y C2,acc.length < sizeLine/\I r (acc++[y]) C2->L y C2)->c (some x::F) C L)(j:∀acc C,I [] acc C->∀p,C p=none->Q (.ref p) (gQ C p (.lst acc))):
  ∀xs acc C,I xs acc C->qM S iP c F Q xs acc C:=by
 intro xs
 induction xs with
 |nil=>intro acc C h;exact⟨g _ _ _ h,j acc C h⟩
 |cons x r q =>
  intro acc C h;exact⟨g _ _ _ h,D x r acc C h _ fun y C2 z=>⟨z.1,q _ _ z.2⟩⟩
def uG(g:Gr C C1)(j:C p=none)o:Gr C (gQ C1 p o):=fun b u e=>by
 rw[yQ (fun z=>by subst z;rw[j] at e;cases e)];exact g b u e
def bK(g:Gr C C')(h:C' p=none):C p=none:=by
 cases e:C p with
 |none=>rfl
 |some o=>rw[g p o e] at h;cases h
def yW(h:n<=1000):n<=sizeLine:=AW h (by decide)
def sD kvs k v:(kJ kvs k v).length<=kvs.length+1 :=by grind[kJ,List.length_map,List.length_append,List.length_singleton]
def kA kvs k v q:sJ (kJ kvs k v) q=if q=k then some v else sJ kvs q:=by
 have J:∀l:List (Key×PV),(l.any fun g=>decide (g.1=k))=true->sJ (l.map fun g=>if g.1=k then (g.1,v) else g) q=if q=k then some v else sJ l q:=by
  intro l
  induction l with
  |nil=>intro h;cases h
  |cons x l G =>
   intro h
   delta sJ
   rw[A5,A3,A3]
   by_cases e:x.1=k
   .rw [Ah e]
    by_cases j:q=k
    .rw [Ah j,Ab (e.trans j.symm)];rfl
    .rw [Af j]
     rw[AN (fun z=>j (z.symm.trans e))]
     by_cases F:(l.any fun g=>decide (g.1=k))=true
     .have:=G F
      rwa [Af j] at this
     .have:(l.map fun g=>if g.1=k then (g.1,v) else g)=l :=(CM fun y I=>Af ((fun y I z=>F (List.any_eq_true.2 ⟨y,I,Ab z⟩)) y I)).trans (List.map_id l)
      rw[this]
   .rw [Af e]
    have F:(l.any fun g=>decide (g.1=k))=true:=by
     rwa [BI,AN e,Bool.false_or] at h
    have:=G F
    by_cases D:x.1=q
    .rw [Ab D]
     have j:¬ q=k:=fun z=>e (D.trans z);rw[Af j]
    .rwa [AN D]
 delta kJ
 by_cases b:(kvs.any fun g=>decide (g.1=k))=true
 .rw [Ah b];exact J kvs b
 .rw [Af b]
  induction kvs with
  |nil =>
   delta sJ
   rw[Ct,A3]
   by_cases j:q=k
   .rw [Ah j,Ab j.symm];rfl
   .rw [Af j,AN (fun z=>j z.symm)]
  |cons x l G =>
   rw[BI] at b;have e:¬ x.1=k:=fun e=>b (by rw[Ab e];rfl);rw[AN e,Bool.false_or] at b;have:=G b;unfold sJ at this ⊢;rw[CC,A3,A3]
   by_cases D:x.1=q
   .rw [Ab D]
    rw[Af (fun z=>e (D.trans z))]
   .rwa [AN D]
def f9(S:List Addr)(C C':CH):Prop:=∀b o,b∉S->C b=some o->C' b=some o
def f9.refl: f9 S C C:=fun _ _ _ h=>h
theorem f9.trans(h:f9 S C C1)(h':f9 S C1 C2):f9 S C C2:=fun b o n e=>h' b o n (h b o n e)
def f9.mono(h:f9 S C C1)(s:∀b∈S,b∈g):f9 g C C1:=fun b o n e=>h b o (fun z=>n (s b z)) e
theorem f9.at(h:f9 S C C1)(g:p∈S)o:f9 S C (gQ C1 p o):=fun b u n e=>by
 rw[yQ (fun z=>n (by rwa [z]))];exact h b u n e
theorem f9.put(h:f9 S C C1)(g:C p=none)o:f9 S C (gQ C1 p o):=fun b u n e=>by
 rw[yQ (fun z=>by subst z;rw[g] at e;cases e)];exact h b u n e
def f9.none(g:f9 S C C')(n:p∉S)(h:C' p=none):C p=none:=by
 cases e:C p with
 |none=>rfl
 |some o=>rw[g p o n e] at h;cases h
end CL
namespace L2
open PySem PySem.Spec PyProof.Rows
def Ws(K:Dm)(n:Nat)(q:TI)(tc:TT)(te:TE):TE:=fun σ H Q=>q σ H fun J H1=>∀D,H1 D=none->∃W:Nat->Nat->List V->Hp->Prop,(∃m,W 0 m [] (upd H1 D (.lst [])))/\∀i m ys H,W i m ys H ->
 (J.stop i H/\Q (.ref D) H)\/(J.go i H/\∀x H',J.yld i H x H'->∃a vs,x=.ref a/\SqT K H' a vs/\vs.length=n/\tc (vs.map some++σ) H' fun b H2=>
  if b=true then te (vs.map some++σ) H2 fun y j=>j D=some (.lst ys)/\ys.length < sizeLine/\∃g,g < m/\W (i+1) g (ys++[y]) (upd j D (.lst (ys++[y])))
  else ∃g,g < m/\W (i+1) g ys H2)
section
variable {X:Cx}
def Yc{Y S tg:Expr}{xs:List Str}{pos:Pos}{Z:List Expr}{I:Scope}{M:List (Str×Addr)}{wi:TI}{tc:TT}{te:TE}{g:TG}(hc:X.calm=true)(K:xY X xs I M)(hg:∀F C G j,PG (o6 X xs I M F C G j) tg g)(hG:∀N vs a σ H Q,N.length=xs.length->SqT X.K H a vs->vs.length=xs.length->Q (vs.map some++σ) H->g (.ref a) (N++σ) H Q)(hi:PI X tg S wi)(ht:∀F C G j,V7 (o6 X xs I M F C G j) Z tc)(aj:∀F C G j,PE (o6 X xs I M F C G j) Y te)(hs:∀v,foldedSetIterable S X.env v=pure v:=by intro _;rfl):PE X (.ListComp Y [⟨tg,S,Z,0⟩] I pos) (Ws X.K xs.length wi tc te):=by
 intro pins s σ H Q ab h;rw[eval_ListComp];refine DG (use:=none) rfl hs K.clos K.kind K.names (thn (hi pins s σ H _ ab h) fun xv ax ao=>thn ao fun aw G aq=>?_);obtain⟨it,F,tn,J,j,e,O,T,au,ae,R⟩:=aq;subst e;refine rB (Tk:=fun x H vs=>∃a,x=.ref a/\SqT X.K H a vs) hc K hg ht aj (fun N vs x H Q l ⟨a,e,U⟩ l' q=>by rw[e];exact hG N vs a σ H Q l U l' q) O T au ae (fun D hD=>let ⟨W,w0,av⟩:=R D hD;⟨W,w0,fun i m ys H w=>(av i m ys H w).imp id fun zz=>uL zz fun g st=> ⟨g,fun x H' y=>let ⟨a,vs,e,U,l,q⟩:=st x H' y;⟨vs,⟨a,e,U⟩,l,q⟩⟩⟩) ?_
 intro D C H ar m hn ag af ah ai I4 q;refine⟨m,hn,fun h' ak=>⟨.ref D,H,?_,rfl,q⟩⟩;refine I4.turned (it:=C) (t':=ar.toks) (fun b o hb e=>(ak.2 b hb).trans e) af ag (.inr (AW O.sz ai)) ah fun p hp z=>?_;exact absurd (AR (AG (O.pin p hp).1) (by simp_all)) (BC _)
end
end L2
namespace CL
open PySem PySem.Spec L2 PySem.W
open PyProof.Rows hiding St
def zF(n:Nat)(t:mj)(c:gj)(g:jt)(Q:K1):List PV->List PV->CH->Prop
 |[],acc,C=>∀p,C p=none->Q (.ref p) (gQ C p (.lst acc))
 |x::r,acc,C=>∃ts,x=.tup ts/\ts.length=n/\t (ts.map some++g) C fun b C1=>if b=true then c (ts.map some++g) C1 fun y C2=>acc.length < sizeLine/\zF n t c g Q r (acc++[y]) C2 else zF n t c g Q r acc C1
theorem uA{K}: ∀{vs}{ts},d7 K H vs ts->gq K H (vs.map some) (ts.map some)
 |_,_,.nil=>.nil
 |_,_,.cons h r=>.cons h (uA r)
def gq.app{K}(h:gq K H σ q)(h':gq K H τ j):gq K H (σ++τ) (q++j):=by
 induction h with
 |nil=>exact h'
 |cons a _ g=>exact .cons a g
def GF{K}{Q:VK}(j:X0 K H J ps)(s:gq K H σ ρ)(h:d8 K H C)(q:zF n t c ρ R ps [] C)(h0:d8 K H0 C0)(ai:Fw H0 C0 H C)(f:∀v H' p C',R p C'->Rep K H' v p->d8 K H' C'->Fw H0 C0 H' C'->Q v H')(G:H D=none):
  ∃W:Nat->Nat->List V->Hp->Prop,(∃m,W 0 m [] (upd H D (.lst [])))/\∀i m ys H,W i m ys H ->
   (J.stop i H/\Q (.ref D) H)\/(J.go i H/\∀x H',J.yld i H x H'->∃a vs,x=.ref a/\SqT K H' a vs/\vs.length=n/\bJ K gP t (vs.map some++σ) H' fun b H2=>
    if b=true then bJ K (Rep K) c (vs.map some++σ) H2 fun y H3=>H3 D=some (.lst ys)/\ys.length < sizeLine/\∃N,N < m/\W (i+1) N (ys++[y]) (upd H3 D (.lst (ys++[y])))
    else ∃N,N < m/\W (i+1) N ys H2):=by
 refine⟨fun i m ys H'=>m=ps.length - i/\i<=ps.length/\∃acc C',H' D=some (.lst ys)/\C' D=none/\d7 K H' ys acc/\d8 K H' C'/\Fw H C H' C'/\zF n t c ρ R (ps.drop i) acc C',
  ⟨ps.length,rfl,AX _,[],C,mQ,h.fresh G,.nil,h.new G _,Fw.new G _,q⟩,?_⟩
 rintro i m ys H1 ⟨rfl,hi,acc,C1,e1,n1,r1,h1,O,F⟩;have M:=O.dm h
 by_cases I:i < ps.length
 .refine .inr ⟨j.go i H1 I M,fun x H2 y=>?_⟩
  obtain⟨rfl,y⟩:=j.yl i H1 x H2 M y;have rx:=y _ (AK I);rw[Ao I] at F;refine hZ F fun ts ah hn F=>?_;rw[ah] at rx
  obtain⟨a5,ak,z5,aj,af⟩:∃a vs,x=.ref a/\SqT K H2 a vs/\d7 K H2 vs ts:=by
   cases rx with
   |tup e r=>exact⟨_,_,rfl,SqT.of e,r⟩
  refine⟨a5,ak,z5,aj,af.len.trans hn,⟨ts.map some++ρ,C1,_,(uA af).app (s.dm M),h1,F,fun b H3 b' C3 q3 e h3 S=>?_⟩⟩;cases e;obtain⟨Y,e3⟩:=S D (by rw[n1];rfl) (by lia);rw[e1] at e3;rw[n1] at Y;have U:=S.dm h1
  cases b with
  |true =>
   refine⟨ts.map some++ρ,C3,_,(uA (af.dm U)).app ((s.dm M).dm U),h3,q3,fun v H4 p C4 q4 r4 h4 ab=>uL (ab D (by rw[Y];rfl) (by lia)) fun n4 e4=>?_⟩;rw[e3] at e4;rw[Y] at n4;have m4:iz H4 (upd H4 D (.lst (ys++[v]))):=iz.mut e4 rfl _;refine⟨e4,by rw[r1.len];exact q4.1,ps.length - (i+1),by lia,rfl,I,acc++[p],C4,mQ,n4,?_,?_,?_,q4.2⟩
   .exact (((r1.dm U).dm (ab.dm h3)).append (.cons r4 .nil)).dm m4
   .intro a o g
    have ae:a≠D:=fun z=>by subst z;rw[n4] at g;cases g
    exact(h4 a o g).dm m4 (fQ ae)
   .intro a g Z
    have ae:a≠D:=fun z=>Z (z▸G);exact uL ((O.trans (S.trans ab)) a g Z) fun x1 x2=>⟨x1,(fQ ae).trans x2⟩
  |false =>
   exact⟨ps.length - (i+1),by lia,rfl,I,acc,C3,e3,Y,r1.dm U,h3,O.trans S,q3⟩
 .have e:i=ps.length:=by lia
  subst e;rw[Bn] at F;refine .inl ⟨j.st H1 M,f (.ref D) H1 (.ref D) _ (F D n1) (.ref D) ?_ ?_⟩
  .intro a o g
   by_cases z:a=D
   .subst z;rw[jQ] at g;cases g;exact⟨ys,e1,r1⟩
   .rw [yQ z] at g;exact h1 a o g
  .intro a g Z
   obtain⟨x1,x2⟩:=ai a g Z;have ag:H a≠none:=by rwa [x2]
   obtain⟨y1,y2⟩:=O a (by rwa [x1]) ag;exact⟨(yQ (show a≠D from fun z=>ag (z▸G))).trans (y1.trans x1),y2.trans x2⟩
section
variable {X:Cx}{pos:Pos}
def Jj(n:Nat)(j:jt->CH->(List PV->CH->Prop)->Prop)(t:mj)(c:gj):gj:=fun g C Q=>j g C fun ps C1=>zF n t c g Q ps [] C1
def ZK(hi:CI X tg it M F){Q:VK}(h:bJ X.K (Rep X.K) (Jj n F t c) σ H Q):Ws X.K n M (bJ X.K gP t) (bJ X.K (Rep X.K) c) σ H Q :=fX h fun N C R s h q f=>hi.w σ H N C _ _ s h q fun J H' ps C' I j h' g D G=>GF j (s.dm (g.dm h)) h' I h g f G
def GOk(K:Dm)(n:Nat)(g:TG):Prop:=∀(j:St)(vs:List V)(a:Addr)(σ:St)(H:Hp)(Q:St->Hp->Prop),j.length=n->SqT K H a vs->vs.length=n->Q (vs.map some++σ) H->g (.ref a) (j++σ) H Q
def GP
  (O:X.calm=true)(K:∃j,xY X xs G j)(U:∀j D C F q,xY X xs G j->PG (o6 X xs G j D C F q) tg g)(N:GOk X.K xs.length g)(hi:CI X tg I wi J)(Y:∀j D C F q,CF (o6 X xs G j D C F q) Z t)(S:∀j D C F q,CE (o6 X xs G j D C F q) M c)(hs:∀v,foldedSetIterable I X.env v=pure v:=by intro _;rfl):CE X (.ListComp M [⟨tg,I,Z,0⟩] G pos) (Jj xs.length J t c):=by
 obtain⟨j,K⟩:=K;exact⟨JE.weak ⟨Yc O K (fun D C F q=>U j D C F q K) N hi.j.h (fun D C F q=>(Y j D C F q).h.h) (fun D C F q=>(S j D C F q).h.h) hs⟩ fun _ _ _ h=>ZK hi h⟩
abbrev g2(K:Dm):TG:=gTup K 2 (gE (mF 0) (gE (mF 1) gNil))
abbrev g3(K:Dm):TG:=gTup K 3 (gE (mF 0) (gE (mF 1) (gE (mF 2) gNil)))
def uR{α:Type}{l:List α}(h:l.length=1):∃a,l=[a]:=by
 cases l with
 |nil=>cases h
 |cons a l =>
  cases l with
  |nil=>exact⟨a,rfl⟩
  |cons b l=>cases h
def len2{α:Type}{l:List α}(h:l.length=2):∃a b,l=[a,b]:=by
 cases l with
 |nil=>cases h
 |cons a l =>
  obtain⟨b,rfl⟩:=uR (Ax h);exact⟨a,b,rfl⟩
def Lr{α:Type}{l:List α}(h:l.length=3):∃a b c,l=[a,b,c]:=by
 cases l with
 |nil=>cases h
 |cons a l =>
  obtain⟨b,c,rfl⟩:=len2 (Ax h);exact⟨a,b,c,rfl⟩
def Tn{K}:GOk K 2 (g2 K):=by
 intro I vs a σ H Q h1 h2 D q;obtain⟨F,G,rfl⟩:=len2 h1;obtain⟨j,g,rfl⟩:=len2 D;exact⟨a,[j,g],rfl,h2,rfl,j,[g],rfl,g,[],rfl,rfl,q⟩
def pg2(F:X.calm=true)(g:(x::y::X.N).Nodup)(K:xY X [x,y] G D):
  PG (o6 X [x,y] G D J C N I) (.Tuple [.Name x M,.Name y p2] k p) (g2 X.K) :=
 have j:=Bh (K.hx x (by simp));have q:=Bh (K.hx y (by simp))
 W6 F (rC (iD g rfl (.inl j) (.inr j)) (rC (iD g rfl (.inl q) (.inr q)) J5))
def GR
  (G:X.calm=true)(O:(x::y::X.N).Nodup)(K:∃g,xY X [x,y] D g)(hi:CI X (.Tuple [.Name x Z,.Name y p2] k p) I wi M)(U:∀g q C F j,CF (o6 X [x,y] D g q C F j) Y t)(S:∀g q C F j,CE (o6 X [x,y] D g q C F j) N c)(hs:∀v,foldedSetIterable I X.env v=pure v:=by intro _;rfl):CE X (.ListComp N [⟨.Tuple [.Name x Z,.Name y p2] k p,I,Y,0⟩] D pos) (Jj 2 M t c) :=
 GP G K (fun _ _ _ _ _ J=>pg2 G O J) Tn hi U S hs
end
end CL
namespace L2
open PySem PySem.W PySem.Spec PyProof.Rows
abbrev mK:=List (List Key)
abbrev KPt(H:Hp):List (mK×V)->List (mK×Addr×Value)->Prop:=Paired fun p q=>p.1=q.1/\o7 H p.1 q.2.1/\RelV p.2 q.2.2
def KPt.val(r:KPt H kvs xs)k:RelO (aY kvs k) ((atKey xs k).map (·.2)):=by
 induction r with
 |nil=>exact True.intro
 |@cons p q ps qs h t g =>
  obtain⟨h1,_,h2⟩:=h
  by_cases e:p.1=k
  .have b:atKey (q::qs) k=some q.2:=by simp[atKey,List.find?_cons,h1.symm.trans e]
   rwa [dD e,b]
  .have b:atKey (q::qs) k=atKey qs k:=by
    simp[atKey,List.find?_cons,(show ¬ q.1=k from fun z=>e (h1.trans z))]
   rwa [cD e,b]
def KPt.repl(r:KPt H kvs xs)k(F:RelV y u):
  KPt H (kvs.map fun g=>if g.1=k then (g.1,y) else g) (xs.map (putAt k u)):=by
 induction r with
 |nil=>exact .nil
 |@cons p q ps qs h t j =>
  refine .cons (XB h fun h1 h2 D=>?_) j
  delta putAt
  by_cases e:p.1=k
  .lia
  .lia
theorem KPt.put(r:KPt H kvs xs)(k:mK)(j:o7 H k b)(g:RelV y u):
  KPt H (xV kvs k y) (storedH xs k b u):=by
 have e:(kvs.any fun D=>decide (D.1=k))=(atKey xs k).isSome:=by
  rw[xC,(r.val k).isSome_eq,Option.isSome_map]
 delta xV storedH
 rw[e]
 by_cases q:(atKey xs k).isSome=true
 .rw [Ah q,Ah q];exact r.repl k g
 .rw [Af q,Af q];exact Paired.snoc r ⟨rfl,j,g⟩
def KPt.keeps(r:KPt H kvs xs)(g:∀b ys,H b=some (.tup ys)->H' b=some (.tup ys)):KPt H' kvs xs :=
 Paired.mapP r fun _ _ z=>⟨z.1,z.2.1.mono g,z.2.2⟩
section
variable {P:Program}{w:World}{H:Hp}{h:Heap}{a:Addr}
theorem Xm(q:HOk P w H h):∀{j}{bs}{g},Paired (fun D c=>H c=some (.tup (D.map kV))) j bs->Vals (bs.map V.ref) g->gk (uX P w) h j g
 |_,_,_,.nil,r=>by cases r;exact .nil
 |_,_,_,.cons e t,r=>by
  cases r with
  |cons F G =>
   cases F;exact .cons (pB q e) (Xm q t G)
def eD{g:mK}(j:HOk P w H h)(e:o7 H g a):(cG (uX P w)).is h g a:=by
 obtain⟨bs,q,G⟩:=e;obtain⟨_,F,r,o,h1,h2,⟨n,D⟩,_⟩:=(j a _ q);exact⟨o,F.toArray,n,h1,h2,D,by exact List.toList_toArray▸Xm j G r⟩
def XG{kvs:List (mK×V)}(D:HOk P w H h)(e:H a=some (.dP kvs)):kvs.length<=sizeLine/\(a==sysModules)=false /\
  ∃xs,KPt H kvs xs/\h.DictOfH (cG (uX P w)) a xs:=by
 obtain⟨z,y,xs,r,o,es,ep,h1,h2,G,I,J⟩:=(D a _ e);refine⟨z,y,xs,r,o,es,ep,h1,h2,G,I,fun x g=>?_,J⟩
 have F:∀{l:List (mK×V)}{m:List (mK×Addr×Value)},KPt H l m->∀x∈m,(cG (uX P w)).is h x.1 x.2.1:=by
  intro l m q
  induction q with
  |nil=>intro x g;exact nomatch g
  |@cons p q ps qs j t M =>
   intro x g
   rcases Aj.mp g with e | g
   .subst e
    exact eD D (j.1▸j.2.1)
   .exact M x g
 exact F r x g
end
def Jo(H:Hp)(a:Addr)(y:V)(r:Option V):Prop:=∃kvs k b,H a=some (.dP kvs)/\y=.ref b/\o7 H k b/\r=aY kvs k
def Sh(H:Hp)(a:Addr)(y v:V)(H':Hp):Prop:=∃kvs k b,H a=some (.dP kvs)/\y=.ref b/\o7 H k b/\kvs.length < sizeLine/\H'=upd H a (.dP (xV kvs k v))
section
variable {X:Cx}{pins:List (Addr×Obj)}{σ:St}{H:Hp}{s:Shared}{a:Addr}{y v:V}{u r:Value}{o:Option V}{A:Around}{E:Value->Shared->Prop}
def Ve(J:A.units+2 < cLine)(I:Inv X pins σ H s)(g:Jo H a y (some v))(S:RelV y u)(h:∀j s',Inv X pins σ H s'->RelV v j->Q j s'):
  wpAny (model X.prog X.w) A (getItem (.ref a) u) Q E s:=by
 obtain⟨kvs,k,b,e,rfl,D,l⟩:=g;cases S;obtain⟨z,U,xs,N,q⟩:=XG I.hok e;refine oQ (RelO.some_of (l▸N.val k)) fun j M O=>oQ (Option.map_eq_some_iff.mp M) fun p F G=>?_;exact wpAny_getItem_heap (tJ J) (eD I.hok D) q F (G▸h j _ (I.tok _) O)
def Td(G:A.units+2 < cLine)(I:Inv X pins σ H s)(g:Jo H a y o)(M:RelV y u)(h:∀s',Inv X pins σ H s'->Q (.bool o.isSome) s'):
  wpAny (model X.prog X.w) A (compareOp .In u (.ref a)) Q E s:=by
 obtain⟨kvs,k,b,e,rfl,D,l⟩:=g;cases M;obtain⟨z,F,xs,J,j⟩:=XG I.hok e
 apply wpAny_in_heap (tJ G) (eD I.hok D) F j
 have q:=(J.val k).isSome_eq;rw[Option.isSome_map] at q;exact q▸l▸h _ (I.tok _)
def Vd(hu:A.units+2 < cLine)(I:Inv X pins σ H s)(g:Sh H a y v H')(ry:RelV y u)(rv:RelV v r)(h:∀s',Inv X pins σ H' s'->Q () s'):
  wpAny (model X.prog X.w) A (setItem (.ref a) u r) Q E s:=by
 refine Ms g fun kvs k b e O j l N=>?_;subst O N;cases ry;obtain⟨z,Z,xs,G,J⟩:=XG I.hok e;have hz:xs.length<=sizeLine:=by rwa [<- Paired.length G]
 have hl:(xV kvs k v).length<=sizeLine:=by have:=bW kvs k v;lia
 refine wpAny_setItem_heap (tJ hu) (eD I.hok j) J fun h' M hs=>h _ (yz M fun q es ep F h2 S U _ Y=>dN I (e▸True.intro) hs ⟨q,F⟩ ⟨hl,Z,_,(G.put k j rv).keeps fun c ys D=>?_,q,es,ep,F,h2,S,U,Y⟩);rw[fQ (Yx D e (fun z=>nomatch z))];exact D
def IK(M:A.units+2 < cLine)(I:Inv X pins σ H s)(g:Jo H a y o)(O:RelV y u)(h:∀F s',Inv X pins σ H s'->RelV (o.getD .non) F->Q F s'):
  wpAny (model X.prog X.w) A (call (.builtin "dict.get") [.ref a,u]) Q E s:=by
 obtain⟨kvs,k,b,e,rfl,G,l⟩:=g;cases O;obtain⟨z,J,xs,N,D⟩:=XG I.hok e;refine DQ Bv D.typeIs DS (PySem.F.args_dict_get_2 _ _) (meetsH_dict_get (cG (uX X.prog X.w)) a b J) ⟨tJ M,k,xs,eD I.hok G,D,h _ _ (I.tok _) ?_⟩;rw[l];have q:=N.val k
 cases z:aY kvs k with
 |none =>
  cases j:atKey xs k with
  |none=>rfl
  |some p=>rw[z,j] at q;exact q.elim
 |some S =>
  cases j:atKey xs k with
  |none=>rw[z,j] at q;exact q.elim
  |some p=>rwa [z,j] at q
def Kr{kvs:List (mK×V)}(I:Inv X pins σ H s)(e:H a=some (.dP kvs)):s.TypeIs (.ref a) "dict":=by
 obtain⟨_,_,xs,_,g⟩:=XG I.hok e;exact g.typeIs
end
section
variable {X:Cx}{o i e value:Expr}{pos pos':Pos}{td ty tv:TE}
def N8(td ty:TE):TE:=fun σ H Q=>td σ H fun x H1=>ty σ H1 fun y H2=>∃a v,x=.ref a/\Jo H2 a y (some v)/\Q v H2
def Oc(td ty tv:TE):TS:=fun D σ H=>tv σ H fun v H1=>td σ H1 fun x H2=>ty σ H2 fun y j=>∃a g,x=.ref a/\Sh j a y v g/\D.nx σ g
def vy(G:X.A.units+2 < cLine)(F:PE X o td)(hi:PE X i ty)(hs:V8 i):PE X (.Subscript o i pos) (N8 td ty):=by
 intro pins s σ H Q I h;refine JN PySem.F.slot_dict_getitem.lookup hs (thn (F pins s σ H _ I h) fun u U Z=>kZ Z fun x H1 q O J=> thn (hi pins U σ H1 _ q J) fun iv ab Y=>?_);obtain⟨y,H2,j,S,a,v,rfl,g,M⟩:=Y;obtain rfl:u=Value.ref a:=O;exact⟨let ⟨_,_,_,e,_⟩:=g;Kr j e,Ve G j g S fun w' ae D N=>⟨v,H2,D,N,M⟩⟩
def IV(D:X.A.units+2 < cLine):OpR X (compareOp .In) (fun y x H Q=>∃a o,x=.ref a/\Jo H a y o/\Q (.bl o.isSome) H):=by
 intro pins s σ H y x v u Q I G F h;obtain⟨a,o,rfl,g,q⟩:=h;cases F;exact Td D I g G fun J j=>⟨.bl o.isSome,H,j,rfl,q⟩
def vf(N:X.A.units+2 < cLine)(M:PE X o td)(hi:PE X i ty)(O:PE X value tv)(hs:swapsWith value (some (.Subscript o i pos')) pos.line X.env=pure false):
  PS X (.Assign [.Subscript o i pos'] value pos) (Oc td ty tv):=by
 intro pins s σ H af I h;refine wpAny_Assign_Subscript (thn (O pins s σ H _ I h) fun r ab j=>kZ j fun v H1 D Z S=> thn (M pins ab σ H1 _ D S) fun u ae j=>kZ j fun x H2 F rx U=> thn (hi pins ae σ H2 _ F U) fun iv ag zq=>?_) hs;obtain⟨y,H3,G,ry,a,q,rfl,g,Y⟩:=zq;obtain rfl:u=Value.ref a:=rx;exact Vd N G g ry Z fun ah J=>⟨σ,q,J,Y⟩
def N7:TE:=fun _ H Q=>∀p,H p=none->Q (.ref p) (upd H p (.dP []))
def Gs(h:Heap)(q:sysModules < h.objs.size):ObjOk P w H (h.push { cls:=.type "dict",data:=.dict #[] }) h.objs.size (.dP []):=by
 obtain⟨z,y,xs,r,rest⟩:=(show ObjOk P w H (h.push { cls:=.type "dict",data:=.dict #[] }) h.objs.size (.dT []) from oR h q);refine Ms rest fun o es ep h1 h2 g j D=>?_;cases r;exact⟨z,y,[],.nil,o,es,ep,h1,h2,g,j,Cd⟩
def vq:PE X (.Dict [] [] pos) N7:=by
 intro pins s σ H Q I h;exact wpAny_Dict_empty ⟨.ref s.heap.objs.size,_,I.laid (t':=s.toks) (fun _ _ q=>AC _ q) (AH _) (Gs s.heap I.big),rfl,h _ (I.hok.fresh (AH _))⟩
end
end L2
namespace CL
open PySem PySem.Spec L2 PySem.W
open PyProof.Rows hiding St
section
variable {X:Cx}{a b c e o i f value:Expr}{es:List Expr}{pos pos':Pos}
@[irreducible] def cInt:GC:=fun ts C Q=>match ts with
 |[.bl b]=>Q (.int (if b then 1 else 0)) C
 |[.int i]=>Q (.int i) C
 |_=>False
def iM{K}:qe K (fun xs H Q=>(∃i,xs=[.int i]/\Q (.int i) H)\/∃k,xs=[.bl k]/\Q (.int (if k then 1 else 0)) H) cInt:=fun xs ts H C Q R rs h q f=>by
 delta cInt at q
 split at q
 .obtain ⟨v,rfl,r⟩:=oX rs
  cases r;exact .inr ⟨_,rfl,f _ H _ C q (.int _) h Fw.refl⟩
 .obtain ⟨v,rfl,r⟩:=oX rs
  cases r;exact .inl ⟨_,rfl,f _ H _ C q (.int _) h Fw.refl⟩
 .exact q.elim
@[irreducible] def cCatT:m9:=fun x y C Q=>match x,y with
 |.tup xs,.tup ys=>xs.length+ys.length<=sizeLine/\Q (.tup (xs++ys)) C
 |_,_=>False
@[irreducible] def oN:PV->List PV->CH->K1->Prop:=fun x ts C Q=>match x,ts with
 |.ref a,[.ref b]=>match C a,C b with
  |some (.lst xs),some (.lst ys)=>xs.length+ys.length<=sizeLine/\Q .non (gQ C a (.lst (xs++ys)))
  |_,_=>False
 |_,_=>False
def jS{K}:rm K JV oN:=fun x N xs ps H C Q R J rs h q f=>by
 delta oN at q
 split at q
 .split at q
  .next ys zs j G =>
   refine oQ (h _ _ j) fun vs g D=>oQ (h _ _ G) fun M I F=>?_;obtain⟨v,rfl,r⟩:=oX rs;cases J;cases r
   exact⟨_,_,vs,M,rfl,rfl,g,I,by exact D.len▸F.len▸q.1,f _ _ _ _ q.2 .non (h.put g rfl ⟨_,mQ,(D.append F).dm (iz.mut g rfl _)⟩) (Fw.put j _ _)⟩
  .exact q.elim
 .exact q.elim
def Uv(j:PV->List PV->CH->K1->Prop)(g:gj):gj:=fun q C Q=>g q C fun x C1=>Ph x C1/\j x [] C1 Q
def Jd{id}{apos cpos}(Y:PlainAttrs "list")(ab:Slot "list" name id)(U:typeOf (.builtin id)=pure (.type "method_descriptor"))(N:MtR X id r)(S:rm X.K r F)(O:CE X o D)(J:attributeBase o name X.env (eval o X.env)=eval o X.env:=by rfl)(M:(apos.endLine==cpos.line)=true:=by rfl):CE X (.Call (.Attribute o name apos) [] [] cpos) (Uv F D):=⟨JE.weak ⟨Zr Y ab U N O.h.h J M⟩ fun σ H Q zz=>fX zz fun ρ C R s h q f=>
 ⟨ρ,C,_,s,h,q,fun x H1 Z C1 g j h1 I=>⟨YU g.1 j h1,S x Z [] [] H1 C1 Q R j .nil h1 g.2 fun v H' t C' q' r' h' G=>f v H' t C' q' r' h' (I.trans G)⟩⟩⟩
@[irreducible] def eL:PV->List PV->CH->K1->Prop:=fun x ts C Q=>match x,ts with
 |.ref a,[]=>match C a with
  |some (.lst xs)=>Q .non (gQ C a (.lst xs.reverse))
  |_=>False
 |_,_=>False
def XO{K}:rm K QN eL:=fun x G xs ps H C Q R F rs h q f=>by
 delta eL at q
 split at q
 .split at q
  .next ys j =>
   obtain⟨vs,g,D⟩:=(h _ _ j);cases rs;cases F;exact⟨_,vs,rfl,rfl,g,f _ _ _ _ q .non (h.put g rfl ⟨_,mQ,D.reverse.dm (iz.mut g rfl _)⟩) (Fw.put j _ _)⟩
  .exact q.elim
 .exact q.elim
@[irreducible] def Us:PV->List PV->CH->K1->Prop:=fun x ts C Q=>match x,ts with
 |.ref a,[]=>match C a with
  |some (.lst xs)=>Q .non (gQ C a (.lst []))
  |_=>False
 |_,_=>False
@[irreducible] def Ei:PV->Option Int->Option Int->CH->K1->Prop:=fun x lo hi C Q=>match x with
 |.tup xs=>¬ (HT.sIx xs.length 0 lo=0/\HT.sIx xs.length xs.length hi=xs.length)/\Q (.tup (iF xs lo hi)) C
 |_=>False
def GJ{lo}(Y:CE X e M)(Z:Hy X lo N)(hu:Hy X hi ch):CE X (.Subscript e (.Slice lo hi none p2) pos) (Ug Ei M N ch):=⟨JE.weak ⟨nC sl_tup Y.h.h Z.h.h hu.h.h⟩ fun σ H Q zz=>fX zz fun G C R s h q f=>
 ⟨G,C,_,s,h,q,fun x H1 px C1 q1 rx h1 j=>⟨G,C1,_,s.dm (j.dm h),h1,q1,fun l H2 l' C2 q2 O h2 D=>⟨G,C2,_,(s.dm (j.dm h)).dm (D.dm h1),h2,q2,fun u H3 u' J g S U I=>by
  cases O;cases S
  delta Ei at g
  split at g
  .have ab:=rx.dm ((D.trans I).dm h1)
   cases ab with
   |@tup a vs ts e r =>
    exact⟨a,vs,rfl,SqT.of e,by rw[r.len];exact g.1,fun p F=>f _ _ _ J g.2 (.tup mQ ((r.cut l u).dm (iz.new F _))) (U.new F _) (j.trans (D.trans (I.trans (Fw.new F _))))⟩
  .exact g.elim⟩⟩⟩⟩
noncomputable def dO:List PV->Option mK
 |[]=>some []
 |t::r=>match cF t,dO r with
  |some k,some g=>some (k::g)
  |_,_=>none
noncomputable def aH:PV->Option mK
 |.tup ts=>dO ts
 |_=>none
def Va{K}(r:d7 K H vs ts)(e:dO ts=some j):∃bs,vs=bs.map V.ref/\Paired (fun g c=>H c=some (.tup (g.map kV))) j bs:=by
 induction ts generalizing vs j with
 |nil=>cases r;cases e;exact⟨[],rfl,.nil⟩
 |cons t ts G =>
  cases r with
  |cons h r =>
   unfold dO at e
   split at e
   .next k g q D =>
    cases e;obtain⟨b,rfl,F⟩:=iU h q;obtain⟨bs,rfl,p⟩:=G r D;exact⟨b::bs,rfl,.cons F p⟩
   .cases e
def aD{K}(r:Rep K H v t)(e:aH t=some g):∃b,v=.ref b/\o7 H g b:=by
 cases r<;>try (cases e)
 next a vs ts h r =>
  obtain⟨bs,rfl,p⟩:=Va r e;exact⟨a,rfl,bs,h,p⟩
def RJ:gj:=fun _ C Q=>∀p,C p=none->Q (.ref p) (gQ C p (.dP []))
def KB:CE X (.Dict [] [] pos) RJ:=⟨JE.weak ⟨vq⟩ fun σ H Q j=>fX j fun D C R s h q f=> fun p g=>f (.ref p) _ (.ref p) _ (q p (h.fresh g)) (.ref p) (h.lay g ⟨[],mQ,.nil⟩) (Fw.lay g _ _)⟩
@[irreducible] def Eo:m9:=fun x y C Q=>match x with
 |.ref a=>match C a,aH y with
  |some (.dP kvs),some k=>match jV kvs k with
   |some v=>Q v C
   |none=>False
  |_,_=>False
 |_=>False
def GL(Z:X.A.units+2 < cLine)(Y:CE X o M)(hi:CE X i J)(hs:V8 i):CE X (.Subscript o i pos) (qp Eo M J):=⟨JE.weak ⟨vy Z Y.h.h hi.h.h hs⟩ fun σ H Q zz=>fX zz fun I C R s h q f=>
 ⟨I,C,_,s,h,q,fun x H1 px C1 q1 rx h1 F=>⟨I,C1,_,s.dm (F.dm h),h1,q1,fun y H2 ae C2 g ry h2 G=>by
  delta Eo at g
  split at g
  .next a =>
   split at g
   .next kvs k N O =>
    split at g
    .next t D =>
     have ab:=rx.dm (G.dm h1);cases ab;refine oQ (h2 a _ N) fun vs U r=>?_;obtain⟨b,rfl,S⟩:=aD ry O
     rcases FP.val r k with ⟨v,t',l1,j,rv⟩ | ⟨_,j⟩
     .rw [D] at j
      cases j;exact⟨a,v,rfl,⟨vs,k,b,U,rfl,S,l1.symm⟩,f v H2 t C2 g rv h2 (F.trans G)⟩
     .rw [D] at j;cases j
    .exact g.elim
   .exact g.elim
  .exact g.elim⟩⟩⟩
@[irreducible] def Ep:m9:=fun y x C Q=>match x with
 |.ref a=>match C a,aH y with
  |some (.dP kvs),some k=>Q (.bl (jV kvs k).isSome) C
  |_,_=>False
 |_=>False
def zr{K}:j8 K (fun y x H Q=>∃a o,x=.ref a/\Jo H a y o/\Q (.bl o.isSome) H) Ep:=fun y x O N H C Q R M J h q f=>by
 delta Ep at q
 split at q
 .next a =>
  split at q
  .next kvs k D F =>
   cases J;obtain⟨vs,I,r⟩:=(h a _ D);obtain⟨b,rfl,G⟩:=aD M F;refine⟨a,aY vs k,rfl,⟨vs,k,b,I,rfl,G,rfl⟩,?_⟩
   rcases FP.val r k with ⟨v,t',g,j,S⟩ | ⟨g,j⟩
   .rw [j] at q;exact g▸f _ H _ C q (.bl _) h Fw.refl
   .rw [j] at q;exact g▸f _ H _ C q (.bl _) h Fw.refl
  .exact q.elim
 .exact q.elim
@[irreducible] def KJ:PV->PV->PV->CH->(CH->Prop)->Prop:=fun x y v C Q=>match x with
 |.ref a=>match C a,aH y with
  |some (.dP kvs),some k=>kvs.length < sizeLine/\Q (gQ C a (.dP (iT kvs k v)))
  |_,_=>False
 |_=>False
def RG(F D G:gj):kh:=fun E g C=>G g C fun v C1=>F g C1 fun x C2=>D g C2 fun y j=>KJ x y v j fun q=>E.nx g q
def Kx{M N}(hu:X.A.units+2 < cLine)(ho:CE X o U)(hi:CE X i M)(hv:CE X value N)(hs:swapsWith value (some (.Subscript o i pos')) pos.line X.env=pure false:=by rfl):
  CS X (.Assign [.Subscript o i pos'] value pos) (RG U M N):=⟨JS.weak ⟨vf hu ho.h.h hi.h.h hv.h.h hs⟩ fun af σ H zz=>fX zz fun G C E s h q f=>
 ⟨G,C,_,s,h,q,fun v H1 ag C1 q1 rv h1 j=>⟨G,C1,_,s.dm (j.dm h),h1,q1,fun x H2 px C2 q2 rx h2 D=>⟨G,C2,_,(s.dm (j.dm h)).dm (D.dm h1),h2,q2,fun y J ah C3 g ry S F=>by
  have ab:=rv.dm ((D.trans F).dm h1)
  delta KJ at g
  split at g
  .next a =>
   split at g
   .next kvs k O Y =>
    have ae:=rx.dm (F.dm h2);cases ae;refine oQ (S a _ O) fun vs I r=>?_;obtain⟨b,rfl,Z⟩:=aD ry Y;have m:iz J (upd J a (.dP (xV vs k v))):=iz.mut I rfl _;refine⟨a,_,rfl,⟨vs,k,b,I,rfl,Z,by exact(Paired.length r)▸g.1,rfl⟩,f.nx σ _ G _ g.2 ((((s.dm (j.dm h)).dm (D.dm h1)).dm (F.dm h2)).dm m) (S.put I rfl ⟨_,mQ,Paired.mapP (FP.iT r k ab) fun _ _ z=>⟨z.1,z.2.dm m⟩⟩) (j.trans (D.trans (F.trans (Fw.put O _ _))))⟩
   .exact g.elim
  .exact g.elim⟩⟩⟩⟩
end
inductive Pl:Nat->PV->Prop
 |non {d:Nat}:Pl d .non
 |bl {d:Nat} (b:Bool):Pl d (.bl b)
 |int {d:Nat} (i:Int):Pl d (.int i)
 |str {d:Nat} (x:Str):Pl d (.str x)
 |tup {d:Nat} {ts:List PV} (h:∀t∈ts,Pl d t):Pl (d+1) (.tup ts)
section
variable {X:Cx}{pins:List (Addr×Obj)}{σ:St}{H:Hp}{s:Shared}
def bR(J:∀t∈ts,∀{A:Around}{v N:V}{u M:Value},Rep X.K H v t->Rep X.K H N t->RelV v u->RelV N M->A.units+d < cLine->SeqAt.EqAt A s u M true)(hu:A.units+d < cLine)(q:d7 X.K H vs ts)(D:d7 X.K H O ts)(F:Vals vs I)(G:Vals O g):
  I.length=g.length/\∀j h1(h2:j < g.toArray.size),SeqAt.EqAt A s I.toArray[j] g.toArray[j] true:=by
 induction ts generalizing vs O I g with
 |nil =>
  cases q;cases D;cases F;cases G
  exact⟨rfl,fun j h1=>absurd h1 (by simp)⟩
 |cons t ts ab =>
  cases q with
  |cons S q =>
   cases D with
   |cons U D =>
    cases F with
    |cons Y F =>
     cases G with
     |cons Z G =>
      obtain⟨l,k⟩:=ab (fun t' m=>J t' (AI _ m)) q D F G;refine⟨by rw[AQ,AQ,l],fun j h1 h2=>?_⟩
      cases j with
      |zero=>exact J t AE S U Y Z hu
      |succ j =>
       have:=k j (by simp_all) (by simp_all)
       simpa using this
def yw(I:Inv X pins σ H s)(p:Pl d t):∀{A}{v D}{u q},Rep X.K H v t->Rep X.K H D t->RelV v u->RelV D q->A.units+d < cLine->SeqAt.EqAt A s u q true:=by
 induction p with
 |non =>
  intro A v D u q r j e g F;cases r;cases j
  cases e;cases g
  exact DX _
 |bl b =>
  intro A v D u q r j e g F;cases r;cases j
  cases e;cases g
  exact DX _
 |int i =>
  intro A v D u q r j e g F;cases r;cases j
  obtain⟨G,rfl⟩:=e;obtain⟨J,rfl⟩:=g;have:=SeqAt.EqAt.int_int (A:=A) (s:=s) i G i J
  rwa [beq_self_eq_true] at this
 |str x =>
  intro A v D u q r j e g F;cases r;cases j
  obtain⟨G,rfl⟩:=e;obtain⟨J,rfl⟩:=g;have:=SeqAt.EqAt.str_str (A:=A) (s:=s) x G x J
  rwa [beq_self_eq_true] at this
 |@tup d ts hp ih =>
  intro A v D u q r j e g F
  cases r with
  |@tup S vs _ Y r1 =>
   cases j with
   |@tup U af _ Z r2 =>
    cases e;cases g
    by_cases M:S=U
    .subst M;exact DX _
    .refine hZ (I.tuple (SqT.of Y)) fun N w1 p1 _=>hZ (I.tuple (SqT.of Z)) fun O w2 p2 _=>?_
     have ae:A.in1.units+d < cLine :=by lia
     obtain⟨hl,ab⟩:=bR (fun t m=>ih t m) ae r1 r2 w1 w2;have R:=SeqAt.RcAt.tuples p1 p2 (by lia) ab;rw[show((List.range (min N.toArray.size O.toArray.size)).all (fun _=>true)&&N.toArray.size==O.toArray.size)=true by simp[hl]] at R;exact SeqAt.EqAt.of_refs M R
end
section
variable {X:Cx}
@[irreducible] def cNeD(d:Nat):m9:=fun x y C Q=>match x,y with
 |.ref a,.ref b=>match C a,C b with
  |some (.lst xs),some (.lst ys)=>xs=ys/\(∀t∈xs,Pl d t)/\Q (.bl false) C
  |_,_=>False
 |_,_=>False
noncomputable def vC:List PV->Option (List Str)
 |[]=>some []
 |.str x::r=>(vC r).map (x :: ·)
 |_=>none
noncomputable def N5:List PV->Option (List (List Str×Int))
 |[]=>some []
 |.tup [.tup g,.int i]::r=>match vC g,N5 r with
  |some zs,some cs=>some ((zs,i)::cs)
  |_,_=>none
 |_=>none
def Wv(e:vC ts=some zs):ts=zs.map PV.str:=by
 induction ts generalizing zs with
 |nil=>cases e;rfl
 |cons t ts g =>
  unfold vC at e
  split at e
  .lia
  .rename_i x r h
   cases h
   cases z:vC ts with
   |none=>rw[z] at e;cases e
   |some ds=>rw[z] at e;cases e;rw[g z];rfl
  .cases e
@[irreducible] def Rx:GC:=fun ts C Q=>match ts with
 |[.ref a]=>match C a with
  |some (.lst xs)=>match N5 xs with
   |some cs=>cs.length < 64/\∀p,C p=none->Q (.ref p) (gQ C p (.lst ((Vg cs).map bY)))
   |none=>False
  |_=>False
 |_=>False
end
section
variable {X:Cx}{pos:Pos}
def pV(k:List Key):PV:=.tup (k.map oW)
@[irreducible] def Ur(j:gj)(t:mj)(c:gj):gj:=fun g C Q=>j g C fun x C1=>match x with
 |.ref d=>match C1 d with
  |some (.dT kvs)=>xJ t c g (fun v C2=>C2 d=some (.fT kvs)/\Q v (gQ C2 d (.dT kvs))) (kvs.map fun p=>pV p.1) [] (gQ C1 d (.fT kvs))
  |_=>False
 |_=>False
noncomputable def tOf:Option CO->Option (List (List Key×PV))
 |some (.dT kvs)=>some kvs
 |some (.fT kvs)=>some kvs
 |_=>none
@[irreducible] def cTIy:m9:=fun x y C Q=>match x with
 |.ref a=>match tOf (C a),cF y with
  |some kvs,some k=>match jV kvs k with
   |some v=>Q v C
   |none=>False
  |_,_=>False
 |_=>False
end
end CL
namespace PySem
section
variable {prog:Program}{w:World}{A:Around}{E:Value->Shared->Prop}{s:Shared}
def ZI:typeLookup (.type "list_reverseiterator") "__len__" = pure none:=by rw[DV,Cm];kernel_rfl
def YF:typeLookup (.type "list_reverseiterator") "__length_hint__" = pure (some (.builtin "list_reverseiterator.__length_hint__")):=by kernel_rfl
def Z3(hh:A.handled=none)(ai:l≠I)items S res U(N:S≠I)(af:S≠l)(J:s.heap.IsRevIter I l ((items.size:Int) - 1))(hl:s.heap.IsList l items)(hS:s.heap.get? S=some { cls:=.type "list",data:=.seq #[] U })(hR:∀h' tk q g,(∀b o,b≠S->b≠I->s.heap.get? b=some o->h'.get? b=some o)->h'.get? S=some { cls:=.type "list",dict:=none,data:=.seq q g,slots:=#[] } ->
   ItemsOf (fun i v=>items[items.size - 1 - i]?=some v) q items.size->R (.ok (.ret res)) { s with heap:=h',toks:=tk })(hn:items.size<=sizeLine):
  wpAny (model prog w) A.in1 (Builtin.List.listExtendWith (.ref S) (.ref I) res)
   (fun Z s'=>match Z with | .done f=>R (.ok f) s' | .again g=>g.quiet=true/\codeAny (model prog w) A g R s') (fun e s'=>R (.error e) s') s:=by
 have ae:S∉[I,l]:=fun G=>by
  rcases Aj.mp G with e | e
  .exact N e
  .exact af (AF.mp e)
 have D:=J.typeIs
 delta Builtin.List.listExtendWith
 refine AA (B6 D ?_);have h1:Builtin.List.listSameRef (.ref S) (.ref I)=false:=by simp[Builtin.List.listSameRef,N]
 have h2:(Value.type "list_reverseiterator" == Value.type "list")=false:=by decide
 have h3:(Value.type "list_reverseiterator" == Value.type "tuple")=false:=by decide
 simp only[h1,h2,if_false]
 refine AA (wpAny_pyIter_revIter J (AA (Av (AA (BK D ZI (AA (BK D YF ?_)))))));generalize O:("list_reverseiterator.__length_hint__" : String)=aj
 wp_delta
 rw[show splitId aj=some ("list_reverseiterator","__length_hint__") from by subst O;decide +kernel];subst O;refine AA (B7 (b:=true) D (by kernel_rfl) (CQ (fun j=>absurd j (by decide)) (fun _=>?_)));refine CQ (fun _=>?_) (fun j=>absurd (by decide +kernel) j);refine CQ (fun j=>absurd j (by decide +kernel)) (fun _=>?_)
 apply AD
 have W:=(Walks.listRev (prog:=prog) (w:=w) (A:=A.in1) hh I l ai items).toS;refine AD ⟨BW F.plain_extend_loop _,codeAny_extend_loopS W hn _ ae _ items.size 0 _ _ _ rfl (AX _) ⟨AX _,by simpa using J,hl⟩ hS (ItemsOf.nil _) fun s' q g G ab ag=>?_⟩;rw[Moved.eq_with G];refine hR s'.heap s'.toks q g (fun b ob hb ah e=>G.heap b ob (fun M=>?_) e) ab ag
 rcases Aj.mp M with Y | M
 .exact hb Y
 .exact ah (AF.mp M)
def uT(hh:A.handled=none)(af:l≠I)items S(J:S≠I)(M:S≠l)(ae:s.heap.IsRevIter I l ((items.size:Int) - 1))(hl:s.heap.IsList l items)(D:s.heap.get? S=some { cls:=.type "list",data:=.seq #[] })(O:∀h' G j g,(∀b o,b≠S->b≠I->s.heap.get? b=some o->h'.get? b=some o)->h'.get? S=some { cls:=.type "list",dict:=none,data:=.seq j g,slots:=#[] } ->
   ItemsOf (fun i v=>items[items.size - 1 - i]?=some v) j items.size->R (.ok (.ret .none)) { s with heap:=h',toks:=G })(hn:items.size<=sizeLine):
  wpAny (model prog w) A.in1 (Builtin.«list.__init__» ⟨[.ref S,.ref I],[]⟩)
   (fun N s'=>match N with | .done f=>R (.ok f) s' | .again g=>g.quiet=true/\codeAny (model prog w) A g R s') (fun e s'=>R (.error e) s') s:=by
 apply AA
 refine AA (A0 D rfl (AD (AA (Bg D rfl ?_))));have Y:=Az (Obj.mapSeq (fun _=>(#[]:Array Value))) D rfl
 have F:∀b o,b≠S->s.heap.get? b=some o->(s.heap.update S (Obj.mapSeq (fun _=>(#[]:Array Value)))).get? b=some o :=
  fun b o q e=>(BE _ _ (Ne.symm q)).trans e
 exact AA (Dh (Z3 (s:={ s with heap:=s.heap.update S (Obj.mapSeq (fun _=>(#[]:Array Value))) }) hh af items S .none _ J M (ae.at fun o e=>F I o (Ne.symm J) e) (hl.at fun o e=>F l o (Ne.symm M) e) Y (fun h' G j g hk U Z=>O h' G j g (fun b o q ab e=>hk b o q ab (F b o q e)) U Z) hn))
def tT(hh:A.handled=none)(ae:l≠I)items(J:s.heap.IsRevIter I l ((items.size:Int) - 1))(M:s.heap.IsList l items)(U:∀h' D g j,(∀b o,b≠I->s.heap.get? b=some o->h'.get? b=some o)->h'.get? s.heap.objs.size=some { cls:=.type "list",dict:=none,data:=.seq g j,slots:=#[] } ->
   ItemsOf (fun i v=>items[items.size - 1 - i]?=some v) g items.size->Q (.ref s.heap.objs.size) { s with heap:=h',toks:=D })(hn:items.size<=sizeLine):
  wpAny (model prog w) A (call (.type "list") [.ref I]) Q E s:=by
 have S:=let ⟨o,q,_⟩:=J;AG q
 have ab:=let ⟨o,q,_⟩:=M;AG q
 refine Di (Q₁:=fun N O=>N=.ref s.heap.objs.size/\O={ s with heap:=s.heap.push { cls:=.type "list",data:=.seq #[] } }) F.called_list (F.typeCall_list_1 _) F.entry_list_init
  (code_list_new _ ⟨rfl,rfl⟩) fun N O af=>?_
 obtain⟨rfl,rfl⟩:=af;have G:(s.heap.push { cls:=.type "list",data:=.seq #[] }).get? s.heap.objs.size=some { cls:=.type "list",data:=.seq #[] }:=AL _ rfl;refine⟨⟨_,G,rfl⟩,F.args_list_init_2 _ _,uT (A:=A.in1) hh ae items _ (fun e=>BC _ (e▸S)) (fun e=>BC _ (e▸ab)) (J.at fun o e=>AC _ e) (M.at fun o e=>AC _ e) G (fun h' D g j hk Y Z=>?_) hn⟩
 exact⟨rfl,U h' D g j (fun b o hb e=>hk b o (AY (AG e)) hb (AC _ e)) Y Z⟩
end
end PySem
namespace L2
open PySem PySem.W PyProof.Rows
noncomputable def drop(H:Hp)(a:Addr):Hp:=fun b=>if b=a then none else H b
theorem fE: drop H a a=none :=by grind[drop]
theorem pN(h:b≠a):drop H a b=H b :=by grind[drop]
def Gn(h:H a=none):drop (upd H a o) a=H :=by grind[fE,pN,fQ]
section
variable {X:Cx}{pins:List (Addr×Obj)}{σ:St}{H:Hp}{s:Shared}{h':Heap}
def Inv.gone{l:Addr}(I:Inv X pins σ H s)(j:H it=some (.ext Z))(h0:X.s₀.heap.objs.size<=it)(k:∀b o,b≠it->s.heap.get? b=some o->h'.get? b=some o)(F:s.heap.objs.size<=l)(U:ObjOk X.prog X.w (upd (drop H it) l o) h' l o):Inv X pins σ (upd (drop H it) l o) { s with heap:=h',toks:=t' }:=by
 have Y:∀{b u},H b=some u->b≠l:=fun e z=>by rw[z,(I.hok.fresh F)] at e;cases e
 have S:∀{b u},H b=some u->(∀G,u≠.ext G)->b≠it:=fun e h z=>by rw[z,j] at e;exact h Z (Au e).symm
 have D:∀{b u},H b=some u->(∀G,u≠.ext G)->upd (drop H it) l o b=some u:=fun e h=>by rwa [fQ (Y e),pN (S e h)]
 refine I.step (g':=s.gens) (d':=s.drawn) (ch:=[it]) (fun b hb=>?_) (fun b o _ _ g e _=>k b o (fun z=>g (by simp[z])) e) (fun b o _ _ g e _=>⟨o.slots,k b o (fun z=>g (by simp[z])) e⟩) (fun b u g e n=>?_)
  (fun b o g e=>⟨o,k b o (fun z=>g (by simp[z])) e⟩) (fun b xs e=>D e fun _ z=>nomatch z) (fun b o u e=>D e fun _ z=>nomatch z) (fun b ps e=>⟨#[],by rw[D e fun _ z=>nomatch z];simp⟩) (fun m N=>?_) (fun b u e=>?_) I.bare
 .have e:b=it :=by grind
  subst e;refine⟨.inr h0,fun z=>?_,fun x c e z=>?_,fun p F z=>?_⟩
  .rw [z,I.free] at j;cases j
  .have:=I.freeC x c e;rw[z,j] at this;cases this
  .have:=(I.pin p F).2.1;rw[z,j] at this;cases this
 .rw [fQ (AY (AR (AG e) F)),pN (fun z=>g (by simp[z]))];exact n
 .exact Z4 N fun o es ep O r=>⟨o,es,ep,k _ o (fun z=>by have:=I.free;rw[z,j] at this;cases this) O,r⟩
 .by_cases M:b=l
  .subst M;rw[mQ] at e;cases e;exact U
  .rw [fQ M] at e
   by_cases J:b=it
   .rw [J,fE] at e;cases e
   .rw [pN J] at e
    refine(I.hok b u e).stay (fun c v g q=>k c v ?_ q) (fun c q=>D q fun _ z=>nomatch z) fun c xs q=>D q fun _ z=>nomatch z
    rcases g with z | z
    .rwa [z]
    .lia
end
section
variable {X:Cx}
abbrev Hq(z:Nat)(it p:Addr)(n:Nat):Heap->Prop:=fun h=>z<=it/\h.IsRevIter it p ((n:Int) - 1)
def sT:CallR X (.type "reversed") (fun xs H Q=>∃p ys,xs=[.ref p]/\H p=some (.lst ys)/\∀it,H it=none->Q (.ref it) (upd H it (.ext (Hq X.s₀.heap.objs.size it p ys.length)))):=by
 intro pins s σ H xs M Q I r h;obtain⟨p,ys,rfl,j,q⟩:=h;obtain⟨u,rfl,rfl⟩:=fG r;refine hZ (I.list (SqL.of j)) fun J F D G=>call_reversed_list D.isList ⟨.ref s.heap.objs.size,_,I.laid (t':=s.toks) (fun b o e=>AC _ e) (AH _) ?_,rfl,q _ (I.hok.fresh (AH _))⟩;refine⟨⟨I.sz,_,AL _ rfl,rfl,by simp[revObj,F.length]⟩,⟨_,AL _ rfl⟩,?_⟩
 rintro h1 h2 ⟨z,g⟩ e;exact⟨z,g.at e⟩
def Wj(r:Vals ys j):Vals ys.reverse j.reverse:=by
 induction r with
 |nil=>exact .nil
 |cons h _ g=>rw[Bj,Bj];exact g.append (.cons h .nil)
def Qc(O:X.calm=true):CallR X (.type "list") (fun xs H Q=>∃it p ys,xs=[.ref it]/\H it=some (.ext (Hq X.s₀.heap.objs.size it p ys.length))/\H p=some (.lst ys)/\∀l,H l=none->Q (.ref l) (upd (drop H it) l (.lst ys.reverse))):=by
 intro pins s σ H xs ag Q I r h;obtain⟨it,p,ys,rfl,hi,j,q⟩:=h;obtain⟨u,rfl,rfl⟩:=fG r;obtain⟨g,G,Z,U⟩:=(I.list (SqL.of j));have ae:=G.length;obtain⟨⟨h0,af⟩,_,_⟩:=(I.hok it _ hi);have S:p≠it:=fun z=>by rw[z,hi] at j;cases j
 refine tT (I.ok.hd O) S g.toArray (by grind) Z.isList (fun h' tk D J Y e F=>?_) (by grind)
 have N:D=g.reverse.toArray:=by
  apply Array.ext
  .rw [F.1,Al,Al,Bk]
  .intro i h1 h2
   have:=F.2 i D[i] (Bf h1);rw[Al,Cn] at this;have ab:i < g.length :=by simp_all
   rw[AK (by omega)] at this;have M:g.reverse.toArray[i]=g[g.length - 1 - i]:=by simp
   exact M▸(Au this).symm
 subst N;exact⟨.ref s.heap.objs.size,_,I.gone (t':=tk) hi h0 Y (AH _) (show ObjOk X.prog X.w _ h' _ (.lst ys.reverse) from⟨by rw[Bk];exact U,g.reverse,J,Wj G,e⟩),rfl,q _ (I.hok.fresh (AH _))⟩
end
end L2
namespace CL
open PySem PySem.Spec L2 PySem.W
open PyProof.Rows hiding St
section
variable {X:Cx}{a b c e o i f value:Expr}{es:List Expr}{pos pos':Pos}
@[irreducible] def El:PV->CH->K1->Prop:=fun x C Q=>match x with
 |.ref a=>match C a with
  |some (.lst xs)=>∀p,C p=none->Q (.ref p) (gQ C p (.lst xs.reverse))
  |_=>False
 |_=>False
def GY(g:gj):gj:=fun j C Q=>g j C fun x C1=>El x C1 Q
def Jc(M:X.calm=true)(O:Gl X "list")(S:Gl X "reversed")(U:X.mg "list" = none)(Y:X.mg "reversed" = none)(N:CE X e G)(hs:yX e=true:=by rfl):
  CE X (.Call (.Name "list" p) [.Call (.Name "reversed" p2) [e] [] ab] [] pos) (GY G):=⟨JE.weak (sG (Qc M) O U rfl (hM (sG sT S Y rfl (hM N.h ⟨eC⟩ hs) (by decide) rfl hs rfl) ⟨eC⟩)) fun σ H Q zz=>fX zz fun ρ C R s h q f=>
  ⟨ρ,C,_,s,h,q,fun x H1 px C1 j rx h1 J=>by
   delta El at j
   split at j
   .split at j
    .next xs I =>
     obtain⟨vs,D,rv⟩:=(h1 _ _ I);cases rx;refine⟨_,vs,rfl,D,fun it F=>⟨it,_,vs,rfl,mQ,?_,fun l g=>?_⟩⟩
     .rw [fQ (fun z=>by rw[z,F] at D;cases D)];exact D
     .have Z:l≠it:=fun z=>by rw[z,mQ] at g;cases g
      rw[fQ Z] at g;rw[Gn F];exact f _ _ _ _ (j l (h1.fresh g)) (.ref l) (h1.lay g ⟨_,mQ,rv.reverse.dm (iz.new g _)⟩) (J.trans (Fw.lay g _ _))
    .exact j.elim
   .exact j.elim⟩⟩
def Od(n:Nat):List PV:=(List.range n).map fun k=>PV.int (k:Nat)
@[irreducible] def cRng:PV->CH->K1->Prop:=fun x C Q=>match x with
 |.int j=>0<=j/\j<=100000/\∀p,C p=none->Q (.ref p) (gQ C p (.lst (Od j.toNat)))
 |_=>False
@[irreducible] def Em:PV->List PV->CH->K1->Prop:=fun x ts C Q=>match x,ts with
 |.ref a,[]=>match C a with
  |some (.lst xs)=>match xs[xs.length - 1]? with
   |some y=>Q y (gQ C a (.lst xs.dropLast))
   |none=>False
  |_=>False
 |_,_=>False
def Kz{K}:rm K rPop Em:=fun x N xs ps H C Q R M rs h q f=>by
 delta Em at q
 split at q
 .split at q
  .next ys D =>
   split at q
   .next y F =>
    obtain⟨vs,g,j⟩:=(h _ _ D);cases rs;cases M;obtain⟨v,I,J⟩:=(j.get F)
    have G:d7 K H vs.dropLast ys.dropLast:=by
     rw[List.dropLast_eq_take,List.dropLast_eq_take,j.len];exact j.take _
    exact⟨_,vs,v,rfl,rfl,g,by exact j.len▸I,f _ _ _ _ q (J.dm (iz.mut g rfl _)) (h.put g rfl ⟨_,mQ,G.dm (iz.mut g rfl _)⟩) (Fw.put D _ _)⟩
   .exact q.elim
  .exact q.elim
 .exact q.elim
@[irreducible] def Ef(c:gj):mj:=fun g C Q=>c g C fun x C1=>match x with
 |.ref a=>match C1 a with
  |some (.lst xs)=>Q (!xs.isEmpty) C1
  |_=>False
 |_=>False
def Gx{c}(h:CE X e c)(G:mP e=true:=by rfl):CT X e (Ef c):=⟨JT.weak ⟨WU h.h.h (dC G)⟩ fun σ H Q M=>fX M fun N C R s h q f=> by
 delta Ef at q
 exact⟨N,C,_,s,h,q,fun x H1 O C1 g J h1 F=>by
  split at g
  .split at g
   .next xs j =>
    refine oQ (h1 _ _ j) fun vs D I=>?_;cases J;refine⟨!xs.isEmpty,.inl ⟨vs,SqL.of D,?_⟩,f _ H1 _ C1 g rfl h1 F⟩;have:=I.len;cases vs<;>cases xs<;>simp_all
   .exact g.elim
  .exact g.elim⟩⟩
def GW(c:Addr)(m:Str)(G:GC)(g:gj):gj:=fun j C Q=>g j C fun x C1=>xE c m x C1/\G [x] C1 Q
def GM{c}(U:Cls X.K c)(Y:G8 X.K c m N)(F:FnOk X.prog X.w X.K X.mg X.base CX k N fd ps (p7 X.K G))(hr:Room k X.A)(S:Binds X.K fd ps [])(hx:jW CX X E)(Z:CE X o D)(ht:eval (.Call (.Attribute o m apos) [] [] pos) X.env=(do
   let g <- eval o X.env
   standAt apos.atName
   let (f,first) <- holding [g] (getMethod g m pl)
   callWith pos f first (backTo pos (starEach [] X.env)) (backToKw pos (keywordEach [] X.env))):=by rfl):
  CE X (.Call (.Attribute o m apos) [] [] pos) (GW c m G D) :=
 ⟨JE.weak ⟨W8 Z.h.h U Y F hr S .nil hx ht⟩ fun σ H Q zz=>fX zz fun ρ C R s h q f=> ⟨ρ,C,_,s,h,q,fun x H1 px C1 j rx h1 M=>by
  obtain⟨a,dx,O,rfl,rfl,I,lk⟩:=Xo j.1 rx h1
  exact⟨a,dx,O,rfl,I,lk,⟨[.ref a],C1,R,.cons (.ref a) .nil,h1,j.2,fun v H' t C' q' r' h' J=>f v H' t C' q' r' h' (M.trans J)⟩⟩⟩⟩
def Lp(m:C p=some (.lst xs))(q:∀g,C g=none->Q (.ref g) (gQ C g (.lst xs.reverse))):El (.ref p) C Q :=by simp_all[El]
def Hg(m:C p=some (.lst xs))(e:xs[xs.length - 1]?=some y)(q:Q y (gQ C p (.lst xs.dropLast))):Em (.ref p) [] C Q :=by simp_all[Em]
def Fx{c}(h:c g C fun x C1=>∃a xs,x=.ref a/\C1 a=some (.lst xs)/\Q (!xs.isEmpty) C1)(F:∀(j D:K1),(∀v C1,j v C1->D v C1)->c g C j->c g C D):Ef c g C Q:=by
 delta Ef
 refine F _ _ ?_ h;rintro v C1 ⟨b,xs,rfl,m,q⟩;dsimp only
 rwa [m]
end
structure Row where
 k:Option Str
 nm:Str
 q:Str
 st:Stmt
 ps:List Str
 N:List Str
def sy(p:Row->Prop):List Row->Prop
 |[]=>True
 |r::rs=>p r/\sy p rs
def FH(K:Dm)(r:Row):Prop:=match r with
 |⟨none,j,q,st,_,_⟩=>∃(f:Addr)(J:Value)(M:Option Addr)(I G N:Value)(D:Option Addr)(g F:Value)(O:Array (Option Value)),
  PySem.W.nsIn K mainGlobals j=some (some (.ref f))/\K.lookup f=some ⟨J,M,.func (PySem.W.fnOf j q (qG st) (qV st) (lX st) .none I G N D g F),O⟩/\PySem.W.codeIn K g q=true/\PySem.W.keepIn K (.ref f)=true
 |⟨some c,j,q,st,_,_⟩=>∃(cc f:Addr)(J:Value)(M:Option Addr)(I G N:Value)(D:Option Addr)(g F:Value)(O:Array (Option Value)),
  PySem.W.nsIn K mainGlobals c=some (some (.ref cc))/\PySem.W.findIn K (.ref cc) j=some (some (.ref f))/\K.lookup f=some ⟨J,M,.func (PySem.W.fnOf j q (qG st) (qV st) (lX st) .none I G N D g F),O⟩/\PySem.W.codeIn K g q=true/\PySem.W.keepIn K (.ref f)=true/\PySem.W.isFn K (.ref f)=true
def RB(r:Row):Prop:=FnScope r.N r.ps (lX r.st)/\∀(G F I:Value)(j:Option Addr)(q D:Value)(g:List Value),g.length=r.ps.length->bindArgs (PySem.W.fnOf r.nm r.q (qG r.st) (qV r.st) (lX r.st) .none G F I j q D) ⟨g,[]⟩=pure (r.ps.zip g)
structure FI(K:Dm)(mg:Str->Option Value)(k:Option Str)(nm q:Str)(st:Stmt)(ps N:List Str)(f:Addr)(d:FuncData):Prop where
 m:k=none->mg nm=some (.ref f)
 M:∀c ca,k=some c->mg c=some (.ref ca)->PySem.W.findIn K (.ref ca) nm=some (some (.ref f))/\PySem.W.isFn K (.ref f)=true
 F:Fun K nm q st f d
 s:FnScope N ps (lX st)
 b:Binds K d ps []
section
variable {P:List Value->Prop}
def XY(h:∀a(g:List Value),g.length=n->P (a::g))g(e:g.length=n+1):P g:=by
 cases g with
 |nil=>cases e
 |cons a g=>exact h a g (Ax e)
def R4(h:P [])g(e:g.length=0):P g :=by grind
def args1(h:∀a,P [a]):∀g,g.length=1->P g:=XY fun a=>R4 (h a)
def args2(h:∀a b,P [a,b]):∀g,g.length=2->P g:=XY fun a=>args1 (h a)
def Hx(h:∀a b c,P [a,b,c]):∀g,g.length=3->P g:=XY fun a=>args2 (h a)
def Hw(h:∀a b c d,P [a,b,c,d]):∀g,g.length=4->P g:=XY fun a=>Hx (h a)
def R0(h:∀a b c d e,P [a,b,c,d,e]):∀g,g.length=5->P g:=XY fun a=>Hw (h a)
end
def Mr{K}(X:K.In h)(G:h.Ns mainGlobals mg)(x:FH K r)(y:RB r):∃f d,FI K mg r.k r.nm r.q r.st r.ps r.N f d:=by
 obtain⟨k,af,q,st,ps,N⟩:=r;obtain⟨D,F⟩:=y
 cases k with
 |none =>
  obtain⟨f,Z,od,Y,O,ab,I,J,M,sl,h1,h2,g,j⟩:=x;exact⟨f,_,⟨fun _=>BH X G h1,fun _ _ e=>(nomatch e),uI h2 g j,D,Fun.binds (uI h2 g j) F⟩⟩
 |some c =>
  obtain⟨cc,f,Z,od,Y,O,ab,I,J,M,sl,h0,h1,h2,g,j,U⟩:=x;refine⟨f,_,⟨fun e=>(nomatch e),fun c' ae e S=>?_,uI h2 g j,D,Fun.binds (uI h2 g j) F⟩⟩;cases e;have:=(BH X G h0).symm.trans S;cases this;exact⟨h1,U⟩
theorem rn{K}(X:K.In h)(G:h.Ns mainGlobals mg):∀{t},sy (FH K) t->sy RB t->∃(f:Nat->Addr)(d:Nat->FuncData),∀i{k}{g q}{st}{ps N},t[i]?=some ⟨k,g,q,st,ps,N⟩->FI K mg k g q st ps N (f i) (d i)
 |[],_,_=>⟨fun _=>mainGlobals,fun _=>PySem.W.fnOf "" "" (qG (.Pass ⟨0,0,0,0⟩)) [] (lX (.Pass ⟨0,0,0,0⟩)) .none .none .none .none none .none .none,fun i _ _ _ _ _ _ e=>by simp at e⟩
 |r::t,x,y=>by
  refine Rm (Mr X G x.1 y.1) fun D j h0=>Rm (rn X G x.2 y.2) fun f d h=>⟨fun i=>match i with | 0=>D | i+1=>f i,fun i=>match i with | 0=>j | i+1=>d i,fun i=>?_⟩
  cases i with
  |zero=>intro k g q st ps N e;cases e;exact h0
  |succ i=>intro k g q st ps N e;exact h i e
section
variable {P:Program}{w:World}{K:Dm}{mg:Str->Option Value}{base:Heap}
theorem FI.ok{st}(F:FI K mg J x j st ps N f fd)(D:∀ts C R,G ts C R->ts.length=ps.length)(q:∀g A I s H E,Room k (A.deeper (envOfC j (lX st) s.heap.objs.size f g)) ->
   ∃c,CB (mI CX0 P w K mg base N j (lX st) f g A I s H E).nox (qV st) c/\∀ts C R,G ts C R->c (.go R) (yP N ts) C):FnOk P w K mg base CX0 (k+1) f fd ps (p7 K G):=Fun.UW F.F F.s D q
theorem FI.o{st}{c}(F:FI K mg J x j st ps N f fd)(q:∀{g A I s H E}(_:Room k (A.deeper (envOfC j (lX st) s.heap.objs.size f g))),CB (mI CX0 P w K mg base N j (lX st) f g A I s H E).nox (qV st) c)(h:∀ts C R,G ts C R->c (.go R) (yP N ts) C)(D:∀ts C R,G ts C R->ts.length=ps.length:=by intro _ _ _ h;cases h;subst_vars;rfl):FnOk P w K mg base CX0 (k+1) f fd ps (p7 K G):=Fun.UW F.F F.s D fun _ _ _ _ _ _ r=>⟨c,q r,h⟩
end
section
variable {X:Cx}{e o:Expr}{es:List Expr}{pos:Pos}
def cf{st}{p}(T:FI X.K X.mg none x q st ps N f fd)(F:FnOk X.prog X.w X.K X.mg X.base CX0 k f fd ps (p7 X.K G))(M:Room k X.A)(j:CA X (e::es) g)(J:Gl X x:=by rfl)(I:(x==("__debug__" : Str))=false:=by decide)(hs:yX e=true:=by rfl)(D:es.all yX=true:=by rfl):CE X (.Call (.Name x p) (e::es) [] pos) (tH G g) :=
 Dy F M J (T.m rfl) T.F.kp T.b QT j I hs D
def cm{st}{apos}{pl}(S:Cls X.K c)(T:FI X.K X.mg (some I) m q st ps N M fd)(g:X.mg I=some (.ref c))(F:FnOk X.prog X.w X.K X.mg X.base CX0 k M fd ps (p7 X.K G))(Z:Room k X.A)(U:CE X o J)(O:CA X (e::es) D)(ab:starEach (e::es) X.env=(false,eval e X.env)::starEach es X.env:=by rfl)(Y:(backTo pos (starEach es X.env)).any (·.1)=false:=by rfl)(ht:eval (.Call (.Attribute o m apos) (e::es) [] pos) X.env=(do
   let j <- eval o X.env
   standAt apos.atName
   let (f,first) <- holding [j] (getMethod j m pl)
   callWith pos f first (backTo pos (starEach (e::es) X.env)) (backToKw pos (keywordEach [] X.env))):=by rfl):
  CE X (.Call (.Attribute o m apos) (e::es) [] pos) (Hu c m G J D) :=
 Dv S ⟨(T.M _ _ rfl g).1,(T.M _ _ rfl g).2,T.F.kp⟩ F Z T.b QT U O ab Y ht
def cm0{st}(M:Cls X.K c)(T:FI X.K X.mg (some D) m q st ps N J fd)(g:X.mg D=some (.ref c))(F:FnOk X.prog X.w X.K X.mg X.base CX0 k J fd ps (p7 X.K G))(S:Room k X.A)(O:CE X o I)(U:eval (.Call (.Attribute o m apos) [] [] pos) X.env=(do
   let j <- eval o X.env
   standAt apos.atName
   let (f,first) <- holding [j] (getMethod j m Y)
   callWith pos f first (backTo pos (starEach [] X.env)) (backToKw pos (keywordEach [] X.env))):=by rfl):
  CE X (.Call (.Attribute o m apos) [] [] pos) (GW c m G I) :=
 GM M ⟨(T.M _ _ rfl g).1,(T.M _ _ rfl g).2,T.F.kp⟩ F S T.b QT O U
def cx(q:CE X a g)(D:CE X b j)(hs:Qo b:=by exact fun _ _=>rfl):CE X (.Subscript a b pos) (qp qw g j):=Ru yh MJ q D hs
def dw(j:CE X e g)(hs:yX e=true:=by rfl):CA X [e] (fV g aL):=qQ j bZ hs
def fu i{pos'}(j:X.N.Nodup)(q:CE X e g)(hi:X.N[i]?=some x:=by rfl)(F:Loc X.env.scope x:=by first | exact Or.inl rfl | exact Or.inr rfl)(hs:swapsWith e (some (.Name x pos')) pos.line X.env=pure false:=by rfl)(D:X.fn x=true\/X.env.scope.names.lookup x=some .local:=by first | exact .inl rfl | exact .inr rfl | assumption):
  CS X (.Assign [.Name x pos'] e pos) (GV i g):=MF j hi F q hs D
def j7 i(g:X.N.Nodup)(hi:X.N[i]?=some x:=by rfl)(q:Loc X.env.scope x:=by first | exact Or.inl rfl | exact Or.inr rfl)(j:X.fn x=true\/X.env.scope.names.lookup x=some .local:=by first | exact .inl rfl | exact .inr rfl | assumption):CG X (.Name x pos) (Gw i):=Du g hi q j
def j9{p}(D:X.mg "len" = none)(j:CE X e g)(q:Gl X "len":=by rfl)(hs:yX e=true:=by rfl):CE X (.Call (.Name "len" p) [e] [] pos) (tH xN (fV g aL)):=iQ V1 Eb q D rfl (dw j hs) (hs:=hs)
def o8{p}(D:X.mg "tuple" = none)(j:CE X e g)(q:Gl X "tuple":=by rfl)(hs:yX e=true:=by rfl):CE X (.Call (.Name "tuple" p) [e] [] pos) (tH qH (fV g aL)):=mZ nT Dz q D rfl (dw j hs) (hs:=hs)
def cap{apos cpos}(I:CE X o j)(q:CE X e g)(D:attributeBase o "append" X.env (eval o X.env)=eval o X.env:=by rfl)(F:((backTo cpos (starEach [e] X.env)).all (fun x=>!x.1)&&(backToKw cpos (keywordEach [] X.env)).all (fun x=>x.1.isSome)
   && decide ([e].length+([]:List Keyword).length+(if ([]:List Keyword).isEmpty then 0 else 1) < 30))=true:=by rfl)(G:(apos.endLine==cpos.line)=true:=by rfl)(hs:yX e=true:=by rfl):CE X (.Call (.Attribute o "append" apos) [e] [] cpos) (cBM lU j (fV g aL)) :=
 XR A9 PySem.F.slot_list_append PySem.F.type_list_append oO Ja I (dw q hs) D F G hs
def ct2(I:OpR X (compareOp op) r)(J:j8 X.K r q)(D:CE X a g)(F:CE X b j)(G:behindInMarks op b=false:=by exact wV _):CT X (.Compare a [op] [b] pos) (lE (qp q g j)):=Z7 I J D F G
end
end CL
namespace L2
open PySem
theorem FnScope.c(S:FnScope N ps sc)(h:N.contains x=false):(x::N).Nodup:=by
 refine BD.2 ⟨fun m=>?_,S.nd⟩;rw[List.contains_iff_mem.2 m] at h;cases h
theorem FnScope.k(S:FnScope N ps sc)(j:X.N=N)(D:X.env.scope=sc)(q:X.env.cells=cellsFrom L sc.names [])(h:zS xs F N sc=true):∃g,xY X xs F g:=qS j D q h
end L2
namespace L2
open PySem PySem.W PyProof.Rows
section
variable {X:Cx}
def FZ:V->List V->Hp->VK->Prop:=fun x vs H Q=>∃a y o,x=.ref a/\vs=[y]/\Jo H a y o/\Q (o.getD .non) H
def xm(D:X.A.units+2 < cLine):MtR X "dict.get" FZ:=by
 intro pins s σ H x vs v N Q I M J h;obtain⟨a,y,o,rfl,rfl,g,q⟩:=h;cases M;obtain⟨u,rfl,G⟩:=J.one;exact IK D I g G fun O s' j F=>⟨_,H,j,F,q⟩
def Ni(X:Cx)(T:String)(x:V)(H:Hp):Prop:=∀(pins:List (Addr×Obj))(σ:St)(s:Shared)(v:Value),Inv X pins σ H s->RelV x v->s.TypeIs v T/\∀a,v=.ref a->∃g,s.heap.get? a=some g/\g.dict=none
def Rp{kvs:List (mK×V)}(e:H a=some (.dP kvs)):Ni X "dict" (.ref a) H:=by
 intro pins σ s v I r;cases r;refine⟨Kr I e,fun b g=>?_⟩;cases g;obtain⟨_,_,_,_,o,_,_,j,q,_⟩:=(I.hok a _ e);exact⟨o,j,q.2.1⟩
variable {o e:Expr}{es:List Expr}{to:TE}{t:TA}{name:Str}{apos cpos:Pos}{T id:String}{r:V->List V->Hp->VK->Prop}
def Iz(Y:PlainAttrs T)(af:Slot T name id)(U:typeOf (.builtin id)=pure (.type "method_descriptor"))(O:MtR X id r)(S:PE X o to)(G:PA X (e::es) t)(J:attributeBase o name X.env (eval o X.env)=eval o X.env)(M:((backTo cpos (starEach (e::es) X.env)).all (fun x=>!x.1)&&(backToKw cpos (keywordEach [] X.env)).all (fun x=>x.1.isSome)
   && decide ((e::es).length+([]:List Keyword).length+(if ([]:List Keyword).isEmpty then 0 else 1) < 30))=true)(N:(apos.endLine==cpos.line)=true)(hs:starEach (e::es) X.env=(false,eval e X.env)::starEach es X.env)(ah:(backTo cpos (starEach es X.env)).any (·.1)=false):
  PE X (.Call (.Attribute o name apos) (e::es) [] cpos) (fun σ H Q=>to σ H fun x H1=>Ni X T x H1/\t σ H1 fun xs H2=>r x xs H2 Q):=by
 intro pins s σ H Q I h;refine wpAny_Call_method_late J M N rfl (thn (S pins s σ H _ I h) fun v ab g=>cT g fun x H1 j D ty Z=> ?_);obtain⟨h1,h2⟩:=ty _ _ _ _ j D;refine⟨T,id,Y,af,U,h1,h2,?_⟩;have q:=G cpos pins ab σ H1 _ j Z;rw[hs] at q ⊢;exact Ci (by grind) (Dl (thn q fun ag ae g=>kZ g fun vs H2 F r2 q2=> O pins ae σ H2 x vs v ag Q F D r2 q2))
end
end L2
namespace CL
open PySem PySem.Spec L2 PySem.W
open PyProof.Rows hiding St
section
variable {X:Cx}{a b c e o i f value:Expr}{es:List Expr}{pos pos':Pos}
def Pb(x:PV)(C:CH):Prop:=∃a kvs,x=.ref a/\C a=some (.dP kvs)
def yr(d:Pb t C)(r:Rep X.K H x t)(h:d8 X.K H C):Ni X "dict" x H:=by
 obtain⟨a,kvs,rfl,e⟩:=d;cases r;exact oQ (h a _ e) fun vs g _=>Rp g
def Ut(D:PV->List PV->CH->K1->Prop)(q:gj)(j:qu):gj:=fun g C Q=>q g C fun x C1=>Pb x C1/\j g C1 fun xs C2=>D x xs C2 Q
def M4{id}{apos cpos}(pa:PlainAttrs "dict")(af:Slot "dict" name id)(ae:typeOf (.builtin id)=pure (.type "method_descriptor"))(ab:MtR X id r)(hr:rm X.K r M)(ho:CE X o J)(O:CA X (e::es) I)(U:attributeBase o name X.env (eval o X.env)=eval o X.env:=by rfl)(Y:((backTo cpos (starEach (e::es) X.env)).all (fun x=>!x.1)&&(backToKw cpos (keywordEach [] X.env)).all (fun x=>x.1.isSome)
   && decide ((e::es).length+([]:List Keyword).length+(if ([]:List Keyword).isEmpty then 0 else 1) < 30))=true:=by rfl)(Z:(apos.endLine==cpos.line)=true:=by rfl)(hs:yX e=true:=by rfl)(S:es.all yX=true:=by rfl):
  CE X (.Call (.Attribute o name apos) (e::es) [] cpos) (Ut M J I) :=
 ⟨JE.weak ⟨Iz pa af ae ab ho.h.h O.h.h U Y Z (tZ hs) (mY S)⟩ fun σ H Q zz=>fX zz fun G C R s h q f=>
 ⟨G,C,_,s,h,q,fun x H1 px C1 D F h1 g=>⟨yr D.1 F h1,G,C1,_,s.dm (g.dm h),h1,D.2,fun xs H2 ps C2 q2 rs h2 j=>
  hr x px xs ps H2 C2 Q R (F.dm (j.dm h1)) rs h2 q2 fun v H' t C' q' r' h' N=>f v H' t C' q' r' h' (g.trans (j.trans N))⟩⟩⟩
@[irreducible] def KM:PV->List PV->CH->K1->Prop:=fun x ts C Q=>match x,ts with
 |.ref a,[y]=>match C a,aH y with
  |some (.dP kvs),some k=>Q ((jV kvs k).getD .non) C
  |_,_=>False
 |_,_=>False
def GG{K}:rm K FZ KM:=fun x O xs ps H C Q R M rs h q f=>by
 delta KM at q
 split at q
 .next a y =>
  split at q
  .next kvs k D F =>
   obtain⟨v,rfl,N⟩:=oX rs;cases M;obtain⟨vs,I,r⟩:=(h a _ D);obtain⟨b,rfl,G⟩:=aD N F;refine⟨a,.ref b,aY vs k,rfl,rfl,⟨vs,k,b,I,rfl,G,rfl⟩,?_⟩
   rcases FP.val r k with ⟨v,t',g,j,J⟩ | ⟨g,j⟩
   .rw [j] at q;exact g▸f _ H _ C q J h Fw.refl
   .rw [j] at q;exact g▸f _ H _ C q .non h Fw.refl
  .exact q.elim
 .exact q.elim
@[irreducible] def SN:PV->List PV->CH->K1->Prop:=fun x ts C Q=>match x,ts with
 |.ref a,[]=>match C a with
  |some (.dP kvs)=>Q .non (gQ C a (.dP []))
  |_=>False
 |_,_=>False
noncomputable def hK:Key->Int
 |.inl (some k)=>hashInt k
 |.inl none=>4238894112
 |.inr _=>0
def Ot(k:mK):Int:=reduceHash (Builtin.Tuple.tupleHashOf (k.map fun g=>reduceHash (Builtin.Tuple.tupleHashOf (g.map hK))))
noncomputable def noT:Key->Bool
 |.inr _=>false
 |_=>true
@[irreducible] def Up:GC:=fun ts C Q=>match ts with
 |[.ref a]=>match C a with
  |some (.dP kvs)=>(∀p∈kvs,p.1.all (fun g=>g.all noT)=true)/\(kvs.map fun p=>Ot p.1).Nodup/\∀p,C p=none->Q (.ref p) (gQ C p (.dP kvs))
  |_=>False
 |_=>False
@[irreducible] def cNeQ(d:Nat):m9:=fun x y C Q=>match x,y with
 |.ref a,.ref b=>match C a,C b with
  |some (.dP xs),some (.dP ys)=>xs=ys/\(∀p∈xs,Pl d p.2)/\Q (.bl false) C
  |_,_=>False
 |_,_=>False
noncomputable def Tj(g:List (List Str)):Nat->Nat->Bool:=fun i j=>HT.nq (g.getD i []) (g.getD j [])
def Te(g:List (List Str)):List (List Str):=(yU (Tj g) (kas_sort g.length)).toList.map fun i=>g.getD i []
def Ti(k:List Str):PV:=.tup (k.map PV.str)
noncomputable def O7:List (List Key×PV)->Option (List (List Str))
 |[]=>some []
 | ([.inr x,.inr y],_)::r=>(O7 r).map ([x,y] :: ·)
 |_=>none
@[irreducible] def Ry:GC:=fun ts C Q=>match ts with
 |[.ref a]=>match C a with
  |some (.dT kvs)=>match O7 kvs with
   |some g=>g.length < 64/\∀p,C p=none->Q (.ref p) (gQ C p (.lst ((Te g).map Ti)))
   |none=>False
  |_=>False
 |_=>False
@[irreducible] def cIsiT:GC:=fun ts C Q=>match ts with
 |[.ref a,.ty n]=>match C a with
  |some (.dT _)=>n = "dict"/\Q (.bl true) C
  |_=>False
 |_=>False
def Mj{a}{kvs:List (mK×PV)}(m:C a=some (.dP kvs))(e:aH y=some k)(q:Q ((jV kvs k).getD .non) C):KM (.ref a) [y] C Q:=by
 delta KM;dsimp only;rwa [m,e]
end
section
variable {X:Cx}{e o:Expr}{es:List Expr}
@[irreducible] def cJoin:PV->List PV->CH->K1->Prop:=fun x ts C Q=>match x,ts with
 |.str g,[.ref a]=>match C a with
  |some (.lst xs)=>∃zs:List Str,xs=zs.map PV.str/\(zs.map (·.length)).sum+zs.length * g.length<=16777216/\Q (.str (Str.join g zs)) C
  |_=>False
 |_,_=>False
noncomputable def S7(i:Int):Str:=toString i
@[irreducible] def KG:GC:=fun ts C Q=>match ts with
 |[.int i]=>i.natAbs<=1000000000000/\Q (.str (S7 i)) C
 |_=>False
def GT{K:Dm}:qe K (fun xs H Q=>∃i,xs=[.int i]/\i.natAbs.log2 < 1920/\Q (.str (toString i)) H) KG:=fun xs ps H C Q R rs h q f=>by
 unfold KG at q
 split at q
 .next i =>
  obtain⟨v,rfl,r⟩:=oX rs;cases r;refine⟨i,rfl,?_,f _ H _ C q.2 (.str _) h Fw.refl⟩
  by_cases h0:i.natAbs=0
  .rw [h0];decide
  .rw [Nat.log2_lt h0]
   exact Ak q.1 (AR (show 1000000000000 < 2 ^ 40 by decide) (Cq (by decide) (by decide)))
 .exact q.elim
def uo{i:Int}(h:i.natAbs<=1000000000000):(S7 i).length<=14:=by
 show(Str.ofString (toString i)).length<=14;rw[PySem.ofString_length];exact int_text_length_le10 (k:=13) (by decide) (Ak h (by decide))
def HW{i:Int}{C:CH}{Q:K1}(h:i.natAbs<=1000000000000)(q:Q (.str (S7 i)) C):KG [.int i] C Q:=by
 unfold KG;exact⟨h,q⟩
end
end CL
namespace TB
noncomputable def step(M i:Nat):Nat:=(i * 5+1) % M
end TB
namespace TB
open PySem SetTable
structure TOk(t:SetTable)(k:Nat):Prop where
 mask:t.mask+1=2 ^ k
 dum:t.dummies = #[]
 few:t.place.size<=t.mask
end TB
namespace PySem
open Sem (wp)
open TB
section
variable {prog:Program}{w:World}{K:Type}[DecidableEq K]{knd:KeyKind prog w K}
variable (knd)
noncomputable def TJ(x:List (List K)×Addr):Int×Value:=(qL knd x.1,.ref x.2)
structure PSet(h:Heap)(a:Addr)(xs:List (List (List K)×Addr))(o:Obj)(es:Array (Int×Value))(ep:Nat)(t:SetTable)(k:Nat):Prop where
 at':h.get? a=some o
 ex:o.ExactSet
 dat:o.data=.set es ep t
 tok:TOk t k
 size:t.place.size=es.size
 ents:es.toList=xs.map (TJ knd)
 keys:∀x∈xs,d9 knd h x.1 x.2
 big:2<=t.mask
variable {knd}{A:Around}{E:Value->Shared->Prop}{s:Shared}{a:Addr}{xs:List (List (List K)×Addr)}{o:Obj}{es:Array (Int×Value)}{ep:Nat}{t:SetTable}{k:Nat}
end
end PySem
namespace CL
open PySem PySem.Spec L2 PySem.W
open PyProof.Rows hiding St
section
variable {X:Cx}{e:Expr}{pos:Pos}
noncomputable def pA:List PV->Option (List mK)
 |[]=>some []
 |t::r=>match aH t,pA r with
  |some k,some g=>some (k::g)
  |_,_=>none
@[irreducible] def Uj:PV->CH->K1->Prop:=fun x C Q=>match x with
 |.ref a=>match C a with
  |some (.lst xs)=>∃g,pA xs=some g/\g.Nodup/\g.length<=9900/\Q (.int g.length) C
  |_=>False
 |_=>False
@[irreducible] def cPNin:m9:=fun y x C Q=>match x with
 |.ref a=>match C a,aH y with
  |some (.dP kvs),some k=>Q (.bl (!(jV kvs k).isSome)) C
  |_,_=>False
 |_=>False
@[irreducible] def cInE:m9:=fun x y C Q=>match x,y with
 |.tup [],.ref a=>match C a with
  |some (.lst xs)=>(∀t∈xs,∃u g,t=.tup (u::g))/\Q (.bl false) C
  |_=>False
 |_,_=>False
@[irreducible] def cNeU(d:Nat):m9:=fun x y C Q=>match x,y with
 |.tup xs,.tup ys=>xs=ys/\(∀t∈xs,Pl d t)/\Q (.bl false) C
 |_,_=>False
end
@[irreducible] def cLenQ:GC:=fun ts C Q=>match ts with
 |[.ref a]=>match C a with
  |some (.dP kvs)=>Q (.int kvs.length) C
  |_=>False
 |_=>False
section
variable {X:Cx}{e:Expr}
def rD(z:Str):List PV:=z.cps.toList.map fun c=>PV.str ⟨#[c]⟩
def Mf{K}z:X0 K H (Its z) (rD z) where
 go:=fun i H' l k=>by
  delta rD at l
  rwa [AB,BG] at l
 yl:=fun i H' x j k y=>by
  obtain⟨rfl,c,g,rfl⟩:=y;refine⟨rfl,fun t e=>?_⟩;unfold rD at e;rw[Am,Array.getElem?_toList,g] at e;cases e;exact .str _
 st:=fun H' k=>by
  delta rD
  rw[AB,BG];exact AH _
def Ul(g:gj):jt->CH->(List PV->CH->Prop)->Prop:=fun j C Q=>g j C fun t C1=>match t with
 |.str z=>Q (rD z) C1
 |_=>False
def MP(h:CE X e g):CI X tg e (Pr (bJ X.K (Rep X.K) g)) (Ul g):=⟨⟨Iw h.h.h⟩,fun σ H G C R Q s h q f=>⟨G,C,_,s,h,q,fun x H1 I C1 j F h1 D=>by
  cases F with
  |str z=>exact⟨z,rfl,f _ H1 (rD z) C1 j (Mf z) h1 D⟩
  |_=>exact j.elim⟩⟩
end
end CL
namespace PySem
section
variable {prog:Program}{w:World}{A:Around}{E:Value->Shared->Prop}{s:Shared}
def aK{items}(q:s.heap.IsTupleIter it t i)(M:s.heap.IsTuple t items)(N:items[i]?=some x)(D:∀h',h'.IsTupleIter it t (i+1)->Heap.SameBut it s.heap h'->Q x { s with heap:=h' }):
  wpAny (model prog w) A (Builtin.SmallTypes.nextOf (.ref it)) Q E s:=by
 obtain⟨o,j,G,g⟩:=(id q);obtain⟨S,J,_,O,I⟩:=M
 refine AA (BX q.typeIs B5
  (A4 B5 q.typeIs F.entry_tuple_iterator_next ?_ (F.args_tuple_iterator_next_1 _)))
 show wpAny _ _ (field (.ref it) 0 >>= _) _ _ s;refine AA (As j g rfl (AA (As j g rfl (AA (A0 J I ?_)))))
 simp only[Int.toNat_natCast,N]
 refine AA (wpAny_setField j g (by simp) (AD ⟨x,rfl,AD (D _ ?_ (Bl ..))⟩))
 exact⟨_,Az _ j (Obj.isFreed_of_fields (Obj.data_mapFields g _)),(Obj.cls_mapFields ..).trans G,by
  rw[Obj.data_mapFields g];simp[rawInt]⟩
def gB{items}(D:A.handled=none)(j:s.heap.IsTupleIter it t i)(M:s.heap.IsTuple t items)(N:items[i]?=none)(G:∀h' e,Heap.ExtBut it s.heap h'->(∃o,h'.get? e=some o/\o.cls=.type "StopIteration")->E (.ref e) { s with heap:=h' }):
  wpAny (model prog w) A (Builtin.SmallTypes.nextOf (.ref it)) Q E s:=by
 obtain⟨o,q,O,g⟩:=(id j);obtain⟨U,J,_,S,I⟩:=M
 refine AA (BX j.typeIs B5
  (A4 B5 j.typeIs F.entry_tuple_iterator_next ?_ (F.args_tuple_iterator_next_1 _)))
 show wpAny _ _ (field (.ref it) 0 >>= _) _ _ s;refine AA (As q g rfl (AA (As q g rfl (AA (A0 J I ?_)))))
 simp only[Int.toNat_natCast,N]
 refine AA (Bx (AA (wpAny_setField q g (by simp) ?_)))
 apply AA
 refine AA (A2 (AA (wpAny_of_eq (by first | rfl | (rfl)) ?_)) (by size_fits));refine A2 (AA (wpAny_handled ?_)) (by size_fits)
 first | rw[show A.in1.handled=none from D] | rw[D]
 refine AA (AD (wpAny_throw (G _ _ (((Bl ..).extBut.push _).push _) ⟨_,AL _ rfl,rfl⟩)))
abbrev XZ(h:Heap)(z TI TO T:Addr)(f:Bool):Prop :=
 h.get? z=some { cls:=.type "zip",dict:=none,data:=.fields #[rawInt T,.bool f,.bool false,.ref TI,.ref TO],slots:=#[] }
structure R7(h:Heap)(z TI i1 i2 l1 l2:Addr)(xs ys:Array Value)(i:Nat):Prop where
 it:IsPair h TI (.ref i1) (.ref i2)
 a:h.IsTupleIter i1 l1 i
 b:h.IsTupleIter i2 l2 i
 x:h.IsTuple l1 xs
 y:h.IsTuple l2 ys
def rM{h h':Heap}(x:h.IsTuple t xs)(k:∀o,h.get? t=some o->h'.get? t=some o):h'.IsTuple t xs:=let ⟨o,e,r⟩:=x;⟨o,k o e,r⟩
def oG{h h':Heap}(x:h.IsTupleIter i t n)(k:∀o,h.get? i=some o->h'.get? i=some o):h'.IsTupleIter i t n:=let ⟨o,e,r⟩:=x;⟨o,k o e,r⟩
def Wf{Q:Value->Shared->Prop}(D:ZipApart z j TO O S l1 l2)(N:IsZip s.heap z j TO .none)(a0:IsPair s.heap j (.ref O) (.ref S))(a3:IsPair s.heap TO a b)(h1:s.heap.IsTupleIter O l1 k1)(h2:s.heap.IsTupleIter S l2 k2)(a5:s.heap.IsTuple l1 xs)(a6:s.heap.IsTuple l2 ys)(hx:xs[k1]?=some x)(hy:ys[k2]?=some y)(hQ:∀h',XZ h' z j TO s.heap.objs.size false->h'.IsTupleIter O l1 (k1+1)->h'.IsTupleIter S l2 (k2+1)->IsPair h' s.heap.objs.size x y->h'.objs.size=s.heap.objs.size+1 ->
   (∀c o,c≠z->c≠TO->c≠O->c≠S->s.heap.get? c=some o->h'.get? c=some o)->Q (.ref s.heap.objs.size) { s with heap:=h' }):
  wpAny (model prog w) A (Builtin.«zip.__next__» ⟨[.ref z],[]⟩) (fun aw s'=>∃v,aw=.done (.ret v)/\Q v s') E s:=by
 show wpAny _ _ (field (.ref z) 2 >>= _) _ _ _;refine AA (As N rfl rfl (AA (As N rfl rfl (AA (A0 a0 rfl (AA ?_))))))
 delta Builtin.SmallTypes.ownedTupleIsFree
 refine AA (As N rfl rfl (AD ?_));refine AA (Bx (AA (As N rfl rfl (AA (Ay N (by simp) fun a8 ah F=>?_)))))
 replace ah:IsZip a8 z j TO .ellipsis:=ah
 apply AA
 refine AA (AA (wpAny_onRaise (AA (aK (h1.extBut F.extBut D.i1z) (a5.extBut F.extBut D.l1z) hx fun bb ax G=>AD ?_))));have ak:=G.extBut _ _ D.TOi1 (F.extBut _ _ D.TOz a3);refine AA (A0 ak rfl (AA (wpAny_updateSeq_pair ak fun a9 ab I=>?_)))
 replace ab:IsPair a9 TO x b:=ab
 refine AA (Dh (AD (AA (AA (wpAny_onRaise (AA (aK (((h2.extBut F.extBut D.i2z).extBut G.extBut D.i12.symm).extBut I.extBut D.TOi2.symm)
  (((a6.extBut F.extBut D.l2z).extBut G.extBut D.l2i1).extBut I.extBut D.l2TO) hy fun bc az J=>AD ?_)))))))
 have ao:=J.extBut _ _ D.TOi2 ab;refine AA (A0 ao rfl (AA (wpAny_updateSeq_pair ao fun g ae M=>?_)))
 replace ae:IsPair g TO x y:=ae
 refine AA (Dh (AD (AD (AA (A0 ae rfl (AA (Dg ?_)))))));have hsz:g.objs.size=s.heap.objs.size:=by rw[M.1,J.1,I.1,G.1,F.1]
 have av:=M.extBut _ _ D.TOz.symm (J.extBut _ _ D.i2z.symm (I.extBut _ _ D.TOz.symm (G.extBut _ _ D.i1z.symm ah)))
 have a4:∀c o,c≠z->c≠TO->c≠O->c≠S->s.heap.get? c=some o->g.get? c=some o:=fun c o q U c3 c4 e=>
  M.extBut _ _ U (J.extBut _ _ c4 (I.extBut _ _ U (G.extBut _ _ c3 (F.extBut _ _ q e))))
 have ay:=((ax.extBut I.extBut D.TOi1.symm).extBut J.extBut D.i12).extBut M.extBut D.TOi1.symm;have au:=AG av
 apply AA
 have a7:IsZip (g.push { cls:=.type "tuple",data:=.seq #[x,y] }) z j TO .ellipsis:=AC _ av;refine AA (Ay a7 (by simp) fun ba ai af=>?_)
 replace ai:IsZip ba z j TO (rawInt g.objs.size):=ai
 refine Ay ai (by simp) fun Z Y ag=>?_
 replace Y:XZ Z z j TO g.objs.size false:=Y
 have aj:∀c o,c≠z->g.get? c=some o->Z.get? c=some o:=fun c o q e=>ag.extBut _ _ q (af.extBut _ _ q (AC _ e));have aq:=ag.extBut _ _ (Ar au) (af.extBut _ _ (Ar au) (AL _ rfl));have ar:Z.objs.size=g.objs.size+1:=by rw[ag.1,af.1,Bo]
 rw[hsz] at Y aq ar;refine AD ⟨_,rfl,?_⟩;rw[hsz];exact hQ Z Y (oG ay fun o e=>aj _ o D.i1z e) (oG (az.extBut M.extBut D.TOi2.symm) fun o e=>aj _ o D.i2z e) aq ar fun c o q U c3 c4 e=>aj c o q (a4 c o q U c3 c4 e)
def Jv(g:XZ s.heap z q TO T f)(D:s.heap.get? T=some M):
  wpAny (model prog w) A (Builtin.SmallTypes.ownedTupleIsFree (.ref z)) (fun b I=>∃j,b=false/\I={ s with heap:=j }/\XZ j z q TO T true/\Heap.SameBut z s.heap j) E s:=by
 refine AA (As g rfl rfl (AA (W.kdx_alive D (AA (As g rfl rfl ?_)))))
 cases f with
 |true =>
  exact AD ⟨_,rfl,rfl,g,Heap.SameBut.refl _ _⟩
 |false =>
  refine AA (Ay g (by simp) fun J F G=>?_);exact AD ⟨_,rfl,rfl,F,G⟩
def We{Q:Value->Shared->Prop}(D:ZipApart z I TO F G N O)(J:XZ s.heap z I TO T f)(hT:s.heap.get? T=some oT)(ao:T≠z)(ag:IsPair s.heap I (.ref F) (.ref G))(h1:s.heap.IsTupleIter F N U)(h2:s.heap.IsTupleIter G O Y)(ah:s.heap.IsTuple N xs)(ai:s.heap.IsTuple O ys)(hx:xs[U]?=some x)(hy:ys[Y]?=some y)(hQ:∀h',XZ h' z I TO T true->h'.IsTupleIter F N (U+1)->h'.IsTupleIter G O (Y+1)->IsPair h' s.heap.objs.size x y->h'.objs.size=s.heap.objs.size+1 ->
   (∀c o,c≠z->c≠F->c≠G->s.heap.get? c=some o->h'.get? c=some o)->Q (.ref s.heap.objs.size) { s with heap:=h' }):
  wpAny (model prog w) A (Builtin.«zip.__next__» ⟨[.ref z],[]⟩) (fun ab s'=>∃v,ab=.done (.ret v)/\Q v s') E s:=by
 show wpAny _ _ (field (.ref z) 2 >>= _) _ _ _;refine AA (As J rfl rfl (AA (As J rfl rfl (AA (A0 ag rfl (AA (BM (Jv J hT) ?_ fun _ _ h=>h)))))));rintro b ar ⟨aq,rfl,rfl,aj,g⟩
 simp only[ if_false]
 rw[<- DA];refine AA (AA (AA (Av (AA (aK (h1.extBut g.extBut D.i1z) (ah.extBut g.extBut D.l1z) hx fun ak ae j=>AD (AD (AA (AA (Av (AA (aK (s:={ s with heap:=ak }) ((h2.extBut g.extBut D.i2z).extBut j.extBut D.i12.symm) ((ai.extBut g.extBut D.l2z).extBut j.extBut D.l2i1) hy fun M af q=>AD (AD (AD (AA (Dg (hsz:=ie 2 rfl) ?_)))))))))))))))
 have hsz:M.objs.size=s.heap.objs.size:=by rw[q.1,j.1,g.1]
 refine AD ⟨_,rfl,?_⟩;have S:IsPair (M.push { cls:=.type "tuple",data:=.seq #[x,y] }) M.objs.size x y:=AL _ rfl;rw[hsz] at S ⊢
 exact hQ _ (AC _ (q.extBut _ _ D.i2z.symm (j.extBut _ _ D.i1z.symm aj))) (oG (ae.extBut q.extBut D.i12) fun o e=>AC _ e) (oG af fun o e=>AC _ e) S (by simp_all)
  fun c o Z c2 c3 e=>AC _ (q.extBut _ _ c3 (j.extBut _ _ c2 (g.extBut _ _ Z e)))
def Hz(Z:A.handled=none)(D:ZipApart z q TO O i2 l1 l2)(g:IsZip s.heap z q TO .none\/∃T f oT,XZ s.heap z q TO T f/\s.heap.get? T=some oT)(U:IsPair s.heap q (.ref O) (.ref i2))(h1:s.heap.IsTupleIter O l1 k1)(ab:s.heap.IsTuple l1 xs)(hx:xs[k1]?=none)(S:∀h' e,(∀c o,c≠z->c≠O->s.heap.get? c=some o->h'.get? c=some o)->(∃o,h'.get? e=some o/\o.cls=.type "StopIteration")->E (.ref e) { s with heap:=h' }):
  wpAny (model prog w) A (Builtin.«zip.__next__» ⟨[.ref z],[]⟩) Q E s:=by
 rcases g with g | ⟨T,f,oT,g,hT⟩
 .show wpAny _ _ (field (.ref z) 2 >>= _) _ _ _
  refine AA (As g rfl rfl (AA (As g rfl rfl (AA (A0 U rfl (AA (AA (As g rfl rfl (AD (AA (Bx (AA (As g rfl rfl (AA (Ay g (by simp) fun ag I j=>?_)))))))))))))))
  replace I:IsZip ag z q TO .ellipsis:=I
  apply AA
  refine AA (AA (wpAny_onRaise (AA (gB Z (h1.extBut j.extBut D.i1z) (ab.extBut j.extBut D.l1z) hx fun ah e G M=>oQ M fun oe N Y=>?_))));have af:=G _ _ D.i1z.symm I;have ai:e≠z:=fun x=>by subst x;rw[af] at N;cases N;simp at Y
  exact Ay af (by simp) fun aj _ ae=>S aj e (fun c o F J x=>ae.extBut _ _ F (G _ _ J (j.extBut _ _ F x))) ⟨oe,ae.extBut _ _ ai N,Y⟩
 .show wpAny _ _ (field (.ref z) 2 >>= _) _ _ _
  refine AA (As g rfl rfl (AA (As g rfl rfl (AA (A0 U rfl (AA (BM (Jv g hT) ?_ fun _ _ h=>h)))))));rintro b ak ⟨ag,rfl,rfl,I,j⟩;exact AA (AA (AA (Av (AA (gB Z (h1.extBut j.extBut D.i1z) (ab.extBut j.extBut D.l1z) hx fun ah e G M=>S ah e (fun c o F J x=>G _ _ J (j.extBut _ _ F x)) M)))))
def R6(h:Heap)(z g TO j q D F S:Addr)(xs ys:Array Value)(i:Nat):Prop :=
 ((i=0/\IsZip h z g TO .none/\∃a b,IsPair h TO a b)\/∃T f G,XZ h z g TO T f/\h.get? T=some G/\T≠z/\T≠j/\T≠q/\T≠S)/\R7 h z g j q D F xs ys i
theorem R7.at(x:R7 h z g j q D F xs ys i)(k:∀b o,(b=g\/b=j\/b=q\/b=D\/b=F)->h.get? b=some o->h'.get? b=some o):R7 h' z g j q D F xs ys i :=
 ⟨k _ _ (.inl rfl) x.it,oG x.a fun o e=>k _ o (.inr (.inl rfl)) e,oG x.b fun o e=>k _ o (.inr (.inr (.inl rfl))) e,rM x.x fun o e=>k _ o (.inr (.inr (.inr (.inl rfl)))) e,rM x.y fun o e=>k _ o (.inr (.inr (.inr (.inr rfl)))) e⟩
def uf(D:ZipApart z G TO U Y Z l2)(hl:Z≠G/\l2≠G)(ai:R6 s.heap z G TO U Y Z l2 S xs ys i)(hS:S < s.heap.objs.size)(hx:xs[i]?=some x)(hy:ys[i]?=some y)(hQ:∀h',R6 h' z G TO U Y Z l2 S xs ys (i+1)->IsPair h' s.heap.objs.size x y->h'.objs.size=s.heap.objs.size+1 ->
   (∀c o,c≠z->c≠TO->c≠U->c≠Y->s.heap.get? c=some o->h'.get? c=some o)->Q (some (.ref s.heap.objs.size)) { s with heap:=h' }):
  wpAny (model prog w) A (pyNext (.ref z)) Q E s:=by
 obtain⟨j,g⟩:=ai;have ab:∀{c o},s.heap.get? c=some o->s.heap.objs.size≠c:=fun e=>Ar (AG e);have n1:=let ⟨o,e,_⟩:=g.a;ab e
 have n2:=let ⟨o,e,_⟩:=g.b;ab e
 have hT:s.TypeIs (.ref z) "zip":=by
  rcases j with ⟨_,j,_⟩ | ⟨_,_,_,j,_⟩
  .exact ⟨_,j,rfl⟩
  .exact ⟨_,j,rfl⟩
 refine AA (wpAny_attempt (BX hT DZ (A4 DZ hT F.entry_zip_next ?_ (F.args_zip_next_1 _))))
 rcases j with ⟨e0,j,a,b,ah⟩ | ⟨T,f,oT,j,ae,nz,af,ag,nS⟩
 .refine Wf D j g.it ah g.a g.b g.x g.y hx hy fun h' J M N I O q=>AD (hQ h' ⟨.inr ⟨_,false,_,J,I,ab j,n1,n2,Ar hS⟩,⟨q _ _ D.TIz D.TITO D.TIi1 D.TIi2 g.it,M,N,rM g.x fun o e=>q _ o D.l1z D.l1TO D.l1i1 D.l1i2 e,rM g.y fun o e=>q _ o D.l2z D.l2TO D.l2i1 D.l2i2 e⟩⟩ I O q)
 .refine We D j ae nz g.it g.a g.b g.x g.y hx hy fun h' J M N I O q=>AD (hQ h' ⟨.inr ⟨T,true,oT,J,q _ _ nz af ag ae,nz,af,ag,nS⟩,⟨q _ _ D.TIz D.TIi1 D.TIi2 g.it,M,N,rM g.x fun o e=>q _ o D.l1z D.l1i1 D.l1i2 e,rM g.y fun o e=>q _ o D.l2z D.l2i1 D.l2i2 e⟩⟩ I O fun c o c1 _ c3 c4 e=>q c o c1 c3 c4 e)
def ug(O:A.handled=none)(D:ZipApart z I TO G i2 l1 l2)(Z:R6 s.heap z I TO G i2 l1 l2 S xs ys i)(hx:xs[i]?=none)(J:∀h',(∀c o,c≠z->c≠G->s.heap.get? c=some o->h'.get? c=some o)->Q none { s with heap:=h' }):
  wpAny (model prog w) A (pyNext (.ref z)) Q E s:=by
 obtain⟨g,j⟩:=Z
 have q:s.TypeIs (.ref z) "zip":=by
  rcases g with ⟨_,g,_⟩ | ⟨_,_,_,g,_⟩
  .exact ⟨_,g,rfl⟩
  .exact ⟨_,g,rfl⟩
 refine AA (wpAny_attempt (BX q DZ
  (A4 DZ q F.entry_zip_next (Hz O D (by grind) j.it j.a j.x hx fun h' e U N=>?_) (F.args_zip_next_1 _))))
 exact oQ N fun o Y M=>AA (B7 ⟨o,Y,M⟩ isSubtype_stop (AD (J _ U)))
end
structure ZG(xs ys:Array Value)(lo:Addr)(h:Heap)(as:List Addr):Prop where
 rise:as.Pairwise (· < ·)
 above:∀a∈as,lo < a
 pairs:∀(j:Nat)(a:Addr),as[j]?=some a->∃x y,xs[j]?=some x/\ys[j]?=some y/\IsPair h a x y
section
variable {prog:Program}{w:World}{A:Around}{s:Shared}{R:Result->Shared->Prop}{xs ys:Array Value}
def uc(hh:A.handled=none)(ar:ZipApart z Y TO O U l1 l2)(hl:l1≠Y/\l2≠Y)(F:S≠z/\S≠Y/\S≠TO/\S≠O/\S≠U/\S≠l1/\S≠l2)(J:S<=lo/\z<=lo/\TO<=lo/\O<=lo/\U<=lo)(a7:xs.size=ys.size)(hn:xs.size<=sizeLine)res{az:Heap}(hR:∀h' M acc c as,(∀b o,b≠S->b≠z->b≠TO->b≠O->b≠U->az.get? b=some o->h'.get? b=some o)->h'.get? S=some { cls:=.type "list",dict:=none,data:=.seq acc c,slots:=#[] }->as.length=xs.size->ZG xs ys lo h' as ->
   acc.toList=as.map Value.ref->R (.ok (.ret res)) { s with heap:=h',toks:=M }):
  ∀k i h M c acc as,xs.size - i=k->i<=xs.size->R6 h z Y TO O U l1 l2 S xs ys i->(∀b o,b≠S->b≠z->b≠TO->b≠O->b≠U->az.get? b=some o->h.get? b=some o) ->
   h.get? S=some { cls:=.type "list",dict:=none,data:=.seq acc c,slots:=#[] }->acc.toList=as.map Value.ref->as.length=i->ZG xs ys lo h as->lo < h.objs.size ->
   codeAny (model prog w) A (.builtin "list.extend.loop" ⟨[.ref S,.ref z,res],[]⟩) R { s with heap:=h,toks:=M }:=by
 have ao:=F.1;intro k
 induction k with
 |zero =>
  intro i h M c acc as hk hi aq ak hS af ab D ax
  apply BS CJ
  refine AA (ug hh ar aq (Array.getElem?_eq_none (by lia)) fun h' ai=>?_);refine AD (hR h' M acc c as (fun b o b1 Z b3 b4 b5 e=>ai b o Z b4 (ak b o b1 Z b3 b4 b5 e)) (ai S _ ao F.2.2.2.1 hS) (by lia) ⟨D.rise,D.above,fun j a g=>?_⟩ af);obtain⟨x,y,e1,e2,e3⟩:=(D.pairs j a g);have au:=D.above a (Ac g);exact⟨x,y,e1,e2,ai a _ (Ar (Ak J.2.1 au)) (Ar (Ak J.2.2.2.1 au)) e3⟩
 |succ k ih =>
  intro i h M c acc as hk hi aq ak hS af ab D ax;have aj:i < xs.size:=by lia
  have aw:i < ys.size:=by lia
  have hsz:acc.size=i:=by rw[<- BG,af,AB,ab]
  have ah:=AG hS
  apply BS CJ
  refine AA (uf ar hl aq ah (Bf aj) (Bf aw) fun h' ay ht hz ag=>?_);dsimp only at ht hz ag ⊢;have av:=ag S _ ao F.2.2.1 F.2.2.2.1 F.2.2.2.2.1 hS;have N:∀b o,b≠S->h'.get? b=some o->(h'.update S (Obj.mapSeq (·.push (Value.ref h.objs.size)))).get? b=some o:=fun b o I e=>(BE _ _ (Ne.symm I)).trans e
  apply AA
  have a6:R6 (h'.update S (Obj.mapSeq (·.push (Value.ref h.objs.size)))) z Y TO O U l1 l2 S xs ys (i+1):=by
   refine⟨?_,ay.2.at fun b o I e=>N b o (fun z=>?_) e⟩
   .rcases ay.1 with ⟨e0,_⟩ | ⟨T,f,oT,a0,a3,a4,g4,g5,g6⟩
    .cases e0
    .exact .inr ⟨T,f,oT,N _ _ ao.symm a0,N _ _ g6 a3,a4,g4,g5,g6⟩
   .rcases I with rfl | rfl | rfl | rfl | rfl
    .exact F.2.1 z.symm
    .exact F.2.2.2.1 z.symm
    .exact F.2.2.2.2.1 z.symm
    .exact F.2.2.2.2.2.1 z.symm
    .exact F.2.2.2.2.2.2 z.symm
  refine Bg av rfl (AD ⟨BW CD _,ih (i+1) _ M _ (acc.push (Value.ref h.objs.size)) (as++[h.objs.size]) (by lia) aj a6
   (fun b o b1 Z b3 b4 b5 e=>N b o b1 (ag b o Z b3 b4 b5 (ak b o b1 Z b3 b4 b5 e))) (Az _ av rfl) (by rw[Array.toList_push,af,AS];rfl) (by rw[AJ,ab];rfl) ⟨?_,?_,?_⟩ ?_⟩) (by lia) (by rw[Array.size_push,hsz];lia)
  .refine Dj.mpr ⟨D.rise,DM _ _,fun a G b I=>?_⟩
   rw[AF.mp I];obtain⟨j,g⟩:=Bw.mp G;exact kZ (D.pairs j a g) fun _ _ _ _ e=>AG e
  .intro a G
   rcases Ae.mp G with G | G
   .exact D.above a G
   .rwa [AF.mp G]
  .intro j b g
   rcases Nat.lt_trichotomy j as.length with h1 | h1 | h1
   .rw [Be h1] at g
    obtain⟨x,y,e1,e2,e3⟩:=(D.pairs j b g);have ae:∀{q:Addr},q<=lo->b≠q:=fun hq=>Ar (Ak hq (D.above b (Ac g)));exact⟨x,y,e1,e2,N b _ (ae J.1) (ag b _ (ae J.2.1) (ae J.2.2.1) (ae J.2.2.2.1) (ae J.2.2.2.2) e3)⟩
   .subst h1
    have I:h.objs.size=b:=by simpa using g
    subst I;exact⟨_,_,by rw[ab];exact Bf aj,by rw[ab];exact Bf aw,N _ _ (Ar ah) ht⟩
   .have a5:(as++[h.objs.size])[j]?=none:=Bb (by rw[AJ,Aa];lia)
    rw[a5] at g;cases g
  .exact Nat.lt_trans ax (AG (N _ _ (Ar ah) ht))
end
def X6:typeLookup (.type "zip") "__len__" = pure none:=by rw[DV,Cm];kernel_rfl
def Qt:typeLookup (.type "zip") "__length_hint__" = pure none:=by rw[DV,Cm];kernel_rfl
section
variable {prog:Program}{w:World}{A:Around}{E:Value->Shared->Prop}{s:Shared}{xs ys:Array Value}
def ud(hh:A.handled=none)(ay:ZipApart z O TO i1 i2 l1 l2)(hl:l1≠O/\l2≠O)(Z:IsZip s.heap z O TO .none)(aj:IsPair s.heap TO .none .none)(J:R7 s.heap z O i1 i2 l1 l2 xs ys 0)(a0:xs.size=ys.size)(hn:xs.size<=sizeLine)(hQ:∀h' tk acc c as,(∀b o,b≠z->b≠TO->b≠i1->b≠i2->s.heap.get? b=some o->h'.get? b=some o)->h'.get? s.heap.objs.size=some { cls:=.type "list",dict:=none,data:=.seq acc c,slots:=#[] }->as.length=xs.size->ZG xs ys s.heap.objs.size h' as ->
   acc.toList=as.map Value.ref->Q (.ref s.heap.objs.size) { s with heap:=h',toks:=tk }):
  wpAny (model prog w) A (call (.type "list") [.ref z]) Q E s:=by
 have I:=AG Z;have af:=AG aj;have a4:=AG J.it;have au:=let ⟨o,e,_⟩:=J.a;AG e
 have av:=let ⟨o,e,_⟩:=J.b;AG e
 have a5:=let ⟨o,e,_⟩:=J.x;AG e
 have a6:=let ⟨o,e,_⟩:=J.y;AG e
 refine Di (Q₁:=fun aw ax=>aw=.ref s.heap.objs.size/\ax={ s with heap:=s.heap.push { cls:=.type "list",data:=.seq #[] } }) F.called_list (F.typeCall_list_1 _) F.entry_list_init
  (code_list_new _ ⟨rfl,rfl⟩) fun aw ax a3=>?_
 obtain⟨rfl,rfl⟩:=a3;generalize ab:s.heap.objs.size=S at *
 have M:(s.heap.push { cls:=.type "list",data:=.seq #[] }).get? S=some { cls:=.type "list",data:=.seq #[] } :=ab▸AL _ rfl;have ak:∀b o,s.heap.get? b=some o->(s.heap.push { cls:=.type "list",data:=.seq #[] }).get? b=some o:=fun b o e=>AC _ e;have ao:(s.heap.push { cls:=.type "list",data:=.seq #[] }).objs.size=S+1:=by rw[Bo,ab]
 generalize s.heap.push { cls:=.type "list",data:=.seq #[] }=g at M ak ao ⊢;refine⟨⟨_,M,rfl⟩,F.args_list_init_2 _ _,AA ?_⟩
 delta Builtin.List.listItems
 refine AA (A0 M rfl (AD (AA (Bg M rfl ?_))));have ae:=Az (Obj.mapSeq (fun _=>(#[]:Array Value))) M rfl;refine AA (Dh ?_);have ag:∀f b o(g:Heap),b≠S->g.get? b=some o->(g.update S (Obj.mapSeq f)).get? b=some o:=fun f b o g G e=>(BE _ _ (Ne.symm G)).trans e;have D:∀{b:Addr},b < S->b≠S:=fun h=>AY h
 have Y:∀b o,b≠S->s.heap.get? b=some o->(g.update S (Obj.mapSeq (fun _=>(#[]:Array Value)))).get? b=some o:=fun b o G e=>ag _ b o g G (ak b o e);have aq:(g.update S (Obj.mapSeq (fun _=>(#[]:Array Value)))).objs.size=S+1 :=ao▸(Bl ..).1;generalize g.update S (Obj.mapSeq (fun _=>(#[]:Array Value)))=U at ae Y aq ⊢;have hT:Shared.TypeIs { s with heap:=U } (.ref z) "zip":=⟨_,Y z _ (D I) Z,rfl⟩
 delta Builtin.List.listExtendWith
 refine AA (B6 hT ?_);have h1:Builtin.List.listSameRef (.ref S) (.ref z)=false:=by simp[Builtin.List.listSameRef,Ne.symm (D I)]
 have h2:(Value.type "zip" == Value.type "list")=false:=by decide
 have h3:(Value.type "zip" == Value.type "tuple")=false:=by decide
 simp only[h1,h2,h3,Bool.or_false,Bool.false_eq_true,if_false]
 refine AA (wpAny_pyIter_zip (Y z _ (D I) Z) (AA (Av ?_)))
 delta Builtin.List.listLengthHint
 refine AA (BK hT X6 (AA (BK hT Qt (AD ?_))));rw[Ah (by simp)];refine AA (Bx (AA (AA (Bg ae rfl ?_))));have ah:=Az (Obj.mapSeq (·.push Value.none)) ae rfl
 apply Bg ah rfl
 have ai:=Az (Obj.mapSeq (·.pop)) ah rfl;have N:∀b o,b≠S->s.heap.get? b=some o->((U.update S (Obj.mapSeq (·.push Value.none))).update S (Obj.mapSeq (·.pop))).get? b=some o:=fun b o G e=>ag _ b o _ G (ag _ b o _ G (Y b o G e));have ar:((U.update S (Obj.mapSeq (·.push Value.none))).update S (Obj.mapSeq (·.pop))).objs.size=S+1:=by rw[(Bl ..).1,(Bl ..).1,aq]
 generalize (U.update S (Obj.mapSeq (·.push Value.none))).update S (Obj.mapSeq (·.pop))=g4 at ai N ar ⊢
 refine AD ⟨BW F.plain_extend_loop _,uc (A:=A.in1) hh ay hl ⟨Ne.symm (D I),Ne.symm (D a4),Ne.symm (D af),Ne.symm (D au),Ne.symm (D av),Ne.symm (D a5),Ne.symm (D a6)⟩ ⟨AH _,BY I,BY af,BY au,BY av⟩ a0 hn .none (fun h' tk acc c as kp e ha hG az=>?_)
  xs.size 0 g4 s.toks _ #[] [] (Nat.sub_zero _) (AX _) ⟨.inl ⟨rfl,N z _ (D I) Z,_,_,N TO _ (D af) aj⟩,J.at fun b o G e=>N b o (by rcases G with rfl | rfl | rfl | rfl | rfl<;>exact D ‹_›) e⟩ (fun b o G _ _ _ _ e=>N b o G e) ai rfl rfl ⟨List.Pairwise.nil,(fun _ ha=>nomatch ha),(fun j a hj=>by simp at hj)⟩ (ar▸Bm _)⟩
 exact⟨rfl,hQ h' tk acc c as (fun b o b1 b2 b3 b4 e2=>kp b o (fun q=>by rw[q] at e2;have:=AG e2;rw[ab] at this;exact BC _ this) b1 b2 b3 b4 e2) e ha hG az⟩
abbrev jn(l:Addr):Obj:={ cls:=.type "tuple_iterator",data:=.fields #[.ref l,.int 0 0] }
abbrev nj(a b:Value):Obj:={ cls:=.type "tuple",data:=.seq #[a,b] }
abbrev HB(TI TO:Addr):Obj:={ cls:=.type "zip",data:=.fields #[.none,.bool false,.bool false,.ref TI,.ref TO] }
def vR j q xs ys:
  Meets (Builtin.«zip.__new__» ⟨[.type "zip",.ref j,.ref q],[]⟩) (fun _ R s=>s.heap.IsTuple j xs/\s.heap.IsTuple q ys /\
   R (.ok (.ret (.ref ((((s.heap.push (jn j)).push (jn q)).push (nj (.ref s.heap.objs.size) (.ref (s.heap.push (jn j)).objs.size))).push (nj .none .none)).objs.size))) { s with heap:=((((s.heap.push (jn j)).push (jn q)).push (nj (.ref s.heap.objs.size) (.ref (s.heap.push (jn j)).objs.size))).push (nj .none .none)).push (HB ((s.heap.push (jn j)).push (jn q)).objs.size (((s.heap.push (jn j)).push (jn q)).push (nj (.ref s.heap.objs.size) (.ref (s.heap.push (jn j)).objs.size))).objs.size) }) :=
 .of_wp fun prog w A R s h=>by
  obtain⟨I,g,d,M,J⟩:=s;obtain⟨F,G,h⟩:=h
  have N:=sub_zip;have D:Heap.IsTuple (Shared.heap ⟨I.push { cls:=.type "tuple_iterator",data:=.fields #[.ref j,.int 0 0] },g,d,M,J⟩) q ys:=Heap.IsTuple.push G _
  wp_walk using CZ F,CZ D
  exact⟨_,rfl,h⟩
end
end PySem
namespace L2
open PySem PySem.W PyProof.Rows
abbrev kF(z:Nat)(a:Addr)(o:Obj):Heap->Prop:=fun h=>z<=a/\h.get? a=some o
def Xz{a:Addr}{z:Nat}(g:z<=a)(e:h.get? a=some o):ObjOk P w H h a (.ext (kF z a o)):=⟨⟨g,e⟩,⟨o,e⟩,fun _ _ ⟨q,e⟩ k=>⟨q,k _ e⟩⟩
noncomputable def t6(n:Nat)(H:Hp)(j q g TO z D F:Addr):Hp :=
 upd (upd (upd (upd (upd H j (.ext (kF n j (jn D)))) q (.ext (kF n q (jn F)))) g (.ext (kF n g (nj (.ref j) (.ref q))))) TO (.ext (kF n TO (nj .none .none)))) z (.ext (kF n z (HB g TO)))
noncomputable def tR(H:Hp)(ds:List Addr):Hp:=fun b=>if b∈ds then none else H b
def XE(h:b∈ds):tR H ds b=none:=Ah h
def sM(h:b∉ds):tR H ds b=H b:=Af h
def Wg{q j TO z J M}(h1:H D=none)(h2:H q=none)(F:H j=none)(G:H TO=none)(I:H z=none):tR (t6 n H D q j TO z J M) [z,TO,j,D,q]=H:=by
 funext b
 by_cases g:b∈[z,TO,j,D,q]
 .rw [XE g]
  simp only[List.mem_cons,List.not_mem_nil,or_false] at g
  rcases g with rfl | rfl | rfl | rfl | rfl
  .exact I.symm
  .exact G.symm
  .exact F.symm
  .exact h1.symm
  .exact h2.symm
 .rw [sM g]
  simp only[List.mem_cons,List.not_mem_nil,or_false,not_or] at g
  delta t6
  rw[fQ g.1,fQ g.2.1,fQ g.2.2.1,fQ g.2.2.2.2,fQ g.2.2.2.1]
section
variable {X:Cx}{pins:List (Addr×Obj)}{σ:St}{H:Hp}{s:Shared}{h':Heap}
def Inv.Px{f:Addr->Option (List V)}{l:Addr}(I:Inv X pins σ H s)(J:∀b∈ds,∃G,H b=some (.ext G)/\X.s₀.heap.objs.size<=b)(k:∀b o,b∉ds->s.heap.get? b=some o->h'.get? b=some o)(M:∀b xs,f b=some xs->s.heap.objs.size<=b/\xs.length<=sizeLine/\∃D:List Value,Vals xs D/\ji h' b D.toArray)(Y:s.heap.objs.size<=l)(fl:f l=none)(af:ys.length<=sizeLine/\∃D:List Value,∃n,Vals ys D/\h'.get? l=some (seqObj "list" D.toArray n)):Inv X pins σ (upd (jm (tR H ds) f) l (.lst ys)) { s with heap:=h',toks:=t' }:=by
 have ag:∀{b u},H b=some u->b≠l:=fun e z=>by rw[z,(I.hok.fresh Y)] at e;cases e
 have ae:∀{b u},H b=some u->(∀N,u≠.ext N)->b∉ds:=fun e h z=>by
  obtain⟨G,O,_⟩:=J _ z;rw[e] at O;cases O;exact h G rfl
 have kp:∀{b u},H b=some u->b∉ds->upd (jm (tR H ds) f) l (.lst ys) b=some u:=fun {b u}e h=>by
  rw[fQ (ag e)]
  cases z:f b with
  |none=>rwa [uK z,sM h]
  |some xs=>rw[(fun b xs e=>I.hok.fresh (M b xs e).1) b xs z] at e;cases e
 have F:∀{b u},H b=some u->(∀N,u≠.ext N)->upd (jm (tR H ds) f) l (.lst ys) b=some u:=fun e h=>kp e (ae e h)
 refine I.step (g':=s.gens) (d':=s.drawn) (fun b hb=>?_) (fun b o _ _ g e _=>k b o g e) (fun b o _ _ g e _=>⟨o.slots,k b o g e⟩) (fun b u g e n=>?_)
  (fun b o g e=>⟨o,k b o g e⟩) (fun b xs e=>F e fun _ z=>nomatch z) (fun b o u e=>F e fun _ z=>nomatch z) (fun b ps e=>⟨#[],by rw[F e fun _ z=>nomatch z];simp⟩) (fun m ab=>?_) (fun b u e=>?_) I.bare
 .refine oQ (J b hb) fun G j Z=>⟨.inr Z,fun z=>?_,fun x c e z=>?_,fun p hp z=>?_⟩
  .rw [z,I.free] at j;cases j
  .have:=I.freeC x c e;rw[z,j] at this;cases this
  .have:=(I.pin p hp).2.1;rw[z,j] at this;cases this
 .rw [fQ (AY (AR (AG e) Y))]
  cases z:f b with
  |none=>rwa [uK z,sM g]
  |some xs=>exact absurd (AG e) (Nat.not_lt.mpr (M b xs z).1)
 .exact Z4 ab fun o es ep ho r=>⟨o,es,ep,k _ o (fun z=>by obtain⟨G,j,_⟩:=J _ z;rw[I.free] at j;cases j) ho,r⟩
 .by_cases U:b=l
  .subst U;rw[mQ] at e;cases e;exact af
  .rw [fQ U] at e
   cases z:f b with
   |some xs =>
    rw[lG z] at e;cases e;obtain⟨_,h2,D,h3,h4⟩:=M b xs z;exact⟨h2,D,h3,h4⟩
   |none =>
    rw[uK z] at e
    by_cases S:b∈ds
    .rw [XE S] at e;cases e
    .rw [sM S] at e
     refine(I.hok b u e).stay (fun c v g q=>k c v ?_ q) (fun c q=>F q fun _ z=>nomatch z) fun c xs q=>F q fun _ z=>nomatch z
     rcases g with z | z
     .rwa [z]
     .grind
end
section
variable {X:Cx}
def VY:CallR X (.type "zip") (fun xs H Q=>∃g j as bs,xs=[.ref g,.ref j]/\SqT X.K H g as/\SqT X.K H j bs/\∀N O D TO z,H N=none->H O=none->H D=none->H TO=none->H z=none->ZipApart z D TO N O g j->g≠D/\j≠D->Q (.ref z) (t6 X.s₀.heap.objs.size H N O D TO z g j)):=by
 intro pins s σ H xs ao Q I r h;obtain⟨g,j,as,bs,rfl,h1,h2,q⟩:=h;obtain⟨u,v,rfl,rfl,ry⟩:=r.two;cases ry;refine hZ (I.tuple h1) fun ag r1 p1 _=>hZ (I.tuple h2) fun ah r2 p2 _=>callType_new F.called_zip rfl (F.typeCall_zip_2 _ _) (F.newCall_zip_2 _ _) (fun ak=>F.args_object_init_3 ak _ _) F.entry_zip_new (vR g j ag.toArray ah.toArray) ⟨p1,p2,?_⟩;have ai:=let ⟨o,e,_⟩:=p1;AG e
 have aj:=let ⟨o,e,_⟩:=p2;AG e
 have J:=I.sz;have U:(s.heap.push (jn g)).objs.size=s.heap.objs.size+1:=Bo ..;have Y:((s.heap.push (jn g)).push (jn j)).objs.size=s.heap.objs.size+2 :=by simp_all
 rw[U,Y];have Z:(((s.heap.push (jn g)).push (jn j)).push (nj (.ref s.heap.objs.size) (.ref (s.heap.objs.size+1)))).objs.size=s.heap.objs.size+3 :=by simp_all
 rw[Z];have z4:((((s.heap.push (jn g)).push (jn j)).push (nj (.ref s.heap.objs.size) (.ref (s.heap.objs.size+1)))).push (nj .none .none)).objs.size=s.heap.objs.size+4 :=by simp_all
 rw[z4];generalize M:s.heap.objs.size=S at *
 have ab:(s.heap.push (jn g)).get? S=some (jn g) :=M▸AL _ rfl;have I1:Inv X pins σ (upd H S (.ext (kF X.s₀.heap.objs.size S (jn g)))) { s with heap:=s.heap.push (jn g),toks:=s.toks }:=I.laid (fun b o e=>AC _ e) (B8 M) (Xz J ab);have ae:((s.heap.push (jn g)).push (jn j)).get? (S+1)=some (jn j) :=U▸AL _ rfl;have I2:=I1.laid (t':=s.toks) (o:=.ext (kF X.s₀.heap.objs.size (S+1) (jn j))) (h':=(s.heap.push (jn g)).push (jn j)) (fun b o e=>AC _ e) (B8 U) (Xz (A7 J) ae)
 have af:(((s.heap.push (jn g)).push (jn j)).push (nj (.ref S) (.ref (S+1)))).get? (S+2)=some (nj (.ref S) (.ref (S+1))) :=Y▸AL _ rfl;have I3:=I2.laid (t':=s.toks) (o:=.ext (kF X.s₀.heap.objs.size (S+2) (nj (.ref S) (.ref (S+1))))) (h':=((s.heap.push (jn g)).push (jn j)).push (nj (.ref S) (.ref (S+1)))) (fun b o e=>AC _ e) (B8 Y) (Xz (A7 (A7 J)) af)
 have g4:((((s.heap.push (jn g)).push (jn j)).push (nj (.ref S) (.ref (S+1)))).push (nj .none .none)).get? (S+3)=some (nj .none .none) :=Z▸AL _ rfl;have I4:=I3.laid (t':=s.toks) (o:=.ext (kF X.s₀.heap.objs.size (S+3) (nj .none .none))) (h':=(((s.heap.push (jn g)).push (jn j)).push (nj (.ref S) (.ref (S+1)))).push (nj .none .none)) (fun b o e=>AC _ e) (B8 Z) (Xz (A7 (A7 (A7 J))) g4)
 have g5:(((((s.heap.push (jn g)).push (jn j)).push (nj (.ref S) (.ref (S+1)))).push (nj .none .none)).push (HB (S+2) (S+3))).get? (S+4)=some (HB (S+2) (S+3)) :=z4▸AL _ rfl;have I5:=I4.laid (t':=s.toks) (o:=.ext (kF X.s₀.heap.objs.size (S+4) (HB (S+2) (S+3)))) (h':=((((s.heap.push (jn g)).push (jn j)).push (nj (.ref S) (.ref (S+1)))).push (nj .none .none)).push (HB (S+2) (S+3))) (fun b o e=>AC _ e) (B8 z4) (Xz (A7 (A7 (A7 (A7 J)))) g5)
 have G:∀{b:Addr},S<=b->H b=none:=fun hb=>I.hok.fresh (by rwa [M]);refine⟨⟨_,g5,rfl⟩,.ref (S+4),_,I5,rfl,q S (S+1) (S+2) (S+3) (S+4) (G (AH _)) (G (BV _ _)) (G (BV _ _)) (G (BV _ _)) (G (BV _ _)) ?_ ?_⟩
 .have:=zipApart_new ai aj
  exact this
 .lia
def uh(ps:List Addr)(as bs:List V):Addr->Option (List V):=fun b=>if b∈ps then some [as.getD (ps.idxOf b) .non,bs.getD (ps.idxOf b) .non] else none
def HD(g:ps.Nodup){j:Nat}(h:ps[j]?=some a)(q:as[j]?=some x)(D:bs[j]?=some y):uh ps as bs a=some [x,y] :=by grind[uh,List.getElem_mem,g.idxOf_getElem]
def Qb(hc:X.calm=true):CallR X (.type "list") (fun xs H Q=>∃F J g TO z M N as bs,xs=[.ref z]/\H F=some (.ext (kF X.s₀.heap.objs.size F (jn M)))/\H J=some (.ext (kF X.s₀.heap.objs.size J (jn N)))/\H g=some (.ext (kF X.s₀.heap.objs.size g (nj (.ref F) (.ref J))))/\H TO=some (.ext (kF X.s₀.heap.objs.size TO (nj .none .none)))/\H z=some (.ext (kF X.s₀.heap.objs.size z (HB g TO))) /\
  SqT X.K H M as/\SqT X.K H N bs/\as.length=bs.length/\ZipApart z g TO F J M N/\(M≠g/\N≠g)/\∀ps l,ps.length=as.length->ps.Nodup->(∀b∈ps,H b=none)->H l=none->l∉ps->Q (.ref l) (upd (jm (tR H [z,TO,g,F,J]) (uh ps as bs)) l (.lst (ps.map V.ref)))):=by
 intro pins s σ H xs aq Q I r h;obtain⟨F,J,g,TO,z,M,N,as,bs,rfl,h1,h2,h3,h4,h5,aj,t2,hl,ag,ai,q⟩:=h;obtain⟨u,rfl,rfl⟩:=fG r;refine hZ (I.tuple aj) fun ak r1 p1 z1=>hZ (I.tuple t2) fun ao r2 p2 z2=>?_;have e1:=(I.hok _ _ h1).1;have e2:=(I.hok _ _ h2).1;have e3:=(I.hok _ _ h3).1;have e4:=(I.hok _ _ h4).1;have e5:=(I.hok _ _ h5).1;have n1:=r1.length;refine ud (I.ok.hd hc) ag ai e5.2 e4.2 ⟨e3.2,⟨_,e1.2,rfl,rfl⟩,⟨_,e2.2,rfl,rfl⟩,p1,p2⟩ (by rw[Al,Al,<- n1,<- r2.length,hl]) (by grind) fun h' tk acc c ps kp el U G ha=>?_
 have af:=G.rise.imp fun h=>AY h;rw[Al,<- n1] at U;have Y:=G.above;have Z:s.heap.objs.size∉ps:=fun z=>BC _ (Y _ z);have ez:acc=(ps.map Value.ref).toArray:=by rw[<- ha,Array.toArray_toList]
 have rv:Vals (ps.map V.ref) (ps.map Value.ref):=by
  clear af U Y Z ez G q ha
  induction ps with
  |nil=>exact .nil
  |cons a as ih=>exact .cons rfl ih
 refine⟨.ref s.heap.objs.size,_,I.Px (t':=tk) (fun b D=>?_) (fun b o D e=>?_) (fun b xs e=>?_) (AH _) ?_ ⟨by rw[AB,U];exact z1,_,c,rv,by rwa [<- ez]⟩,rfl,q ps _ U af (fun b D=>I.hok.fresh (BY (Y b D))) (I.hok.fresh (AH _)) Z⟩
 .simp only[List.mem_cons,List.not_mem_nil,or_false] at D
  rcases D with rfl | rfl | rfl | rfl | rfl
  .simp_all
  .exact ⟨_,h4,e4.1⟩
  .exact ⟨_,h3,e3.1⟩
  .exact ⟨_,h1,e1.1⟩
  .exact ⟨_,h2,e2.1⟩
 .grind
 .unfold uh at e
  split at e
  .next D =>
   cases e;have hj:=List.idxOf_lt_length_of_mem D;have hg:ps[ps.idxOf b]?=some b :=by grind
   generalize ps.idxOf b=j at hj hg ⊢;refine kZ (G.pairs j b hg) fun x y ab ae ah=>?_;rw[Cn] at ab ae;refine⟨BY (Y b D),ie 2 rfl,[x,y],.cons ?_ (.cons ?_ .nil),⟨_,ah,rfl,⟨_,rfl⟩,rfl⟩⟩
   .have O:as[j]?=some as[j]:=AK (by omega)
    refine oQ (r1.get O) fun u S q2=>?_;rw[ab] at S;cases S
    rwa [BA,O]
   .have O:bs[j]?=some bs[j]:=AK (by omega)
    refine oQ (r2.get O) fun u S q2=>?_;rw[ae] at S;cases S
    rwa [BA,O]
  .cases e
 .delta uh
  rw[Af Z]
end
end L2
namespace CL
open PySem PySem.Spec L2 PySem.W
open PyProof.Rows hiding St
section
variable {X:Cx}{a b:Expr}{pos:Pos}
@[irreducible] def Ed:PV->PV->CH->K1->Prop:=fun x y C Q=>match x,y with
 |.tup xs,.tup ys=>xs.length=ys.length/\∀p,C p=none->Q (.ref p) (gQ C p (.lst (List.zipWith (fun a b=>PV.tup [a,b]) xs ys)))
 |_,_=>False
def GX(j q:gj):gj:=fun g C Q=>j g C fun x C1=>q g C1 fun y C2=>Ed x y C2 Q
def Nz(h:xs.length=ys.length)(q:∀p,C p=none->Q (.ref p) (gQ C p (.lst (List.zipWith (fun a b=>PV.tup [a,b]) xs ys)))):Ed (.tup xs) (.tup ys) C Q:=by
 delta Ed
 exact⟨h,q⟩
theorem d8.jm{K}(h:d8 K H C)(j:∀b xs,f b=some xs->H b=none):d8 K (L2.jm H f) C/\Fw H C (L2.jm H f) C/\iz H (L2.jm H f):=by
 have k:∀{b:Addr}{o:HO},H b=some o->L2.jm H f b=some o:=fun e=>gK j e;have g:iz H (L2.jm H f):=fun b o _ e=>k e;refine⟨fun b u c=>?_,fun b c n=>⟨rfl,?_⟩,g⟩
 .exact oQ ((h b u c).mut) fun v e _=>(h b u c).dm g (by simp_all)
 .cases e:H b with
  |none=>exact absurd e n
  |some o=>exact k e
theorem QI{K}{f:Addr->Option (List V)}:∀{ps:List Addr}{vs D}{xs ys},d7 K H vs xs->d7 K H D ys->ps.length=xs.length->xs.length=ys.length->(∀(j:Nat)p v w,ps[j]?=some p->vs[j]?=some v->D[j]?=some w->H p=some (.tup [v,w]))->d7 K H (ps.map V.ref) (List.zipWith (fun a b=>PV.tup [a,b]) xs ys)
 |[],_,_,[],_,.nil,_,_,_,_=>.nil
 |p::ps,v::vs,w::D,x::xs,y::ys,.cons h1 N,.cons h2 O,g,q,F =>
  .cons (.tup (F 0 p v w rfl rfl rfl) (.cons h1 (.cons h2 .nil))) (QI (f:=f) N O (Ax g) (Ax q) fun j M S U G I J=>F (j+1) M S U G I J)
 |[],_,_,_::_,_,_,_,g,_,_=>nomatch g
 |_::_,_,_,[],_,_,_,g,_,_=>nomatch g
 |_::_,_,_,_::_,[],_,_,_,q,_=>nomatch q
def Jb{p p2 a0}(hc:X.calm=true)(av:X.mg "list" = none)(aw:X.mg "zip" = none)(ha:CE X a ao)(hb:CE X b cb)(hg:Gl X "list":=by rfl)(ar:Gl X "zip":=by rfl)(hs:yX a=true:=by rfl)(ax:yX b=true:=by rfl):
  CE X (.Call (.Name "list" p) [.Call (.Name "zip" p2) [a,b] [] a0] [] pos) (GX ao cb):=⟨JE.weak (sG (Qb hc) hg av rfl (hM (sG VY ar aw rfl (hM ha.h (hM hb.h ⟨eC⟩ ax) hs) (by decide) rfl hs (by grind)) ⟨eC⟩)) fun σ H Q zz=>fX zz fun ρ C R s h q f=>
  ⟨ρ,C,_,s,h,q,fun x H1 px C1 q1 F h1 Z=>⟨ρ,C1,_,s.dm (Z.dm h),h1,q1,fun y H2 a5 C2 g I h2 ab=>by
   have F:=F.dm (ab.dm h1)
   delta Ed at g
   split at g
   .next xs ys =>
    cases F with
    |@tup l1 vs _ hx F =>
    cases I with
    |@tup l2 ah _ hy I =>
    have lx:=F.len;refine⟨_,_,_,_,rfl,.inl (.inl hx),.inl (.inl hy),fun N O J TO z o1 o2 o3 o4 o5 D hl=>?_⟩;have G:∀{b c:Addr}{u:HO},H2 b=some u->H2 c=none->b≠c:=fun Y M z=>by rw[z,M] at Y;cases Y
    have S:∀{n:Nat}{b:Addr}{u:HO},H2 b=some u->t6 n H2 N O J TO z l1 l2 b=some u:=fun e=>by
     delta t6
     rwa [fQ (G e o5),fQ (G e o4),fQ (G e o3),fQ (G e o2),fQ (G e o1)]
    refine⟨N,O,J,TO,z,_,_,_,_,rfl,?_,?_,?_,?_,mQ,.inl (.inl (S hx)),.inl (.inl (S hy)),lx.trans (g.1.trans I.len.symm),D,hl,fun ps l hn ay a4 au az=>?_⟩
    .delta t6;rw[fQ D.i1z,fQ (Ne.symm D.TOi1),fQ (Ne.symm D.TIi1),fQ D.i12,mQ]
    .delta t6;rw[fQ D.i2z,fQ (Ne.symm D.TOi2),fQ (Ne.symm D.TIi2),mQ]
    .delta t6;rw[fQ D.TIz,fQ D.TITO,mQ]
    .delta t6;rw[fQ D.TOz,mQ]
    .have ak:∀{b:Addr},t6 X.s₀.heap.objs.size H2 N O J TO z l1 l2 b=none->H2 b=none:=fun {b}e=>by
      cases M:H2 b with
      |none=>rfl
      |some u=>rw[S M] at e;cases e
     rw[Wg o1 o2 o3 o4 o5];have ae:=ak au
     have aq:∀b ag,uh ps vs ah b=some ag->H2 b=none:=fun b ag e=>by
      delta uh at e
      split at e
      .grind
      .cases e
     refine XB (h2.jm aq) fun h3 f3 af=>?_;have U:L2.jm H2 (uh ps vs ah) l=none:=by rw[uK (by delta uh;rw[Af az])];exact ae
     exact f _ _ _ _ (g.2 l (h2.fresh ae)) (.ref l) (h3.lay U ⟨_,mQ,d7.dm (iz.new U _) (QI (f:=fun _=>none) (F.dm af) (I.dm af) (hn.trans lx) g.1 fun j p' v' w' ai aj a3=>lG (HD ay ai aj a3))⟩) (Z.trans (ab.trans (f3.trans (Fw.lay U _ _))))
   .exact g.elim⟩⟩⟩
end
end CL
namespace PySem
open PySem.Spec PyProof.Rows PyProof.Rows.F
section
variable {prog:Program}{w:World}{κ:Type}[DecidableEq κ]{knd:KeyKind prog w κ}{A:Around}{d it t:Addr}{items:Array Value}{qs:List (List κ×Addr×Value)}{res:Value}
noncomputable def cM(acc qs:List (List κ×Addr×Value)):List (List κ×Addr×Value):=qs.foldl (fun acc q=>storedH acc q.1 q.2.1 q.2.2) acc
def yM(x:IsTupleKey knd h g a)(e:∀o,h.get? a=some o->h'.get? a=some o):IsTupleKey knd h' g a:=let ⟨o,i,n,q,r⟩:=x;⟨o,i,n,e o q,r⟩
def aR(x:h.DictOfH (tupleKind knd) d xs)(e:∀o,h.get? d=some o->h'.get? d=some o)(k:∀(g:List κ)(a:Addr),IsTupleKey knd h g a->IsTupleKey knd h' g a):h'.DictOfH (tupleKind knd) d xs :=
 let ⟨o,es,ep,q,j,D,F,G,I⟩:=x;⟨o,es,ep,e o q,j,D,F,fun x J=>k _ _ (G x J),I⟩
def QD acc(k:List κ)a v:(storedH acc k a v).length<=acc.length+1:=by
 cases e:atKey acc k with
 |none=>rw[storedH_new e,AJ];exact AH _
 |some p=>rw[storedH_old e,AB];exact BU _
def Vc(aj:A.in1.handled=none)(hu:A.in1.units < cLine)(U:d≠it)(av:d≠t)(ay:t≠it)(az:items[qs.length]?=none):∀r i s acc,i+r=qs.length ->
   s.heap.IsTupleIter it t i->s.heap.IsTuple t items->s.heap.DictOfH (tupleKind knd) d acc->acc.length+r<=sizeLine ->
   (∀j(h:j < qs.length),∃p,items[j]?=some (.ref p)/\p≠d/\p≠it/\s.heap.IsTuple p #[.ref qs[j].2.1,qs[j].2.2]/\IsTupleKey knd s.heap qs[j].1 qs[j].2.1) ->
   (∀h Z,(∀b o,b≠d->b≠it->s.heap.get? b=some o->h.get? b=some o)->h.DictOfH (tupleKind knd) d (cM acc (qs.drop i))->R (.ok (.ret res)) { s with heap:=h,toks:=Z }) ->
   codeAny (model prog w) A (.builtin "dict.update.loop" ⟨[.ref d,.ref it,rawInt i,res],[]⟩) R s:=by
 have ag:∀{h:Heap}{g:List κ}{a:Addr}{i:Nat},IsTupleKey knd h g a->h.IsTupleIter it t i->a≠it:=by
  rintro h g a i ⟨o,x,n,e,c,_⟩ ⟨o',J,I,_⟩ rfl;rw[e] at J;cases J;rw[c] at I;exact absurd I (by decide)
 have aw:∀{h:Heap}{g:List κ}{a:Addr}{xs:List (List κ×Addr×Value)},IsTupleKey knd h g a->h.DictOfH (tupleKind knd) d xs->a≠d:=by
  rintro h g a xs ⟨o,x,n,e,c,F,_⟩ ⟨o',es,ep,J,_,I,_⟩ rfl;rw[e] at J;cases J;rw[F] at I;cases I
 intro r
 induction r with
 |zero =>
  intro i s acc e N tt F hz S O;have ei:i=qs.length:=by lia
  subst ei;rw[Bn] at O;exact BS nM ((Around.under_plainId wY _)▸AA (DN aj N tt az fun h x=>AA (AD (AD (O h s.toks (fun b o _ au q=>x b o au q) (aR F (fun o q=>x d o U q) fun g a M=>yM M fun o q=>x a o (ag M N) q))))))
 |succ r ih =>
  intro i s acc e N tt F hz S O;have hi:i < qs.length:=by lia
  refine XA (S i hi) fun p hp a0 ax tp kk=>BS nM (AA (DJ N tt hp fun h1 aq D=>?_));have ab:∀g a,IsTupleKey knd s.heap g a->IsTupleKey knd h1 g a:=fun g a M=>yM M fun o q=>D.extBut a o (ag M N) q;have ah:=aZ tp fun o q=>D.extBut p o ax q;refine AA (Av (AA (wpAny_tryCatch (AA (B6 ah.typeIs ?_)))))
  obtain⟨op,e1,e2,n,e3⟩:=id ah;refine AA (A0 e1 e3 (AD (Av (wpAny_dictSet_heap hu (ab _ _ kk) (aR F (fun o q=>D.extBut d o U q) ab) (fun h2 ak G=>?_) (by lia)))))
  have ao:cM acc (qs.drop i)=cM (storedH acc qs[i].1 qs[i].2.1 qs[i].2.2) (qs.drop (i+1)):=by
   rw[Ao hi];rfl
  refine AD ⟨BW wY _,?_⟩;have ek:rawInt ((i:Int)+1)=rawInt ((i+1:Nat):Int):=by rw[Int.natCast_add];rfl
  refine ih (i+1) _ (storedH acc qs[i].1 qs[i].2.1 qs[i].2.2) (by lia) (mR aq fun o q=>(G.2 it (Ne.symm U)).trans q) (aZ (aZ tt fun o q=>D.extBut t o ay q) fun o q=>(G.2 t (Ne.symm av)).trans q) ak ?_ (fun j hj=>?_) fun h Z ar af=>?_
  .have:=QD acc qs[i].1 qs[i].2.1 qs[i].2.2
   lia
  .exact XA (S j hj) fun Y ai ae a3 a4 a5=>⟨Y,ai,ae,a3,aZ (aZ a4 fun o q=>D.extBut Y o a3 q) fun o q=>(G.2 Y ae).trans q,yM (ab _ _ a5) fun o q=>(G.2 _ (aw a5 F)).trans q⟩
  .rw [<- ao] at af
   exact O h Z (fun b o n1 n2 q=>ar b o n1 n2 ((G.2 b n1).trans (D.extBut b o n2 q))) af
def Xw{id}(ab:A.handled=none)(ae:I.in1.handled=none)(hu:I.in1.units < cLine)(ao:d≠t)(F:s.heap.get? t=some o)(O:o.cls=.type "tuple")(S:o.data=.seq items n)(ah:o.dict=none)(N:s.heap.DictOfH (tupleKind knd) d [])(hz:qs.length<=sizeLine)(aq:items[qs.length]?=none)(aj:∀j(h:j < qs.length),∃p,items[j]?=some (.ref p)/\p≠d/\s.heap.IsTuple p #[.ref qs[j].2.1,qs[j].2.2]/\IsTupleKey knd s.heap qs[j].1 qs[j].2.1)(D:∀(h:Heap)(G:Nat),(∀b o,b≠d->s.heap.get? b=some o->h.get? b=some o)->h.DictOfH (tupleKind knd) d (cM [] qs)->R (.ok (.ret res)) { s with heap:=h,toks:=G }):
  wpAny (model prog w) A (Builtin.Dict.updateFrom id d (.ref t) [] res) (fun D s'=>match D with | .done f=>R (.ok f) s' | .again M=>M.quiet=true/\codeAny (model prog w) I M R s') E s:=by
 have tt:s.heap.IsTuple t items:=⟨o,F,O,n,S⟩;refine AA (B6 tt.typeIs (AA (uF F O S ah ab fun h1 ar g=>AA (Bx ?_))));have U:=aZ tt fun o q=>g t o q;refine AA (CZ U ?_);have ag :=Z4 N fun od es ep q _=>AG (g d od q);refine AD ⟨BW wY _,Vc (knd:=knd) ae hu (AY ag) ao (AY (AG (g t o F))) aq qs.length 0 _ [] (BP _) ⟨_,AL _ rfl,rfl,rfl⟩ (U.push _) ?_ (by simp_all) (fun j hj=>?_) fun h G ai af=>?_⟩
 .exact aR N (fun o q=>AC _ (g d o q)) fun ks a hk=>yM hk fun o q=>AC _ (g a o q)
 .refine zb (aj j hj) fun p Y Z J a4=>?_
  have hp :=oQ J fun op q _=>AG (g p op q);exact⟨p,Y,Z,AY hp,aZ J fun o q=>AC _ (g p o q),yM a4 fun o q=>AC _ (g _ o q)⟩
 .exact D h G (fun b o ak q=>ai b o ak (AY (AG (g b o q))) (AC _ (g b o q))) af
end
end PySem
namespace L2
open PySem PySem.Spec PyProof.Rows
abbrev Fi(H:Hp):List Addr->List (List Key×V)->Prop:=Paired fun a p=>∃b,H a=some (.tup [.ref b,p.2])/\H b=some (.tup (p.1.map kV))
theorem uO(D:HOk P w H h):∀{F}{ps},Fi H F ps->∃qs,KT H ps qs/\F.length=qs.length /\
  ∀j(q:j < qs.length),∃p,F[j]?=some p/\h.IsTuple p #[.ref qs[j].2.1,qs[j].2.2]/\IsTupleKey (uX P w) h qs[j].1 qs[j].2.1
 |_,_,.nil=>⟨[],.nil,rfl,fun j q=>absurd q (Bu j)⟩
 |_,_,@Paired.cons _ _ _ a p l1 l2 ⟨b,e,G⟩ r=>by
  refine hZ (uO D r) fun rs I J M=>?_;obtain⟨_,Y,g,S⟩:=(D a _ e)
  cases g with
  |@cons _ ku _ its' N g =>
   cases g with
   |@cons _ U _ Z O g =>
    cases g;cases N;refine⟨(p.1,b,U)::rs,.cons ⟨rfl,G,O⟩ I,by rw[AQ,AQ,J],fun j q=>?_⟩
    cases j with
    |zero=>exact⟨a,rfl,S.is,pB D G⟩
    |succ j=>exact M j (Bp q)
theorem KT.merge: ∀{ps}{qs},KT H ps qs->∀{kvs}{xs},KT H kvs xs->KT H (vU kvs ps) (cM xs qs)
 |_,_,.nil,_,_,r=>r
 |_,_,@Paired.cons _ _ _ p q F G ⟨g,j,D⟩ t,kvs,xs,r=>by
  have:=KT.put r p.1 j D;rw[g] at this
  delta vU cM
  rw[ List.foldl_cons,g];exact KT.merge t this
theorem bF:∀ps kvs,(vU kvs ps).length<=kvs.length+ps.length
 |[],kvs=>AH _
 |p::ps,kvs=>by
  have h1:=bF ps (xV kvs p.1 p.2);have h2:=bW kvs p.1 p.2;unfold vU at h1 ⊢;rw[List.foldl_cons,AQ]
  lia
section
variable {X:Cx}
def Je(hc:X.calm=true)(hu:X.A.units+2 < cLine):CallR X (.type "dict") (fun xs H Q=>∃t N ps,xs=[.ref t]/\H t=some (.tup (List.map V.ref N))/\Fi H N ps/\ps.length<=sizeLine/\∀d,H d=none->Q (.ref d) (upd H d (.dT (vU [] ps)))):=by
 intro pins s σ H xs aj Q I r h;obtain⟨t,N,ps,rfl,ht,hp,hz,q⟩:=h;obtain⟨u,rfl,rfl⟩:=r.one;obtain⟨_,ai,rv,o,h1,h2,⟨n,h3⟩,h4⟩:=(I.hok t _ ht);have ei:=wM rv;subst ei;refine hZ (uO I.hok hp) fun qs Y q2 q3=>Di (Q₁:=fun U Z=>U=.ref s.heap.objs.size/\Z={ s with heap:=s.heap.push { cls:=.type "dict",data:=.dict #[] } }) F.kt_called_dict (F.kt_typeCall_dict_1 _) F.entry_dict_init (kt_code_dict_new _ ⟨rfl,rfl⟩) ?_
 rintro U Z ⟨rfl,rfl⟩;have S:(s.heap.push { cls:=.type "dict",data:=.dict #[] }).DictOf (uX X.prog X.w) s.heap.objs.size []:=Heap.DictOf.new s.heap
 have af:(s.heap.push { cls:=.type "dict",data:=.dict #[] }).DictOfH (tupleKind (uX X.prog X.w)) s.heap.objs.size []:=by
  obtain⟨_,_,xs,k,o,es,ep,g,D,G,J,M⟩:=oR (H:=H) s.heap I.big;cases k;exact⟨o,es,ep,g,D,G,J,(fun _ z=>nomatch z),M⟩
 refine⟨S.typeIs,F.args_dict_init_2 _ _,?_⟩
 apply AA
 refine AA (Ck S.typeIs (AD ?_));have ab:=I.ok.hd hc;refine Xw (by lia) (by simp[ab]) hu (Ar (AG h1)) (AC _ h1) h2 h3 h4 af (by rwa [<- (Paired.length Y)]) ?_ (fun j hj=>?_) fun h' tk ah dd=>?_
 .simp_all
 .obtain ⟨p,e1,O,e3⟩:=(q3 j hj)
  have ag :=oQ O fun op z _=>AG z;refine⟨p,?_,AY ag,O.push _,yM e3 fun o q=>AC _ q⟩;rw[Cn,Am,e1];rfl
 .refine yz dd fun o es ep g D G J _ M=>?_
  have ae:=bF ps [];refine⟨rfl,.ref s.heap.objs.size,_,I.laid (t':=tk) (o:=.dT (vU [] ps)) (fun b ob e=>ah b ob (AY (AG e)) (AC _ e)) (AH _) ⟨by simp at ae;lia,Cr (Ar I.big),_,(KT.merge Y .nil).keeps fun b ys e=>?_,o,es,ep,g,D,G,J,M⟩,rfl,q _ (I.hok.fresh (AH _))⟩;rw[fQ (fun z=>by rw[z,I.hok.fresh (AH _)] at e;cases e)];exact e
end
end L2
namespace CL
open PySem PySem.Spec L2 PySem.W
open PyProof.Rows hiding St
section
variable {X:Cx}
noncomputable def Zp:List PV->Option (List (List Key×PV))
 |[]=>some []
 |.tup [k,v]::r=>match cF k,Zp r with
  |some k,some ps=>some ((k,v)::ps)
  |_,_=>none
 |_=>none
def WZ{K}(r:d7 K H vs ts)(e:Zp ts=some ps):∃g j,vs=List.map V.ref g/\Fi H g j/\FP K H j ps:=by
 induction ts generalizing vs ps with
 |nil=>cases r;cases e;exact⟨[],[],rfl,.nil,.nil⟩
 |cons t ts F =>
  cases r with
  |@cons v _ vs _ h r =>
   cases h with
   |@tup a j xs q N =>
    rcases xs with _ | ⟨k,_ | ⟨u,_ | ⟨z,xs⟩⟩⟩
    .cases e
    .cases e
    .unfold Zp at e
     split at e
     .next G Z I J =>
      cases e;obtain⟨g,Y,rfl,M,p2⟩:=F r J;obtain⟨ab,U,rfl,O,S⟩:=uM N;obtain⟨b,rfl,D⟩:=iU O I;exact⟨a::g,(G,U)::Y,rfl,.cons ⟨b,q,D⟩ M,.cons ⟨rfl,S⟩ p2⟩
     .cases e
    .cases e
   |_=>cases e
@[irreducible] def Qh:GC:=fun ts C Q=>match ts with
 |[.tup xs]=>match Zp xs with
  |some ps=>ps.length<=sizeLine/\∀p,C p=none->Q (.ref p) (gQ C p (.dT (je [] ps)))
  |none=>False
 |_=>False
def VW{K}:qe K (fun xs H Q=>∃t j ps,xs=[.ref t]/\H t=some (.tup (List.map V.ref j))/\Fi H j ps/\ps.length<=sizeLine/\∀d,H d=none->Q (.ref d) (upd H d (.dT (vU [] ps)))) Qh:=fun xs ts H C Q R rs h q f=>by
 delta Qh at q
 split at q
 .split at q
  .next ps e =>
   obtain⟨v,rfl,r⟩:=oX rs
   cases r with
   |@tup a vs xs D G =>
    obtain⟨j,I,rfl,F,p2⟩:=WZ G e;refine⟨a,j,I,rfl,D,F,by rw[Paired.length p2];exact q.1,fun d g=>?_⟩;exact f _ _ _ _ (q.2 d (h.fresh g)) (.ref d) (h.lay g ⟨_,mQ,Paired.mapP (FP.je p2 .nil) fun _ _ z=>⟨z.1,z.2.dm (iz.new g _)⟩⟩) (Fw.lay g _ _)
  .exact q.elim
 .exact q.elim
def zc(e:Zp xs=some ps)(h:ps.length<=sizeLine)(q:∀p,C p=none->Q (.ref p) (gQ C p (.dT (je [] ps)))):Qh [.tup xs] C Q :=by grind[Qh]
@[irreducible] def Ew:m9:=fun x y C Q=>match x,y with
 |.str i,.str j=>Q (.bl (!(Builtin.Str.occurrences j i 0 j.length 1).isEmpty)) C
 |_,_=>False
def zu{K}:j8 K (fun x y H Q=>∃i j,x=.str i/\y=.str j/\Q (.bl (!(Builtin.Str.occurrences j i 0 j.length 1).isEmpty)) H) Ew:=fun x y F G H C Q R g D h q f=>by
 delta Ew at q
 split at q
 .cases g;cases D
  exact⟨_,_,rfl,rfl,f _ H _ C q (.bl _) h Fw.refl⟩
 .exact q.elim
def Pj(q:Q (.bl (!(Builtin.Str.occurrences j i 0 j.length 1).isEmpty)) C):Ew (.str i) (.str j) C Q:=by
 delta Ew
 exact q
end
theorem QC{K}: ∀{l:List Str}{vs},d7 K H vs (l.map PV.str)->vs=l.map V.str
 |[],_,.nil=>rfl
 |z::l,_,.cons h t=>by cases h;rw[QC t];rfl
def VF(l:List Str):PV->Bool
 |.str z=>l.contains z
 |_=>false
@[irreducible] def Ez:m9:=fun x y C Q=>match y with
 |.kt ys=>match vC ys,tyP C x with
  |some l,some _=>Q (.bl (VF l x)) C
  |_,_=>False
 |_=>False
def zy{K}:j8 K (Og K false) Ez:=fun x y I M H C Q R j J h q f=>by
 delta Ez at q
 split at q
 .split at q
  .next l c D F =>
   cases J with
   |kt e r =>
    have g:=Wv D;subst g;have g:=QC r;subst g;refine⟨_,l,c,rfl,.inr e,JD j h F,?_⟩;have G:SJ l x=VF l I:=by cases j<;>rfl
    exact G▸f _ H _ C q (.bl _) h Fw.refl
  .exact q.elim
 .exact q.elim
def Pk(g:vC ys=some l)(j:tyP C x=some c)(q:Q (.bl (VF l x)) C):Ez x (.kt ys) C Q :=by simp_all[Ez]
end CL
namespace CL
open PySem L2 PySem.W
theorem JC(I:Nat->jt->CH->Prop)(q:∀n g C(L:jt->CH->Prop),I n g C->(∀m j C',m < n->I m j C'->L j C')->t g C fun b C1=>if b=true then u (E.lp L) g C1 else E.nx g C1):∀k n g C,n < k->I n g C->V2 t u E k g C
 |0,n,_,_,h,_=>absurd h (Bu n)
 |k+1,n,g,C,h,D=>q n g C (V2 t u E k) D fun m j C' G F=>JC I q k m j C' (by lia) F
theorem cL f:∀xs acc C,Gr C0 C->acc.length+xs.length<=sizeLine->(∀x∈xs,∀C j,Gr C0 C->(∀C',Gr C C'->j (f x) C')->c (some x::J) C j)->(∀p C',C0 p=none->Gr C0 C'->C' p=some (.lst (acc++xs.map f))->Q (.ref p) C')->xJ iP c J Q xs acc C
 |[],acc,C,g,_,_,q=>pL fun p D=>q p _ (bK g D) (g.trans (Gr.new D _)) (by rw[jQ,List.map_nil,Ai])
 |x::xs,acc,C,g,G,h,q=>by
  rw[AQ] at G;refine aM (h x AE C _ g fun C' g'=>⟨by lia,cL f xs _ C' (g.trans g') (by grind) (fun y I=>h y (AI _ I)) fun p C2 h1 h2 F=>q p C2 h1 h2 ?_⟩);rw[F,Ad]
  rfl
theorem KO:∀bs,rS (bs.map PV.bl)=some bs
 |[]=>rfl
 |b::bs=>by show(rS (bs.map PV.bl)).map _=_;rw[KO bs];rfl
def KU{bs:List Bool}(h:C p=some (.lst (bs.map PV.bl)))(q:Q (.bl (bs.all id)) C):Fb [.ref p] C Q:=by
 delta Fb
 dsimp only;rw[h];dsimp only
 rwa [KO]
def pK{p q:CH->Prop}(h:p C):iC (fun b C1=>if (!b)=true then p C1 else q C1) (.bl false) C:=h
def O6(h:z.length<=sizeLine)(q:Q (.int z.length) C):xN [.str z] C Q:=by
 delta xN
 exact⟨h,q⟩
def Yg{α:Type}g cs(d:α):((yU g (kas_sort cs.length)).toList.map fun i=>cs.getD i d).Perm cs:=by
 rcases Nat.eq_zero_or_pos cs.length with z | z
 .rw [z,WC,List.length_eq_zero_iff.1 z]
  exact .refl _
 .have e:(List.range cs.length).map (fun i=>cs.getD i d)=cs:=by
   apply List.ext_getElem
   .grind
   .grind
  have:=(cY g cs.length z).map fun i=>cs.getD i d
  rwa [e] at this
def rO cs:(Vg cs).Perm cs:=Yg _ cs _
end CL
namespace CL
open PySem PySem.Spec L2 PySem.W
open PyProof.Rows hiding St
section
variable {X:Cx}{a b c e o i f:Expr}{es:List Expr}{pos:Pos}{value:Expr}
@[irreducible] def Ej:PV->Option Int->Option Int->CH->K1->Prop:=fun x lo hi C Q=>match x with
 |.str z=>z.length<=sizeLine/\Q (.str (Txt.slice z lo hi)) C
 |_=>False
def GK{lo hi:Option Expr}{F:gj}{G ch:TCO}{p2:Pos}(Y:CE X e F)(Z:Hy X lo G)(hu:Hy X hi ch):CE X (.Subscript e (.Slice lo hi none p2) pos) (Ug Ej F G ch):=⟨JE.weak ⟨nC HX Y.h.h Z.h.h hu.h.h⟩ fun σ H Q ⟨D,C,R,s,h,q,f⟩ =>
 ⟨D,C,_,s,h,q,fun x H1 px C1 q1 rx h1 j=>⟨D,C1,_,s.dm (j.dm h),h1,q1,fun l H2 l' C2 q2 N h2 I=>⟨D,C2,_,(s.dm (j.dm h)).dm (I.dm h1),h2,q2,fun u M u' J g O U S=>by
  cases N;cases O
  unfold Ej at g
  split at g
  .cases rx
   exact⟨_,rfl,g.1,f _ M _ J g.2 (.str _) U (j.trans (I.trans S))⟩
  .exact g.elim⟩⟩⟩⟩
def FJ{z:Str}{lo hi:Option Int}{C:CH}{Q:K1}(h:z.length<=sizeLine)(q:Q (.str (Txt.slice z lo hi)) C):Ej (.str z) lo hi C Q:=by
 unfold Ej;exact⟨h,q⟩
@[irreducible] def Qf:PV->List PV->CH->K1->Prop:=fun x ts C Q=>match x,ts with
 |.ref a,[.int i]=>match C a with
  |some (.lst xs)=>0<=i/\i < 10000000/\∃y,xs[i.toNat]?=some y/\Q y (gQ C a (.lst (xs.eraseIdx i.toNat)))
  |_=>False
 |_,_=>False
theorem d7.erase{K:Dm}{H:Hp}:∀{vs:List V}{ts:List PV}(k:Nat),d7 K H vs ts->d7 K H (vs.eraseIdx k) (ts.eraseIdx k)
 |_,_,_,.nil=>.nil
 |_,_,0,.cons _ r=>r
 |_,_,k+1,.cons a r=>.cons a (d7.erase k r)
def VS{K:Dm}:rm K WL Qf:=fun x N xs ps H C Q R J rs h q f=>by
 unfold Qf at q
 split at q
 .split at q
  .next i _ ys j =>
   obtain⟨h0,h1,y,G,q⟩:=q;obtain⟨vs,g,F⟩:=h _ _ j;obtain⟨v,rfl,r⟩:=oX rs;cases r;cases J;obtain⟨v,D,I⟩:=F.get G;have M:=(AU.1 D).1;refine⟨_,vs,_,i.toNat,v,rfl,rfl,g,by omega,by omega,?_,D,f _ _ _ _ q (I.dm (iz.mut g rfl _)) (h.put g rfl ⟨_,mQ,(d7.erase _ F).dm (iz.mut g rfl _)⟩) (Fw.put j _ _)⟩;unfold seqIndex?
   simp only
   split<;>simp_all<;>omega
  .exact q.elim
 .exact q.elim
@[irreducible] def sN:PV->List PV->CH->K1->Prop:=fun x ts C Q=>match x,ts with
 |.ref a,[.int i,y]=>match C a with
  |some (.lst xs)=>0<=i/\i<=xs.length/\xs.length < sizeLine/\Q .non (gQ C a (.lst (xs.take i.toNat++y::xs.drop i.toNat)))
  |_=>False
 |_,_=>False
def Z9{K:Dm}:rm K JU sN:=fun x I xs ps H C Q R G rs h q f=>by
 unfold sN at q
 split at q
 .split at q
  .next i y _ ys D =>
   obtain⟨h0,h1,h2,q⟩:=q;obtain⟨vs,j,g⟩:=h _ _ D
   cases rs with
   |cons r rs =>
   obtain⟨v,rfl,F⟩:=oX rs;cases r;cases G;exact⟨_,vs,_,v,rfl,rfl,j,h0,by rw[g.len];exact h1,by rw[g.len];exact h2,f _ _ _ _ q .non (h.put j rfl ⟨_,mQ,(d7.append (g.take _) (.cons F (g.drop _))).dm (iz.mut j rfl _)⟩) (Fw.put D _ _)⟩
  .exact q.elim
 .exact q.elim
@[irreducible] def fS:m9:=fun x y C Q=>match x,y with
 |.ref a,.ref b=>match C a,C b with
  |some (.lst xs),some (.lst [])=>Q (.bl (!xs.isEmpty)) C
  |_,_=>False
 |_,_=>False
def tM{K:Dm}:j8 K (fun x y H Q=>∃a b xs,x=.ref a/\y=.ref b/\SqL K H a xs/\SqL K H b []/\Q (.bl (!xs.isEmpty)) H) fS:=fun x y O S H C Q R M N h q f=>by
 unfold fS at q
 split at q
 .split at q
  .next xs g j =>
   obtain⟨vs,G,J⟩:=h _ _ g;obtain⟨U,F,I⟩:=h _ _ j;cases M;cases N;cases I;refine⟨_,_,vs,rfl,rfl,SqL.of G,SqL.of F,?_⟩
   have D:vs.isEmpty=xs.isEmpty:=by
    have:=J.len;cases vs<;>cases xs<;>simp_all
   rw[D];exact f _ H _ C q (.bl _) h Fw.refl
  .exact q.elim
 .exact q.elim
def xg{p r:Addr}{xs:List PV}{C:CH}{Q:K1}(h:C p=some (.lst xs))(h2:C r=some (.lst []))(q:Q (.bl (!xs.isEmpty)) C):fS (.ref p) (.ref r) C Q:=by
 unfold fS;dsimp only;rw[h,h2];exact q
def vo{p:Addr}{xs:List PV}{k:Nat}{y:PV}{C:CH}{Q:K1}(h:C p=some (.lst xs))(g:k < 10000000)(e:xs[k]?=some y)(q:Q y (gQ C p (.lst (xs.eraseIdx k)))):Qf (.ref p) [.int (k:Nat)] C Q:=by
 unfold Qf;dsimp only;rw[h];exact⟨by omega,by omega,y,e,q⟩
def YW{p:Addr}{xs:List PV}{k:Nat}{y:PV}{C:CH}{Q:K1}(h:C p=some (.lst xs))(j:k<=xs.length)(g:xs.length < sizeLine)(q:Q .non (gQ C p (.lst (xs.take k++y::xs.drop k)))):sN (.ref p) [.int (k:Nat),y] C Q:=by
 unfold sN;dsimp only;rw[h];exact⟨by omega,by omega,g,q⟩
end
section
variable {X:Cx}
abbrev Oh(K:Dm)(d:Nat):R2:=fun x y H Q=>∃a b vs ws ts,x=.ref a/\y=.ref b/\H a=some (.lst vs)/\H b=some (.lst ws)/\d7 K H vs ts/\d7 K H ws ts/\(∀t∈ts,Pl d t)/\Q (.bl true) H
def IW{d:Nat}(J:X.A.units+1+d < cLine):OpR X (compareOp .Eq) (Oh X.K d):=by
 intro pins s σ H x y v u Q I U Y h;obtain⟨a,b,vs,ae,ts,rfl,rfl,g,j,O,S,G,q⟩:=h;cases U;cases Y;obtain⟨M,Z,N,_⟩:=I.list (SqL.of g);obtain⟨ab,w2,p2,_⟩:=I.list (SqL.of j);obtain⟨F,D⟩:=bR (A:=X.A.in1) (d:=d) (fun t m=>yw I (G t m)) (show X.A.units+1+d < cLine from J) O S Z w2;refine SeqAt.eq_listAt (e:=fun _=>true) N.isList p2.isList (by simpa using F) (by omega) D ?_
 rw[show((List.range M.toArray.size).all fun _=>true)=true by simp];exact⟨.bl true,H,I,rfl,q⟩
@[irreducible] def EY(d:Nat):m9:=fun x y C Q=>match x,y with
 |.ref a,.ref b=>match C a,C b with
  |some (.lst xs),some (.lst ys)=>xs=ys/\(∀t∈xs,Pl d t)/\Q (.bl true) C
  |_,_=>False
 |_,_=>False
def zA{K:Dm}{d:Nat}:j8 K (Oh K d) (EY d):=fun x y S U H C Q R M N h q f=>by
 unfold EY at q
 split at q
 .split at q
  .next xs ys g j =>
   obtain⟨rfl,G,q⟩:=q;obtain⟨vs,D,I⟩:=h _ _ g;obtain⟨O,F,J⟩:=h _ _ j;cases M;cases N
   exact⟨_,_,vs,O,xs,rfl,rfl,D,F,I,J,G,f _ H _ C q (.bl _) h Fw.refl⟩
  .exact q.elim
 .exact q.elim
def Rc{d:Nat}{a b:Addr}{xs:List PV}{C:CH}{Q:K1}(h1:C a=some (.lst xs))(h2:C b=some (.lst xs))(g:∀t∈xs,Pl d t)(q:Q (.bl true) C):EY d (.ref a) (.ref b) C Q:=by
 unfold EY;dsimp only;rw[h1,h2];exact⟨rfl,g,q⟩
def yu{A:Around}{k:Nat}(g:Room k A):A.units+1+20 < cLine:=by have:=g.un;omega
end
end CL
namespace K24
open PySem L2
abbrev U0:List Str:=["_law_tape_here","_law_kit","_law_turns","_law_deep"]
abbrev U1:List Str:=["_law_tape_here","_law_kit","_law_turns"]
abbrev U2:List Str:=["_law_house_here","_law_values_here","_law_due"]
abbrev U3:List Str:=["_law_row","_law_spots","_law_downs"]
abbrev U4:List Str:=["_law_tape_here","_law_kit","_law_deep"]
abbrev U5:List Str:=["_law_house_here","_law_values_here","_law_drawing","_law_k","_law_thing"]
abbrev U6:List Str:=["_law_tape_here","_law_thing","_law_kind_here"]
abbrev U7:List Str:=["_law_tape_here","_law_part_here"]
abbrev U8:List Str:=["_law_tape_here","_law_thing"]
abbrev U9:List Str:=["_law_tape_here","_law_many"]
abbrev U10:List Str:=["_law_tape_here","_law_names_here","_law_k","_law_keyed"]
abbrev UG:List Str:=["_law_house_here","_law_values_here"]
abbrev U12:List Str:=["_law_tape_here","_law_kit","_law_turns","_law_most"]
abbrev U13:List Str:=["_law_tape_here","_law_kit","_law_turns","_law_name"]
abbrev U14:List Str:=["_law_tape_here","_law_kit","_law_turns","_law_way"]
abbrev SQ:List Str:=["_law_one","_law_other"]
abbrev Uz:List Str:=["_law_house_here","_law_name"]
abbrev R8:List Str:=["_law_tape_here"]
abbrev U18:List Str:=["_law_tape_here","_law_house_here"]
noncomputable def top(i:Nat):Stmt:=PySem.Challenge.pw_viewwood_k24_entries_let_by.main.body.getD i (.Pass ⟨0,0,0,0⟩)
noncomputable def tab:List CL.Row:=[
 ⟨none,"is_number","is_number",(top 4),["thing"],["thing"]⟩,
 ⟨none,"is_name","is_name",(top 5),["thing"],["thing"]⟩,
 ⟨none,"cut","cut",(top 6),["number"],["number"]⟩,
 ⟨none,"alike","alike",(top 7),["one","other"],["one","other","pairs","pair","inner"]⟩,
 ⟨none,"pairs_within","pairs_within",(top 8),["one","other"],["one","other","kind"]⟩,
 ⟨none,"dict_pairs","dict_pairs",(top 9),["one","other"],["one","other","own","key","pairs"]⟩,
 ⟨none,"kind_of","kind_of",(top 10),["thing"],["thing"]⟩,
 ⟨none,"number_of","number_of",(top 13),["reckoning","answers","turns","asked"],["reckoning","answers","turns","asked","word","question","first","taken","second"]⟩,
 ⟨none,"joined","joined",(top 14),["word","first","second"],["word","first","second"]⟩,
 ⟨none,"part_of","part_of",(top 16),["house","name"],["house","name","part"]⟩,
 ⟨none,"drawn","drawn",(top 20),["part","answers"],["part","answers","drawer","row","works"]⟩,
 ⟨none,"lets_piece","lets_piece",(top 21),["part","piece"],["part","piece"]⟩,
 ⟨none,"reads_fit","reads_fit",(top 22),["thing"],["thing"]⟩,
 ⟨none,"read_fits","read_fits",(top 23),["thing"],["thing","question"]⟩,
 ⟨none,"parts_in","parts_in",(top 25),["row"],["row","told"]⟩,
 ⟨none,"gather","gather",(top 26),["row","spots","downs","told"],["row","spots","downs","told","want","here"]⟩,
 ⟨none,"laid_over","laid_over",(top 27),["downs","nearer"],["downs","nearer","numbers"]⟩,
 ⟨none,"asked_by","asked_by",(top 28),["entry"],["entry"]⟩,
 ⟨none,"next_part","next_part",(top 30),["house","done"],["house","done","walk","entry"]⟩,
 ⟨none,"answers_at","answers_at",(top 32),["gives","downs","boxes"],["gives","downs","boxes","answers","sort","pairs","name","number"]⟩,
 ⟨none,"boxes_at","boxes_at",(top 33),["part","values","path"],["part","values","path","kept"]⟩,
 ⟨none,"answers_due","answers_due",(top 34),["house","values","due"],["house","values","due","boxes"]⟩,
 ⟨none,"answered","answered",(top 35),["piece","answers"],["piece","answers"]⟩,
 ⟨none,"lets_entry","lets_entry",(top 36),["house","values","ahead","entry"],["house","values","ahead","entry"]⟩,
 ⟨none,"lets_due","lets_due",(top 37),["house","values","due","entry"],["house","values","due","entry"]⟩,
 ⟨none,"_law_tape","_law_tape",(top 39),["_law_script"],["_law_script"]⟩,
 ⟨none,"_law_draw","_law_draw",(top 40),U9,["_law_tape_here","_law_many","_law_script","_law_digit","_law_cell","_law_mixed"]⟩,
 ⟨none,"_law_names","_law_names",(top 41),U9,["_law_tape_here","_law_many","_law_pool","_law_start","_law_stride"]⟩,
 ⟨none,"_law_number","_law_number",(top 42),R8,R8⟩,
 ⟨none,"_law_leaf","_law_leaf",(top 43),U1,U14⟩,
 ⟨none,"_law_sum","_law_sum",(top 44),U0,["_law_tape_here","_law_kit","_law_turns","_law_deep","_law_way","_law_word","_law_many"]⟩,
 ⟨none,"_law_key","_law_key",(top 45),U1,U14⟩,
 ⟨none,"_law_pairs","_law_pairs",(top 46),U12,["_law_tape_here","_law_kit","_law_turns","_law_most","_law_names_here"]⟩,
 ⟨none,"_law_hands","_law_hands",(top 47),U1,["_law_tape_here","_law_kit","_law_turns","_law_hands_here","_law_event","_law_changes","_law_k","_law_box","_law_word"]⟩,
 ⟨none,"_law_plain","_law_plain",(top 48),U0,["_law_tape_here","_law_kit","_law_turns","_law_deep","_law_key_here","_law_tag","_law_sets","_law_hands_here","_law_lines_here"]⟩,
 ⟨none,"_law_part_line","_law_part_line",(top 49),U13,["_law_tape_here","_law_kit","_law_turns","_law_name","_law_key_here","_law_names_here"]⟩,
 ⟨none,"_law_each","_law_each",(top 50),U4,["_law_tape_here","_law_kit","_law_deep","_law_name","_law_number_here","_law_lines_here","_law_k"]⟩,
 ⟨none,"_law_line","_law_line",(top 51),U0,["_law_tape_here","_law_kit","_law_turns","_law_deep","_law_way","_law_name","_law_key_here","_law_number_here","_law_lines_here"]⟩,
 ⟨none,"_law_lines","_law_lines",(top 52),U0,["_law_tape_here","_law_kit","_law_turns","_law_deep","_law_lines_here","_law_k"]⟩,
 ⟨none,"_law_part","_law_part",(top 53),U10,["_law_tape_here","_law_names_here","_law_k","_law_keyed","_law_many","_law_boxes_here","_law_kit","_law_first","_law_lines_here","_law_work_names","_law_works"]⟩,
 ⟨none,"_law_house","_law_house",(top 54),R8,["_law_tape_here","_law_names_here","_law_keyed"]⟩,
 ⟨none,"_law_over","_law_over",(top 55),["_law_downs","_law_more"],["_law_downs","_law_more","_law_found","_law_name","_law_number_here"]⟩,
 ⟨none,"_law_parts","_law_parts",(top 56),U3,["_law_row","_law_spots","_law_downs","_law_found","_law_want","_law_here"]⟩,
 ⟨none,"_law_named","_law_named",(top 57),Uz,Uz⟩,
 ⟨none,"_law_answers","_law_answers",(top 58),U2,["_law_house_here","_law_values_here","_law_due","_law_path","_law_name","_law_gives","_law_downs","_law_boxes_here","_law_answers_here","_law_sort","_law_pairs_here","_law_one","_law_number_here"]⟩,
 ⟨none,"_law_within","_law_within",(top 59),U2,["_law_house_here","_law_values_here","_law_due","_law_piece","_law_found","_law_spots","_law_name","_law_gives","_law_downs"]⟩,
 ⟨none,"_law_fresh","_law_fresh",(top 60),UG,UG⟩,
 ⟨none,"_law_boxes","_law_boxes",(top 61),U7,U7⟩,
 ⟨none,"_law_values","_law_values",(top 62),U18,["_law_tape_here","_law_house_here","_law_values_here","_law_path","_law_name","_law_gives","_law_downs","_law_piece","_law_way","_law_part_here"]⟩,
 ⟨none,"_law_kind","_law_kind",(top 63),["_law_thing"],["_law_thing","_law_kinds","_law_names_here"]⟩,
 ⟨none,"_law_alike","_law_alike",(top 64),SQ,["_law_one","_law_other","_law_kind_here"]⟩,
 ⟨none,"_law_bent_leaf","_law_bent_leaf",(top 65),U6,U6⟩,
 ⟨none,"_law_bent","_law_bent",(top 66),U8,["_law_tape_here","_law_thing","_law_kind_here","_law_some","_law_way","_law_at"]⟩,
 ⟨none,"_law_let","_law_let",(top 67),U5,["_law_house_here","_law_values_here","_law_drawing","_law_k","_law_thing","_law_due","_law_ahead","_law_found"]⟩,
 ⟨none,"law","law",(top 68),["_law_script"],["_law_script","_law_tape_here","_law_house_here","_law_values_here","_law_drawing","_law_turn","_law_k","_law_entry","_law_things","_law_thing"]⟩,
 ⟨some "Drawer","__init__","Drawer.__init__",(iK (top 19) 0),["self","answers"],["self","answers"]⟩,
 ⟨some "Drawer","number","Drawer.number",(iK (top 19) 1),["self","reckoning","turns"],["self","reckoning","turns"]⟩,
 ⟨some "Drawer","numbered","Drawer.numbered",(iK (top 19) 2),["self","pairs","turns"],["self","pairs","turns"]⟩,
 ⟨some "Drawer","row","Drawer.row",(iK (top 19) 3),["self","lines","turns"],["self","lines","turns","row"]⟩,
 ⟨some "Drawer","bring","Drawer.bring",(iK (top 19) 4),["self","lines","turns","row","counts"],["self","lines","turns","row","counts","line","taken"]⟩,
 ⟨some "Drawer","bring_each","Drawer.bring_each",(iK (top 19) 5),["self","line","turns","row","counts"],["self","line","turns","row","counts","count","turn","inner"]⟩,
 ⟨some "Drawer","want","Drawer.want",(iK (top 19) 6),["self","line","turns","counts"],["self","line","turns","counts","spot","pairs","hands"]⟩,
 ⟨some "Drawer","spot","Drawer.spot",(iK (top 19) 7),["self","key","turns","counts"],["self","key","turns","counts","told","nth"]⟩,
 ⟨some "Drawer","hand","Drawer.hand",(iK (top 19) 8),["self","hand","turns"],["self","hand","turns","changes"]⟩,
 ⟨some "Walk","__init__","Walk.__init__",(iK (top 29) 0),["self","house"],["self","house"]⟩,
 ⟨some "Walk","due","Walk.due",(iK (top 29) 1),["self"],["self"]⟩,
 ⟨some "Walk","pass_by","Walk.pass_by",(iK (top 29) 2),["self","entry"],["self","entry"]⟩]
set_option genInjectivity false in
structure Adr where
 f:Nat->Addr
 d:Nat->FuncData
 t_BOUND:Tok
 KZ:Tok
 kC:Tok
 ASKING:Addr
 wA:Tok
 Drawer:Addr
 Walk:Addr
structure Txt(P:Program)(w:World)(K:Dm)(mg:Str->Option Value)(a:Adr):Prop where
 F:∀(i:Nat){k:Option Str}{nm q:Str}{st:Stmt}{ps N:List Str},tab[i]?=some ⟨k,nm,q,st,ps,N⟩->CL.FI K mg k nm q st ps N (a.f i) (a.d i)
 wI:mg "BOUND" = some (.int 1000000000 a.t_BOUND)
 Y9:mg "LETTERS" = some (.str "abcdefghijklmnopqrstuvwxyz" a.KZ)
 mT:mg "LONGEST_NAME" = some (.int 8 a.kC)
 Kn:mg "ASKING" = some (.ref a.ASKING)
 JY:∀H:Hp,SqT K H a.ASKING [.str "take",.str "box",.str "down"]
 Xv:mg "MOST_TURNS" = some (.int 8 a.wA)
 z_abs:mg "abs" = none
 Jy:mg "all" = none
 jA:mg "bool" = none
 aN:mg "dict" = none
 gD:mg "int" = none
 aQ:mg "isinstance" = none
 lZ:mg "len" = none
 pF:mg "list" = none
 z_max:mg "max" = none
 Wi:mg "min" = none
 kW:mg "range" = none
 X7:mg "reversed" = none
 uD:mg "sorted" = none
 Jx:mg "str" = none
 sX:mg "tuple" = none
 z_zip:mg "zip" = none
 wZ:mg "Drawer" = some (.ref a.Drawer)
 bX:Cls K a.Drawer
 Vt:Mk K a.Drawer (a.f 55)
 zU:NoAttr K a.Drawer "answers"
 eY:NoAttr K a.Drawer "asked"
 ZH:mg "Walk" = some (.ref a.Walk)
 pU:Cls K a.Walk
 mk_Walk:Mk K a.Walk (a.f 64)
 vK:NoAttr K a.Walk "lacking"
def HS:CL.sy CL.RB tab:=by
 unfold tab
 repeat refine⟨⟨⟨rfl,rfl,rfl,by decide +kernel,rfl,by decide +kernel,by decide +kernel⟩,fun _ _ _ _ _ _=>by first | (refine CL.args1 ?_;exact fun _=>rfl) | (refine CL.args2 ?_;exact fun _ _=>rfl) | (refine CL.Hx ?_;exact fun _ _ _=>rfl) | (refine CL.Hw ?_;exact fun _ _ _ _=>rfl) | (refine CL.R0 ?_;exact fun _ _ _ _ _=>rfl)⟩,?_⟩
 exact trivial
def txt_mk{P:Program}{w:World}{K:Dm}{h:Heap}{mg:Str->Option Value}(X:K.In h)(G:h.Ns mainGlobals mg){I g j:Addr}{J M N a4 a5 a6 O:Tok}{aw:Nat}(ax:CL.sy (CL.FH K) tab)(ao:PySem.W.nsIn K mainGlobals "BOUND" = some (some (.int 1000000000 J)))(aq:PySem.W.nsIn K mainGlobals "LETTERS" = some (some (.str "abcdefghijklmnopqrstuvwxyz" M)))(ar:PySem.W.nsIn K mainGlobals "LONGEST_NAME" = some (some (.int 8 N)))(au:PySem.W.nsIn K mainGlobals "ASKING" = some (some (.ref I)))(a3:K.lookup I=some { cls:=.type "tuple",data:=.seq #[.str "take" a4,.str "box" a5,.str "down" a6] aw })(av:PySem.W.nsIn K mainGlobals "MOST_TURNS" = some (some (.int 8 O)))(z0:PySem.W.nsIn K mainGlobals "abs" = some none)(z1:PySem.W.nsIn K mainGlobals "all" = some none)(z2:PySem.W.nsIn K mainGlobals "bool" = some none)(z3:PySem.W.nsIn K mainGlobals "dict" = some none)(z4:PySem.W.nsIn K mainGlobals "int" = some none)(z5:PySem.W.nsIn K mainGlobals "isinstance" = some none)(z6:PySem.W.nsIn K mainGlobals "len" = some none)(z7:PySem.W.nsIn K mainGlobals "list" = some none)(z8:PySem.W.nsIn K mainGlobals "max" = some none)(z9:PySem.W.nsIn K mainGlobals "min" = some none)(a7:PySem.W.nsIn K mainGlobals "range" = some none)(a8:PySem.W.nsIn K mainGlobals "reversed" = some none)(a9:PySem.W.nsIn K mainGlobals "sorted" = some none)(ba:PySem.W.nsIn K mainGlobals "str" = some none)(bb:PySem.W.nsIn K mainGlobals "tuple" = some none)(bc:PySem.W.nsIn K mainGlobals "zip" = some none)(q:PySem.W.nsIn K mainGlobals "Drawer" = some (some (.ref g)))(S:PySem.W.plainGet K g Str.empty=true)(Y:PySem.W.hasDictIn K g=true)(ab:PySem.W.plainOver K g=true)(af:PySem.W.findIn K (.ref g) "__setattr__" = some (some (.builtin "object.__setattr__")))(ah:PySem.W.makesIn K g=true)(aj:PySem.W.keepIn K (.ref g)=true)(ay:PySem.W.findIn K (.ref g) "answers" = some none)(az:PySem.W.findIn K (.ref g) "asked" = some none)(D:PySem.W.nsIn K mainGlobals "Walk" = some (some (.ref j)))(U:PySem.W.plainGet K j Str.empty=true)(Z:PySem.W.hasDictIn K j=true)(ae:PySem.W.plainOver K j=true)(ag:PySem.W.findIn K (.ref j) "__setattr__" = some (some (.builtin "object.__setattr__")))(ai:PySem.W.makesIn K j=true)(ak:PySem.W.keepIn K (.ref j)=true)(a0:PySem.W.findIn K (.ref j) "lacking" = some none): ∃a:Adr,Txt P w K mg a:=by
 obtain⟨f,d,F⟩:=CL.rn X G ax HS
 exact⟨⟨f,d,J,M,N,I,O,g,j⟩,F,
  BH X G ao,
  BH X G aq,
  BH X G ar,
  BH X G au,
  fun _=>.inr ⟨_,_,_,a3,rfl,rfl,ie 3 rfl,(.cons ⟨_,rfl⟩ (.cons ⟨_,rfl⟩ (.cons ⟨_,rfl⟩ .nil)))⟩,
  BH X G av,
  Aq X G z0,
  Aq X G z1,
  Aq X G z2,
  Aq X G z3,
  Aq X G z4,
  Aq X G z5,
  Aq X G z6,
  Aq X G z7,
  Aq X G z8,
  Aq X G z9,
  Aq X G a7,
  Aq X G a8,
  Aq X G a9,
  Aq X G ba,
  Aq X G bb,
  Aq X G bc,
  BH X G q,
  ⟨S,Y,ab,af⟩,
  ⟨ah,((F 55 rfl).M _ _ rfl (BH X G q)).1,((F 55 rfl).M _ _ rfl (BH X G q)).2,aj⟩,
  ay,
  az,
  BH X G D,
  ⟨U,Z,ae,ag⟩,
  ⟨ai,((F 64 rfl).M _ _ rfl (BH X G D)).1,((F 64 rfl).M _ _ rfl (BH X G D)).2,ak⟩,
  a0⟩
structure Wd where
 P:Program
 w:World
 K:Dm
 mg:Str->Option Value
 base:Heap
abbrev Tx(W:Wd)(a:Adr):Prop:=Txt W.P W.w W.K W.mg a
abbrev Ok(W:Wd)(a:Adr)(r i:Nat)(ps:List Str)(G:CL.GC):Prop:=FnOk W.P W.w W.K W.mg W.base CX0 r (a.f i) (a.d i) ps (CL.p7 W.K G)
end K24
namespace K24
open PySem L2 CL
section
variable {W:Wd}{a:Adr}
structure Tp(C:CH)(t:Addr)(ns:List Int):Prop where
 at_:∃a b c:Int,C t=some (.lst [.fz (ns.map PV.int),.int a,.int b,.int c])/\0<=a/\0<=b/\0<=c
 len:ns.length<=63
def Ex(t:Addr)(C C':CH):Prop:=∀b o,b≠t->C b=some o->C' b=some o
def Ex.refl: Ex t C C:=fun _ _ _ h=>h
theorem Ex.trans(h:Ex t C C1)(h':Ex t C1 C2):Ex t C C2:=fun b o n e=>h' b o n (h b o n e)
theorem Ex.new(g:C p=none)o:Ex t C (gQ C p o):=fun b u _ e=>by
 rw[yQ (fun z=>by subst z;rw[g] at e;cases e)];exact e
inductive Py(ts:List PV)(C:CH)(Q:K1):Prop
 |mk(ns:List Int)(z0:ts=[.fz (ns.map PV.int)])(z1:ns.length<=63)(z2:∀t C',C t=none->Ex t C C'->Tp C' t ns->Q (.ref t) C')
def v8(T:Tx W a):Ok W a 1 25 ["_law_script"] Py:=by
 refine(T.F 25 rfl).o (fun D=>(kQ (wQ (gX (qQ (cv 0) (qQ zQ (qQ zQ (dw zQ)))))))) ?_;rintro ts C R ⟨ns,rfl,j,q⟩;show 4<=sizeLine/\∀p,C p=none->R (.ref p) (gQ C p (.lst [.fz (ns.map PV.int),.int 0,.int 0,.int 0]));exact⟨by decide,fun p g=>q p _ g (Ex.new g _) ⟨⟨0,0,0,jQ,by decide,by decide,by decide⟩,j⟩⟩
def Ex.uq o:Ex t C (gQ C t o):=fun b u n e=>by rwa [yQ n]
def G5{ns:List Int}(h0:0<=k)(h1:k < ((ns.map PV.int).length:Int)):∃v,atI (ns.map PV.int) k=some (.int v):=by
 delta atI ixN
 rw[Ah h0,Ah h1];rw[AB] at h1;show ∃v,(ns.map PV.int)[k.toNat]?=some (.int v);rw[Am,AK (by lia)];exact⟨_,rfl⟩
inductive Kl(ts:List PV)(C:CH)(Q:K1):Prop
 |mk(t:Addr)(m:Int)(ns:List Int)(z0:ts=[.ref t,.int m])(z1:Tp C t ns)(z2:0 < m)(z3:m < 4611686018427387904)(z4:∀(v:Int)(C':CH),0<=v->v < m->Tp C' t ns->Ex t C C'->Q (.int v) C')
def nZ(T:Tx W a):Ok W a 1 26 U9 Kl:=by
 have S:=(T.F 26 rfl).s
 refine(T.F 26 rfl).o (fun hr=>(xQ (fu 2 S.nd (cx (cv 0) zQ))
  (xQ (tP (xX pX dX (cx (cv 0) zQ) zQ) (rL (cv 0) zQ))
  (xQ (nQ (gm (iu (ct2 wX sQ (cx (cv 0) zQ) zQ) (gn (ct2 yB sY (cx (cv 0) zQ) (j9 T.lZ (cv 2)))))) (xQ (tP (xX QW XM (iQ GU Ec rfl T.z_abs rfl (dw (cx (cv 2) (cx (cv 0) zQ)))) (xX Zt pI zQ zQ)) (rL (cv 0) zQ))
  (kQ (tP (xX pX dX (cx (cv 0) zQ) zQ) (rL (cv 0) zQ)))) lQ)
  (xQ (nQ (ct2 gV uJ (cx (cv 0) zQ) zQ) (xQ (fu 3 S.nd (xX wB xG (cx (cv 0) zQ) (cv 1)))
  (xQ (tP (xX QW XM (cx (cv 0) zQ) (cv 1)) (rL (cv 0) zQ))
  (kQ (wQ (cv 3))))) lQ)
  (xQ (fu 4 S.nd zQ)
  (xQ (nQ (ct2 gV uJ (j9 T.lZ (cv 2)) zQ) (kQ (fu 4 S.nd (cx (cv 2) (xX wB xG (cx (cv 0) zQ) (j9 T.lZ (cv 2)))))) lQ)
  (xQ (fu 5 S.nd (xX wB xG (xX pX dX (xX pX dX (xX cP eM (xX wB xG (cv 4) zQ) zQ) (xX cP eM (cx (cv 0) zQ) zQ)) zQ) zQ))
  (xQ (fu 5 S.nd (xX wB xG (xX cP eM (cv 5) (xX pX dX (cv 5) zQ)) zQ))
  (kQ (wQ (xX wB xG (xX wB xG (xX cP eM (cv 5) zQ) zQ) (cv 1))))))))))))) ?_
 rintro ts C R ⟨t,m,ns,rfl,⟨⟨x,y,z,h,hx,U,M⟩,N⟩,F,m1,q⟩;refine sZ h rfl ?_;refine sZ h rfl ?_;refine eW ?_;refine Wz h rfl ?_;dsimp only;have h1:(gQ C t (.lst [.fz (ns.map PV.int),.int (x+1),.int y,.int z])) t=_:=jQ;have g:Ex t C (gQ C t (.lst [.fz (ns.map PV.int),.int (x+1),.int y,.int z])):=Ex.uq _;refine tQ (fun G C'=>G=[some (.ref t),some (.int m),some (.fz (ns.map PV.int)),none,none,none]/\∃y z:Int,C' t=some (.lst [.fz (ns.map PV.int),.int (x+1),.int y,.int z])/\0<=y/\0<=z/\Ex t C C') (fun L j=>?_) ?_
 .refine sZ h1 rfl ?_
  refine qX (mX _ _) ?_;refine vZ (fun J=>?_) fun J=>?_
  .refine sZ h1 rfl ?_
   refine YJ ?_;refine jg ?_;refine vZ (fun D=>?_) fun D=>?_
   .obtain ⟨c,I⟩:=G5 M (AZ D)
    refine sZ h1 rfl ?_;refine O9 I ?_;refine⟨⟨by decide,by decide,by decide⟩,⟨by decide,by decide⟩,?_⟩;refine Wz h1 rfl ?_;refine sZ jQ rfl ?_;refine eW ?_;refine Wz jQ rfl ?_;refine j _ _ ⟨rfl,_,_,jQ,?_,by lia,(g.trans (Ex.uq _)).trans (Ex.uq _)⟩;refine Int.ediv_nonneg ?_ (by decide)
    split<;>lia
   .refine zX ?_
    exact j _ _ ⟨rfl,y,z,h1,U,M,g⟩
  .refine yG rfl ?_
   refine zX ?_;exact j _ _ ⟨rfl,y,z,h1,U,M,g⟩
 clear h1 g;rintro G C1 ⟨rfl,y',z',h1,Y,Z,g⟩;refine dZ ?_;refine sZ h1 rfl ?_;refine jg ?_;refine vZ (fun J=>?_) fun J=>?_
 .refine sZ h1 rfl ?_
  refine⟨F,?_⟩;refine sZ h1 rfl ?_;refine⟨⟨F,by lia⟩,?_⟩;refine Wz h1 rfl ?_;exact q _ _ (CY _ (by lia)) (Br _ F) ⟨⟨_,_,_,jQ,by lia,Int.ediv_nonneg Y (by lia),Z⟩,N⟩ (g.trans (Ex.uq _))
 .refine zX ?_
  refine uQ (c_i ?_)
  try dsimp only
  refine tQ (fun G C'=>C'=C1/\∃v:Int,G=[some (.ref t),some (.int m),some (.fz (ns.map PV.int)),none,some (.int v),none]) (fun L j=>?_) ?_
  .refine YJ ?_
   refine jg ?_;refine vZ (fun D=>?_) fun D=>?_
   .have O:(0:Int) < ((ns.map PV.int).length:Int):=AZ D
    obtain⟨c,I⟩:=G5 (CY (x+1) (b:=((ns.map PV.int).length:Int)) (by lia)) (Br (x+1) O);refine sZ h1 rfl ?_;refine YJ ?_;refine⟨O,?_⟩;refine O9 I ?_;exact j _ _ ⟨rfl,_,rfl⟩
   .refine zX ?_
    exact j _ _ ⟨rfl,0,rfl⟩
  .rintro G C2 ⟨rfl,v,rfl⟩
   refine uQ ?_;refine⟨(by show(0:Int) < _;decide),?_⟩;refine⟨.inr ⟨by decide,by decide⟩,?_⟩;refine sZ h1 rfl ?_;refine⟨.inr ⟨by decide,by decide⟩,?_⟩;refine eW ?_;refine eW ?_;refine⟨(by show(0:Int) < _;decide),?_⟩;have b0:=CY (v % 2147483647 * 48271+(x+1) * 7919+12345) (b:=2147483629) (by decide);have b1:=Br (v % 2147483647 * 48271+(x+1) * 7919+12345) (b:=2147483629) (by decide)
   refine uQ ?_;refine eW ?_;refine⟨.inl ⟨by lia,by lia⟩,?_⟩;refine⟨(by show(0:Int) < _;decide),?_⟩;refine⟨.inr ⟨by decide,by decide⟩,?_⟩;refine⟨(by show(0:Int) < _;decide),?_⟩;refine⟨F,?_⟩;exact q _ _ (CY _ (by lia)) (Br _ F) ⟨⟨_,_,_,h1,by lia,Y,Z⟩,N⟩ g
def Tp.ne(h:Tp C t ns)(g:C p=none):p≠t:=fun e=>by
 obtain⟨⟨x,y,z,h,_⟩,_⟩:=h;rw[<- e,g] at h;cases h
def Tp.new(h:Tp C t ns)(g:C p=none)o:Tp (gQ C p o) t ns:=by
 have n:=h.ne g;obtain⟨⟨x,y,z,h,q⟩,l⟩:=h;exact⟨⟨x,y,z,(yQ (Ne.symm n)).trans h,q⟩,l⟩
noncomputable def Fo:List Str:=["a","ab","abc","b","ba","box","end","give","part","plain","turn","abcdefgh"]
def oV{α:Type}{f:α->PV}{ss:List α}d(h0:0<=k)(h1:k < (ss.length:Int)):atI (ss.map f) k=some (f (ss.getD k.toNat d)):=by
 delta atI ixN
 rw[Ah h0,Ah (by simp_all)];show(ss.map f)[k.toNat]?=_;rw[Am,BA,AK (by lia)]
 rfl
def Zz(v c:Int)(i:Nat):Str:=Fo.getD ((v+c * (i:Int)) % 12).toNat ""
def vW(v c:Int)(m:Nat):List Str:=(List.range m).map (Zz v c)
def V5:∀v∈List.range 12,∀c∈[1,5,7,11],(vW v (c:Nat) 12).Nodup:=by decide +kernel
def Xd(D:0<=v)(G:v < 12)(j:c=1\/c=5\/c=7\/c=11)(q:m<=12):(vW v c m).Nodup:=by
 have g:(vW v c 12).Nodup:=by
  have:=V5 v.toNat (BQ.2 (by lia));have F:=Int.toNat_of_nonneg D
  rcases j with rfl | rfl | rfl | rfl
  .grind
  .grind
  .grind
  .grind
 have e:vW v c m=(vW v c 12).take m:=by
  delta vW
  rw[<- List.map_take,List.take_range,Nat.min_eq_left q]
 exact e▸g.sublist (List.take_sublist _ _)
def GE f(I:CH->Prop)m(h:∀k C F,k < m->I C->(∀C',I C'->F (f k) C')->c (some (.int k )::J) C F)(q:∀p C',I C'->C' p=none->Q (.ref p) (gQ C' p (.lst ((List.range m).map f)))):∀n C,n<=m->m<=1000->I C->xJ iP c J Q ((List.range m).drop n |>.map fun k=>PV.int (k:Nat)) ((List.range n).map f) C:=by
 suffices ∀j n C,n+j=m->m<=1000->I C->xJ iP c J Q ((List.range m).drop n |>.map fun k=>PV.int (k:Nat)) ((List.range n).map f) C by
  intro n C G D g;exact this (m - n) n C (by lia) D g
 intro j
 induction j with
 |zero =>
  intro n C G D g;have e:n=m:=by lia
  subst e;rw[List.drop_of_length_le (An▸AH _)];exact pL fun p N=>q p C g N
 |succ j O =>
  intro n C G D g;rw[Ao (by grind),A5,List.getElem_range];refine aM (h n C _ (by lia) g fun C' M=>⟨?_,?_⟩)
  .rw [AB,An]
   exact AR (show n < 1001 by lia) (by decide)
  .have e:(List.range n).map f++[f n]=(List.range (n+1)).map f:=by rw[List.range_succ,AS];rfl
   exact e▸O (n+1) C' (by lia) D M
noncomputable def Ki(c:Nat):Bool:=!(Builtin.Str.occurrences ("abcdefghijklmnopqrstuvwxyz" : Str) ⟨#[c]⟩ 0 ("abcdefghijklmnopqrstuvwxyz" : Str).length 1).isEmpty
def oF(z:Str):Bool:=(decide ((1:Int)<=(z.length:Nat))&&decide (((z.length:Nat):Int)<=8))&&z.cps.toList.all Ki
def vp:Fo.all oF=true:=by decide +kernel
def Oz(h:oF z=true):z.length<=8 :=by grind[oF]
def Yy v c n:∀s∈vW v c n,oF s=true:=by
 intro s hs;obtain⟨i,_,rfl⟩:=AM.1 hs
 delta Zz
 have g:((v+c * (i:Int)) % 12).toNat < Fo.length:=by
  have h1:=CY (v+c * (i:Int)) (show(12:Int)≠0 by decide);have h2:=Br (v+c * (i:Int)) (show(0:Int) < 12 by decide);show _ < 12
  lia
 exact BA▸(AK g)▸BZ.1 vp _ (Ap g)
inductive Z0(ts:List PV)(C:CH)(Q:K1):Prop
 |mk(t:Addr)(m:Int)(ns:List Int)(z0:ts=[.ref t,.int m])(z1:Tp C t ns)(z2:0<=m)(z3:m<=12)(z4:∀(p:Addr)(ss:List Str)(C':CH),C' p=some (.lst (ss.map PV.str))->C p=none->p≠t->ss.length=m.toNat->(ss.Nodup/\∀s∈ss,oF s=true)->Tp C' t ns->Ex t C C'->Q (.ref p) C')
def uB(T:Tx W a):Ok W a 2 27 U9 Z0:=by
 have S:=(T.F 27 rfl).s;have O:=nZ T
 refine(T.F 27 rfl).o (fun hr=>(xQ (fu 2 S.nd (gX (qQ vQ (qQ vQ (qQ vQ (qQ vQ (qQ vQ (qQ vQ (qQ vQ (qQ vQ (qQ vQ (qQ vQ (qQ vQ (dw vQ))))))))))))))
  (xQ (fu 3 S.nd (cf (T.F 26 rfl) O hr (qQ (cv 0) (dw zQ))))
  (xQ (fu 4 S.nd (cx (gX (qQ zQ (qQ zQ (qQ zQ (dw zQ))))) (cf (T.F 26 rfl) O hr (qQ (cv 0) (dw zQ)))))
  (kQ (wQ (sV rfl (S.c (by decide +kernel)) (S.k rfl rfl rfl (by decide +kernel)) (xS rfl T.kW (dw (cv 1))) (fun _ _ _ _ _=>xK) (fun _ _ _ _ _=>(cx (cv 3) (xX wB xG (xX pX dX (cv 4) (xX cP eM (cv 5) (cv 0))) zQ)))))))))) ?_
 rintro ts C R ⟨t,m,ns,rfl,J,ah,m1,q⟩;refine⟨by decide,fun p D=>?_⟩;refine⟨t,12,ns,rfl,J.new D _,by decide,by decide,fun v C1 af ag N Y=>?_⟩;refine⟨by decide,fun p2 M=>⟨t,4,ns,rfl,N.new M _,by decide,by decide,fun k C2 k0 k1 G e2=>?_⟩⟩;have ae:=Y p _ (J.ne D) jQ;have Z:=(Ex.new M _).trans e2;have m2:=e2 p2 _ (N.ne M) jQ;have I:=oV (f:=PV.int) (ss:=[1,5,7,11]) 0 k0 k1
 have j:[1,5,7,11].getD k.toNat (0:Int)=1\/[1,5,7,11].getD k.toNat (0:Int)=5\/[1,5,7,11].getD k.toNat (0:Int)=7\/[1,5,7,11].getD k.toNat (0:Int)=11:=by
  have:k=0\/k=1\/k=2\/k=3:=by lia
  rcases this with rfl | rfl | rfl | rfl
  .exact .inl rfl
  .exact .inr (.inl rfl)
  .exact .inr (.inr (.inl rfl))
  .exact .inr (.inr (.inr rfl))
 revert I j;generalize [1,5,7,11].getD k.toNat (0:Int)=c;intro I j;refine sZ m2 I ⟨by lia,by lia,?_⟩;have m3:=Z p _ (J.ne D) ae;have U:=((Ex.new D _).trans Y).trans Z;have hb:c<=11/\1<=c:=by rcases j with rfl | rfl | rfl | rfl<;>lia
 refine GE (fun i=>.str (Zz v c i)) (fun C'=>C'=C2) m.toNat (fun i C3 Q' hi e hq=>?_) (fun F C3 e g=>?_) 0 C2 (AX _) (by lia) rfl
 .subst e
  refine⟨.inr ⟨by lia,by lia⟩,?_⟩;refine eW ⟨(by show(0:Int) < _;decide),?_⟩;have r0:=CY (v+c * (i:Int)) (b:=12) (by decide);have r1:=Br (v+c * (i:Int)) (b:=12) (by decide);exact sZ m3 (oV (ss:=Fo) "" r0 r1) (hq _ rfl)
 .subst e
  have ab:C F=none:=by
   cases z:C F with
   |none=>rfl
   |some o =>
    have n1:=G.ne g;rw[U F o n1 z] at g;cases g
  refine q F (vW v c m.toNat) _ ?_ ab (G.ne g) ?_ ⟨Xd af ag j (by lia),Yy v c m.toNat⟩ (G.new g _) (U.trans (Ex.new g _))
  .rw [jQ]
   delta vW
   rw[A8]
   rfl
  .delta vW
   rw[AB,An]
inductive vI(ts:List PV)(C:CH)(Q:K1):Prop
 |mk(t:Addr)(ns:List Int)(z0:ts=[.ref t])(z1:Tp C t ns)(z2:∀(i:Int)(C':CH),-1000000000<=i->i<=1000000000->Tp C' t ns->Ex t C C'->Q (.int i) C')
def Ff{ns:List Int}(g:∀x∈ns,lo<=x/\x<=hi)(h0:0<=k)(h1:k < ((ns.map PV.int).length:Int)):∃v,atI (ns.map PV.int) k=some (.int v)/\lo<=v/\v<=hi:=by
 delta atI ixN
 rw[Ah h0,Ah h1];rw[AB] at h1;show ∃v,(ns.map PV.int)[k.toNat]?=some (.int v)/\lo<=v/\v<=hi;rw[Am,AK (by lia)];exact⟨_,rfl,g _ (Ap _)⟩
def pM(T:Tx W a):Ok W a 2 28 R8 vI:=by
 have F:=nZ T
 refine(T.F 28 rfl).o (fun I=>(xQ (nQ (ct2 gV uJ (cf (T.F 26 rfl) F I (qQ (cv 0) (dw zQ))) zQ) (kQ (wQ (xX rK vJ (cf (T.F 26 rfl) F I (qQ (cv 0) (dw zQ))) zQ))) lQ)
  (kQ (wQ (cx (gX (qQ (xX Zt pI zQ zQ) (qQ (oH aU zG (xX Zt pI zQ zQ)) (qQ zQ (dw (oH aU zG zQ)))))) (cf (T.F 26 rfl) F I (qQ (cv 0) (dw zQ)))))))) ?_
 rintro ts C R ⟨t,ns,rfl,S,q⟩;refine⟨t,8,ns,rfl,S,by decide,by decide,fun v C1 ab ae j J=>?_⟩;refine jg (vZ (fun U=>?_) fun U=>?_)
 .refine ⟨t,9,ns,rfl,j,by decide,by decide,fun v C2 ab ae D g=>?_⟩
  exact jg (q (v - 3) C2 (by lia) (by lia) D (J.trans g))
 .refine zX ⟨⟨by decide,by decide,by decide⟩,?_⟩
  refine⟨⟨by decide,by decide,by decide⟩,?_⟩;refine⟨by decide,fun p2 G=>?_⟩;refine⟨t,4,ns,rfl,j.new G _,by decide,by decide,fun k C2 Y Z D g=>?_⟩;obtain⟨c,O,M,N⟩:=(Ff (ns:=[10 ^ 9,-10 ^ 9,999983,-70001]) (lo:=-1000000000) (hi:=1000000000) (by decide) Y Z);exact sZ (g p2 _ (j.ne G) jQ) O (q c C2 M N D ((J.trans (Ex.new G _)).trans g))
end
inductive Rk where
 |num (i:Int) | turn (n:Str) | ask (s n:Str) | bin (w:Str) (x y:Rk) | pick (x y z:Rk)
noncomputable def Rk.pv:Rk->PV
 |.num i=>.tup [.str "num",.int i]
 |.turn n=>.tup [.str "turn",.str n]
 |.ask s n=>.tup [.str s,.str n]
 |.bin w x y=>.tup [.str w,x.pv,y.pv]
 |.pick x y z=>.tup [.str "pick",x.pv,y.pv,z.pv]
def iL(bs:List Str)(s n:Str):Prop:=((s = "take"\/s = "down")/\n∈(["a","ab","b"]:List Str))\/(s = "box"/\n∈bs)
noncomputable def Rk.ok(bs τ:List Str):Nat->Rk->Prop
 |_,.num i=>-1000000000<=i/\i<=1000000000
 |_,.turn n=>n∈τ
 |_,.ask s n=>iL bs s n
 |0,.bin _ _ _=>False
 |0,.pick _ _ _=>False
 |d+1,.bin w x y=>(w = "add"\/w = "times"\/w = "less")/\x.ok bs τ d/\y.ok bs τ d
 |d+1,.pick x y z=>x.ok bs τ d/\y.ok bs τ d/\z.ok bs τ d
theorem Rk.ok.up: ∀{d}{r:Rk},r.ok bs τ d->r.ok bs τ (d+1)
 |d,.num i,h=>by unfold Rk.ok at h ⊢;exact h
 |d,.turn n,h=>by unfold Rk.ok at h ⊢;exact h
 |d,.ask s n,h=>by unfold Rk.ok at h ⊢;exact h
 |0,.bin _ _ _,h =>h.elim
 |0,.pick _ _ _,h =>h.elim
 |d+1,.bin w x y,h =>⟨h.1,h.2.1.up,h.2.2.up⟩
 |d+1,.pick x y z,h =>⟨h.1.up,h.2.1.up,h.2.2.up⟩
def Rk.ok.mono{r:Rk}(h:r.ok bs τ d)(l:d<=e):r.ok bs τ e:=by
 induction l with
 |refl=>exact h
 |step _ g=>exact g.up
structure Kt where
 b:Addr
 r:Addr
 bs:List Str
 rs:List Str
 l:Int
 p:Int
 e:Int
 la:Option Str
noncomputable def oU:Option Str->PV
 |none=>.non
 |some s=>.str s
noncomputable def gZ(b r:Addr)(l p e:Int)(la:PV):List (Key×PV):=[(.inr "boxes",.ref b),(.inr "rest",.ref r),(.inr "left",.int l),(.inr "parts",.int p),(.inr "eaches",.int e),(.inr "last",la)]
structure j4(C:CH)(t k:Addr)(κ:Kt):Prop where
 at_:C k=some (.dK (gZ κ.b κ.r κ.l κ.p κ.e (oU κ.la)))
 bx:C κ.b=some (.lst (κ.bs.map PV.str))
 rx:C κ.r=some (.lst (κ.rs.map PV.str))
 nk:k≠t
 nb:κ.b≠t
 nr:κ.r≠t
 lb:κ.bs.length<=4
 lr:κ.rs.length<=6
def j4.ex(h:j4 C t k κ)(e:Ex t C C'):j4 C' t k κ :=
 ⟨e _ _ h.nk h.at_,e _ _ h.nb h.bx,e _ _ h.nr h.rx,h.nk,h.nb,h.nr,h.lb,h.lr⟩
section
variable {b r:Addr}{l p e:Int}{la:PV}
def kY:sJ (gZ b r l p e la) (.inr "boxes")=some (.ref b):=rfl
def zC:sJ (gZ b r l p e la) (.inr "rest")=some (.ref r):=rfl
def pD:sJ (gZ b r l p e la) (.inr "left")=some (.int l):=rfl
def yO:sJ (gZ b r l p e la) (.inr "parts")=some (.int p):=rfl
def jC:sJ (gZ b r l p e la) (.inr "eaches")=some (.int e):=rfl
def Qx:sJ (gZ b r l p e la) (.inr "last")=some la:=rfl
def QP: kJ (gZ b r l p e la) (.inr "left") (.int g)=gZ b r g p e la:=rfl
def K8: kJ (gZ b r l p e la) (.inr "parts") (.int g)=gZ b r l g e la:=rfl
def mC: kJ (gZ b r l p e la) (.inr "eaches") (.int g)=gZ b r l p g la:=rfl
end
def fW{ss:List Str}(h0:0<=i)(h1:i < (ss.length:Int)):ss.getD i.toNat "" ∈ ss :=by grind
section
variable {W:Wd}{a:Adr}
inductive Y8(ts:List PV)(C:CH)(Q:K1):Prop
 |mk(t k:Addr)(τ:List Str)(ns:List Int)(κ:Kt)(z0:ts=[.ref t,.ref k,.tup (τ.map PV.str)])(z1:Tp C t ns)(z2:j4 C t k κ)(z3:τ.length<=4)(z4:∀(r:Rk)(C':CH),r.ok κ.bs τ 0->Tp C' t ns->Ex t C C'->Q r.pv C')
def eA(T:Tx W a):Ok W a 3 29 U1 Y8:=by
 have S:=(T.F 29 rfl).s;have Y:=(nZ T).mono (show 1<=2 by decide);have yV:=pM T
 refine(T.F 29 rfl).o (fun G=>(xQ (fu 3 S.nd (cf (T.F 26 rfl) Y G (qQ (cv 0) (dw zQ))))
  (xQ (nQ (ct2 wX sQ (cv 3) zQ) (kQ (wQ (cQ (qQ vQ (dw (cx (gX (qQ vQ (qQ vQ (dw vQ)))) (cf (T.F 26 rfl) Y G (qQ (cv 0) (dw zQ))))))))) lQ)
  (xQ (nQ (ct2 wX sQ (cv 3) zQ) (kQ (wQ (cQ (qQ vQ (dw (cx (gX (qQ vQ (qQ vQ (dw vQ)))) (cf (T.F 26 rfl) Y G (qQ (cv 0) (dw zQ))))))))) lQ)
  (xQ (nQ (gm (iu (ct2 yB sY (cv 3) zQ) (gn (ct2 gV uJ (j9 T.lZ (zJ (xZ G) (cv 1) vQ (fun _ _=>rfl))) zQ)))) (kQ (wQ (cQ (qQ vQ (dw (cx (zJ (xZ G) (cv 1) vQ (fun _ _=>rfl)) (cf (T.F 26 rfl) Y G (qQ (cv 0) (dw (j9 T.lZ (zJ (xZ G) (cv 1) vQ (fun _ _=>rfl)))))))))))) lQ)
  (xQ (nQ (gm (iu (ct2 wX sQ (cv 3) zQ) (gn (ct2 gV uJ (j9 T.lZ (cv 2)) zQ)))) (kQ (wQ (cQ (qQ vQ (dw (cx (cv 2) (cf (T.F 26 rfl) Y G (qQ (cv 0) (dw (j9 T.lZ (cv 2))))))))))) lQ)
  (kQ (wQ (cQ (qQ vQ (dw (cf (T.F 28 rfl) yV G (dw (cv 0)))))))))))))) ?_
 rintro ts C R ⟨t,k,τ,ns,κ,rfl,hT,hk,ah,q⟩;refine⟨t,6,ns,rfl,hT,by decide,by decide,fun v C1 ai aj I U=>?_⟩
 try dsimp only
 have N:=hk.ex U
 have ag:∀C2,Tp C2 t ns->Ex t C C2->vI [.ref t] C2 fun x C3=>2<=sizeLine/\R (.tup [.str "num",x]) C3:=by
  intro C2 F D;refine⟨t,ns,rfl,F,fun i C3 g j T3 e3=>⟨by decide,?_⟩⟩;exact q (.num i) C3 ⟨g,j⟩ T3 (D.trans e3)
 refine dZ ?_;refine qX (mX _ _) ?_;refine vZ (fun J=>?_) fun J=>?_
 .refine ⟨by decide,fun p O=>?_⟩
  refine⟨t,3,ns,rfl,I.new O _,by decide,by decide,fun i C2 g j F D=>?_⟩;refine sZ (D p _ (I.ne O) jQ) (oV (f:=PV.str) (ss:=["a","ab","b"]) "" g j) ?_;refine⟨ie 2 rfl,?_⟩;exact q (.ask "take" _) C2 (.inl ⟨.inl rfl,fW g j⟩) F ((U.trans (Ex.new O _)).trans D)
 refine zX ?_;refine dZ ?_;refine qX (mX _ _) ?_;refine vZ (fun J=>?_) fun J=>?_
 .refine ⟨by decide,fun p O=>?_⟩
  refine⟨t,3,ns,rfl,I.new O _,by decide,by decide,fun i C2 g j F D=>?_⟩;refine sZ (D p _ (I.ne O) jQ) (oV (f:=PV.str) (ss:=["a","ab","b"]) "" g j) ?_;refine⟨ie 2 rfl,?_⟩;exact q (.ask "down" _) C2 (.inl ⟨.inr rfl,fW (ss:=["a","ab","b"]) g j⟩) F ((U.trans (Ex.new O _)).trans D)
 refine zX ?_
 try dsimp only
 refine tQ (fun ab C'=>C'=C1/\ab=[some (.ref t),some (.ref k),some (.tup (τ.map PV.str)),some (.int v)]) (fun L Z=>?_) ?_
 .refine jg ?_
  refine vZ (fun J=>?_) fun J=>?_
  .refine bV N.at_ rfl kY ?_
   refine sW N.bx ?_;refine jg ?_;refine vZ (fun M=>?_) fun M=>?_
   .refine bV N.at_ rfl kY ?_
    refine bV N.at_ rfl kY ?_;refine sW N.bx ?_;have hl:=N.lb;rw[AB] at M ⊢;have ae:=AZ M;refine⟨t,_,ns,rfl,I,ae,by lia,fun i C2 g j F D=>?_⟩;refine sZ ((N.ex D).bx) (oV (f:=PV.str) "" g j) ?_;refine⟨ie 2 rfl,?_⟩;exact q (.ask "box" _) C2 (.inr ⟨rfl,fW g j⟩) F (U.trans D)
   .refine zX ?_
    exact Z _ _ ⟨rfl,rfl⟩
  .refine yG rfl ?_
   refine zX ?_;exact Z _ _ ⟨rfl,rfl⟩
 rintro ab C' ⟨rfl,rfl⟩;refine tQ (fun ab af=>af=C'/\ab=[some (.ref t),some (.ref k),some (.tup (τ.map PV.str)),some (.int v)]) (fun L Z=>?_) ?_
 .refine qX (mX _ _) ?_
  refine vZ (fun J=>?_) fun J=>?_
  .refine nU ?_
   refine jg ?_;refine vZ (fun M=>?_) fun M=>?_
   .refine nU ?_
    rw[AB] at M ⊢;have ae:=AZ M;refine⟨t,_,ns,rfl,I,ae,by lia,fun i C2 g j F D=>?_⟩;refine rX (oV (f:=PV.str) "" g j) ?_;refine⟨ie 2 rfl,?_⟩;exact q (.turn _) C2 (fW g j) F (U.trans D)
   .refine zX ?_
    exact Z _ _ ⟨rfl,rfl⟩
  .refine yG rfl ?_
   refine zX ?_;exact Z _ _ ⟨rfl,rfl⟩
 rintro ab af ⟨rfl,rfl⟩;exact ag _ I U
end
def kE(q:Q (.int (if b then 1 else 0)) C):cInt [.bl b] C Q:=by
 delta cInt
 exact q
def Ie(m:Nat):List PV:=(List.range m).map fun k=>PV.int (k:Nat)
def WG m:(Ie m).length=m :=by grind[Ie,List.length_map,List.length_range]
section
variable {W:Wd}{a:Adr}
inductive Xu(d:Nat)(ts:List PV)(C:CH)(Q:K1):Prop
 |mk(t k:Addr)(τ:List Str)(ns:List Int)(κ:Kt)(z0:ts=[.ref t,.ref k,.tup (τ.map PV.str),.int (d:Nat)])(z1:Tp C t ns)(z2:j4 C t k κ)(z3:τ.length<=4)(z4:∀(r:Rk)(C':CH),r.ok κ.bs τ d->Tp C' t ns->Ex t C C'->Q r.pv C')
def qR(T:Tx W a)(d:Nat):Ok W a (d+4) 30 U0 (Xu d):=by
 have ak:∀n,(∀d',n=d'+1->Ok W a (d'+4) 30 U0 (Xu d'))->Ok W a (n+4) 30 U0 (Xu n):=by
  intro n ih;have S:=(T.F 30 rfl).s;have bQ:=(nZ T).mono (show 1<=n+3 by lia);have kM:=(eA T).mono (show 3<=n+3 by lia)
  have zV:Ok W a (n+3) 30 U0 (fun ts C Q=>∃d',n=d'+1/\Xu d' ts C Q):=by
   cases n with
   |zero=>exact⟨fun vs H Q E ⟨ts,C,R,_,_,⟨d',e,_⟩,_⟩=>by lia,fun _ _ _ _ _ _ _ _ _ _ _ _ _ ⟨ts,C,R,_,_,⟨d',e,_⟩,_⟩=>by lia⟩
   |succ d' =>
    have:=ih d' rfl
    have e:(fun ts C Q=>∃ab,d'+1=ab+1/\Xu ab ts C Q)=Xu d':=by
     funext ts C Q
     refine propext ⟨fun zz=>oQ zz fun ab e h=> ?_,fun h=>⟨d',rfl,h⟩⟩;cases Ax e;exact h
    rw[e];exact this
  refine(T.F 30 rfl).o (fun D=>(xQ (fu 4 S.nd (cf (T.F 26 rfl) bQ D (qQ (cv 0) (dw zQ))))
  (xQ (nQ (gm (jj (ct2 wX sQ (cv 3) zQ) (jh (ct2 yB sY (cv 4) zQ)))) (kQ (wQ (cf (T.F 29 rfl) kM D (qQ (cv 0) (qQ (cv 1) (dw (cv 2))))))) lQ)
  (xQ (fu 5 S.nd (cx (gX (qQ vQ (qQ vQ (qQ vQ (dw vQ))))) (xX rK vJ (cv 4) zQ)))
  (xQ (fu 6 S.nd (cx (gX (qQ zQ (dw zQ))) (mZ gY iM rfl T.gD rfl (dw (oK wX sQ (cv 5) vQ (wV _))))))
  (kQ (wQ (xX pX dX (cQ (dw (cv 5))) (o8 T.sX (sV rfl (S.c (by decide +kernel)) (S.k rfl rfl rfl (by decide +kernel)) (xS rfl T.kW (dw (cv 6))) (fun _ _ _ _ _=>xK) (fun _ _ _ _ _=>(cf (T.F 30 rfl) zV D (qQ (cv 1) (qQ (cv 2) (qQ (cv 3) (dw (xX rK vJ (cv 4) zQ))))))))))))))))) ?_
  rintro ts C R ⟨t,k,τ,ns,κ,rfl,hT,hk,ai,q⟩;refine⟨t,8,ns,rfl,hT,by decide,by decide,fun v C1 az a0 T1 e1=>?_⟩
  try dsimp only
  have av:=hk.ex e1
  have aj:∀E':K1,E'=R->Y8 [.ref t,.ref k,.tup (τ.map PV.str)] C1 E':=by
   rintro E' rfl;exact⟨t,k,τ,ns,κ,rfl,T1,av,ai,fun r C2 D N O=>q r C2 (D.mono (AX _)) N (e1.trans O)⟩
  refine tQ (fun ao C'=>C'=C1/\0 < n/\4<=v/\ao=[some (.ref t),some (.ref k),some (.tup (τ.map PV.str)),some (.int (n:Nat)),some (.int v),none,none]) (fun L U=>?_) ?_
  .refine qX (mX _ _) ?_
   refine vZ (fun hb=>?_) fun hb=>?_
   .refine ZX rfl ?_
    exact aj _ rfl
   .refine jg ?_
    refine vZ (fun ag=>?_) fun ag=>?_
    .exact aj _ rfl
    .refine zX ?_
     have:=Ca hb;have:=Ca ag;exact U _ _ ⟨rfl,by lia,by lia,rfl⟩
  rintro ao C' ⟨rfl,hn,hv,rfl⟩;obtain⟨d',rfl⟩:∃d',n=d'+1:=⟨n - 1,by lia⟩
  have ae:∀(j:Str)(m:Nat)(C2:CH),(m=2/\(j = "add"\/j = "times"\/j = "less"))\/(m=3/\j = "pick")->Tp C2 t ns->Ex t C C2 ->
    ∀(c:gj)(ρ:jt)(Q:K1),(∀x g(L:K1),Tp g t ns->Ex t C g->(∀r M,Rk.ok κ.bs τ d' r->Tp M t ns->Ex t C M->L r.pv M)->c (some x::ρ) g L)->(∀(p:Addr)(rs:List Rk)(g:CH),Tp g t ns->Ex t C g->g p=some (.lst (rs.map Rk.pv))->(∃r:Rk,r.ok κ.bs τ (d'+1)/\r.pv=.tup (.str j::rs.map Rk.pv)/\rs.length<=3)->Q (.ref p) g) ->
    xJ iP c ρ Q (Ie m) [] C2:=by
   intro j m C2 F N O c ρ Q ax ae;refine eG (fun zs acc g=>Tp g t ns/\Ex t C g/\∃rs:List Rk,acc=rs.map Rk.pv/\rs.length+zs.length=m/\∀r∈rs,Rk.ok κ.bs τ d' r) ?_ ?_ _ _ _ ⟨N,O,[],rfl,by rw[WG];exact BP _,fun r D=>nomatch D⟩
   .rintro x r acc g ⟨I,G,rs,rfl,Y,J⟩ L U
    refine ax x g L I G fun r4 M af T4 e4=>U _ _ ⟨?_,T4,e4,rs++[r4],by rw[AS];rfl,by rw[AJ,Aa];rw[AQ] at Y;lia,fun r D=>?_⟩
    .rw [AB]
     exact AR (show rs.length < 4 by lia) (by decide)
    .rcases Ae.1 D with D | D
     .exact J r D
     .cases AF.1 D;exact af
   .rintro acc g ⟨I,G,rs,rfl,Y,J⟩ p Z
    refine ae p rs _ (I.new Z _) (G.trans (Ex.new Z _)) jQ ?_;rw[CV,Nat.add_zero] at Y
    rcases F with ⟨rfl,F⟩ | ⟨rfl,F⟩
    .match rs,Y with
     |[x,y],_=>exact⟨.bin j x y,by unfold Rk.ok;exact⟨F,J x (by simp),J y (by simp)⟩,rfl,by show 2<=3;decide⟩
    .match rs,Y with
     |[x,y,z],_=>exact⟨.pick x y z,by unfold Rk.ok;exact⟨J x (by simp),J y (by simp),J z (by simp)⟩,by rw[F];rfl,by show 3<=3;decide⟩
  refine uQ ?_;refine⟨by decide,fun p Z=>?_⟩;refine jg ?_;have N:=T1.new Z (.lst [PV.str "add",PV.str "times",PV.str "less",PV.str "pick"]);have O:=e1.trans (Ex.new Z (.lst [PV.str "add",PV.str "times",PV.str "less",PV.str "pick"]));have aq:v=4\/v=5\/v=6\/v=7:=by lia
  obtain⟨j,m,ar,F⟩:∃(j:Str)(m:Nat),atI ([PV.str "add",PV.str "times",PV.str "less",PV.str "pick"]) (v - 4)=some (.str j)/\((m=2/\(j = "add"\/j = "times"\/j = "less"))\/(m=3/\j = "pick")):=by
   rcases aq with rfl | rfl | rfl | rfl
   .exact ⟨"add",2,rfl,.inl ⟨rfl,.inl rfl⟩⟩
   .exact ⟨"times",2,rfl,.inl ⟨rfl,.inr (.inl rfl)⟩⟩
   .exact ⟨"less",2,rfl,.inl ⟨rfl,.inr (.inr rfl)⟩⟩
   .exact ⟨"pick",3,rfl,.inr ⟨rfl,rfl⟩⟩
  refine sZ jQ ar ?_;refine uQ ?_;refine⟨by decide,fun p2 ah=>?_⟩;refine qX (pQ _ _) ?_;refine kE ?_
  have au:atI [PV.int 2,PV.int 3] (if decide (j = "pick") then 1 else 0)=some (.int (m:Nat)):=by
   rcases F with ⟨rfl,F⟩ | ⟨rfl,rfl⟩
   .have:¬ j = "pick":=by rcases F with rfl | rfl | rfl<;>decide
    rw[AN this];rfl
   .rfl
  refine sZ jQ au ?_;refine⟨ie 1 rfl,?_⟩;have ay:m<=3:=by rcases F with ⟨rfl,_⟩ | ⟨rfl,_⟩<;>decide
  refine⟨by lia,by lia,?_⟩;refine ae j m _ F (N.new ah _) (O.trans (Ex.new ah _)) _ _ _ (fun x g L I G U=>?_) fun p3 rs g I G m3 D=>?_
  .refine jg ?_
   refine⟨d',rfl,t,k,τ,ns,κ,?_,I,hk.ex G,ai,fun r M af T4 e4=>U r M af T4 (G.trans e4)⟩;have:((d'+1:Nat):Int) - 1=(d':Nat):=by lia
   rw[this]
  .obtain ⟨r,aw,ep,lr⟩:=D
   refine tK m3 ?_;refine tS (by rw[AB];exact AW (show 1+rs.length<=4 by lia) (by decide)) ?_;have:=q r g aw I G;rw[ep] at this;exact this
 induction d with
 |zero=>exact ak 0 fun d' e=>by lia
 |succ d ih=>exact ak (d+1) fun d' e=>by cases Ax e;exact ih
end
noncomputable def xF:Option Rk->PV
 |none=>.non
 |some r=>r.pv
def gT(bs τ:List Str):Option Rk->Prop
 |none=>True
 |some r=>r.ok bs τ 0
noncomputable def xU(c:Str×Rk):PV:=.tup [.str c.1,c.2.pv]
def kN(bs τ:List Str)(d:Nat)(ps:List (Str×Rk)):Prop:=∀c∈ps,c.2.ok bs τ d/\c.1.length<=8
def Fe{τ:List Str}(h:0 < τ.length):∃s∈τ,atI (τ.map PV.str) (-1)=some (.str s):=by
 delta atI ixN
 rw[Af (by decide),AB,Ah (by lia)];have:((τ.length:Int) + -1).toNat < τ.length:=by lia
 refine⟨τ[((τ.length:Int) + -1).toNat],Ap _,?_⟩;show(τ.map PV.str)[((τ.length:Int) + -1).toNat]?=_;rw[Am,AK this]
 rfl
def Ds(h:C a=some (.lst xs))(j:g[i]?=some (some (.ref a)))(q:qM (fun C=>C a=some (.lst xs)) t c g Q xs [] C):zH (jJ i) t c g C Q :=by simp_all[zH,jJ]
def fU{β:Type}F(G:β->Prop)(J:CH->Prop)(N:∀C,J C->C p=some (.lst (ss.map PV.str)))(hl:ss.length<=1000)(Y:∀z C L,J C->(∀b C',G b->J C'->L (F (z,b)) C')->c (some (.str z)::Z) C L)(I:∀(bs:List (Str×β))C j,J C->C j=none->bs.map (·.1)=ss->(∀x∈bs,G x.2)->Q (.ref j) (gQ C j (.lst (bs.map F))))(M:J C):
  qM (fun C=>C p=some (.lst (ss.map PV.str))) iP c Z Q (ss.map PV.str) [] C:=by
 refine cE (fun zs acc C=>J C/\∃(bs:List (Str×β))(g:List Str),zs=g.map PV.str/\acc=bs.map F/\bs.map (·.1)++g=ss/\∀x∈bs,G x.2) (fun _ _ _ h=>N _ h.1) ?_ ?_ _ _ _ ⟨M,[],ss,rfl,rfl,rfl,fun x h=>nomatch h⟩
 .rintro x r acc C1 ⟨D,bs,g,q,rfl,e,o⟩ L O
  cases g with
  |nil=>cases q
  |cons u g =>
   obtain⟨rfl,rfl⟩:=BO q;refine Y u C1 L D fun b C' ob U=>O _ _ ⟨?_,U,bs++[(u,b)],g,rfl,by rw[AS];rfl,by rw[AS,Ad];exact e,fun x hx=>?_⟩
   .have:=Bz List.length e
    rw[AJ,AB] at this;rw[AB];exact AR (show bs.length < 1001 by lia) (by decide)
   .grind
 .rintro acc C1 ⟨D,bs,g,q,rfl,e,o⟩ j S
  cases g with
  |nil=>rw[Ai] at e;exact I bs C1 j D S e o
  |cons u g=>cases q
section
variable {W:Wd}{a:Adr}
inductive Tt(ts:List PV)(C:CH)(Q:K1):Prop
 |mk(t k:Addr)(τ:List Str)(ns:List Int)(κ:Kt)(z0:ts=[.ref t,.ref k,.tup (τ.map PV.str)])(z1:Tp C t ns)(z2:j4 C t k κ)(z3:τ.length<=4)(z4:∀(o:Option Rk)(C':CH),gT κ.bs τ o->Tp C' t ns->Ex t C C'->Q (xF o) C')
def Zw(T:Tx W a):Ok W a 4 31 U1 Tt:=by
 have N:=(nZ T).mono (show 1<=3 by decide);have Z:=eA T
 refine(T.F 31 rfl).o (fun j=>(xQ (fu 3 ((T.F 31 rfl).s).nd (cf (T.F 26 rfl) N j (qQ (cv 0) (dw zQ))))
  (xQ (nQ (ct2 yB sY (cv 3) zQ) (kQ (wQ kK)) lQ)
  (xQ (nQ (gm (iu (ct2 wX sQ (cv 3) zQ) (gn (ct2 gV uJ (j9 T.lZ (cv 2)) zQ)))) (kQ (wQ (cQ (qQ vQ (dw (cx (cv 2) (oH aU zG zQ))))))) lQ)
  (kQ (wQ (cf (T.F 29 rfl) Z j (qQ (cv 0) (qQ (cv 1) (dw (cv 2))))))))))) ?_
 rintro ts C R ⟨t,k,τ,ns,κ,rfl,S,U,Y,q⟩;refine⟨t,4,ns,rfl,S,by decide,by decide,fun v C1 ae af D g=>?_⟩;refine dZ (jg (vZ (fun F=>?_) fun F=>?_))
 .exact q none C1 trivial D g
 apply zX
 try dsimp only
 refine tQ (fun J C'=>C'=C1/\J=[some (.ref t),some (.ref k),some (.tup (τ.map PV.str)),some (.int v)]) (fun L I=>?_) ?_
 .refine qX (mX _ _) (vZ (fun F=>?_) fun F=>?_)
  .refine nU (jg (vZ (fun G=>?_) fun G=>?_))
   .rw [AB] at G
    have ab:=AZ G;obtain⟨s,hs,es⟩:=(Fe (τ:=τ) (by lia));refine rX es ⟨ie 2 rfl,?_⟩;exact q (some (.turn s)) C1 hs D g
   .exact zX (I _ _ ⟨rfl,rfl⟩)
  .exact yG rfl (zX (I _ _ ⟨rfl,rfl⟩))
 rintro J C' ⟨rfl,rfl⟩;exact⟨t,k,τ,ns,κ,rfl,D,(U.ex g),Y,fun r C2 j M O=>q (some r) C2 j M (g.trans O)⟩
inductive Y5(ts:List PV)(C:CH)(Q:K1):Prop
 |mk(t k:Addr)(τ:List Str)(ns:List Int)(κ:Kt)(z0:ts=[.ref t,.ref k,.tup (τ.map PV.str),.int 2])(z1:Tp C t ns)(z2:j4 C t k κ)(z3:τ.length<=4)(z4:∀(ps:List (Str×Rk))(C':CH),kN κ.bs τ 2 ps->ps.length<=4->Tp C' t ns->Ex t C C'->Q (.tup (ps.map xU)) C')
def Ym(T:Tx W a):Ok W a 7 32 U12 Y5:=by
 have S:=(T.F 32 rfl).s;have bQ:=(nZ T).mono (show 1<=6 by decide);have nJ:=(uB T).mono (show 2<=6 by decide);have zV:=qR T 2
 refine(T.F 32 rfl).o (fun g=>(xQ (fu 4 S.nd (cf (T.F 27 rfl) nJ g (qQ (cv 0) (dw (cf (T.F 26 rfl) bQ g (qQ (cv 0) (dw (xX pX dX (cv 3) zQ))))))))
  (kQ (wQ (o8 T.sX (eB rfl (S.c (by decide +kernel)) (S.k rfl rfl rfl (by decide +kernel)) (cv 4) (fun _ _ _ _ _=>xK) (fun _ _ _ _ _=>(cQ (qQ (cv 0) (dw (cf (T.F 30 rfl) zV g (qQ (cv 1) (qQ (cv 2) (qQ (cv 3) (dw zQ))))))))))))))) ?_
 rintro ts C R ⟨t,k,τ,ns,κ,rfl,hT,hk,ab,q⟩;refine eW ⟨t,3,ns,rfl,hT,by decide,by decide,fun v C1 ag ah U e1=>?_⟩;refine⟨t,v,ns,rfl,U,ag,by lia,fun p ss C2 J n2 af hl ae Y e2=>?_⟩;refine Ds J rfl (fU xU (fun r=>r.ok κ.bs τ 2) (fun C'=>Tp C' t ns/\Ex t C C'/\C' p=some (.lst (ss.map PV.str))) (fun _ h=>h.2.2) (by lia) (fun z N L ⟨D,j,M⟩ hL=>?_) (fun bs N p3 ⟨D,j,M⟩ I hb ho=>?_) ⟨Y,e1.trans e2,J⟩)
 .refine ⟨t,k,τ,ns,κ,rfl,D,hk.ex j,ab,fun r O g Z F=>⟨ie 2 rfl,hL r O g ⟨Z,j.trans F,F _ _ af M⟩⟩⟩
 .exact tK jQ (q bs _ (fun c G=>⟨ho c G,Oz (ae.2 c.1 (hb▸AM.2 ⟨c,G,rfl⟩))⟩) (by grind) (D.new I _) (j.trans (Ex.new I _)))
end
structure Hd where
 ev:Str
 rank:Int
 last:Bool
 ch:List (Str×Str×Rk)
noncomputable def Dt(c:Str×Str×Rk):PV:=.tup [.str c.1,.str c.2.1,c.2.2.pv]
def Hd.pv(h:Hd):PV:=.tup [.str h.ev,.int h.rank,.bl h.last,.tup (h.ch.map Dt)]
def Hd.ok(bs τ:List Str)(h:Hd):Prop:=h.ch.length<=4/\(∀c∈h.ch,c.2.2.ok bs τ 1/\c.1∈bs/\c.2.1.length<=8)/\h.ev.length<=8/\0<=h.rank/\h.rank<=9
theorem Hd.ok.c{h:Hd}(o:h.ok bs τ):∀c∈h.ch,c.2.2.ok bs τ 1:=fun c g=>(o.2.1 c g).1
theorem Ex.put(g:Ex t C C1)(j:C p=none)o:Ex t C (gQ C1 p o):=fun b u n e=>by
 rw[yQ (fun z=>by subst z;rw[j] at e;cases e)];exact g b u n e
theorem Tp.put(h:Tp C t ns)(g:p≠t)o:Tp (gQ C p o) t ns:=by
 obtain⟨⟨a,b,c,e,r⟩,l⟩:=h;exact⟨⟨a,b,c,by exact(yQ (Ne.symm g))▸e,r⟩,l⟩
def Ex.none(g:Ex t C C')(n:p≠t)(h:C' p=none):C p=none:=by
 cases e:C p with
 |none=>rfl
 |some o=>rw[g p o n e] at h;cases h
def bG(I:Nat->jt->CH->Prop)(F:∀i j C,I i j C->C b=some (.lst xs))(J:∀i x j C,xs[i]?=some x->I i j C->∀L:jt->CH->Prop,(∀q C',I (i+1) q C'->L q C')->g x j C fun M C1=>u (E.lp L) M C1)(D:∀j C,I xs.length j C->E.nx j C):
  ∀n i j C,I i j C->i+n=xs.length+1->i<=xs.length->aB b g u E n i j C:=by
 intro n
 induction n with
 |zero=>lia
 |succ n G =>
  intro i j C h h1 h2;unfold aB;rw[F i j C h];dsimp only
  cases e:xs[i]? with
  |none =>
   have:=DB.1 e;have:i=xs.length:=by lia
   subst this;exact D j C h
  |some x =>
   have hi:=(AU.1 e).1;exact J i x j C e h _ fun q C' h'=>G (i+1) q C' h' (by lia) (by lia)
def Ze(h:C b=some (.lst xs))(q:∀p,C p=none->Q (.ref p) (gQ C p (.lst (iF xs lo hi)))):Ek (.ref b) lo hi C Q:=by
 delta Ek
 dsimp only
 rwa [h]
def zg v(h0:0<=v)(h1:v < 3):iF [PV.str "tap",PV.str "key"] none (some v)=((["tap","key"]:List Str).take v.toNat).map PV.str:=by
 have:v=0\/v=1\/v=2:=by lia
 rcases this with rfl | rfl | rfl<;>rfl
section
variable {W:Wd}{a:Adr}
inductive Gb(ts:List PV)(C:CH)(Q:K1):Prop
 |mk(t k:Addr)(τ:List Str)(ns:List Int)(κ:Kt)(z0:ts=[.ref t,.ref k,.tup (τ.map PV.str)])(z1:Tp C t ns)(z2:j4 C t k κ)(z3:τ.length<=4)(z4:∀(hs:List Hd)(C':CH),(∀h∈hs,h.ok κ.bs τ)->hs.length<=4->Tp C' t ns->Ex t C C'->Q (.tup (hs.map Hd.pv)) C')
def Yr(T:Tx W a):Ok W a 6 33 U1 Gb:=by
 have S:=(T.F 33 rfl).s;have M:=(nZ T).mono (show 1<=5 by decide);have zV:=qR T 1
 refine(T.F 33 rfl).o (fun g=>(xQ (fu 3 S.nd (gX bZ))
  (xQ (oM PassesOwn.never rfl (xD (gX (qQ vQ (dw vQ))) nV (rV (cf (T.F 26 rfl) M g (qQ (cv 0) (dw zQ))))) (j7 4 S.nd) (xQ (fu 5 S.nd (gX bZ))
  (xQ (nQ (ct2 gV uJ (j9 T.lZ (zJ (xZ g) (cv 1) vQ (fun _ _=>rfl))) zQ) (kQ (mL PassesOwn.never rfl rfl T.kW (dw (cf (T.F 26 rfl) M g (qQ (cv 0) (dw zQ)))) (j7 6 S.nd) (xQ (fu 7 S.nd (cx (zJ (xZ g) (cv 1) vQ (fun _ _=>rfl)) (cf (T.F 26 rfl) M g (qQ (cv 0) (dw (j9 T.lZ (zJ (xZ g) (cv 1) vQ (fun _ _=>rfl))))))))
  (xQ (fu 8 S.nd (cx (gX (qQ vQ (qQ vQ (dw vQ)))) (cf (T.F 26 rfl) M g (qQ (cv 0) (dw zQ)))))
  (kQ (uZ (cap (cv 5) (cQ (qQ (cv 7) (qQ (cv 8) (dw (cf (T.F 30 rfl) zV g (qQ (cv 0) (qQ (cv 1) (qQ (cv 2) (dw zQ)))))))))))))))) lQ)
  (kQ (uZ (cap (cv 3) (cQ (qQ (cv 4) (qQ (xX pX dX zQ (cf (T.F 26 rfl) M g (qQ (cv 0) (dw zQ)))) (qQ (oK wX sQ (cf (T.F 26 rfl) M g (qQ (cv 0) (dw zQ))) zQ (wV _)) (dw (o8 T.sX (cv 5)))))))))))))
  (kQ (wQ (o8 T.sX (cv 3))))))) ?_
 rintro ts C R ⟨t,k,τ,ns,κ,rfl,hT,hk,bu,q⟩;refine uQ ?_;refine⟨by decide,fun h hh=>?_⟩;have ai:=hT.ne hh;refine tQ (fun aj C'=>∃(hs:List Hd)(x4 x5 D F G:Option PV),aj=[some (.ref t),some (.ref k),some (.tup (τ.map PV.str)),some (.ref h),x4,x5,D,F,G]/\C' h=some (.lst (hs.map Hd.pv))/\hs.length<=2/\(∀h∈hs,h.ok κ.bs τ)/\Tp C' t ns/\Ex t C C') (fun L hL=>?_) ?_
 .refine ⟨by decide,fun p1 ah=>?_⟩
  have T1:=(hT.new hh (.lst [])).new ah (.lst [PV.str "tap",PV.str "key"]);refine⟨t,3,ns,rfl,T1,by decide,by decide,fun v C2 b0 b1 T2 e2=>?_⟩;have bz:p1≠t:=(hT.new hh (.lst [])).ne ah;have m2:C2 p1=_:=e2 p1 _ bz jQ;have bx:h≠p1:=fun z=>by subst z;rw[jQ] at ah;cases ah
  have ay:C2 h=some (.lst []):=e2 h _ ai (by rw[yQ bx];exact jQ);refine Ze m2 fun p2 ar=>?_;rw[zg v b0 b1];have a3:p2≠t:=T2.ne ar;have bf:h≠p2:=fun z=>by subst z;rw[ar] at ay;cases ay
  have bg:Ex t C C2:=fun b o n e=>e2 b o n (Gr.new ah _ _ _ (Gr.new hh _ _ _ e));generalize a7:(["tap","key"]:List Str).take v.toNat=ss;have br:∀s∈ss,s.length<=8:=fun s hs=>(by decide +kernel:∀s∈(["tap","key"]:List Str),s.length<=8) s (B3 (a7▸hs));have b2:ss.length<=2:=by rw[<- a7,A1];exact Nat.min_le_right _ _
  refine⟨ss.length+1,?_⟩;refine bG (xs:=ss.map PV.str) (fun i J C'=>C' p2=some (.lst (ss.map PV.str))/\∃(hs:List Hd)(x4 x5 D F G:Option PV),J=[some (.ref t),some (.ref k),some (.tup (τ.map PV.str)),some (.ref h),x4,x5,D,F,G]/\C' h=some (.lst (hs.map Hd.pv))/\hs.length=i/\i<=ss.length/\(∀h∈hs,h.ok κ.bs τ)/\Tp C' t ns/\Ex t C C') (fun _ _ _ h=>h.1) ?_ ?_ _ 0 _ _ ⟨jQ,[],_,_,_,_,_,rfl,?_,rfl,AX _,(fun _ z=>nomatch z),T2.new ar _,bg.trans (Ex.new ar _)⟩ (by rw[AB];lia) (AX _)
  .rintro i x J C3 U ⟨m3,hs,x4,x5,D,F,G,rfl,Z,hl,hi,ho,T3,e3⟩ L1 bj
   have bt:∃z:Str,x=.str z/\z.length<=8:=by
    rw[Am] at U
    cases z:ss[i]? with
    |none=>rw[z] at U;cases U
    |some u=>rw[z] at U;cases U;exact⟨u,rfl,br u (Ac z)⟩
   have bq:i < ss.length:=by
    have:=(AU.1 U).1;rw[AB] at this;exact this
   obtain⟨av,rfl,bp⟩:=bt;refine uQ ?_;refine⟨by decide,fun c I=>?_⟩;have ab:=T3.ne I;have bb:c≠h:=fun z=>by subst z;rw[Z] at I;cases I
   have bc:c≠p2:=fun z=>by subst z;rw[m3] at I;cases I
   have aw:C c=none:=e3.none ab I
   try dsimp only
   refine tQ (fun aj C'=>∃(cs:List (Str×Str×Rk))(D F G:Option PV),aj=[some (.ref t),some (.ref k),some (.tup (τ.map PV.str)),some (.ref h),some (.str av),some (.ref c),D,F,G]/\C' c=some (.lst (cs.map Dt))/\cs.length<=2/\(∀c∈cs,c.2.2.ok κ.bs τ 1/\c.1∈κ.bs/\c.2.1.length<=8)/\C' h=some (.lst (hs.map Hd.pv))/\C' p2=some (.lst (ss.map PV.str))/\Tp C' t ns/\Ex t C C') (fun L2 a6=>?_) ?_
   .have k3:=hk.ex (e3.put aw (.lst []))
    refine bV k3.at_ rfl kY ?_;refine sW k3.bx ?_;refine jg ?_;have a4:=T3.new I (.lst []);have a5:Ex t C (gQ C3 c (.lst [])):=e3.put aw _;have a8:gQ C3 c (.lst []) h=some (.lst (hs.map Hd.pv)):=by rw[yQ (Ne.symm bb)];exact Z
    have ba:gQ C3 c (.lst []) p2=some (.lst (ss.map PV.str)):=by rw[yQ (Ne.symm bc)];exact m3
    refine vZ (fun hb=>?_) fun hb=>?_
    .rw [AB] at hb
     have bo:=AZ hb;refine⟨t,3,ns,rfl,a4,by decide,by decide,fun n C4 n0 n1 T4 N=>?_⟩;refine⟨by lia,by lia,?_⟩;refine wJ (fun zs J C'=>∃(cs:List (Str×Str×Rk))(D F G:Option PV),J=[some (.ref t),some (.ref k),some (.tup (τ.map PV.str)),some (.ref h),some (.str av),some (.ref c),D,F,G]/\C' c=some (.lst (cs.map Dt))/\cs.length+zs.length<=2/\(∀c∈cs,c.2.2.ok κ.bs τ 1/\c.1∈κ.bs/\c.2.1.length<=8)/\C' h=some (.lst (hs.map Hd.pv))/\C' p2=some (.lst (ss.map PV.str))/\Tp C' t ns/\Ex t C C') ?_ ?_ _ _ _ ⟨[],_,_,_,rfl,N _ _ ab jQ,by rw[AB,An];show 0+_<=2;lia,(fun _ z=>nomatch z),N _ _ ai a8,N _ _ a3 ba,T4,a5.trans N⟩
     .rintro z zs J C5 ⟨cs,y6,y7,y8,rfl,Y,aq,af,az,a0,T5,O⟩ L3 bl
      have k5:=hk.ex O;refine uQ ?_;refine bV k5.at_ rfl kY ?_;refine bV k5.at_ rfl kY ?_;refine sW k5.bx ?_;have lb:=hk.lb;rw[AB];refine⟨t,_,ns,rfl,T5,bo,by lia,fun i C6 i0 i1 T6 e6=>?_⟩;refine sZ ((k5.ex e6).bx) (oV (f:=PV.str) "" i0 i1) ?_;refine uQ ?_;refine⟨by decide,fun p4 ax=>?_⟩;refine⟨t,3,ns,rfl,T6.new ax _,by decide,by decide,fun j C7 j0 j1 T7 e7=>?_⟩;refine sZ (e7 p4 _ (T6.ne ax) jQ) (oV (f:=PV.str) (ss:=["set","add","times"]) "" j0 j1) ?_
      have bh:Ex t C6 C7:=(Ex.new ax _).trans e7;have au:Ex t C5 C7:=e6.trans bh;refine⟨tW (au _ _ ab Y),?_⟩;refine⟨t,k,τ,ns,κ,rfl,T7,k5.ex au,bu,fun r C8 g T8 e8=>⟨ie 3 rfl,?_⟩⟩;have ao:Ex t C5 C8:=au.trans e8;refine sS (ao _ _ ab Y) (by rw[AB];exact AR (show cs.length < 3 by rw[AQ] at aq;lia) (by decide)) ?_;refine bl _ _ ⟨cs++[(_,_,r)],_,_,_,rfl,by rw[jQ,AS];rfl,by rw[AJ,Aa];rw[AQ] at aq;lia,fun c' ae=>?_,?_,?_,T8.put ab _,(O.trans ao).put aw _⟩
      .rcases Ae.1 ae with ae | ae
       .exact af c' ae
       .cases AF.1 ae;exact⟨g,fW i0 i1,(by decide +kernel:∀s∈(["set","add","times"]:List Str),s.length<=8) _ (fW j0 j1)⟩
      .rw [yQ (Ne.symm bb)];exact ao _ _ ai az
      .rw [yQ (Ne.symm bc)];exact ao _ _ a3 a0
     .rintro J C5 ⟨cs,y6,y7,y8,rfl,Y,aq,af,az,a0,T5,O⟩
      exact a6 _ _ ⟨cs,_,_,_,rfl,Y,by lia,af,az,a0,T5,O⟩
    .refine zX ?_
     exact a6 _ _ ⟨[],_,_,_,rfl,jQ,AX _,(fun _ z=>nomatch z),a8,ba,a4,a5⟩
   rintro aj C4 ⟨cs,y6,y7,y8,rfl,Y,aq,af,a9,bw,T4,N⟩;refine⟨tW a9,?_⟩;refine⟨t,3,ns,rfl,T4,by decide,by decide,fun rk C5 r0 r1 T5 O=>?_⟩;refine eW ?_;refine⟨t,2,ns,rfl,T5,by decide,by decide,fun z C6 z0 z1 T6 e6=>?_⟩;refine qX (mX _ _) ?_;have ak:=O.trans e6;refine tK (ak _ _ ab Y) ?_;refine⟨ie 4 rfl,?_⟩;refine sS (ak _ _ ai a9) (by rw[AB];exact AR (show hs.length < 3 by lia) (by decide)) ?_
   refine bj _ _ ⟨by rw[yQ (Ne.symm bf)];exact ak _ _ a3 bw,hs++[⟨av,1+rk,decide (z=0),cs⟩],_,_,_,_,_,rfl,by rw[jQ,AS];rfl,by rw[AJ,Aa,hl],bq,fun h' ag=>?_,T6.put ai _,(N.trans ak).put hh _⟩
   rcases Ae.1 ag with ag | ag
   .exact ho h' ag
   .cases AF.1 ag;exact⟨by show cs.length<=4;lia,af,bp,by show 0<=1+rk;lia,by show 1+rk<=9;lia⟩
  .rintro J C3 ⟨m3,hs,x4,x5,D,F,G,rfl,Z,hl,hi,ho,T3,e3⟩
   exact hL _ _ ⟨hs,_,_,_,_,_,rfl,Z,by lia,ho,T3,e3⟩
  .rw [yQ bf];exact ay
 rintro aj C' ⟨hs,x4,x5,D,F,G,rfl,Z,hl,ho,T',e'⟩;refine tK Z ?_;exact q hs C' ho (by lia) T' e'
end
inductive Ln where
 |plain (k:Option Rk) (tag:Str) (sets:List (Str×Rk)) (hands:List Hd) (ls:List Ln)
 |part (k:Option Rk) (name:Str) (gives:List (Str×Rk))
 |give (k:Option Rk) (name:Str) (r:Rk) (ls:List Ln)
 |when (r:Rk) (l1 l2:List Ln)
 |each (name:Str) (r:Rk) (ls:List Ln)
mutual
def Ln.pv:Ln->PV
 |.plain k F s h j=>.tup [.str "plain",xF k,.str F,.tup (s.map xU),.tup (h.map Hd.pv),.tup (Ln.ig j)]
 |.part k n g=>.tup [.str "part",xF k,.str n,.tup (g.map xU)]
 |.give k n r j=>.tup [.str "give",xF k,.str n,r.pv,.tup (Ln.ig j)]
 |.when r q D=>.tup [.str "when",r.pv,.tup (Ln.ig q),.tup (Ln.ig D)]
 |.each n r j=>.tup [.str "each",.str n,r.pv,.tup (Ln.ig j)]
def Ln.ig:List Ln->List PV
 |[]=>[]
 |l::j=>l.pv::Ln.ig j
end
theorem Ln.jf g:Ln.ig g=g.map Ln.pv:=by
 induction g with
 |nil=>rfl
 |cons l g j=>rw[A5,<- j];rfl
mutual
def Ln.tw:Ln->Nat
 |.plain _ _ _ _ g=>1+Ln.il g
 |.part _ _ _=>1
 |.give _ _ _ g=>1+Ln.il g
 |.when _ j q=>Ln.il j+Ln.il q
 |.each _ _ g=>8 * Ln.il g
def Ln.il:List Ln->Nat
 |[]=>0
 |l::g=>l.tw+Ln.il g
end
mutual
def Ln.pw:Ln->Nat
 |.plain _ _ _ _ g=>Ln.iy g
 |.part _ _ _=>1
 |.give _ _ _ g=>Ln.iy g
 |.when _ j q=>Ln.iy j+Ln.iy q
 |.each _ _ g=>8 * Ln.iy g
def Ln.iy:List Ln->Nat
 |[]=>0
 |l::g=>l.pw+Ln.iy g
end
def Ln.ph xs ys:Ln.il (xs++ys)=Ln.il xs+Ln.il ys:=by
 induction xs with
 |nil=>show _=0+_;rw[BP];rfl
 |cons x xs g=>show x.tw+Ln.il (xs++ys)=x.tw+Ln.il xs+Ln.il ys;lia
def Ln.km xs ys:Ln.iy (xs++ys)=Ln.iy xs+Ln.iy ys:=by
 induction xs with
 |nil=>show _=0+_;rw[BP];rfl
 |cons x xs g=>show x.pw+Ln.iy (xs++ys)=x.pw+Ln.iy xs+Ln.iy ys;lia
def gw(bs rs:List Str):Nat->List Str->Ln->Prop
 |0,_,_=>False
 |d+1,τ,.plain k F s h j=>gT bs τ k/\(kN bs τ 2 s/\s.length<=4)/\((∀x∈h,x.ok bs τ)/\h.length<=4)/\(∀x∈j,gw bs rs d τ x)/\j.length<=6/\F.length<=8
 |_+1,τ,.part k n g=>gT bs τ k/\n∈rs/\kN bs τ 1 g/\g.length<=4
 |d+1,τ,.give k n r j=>gT bs τ k/\n∈(["a","ab","b"]:List Str)/\r.ok bs τ 1/\(∀x∈j,gw bs rs d τ x)/\j.length<=6
 |d+1,τ,.when r q D=>r.ok bs τ 1/\((∀x∈q,gw bs rs d τ x)/\q.length<=6)/\(∀x∈D,gw bs rs d τ x)/\D.length<=6
 |d+1,_,.each n r j=>r.ok bs [] 0/\(∀x∈j,gw bs rs d [n] x)/\j.length<=6
def gw.up: ∀{d}{τ}{l},gw bs rs d τ l->gw bs rs (d+1) τ l:=by
 intro d
 induction d with
 |zero=>intro τ l h;exact h.elim
 |succ d G =>
  intro τ l h
  cases l with
  |plain k t s J I=>exact rT h fun h1 h2 q D F=>⟨h1,h2,q,fun x j=>G (D x j),F⟩
  |part k n g=>exact h
  |give k n r I=>exact rT h fun h1 h2 q D F=>⟨h1,h2,q,fun x j=>G (D x j),F⟩
  |when r M N=>obtain⟨h1,⟨h2,q⟩,D,F⟩:=h;exact⟨h1,⟨fun x j=>G (h2 x j),q⟩,fun x j=>G (D x j),F⟩
  |each n r I=>exact XB h fun h1 h2 q=>⟨h1,fun x j=>G (h2 x j),q⟩
def gw.mono(h:gw bs rs d τ l)(j:d<=e):gw bs rs e τ l:=by
 induction j with
 |refl=>exact h
 |step _ g=>exact g.up
structure my(κ κ':Kt):Prop where
 b:κ'.b=κ.b
 r:κ'.r=κ.r
 bs:κ'.bs=κ.bs
 rs:κ'.rs=κ.rs
 la:κ'.la=κ.la
 l0:0<=κ'.l
 l1:κ'.l<=κ.l
 p0:0<=κ'.p
 p1:κ'.p<=κ.p
 e0:0<=κ'.e
 e1:κ'.e<=κ.e
structure Fq(κ:Kt)(e:Nat)(τ:List Str):Prop where
 l0:0<=κ.l
 l1:κ.l<=6
 p0:0<=κ.p
 p1:κ.p<=2
 e0:0<=κ.e
 e1:κ.e<=(e:Nat)
 t:0 < e->τ=[]
 ly:0 < κ.e->∀s,κ.la=some s->s∈κ.rs
 tl:τ.length<=4
def my.refl(h:Fq κ e τ):my κ κ:=⟨rfl,rfl,rfl,rfl,rfl,h.l0,BB _,h.p0,BB _,h.e0,BB _⟩
theorem my.trans(h:my κ j)(g:my j q):my κ q:=⟨g.b.trans h.b,g.r.trans h.r,g.bs.trans h.bs,g.rs.trans h.rs,g.la.trans h.la,g.l0,Cg g.l1 h.l1,g.p0,Cg g.p1 h.p1,g.e0,Cg g.e1 h.e1⟩
def Fq.chg(h:Fq κ e τ)(g:my κ j):Fq j e τ:=⟨g.l0,Cg g.l1 h.l1,g.p0,Cg g.p1 h.p1,g.e0,Cg g.e1 h.e1,h.t,fun z s hs=>g.rs▸h.ly (Int.lt_of_lt_of_le z g.e1) s (by rwa [<- g.la]),h.tl⟩
noncomputable def qi(κ:Kt):Int:=if κ.la.isSome then 16 else 0
def ul(g:my κ j):qi j=qi κ :=by simp_all[qi,g.la]
noncomputable def OJ(e:Nat):Int:=if e=0 then 1 else 8
noncomputable def nY(e d:Nat):Nat:=if e=0 then d+1 else d+3
structure lw(e:Nat)(τ:List Str)(κ κ':Kt)(extra:Int)(tw pw:Nat):Prop where
 t:(tw:Int)<=OJ e * (extra+(κ.l - κ'.l))
 p:(pw:Int)<=(κ.p - κ'.p)+qi κ * (κ.e - κ'.e)
 n:τ≠[]->pw=0/\κ'.p=κ.p
theorem f9.j6(h:Ex t C C'):f9 [t,k] C C':=fun b o n e=>h b o (fun z=>n (z▸AE)) e
section
variable {W:Wd}{a:Adr}
inductive yE(ts:List PV)(C:CH)(Q:K1):Prop
 |mk(t k:Addr)(τ:List Str)(ns:List Int)(κ:Kt)(name:Str)(z0:ts=[.ref t,.ref k,.tup (τ.map PV.str),.str name])(z1:Tp C t ns)(z2:j4 C t k κ)(z3:τ.length<=4)(z4:∀(o:Option Rk)(g:List (Str×Rk))(C':CH),gT κ.bs τ o->kN κ.bs τ 1 g->g.length<=4->Tp C' t ns->Ex t C C'->Q (Ln.part o name g).pv C')
def VO v(h0:0<=v)(h1:v < 4):iF [PV.str "a",PV.str "ab",PV.str "b"] none (some v)=((["a","ab","b"]:List Str).take v.toNat).map PV.str:=by
 have:v=0\/v=1\/v=2\/v=3:=by lia
 rcases this with rfl | rfl | rfl | rfl<;>rfl
def Oe(h:C b=some (.lst xs))(q:Q .non (gQ C b (.lst xs.reverse))):eL (.ref b) [] C Q:=by
 delta eL
 dsimp only
 rwa [h]
def kL(T:Tx W a):Ok W a 6 35 U13 yE:=by
 have S:=(T.F 35 rfl).s;have bQ:=(nZ T).mono (show 1<=5 by decide);have zP:=(Zw T).mono (show 4<=5 by decide);have zV:=qR T 1
 refine(T.F 35 rfl).o (fun g=>(xQ (fu 4 S.nd (cf (T.F 31 rfl) zP g (qQ (cv 0) (qQ (cv 1) (dw (cv 2))))))
  (xQ (fu 5 S.nd (xD (gX (qQ vQ (qQ vQ (dw vQ)))) nV (rV (cf (T.F 26 rfl) bQ g (qQ (cv 0) (dw zQ))))))
  (xQ (nQ (ct2 wX sQ (cf (T.F 26 rfl) bQ g (qQ (cv 0) (dw zQ))) zQ) (kQ (uZ (Jd A9 PySem.F.slot_list_reverse PySem.F.type_list_reverse ZA XO (cv 5)))) lQ)
  (kQ (wQ (cQ (qQ vQ (qQ (cv 4) (qQ (cv 3) (dw (o8 T.sX (eB rfl (S.c (by decide +kernel)) (S.k rfl rfl rfl (by decide +kernel)) (cv 5) (fun _ _ _ _ _=>xK) (fun _ _ _ _ _=>(cQ (qQ (cv 0) (dw (cf (T.F 30 rfl) zV g (qQ (cv 1) (qQ (cv 2) (qQ (cv 3) (dw zQ)))))))))))))))))))))) ?_
 rintro ts C R ⟨t,k,τ,ns,κ,name,rfl,hT,hk,aj,q⟩;refine uQ ⟨t,k,τ,ns,κ,rfl,hT,hk,aj,fun o C1 ho Z e1=>uQ ⟨by decide,fun p1 U=>?_⟩⟩;refine⟨t,4,ns,rfl,Z.new U _,by decide,by decide,fun v C2 ar au T2 e2=>?_⟩;have ab:Ex t C C2:=fun b o n e=>e2 b o n (Gr.new U _ _ _ (e1 b o n e));refine Ze (e2 p1 _ (Z.ne U) jQ) fun p2 Y=>?_;rw[VO v ar au];have N:=T2.ne Y;have af:=ab.none N Y
 generalize ai:(["a","ab","b"]:List Str).take v.toNat=ss;have ah:∀s∈ss,s.length<=8:=fun s hs=>(by decide +kernel:∀s∈(["a","ab","b"]:List Str),s.length<=8) s (B3 (ai▸hs));have av:ss.length<=3 :=ai▸A1▸Nat.min_le_right _ _;refine tQ (fun ak C'=>∃D:List Str,(D.length=ss.length/\∀s∈D,s.length<=8)/\ak=[some (.ref t),some (.ref k),some (.tup (τ.map PV.str)),some (.str name),some (xF o),some (.ref p2)]/\C' p2=some (.lst (D.map PV.str))/\Tp C' t ns/\Ex t C C') (fun L J=>?_) ?_
 .refine ⟨t,2,ns,rfl,T2.new Y _,by decide,by decide,fun z C3 z0 z1 F G=>?_⟩
  have j:=G p2 _ N jQ;have ae:=(ab.put af _).trans G;refine qX (mX _ _) (vZ (fun M=>?_) fun M=>?_)
  .exact ⟨tW j,Oe j (J _ _ ⟨ss.reverse,⟨Bk,fun s hs=>ah s (List.mem_reverse.1 hs)⟩,rfl,by rw[jQ,List.map_reverse],F.put N _,ae.put af _⟩)⟩
  .exact zX (J _ _ ⟨ss,⟨rfl,ah⟩,rfl,j,F,ae⟩)
 rintro ak C3 ⟨D,⟨aw,aq⟩,rfl,j,F,G⟩;refine Ds j rfl (fU xU (fun r=>r.ok κ.bs τ 1) (fun C'=>Tp C' t ns/\Ex t C C'/\C' p2=some (.lst (D.map PV.str))) (fun _ h=>h.2.2) (by lia) (fun z C4 L ⟨O,I,m4⟩ J=>?_) (fun bs C4 p3 ⟨O,I,m4⟩ ag M ao=>?_) ⟨F,G,j⟩)
 .refine ⟨t,k,τ,ns,κ,rfl,O,hk.ex I,aj,fun r C5 g T5 e5=>⟨ie 2 rfl,J r C5 g ⟨T5,I.trans e5,e5 _ _ N m4⟩⟩⟩
 .refine tK jQ ⟨ie 4 rfl,?_⟩
  exact q o bs _ ho (fun c hc=>⟨ao c hc,aq c.1 (M▸AM.2 ⟨c,hc,rfl⟩)⟩) (by have:=Bz List.length M;rw[AB] at this;lia) (O.new ag _) (I.trans (Ex.new ag _))
end
def gN e:OJ e=1\/OJ e=8 :=by grind[OJ]
def lw.one(h:lw e τ κ q 0 j g):lw e τ κ q 1 (1+j) g:=by
 refine⟨?_,h.p,h.n⟩;have:=h.t
 rcases gN e with z | z<;>rw[z] at this ⊢ <;> lia
def lw.up(h:lw e τ κ q 0 j g):lw e τ κ q 1 j g:=by
 refine⟨?_,h.p,h.n⟩;have:=h.t
 rcases gN e with z | z<;>rw[z] at this ⊢ <;> lia
def lw.add(h:lw e τ κ j x G F)(g:lw e τ j J y I p2)(c:my κ j):lw e τ κ J (x+y) (G+I) (F+p2):=by
 refine⟨?_,?_,fun z=>?_⟩
 .have h1:=h.t
  have h2:=g.t
  rcases gN e with z | z<;>rw[z] at h1 h2 ⊢ <;> lia
 .have h1:=h.p
  have h2:=g.p;rw[ul c] at h2
  lia
 .obtain ⟨M,q⟩:=h.n z
  obtain⟨N,D⟩:=g.n z;exact⟨by lia,D.trans q⟩
theorem lw.nil: lw e τ κ κ 0 0 0:=by
 refine⟨?_,?_,fun _=>⟨rfl,rfl⟩⟩
 .lia
 .lia
theorem j4.put(h:j4 C t k κ)l p e la:j4 (gQ C k (.dK (gZ κ.b κ.r l p e (oU la)))) t k { κ with l:=l,p:=p,e:=e,la:=la }:=by
 have g:κ.b≠k:=fun z=>by have:=h.bx;rw[z,h.at_] at this;cases this
 have j:κ.r≠k:=fun z=>by have:=h.rx;rw[z,h.at_] at this;cases this
 exact⟨jQ,by rw[yQ g];exact h.bx,by exact(yQ j)▸h.rx,h.nk,h.nb,h.nr,h.lb,h.lr⟩
inductive cB(e d:Nat)(ts:List PV)(C:CH)(Q:K1):Prop
 |mk(t k:Addr)(τ:List Str)(ns:List Int)(κ:Kt)(z0:ts=[.ref t,.ref k,.tup (τ.map PV.str),.int (d:Nat)])(z1:Tp C t ns)(z2:j4 C t k κ)(z3:Fq κ e τ)(z4:∀(ls:List Ln)(κ':Kt)(C':CH),(∀x∈ls,gw κ.bs κ.rs (nY e d) τ x)->ls.length<=6->lw e τ κ κ' 0 (Ln.il ls) (Ln.iy ls)->my κ κ'->Tp C' t ns->j4 C' t k κ'->f9 [t,k] C C'->Q (.tup (Ln.ig ls)) C')
inductive nH(e d:Nat)(ts:List PV)(C:CH)(Q:K1):Prop
 |mk(t k:Addr)(τ:List Str)(ns:List Int)(κ:Kt)(z0:ts=[.ref t,.ref k,.tup (τ.map PV.str),.int (d:Nat)])(z1:Tp C t ns)(z2:j4 C t k κ)(z3:Fq κ e τ)(z4:∀(l:Ln)(κ':Kt)(C':CH),gw κ.bs κ.rs (nY e d) τ l->lw e τ κ κ' 1 l.tw l.pw->my κ κ'->Tp C' t ns->j4 C' t k κ'->f9 [t,k] C C'->Q l.pv C')
inductive dR(e d:Nat)(ts:List PV)(C:CH)(Q:K1):Prop
 |mk d'(z0:d=d'+1)(z1:cB e d' ts C Q)
def iR e d:nY e (d+1)=nY e d+1:=by delta nY;split<;>rfl
def dE e d:∃n,nY e d=n+1:=by delta nY;split;exact⟨_,rfl⟩;exact⟨d+2,rfl⟩
section
variable {W:Wd}{a:Adr}
def QX(T:Tx W a)e d r(h7:7<=r)(xW:Ok W a r 38 U0 (dR e d)):
  Ok W a (r+1) 34 U0 (nH e d):=by
 have S:=(T.F 34 rfl).s;have bQ:=(nZ T).mono (show 1<=r by lia);have nJ:=(uB T).mono (show 2<=r by lia);have zP:=(Zw T).mono (show 4<=r by lia);have V9:=(Ym T).mono (show 7<=r by lia);have Wb:=(Yr T).mono (show 6<=r by lia)
 refine(T.F 34 rfl).o (fun D=>(xQ (fu 4 S.nd (cf (T.F 31 rfl) zP D (qQ (cv 0) (qQ (cv 1) (dw (cv 2))))))
  (xQ (fu 5 S.nd (cx (cf (T.F 27 rfl) nJ D (qQ (cv 0) (dw zQ))) zQ))
  (xQ (fu 6 S.nd (cf (T.F 32 rfl) V9 D (qQ (cv 0) (qQ (cv 1) (qQ (cv 2) (dw zQ))))))
  (xQ (fu 7 S.nd (cf (T.F 33 rfl) Wb D (qQ (cv 0) (qQ (cv 1) (dw (cv 2))))))
  (xQ (fu 8 S.nd (cQ bZ))
  (xQ (nQ (gm (iu (ct2 gV uJ (cv 3) zQ) (gn (ct2 wX sQ (cf (T.F 26 rfl) bQ D (qQ (cv 0) (dw zQ))) zQ)))) (kQ (fu 8 S.nd (cf (T.F 38 rfl) xW D (qQ (cv 0) (qQ (cv 1) (qQ (cv 2) (dw (xX rK vJ (cv 3) zQ)))))))) lQ)
  (kQ (wQ (cQ (qQ vQ (qQ (cv 4) (qQ (cv 5) (qQ (cv 6) (qQ (cv 7) (dw (cv 8))))))))))))))))) ?_
 rintro ts C R ⟨t,k,τ,ns,κ,rfl,hT,N,F,q⟩;refine uQ ⟨t,k,τ,ns,κ,rfl,hT,N,F.tl,fun o C1 ho T1 O=>uQ ⟨t,1,ns,rfl,T1,by decide,by decide,fun p ss C2 m2 _ av hl ar T2 U=>?_⟩⟩
 obtain⟨G,rfl⟩:∃G,ss=[G]:=by
  match ss,hl with
  |[x],_=>exact⟨x,rfl⟩
 refine sZ m2 jX (uQ ⟨t,k,τ,ns,κ,rfl,T2,(N.ex O).ex U,F.tl,fun ps C3 ao ak T3 e3=>uQ ⟨t,k,τ,ns,κ,rfl,T3,((N.ex O).ex U).ex e3,F.tl,fun hs C4 ah ag T4 e4=>uQ ⟨by decide,?_⟩⟩⟩);have J:=((O.trans U).trans e3).trans e4;have k4:=N.ex J
 have ae:∀g j C',(∀x∈g,∃d',d=d'+1/\gw κ.bs κ.rs (nY e d') τ x)->g.length<=6->lw e τ κ j 0 (Ln.il g) (Ln.iy g)->my κ j->Tp C' t ns->j4 C' t k j->f9 [t,k] C C' ->
   R (.tup [.str "plain",xF o,.str G,.tup (ps.map xU),.tup (hs.map Hd.pv),.tup (Ln.ig g)]) C':=by
  intro g j C' aj ai aq hc T' k' x';refine q (.plain o G ps hs g) j C' ?_ aq.one hc T' k' x';obtain⟨n,en⟩:=dE e d;rw[en];refine⟨ho,⟨ao,ak⟩,⟨ah,ag⟩,fun x hx=>?_,ai,Oz (ar.2 G AE)⟩;obtain⟨d',rfl,au⟩:=aj x hx;rw[iR] at en;have:n=nY e d':=by lia
  rwa [this]
 refine tQ (fun ab C'=>∃g j,ab=[some (.ref t),some (.ref k),some (.tup (τ.map PV.str)),some (.int (d:Nat)),some (xF o),some (.str G),some (.tup (ps.map xU)),some (.tup (hs.map Hd.pv)),some (.tup (Ln.ig g))]/\(∀x∈g,∃d',d=d'+1/\gw κ.bs κ.rs (nY e d') τ x)/\g.length<=6/\lw e τ κ j 0 (Ln.il g) (Ln.iy g)/\my κ j/\Tp C' t ns/\j4 C' t k j/\f9 [t,k] C C') (fun L hL=>?_) ?_
 .refine jg (vZ (fun hb=>?_) fun hb=>?_)
  .have hb:=AZ hb
   refine⟨t,2,ns,rfl,T4,by decide,by decide,fun z C5 z0 z1 I M=>?_⟩;refine qX (mX _ _) (vZ (fun af=>?_) fun af=>?_)
   .apply jg
    obtain⟨d',rfl⟩:∃d',d=d'+1:=⟨d - 1,by lia⟩;refine⟨d',rfl,t,k,τ,ns,κ,?_,I,k4.ex M,F,fun g j C6 h1 h2 Y Z T6 k6 x6=>?_⟩
    .have:((d'+1:Nat):Int) - 1=(d':Nat):=by lia
     rw[this]
    .exact hL _ _ ⟨g,j,rfl,fun x hx=>⟨d',rfl,h1 x hx⟩,h2,Y,Z,T6,k6,(f9.j6 (J.trans M)).trans x6⟩
   .exact zX (hL _ _ ⟨[],κ,rfl,(fun _ z=>nomatch z),AX _,lw.nil,my.refl F,I,k4.ex M,f9.j6 (J.trans M)⟩)
  .exact yG rfl (zX (hL _ _ ⟨[],κ,rfl,(fun _ z=>nomatch z),AX _,lw.nil,my.refl F,T4,k4,f9.j6 J⟩))
 rintro ab C5 ⟨g,j,rfl,h1,h2,Y,Z,I,k5,x5⟩;refine⟨ie 6 rfl,?_⟩;exact ae g j C5 h1 h2 Y Z I k5 x5
end
inductive Kk(e:Nat)(ts:List PV)(C:CH)(Q:K1):Prop
 |mk(t k:Addr)(d:Nat)(ns:List Int)(κ:Kt)(z0:ts=[.ref t,.ref k,.int (d:Nat)])(z1:Tp C t ns)(z2:j4 C t k κ)(z3:Fq κ e [])(z4:0 < κ.e)(z5:∀(l:Ln)(κ':Kt)(C':CH),gw κ.bs κ.rs 3 [] l->lw e [] κ κ' 1 l.tw l.pw->my κ κ'->Tp C' t ns->j4 C' t k κ'->f9 [t,k] C C'->Q l.pv C')
section
variable {W:Wd}{a:Adr}
def wy(T:Tx W a)(e d r:Nat)(av:0 < e)(h7:7<=r)(xW:Ok W a r 38 U0 (dR e d))(yH:Ok W a r 34 U0 (nH e d))(Uc:Ok W a r 36 U4 (Kk e)):
  Ok W a (r+1) 37 U0 (nH e d):=by
 have S:=(T.F 37 rfl).s;have bQ:=(nZ T).mono (show 1<=r by lia);have zP:=(Zw T).mono (show 4<=r by lia);have zV:=(qR T 1).mono (show 5<=r by lia);have gG:=(kL T).mono (show 6<=r by lia)
 refine(T.F 37 rfl).o (fun j=>(xQ (fu 4 S.nd (cf (T.F 26 rfl) bQ j (qQ (cv 0) (dw zQ))))
  (xQ (nQ (gm (iu (ct2 yB sY (cv 4) zQ) (iu (ct2 gV uJ (zJ (xZ j) (cv 1) vQ (fun _ _=>rfl)) zQ) (gn (ct2 gV uJ (j9 T.lZ (zJ (xZ j) (cv 1) vQ (fun _ _=>rfl))) zQ))))) (xQ (lV (xZ j) (cv 1) vQ (xX rK vJ (zJ (xZ j) (cv 1) vQ (fun _ _=>rfl)) zQ))
  (kQ (wQ (cf (T.F 35 rfl) gG j (qQ (cv 0) (qQ (cv 1) (qQ (cv 2) (dw (cx (zJ (xZ j) (cv 1) vQ (fun _ _=>rfl)) (cf (T.F 26 rfl) bQ j (qQ (cv 0) (dw (j9 T.lZ (zJ (xZ j) (cv 1) vQ (fun _ _=>rfl))))))))))))))) lQ)
  (xQ (nQ (gm (iu (ct2 wX sQ (cv 4) zQ) (gn (ct2 gV uJ (cv 3) zQ)))) (xQ (fu 5 S.nd (cx (gX (qQ vQ (qQ vQ (dw vQ)))) (cf (T.F 26 rfl) bQ j (qQ (cv 0) (dw zQ)))))
  (xQ (fu 6 S.nd (cf (T.F 31 rfl) zP j (qQ (cv 0) (qQ (cv 1) (dw (cv 2))))))
  (kQ (wQ (cQ (qQ vQ (qQ (cv 6) (qQ (cv 5) (qQ (cf (T.F 30 rfl) zV j (qQ (cv 0) (qQ (cv 1) (qQ (cv 2) (dw zQ))))) (dw (cf (T.F 38 rfl) xW j (qQ (cv 0) (qQ (cv 1) (qQ (cv 2) (dw (xX rK vJ (cv 3) zQ)))))))))))))))) lQ)
  (xQ (nQ (gm (iu (ct2 wX sQ (cv 4) zQ) (gn (ct2 gV uJ (cv 3) zQ)))) (xQ (fu 7 S.nd (cf (T.F 30 rfl) zV j (qQ (cv 0) (qQ (cv 1) (qQ (cv 2) (dw zQ))))))
  (xQ (fu 8 S.nd (cf (T.F 38 rfl) xW j (qQ (cv 0) (qQ (cv 1) (qQ (cv 2) (dw (xX rK vJ (cv 3) zQ)))))))
  (kQ (wQ (cQ (qQ vQ (qQ (cv 7) (qQ (cv 8) (dw (cf (T.F 38 rfl) xW j (qQ (cv 0) (qQ (cv 1) (qQ (cv 2) (dw (xX rK vJ (cv 3) zQ))))))))))))))) lQ)
  (xQ (nQ (gm (iu (ct2 gV uJ (cv 4) zQ) (gn (ct2 gV uJ (zJ (xZ j) (cv 1) vQ (fun _ _=>rfl)) zQ)))) (kQ (wQ (cf (T.F 36 rfl) Uc j (qQ (cv 0) (qQ (cv 1) (dw (cv 3))))))) lQ)
  (kQ (wQ (cf (T.F 34 rfl) yH j (qQ (cv 0) (qQ (cv 1) (qQ (cv 2) (dw (cv 3)))))))))))))) ?_
 rintro ts C R ⟨t,k,τ,ns,κ,rfl,hT,hk,F,q⟩;have ak:=F.t av;refine uQ ?_;refine⟨t,9,ns,rfl,hT,by decide,by decide,fun v C1 ay az T1 e1=>?_⟩;have I:=hk.ex e1;obtain⟨dn,ag⟩:=dE e d
 have aj:∀(M:List Ln),(∀x∈M,∃d',d=d'+1/\gw κ.bs κ.rs (nY e d') τ x)->∀x∈M,gw κ.bs κ.rs dn τ x:=by
  intro M h x hx;obtain⟨d',rfl,h'⟩:=h x hx;rw[iR] at ag;have:dn=nY e d':=by lia
  rw[this];exact h'
 refine tQ (fun J C'=>C'=C1/\J=[some (.ref t),some (.ref k),some (.tup (τ.map PV.str)),some (.int (d:Nat)),some (.int v),none,none,none,none]) (fun L G=>?_) ?_
 .refine jg ?_
  refine vZ (fun hb=>?_) fun hb=>?_
  .refine bV I.at_ rfl yO ?_
   refine jg ?_;refine vZ (fun D=>?_) fun D=>?_
   .refine bV I.at_ rfl zC ?_
    refine sW I.rx ?_;refine jg ?_;refine vZ (fun ae=>?_) fun ae=>?_
    .have D:=AZ D
     rw[AB] at ae;have ae:=AZ ae;refine dZ ?_;refine bV I.at_ rfl yO ?_;refine jg ?_;refine wG I.at_ rfl (by show 6<=1000;decide) ?_;rw[K8];have k2:=I.put κ.l (κ.p - 1) κ.e κ.la;have T2:=T1.put I.nk (.dK (gZ κ.b κ.r κ.l (κ.p - 1) κ.e (oU κ.la)));refine bV k2.at_ rfl zC ?_;refine bV k2.at_ rfl zC ?_;refine sW k2.rx ?_;have lr:=hk.lr;have el:(κ.rs.map PV.str).length=κ.rs.length:=AB _
     refine⟨t,_,ns,rfl,T2,by rw[el];exact ae,by show(((κ.rs.map PV.str).length:Nat):Int) < _;rw[el];lia,fun i C3 i0 O T3 e3=>?_⟩;have O:i < (((κ.rs.map PV.str).length:Nat):Int):=O;rw[el] at O;have k3:=k2.ex e3;refine sZ k3.rx (oV (f:=PV.str) "" i0 O) ?_;refine⟨t,k,τ,ns,{ κ with p:=κ.p - 1 },_,rfl,T3,k3,F.tl,fun o g C4 ho hg aw T4 N=>?_⟩;have p0:=F.p0;refine q _ { κ with p:=κ.p - 1 } C4 ?_ ?_ ?_ T4 (k3.ex N) ?_
     .rw [ag];exact⟨ho,fW i0 O,hg,aw⟩
     .refine ⟨?_,?_,fun z=>absurd ak z⟩
      .show ((1:Nat):Int)<=OJ e * (1+(κ.l - κ.l))
       rcases gN e with z | z<;>rw[z]<;>lia
      .show ((1:Nat):Int)<=(κ.p - (κ.p - 1))+qi κ * (κ.e - κ.e)
       rw[Int.sub_self κ.e,Int.mul_zero];lia
     .exact ⟨rfl,rfl,rfl,rfl,rfl,F.l0,BB _,by show 0<=κ.p - 1;lia,by show κ.p - 1<=κ.p;lia,F.e0,BB _⟩
     .exact (((f9.j6 e1).at (by simp) _).trans (f9.j6 e3)).trans (f9.j6 N)
    .refine zX ?_
     exact G _ _ ⟨rfl,rfl⟩
   .refine yG rfl ?_
    refine zX ?_;exact G _ _ ⟨rfl,rfl⟩
  .refine yG rfl ?_
   refine zX ?_;exact G _ _ ⟨rfl,rfl⟩
 rintro J C' ⟨rfl,rfl⟩;refine tQ (fun J ah=>ah=C'/\J=[some (.ref t),some (.ref k),some (.tup (τ.map PV.str)),some (.int (d:Nat)),some (.int v),none,none,none,none]) (fun L G=>?_) ?_
 .refine qX (mX _ _) ?_
  refine vZ (fun hb=>?_) fun hb=>?_
  .refine jg ?_
   refine vZ (fun D=>?_) fun D=>?_
   .have D:=AZ D
    obtain⟨d',rfl⟩:∃d',d=d'+1:=⟨d - 1,by lia⟩;refine uQ ?_;refine⟨ie 3 rfl,fun p hp=>?_⟩;refine⟨t,3,ns,rfl,T1.new hp _,by decide,by decide,fun i C2 i0 O T2 e2=>?_⟩;refine sZ (e2 p _ (T1.ne hp) jQ) (oV (f:=PV.str) (ss:=["a","ab","b"]) "" i0 O) ?_;have af:Ex t C C2:=fun b o n z=>e2 b o n (Gr.new hp _ _ _ (e1 b o n z));refine uQ ?_;refine⟨t,k,τ,ns,κ,rfl,T2,hk.ex af,F.tl,fun o C3 ho T3 e3=>?_⟩
    refine⟨t,k,τ,ns,κ,rfl,T3,(hk.ex af).ex e3,F.tl,fun rk C4 ai T4 N=>?_⟩;refine jg ?_;refine⟨d',rfl,t,k,τ,ns,κ,?_,T4,((hk.ex af).ex e3).ex N,F,fun M ab C5 h1 h2 Y Z U k5 x5=>⟨ie 5 rfl,?_⟩⟩
    .have:((d'+1:Nat):Int) - 1=(d':Nat):=by lia
     rw[this]
    refine q (.give o _ rk M) ab C5 ?_ Y.one Z U k5 ((f9.j6 ((af.trans e3).trans N)).trans x5);rw[ag];exact⟨ho,fW (ss:=["a","ab","b"]) i0 O,ai,aj M fun x hx=>⟨d',rfl,h1 x hx⟩,h2⟩
   .refine zX ?_
    exact G _ _ ⟨rfl,rfl⟩
  .refine yG rfl ?_
   refine zX ?_;exact G _ _ ⟨rfl,rfl⟩
 rintro J ah ⟨rfl,rfl⟩;refine tQ (fun J C'=>C'=ah/\J=[some (.ref t),some (.ref k),some (.tup (τ.map PV.str)),some (.int (d:Nat)),some (.int v),none,none,none,none]) (fun L G=>?_) ?_
 .refine qX (mX _ _) ?_
  refine vZ (fun hb=>?_) fun hb=>?_
  .refine jg ?_
   refine vZ (fun D=>?_) fun D=>?_
   .have D:=AZ D
    obtain⟨d',rfl⟩:∃d',d=d'+1:=⟨d - 1,by lia⟩;have ed:((d'+1:Nat):Int) - 1=(d':Nat):=by lia
    refine uQ ?_;refine⟨t,k,τ,ns,κ,rfl,T1,I,F.tl,fun rk C4 ai T4 N=>?_⟩;refine uQ ?_;refine jg ?_;refine⟨d',rfl,t,k,τ,ns,κ,by rw[ed],T4,I.ex N,F,fun M ab C5 h1 h2 Y Z U k5 x5=>?_⟩;refine jg ?_;refine⟨d',rfl,t,k,τ,ns,ab,by rw[ed],U,k5,F.chg Z,fun ao ax C6 aq ar au g4 T6 k6 x6=>⟨ie 4 rfl,?_⟩⟩;refine q (.when rk M ao) ax C6 ?_ (lw.up (Y.add au Z)) (Z.trans g4) T6 k6 (((f9.j6 (e1.trans N)).trans x5).trans x6)
    rw[ag];refine⟨ai,⟨aj M fun x hx=>⟨d',rfl,h1 x hx⟩,h2⟩,aj ao fun x hx=>⟨d',rfl,?_⟩,ar⟩;have:=aq x hx;rw[Z.bs,Z.rs] at this;exact this
   .refine zX ?_
    exact G _ _ ⟨rfl,rfl⟩
  .refine yG rfl ?_
   refine zX ?_;exact G _ _ ⟨rfl,rfl⟩
 rintro J C2 ⟨rfl,rfl⟩;refine tQ (fun J C'=>C'=C2/\J=[some (.ref t),some (.ref k),some (.tup (τ.map PV.str)),some (.int (d:Nat)),some (.int v),none,none,none,none]) (fun L G=>?_) ?_
 .refine jg ?_
  refine vZ (fun hb=>?_) fun hb=>?_
  .refine bV I.at_ rfl jC ?_
   refine jg ?_;refine vZ (fun D=>?_) fun D=>?_
   .have D:=AZ D
    subst ak;refine⟨t,k,d,ns,κ,rfl,T1,I,F,D,fun l ab C5 h1 h2 Y U k5 x5=>?_⟩;refine q l ab C5 (h1.mono ?_) h2 Y U k5 ((f9.j6 e1).trans x5);have:=F.e1
    delta nY
    rw[Af (by lia)]
    lia
   .refine zX ?_
    exact G _ _ ⟨rfl,rfl⟩
  .refine yG rfl ?_
   refine zX ?_;exact G _ _ ⟨rfl,rfl⟩
 rintro J C3 ⟨rfl,rfl⟩;exact⟨t,k,τ,ns,κ,rfl,T1,I,F,fun l ab C5 h1 h2 Y U k5 x5=>q l ab C5 h1 h2 Y U k5 ((f9.j6 e1).trans x5)⟩
end
def Ln.ou xs ys:Ln.ig (xs++ys)=Ln.ig xs++Ln.ig ys :=by grind[Ln.jf,List.map_append]
def Ln.oh xs:(Ln.ig xs).length=xs.length:=by rw[Ln.jf,AB]
def lw.pay(h:lw e τ { κ with l:=κ.l - 1 } g 1 D q):lw e τ κ g 0 D q:=by
 refine⟨?_,h.p,h.n⟩;have:=h.t;have j:1+(κ.l - 1 - g.l)=0+(κ.l - g.l):=by lia
 rwa [j] at this
theorem j4.upd(h:j4 C t k κ)(g:p≠k)(j:p≠κ.b)(q:p≠κ.r)o:j4 (gQ C p o) t k κ :=
 ⟨by rw[yQ (Ne.symm g)];exact h.at_,by rw[yQ (Ne.symm j)];exact h.bx,by exact(yQ (Ne.symm q))▸h.rx,h.nk,h.nb,h.nr,h.lb,h.lr⟩
section
variable {W:Wd}{a:Adr}
def Yo(T:Tx W a)e d r(h1:1<=r)(Ub:Ok W a r 37 U0 (nH e d)):
  Ok W a (r+1) 38 U0 (cB e d):=by
 have S:=(T.F 38 rfl).s;have bQ:=(nZ T).mono (show 1<=r by lia)
 refine(T.F 38 rfl).o (fun Y=>(xQ (fu 4 S.nd (gX bZ))
  (xQ (mL PassesOwn.never rfl rfl T.kW (dw (xX rK vJ (xX pX dX zQ (cf (T.F 26 rfl) bQ Y (qQ (cv 0) (dw zQ)))) (mZ gY iM rfl T.gD rfl (dw (oK yB sY (cv 3) zQ (wV _)))))) (j7 5 S.nd) (kQ (nQ (ct2 gV uJ (zJ (xZ Y) (cv 1) vQ (fun _ _=>rfl)) zQ) (xQ (lV (xZ Y) (cv 1) vQ (xX rK vJ (zJ (xZ Y) (cv 1) vQ (fun _ _=>rfl)) zQ))
  (kQ (uZ (cap (cv 4) (cf (T.F 37 rfl) Ub Y (qQ (cv 0) (qQ (cv 1) (qQ (cv 2) (dw (cv 3)))))))))) lQ)))
  (kQ (wQ (o8 T.sX (cv 4))))))) ?_
 rintro ts C R ⟨t,k,τ,ns,κ,rfl,hT,hk,aj,q⟩;refine uQ ⟨by decide,fun h F=>?_⟩;have ag:=hT.ne F;have af:h≠k:=fun z=>by subst z;rw[hk.at_] at F;cases F
 have nS:h∉[t,k]:=fun z=>by
  rcases Aj.1 z with z | z
  .exact ag z
  .exact af (AF.1 z)
 have ax:h≠κ.b:=fun z=>by rw[z,hk.bx] at F;cases F
 have nr:h≠κ.r:=fun z=>by rw[z,hk.rx] at F;cases F
 have e1:Ex t C (gQ C h (.lst [])):=Ex.new F _;refine tQ (fun ak C'=>∃j J I,ak=[some (.ref t),some (.ref k),some (.tup (τ.map PV.str)),some (.int (d:Nat)),some (.ref h),I]/\C' h=some (.lst (Ln.ig j))/\(∀x∈j,gw κ.bs κ.rs (nY e d) τ x)/\j.length<=3/\lw e τ κ J 0 (Ln.il j) (Ln.iy j)/\my κ J/\Tp C' t ns/\j4 C' t k J/\f9 [t,k] C C') (fun L hL=>?_) ?_
 .refine ⟨t,3,ns,rfl,hT.new F _,by decide,by decide,fun v C2 ay az T2 e2=>?_⟩
  refine eW (jg (kE (jg ?_)));generalize hn:1+v - (if decide ((d:Int) < 2)=true then (1:Int) else 0)=n;have aw:n<=3/\0<=n:=by rw[<- hn];split<;>lia
  refine⟨by lia,by lia,?_⟩;refine wJ (fun zs ρ C'=>∃j J I,ρ=[some (.ref t),some (.ref k),some (.tup (τ.map PV.str)),some (.int (d:Nat)),some (.ref h),I]/\C' h=some (.lst (Ln.ig j))/\(∀x∈j,gw κ.bs κ.rs (nY e d) τ x)/\j.length+zs.length<=3/\lw e τ κ J 0 (Ln.il j) (Ln.iy j)/\my κ J/\Tp C' t ns/\j4 C' t k J/\f9 [t,k] C C') ?_ ?_ _ _ _ ⟨[],κ,_,rfl,e2 _ _ ag jQ,(fun _ z=>nomatch z),by rw[AB,An];show 0+_<=3;lia,lw.nil,my.refl aj,T2,(hk.ex e1).ex e2,f9.j6 (e1.trans e2)⟩
  .rintro z zs ρ C3 ⟨j,g,I,rfl,mh,N,ab,O,D,M,G,U⟩ L3 ah
   have au:=aj.chg D;refine bV G.at_ rfl pD (jg (vZ (fun hb=>?_) fun hb=>?_))
   .have hb:=AZ hb
    refine dZ (bV G.at_ rfl pD (jg (wG G.at_ rfl (by show 6<=1000;decide) ?_)));rw[QP];have k4:=G.put (g.l - 1) g.p g.e g.la;have T4:=M.put G.nk (.dK (gZ g.b g.r (g.l - 1) g.p g.e (oU g.la)));have ai:gQ C3 k (.dK (gZ g.b g.r (g.l - 1) g.p g.e (oU g.la))) h=some (.lst (Ln.ig j)):=by rwa [yQ af]
    have c4:my g { g with l:=g.l - 1 }:=⟨rfl,rfl,rfl,rfl,rfl,by lia,by lia,D.p0,BB _,D.e0,BB _⟩;refine⟨tW ai,⟨t,k,τ,ns,_,rfl,T4,k4,au.chg c4,fun l av C5 ao aq ae T5 k5 I=>?_⟩⟩;have ar:=I h _ nS ai
    apply sS ar (by rw[Ln.oh];exact AR (show j.length < 4 by lia) (by decide))
    refine ah _ _ ⟨j++[l],av,_,rfl,by rw[jQ,Ln.ou];rfl,fun x Z=>?_,by rw[AJ,Aa];rw[AQ] at ab;lia,?_,D.trans (c4.trans ae),T5.put ag _,?_,?_⟩
    .rcases Ae.1 Z with Z | Z
     .exact N x Z
     .cases AF.1 Z
      have:=ao
      rwa [D.bs,D.rs] at this
    .rw [Ln.ph,Ln.km]
     have:=O.add aq.pay D;exact this
    .exact k5.upd af (by rw[ae.b];rwa [D.b]) (by rw[ae.r];rwa [D.r]) _
    .exact (((U.at (by simp) _).trans I).put F _)
   .exact zX (ah _ _ ⟨j,g,_,rfl,mh,N,by rw[AQ] at ab;lia,O,D,M,G,U⟩)
  .rintro ρ C3 ⟨j,g,I,rfl,mh,N,ab,O,D,M,G,U⟩
   exact hL _ _ ⟨j,g,_,rfl,mh,N,by lia,O,D,M,G,U⟩
 rintro ak C3 ⟨j,g,I,rfl,mh,N,ab,O,D,M,G,U⟩;exact tK mh (q j g C3 N (by lia) O D M G U)
structure EI(C0 C:CH)(t k h:Addr)(ns:List Int)(κ κ':Kt)(name:Str)(ls:List Ln)(m:Nat):Prop where
 mh:C h=some (.lst (Ln.ig ls))
 ok:∀x∈ls,gw κ.bs κ.rs 1 [name] x
 len:ls.length+m<=2
 tw:(Ln.il ls:Int)<=κ.l - κ'.l
 pw:Ln.iy ls<=if κ.la.isSome then ls.length else 0
 ch:my κ κ'
 p:κ'.p=κ.p
 e:κ'.e=κ.e
 tp:Tp C t ns
 kt:j4 C t k κ'
 ex:f9 [t,k] C0 C
def w5(T:Tx W a)(r:Nat)(h1:6<=r)(yH:Ok W a r 34 U0 (nH 0 0)):
  Ok W a (r+1) 36 U4 (Kk 1):=by
 have S:=(T.F 36 rfl).s;have bQ:=(nZ T).mono (show 1<=r by lia);have nJ:=(uB T).mono (show 2<=r by lia);have kM:=(eA T).mono (show 3<=r by lia);have gG:=(kL T).mono (show 6<=r by lia)
 refine(T.F 36 rfl).o (fun F=>(xQ (lV (xZ F) (cv 1) vQ (xX rK vJ (zJ (xZ F) (cv 1) vQ (fun _ _=>rfl)) zQ))
  (xQ (fu 3 S.nd (cx (cf (T.F 27 rfl) nJ F (qQ (cv 0) (dw zQ))) zQ))
  (xQ (fu 4 S.nd (cQ (qQ vQ (dw (cf (T.F 26 rfl) bQ F (qQ (cv 0) (dw zQ)))))))
  (xQ (nQ (ct2 wX sQ (cf (T.F 26 rfl) bQ F (qQ (cv 0) (dw zQ))) zQ) (kQ (fu 4 S.nd (cf (T.F 29 rfl) kM F (qQ (cv 0) (qQ (cv 1) (dw (cQ bZ))))))) lQ)
  (xQ (fu 5 S.nd (gX bZ))
  (xQ (mL PassesOwn.never rfl rfl T.kW (dw (xX pX dX zQ (cf (T.F 26 rfl) bQ F (qQ (cv 0) (dw zQ))))) (j7 6 S.nd) (kQ (nQ (ct2 gV uJ (zJ (xZ F) (cv 1) vQ (fun _ _=>rfl)) zQ) (xQ (lV (xZ F) (cv 1) vQ (xX rK vJ (zJ (xZ F) (cv 1) vQ (fun _ _=>rfl)) zQ))
  (kQ (nQ (gm (iu (ct2 op_notN GB (zJ (xZ F) (cv 1) vQ (fun _ _=>rfl)) kK) (gn (ct2 wX sQ (cf (T.F 26 rfl) bQ F (qQ (cv 0) (dw zQ))) zQ)))) (kQ (uZ (cap (cv 5) (cf (T.F 35 rfl) gG F (qQ (cv 0) (qQ (cv 1) (qQ (cQ (dw (cv 3))) (dw (zJ (xZ F) (cv 1) vQ (fun _ _=>rfl)))))))))) (kQ (uZ (cap (cv 5) (cf (T.F 34 rfl) yH F (qQ (cv 0) (qQ (cv 1) (qQ (cQ (dw (cv 3))) (dw zQ))))))))))) lQ)))
  (kQ (wQ (cQ (qQ vQ (qQ (cv 3) (qQ (cv 4) (dw (o8 T.sX (cv 5)))))))))))))))) ?_
 rintro ts C R ⟨t,k,d,ns,κ,rfl,hT,hk,ab,bc,q⟩;have bz:κ.e=1:=by have:=ab.e1;lia
 refine dZ ?_;refine bV hk.at_ rfl jC ?_;refine jg ?_;refine wG hk.at_ rfl (by show 6<=1000;decide) ?_;rw[mC]
 try dsimp only
 have k1:=hk.put κ.l κ.p (κ.e - 1) κ.la;have T1:=hT.put hk.nk (.dK (gZ κ.b κ.r κ.l κ.p (κ.e - 1) (oU κ.la)));have x1:f9 [t,k] C (gQ C k (.dK (gZ κ.b κ.r κ.l κ.p (κ.e - 1) (oU κ.la)))):=f9.refl.at (by simp) _;refine uQ ?_;refine⟨t,1,ns,rfl,T1,by decide,by decide,fun p ss C2 m2 _ b1 hl b0 T2 e2=>?_⟩;have hl:ss.length=1:=hl
 obtain⟨name,rfl⟩:∃bl,ss=[bl]:=by
  match ss,hl with
  |[x],_=>exact⟨x,rfl⟩
 refine sZ m2 jX ?_;refine uQ ?_;refine⟨t,4,ns,rfl,T2,by decide,by decide,fun v C3 b3 b4 T3 e3=>⟨ie 2 rfl,?_⟩⟩;have k3:=(k1.ex e2).ex e3;have x3:f9 [t,k] C C3:=x1.trans (f9.j6 (e2.trans e3));refine tQ (fun Y C'=>∃M:Rk,M.ok κ.bs [] 0/\Y=[some (.ref t),some (.ref k),some (.int (d:Nat)),some (.str name),some M.pv,none,none]/\Tp C' t ns/\Ex t C3 C') (fun L hL=>?_) ?_
 .refine ⟨t,3,ns,rfl,T3,by decide,by decide,fun z C4 z0 z1 T4 e4=>?_⟩
  refine qX (mX _ _) ?_;refine vZ (fun hb=>?_) fun hb=>?_
  .refine ⟨ie 0 rfl,?_⟩
   refine⟨t,k,[],ns,_,rfl,T4,k3.ex e4,AX _,fun M C5 ar T5 e5=>?_⟩;exact hL _ _ ⟨M,ar,rfl,T5,e4.trans e5⟩
  .refine zX ?_
   exact hL _ _ ⟨.num v,⟨by lia,by lia⟩,rfl,T4,e4⟩
 rintro Y C4 ⟨M,ar,rfl,T4,e4⟩;have k4:=k3.ex e4;have x4:f9 [t,k] C C4:=x3.trans (f9.j6 e4);have k5:j4 C4 t k { κ with l:=κ.l,e:=κ.e - 1 }:=k4;have T5:=T4;have x5:=x4;generalize C4=C5 at k5 T5 x5 ⊢;refine uQ ?_;refine⟨ie 0 rfl,fun h Z=>?_⟩;have ag:=T5.ne Z;have ai:h≠k:=fun z=>by subst z;rw[k5.at_] at Z;cases Z
 have a5:h≠κ.b:=fun z=>by have:=k5.bx;rw[<- z,Z] at this;cases this
 have nr:h≠κ.r:=fun z=>by have:=k5.rx;rw[<- z,Z] at this;cases this
 have nS:h∉[t,k]:=fun z=>by
  rcases Aj.1 z with z | z
  .exact ag z
  .exact ai (AF.1 z)
 have a3:C h=none:=x5.none nS Z;have c5:my κ { κ with l:=κ.l,e:=κ.e - 1 }:=⟨rfl,rfl,rfl,rfl,rfl,ab.l0,BB _,ab.p0,BB _,by show 0<=κ.e - 1;lia,by show κ.e - 1<=κ.e;lia⟩;have a6:Fq { κ with l:=κ.l,e:=κ.e - 1 } 0 [name]:=⟨c5.l0,Cg c5.l1 ab.l1,ab.p0,ab.p1,c5.e0,by show κ.e - 1<=0;lia,fun z=>absurd z (by decide),fun z=>absurd (show(0:Int) < κ.e - 1 from z) (by lia),by show 1<=4;decide⟩
 refine tQ (fun Y C'=>∃(D:List Ln)(ah:Kt)(U:Option PV),Y=[some (.ref t),some (.ref k),some (.int (d:Nat)),some (.str name),some M.pv,some (.ref h),U]/\EI C C' t k h ns { κ with l:=κ.l,e:=κ.e - 1 } ah name D 0) (fun L hL=>?_) ?_
 .refine ⟨t,2,ns,rfl,T5.new Z _,by decide,by decide,fun b5 C6 b6 b7 T6 e6=>?_⟩
  refine eW ?_;refine⟨by lia,by lia,?_⟩;have k6:j4 C6 t k { κ with l:=κ.l,e:=κ.e - 1 }:=(k5.upd ai a5 nr _).ex e6;refine wJ (fun zs ρ C'=>∃(D:List Ln)(ah:Kt)(U:Option PV),ρ=[some (.ref t),some (.ref k),some (.int (d:Nat)),some (.str name),some M.pv,some (.ref h),U]/\EI C C' t k h ns { κ with l:=κ.l,e:=κ.e - 1 } ah name D zs.length) ?_ ?_ _ _ _ ⟨[],_,_,rfl,⟨e6 _ _ ag jQ,(fun _ z=>nomatch z),by rw[AB,An];show 0+_<=2;lia,by show(0:Int)<=_ - _;lia,AX _,my.refl a6,rfl,rfl,T6,k6,(x5.put a3 _).trans (f9.j6 e6)⟩⟩
  .rintro z zs ρ C7 ⟨D,j,U,rfl,I⟩ L3 aq
   have a7:=a6.chg I.ch;have bg:=I.len;rw[AQ] at bg;refine bV I.kt.at_ rfl pD ?_;refine jg ?_;refine vZ (fun hb=>?_) fun hb=>?_
   .have hb:=AZ hb
    refine dZ ?_;refine bV I.kt.at_ rfl pD ?_;refine jg ?_;refine wG I.kt.at_ rfl (by show 6<=1000;decide) ?_;rw[QP];have k8:=I.kt.put (j.l - 1) j.p j.e j.la;have T8:=I.tp.put hk.nk (.dK (gZ j.b j.r (j.l - 1) j.p j.e (oU j.la)));have af:gQ C7 k (.dK (gZ j.b j.r (j.l - 1) j.p j.e (oU j.la))) h=some (.lst (Ln.ig D)):=by rw[yQ ai];exact I.mh
    have x8:f9 [t,k] C (gQ C7 k (.dK (gZ j.b j.r (j.l - 1) j.p j.e (oU j.la)))):=I.ex.at (by simp) _;generalize gQ C7 k (.dK (gZ j.b j.r (j.l - 1) j.p j.e (oU j.la)))=C8 at k8 T8 af x8 ⊢;have k8:j4 C8 t k { j with l:=j.l - 1 }:=k8;have c8:my j { j with l:=j.l - 1 }:=⟨rfl,rfl,rfl,rfl,rfl,by show 0<=j.l - 1;lia,by show j.l - 1<=j.l;lia,I.ch.p0,BB _,I.ch.e0,BB _⟩
    have ay:j.la=κ.la:=I.ch.la
    have a4:∀(l:Ln)(G:Kt)(J:CH),gw κ.bs κ.rs 1 [name] l->(l.tw:Int)<=1+(j.l - 1 - G.l)->(l.pw<=if κ.la.isSome then 1 else 0)->my { j with l:=j.l - 1 } G->G.p=j.p->G.e=j.e->Tp J t ns->j4 J t k G->f9 [t,k] C8 J->(∀Y C',(∃(D:List Ln)(ah:Kt)(U:Option PV),Y=[some (.ref t),some (.ref k),some (.int (d:Nat)),some (.str name),some M.pv,some (.ref h),U]/\EI C C' t k h ns { κ with l:=κ.l,e:=κ.e - 1 } ah name D zs.length)->L3 Y C') ->
      lU (.ref h) [l.pv] J fun _ C'=>L3 [some (.ref t),some (.ref k),some (.int (d:Nat)),some (.str name),some M.pv,some (.ref h),some z] C':=by
     intro l G J h1 h2 h3 h4 h5 h6 T9 k9 x9 ba;have bj:=x9 h _ nS af;refine sS bj (by rw[Ln.oh];exact AR (show D.length < 4 by lia) (by decide)) ?_;have b2:h≠G.b:=by rw[h4.b];show h≠j.b;rw[I.ch.b];exact a5
     have r2:h≠G.r:=by rw[h4.r];show h≠j.r;rw[I.ch.r];exact nr
     refine ba _ _ ⟨D++[l],G,_,rfl,⟨by rw[jQ,Ln.ou];rfl,fun x hx=>?_,by rw[AJ,Aa];lia,?_,?_,I.ch.trans (c8.trans h4),h5.trans I.p,h6.trans I.e,T9.put ag _,k9.upd ai b2 r2 _,(x8.trans x9).put a3 _⟩⟩
     .rcases Ae.1 hx with hx | hx
      .exact I.ok x hx
      .cases AF.1 hx;exact h1
     .rw [Ln.ph]
      have:=I.tw;show((Ln.il D+(l.tw+0):Nat):Int)<=_
      lia
     .rw [Ln.km,AJ,Aa]
      have g:=I.pw;have g:Ln.iy D<=if κ.la.isSome then D.length else 0:=g
      show Ln.iy D+(l.pw+0)<=if κ.la.isSome then D.length+1 else 0
      cases hz:κ.la.isSome with
      |true=>rw[hz,Ah rfl] at g h3;rw[Ah rfl];lia
      |false=>rw[hz,Af AO] at g h3;rw[Af AO];lia
    have bx:j.e=0:=by have:=I.e;have:j.e=κ.e - 1:=this;lia
    have az:∀J,Tp J t ns->Ex t C8 J->nH 0 0 [.ref t,.ref k,.tup [.str name],.int 0] J fun v C'=>lU (.ref h) [v] C' fun _ a8=>L3 [some (.ref t),some (.ref k),some (.int (d:Nat)),some (.str name),some M.pv,some (.ref h),some z] a8:=by
     intro J T9 N;refine⟨t,k,[name],ns,_,rfl,T9,k8.ex N,a7.chg c8,fun l G aj a9 a0 ao ak bh bo=>?_⟩;obtain⟨n1,n2⟩:=a0.n (fun z=>nomatch z);refine a4 l G aj ?_ ?_ (by rw[n1];exact AX _) ao n2 ?_ ak bh ((f9.j6 N).trans bo) aq
     .have:gw j.bs j.rs 1 [name] l:=a9
      rw[I.ch.bs,I.ch.rs] at this;exact this
     .have:=a0.t
      have this:(l.tw:Int)<=1 * (1+(j.l - 1 - G.l)):=this
      lia
     .have bp:=ao.e0
      have av:=ao.e1;have av:G.e<=j.e:=av
      lia
    refine bV k8.at_ rfl Qx ?_;refine c_i ?_;refine YY (fun ae=>?_) fun ae=>?_
    .refine ⟨t,2,ns,rfl,T8,by decide,by decide,fun z2 J b9 cb T9 N=>?_⟩
     refine qX (mX _ _) ?_;refine vZ (fun bb=>?_) fun bb=>?_
     .have ae:(!ZT (oU j.la))=true:=ae
      obtain⟨O,au⟩:∃O,j.la=some O:=by
       cases hz:j.la with
       |none=>rw[hz] at ae;cases ae
       |some O=>exact⟨O,rfl⟩
      have k9:=k8.ex N;refine⟨tW (N _ _ ag af),?_⟩;refine⟨ie 1 rfl,?_⟩;refine bV k9.at_ rfl (v:=.str O) (by rw[Qx];show some (oU j.la)=_;rw[au];rfl) ?_;refine⟨t,k,[name],ns,_,O,rfl,T9,k9,by show 1<=4;decide,fun o g aj ho hg bf ak ax=>?_⟩;refine a4 (.part o O g) { j with l:=j.l - 1 } aj ?_ ?_ ?_ (my.refl (a7.chg c8)) rfl rfl ak (k9.ex ax) ((f9.j6 N).trans (f9.j6 ax)) aq
      .have ho:gT j.bs [name] o:=ho
       have hg:kN j.bs [name] 1 g:=hg;rw[I.ch.bs] at ho hg;exact⟨ho,ab.ly bc O (by rw[<- ay];exact au),hg,bf⟩
      .show ((1:Nat):Int)<=1+(j.l - 1 - (j.l - 1));lia
      .rw [<- ay,au];exact AH _
     .refine ⟨tW (N _ _ ag af),?_⟩
      refine⟨ie 1 rfl,?_⟩;exact az J T9 N
    .refine yG rfl ?_
     refine⟨tW af,?_⟩;refine⟨ie 1 rfl,?_⟩;exact az C8 T8 Ex.refl
   .refine zX ?_
    exact aq _ _ ⟨D,j,_,rfl,⟨I.mh,I.ok,by lia,I.tw,I.pw,I.ch,I.p,I.e,I.tp,I.kt,I.ex⟩⟩
  .rintro ρ C7 ⟨D,j,U,rfl,I⟩
   exact hL _ _ ⟨D,j,_,rfl,I⟩
 rintro Y C7 ⟨D,j,U,rfl,I⟩;refine tK I.mh ?_;refine⟨ie 4 rfl,?_⟩;have br:=I.ch.l0;have bt:j.l<=κ.l:=I.ch.l1;have bq:j.e=κ.e - 1:=I.e;have cp:j.p=κ.p:=I.p;have bw:(Ln.il D:Int)<=κ.l - j.l:=I.tw;have aw:Ln.iy D<=if κ.la.isSome then D.length else 0:=I.pw
 have bu:D.length+0<=2:=I.len;refine q (.each name M D) j _ ?_ ?_ ?_ I.tp I.kt I.ex
 .exact ⟨ar,fun x hx=>(I.ok x hx).mono (by decide),by lia⟩
 .refine ⟨?_,?_,fun z=>absurd rfl z⟩
  .show ((8 * Ln.il D:Nat):Int)<=8 * (1+(κ.l - j.l))
   lia
  .show ((8 * Ln.iy D:Nat):Int)<=(κ.p - j.p)+qi κ * (κ.e - j.e)
   have e1:κ.e - j.e=1:=by lia
   rw[e1,Int.mul_one]
   delta qi
   cases hz:κ.la.isSome with
   |true=>rw[hz,Ah rfl] at aw;rw[Ah rfl];lia
   |false=>rw[hz,Af AO] at aw;rw[Af AO];lia
 .exact ⟨I.ch.b,I.ch.r,I.ch.bs,I.ch.rs,I.ch.la,I.ch.l0,by lia,I.ch.p0,I.ch.p1,I.ch.e0,by show j.e<=κ.e;lia⟩
end
structure Pt where
 name:Str
 first:List (Str×Int)
 works:List (Str×Rk)
 ls:List Ln
def Pt.pv(x:Pt):PV:=.tup [.str x.name,.tup (x.first.map dQ),.tup (x.works.map xU),.tup (Ln.ig x.ls)]
structure jw(rs:List Str)(cap:Nat)(x:Pt):Prop where
 fl:x.first.length<=4
 wk:kN (x.first.map (·.1)) [] 1 x.works
 wl:x.works.length<=4
 ls:∀l∈x.ls,gw (x.first.map (·.1)) rs 6 [] l
 ll:x.ls.length<=6
 tw:Ln.il x.ls<=48
 pw:Ln.iy x.ls<=cap
 fb:∀c∈x.first,-1000000000<=c.2/\c.2<=1000000000
 bn:∀c∈x.first,oF c.1=true
def jw.b8{cap}(j:jw rs cap x):∀s∈x.first.map (·.1),s.length<=8:=fun s hs=>by
 obtain⟨c,g,rfl⟩:=AM.1 hs;exact Oz (j.bn c g)
def WS(m:C p=some (.dK []))(e:Om ts=some ps)(h:ps.length<=15)(q:Q (.ref p) (gQ C p (.dK (hW [] ps)))):rN p ts C Q :=by simp_all[rN]
def XJ{ss:List Str}(n:Nat):iF (ss.map PV.str) (some ( n+1)) none=(ss.drop (n+1)).map PV.str:=by
 delta iF
 have e:HT.sIx (ss.map PV.str).length 0 (some ((n:Int)+1))=min (n+1) ss.length:=by
  have:((n:Int)+1)=((n+1:Nat):Int):=by lia
  rw[this,HT.sIx_nat,AB]
 rw[e,HT.sIx_none,<- List.map_drop,Bq (by grind)]
 congr 1
 by_cases h:n+1<=ss.length
 .lia
 .simp_all
def G4{ss:List Str}(h:1 < ss.length):∃s∈ss.drop 1,atI (ss.map PV.str) (-1)=some (.str s):=by
 delta atI ixN
 rw[Af (by decide),AB,Ah (by lia)];have e:((ss.length:Int) + -1).toNat=ss.length - 1:=by lia
 refine⟨ss[ss.length - 1],?_,?_⟩
 .have:ss[ss.length - 1]=(ss.drop 1)[ss.length - 2]'(by rw[BN];lia):=by
   rw[List.getElem_drop]
   congr 1
   lia
  rw[this];exact Ap _
 .show (ss.map PV.str)[((ss.length:Int) + -1).toNat]?=_
  rw[e,Am,AK (by lia)]
  rfl
def Jl{ss:List Str}(h:n < ss.length):atI (ss.map PV.str) n=some (.str ss[n]):=by
 have:=zW (xs:=ss.map PV.str) (by rwa [AB])
 rwa [List.getElem_map] at this
section
variable {W:Wd}{a:Adr}
def eJ(h:∀ts C Q,¬ G ts C Q):FnOk W.P W.w W.K W.mg W.base CX0 r f fd ps (p7 W.K G) :=
 ⟨fun vs H Q E g=>fX g fun ts C R _ _ z _=> (h _ _ _ z).elim,fun _ _ _ _ _ _ _ _ _ _ _ _ _ g=>fX g fun ts C R _ _ z _=> (h _ _ _ z).elim⟩
def QZ(h:∀d',d=d'+1->Ok W a r 38 U0 (cB e d')):Ok W a r 38 U0 (dR e d):=by
 cases d with
 |zero=>exact eJ fun ts C Q ⟨d',e,_⟩=>by lia
 |succ d' =>
  have e:dR e (d'+1)=cB e d':=by
   funext ts C Q
   refine propext ⟨fun⟨g,z,h⟩=>?_,fun h=>⟨d',rfl,h⟩⟩;cases Ax z;exact h
  exact e▸h d' rfl
def Vm(T:Tx W a):Ok W a 8 34 U0 (nH 0 0) :=
 QX T 0 0 7 (by decide) (QZ fun d' e=>by omega)
def Ys(T:Tx W a):Ok W a 13 36 U4 (Kk 1) :=
 (w5 T 8 (by decide) (Vm T)).mono (by decide)
def nO(T:Tx W a)d:Ok W a (15+3 * d) 38 U0 (cB 1 d):=by
 have g:∀d,(∀d',d=d'+1->Ok W a (12+3 * d) 38 U0 (cB 1 d'))->Ok W a (15+3 * d) 38 U0 (cB 1 d):=by
  intro d h;have lo:=QZ h;have q:=wy T 1 d (12+3 * d+1) (by decide) (by lia) (lo.mono (BU _)) (QX T 1 d (12+3 * d) (by lia) lo) ((Ys T).mono (by lia));have:=Yo T 1 d (12+3 * d+1+1) (Nat.succ_pos _) q;have e:12+3 * d+1+1+1=15+3 * d:=by lia
  rwa [e] at this
 induction d with
 |zero=>exact g 0 fun d' e=>by lia
 |succ d j=>exact g (d+1) fun d' e=>by cases Ax e;exact j.mono (by lia)
def Ov(h1:FnOk W.P W.w W.K W.mg W.base CX0 r f fd ps (p7 W.K M))(h2:FnOk W.P W.w W.K W.mg W.base CX0 r f fd ps (p7 W.K N)):FnOk W.P W.w W.K W.mg W.base CX0 r f fd ps (p7 W.K (fun ts C Q=>M ts C Q\/N ts C Q)) :=
 ⟨fun vs H Q E g=>fX g fun ts C R x y z u=> by
  rcases z with z | z
  .exact h1.len vs H Q E ⟨ts,C,R,x,y,z,u⟩
  .exact h2.len vs H Q E ⟨ts,C,R,x,y,z,u⟩,fun A F s H j I vs Q E G D q J g=>fX g fun ts C R x y z u=> by
  rcases z with z | z
  .exact h1.run A F s H j I vs Q E G D q J ⟨ts,C,R,x,y,z,u⟩
  .exact h2.run A F s H j I vs Q E G D q J ⟨ts,C,R,x,y,z,u⟩⟩
noncomputable def pW(k:Nat):Nat:=if k=0 then 18 else 2
structure KS(κ:Kt)(bl rl:Addr)(bs rs:List Str)(k:Nat):Prop where
 b:κ.b=bl
 r:κ.r=rl
 bs:κ.bs=bs
 rs:κ.rs=rs
 l:κ.l=6
 p0:1<=κ.p
 p1:κ.p<=2
 e0:0<=κ.e
 e1:κ.e<=1
 ly:0 < κ.e->∀s,κ.la=some s->s∈κ.rs
 cap:κ.p+qi κ * κ.e<=(pW k:Nat)
inductive PJ(ts:List PV)(C:CH)(Q:K1):Prop
 |mk(t nl:Addr)(ns:List Int)(names:List Str)(k:Nat)(keyed:Bool)(z0:ts=[.ref t,.ref nl,.int (k:Nat),.bl keyed])(z1:Tp C t ns)(z2:C nl=some (.lst (names.map PV.str)))(z3:nl≠t)(z4:names.length<=6)(z5:k < names.length)(z6:∀(x:Pt)(C':CH),names[k]?=some x.name->jw (names.drop (k+1)) (pW k) x->Tp C' t ns->Ex t C C'->Q x.pv C')
def wj(T:Tx W a):Ok W a 25 39 U10 PJ:=by
 have S:=(T.F 39 rfl).s;have bQ:=(nZ T).mono (show 1<=24 by decide);have nJ:=(uB T).mono (show 2<=24 by decide);have yV:=(pM T).mono (show 2<=24 by decide);have zV:=(qR T 1).mono (show 5<=24 by decide);have xW:=Ov (nO T 3) ((nO T 1).mono (show 15+3 * 1<=24 by decide))
 refine(T.F 39 rfl).o (fun M=>(xQ (fu 4 S.nd (cx (gX (qQ zQ (qQ zQ (qQ zQ (qQ zQ (qQ zQ (dw zQ))))))) (cf (T.F 26 rfl) bQ M (qQ (cv 0) (dw zQ)))))
  (xQ (fu 5 S.nd (cf (T.F 27 rfl) nJ M (qQ (cv 0) (dw (cv 4)))))
  (xQ (fu 6 S.nd (Dw (tG vQ (cv 5) (tG vQ (xD (cv 1) (rV (xX pX dX (cv 2) zQ)) nV) (tG vQ zQ (tG vQ zQ (tG vQ zQ (tG vQ kK zp))))))))
  (xQ (nQ (gm (jj (ct2 yB sY (j9 T.lZ (cv 1)) zQ) (jh (gm (iu (oZ (cv 3)) (gn (ct2 wX sQ (cv 2) zQ))))))) (kQ (lV (xZ M) (cv 6) vQ zQ)) lQ)
  (xQ (nQ (oZ (cv 3)) (xQ (lV (xZ M) (cv 6) vQ (mZ gY iM rfl T.gD rfl (dw (oK wX sQ (cv 2) zQ (wV _)))))
  (xQ (nQ (ct2 gV uJ (j9 T.lZ (cv 1)) zQ) (kQ (lV (xZ M) (cv 6) vQ (cx (cv 1) (oH aU zG zQ)))) lQ)
  (kQ (nQ (ct2 gV uJ (cv 2) zQ) (kQ (lV (xZ M) (cv 6) vQ zQ)) lQ)))) lQ)
  (xQ (fu 7 S.nd (o8 T.sX (eB rfl (S.c (by decide +kernel)) (S.k rfl rfl rfl (by decide +kernel)) (cv 5) (fun _ _ _ _ _=>xK) (fun _ _ _ _ _=>(cQ (qQ (cv 0) (dw (cf (T.F 28 rfl) yV M (dw (cv 1))))))))))
  (xQ (fu 8 S.nd (cf (T.F 38 rfl) xW M (qQ (cv 0) (qQ (cv 6) (qQ (cQ bZ) (dw (cx (gX (qQ zQ (dw zQ))) (mZ gY iM rfl T.gD rfl (dw (oK gV uJ (j9 T.lZ (cv 1)) zQ (wV _)))))))))))
  (xQ (fu 9 S.nd (cf (T.F 27 rfl) nJ M (qQ (cv 0) (dw (cf (T.F 26 rfl) bQ M (qQ (cv 0) (dw zQ)))))))
  (xQ (fu 10 S.nd (o8 T.sX (eB rfl (S.c (by decide +kernel)) (S.k rfl rfl rfl (by decide +kernel)) (cv 9) (fun _ _ _ _ _=>xK) (fun _ _ _ _ _=>(cQ (qQ (cv 0) (dw (cf (T.F 30 rfl) zV M (qQ (cv 1) (qQ (cv 7) (qQ (cQ bZ) (dw zQ))))))))))))
  (kQ (wQ (cQ (qQ (cx (cv 1) (cv 2)) (qQ (cv 7) (qQ (cv 10) (dw (cv 8)))))))))))))))))) ?_
 rintro ts C R ⟨t,ae,ns,G,k,aq,rfl,hT,mn,ag,df,bj,q⟩;refine uQ ?_;refine⟨ie 6 rfl,fun p1 az=>?_⟩;refine⟨t,6,ns,rfl,hT.new az _,by decide,by decide,fun v C1 a7 bz T1 e1=>?_⟩;have b9:Ex t C C1:=(Ex.new az _).trans e1;refine sZ (e1 p1 _ (hT.ne az) jQ) (oV (f:=PV.int) (ss:=[0,1,1,2,2,4]) 0 a7 bz) ?_
 have bl:0<=([0,1,1,2,2,4]:List Int).getD v.toNat 0/\([0,1,1,2,2,4]:List Int).getD v.toNat 0<=4:=by
  have:v=0\/v=1\/v=2\/v=3\/v=4\/v=5:=by lia
  rcases this with rfl | rfl | rfl | rfl | rfl | rfl<;>decide
 generalize ([0,1,1,2,2,4]:List Int).getD v.toNat 0=m at bl ⊢;refine uQ ?_;refine⟨t,m,ns,rfl,T1,bl.1,by lia,fun D bs C2 m2 n2 bt dd a4 T2 e2=>?_⟩;have ar:=b9.trans e2;have bg:bs.length<=4:=by lia
 refine uQ ?_;intro j ai;have T3:=T2.new ai (.dK []);have af:=T2.ne ai;refine eW ?_;refine Ze (Gr.new ai _ _ _ (ar _ _ ag mn)) fun F aj=>?_;have T4:=T3.new aj (.lst (iF (G.map PV.str) (some ((k:Int)+1)) none));have c5:=T3.ne aj;have a5:j≠F:=fun z=>by subst z;rw[jQ] at aj;cases aj
 have cy:C2 F=none:=by rw[yQ (Ne.symm a5)] at aj;exact aj
 have bw:D≠j:=fun z=>by rw[z,ai] at m2;cases m2
 have c2:D≠F:=fun z=>by rw[z,cy] at m2;cases m2
 rw[XJ];rw[XJ] at T4;refine WS (ps:=gZ D F 6 1 1 .non) (by rw[yQ a5];exact jQ) rfl (by show 6<=15;decide) ?_;rw[show hW [] (gZ D F 6 1 1 .non)=gZ D F 6 1 1 .non from rfl];have T5:=T4.put af (.dK (gZ D F 6 1 1 .non))
 have x5:Ex t C (gQ (gQ (gQ C2 j (.dK [])) F (.lst ((G.drop (k+1)).map PV.str))) j (.dK (gZ D F 6 1 1 .non))) :=
  ((ar.trans (Ex.new ai _)).trans (Ex.new aj _)).put (ar.none af ai) _
 have k5:j4 (gQ (gQ (gQ C2 j (.dK [])) F (.lst ((G.drop (k+1)).map PV.str))) j (.dK (gZ D F 6 1 1 .non))) t j ⟨D,F,bs,G.drop (k+1),6,1,1,none⟩:=by
  refine⟨jQ,?_,?_,af,bt,c5,bg,?_⟩
  .show gQ (gQ (gQ C2 j (.dK [])) F (.lst ((G.drop (k+1)).map PV.str))) j (.dK (gZ D F 6 1 1 .non)) D=_
   rw[yQ bw,yQ c2,yQ bw];exact m2
  .show gQ (gQ (gQ C2 j (.dK [])) F (.lst ((G.drop (k+1)).map PV.str))) j (.dK (gZ D F 6 1 1 .non)) F=_
   rw[yQ (Ne.symm a5)];exact jQ
  .show (G.drop (k+1)).length<=6
   rw[BN];lia
 have ao:C j=none:=ar.none af ai;generalize gQ (gQ (gQ C2 j (.dK [])) F (.lst ((G.drop (k+1)).map PV.str))) j (.dK (gZ D F 6 1 1 .non))=C5 at T5 x5 k5 ⊢;refine tQ (fun ah C'=>∃p:Int,1<=p/\p<=2/\ah=[some (.ref t),some (.ref ae),some (.int (k:Nat)),some (.bl aq),some (.int m),some (.ref D),some (.ref j),none,none,none,none]/\Tp C' t ns/\Ex t C C'/\j4 C' t j ⟨D,F,bs,G.drop (k+1),6,p,1,none⟩) (fun L Y=>?_) ?_
 .have b0:∀L':jt->CH->Prop,L'=L->mS (.ref j) (.str "parts") (.int 2) C5 fun C4=>L' [some (.ref t),some (.ref ae),some (.int (k:Nat)),some (.bl aq),some (.int m),some (.ref D),some (.ref j),none,none,none,none] C4:=by
   rintro L' rfl;refine wG k5.at_ rfl (by show 6<=1000;decide) ?_;exact Y _ _ ⟨2,by decide,by decide,rfl,T5.put af _,x5.put ao _,k5.put 6 2 1 none⟩
  refine sW (x5 _ _ ag mn) ?_;refine jg ?_;refine vZ (fun Z=>?_) fun Z=>?_
  .refine ZX rfl ?_
   exact b0 _ rfl
  .refine YY (fun O=>?_) fun O=>?_
   .refine qX (mX _ _) ?_
    refine vZ (fun cp=>?_) fun cp=>?_
    .exact b0 _ rfl
    .refine zX ?_
     exact Y _ _ ⟨1,by decide,by decide,rfl,T5,x5,k5⟩
   .refine yG rfl ?_
    refine zX ?_;exact Y _ _ ⟨1,by decide,by decide,rfl,T5,x5,k5⟩
 clear k5 T5 x5;rintro ah C6 ⟨p,p0,p1,rfl,T6,x6,k6⟩;have da:∀κ:Kt,qi κ<=16:=fun κ=>by delta qi;split<;>decide
 refine tQ (fun ah C'=>∃κ:Kt,KS κ D F bs (G.drop (k+1)) k/\ah=[some (.ref t),some (.ref ae),some (.int (k:Nat)),some (.bl aq),some (.int m),some (.ref D),some (.ref j),none,none,none,none]/\Tp C' t ns/\Ex t C C'/\j4 C' t j κ) (fun L Y=>?_) ?_
 .refine YY (fun Z=>?_) fun Z=>?_
  .refine dZ ?_
   refine qX (mX _ _) ?_;refine kE ?_;refine wG k6.at_ rfl (by show 6<=1000;decide) ?_;rw[mC]
   try dsimp only
   have ct:∃e:Int,(if id (decide ((k:Int)=0))=true then (1:Int) else 0)=e/\((k=0/\e=1)\/(0 < k/\e=0)):=by
    by_cases ak:k=0
    .refine ⟨1,?_,.inl ⟨ak,rfl⟩⟩
     rw[Ah (by show decide ((k:Int)=0)=true;exact Ab (by lia))]
    .refine ⟨0,?_,.inr ⟨by lia,rfl⟩⟩
     rw[Af (by show ¬ decide ((k:Int)=0)=true;rw[AN (by lia)];decide)]
   obtain⟨e,ee,de⟩:=ct;rw[ee];have k7:=k6.put 6 p e none;have T7:=T6.put af (.dK (gZ D F 6 p e (oU none)));have x7:=x6.put ao (.dK (gZ D F 6 p e (oU none)));have e7:(CO.dK (gZ D F 6 p e .non))=.dK (gZ D F 6 p e (oU none)):=rfl;show XW _ _ _ _ (gQ C6 j (CO.dK (gZ D F 6 p e (oU none))));generalize gQ C6 j (CO.dK (gZ D F 6 p e (oU none)))=C7 at k7 T7 x7 ⊢;refine tQ (fun ah C'=>∃la:Option Str,(k=0->∀s,la=some s->s∈G.drop (k+1))/\ah=[some (.ref t),some (.ref ae),some (.int (k:Nat)),some (.bl aq),some (.int m),some (.ref D),some (.ref j),none,none,none,none]/\Tp C' t ns/\Ex t C C'/\j4 C' t j ⟨D,F,bs,G.drop (k+1),6,p,e,la⟩) (fun L1 bf=>?_) ?_
   .refine sW (x7 _ _ ag mn) ?_
    refine jg ?_;refine vZ (fun O=>?_) fun O=>?_
    .have O:=AZ O
     rw[AB] at O;obtain⟨sl,cz,ck⟩:=G4 (ss:=G) (by lia);refine sZ (x7 _ _ ag mn) ck ?_;refine wG k7.at_ rfl (by show 6<=1000;decide) ?_;exact bf _ _ ⟨some sl,fun ak s hs=>by cases hs;rw[ak];exact cz,rfl,T7.put af _,x7.put ao _,k7.put 6 p e (some sl)⟩
    .refine zX ?_
     exact bf _ _ ⟨none,(fun _ _ z=>nomatch z),rfl,T7,x7,k7⟩
   rintro ah C8 ⟨la,cw,rfl,T8,x8,k8⟩;refine jg ?_;refine vZ (fun O=>?_) fun O=>?_
   .have O:=AZ O
    have e0:e=0:=by lia
    subst e0;refine wG k8.at_ rfl (by show 6<=1000;decide) ?_;refine Y _ _ ⟨⟨D,F,bs,G.drop (k+1),6,1,0,la⟩,⟨rfl,rfl,rfl,rfl,rfl,BB _,(by show(1:Int)<=2;decide),BB _,(by show(0:Int)<=1;decide),fun z=>absurd (show(0:Int) < 0 from z) (by decide),?_⟩,rfl,T8.put af _,x8.put ao _,k8.put 6 1 0 la⟩;show(1:Int)+qi _ * 0<=_;rw[Int.mul_zero]
    delta pW
    split<;>decide
   .refine zX ?_
    have O:=Ca O;have ak:k=0:=by lia
    have e1:e=1:=by lia
    subst e1;refine Y _ _ ⟨⟨D,F,bs,G.drop (k+1),6,p,1,la⟩,⟨rfl,rfl,rfl,rfl,rfl,p0,p1,(by show(0:Int)<=1;decide),BB _,fun _=>cw ak,?_⟩,rfl,T8,x8,k8⟩;show p+qi _ * 1<=_;rw[Int.mul_one];have:=da ⟨D,F,bs,G.drop (k+1),6,p,1,la⟩
    delta pW
    rw[Ah ak]
    lia
  .refine zX ?_
   refine Y _ _ ⟨⟨D,F,bs,G.drop (k+1),6,p,1,none⟩,⟨rfl,rfl,rfl,rfl,rfl,p0,p1,(by show(0:Int)<=1;decide),BB _,(fun _ _ z=>nomatch z),?_⟩,rfl,T6,x6,k6⟩;show p+0 * 1<=_
   delta pW
   split<;>lia
 clear k6 T6 x6;rintro ah C7 ⟨κ,N,rfl,T7,x7,k7⟩
 try dsimp only
 have bu:C7 D=some (.lst (bs.map PV.str)):=by have:=k7.bx;rw[N.b,N.bs] at this;exact this
 refine uQ ?_;refine Ds bu rfl ?_;refine fU (β:=Int) dQ (fun i:Int=>-1000000000<=i/\i<=1000000000) (fun C'=>Tp C' t ns/\Ex t C7 C') (fun C' h=>h.2 _ _ bt bu) (by lia) (fun z C8 L ⟨T8,e8⟩ Y=>?_) (fun fs C8 p8 ⟨T8,e8⟩ bp bh cu=>?_) ⟨T7,Ex.refl⟩
 .exact ⟨t,ns,rfl,T8,fun i C9 i0 i1 T9 e9=>⟨ie 2 rfl,Y i C9 ⟨i0,i1⟩ ⟨T9,e8.trans e9⟩⟩⟩
 refine tK jQ ?_;have T9:=T8.new bp (.lst (fs.map dQ));have e9:Ex t C7 (gQ C8 p8 (.lst (fs.map dQ))):=e8.trans (Ex.new bp _);generalize gQ C8 p8 (.lst (fs.map dQ))=C9 at T9 e9 ⊢
 try dsimp only
 have k9:=k7.ex e9;have x9:Ex t C C9:=x7.trans e9;have bx:Fq κ 1 []:=⟨by rw[N.l];decide,by rw[N.l];decide,by have:=N.p0;lia,N.p1,N.e0,N.e1,fun _=>rfl,N.ly,AX _⟩;refine uQ ?_;refine⟨ie 0 rfl,?_⟩;refine⟨ie 2 rfl,fun a6 a0=>?_⟩;have ba:=T9.new a0 (.lst [PV.int 3,PV.int 1]);have bq:=k9.ex (Ex.new a0 (.lst [PV.int 3,PV.int 1]));have a8:Ex t C (gQ C9 a6 (.lst [PV.int 3,PV.int 1])):=x9.trans (Ex.new a0 _)
 refine sW (a8 _ _ ag mn) ?_;refine jg ?_;refine kE ?_
 have cn:∀(I:List Ln)(J:Kt)(C':CH),(∀x∈I,gw κ.bs κ.rs 6 [] x)->I.length<=6->lw 1 [] κ J 0 (Ln.il I) (Ln.iy I)->my κ J->Tp C' t ns->j4 C' t j J->f9 [t,j] (gQ C9 a6 (.lst [PV.int 3,PV.int 1])) C'->∀(x:Pt),x.name=G[k]->x.first=fs->x.ls=I->kN bs [] 1 x.works->x.works.length<=4->∀ab,Tp ab t ns->Ex t C' ab->R x.pv ab:=by
  intro I J C' h1 h2 h3 U T' k' x' x xn xf xl xw c9 ab b3 b7;refine q x ab (by rw[AK bj,xn]) ?_ b3 ?_
  .have ay:x.first.map (·.1)=bs:=by rw[xf];exact bh
   refine⟨by rw[xf,<- AB (f:=(·.1)),bh];exact bg,by rw[ay];exact xw,c9,?_,by rw[xl];exact h2,?_,?_,by rw[xf];exact cu,fun c hc=>a4.2 c.1 (by rw[<- ay];exact AM.2 ⟨c,hc,rfl⟩)⟩
   .rw [xl,ay]
    intro l hl;have:=h1 l hl;rw[N.bs,N.rs] at this;exact this
   .rw [xl]
    have:=h3.t;have l0:=U.l0;have kl:=N.l;have this:(Ln.il I:Int)<=8 * (0+(κ.l - J.l)):=this
    lia
   .rw [xl]
    have g:=h3.p;have c:=N.cap;have e0:=U.e0;have e1:=U.e1;have q0:=U.p0;have z:qi κ=0\/qi κ=16:=by delta qi;split;exact .inr rfl;exact .inl rfl
    rcases z with z | z<;>rw[z] at g c<;>lia
  .intro b o a3 Z
   have nk:b≠j:=fun z=>by rw[z,ao] at Z;cases Z
   exact b7 b o a3 (x' b o (fun z=>by
    rcases Aj.1 z with z | z
    .exact a3 z
    .exact nk (AF.1 z)) (a8 b o a3 Z))
 have rest:∀(I:List Ln)(J:Kt)(C':CH),(∀x∈I,gw κ.bs κ.rs 6 [] x)->I.length<=6->lw 1 [] κ J 0 (Ln.il I) (Ln.iy I)->my κ J->Tp C' t ns->j4 C' t j J->f9 [t,j] (gQ C9 a6 (.lst [PV.int 3,PV.int 1])) C' ->
   Kl [.ref t,.int 3] C' fun v C1=>Z0 [.ref t,v] C1 fun c7 C2=>zH (jJ 9) iP (Jg (fV (jJ 0) (fV (tH (Xu 1) (fV (jJ 1) (fV (jJ 7) (fV (Jg aL) (fV (cC (.int 1)) aL))))) aL))) [some (.ref t),some (.ref ae),some (.int (k:Nat)),some (.bl aq),some (.int m),some (.ref D),some (.ref j),some (.tup (fs.map dQ)),some (.tup (Ln.ig I)),some c7,none] C2 fun c0 C3=>qH [c0] C3 fun c8 C4=>qw (.ref ae) (.int (k:Nat)) C4 fun c3 C5=>4<=sizeLine/\R (.tup [c3,.tup (fs.map dQ),c8,.tup (Ln.ig I)]) C5:=by
  intro I J C' h1 h2 h3 U T' k' x';refine⟨t,3,ns,rfl,T',by decide,by decide,fun v dc a7 bz b4 cb=>?_⟩;refine⟨t,v,ns,rfl,b4,a7,by lia,fun di dj b1 br dh wt dg a4 b5 cg=>?_⟩;refine Ds br rfl ?_;have bc:=cb.trans cg;refine fU (β:=Rk) xU (fun r=>r.ok bs [] 1) (fun ab=>Tp ab t ns/\Ex t b1 ab) (fun ab h=>h.2 _ _ wt br) (by lia) (fun z a9 L ⟨av,au⟩ Y=>?_) (fun aw a9 c6 ⟨av,au⟩ bo Z ho=>?_) ⟨b5,Ex.refl⟩
  .refine ⟨ie 0 rfl,?_⟩
   refine⟨t,j,[],ns,J,rfl,av,k'.ex (bc.trans au),AX _,fun r b2 M b6 cj=>⟨ie 2 rfl,Y r b2 ?_ ⟨b6,au.trans cj⟩⟩⟩;rw[U.bs,N.bs] at M;exact M
  .refine tK jQ ?_
   have bb:Ex t C' (gQ a9 c6 (.lst (aw.map xU))):=(bc.trans au).trans (Ex.new bo _);have c4:ae≠j:=fun z=>by rw[z,ao] at mn;cases mn
   have c1:C' ae=some (.lst (G.map PV.str)):=x' ae _ (fun z=>by
    rcases Aj.1 z with z | z
    .exact ag z
    .exact c4 (AF.1 z)) (a8 _ _ ag mn)
   refine sZ (bb _ _ ag c1) (Jl bj) ?_;refine⟨by decide,?_⟩;exact cn I J C' h1 h2 h3 U T' k' x' ⟨G[k],fs,aw,I⟩ rfl rfl rfl (fun c hc=>⟨ho c hc,Oz (a4.2 c.1 (by rw[<- Z];exact AM.2 ⟨c,hc,rfl⟩))⟩) (by show aw.length<=4;have:=Bz List.length Z;rw[AB] at this;lia) _ (av.new bo _) bb
 have cq:atI [PV.int 3,PV.int 1] (if decide ((((G.map PV.str).length:Nat):Int) > 3)=true then (1:Int) else 0)=some (.int 3)\/atI [PV.int 3,PV.int 1] (if decide ((((G.map PV.str).length:Nat):Int) > 3)=true then (1:Int) else 0)=some (.int 1):=by
  cases decide ((((G.map PV.str).length:Nat):Int) > 3) with
  |false=>exact .inl rfl
  |true=>exact .inr rfl
 rcases cq with ax | ax
 .refine sZ jQ ax ?_
  refine .inl ⟨t,j,[],ns,κ,rfl,ba,bq,bx,fun I J C' h1 h2 h3 U T' k' x'=>?_⟩;exact rest I J C' (fun x hx=>(h1 x hx).mono (by decide)) h2 h3 U T' k' x'
 .refine sZ jQ ax ?_
  refine .inr ⟨t,j,[],ns,κ,rfl,ba,bq,bx,fun I J C' h1 h2 h3 U T' k' x'=>?_⟩;exact rest I J C' (fun x hx=>(h1 x hx).mono (by decide)) h2 h3 U T' k' x'
end
def fJ(g:List Pt):List Str:=g.map (·.name)
structure jM(pts:List Pt):Prop where
 n1:1<=pts.length
 n6:pts.length<=6
 nd:(fJ pts).Nodup
 nn:∀s∈fJ pts,s.length<=8
 ok:∀k x,pts[k]?=some x->jw ((fJ pts).drop (k+1)) (pW k) x
def yF(h:z::zs=((List.range N).drop j).map (fun k:Nat=>PV.int (k:Nat))):j < N/\z=.int j/\zs=((List.range N).drop (j+1)).map (fun k:Nat=>PV.int (k:Nat)) :=by grind[List.drop_of_length_le,List.drop_eq_getElem_cons,List.map_cons,List.getElem_range,List.length_range]
section
variable {W:Wd}{a:Adr}
inductive Ga(ts:List PV)(C:CH)(Q:K1):Prop
 |mk(t:Addr)(ns:List Int)(z0:ts=[.ref t])(z1:Tp C t ns)(z2:∀(pts:List Pt)(C':CH),jM pts->Tp C' t ns->Ex t C C'->Q (.tup (pts.map Pt.pv)) C')
def Yq(T:Tx W a):Ok W a 26 40 R8 Ga:=by
 have S:=(T.F 40 rfl).s;have Z:=(nZ T).mono (show 1<=25 by decide);have nJ:=(uB T).mono (show 2<=25 by decide);have Ua:=wj T
 refine(T.F 40 rfl).o (fun G=>(xQ (fu 1 S.nd (cf (T.F 27 rfl) nJ G (qQ (cv 0) (dw (cx (gX (qQ zQ (qQ zQ (qQ zQ (qQ zQ (qQ zQ (qQ zQ (qQ zQ (dw zQ))))))))) (cf (T.F 26 rfl) Z G (qQ (cv 0) (dw zQ))))))))
  (xQ (fu 2 S.nd (oK wX sQ (cf (T.F 26 rfl) Z G (qQ (cv 0) (dw zQ))) zQ (wV _)))
  (kQ (wQ (o8 T.sX (sV rfl (S.c (by decide +kernel)) (S.k rfl rfl rfl (by decide +kernel)) (xS rfl T.kW (dw (j9 T.lZ (cv 1)))) (fun _ _ _ _ _=>xK) (fun _ _ _ _ _=>(cf (T.F 39 rfl) Ua G (qQ (cv 1) (qQ (cv 2) (qQ (cv 0) (dw (cv 3)))))))))))))) ?_
 rintro ts C R ⟨t,ns,rfl,hT,q⟩;refine uQ ⟨by decide,fun p1 N=>?_⟩;refine⟨t,8,ns,rfl,hT.new N _,by decide,by decide,fun v C1 aj ak T1 e1=>?_⟩
 apply sZ (e1 p1 _ (hT.ne N) jQ) (oV (ss:=[1,2,2,3,3,4,2,6]) 0 aj ak)
 have af:1<=([1,2,2,3,3,4,2,6]:List Int).getD v.toNat 0/\([1,2,2,3,3,4,2,6]:List Int).getD v.toNat 0<=6:=by
  have:v=0\/v=1\/v=2\/v=3\/v=4\/v=5\/v=6\/v=7:=by lia
  rcases this with rfl | rfl | rfl | rfl | rfl | rfl | rfl | rfl<;>decide
 generalize ([1,2,2,3,3,4,2,6]:List Int).getD v.toNat 0=m at af ⊢;refine⟨t,m,ns,rfl,T1,by lia,by lia,fun ah j C2 m2 n2 Y ao ab T2 e2=>?_⟩;refine uQ ⟨t,2,ns,rfl,T2,by decide,by decide,fun z C3 z0 z1 T3 e3=>?_⟩
 apply qX (mX _ _)
 have m3:=e3 _ _ Y m2
 apply sW m3
 rw[AB];refine⟨by lia,by lia,?_⟩;rw[Cf];refine eG (fun zs acc C'=>Tp C' t ns/\Ex t C3 C'/\∃g:List Pt,acc=g.map Pt.pv/\zs=((List.range j.length).drop g.length).map (fun k:Nat=>PV.int (k:Nat))/\g.length<=j.length/\fJ g=j.take g.length/\∀k x,g[k]?=some x->jw (j.drop (k+1)) (pW k) x) ?_ ?_ _ _ _ ⟨T3,Ex.refl,[],rfl,rfl,AX _,rfl,(fun k x h=>by simp at h)⟩
 .rintro x r acc C4 ⟨J,F,g,rfl,I,ag,O,U⟩ L hL
  obtain⟨hj,rfl,rfl⟩:=yF I;refine⟨t,ah,ns,j,g.length,_,rfl,J,F _ _ Y m3,Y,by lia,hj,fun x C5 hx ai T5 e5=>hL _ _ ⟨?_,T5,F.trans e5,g++[x],by rw[AS];rfl,by rw[AJ,Aa],by rw[AJ,Aa];lia,?_,fun k y D=>?_⟩⟩
  .rw [AB]
   exact AR (show g.length < 7 by lia) (by decide)
  .rw [AJ,Aa,List.take_add_one,<- O,hx]
   delta fJ
   rw[AS]
   rfl
  .rcases Nat.lt_trichotomy k g.length with h | h | h
   .rw [Be h] at D
    exact U k y D
   .subst h
    rw[Cz (AH _),Nat.sub_self] at D;cases D;exact ai
   .rw [Bb (by rw[AJ,Aa];lia)] at D
    cases D
 .rintro acc C4 ⟨J,F,g,rfl,I,ag,O,U⟩ p hp
  have ae:g.length=j.length:=by
   rcases DT g.length j.length with h | h
   .rw [Ao (by rwa [An])] at I
    cases I
   .lia
  apply tK jQ
  have M:fJ g=j:=by rw[O,ae,Bq (AH _)]
  exact q g _ ⟨by lia,by lia,by rw[M];exact ab.1,fun s hs=>Oz (ab.2 s (by rwa [M] at hs)),fun k x hk=>M▸U k x hk⟩ (J.new hp _) ((((((Ex.new N _).trans e1).trans e2).trans e3).trans F).trans (Ex.new hp _))
end
abbrev iw:=List (List Key×PV)
abbrev jr:=List (Key×PV)
abbrev qK(s n:Str):List Key:=[.inr s,.inr n]
def Bd(i:Int):Prop:=-1000000000<=i/\i<=1000000000
def kj(A:iw):Prop:=∀g∈A,∃i,g.2=.int i/\Bd i
def Nk(τ:jr):Prop:=∀g∈τ,∃i,g.2=.int i/\Bd i
def hU(A:iw)(s n:Str):Int:=match jV A (qK s n) with
 |some (.int i)=>i
 |_=>0
def JK(τ:jr)(n:Str):Int:=match sJ τ (.inr n) with
 |some (.int i)=>i
 |_=>0
def Sw(τ:jr)(ns:List Str):Prop:=∀n∈ns,(sJ τ (.inr n)).isSome=true
noncomputable def Z6(i:Int):Int:=if (if i < 1000000000 then i else 1000000000) > -1000000000 then (if i < 1000000000 then i else 1000000000) else -1000000000
def Rk.val(A:iw)(τ:jr):Rk->Int
 |.num i=>i
 |.turn n=>JK τ n
 |.ask s n=>hU A s n
 |.bin w x y=>if w = "less" then (if x.val A τ < y.val A τ then 1 else 0) else if w = "times" then Z6 (x.val A τ * y.val A τ) else Z6 (x.val A τ+y.val A τ)
 |.pick x y z=>if x.val A τ=0 then z.val A τ else y.val A τ
noncomputable def Rk.jc(A:iw)(τ:jr):Rk->iw->iw
 |.num _,R=>R
 |.turn _,R=>R
 |.ask s n,R=>iT R (qK s n) (.int (hU A s n))
 |.bin _ x y,R=>y.jc A τ (x.jc A τ R)
 |.pick x y z,R=>if x.val A τ=0 then z.jc A τ (x.jc A τ R) else y.jc A τ (x.jc A τ R)
def zj i:Bd (Z6 i):=by delta Z6 Bd;split<;>split<;>lia
def Wl[DecidableEq κ]{k:κ}(h:jV A k=some v):∃g∈A,g.2=v:=by
 delta jV at h
 cases e:A.find? fun g=>decide (g.1=k) with
 |none=>rw[e] at h;cases h
 |some x=>rw[e] at h;cases h;exact⟨x,Bc e,rfl⟩
def Qy{A:jr}(h:sJ A k=some v):∃g∈A,g.2=v:=by
 delta sJ at h
 cases e:A.find? fun g=>decide (g.1=k) with
 |none=>rw[e] at h;cases h
 |some x=>rw[e] at h;cases h;exact⟨x,Bc e,rfl⟩
def kH(h:kj A)s n:(jV A (qK s n)).getD (.int 0)=.int (hU A s n)/\Bd (hU A s n):=by
 delta hU
 cases e:jV A (qK s n) with
 |none=>exact⟨rfl,by delta Bd;decide⟩
 |some v =>
  obtain⟨D,q,rfl⟩:=Wl e;exact oQ (h D q) fun i j g=>j▸⟨rfl,g⟩
def JJ(h:Nk τ)(g:(sJ τ (.inr n)).isSome=true):sJ τ (.inr n)=some (.int (JK τ n))/\Bd (JK τ n):=by
 delta JK
 cases e:sJ τ (.inr n) with
 |none=>rw[e] at g;cases g
 |some v =>
  obtain⟨F,D,rfl⟩:=Qy e;exact oQ (h F D) fun i q j=>q▸⟨rfl,j⟩
def eU(j:kj A)(q:Nk τ)(D:Sw τ ts):∀{d}{r:Rk},r.ok bs ts d->Bd (r.val A τ):=by
 intro d r
 induction r generalizing d with
 |num i=>intro h;unfold Rk.ok at h;exact h
 |turn n=>intro h;unfold Rk.ok at h;exact(JJ q (D n h)).2
 |ask s n=>intro h;exact(kH j s n).2
 |bin w x y F g =>
  intro h
  cases d with
  |zero=>exact h.elim
  |succ d =>
   unfold Rk.val
   split
   .split<;>(delta Bd;decide)
   .split<;>exact zj _
 |pick x y z F g G =>
  intro h
  cases d with
  |zero=>exact h.elim
  |succ d =>
   unfold Rk.val
   split
   .exact G h.2.2
   .exact g h.2.1
structure jq(bs:List Str)(R:iw):Prop where
 nd:(R.map (·.1)).Nodup
 ks:∀k∈R.map (·.1),∃s n,k=qK s n/\iL bs s n
 vs:kj R
def Fg{κ:Type}[DecidableEq κ](R:List (κ×PV))k:(R.any fun g=>decide (g.1=k))=true↔k∈R.map (·.1) :=by grind
def gM[DecidableEq κ]R(k:κ)v:(iT R k v).map (·.1)=if k∈R.map (·.1) then R.map (·.1) else R.map (·.1)++[k]:=by
 delta iT
 by_cases h:k∈R.map (·.1)
 .rw [Ah ((Fg R k).2 h),Ah h,A8]
  refine CM fun x _=>?_;show(if x.1=k then (x.1,v) else x).1=x.1
  split<;>rfl
 .grind
def pC[DecidableEq κ]{x:κ×PV}(h:x∈iT R k v):x.2=v\/x∈R :=by grind[iT]
theorem jq.put(h:jq bs R)(I:iL bs s n)(hi:Bd i):jq bs (iT R (qK s n) (.int i)):=by
 refine⟨?_,?_,fun G D=>?_⟩
 .rw [gM]
  split
  .exact h.nd
  .next F =>
   rw[List.nodup_append];refine⟨h.nd,by simp,fun a j b q e=>?_⟩;cases AF.1 q;exact F (e▸j)
 .rw [gM]
  intro k g
  split at g
  .exact h.ks k g
  .rcases Ae.1 g with g | g
   .exact h.ks k g
   .grind
 .rcases pC D with e | e
  .grind
  .exact h.vs G e
theorem Xb{α:Type}[DecidableEq α]:∀(l m:List α),l.Nodup->(∀x∈l,x∈m)->l.length<=m.length
 |[],_,_,_=>AX _
 |x::l,m,g,hs=>by
  have j:=hs x AE;rw[BD] at g;have D:=Xb l (m.erase x) g.2 fun y q=>(List.mem_erase_of_ne (show y≠x from fun e=>g.1 (e▸q))).2 (hs y (AI _ q));rw[List.length_erase_of_mem j] at D;have:=List.length_pos_of_mem j;rw[AQ]
  lia
def eN(bs:List Str):List (List Key):=(["a","ab","b"]:List Str).map (qK "take")++((["a","ab","b"]:List Str).map (qK "down")++bs.map (qK "box"))
def Nf(h:iL bs s n):qK s n∈eN bs:=by
 rcases h with ⟨rfl | rfl,h⟩ | ⟨rfl,h⟩
 .exact Aw _ (AM.2 ⟨n,h,rfl⟩)
 .exact AV _ (Aw _ (AM.2 ⟨n,h,rfl⟩))
 .exact AV _ (AV _ (AM.2 ⟨n,h,rfl⟩))
def jq.len(h:jq bs R):R.length<=6+bs.length:=by
 have:=Xb (R.map (·.1)) (eN bs) h.nd fun k g=>by
  obtain⟨s,n,rfl,j⟩:=h.ks k g;exact Nf j
 rw[AB] at this
 have e:(eN bs).length=6+bs.length:=by
  delta eN
  rw[AJ,AJ,AB,AB,AB];show 3+(3+_)=_
  lia
 lia
def aT(A:iw)(bs:List Str)(P:iw->Prop):Prop:=∀R s n,iL bs s n->P R->P (iT R (qK s n) (.int (hU A s n)))
def dJ(g:kj A): aT A bs (jq bs):=fun _ s n h j=>j.put h (kH g s n).2
def lK(D:aT A bs P):∀{d}{r:Rk}{R},r.ok bs ts d->P R->P (r.jc A τ R):=by
 intro d r
 induction r generalizing d with
 |num i=>intro R _ h;exact h
 |turn n=>intro R _ h;exact h
 |ask s n=>intro R h g;unfold Rk.ok at h;exact D _ s n h g
 |bin w x y j q =>
  intro R h g
  cases d with
  |zero=>exact h.elim
  |succ d =>
   exact q h.2.2 (j h.2.1 g)
 |pick x y z j q F =>
  intro R h g
  cases d with
  |zero=>exact h.elim
  |succ d =>
   unfold Rk.jc
   split
   .exact F h.2.2 (j h.1 g)
   .exact q h.2.1 (j h.1 g)
structure Env(C:CH)(aa tt rr:Addr)(A:iw)(τ:jr)(R:iw):Prop where
 ha:C aa=some (.dT A)
 ht:C tt=some (.dK τ)
 hr:C rr=some (.dT R)
 ne:aa≠rr
def Env.nt(h:Env C aa tt rr A τ R):tt≠rr:=fun z=>by have:=h.ht;rw[z,h.hr] at this;cases this
def Env.ex{g:iw}(h:Env C aa tt rr A τ R)(e:f9 [rr] C C')(j:C' rr=some (.dT g)):Env C' aa tt rr A τ g :=
 ⟨e _ _ (fun z=>h.ne (AF.1 z)) h.ha,e _ _ (fun z=>h.nt (AF.1 z)) h.ht,j,h.ne⟩
def vY[DecidableEq κ]x l(k:κ):jV (x::l) k=if x.1=k then some x.2 else jV l k :=by grind[jV,decide_eq_true,decide_eq_false]
def Qw[DecidableEq κ]R k v(j:κ):jV (iT R k v) j=if j=k then some v else jV R j:=by
 delta iT
 by_cases b:(R.any fun g=>decide (g.1=k))=true
 .rw [Ah b]
  induction R with
  |nil=>cases b
  |cons x l F =>
   rw[A5,vY,vY];have G:(if x.1=k then (x.1,v) else x).1=x.1:=by split<;>rfl
   rw[G]
   by_cases e:x.1=j
   .lia
   .rw [Af e,Af e]
    by_cases D:(l.any fun g=>decide (g.1=k))=true
    .exact F D
    .have:(l.map fun g=>if g.1=k then (g.1,v) else g)=l:=(CM fun y q=>Af ((fun y q z=>D (List.any_eq_true.2 ⟨y,q,Ab z⟩)) y q)).trans (List.map_id l)
     rw[this];have I:x.1=k :=by grind
     rw[Af (fun z=>e (I.trans z.symm))]
 .rw [Af b]
  induction R with
  |nil =>
   rw[Ct,vY]
   by_cases e:k=j
   .lia
   .lia
  |cons x l F =>
   rw[BI] at b;rw[CC,vY,vY]
   by_cases J:x.1=j
   .lia
   .lia
structure tU(A:iw)(τ:jr)(bs ns:List Str):Prop where
 a:kj A
 t:Nk τ
 h:Sw τ ns
 b:bs.length<=4
section
variable {W:Wd}{a:Adr}
inductive Tw(ts:List PV)(C:CH)(Q:K1):Prop
 |mk(i:Int)(z0:ts=[.int i])(z1:Q (.int (Z6 i)) C)
def Li(T:Tx W a):Ok W a 1 2 ["number"] Tw:=by
 refine(T.F 2 rfl).o (fun g=>(kQ (wQ (iQ (VZ rfl) Ea rfl T.z_max rfl (qQ (oH aU zG (zY (v:=.int 1000000000) rfl T.wI ⟨_,rfl⟩ (fun _=>.int _))) (dw (iQ (aP rfl) tI rfl T.Wi rfl (qQ (zY (v:=.int 1000000000) rfl T.wI ⟨_,rfl⟩ (fun _=>.int _)) (dw (cv 0)))))))))) ?_;rintro ts C R ⟨i,rfl,q⟩;exact YC (OD q)
noncomputable def Ho(w:Str)(i j:Int):Int:=if w = "less" then (if i < j then 1 else 0) else if w = "times" then Z6 (i * j) else Z6 (i+j)
inductive PQ(ts:List PV)(C:CH)(Q:K1):Prop
 |mk(w:Str)(i j:Int)(z0:ts=[.str w,.int i,.int j])(z1:(w = "add"\/w = "times"\/w = "less"))(z2:Bd i)(z3:Bd j)(z4:Q (.int (Ho w i j)) C)
def Vn(T:Tx W a):Ok W a 2 8 ["word","first","second"] PQ:=by
 have D:=Li T
 refine(T.F 8 rfl).o (fun F=>(xQ (nQ (ct2 wX sQ (cv 0) vQ) (kQ (wQ (cf (T.F 2 rfl) D F (dw (xX pX dX (cv 1) (cv 2)))))) lQ)
  (xQ (nQ (ct2 wX sQ (cv 0) vQ) (kQ (wQ (cf (T.F 2 rfl) D F (dw (xX cP eM (cv 1) (cv 2)))))) lQ)
  (kQ (wQ (uS (ct2 yB sY (cv 1) (cv 2)) zQ zQ)))))) ?_
 rintro ts C R ⟨w,i,j,rfl,J,G,I,q⟩
 delta Ho at q
 apply qX (pQ _ _)
 rcases J with rfl | rfl | rfl
 .exact fZ rfl (eW ⟨_,rfl,q⟩)
 .refine aX rfl (zX (qX (pQ _ _) (fZ rfl ?_)))
  delta Bd at G I
  refine⟨.inr ⟨by omega,by omega⟩,?_⟩;exact⟨_,rfl,q⟩
 .refine aX rfl (zX (qX (pQ _ _) (aX rfl (zX (jg (vZ (fun g=>?_) fun g=>?_))))))
  .rwa [Ah (AZ g)] at q
  .rwa [Af (Ca g)] at q
inductive Nq(d:Nat)(ts:List PV)(C:CH)(Q:K1):Prop
 |mk(r:Rk)(aa tt rr:Addr)(A:iw)(τ:jr)(R:iw)(bs ns:List Str)(z0:ts=[r.pv,.ref aa,.ref tt,.ref rr])(z1:r.ok bs ns d)(z2:Env C aa tt rr A τ R)(z3:tU A τ bs ns)(z4:jq bs R)(z5:∀C',C' rr=some (.dT (r.jc A τ R))->f9 [rr] C C'->Q (.int (r.val A τ)) C')
def oA(T:Tx W a)(d:Nat):Ok W a (d+3) 7 ["reckoning","answers","turns","asked"] (Nq d):=by
 have ag:∀n,(∀d',n=d'+1->Ok W a (d'+3) 7 ["reckoning","answers","turns","asked"] (Nq d'))->Ok W a (n+3) 7 ["reckoning","answers","turns","asked"] (Nq n):=by
  intro n ih;have S:=(T.F 7 rfl).s;have Ud:=(Vn T).mono (show 2<=n+2 by lia)
  have lW:Ok W a (n+2) 7 ["reckoning","answers","turns","asked"] (fun ts C Q=>∃d',n=d'+1/\Nq d' ts C Q):=by
   cases n with
   |zero=>exact eJ fun ts C Q zz=>oQ zz fun d' e _=> by lia
   |succ d' =>
    have:=ih d' rfl
    have e:(fun ts C Q=>∃ab,d'+1=ab+1/\Nq ab ts C Q)=Nq d':=by
     funext ts C Q
     refine propext ⟨fun zz=>oQ zz fun ab e h=> ?_,fun h=>⟨d',rfl,h⟩⟩;cases Ax e;exact h
    rw[e];exact this
  refine(T.F 7 rfl).o (fun F=>(xQ (fu 4 S.nd (cx (cv 0) zQ))
  (xQ (nQ (ct2 wX sQ (cv 4) vQ) (kQ (wQ (cx (cv 0) zQ))) lQ)
  (xQ (nQ (ct2 wX sQ (cv 4) vQ) (kQ (wQ (zJ (xZ F) (cv 2) (cx (cv 0) zQ) (fun _ _=>rfl)))) lQ)
  (xQ (nQ (Z7 Vi zx (cv 4) (zY (v:=.ref a.ASKING) (t:=.kt [.str "take",.str "box",.str "down"]) rfl T.Kn rfl (fun H=>.kt (T.JY H) (.cons (.str _) (.cons (.str _) (.cons (.str _) .nil))))) rfl) (xQ (fu 5 S.nd (cQ (qQ (cv 4) (dw (cx (cv 0) zQ)))))
  (xQ (fI (xZ F) (cv 3) (cv 5) (XQ (xZ F) (cv 1) (cv 5) zQ))
  (kQ (wQ (MT (xZ F) (cv 3) (cv 5) (fun _ _=>rfl)))))) lQ)
  (xQ (fu 6 S.nd (cf (T.F 7 rfl) lW F (qQ (cx (cv 0) zQ) (qQ (cv 1) (qQ (cv 2) (dw (cv 3)))))))
  (xQ (nQ (ct2 wX sQ (cv 4) vQ) (xQ (fu 7 S.nd (uS (ct2 wX sQ (cv 6) zQ) (cx (cv 0) zQ) (cx (cv 0) zQ)))
  (kQ (wQ (cf (T.F 7 rfl) lW F (qQ (cv 7) (qQ (cv 1) (qQ (cv 2) (dw (cv 3))))))))) lQ)
  (xQ (fu 8 S.nd (cf (T.F 7 rfl) lW F (qQ (cx (cv 0) zQ) (qQ (cv 1) (qQ (cv 2) (dw (cv 3)))))))
  (kQ (wQ (cf (T.F 8 rfl) Ud F (qQ (cv 4) (qQ (cv 6) (dw (cv 8))))))))))))))) ?_
  rintro ts C Q ⟨r,aa,tt,rr,A,τ,R,bs,ns,rfl,j,D,g,M,q⟩;refine uQ ?_
  cases r with
  |num i =>
   refine rX jX ?_;refine qX (pQ _ _) ?_;refine fZ (by decide) ?_;refine rX (v:=.int i) rfl ?_;exact q C D.hr f9.refl
  |turn m =>
   unfold Rk.ok at j;refine rX jX ?_;refine qX (pQ _ _) ?_;refine aX (by decide) ?_;refine zX ?_;refine qX (pQ _ _) ?_;refine fZ (by decide) ?_;refine rX (v:=.str m) rfl ?_;refine bV D.ht rfl (JJ g.t (g.h m j)).1 ?_;exact q C D.hr f9.refl
  |ask s m =>
   unfold Rk.ok at j;refine rX jX ?_;refine qX (pQ _ _) ?_
   have hs:s = "take"\/s = "down"\/s = "box":=by
    rcases j with ⟨h | h,_⟩ | ⟨h,_⟩
    .exact .inl h
    .exact .inr (.inl h)
    .exact .inr (.inr h)
   have ae:decide (s = "num")=false:=by rcases hs with rfl | rfl | rfl<;>decide
   have af:decide (s = "turn")=false:=by rcases hs with rfl | rfl | rfl<;>decide
   refine aX (by rw[ae];rfl) ?_;refine zX ?_;refine qX (pQ _ _) ?_;refine aX (by rw[af];rfl) ?_;refine zX ?_;refine YX (ts:=[.str "take",.str "box",.str "down"]) (w:=.str s) (vs:=[.str "take",.str "box",.str "down"]) rfl rfl rfl ?_;refine fZ (by rcases hs with rfl | rfl | rfl<;>rfl) ?_;refine uQ ?_;refine rX (v:=.str m) rfl ?_;refine⟨ie 2 rfl,?_⟩;refine dZ ?_;refine⟨YR D.ha,?_⟩
   refine Wp (k:=qK s m) D.ha rfl (kH g.a s m).1 ?_;have hb:=g.b;refine Zb (k:=qK s m) D.hr rfl (by have:=M.len;lia) ?_;refine NQ (k:=qK s m) jQ rfl (by rw[Qw,Ah rfl]) ?_;exact q _ jQ (f9.refl.at (by simp) _)
  |bin w x y =>
   cases n with
   |zero=>delta Rk.ok at j;exact j.elim
   |succ d' =>
   unfold Rk.ok at j;obtain⟨N,I,Z⟩:=j;have ae:decide (w = "num")=false:=by rcases N with rfl | rfl | rfl<;>decide
   have af:decide (w = "turn")=false:=by rcases N with rfl | rfl | rfl<;>decide
   refine rX jX ?_;refine qX (pQ _ _) ?_;refine aX (by rw[ae];rfl) ?_;refine zX ?_;refine qX (pQ _ _) ?_;refine aX (by rw[af];rfl) ?_;refine zX ?_;refine YX (ts:=[.str "take",.str "box",.str "down"]) (w:=.str w) (vs:=[.str "take",.str "box",.str "down"]) rfl rfl rfl ?_;refine aX (by rcases N with rfl | rfl | rfl<;>rfl) ?_;refine zX ?_
   try dsimp only
   refine uQ ?_;refine rX (v:=x.pv) rfl ?_;refine⟨d',rfl,x,aa,tt,rr,A,τ,R,bs,ns,rfl,I,D,g,M,fun C1 m1 G=>?_⟩;have U:=D.ex G m1;have Y:=lK (τ:=τ) (dJ g.a) I M;refine qX (pQ _ _) ?_;refine aX (by rcases N with rfl | rfl | rfl<;>decide) ?_;refine zX ?_
   try dsimp only
   refine uQ ?_;refine rX (v:=y.pv) rfl ?_;refine⟨d',rfl,y,aa,tt,rr,A,τ,_,bs,ns,rfl,Z,U,g,Y,fun C2 O J=>?_⟩;have bx:=eU g.a g.t g.h I;have ah:=eU g.a g.t g.h Z
   exact⟨w,_,_,rfl,N,bx,ah,q C2 O (G.trans J)⟩
  |pick x y z =>
   cases n with
   |zero=>delta Rk.ok at j;exact j.elim
   |succ d' =>
   unfold Rk.ok at j;obtain⟨I,Z,oz⟩:=j;refine rX jX ?_;refine qX (pQ _ _) ?_;refine aX (by decide) ?_;refine zX ?_
   try dsimp only
   refine qX (pQ _ _) ?_;refine aX (by decide) ?_;refine zX ?_
   try dsimp only
   refine YX (ts:=[.str "take",.str "box",.str "down"]) (w:=.str "pick") (vs:=[.str "take",.str "box",.str "down"]) rfl rfl rfl ?_;refine aX rfl ?_;refine zX ?_
   try dsimp only
   refine uQ ?_;refine rX (v:=x.pv) rfl ?_;refine⟨d',rfl,x,aa,tt,rr,A,τ,R,bs,ns,rfl,I,D,g,M,fun C1 m1 G=>?_⟩;have U:=D.ex G m1;have Y:=lK (τ:=τ) (dJ g.a) I M
   try dsimp only
   refine qX (pQ _ _) ?_;refine fZ (by decide) ?_;refine uQ ?_;refine qX (mX _ _) ?_
   by_cases h0:x.val A τ=0
   .refine fZ (Ab h0) ?_
    refine rX (v:=z.pv) rfl ?_
    try dsimp only
    refine⟨d',rfl,z,aa,tt,rr,A,τ,_,bs,ns,rfl,oz,U,g,Y,fun C2 O J=>?_⟩;have:=q C2 (by unfold Rk.jc;rw[Ah h0];exact O) (G.trans J);unfold Rk.val at this;rw[Ah h0] at this;exact this
   .refine aX (AN h0) ?_
    refine rX (v:=y.pv) rfl ?_
    try dsimp only
    refine⟨d',rfl,y,aa,tt,rr,A,τ,_,bs,ns,rfl,Z,U,g,Y,fun C2 O J=>?_⟩;have:=q C2 (by unfold Rk.jc;rw[Af h0];exact O) (G.trans J);unfold Rk.val at this;rw[Af h0] at this;exact this
 induction d with
 |zero=>exact ag 0 fun d' e=>by lia
 |succ d ih=>exact ag (d+1) fun d' e=>by cases Ax e;exact ih
end
structure pq where
 ev:Str
 rank:Int
 last:Bool
 ch:List (Str×Str×Int)
inductive Wt where
 |plain (sp:List Key) (tag:Str) (sets:List (Str×Int)) (hands:List pq) (row:List Wt)
 |part (sp:List Key) (name:Str) (gives:List (Str×Int))
 |give (sp:List Key) (name:Str) (num:Int) (row:List Wt)
noncomputable def VN(c:Str×Str×Int):PV:=.tup [.str c.1,.str c.2.1,.int c.2.2]
def pq.pv(h:pq):PV:=.tup [.str h.ev,.int h.rank,.bl h.last,.tup (h.ch.map VN)]
mutual
def Wt.pv:Wt->PV
 |.plain sp j s h r=>.tup [.str "plain",pV sp,.str j,.tup (s.map dQ),.tup (h.map pq.pv),.tup (Wt.ig r)]
 |.part sp n g=>.tup [.str "part",pV sp,.str n,.tup (g.map dQ)]
 |.give sp n i r=>.tup [.str "give",pV sp,.str n,.int i,.tup (Wt.ig r)]
def Wt.ig:List Wt->List PV
 |[]=>[]
 |w::q=>w.pv::Wt.ig q
end
theorem Wt.jf g:Wt.ig g=g.map Wt.pv:=by
 induction g with
 |nil=>rfl
 |cons l g j=>rw[A5,<- j];rfl
def Wt.ou xs ys:Wt.ig (xs++ys)=Wt.ig xs++Wt.ig ys :=by grind[Wt.jf,List.map_append]
def Wt.oh xs:(Wt.ig xs).length=xs.length:=by rw[Wt.jf,AB]
section
variable (A:iw)(τ:jr)
def mJ(ps:List (Str×Rk)):List (Str×Int):=ps.map fun c=>(c.1,c.2.val A τ)
def cK(ps:List (Str×Rk))(R:iw):iw:=ps.foldl (fun R c=>c.2.jc A τ R) R
def kS(cs:List (Str×Str×Rk)):List (Str×Str×Int):=cs.map fun c=>(c.1,c.2.1,c.2.2.val A τ)
def lL(cs:List (Str×Str×Rk))(R:iw):iw:=cs.foldl (fun R c=>c.2.2.jc A τ R) R
def vE(h:Hd):pq:=⟨h.ev,h.rank,h.last,kS A τ h.ch⟩
def iJ(hs:List Hd):List pq:=hs.map (vE A τ)
def zK(hs:List Hd)(R:iw):iw:=hs.foldl (fun R h=>lL A τ h.ch R) R
def rG:Option Rk->Key
 |none=>.inl none
 |some r=>.inl (some (r.val A τ))
def qY:Option Rk->iw->iw
 |none,R=>R
 |some r,R=>r.jc A τ R
end
def zN(N:jr)(k:Key):Int:=match sJ N k with
 |some (.int i)=>i
 |_=>0
noncomputable def jN(i:Int):Nat:=(if i < 8 then i else 8).toNat
def nL i:jN i<=8:=by delta jN;split<;>lia
abbrev mq:=List Wt×jr×iw
def fY(N:jr)(k:Key):List Key:=[k,.inl (some (zN N k))]
def oY(N:jr)(k:Key):jr:=kJ N k (.int (zN N k+1))
mutual
def iX(A:iw):Ln->jr->mq->mq
 |.when r q D,τ,st=>if r.val A τ=0 then eQ A D τ (st.1,st.2.1,r.jc A τ st.2.2) else eQ A q τ (st.1,st.2.1,r.jc A τ st.2.2)
 |.each n r j,τ,st=>(List.range (jN (r.val A τ))).foldl (fun st k=>eQ A j (kJ τ (.inr n) (.int (k:Nat))) st) (st.1,st.2.1,r.jc A τ st.2.2)
 |.part k n g,τ,st=>(st.1++[.part (fY st.2.1 (rG A τ k)) n (kU (mJ A τ g))],oY st.2.1 (rG A τ k),cK A τ g (qY A τ k st.2.2))
 |.give k n r j,τ,st =>
  let d:=eQ A j τ ([],[],r.jc A τ (qY A τ k st.2.2))
  (st.1++[.give (fY st.2.1 (rG A τ k)) n (r.val A τ) d.1],oY st.2.1 (rG A τ k),d.2.2)
 |.plain k F s hs j,τ,st =>
  let d:=eQ A j τ ([],[],zK A τ hs (cK A τ s (qY A τ k st.2.2)))
  (st.1++[.plain (fY st.2.1 (rG A τ k)) F (kU (mJ A τ s)) (iJ A τ hs) d.1],oY st.2.1 (rG A τ k),d.2.2)
def eQ(A:iw):List Ln->jr->mq->mq
 |[],_,st=>st
 |l::j,τ,st=>eQ A j τ (iX A l τ st)
end
def tF(A:iw)(τ:jr)(sp:List Key):Ln->iw->Wt×iw
 |.part _ n g,R=>(.part sp n (kU (mJ A τ g)),cK A τ g R)
 |.give _ n r j,R=>(.give sp n (r.val A τ) (eQ A j τ ([],[],r.jc A τ R)).1,(eQ A j τ ([],[],r.jc A τ R)).2.2)
 |.plain _ q s hs j,R=>(.plain sp q (kU (mJ A τ s)) (iJ A τ hs) (eQ A j τ ([],[],zK A τ hs (cK A τ s R))).1,(eQ A j τ ([],[],zK A τ hs (cK A τ s R))).2.2)
 |_,R=>(.part sp "" [],R)
def qJ A τ st:eQ A [] τ st=st:=by rfl
def rZ A l g τ st:eQ A (l::g) τ st=eQ A g τ (iX A l τ st):=by rw[eQ]
def ZM A xs ys τ st:eQ A (xs++ys) τ st=eQ A ys τ (eQ A xs τ st):=by
 induction xs generalizing st with
 |nil=>rfl
 |cons x xs g=>rw[CC,rZ,rZ,g]
noncomputable def yo:Ln->Bool
 |.when _ _ _=>false
 |.each _ _ _=>false
 |_=>true
noncomputable def bB:Ln->Option Rk
 |.plain k _ _ _ _=>k
 |.part k _ _=>k
 |.give k _ _ _=>k
 |_=>none
def ZL A τ l F N R(h:yo l=true):
  iX A l τ (F,N,R)=(F++[(tF A τ (fY N (rG A τ (bB l))) l (qY A τ (bB l) R)).1],oY N (rG A τ (bB l)),(tF A τ (fY N (rG A τ (bB l))) l (qY A τ (bB l) R)).2):=by
 cases l with
 |plain k G s hs j=>rfl
 |part k n g=>rfl
 |give k n r j=>rfl
 |when r q D=>cases h
 |each n r j=>cases h
theorem uU{α:Type}{f}{m:α->Nat}(h:∀x k,m (f x k)<=m x+c):∀(l:List Nat)x,m (l.foldl f x)<=m x+l.length * c
 |[],x=>by show m x<=m x+0 * c;lia
 |k::l,x=>by
  have h1:=uU h l (f x k);have h2:=h x k;rw[List.foldl_cons,AQ]
  lia
mutual
theorem Xk(A:iw):∀(l:Ln)(τ:jr)(st:mq),(iX A l τ st).1.length<=st.1.length+l.tw/\(iX A l τ st).2.1.length<=st.2.1.length+l.tw
 |.when r q D,τ,st=>by
  rw[iX];have h1:=lJ A q τ (st.1,st.2.1,r.jc A τ st.2.2);have h2:=lJ A D τ (st.1,st.2.1,r.jc A τ st.2.2);show _<=_+(Ln.il q+Ln.il D)/\_<=_+(Ln.il q+Ln.il D)
  split
  .exact ⟨AW h2.1 (by show st.1.length+_<=_;omega),AW h2.2 (by show st.2.1.length+_<=_;omega)⟩
  .exact ⟨AW h1.1 (by show st.1.length+_<=_;omega),AW h1.2 (by show st.2.1.length+_<=_;omega)⟩
 |.each n r j,τ,st=>by
  rw[iX];have c:=nL (r.val A τ);have F:=uU (f:=fun st k=>eQ A j (kJ τ (.inr n) (.int (k:Nat))) st) (m:=fun st=>st.1.length) (c:=Ln.il j) (fun x k=>(lJ A j _ x).1) (List.range (jN (r.val A τ))) (st.1,st.2.1,r.jc A τ st.2.2);have G:=uU (f:=fun st k=>eQ A j (kJ τ (.inr n) (.int (k:Nat))) st) (m:=fun st=>st.2.1.length) (c:=Ln.il j) (fun x k=>(lJ A j _ x).2) (List.range (jN (r.val A τ))) (st.1,st.2.1,r.jc A τ st.2.2)
  rw[An] at F G;have I:jN (r.val A τ) * Ln.il j<=8 * Ln.il j:=Bi _ c;show _<=st.1.length+8 * Ln.il j/\_<=st.2.1.length+8 * Ln.il j;exact⟨AW F (by show st.1.length+_<=_;omega),AW G (by show st.2.1.length+_<=_;omega)⟩
 |.part k n g,τ,st=>by
  rw[iX];refine⟨by show(st.1++[_]).length<=st.1.length+1;rw[AJ,Aa];exact AH _,sD _ _ _⟩
 |.give k n r j,τ,st=>by
  rw[iX];refine⟨by show(st.1++[_]).length<=st.1.length+(1+_);rw[AJ,Aa];omega,AW (sD _ _ _) (by show _<=_+(1+_);omega)⟩
 |.plain k J s hs j,τ,st=>by
  rw[iX];refine⟨by show(st.1++[_]).length<=st.1.length+(1+_);rw[AJ,Aa];omega,AW (sD _ _ _) (by show _<=_+(1+_);omega)⟩
theorem lJ(A:iw):∀(j:List Ln)(τ:jr)(st:mq),(eQ A j τ st).1.length<=st.1.length+Ln.il j/\(eQ A j τ st).2.1.length<=st.2.1.length+Ln.il j
 |[],τ,st=>by rw[qJ];exact⟨BV _ _,BV _ _⟩
 |l::j,τ,st=>by
  rw[rZ];have h1:=Xk A l τ st;have h2:=lJ A j τ (iX A l τ st);show _<=_+(l.tw+Ln.il j)/\_<=_+(l.tw+Ln.il j);omega
end
theorem rJ(g:aT A bs P): ∀{ps}{R},kN bs ns d ps->P R->P (cK A τ ps R)
 |[],R,_,h=>h
 |c::ps,R,j,h=>rJ (ps:=ps) g (fun x q=>j x (AI _ q)) (lK g (j c AE).1 h)
theorem cN(g:aT A bs P): ∀{cs}{R},(∀c∈cs,c.2.2.ok bs ns d)->P R->P (lL A τ cs R)
 |[],R,_,h=>h
 |c::ps,R,j,h=>cN (cs:=ps) g (fun x q=>j x (AI _ q)) (lK g (j c AE) h)
theorem uY(g:aT A bs P):∀{hs}{R},(∀h∈hs,h.ok bs ns)->P R->P (zK A τ hs R)
 |[],R,_,h=>h
 |c::ps,R,j,h=>uY (hs:=ps) g (fun x q=>j x (AI _ q)) (cN g (j c AE).c h)
def lM(j:aT A bs P)(h:gT bs ns k)(g:P R):P (qY A τ k R):=by
 cases k with
 |none=>exact g
 |some r=>exact lK j h g
theorem cS{P:iw->Prop}(h1:∀l ns τ st,gw bs rs d ns l->P st.2.2->P (iX A l τ st).2.2):∀g ns τ st,(∀x∈g,gw bs rs d ns x)->P st.2.2->P (eQ A g τ st).2.2
 |[],ns,τ,st,_,h=>by rwa [qJ]
 |l::g,ns,τ,st,j,h =>cS h1 g ns τ _ (fun x q=>j x (AI _ q)) (h1 l ns τ st (j l AE) h)
theorem rY{α β:Type}{f}{P:α->Prop}(h:∀x k,P x->P (f x k)):∀(l:List β)x,P x->P (l.foldl f x)
 |[],x,p=>p
 |k::l,x,p=>rY h l _ (h x k p)
def La(j:aT A bs P):∀d l ns τ st,gw bs rs d ns l->P st.2.2->P (iX A l τ st).2.2:=by
 intro d
 induction d with
 |zero=>intro l ns τ st h;exact h.elim
 |succ d M =>
  intro l ns τ st h F;have G:=cS M
  cases l with
  |plain k S s hs I =>
   exact rT h fun h1 h2 q D J=>G I ns τ _ D (uY j q.1 (rJ j h2.1 (lM j h1 F)))
  |part k n g =>
   exact VJ h fun h1 h2 q D=>rJ j q (lM j h1 F)
  |give k n r I =>
   exact rT h fun h1 h2 q D J=>G I ns τ _ D (lK j q (lM j h1 F))
  |when r N O =>
   obtain⟨h1,⟨h2,q⟩,D,J⟩:=h;rw[iX]
   split
   .exact G O ns τ _ D (lK j h1 F)
   .exact G N ns τ _ h2 (lK j h1 F)
  |each n r I =>
   exact XB h fun h1 h2 q=>rY (fun x k p=>G I [n] _ x h2 p) _ _ (lK j h1 F)
def gJ(j:aT A bs P)(h:∀x∈g,gw bs rs d ns x)(q:P st.2.2):P (eQ A g τ st).2.2:=cS (La j d) g ns τ st h q
def jl(N:jr):Prop:=∀g∈N,∃i,g.2=.int i
theorem jl.put(h:jl N)k i:jl (kJ N k (.int i)):=by
 intro q g
 delta kJ at g
 split at g
 .obtain ⟨x,j,rfl⟩:=AM.1 g
  split
  .exact ⟨i,rfl⟩
  .exact h x j
 .rcases Ae.1 g with g | g
  .exact h q g
  .grind
def MN(h:jl N)k:(sJ N k).getD (.int 0)=.int (zN N k):=by
 delta zN
 cases e:sJ N k with
 |none=>rfl
 |some v =>
  obtain⟨q,j,rfl⟩:=Qy e;obtain⟨i,g⟩:=h q j;rw[g]
  rfl
mutual
theorem Ld(A:iw):∀(l:Ln)(τ:jr)(st:mq),jl st.2.1->jl (iX A l τ st).2.1
 |.when r q D,τ,st,h=>by
  rw[iX]
  split
  .exact qU A D τ _ h
  .exact qU A q τ _ h
 |.each n r j,τ,st,h=>by
  rw[iX];exact rY (P:=fun st:mq=>jl st.2.1) (fun x k p=>qU A j _ x p) _ _ h
 |.part k n g,τ,st,h=>by rw[iX];exact h.put _ _
 |.give k n r j,τ,st,h=>by rw[iX];exact h.put _ _
 |.plain k F s hs j,τ,st,h=>by rw[iX];exact h.put _ _
theorem qU(A:iw):∀(j:List Ln)(τ:jr)(st:mq),jl st.2.1->jl (eQ A j τ st).2.1
 |[],τ,st,h=>by rw[qJ];exact h
 |l::j,τ,st,h=>by rw[rZ];exact qU A j τ _ (Ld A l τ st h)
end
def VR(I:List PV->List PV->CH->Prop)(D:∀x r acc C,I (x::r) acc C->∃ts,x=.tup ts/\ts.length=n/\∀L:K1,(∀y C2,acc.length < sizeLine/\I r (acc++[y]) C2->L y C2)->c (ts.map some++F) C L)(g:∀acc C,I [] acc C->∀p,C p=none->Q (.ref p) (gQ C p (.lst acc))):
  ∀xs acc C,I xs acc C->zF n iP c F Q xs acc C:=by
 intro xs
 induction xs with
 |nil=>intro acc C h;exact g acc C h
 |cons x r q =>
  intro acc C h;exact hZ (D x r acc C h) fun ts e j st=>⟨ts,e,j,st _ fun y C2 z=>⟨z.1,q _ _ z.2⟩⟩
section
variable {W:Wd}{a:Adr}
structure Sf(a:Adr)(C:CH)(x aa rr:Addr)(A R:iw):Prop where
 ins:∃dx,C x=some (.ins a.Drawer dx [("answers",.ref aa),("asked",.ref rr)])
 ans:C aa=some (.dT A)
 ask:C rr=some (.dT R)
 ne:aa≠rr
def Sf.nx(h:Sf a C x aa rr A R):x≠rr:=fun e=>by
 obtain⟨dx,h1⟩:=h.ins;rw[e,h.ask] at h1;cases h1
theorem Sf.keep{g:iw}(h:Sf a C x aa rr A R)(e:f9 S C C')(D:x∉S)(q:aa∉S)(j:C' rr=some (.dT g)):Sf a C' x aa rr A g :=
 ⟨let ⟨dx,h1⟩:=h.ins;⟨dx,e _ _ D h1⟩,e _ _ q h.ans,j,h.ne⟩
def Sf.keep'(h:Sf a C x aa rr A R)(e:f9 S C C')(q:x∉S)(j:aa∉S)(g:rr∉S):Sf a C' x aa rr A R :=
 h.keep e q j (e _ _ g h.ask)
def Sf.rd{g:iw}(h:Sf a C x aa rr A R)(e:f9 [rr] C C')(j:C' rr=some (.dT g)):Sf a C' x aa rr A g :=
 h.keep e (fun z=>h.nx (AF.1 z)) (fun z=>h.ne (AF.1 z)) j
def Sf.new(h:Sf a C x aa rr A R)(g:C p=none)o:Sf a (gQ C p o) x aa rr A R :=h.keep' (f9.refl.put g o) (B9) (B9) (B9)
def Sf.nd(h:Sf a C x aa rr A R)(m:C g=some (.dK cs)):x≠g/\aa≠g/\rr≠g:=by
 obtain⟨dx,h1⟩:=h.ins;refine⟨fun e=>?_,fun e=>?_,fun e=>?_⟩
 .lia
 .have:=h.ans;rw[e,m] at this;cases this
 .have:=h.ask;rw[e,m] at this;cases this
def Sf.nl(h:Sf a C x aa rr A R)(m:C p=some (.lst xs)):x≠p/\aa≠p/\rr≠p:=by
 obtain⟨dx,h1⟩:=h.ins;refine⟨fun e=>?_,fun e=>?_,fun e=>?_⟩
 .lia
 .have:=h.ans;rw[e,m] at this;cases this
 .have:=h.ask;rw[e,m] at this;cases this
def Sf.nn(h:Sf a C x aa rr A R)(m:C p=none):x≠p/\aa≠p/\rr≠p:=by
 obtain⟨dx,h1⟩:=h.ins;refine⟨fun e=>?_,fun e=>?_,fun e=>?_⟩
 .lia
 .have:=h.ans;rw[e,m] at this;cases this
 .have:=h.ask;rw[e,m] at this;cases this
inductive PX(a:Adr)(ts:List PV)(C:CH)(Q:K1):Prop
 |mk(x dx aa:Addr)(A:iw)(z0:ts=[.ref x,.ref aa])(z1:C x=some (.ins a.Drawer dx []))(z2:C aa=some (.dT A))(z3:∀C' rr,C rr=none->Sf a C' x aa rr A []->f9 [x] C C'->Q .non C')
def ok_init(T:Tx W a):Ok W a 1 55 ["self","answers"] (PX a):=by
 refine(T.F 55 rfl).o (fun N=>(xQ (Z8 T.bX T.zU (cv 0) (cv 1))
  (kQ (Z8 T.bX T.eY (cv 0) sI)))) ?_
 rintro ts C R ⟨x,dx,M,A,rfl,G,g,q⟩;have I:M≠x:=fun e=>by rw[e,G] at g;cases g
 apply Zn G (by decide)
 intro F D
 have j:C F=none:=by
  rw[yQ (fun z=>by rw[z,jQ] at D;cases D)] at D;exact D
 have J:F≠x:=fun e=>by rw[e,G] at j;cases j
 apply Zn (by rw[yQ (Ne.symm J)];exact jQ) (by show 1 < 1000;decide)
 refine q _ F j ⟨⟨dx,?_⟩,?_,?_,fun e=>by rw[e,j] at g;cases g⟩ ?_
 .rw [jQ]
  rfl
 .rw [yQ I,yQ (fun e=>by rw[e,j] at g;cases g),yQ I];exact g
 .exact (yQ J)▸jQ
 .exact ((f9.refl.at AE _).put j _).at AE _
inductive Ra(a:Adr)(d:Nat)(ts:List PV)(C:CH)(Q:K1):Prop
 |mk(r:Rk)(x aa tt rr:Addr)(A:iw)(τ:jr)(R:iw)(bs ns:List Str)(z0:ts=[.ref x,r.pv,.ref tt])(z1:r.ok bs ns d)(z2:Sf a C x aa rr A R)(z3:C tt=some (.dK τ))(z4:tU A τ bs ns)(z5:jq bs R)(z6:∀C',Sf a C' x aa rr A (r.jc A τ R)->f9 [rr] C C'->Q (.int (r.val A τ)) C')
def dM(T:Tx W a)d:Ok W a (d+4) 56 ["self","reckoning","turns"] (Ra a d):=by
 have J:=oA T d;refine(T.F 56 rfl).o (fun I=>(kQ (wQ (cf (T.F 7 rfl) J I (qQ (cv 1) (qQ (kD T.bX T.zU (cv 0)) (qQ (cv 2) (dw (kD T.bX T.eY (cv 0)))))))))) ?_;rintro ts C Q ⟨r,x,aa,tt,rr,A,τ,R,bs,ns,rfl,O,g,N,G,F,q⟩;obtain⟨dx,j⟩:=g.ins;exact lR j rfl (lR j rfl ⟨r,aa,tt,rr,A,τ,R,bs,ns,rfl,O,⟨g.ans,N,g.ask,g.ne⟩,G,F,fun C1 M D=>q C1 (g.rd D M) D⟩)
inductive uE(a:Adr)(ts:List PV)(C:CH)(Q:K1):Prop
 |mk(ps:List (Str×Rk))(x aa tt rr:Addr)(A:iw)(τ:jr)(R:iw)(bs ns:List Str)(z0:ts=[.ref x,.tup (ps.map xU),.ref tt])(z1:kN bs ns 2 ps)(z2:ps.length<=4)(z3:Sf a C x aa rr A R)(z4:C tt=some (.dK τ))(z5:tU A τ bs ns)(z6:jq bs R)(z7:∀C' l,C l=none->C' l=some (.lst ((mJ A τ ps).map dQ))->Sf a C' x aa rr A (cK A τ ps R)->f9 [rr] C C'->Q (.ref l) C')
def dH(T:Tx W a):Ok W a 7 57 ["self","pairs","turns"] (uE a):=by
 have S:=(T.F 57 rfl).s;have hX:=dM T 2;refine(T.F 57 rfl).o (fun hr=>(kQ (wQ (sV rfl (S.c (by decide +kernel)) (S.k rfl rfl rfl (by decide +kernel)) (jD (cv 1)) (fun _ _ _ _ _=>xK) (fun _ _ _ _ _=>(cQ (qQ (cx (cv 0) zQ) (dw (cm T.bX (T.F 56 rfl) T.wZ hX hr (cv 1) (qQ (cx (cv 0) zQ) (dw (cv 3)))))))))))) ?_;rintro ts C Q ⟨ps,x,aa,tt,rr,A,τ,R,bs,ns,rfl,J,hl,O,M,I,Z,q⟩;refine eG (fun zs acc C1=>∃ds es:List (Str×Rk),ps=ds++es/\zs=es.map xU/\acc=(mJ A τ ds).map dQ/\Sf a C1 x aa rr A (cK A τ ds R)/\f9 [rr] C C1) ?_ ?_ _ _ _ ⟨[],ps,rfl,rfl,rfl,O,f9.refl⟩
 .rintro z zs acc C1 ⟨ds,es,g,j,rfl,D,F⟩ L Y
  cases es with
  |nil=>cases j
  |cons p es =>
   injection j with j U
   subst j U;obtain⟨dx,mx⟩:=D.ins;refine rX rfl ⟨zZ mx rfl,rX rfl ⟨p.2,x,aa,tt,rr,A,τ,_,bs,ns,rfl,(J p (g▸AV _ AE)).1,D,F _ _ (fun z=>(O.nd M).2.2 (AF.1 z).symm) M,I,rJ (dJ I.a) (fun y hy=>J y (g▸Aw _ hy)) Z,fun C2 ab x2=>⟨ie 2 rfl,?_⟩⟩⟩;refine Y _ _ ⟨?_,ds++[p],es,by rw[g,Ad];rfl,rfl,by delta mJ;rw[AS,AS];rfl,?_,F.trans x2⟩
   .rw [AB]
    delta mJ
    rw[AB];have:ds.length<=4 :=by simp_all;lia
    exact Ak this (by decide)
   .unfold cK at ab ⊢
    rwa [BR]
 .rintro acc C1 ⟨ds,es,g,j,rfl,D,F⟩ p G
  cases es with
  |cons _ _=>cases j
  |nil =>
   rw[Ai] at g;subst g;have N:=F.none (fun z=>(D.nn G).2.2 (AF.1 z).symm) G;exact q _ p N jQ (D.new G _) (F.put N _)
def jo k:eV (oW k)=some k:=by
 rcases k with (_ | i) | x<;>rfl
inductive Pz(a:Adr)(ts:List PV)(C:CH)(Q:K1):Prop
 |mk(k:Option Rk)(x aa tt rr cc:Addr)(A:iw)(τ:jr)(R:iw)(N:jr)(bs ns:List Str)(z0:ts=[.ref x,xF k,.ref tt,.ref cc])(z1:gT bs ns k)(z2:Sf a C x aa rr A R)(z3:C tt=some (.dK τ))(z4:C cc=some (.dK N))(z5:jl N)(z6:N.length<=900)(z7:tU A τ bs ns)(z8:jq bs R)(z9:∀C',C' cc=some (.dK (oY N (rG A τ k)))->Sf a C' x aa rr A (qY A τ k R)->f9 [rr,cc] C C'->Q (pV (fY N (rG A τ k))) C')
def v9(T:Tx W a):Ok W a 5 62 ["self","key","turns","counts"] (Pz a):=by
 have S:=(T.F 62 rfl).s;have Y:=dM T 0
 refine(T.F 62 rfl).o (fun g=>(xQ (fu 4 S.nd (uS (ct2 aC fL (cv 1) kK) kK (cm T.bX (T.F 56 rfl) T.wZ Y g (cv 0) (qQ (cv 1) (dw (cv 2))))))
  (xQ (fu 5 S.nd (GO (xZ g) (cv 3) (cv 4) zQ))
  (xQ (lV (xZ g) (cv 3) (cv 4) (xX pX dX (cv 5) zQ))
  (kQ (wQ (cQ (qQ (cv 4) (dw (cv 5)))))))))) ?_
 rintro ts C Q ⟨j,x,aa,tt,rr,cc,A,τ,R,N,bs,ns,rfl,hk,D,ab,J,hc,hs,U,O,q⟩;obtain⟨n1,n2,n3⟩:=(D.nd J)
 have rest:∀C1,Sf a C1 x aa rr A (qY A τ j R)->f9 [rr] C C1->XW (GV 5 (G0 (jJ 3) (jJ 4) (cC (.int 0)))) (XW (Hv (jJ 3) (jJ 4) (qp pS (jJ 5) (cC (.int 1)))) (Rz (Jg (fV (jJ 4) (fV (jJ 5) aL))))) { nx:=fun _ C'=>Q .non C',rt:=Q } [some (.ref x),some (xF j),some (.ref tt),some (.ref cc),some (oW (rG A τ j)),none] C1:=by
  intro C1 I F;have G:=F _ _ (fun z=>n3 (AF.1 z).symm) J;refine uQ ⟨YV G,Ml G (jo _) (MN hc _) (dZ (eW (wG G (jo _) (by lia) ?_)))⟩;refine⟨ie 2 rfl,?_⟩;refine q _ jQ (I.keep' (S:=[cc]) (f9.refl.at AE _) ?_ ?_ ?_) ((F.mono fun b Z=>Aj.2 (.inl (AF.1 Z))).at (AI _ AE) _)
  .grind
  .grind
  .grind
 cases j with
 |none=>exact rest C D f9.refl
 |some r =>
   obtain⟨dx,mx⟩:=D.ins;have g:∃xs,r.pv=.tup xs:=by cases r<;>exact⟨_,rfl⟩
   obtain⟨xs,g⟩:=g;have M:=rest
   simp only[xF,g] at M ⊢
   refine uQ (Pq (qB rfl (yG rfl ⟨zZ mx rfl,⟨r,x,aa,tt,rr,A,τ,R,bs,ns,by rw[g],hk,D,ab,U,O,fun C1 I F=>?_⟩⟩)));exact M C1 I F
inductive P0(a:Adr)(ts:List PV)(C:CH)(Q:K1):Prop
 |mk(h:Hd)(x aa tt rr:Addr)(A:iw)(τ:jr)(R:iw)(bs ns:List Str)(z0:ts=[.ref x,h.pv,.ref tt])(z1:h.ok bs ns)(z2:Sf a C x aa rr A R)(z3:C tt=some (.dK τ))(z4:tU A τ bs ns)(z5:jq bs R)(z6:∀C',Sf a C' x aa rr A (lL A τ h.ch R)->f9 [rr] C C'->Q (vE A τ h).pv C')
def wz(T:Tx W a):Ok W a 6 63 ["self","hand","turns"] (P0 a):=by
 have S:=(T.F 63 rfl).s;have Z:=dM T 1
 refine(T.F 63 rfl).o (fun hr=>(xQ (zm (i:=3) S.nd rfl (Or.inl rfl) rfl (S.c (by decide +kernel)) (S.k rfl rfl rfl (by decide +kernel)) (jD (cx (cv 1) zQ)) (fun _ _ _ _ _=>xK) (fun _ _ _ _ _=>(cQ (qQ (cx (cv 0) zQ) (qQ (cx (cv 0) zQ) (dw (cm T.bX (T.F 56 rfl) T.wZ Z hr (cv 1) (qQ (cx (cv 0) zQ) (dw (cv 3))))))))))
  (kQ (wQ (cQ (qQ (cx (cv 1) zQ) (qQ (cx (cv 1) zQ) (qQ (cx (cv 1) zQ) (dw (o8 T.sX (cv 3))))))))))) ?_
 rintro ts C Q ⟨h,x,aa,tt,rr,A,τ,R,bs,ns,rfl,G,N,M,J,Y,q⟩;refine uQ (rX rfl (eG (fun zs acc C1=>∃ds es:List (Str×Str×Rk),h.ch=ds++es/\zs=es.map Dt/\acc=(kS A τ ds).map VN/\Sf a C1 x aa rr A (lL A τ ds R)/\f9 [rr] C C1) ?_ ?_ _ _ _ ⟨[],h.ch,rfl,rfl,rfl,N,f9.refl⟩))
 .rintro z zs acc C1 ⟨ds,es,g,j,rfl,D,F⟩ L U
  cases es with
  |nil=>cases j
  |cons p es =>
   rw[A5] at j;injection j with j O
   subst j O;obtain⟨dx,mx⟩:=D.ins;refine rX rfl (rX rfl ⟨zZ mx rfl,rX rfl ⟨p.2.2,x,aa,tt,rr,A,τ,_,bs,ns,rfl,G.c p (g▸AV _ AE),D,F _ _ (fun z=>(N.nd M).2.2 (AF.1 z).symm) M,J,cN (dJ J.a) (fun y hy=>G.c y (g▸Aw _ hy)) Y,fun C2 ab x2=>⟨ie 3 rfl,?_⟩⟩⟩);refine U _ _ ⟨?_,ds++[p],es,by rw[g,Ad];rfl,rfl,by delta kS;rw[AS,AS];rfl,?_,F.trans x2⟩
   .rw [AB]
    delta kS
    rw[AB];have hl:=G.1;have:ds.length<=4 :=by simp_all;lia
    exact Ak this (by decide)
   .unfold lL at ab ⊢
    rwa [BR]
 .rintro acc C1 ⟨ds,es,g,j,rfl,D,F⟩ p I
  cases es with
  |cons _ _=>cases j
  |nil =>
   rw[Ai] at g;refine rX rfl (rX rfl (rX rfl (tK jQ ⟨ie 4 rfl,?_⟩)));have:=q _ (by rw[g];exact D.new I _) (F.put (F.none (fun z=>(D.nn I).2.2 (AF.1 z).symm) I) (.lst ((kS A τ ds).map VN)));unfold pq.pv vE at this
   rwa [g] at this
end
structure S6(a:Adr)(C:CH)(x aa rr tt ff cc:Addr)(A:iw)(τ:jr)(st:mq):Prop where
 sf:Sf a C x aa rr A st.2.2
 mt:C tt=some (.dK τ)
 mf:C ff=some (.lst (Wt.ig st.1))
 mc:C cc=some (.dK st.2.1)
 tc:tt≠cc
section
variable {a:Adr}{C C':CH}{x aa rr tt ff cc:Addr}{A:iw}{τ:jr}{st st':mq}
def S6.fc(h:S6 a C x aa rr tt ff cc A τ st):ff≠cc:=fun z=>by have:=h.mf;rw[z,h.mc] at this;cases this
def S6.tf(h:S6 a C x aa rr tt ff cc A τ st):tt≠ff:=fun z=>by have:=h.mt;rw[z,h.mf] at this;cases this
def S6.fr(h:S6 a C x aa rr tt ff cc A τ st):ff≠rr:=fun z=>(h.sf.nl h.mf).2.2 z.symm
def S6.cr(h:S6 a C x aa rr tt ff cc A τ st):cc≠rr:=fun z=>(h.sf.nd h.mc).2.2 z.symm
def S6.tr(h:S6 a C x aa rr tt ff cc A τ st):tt≠rr:=fun z=>(h.sf.nd h.mt).2.2 z.symm
def S6.nt(h:S6 a C x aa rr tt ff cc A τ st):tt∉[ff,cc,rr]:=fun z=>by
 simp only[List.mem_cons,List.not_mem_nil,or_false] at z
 rcases z with z | z | z
 .exact h.tf z
 .exact h.tc z
 .exact h.tr z
def S6.rd(h:S6 a C x aa rr tt ff cc A τ st)(e:f9 [rr] C C')(s:Sf a C' x aa rr A R):S6 a C' x aa rr tt ff cc A τ (st.1,st.2.1,R) :=
 ⟨s,e _ _ (fun z=>h.tr (AF.1 z)) h.mt,e _ _ (fun z=>h.fr (AF.1 z)) h.mf,e _ _ (fun z=>h.cr (AF.1 z)) h.mc,h.tc⟩
end
def gI(h:f9 [rr] C C'):f9 [ff,cc,rr] C C':=h.mono fun b z=>by rw[AF.1 z];simp
def nP(h:f9 [rr] C C'):f9 [rr,cc] C C':=h.mono fun b z=>by rw[AF.1 z];simp
def Kq(h:f9 [rr,cc] C C'):f9 [ff,cc,rr] C C':=h.mono fun b z=>by
 simp only[List.mem_cons,List.not_mem_nil] at z ⊢
 rcases z with z | z
 .lia
 .lia
def KR{r:List PV}:atI (x::y::r) 1=some y:=zW (by simp)
def N6(h:yo l=true):∃j rest,l.pv=.tup (.str j::xF (bB l)::rest)/\decide (j = "when")=false/\decide (j = "each")=false:=by
 cases l with
 |plain k G s hs q=>exact⟨"plain",_,by rfl,by decide,by decide⟩
 |part k n g=>exact⟨"part",_,by rfl,by decide,by decide⟩
 |give k n r q=>exact⟨"give",_,by rfl,by decide,by decide⟩
 |when r D F=>cases h
 |each n r q=>cases h
inductive Rb(a:Adr)(d:Nat)(ts:List PV)(C:CH)(Q:K1):Prop
 |mk(ls:List Ln)(x aa tt rr ff cc:Addr)(A:iw)(τ:jr)(st:mq)(bs rs ns:List Str)(z0:ts=[.ref x,.tup (Ln.ig ls),.ref tt,.ref ff,.ref cc])(z1:(∀x∈ls,gw bs rs d ns x))(z2:st.1.length+Ln.il ls<=400)(z3:st.2.1.length+Ln.il ls<=400)(z4:τ.length+d<=50)(z5:S6 a C x aa rr tt ff cc A τ st)(z6:tU A τ bs ns)(z7:jq bs st.2.2)(z8:jl st.2.1)(z9:∀C',S6 a C' x aa rr tt ff cc A τ (eQ A ls τ st)->f9 [ff,cc,rr] C C'->Q .non C')
inductive Mp(a:Adr)(d:Nat)(ts:List PV)(C:CH)(Q:K1):Prop
 |mk d'(z0:d=d'+1)(z1:Rb a d' ts C Q)
inductive Mm(a:Adr)(d:Nat)(ts:List PV)(C:CH)(Q:K1):Prop
 |mk(ls:List Ln)(x aa tt rr:Addr)(A:iw)(τ:jr)(R:iw)(bs rs ns:List Str)(z0:ts=[.ref x,.tup (Ln.ig ls),.ref tt])(z1:(∀x∈ls,gw bs rs d ns x))(z2:Ln.il ls<=400)(z3:τ.length+d<=50)(z4:Sf a C x aa rr A R)(z5:C tt=some (.dK τ))(z6:tU A τ bs ns)(z7:jq bs R)(z8:∀C',Sf a C' x aa rr A (eQ A ls τ ([],[],R)).2.2->f9 [rr] C C'->Q (.tup (Wt.ig (eQ A ls τ ([],[],R)).1)) C')
inductive Y4(a:Adr)(d:Nat)(ts:List PV)(C:CH)(Q:K1):Prop
 |mk d'(z0:d=d'+1)(z1:Mm a d' ts C Q)
inductive Y2(a:Adr)(d:Nat)(ts:List PV)(C:CH)(Q:K1):Prop
 |mk(l:Ln)(x aa tt rr cc:Addr)(A:iw)(τ:jr)(R:iw)(N:jr)(bs rs ns:List Str)(z0:ts=[.ref x,l.pv,.ref tt,.ref cc])(z1:yo l=true)(z2:gw bs rs d ns l)(z3:l.tw<=400)(z4:τ.length+d<=50)(z5:Sf a C x aa rr A R)(z6:C tt=some (.dK τ))(z7:C cc=some (.dK N))(z8:tt≠cc)(z9:jl N)(z10:N.length<=900)(z11:tU A τ bs ns)(z12:jq bs R)(z13:∀C',C' cc=some (.dK (oY N (rG A τ (bB l))))->Sf a C' x aa rr A (tF A τ (fY N (rG A τ (bB l))) l (qY A τ (bB l) R)).2->f9 [rr,cc] C C'->Q (tF A τ (fY N (rG A τ (bB l))) l (qY A τ (bB l) R)).1.pv C')
section
variable {W:Wd}{a:Adr}
def Yk(T:Tx W a)(wK:Ok W a k 59 ["self","lines","turns","row","counts"] (Rb a d)):Ok W a (k+1) 58 ["self","lines","turns"] (Mm a d):=by
 refine(T.F 58 rfl).o (fun hr=>(xQ (fu 3 ((T.F 58 rfl).s).nd (gX bZ))
  (xQ (uZ (cm T.bX (T.F 59 rfl) T.wZ wK hr (cv 0) (qQ (cv 1) (qQ (cv 2) (qQ (cv 3) (dw oI))))))
  (kQ (wQ (o8 T.sX (cv 3))))))) ?_
 rintro ts C Q ⟨ae,x,aa,tt,rr,A,τ,R,bs,rs,ns,rfl,ag,ah,ab,sf,g,Z,Y,q⟩;refine⟨by decide,fun ff F=>?_⟩;have S:=sf.new F (.lst []);refine Mt S.ins fun dx mx=>dZ ⟨zZ mx rfl,?_⟩;intro cc j;have M:cc≠ff:=fun z=>by rw[z,jQ] at j;cases j
 have J:C cc=none:=by rwa [yQ M] at j
 have af:tt≠ff:=fun z=>by rw[z,F] at g;cases g
 have N:tt≠cc:=fun z=>by rw[z,J] at g;cases g
 refine⟨ae,x,aa,tt,rr,ff,cc,A,τ,([],[],R),bs,rs,ns,rfl,ag,by show 0+_<=400;lia,by show 0+_<=400;lia,ab,⟨(S.new j (.dK [])),by rw[yQ N,yQ af];exact g,by exact(yQ (Ne.symm M))▸jQ,jQ,N⟩,Z,Y,(fun _ z=>nomatch z),fun C2 O U=>?_⟩;refine tK O.mf (q C2 O.sf fun b o hb D=>?_);have G:b≠ff:=fun z=>by rw[z,F] at D;cases D
 have I:b≠cc:=fun z=>by rw[z,J] at D;cases D
 refine U b o (fun z=>?_) (by rwa [yQ I,yQ G])
 simp only[List.mem_cons,List.not_mem_nil] at z
 rcases z with z | z | z
 .exact G z
 .exact I z
 .grind
def v7(T:Tx W a)(d k:Nat)(h7:7<=k)(jY:Ok W a k 58 ["self","lines","turns"] (Y4 a d)):Ok W a (k+1) 61 ["self","line","turns","counts"] (Y2 a d):=by
 have S:=(T.F 61 rfl).s;have xO:=(v9 T).mono (show 5<=k by lia);have hX:=(dM T 1).mono (show 5<=k by lia);have tV:=(dH T).mono h7;have kO:=(wz T).mono (show 6<=k by lia)
 refine(T.F 61 rfl).o (fun hr=>(xQ (fu 4 S.nd (cm T.bX (T.F 62 rfl) T.wZ xO hr (cv 0) (qQ (cx (cv 1) zQ) (qQ (cv 2) (dw (cv 3))))))
  (xQ (nQ (ct2 wX sQ (cx (cv 1) zQ) vQ) (kQ (wQ (cQ (qQ vQ (qQ (cv 4) (qQ (cx (cv 1) zQ) (qQ (cm T.bX (T.F 56 rfl) T.wZ hX hr (cv 0) (qQ (cx (cv 1) zQ) (dw (cv 2)))) (dw (cm T.bX (T.F 58 rfl) T.wZ jY hr (cv 0) (qQ (cx (cv 1) zQ) (dw (cv 2)))))))))))) lQ)
  (xQ (fu 5 S.nd (o8 T.sX (iQ (dU rfl) vD rfl T.uD rfl (dw (cm T.bX (T.F 57 rfl) T.wZ tV hr (cv 0) (qQ (cx (cv 1) zQ) (dw (cv 2))))))))
  (xQ (nQ (ct2 wX sQ (cx (cv 1) zQ) vQ) (kQ (wQ (cQ (qQ vQ (qQ (cv 4) (qQ (cx (cv 1) zQ) (dw (cv 5)))))))) lQ)
  (xQ (fu 6 S.nd (o8 T.sX (sV rfl (S.c (by decide +kernel)) (S.k rfl rfl rfl (by decide +kernel)) (jD (cx (cv 1) zQ)) (fun _ _ _ _ _=>xK) (fun _ _ _ _ _=>(cm T.bX (T.F 63 rfl) T.wZ kO hr (cv 1) (qQ (cv 0) (dw (cv 3))))))))
  (kQ (wQ (cQ (qQ vQ (qQ (cv 4) (qQ (cx (cv 1) zQ) (qQ (cv 5) (qQ (cv 6) (dw (cm T.bX (T.F 58 rfl) T.wZ jY hr (cv 0) (qQ (cx (cv 1) zQ) (dw (cv 2))))))))))))))))))) ?_
 rintro ts C Q ⟨l,x,aa,tt,rr,cc,A,τ,R,N,bs,rs,ns,rfl,a6,av,a7,bz,sf,ae,aq,bp,hc,hs,j,hR,q⟩;obtain⟨dx,mx⟩:=sf.ins;obtain⟨n1,n2,n3⟩:=sf.nd aq
 have ar:tt∉[rr,cc]:=fun z=>by
  rcases Aj.1 z with z | z
  .exact (sf.nd ae).2.2 z.symm
  .exact bp (AF.1 z)
 have au:tt∉[rr]:=fun z=>ar (Aj.2 (.inl (AF.1 z)));have ag:cc∉[rr]:=fun z=>n3 (AF.1 z).symm
 cases d with
 |zero=>exact av.elim
 |succ d =>
 cases l with
 |when r l1 l2=>cases a6
 |each n r J=>cases a6
 |give D n rk J =>
  obtain⟨h1,h2,G,aj,h5⟩:=av;unfold Ln.pv;refine⟨zZ mx rfl,?_⟩;refine rX (v:=xF D) rfl ?_;refine⟨D,x,aa,tt,rr,cc,A,τ,R,N,bs,ns,rfl,h1,sf,ae,aq,hc,hs,j,hR,fun C1 m1 U Y=>?_⟩;have af:=Y _ _ ar ae;have Z:=lM (τ:=τ) (dJ j.a) h1 hR;obtain⟨a5,ao⟩:=U.ins;refine dZ ?_;refine rX jX ?_;refine qX (pQ _ _) ?_;refine fZ (by decide) ?_;refine rX (v:=.str n) rfl ?_;refine⟨zZ ao rfl,?_⟩
  refine rX (v:=rk.pv) rfl ?_;refine⟨rk,x,aa,tt,rr,A,τ,_,bs,ns,rfl,G,U,af,j,Z,fun C2 ah F=>?_⟩;have az:=F _ _ au af;obtain⟨bt,bh⟩:=ah.ins;refine⟨zZ bh rfl,?_⟩;refine rX (v:=.tup (Ln.ig J)) rfl ?_;have bc:1+Ln.il J<=400:=a7;refine⟨d,rfl,J,x,aa,tt,rr,A,τ,_,bs,rs,ns,rfl,aj,by lia,by lia,ah,az,j,lK (dJ j.a) G Z,fun C3 ax x3=>?_⟩;refine⟨ie 5 rfl,?_⟩
  have:=q C3 (x3 _ _ ag (F _ _ ag m1)) ax ((Y.trans (nP F)).trans (nP x3));unfold tF Wt.pv at this;exact this
 |part D n g =>
  obtain⟨h1,h2,G,aj⟩:=av
  delta Ln.pv
  refine⟨zZ mx rfl,?_⟩;refine rX (v:=xF D) rfl ?_;refine⟨D,x,aa,tt,rr,cc,A,τ,R,N,bs,ns,rfl,h1,sf,ae,aq,hc,hs,j,hR,fun C1 m1 U Y=>?_⟩;have af:=Y _ _ ar ae;have Z:=lM (τ:=τ) (dJ j.a) h1 hR;obtain⟨a5,ao⟩:=U.ins;refine dZ ?_;refine rX jX ?_;refine qX (pQ _ _) ?_;refine aX (by decide) ?_;refine zX ?_
  try dsimp only
  refine uQ (i:=5) ?_;refine⟨zZ ao rfl,?_⟩;refine rX (v:=.tup (g.map xU)) rfl ?_;refine⟨g,x,aa,tt,rr,A,τ,_,bs,ns,rfl,fun y hy=>⟨(G y hy).1.mono (by decide),(G y hy).2⟩,aj,U,af,j,Z,fun C2 p p0 m2 ah F=>?_⟩;refine uC m2 (by delta mJ;rw[AB];lia) fun p2 O=>?_;refine tK jQ ?_;refine dZ ?_;refine rX jX ?_;refine qX (pQ _ _) ?_;refine fZ (by decide) ?_;refine rX (v:=.str n) rfl ?_
  refine⟨ie 4 rfl,?_⟩;have bo:cc≠p2:=fun z=>by have:=F _ _ ag m1;rw[z,O] at this;cases this
  have:=q (gQ C2 p2 (.lst ((kU (mJ A τ g)).map dQ))) (by rw[yQ bo];exact F _ _ ag m1) (ah.new O _) (by
   intro b o hb ak;have h2:=(Y.trans (nP F)) b o hb ak;rw[yQ (fun z=>by rw[z,O] at h2;cases h2)]
   exact h2)
  unfold tF Wt.pv at this;exact this
 |plain D a3 ss I J =>
  obtain⟨h1,h2,G,aj,h5⟩:=av;unfold Ln.pv;generalize bb:PV.tup [PV.str "plain",xF D,PV.str a3,PV.tup (List.map xU ss),PV.tup (List.map Hd.pv I),PV.tup (Ln.ig J)]=bf
  have ab:∀(i:Int)(v:PV)(C':CH)(Q':K1),atI [PV.str "plain",xF D,PV.str a3,PV.tup (List.map xU ss),PV.tup (List.map Hd.pv I),PV.tup (Ln.ig J)] i=some v->Q' v C'->qw bf (.int i) C' Q':=by
   intro i v C' Q' e h;rw[<- bb];exact rX e h
  refine⟨zZ mx rfl,?_⟩;refine ab 1 (xF D) _ _ rfl ?_;refine⟨D,x,aa,tt,rr,cc,A,τ,R,N,bs,ns,rfl,h1,sf,ae,aq,hc,hs,j,hR,fun C1 m1 U Y=>?_⟩
  try dsimp only
  have af:=Y _ _ ar ae;have Z:=lM (τ:=τ) (dJ j.a) h1 hR;obtain⟨a5,ao⟩:=U.ins;refine dZ ?_;refine ab 0 (.str "plain") _ _ rfl ?_;refine qX (pQ _ _) ?_;refine aX (by decide) ?_;refine zX ?_
  try dsimp only
  refine uQ (i:=5) ?_;refine⟨zZ ao rfl,?_⟩;refine ab 3 (.tup (ss.map xU)) _ _ rfl ?_;refine⟨ss,x,aa,tt,rr,A,τ,_,bs,ns,rfl,h2.1,h2.2,U,af,j,Z,fun C2 p p0 m2 ah F=>?_⟩;have bx:=h2.2;refine uC m2 (by unfold mJ;rw[AB];lia) fun p2 O=>?_;refine tK jQ ?_
  try dsimp only
  refine dZ ?_;refine ab 0 (.str "plain") _ _ rfl ?_;refine qX (pQ _ _) ?_;refine aX (by decide) ?_;refine zX ?_
  try dsimp only
  have a4:=rJ (τ:=τ) (dJ j.a) h2.1 Z;have bg:=F _ _ ag m1;have az:=F _ _ au af;have br:=Y.trans (nP (cc:=cc) F);have ax:=ah.new O (.lst ((kU (mJ A τ ss)).map dQ));have a8:(gQ C2 p2 (.lst ((kU (mJ A τ ss)).map dQ))) cc=some (.dK (oY N (rG A τ D))):=Gr.new O _ _ _ bg;have a0:(gQ C2 p2 (.lst ((kU (mJ A τ ss)).map dQ))) tt=some (.dK τ):=Gr.new O _ _ _ az;have x3:f9 [rr,cc] C (gQ C2 p2 (.lst ((kU (mJ A τ ss)).map dQ))):=fun b o hb ak=>Gr.new O _ _ _ (br b o hb ak)
  generalize gQ C2 p2 (.lst ((kU (mJ A τ ss)).map dQ))=C3 at ax a8 a0 x3 ⊢;refine uQ (i:=6) ?_;refine ab 4 (.tup (I.map Hd.pv)) _ _ rfl ?_;refine eG (fun zs acc M=>∃ds es:List Hd,I=ds++es/\zs=es.map Hd.pv/\acc=(iJ A τ ds).map pq.pv/\Sf a M x aa rr A (zK A τ ds (cK A τ ss (qY A τ D R)))/\f9 [rr] C3 M) ?_ ?_ _ _ _ ⟨[],I,rfl,rfl,rfl,ax,f9.refl⟩
  .rintro z zs acc M ⟨ds,es,e1,e2,rfl,ay,x4⟩ L hL
   cases es with
   |nil=>cases e2
   |cons u es =>
    obtain⟨rfl,rfl⟩:=BO e2;obtain⟨bu,bj⟩:=ay.ins;refine⟨zZ bj rfl,?_⟩;refine⟨u,x,aa,tt,rr,A,τ,_,bs,ns,rfl,G.1 u (by rw[e1];exact AV _ AE),ay,x4 _ _ au a0,j,uY (dJ j.a) (fun y hy=>G.1 y (by rw[e1];exact Aw _ hy)) a4,fun C5 ai x5=>?_⟩;refine hL _ _ ⟨?_,ds++[u],es,by rw[e1,Ad];rfl,rfl,by unfold iJ;rw[AS,AS];rfl,?_,x4.trans x5⟩
    .rw [AB]
     unfold iJ;rw[AB];have hl:=G.2;have:ds.length<=4:=by rw[e1,AJ] at hl;lia
     exact Ak this (by decide)
    .unfold zK at ai ⊢
     rw[BR];exact ai
  .rintro acc M ⟨ds,es,e1,e2,rfl,ay,x4⟩ p4 aw
   cases es with
   |cons _ _=>cases e2
   |nil =>
    rw[Ai] at e1;subst e1;refine tK jQ ?_
    try dsimp only
    have ai:=ay.new aw (.lst ((iJ A τ I).map pq.pv));have a9:(gQ M p4 (.lst ((iJ A τ I).map pq.pv))) cc=some (.dK (oY N (rG A τ D))):=Gr.new aw _ _ _ (x4 _ _ ag a8);have ba:(gQ M p4 (.lst ((iJ A τ I).map pq.pv))) tt=some (.dK τ):=Gr.new aw _ _ _ (x4 _ _ au a0);have x5:f9 [rr,cc] C (gQ M p4 (.lst ((iJ A τ I).map pq.pv))):=fun b o hb ak=>Gr.new aw _ _ _ ((nP (cc:=cc) x4) b o hb (x3 b o hb ak))
    generalize gQ M p4 (.lst ((iJ A τ I).map pq.pv))=C5 at ai a9 ba x5 ⊢;obtain⟨bw,bl⟩:=ai.ins;refine ab 2 (.str a3) _ _ rfl ?_;refine⟨zZ bl rfl,?_⟩;refine ab 5 (.tup (Ln.ig J)) _ _ rfl ?_;have bc:1+Ln.il J<=400:=a7;refine⟨d,rfl,J,x,aa,tt,rr,A,τ,_,bs,rs,ns,rfl,aj,by lia,by lia,ai,ba,j,uY (dJ j.a) G.1 a4,fun C6 bq x6=>?_⟩;refine⟨ie 6 rfl,?_⟩;have:=q C6 (x6 _ _ ag a9) bq (x5.trans (nP x6))
    unfold tF Wt.pv at this;exact this
end
theorem Nk.put(h:Nk τ)k(hi:Bd i):Nk (kJ τ k (.int i)):=by
 intro q g
 delta kJ at g
 split at g
 .obtain ⟨x,j,rfl⟩:=AM.1 g
  split
  .lia
  .exact h x j
 .rcases Ae.1 g with g | g
  .exact h q g
  .grind
inductive Z1(a:Adr)(d:Nat)(ts:List PV)(C:CH)(Q:K1):Prop
 |mk(n:Str)(rk:Rk)(l1:List Ln)(x aa tt rr ff cc:Addr)(A:iw)(τ:jr)(st:mq)(bs rs ns:List Str)(z0:ts=[.ref x,(Ln.each n rk l1).pv,.ref tt,.ref ff,.ref cc])(z1:gw bs rs d ns (.each n rk l1))(z2:st.1.length+(Ln.each n rk l1).tw<=400)(z3:st.2.1.length+(Ln.each n rk l1).tw<=400)(z4:τ.length+d<=50)(z5:S6 a C x aa rr tt ff cc A τ st)(z6:tU A τ bs ns)(z7:jq bs st.2.2)(z8:jl st.2.1)(z9:∀C',S6 a C' x aa rr tt ff cc A τ (iX A (.each n rk l1) τ st)->f9 [ff,cc,rr] C C'->Q .non C')
section
variable {W:Wd}{a:Adr}
def Yt(T:Tx W a)(d k:Nat)(h7:7<=k)(wK:Ok W a k 59 ["self","lines","turns","row","counts"] (Mp a d)):Ok W a (k+1) 60 ["self","line","turns","row","counts"] (Z1 a d):=by
 have S:=(T.F 60 rfl).s;have hX:=(dM T 2).mono (show 6<=k by lia)
 refine(T.F 60 rfl).o (fun hr=>(xQ (fu 5 S.nd (iQ (aP rfl) tI rfl T.Wi rfl (qQ (zY (v:=.int 8) (t:=.int 8) rfl T.Xv ⟨_,rfl⟩ (fun _=>.int _)) (dw (cm T.bX (T.F 56 rfl) T.wZ hX hr (cv 0) (qQ (cx (cv 1) zQ) (dw (cv 2))))))))
  (kQ (mL PassesOwn.never rfl rfl T.kW (dw (cv 5)) (j7 6 S.nd) (xQ (fu 7 S.nd (mZ Jf VX rfl T.aN rfl (dw (cv 2))))
  (xQ (lV (xZ hr) (cv 7) (cx (cv 1) zQ) (cv 6))
  (kQ (uZ (cm T.bX (T.F 59 rfl) T.wZ wK hr (cv 0) (qQ (cx (cv 1) zQ) (qQ (cv 7) (qQ (cv 3) (dw (cv 4)))))))))))))) ?_
 rintro ts C Q ⟨n,F,g,x,aa,tt,rr,ff,cc,A,τ,aj,bs,rs,ns,rfl,hu,hF,hN,bb,Y,M,R1,ar,q⟩
 cases d with
 |zero=>exact hu.elim
 |succ d' =>
 obtain⟨ah,o1,_⟩:=hu;have ep:(Ln.each n F g).pv=.tup [.str "each",.str n,F.pv,.tup (Ln.ig g)]:=by rw[Ln.pv]
 have a8:(Ln.each n F g).tw=8 * Ln.il g:=by rw[Ln.tw]
 have O:tU A τ bs []:=⟨M.a,M.t,(fun _ z=>nomatch z),M.b⟩;obtain⟨dx,mx⟩:=Y.sf.ins;refine⟨zZ mx rfl,?_⟩;refine cX ep (v:=F.pv) rfl ?_;refine⟨F,x,aa,tt,rr,A,τ,_,bs,[],rfl,ah.mono (by decide),Y.sf,Y.mt,O,R1,fun C2 a4 e2=>?_⟩;refine YC ?_;have av:=eU O.a O.t O.h ah;unfold Bd at av;refine⟨by split<;>lia,by split<;>lia,?_⟩;have au:=lK (τ:=τ) (dJ M.a) ah R1;have a0:=Y.rd e2 a4
 show iG _ _ _ ((List.range (jN (F.val A τ))).map fun k=>PV.int (k:Nat)) _ _;generalize ak:jN (F.val A τ)=N;have ba:N<=8:=by rw[<- ak];exact nL _
 let f:mq->Nat->mq:=fun st k=>eQ A g (kJ τ (.inr n) (.int (k:Nat))) st
 let J:mq:=(aj.1,aj.2.1,F.jc A τ aj.2.2)
 refine wJ (fun zs ρ C'=>∃(j:Nat)(x6 x7:Option PV),j<=N/\zs=((List.range N).drop j).map (fun k:Nat=>PV.int (k:Nat))/\ρ=[some (.ref x),some (Ln.each n F g).pv,some (.ref tt),some (.ref ff),some (.ref cc),some (.int (if F.val A τ < 8 then F.val A τ else 8)),x6,x7]/\S6 a C' x aa rr tt ff cc A τ ((List.range j).foldl f J)/\f9 [ff,cc,rr] C C') ?_ ?_ _ _ _ ⟨0,_,_,AX _,rfl,rfl,a0,gI e2⟩
 .rintro z zs ρ I ⟨j,y9,a6,hj,U,rfl,G,e3⟩ L3 aw
  obtain⟨ay,rfl,rfl⟩:=yF U;refine uQ ?_;refine zf G.mt fun D af=>?_;refine dZ ?_;refine cX ep (v:=.str n) rfl ?_;refine wG (k:=.inr n) jQ rfl (by lia) ?_;have ag:∀b o,I b=some o->b≠D:=fun b o h z=>by rw[z,af] at h;cases h
  have ab:=uU (f:=f) (m:=fun st=>st.1.length) (c:=Ln.il g) (fun x k=>(lJ A g _ x).1) (List.range j) J;have ae:=uU (f:=f) (m:=fun st=>st.2.1.length) (c:=Ln.il g) (fun x k=>(lJ A g _ x).2) (List.range j) J;rw[An] at ab ae
  have ao:j * Ln.il g+Ln.il g<=8 * Ln.il g:=by
   have:(j+1) * Ln.il g<=8 * Ln.il g:=Bi _ (by lia);rw[Nat.add_mul,Nat.one_mul] at this;exact this
  have ab:=ab;have ae:=ae;have R3:jq bs ((List.range j).foldl f J).2.2:=rY (P:=fun st:mq=>jq bs st.2.2) (fun x k p=>gJ (dJ M.a) o1 p) _ _ au;have N3:jl ((List.range j).foldl f J).2.1:=rY (P:=fun st:mq=>jl st.2.1) (fun x k p=>qU A g _ x p) _ _ ar;have a5:Nk (kJ τ (.inr n) (.int (j:Nat))):=M.t.put _ (by delta Bd;lia)
  have ax:tU A (kJ τ (.inr n) (.int (j:Nat))) bs [n]:=⟨M.a,a5,fun m ao=>by
   cases AF.1 ao
   rw[kA,Ah rfl];rfl,M.b⟩
  have a9:(kJ τ (.inr n) (.int (j:Nat))).length<=τ.length+1:=sD _ _ _;have x4:f9 [ff,cc,rr] I (gQ (gQ I D (.dK τ)) D (.dK (kJ τ (.inr n) (.int (j:Nat))))):=(f9.refl.put af _).put af _;have Z:∀b o,I b=some o->gQ (gQ I D (.dK τ)) D (.dK (kJ τ (.inr n) (.int (j:Nat)))) b=some o:=fun b o h=>by rw[yQ (ag b o h),yQ (ag b o h)];exact h
  have m4:gQ (gQ I D (.dK τ)) D (.dK (kJ τ (.inr n) (.int (j:Nat)))) D=some (.dK (kJ τ (.inr n) (.int (j:Nat)))):=jQ;generalize gQ (gQ I D (.dK τ)) D (.dK (kJ τ (.inr n) (.int (j:Nat))))=C4 at x4 Z m4 ⊢;have aq:Sf a C4 x aa rr A ((List.range j).foldl f J).2.2:=G.sf.keep' (S:=[]) (fun b o _ h=>Z b o h) B9 B9 B9;have a3:S6 a C4 x aa rr D ff cc A (kJ τ (.inr n) (.int (j:Nat))) ((List.range j).foldl f J):=⟨aq,m4,Z _ _ G.mf,Z _ _ G.mc,Ne.symm (ag _ _ G.mc)⟩
  obtain⟨a7,az⟩:=aq.ins;refine⟨zZ az rfl,?_⟩;refine cX ep (v:=.tup (Ln.ig g)) rfl ?_;refine⟨d',rfl,g,x,aa,D,rr,ff,cc,A,_,_,bs,rs,[n],rfl,o1,by lia,by lia,by lia,a3,ax,R3,N3,fun C5 ai e5=>?_⟩;refine aw _ _ ⟨j+1,_,_,ay,rfl,rfl,?_,e3.trans (x4.trans e5)⟩;have ef:(List.range (j+1)).foldl f J=f ((List.range j).foldl f J) j:=by rw[List.range_succ,BR];rfl
  rw[ef];exact⟨ai.sf,(x4.trans e5) _ _ G.nt G.mt,ai.mf,ai.mc,G.tc⟩
 .rintro ρ I ⟨j,y9,a6,hj,U,rfl,G,e3⟩
  have ej:j=N:=by
   rcases DT j N with h | h
   .rw [Ao (by rw[An];exact h)] at U
    cases U
   .lia
  subst ej;refine q I ?_ e3;rw[iX,ak];exact G
def Q5(T:Tx W a)(d k:Nat)(h7:7<=k)(wK:Ok W a k 59 ["self","lines","turns","row","counts"] (Mp a d))(jO:Ok W a k 61 ["self","line","turns","counts"] (Y2 a d))(wF:Ok W a k 60 ["self","line","turns","row","counts"] (Z1 a d)):
  Ok W a (k+1) 59 ["self","lines","turns","row","counts"] (Rb a d):=by
 have S:=(T.F 59 rfl).s;have hX:=(dM T 2).mono (show 6<=k by lia)
 refine(T.F 59 rfl).o (fun hr=>(kQ (jG PassesOwn.never rfl (cv 1) (j7 5 S.nd) (kQ (nQ (ct2 wX sQ (cx (cv 5) zQ) vQ) (xQ (fu 6 S.nd (uS (ct2 wX sQ (cm T.bX (T.F 56 rfl) T.wZ hX hr (cv 0) (qQ (cx (cv 5) zQ) (dw (cv 2)))) zQ) (cx (cv 5) zQ) (cx (cv 5) zQ)))
  (kQ (uZ (cm T.bX (T.F 59 rfl) T.wZ wK hr (cv 0) (qQ (cv 6) (qQ (cv 2) (qQ (cv 3) (dw (cv 4))))))))) (kQ (nQ (ct2 wX sQ (cx (cv 5) zQ) vQ) (kQ (uZ (cm T.bX (T.F 60 rfl) T.wZ wF hr (cv 0) (qQ (cv 5) (qQ (cv 2) (qQ (cv 3) (dw (cv 4)))))))) (kQ (uZ (cap (cv 3) (cm T.bX (T.F 61 rfl) T.wZ jO hr (cv 0) (qQ (cv 5) (qQ (cv 2) (dw (cv 4))))))))))))))) ?_
 rintro ts C Q ⟨N,x,aa,tt,rr,ff,cc,A,τ,st,bs,rs,ns,rfl,aq,hF,hN,aj,hE,M,hR,hC,q⟩;refine aF rfl (wJ (fun zs ρ C'=>∃ds G x5 x6,N=ds++G/\zs=Ln.ig G/\ρ=[some (.ref x),some (.tup (Ln.ig N)),some (.ref tt),some (.ref ff),some (.ref cc),x5,x6]/\S6 a C' x aa rr tt ff cc A τ (eQ A ds τ st)/\f9 [ff,cc,rr] C C') ?_ ?_ _ _ _ ⟨[],N,_,_,rfl,rfl,rfl,by rw[qJ];exact hE,f9.refl⟩)
 .rintro z zs ρ C1 ⟨ds,G,x5,x6,e,hz,rfl,j,e1⟩ L hL
  cases G with
  |nil=>cases hz
  |cons u G =>
  obtain⟨rfl,rfl⟩:=BO hz;have hu:=aq u (e▸AV _ AE);have a0:Ln.il N=Ln.il ds+(u.tw+Ln.il G):=by rw[e,Ln.ph];rfl
  have J:=lJ A ds τ st;have Z:jq bs (eQ A ds τ st).2.2:=gJ (dJ M.a) (fun x hx=>aq x (e▸Aw _ hx)) hR;have U:=qU A ds τ st hC
  have ab:∀C' x5 x6,S6 a C' x aa rr tt ff cc A τ (iX A u τ (eQ A ds τ st))->f9 [ff,cc,rr] C1 C'->L [some (.ref x),some (.tup (Ln.ig N)),some (.ref tt),some (.ref ff),some (.ref cc),x5,x6] C':=by
   intro C' y5 y6 h1 h2;refine hL _ _ ⟨ds++[u],G,y5,y6,by rw[Ad];exact e,rfl,rfl,?_,e1.trans h2⟩
   rwa [ZM,rZ,qJ]
  clear hL;generalize az:eQ A ds τ st=D at j J Z U ab;obtain⟨aw,af⟩:=j.sf.ins
  by_cases O:yo u=true
  .obtain ⟨wd,rest,ep,n1,n2⟩:=N6 O
   refine cX ep jX (qX (pQ _ _) (aX (by rw[n1];rfl) ?_));refine cX ep jX (qX (pQ _ _) (aX (by rw[n2];rfl) ?_));refine⟨tW j.mf,⟨zZ af rfl,⟨u,x,aa,tt,rr,cc,A,τ,_,_,bs,rs,ns,rfl,O,hu,by lia,aj,j.sf,j.mt,j.mc,j.tc,U,by have:=J.2;lia,M,Z,fun C2 m2 ae x2=>?_⟩⟩⟩
   have av:ff∉[rr,cc]:=fun z=>by
    simp only[List.mem_cons,List.not_mem_nil,or_false] at z
    rcases z with z | z
    .exact j.fr z
    .exact j.fc z
   have ak:=x2 _ _ av j.mf
   apply sS ak (by rw[Wt.oh];have:=J.1;exact Ak (show D.1.length<=400 by lia) (by decide))
   have eo:=ZL A τ u D.1 D.2.1 D.2.2 O;have ag:=ae.nl ak;refine ab _ _ _ ?_ ((Kq x2).at (by simp) _);rw[show D=(D.1,D.2.1,D.2.2) from rfl,eo];refine⟨ae.keep' (f9.refl.at AE _) (fun z=>ag.1 (AF.1 z)) (fun z=>ag.2.1 (AF.1 z)) (fun z=>ag.2.2 (AF.1 z)),?_,by rw[jQ,Wt.ou];rfl,by exact(yQ (Ne.symm j.fc))▸m2,j.tc⟩
   exact(yQ j.tf)▸(Kq x2) _ _ j.nt j.mt
  .cases u with
   |plain k a3 s hs N=>exact absurd rfl O
   |part k n g=>exact absurd rfl O
   |give k n r N=>exact absurd rfl O
   |when F I l2 =>
    cases d with
    |zero=>exact hu.elim
    |succ d' =>
    obtain⟨ar,⟨o1,_⟩,o2,_⟩:=hu;have ep:(Ln.when F I l2).pv=.tup [.str "when",F.pv,.tup (Ln.ig I),.tup (Ln.ig l2)]:=by rw[Ln.pv]
    have ay:(Ln.when F I l2).tw=Ln.il I+Ln.il l2:=by rw[Ln.tw]
    refine cX ep jX (qX (pQ _ _) (fZ rfl (uQ (Pq ⟨zZ af rfl,cX ep rfl ⟨F,x,aa,tt,rr,A,τ,_,bs,ns,rfl,ar.mono (by decide),j.sf,j.mt,M,Z,fun C2 ae e2=>?_⟩⟩))));have ai:=lK (τ:=τ) (dJ M.a) ar Z;have au:=j.rd e2 ae;obtain⟨ax,ao⟩:=ae.ins
    apply qX (mX _ _)
    by_cases h0:F.val A τ=0
    .refine fZ (Ab h0) (cX ep rfl ⟨zZ ao rfl,⟨d',rfl,l2,x,aa,tt,rr,ff,cc,A,τ,(D.1,D.2.1,F.jc A τ D.2.2),bs,rs,ns,rfl,o2,by have:=J.1;lia,by have:=J.2;lia,by lia,au,M,ai,U,fun Y ah e3=>?_⟩⟩)
     refine ab Y _ _ ?_ ((gI e2).trans e3)
     rwa [iX,Ah h0]
    .refine aX (AN h0) (cX ep rfl ⟨zZ ao rfl,⟨d',rfl,I,x,aa,tt,rr,ff,cc,A,τ,(D.1,D.2.1,F.jc A τ D.2.2),bs,rs,ns,rfl,o1,by have:=J.1;lia,by have:=J.2;lia,by lia,au,M,ai,U,fun Y ah e3=>?_⟩⟩)
     refine ab Y _ _ ?_ ((gI e2).trans e3)
     rwa [iX,Af h0]
   |each n F I =>
    have ep:(Ln.each n F I).pv=.tup [.str "each",.str n,F.pv,.tup (Ln.ig I)]:=by rw[Ln.pv]
    refine cX ep jX (qX (pQ _ _) (aX rfl (cX ep jX (qX (pQ _ _) (fZ rfl ⟨zZ af rfl,⟨n,F,I,x,aa,tt,rr,ff,cc,A,τ,D,bs,rs,ns,rfl,hu,by have:=J.1;lia,by have:=J.2;lia,aj,j,M,Z,U,fun Y ah e3=>?_⟩⟩)))));exact ab Y _ _ ah e3
 .rintro ρ C1 ⟨ds,G,x5,x6,e,hz,rfl,j,e1⟩
  cases G with
  |cons u G=>cases hz
  |nil =>
   rw[Ai] at e;subst e;exact q C1 j e1
def Ow(T:Tx W a)d:Ok W a (3 * d+9) 59 ["self","lines","turns","row","counts"] (Rb a d):=by
 induction d with
 |zero =>
  exact Q5 T 0 8 (by decide) (eJ fun ts C Q ⟨d',e,_⟩=>by lia) (eJ fun ts C Q z=>by obtain⟨l,x,aa,tt,rr,cc,A,τ,R,N,bs,rs,ns,_,_,h,_⟩:=z;exact h) (eJ fun ts C Q z=>by obtain⟨n,I,G,x,aa,tt,rr,ff,cc,A,τ,M,bs,rs,ns,_,h,_⟩:=z;exact h)
 |succ d j =>
  have J:=Yk T j
  have D:Y4 a (d+1)=Mm a d:=by
   funext ts C Q
   refine propext ⟨fun⟨q,z,h⟩=>?_,fun h=>⟨d,rfl,h⟩⟩;cases Ax z;exact h
  have g:Mp a (d+1)=Rb a d:=by
   funext ts C Q
   refine propext ⟨fun⟨q,z,h⟩=>?_,fun h=>⟨d,rfl,h⟩⟩;cases Ax z;exact h
  have F:=Yt T (d+1) (3 * d+9) (CU _ _) (by rwa [g]);have:=Q5 T (d+1) (3 * d+9+1+1) (CU _ _) (g▸j.mono (by lia)) (v7 T (d+1) (3 * d+9+1) (CU _ _) (by rwa [D])) (F.mono (BU _));have e:3 * d+9+1+1+1=3 * (d+1)+9:=by lia
  rwa [e] at this
end
noncomputable def stOf:Key->Str
 |.inr x=>x
 |_=>""
noncomputable def TY:PV->Int
 |.int i=>i
 |_=>0
def Sx(g:List Key×PV):List Str×Int:=(g.1.map stOf,TY g.2)
structure Pc where
 reads:List (List Str×Int)
 row:List Wt
 works:List (Str×Int)
def Pc.pv(x:Pc):PV:=.tup [.tup (x.reads.map bY),.tup (Wt.ig x.row),.tup (x.works.map dQ)]
def xB(A:iw)(x:Pt):iw:=cK A [] x.works (eQ A x.ls [] ([],[],[])).2.2
def oJ(A:iw)(x:Pt):Pc:=⟨Vg ((xB A x).map Sx),(eQ A x.ls [] ([],[],[])).1,mJ A [] x.works⟩
def YO(h:g j C fun x C1=>∃b kvs,x=.ref b/\C1 b=some (.dT kvs)/\Q (.vw b) C1)(G:∀(D F:K1),(∀v C1,D v C1->F v C1)->g j C D->g j C F):nN g j C Q:=by
 delta nN
 refine G _ _ ?_ h;rintro v C1 ⟨b,kvs,rfl,m,q⟩;dsimp only
 rwa [m]
def K4(m:C p=some (.dT kvs))(e:HR kvs=some cs)(h:cs.length < 64)(q:∀g,C g=none->Q (.ref g) (gQ C g (.lst ((Vg cs).map bY)))):tL [.vw p] C Q:=by
 delta tL
 dsimp only;rw[m];dsimp only;exact e▸⟨h,q⟩
def Xy g j(h:∀v C1,g v C1->j v C1)(q:Ji c f x C g):Ji c f x C j:=by
 delta Ji at q ⊢
 split at q
 .grind
 .exact q
def iN g j(h:∀v C1,g v C1->j v C1)(q:jJ i D C g):jJ i D C j:=by
 delta jJ at q ⊢
 split at q
 .exact h _ _ q
 .exact q
theorem Fy: ∀{R},(∀k∈R.map (·.1),∃s n,k=qK s n/\iL bs s n)->kj R->HR R=some (R.map Sx)
 |[],_,_=>rfl
 |x::R,h1,h2=>by
  refine bU (h1 x.1 AE) fun s n e _=>oQ (h2 x AE) fun i j _=>?_;have q:=Fy (fun k g=>h1 k (AI _ g)) fun D g=>h2 D (AI _ g);obtain⟨k,v⟩:=x;cases e;cases j;unfold HR;rw[q]
  rfl
section
variable {W:Wd}{a:Adr}
inductive Gd(ts:List PV)(C:CH)(Q:K1):Prop
 |mk(x:Pt)(aa:Addr)(A:iw)(rs:List Str)(cap:Nat)(z0:ts=[x.pv,.ref aa])(z1:jw rs cap x)(z2:C aa=some (.dT A))(z3:kj A)(z4:∀C',Gr C C'->Q (oJ A x).pv C')
def Q4(T:Tx W a):Ok W a 29 10 ["part","answers"] Gd:=by
 have S:=(T.F 10 rfl).s;have kP:=(ok_init T).mono (show 1<=27 by decide);have jY:=Yk T (Ow T 6);have tV:=(dH T).mono (show 7<=28 by decide)
 refine(T.F 10 rfl).o (fun F=>(xQ (fu 2 S.nd (KC T.Vt kP F rfl T.wZ (T.F 55 rfl).b QT (dw (cv 1))))
  (xQ (fu 3 S.nd (cm T.bX (T.F 58 rfl) T.wZ jY F (cv 2) (qQ (cx (cv 0) zQ) (dw oI))))
  (xQ (fu 4 S.nd (o8 T.sX (cm T.bX (T.F 57 rfl) T.wZ tV F (cv 2) (qQ (cx (cv 0) zQ) (dw oI)))))
  (kQ (wQ (cQ (qQ (o8 T.sX (iQ (iI rfl) (XS (dB F)) rfl T.uD rfl (dw (VT (kD T.bX T.eY (cv 2)))))) (qQ (cv 3) (dw (cv 4))))))))))) ?_
 rintro ts C Q ⟨D,aa,A,rs,cap,rfl,j,N,J,q⟩;have M:tU A [] (D.first.map (·.1)) []:=⟨J,(fun _ z=>nomatch z),(fun _ z=>nomatch z),by rw[AB];exact j.fl⟩;have Z:jq (D.first.map (·.1)) []:=⟨Cd,(fun _ z=>nomatch z),(fun _ z=>nomatch z)⟩;intro x dx ai a0 a6;have au:aa≠x:=fun z=>by rw[z,ai] at N;cases N
 refine⟨x,dx,aa,A,rfl,jQ,by rw[yQ au];exact N,fun C1 rr aw O x1=>⟨rfl,?_⟩⟩
 try dsimp only
 have aj:Gr C C1:=fun b o h=>by
  have:b≠x:=fun z=>by rw[z,ai] at h;cases h
  exact x1 b o (fun z=>this (AF.1 z)) (by rwa [yQ this])
 have ax:C rr=none:=by
  rwa [yQ (Ne.symm O.nx)] at aw
 have Y:∀{C2 G:CH},Gr C C2->f9 [rr] C2 G->Gr C G:=fun g e b o h=>e b o (fun z=>by rw[AF.1 z,ax] at h;cases h) (g b o h);obtain⟨a3,ao⟩:=O.ins;refine uQ ⟨zZ ao rfl,rX rfl ?_⟩;intro p ae;have ay:=O.new ae (.dK []);have a7:=j.tw;refine⟨D.ls,x,aa,p,rr,A,[],[],_,rs,[],rfl,j.ls,by lia,by decide,ay,jQ,M,Z,fun G ag x3=>?_⟩;have U:=gJ (τ:=[]) (st:=([],[],[])) (dJ J) j.ls Z
 have ak:=Y (aj.trans (Gr.new ae _)) x3;obtain⟨a4,aq⟩:=ag.ins;refine uQ ⟨zZ aq rfl,rX rfl ?_⟩;intro p2 af;have az:=ag.new af (.dK []);refine⟨D.works,x,aa,p2,rr,A,[],_,_,[],rfl,fun y hy=>⟨(j.wk y hy).1.mono (by decide),(j.wk y hy).2⟩,j.wl,az,jQ,M,U,fun C5 l l0 m5 ah x5=>?_⟩;have g5:=Y (ak.trans (Gr.new af _)) x5
 apply tK m5
 obtain⟨a5,ar⟩:=ah.ins;have I:jq (D.first.map (·.1)) (xB A D):=rJ (dJ J) j.wk U;have ab:C5 rr=some (.dT (xB A D)):=ah.ask;have hb:=M.b;refine YO ?_ ?_
 .refine lR ar rfl ⟨rr,xB A D,rfl,ab,K4 ab (Fy I.ks I.vs) (by rw[AB];have:=I.len;lia) fun p6 av=>?_⟩
  refine tK jQ ⟨ie 3 rfl,?_⟩;exact q _ (g5.trans (Gr.new av _))
 .intro Q1 Q2 h q
  exact iN _ _ (fun v C1 q=>Xy _ _ h q) q
end
def yZ(h:u r (g.set i (some t)) C Q):Hs (Gw i) u (t::r) g C Q:=h
def lB(h:Q g C):Rr [] g C Q:=h
noncomputable def jz(c:Str×Int):Key×PV:=(.inr c.1,.int c.2)
def tD(ds:List (Str×Int))(n:Str)(i:Int):List (Str×Int):=if (ds.any fun c=>decide (c.1=n))=true then ds.map fun c=>if c.1=n then (c.1,i) else c else ds++[(n,i)]
def iZ(cs ds:List (Str×Int)):List (Str×Int):=ds.foldl (fun acc c=>tD acc c.1 c.2) cs
def ZO: ((Sum.inr x:Key)=Sum.inr y)↔x=y :=by grind
def Hc ds n i:kJ (ds.map jz) (.inr n) (.int i)=(tD ds n i).map jz:=by
 have h1:((ds.map jz).any fun g=>decide (g.1=(Sum.inr n:Key)))=ds.any fun c=>decide (c.1=n):=by
  rw[List.any_map]
  congr 1
  funext c
  exact decide_eq_decide.2 ZO
 have h2:((ds.map jz).map fun g=>if g.1=(Sum.inr n:Key) then (g.1,PV.int i) else g)=(ds.map fun c=>if c.1=n then (c.1,i) else c).map jz:=by
  rw[A8,A8]
  congr 1
  funext c
  show(if (Sum.inr c.1:Key)=Sum.inr n then ((Sum.inr c.1:Key),PV.int i) else jz c)=jz (if c.1=n then (c.1,i) else c)
  by_cases e:c.1=n
  .rw [Ah (ZO.2 e),Ah e];rfl
  .lia
 delta kJ tD
 rw[h1]
 by_cases b:(ds.any fun c=>decide (c.1=n))=true
 .lia
 .rw [Af b,Af b,AS];rfl
def Kc ds:∀cs,hW (cs.map jz) (ds.map jz)=(iZ cs ds).map jz:=by
 induction ds with
 |nil=>intro cs;rfl
 |cons d ds g =>
  intro cs;show hW (kJ (cs.map jz) (.inr d.1) (.int d.2)) (ds.map jz)=(iZ (tD cs d.1 d.2) ds).map jz;rw[Hc,g]
theorem cA:∀ds:List (Str×Int),iW (ds.map dQ)=some (ds.map jz)
 |[]=>rfl
 |d::ds=>by
  show(match eV (.str d.1),iW (ds.map dQ) with | some k,some ps=>some ((k,PV.int d.2)::ps) | _,_=>none)=_;rw[cA ds];rfl
theorem Ob:∀ds,Ia (ds.map jz)=some ds
 |[]=>rfl
 |d::ds=>by
  show(Ia (ds.map jz)).map _=_;rw[Ob ds];rfl
def vd ds n i:(tD ds n i).length<=ds.length+1 :=by grind[tD,List.length_map,List.length_append,List.length_singleton]
def qW ds:∀cs,(iZ cs ds).length<=cs.length+ds.length:=by
 induction ds with
 |nil=>intro cs;exact AH _
 |cons d ds g =>
  intro cs;have h1:=g (tD cs d.1 d.2);have h2:=vd cs d.1 d.2;show(iZ (tD cs d.1 d.2) ds).length<=_;rw[AQ]
  lia
def rA cs:(kU cs).length=cs.length:=by
 delta kU
 rw[AB]
 by_cases h:0 < cs.length
 .have:=(cY (Zh cs) cs.length h).length_eq
  rw[this,An]
 .have e:cs.length=0:=by lia
  rw[e,WC];rfl
theorem WO ds n i:(tD ds n i).map (·.1)=if n∈ds.map (·.1) then ds.map (·.1) else ds.map (·.1)++[n]:=by
 have h:(ds.any fun c=>decide (c.1=n))=true↔n∈ds.map (·.1) :=by grind
 delta tD
 by_cases b:(ds.any fun c=>decide (c.1=n))=true
 .rw [Ah b,Ah (h.1 b),A8]
  congr 1
  funext c
  show(if c.1=n then (c.1,i) else c).1=c.1
  split<;>rfl
 .grind
def Ir(h:(ds.map (·.1)).Nodup)n i:((tD ds n i).map (·.1)).Nodup :=by grind[WO,List.nodup_append]
def Xh ds:∀{cs},(cs.map (·.1)).Nodup->((iZ cs ds).map (·.1)).Nodup:=by
 induction ds with
 |nil=>intro cs h;exact h
 |cons d ds g=>intro cs h;exact g (Ir h d.1 d.2)
def NK{cs:List (Str×Int)}(h:(cs.map (·.1)).Nodup)(g:c∈cs):sJ (cs.map jz) (.inr c.1)=some (.int c.2):=by
 induction cs with
 |nil=>cases g
 |cons d cs q =>
  have h':=BD.1 h;show(match decide ((Sum.inr d.1:Key)=Sum.inr c.1) with | true=>some (jz d) | false=>(cs.map jz).find? fun j=>decide (j.1=Sum.inr c.1)).map (fun j:Key×PV=>j.2)=_
  rcases Aj.1 g with rfl | g
  .rw [Ab rfl];rfl
  .exact (AN (fun z=>(fun e=>h'.1 (AM.2 ⟨c,g,e.symm⟩)) (ZO.1 z)))▸q h'.2 g
def Gu(h:ds.length<=1000)(q:∀p,C p=none->Q (.ref p) (gQ C p (.dK ((iZ [] ds).map jz)))):tN [.tup (ds.map dQ)] C Q:=by
 delta tN
 show(match iW (ds.map dQ) with | some ps=>ps.length<=sizeLine/\∀p,C p=none->Q (.ref p) (gQ C p (.dK (hW [] ps))) | none=>False);rw[cA];dsimp only;rw[show hW [] (ds.map jz)=(iZ [] ds).map jz from Kc ds []];exact⟨by rw[AB];exact AW h (by decide),q⟩
def Iu(m:C p=some (.dK (cs.map jz)))(h:cs.length<=1000)(q:Q (gQ C p (.dK ((tD cs n i).map jz)))):mS (.ref p) (.str n) (.int i) C Q:=by
 delta mS
 show(match C p,eV (.str n) with | some (.dK kvs),some k=>kvs.length < sizeLine/\Q (gQ C p (.dK (kJ kvs k (.int i)))) | _,_=>False);rw[m];show(cs.map jz).length < sizeLine/\Q (gQ C p (.dK (kJ (cs.map jz) (.inr n) (.int i))));rw[Hc,AB];exact⟨Ak h (by decide),q⟩
def Rq(m:qm (C p)=some kvs)(g:eV y=some k)(j:sJ kvs k=some v)(q:Q v C):eT (.ref p) y C Q :=by grind[eT]
def GD(N:(cs.map (·.1)).Nodup)(I:cs.length<=1000)(G:D[j]?=some (some (.ref d)))(m:C d=some (.fK (cs.map jz)))(q:∀p,C p=none->R (.ref p) (gQ C p (.lst (cs.map dQ))))zs:
  ∀g:List (Str×Int),cs=g++zs->xJ iP (Jg (fV (jJ 0) (fV (qp eT (jJ (j+1)) (jJ 0)) aL))) D R (zs.map fun c=>PV.str c.1) (g.map dQ) C:=by
 induction zs with
 |nil =>
  intro g e;rw[Ai] at e;subst e;exact q
 |cons z zs M =>
  intro g e;have J :=e▸AV _ AE;show jJ (j+1) (some (.str z.1)::D) C fun x C1=>jJ 0 (some (.str z.1)::D) C1 fun y C2=>eT x y C2 fun v F=>[PV.str z.1,v].length<=sizeLine/\(g.map dQ).length < sizeLine/\xJ iP (Jg (fV (jJ 0) (fV (qp eT (jJ (j+1)) (jJ 0)) aL))) D R (zs.map fun c=>PV.str c.1) (g.map dQ++[.tup [.str z.1,v]]) F
  delta jJ
  rw[show(some (PV.str z.1)::D)[j+1]?=some (some (.ref d)) from G];refine Rq (by rw[m];rfl) rfl (NK N J) ⟨ie 2 rfl,?_,?_⟩
  .rw [AB]
   have:g.length<=cs.length:=by rw[e,AJ];lia
   exact Ak (AW this I) (by decide)
  .rw [show g.map dQ++[.tup [.str z.1,.int z.2]]=(g++[z]).map dQ by rw[AS];rfl]
   exact M (g++[z]) (by simp_all)
theorem YN:∀cs:List (Str×Int),((cs.map jz).map fun p=>oW p.1)=cs.map fun c=>PV.str c.1
 |[]=>rfl
 |c::cs=>by
  show PV.str c.1::((cs.map jz).map fun p=>oW p.1)=_;rw[YN cs];rfl
def Dq{cs:List (Str×Int)}(M:(cs.map (·.1)).Nodup)(I:cs.length<=1000)(F:G[j]?=some (some (.ref d)))(m:C d=some (.dK (cs.map jz)))(q:∀p C',C' p=some (.lst (cs.map dQ))->Gr C C'->Q (.ref p) C'):
  Qj (jJ j) iP (Jg (fV (jJ 0) (fV (qp eT (jJ (j+1)) (jJ 0)) aL))) G C Q:=by
 delta Qj
 have J:∀Q,Q (.ref d) C->jJ j G C Q:=fun Q h=>by delta jJ;rwa [F]
 apply J _
 dsimp only;rw[m];dsimp only;rw[YN];refine GD M I F jQ (fun p g=>?_) cs [] rfl;have D:p≠d:=fun e=>by subst e;rw[jQ] at g;cases g
 have N:C p=none:=by rwa [yQ D] at g
 refine⟨by rw[yQ (Ne.symm D),jQ],q p _ (by rw[yQ D,jQ]) fun b o e=>?_⟩
 by_cases h1:b=d
 .subst h1;rw[m] at e;cases e;exact jQ
 .by_cases h2:b=p
  .lia
  .rwa [yQ h1,yQ h2,yQ h1]
def nW(ds g:List (Str×Int)):List (Str×Int):=kU (iZ (iZ [] ds) g)
def fM ds g:(nW ds g).length<=ds.length+g.length:=by
 delta nW
 rw[rA];have h1:=qW g (iZ [] ds);have h2:=qW ds [];have:([]:List (Str×Int)).length=0:=rfl
 lia
def Sa(P:Str×Int->Prop)(cs:List (Str×Int)):Prop:=∀c∈cs,P c
abbrev t8:=Sa fun c=>Bd c.2
abbrev q9:=Sa fun c=>Bd c.2/\c.1.length<=8
theorem q9.b(h:q9 cs):t8 cs:=fun c g=>(h c g).1
def QV(h:c∈kU cs):c∈cs:=by
 obtain⟨i,hi,rfl⟩:=AM.1 h
 have g:0 < cs.length:=by
  rcases Nat.eq_zero_or_pos cs.length with z | z
  .rw [z,WC] at hi;cases hi
  .exact z
 have:=(cY (Zh cs) cs.length g).mem_iff.mp hi;rw[BQ] at this;rw[BA,AK this];exact Ap _
theorem Sa.put(h:Sa P cs)n(hi:P (n,i)):Sa P (tD cs n i):=by
 intro c g
 delta tD at g
 split at g
 .obtain ⟨x,j,rfl⟩:=AM.1 g
  split
  .lia
  .exact h x j
 .rcases Ae.1 g with g | g
  .exact h c g
  .grind
def Sa.merge(j:Sa P g):∀{cs},Sa P cs->Sa P (iZ cs g):=by
 induction g with
 |nil=>intro cs h;exact h
 |cons m g D =>
  intro cs h;exact D (fun c q=>j c (AI _ q)) (h.put m.1 (j m AE))
def Sa.over(j:Sa P ds)(q:Sa P D):Sa P (nW ds D):=fun c g=>(Sa.merge q (Sa.merge j (cs:=[]) (fun _ z=>nomatch z))) c (QV g)
section
variable {W:Wd}{a:Adr}
inductive Y6(ts:List PV)(C:CH)(Q:K1):Prop
 |mk(ds ms:List (Str×Int))(z0:ts=[.tup (ds.map dQ),.tup (ms.map dQ)])(z1:ds.length+ms.length<=60)(z2:∀C',Gr C C'->Q (.tup ((nW ds ms).map dQ)) C')
def Ka(T:Tx W a):Ok W a 1 41 ["_law_downs","_law_more"] Y6:=by
 have S:=(T.F 41 rfl).s
 refine(T.F 41 rfl).ok (fun ts C R h=>?_) fun ae A ai s H E O=>⟨_,(xQ (fu 2 S.nd (mZ (bS rfl) XT rfl T.aN rfl (dw (cv 0))))
  (xQ (jG PassesOwn.never rfl (cv 1) (oB rfl (nX (j7 3 S.nd) (nX (j7 4 S.nd) kG))) (kQ (lV (xZ O) (cv 2) (cv 3) (cv 4))))
  (kQ (GA 3 (o8 T.sX (iQ (dU rfl) vD rfl T.uD rfl (dw (GQ rfl (show(["_law_name","_law_downs","_law_more","_law_found","?","_law_number_here"]:List Str).Nodup by decide +kernel) (qS (N:=["_law_downs","_law_more","_law_found","?","_law_number_here"]) (sc:=lX (top 55)) rfl rfl rfl (by decide +kernel)) (cv 2) (fun _ _ _ _ _=>xK) (fun _ _ _ _ _=>(cQ (qQ (cv 0) (dw (zJ (xZ O) (cv 3) (cv 0) (fun _ _=>rfl)))))))))))))),?_⟩
 .obtain ⟨ds,g,rfl,_⟩:=h;rfl
 rintro ts C R ⟨ds,g,rfl,af,q⟩;have ag:=AW (qW ds []) (by show 0+ds.length<=ds.length;lia);refine uQ (Gu (by lia) fun p U=>?_);refine dZ (aF rfl (wJ (fun zs M C'=>∃I J j vs,g=j++vs/\zs=vs.map dQ/\M=[some (.tup (ds.map dQ)),some (.tup (g.map dQ)),some (.ref p),I,J]/\C' p=some (.dK ((iZ (iZ [] ds) j).map jz))/\Gr C C') ?_ ?_ _ _ _ ⟨_,_,[],g,rfl,rfl,rfl,jQ,Gr.new U _⟩))
 .rintro z zs M C1 ⟨I,J,j,vs,e,D,rfl,G,F⟩ L Z
  cases vs with
  |nil=>cases D
  |cons v vs =>
   obtain⟨rfl,rfl⟩:=BO D;refine⟨rfl,yZ (yZ (lB ?_))⟩;have hl:=qW j (iZ [] ds);have ah:j.length<=g.length:=by rw[e,AJ];lia
   apply Iu G (by lia)
   refine Z _ _ ⟨_,_,j++[v],vs,by rw[Ad];exact e,rfl,rfl,?_,uG F U _⟩;rw[jQ]
   delta iZ
   rw[BR]
   rfl
 .rintro M C1 ⟨I,J,j,vs,e,D,rfl,G,F⟩
  cases vs with
  |cons v vs=>cases D
  |nil =>
  rw[Ai] at e;subst e;have hl:=qW g (iZ [] ds);refine Dq (Xh g (Xh ds (cs:=[]) Cd)) (by lia) rfl G fun p2 C2 m2 Y=>?_;refine uC m2 (by lia) fun p3 ab=>?_;exact tK jQ (q _ ((F.trans Y).trans (Gr.new ab _)))
end
noncomputable def Wt.sp:Wt->List Key
 |.plain s _ _ _ _=>s
 |.part s _ _=>s
 |.give s _ _ _=>s
def kB:Key->Prop
 |.inl none=>True
 |.inl (some i)=>Bd i
 |.inr _=>False
def uv(sp:List Key):Prop:=∃k c,sp=[k,.inl (some c)]/\kB k/\0<=c/\c<=400
theorem uv.l(h:uv sp):sp.length<=2:=by
 obtain⟨k,c,rfl,_⟩:=h;exact AH 2
def HvB(x:pq):Prop:=x.ev.length<=8/\(0<=x.rank/\x.rank<=9)/\∀c∈x.ch,c.1.length<=8/\c.2.1.length<=8/\Bd c.2.2
def ju(rs:List Str):Nat->Wt->Prop
 |0,_=>False
 |_+1,.part sp n g=>uv sp/\n∈rs/\g.length<=4/\q9 g
 |d+1,.give sp n i r=>uv sp/\(Bd i/\n.length<=8)/\(∀x∈r,ju rs d x)/\(r.map Wt.sp).Nodup
 |d+1,.plain sp j ss h r=>uv sp/\(ss.length<=4/\h.length<=4/\(∀x∈h,x.ch.length<=4)/\j.length<=8/\q9 ss/\∀x∈h,HvB x)/\(∀x∈r,ju rs d x)/\(r.map Wt.sp).Nodup
def zM(rs:List Str)(d:Nat)(r:List Wt):Prop:=(∀x∈r,ju rs d x)/\(r.map Wt.sp).Nodup
def ju.up: ∀{d}{x},ju rs d x->ju rs (d+1) x:=by
 intro d
 induction d with
 |zero=>intro x h;exact h.elim
 |succ d q =>
  intro x h
  cases x with
  |plain s t g hs r=>exact⟨h.1,h.2.1,fun y j=>q (h.2.2.1 y j),h.2.2.2⟩
  |part s n g=>exact h
  |give s n i r=>exact⟨h.1,h.2.1,fun y j=>q (h.2.2.1 y j),h.2.2.2⟩
def ju.mono(h:ju rs d x)(j:d<=e):ju rs e x:=by
 induction j with
 |refl=>exact h
 |step _ g=>exact g.up
def qx(F:List Wt)(N:jr):Prop:=(F.map Wt.sp).Nodup/\(∀x∈F,∃k c,x.sp=[k,.inl (some c)]/\c < zN N k)/\∀k,0<=zN N k/\zN N k<=F.length
def lq(rs:List Str)(e:Nat)(st:mq):Prop:=(∀x∈st.1,ju rs e x)/\qx st.1 st.2.1
def qD N k g:zN (oY N k) g=if g=k then zN N k+1 else zN N g:=by
 show(match sJ (kJ N k (.int (zN N k+1))) g with | some (.int i)=>i | _=>0)=_;rw[kA]
 by_cases e:g=k
 .simp_all
 .rw [Af e,Af e];rfl
def qx.add(h:qx F N)(J:x.sp=fY N k):qx (F++[x]) (oY N k):=by
 refine⟨?_,fun y g=>?_,fun q=>?_⟩
 .rw [AS,List.nodup_append]
  refine⟨h.1,by simp,fun a O b I e=>?_⟩;have I:b=x.sp :=by grind
  obtain⟨y,g,rfl⟩:=AM.1 O;obtain⟨q,c,D,G⟩:=(h.2.1 y g);rw[I,J,D] at e;injection e with e3 M
  injection M with j
  injection j with j
  injection j with j
  lia
 .rcases Ae.1 g with g | g
  .refine bU (h.2.1 y g) fun q c D G=>⟨q,c,D,?_⟩
   rw[qD]
   split
   .lia
   .exact G
  .cases AF.1 g
   exact⟨k,zN N k,J,by rw[qD,Ah rfl];lia⟩
 .rw [qD,AJ,Aa]
  have h1:=h.2.2 k;have h2:=h.2.2 q
  split<;>lia
def Xa(g:tU A τ bs ns)(h:kN bs ns d ps):q9 (kU (mJ A τ ps)):=fun c q=>by
 have:=QV q;obtain⟨p,j,rfl⟩:=AM.1 this;exact⟨eU g.a g.t g.h (h p j).1,(h p j).2⟩
def ZP(g:tU A τ bs ns)(h:gT bs ns k):kB (rG A τ k):=by
 cases k with
 |none=>trivial
 |some r=>exact eU g.a g.t g.h h
theorem dS(h1:∀e,d<=e->∀l ns τ st,gw bs rs d ns l->tU A τ bs ns->lq rs e st->st.1.length+l.tw<=400->lq rs e (iX A l τ st)):∀e,d<=e->∀g ns τ st,(∀x∈g,gw bs rs d ns x)->tU A τ bs ns->lq rs e st->st.1.length+Ln.il g<=400->lq rs e (eQ A g τ st)
 |e,j,[],ns,τ,st,_,_,h,_=>by rwa [qJ]
 |e,j,l::g,ns,τ,st,D,q,h,G=>by
  rw[Ln.il] at G;have:=(Xk A l τ st).1;exact dS h1 e j g ns τ _ (fun x F=>D x (AI _ F)) q (h1 e j l ns τ st (D l AE) q h (by lia)) (by lia)
theorem lq.nil: lq rs e ([],[],R):=⟨fun _ z=>(nomatch z),Cd,(fun _ z=>(nomatch z)),fun _=>⟨BB 0,BB 0⟩⟩
def Js{A:iw}{bs rs:List Str}(ae:∀s∈bs,s.length<=8):∀(d e:Nat),d<=e->∀(l:Ln)(ns:List Str)(τ:jr)(st:mq),gw bs rs d ns l->tU A τ bs ns->lq rs e st->st.1.length+l.tw<=400->lq rs e (iX A l τ st):=by
 intro d
 induction d with
 |zero=>intro e ab l ns τ st h;exact h.elim
 |succ d ih =>
  intro e ab l ns τ st h q J M;have Z:∀{k},kB k->uv (fY st.2.1 k):=fun {k}O=>⟨k,_,rfl,O,(J.2.2.2 k).1,by have:=(J.2.2.2 k).2;lia⟩;have S:=dS ih
  have U:∀x k R,ju rs (d+1) x->x.sp=fY st.2.1 k->lq rs e (st.1++[x],oY st.2.1 k,R):=by
   intro x k R D ag;refine⟨fun y F=>?_,J.2.add ag⟩
   rcases Ae.1 F with F | F
   .exact J.1 y F
   .cases AF.1 F;exact D.mono ab
  cases l with
  |plain k ai s hs I =>
   refine rT h fun h1 h2 G N Y=>?_;rw[iX];have b:=S d (AH _) I ns τ ([],[],zK A τ hs (cK A τ s (qY A τ k st.2.2))) N q lq.nil (by rw[Ln.tw] at M;show 0+_<=_;lia);refine U _ _ _ ⟨Z (ZP q h1),⟨?_,?_,fun x D=>?_,Y.2,Xa q h2.1,fun x D=>?_⟩,b.1,b.2.1⟩ rfl
   .rw [rA];delta mJ;rw[AB];exact h2.2
   .delta iJ;rw[AB];exact G.2
   .unfold iJ at D
    obtain⟨y,F,rfl⟩:=AM.1 D;show(kS A τ y.ch).length<=4
    delta kS
    rw[AB];exact(G.1 y F).1
   .unfold iJ at D
    obtain⟨y,F,rfl⟩:=AM.1 D;have o:=G.1 y F;refine⟨o.2.2.1,o.2.2.2,fun c hc=>?_⟩;obtain⟨z,M,rfl⟩:=AM.1 hc;have o:=o.2.1 z M;exact⟨ae _ o.2.1,o.2.2,eU q.a q.t q.h o.1⟩
  |part k n g =>
   obtain⟨h1,h2,G,N⟩:=h;rw[iX];refine U _ _ _ ⟨Z (ZP q h1),h2,?_,Xa q G⟩ rfl;rw[rA]
   delta mJ
   rwa [AB]
  |give k n r I =>
   obtain⟨h1,h2,G,N,Y⟩:=h;rw[iX];have b:=S d (AH _) I ns τ ([],[],r.jc A τ (qY A τ k st.2.2)) N q lq.nil (by rw[Ln.tw] at M;show 0+_<=_;lia);exact U _ _ _ ⟨Z (ZP q h1),⟨eU q.a q.t q.h G,(by decide +kernel:∀s∈(["a","ab","b"]:List Str),s.length<=8) n h2⟩,b.1,b.2.1⟩ rfl
  |when r l1 l2 =>
   obtain⟨h1,⟨h2,G⟩,N,Y⟩:=h;rw[iX]
   split
   .exact S e (by lia) l2 ns τ _ N q J (by rw[Ln.tw] at M;lia)
   .exact S e (by lia) l1 ns τ _ h2 q J (by rw[Ln.tw] at M;lia)
  |each n r I =>
   obtain⟨h1,h2,G⟩:=h;rw[iX]
   have:∀(l:List Nat),(∀k∈l,k < 8)->∀x:mq,lq rs e x->x.1.length+l.length * Ln.il I<=400->lq rs e (l.foldl (fun st k=>eQ A I (kJ τ (.inr n) (.int (k:Nat))) st) x):=by
    intro l
    induction l with
    |nil=>intro _ x D _;exact D
    |cons k l ah =>
     intro O x D F;rw[AQ,Nat.succ_mul] at F;have hq:=(lJ A I (kJ τ (.inr n) (.int (k:Nat))) x).1;have k8:=O k AE;refine ah (fun j hj=>O j (AI _ hj)) _ (S e (by lia) I [n] _ x h2 ⟨q.a,q.t.put _ (by delta Bd;lia),fun m af=>?_,q.b⟩ D (by lia)) (AW (Nat.add_le_add_right hq _) (by lia));cases AF.1 af;rw[kA,Ah rfl];rfl
   have h8:=nL (r.val A τ);refine this _ (fun k O=>?_) _ J ?_
   .rw [BQ] at O
    lia
   .rw [An]
    rw[Ln.tw] at M;have:=Bi (Ln.il I) h8
    lia
def WD(h:∀x∈g,gw bs rs d ns x)(j:tU A τ bs ns)(q:∀s∈bs,s.length<=8)(D:Ln.il g<=400):zM rs d (eQ A g τ ([],[],R)).1:=by
 have b:=dS (Js q d) d (AH _) g ns τ ([],[],R) h j lq.nil (by grind);exact⟨b.1,b.2.1⟩
mutual
def Wt.pc:Wt->Nat
 |.plain _ _ _ _ r=>Wt.jd r
 |.part _ _ _=>1
 |.give _ _ _ r=>Wt.jd r
def Wt.jd:List Wt->Nat
 |[]=>0
 |x::r=>x.pc+Wt.jd r
end
def Wt.lg xs ys:Wt.jd (xs++ys)=Wt.jd xs+Wt.jd ys:=by
 induction xs with
 |nil=>show _=0+_;rw[BP];rfl
 |cons x xs g=>show x.pc+Wt.jd (xs++ys)=x.pc+Wt.jd xs+Wt.jd ys;lia
mutual
theorem Lb(A:iw):∀(l:Ln)(τ:jr)(st:mq),Wt.jd (iX A l τ st).1<=Wt.jd st.1+l.pw
 |.when r D F,τ,st=>by
  rw[iX];have h1:=tY A D τ (st.1,st.2.1,r.jc A τ st.2.2);have h2:=tY A F τ (st.1,st.2.1,r.jc A τ st.2.2);show _<=_+(Ln.iy D+Ln.iy F)
  split
  .exact AW h2 (by show Wt.jd st.1+_<=_;omega)
  .exact AW h1 (by show Wt.jd st.1+_<=_;omega)
 |.each n r j,τ,st=>by
  rw[iX];have c:=nL (r.val A τ);have q:=uU (f:=fun st k=>eQ A j (kJ τ (.inr n) (.int (k:Nat))) st) (m:=fun st=>Wt.jd st.1) (c:=Ln.iy j) (fun x k=>tY A j _ x) (List.range (jN (r.val A τ))) (st.1,st.2.1,r.jc A τ st.2.2);rw[An] at q;have G:jN (r.val A τ) * Ln.iy j<=8 * Ln.iy j:=Bi _ c;show _<=Wt.jd st.1+8 * Ln.iy j;exact AW q (by show Wt.jd st.1+_<=_;omega)
 |.part k n g,τ,st=>by
  rw[iX];show Wt.jd (st.1++[_])<=_;rw[Wt.lg];exact AH _
 |.give k n r j,τ,st=>by
  rw[iX];have h:=tY A j τ ([],[],r.jc A τ (qY A τ k st.2.2));show Wt.jd (st.1++[_])<=_;rw[Wt.lg];show Wt.jd st.1+(Wt.jd _+0)<=Wt.jd st.1+Ln.iy j;have h:Wt.jd (eQ A j τ ([],[],r.jc A τ (qY A τ k st.2.2))).1<=0+Ln.iy j:=h;omega
 |.plain k I s hs j,τ,st=>by
  rw[iX];have h:=tY A j τ ([],[],zK A τ hs (cK A τ s (qY A τ k st.2.2)));show Wt.jd (st.1++[_])<=_;rw[Wt.lg];show Wt.jd st.1+(Wt.jd _+0)<=Wt.jd st.1+Ln.iy j;have h:Wt.jd (eQ A j τ ([],[],zK A τ hs (cK A τ s (qY A τ k st.2.2)))).1<=0+Ln.iy j:=h;omega
theorem tY(A:iw):∀(j:List Ln)(τ:jr)(st:mq),Wt.jd (eQ A j τ st).1<=Wt.jd st.1+Ln.iy j
 |[],τ,st=>by rw[qJ];exact BV _ _
 |l::j,τ,st=>by
  rw[rZ];have h1:=Lb A l τ st;have h2:=tY A j τ (iX A l τ st);show _<=_+(l.pw+Ln.iy j);omega
end
mutual
def Wt.wc:Wt->Nat
 |.plain _ _ _ _ r=>1+Wt.jy r
 |.part _ _ _=>1
 |.give _ _ _ r=>1+Wt.jy r
def Wt.jy:List Wt->Nat
 |[]=>0
 |x::r=>x.wc+Wt.jy r
end
def Wt.o9 xs ys:Wt.jy (xs++ys)=Wt.jy xs+Wt.jy ys:=by
 induction xs with
 |nil=>show _=0+_;rw[BP];rfl
 |cons x xs g=>show x.wc+Wt.jy (xs++ys)=x.wc+Wt.jy xs+Wt.jy ys;lia
mutual
theorem Jq(A:iw):∀(l:Ln)(τ:jr)(st:mq),Wt.jy (iX A l τ st).1<=Wt.jy st.1+l.tw
 |.when r D F,τ,st=>by
  rw[iX];have h1:=dW A D τ (st.1,st.2.1,r.jc A τ st.2.2);have h2:=dW A F τ (st.1,st.2.1,r.jc A τ st.2.2);show _<=_+(Ln.il D+Ln.il F)
  split
  .exact AW h2 (by show Wt.jy st.1+_<=_;omega)
  .exact AW h1 (by show Wt.jy st.1+_<=_;omega)
 |.each n r j,τ,st=>by
  rw[iX];have c:=nL (r.val A τ);have q:=uU (f:=fun st k=>eQ A j (kJ τ (.inr n) (.int (k:Nat))) st) (m:=fun st=>Wt.jy st.1) (c:=Ln.il j) (fun x k=>dW A j _ x) (List.range (jN (r.val A τ))) (st.1,st.2.1,r.jc A τ st.2.2);rw[An] at q;have G:jN (r.val A τ) * Ln.il j<=8 * Ln.il j:=Bi _ c;show _<=Wt.jy st.1+8 * Ln.il j;exact AW q (by show Wt.jy st.1+_<=_;omega)
 |.part k n g,τ,st=>by
  rw[iX];show Wt.jy (st.1++[_])<=_;rw[Wt.o9];exact AH _
 |.give k n r j,τ,st=>by
  rw[iX];have h:=dW A j τ ([],[],r.jc A τ (qY A τ k st.2.2));show Wt.jy (st.1++[_])<=_;rw[Wt.o9];show Wt.jy st.1+((1+Wt.jy _)+0)<=Wt.jy st.1+(1+Ln.il j);have h:Wt.jy (eQ A j τ ([],[],r.jc A τ (qY A τ k st.2.2))).1<=0+Ln.il j:=h;omega
 |.plain k I s hs j,τ,st=>by
  rw[iX];have h:=dW A j τ ([],[],zK A τ hs (cK A τ s (qY A τ k st.2.2)));show Wt.jy (st.1++[_])<=_;rw[Wt.o9];show Wt.jy st.1+((1+Wt.jy _)+0)<=Wt.jy st.1+(1+Ln.il j);have h:Wt.jy (eQ A j τ ([],[],zK A τ hs (cK A τ s (qY A τ k st.2.2)))).1<=0+Ln.il j:=h;omega
theorem dW(A:iw):∀(j:List Ln)(τ:jr)(st:mq),Wt.jy (eQ A j τ st).1<=Wt.jy st.1+Ln.il j
 |[],τ,st=>by rw[qJ];exact BV _ _
 |l::j,τ,st=>by
  rw[rZ];have h1:=Jq A l τ st;have h2:=dW A j τ (iX A l τ st);show _<=_+(l.tw+Ln.il j);omega
end
structure jk where
 path:mK
 name:Str
 gives:List (Str×Int)
 downs:List (Str×Int)
def tX(p:mK):PV:=.tup (p.map pV)
def jk.pv(x:jk):PV:=.tup [tX x.path,.str x.name,.tup (x.gives.map dQ),.tup (x.downs.map dQ)]
mutual
def Wt.qg:Wt->mK->List (Str×Int)->List jk
 |.part sp n g,s,ds=>[⟨s++[sp],n,g,ds⟩]
 |.give sp n i r,s,ds=>Wt.fj r (s++[sp]) (nW ds [(n,i)])
 |.plain sp _ _ _ r,s,ds=>Wt.fj r (s++[sp]) ds
def Wt.fj:List Wt->mK->List (Str×Int)->List jk
 |[],_,_=>[]
 |x::r,s,ds=>x.qg s ds++Wt.fj r s ds
end
mutual
theorem vh:∀(x:Wt)(s:mK)(ds:List (Str×Int)),(x.qg s ds).length=x.pc
 |.part _ _ _,_,_=>rfl
 |.give sp n i r,s,ds=>by rw[Wt.qg,Wt.pc];exact eK r _ _
 |.plain sp _ _ _ r,s,ds=>by rw[Wt.qg,Wt.pc];exact eK r _ _
theorem eK:∀(r:List Wt)(s:mK)(ds:List (Str×Int)),(Wt.fj r s ds).length=Wt.jd r
 |[],_,_=>rfl
 |x::r,s,ds=>by rw[Wt.fj,Wt.jd,AJ,vh x,eK r]
end
def QR xs ys s ds:Wt.fj (xs++ys) s ds=Wt.fj xs s ds++Wt.fj ys s ds:=by
 induction xs with
 |nil=>rfl
 |cons x xs g=>rw[CC,Wt.fj,Wt.fj,g,Ad]
def Fv(x:Wt):∃j rest,x.pv=.tup (.str j::pV x.sp::rest)/\(j = "plain"\/j = "part"\/j = "give"):=by
 cases x with
 |plain s t g h r=>exact⟨"plain",_,by rfl,.inl rfl⟩
 |part s n g=>exact⟨"part",_,by rfl,.inr (.inl rfl)⟩
 |give s n i r=>exact⟨"give",_,by rfl,.inr (.inr rfl)⟩
section
variable {W:Wd}{a:Adr}
inductive Nr(d:Nat)(ts:List PV)(C:CH)(Q:K1):Prop
 |mk(r:List Wt)(s:mK)(ds:List (Str×Int))(rs:List Str)(z0:ts=[.tup (Wt.ig r),tX s,.tup (ds.map dQ)])(z1:zM rs d r)(z2:s.length+d<=50)(z3:ds.length+d<=50)(z4:Wt.jd r<=1000)(z5:∀p C',C p=none->C' p=some (.lst ((Wt.fj r s ds).map jk.pv))->Gr C C'->Q (.ref p) C')
def Yl(T:Tx W a)(d:Nat):Ok W a (d+2) 42 U3 (Nr d):=by
 have ah:∀n,(∀d',n=d'+1->Ok W a (n+1) 42 U3 (Nr d'))->Ok W a (n+2) 42 U3 (Nr n):=by
  intro n ih;have S:=(T.F 42 rfl).s;have qT:=(Ka T).mono (show 1<=n+1 by lia)
  have jF:Ok W a (n+1) 42 U3 (fun ts C Q=>∃d',n=d'+1/\Nr d' ts C Q):=by
   cases n with
   |zero=>exact eJ fun ts C Q zz=>oQ zz fun d' e _=> by lia
   |succ d' =>
    have:=ih d' rfl
    have e:(fun ts C Q=>∃ab,d'+1=ab+1/\Nr ab ts C Q)=Nr d':=by
     funext ts C Q
     refine propext ⟨fun zz=>oQ zz fun ab e h=> ?_,fun h=>⟨d',rfl,h⟩⟩;cases Ax e;exact h
    rw[e];exact this
  refine(T.F 42 rfl).o (fun hr=>(xQ (fu 3 S.nd (gX bZ))
  (xQ (jG PassesOwn.never rfl (cv 0) (j7 4 S.nd) (xQ (fu 5 S.nd (xX pX dX (cv 1) (cQ (dw (cx (cv 4) zQ)))))
  (xQ (nQ (ct2 wX sQ (cx (cv 4) zQ) vQ) (kQ (uZ (cap (cv 3) (cQ (qQ (cv 5) (qQ (cx (cv 4) zQ) (qQ (cx (cv 4) zQ) (dw (cv 2))))))))) lQ)
  (xQ (nQ (ct2 wX sQ (cx (cv 4) zQ) vQ) (kQ (fu 3 S.nd (xX pX dX (cv 3) (cf (T.F 42 rfl) jF hr (qQ (cx (cv 4) zQ) (qQ (cv 5) (dw (cf (T.F 41 rfl) qT hr (qQ (cv 2) (dw (cQ (dw (cQ (qQ (cx (cv 4) zQ) (dw (cx (cv 4) zQ)))))))))))))))) lQ)
  (kQ (nQ (ct2 wX sQ (cx (cv 4) zQ) vQ) (kQ (fu 3 S.nd (xX pX dX (cv 3) (cf (T.F 42 rfl) jF hr (qQ (cx (cv 4) zQ) (qQ (cv 5) (dw (cv 2)))))))) lQ))))))
  (kQ (wQ (cv 3)))))) ?_
  rintro ts C R ⟨r,s,ds,rs,rfl,ak,hs,aq,ai,q⟩;refine uQ ?_;refine⟨by decide,fun p G=>?_⟩;refine dZ ?_;refine aF rfl ?_;refine wJ (fun zs ρ C'=>∃(p:Addr)(x4 x5:Option PV)(F vs:List Wt),r=F++vs/\zs=Wt.ig vs/\ρ=[some (.tup (Wt.ig r)),some (tX s),some (.tup (ds.map dQ)),some (.ref p),x4,x5]/\C p=none/\C' p=some (.lst ((Wt.fj F s ds).map jk.pv))/\Gr C C') ?_ ?_ _ _ _ ⟨p,_,_,[],r,rfl,rfl,rfl,G,jQ,Gr.new G _⟩
  .rintro z zs ρ C1 ⟨p,x4,x5,F,vs,e,U,rfl,G,I,J⟩ L hL
   cases vs with
   |nil=>cases U
   |cons u vs =>
   obtain⟨rfl,rfl⟩:=BO (show z::zs=u.pv::Wt.ig vs from U);have hu:=ak.1 u (by rw[e];exact AV _ AE);have ar:Wt.jd F+(u.pc+Wt.jd vs)<=1000:=by have:=ai;rw[e,Wt.lg] at this;exact this
   have ae:((Wt.fj F s ds).map jk.pv).length=Wt.jd F:=by rw[AB,eK]
   have ea:Wt.fj (F++[u]) s ds=Wt.fj F s ds++u.qg s ds:=by rw[QR,Wt.fj,Wt.fj,Ai]
   obtain⟨wd,rest,ep,au⟩:=Fv u;refine uQ ?_;refine cX ep KR ?_;refine⟨ie 1 rfl,?_⟩;refine tS (yW (by rw[AB];show s.length+1<=1000;lia)) ?_;have eh:PV.tup (s.map pV++[pV u.sp])=tX (s++[u.sp]):=by delta tX;rw[AS];rfl
   rw[eh]
   cases n with
   |zero=>exact hu.elim
   |succ d' =>
   cases u with
   |part sp D g =>
    have ep:(Wt.part sp D g).pv=.tup [.str "part",pV sp,.str D,.tup (g.map dQ)]:=by rw[Wt.pv]
    refine dZ ?_;refine cX ep jX ?_;refine qX (pQ _ _) ?_;refine fZ (by decide) ?_;refine⟨tW I,?_⟩;refine cX ep (v:=.str D) rfl ?_;refine cX ep (v:=.tup (g.map dQ)) rfl ?_;refine⟨ie 4 rfl,?_⟩;refine sS I (by rw[ae];exact Ak (show Wt.jd F<=1000 by lia) (by decide)) ?_;refine dZ ?_;refine cX ep jX ?_;refine qX (pQ _ _) ?_;refine aX (by decide) ?_;refine zX ?_
    refine cX ep jX ?_;refine qX (pQ _ _) ?_;refine aX (by decide) ?_;refine zX ?_;refine hL _ _ ⟨p,_,_,F++[.part sp D g],vs,by rw[Ad];exact e,rfl,rfl,G,?_,uG J G _⟩;rw[jQ,ea,AS,Wt.qg]
    rfl
   |give sp D i j =>
    obtain⟨_,ao,o1,o2⟩:=hu;have ep:(Wt.give sp D i j).pv=.tup [.str "give",pV sp,.str D,.int i,.tup (Wt.ig j)]:=by rw[Wt.pv]
    have aj:Wt.jd j=(Wt.give sp D i j).pc:=by rw[Wt.pc]
    refine dZ ?_;refine cX ep jX ?_;refine qX (pQ _ _) ?_;refine aX (by decide) ?_;refine zX ?_;refine dZ ?_;refine cX ep jX ?_;refine qX (pQ _ _) ?_;refine fZ (by decide) ?_;refine cX ep (v:=.tup (Wt.ig j)) rfl ?_;refine cX ep (v:=.str D) rfl ?_;refine cX ep (v:=.int i) rfl ?_;refine⟨ie 2 rfl,?_⟩;refine⟨ie 1 rfl,?_⟩;refine⟨ds,[(D,i)],rfl,by show ds.length+1<=60;lia,fun C2 af=>?_⟩
    have ag:=fM ds [(D,i)];have ag:(nW ds [(D,i)]).length<=ds.length+1:=ag;refine⟨d',rfl,j,s++[sp],nW ds [(D,i)],rs,rfl,⟨o1,o2⟩,by rw[AJ,Aa];lia,by lia,by lia,fun p3 C3 n3 m3 N=>?_⟩;refine eS (N _ _ (af _ _ I)) m3 (yW (by rw[ae,AB,eK];lia)) fun p4 O=>?_;refine cX ep jX ?_;refine qX (pQ _ _) ?_;refine aX (by decide) ?_;refine zX ?_
    have M:Gr C C3:=(J.trans af).trans N;refine hL _ _ ⟨p4,_,_,F++[.give sp D i j],vs,by rw[Ad];exact e,rfl,rfl,bK M O,?_,M.trans (Gr.new O _)⟩;rw[jQ,ea,AS,Wt.qg]
   |plain sp Z Y hs j =>
    obtain⟨_,_,o1,o2⟩:=hu;have ep:(Wt.plain sp Z Y hs j).pv=.tup [.str "plain",pV sp,.str Z,.tup (Y.map dQ),.tup (hs.map pq.pv),.tup (Wt.ig j)]:=by rw[Wt.pv]
    have aj:Wt.jd j=(Wt.plain sp Z Y hs j).pc:=by rw[Wt.pc]
    refine dZ ?_;refine cX ep jX ?_;refine qX (pQ _ _) ?_;refine aX (by decide) ?_;refine zX ?_;refine dZ ?_;refine cX ep jX ?_;refine qX (pQ _ _) ?_;refine aX (by decide) ?_;refine zX ?_;refine cX ep jX ?_;refine qX (pQ _ _) ?_;refine fZ (by decide) ?_;refine cX ep (v:=.tup (Wt.ig j)) rfl ?_;refine⟨d',rfl,j,s++[sp],ds,rs,rfl,⟨o1,o2⟩,by rw[AJ,Aa];lia,by lia,by lia,fun p3 C3 n3 m3 N=>?_⟩
    refine eS (N _ _ I) m3 (yW (by rw[ae,AB,eK];lia)) fun p4 O=>?_;have M:Gr C C3:=J.trans N;refine hL _ _ ⟨p4,_,_,F++[.plain sp Z Y hs j],vs,by rw[Ad];exact e,rfl,rfl,bK M O,?_,M.trans (Gr.new O _)⟩;rw[jQ,ea,AS,Wt.qg]
  .rintro ρ C1 ⟨p,x4,x5,F,vs,e,U,rfl,G,I,J⟩
   cases vs with
   |cons u vs=>cases U
   |nil =>
   rw[Ai] at e;subst e;exact q p C1 G I J
 induction d with
 |zero=>exact ah 0 fun d' e=>by lia
 |succ d ih=>exact ah (d+1) fun d' e=>by cases Ax e;exact ih
end
def Div(p q:mK):Prop:=∃c x y g j,p=c++x::g/\q=c++y::j/\x≠y
structure G7(rs:List Str)(s:mK)(nd:Nat)(x:jk)(d:Nat):Prop where
 name:x.name∈rs
 gl:x.gives.length<=4
 gb:q9 x.gives
 db:q9 x.downs
 dl:x.downs.length<=nd+d
 path:∃u,x.path=s++u/\u≠[]/\u.length<=d
def J3: ∀d r s ds,zM rs d r->q9 ds->(∀x∈Wt.fj r s ds,G7 rs s ds.length x d)/\(Wt.fj r s ds).Pairwise (fun x y=>Div x.path y.path):=by
 intro d
 induction d with
 |zero =>
  intro r s ds G F
  cases r with
  |nil=>exact⟨fun _ z=>(nomatch z),.nil⟩
  |cons x r=>exact(G.1 x AE).elim
 |succ d O =>
  intro r s ds G F
  have ag:∀x:Wt,ju rs (d+1) x->(∀y∈x.qg s ds,G7 rs s ds.length y (d+1)/\∃u,y.path=s++x.sp::u)/\(x.qg s ds).Pairwise (fun x y=>Div x.path y.path):=by
   intro x q
   cases x with
   |part sp n g =>
    rw[Wt.qg];refine⟨fun y j=>?_,DM _ _⟩;cases AF.1 j;exact⟨⟨q.2.1,q.2.2.1,q.2.2.2,F,by lia,[sp],rfl,by simp,by show 1<=d+1;lia⟩,[],rfl⟩
   |give sp n i N =>
    rw[Wt.qg];obtain⟨_,ab,J,M⟩:=q;have ae:q9 (nW ds [(n,i)]):=F.over fun c hc=>by cases AF.1 hc;exact ab
    have ai:(nW ds [(n,i)]).length<=ds.length+1:=fM ds [(n,i)];obtain⟨h1,h2⟩:=O N (s++[sp]) (nW ds [(n,i)]) ⟨J,M⟩ ae;refine⟨fun y j=>?_,h2⟩;have o:=h1 y j;obtain⟨u,e,_,ah⟩:=o.path;have D:y.path=s++sp::u:=by rw[e,Ad];rfl
    exact⟨⟨o.name,o.gl,o.gb,o.db,by have:=o.dl;lia,sp::u,D,by simp,by rw[List.length_cons];lia⟩,u,D⟩
   |plain sp aj ss hs N =>
    obtain⟨_,_,J,M⟩:=q;obtain⟨h1,h2⟩:=O N (s++[sp]) ds ⟨J,M⟩ F;refine⟨fun y j=>?_,h2⟩;have o:=h1 y j;obtain⟨u,e,_,ah⟩:=o.path;have D:y.path=s++sp::u:=by rw[e,Ad];rfl
    exact⟨⟨o.name,o.gl,o.gb,o.db,by have:=o.dl;lia,sp::u,D,by simp,by rw[List.length_cons];lia⟩,u,D⟩
  have Y:∀r:List Wt,(∀x∈r,ju rs (d+1) x)->(r.map Wt.sp).Nodup->(∀x∈Wt.fj r s ds,G7 rs s ds.length x (d+1)/\∃y∈r,∃u,x.path=s++y.sp::u)/\(Wt.fj r s ds).Pairwise (fun x y=>Div x.path y.path):=by
   intro r
   induction r with
   |nil=>intro _ _;exact⟨fun _ z=>(nomatch z),.nil⟩
   |cons x r af =>
    intro h I;rw[A5,BD] at I;obtain⟨S,U⟩:=ag x (h x AE);obtain⟨Z,b2⟩:=af (fun y j=>h y (AI _ j)) I.2;rw[Wt.fj];refine⟨fun y j=>?_,?_⟩
    .grind
    .rw [Dj]
     refine⟨U,b2,fun y j z hz=>?_⟩;obtain⟨_,u,e1⟩:=S y j;obtain⟨_,t,ht,v,e2⟩:=Z z hz;exact⟨s,x.sp,t.sp,u,v,e1,e2,fun e=>I.1 (e▸AM.2 ⟨t,ht,rfl⟩)⟩
  obtain⟨c1,c2⟩:=Y r G.1 G.2;exact⟨fun x q=>(c1 x q).1,c2⟩
def XN b:∀xs acc C,(∀x∈xs,∀K,K (b x) C->t (some x::I) C K)->(∀x∈xs,∀L,L x C->c (some x::I) C L)->acc.length+xs.length<=1000->(∀p,C p=none->Q (.ref p) (gQ C p (.lst (acc++xs.filter b))))->xJ t c I Q xs acc C:=by
 intro xs
 induction xs with
 |nil =>
  intro acc C _ _ _ q;rw[List.filter_nil,Ai] at q;exact pL q
 |cons x xs G =>
  intro acc C F j J q;rw[AQ] at J;refine aM (F x AE _ ?_)
  cases e:b x with
  |true =>
   refine j x AE _ ⟨AR (show acc.length < 1000 by lia) (by decide),?_⟩;refine G (acc++[x]) C (fun y g=>F y (AI _ g)) (fun y g=>j y (AI _ g)) (by grind) fun p D=>?_;have:=q p D;rw[List.filter_cons,e] at this
   rwa [Ad]
  |false =>
   refine G acc C (fun y g=>F y (AI _ g)) (fun y g=>j y (AI _ g)) (by lia) fun p D=>?_;have:=q p D
   rwa [List.filter_cons,e] at this
noncomputable def isNm(g:Str):PV->Bool
 |.tup (.str s::_)=>decide (s=g)
 |_=>false
theorem mE: ∀{q}{x},(fJ q).Nodup->x∈q->x.name=j->(q.map Pt.pv).filter (isNm j)=[x.pv]
 |[],x,_,m,_=>nomatch m
 |y::q,x,g,m,e=>by
  have g:(y.name::fJ q).Nodup:=g;rw[BD] at g
  have J:∀l:List Pt,(∀z∈l,z.name≠j)->(l.map Pt.pv).filter (isNm j)=[]:=by
   intro l h;rw[List.filter_eq_nil_iff];intro z D;obtain⟨w,G,rfl⟩:=AM.1 D;show ¬ decide (w.name=j)=true;rw[AN (h w G)]
   decide
  rw[A5,List.filter_cons];have F:isNm j y.pv=decide (y.name=j):=rfl
  rcases Aj.1 m with rfl | m
  .rw [F,Ab e,Ah rfl,J q fun z D I=>g.1 (by exact e▸I▸AM.2 ⟨z,D,rfl⟩)]
  .rw [F,AN (fun z=>g.1 (by exact z▸e▸AM.2 ⟨x,m,rfl⟩))]
   exact mE g.2 m e
abbrev Vl:=List (mK×(Str×List (Str×Int)))
def q8(v:Str×List (Str×Int)):PV:=.tup [.str v.1,.tup (v.2.map dQ)]
def nu(V:Vl):List (mK×PV):=V.map fun e=>(e.1,q8 e.2)
def lH(V:Vl)(p:mK):Option (Str×List (Str×Int)):=(V.find? fun e=>decide (e.1=p)).map (·.2)
def xA V p:jV (nu V) p=(lH V p).map q8:=by
 induction V with
 |nil=>rfl
 |cons e V g =>
  show jV ((e.1,q8 e.2)::nu V) p=_;rw[vY]
  delta lH
  rw[A3]
  by_cases h:e.1=p
  .simp_all
  .rw [Af h,AN h,g];rfl
def jZ(V:Vl)(y:Pt)(p:mK):List (Str×Int):=match lH V p with
 |some v=>if v.1=y.name then v.2 else y.first
 |none=>y.first
def yJ(s:Str)(ps:List (Str×Int))(A:iw):iw:=ps.foldl (fun A c=>iT A (qK s c.1) (.int c.2)) A
def aV(L:List (Str×List (Str×Int)))(A:iw):iw:=L.foldl (fun A e=>yJ e.1 e.2 A) A
noncomputable def vF(x:jk)(g:List (Str×Int)):List (Str×List (Str×Int)):=[("take",x.gives),("down",x.downs),("box",g)]
def cW(x:jk)(g:List (Str×Int)):iw:=aV (vF x g) []
def ut(e:Str×List (Str×Int)):PV:=.tup [.str e.1,.tup (e.2.map dQ)]
structure lz(V:Vl):Prop where
 b:∀e∈V,t8 e.2.2
 l:∀e∈V,e.2.2.length<=4
def Vu{V}(h:lH V p=some v):∃e∈V,e.2=v:=by
 delta lH at h
 cases e:V.find? fun e=>decide (e.1=p) with
 |none=>rw[e] at h;cases h
 |some x=>rw[e] at h;cases h;exact⟨x,Bc e,rfl⟩
def lS{V}(q:lz V){cap}(g:jw rs cap y)p:t8 (jZ V y p)/\(jZ V y p).length<=4:=by
 delta jZ
 cases e:lH V p with
 |none=>exact⟨fun c j=>g.fb c j,g.fl⟩
 |some v =>
  obtain⟨x,D,rfl⟩:=Vu e;dsimp only
  split
  .exact ⟨q.b x D,q.l x D⟩
  .exact ⟨fun c j=>g.fb c j,g.fl⟩
theorem kj.put(h:kj A)k(hi:Bd i):kj (iT A k (.int i)):=fun j g=>by
 rcases pC g with e | e
 .grind
 .exact h j e
theorem bM: ∀{ps}{A},t8 ps->kj A->kj (yJ s ps A)
 |[],A,_,h=>h
 |c::ps,A,g,h=>bM (ps:=ps) (fun x j=>g x (AI _ j)) (h.put _ (g c AE))
def Ng(h1:t8 x.gives)(h2:t8 x.downs)(j:t8 g):kj (cW x g):=bM j (bM h2 (bM h1 fun _ z=>(nomatch z)))
def WR[DecidableEq κ]R(k:κ)v:(iT R k v).length<=R.length+1 :=by grind[iT,List.length_map,List.length_append,List.length_singleton]
theorem vV: ∀ps A,(yJ s ps A).length<=A.length+ps.length
 |[],A=>AH _
 |c::ps,A=>by
  have h1:=vV (s:=s) ps (iT A (qK s c.1) (.int c.2));have h2:=WR A (qK s c.1) (.int c.2);show(yJ s ps (iT A (qK s c.1) (.int c.2))).length<=_;rw[AQ]
  lia
def zB:∀p,aH (tX p)=some p:=by
 intro p;show dO (p.map pV)=some p
 induction p with
 |nil=>rfl
 |cons k p q =>
  have j:cF (pV k)=some k:=by
   show eF (k.map oW)=some k
   induction k with
   |nil=>rfl
   |cons a k D =>
    show(match eV (oW a),eF (k.map oW) with | some k,some g=>some (k::g) | _,_=>none)=_;rw[CL.jo,D]
  show(match cF (pV k),dO (p.map pV) with | some k,some g=>some (k::g) | _,_=>none)=_;rw[j,q]
def Oq{kvs:List (mK×PV)}(m:C p=some (.dP kvs))(g:aH y=some k)(q:Q (.bl (jV kvs k).isSome) C):Ep y (.ref p) C Q:=by
 delta Ep
 dsimp only
 rwa [m,g]
def Hh(m:C p=some (.dP kvs))(g:aH y=some k)(j:jV kvs k=some v)(q:Q v C):Eo (.ref p) y C Q :=by simp_all[Eo]
def W0{kvs:List (mK×PV)}(m:C p=some (.dP kvs))(g:aH y=some k)(h:kvs.length<=100000)(q:Q (gQ C p (.dP (iT kvs k v)))):KJ (.ref p) y v C Q:=by
 delta KJ
 dsimp only;exact m▸g▸⟨Ak h (by decide),q⟩
section
variable {W:Wd}{a:Adr}
inductive Y7(ts:List PV)(C:CH)(Q:K1):Prop
 |mk(pts:List Pt)(x:Pt)(z0:ts=[.tup (pts.map Pt.pv),.str x.name])(z1:pts.length<=6)(z2:(fJ pts).Nodup)(z3:x∈pts)(z4:∀C',Gr C C'->Q x.pv C')
def jR(T:Tx W a):Ok W a 1 43 Uz Y7:=by
 have S:=(T.F 43 rfl).s;refine(T.F 43 rfl).o (fun M=>(kQ (wQ (cx (sV rfl (S.c (by decide +kernel)) (S.k rfl rfl rfl (by decide +kernel)) (jD (cv 0)) (fun _ _ _ _ _=>(GI (ct2 wX sQ (cx (cv 0) zQ) (cv 2)))) (fun _ _ _ _ _=>(cv 0))) zQ)))) ?_;rintro ts C R ⟨O,x,rfl,J,I,G,q⟩;refine XN (isNm x.name) _ [] C (fun y g K j=>?_) (fun y g L D=>D) (by grind) fun p F=>?_
 .obtain ⟨z,N,rfl⟩:=AM.1 g
  exact rX jX (qX (pQ _ _) j)
 .exact (mE I G rfl)▸sZ jQ jX (q _ (Gr.new F _))
inductive TF(ts:List PV)(C:CH)(Q:K1):Prop
 |mk(pts:List Pt)(vv:Addr)(V:Vl)(x:jk)(y:Pt)(z0:ts=[.tup (pts.map Pt.pv),.ref vv,x.pv])(z1:pts.length<=6)(z2:(fJ pts).Nodup)(z3:y∈pts)(z4:y.name=x.name)(z5:C vv=some (.dP (nu V)))(z6:(x.gives.length<=4/\x.downs.length<=60/\(jZ V y x.path).length<=4))(z7:∀aa C',C aa=none->C' aa=some (.dT (cW x (jZ V y x.path)))->Gr C C'->Q (.ref aa) C')
def Zy(T:Tx W a):Ok W a 2 44 U2 TF:=by
 have S:=(T.F 44 rfl).s;have jU:=jR T
 refine(T.F 44 rfl).ok (fun ts C R h=>?_) fun a0 A a7 s H E Z=>⟨_,(xQ (tP (cv 2) (oB rfl (nX (j7 3 S.nd) (nX (j7 4 S.nd) (nX (j7 5 S.nd) (nX (j7 6 S.nd) kG))))))
  (xQ (fu 7 S.nd (cx (cf (T.F 43 rfl) jU Z (qQ (cv 0) (dw (cv 4)))) zQ))
  (xQ (nQ (gm (iu (Z7 (IV (dB Z)) zr (cv 3) (cv 1) rfl) (gn (ct2 wX sQ (cx (GL (dB Z) (cv 1) (cv 3) (fun _ _=>rfl)) zQ) (cv 4))))) (kQ (fu 7 S.nd (cx (GL (dB Z) (cv 1) (cv 3) (fun _ _=>rfl)) zQ))) lQ)
  (xQ (fu 8 S.nd sI)
  (xQ (oM PassesOwn.never rfl (gX (qQ (cQ (qQ vQ (dw (cv 5)))) (qQ (cQ (qQ vQ (dw (cv 6)))) (dw (cQ (qQ vQ (dw (cv 7)))))))) (oB rfl (nX (j7 9 S.nd) (nX (j7 10 S.nd) kG))) (kQ (jG PassesOwn.never rfl (cv 10) (oB rfl (nX (j7 11 S.nd) (nX (j7 12 S.nd) kG))) (kQ (fI (xZ Z) (cv 8) (cQ (qQ (cv 9) (dw (cv 11)))) (cv 12))))))
  (kQ (wQ (cv 8)))))))),?_⟩
 .obtain ⟨J,vv,V,x,y,rfl,_⟩:=h;rfl
 rintro ts C R ⟨J,vv,V,x,y,rfl,hl,ax,hy,hn,hv,⟨l1,l2,l3⟩,q⟩;refine dZ ?_;refine⟨rfl,?_⟩;refine yZ (yZ (yZ (yZ (lB ?_))))
 try dsimp only
 refine uQ ?_;refine⟨J,y,by rw[hn],hl,ax,hy,fun C1 ae=>?_⟩;refine rX (xs:=[.str y.name,.tup (y.first.map dQ),.tup (y.works.map xU),.tup (Ln.ig y.ls)]) (v:=.tup (y.first.map dQ)) rfl ?_;have aj:=ae _ _ hv;refine tQ (fun ab C'=>C'=C1/\ab=[some (.tup (J.map Pt.pv)),some (.ref vv),some x.pv,some (tX x.path),some (.str x.name),some (.tup (x.gives.map dQ)),some (.tup (x.downs.map dQ)),some (.tup ((jZ V y x.path).map dQ)),none,none,none,none,none]) (fun L j=>?_) ?_
 .refine Oq aj (zB _) ?_
  rw[xA];unfold jZ at j
  cases e:lH V x.path with
  |none =>
   rw[e] at j;refine aX rfl ?_;refine yG rfl ?_;refine zX ?_;exact j _ _ ⟨rfl,rfl⟩
  |some v =>
   rw[e] at j;dsimp only at j;refine fZ rfl ?_;refine Hh aj (zB _) (v:=q8 v) (by rw[xA,e];rfl) ?_;refine rX (xs:=[.str v.1,.tup (v.2.map dQ)]) jX ?_;refine qX (pQ _ _) ?_
   by_cases h:v.1=x.name
   .rw [Ah (h.trans hn.symm)] at j
    refine fZ (Ab h) ?_;refine Hh aj (zB _) (v:=q8 v) (by rw[xA,e];rfl) ?_;refine rX (xs:=[.str v.1,.tup (v.2.map dQ)]) (v:=.tup (v.2.map dQ)) rfl ?_;exact j _ _ ⟨rfl,rfl⟩
   .rw [Af (fun z=>h (z.trans hn))] at j
    refine aX (AN h) ?_;refine zX ?_;exact j _ _ ⟨rfl,rfl⟩
 generalize a4:jZ V y x.path=g at l3 q;rintro ab C' ⟨rfl,rfl⟩;refine uQ ?_;intro aa au;have af:C aa=none:=bK ae au;refine tQ (fun ab ak=>∃(N M D F:Option PV),ab=[some (.tup (J.map Pt.pv)),some (.ref vv),some x.pv,some (tX x.path),some (.str x.name),some (.tup (x.gives.map dQ)),some (.tup (x.downs.map dQ)),some (.tup (g.map dQ)),some (.ref aa),N,M,D,F]/\ak aa=some (.dT (cW x g))/\Gr C ak) (fun L j=>?_) ?_
 .refine ⟨ie 2 rfl,?_⟩
  refine⟨ie 2 rfl,?_⟩;refine⟨ie 2 rfl,?_⟩;refine⟨ie 3 rfl,fun p hp=>?_⟩;have ai:p≠aa:=fun z=>by subst z;rw[jQ] at hp;cases hp
  have aw:C p=none:=by rw[yQ ai] at hp;exact bK ae hp
  refine⟨4,?_⟩
  have av:∀i,(aV ((vF x g).take i) []).length<=100:=by
   intro i;have ao:=vV (s:="take") x.gives [];have a3:=vV (s:="down") x.downs (yJ "take" x.gives []);have f3:=vV (s:="box") g (yJ "down" x.downs (yJ "take" x.gives []));have ao:(yJ "take" x.gives []).length<=0+x.gives.length:=ao
   match i with
   |0=>exact AX _
   |1=>show(yJ "take" x.gives []).length<=100;lia
   |2=>show(yJ "down" x.downs (yJ "take" x.gives [])).length<=100;lia
   |i+3=>rw[Bq (by show 3<=i+3;lia)];show(yJ "box" g (yJ "down" x.downs (yJ "take" x.gives []))).length<=100;lia
  refine bG (xs:=(vF x g).map ut) (fun i I C'=>C' p=some (.lst ((vF x g).map ut))/\∃(N M D F:Option PV),I=[some (.tup (J.map Pt.pv)),some (.ref vv),some x.pv,some (tX x.path),some (.str x.name),some (.tup (x.gives.map dQ)),some (.tup (x.downs.map dQ)),some (.tup (g.map dQ)),some (.ref aa),N,M,D,F]/\C' aa=some (.dT (aV ((vF x g).take i) []))/\Gr C C') (fun _ _ _ h=>h.1) ?_ ?_ _ 0 _ _ ⟨jQ,_,_,_,_,rfl,by rw[yQ (Ne.symm ai)];exact jQ,uG (uG ae af _) aw _⟩ rfl (AX _)
  .rintro i z I C3 hx ⟨m3,N,M,D,F,rfl,ma,U⟩ L1 aq
   rw[Am] at hx
   cases Y:(vF x g)[i]? with
   |none=>rw[Y] at hx;cases hx
   |some e =>
   rw[Y] at hx;cases hx;have hi:i < (vF x g).length:=(AU.1 Y).1
   have a5:e.2.length<=60:=by
    have ag:=Ac Y;unfold vF at ag
    simp only[List.mem_cons,List.not_mem_nil,or_false] at ag
    rcases ag with rfl | rfl | rfl
    .show x.gives.length<=60;lia
    .exact l2
    .show g.length<=60;lia
   refine⟨rfl,?_⟩;refine yZ (yZ (lB ?_));refine aF rfl ?_;refine wJ (fun zs I C'=>∃(G vs:List (Str×Int))(D F:Option PV),e.2=G++vs/\zs=vs.map dQ/\I=[some (.tup (J.map Pt.pv)),some (.ref vv),some x.pv,some (tX x.path),some (.str x.name),some (.tup (x.gives.map dQ)),some (.tup (x.downs.map dQ)),some (.tup (g.map dQ)),some (.ref aa),some (.str e.1),some (.tup (e.2.map dQ)),D,F]/\C' p=some (.lst ((vF x g).map ut))/\C' aa=some (.dT (yJ e.1 G (aV ((vF x g).take i) [])))/\Gr C C') ?_ ?_ _ _ _ ⟨[],e.2,_,_,rfl,rfl,rfl,m3,ma,U⟩
   .rintro z zs I C4 ⟨G,vs,ay,az,O,hz,rfl,m4,ah,g4⟩ L2 ar
    cases vs with
    |nil=>cases hz
    |cons v vs =>
    obtain⟨rfl,rfl⟩:=BO hz;refine⟨rfl,?_⟩;refine yZ (yZ (lB ?_));refine⟨ie 2 rfl,?_⟩;have a6:G.length<=e.2.length:=by rw[O,AJ];lia
    refine Zb (k:=qK e.1 v.1) ah rfl (by have:=vV (s:=e.1) G (aV ((vF x g).take i) []);have:=av i;lia) ?_;refine ar _ _ ⟨G++[v],vs,_,_,by rw[Ad];exact O,rfl,rfl,by rw[yQ ai];exact m4,?_,uG g4 af _⟩;rw[jQ]
    delta yJ
    rw[BR]
    rfl
   .rintro I C4 ⟨G,vs,ay,az,O,hz,rfl,m4,ah,g4⟩
    cases vs with
    |cons v vs=>cases hz
    |nil =>
    rw[Ai] at O;subst O;refine aq _ _ ⟨m4,_,_,_,_,rfl,?_,g4⟩;rw[ah];have et:(vF x g).take (i+1)=(vF x g).take i++[e]:=by rw[List.take_add_one,Y];rfl
    rw[et]
    delta aV
    rw[BR]
    rfl
  .rintro I C3 ⟨m3,N,M,D,F,rfl,ma,U⟩
   exact j _ _ ⟨_,_,_,_,rfl,ma,U⟩
 rintro ab C3 ⟨N,M,D,F,rfl,ma,U⟩;exact q aa C3 af ma U
end
structure En where
 x:jk
 pc:Pc
def En.pv(e:En):PV:=.tup [tX e.x.path,.str e.x.name,.tup (e.x.gives.map dQ),.tup (e.x.downs.map dQ),e.pc.pv]
def sC(j:List Pt)(g:Str):Pt:=(j.find? fun y=>decide (y.name=g)).getD ⟨"",[],[],[]⟩
theorem yN: ∀{j}{y},(fJ j).Nodup->y∈j->y.name=q->sC j q=y
 |[],y,_,m,_=>nomatch m
 |z::j,y,g,m,e=>by
  have g:(z.name::fJ j).Nodup:=g;rw[BD] at g
  delta sC
  rw[A3]
  rcases Aj.1 m with rfl | m
  .grind
  .have D:¬ z.name=q:=fun h=>g.1 (by exact h▸e▸AM.2 ⟨y,m,rfl⟩)
   exact(AN D)▸yN g.2 m e
def uW(g:List Pt)(V:Vl)(x:jk):Pc:=oJ (cW x (jZ V (sC g x.name) x.path)) (sC g x.name)
def jK(x q:jk):jk:=⟨x.path++q.path,q.name,q.gives,nW x.downs q.downs⟩
noncomputable def dr(g:List Pt)(V:Vl):Nat->jk->List En
 |0,_=>[]
 |n+1,x=>⟨x,uW g V x⟩::(Wt.fj (uW g V x).row [] []).flatMap fun q=>dr g V n (jK x q)
structure yD(pts:List Pt)(k:Nat)(x:jk):Prop where
 nm:(fJ pts)[k]?=some x.name
 gl:x.gives.length<=4
 gb:q9 x.gives
 db:q9 x.downs
 pl:x.path.length<=6 * k
 dl:x.downs.length<=6 * k
structure UT(pts:List Pt)(V:Vl)(k:Nat)(x:jk)(y:Pt):Prop where
 mem:y∈pts
 nm:y.name=x.name
 is:sC pts x.name=y
 ok:jw ((fJ pts).drop (k+1)) (pW k) y
 ab:kj (cW x (jZ V y x.path))
 row:zM ((fJ pts).drop (k+1)) 6 (uW pts V x).row
 jd:Wt.jd (uW pts V x).row<=pW k
 jy:Wt.jy (uW pts V x).row<=48
def XX(hs:jM D){V}(J:lz V)(h:yD D k x):∃y,UT D V k x y:=by
 have j:=h.nm;unfold fJ at j;rw[Am] at j
 cases e:D[k]? with
 |none=>rw[e] at j;cases j
 |some y =>
  rw[e] at j;have I:=Au j;have G:=Ac e;have q:=yN hs.nd G I;have g:=hs.ok k y e;have F:=Ng h.gb.b h.db.b (lS J g x.path).1;refine⟨y,G,I,q,g,F,?_,?_,?_⟩
  .delta uW
   exact q▸WD g.ls ⟨F,(fun _ z=>nomatch z),(fun _ z=>nomatch z),by rw[AB];exact g.fl⟩ g.b8 (by have:=g.tw;lia)
  .delta uW
   rw[q];have:=tY (cW x (jZ V y x.path)) y.ls [] ([],[],[]);have this:Wt.jd (eQ (cW x (jZ V y x.path)) y.ls [] ([],[],[])).1<=0+Ln.iy y.ls:=this;show Wt.jd (eQ (cW x (jZ V y x.path)) y.ls [] ([],[],[])).1<=pW k;have:=g.pw
   lia
  .delta uW
   rw[q];have:=dW (cW x (jZ V y x.path)) y.ls [] ([],[],[]);have this:Wt.jy (eQ (cW x (jZ V y x.path)) y.ls [] ([],[],[])).1<=0+Ln.il y.ls:=this;show Wt.jy (eQ (cW x (jZ V y x.path)) y.ls [] ([],[],[])).1<=48;have:=g.tw
   lia
def nB{V}(h:yD g k x)(F:UT g V k x y)(G:q∈Wt.fj (uW g V x).row [] []):∃D,k < D/\yD g D (jK x q)/\q.path≠[]/\q.path.length<=6/\q.downs.length<=6:=by
 have o:=(J3 6 _ [] [] F.row (fun _ z=>nomatch z)).1 q G;obtain⟨u,e,J,I⟩:=o.path;have e:q.path=u:=e;obtain⟨j,O,M⟩:=CN o.name;have N:q.downs.length<=0+6:=o.dl;refine⟨k+1+j,by lia,⟨?_,o.gl,o.gb,h.db.over o.db,?_,?_⟩,by rw[e];exact J,by rw[e];exact I,by lia⟩
 .have:((fJ g).drop (k+1))[j]?=some q.name :=by grind
  rwa [List.getElem?_drop] at this
 .show (x.path++q.path).length<=_
  rw[AJ,e];have:=h.pl
  lia
 .have:=fM x.downs q.downs
  have:=h.dl;show(nW x.downs q.downs).length<=_
  lia
theorem Ko{α β:Type}{f:α->List β}: ∀(l:List α),(∀x∈l,(f x).length<=b)->(l.flatMap f).length<=l.length * b
 |[],_=>by simp
 |x::l,h=>by
  have h1:=Ko l fun y g=>h y (AI _ g);have h2:=h x AE;rw[Ce,AJ,AQ]
  lia
noncomputable def Sy(m k:Nat):Nat:=if k=0 then 559 else 2 ^ m - 1
def Mv(hs:jM g){V}(G:lz V):∀n k x,yD g k x->(dr g V n x).length<=Sy (g.length - k) k:=by
 intro n
 induction n with
 |zero=>intro k x _;exact AX _
 |succ n O =>
  intro k x h;obtain⟨y,j⟩:=XX hs G h
  have Y:k < g.length:=by
   have:=(AU.1 h.nm).1;unfold fJ at this
   rwa [AB] at this
  have S:=hs.n6
  have h1:(dr g V (n+1) x).length<=1+pW k * (2 ^ (g.length - k - 1) - 1):=by
   rw[dr,AQ]
   have I:=Ko (f:=fun q=>dr g V n (jK x q)) (b:=2 ^ (g.length - k - 1) - 1) (Wt.fj (uW g V x).row [] []) fun q N=>by
    obtain⟨D,U,F,_⟩:=(nB h j N);have:=O D (jK x q) F;unfold Sy at this;rw[Af (by lia)] at this;have M:2 ^ (g.length - D)<=2 ^ (g.length - k - 1):=Cq (by decide) (by lia)
    lia
   rw[eK] at I;have:Wt.jd (uW g V x).row * (2 ^ (g.length - k - 1) - 1)<=pW k * (2 ^ (g.length - k - 1) - 1):=Bi _ j.jd
   lia
  delta Sy
  unfold pW at h1
  split
  .next J =>
   have M:2 ^ (g.length - k - 1)<=2 ^ 5:=Cq (by decide) (by lia)
   lia
  .next J =>
   have e:g.length - k=(g.length - k - 1)+1:=by lia
   rw[e,Nat.pow_succ];have:1<=2 ^ (g.length - k - 1):=Nat.one_le_two_pow
   lia
def XF(hs:jM g){V}(j:lz V)(h:yD g k x):(dr g V n x).length<=559:=by
 have:=Mv hs j n k x h;unfold Sy at this
 split at this
 .exact this
 .have q:=hs.n6
  have D:2 ^ (g.length - k)<=2 ^ 6:=Cq (by decide) (by lia)
  lia
section
variable {W:Wd}{a:Adr}
inductive gWi(n:Nat)(ts:List PV)(C:CH)(Q:K1):Prop
 |mk(pts:List Pt)(vv:Addr)(V:Vl)(x:jk)(k:Nat)(z0:ts=[.tup (pts.map Pt.pv),.ref vv,x.pv])(z1:jM pts)(z2:lz V)(z3:C vv=some (.dP (nu V)))(z4:yD pts k x)(z5:pts.length<=k+n)(z6:∀p C',C p=none->C' p=some (.lst ((dr pts V n x).map En.pv))->Gr C C'->Q (.ref p) C')
def Vj(T:Tx W a)(n:Nat):Ok W a (n+30) 45 U2 (gWi n):=by
 induction n with
 |zero =>
  refine eJ fun ts C Q ⟨j,U,V,x,k,_,_,_,_,d,l,_⟩=>?_;have:=(AU.1 d.nm).1;unfold fJ at this;rw[AB] at this
  lia
 |succ n ih =>
 have S:=(T.F 45 rfl).s;have jU:=(jR T).mono (show 1<=n+30 by lia);have X3:=(Zy T).mono (show 2<=n+30 by lia);have Qq:=(Q4 T).mono (show 29<=n+30 by lia);have jF:=(Yl T 6).mono (show 8<=n+30 by lia);have qT:=(Ka T).mono (show 1<=n+30 by lia);have wD:=ih
 refine(T.F 45 rfl).ok (fun ts C R h=>?_) fun a3 A bf s H E J=>⟨_,(xQ (fu 3 S.nd (cf (T.F 10 rfl) Qq J (qQ (cf (T.F 43 rfl) jU J (qQ (cv 0) (dw (cx (cv 2) zQ)))) (dw (cf (T.F 44 rfl) X3 J (qQ (cv 0) (qQ (cv 1) (dw (cv 2)))))))))
  (xQ (fu 4 S.nd (gX (dw (xX pX dX (cv 2) (cQ (dw (cv 3)))))))
  (xQ (oM PassesOwn.never rfl (cf (T.F 42 rfl) jF J (qQ (cx (cv 3) zQ) (qQ (cQ bZ) (dw (cQ bZ))))) (oB rfl (nX (j7 5 S.nd) (nX (j7 6 S.nd) (nX (j7 7 S.nd) (nX (j7 8 S.nd) kG))))) (kQ (fu 4 S.nd (xX pX dX (cv 4) (cf (T.F 45 rfl) wD J (qQ (cv 0) (qQ (cv 1) (dw (cQ (qQ (xX pX dX (cx (cv 2) zQ) (cv 5)) (qQ (cv 6) (qQ (cv 7) (dw (cf (T.F 41 rfl) qT J (qQ (cx (cv 2) zQ) (dw (cv 8)))))))))))))))))
  (kQ (wQ (cv 4)))))),?_⟩
 .obtain ⟨j,U,V,x,k,rfl,_⟩:=h;rfl
 rintro ts C R ⟨j,U,V,x,k,rfl,hs,hV,hv,G,hn,q⟩;obtain⟨y,D⟩:=XX hs hV G
 have a8:k < j.length:=by
  have:=(AU.1 G.nm).1;unfold fJ at this;rw[AB] at this;exact this
 have hN:=hs.n6;have hx:x.pv=.tup [tX x.path,.str x.name,.tup (x.gives.map dQ),.tup (x.downs.map dQ)]:=rfl;have hb:=lS hV D.ok x.path;refine uQ ?_;refine cX hx (v:=.str x.name) rfl ?_;refine⟨j,y,by rw[D.nm],hN,hs.nd,D.mem,fun C1 ah=>?_⟩;refine⟨j,U,V,x,y,rfl,hN,hs.nd,D.mem,D.nm,ah _ _ hv,⟨G.gl,by have:=G.dl;lia,hb.2⟩,fun aa C2 bc ma aq=>?_⟩;refine⟨y,aa,_,_,_,rfl,D.ok,ma,D.ab,fun M ar=>?_⟩
 have ep:oJ (cW x (jZ V y x.path)) y=uW j V x:=by delta uW;rw[D.is]
 rw[ep];generalize ab:uW j V x=g;have ao:=D.row;have a0:=D.jd;rw[ab] at ao a0;refine uQ ?_;refine⟨ie 1 rfl,?_⟩;refine tS (by show 4+1<=sizeLine;decide) ?_;refine⟨ie 1 rfl,fun I av=>?_⟩;have ag:Gr C M:=(ah.trans aq).trans ar;have aj:C I=none:=bK ag av;have g4:Gr C (gQ M I (.lst [En.pv ⟨x,g⟩])):=uG ag aj _;have m4:gQ M I (.lst [En.pv ⟨x,g⟩]) I=some (.lst [En.pv ⟨x,g⟩]):=jQ
 show XW _ _ _ _ (gQ M I (.lst [En.pv ⟨x,g⟩]));generalize gQ M I (.lst [En.pv ⟨x,g⟩])=C4 at g4 m4 ⊢;refine dZ ?_;refine rX (xs:=[.tup (g.reads.map bY),.tup (Wt.ig g.row),.tup (g.works.map dQ)]) (v:=.tup (Wt.ig g.row)) rfl ?_;refine⟨by decide,?_⟩;refine⟨by decide,?_⟩;have a5:pW k<=18:=by delta pW;split<;>decide
 refine⟨g.row,[],[],_,rfl,ao,by decide,by decide,by lia,fun pl C5 az m5 g5=>?_⟩;have ba:C pl=none:=bK g4 az;have au:Gr C C5:=g4.trans g5;refine⟨(Wt.fj g.row [] []).length+1,?_⟩;have af:dr j V (n+1) x=⟨x,g⟩::(Wt.fj g.row [] []).flatMap fun q=>dr j V n (jK x q):=by rw[dr,ab]
 have ax:=XF hs hV (n:=n+1) G;refine bG (xs:=(Wt.fj g.row [] []).map jk.pv) (fun i ρ C'=>C' pl=some (.lst ((Wt.fj g.row [] []).map jk.pv))/\∃(ff:Addr)(x5 x6 x7 x8:Option PV),i<=(Wt.fj g.row [] []).length/\ρ=[some (.tup (j.map Pt.pv)),some (.ref U),some x.pv,some g.pv,some (.ref ff),x5,x6,x7,x8]/\C ff=none/\C' ff=some (.lst ((⟨x,g⟩::((Wt.fj g.row [] []).take i).flatMap fun q=>dr j V n (jK x q)).map En.pv))/\Gr C C') (fun _ _ _ h=>h.1) ?_ ?_ _ 0 _ _ ⟨m5,I,_,_,_,_,AX _,rfl,aj,g5 _ _ m4,au⟩ (by rw[AB];lia) (AX _)
 .rintro i z ρ C6 O ⟨m6,ff,x5,x6,x7,x8,hi,rfl,ak,mf,Y⟩ L hL
  rw[Am] at O
  cases N:(Wt.fj g.row [] [])[i]? with
  |none=>rw[N] at O;cases O
  |some F =>
  rw[N] at O;cases O;have ay:F∈Wt.fj g.row [] []:=Ac N;have aw:i < (Wt.fj g.row [] []).length:=(AU.1 N).1;obtain⟨k',a7,dq,pn,bg,a4⟩:=nB G D (q:=F) (by rw[ab];exact ay);refine⟨rfl,?_⟩;refine yZ (yZ (yZ (yZ (lB ?_))));refine cX hx (v:=tX x.path) rfl ?_;have bb:=G.pl;have a6:=G.dl;refine tS (yW (by rw[AB,AB];lia)) ?_
  refine cX hx (v:=.tup (x.downs.map dQ)) rfl ?_;refine⟨x.downs,F.downs,rfl,by lia,fun C7 Z=>⟨ie 4 rfl,?_⟩⟩
  have ec:PV.tup [PV.tup (x.path.map pV++F.path.map pV),.str F.name,.tup (F.gives.map dQ),.tup ((nW x.downs F.downs).map dQ)]=(jK x F).pv:=by
   delta jK jk.pv tX
   rw[AS]
  rw[ec];refine⟨j,U,V,jK x F,k',rfl,hs,hV,Z _ _ (Y _ _ hv),dq,by lia,fun p8 C8 n8 m8 g8=>?_⟩;have et:(Wt.fj g.row [] []).take (i+1)=(Wt.fj g.row [] []).take i++[F]:=by rw[List.take_add_one,N];rfl
  have en:(⟨x,g⟩::((Wt.fj g.row [] []).take (i+1)).flatMap fun q=>dr j V n (jK x q)).map En.pv=(⟨x,g⟩::((Wt.fj g.row [] []).take i).flatMap fun q=>dr j V n (jK x q)).map En.pv++(dr j V n (jK x F)).map En.pv:=by
   rw[et,List.flatMap_append,Ce,List.flatMap_nil,Ai,<- AS]
   rfl
  have a9:((⟨x,g⟩::((Wt.fj g.row [] []).take (i+1)).flatMap fun q=>dr j V n (jK x q)):List En).length<=559:=by
   refine AW ?_ ax;rw[af,AQ,AQ]
   have:((Wt.fj g.row [] []).flatMap fun q=>dr j V n (jK x q))=(((Wt.fj g.row [] []).take (i+1)).flatMap fun q=>dr j V n (jK x q))++((Wt.fj g.row [] []).drop (i+1)).flatMap fun q=>dr j V n (jK x q):=by
    rw[<- List.flatMap_append,List.take_append_drop]
   rw[this,AJ]
   lia
  refine eS (g8 _ _ (Z _ _ mf)) m8 (yW ?_) fun p9 ae=>?_
  .rw [<- AJ,<- en,AB];lia
  have ai:Gr C C8:=(Y.trans Z).trans g8;refine hL _ _ ⟨Gr.new ae _ _ _ (g8 _ _ (Z _ _ m6)),p9,_,_,_,_,aw,rfl,bK ai ae,by rw[jQ,en],ai.trans (Gr.new ae _)⟩
 .rintro ρ C6 ⟨m6,ff,x5,x6,x7,x8,hi,rfl,ak,mf,Y⟩
  refine q ff C6 ak ?_ Y;rw[mf,af,AB,Bq (AH _)]
end
def Gq(hs:jM j){V}(G:lz V):∀n k x,yD j k x->∀e∈dr j V n x,∃D,yD j D e.x/\e.pc=uW j V e.x:=by
 intro n
 induction n with
 |zero=>intro k x _ e g;exact nomatch g
 |succ n M =>
  intro k x h e g
  rcases Aj.1 g with rfl | g
  .grind
  .obtain ⟨q,J,g⟩:=(List.mem_flatMap.1 g)
   obtain⟨y,I⟩:=XX hs G h;exact hZ (nB h I J) fun D _ F _=>M D _ F e g
def pA(es:List En):List mK:=es.map fun e=>e.x.path
noncomputable def WE(g:List Pt):jk:=⟨[],(g.head?.map (·.name)).getD "",[],[]⟩
def aW(hs:jM g):yD g 0 (WE g):=by
 have:=hs.n1
 cases g with
 |nil=>exact absurd this (by grind)
 |cons y g=>exact⟨rfl,AX _,(fun _ z=>nomatch z),(fun _ z=>nomatch z),AX _,AX _⟩
def rQ(g:List Pt)(V:Vl):List En:=dr g V 6 (WE g)
def fA(V:Vl)(p:mK)(v:Str×List (Str×Int)):Vl:=if (V.any fun e=>decide (e.1=p))=true then V.map fun e=>if e.1=p then (e.1,v) else e else V++[(p,v)]
def WN V p v:iT (nu V) p (q8 v)=nu (fA V p v):=by
 have h1:((nu V).any fun g=>decide (g.1=p))=V.any fun e=>decide (e.1=p):=by
  delta nu
  rw[List.any_map]
  rfl
 delta iT fA
 rw[h1]
 split
 .delta nu
  rw[A8,A8];refine CM fun e _=>?_;show(if e.1=p then (e.1,q8 v) else (e.1,q8 e.2))=((if e.1=p then (e.1,v) else e).1,q8 (if e.1=p then (e.1,v) else e).2)
  split<;>rfl
 .delta nu
  rw[AS]
  rfl
def J1{V}(h:lz V)p(j:t8 v.2)(q:v.2.length<=4):lz (fA V p v):=by
 have:∀e∈fA V p v,e.2=v\/e∈V:=by
  intro e g
  delta fA at g
  split at g
  .grind
  .grind
 refine⟨fun e g=>?_,fun e g=>?_⟩
 .rcases this e g with z | z
  .rwa [z]
  .exact h.b e z
 .rcases this e g with z | z
  .rwa [z]
  .exact h.l e z
def WQ V p v:(fA V p v).length<=V.length+1 :=by grind[fA,List.length_map,List.length_append,List.length_singleton]
theorem lz.nil:lz []:=⟨fun _ z=>(nomatch z),fun _ z=>(nomatch z)⟩
section
variable {W:Wd}{a:Adr}
inductive Gc(ts:List PV)(C:CH)(Q:K1):Prop
 |mk(pts:List Pt)(vv:Addr)(V:Vl)(z0:ts=[.tup (pts.map Pt.pv),.ref vv])(z1:jM pts)(z2:lz V)(z3:C vv=some (.dP (nu V)))(z4:∀p C',C p=none->C' p=some (.lst ((rQ pts V).map En.pv))->Gr C C'->Q (.ref p) C')
def Q3(T:Tx W a):Ok W a 37 46 UG Gc:=by
 have N:=Vj T 6;refine(T.F 46 rfl).o (fun F=>(kQ (wQ (cf (T.F 45 rfl) N F (qQ (cv 0) (qQ (cv 1) (dw (cQ (qQ (cQ bZ) (qQ (cx (cx (cv 0) zQ) zQ) (qQ (cQ bZ) (dw (cQ bZ))))))))))))) ?_;rintro ts C R ⟨j,M,V,rfl,hs,D,G,q⟩;have O:=hs.n6
 cases j with
 |nil=>exact absurd hs.n1 (by grind)
 |cons y j =>
 refine⟨by decide,?_⟩;refine rX jX (rX jX ⟨by decide,?_⟩);refine⟨by decide,?_⟩;refine⟨ie 4 rfl,?_⟩;exact⟨y::j,M,V,WE (y::j),0,rfl,hs,D,G,(aW hs),by omega,fun p C' J I g=>q p C' J I g⟩
inductive Ge(ts:List PV)(C:CH)(Q:K1):Prop
 |mk(t:Addr)(y:Pt)(ns:List Int)(z0:ts=[.ref t,y.pv])(z1:Tp C t ns)(z2:y.first.length<=4)(z3:∀bs C',t8 bs->bs.length<=4->Tp C' t ns->Ex t C C'->Q (.tup (bs.map dQ)) C')
def Yu(T:Tx W a):Ok W a 3 47 U7 Ge:=by
 have yV:=pM T;refine(T.F 47 rfl).o (fun Z=>(kQ (wQ (o8 T.sX (GR rfl (show(["_law_name","_law_first","_law_tape_here","_law_part_here"]:List Str).Nodup by decide +kernel) (qS (N:=U7) (sc:=lX (top 61)) rfl rfl rfl (by decide +kernel)) (jD (cx (cv 1) zQ)) (fun _ _ _ _ _=>xK) (fun _ _ _ _ _=>(cQ (qQ (cv 0) (dw (cf (T.F 28 rfl) yV Z (dw (cv 2)))))))))))) ?_;rintro ts C R ⟨t,y,ns,rfl,Y,hl,q⟩;refine rX rfl (VR (fun zs acc C'=>∃(g:List (Str×Int))(bs:List (Str×Int)),zs=g.map dQ/\acc=bs.map dQ/\t8 bs/\bs.length+g.length=y.first.length/\Tp C' t ns/\Ex t C C') ?_ ?_ _ _ _ ⟨y.first,[],rfl,rfl,(fun _ z=>nomatch z),BP _,Y,Ex.refl⟩)
 .rintro z zs acc C1 ⟨g,bs,D,rfl,I,J,F,G⟩
  cases g with
  |nil=>cases D
  |cons u g =>
  obtain⟨rfl,rfl⟩:=BO D;refine⟨[.str u.1,.int u.2],rfl,rfl,fun L U=>?_⟩;rw[AQ] at J;refine⟨t,ns,rfl,F,fun i C2 i0 i1 O S=>⟨ie 2 rfl,U _ _ ⟨?_,g,bs++[(u.1,i)],rfl,by rw[AS];rfl,fun c j=>?_,by rw[AJ,Aa];lia,O,G.trans S⟩⟩⟩
  .rw [AB]
   exact AR (show bs.length < 5 by lia) (by decide)
  .rcases Ae.1 j with j | j
   .exact I c j
   .cases AF.1 j;exact⟨i0,i1⟩
 .rintro acc C1 ⟨g,bs,D,rfl,I,J,F,G⟩ p M
  cases g with
  |cons u g=>cases D
  |nil =>
  exact tK jQ (q bs _ I (by lia) (F.new M _) (G.trans (Ex.new M _)))
inductive Kj(ts:List PV)(C:CH)(Q:K1):Prop
 |mk(t:Addr)(pts:List Pt)(ns:List Int)(z0:ts=[.ref t,.tup (pts.map Pt.pv)])(z1:Tp C t ns)(z2:jM pts)(z3:∀vv V C',lz V->C vv=none->C' vv=some (.dP (nu V))->vv≠t->Tp C' t ns->Ex t C C'->Q (.ref vv) C')
def Vk(T:Tx W a):Ok W a 38 48 U18 Kj:=by
 have S:=(T.F 48 rfl).s;have uH:=Q3 T;have bQ:=(nZ T).mono (show 1<=37 by decide);have jU:=(jR T).mono (show 1<=37 by decide);have qA:=(Yu T).mono (show 3<=37 by decide);have yV:=(pM T).mono (show 2<=37 by decide)
 refine(T.F 48 rfl).ok (fun ts C R h=>?_) fun bl A bq s H E F=>⟨_,(xQ (fu 2 S.nd KB)
  (xQ (oM PassesOwn.never rfl (cf (T.F 46 rfl) uH F (qQ (cv 1) (dw KB))) (oB rfl (nX (j7 3 S.nd) (nX (j7 4 S.nd) (nX (j7 5 S.nd) (nX (j7 6 S.nd) (nX (j7 7 S.nd) kG)))))) (xQ (fu 8 S.nd (cf (T.F 26 rfl) bQ F (qQ (cv 0) (dw zQ))))
  (kQ (nQ (ct2 yB sY (cv 8) zQ) (xQ (fu 9 S.nd (cf (T.F 43 rfl) jU F (qQ (cv 1) (dw (cv 4)))))
  (xQ (nQ (ct2 wX sQ (cv 8) zQ) (kQ (fu 9 S.nd (cx (cv 1) (cf (T.F 26 rfl) bQ F (qQ (cv 0) (dw (j9 T.lZ (cv 1)))))))) lQ)
  (kQ (Kx (dB F) (cv 2) (cv 3) (cQ (qQ (cx (cv 9) zQ) (dw (cf (T.F 47 rfl) qA F (qQ (cv 0) (dw (cv 9))))))))))) lQ))))
  (xQ (nQ (ct2 wX sQ (cf (T.F 26 rfl) bQ F (qQ (cv 0) (dw zQ))) zQ) (xQ (fu 9 S.nd (cx (cv 1) (cf (T.F 26 rfl) bQ F (qQ (cv 0) (dw (j9 T.lZ (cv 1)))))))
  (kQ (Kx (dB F) (cv 2) (cQ (dw (cQ (qQ (cf (T.F 28 rfl) yV F (dw (cv 0))) (dw (cf (T.F 26 rfl) bQ F (qQ (cv 0) (dw zQ)))))))) (cQ (qQ (cx (cv 9) zQ) (dw (cf (T.F 47 rfl) qA F (qQ (cv 0) (dw (cv 9)))))))))) lQ)
  (kQ (wQ (cv 2)))))),?_⟩
 .obtain ⟨t,g,ns,rfl,_⟩:=h;rfl
 rintro ts C R ⟨t,g,ns,rfl,hT,hs,q⟩;have h6:=hs.n6;have h1:=hs.n1;refine uQ ?_;intro G ae;have U:=hT.ne ae;refine tQ (fun Y C'=>∃(V:Vl)(x3 x4 x5 x6 N x8 I:Option PV),Y=[some (.ref t),some (.tup (g.map Pt.pv)),some (.ref G),x3,x4,x5,x6,N,x8,I]/\lz V/\V.length<=559/\C' G=some (.dP (nu V))/\Tp C' t ns/\Ex t C C') (fun L0 ag=>?_) ?_
 rotate_left
 .rintro Y C3 ⟨V,x3,x4,x5,x6,N,x8,I,rfl,M,aq,ab,T3,e3⟩
  refine tQ (fun Y C'=>∃(V:Vl)(I:Option PV),Y=[some (.ref t),some (.tup (g.map Pt.pv)),some (.ref G),x3,x4,x5,x6,N,x8,I]/\lz V/\C' G=some (.dP (nu V))/\Tp C' t ns/\Ex t C C') (fun L0 ag=>?_) ?_
  .refine ⟨t,3,ns,rfl,T3,by decide,by decide,fun v C4 bh bj Z J=>?_⟩
   have af:=J _ _ U ab;refine qX (mX _ _) ?_;refine vZ (fun hb=>?_) fun hb=>?_
   .refine uQ ?_
    refine nU ?_;rw[AB];refine⟨t,_,ns,rfl,Z,by lia,by lia,fun j C6 j0 j1 T6 e6=>?_⟩
    obtain⟨y0,bp⟩:∃y0,y0∈g:=by
     cases g with
     |nil=>exact absurd h1 (by show ¬ 1<=0;lia)
     |cons y _=>exact⟨y,AE⟩
    refine rX (oV (f:=Pt.pv) (ss:=g) y0 j0 j1) ?_
    have aj:g.getD j.toNat y0∈g:=by
     rw[BA,AK (by lia)];exact Ap _
    generalize g.getD j.toNat y0=D at aj ⊢
    have av:D.first.length<=4:=by
     obtain⟨j,hj,ej⟩:=CN aj;exact(hs.ok j D (by rw[AK hj,ej])).fl
    refine rX (xs:=[.str D.name,.tup (D.first.map dQ),.tup (D.works.map xU),.tup (Ln.ig D.ls)]) jX ?_;refine⟨t,D,ns,rfl,T6,av,fun bs C7 au ar T7 e7=>⟨ie 2 rfl,?_⟩⟩;refine⟨t,ns,rfl,T7,fun i C8 i0 i1 T8 e8=>?_⟩;refine⟨t,3,ns,rfl,T8,by decide,by decide,fun w C9 w0 w1 T9 e9=>?_⟩;refine⟨ie 2 rfl,?_⟩;refine⟨ie 1 rfl,?_⟩;have az:Ex t C4 C9:=fun b o n h=>e9 b o n (e8 b o n (e7 b o n (e6 b o n h)))
    have bf:=az _ _ U af;refine W0 (k:=[[.inl (some i),.inl (some w)]]) bf rfl (by delta nu;rw[AB];lia) ?_;rw[show PV.tup [PV.str D.name,PV.tup (bs.map dQ)]=q8 (D.name,bs) from rfl,WN];refine ag _ _ ⟨fA V [[.inl (some i),.inl (some w)]] (D.name,bs),_,rfl,J1 M _ au ar,jQ,T9.put U _,?_⟩;have I:Ex t C C9:=(e3.trans J).trans az;exact I.put ae _
   .refine zX ?_
    exact ag _ _ ⟨V,_,rfl,M,af,Z,e3.trans J⟩
  .rintro Y C4 ⟨V,I,rfl,M,ab,Z,J⟩
   exact q G V C4 M ae ab U Z J
 intro ay ai;have a4:G≠ay:=fun z=>by subst z;rw[jQ] at ai;cases ai
 have T1:=(hT.new ae (.dP [])).new ai (.dP []);have a6:Gr C (gQ (gQ C G (.dP [])) ay (.dP [])):=(Gr.new ae _).trans (Gr.new ai _);refine⟨g,ay,[],rfl,hs,lz.nil,jQ,fun p C2 aw ba ao=>?_⟩
 have T2:Tp C2 t ns:=by
  obtain⟨⟨ak,b1,c1,e1,r1⟩,l1⟩:=T1;exact⟨⟨ak,b1,c1,ao _ _ e1,r1⟩,l1⟩
 have ax:p≠t:=T1.ne aw;have bg:p≠G:=fun z=>by rw[z,yQ a4,jQ] at aw;cases aw
 have bb:C2 G=some (.dP (nu [])):=ao _ _ (by rw[yQ a4];exact jQ);have a7:Gr C C2:=a6.trans ao;have a5:Ex t C C2:=fun b o _ h=>a7 b o h;have bo:(rQ g []).length<=559:=XF hs lz.nil (aW hs);refine⟨(rQ g []).length+1,?_⟩;refine bG (xs:=(rQ g []).map En.pv) (fun i ρ C'=>C' p=some (.lst ((rQ g []).map En.pv))/\∃(V:Vl)(x3 x4 x5 x6 N x8 I:Option PV),ρ=[some (.ref t),some (.tup (g.map Pt.pv)),some (.ref G),x3,x4,x5,x6,N,x8,I]/\lz V/\V.length<=i/\i<=(rQ g []).length/\C' G=some (.dP (nu V))/\Tp C' t ns/\Ex t C C') (fun _ _ _ h=>h.1) ?_ ?_ _ 0 _ _ ⟨ba,[],_,_,_,_,_,_,_,rfl,lz.nil,AH _,AX _,bb,T2,a5⟩ (by rw[AB];lia) (AX _)
 .rintro i z ρ C3 hz ⟨m3,V,x3,x4,x5,x6,N,x8,I,rfl,M,aq,hi,ab,T3,e3⟩ L hL
  rw[Am] at hz
  cases ah:(rQ g [])[i]? with
  |none=>rw[ah] at hz;cases hz
  |some O =>
  rw[ah] at hz;cases hz;have a9:=Ac ah;have a3:i < (rQ g []).length:=(AU.1 ah).1;obtain⟨k',du,_⟩:=Gq hs lz.nil 6 0 _ (aW hs) O a9;obtain⟨y,ha⟩:=XX hs lz.nil du;refine⟨rfl,?_⟩;refine yZ (yZ (yZ (yZ (yZ (lB ?_)))));refine uQ ?_;refine⟨t,6,ns,rfl,T3,by decide,by decide,fun v C4 bh bj Z J=>?_⟩;have m4:=J _ _ ax m3;have af:=J _ _ U ab;refine jg ?_
  refine vZ (fun hb=>?_) fun hb=>?_
  .refine uQ ?_
   refine⟨g,y,by rw[ha.nm],h6,hs.nd,ha.mem,fun C5 g5=>?_⟩
   have T5:Tp C5 t ns:=by
    obtain⟨⟨ak,b1,c1,e1,r1⟩,l1⟩:=Z;exact⟨⟨ak,b1,c1,g5 _ _ e1,r1⟩,l1⟩
   refine tQ (fun Y C'=>∃z∈g,Y=[some (.ref t),some (.tup (g.map Pt.pv)),some (.ref G),some (tX O.x.path),some (.str O.x.name),some (.tup (O.x.gives.map dQ)),some (.tup (O.x.downs.map dQ)),some O.pc.pv,some (.int v),some z.pv]/\Tp C' t ns/\Ex t C5 C') (fun L1 a0=>?_) ?_
   .refine qX (mX _ _) ?_
    refine vZ (fun a8=>?_) fun a8=>?_
    .refine nU ?_
     rw[AB];refine⟨t,_,ns,rfl,T5,by lia,by lia,fun j C6 j0 j1 T6 e6=>?_⟩;refine rX (oV (f:=Pt.pv) (ss:=g) y j0 j1) ?_;refine a0 _ _ ⟨g.getD j.toNat y,?_,rfl,T6,e6⟩;rw[BA,AK (by lia)];exact Ap _
    .refine zX ?_
     exact a0 _ _ ⟨y,ha.mem,rfl,T5,Ex.refl⟩
   rintro Y C6 ⟨D,aj,rfl,T6,e6⟩
   have av:D.first.length<=4:=by
    obtain⟨j,hj,ej⟩:=CN aj;exact(hs.ok j D (by rw[AK hj,ej])).fl
   refine rX (xs:=[.str D.name,.tup (D.first.map dQ),.tup (D.works.map xU),.tup (Ln.ig D.ls)]) jX ?_;refine⟨t,D,ns,rfl,T6,av,fun bs C7 au ar T7 e7=>⟨ie 2 rfl,?_⟩⟩;have bc:=e7 _ _ U (e6 _ _ U (g5 _ _ af));have m7:=e7 _ _ ax (e6 _ _ ax (g5 _ _ m4));refine W0 bc (zB _) (by delta nu;rw[AB];lia) ?_;rw[show PV.tup [PV.str D.name,PV.tup (bs.map dQ)]=q8 (D.name,bs) from rfl,WN]
   refine hL _ _ ⟨by rw[yQ bg];exact m7,fA V O.x.path (D.name,bs),_,_,_,_,_,_,_,rfl,J1 M _ au ar,by have:=WQ V O.x.path (D.name,bs);lia,a3,jQ,T7.put U _,?_⟩;have N:Ex t C C7:=fun b o n h=>e7 b o n (e6 b o n (g5 b o (J b o n (e3 b o n h))));exact N.put ae _
  .refine zX ?_
   exact hL _ _ ⟨m4,V,_,_,_,_,_,_,_,rfl,M,by lia,a3,af,Z,e3.trans J⟩
 .rintro ρ C3 ⟨m3,V,x3,x4,x5,x6,N,x8,I,rfl,M,aq,hi,ab,T3,e3⟩
  exact ag _ _ ⟨V,_,_,_,_,_,_,_,rfl,M,by rw[AB] at aq;lia,ab,T3,e3⟩
end
def NP(m:C p=some (.dK (cs.map jz)))(h:cs.length+g.length<=1000)(q:Q .non (gQ C p (.dK ((iZ cs g).map jz)))):KD (.ref p) [.tup (g.map dQ)] C Q:=by
 delta KD
 show(match C p,iW (g.map dQ) with | some (.dK kvs),some ps=>kvs.length+ps.length<=sizeLine/\Q .non (gQ C p (.dK (hW kvs ps))) | _,_=>False);rw[m,cA];dsimp only;rw[Kc,AB,AB];exact⟨AW h (by decide),q⟩
def K3(m:C p=some (.dK (cs.map jz)))(h:cs.length < 64)(q:∀g,C g=none->Q (.ref g) (gQ C g (.lst ((kU cs).map dQ)))):qF [.vw p] C Q :=by simp_all[qF,Ob]
def yj(j:g[i]?=some (some (.ref p)))(m:C p=some (.dK kvs))(q:Q (.vw p) C):Qg (jJ i) g C Q :=by simp_all[Qg,jJ]
section
variable {W:Wd}{a:Adr}
def vL(T:Tx W a):Ok W a 1 16 ["downs","nearer"] Y6:=by
 refine(T.F 16 rfl).o (fun M=>(xQ (fu 2 ((T.F 16 rfl).s).nd (mZ (bS rfl) XT rfl T.aN rfl (dw (cv 0))))
  (xQ (uZ (M5 DK PySem.F.slot_dict_update PySem.F.type_dict_update (xj rfl) Dr (cv 2) (dw (cv 1))))
  (kQ (wQ (o8 T.sX (iQ (dU rfl) vD rfl T.uD rfl (dw (GN (cv 2)))))))))) ?_
 rintro ts C R ⟨ds,g,rfl,G,q⟩;have I:=AW (qW ds []) (by show 0+ds.length<=ds.length;lia);have J:=qW g (iZ [] ds);refine Gu (by lia) fun p j=>?_;refine⟨YV jQ,NP jQ (by lia) ?_⟩;refine yj rfl jQ (K3 jQ (by lia) fun p2 F=>?_);refine tK jQ (q _ ?_);have D:=uG (show Gr C (gQ C p (.dK ((iZ [] ds).map jz))) from Gr.new j _) j (.dK ((iZ (iZ [] ds) g).map jz));exact D.trans (Gr.new F _)
inductive Nt(d:Nat)(ts:List PV)(C:CH)(Q:K1):Prop
 |mk(r:List Wt)(s:mK)(ds:List (Str×Int))(rs:List Str)(t:Addr)(acc:List PV)(z0:ts=[.tup (Wt.ig r),tX s,.tup (ds.map dQ),.ref t])(z1:zM rs d r)(z2:s.length+d<=50)(z3:ds.length+d<=50)(z4:acc.length+Wt.jd r<=1000)(z5:C t=some (.lst acc))(z6:∀C',C' t=some (.lst (acc++(Wt.fj r s ds).map jk.pv))->f9 [t] C C'->Q .non C')
def Vo(T:Tx W a)(d:Nat):Ok W a (d+2) 15 ["row","spots","downs","told"] (Nt d):=by
 have ag:∀n,(∀d',n=d'+1->Ok W a (n+1) 15 ["row","spots","downs","told"] (Nt d'))->Ok W a (n+2) 15 ["row","spots","downs","told"] (Nt n):=by
  intro n ih;have S:=(T.F 15 rfl).s;have xM:=(vL T).mono (show 1<=n+1 by lia)
  have xP:Ok W a (n+1) 15 ["row","spots","downs","told"] (fun ts C Q=>∃d',n=d'+1/\Nt d' ts C Q):=by
   cases n with
   |zero=>exact eJ fun ts C Q zz=>oQ zz fun d' e _=> by lia
   |succ d' =>
    have:=ih d' rfl
    have e:(fun ts C Q=>∃U,d'+1=U+1/\Nt U ts C Q)=Nt d':=by
     funext ts C Q
     refine propext ⟨fun zz=>oQ zz fun U e h=> ?_,fun h=>⟨d',rfl,h⟩⟩;cases Ax e;exact h
    rw[e];exact this
  refine(T.F 15 rfl).o (fun hr=>(kQ (jG PassesOwn.never rfl (cv 0) (j7 4 S.nd) (xQ (fu 5 S.nd (xX pX dX (cv 1) (cQ (dw (cx (cv 4) zQ)))))
  (kQ (nQ (ct2 wX sQ (cx (cv 4) zQ) vQ) (kQ (uZ (cap (cv 3) (cQ (qQ (cv 5) (qQ (cx (cv 4) zQ) (qQ (cx (cv 4) zQ) (dw (cv 2))))))))) (kQ (nQ (ct2 wX sQ (cx (cv 4) zQ) vQ) (kQ (uZ (cf (T.F 15 rfl) xP hr (qQ (cx (cv 4) zQ) (qQ (cv 5) (qQ (cf (T.F 16 rfl) xM hr (qQ (cv 2) (dw (cQ (dw (cQ (qQ (cx (cv 4) zQ) (dw (cx (cv 4) zQ))))))))) (dw (cv 3)))))))) (kQ (uZ (cf (T.F 15 rfl) xP hr (qQ (cx (cv 4) zQ) (qQ (cv 5) (qQ (cv 2) (dw (cv 3)))))))))))))))) ?_
  rintro ts C R ⟨r,s,ds,rs,t,acc,rfl,ao,hs,ar,ai,ak,q⟩;refine aF rfl ?_;refine wJ (fun zs ρ C'=>∃(x4 x5:Option PV)(F vs:List Wt),r=F++vs/\zs=Wt.ig vs/\ρ=[some (.tup (Wt.ig r)),some (tX s),some (.tup (ds.map dQ)),some (.ref t),x4,x5]/\C' t=some (.lst (acc++(Wt.fj F s ds).map jk.pv))/\f9 [t] C C') ?_ ?_ _ _ _ ⟨_,_,[],r,rfl,rfl,rfl,by show C t=some (.lst (acc++[]));rw[Ai];exact ak,f9.refl⟩
  .rintro z zs ρ C1 ⟨x4,x5,F,vs,e,M,rfl,G,I⟩ L hL
   cases vs with
   |nil=>cases M
   |cons u vs =>
   obtain⟨rfl,rfl⟩:=BO (show z::zs=u.pv::Wt.ig vs from M);have hu:=ao.1 u (by rw[e];exact AV _ AE);have au:acc.length+(Wt.jd F+(u.pc+Wt.jd vs))<=1000:=by have:=ai;rw[e,Wt.lg] at this;exact this
   have ab:(acc++(Wt.fj F s ds).map jk.pv).length=acc.length+Wt.jd F:=by rw[AJ,AB,eK]
   have Y:Wt.fj (F++[u]) s ds=Wt.fj F s ds++u.qg s ds:=by rw[QR,Wt.fj,Wt.fj,Ai]
   obtain⟨wd,rest,ep,av⟩:=Fv u;refine uQ ?_;refine cX ep KR ?_;refine⟨ie 1 rfl,?_⟩;refine tS (yW (by rw[AB];show s.length+1<=1000;lia)) ?_;have eh:PV.tup (s.map pV++[pV u.sp])=tX (s++[u.sp]):=by delta tX;rw[AS];rfl
   rw[eh]
   cases n with
   |zero=>exact hu.elim
   |succ d' =>
   cases u with
   |part sp D g =>
    have ep:(Wt.part sp D g).pv=.tup [.str "part",pV sp,.str D,.tup (g.map dQ)]:=by rw[Wt.pv]
    refine cX ep jX ?_;refine qX (pQ _ _) ?_;refine fZ (by decide) ?_;refine⟨tW G,?_⟩;refine cX ep (v:=.str D) rfl ?_;refine cX ep (v:=.tup (g.map dQ)) rfl ?_;refine⟨ie 4 rfl,?_⟩;refine sS G (by rw[ab];exact Ak (show acc.length+Wt.jd F<=1000 by lia) (by decide)) ?_;refine hL _ _ ⟨_,_,F++[.part sp D g],vs,by rw[Ad];exact e,rfl,rfl,?_,I.at (by simp) _⟩
    rw[jQ,Y,AS,Wt.qg,Ad]
    rfl
   |give sp D i j =>
    obtain⟨_,aq,o1,o2⟩:=hu;have ep:(Wt.give sp D i j).pv=.tup [.str "give",pV sp,.str D,.int i,.tup (Wt.ig j)]:=by rw[Wt.pv]
    have aj:Wt.jd j=(Wt.give sp D i j).pc:=by rw[Wt.pc]
    refine cX ep jX ?_;refine qX (pQ _ _) ?_;refine aX (by decide) ?_;refine cX ep jX ?_;refine qX (pQ _ _) ?_;refine fZ (by decide) ?_;refine cX ep (v:=.tup (Wt.ig j)) rfl ?_;refine cX ep (v:=.str D) rfl ?_;refine cX ep (v:=.int i) rfl ?_;refine⟨ie 2 rfl,?_⟩;refine⟨ie 1 rfl,?_⟩;refine⟨ds,[(D,i)],rfl,by show ds.length+1<=60;lia,fun C2 ae=>?_⟩;have af:=fM ds [(D,i)]
    have af:(nW ds [(D,i)]).length<=ds.length+1:=af;refine⟨d',rfl,j,s++[sp],nW ds [(D,i)],rs,t,_,rfl,⟨o1,o2⟩,by rw[AJ,Aa];lia,by lia,by rw[ab];lia,ae _ _ G,fun C3 m3 Z=>?_⟩;refine hL _ _ ⟨_,_,F++[.give sp D i j],vs,by rw[Ad];exact e,rfl,rfl,?_,fun b o ah hb=>Z b o ah (ae _ _ (I b o ah hb))⟩;rw[m3,Y,AS,Wt.qg,Ad]
   |plain sp O N J j =>
    obtain⟨_,_,o1,o2⟩:=hu;have ep:(Wt.plain sp O N J j).pv=.tup [.str "plain",pV sp,.str O,.tup (N.map dQ),.tup (J.map pq.pv),.tup (Wt.ig j)]:=by rw[Wt.pv]
    have aj:Wt.jd j=(Wt.plain sp O N J j).pc:=by rw[Wt.pc]
    refine cX ep jX ?_;refine qX (pQ _ _) ?_;refine aX (by decide) ?_;refine cX ep jX ?_;refine qX (pQ _ _) ?_;refine aX (by decide) ?_;refine cX ep (v:=.tup (Wt.ig j)) rfl ?_;refine⟨d',rfl,j,s++[sp],ds,rs,t,_,rfl,⟨o1,o2⟩,by rw[AJ,Aa];lia,by lia,by rw[ab];lia,G,fun C3 m3 Z=>?_⟩;refine hL _ _ ⟨_,_,F++[.plain sp O N J j],vs,by rw[Ad];exact e,rfl,rfl,?_,I.trans Z⟩
    rw[m3,Y,AS,Wt.qg,Ad]
  .rintro ρ C1 ⟨x4,x5,F,vs,e,M,rfl,G,I⟩
   cases vs with
   |cons u vs=>cases M
   |nil =>
   rw[Ai] at e;subst e;exact q C1 G I
 induction d with
 |zero=>exact ag 0 fun d' e=>by lia
 |succ d ih=>exact ag (d+1) fun d' e=>by cases Ax e;exact ih
inductive gPi(ts:List PV)(C:CH)(Q:K1):Prop
 |mk(r:List Wt)(rs:List Str)(z0:ts=[.tup (Wt.ig r)])(z1:zM rs 6 r)(z2:Wt.jd r<=1000)(z3:∀p C',C p=none->C' p=some (.lst ((Wt.fj r [] []).map jk.pv))->Gr C C'->Q (.ref p) C')
def QY(T:Tx W a):Ok W a 9 14 ["row"] gPi:=by
 have M:=Vo T 6
 refine(T.F 14 rfl).o (fun G=>(xQ (fu 1 ((T.F 14 rfl).s).nd (gX bZ))
  (xQ (uZ (cf (T.F 15 rfl) M G (qQ (cv 0) (qQ (cQ bZ) (qQ (cQ bZ) (dw (cv 1)))))))
  (kQ (wQ (cv 1)))))) ?_
 rintro ts C R ⟨r,rs,rfl,J,N,q⟩;refine uQ ⟨by decide,fun t D=>?_⟩;refine dZ ⟨by decide,?_⟩;refine⟨by decide,?_⟩;refine⟨r,[],[],rs,t,[],rfl,J,by decide,by decide,by show 0+_<=1000;lia,jQ,fun C2 I F=>?_⟩;refine q t C2 D I fun b o g=>?_;have j:b≠t:=fun z=>by rw[z,D] at g;cases g
 exact F b o (fun z=>j (AF.1 z)) (by rwa [yQ j])
inductive Tz(ts:List PV)(C:CH)(Q:K1):Prop
 |mk(e:En)(rs:List Str)(z0:ts=[e.pv])(z1:zM rs 6 e.pc.row)(z2:Wt.jd e.pc.row<=50)(z3:e.x.path.length<=40)(z4:e.x.downs.length<=40)(z5:∀p C',C p=none->C' p=some (.lst (((Wt.fj e.pc.row [] []).map (jK e.x)).map jk.pv))->Gr C C'->Q (.ref p) C')
def Q7(T:Tx W a):Ok W a 10 17 ["entry"] Tz:=by
 have S:=(T.F 17 rfl).s;have Jp:=QY T;have xM:=(vL T).mono (show 1<=9 by decide);refine(T.F 17 rfl).o (fun N=>(kQ (wQ (eB rfl (S.c (by decide +kernel)) (S.k rfl rfl rfl (by decide +kernel)) (cf (T.F 14 rfl) Jp N (dw (cx (cx (cv 0) zQ) zQ))) (fun _ _ _ _ _=>xK) (fun _ _ _ _ _=>(cQ (qQ (xX pX dX (cx (cv 1) zQ) (cx (cv 0) zQ)) (qQ (cx (cv 0) zQ) (qQ (cx (cv 0) zQ) (dw (cf (T.F 16 rfl) xM N (qQ (cx (cv 1) zQ) (dw (cx (cv 0) zQ)))))))))))))) ?_
 rintro ts C R ⟨e,rs,rfl,Z,ah,ai,af,q⟩;have I:e.pv=.tup [tX e.x.path,.str e.x.name,.tup (e.x.gives.map dQ),.tup (e.x.downs.map dQ),e.pc.pv]:=rfl
 delta zH
 refine cX I rfl (cX rfl rfl ⟨e.pc.row,rs,rfl,Z,by lia,fun p C1 n1 U ab=>?_⟩);dsimp only;rw[U];refine cE (fun zs acc C'=>∃ds g:List jk,Wt.fj e.pc.row [] []=ds++g/\zs=g.map jk.pv/\acc=(ds.map (jK e.x)).map jk.pv/\C' p=some (.lst ((Wt.fj e.pc.row [] []).map jk.pv))/\Gr C C') (fun _ _ _ h=>let ⟨_,_,_,_,_,h,_⟩:=h;h) ?_ ?_ _ _ _ ⟨[],_,rfl,rfl,rfl,U,ab⟩
 .rintro z zs acc C2 ⟨ds,g,j,F,rfl,Y,D⟩ L hL
  cases g with
  |nil=>cases F
  |cons u g =>
  obtain⟨rfl,rfl⟩:=BO F;have O:=(J3 6 _ [] [] Z (fun _ z=>nomatch z)).1 u (j▸AV _ AE);refine hZ O.path fun v G _ aj=>?_;have G:u.path=v:=G;have ag:u.downs.length<=0+6:=O.dl
  have ae:ds.length<=50:=by
   have:=Bz List.length j;rw[eK,AJ] at this
   lia
  refine cX I rfl (rX rfl (tS (yW (by rw[AB,AB,G];lia)) ?_));refine rX rfl (rX rfl (cX I rfl (rX rfl ⟨e.x.downs,u.downs,rfl,by lia,fun C3 J=>⟨ie 4 rfl,?_⟩⟩)))
  have ec:PV.tup [PV.tup (e.x.path.map pV++u.path.map pV),.str u.name,.tup (u.gives.map dQ),.tup ((nW e.x.downs u.downs).map dQ)]=(jK e.x u).pv:=by
   delta jK jk.pv tX
   rw[AS]
  rw[ec];refine hL _ _ ⟨?_,ds++[u],g,by rw[Ad];exact j,rfl,by rw[AS,AS];rfl,J _ _ Y,D.trans J⟩;rw[AB,AB];exact Ak ae (by decide)
 .rintro acc C2 ⟨ds,g,j,F,rfl,Y,D⟩ p2 M
  cases g with
  |cons u g=>cases F
  |nil =>
  rw[Ai] at j;refine q p2 _ (bK D M) (by rw[jQ,j]) (D.trans (Gr.new M _))
end
abbrev R9:=List (jk×Nat)
def pG(g:List Pt)(V:Vl)(st:R9):List En:=st.flatMap fun p=>dr g V p.2 p.1
def iE(g:List Pt)(st:R9):Prop:=∀p∈st,∃k,yD g k p.1/\g.length<=k+p.2
def cV(st:R9):List PV:=(st.map fun p=>p.1.pv).reverse
def Gp{V:Vl}(h:∃k,yD g k x/\g.length<=k+n):∃m,n=m+1:=by
 obtain⟨k,d,l⟩:=h;have:=(AU.1 d.nm).1;unfold fJ at this;rw[AB] at this;exact⟨n - 1,by lia⟩
theorem bA{V}:∀{st},iE F st->st.length<=(pG F V st).length
 |[],_=>AX _
 |p::st,h=>by
  have D:=bA (V:=V) fun q j=>h q (AI _ j);obtain⟨m,g⟩:=Gp (V:=V) (h p AE);unfold pG at D ⊢;rw[Ce,AJ,AQ,g,dr,AQ]
  lia
def uy{V}(h:iE g st)(e:pG g V st=[]):st=[]:=by
 have:=bA (V:=V) h;rw[e] at this;exact List.length_eq_zero_iff.1 (Nat.le_zero.1 this)
def kids(g:List Pt)(V:Vl)(x:jk):List jk:=(Wt.fj (uW g V x).row [] []).map (jK x)
def QJ(hs:jM g){V}(J:lz V)(h:iE g st)(j:pG g V st=e::r):
  ∃(x:jk)(n:Nat)(st':R9),st=(x,n+1)::st'/\e=⟨x,uW g V x⟩/\(∃k y,yD g k x/\UT g V k x y)/\r=pG g V ((kids g V x).map (fun y=>(y,n))++st')/\iE g ((kids g V x).map (fun y=>(y,n))++st'):=by
 cases st with
 |nil=>cases j
 |cons p st =>
  obtain⟨x,m⟩:=p;obtain⟨n,rfl⟩:=Gp (V:=V) (h (x,m) AE);refine oQ (h (x,n+1) AE) fun k F S=>?_;obtain⟨y,G⟩:=XX hs J F
  delta pG at j
  rw[Ce] at j;rw[dr,CC] at j;injection j with h1 h2
  refine⟨x,n,st,rfl,h1.symm,⟨k,y,F,G⟩,?_,?_⟩
  .delta pG
   rw[List.flatMap_append,<- h2,List.flatMap_map]
   delta kids
   rw[List.flatMap_map]
  .intro q D
   rcases Ae.1 D with D | D
   .obtain ⟨z,N,rfl⟩:=AM.1 D
    obtain⟨u,M,rfl⟩:=AM.1 N;exact hZ (nB F G M) fun O U I _=>⟨O,I,by lia⟩
   .exact h q (AI _ D)
def XC(D:List En)(k:Nat):PV:=match D[k]? with
 |some e=>e.x.pv
 |none=>.non
def iO p(st:R9):cV (p::st)=cV st++[p.1.pv]:=by
 delta cV
 rw[A5,Bj]
def Vy(g:List jk)(n:Nat)st:cV (g.map (fun y=>(y,n))++st)=cV st++(g.map jk.pv).reverse:=by
 delta cV
 rw[AS,List.reverse_append,A8]
 rfl
def YL st:(cV st).length=st.length:=by delta cV;rw[Bk,AB]
def YI(g:C p=some (.lst xs))(j:C r=some (.lst ys))(h:xs.length+ys.length<=sizeLine)(q:Q .non (gQ C p (.lst (xs++ys)))):oN (.ref p) [.ref r] C Q:=by
 delta oN
 dsimp only;exact g▸j▸⟨h,q⟩
section
variable {W:Wd}{a:Adr}
structure Wk(a:Adr)(C:CH)(x ll:Addr)(xs:List PV):Prop where
 ins:∃dx,C x=some (.ins a.Walk dx [("lacking",.ref ll)])
 lst:C ll=some (.lst xs)
def Wk.ne(h:Wk a C x g xs):x≠g:=fun z=>by
 obtain⟨dx,e⟩:=h.ins;rw[z,h.lst] at e;cases e
inductive Y3(a:Adr)(ts:List PV)(C:CH)(Q:K1):Prop
 |mk(x dx:Addr)(pts:List Pt)(z0:ts=[.ref x,.tup (pts.map Pt.pv)])(z1:1<=pts.length)(z2:C x=some (.ins a.Walk dx []))(z3:∀C' ll,C ll=none->Wk a C' x ll [(WE pts).pv]->f9 [x] C C'->Q .non C')
def Yj(T:Tx W a):Ok W a 1 64 ["self","house"] (Y3 a):=by
 refine(T.F 64 rfl).o (fun J=>(kQ (Z8 T.pU T.vK (cv 0) (gX (dw (cQ (qQ (cQ bZ) (qQ (cx (cx (cv 1) zQ) zQ) (qQ (cQ bZ) (dw (cQ bZ))))))))))) ?_;rintro ts C R ⟨x,dx,F,rfl,G,I,q⟩
 cases F with
 |nil=>exact absurd G (by show ¬ 1<=0;lia)
 |cons y F =>
 refine⟨by decide,?_⟩;refine rX jX (rX jX ⟨by decide,?_⟩);refine⟨by decide,?_⟩;refine⟨ie 4 rfl,?_⟩;refine⟨ie 1 rfl,fun j g=>?_⟩;have D:j≠x:=fun z=>by rw[z,I] at g;cases g
 apply Zn (by rwa [yQ (Ne.symm D)]) (by decide)
 refine q _ j g ⟨⟨dx,?_⟩,?_⟩ ?_
 .rw [jQ]
  rfl
 .exact (yQ D)▸jQ
 .exact (f9.refl.put g _).at AE _
inductive Tv(a:Adr)(ts:List PV)(C:CH)(Q:K1):Prop
 |mk(x ll:Addr)(xs:List PV)(z0:ts=[.ref x])(z1:Wk a C x ll xs)(z2:Q ((xs[xs.length - 1]?).getD .non) C)
def Nb{y:PV}:atI (xs++[y]) (-1)=some y:=by
 delta atI ixN
 rw[Af (by decide),AJ,Aa,Ah (by lia)];have:(-1+((xs.length+1:Nat):Int)).toNat=xs.length:=by lia
 first
 |rw[this]
 | (rw[ this])
 simp
def Lh(T:Tx W a):Ok W a 1 65 ["self"] (Tv a):=by
 refine(T.F 65 rfl).o (fun J=>(kQ (wQ (uS (Gx (kD T.pU T.vK (cv 0))) (cx (kD T.pU T.vK (cv 0)) (oH aU zG zQ)) kK)))) ?_;rintro ts C R ⟨x,F,xs,rfl,g,q⟩;obtain⟨dx,j⟩:=g.ins;refine Fx ?_ ?_
 .refine lR j rfl ⟨F,xs,rfl,g.lst,?_⟩
  rcases List.eq_nil_or_concat xs with rfl | ⟨ys,y,rfl⟩
  .exact q
  .have e:(!(ys.concat y).isEmpty)=true:=by simp
   rw[e];refine lR j rfl (sZ g.lst (List.concat_eq_append▸Nb) ?_);have D:((ys.concat y)[(ys.concat y).length - 1]?).getD .non=y:=by simp
   rwa [D] at q
 .intro G I h q
  exact iN _ _ (fun v C1 q=>Xy _ _ h q) q
inductive PB(a:Adr)(ts:List PV)(C:CH)(Q:K1):Prop
 |mk(x ll:Addr)(xs:List PV)(y:PV)(e:En)(rs:List Str)(z0:ts=[.ref x,e.pv])(z1:Wk a C x ll (xs++[y]))(z2:xs.length<=900)(z3:zM rs 6 e.pc.row)(z4:Wt.jd e.pc.row<=50)(z5:e.x.path.length<=40)(z6:e.x.downs.length<=40)(z7:∀C',Wk a C' x ll (xs++(((Wt.fj e.pc.row [] []).map (jK e.x)).map jk.pv).reverse)->f9 [ll] C C'->Q .non C')
def wg(T:Tx W a):Ok W a 11 66 ["self","entry"] (PB a):=by
 refine(T.F 66 rfl).o (fun Z=>(xQ (uZ (Jd A9 Df De YA Kz (kD T.pU T.vK (cv 0))))
  (kQ (uZ (XR A9 PySem.F.slot_list_extend PySem.F.type_list_extend (fun p s σ H x vs v ae Q=>sO p s σ H x vs v ae Q) jS (kD T.pU T.vK (cv 0)) (dw (Jc rfl rfl rfl T.pF T.X7 (cf (T.F 17 rfl) (Q7 T) Z (dw (cv 1)))))))))) ?_
 rintro ts C R ⟨x,g,xs,y,e,rs,rfl,F,hl,ab,U,Y,S,q⟩;obtain⟨dx,mx⟩:=F.ins;have M:=F.ne;refine lR mx rfl ⟨tW F.lst,Hg F.lst (y:=y) (by simp) ?_⟩;rw[List.dropLast_concat];have I:gQ C g (.lst xs) x=some (.ins a.Walk dx [("lacking",.ref g)]):=by rwa [yQ M]
 have G:gQ C g (.lst xs) g=some (.lst xs):=jQ;have N:f9 [g] C (gQ C g (.lst xs)):=f9.refl.at (by simp) _;refine lR I rfl ⟨tW G,⟨e,rs,rfl,ab,U,Y,S,fun p C2 n2 m2 D=>Lp m2 fun p3 j=>?_⟩⟩;have n3:p3≠g:=fun z=>by rw[z,D _ _ G] at j;cases j
 have af:=Gr.new j (.lst ((((Wt.fj e.pc.row [] []).map (jK e.x)).map jk.pv).reverse)) _ _ (D _ _ I)
 apply YI (Gr.new j _ _ _ (D _ _ G)) jQ (yW (by rw[Bk,AB,AB,eK];lia))
 apply q _ ⟨⟨dx,by rwa [yQ M]⟩,jQ⟩
 intro b o J O;rw[yQ (fun z=>J (AF.2 z))];exact Gr.new j _ _ _ (D _ _ (N b o J O))
inductive PL(ts:List PV)(C:CH)(Q:K1):Prop
 |mk(pts:List Pt)(V:Vl)(k:Nat)(d:Addr)(z0:ts=[.tup (pts.map Pt.pv),.ref d])(z1:jM pts)(z2:lz V)(z3:k<=(rQ pts V).length)(z4:C d=some (.lst (((rQ pts V).take k).map En.pv)))(z5:∀C',Gr C C'->Q (XC (rQ pts V) k) C')
def wu(T:Tx W a):Ok W a 12 18 ["house","done"] PL:=by
 have S:=(T.F 18 rfl).s;have Ju:=(Lh T).mono (show 1<=11 by decide)
 refine(T.F 18 rfl).o (fun hr=>(xQ (fu 2 S.nd (KC T.mk_Walk ((Yj T).mono (show 1<=10 by decide)) hr rfl T.ZH (T.F 64 rfl).b QT (dw (cv 0))))
  (xQ (oM PassesOwn.never rfl (cv 1) (j7 3 S.nd) (kQ (uZ (cm T.pU (T.F 66 rfl) T.ZH (wg T) hr (cv 2) (dw (cv 3))))))
  (kQ (wQ (cm0 T.pU (T.F 65 rfl) T.ZH Ju hr (cv 2))))))) ?_
 rintro ts C R ⟨g,V,k,d,rfl,hs,Z,hk,O,q⟩;have a7:(rQ g V).length<=559:=XF hs Z (aW hs);have h6:=hs.n6;intro x dx ao a3 a0;have a0:d≠x:=fun z=>by rw[z,ao] at O;cases O
 refine⟨x,dx,g,rfl,hs.n1,jQ,fun C1 N ay ak e1=>⟨rfl,?_⟩⟩
 try dsimp only
 have ae:Gr C C1:=fun b o h=>by
  have:b≠x:=fun z=>by rw[z,ao] at h;cases h
  exact e1 b o (fun z=>this (AF.1 z)) (by rwa [yQ this])
 have az:C N=none:=by
  rwa [yQ (Ne.symm ak.ne)] at ay
 refine tQ (fun aq C'=>∃I st,aq=[some (.tup (g.map Pt.pv)),some (.ref d),some (.ref x),I]/\Wk a C' x N (cV st)/\iE g st/\pG g V st=(rQ g V).drop k/\Gr C C') (fun L0 au=>?_) ?_
 .refine ⟨k+1,bG (xs:=((rQ g V).take k).map En.pv) (fun i ρ C'=>C' d=some (.lst (((rQ g V).take k).map En.pv))/\∃I st,i<=k/\ρ=[some (.tup (g.map Pt.pv)),some (.ref d),some (.ref x),I]/\Wk a C' x N (cV st)/\iE g st/\pG g V st=(rQ g V).drop i/\Gr C C') (fun _ _ _ h=>h.1) ?_ ?_ _ 0 _ _ ⟨ae _ _ O,_,[(WE g,6)],AX _,rfl,ak,?_,?_,ae⟩ (by rw[AB,A1];lia) (AX _)⟩
  .rintro i z ρ C2 M ⟨m2,I,st,hi,rfl,j,F,D,G⟩ L hL
   rw[Am] at M
   cases J:((rQ g V).take k)[i]? with
   |none=>rw[J] at M;cases M
   |some en =>
   rw[J] at M;cases M;have ah:i < k:=by have:=(AU.1 J).1;rw[A1] at this;lia
   rw[List.getElem?_take_of_lt ah] at J;refine Mt (AU.1 J) fun aw av=>?_;have Y:pG g V st=en::(rQ g V).drop (i+1):=by rw[D,Ao aw,av]
   obtain⟨y,n,st',rfl,rfl,⟨k',yp,U,ha⟩,er,aj⟩:=QJ hs Z F Y;have ax:=bA (V:=V) F;have ba:(pG g V ((y,n+1)::st')).length<=559:=by rw[D,BN];lia
   rw[AQ] at ax;obtain⟨ar,ab⟩:=j.ins;refine⟨zZ ab rfl,?_⟩
   have a6:k' < g.length:=by
    have:=(AU.1 U.nm).1;unfold fJ at this
    rwa [AB] at this
   have a9:=U.pl;have a5:=U.dl;have a4:pW k'<=18:=by delta pW;split<;>decide
   have a8:=ha.jd;refine⟨x,N,cV st',y.pv,⟨y,uW g V y⟩,_,rfl,by rw[iO] at j;exact j,by rw[YL];lia,ha.row,by lia,by lia,by lia,fun C3 bb e3=>?_⟩;have af:Gr C C3:=fun b o h=>e3 b o (fun z=>by rw[AF.1 z,az] at h;cases h) (G b o h);refine hL _ _ ⟨af _ _ O,_,(kids g V y).map (fun z=>(z,n))++st',ah,rfl,?_,aj,er.symm,af⟩
   rwa [Vy]
  .rintro ρ C2 ⟨m2,I,st,hi,rfl,j,F,D,G⟩
   refine au _ _ ⟨_,st,rfl,j,F,?_,G⟩;rw[D,AB,A1,Nat.min_eq_left hk]
  .intro p hp
   cases AF.1 hp;exact⟨0,aW hs,by lia⟩
  .delta pG
   rw[Ce,List.flatMap_nil,Ai]
   rfl
 .rintro aq C2 ⟨I,st,rfl,j,F,D,G⟩
  obtain⟨ar,ab⟩:=j.ins;refine⟨zZ ab rfl,⟨x,N,cV st,rfl,j,?_⟩⟩;have:=q C2 G;unfold XC at this
  rcases DT k (rQ g V).length with ai | ag
  .have Y:pG g V st=(rQ g V)[k]::(rQ g V).drop (k+1):=by rw[D,Ao ai]
   obtain⟨y,n,st',rfl,ey,_,er,aj⟩:=QJ hs Z F Y;rw[AK ai,ey] at this;have e2:((cV ((y,n+1)::st'))[(cV ((y,n+1)::st')).length - 1]?).getD .non=y.pv:=by rw[iO];simp
   rwa [e2]
  .have:=uy F (by rw[D,List.drop_of_length_le ag])
   subst this;have h3:=q C2 G;unfold XC at h3
   rwa [(Bb ag)] at h3
end
def Sub(R g:iw):Prop:=∀k∈R.map (·.1),k∈g.map (·.1)
def Sub.refl: Sub R R:=fun _ h=>h
def eZ: aT A bs (Sub j):=fun R s n _ h k g=>by
 rw[gM]
 split
 .exact h k g
 .exact Aw _ (h k g)
def Ag(A A' R:iw):Prop:=∀s n,qK s n∈R.map (·.1)->hU A s n=hU A' s n
def Ag.sub(h:Ag A A' g)(s:Sub R g):Ag A A' R:=fun x n j=>h x n (s _ j)
section
variable {A A':iw}{τ:jr}{bs ns rs:List Str}
def fO:∀{d}{r:Rk}{R},r.ok bs ns d->Ag A A' (r.jc A τ R)->r.val A τ=r.val A' τ/\r.jc A τ R=r.jc A' τ R:=by
 intro d r
 induction r generalizing d with
 |num i=>intro R _ _;exact⟨rfl,rfl⟩
 |turn n=>intro R _ _;exact⟨rfl,rfl⟩
 |ask s n =>
  intro R _ h
  have e:=h s n (by
   rw[Rk.jc,gM]
   split
   .assumption
   .exact AV _ AE)
  unfold Rk.val Rk.jc;exact e▸⟨rfl,rfl⟩
 |bin w x y q D =>
  intro R o h
  cases d with
  |zero=>exact o.elim
  |succ d =>
   rw[Rk.jc] at h;obtain⟨F,G⟩:=q o.2.1 (h.sub (lK eZ o.2.2 Sub.refl));obtain⟨g,j⟩:=D o.2.2 h;rw[ Rk.val,Rk.jc,j,F,g,G];exact⟨rfl,rfl⟩
 |pick x y z q D J =>
  intro R o h
  cases d with
  |zero=>exact o.elim
  |succ d =>
   rw[Rk.jc] at h
   have I:Ag A A' (x.jc A τ R):=by
    split at h
    .exact h.sub (lK eZ o.2.2 Sub.refl)
    .exact h.sub (lK eZ o.2.1 Sub.refl)
   obtain⟨F,G⟩:=(q o.1 I);rw[Rk.val,Rk.val,Rk.jc,Rk.jc,<- F,<- G]
   split at h
   .next e =>
    obtain⟨g,j⟩:=J o.2.2 h;rw[Ah e,Ah e,Ah e,Ah e];exact⟨g,j⟩
   .next e =>
    obtain⟨g,j⟩:=D o.2.1 h;rw[Af e,Af e,Af e,Af e];exact⟨g,j⟩
theorem uN: ∀{ps}{R},kN bs ns d ps->Ag A A' (cK A τ ps R)->mJ A τ ps=mJ A' τ ps/\cK A τ ps R=cK A' τ ps R
 |[],R,_,_=>⟨rfl,rfl⟩
 |c::ps,R,o,h=>by
  have o':kN bs ns d ps:=fun x q=>o x (AI _ q);have h:Ag A A' (cK A τ ps (c.2.jc A τ R)):=h;obtain⟨g,j⟩:=fO ((o c AE).1) (h.sub (rJ eZ o' Sub.refl));obtain⟨D,p2⟩:=uN o' h;exact⟨by show(c.1,c.2.val A τ)::mJ A τ ps=(c.1,c.2.val A' τ)::mJ A' τ ps;rw[g,D],by show cK A τ ps (c.2.jc A τ R)=cK A' τ ps (c.2.jc A' τ R);rw[p2,j]⟩
theorem GH: ∀{cs}{R},(∀c∈cs,c.2.2.ok bs ns d)->Ag A A' (lL A τ cs R)->kS A τ cs=kS A' τ cs/\lL A τ cs R=lL A' τ cs R
 |[],R,_,_=>⟨rfl,rfl⟩
 |c::ps,R,o,h=>by
  have o':∀c∈ps,c.2.2.ok bs ns d:=fun x q=>o x (AI _ q);have h:Ag A A' (lL A τ ps (c.2.2.jc A τ R)):=h;obtain⟨g,j⟩:=fO (o c AE) (h.sub (cN eZ o' Sub.refl));obtain⟨D,p2⟩:=GH o' h;exact⟨by show(c.1,c.2.1,c.2.2.val A τ)::kS A τ ps=(c.1,c.2.1,c.2.2.val A' τ)::kS A' τ ps;rw[g,D],by show lL A τ ps (c.2.2.jc A τ R)=lL A' τ ps (c.2.2.jc A' τ R);rw[p2,j]⟩
theorem Xr:∀{hs}{R},(∀h∈hs,h.ok bs ns)->Ag A A' (zK A τ hs R)->iJ A τ hs=iJ A' τ hs/\zK A τ hs R=zK A' τ hs R
 |[],R,_,_=>⟨rfl,rfl⟩
 |c::ps,R,o,h=>by
  have o':∀h∈ps,h.ok bs ns:=fun x q=>o x (AI _ q);have h:Ag A A' (zK A τ ps (lL A τ c.ch R)):=h;obtain⟨g,j⟩:=GH (o c AE).c (h.sub (uY eZ o' Sub.refl));obtain⟨D,p2⟩:=Xr o' h;exact⟨by show vE A τ c::iJ A τ ps=vE A' τ c::iJ A' τ ps;rw[D];delta vE;rw[g],by show zK A τ ps (lL A τ c.ch R)=zK A' τ ps (lL A' τ c.ch R);rw[p2,j]⟩
def ZQ(o:gT bs ns k)(h:Ag A A' (qY A τ k R)):rG A τ k=rG A' τ k/\qY A τ k R=qY A' τ k R:=by
 cases k with
 |none=>exact⟨rfl,rfl⟩
 |some r =>
  obtain⟨g,j⟩:=fO o h;exact⟨by show(Sum.inl (some _):Key)=Sum.inl (some _);rw[g],j⟩
end
theorem xH(h1:∀l ns τ st,gw bs rs d ns l->Ag A A' (iX A l τ st).2.2->iX A l τ st=iX A' l τ st):∀g ns τ st,(∀x∈g,gw bs rs d ns x)->Ag A A' (eQ A g τ st).2.2->eQ A g τ st=eQ A' g τ st
 |[],ns,τ,st,_,h=>by rw[qJ,qJ]
 |l::g,ns,τ,st,j,h=>by
  rw[rZ] at h;rw[rZ,rZ];have o':∀x∈g,gw bs rs d ns x:=fun x q=>j x (AI _ q);exact(h1 l ns τ st (j l AE) (h.sub (gJ eZ o' Sub.refl)))▸xH h1 g ns τ _ o' h
theorem Xx(hs:∀x k,Sub x.2.2 (f x k).2.2)(D:∀x k,Ag A A' (f x k).2.2->f x k=g x k):∀(l:List Nat)(x:mq),Ag A A' (l.foldl f x).2.2->l.foldl f x=l.foldl g x
 |[],_,_=>rfl
 |k::l,x,h=>by
  have:=rY (P:=fun st:mq=>Sub (f x k).2.2 st.2.2) (fun y j p q F=>hs y j q (p q F)) l _ Sub.refl;show l.foldl f (f x k)=l.foldl g (g x k);exact(D x k (h.sub this))▸Xx hs D l _ h
def Le: ∀d l ns τ st,gw bs rs d ns l->Ag A A' (iX A l τ st).2.2->iX A l τ st=iX A' l τ st:=by
 intro d
 induction d with
 |zero=>intro l ns τ st h;exact h.elim
 |succ d ih =>
  intro l ns τ st o h;have I:=xH ih
  cases l with
  |plain k ab s hs G =>
   obtain⟨h1,h2,D,F,Z⟩:=o;have b:=I G ns τ _ F h;have Y:=h.sub (gJ eZ F Sub.refl);obtain⟨u3,v3⟩:=Xr D.1 Y;have J:=Y.sub (uY eZ D.1 Sub.refl);obtain⟨N,S⟩:=uN h2.1 J;obtain⟨M,O⟩:=ZQ h1 (J.sub (rJ eZ h2.1 Sub.refl));rw[iX,iX,b,v3,S,O,u3,N,M]
  |part k n g =>
   obtain⟨h1,h2,D,F⟩:=o;obtain⟨N,S⟩:=uN D h;obtain⟨M,O⟩:=ZQ h1 (h.sub (rJ eZ D Sub.refl));rw[iX,iX,S,O,N,M]
  |give k n r G =>
   obtain⟨h1,h2,D,F,Z⟩:=o;have J:=h.sub (gJ eZ F Sub.refl);obtain⟨N,S⟩:=fO D J;obtain⟨M,O⟩:=ZQ h1 (J.sub (lK eZ D Sub.refl));rw[iX,iX,(I G ns τ _ F h),S,O,N,M]
  |when r l1 l2 =>
   obtain⟨h1,⟨h2,D⟩,F,Z⟩:=o;rw[iX] at h
   have U:Ag A A' (r.jc A τ st.2.2):=by
    split at h
    .exact h.sub (gJ eZ F Sub.refl)
    .exact h.sub (gJ eZ h2 Sub.refl)
   obtain⟨u,v⟩:=fO h1 U;rw[iX,iX,<- u,<- v]
   split at h
   .next e=>rw[Ah e,Ah e];exact I l2 ns τ _ F h
   .next e=>rw[Af e,Af e];exact I l1 ns τ _ h2 h
  |each n r G =>
   obtain⟨h1,h2,D⟩:=o;have hs:∀x k,Sub x.2.2 (eQ A G (kJ τ (.inr n) (.int (k:Nat))) x).2.2:=fun x k=>gJ eZ h2 Sub.refl;have U:=h.sub (rY (P:=fun x:mq=>Sub (r.jc A τ st.2.2) x.2.2) (fun y j p q hq=>hs y j q (p q hq)) _ _ Sub.refl);obtain⟨u,v⟩:=fO h1 U;rw[iX,iX,<- u,<- v];exact Xx hs (fun x k hx=>I G [n] _ x h2 hx) _ _ h
def Hk{cap}(g:jw rs cap x)(h:Ag A A' (xB A x)):oJ A x=oJ A' x/\xB A x=xB A' x:=by
 obtain⟨u,v⟩:=(uN g.wk h);have b:=xH (Le 6) x.ls [] [] ([],[],[]) g.ls (h.sub (rJ eZ g.wk Sub.refl));have e:xB A x=xB A' x:=by delta xB;rw[v,b]
 delta oJ
 exact e▸u▸b▸⟨rfl,rfl⟩
inductive Th(C:CH):PV->Prop
 |non:Th C .non
 |bl (b:Bool):Th C (.bl b)
 |int (i:Int):Th C (.int i)
 |str (z:Str):Th C (.str z)
 |tup {ts:List PV} (h:∀t∈ts,Th C t):Th C (.tup ts)
 |lst {a:Addr} (h:tyP C (.ref a)=some .lst):Th C (.ref a)
 |dct {a:Addr} (h:tyP C (.ref a)=some .dct):Th C (.ref a)
abbrev Pn:PV->Prop:=Th fun _=>none
def vP(h:tyP C x=some n)(g:Gr C C'):tyP C' x=some n:=by
 cases x with
 |ref a =>
  delta tyP at h ⊢
  dsimp only at h ⊢
  split at h
  .next e=>rwa [g a _ e]
  .next e=>rwa [g a _ e]
  .cases h
 |_=>exact h
theorem Th.gr(h:Th C x)(g:Gr C C'):Th C' x:=by
 induction h with
 |non=>exact .non
 |bl b=>exact .bl b
 |int i=>exact .int i
 |str z=>exact .str z
 |tup _ j=>exact .tup j
 |lst h=>exact .lst (vP h g)
 |dct h=>exact .dct (vP h g)
def Pn.th(h:Pn x):Th C x:=h.gr fun _ _ z=>nomatch z
noncomputable def kn:Ty->Str
 |.bl=>"truth"
 |.int=>"number"
 |.str=>"text"
 |.tup=>"tuple"
 |.lst=>"list"
 |.dct=>"dict"
 |_=>"none"
def Th.ty(h:Th C x):∃n,tyP C x=some n:=by
 cases h with
 |lst h=>exact⟨_,h⟩
 |dct h=>exact⟨_,h⟩
 |_=>exact⟨_,rfl⟩
def Th.cmp(q:Th C x)(D:Pn y)(g:tyP C x=some n)(j:tyP C y=some m):(kn n≠kn m/\x≠y)\/(n=.tup/\m=.tup/\∃xs ys,x=.tup xs/\y=.tup ys/\(∀t∈xs,Th C t)/\∀t∈ys,Pn t)\/∃b,kn n=kn m/\kn n ≠ "tuple"/\kn n ≠ "list"/\kn n ≠ "dict"/\sEq x y=some b/\(b=true↔x=y):=by
 cases D with
 |lst h=>cases h
 |dct h=>cases h
 |tup h =>
  cases j
  cases q with
  |tup h'=>cases g;exact .inr (.inl ⟨rfl,rfl,_,_,rfl,rfl,h',h⟩)
  |lst h'=>rw[h'] at g;cases g;exact .inl ⟨by decide,nofun⟩
  |dct h'=>rw[h'] at g;cases g;exact .inl ⟨by decide,nofun⟩
  |_=>cases g;exact .inl ⟨by decide,nofun⟩
 |_ =>
  cases j
  cases q with
  |lst h'=>rw[h'] at g;cases g;exact .inl ⟨by decide,nofun⟩
  |dct h'=>rw[h'] at g;cases g;exact .inl ⟨by decide,nofun⟩
  |_=>cases g;first | exact .inl ⟨by decide,nofun⟩ | exact .inr (.inr ⟨_,rfl,by decide,by decide,by decide,rfl,by simp⟩)
mutual
def pw:PV->Nat
 |.tup ts=>1+iy ts
 |_=>1
def iy:List PV->Nat
 |[]=>0
 |t::ts=>pw t+iy ts
end
def Io t:1<=pw t:=by
 cases t<;>(unfold pw;lia)
noncomputable def Hf(z:PV×PV):PV:=.tup [z.1,z.2]
def zw(zs:List (PV×PV)):Nat:=iy (zs.map (·.2))
def km xs ys:iy (xs++ys)=iy xs+iy ys:=by
 induction xs with
 |nil=>rw[Ct,iy,BP]
 |cons x xs g=>rw[CC,iy,iy,g];lia
def wN xs:xs.length<=iy xs:=by
 induction xs with
 |nil=>exact AX _
 |cons x xs g=>rw[iy,AQ];have:=Io x;lia
theorem Jw:∀xs ys,List.zipWith (fun a b=>PV.tup [a,b]) xs ys=(xs.zip ys).map Hf
 |[],_=>rfl
 |_::_,[]=>rfl
 |x::xs,y::ys=>by rw[List.zipWith_cons_cons,Jw xs ys];rfl
theorem Wh:∀{xs ys:List PV},xs.length=ys.length->(xs=ys↔∀z∈xs.zip ys,z.1=z.2)
 |[],[],_=>⟨fun _ _ z=>(nomatch z),fun _=>rfl⟩
 |x::xs,y::ys,h=>by
  have j:=Wh (Ax h);refine⟨fun e z g=>?_,fun g=>?_⟩
  .injection e with q D
   rcases Aj.1 g with rfl | g
   .exact q
   .exact j.1 D z g
  .rw [(show x=y from g (x,y) AE),j.2 fun z h=>g z (AI _ h)]
section
variable {W:Wd}{a:Adr}
inductive gKo(ts:List PV)(C:CH)(Q:K1):Prop
 |mk x n(z0:ts=[x])(z1:tyP C x=some n)(z2:Q (.str (kn n)) C)
def Zv(T:Tx W a):Ok W a 1 6 ["thing"] gKo:=by
 have S:=(T.F 6 rfl).s
 refine(T.F 6 rfl).o (fun j=>(xQ (nQ (oZ (iQ vX cZ rfl T.aQ rfl (qQ (cv 0) (dw (mV rfl T.jA rfl))))) (kQ (wQ vQ)) lQ)
  (xQ (nQ (oZ (iQ vX cZ rfl T.aQ rfl (qQ (cv 0) (dw (mV rfl T.gD rfl))))) (kQ (wQ vQ)) lQ)
  (xQ (nQ (oZ (iQ vX cZ rfl T.aQ rfl (qQ (cv 0) (dw (mV rfl T.Jx rfl))))) (kQ (wQ vQ)) lQ)
  (xQ (nQ (oZ (iQ vX cZ rfl T.aQ rfl (qQ (cv 0) (dw (mV rfl T.sX rfl))))) (kQ (wQ vQ)) lQ)
  (xQ (nQ (oZ (iQ vX cZ rfl T.aQ rfl (qQ (cv 0) (dw (mV rfl T.pF rfl))))) (kQ (wQ vQ)) lQ)
  (xQ (nQ (oZ (iQ vX cZ rfl T.aQ rfl (qQ (cv 0) (dw (mV rfl T.aN rfl))))) (kQ (wQ vQ)) lQ)
  (kQ (wQ vQ))))))))) ?_
 rintro ts C R ⟨x,n,rfl,g,q⟩;cases n<;>repeat (first | exact q | exact qZ rfl g (fZ rfl q) | (refine qZ rfl g (aX rfl (zX ?_))))
inductive gPw(ts:List PV)(C:CH)(Q:K1):Prop
 |mk x y C0(z0:ts=[x,y])(z1:Gr C0 C)(z2:Th C0 x)(z3:Pn y)(z4:pw y<=1000000)(z5:(x≠y->∀C',Gr C C'->Q .non C'))(z6:∀(zs:List (PV×PV))p C',(x=y↔∀z∈zs,z.1=z.2)->(∀z∈zs,Th C0 z.1/\Pn z.2)->zw zs+1=pw y->C p=none->C' p=some (.lst (zs.map Hf))->Gr C C'->Q (.ref p) C')
def Ou(T:Tx W a):Ok W a 2 4 ["one","other"] gPw:=by
 have Z:=Zv T
 refine(T.F 4 rfl).o (fun F=>(xQ (fu 2 ((T.F 4 rfl).s).nd (cf (T.F 6 rfl) Z F (dw (cv 0))))
  (xQ (nQ (ct2 jL mU (cv 2) (cf (T.F 6 rfl) Z F (dw (cv 1)))) (kQ (wQ kK)) lQ)
  (xQ (nQ (gm (jj (ct2 wX sQ (cv 2) vQ) (jh (ct2 wX sQ (cv 2) vQ)))) (kQ (wQ (uS (ct2 wX sQ (j9 T.lZ (cv 0)) (j9 T.lZ (cv 1))) (Jb rfl T.pF T.z_zip (cv 0) (cv 1)) kK))) lQ)
  (xQ (nQ (ct2 wX sQ (cv 2) vQ) (kQ (wQ (cf (T.F 5 rfl) (eJ fun _ _ _ z=>z) F (qQ (cv 0) (dw (cv 1)))))) lQ)
  (kQ (wQ (uS (ct2 wX sQ (cv 0) (cv 1)) (gX bZ) kK)))))))) ?_
 rintro ts C R ⟨x,y,C0,rfl,I,S,U,af,G,q⟩;obtain⟨n,O⟩:=S.ty;obtain⟨m,N⟩:=(U.th).ty;refine uQ ⟨x,n,rfl,(vP O I),⟨y,m,rfl,(vP N I),qX (pQ _ _) ?_⟩⟩
 rcases S.cmp U O N with ⟨h1,h2⟩ | ⟨rfl,rfl,xs,ys,rfl,rfl,ab,ae⟩ | ⟨b,h1,h2,h3,h4,J,M⟩
 .exact fZ (by rw[AN h1];rfl) (G h2 C Gr.refl)
 .refine aX rfl (zX (qX (pQ _ _) (fZ rfl (ZX rfl (nU (nU (qX (mX _ _) (vZ (fun g=>?_) fun g=>?_))))))))
  .have g:xs.length=ys.length :=by simp_all;lia
   refine Nz g fun p j=>?_;rw[Jw];refine q (xs.zip ys) p _ (PV.tup.injEq .. ▸ Wh g) (fun z Y=>?_) ?_ j jQ (Gr.new j _)
   .exact ⟨ab _ (Cs Y).1,ae _ (Cs Y).2⟩
   .delta zw
    rw[List.map_snd_zip (by lia),pw]
    lia
  .exact G (fun e=>by cases e;rw[Ab rfl] at g;cases g) C Gr.refl
 .refine aX (by rw[Ab h1];rfl) (zX ?_)
  refine qX (pQ _ _) (aX (AN h2) (qX (pQ _ _) (aX (AN h3) (zX (qX (pQ _ _) (aX (AN h4) (zX (qX J (vZ (fun D=>?_) fun D=>?_)))))))))
  .refine ⟨by decide,fun p j=>?_⟩
   refine q [] p _ ⟨fun _ _ z=>(nomatch z),fun _=>M.1 D⟩ (fun _ z=>nomatch z) ?_ j jQ (Gr.new j _);have:pw y=1:=by cases y<;>first | rfl | (cases x<;>cases J)
   rw[this]
   rfl
  .exact G (fun e=>by rw[M.2 e] at D;cases D) C Gr.refl
inductive gAk(ts:List PV)(C:CH)(Q:K1):Prop
 |mk x y(z0:ts=[x,y])(z1:Th C x)(z2:Pn y)(z3:pw y<=1000000)(z4:∀b C',(b=true↔x=y)->Gr C C'->Q (.bl b) C')
def Q9(T:Tx W a):Ok W a 3 3 ["one","other"] gAk:=by
 have S:=(T.F 3 rfl).s;have iS:=Ou T
 refine(T.F 3 rfl).o (fun Z=>(xQ (fu 2 S.nd (gX (dw (cQ (qQ (cv 0) (dw (cv 1)))))))
  (xQ (Gz PassesOwn.never (Gx (cv 2)) (xQ (fu 3 S.nd (Jd A9 Df De YA Kz (cv 2)))
  (xQ (fu 4 S.nd (cf (T.F 4 rfl) iS Z (qQ (cx (cv 3) zQ) (dw (cx (cv 3) zQ)))))
  (xQ (nQ (ct2 aC fL (cv 4) kK) (kQ (wQ aG)) lQ)
  (kQ (uZ (XR A9 PySem.F.slot_list_extend PySem.F.type_list_extend (fun p s σ H x vs v ah Q=>sO p s σ H x vs v ah Q) jS (cv 2) (dw (cv 4)))))))))
  (kQ (wQ aG))))) ?_
 rintro ts C R ⟨x,y,rfl,hx,hy,ae,q⟩;refine uQ ⟨ie 2 rfl,?_⟩;refine⟨ie 1 rfl,fun p M=>?_⟩;refine⟨pw y+1,?_⟩;have ai:(1000000:Nat)<=sizeLine:=by decide
 refine JC (fun n ρ C'=>∃zs x3 x4,n=zw zs/\ρ=[some x,some y,some (.ref p),x3,x4]/\(x=y↔∀z∈zs,z.1=z.2)/\(∀z∈zs,Th C z.1/\Pn z.2)/\zw zs<=1000000/\C' p=some (.lst (zs.map Hf))/\Gr C C') ?_ _ (pw y) _ _ (Bm _) ⟨[(x,y)],none,none,(Nat.add_zero _).symm,rfl,⟨fun e z O=>by cases AF.1 O;exact e,fun h=>h _ AE⟩,fun z O=>by cases AF.1 O;exact⟨hx,hy⟩,ae,jQ,Gr.new M _⟩
 rintro n ρ C1 L ⟨zs,x3,x4,rfl,rfl,hi,N,ab,I,g⟩ Y;refine Fx ?_ ?_
 .refine ⟨p,zs.map Hf,rfl,I,?_⟩
  rcases List.eq_nil_or_concat zs with rfl | ⟨D,z,rfl⟩
  .exact q true C1 ⟨fun _=>hi.2 fun _ z=>(nomatch z),fun _=>rfl⟩ g
  .rw [List.concat_eq_append] at I hi N ab Y ⊢
   obtain⟨ag,t2⟩:=N z (AV _ AE);have ez:zw (D++[z])=zw D+pw z.2:=by delta zw;rw[AS,km];rfl
   apply ZX (by simp)
   refine uQ ⟨tW I,Hg I (y:=Hf z) (by simp) ?_⟩;rw[AS,List.map_singleton,List.dropLast_concat];have J:Gr C (gQ C1 p (.lst (D.map Hf))):=uG g M _;have m2:gQ C1 p (.lst (D.map Hf)) p=some (.lst (D.map Hf)):=jQ;refine uQ (rX rfl (rX rfl ⟨z.1,z.2,C,rfl,J,ag,t2,by lia,fun af U G=>?_,fun F r U h1 h2 h3 Z m3 G=>?_⟩))
   .exact q false U ⟨(fun h=>nomatch h),fun e=>absurd (hi.1 e z (AV _ AE)) af⟩ (J.trans G)
   .refine zX ⟨tW (G _ _ m2),?_⟩
    have ak:D.length<=zw D:=by have:=wN (D.map (·.2));rwa [AB] at this
    have ao:F.length<=zw F:=by have:=wN (F.map (·.2));rwa [AB] at this
    apply YI (G _ _ m2) m3 (by rw[AB,AB];lia)
    have aj:zw (D++F)=zw D+zw F:=by delta zw;rw[AS,km]
    refine Y (zw (D++F)) _ _ (by lia) ⟨D++F,_,_,rfl,rfl,?_,fun u j=>?_,by lia,by rw[jQ,AS],uG (J.trans G) M _⟩
    .rw [hi]
     refine⟨fun h u j=>?_,fun h u j=>?_⟩
     .grind
     .rcases Ae.1 j with j | j
      .exact h u (Aw _ j)
      .cases AF.1 j
       exact h1.2 fun v hv=>h v (AV _ hv)
    .rcases Ae.1 j with j | j
     .exact N u (Aw _ j)
     .exact h2 u j
 .intro Q1 Q2 h q
  exact iN _ _ h q
end
noncomputable def ZS:PV->Bool
 |.int i=>decide (-1000000000<=i)&&decide (i<=1000000000)
 |_=>false
def ZU:PV->Bool
 |.str z=>oF z
 |_=>false
section
variable {W:Wd}{a:Adr}
inductive gNu(ts:List PV)(C:CH)(Q:K1):Prop
 |mk x(z0:ts=[x])(z1:Th C x)(z2:Q (.bl (ZS x)) C)
def aA(T:Tx W a):Ok W a 1 0 ["thing"] gNu:=by
 have S:=(T.F 0 rfl).s
 refine(T.F 0 rfl).o (fun F=>(xQ (nQ (gm (jj (oZ (iQ vX cZ rfl T.aQ rfl (qQ (cv 0) (dw (mV rfl T.jA rfl))))) (jh (rW (oZ (iQ vX cZ rfl T.aQ rfl (qQ (cv 0) (dw (mV rfl T.gD rfl))))))))) (kQ (wQ aG)) lQ)
  (kQ (wQ (GS J8 J8 dI dI (oH aU zG (zY (v:=.int 1000000000) rfl T.wI ⟨_,rfl⟩ (fun _=>.int _))) (cv 0) (zY (v:=.int 1000000000) rfl T.wI ⟨_,rfl⟩ (fun _=>.int _))))))) ?_
 rintro ts C R ⟨x,rfl,j,q⟩;obtain⟨n,D⟩:=j.ty
 cases j with
 |int i =>
  cases D;refine qZ rfl rfl (aX rfl (qZ rfl rfl (iH (zX (jg (vZ (fun g=>?_) fun g=>?_))))))
  .apply jg
   have e:ZS (.int i)=decide (i<=1000000000):=by show(decide (-1000000000<=i)&&decide (i<=1000000000))=_;rw[g];rfl
   rwa [e] at q
  .have e:ZS (.int i)=false:=by show(decide (-1000000000<=i)&&decide (i<=1000000000))=_;rw[g];rfl
   rwa [e] at q
 |bl b=>exact qZ rfl rfl (fZ rfl q)
 |lst h=>exact qZ rfl h (aX rfl (qZ rfl h (pK q)))
 |dct h=>exact qZ rfl h (aX rfl (qZ rfl h (pK q)))
 |_=>exact qZ rfl rfl (aX rfl (qZ rfl rfl (pK q)))
inductive gNa(ts:List PV)(C:CH)(Q:K1):Prop
 |mk x(z0:ts=[x])(z1:Th C x)(z2:(∀z,x=.str z->z.length<=sizeLine))(z3:∀C',Gr C C'->Q (.bl (ZU x)) C')
def Zx(T:Tx W a):Ok W a 1 1 ["thing"] gNa:=by
 have S:=(T.F 1 rfl).s
 refine(T.F 1 rfl).o (fun O=>(xQ (nQ (gm (jj (rW (oZ (iQ vX cZ rfl T.aQ rfl (qQ (cv 0) (dw (mV rfl T.Jx rfl)))))) (jh (rW (Gy J8 J8 dI dI zQ (j9 T.lZ (cv 0)) (zY (v:=.int 8) rfl T.mT ⟨_,rfl⟩ (fun _=>.int _))))))) (kQ (wQ aG)) lQ)
  (kQ (wQ (iQ (sL rfl) lN rfl T.Jy rfl (dw (sV rfl (S.c (by decide +kernel)) (S.k (L:=0) rfl rfl rfl (by decide +kernel)) (MP (cv 0)) (fun _ _ _ _ _=>xK) (fun _ _ _ _ _=>(oK Vh zu (cv 0) (zY (v:=.str "abcdefghijklmnopqrstuvwxyz") rfl T.Y9 ⟨_,rfl⟩ (fun _=>.str _)) rfl))))))))) ?_
 rintro ts C R ⟨x,rfl,j,F,q⟩;obtain⟨n,G⟩:=j.ty
 cases j with
 |str z =>
  cases G;have J:=F z rfl;refine qZ rfl rfl (iH (O6 J ?_));have D:oF z=false->R (.bl false) C:=fun e=>by have:=q C Gr.refl;rwa [show ZU (.str z)=false from e] at this
  refine jg (vZ (fun h1=>?_) fun h1=>?_)
  .apply jg
   cases h2:decide (((z.length:Nat):Int)<=8) with
   |false=>exact D (by delta oF;rw[h1,h2];rfl)
   |true =>
    refine iH (zX (cL (fun s=>match s with | .str u=>.bl (!(Builtin.Str.occurrences ("abcdefghijklmnopqrstuvwxyz" : Str) u 0 ("abcdefghijklmnopqrstuvwxyz" : Str).length 1).isEmpty) | _=>.non) (rD z) [] C Gr.refl ?_ (fun x j C1 M g I=>?_) fun p C1 N g m=>?_))
    .delta rD
     rwa [AB,CV,BP,BG]
    .obtain ⟨c,_,rfl⟩:=AM.1 j
     exact Pj (I C1 Gr.refl)
    .apply KU (bs:=z.cps.toList.map Ki) (by rw[m];delta rD;rw[A8,A8];rfl)
     have e:ZU (.str z)=(z.cps.toList.map Ki).all id:=by
      show((decide ((1:Int)<=(z.length:Nat))&&decide (((z.length:Nat):Int)<=8))&&z.cps.toList.all Ki)=_;rw[h1,h2,List.all_map]
      rfl
     exact e▸q C1 g
  .exact D (by delta oF;rw[h1];rfl)
 |lst h=>exact qZ rfl h (pK (q C Gr.refl))
 |dct h=>exact qZ rfl h (pK (q C Gr.refl))
 |_=>exact qZ rfl rfl (pK (q C Gr.refl))
def Im:PV->Bool
 |.tup [s,m]=>VF ["take","box","down"] s&&ZU m
 |_=>false
def t7:PV->Bool
 |.tup [q,n]=>ZS n&&Im q
 |_=>false
def Lr{α:Type}x y z(r:List α)k(h:k=2):(!decide (((x::y::z::r).length:Int)=k))=true :=by grind
def Sg(x:PV):Prop:=∀s z n,x=.tup [.tup [s,.str z],n]->z.length<=sizeLine
inductive gRf(ts:List PV)(C:CH)(Q:K1):Prop
 |mk x(z0:ts=[x])(z1:Th C x)(z2:Sg x)(z3:∀C',Gr C C'->Q (.bl (t7 x)) C')
def sA(T:Tx W a):Ok W a 2 13 ["thing"] gRf:=by
 have S:=(T.F 13 rfl).s;have N:=aA T;have M:=Zx T
 refine(T.F 13 rfl).o (fun F=>(xQ (nQ (gm (jj (rW (oZ (iQ vX cZ rfl T.aQ rfl (qQ (cv 0) (dw (mV rfl T.sX rfl)))))) (jj (ct2 jL mU (j9 T.lZ (cv 0)) zQ) (jh (rW (oZ (cf (T.F 0 rfl) N F (dw (cx (cv 0) zQ))))))))) (kQ (wQ aG)) lQ)
  (xQ (fu 1 S.nd (cx (cv 0) zQ))
  (xQ (nQ (gm (jj (rW (oZ (iQ vX cZ rfl T.aQ rfl (qQ (cv 1) (dw (mV rfl T.sX rfl)))))) (jh (ct2 jL mU (j9 T.lZ (cv 1)) zQ)))) (kQ (wQ aG)) lQ)
  (kQ (wQ (eP (oK (Yh (xZ F)) zy (cx (cv 1) zQ) (zY (v:=.ref a.ASKING) rfl T.Kn rfl (fun H=>.kt (T.JY H) (.cons (.str _) (.cons (.str _) (.cons (.str _) .nil))))) rfl) (yS (cf (T.F 1 rfl) M F (dw (cx (cv 1) zQ))))))))))) ?_
 rintro ts C R ⟨x,rfl,Z,Y,q⟩
 cases Z with
 |@tup ts J =>
  refine qZ rfl rfl (iH (nU (qX (mX _ _) ?_)))
  rcases ts with _ | ⟨g,_ | ⟨n,_ | ⟨z,r⟩⟩⟩
  .exact fZ rfl (q C Gr.refl)
  .exact fZ rfl (q C Gr.refl)
  .refine aX rfl (rX rfl ⟨n,rfl,J n (by simp),?_⟩)
   cases G:ZS n with
   |false =>
    have e:t7 (.tup [g,n])=false:=by show(ZS n&&Im g)=_;rw[G];rfl
    rw[e] at q;exact pK (q C Gr.refl)
   |true =>
    have e:t7 (.tup [g,n])=Im g:=by show(ZS n&&Im g)=_;rw[G];rfl
    rw[e] at q;refine iH (zX ?_)
    try dsimp only
    refine uQ (rX rfl ?_)
    cases J g AE with
    |@tup qs I =>
     refine qZ rfl rfl (iH (nU (qX (mX _ _) ?_)))
     rcases qs with _ | ⟨j,_ | ⟨m,_ | ⟨z,r⟩⟩⟩
     .exact fZ rfl (q C Gr.refl)
     .exact fZ rfl (q C Gr.refl)
     .refine aX rfl (zX (rX rfl ?_))
      obtain⟨c,U⟩:=(I j AE).ty;refine Pk rfl U (vZ (fun D=>?_) fun D=>?_)
      .refine rX rfl ⟨m,rfl,I m (by simp),fun z hz=>Y j z n (by rw[hz]),fun C1 O=>?_⟩
       have e:Im (.tup [j,m])=ZU m:=by show(VF ["take","box","down"] j&&ZU m)=_;rw[D];rfl
       exact e▸q C1 O
      .have e:Im (.tup [j,m])=false:=by show(VF ["take","box","down"] j&&ZU m)=_;rw[D];rfl
       rw[e] at q;exact q C Gr.refl
     .exact fZ (Lr _ _ _ _ _ rfl) (q C Gr.refl)
    |lst h=>exact qZ rfl h (pK (q C Gr.refl))
    |dct h=>exact qZ rfl h (pK (q C Gr.refl))
    |_=>exact qZ rfl rfl (pK (q C Gr.refl))
  .exact fZ (Lr _ _ _ _ _ rfl) (q C Gr.refl)
 |lst h=>exact qZ rfl h (pK (q C Gr.refl))
 |dct h=>exact qZ rfl h (pK (q C Gr.refl))
 |_=>exact qZ rfl rfl (pK (q C Gr.refl))
def Ih:PV->Bool
 |.tup ts=>(ts.map t7).all id
 |_=>false
inductive Tq(ts:List PV)(C:CH)(Q:K1):Prop
 |mk x(z0:ts=[x])(z1:Th C x)(z2:(∀ts,x=.tup ts->ts.length<=sizeLine/\∀t∈ts,Sg t))(z3:∀C',Gr C C'->Q (.bl (Ih x)) C')
def nA(T:Tx W a):Ok W a 3 12 ["thing"] Tq:=by
 have S:=(T.F 12 rfl).s;have F:=sA T;refine(T.F 12 rfl).o (fun I=>(kQ (wQ (eP (iQ vX cZ rfl T.aQ rfl (qQ (cv 0) (dw (mV rfl T.sX rfl)))) (yS (iQ (sL rfl) lN rfl T.Jy rfl (dw (sV rfl (S.c (by decide +kernel)) (S.k (L:=0) rfl rfl rfl (by decide +kernel)) (jD (cv 0)) (fun _ _ _ _ _=>xK) (fun _ _ _ _ _=>(cf (T.F 13 rfl) F I (dw (cv 0)))))))))))) ?_;rintro ts C R ⟨x,rfl,M,j,q⟩
 cases M with
 |@tup ts J =>
  refine qZ rfl rfl (fZ rfl (cL (fun t=>.bl (t7 t)) ts [] C Gr.refl (by rw[CV,BP];exact(j ts rfl).1) (fun y D C1 N g G=>⟨y,rfl,(J y D).gr g,(j ts rfl).2 y D,G⟩) fun p C1 O g m=>?_));exact KU (by rw[m,A8];rfl) (q C1 g)
 |lst h=>exact qZ rfl h (aX rfl (q C Gr.refl))
 |dct h=>exact qZ rfl h (aX rfl (q C Gr.refl))
 |_=>exact qZ rfl rfl (aX rfl (q C Gr.refl))
end
def Oo(h:Pl d t):Pl (d+1) t:=by
 induction h with
 |non=>exact .non
 |bl b=>exact .bl b
 |int i=>exact .int i
 |str x=>exact .str x
 |tup _ g=>exact .tup g
def cJ(h:Pl d t)(j:d<=e):Pl e t:=by
 induction j with
 |refl=>exact h
 |step _ g=>exact Oo g
def Lz k:Pl 0 (oW k):=by
 rcases k with (_ | i) | x
 .exact .non
 .exact .int i
 .exact .str x
def JM sp:Pl 1 (pV sp):=.tup fun t g=>by
 obtain⟨k,_,rfl⟩:=AM.1 g;exact Lz k
def WT p:Pl 2 (tX p):=.tup fun t g=>by
 obtain⟨sp,hs,rfl⟩:=AM.1 g;exact JM sp
def Oa c:Pl 1 (dQ c):=.tup fun t g=>by
 rcases Aj.1 g with rfl | g
 .exact .str _
 .cases AF.1 g;exact .int _
def lF(cs:List (Str×Int)):Pl 2 (.tup (cs.map dQ)):=.tup fun t g=>by
 obtain⟨c,_,rfl⟩:=AM.1 g;exact Oa c
def Rt c:Pl 1 (VN c):=.tup fun t g=>by
 simp only[List.mem_cons,List.not_mem_nil,or_false] at g
 rcases g with rfl | rfl | rfl
 .exact .str _
 .exact .str _
 .exact .int _
def Mi(h:pq):Pl 3 h.pv:=.tup fun t g=>by
 simp only[List.mem_cons,List.not_mem_nil,or_false] at g
 rcases g with rfl | rfl | rfl | rfl
 .exact .str _
 .exact .int _
 .exact .bl _
 .exact .tup fun t g=>by
   obtain⟨c,_,rfl⟩:=AM.1 g;exact Rt c
def NB: ∀d x,ju rs d x->Pl (2 * d+4) x.pv:=by
 intro d
 induction d with
 |zero=>intro x h;exact h.elim
 |succ d G =>
  intro x h
  have D:∀r:List Wt,(∀y∈r,ju rs d y)->Pl (2 * d+5) (.tup (Wt.ig r)):=fun r F=>.tup fun t j=>by
   rw[Wt.jf] at j;obtain⟨y,q,rfl⟩:=AM.1 j;exact G y (F y q)
  cases x with
  |plain sp I ss hs r =>
   refine .tup fun t j=>?_
   simp only[List.mem_cons,List.not_mem_nil,or_false] at j
   rcases j with rfl | rfl | rfl | rfl | rfl | rfl
   .exact .str _
   .exact cJ (JM sp) (by lia)
   .exact .str _
   .exact cJ (lF ss) (by lia)
   .refine cJ (d:=4) (.tup fun t j=>?_) (CU _ _)
    obtain⟨y,q,rfl⟩:=AM.1 j;exact Mi y
   .exact D r h.2.2.1
  |part sp n g =>
   refine .tup fun t j=>?_
   simp only[List.mem_cons,List.not_mem_nil,or_false] at j
   rcases j with rfl | rfl | rfl | rfl
   .exact .str _
   .exact cJ (JM sp) (by lia)
   .exact .str _
   .exact cJ (lF g) (by lia)
  |give sp n i r =>
   refine .tup fun t j=>?_
   simp only[List.mem_cons,List.not_mem_nil,or_false] at j
   rcases j with rfl | rfl | rfl | rfl | rfl
   .exact .str _
   .exact cJ (JM sp) (by lia)
   .exact .str _
   .exact .int _
   .exact D r h.2.2.1
def NT c:Pl 2 (bY c):=.tup fun t g=>by
 rcases Aj.1 g with rfl | g
 .exact .tup fun t g=>by
   obtain⟨x,_,rfl⟩:=AM.1 g;exact .str x
 .cases AF.1 g;exact .int _
def Hj{x:Pc}(h:zM rs 6 x.row):Pl 18 x.pv:=by
 refine .tup fun t g=>?_
 simp only[List.mem_cons,List.not_mem_nil,or_false] at g
 rcases g with rfl | rfl | rfl
 .refine cJ (d:=3) (.tup fun t g=>?_) (by decide)
  obtain⟨c,_,rfl⟩:=AM.1 g;exact NT c
 .refine .tup fun t g=>?_
  rw[Wt.jf] at g;obtain⟨y,j,rfl⟩:=AM.1 g;exact NB 6 y (h.1 y j)
 .exact cJ (lF _) (by decide)
def Iv(x:jk):Pl 20 x.pv:=by
 refine .tup fun t g=>?_
 simp only[List.mem_cons,List.not_mem_nil,or_false] at g
 rcases g with rfl | rfl | rfl | rfl
 .exact cJ (WT _) (by decide)
 .exact .str _
 .exact cJ (lF _) (by decide)
 .exact cJ (lF _) (by decide)
def Rf{e:En}(h:zM rs 6 e.pc.row):Pl 20 e.pv:=by
 refine .tup fun t g=>?_
 simp only[List.mem_cons,List.not_mem_nil,or_false] at g
 rcases g with rfl | rfl | rfl | rfl | rfl
 .exact cJ (WT _) (by decide)
 .exact .str _
 .exact cJ (lF _) (by decide)
 .exact cJ (lF _) (by decide)
 .exact cJ (Hj h) (by decide)
def Pn.of(h:Pl d t):Pn t:=by
 induction h with
 |non=>exact .non
 |bl b=>exact .bl b
 |int i=>exact .int i
 |str x=>exact .str x
 |tup _ g=>exact .tup g
theorem rF{α:Type}{f}: ∀{l:List α},(∀x∈l,pw (f x)<=c)->iy (l.map f)<=c * l.length
 |[],_ =>AX _
 |x::l,h=>by
  have h1:=rF fun y g=>h y (AI _ g);have h2:=h x AE;rw[A5,iy,AQ]
  lia
def bP ts:pw (.tup ts)=1+iy ts:=by rw[pw]
def Ip k:pw (oW k)<=1:=by rcases k with (_ | i) | x<;>simp[oW,pw]
def JZ sp:pw (pV sp)<=1+sp.length:=by
 have:=rF (l:=sp) fun k _=>Ip k
 delta pV
 rw[bP]
 lia
def Oj c:pw (dQ c)=3:=by delta dQ;simp[pw,iy]
def bC(cs:List (Str×Int)):pw (.tup (cs.map dQ))<=1+3 * cs.length:=by
 have:=rF (l:=cs) fun c _=>B8 (Oj c);rw[bP]
 lia
def Ol{h:pq}(g:h.ch.length<=4):pw h.pv<=21:=by
 have:=rF (f:=VN) (c:=4) (l:=h.ch) fun c _=>by delta VN;simp[pw,iy]
 delta pq.pv
 simp only[pw,iy]
 lia
def Oi: ∀d x,ju rs d x->pw x.pv<=105 * x.wc:=by
 intro d
 induction d with
 |zero=>intro x h;exact h.elim
 |succ d M =>
  intro x h
  have F:∀r:List Wt,(∀y∈r,ju rs d y)->iy (Wt.ig r)<=105 * Wt.jy r:=by
   intro r
   induction r with
   |nil=>intro _;rw[Wt.ig,iy];exact AX _
   |cons y r N =>
    intro D;have h1:=N fun z J=>D z (AI _ J);have h2:=M y (D y AE);rw[Wt.ig,iy,Wt.jy]
    lia
  cases x with
  |plain sp S ss hs r =>
   have h1:=h.1.l;have h2:=h.2.1;have q:=JZ sp;have j:=bC ss;have O:=rF fun y I=>Ol (h2.2.2.1 y I);have G:=F r h.2.2.1;rw[Wt.pv,Wt.wc];rw[bP] at j
   simp only[pw,iy]
   lia
  |part sp n g =>
   have h1:=h.1.l;have h2:=h.2.2.1;have q:=JZ sp;have j:=bC g;rw[Wt.pv,Wt.wc];rw[bP] at j
   simp only[pw,iy]
   lia
  |give sp n i r =>
   have h1:=h.1.l;have q:=JZ sp;have G:=F r h.2.2.1;rw[Wt.pv,Wt.wc]
   simp only[pw,iy]
   lia
def qm(cs:List (List Str×Int)):iw:=cs.map fun c=>(c.1.map Sum.inr,.int c.2)
abbrev Ft:List Str:=["take","box","down"]
def Sd(cs:List (List Str×Int)):Prop:=∀c∈cs,∃s n,c.1=[s,n]/\Ft.contains s=true/\oF n=true/\Bd c.2
def Ij(h:t7 x=true):∃s n i,x=bY ([s,n],i)/\Ft.contains s=true/\oF n=true/\Bd i:=by
 delta t7 at h
 split at h
 .next q n =>
  rw[BF] at h;obtain⟨h1,h2⟩:=h
  delta Im at h2
  split at h2
  .next s m =>
   rw[BF] at h2;obtain⟨h2,g⟩:=h2
   cases n with
   |int i =>
    have h1:(decide (-1000000000<=i)&&decide (i<=1000000000))=true:=h1;rw[BF] at h1
    cases s with
    |str s =>
     cases m with
     |str n=>exact⟨s,n,i,rfl,h2,g,AZ h1.1,AZ h1.2⟩
     |_=>cases g
    |_=>cases h2
   |_=>cases h1
  .cases h2
 .cases h
def Ii(h1:Ft.contains s=true)(h2:oF n=true)(g:Bd i):t7 (bY ([s,n],i))=true:=by
 show((decide (-1000000000<=i)&&decide (i<=1000000000))&&(Ft.contains s&&oF n))=true;rw[h1,h2,Ab g.1,Ab g.2]
 rfl
theorem JQ:∀{ts},(ts.map t7).all id=true->∃cs,ts=cs.map bY/\Sd cs
 |[],_=>⟨[],rfl,fun _ z=>nomatch z⟩
 |t::ts,h=>by
  rw[A5,DI,BF] at h;refine oQ (JQ h.2) fun cs e o=>Z4 (Ij h.1) fun s n i j o'=>⟨([s,n],i)::cs,by rw[e,j];rfl,fun c g=>?_⟩
  rcases Aj.1 g with rfl | g
  .lia
  .exact o c g
def uz(h:Sd cs):Ih (.tup (cs.map bY))=true:=by
 show((cs.map bY).map t7).all id=true;rw[BZ];intro b j;obtain⟨t,D,rfl⟩:=AM.1 j;obtain⟨c,q,rfl⟩:=AM.1 D;obtain⟨s,n,e,h1,h2,g⟩:=(h c q);obtain⟨F,G⟩:=c;cases e;exact Ii h1 h2 g
theorem mM:∀{cs},Sd cs->Zp (cs.map bY)=some (qm cs)
 |[],_=>rfl
 |c::cs,h=>by
  have q:=mM fun x j=>h x (AI _ j);obtain⟨s,n,e,_⟩:=(h c AE);obtain⟨D,g⟩:=c;cases e;show(match some ([Sum.inr s,Sum.inr n]:List Key),Zp (cs.map bY) with | some k,some ps=>some ((k,PV.int g)::ps) | _,_=>none)=_;rw[q]
  rfl
theorem tO[DecidableEq κ](g:κ->PV):∀ps acc,(∀p∈ps,p.2=g p.1)->∀k,jV (je acc ps) k=if k∈ps.map (·.1) then some (g k) else jV acc k
 |[],acc,_,k=>by rfl
 |p::ps,acc,h,k=>by
  show jV (je (iT acc p.1 p.2) ps) k=_;rw[tO g ps _ (fun x j=>h x (AI _ j)) k,Qw]
  by_cases e:k∈ps.map (·.1)
  .grind
  .grind
theorem Xi:∀ps acc,kj ps->kj acc->kj (je acc ps)
 |[],acc,_,h=>h
 |p::ps,acc,h,j=>Xi ps (iT acc p.1 p.2) (fun x g=>h x (AI _ g)) fun x g=>by
  rcases pC g with e | e
  .exact e▸h p AE
  .exact j x e
def Mx(h:Sd cs):kj (qm cs):=fun D q=>by
 obtain⟨c,j,rfl⟩:=AM.1 q;exact cT (h c j) fun _ _ _ _ _ g=>⟨c.2,rfl,g⟩
section
variable {A:iw}{rs:List Str}{cap:Nat}{x:Pt}
def J0: aT A bs fun R=>∀j∈R,∃s n,iL bs s n/\j=(qK s n,.int (hU A s n)):=fun R s n h q j g=>by
 delta iT at g
 split at g
 .grind
 .grind
def jB(g:jw rs cap x):∀j∈xB A x,∃s n,iL (x.first.map (·.1)) s n/\j=(qK s n,.int (hU A s n)) :=
 rJ J0 g.wk (gJ J0 g.ls fun _ z=>nomatch z)
def dG: c∈(oJ A x).reads↔c∈(xB A x).map Sx:=(rO _).mem_iff
def iV(q:jw rs cap x)(h:c∈(oJ A x).reads):∃s n,iL (x.first.map (·.1)) s n/\c=([s,n],hU A s n):=by
 obtain⟨j,g,rfl⟩:=AM.1 (dG.1 h);obtain⟨s,n,h1,rfl⟩:=jB q j g;exact⟨s,n,h1,rfl⟩
def nD(g:jw rs cap x)(q:kj A):Sd (oJ A x).reads:=fun c D=>by
 obtain⟨s,n,h1,rfl⟩:=iV g D;refine⟨s,n,rfl,?_,?_,(kH q s n).2⟩
 .rcases h1 with ⟨rfl | rfl,_⟩ | ⟨rfl,_⟩<;>decide +kernel
 .rcases h1 with ⟨_,h⟩ | ⟨_,h⟩
  .have j:∀m∈(["a","ab","b"]:List Str),oF m=true:=by decide +kernel
   exact j n h
  .obtain ⟨y,F,rfl⟩:=AM.1 h
   exact g.bn y F
def Vf(q:jw rs cap x):Ag A (je [] (qm (oJ A x).reads)) (xB A x):=fun s n g=>by
 obtain⟨G,j,e⟩:=(AM.1 g);obtain⟨s',I,_,rfl⟩:=jB q G j;cases e
 have v:=tO (fun k:List Key=>match k with | [.inr s,.inr n]=>PV.int (hU A s n) | _=>.non) (qm (oJ A x).reads) [] (fun p F=>by
  obtain⟨c,D,rfl⟩:=AM.1 F;obtain⟨s,n,_,rfl⟩:=iV q D
  rfl) (qK s n)
 have g:qK s n∈(qm (oJ A x).reads).map (·.1):=AM.2 ⟨(qK s n,.int (hU A s n)),AM.2 ⟨([s,n],hU A s n),dG.2 (AM.2 ⟨_,j,rfl⟩),rfl⟩,rfl⟩;rw[Ah g] at v;show _=(match jV (je [] (qm (oJ A x).reads)) (qK s n) with | some (.int i)=>i | _=>0);rw[v]
def Zs(g:jw rs cap x)(j:kj A):zM rs 6 (oJ A x).row:=WD g.ls ⟨j,(fun _ z=>nomatch z),(fun _ z=>nomatch z),by rw[AB];exact g.fl⟩ g.b8 (by have:=g.tw;lia)
def pO(g:jw rs cap x)(j:kj A):(oJ A x).reads.length<=10:=by
 have h1:=(rO ((xB A x).map Sx)).length_eq;have h2:jq (x.first.map (·.1)) (xB A x):=rJ (dJ j) g.wk (gJ (dJ j) g.ls ⟨Cd,(fun _ z=>nomatch z),(fun _ z=>nomatch z)⟩);have q:=h2.len;have D:=g.fl;rw[AB] at h1 q;show(Vg _).length<=_
 lia
def Hi(g:jw rs cap x)(q:kj A):pw (oJ A x).pv<=1000000:=by
 have h1:=pO g q
 have h2:=rF (f:=bY) (c:=5) (l:=(oJ A x).reads) fun c I=>by
  obtain⟨s,n,_,rfl⟩:=iV g I
  delta bY
  simp[pw,iy]
 have S:iy (Wt.ig (oJ A x).row)<=105 * Wt.jy (oJ A x).row:=by
  have F:∀r:List Wt,(∀y∈r,ju rs 6 y)->iy (Wt.ig r)<=105 * Wt.jy r:=by
   intro r
   induction r with
   |nil=>intro _;rw[Wt.ig,iy];exact AX _
   |cons y r M =>
    intro D;have N:=M fun z J=>D z (AI _ J);have O:=Oi 6 y (D y AE);rw[Wt.ig,iy,Wt.jy]
    lia
  exact F _ (Zs g q).1
 have j:=dW A x.ls [] ([],[],[]);have j:Wt.jy (oJ A x).row<=0+Ln.il x.ls:=j;have U:=g.tw;have G:=bC (oJ A x).works;have Y:(oJ A x).works.length<=4:=by show(mJ A [] x.works).length<=4;delta mJ;rw[AB];exact g.wl
 rw[bP] at G
 delta Pc.pv
 simp only[pw,iy]
 lia
end
section
variable {W:Wd}{a:Adr}
def Pg(x:PV):Prop:=∀ts y z,x=.tup [.tup ts,y,z]->ts.length<=sizeLine/\∀t∈ts,Sg t
def Tg{α:Type}x y z u(r:List α)k(h:k=3):(!decide (((x::y::z::u::r).length:Int)=k))=true :=by grind
inductive gLp(ts:List PV)(C:CH)(Q:K1):Prop
 |mk(pt:Pt)(x:PV)(rs:List Str)(cap:Nat)(z0:ts=[pt.pv,x])(z1:jw rs cap pt)(z2:Th C x)(z3:Pg x)(z4:∀b C',(b=true↔∃A,kj A/\x=(oJ A pt).pv)->Gr C C'->Q (.bl b) C')
def kT(T:Tx W a):Ok W a 30 11 ["part","piece"] gLp:=by
 have S:=(T.F 11 rfl).s;have X1:=(nA T).mono (show 3<=29 by decide);have Qs:=(Q9 T).mono (show 3<=29 by decide);have Qq:=Q4 T
 refine(T.F 11 rfl).o (fun j=>(xQ (nQ (gm (jj (rW (oZ (iQ vX cZ rfl T.aQ rfl (qQ (cv 1) (dw (mV rfl T.sX rfl)))))) (jj (ct2 jL mU (j9 T.lZ (cv 1)) zQ) (jh (rW (oZ (cf (T.F 12 rfl) X1 j (dw (cx (cv 1) zQ))))))))) (kQ (wQ aG)) lQ)
  (kQ (wQ (cf (T.F 3 rfl) Qs j (qQ (cv 1) (dw (cf (T.F 10 rfl) Qq j (qQ (cv 0) (dw (mZ (Je rfl (dB j)) VW rfl T.aN rfl (dw (cx (cv 1) zQ))))))))))))) ?_
 rintro ts C R ⟨ab,x,rs,cap,rfl,F,hx,Y,q⟩;have D:∀C',(∀A,kj A->x≠(oJ A ab).pv)->Gr C C'->R (.bl false) C':=fun C' h g=>q false C' ⟨(fun z=>nomatch z),fun M=>oQ M fun A k e=> (h A k e).elim⟩ g
 cases hx with
 |@tup ts Z =>
  refine qZ rfl rfl (iH (nU (qX (mX _ _) ?_)))
  rcases ts with _ | ⟨r,_ | ⟨y,_ | ⟨z,_ | ⟨u,l⟩⟩⟩⟩
  .exact fZ rfl (D C (fun A _ e=>nomatch PV.tup.inj e) Gr.refl)
  .exact fZ rfl (D C (fun A _ e=>nomatch PV.tup.inj e) Gr.refl)
  .exact fZ rfl (D C (fun A _ e=>nomatch PV.tup.inj e) Gr.refl)
  .refine aX rfl (rX rfl ⟨r,rfl,Z r AE,fun ts e=>Y ts y z (by rw[e]),fun C1 U=>?_⟩)
   cases j:Ih r with
   |false =>
    refine pK (D C1 (fun A G e=>?_) U);have e0:=PV.tup.inj e;injection e0 with I _
    rw[I,uz (nD F G)] at j;cases j
   |true =>
    refine iH (zX ?_)
    cases r with
    |tup ts =>
     obtain⟨cs,rfl,J⟩:=JQ j;refine rX rfl (zc (mM J) ?_ fun d ah=>?_)
     .delta qm
      rw[AB];have:=(Y _ y z rfl).1
      rwa [AB] at this
     have G:kj (je [] (qm cs)):=Xi _ _ (Mx J) fun _ z=>nomatch z;refine⟨ab,d,_,rs,cap,rfl,F,jQ,G,fun C2 ae=>?_⟩;have O:=(U.trans (Gr.new ah _)).trans ae;refine⟨_,_,rfl,(Th.tup Z).gr O,Pn.of (Hj (Zs F G)),Hi F G,fun b C3 hb af=>q b C3 ?_ (O.trans af)⟩;rw[hb];refine⟨fun e=>⟨_,G,e⟩,fun M=>oQ M fun A ag e=> ?_⟩;injection (PV.tup.inj e) with I _
     have N:=mM J;rw[(PV.tup.inj I),mM (nD F ag)] at N;rw[e,(Hk F (Vf F)).1,Au N]
    |_=>cases j
  .exact fZ (Tg _ _ _ _ _ _ rfl) (D C (fun A _ e=>nomatch PV.tup.inj e) Gr.refl)
 |lst h=>exact qZ rfl h (pK (D C (fun A _ e=>nomatch e) Gr.refl))
 |dct h=>exact qZ rfl h (pK (D C (fun A _ e=>nomatch e) Gr.refl))
 |_=>exact qZ rfl rfl (pK (D C (fun A _ e=>nomatch e) Gr.refl))
end
theorem yC:∀L A,(aV L A).length<=A.length+(L.map fun e=>e.2.length).sum
 |[],A=>AH _
 |e::L,A=>by
  have h1:=yC L (yJ e.1 e.2 A);have h2:=vV (s:=e.1) e.2 A;show(aV L (yJ e.1 e.2 A)).length<=_;rw[A5,List.sum_cons]
  lia
section
variable {W:Wd}{a:Adr}
inductive gPo(ts:List PV)(C:CH)(Q:K1):Prop
 |mk(pts:List Pt)(x:Pt)(z0:ts=[.tup (pts.map Pt.pv),.str x.name])(z1:(fJ pts).Nodup)(z2:x∈pts)(z3:Q x.pv C)
def zR(T:Tx W a):Ok W a 1 9 ["house","name"] gPo:=by
 refine(T.F 9 rfl).o (fun Y=>(xQ (jG PassesOwn.never rfl (cv 0) (j7 2 ((T.F 9 rfl).s).nd) (kQ (nQ (ct2 wX sQ (cx (cv 2) zQ) (cv 1)) (kQ (wQ (cv 2))) lQ)))
  (kQ (wQ kK)))) ?_
 rintro ts C R ⟨I,x,rfl,S,N,q⟩;refine dZ (aF rfl ?_);refine wJ (fun zs M C'=>C'=C/\∃g vs J,I=g++vs/\zs=vs.map Pt.pv/\(∀u∈g,u.name≠x.name)/\M=[some (.tup (I.map Pt.pv)),some (.str x.name),J]) ?_ ?_ _ _ _ ⟨rfl,[],I,_,rfl,rfl,(fun _ z=>nomatch z),rfl⟩
 .rintro z zs M C' ⟨rfl,g,vs,J,e,F,G,rfl⟩ L U
  cases vs with
  |nil=>cases F
  |cons v vs =>
  obtain⟨rfl,rfl⟩:=BO F;refine rX rfl (qX (pQ _ _) (vZ (fun j=>?_) fun j=>?_))
  .have j:=AZ j
   have O:=yN S (e▸AV _ AE) j;rw[yN S N rfl] at O;rw[O] at q;exact q
  .refine zX (U _ _ ⟨rfl,g++[v],vs,_,by rw[Ad];exact e,rfl,fun u D=>?_,rfl⟩)
   rcases Ae.1 D with D | D
   .exact G u D
   .grind
 .rintro M C' ⟨rfl,g,vs,J,e,F,G,rfl⟩
  cases vs with
  |cons v vs=>cases F
  |nil =>
  rw[Ai] at e;subst e;exact absurd rfl (G x N)
inductive gBx(ts:List PV)(C:CH)(Q:K1):Prop
 |mk(y:Pt)(vv:Addr)(V:Vl)(p:mK)(z0:ts=[y.pv,.ref vv,tX p])(z1:C vv=some (.dP (nu V)))(z2:Q (.tup ((jZ V y p).map dQ)) C)
def Q6(T:Tx W a):Ok W a 1 20 ["part","values","path"] gBx:=by
 refine(T.F 20 rfl).o (fun j=>(xQ (fu 3 ((T.F 20 rfl).s).nd (M4 DK Bv PySem.F.type_dict_get (xm (dB j)) GG (cv 1) (dw (cv 2))))
  (xQ (nQ (gm (jj (ct2 aC fL (cv 3) kK) (jh (ct2 jL mU (cx (cv 3) zQ) (cx (cv 0) zQ))))) (kQ (wQ (cx (cv 0) zQ))) lQ)
  (kQ (wQ (cx (cv 3) zQ)))))) ?_
 rintro ts C R ⟨y,D,V,p,rfl,g,q⟩;refine uQ ⟨⟨D,_,rfl,g⟩,Mj g (zB p) ?_⟩;rw[xA]
 delta jZ at q
 cases e:lH V p with
 |none =>
  rw[e] at q
  apply dZ
  delta GZ RK
  refine qB (x:=.non) ?_ ?_
  .rfl
  exact ZX rfl (rX rfl q)
 |some v =>
  rw[e] at q;dsimp only at q
  apply dZ
  delta GZ RK
  refine qB (x:=q8 v) ?_ ?_
  .rfl
  refine yG rfl (rX jX (rX jX (qX (pQ _ _) ?_)))
  by_cases h:v.1=y.name
  .rw [Ah h] at q
   apply aX (by lia)
   exact zX (rX rfl q)
  .rw [Af h] at q
   apply fZ (by lia)
   exact rX rfl q
inductive gAt(ts:List PV)(C:CH)(Q:K1):Prop
 |mk(x:jk)(bx:List (Str×Int))(z0:ts=[.tup (x.gives.map dQ),.tup (x.downs.map dQ),.tup (bx.map dQ)])(z1:x.gives.length+x.downs.length+bx.length<=100)(z2:∀aa C',C aa=none->C' aa=some (.dT (cW x bx))->Gr C C'->Q (.ref aa) C')
def yT(T:Tx W a):Ok W a 1 19 ["gives","downs","boxes"] gAt:=by
 have S:=(T.F 19 rfl).s
 refine(T.F 19 rfl).ok (fun ts C R h=>?_) fun ag A ah s H E hr=>⟨_,(xQ (fu 3 S.nd sI)
  (xQ (jG PassesOwn.never rfl (cQ (qQ (cQ (qQ vQ (dw (cv 0)))) (qQ (cQ (qQ vQ (dw (cv 1)))) (dw (cQ (qQ vQ (dw (cv 2)))))))) (oB rfl (nX (j7 4 S.nd) (nX (j7 5 S.nd) kG))) (kQ (jG PassesOwn.never rfl (cv 5) (oB rfl (nX (j7 6 S.nd) (nX (j7 7 S.nd) kG))) (kQ (fI (xZ hr) (cv 3) (cQ (qQ (cv 4) (dw (cv 6)))) (cv 7))))))
  (kQ (wQ (cv 3))))),?_⟩
 .obtain ⟨_,_,rfl,_⟩:=h;rfl
 rintro ts C R ⟨x,D,rfl,hl,q⟩
 apply uQ
 intro aa Z;have hs:((vF x D).map fun e=>e.2.length).sum<=100:=by show x.gives.length+(x.downs.length+(D.length+0))<=100;lia
 refine tQ (fun ab C'=>∃J M F G,ab=[some (.tup (x.gives.map dQ)),some (.tup (x.downs.map dQ)),some (.tup (D.map dQ)),some (.ref aa),J,M,F,G]/\C' aa=some (.dT (cW x D))/\Gr C C') (fun L hL=>?_) ?_
 .refine Mq ⟨ie 2 rfl,?_⟩
  refine⟨ie 2 rfl,?_⟩;refine⟨ie 2 rfl,?_⟩;refine⟨ie 3 rfl,?_⟩;refine wJ (fun zs I C'=>∃(j vs:List (Str×List (Str×Int)))(J M F G:Option PV),vF x D=j++vs/\zs=vs.map ut/\I=[some (.tup (x.gives.map dQ)),some (.tup (x.downs.map dQ)),some (.tup (D.map dQ)),some (.ref aa),J,M,F,G]/\C' aa=some (.dT (aV j []))/\Gr C C') ?_ ?_ _ _ _ ⟨[],vF x D,_,_,_,_,rfl,rfl,rfl,jQ,Gr.new Z _⟩
  .rintro z zs I U ⟨j,vs,J,M,F,G,e,g,rfl,O,N⟩ L1 ae
   cases vs with
   |nil=>cases g
   |cons v vs =>
   obtain⟨rfl,rfl⟩:=BO g;refine⟨rfl,yZ (yZ (lB ?_))⟩
   apply aF rfl
   have hu:=yC j [];rw[e,AS,List.sum_append,A5,List.sum_cons] at hs;have hu:(aV j []).length<=0+_:=hu;refine wJ (fun zs I C'=>∃(ps qs:List (Str×Int))(F G:Option PV),v.2=ps++qs/\zs=qs.map dQ/\I=[some (.tup (x.gives.map dQ)),some (.tup (x.downs.map dQ)),some (.tup (D.map dQ)),some (.ref aa),some (.str v.1),some (.tup (v.2.map dQ)),F,G]/\C' aa=some (.dT (yJ v.1 ps (aV j [])))/\Gr C C') ?_ ?_ _ _ _ ⟨[],v.2,_,_,rfl,rfl,rfl,O,N⟩
   .rintro z zs I C4 ⟨ps,qs,y6,y7,ep,g,rfl,m4,Y⟩ L2 af
    cases qs with
    |nil=>cases g
    |cons c qs =>
    obtain⟨rfl,rfl⟩:=BO g;refine⟨rfl,yZ (yZ (lB ⟨ie 2 rfl,?_⟩))⟩;have hp:=vV (s:=v.1) ps (aV j []);have hv:=Bz List.length ep;rw[AJ] at hv
    apply Zb m4 rfl (by lia)
    refine af _ _ ⟨ps++[c],qs,_,_,by rw[Ad];exact ep,rfl,rfl,?_,uG Y Z _⟩;rw[jQ]
    delta yJ
    rw[BR]
    rfl
   .rintro I C4 ⟨ps,qs,y6,y7,ep,g,rfl,m4,Y⟩
    cases qs with
    |cons c qs=>cases g
    |nil =>
    rw[Ai] at ep;refine ae _ _ ⟨j++[v],vs,_,_,_,_,by rw[Ad];exact e,rfl,rfl,?_,Y⟩;rw[m4,<- ep]
    delta aV
    rw[BR]
    rfl
  .rintro I U ⟨j,vs,J,M,F,G,e,g,rfl,O,N⟩
   cases vs with
   |cons v vs=>cases g
   |nil =>
   rw[Ai] at e;exact hL _ _ ⟨_,_,_,_,rfl,by rw[O,<- e];rfl,N⟩
 rintro ab U ⟨J,M,F,G,rfl,O,N⟩;exact q aa U Z O N
end
def Wx(e:x=.tup xs)(h:¬ (HT.sIx xs.length 0 lo=0/\HT.sIx xs.length xs.length hi=xs.length))(q:Q (.tup (iF xs lo hi)) C):Ei x lo hi C Q:=by
 subst e
 delta Ei
 exact⟨h,q⟩
def R5{cap}(g:jw rs cap y)(M:kj A)(N:kj B)(e:(oJ A y).pv=(oJ B y).pv):Ag A B (xB A y):=fun s n U=>by
 injection (PV.tup.inj e) with F _
 have q:=mM (nD g M);rw[PV.tup.inj F,mM (nD g N)] at q;obtain⟨Y,D,J⟩:=(AM.1 U);obtain⟨s',Z,_,rfl⟩:=jB g Y D;cases J;have S:(qK s n,PV.int (hU A s n))∈qm (oJ B y).reads :=(Au q)▸AM.2 ⟨([s,n],hU A s n),dG.2 (AM.2 ⟨_,D,rfl⟩),rfl⟩;obtain⟨c,O,I⟩:=(AM.1 S);obtain⟨s',Z,_,rfl⟩:=iV g O;injection I with G j
 cases G;injection j with j
 exact j.symm
section
variable {W:Wd}{a:Adr}
inductive gAd(ts:List PV)(C:CH)(Q:K1):Prop
 |mk(pts:List Pt)(vv:Addr)(V:Vl)(x:jk)(y:Pt)(z0:ts=[.tup (pts.map Pt.pv),.ref vv,x.pv])(z1:(fJ pts).Nodup)(z2:y∈pts)(z3:y.name=x.name)(z4:C vv=some (.dP (nu V)))(z5:x.gives.length+x.downs.length+(jZ V y x.path).length<=100)(z6:∀aa C',C aa=none->C' aa=some (.dT (cW x (jZ V y x.path)))->Gr C C'->Q (.ref aa) C')
def xR(T:Tx W a):Ok W a 2 21 ["house","values","due"] gAd:=by
 have U:=zR T;have D:=Q6 T;have F:=yT T
 refine(T.F 21 rfl).o (fun j=>(xQ (fu 3 ((T.F 21 rfl).s).nd (cf (T.F 20 rfl) D j (qQ (cf (T.F 9 rfl) U j (qQ (cv 0) (dw (cx (cv 2) zQ)))) (qQ (cv 1) (dw (cx (cv 2) zQ))))))
  (kQ (wQ (cf (T.F 19 rfl) F j (qQ (cx (cv 2) zQ) (qQ (cx (cv 2) zQ) (dw (cv 3))))))))) ?_
 rintro ts C R ⟨O,S,V,x,y,rfl,N,M,I,J,G,q⟩;have g:x.pv=.tup [tX x.path,.str x.name,.tup (x.gives.map dQ),.tup (x.downs.map dQ)]:=rfl;refine uQ (cX g rfl ⟨O,y,by rw[I],N,M,?_⟩);exact cX g rfl ⟨y,S,V,x.path,rfl,J,cX g rfl (cX g rfl ⟨x,jZ V y x.path,rfl,G,q⟩)⟩
inductive gAw(ts:List PV)(C:CH)(Q:K1):Prop
 |mk(A B:iw)(y:Pt)(rs:List Str)(cap:Nat)(aa:Addr)(z0:ts=[(oJ A y).pv,.ref aa])(z1:jw rs cap y)(z2:kj A)(z3:kj B)(z4:C aa=some (.dT B))(z5:∀b C',(b=true↔Ag A B (xB A y))->Gr C C'->Q (.bl b) C')
def Q8(T:Tx W a):Ok W a 1 22 ["piece","answers"] gAw:=by
 have S:=(T.F 22 rfl).s;refine(T.F 22 rfl).o (fun Z=>(kQ (wQ (iQ (sL rfl) lN rfl T.Jy rfl (dw (sV rfl (S.c (by decide +kernel)) (S.k rfl rfl rfl (by decide +kernel)) (jD (cx (cv 0) zQ)) (fun _ _ _ _ _=>xK) (fun _ _ _ _ _=>(oK wX sQ (XQ (xZ Z) (cv 2) (cx (cv 0) zQ) zQ) (cx (cv 0) zQ) (wV _))))))))) ?_;rintro ts C R ⟨A,B,y,rs,cap,aa,rfl,F,M,N,ma,q⟩
 apply rX (xs:=[.tup ((oJ A y).reads.map bY),.tup (Wt.ig (oJ A y).row),.tup ((oJ A y).works.map dQ)]) (v:=.tup ((oJ A y).reads.map bY)) rfl
 have ab:=pO F M;refine cL (fun t=>match t with | .tup [.tup [.str s,.str n],.int i]=>.bl (decide (hU B s n=i)) | _=>.non) ((oJ A y).reads.map bY) [] C Gr.refl (yW (by rw[CV,AB];lia)) (fun t ht C1 Q' g Y=>?_) fun p C1 h3 g m=>?_
 .obtain ⟨c,j,rfl⟩:=AM.1 ht
  obtain⟨s,n,_,rfl⟩:=iV F j;have I:=g _ _ ma;exact⟨YR I,rX rfl (Wp I rfl (kH N s n).1 (rX rfl (qX (mX _ _) (Y C1 Gr.refl))))⟩
 .refine KU (bs:=(oJ A y).reads.map fun c=>decide (hU B (c.1.getD 0 "") (c.1.getD 1 "")=c.2)) (by
   rw[m,Ct,A8,A8]
   congr 2
   refine CM fun c j=>?_;obtain⟨s,n,_,rfl⟩:=iV F j
   rfl) ?_
  refine q _ C1 ?_ g;rw[BZ];refine⟨fun h s n U=>?_,fun h b O=>?_⟩
  .obtain ⟨G,D,J⟩:=(AM.1 U)
   obtain⟨s',n',_,rfl⟩:=jB F G D;cases J;have:=h _ (AM.2 ⟨([s,n],hU A s n),dG.2 (AM.2 ⟨_,D,rfl⟩),rfl⟩);exact(AZ this).symm
  .obtain ⟨c,j,rfl⟩:=AM.1 O
   obtain⟨G,D,rfl⟩:=AM.1 (dG.1 j);obtain⟨s,n,_,rfl⟩:=jB F G D;exact Ab (h s n (AM.2 ⟨_,D,rfl⟩)).symm
def Rn:Option jk->PV
 |some x=>x.pv
 |none=>.non
def Eg(x:PV):Prop:=∀a b c d p,x=.tup [a,b,c,d,p]->Pg p
inductive gLd(ts:List PV)(C:CH)(Q:K1):Prop
 |mk(pts:List Pt)(vv:Addr)(V:Vl)(du:Option jk)(x:PV)(z0:ts=[.tup (pts.map Pt.pv),.ref vv,Rn du,x])(z1:jM pts)(z2:lz V)(z3:C vv=some (.dP (nu V)))(z4:(∀d,du=some d->(∃k,yD pts k d)/\pw d.pv<=1000000))(z5:Th C x)(z6:Eg x)(z7:∀b C',(b=true↔∃d,du=some d/\x=(En.mk d (uW pts V d)).pv)->Gr C C'->Q (.bl b) C')
def Tf{α:Type}x y z u v t(r:List α)k(h:k=5):(!decide (((x::y::z::u::v::t::r).length:Int)=k))=true :=by grind[decide_eq_false,List.length_cons]
def Q0(T:Tx W a):Ok W a 31 24 ["house","values","due","entry"] gLd:=by
 have S:=(T.F 24 rfl).s;have Qs:=(Q9 T).mono (show 3<=30 by decide);have wH:=(zR T).mono (show 1<=30 by decide);have Qp:=kT T;have zO:=(xR T).mono (show 2<=30 by decide);have Jt:=(Q8 T).mono (show 1<=30 by decide)
 refine(T.F 24 rfl).o (fun G=>(xQ (nQ (gm (jj (ct2 aC fL (cv 2) kK) (jj (rW (oZ (iQ vX cZ rfl T.aQ rfl (qQ (cv 3) (dw (mV rfl T.sX rfl)))))) (jh (ct2 jL mU (j9 T.lZ (cv 3)) zQ))))) (kQ (wQ aG)) lQ)
  (xQ (nQ (gm (jj (rW (oZ (cf (T.F 3 rfl) Qs G (qQ (GJ (cv 3) nV (rV zQ)) (dw (cv 2)))))) (jh (rW (oZ (cf (T.F 11 rfl) Qp G (qQ (cf (T.F 9 rfl) wH G (qQ (cv 0) (dw (cx (cv 2) zQ)))) (dw (cx (cv 3) zQ))))))))) (kQ (wQ aG)) lQ)
  (kQ (wQ (cf (T.F 22 rfl) Jt G (qQ (cx (cv 3) zQ) (dw (cf (T.F 21 rfl) zO G (qQ (cv 0) (qQ (cv 1) (dw (cv 2))))))))))))) ?_
 rintro ts C R ⟨I,vv,V,du,x,rfl,hs,hV,hv,ao,hx,hg,q⟩;have D:∀C',(∀d,du=some d->x≠(En.mk d (uW I V d)).pv)->Gr C C'->R (.bl false) C':=fun C' h g=>q false C' ⟨(fun z=>nomatch z),fun zz=>oQ zz fun d k e=> (h d k e).elim⟩ g
 cases du with
 |none =>
  refine dZ ?_
  delta GZ RK
  refine qB (x:=.non) ?_ ?_
  .rfl
  refine ZX rfl ?_;exact D C (fun d e=>nomatch e) Gr.refl
 |some d =>
 obtain⟨⟨k,M⟩,ar⟩:=ao d rfl;obtain⟨y,j⟩:=XX hs hV M
 have au:k < I.length:=by
  have:=(AU.1 M.nm).1;unfold fJ at this;rw[AB] at this;exact this
 have h6:=hs.n6;have hb:=lS hV j.ok d.path;have ab:uW I V d=oJ (cW d (jZ V y d.path)) y:=by delta uW;rw[j.is]
 have aq:d.pv=.tup [tX d.path,.str d.name,.tup (d.gives.map dQ),.tup (d.downs.map dQ)]:=rfl;refine dZ ?_
 delta GZ RK
 refine qB (x:=d.pv) ?_ ?_
 .rfl
 refine yG rfl ?_
 cases hx with
 |@tup ts ah =>
  refine qZ rfl rfl (iH ?_);refine nU ?_;refine qX (mX _ _) ?_
  rcases ts with _ | ⟨ai,_ | ⟨x1,_ | ⟨x2,_ | ⟨x3,_ | ⟨J,_ | ⟨x5,l⟩⟩⟩⟩⟩⟩
  .exact fZ rfl (D C (fun d _ e=>nomatch PV.tup.inj e) Gr.refl)
  .exact fZ rfl (D C (fun d _ e=>nomatch PV.tup.inj e) Gr.refl)
  .exact fZ rfl (D C (fun d _ e=>nomatch PV.tup.inj e) Gr.refl)
  .exact fZ rfl (D C (fun d _ e=>nomatch PV.tup.inj e) Gr.refl)
  .exact fZ rfl (D C (fun d _ e=>nomatch PV.tup.inj e) Gr.refl)
  .refine aX rfl (zX ?_)
   have O:∀af:Pc,PV.tup [ai,x1,x2,x3,J]=(En.mk d af).pv↔PV.tup [ai,x1,x2,x3]=d.pv/\J=af.pv:=by
    intro af
    constructor
    .intro e
     have U:=PV.tup.inj e;cases U;exact⟨rfl,rfl⟩
    .rintro ⟨e,rfl⟩
     have U:=PV.tup.inj e;cases U
     rfl
   refine Wx rfl (by show ¬ (0=0/\4=5);decide) ?_;refine⟨_,d.pv,rfl,Th.tup fun t ht=>ah t ?_,Pn.of (Iv d),ar,fun b1 C1 N F=>?_⟩
   .have ht:=ht
    exact Aw [J] ht
   have N:=N
   cases b1 with
   |false =>
    refine pK (D C1 (fun d' Y e=>?_) F);cases Y;exact nomatch N.2 ((O _).1 e).1
   |true =>
    have Y:=N.1 rfl;refine iH ?_;refine cX aq rfl ?_;refine⟨I,y,by rw[j.nm],hs.nd,j.mem,?_⟩;refine rX rfl ?_;refine⟨y,J,_,_,rfl,j.ok,(ah J (by simp)).gr F,hg _ _ _ _ _ rfl,fun b2 C2 ag ae=>?_⟩
    cases b2 with
    |false =>
     refine pK (D C2 (fun d' Z e=>?_) (F.trans ae));cases Z;exact nomatch ag.2 ⟨_,j.ab,by rw[<- ab];exact((O _).1 e).2⟩
    |true =>
     obtain⟨B,hB,rfl⟩:=ag.1 rfl;refine iH (zX ?_);refine rX rfl ?_;have:=M.gl;have:=M.dl;refine⟨I,vv,V,d,y,rfl,hs.nd,j.mem,j.nm,(F.trans ae) _ _ hv,by lia,fun aa C3 _ m3 aj=>?_⟩;refine⟨B,_,y,_,_,aa,rfl,j.ok,hB,j.ab,m3,fun b3 C4 ak g4=>?_⟩;refine q b3 C4 ?_ (((F.trans ae).trans aj).trans g4);rw[ak];refine⟨fun h=>⟨d,rfl,(O _).2 ⟨Y,by rw[ab,(Hk j.ok h).1]⟩⟩,fun zz=>oQ zz fun d' Z e=> ?_⟩
     cases Z;exact R5 j.ok hB j.ab (by rw[<- ab];exact((O _).1 e).2)
  .exact fZ (Tf _ _ _ _ _ _ _ _ rfl) (D C (fun d _ e=>nomatch PV.tup.inj e) Gr.refl)
 |lst h=>exact qZ rfl h (pK (D C (fun d _ e=>nomatch e) Gr.refl))
 |dct h=>exact qZ rfl h (pK (D C (fun d _ e=>nomatch e) Gr.refl))
 |_=>exact qZ rfl rfl (pK (D C (fun d _ e=>nomatch e) Gr.refl))
end
def qy(p:mK):Prop:=∀sp∈p,uv sp
def qy.app(h:qy p)(k:qy q):qy (p++q):=fun sp hs=>by
 rcases Ae.1 hs with hs | hs
 .exact h sp hs
 .exact k sp hs
def qy.one(h:uv sp):qy [sp]:=fun x g=>by cases AF.1 g;exact h
def vg: ∀d r s ds,(∀x∈r,ju rs d x)->qy s->∀x∈Wt.fj r s ds,qy x.path:=by
 intro d
 induction d with
 |zero =>
  intro r s ds D hs x j
  cases r with
  |nil=>exact nomatch j
  |cons y r=>exact(D y AE).elim
 |succ d G =>
  intro r s ds D hs
  induction r with
  |nil=>intro x j;exact nomatch j
  |cons y r J =>
   intro x j;have q:=D y AE
   rcases Ae.1 j with j | j
   .cases y with
    |part sp n g=>cases AF.1 j;exact hs.app (qy.one q.1)
    |give sp n i F=>exact G F _ _ q.2.2.1 (hs.app (qy.one q.1)) x j
    |plain sp N ss M F=>exact G F _ _ q.2.2.1 (hs.app (qy.one q.1)) x j
   .exact J (fun z I=>D z (AI _ I)) x j
def Ro(hs:jM G){V}(J:lz V):∀n k x,yD G k x->qy x.path->∀e∈dr G V n x,qy e.x.path:=by
 intro n
 induction n with
 |zero=>intro k x _ _ e g;exact nomatch g
 |succ n M =>
  intro k x h F e g
  rcases Aj.1 g with rfl | g
  .exact F
  .refine oQ (List.mem_flatMap.1 g) fun q D g=>?_
   obtain⟨y,j⟩:=XX hs J h;exact hZ (nB h j D) fun N _ I _=>M N _ I (F.app (vg 6 _ [] [] j.row.1 (fun _ z=>nomatch z) q D)) e g
def sP(hs:jM j){V}(q:lz V)(D:e∈rQ j V):(∃k,yD j k e.x)/\e=⟨e.x,uW j V e.x⟩/\pw e.x.pv<=1000000/\qy e.x.path:=by
 refine oQ (Gq hs q 6 0 _ (aW hs) e D) fun k g ep=>?_;have F:=Ro hs q 6 0 _ (aW hs) (fun _ z=>nomatch z) e D;have J:=hs.n6
 have M:k < j.length:=by
  have:=(AU.1 g.nm).1;unfold fJ at this
  rwa [AB] at this
 refine⟨⟨k,g⟩,?_,?_,F⟩
 .rw [<- ep]
 .have h1:=rF (f:=pV) (c:=3) fun sp I=>by
   have:=JZ sp;have:=(F sp I).l
   lia
  have h2:=bC e.x.gives;have G:=bC e.x.downs;have:=g.pl;have:=g.gl;have:=g.dl;rw[bP] at h2 G
  delta jk.pv tX
  simp only[pw,iy]
  lia
inductive Lf:PV->Prop
 |non:Lf .non
 |bl (b:Bool):Lf (.bl b)
 |int {i:Int} (h:Bd i):Lf (.int i)
 |str {z:Str} (h:z.length<=8):Lf (.str z)
 |tup {ts:List PV} (h:∀t∈ts,Lf t):Lf (.tup ts)
theorem dY:∀t∈([]:List PV),Lf t:=fun _ z=>nomatch z
theorem kX(h:Lf x)(k:∀t∈ts,Lf t):∀t∈x::ts,Lf t :=by grind
theorem fB{α:Type}{f}{l:List α}(h:∀x∈l,Lf (f x)):∀t∈l.map f,Lf t :=by grind
theorem Kd(h:uv sp):Lf (pV sp):=by
 obtain⟨k,c,rfl,g,h0,h1⟩:=h;refine .tup (kX ?_ (kX (.int ⟨by lia,by lia⟩) dY))
 rcases k with (_ | i) | z
 .exact .non
 .exact .int g
 .exact g.elim
theorem yR(h:q9 cs):Lf (.tup (cs.map dQ)):=.tup (fB fun c g=>.tup (kX (.str (h c g).2) (kX (.int (h c g).1) dY)))
theorem O5(h:HvB x):Lf x.pv:=.tup (kX (.str h.1) (kX (.int ⟨by have:=h.2.1.1;lia,by have:=h.2.1.2;lia⟩) (kX (.bl _) (kX (.tup (fB fun c g=>.tup (kX (.str (h.2.2 c g).1) (kX (.str (h.2.2 c g).2.1) (kX (.int (h.2.2 c g).2.2) dY))))) dY))))
def w8(h:z∈(["plain","part","give","take","down","box"]:List Str)):Lf (.str z):=.str ((by decide +kernel:∀s∈(["plain","part","give","take","down","box"]:List Str),s.length<=8) z h)
def O3(I:∀s∈rs,s.length<=8):∀d x,ju rs d x->Lf x.pv:=by
 intro d
 induction d with
 |zero=>intro x h;exact h.elim
 |succ d F =>
  intro x h
  cases x with
  |plain sp J ss hs r =>
   obtain⟨h1,⟨_,_,_,h2,q,G⟩,D,_⟩:=h;rw[Wt.pv,Wt.jf];exact .tup (kX (w8 (by simp)) (kX (Kd h1) (kX (.str h2) (kX (yR q) (kX (.tup (fB fun y j=>O5 (G y j))) (kX (.tup (fB fun y j=>F y (D y j))) dY))))))
  |part sp n g =>
   exact VJ h fun h1 h2 _ q=>.tup (kX (w8 (by simp)) (kX (Kd h1) (kX (.str (I n h2)) (kX (yR q) dY))))
  |give sp n i r =>
   obtain⟨h1,h2,D,_⟩:=h;rw[Wt.pv,Wt.jf];exact .tup (kX (w8 (by simp)) (kX (Kd h1) (kX (.str h2.2) (kX (.int h2.1) (kX (.tup (fB fun y j=>F y (D y j))) dY)))))
def O4{cap}(G:∀s∈rs,s.length<=8)(g:jw rs cap y)(j:kj A):Lf (oJ A y).pv:=by
 refine .tup (kX (.tup (fB fun c q=>?_)) (kX (.tup ?_) (kX (yR fun c q=>?_) dY)))
 .obtain ⟨s,n,F,rfl⟩:=iV g q
  refine .tup (kX (.tup (kX ?_ (kX ?_ dY))) (kX (.int (kH j s n).2) dY))
  .rcases F with ⟨rfl | rfl,_⟩ | ⟨rfl,_⟩<;>exact w8 (by simp)
  .rcases F with ⟨_,h⟩ | ⟨_,h⟩
   .exact .str ((by decide +kernel:∀s∈(["a","ab","b"]:List Str),s.length<=8) n h)
   .exact .str (g.b8 n h)
 .rw [Wt.jf]
  exact fB fun w I=>O3 G 6 w ((Zs g j).1 w I)
 .obtain ⟨p,D,rfl⟩:=AM.1 q
  exact⟨eU j (τ:=[]) (fun _ z=>nomatch z) (ts:=[]) (fun _ z=>nomatch z) (g.wk p D).1,(g.wk p D).2⟩
def Hr(hs:jM q){V}(D:lz V)(I:e∈rQ q V):Lf e.pv/\Pl 20 e.pv/\pw e.pv<=3000000:=by
 obtain⟨⟨k,j⟩,F,h1,h2⟩:=sP hs D I;obtain⟨y,g⟩:=XX hs D j;have G:uW q V e.x=oJ (cW e.x (jZ V y e.x.path)) y:=by delta uW;rw[g.is]
 have M:=Hi g.ok g.ab;rw[F];refine⟨.tup (kX (.tup (fB fun sp J=>Kd (h2 sp J))) (kX (.str (hs.nn _ (Ac j.nm))) (kX (yR j.gb) (kX (yR j.db) (kX ?_ dY))))),Rf g.row,?_⟩
 .exact G▸O4 (fun s z=>hs.nn s (Dk z)) g.ok g.ab
 .show pw (.tup [tX e.x.path,.str e.x.name,.tup (e.x.gives.map dQ),.tup (e.x.downs.map dQ),(uW q V e.x).pv])<=_
  have h1:pw (.tup [tX e.x.path,.str e.x.name,.tup (e.x.gives.map dQ),.tup (e.x.downs.map dQ)])<=1000000:=h1
  simp only[pw,iy] at h1 ⊢
  lia
inductive Bt(C:CH)(k:Nat):Nat->PV->Prop
 |non {d:Nat}:Bt C k d .non
 |bl {d:Nat} (b:Bool):Bt C k d (.bl b)
 |int {d:Nat} {i:Int} (h:i.natAbs<=1000000000+k):Bt C k d (.int i)
 |str {d:Nat} {z:Str} (h:z.length<=20+k):Bt C k d (.str z)
 |tup {d:Nat} {ts:List PV} (l:ts.length<=3000000+k) (h:∀t∈ts,Bt C k d t):Bt C k (d+1) (.tup ts)
 |lst {d:Nat} {a:Addr} {xs:List PV} (m:C a=some (.lst xs)) (l:xs.length<=3000000+k) (h:∀t∈xs,Bt C k d t):Bt C k (d+1) (.ref a)
theorem Zm: ∀{ts},t∈ts->pw t<=iy ts
 |x::ts,h=>by
  rw[iy]
  rcases Aj.1 h with rfl | h
  .lia
  .have:=Zm h;lia
def RZ(h:Pl d x):Lf x->pw x<=3000000->Bt C 0 d x:=by
 induction h with
 |non=>intro _ _;exact .non
 |bl b=>intro _ _;exact .bl b
 |int i=>intro h _;cases h with | int h=>exact .int (by delta Bd at h;lia)
 |str z=>intro h _;cases h with | str h=>exact .str (by lia)
 |@tup d ts _ q =>
  intro h j
  cases h with
  |tup h =>
  rw[pw] at j;have:=wN ts;exact .tup (by lia) fun t g=>q t g (h t g) (by have:=Zm g;lia)
def Bt.mono(h:Bt C k d x)(G:k<=D)(F:d<=d')(g:∀a xs,C a=some (.lst xs)->(∀t∈xs,∃d,Bt C k d t)->C' a=some (.lst xs)):Bt C' D d' x:=by
 induction h generalizing d' with
 |non=>exact .non
 |bl b=>exact .bl b
 |int h=>exact .int (by lia)
 |str h=>exact .str (by lia)
 |tup l _ q =>
  obtain⟨e,rfl⟩:∃e,d'=e+1:=⟨d' - 1,by lia⟩;exact .tup (by lia) fun t j=>q t j (by lia)
 |lst m l h q =>
  obtain⟨e,rfl⟩:∃e,d'=e+1:=⟨d' - 1,by lia⟩;exact .lst (g _ _ m fun t j=>⟨_,h t j⟩) (by lia) fun t j=>q t j (by lia)
theorem Bt.gr(h:Bt C k d x)(g:Gr C C'):Bt C' k d x:=h.mono (AH _) (AH _) fun a xs m _=>g _ _ m
def Bt.ex(h:Bt C k d x)(T:Tp C t ns)(g:Ex t C C'):Bt C' k d x:=h.mono (AH _) (AH _) fun a xs m q=>g a _ (fun z=>by
 obtain⟨⟨i,j,l,e,_⟩,_⟩:=T;rw[z,e] at m;cases m;obtain⟨d,h⟩:=q _ AE
 cases h) m
def vA(m:C l=some (.lst xs)):tyP C (.ref l)=some .lst:=by
 show(match C l with | some (.lst _)=>some Ty.lst | some (.dK _)=>some Ty.dct | _=>none)=_;rw[m]
def Bt.th(h:Bt C k d x):Th C x:=by
 induction h with
 |non=>exact .non
 |bl b=>exact .bl b
 |int h=>exact .int _
 |str h=>exact .str _
 |tup _ _ g=>exact .tup g
 |lst m _ _ _=>exact .lst (vA m)
def Bt.tu(h:Bt C k d (.tup ts)):ts.length<=3000000+k/\∀t∈ts,∃e,Bt C k e t:=by
 cases h with
 |tup l h=>exact⟨l,fun t g=>⟨_,h t g⟩⟩
def Bt.eg(G:k<=9)(h:Bt C k d x):Eg x:=fun a b c d' p e=>by
 subst e;obtain⟨e,F⟩:=h.tu.2 p (by simp);intro ts u v ep;subst ep;obtain⟨e,g⟩:=F.tu.2 (.tup ts) (by simp);refine⟨AW g.tu.1 (by show _<=16777216;lia),fun t D s z n j=>?_⟩;subst j;obtain⟨e,h1⟩:=g.tu.2 _ D;obtain⟨e,h2⟩:=h1.tu.2 (.tup [s,.str z]) (by simp);obtain⟨e,q⟩:=h2.tu.2 (.str z) (by simp)
 cases q with
 |str h=>exact yW (by lia)
noncomputable def mW:Ty->Str
 |.non=>"none"
 |.bl=>"truth"
 |.int=>"number"
 |.str=>"text"
 |.tup=>"tuple"
 |.lst=>"list"
 |.dct=>"other"
def YT(h:ZT x=true):x=.non:=by
 cases x<;>first | rfl | cases h
inductive Sq(C:CH):PV->List PV->Ty->Prop
 |tup (xs:List PV):Sq C (.tup xs) xs .tup
 |lst {a:Addr} {xs:List PV} (m:C a=some (.lst xs)):Sq C (.ref a) xs .lst
theorem Sq.gr(h:Sq C x xs k)(g:Gr C C'):Sq C' x xs k:=by
 cases h with
 |tup=>exact .tup xs
 |lst m=>exact .lst (g _ _ m)
def Sq.ty(h:Sq C x xs k):tyP C x=some k:=by
 cases h with
 |tup=>rfl
 |lst m=>exact vA m
def Sq.len(h:Sq C x xs k)(q:Q (.int xs.length) C):xN [x] C Q:=by
 cases h with
 |tup=>exact nU q
 |lst m=>exact sW m q
def Sq.ix(h:Sq C x xs k)(e:atI xs i=some v)(q:Q v C):qw x (.int i) C Q:=by
 cases h with
 |tup=>exact rX e q
 |lst m=>exact sZ m e q
def Sq.un(h:Sq C x xs k)(g:Sq C x ys k):xs=ys:=by
 cases h with
 |tup=>cases g;rfl
 |lst m=>cases g with | lst j=>rw[m] at j;cases j;rfl
noncomputable def sc:PV->Bool
 |.non=>true
 |.bl _=>true
 |.int _=>true
 |.str _=>true
 |_=>false
def Th.sq(h:Th C x):(∃xs k,Sq C x xs k)\/sc x=true\/tyP C x=some .dct:=by
 cases h with
 |tup h=>exact .inl ⟨_,_,.tup _⟩
 |@lst a h =>
  delta tyP at h
  dsimp only at h
  split at h
  .next xs e=>exact .inl ⟨_,_,.lst e⟩
  .cases h
  .cases h
 |dct h=>exact .inr (.inr h)
 |_=>exact .inr (.inl rfl)
def Vz(h:mW n=mW m):n=m:=by
 revert h;cases n<;>cases m<;>decide +kernel
def Ig(h:tyP C (.ref a)=some n):n=.lst\/n=.dct:=by
 delta tyP at h
 dsimp only at h
 split at h<;>cases h
 .exact .inl rfl
 .exact .inr rfl
def WA(j:sc y=true)(h:tyP C x=some n)(g:tyP C y=some n):mW n ≠ "tuple"/\mW n ≠ "list"/\∃b,sEq x y=some b/\(b=true↔x=y):=by
 cases y<;>first | exact absurd j AO | cases g
 all_goals
  cases x with
  |ref a=>rcases Ig h with h | h<;>cases h
  |_=>first | exact⟨by decide +kernel,by decide +kernel,_,rfl,by simp⟩ | cases h
section
variable {W:Wd}{a:Adr}
inductive PP(ts:List PV)(C:CH)(Q:K1):Prop
 |mk(x:PV)(n:Ty)(z0:ts=[x])(z1:tyP C x=some n)(z2:∀C',Gr C C'->Q (.str (mW n)) C')
def Kb(T:Tx W a):Ok W a 1 49 ["_law_thing"] PP:=by
 have S:=(T.F 49 rfl).s
 refine(T.F 49 rfl).o (fun Y=>(xQ (nQ (ct2 aC fL (cv 0) kK) (kQ (wQ vQ)) lQ)
  (xQ (nQ (oZ (iQ vX cZ rfl T.aQ rfl (qQ (cv 0) (dw (mV rfl T.jA rfl))))) (kQ (wQ vQ)) lQ)
  (xQ (fu 1 S.nd (gX (qQ (iQ vX cZ rfl T.aQ rfl (qQ (cv 0) (dw (mV rfl T.gD rfl)))) (qQ (iQ vX cZ rfl T.aQ rfl (qQ (cv 0) (dw (mV rfl T.Jx rfl)))) (qQ (iQ vX cZ rfl T.aQ rfl (qQ (cv 0) (dw (mV rfl T.sX rfl)))) (dw (iQ vX cZ rfl T.aQ rfl (qQ (cv 0) (dw (mV rfl T.pF rfl))))))))))
  (xQ (fu 2 S.nd (gX (qQ vQ (qQ vQ (qQ vQ (dw vQ))))))
  (kQ (wQ (cx (xX pX dX (sV rfl (S.c (by decide +kernel)) (S.k rfl rfl rfl (by decide +kernel)) (xS rfl T.kW (dw zQ)) (fun _ _ _ _ _=>(GI (oZ (cx (cv 2) (cv 0))))) (fun _ _ _ _ _=>(cx (cv 3) (cv 0)))) (gX (dw vQ))) zQ)))))))) ?_
 rintro ts C R ⟨x,n,rfl,g,q⟩;refine YY (fun D=>?_) fun D=>?_
 .cases YT D
  cases g;exact q C Gr.refl
 refine zX (qZ rfl g (YY (fun F=>?_) fun F=>?_))
 .cases n with
  |bl=>exact q C Gr.refl
  |_=>cases F
 refine zX ?_
 try dsimp only
 refine uQ (qZ rfl g (qZ rfl g (qZ rfl g (qZ rfl g ⟨(show 4<=sizeLine by decide),fun j h1=>⟨by decide,fun p2 h2=>⟨by decide,by decide,?_⟩⟩⟩))));have N:gQ (gQ C j (.lst [.bl (lY n .int),.bl (lY n .str),.bl (lY n .tup),.bl (lY n .lst)])) p2 (.lst [.str "number",.str "text",.str "tuple",.str "list"]) j=some (.lst [.bl (lY n .int),.bl (lY n .str),.bl (lY n .tup),.bl (lY n .lst)]):=(Gr.new h2 _) j _ jQ
 have O:gQ (gQ C j (.lst [.bl (lY n .int),.bl (lY n .str),.bl (lY n .tup),.bl (lY n .lst)])) p2 (.lst [.str "number",.str "text",.str "tuple",.str "list"]) p2=some (.lst [.str "number",.str "text",.str "tuple",.str "list"]):=jQ;have I:Gr C (gQ (gQ C j (.lst [.bl (lY n .int),.bl (lY n .str),.bl (lY n .tup),.bl (lY n .lst)])) p2 (.lst [.str "number",.str "text",.str "tuple",.str "list"])):=(Gr.new h1 _).trans (Gr.new h2 _)
 cases n with
 |non =>
  cases x with
  |non=>cases D
  |ref a=>delta tyP at g;dsimp only at g;split at g<;>cases g
  |_=>cases g
 |bl=>cases F
 |_ =>
  iterate 4
   refine aM (sZ N rfl ?_)
   first
    |refine fZ ?_ ?_
     .rfl
     refine sZ O rfl ⟨by decide,?_⟩
    |refine aX ?_ ?_
     .rfl
  refine pL fun U J=>⟨by decide,fun Z G=>eS ((Gr.new G _) U _ jQ) jQ (by decide) fun p5 M=>sZ jQ rfl ?_⟩;exact q _ ((((I.trans (Gr.new J _)).trans (Gr.new G _)).trans (Gr.new M _)))
def J9(h:FnOk W.P W.w W.K W.mg W.base CX0 r f fd ps (p7 W.K G))(k:∀ts C Q,j ts C Q->G ts C Q):FnOk W.P W.w W.K W.mg W.base CX0 r f fd ps (p7 W.K j) :=
 ⟨fun vs H Q E g=>fX g fun ts C R x y z u=> h.len vs H Q E ⟨ts,C,R,x,y,k _ _ _ z,u⟩,fun A I s H q M vs Q E J F D N g=>fX g fun ts C R x y z u=> h.run A I s H q M vs Q E J F D N ⟨ts,C,R,x,y,k _ _ _ z,u⟩⟩
def Pd:Nat->PV->Prop
 |0,_=>False
 |d+1,y=>Pl d y
inductive gA2(d:Nat)(ts:List PV)(C:CH)(Q:K1):Prop
 |mk(x y:PV)(W:Prop)(z0:ts=[x,y])(z1:Th C x)(z2:((sc y=true/\W=(x=y))\/∃ys k,Sq C y ys k/\ys.length<=3000000/\(∀z∈ys,Pd d z/\pw z<=3000000)/\(∀xs,Sq C x xs k->∀z∈xs,Th C z)/\W=Sq C x ys k))(z3:∀b C',(b=true↔W)->Gr C C'->Q (.bl b) C')
inductive X4(d:Nat)(ts:List PV)(C:CH)(Q:K1):Prop
 |mk(x y:PV)(z0:ts=[x,y])(z1:Th C x)(z2:Pd d y)(z3:pw y<=3000000)(z4:∀b C',(b=true↔x=y)->Gr C C'->Q (.bl b) C')
def Sq.ne(h:Sq C x xs k):mW k = "tuple"\/(mW k ≠ "tuple"/\mW k = "list"):=by
 cases h with
 |tup=>exact .inl rfl
 |lst m=>exact .inr ⟨by decide +kernel,rfl⟩
def Lj(T:Tx W a)d r(ag:1<=r)(gH:Ok W a r 50 SQ (X4 d)):Ok W a (r+1) 50 SQ (gA2 d):=by
 have S:=(T.F 50 rfl).s;have qP:=(Kb T).mono (show 1<=r by lia)
 refine(T.F 50 rfl).o (fun Z=>(xQ (fu 2 S.nd (cf (T.F 49 rfl) qP Z (dw (cv 0))))
  (xQ (nQ (ct2 jL mU (cv 2) (cf (T.F 49 rfl) qP Z (dw (cv 1)))) (kQ (wQ aG)) lQ)
  (xQ (nQ (gm (jj (ct2 wX sQ (cv 2) vQ) (jh (ct2 wX sQ (cv 2) vQ)))) (kQ (wQ (eP (oK wX sQ (j9 T.lZ (cv 0)) (j9 T.lZ (cv 1)) (wV _)) (yS (iQ (sL rfl) lN rfl T.Jy rfl (dw (sV rfl (S.c (by decide +kernel)) (S.k rfl rfl rfl (by decide +kernel)) (xS rfl T.kW (dw (j9 T.lZ (cv 0)))) (fun _ _ _ _ _=>xK) (fun _ _ _ _ _=>(cf (T.F 50 rfl) gH Z (qQ (cx (cv 1) (cv 0)) (dw (cx (cv 2) (cv 0))))))))))))) lQ)
  (kQ (wQ (oK wX sQ (cv 0) (cv 1) (wV _)))))))) ?_
 rintro ts C R ⟨x,y,W,rfl,hx,hy,q⟩;obtain⟨n,G⟩:=hx.ty
 obtain⟨m,D⟩:∃m,tyP C y=some m:=by
  rcases hy with ⟨hs,_⟩ | ⟨ys,k,F,_⟩
  .cases y<;>first | exact absurd hs AO | exact⟨_,rfl⟩
  .exact ⟨_,F.ty⟩
 refine uQ ⟨x,n,rfl,G,fun C1 ab=>⟨y,m,rfl,vP D ab,fun C2 ae=>?_⟩⟩;have g:=ab.trans ae
 apply qX (pQ _ _)
 by_cases e:n=m
 .subst e
  refine aX (by rw[Ab rfl];rfl) (zX ?_)
  rcases hy with ⟨hs,rfl⟩ | ⟨ys,k,F,hl,Y,ht,rfl⟩
  .obtain ⟨n1,n2,b,M,N⟩:=WA hs G D
   exact qX (pQ _ _) (aX (AN n1) (qX (pQ _ _) (aX (AN n2) (zX (qX M (q b C2 N g))))))
  .have ek:n=k:=by have:=F.ty;rw[D] at this;exact Au this
   subst ek
   obtain⟨xs,J⟩:∃xs,Sq C x xs n:=by
    rcases hx.sq with ⟨xs,k,h⟩ | h | h
    .have:=h.ty;rw[G] at this;cases this;exact⟨xs,h⟩
    .exfalso
     have:=(WA h D G)
     rcases F.ne with e | e
     .exact this.1 e
     .exact this.2.1 e.2
    .exfalso
     rw[G] at h;cases h;cases F
   have x2:=J.gr g;have y2:=F.gr g
   apply qX (pQ _ _)
   rcases F.ne with e | ⟨M,N⟩
   case' inl =>
    refine fZ (Ab e) (ZX rfl ?_)
   case' inr =>
    refine aX (AN M) (qX (pQ _ _) (fZ (Ab N) ?_))
   all_goals
    refine x2.len (y2.len (qX (mX _ _) ?_))
    by_cases O:xs.length=ys.length
    .apply fZ (Ab (by rw[O]))
     refine x2.len ⟨by lia,by lia,?_⟩;refine cL (fun t=>match t with | .int i=>.bl (@decide (xs[i.toNat]?=ys[i.toNat]?) (Classical.propDecidable _)) | _=>.non) _ [] C2 Gr.refl (by rw[CV,AB,An];show _<=16777216;lia) (fun t D C3 Q' I af=>?_) fun p C3 _ I m3=>?_
     .obtain ⟨k,j,rfl⟩:=AM.1 D
      rw[BQ] at j;have j:k < xs.length:=by lia
      refine(x2.gr I).ix (zW j) ((y2.gr I).ix (zW (by lia)) ?_);refine⟨xs[k],ys[k],rfl,((ht xs J _ (Ap j)).gr g).gr I,(Y _ (Ap _)).1,(Y _ (Ap _)).2,fun b C4 U g4=>?_⟩
      have eb:@decide (xs[k]?=ys[k]?) (Classical.propDecidable _)=b:=by
       rw[Cu,U,@decide_eq_true_iff _ (Classical.propDecidable _),AK j,AK (by lia),Option.some.injEq]
      have:=af C4 g4;dsimp only at this
      rwa [show((k:Int)).toNat=k from Cf k,eb] at this
     .apply KU (by
       rw[m3,Ct,A8,A8,Cf]
       rfl)
      refine q _ C3 ?_ (g.trans I);rw[BZ];refine⟨fun h=>?_,fun h b U=>?_⟩
      .have:=List.ext_getElem? fun k=>by
        rcases DT k xs.length with j | j
        .have:=h _ (AM.2 ⟨k,BQ.2 j,rfl⟩)
         exact(@decide_eq_true_iff _ (Classical.propDecidable _)).1 this
        .rw [Bb j,Bb (by lia)]
       rwa [<- this]
      .obtain ⟨k,_,rfl⟩:=AM.1 U
       exact(J.un h)▸(@decide_eq_true_iff _ (Classical.propDecidable _)).2 rfl
    .refine aX (AN fun z=>O (by lia)) (q false C2 ⟨(fun z=>nomatch z),fun h=>(O ?_).elim⟩ g)
     rw[J.un h]
 .refine fZ (by rw[AN fun z=>e (Vz z)];rfl) (q false C2 ⟨(fun z=>nomatch z),fun h=>(e ?_).elim⟩ g)
  rcases hy with ⟨hs,rfl⟩ | ⟨ys,k,F,hl,Y,ht,rfl⟩
  .subst h;rw[G] at D;exact Au D
  .have h1:=h.ty
   have h2:=F.ty;rw[G] at h1;rw[D] at h2
   rw[Au h1,Au h2]
def Vp(T:Tx W a)d:Ok W a (d+3) 50 SQ (X4 d):=by
 induction d with
 |zero=>exact eJ fun ts C Q ⟨_,_,_,_,h,_,_⟩=>h
 |succ d I =>
  refine J9 (Lj T d (d+3) (Nat.succ_pos _) I) fun ts C Q=>?_;rintro⟨x,y,rfl,g,G,F,q⟩;refine⟨x,y,x=y,rfl,g,?_,q⟩
  cases G with
  |@tup d ts h =>
   rw[pw] at F;have:=wN ts;refine .inr ⟨ts,.tup,.tup ts,by lia,fun z j=>⟨h z j,by have:=Zm j;lia⟩,fun xs D=>?_,?_⟩
   .cases D;cases g with | tup h=>exact h
   .exact propext ⟨fun e=>by rw[e];exact .tup ts,fun e=>by cases e;rfl⟩
  |_=>exact .inl ⟨rfl,rfl⟩
end
def M9{ys:List PV}(e:(ys.length:Int)=m)(h0:0<=v)(h1:v < m):∃y∈ys,atI ys v=some y:=by
 have g:v.toNat < ys.length:=by lia
 refine⟨ys[v.toNat],Ap g,?_⟩;have:=zW g
 rwa [Int.toNat_of_nonneg h0] at this
theorem jH: ∀t∈([]:List PV),Bt B k d t:=fun _ z=>nomatch z
theorem pZ(h:Bt B k d x)(g:∀t∈ts,Bt B k d t):∀t∈x::ts,Bt B k d t :=by grind
theorem Fd(h:z∈(["part","plain","give",""]:List Str)):Bt B k d (.str z):=.str (AW ((by decide +kernel:∀s∈(["part","plain","give",""]:List Str),s.length<=20) z h) (BV _ _))
def ur(x y:Str):(x++y).length=x.length+y.length:=Array.size_append
def Nh(h:x.length+y.length<=sizeLine)(q:Q (.str (x++y)) C):pS (.str x) (.str y) C Q:=by
 delta pS
 exact⟨h,q⟩
section
variable {W:Wd}{a:Adr}
inductive gBl(ts:List PV)(C:CH)(Q:K1):Prop
 |mk(t:Addr)(x:PV)(n:Ty)(k:Nat)(ns:List Int)(B:CH)(z0:ts=[.ref t,x,.str (mW n)])(z1:Tp C t ns)(z2:k<=5)(z3:sc x=true)(z4:tyP C x=some n)(z5:Bt B k 0 x)(z6:∀y C',Bt B (k+1) 1 y->Tp C' t ns->Ex t C C'->Q y C')
def Yp(T:Tx W a):Ok W a 2 51 U6 gBl:=by
 have S:=(T.F 51 rfl).s;have j:=nZ T
 refine(T.F 51 rfl).o (fun F=>(xQ (nQ (ct2 wX sQ (cv 2) vQ) (kQ (wQ (cx (gX (qQ (xX pX dX (cv 1) zQ) (qQ (xX rK vJ (cv 1) zQ) (qQ (oK wX sQ (cv 1) zQ (wV _)) (qQ (mZ aI GT rfl T.Jx rfl (dw (cv 1))) (qQ kK (dw (cQ (dw (cv 1)))))))))) (cf (T.F 26 rfl) j F (qQ (cv 0) (dw zQ)))))) lQ)
  (xQ (nQ (ct2 wX sQ (cv 2) vQ) (kQ (wQ (cx (gX (qQ (xX pX dX (cv 1) vQ) (qQ (GK (cv 1) nV (rV (oH aU zG zQ))) (qQ (GK (cv 1) nV (rV zQ)) (qQ vQ (qQ vQ (qQ vQ (dw zQ)))))))) (cf (T.F 26 rfl) j F (qQ (cv 0) (dw zQ)))))) lQ)
  (xQ (nQ (ct2 wX sQ (cv 2) vQ) (kQ (wQ (cx (gX (qQ (mZ gY iM rfl T.gD rfl (dw (cv 1))) (qQ (M3 (cv 1)) (dw kK)))) (cf (T.F 26 rfl) j F (qQ (cv 0) (dw zQ)))))) lQ)
  (kQ (wQ (cx (gX (qQ zQ (qQ aG (qQ vQ (dw (cQ bZ)))))) (cf (T.F 26 rfl) j F (qQ (cv 0) (dw zQ)))))))))) ?_
 rintro ts C R ⟨t,x,n,k,ns,B,rfl,M,hk,hs,D,Z,q⟩
 have G:∀(ys:List PV)(m:Int)p,(ys.length:Int)=m->0 < m->m < 100->(∀y∈ys,Bt B (k+1) 1 y)->C p=none->Kl [.ref t,.int m] (gQ C p (.lst ys)) fun v C'=>qw (.ref p) v C' R:=fun ys m p U ab m1 hy g=>
  ⟨t,m,ns,rfl,M.new g _,ab,by lia,fun v C' ae af N J=>by
   obtain⟨y,Y,O⟩:=M9 U ae af
   exact sZ (J _ _ (M.ne g) jQ) O (q y C' (hy y Y) N ((Ex.new g _).trans J))⟩
 have I:∀{n:Nat},n<=1000->n<=sizeLine:=fun h=>AW h (by decide)
 cases Z with
 |non =>
  cases D;refine qX (pQ _ _) (aX (AN (by decide +kernel)) (zX ?_));refine qX (pQ _ _) (aX (AN (by decide +kernel)) (zX ?_));refine qX (pQ _ _) (aX (AN (by decide +kernel)) (zX ?_));refine⟨by decide,by decide,fun p g=>?_⟩;exact G _ _ p rfl (by decide) (by decide) (pZ (.int (by lia)) (pZ (.bl _) (pZ (Fd (by simp)) (pZ (.tup (AX _) jH) jH)))) g
 |bl b =>
  cases D;refine qX (pQ _ _) (aX (AN (by decide +kernel)) (zX ?_));refine qX (pQ _ _) (aX (AN (by decide +kernel)) (zX ?_));refine qX (pQ _ _) (fZ (Ab rfl) ?_);refine kE ?_;refine⟨ie 3 rfl,fun p g=>?_⟩;exact G _ _ p rfl (by decide) (by decide) (pZ (.int (by split<;>lia)) (pZ (.bl _) (pZ .non jH))) g
 |@int _ i h =>
  cases D;refine qX (pQ _ _) (fZ (Ab rfl) ?_);refine eW (jg (qX (mX _ _) (HW (by lia) ?_)));refine⟨ie 1 rfl,ie 6 rfl,fun p g=>?_⟩;exact G _ _ p rfl (by decide) (by decide) (pZ (.int (by lia)) (pZ (.int (by lia)) (pZ (.bl _) (pZ (.str (by have:=uo (i:=i) (by lia);lia)) (pZ .non (pZ (.tup (by show 1<=_;lia) (pZ (.int (by lia)) jH)) jH)))))) g
 |@str _ z h =>
  cases D;refine qX (pQ _ _) (aX (AN (by decide +kernel)) (zX ?_));refine qX (pQ _ _) (fZ (Ab rfl) ?_);refine Nh (I (by show z.length+1<=1000;lia)) ?_;refine FJ (I (by lia)) (FJ (I (by lia)) ?_);refine⟨ie 7 rfl,fun p g=>?_⟩;exact G _ _ p rfl (by decide) (by decide) (pZ (.str (by rw[ur];show z.length+1<=_;lia)) (pZ (.str (AW (Txt.slice_le _ _ _) (by lia))) (pZ (.str (AW (Txt.slice_le _ _ _) (by lia))) (pZ (Fd (by simp)) (pZ (Fd (by simp)) (pZ (Fd (by simp)) (pZ (.int (by lia)) jH))))))) g
end
theorem Tp.gr(h:Tp C t ns)(g:Gr C C'):Tp C' t ns:=by
 obtain⟨⟨i,j,k,e,r⟩,h2⟩:=h;exact⟨⟨i,j,k,g _ _ e,r⟩,h2⟩
def Tp.some(h:Tp C t ns):C t≠none:=by
 obtain⟨⟨i,j,k,e,r⟩,h2⟩:=h;rw[e];exact fun z=>nomatch z
theorem Ex.gr(g:Gr C C'):Ex t C C':=fun b o _ e=>g b o e
def Sq.list(h:Sq C x xs k)(q:∀p,C p=none->Q (.ref p) (gQ C p (.lst xs))):iB [x] C Q:=by
 cases h with
 |tup=>exact q
 |lst m=>delta iB;dsimp only;rwa [m]
def Lk(j:g[i]?=some (some x))(h:Sq C x xs k)(q:∀p,C p=none->Q (.ref p) (gQ C p (.lst xs))):tH iB (fV (jJ i) aL) g C Q:=by
 show jJ i g C fun x C1=>iB [x] C1 Q
 delta jJ
 exact j▸h.list q
def Mz xs k:iF xs (some (k:Nat)) none=xs.drop k :=by simp_all[iF,HT.sIx_nat,HT.sIx_none,List.take_of_length_le,Nat.min_eq_left,Nat.min_eq_right,List.drop_length,List.drop_of_length_le]
def Z5 xs k:iF xs none (some (k:Nat))=xs.take k :=by simp_all[iF,HT.sIx_nat,HT.sIx_none,List.drop_zero,Nat.sub_zero,Nat.min_eq_left,Nat.min_eq_right,List.take_length]
def Ma{xs:List PV}(h:i < xs.length):ixN xs.length i=some i :=by grind[ixN,lia,Int.toNat_natCast]
structure BJ(t:Addr)(ns:List Int)(B C:CH)(k d L:Nat)(p:Addr)(B1 C1:CH)(xs:List PV):Prop where
 m:C1 p=some (.lst xs)
 n:B1 p=none
 f:C p=none
 pt:p≠t
 z:B1 t=none
 g:Gr B B1
 v:∀a,B a=none->C a≠none->B1 a=none
 h:Gr B1 C1
 T:Tp C1 t ns
 e:Ex t C C1
 l:xs.length<=L
 b:∀e∈xs,Bt B1 (k+1) d e
section
variable {t p:Addr}{ns:List Int}{B C B1 C1 C2:CH}{k d L:Nat}{xs:List PV}
theorem BJ.gr(j:BJ t ns B C k d L p B1 C1 xs)(g:Gr C1 C2):BJ t ns B C k d L p B1 C2 xs :=
 { j with m:=g _ _ j.m,h:=j.h.trans g,T:=j.T.gr g,e:=j.e.trans (Ex.gr g) }
def BJ.draw(j:BJ t ns B C k d L p B1 C1 xs)(e:Ex t C1 C2)(T:Tp C2 t ns):BJ t ns B C k d L p B1 C2 xs :=
 { j with m:=e _ _ j.pt j.m,h:=fun b o g=>e b o (fun z=>by rw[z,j.z] at g;cases g) (j.h b o g),T:=T,e:=j.e.trans e }
theorem BJ.put(j:BJ t ns B C k d L p B1 C1 xs)(l:ys.length<=L')(b:∀e∈ys,Bt B1 (k+1) d e):BJ t ns B C k d L' p B1 (gQ C1 p (.lst ys)) ys :=
 { j with m:=jQ,h:=fun a o h=>by rw[yQ (fun z=>by rw[z,j.n] at h;cases h)];exact j.h a o h,T:=j.T.put j.pt _,e:=j.e.put j.f _,l:=l,b:=b }
def BJ.mv(j:BJ t ns B C k d L p B1 C1 xs)(g:Gr C1 C2)(m:C2 q=some (.lst ys))(f:C1 q=none)(l:ys.length<=L)(b:∀e∈ys,e∈xs):BJ t ns B C k d L q B1 C2 ys :=
 have D:=j.T.ne f
 { j.gr g with m:=m,n:=bK j.h f,f:=j.e.none D f,pt:=D,l:=l,b:=fun e F=>j.b e (b e F) }
end
section
variable {W:Wd}{a:Adr}
inductive Km(d:Nat)(ts:List PV)(C:CH)(Q:K1):Prop
 |mk(t:Addr)(x:PV)(k:Nat)(ns:List Int)(B:CH)(z0:ts=[.ref t,x])(z1:Tp C t ns)(z2:B t=none)(z3:Gr B C)(z4:k<=5)(z5:Bt B k d x)(z6:∀y B' C',Bt B' (k+1) (d+1) y->Gr B B'->(∀a,B a=none->C a≠none->B' a=none)->Gr B' C'->Tp C' t ns->Ex t C C'->Q y C')
inductive Gf(d:Nat)(ts:List PV)(C:CH)(Q:K1):Prop
 |mk d'(z0:d=d'+1)(z1:Km d' ts C Q)
def wL(T:Tx W a)(d r:Nat)(a8:2<=r)(jP:Ok W a r 52 U8 (Gf d)):Ok W a (r+1) 52 U8 (Km d):=by
 have S:=(T.F 52 rfl).s;have qP:=(Kb T).mono (show 1<=r by lia);have bQ:=(nZ T).mono (show 1<=r by lia);have qO:=(Yp T).mono (show 2<=r by lia)
 refine(T.F 52 rfl).o (fun F=>(xQ (fu 2 S.nd (cf (T.F 49 rfl) qP F (dw (cv 1))))
  (xQ (nQ (gm (iu (ct2 jL mU (cv 2) vQ) (gn (ct2 jL mU (cv 2) vQ)))) (kQ (wQ (cf (T.F 51 rfl) qO F (qQ (cv 0) (qQ (cv 1) (dw (cv 2))))))) lQ)
  (xQ (fu 3 S.nd (mZ cU eI rfl T.pF rfl (dw (cv 1))))
  (xQ (fu 4 S.nd (cf (T.F 26 rfl) bQ F (qQ (cv 0) (dw zQ))))
  (xQ (fu 5 S.nd zQ)
  (xQ (nQ (ct2 (zL (kI F)) tM (cv 3) (gX bZ)) (kQ (fu 5 S.nd (cf (T.F 26 rfl) bQ F (qQ (cv 0) (dw (j9 T.lZ (cv 3))))))) lQ)
  (xQ (nQ (gm (iu (ct2 yB sY (cv 4) zQ) (gn (ct2 (zL (kI F)) tM (cv 3) (gX bZ))))) (kQ (tP (cf (T.F 52 rfl) jP F (qQ (cv 0) (dw (cx (cv 3) (cv 5))))) (rL (cv 3) (cv 5)))) lQ)
  (xQ (nQ (gm (iu (ct2 wX sQ (cv 4) zQ) (gn (ct2 (zL (kI F)) tM (cv 3) (gX bZ))))) (kQ (uZ (XR A9 Df De (fun p s σ H x vs v au Q=>Yz p s σ H x vs v au Q) VS (cv 3) (dw (cv 5))))) lQ)
  (xQ (nQ (gm (iu (ct2 wX sQ (cv 4) zQ) (gn (ct2 (zL (kI F)) tM (cv 3) (gX bZ))))) (kQ (uZ (XR A9 PySem.F.slot_list_insert PySem.F.type_list_insert (fun p s σ H x vs v au Q=>Vs p s σ H x vs v au Q) Z9 (cv 3) (qQ (cv 5) (dw (cx (cv 3) (cv 5))))))) lQ)
  (xQ (nQ (gm (iu (ct2 wX sQ (cv 4) zQ) (gn (ct2 gV uJ (cv 5) zQ)))) (kQ (fu 3 S.nd (xX pX dX (xX pX dX (xD (cv 3) nV (rV (xX rK vJ (cv 5) zQ))) (gX (qQ (cx (cv 3) (cv 5)) (dw (cx (cv 3) (xX rK vJ (cv 5) zQ)))))) (xD (cv 3) (rV (xX pX dX (cv 5) zQ)) nV)))) lQ)
  (xQ (nQ (ct2 wX sQ (cv 4) zQ) (kQ (fu 2 S.nd (cx (gX (qQ vQ (dw vQ))) (mZ gY iM rfl T.gD rfl (dw (oK wX sQ (cv 2) vQ (wV _))))))) lQ)
  (xQ (nQ (ct2 wX sQ (cv 2) vQ) (kQ (wQ (o8 T.sX (cv 3)))) lQ)
  (kQ (wQ (cv 3)))))))))))))))) ?_
 rintro ts C R ⟨t,x,k,ns,B,rfl,hT,ag,hg,hk,hx,q⟩;have ax:=hx.th.gr hg;obtain⟨n,hn⟩:=ax.ty;refine uQ ?_;refine⟨x,n,rfl,hn,fun C1 ab=>?_⟩;have a0:=vP hn ab;have ak:=hg.trans ab;have T1:=hT.gr ab;have vB:∀a,B a=none->C a≠none->B a=none:=fun _ h _=>h
 rcases ax.sq with ⟨M,k0,hq⟩ | hs | hs
 .have ek:n=k0:=by have:=hq.ty;rw[hn] at this;exact Au this
  subst ek
  obtain⟨d',rfl,ai,ah⟩:∃d',d=d'+1/\M.length<=3000000+k/\∀e∈M,Bt B k d' e:=by
   cases hx with
   |tup l h=>cases hq;exact⟨_,rfl,l,h⟩
   |lst m l h=>cases hq with | lst m'=>rw[hg _ _ m] at m';cases m';exact⟨_,rfl,l,h⟩
   |_=>cases hq
  refine tQ (fun J C'=>J=[some (.ref t),some x,some (.str (mW n)),none,none,none]/\C1=C') (fun L G=>?_) ?_
  .refine qX (pQ _ _) ?_
   rcases hq.ne with e | ⟨e1,e2⟩
   .refine aX (by rw[Ab e];rfl) (yG rfl (zX (G _ _ ⟨rfl,rfl⟩)))
   .refine fZ (by rw[AN e1];rfl) ?_
    refine qX (pQ _ _) ?_;exact aX (by rw[Ab e2];rfl) (zX (G _ _ ⟨rfl,rfl⟩))
  rintro J _ ⟨rfl,rfl⟩;refine uQ ?_;refine Lk rfl (hq.gr ab) fun p hp=>?_;have j0:BJ t ns B C k (d'+1) (3000000+k) p B (gQ C1 p (.lst M)) M:=⟨jQ,bK ak hp,bK ab hp,T1.ne hp,ag,Gr.refl,vB,ak.trans (Gr.new hp _),T1.new hp _,(Ex.gr ab).trans (Ex.new hp _),ai,fun e D=>(ah e D).mono (BU _) (BU _) fun _ _ m _=>m⟩;generalize gQ C1 p (.lst M)=C2 at j0 ⊢;refine uQ ?_;refine⟨t,14,ns,rfl,j0.T,by decide,by decide,fun v C3 ba bb T3 e3=>?_⟩
  have j0:=j0.draw e3 T3;refine uQ ?_;have ae:∀{p B1 C4 L xs}(j:BJ t ns B C k (d'+1) L p B1 C4 xs)(Q':K1),(∀r,C4 r=none->Q' (.bl (!xs.isEmpty)) (gQ C4 r (.lst [])))->∀r,C4 r=none->fS (.ref p) (.ref r) (gQ C4 r (.lst [])) Q':=fun j Q' h r F=>xg (Gr.new F _ _ _ j.m) jQ (h r F);refine tQ (fun J C'=>∃i:Nat,J=[some (.ref t),some x,some (.str (mW n)),some (.ref p),some (.int v),some (.int (i:Nat))]/\BJ t ns B C k (d'+1) (3000000+k) p B C' M/\((M≠[]\/0 < i)->i < M.length)) (fun L G=>?_) ?_
  .refine ⟨by decide,ae j0 _ fun r F=>vZ (fun I=>?_) fun I=>?_⟩
   .have Z:M≠[]:=fun z=>by rw[z] at I;cases I
    have l0:0 < M.length:=List.length_pos_iff.2 Z;have Y:=j0.gr (Gr.new F (.lst []));refine sW Y.m ?_;refine⟨t,_,ns,rfl,Y.T,by lia,by lia,fun u C5 u0 u1 T5 e5=>?_⟩;refine G _ _ ⟨u.toNat,?_,Y.draw e5 T5,fun _=>by lia⟩;rw[Int.toNat_of_nonneg u0]
    rfl
   .have Z:M=[]:=by cases M with | nil=>rfl | cons _ _=>cases I
    exact zX (G _ _ ⟨0,rfl,j0.gr (Gr.new F (.lst [])),fun h=>by rcases h with h | h;exact absurd Z h;lia⟩)
  rintro J C4 ⟨i,rfl,Y,hi⟩;refine tQ (fun J C'=>J=[some (.ref t),some x,some (.str (mW n)),some (.ref p),some (.int v),some (.int (i:Nat))]/\∃B1 xs,BJ t ns B C k (d'+1) (3000000+k) p B1 C' xs/\((xs≠[]\/0 < i)->i < xs.length)) (fun L G=>?_) ?_
  .refine jg (vZ (fun I=>?_) fun I=>?_)
   .refine ⟨by decide,ae Y _ fun r F=>vZ (fun O=>?_) fun O=>?_⟩
    .have Z:M≠[]:=fun z=>by rw[z] at O;cases O
     have U:=hi (.inl Z);have g:=Y.gr (Gr.new F (.lst []));refine sZ g.m (zW U) ?_;refine⟨d',rfl,t,M[i],k,ns,B,rfl,g.T,ag,g.h,hk,ah _ (Ap U),fun y B' C5 hy g5 v5 h5 T5 e5=>?_⟩;have a6:B' p=none:=v5 p g.n (by rw[g.m];exact fun z=>nomatch z);refine Wz (e5 _ _ g.pt g.m) (j:=i) (Ma U) ?_
     have N:BJ t ns B C k (d'+1) (3000000+k) p B' C5 M:=⟨e5 _ _ g.pt g.m,a6,g.f,g.pt,v5 t ag g.T.some,g5,fun a h1 h2=>v5 a h1 (fun z=>by
      by_cases ea:a=t
      .exact g.T.some (by rw[<- ea];exact z)
      .exact h2 (g.e.none ea z)),h5,T5,g.e.trans e5,ai,fun e D=>(ah e D).mono (BU _) (BU _) fun _ _ m _=>g5 _ _ m⟩
     refine G _ _ ⟨rfl,B',M.set i y,N.put (by rw[DY];exact ai) fun e D=>?_,fun _=>by rw[DY];exact U⟩
     rcases List.mem_or_eq_of_mem_set D with D | rfl
     .exact N.b e D
     .exact hy
    .exact zX (G _ _ ⟨rfl,B,M,Y.gr (Gr.new F (.lst [])),hi⟩)
   .exact yG rfl (zX (G _ _ ⟨rfl,B,M,Y,hi⟩))
  clear hi Y j0 ah ai hq;rintro J C5 ⟨rfl,B1,xs,g,hi⟩;refine tQ (fun J C'=>J=[some (.ref t),some x,some (.str (mW n)),some (.ref p),some (.int v),some (.int (i:Nat))]/\∃xs,BJ t ns B C k (d'+1) (3000000+k) p B1 C' xs/\(v≠9->(xs≠[]\/0 < i)->i < xs.length)) (fun L G=>?_) ?_
  .refine qX (mX _ _) (vZ (fun I=>?_) fun I=>?_)
   .refine ⟨by decide,ae g _ fun r F=>vZ (fun O=>?_) fun O=>?_⟩
    .have Z:xs≠[]:=fun z=>by rw[z] at O;cases O
     have U:=hi (.inl Z);have N:=g.gr (Gr.new F (.lst []));have hl:=N.l;refine⟨tW N.m,?_⟩;refine vo N.m (by lia) (AK U) ?_;refine G _ _ ⟨rfl,xs.eraseIdx i,N.put (by rw[List.length_eraseIdx];split<;>lia) fun e D=>N.b e (List.mem_of_mem_eraseIdx D),fun h=>absurd (AZ I) h⟩
    .exact zX (G _ _ ⟨rfl,xs,g.gr (Gr.new F (.lst [])),fun _=>hi⟩)
   .exact yG rfl (zX (G _ _ ⟨rfl,xs,g,fun _=>hi⟩))
  clear hi g xs;rintro J C6 ⟨rfl,xs,g,hi⟩;refine tQ (fun J C'=>J=[some (.ref t),some x,some (.str (mW n)),some (.ref p),some (.int v),some (.int (i:Nat))]/\∃xs,BJ t ns B C k (d'+1) (3000000+(k+1)) p B1 C' xs/\(v=11->0 < i->i < xs.length)) (fun L G=>?_) ?_
  .have ay:∀{C'}{xs:List PV},BJ t ns B C k (d'+1) (3000000+k) p B1 C' xs->BJ t ns B C k (d'+1) (3000000+(k+1)) p B1 C' xs:=fun j=>{ j with l:=AW j.l (by lia) }
   refine qX (mX _ _) (vZ (fun I=>?_) fun I=>?_)
   .have hv:=AZ I
    refine⟨by decide,ae g _ fun r F=>vZ (fun O=>?_) fun O=>?_⟩
    .have Z:xs≠[]:=fun z=>by rw[z] at O;cases O
     have U:=hi (by lia) (.inl Z);have N:=g.gr (Gr.new F (.lst []));have hl:=N.l;refine⟨tW N.m,?_⟩;refine sZ N.m (zW U) ?_;refine YW N.m (by lia) (by show _ < 16777216;lia) ?_;refine G _ _ ⟨rfl,_,N.put (by rw[AJ,AQ,A1,BN];lia) fun e D=>?_,fun h=>by lia⟩
     rcases Ae.1 D with D | D
     .exact N.b e (B3 D)
     .rcases Aj.1 D with rfl | D
      .exact N.b _ (Ap _)
      .exact N.b e (Dk D)
    .exact zX (G _ _ ⟨rfl,xs,ay (g.gr (Gr.new F (.lst []))),fun h=>by lia⟩)
   .exact yG rfl (zX (G _ _ ⟨rfl,xs,ay g,fun h h0=>hi (by lia) (.inr h0)⟩))
  clear hi g xs;rintro J C7 ⟨rfl,xs,g,hi⟩;refine tQ (fun J C'=>∃p xs,J=[some (.ref t),some x,some (.str (mW n)),some (.ref p),some (.int v),some (.int (i:Nat))]/\BJ t ns B C k (d'+1) (3000000+(k+1)) p B1 C' xs) (fun L G=>?_) ?_
  .refine qX (mX _ _) (vZ (fun I=>?_) fun I=>?_)
   .refine jg (vZ (fun O=>?_) fun O=>?_)
    .have i0:0 < i:=by have:=AZ O;lia
     have U:=hi (AZ I) i0;have hl:=g.l;have ek:(i:Int) - 1=((i - 1:Nat):Int):=by lia
     refine jg ?_;rw[ek];refine Ze g.m fun aq a4=>?_;rw[Z5];have af:=Gr.new a4 (.lst (xs.take (i - 1)));have m1:gQ C7 aq (.lst (xs.take (i - 1))) aq=some (.lst (xs.take (i - 1))):=jQ;generalize gQ C7 aq (.lst (xs.take (i - 1)))=H1 at af m1 ⊢;refine sZ (af _ _ g.m) (zW U) ?_;refine jg ?_;rw[ek];refine sZ (af _ _ g.m) (zW (by lia)) ?_;refine⟨ie 2 rfl,fun ar av=>?_⟩
     refine eS (Gr.new av _ _ _ m1) jQ (by rw[A1];show _+2<=16777216;lia) fun aj a5=>?_;have a3:Gr C7 (gQ (gQ H1 ar (.lst [xs[i],xs[i - 1]])) aj (.lst (xs.take (i - 1)++[xs[i],xs[i - 1]]))):=(af.trans (Gr.new av _)).trans (Gr.new a5 _);have m3:gQ (gQ H1 ar (.lst [xs[i],xs[i - 1]])) aj (.lst (xs.take (i - 1)++[xs[i],xs[i - 1]])) aj=some (.lst (xs.take (i - 1)++[xs[i],xs[i - 1]])):=jQ
     generalize gQ (gQ H1 ar (.lst [xs[i],xs[i - 1]])) aj (.lst (xs.take (i - 1)++[xs[i],xs[i - 1]]))=H3 at a3 m3 ⊢;refine eW ?_;have az:(i:Int)+1=((i+1:Nat):Int):=by lia
     rw[az];refine Ze (a3 _ _ g.m) fun a9 ao=>?_;rw[Mz];refine eS (Gr.new ao _ _ _ m3) jQ (by rw[AJ,A1,BN];show _+2+_<=16777216;lia) fun a7 aw=>?_;refine G _ _ ⟨a7,_,rfl,g.mv ((a3.trans (Gr.new ao _)).trans (Gr.new aw _)) jQ (bK (a3.trans (Gr.new ao _)) aw) ?_ fun e D=>?_⟩
     .rw [AJ,AJ,A1,BN]
      show _+2+_<=_
      lia
     .rcases Ae.1 D with D | D
      .rcases Ae.1 D with D | D
       .exact B3 D
       .simp only[List.mem_cons,List.not_mem_nil,or_false] at D
        rcases D with rfl | rfl
        .exact Ap _
        .exact Ap _
      .exact Dk D
    .exact zX (G _ _ ⟨p,xs,rfl,g⟩)
   .exact yG rfl (zX (G _ _ ⟨p,xs,rfl,g⟩))
  clear hi g xs ae;rintro J C8 ⟨p,xs,rfl,g⟩;refine tQ (fun J C'=>∃kd:Str,J=[some (.ref t),some x,some (.str kd),some (.ref p),some (.int v),some (.int (i:Nat))]/\BJ t ns B C k (d'+1) (3000000+(k+1)) p B1 C' xs) (fun L G=>?_) ?_
  .refine qX (mX _ _) (vZ (fun I=>?_) fun I=>?_)
   .refine ⟨ie 2 rfl,fun r F=>?_⟩
    refine qX (pQ _ _) (kE ?_)
    have e2:∃kd:Str,atI [PV.str "tuple",PV.str "list"] (if id (decide (mW n = "tuple"))=true then (1:Int) else 0)=some (.str kd):=by
     cases decide (mW n = "tuple")<;>exact⟨_,rfl⟩
    obtain⟨kd,e2⟩:=e2;refine sZ jQ e2 ?_;exact G _ _ ⟨kd,rfl,g.gr (Gr.new F _)⟩
   .exact zX (G _ _ ⟨_,rfl,g⟩)
  clear g;rintro J C9 ⟨kd,rfl,g⟩;refine qX (pQ _ _) (vZ (fun I=>?_) fun I=>?_)
  .refine tK g.m ?_
   exact q _ B1 C9 (.tup g.l g.b) g.g g.v g.h g.T g.e
  .refine zX ?_
   refine q _ (gQ B1 p (.lst xs)) C9 (.lst jQ g.l fun e D=>(g.b e D).gr (Gr.new g.n _)) (g.g.trans (Gr.new g.n _)) (fun a h1 h2=>?_) (fun b o h=>?_) g.T g.e
   .rw [yQ (fun z=>h2 (by rw[z];exact g.f))]
    exact g.v a h1 h2
   .by_cases e:b=p
    .rw [e,jQ] at h
     rw[e,g.m];exact h
    .rw [yQ e] at h
     exact g.h b o h
 .obtain ⟨n1,n2,_⟩:=WA hs hn hn
  refine qX (pQ _ _) (fZ (by rw[AN n1];rfl) ?_);refine qX (pQ _ _) (fZ (by rw[AN n2];rfl) ?_);refine⟨t,x,n,k,ns,B,rfl,T1,hk,hs,a0,?_,fun y C' hy T' e'=>?_⟩
  .cases hx with
   |non=>exact .non
   |bl b=>exact .bl b
   |int h=>exact .int h
   |str h=>exact .str h
   |_=>cases hs
  .exact q y B C' (hy.mono (AH _) (Nat.succ_le_succ (AX _)) fun _ _ m _=>m) Gr.refl vB (fun b o I=>e' b o (fun z=>by rw[z,ag] at I;cases I) (ak b o I)) T' ((Ex.gr ab).trans e')
 .exfalso
  rw[hn] at hs;cases hs
  cases hx with
  |lst m l h=>have:=vA (hg _ _ m);rw[hn] at this;cases this
  |_=>cases hn
def w6(T:Tx W a)d:Ok W a (d+3) 52 U8 (Km d):=by
 induction d with
 |zero=>exact wL T 0 2 (AH _) (eJ fun ts C Q ⟨d',e,_⟩=>by lia)
 |succ d g=>exact wL T (d+1) (d+3) (CU _ _) (J9 g fun ts C Q ⟨d',e,h⟩=>by cases e;exact h)
end
def Mu D k:XC D k=Rn (D[k]?.map (·.x)):=by
 delta XC
 cases D[k]?<;>rfl
def O2(h:C a=some (.lst xs))(q:∀p,C p=none->Q (.ref p) (gQ C p (.lst xs))):iB [.ref a] C Q:=by
 delta iB
 dsimp only
 rwa [h]
section
variable {W:Wd}{a:Adr}
inductive gLe(ts:List PV)(C:CH)(Q:K1):Prop
 |mk(pts:List Pt)(vv d:Addr)(V:Vl)(k:Nat)(x:PV)(z0:ts=[.tup (pts.map Pt.pv),.ref vv,.ref d,x])(z1:jM pts)(z2:lz V)(z3:C vv=some (.dP (nu V)))(z4:k<=(rQ pts V).length)(z5:C d=some (.lst (((rQ pts V).take k).map En.pv)))(z6:Th C x)(z7:Eg x)(z8:∀b C',(b=true↔∃e,(rQ pts V)[k]?=some e/\x=e.pv)->Gr C C'->Q (.bl b) C')
def vT(T:Tx W a):Ok W a 32 23 ["house","values","ahead","entry"] gLe:=by
 have M:=Q0 T;refine(T.F 23 rfl).o (fun J=>(kQ (wQ (cf (T.F 24 rfl) M J (qQ (cv 0) (qQ (cv 1) (qQ (cf (T.F 18 rfl) ((wu T).mono (show 12<=31 by decide)) J (qQ (cv 0) (dw (cv 2)))) (dw (cv 3))))))))) ?_;rintro ts C R ⟨j,vv,d,V,k,x,rfl,hs,D,Y,U,md,Z,S,q⟩;refine⟨j,V,k,d,rfl,hs,D,U,md,fun C1 I=>?_⟩;rw[Mu];refine⟨j,vv,V,(rQ j V)[k]?.map (·.x),x,rfl,hs,D,I _ _ Y,fun e F=>?_,Z.gr I,S,fun b C2 O N=>q b C2 ?_ (I.trans N)⟩
 .cases g:(rQ j V)[k]? with
  |none=>rw[g] at F;cases F
  |some G =>
   rw[g] at F;cases F;have:=sP hs D (Ac g);exact⟨this.1,this.2.2.1⟩
 .rw [O]
  cases g:(rQ j V)[k]? with
  |none=>exact⟨fun⟨d,e,_⟩=>(nomatch e),fun⟨d,e,_⟩=>(nomatch e)⟩
  |some G =>
   have:=(sP hs D (Ac g)).2.1;refine⟨fun⟨d,e,h⟩=>⟨G,rfl,?_⟩,fun⟨e,h1,h2⟩=>⟨G.x,rfl,?_⟩⟩
   .cases e;rwa [this]
   .cases h1;rwa [this] at h2
inductive Tr(ts:List PV)(C:CH)(Q:K1):Prop
 |mk(pts:List Pt)(vv p1:Addr)(V:Vl)(k:Nat)(x:PV)(z0:ts=[.tup (pts.map Pt.pv),.ref vv,.ref p1,.int (k:Nat),x])(z1:jM pts)(z2:lz V)(z3:C vv=some (.dP (nu V)))(z4:C p1=some (.lst ((rQ pts V).map En.pv)))(z5:k<=(rQ pts V).length)(z6:Th C x)(z7:Eg x)(z8:∀C',Gr C C'->Q (.bl true) C')
def Lg(T:Tx W a):Ok W a 33 53 U5 Tr:=by
 have S:=(T.F 53 rfl).s;have gH:=(Vp T 21).mono (show 24<=32 by decide)
 refine(T.F 53 rfl).o (fun Z=>(xQ (fu 5 S.nd (eP (oK yB sY (cv 3) (j9 T.lZ (cv 2)) (wV _)) (yS (cf (T.F 50 rfl) gH Z (qQ (cv 4) (dw (cx (cv 2) (cv 3))))))))
  (xQ (fu 6 S.nd (mZ cU eI rfl T.pF rfl (dw (xD (cv 2) nV (rV (cv 3))))))
  (xQ (fu 7 S.nd (cf (T.F 23 rfl) (vT T) Z (qQ (cv 0) (qQ (cv 1) (qQ (cv 6) (dw (cv 4)))))))
  (kQ (wQ (eP (iQ vX cZ rfl T.aQ rfl (qQ (cv 7) (dw (mV rfl T.jA rfl)))) (eP (oK wX sQ (cv 7) (cv 5) (wV _)) (yS (oK (IW (yu Z)) zA (cv 6) (xD (cv 2) nV (rV (cv 3))) (wV _))))))))))) ?_
 rintro ts C R ⟨g,vv,p1,V,k,x,rfl,hs,O,hv,M,hk,hx,hg,q⟩;have ao:(rQ g V).length<=559:=XF hs O (aW hs)
 have Y:∀u∈(rQ g V).map En.pv,Lf u/\Pl 20 u/\pw u<=3000000:=fun u hu=>by
  obtain⟨e,U,rfl⟩:=AM.1 hu;exact Hr hs O U
 refine tQ (fun ag C'=>∃G:Bool,ag=[some (.tup (g.map Pt.pv)),some (.ref vv),some (.ref p1),some (.int (k:Nat)),some x,some (.bl G),none,none]/\(G=true↔∃e,(rQ g V)[k]?=some e/\x=e.pv)/\Gr C C') (fun L hL=>?_) ?_
 .refine sW M (jg (vZ (fun D=>?_) fun D=>?_))
  .have J:k < (rQ g V).length:=by have:=AZ D;rw[AB] at this;lia
   apply sZ M (v:=((rQ g V)[k]).pv) (by rw[zW (by rwa [AB]),List.getElem_map])
   have ae:((rQ g V)[k]).pv∈(rQ g V).map En.pv:=AM.2 ⟨_,Ap J,rfl⟩;refine⟨x,_,rfl,hx,(Y _ ae).2.1,(Y _ ae).2.2,fun b C1 ah I=>hL _ _ ⟨b,rfl,?_,I⟩⟩;rw[ah,AK J];exact⟨fun h=>⟨_,rfl,h⟩,fun⟨e,h1,h2⟩=>by cases h1;exact h2⟩
  .have J:(rQ g V).length<=k:=by have:=Ca D;rw[AB] at this;lia
   refine hL _ _ ⟨false,rfl,⟨(fun z=>nomatch z),fun⟨e,h,_⟩=>?_⟩,Gr.refl⟩;rw[Bb J] at h;cases h
 rintro ag C1 ⟨G,rfl,ai,I⟩;refine uQ (Ze (I _ _ M) fun ab aj=>?_);rw[Z5,<- List.map_take]
 delta aL
 refine O2 jQ fun F ak=>?_;have j:Gr C (gQ (gQ C1 ab (.lst (((rQ g V).take k).map En.pv))) F (.lst (((rQ g V).take k).map En.pv))):=(I.trans (Gr.new aj (.lst (((rQ g V).take k).map En.pv)))).trans (Gr.new ak _);have m2:gQ (gQ C1 ab (.lst (((rQ g V).take k).map En.pv))) F (.lst (((rQ g V).take k).map En.pv)) F=some (.lst (((rQ g V).take k).map En.pv)):=jQ;generalize gQ (gQ C1 ab (.lst (((rQ g V).take k).map En.pv))) F (.lst (((rQ g V).take k).map En.pv))=C2 at j m2 ⊢
 refine uQ ⟨g,vv,F,V,k,x,rfl,hs,O,j _ _ hv,hk,m2,hx.gr j,hg,fun b C3 D N=>?_⟩;have e:b=G:=by rw[Cu,D,ai]
 subst e;refine qZ rfl rfl (fZ rfl (qX (by show some (decide (b=b))=_;rw[Ab rfl]) (fZ rfl ?_)));refine Ze (N _ _ (j _ _ M)) fun aq af=>?_;rw[Z5,<- List.map_take];refine Rc (Gr.new af _ _ _ (N _ _ m2)) jQ (fun u hu=>?_) (q _ ((j.trans N).trans (Gr.new af _)));obtain⟨e,U,rfl⟩:=AM.1 hu;exact(Y _ (AM.2 ⟨e,B3 U,rfl⟩)).2.1
end
noncomputable def wo(o:Addr)(C:CH):CH:=fun b=>if b=o then none else C b
def Jz: Gr (wo o C) C:=fun b u e=>by
 delta wo at e
 split at e
 .cases e
 .exact e
section
variable {W:Wd}{a:Adr}
inductive PN(ts:List PV)(C:CH)(Q:K1):Prop
 |mk(ns:List Int)(z0:ts=[.fz (ns.map PV.int)])(z1:ns.length<=63)(z2:∀C',Q (.bl true) C')
def ok_law(T:Tx W a):Ok W a 120 54 ["_law_script"] PN:=by
 have S:=(T.F 54 rfl).s;have G9:=(v8 T).mono (show 1<=119 by decide);have Wa:=(Yq T).mono (show 26<=119 by decide);have Jr:=(Vk T).mono (show 38<=119 by decide);have uH:=(Q3 T).mono (show 37<=119 by decide);have bQ:=(nZ T).mono (show 1<=119 by decide);have jP:=(w6 T 20).mono (show 23<=119 by decide);have a9:=(Lg T).mono (show 33<=119 by decide)
 refine(T.F 54 rfl).o (fun J=>(xQ (fu 1 S.nd (cf (T.F 25 rfl) G9 J (dw (cv 0))))
  (xQ (fu 2 S.nd (cf (T.F 40 rfl) Wa J (dw (cv 1))))
  (xQ (fu 3 S.nd (cf (T.F 48 rfl) Jr J (qQ (cv 1) (dw (cv 2)))))
  (xQ (fu 4 S.nd (cf (T.F 46 rfl) uH J (qQ (cv 2) (dw (cv 3)))))
  (xQ (mL PassesOwn.never rfl rfl T.kW (dw zQ) (j7 5 S.nd) (xQ (fu 6 S.nd (cf (T.F 26 rfl) bQ J (qQ (cv 1) (dw (xX pX dX (j9 T.lZ (cv 4)) zQ)))))
  (xQ (fu 7 S.nd (cx (cv 4) (iQ (aP rfl) tI rfl T.Wi rfl (qQ (cv 6) (dw (xX rK vJ (j9 T.lZ (cv 4)) zQ))))))
  (xQ (fu 8 S.nd (gX (qQ (cv 7) (qQ (cx (cv 4) (cf (T.F 26 rfl) bQ J (qQ (cv 1) (dw (j9 T.lZ (cv 4)))))) (qQ (cf (T.F 52 rfl) jP J (qQ (cv 1) (dw (cv 7)))) (dw (cf (T.F 52 rfl) jP J (qQ (cv 1) (dw (cv 7))))))))))
  (kQ (oM PassesOwn.never rfl (xX pX dX (cv 8) (gX (qQ kK (qQ (mZ cU eI rfl T.pF rfl (dw (cv 7))) (qQ (GJ (cv 7) nV (rV zQ)) (qQ (xX pX dX (cv 7) (cQ (dw zQ))) (dw (cv 7)))))))) (j7 9 S.nd) (kQ (nQ (rW (oZ (cf (T.F 53 rfl) a9 J (qQ (cv 2) (qQ (cv 3) (qQ (cv 4) (qQ (cv 6) (dw (cv 9))))))))) (kQ (wQ aG)) lQ))))))))
  (kQ (wQ aG)))))))) ?_
 rintro ts C R ⟨ns,rfl,hl,q⟩;refine uQ ?_;refine⟨ns,rfl,hl,fun t C1 n1 e1 T1=>?_⟩;refine uQ ?_;refine⟨t,ns,rfl,T1,fun D C2 hs T2 e2=>?_⟩;refine uQ ?_;refine⟨t,D,ns,rfl,T2,hs,fun vv V C3 hV n3 m3 ah T3 e3=>?_⟩;refine uQ ?_;refine⟨D,vv,V,rfl,hs,hV,m3,fun p1 C4 n4 m4 g4=>?_⟩;have bz:(rQ D V).length<=559:=XF hs hV (aW hs);have b0:0 < (rQ D V).length:=List.length_pos_iff.2 fun z=>nomatch z
 have ae:∀(B:CH)u,u∈(rQ D V).map En.pv->Bt B 0 20 u:=fun B u F=>by
  obtain⟨e,bj,rfl⟩:=AM.1 F;have h:=Hr hs hV bj;exact RZ h.2.1 h.1 h.2.2
 have aw:∀(C:CH)u,u∈(rQ D V).map En.pv->Th C u/\Eg u:=fun C u F=>⟨(ae C u F).th,(ae C u F).eg (by decide)⟩;have ag:p1≠t:=T3.ne n4;have T4:=T3.gr g4;have br:=g4 _ _ m3;refine tQ (fun bw C'=>True) (fun L hL=>?_) ?_
 .refine ⟨by decide,by decide,?_⟩
  refine wJ (fun zs U C'=>∃x5 x6 x7 x8 x9:Option PV,U=[some (.fz (ns.map PV.int)),some (.ref t),some (.tup (D.map Pt.pv)),some (.ref vv),some (.ref p1),x5,x6,x7,x8,x9]/\C' vv=some (.dP (nu V))/\C' p1=some (.lst ((rQ D V).map En.pv))/\Tp C' t ns) ?_ ?_ _ _ _ ⟨_,_,_,_,_,rfl,br,m4,T4⟩
  .rintro z zs U C5 ⟨x5,x6,x7,x8,x9,rfl,bt,a0,T5⟩ L1 bg
   refine uQ ?_;refine sW a0 ?_;refine eW ?_;rw[AB];refine⟨t,_,ns,rfl,T5,by lia,by lia,fun v C6 b1 b2 T6 e6=>?_⟩
   try dsimp only
   obtain⟨k,rfl⟩:∃k:Nat,v=(k:Nat):=⟨v.toNat,by lia⟩;have bu:=e6 _ _ ah bt;have af:=e6 _ _ ag a0;refine uQ ?_;refine sW af ?_;refine jg ?_;rw[AB];refine YC ?_
   obtain⟨m,ba,au⟩:∃m:Nat,(if ((rQ D V).length:Int) - 1 < (k:Nat) then ((rQ D V).length:Int) - 1 else (k:Nat))=(m:Nat)/\m < (rQ D V).length:=by
    split
    .exact ⟨(rQ D V).length - 1,by lia,by lia⟩
    .exact ⟨k,rfl,by lia⟩
   rw[ba];have bl:m < ((rQ D V).map En.pv).length:=by rw[AB];exact au
   refine sZ af (v:=((rQ D V)[m]).pv) (by rw[zW bl,List.getElem_map]) ?_;generalize eE:(rQ D V)[m]=g;have ak:g.pv∈(rQ D V).map En.pv:=AM.2 ⟨g,by rw[<- eE];exact Ap au,rfl⟩;have ao:g.pv=.tup [tX g.x.path,.str g.x.name,.tup (g.x.gives.map dQ),.tup (g.x.downs.map dQ),g.pc.pv]:=rfl;refine uQ ?_;refine sW af ?_;rw[AB];refine⟨t,_,ns,rfl,T6,by lia,by lia,fun u C7 u0 u1 T7 e7=>?_⟩
   obtain⟨j,rfl⟩:∃j:Nat,u=(j:Nat):=⟨u.toNat,by lia⟩;have a4:=e7 _ _ ag af;have ar:j < ((rQ D V).map En.pv).length:=by rw[AB];lia
   refine sZ a4 (zW ar) ?_;have aq:((rQ D V).map En.pv)[j]∈(rQ D V).map En.pv:=Ap ar;generalize ((rQ D V).map En.pv)[j]=M at aq;refine⟨t,g.pv,0,ns,wo t C7,rfl,T7,Ah rfl,Jz,by decide,ae _ _ ak,fun G B1 C8 h8 _ _ bb T8 e8=>?_⟩;refine⟨t,g.pv,0,ns,wo t C8,rfl,T8,Ah rfl,Jz,by decide,ae _ _ ak,fun I B2 C9 h9 _ _ bc T9 e9=>?_⟩;have a7:Th C9 G/\Eg G:=⟨((h8.gr bb).ex T8 e9).th,h8.eg (by decide)⟩
   have a8:Th C9 I/\Eg I:=⟨(h9.gr bc).th,h9.eg (by decide)⟩;have a6:=e9 _ _ ah (e8 _ _ ah (e7 _ _ ah bu));have a5:=e9 _ _ ag (e8 _ _ ag a4);refine⟨ie 4 rfl,fun r1 bo=>?_⟩;have Z:=Gr.new bo (.lst [g.pv,M,G,I]);have m1:gQ C9 r1 (.lst [g.pv,M,G,I]) r1=some (.lst [g.pv,M,G,I]):=jQ;generalize gQ C9 r1 (.lst [g.pv,M,G,I])=D1 at Z m1 ⊢;intro N bp
   have O:=Gr.new bp (.lst [tX g.x.path,.str g.x.name,.tup (g.x.gives.map dQ),.tup (g.x.downs.map dQ),g.pc.pv]);have m2:gQ D1 N (.lst [tX g.x.path,.str g.x.name,.tup (g.x.gives.map dQ),.tup (g.x.downs.map dQ),g.pc.pv]) N=some (.lst [tX g.x.path,.str g.x.name,.tup (g.x.gives.map dQ),.tup (g.x.downs.map dQ),g.pc.pv]):=jQ;generalize gQ D1 N (.lst [tX g.x.path,.str g.x.name,.tup (g.x.gives.map dQ),.tup (g.x.downs.map dQ),g.pc.pv])=D2 at O m2 ⊢
   refine Wx ao (by show ¬ (0=0/\4=5);decide) ?_;refine⟨ie 1 rfl,?_⟩;refine tS (ys:=[.int 0]) (by show 5+1<=sizeLine;decide) ?_;refine⟨ie 5 rfl,fun r3 av=>?_⟩;refine eS (Gr.new av _ _ _ (O _ _ m1)) jQ (by show 4+5<=sizeLine;decide) fun r4 bq=>?_;have a3:=(Gr.new av (.lst [.non,.ref N,.tup [tX g.x.path,.str g.x.name,.tup (g.x.gives.map dQ),.tup (g.x.downs.map dQ)],.tup [tX g.x.path,.str g.x.name,.tup (g.x.gives.map dQ),.tup (g.x.downs.map dQ),g.pc.pv,.int 0],g.pv])).trans (Gr.new bq (.lst ([g.pv,M,G,I]++[.non,.ref N,.tup [tX g.x.path,.str g.x.name,.tup (g.x.gives.map dQ),.tup (g.x.downs.map dQ)],.tup [tX g.x.path,.str g.x.name,.tup (g.x.gives.map dQ),.tup (g.x.downs.map dQ),g.pc.pv,.int 0],g.pv])))
   have bx:=(Z.trans O).trans a3
   have bh:∀Y,Gr D2 Y->∀u∈[g.pv,M,G,I]++[.non,.ref N,.tup [tX g.x.path,.str g.x.name,.tup (g.x.gives.map dQ),.tup (g.x.downs.map dQ)],.tup [tX g.x.path,.str g.x.name,.tup (g.x.gives.map dQ),.tup (g.x.downs.map dQ),g.pc.pv,.int 0],g.pv],Th Y u/\Eg u:=fun Y ai u F=>by
    have aj:=aw Y _ ak
    have ax:∀u∈[tX g.x.path,.str g.x.name,.tup (g.x.gives.map dQ),.tup (g.x.downs.map dQ),g.pc.pv],Th Y u:=by
     have:=aj.1;rw[ao] at this;cases this with | tup h=>exact h
    simp only[List.cons_append,List.nil_append,List.mem_cons,List.not_mem_nil,or_false] at F
    rcases F with rfl | rfl | rfl | rfl | rfl | rfl | rfl | rfl | rfl
    .exact aj
    .exact aw Y _ aq
    .exact ⟨a7.1.gr ((Z.trans O).trans ai),a7.2⟩
    .exact ⟨a8.1.gr ((Z.trans O).trans ai),a8.2⟩
    .exact ⟨.non,fun _ _ _ _ _ e=>nomatch e⟩
    .exact ⟨.lst (vA (ai _ _ m2)),fun _ _ _ _ _ e=>nomatch e⟩
    .exact ⟨.tup fun u F=>ax u (Aw [g.pc.pv] F),fun _ _ _ _ _ e=>nomatch PV.tup.inj e⟩
    .refine ⟨.tup fun u F=>?_,fun _ _ _ _ _ e=>nomatch PV.tup.inj e⟩
     rcases Ae.1 (show u∈[tX g.x.path,.str g.x.name,.tup (g.x.gives.map dQ),.tup (g.x.downs.map dQ),g.pc.pv]++[.int 0] from F) with F | F
     .exact ax u F
     .cases AF.1 F;exact .int 0
    .exact aj
   refine⟨9+1,?_⟩;refine bG (xs:=[g.pv,M,G,I]++[.non,.ref N,.tup [tX g.x.path,.str g.x.name,.tup (g.x.gives.map dQ),.tup (g.x.downs.map dQ)],.tup [tX g.x.path,.str g.x.name,.tup (g.x.gives.map dQ),.tup (g.x.downs.map dQ),g.pc.pv,.int 0],g.pv]) (fun i U C'=>C' r4=some (.lst ([g.pv,M,G,I]++[.non,.ref N,.tup [tX g.x.path,.str g.x.name,.tup (g.x.gives.map dQ),.tup (g.x.downs.map dQ)],.tup [tX g.x.path,.str g.x.name,.tup (g.x.gives.map dQ),.tup (g.x.downs.map dQ),g.pc.pv,.int 0],g.pv]))/\∃x9:Option PV,U=[some (.fz (ns.map PV.int)),some (.ref t),some (.tup (D.map Pt.pv)),some (.ref vv),some (.ref p1),some z,some (.int (k:Nat)),some g.pv,some (.ref r1),x9]/\Gr D2 C') (fun _ _ _ h=>h.1) ?_ ?_ _ 0 _ _ ⟨jQ,_,rfl,a3⟩ (BP _) (AX _)
   .rintro i u U D4 F ⟨az,y9,rfl,ab⟩ L' bf
    have ay:=bh D4 ab u (Ac F);have gg:=(Z.trans O).trans ab;refine⟨D,vv,p1,V,k,u,rfl,hs,hV,gg _ _ a6,gg _ _ a5,by lia,ay.1,ay.2,fun D5 g5=>?_⟩;exact iH (zX (bf _ _ ⟨g5 _ _ az,_,rfl,ab.trans g5⟩))
   .rintro U D4 ⟨az,y9,rfl,ab⟩
    have gg:=(Z.trans O).trans ab;exact bg _ _ ⟨_,_,_,_,_,rfl,gg _ _ a6,gg _ _ a5,T9.gr gg⟩
  .rintro U C5 _
   exact hL _ _ trivial
 rintro bw C5 _;exact q C5
end
theorem Xp{K:Dm}{H:Hp}:∀ns:List Int,d7 K H (ns.map V.int) (ns.map PV.int)
 |[]=>.nil
 |n::ns=>.cons (.int n) (Xp ns)
def walk{l:PySem.W.OpenLaw}{q:Program}{ab:List Str}{J:(Str->Option Value)->Heap->Prop}{j:World->Heap->Prop}{d:DefRec}{K:Params->Dm}(Y:l.most=some 63)(S:d.params.defaults=[])(Z:d.name = "law")(O:∀(w:World)(h:Heap),j w h->(K w.params).In h)(F:∀(w:World)(mg:Str->Option Value)(h:Heap),(K w.params).In h->h.Ns mainGlobals mg->∃a:Adr,Txt l.prog w (K w.params) mg a):
  PySem.W.WalkO q ab J j l.row.toRowW d [] (fun f vs=>PySem.call f vs):=by
 refine L2.walk_of (n:=63) (k:=120) (x:="_law_script") (CX:=fun _=>CX0) (sp:=fun w=>p7 (K w.params) PN) Y (by decide) S ⟨rfl,by decide,by decide⟩ O ?_ (fun w H a ns U N g=>?_) fun _ _ _ _ _ z=>z
 .intro w mg fa h I G D
  obtain⟨a,T⟩:=F w mg h I G;rw[Z] at D;have e:=D.symm.trans ((T.F 54 rfl).m rfl);cases e;obtain⟨_,_,_,_,_,_,_,_,_,M,_⟩:=(T.F 54 rfl).F.ex;refine⟨a.d 54,?_,fun base _ _=>ok_law (W:=⟨_,_,_,_,base⟩) T⟩;rw[M];exact fun s u=>.of_eq rfl
 .have hz:Fz (K w.params) H a (ns.map V.int):=by
   rcases g with g | g
   .rcases g with g | ⟨o,g⟩
    .rcases N a with h | ⟨o,xs,h⟩
     .rw [g] at h;cases h
     .rw [g] at h;cases h
    .exact .inl ⟨o,g⟩
   .exact .inr g
  refine⟨[.fz (ns.map PV.int)],fun _=>none,fun v _=>v=.bl true,.cons (.fz hz (Xp ns)) .nil,(fun _ _ z=>nomatch z),⟨ns,rfl,U,fun _=>rfl⟩,?_⟩;rintro v H' t C' rfl r h' f';cases r
  rfl
end K24
open PySem PySem.W PyProof.Rows
namespace PySem.W.Fast
def Z:=trivial
def tw5596791430266256670:=Z
def tw2350030493471868508:=Z
def tw17299675711479091807:=Z
def tw1406320600028749133:=Z
def tw15506006639519422106:=Z
def tw17001059081828364652:=Z
def tw16974037700508129898:=Z
def tw8408819122998223399:=Z
def tw18405689918084924330:=Z
def tw16457508404410326607:=Z
def tw3962148085575363804:=Z
def tw5645854431245500792:=Z
def tw11778149533317369243:=Z
def tw3630900201914854929:=Z
def tw1419059761630311102:=Z
def tw16559827180011368088:=Z
def tw4134553381382272231:=Z
def tw7997966850378164905:=Z
def tw8783162277579162366:=Z
def tw14071463593752315124:=Z
def tw976141786007152679:=Z
def tw4660063403888601160:=Z
def tw11071870073378816438:=Z
def tw158398434465548657:=Z
def tw1287786278659036731:=Z
def tw6449376972049397314:=Z
def tw8449996568397864361:=Z
def tw3934382786373989925:=Z
def tw10113351807373875378:=Z
def tw7827895483617066520:=Z
def tw1892650134654988989:=Z
def tw16644640605917529217:=Z
def tw5804518795681332691:=Z
def tw10884351677097061892:=Z
def tw11834221235152621958:=Z
def tw11911693318716374701:=Z
def tw14995567717083216825:=Z
def tw10055910053570278476:=Z
def tw9716779533972941151:=Z
def tw2819592799916297359:=Z
def tw3901798609516943987:=Z
def tw15309650197374548707:=Z
def tw14152219597683234525:=Z
def tw10266249237203410996:=Z
def tw12957289108594870995:=Z
def tw2812151858932384840:=Z
def tw3037866093460369670:=Z
def tw1915436676670022125:=Z
def tw8330954855361866023:=Z
def tw16330223003855685181:=Z
def tw13592004410969149263:=Z
def tw2799841901660783751:=Z
def tw3562277279296593600:=Z
def tw13689421670676371854:=Z
def tw1505411927298046276:=Z
def tw3018946354025406986:=Z
def tw4082173310957726417:=Z
def tw14199876189061188065:=Z
def tw18104327597398861274:=Z
def tw15742105829613975087:=Z
def tw18199688958495538740:=Z
def tw2926398144836426437:=Z
def tw3843253332460229144:=Z
def tw12166340781022667797:=Z
def tw3190012144591127778:=Z
def tw17544527479384595713:=Z
def tw15131958950283308054:=Z
def tw4649601094534629542:=Z
def tw11078628462985980024:=Z
def tw3861130121589908997:=Z
def tw9255738846729378910:=Z
def tw7676117350656998830:=Z
def tw15525012718959664727:=Z
def tw17182349816885012434:=Z
def tw11794324725317491895:=Z
def tw17675277783059860583:=Z
def tw4709438397272646444:=Z
def tw4163403279525290094:=Z
def tw2287650613493285282:=Z
def tw5085447943042779082:=Z
def tw13159292600895926464:=Z
def tw17872598469051289145:=Z
def tw16073593999000916891:=Z
def tw3300301243850616963:=Z
def tw5069380315642851352:=Z
def tw16199314916545503100:=Z
def tw16158809305776379852:=Z
def tw12039596813114098623:=Z
def tw14559966650222075932:=Z
def tw9071121690614184814:=Z
def tw16943744084427090724:=Z
def tw5568500212358335750:=Z
def tw9253954412836907914:=Z
def tw3191577038881297594:=Z
def tw274276742777705503:=Z
def tw1242596655766343061:=Z
def tw8386974495693653786:=Z
def tw17671385121355636235:=Z
def tw16723467404474541110:=Z
def tw17107846209471830749:=Z
def tw316236678456488687:=Z
def tw3158069097273306124:=Z
def tw16896359961311045323:=Z
def tw18366551890232134694:=Z
def tw15442915403830811884:=Z
def tw11412719802727157808:=Z
def tw18407475584980543698:=Z
def tw16776722757445335327:=Z
def tw10722899741981175389:=Z
def tw4840084472152293779:=Z
def tw7929955775560137490:=Z
def tw1268751435184112954:=Z
def tw6742246270457147159:=Z
def tw4426770679979134474:=Z
def tw13590865116601240098:=Z
def tw2076677487396888291:=Z
def tw15420798375047546830:=Z
def tw13575418482493935405:=Z
def tw2523578090809153363:=Z
def tw11633038931670915258:=Z
def tw2151860769195316950:=Z
def tw9078805757009796599:=Z
def tw6901395385688594162:=Z
def tw10068140756261391593:=Z
def tw10322117138602357416:=Z
def tw10642263189906866760:=Z
def tw10846057241704628512:=Z
def tw11390191709197088209:=Z
def tw1146091379409699:=Z
def tw11675710907447690324:=Z
def tw11788054442733407010:=Z
def tw1193528531180399441:=Z
def tw1199931275260169231:=Z
def tw12213748479176588145:=Z
def tw12368259342724789795:=Z
def tw12581074169152080645:=Z
def tw12631328459332738940:=Z
def tw12653648925134672225:=Z
def tw13024036093473692062:=Z
def tw13323977539917324844:=Z
def tw13675705298761223399:=Z
def tw13766070906774820225:=Z
def tw14077859450101340609:=Z
def tw14993620404585952961:=Z
def tw15063301156357107354:=Z
def tw15428896022968588676:=Z
def tw15591153616256408255:=Z
def tw15661647775466106286:=Z
def tw16161423940470171549:=Z
def tw16167487486555868900:=Z
def tw16263124264023497277:=Z
def tw16614936086290945298:=Z
def tw1670284517139683694:=Z
def tw17371870056632020603:=Z
def tw17425263527221232689:=Z
def tw18021580625070235313:=Z
def tw18190439046276920255:=Z
def tw18270885993720613238:=Z
def tw2021343971127723638:=Z
def tw2127849192869503166:=Z
def tw2378872444561721119:=Z
def tw2432502009497439086:=Z
def tw2574635272062365136:=Z
def tw3067709604500715015:=Z
def tw3945227248860095024:=Z
def tw4110072020718022938:=Z
def tw4137656111270642134:=Z
def tw4647049345898413785:=Z
def tw4677192726784864935:=Z
def tw4832916790525669444:=Z
def tw5288829748763290896:=Z
def tw5808085048549865434:=Z
def tw6062505784612648370:=Z
def tw6154306263304133835:=Z
def tw6156281943653682513:=Z
def tw6276030810018048683:=Z
def tw6430246174036518185:=Z
def tw6751018476688176703:=Z
def tw7230402827836681593:=Z
def tw7905991811985569411:=Z
def tw7913536975189687649:=Z
def tw8174409474227222330:=Z
def tw853025177771809918:=Z
def tw8532850848766225143:=Z
def tw8556869819629733756:=Z
def tw8602182485399002944:=Z
def tw8997232944527762943:=Z
def tw9084295289734344092:=Z
def tw9522416891800109837:=Z
end PySem.W.Fast
set_option maxRecDepth 100000 in
set_option maxHeartbeats 0 in
theorem PySem.Challenge.cw_viewwood_k24_entries_let_by_holds : PySem.Challenge.rw_viewwood_k24_entries_let_by.Holds := by
 w_on;o_law;k_head;(case hw=>w_witness2)
 k_fill
 refine K24.walk (l:=PySem.Challenge.rw_viewwood_k24_entries_let_by) rfl rfl rfl (fun w h Y=>PySem.W.kIn_of Y) ?F
 case F =>
  intro w mg h KX G;refine K24.txt_mk KX G ?_ (by k_is) (by k_is) (by k_is) (by k_is) (by k_is) (by k_is) (by k_is) (by k_is) (by k_is) (by k_is) (by k_is) (by k_is) (by k_is) (by k_is) (by k_is) (by k_is) (by k_is) (by k_is) (by k_is) (by k_is) (by k_is) (by k_is) (by k_is) (by k_is) (by k_is) (by k_is) (by k_is) (by k_is) (by k_is) (by k_is) (by k_is) (by k_is) (by k_is) (by k_is) (by k_is) (by k_is) (by k_is) (by k_is) (by k_is)
  unfold K24.tab
  repeat first | refine⟨⟨_,_,_,_,_,_,_,_,_,_,by k_is,by k_is,by k_is,by k_is⟩,?_⟩ | refine⟨⟨_,_,_,_,_,_,_,_,_,_,_,by k_is,by k_is,by k_is,by k_is,by k_is,by k_is⟩,?_⟩
  exact trivial
